import PyProof.Rows.All
import Wide.All
import OpenK.AllK
import Wide.FinOn
import PySem.Challenge.RW_seer_k56_points_told_exactly
import PyProof.Rows.News
import PyProof.Rows.Nodes
import PyProof.Rows.Chain
import PyProof.Rows.TupSub
import PyProof.PureInt
import PyProof.Rules2
import PyProof.Rules3
import PyProof.Rows.Globals
import PyProof.Rows.RuleB_mod
import PyProof.Rows.RuleB_floordiv
import PyProof.Rows.RuleB_small
import PyProof.NoPylong
import PyProof.Rows.RuleB_pow
import PyProof.Rows.EqDataRows
import PyProof.Rows.StrTemp
import PyProof.Rows.TupAdd
import PyProof.Rows.ListMul
import PyProof.ListIndexNeg
import PyProof.SliceList
import PyProof.Methods
import PyProof.Rows.Tup
import PyProof.IsiPairs
import PyProof.IsiHeapPairs
import PyProof.IsiNone
import PyProof.Rows.RuleN_abs
import PyProof.Rows.SumAny
import PyProof.WalkInts
import PyProof.PvWalk
import PyProof.RulesRaise
import PyProof.Raises
import PyProof.Dict
import PyProof.Seq
import PyProof.Rows.ListAppend
import PyProof.ForAppend
import PyProof.ForAny
import PyProof.Walks
import PyProof.WalksT
import KE.KItem
import PyProof.WalksMore
import PyProof.RangeFor
import PyProof.Rows.Range3
import OpenK.KCell
import KE.KTree
import KE.RegLcTurns
import KE.KCompFold
import KE.KLcPair
import KE.LcTurns
import PyProof.CompUse
import PyProof.Rows.ZipGen
import OpenK.KLine
import KE.KState
import Wide.Well
import PyProof.ListCopy
import PyProof.Rows.TupleOfSeqD
import KE.LcSums
import KE.KCellOne
import PyProof.FitsBits
import KE.KEqDeep
import PyProof.Rows.TupMore
import PyProof.Rows.NestLooks
import PyProof.EnumMake
import PyProof.WalksEnum
import PyProof.Rows.SortWalk
import PyProof.DictStraight
import PyProof.EqAt
import PyProof.Rows.SeqMore2
import PyProof.ListRange
import PyProof.LongRange
import KE.KAnyBase
import PyProof.Rows.SeqSlice
set_option linter.all false
set_option maxRecDepth 100000
set_option maxHeartbeats 8000000
abbrev Zz0:=@Option.bind_eq_some_iff
abbrev Zz1:=@Option.map_eq_some_iff
abbrev Zz2:=@List.mem_cons_of_mem
abbrev Zz3:=@List.mem_append_right
abbrev Zz4:=@List.mem_append_left
abbrev Zz5:=@List.mem_cons_self
abbrev Zz6:=@List.getElem?_eq_some_iff
abbrev Zz7:=@List.mem_cons
abbrev Zz8:=@List.mem_append
abbrev Zz9:=@List.mem_singleton
abbrev Zz10:=@Nat.le_refl
abbrev Zz11:=@List.mem_map
set_option Elab.async false
set_option compiler.extract_closed false
section
/-! The plain machine: values as trees, lists as places; and how it stands for the model's heap. -/
namespace PM
open PySem PyProof.Rows
inductive V where
 | none
 | bool (b:Bool)
 | int (i:Int)
 | str (s:Str)
 | tup (vs:List V)
 | ref (a:Nat)
noncomputable abbrev Hp:=List (List V)
noncomputable abbrev Lc:=Nat→Option V
noncomputable def LEN: Nat:=100000
theorem Zbc: LEN=100000:=rfl
theorem Zdg{n:Nat}(h:n≤LEN): n≤sizeLine:=by
 have:sizeLine=2 ^ 24:=rfl
 rw[this];rw[Zbc]at h;omega
noncomputable abbrev ZfP(xs:List Value)(k:Nat): Obj:={ cls:=.type "tuple",data:=.seq xs.toArray k }
noncomputable abbrev ZbN(xs:List Value)(k:Nat): Obj:={ cls:=.type "list",data:=.seq xs.toArray k }
structure Wd where
 pi:List Addr
 tups:List (Addr×Obj)
 sc:Addr×Obj
structure Wd.Le(W W':Wd): Prop where
 pi:W.pi <+: W'.pi
 tups:∀q∈W.tups,q∈W'.tups
 sc:W'.sc=W.sc
theorem Wd.Le.refl(W:Wd): W.Le W:=⟨List.prefix_refl _,fun _ h=>h,rfl⟩
theorem Wd.Le.trans{W W' W'':Wd}(a:W.Le W')(b:W'.Le W''): W.Le W'':=⟨a.pi.trans b.pi,fun q h=>b.tups q (a.tups q h),b.sc.trans a.sc⟩
theorem Wd.Le.at{W W':Wd}(h:W.Le W'){i:Nat}{a:Addr}(e:W.pi[i]?=some a): W'.pi[i]?=some a:=by
 obtain⟨t,ht⟩:=h.pi
 have hi:i<W.pi.length:=(Zz6.mp e).1
 rw[←ht,List.getElem?_append_left hi]
 exact e
mutual
inductive VR(W:Wd): V→Value→Prop where
 | none:VR W .none .none
 | bool (b:Bool):VR W (.bool b) (.bool b)
 | int (i:Int) (t:Tok):VR W (.int i) (.int i t)
 | str (s:Str) (t:Tok):VR W (.str s) (.str s t)
 | tup {vs:List V} {a:Addr} {xs:List Value} {k:Nat}:(a,ZfP xs k)∈W.tups→vs.length≤LEN→VRs W vs xs→VR W (.tup vs) (.ref a)
 | ref {i:Nat} {a:Addr}:W.pi[i]?=some a→VR W (.ref i) (.ref a)
inductive VRs(W:Wd): List V→List Value→Prop where
 | nil:VRs W [] []
 | cons {v:V} {x:Value} {vs:List V} {xs:List Value}:VR W v x→VRs W vs xs→VRs W (v::vs) (x::xs)
end
mutual
theorem VR.mono{W W':Wd}(h:W.Le W'){v:V}{x:Value}(r:VR W v x): VR W' v x:=by
 cases r with
 | none=>exact .none
 | bool b=>exact .bool b
 | int i t=>exact .int i t
 | str s t=>exact .str s t
 | tup hm hl hs=>exact .tup (h.tups _ hm) hl (VRs.mono h hs)
 | ref e=>exact .ref (h.at e)
theorem VRs.mono{W W':Wd}(h:W.Le W'){vs:List V}{xs:List Value}(r:VRs W vs xs): VRs W' vs xs:=by
 cases r with
 | nil=>exact .nil
 | cons a b=>exact .cons (VR.mono h a) (VRs.mono h b)
end
theorem VRs.length{W:Wd}: ∀{vs:List V} {xs:List Value},VRs W vs xs→xs.length=vs.length
 | _,_,.nil=>rfl
 | _,_,.cons _ r=>by rw[List.length_cons,List.length_cons,r.length]
theorem VRs.at{W:Wd}: ∀{vs:List V} {xs:List Value} {i:Nat} {v:V},VRs W vs xs→vs[i]?=some v→∃x,xs[i]?=some x∧VR W v x
 | _,_,_,_,.nil,e=>by simp at e
 | _,_,0,_,.cons a _,e=>by
  simp at e
  exact⟨_,by simp,e▸a⟩
 | _,_,i+1,_,.cons _ r,e=>by
  simp at e
  obtain⟨x,hx,hr⟩:=r.at e
  exact⟨x,by simpa using hx,hr⟩
theorem VRs.append{W:Wd}: ∀{vs us:List V} {xs ys:List Value},VRs W vs xs→VRs W us ys→VRs W (vs++us) (xs++ys)
 | _,_,_,_,.nil,h=>h
 | _,_,_,_,.cons a r,h=>.cons a (r.append h)
theorem VRs.snoc{W:Wd}{vs:List V}{xs:List Value}{v:V}{x:Value}(h:VRs W vs xs)(r:VR W v x): VRs W (vs++[v]) (xs++[x]):=h.append (.cons r .nil)
theorem VRs.set{W:Wd}: ∀{vs:List V} {xs:List Value} {v:V} {x:Value} (i:Nat),VRs W vs xs→VR W v x→VRs W (vs.set i v) (xs.set i x)
 | _,_,_,_,_,.nil,_=>.nil
 | _,_,_,_,0,.cons _ r,h=>.cons h r
 | _,_,_,_,i+1,.cons a r,h=>.cons a (r.set i h)
theorem VRs.drop{W:Wd}: ∀{vs:List V} {xs:List Value} (i:Nat),VRs W vs xs→VRs W (vs.drop i) (xs.drop i)
 | _,_,0,h=>h
 | _,_,_+1,.nil=>.nil
 | _,_,i+1,.cons _ r=>r.drop i
structure HR(W:Wd)(H:Hp)(led:List (Addr×Obj)): Prop where
 len:W.pi.length=H.length
 nd:W.pi.Nodup
 lists:∀(i:Nat) (vs:List V),H[i]?=some vs→vs.length≤LEN∧∃a xs k,W.pi[i]?=some a∧(a,ZbN xs k)∈led∧VRs W vs xs
 tups:∀q∈W.tups,q∈led
 kind:∀q∈W.tups,∃xs k,q.2=ZfP xs k
theorem HR.mono{W:Wd}{H:Hp}{led led':List (Addr×Obj)}(R:HR W H led)(h:∀q∈led,q∈led'): HR W H led':=
 ⟨R.len,R.nd,fun i vs e=>by
  obtain⟨l,a,xs,k,h1,h2,h3⟩:=R.lists i vs e
  exact⟨l,a,xs,k,h1,h _ h2,h3⟩,fun q hq=>h q (R.tups q hq),R.kind⟩
structure Cx where
 A:Around
 env:Env
 h₀:Heap
 L:Addr
 hh:A.handled=none
 hu:A.units+200<cLine
 Own:Wd→Lc→(Str→Option Value)→List (Addr×Obj)→Prop
 mono:∀{W W':Wd} {ρ:Lc} {m:Str→Option Value} {c:List (Addr×Obj)},W.Le W'→Own W ρ m c→Own W' ρ m c
structure Rep'(Γ:Cx)(W:Wd)(ρ:Lc)(H:Hp)(fr:List (Addr×Obj))(h:Heap)(m:Str→Option Value)(cells led:List (Addr×Obj)): Prop where
 F:Fr Γ.h₀ Γ.L h m
 N:News Γ.h₀ Γ.L h led
 R:HR W H (W.sc::led)
 sc:Γ.h₀.get? W.sc.1=some W.sc.2
 sc0:W.pi[0]?=some W.sc.1
 frIn:∀q∈fr,q∈led
 frOff:∀q∈fr,q.1∉W.pi
 clIn:∀q∈cells,q∈led
 clOff:∀q∈cells,q.1∉W.pi
 apart:∀q∈cells,∀r∈fr,q.1≠r.1
 frTup:∀q∈fr,∀t∈W.tups,q.1≠t.1
 clTup:∀q∈cells,∀t∈W.tups,q.1≠t.1
 own:Γ.Own W ρ m cells
def Rep(Γ:Cx)(W:Wd)(ρ:Lc)(H:Hp)(fr:List (Addr×Obj))(h:Heap): Prop:=∃m cells led,Rep' Γ W ρ H fr h m cells led
theorem Rep.grown{Γ:Cx}{W:Wd}{ρ:Lc}{H:Hp}{fr:List (Addr×Obj)}{h h':Heap}(r:Rep Γ W ρ H fr h)(up:∀b o,h.get? b=some o→h'.get? b=some o): Rep Γ W ρ H fr h':=by
 obtain⟨m,c,led,r⟩:=r
 refine⟨m,c,led,⟨⟨?_,fun b o e=>up b o (r.F.keep b o e),r.F.above⟩,fun q hq=>⟨up _ _ (r.N q hq).1,(r.N q hq).2⟩,r.R,r.sc,r.sc0,r.frIn,r.frOff,r.clIn,r.clOff,r.apart,r.frTup,r.clTup,r.own⟩⟩
 obtain⟨o,es,ep,h1,h2⟩:=r.F.ns
 exact⟨o,es,ep,up _ _ h1,h2⟩
theorem Rep.push{Γ:Cx}{W:Wd}{ρ:Lc}{H:Hp}{fr:List (Addr×Obj)}{h:Heap}(r:Rep Γ W ρ H fr h)(o:Obj): Rep Γ W ρ H fr (h.push o):=r.grown fun _ _ e=>Heap.get?_push_of_some _ e
theorem ZeT{q s:Addr×Obj}{l l':List (Addr×Obj)}(h:q∈s::l)(m:q∈l→q∈l'): q∈s::l':=by
 rcases Zz7.mp h with e | h
 ·exact e▸List.mem_cons_self
 ·exact Zz2 _ (m h)
theorem ZgL{q s:Addr×Obj}{l l':List (Addr×Obj)}(h:q∈s::l)(m:∀x∈l,x∈l'): q∈s::l':=by
 rcases Zz7.mp h with e | h
 ·exact e▸List.mem_cons_self
 ·exact Zz2 _ (m q h)
theorem Rep'.get{Γ:Cx}{W:Wd}{ρ:Lc}{H:Hp}{fr:List (Addr×Obj)}{h:Heap}{m:Str→Option Value}{c led:List (Addr×Obj)}(r:Rep' Γ W ρ H fr h m c led){q:Addr×Obj}(hq:q∈W.sc::led): h.get? q.1=some q.2:=by
 rcases Zz7.mp hq with e | hq
 ·rw[e]
  exact r.F.keep _ _ r.sc
 ·exact(r.N q hq).1
theorem Rep'.off{Γ:Cx}{W:Wd}{ρ:Lc}{H:Hp}{fr:List (Addr×Obj)}{h:Heap}{m:Str→Option Value}{c led:List (Addr×Obj)}(r:Rep' Γ W ρ H fr h m c led): ∀q∈W.sc::led,q.1≠h.objs.size:=fun q hq=>Nat.ne_of_lt (Heap.lt_size (r.get hq))
theorem Rep'.same{Γ:Cx}{W:Wd}{ρ:Lc}{H:Hp}{fr:List (Addr×Obj)}{h h':Heap}{m:Str→Option Value}{c led:List (Addr×Obj)}(r:Rep' Γ W ρ H fr h m c led)(F':Fr Γ.h₀ Γ.L h' m)(N':News Γ.h₀ Γ.L h' led): Rep Γ W ρ H fr h':=
 ⟨m,c,led,F',N',r.R,r.sc,r.sc0,r.frIn,r.frOff,r.clIn,r.clOff,r.apart,r.frTup,r.clTup,r.own⟩
theorem Rep'.piIn{Γ:Cx}{W:Wd}{ρ:Lc}{H:Hp}{fr:List (Addr×Obj)}{h:Heap}{m:Str→Option Value}{c led:List (Addr×Obj)}(r:Rep' Γ W ρ H fr h m c led): ∀a∈W.pi,∃o,(a,o)∈W.sc::led:=by
 intro a ha
 obtain⟨i,hi,e⟩:=List.getElem_of_mem ha
 have hi':i<H.length:=r.R.len▸hi
 obtain⟨_,b,xs,k,h1,h2,_⟩:=r.R.lists i H[i] (List.getElem?_eq_getElem hi')
 have:b=a:=by rw[List.getElem?_eq_getElem hi,e]at h1;exact(Option.some.inj h1).symm
 exact⟨_,this▸h2⟩
theorem Rep'.inLed{Γ:Cx}{W:Wd}{ρ:Lc}{H:Hp}{fr:List (Addr×Obj)}{h:Heap}{m:Str→Option Value}{c led:List (Addr×Obj)}(r:Rep' Γ W ρ H fr h m c led){i:Nat}{a:Addr}{o:Obj}(hi:i≠0)(ea:W.pi[i]?=some a)(hm:(a,o)∈W.sc::led): (a,o)∈led:=by
 rcases Zz7.mp hm with e | hm
 ·have e1:a=W.sc.1:=congrArg (·.1) e
  have hl:i<W.pi.length:=(Zz6.mp ea).1
  have:i=0:=(List.getElem?_inj hl r.R.nd).mp (by rw[ea,r.sc0,e1])
  exact absurd this hi
 ·exact hm
theorem Rep'.notSc{Γ:Cx}{W:Wd}{ρ:Lc}{H:Hp}{fr:List (Addr×Obj)}{h:Heap}{m:Str→Option Value}{c led:List (Addr×Obj)}(r:Rep' Γ W ρ H fr h m c led): ∀q∈led,q.1≠W.sc.1:=fun q hq e=>by
 have:=(r.N q hq).2.2
 rw[e,r.sc]at this
 cases this
theorem Rep'.newTup{Γ:Cx}{W:Wd}{ρ:Lc}{H:Hp}{fr:List (Addr×Obj)}{h h':Heap}{m:Str→Option Value}{c led:List (Addr×Obj)}{vs:List V}{xs:List Value}{k:Nat}{n:Addr}(r:Rep' Γ W ρ H fr h m c led)(F':Fr Γ.h₀ Γ.L h' m)(N':News Γ.h₀ Γ.L h' ((n,ZfP xs k)::led))(hn:∀q∈W.sc::led,q.1≠n)(hv:VRs W vs xs)(hl:vs.length≤LEN):
  ∃W',W.Le W'∧Rep Γ W' ρ H fr h'∧VR W' (.tup vs) (.ref n):=by
 have le:W.Le ⟨W.pi,(n,ZfP xs k)::W.tups,W.sc⟩:=⟨List.prefix_refl _,fun q hq=>List.mem_cons_of_mem _ hq,rfl⟩
 refine⟨⟨W.pi,(n,ZfP xs k)::W.tups,W.sc⟩,le,⟨m,c,(n,ZfP xs k)::led,⟨F',N',?_,r.sc,r.sc0,fun q hq=>List.mem_cons_of_mem _ (r.frIn q hq),r.frOff,fun q hq=>List.mem_cons_of_mem _ (r.clIn q hq),r.clOff,r.apart,fun q hq t ht=>?_,fun q hq t ht=>?_,Γ.mono le r.own⟩⟩,.tup Zz5 hl (hv.mono le)⟩
 ·refine⟨r.R.len,r.R.nd,fun i us e=>?_,fun q hq=>?_,fun q hq=>?_⟩
  ·obtain⟨l,a,ys,j,h1,h2,h3⟩:=r.R.lists i us e
   exact⟨l,a,ys,j,h1,ZgL h2 fun x hx=>List.mem_cons_of_mem _ hx,h3.mono le⟩
  ·rcases Zz7.mp hq with e | hq
   ·exact e▸List.mem_cons_of_mem _ Zz5
   ·exact ZgL (r.R.tups q hq) fun x hx=>List.mem_cons_of_mem _ hx
  ·rcases Zz7.mp hq with e | hq
   ·exact⟨xs,k,by rw[e]⟩
   ·exact r.R.kind q hq
 ·rcases Zz7.mp ht with e | ht
  ·rw[e]
   exact hn q (Zz2 _ (r.frIn q hq))
  ·exact r.frTup q hq t ht
 ·rcases Zz7.mp ht with e | ht
  ·rw[e]
   exact hn q (Zz2 _ (r.clIn q hq))
  ·exact r.clTup q hq t ht
theorem Rep.tuple{Γ:Cx}{W:Wd}{ρ:Lc}{H:Hp}{fr:List (Addr×Obj)}{h:Heap}{vs:List V}{xs:List Value}{k:Nat}(r:Rep Γ W ρ H fr h)(hv:VRs W vs xs)(hl:vs.length≤LEN):
  ∃W',W.Le W'∧Rep Γ W' ρ H fr (h.push (ZfP xs k))∧VR W' (.tup vs) (.ref h.objs.size):=by
 obtain⟨m,c,led,r⟩:=r
 exact r.newTup (r.F.push _) (News.push r.F r.N _) r.off hv hl
theorem Rep'.newList{Γ:Cx}{W:Wd}{ρ:Lc}{H:Hp}{fr:List (Addr×Obj)}{h h':Heap}{m:Str→Option Value}{c led:List (Addr×Obj)}{vs:List V}{xs:List Value}{k:Nat}{n:Addr}(r:Rep' Γ W ρ H fr h m c led)(F':Fr Γ.h₀ Γ.L h' m)(N':News Γ.h₀ Γ.L h' ((n,ZbN xs k)::led))(hn:∀q∈W.sc::led,q.1≠n)(hv:VRs W vs xs)(hl:vs.length≤LEN):
  ∃W',W.Le W'∧Rep Γ W' ρ (H++[vs]) fr h'∧VR W' (.ref H.length) (.ref n):=by
 have le:W.Le ⟨W.pi++[n],W.tups,W.sc⟩:=⟨List.prefix_append _ _,fun q hq=>hq,rfl⟩
 have h0:0<W.pi.length:=(Zz6.mp r.sc0).1
 have at_n:(W.pi++[n])[H.length]?=some n:=by rw[←r.R.len];simp
 refine⟨⟨W.pi++[n],W.tups,W.sc⟩,le,⟨m,c,(n,ZbN xs k)::led,⟨F',N',?_,r.sc,(List.getElem?_append_left h0).trans r.sc0,fun q hq=>List.mem_cons_of_mem _ (r.frIn q hq),fun q hq=>?_,fun q hq=>List.mem_cons_of_mem _ (r.clIn q hq),fun q hq=>?_,r.apart,r.frTup,r.clTup,Γ.mono le r.own⟩⟩,.ref at_n⟩
 ·refine⟨by simp[r.R.len],?_,fun i us e=>?_,fun q hq=>ZgL (r.R.tups q hq) fun x hx=>List.mem_cons_of_mem _ hx,r.R.kind⟩
  ·show(W.pi++[n]).Nodup
   rw[List.nodup_append]
   refine⟨r.R.nd,by simp,fun a ha b hb=>?_⟩
   rw[List.mem_singleton.mp hb]
   obtain⟨o,ho⟩:=r.piIn a ha
   exact hn _ ho
  ·by_cases hi:i<H.length
   ·rw[List.getElem?_append_left hi]at e
    obtain⟨l,a,ys,j,h1,h2,h3⟩:=r.R.lists i us e
    exact⟨l,a,ys,j,le.at h1,ZgL h2 fun x hx=>List.mem_cons_of_mem _ hx,h3.mono le⟩
   ·have:i=H.length:=by
     have:=(Zz6.mp e).1
     simp at this
     omega
    subst this
    simp at e
    subst e
    exact⟨hl,n,xs,k,at_n,List.mem_cons_of_mem _ Zz5,hv.mono le⟩
 ·intro hm
  rcases Zz8.mp hm with hm | hm
  ·exact r.frOff q hq hm
  ·exact hn q (Zz2 _ (r.frIn q hq)) (Zz9.mp hm)
 ·intro hm
  rcases Zz8.mp hm with hm | hm
  ·exact r.clOff q hq hm
  ·exact hn q (Zz2 _ (r.clIn q hq)) (Zz9.mp hm)
theorem Rep.list{Γ:Cx}{W:Wd}{ρ:Lc}{H:Hp}{fr:List (Addr×Obj)}{h:Heap}{vs:List V}{xs:List Value}{k:Nat}(r:Rep Γ W ρ H fr h)(hv:VRs W vs xs)(hl:vs.length≤LEN):
  ∃W',W.Le W'∧Rep Γ W' ρ (H++[vs]) fr (h.push (ZbN xs k))∧VR W' (.ref H.length) (.ref h.objs.size):=by
 obtain⟨m,c,led,r⟩:=r
 exact r.newList (r.F.push _) (News.push r.F r.N _) r.off hv hl
theorem Rep.at{Γ:Cx}{W:Wd}{ρ:Lc}{H:Hp}{fr:List (Addr×Obj)}{h:Heap}{i:Nat}{a:Addr}{vs:List V}(r:Rep Γ W ρ H fr h)(e:H[i]?=some vs)(ea:W.pi[i]?=some a): vs.length≤LEN∧∃xs k,h.get? a=some (ZbN xs k)∧VRs W vs xs:=by
 obtain⟨m,c,led,r⟩:=r
 obtain⟨l,b,xs,k,h1,h2,h3⟩:=r.R.lists i vs e
 rw[ea]at h1
 cases h1
 exact⟨l,xs,k,r.get h2,h3⟩
theorem Rep.tupAt{Γ:Cx}{W:Wd}{ρ:Lc}{H:Hp}{fr:List (Addr×Obj)}{h:Heap}{q:Addr×Obj}(r:Rep Γ W ρ H fr h)(e:q∈W.tups): h.get? q.1=some q.2:=by
 obtain⟨m,c,led,r⟩:=r
 exact r.get (r.R.tups _ e)
theorem Rep'.changed{Γ:Cx}{W:Wd}{ρ:Lc}{H:Hp}{fr:List (Addr×Obj)}{h h':Heap}{m:Str→Option Value}{c led:List (Addr×Obj)}{i:Nat}{a:Addr}{vs us:List V}{ys:List Value}{k:Nat}(r:Rep' Γ W ρ H fr h m c led)(i0:i≠0)(e:H[i]?=some vs)(ea:W.pi[i]?=some a)(F':Fr Γ.h₀ Γ.L h' m)(N':News Γ.h₀ Γ.L h' ((a,ZbN ys k)::led.filter (fun q=>decide (q.1≠a))))(hv:VRs W us ys)(hl:us.length≤LEN):
  Rep Γ W ρ (H.set i us) fr h':=by
 obtain⟨_,b,xs,j,h1,h2,h3⟩:=r.R.lists i vs e
 rw[ea]at h1
 cases h1
 have h2:=r.inLed i0 ea h2
 have hN:=r.N _ h2
 have hm:a∈W.pi:=List.mem_of_getElem? ea
 have hi:i<H.length:=(Zz6.mp e).1
 refine⟨m,c,(a,ZbN ys k)::led.filter (fun q=>decide (q.1≠a)),⟨F',N',?_,r.sc,r.sc0,fun q hq=>?_,r.frOff,fun q hq=>?_,r.clOff,r.apart,r.frTup,r.clTup,r.own⟩⟩
 ·refine⟨by simp[r.R.len],r.R.nd,fun n ws en=>?_,fun q hq=>?_,r.R.kind⟩
  ·by_cases hn:n=i
   ·subst hn
    rw[List.getElem?_set_self hi]at en
    cases en
    exact⟨hl,a,ys,k,ea,List.mem_cons_of_mem _ Zz5,hv⟩
   ·rw[List.getElem?_set_ne (Ne.symm hn)]at en
    obtain⟨l,d,zs,j',g1,g2,g3⟩:=r.R.lists n ws en
    refine⟨l,d,zs,j',g1,ZeT g2 fun g2=>List.mem_cons_of_mem _ (List.mem_filter.mpr ⟨g2,?_⟩),g3⟩
    have:d≠a:=fun e=>by
     subst e
     exact hn ((List.getElem?_inj (Zz6.mp g1).1 r.R.nd).mp (g1.trans ea.symm))
    simpa using this
  ·refine ZeT (r.R.tups q hq) fun g2=>List.mem_cons_of_mem _ (List.mem_filter.mpr ⟨g2,?_⟩)
   have:q.1≠a:=fun e=>by
    obtain⟨zs,j',hk⟩:=r.R.kind q hq
    have g:=r.get (r.R.tups q hq)
    rw[e,hN.1,hk]at g
    have c:=congrArg Obj.cls (Option.some.inj g)
    exact absurd c (by simp)
   simpa using this
 ·refine Zz2 _ (List.mem_filter.mpr ⟨r.frIn q hq,?_⟩)
  have:q.1≠a:=fun e=>r.frOff q hq (e▸hm)
  simpa using this
 ·refine Zz2 _ (List.mem_filter.mpr ⟨r.clIn q hq,?_⟩)
  have:q.1≠a:=fun e=>r.clOff q hq (e▸hm)
  simpa using this
theorem Rep.change{Γ:Cx}{W:Wd}{ρ:Lc}{H:Hp}{fr:List (Addr×Obj)}{h h':Heap}{i:Nat}{a:Addr}{vs us:List V}{ys:List Value}{k:Nat}(r:Rep Γ W ρ H fr h)(i0:i≠0)(e:H[i]?=some vs)(ea:W.pi[i]?=some a)(sb:Heap.SameBut a h h')(ha:h'.get? a=some (ZbN ys k))(hv:VRs W us ys)(hl:us.length≤LEN):
  Rep Γ W ρ (H.set i us) fr h':=by
 obtain⟨m,c,led,r⟩:=r
 obtain⟨_,b,xs,j,h1,h2,h3⟩:=r.R.lists i vs e
 rw[ea]at h1
 cases h1
 have h2:=r.inLed i0 ea h2
 have hN:=r.N _ h2
 have keep:∀q∈led,q.1≠a→h'.get? q.1=some q.2:=fun q hq hn=>sb.extBut _ _ hn (r.N q hq).1
 refine r.changed (k:=k) i0 e ea ⟨r.F.ns.sameBut sb (Ne.symm hN.2.1),fun b o eb=>sb.extBut b o (fun q=>?_) (r.F.keep b o eb),r.F.above⟩ (fun q hq=>?_) hv hl
 ·subst q
  rw[hN.2.2]at eb
  cases eb
 ·rcases Zz7.mp hq with e | hq
  ·subst e
   exact⟨ha,hN.2⟩
  ·obtain⟨h1,h2⟩:=List.mem_filter.mp hq
   exact⟨keep q h1 (by simpa using h2),(r.N q h1).2⟩
theorem Rep.swap{Γ:Cx}{W:Wd}{ρ:Lc}{H:Hp}{fs fs' fr:List (Addr×Obj)}{h h':Heap}(r:Rep Γ W ρ H (fs++fr) h)(ap:∀q∈fs,∀t∈fr,q.1≠t.1)(keep:∀b o,b∉fs.map (·.1)→h.get? b=some o→h'.get? b=some o)(new:∀q∈fs',h'.get? q.1=some q.2∧q.1∈fs.map (·.1)): Rep Γ W ρ H (fs'++fr) h':=by
 obtain⟨m,c,led,r⟩:=r
 have inF:∀q∈fs,q∈fs++fr:=fun q hq=>List.mem_append_left _ hq
 have nL:∀a∈fs.map (·.1),a≠Γ.L∧Γ.h₀.get? a=none:=fun a ha=>by
  obtain⟨q,hq,e⟩:=Zz11.mp ha
  exact e▸(r.N q (r.frIn q (inF q hq))).2
 have kp:∀q∈led,q.1∉fs.map (·.1)→h'.get? q.1=some q.2:=fun q hq hn=>keep _ _ hn (r.N q hq).1
 refine⟨m,c,fs'++led.filter (fun q=>decide (q.1∉fs.map (·.1))),⟨⟨?_,fun b o e=>?_,r.F.above⟩,fun q hq=>?_,⟨r.R.len,r.R.nd,fun i vs e=>?_,fun q hq=>?_,r.R.kind⟩,r.sc,r.sc0,fun q hq=>?_,fun q hq=>?_,fun q hq=>?_,r.clOff,fun q hq t ht=>?_,fun q hq t ht=>?_,r.clTup,r.own⟩⟩
 ·obtain⟨o,es,ep,h1,h2⟩:=r.F.ns
  exact⟨o,es,ep,keep _ _ (fun q=>(nL _ q).1 rfl) h1,h2⟩
 ·refine keep b o (fun q=>?_) (r.F.keep b o e)
  rw[(nL b q).2]at e
  cases e
 ·rcases Zz8.mp hq with hq | hq
  ·obtain⟨h1,h2⟩:=new q hq
   exact⟨h1,nL _ h2⟩
  ·obtain⟨h1,h2⟩:=List.mem_filter.mp hq
   exact⟨kp q h1 (by simpa using h2),(r.N q h1).2⟩
 ·obtain⟨l,a,xs,k,h1,h2,h3⟩:=r.R.lists i vs e
  refine⟨l,a,xs,k,h1,ZeT h2 fun h2=>List.mem_append_right _ (List.mem_filter.mpr ⟨h2,?_⟩),h3⟩
  have:a∉fs.map (·.1):=fun q=>by
   obtain⟨t,ht,e⟩:=Zz11.mp q
   exact r.frOff t (inF t ht) (e▸List.mem_of_getElem? h1)
  simpa using this
 ·refine ZeT (r.R.tups q hq) fun h2=>List.mem_append_right _ (List.mem_filter.mpr ⟨h2,?_⟩)
  have:q.1∉fs.map (·.1):=fun z=>by
   obtain⟨t,ht,e⟩:=Zz11.mp z
   exact r.frTup t (inF t ht) q hq e
  simpa using this
 ·rcases Zz8.mp hq with hq | hq
  ·exact Zz4 _ hq
  ·refine Zz3 _ (List.mem_filter.mpr ⟨r.frIn q (Zz3 _ hq),?_⟩)
   have:q.1∉fs.map (·.1):=fun z=>by
    obtain⟨t,ht,e⟩:=Zz11.mp z
    exact ap t ht q hq e
   simpa using this
 ·rcases Zz8.mp hq with hq | hq
  ·obtain⟨t,ht,e⟩:=Zz11.mp (new q hq).2
   exact e▸r.frOff t (inF t ht)
  ·exact r.frOff q (Zz3 _ hq)
 ·refine Zz3 _ (List.mem_filter.mpr ⟨r.clIn q hq,?_⟩)
  have:q.1∉fs.map (·.1):=fun z=>by
   obtain⟨t,ht,e⟩:=Zz11.mp z
   exact r.apart q hq t (inF t ht) e.symm
  simpa using this
 ·rcases Zz8.mp ht with ht | ht
  ·obtain⟨u,hu,e⟩:=Zz11.mp (new t ht).2
   exact e▸r.apart q hq u (inF u hu)
  ·exact r.apart q hq t (Zz3 _ ht)
 ·rcases Zz8.mp hq with hq | hq
  ·obtain⟨u,hu,e⟩:=Zz11.mp (new q hq).2
   exact e▸r.frTup u (inF u hu) t ht
  ·exact r.frTup q (Zz3 _ hq) t ht
theorem Rep.more{Γ:Cx}{W:Wd}{ρ:Lc}{H:Hp}{fs fr:List (Addr×Obj)}{h h':Heap}(r:Rep Γ W ρ H fr h)(up:∀b o,h.get? b=some o→h'.get? b=some o)(new:∀q∈fs,h'.get? q.1=some q.2∧h.objs.size≤q.1): Rep Γ W ρ H (fs++fr) h'∧∀q∈fs,∀t∈fr,q.1≠t.1:=by
 have r':=r.grown up
 obtain⟨m,c,led,r⟩:=r
 have lt:∀q∈W.sc::led,q.1<h.objs.size:=fun q hq=>Heap.lt_size (r.get hq)
 have ne:∀q∈fs,∀t∈W.sc::led,q.1≠t.1:=fun q hq t ht=>Nat.ne_of_gt (Nat.lt_of_lt_of_le (lt t ht) (new q hq).2)
 refine⟨⟨m,c,fs++led,⟨⟨?_,fun b o e=>up b o (r.F.keep b o e),r.F.above⟩,fun q hq=>?_,r.R.mono fun q hq=>ZgL hq fun x hx=>List.mem_append_right _ hx,r.sc,r.sc0,fun q hq=>?_,fun q hq=>?_,fun q hq=>List.mem_append_right _ (r.clIn q hq),r.clOff,fun q hq t ht=>?_,fun q hq t ht=>?_,r.clTup,r.own⟩⟩,fun q hq t ht=>ne q hq t (Zz2 _ (r.frIn t ht))⟩
 ·obtain⟨o,es,ep,h1,h2⟩:=r.F.ns
  exact⟨o,es,ep,up _ _ h1,h2⟩
 ·rcases Zz8.mp hq with hq | hq
  ·obtain⟨h1,h2⟩:=new q hq
   refine⟨h1,fun e=>?_,?_⟩
   ·exact absurd (e▸r.F.ns.lt) (Nat.not_lt.mpr h2)
   ·cases e:Γ.h₀.get? q.1 with
    | none=>rfl
    | some o=>exact absurd (Heap.lt_size (r.F.keep _ _ e)) (Nat.not_lt.mpr h2)
  ·exact⟨up _ _ (r.N q hq).1,(r.N q hq).2⟩
 ·rcases Zz8.mp hq with hq | hq
  ·exact Zz4 _ hq
  ·exact Zz3 _ (r.frIn q hq)
 ·rcases Zz8.mp hq with hq | hq
  ·intro hm
   obtain⟨o,ho⟩:=r.piIn _ hm
   exact ne q hq _ ho rfl
  ·exact r.frOff q hq
 ·rcases Zz8.mp ht with ht | ht
  ·exact(ne t ht q (Zz2 _ (r.clIn q hq))).symm
  ·exact r.apart q hq t ht
 ·rcases Zz8.mp hq with hq | hq
  ·exact ne q hq t (r.R.tups t ht)
  ·exact r.frTup q hq t ht
theorem Rep.less{Γ:Cx}{W:Wd}{ρ:Lc}{H:Hp}{fs fr:List (Addr×Obj)}{h:Heap}(r:Rep Γ W ρ H fs h)(sub:∀q∈fr,q∈fs): Rep Γ W ρ H fr h:=by
 obtain⟨m,c,led,r⟩:=r
 exact⟨m,c,led,⟨r.F,r.N,r.R,r.sc,r.sc0,fun q hq=>r.frIn q (sub q hq),fun q hq=>r.frOff q (sub q hq),r.clIn,r.clOff,fun q hq t ht=>r.apart q hq t (sub t ht),fun q hq=>r.frTup q (sub q hq),r.clTup,r.own⟩⟩
theorem Rep.frAt{Γ:Cx}{W:Wd}{ρ:Lc}{H:Hp}{fr:List (Addr×Obj)}{h:Heap}{q:Addr×Obj}(r:Rep Γ W ρ H fr h)(hq:q∈fr): h.get? q.1=some q.2:=by
 obtain⟨m,c,led,r⟩:=r
 exact(r.N q (r.frIn q hq)).1
end PM
end
section
namespace PM
open PySem PyProof.Rows PyProof
noncomputable abbrev Ex:=Lc→Hp→Option (V×Hp)
noncomputable abbrev Exs:=Lc→Hp→Option (List V×Hp)
noncomputable abbrev Ts:=Lc→Hp→Option (Bool×Hp)
noncomputable abbrev Zig(Γ:Cx)(W:Wd)(ρ:Lc)(H:Hp)(fr:List (Addr×Obj))(s:Shared)(Q:Value→Shared→Prop)(v:V): Prop:=
 ∀(W':Wd) (h':Heap) (tk':Nat) (x:Value),W.Le W'→Rep Γ W' ρ H fr h'→VR W' v x→Q x { s with heap:=h',toks:=tk' }
noncomputable abbrev Zkv(Γ:Cx)(W:Wd)(ρ:Lc)(H:Hp)(fr:List (Addr×Obj))(s:Shared)(Q:Bool→Shared→Prop)(b:Bool): Prop:=
 ∀(W':Wd) (h':Heap) (tk':Nat),W.Le W'→Rep Γ W' ρ H fr h'→Q b { s with heap:=h',toks:=tk' }
section
variable (prog:Program) (w:World)
def J(Γ:Cx)(e:Expr)(f:Ex): Prop:=∀(W:Wd) (ρ:Lc) (H:Hp) (fr:List (Addr×Obj)) (s:Shared) (Q E:Value→Shared→Prop) (v:V) (H':Hp),
 Rep Γ W ρ H fr s.heap→f ρ H=some (v,H')→Zig Γ W ρ H' fr s Q v→wpAny (model prog w) Γ.A (eval e Γ.env) Q E s
def Js(Γ:Cx)(es:List Expr)(f:Exs): Prop:=∀(pos:Pos) (W:Wd) (ρ:Lc) (H:Hp) (fr:List (Addr×Obj)) (s:Shared) (Q:List Value→Shared→Prop) (E:Value→Shared→Prop) (vs:List V) (H':Hp),
 Rep Γ W ρ H fr s.heap→f ρ H=some (vs,H')→(∀(W':Wd) (h':Heap) (tk':Nat) (xs:List Value),W.Le W'→Rep Γ W' ρ H' fr h'→VRs W' vs xs→Q xs { s with heap:=h',toks:=tk' })→wpAny (model prog w) Γ.A (spliced (backTo pos (starEach es Γ.env))) Q E s
def JT(Γ:Cx)(e:Expr)(f:Ts): Prop:=∀(W:Wd) (ρ:Lc) (H:Hp) (fr:List (Addr×Obj)) (s:Shared) (Q:Bool→Shared→Prop) (E:Value→Shared→Prop) (b:Bool) (H':Hp),
 Rep Γ W ρ H fr s.heap→f ρ H=some (b,H')→Zkv Γ W ρ H' fr s Q b→wpAny (model prog w) Γ.A (isTrue e Γ.env (eval e Γ.env)) Q E s
def Op2(m:Value→Value→Sem Value)(o:V→V→Hp→Option (V×Hp)): Prop:=∀(Γ:Cx) (W:Wd) (ρ:Lc) (H:Hp) (fr:List (Addr×Obj)) (s:Shared) (Q E:Value→Shared→Prop) (a b:V) (x y:Value) (v:V) (H':Hp),
 Rep Γ W ρ H fr s.heap→VR W a x→VR W b y→o a b H=some (v,H')→Zig Γ W ρ H' fr s Q v→wpAny (model prog w) Γ.A (m x y) Q E s
def Op1(m:Value→Sem Value)(o:V→Hp→Option (V×Hp)): Prop:=∀(Γ:Cx) (W:Wd) (ρ:Lc) (H:Hp) (fr:List (Addr×Obj)) (s:Shared) (Q E:Value→Shared→Prop) (a:V) (x:Value) (v:V) (H':Hp),
 Rep Γ W ρ H fr s.heap→VR W a x→o a H=some (v,H')→Zig Γ W ρ H' fr s Q v→wpAny (model prog w) Γ.A (m x) Q E s
def OpT(m:Value→Sem Bool)(o:V→Hp→Option Bool): Prop:=∀(Γ:Cx) (W:Wd) (ρ:Lc) (H:Hp) (fr:List (Addr×Obj)) (s:Shared) (Q:Bool→Shared→Prop) (E:Value→Shared→Prop) (a:V) (x:Value) (b:Bool),
 Rep Γ W ρ H fr s.heap→VR W a x→o a H=some b→Zkv Γ W ρ H fr s Q b→wpAny (model prog w) Γ.A (m x) Q E s
end
noncomputable def Zk(k:Int): Ex:=fun _ H=>some (.int k,H)
noncomputable def Zaa: Ex:=fun _ H=>some (.none,H)
noncomputable def ZbF(b:Bool): Ex:=fun _ H=>some (.bool b,H)
noncomputable def Zbe(x:Str): Ex:=fun _ H=>some (.str x,H)
noncomputable def Za(i:Nat): Ex:=fun ρ H=>(ρ i).map fun v=>(v,H)
noncomputable def Zg(o:V→V→Hp→Option (V×Hp))(f g:Ex): Ex:=fun ρ H=>(f ρ H).bind fun p=>(g ρ p.2).bind fun q=>o p.1 q.1 q.2
noncomputable def eUn(o:V→Hp→Option (V×Hp))(f:Ex): Ex:=fun ρ H=>(f ρ H).bind fun p=>o p.1 p.2
noncomputable def eIf(t:Ts)(f g:Ex): Ex:=fun ρ H=>(t ρ H).bind fun p=>if p.1 then f ρ p.2 else g ρ p.2
noncomputable def Zn: Exs:=fun _ H=>some ([],H)
noncomputable def Zd(f:Ex)(g:Exs): Exs:=fun ρ H=>(f ρ H).bind fun p=>(g ρ p.2).bind fun q=>some (p.1::q.1,q.2)
noncomputable def Zak(g:Exs): Ex:=fun ρ H=>(g ρ H).bind fun p=>if p.1.length≤LEN then some (.tup p.1,p.2)else none
noncomputable def Za0(g:Exs): Ex:=fun ρ H=>(g ρ H).bind fun p=>if p.1.length≤LEN then some (.ref p.2.length,p.2++[p.1])else none
noncomputable def ZcR: V→Hp→Option Bool
 | .bool b,_=>some b
 | .int i,_=>some (i != 0)
 | .none,_=>some false
 | _,_=>none
noncomputable def ZK(f:Ex): Ts:=fun ρ H=>(f ρ H).bind fun p=>(ZcR p.1 p.2).map fun b=>(b,p.2)
noncomputable def ZbX(t:Ts): Ts:=fun ρ H=>(t ρ H).map fun p=>(!p.1,p.2)
noncomputable def Zaw: Ts:=fun _ H=>some (true,H)
noncomputable def Zck: Ts:=fun _ H=>some (false,H)
noncomputable def ZbO(t u:Ts): Ts:=fun ρ H=>(t ρ H).bind fun p=>if p.1 then u ρ p.2 else some (false,p.2)
noncomputable def tOr(t u:Ts): Ts:=fun ρ H=>(t ρ H).bind fun p=>if p.1 then some (true,p.2)else u ρ p.2
noncomputable def ZkH(f:Ex): Ex:=fun ρ H=>(f ρ H).bind fun p=>(ZcR p.1 p.2).map fun b=>(.bool (!b),p.2)
noncomputable def Zda(f g:Ex): Ex:=fun ρ H=>(f ρ H).bind fun p=>(ZcR p.1 p.2).bind fun b=>if b then g ρ p.2 else some p
noncomputable def eOr(f g:Ex): Ex:=fun ρ H=>(f ρ H).bind fun p=>(ZcR p.1 p.2).bind fun b=>if b then some p else g ρ p.2
section
variable {prog:Program} {w:World} {Γ:Cx}
theorem J.int(k:Int)(n:Nat)(pos:Pos): J prog w Γ (.Constant (.int k) n pos) (Zk k):=fun W ρ H fr s Q E v H' r e post=>by
 cases e
 exact wpAny_Constant_int (post W s.heap _ _ (.refl W) r (.int k _))
theorem J.none(n:Nat)(pos:Pos): J prog w Γ (.Constant .none n pos) Zaa:=fun W ρ H fr s Q E v H' r e post=>by
 cases e
 exact wpAny_Constant_none (post W s.heap s.toks _ (.refl W) r .none)
theorem J.bool(b:Bool)(n:Nat)(pos:Pos): J prog w Γ (.Constant (.bool b) n pos) (ZbF b):=fun W ρ H fr s Q E v H' r e post=>by
 cases e
 exact wpAny_Constant_bool (post W s.heap s.toks _ (.refl W) r (.bool b))
theorem J.str(x:Str)(n:Nat)(pos:Pos): J prog w Γ (.Constant (.str x) n pos) (Zbe x):=fun W ρ H fr s Q E v H' r e post=>by
 cases e
 exact wpAny_Constant_str (post W s.heap _ _ (.refl W) r (.str x _))
theorem ZI{e1 e2:Expr}{op:Operator}{pos:Pos}{f g:Ex}{o:V→V→Hp→Option (V×Hp)}(h1:J prog w Γ e1 f)(h2:J prog w Γ e2 g)(ho:Op2 prog w (binaryOp op) o): J prog w Γ (.BinOp e1 op e2 pos) (Zg o f g):=by
 intro W ρ H fr s Q E v H' r hf post
 obtain⟨p,e1,hf⟩:=Zz0.mp hf
 obtain⟨q,e2,e3⟩:=Zz0.mp hf
 refine wpAny_BinOp (h1 W ρ H fr s _ E _ _ r e1 fun W1 k1 t1 x l1 r1 x1=>?_)
 refine h2 W1 ρ _ fr _ _ E _ _ r1 e2 fun W2 k2 t2 y l2 r2 y2=>?_
 exact ho Γ W2 ρ _ fr _ Q E _ _ x y v H' r2 (x1.mono l2) y2 e3 fun W3 k3 t3 z l3 r3 z3=>post W3 k3 t3 z ((l1.trans l2).trans l3) r3 z3
theorem Zb5{e1 e2:Expr}{op:CmpOp}{pos:Pos}{f g:Ex}{o:V→V→Hp→Option (V×Hp)}(h1:J prog w Γ e1 f)(h2:J prog w Γ e2 g)(ho:Op2 prog w (compareOp op) o)(hm:behindInMarks op e2=false:=by with_unfolding_all rfl): J prog w Γ (.Compare e1 [op] [e2] pos) (Zg o f g):=by
 intro W ρ H fr s Q E v H' r hf post
 obtain⟨p,e1,hf⟩:=Zz0.mp hf
 obtain⟨q,e2,e3⟩:=Zz0.mp hf
 refine wpAny_Compare1 (h1 W ρ H fr s _ E _ _ r e1 fun W1 k1 t1 x l1 r1 x1=>?_) hm
 refine h2 W1 ρ _ fr _ _ E _ _ r1 e2 fun W2 k2 t2 y l2 r2 y2=>?_
 exact ho Γ W2 ρ _ fr _ Q E _ _ x y v H' r2 (x1.mono l2) y2 e3 fun W3 k3 t3 z l3 r3 z3=>post W3 k3 t3 z ((l1.trans l2).trans l3) r3 z3
theorem Zct{e1:Expr}{op:UnaryOp}{pos:Pos}{f:Ex}{o:V→Hp→Option (V×Hp)}(h1:J prog w Γ e1 f)(ho:Op1 prog w (unaryOp op) o): J prog w Γ (.UnaryOp op e1 pos) (eUn o f):=by
 intro W ρ H fr s Q E v H' r hf post
 obtain⟨p,e1,hf⟩:=Zz0.mp hf
 refine wpAny_UnaryOp (h1 W ρ H fr s _ E _ _ r e1 fun W1 k1 t1 x l1 r1 x1=>?_)
 exact ho Γ W1 ρ _ fr _ Q E _ x v H' r1 x1 hf fun W3 k3 t3 z l3 r3 z3=>post W3 k3 t3 z (l1.trans l3) r3 z3
theorem truth: OpT prog w truthy ZcR:=by
 intro Γ W ρ H fr s Q E a x b r hx ho post
 cases hx with
 | none=>cases ho;exact truthy_none (post W s.heap s.toks (.refl W) r)
 | bool c=>cases ho;exact fun _ _ _=>post W s.heap s.toks (.refl W) r
 | int i t=>cases ho;exact P.truthy_int (post W s.heap s.toks (.refl W) r)
 | str _ _=>cases ho
 | tup _ _ _=>cases ho
 | ref _=>cases ho
theorem ZAC{e1:Expr}{pos:Pos}{f:Ex}(h1:J prog w Γ e1 f): J prog w Γ (.UnaryOp .Not e1 pos) (ZkH f):=by
 intro W ρ H fr s Q E v H' r hf post
 obtain⟨p,e1,hf⟩:=Zz0.mp hf
 obtain⟨b,e2,e3⟩:=Zz1.mp hf
 cases e3
 refine wpAny_UnaryOp (h1 W ρ H fr s _ E _ _ r e1 fun W1 k1 t1 x l1 r1 x1=>?_)
 exact not_of (truth Γ W1 ρ _ fr _ _ E _ x b r1 x1 e2 fun W2 k2 t2 l2 r2=>post W2 k2 t2 _ (l1.trans l2) r2 (.bool _))
theorem ZgM{e1 e2:Expr}{pos:Pos}{f g:Ex}(h1:J prog w Γ e1 f)(h2:J prog w Γ e2 g): J prog w Γ (.BoolOp .And [e1,e2] pos) (Zda f g):=by
 intro W ρ H fr s Q E v H' r hf post
 obtain⟨p,e1,hf⟩:=Zz0.mp hf
 obtain⟨b,e2,e3⟩:=Zz0.mp hf
 refine wpAny_And2 (h1 W ρ H fr s _ E _ _ r e1 fun W1 k1 t1 x l1 r1 x1=>?_)
 refine truth Γ W1 ρ _ fr _ _ E _ x b r1 x1 e2 fun W2 k2 t2 l2 r2=>?_
 cases b with
 | true=>exact h2 W2 ρ _ fr _ Q E v H' r2 e3 fun W3 k3 t3 z l3 r3 z3=>post W3 k3 t3 z ((l1.trans l2).trans l3) r3 z3
 | false=>
  cases e3
  exact post W2 k2 t2 x (l1.trans l2) r2 (x1.mono l2)
theorem ZA6{e1 e2:Expr}{pos:Pos}{f g:Ex}(h1:J prog w Γ e1 f)(h2:J prog w Γ e2 g): J prog w Γ (.BoolOp .Or [e1,e2] pos) (eOr f g):=by
 intro W ρ H fr s Q E v H' r hf post
 obtain⟨p,e1,hf⟩:=Zz0.mp hf
 obtain⟨b,e2,e3⟩:=Zz0.mp hf
 refine wpAny_Or2 (h1 W ρ H fr s _ E _ _ r e1 fun W1 k1 t1 x l1 r1 x1=>?_)
 refine truth Γ W1 ρ _ fr _ _ E _ x b r1 x1 e2 fun W2 k2 t2 l2 r2=>?_
 cases b with
 | false=>exact h2 W2 ρ _ fr _ Q E v H' r2 e3 fun W3 k3 t3 z l3 r3 z3=>post W3 k3 t3 z ((l1.trans l2).trans l3) r3 z3
 | true=>
  cases e3
  exact post W2 k2 t2 x (l1.trans l2) r2 (x1.mono l2)
theorem ZeP{t e1 e2:Expr}{pos:Pos}{u:Ts}{f g:Ex}(ht:JT prog w Γ t u)(h1:J prog w Γ e1 f)(h2:J prog w Γ e2 g): J prog w Γ (.IfExp t e1 e2 pos) (eIf u f g):=by
 intro W ρ H fr s Q E v H' r hf post
 obtain⟨p,e1,hf⟩:=Zz0.mp hf
 refine wpAny_IfExp (ht W ρ H fr s _ E _ _ r e1 fun W1 k1 t1 l1 r1=>?_)
 obtain⟨b,H1⟩:=p
 cases b with
 | true=>exact h1 W1 ρ _ fr _ Q E v H' r1 hf fun W3 k3 t3 z l3 r3 z3=>post W3 k3 t3 z (l1.trans l3) r3 z3
 | false=>exact h2 W1 ρ _ fr _ Q E v H' r1 hf fun W3 k3 t3 z l3 r3 z3=>post W3 k3 t3 z (l1.trans l3) r3 z3
theorem Zp: Js prog w Γ [] Zn:=fun pos W ρ H fr s Q E vs H' r hf post=>by
 cases hf
 exact wpAny_items_nil (post W s.heap s.toks [] (.refl W) r .nil)
theorem ZxP{e:Expr}{es:List Expr}{f:Ex}{g:Exs}(h1:J prog w Γ e f)(h2:Js prog w Γ es g)(he:starEach (e::es) Γ.env=(false,eval e Γ.env)::starEach es Γ.env:=by rfl): Js prog w Γ (e::es) (Zd f g):=by
 intro pos W ρ H fr s Q E vs H' r hf post
 obtain⟨p,e1,hf⟩:=Zz0.mp hf
 obtain⟨q,e2,e3⟩:=Zz0.mp hf
 cases e3
 refine wpAny_items_cons (h1 W ρ H fr s _ E _ _ r e1 fun W1 k1 t1 x l1 r1 x1=>?_) he
 exact h2 pos W1 ρ _ fr _ _ E _ _ r1 e2 fun W2 k2 t2 ys l2 r2 y2=>post W2 k2 t2 _ (l1.trans l2) r2 (.cons (x1.mono l2) y2)
theorem J.tup{es:List Expr}{k:Nat}{pos:Pos}{g:Exs}(h:Js prog w Γ es g): J prog w Γ (.Tuple es k pos) (Zak g):=by
 intro W ρ H fr s Q E v H' r hf post
 obtain⟨p,e1,hf⟩:=Zz0.mp hf
 by_cases hl:p.1.length≤LEN
 ·rw[if_pos hl]at hf
  cases hf
  refine wpAny_Tuple (h pos W ρ H fr s _ E _ _ r e1 fun W1 k1 t1 xs l1 r1 x1=>⟨Zdg (by rw[x1.length];exact hl),?_⟩)
  obtain⟨W2,l2,r2,v2⟩:=r1.tuple (k:=0) x1 hl
  exact post W2 _ _ _ (l1.trans l2) r2 v2
 ·rw[if_neg hl]at hf
  cases hf
theorem J.list{es:List Expr}{pos:Pos}{g:Exs}(h:Js prog w Γ es g): J prog w Γ (.List es pos) (Za0 g):=by
 intro W ρ H fr s Q E v H' r hf post
 obtain⟨p,e1,hf⟩:=Zz0.mp hf
 by_cases hl:p.1.length≤LEN
 ·rw[if_pos hl]at hf
  cases hf
  refine wpAny_List (h pos W ρ H fr s _ E _ _ r e1 fun W1 k1 t1 xs l1 r1 x1=>⟨Zdg (by rw[x1.length];exact hl),?_⟩)
  obtain⟨W2,l2,r2,v2⟩:=r1.list (k:=0) x1 hl
  exact post W2 _ _ _ (l1.trans l2) r2 v2
 ·rw[if_neg hl]at hf
  cases hf
theorem Zcl{e:Expr}{pos:Pos}{t:Ts}(h:JT prog w Γ e t): JT prog w Γ (.UnaryOp .Not e pos) (ZbX t):=by
 intro W ρ H fr s Q E b H' r hf post
 obtain⟨p,e1,e2⟩:=Zz1.mp hf
 cases e2
 exact isTrue_not (h W ρ H fr s _ E _ _ r e1 post)
def JA(prog:Program)(w:World)(Γ:Cx)(op:BoolOp)(es:List Expr)(f:Ts): Prop:=∀(W:Wd) (ρ:Lc) (H:Hp) (fr:List (Addr×Obj)) (s:Shared) (Q:Bool→Shared→Prop) (E:Value→Shared→Prop) (b:Bool) (H':Hp),
 Rep Γ W ρ H fr s.heap→f ρ H=some (b,H')→Zkv Γ W ρ H' fr s Q b→wpAny (model prog w) Γ.A (allTrue op es Γ.env) Q E s
theorem Zew: JA prog w Γ .And [] Zaw:=fun W ρ H fr s Q E b H' r hf post=>by
 cases hf
 exact wpAny_allTrue_And_nil (post W s.heap s.toks (.refl W) r)
theorem ZcO: JA prog w Γ .Or [] Zck:=fun W ρ H fr s Q E b H' r hf post=>by
 cases hf
 exact wpAny_allTrue_Or_nil (post W s.heap s.toks (.refl W) r)
theorem Zch{e:Expr}{es:List Expr}{t u:Ts}(h1:JT prog w Γ e t)(h2:JA prog w Γ .And es u): JA prog w Γ .And (e::es) (ZbO t u):=by
 intro W ρ H fr s Q E b H' r hf post
 obtain⟨p,e1,hf⟩:=Zz0.mp hf
 refine wpAny_allTrue_And_cons (h1 W ρ H fr s _ E _ _ r e1 fun W1 k1 t1 l1 r1=>?_)
 obtain⟨c,H1⟩:=p
 cases c with
 | true=>exact h2 W1 ρ _ fr _ Q E b H' r1 hf fun W3 k3 t3 l3 r3=>post W3 k3 t3 (l1.trans l3) r3
 | false=>
  cases hf
  exact post W1 k1 t1 l1 r1
theorem Za6{e:Expr}{es:List Expr}{t u:Ts}(h1:JT prog w Γ e t)(h2:JA prog w Γ .Or es u): JA prog w Γ .Or (e::es) (tOr t u):=by
 intro W ρ H fr s Q E b H' r hf post
 obtain⟨p,e1,hf⟩:=Zz0.mp hf
 refine wpAny_allTrue_Or_cons (h1 W ρ H fr s _ E _ _ r e1 fun W1 k1 t1 l1 r1=>?_)
 obtain⟨c,H1⟩:=p
 cases c with
 | false=>exact h2 W1 ρ _ fr _ Q E b H' r1 hf fun W3 k3 t3 l3 r3=>post W3 k3 t3 (l1.trans l3) r3
 | true=>
  cases hf
  exact post W1 k1 t1 l1 r1
theorem ZbD{op:BoolOp}{es:List Expr}{pos:Pos}{t:Ts}(h:JA prog w Γ op es t): JT prog w Γ (.BoolOp op es pos) t:=fun W ρ H fr s Q E b H' r hf post=>wpAny_isTrue_BoolOp (h W ρ H fr s Q E b H' r hf post)
theorem Za3{e:Expr}{f:Ex}(h:J prog w Γ e f)(he:isTrue e Γ.env (eval e Γ.env)=(do let v ←eval e Γ.env;standAt e.pos;holding [v] (truthy v)):=by rfl): JT prog w Γ e (ZK f):=by
 intro W ρ H fr s Q E b H' r hf post
 obtain⟨p,e1,hf⟩:=Zz0.mp hf
 obtain⟨c,e2,e3⟩:=Zz1.mp hf
 cases e3
 refine isTrue_plain (h W ρ H fr s _ E _ _ r e1 fun W1 k1 t1 x l1 r1 x1=>?_) he
 exact truth Γ W1 ρ _ fr _ _ E _ x b r1 x1 e2 fun W2 k2 t2 l2 r2=>post W2 k2 t2 (l1.trans l2) r2
theorem Z0{e1 e2:Expr}{op:CmpOp}{pos:Pos}{f g:Ex}{o:V→V→Hp→Option (V×Hp)}(h1:J prog w Γ e1 f)(h2:J prog w Γ e2 g)(ho:Op2 prog w (compareOp op) o)(hm:behindInMarks op e2=false:=by with_unfolding_all rfl): JT prog w Γ (.Compare e1 [op] [e2] pos) (ZK (Zg o f g)):=by
 intro W ρ H fr s Q E b H' r hf post
 obtain⟨pp,e0,hf0⟩:=Zz0.mp hf
 obtain⟨c,e4,e5⟩:=Zz1.mp hf0
 cases e5
 obtain⟨p,e1,hf⟩:=Zz0.mp e0
 obtain⟨q,e2,e3⟩:=Zz0.mp hf
 refine wpAny_isTrue_Compare1 (h1 W ρ H fr s _ E _ _ r e1 fun W1 k1 t1 x l1 r1 x1=>?_) hm
 refine h2 W1 ρ _ fr _ _ E _ _ r1 e2 fun W2 k2 t2 y l2 r2 y2=>?_
 refine ho Γ W2 ρ _ fr _ _ E _ _ x y _ _ r2 (x1.mono l2) y2 e3 fun W3 k3 t3 z l3 r3 z3=>?_
 exact truth Γ W3 ρ _ fr _ _ E _ z b r3 z3 e4 fun W4 k4 t4 l4 r4=>post W4 k4 t4 (((l1.trans l2).trans l3).trans l4) r4
end
end PM
end
section
namespace PM
open PySem PyProof.Rows PyProof
noncomputable def mulOk(a b:Int): Bool:=!(decide (Builtin.Int.intBits a>shortFactorBits) && decide (Builtin.Int.intBits b>shortFactorBits) && Builtin.Int.intTooBig (Builtin.Int.intBits a+Builtin.Int.intBits b))
theorem ZwQ{a b:Int}(h:mulOk a b=true): IntMulOk a b:=by
 unfold mulOk at h
 unfold IntMulOk
 intro c
 rw[c]at h
 cases h
noncomputable def Zbk: V→V→Hp→Option (V×Hp)
 | .int a,.int b,H=>some (.int (a-b),H)
 | _,_,_=>none
noncomputable def oDiv: V→V→Hp→Option (V×Hp)
 | .int a,.int b,H=>if b≠0∧Builtin.divisionGoesByPylong a b=false then some (.int (a.fdiv b),H)else none
 | _,_,_=>none
noncomputable def oMod: V→V→Hp→Option (V×Hp)
 | .int a,.int b,H=>if b≠0 then some (.int (a.fmod b),H)else none
 | _,_,_=>none
noncomputable def oPow: V→V→Hp→Option (V×Hp)
 | .int a,.int b,H=>if 0≤b∧(Builtin.Int.intBits a:Int)*b≤2 ^ 27 then some (.int (a ^ b.toNat),H)else none
 | _,_,_=>none
noncomputable def Zb7: V→Hp→Option (V×Hp)
 | .int a,H=>some (.int (-a),H)
 | _,_=>none
noncomputable def ZkI(p:Int→Int→Bool): V→V→Hp→Option (V×Hp)
 | .int a,.int b,H=>some (.bool (p a b),H)
 | _,_,_=>none
noncomputable def oLt:=ZkI fun a b=>decide (a<b)
noncomputable def oLe:=ZkI fun a b=>decide (a≤b)
noncomputable def oGt:=ZkI fun a b=>decide (b<a)
section
variable {prog:Program} {w:World}
theorem Zbw: Op2 prog w (binaryOp .Sub) Zbk:=by
 intro Γ W ρ H fr s Q E a b x y v H' r hx hy ho post
 cases hx <;> first | (cases ho;done) | skip
 cases hy <;> first | (cases ho;done) | skip
 cases ho
 exact PySem.P.sub_int (post W s.heap _ _ (.refl W) r (.int _ _))
theorem ZaT: Op2 prog w (binaryOp .Mod) oMod:=by
 intro Γ W ρ H fr s Q E a b x y v H' r hx hy ho post
 cases hx <;> first | (cases ho;done) | skip
 cases hy <;> first | (cases ho;done) | skip
 rename_i i t j u
 simp only[oMod]at ho
 by_cases hb:j≠0
 ·rw[if_pos hb]at ho
  cases ho
  exact mod_int' hb (post W s.heap _ _ (.refl W) r (.int _ _))
 ·rw[if_neg hb]at ho
  cases ho
theorem ZcS: Op2 prog w (binaryOp .FloorDiv) oDiv:=by
 intro Γ W ρ H fr s Q E a b x y v H' r hx hy ho post
 cases hx <;> first | (cases ho;done) | skip
 cases hy <;> first | (cases ho;done) | skip
 rename_i i t j u
 simp only[oDiv]at ho
 by_cases hb:j≠0∧Builtin.divisionGoesByPylong i j=false
 ·rw[if_pos hb]at ho
  cases ho
  exact floordiv_int hb.1 (post W s.heap _ _ (.refl W) r (.int _ _)) (.inl hb.2)
 ·rw[if_neg hb]at ho
  cases ho
theorem Zpy: Op2 prog w (binaryOp .Pow) oPow:=by
 intro Γ W ρ H fr s Q E a b x y v H' r hx hy ho post
 cases hx <;> first | (cases ho;done) | skip
 cases hy <;> first | (cases ho;done) | skip
 rename_i i t j u
 simp only[oPow]at ho
 by_cases hb:0≤j∧(Builtin.Int.intBits i:Int)*j≤2 ^ 27
 ·rw[if_pos hb]at ho
  cases ho
  exact pow_int hb.1 hb.2 (post W s.heap _ _ (.refl W) r (.int _ _))
 ·rw[if_neg hb]at ho
  cases ho
theorem Zcm: Op1 prog w (unaryOp .USub) Zb7:=by
 intro Γ W ρ H fr s Q E a x v H' r hx ho post
 cases hx <;> first | (cases ho;done) | skip
 cases ho
 exact PySem.P.neg_int (post W s.heap _ _ (.refl W) r (.int _ _))
theorem ZdH: Op2 prog w (compareOp .Lt) oLt:=by
 intro Γ W ρ H fr s Q E a b x y v H' r hx hy ho post
 cases hx <;> first | (cases ho;done) | skip
 cases hy <;> first | (cases ho;done) | skip
 cases ho
 exact PySem.P.lt_int (post W s.heap s.toks _ (.refl W) r (.bool _))
theorem Zp0: Op2 prog w (compareOp .LtE) oLe:=by
 intro Γ W ρ H fr s Q E a b x y v H' r hx hy ho post
 cases hx <;> first | (cases ho;done) | skip
 cases hy <;> first | (cases ho;done) | skip
 cases ho
 exact PySem.P.le_int (post W s.heap s.toks _ (.refl W) r (.bool _))
theorem ZfF: Op2 prog w (compareOp .Gt) oGt:=by
 intro Γ W ρ H fr s Q E a b x y v H' r hx hy ho post
 cases hx <;> first | (cases ho;done) | skip
 cases hy <;> first | (cases ho;done) | skip
 cases ho
 exact PySem.P.gt_int (post W s.heap s.toks _ (.refl W) r (.bool _))
end
end PM
end
section
namespace PM
open PySem PyProof.Rows PyProof
noncomputable def ZgP(f:V→Option PyData): List V→Option (List PyData)
 | []=>some []
 | v::vs=>(f v).bind fun d=>(ZgP f vs).bind fun ds=>some (d::ds)
noncomputable def toD(H:Hp): Nat→V→Option PyData
 | _,.none=>some .none
 | _,.bool b=>some (.bool b)
 | _,.int i=>some (.int i)
 | _,.str x=>some (.str x)
 | n+1,.tup vs=>(ZgP (toD H n) vs).map .tuple
 | n+1,.ref a=>H[a]?.bind fun vs=>(ZgP (toD H n) vs).map .list
 | 0,.tup _=>none
 | 0,.ref _=>none
theorem Zm0{W:Wd}{h:Heap}{f:V→Option PyData}(ih:∀v x d,VR W v x→f v=some d→∃as,Reads h x d as): ∀{vs:List V} {xs:List Value} {ds:List PyData},VRs W vs xs→ZgP f vs=some ds→∃as,ReadsAll h xs ds as
 | _,_,_,.nil,e=>by
  cases e
  exact⟨_,.nil⟩
 | _,_,_,.cons a r,e=>by
  obtain⟨d,e1,e⟩:=Zz0.mp e
  obtain⟨ds,e2,e3⟩:=Zz0.mp e
  cases e3
  obtain⟨as,h1⟩:=ih _ _ _ a e1
  obtain⟨bs,h2⟩:=Zm0 ih r e2
  exact⟨_,.cons h1 h2⟩
theorem Zgj{Γ:Cx}{W:Wd}{ρ:Lc}{H:Hp}{fr:List (Addr×Obj)}{h:Heap}(r:Rep Γ W ρ H fr h): ∀(n:Nat) (v:V) (x:Value) (d:PyData),VR W v x→toD H n v=some d→∃as,Reads h x d as:=by
 intro n
 induction n with
 | zero=>
  intro v x d hv e
  cases hv with
  | none=>cases e;exact⟨_,.none⟩
  | bool b=>cases e;exact⟨_,.bool b⟩
  | int i t=>cases e;exact⟨_,.int i t⟩
  | str y t=>cases e;exact⟨_,.str y t⟩
  | tup _ _ _=>cases e
  | ref _=>cases e
 | succ n ih=>
  intro v x d hv e
  cases hv with
  | none=>cases e;exact⟨_,.none⟩
  | bool b=>cases e;exact⟨_,.bool b⟩
  | int i t=>cases e;exact⟨_,.int i t⟩
  | str y t=>cases e;exact⟨_,.str y t⟩
  | @tup vs a xs k hm hl hs=>
   obtain⟨ds,e1,e2⟩:=Zz1.mp e
   subst e2
   obtain⟨as,h1⟩:=Zm0 ih hs e1
   exact⟨_,.tuple (r.tupAt hm) rfl rfl (by simpa using h1)⟩
  | @ref i a ea=>
   obtain⟨vs,e0,e⟩:=Zz0.mp e
   obtain⟨ds,e1,e2⟩:=Zz1.mp e
   subst e2
   obtain⟨hl,xs,k,hg,hs⟩:=r.at e0 ea
   obtain⟨as,h1⟩:=Zm0 ih hs e1
   exact⟨_,.list hg rfl rfl (by simpa using h1)⟩
noncomputable def ZbG: Nat:=8
noncomputable def ZkJ(a b:V)(H:Hp): Option Bool:=(toD H ZbG a).bind fun d=>(toD H ZbG b).bind fun e=>if SeqAt.shaped d=true∧SeqAt.shaped e=true then some (PyData.eqv d e)else none
noncomputable def oEq(a b:V)(H:Hp): Option (V×Hp):=(ZkJ a b H).map fun c=>(.bool c,H)
noncomputable def oNe(a b:V)(H:Hp): Option (V×Hp):=(ZkJ a b H).map fun c=>(.bool (!c),H)
noncomputable def oIs: V→V→Hp→Option (V×Hp)
 | .none,.none,H=>some (.bool true,H)
 | .bool _,.none,H=>some (.bool false,H)
 | .int _,.none,H=>some (.bool false,H)
 | .str _,.none,H=>some (.bool false,H)
 | .tup _,.none,H=>some (.bool false,H)
 | .ref _,.none,H=>some (.bool false,H)
 | _,_,_=>none
noncomputable def ZcT(a b:V)(H:Hp): Option (V×Hp):=(oIs a b H).bind fun p=>match p.1 with | .bool c=>some (.bool (!c),p.2) | _=>none
section
variable {prog:Program} {w:World}
theorem Zat: Op2 prog w (compareOp .Eq) oEq:=by
 intro Γ W ρ H fr s Q E a b x y v H' r hx hy ho post
 obtain⟨c,e1,e2⟩:=Zz1.mp ho
 cases e2
 obtain⟨d,h1,e1⟩:=Zz0.mp e1
 obtain⟨e,h2,e1⟩:=Zz0.mp e1
 by_cases hs:SeqAt.shaped d=true∧SeqAt.shaped e=true
 ·rw[if_pos hs]at e1
  cases e1
  obtain⟨as,R1⟩:=Zgj r ZbG a x d hx h1
  obtain⟨bs,R2⟩:=Zgj r ZbG b y e hy h2
  exact eq_dataH R1 R2 hs.1 hs.2 (by have:=Γ.hu;omega) (post W s.heap s.toks _ (.refl W) r (.bool _))
 ·rw[if_neg hs]at e1
  cases e1
theorem Zdo: Op2 prog w (compareOp .NotEq) oNe:=by
 intro Γ W ρ H fr s Q E a b x y v H' r hx hy ho post
 obtain⟨c,e1,e2⟩:=Zz1.mp ho
 cases e2
 obtain⟨d,h1,e1⟩:=Zz0.mp e1
 obtain⟨e,h2,e1⟩:=Zz0.mp e1
 by_cases hs:SeqAt.shaped d=true∧SeqAt.shaped e=true
 ·rw[if_pos hs]at e1
  cases e1
  obtain⟨as,R1⟩:=Zgj r ZbG a x d hx h1
  obtain⟨bs,R2⟩:=Zgj r ZbG b y e hy h2
  exact ne_dataH R1 R2 hs.1 hs.2 (by have:=Γ.hu;omega) (post W s.heap s.toks _ (.refl W) r (.bool _))
 ·rw[if_neg hs]at e1
  cases e1
theorem Zby: Op2 prog w (compareOp .Is) oIs:=by
 intro Γ W ρ H fr s Q E a b x y v H' r hx hy ho post
 cases hy <;> first | (cases hx <;> cases ho;done) | skip
 refine PySem.is_none ?_
 cases hx <;> (cases ho;exact post W s.heap s.toks _ (.refl W) r (.bool _))
theorem Zdh: Op2 prog w (compareOp .IsNot) ZcT:=by
 intro Γ W ρ H fr s Q E a b x y v H' r hx hy ho post
 cases hy <;> first | (cases hx <;> cases ho;done) | skip
 refine PySem.isNot_none ?_
 cases hx <;> (cases ho;exact post W s.heap s.toks _ (.refl W) r (.bool _))
end
end PM
end
section
namespace PM
open PySem PyProof.Rows PyProof
noncomputable def Zu: V→V→Hp→Option (V×Hp)
 | .ref a,.int k,H=>H[a]?.bind fun vs=>(seqIndex? k vs.length).bind fun j=>vs[j]?.map fun v=>(v,H)
 | .tup vs,.int k,H=>(seqIndex? k vs.length).bind fun j=>vs[j]?.map fun v=>(v,H)
 | _,_,_=>none
theorem ZqL{k:Int}{n j:Nat}(h:seqIndex? k n=some j): j<n∧(k:Int)<n∧-(n:Int)≤k∧(0≤k→k.toNat=j)∧(k<0→(k+n).toNat=j):=by
 unfold seqIndex? at h
 by_cases c:k<0
 ·simp only[c,if_true]at h
  split at h
  ·rename_i d
   simp at d h
   omega
  ·cases h
 ·simp only[c,if_false]at h
  split at h
  ·rename_i d
   simp at d h
   omega
  ·cases h
section
variable {prog:Program} {w:World} {Γ:Cx}
theorem ZA{e1 e2:Expr}{pos:Pos}{f g:Ex}(h1:J prog w Γ e1 f)(h2:J prog w Γ e2 g)(hs:∀a k u,subscripted e2 false (.ref a) (.int k u)=operate [.ref a,.int k u] (getItem (.ref a) (.int k u)):=by intros;with_unfolding_all rfl): J prog w Γ (.Subscript e1 e2 pos) (Zg Zu f g):=by
 intro W ρ H fr s Q E v H' r hf post
 obtain⟨p,e1,hf⟩:=Zz0.mp hf
 obtain⟨q,e2,e3⟩:=Zz0.mp hf
 refine Subscript_ (h1 W ρ H fr s _ E _ _ r e1 fun W1 k1 t1 x l1 r1 x1=>?_)
 refine h2 W1 ρ _ fr _ _ E _ _ r1 e2 fun W2 k2 t2 y l2 r2 y2=>?_
 have x2:=x1.mono l2
 obtain⟨v1,H1⟩:=p
 obtain⟨v2,H2⟩:=q
 simp only at e3 r2 x2 y2
 cases y2 <;> first | (cases x2 <;> cases e3;done) | skip
 rename_i k u
 cases x2 <;> first | (cases e3;done) | skip
 ·rename_i vs a xs kk hm hl hv
  obtain⟨j,hj,e4⟩:=Zz0.mp e3
  obtain⟨z,hz,e5⟩:=Zz1.mp e4
  cases e5
  obtain⟨z',hz',rz⟩:=hv.at hz
  have hx:xs.length=vs.length:=hv.length
  have hb:=ZqL hj
  rw[Zbc]at hl
  have it:IsTup k2 a xs.toArray:=⟨_,r2.tupAt hm,rfl,kk,rfl⟩
  exact item_tupleT it (by omega) (by omega) (by rw[hx];exact hj) hz' (post W2 k2 t2 z' (l1.trans l2) r2 rz) (hs _ _ _)
 ·rename_i i a ea
  obtain⟨vs,hvs,e3⟩:=Zz0.mp e3
  obtain⟨j,hj,e4⟩:=Zz0.mp e3
  obtain⟨z,hz,e5⟩:=Zz1.mp e4
  cases e5
  obtain⟨hl,xs,kk,hg,hv⟩:=r2.at hvs ea
  obtain⟨z',hz',rz⟩:=hv.at hz
  have hx:xs.length=vs.length:=hv.length
  have hb:=ZqL hj
  rw[Zbc]at hl
  have isl:k2.IsList a xs.toArray:=⟨_,hg,rfl,kk,rfl⟩
  refine tail_any (s:={ s with heap:=k2,toks:=t2 }) isl.typeIs slot_list_getitem.lookup ?_ (hs _ _ _)
  by_cases hk:0≤k
  ·exact wpAny_getItem_list isl hk (by omega) (by rw[hb.2.2.2.1 hk];simpa using hz') (post W2 k2 t2 z' (l1.trans l2) r2 rz)
  ·refine wpAny_getItem_list_neg isl (by omega) (by simp;omega) (by omega) ?_ (post W2 k2 t2 z' (l1.trans l2) r2 rz)
   have:=hb.2.2.2.2 (by omega)
   rw[←hx]at this
   simpa [this]using hz'
end
noncomputable def Zce{α:Type}(vs:List α)(lo hi:Option Int): List α:=(sliceRange (sliceBounds lo hi none vs.length).1 (sliceBounds lo hi none vs.length).2.1 (sliceBounds lo hi none vs.length).2.2).filterMap fun i=>vs[i]?
theorem VRs.pick{W:Wd}{vs:List V}{xs:List Value}(h:VRs W vs xs)(l:List Nat): VRs W (l.filterMap fun i=>vs[i]?) (l.filterMap fun i=>xs[i]?):=by
 induction l with
 | nil=>exact .nil
 | cons i l ih=>
  simp only[List.filterMap_cons]
  have hl:=h.length
  cases e:vs[i]? with
  | none=>
   have:xs[i]?=none:=by rw[List.getElem?_eq_none_iff]at e ⊢;omega
   rw[this]
   exact ih
  | some v=>
   obtain⟨x,hx,hr⟩:=h.at e
   rw[hx]
   exact .cons hr ih
theorem ZwR{α:Type}(vs:List α)(lo hi:Option Int): (Zce vs lo hi).length≤vs.length:=by
 unfold Zce
 refine Nat.le_trans (List.length_filterMap_le _ _) ?_
 refine sliceRange_length_le _ _ _ _ (fun _=>?_) fun c=>?_
 ·unfold sliceBounds
  cases lo <;> cases hi <;> simp <;> omega
 ·exact absurd (by unfold sliceBounds;simp) c
theorem ZwS{α:Type}(vs:List α)(a:Nat): ∀m:Nat,a+m≤vs.length→((List.range m).map fun k=>a+k).filterMap (fun i=>vs[i]?)=(vs.drop a).take m:=by
 intro m
 induction m with
 | zero=>intro _;simp
 | succ m ih=>
  intro h
  rw[List.range_succ,List.map_append,List.filterMap_append,ih (by omega),List.take_add_one]
  congr 1
  simp only[List.map_cons,List.map_nil,List.filterMap_cons,List.filterMap_nil,List.getElem?_drop]
  cases e:vs[a+m]? with
  | none=>rw[List.getElem?_eq_none_iff]at e;omega
  | some v=>rfl
theorem ZjO{α:Type}(vs:List α)(lo hi:Option Int){a b:Nat}(ha:(sliceBounds lo hi none vs.length).1=(a:Int))(hb:(sliceBounds lo hi none vs.length).2.1=(b:Int))(h:b≤vs.length): Zce vs lo hi=(vs.drop a).take (b-a):=by
 have hc:(sliceBounds lo hi none vs.length).2.2=1:=by unfold sliceBounds;rfl
 unfold Zce
 rw[ha,hb,hc]
 have e:sliceRange (a:Int) (b:Int) 1=(List.range (b-a)).map fun k=>a+k:=by
  unfold sliceRange
  simp only[show(1:Int)>0 from by decide,if_true]
  by_cases c:(a:Int)<b
  ·rw[if_pos c]
   have:((b:Int)-a+1-1) / 1=((b-a:Nat):Int):=by omega
   rw[this]
   simp only[Int.toNat_natCast]
   refine List.map_congr_left fun k _=>?_
   omega
  ·rw[if_neg c]
   have:b-a=0:=by omega
   rw[this]
   rfl
 rw[e]
 by_cases c:a≤b
 ·exact ZwS vs a (b-a) (by omega)
 ·have:b-a=0:=by omega
  rw[this]
  simp
theorem Zrk{α:Type}(vs:List α){k:Int}{a:Nat}(e:k=(a:Int)): Zce vs (some k) none=vs.drop a:=by
 by_cases h:a≤vs.length
 ·rw[ZjO vs (some k) none (a:=a) (b:=vs.length) (by unfold sliceBounds;simp;omega) (by unfold sliceBounds;simp) (Zz10 _)]
  rw[List.take_of_length_le (by simp)]
 ·rw[ZjO vs (some k) none (a:=vs.length) (b:=vs.length) (by unfold sliceBounds;simp;omega) (by unfold sliceBounds;simp) (Zz10 _)]
  simp
  omega
theorem ZxQ{α:Type}(vs:List α){k:Int}{a:Nat}(e:k=(a:Int)): Zce vs none (some k)=vs.take a:=by
 by_cases h:a≤vs.length
 ·rw[ZjO vs none (some k) (a:=0) (b:=a) (by unfold sliceBounds;simp) (by unfold sliceBounds;simp;omega) h]
  simp
 ·rw[ZjO vs none (some k) (a:=0) (b:=vs.length) (by unfold sliceBounds;simp) (by unfold sliceBounds;simp;omega) (Zz10 _)]
  rw[List.drop_zero,Nat.sub_zero,List.take_of_length_le (Zz10 _),List.take_of_length_le (by omega)]
noncomputable def Zh8: Option V→Option (Option Int)
 | none=>some none
 | some (.int k)=>some (some k)
 | _=>none
noncomputable abbrev Pt:=Lc→Hp→Option (Option V×Hp)
noncomputable def Zee: Pt:=fun _ H=>some (none,H)
noncomputable def Zef(f:Ex): Pt:=fun ρ H=>(f ρ H).map fun p=>(some p.1,p.2)
noncomputable def ZdF(f:Ex)(lo hi:Pt): Ex:=fun ρ H=>(f ρ H).bind fun p=>(lo ρ p.2).bind fun q=>(hi ρ q.2).bind fun u=>(Zh8 q.1).bind fun a=>(Zh8 u.1).bind fun b=>match p.1 with
 | .ref i=>u.2[i]?.bind fun vs=>some (.ref u.2.length,u.2++[Zce vs a b])
 | _=>none
inductive VP(W:Wd): Option V→Value→Prop where
 | none:VP W none .none
 | some {v:V} {x:Value}:VR W v x→VP W (some v) x
theorem VP.mono{W W':Wd}{v:Option V}{x:Value}(l:W.Le W')(h:VP W v x): VP W' v x:=by
 cases h with
 | none=>exact .none
 | some h=>exact .some (h.mono l)
theorem VP.part{W:Wd}{v:Option V}{x:Value}{k:Option Int}(h:VP W v x)(e:Zh8 v=Option.some k): IsPart x k:=by
 cases h with
 | none=>cases e;exact .none
 | some h=>cases h <;> cases e;exact .int _ _
def JP(prog:Program)(w:World)(Γ:Cx)(e:Option Expr)(f:Pt): Prop:=∀(W:Wd) (ρ:Lc) (H:Hp) (fr:List (Addr×Obj)) (s:Shared) (Q E:Value→Shared→Prop) (v:Option V) (H':Hp),
 Rep Γ W ρ H fr s.heap→f ρ H=some (v,H')→(∀(W':Wd) (h':Heap) (tk':Nat) (x:Value),W.Le W'→Rep Γ W' ρ H' fr h'→VP W' v x→Q x { s with heap:=h',toks:=tk' })→wpAny (model prog w) Γ.A (evalPart e Γ.env) Q E s
section
variable {prog:Program} {w:World} {Γ:Cx}
theorem JP.none: JP prog w Γ none Zee:=fun W ρ H fr s Q E v H' r hf post=>by
 cases hf
 exact wpAny_evalPart_none (post W s.heap s.toks _ (.refl W) r .none)
theorem JP.some{e:Expr}{f:Ex}(h:J prog w Γ e f): JP prog w Γ (some e) (Zef f):=fun W ρ H fr s Q E v H' r hf post=>by
 obtain⟨p,e1,e2⟩:=Zz1.mp hf
 cases e2
 exact wpAny_evalPart_some (h W ρ H fr s _ E _ _ r e1 fun W1 k1 t1 x l1 r1 x1=>post W1 k1 t1 x l1 r1 (.some x1))
theorem ZhN{e:Expr}{lo hi:Option Expr}{p pos:Pos}{f:Ex}{a b:Pt}(h:J prog w Γ e f)(hlo:JP prog w Γ lo a)(hhi:JP prog w Γ hi b)(ht:∀o r,letTemporaryGo e o r=pure ():=by intro _ _;rfl): J prog w Γ (.Subscript e (.Slice lo hi Option.none p) pos) (ZdF f a b):=by
 intro W ρ H fr s Q E v H' r hf post
 obtain⟨p,e1,hf⟩:=Zz0.mp hf
 obtain⟨q,e2,hf⟩:=Zz0.mp hf
 obtain⟨u,e3,hf⟩:=Zz0.mp hf
 obtain⟨ka,e4,hf⟩:=Zz0.mp hf
 obtain⟨kb,e5,hf⟩:=Zz0.mp hf
 refine wpAny_Subscript_list_slice (h W ρ H fr s _ E _ _ r e1 fun W1 k1 t1 x l1 r1 x1=>?_) ht
 refine hlo W1 ρ _ fr _ _ E _ _ r1 e2 fun W2 k2 t2 y l2 r2 y2=>?_
 refine hhi W2 ρ _ fr _ _ E _ _ r2 e3 fun W3 k3 t3 z l3 r3 z3=>?_
 have x3:=x1.mono (l2.trans l3)
 obtain⟨v1,H1⟩:=p
 simp only at hf x3
 cases x3 with
 | none=>cases hf
 | bool _=>cases hf
 | int _ _=>cases hf
 | str _ _=>cases hf
 | tup _ _ _=>cases hf
 | @ref i a ea=>
  obtain⟨vs,hvs,e6⟩:=Zz0.mp hf
  cases e6
  obtain⟨hl,xs,kk,hg,hv⟩:=r3.at hvs ea
  have isl:k3.IsList a xs.toArray:=⟨_,hg,rfl,kk,rfl⟩
  refine⟨a,xs.toArray,ka,kb,rfl,isl,Zdg (by simp[hv.length];exact hl),(y2.mono l3).part e4,z3.part e5,?_⟩
  have hp:VRs W3 (Zce vs ka kb) (Zce xs ka kb):=by
   unfold Zce
   rw[hv.length]
   exact hv.pick _
  have hx:slicePick xs.toArray ka kb Option.none=(Zce xs ka kb).toArray:=by
   unfold slicePick Zce
   simp
  obtain⟨W4,l4,r4,v4⟩:=(r3.push { cls:=.type "slice",data:=.fields #[y,z,.none] }).list (k:=0) hp (Nat.le_trans (ZwR vs ka kb) hl)
  rw[hx]
  have:=post W4 _ t3 _ (((l1.trans l2).trans l3).trans l4) r4 v4
  rw[Heap.size_push]at this
  exact this
end
end PM
end
section
namespace PM
open PySem PyProof.Rows PyProof
def Nm(prog:Program)(w:World)(Γ:Cx)(x:Str)(v:Value): Prop:=∀(pos:Pos) (m:Str→Option Value) (s:Shared) (Q E:Value→Shared→Prop),Fr Γ.h₀ Γ.L s.heap m→Q v s→wpAny (model prog w) Γ.A (eval (.Name x pos) Γ.env) Q E s
theorem Nm.use{prog:Program}{w:World}{Γ:Cx}{x:Str}{y:Value}(h:Nm prog w Γ x y){pos:Pos}{W:Wd}{ρ:Lc}{H:Hp}{fr:List (Addr×Obj)}{s:Shared}{Q E:Value→Shared→Prop}(r:Rep Γ W ρ H fr s.heap)(q:Q y s): wpAny (model prog w) Γ.A (eval (.Name x pos) Γ.env) Q E s:=by
 obtain⟨m,c,led,r⟩:=r
 exact h pos m s Q E r.F q
def OpN(prog:Program)(w:World)(m:List Value→Sem Value)(o:List V→Hp→Option (V×Hp)): Prop:=∀(Γ:Cx) (W:Wd) (ρ:Lc) (H:Hp) (fr:List (Addr×Obj)) (s:Shared) (Q E:Value→Shared→Prop) (as:List V) (xs:List Value) (v:V) (H':Hp),
 Rep Γ W ρ H fr s.heap→VRs W as xs→o as H=some (v,H')→Zig Γ W ρ H' fr s Q v→wpAny (model prog w) Γ.A (m xs) Q E s
noncomputable def Zq(o:List V→Hp→Option (V×Hp))(g:Exs): Ex:=fun ρ H=>(g ρ H).bind fun p=>o p.1 p.2
section
variable {prog:Program} {w:World} {Γ:Cx}
theorem ZaC{x:Str}{np pos:Pos}{id:String}{e:Expr}{es:List Expr}{g:Exs}{o:List V→Hp→Option (V×Hp)}(hn:Nm prog w Γ x (.builtin id))(h:Js prog w Γ (e::es) g)(ho:OpN prog w (fun xs=>call (.builtin id) xs) o)
  (he:starEach (e::es) Γ.env=(false,eval e Γ.env)::starEach es Γ.env:=by rfl) (hp:∀pos,(backTo pos (starEach es Γ.env)).any (·.1)=false:=by intro _;rfl):J prog w Γ (.Call (.Name x np) (e::es) [] pos) (Zq o g):=by
 intro W ρ H fr s Q E v H' r hf post
 obtain⟨p,e1,hf⟩:=Zz0.mp hf
 refine wpAny_Call_ofName (hn.use r ?_)
 refine callWith_builtin1 (h pos W ρ H fr s _ E _ _ r e1 fun W1 k1 t1 xs l1 r1 x1=>?_) he (hp pos)
 exact ho Γ W1 ρ _ fr _ Q E _ xs v H' r1 x1 hf fun W2 k2 t2 y l2 r2 y2=>post W2 k2 t2 y (l1.trans l2) r2 y2
theorem ZjP{x:Str}{np pos:Pos}{T:String}{e:Expr}{es:List Expr}{g:Exs}{o:List V→Hp→Option (V×Hp)}(hn:Nm prog w Γ x (.type T))(h:Js prog w Γ (e::es) g)(ho:OpN prog w (fun xs=>call (.type T) xs) o)
  (he:starEach (e::es) Γ.env=(false,eval e Γ.env)::starEach es Γ.env:=by rfl) (hp:∀pos,(backTo pos (starEach es Γ.env)).any (·.1)=false:=by intro _;rfl):J prog w Γ (.Call (.Name x np) (e::es) [] pos) (Zq o g):=by
 intro W ρ H fr s Q E v H' r hf post
 obtain⟨p,e1,hf⟩:=Zz0.mp hf
 refine wpAny_Call_ofName (hn.use r ?_)
 refine PySem.Pv.callWith_type1 (h pos W ρ H fr s _ E _ _ r e1 fun W1 k1 t1 xs l1 r1 x1=>?_) he (hp pos)
 exact ho Γ W1 ρ _ fr _ Q E _ xs v H' r1 x1 hf fun W2 k2 t2 y l2 r2 y2=>post W2 k2 t2 y (l1.trans l2) r2 y2
end
noncomputable def Zo6: V→String
 | .none=>"NoneType"
 | .bool _=>"bool"
 | .int _=>"int"
 | .str _=>"str"
 | .tup _=>"tuple"
 | .ref _=>"list"
noncomputable def Zpz(T:String)(v:V): Bool:=Zo6 v == T || (T == "int" && Zo6 v == "bool")
noncomputable def eIs(T:String)(f:Ex): Ex:=fun ρ H=>(f ρ H).map fun p=>(.bool (Zpz T p.1),p.2)
section
variable {prog:Program} {w:World} {Γ:Cx}
theorem isinst{T:String}(hT:T="int"∨T="bool"∨T="list"∨T="tuple"){W:Wd}{ρ:Lc}{H:Hp}{fr:List (Addr×Obj)}{s:Shared}{Q E:Value→Shared→Prop}{a:V}{x:Value}(r:Rep Γ W ρ H fr s.heap)(hx:VR W a x)(hin:∀i,a=.ref i→i<H.length)
  (post:∀tk,Q (.bool (Zpz T a)) { s with toks:=tk }):wpAny (model prog w) Γ.A (call (.builtin "isinstance") [x,.type T]) Q E s:=by
 cases hx with
 | none=>
      rcases hT with e | e | e | e <;> subst e
      ·exact call_isinstance (isinstance_false_none (by decide +kernel) F.isi_meta_int (by rw[isSubtype_type];kernel_rfl)) (post _)
      ·exact call_isinstance (isinstance_false_none (by decide +kernel) F.isi_meta_bool (by rw[isSubtype_type];kernel_rfl)) (post _)
      ·exact call_isinstance (isinstance_false_none (by decide +kernel) F.isi_meta_list (by rw[isSubtype_type];kernel_rfl)) (post _)
      ·exact call_isinstance (isinstance_false_none (by decide +kernel) F.isi_meta_tuple (by rw[isSubtype_type];kernel_rfl)) (post _)
 | bool b=>
       rcases hT with e | e | e | e <;> subst e
       ·exact IsiPair.bool_int (post s.toks)
       ·exact IsiPair.bool_bool (post s.toks)
       ·exact IsiPair.bool_list (post _)
       ·exact IsiPair.bool_tuple (post _)
 | int i t=>
       rcases hT with e | e | e | e <;> subst e
       ·exact IsiPair.int_int (post s.toks)
       ·exact IsiPair.int_bool (post _)
       ·exact IsiPair.int_list (post _)
       ·exact IsiPair.int_tuple (post _)
 | str y t=>
       rcases hT with e | e | e | e <;> subst e
       ·exact IsiPair.str_int (post _)
       ·exact IsiPair.str_bool (post _)
       ·exact IsiPair.str_list (post _)
       ·exact IsiPair.str_tuple (post _)
 | tup hm hl hs=>
  have hg:=r.tupAt hm
  rcases hT with e | e | e | e <;> subst e
  ·exact IsiPair.tuple_int hg rfl (post _)
  ·exact IsiPair.tuple_bool hg rfl (post _)
  ·exact IsiPair.tuple_list hg rfl (post _)
  ·exact IsiPair.tuple_tuple hg rfl (post s.toks)
 | @ref i a ea=>
  obtain⟨hl,xs,k,hg,hv⟩:=r.at (List.getElem?_eq_getElem (hin i rfl)) ea
  rcases hT with e | e | e | e <;> subst e
  ·exact IsiPair.list_int hg rfl (post _)
  ·exact IsiPair.list_bool hg rfl (post _)
  ·exact IsiPair.list_list hg rfl (post s.toks)
  ·exact IsiPair.list_tuple hg rfl (post _)
end
theorem Rep.refIn{Γ:Cx}{W:Wd}{ρ:Lc}{H:Hp}{fr:List (Addr×Obj)}{h:Heap}{i:Nat}{x:Value}(r:Rep Γ W ρ H fr h)(hx:VR W (.ref i) x): i<H.length:=by
 obtain⟨m,c,led,r⟩:=r
 cases hx with
 | ref e=>rw[←r.R.len];exact(Zz6.mp e).1
section
variable {prog:Program} {w:World} {Γ:Cx}
theorem Zd2{np tp pos:Pos}{x y:Str}{T:String}{e:Expr}{f:Ex}(hn:Nm prog w Γ x (.builtin "isinstance"))(hy:Nm prog w Γ y (.type T))(hT:T="int"∨T="bool"∨T="list"∨T="tuple")(h:J prog w Γ e f)
  (he:starEach [e,.Name y tp] Γ.env=(false,eval e Γ.env)::starEach [.Name y tp] Γ.env:=by rfl) (hp:∀pos,(backTo pos (starEach [.Name y tp] Γ.env)).any (·.1)=false:=by intro _;rfl):J prog w Γ (.Call (.Name x np) [e,.Name y tp] [] pos) (eIs T f):=by
 intro W ρ H fr s Q E v H' r hf post
 obtain⟨p,e1,e2⟩:=Zz1.mp hf
 cases e2
 refine wpAny_Call_ofName (hn.use r ?_)
 refine callWith_builtin1 (wpAny_items_cons (h W ρ H fr s _ E _ _ r e1 fun W1 k1 t1 z l1 r1 z1=>?_) he) he (hp pos)
 refine wpAny_items_cons (hy.use (s:={ s with heap:=k1,toks:=t1 }) r1 ?_)
 refine wpAny_items_nil ?_
 exact PM.isinst hT r1 z1 (fun i e=>by rw[e]at z1;exact r1.refIn z1) fun tk=>post W1 k1 tk _ l1 r1 (.bool _)
end
noncomputable def ZaJ: List V→Hp→Option (V×Hp)
 | [.ref a],H=>H[a]?.map fun vs=>(.int vs.length,H)
 | [.tup vs],H=>some (.int vs.length,H)
 | _,_=>none
noncomputable def ZdK: List V→Hp→Option (V×Hp)
 | [.int a],H=>some (.int (if a<0 then -a else a),H)
 | _,_=>none
noncomputable def Zkw: List V→Hp→Option (V×Hp)
 | [.int a,.int b],H=>some (.int (if b>a then b else a),H)
 | _,_=>none
noncomputable def ZdG: List V→Option (List Int)
 | []=>some []
 | .int k::vs=>(ZdG vs).map fun ks=>k::ks
 | _::_=>none
noncomputable def Zih: List V→Hp→Option (V×Hp)
 | [.ref a],H=>H[a]?.bind fun vs=>(ZdG vs).map fun ks=>(.int ks.sum,H)
 | _,_=>none
theorem VRs.one{W:Wd}{v:V}{xs:List Value}(h:VRs W [v] xs): ∃x,xs=[x]∧VR W v x:=by
 cases h with
 | cons a b=>cases b;exact⟨_,rfl,a⟩
theorem VRs.two{W:Wd}{v u:V}{xs:List Value}(h:VRs W [v,u] xs): ∃x y,xs=[x,y]∧VR W v x∧VR W u y:=by
 cases h with
 | cons a b=>obtain⟨y,e,r⟩:=b.one;subst e;exact⟨_,_,rfl,a,r⟩
theorem Zuv{W:Wd}: ∀{vs:List V} {xs:List Value} {ks:List Int},VRs W vs xs→ZdG vs=some ks→∃ts:Array (Int×Tok),xs.toArray=intItems ts∧preSum (numAt ts) ts.size=ks.sum:=by
 have key:∀{vs:List V} {xs:List Value} {ks:List Int},VRs W vs xs→ZdG vs=some ks→∃ts:List (Int×Tok),xs=ts.map (fun p=>Value.int p.1 p.2)∧ts.map (·.1)=ks:=by
  intro vs
  induction vs with
  | nil=>intro xs ks h e;cases h;cases e;exact⟨[],rfl,rfl⟩
  | cons v vs ih=>
   intro xs ks h e
   cases h with
   | cons a b=>
    cases v with
    | int i=>
     obtain⟨js,e1,e2⟩:=Zz1.mp e
     subst e2
     cases a with
     | int _ t=>
      obtain⟨ts,h1,h2⟩:=ih b e1
      exact⟨(i,t)::ts,by rw[h1];rfl,by rw[List.map_cons,h2]⟩
    | none=>cases e
    | bool _=>cases e
    | str _=>cases e
    | tup _=>cases e
    | ref _=>cases e
 intro vs xs ks h e
 obtain⟨ts,h1,h2⟩:=key h e
 refine⟨ts.toArray,by rw[h1];simp[intItems],?_⟩
 rw[preSum_eq,List.take_of_length_le (by simp),←h2]
noncomputable def Zae: V→V→Hp→Option (V×Hp)
 | .int a,.int b,H=>some (.int (a+b),H)
 | .ref a,.ref b,H=>H[a]?.bind fun vs=>H[b]?.bind fun us=>if(vs++us).length≤LEN then some (.ref H.length,H++[vs++us])else none
 | .tup vs,.tup us,H=>if(vs++us).length≤LEN then some (.tup (vs++us),H)else none
 | _,_,_=>none
noncomputable def ZfQ(vs:List V): Nat→List V
 | 0=>[]
 | n+1=>ZfQ vs n++vs
noncomputable def Za9: V→V→Hp→Option (V×Hp)
 | .int a,.int b,H=>if mulOk a b=true then some (.int (a*b),H)else none
 | .ref a,.int k,H=>H[a]?.bind fun vs=>if vs.length*k.toNat≤LEN∧-(2 ^ 63:Int)≤k∧k<2 ^ 63 then some (.ref H.length,H++[ZfQ vs k.toNat])else none
 | _,_,_=>none
section
variable {prog:Program} {w:World}
theorem ZaZ: OpN prog w (fun xs=>call (.builtin "len") xs) ZaJ:=by
 intro Γ W ρ H fr s Q E as xs v H' r hx ho post
 unfold ZaJ at ho
 split at ho
 ·rename_i a
  obtain⟨vs,e1,e2⟩:=Zz1.mp ho
  cases e2
  obtain⟨x,ex,rx⟩:=hx.one
  subst ex
  cases rx with
  | ref ea=>
   obtain⟨hl,ys,k,hg,hv⟩:=r.at e1 ea
   have isl:s.heap.IsList _ ys.toArray:=⟨_,hg,rfl,k,rfl⟩
   have e3:(ys.toArray.size:Int)=vs.length:=by simp[hv.length]
   rw[Zbc]at hl
   refine Calls.call_len_list isl (by rw[e3];omega) ?_
   rw[e3]
   exact post W s.heap _ _ (.refl W) r (.int _ _)
 ·rename_i vs
  cases ho
  obtain⟨x,ex,rx⟩:=hx.one
  subst ex
  cases rx with
  | @tup _ a ys k hm hl hs=>
   have it:IsTup s.heap a ys.toArray:=⟨_,r.tupAt hm,rfl,k,rfl⟩
   have e3:(ys.toArray.size:Int)=vs.length:=by simp[hs.length]
   rw[Zbc]at hl
   refine len_tuple it (by rw[e3];omega) ?_
   rw[e3]
   exact post W s.heap _ _ (.refl W) r (.int _ _)
 ·cases ho
theorem Zfv: OpN prog w (fun xs=>call (.builtin "abs") xs) ZdK:=by
 intro Γ W ρ H fr s Q E as xs v H' r hx ho post
 unfold ZdK at ho
 split at ho
 ·cases ho
  obtain⟨x,ex,rx⟩:=hx.one
  subst ex
  cases rx with
  | int i t=>exact call_abs_int fun u tk=>post W s.heap tk _ (.refl W) r (.int _ _)
 ·cases ho
theorem ZxR: OpN prog w (fun xs=>call (.builtin "max") xs) Zkw:=by
 intro Γ W ρ H fr s Q E as xs v H' r hx ho post
 unfold Zkw at ho
 split at ho
 ·cases ho
  obtain⟨x,y,ex,rx,ry⟩:=hx.two
  subst ex
  cases rx with
  | int i t=>
   cases ry with
   | int j u=>
    refine max_two_ints Γ.hh fun h' tk up=>?_
    split
    ·rename_i c
     rw[if_pos c]at post
     exact post W h' tk _ (.refl W) (r.grown up) (.int _ _)
    ·rename_i c
     rw[if_neg c]at post
     exact post W h' tk _ (.refl W) (r.grown up) (.int _ _)
 ·cases ho
theorem Zzh: OpN prog w (fun xs=>call (.builtin "sum") xs) Zih:=by
 intro Γ W ρ H fr s Q E as xs v H' r hx ho post
 unfold Zih at ho
 split at ho
 ·obtain⟨vs,e1,e2⟩:=Zz0.mp ho
  obtain⟨ks,e3,e4⟩:=Zz1.mp e2
  cases e4
  obtain⟨x,ex,rx⟩:=hx.one
  subst ex
  cases rx with
  | ref ea=>
   obtain⟨hl,ys,k,hg,hv⟩:=r.at e1 ea
   obtain⟨ts,h1,h2⟩:=Zuv hv e3
   have isl:s.heap.IsList _ (intItems ts):=⟨_,hg,rfl,k,by rw[←h1]⟩
   refine sum_intListG Γ.hh isl fun h' tk t' up=>?_
   rw[h2]
   exact post W h' tk _ (.refl W) (r.grown up) (.int _ _)
 ·cases ho
theorem Zai: Op2 prog w (binaryOp .Add) Zae:=by
 intro Γ W ρ H fr s Q E a b x y v H' r hx hy ho post
 unfold Zae at ho
 split at ho
 ·cases ho
  cases hx;cases hy
  exact PySem.P.add_int (post W s.heap _ _ (.refl W) r (.int _ _))
 ·obtain⟨vs,e1,ho⟩:=Zz0.mp ho
  obtain⟨us,e2,ho⟩:=Zz0.mp ho
  by_cases hl:(vs++us).length≤LEN
  ·rw[if_pos hl]at ho
   cases ho
   cases hx with
   | ref ea=>
   cases hy with
   | ref eb=>
   obtain⟨l1,ys,k,hg,hv⟩:=r.at e1 ea
   obtain⟨l2,zs,k2,hg2,hv2⟩:=r.at e2 eb
   obtain⟨m,c,led,r'⟩:=r
   have i1:s.heap.IsList _ ys.toArray:=⟨_,hg,rfl,k,rfl⟩
   have i2:s.heap.IsList _ zs.toArray:=⟨_,hg2,rfl,k2,rfl⟩
   refine add_lists (hsz:=Zdg (by rw[hv.length,hv2.length,←List.length_append];exact hl)) r'.F r'.N i1 i2 fun h' F' N'=>?_
   obtain⟨W2,le2,r2,v2⟩:=r'.newList F' N' r'.off (hv.append hv2) hl
   exact post W2 h' s.toks _ le2 r2 v2
  ·rw[if_neg hl]at ho
   cases ho
 ·rename_i vs us
  by_cases hl:(vs++us).length≤LEN
  ·rw[if_pos hl]at ho
   cases ho
   cases hx with
   | @tup _ a ys k hm h1 hv=>
   cases hy with
   | @tup _ b zs k2 hm2 h2 hv2=>
   have t1:IsTup s.heap a ys.toArray:=⟨_,r.tupAt hm,rfl,k,rfl⟩
   have t2:IsTup s.heap b zs.toArray:=⟨_,r.tupAt hm2,rfl,k2,rfl⟩
   have r0:=r
   obtain⟨m,c,led,r'⟩:=r
   refine add_tuples (hsz:=Zdg (by rw[hv.length,hv2.length,←List.length_append];exact hl)) r'.F r'.N t1 t2 (fun e=>?_) (fun _ e=>?_) fun _ _ h' F' N'=>?_
   ·have:vs=[]:=List.length_eq_zero_iff.mp (by rw[←hv.length,e];rfl)
    subst this
    exact post W s.heap s.toks _ (.refl W) r0 (.tup hm2 h2 hv2)
   ·have:us=[]:=List.length_eq_zero_iff.mp (by rw[←hv2.length,e];rfl)
    subst this
    rw[List.append_nil]at post
    exact post W s.heap s.toks _ (.refl W) r0 (.tup hm h1 hv)
   ·obtain⟨W2,le2,r2,v2⟩:=r'.newTup F' N' r'.off (hv.append hv2) hl
    exact post W2 h' s.toks _ le2 r2 v2
  ·rw[if_neg hl]at ho
   cases ho
 ·cases ho
theorem Zrx(vs:List V): ∀n,(ZfQ vs n).length=vs.length*n
 | 0=>rfl
 | n+1=>by rw[ZfQ,List.length_append,Zrx vs n,Nat.mul_succ]
theorem Zv7(xs:List Value)(n:Nat): ∀acc:Array Value,(List.foldl (fun x1 x2=>x1++x2) acc (List.replicate n xs.toArray))=acc++(List.replicate n xs).flatten.toArray:=by
 induction n with
 | zero=>intro acc;simp
 | succ n ih=>
  intro acc
  rw[List.replicate_succ,List.foldl_cons,ih,List.replicate_succ,List.flatten_cons]
  simp[Array.append_assoc]
theorem Zr6{W:Wd}{vs:List V}{xs:List Value}(h:VRs W vs xs): ∀n,VRs W (ZfQ vs n) (List.replicate n xs).flatten
 | 0=>.nil
 | n+1=>by
  rw[ZfQ,List.replicate_succ',List.flatten_append]
  simp only[List.flatten_cons,List.flatten_nil,List.append_nil]
  exact(Zr6 h n).append h
theorem Zbx: Op2 prog w (binaryOp .Mult) Za9:=by
 intro Γ W ρ H fr s Q E a b x y v H' r hx hy ho post
 unfold Za9 at ho
 split at ho
 ·rename_i i j
  by_cases hm:mulOk i j=true
  ·rw[if_pos hm]at ho
   cases ho
   cases hx;cases hy
   exact PySem.P.mul_int (post W s.heap _ _ (.refl W) r (.int _ _)) (ZwQ hm)
  ·rw[if_neg hm]at ho
   cases ho
 ·rename_i i k
  obtain⟨vs,e1,ho⟩:=Zz0.mp ho
  by_cases hc:vs.length*k.toNat≤LEN∧-(2 ^ 63:Int)≤k∧k<2 ^ 63
  ·rw[if_pos hc]at ho
   cases ho
   cases hx with
   | ref ea=>
   cases hy with
   | int _ u=>
   obtain⟨l1,ys,kk,hg,hv⟩:=r.at e1 ea
   obtain⟨m,c,led,r'⟩:=r
   have hl:=hc.1
   rw[Zbc]at hl
   refine mul_list r'.F r'.N hg hc.2.1 hc.2.2 (by rw[List.size_toArray,hv.length];omega) fun h' F' N'=>?_
   have e2:(List.foldl (fun x1 x2=>x1++x2) #[] (List.replicate (if ys.toArray.isEmpty=true then 0 else k.toNat) ys.toArray))=(List.replicate k.toNat ys).flatten.toArray:=by
    cases ys with
    | nil=>
     simp
    | cons y0 ys0=>
     have:((y0::ys0).toArray.isEmpty=true)=False:=by simp
     simp only[this,if_false]
     rw[Zv7]
     simp
   rw[e2]at N'
   obtain⟨W2,le2,r2,v2⟩:=r'.newList F' N' r'.off (Zr6 hv k.toNat) (by rw[Zrx];exact hc.1)
   exact post W2 h' s.toks _ le2 r2 v2
  ·rw[if_neg hc]at ho
   cases ho
 ·cases ho
end
end PM
end
section
namespace PM
open PySem PyProof.Rows PyProof
noncomputable def upd(ρ:Lc)(i:Nat)(v:V): Lc:=fun j=>if j=i then some v else ρ j
noncomputable abbrev Sm:=Lc→Hp→Option (Option V×Lc×Hp)
noncomputable def ZW: Sm:=fun ρ H=>some (none,ρ,H)
noncomputable def Zt(a b:Sm): Sm:=fun ρ H=>(a ρ H).bind fun p=>match p.1 with
 | some _=>some p
 | none=>b p.2.1 p.2.2
noncomputable def ZD(f:Ex): Sm:=fun ρ H=>(f ρ H).map fun p=>(some p.1,ρ,p.2)
noncomputable def ZN(i:Nat)(f:Ex): Sm:=fun ρ H=>(f ρ H).map fun p=>(none,upd ρ i p.1,p.2)
noncomputable def ZU(t:Ts)(a b:Sm): Sm:=fun ρ H=>(t ρ H).bind fun p=>if p.1 then a ρ p.2 else b ρ p.2
noncomputable def Zb8(f:Ex): Sm:=fun ρ H=>(f ρ H).map fun p=>(none,ρ,p.2)
noncomputable def Zqc: V→V→V→Hp→Option Hp
 | .ref a,.int k,v,H=>H[a]?.bind fun vs=>if a≠0∧0≤k∧k<vs.length then some (H.set a (vs.set k.toNat v))else none
 | _,_,_,_=>none
noncomputable def ZbP(f o i:Ex): Sm:=fun ρ H=>(f ρ H).bind fun p=>(o ρ p.2).bind fun q=>(i ρ q.2).bind fun u=>(Zqc q.1 u.1 p.1 u.2).map fun K=>(none,ρ,K)
noncomputable def Zd9(t:Ts)(b:Sm): Nat→Sm
 | 0=>fun _ _=>none
 | n+1=>fun ρ H=>(t ρ H).bind fun p=>if p.1 then(b ρ p.2).bind fun q=>(match q.1 with
   | some _=>some q
   | none=>Zd9 t b n q.2.1 q.2.2)else some (none,ρ,p.2)
noncomputable def PostS(Γ:Cx)(W:Wd)(fr:List (Addr×Obj))(s:Shared)(Q:Flow→Shared→Prop): Option V×Lc×Hp→Prop
 | (none,ρ',H')=>∀(W':Wd) (h':Heap) (tk':Nat),W.Le W'→Rep Γ W' ρ' H' fr h'→Q .next { s with heap:=h',toks:=tk' }
 | (some v,ρ',H')=>∀(W':Wd) (h':Heap) (tk':Nat) (x:Value),W.Le W'→Rep Γ W' ρ' H' fr h'→VR W' v x→Q (.ret x) { s with heap:=h',toks:=tk' }
theorem PostS.le{Γ:Cx}{W W':Wd}{fr:List (Addr×Obj)}{s:Shared}{h:Heap}{tk:Nat}{Q:Flow→Shared→Prop}{r:Option V×Lc×Hp}(l:W.Le W')(p:PostS Γ W fr s Q r): PostS Γ W' fr { s with heap:=h,toks:=tk } Q r:=by
 obtain⟨o,ρ',H'⟩:=r
 cases o with
 | none=>exact fun W2 h2 t2 l2 r2=>p W2 h2 t2 (l.trans l2) r2
 | some v=>exact fun W2 h2 t2 x l2 r2 x2=>p W2 h2 t2 x (l.trans l2) r2 x2
section
variable (prog:Program) (w:World)
def S1(Γ:Cx)(st:Stmt)(g:Sm): Prop:=∀(W:Wd) (ρ:Lc) (H:Hp) (fr:List (Addr×Obj)) (s:Shared) (Q:Flow→Shared→Prop) (E:Value→Shared→Prop) (r:Option V×Lc×Hp),
 Rep Γ W ρ H fr s.heap→g ρ H=some r→PostS Γ W fr s Q r→wpAny (model prog w) Γ.A (exec st Γ.env) Q E s
def Ss(Γ:Cx)(ss:List Stmt)(g:Sm): Prop:=∀(W:Wd) (ρ:Lc) (H:Hp) (fr:List (Addr×Obj)) (s:Shared) (Q:Flow→Shared→Prop) (E:Value→Shared→Prop) (r:Option V×Lc×Hp),
 Rep Γ W ρ H fr s.heap→g ρ H=some r→PostS Γ W fr s Q r→wpAny (model prog w) Γ.A (execs ss Γ.env) Q E s
def Sto(Γ:Cx)(x:Str)(i:Nat): Prop:=∀(W:Wd) (ρ:Lc) (H:Hp) (fr:List (Addr×Obj)) (s:Shared) (Q:Unit→Shared→Prop) (E:Value→Shared→Prop) (v:V) (y:Value),
 Rep Γ W ρ H fr s.heap→VR W v y→(∀(h':Heap) (tk':Nat),Rep Γ W (upd ρ i v) H fr h'→Q () { s with heap:=h',toks:=tk' })→wpAny (model prog w) Γ.A (storeName Γ.env x y) Q E s
def Rd(Γ:Cx)(x:Str)(i:Nat): Prop:=∀(W:Wd) (ρ:Lc) (H:Hp) (fr:List (Addr×Obj)) (s:Shared) (Q E:Value→Shared→Prop) (v:V) (pos:Pos),
 Rep Γ W ρ H fr s.heap→ρ i=some v→(∀y,VR W v y→Q y s)→wpAny (model prog w) Γ.A (eval (.Name x pos) Γ.env) Q E s
end
section
variable {prog:Program} {w:World} {Γ:Cx}
theorem Zkx{x:Str}{i:Nat}{pos:Pos}(h:Rd prog w Γ x i): J prog w Γ (.Name x pos) (Za i):=by
 intro W ρ H fr s Q E v H' r hf post
 obtain⟨u,e1,e2⟩:=Zz1.mp hf
 cases e2
 exact h W ρ H fr s Q E v pos r e1 fun y hy=>post W s.heap s.toks y (.refl W) r hy
theorem Z2: Ss prog w Γ [] ZW:=fun W ρ H fr s Q E r rp hf post=>by
 cases hf
 exact wpAny_execs_nil (post W s.heap s.toks (.refl W) rp)
theorem Zx{st:Stmt}{ss:List Stmt}{a b:Sm}(h1:S1 prog w Γ st a)(h2:Ss prog w Γ ss b): Ss prog w Γ (st::ss) (Zt a b):=by
 intro W ρ H fr s Q E r rp hf post
 obtain⟨p,e1,hf⟩:=Zz0.mp hf
 refine wpAny_execs_cons (h1 W ρ H fr s _ E p rp e1 ?_)
 obtain⟨o,ρ1,H1⟩:=p
 cases o with
 | some v=>
  cases hf
  exact fun W1 k1 t1 x l1 r1 x1=>post W1 k1 t1 x l1 r1 x1
 | none=>exact fun W1 k1 t1 l1 r1=>h2 W1 ρ1 H1 fr _ Q E r r1 hf (post.le l1)
theorem Zy{st:Stmt}{a:Sm}(h1:S1 prog w Γ st a): Ss prog w Γ [st] a:=by
 intro W ρ H fr s Q E r rp hf post
 refine wpAny_execs_cons (h1 W ρ H fr s _ E r rp hf ?_)
 obtain⟨o,ρ1,H1⟩:=r
 cases o with
 | some v=>exact fun W1 k1 t1 x l1 r1 x1=>post W1 k1 t1 x l1 r1 x1
 | none=>exact fun W1 k1 t1 l1 r1=>wpAny_execs_nil (post W1 k1 t1 l1 r1)
theorem ZH{e:Expr}{pos:Pos}{f:Ex}(h:J prog w Γ e f): S1 prog w Γ (.Return (some e) pos) (ZD f):=by
 intro W ρ H fr s Q E r rp hf post
 obtain⟨p,e1,e2⟩:=Zz1.mp hf
 cases e2
 exact wpAny_Return_some (h W ρ H fr s _ E _ _ rp e1 post)
theorem Z3{t:Expr}{a b:List Stmt}{pos:Pos}{u:Ts}{f g:Sm}(ht:JT prog w Γ t u)(h1:Ss prog w Γ a f)(h2:Ss prog w Γ b g): S1 prog w Γ (.If t a b pos) (ZU u f g):=by
 intro W ρ H fr s Q E r rp hf post
 obtain⟨p,e1,hf⟩:=Zz0.mp hf
 refine wpAny_If (ht W ρ H fr s _ E _ _ rp e1 fun W1 k1 t1 l1 r1=>?_)
 obtain⟨c,H1⟩:=p
 cases c with
 | true=>exact h1 W1 ρ H1 fr _ Q E r r1 hf (post.le l1)
 | false=>exact h2 W1 ρ H1 fr _ Q E r r1 hf (post.le l1)
theorem Zdj{e:Expr}{pos:Pos}{f:Ex}(h:J prog w Γ e f)(hi:interactive Γ.env=false:=by rfl)(hs:swapsWith e none pos.line Γ.env=pure false:=by rfl): S1 prog w Γ (.Expr e pos) (Zb8 f):=by
 intro W ρ H fr s Q E r rp hf post
 obtain⟨p,e1,e2⟩:=Zz1.mp hf
 cases e2
 exact wpAny_Expr_any (h W ρ H fr s _ E _ _ rp e1 fun W1 k1 t1 x l1 r1 x1=>post W1 k1 t1 l1 r1) hi hs
theorem ZZ{x:Str}{i:Nat}{e:Expr}{pos' pos:Pos}{f:Ex}(hx:Sto prog w Γ x i)(h:J prog w Γ e f)(hs:swapsWith e (some (.Name x pos')) pos.line Γ.env=pure false:=by rfl): S1 prog w Γ (.Assign [.Name x pos'] e pos) (ZN i f):=by
 intro W ρ H fr s Q E r rp hf post
 obtain⟨p,e1,e2⟩:=Zz1.mp hf
 cases e2
 refine wpAny_Assign_Name (h W ρ H fr s _ E _ _ rp e1 fun W1 k1 t1 y l1 r1 y1=>?_) hs
 exact hx W1 ρ _ fr _ _ E _ y r1 y1 fun h' tk' r2=>post W1 h' tk' l1 r2
theorem Zry{t:Expr}{a:List Stmt}{pos:Pos}{u:Ts}{f:Sm}(n:Nat)(ht:JT prog w Γ t u)(h1:Ss prog w Γ a f): S1 prog w Γ (.While t a [] pos) (Zd9 u f n):=by
 intro W ρ H fr s Q E r rp hf post
 refine wpAny_While ?_
 refine codeAny_whileLoop (fun k s'=>∃W' ρ' H' h' tk',s' = { s with heap:=h',toks:=tk' }∧W.Le W'∧Rep Γ W' ρ' H' fr h'∧Zd9 u f k ρ' H'=some r) ?_ n ⟨W,ρ,H,s.heap,s.toks,rfl,.refl W,rp,hf⟩
 rintro k s' ⟨W1,ρ1,H1,k1,t1,rfl,l1,r1,e⟩
 cases k with
 | zero=>cases e
 | succ k=>
  obtain⟨p,e1,e⟩:=Zz0.mp e
  refine ht W1 ρ1 H1 fr _ _ _ _ _ r1 e1 fun W2 k2 t2 l2 r2=>?_
  obtain⟨c,H2⟩:=p
  cases c with
  | false=>
   cases e
   exact wpAny_execs_nil (post W2 k2 t2 (l1.trans l2) r2)
  | true=>
   obtain⟨q,e2,e⟩:=Zz0.mp e
   refine h1 W2 ρ1 H2 fr _ _ _ q r2 e2 ?_
   obtain⟨o,ρ3,H3⟩:=q
   cases o with
   | some v=>
    cases e
    exact fun W3 k3 t3 x l3 r3 x3=>post W3 k3 t3 x ((l1.trans l2).trans l3) r3 x3
   | none=>exact fun W3 k3 t3 l3 r3=>⟨k,Nat.lt_succ_self k,W3,ρ3,H3,k3,t3,rfl,(l1.trans l2).trans l3,r3,e⟩
end
noncomputable def ZhO: List V→Hp→Option (V×Hp)
 | [.ref a,v],H=>H[a]?.bind fun vs=>if a≠0∧vs.length<LEN then some (.none,H.set a (vs++[v]))else none
 | _,_=>none
section
variable {prog:Program} {w:World} {Γ:Cx}
theorem Zv8: OpN prog w (fun xs=>call (.builtin "list.append") xs) ZhO:=by
 intro Γ W ρ H fr s Q E as xs v H' r hx ho post
 unfold ZhO at ho
 split at ho
 ·obtain⟨vs,e1,e2⟩:=Zz0.mp ho
  obtain⟨x,y,ex,rx,ry⟩:=hx.two
  subst ex
  split at e2
  ·rename_i hl
   cases e2
   cases rx with
   | @ref _ a0 ea=>
    obtain⟨_,ys,k,hg,hv⟩:=r.at e1 ea
    refine append_at (hsz:=Zdg (by rw[List.size_toArray,hv.length];omega)) hg fun h' sb hg'=>?_
    have hg2:h'.get? a0=some (ZbN (ys++[y]) (k+1)):=by rw[hg'];simp
    exact post W h' s.toks _ (.refl W) (r.change hl.1 e1 ea sb hg2 (hv.snoc ry) (by simp;omega)) .none
  ·cases e2
 ·cases ho
end
end PM
end
section
namespace PM
open PySem PySem.W PyProof.Rows PyProof
theorem Zr7: ∀{l:List Value} {k:Nat} {v:Value},k<l.length→ki_setL l k v=some (l.set k v)
 | [],_,_,h=>by simp at h
 | x::r,0,v,_=>by simp[ki_setL]
 | x::r,k+1,v,h=>by
  have:=Zr7 (l:=r) (k:=k) (v:=v) (by simpa using h)
  simp[ki_setL,this]
theorem Zv9{a k v:V}{H K:Hp}(h:Zqc a k v H=some K): ∃i j vs,a=.ref i∧k=.int j∧H[i]?=some vs∧(i≠0∧0≤j∧j<vs.length)∧K=H.set i (vs.set j.toNat v):=by
 cases a <;> first | (cases h;done) | skip
 cases k <;> first | (cases h;done) | skip
 obtain⟨vs,e1,e2⟩:=Zz0.mp h
 split at e2
 ·rename_i c
  cases e2
  exact⟨_,_,vs,rfl,rfl,e1,c,rfl⟩
 ·cases e2
theorem Zuw{a v x:V}{H K:Hp}(h:ZhO [a,v] H=some (x,K)): ∃i,a=.ref i:=by
 cases a <;> first | (cases h;done) | skip
 exact⟨_,rfl⟩
noncomputable def Zfl(o f:Ex): Ex:=fun ρ H=>(o ρ H).bind fun p=>(f ρ p.2).bind fun q=>ZhO [p.1,q.1] q.2
section
variable {prog:Program} {w:World} {Γ:Cx}
theorem S1.put{o i value:Expr}{pos' pos:Pos}{f g k:Ex}(hf:J prog w Γ value f)(ho:J prog w Γ o g)(hi:J prog w Γ i k)(hs:swapsWith value (some (.Subscript o i pos')) pos.line Γ.env=pure false:=by rfl): S1 prog w Γ (.Assign [.Subscript o i pos'] value pos) (ZbP f g k):=by
 intro W ρ H fr s Q E r rp hx post
 obtain⟨p,e1,hx⟩:=Zz0.mp hx
 obtain⟨q,e2,hx⟩:=Zz0.mp hx
 obtain⟨u,e3,hx⟩:=Zz0.mp hx
 obtain⟨K,e4,e5⟩:=Zz1.mp hx
 cases e5
 refine wpAny_Assign_Subscript (hf W ρ H fr s _ E _ _ rp e1 fun W1 k1 t1 x l1 r1 x1=>?_) hs
 refine ho W1 ρ _ fr _ _ E _ _ r1 e2 fun W2 k2 t2 y l2 r2 y2=>?_
 refine hi W2 ρ _ fr _ _ E _ _ r2 e3 fun W3 k3 t3 z l3 r3 z3=>?_
 have x3:=x1.mono (l2.trans l3)
 have y3:=y2.mono l3
 obtain⟨b,kk,vs,eb,ek,hvs,hc,e6⟩:=Zv9 e4
 subst e6
 rw[eb]at y3
 rw[ek]at z3
 cases y3 with
 | @ref _ a ea=>
 cases z3 with
 | int _ tz=>
 obtain⟨hl,xs,n,hg,hv⟩:=r3.at hvs ea
 obtain⟨m,c,led,r'⟩:=r3
 have hll:=hl
 rw[Zbc]at hll
 have hk:kk.toNat<xs.length:=by rw[hv.length];omega
 obtain⟨_,a',xs',n',h1,h2,h3⟩:=r'.R.lists b vs hvs
 rw[ea]at h1
 cases h1
 have h2:=r'.inLed hc.1 ea h2
 have N2:News Γ.h₀ Γ.L k3 ((a,ZbN xs n)::led.filter (fun q=>decide (q.1≠a))):=by
  intro q hq
  rcases Zz7.mp hq with e | hq
  ·subst e
   exact⟨hg,(r'.N _ h2).2⟩
  ·exact r'.N q (List.mem_filter.mp hq).1
 refine ki_set (its:=xs.toArray) (n:=n) (q:=xs.set kk.toNat x) r'.F N2 hc.2.1 (by omega) (by simpa using Zr7 hk) (Upd.head fun q hq=>by simpa using (List.mem_filter.mp hq).2) fun h' F' N'=>?_
 exact post W3 h' t3 ((l1.trans l2).trans l3) (r'.changed hc.1 hvs ea F' N' (hv.set _ x3) (by simpa using hl))
theorem J.append{o e:Expr}{apos pos:Pos}{f g:Ex}(ho:J prog w Γ o f)(he:J prog w Γ e g)(hbase:attributeBase o "append" Γ.env (eval o Γ.env)=eval o Γ.env:=by rfl)
  (hfew:((backTo pos (starEach [e] Γ.env)).all (fun x=>!x.1) && (backToKw pos (keywordEach [] Γ.env)).all (fun x=>x.1.isSome) && decide (([e]:List Expr).length+([]:List Keyword).length+(if([]:List Keyword).isEmpty then 0 else 1)<30))=true:=by rfl)
  (hline:(apos.endLine == pos.line)=true:=by rfl) (htrees:backTo pos (starEach [e] Γ.env)=[(false,eval e Γ.env)]:=by rfl):J prog w Γ (.Call (.Attribute o "append" apos) [e] [] pos) (Zfl f g):=by
 intro W ρ H fr s Q E v H' r hx post
 obtain⟨p,e1,hx⟩:=Zz0.mp hx
 obtain⟨q,e2,e3⟩:=Zz0.mp hx
 refine wpAny_Call_append hbase hfew hline htrees (ho W ρ H fr s _ E _ _ r e1 fun W1 k1 t1 x l1 r1 x1=>?_)
 obtain⟨v1,H1⟩:=p
 obtain⟨b,hb⟩:=Zuw e3
 subst hb
 have hb:=r1.refIn x1
 cases x1 with
 | @ref _ a ea=>
 obtain⟨_,xs,n,hg,hv⟩:=r1.at (List.getElem?_eq_getElem hb) ea
 refine⟨a,xs.toArray,rfl,⟨_,n,hg,rfl,rfl,rfl⟩,?_⟩
 refine he W1 ρ _ fr _ _ E _ _ r1 e2 fun W2 k2 t2 y l2 r2 y2=>?_
 exact Zv8 Γ W2 ρ _ fr _ Q E _ [.ref a,y] v H' r2 (.cons (.ref (l2.at ea)) (.cons y2 .nil)) e3 fun W3 k3 t3 z l3 r3 z3=>post W3 k3 t3 z ((l1.trans l2).trans l3) r3 z3
end
end PM
end
section
namespace PM
open PySem PySem.W PyProof.Rows PyProof
noncomputable abbrev Nx:=Nat→Hp→Option (Option V)
noncomputable def ZAD(Γ:Cx)(W:Wd)(ρ:Lc)(H:Hp)(fr:List (Addr×Obj))(s:Shared)(It:Nat→List (Addr×Obj)→Prop)(i:Nat)(Q:Option Value→Shared→Prop): Option V→Prop
 | none=>∀(h':Heap) (tk':Nat),Rep Γ W ρ H fr h'→Q none { s with heap:=h',toks:=tk' }
 | some v=>∀(fs':List (Addr×Obj)) (h':Heap) (tk':Nat) (x:Value),It (i+1) fs'→Rep Γ W ρ H (fs'++fr) h'→VR W v x→Q (some x) { s with heap:=h',toks:=tk' }
structure Itr(prog:Program)(w:World)(Γ:Cx)(W0:Wd)(it:Value)(as:List Addr)(It:Nat→List (Addr×Obj)→Prop)(nx:Nx): Prop where
 adr:∀i fs,It i fs→fs.map (·.1)=as
 next:∀(i:Nat) (W:Wd) (ρ:Lc) (H:Hp) (fr fs:List (Addr×Obj)) (s:Shared) (Q:Option Value→Shared→Prop) (E:Value→Shared→Prop) (o:Option V),W0.Le W→Rep Γ W ρ H (fs++fr) s.heap→(∀a∈as,∀t∈fr,a≠t.1)→It i fs→nx i H=some o →
  ZAD Γ W ρ H fr s It i Q o→wpAny (model prog w) Γ.A (pyNext it) Q E s
 self:∀(i:Nat) (W:Wd) (ρ:Lc) (H:Hp) (fr fs:List (Addr×Obj)) (s:Shared) (Q E:Value→Shared→Prop),W0.Le W→Rep Γ W ρ H (fs++fr) s.heap→It i fs→Q it s→wpAny (model prog w) Γ.A (pyIter it) Q E s
noncomputable abbrev Src:=Lc→Hp→Option (Nx×Nat×Hp)
def JI(prog:Program)(w:World)(Γ:Cx)(e:Expr)(g:Src): Prop:=∀(W:Wd) (ρ:Lc) (H:Hp) (fr:List (Addr×Obj)) (s:Shared) (Q E:Value→Shared→Prop) (nx:Nx) (n:Nat) (H':Hp),
 Rep Γ W ρ H fr s.heap→g ρ H=some (nx,n,H') →
 (∀(W':Wd) (h':Heap) (tk':Nat) (it:Value) (as:List Addr) (It:Nat→List (Addr×Obj)→Prop) (fs:List (Addr×Obj)),W.Le W'→It 0 fs→Rep Γ W' ρ H' (fs++fr) h'→(∀a∈as,∀t∈fr,a≠t.1)→Itr prog w Γ W' it as It nx→Q it { s with heap:=h',toks:=tk' }) →
 wpAny (model prog w) Γ.A (eval e Γ.env) (fun xv s₁=>wpAny (model prog w) Γ.A (pyIter xv) Q E s₁) E s
noncomputable def ZpA(a:Nat): Nx:=fun i H=>H[a]?.map fun vs=>vs[i]?
noncomputable def ZsN(vs:List V): Nx:=fun i _=>some vs[i]?
noncomputable def Zfm(a c:Int)(n:Nat): Nx:=fun i _=>some (if i<n then some (.int (a+i*c))else none)
noncomputable def ZbA(f:Ex): Src:=fun ρ H=>(f ρ H).bind fun p=>match p.1 with
 | .ref a=>p.2[a]?.map fun vs=>(ZpA a,vs.length+1,p.2)
 | .tup vs=>some (ZsN vs,vs.length+1,p.2)
 | _=>none
noncomputable def rngN(a b c:Int): Nat:=(Builtin.Range.rangeSize a b c).toNat
noncomputable def Zcy(a b c:Int)(H:Hp): Option (Nx×Nat×Hp):=if c≠0∧Builtin.Range.small a b c=true∧0≤Builtin.Range.rangeSize a b c∧rngN a b c≤LEN∧Builtin.divisionGoesByPylong (b-a) c=false then some (Zfm a c (rngN a b c),rngN a b c+1,H)else none
noncomputable def Za1(g:Exs): Src:=fun ρ H=>(g ρ H).bind fun p=>match p.1 with
 | [.int b]=>Zcy 0 b 1 p.2
 | [.int a,.int b]=>Zcy a b 1 p.2
 | [.int a,.int b,.int c]=>Zcy a b c p.2
 | _=>none
section
variable {prog:Program} {w:World} {Γ:Cx}
theorem ZpB{W0:Wd}{I:Addr}{nx:Nx}(P:Nat→Obj→Prop)
  (next:∀(i:Nat) (W:Wd) (ρ:Lc) (H:Hp) (fr:List (Addr×Obj)) (ob:Obj) (s:Shared) (Q:Option Value→Shared→Prop) (E:Value→Shared→Prop) (o:Option V),W0.Le W→Rep Γ W ρ H ((I,ob)::fr) s.heap→P i ob→nx i H=some o →
   (match o with
    | none=>∀(h':Heap) (tk':Nat),(∀b o,b≠I→s.heap.get? b=some o→h'.get? b=some o)→Q none { s with heap:=h',toks:=tk' }
    | some v=>∀(ob':Obj) (h':Heap) (tk':Nat) (x:Value),P (i+1) ob'→h'.get? I=some ob'→(∀b o,b≠I→s.heap.get? b=some o→h'.get? b=some o)→VR W v x→Q (some x) { s with heap:=h',toks:=tk' })→wpAny (model prog w) Γ.A (pyNext (.ref I)) Q E s)
  (self:∀(i:Nat) (W:Wd) (ρ:Lc) (H:Hp) (fr:List (Addr×Obj)) (ob:Obj) (s:Shared) (Q E:Value→Shared→Prop),W0.Le W→Rep Γ W ρ H ((I,ob)::fr) s.heap→P i ob→Q (.ref I) s→wpAny (model prog w) Γ.A (pyIter (.ref I)) Q E s):
  Itr prog w Γ W0 (.ref I) [I] (fun i fs=>∃ob,fs=[(I,ob)]∧P i ob) nx:=by
 refine⟨?_,?_,?_⟩
 ·rintro i fs ⟨ob,e,_⟩
  rw[e]
  rfl
 ·rintro i W ρ H fr fs s Q E o le r ap ⟨ob,e,hp⟩ hn post
  subst e
  refine next i W ρ H fr ob s Q E o le r hp hn ?_
  have ap':∀q∈[(I,ob)],∀t∈fr,q.1≠t.1:=fun q hq t ht=>by rw[List.mem_singleton.mp hq];exact ap I Zz5 t ht
  cases o with
  | none=>
   intro h' tk' keep
   have:=Rep.swap (fs:=[(I,ob)]) (fs':=[]) r ap' (fun b o hb e=>keep b o (fun q=>hb (by simp[q])) e) (fun q hq=>nomatch hq)
   exact post h' tk' this
  | some v=>
   intro ob' h' tk' x hp' hg keep hx
   have:=Rep.swap (fs:=[(I,ob)]) (fs':=[(I,ob')]) r ap' (fun b o hb e=>keep b o (fun q=>hb (by simp[q])) e) (fun q hq=>by rw[List.mem_singleton.mp hq];exact⟨hg,by simp⟩)
   exact post [(I,ob')] h' tk' x ⟨ob',rfl,hp'⟩ this hx
 ·rintro i W ρ H fr fs s Q E le r ⟨ob,e,hp⟩ q
  subst e
  exact self i W ρ H fr ob s Q E le r hp q
theorem JI.seq{e:Expr}{f:Ex}(h:J prog w Γ e f): JI prog w Γ e (ZbA f):=by
 intro W ρ H fr s Q E nx n H' r hf post
 obtain⟨p,e1,hf⟩:=Zz0.mp hf
 refine h W ρ H fr s _ E _ _ r e1 fun W1 k1 t1 x l1 r1 x1=>?_
 obtain⟨v,H1⟩:=p
 cases x1 with
 | none=>cases hf
 | bool _=>cases hf
 | int _ _=>cases hf
 | str _ _=>cases hf
 | @tup vs a xs k hm hl hs=>
  cases hf
  have it:k1.IsTuple a xs.toArray:=⟨_,r1.tupAt hm,rfl,k,rfl⟩
  refine wpAny_pyIter_tuple it ?_
  obtain⟨r2,ap⟩:=r1.more (fs:=[(k1.objs.size,{ cls:=.type "tuple_iterator",data:=.fields #[.ref a,.int 0 0] })]) (fun b o e=>Heap.get?_push_of_some { cls:=.type "tuple_iterator",data:=.fields #[.ref a,.int 0 0] } e) (fun q hq=>by rw[List.mem_singleton.mp hq];exact⟨Heap.get?_push_size _ rfl,Nat.le_refl _⟩)
  refine post W1 _ t1 _ [k1.objs.size] _ _ l1 ⟨_,rfl,?_⟩ r2 (fun b hb t ht=>by rw[List.mem_singleton.mp hb];exact ap _ Zz5 t ht)
   (ZpB (fun i ob=>ob.cls=.type "tuple_iterator"∧ob.data=.fields #[.ref a,.int i 0]) ?_ ?_)
  ·intro i W ρ H fr ob s Q E o le r hp hn post
   have g1:s.heap.IsTupleIter k1.objs.size a i:=⟨ob,r.frAt Zz5,hp.1,hp.2⟩
   have g2:s.heap.IsTuple a xs.toArray:=⟨_,r.tupAt (le.tups _ hm),rfl,k,rfl⟩
   have ne:a≠k1.objs.size:=Nat.ne_of_lt (Heap.lt_size (r1.tupAt hm))
   have Wk:=Walks.tuple (prog:=prog) (w:=w) Γ.hh k1.objs.size a ne xs.toArray
   cases hn
   cases ev:vs[i]? with
   | none=>
    rw[ev]at post
    have hi:xs.toArray[i]?=none:=by have:=List.getElem?_eq_none_iff.mp ev;rw[←hs.length]at this;simpa using this
    exact wpAny_pyNext_tuple_end Γ.hh g1 g2 hi fun h' he'=>post h' s.toks fun b o hb e=>he' b o hb e
   | some v=>
    rw[ev]at post
    obtain⟨y,hy,ry⟩:=hs.at ev
    refine wpAny_pyNext_tuple_item g1 g2 (x:=y) (by simpa using hy) fun h' hit' hs'=>?_
    obtain⟨ob',h1,h2,h3⟩:=hit'
    exact post ob' h' s.toks y ⟨h2,h3⟩ h1 (fun b o hb e=>hs'.extBut b o hb e) (ry.mono le)
  ·intro i W ρ H fr ob s Q E le r hp q
   exact wpAny_pyIter_tupleiter (⟨ob,r.frAt Zz5,hp.1,hp.2⟩:s.heap.IsTupleIter k1.objs.size a i) q
  ·exact⟨rfl,rfl⟩
 | @ref i0 a ea=>
  obtain⟨vs,e2,e3⟩:=Zz1.mp hf
  cases e3
  obtain⟨hl,xs,k,hg,hv⟩:=r1.at e2 ea
  have isl:k1.IsList a xs.toArray:=⟨_,hg,rfl,k,rfl⟩
  refine wpAny_pyIter_list isl ?_
  obtain⟨r2,ap⟩:=r1.more (fs:=[(k1.objs.size,{ cls:=.type "list_iterator",data:=.fields #[.ref a,.int 0 0] })]) (fun b o e=>Heap.get?_push_of_some { cls:=.type "list_iterator",data:=.fields #[.ref a,.int 0 0] } e) (fun q hq=>by rw[List.mem_singleton.mp hq];exact⟨Heap.get?_push_size _ rfl,Nat.le_refl _⟩)
  refine post W1 _ t1 _ [k1.objs.size] _ _ l1 ⟨_,rfl,?_⟩ r2 (fun b hb t ht=>by rw[List.mem_singleton.mp hb];exact ap _ Zz5 t ht)
   (ZpB (fun i ob=>ob.cls=.type "list_iterator"∧ob.data=.fields #[.ref a,.int i 0]) ?_ ?_)
  ·intro i W ρ H fr ob s Q E o le r hp hn post
   obtain⟨us,eu,e4⟩:=Zz1.mp hn
   subst e4
   obtain⟨hl2,ys,k2,hg2,hv2⟩:=r.at eu (le.at ea)
   have g1:s.heap.IsListIter k1.objs.size a i:=⟨ob,r.frAt Zz5,hp.1,hp.2⟩
   have g2:s.heap.IsList a ys.toArray:=⟨_,hg2,rfl,k2,rfl⟩
   cases ev:us[i]? with
   | none=>
    rw[ev]at post
    have hi:ys.toArray[i]?=none:=by have:=List.getElem?_eq_none_iff.mp ev;rw[←hv2.length]at this;simpa using this
    exact wpAny_pyNext_list_end Γ.hh g1 g2 hi fun h' he'=>post h' s.toks fun b o hb e=>he' b o hb e
   | some v=>
    rw[ev]at post
    obtain⟨y,hy,ry⟩:=hv2.at ev
    refine wpAny_pyNext_list_item g1 g2 (x:=y) (by simpa using hy) fun h' hit' hs'=>?_
    obtain⟨ob',h1,h2,h3⟩:=hit'
    exact post ob' h' s.toks y ⟨h2,h3⟩ h1 (fun b o hb e=>hs'.extBut b o hb e) ry
  ·intro i W ρ H fr ob s Q E le r hp q
   exact wpAny_pyIter_listiter (⟨ob,r.frAt Zz5,hp.1,hp.2⟩:s.heap.IsListIter k1.objs.size a i) q
  ·exact⟨rfl,rfl⟩
theorem Zux{a b c:Int}{H:Hp}{z:Nx×Nat×Hp}(h:Zcy a b c H=some z): c≠0∧Builtin.divisionGoesByPylong (b-a) c=false:=by
 unfold Zcy at h
 split at h
 ·rename_i hc
  exact⟨hc.1,hc.2.2.2.2⟩
 ·cases h
theorem ZwT{W0:Wd}{I:Addr}{a c:Int}{n:Nat}: Itr prog w Γ W0 (.ref I) [I] (fun i fs=>∃ob,fs=[(I,ob)]∧(i≤n∧ob = { cls:=.type "range_iterator",dict:=none,data:=.fields #[rawInt (a+(i:Nat)*c),rawInt ((n:Int)-(i:Nat)),rawInt c],slots:=#[] })) (Zfm a c n):=by
 have Wk:=Walks.range (prog:=prog) (w:=w) Γ.hh I a c n
 refine ZpB (fun i ob=>i≤n∧ob = { cls:=.type "range_iterator",dict:=none,data:=.fields #[rawInt (a+(i:Nat)*c),rawInt ((n:Int)-(i:Nat)),rawInt c],slots:=#[] }) ?_ ?_
 ·intro i W ρ H fr ob s Q E o le r hp hn post
  have g:IsRangeIter s.heap I (a+(i:Nat)*c) ((n:Int)-(i:Nat)) c:=(r.frAt Zz5).trans (congrArg some hp.2)
  cases hn
  by_cases hi:i<n
  ·rw[if_pos hi]at post
   refine Wk.item i s Q E hi g fun v h' tk hv st keep=>?_
   obtain⟨t,e⟩:=hv
   subst e
   exact post _ h' tk _ ⟨hi,rfl⟩ st (fun b o hb e=>keep b o (by simpa using hb) e) (.int _ _)
  ·rw[if_neg hi]at post
   have e:i=n:=by have:=hp.1;omega
   subst e
   exact Wk.done s Q E g fun h' tk keep=>post h' tk fun b o hb e=>keep b o (by simpa using hb) e
 ·intro i W ρ H fr ob s Q E le r hp q
  have g:IsRangeIter s.heap I (a+(i:Nat)*c) ((n:Int)-(i:Nat)) c:=(r.frAt Zz5).trans (congrArg some hp.2)
  exact Wk.self i s Q E g q
theorem Zm1{a b c:Int}{t u v:Tok}{W:Wd}{ρ:Lc}{H:Hp}{fr:List (Addr×Obj)}{s:Shared}{k:Heap}{tk:Nat}{Q E:Value→Shared→Prop}{nx:Nx}{n:Nat}{H':Hp}(r:Rep Γ W ρ H fr k)(hm:Zcy a b c H=some (nx,n,H'))
  (post:∀(W':Wd) (h':Heap) (tk':Nat) (it:Value) (as:List Addr) (It:Nat→List (Addr×Obj)→Prop) (fs:List (Addr×Obj)),W.Le W'→It 0 fs→Rep Γ W' ρ H' (fs++fr) h'→(∀a∈as,∀t∈fr,a≠t.1)→Itr prog w Γ W' it as It nx→Q it { s with heap:=h',toks:=tk' }):
  wpAny (model prog w) Γ.A (pyIter (.ref k.objs.size)) Q E { s with heap:=k.push { cls:=.type "range",data:=.fields #[.int a t,.int b u,.int c v] },toks:=tk }:=by
 unfold Zcy at hm
 split at hm
 ·rename_i hc
  cases hm
  have hr:IsRange (k.push { cls:=.type "range",data:=.fields #[.int a t,.int b u,.int c v] }) k.objs.size a b c t u v:=IsRange.new ..
  refine wpAny_pyIter_range hr hc.2.1 ?_
  have rp:=r.push { cls:=.type "range",data:=.fields #[.int a t,.int b u,.int c v] }
  have en:Builtin.Range.rangeSize a b c=((rngN a b c:Nat):Int):=(Int.toNat_of_nonneg hc.2.2.1).symm
  dsimp only
  generalize hk:k.push { cls:=.type "range",data:=.fields #[.int a t,.int b u,.int c v] } = k2 at rp ⊢
  obtain⟨r2,ap⟩:=rp.more (fs:=[(k2.objs.size,{ cls:=.type "range_iterator",data:=.fields #[rawInt a,rawInt (Builtin.Range.rangeSize a b c),rawInt c] })]) (fun b' o e=>Heap.get?_push_of_some { cls:=.type "range_iterator",data:=.fields #[rawInt a,rawInt (Builtin.Range.rangeSize a b c),rawInt c] } e) (fun q hq=>by rw[List.mem_singleton.mp hq];exact⟨Heap.get?_push_size _ rfl,Nat.le_refl _⟩)
  refine post W _ tk _ [k2.objs.size] _ _ (.refl W) ⟨_,rfl,Nat.zero_le _,?_⟩ r2 (fun b hb t ht=>by rw[List.mem_singleton.mp hb];exact ap _ Zz5 t ht) (ZwT (a:=a) (c:=c) (n:=rngN a b c))
  rw[en]
  simp
 ·cases hm
theorem JI.range{x:Str}{np pos:Pos}{e:Expr}{es:List Expr}{g:Exs}(hn:Nm prog w Γ x (.type "range"))(h:Js prog w Γ (e::es) g)
  (he:starEach (e::es) Γ.env=(false,eval e Γ.env)::starEach es Γ.env:=by rfl) (hp:∀pos,(backTo pos (starEach es Γ.env)).any (·.1)=false:=by intro _;rfl):JI prog w Γ (.Call (.Name x np) (e::es) [] pos) (Za1 g):=by
 intro W ρ H fr s Q E nx n H' r hf post
 obtain⟨p,e1,hf⟩:=Zz0.mp hf
 refine wpAny_Call_ofName (hn.use r ?_)
 refine PySem.Pv.callWith_type1 (h pos W ρ H fr s _ E _ _ r e1 fun W1 k1 t1 xs l1 r1 x1=>?_) he (hp pos)
 obtain⟨vs,H1⟩:=p
 dsimp only at hf x1 r1
 have post1:=fun W' h' tk' it as It fs (l:W1.Le W')=>post W' h' tk' it as It fs (l1.trans l)
 split at hf
 ·obtain⟨y,ex,ry⟩:=x1.one
  subst ex
  cases ry
  exact call_range_1 (Zm1 r1 hf post1)
 ·obtain⟨y,z,ex,ry,rz⟩:=x1.two
  subst ex
  cases ry
  cases rz
  exact call_range_2 (Zm1 r1 hf post1)
 ·cases x1 with
  | cons ry x1=>
  obtain⟨y,z,ex,rz,ru⟩:=x1.two
  subst ex
  cases ry
  cases rz
  cases ru
  have hc:=Zux hf
  exact call_range_3 hc.1 (Zm1 r1 hf post1) (.inl hc.2)
 ·cases hf
end
noncomputable def Zc9(nx:Nx)(put:V→Lc→Option Lc)(b:Sm): Nat→Nat→Sm
 | 0,_=>fun _ _=>none
 | n+1,i=>fun ρ H=>(nx i H).bind fun o=>match o with
  | none=>some (none,ρ,H)
  | some v=>(put v ρ).bind fun ρ1=>(b ρ1 H).bind fun q=>match q.1 with
   | some _=>some q
   | none=>Zc9 nx put b n (i+1) q.2.1 q.2.2
noncomputable def ZaX(g:Src)(put:V→Lc→Option Lc)(b:Sm): Sm:=fun ρ H=>(g ρ H).bind fun z=>Zc9 z.1 put b z.2.1 0 ρ z.2.2
noncomputable def put1(i:Nat): V→Lc→Option Lc:=fun v ρ=>some (upd ρ i v)
section
variable {prog:Program} {w:World} {Γ:Cx}
theorem ZcI{x:Str}{i:Nat}{px pos:Pos}{it:Expr}{body:List Stmt}{g:Src}{b:Sm}(hx:Sto prog w Γ x i)(hg:JI prog w Γ it g)(hb:Ss prog w Γ body b)(hs:∀x,foldedSetIterable it Γ.env x=pure x:=by intro _;rfl): S1 prog w Γ (.For (.Name x px) it body [] pos) (ZaX g (put1 i) b):=by
 intro W ρ H fr s Q E r rp hf post
 obtain⟨z,e1,hf⟩:=Zz0.mp hf
 obtain⟨nx,n,H0⟩:=z
 refine wpAny_For (hg W ρ H fr s _ E nx n H0 rp e1 fun W1 k1 t1 itv as It fs l1 i1 r1 ap I1=>?_) hs
 refine codeAny_forLoop (fun k s'=>∃W' ρ' H' h' tk' j fs',s' = { s with heap:=h',toks:=tk' }∧W1.Le W'∧It j fs'∧Rep Γ W' ρ' H' (fs'++fr) h'∧Zc9 nx (put1 i) b k j ρ' H'=some r) ?_ n ⟨W1,ρ,H0,k1,t1,0,fs,rfl,.refl _,i1,r1,hf⟩
 rintro k s' ⟨W2,ρ2,H2,k2,t2,j,fs2,rfl,l2,i2,r2,e⟩
 cases k with
 | zero=>cases e
 | succ k=>
  obtain⟨o,e2,e⟩:=Zz0.mp e
  refine I1.next j W2 ρ2 H2 fr fs2 _ _ _ o l2 r2 ap i2 e2 ?_
  cases o with
  | none=>
   cases e
   intro h' tk' r3
   exact wpAny_execs_nil (post W2 h' tk' (l1.trans l2) r3)
  | some v=>
   intro fs3 k3 t3 y i3 r3 y3
   obtain⟨ρ3,e3,e⟩:=Zz0.mp e
   cases e3
   obtain⟨q,e4,e⟩:=Zz0.mp e
   refine wpAny_assign_Name (hx W2 ρ2 H2 (fs3++fr) _ _ _ v y r3 y3 fun k4 t4 r4=>?_)
   refine hb W2 _ H2 (fs3++fr) _ _ _ q r4 e4 ?_
   obtain⟨u,ρ5,H5⟩:=q
   cases u with
   | some u=>
    cases e
    exact fun W5 k5 t5 x5 l5 r5 v5=>post W5 k5 t5 x5 ((l1.trans l2).trans l5) (r5.less fun q hq=>List.mem_append_right _ hq) v5
   | none=>exact fun W5 k5 t5 l5 r5=>⟨k,Nat.lt_succ_self k,W5,ρ5,H5,k5,t5,j+1,fs3,rfl,l2.trans l5,i3,r5,e⟩
end
end PM
end
section
namespace PM
open PySem PySem.W PySem.Calls PyProof.Rows PyProof
structure OwnF(names:List Str)(cs:Scope)(cl:List (Str×Addr))(W:Wd)(ρ:Lc)(m:Str→Option Value)(cells:List (Addr×Obj)): Prop where
 loc:∀(i:Nat) (x:Str) (v:V),names[i]?=some x→cs.names.lookup x=some .local→ρ i=some v→∃y,m x=some y∧VR W v y
 cel:∀(i:Nat) (x:Str) (v:V),names[i]?=some x→cs.names.lookup x=some .cell→ρ i=some v→∃c o y,cl.lookup x=some c∧(c,o)∈cells∧o.data=.cell (some y)∧VR W v y
 all:∀(x:Str) (c:Addr),cl.lookup x=some c→∃o v₀,(c,o)∈cells∧o.data=.cell v₀
 one:∀(x y:Str) (c:Addr),cl.lookup x=some c→cl.lookup y=some c→x=y
theorem OwnF.mono{names:List Str}{cs:Scope}{cl:List (Str×Addr)}{W W':Wd}{ρ:Lc}{m:Str→Option Value}{cells:List (Addr×Obj)}(l:W.Le W')(h:OwnF names cs cl W ρ m cells): OwnF names cs cl W' ρ m cells:=
 ⟨fun i x v a b c=>by
  obtain⟨y,h1,h2⟩:=h.loc i x v a b c
  exact⟨y,h1,h2.mono l⟩,fun i x v a b c=>by
  obtain⟨d,o,y,h1,h2,h3,h4⟩:=h.cel i x v a b c
  exact⟨d,o,y,h1,h2,h3,h4.mono l⟩,h.all,h.one⟩
noncomputable def ZbH(dp un:Nat)(gd:Option (List Code))(cn:Str)(cs:Scope)(L a:Addr)(ccd:Value)(cl:List (Str×Addr))(outer:List Env)(h₀:Heap)(hu:un+200<cLine)(names:List Str): Cx where
 A:=ktrTop dp un gd cn cs L a ccd cl outer
 env:=envX cn cs L a ccd cl
 h₀:=h₀
 L:=L
 hh:=rfl
 hu:=hu
 Own:=OwnF names cs cl
 mono:=OwnF.mono
section
variable {prog:Program} {w:World} {dp un:Nat} {gd:Option (List Code)} {cn:Str} {cs:Scope} {L a:Addr} {ccd:Value} {cl:List (Str×Addr)} {outer:List Env} {h₀:Heap} {hu:un+200<cLine} {names:List Str}
theorem Zzi{x:Str}{i:Nat}(hi:names[i]?=some x)(hx:cs.names.lookup x=some .local)(hk:cs.kind=.function)(hd:(x == ("__debug__":Str))=false): Rd prog w (ZbH dp un gd cn cs L a ccd cl outer h₀ hu names) x i:=by
 intro W ρ H fr s Q E v pos r e q
 obtain⟨m,c,led,r⟩:=r
 obtain⟨y,h1,h2⟩:=r.own.loc i x v hi hx e
 exact nameX_L r.F h1 (q y h2) hk hx hd
theorem Zzj{x:Str}{i:Nat}(hi:names[i]?=some x)(hx:cs.names.lookup x=some .cell)(hk:cs.kind=.function)(hd:(x == ("__debug__":Str))=false): Rd prog w (ZbH dp un gd cn cs L a ccd cl outer h₀ hu names) x i:=by
 intro W ρ H fr s Q E v pos r e q
 obtain⟨m,c,led,r⟩:=r
 obtain⟨d,o,y,h1,h2,h3,h4⟩:=r.own.cel i x v hi hx e
 exact nameX_C r.N h1 (r.clIn _ h2) h3 (q y h4) hk hx hd
theorem ZxS{x:Str}{i:Nat}(nd:names.Nodup)(hi:names[i]?=some x)(hx:cs.names.lookup x=some .local)(hk:cs.kind=.function): Sto prog w (ZbH dp un gd cn cs L a ccd cl outer h₀ hu names) x i:=by
 intro W ρ H fr s Q E v y r vy q
 obtain⟨m,c,led,r⟩:=r
 have hi':i<names.length:=(Zz6.mp hi).1
 refine storeX_L r.F r.N (fun h' F' N'=>q h' _ ⟨_,c,led,⟨F',N',r.R,r.sc,r.sc0,r.frIn,r.frOff,r.clIn,r.clOff,r.apart,r.frTup,r.clTup,⟨fun j z u hj hz hu=>?_,fun j z u hj hz hu=>?_,r.own.all,r.own.one⟩⟩⟩) hk hx
 ·by_cases e:j=i
  ·subst e
   rw[hi]at hj
   cases hj
   simp only[upd,if_true]at hu
   cases hu
   exact⟨y,by simp,vy⟩
  ·have hzx:z≠x:=fun e'=>by
    subst e'
    exact e ((List.getElem?_inj (Zz6.mp hj).1 nd).mp (hj.trans hi.symm))
   simp only[upd,if_neg e]at hu
   obtain⟨y',h1,h2⟩:=r.own.loc j z u hj hz hu
   exact⟨y',by simp[hzx,h1],h2⟩
 ·by_cases e:j=i
  ·subst e
   rw[hi]at hj
   cases hj
   rw[hx]at hz
   cases hz
  ·simp only[upd,if_neg e]at hu
   exact r.own.cel j z u hj hz hu
theorem ZxT{x:Str}{i:Nat}(nd:names.Nodup)(hi:names[i]?=some x)(hx:cs.names.lookup x=some .cell)(hk:cs.kind=.function)(hcl:(cl.lookup x).isSome=true): Sto prog w (ZbH dp un gd cn cs L a ccd cl outer h₀ hu names) x i:=by
 intro W ρ H fr s Q E v y r vy q
 obtain⟨m,c,led,r⟩:=r
 obtain⟨d,hd⟩:=Option.isSome_iff_exists.mp hcl
 obtain⟨o,v₀,ho,hv₀⟩:=r.own.all x d hd
 have inl:=r.clIn _ ho
 have N2:News h₀ L s.heap ((d,o)::led.filter (fun q=>decide (q.1≠d))):=by
  intro q hq
  rcases Zz7.mp hq with e | hq
  ·subst e
   exact r.N _ inl
  ·exact r.N q (List.mem_filter.mp hq).1
 refine storeX_C r.F N2 hd (UpdF.head fun q hq=>by simpa using (List.mem_filter.mp hq).2) hv₀ (fun h' o' F' N' ho'=>?_) hk hx
 have keep:∀q∈led,q.1≠d→q∈(d,o')::led.filter (fun q=>decide (q.1≠d)):=fun q hq hn=>List.mem_cons_of_mem _ (List.mem_filter.mpr ⟨hq,by simpa using hn⟩)
 refine q h' s.toks ⟨m,(d,o')::c.filter (fun q=>decide (q.1≠d)),_,⟨F',N',⟨r.R.len,r.R.nd,fun j vs e=>?_,fun q hq=>ZeT (r.R.tups q hq) fun z=>keep q z (r.clTup _ ho q hq).symm,r.R.kind⟩,r.sc,r.sc0,fun q hq=>keep q (r.frIn q hq) (r.apart _ ho q hq).symm,r.frOff,fun q hq=>?_,fun q hq=>?_,fun q hq t ht=>?_,r.frTup,fun q hq t ht=>?_,⟨fun j z u hj hz hu=>?_,fun j z u hj hz hu=>?_,fun z e hz=>?_,r.own.one⟩⟩⟩
 ·obtain⟨l,b,xs,k,h1,h2,h3⟩:=r.R.lists j vs e
  exact⟨l,b,xs,k,h1,ZeT h2 fun z=>keep _ z fun e=>r.clOff _ ho (e▸List.mem_of_getElem? h1),h3⟩
 ·rcases Zz7.mp hq with e | hq
  ·exact e▸List.mem_cons_self
  ·obtain⟨h1,h2⟩:=List.mem_filter.mp hq
   exact keep q (r.clIn q h1) (by simpa using h2)
 ·rcases Zz7.mp hq with e | hq
  ·rw[e]
   exact(r.clOff _ ho:d∉W.pi)
  ·exact r.clOff q (List.mem_filter.mp hq).1
 ·rcases Zz7.mp hq with e | hq
  ·rw[e]
   exact(r.apart _ ho t ht:d≠t.1)
  ·exact r.apart q (List.mem_filter.mp hq).1 t ht
 ·rcases Zz7.mp hq with e | hq
  ·rw[e]
   exact(r.clTup _ ho t ht:d≠t.1)
  ·exact r.clTup q (List.mem_filter.mp hq).1 t ht
 ·by_cases e:j=i
  ·subst e
   rw[hi]at hj
   cases hj
   rw[hx]at hz
   cases hz
  ·simp only[upd,if_neg e]at hu
   exact r.own.loc j z u hj hz hu
 ·by_cases e:j=i
  ·subst e
   rw[hi]at hj
   cases hj
   simp only[upd,if_true]at hu
   cases hu
   exact⟨d,o',y,hd,List.mem_cons_self,ho',vy⟩
  ·have hzx:z≠x:=fun e'=>by
    subst e'
    exact e ((List.getElem?_inj (Zz6.mp hj).1 nd).mp (hj.trans hi.symm))
   simp only[upd,if_neg e]at hu
   obtain⟨b,ob,y',h1,h2,h3,h4⟩:=r.own.cel j z u hj hz hu
   have:b≠d:=fun e'=>by
    subst e'
    exact hzx (r.own.one z x b h1 hd)
   exact⟨b,ob,y',h1,List.mem_cons_of_mem _ (List.mem_filter.mpr ⟨h2,by simpa using this⟩),h3,h4⟩
 ·by_cases e':e=d
  ·subst e'
   exact⟨o',_,List.mem_cons_self,ho'⟩
  ·obtain⟨ob,v1,h1,h2⟩:=r.own.all z e hz
   exact⟨ob,v1,List.mem_cons_of_mem _ (List.mem_filter.mpr ⟨h1,by simpa using e'⟩),h2⟩
end
end PM
end
section
namespace PM
open PySem PySem.W PySem.Calls PyProof.Rows PyProof PyProof.Rows.LCg
theorem Zhs{Γ:Cx}{W:Wd}{ρ:Lc}{H:Hp}{fr:List (Addr×Obj)}{h:Heap}{D:Addr}{ys:List Value}{k:Nat}{vs:List V}(r:Rep Γ W ρ H ((D,ZbN ys k)::fr) h)(ap:∀t∈fr,D≠t.1)(hv:VRs W vs ys)(hl:vs.length≤LEN):
  ∃W',W.Le W'∧Rep Γ W' ρ (H++[vs]) fr h∧VR W' (.ref H.length) (.ref D):=by
 obtain⟨m,c,led,r⟩:=r
 have le:W.Le ⟨W.pi++[D],W.tups,W.sc⟩:=⟨List.prefix_append _ _,fun q hq=>hq,rfl⟩
 have h0:0<W.pi.length:=(Zz6.mp r.sc0).1
 have at_n:(W.pi++[D])[H.length]?=some D:=by rw[←r.R.len];simp
 have off:=r.frOff _ Zz5
 refine⟨⟨W.pi++[D],W.tups,W.sc⟩,le,⟨m,c,led,⟨r.F,r.N,⟨by simp[r.R.len],?_,fun i us e=>?_,r.R.tups,r.R.kind⟩,r.sc,(List.getElem?_append_left h0).trans r.sc0,fun q hq=>r.frIn q (Zz2 _ hq),fun q hq=>?_,r.clIn,fun q hq=>?_,fun q hq t ht=>r.apart q hq t (Zz2 _ ht),fun q hq=>r.frTup q (Zz2 _ hq),r.clTup,Γ.mono le r.own⟩⟩,.ref at_n⟩
 ·show(W.pi++[D]).Nodup
  rw[List.nodup_append]
  refine⟨r.R.nd,by simp,fun a ha b hb=>?_⟩
  rw[List.mem_singleton.mp hb]
  exact fun e=>off (e▸ha)
 ·by_cases hi:i<H.length
  ·rw[List.getElem?_append_left hi]at e
   obtain⟨l,a,zs,j,h1,h2,h3⟩:=r.R.lists i us e
   exact⟨l,a,zs,j,le.at h1,h2,h3.mono le⟩
  ·have:i=H.length:=by
    have:=(Zz6.mp e).1
    simp at this
    omega
   subst this
   simp at e
   subst e
   exact⟨hl,D,ys,k,at_n,List.mem_cons_of_mem _ (r.frIn _ Zz5),hv.mono le⟩
 ·intro hm
  rcases Zz8.mp hm with hm | hm
  ·exact r.frOff q (Zz2 _ hq) hm
  ·exact ap q hq (Zz9.mp hm).symm
 ·intro hm
  rcases Zz8.mp hm with hm | hm
  ·exact r.clOff q hq hm
  ·exact r.apart q hq _ Zz5 (Zz9.mp hm)
def ZA7(Γ:Cx)(C:Addr)(ts:List (Str×Nat))(ρ0:Lc)(W:Wd)(ρ:Lc)(m:Str→Option Value)(cells:List (Addr×Obj)): Prop:=
 ∃oC m₂ cs,cells=(C,oC)::cs∧(∀q∈cs,q.1≠C)∧NsObj oC m₂∧(∀p∈ts,∃v y,ρ p.2=some v∧m₂ p.1=some y∧VR W v y)∧(∀j,(∀p∈ts,p.2≠j)→ρ j=ρ0 j)∧Γ.Own W ρ0 m cs
noncomputable def Zbf(Γ:Cx)(scope:Scope)(cl:List (Str×Addr))(C:Addr)(ts:List (Str×Nat))(ρ0:Lc): Cx where
 A:=Γ.A
 env:=compEnvC scope cl C Γ.env
 h₀:=Γ.h₀
 L:=Γ.L
 hh:=Γ.hh
 hu:=Γ.hu
 Own:=ZA7 Γ C ts ρ0
 mono:=fun l h=>by
  obtain⟨oC,m₂,cs,e,h0,h1,h2,h3,h4⟩:=h
  exact⟨oC,m₂,cs,e,h0,h1,fun p hp=>by
   obtain⟨v,y,a,b,c⟩:=h2 p hp
   exact⟨v,y,a,b,c.mono l⟩,h3,Γ.mono l h4⟩
section
variable {Γ:Cx} {scope:Scope} {cl:List (Str×Addr)} {C:Addr} {ts:List (Str×Nat)} {ρ0:Lc} {W:Wd} {ρ:Lc} {H:Hp} {fr:List (Addr×Obj)} {h:Heap}
theorem Zr8{oC:Obj}{m₂:Str→Option Value}(r:Rep Γ W ρ0 H ((C,oC)::fr) h)(ap:∀t∈fr,C≠t.1)(hC:NsObj oC m₂)(ht:∀p∈ts,∃v y,ρ p.2=some v∧m₂ p.1=some y∧VR W v y)(hj:∀j,(∀p∈ts,p.2≠j)→ρ j=ρ0 j): Rep (Zbf Γ scope cl C ts ρ0) W ρ H fr h:=by
 obtain⟨m,c,led,r⟩:=r
 refine⟨m,(C,oC)::c,led,⟨r.F,r.N,r.R,r.sc,r.sc0,fun q hq=>r.frIn q (Zz2 _ hq),fun q hq=>r.frOff q (Zz2 _ hq),fun q hq=>?_,fun q hq=>?_,fun q hq t ht=>?_,fun q hq=>r.frTup q (Zz2 _ hq),fun q hq t ht=>?_,⟨oC,m₂,c,rfl,fun q hq=>r.apart q hq _ Zz5,hC,ht,hj,r.own⟩⟩⟩
 ·rcases Zz7.mp hq with e | hq
  ·exact e▸r.frIn _ Zz5
  ·exact r.clIn q hq
 ·rcases Zz7.mp hq with e | hq
  ·exact e▸r.frOff _ Zz5
  ·exact r.clOff q hq
 ·rcases Zz7.mp hq with e | hq
  ·exact e▸ap t ht
  ·exact r.apart q hq t (Zz2 _ ht)
 ·rcases Zz7.mp hq with e | hq
  ·exact e▸r.frTup _ Zz5 t ht
  ·exact r.clTup q hq t ht
theorem Rep.fromC(r:Rep (Zbf Γ scope cl C ts ρ0) W ρ H fr h): ∃oC m₂,NsObj oC m₂∧Rep Γ W ρ0 H ((C,oC)::fr) h:=by
 obtain⟨m,c,led,r⟩:=r
 obtain⟨oC,m₂,cs,e,h0,h1,h2,h3,h4⟩:=r.own
 subst e
 refine⟨oC,m₂,h1,m,cs,led,⟨r.F,r.N,r.R,r.sc,r.sc0,fun q hq=>?_,fun q hq=>?_,fun q hq=>r.clIn q (Zz2 _ hq),fun q hq=>r.clOff q (Zz2 _ hq),fun q hq t ht=>?_,fun q hq t ht=>?_,fun q hq=>r.clTup q (Zz2 _ hq),h4⟩⟩
 ·rcases Zz7.mp hq with e | hq
  ·exact e▸r.clIn _ Zz5
  ·exact r.frIn q hq
 ·rcases Zz7.mp hq with e | hq
  ·exact e▸r.clOff _ Zz5
  ·exact r.frOff q hq
 ·rcases Zz7.mp ht with e | ht
  ·rw[e]
   exact h0 q hq
  ·exact r.apart q (Zz2 _ hq) t ht
 ·rcases Zz7.mp hq with e | hq
  ·exact e▸r.clTup _ Zz5 t ht
  ·exact r.frTup q hq t ht
end
def JF(prog:Program)(w:World)(Γ:Cx)(ifs:List Expr)(f:Ts): Prop:=∀(W:Wd) (ρ:Lc) (H:Hp) (fr:List (Addr×Obj)) (s:Shared) (Q:Bool→Shared→Prop) (E:Value→Shared→Prop) (b:Bool) (H':Hp),
 Rep Γ W ρ H fr s.heap→f ρ H=some (b,H')→Zkv Γ W ρ H' fr s Q b →
 wpAny (model prog w) Γ.A (forIn ifs true fun c r=>if r=true then do let ok ←isTrue c Γ.env (eval c Γ.env);pure (ForInStep.yield ok)else pure (ForInStep.yield r)) Q E s
section
variable {prog:Program} {w:World} {Γ:Cx}
theorem JF.nil: JF prog w Γ [] Zaw:=fun W ρ H fr s Q E b H' r hf post=>by
 cases hf
 exact wpAny_pure (post W s.heap s.toks (.refl W) r)
theorem JF.one{e:Expr}{t:Ts}(h:JT prog w Γ e t): JF prog w Γ [e] t:=fun W ρ H fr s Q E b H' r hf post=>by
 rw[List.forIn_cons]
 simp only[if_true,List.forIn_nil]
 refine wpAny_bind (wpAny_bind (h W ρ H fr s _ E b H' r hf fun W1 k1 t1 l1 r1=>wpAny_pure ?_))
 exact wpAny_pure (post W1 k1 t1 l1 r1)
end
end PM
end
section
namespace PM
open PySem PySem.W PySem.Calls PyProof.Rows PyProof PyProof.Rows.LCg
noncomputable def ZcX(nx:Nx)(put:V→Lc→Option Lc)(c:Ts)(f:Ex)(ρ:Lc): Nat→Nat→List V→Hp→Option (List V×Hp)
 | 0,_,_,_=>none
 | n+1,i,acc,H=>(nx i H).bind fun o=>match o with
  | none=>some (acc,H)
  | some v=>(put v ρ).bind fun ρ1=>(c ρ1 H).bind fun b=>if b.1 then(f ρ1 b.2).bind fun p=>(if acc.length<LEN then ZcX nx put c f ρ n (i+1) (acc++[p.1]) p.2 else none)else ZcX nx put c f ρ n (i+1) acc b.2
noncomputable def ZaB(g:Src)(put:V→Lc→Option Lc)(c:Ts)(f:Ex): Ex:=fun ρ H=>(g ρ H).bind fun z=>(ZcX z.1 put c f ρ z.2.1 0 [] z.2.2).map fun q=>(.ref q.2.length,q.2++[q.1])
def Zii(Γ:Cx)(W0:Wd)(ρ:Lc)(fr:List (Addr×Obj))(C D:Addr)(It:Nat→List (Addr×Obj)→Prop)(nx:Nx)(put:V→Lc→Option Lc)(c:Ts)(f:Ex)(q:List V×Hp)(s:Shared)(k:Nat)(s':Shared): Prop:=
 ∃W' H' h' tk' j fs acc ys oC m₂,s' = { s with heap:=h',toks:=tk' }∧W0.Le W'∧It j fs∧NsObj oC m₂∧VRs W' acc ys∧acc.length≤LEN∧Rep Γ W' ρ H' ((C,oC)::(D,lst ys)::(fs++fr)) h'∧ZcX nx put c f ρ k j acc H'=some q
section
variable {prog:Program} {w:World} {Γ:Cx}
theorem Zrl{scope:Scope}{cl:List (Str×Addr)}{elt:Expr}{ts:List (Str×Nat)}{W0 W:Wd}{ρ ρ1:Lc}{H:Hp}{fr fs:List (Addr×Obj)}{C D:Addr}{It:Nat→List (Addr×Obj)→Prop}{nx:Nx}{put:V→Lc→Option Lc}{c:Ts}{f:Ex}{q:List V×Hp}{s:Shared}{h:Heap}{tk:Nat}{k j:Nat}{acc:List V}{ys:List Value}{E:Value→Shared→Prop}
  (hel:J prog w (Zbf Γ scope cl C ts ρ) elt f) (aD:∀t∈fs++fr,D≠t.1) (cd:C≠D) (l0:W0.Le W) (hit:It (j+1) fs) (hv:VRs W acc ys) (r:Rep (Zbf Γ scope cl C ts ρ) W ρ1 H ((D,lst ys)::(fs++fr)) h)
  (e:((f ρ1 H).bind fun p=>(if acc.length<LEN then ZcX nx put c f ρ k (j+1) (acc++[p.1]) p.2 else none))=some q):
  wpAny (model prog w) Γ.A (eval elt (compEnvC scope cl C Γ.env)) (fun x s₄=>wpAny (model prog w) Γ.A (call (.builtin "list.append") [.ref D,x]) (fun _ s₅=>∃m,m<k+1∧Zii Γ W0 ρ fr C D It nx put c f q s m s₅) E s₄) E { s with heap:=h,toks:=tk }:=by
 obtain⟨p,e2,e⟩:=Zz0.mp e
 by_cases hlt:acc.length<LEN
 ·rw[if_pos hlt]at e
  refine hel W ρ1 H _ _ _ E _ _ r e2 fun W2 k2 t2 x l2 r2 x2=>?_
  obtain⟨oC',m₃,hC',r3⟩:=r2.fromC
  have hD:k2.get? D=some (lst ys):=r3.frAt (q:=(D,lst ys)) (Zz2 _ Zz5)
  refine append_at (hsz:=Zdg (by rw[List.size_toArray,hv.length];omega)) hD fun h' sb hg=>?_
  have hg':h'.get? D=some (lst (ys++[x])):=hg.trans (congrArg some (lst_snoc ys x))
  have r4:Rep Γ W2 ρ p.2 ([(D,lst ys)]++((C,oC')::(fs++fr))) k2:=r3.less fun q hq=>by
   rcases Zz8.mp hq with hq | hq
   ·rw[List.mem_singleton.mp hq]
    exact Zz2 _ Zz5
   ·rcases Zz7.mp hq with e | hq
    ·exact e▸List.mem_cons_self
    ·exact Zz2 _ (Zz2 _ hq)
  have r5:Rep Γ W2 ρ p.2 ([(D,lst (ys++[x]))]++((C,oC')::(fs++fr))) h':=by
   refine r4.swap (fun q hq t ht=>?_) (fun b o hb e=>sb.extBut b o (fun z=>hb (by simp[z])) e) fun q hq=>?_
   ·rw[List.mem_singleton.mp hq]
    rcases Zz7.mp ht with e | ht
    ·rw[e]
     exact cd.symm
    ·exact aD t ht
   ·rw[List.mem_singleton.mp hq]
    exact⟨hg',by simp⟩
  have r6:Rep Γ W2 ρ p.2 ((C,oC')::(D,lst (ys++[x]))::(fs++fr)) h':=r5.less fun q hq=>by
   rcases Zz7.mp hq with e | hq
   ·exact e▸List.mem_append_right _ Zz5
   ·rcases Zz7.mp hq with e | hq
    ·exact e▸List.mem_append_left _ Zz5
    ·exact Zz3 _ (Zz2 _ hq)
  exact⟨k,Nat.lt_succ_self k,W2,p.2,h',t2,j+1,fs,acc++[p.1],ys++[x],oC',m₃,rfl,l0.trans l2,hit,hC',(hv.mono l2).snoc x2,by simp;omega,r6,e⟩
 ·rw[if_neg hlt]at e
  cases e
theorem ZwU{scope:Scope}{cl:List (Str×Addr)}{elt:Expr}{ifs:List Expr}{ts:List (Str×Nat)}{W0 W:Wd}{ρ ρ1:Lc}{H:Hp}{fr fs:List (Addr×Obj)}{C D:Addr}{It:Nat→List (Addr×Obj)→Prop}{nx:Nx}{put:V→Lc→Option Lc}{c:Ts}{f:Ex}{q:List V×Hp}{s s1:Shared}{k j:Nat}{acc:List V}{ys:List Value}{oC:Obj}{m₂:Str→Option Value}{E:Value→Shared→Prop}
  (hel:J prog w (Zbf Γ scope cl C ts ρ) elt f) (hif:JF prog w (Zbf Γ scope cl C ts ρ) ifs c) (hs:∃h tk,s1 = { s with heap:=h,toks:=tk })
  (aC:∀t∈(D,lst ys)::(fs++fr),C≠t.1) (aD:∀t∈fs++fr,D≠t.1) (l0:W0.Le W) (hit:It (j+1) fs) (hC:NsObj oC m₂) (hv:VRs W acc ys) (hl:acc.length≤LEN) (r:Rep Γ W ρ H ((C,oC)::(D,lst ys)::(fs++fr)) s1.heap)
  (ht:∀p∈ts,∃v y,ρ1 p.2=some v∧m₂ p.1=some y∧VR W v y) (hj:∀i,(∀p∈ts,p.2≠i)→ρ1 i=ρ i)
  (e:((c ρ1 H).bind fun b=>if b.1 then(f ρ1 b.2).bind fun p=>(if acc.length<LEN then ZcX nx put c f ρ k (j+1) (acc++[p.1]) p.2 else none)else ZcX nx put c f ρ k (j+1) acc b.2)=some q):
  wpAny (model prog w) Γ.A (forIn ifs true fun c r=>if r=true then do let ok ←isTrue c (compEnvC scope cl C Γ.env) (eval c (compEnvC scope cl C Γ.env));pure (ForInStep.yield ok)else pure (ForInStep.yield r)) (fun ok s₃=>
   if ok=true then wpAny (model prog w) Γ.A (eval elt (compEnvC scope cl C Γ.env)) (fun x s₄=>wpAny (model prog w) Γ.A (call (.builtin "list.append") [.ref D,x]) (fun _ s₅=>∃m,m<k+1∧Zii Γ W0 ρ fr C D It nx put c f q s m s₅) E s₄) E s₃
   else ∃m,m<k+1∧Zii Γ W0 ρ fr C D It nx put c f q s m s₃) E s1:=by
 obtain⟨h,tk,rfl⟩:=hs
 obtain⟨b,e1,e⟩:=Zz0.mp e
 obtain⟨b,H1⟩:=b
 have rc:=Zr8 (scope:=scope) (cl:=cl) r aC hC ht hj
 refine hif W ρ1 H _ _ _ E b H1 rc e1 fun W1 k1 t1 l1 r1=>?_
 cases b with
 | false=>
  obtain⟨oC',m₃,hC',r2⟩:=r1.fromC
  exact⟨k,Nat.lt_succ_self k,W1,H1,k1,t1,j+1,fs,acc,ys,oC',m₃,rfl,l0.trans l1,hit,hC',hv.mono l1,hl,r2,e⟩
 | true=>exact Zrl hel aD (aC (D,lst ys) Zz5) (l0.trans l1) hit (hv.mono l1) r1 e
theorem comp_core{elt iter:Expr}{x:Str}{px:Pos}{ifs:List Expr}{scope:Scope}{pos:Pos}{cl:List (Str×Addr)}{t:Nat}{g:Src}{c:Ts}{f:Ex}(hg:JI prog w Γ iter g)(hel:∀C ρ,J prog w (Zbf Γ scope cl C [(x,t)] ρ) elt f)(hif:∀C ρ,JF prog w (Zbf Γ scope cl C [(x,t)] ρ) ifs c)
  (hcell:∀y∈scope.names,y.2≠.cell) (hkind:scope.kind=.function) (hx:scope.names.lookup x=some .local)
  {W:Wd} {ρ:Lc} {H:Hp} {fr:List (Addr×Obj)} {s:Shared} {E:Value→Shared→Prop} {q:List V×Hp} {RR:Value→Addr→Result→Shared→Prop} (r:Rep Γ W ρ H fr s.heap) (hf:((g ρ H).bind fun z=>ZcX z.1 (put1 t) c f ρ z.2.1 0 [] z.2.2)=some q)
  (hR:∀(W':Wd) (h':Heap) (tk':Nat) (C D:Addr) (oC:Obj) (m₂:Str→Option Value) (ys:List Value),W.Le W'→NsObj oC m₂→VRs W' q.1 ys→q.1.length≤LEN→(∀t∈fr,D≠t.1)→(∀t∈fr,C≠t.1)→C≠D→Rep Γ W' ρ q.2 ((C,oC)::(D,lst ys)::fr) h'→RR (.ref D) C (.ok .next) { s with heap:=h',toks:=tk' }):
  wpAny (model prog w) Γ.A (eval iter Γ.env) (fun xv s₁=>wpAny (model prog w) Γ.A (pyIter xv) (fun it s₂=>wpAny (model prog w) Γ.A (newList []) (fun acc s₃=>wpAny (model prog w) Γ.A (newFunctionEnv scope Γ.env.globals cl [] Γ.env.qual none .none (some Γ.env)) (fun cenv s₄=>
   codeAny (model prog w) Γ.A (.compStart (.ListComp elt [⟨.Name x px,iter,ifs,0⟩] scope pos) 0 it acc { cenv with scope:=relabel scope Γ.env }) (RR acc cenv.locals) s₄) E s₃) E s₂) E s₁) E s:=by
 obtain⟨z,e1,e2⟩:=Zz0.mp hf
 obtain⟨nx,n,H0⟩:=z
 refine hg W ρ H fr s _ E nx n H0 r e1 fun W1 k1 t1 itv as It fs l1 i1 r1 ap I1=>?_
 refine wpAny_newObj_type (wpAny_newFunctionEnv hcell (fun y hy=>by simp at hy) (fun h₂ hns hsb=>?_) hkind)
 dsimp only at hns hsb ⊢
 obtain⟨rD,aD⟩:=r1.more (fs:=[(k1.objs.size,lst [])]) (fun b o e=>Heap.get?_push_of_some (lst []) e) (fun q hq=>by rw[List.mem_singleton.mp hq];exact⟨Heap.get?_push_size _ rfl,Nat.le_refl _⟩)
 generalize eH:k1.push { cls:=.type "list",dict:=none,data:=.seq ([]:List Value).toArray } = K at hns hsb ⊢
 have eK:k1.push (lst [])=K:=eH
 rw[eK]at rD
 obtain⟨oC,gC,nC⟩:=ns_obj hns
 have up:∀b o,K.get? b=some o→h₂.get? b=some o:=fun b o e=>hsb.extBut b o (Nat.ne_of_lt (Heap.lt_size e)) (Heap.get?_push_of_some _ e)
 obtain⟨rC,aC⟩:=rD.more (fs:=[(K.objs.size,oC)]) up (fun q hq=>by rw[List.mem_singleton.mp hq];exact⟨gC,Nat.le_refl _⟩)
 have adr0:=I1.adr 0 fs i1
 have offs:∀b∈as,b≠k1.objs.size∧b≠K.objs.size:=fun b hb=>by
  rw[←adr0]at hb
  obtain⟨q,hq,e⟩:=Zz11.mp hb
  exact⟨e▸(aD _ Zz5 q (Zz4 _ hq)).symm,e▸(aC _ Zz5 q (Zz3 _ (Zz4 _ hq))).symm⟩
 have cd:K.objs.size≠k1.objs.size:=aC _ Zz5 (k1.objs.size,lst []) (Zz4 _ Zz5)
 have cfr:∀t∈fr,K.objs.size≠t.1:=fun t ht=>aC _ Zz5 t (Zz3 _ (Zz3 _ ht))
 have dfr:∀t∈fr,k1.objs.size≠t.1:=fun t ht=>aD _ Zz5 t (Zz3 _ ht)
 generalize k1.objs.size=D at *
 generalize K.objs.size=C at *
 have loop:∀s₃:Shared,s₃ = { s with heap:=h₂,toks:=t1+([]:List (Str×Value)).length } →
   codeAny (model prog w) Γ.A (.compLoop (.ListComp elt [⟨.Name x px,iter,ifs,0⟩] scope pos) 0 itv (.ref D) (compEnvC scope cl C Γ.env)) (RR (.ref D) C) s₃:=by
  intro s₃ hs₃
  subst hs₃
  refine codeAny_compLoop_tests (Zii Γ W1 ρ fr C D It nx (put1 t) c f q s) ?_ n ⟨W1,H0,h₂,_,0,fs,[],[],oC,_,rfl,.refl _,i1,nC,.nil,Nat.zero_le _,rC,e2⟩
  rintro k s' ⟨W2,H2,k2,t2,j,fs2,acc,ys,oC2,m₂,rfl,l2,i2,hC2,hv2,hl2,r2,e⟩
  cases k with
  | zero=>cases e
  | succ k=>
   obtain⟨o,e4,e⟩:=Zz0.mp e
   have r2':Rep Γ W2 ρ H2 (fs2++((C,oC2)::(D,lst ys)::fr)) k2:=r2.less fun q hq=>by
    rcases Zz8.mp hq with hq | hq
    ·exact Zz2 _ (Zz2 _ (Zz4 _ hq))
    ·rcases Zz7.mp hq with e | hq
     ·exact e▸List.mem_cons_self
     ·rcases Zz7.mp hq with e | hq
      ·exact e▸List.mem_cons_of_mem _ Zz5
      ·exact Zz2 _ (Zz2 _ (Zz3 _ hq))
   have ap2:∀b∈as,∀t∈(C,oC2)::(D,lst ys)::fr,b≠t.1:=fun b hb t ht=>by
    rcases Zz7.mp ht with e | ht
    ·rw[e]
     exact(offs b hb).2
    ·rcases Zz7.mp ht with e | ht
     ·rw[e]
      exact(offs b hb).1
     ·exact ap b hb t ht
   refine I1.next j W2 ρ H2 _ fs2 _ _ _ o l2 r2' ap2 i2 e4 ?_
   cases o with
   | none=>
    cases e
    intro h' tk' r3
    exact hR W2 h' tk' C D oC2 m₂ ys (l1.trans l2) hC2 hv2 hl2 dfr cfr cd r3
   | some v=>
    intro fs3 k3 t3 y i3 r3 y3
    obtain⟨ρ3,e5,e⟩:=Zz0.mp e
    cases e5
    have a3:∀t∈fs3,t.1∈as:=fun t ht=>by
     rw[←I1.adr _ _ i3]
     exact List.mem_map_of_mem ht
    have gC3:k3.get? C=some oC2:=r3.frAt (q:=(C,oC2)) (Zz3 _ Zz5)
    have nC3:k3.Ns C m₂:=hC2.ns gC3
    refine wpAny_assign_Name (wpAny_storeName_local (lookup_relabel_local hx) nC3 (fun h4 hn4 sb4=>?_) (by simp[compEnvC,relabel,hkind]))
    obtain⟨oC4,gC4,nC4⟩:=ns_obj hn4
    have r3':Rep Γ W2 ρ H2 ([(C,oC2)]++((D,lst ys)::(fs3++fr))) k3:=r3.less fun q hq=>by
     rcases Zz8.mp hq with hq | hq
     ·rw[List.mem_singleton.mp hq]
      exact Zz3 _ Zz5
     ·rcases Zz7.mp hq with e | hq
      ·exact e▸List.mem_append_right _ (Zz2 _ Zz5)
      ·rcases Zz8.mp hq with hq | hq
       ·exact Zz4 _ hq
       ·exact Zz3 _ (Zz2 _ (Zz2 _ hq))
    have aC3:∀t∈(D,lst ys)::(fs3++fr),C≠t.1:=fun t ht=>by
     rcases Zz7.mp ht with e | ht
     ·rw[e]
      exact cd
     ·rcases Zz8.mp ht with ht | ht
      ·exact(offs _ (a3 t ht)).2.symm
      ·exact cfr t ht
    have aD3:∀t∈fs3++fr,D≠t.1:=fun t ht=>by
     rcases Zz8.mp ht with ht | ht
     ·exact(offs _ (a3 t ht)).1.symm
     ·exact dfr t ht
    have r4:Rep Γ W2 ρ H2 ([(C,oC4)]++((D,lst ys)::(fs3++fr))) h4:=by
     refine r3'.swap (fun q hq t ht=>?_) (fun b o hb e=>sb4.extBut b o (fun z=>hb (by simp[z,compEnvC])) e) fun q hq=>?_
     ·rw[List.mem_singleton.mp hq]
      exact aC3 t ht
     ·rw[List.mem_singleton.mp hq]
      exact⟨gC4,by simp⟩
    refine ZwU (hel C ρ) (hif C ρ) ⟨h4,_,rfl⟩ aC3 aD3 l2 i3 nC4 hv2 hl2 r4 (fun p hp=>?_) (fun i hi=>?_) e
    ·rw[List.mem_singleton.mp hp]
     exact⟨v,y,by simp[upd],by simp,y3⟩
    ·have:i≠t:=fun e=>hi (x,t) Zz5 e.symm
     simp[upd,this]
 refine codeAny_compStart_list (loop _ rfl) ?_
 exact I1.self 0 W1 ρ H0 (([(C,oC)]++[(D,lst [])])++fr) fs _ _ _ (.refl _) (rC.less fun q hq=>by
  rcases Zz8.mp hq with hq | hq
  ·exact Zz3 _ (Zz3 _ (Zz4 _ hq))
  ·rcases Zz8.mp hq with hq | hq
   ·rcases Zz8.mp hq with hq | hq
    ·exact Zz4 _ hq
    ·exact Zz3 _ (Zz4 _ hq)
   ·exact Zz3 _ (Zz3 _ (Zz3 _ hq))) i1 (loop _ rfl)
theorem Zrz{W:Wd}{ρ:Lc}{q:List V×Hp}{fr:List (Addr×Obj)}{C D:Addr}{oC:Obj}{ys:List Value}{h' h'':Heap}(hv:VRs W q.1 ys)(hl:q.1.length≤LEN)(aD:∀t∈fr,D≠t.1)(aC:∀t∈fr,C≠t.1)(cd:C≠D)(r:Rep Γ W ρ q.2 ((C,oC)::(D,lst ys)::fr) h')(sb:Heap.SameBut C h' h''):
  ∃W',W.Le W'∧Rep Γ W' ρ (q.2++[q.1]) fr h''∧VR W' (.ref q.2.length) (.ref D):=by
 have r4:Rep Γ W ρ q.2 ([]++((D,lst ys)::fr)) h'':=by
  refine Rep.swap (fs:=[(C,oC)]) (fs':=[]) r (fun q hq t ht=>?_) (fun b o hb e=>sb.extBut b o (fun z=>hb (by simp[z])) e) fun q hq=>nomatch hq
  rw[List.mem_singleton.mp hq]
  rcases Zz7.mp ht with e | ht
  ·rw[e]
   exact cd
  ·exact aC t ht
 exact Zhs r4 aD hv hl
theorem Zzk{elt iter:Expr}{x:Str}{px:Pos}{ifs:List Expr}{scope:Scope}{pos:Pos}{cl:List (Str×Addr)}{t:Nat}{g:Src}{c:Ts}{f:Ex}(hg:JI prog w Γ iter g)(hel:∀C ρ,J prog w (Zbf Γ scope cl C [(x,t)] ρ) elt f)(hif:∀C ρ,JF prog w (Zbf Γ scope cl C [(x,t)] ρ) ifs c)
  (hclos:closureFor scope Γ.env=pure cl) (hcell:∀y∈scope.names,y.2≠.cell) (hkind:scope.kind=.function) (hnames:∀y∈scope.names,y.2=.local→scope.names.lookup y.1=some .local) (hx:scope.names.lookup x=some .local) (hs:∀x,foldedSetIterable iter Γ.env x=pure x:=by intro _;rfl):
  J prog w Γ (.ListComp elt [⟨.Name x px,iter,ifs,0⟩] scope pos) (ZaB g (put1 t) c f):=by
 intro W ρ H fr s Q E v H' r hf post
 obtain⟨z,e1,hf⟩:=Zz0.mp hf
 obtain⟨q,e2,e3⟩:=Zz1.mp hf
 cases e3
 rw[eval_ListComp]
 refine wpAny_comprehension_free (use:=Option.none) rfl hs hclos hkind hnames ?_
 refine comp_core (RR:=fun acc C=>compPost (model prog w) Γ.A E Option.none Q acc C) hg hel hif hcell hkind hx r (q:=q) (by rw[e1];exact e2) fun W2 h' tk' C D oC m₂ ys l2 hC hv hl aD aC cd r3=>?_
 refine⟨m₂,hC.ns (r3.frAt (q:=(C,oC)) Zz5),fun h'' sb=>?_⟩
 obtain⟨W5,l5,r5,v5⟩:=Zrz hv hl aD aC cd r3 sb
 exact post W5 h'' tk' _ (l2.trans l5) r5 v5
theorem Zvm{elt iter:Expr}{x y:Str}{px py pos spos:Pos}{ifs:List Expr}{scope:Scope}{cl:List (Str×Addr)}{t i:Nat}{g:Src}{c:Ts}{f:Ex}(hy:Sto prog w Γ y i)(hg:JI prog w Γ iter g)(hel:∀C ρ,J prog w (Zbf Γ scope cl C [(x,t)] ρ) elt f)(hif:∀C ρ,JF prog w (Zbf Γ scope cl C [(x,t)] ρ) ifs c)
  (hsw:swapsWith (.ListComp elt [⟨.Name x px,iter,ifs,0⟩] scope pos) (some (.Name y py)) spos.line Γ.env=pure true)
  (hclos:closureFor scope Γ.env=pure cl) (hcell:∀y∈scope.names,y.2≠.cell) (hkind:scope.kind=.function) (hnames:∀y∈scope.names,y.2=.local→scope.names.lookup y.1=some .local) (hx:scope.names.lookup x=some .local) (hs:∀x,foldedSetIterable iter Γ.env x=pure x:=by intro _;rfl):
  S1 prog w Γ (.Assign [.Name y py] (.ListComp elt [⟨.Name x px,iter,ifs,0⟩] scope pos) spos) (ZN i (ZaB g (put1 t) c f)):=by
 intro W ρ H fr s Q E r rp hf post
 obtain⟨p,e0,e9⟩:=Zz1.mp hf
 cases e9
 obtain⟨z,e1,hf⟩:=Zz0.mp e0
 obtain⟨q,e2,e3⟩:=Zz1.mp hf
 cases e3
 rw[exec_Assign_Name_used _ _ _ _ hsw]
 refine wpAny_bind (wpAny_standAt (wpAny_bind ?_))
 show wpAny _ Γ.A (do let _ ←comprehension (.ListComp elt [⟨.Name x px,iter,ifs,0⟩] scope pos) scope Γ.env _ (newList []) false (eval iter Γ.env) (some (assign (.Name y py) Γ.env))) _ _ s
 refine wpAny_bind (wpAny_mono (wpAny_comprehension_free (use:=some (assign (.Name y py) Γ.env)) (Q:=fun _ s'=>Q .next s') rfl hs hclos hkind hnames ?_) (fun _ s' h'=>wpAny_pure (wpAny_pure h')) fun _ _ e=>e)
 refine comp_core (RR:=fun acc C=>compPost (model prog w) Γ.A E (some (assign (.Name y py) Γ.env)) (fun _ s'=>Q .next s') acc C) hg hel hif hcell hkind hx rp (q:=q) (by rw[e1];exact e2) fun W2 h' tk' C D oC m₂ ys l2 hC hv hl aD aC cd r3=>?_
 have r4:Rep Γ W2 ρ q.2 ((D,lst ys)::(C,oC)::fr) h':=r3.less fun t ht=>by
  rcases Zz7.mp ht with e | ht
  ·exact e▸List.mem_cons_of_mem _ Zz5
  ·rcases Zz7.mp ht with e | ht
   ·exact e▸List.mem_cons_self
   ·exact Zz2 _ (Zz2 _ ht)
 obtain⟨W5,l5,r5,v5⟩:=Zhs r4 (fun t ht=>by
  rcases Zz7.mp ht with e | ht
  ·rw[e]
   exact cd.symm
  ·exact aD t ht) hv hl
 refine wpAny_assign_Name (hy W5 ρ _ _ _ _ _ _ _ r5 v5 fun h6 t6 r6=>?_)
 refine⟨m₂,hC.ns (r6.frAt (q:=(C,oC)) Zz5),fun h'' sb=>?_⟩
 have r7:Rep Γ W5 (upd ρ i (.ref q.2.length)) (q.2++[q.1]) ([]++fr) h'':=
  Rep.swap (fs:=[(C,oC)]) (fs':=[]) r6 (fun q hq t ht=>by rw[List.mem_singleton.mp hq];exact aC t ht) (fun b o hb e=>sb.extBut b o (fun z=>hb (by simp[z])) e) fun q hq=>nomatch hq
 exact post W5 h'' t6 (l2.trans l5) r7
end
end PM
end
section
namespace PM
open PySem PySem.W PySem.Calls PyProof.Rows PyProof PyProof.Rows.LCg PyProof.Rows.LCp
theorem Zqd(h:Heap): ∀as:List Addr,(∀a∈as,∃o,h.get? a=some o)→∃fs:List (Addr×Obj),fs.map (·.1)=as∧∀q∈fs,h.get? q.1=some q.2
 | [],_=>⟨[],rfl,fun q hq=>nomatch hq⟩
 | a::as,d=>by
  obtain⟨o,ho⟩:=d a Zz5
  obtain⟨fs,h1,h2⟩:=Zqd h as fun b hb=>d b (Zz2 _ hb)
  refine⟨(a,o)::fs,by rw[List.map_cons,h1],fun q hq=>?_⟩
  rcases Zz7.mp hq with e | hq
  ·rw[e]
   exact ho
  ·exact h2 q hq
structure Itr2(prog:Program)(w:World)(Γ:Cx)(W0:Wd)(it:Value)(as:List Addr)(It:Nat→List (Addr×Obj)→Prop)(nx:Nx): Prop where
 adr:∀i fs,It i fs→fs.map (·.1)=as
 pair:∀i H v,nx i H=some (some v)→∃a b,v=.tup [a,b]
 item:∀(i:Nat) (W:Wd) (ρ:Lc) (H:Hp) (fr fs:List (Addr×Obj)) (s:Shared) (Q:Option Value→Shared→Prop) (E:Value→Shared→Prop) (a b:V),W0.Le W→Rep Γ W ρ H (fs++fr) s.heap→(∀a∈as,∀t∈fr,a≠t.1)→It i fs→nx i H=some (some (.tup [a,b])) →
  (∀(T:Addr) (h1:Heap) (t1:Nat),(∀(elts:List Expr) (k:Nat) (pos:Pos) (s1:Shared) (Q1:Unit→Shared→Prop) (E1:Value→Shared→Prop),s1 = { s with heap:=h1,toks:=t1 } →
    (∀(fs':List (Addr×Obj)) (h':Heap) (x y:Value),It (i+1) fs'→Rep Γ W ρ H (fs'++fr) h'→IsTup h' T #[x,y]→VR W a x→VR W b y→Q1 () { s with heap:=h',toks:=t1 })→wpAny (model prog w) Γ.A (letOwnedTupleGo (.Tuple elts k pos) it (.ref T)) Q1 E1 s1)→Q (some (.ref T)) { s with heap:=h1,toks:=t1 })→wpAny (model prog w) Γ.A (pyNext it) Q E s
 done:∀(i:Nat) (W:Wd) (ρ:Lc) (H:Hp) (fr fs:List (Addr×Obj)) (s:Shared) (Q:Option Value→Shared→Prop) (E:Value→Shared→Prop),W0.Le W→Rep Γ W ρ H (fs++fr) s.heap→(∀a∈as,∀t∈fr,a≠t.1)→It i fs→nx i H=some none →
  (∀(h':Heap) (tk':Nat),Rep Γ W ρ H fr h'→Q none { s with heap:=h',toks:=tk' })→wpAny (model prog w) Γ.A (pyNext it) Q E s
 self:∀(i:Nat) (W:Wd) (ρ:Lc) (H:Hp) (fr fs:List (Addr×Obj)) (s:Shared) (Q E:Value→Shared→Prop) (o:Option V),W0.Le W→Rep Γ W ρ H (fs++fr) s.heap→It i fs→nx i H=some o→Q it s→wpAny (model prog w) Γ.A (pyIter it) Q E s
def JI2(prog:Program)(w:World)(Γ:Cx)(e:Expr)(g:Src): Prop:=∀(W:Wd) (ρ:Lc) (H:Hp) (fr:List (Addr×Obj)) (s:Shared) (Q E:Value→Shared→Prop) (nx:Nx) (n:Nat) (H':Hp),
 Rep Γ W ρ H fr s.heap→g ρ H=some (nx,n,H') →
 (∀(W':Wd) (h':Heap) (tk':Nat) (it:Value) (as:List Addr) (It:Nat→List (Addr×Obj)→Prop) (fs:List (Addr×Obj)),W.Le W'→It 0 fs→Rep Γ W' ρ H' (fs++fr) h'→(∀a∈as,∀t∈fr,a≠t.1)→Itr2 prog w Γ W' it as It nx→(∃o,nx 0 H'=some o)→Q it { s with heap:=h',toks:=tk' }) →
 wpAny (model prog w) Γ.A (eval e Γ.env) (fun xv s₁=>wpAny (model prog w) Γ.A (pyIter xv) Q E s₁) E s
noncomputable def Zh9(a b:Nat): Nx:=fun i H=>H[a]?.bind fun vs=>H[b]?.bind fun us=>match vs[i]?,us[i]? with
 | some x,some y=>some (some (.tup [x,y]))
 | _,_=>if i=min vs.length us.length then some none else none
noncomputable def Zdb(f g:Ex): Src:=fun ρ H=>(f ρ H).bind fun p=>(g ρ p.2).bind fun q=>match p.1,q.1 with
 | .ref a,.ref b=>q.2[a]?.bind fun vs=>q.2[b]?.map fun us=>(Zh9 a b,min vs.length us.length+1,q.2)
 | _,_=>none
noncomputable def ZbY(i j:Nat): V→Lc→Option Lc
 | .tup [a,b],ρ=>some (upd (upd ρ i a) j b)
 | _,_=>none
def ZS(z TI TO i1 i2 l1 l2:Addr)(i:Nat)(h:Heap): Prop:=IsZip h z TI TO .none∧PySem.IsPair h TI (.ref i1) (.ref i2)∧(∃a b,PySem.IsPair h TO a b)∧h.IsListIter i1 l1 i∧h.IsListIter i2 l2 i
theorem ZS.at{z TI TO i1 i2 l1 l2:Addr}{i:Nat}{h h':Heap}(x:ZS z TI TO i1 i2 l1 l2 i h)(e:∀a∈[z,TI,TO,i1,i2],∀o,h.get? a=some o→h'.get? a=some o): ZS z TI TO i1 i2 l1 l2 i h':=by
 obtain⟨h1,h2,⟨a,b,h3⟩,h4,h5⟩:=x
 exact⟨e z (by simp) _ h1,e TI (by simp) _ h2,⟨a,b,e TO (by simp) _ h3⟩,h4.at fun o x=>e i1 (by simp) o x,h5.at fun o x=>e i2 (by simp) o x⟩
theorem ZS.have{z TI TO i1 i2 l1 l2:Addr}{i:Nat}{h:Heap}(x:ZS z TI TO i1 i2 l1 l2 i h): ∀a∈[z,TI,TO,i1,i2],∃o,h.get? a=some o:=by
 obtain⟨h1,h2,⟨a,b,h3⟩,⟨o4,h4,_⟩,⟨o5,h5,_⟩⟩:=x
 intro c hc
 simp only[List.mem_cons,List.not_mem_nil,or_false]at hc
 rcases hc with e | e | e | e | e <;> subst e
 ·exact⟨_,h1⟩
 ·exact⟨_,h2⟩
 ·exact⟨_,h3⟩
 ·exact⟨_,h4⟩
 ·exact⟨_,h5⟩
def ZIt(z TI TO i1 i2 l1 l2:Addr)(i:Nat)(fs:List (Addr×Obj)): Prop:=fs.map (·.1)=[z,TI,TO,i1,i2]∧∀h:Heap,(∀q∈fs,h.get? q.1=some q.2)→ZS z TI TO i1 i2 l1 l2 i h
theorem Zr9{z TI TO i1 i2 l1 l2:Addr}{i:Nat}{h:Heap}(x:ZS z TI TO i1 i2 l1 l2 i h): ∃fs,ZIt z TI TO i1 i2 l1 l2 i fs∧∀q∈fs,h.get? q.1=some q.2:=by
 obtain⟨fs,h1,h2⟩:=Zqd h [z,TI,TO,i1,i2] x.have
 refine⟨fs,⟨h1,fun h' e=>x.at fun a ha o ho=>?_⟩,h2⟩
 rw[←h1]at ha
 obtain⟨q,hq,eq⟩:=Zz11.mp ha
 have:=h2 q hq
 rw[eq,ho]at this
 cases this
 exact eq▸e q hq
section
variable {prog:Program} {w:World} {Γ:Cx}
theorem Zzl{W0:Wd}{z TI TO i1 i2 l1 l2:Addr}{a b:Nat}(ea:W0.pi[a]?=some l1)(eb:W0.pi[b]?=some l2)(D:ZipApart z TI TO i1 i2 l1 l2):
  Itr2 prog w Γ W0 (.ref z) [z,TI,TO,i1,i2] (ZIt z TI TO i1 i2 l1 l2) (Zh9 a b):=by
 refine⟨fun i fs h=>h.1,?_,?_,?_,?_⟩
 ·intro i H v e
  obtain⟨vs,e1,e⟩:=Zz0.mp e
  obtain⟨us,e2,e⟩:=Zz0.mp e
  split at e
  ·cases e
   exact⟨_,_,rfl⟩
  ·split at e <;> cases e
 ·intro i W ρ H fr fs s Q E va vb le r ap hit hn post
  obtain⟨vs,e1,e⟩:=Zz0.mp hn
  obtain⟨us,e2,e⟩:=Zz0.mp e
  have hvu:vs[i]?=some va∧us[i]?=some vb:=by
   split at e
   ·rename_i x y h1 h2
    cases e
    exact⟨h1,h2⟩
   ·split at e <;> cases e
  obtain⟨_,xs,k1,g1,v1⟩:=r.at e1 (le.at ea)
  obtain⟨_,ys,k2,g2,v2⟩:=r.at e2 (le.at eb)
  obtain⟨x,hx,rx⟩:=v1.at hvu.1
  obtain⟨y,hy,ry⟩:=v2.at hvu.2
  have st:ZS z TI TO i1 i2 l1 l2 i s.heap:=hit.2 _ fun q hq=>r.frAt (Zz4 _ hq)
  have Wk:=WalksT.zip2 (prog:=prog) (w:=w) (A:=Γ.A) Γ.hh z TI TO i1 i2 l1 l2 D xs.toArray ys.toArray
  have isl1:s.heap.IsList l1 xs.toArray:=⟨_,g1,rfl,k1,rfl⟩
  have isl2:s.heap.IsList l2 ys.toArray:=⟨_,g2,rfl,k2,rfl⟩
  have hi:i<min xs.toArray.size ys.toArray.size:=by
   have h1:=(Zz6.mp hx).1
   have h2:=(Zz6.mp hy).1
   simp
   omega
  refine Wk.item i s Q E hi ⟨st.1,st.2.1,st.2.2.1,st.2.2.2.1,st.2.2.2.2,isl1,isl2⟩ fun T vals h1 t1 hp hT hTup hmid keep1=>post T h1 t1 ?_
  intro elts k pos s1 Q1 E1 es1 q1
  subst es1
  have hTw:=Wk.apart i T _ hmid
  refine Wk.go elts k pos i T _ Q1 E1 hmid fun h2 st2 keep2=>?_
  obtain⟨x',y',hx',hy',ev⟩:=hp
  have ex:x'=x:=by
   have:xs[i]?=some x':=by simpa using hx'
   rw[hx]at this
   exact(Option.some.inj this).symm
  have ey:y'=y:=by
   have:ys[i]?=some y':=by simpa using hy'
   rw[hy]at this
   exact(Option.some.inj this).symm
  subst ex ey ev
  obtain⟨fs',hit',at'⟩:=Zr9 (h:=h2) (⟨st2.1,st2.2.1,st2.2.2.1,st2.2.2.2.1,st2.2.2.2.2.1⟩:ZS z TI TO i1 i2 l1 l2 (i+1) h2)
  obtain⟨oT,gT,cT,nT,dT⟩:=hTup
  refine q1 fs' h2 x' y' hit' ?_ ⟨oT,keep2 T oT hTw gT,cT,nT,dT⟩ rx ry
  refine r.swap (fs':=fs') (fun q hq t ht=>?_) (fun c o hc e=>?_) fun q hq=>⟨at' q hq,?_⟩
  ·exact ap _ (hit.1▸List.mem_map_of_mem hq) t ht
  ·rw[hit.1]at hc
   have hcw:c∉[z,TO,i1,i2]:=fun h=>hc (by simp at h ⊢;rcases h with h | h | h | h <;> simp[h])
   exact keep2 c o hcw (keep1 c o hcw e)
  ·rw[hit.1,←hit'.1]
   exact List.mem_map_of_mem hq
 ·intro i W ρ H fr fs s Q E le r ap hit hn post
  obtain⟨vs,e1,e⟩:=Zz0.mp hn
  obtain⟨us,e2,e⟩:=Zz0.mp e
  obtain⟨_,xs,k1,g1,v1⟩:=r.at e1 (le.at ea)
  obtain⟨_,ys,k2,g2,v2⟩:=r.at e2 (le.at eb)
  have hi:i=min vs.length us.length:=by
   split at e
   ·cases e
   ·split at e
    ·assumption
    ·cases e
  have st:ZS z TI TO i1 i2 l1 l2 i s.heap:=hit.2 _ fun q hq=>r.frAt (Zz4 _ hq)
  have Wk:=WalksT.zip2 (prog:=prog) (w:=w) (A:=Γ.A) Γ.hh z TI TO i1 i2 l1 l2 D xs.toArray ys.toArray
  have hm:min xs.toArray.size ys.toArray.size=i:=by simp[v1.length,v2.length,hi]
  refine Wk.done s Q E (by rw[hm];exact⟨st.1,st.2.1,st.2.2.1,st.2.2.2.1,st.2.2.2.2,⟨_,g1,rfl,k1,rfl⟩,⟨_,g2,rfl,k2,rfl⟩⟩) fun h' tk keep=>post h' tk ?_
  have:=r.swap (fs':=[]) (fun q hq t ht=>ap _ (hit.1▸List.mem_map_of_mem hq) t ht) (fun c o hc e=>keep c o (fun h=>hc (by rw[hit.1];simp at h ⊢;rcases h with h | h | h | h <;> simp[h])) e) (fun q hq=>nomatch hq)
  exact this
 ·intro i W ρ H fr fs s Q E o le r hit hn q
  obtain⟨vs,e1,e⟩:=Zz0.mp hn
  obtain⟨us,e2,e⟩:=Zz0.mp e
  obtain⟨_,xs,k1,g1,v1⟩:=r.at e1 (le.at ea)
  obtain⟨_,ys,k2,g2,v2⟩:=r.at e2 (le.at eb)
  have st:ZS z TI TO i1 i2 l1 l2 i s.heap:=hit.2 _ fun q hq=>r.frAt (Zz4 _ hq)
  have Wk:=WalksT.zip2 (prog:=prog) (w:=w) (A:=Γ.A) Γ.hh z TI TO i1 i2 l1 l2 D xs.toArray ys.toArray
  exact Wk.self i s Q E ⟨st.1,st.2.1,st.2.2.1,st.2.2.2.1,st.2.2.2.2,⟨_,g1,rfl,k1,rfl⟩,⟨_,g2,rfl,k2,rfl⟩⟩ q
theorem JI2.zip{x:Str}{np pos:Pos}{e1 e2:Expr}{f g:Ex}(hn:Nm prog w Γ x (.type "zip"))(h1:J prog w Γ e1 f)(h2:J prog w Γ e2 g)
  (he:starEach [e1,e2] Γ.env=(false,eval e1 Γ.env)::starEach [e2] Γ.env:=by rfl) (he2:starEach [e2] Γ.env=(false,eval e2 Γ.env)::starEach [] Γ.env:=by rfl) (hp:∀pos,(backTo pos (starEach [e2] Γ.env)).any (·.1)=false:=by intro _;rfl):JI2 prog w Γ (.Call (.Name x np) [e1,e2] [] pos) (Zdb f g):=by
 intro W ρ H fr s Q E nx n H' r hf post
 obtain⟨p,a1,hf⟩:=Zz0.mp hf
 obtain⟨q,a2,hf⟩:=Zz0.mp hf
 refine wpAny_Call_ofName (hn.use r ?_)
 refine PySem.Pv.callWith_type1 (wpAny_items_cons (h1 W ρ H fr s _ E _ _ r a1 fun W1 k1 t1 y1 l1 r1 v1=>?_) he) he (hp pos)
 refine wpAny_items_cons (h2 W1 ρ _ fr _ _ E _ _ r1 a2 fun W2 k2 t2 y2 l2 r2 v2=>wpAny_items_nil ?_) he2
 have v1':=v1.mono l2
 obtain⟨u1,H1⟩:=p
 obtain⟨u2,H2⟩:=q
 simp only at hf v1' v2 r2
 cases u1 <;> first | (cases hf;done) | skip
 rename_i b1
 cases u2 <;> first | (cases hf;done) | skip
 rename_i b2
 obtain⟨vs,c1,hf⟩:=Zz0.mp hf
 obtain⟨us,c2,c3⟩:=Zz1.mp hf
 cases c3
 cases v1' with
 | @ref _ m1 ea=>
 cases v2 with
 | @ref _ m2 eb=>
 obtain⟨_,xs,n1,g1,w1⟩:=r2.at c1 ea
 obtain⟨_,ys,n2,g2,w2⟩:=r2.at c2 eb
 have isl1:k2.IsList m1 xs.toArray:=⟨_,g1,rfl,n1,rfl⟩
 have isl2:k2.IsList m2 ys.toArray:=⟨_,g2,rfl,n2,rfl⟩
 refine call_zip_2 (s:={ s with heap:=k2,toks:=t2 }) isl1 isl2 fun h₁ hz hTI hTO hi1 hi2 hsz up=>?_
 have ap:=zipApart_new (n:=k2.objs.size) (Heap.lt_size g1) (Heap.lt_size g2)
 have Wk:=WalksT.zip2 (prog:=prog) (w:=w) (A:=Γ.A) Γ.hh _ _ _ _ _ m1 m2 ap xs.toArray ys.toArray
 have zs:ZS (k2.objs.size+4) (k2.objs.size+2) (k2.objs.size+3) k2.objs.size (k2.objs.size+1) m1 m2 0 h₁:=⟨hz,hTI,⟨_,_,hTO⟩,hi1,hi2⟩
 refine Wk.self 0 _ _ _ ⟨hz,hTI,⟨_,_,hTO⟩,hi1,hi2,isl1.at fun o e=>up _ o e,isl2.at fun o e=>up _ o e⟩ ?_
 obtain⟨fs,hit,at'⟩:=Zr9 zs
 obtain⟨r3,ap3⟩:=r2.more (fs:=fs) (h':=h₁) (fun b o e=>up b o e) (fun q hq=>⟨at' q hq,by
  have:q.1∈fs.map (·.1):=List.mem_map_of_mem hq
  rw[hit.1]at this
  simp at this
  rcases this with e | e | e | e | e <;> rw[e] <;> omega⟩)
 refine post W2 h₁ t2 _ _ _ fs (l1.trans l2) hit r3 (fun b hb t ht=>?_) (Zzl ea eb ap) ?_
 ·rw[←hit.1]at hb
  obtain⟨q,hq,e⟩:=Zz11.mp hb
  exact e▸ap3 q hq t ht
 ·simp only[Zh9,c1,c2,Option.bind_some]
  split
  ·exact⟨_,rfl⟩
  ·rename_i hno
   have:0=min vs.length us.length:=by
    rcases Nat.eq_zero_or_pos vs.length with z | z
    ·rw[z];simp
    ·rcases Nat.eq_zero_or_pos us.length with z' | z'
     ·rw[z'];simp
     ·exact(hno vs[0] us[0] (by simp[z]) (by simp[z'])).elim
   rw[if_pos this]
   exact⟨_,rfl⟩
theorem ZxU{x1 x2:Str}{i1 i2 kt:Nat}{p1 p2 tp:Pos}(h1:Sto prog w Γ x1 i1)(h2:Sto prog w Γ x2 i2){W:Wd}{ρ:Lc}{H:Hp}{fr:List (Addr×Obj)}{s:Shared}{Q:Unit→Shared→Prop}{E:Value→Shared→Prop}{T:Addr}{y1 y2:Value}{a b:V}(r:Rep Γ W ρ H fr s.heap)(ht:IsTup s.heap T #[y1,y2])(v1:VR W a y1)(v2:VR W b y2)
  (post:∀(h':Heap) (tk':Nat),Rep Γ W (upd (upd ρ i1 a) i2 b) H fr h'→Q () { s with heap:=h',toks:=tk' }):wpAny (model prog w) Γ.A (assign (.Tuple [.Name x1 p1,.Name x2 p2] kt tp) Γ.env (.ref T)) Q E s:=by
 refine assign_Tuple_tuple Γ.hh ht rfl rfl fun g₄ he=>?_
 have r4:=r.grown (h':=g₄) fun b o e=>he b o (Nat.ne_of_lt (Heap.lt_size e)) e
 refine assignInOrder_cons (wpAny_assign_Name (h1 W ρ H fr _ _ _ a y1 r4 v1 fun k5 t5 r5=>?_))
 refine assignInOrder_cons (wpAny_assign_Name (h2 W _ H fr _ _ _ b y2 r5 v2 fun k6 t6 r6=>?_))
 exact assignInOrder_nil (post k6 t6 r6)
theorem Zfn{x1 x2:Str}{i1 i2 kt:Nat}{p1 p2 tp pos:Pos}{it:Expr}{body:List Stmt}{g:Src}{b:Sm}(h1:Sto prog w Γ x1 i1)(h2:Sto prog w Γ x2 i2)(hg:JI2 prog w Γ it g)(hb:Ss prog w Γ body b)(hs:∀x,foldedSetIterable it Γ.env x=pure x:=by intro _;rfl):
  S1 prog w Γ (.For (.Tuple [.Name x1 p1,.Name x2 p2] kt tp) it body [] pos) (ZaX g (ZbY i1 i2) b):=by
 intro W ρ H fr s Q E r rp hf post
 obtain⟨z,e1,hf⟩:=Zz0.mp hf
 obtain⟨nx,n,H0⟩:=z
 refine wpAny_For (hg W ρ H fr s _ E nx n H0 rp e1 fun W1 k1 t1 itv as It fs l1 j1 r1 ap I1 _=>?_) hs
 refine codeAny_forLoop_any (fun k s'=>∃W' ρ' H' h' tk' j fs',s' = { s with heap:=h',toks:=tk' }∧W1.Le W'∧It j fs'∧Rep Γ W' ρ' H' (fs'++fr) h'∧Zc9 nx (ZbY i1 i2) b k j ρ' H'=some r) ?_ n ⟨W1,ρ,H0,k1,t1,0,fs,rfl,.refl _,j1,r1,hf⟩
 rintro k s' ⟨W2,ρ2,H2,k2,t2,j,fs2,rfl,l2,j2,r2,e⟩
 cases k with
 | zero=>cases e
 | succ k=>
  obtain⟨o,e2,e⟩:=Zz0.mp e
  cases o with
  | none=>
   cases e
   exact I1.done j W2 ρ2 H2 fr fs2 _ _ _ l2 r2 ap j2 e2 fun h' tk' r3=>wpAny_execs_nil (post W2 h' tk' (l1.trans l2) r3)
  | some v=>
   obtain⟨va,vb,ev⟩:=I1.pair j H2 v e2
   subst ev
   refine I1.item j W2 ρ2 H2 fr fs2 _ _ _ va vb l2 r2 ap j2 e2 fun T h3 t3 go=>?_
   obtain⟨ρ3,e3,e⟩:=Zz0.mp e
   cases e3
   obtain⟨q,e4,e⟩:=Zz0.mp e
   refine go _ _ _ _ _ _ rfl fun fs3 k3 y1 y2 j3 r3 ht w1 w2=>?_
   refine ZxU h1 h2 (s:={ s with heap:=k3,toks:=t3 }) r3 ht w1 w2 fun k4 t4 r4=>?_
   refine hb W2 _ H2 (fs3++fr) _ _ _ q r4 e4 ?_
   obtain⟨u,ρ5,H5⟩:=q
   cases u with
   | some u=>
    cases e
    exact fun W5 k5 t5 x5 l5 r5 v5=>post W5 k5 t5 x5 ((l1.trans l2).trans l5) (r5.less fun q hq=>List.mem_append_right _ hq) v5
   | none=>exact fun W5 k5 t5 l5 r5=>⟨k,Nat.lt_succ_self k,W5,ρ5,H5,k5,t5,j+1,fs3,rfl,l2.trans l5,j3,r5,e⟩
theorem Zq3{elt iter:Expr}{x x₂:Str}{px px₂ tp:Pos}{kt:Nat}{scope:Scope}{pos:Pos}{cl:List (Str×Addr)}{t t₂:Nat}{g:Src}{f:Ex}(hg:JI2 prog w Γ iter g)(hel:∀C ρ,J prog w (Zbf Γ scope cl C [(x,t),(x₂,t₂)] ρ) elt f)
  (hcell:∀y∈scope.names,y.2≠.cell) (hkind:scope.kind=.function) (hx:scope.names.lookup x=some .local) (hx₂:scope.names.lookup x₂=some .local) (hxx:x≠x₂) (htt:t≠t₂)
  {W:Wd} {ρ:Lc} {H:Hp} {fr:List (Addr×Obj)} {s:Shared} {E:Value→Shared→Prop} {q:List V×Hp} {RR:Value→Addr→Result→Shared→Prop} (r:Rep Γ W ρ H fr s.heap) (hf:((g ρ H).bind fun z=>ZcX z.1 (ZbY t t₂) Zaw f ρ z.2.1 0 [] z.2.2)=some q)
  (hR:∀(W':Wd) (h':Heap) (tk':Nat) (C D:Addr) (oC:Obj) (m₂:Str→Option Value) (ys:List Value),W.Le W'→NsObj oC m₂→VRs W' q.1 ys→q.1.length≤LEN→(∀t∈fr,D≠t.1)→(∀t∈fr,C≠t.1)→C≠D→Rep Γ W' ρ q.2 ((C,oC)::(D,lst ys)::fr) h'→RR (.ref D) C (.ok .next) { s with heap:=h',toks:=tk' }):
  wpAny (model prog w) Γ.A (eval iter Γ.env) (fun xv s₁=>wpAny (model prog w) Γ.A (pyIter xv) (fun it s₂=>wpAny (model prog w) Γ.A (newList []) (fun acc s₃=>wpAny (model prog w) Γ.A (newFunctionEnv scope Γ.env.globals cl [] Γ.env.qual none .none (some Γ.env)) (fun cenv s₄=>
   codeAny (model prog w) Γ.A (.compStart (.ListComp elt [⟨.Tuple [.Name x px,.Name x₂ px₂] kt tp,iter,[],0⟩] scope pos) 0 it acc { cenv with scope:=relabel scope Γ.env }) (RR acc cenv.locals) s₄) E s₃) E s₂) E s₁) E s:=by
 obtain⟨z,e1,e2⟩:=Zz0.mp hf
 obtain⟨nx,n,H0⟩:=z
 refine hg W ρ H fr s _ E nx n H0 r e1 fun W1 k1 t1 itv as It fs l1 i1 r1 ap I1 hstart=>?_
 refine wpAny_newObj_type (wpAny_newFunctionEnv hcell (fun y hy=>by simp at hy) (fun h₂ hns hsb=>?_) hkind)
 dsimp only at hns hsb ⊢
 obtain⟨rD,aD⟩:=r1.more (fs:=[(k1.objs.size,lst [])]) (fun b o e=>Heap.get?_push_of_some (lst []) e) (fun q hq=>by rw[List.mem_singleton.mp hq];exact⟨Heap.get?_push_size _ rfl,Nat.le_refl _⟩)
 generalize eH:k1.push { cls:=.type "list",dict:=none,data:=.seq ([]:List Value).toArray } = K at hns hsb ⊢
 have eK:k1.push (lst [])=K:=eH
 rw[eK]at rD
 obtain⟨oC,gC,nC⟩:=ns_obj hns
 have up:∀b o,K.get? b=some o→h₂.get? b=some o:=fun b o e=>hsb.extBut b o (Nat.ne_of_lt (Heap.lt_size e)) (Heap.get?_push_of_some _ e)
 obtain⟨rC,aC⟩:=rD.more (fs:=[(K.objs.size,oC)]) up (fun q hq=>by rw[List.mem_singleton.mp hq];exact⟨gC,Nat.le_refl _⟩)
 have adr0:=I1.adr 0 fs i1
 have offs:∀b∈as,b≠k1.objs.size∧b≠K.objs.size:=fun b hb=>by
  rw[←adr0]at hb
  obtain⟨q,hq,e⟩:=Zz11.mp hb
  exact⟨e▸(aD _ Zz5 q (Zz4 _ hq)).symm,e▸(aC _ Zz5 q (Zz3 _ (Zz4 _ hq))).symm⟩
 have cd:K.objs.size≠k1.objs.size:=aC _ Zz5 (k1.objs.size,lst []) (Zz4 _ Zz5)
 have cfr:∀t∈fr,K.objs.size≠t.1:=fun t ht=>aC _ Zz5 t (Zz3 _ (Zz3 _ ht))
 have dfr:∀t∈fr,k1.objs.size≠t.1:=fun t ht=>aD _ Zz5 t (Zz3 _ ht)
 generalize k1.objs.size=D at *
 generalize K.objs.size=C at *
 have loop:∀s₃:Shared,s₃ = { s with heap:=h₂,toks:=t1+([]:List (Str×Value)).length } →
   codeAny (model prog w) Γ.A (.compLoop (.ListComp elt [⟨.Tuple [.Name x px,.Name x₂ px₂] kt tp,iter,[],0⟩] scope pos) 0 itv (.ref D) (compEnvC scope cl C Γ.env)) (RR (.ref D) C) s₃:=by
  intro s₃ hs₃
  subst hs₃
  refine codeAny_compLoop_pair (Zii Γ W1 ρ fr C D It nx (ZbY t t₂) Zaw f q s) ?_ n ⟨W1,H0,h₂,_,0,fs,[],[],oC,_,rfl,.refl _,i1,nC,.nil,Nat.zero_le _,rC,e2⟩
  rintro k s' ⟨W2,H2,k2,t2,j,fs2,acc,ys,oC2,m₂,rfl,l2,i2,hC2,hv2,hl2,r2,e⟩
  cases k with
  | zero=>cases e
  | succ k=>
   obtain⟨o,e4,e⟩:=Zz0.mp e
   have r2':Rep Γ W2 ρ H2 (fs2++((C,oC2)::(D,lst ys)::fr)) k2:=r2.less fun q hq=>by
    rcases Zz8.mp hq with hq | hq
    ·exact Zz2 _ (Zz2 _ (Zz4 _ hq))
    ·rcases Zz7.mp hq with e | hq
     ·exact e▸List.mem_cons_self
     ·rcases Zz7.mp hq with e | hq
      ·exact e▸List.mem_cons_of_mem _ Zz5
      ·exact Zz2 _ (Zz2 _ (Zz3 _ hq))
   have ap2:∀b∈as,∀t∈(C,oC2)::(D,lst ys)::fr,b≠t.1:=fun b hb t ht=>by
    rcases Zz7.mp ht with e | ht
    ·rw[e]
     exact(offs b hb).2
    ·rcases Zz7.mp ht with e | ht
     ·rw[e]
      exact(offs b hb).1
     ·exact ap b hb t ht
   cases o with
   | none=>
    cases e
    exact I1.done j W2 ρ H2 _ fs2 _ _ _ l2 r2' ap2 i2 e4 fun h' tk' r3=>hR W2 h' tk' C D oC2 m₂ ys (l1.trans l2) hC2 hv2 hl2 dfr cfr cd r3
   | some v=>
    obtain⟨va,vb,ev⟩:=I1.pair j H2 v e4
    subst ev
    refine I1.item j W2 ρ H2 _ fs2 _ _ _ va vb l2 r2' ap2 i2 e4 fun T h3 t3 go=>?_
    obtain⟨ρ3,e5,e⟩:=Zz0.mp e
    cases e5
    refine go _ _ _ _ _ _ rfl fun fs3 k3 y1 y2 i3 r3 htup w1 w2=>?_
    have a3:∀t∈fs3,t.1∈as:=fun t ht=>by
     rw[←I1.adr _ _ i3]
     exact List.mem_map_of_mem ht
    refine assign_Tuple_tuple (s:={ s with heap:=k3,toks:=t3 }) Γ.hh htup rfl rfl fun g₄ he=>?_
    have r3g:=r3.grown (h':=g₄) fun b o e=>he b o (Nat.ne_of_lt (Heap.lt_size e)) e
    have gC3:g₄.get? C=some oC2:=r3g.frAt (q:=(C,oC2)) (Zz3 _ Zz5)
    have nC3:g₄.Ns C m₂:=hC2.ns gC3
    refine assignInOrder_cons (wpAny_assign_Name (wpAny_storeName_local (lookup_relabel_local hx) nC3 (fun h5 hn5 sb5=>?_) (by simp[compEnvC,relabel,hkind])))
    refine assignInOrder_cons (wpAny_assign_Name (wpAny_storeName_local (lookup_relabel_local hx₂) hn5 (fun h4 hn4 sb4=>?_) (by simp[compEnvC,relabel,hkind])))
    refine assignInOrder_nil ?_
    obtain⟨oC4,gC4,nC4⟩:=ns_obj hn4
    have r3':Rep Γ W2 ρ H2 ([(C,oC2)]++((D,lst ys)::(fs3++fr))) g₄:=r3g.less fun q hq=>by
     rcases Zz8.mp hq with hq | hq
     ·rw[List.mem_singleton.mp hq]
      exact Zz3 _ Zz5
     ·rcases Zz7.mp hq with e | hq
      ·exact e▸List.mem_append_right _ (Zz2 _ Zz5)
      ·rcases Zz8.mp hq with hq | hq
       ·exact Zz4 _ hq
       ·exact Zz3 _ (Zz2 _ (Zz2 _ hq))
    have aC3:∀t∈(D,lst ys)::(fs3++fr),C≠t.1:=fun t ht=>by
     rcases Zz7.mp ht with e | ht
     ·rw[e]
      exact cd
     ·rcases Zz8.mp ht with ht | ht
      ·exact(offs _ (a3 t ht)).2.symm
      ·exact cfr t ht
    have aD3:∀t∈fs3++fr,D≠t.1:=fun t ht=>by
     rcases Zz8.mp ht with ht | ht
     ·exact(offs _ (a3 t ht)).1.symm
     ·exact dfr t ht
    have r4:Rep Γ W2 ρ H2 ([(C,oC4)]++((D,lst ys)::(fs3++fr))) h4:=by
     refine r3'.swap (fun q hq t ht=>?_) (fun b o hb e=>sb4.extBut b o (fun z=>hb (by simp[z,compEnvC])) (sb5.extBut b o (fun z=>hb (by simp[z,compEnvC])) e)) fun q hq=>?_
     ·rw[List.mem_singleton.mp hq]
      exact aC3 t ht
     ·rw[List.mem_singleton.mp hq]
      exact⟨gC4,by simp⟩
    have rc:=Zr8 (scope:=scope) (cl:=cl) (ts:=[(x,t),(x₂,t₂)]) (ρ:=upd (upd ρ t va) t₂ vb) r4 aC3 nC4 (fun p hp=>by
     rcases Zz7.mp hp with e | hp
     ·rw[e]
      exact⟨va,y1,by simp[upd,htt],by simp[hxx],w1⟩
     ·rw[List.mem_singleton.mp hp]
      exact⟨vb,y2,by simp[upd],by simp,w2⟩) (fun i hi=>by
     have h1:i≠t:=fun e=>hi (x,t) Zz5 e.symm
     have h2:i≠t₂:=fun e=>hi (x₂,t₂) (Zz2 _ Zz5) e.symm
     simp[upd,h1,h2])
    exact Zrl (hel C ρ) aD3 cd l2 i3 hv2 rc e
 refine codeAny_compStart_list (loop _ rfl) ?_
 obtain⟨o0,ho0⟩:=hstart
 exact I1.self 0 W1 ρ H0 (([(C,oC)]++[(D,lst [])])++fr) fs _ _ _ o0 (.refl _) (rC.less fun q hq=>by
  rcases Zz8.mp hq with hq | hq
  ·exact Zz3 _ (Zz3 _ (Zz4 _ hq))
  ·rcases Zz8.mp hq with hq | hq
   ·rcases Zz8.mp hq with hq | hq
    ·exact Zz4 _ hq
    ·exact Zz3 _ (Zz4 _ hq)
   ·exact Zz3 _ (Zz3 _ (Zz3 _ hq))) i1 ho0 (loop _ rfl)
theorem ZxV{elt iter:Expr}{x x₂:Str}{px px₂ tp:Pos}{kt:Nat}{scope:Scope}{pos:Pos}{cl:List (Str×Addr)}{t t₂:Nat}{g:Src}{f:Ex}(hg:JI2 prog w Γ iter g)(hel:∀C ρ,J prog w (Zbf Γ scope cl C [(x,t),(x₂,t₂)] ρ) elt f)
  (hclos:closureFor scope Γ.env=pure cl) (hcell:∀y∈scope.names,y.2≠.cell) (hkind:scope.kind=.function) (hnames:∀y∈scope.names,y.2=.local→scope.names.lookup y.1=some .local) (hx:scope.names.lookup x=some .local) (hx₂:scope.names.lookup x₂=some .local) (hxx:x≠x₂) (htt:t≠t₂) (hs:∀x,foldedSetIterable iter Γ.env x=pure x:=by intro _;rfl):
  J prog w Γ (.ListComp elt [⟨.Tuple [.Name x px,.Name x₂ px₂] kt tp,iter,[],0⟩] scope pos) (ZaB g (ZbY t t₂) Zaw f):=by
 intro W ρ H fr s Q E v H' r hf post
 obtain⟨z,e1,hf⟩:=Zz0.mp hf
 obtain⟨q,e2,e3⟩:=Zz1.mp hf
 cases e3
 rw[eval_ListComp]
 refine wpAny_comprehension_free (use:=Option.none) rfl hs hclos hkind hnames ?_
 refine Zq3 (RR:=fun acc C=>compPost (model prog w) Γ.A E Option.none Q acc C) hg hel hcell hkind hx hx₂ hxx htt r (q:=q) (by rw[e1];exact e2) fun W2 h' tk' C D oC m₂ ys l2 hC hv hl aD aC cd r3=>?_
 refine⟨m₂,hC.ns (r3.frAt (q:=(C,oC)) Zz5),fun h'' sb=>?_⟩
 obtain⟨W5,l5,r5,v5⟩:=Zrz hv hl aD aC cd r3 sb
 exact post W5 h'' tk' _ (l2.trans l5) r5 v5
end
end PM
end
section
namespace PM
open PySem PySem.W PySem.Calls PyProof.Rows PyProof PySem.Spec
theorem Zzm{prog:Program}{w:World}{A A₀:Around}{s:Shared}{base h₀:Heap}{L:Addr}{m:Str→Option Value}{lent:List (Addr×Obj)}{K:Frag}{p:Program}{loose:List Str}{mean:ExcName→Option Value}{mg mb:Str→Option Value}
  {env:Env} {outer:List Env} {R:Result→Shared→Prop} {name qual:Str} {params:Arguments} {body:List Stmt} {scope:Scope} {dV kV doc pm cdv ct oc:Value} {an od:Option Addr} {osl:Array (Option Value)} {f:Addr} {args:Args} {binds:List (Str×Value)}
  (B:Below A₀ base outer h₀) (F:Fr h₀ L s.heap m) (X₀:K.In h₀) (N:News h₀ L s.heap lent) (T:Top p loose mean mg mb h₀) (hA:A.frames=some (env::outer)) (hf:env.frame=some L) (hke:env.scope.kind=.function)
  (ho:K.lookup f=some ⟨oc,od,.func (fnOf name qual params body scope dV kV doc pm an cdv ct),osl⟩) (hcd:codeIn K cdv qual=true) (hroom:A.depth<recursionLimit)
  (hbind:BindsTo s (fnOf name qual params body scope dV kV doc pm an cdv ct) args binds) (hall:(binds.all fun y=>scope.names.lookup y.1 == some .local || scope.names.lookup y.1 == some .cell)=true) (hone:((cellsFrom 0 scope.names []).map (·.1)).Nodup)
  (h:∀g L' h₁ tk cells,(∀b o,s.heap.get? b=some o→b∉lent.map (·.1)→g.get? b=some o)→Fr g L' h₁ (bindL (envOfC qual scope L' f cdv).kindOf binds fun _=>none)→News g L' h₁ (cells++lent)→CellsAre (bindC (envOfC qual scope L' f cdv).kindOf binds fun _=>none) (cellsFrom (L'+1) scope.names []) cells →
   (cellsFrom (L'+1) scope.names []).Pairwise (fun x y=>x.2≠y.2)→(∀n c,(n,c)∈cellsFrom (L'+1) scope.names []→L'<c)→Below A base (env::outer) g→K.In g→Top p loose mean mg mb g→(∀q∈lent,q.1<L')→s.heap.objs.size≤L' →
   wpAny (model prog w) (A.deeper (envOfC qual scope L' f cdv)) (execs body (envOfC qual scope L' f cdv)) (fun fl s'=>LeaveK h₀ L m g R (match fl with | .ret v=>v | _=>.none) s')
    (fun e s'=>wpAny (model prog w) (A.deeper (envOfC qual scope L' f cdv)) (leaving (envOfC qual scope L' f cdv) e) (fun _ s''=>R (.error e) s'') (fun e' s''=>R (.error e') s'') s') { s with heap:=h₁,toks:=tk })
  (hco:scope.isCoroutine=false) (hgen:scope.isGenerator=false) (hk:scope.kind=.function):codeAny (model prog w) A (.call (.ref f) args) R s:=by
 obtain⟨FG,BG,st,lv⟩:=groundX (R:=R) B F N hA hf hke
 have X:=X₀.keeps F.keep
 refine codeAny_call_function (fd:=fnOf name qual params body scope dV kV doc pm an cdv ct) hroom (X _ _ ho) rfl hco hgen rfl (codeRec_of X hcd) (hbind _ _ _ _ ?_)
 refine wpAny_newFunctionEnv_cells hk (kindsX hall _) fun fresh hfr s' inC=>?_
 subst hfr
 have up:=inC.toInCall.keep
 refine⟨(T.nolimit.keeps F.keep).keeps up,codeAny_func ?_⟩
 obtain⟨h₁,tk,hs',_⟩:=inC.done
 subst hs'
 have nod:=cellsFrom_names scope.names 0 (s.heap.objs.size+1) [] [] rfl▸hone
 obtain⟨cells,NC,Y⟩:=Cl.news (h₀:=s.heap) (L:=s.heap.objs.size) (Zz10 _) fun n c hm=>⟨inC.cell n c (lookup_of_mem_nodup nod hm),inC.above n c hm⟩
 have old:∀q∈lent,q.1<s.heap.objs.size:=fun q hq=>Heap.lt_size (N q hq).1
 refine wpAny_mono (h _ s.heap.objs.size h₁ tk cells (fun b o e nb=>hideAll_get _ e nb) ⟨inC.toInCall.ns,fun b o e=>up b o (of_hideAll _ e),Nat.le_of_eq (hideAll_size _ _)⟩ (fun q hq=>?_) Y inC.apart inC.above BG (X₀.keeps st) (T.keeps st) old (Zz10 _)) (fun fl s' hl=>lv _ _ hl) fun _ _ y=>y
 rcases Zz8.mp hq with hq | hq
 ·obtain⟨c1,c2,c3⟩:=NC q hq
  refine⟨c1,c2,?_⟩
  cases e:(hideAll s.heap (lent.map (·.1))).get? q.1 with
  | none=>rfl
  | some o=>
   have z:=of_hideAll _ e
   rw[c3]at z
   cases z
 ·exact⟨up _ _ (N q hq).1,Nat.ne_of_lt (old q hq),hideAll_none _ (List.mem_map_of_mem hq)⟩
section
variable (prog:Program) (w:World) (K:Frag) (p:Program) (loose:List Str) (mean:ExcName→Option Value) (mg mb:Str→Option Value)
def Clr(Γ:Cx)(dp un:Nat): Prop:=∃(gd:Option (List Code)) (cn:Str) (cs:Scope) (a:Addr) (ccd:Value) (cl:List (Str×Addr)) (outer:List Env) (A₀:Around) (base:Heap),
 Γ.A=ktrTop dp un gd cn cs Γ.L a ccd cl outer∧Below A₀ base outer Γ.h₀∧K.In Γ.h₀∧Top p loose mean mg mb Γ.h₀∧cs.kind=.function
def Def(f:Addr)(room:Nat)(F:List V→Hp→Option (V×Hp)): Prop:=∀(Γ:Cx) (dp un:Nat),Clr K p loose mean mg mb Γ dp un→dp+room<recursionLimit→un+10*room+300<cLine →
 ∀(W:Wd) (ρ:Lc) (H:Hp) (fr:List (Addr×Obj)) (s:Shared) (Q E:Value→Shared→Prop) (as:List V) (xs:List Value) (v:V) (H':Hp),
  Rep Γ W ρ H fr s.heap→VRs W as xs→F as H=some (v,H')→Zig Γ W ρ H' fr s Q v→wpAny (model prog w) Γ.A (call (.ref f) xs) Q E s
end
noncomputable def ZT(n:Nat)(g:Sm): List V→Hp→Option (V×Hp):=fun as H=>if as.length=n then(g (fun i=>as[i]?) H).map fun r=>((r.1.getD .none),r.2.2)else none
theorem Zwa{kindOf:Str→Option NameKind}: ∀{ps:List Str} {xs:List Value} {m:Str→Option Value} {x:Str} {i:Nat} {y:Value},ps.Nodup→ps[i]?=some x→xs[i]?=some y→kindOf x=some .local→bindL kindOf (ps.zip xs) m x=some y:=by
 have skip:∀{ps:List Str} {xs:List Value} {m:Str→Option Value} {x:Str},x∉ps→bindL kindOf (ps.zip xs) m x=m x:=by
  intro ps
  induction ps with
  | nil=>intro xs m x _;rfl
  | cons p ps ih=>
   intro xs m x hx
   cases xs with
   | nil=>rfl
   | cons z xs=>
    simp only[List.zip_cons_cons,bindL]
    rw[ih (fun h=>hx (Zz2 _ h))]
    have:x≠p:=fun e=>hx (e▸List.mem_cons_self)
    split <;> simp[this]
 intro ps
 induction ps with
 | nil=>intro xs m x i y _ h;simp at h
 | cons p ps ih=>
  intro xs m x i y nd hp hx hk
  cases xs with
  | nil=>simp at hx
  | cons z xs=>
   obtain⟨n1,n2⟩:=List.nodup_cons.mp nd
   cases i with
   | zero=>
    simp at hp hx
    subst hp hx
    simp only[List.zip_cons_cons,bindL]
    rw[skip n1,if_pos hk]
    simp
   | succ i=>
    simp at hp hx
    simp only[List.zip_cons_cons,bindL]
    exact ih n2 hp hx hk
theorem Zwb{kindOf:Str→Option NameKind}: ∀{ps:List Str} {xs:List Value} {m:Str→Option Value} {x:Str} {i:Nat} {y:Value},ps.Nodup→ps[i]?=some x→xs[i]?=some y→kindOf x=some .cell→bindC kindOf (ps.zip xs) m x=some y:=by
 have skip:∀{ps:List Str} {xs:List Value} {m:Str→Option Value} {x:Str},x∉ps→bindC kindOf (ps.zip xs) m x=m x:=by
  intro ps
  induction ps with
  | nil=>intro xs m x _;rfl
  | cons p ps ih=>
   intro xs m x hx
   cases xs with
   | nil=>rfl
   | cons z xs=>
    simp only[List.zip_cons_cons,bindC]
    rw[ih (fun h=>hx (Zz2 _ h))]
    have:x≠p:=fun e=>hx (e▸List.mem_cons_self)
    split <;> simp[this]
 intro ps
 induction ps with
 | nil=>intro xs m x i y _ h;simp at h
 | cons p ps ih=>
  intro xs m x i y nd hp hx hk
  cases xs with
  | nil=>simp at hx
  | cons z xs=>
   obtain⟨n1,n2⟩:=List.nodup_cons.mp nd
   cases i with
   | zero=>
    simp at hp hx
    subst hp hx
    simp only[List.zip_cons_cons,bindC]
    rw[skip n1,if_neg (by rw[hk];simp)]
    simp
   | succ i=>
    simp at hp hx
    simp only[List.zip_cons_cons,bindC]
    exact ih n2 hp hx hk
theorem ZhP{cm:Str→Option Value}: ∀{cs:List (Str×Addr)} {cells:List (Addr×Obj)} {x:Str} {c:Addr},CellsAre cm cs cells→(x,c)∈cs→∃o,(c,o)∈cells∧o.data=.cell (cm x)
 | _,_,_,_,.nil,h=>nomatch h
 | _,_,_,_,.cons hd r,h=>by
  rcases Zz7.mp h with e | h
  ·cases e
   exact⟨_,List.mem_cons_self,hd⟩
  ·obtain⟨o,h1,h2⟩:=ZhP r h
   exact⟨o,List.mem_cons_of_mem _ h1,h2⟩
theorem Zsa{cm:Str→Option Value}: ∀{cs:List (Str×Addr)} {cells:List (Addr×Obj)} {q:Addr×Obj},CellsAre cm cs cells→q∈cells→∃x,(x,q.1)∈cs
 | _,_,_,.nil,h=>nomatch h
 | _,_,_,.cons hd r,h=>by
  rcases Zz7.mp h with e | h
  ·cases e
   exact⟨_,List.mem_cons_self⟩
  ·obtain⟨x,h1⟩:=Zsa r h
   exact⟨x,List.mem_cons_of_mem _ h1⟩
theorem ZdX{α β:Type}[BEq α][LawfulBEq α]: ∀{l:List (α×β)} {x:α} {y:β},l.lookup x=some y→(x,y)∈l
 | [],_,_,h=>by simp at h
 | (a,b)::r,x,y,h=>by
  rw[List.lookup_cons]at h
  split at h
  ·rename_i e
   cases h
   have:=eq_of_beq e
   subst this
   exact Zz5
  ·exact Zz2 _ (ZdX h)
end PM
end
section
namespace PM
open PySem PySem.W PySem.Calls PyProof.Rows PyProof PySem.Spec
section
variable {prog:Program} {w:World} {K:Frag} {p:Program} {loose:List Str} {mean:ExcName→Option Value} {mg mb:Str→Option Value}
theorem Def.of{name qual:Str}{params:Arguments}{body:List Stmt}{scope:Scope}{dV kV doc pm cdv ct oc:Value}{an od:Option Addr}{osl:Array (Option Value)}{f:Addr}{names:List Str}{n room:Nat}{g:Sm}
  (ho:K.lookup f=some ⟨oc,od,.func (fnOf name qual params body scope dV kV doc pm an cdv ct),osl⟩) (hcd:codeIn K cdv qual=true) (nd:names.Nodup) (hn:n≤names.length)
  (hbind:∀s xs,xs.length=n→BindsTo s (fnOf name qual params body scope dV kV doc pm an cdv ct) ⟨xs,[]⟩ ((names.take n).zip xs)) (hkinds:∀x∈names.take n,scope.names.lookup x=some .local∨scope.names.lookup x=some .cell) (hone:((cellsFrom 0 scope.names []).map (·.1)).Nodup)
  (hco:scope.isCoroutine=false) (hgen:scope.isGenerator=false) (hk:scope.kind=.function)
  (hbody:∀(dp un:Nat) (gd:Option (List Code)) (L:Addr) (outer:List Env) (h₀:Heap) (hu:un+200<cLine),Clr K p loose mean mg mb (ZbH dp un gd qual scope L f cdv (cellsFrom (L+1) scope.names []) outer h₀ hu names) dp un→dp+room<recursionLimit→un+10*room+300<cLine →
   Ss prog w (ZbH dp un gd qual scope L f cdv (cellsFrom (L+1) scope.names []) outer h₀ hu names) body g):
  Def prog w K p loose mean mg mb f (room+1) (ZT n g):=by
 intro Γ dp un clr hd hu W ρ H fr s Q E as xs v H' r hx hF post
 obtain⟨gd,cn,cs,a,ccd,cl,outer,A₀,base,eA,B,X,T,hke⟩:=clr
 unfold ZT at hF
 split at hF
 ·rename_i hlen
  obtain⟨res,e1,e2⟩:=Zz1.mp hF
  obtain⟨o,ρ',K'⟩:=res
  cases e2
  obtain⟨m,c,led,r⟩:=r
  have hxl:xs.length=n:=by rw[hx.length,hlen]
  have inn:∀q∈led,(q.1∈W.pi∨q.1∈W.tups.map (·.1))↔q∈led.filter (fun q=>decide (q.1∈W.pi∨q.1∈W.tups.map (·.1))):=fun q hq=>⟨fun h=>List.mem_filter.mpr ⟨hq,by simpa using h⟩,fun h=>by simpa using (List.mem_filter.mp h).2⟩
  have isub:∀q∈led.filter (fun q=>decide (q.1∈W.pi∨q.1∈W.tups.map (·.1))),q∈led:=fun q hq=>(List.mem_filter.mp hq).1
  generalize hlent:led.filter (fun q=>decide (q.1∈W.pi∨q.1∈W.tups.map (·.1)))=lent at inn isub
  have notin:∀q∈led,q.1∉W.pi→(∀t∈W.tups,q.1≠t.1)→q.1∉lent.map (·.1):=fun q hq h1 h2 h3=>by
   obtain⟨t,ht,e⟩:=Zz11.mp h3
   rcases(inn t (isub t ht)).mpr ht with z | z
   ·exact h1 (e▸z)
   ·obtain⟨u,hu,e'⟩:=Zz11.mp z
    exact h2 u hu (e▸e'.symm)
  rw[eA]
  refine wpAny_call ?_
  refine Zzm (env:=envX cn cs Γ.L a ccd cl) (lent:=lent) B r.F X (fun q hq=>r.N q (isub q hq)) T rfl rfl hke ho hcd (by show dp<recursionLimit;omega) (hbind s xs hxl) ?_ hone ?_ hco hgen hk
  ·refine List.all_eq_true.mpr fun y hy=>?_
   rcases hkinds y.1 (List.of_mem_zip hy).1 with h | h <;> simp[h]
  intro g0 L' h₁ tk cells stay F' N' Y ap ab B' X' T' old szL
  have hu':(un+3)+200<cLine:=by omega
  have clr':Clr K p loose mean mg mb (ZbH (dp+1) (un+3) gd qual scope L' f cdv (cellsFrom (L'+1) scope.names []) (envX cn cs Γ.L a ccd cl::outer) g0 hu' names) (dp+1) (un+3):=
   ⟨gd,qual,scope,f,cdv,cellsFrom (L'+1) scope.names [],envX cn cs Γ.L a ccd cl::outer,_,base,rfl,B',X',T',hk⟩
  have below:∀q∈cells,L'<q.1:=fun q hq=>by
   obtain⟨x,hx⟩:=Zsa Y hq
   exact ab x _ hx
  have piLt:∀b∈W.pi,b<L':=fun b hb=>by
   obtain⟨o,ho⟩:=r.piIn b hb
   exact Nat.lt_of_lt_of_le (Heap.lt_size (r.get ho)) szL
  have tuLt:∀t∈W.tups,t.1<L':=fun t ht=>Nat.lt_of_lt_of_le (Heap.lt_size (r.get (r.R.tups t ht))) szL
  have scN:W.sc.1∉lent.map (·.1):=fun z=>by
   obtain⟨t,ht,e⟩:=Zz11.mp z
   exact r.notSc t (isub t ht) e
  have tkn:∀{i:Nat} {x:Str} {u:V},names[i]?=some x→as[i]?=some u→(names.take n)[i]?=some x∧∃y,xs[i]?=some y∧VR W u y:=fun {i x u} h1 h2=>by
   have hi:i<n:=by rw[←hlen];exact(Zz6.mp h2).1
   exact⟨by rw[List.getElem?_take_of_lt hi];exact h1,hx.at h2⟩
  have ndt:(names.take n).Nodup:=nd.sublist (List.take_sublist _ _)
  have rep:Rep (ZbH (dp+1) (un+3) gd qual scope L' f cdv (cellsFrom (L'+1) scope.names []) (envX cn cs Γ.L a ccd cl::outer) g0 hu' names) W (fun i=>as[i]?) H [] h₁:=by
   refine⟨_,cells,cells++lent,⟨F',N',⟨r.R.len,r.R.nd,fun i vs e=>?_,fun q hq=>?_,r.R.kind⟩,stay _ _ (r.F.keep _ _ r.sc) scN,r.sc0,fun q hq=>(nomatch hq),fun q hq=>(nomatch hq),fun q hq=>List.mem_append_left _ hq,fun q hq z=>?_,fun q _ t ht=>(nomatch ht),fun q hq=>(nomatch hq),fun q hq t ht=>?_,⟨fun i x u hi hk1 hu1=>?_,fun i x u hi hk1 hu1=>?_,fun x c1 hc=>?_,fun x y c1 h1 h2=>?_⟩⟩⟩
   ·obtain⟨l,b,ys,k,h1,h2,h3⟩:=r.R.lists i vs e
    exact⟨l,b,ys,k,h1,ZeT h2 fun z=>List.mem_append_right _ ((inn _ z).mp (.inl (List.mem_of_getElem? h1))),h3⟩
   ·exact ZeT (r.R.tups q hq) fun z=>List.mem_append_right _ ((inn _ z).mp (.inr (List.mem_map_of_mem hq)))
   ·exact absurd (Nat.lt_trans (piLt _ z) (below q hq)) (Nat.lt_irrefl _)
   ·exact Nat.ne_of_gt (Nat.lt_trans (tuLt t ht) (below q hq))
   ·obtain⟨h1,y,h2,h3⟩:=tkn hi hu1
    exact⟨y,Zwa ndt h1 h2 hk1,h3⟩
   ·obtain⟨h1,y,h2,h3⟩:=tkn hi hu1
    have hs:=cellsFrom_some scope.names (L'+1) [] (.inl hk1)
    obtain⟨c1,hc1⟩:=Option.isSome_iff_exists.mp hs
    obtain⟨o1,ho1,hd1⟩:=ZhP Y (ZdX hc1)
    refine⟨c1,o1,y,hc1,ho1,?_,h3⟩
    rw[hd1,Zwb ndt h1 h2 hk1]
   ·obtain⟨o1,ho1,hd1⟩:=ZhP Y (ZdX hc)
    exact⟨o1,_,ho1,hd1⟩
   ·exact name_of_addr ap (ZdX h1) (ZdX h2)
  have hb:=hbody (dp+1) (un+3) gd L' (envX cn cs Γ.L a ccd cl::outer) g0 hu' clr' (by omega) (by omega)
  have back:∀(W':Wd) (h':Heap) (tk':Nat) (x:Value),W.Le W'→Rep (ZbH (dp+1) (un+3) gd qual scope L' f cdv (cellsFrom (L'+1) scope.names []) (envX cn cs Γ.L a ccd cl::outer) g0 hu' names) W' ρ' K' [] h'→VR W' (o.getD .none) x →
    LeaveK Γ.h₀ Γ.L m g0 (fun r s'=>match r with | .ok (.ret v)=>Q v s' | .ok _=>False | .error e=>E e s') x { s with heap:=h',toks:=tk' }:=by
   intro W' h' tk' x l' r' x'
   obtain⟨m',c',led',r'⟩:=r'
   refine⟨L',m',led',r'.F,r'.N,fun FG NG=>post W' h' tk' x l' ?_ x'⟩
   have g0at:∀q∈led,q.1∉lent.map (·.1)→g0.get? q.1=some q.2:=fun q hq hn=>stay _ _ (r.N q hq).1 hn
   have frN:∀q∈fr,q.1∉lent.map (·.1):=fun q hq=>notin q (r.frIn q hq) (r.frOff q hq) (r.frTup q hq)
   have clN:∀q∈c,q.1∉lent.map (·.1):=fun q hq=>notin q (r.clIn q hq) (r.clOff q hq) (r.clTup q hq)
   have newN:∀t∈led',g0.get? t.1=none:=fun t ht=>(r'.N t ht).2.2
   have far:∀q∈led,q.1∉lent.map (·.1)→∀t∈W'.sc::led',q.1≠t.1:=fun q hq hn t ht e=>by
    rcases Zz7.mp ht with e2 | ht
    ·rw[e2,l'.sc]at e
     exact r.notSc q hq e
    ·have:=g0at q hq hn
     rw[e,newN t ht]at this
     cases this
   have farPi:∀q∈led,q.1∉lent.map (·.1)→q.1∉W'.pi:=fun q hq hn z=>by
    obtain⟨o2,h2⟩:=r'.piIn _ z
    exact far q hq hn _ h2 rfl
   have keep:∀q∈led,q.1∉lent.map (·.1)→q∈led'++led.filter (fun q=>decide (q.1∉lent.map (·.1))):=fun q hq hn=>List.mem_append_right _ (List.mem_filter.mpr ⟨hq,by simpa using hn⟩)
   refine⟨m,c,led'++led.filter (fun q=>decide (q.1∉lent.map (·.1))),⟨FG,fun q hq=>?_,r'.R.mono fun q hq=>ZgL hq fun x hx=>List.mem_append_left _ hx,l'.sc▸r.sc,r'.sc0,fun q hq=>keep q (r.frIn q hq) (frN q hq),fun q hq=>farPi q (r.frIn q hq) (frN q hq),fun q hq=>keep q (r.clIn q hq) (clN q hq),fun q hq=>farPi q (r.clIn q hq) (clN q hq),r.apart,fun q hq t ht=>far q (r.frIn q hq) (frN q hq) t (r'.R.tups t ht),fun q hq t ht=>far q (r.clIn q hq) (clN q hq) t (r'.R.tups t ht),Γ.mono l' r.own⟩⟩
   rcases Zz8.mp hq with hq | hq
   ·exact NG q hq
   ·obtain⟨h1,h2⟩:=List.mem_filter.mp hq
    exact⟨r'.F.keep _ _ (g0at q h1 (by simpa using h2)),(r.N q h1).2⟩
  refine hb W _ H [] _ _ _ (o,ρ',K') rep e1 ?_
  cases o with
  | none=>exact fun W' h' tk' l' r'=>back W' h' tk' .none l' r' .none
  | some v0=>exact fun W' h' tk' x l' r' x'=>back W' h' tk' x l' r' x'
 ·cases hF
theorem ZxW{Γ:Cx}{dp un:Nat}{x:Str}{np pos:Pos}{f:Addr}{room:Nat}{e:Expr}{es:List Expr}{g:Exs}{o:List V→Hp→Option (V×Hp)}(clr:Clr K p loose mean mg mb Γ dp un)(hn:Nm prog w Γ x (.ref f))(hkeep:keepIn K (.ref f)=true)(D:Def prog w K p loose mean mg mb f room o)(hd:dp+room<recursionLimit)(hu:un+10*room+300<cLine)
  (h:Js prog w Γ (e::es) g) (he:starEach (e::es) Γ.env=(false,eval e Γ.env)::starEach es Γ.env:=by rfl) (hp:∀pos,(backTo pos (starEach es Γ.env)).any (·.1)=false:=by intro _;rfl):J prog w Γ (.Call (.Name x np) (e::es) [] pos) (Zq o g):=by
 intro W ρ H fr s Q E v H' r hf post
 obtain⟨q,e1,hf⟩:=Zz0.mp hf
 have X:K.In Γ.h₀:=by
  obtain⟨_,_,_,_,_,_,_,_,_,_,_,X,_⟩:=clr
  exact X
 refine wpAny_Call_ofName (hn.use r ?_)
 refine callWith_K (first:=[]) X hkeep (h pos W ρ H fr s _ E _ _ r e1 fun W1 k1 t1 xs l1 r1 x1=>⟨?_,?_⟩) he (hp pos)
 ·obtain⟨m,c,led,r1⟩:=r1
  exact X.keeps r1.F.keep
 ·exact D Γ dp un clr hd hu W1 ρ _ fr _ Q E _ xs v H' r1 x1 hf fun W2 k2 t2 y l2 r2 y2=>post W2 k2 t2 y (l1.trans l2) r2 y2
theorem Zbt{Γ:Cx}{dp un:Nat}{scope:Scope}{cl:List (Str×Addr)}{C:Addr}{ts:List (Str×Nat)}{ρ0:Lc}(h:Clr K p loose mean mg mb Γ dp un): Clr K p loose mean mg mb (Zbf Γ scope cl C ts ρ0) dp un:=h
end
end PM
end
section
namespace PM
open PySem PySem.W PySem.Calls PyProof.Rows PyProof PySem.Spec
theorem Zlu{lo:Nat}: ∀(names:List (Str×NameKind)) (n:Nat) (acc:List (Str×Addr)),acc.Pairwise (fun x y=>x.2≠y.2)→(∀q∈acc,lo<q.2∧q.2<n)→lo<n→(cellsFrom n names acc).Pairwise (fun x y=>x.2≠y.2)∧∀q∈cellsFrom n names acc,lo<q.2
 | [],n,acc,h1,h2,_=>⟨h1,fun q hq=>(h2 q hq).1⟩
 | (y,k)::r,n,acc,h1,h2,h3=>by
  unfold cellsFrom
  by_cases hk:(k == .cell)=true
  ·rw[if_pos hk]
   refine Zlu r (n+1) ((y,n)::acc) (List.pairwise_cons.mpr ⟨fun q hq=>Nat.ne_of_gt (h2 q hq).2,h1⟩) (fun q hq=>?_) (Nat.lt_succ_of_lt h3)
   rcases Zz7.mp hq with e | hq
   ·rw[e]
    exact⟨h3,Nat.lt_succ_self n⟩
   ·exact⟨(h2 q hq).1,Nat.lt_succ_of_lt (h2 q hq).2⟩
  ·rw[if_neg hk]
   exact Zlu r n acc h1 h2 h3
theorem Zwc{P:Params}{h:Heap}{a:Addr}{ns:List Int}(w1:Well P h (.ref a) (ofPy (.list (ns.map PyData.int))))(W:Wd): ∃vs,h.get? a=some (ZbN vs 0)∧VRs W (ns.map V.int) vs:=by
 have key:∀{ns:List Int} {vs:List Value} {xs:List WData},xs=(ns.map PyData.int).map ofPy→WellAll P h vs xs→VRs W (ns.map V.int) vs:=by
  intro ns
  induction ns with
  | nil=>intro vs xs e h;subst e;cases h;exact .nil
  | cons n ns ih=>
   intro vs xs e h
   subst e
   cases h with
   | cons h1 h2=>
    cases h1 with
    | int i t=>exact .cons (.int _ _) (ih rfl h2)
 have e:ofPy (.list (ns.map PyData.int))=.list ((ns.map PyData.int).map ofPy):=by rw[ofPy,ofPys_eq]
 rw[e]at w1
 cases w1 with
 | list hg ha=>exact⟨_,hg,key rfl ha⟩
section
variable {prog:Program} {w:World} {K:Frag} {p:Program} {loose:List Str} {mean:ExcName→Option Value} {mg mb:Str→Option Value}
theorem ZxX{P:Params}{h₀:Heap}{s:Shared}{sa fa:Addr}{cd:Value}{ns:List Int}{qual pname:Str}{scope:Scope}{body:List Stmt}{names:List Str}{g:Sm}{cells:List (Addr×Obj)}{Q:Flow→Shared→Prop}{E:Value→Shared→Prop}{room:Nat}{H':Hp}
  (hbody:∀(dp un:Nat) (gd:Option (List Code)) (L a:Addr) (ccd:Value) (outer:List Env) (h₀:Heap) (hu:un+200<cLine),Clr K p loose mean mg mb (ZbH dp un gd qual scope L a ccd (cellsFrom (L+1) scope.names []) outer h₀ hu names) dp un→dp+room<recursionLimit→un+10*room+300<cLine →
   Ss prog w (ZbH dp un gd qual scope L a ccd (cellsFrom (L+1) scope.names []) outer h₀ hu names) body g)
  (hd:callerA.depth+1+room<recursionLimit) (hun:callerA.units+3+10*room+300<cLine) (hk:scope.kind=.function) (h0:names[0]?=some pname)
  (KX:K.In h₀) (T:Top p loose mean mg mb h₀) (w1:Well P h₀ (.ref sa) (ofPy (.list (ns.map PyData.int)))) (hlen:ns.length≤LEN)
  (F:Fr h₀ h₀.objs.size s.heap (bindL (envOfC qual scope h₀.objs.size fa cd).kindOf [(pname,.ref sa)] fun _=>none)) (N:News h₀ h₀.objs.size s.heap cells) (X0:CellsAre (bindC (envOfC qual scope h₀.objs.size fa cd).kindOf [(pname,.ref sa)] fun _=>none) (cellsFrom (h₀.objs.size+1) scope.names []) cells)
  (hg:ZT 1 g [.ref 0] [ns.map V.int]=some (.bool true,H')) (post:∀h' tk' m',Fr h₀ h₀.objs.size h' m'→Q (.ret (.bool true)) { s with heap:=h',toks:=tk' }):
  wpAny (model prog w) (callerA.deeper (envOfC qual scope h₀.objs.size fa cd)) (execs body (envOfC qual scope h₀.objs.size fa cd)) Q E s:=by
 have hu':(callerA.units+3)+200<cLine:=by omega
 have clr:Clr K p loose mean mg mb (ZbH (callerA.depth+1) (callerA.units+3) callerA.guards qual scope h₀.objs.size fa cd (cellsFrom (h₀.objs.size+1) scope.names []) [] h₀ hu' names) (callerA.depth+1) (callerA.units+3):=
  ⟨callerA.guards,qual,scope,fa,cd,cellsFrom (h₀.objs.size+1) scope.names [],[],_,_,rfl,below_caller h₀,KX,T,hk⟩
 have hb:=hbody (callerA.depth+1) (callerA.units+3) callerA.guards h₀.objs.size fa cd [] h₀ hu' clr hd hun
 obtain⟨vs,hsc,hv⟩:=Zwc w1 ⟨[sa],[],(sa,ZbN [] 0)⟩
 have hv':VRs ⟨[sa],[],(sa,ZbN vs 0)⟩ (ns.map V.int) vs:=by
  clear hg post w1 hlen hsc
  generalize ns.map V.int=us at hv
  have key:∀{us:List V} {xs:List Value},VRs ⟨[sa],[],(sa,ZbN [] 0)⟩ us xs→VRs ⟨[sa],[],(sa,ZbN vs 0)⟩ us xs:=by
   intro us
   induction us with
   | nil=>intro xs h;cases h;exact .nil
   | cons u us ih=>
    intro xs h
    cases h with
    | cons a b=>
     refine .cons ?_ (ih b)
     cases a with
     | none=>exact .none
     | bool b=>exact .bool b
     | int i t=>exact .int i t
     | str s t=>exact .str s t
     | tup hm _ _=>exact nomatch hm
     | ref e=>exact .ref e
  exact key hv
 have far:=Zlu (lo:=h₀.objs.size) scope.names (h₀.objs.size+1) [] .nil (fun q hq=>nomatch hq) (Nat.lt_succ_self _)
 unfold ZT at hg
 rw[if_pos (show([V.ref 0]:List V).length=1 from rfl)]at hg
 obtain⟨res,e1,e2⟩:=Zz1.mp hg
 obtain⟨o,ρ',K'⟩:=res
 have eo:o=some (.bool true):=by
  cases o with
  | none=>simp at e2
  | some v=>simp at e2;rw[e2.1]
 subst eo
 have pick:∀{i:Nat} {x:Str} {u:V},names[i]?=some x→([V.ref 0]:List V)[i]?=some u→x=pname∧u=.ref 0:=fun {i x u} h1 h2=>by
  have hi:i<1:=(Zz6.mp h2).1
  have:i=0:=by omega
  subst this
  rw[h0]at h1
  simp at h1 h2
  exact⟨h1.symm,h2.symm⟩
 have rep:Rep (ZbH (callerA.depth+1) (callerA.units+3) callerA.guards qual scope h₀.objs.size fa cd (cellsFrom (h₀.objs.size+1) scope.names []) [] h₀ hu' names) ⟨[sa],[],(sa,ZbN vs 0)⟩ (fun i=>[V.ref 0][i]?) [ns.map V.int] [] s.heap:=by
  refine⟨_,cells,cells,⟨F,N,⟨rfl,by simp,fun i us e=>?_,fun q hq=>(nomatch hq),fun q hq=>(nomatch hq)⟩,hsc,rfl,fun q hq=>(nomatch hq),fun q hq=>(nomatch hq),fun q hq=>hq,fun q hq z=>?_,fun q _ t ht=>(nomatch ht),fun q hq=>(nomatch hq),fun q hq t ht=>(nomatch ht),⟨fun i x u hi hk1 hu1=>?_,fun i x u hi hk1 hu1=>?_,fun x c1 hc=>?_,fun x y c1 h1 h2=>?_⟩⟩⟩
  ·have hi:i<1:=(Zz6.mp e).1
   have:i=0:=by omega
   subst this
   simp at e
   subst e
   exact⟨by simpa using hlen,sa,vs,0,rfl,List.mem_cons_self,hv'⟩
  ·have:=(N q hq).2.2
   rw[List.mem_singleton.mp z,hsc]at this
   cases this
  ·obtain⟨e3,e4⟩:=pick hi hu1
   subst e3 e4
   refine⟨.ref sa,?_,.ref rfl⟩
   show bindL _ _ _ _=_
   unfold bindL bindL
   rw[if_pos (show(envOfC qual scope h₀.objs.size fa cd).kindOf x=some .local from hk1)]
   simp
  ·obtain⟨e3,e4⟩:=pick hi hu1
   subst e3 e4
   have hs:=cellsFrom_some scope.names (h₀.objs.size+1) [] (.inl hk1)
   obtain⟨c1,hc1⟩:=Option.isSome_iff_exists.mp hs
   obtain⟨o1,ho1,hd1⟩:=ZhP X0 (ZdX hc1)
   refine⟨c1,o1,.ref sa,hc1,ho1,?_,.ref rfl⟩
   rw[hd1]
   unfold bindC bindC
   rw[if_neg (show ¬(envOfC qual scope h₀.objs.size fa cd).kindOf x=some .local by show ¬scope.names.lookup x=some .local;rw[hk1];simp)]
   simp
  ·obtain⟨o1,ho1,hd1⟩:=ZhP X0 (ZdX hc)
   exact⟨o1,_,ho1,hd1⟩
  ·exact name_of_addr far.1 (ZdX h1) (ZdX h2)
 refine hb _ _ _ [] s Q E _ rep e1 ?_
 intro W' h' tk' x l' r' x'
 cases x' with
 | bool _=>
  obtain⟨m',c',led',r'⟩:=r'
  exact post h' tk' m' r'.F
end
end PM
end
section
namespace PM
open PySem PySem.W PySem.Calls PyProof.Rows PyProof PyProof.Rows.LCg PyProof.Rows.LSm
theorem Rep.listAt{Γ:Cx}{W:Wd}{ρ:Lc}{H:Hp}{fr:List (Addr×Obj)}{h h':Heap}{vs:List V}{xs:List Value}{k:Nat}(r:Rep Γ W ρ H fr h)(up:∀b o,h.get? b=some o→h'.get? b=some o)(hg:h'.get? h.objs.size=some (ZbN xs k))(hv:VRs W vs xs)(hl:vs.length≤LEN):
  ∃W',W.Le W'∧Rep Γ W' ρ (H++[vs]) fr h'∧VR W' (.ref H.length) (.ref h.objs.size):=by
 obtain⟨r2,ap⟩:=r.more (fs:=[(h.objs.size,ZbN xs k)]) up (fun q hq=>by rw[List.mem_singleton.mp hq];exact⟨hg,Nat.le_refl _⟩)
 exact Zhs r2 (fun t ht=>ap _ Zz5 t ht) hv hl
noncomputable def ZeG: List V→Hp→Option (V×Hp)
 | [.ref a],H=>H[a]?.map fun vs=>(.ref H.length,H++[vs])
 | [.tup vs],H=>some (.ref H.length,H++[vs])
 | _,_=>none
noncomputable def Zgv: List V→Hp→Option (V×Hp)
 | [.ref a],H=>H[a]?.map fun vs=>(.tup vs,H)
 | [.tup vs],H=>some (.tup vs,H)
 | _,_=>none
noncomputable def Zgw: List V→Option (List Bool)
 | []=>some []
 | .bool b::vs=>(Zgw vs).map fun bs=>b::bs
 | _::_=>none
noncomputable def ZBg: List V→Hp→Option (V×Hp)
 | [.ref a],H=>H[a]?.bind fun vs=>(Zgw vs).map fun bs=>(.bool (bs.all id),H)
 | _,_=>none
noncomputable def Zij: List V→Hp→Option (V×Hp)
 | [.ref a],H=>H[a]?.bind fun vs=>(Zgw vs).map fun bs=>(.bool (bs.any id),H)
 | _,_=>none
theorem ZuM{W:Wd}: ∀{vs:List V} {xs:List Value} {bs:List Bool},VRs W vs xs→Zgw vs=some bs→BoolsAre xs bs:=by
 intro vs
 induction vs with
 | nil=>intro xs bs h e;cases h;cases e;exact .nil
 | cons v vs ih=>
  intro xs bs h e
  cases h with
  | cons a b=>
   cases v with
   | bool c=>
    obtain⟨cs,e1,e2⟩:=Zz1.mp e
    subst e2
    cases a
    exact .cons _ (ih b e1)
   | none=>cases e
   | int _=>cases e
   | str _=>cases e
   | tup _=>cases e
   | ref _=>cases e
section
variable {prog:Program} {w:World}
theorem Zoy: OpN prog w (fun xs=>call (.type "list") xs) ZeG:=by
 intro Γ W ρ H fr s Q E as xs v H' r hx ho post
 unfold ZeG at ho
 split at ho
 ·obtain⟨vs,e1,e2⟩:=Zz1.mp ho
  cases e2
  obtain⟨x,ex,rx⟩:=hx.one
  subst ex
  cases rx with
  | @ref _ a ea=>
   obtain⟨hl,ys,k,hg,hv⟩:=r.at e1 ea
   refine call_list_seq (hsz:=Zdg (by rw[List.size_toArray,hv.length];exact hl)) a (.inl rfl) hg rfl rfl fun h' c' up hg'=>?_
   obtain⟨W2,l2,r2,v2⟩:=r.listAt up hg' hv hl
   exact post W2 h' s.toks _ l2 r2 v2
 ·cases ho
  obtain⟨x,ex,rx⟩:=hx.one
  subst ex
  cases rx with
  | @tup _ a ys k hm hl hv=>
   refine call_list_seq (hsz:=Zdg (by rw[List.size_toArray,hv.length];exact hl)) a (.inr rfl) (r.tupAt hm) rfl rfl fun h' c' up hg'=>?_
   obtain⟨W2,l2,r2,v2⟩:=r.listAt up hg' hv hl
   exact post W2 h' s.toks _ l2 r2 v2
 ·cases ho
theorem Zwd: OpN prog w (fun xs=>call (.type "tuple") xs) Zgv:=by
 intro Γ W ρ H fr s Q E as xs v H' r hx ho post
 unfold Zgv at ho
 split at ho
 ·obtain⟨vs,e1,e2⟩:=Zz1.mp ho
  cases e2
  obtain⟨x,ex,rx⟩:=hx.one
  subst ex
  cases rx with
  | @ref _ a ea=>
   obtain⟨hl,ys,k,hg,hv⟩:=r.at e1 ea
   have isl:s.heap.IsList a ys.toArray:=⟨_,hg,rfl,k,rfl⟩
   refine call_tuple_list isl (fun h' up=>?_) (Zdg (by rw[List.size_toArray,hv.length];exact hl))
   obtain⟨W2,l2,r2,v2⟩:=(r.grown up).tuple (k:=0) hv hl
   exact post W2 _ s.toks _ l2 r2 v2
 ·cases ho
  obtain⟨x,ex,rx⟩:=hx.one
  subst ex
  cases rx with
  | @tup _ a ys k hm hl hv=>
   have it:IsTup s.heap a ys.toArray:=⟨_,r.tupAt hm,rfl,k,rfl⟩
   exact call_tuple_tup it (post W s.heap s.toks _ (.refl W) r (.tup hm hl hv))
 ·cases ho
theorem Zzn: OpN prog w (fun xs=>call (.builtin "any") xs) Zij:=by
 intro Γ W ρ H fr s Q E as xs v H' r hx ho post
 unfold Zij at ho
 split at ho
 ·obtain⟨vs,e1,e2⟩:=Zz0.mp ho
  obtain⟨bs,e3,e4⟩:=Zz1.mp e2
  cases e4
  obtain⟨x,ex,rx⟩:=hx.one
  subst ex
  cases rx with
  | @ref _ a ea=>
   obtain⟨hl,ys,k,hg,hv⟩:=r.at e1 ea
   have isl:s.heap.IsList a ys.toArray:=⟨_,hg,rfl,k,rfl⟩
   obtain⟨m,c,led,r'⟩:=r
   exact any_bools r'.F r'.N Γ.hh isl (ZuM hv e3) fun h' tk F' N'=>post W h' tk _ (.refl W) (r'.same F' N') (.bool _)
 ·cases ho
end
section
variable {prog:Program} {w:World} {K:Frag} {p:Program} {loose:List Str} {mean:ExcName→Option Value} {mg mb:Str→Option Value} {Γ:Cx} {dp un:Nat}
theorem Zzo{x:Str}{v:Value}(clr:Clr K p loose mean mg mb Γ dp un)(e:nsIn K mainGlobals x=some (some v))(hg:Γ.env.globals=mainGlobals)(hk:Γ.env.scope.kind=.function)(hx:Γ.env.kindOf x=some .globalImplicit)(hd:(x == ("__debug__":Str))=false): Nm prog w Γ x v:=by
 obtain⟨_,_,_,_,_,_,_,_,_,_,_,X,T,_⟩:=clr
 intro pos m s Q E F q
 exact Name_function_global hk hx (loadGlobal_global (env:=Γ.env) (by rw[hg];exact T.g.keeps F.keep) (mg_of X T.g e) q) hd
theorem ZwV{x:Str}{v:Value}(clr:Clr K p loose mean mg mb Γ dp un)(e:nsIn K mainGlobals x=some none)(hv:bootBuiltins x=some v)(hn:x≠"__name__")(hg:Γ.env.globals=mainGlobals)(hb:Γ.env.builtins=builtinsNs)(hk:Γ.env.scope.kind=.function)(hx:Γ.env.kindOf x=some .globalImplicit)(hd:(x == ("__debug__":Str))=false): Nm prog w Γ x v:=by
 obtain⟨_,_,_,_,_,_,_,_,_,_,_,X,T,_⟩:=clr
 intro pos m s Q E F q
 exact Name_function_global hk hx (loadGlobal_builtin (env:=Γ.env) (by rw[hg];exact T.g.keeps F.keep) (mg_none_of X T.g e) (by rw[hb];exact T.b.keeps F.keep) ((T.builtins x hn).trans hv) q) hd
end
section
variable {prog:Program} {w:World} {Γ:Cx} {scope:Scope} {cl:List (Str×Addr)} {C:Addr} {ts:List (Str×Nat)} {ρ0:Lc}
theorem ZxY{x:Str}{t:Nat}(hm:(x,t)∈ts)(hk:scope.kind=.function)(hl:(compEnvC scope cl C Γ.env).kindOf x=some .local)(hd:(x == ("__debug__":Str))=false): Rd prog w (Zbf Γ scope cl C ts ρ0) x t:=by
 intro W ρ H fr s Q E v pos r e q
 obtain⟨m,c,led,r⟩:=r
 obtain⟨oC,m₂,cs,ec,h0,h1,h2,h3,h4⟩:=r.own
 obtain⟨v',y,e1,e2,e3⟩:=h2 _ hm
 rw[e]at e1
 cases e1
 exact LCgL.ld_own r.N (r.clIn _ (by rw[ec];exact Zz5)) h1 e2 (q y e3) hk hl hd
end
section
variable {prog:Program} {w:World} {dp un:Nat} {gd:Option (List Code)} {cn:Str} {cs:Scope} {L a:Addr} {ccd:Value} {clf:List (Str×Addr)} {outer:List Env} {h₀:Heap} {hu:un+200<cLine} {names:List Str} {scope:Scope} {cl:List (Str×Addr)} {C:Addr} {ts:List (Str×Nat)} {ρ0:Lc}
theorem ZxZ{x:Str}{i:Nat}(hi:names[i]?=some x)(hx:cs.names.lookup x=some .cell)(hne:∀p∈ts,p.2≠i)(hcl:cl.lookup x=clf.lookup x)(hk:scope.kind=.function)(hl:(compEnvC scope cl C (envX cn cs L a ccd clf)).kindOf x=some .cell)(hd:(x == ("__debug__":Str))=false):
  Rd prog w (Zbf (ZbH dp un gd cn cs L a ccd clf outer h₀ hu names) scope cl C ts ρ0) x i:=by
 intro W ρ H fr s Q E v pos r e q
 obtain⟨m,c,led,r⟩:=r
 obtain⟨oC,m₂,cs',ec,h0,h1,h2,h3,h4⟩:=r.own
 rw[h3 i hne]at e
 obtain⟨d,o,y,g1,g2,g3,g4⟩:=h4.cel i x v hi hx e
 exact kcf_cell r.N (hcl.trans g1) (r.clIn _ (by rw[ec];exact Zz2 _ g2)) g3 (q y g4) hk hl hd
end
end PM
end
section
namespace My
open PySem PySem.W PySem.Calls PyProof.Rows PySem.Spec
structure Cell(v:Int): Prop where
 bits:Builtin.Int.intBits v≤2 ^ 20
theorem bits_zero: Builtin.Int.intBits 0≤2 ^ 20:=by unfold Builtin.Int.intBits;simp
theorem cell_at{ns:List Int}(h:PyData.layable0 (.list (ns.map .int))=true)(i:Int): Cell (cellAt ns i 0):=by
 refine⟨?_⟩
 rw[cellAt_def,List.getD_eq_getElem?_getD]
 cases e:ns[i.toNat]? with
 | none=>exact bits_zero
 | some v=>exact PyData.bits_item_of_ints h (List.mem_of_getElem? e)
section
variable {prog:Program} {w:World} {A:Around} {E:Value→Shared→Prop} {s:Shared} {x y:Int} {t u:Tok} {Q:Value→Shared→Prop}
@[irreducible] noncomputable def T9: Int:=10 ^ 9
theorem T9_eq: T9=1000000000:=by unfold T9;decide +kernel
end
end My
end
section
/-! Reckoning with the plain machine. -/
namespace PM
open PySem PySem.W PyProof.Rows
section
variable (ρ:Lc) (H:Hp)
@[simp] theorem ZwW: Zee ρ H=some (none,H):=rfl
@[simp] theorem ZwX(f:Ex): Zef f ρ H=(f ρ H).map fun p=>(some p.1,p.2):=rfl
end
section
variable (a b:Int) (H:Hp)
end
theorem Ztj{b:Int}(hb:0≤b): Builtin.Range.rangeSize 0 b 1=b:=by
 unfold Builtin.Range.rangeSize
 rw[if_pos (by decide)]
 by_cases h:(0:Int)<b
 ·rw[if_pos h]
  omega
 ·rw[if_neg h]
  omega
theorem Zzp{b:Int}{H:Hp}(hb:0≤b)(hb9:b≤1000): Zcy 0 b 1 H=some (Zfm 0 1 b.toNat,b.toNat+1,H):=by
 unfold Zcy rngN
 rw[Ztj hb,if_pos]
 refine⟨by decide,?_,hb,by rw[Zbc];omega,?_⟩
 ·unfold Builtin.Range.small
  rw[Ztj hb]
  simp only[Builtin.Range.rangeFitsLong,Bool.and_eq_true,Bool.or_eq_true,decide_eq_true_eq,beq_iff_eq]
  rw[if_pos (by decide)]
  simp only[Bool.and_eq_true,decide_eq_true_eq]
  by_cases h:(0:Int)<b
  ·refine⟨⟨⟨⟨?_,?_⟩,?_⟩,?_⟩,Or.inr ?_⟩ <;> omega
  ·refine⟨⟨⟨⟨?_,?_⟩,?_⟩,?_⟩,?_⟩ <;> first | omega | (left;omega)
 ·exact PyProof.noPylong_small (by omega)
end PM
end
section
namespace PM
open PySem PySem.W PyProof.Rows My
theorem ZrA{a b:Int}(h:IntMulOk a b): mulOk a b=true:=by
 unfold IntMulOk at h
 unfold mulOk
 cases e:(decide (Builtin.Int.intBits a>shortFactorBits) && decide (Builtin.Int.intBits b>shortFactorBits) && Builtin.Int.intTooBig (Builtin.Int.intBits a+Builtin.Int.intBits b))with
 | true=>exact absurd e h
 | false=>rfl
theorem Zp1{a b:Int}{H:Hp}(h:0≤b∧(Builtin.Int.intBits a:Int)*b≤2 ^ 27): oPow (.int a) (.int b) H=some (.int (a ^ b.toNat),H):=by simp only[oPow];rw[if_pos h]
theorem ZAE(H:Hp): oPow (.int 10) (.int 9) H=some (.int T9,H):=by rw[Zp1 (by decide +kernel)];unfold T9;rfl
end PM
end
section
namespace PM
open PySem PySem.W PyProof.Rows My
section
variable {ρ ρ1 ρ2:Lc} {H H1 H2 H3:Hp}
theorem Zzq{k:Int}: Zk k ρ H=some (.int k,H):=rfl
theorem Zx0{f g:Ex}{a:Nat}{k:Int}{n:Nat}{vs:List V}(h1:f ρ H=some (.ref a,H1))(h2:g ρ H1=some (.int k,H2))(e:H2[a]?=some vs)(hk:k=(n:Int)): ZdF f (Zef g) Zee ρ H=some (.ref H2.length,H2++[vs.drop n]):=by
 simp only[ZdF,h1,Option.bind_some,ZwX,h2,Option.map_some,ZwW,Zh8,e]
 rw[Zrk vs hk]
end
end PM
end
section
/-! Forward reckoning: what comes, told by a claim. -/
namespace PM
open PySem PySem.W PyProof.Rows My
def Rg(xs:List V)(H:Hp)(G:Nx→Nat→Hp→Prop): Prop:=∃n:Nat,xs=[.int n]∧n≤1000∧G (Zfm 0 1 n) (n+1) H
section
variable {ρ:Lc} {H:Hp} {Q:V→Hp→Prop} {L:List V→Hp→Prop} {T:Bool→Hp→Prop} {R:V→Hp→Prop} {N:Lc→Hp→Prop}
variable {a b:Int}
end
end PM
end
section
namespace PM
open PySem PySem.W PyProof.Rows PyProof
noncomputable def Zeg(f:Ex)(k:Nat): Ex:=fun ρ H=>(f ρ H).bind fun p=>match p.1 with
 | .ref i=>p.2[i]?.bind fun vs=>some (.ref p.2.length,p.2++[vs.drop k])
 | .tup vs=>if 1≤k∧k≤vs.length then some (.tup (vs.drop k),p.2)else none
 | _=>none
section
variable {prog:Program} {w:World} {Γ:Cx}
theorem Zkb{e lo:Expr}{p pos:Pos}{f:Ex}{k:Nat}(h:J prog w Γ e f)(hlo:J prog w Γ lo (Zk k))(ht:∀o r,letTemporaryGo e o r=pure ():=by intro _ _;rfl): J prog w Γ (.Subscript e (.Slice (Option.some lo) Option.none Option.none p) pos) (Zeg f k):=by
 intro W ρ H fr s Q E v H' r hf post
 obtain⟨⟨v1,H1⟩,e1,hf⟩:=Zz0.mp hf
 cases v1 with
 | none=>cases hf
 | bool _=>cases hf
 | int _=>cases hf
 | str _=>cases hf
 | ref i=>
  obtain⟨vs,e2,e3⟩:=Zz0.mp hf
  refine ZhN h (JP.some hlo) JP.none ht W ρ H fr s Q E v H' r ?_ post
  rw[Zx0 (n:=k) e1 Zzq e2 rfl]
  exact e3
 | tup vs=>
  simp only at hf
  by_cases c:1≤k∧k≤vs.length
  ·rw[if_pos c]at hf
   cases hf
   refine wpAny_Subscript_Slice (T:="tuple") slot_tuple_getitem.lookup (h W ρ H fr s _ E _ _ r e1 fun W1 k1 t1 x l1 r1 x1=>?_) ht
   refine wpAny_Slice ?_
   refine wpAny_evalPart_some (hlo W1 ρ _ fr _ _ E _ _ r1 rfl fun W2 k2 t2 y l2 r2 y2=>?_)
   refine wpAny_evalPart_none ?_
   refine wpAny_evalPart_none ?_
   cases y2 with
   | int _ u=>
    have x2:=x1.mono l2
    cases x2 with
    | @tup _ a ys kk hm hl hs=>
     have it:IsTup k2 a ys.toArray:=⟨_,r2.tupAt hm,rfl,kk,rfl⟩
     have it':IsTup (k2.push { cls:=.type "slice",data:=.fields #[.int k u,.none,.none] }) a ys.toArray:=it.keeps fun _ _ e=>Heap.get?_push_of_some _ e
     have hlen:=hs.length
     rw[Zbc]at hl
     refine⟨it'.typeIs,getItem_tuple_from it' (Heap.IsSliceOf.new ..) c.1 (by simp[hlen];exact c.2) ?_ (Zdg (by simp[hlen];rw[Zbc];exact hl))⟩
     obtain⟨W4,l4,r4,v4⟩:=(r2.push { cls:=.type "slice",data:=.fields #[.int k u,.none,.none] }).tuple (k:=0) (hs.drop k) (by rw[Zbc];simp;omega)
     have:=post W4 _ t2 _ ((l1.trans l2).trans l4) r4 v4
     simpa using this
  ·rw[if_neg c]at hf
   cases hf
end
section
variable {ρ:Lc} {H:Hp} {Q:V→Hp→Prop}
theorem Ztk{a b c:Int}(hc:0<c)(hb:a<b): Builtin.Range.rangeSize a b c=(b-a-1) / c+1:=by
 unfold Builtin.Range.rangeSize
 rw[if_pos hc,if_pos hb]
theorem Zzr{a b c:Int}{H:Hp}(ha:0≤a)(hb:a<b)(hb9:b≤1000)(hc:0<c)(hc9:c≤1000): Zcy a b c H=some (Zfm a c (rngN a b c),rngN a b c+1,H):=by
 have e:=Ztk hc hb
 have h0:0≤(b-a-1) / c:=Int.ediv_nonneg (by omega) (by omega)
 have h2:(b-a-1) / c≤b-a-1:=Int.ediv_le_self _ (by omega)
 unfold Zcy
 rw[if_pos]
 refine⟨by omega,?_,by omega,by unfold rngN;rw[Zbc];omega,PyProof.noPylong_small (by omega)⟩
 unfold Builtin.Range.small
 rw[e]
 simp only[Builtin.Range.rangeFitsLong,Bool.and_eq_true,Bool.or_eq_true,decide_eq_true_eq,beq_iff_eq]
 rw[if_pos hc]
 simp only[Bool.and_eq_true,decide_eq_true_eq]
 refine⟨⟨⟨⟨?_,?_⟩,?_⟩,?_⟩,?_⟩ <;> first | omega | (left;omega) | (right;omega)
end
end PM
end
section
namespace PM
open PySem PySem.W PyProof.Rows PyProof My
section
variable {ρ:Lc} {H:Hp} {Q:V→Hp→Prop} {L:List V→Hp→Prop}
end
noncomputable def od: Option Int→PyData
 | none=>.none
 | some k=>.int k
theorem ZqM{a:Int}{k:Nat}(h:Builtin.Int.intBits a≤k): a.natAbs<2 ^ k:=by
 unfold Builtin.Int.intBits at h
 by_cases z:a=0
 ·subst z
  exact Nat.two_pow_pos k
 ·rw[if_neg (by simpa using z)]at h
  exact Nat.lt_of_lt_of_le Nat.lt_log2_self (Nat.pow_le_pow_right (by decide) h)
theorem ZwY{a b:Int}{k:Nat}(ha:Builtin.Int.intBits a≤k)(hb:Builtin.Int.intBits b≤k): Builtin.Int.intBits (a+b)≤k+1:=by
 refine PyProof.Rows.intBits_le ?_
 have h1:=ZqM ha
 have h2:=ZqM hb
 rw[Nat.pow_succ]
 omega
theorem ZrB{a b:Int}(ha:Builtin.Int.intBits a≤2 ^ 21)(hb:Builtin.Int.intBits b≤2 ^ 21): mulOk a b=true:=by
 have e:(2:Nat) ^ 21=2097152:=by decide
 have h:Builtin.Int.intTooBig (Builtin.Int.intBits a+Builtin.Int.intBits b)=false:=by
  unfold Builtin.Int.intTooBig bitsLine
  exact decide_eq_false (by omega)
 unfold mulOk
 rw[h]
 simp
theorem Zwe{a b:Int}(h1:-(2 ^ 64)<b)(h2:b<2 ^ 64): mulOk a b=true:=ZrA (IntMulOk.of_right (intBits_le_64 h1 h2))
theorem Zvn{a b:Int}(h1:-(2 ^ 64)<a)(h2:a<2 ^ 64): mulOk a b=true:=ZrA (IntMulOk.of_left (intBits_le_64 h1 h2))
@[irreducible] noncomputable def M9: Int:=48271 ^ Int.toNat 9
@[irreducible] noncomputable def T40: Int:=10 ^ Int.toNat 40
theorem Zzs(H:Hp): oPow (.int 48271) (.int 9) H=some (.int M9,H):=by rw[Zp1 (by decide +kernel)];unfold M9;rfl
theorem Zzt(H:Hp): oPow (.int 10) (.int 40) H=some (.int T40,H):=by rw[Zp1 (by decide +kernel)];unfold T40;rfl
theorem Zkc: T40=10000000000000000000000000000000000000000:=by unfold T40;decide +kernel
theorem Zx1: Builtin.Int.intBits M9≤2 ^ 21:=by
 unfold M9
 exact Nat.le_trans (PyProof.Rows.intBits_le (k:=256) (by decide +kernel)) (by decide)
section
variable {H:Hp} {Q:V→Hp→Prop} {a b:Int}
end
end PM
end
section
/-! The tree machine: values without places; lists that nobody else holds may be changed. -/
namespace TM
open PySem PM
inductive T where
 | none
 | bool (b:Bool)
 | int (i:Int)
 | str (s:Str)
 | tup (ts:List T)
 | lst (ts:List T)
mutual
inductive RF(H:Hp): V→T→List Nat→Prop where
 | none:RF H .none .none []
 | bool (b:Bool):RF H (.bool b) (.bool b) []
 | int (i:Int):RF H (.int i) (.int i) []
 | str (s:Str):RF H (.str s) (.str s) []
 | tup {vs:List V} {ts:List T} {F:List Nat}:RFs H vs ts F→RF H (.tup vs) (.tup ts) F
 | ref {a:Nat} {vs:List V} {ts:List T} {F:List Nat}:H[a]?=some vs→RFs H vs ts F→RF H (.ref a) (.lst ts) (a::F)
inductive RFs(H:Hp): List V→List T→List Nat→Prop where
 | nil:RFs H [] [] []
 | cons {v:V} {t:T} {F:List Nat} {vs:List V} {ts:List T} {G:List Nat}:RF H v t F→RFs H vs ts G→RFs H (v::vs) (t::ts) (F++G)
end
mutual
theorem RF.frame{H H':Hp}{v:V}{t:T}{F:List Nat}(r:RF H v t F)(h:∀a∈F,H'[a]?=H[a]?): RF H' v t F:=by
 cases r with
 | none=>exact .none
 | bool b=>exact .bool b
 | int i=>exact .int i
 | str s=>exact .str s
 | tup hs=>exact .tup (RFs.frame hs h)
 | ref e hs=>exact .ref ((h _ Zz5).trans e) (RFs.frame hs fun a m=>h a (Zz2 _ m))
theorem RFs.frame{H H':Hp}{vs:List V}{ts:List T}{F:List Nat}(r:RFs H vs ts F)(h:∀a∈F,H'[a]?=H[a]?): RFs H' vs ts F:=by
 cases r with
 | nil=>exact .nil
 | cons a b=>exact .cons (RF.frame a fun x m=>h x (Zz4 _ m)) (RFs.frame b fun x m=>h x (Zz3 _ m))
end
mutual
theorem RF.lt{H:Hp}{v:V}{t:T}{F:List Nat}(r:RF H v t F): ∀a∈F,a<H.length:=by
 cases r with
 | none=>intro a m;cases m
 | bool b=>intro a m;cases m
 | int i=>intro a m;cases m
 | str s=>intro a m;cases m
 | tup hs=>exact RFs.lt hs
 | ref e hs=>
  intro x m
  rcases Zz7.mp m with rfl | m
  ·exact(Zz6.mp e).1
  ·exact RFs.lt hs x m
theorem RFs.lt{H:Hp}{vs:List V}{ts:List T}{F:List Nat}(r:RFs H vs ts F): ∀a∈F,a<H.length:=by
 cases r with
 | nil=>intro a m;cases m
 | cons a b=>
  intro x m
  rcases Zz8.mp m with m | m
  ·exact RF.lt a x m
  ·exact RFs.lt b x m
end
theorem RF.ext{H:Hp}{v:V}{t:T}{F:List Nat}(r:RF H v t F)(X:Hp): RF (H++X) v t F:=r.frame fun a m=>List.getElem?_append_left (r.lt a m)
theorem RFs.ext{H:Hp}{vs:List V}{ts:List T}{F:List Nat}(r:RFs H vs ts F)(X:Hp): RFs (H++X) vs ts F:=r.frame fun a m=>List.getElem?_append_left (r.lt a m)
theorem RFs.length{H:Hp}: ∀{vs:List V} {ts:List T} {F:List Nat},RFs H vs ts F→vs.length=ts.length
 | _,_,_,.nil=>rfl
 | _,_,_,.cons _ r=>by rw[List.length_cons,List.length_cons,r.length]
theorem RFs.append{H:Hp}: ∀{vs us:List V} {ts ss:List T} {F G:List Nat},RFs H vs ts F→RFs H us ss G→RFs H (vs++us) (ts++ss) (F++G)
 | _,_,_,_,_,_,.nil,h=>h
 | _,_,_,_,_,_,.cons a r,h=>by rw[List.append_assoc];exact .cons a (r.append h)
theorem RFs.one{H:Hp}{v:V}{t:T}{F:List Nat}(r:RF H v t F): RFs H [v] [t] F:=by
 have:=RFs.cons r RFs.nil
 rwa [List.append_nil]at this
theorem RFs.snoc{H:Hp}{vs:List V}{ts:List T}{F G:List Nat}{v:V}{t:T}(r:RFs H vs ts F)(x:RF H v t G): RFs H (vs++[v]) (ts++[t]) (F++G):=r.append (.one x)
theorem RFs.at{H:Hp}: ∀{vs:List V} {ts:List T} {F:List Nat} {i:Nat} {t:T},RFs H vs ts F→ts[i]?=some t→∃v G,vs[i]?=some v∧RF H v t G∧G.Sublist F
 | _,_,_,_,_,.nil,e=>by simp at e
 | _,_,_,0,_,.cons a _,e=>by
  simp at e
  exact⟨_,_,by simp,e▸a,List.sublist_append_left _ _⟩
 | _,_,_,i+1,_,.cons _ r,e=>by
  simp at e
  obtain⟨x,G,hx,hr,hs⟩:=r.at e
  exact⟨x,G,by simpa using hx,hr,hs.trans (List.sublist_append_right _ _)⟩
theorem RFs.drop{H:Hp}: ∀{vs:List V} {ts:List T} {F:List Nat} (i:Nat),RFs H vs ts F→∃G,RFs H (vs.drop i) (ts.drop i) G∧G.Sublist F
 | _,_,_,0,h=>⟨_,h,List.Sublist.refl _⟩
 | _,_,_,_+1,.nil=>⟨_,.nil,List.Sublist.refl _⟩
 | _,_,_,i+1,.cons _ r=>by
  obtain⟨G,h1,h2⟩:=r.drop i
  exact⟨G,h1,h2.trans (List.sublist_append_right _ _)⟩
theorem RFs.split{H:Hp}: ∀{vs:List V} {ts:List T} {F:List Nat} {i:Nat} {t:T},RFs H vs ts F→ts[i]?=some t →
  ∃v G F1 F2,vs[i]?=some v∧RF H v t G∧F=F1++(G++F2)∧∀(H':Hp) (w:V) (t':T) (G':List Nat),RF H' w t' G'→(∀a∈F1,H'[a]?=H[a]?)→(∀a∈F2,H'[a]?=H[a]?)→RFs H' (vs.set i w) (ts.set i t') (F1++(G'++F2))
 | _,_,_,_,_,.nil,e=>by simp at e
 | _,_,_,0,_,.cons (G:=G1) a r,e=>by
  simp at e
  subst e
  exact⟨_,_,[],G1,by simp,a,by simp,fun H' w t' G' x _ h2=>by simpa using RFs.cons x (r.frame h2)⟩
 | _,_,_,i+1,_,.cons (F:=F0) a r,e=>by
  simp at e
  obtain⟨v,G,F1,F2,h1,h2,h3,h4⟩:=r.split e
  refine⟨v,G,F0++F1,F2,by simpa using h1,h2,by rw[h3];simp,fun H' w t' G' x k1 k2=>?_⟩
  have:=RFs.cons (a.frame fun b m=>k1 b (Zz4 _ m)) (h4 H' w t' G' x (fun b m=>k1 b (Zz3 _ m)) k2)
  simpa using this
theorem ZrC{α:Type}{xs:List α}{i:Nat}{x:α}(h:xs[i]?=some x): xs.set i x=xs:=by
 obtain⟨hi,e⟩:=Zz6.mp h
 rw[←e]
 exact List.set_getElem_self hi
theorem nd3{F1 G F2 G' Gn:List Nat}(nd:(F1++(G++F2)).Nodup)(n':G'.Nodup)(sub:∀a∈G',a∈G∨a∈Gn)(ds:∀a∈Gn,a∉F1++(G++F2)): (F1++(G'++F2)).Nodup:=by
 rw[List.nodup_append,List.nodup_append]at nd ⊢
 obtain⟨a1,⟨a2,a3,a4⟩,a5⟩:=nd
 refine⟨a1,⟨n',a3,fun x hx y hy e=>?_⟩,fun x hx y hy e=>?_⟩
 ·rcases sub x hx with m | m
  ·exact a4 x m y hy e
  ·exact ds x m (Zz3 _ (Zz3 _ (e▸hy)))
 ·rcases Zz8.mp hy with m | m
  ·rcases sub y m with q | q
   ·exact a5 x hx y (Zz4 _ q) e
   ·exact ds y q (Zz4 _ (e▸hx))
  ·exact a5 x hx y (Zz3 _ m) e
theorem in3{F1 G F2 G' Gn:List Nat}(sub:∀a∈G',a∈G∨a∈Gn): ∀a∈F1++(G'++F2),a∈F1++(G++F2)∨a∈Gn:=by
 intro a m
 rcases Zz8.mp m with m | m
 ·exact .inl (Zz4 _ m)
 ·rcases Zz8.mp m with m | m
  ·exact(sub a m).imp (fun q=>List.mem_append_right _ (Zz4 _ q)) id
  ·exact .inl (Zz3 _ (Zz3 _ m))
mutual
noncomputable def T.flat: T→Bool
 | .lst _=>false
 | .tup ts=>T.flats ts
 | .none=>true
 | .bool _=>true
 | .int _=>true
 | .str _=>true
noncomputable def T.flats: List T→Bool
 | []=>true
 | t::ts=>t.flat && T.flats ts
end
mutual
theorem RF.flat{H:Hp}{v:V}{t:T}{F:List Nat}(r:RF H v t F)(h:t.flat=true): F=[]:=by
 cases r with
 | none=>rfl
 | bool b=>rfl
 | int i=>rfl
 | str s=>rfl
 | tup hs=>exact RFs.flats hs (by simpa [T.flat]using h)
 | ref e hs=>simp[T.flat]at h
theorem RFs.flats{H:Hp}{vs:List V}{ts:List T}{F:List Nat}(r:RFs H vs ts F)(h:T.flats ts=true): F=[]:=by
 cases r with
 | nil=>rfl
 | cons a b=>
  simp only[T.flats,Bool.and_eq_true]at h
  rw[RF.flat a h.1,RFs.flats b h.2]
  rfl
end
noncomputable def T.flatIn: T→Bool
 | .lst ts=>T.flats ts
 | t=>t.flat
noncomputable def Zdr(f:List T→Option (List T)): List Int→T→Option T
 | [],.lst ts=>(f ts).map .lst
 | k::ks,.lst ts=>(seqIndex? k ts.length).bind fun j=>ts[j]?.bind fun t=>(Zdr f ks t).map fun u=>.lst (ts.set j u)
 | k::ks,.tup ts=>(seqIndex? k ts.length).bind fun j=>ts[j]?.bind fun t=>(Zdr f ks t).map fun u=>.tup (ts.set j u)
 | _,_=>none
inductive Lead(H:Hp): List Int→V→Nat→Prop where
 | nil {a:Nat}:Lead H [] (.ref a) a
 | ref {k:Int} {ks:List Int} {b:Nat} {vs:List V} {j:Nat} {v:V} {a:Nat}:H[b]?=some vs→seqIndex? k vs.length=some j→vs[j]?=some v→Lead H ks v a→Lead H (k::ks) (.ref b) a
 | tup {k:Int} {ks:List Int} {vs:List V} {j:Nat} {v:V} {a:Nat}:seqIndex? k vs.length=some j→vs[j]?=some v→Lead H ks v a→Lead H (k::ks) (.tup vs) a
theorem ZgD{H:Hp}{Gn:List Nat}{f:List T→Option (List T)}: ∀(ks:List Int) {v:V} {t t':T} {F:List Nat},RF H v t F→F.Nodup→(∀a∈Gn,a∉F)→Zdr f ks t=some t' →
  ∃a vs ts ts' G,Lead H ks v a∧a∈F∧H[a]?=some vs∧RFs H vs ts G∧f ts=some ts'∧G.Nodup∧a∉G∧(∀x∈G,x∈F) ∧
   ∀vs' G',RFs H vs' ts' G'→G'.Nodup→a∉G'→(∀x∈G',x∈G∨x∈Gn)→∃F',RF (H.set a vs') v t' F'∧F'.Nodup∧∀x∈F',x∈F∨x∈Gn
 | [],v,t,t',F,r,nd,ds,e=>by
  cases r with
  | @ref a vs ts G e1 hs=>
   obtain⟨ts',h1,h2⟩:=Zz1.mp e
   subst h2
   rw[List.nodup_cons]at nd
   refine⟨a,vs,ts,ts',G,.nil,List.mem_cons_self,e1,hs,h1,nd.2,nd.1,fun x m=>List.mem_cons_of_mem _ m,fun vs' G' r' n' na sub=>⟨a::G',?_,?_,?_⟩⟩
   ·have ha:=(Zz6.mp e1).1
    refine .ref (List.getElem?_set_self ha) (r'.frame fun b m=>List.getElem?_set_ne ?_)
    intro q
    subst q
    exact na m
   ·exact List.nodup_cons.mpr ⟨na,n'⟩
   ·intro x m
    rcases Zz7.mp m with rfl | m
    ·exact .inl Zz5
    ·exact(sub x m).imp (Zz2 _) id
  | none=>cases e
  | bool _=>cases e
  | int _=>cases e
  | str _=>cases e
  | tup _=>cases e
 | k::ks,v,t,t',F,r,nd,ds,e=>by
  cases r with
  | none=>cases e
  | bool _=>cases e
  | int _=>cases e
  | str _=>cases e
  | @tup vs ts _ hs=>
   obtain⟨j,e1,e⟩:=Zz0.mp e
   obtain⟨u,e2,e⟩:=Zz0.mp e
   obtain⟨u',e3,e⟩:=Zz1.mp e
   subst e
   obtain⟨w,G1,F1,F2,e4,g1,eF,rb⟩:=hs.split e2
   subst eF
   have nd1:G1.Nodup:=(List.nodup_append.mp (List.nodup_append.mp nd).2.1).1
   have hin:∀x∈G1,x∈F1++(G1++F2):=fun x m=>List.mem_append_right _ (Zz4 _ m)
   obtain⟨a,us,qs,qs',G,l,am,ea,hq,hf,gn,na,gs,go⟩:=ZgD ks g1 nd1 (fun b m q=>ds b m (hin b q)) e3
   refine⟨a,us,qs,qs',G,.tup (by rw[hs.length];exact e1) e4 l,hin a am,ea,hq,hf,gn,na,fun x m=>hin x (gs x m),fun vs' G' r' n' na' sub=>?_⟩
   obtain⟨G2,f1,f2,f3⟩:=go vs' G' r' n' na' sub
   obtain⟨a1,a2,a5⟩:=List.nodup_append.mp nd
   obtain⟨_,a3,a4⟩:=List.nodup_append.mp a2
   have:=rb (H.set a vs') w u' G2 f1 (fun b m=>List.getElem?_set_ne fun q=>a5 b m a (Zz4 _ am) q.symm) (fun b m=>List.getElem?_set_ne fun q=>a4 a am b m q)
   rw[ZrC e4]at this
   exact⟨_,.tup this,nd3 nd f2 f3 ds,in3 f3⟩
  | @ref b vs ts F' e0 hs=>
   obtain⟨j,e1,e⟩:=Zz0.mp e
   obtain⟨u,e2,e⟩:=Zz0.mp e
   obtain⟨u',e3,e⟩:=Zz1.mp e
   subst e
   obtain⟨w,G1,F1,F2,e4,g1,eF,rb⟩:=hs.split e2
   subst eF
   rw[List.nodup_cons]at nd
   obtain⟨nb,nd⟩:=nd
   have nd1:G1.Nodup:=(List.nodup_append.mp (List.nodup_append.mp nd).2.1).1
   have hin:∀x∈G1,x∈F1++(G1++F2):=fun x m=>List.mem_append_right _ (Zz4 _ m)
   have ds':∀a∈Gn,a∉F1++(G1++F2):=fun a m q=>ds a m (Zz2 _ q)
   obtain⟨a,us,qs,qs',G,l,am,ea,hq,hf,gn,na,gs,go⟩:=ZgD ks g1 nd1 (fun b m q=>ds' b m (hin b q)) e3
   refine⟨a,us,qs,qs',G,.ref e0 (by rw[hs.length];exact e1) e4 l,List.mem_cons_of_mem _ (hin a am),ea,hq,hf,gn,na,fun x m=>List.mem_cons_of_mem _ (hin x (gs x m)),fun vs' G' r' n' na' sub=>?_⟩
   obtain⟨G2,f1,f2,f3⟩:=go vs' G' r' n' na' sub
   obtain⟨a1,a2,a5⟩:=List.nodup_append.mp nd
   obtain⟨_,a3,a4⟩:=List.nodup_append.mp a2
   have:=rb (H.set a vs') w u' G2 f1 (fun b m=>List.getElem?_set_ne fun q=>a5 b m a (Zz4 _ am) q.symm) (fun b m=>List.getElem?_set_ne fun q=>a4 a am b m q)
   rw[ZrC e4]at this
   have hab:a≠b:=fun q=>nb (hin b (q▸am))
   refine⟨_,.ref ((List.getElem?_set_ne hab).trans e0) this,List.nodup_cons.mpr ⟨fun q=>?_,nd3 nd f2 f3 ds'⟩,fun x m=>?_⟩
   ·rcases in3 f3 b q with m | m
    ·exact nb m
    ·exact ds b m Zz5
   ·rcases Zz7.mp m with rfl | m
    ·exact .inl Zz5
    ·exact(in3 f3 x m).imp (Zz2 _) id
end TM
end
section
namespace TM
open PySem PM
noncomputable abbrev TL:=Nat→Option T
noncomputable abbrev PE:=TL→Option T
noncomputable abbrev PEs:=TL→Option (List T)
noncomputable abbrev PB:=TL→Option Bool
noncomputable abbrev PG:=TL→Option (List T)
noncomputable def Z7(σ:TL)(i:Nat)(t:T): TL:=fun j=>if j=i then some t else σ j
structure Ctx where
 H0:Hp
 F0:List Nat
 P:Nat→Prop
structure St(c:Ctx)(O:List Nat)(ρ:Lc)(σ:TL)(H:Hp)(Φ:Nat→List Nat): Prop where
 slot:∀i t,σ i=some t→∃v,ρ i=some v∧RF H v t (Φ i)
 src:∀i t,σ i=some t→∀a∈Φ i,c.H0.length≤a∨c.P a
 own:∀i∈O,∀t,σ i=some t→(Φ i).Nodup∧(∀a∈Φ i,c.H0.length≤a∨a∈c.F0)∧∀j u,j≠i→σ j=some u→∀a∈Φ i,a∉Φ j
 len:c.H0.length≤H.length
 keep:∀a,a<c.H0.length→a∉c.F0→H[a]?=c.H0[a]?
 pos:0<c.H0.length
 f0:0∉c.F0
theorem St.ext{c:Ctx}{O:List Nat}{ρ:Lc}{σ:TL}{H:Hp}{Φ:Nat→List Nat}(s:St c O ρ σ H Φ)(X:Hp): St c O ρ σ (H++X) Φ:=
 ⟨fun i t e=>by obtain⟨v,h1,h2⟩:=s.slot i t e;exact⟨v,h1,h2.ext X⟩,s.src,s.own,by have:=s.len;rw[List.length_append];omega,fun a ha hn=>by
  rw[List.getElem?_append_left (Nat.lt_of_lt_of_le ha s.len)];exact s.keep a ha hn,s.pos,s.f0⟩
theorem St.less{c:Ctx}{O O':List Nat}{ρ:Lc}{σ:TL}{H:Hp}{Φ:Nat→List Nat}(s:St c O ρ σ H Φ)(h:∀i∈O',i∈O): St c O' ρ σ H Φ:=⟨s.slot,s.src,fun i hi=>s.own i (h i hi),s.len,s.keep,s.pos,s.f0⟩
def From(H:Hp)(N:List Nat)(σ:TL)(Φ:Nat→List Nat)(a:Nat): Prop:=H.length≤a∨∃i∈N,(∃t,σ i=some t)∧a∈Φ i
theorem From.mono{H:Hp}{N N':List Nat}{σ:TL}{Φ:Nat→List Nat}{a:Nat}(f:From H N σ Φ a)(h:∀i∈N,i∈N'): From H N' σ Φ a:=f.imp id fun⟨i,hi,q⟩=>⟨i,h i hi,q⟩
theorem From.back{H X:Hp}{N:List Nat}{σ:TL}{Φ:Nat→List Nat}{a:Nat}(f:From (H++X) N σ Φ a): From H N σ Φ a:=f.imp (fun h=>by rw[List.length_append]at h;omega) id
theorem From.nil{H:Hp}{σ:TL}{Φ:Nat→List Nat}{a:Nat}(f:From H [] σ Φ a): H.length≤a:=f.elim id fun⟨_,hi,_⟩=>by cases hi
def E(O N:List Nat)(u:Bool)(e:Ex)(p:PE): Prop:=∀(c:Ctx) (ρ:Lc) (σ:TL) (H:Hp) (Φ:Nat→List Nat) (t:T),St c O ρ σ H Φ→p σ=some t →
 ∃v X F,e ρ H=some (v,H++X)∧RF (H++X) v t F∧(∀a∈F,From H N σ Φ a)∧(u=true→F.Nodup)
def Es(O N:List Nat)(u:Bool)(n:Nat)(e:Exs)(p:PEs): Prop:=∀(c:Ctx) (ρ:Lc) (σ:TL) (H:Hp) (Φ:Nat→List Nat) (ts:List T),St c O ρ σ H Φ→p σ=some ts →
 ts.length=n∧∃vs X F,e ρ H=some (vs,H++X)∧RFs (H++X) vs ts F∧(∀a∈F,From H N σ Φ a)∧(u=true→F.Nodup)
def Bt(O:List Nat)(e:Ts)(p:PB): Prop:=∀(c:Ctx) (ρ:Lc) (σ:TL) (H:Hp) (Φ:Nat→List Nat) (b:Bool),St c O ρ σ H Φ→p σ=some b→∃X,e ρ H=some (b,H++X)
section
variable {O N:List Nat} {u:Bool}
theorem Zbq{O':List Nat}{e:Ex}{p:PE}(x:E O' N u e p)(h:∀i∈O',i∈O:=by decide): E O N u e p:=fun c ρ σ H Φ t s=>x c ρ σ H Φ t (s.less h)
theorem E.sh{e:Ex}{p:PE}(x:E O N u e p): E O N false e p:=fun c ρ σ H Φ t s q=>by
 obtain⟨v,X,F,a1,a2,a3,a4⟩:=x c ρ σ H Φ t s q
 exact⟨v,X,F,a1,a2,a3,by simp⟩
noncomputable def Zj(k:Int): PE:=fun _=>some (.int k)
noncomputable def Zad: PE:=fun _=>some .none
noncomputable def ZbU(b:Bool): PE:=fun _=>some (.bool b)
noncomputable def Zbl(x:Str): PE:=fun _=>some (.str x)
noncomputable def Zb(i:Nat): PE:=fun σ=>σ i
theorem Zl(k:Int): E O [] true (Zk k) (Zj k):=fun c ρ σ H Φ t s q=>by
 cases q;exact⟨_,[],[],by simp[Zk],.int k,by simp,by simp⟩
theorem Zag: E O [] true Zaa Zad:=fun c ρ σ H Φ t s q=>by
 cases q;exact⟨_,[],[],by simp[Zaa],.none,by simp,by simp⟩
theorem E.bool(k:Bool): E O [] true (ZbF k) (ZbU k):=fun c ρ σ H Φ t s q=>by
 cases q;exact⟨_,[],[],by simp[ZbF],.bool k,by simp,by simp⟩
theorem E.str(k:Str): E O [] true (Zbe k) (Zbl k):=fun c ρ σ H Φ t s q=>by
 cases q;exact⟨_,[],[],by simp[Zbe],.str k,by simp,by simp⟩
theorem Zc(i:Nat): E O [i] false (Za i) (Zb i):=fun c ρ σ H Φ t s q=>by
 obtain⟨v,h1,h2⟩:=s.slot i t q
 exact⟨v,[],Φ i,by simp[Za,h1],by simpa using h2,fun a m=>.inr ⟨i,List.mem_cons_self,⟨t,q⟩,m⟩,by simp⟩
theorem E.own{i:Nat}(hi:i∈O): E O [i] true (Za i) (Zb i):=fun c ρ σ H Φ t s q=>by
 obtain⟨v,h1,h2⟩:=s.slot i t q
 exact⟨v,[],Φ i,by simp[Za,h1],by simpa using h2,fun a m=>.inr ⟨i,List.mem_cons_self,⟨t,q⟩,m⟩,fun _=>(s.own i hi t q).1⟩
noncomputable def ZbV(p:PE): PE:=fun σ=>(p σ).bind fun t=>if t.flat then some t else none
theorem E.flat{e:Ex}{p:PE}(x:E O N u e p): E O [] true e (ZbV p):=fun c ρ σ H Φ t s q=>by
 obtain⟨t',e1,e2⟩:=Zz0.mp q
 by_cases h:t'.flat=true
 ·rw[if_pos h]at e2
  cases e2
  obtain⟨v,X,F,a1,a2,a3,a4⟩:=x c ρ σ H Φ t s e1
  have:=a2.flat h
  subst this
  exact⟨v,X,[],a1,a2,by simp,by simp⟩
 ·rw[if_neg h]at e2;cases e2
noncomputable def Zm: PEs:=fun _=>some []
noncomputable def Ze(p:PE)(q:PEs): PEs:=fun σ=>(p σ).bind fun t=>(q σ).bind fun ts=>some (t::ts)
theorem Zo: Es O [] true 0 Zn Zm:=fun c ρ σ H Φ ts s q=>by
 cases q;exact⟨rfl,[],[],[],by simp[Zn],.nil,by simp,by simp⟩
theorem Zf{M:List Nat}{u':Bool}{n:Nat}{e:Ex}{p:PE}{es:Exs}{ps:PEs}(x:E O N u e p)(y:Es O M u' n es ps): Es O (N++M) false (n+1) (Zd e es) (Ze p ps):=fun c ρ σ H Φ ts s q=>by
 obtain⟨t,e1,q⟩:=Zz0.mp q
 obtain⟨rs,e2,q⟩:=Zz0.mp q
 cases q
 obtain⟨v,X,F,a1,a2,a3,a4⟩:=x c ρ σ H Φ t s e1
 obtain⟨hl,vs,Y,G,b1,b2,b3,b4⟩:=y c ρ σ (H++X) Φ rs (s.ext X) e2
 refine⟨by simp[hl],v::vs,X++Y,F++G,by simp[Zd,a1,b1],?_,fun a m=>?_,by simp⟩
 ·rw[←List.append_assoc];exact .cons (a2.ext Y) b2
 ·rcases Zz8.mp m with m | m
  ·exact(a3 a m).mono fun i hi=>List.mem_append_left _ hi
  ·exact(b3 a m).back.mono fun i hi=>List.mem_append_right _ hi
theorem Zfi{M:List Nat}{n:Nat}{e:Ex}{p:PE}{es:Exs}{ps:PEs}(x:E O N true e p)(y:Es O M true n es ps)(hN:∀i∈N,i∈O)(hM:∀i∈N,i∉M): Es O (N++M) true (n+1) (Zd e es) (Ze p ps):=fun c ρ σ H Φ ts s q=>by
 obtain⟨t,e1,q⟩:=Zz0.mp q
 obtain⟨rs,e2,q⟩:=Zz0.mp q
 cases q
 obtain⟨v,X,F,a1,a2,a3,a4⟩:=x c ρ σ H Φ t s e1
 obtain⟨hl,vs,Y,G,b1,b2,b3,b4⟩:=y c ρ σ (H++X) Φ rs (s.ext X) e2
 refine⟨by simp[hl],v::vs,X++Y,F++G,by simp[Zd,a1,b1],?_,fun a m=>?_,fun _=>?_⟩
 ·rw[←List.append_assoc];exact .cons (a2.ext Y) b2
 ·rcases Zz8.mp m with m | m
  ·exact(a3 a m).mono fun i hi=>List.mem_append_left _ hi
  ·exact(b3 a m).back.mono fun i hi=>List.mem_append_right _ hi
 ·rw[List.nodup_append]
  refine⟨a4 rfl,b4 rfl,fun a ha b hb e=>?_⟩
  subst e
  have hlt:=a2.lt a ha
  rcases b3 a hb with h | ⟨j,hj,⟨tj,ej⟩,mj⟩
  ·omega
  ·obtain⟨vj,_,rj⟩:=s.slot j tj ej
   have:=rj.lt a mj
   rcases a3 a ha with h | ⟨i,hi,⟨ti,ei⟩,mi⟩
   ·omega
   ·exact(s.own i (hN i hi) ti ei).2.2 j tj (fun q=>hM i hi (q▸hj)) ej a mi mj
noncomputable def Zan(p:PEs): PE:=fun σ=>(p σ).map .tup
noncomputable def ZaU(p:PEs): PE:=fun σ=>(p σ).map .lst
theorem E.tup{n:Nat}{e:Exs}{p:PEs}(x:Es O N u n e p)(hn:n≤LEN:=by decide): E O N u (Zak e) (Zan p):=fun c ρ σ H Φ t s q=>by
 obtain⟨ts,e1,e2⟩:=Zz1.mp q
 subst e2
 obtain⟨hl,vs,Y,G,b1,b2,b3,b4⟩:=x c ρ σ H Φ ts s e1
 have:=b2.length
 refine⟨.tup vs,Y,G,?_,.tup b2,b3,b4⟩
 simp only[Zak,b1,Option.bind_some]
 rw[if_pos (by omega)]
theorem E.list{n:Nat}{e:Exs}{p:PEs}(x:Es O N u n e p)(hn:n≤LEN:=by decide): E O N u (Za0 e) (ZaU p):=fun c ρ σ H Φ t s q=>by
 obtain⟨ts,e1,e2⟩:=Zz1.mp q
 subst e2
 obtain⟨hl,vs,Y,G,b1,b2,b3,b4⟩:=x c ρ σ H Φ ts s e1
 have:=b2.length
 refine⟨.ref (H++Y).length,Y++[vs],(H++Y).length::G,?_,?_,fun a m=>?_,fun hu=>?_⟩
 ·simp only[Za0,b1,Option.bind_some]
  rw[if_pos (by omega),List.append_assoc]
 ·rw[←List.append_assoc];exact .ref (by simp) (b2.ext _)
 ·rcases Zz7.mp m with rfl | m
  ·exact .inl (by simp)
  ·exact b3 a m
 ·rw[List.nodup_cons]
  exact⟨fun m=>Nat.lt_irrefl _ (b2.lt _ m),b4 hu⟩
def OA2(o:V→V→Hp→Option (V×Hp))(q:T→T→Option T): Prop:=∀(H:Hp) (v1 v2:V) (t1 t2 t:T) (F1 F2:List Nat),RF H v1 t1 F1→RF H v2 t2 F2→q t1 t2=some t→∃v,o v1 v2 H=some (v,H)∧RF H v t []
def OI2(o:V→V→Hp→Option (V×Hp))(q:T→T→Option T): Prop:=∀(H:Hp) (v1 v2:V) (t1 t2 t:T) (F1 F2:List Nat),RF H v1 t1 F1→RF H v2 t2 F2→q t1 t2=some t→∃v F,o v1 v2 H=some (v,H)∧RF H v t F∧F.Sublist F1
def OC2(o:V→V→Hp→Option (V×Hp))(q:T→T→Option T): Prop:=∀(H:Hp) (v1 v2:V) (t1 t2 t:T) (F1 F2:List Nat),RF H v1 t1 F1→RF H v2 t2 F2→q t1 t2=some t→∃v X F,o v1 v2 H=some (v,H++X)∧RF (H++X) v t F∧(∀a∈F,H.length≤a∨a∈F1∨a∈F2)∧(t.flatIn=true→F.Nodup∧∀a∈F,H.length≤a)
def OA1(o:V→Hp→Option (V×Hp))(q:T→Option T): Prop:=∀(H:Hp) (v1:V) (t1 t:T) (F1:List Nat),RF H v1 t1 F1→q t1=some t→∃v,o v1 H=some (v,H)∧RF H v t []
def OAn(o:List V→Hp→Option (V×Hp))(q:List T→Option T): Prop:=∀(H:Hp) (vs:List V) (ts:List T) (t:T) (F:List Nat),RFs H vs ts F→q ts=some t→∃v,o vs H=some (v,H)∧RF H v t []
def OCn(o:List V→Hp→Option (V×Hp))(q:List T→Option T): Prop:=∀(H:Hp) (vs:List V) (ts:List T) (t:T) (F1:List Nat),0<H.length→RFs H vs ts F1→q ts=some t→∃v X F,o vs H=some (v,H++X)∧RF (H++X) v t F∧(∀a∈F,H.length≤a∨a∈F1)∧(t.flatIn=true→F.Nodup∧∀a∈F,H.length≤a)
noncomputable def Zh(q:T→T→Option T)(p1 p2:PE): PE:=fun σ=>(p1 σ).bind fun x=>(p2 σ).bind fun y=>q x y
noncomputable def pUn(q:T→Option T)(p1:PE): PE:=fun σ=>(p1 σ).bind fun x=>q x
noncomputable def Zr(q:List T→Option T)(ps:PEs): PE:=fun σ=>(ps σ).bind fun xs=>q xs
noncomputable def pFl(p:PE): PE:=fun σ=>(p σ).bind fun t=>if t.flatIn then some t else none
theorem Zjr{M:List Nat}{u':Bool}{e1 e2:Ex}{p1 p2:PE}{q:T→T→Option T}{o:V→V→Hp→Option (V×Hp)}{c:Ctx}{ρ:Lc}{σ:TL}{H:Hp}{Φ:Nat→List Nat}{t:T}(x:E O N u e1 p1)(y:E O M u' e2 p2)(s:St c O ρ σ H Φ)(h:Zh q p1 p2 σ=some t):
  ∃t1 t2 v1 v2 X F1 F2,q t1 t2=some t∧RF (H++X) v1 t1 F1∧RF (H++X) v2 t2 F2∧(∀a∈F1,From H N σ Φ a)∧(∀a∈F2,From H M σ Φ a)∧(u=true→F1.Nodup)∧Zg o e1 e2 ρ H=o v1 v2 (H++X):=by
 obtain⟨t1,h1,h⟩:=Zz0.mp h
 obtain⟨t2,h2,h⟩:=Zz0.mp h
 obtain⟨v,X,F,a1,a2,a3,a4⟩:=x c ρ σ H Φ t1 s h1
 obtain⟨w,Y,G,b1,b2,b3,b4⟩:=y c ρ σ (H++X) Φ t2 (s.ext X) h2
 rw[List.append_assoc]at b1 b2
 refine⟨t1,t2,v,w,X++Y,F,G,h,?_,b2,a3,fun a m=>(b3 a m).back,a4,by simp only[Zg,a1,b1,Option.bind_some]⟩
 rw[←List.append_assoc];exact a2.ext Y
theorem ZE{M:List Nat}{u':Bool}{e1 e2:Ex}{p1 p2:PE}{q:T→T→Option T}{o:V→V→Hp→Option (V×Hp)}(k:OA2 o q)(x:E O N u e1 p1)(y:E O M u' e2 p2): E O [] true (Zg o e1 e2) (Zh q p1 p2):=fun c ρ σ H Φ t s h=>by
 obtain⟨t1,t2,v1,v2,X,F1,F2,hq,r1,r2,_,_,_,e⟩:=Zjr (o:=o) x y s h
 obtain⟨v,h1,h2⟩:=k _ v1 v2 t1 t2 t F1 F2 r1 r2 hq
 exact⟨v,X,[],e.trans h1,h2,by simp,by simp⟩
theorem ZC{M:List Nat}{u':Bool}{e1 e2:Ex}{p1 p2:PE}{q:T→T→Option T}{o:V→V→Hp→Option (V×Hp)}(k:OI2 o q)(x:E O N u e1 p1)(y:E O M u' e2 p2): E O N u (Zg o e1 e2) (Zh q p1 p2):=fun c ρ σ H Φ t s h=>by
 obtain⟨t1,t2,v1,v2,X,F1,F2,hq,r1,r2,h1,_,hu,e⟩:=Zjr (o:=o) x y s h
 obtain⟨v,F,k1,k2,k3⟩:=k _ v1 v2 t1 t2 t F1 F2 r1 r2 hq
 exact⟨v,X,F,e.trans k1,k2,fun a m=>h1 a (k3.subset m),fun h=>(hu h).sublist k3⟩
theorem Zac{M:List Nat}{u':Bool}{e1 e2:Ex}{p1 p2:PE}{q:T→T→Option T}{o:V→V→Hp→Option (V×Hp)}(k:OC2 o q)(x:E O N u e1 p1)(y:E O M u' e2 p2): E O (N++M) false (Zg o e1 e2) (Zh q p1 p2):=fun c ρ σ H Φ t s h=>by
 obtain⟨t1,t2,v1,v2,X,F1,F2,hq,r1,r2,h1,h2,hu,e⟩:=Zjr (o:=o) x y s h
 obtain⟨v,Y,F,k1,k2,k3,k4⟩:=k _ v1 v2 t1 t2 t F1 F2 r1 r2 hq
 rw[List.append_assoc]at k1 k2
 refine⟨v,X++Y,F,e.trans k1,k2,fun a m=>?_,by simp⟩
 rcases k3 a m with h | h | h
 ·exact .inl (by rw[List.length_append]at h;omega)
 ·exact(h1 a h).mono fun i hi=>List.mem_append_left _ hi
 ·exact(h2 a h).mono fun i hi=>List.mem_append_right _ hi
theorem ZhX{M:List Nat}{u':Bool}{e1 e2:Ex}{p1 p2:PE}{q:T→T→Option T}{o:V→V→Hp→Option (V×Hp)}(k:OC2 o q)(x:E O N u e1 p1)(y:E O M u' e2 p2): E O [] true (Zg o e1 e2) (pFl (Zh q p1 p2)):=fun c ρ σ H Φ t s h=>by
 obtain⟨t',h,hf⟩:=Zz0.mp h
 by_cases fl:t'.flatIn=true
 ·rw[if_pos fl]at hf
  cases hf
  obtain⟨t1,t2,v1,v2,X,F1,F2,hq,r1,r2,h1,h2,hu,e⟩:=Zjr (o:=o) x y s h
  obtain⟨v,Y,F,k1,k2,k3,k4⟩:=k _ v1 v2 t1 t2 t F1 F2 r1 r2 hq
  rw[List.append_assoc]at k1 k2
  exact⟨v,X++Y,F,e.trans k1,k2,fun a m=>.inl (by have:=(k4 fl).2 a m;rw[List.length_append]at this;omega),fun _=>(k4 fl).1⟩
 ·rw[if_neg fl]at hf;cases hf
theorem Zcq{e1:Ex}{p1:PE}{q:T→Option T}{o:V→Hp→Option (V×Hp)}(k:OA1 o q)(x:E O N u e1 p1): E O [] true (eUn o e1) (pUn q p1):=fun c ρ σ H Φ t s h=>by
 obtain⟨t1,h1,h⟩:=Zz0.mp h
 obtain⟨v,X,F,a1,a2,a3,a4⟩:=x c ρ σ H Φ t1 s h1
 obtain⟨w,b1,b2⟩:=k _ v t1 t F a2 h
 exact⟨w,X,[],by simp only[eUn,a1,Option.bind_some,b1],b2,by simp,by simp⟩
theorem ZaD{n:Nat}{es:Exs}{ps:PEs}{q:List T→Option T}{o:List V→Hp→Option (V×Hp)}(k:OAn o q)(x:Es O N u n es ps): E O [] true (Zq o es) (Zr q ps):=fun c ρ σ H Φ t s h=>by
 obtain⟨ts,h1,h⟩:=Zz0.mp h
 obtain⟨_,vs,X,F,a1,a2,a3,a4⟩:=x c ρ σ H Φ ts s h1
 obtain⟨w,b1,b2⟩:=k _ vs ts t F a2 h
 exact⟨w,X,[],by simp only[Zq,a1,Option.bind_some,b1],b2,by simp,by simp⟩
theorem ZjQ{n:Nat}{es:Exs}{ps:PEs}{q:List T→Option T}{o:List V→Hp→Option (V×Hp)}(k:OCn o q)(x:Es O N u n es ps): E O N false (Zq o es) (Zr q ps):=fun c ρ σ H Φ t s h=>by
 obtain⟨ts,h1,h⟩:=Zz0.mp h
 obtain⟨_,vs,X,F,a1,a2,a3,a4⟩:=x c ρ σ H Φ ts s h1
 have hp:0<(H++X).length:=by have:=s.pos;have:=s.len;rw[List.length_append];omega
 obtain⟨w,Y,G,b1,b2,b3,b4⟩:=k _ vs ts t F hp a2 h
 rw[List.append_assoc]at b1 b2
 refine⟨w,X++Y,G,by simp only[Zq,a1,Option.bind_some,b1],b2,fun a m=>?_,by simp⟩
 rcases b3 a m with h | h
 ·exact .inl (by rw[List.length_append]at h;omega)
 ·exact a3 a h
theorem Zx2{n:Nat}{es:Exs}{ps:PEs}{q:List T→Option T}{o:List V→Hp→Option (V×Hp)}(k:OCn o q)(x:Es O N u n es ps): E O [] true (Zq o es) (pFl (Zr q ps)):=fun c ρ σ H Φ t s h=>by
 obtain⟨t',h,hf⟩:=Zz0.mp h
 by_cases fl:t'.flatIn=true
 ·rw[if_pos fl]at hf
  cases hf
  obtain⟨ts,h1,h⟩:=Zz0.mp h
  obtain⟨_,vs,X,F,a1,a2,a3,a4⟩:=x c ρ σ H Φ ts s h1
  have hp:0<(H++X).length:=by have:=s.pos;have:=s.len;rw[List.length_append];omega
  obtain⟨w,Y,G,b1,b2,b3,b4⟩:=k _ vs ts t F hp a2 h
  rw[List.append_assoc]at b1 b2
  exact⟨w,X++Y,G,by simp only[Zq,a1,Option.bind_some,b1],b2,fun a m=>.inl (by have:=(b4 fl).2 a m;rw[List.length_append]at this;omega),fun _=>(b4 fl).1⟩
 ·rw[if_neg fl]at hf;cases hf
def SimF(fr:Bool)(f:List V→Hp→Option (V×Hp))(p:List T→Option T): Prop:=∀(H:Hp) (vs:List V) (ts:List T) (t:T) (F1:List Nat),0<H.length→RFs H vs ts F1→p ts=some t→∃v X F,f vs H=some (v,H++X)∧RF (H++X) v t F∧(∀a∈F,H.length≤a∨a∈F1)∧(fr=true→F.Nodup∧∀a∈F,H.length≤a)
theorem ZG{fr:Bool}{n:Nat}{es:Exs}{ps:PEs}{q:List T→Option T}{o:List V→Hp→Option (V×Hp)}(k:SimF fr o q)(x:Es O N u n es ps): E O N false (Zq o es) (Zr q ps):=fun c ρ σ H Φ t s h=>by
 obtain⟨ts,h1,h⟩:=Zz0.mp h
 obtain⟨_,vs,X,F,a1,a2,a3,a4⟩:=x c ρ σ H Φ ts s h1
 have hp:0<(H++X).length:=by have:=s.pos;have:=s.len;rw[List.length_append];omega
 obtain⟨w,Y,G,b1,b2,b3,b4⟩:=k _ vs ts t F hp a2 h
 rw[List.append_assoc]at b1 b2
 refine⟨w,X++Y,G,by simp only[Zq,a1,Option.bind_some,b1],b2,fun a m=>?_,by simp⟩
 rcases b3 a m with h | h
 ·exact .inl (by rw[List.length_append]at h;omega)
 ·exact a3 a h
theorem ZaE{n:Nat}{es:Exs}{ps:PEs}{q:List T→Option T}{o:List V→Hp→Option (V×Hp)}(k:SimF true o q)(x:Es O N u n es ps): E O [] true (Zq o es) (Zr q ps):=fun c ρ σ H Φ t s h=>by
 obtain⟨ts,h1,h⟩:=Zz0.mp h
 obtain⟨_,vs,X,F,a1,a2,a3,a4⟩:=x c ρ σ H Φ ts s h1
 have hp:0<(H++X).length:=by have:=s.pos;have:=s.len;rw[List.length_append];omega
 obtain⟨w,Y,G,b1,b2,b3,b4⟩:=k _ vs ts t F hp a2 h
 rw[List.append_assoc]at b1 b2
 exact⟨w,X++Y,G,by simp only[Zq,a1,Option.bind_some,b1],b2,fun a m=>.inl (by have:=(b4 rfl).2 a m;rw[List.length_append]at this;omega),fun _=>(b4 rfl).1⟩
noncomputable def ZbK: T→Option Bool
 | .bool b=>some b
 | .none=>some false
 | .int i=>some (i != 0)
 | _=>none
theorem Zex{H:Hp}{v:V}{t:T}{F:List Nat}{b:Bool}(r:RF H v t F)(h:ZbK t=some b): ZcR v H=some b:=by
 cases r <;> first | (cases h;rfl) | cases h
noncomputable def ZL(p:PE): PB:=fun σ=>(p σ).bind ZbK
noncomputable def ZbZ(p:PB): PB:=fun σ=>(p σ).map fun b=>!b
noncomputable def Zaq: PB:=fun _=>some true
noncomputable def ZcB: PB:=fun _=>some false
noncomputable def ZbQ(p q:PB): PB:=fun σ=>(p σ).bind fun b=>if b then q σ else some false
noncomputable def bOr(p q:PB): PB:=fun σ=>(p σ).bind fun b=>if b then some true else q σ
theorem ZO{e:Ex}{p:PE}(x:E O N u e p): Bt O (ZK e) (ZL p):=fun c ρ σ H Φ b s h=>by
 obtain⟨t,h1,h⟩:=Zz0.mp h
 obtain⟨v,X,F,a1,a2,a3,a4⟩:=x c ρ σ H Φ t s h1
 exact⟨X,by simp only[ZK,a1,Option.bind_some,Zex a2 h,Option.map_some]⟩
theorem Zcn{e:Ts}{p:PB}(x:Bt O e p): Bt O (ZbX e) (ZbZ p):=fun c ρ σ H Φ b s h=>by
 obtain⟨t,h1,h⟩:=Zz1.mp h
 subst h
 obtain⟨X,a1⟩:=x c ρ σ H Φ t s h1
 exact⟨X,by simp only[ZbX,a1,Option.map_some]⟩
theorem ZaH: Bt O Zaw Zaq:=fun c ρ σ H Φ b s h=>by
 cases h;exact⟨[],by simp[Zaw]⟩
theorem ZcP: Bt O Zck ZcB:=fun c ρ σ H Φ b s h=>by
 cases h;exact⟨[],by simp[Zck]⟩
theorem Zco{e f:Ts}{p q:PB}(x:Bt O e p)(y:Bt O f q): Bt O (ZbO e f) (ZbQ p q):=fun c ρ σ H Φ b s h=>by
 obtain⟨t,h1,h⟩:=Zz0.mp h
 obtain⟨X,a1⟩:=x c ρ σ H Φ t s h1
 cases t with
 | true=>
  obtain⟨Y,b1⟩:=y c ρ σ (H++X) Φ b (s.ext X) (by simpa using h)
  exact⟨X++Y,by simp[ZbO,a1,b1]⟩
 | false=>cases h;exact⟨X,by simp[ZbO,a1]⟩
theorem Za8{e f:Ts}{p q:PB}(x:Bt O e p)(y:Bt O f q): Bt O (tOr e f) (bOr p q):=fun c ρ σ H Φ b s h=>by
 obtain⟨t,h1,h⟩:=Zz0.mp h
 obtain⟨X,a1⟩:=x c ρ σ H Φ t s h1
 cases t with
 | false=>
  obtain⟨Y,b1⟩:=y c ρ σ (H++X) Φ b (s.ext X) (by simpa using h)
  exact⟨X++Y,by simp[tOr,a1,b1]⟩
 | true=>cases h;exact⟨X,by simp[tOr,a1]⟩
noncomputable def pIf(b:PB)(p q:PE): PE:=fun σ=>(b σ).bind fun x=>if x then p σ else q σ
noncomputable def ZkK(p:PE): PE:=fun σ=>(p σ).bind fun t=>(ZbK t).map fun b=>.bool !b
noncomputable def Zds(p q:PE): PE:=fun σ=>(p σ).bind fun t=>(ZbK t).bind fun b=>if b then q σ else some t
noncomputable def pOr(p q:PE): PE:=fun σ=>(p σ).bind fun t=>(ZbK t).bind fun b=>if b then some t else q σ
theorem ZeQ{M:List Nat}{b:Ts}{pb:PB}{e f:Ex}{p q:PE}(z:Bt O b pb)(x:E O N u e p)(y:E O M u f q): E O (N++M) u (eIf b e f) (pIf pb p q):=fun c ρ σ H Φ t s h=>by
 obtain⟨b',h1,h⟩:=Zz0.mp h
 obtain⟨X,a1⟩:=z c ρ σ H Φ b' s h1
 cases b' with
 | true=>
  obtain⟨v,Y,F,b1,b2,b3,b4⟩:=x c ρ σ (H++X) Φ t (s.ext X) (by simpa using h)
  exact⟨v,X++Y,F,by simp[eIf,a1,b1],by rw[←List.append_assoc];exact b2,fun a m=>(b3 a m).back.mono fun i hi=>List.mem_append_left _ hi,b4⟩
 | false=>
  obtain⟨v,Y,F,b1,b2,b3,b4⟩:=y c ρ σ (H++X) Φ t (s.ext X) (by simpa using h)
  exact⟨v,X++Y,F,by simp[eIf,a1,b1],by rw[←List.append_assoc];exact b2,fun a m=>(b3 a m).back.mono fun i hi=>List.mem_append_right _ hi,b4⟩
theorem ZAF{e:Ex}{p:PE}(x:E O N u e p): E O [] true (ZkH e) (ZkK p):=fun c ρ σ H Φ t s h=>by
 obtain⟨t1,h1,h⟩:=Zz0.mp h
 obtain⟨b,h2,h⟩:=Zz1.mp h
 subst h
 obtain⟨v,X,F,a1,a2,a3,a4⟩:=x c ρ σ H Φ t1 s h1
 exact⟨.bool !b,X,[],by simp only[ZkH,a1,Option.bind_some,Zex a2 h2,Option.map_some],.bool _,by simp,by simp⟩
theorem ZfG{M:List Nat}{e f:Ex}{p q:PE}(x:E O N u e p)(y:E O M u f q): E O (N++M) u (Zda e f) (Zds p q):=fun c ρ σ H Φ t s h=>by
 obtain⟨t1,h1,h⟩:=Zz0.mp h
 obtain⟨b,h2,h⟩:=Zz0.mp h
 obtain⟨v,X,F,a1,a2,a3,a4⟩:=x c ρ σ H Φ t1 s h1
 cases b with
 | true=>
  obtain⟨w,Y,F',b1,b2,b3,b4⟩:=y c ρ σ (H++X) Φ t (s.ext X) (by simpa using h)
  exact⟨w,X++Y,F',by simp[Zda,a1,Zex a2 h2,b1],by rw[←List.append_assoc];exact b2,fun a m=>(b3 a m).back.mono fun i hi=>List.mem_append_right _ hi,b4⟩
 | false=>
  cases h
  exact⟨v,X,F,by simp[Zda,a1,Zex a2 h2],a2,fun a m=>(a3 a m).mono fun i hi=>List.mem_append_left _ hi,a4⟩
theorem ZA8{M:List Nat}{e f:Ex}{p q:PE}(x:E O N u e p)(y:E O M u f q): E O (N++M) u (eOr e f) (pOr p q):=fun c ρ σ H Φ t s h=>by
 obtain⟨t1,h1,h⟩:=Zz0.mp h
 obtain⟨b,h2,h⟩:=Zz0.mp h
 obtain⟨v,X,F,a1,a2,a3,a4⟩:=x c ρ σ H Φ t1 s h1
 cases b with
 | false=>
  obtain⟨w,Y,F',b1,b2,b3,b4⟩:=y c ρ σ (H++X) Φ t (s.ext X) (by simpa using h)
  exact⟨w,X++Y,F',by simp[eOr,a1,Zex a2 h2,b1],by rw[←List.append_assoc];exact b2,fun a m=>(b3 a m).back.mono fun i hi=>List.mem_append_right _ hi,b4⟩
 | true=>
  cases h
  exact⟨v,X,F,by simp[eOr,a1,Zex a2 h2],a2,fun a m=>(a3 a m).mono fun i hi=>List.mem_append_left _ hi,a4⟩
noncomputable def Zo7: T→String
 | .none=>"NoneType"
 | .bool _=>"bool"
 | .int _=>"int"
 | .str _=>"str"
 | .tup _=>"tuple"
 | .lst _=>"list"
end
end TM
end
section
namespace TM
open PySem PM
section
variable {O N:List Nat} {u:Bool}
noncomputable def ZjR(K:String)(t:T): Bool:=Zo7 t == K || (K == "int" && Zo7 t == "bool")
noncomputable def pIs(K:String)(p:PE): PE:=fun σ=>(p σ).map fun t=>.bool (ZjR K t)
theorem Zx3{H:Hp}{v:V}{t:T}{F:List Nat}(r:RF H v t F): Zo6 v=Zo7 t:=by cases r <;> rfl
theorem Zel{K:String}{e:Ex}{p:PE}(x:E O N u e p): E O [] true (eIs K e) (pIs K p):=fun c ρ σ H Φ t s h=>by
 obtain⟨t1,h1,h⟩:=Zz1.mp h
 subst h
 obtain⟨v,X,F,a1,a2,a3,a4⟩:=x c ρ σ H Φ t1 s h1
 exact⟨.bool (ZjR K t1),X,[],by simp only[eIs,a1,Option.map_some,Zpz,ZjR,Zx3 a2],.bool _,by simp,by simp⟩
noncomputable def Zba: T→T→Option T
 | .int a,.int b=>some (.int (a-b))
 | _,_=>none
noncomputable def Zcf: T→T→Option T
 | .int a,.int b=>if b≠0∧Builtin.divisionGoesByPylong a b=false then some (.int (a.fdiv b))else none
 | _,_=>none
noncomputable def ZaL: T→T→Option T
 | .int a,.int b=>if b≠0 then some (.int (a.fmod b))else none
 | _,_=>none
noncomputable def Zdt: T→T→Option T
 | .int a,.int b=>if 0≤b∧(Builtin.Int.intBits a:Int)*b≤2 ^ 27 then some (.int (a ^ b.toNat))else none
 | _,_=>none
noncomputable def Zb9: T→Option T
 | .int a=>some (.int (-a))
 | _=>none
noncomputable def ZkL(p:Int→Int→Bool): T→T→Option T
 | .int a,.int b=>some (.bool (p a b))
 | _,_=>none
noncomputable def qLt:=ZkL fun a b=>decide (a<b)
noncomputable def qLe:=ZkL fun a b=>decide (a≤b)
noncomputable def qGt:=ZkL fun a b=>decide (b<a)
theorem Zbr: OA2 Zbk Zba:=fun H v1 v2 t1 t2 t F1 F2 r1 r2 h=>by
 cases r1 <;> first | (cases h;done) | (cases r2 <;> first | (cases h;done) | (cases h;exact⟨_,rfl,.int _⟩))
theorem ZcY: OA2 oDiv Zcf:=fun H v1 v2 t1 t2 t F1 F2 r1 r2 h=>by
 cases r1 <;> first | (cases h;done) | skip
 cases r2 <;> first | (cases h;done) | skip
 simp only[Zcf]at h
 split at h
 ·rename_i hc;cases h;exact⟨_,by simp only[oDiv];rw[if_pos hc],.int _⟩
 ·cases h
theorem ZaV: OA2 oMod ZaL:=fun H v1 v2 t1 t2 t F1 F2 r1 r2 h=>by
 cases r1 <;> first | (cases h;done) | skip
 cases r2 <;> first | (cases h;done) | skip
 simp only[ZaL]at h
 split at h
 ·rename_i hc;cases h;exact⟨_,by simp only[oMod];rw[if_pos hc],.int _⟩
 ·cases h
theorem Zp2: OA2 oPow Zdt:=fun H v1 v2 t1 t2 t F1 F2 r1 r2 h=>by
 cases r1 <;> first | (cases h;done) | skip
 cases r2 <;> first | (cases h;done) | skip
 simp only[Zdt]at h
 split at h
 ·rename_i hc;cases h;exact⟨_,by simp only[oPow];rw[if_pos hc],.int _⟩
 ·cases h
theorem Zcr: OA1 Zb7 Zb9:=fun H v1 t1 t F1 r1 h=>by
 cases r1 <;> first | (cases h;done) | (cases h;exact⟨_,rfl,.int _⟩)
theorem Zp3(p:Int→Int→Bool): OA2 (ZkI p) (ZkL p):=fun H v1 v2 t1 t2 t F1 F2 r1 r2 h=>by
 cases r1 <;> first | (cases h;done) | (cases r2 <;> first | (cases h;done) | (cases h;exact⟨_,rfl,.bool _⟩))
theorem ZdL: OA2 oLt qLt:=Zp3 _
theorem Zqe: OA2 oLe qLe:=Zp3 _
theorem ZfR: OA2 oGt qGt:=Zp3 _
noncomputable def ZfH(f:T→Option PyData): List T→Option (List PyData)
 | []=>some []
 | v::vs=>(f v).bind fun d=>(ZfH f vs).bind fun ds=>some (d::ds)
noncomputable def ZcL: Nat→T→Option PyData
 | _,.none=>some .none
 | _,.bool b=>some (.bool b)
 | _,.int i=>some (.int i)
 | _,.str x=>some (.str x)
 | n+1,.tup vs=>(ZfH (ZcL n) vs).map .tuple
 | n+1,.lst vs=>(ZfH (ZcL n) vs).map .list
 | 0,.tup _=>none
 | 0,.lst _=>none
theorem Zo8{H:Hp}{f:V→Option PyData}{g:T→Option PyData}(h:∀v t F,RF H v t F→f v=g t): ∀{vs:List V} {ts:List T} {F:List Nat},RFs H vs ts F→ZgP f vs=ZfH g ts
 | _,_,_,.nil=>rfl
 | _,_,_,.cons a b=>by simp only[ZgP,ZfH,h _ _ _ a,Zo8 h b]
theorem Zkd{H:Hp}: ∀(n:Nat) (v:V) (t:T) (F:List Nat),RF H v t F→toD H n v=ZcL n t:=by
 intro n
 induction n with
 | zero=>intro v t F r;cases r <;> rfl
 | succ n ih=>
  intro v t F r
  cases r with
  | none=>rfl
  | bool=>rfl
  | int=>rfl
  | str=>rfl
  | tup hs=>simp only[toD,ZcL,Zo8 ih hs]
  | ref e hs=>simp only[toD,ZcL,e,Option.bind_some,Zo8 ih hs]
noncomputable def ZdM(a b:T): Option Bool:=(ZcL ZbG a).bind fun d=>(ZcL ZbG b).bind fun e=>if SeqAt.shaped d=true∧SeqAt.shaped e=true then some (PyData.eqv d e)else none
noncomputable def qEq(a b:T): Option T:=(ZdM a b).map .bool
noncomputable def qNe(a b:T): Option T:=(ZdM a b).map fun c=>.bool !c
theorem ZsO{H:Hp}{v1 v2:V}{t1 t2:T}{F1 F2:List Nat}(r1:RF H v1 t1 F1)(r2:RF H v2 t2 F2): ZkJ v1 v2 H=ZdM t1 t2:=by
 simp only[ZkJ,ZdM,Zkd ZbG _ _ _ r1,Zkd ZbG _ _ _ r2]
theorem Zau: OA2 oEq qEq:=fun H v1 v2 t1 t2 t F1 F2 r1 r2 h=>by
 obtain⟨c,h1,h⟩:=Zz1.mp h
 subst h
 exact⟨_,by simp only[oEq,ZsO r1 r2,h1,Option.map_some],.bool _⟩
theorem Zdu: OA2 oNe qNe:=fun H v1 v2 t1 t2 t F1 F2 r1 r2 h=>by
 obtain⟨c,h1,h⟩:=Zz1.mp h
 subst h
 exact⟨_,by simp only[oNe,ZsO r1 r2,h1,Option.map_some],.bool _⟩
noncomputable def qIs: T→T→Option T
 | .none,.none=>some (.bool true)
 | _,.none=>some (.bool false)
 | _,_=>none
noncomputable def Zb4: T→T→Option T
 | .none,.none=>some (.bool false)
 | _,.none=>some (.bool true)
 | _,_=>none
theorem ZbR: OA2 oIs qIs:=fun H v1 v2 t1 t2 t F1 F2 r1 r2 h=>by
 cases r1 <;> cases r2 <;> first | (cases h;done) | (cases h;exact⟨_,rfl,.bool _⟩)
theorem Zdi: OA2 ZcT Zb4:=fun H v1 v2 t1 t2 t F1 F2 r1 r2 h=>by
 cases r1 <;> cases r2 <;> first | (cases h;done) | (cases h;exact⟨_,rfl,.bool _⟩)
noncomputable def Zv: T→T→Option T
 | .lst ts,.int k=>(seqIndex? k ts.length).bind fun j=>ts[j]?
 | .tup ts,.int k=>(seqIndex? k ts.length).bind fun j=>ts[j]?
 | _,_=>none
theorem ZB: OI2 Zu Zv:=fun H v1 v2 t1 t2 t F1 F2 r1 r2 h=>by
 cases r1 with
 | none=>cases h
 | bool=>cases h
 | int=>cases h
 | str=>cases h
 | tup hs=>
  cases r2 <;> first | (cases h;done) | skip
  obtain⟨j,h1,h2⟩:=Zz0.mp h
  obtain⟨v,G,e1,e2,e3⟩:=hs.at h2
  exact⟨v,G,by simp only[Zu,hs.length,h1,Option.bind_some,e1,Option.map_some],e2,e3⟩
 | ref e hs=>
  cases r2 <;> first | (cases h;done) | skip
  obtain⟨j,h1,h2⟩:=Zz0.mp h
  obtain⟨v,G,e1,e2,e3⟩:=hs.at h2
  exact⟨v,G,by simp only[Zu,e,Option.bind_some,hs.length,h1,e1,Option.map_some],e2,e3.trans (List.sublist_cons_self _ _)⟩
noncomputable def Zaz: List T→Option T
 | [.lst ts]=>some (.int ts.length)
 | [.tup ts]=>some (.int ts.length)
 | _=>none
theorem RFs.one_inv{H:Hp}{vs:List V}{t:T}{F:List Nat}(r:RFs H vs [t] F): ∃v,vs=[v]∧RF H v t F:=by
 cases r with
 | cons a b=>cases b;rw[List.append_nil];exact⟨_,rfl,a⟩
theorem RFs.two_inv{H:Hp}{vs:List V}{t t':T}{F:List Nat}(r:RFs H vs [t,t'] F): ∃v v' F1 F2,vs=[v,v']∧RF H v t F1∧RF H v' t' F2∧F=F1++F2:=by
 cases r with
 | cons a b=>obtain⟨v',h1,h2⟩:=b.one_inv;subst h1;exact⟨_,_,_,_,rfl,a,h2,rfl⟩
theorem ZaW: OAn ZaJ Zaz:=fun H vs ts t F r h=>by
 unfold Zaz at h
 split at h
 ·obtain⟨v,rfl,r'⟩:=r.one_inv
  cases r' with
  | ref e hs=>cases h;exact⟨_,by simp only[ZaJ,e,Option.map_some,hs.length],.int _⟩
 ·obtain⟨v,rfl,r'⟩:=r.one_inv
  cases r' with
  | tup hs=>cases h;exact⟨_,by simp only[ZaJ,hs.length],.int _⟩
 ·cases h
noncomputable def ZdN: List T→Option T
 | [.int a]=>some (.int (if a<0 then -a else a))
 | _=>none
theorem ZfI: OAn ZdK ZdN:=fun H vs ts t F r h=>by
 unfold ZdN at h
 split at h
 ·obtain⟨v,rfl,r'⟩:=r.one_inv
  cases r';cases h;exact⟨_,rfl,.int _⟩
 ·cases h
noncomputable def Zky: List T→Option T
 | [.int a,.int b]=>some (.int (if b>a then b else a))
 | _=>none
theorem Zzu: OAn Zkw Zky:=fun H vs ts t F r h=>by
 unfold Zky at h
 split at h
 ·obtain⟨v,w,F1,F2,rfl,r1,r2,_⟩:=r.two_inv
  cases r1;cases r2;cases h;exact⟨_,rfl,.int _⟩
 ·cases h
noncomputable def Zdp: List T→Option (List Int)
 | []=>some []
 | .int k::vs=>(Zdp vs).map fun ks=>k::ks
 | _::_=>none
noncomputable def ZgE: List T→Option (List Bool)
 | []=>some []
 | .bool k::vs=>(ZgE vs).map fun ks=>k::ks
 | _::_=>none
theorem ZjS{H:Hp}: ∀{vs:List V} {ts:List T} {F:List Nat} {ks:List Int},RFs H vs ts F→Zdp ts=some ks→ZdG vs=some ks
 | _,_,_,_,.nil,h=>h
 | _,_,_,_,.cons a b,h=>by
  cases a <;> first | (cases h;done) | skip
  obtain⟨js,h1,h2⟩:=Zz1.mp h
  subst h2
  simp only[ZdG,ZjS b h1,Option.map_some]
theorem ZrD{H:Hp}: ∀{vs:List V} {ts:List T} {F:List Nat} {ks:List Bool},RFs H vs ts F→ZgE ts=some ks→Zgw vs=some ks
 | _,_,_,_,.nil,h=>h
 | _,_,_,_,.cons a b,h=>by
  cases a <;> first | (cases h;done) | skip
  obtain⟨js,h1,h2⟩:=Zz1.mp h
  subst h2
  simp only[Zgw,ZrD b h1,Option.map_some]
noncomputable def ZkM: List T→Option T
 | [.lst ts]=>(Zdp ts).map fun ks=>.int ks.sum
 | _=>none
noncomputable def Zik: List T→Option T
 | [.lst ts]=>(ZgE ts).map fun bs=>.bool (bs.any id)
 | _=>none
theorem ZAG: OAn Zih ZkM:=fun H vs ts t F r h=>by
 unfold ZkM at h
 split at h
 ·obtain⟨v,rfl,r'⟩:=r.one_inv
  cases r' with
  | ref e hs=>
   obtain⟨ks,h1,h2⟩:=Zz1.mp h
   subst h2
   exact⟨_,by simp only[Zih,e,Option.bind_some,ZjS hs h1,Option.map_some],.int _⟩
 ·cases h
theorem ZAH: OAn Zij Zik:=fun H vs ts t F r h=>by
 unfold Zik at h
 split at h
 ·obtain⟨v,rfl,r'⟩:=r.one_inv
  cases r' with
  | ref e hs=>
   obtain⟨ks,h1,h2⟩:=Zz1.mp h
   subst h2
   exact⟨_,by simp only[Zij,e,Option.bind_some,ZrD hs h1,Option.map_some],.bool _⟩
 ·cases h
theorem Zem{H:Hp}{vs:List V}{ts:List T}{F:List Nat}(r:RFs H vs ts F): RF (H++[vs]) (.ref H.length) (.lst ts) (H.length::F):=.ref (by simp) (r.ext _)
theorem Zgk{H:Hp}{vs:List V}{ts:List T}{F:List Nat}(r:RFs H vs ts F)(h:T.flatIn (.lst ts)=true): (H.length::F).Nodup∧∀a∈H.length::F,H.length≤a:=by
 rw[r.flats (by simpa [T.flatIn]using h)]
 simp
theorem ZwZ{H:Hp}{v:V}{t:T}{F:List Nat}(r:RF H v t F)(h:F=[]): F.Nodup∧∀a∈F,H.length≤a:=by subst h;simp
noncomputable def Zil(ts:List T): Nat→List T
 | 0=>[]
 | n+1=>Zil ts n++ts
noncomputable def Zab: T→T→Option T
 | .int a,.int b=>some (.int (a+b))
 | .lst a,.lst b=>if(a++b).length≤LEN then some (.lst (a++b))else none
 | .tup a,.tup b=>if(a++b).length≤LEN then some (.tup (a++b))else none
 | _,_=>none
noncomputable def ZaY: T→T→Option T
 | .int a,.int b=>if mulOk a b=true then some (.int (a*b))else none
 | .lst a,.int k=>if a.length*k.toNat≤LEN∧-(2 ^ 63:Int)≤k∧k<2 ^ 63 then some (.lst (Zil a k.toNat))else none
 | _,_=>none
theorem ZsP{H:Hp}{vs:List V}{ts:List T}{F:List Nat}(r:RFs H vs ts F): ∀n,∃G,RFs H (ZfQ vs n) (Zil ts n) G∧∀a∈G,a∈F
 | 0=>⟨_,.nil,by simp⟩
 | n+1=>by
  obtain⟨G,h1,h2⟩:=ZsP r n
  exact⟨_,h1.append r,fun a m=>(Zz8.mp m).elim (h2 a) id⟩
theorem Zah: OC2 Zae Zab:=fun H v1 v2 t1 t2 t F1 F2 r1 r2 h=>by
 cases r1 with
 | none=>cases h
 | bool=>cases h
 | str=>cases h
 | int a=>
  cases r2 <;> first | (cases h;done) | skip
  cases h;exact⟨_,[],[],by simp[Zae],.int _,by simp,by simp⟩
 | tup hs1=>
  cases r2 with
  | none=>cases h
  | bool=>cases h
  | str=>cases h
  | int=>cases h
  | ref=>cases h
  | tup hs2=>
   simp only[Zab]at h
   split at h
   ·rename_i hl
    cases h
    refine⟨_,[],_,?_,.tup (by simpa using hs1.append hs2),fun a m=>.inr (Zz8.mp m),fun hf=>ZwZ (H:=H) (.tup (hs1.append hs2)) ((RF.tup (hs1.append hs2)).flat (by simpa [T.flatIn]using hf))⟩
    simp only[Zae,List.append_nil]
    rw[if_pos (by rw[List.length_append]at hl ⊢;rw[hs1.length,hs2.length];exact hl)]
   ·cases h
 | ref e1 hs1=>
  cases r2 with
  | none=>cases h
  | bool=>cases h
  | str=>cases h
  | int=>cases h
  | tup=>cases h
  | ref e2 hs2=>
   simp only[Zab]at h
   split at h
   ·rename_i hl
    cases h
    refine⟨_,_,_,?_,Zem (hs1.append hs2),fun a m=>?_,Zgk (hs1.append hs2)⟩
    ·simp only[Zae,e1,e2,Option.bind_some]
     rw[if_pos (by rw[List.length_append]at hl ⊢;rw[hs1.length,hs2.length];exact hl)]
    ·rcases Zz7.mp m with rfl | m
     ·exact .inl (Zz10 _)
     ·rcases Zz8.mp m with m | m
      ·exact .inr (.inl (Zz2 _ m))
      ·exact .inr (.inr (Zz2 _ m))
   ·cases h
theorem Zbz: OC2 Za9 ZaY:=fun H v1 v2 t1 t2 t F1 F2 r1 r2 h=>by
 cases r1 with
 | none=>cases h
 | bool=>cases h
 | str=>cases h
 | tup=>cases h
 | int a=>
  cases r2 <;> first | (cases h;done) | skip
  simp only[ZaY]at h
  split at h
  ·rename_i hm
   cases h;exact⟨_,[],[],by simp only[Za9];rw[if_pos hm];simp,.int _,by simp,by simp⟩
  ·cases h
 | ref e1 hs1=>
  cases r2 with
  | none=>cases h
  | bool=>cases h
  | str=>cases h
  | tup=>cases h
  | ref=>cases h
  | int k=>
   simp only[ZaY]at h
   split at h
   ·rename_i hl
    cases h
    obtain⟨G,h1,h2⟩:=ZsP hs1 k.toNat
    refine⟨_,_,_,?_,Zem h1,fun a m=>?_,Zgk h1⟩
    ·simp only[Za9,e1,Option.bind_some]
     rw[if_pos (by rw[hs1.length];exact hl)]
    ·rcases Zz7.mp m with rfl | m
     ·exact .inl (Zz10 _)
     ·exact .inr (.inl (Zz2 _ (h2 a m)))
   ·cases h
noncomputable def Zfw: List T→Option T
 | [.lst ts]=>some (.lst ts)
 | [.tup ts]=>some (.lst ts)
 | _=>none
noncomputable def ZjT: List T→Option T
 | [.lst ts]=>some (.tup ts)
 | [.tup ts]=>some (.tup ts)
 | _=>none
theorem Zo9: OCn ZeG Zfw:=fun H vs ts t F hp r h=>by
 unfold Zfw at h
 split at h
 ·obtain⟨v,rfl,r'⟩:=r.one_inv
  cases r' with
  | ref e hs=>cases h;exact⟨_,_,_,by simp only[ZeG,e,Option.map_some],Zem hs,fun a m=>(Zz7.mp m).imp (fun q=>Nat.le_of_eq q.symm) (Zz2 _),Zgk hs⟩
 ·obtain⟨v,rfl,r'⟩:=r.one_inv
  cases r' with
  | tup hs=>cases h;exact⟨_,_,_,by simp only[ZeG],Zem hs,fun a m=>(Zz7.mp m).imp (fun q=>Nat.le_of_eq q.symm) id,Zgk hs⟩
 ·cases h
end
end TM
end
section
namespace TM
open PySem PM
theorem St.from_src{c:Ctx}{O N:List Nat}{ρ:Lc}{σ:TL}{H:Hp}{Φ:Nat→List Nat}(s:St c O ρ σ H Φ){a:Nat}(f:From H N σ Φ a): c.H0.length≤a∨c.P a:=by
 rcases f with h | ⟨i,hi,⟨t,e⟩,m⟩
 ·exact .inl (Nat.le_trans s.len h)
 ·exact s.src i t e a m
theorem St.from_off{c:Ctx}{O N:List Nat}{ρ:Lc}{σ:TL}{H:Hp}{Φ:Nat→List Nat}(s:St c O ρ σ H Φ)(hN:∀i∈N,i∉O){a:Nat}(f:From H N σ Φ a){i:Nat}(hi:i∈O){t:T}(e:σ i=some t): a∉Φ i:=by
 intro m
 obtain⟨v,_,r⟩:=s.slot i t e
 have hl:=r.lt a m
 rcases f with h | ⟨j,hj,⟨t',e'⟩,m'⟩
 ·omega
 ·exact(s.own i hi t e).2.2 j t' (fun q=>hN j hj (q▸hi)) e' a m m'
noncomputable abbrev PPt:=TL→Option (Option Int)
noncomputable def Zdk: PPt:=fun _=>some none
noncomputable def Zdl(p:PE): PPt:=fun σ=>(p σ).bind fun t=>match t with
 | .int k=>some (some k)
 | _=>none
def Pe(O:List Nat)(f:Pt)(p:PPt): Prop:=∀(c:Ctx) (ρ:Lc) (σ:TL) (H:Hp) (Φ:Nat→List Nat) (k:Option Int),St c O ρ σ H Φ→p σ=some k→∃o X,f ρ H=some (o,H++X)∧Zh8 o=some k
section
variable {O N:List Nat} {u:Bool}
theorem Pe.none: Pe O PM.Zee Zdk:=fun c ρ σ H Φ k s h=>by
 cases h;exact⟨Option.none,[],by simp[PM.Zee],rfl⟩
theorem Pe.some{e:Ex}{p:PE}(x:E O N u e p): Pe O (Zef e) (Zdl p):=fun c ρ σ H Φ k s h=>by
 obtain⟨t,h1,h⟩:=Zz0.mp h
 obtain⟨v,X,F,a1,a2,a3,a4⟩:=x c ρ σ H Φ t s h1
 cases a2 <;> first | (cases h;done) | skip
 rename_i k'
 cases h
 exact⟨Option.some (.int k'),X,by simp only[Zef,a1,Option.map_some],rfl⟩
noncomputable def Zc7(p:PE)(lo hi:PPt): PE:=fun σ=>(p σ).bind fun t=>(lo σ).bind fun a=>(hi σ).bind fun b=>match t with
 | .lst ts=>Option.some (.lst (Zce ts a b))
 | _=>Option.none
theorem RFs.pick{H:Hp}{vs:List V}{ts:List T}{F:List Nat}(h:RFs H vs ts F)(l:List Nat): ∃G,RFs H (l.filterMap fun i=>vs[i]?) (l.filterMap fun i=>ts[i]?) G∧∀a∈G,a∈F:=by
 induction l with
 | nil=>exact⟨_,.nil,by simp⟩
 | cons i l ih=>
  obtain⟨G,h1,h2⟩:=ih
  simp only[List.filterMap_cons]
  have hl:=h.length
  cases e:ts[i]? with
  | none=>
   have:vs[i]?=none:=by rw[List.getElem?_eq_none_iff]at e ⊢;omega
   rw[this]
   exact⟨G,h1,h2⟩
  | some t=>
   obtain⟨x,G',hx,hr,hs⟩:=h.at e
   rw[hx]
   exact⟨_,.cons hr h1,fun a m=>(Zz8.mp m).elim (fun q=>hs.subset q) (h2 a)⟩
theorem Zvo{c:Ctx}{ρ:Lc}{σ:TL}{H:Hp}{Φ:Nat→List Nat}{t:T}{e:Ex}{p:PE}{lo hi:Pt}{plo phi:PPt}(x:E O N u e p)(y:Pe O lo plo)(z:Pe O hi phi)(s:St c O ρ σ H Φ)(h:Zc7 p plo phi σ=Option.some t):
  ∃v X F,ZdF e lo hi ρ H=Option.some (v,H++X)∧RF (H++X) v t F∧(∀a∈F,From H N σ Φ a)∧(t.flatIn=true→F.Nodup∧∀a∈F,H.length≤a):=by
 obtain⟨t1,h1,h⟩:=Zz0.mp h
 obtain⟨a,h2,h⟩:=Zz0.mp h
 obtain⟨b,h3,h⟩:=Zz0.mp h
 obtain⟨v,X,F,a1,a2,a3,a4⟩:=x c ρ σ H Φ t1 s h1
 obtain⟨o1,Y,b1,b2⟩:=y c ρ σ (H++X) Φ a (s.ext X) h2
 obtain⟨o2,Z,c1,c2⟩:=z c ρ σ (H++X++Y) Φ b ((s.ext X).ext Y) h3
 cases a2 with
 | none=>cases h
 | bool=>cases h
 | int=>cases h
 | str=>cases h
 | tup=>cases h
 | @ref i vs ts F e1 hs=>
 cases h
 have e3:((H++X)++(Y++Z))[i]?=Option.some vs:=by rw[List.getElem?_append_left (Zz6.mp e1).1];exact e1
 have hs':=hs.ext (Y++Z)
 have hlen:=hs.length
 obtain⟨G,g1,g2⟩:=hs'.pick (sliceRange (sliceBounds a b none vs.length).1 (sliceBounds a b none vs.length).2.1 (sliceBounds a b none vs.length).2.2)
 have g1':RFs (H++X++(Y++Z)) (Zce vs a b) (Zce ts a b) G:=by unfold Zce;rw[←hlen];exact g1
 refine⟨.ref (H++X++(Y++Z)).length,X++(Y++Z)++[Zce vs a b],(H++X++(Y++Z)).length::G,?_,?_,fun q m=>?_,fun hf=>?_⟩
 ·simp only[ZdF,a1,Option.bind_some,b1,c1,b2,c2]
  rw[List.append_assoc (H++X),e3]
  simp
 ·have:=Zem g1'
  simpa using this
 ·rcases Zz7.mp m with rfl | m
  ·exact .inl (by simp)
  ·exact a3 q (Zz2 _ (g2 q m))
 ·have:=Zgk g1' hf
  exact⟨this.1,fun q m=>by have:=this.2 q m;simp at this;omega⟩
theorem Zgx{e:Ex}{p:PE}{lo hi:Pt}{plo phi:PPt}(x:E O N u e p)(y:Pe O lo plo)(z:Pe O hi phi): E O N false (ZdF e lo hi) (Zc7 p plo phi):=fun c ρ σ H Φ t s h=>by
 obtain⟨v,X,F,a1,a2,a3,a4⟩:=Zvo x y z s h
 exact⟨v,X,F,a1,a2,a3,by simp⟩
noncomputable def ZeR(p:PE)(k:Nat): PE:=fun σ=>(p σ).bind fun t=>match t with
 | .lst ts=>Option.some (.lst (ts.drop k))
 | .tup ts=>if 1≤k∧k≤ts.length then Option.some (.tup (ts.drop k))else Option.none
 | _=>Option.none
theorem Zwf{c:Ctx}{ρ:Lc}{σ:TL}{H:Hp}{Φ:Nat→List Nat}{t:T}{e:Ex}{p:PE}{k:Nat}(x:E O N u e p)(s:St c O ρ σ H Φ)(h:ZeR p k σ=Option.some t):
  ∃v X F,Zeg e k ρ H=Option.some (v,H++X)∧RF (H++X) v t F∧(∀a∈F,From H N σ Φ a)∧(t.flatIn=true→F.Nodup∧∀a∈F,H.length≤a):=by
 obtain⟨t1,h1,h⟩:=Zz0.mp h
 obtain⟨v,X,F,a1,a2,a3,a4⟩:=x c ρ σ H Φ t1 s h1
 cases a2 with
 | none=>cases h
 | bool=>cases h
 | int=>cases h
 | str=>cases h
 | tup hs=>
  simp only at h
  split at h
  ·rename_i hc
   cases h
   obtain⟨G,g1,g2⟩:=hs.drop k
   refine⟨_,X,G,?_,.tup g1,fun a m=>a3 a (g2.subset m),fun hf=>?_⟩
   ·simp only[Zeg,a1,Option.bind_some]
    rw[if_pos (by rw[hs.length];exact hc)]
   ·rw[g1.flats (by simpa [T.flatIn,T.flat]using hf)]
    simp
  ·cases h
 | @ref b vs1 ts1 F1 e1 hs=>
  cases h
  obtain⟨G,g1,g2⟩:=hs.drop k
  refine⟨.ref (H++X).length,X++[vs1.drop k],(H++X).length::G,?_,?_,fun a m=>?_,fun hf=>?_⟩
  ·simp only[Zeg,a1,Option.bind_some,e1,List.append_assoc]
  ·rw[←List.append_assoc];exact Zem g1
  ·rcases Zz7.mp m with rfl | m
   ·exact .inl (by simp)
   ·exact a3 a (Zz2 _ (g2.subset m))
  ·have:=Zgk g1 hf
   exact⟨this.1,fun q m=>by have:=this.2 q m;simp at this;omega⟩
theorem Zke{e:Ex}{p:PE}{k:Nat}(x:E O N u e p): E O N false (Zeg e k) (ZeR p k):=fun c ρ σ H Φ t s h=>by
 obtain⟨v,X,F,a1,a2,a3,a4⟩:=Zwf x s h
 exact⟨v,X,F,a1,a2,a3,by simp⟩
end
def Gs(O N:List Nat)(g:Src)(q:PG): Prop:=∀(c:Ctx) (ρ:Lc) (σ:TL) (H:Hp) (Φ:Nat→List Nat) (ts:List T),St c O ρ σ H Φ→q σ=some ts →
 ∃(nx:Nx) (X:Hp) (vs:List V) (F G:List Nat),g ρ H=some (nx,ts.length+1,H++X)∧RFs (H++X) vs ts F∧(∀a∈F,a∈G)∧(∀a∈G,a<(H++X).length∧From H N σ Φ a)∧∀K:Hp,(∀a∈G,K[a]?=(H++X)[a]?)→∀i,i≤vs.length→nx i K=some vs[i]?
section
variable {O N M:List Nat} {u u':Bool}
noncomputable def Zbm(p:PE): PG:=fun σ=>(p σ).bind fun t=>match t with
 | .lst ts=>some ts
 | .tup ts=>some ts
 | _=>none
theorem Gs.seq{e:Ex}{p:PE}(x:E O N u e p): Gs O N (ZbA e) (Zbm p):=fun c ρ σ H Φ ts s h=>by
 obtain⟨t1,h1,h⟩:=Zz0.mp h
 obtain⟨v,X,F,a1,a2,a3,a4⟩:=x c ρ σ H Φ t1 s h1
 have hlt:=a2.lt
 cases a2 with
 | none=>cases h
 | bool=>cases h
 | int=>cases h
 | str=>cases h
 | @tup vs _ _ hs=>
  cases h
  exact⟨ZsN vs,X,vs,F,F,by simp only[ZbA,a1,Option.bind_some,hs.length],hs,fun _ m=>m,fun a m=>⟨hlt a m,a3 a m⟩,fun K _ i hi=>rfl⟩
 | @ref b vs _ F' e1 hs=>
  cases h
  refine⟨ZpA b,X,vs,F',b::F',by simp only[ZbA,a1,Option.bind_some,e1,Option.map_some,hs.length],hs,fun _ m=>List.mem_cons_of_mem _ m,fun a m=>⟨hlt a m,a3 a m⟩,fun K hK i hi=>?_⟩
  simp only[ZpA,hK b Zz5,e1,Option.map_some]
noncomputable def Zcu(a b c:Int): Option (List T):=if c≠0∧Builtin.Range.small a b c=true∧0≤Builtin.Range.rangeSize a b c∧rngN a b c≤LEN∧Builtin.divisionGoesByPylong (b-a) c=false then some ((List.range (rngN a b c)).map fun(i:Nat)=>.int (a+(i:Int)*c))else none
noncomputable def ZaN(p:PEs): PG:=fun σ=>(p σ).bind fun ts=>match ts with
 | [.int b]=>Zcu 0 b 1
 | [.int a,.int b]=>Zcu a b 1
 | [.int a,.int b,.int c]=>Zcu a b c
 | _=>none
theorem ZrE(H:Hp)(a c:Int): ∀(l:List Nat),RFs H (l.map fun(i:Nat)=>.int (a+(i:Int)*c)) (l.map fun(i:Nat)=>.int (a+(i:Int)*c)) []
 | []=>.nil
 | i::l=>by have:=RFs.cons (RF.int (H:=H) (a+i*c)) (ZrE H a c l);exact this
theorem Zoz{a b c:Int}{H:Hp}{ts:List T}(h:Zcu a b c=some ts): ∃(nx:Nx) (vs:List V),Zcy a b c H=some (nx,ts.length+1,H)∧RFs H vs ts []∧∀K:Hp,∀i,i≤vs.length→nx i K=some vs[i]?:=by
 unfold Zcu at h
 split at h
 ·rename_i hc
  cases h
  refine⟨Zfm a c (rngN a b c),(List.range (rngN a b c)).map fun(i:Nat)=>.int (a+(i:Int)*c),?_,ZrE H a c _,fun K i hi=>?_⟩
  ·unfold Zcy
   rw[if_pos hc]
   simp
  ·simp only[Zfm,List.getElem?_map]
   by_cases q:i<rngN a b c
   ·rw[if_pos q,List.getElem?_range q];rfl
   ·rw[if_neg q,List.getElem?_eq_none (by simpa using Nat.le_of_not_lt q)];rfl
 ·cases h
theorem RFs.three_inv{H:Hp}{vs:List V}{t t' t'':T}{F:List Nat}(r:RFs H vs [t,t',t''] F): ∃v v' v'' F1 F2 F3,vs=[v,v',v'']∧RF H v t F1∧RF H v' t' F2∧RF H v'' t'' F3:=by
 cases r with
 | cons a b=>obtain⟨v',v'',F2,F3,h1,h2,h3,_⟩:=b.two_inv;subst h1;exact⟨_,_,_,_,_,_,rfl,a,h2,h3⟩
theorem Gs.range{n:Nat}{e:Exs}{p:PEs}(x:Es O N u n e p): Gs O [] (Za1 e) (ZaN p):=fun c ρ σ H Φ ts s h=>by
 obtain⟨t1,h1,h⟩:=Zz0.mp h
 obtain⟨_,vs,X,F,a1,a2,a3,a4⟩:=x c ρ σ H Φ t1 s h1
 split at h
 ·obtain⟨v,rfl,r⟩:=a2.one_inv
  cases r
  obtain⟨nx,us,q1,q2,q3⟩:=Zoz (H:=H++X) h
  exact⟨nx,X,us,[],[],by simp only[Za1,a1,Option.bind_some,q1],q2,by simp,by simp,fun K _=>q3 K⟩
 ·obtain⟨v,v',F1,F2,rfl,r,r',_⟩:=a2.two_inv
  cases r;cases r'
  obtain⟨nx,us,q1,q2,q3⟩:=Zoz (H:=H++X) h
  exact⟨nx,X,us,[],[],by simp only[Za1,a1,Option.bind_some,q1],q2,by simp,by simp,fun K _=>q3 K⟩
 ·obtain⟨v,v',v'',F1,F2,F3,rfl,r,r',r''⟩:=a2.three_inv
  cases r;cases r';cases r''
  obtain⟨nx,us,q1,q2,q3⟩:=Zoz (H:=H++X) h
  exact⟨nx,X,us,[],[],by simp only[Za1,a1,Option.bind_some,q1],q2,by simp,by simp,fun K _=>q3 K⟩
 ·cases h
noncomputable def Zdc(p q:PE): PG:=fun σ=>(p σ).bind fun t=>(q σ).bind fun s=>match t,s with
 | .lst ts,.lst ss=>some (List.zipWith (fun x y=>.tup [x,y]) ts ss)
 | _,_=>none
theorem RFs.zip{H:Hp}: ∀{vs us:List V} {ts ss:List T} {F G:List Nat},RFs H vs ts F→RFs H us ss G→∃D,RFs H (List.zipWith (fun x y=>.tup [x,y]) vs us) (List.zipWith (fun x y=>.tup [x,y]) ts ss) D∧∀a∈D,a∈F∨a∈G
 | _,_,_,_,_,_,.nil,_=>⟨_,.nil,by simp⟩
 | _,_,_,_,_,_,.cons _ _,.nil=>⟨_,.nil,by simp⟩
 | _,_,_,_,_,_,.cons a b,.cons a' b'=>by
  obtain⟨D,h1,h2⟩:=b.zip b'
  refine⟨_,.cons (.tup (.cons a (.one a'))) h1,fun x m=>?_⟩
  rcases Zz8.mp m with m | m
  ·rcases Zz8.mp m with m | m
   ·exact .inl (Zz4 _ m)
   ·exact .inr (Zz4 _ m)
  ·exact(h2 x m).imp (Zz3 _) (Zz3 _)
theorem Gs.zip{e1 e2:Ex}{p1 p2:PE}(x:E O N u e1 p1)(y:E O M u' e2 p2): Gs O (N++M) (Zdb e1 e2) (Zdc p1 p2):=fun c ρ σ H Φ ts s h=>by
 obtain⟨t1,h1,h⟩:=Zz0.mp h
 obtain⟨t2,h2,h⟩:=Zz0.mp h
 obtain⟨v,X,F,a1,a2,a3,a4⟩:=x c ρ σ H Φ t1 s h1
 obtain⟨w,Y,G,b1,b2,b3,b4⟩:=y c ρ σ (H++X) Φ t2 (s.ext X) h2
 have a2:=a2.ext Y
 have l1:=a2.lt
 have l2:=b2.lt
 rw[List.append_assoc]at a2 b2 l1 l2 b1
 cases a2 with
 | none=>cases h
 | bool=>cases h
 | int=>cases h
 | str=>cases h
 | tup=>cases b2 <;> cases h
 | @ref a vs _ F' e1 hs=>
  cases b2 with
  | none=>cases h
  | bool=>cases h
  | int=>cases h
  | str=>cases h
  | tup=>cases h
  | @ref b us _ G' e2 hs2=>
   cases h
   obtain⟨D,d1,d2⟩:=hs.zip hs2
   refine⟨Zh9 a b,X++Y,_,D,a::b::D,?_,d1,fun q m=>List.mem_cons_of_mem _ (Zz2 _ m),fun q m=>?_,fun K hK i hi=>?_⟩
   ·simp only[Zdb,a1,Option.bind_some,b1,e1,e2,Option.map_some,List.length_zipWith,hs.length,hs2.length]
   ·rcases Zz7.mp m with rfl | m
    ·exact⟨l1 _ Zz5,(a3 _ Zz5).mono fun i hi=>List.mem_append_left _ hi⟩
    ·rcases Zz7.mp m with rfl | m
     ·exact⟨l2 _ Zz5,(b3 _ Zz5).back.mono fun i hi=>List.mem_append_right _ hi⟩
     ·rcases d2 q m with m | m
      ·exact⟨l1 _ (Zz2 _ m),(a3 _ (Zz2 _ m)).mono fun i hi=>List.mem_append_left _ hi⟩
      ·exact⟨l2 _ (Zz2 _ m),(b3 _ (Zz2 _ m)).back.mono fun i hi=>List.mem_append_right _ hi⟩
   ·simp only[Zh9,hK a Zz5,hK b (Zz2 _ Zz5),e1,e2,Option.bind_some,List.getElem?_zipWith]
    rw[List.length_zipWith]at hi
    by_cases q:i<min vs.length us.length
    ·rw[List.getElem?_eq_getElem (show i<vs.length by omega),List.getElem?_eq_getElem (show i<us.length by omega)]
    ·have q':i=min vs.length us.length:=by omega
     by_cases q2:i<vs.length
     ·rw[List.getElem?_eq_getElem q2,List.getElem?_eq_none (show us.length≤i by omega)]
      simp[q']
     ·rw[List.getElem?_eq_none (show vs.length≤i by omega)]
      simp[q']
end
def PutOk(O J:List Nat)(put:V→Lc→Option Lc)(q:T→TL→Option TL): Prop:=∀(c:Ctx) (ρ:Lc) (σ:TL) (H:Hp) (Φ:Nat→List Nat) (v:V) (t:T) (F:List Nat) (σ1:TL),St c O ρ σ H Φ→RF H v t F→(∀a∈F,c.H0.length≤a∨c.P a)→(∀i∈O,∀t',σ i=some t'→∀a∈Φ i,a∉F)→q t σ=some σ1 →
 ∃ρ1 Φ1,put v ρ=some ρ1∧St c O ρ1 σ1 H Φ1∧(∀i,i∉J→σ1 i=σ i∧Φ1 i=Φ i)∧∀i∈J,∀a∈Φ1 i,a∈F
noncomputable def Zao(Φ:Nat→List Nat)(j:Nat)(F:List Nat): Nat→List Nat:=fun i=>if i=j then F else Φ i
theorem St.put{c:Ctx}{O:List Nat}{ρ:Lc}{σ:TL}{H:Hp}{Φ:Nat→List Nat}{v:V}{t:T}{F:List Nat}{j:Nat}(s:St c O ρ σ H Φ)(hj:j∉O)(r:RF H v t F)(hs:∀a∈F,c.H0.length≤a∨c.P a)(ho:∀i∈O,∀t',σ i=some t'→∀a∈Φ i,a∉F): St c O (upd ρ j v) (Z7 σ j t) H (Zao Φ j F):=by
 refine⟨fun i u e=>?_,fun i u e=>?_,fun i hi u e=>?_,s.len,s.keep,s.pos,s.f0⟩
 ·by_cases q:i=j
  ·subst q
   simp[Z7]at e
   subst e
   exact⟨v,by simp[upd],by simpa [Zao]using r⟩
  ·simp[Z7,q]at e
   simpa [upd,Zao,q]using s.slot i u e
 ·by_cases q:i=j
  ·subst q;simpa [Zao]using hs
  ·simp[Z7,q]at e
   simpa [Zao,q]using s.src i u e
 ·have q:i≠j:=fun q=>hj (q▸hi)
  simp[Z7,q]at e
  obtain⟨h1,h2,h3⟩:=s.own i hi u e
  refine⟨by simpa [Zao,q]using h1,by simpa [Zao,q]using h2,fun k w hk ek=>?_⟩
  by_cases q2:k=j
  ·subst q2
   simpa [Zao,q]using ho i hi u e
  ·simp[Z7,q2]at ek
   simpa [Zao,q,q2]using h3 k w hk ek
noncomputable def Zam(j:Nat): T→TL→Option TL:=fun t σ=>some (Z7 σ j t)
noncomputable def Zcs(i j:Nat): T→TL→Option TL
 | .tup [a,b],σ=>some (Z7 (Z7 σ i a) j b)
 | _,_=>none
theorem PutOk.one{O:List Nat}{j:Nat}(hj:j∉O:=by decide): PutOk O [j] (put1 j) (Zam j):=fun c ρ σ H Φ v t F σ1 s r hs ho h=>by
 cases h
 refine⟨_,_,rfl,s.put hj r hs ho,fun i hi=>?_,fun i hi a m=>?_⟩
 ·have:i≠j:=fun q=>hi (by simp[q])
  simp[Z7,Zao,this]
 ·simp at hi;subst hi;simpa [Zao]using m
theorem PutOk.two{O:List Nat}{i j:Nat}(hi:i∉O:=by decide)(hj:j∉O:=by decide)(hij:i≠j:=by decide): PutOk O [i,j] (ZbY i j) (Zcs i j):=fun c ρ σ H Φ v t F σ1 s r hs ho h=>by
 unfold Zcs at h
 split at h
 ·cases h
  cases r with
  | tup hh=>
   obtain⟨v1,v2,F1,F2,rfl,r1,r2,rfl⟩:=hh.two_inv
   have s1:=s.put hi r1 (fun a m=>hs a (Zz4 _ m)) (fun k hk t' e a m q=>ho k hk t' e a m (Zz4 _ q))
   have s2:=s1.put hj r2 (fun a m=>hs a (Zz3 _ m)) (fun k hk t' e a m q=>by
    have:k≠i:=fun q=>hi (q▸hk)
    simp[Z7,Zao,this]at e m
    exact ho k hk t' e a m (Zz3 _ q))
   refine⟨_,_,rfl,s2,fun k hk=>?_,fun k hk a m=>?_⟩
   ·simp at hk
    simp[Z7,Zao,hk.1,hk.2]
   ·simp at hk
    rcases hk with rfl | rfl
    ·simp[Zao,hij]at m
     exact Zz4 _ m
    ·simp[Zao]at m
     exact Zz3 _ m
 ·cases h
noncomputable def ZcZ(put:T→TL→Option TL)(c:PB)(f:PE)(σ:TL): List T→Option (List T)
 | []=>some []
 | t::ts=>(put t σ).bind fun σ1=>(c σ1).bind fun b=>if b then(f σ1).bind fun x=>(ZcZ put c f σ ts).map fun xs=>x::xs else ZcZ put c f σ ts
noncomputable def Zax(g:PG)(put:T→TL→Option TL)(c:PB)(f:PE): PE:=fun σ=>(g σ).bind fun ts=>if ts.length≤LEN then(ZcZ put c f σ ts).map .lst else none
section
variable {O Ns Ne J:List Nat} {u:Bool}
theorem comp_core{put:V→Lc→Option Lc}{pput:T→TL→Option TL}{tc:Ts}{pc:PB}{f:Ex}{pf:PE}(hj:PutOk O J put pput)(hN:∀i∈Ns,i∉O)(hc:Bt O tc pc)(hf:E O Ne u f pf)(hu:u=true→Ne=[])
  {c:Ctx} {ρ:Lc} {σ:TL} {Φ:Nat→List Nat} {H0 H1:Hp} {nx:Nx} {vs:List V} {G:List Nat} (h0:H0.length≤H1.length)
  (hG:∀a∈G,a<H1.length∧From H0 Ns σ Φ a) (hoff:∀a∈G,∀i∈O,∀t,σ i=some t→a∉Φ i) (hsrc:∀a∈G,c.H0.length≤a∨c.P a) (hnx:∀K:Hp,(∀a∈G,K[a]?=H1[a]?)→∀i,i≤vs.length→nx i K=some vs[i]?):
  ∀(rs:List T) (ws:List V) (i:Nat) (acc:List V) (K:Hp) (Fr:List Nat) (out:List T),(∀j,vs[i+j]?=ws[j]?)→i+ws.length=vs.length→St c O ρ σ K Φ→H1.length≤K.length→(∀a∈G,K[a]?=H1[a]?)→RFs K ws rs Fr→(∀a∈Fr,a∈G)→acc.length+rs.length≤LEN→ZcZ pput pc pf σ rs=some out →
   ∃xs X F,ZcX nx put tc f ρ (rs.length+1) i acc K=some (acc++xs,K++X)∧RFs (K++X) xs out F∧(∀a∈F,(u=true→K.length≤a)∧From H0 (Ns++Ne) σ Φ a)∧(u=true→F.Nodup)
 | [],ws,i,acc,K,Fr,out,hat,hlen,s,hl,hk,r,hfr,hacc,h=>by
  cases r
  cases h
  have e:=hnx K hk i (by simp at hlen;omega)
  have e2:vs[i]?=none:=by have:=hat 0;simpa using this
  refine⟨[],[],[],?_,.nil,by simp,by simp⟩
  simp[ZcX,e,e2]
 | t::rs,ws0,i,acc,K,Fr0,out,hat,hlen,s,hl,hk,r,hfr,hacc,h=>by
  cases r with
  | @cons v _ F1 ws _ F2 a b=>
  simp only[List.length_cons]at hlen hacc
  obtain⟨σ1,h1,h⟩:=Zz0.mp h
  obtain⟨bb,h2,h⟩:=Zz0.mp h
  have e:=hnx K hk i (by omega)
  have e2:vs[i]?=some v:=by have:=hat 0;simpa using this
  have hat':∀j,vs[i+1+j]?=ws[j]?:=fun j=>by have:=hat (j+1);rw[show i+1+j=i+(j+1)by omega,this];simp
  obtain⟨ρ1,Φ1,p1,s1,p3,p4⟩:=hj c ρ σ K Φ v t F1 σ1 s a (fun x m=>hsrc x (hfr x (Zz4 _ m))) (fun k hk t' e x m q=>hoff x (hfr x (Zz4 _ q)) k hk t' e m) h1
  obtain⟨X1,c1⟩:=hc c ρ1 σ1 K Φ1 bb s1 h2
  cases bb with
  | true=>
   obtain⟨y,h3,h⟩:=Zz0.mp h
   obtain⟨ys,h4,h⟩:=Zz1.mp h
   subst h
   obtain⟨w,X2,Fw,d1,d2,d3,d4⟩:=hf c ρ1 σ1 (K++X1) Φ1 y (s1.ext X1) h3
   have hext:∀a∈G,(K++X1++X2)[a]?=H1[a]?:=fun a m=>by
    have:=(hG a m).1
    rw[List.append_assoc,List.getElem?_append_left (by omega)];exact hk a m
   obtain⟨xs,X3,F3,f1,f2,f3,f4⟩:=comp_core hj hN hc hf hu h0 hG hoff hsrc hnx rs ws (i+1) (acc++[w]) (K++X1++X2) F2 ys hat' (by omega) ((s.ext X1).ext X2) (by simp;omega) hext (by rw[List.append_assoc];exact b.ext _) (fun x m=>hfr x (Zz3 _ m)) (by simp;omega) h4
   refine⟨w::xs,X1++X2++X3,Fw++F3,?_,?_,fun x m=>?_,fun hu'=>?_⟩
   ·rw[List.length_cons,ZcX,e,e2]
    simp only[Option.bind_some,p1,c1,d1,if_true]
    rw[if_pos (by omega)]
    simpa using f1
   ·have:=RFs.cons (d2.ext X3) f2
    simpa using this
   ·rcases Zz8.mp m with m | m
    ·refine⟨fun hu'=>?_,?_⟩
     ·have hne:=hu hu'
      subst hne
      have:=(d3 x m).nil
      simp at this;omega
     ·rcases d3 x m with q | ⟨k,hk1,⟨tk,ek⟩,mk⟩
      ·exact .inl (by simp at q;omega)
      ·by_cases hkJ:k∈J
       ·exact(hG x (hfr x (Zz4 _ (p4 k hkJ x mk)))).2.mono fun i hi=>List.mem_append_left _ hi
       ·obtain⟨q1,q2⟩:=p3 k hkJ
        exact .inr ⟨k,List.mem_append_right _ hk1,⟨tk,q1▸ek⟩,q2▸mk⟩
    ·obtain⟨g1,g2⟩:=f3 x m
     exact⟨fun hu'=>by have:=g1 hu';simp at this;omega,g2⟩
   ·rw[List.nodup_append]
    refine⟨d4 hu',f4 hu',fun x hx y hy e=>?_⟩
    have l1:=d2.lt x hx
    have l2:=(f3 y hy).1 hu'
    omega
  | false=>
   have hext:∀a∈G,(K++X1)[a]?=H1[a]?:=fun a m=>by
    have:=(hG a m).1
    rw[List.getElem?_append_left (by omega)];exact hk a m
   obtain⟨xs,X3,F3,f1,f2,f3,f4⟩:=comp_core hj hN hc hf hu h0 hG hoff hsrc hnx rs ws (i+1) acc (K++X1) F2 out hat' (by omega) (s.ext X1) (by simp;omega) hext (b.ext _) (fun x m=>hfr x (Zz3 _ m)) (by omega) (by simpa using h)
   refine⟨xs,X1++X3,F3,?_,by simpa using f2,fun x m=>?_,f4⟩
   ·rw[List.length_cons,ZcX,e,e2]
    simp only[Option.bind_some,p1,c1]
    simpa using f1
   ·obtain⟨g1,g2⟩:=f3 x m
    exact⟨fun hu'=>by have:=g1 hu';simp at this;omega,g2⟩
theorem ZsQ{g:Src}{q:PG}{put:V→Lc→Option Lc}{pput:T→TL→Option TL}{tc:Ts}{pc:PB}{f:Ex}{pf:PE}(hg:Gs O Ns g q)(hj:PutOk O J put pput)(hN:∀i∈Ns,i∉O)(hc:Bt O tc pc)(hf:E O Ne u f pf)(hu:u=true→Ne=[]): E O (if u then []else Ns++Ne) u (ZaB g put tc f) (Zax q pput pc pf):=fun c ρ σ H Φ t s h=>by
 obtain⟨ts,h1,h⟩:=Zz0.mp h
 split at h
 ·rename_i hl
  obtain⟨out,h2,h⟩:=Zz1.mp h
  subst h
  obtain⟨nx,X,vs,F,G,g1,g2,g3,g4,g5⟩:=hg c ρ σ H Φ ts s h1
  obtain⟨xs,Y,F',d1,d2,d3,d4⟩:=comp_core hj hN hc hf hu (H0:=H) (H1:=H++X) (by simp) g4 (fun a m i hi t e=>s.from_off hN (g4 a m).2 hi e) (fun a m=>s.from_src (g4 a m).2) g5 ts vs 0 [] (H++X) F out (by simp) (by simp) (s.ext X) (Zz10 _) (fun _ _=>rfl) g2 g3 (by simpa using hl) h2
  refine⟨.ref (H++X++Y).length,X++Y++[xs],(H++X++Y).length::F',?_,?_,fun a m=>?_,fun hu'=>?_⟩
  ·simp only[ZaB,g1,Option.bind_some,d1,Option.map_some,List.nil_append,List.append_assoc]
  ·have:=Zem d2
   simpa using this
  ·rcases Zz7.mp m with rfl | m
   ·exact .inl (by simp)
   ·obtain⟨q1,q2⟩:=d3 a m
    cases u with
    | true=>exact .inl (by have:=q1 rfl;simp at this;omega)
    | false=>exact q2
  ·rw[List.nodup_cons]
   exact⟨fun m=>Nat.lt_irrefl _ (d2.lt _ m),d4 hu'⟩
 ·cases h
end
end TM
end
section
namespace TM
open PySem PM
noncomputable abbrev PS:=TL→Option (Option T×TL)
noncomputable def ZcJ(σ:TL)(N:List Nat): TL:=fun j=>if j∈N then none else σ j
def Zc0(O:List Nat)(σ:TL)(Φ:Nat→List Nat)(a:Nat): Prop:=∃j∈O,(∃t,σ j=some t)∧a∈Φ j
def Aft(c:Ctx)(O O' R:List Nat)(fr:Bool)(σ:TL)(H:Hp)(Φ:Nat→List Nat)(g:Option (Option V×Lc×Hp))(r:Option T×TL): Prop:=
 ∃ρ' H' Φ',H.length≤H'.length∧(∀a,a<H.length→¬Zc0 O σ Φ a→H'[a]?=H[a]?) ∧
  ((r.1=none∧g=some (none,ρ',H')∧St c O' ρ' r.2 H' Φ'∧∀a,Zc0 O' r.2 Φ' a→H.length≤a∨Zc0 O σ Φ a) ∨
  ∃t v F,r.1=some t∧g=some (some v,ρ',H')∧RF H' v t F∧St c R ρ' r.2 H' Φ'∧(∀a∈F,c.H0.length≤a∨c.P a)∧(fr=true→F.Nodup∧∀a∈F,c.H0.length≤a∨a∈c.F0))
def S(O O' R:List Nat)(fr:Bool)(g:Sm)(q:PS): Prop:=∀(c:Ctx) (ρ:Lc) (σ:TL) (H:Hp) (Φ:Nat→List Nat) (r:Option T×TL),St c O ρ σ H Φ→q σ=some r→Aft c O O' R fr σ H Φ (g ρ H) r
section
variable {O O' R:List Nat} {fr:Bool}
noncomputable def ZX: PS:=fun σ=>some (none,σ)
theorem Z4: S O O R fr ZW ZX:=fun c ρ σ H Φ r s e=>by
 cases e
 exact⟨ρ,H,Φ,Nat.le_refl _,fun _ _ _=>rfl,.inl ⟨rfl,rfl,s,fun a m=>.inr m⟩⟩
noncomputable def Zw(a b:PS): PS:=fun σ=>(a σ).bind fun r=>match r.1 with
 | some _=>some r
 | none=>b r.2
theorem Zz{O1:List Nat}{a b:Sm}{p q:PS}(x:S O O1 R fr a p)(y:S O1 O' R fr b q): S O O' R fr (Zt a b) (Zw p q):=fun c ρ σ H Φ r s e=>by
 obtain⟨r1,e1,e⟩:=Zz0.mp e
 obtain⟨ρ1,H1,Φ1,h1,h2,h3⟩:=x c ρ σ H Φ r1 s e1
 rcases h3 with⟨k1,k2,k3,k4⟩ | ⟨t,v,F,k1,k2,k3⟩
 ·rw[k1]at e
  obtain⟨ρ2,H2,Φ2,g1,g2,g3⟩:=y c ρ1 r1.2 H1 Φ1 r k3 e
  refine⟨ρ2,H2,Φ2,Nat.le_trans h1 g1,fun a ha hn=>?_,?_⟩
  ·rw[g2 a (by omega) fun q=>(k4 a q).elim (fun q=>by omega) hn,h2 a ha hn]
  ·have eg:Zt a b ρ H=b ρ1 H1:=by simp only[Zt,k2,Option.bind_some]
   rw[eg]
   rcases g3 with⟨l1,l2,l3,l4⟩ | l
   ·refine .inl ⟨l1,l2,l3,fun a m=>?_⟩
    rcases l4 a m with q | q
    ·exact .inl (by omega)
    ·exact k4 a q
   ·exact .inr l
 ·rw[k1]at e
  cases e
  exact⟨ρ1,H1,Φ1,h1,h2,.inr ⟨t,v,F,k1,by simp only[Zt,k2,Option.bind_some],k3⟩⟩
noncomputable def ZF(p:PE): PS:=fun σ=>(p σ).map fun t=>(some t,σ)
theorem ZQ{N:List Nat}{u:Bool}{e:Ex}{p:PE}(x:E O N u e p)(hR:∀i∈R,i∈O:=by decide): S O O' R false (ZD e) (ZF p):=fun c ρ σ H Φ r s q=>by
 obtain⟨t,h1,h⟩:=Zz1.mp q
 subst h
 obtain⟨v,X,F,a1,a2,a3,a4⟩:=x c ρ σ H Φ t s h1
 refine⟨ρ,H++X,Φ,by simp,fun a ha _=>List.getElem?_append_left ha,.inr ⟨t,v,F,rfl,by simp only[ZD,a1,Option.map_some],a2,(s.ext X).less hR,fun a m=>s.from_src (a3 a m),by simp⟩⟩
theorem Zas{N:List Nat}{e:Ex}{p:PE}(x:E O N true e p)(hN:∀i∈N,i∈O:=by decide)(hR:∀i∈R,i∈O:=by decide): S O O' R fr (ZD e) (ZF p):=fun c ρ σ H Φ r s q=>by
 obtain⟨t,h1,h⟩:=Zz1.mp q
 subst h
 obtain⟨v,X,F,a1,a2,a3,a4⟩:=x c ρ σ H Φ t s h1
 refine⟨ρ,H++X,Φ,by simp,fun a ha _=>List.getElem?_append_left ha,.inr ⟨t,v,F,rfl,by simp only[ZD,a1,Option.map_some],a2,(s.ext X).less hR,fun a m=>s.from_src (a3 a m),fun _=>⟨a4 rfl,fun a m=>?_⟩⟩⟩
 rcases a3 a m with q | ⟨i,hi,⟨t',e'⟩,m'⟩
 ·exact .inl (Nat.le_trans s.len q)
 ·exact(s.own i (hN i hi) t' e').2.1 a m'
noncomputable def ZR(i:Nat)(p:PE): PS:=fun σ=>(p σ).map fun t=>(none,Z7 σ i t)
theorem Z5{N:List Nat}{u:Bool}{i:Nat}{e:Ex}{p:PE}(x:E O N u e p)(hi:i∉O':=by decide)(hN:∀j∈N,j∉O':=by decide)(hO:∀j∈O',j∈O:=by decide): S O O' R fr (ZN i e) (ZR i p):=fun c ρ σ H Φ r s q=>by
 obtain⟨t,h1,h⟩:=Zz1.mp q
 subst h
 obtain⟨v,X,F,a1,a2,a3,a4⟩:=x c ρ σ H Φ t s h1
 have s':=s.less hO
 refine⟨upd ρ i v,H++X,Zao Φ i F,by simp,fun a ha _=>List.getElem?_append_left ha,.inl ⟨rfl,by simp only[ZN,a1,Option.map_some],(s'.ext X).put hi a2 (fun a m=>s.from_src (a3 a m)) (fun k hk t' e' a m q=>?_),fun a m=>?_⟩⟩
 ·exact s'.from_off hN (a3 a q) hk e' m
 ·obtain⟨k,hk,⟨t',e'⟩,m⟩:=m
  have:k≠i:=fun q=>hi (q▸hk)
  simp[Z7,this]at e'
  simp[Zao,this]at m
  exact .inr ⟨k,hO k hk,⟨t',e'⟩,m⟩
theorem Zcc{i:Nat}{e:Ex}{p:PE}(x:E O [] true e p)(hO:∀j∈O',j∈O∨j=i:=by decide): S O O' R fr (ZN i e) (ZR i p):=fun c ρ σ H Φ r s q=>by
 obtain⟨t,h1,h⟩:=Zz1.mp q
 subst h
 obtain⟨v,X,F,a1,a2,a3,a4⟩:=x c ρ σ H Φ t s h1
 have hnew:∀a∈F,H.length≤a:=fun a m=>(a3 a m).nil
 have hold:∀k t',σ k=some t'→∀a∈Φ k,a<H.length:=fun k t' e a m=>by
  obtain⟨_,_,r⟩:=s.slot k t' e
  exact r.lt a m
 refine⟨upd ρ i v,H++X,Zao Φ i F,by simp,fun a ha _=>List.getElem?_append_left ha,.inl ⟨rfl,by simp only[ZN,a1,Option.map_some],⟨fun k t' e'=>?_,fun k t' e'=>?_,fun k hk t' e'=>?_,(s.ext X).len,(s.ext X).keep,s.pos,s.f0⟩,fun a m=>?_⟩⟩
 ·by_cases q:k=i
  ·subst q
   simp[Z7]at e'
   subst e'
   exact⟨v,by simp[upd],by simpa [Zao]using a2⟩
  ·simp[Z7,q]at e'
   simpa [upd,Zao,q]using (s.ext X).slot k t' e'
 ·by_cases q:k=i
  ·subst q;simpa [Zao]using fun a m=>s.from_src (a3 a m)
  ·simp[Z7,q]at e'
   simpa [Zao,q]using s.src k t' e'
 ·by_cases q:k=i
  ·subst q
   simp only[Zao,if_true]
   refine⟨a4 rfl,fun a m=>.inl (Nat.le_trans s.len (hnew a m)),fun j w hj ej a m q=>?_⟩
   simp[Z7,hj]at ej
   rw[if_neg hj]at q
   have:=hold j w ej a q
   have:=hnew a m
   omega
  ·have hk':=(hO k hk).resolve_right q
   simp[Z7,q]at e'
   obtain⟨o1,o2,o3⟩:=s.own k hk' t' e'
   refine⟨by simpa [Zao,q]using o1,by simpa [Zao,q]using o2,fun j w hj ej a m=>?_⟩
   simp[Zao,q]at m
   by_cases q2:j=i
   ·subst q2
    simp only[Zao,if_true]
    intro m2
    have:=hold k t' e' a m
    have:=hnew a m2
    omega
   ·simp[Z7,q2]at ej
    simpa [Zao,q2]using o3 j w hj ej a m
 ·obtain⟨k,hk,⟨t',e'⟩,m⟩:=m
  by_cases q:k=i
  ·subst q
   simp[Zao]at m
   exact .inl (hnew a m)
  ·simp[Z7,q]at e'
   simp[Zao,q]at m
   exact .inr ⟨k,(hO k hk).resolve_right q,⟨t',e'⟩,m⟩
noncomputable def ZV(b:PB)(p q:PS): PS:=fun σ=>(b σ).bind fun x=>if x then p σ else q σ
theorem Aft.grow{c:Ctx}{σ:TL}{H X:Hp}{Φ:Nat→List Nat}{g:Option (Option V×Lc×Hp)}{r:Option T×TL}(h:Aft c O O' R fr σ (H++X) Φ g r): Aft c O O' R fr σ H Φ g r:=by
 obtain⟨ρ',H',Φ',h1,h2,h3⟩:=h
 rw[List.length_append]at h1
 refine⟨ρ',H',Φ',by omega,fun a ha hn=>?_,?_⟩
 ·rw[h2 a (by rw[List.length_append];omega) hn,List.getElem?_append_left ha]
 ·rcases h3 with⟨k1,k2,k3,k4⟩ | k
  ·exact .inl ⟨k1,k2,k3,fun a m=>(k4 a m).imp (fun q=>by rw[List.length_append]at q;omega) id⟩
  ·exact .inr k
theorem Z6{t:Ts}{pb:PB}{a b:Sm}{p q:PS}(z:Bt O t pb)(x:S O O' R fr a p)(y:S O O' R fr b q): S O O' R fr (ZU t a b) (ZV pb p q):=fun c ρ σ H Φ r s e=>by
 obtain⟨bb,e1,e⟩:=Zz0.mp e
 obtain⟨X,h1⟩:=z c ρ σ H Φ bb s e1
 cases bb with
 | true=>
  have:=x c ρ σ (H++X) Φ r (s.ext X) (by simpa using e)
  have eg:ZU t a b ρ H=a ρ (H++X):=by simp[ZU,h1]
  rw[eg]
  exact this.grow
 | false=>
  have:=y c ρ σ (H++X) Φ r (s.ext X) (by simpa using e)
  have eg:ZU t a b ρ H=b ρ (H++X):=by simp[ZU,h1]
  rw[eg]
  exact this.grow
noncomputable def qNo: PS:=fun _=>none
noncomputable def sNo: Sm:=fun _ _=>none
theorem ZA9{g:Sm}: S O O' R fr g qNo:=fun c ρ σ H Φ r s q=>by cases q
noncomputable def follow(H:Hp): List Int→V→Option V
 | [],v=>some v
 | k::ks,v=>(Zu v (.int k) H).bind fun q=>follow H ks q.1
theorem Lead.follow{H:Hp}{ks:List Int}{v:V}{a:Nat}(l:Lead H ks v a): follow H ks v=some (.ref a):=by
 induction l with
 | nil=>rfl
 | ref h1 h2 h3 _ ih=>simp only[TM.follow,Zu,h1,Option.bind_some,h2,h3,Option.map_some,ih]
 | tup h2 h3 _ ih=>simp only[TM.follow,Zu,Option.bind_some,h2,h3,Option.map_some,ih]
theorem ZnW{H:Hp}{v w z:V}{K:Hp}(h:Zu v z H=some (w,K))(X:Hp): K=H∧Zu v z (H++X)=some (w,H++X):=by
 unfold Zu at h
 split at h
 ·obtain⟨vs,e1,h⟩:=Zz0.mp h
  obtain⟨j,e2,h⟩:=Zz0.mp h
  obtain⟨x,e3,h⟩:=Zz1.mp h
  cases h
  exact⟨rfl,by simp only[Zu,List.getElem?_append_left (Zz6.mp e1).1,e1,Option.bind_some,e2,e3,Option.map_some]⟩
 ·obtain⟨j,e2,h⟩:=Zz0.mp h
  obtain⟨x,e3,h⟩:=Zz1.mp h
  cases h
  exact⟨rfl,by simp only[Zu,Option.bind_some,e2,e3,Option.map_some]⟩
 ·cases h
theorem ZqN{H:Hp}{k:Int}: ∀{ks:List Int} {v:V},follow H (ks++[k]) v=(follow H ks v).bind fun w=>(Zu w (.int k) H).map (·.1)
 | [],v=>by
  simp only[List.nil_append,follow,Option.bind_some]
  cases Zu v (.int k) H <;> rfl
 | j::ks,v=>by
  simp only[List.cons_append,follow]
  cases Zu v (.int j) H with
  | none=>rfl
  | some q=>simp only[Option.bind_some];exact ZqN
noncomputable abbrev PPa:=TL→Option (List Int)
noncomputable def ZaQ: PPa:=fun _=>some []
noncomputable def ZcU(p:PPa)(i:PE): PPa:=fun σ=>(p σ).bind fun ks=>(i σ).bind fun t=>match t with
 | .int k=>some (ks++[k])
 | _=>none
def Pa(O:List Nat)(x:Nat)(e:Ex)(p:PPa): Prop:=∀(c:Ctx) (ρ:Lc) (σ:TL) (H:Hp) (Φ:Nat→List Nat) (ks:List Int) (v w:V),St c O ρ σ H Φ→p σ=some ks→ρ x=some v→follow H ks v=some w→∃X,e ρ H=some (w,H++X)
theorem ZbS{x:Nat}: Pa O x (Za x) ZaQ:=fun c ρ σ H Φ ks v w s h e f=>by
 cases h;cases f
 exact⟨[],by simp[Za,e]⟩
theorem Zfx{x:Nat}{N:List Nat}{u:Bool}{e i:Ex}{p:PPa}{pi:PE}(y:Pa O x e p)(z:E O N u i pi): Pa O x (Zg Zu e i) (ZcU p pi):=fun c ρ σ H Φ ks v w s h ev f=>by
 obtain⟨ks0,h1,h⟩:=Zz0.mp h
 obtain⟨t,h2,h⟩:=Zz0.mp h
 cases t <;> first | (cases h;done) | skip
 rename_i k
 cases h
 rw[ZqN]at f
 obtain⟨w0,f1,f⟩:=Zz0.mp f
 obtain⟨⟨w1,K⟩,f2,f⟩:=Zz1.mp f
 cases f
 obtain⟨X,a1⟩:=y c ρ σ H Φ ks0 v w0 s h1 ev f1
 obtain⟨vi,Y,F,b1,b2,b3,b4⟩:=z c ρ σ (H++X) Φ _ (s.ext X) h2
 cases b2
 refine⟨X++Y,?_⟩
 simp only[Zg,a1,Option.bind_some,b1]
 have:=(ZnW f2 (X++Y)).2
 rw[List.append_assoc]
 exact this
theorem ZsR{c:Ctx}{ρ:Lc}{σ:TL}{H:Hp}{Φ:Nat→List Nat}{N:List Nat}{x a b:Nat}{t t':T}{v:V}{Fw F':List Nat}{vs':List V}(s:St c O ρ σ H Φ)(hx:x∈O)(ex:σ x=some t)(ev:ρ x=some v)(hb:c.H0.length≤b)(hlow:∀k t,σ k=some t→∀a∈Φ k,a<b)
  (hFw:∀a∈Fw,b≤a∨∃j∈N,(∃t,σ j=some t)∧a∈Φ j) (hN:∀j∈N,j∈O∧j≠x) (ha:a∈Φ x) (r:RF (H.set a vs') v t' F') (nd:F'.Nodup) (sub:∀y∈F',y∈Φ x∨y∈Fw) (hO:∀j∈O',j∈O∧j∉N):
  St c O' ρ (ZcJ (Z7 σ x t') N) (H.set a vs') (Zao Φ x F')∧(∀y,Zc0 O' (ZcJ (Z7 σ x t') N) (Zao Φ x F') y→b≤y∨Zc0 O σ Φ y):=by
 obtain⟨o1,o2,o3⟩:=s.own x hx t ex
 have old:∀k u,k≠x→ZcJ (Z7 σ x t') N k=some u→σ k=some u∧k∉N:=fun k u hk e=>by
  unfold ZcJ at e
  split at e
  ·cases e
  ·rename_i hn
   simp[Z7,hk]at e
   exact⟨e,hn⟩
 have self:∀u,ZcJ (Z7 σ x t') N x=some u→u=t':=fun u e=>by
  unfold ZcJ at e
  split at e
  ·cases e
  ·simp[Z7]at e;exact e.symm
 have foff:∀y∈F',∀k u,k≠x→σ k=some u→k∉N→y∉Φ k:=fun y hy k u hk e hkn m=>by
  rcases sub y hy with q | q
  ·exact o3 k u hk e y q m
  ·rcases hFw y q with q | ⟨j,hj,⟨tj,ej⟩,mj⟩
   ·have:=hlow k u e y m;omega
   ·exact(s.own j (hN j hj).1 tj ej).2.2 k u (fun q=>hkn (q▸hj)) e y mj m
 refine⟨⟨fun k u e=>?_,fun k u e=>?_,fun k hk u e=>?_,by simpa using s.len,fun y hy hn=>?_,s.pos,s.f0⟩,fun y hy=>?_⟩
 ·by_cases q:k=x
  ·subst q
   have:=self u e
   subst this
   exact⟨v,ev,by simpa [Zao]using r⟩
  ·obtain⟨e1,e2⟩:=old k u q e
   obtain⟨w,h1,h2⟩:=s.slot k u e1
   refine⟨w,h1,?_⟩
   simp only[Zao,q,if_false]
   refine h2.frame fun y hy=>List.getElem?_set_ne fun q'=>?_
   exact o3 k u q e1 a ha (q'▸hy)
 ·by_cases q:k=x
  ·subst q
   simp only[Zao,if_true]
   intro y hy
   rcases sub y hy with q | q
   ·exact s.src k t ex y q
   ·rcases hFw y q with q | ⟨j,hj,⟨tj,ej⟩,mj⟩
    ·exact .inl (by omega)
    ·exact s.src j tj ej y mj
  ·obtain⟨e1,e2⟩:=old k u q e
   simpa [Zao,q]using s.src k u e1
 ·by_cases q:k=x
  ·subst q
   simp only[Zao,if_true]
   refine⟨nd,fun y hy=>?_,fun j w hj ej y hy=>?_⟩
   ·rcases sub y hy with q | q
    ·exact o2 y q
    ·rcases hFw y q with q | ⟨j,hj,⟨tj,ej⟩,mj⟩
     ·exact .inl (by omega)
     ·exact(s.own j (hN j hj).1 tj ej).2.1 y mj
   ·obtain⟨e1,e2⟩:=old j w hj ej
    simpa [hj]using foff y hy j w hj e1 e2
  ·obtain⟨e1,e2⟩:=old k u q e
   obtain⟨p1,p2,p3⟩:=s.own k (hO k hk).1 u e1
   simp only[Zao,q,if_false]
   refine⟨p1,p2,fun j w hj ej y hy=>?_⟩
   by_cases q2:j=x
   ·subst q2
    simp only[if_true]
    exact fun m=>foff y m k u q e1 e2 hy
   ·obtain⟨f1,f2⟩:=old j w q2 ej
    simpa [q2]using p3 j w hj f1 y hy
 ·have:a≠y:=fun q=>by
   subst q
   rcases o2 a ha with q | q
   ·omega
   ·exact hn q
  rw[List.getElem?_set_ne this]
  exact s.keep y hy hn
 ·obtain⟨k,hk,⟨u,e⟩,m⟩:=hy
  by_cases q:k=x
  ·subst q
   simp only[Zao,if_true]at m
   rcases sub y m with q | q
   ·exact .inr ⟨k,hx,⟨t,ex⟩,q⟩
   ·rcases hFw y q with q | ⟨j,hj,q⟩
    ·exact .inl q
    ·exact .inr ⟨j,(hN j hj).1,q⟩
  ·obtain⟨e1,e2⟩:=old k u q e
   simp only[Zao,q,if_false]at m
   exact .inr ⟨k,(hO k hk).1,⟨u,e1⟩,m⟩
theorem Zpa{c:Ctx}{ρ:Lc}{σ:TL}{H:Hp}{Φ:Nat→List Nat}{x a:Nat}{t:T}(s:St c O ρ σ H Φ)(hx:x∈O)(ex:σ x=some t)(ha:a∈Φ x): a≠0:=by
 have:=s.pos
 rcases(s.own x hx t ex).2.1 a ha with q | q
 ·omega
 ·exact fun e=>s.f0 (e▸q)
noncomputable def ZkN(w:T)(ts:List T): Option (List T):=if ts.length<LEN then some (ts++[w])else none
noncomputable def ZgQ(k:Int)(w:T)(ts:List T): Option (List T):=if 0≤k∧k<ts.length then some (ts.set k.toNat w)else none
noncomputable def Zen(x:Nat)(N:List Nat)(po:PPa)(p:PE): PS:=fun σ=>(po σ).bind fun ks=>(p σ).bind fun w=>(σ x).bind fun t=>(Zdr (ZkN w) ks t).map fun t'=>(none,ZcJ (Z7 σ x t') N)
noncomputable def Zbi(x:Nat)(N:List Nat)(p:PE)(po:PPa)(pi:PE): PS:=fun σ=>(p σ).bind fun w=>(po σ).bind fun ks=>(pi σ).bind fun k=>match k with
 | .int k=>(σ x).bind fun t=>(Zdr (ZgQ k w) ks t).map fun t'=>(none,ZcJ (Z7 σ x t') N)
 | _=>none
theorem Zhi{H:Hp}(X:Hp): ∀{ks:List Int} {v w:V},follow H ks v=some w→follow (H++X) ks v=some w
 | [],_,_,h=>h
 | k::ks,v,w,h=>by
  obtain⟨⟨w1,K⟩,h1,h2⟩:=Zz0.mp h
  simp only[follow,(ZnW h1 X).2,Option.bind_some]
  exact Zhi X h2
theorem Zkz{x:Nat}{N:List Nat}{o e:Ex}{po:PPa}{p:PE}(hx:x∈O)(y:Pa O x o po)(z:E O N true e p)(hN:∀j∈N,j∈O∧j≠x)(hO:∀j∈O',j∈O∧j∉N): S O O' R fr (Zb8 (Zfl o e)) (Zen x N po p):=fun c ρ σ H Φ r s q=>by
 obtain⟨ks,h1,q⟩:=Zz0.mp q
 obtain⟨w,h2,q⟩:=Zz0.mp q
 obtain⟨t,h3,q⟩:=Zz0.mp q
 obtain⟨t',h4,q⟩:=Zz1.mp q
 subst q
 obtain⟨v,ev,rv⟩:=s.slot x t h3
 have hlow:∀k t,σ k=some t→∀a∈Φ k,a<H.length:=fun k t e a m=>by
  obtain⟨_,_,r⟩:=s.slot k t e
  exact r.lt a m
 obtain⟨o1,o2,o3⟩:=s.own x hx t h3
 obtain⟨a,vs0,ts0,ts0',G0,l0,_⟩:=ZgD (Gn:=[]) ks rv o1 (by simp) h4
 obtain⟨X,a1⟩:=y c ρ σ H Φ ks v (.ref a) s h1 ev l0.follow
 obtain⟨vw,Y,Fw,b1,b2,b3,b4⟩:=z c ρ σ (H++X) Φ w (s.ext X) h2
 have s2:=(s.ext X).ext Y
 have rv2:RF (H++X++Y) v t (Φ x):=(rv.ext X).ext Y
 have hFw:∀a∈Fw,H.length≤a∨∃j∈N,(∃t,σ j=some t)∧a∈Φ j:=fun a m=>(b3 a m).back
 have dsj:∀a∈Fw,a∉Φ x:=fun a m q=>by
  rcases hFw a m with h | ⟨j,hj,⟨tj,ej⟩,mj⟩
  ·have:=hlow x t h3 a q;omega
  ·exact o3 j tj (hN j hj).2 ej a q mj
 obtain⟨a',vs,ts,ts',G,l,am,ea,hs,hf,gn,na,gs,go⟩:=ZgD (Gn:=Fw) ks rv2 o1 dsj h4
 have haa:a'=a:=by
  have f2:=Zhi Y (Zhi X l0.follow)
  rw[l.follow]at f2
  cases f2
  rfl
 subst haa
 unfold ZkN at hf
 split at hf
 ·rename_i hl
  cases hf
  obtain⟨F',r',n',sub'⟩:=go (vs++[vw]) (G++Fw) (hs.snoc b2) (by
   rw[List.nodup_append]
   exact⟨gn,b4 rfl,fun y hy z hz e=>dsj z hz (e▸gs y hy)⟩) (fun m=>(Zz8.mp m).elim na fun m=>dsj _ m am) (fun y m=>List.mem_append.mp m)
  obtain⟨st,com⟩:=ZsR (O':=O') (b:=H.length) s2 hx h3 ev s.len hlow hFw hN am r' n' sub' hO
  refine⟨ρ,(H++X++Y).set a' (vs++[vw]),Zao Φ x F',by simp,fun y hy hn=>?_,.inl ⟨rfl,?_,st,com⟩⟩
  ·have:a'≠y:=fun q=>hn ⟨x,hx,⟨t,h3⟩,q▸am⟩
   rw[List.getElem?_set_ne this,List.append_assoc,List.getElem?_append_left hy]
  ·simp only[Zb8,Zfl,a1,Option.bind_some,b1,ZhO,ea]
   rw[if_pos ⟨Zpa s hx h3 am,by rw[hs.length];exact hl⟩]
   rfl
 ·cases hf
theorem S.put{x:Nat}{N M:List Nat}{u:Bool}{o e i:Ex}{po:PPa}{p pi:PE}(hx:x∈O)(z:E O N true e p)(y:Pa O x o po)(zi:E O M u i pi)(hN:∀j∈N,j∈O∧j≠x)(hO:∀j∈O',j∈O∧j∉N): S O O' R fr (ZbP e o i) (Zbi x N p po pi):=fun c ρ σ H Φ r s q=>by
 obtain⟨w,h2,q⟩:=Zz0.mp q
 obtain⟨ks,h1,q⟩:=Zz0.mp q
 obtain⟨tk,h5,q⟩:=Zz0.mp q
 cases tk <;> first | (cases q;done) | skip
 rename_i k
 obtain⟨t,h3,q⟩:=Zz0.mp q
 obtain⟨t',h4,q⟩:=Zz1.mp q
 subst q
 obtain⟨v,ev,rv⟩:=s.slot x t h3
 have hlow:∀k t,σ k=some t→∀a∈Φ k,a<H.length:=fun k t e a m=>by
  obtain⟨_,_,r⟩:=s.slot k t e
  exact r.lt a m
 obtain⟨o1,o2,o3⟩:=s.own x hx t h3
 obtain⟨vw,X,Fw,b1,b2,b3,b4⟩:=z c ρ σ H Φ w s h2
 obtain⟨a,vs0,ts0,ts0',G0,l0,_⟩:=ZgD (Gn:=[]) ks (rv.ext X) o1 (by simp) h4
 obtain⟨Y,a1⟩:=y c ρ σ (H++X) Φ ks v (.ref a) (s.ext X) h1 ev l0.follow
 obtain⟨vk,Z,Fk,d1,d2,d3,d4⟩:=zi c ρ σ (H++X++Y) Φ _ ((s.ext X).ext Y) h5
 cases d2
 have s2:=((s.ext X).ext Y).ext Z
 have rv2:RF (H++X++Y++Z) v t (Φ x):=((rv.ext X).ext Y).ext Z
 have hFw:∀a∈Fw,H.length≤a∨∃j∈N,(∃t,σ j=some t)∧a∈Φ j:=b3
 have dsj:∀a∈Fw,a∉Φ x:=fun a m q=>by
  rcases hFw a m with h | ⟨j,hj,⟨tj,ej⟩,mj⟩
  ·have:=hlow x t h3 a q;omega
  ·exact o3 j tj (hN j hj).2 ej a q mj
 obtain⟨a',vs,ts,ts',G,l,am,ea,hs,hf,gn,na,gs,go⟩:=ZgD (Gn:=Fw) ks rv2 o1 dsj h4
 have haa:a'=a:=by
  have f2:=Zhi Z (Zhi Y l0.follow)
  rw[l.follow]at f2
  cases f2
  rfl
 subst haa
 unfold ZgQ at hf
 split at hf
 ·rename_i hl
  cases hf
  have hk:k.toNat<ts.length:=by omega
  obtain⟨v0,Gk,F1,F2,e0,r0,eG,rb⟩:=hs.split (List.getElem?_eq_getElem hk)
  have b2':RF (H++X++Y++Z) vw w Fw:=(b2.ext Y).ext Z
  have rs:=rb (H++X++Y++Z) vw w Fw b2' (fun _ _=>rfl) (fun _ _=>rfl)
  have sub0:∀a∈Fw,a∈Gk∨a∈Fw:=fun a m=>.inr m
  subst eG
  obtain⟨F',r',n',sub'⟩:=go _ _ rs (nd3 gn (b4 rfl) sub0 fun a m q=>dsj a m (gs a q)) (fun m=>by
   rcases in3 (G:=Gk) sub0 _ m with m | m
   ·exact na m
   ·exact dsj _ m am) (in3 sub0)
  obtain⟨st,com⟩:=ZsR (O':=O') (b:=H.length) s2 hx h3 ev s.len hlow hFw hN am r' n' sub' hO
  refine⟨ρ,(H++X++Y++Z).set a' (vs.set k.toNat vw),Zao Φ x F',by simp,fun y hy hn=>?_,.inl ⟨rfl,?_,st,com⟩⟩
  ·have:a'≠y:=fun q=>hn ⟨x,hx,⟨t,h3⟩,q▸am⟩
   rw[List.getElem?_set_ne this,List.append_assoc,List.append_assoc,List.getElem?_append_left hy]
  ·simp only[ZbP,b1,Option.bind_some,a1,d1,Zqc,ea]
   rw[if_pos ⟨Zpa s hx h3 am,by rw[hs.length];exact hl⟩]
   rfl
 ·cases hf
noncomputable def ZfS(put:T→TL→Option TL)(b:PS): TL→List T→Option (Option T×TL)
 | σ,[]=>some (none,σ)
 | σ,t::ts=>(put t σ).bind fun σ1=>(b σ1).bind fun r=>match r.1 with
  | some _=>some r
  | none=>ZfS put b r.2 ts
noncomputable def Za2(g:PG)(put:T→TL→Option TL)(b:PS): PS:=fun σ=>(g σ).bind fun ts=>ZfS put b σ ts
theorem ZoA{J:List Nat}{put:V→Lc→Option Lc}{pput:T→TL→Option TL}{b:Sm}{qb:PS}(hj:PutOk O J put pput)(hJ:∀i∈J,i∉O)(hb:S O O R fr b qb){c:Ctx}{nx:Nx}{vs:List V}{G:List Nat}{H1:Hp}(hG:∀a∈G,a<H1.length)(hsrc:∀a∈G,c.H0.length≤a∨c.P a)(hnx:∀K:Hp,(∀a∈G,K[a]?=H1[a]?)→∀i,i≤vs.length→nx i K=some vs[i]?):
  ∀(rs:List T) (ws:List V) (i:Nat) (ρ:Lc) (σ:TL) (K:Hp) (Φ:Nat→List Nat) (Fr:List Nat) (r:Option T×TL),(∀j,vs[i+j]?=ws[j]?)→i+ws.length=vs.length→St c O ρ σ K Φ→H1.length≤K.length→(∀a∈G,K[a]?=H1[a]?)→(∀a∈G,¬Zc0 O σ Φ a)→RFs K ws rs Fr→(∀a∈Fr,a∈G)→ZfS pput qb σ rs=some r →
   Aft c O O R fr σ K Φ (Zc9 nx put b (rs.length+1) i ρ K) r
 | [],ws,i,ρ,σ,K,Φ,Fr,r,hat,hlen,s,hl,hk,hoff,rr,hfr,h=>by
  cases rr
  cases h
  have e:=hnx K hk i (by simp at hlen;omega)
  have e2:vs[i]?=none:=by have:=hat 0;simpa using this
  exact⟨ρ,K,Φ,Nat.le_refl _,fun _ _ _=>rfl,.inl ⟨rfl,by simp[Zc9,e,e2],s,fun a m=>.inr m⟩⟩
 | t::rs,ws0,i,ρ,σ,K,Φ,Fr0,r,hat,hlen,s,hl,hk,hoff,rr,hfr,h=>by
  cases rr with
  | @cons v _ F1 ws _ F2 a b'=>
  simp only[List.length_cons]at hlen
  obtain⟨σ1,h1,h⟩:=Zz0.mp h
  obtain⟨r1,h2,h⟩:=Zz0.mp h
  have e:=hnx K hk i (by omega)
  have e2:vs[i]?=some v:=by have:=hat 0;simpa using this
  have hat':∀j,vs[i+1+j]?=ws[j]?:=fun j=>by have:=hat (j+1);rw[show i+1+j=i+(j+1)by omega,this];simp
  obtain⟨ρ1,Φ1,p1,s1,p3,p4⟩:=hj c ρ σ K Φ v t F1 σ1 s a (fun x m=>hsrc x (hfr x (Zz4 _ m))) (fun k hk t' e x m q=>hoff x (hfr x (Zz4 _ q)) ⟨k,hk,⟨t',e⟩,m⟩) h1
  have hh:∀x,Zc0 O σ1 Φ1 x→Zc0 O σ Φ x:=fun x ⟨k,hk,⟨t',e⟩,m⟩=>by
   obtain⟨q1,q2⟩:=p3 k fun q=>hJ k q hk
   exact⟨k,hk,⟨t',q1▸e⟩,q2▸m⟩
  obtain⟨ρ2,K2,Φ2,g1,g2,g3⟩:=hb c ρ1 σ1 K Φ1 r1 s1 h2
  have estep:Zc9 nx put b ((t::rs).length+1) i ρ K=(b ρ1 K).bind fun q=>match q.1 with
    | some _=>some q
    | none=>Zc9 nx put b (rs.length+1) (i+1) q.2.1 q.2.2:=by
   rw[List.length_cons]
   show(nx i K).bind _=_
   rw[e,e2]
   first | (simp only[Option.bind_some,p1];done) | (simp only[Option.bind_some,p1];rfl)
  rcases g3 with⟨k1,k2,k3,k4⟩ | ⟨t',v',F',k1,k2,k3⟩
  ·rw[k1]at h
   have hG2:∀a∈G,K2[a]?=K[a]?:=fun x m=>g2 x (by have:=hG x m;omega) fun q=>hoff x m (hh x q)
   have hoff2:∀a∈G,¬Zc0 O r1.2 Φ2 a:=fun x m q=>by
    rcases k4 x q with q | q
    ·have:=hG x m;omega
    ·exact hoff x m (hh x q)
   have ih:=ZoA hj hJ hb hG hsrc hnx rs ws (i+1) ρ2 r1.2 K2 Φ2 F2 r hat' (by omega) k3 (by omega) (fun x m=>(hG2 x m).trans (hk x m)) hoff2 (b'.frame fun x m=>hG2 x (hfr x (Zz3 _ m))) (fun x m=>hfr x (Zz3 _ m)) h
   rw[estep,k2]
   simp only[Option.bind_some]
   obtain⟨ρ3,K3,Φ3,l1,l2,l3⟩:=ih
   refine⟨ρ3,K3,Φ3,by omega,fun x hx hn=>?_,?_⟩
   ·rw[l2 x (by omega) fun q=>(k4 x q).elim (fun q=>by omega) fun q=>hn (hh x q),g2 x hx fun q=>hn (hh x q)]
   ·rcases l3 with⟨m1,m2,m3,m4⟩ | l
    ·refine .inl ⟨m1,m2,m3,fun x q=>?_⟩
     rcases m4 x q with q | q
     ·exact .inl (by omega)
     ·exact(k4 x q).imp id (hh x)
    ·exact .inr l
  ·rw[k1]at h
   cases h
   refine⟨ρ2,K2,Φ2,g1,fun x hx hn=>g2 x hx fun q=>hn (hh x q),.inr ⟨t',v',F',k1,?_,k3⟩⟩
   rw[estep,k2]
   rfl
theorem ZbL{J Ns:List Nat}{g:Src}{q:PG}{put:V→Lc→Option Lc}{pput:T→TL→Option TL}{b:Sm}{qb:PS}(hg:Gs O Ns g q)(hj:PutOk O J put pput)(hJ:∀i∈J,i∉O)(hN:∀i∈Ns,i∉O)(hb:S O O R fr b qb): S O O R fr (ZaX g put b) (Za2 q pput qb):=fun c ρ σ H Φ r s h=>by
 obtain⟨ts,h1,h⟩:=Zz0.mp h
 obtain⟨nx,X,vs,F,G,g1,g2,g3,g4,g5⟩:=hg c ρ σ H Φ ts s h1
 have:=ZoA hj hJ hb (H1:=H++X) (fun a m=>(g4 a m).1) (fun a m=>s.from_src (g4 a m).2) g5 ts vs 0 ρ σ (H++X) Φ F r (by simp) (by simp) (s.ext X) (Zz10 _) (fun _ _=>rfl) (fun a m ⟨k,hk,⟨t,e⟩,q⟩=>s.from_off hN (g4 a m).2 hk e q) g2 g3 h
 have eg:ZaX g put b ρ H=Zc9 nx put b (ts.length+1) 0 ρ (H++X):=by simp only[ZaX,g1,Option.bind_some]
 rw[eg]
 exact this.grow
noncomputable def ZeH(t:PB)(b:PS): Nat→PS
 | 0=>fun _=>none
 | n+1=>fun σ=>(t σ).bind fun p=>if p then(b σ).bind fun q=>(match q.1 with
   | some _=>some q
   | none=>ZeH t b n q.2)else some (none,σ)
theorem Zpb{t:Ts}{pt:PB}{b:Sm}{qb:PS}(z:Bt O t pt)(y:S O O R fr b qb): ∀n,S O O R fr (Zd9 t b n) (ZeH pt qb n)
 | 0=>fun c ρ σ H Φ r s h=>by cases h
 | n+1=>fun c ρ σ H Φ r s h=>by
  obtain⟨p,h1,h⟩:=Zz0.mp h
  obtain⟨X,a1⟩:=z c ρ σ H Φ p s h1
  cases p with
  | false=>
   cases h
   exact⟨ρ,H++X,Φ,by simp,fun a ha _=>List.getElem?_append_left ha,.inl ⟨rfl,by simp[Zd9,a1],s.ext X,fun a m=>.inr m⟩⟩
  | true=>
   simp only[if_true]at h
   obtain⟨r1,h2,h⟩:=Zz0.mp h
   have b1:=(y c ρ σ (H++X) Φ r1 (s.ext X) h2).grow
   have eg:Zd9 t b (n+1) ρ H=(b ρ (H++X)).bind fun q=>(match q.1 with
    | some _=>some q
    | none=>Zd9 t b n q.2.1 q.2.2):=by
    show(t ρ H).bind _=_
    rw[a1]
    rfl
   rw[eg]
   obtain⟨ρ1,H1,Φ1,g1,g2,g3⟩:=b1
   rcases g3 with⟨k1,k2,k3,k4⟩ | ⟨t',v',F',k1,k2,k3⟩
   ·rw[k1]at h
    obtain⟨ρ3,K3,Φ3,l1,l2,l3⟩:=Zpb z y n c ρ1 r1.2 H1 Φ1 r k3 h
    rw[k2]
    simp only[Option.bind_some]
    refine⟨ρ3,K3,Φ3,by omega,fun x hx hn=>?_,?_⟩
    ·rw[l2 x (by omega) fun q=>(k4 x q).elim (fun q=>by omega) hn,g2 x hx hn]
    ·rcases l3 with⟨m1,m2,m3,m4⟩ | l
     ·refine .inl ⟨m1,m2,m3,fun x q=>?_⟩
      rcases m4 x q with q | q
      ·exact .inl (by omega)
      ·exact k4 x q
     ·exact .inr l
   ·rw[k1]at h
    cases h
    exact⟨ρ1,H1,Φ1,g1,g2,.inr ⟨t',v',F',k1,by rw[k2];rfl,k3⟩⟩
end
noncomputable def ZY(n:Nat)(q:PS): List T→Option T:=fun ts=>if ts.length=n then(q fun i=>ts[i]?).map fun r=>r.1.getD .none else none
theorem RFs.slots{H:Hp}: ∀{vs:List V} {ts:List T} {F:List Nat},RFs H vs ts F→∃Φ:Nat→List Nat,∀i t,ts[i]?=some t→∃v,vs[i]?=some v∧RF H v t (Φ i)∧∀a∈Φ i,a∈F
 | _,_,_,.nil=>⟨fun _=>[],fun i t e=>by simp at e⟩
 | _,_,_,.cons (F:=F1) a b=>by
  obtain⟨Φ,h⟩:=b.slots
  refine⟨fun i=>match i with | 0=>F1 | i+1=>Φ i,fun i t e=>?_⟩
  cases i with
  | zero=>simp at e;subst e;exact⟨_,by simp,a,fun x m=>List.mem_append_left _ m⟩
  | succ i=>
   simp at e
   obtain⟨v,h1,h2,h3⟩:=h i t e
   exact⟨v,by simpa using h1,h2,fun x m=>List.mem_append_right _ (h3 x m)⟩
theorem Zq4{H H':Hp}(hl:H.length≤H'.length)(h:∀a,a<H.length→H'[a]?=H[a]?): H'=H++H'.drop H.length:=by
 conv=>lhs;rw[←List.take_append_drop H.length H']
 congr 1
 refine List.ext_getElem? fun i=>?_
 by_cases q:i<H.length
 ·rw[List.getElem?_take_of_lt q,h i q]
 ·rw[List.getElem?_eq_none (by simp;omega),List.getElem?_eq_none (by omega)]
theorem SimF.of{O':List Nat}{fr:Bool}{n:Nat}{g:Sm}{q:PS}(h:S [] O' [] fr g q): SimF fr (ZT n g) (ZY n q):=fun H vs ts t F1 hp r e=>by
 unfold ZY at e
 split at e
 ·rename_i hl
  obtain⟨r1,e1,e2⟩:=Zz1.mp e
  obtain⟨Φ,hΦ⟩:=r.slots
  have st:St ⟨H,[],fun a=>a∈F1⟩ [] (fun i=>vs[i]?) (fun i=>ts[i]?) H Φ:=
   ⟨(fun i t e=>by obtain⟨v,h1,h2,_⟩:=hΦ i t e;exact⟨v,h1,h2⟩),fun i t e a m=>(by obtain⟨v,h1,h2,h3⟩:=hΦ i t e;exact .inr (h3 a m)),(fun i hi=>nomatch hi),Nat.le_refl _,fun a _ _=>rfl,hp,by simp⟩
  obtain⟨ρ',H',Φ',h1,h2,h3⟩:=h _ _ _ _ _ _ st e1
  rcases h3 with⟨k1,k2,k3,k4⟩ | ⟨t',v',F',k1,k2,k3,k4,k5,k6⟩
  ·have eh:=Zq4 k3.len fun a ha=>k3.keep a ha (by simp)
   refine⟨.none,H'.drop H.length,[],?_,?_,by simp,by simp⟩
   ·have hv:vs.length=n:=r.length.trans hl
    simp only[ZT,hv,if_true,k2,Option.map_some,Option.getD_none]
    rw[←eh]
   ·rw[k1]at e2
    subst e2
    exact .none
  ·have eh:=Zq4 k4.len fun a ha=>k4.keep a ha (by simp)
   refine⟨v',H'.drop H.length,F',?_,?_,k5,fun hf=>⟨(k6 hf).1,fun a m=>((k6 hf).2 a m).elim id fun q=>by cases q⟩⟩
   ·have hv:vs.length=n:=r.length.trans hl
    simp only[ZT,hv,if_true,k2,Option.map_some,Option.getD_some]
    rw[←eh]
   ·rw[k1]at e2
    subst e2
    rw[←eh]
    exact k3
 ·cases e
theorem Zwg{f:List V→Hp→Option (V×Hp)}{p:List T→Option T}{fr:Bool}(h:SimF fr f p)(ns:List Int)(e:p [.lst (ns.map T.int)]=some (.bool true)): ∃H',f [.ref 0] [ns.map V.int]=some (.bool true,H'):=by
 have intsAre:∀l:List Int,RFs [ns.map V.int] (l.map V.int) (l.map T.int) []:=fun l=>by
  induction l with
  | nil=>exact .nil
  | cons a l ih=>exact .cons (.int a) ih
 obtain⟨v,X,F,h1,h2,_⟩:=h [ns.map V.int] [.ref 0] [.lst (ns.map T.int)] _ _ (by simp) (.one (.ref rfl (intsAre ns))) e
 cases h2
 exact⟨_,h1⟩
end TM
end
section
namespace TM
open PySem PM
section
variable {O Ns Ne J:List Nat}
theorem Zb3{u:Bool}{g:Src}{q:PG}{put:V→Lc→Option Lc}{pput:T→TL→Option TL}{tc:Ts}{pc:PB}{f:Ex}{pf:PE}(hg:Gs O Ns g q)(hj:PutOk O J put pput)(hN:∀i∈Ns,i∉O)(hc:Bt O tc pc)(hf:E O Ne u f pf): E O (Ns++Ne) false (ZaB g put tc f) (Zax q pput pc pf):=
 ZsQ hg hj hN hc hf.sh (by simp)
theorem Zc5{g:Src}{q:PG}{put:V→Lc→Option Lc}{pput:T→TL→Option TL}{tc:Ts}{pc:PB}{f:Ex}{pf:PE}(hg:Gs O Ns g q)(hj:PutOk O J put pput)(hN:∀i∈Ns,i∉O)(hc:Bt O tc pc)(hf:E O [] true f pf): E O [] true (ZaB g put tc f) (Zax q pput pc pf):=
 ZsQ hg hj hN hc hf (by simp)
end
end TM
end
section
/-! Forward reckoning over trees. -/
namespace TM
open PySem PM
noncomputable def dec(P:Prop): Bool:=@decide P (Classical.propDecidable P)
theorem dec_iff{P:Prop}: dec P=true↔P:=by unfold dec;exact @decide_eq_true_iff P (Classical.propDecidable P)
theorem ZaI{P:Prop}(h:P): dec P=true:=dec_iff.mpr h
theorem ZaO{P:Prop}(h:¬P): dec P=false:=by
 cases e:dec P with
 | true=>exact absurd (dec_iff.mp e) h
 | false=>rfl
theorem Zht{P Q:Prop}(h:P↔Q): dec P=dec Q:=by
 by_cases p:P
 ·rw[ZaI p,ZaI (h.mp p)]
 ·rw[ZaO p,ZaO fun q=>p (h.mpr q)]
theorem Zkf{P:Prop}{b:Bool}(h:b=true↔P): dec P=b:=by
 cases b with
 | true=>exact ZaI (h.mp rfl)
 | false=>exact ZaO fun p=>by simpa using h.mpr p
theorem Zi6{P:Prop}[i:Decidable P]: decide P=dec P:=by
 unfold dec;congr
noncomputable def tab{α:Type}(n:Nat)(f:Nat→α): List α:=(List.range n).map f
theorem Zap{α:Type}{n:Nat}{f:Nat→α}: (tab n f).length=n:=by simp[tab]
theorem Za7{α:Type}{n:Nat}{f:Nat→α}{i:Nat}(h:i<n): (tab n f)[i]?=some (f i):=by simp[tab,h]
theorem ZpC{α:Type}{n:Nat}{f:Nat→α}{i:Nat}(h:n≤i): (tab n f)[i]?=none:=by simp[tab,h]
theorem Zd3{α:Type}{n:Nat}{f:Nat→α}: tab n f++[f n]=tab (n+1) f:=by simp[tab,List.range_succ]
theorem ZhQ{α:Type}{n:Nat}{xs:List α}{f:Nat→α}(hl:xs.length=n)(h:∀i,i<n→xs[i]?=some (f i)): xs=tab n f:=by
 refine List.ext_getElem? fun i=>?_
 by_cases q:i<n
 ·rw[h i q,Za7 q]
 ·rw[List.getElem?_eq_none (by omega),ZpC (by omega)]
theorem ZaS{α:Type}{n:Nat}{f g:Nat→α}(h:∀i,i<n→f i=g i): tab n f=tab n g:=by
 refine ZhQ Zap fun i hi=>?_
 rw[Za7 hi,h i hi]
theorem Zd4{α:Type}{n k:Nat}{f:Nat→α}{v:α}: (tab n f).set k v=tab n fun i=>if i=k then v else f i:=by
 refine ZhQ (by rw[List.length_set,Zap]) fun i hi=>?_
 by_cases q:i=k
 ·subst q
  rw[List.getElem?_set_self (by rw[Zap];exact hi),if_pos rfl]
 ·rw[List.getElem?_set_ne (Ne.symm q),Za7 hi,if_neg q]
theorem tab_map{α β:Type}{n:Nat}{f:Nat→α}{g:α→β}: (tab n f).map g=tab n fun i=>g (f i):=by simp[tab]
noncomputable def cn{α:Type}(a:α)(f:Nat→α): Nat→α
 | 0=>a
 | i+1=>f i
theorem Zw0{α:Type}{n:Nat}{a:α}{f:Nat→α}: a::tab n f=tab (n+1) (cn a f):=by
 refine ZhQ (by rw[List.length_cons,Zap]) fun i hi=>?_
 cases i with
 | zero=>rfl
 | succ i=>rw[List.getElem?_cons_succ,Za7 (by omega)];rfl
theorem Zsb{α β γ:Type}{n m:Nat}{f:Nat→α}{g:Nat→β}{h:α→β→γ}: List.zipWith h (tab n f) (tab m g)=tab (min n m) fun i=>h (f i) (g i):=by
 refine ZhQ (by rw[List.length_zipWith,Zap,Zap]) fun i hi=>?_
 rw[List.getElem?_zipWith,Za7 (show i<n by omega),Za7 (show i<m by omega)]
theorem Zx4{α:Type}{n m:Nat}{f g:Nat→α}: tab n f++tab m g=tab (n+m) fun i=>if i<n then f i else g (i-n):=by
 refine ZhQ (by rw[List.length_append,Zap,Zap]) fun i hi=>?_
 by_cases q:i<n
 ·rw[List.getElem?_append_left (by rw[Zap];exact q),Za7 q,if_pos q]
 ·rw[List.getElem?_append_right (by rw[Zap];omega),Zap,Za7 (by omega),if_neg q]
def Pk(c:Option T)(Q:T→Prop): Prop:=∃t,c=some t∧Q t
def Pl(c:Option (List T))(Q:List T→Prop): Prop:=∃t,c=some t∧Q t
def Pb(c:Option Bool)(Q:Bool→Prop): Prop:=∃t,c=some t∧Q t
def Psk(c:Option (Option T×TL))(R:T→Prop)(N:TL→Prop): Prop:=∃o σ,c=some (o,σ)∧(∀t,o=some t→R t)∧(o=none→N σ)
theorem Pk.of{c:Option T}{Q:T→Prop}{t:T}(h:c=some t)(k:Q t): Pk c Q:=⟨t,h,k⟩
theorem Pk.eq{c:Option T}{t:T}(h:Pk c fun v=>v=t): c=some t:=by obtain⟨v,e,rfl⟩:=h;exact e
theorem Pk.mono{c:Option T}{Q Q':T→Prop}(h:Pk c Q)(k:∀t,Q t→Q' t): Pk c Q':=by obtain⟨v,e,q⟩:=h;exact⟨v,e,k v q⟩
section
variable {σ:TL} {Q:T→Prop} {L:List T→Prop} {B:Bool→Prop} {R:T→Prop} {N:TL→Prop}
theorem Zzv{k:Int}(h:Q (.int k)): Pk (Zj k σ) Q:=⟨_,rfl,h⟩
theorem Zzw(h:Q .none): Pk (Zad σ) Q:=⟨_,rfl,h⟩
theorem Zx5{k:Bool}(h:Q (.bool k)): Pk (ZbU k σ) Q:=⟨_,rfl,h⟩
theorem Zzx{k:Str}(h:Q (.str k)): Pk (Zbl k σ) Q:=⟨_,rfl,h⟩
theorem Zzy{i:Nat}{t:T}(e:σ i=some t)(h:Q t): Pk (Zb i σ) Q:=⟨_,e,h⟩
theorem Zzz{q:T→T→Option T}{f g:PE}(h:Pk (f σ) fun x=>Pk (g σ) fun y=>Pk (q x y) Q): Pk (Zh q f g σ) Q:=by
 obtain⟨x,a,y,b,z,c,k⟩:=h
 exact⟨z,by simp only[Zh,a,b,Option.bind_some,c],k⟩
theorem ZAI{q:T→Option T}{f:PE}(h:Pk (f σ) fun x=>Pk (q x) Q): Pk (pUn q f σ) Q:=by
 obtain⟨x,a,z,c,k⟩:=h
 exact⟨z,by simp only[pUn,a,Option.bind_some,c],k⟩
theorem Zx6{q:List T→Option T}{f:PEs}(h:Pl (f σ) fun x=>Pk (q x) Q): Pk (Zr q f σ) Q:=by
 obtain⟨x,a,z,c,k⟩:=h
 exact⟨z,by simp only[Zr,a,Option.bind_some,c],k⟩
theorem ZzA(h:L []): Pl (Zm σ) L:=⟨_,rfl,h⟩
theorem Zx7{f:PE}{g:PEs}(h:Pk (f σ) fun x=>Pl (g σ) fun xs=>L (x::xs)): Pl (Ze f g σ) L:=by
 obtain⟨x,a,y,b,k⟩:=h
 exact⟨_,by simp only[Ze,a,b,Option.bind_some],k⟩
theorem ZzB{g:PEs}(h:Pl (g σ) fun xs=>Q (.tup xs)): Pk (Zan g σ) Q:=by
 obtain⟨x,a,k⟩:=h;exact⟨_,by simp only[Zan,a,Option.map_some],k⟩
theorem Zx8{g:PEs}(h:Pl (g σ) fun xs=>Q (.lst xs)): Pk (ZaU g σ) Q:=by
 obtain⟨x,a,k⟩:=h;exact⟨_,by simp only[ZaU,a,Option.map_some],k⟩
theorem Zx9{f:PE}(h:Pk (f σ) fun t=>t.flat=true∧Q t): Pk (ZbV f σ) Q:=by
 obtain⟨x,a,b,k⟩:=h;exact⟨_,by simp only[ZbV,a,Option.bind_some,b,if_true],k⟩
theorem ZAJ{f:PE}(h:Pk (f σ) fun t=>t.flatIn=true∧Q t): Pk (pFl f σ) Q:=by
 obtain⟨x,a,b,k⟩:=h;exact⟨_,by simp only[pFl,a,Option.bind_some,b,if_true],k⟩
theorem ZAK{b:PB}{f g:PE}(h:Pb (b σ) fun x=>(x=true→Pk (f σ) Q)∧(x=false→Pk (g σ) Q)): Pk (pIf b f g σ) Q:=by
 obtain⟨x,a,h1,h2⟩:=h
 cases x with
 | true=>obtain⟨t,c,q⟩:=h1 rfl;exact⟨t,by simp[pIf,a,c],q⟩
 | false=>obtain⟨t,c,q⟩:=h2 rfl;exact⟨t,by simp[pIf,a,c],q⟩
theorem ZzC{f:PE}(h:Pk (f σ) fun x=>Pb (ZbK x) fun b=>Q (.bool (!b))): Pk (ZkK f σ) Q:=by
 obtain⟨x,a,b,e,q⟩:=h;exact⟨_,by simp only[ZkK,a,Option.bind_some,e,Option.map_some],q⟩
theorem ZzD{f g:PE}(h:Pk (f σ) fun x=>Pb (ZbK x) fun b=>(b=true→Pk (g σ) Q)∧(b=false→Q x)): Pk (Zds f g σ) Q:=by
 obtain⟨x,a,b,e,h1,h2⟩:=h
 cases b with
 | true=>obtain⟨t,c,q⟩:=h1 rfl;exact⟨t,by simp[Zds,a,e,c],q⟩
 | false=>exact⟨x,by simp[Zds,a,e],h2 rfl⟩
theorem ZAL{f g:PE}(h:Pk (f σ) fun x=>Pb (ZbK x) fun b=>(b=true→Q x)∧(b=false→Pk (g σ) Q)): Pk (pOr f g σ) Q:=by
 obtain⟨x,a,b,e,h1,h2⟩:=h
 cases b with
 | false=>obtain⟨t,c,q⟩:=h2 rfl;exact⟨t,by simp[pOr,a,e,c],q⟩
 | true=>exact⟨x,by simp[pOr,a,e],h1 rfl⟩
theorem ZAM{K:String}{f:PE}(h:Pk (f σ) fun x=>Q (.bool (ZjR K x))): Pk (pIs K f σ) Q:=by
 obtain⟨x,a,q⟩:=h;exact⟨_,by simp only[pIs,a,Option.map_some],q⟩
theorem ZzE{f:PE}(h:Pk (f σ) fun x=>Pb (ZbK x) B): Pb (ZL f σ) B:=by
 obtain⟨x,a,b,e,q⟩:=h;exact⟨_,by simp only[ZL,a,Option.bind_some,e],q⟩
theorem Zya{f:PB}(h:Pb (f σ) fun b=>B (!b)): Pb (ZbZ f σ) B:=by
 obtain⟨x,a,q⟩:=h;exact⟨_,by simp only[ZbZ,a,Option.map_some],q⟩
theorem Zyb(h:B true): Pb (Zaq σ) B:=⟨_,rfl,h⟩
theorem Zw1(h:B false): Pb (ZcB σ) B:=⟨_,rfl,h⟩
theorem Zyc{f g:PB}(h:Pb (f σ) fun b=>(b=true→Pb (g σ) B)∧(b=false→B false)): Pb (ZbQ f g σ) B:=by
 obtain⟨x,a,h1,h2⟩:=h
 cases x with
 | true=>obtain⟨t,c,q⟩:=h1 rfl;exact⟨t,by simp[ZbQ,a,c],q⟩
 | false=>exact⟨_,by simp[ZbQ,a],h2 rfl⟩
theorem ZzF{f g:PB}(h:Pb (f σ) fun b=>(b=true→B true)∧(b=false→Pb (g σ) B)): Pb (bOr f g σ) B:=by
 obtain⟨x,a,h1,h2⟩:=h
 cases x with
 | false=>obtain⟨t,c,q⟩:=h2 rfl;exact⟨t,by simp[bOr,a,c],q⟩
 | true=>exact⟨_,by simp[bOr,a],h1 rfl⟩
theorem Zvp{b:Bool}(h:B b): Pb (ZbK (.bool b)) B:=⟨_,rfl,h⟩
theorem Zyd(h:N σ): Psk (ZX σ) R N:=⟨_,_,rfl,by simp,fun _=>h⟩
theorem ZzG{f:PE}(h:Pk (f σ) R): Psk (ZF f σ) R N:=by
 obtain⟨x,a,q⟩:=h;exact⟨some x,σ,by simp only[ZF,a,Option.map_some],fun t e=>by cases e;exact q,by simp⟩
theorem ZzH{i:Nat}{f:PE}(h:Pk (f σ) fun t=>N (Z7 σ i t)): Psk (ZR i f σ) R N:=by
 obtain⟨x,a,q⟩:=h;exact⟨none,Z7 σ i x,by simp only[ZR,a,Option.map_some],by simp,fun _=>q⟩
theorem ZpD{a b:PS}(h:Psk (a σ) R fun σ1=>Psk (b σ1) R N): Psk (Zw a b σ) R N:=by
 obtain⟨o,σ1,e,h1,h2⟩:=h
 cases o with
 | some t=>exact⟨some t,σ1,by simp only[Zw,e,Option.bind_some],h1,by simp⟩
 | none=>
  obtain⟨o2,σ2,e2,k1,k2⟩:=h2 rfl
  exact⟨o2,σ2,by simp only[Zw,e,Option.bind_some,e2],k1,k2⟩
theorem ZpE{b:PB}{f g:PS}(h:Pb (b σ) fun x=>(x=true→Psk (f σ) R N)∧(x=false→Psk (g σ) R N)): Psk (ZV b f g σ) R N:=by
 obtain⟨x,a,h1,h2⟩:=h
 cases x with
 | true=>obtain⟨o,s,c,q⟩:=h1 rfl;exact⟨o,s,by simp[ZV,a,c],q⟩
 | false=>obtain⟨o,s,c,q⟩:=h2 rfl;exact⟨o,s,by simp[ZV,a,c],q⟩
theorem ZsS{n:Nat}{q:PS}{ts:List T}(hn:ts.length=n)(h:Psk (q fun i=>ts[i]?) Q fun _=>Q .none): Pk (ZY n q ts) Q:=by
 obtain⟨o,s,e,h1,h2⟩:=h
 cases o with
 | some t=>exact⟨t,by simp only[ZY,hn,if_true,e,Option.map_some,Option.getD_some],h1 t rfl⟩
 | none=>exact⟨.none,by simp only[ZY,hn,if_true,e,Option.map_some,Option.getD_none],h2 rfl⟩
theorem ZzI{b:Bool}{A C:Prop}(h:b=true)(k:A): (b=true→A)∧(b=false→C):=⟨fun _=>k,fun e=>(by rw[h]at e;cases e)⟩
theorem ZzJ{b:Bool}{A C:Prop}(h:b=false)(k:C): (b=true→A)∧(b=false→C):=⟨fun e=>(by rw[h]at e;cases e),fun _=>k⟩
theorem Zkg{a b:Int}(h:Q (.int (a+b))): Pk (Zab (.int a) (.int b)) Q:=⟨_,rfl,h⟩
theorem ZzK{a b:Int}(h:Q (.int (a-b))): Pk (Zba (.int a) (.int b)) Q:=⟨_,rfl,h⟩
theorem ZzL{a:Int}(h:Q (.int (-a))): Pk (Zb9 (.int a)) Q:=⟨_,rfl,h⟩
theorem ZAN{a b:Int}(h:Q (.bool (decide (a<b)))): Pk (qLt (.int a) (.int b)) Q:=⟨_,rfl,h⟩
theorem ZAO{a b:Int}(h:Q (.bool (decide (a≤b)))): Pk (qLe (.int a) (.int b)) Q:=⟨_,rfl,h⟩
theorem ZAP{a b:Int}(h:Q (.bool (decide (b<a)))): Pk (qGt (.int a) (.int b)) Q:=⟨_,rfl,h⟩
theorem ZzM{a b:Int}(hb:b≠0)(h:Q (.int (a.fmod b))): Pk (ZaL (.int a) (.int b)) Q:=⟨_,by simp only[ZaL];rw[if_pos hb],h⟩
theorem ZcV{a b:Int}(hb:b≠0)(hd:Builtin.divisionGoesByPylong a b=false)(h:Q (.int (a.fdiv b))): Pk (Zcf (.int a) (.int b)) Q:=⟨_,by simp only[Zcf];rw[if_pos ⟨hb,hd⟩],h⟩
theorem ZcW{a b:Int}(hm:mulOk a b=true)(h:Q (.int (a*b))): Pk (ZaY (.int a) (.int b)) Q:=⟨_,by simp only[ZaY];rw[if_pos hm],h⟩
theorem ZzN{a:Int}(h:Q (.int (if a<0 then -a else a))): Pk (ZdN [.int a]) Q:=⟨_,rfl,h⟩
theorem ZzO{a b:Int}(h:Q (.int (if b>a then b else a))): Pk (Zky [.int a,.int b]) Q:=⟨_,rfl,h⟩
theorem ZjU(a b:Int): ZdM (.int a) (.int b)=some (decide (a=b)):=by
 simp[ZdM,ZcL,SeqAt.shaped,PyData.canLay0,PyData.depth,PyData.eqv]
 by_cases h:a=b <;> simp[h]
theorem ZAQ{a b:Int}(h:Q (.bool (decide (a=b)))): Pk (qEq (.int a) (.int b)) Q:=⟨_,by simp only[qEq,ZjU,Option.map_some],h⟩
theorem ZAR{a b:Int}(h:Q (.bool (decide (a≠b)))): Pk (qNe (.int a) (.int b)) Q:=⟨.bool (decide (a≠b)),by simp only[qNe,ZjU,Option.map_some];simp,h⟩
theorem Zw2(a b:Bool): ZdM (.bool a) (.bool b)=some (a == b):=by
 cases a <;> cases b <;> simp[ZdM,ZcL,SeqAt.shaped,PyData.canLay0,PyData.depth,PyData.eqv]
theorem ZzP{a b:Bool}(h:Q (.bool (a == b))): Pk (qEq (.bool a) (.bool b)) Q:=⟨_,by simp only[qEq,Zw2,Option.map_some],h⟩
theorem ZzQ(h:Q (.bool true)): Pk (qIs .none .none) Q:=⟨_,rfl,h⟩
theorem ZzR{a:Int}(h:Q (.bool false)): Pk (qIs (.int a) .none) Q:=⟨_,rfl,h⟩
theorem ZzS{a:List T}(h:Q (.bool false)): Pk (qIs (.lst a) .none) Q:=⟨_,rfl,h⟩
theorem ZzT{a:List T}(h:Q (.bool false)): Pk (qIs (.tup a) .none) Q:=⟨_,rfl,h⟩
theorem Zye(h:Q (.bool false)): Pk (Zb4 .none .none) Q:=⟨_,rfl,h⟩
theorem Zyf{a:Int}(h:Q (.bool true)): Pk (Zb4 (.int a) .none) Q:=⟨_,rfl,h⟩
theorem Zyg{a:List T}(h:Q (.bool true)): Pk (Zb4 (.tup a) .none) Q:=⟨_,rfl,h⟩
theorem Zyh{n:Nat}{f:Nat→T}(h:Q (.int n)): Pk (Zaz [.lst (tab n f)]) Q:=⟨_,by simp only[Zaz,Zap],h⟩
theorem ZzU{ts:List T}(h:Q (.int ts.length)): Pk (Zaz [.lst ts]) Q:=⟨_,rfl,h⟩
theorem Zyi{ts:List T}(h:Q (.int ts.length)): Pk (Zaz [.tup ts]) Q:=⟨_,rfl,h⟩
theorem ZfJ{k:Int}{n:Nat}(h0:0≤k)(h1:k<n): seqIndex? k n=some k.toNat:=by
 unfold seqIndex?
 have:¬k<0:=by omega
 simp[this]
 omega
theorem Zyj{n i:Nat}{f:Nat→T}(hi:i<n)(h:Q (f i)): Pk (Zv (.lst (tab n f)) (.int (i:Nat))) Q:=⟨_,by
 simp only[Zv,Zap,ZfJ (show(0:Int)≤(i:Int)by omega) (show(i:Int)<(n:Int)by omega),Option.bind_some,Int.toNat_natCast]
 exact Za7 hi,h⟩
theorem Zyk{n:Nat}{k:Int}{f:Nat→T}(h0:0≤k)(h1:k<n)(h:Q (f k.toNat)): Pk (Zv (.lst (tab n f)) (.int k)) Q:=⟨_,by
 simp only[Zv,Zap,ZfJ h0 h1,Option.bind_some]
 exact Za7 (by omega),h⟩
theorem ZhR{ts:List T}{k:Int}{t:T}(h0:0≤k)(e:ts[k.toNat]?=some t)(h:Q t): Pk (Zv (.lst ts) (.int k)) Q:=⟨_,by
 simp only[Zv]
 rw[ZfJ h0 (by have:=(Zz6.mp e).1;omega)]
 exact e,h⟩
theorem Zyl{ts:List T}{k:Int}{t:T}(h0:0≤k)(e:ts[k.toNat]?=some t)(h:Q t): Pk (Zv (.tup ts) (.int k)) Q:=⟨_,by
 simp only[Zv]
 rw[ZfJ h0 (by have:=(Zz6.mp e).1;omega)]
 exact e,h⟩
theorem Zsc{n:Nat}{a:T}{f:Nat→T}(hn:n<10000)(h:Q (.lst (tab (n+1) (cn a f)))): Pk (Zab (.lst [a]) (.lst (tab n f))) Q:=⟨_,by
 simp only[Zab]
 rw[if_pos (by rw[Zbc,List.length_append,Zap];simp;omega),List.singleton_append,Zw0],h⟩
theorem ZoB{n m:Nat}{f g:Nat→T}(hn:n+m<10000)(h:Q (.lst (tab (n+m) fun i=>if i<n then f i else g (i-n)))): Pk (Zab (.lst (tab n f)) (.lst (tab m g))) Q:=⟨_,by
 simp only[Zab]
 rw[if_pos (by rw[Zbc,List.length_append,Zap,Zap];omega),Zx4],h⟩
theorem Zw3{ts:List T}(h:Q (.lst ts)): Pk (Zfw [.lst ts]) Q:=⟨_,rfl,h⟩
theorem Zym{ts:List T}(h:Q (.tup ts)): Pk (ZjT [.lst ts]) Q:=⟨_,rfl,h⟩
theorem Zwh{n:Nat}{f:Nat→Bool}: ZgE (tab n fun i=>.bool (f i))=some (tab n f):=by
 have:∀l:List Bool,ZgE (l.map T.bool)=some l:=fun l=>by
  induction l with
  | nil=>rfl
  | cons a l ih=>simp only[List.map_cons,ZgE,ih,Option.map_some]
 rw[show(tab n fun i=>T.bool (f i))=(tab n f).map T.bool from tab_map.symm]
 exact this _
theorem Zw4{n:Nat}{f:Nat→Int}: Zdp (tab n fun i=>.int (f i))=some (tab n f):=by
 have:∀l:List Int,Zdp (l.map T.int)=some l:=fun l=>by
  induction l with
  | nil=>rfl
  | cons a l ih=>simp only[List.map_cons,Zdp,ih,Option.map_some]
 rw[show(tab n fun i=>T.int (f i))=(tab n f).map T.int from tab_map.symm]
 exact this _
theorem ZzV{n:Nat}{P:Nat→Prop}(h:Q (.bool (dec (∃i,i<n∧P i)))): Pk (Zik [.lst (tab n fun i=>.bool (dec (P i)))]) Q:=⟨_,by
 simp only[Zik,Zwh,Option.map_some]
 congr 2
 symm
 apply Zkf
 rw[List.any_eq_true]
 constructor
 ·rintro⟨x,hx,h⟩
  obtain⟨i,hi,e⟩:=List.getElem_of_mem hx
  rw[Zap]at hi
  have:=Za7 (f:=fun i=>dec (P i)) hi
  rw[List.getElem?_eq_getElem (by rw[Zap];exact hi)]at this
  rw[←e,Option.some.inj this]at h
  exact⟨i,hi,dec_iff.mp h⟩
 ·rintro⟨i,hi,h⟩
  exact⟨_,List.mem_of_getElem? (Za7 hi),ZaI h⟩,h⟩
def SqP(x:T)(L:List T→Prop): Prop:=∃ts,(x=.lst ts∨x=.tup ts)∧L ts
theorem Zpc{f:PE}(h:Pk (f σ) fun t=>SqP t L): Pl (Zbm f σ) L:=by
 obtain⟨t,a,ts,rfl | rfl,q⟩:=h <;> exact⟨_,by simp only[Zbm,a,Option.bind_some],q⟩
theorem Sq.lst{ts:List T}(h:L ts): SqP (.lst ts) L:=⟨ts,.inl rfl,h⟩
theorem ZsT{a b c:Int}{H:Hp}{z:Nx×Nat×Hp}(h:Zcy a b c H=some z): Zcu a b c=some ((List.range (rngN a b c)).map fun(i:Nat)=>.int (a+(i:Int)*c)):=by
 unfold Zcy at h
 split at h
 ·rename_i hc
  unfold Zcu
  rw[if_pos hc]
 ·cases h
theorem Zw5{n:Nat}(hn:n≤1000): Zcu 0 n 1=some (tab n fun i=>.int i):=by
 rw[ZsT (Zzp (H:=[]) (b:=n) (by omega) (by omega))]
 have e:rngN 0 n 1=n:=by
  unfold rngN Builtin.Range.rangeSize
  by_cases q:(0:Int)<n
  ·rw[if_pos (by decide),if_pos (by omega)];omega
  ·rw[if_pos (by decide),if_neg (by omega)];omega
 rw[e]
 simp[tab]
theorem Zpd{a n:Nat}(ha:0<n)(hn:a+n≤1000): Zcu a (a+n) 1=some (tab n fun i=>.int (a+i)):=by
 rw[ZsT (Zzr (H:=[]) (a:=a) (b:=a+n) (c:=1) (by omega) (by omega) (by omega) (by omega) (by omega))]
 have e:rngN a (a+n) 1=n:=by
  unfold rngN
  rw[Ztk (by omega) (by omega)]
  omega
 rw[e]
 simp[tab]
theorem Zyn{g:PEs}{b:Int}{o:Option (List T)}(e:g σ=some [.int b])(h:Zcu 0 b 1=o): ZaN g σ=o:=by
 subst h;unfold ZaN;rw[e];rfl
theorem ZhS{g:PEs}{a b:Int}{o:Option (List T)}(e:g σ=some [.int a,.int b])(h:Zcu a b 1=o): ZaN g σ=o:=by
 subst h;unfold ZaN;rw[e];rfl
def RnP(xs:List T)(L:List T→Prop): Prop:=(∃n:Nat,xs=[.int n]∧n≤1000∧L (tab n fun i=>.int i))∨∃(a:Nat) (n:Nat),xs=[.int a,.int (a+n)]∧0<n∧a+n≤1000∧L (tab n fun i=>.int (a+i))
theorem Zw6{g:PEs}(h:Pl (g σ) fun xs=>RnP xs L): Pl (ZaN g σ) L:=by
 obtain⟨xs,e,h⟩:=h
 rcases h with⟨n,h0,h1,q⟩ | ⟨a,n,h0,h1,h2,q⟩
 ·subst h0;exact⟨_,Zyn e (Zw5 h1),q⟩
 ·subst h0;exact⟨_,ZhS e (Zpd h1 h2),q⟩
theorem Rn.one{n:Nat}(hn:n≤1000)(h:L (tab n fun i=>.int i)): RnP [.int n] L:=.inl ⟨n,rfl,hn,h⟩
theorem Zia{k:Int}(n:Nat)(e:k=n)(hn:n≤1000)(h:L (tab n fun i=>.int i)): RnP [.int k] L:=.inl ⟨n,by rw[e],hn,h⟩
theorem Rn.two{k l:Int}(a n:Nat)(e0:l=a)(e:k=a+n)(ha:0<n)(hn:a+n≤1000)(h:L (tab n fun i=>.int (a+i))): RnP [.int l,.int k] L:=.inr ⟨a,n,by rw[e,e0],ha,hn,h⟩
def ZiP(x y:T)(L:List T→Prop): Prop:=∃xs ys,x=.lst xs∧y=.lst ys∧L (List.zipWith (fun a b=>.tup [a,b]) xs ys)
theorem ZpF{f g:PE}(h:Pk (f σ) fun x=>Pk (g σ) fun y=>ZiP x y L): Pl (Zdc f g σ) L:=by
 obtain⟨x,a,y,b,xs,ys,rfl,rfl,q⟩:=h;exact⟨_,by simp only[Zdc,a,b,Option.bind_some],q⟩
theorem Zi.eq{n:Nat}{f g:Nat→T}(h:L (tab n fun i=>.tup [f i,g i])): ZiP (.lst (tab n f)) (.lst (tab n g)) L:=⟨_,_,rfl,rfl,by rw[Zsb,Nat.min_self];exact h⟩
theorem Zrm{j:Nat}{f:PE}{h:T→T}: ∀{ts:List T},(∀t∈ts,f (Z7 σ j t)=some (h t))→ZcZ (Zam j) Zaq f σ ts=some (ts.map h)
 | [],_=>rfl
 | t::ts,k=>by
  simp only[ZcZ,Zam,Zaq,Option.bind_some,if_true,k t Zz5,Zrm fun t m=>k t (Zz2 _ m),Option.map_some,List.map_cons]
theorem Zpe{put:T→TL→Option TL}{f:PE}: ∀{ts us:List T},us.length=ts.length→(∀(i:Nat) t u,ts[i]?=some t→us[i]?=some u→∃σ1,put t σ=some σ1∧f σ1=some u)→ZcZ put Zaq f σ ts=some us
 | [],us,hl,_=>by cases us with
  | nil=>rfl
  | cons _ _=>simp at hl
 | t::ts,us,hl,k=>by
  cases us with
  | nil=>simp at hl
  | cons u us=>
   obtain⟨σ1,h1,h2⟩:=k 0 t u (by simp) (by simp)
   have:=Zpe (ts:=ts) (us:=us) (f:=f) (put:=put) (by simpa using hl) fun i t' u' h3 h4=>k (i+1) t' u' (by simpa using h3) (by simpa using h4)
   simp only[ZcZ,h1,Zaq,Option.bind_some,if_true,h2,this,Option.map_some]
theorem Zbv{g:PG}{j n:Nat}{a b:Nat→T}{f:PE}(hn:n<10000)(hg:Pl (g σ) fun ts=>ts=tab n a)(hf:∀i,i<n→Pk (f (Z7 σ j (a i))) fun t=>t=b i)(h:Q (.lst (tab n b))): Pk (Zax g (Zam j) Zaq f σ) Q:=by
 obtain⟨ts,e,rfl⟩:=hg
 refine⟨_,?_,h⟩
 simp only[Zax,e,Option.bind_some,Zap]
 rw[if_pos (by rw[Zbc];omega),Zpe (us:=tab n b) (by rw[Zap,Zap]) fun i t u h1 h2=>?_]
 ·rfl
 ·have hi:i<n:=by have:=(Zz6.mp h1).1;rwa [Zap]at this
  rw[Za7 hi]at h1 h2
  cases h1;cases h2
  exact⟨_,rfl,(hf i hi).eq⟩
theorem ZoC{g:PG}{j k n:Nat}{a b c:Nat→T}{f:PE}(hn:n<10000)(hg:Pl (g σ) fun ts=>ts=tab n fun i=>.tup [a i,b i])(hf:∀i,i<n→Pk (f (Z7 (Z7 σ j (a i)) k (b i))) fun t=>t=c i)(h:Q (.lst (tab n c))): Pk (Zax g (Zcs j k) Zaq f σ) Q:=by
 obtain⟨ts,e,rfl⟩:=hg
 refine⟨_,?_,h⟩
 simp only[Zax,e,Option.bind_some,Zap]
 rw[if_pos (by rw[Zbc];omega),Zpe (us:=tab n c) (by rw[Zap,Zap]) fun i t u h1 h2=>?_]
 ·rfl
 ·have hi:i<n:=by have:=(Zz6.mp h1).1;rwa [Zap]at this
  rw[Za7 hi]at h1 h2
  cases h1;cases h2
  exact⟨_,rfl,(hf i hi).eq⟩
theorem Zkh{put:T→TL→Option TL}{b:PS}: ∀{ts:List T} (P:Nat→TL→Prop) {σ:TL},P 0 σ→(∀(i:Nat) t σ,ts[i]?=some t→P i σ→∃σ1,put t σ=some σ1∧Psk (b σ1) R (P (i+1)))→(∀σ,P ts.length σ→N σ)→Psk (ZfS put b σ ts) R N
 | [],P,σ,h0,_,h2=>⟨_,_,rfl,by simp,fun _=>h2 _ h0⟩
 | t::ts,P,σ,h0,h1,h2=>by
  obtain⟨σ1,e1,o,σ2,e2,k1,k2⟩:=h1 0 t σ (by simp) h0
  cases o with
  | some v=>exact⟨some v,σ2,by simp only[ZfS,e1,Option.bind_some,e2],k1,by simp⟩
  | none=>
   obtain⟨o3,σ3,e3,l1,l2⟩:=Zkh (ts:=ts) (fun i=>P (i+1)) (k2 rfl) (fun i t' σ' h3 h4=>h1 (i+1) t' σ' (by simpa using h3) h4) (fun σ' h=>h2 σ' (by simpa using h))
   exact⟨o3,σ3,by simp only[ZfS,e1,Option.bind_some,e2,e3],l1,l2⟩
theorem Zc8{g:PG}{j n:Nat}{a:Nat→T}{b:PS}(hg:Pl (g σ) fun ts=>ts=tab n a)(P:Nat→TL→Prop)(h0:P 0 σ)(h1:∀i σ,i<n→P i σ→Psk (b (Z7 σ j (a i))) R (P (i+1)))(h2:∀σ,P n σ→N σ): Psk (Za2 g (Zam j) b σ) R N:=by
 obtain⟨ts,e,rfl⟩:=hg
 have:=Zkh (R:=R) (N:=N) (put:=Zam j) (b:=b) (ts:=tab n a) P h0 (fun i t σ' h3 h4=>by
  have hi:i<n:=by have:=(Zz6.mp h3).1;rwa [Zap]at this
  rw[Za7 hi]at h3
  cases h3
  exact⟨_,rfl,h1 i σ' hi h4⟩) (by rw[Zap];exact h2)
 obtain⟨o,s,e2,q⟩:=this
 exact⟨o,s,by simp only[Za2,e,Option.bind_some,e2],q⟩
theorem Zfo{g:PG}{j k n:Nat}{a c:Nat→T}{b:PS}(hg:Pl (g σ) fun ts=>ts=tab n fun i=>.tup [a i,c i])(P:Nat→TL→Prop)(h0:P 0 σ)(h1:∀i σ,i<n→P i σ→Psk (b (Z7 (Z7 σ j (a i)) k (c i))) R (P (i+1)))(h2:∀σ,P n σ→N σ): Psk (Za2 g (Zcs j k) b σ) R N:=by
 obtain⟨ts,e,rfl⟩:=hg
 have:=Zkh (R:=R) (N:=N) (put:=Zcs j k) (b:=b) (ts:=tab n fun i=>.tup [a i,c i]) P h0 (fun i t σ' h3 h4=>by
  have hi:i<n:=by have:=(Zz6.mp h3).1;rwa [Zap]at this
  rw[Za7 hi]at h3
  cases h3
  exact⟨_,rfl,h1 i σ' hi h4⟩) (by rw[Zap];exact h2)
 obtain⟨o,s,e2,q⟩:=this
 exact⟨o,s,by simp only[Za2,e,Option.bind_some,e2],q⟩
theorem Zyo{g:PG}{j:Nat}{ts:List T}{b:PS}(hg:Pl (g σ) fun us=>us=ts)(P:Nat→TL→Prop)(h0:P 0 σ)(h1:∀(i:Nat) t σ,ts[i]?=some t→P i σ→Psk (b (Z7 σ j t)) R (P (i+1)))(h2:∀σ,P ts.length σ→N σ): Psk (Za2 g (Zam j) b σ) R N:=by
 obtain⟨us,e,rfl⟩:=hg
 obtain⟨o,s,e2,q⟩:=Zkh (R:=R) (N:=N) (put:=Zam j) (b:=b) (ts:=us) P h0 (fun i t σ' h3 h4=>⟨_,rfl,h1 i t σ' h3 h4⟩) h2
 exact⟨o,s,by simp only[Za2,e,Option.bind_some,e2],q⟩
theorem ZoD{t:PB}{b:PS}(P:Nat→TL→Prop)(R:T→Prop)(N:TL→Prop)(h:∀m σ,P m σ→Pb (t σ) fun x=>(x=true→Psk (b σ) R fun σ1=>∃m',m'<m∧P m' σ1)∧(x=false→N σ)): ∀(n:Nat) {m:Nat} {σ:TL},P m σ→m<n→Psk (ZeH t b n σ) R N
 | 0,_,_,_,hm=>by omega
 | n+1,m,σ,hp,hm=>by
  obtain⟨x,e,h1,h2⟩:=h m σ hp
  cases x with
  | false=>exact⟨none,σ,by simp[ZeH,e],by simp,fun _=>h2 rfl⟩
  | true=>
   obtain⟨o,σ1,e1,k1,k2⟩:=h1 rfl
   cases o with
   | some v=>exact⟨some v,σ1,by simp[ZeH,e,e1],k1,by simp⟩
   | none=>
    obtain⟨m',hm',hp'⟩:=k2 rfl
    obtain⟨o2,σ2,e2,l1,l2⟩:=ZoD P R N h n hp' (by omega)
    exact⟨o2,σ2,by simp[ZeH,e,e1,e2],l1,l2⟩
theorem Zjs: ZcJ σ []=σ:=by funext i;simp[ZcJ]
def AppP(σ:TL)(x:Nat)(w:T)(N:TL→Prop): Prop:=∃ts,σ x=some (.lst ts)∧ts.length<10000∧N (Z7 σ x (.lst (ts++[w])))
theorem AppP.of{x:Nat}{w:T}{ts:List T}(e:σ x=some (.lst ts))(hl:ts.length<10000)(h:N (Z7 σ x (.lst (ts++[w])))): AppP σ x w N:=⟨ts,e,hl,h⟩
theorem ZzW{x:Nat}{f:PE}(h:Pk (f σ) fun w=>AppP σ x w N): Psk (Zen x [] ZaQ f σ) R N:=by
 obtain⟨w,e,ts,h1,h2,q⟩:=h
 refine⟨none,_,?_,by simp,fun _=>q⟩
 simp only[Zen,ZaQ,Option.bind_some,e,h1,Zdr,ZkN]
 rw[if_pos (by rw[Zbc];omega)]
 simp only[Option.map_some,Zjs]
def AppQ(σ:TL)(x y:Nat)(w:T)(N:TL→Prop): Prop:=∃ts,σ x=some (.lst ts)∧ts.length<10000∧N (ZcJ (Z7 σ x (.lst (ts++[w]))) [y])
theorem AppQ.of{x y:Nat}{w:T}{ts:List T}(e:σ x=some (.lst ts))(hl:ts.length<10000)(h:N (ZcJ (Z7 σ x (.lst (ts++[w]))) [y])): AppQ σ x y w N:=⟨ts,e,hl,h⟩
theorem Zyp{x y:Nat}{f:PE}(h:Pk (f σ) fun w=>AppQ σ x y w N): Psk (Zen x [y] ZaQ f σ) R N:=by
 obtain⟨w,e,ts,h1,h2,q⟩:=h
 refine⟨none,_,?_,by simp,fun _=>q⟩
 simp only[Zen,ZaQ,Option.bind_some,e,h1,Zdr,ZkN]
 rw[if_pos (by rw[Zbc];omega)]
 simp only[Option.map_some]
def PutP(σ:TL)(x:Nat)(w k:T)(N:TL→Prop): Prop:=∃ts m,k=.int m∧σ x=some (.lst ts)∧0≤m∧m<ts.length∧N (Z7 σ x (.lst (ts.set m.toNat w)))
theorem Zw7{x n i:Nat}{w:T}{f:Nat→T}(e:σ x=some (.lst (TM.tab n f)))(hi:i<n)(h:N (Z7 σ x (.lst (TM.tab n fun k=>if k=i then w else f k)))): PutP σ x w (.int i) N:=⟨_,_,rfl,e,by omega,by rw[Zap];omega,by rw[Int.toNat_natCast,Zd4];exact h⟩
theorem Zjt{x n:Nat}{k:Int}{w:T}{f:Nat→T}(e:σ x=some (.lst (TM.tab n f)))(h0:0≤k)(hi:k<n)(h:N (Z7 σ x (.lst (TM.tab n fun i=>if i=k.toNat then w else f i)))): PutP σ x w (.int k) N:=⟨_,_,rfl,e,h0,by rw[Zap];omega,by rw[Zd4];exact h⟩
theorem ZzX{x:Nat}{f i:PE}(h:Pk (f σ) fun w=>Pk (i σ) fun k=>PutP σ x w k N): Psk (Zbi x [] f ZaQ i σ) R N:=by
 obtain⟨w,e,k,e2,ts,m,rfl,h1,h2,h3,q⟩:=h
 refine⟨none,_,?_,by simp,fun _=>q⟩
 simp only[Zbi,ZaQ,Option.bind_some,e,e2,h1,Zdr,ZgQ]
 rw[if_pos ⟨h2,h3⟩]
 simp only[Option.map_some,Zjs]
def Put2(σ:TL)(x:Nat)(w a k:T)(N:TL→Prop): Prop:=∃ts us l m,a=.int l∧k=.int m∧σ x=some (.lst ts)∧0≤l∧ts[l.toNat]?=some (.lst us)∧0≤m∧m<us.length∧N (Z7 σ x (.lst (ts.set l.toNat (.lst (us.set m.toNat w)))))
theorem ZrF{x n m i j:Nat}{w:T}{f:Nat→Nat→T}(e:σ x=some (.lst (TM.tab n fun a=>.lst (TM.tab m (f a)))))(hi:i<n)(hj:j<m)(h:N (Z7 σ x (.lst (TM.tab n fun a=>.lst (TM.tab m fun b=>if a=i∧b=j then w else f a b))))): Put2 σ x w (.int i) (.int j) N:=by
 refine⟨_,TM.tab m (f i),i,j,rfl,rfl,e,by omega,?_,by omega,by rw[Zap];omega,?_⟩
 ·rw[Int.toNat_natCast,Za7 hi]
 ·rw[Int.toNat_natCast,Int.toNat_natCast,Zd4,Zd4]
  have:(TM.tab n fun a=>if a=i then T.lst (TM.tab m fun b=>if b=j then w else f i b)else T.lst (TM.tab m (f a)))=TM.tab n fun a=>.lst (TM.tab m fun b=>if a=i∧b=j then w else f a b):=ZaS fun a _=>by
   by_cases q:a=i
   ·subst q;simp
   ·simp[q]
  rw[this];exact h
theorem Zyq{x:Nat}{f i j:PE}(h:Pk (f σ) fun w=>Pk (i σ) fun a=>Pk (j σ) fun k=>Put2 σ x w a k N): Psk (Zbi x [] f (ZcU ZaQ i) j σ) R N:=by
 obtain⟨w,e,a,e1,k,e2,ts,us,l,m,rfl,rfl,h1,h0,h4,h2,h3,q⟩:=h
 refine⟨none,_,?_,by simp,fun _=>q⟩
 have hl:=(Zz6.mp h4).1
 simp only[Zbi,ZaQ,ZcU,Option.bind_some,e,e1,e2,h1,List.nil_append,Zdr,ZgQ,ZfJ h0 (show l<ts.length by omega),h4]
 rw[if_pos ⟨h2,h3⟩]
 simp only[Option.map_some,Zjs]
theorem Zyr{i j:Nat}{t:T}{o:Option T}(h:j≠i)(e:σ j=o): Z7 σ i t j=o:=by simp[Z7,h,e]
theorem Zw8{j:Nat}{J:List Nat}{o:Option T}(h:j∉J)(e:σ j=o): ZcJ σ J j=o:=by simp[ZcJ,h,e]
end
end TM
end
section
namespace TM
open PySem PM
inductive Pln: Nat→T→Prop where
 | none {n:Nat}:Pln n .none
 | int {n:Nat} {i:Int}:Pln n (.int i)
 | str {n:Nat} {x:Str}:PyData.strOk x=true→Pln n (.str x)
 | tup {n:Nat} {ts:List T}:(∀t∈ts,Pln n t)→Pln (n+1) (.tup ts)
 | lst {n:Nat} {ts:List T}:(∀t∈ts,Pln n t)→Pln (n+1) (.lst ts)
mutual
noncomputable def dd: T→PyData
 | .none=>.none
 | .bool b=>.bool b
 | .int i=>.int i
 | .str x=>.str x
 | .tup ts=>.tuple (dds ts)
 | .lst ts=>.list (dds ts)
noncomputable def dds: List T→List PyData
 | []=>[]
 | t::ts=>dd t::dds ts
end
theorem ZoE{f:T→Option PyData}: ∀{ts:List T},(∀t∈ts,f t=some (dd t))→ZfH f ts=some (dds ts)
 | [],_=>rfl
 | t::ts,h=>by simp only[ZfH,h t Zz5,ZoE fun t m=>h t (Zz2 _ m),Option.bind_some,dds]
theorem Zpf: ∀{ts:List T},(∀t∈ts,PyData.canLay0 (dd t)=true)→PyData.canLayAll0 (dds ts)=true
 | [],_=>rfl
 | t::ts,h=>by simp only[dds,PyData.canLayAll0,h t Zz5,Zpf fun t m=>h t (Zz2 _ m),Bool.and_self]
theorem Zpg{n:Nat}: ∀{ts:List T},(∀t∈ts,PyData.depth (dd t)≤n)→PyData.depthAll (dds ts)≤n
 | [],_=>by simp[dds,PyData.depthAll]
 | t::ts,h=>by
  have h1:=h t Zz5
  have h2:=Zpg fun t m=>h t (Zz2 _ m)
  simp only[dds,PyData.depthAll]
  omega
theorem Pln.dat{n:Nat}{t:T}(h:Pln n t): ZcL n t=some (dd t)∧PyData.canLay0 (dd t)=true∧PyData.depth (dd t)≤n:=by
 induction h with
 | @none n=>cases n <;> exact⟨rfl,rfl,by simp[dd,PyData.depth]⟩
 | @int n i=>cases n <;> exact⟨rfl,rfl,by simp[dd,PyData.depth]⟩
 | @str n x h=>cases n <;> exact⟨rfl,by simpa [dd,PyData.canLay0]using h,by simp[dd,PyData.depth]⟩
 | @tup n ts _ ih=>
  refine⟨?_,?_,?_⟩
  ·simp only[ZcL,ZoE fun t m=>(ih t m).1,Option.map_some,dd]
  ·simp only[dd,PyData.canLay0];exact Zpf fun t m=>(ih t m).2.1
  ·simp only[dd,PyData.depth]
   have:=Zpg fun t m=>(ih t m).2.2
   omega
 | @lst n ts _ ih=>
  refine⟨?_,?_,?_⟩
  ·simp only[ZcL,ZoE fun t m=>(ih t m).1,Option.map_some,dd]
  ·simp only[dd,PyData.canLay0];exact Zpf fun t m=>(ih t m).2.1
  ·simp only[dd,PyData.depth]
   have:=Zpg fun t m=>(ih t m).2.2
   omega
theorem Zph: ∀{ts us:List T},(∀t∈ts,∀u∈us,(PyData.eqv (dd t) (dd u)=true↔t=u))→(PyData.eqvAll (dds ts) (dds us)=true↔ts=us)
 | [],[],_=>by simp[dds,PyData.eqvAll]
 | [],_::_,_=>by simp[dds,PyData.eqvAll]
 | _::_,[],_=>by simp[dds,PyData.eqvAll]
 | t::ts,u::us,h=>by
  simp only[dds,PyData.eqvAll,Bool.and_eq_true,h t Zz5 u Zz5,Zph fun t m u n=>h t (Zz2 _ m) u (Zz2 _ n),List.cons.injEq]
theorem Pln.eqv{n:Nat}{t:T}(h:Pln n t): ∀{m:Nat} {u:T},Pln m u→(PyData.eqv (dd t) (dd u)=true↔t=u):=by
 induction h with
 | none=>intro m u h;cases h <;> simp[dd,PyData.eqv]
 | int=>intro m u h;cases h <;> simp[dd,PyData.eqv]
 | str _=>intro m u h;cases h <;> simp[dd,PyData.eqv]
 | tup hs ih=>
  intro m u h
  cases h with
  | tup hu=>simp only[dd,PyData.eqv,T.tup.injEq];exact Zph fun t a u b=>ih t a (hu u b)
  | none=>simp[dd,PyData.eqv]
  | int=>simp[dd,PyData.eqv]
  | str=>simp[dd,PyData.eqv]
  | lst=>simp[dd,PyData.eqv]
 | lst hs ih=>
  intro m u h
  cases h with
  | lst hu=>simp only[dd,PyData.eqv,T.lst.injEq];exact Zph fun t a u b=>ih t a (hu u b)
  | none=>simp[dd,PyData.eqv]
  | int=>simp[dd,PyData.eqv]
  | str=>simp[dd,PyData.eqv]
  | tup=>simp[dd,PyData.eqv]
theorem Pln.mono{n:Nat}{t:T}(h:Pln n t): ∀{m:Nat},n≤m→Pln m t:=by
 induction h with
 | none=>intro m _;exact .none
 | int=>intro m _;exact .int
 | str h=>intro m _;exact .str h
 | tup hs ih=>
  intro m hm
  cases m with
  | zero=>omega
  | succ m=>exact .tup fun t a=>ih t a (by omega)
 | lst hs ih=>
  intro m hm
  cases m with
  | zero=>omega
  | succ m=>exact .lst fun t a=>ih t a (by omega)
theorem Zys{n m:Nat}{a b:T}(ha:Pln n a)(hb:Pln m b)(hn:n≤8:=by decide)(hm:m≤8:=by decide): ZdM a b=some (dec (a=b)):=by
 have ha:=ha.mono hn
 have hb:=hb.mono hm
 obtain⟨a1,a2,a3⟩:=ha.dat
 obtain⟨b1,b2,b3⟩:=hb.dat
 unfold ZdM ZbG
 rw[a1,b1]
 simp only[Option.bind_some]
 rw[if_pos ⟨by simp only[SeqAt.shaped,a2,Bool.true_and,decide_eq_true_eq];omega,by simp only[SeqAt.shaped,b2,Bool.true_and,decide_eq_true_eq];omega⟩,Zkf (ha.eqv hb)]
section
variable {Q:T→Prop}
theorem ZbT{n m:Nat}{a b:T}(ha:Pln n a)(hb:Pln m b)(h:Q (.bool (dec (a=b))))(hn:n≤8:=by decide)(hm:m≤8:=by decide): Pk (qEq a b) Q:=⟨_,by simp only[qEq,Zys ha hb hn hm,Option.map_some],h⟩
end
theorem ZcQ{α:Type}{n:Nat}{f:Nat→α}{x:α}(h:x∈tab n f): ∃i,i<n∧x=f i:=by
 obtain⟨i,hi,e⟩:=Zz11.mp h
 exact⟨i,List.mem_range.mp hi,e.symm⟩
theorem Zrn{n:Nat}{f:Nat→T}(h:∀i,i<n→(f i).flat=true): T.flats (tab n f)=true:=by
 have key:∀l:List T,(∀t∈l,t.flat=true)→T.flats l=true:=fun l=>by
  induction l with
  | nil=>intro _;rfl
  | cons t l ih=>intro h;simp only[T.flats,h t Zz5,ih fun t m=>h t (Zz2 _ m),Bool.and_self]
 exact key _ fun t m=>by obtain⟨i,hi,rfl⟩:=ZcQ m;exact h i hi
theorem Zhj{n:Nat}{f:Nat→T}(h:∀i,i<n→(f i).flat=true): T.flatIn (.lst (tab n f))=true:=Zrn h
noncomputable def oT: Option Int→T
 | none=>.none
 | some x=>.int x
noncomputable def ZP(q:Int×Int): T:=.tup [.int q.1,.int q.2]
noncomputable def Zav(n:Nat)(x:Nat→Int): T:=.lst (tab n fun i=>.int (x i))
noncomputable def Zay(n:Nat)(b:Nat→Option Int): T:=.lst (tab n fun j=>oT (b j))
noncomputable def Z8(n:Nat)(G:Nat→Nat→Option Int): T:=.lst (tab n fun i=>Zay n (G i))
noncomputable def Zbd(n:Nat)(R:Nat→Int×Int): T:=.lst (tab n fun i=>ZP (R i))
noncomputable def Zs(n:Nat)(G:Nat→Nat→Option Int)(R:Nat→Int×Int): T:=.tup [Z8 (n+1) G,Zbd n R]
theorem ZcH: oT none=.none:=rfl
theorem ZbJ{c:Int}: oT (some c)=.int c:=rfl
theorem Zfp{b:Option Int}: (oT b).flat=true:=by cases b <;> rfl
theorem Zfj{q:Int×Int}: (ZP q).flat=true:=rfl
theorem ZzY{a b:Option Int}: oT a=oT b↔a=b:=by cases a <;> cases b <;> simp[oT]
theorem Zyt{a b:Int×Int}: ZP a=ZP b↔a=b:=by cases a;cases b;simp[ZP]
theorem Zfy{n k:Nat}{f:Nat→T}(h:∀i,i<k→Pln n (f i)): Pln (n+1) (.lst (tab k f)):=.lst fun t m=>by obtain⟨i,hi,rfl⟩:=ZcQ m;exact h i hi
theorem Ztl{n:Nat}{b:Option Int}: Pln n (oT b):=by cases b;exact .none;exact .int
theorem Zki{n:Nat}{q:Int×Int}: Pln (n+1) (ZP q):=.tup fun t m=>by
 simp at m;rcases m with rfl | rfl <;> exact .int
theorem Zsd{n:Nat}{b:Nat→Option Int}: Pln 1 (Zay n b):=Zfy fun _ _=>Ztl
theorem Zw9{n:Nat}{G:Nat→Nat→Option Int}: Pln 2 (Z8 n G):=Zfy fun _ _=>Zsd
theorem Zxa{n:Nat}{R:Nat→Int×Int}: Pln 2 (Zbd n R):=Zfy fun _ _=>Zki
theorem ZoF{n:Nat}{G:Nat→Nat→Option Int}{R:Nat→Int×Int}: Pln 3 (Zs n G R):=.tup fun t m=>by
 simp at m;rcases m with rfl | rfl
 ·exact Zw9
 ·exact Zxa
theorem Zcb{σ:TL}{i:Nat}{t:T}: Z7 σ i t i=some t:=by simp[Z7]
end TM
end
section
namespace PM
open PySem PySem.W PySem.Calls PyProof.Rows PyProof PyProof.Rows.LCg PyProof.Rows.LCp
noncomputable def sNo: Sm:=fun _ _=>none
noncomputable def inD(d:PyData): PyData→Option Bool
 | .list xs=>if PyData.canLayAll0 xs=true∧d.canLay0=true∧d.depth≤64 then some (xs.any fun y=>PyData.eqv y d)else none
 | .tuple xs=>if PyData.canLayAll0 xs=true∧d.canLay0=true∧d.depth≤64 then some (xs.any fun y=>PyData.eqv y d)else none
 | _=>none
noncomputable def Zqf(a b:V)(H:Hp): Option Bool:=(toD H ZbG a).bind fun d=>(toD H ZbG b).bind fun e=>inD d e
noncomputable def oIn(a b:V)(H:Hp): Option (V×Hp):=(Zqf a b H).map fun c=>(.bool c,H)
noncomputable def ZhY(a:Nat): Nx:=fun i H=>H[a]?.bind fun vs=>match vs[i]? with
 | some x=>some (some (.tup [.int i,x]))
 | none=>if i=vs.length then some none else none
noncomputable def ZkA(f:Ex): Src:=fun ρ H=>(f ρ H).bind fun p=>match p.1 with
 | .ref a=>p.2[a]?.map fun vs=>(ZhY a,vs.length+1,p.2)
 | _=>none
section
variable {prog:Program} {w:World} {Γ:Cx}
theorem ZAS{st:Stmt}: S1 prog w Γ st sNo:=fun W ρ H fr s Q E r rp hf post=>by cases hf
theorem Zib: Op2 prog w (compareOp .In) oIn:=by
 intro Γ W ρ H fr s Q E a b x y v H' r hx hy ho post
 obtain⟨c,e1,e2⟩:=Zz1.mp ho
 cases e2
 obtain⟨d,h1,e1⟩:=Zz0.mp e1
 obtain⟨e,h2,e1⟩:=Zz0.mp e1
 obtain⟨as,R1⟩:=Zgj r ZbG a x d hx h1
 obtain⟨bs,R2⟩:=Zgj r ZbG b y e hy h2
 have hu:=Γ.hu
 unfold inD at e1
 split at e1
 ·split at e1
  ·rename_i hs
   cases e1
   exact SeqAt.in_list_reads R2 R1 hs.1 hs.2.1 (by omega) (post W s.heap s.toks _ (.refl W) r (.bool _))
  ·cases e1
 ·split at e1
  ·rename_i hs
   cases e1
   exact SeqAt.in_tuple_reads R2 R1 hs.1 hs.2.1 (by omega) (post W s.heap s.toks _ (.refl W) r (.bool _))
  ·cases e1
 ·cases e1
def ES(e it l:Addr)(i:Nat)(h:Heap): Prop:=(∃old,IsEnum h e it i old)∧h.IsListIter it l i
theorem ES.at{e it l:Addr}{i:Nat}{h h':Heap}(x:ES e it l i h)(k:∀a∈[e,it],∀o,h.get? a=some o→h'.get? a=some o): ES e it l i h':=by
 obtain⟨⟨old,h1⟩,h2⟩:=x
 exact⟨⟨old,k e (by simp) _ h1⟩,h2.at fun o x=>k it (by simp) o x⟩
theorem ES.have{e it l:Addr}{i:Nat}{h:Heap}(x:ES e it l i h): ∀a∈[e,it],∃o,h.get? a=some o:=by
 obtain⟨⟨old,h1⟩,o,h2,_⟩:=x
 intro a ha
 simp at ha
 rcases ha with rfl | rfl
 ·exact⟨_,h1⟩
 ·exact⟨_,h2⟩
def EIt(e it l:Addr)(i:Nat)(fs:List (Addr×Obj)): Prop:=fs.map (·.1)=[e,it]∧∀h:Heap,(∀q∈fs,h.get? q.1=some q.2)→ES e it l i h
theorem Zse{e it l:Addr}{i:Nat}{h:Heap}(x:ES e it l i h): ∃fs,EIt e it l i fs∧∀q∈fs,h.get? q.1=some q.2:=by
 obtain⟨fs,h1,h2⟩:=Zqd h [e,it] x.have
 refine⟨fs,⟨h1,fun h' k=>x.at fun a ha o ho=>?_⟩,h2⟩
 rw[←h1]at ha
 obtain⟨q,hq,eq⟩:=Zz11.mp ha
 have:=h2 q hq
 rw[eq,ho]at this
 cases this
 exact eq▸k q hq
theorem Zyu{W0:Wd}{e it l:Addr}{a:Nat}(ea:W0.pi[a]?=some l)(hei:e≠it)(hle:l≠e)(hli:l≠it):
  Itr2 prog w Γ W0 (.ref e) [e,it] (EIt e it l) (ZhY a):=by
 refine⟨fun i fs h=>h.1,?_,?_,?_,?_⟩
 ·intro i H v hh
  obtain⟨vs,e1,hh⟩:=Zz0.mp hh
  split at hh
  ·cases hh
   exact⟨_,_,rfl⟩
  ·split at hh <;> cases hh
 ·intro i W ρ H fr fs s Q E va vb le r ap hit hn post
  obtain⟨vs,e1,hh⟩:=Zz0.mp hn
  have hv:va=.int i∧vs[i]?=some vb:=by
   split at hh
   ·rename_i x h1
    cases hh
    exact⟨rfl,h1⟩
   ·split at hh <;> cases hh
  obtain⟨_,xs,k1,g1,v1⟩:=r.at e1 (le.at ea)
  obtain⟨x,hx,rx⟩:=v1.at hv.2
  have st:ES e it l i s.heap:=hit.2 _ fun q hq=>r.frAt (Zz4 _ hq)
  have Wk:=WalksT.enumerate (prog:=prog) (w:=w) (A:=Γ.A) Γ.hh e it l hei hle hli xs.toArray
  have isl1:s.heap.IsList l xs.toArray:=⟨_,g1,rfl,k1,rfl⟩
  have hi:i<xs.toArray.size:=by
   have h1:=(Zz6.mp hx).1
   simpa using h1
  refine Wk.item i s Q E hi ⟨st.1,st.2,isl1⟩ fun T vals h1 t1 hp hT hTup hmid keep1=>post T h1 t1 ?_
  intro elts k pos s1 Q1 E1 es1 q1
  subst es1
  have hTw:=Wk.apart i T _ hmid
  refine Wk.go elts k pos i T _ Q1 E1 hmid fun h2 st2 keep2=>?_
  obtain⟨tk,x',hx',ev⟩:=hp
  have ex:x'=x:=by
   have:xs[i]?=some x':=by simpa using hx'
   rw[hx]at this
   exact(Option.some.inj this).symm
  subst ex ev
  obtain⟨fs',hit',at'⟩:=Zse (h:=h2) (⟨st2.1,st2.2.1⟩:ES e it l (i+1) h2)
  obtain⟨oT,gT,cT,nT,dT⟩:=hTup
  refine q1 fs' h2 (.int i tk) x' hit' ?_ ⟨oT,keep2 T oT hTw gT,cT,nT,dT⟩ (by rw[hv.1];exact .int _ _) rx
  refine r.swap (fs':=fs') (fun q hq t ht=>?_) (fun c o hc e=>?_) fun q hq=>⟨at' q hq,?_⟩
  ·exact ap _ (hit.1▸List.mem_map_of_mem hq) t ht
  ·rw[hit.1]at hc
   exact keep2 c o hc (keep1 c o hc e)
  ·rw[hit.1,←hit'.1]
   exact List.mem_map_of_mem hq
 ·intro i W ρ H fr fs s Q E le r ap hit hn post
  obtain⟨vs,e1,hh⟩:=Zz0.mp hn
  obtain⟨_,xs,k1,g1,v1⟩:=r.at e1 (le.at ea)
  have hi:i=vs.length:=by
   split at hh
   ·cases hh
   ·split at hh
    ·assumption
    ·cases hh
  have st:ES e it l i s.heap:=hit.2 _ fun q hq=>r.frAt (Zz4 _ hq)
  have Wk:=WalksT.enumerate (prog:=prog) (w:=w) (A:=Γ.A) Γ.hh e it l hei hle hli xs.toArray
  have hm:xs.toArray.size=i:=by simp[v1.length,hi]
  refine Wk.done s Q E (by rw[hm];exact⟨st.1,st.2,⟨_,g1,rfl,k1,rfl⟩⟩) fun h' tk keep=>post h' tk ?_
  have:=r.swap (fs':=[]) (fun q hq t ht=>ap _ (hit.1▸List.mem_map_of_mem hq) t ht) (fun c o hc e=>keep c o (by rw[hit.1]at hc;exact hc) e) (fun q hq=>nomatch hq)
  exact this
 ·intro i W ρ H fr fs s Q E o le r hit hn q
  obtain⟨vs,e1,hh⟩:=Zz0.mp hn
  obtain⟨_,xs,k1,g1,v1⟩:=r.at e1 (le.at ea)
  have st:ES e it l i s.heap:=hit.2 _ fun q hq=>r.frAt (Zz4 _ hq)
  have Wk:=WalksT.enumerate (prog:=prog) (w:=w) (A:=Γ.A) Γ.hh e it l hei hle hli xs.toArray
  exact Wk.self i s Q E ⟨st.1,st.2,⟨_,g1,rfl,k1,rfl⟩⟩ q
theorem Zxb{x:Str}{np pos:Pos}{e1:Expr}{f:Ex}(hn:Nm prog w Γ x (.type "enumerate"))(h1:J prog w Γ e1 f)
  (he:starEach [e1] Γ.env=(false,eval e1 Γ.env)::starEach [] Γ.env:=by rfl) (hp:∀pos,(backTo pos (starEach [] Γ.env)).any (·.1)=false:=by intro _;rfl):JI2 prog w Γ (.Call (.Name x np) [e1] [] pos) (ZkA f):=by
 intro W ρ H fr s Q E nx n H' r hf post
 obtain⟨p,a1,hf⟩:=Zz0.mp hf
 refine wpAny_Call_ofName (hn.use r ?_)
 refine PySem.Pv.callWith_type1 (wpAny_items_cons (h1 W ρ H fr s _ E _ _ r a1 fun W1 k1 t1 y1 l1 r1 v1=>wpAny_items_nil ?_) he) he (hp pos)
 obtain⟨u1,H1⟩:=p
 simp only at hf v1 r1
 cases u1 <;> first | (cases hf;done) | skip
 rename_i b1
 obtain⟨vs,c1,c3⟩:=Zz1.mp hf
 cases c3
 cases v1 with
 | @ref _ m1 ea=>
 obtain⟨_,xs,n1,g1,w1⟩:=r1.at c1 ea
 have isl1:k1.IsList m1 xs.toArray:=⟨_,g1,rfl,n1,rfl⟩
 refine call_enumerate_list (s:={ s with heap:=k1,toks:=t1 }) isl1 fun h₁ hE hI hsz up=>?_
 have hlt:m1<k1.objs.size:=Heap.lt_size g1
 have Wk:=WalksT.enumerate (prog:=prog) (w:=w) (A:=Γ.A) Γ.hh (k1.objs.size+1) k1.objs.size m1 (Nat.succ_ne_self _) (Nat.ne_of_lt (Nat.lt_succ_of_lt hlt)) (Nat.ne_of_lt hlt) xs.toArray
 have zs:ES (k1.objs.size+1) k1.objs.size m1 0 h₁:=⟨⟨_,hE⟩,hI⟩
 refine Wk.self 0 _ _ _ ⟨⟨_,hE⟩,hI,isl1.at fun o e=>up _ o e⟩ ?_
 obtain⟨fs,hit,at'⟩:=Zse zs
 obtain⟨r3,ap3⟩:=r1.more (fs:=fs) (h':=h₁) (fun b o e=>up b o e) (fun q hq=>⟨at' q hq,by
  have:q.1∈fs.map (·.1):=List.mem_map_of_mem hq
  rw[hit.1]at this
  simp at this
  rcases this with e | e <;> rw[e] <;> omega⟩)
 refine post W1 h₁ t1 _ _ _ fs l1 hit r3 (fun b hb t ht=>?_) (Zyu ea (Nat.succ_ne_self _) (Nat.ne_of_lt (Nat.lt_succ_of_lt hlt)) (Nat.ne_of_lt hlt)) ?_
 ·rw[←hit.1]at hb
  obtain⟨q,hq,e⟩:=Zz11.mp hb
  exact e▸ap3 q hq t ht
 ·simp only[ZhY,c1,Option.bind_some]
  cases q:vs[0]? with
  | some x=>exact⟨_,rfl⟩
  | none=>
   have:vs.length=0:=by simpa using q
   simp[this]
theorem ZzZ{e1 e2 e3:Expr}{es:List Expr}{pos:Pos}{f g:Ex}(h1:J prog w Γ e1 f)(h2:J prog w Γ (.BoolOp .And (e2::e3::es) pos) g) (he:eval (.BoolOp .And (e1::e2::e3::es) pos) Γ.env=(do
  let v ←eval e1 Γ.env
  standAt pos
  let t ←holding [v] (truthy v)
  match BoolOp.And,t with
  | .And,false | .Or,true=>pure v
  | _,_=>eval (.BoolOp .And (e2::e3::es) pos) Γ.env):=by rfl):J prog w Γ (.BoolOp .And (e1::e2::e3::es) pos) (Zda f g):=by
 intro W ρ H fr s Q E v H' r hf post
 obtain⟨p,a1,hf⟩:=Zz0.mp hf
 obtain⟨b,a2,a3⟩:=Zz0.mp hf
 rw[he]
 refine wpAny_bind (wpAny_mono (h1 W ρ H fr s (fun x s₁=>wpAny (model prog w) Γ.A (truthy x) (fun t s₂=>if t then wpAny (model prog w) Γ.A (eval (.BoolOp .And (e2::e3::es) pos) Γ.env) Q E s₂ else Q x s₂) E s₁) E _ _ r a1 fun W1 k1 t1 x l1 r1 x1=>?_) (fun v s₁ h₁=>wpAny_bind (wpAny_standAt (wpAny_bind (wpAny_holding (wpAny_mono h₁ (fun t s₂ h₂=>?_) fun _ _ x=>x))))) fun _ _ x=>x)
 ·refine truth Γ W1 ρ _ fr _ _ E _ x b r1 x1 a2 fun W2 k2 t2 l2 r2=>?_
  cases b with
  | true=>exact h2 W2 ρ _ fr _ Q E _ H' r2 a3 fun W3 k3 t3 z l3 r3 z3=>post W3 k3 t3 z ((l1.trans l2).trans l3) r3 z3
  | false=>
   cases a3
   exact post W2 k2 t2 x (l1.trans l2) r2 (x1.mono l2)
 ·cases t with
  | false=>exact wpAny_pure h₂
  | true=>exact h₂
end
end PM
end
section
namespace TM
open PySem PM
noncomputable def ZfT(a b:T): Option Bool:=(ZcL ZbG a).bind fun d=>(ZcL ZbG b).bind fun e=>inD d e
noncomputable def qIn(a b:T): Option T:=(ZfT a b).map .bool
theorem ZAa{H:Hp}{v1 v2:V}{t1 t2:T}{F1 F2:List Nat}(r1:RF H v1 t1 F1)(r2:RF H v2 t2 F2): Zqf v1 v2 H=ZfT t1 t2:=by
 simp only[Zqf,ZfT,Zkd ZbG _ _ _ r1,Zkd ZbG _ _ _ r2]
theorem ZgR: OA2 oIn qIn:=fun H v1 v2 t1 t2 t F1 F2 r1 r2 h=>by
 obtain⟨c,h1,h⟩:=Zz1.mp h
 subst h
 exact⟨_,by simp only[oIn,ZAa r1 r2,h1,Option.map_some],.bool _⟩
theorem ZpG{d:T}: ∀{ts:List T},(∀t∈ts,(PyData.eqv (dd t) (dd d)=true↔t=d))→((dds ts).any fun y=>PyData.eqv y (dd d))=dec (d∈ts)
 | [],_=>by simp[dds,ZaO]
 | t::ts,h=>by
  have ih:=ZpG (d:=d) (ts:=ts) fun t m=>h t (Zz2 _ m)
  simp only[dds,List.any_cons,ih]
  symm
  apply Zkf
  rw[Bool.or_eq_true,h t Zz5,dec_iff]
  simp[eq_comm]
theorem ZAb{n m:Nat}{a:T}{ts:List T}(ha:Pln n a)(hb:Pln m (.lst ts))(hn:n≤8:=by decide)(hm:m≤8:=by decide): ZfT a (.lst ts)=some (dec (a∈ts)):=by
 have ha:=ha.mono hn
 have hb:=hb.mono hm
 obtain⟨a1,a2,a3⟩:=ha.dat
 obtain⟨b1,b2,b3⟩:=hb.dat
 unfold ZfT ZbG
 rw[a1,b1]
 simp only[Option.bind_some,dd,inD]
 simp only[dd,PyData.canLay0]at b2
 rw[if_pos ⟨b2,a2,by omega⟩,ZpG]
 intro t m
 cases hb with
 | lst hs=>exact(hs t m).eqv ha
section
variable {Q:T→Prop}
theorem ZkB{n m:Nat}{a:T}{ts:List T}(ha:Pln n a)(hb:Pln m (.lst ts))(h:Q (.bool (dec (a∈ts))))(hn:n≤8:=by decide)(hm:m≤8:=by decide): Pk (qIn a (.lst ts)) Q:=⟨_,by simp only[qIn,ZAb ha hb hn hm,Option.map_some],h⟩
end
noncomputable def ZfK(ts:List T): List T:=List.zipWith (fun i t=>.tup [.int (i:Nat),t]) (List.range ts.length) ts
noncomputable def ZkC(p:PE): PG:=fun σ=>(p σ).bind fun t=>match t with
 | .lst ts=>some (ZfK ts)
 | _=>none
theorem Zxc{ts:List T}: (ZfK ts).length=ts.length:=by simp[ZfK]
theorem ZrG{H:Hp}: ∀{vs:List V} {ts:List T} {F:List Nat} (k:Nat),RFs H vs ts F→RFs H (List.zipWith (fun i v=>V.tup [.int (i:Nat),v]) (List.range' k ts.length) vs) (List.zipWith (fun i t=>T.tup [.int (i:Nat),t]) (List.range' k ts.length) ts) F
 | _,_,_,_,.nil=>.nil
 | _,_,_,k,.cons a b=>by
  rw[List.length_cons,List.range'_succ]
  have h1:RF H (V.tup [.int (k:Nat),_]) (T.tup [.int (k:Nat),_]) _:=.tup (.cons (.int _) (.one a))
  simpa using RFs.cons h1 (ZrG (k+1) b)
theorem Zyv{O N:List Nat}{u:Bool}{e:Ex}{p:PE}(x:E O N u e p): Gs O N (ZkA e) (ZkC p):=fun c ρ σ H Φ ts s h=>by
 obtain⟨t1,h1,h⟩:=Zz0.mp h
 obtain⟨v,X,F,a1,a2,a3,a4⟩:=x c ρ σ H Φ t1 s h1
 have hlt:=a2.lt
 cases a2 with
 | none=>cases h
 | bool=>cases h
 | int=>cases h
 | str=>cases h
 | tup=>cases h
 | @ref b vs us F' e1 hs=>
  cases h
  have hl:=hs.length
  refine⟨ZhY b,X,List.zipWith (fun i v=>V.tup [.int (i:Nat),v]) (List.range us.length) vs,F',b::F',by simp only[ZkA,a1,Option.bind_some,e1,Option.map_some,Zxc,hl],?_,fun _ m=>List.mem_cons_of_mem _ m,fun a m=>⟨hlt a m,a3 a m⟩,fun K hK i hi=>?_⟩
  ·have:=ZrG 0 hs
   unfold ZfK
   rw[List.range_eq_range']
   exact this
  ·simp only[ZhY,hK b Zz5,e1,Option.bind_some,List.getElem?_zipWith]
   simp only[List.length_zipWith,List.length_range]at hi
   by_cases q:i<vs.length
   ·rw[List.getElem?_eq_getElem q,List.getElem?_range (by omega)]
   ·rw[List.getElem?_eq_none (by omega),List.getElem?_eq_none (by simp;omega)]
    simp
    omega
theorem Zxd{n:Nat}{f:Nat→T}: ZfK (tab n f)=tab n fun i=>.tup [.int (i:Nat),f i]:=by
 unfold ZfK
 rw[Zap]
 have:List.range n=tab n fun i=>i:=by simp[tab]
 rw[this,Zsb,Nat.min_self]
section
variable {σ:TL} {L:List T→Prop}
def EnP(x:T)(L:List T→Prop): Prop:=∃ts,x=.lst ts∧L (ZfK ts)
theorem Zyw{f:PE}(h:Pk (f σ) fun t=>EnP t L): Pl (ZkC f σ) L:=by
 obtain⟨t,a,ts,rfl,q⟩:=h;exact⟨_,by simp only[ZkC,a,Option.bind_some],q⟩
theorem Zyx{n:Nat}{f:Nat→T}(h:L (TM.tab n fun i=>.tup [.int (i:Nat),f i])): EnP (.lst (TM.tab n f)) L:=⟨_,rfl,by rw[Zxd];exact h⟩
end
noncomputable def ZkD(g:PG)(put:T→TL→Option TL)(b:PS): PS:=fun σ=>(g σ).bind fun ts=>if ts=[]then none else ZfS put b σ ts
end TM
end
section
namespace PM
open PySem PySem.W PySem.Calls PyProof.Rows PyProof
noncomputable def ZhZ(o1 o2:V→V→Hp→Option (V×Hp))(f g h:Ex): Ts:=fun ρ H=>(f ρ H).bind fun p=>(g ρ p.2).bind fun q=>(o1 p.1 q.1 q.2).bind fun u=>(ZcR u.1 u.2).bind fun b=>if b then(h ρ u.2).bind fun x=>(o2 q.1 x.1 x.2).bind fun y=>(ZcR y.1 y.2).map fun c=>(c,y.2)else some (false,u.2)
section
variable {prog:Program} {w:World} {Γ:Cx}
theorem Zxe{e1 e2 e3:Expr}{op1 op2:CmpOp}{pos:Pos}{f g h:Ex}{o1 o2:V→V→Hp→Option (V×Hp)}(h1:J prog w Γ e1 f)(h2:J prog w Γ e2 g)(h3:J prog w Γ e3 h)(k1:Op2 prog w (compareOp op1) o1)(k2:Op2 prog w (compareOp op2) o2)(hm:lastMarks [op1,op2] [e2,e3]=false:=by with_unfolding_all rfl): JT prog w Γ (.Compare e1 [op1,op2] [e2,e3] pos) (ZhZ o1 o2 f g h):=by
 intro W ρ H fr s Q E b H' r hf post
 obtain⟨p,a1,hf⟩:=Zz0.mp hf
 obtain⟨q,a2,hf⟩:=Zz0.mp hf
 obtain⟨u,a3,hf⟩:=Zz0.mp hf
 obtain⟨c,a4,hf⟩:=Zz0.mp hf
 refine isTrue_chain (h1 W ρ H fr s _ E _ _ r a1 fun W1 n1 t1 x l1 r1 x1=>?_) hm
 refine test_link (h2 W1 ρ _ fr _ _ E _ _ r1 a2 fun W2 n2 t2 y l2 r2 y2=>?_)
 refine k1 Γ W2 ρ _ fr _ _ E _ _ x y _ _ r2 (x1.mono l2) y2 a3 fun W3 n3 t3 z l3 r3 z3=>?_
 refine truth Γ W3 ρ _ fr _ _ E _ z c r3 z3 a4 fun W4 n4 t4 l4 r4=>?_
 cases c with
 | false=>
  cases hf
  exact post W4 n4 t4 (((l1.trans l2).trans l3).trans l4) r4
 | true=>
  simp only[if_true]at hf
  obtain⟨v,a5,hf⟩:=Zz0.mp hf
  obtain⟨v2,a6,hf⟩:=Zz0.mp hf
  obtain⟨d,a7,a8⟩:=Zz1.mp hf
  cases a8
  refine test_last (h3 W4 ρ _ fr _ _ E _ _ r4 a5 fun W5 n5 t5 y5 l5 r5 x5=>?_)
  refine k2 Γ W5 ρ _ fr _ _ E _ _ y y5 _ _ r5 (((y2.mono l3).mono l4).mono l5) x5 a6 fun W6 n6 t6 z6 l6 r6 x6=>?_
  exact truth Γ W6 ρ _ fr _ _ E _ z6 b r6 x6 a7 fun W7 n7 t7 l7 r7=>post W7 n7 t7 ((((((l1.trans l2).trans l3).trans l4).trans l5).trans l6).trans l7) r7
end
end PM
end
section
namespace TM
open PySem PM
section
variable {O N M K:List Nat} {u u' u'':Bool}
noncomputable def Zh0(q1 q2:T→T→Option T)(p1 p2 p3:PE): PB:=fun σ=>(p1 σ).bind fun x=>(p2 σ).bind fun y=>(q1 x y).bind fun z=>(ZbK z).bind fun b=>if b then(p3 σ).bind fun v=>(q2 y v).bind ZbK else some false
theorem Zxf{e1 e2 e3:Ex}{p1 p2 p3:PE}{q1 q2:T→T→Option T}{o1 o2:V→V→Hp→Option (V×Hp)}(k1:OA2 o1 q1)(k2:OA2 o2 q2)(x:E O N u e1 p1)(y:E O M u' e2 p2)(z:E O K u'' e3 p3): Bt O (ZhZ o1 o2 e1 e2 e3) (Zh0 q1 q2 p1 p2 p3):=fun c ρ σ H Φ b s h=>by
 obtain⟨t1,h1,h⟩:=Zz0.mp h
 obtain⟨t2,h2,h⟩:=Zz0.mp h
 obtain⟨t3,h3,h⟩:=Zz0.mp h
 obtain⟨b0,h4,h⟩:=Zz0.mp h
 obtain⟨v1,X,F,a1,a2,_,_⟩:=x c ρ σ H Φ t1 s h1
 obtain⟨v2,Y,G,b1,b2,_,_⟩:=y c ρ σ (H++X) Φ t2 (s.ext X) h2
 obtain⟨v3,c1,c2⟩:=k1 _ v1 v2 t1 t2 t3 F G (a2.ext Y) b2 h3
 have d1:=Zex c2 h4
 cases b0 with
 | false=>
  cases h
  exact⟨X++Y,by simp only[ZhZ,a1,b1,Option.bind_some,c1,d1];simp⟩
 | true=>
  simp only[if_true]at h
  obtain⟨t5,h5,h⟩:=Zz0.mp h
  obtain⟨t6,h6,h⟩:=Zz0.mp h
  obtain⟨v5,Z,F5,e1,e2,_,_⟩:=z c ρ σ (H++X++Y) Φ t5 ((s.ext X).ext Y) h5
  obtain⟨v6,f1,f2⟩:=k2 _ v2 v5 t2 t5 t6 G F5 (b2.ext Z) e2 h6
  have g1:=Zex f2 h
  exact⟨X++Y++Z,by simp only[ZhZ,a1,b1,Option.bind_some,c1,d1,if_true,e1,f1,g1,Option.map_some];simp⟩
def OIn(o:List V→Hp→Option (V×Hp))(q:List T→Option T): Prop:=∀(H:Hp) (vs:List V) (ts:List T) (t:T) (F1:List Nat),RFs H vs ts F1→q ts=some t→∃v F,o vs H=some (v,H)∧RF H v t F∧F.Sublist F1
theorem Zyy{n:Nat}{es:Exs}{ps:PEs}{q:List T→Option T}{o:List V→Hp→Option (V×Hp)}(k:OIn o q)(x:Es O N u n es ps): E O N u (Zq o es) (Zr q ps):=fun c ρ σ H Φ t s h=>by
 obtain⟨ts,h1,h⟩:=Zz0.mp h
 obtain⟨_,vs,X,F,a1,a2,a3,a4⟩:=x c ρ σ H Φ ts s h1
 obtain⟨w,G,b1,b2,b3⟩:=k _ vs ts t F a2 h
 exact⟨w,X,G,by simp only[Zq,a1,Option.bind_some,b1],b2,fun a m=>a3 a (b3.subset m),fun hu=>(a4 hu).sublist b3⟩
theorem Zxg: OIn Zgv ZjT:=fun H vs ts t F r h=>by
 unfold ZjT at h
 split at h
 ·obtain⟨v,rfl,r'⟩:=r.one_inv
  cases r' with
  | @ref a vs1 _ F1 e hs=>cases h;exact⟨.tup vs1,F1,by simp only[Zgv,e,Option.map_some],.tup hs,List.sublist_cons_self _ _⟩
 ·obtain⟨v,rfl,r'⟩:=r.one_inv
  cases r' with
  | @tup vs1 _ _ hs=>cases h;exact⟨.tup vs1,_,by simp only[Zgv],.tup hs,List.Sublist.refl _⟩
 ·cases h
end
theorem ZAc{O O1 R J Ns:List Nat}{fr:Bool}{g:Src}{q:PG}{put:V→Lc→Option Lc}{pput:T→TL→Option TL}{b:Sm}{qb:PS}(hg:Gs O Ns g q)(hj:PutOk O J put pput)(hj1:PutOk O1 J put pput)(hJ:∀i∈J,i∉O)(hJ1:∀i∈J,i∉O1)(hN:∀i∈Ns,i∉O)(hb:S O O1 R fr b qb)(hb1:S O1 O1 R fr b qb): S O O1 R fr (ZaX g put b) (ZkD q pput qb):=fun c ρ σ H Φ r s h=>by
 obtain⟨ts,h1,h⟩:=Zz0.mp h
 obtain⟨nx,X,vs,F,G,g1,g2,g3,g4,g5⟩:=hg c ρ σ H Φ ts s h1
 split at h
 ·cases h
 ·rename_i hne
  cases ts with
  | nil=>exact absurd rfl hne
  | cons t rs=>
   cases g2 with
   | @cons v _ F1 ws _ F2 a b'=>
   have sx:=s.ext X
   have hsrc:∀a∈G,c.H0.length≤a∨c.P a:=fun a m=>s.from_src (g4 a m).2
   have hoff:∀a∈G,¬Zc0 O σ Φ a:=fun a m ⟨k,hk,⟨t,e⟩,q⟩=>s.from_off hN (g4 a m).2 hk e q
   obtain⟨σ1,p0,h⟩:=Zz0.mp h
   obtain⟨r1,h2,h⟩:=Zz0.mp h
   obtain⟨ρ1,Φ1,p1,s1,p3,p4⟩:=hj c ρ σ (H++X) Φ v t F1 σ1 sx a (fun x m=>hsrc x (g3 x (Zz4 _ m))) (fun k hk t' e x m q=>hoff x (g3 x (Zz4 _ q)) ⟨k,hk,⟨t',e⟩,m⟩) p0
   have hh:∀x,Zc0 O σ1 Φ1 x→Zc0 O σ Φ x:=fun x ⟨k,hk,⟨t',e⟩,m⟩=>by
    obtain⟨q1,q2⟩:=p3 k fun q=>hJ k q hk
    exact⟨k,hk,⟨t',q1▸e⟩,q2▸m⟩
   obtain⟨ρ2,K2,Φ2,w1,w2,w3⟩:=hb c ρ1 σ1 (H++X) Φ1 r1 s1 h2
   have e0:nx 0 (H++X)=some (some v):=by have:=g5 (H++X) (fun _ _=>rfl) 0 (Nat.zero_le _);simpa using this
   have estep:ZaX g put b ρ H=(b ρ1 (H++X)).bind fun q=>match q.1 with
     | some _=>some q
     | none=>Zc9 nx put b (rs.length+1) 1 q.2.1 q.2.2:=by
    simp only[ZaX,g1,Option.bind_some,List.length_cons]
    show(nx 0 (H++X)).bind _=_
    rw[e0]
    first | (simp only[Option.bind_some,p1];done) | (simp only[Option.bind_some,p1];rfl)
   rw[estep]
   refine Aft.grow (X:=X) ?_
   rcases w3 with⟨k1,k2,k3,k4⟩ | ⟨t',v',F',k1,k2,k3⟩
   ·rw[k1]at h
    have hG2:∀a∈G,K2[a]?=(H++X)[a]?:=fun x m=>w2 x (g4 x m).1 fun q=>hoff x m (hh x q)
    have hoff2:∀a∈G,¬Zc0 O1 r1.2 Φ2 a:=fun x m q=>by
     rcases k4 x q with q | q
     ·have:=(g4 x m).1;omega
     ·exact hoff x m (hh x q)
    have ih:=ZoA hj1 hJ1 hb1 (H1:=H++X) (fun a m=>(g4 a m).1) hsrc g5 rs ws 1 ρ2 r1.2 K2 Φ2 F2 r (fun j=>by rw[Nat.add_comm];simp) (by simp;omega) k3 w1 hG2 hoff2 (b'.frame fun x m=>hG2 x (g3 x (Zz3 _ m))) (fun x m=>g3 x (Zz3 _ m)) h
    rw[k2]
    simp only[Option.bind_some]
    obtain⟨ρ3,K3,Φ3,l1,l2,l3⟩:=ih
    refine⟨ρ3,K3,Φ3,by omega,fun x hx hn=>?_,?_⟩
    ·rw[l2 x (by omega) fun q=>(k4 x q).elim (fun q=>by omega) fun q=>hn (hh x q),w2 x hx fun q=>hn (hh x q)]
    ·rcases l3 with⟨m1,m2,m3,m4⟩ | l
     ·refine .inl ⟨m1,m2,m3,fun x q=>?_⟩
      rcases m4 x q with q | q
      ·exact .inl (by omega)
      ·exact(k4 x q).imp id (hh x)
     ·exact .inr l
   ·rw[k1]at h
    cases h
    refine⟨ρ2,K2,Φ2,w1,fun x hx hn=>w2 x hx fun q=>hn (hh x q),.inr ⟨t',v',F',k1,?_,k3⟩⟩
    rw[k2]
    rfl
section
variable {σ:TL} {Q:T→Prop} {B:Bool→Prop} {R:T→Prop} {N:TL→Prop}
theorem Zxh{q1 q2:T→T→Option T}{f g h:PE}(k:Pk (f σ) fun x=>Pk (g σ) fun y=>Pk (q1 x y) fun z=>Pb (ZbK z) fun b=>(b=true→Pk (h σ) fun v=>Pk (q2 y v) fun w=>Pb (ZbK w) B)∧(b=false→B false)): Pb (Zh0 q1 q2 f g h σ) B:=by
 obtain⟨x,a1,y,a2,z,a3,b,a4,k1,k2⟩:=k
 cases b with
 | false=>exact⟨false,by simp[Zh0,a1,a2,a3,a4],k2 rfl⟩
 | true=>
  obtain⟨v,b1,w,b2,c,b3,q⟩:=k1 rfl
  exact⟨c,by simp[Zh0,a1,a2,a3,a4,b1,b2,b3],q⟩
theorem Zyz{g:PG}{j n:Nat}{a:Nat→T}{b:PS}(hn:0<n)(hg:Pl (g σ) fun ts=>ts=tab n a)(P:Nat→TL→Prop)(h0:P 0 σ)(h1:∀i σ,i<n→P i σ→Psk (b (Z7 σ j (a i))) R (P (i+1)))(h2:∀σ,P n σ→N σ): Psk (ZkD g (Zam j) b σ) R N:=by
 obtain⟨o,s,e,q⟩:=Zc8 (R:=R) (N:=N) (b:=b) (j:=j) hg P h0 h1 h2
 obtain⟨ts,e1,rfl⟩:=hg
 refine⟨o,s,?_,q⟩
 have hne:tab n a≠[]:=fun h=>by have:=congrArg List.length h;rw[Zap]at this;simp at this;omega
 simp only[ZkD,e1,Option.bind_some,hne,if_false]
 simpa only[Za2,e1,Option.bind_some]using e
end
end TM
end
section
namespace TM
open PySem PM
theorem Zwi{fr:Bool}: SimF fr (fun _ _=>none) (fun _=>none):=by
 intro H vs ts t F1 hp r h
 cases h
end TM
end
section
namespace TM
open PySem PM
def Keep0(g:Sm): Prop:=∀ρ H r,g ρ H=some r→r.2.1 0=ρ 0
theorem Keep0.next: Keep0 ZW:=fun ρ H r h=>by cases h;rfl
theorem Zgl{e:Ex}: Keep0 (Zb8 e):=fun ρ H r h=>by
 obtain⟨_,_,q⟩:=Zz1.mp h
 subst q;rfl
theorem Keep0.ret{e:Ex}: Keep0 (ZD e):=fun ρ H r h=>by
 obtain⟨_,_,q⟩:=Zz1.mp h
 subst q;rfl
theorem Keep0.put{f o i:Ex}: Keep0 (ZbP f o i):=fun ρ H r h=>by
 obtain⟨_,_,h⟩:=Zz0.mp h
 obtain⟨_,_,h⟩:=Zz0.mp h
 obtain⟨_,_,h⟩:=Zz0.mp h
 obtain⟨_,_,q⟩:=Zz1.mp h
 subst q;rfl
theorem Keep0.seq{a b:Sm}(x:Keep0 a)(y:Keep0 b): Keep0 (Zt a b):=fun ρ H r h=>by
 obtain⟨r1,e1,h⟩:=Zz0.mp h
 have h1:=x ρ H r1 e1
 split at h
 ·cases h;exact h1
 ·exact(y _ _ _ h).trans h1
theorem Zgm{t:Ts}{a b:Sm}(x:Keep0 a)(y:Keep0 b): Keep0 (ZU t a b):=fun ρ H r h=>by
 obtain⟨p,_,h⟩:=Zz0.mp h
 split at h
 ·exact x _ _ _ h
 ·exact y _ _ _ h
theorem Keep0.set{i:Nat}{e:Ex}(hi:0≠i): Keep0 (ZN i e):=fun ρ H r h=>by
 obtain⟨_,_,q⟩:=Zz1.mp h
 subst q
 simp[upd,hi]
def SimM(f:List V→Hp→Option (V×Hp))(p:List T→Option T): Prop:=∀(H:Hp) (v:V) (vs:List V) (t:T) (ts:List T) (t':T) (F0 F1:List Nat),0<H.length→RF H v t F0→F0.Nodup→0∉F0→RFs H vs ts F1→(∀a∈F0,a∉F1)→p (t::ts)=some t' →
 ∃w H' F',f (v::vs) H=some (w,H')∧H.length≤H'.length∧(∀a,a<H.length→a∉F0→H'[a]?=H[a]?)∧RF H' v t' F'∧F'.Nodup∧∀a∈F',H.length≤a∨a∈F0
noncomputable def Zdv(n:Nat)(q:PS): List T→Option T:=fun ts=>if ts.length=n then(q fun i=>ts[i]?).bind fun r=>r.2 0 else none
theorem SimM.of{O':List Nat}{n:Nat}{g:Sm}{q:PS}(h:S [0] O' [0] false g q)(h0:0∈O')(hk:Keep0 g): SimM (ZT n g) (Zdv n q):=fun H v vs t ts t' F0 F1 hp r0 nd n0 rs dj e=>by
 unfold Zdv at e
 split at e
 ·rename_i hl
  obtain⟨r1,e1,e2⟩:=Zz0.mp e
  obtain⟨Φ,hΦ⟩:=rs.slots
  have st:St ⟨H,F0,fun a=>a∈F0∨a∈F1⟩ [0] (fun i=>(v::vs)[i]?) (fun i=>(t::ts)[i]?) H (fun i=>match i with | 0=>F0 | i+1=>Φ i):=by
   refine⟨fun i u e=>?_,fun i u e a m=>?_,fun i hi u e=>?_,Nat.le_refl _,fun a _ _=>rfl,hp,n0⟩
   ·cases i with
    | zero=>simp at e;subst e;exact⟨v,rfl,r0⟩
    | succ i=>
     simp at e
     obtain⟨w,h1,h2,_⟩:=hΦ i u e
     exact⟨w,by simpa using h1,h2⟩
   ·cases i with
    | zero=>exact .inr (.inl m)
    | succ i=>
     simp at e
     obtain⟨w,h1,h2,h3⟩:=hΦ i u e
     exact .inr (.inr (h3 a m))
   ·have:i=0:=by simpa using hi
    subst this
    refine⟨nd,fun a m=>.inr m,fun j u' hj ej a m=>?_⟩
    cases j with
    | zero=>exact absurd rfl hj
    | succ j=>
     simp at ej
     obtain⟨w,h1,h2,h3⟩:=hΦ j u' ej
     exact fun q=>dj a m (h3 a q)
  obtain⟨ρ',H',Φ',h1,h2,h3⟩:=h _ _ _ _ _ _ st e1
  have hv:(v::vs).length=n:=by rw[←hl];simp[rs.length]
  have go:∀(o:Option V) (O2:List Nat),0∈O2→g (fun i=>(v::vs)[i]?) H=some (o,ρ',H')→St ⟨H,F0,fun a=>a∈F0∨a∈F1⟩ O2 ρ' r1.2 H' Φ'→∃w H' F',ZT n g (v::vs) H=some (w,H')∧H.length≤H'.length∧(∀a,a<H.length→a∉F0→H'[a]?=H[a]?)∧RF H' v t' F'∧F'.Nodup∧∀a∈F',H.length≤a∨a∈F0:=by
   intro o O2 hO eg s2
   obtain⟨v',ev,rv⟩:=s2.slot 0 t' e2
   have kk:=hk _ _ _ eg
   have:v'=v:=by
    have k2:ρ' 0=some v:=kk
    rw[ev]at k2
    cases k2
    rfl
   subst this
   obtain⟨o1,o2,_⟩:=s2.own 0 hO t' e2
   exact⟨o.getD .none,H',Φ' 0,by simp only[ZT,hv,if_true,eg,Option.map_some],h1,s2.keep,rv,o1,o2⟩
  rcases h3 with⟨k1,k2,k3,k4⟩ | ⟨u,v',F',k1,k2,k3,k4,k5,k6⟩
  ·exact go none O' h0 k2 k3
  ·exact go (some v') [0] List.mem_cons_self k2 k4
 ·cases e
noncomputable def ZdO(x:Nat)(p:List T→Option T)(ps:PEs): PS:=fun σ=>(ps σ).bind fun ts=>(σ x).bind fun t=>(p (t::ts)).map fun t'=>(none,Z7 σ x t')
section
variable {O O' R N:List Nat} {fr u:Bool}
theorem Zfz{x n:Nat}{f:List V→Hp→Option (V×Hp)}{p:List T→Option T}{es:Exs}{ps:PEs}(hx:x∈O)(k:SimM f p)(y:Es O N u n es ps)(hN:x∉N)(hO:∀j∈O',j∈O): S O O' R fr (Zb8 (Zq f (Zd (Za x) es))) (ZdO x p ps):=fun c ρ σ H Φ r s q=>by
 obtain⟨ts,h1,q⟩:=Zz0.mp q
 obtain⟨t,h2,q⟩:=Zz0.mp q
 obtain⟨t',h3,q⟩:=Zz1.mp q
 subst q
 obtain⟨v,ev,rv⟩:=s.slot x t h2
 obtain⟨o1,o2,o3⟩:=s.own x hx t h2
 have hlow:∀k t,σ k=some t→∀a∈Φ k,a<H.length:=fun k t e a m=>by
  obtain⟨_,_,r⟩:=s.slot k t e
  exact r.lt a m
 obtain⟨_,vs,X,F,a1,a2,a3,_⟩:=y c ρ σ H Φ ts s h1
 have hp:0<(H++X).length:=by have:=s.pos;have:=s.len;rw[List.length_append];omega
 have hlen:(H++X).length=H.length+X.length:=List.length_append
 have dj:∀a∈Φ x,a∉F:=fun a m q=>by
  rcases a3 a q with h | ⟨j,hj,⟨tj,ej⟩,mj⟩
  ·have:=hlow x t h2 a m;omega
  ·exact o3 j tj (fun e=>hN (e▸hj)) ej a m mj
 obtain⟨w,H',F',b1,b2,b3,b4,b5,b6⟩:=k (H++X) v vs t ts t' (Φ x) F hp (rv.ext X) o1 (fun m=>Zpa s hx h2 m rfl) a2 dj h3
 have same:∀a,a<H.length→a∉Φ x→H'[a]?=H[a]?:=fun a ha hn=>by
  rw[b3 a (by omega) hn,List.getElem?_append_left ha]
 have eg:Zb8 (Zq f (Zd (Za x) es)) ρ H=some (none,ρ,H'):=by
  simp only[Zb8,Zq,Zd,Za,ev,Option.map_some,Option.bind_some,a1,b1]
 refine⟨ρ,H',Zao Φ x F',by omega,fun a ha hn=>same a ha fun m=>hn ⟨x,hx,⟨t,h2⟩,m⟩,.inl ⟨rfl,eg,⟨fun i u' e=>?_,fun i u' e a m=>?_,fun i hi u' e=>?_,by have:=s.len;omega,fun a ha hn=>?_,s.pos,s.f0⟩,fun a hh=>?_⟩⟩
 ·by_cases c1:i=x
  ·subst c1
   simp only[Z7,if_true,Option.some.injEq]at e
   subst e
   exact⟨v,ev,by simpa [Zao]using b4⟩
  ·simp only[Z7,c1,if_false]at e
   obtain⟨v2,e2,r2⟩:=s.slot i u' e
   refine⟨v2,e2,?_⟩
   simp only[Zao,c1,if_false]
   exact r2.frame fun a m=>same a (hlow i u' e a m) fun q=>o3 i u' c1 e a q m
 ·by_cases c1:i=x
  ·subst c1
   simp only[Zao,if_true]at m
   rcases b6 a m with h | h
   ·exact .inl (by have:=s.len;omega)
   ·exact s.src i t h2 a h
  ·simp only[Z7,c1,if_false]at e
   simp only[Zao,c1,if_false]at m
   exact s.src i u' e a m
 ·by_cases c1:i=x
  ·subst c1
   refine⟨by simpa [Zao]using b5,fun a m=>?_,fun j u2 hj ej a m=>?_⟩
   ·simp only[Zao,if_true]at m
    rcases b6 a m with h | h
    ·exact .inl (by have:=s.len;omega)
    ·exact o2 a h
   ·simp only[Zao,if_true]at m
    simp only[Z7,hj,if_false]at ej
    simp only[Zao,hj,if_false]
    intro q
    have hq:=hlow j u2 ej a q
    rcases b6 a m with h | h
    ·omega
    ·exact o3 j u2 hj ej a h q
  ·simp only[Z7,c1,if_false]at e
   obtain⟨q1,q2,q3⟩:=s.own i (hO i hi) u' e
   refine⟨by simpa [Zao,c1]using q1,fun a m=>?_,fun j u2 hj ej a m=>?_⟩
   ·simp only[Zao,c1,if_false]at m
    exact q2 a m
   ·simp only[Zao,c1,if_false]at m
    by_cases c2:j=x
    ·subst c2
     simp only[Zao,if_true]
     intro q
     have hm:=hlow i u' e a m
     rcases b6 a q with h | h
     ·omega
     ·exact q3 j t hj h2 a m h
    ·simp only[Z7,c2,if_false]at ej
     simp only[Zao,c2,if_false]
     exact q3 j u2 hj ej a m
 ·have hs:=s.keep a ha hn
  rw[same a (by have:=s.len;omega) fun m=>?_]
  ·exact hs
  ·rcases o2 a m with h | h
   ·omega
   ·exact hn h
 ·obtain⟨j,hj,⟨u',e⟩,m⟩:=hh
  by_cases c1:j=x
  ·subst c1
   simp only[Zao,if_true]at m
   rcases b6 a m with h | h
   ·exact .inl (by omega)
   ·exact .inr ⟨j,hx,⟨t,h2⟩,h⟩
  ·simp only[Z7,c1,if_false]at e
   simp only[Zao,c1,if_false]at m
   exact .inr ⟨j,hO j hj,⟨u',e⟩,m⟩
end
section
variable {σ:TL} {R:T→Prop} {N:TL→Prop}
theorem ZfA{x:Nat}{p:List T→Option T}{ps:PEs}{t:T}(e:σ x=some t)(h:Pl (ps σ) fun ts=>Pk (p (t::ts)) fun t'=>N (Z7 σ x t')): Psk (ZdO x p ps σ) R N:=by
 obtain⟨ts,e1,t',e2,q⟩:=h
 exact⟨none,Z7 σ x t',by simp only[ZdO,e1,e,Option.bind_some,e2,Option.map_some],by simp,fun _=>q⟩
theorem ZjV{n:Nat}{q:PS}{ts:List T}{Q:T→Prop}(hn:ts.length=n)(h:Psk (q fun i=>ts[i]?) (fun _=>False) fun σ=>∃t,σ 0=some t∧Q t): Pk (Zdv n q ts) Q:=by
 obtain⟨o,s,e,h1,h2⟩:=h
 cases o with
 | none=>
  obtain⟨t,e2,q2⟩:=h2 rfl
  exact⟨t,by simp only[Zdv,hn,if_true,e,Option.bind_some,e2],q2⟩
 | some u=>exact absurd (h1 u rfl) (by simp)
end
end TM
end
section
namespace TM
open PySem PM
section
variable {O N M:List Nat}
theorem ZAd{e1 e2:Ex}{p1 p2:PE}(x:E O N true e1 p1)(y:E O M true e2 p2)(hN:∀i∈N,i∈O)(hM:∀i∈N,i∉M): E O (N++M) true (Zg Zae e1 e2) (Zh Zab p1 p2):=fun c ρ σ H Φ t s h=>by
 obtain⟨t1,h1,h⟩:=Zz0.mp h
 obtain⟨t2,h2,h⟩:=Zz0.mp h
 obtain⟨v1,X,F1,a1,a2,a3,a4⟩:=x c ρ σ H Φ t1 s h1
 obtain⟨v2,Y,F2,b1,b2,b3,b4⟩:=y c ρ σ (H++X) Φ t2 (s.ext X) h2
 have a2':=a2.ext Y
 have dj:∀a∈F1,a∉F2:=fun a ha hb=>by
  have hlt:=a2.lt a ha
  rcases b3 a hb with h | ⟨j,hj,⟨tj,ej⟩,mj⟩
  ·omega
  ·obtain⟨vj,_,rj⟩:=s.slot j tj ej
   have:=rj.lt a mj
   rcases a3 a ha with h | ⟨i,hi,⟨ti,ei⟩,mi⟩
   ·omega
   ·exact(s.own i (hN i hi) ti ei).2.2 j tj (fun q=>hM i hi (q▸hj)) ej a mi mj
 have nd1:=a4 rfl
 have nd2:=b4 rfl
 have f1:∀a∈F1,From H (N++M) σ Φ a:=fun a m=>(a3 a m).mono fun i hi=>List.mem_append_left _ hi
 have f2:∀a∈F2,From H (N++M) σ Φ a:=fun a m=>(b3 a m).back.mono fun i hi=>List.mem_append_right _ hi
 have ev:∀r,Zae v1 v2 (H++X++Y)=some r→Zg Zae e1 e2 ρ H=some r:=fun r hr=>by simp only[Zg,a1,b1,Option.bind_some,hr]
 have ndA:∀{A B:List Nat},A.Nodup→B.Nodup→(∀a∈A,a∉B)→(A++B).Nodup:=fun ha hb hd=>by
  rw[List.nodup_append]
  exact⟨ha,hb,fun a m b m' e=>hd a m (e▸m')⟩
 cases a2' with
 | none=>cases h
 | bool=>cases h
 | str=>cases h
 | int a=>
  cases b2 <;> first | (cases h;done) | skip
  cases h
  exact⟨_,X++Y,[],ev _ (by simp[Zae]),.int _,by simp,by simp⟩
 | tup hs1=>
  cases b2 with
  | none=>cases h
  | bool=>cases h
  | str=>cases h
  | int=>cases h
  | ref=>cases h
  | tup hs2=>
   simp only[Zab]at h
   split at h
   ·rename_i hl
    cases h
    refine⟨_,X++Y,_,ev _ ?_,.tup (by rw[←List.append_assoc];exact hs1.append hs2),fun a m=>?_,fun _=>ndA nd1 nd2 dj⟩
    ·simp only[Zae]
     rw[if_pos (by rw[List.length_append]at hl ⊢;rw[hs1.length,hs2.length];exact hl),List.append_assoc]
    ·rcases Zz8.mp m with m | m
     ·exact f1 a m
     ·exact f2 a m
   ·cases h
 | @ref r1 vs1 _ G1 e1' hs1=>
  cases b2 with
  | none=>cases h
  | bool=>cases h
  | str=>cases h
  | int=>cases h
  | tup=>cases h
  | @ref r2 vs2 _ G2 e2' hs2=>
   simp only[Zab]at h
   split at h
   ·rename_i hl
    cases h
    have hR:=hs1.append hs2
    refine⟨.ref (H++X++Y).length,X++Y++[vs1++vs2],(H++X++Y).length::(G1++G2),ev _ ?_,?_,fun a m=>?_,fun _=>?_⟩
    ·simp only[Zae,e1',e2',Option.bind_some]
     rw[if_pos (by rw[List.length_append]at hl ⊢;rw[hs1.length,hs2.length];exact hl)]
     simp
    ·rw[show H++(X++Y++[vs1++vs2])=H++X++Y++[vs1++vs2]by simp]
     exact .ref (by simp) (hR.ext _)
    ·rcases Zz7.mp m with rfl | m
     ·exact .inl (by simp)
     ·rcases Zz8.mp m with m | m
      ·exact f1 a (Zz2 _ m)
      ·exact f2 a (Zz2 _ m)
    ·refine List.nodup_cons.mpr ⟨fun m=>?_,ndA (List.nodup_cons.mp nd1).2 (List.nodup_cons.mp nd2).2 fun a m m'=>dj a (Zz2 _ m) (Zz2 _ m')⟩
     have:=hR.lt _ m
     omega
   ·cases h
end
end TM
end
section
namespace PM
open PySem PySem.W PySem.Calls PyProof.Rows PyProof PyProof.Rows.LCg PyProof.Rows.LCp
section
variable {prog:Program} {w:World} {Γ:Cx}
theorem ZuN{elt iter:Expr}{x x₂ y:Str}{px px₂ tp py pos spos:Pos}{kt:Nat}{scope:Scope}{cl:List (Str×Addr)}{t t₂ i:Nat}{g:Src}{f:Ex}(hy:Sto prog w Γ y i)(hg:JI2 prog w Γ iter g)(hel:∀C ρ,J prog w (Zbf Γ scope cl C [(x,t),(x₂,t₂)] ρ) elt f)
  (hsw:swapsWith (.ListComp elt [⟨.Tuple [.Name x px,.Name x₂ px₂] kt tp,iter,[],0⟩] scope pos) (some (.Name y py)) spos.line Γ.env=pure true)
  (hclos:closureFor scope Γ.env=pure cl) (hcell:∀y∈scope.names,y.2≠.cell) (hkind:scope.kind=.function) (hnames:∀y∈scope.names,y.2=.local→scope.names.lookup y.1=some .local) (hx:scope.names.lookup x=some .local) (hx₂:scope.names.lookup x₂=some .local) (hxx:x≠x₂) (htt:t≠t₂) (hs:∀x,foldedSetIterable iter Γ.env x=pure x:=by intro _;rfl):
  S1 prog w Γ (.Assign [.Name y py] (.ListComp elt [⟨.Tuple [.Name x px,.Name x₂ px₂] kt tp,iter,[],0⟩] scope pos) spos) (ZN i (ZaB g (ZbY t t₂) Zaw f)):=by
 intro W ρ H fr s Q E r rp hf post
 obtain⟨p,e0,e9⟩:=Zz1.mp hf
 cases e9
 obtain⟨z,e1,hf⟩:=Zz0.mp e0
 obtain⟨q,e2,e3⟩:=Zz1.mp hf
 cases e3
 rw[exec_Assign_Name_used _ _ _ _ hsw]
 refine wpAny_bind (wpAny_standAt (wpAny_bind ?_))
 show wpAny _ Γ.A (do let _ ←comprehension (.ListComp elt [⟨.Tuple [.Name x px,.Name x₂ px₂] kt tp,iter,[],0⟩] scope pos) scope Γ.env _ (newList []) false (eval iter Γ.env) (some (assign (.Name y py) Γ.env))) _ _ s
 refine wpAny_bind (wpAny_mono (wpAny_comprehension_free (use:=some (assign (.Name y py) Γ.env)) (Q:=fun _ s'=>Q .next s') rfl hs hclos hkind hnames ?_) (fun _ s' h'=>wpAny_pure (wpAny_pure h')) fun _ _ e=>e)
 refine Zq3 (RR:=fun acc C=>compPost (model prog w) Γ.A E (some (assign (.Name y py) Γ.env)) (fun _ s'=>Q .next s') acc C) hg hel hcell hkind hx hx₂ hxx htt rp (q:=q) (by rw[e1];exact e2) fun W2 h' tk' C D oC m₂ ys l2 hC hv hl aD aC cd r3=>?_
 have r4:Rep Γ W2 ρ q.2 ((D,lst ys)::(C,oC)::fr) h':=r3.less fun t ht=>by
  rcases Zz7.mp ht with e | ht
  ·exact e▸List.mem_cons_of_mem _ Zz5
  ·rcases Zz7.mp ht with e | ht
   ·exact e▸List.mem_cons_self
   ·exact Zz2 _ (Zz2 _ ht)
 obtain⟨W5,l5,r5,v5⟩:=Zhs r4 (fun t ht=>by
  rcases Zz7.mp ht with e | ht
  ·rw[e]
   exact cd.symm
  ·exact aD t ht) hv hl
 refine wpAny_assign_Name (hy W5 ρ _ _ _ _ _ _ _ r5 v5 fun h6 t6 r6=>?_)
 refine⟨m₂,hC.ns (r6.frAt (q:=(C,oC)) Zz5),fun h'' sb=>?_⟩
 have r7:Rep Γ W5 (upd ρ i (.ref q.2.length)) (q.2++[q.1]) ([]++fr) h'':=
  Rep.swap (fs:=[(C,oC)]) (fs':=[]) r6 (fun q hq t ht=>by rw[List.mem_singleton.mp hq];exact aC t ht) (fun b o hb e=>sb.extBut b o (fun z=>hb (by simp[z])) e) fun q hq=>nomatch hq
 exact post W5 h'' t6 (l2.trans l5) r7
end
end PM
end
section
namespace PM
open PySem PySem.W PySem.Calls PyProof.Rows PyProof
noncomputable def Zdq(ns:List Int): List Int:=ns.mergeSort fun a b=>decide (a≤b)
theorem ZrH{ns ms:List Int}(h1:ms.Perm ns)(h2:ms.Pairwise (·≤·)): ms=Zdq ns:=by
 refine List.Perm.eq_of_pairwise (le:=fun a b:Int=>a≤b) (fun a b _ _ h h'=>Int.le_antisymm h h') h2 ?_ (h1.trans (List.mergeSort_perm ns _).symm)
 have:=List.pairwise_mergeSort (le:=fun a b:Int=>decide (a≤b)) (fun a b c h h'=>by simp at *;omega) (fun a b=>by simp;omega) ns
 unfold Zdq
 simpa using this
theorem Zwj{ns:List Int}: (Zdq ns).length=ns.length:=(List.mergeSort_perm ns _).length_eq
theorem Zpi{W:Wd}: ∀{vs:List V} {xs:List Value} {ks:List Int},VRs W vs xs→ZdG vs=some ks→IntsAre xs ks:=by
 intro vs
 induction vs with
 | nil=>intro xs ks h e;cases h;cases e;exact .nil
 | cons v vs ih=>
  intro xs ks h e
  cases h with
  | cons a b=>
   cases v with
   | int i=>
    obtain⟨js,e1,e2⟩:=Zz1.mp e
    subst e2
    cases a with
    | int _ t=>exact .cons i t (ih b e1)
   | none=>cases e
   | bool=>cases e
   | str=>cases e
   | tup=>cases e
   | ref=>cases e
theorem Zsf{W:Wd}: ∀{xs:List Value} {ks:List Int},IntsAre xs ks→VRs W (ks.map V.int) xs
 | _,_,.nil=>.nil
 | _,_,.cons n t r=>.cons (.int n t) (Zsf r)
noncomputable def ZhT: List V→Hp→Option (V×Hp)
 | [.ref a],H=>H[a]?.bind fun vs=>(ZdG vs).bind fun ns=>if vs.length<64 then some (.ref H.length,H++[(Zdq ns).map V.int])else none
 | _,_=>none
section
variable {prog:Program} {w:World}
theorem Zwk: OpN prog w (fun xs=>call (.builtin "sorted") xs) ZhT:=by
 intro Γ W ρ H fr s Q E as xs v H' r hx ho post
 unfold ZhT at ho
 split at ho
 ·obtain⟨vs,e1,ho⟩:=Zz0.mp ho
  obtain⟨ks,e3,ho⟩:=Zz0.mp ho
  split at ho
  ·rename_i h64
   cases ho
   obtain⟨x,ex,rx⟩:=hx.one
   subst ex
   cases rx with
   | @ref _ a ea=>
    obtain⟨hl,ys,k,hg,hv⟩:=r.at e1 ea
    have isl:s.heap.IsList a ys.toArray:=⟨_,hg,rfl,k,rfl⟩
    refine sorted_ints isl (Zpi hv e3) (by rw[hv.length];exact h64) fun out ms a1 a2 a3=>?_
    have em:=ZrH a2 a3
    subst em
    obtain⟨q,hq⟩:=sortedAll_at s.heap ys out
    have hlen:ks.length=vs.length:=by rw[←hv.length];exact(Zpi hv e3).length.symm
    obtain⟨r2,ap⟩:=r.more (h':=sortedAll s.heap ys out) (fs:=[(s.heap.objs.size+1,ZbN out.toList q)]) (fun b o hb=>sortedAll_old hb) (fun u hu=>by
     rw[List.mem_singleton.mp hu]
     refine⟨?_,Nat.le_succ _⟩
     rw[hq])
    obtain⟨W2,l2,r3,v3⟩:=Zhs r2 (fun t ht=>ap _ Zz5 t ht) (Zsf a1) (by rw[List.length_map,Zwj,hlen];exact hl)
    exact post W2 _ s.toks _ l2 r3 v3
  ·cases ho
 ·cases ho
end
end PM
namespace PM
open PySem PySem.W PySem.Calls PyProof.Rows PyProof PySem.SeqAt
open SeqRoads2 MeetsSeq3 MeetsSeq2 MeetsSeq AutoSeq1
theorem Zvq(l:Addr)(its:Array Value)(n:Nat)(dd:Option Addr)(sl:Array (Option Value))(x:Value)(tk:Tok)(e:Value→Bool)(j:Nat)(hj:j<its.size)(h1:1≤j)(small:(j:Int)<2 ^ 63-1)
  (hit:e its[j]=true) (no:∀m (hm:m<its.size),1≤m→m<j→e its[m]=false):
  Meets (Builtin.«list.index» ⟨[.ref l,x,.int 1 tk],[]⟩) fun A R s=>s.heap.get? l=some { cls:=.type "list",dict:=dd,data:=.seq its n,slots:=sl }∧(∀y,y∈its→EqAt A.in1 s y x (e y))∧R (.ok (.ret (.int j s.toks))) { s with toks:=s.toks+1 }:=by
 intro prog w A R s h
 obtain⟨hp,g,d,tk',os⟩:=s
 obtain⟨hq0,he,h⟩:=h
 wp_walk using wpAny_loadPart' hq0
 have b1:((fun i:Int=>if i<0 then max 0 (i+(its.size:Int))else i) ((some (1:Int)).getD 0))=((1:Nat):Int):=by simp
 have b2:((fun i:Int=>if i<0 then max 0 (i+(its.size:Int))else i) ((Option.none:Option Int).getD (2 ^ 63-1)))=2 ^ 63-1:=by simp
 rw[b1,b2]
 refine⟨plainId_quiet plain_index_loop _,codeAny_builtin entry_index_loop ?_⟩
 rw[Around.under_plainId plain_index_loop _];exact index_loopAt l its n dd sl x e (2 ^ 63-1) j hj small hit _ 1 rfl h1 no prog w A R _ ⟨hq0,he,h⟩
section
variable {prog:Program} {w:World} {A:Around} {E:Value→Shared→Prop} {s:Shared}
theorem ZuO{l:Addr}{vs:List Value}{ns:List Int}{k:Int}{t t':Tok}{Q:Value→Shared→Prop}(hl:s.heap.IsList l vs.toArray)(hi:IntsAre vs ns)(hn:ns.length≤100000)(hk:k∈ns.drop 1)
  (h:Q (.int ((1+(ns.drop 1).idxOf k:Nat)) s.toks) { s with toks:=s.toks+1 }):wpAny (model prog w) A (call (.builtin "list.index") [.ref l,.int k t,.int 1 t']) Q E s:=by
 obtain⟨⟨c0,dd,da,sl⟩,ho,ec,n,ed⟩:=id hl
 simp only at ec ed
 subst ec ed
 have hlen:=hi.length
 have hj:(ns.drop 1).idxOf k<(ns.drop 1).length:=List.idxOf_lt_length_iff.mpr hk
 have hj':1+(ns.drop 1).idxOf k<ns.length:=by rw[List.length_drop]at hj;omega
 refine call_meets PySem.F.slot_list_index ⟨_,ho,rfl⟩ PySem.F.entry_list_index (PySem.F.args_list_index_3 _ _ _) (Zvq l vs.toArray n dd sl (.int k t) t' (isInt k) (1+(ns.drop 1).idxOf k) (by simpa [hlen]using hj') (by omega) (by omega) ?_ ?_) ⟨ho,fun y hy=>(eq_isInt k t hi y (by simpa using hy)).at _ _,h⟩
 ·show isInt k vs[1+(ns.drop 1).idxOf k]=true
  rw[isInt_at k hi _ (by omega) hj']
  have:=List.getElem_idxOf hj
  rw[List.getElem_drop]at this
  simpa using this
 ·intro m hm h1 h2
  show isInt k vs[m]=false
  rw[isInt_at k hi m (by simpa using hm) (by have:=hm;simp[hlen]at this;omega)]
  have hm':m-1<(ns.drop 1).length:=by rw[List.length_drop];omega
  have:=ne_of_lt_idxOf (k:=k) (ns:=ns.drop 1) (j:=m-1) (by omega) hm'
  rw[List.getElem_drop]at this
  simpa [show 1+(m-1)=m by omega]using this
end
noncomputable def Zkj: V→V→V→Hp→Option (V×Hp)
 | .ref a,.int k,.int b,H=>H[a]?.bind fun vs=>(ZdG vs).bind fun ns=>if b=1∧k∈ns.drop 1 then some (.int ((1+(ns.drop 1).idxOf k:Nat):Int),H)else none
 | _,_,_,_=>none
noncomputable def Zh1(f g h:Ex): Ex:=fun ρ H=>(f ρ H).bind fun p=>(g ρ p.2).bind fun q=>(h ρ q.2).bind fun u=>Zkj p.1 q.1 u.1 u.2
section
variable {prog:Program} {w:World} {Γ:Cx}
theorem ZuP{a b c:V}{H:Hp}{r:V×Hp}(h:Zkj a b c H=some r): ∃i k vs ns,a=.ref i∧b=.int k∧c=.int 1∧H[i]?=some vs∧ZdG vs=some ns∧k∈ns.drop 1∧r=(.int ((1+(ns.drop 1).idxOf k:Nat):Int),H):=by
 unfold Zkj at h
 split at h
 ·obtain⟨vs,e1,h⟩:=Zz0.mp h
  obtain⟨ns,e2,h⟩:=Zz0.mp h
  split at h
  ·rename_i q
   cases h
   obtain⟨rfl,q⟩:=q
   exact⟨_,_,vs,ns,rfl,rfl,rfl,e1,e2,q,rfl⟩
  ·cases h
 ·cases h
theorem J.index{o e1 e2:Expr}{apos pos:Pos}{f g k:Ex}(ho:J prog w Γ o f)(h1:J prog w Γ e1 g)(h2:J prog w Γ e2 k)(hbase:attributeBase o "index" Γ.env (eval o Γ.env)=eval o Γ.env:=by rfl)
  (hline:(apos.endLine == pos.line)=true:=by rfl) (htrees:backTo pos (starEach [e1,e2] Γ.env)=[(false,eval e1 Γ.env),(false,eval e2 Γ.env)]:=by rfl) (hstay:∀ρ H p,f ρ H=some p→∀q,g ρ p.2=some q→p.2=q.2:=by intro _ _ _ _ _ h;cases h;rfl) (hstay2:∀ρ H p,g ρ H=some p→∀q,k ρ p.2=some q→p.2=q.2:=by intro _ _ _ _ _ h;cases h;rfl):J prog w Γ (.Call (.Attribute o "index" apos) [e1,e2] [] pos) (Zh1 f g k):=by
 intro W ρ H fr s Q E v H' r hx post
 obtain⟨p,x1,hx⟩:=Zz0.mp hx
 obtain⟨q,x2,hx⟩:=Zz0.mp hx
 obtain⟨u,x3,x4⟩:=Zz0.mp hx
 obtain⟨i,kk,vs,ns,ea,eb,ec,hvs,hns,hmem,er⟩:=ZuP x4
 refine wpAny_Call_method2_late hbase hline htrees (ho W ρ H fr s _ E _ _ r x1 fun W1 k1 t1 x l1 r1 y1=>?_)
 rw[ea]at y1
 have s1:=hstay ρ H p x1 q x2
 have s2:=hstay2 ρ p.2 q x2 u x3
 cases y1 with
 | @ref _ a aa=>
 obtain⟨hl,xs,n,hg,hv⟩:=r1.at (by rw[s1,s2];exact hvs) aa
 refine⟨"list","list.index",PySem.F.plainAttrs_list,PySem.F.slot_list_index,PySem.F.type_list_index,(show k1.IsList a xs.toArray from⟨_,hg,rfl,n,rfl⟩).typeIs,fun b eb=>by cases eb;exact⟨_,hg,rfl⟩,?_⟩
 refine Calls.callWith_builtin rfl (Calls.evalArgs_plain (Calls.spliced_cons ?_))
 refine h1 W1 ρ _ fr _ _ E _ _ r1 x2 fun W2 k2 t2 y l2 r2 y2=>Calls.spliced_cons ?_
 refine h2 W2 ρ _ fr _ _ E _ _ r2 x3 fun W3 k3 t3 z l3 r3 z3=>Calls.spliced_nil ?_
 rw[eb]at y2
 rw[ec]at z3
 cases y2 with
 | int _ ty=>
 cases z3 with
 | int _ tz=>
 obtain⟨hl3,xs3,n3,hg3,hv3⟩:=r3.at hvs (l3.at (l2.at aa))
 rw[Zbc]at hl3
 have hI:=Zpi hv3 hns
 refine ZuO ⟨_,hg3,rfl,n3,rfl⟩ hI (by rw[←hI.length,hv3.length];omega) hmem ?_
 have:=post W3 k3 (t3+1) (.int ((1+(ns.drop 1).idxOf kk:Nat):Int) t3) ((l1.trans l2).trans l3)
 cases er
 exact this r3 (.int _ _)
end
end PM
end
section
namespace TM
open PySem PM
theorem ZoG{H:Hp}: ∀ks:List Int,RFs H (ks.map V.int) (ks.map T.int) []
 | []=>.nil
 | k::ks=>.cons (.int k) (ZoG ks)
noncomputable def ZjW: List T→Option T
 | [.lst ts]=>(Zdp ts).bind fun ns=>if ts.length<64 then some (.lst ((Zdq ns).map T.int))else none
 | _=>none
theorem Zxi: OCn ZhT ZjW:=fun H vs ts t F hp r h=>by
 unfold ZjW at h
 split at h
 ·obtain⟨v,rfl,r'⟩:=r.one_inv
  cases r' with
  | ref e hs=>
   obtain⟨ks,h1,h⟩:=Zz0.mp h
   split at h
   ·rename_i h64
    cases h
    refine⟨_,[(Zdq ks).map V.int],_,?_,Zem (ZoG (Zdq ks)),fun a m=>?_,fun _=>?_⟩
    ·simp only[ZhT,e,Option.bind_some,ZjS hs h1]
     rw[if_pos (by rw[hs.length];exact h64)]
    ·rcases Zz7.mp m with rfl | m
     ·exact .inl (Zz10 _)
     ·cases m
    ·simp
   ·cases h
 ·cases h
noncomputable def Zh2(p q r:PE): PE:=fun σ=>(p σ).bind fun t=>(q σ).bind fun k=>(r σ).bind fun b=>match t,k,b with
 | .lst ts,.int k,.int b=>(Zdp ts).bind fun ns=>if b=1∧k∈ns.drop 1 then some (.int ((1+(ns.drop 1).idxOf k:Nat):Int))else none
 | _,_,_=>none
section
variable {O N M K:List Nat} {u u' u'':Bool}
theorem E.index{e1 e2 e3:Ex}{p1 p2 p3:PE}(x:E O N u e1 p1)(y:E O M u' e2 p2)(z:E O K u'' e3 p3): E O [] true (Zh1 e1 e2 e3) (Zh2 p1 p2 p3):=fun c ρ σ H Φ t s h=>by
 obtain⟨t1,h1,h⟩:=Zz0.mp h
 obtain⟨t2,h2,h⟩:=Zz0.mp h
 obtain⟨t3,h3,h⟩:=Zz0.mp h
 obtain⟨v1,X,F1,a1,a2,_,_⟩:=x c ρ σ H Φ t1 s h1
 obtain⟨v2,Y,F2,b1,b2,_,_⟩:=y c ρ σ (H++X) Φ t2 (s.ext X) h2
 obtain⟨v3,Z,F3,c1,c2,_,_⟩:=z c ρ σ (H++X++Y) Φ t3 ((s.ext X).ext Y) h3
 have a3:=(a2.ext Y).ext Z
 split at h
 ·obtain⟨ns,e1,h⟩:=Zz0.mp h
  split at h
  ·rename_i hc
   cases h
   cases b2
   cases c2
   cases a3 with
   | ref e hs=>
    refine⟨_,X++Y++Z,[],?_,.int _,by simp,by simp⟩
    have e':=e
    simp only[Zh1,a1,b1,c1,Option.bind_some,Zkj,e',ZjS hs e1]
    rw[if_pos hc]
    simp
  ·cases h
 ·cases h
end
section
variable {σ:TL} {Q:T→Prop}
end
end TM
end
section
namespace TM
open PySem PM
theorem Zq5{nx:Nx}{put:V→Lc→Option Lc}{b:Sm}(hp:∀v ρ ρ',put v ρ=some ρ'→ρ' 0=ρ 0)(hb:Keep0 b): ∀n i,Keep0 (Zc9 nx put b n i)
 | 0,_=>fun _ _ _ h=>by cases h
 | n+1,i=>fun ρ H r h=>by
  obtain⟨o,_,h⟩:=Zz0.mp h
  split at h
  ·cases h;rfl
  ·obtain⟨ρ1,e1,h⟩:=Zz0.mp h
   obtain⟨q,e2,h⟩:=Zz0.mp h
   have k:=(hb _ _ _ e2).trans (hp _ _ _ e1)
   split at h
   ·cases h;exact k
   ·exact(Zq5 hp hb n (i+1) _ _ _ h).trans k
theorem Zju{g:Src}{put:V→Lc→Option Lc}{b:Sm}(hp:∀v ρ ρ',put v ρ=some ρ'→ρ' 0=ρ 0)(hb:Keep0 b): Keep0 (ZaX g put b):=fun ρ H r h=>by
 obtain⟨z,_,h⟩:=Zz0.mp h
 exact Zq5 hp hb _ _ _ _ _ h
theorem Zi7{i:Nat}(hi:0≠i): ∀v ρ ρ',PM.put1 i v ρ=some ρ'→ρ' 0=ρ 0:=fun v ρ ρ' h=>by
 cases h
 simp[upd,hi]
end TM
end
section
namespace My
open PySem
section
variable {prog:Program} {w:World} {A:Around} {E:Value→Shared→Prop} {s:Shared}
theorem fill_range{R:Result→Shared→Prop}{r:Addr}{a b c:Int}{t u v:Tok}{n:Nat}(hr:IsRange s.heap r a b c t u v)(hn:Builtin.Range.rangeSize a b c=n)(hlen:n≤2 ^ 24)(S:Addr)(res:Value)(c₀:Nat)
  (at_S:s.heap.get? S=some { cls:=.type "list",data:=.seq #[] c₀ }) (ito:Obj) {St:Nat→Heap→Prop} (W:Walks prog w A.in1 s.heap.objs.size [s.heap.objs.size] [s.heap.objs.size] n (fun i v=>∃t,v=.int (a+i*c) t) St)
  (st:∀g:Heap,g.get? s.heap.objs.size=some ito→St 0 g)
  (iter:∀(Q:Value→Shared→Prop) (E':Value→Shared→Prop),Q (.ref s.heap.objs.size) { s with heap:=s.heap.push ito }→wpAny (model prog w) A.in1 (pyIter (.ref r)) Q E' s) (hito:(s.heap.push ito).get? s.heap.objs.size=some ito)
  (out:∀g tk acc k,(∀b o,b≠S→s.heap.get? b=some o→g.get? b=some o)→g.get? S=some { cls:=.type "list",dict:=none,data:=.seq acc k,slots:=#[] }→ItemsOf (fun i v=>∃t,v=.int (a+i*c) t) acc n→R (.ok (.ret res)) { s with heap:=g,toks:=tk }):
  wpAny (model prog w) A.in1 (Builtin.List.listExtendWith (.ref S) (.ref r) res)
   (fun fin s'=>match fin with
    | .done f=>R (.ok f) s'
    | .again c'=>c'.quiet=true∧codeAny (model prog w) A c' R s') (fun e s'=>R (.error e) s') s:=by
 have ne_r:S≠r:=fun e=>by rw[e,hr]at at_S;simp at at_S
 have ne_I:S≠s.heap.objs.size:=Nat.ne_of_lt (Heap.lt_size at_S)
 have off:S∉[s.heap.objs.size]:=fun q=>ne_I (Zz9.mp q)
 have loop:∀(g:Heap) (k tk:Nat),g.get? s.heap.objs.size=some ito→(∀b o,b≠S→s.heap.get? b=some o→g.get? b=some o)→g.get? S=some { cls:=.type "list",data:=.seq #[] k } →
   codeAny (model prog w) A (.builtin "list.extend.loop" ⟨[.ref S,.ref s.heap.objs.size,res],[]⟩) R { s with heap:=g,toks:=tk }:=by
  intro g k tk at_I keeps at_S'
  refine codeAny_extend_loopS W.toS (by rw[sizeLine_eq];omega) S off res n 0 _ #[] k rfl (Nat.zero_le _) (st _ at_I) at_S' (ItemsOf.nil _) fun s' acc k' mv at_S'' its=>?_
  rw[Moved.eq_with mv]
  refine out s'.heap s'.toks acc k' (fun b o bS e=>mv.heap b o (fun q=>?_) (keeps b o bS e)) at_S'' its
  rcases Zz7.mp q with q | q
  ·exact bS q
  ·exact absurd (Heap.lt_size e) (by rw[List.mem_singleton.mp q];exact Nat.lt_irrefl _)
 unfold Builtin.List.listExtendWith
 refine wpAny_bind (wpAny_typeOf (T:="range") ⟨_,hr,rfl⟩ ?_)
 have z1:Builtin.List.listSameRef (.ref S) (.ref r)=false:=by simp[Builtin.List.listSameRef,ne_r]
 have z2:(Value.type "range" == Value.type "list")=false:=by decide
 have z3:(Value.type "range" == Value.type "tuple")=false:=by decide
 simp only[z1,z2,z3,Bool.or_false,Bool.false_eq_true,if_false]
 refine wpAny_bind (iter _ _ ?_)
 refine wpAny_bind (wpAny_holding (wpAny_hint_range (n:=n) (Heap.get?_push_of_some _ hr) hn hlen ?_))
 have at_S1:=Heap.get?_push_of_some ito at_S
 refine wpAny_ite_split (fun _=>?_) (fun _=>wpAny_pure ⟨plainId_quiet F.plain_extend_loop _,loop _ c₀ _ hito (fun b o _ e=>Heap.get?_push_of_some _ e) at_S1⟩)
 refine wpAny_bind (wpAny_rule ?_);refine wpAny_bind ?_
 show wpAny _ _ (updateSeq S (·.push .none) >>= fun _=>updateSeq S (·.pop)) _ _ _;refine wpAny_bind (wpAny_updateSeq at_S1 rfl ?_)
 have at_S2:=Heap.get?_update_self (Obj.mapSeq (·.push Value.none)) at_S1 rfl
 refine wpAny_updateSeq (hz:=by seq_fits) at_S2 rfl ?_
 have at_S3:=Heap.get?_update_self (Obj.mapSeq (·.pop)) at_S2 rfl
 refine wpAny_pure ⟨plainId_quiet F.plain_extend_loop _,loop _ _ _ ?_ (fun b o bS e=>?_) at_S3⟩
 ·exact(Heap.get?_update_other _ _ ne_I).trans ((Heap.get?_update_other _ _ ne_I).trans hito)
 ·exact(Heap.get?_update_other _ _ (Ne.symm bS)).trans ((Heap.get?_update_other _ _ (Ne.symm bS)).trans (Heap.get?_push_of_some _ e))
theorem fill_any{R:Result→Shared→Prop}{r:Addr}{a b c:Int}{t u v:Tok}{n:Nat}(hh:A.handled=none)(hr:IsRange s.heap r a b c t u v)(hn:Builtin.Range.rangeSize a b c=n)(hlen:n≤2 ^ 24)(S:Addr)(res:Value)(c₀:Nat)
  (at_S:s.heap.get? S=some { cls:=.type "list",data:=.seq #[] c₀ })
  (out:∀g tk acc k,(∀b o,b≠S→s.heap.get? b=some o→g.get? b=some o)→g.get? S=some { cls:=.type "list",dict:=none,data:=.seq acc k,slots:=#[] }→ItemsOf (fun i v=>∃t,v=.int (a+i*c) t) acc n→R (.ok (.ret res)) { s with heap:=g,toks:=tk }):
  wpAny (model prog w) A.in1 (Builtin.List.listExtendWith (.ref S) (.ref r) res)
   (fun fin s'=>match fin with
    | .done f=>R (.ok f) s'
    | .again c'=>c'.quiet=true∧codeAny (model prog w) A c' R s') (fun e s'=>R (.error e) s') s:=by
 by_cases sm:Builtin.Range.small a b c=true
 ·refine fill_range hr hn hlen S res c₀ at_S _ (Walks.range (prog:=prog) (w:=w) (A:=A.in1) hh s.heap.objs.size a c n) (fun g at_g=>?_) (fun Q' E' q=>wpAny_pyIter_range hr sm q) (Heap.get?_push_size _ rfl) out
  show IsRangeIter _ _ _ _ _
  rw[hn]at at_g
  simpa using at_g
 ·refine fill_range hr hn hlen S res c₀ at_S _ (Walks.longrange (prog:=prog) (w:=w) (A:=A.in1) hh s.heap.objs.size a c n) (fun g at_g=>?_) (fun Q' E' q=>wpAny_pyIter_longrange hr (by simpa using sm) q) (Heap.get?_push_size _ rfl) out
  show IsLongIter _ _ _ _ _
  rw[hn]at at_g
  simpa using at_g
theorem list_any{Q:Value→Shared→Prop}{r:Addr}{a b c:Int}{t u v:Tok}{n:Nat}(hh:A.handled=none)(hr:IsRange s.heap r a b c t u v)(hn:Builtin.Range.rangeSize a b c=n)(hlen:n≤2 ^ 24)
  (out:∀g tk acc k,(∀b o,s.heap.get? b=some o→g.get? b=some o)→g.get? s.heap.objs.size=some { cls:=.type "list",dict:=none,data:=.seq acc k,slots:=#[] }→ItemsOf (fun i v=>∃t,v=.int (a+i*c) t) acc n →
   Q (.ref s.heap.objs.size) { s with heap:=g,toks:=tk }):
  wpAny (model prog w) A (call (.type "list") [.ref r]) Q E s:=by
 refine callType_codes (Q₁:=fun obj s₁=>obj=.ref s.heap.objs.size∧s₁ = { s with heap:=s.heap.push { cls:=.type "list",data:=.seq #[] } }) F.called_list (F.typeCall_list_1 _) F.entry_list_init (code_list_new _ ⟨rfl,rfl⟩) fun obj s₁ h₁=>?_
 obtain⟨rfl,rfl⟩:=h₁
 have at_S:(s.heap.push { cls:=.type "list",data:=.seq #[] }).get? s.heap.objs.size=some { cls:=.type "list",data:=.seq #[] }:=Heap.get?_push_size _ rfl
 refine⟨⟨_,at_S,rfl⟩,F.args_list_init_2 _ _,?_⟩
 have hr':=Heap.get?_push_of_some { cls:=.type "list",data:=.seq #[] } hr
 have ne_r:s.heap.objs.size≠r:=fun e=>absurd (Heap.lt_size hr) (by rw[←e];exact Nat.lt_irrefl _)
 show wpAny _ _ (do let old ←Builtin.List.listItems (.ref s.heap.objs.size);Builtin.List.listUpdate (.ref s.heap.objs.size) (fun _=>#[]);letGo old.toList.reverse;Builtin.List.listExtendWith (.ref s.heap.objs.size) (.ref r) .none) _ _ _
 refine wpAny_bind ?_;unfold Builtin.List.listItems;refine wpAny_bind (wpAny_seqItems at_S rfl (wpAny_pure ?_))
 show wpAny _ _ (updateSeq s.heap.objs.size (fun _=>#[]) >>= fun _=>letGo (#[]:Array Value).toList.reverse >>= fun _=>Builtin.List.listExtendWith (.ref s.heap.objs.size) (.ref r) .none) _ _ _
 refine wpAny_bind (wpAny_updateSeq at_S rfl ?_)
 have at_S2:=Heap.get?_update_self (Obj.mapSeq (fun _=>(#[]:Array Value))) at_S rfl
 have oth:∀b o,b≠s.heap.objs.size→s.heap.get? b=some o→((s.heap.push { cls:=.type "list",data:=.seq #[] }).update s.heap.objs.size (Obj.mapSeq (fun _=>(#[]:Array Value)))).get? b=some o:=fun b o hb e=>(Heap.get?_update_other _ _ (Ne.symm hb)).trans (Heap.get?_push_of_some _ e)
 have hr2:=oth r _ (Ne.symm ne_r) hr
 refine wpAny_bind (wpAny_letGo ?_)
 refine' fill_any (t:=t) (u:=u) (v:=v) (A:=A.in1) (R:=wants (fun r s₂=>r=Value.none∧Q (Value.ref s.heap.objs.size) s₂) E) hh ?_ hn hlen s.heap.objs.size .none ?k0 ?k2 fun g tk acc k keeps at_g its=>?k3
 case k2=>exact at_S2
 ·exact hr2
 case k3=>exact⟨rfl,out g tk acc k (fun b o e=>keeps b o (Nat.ne_of_lt (Heap.lt_size e)) (oth b o (Nat.ne_of_lt (Heap.lt_size e)) e)) at_g its⟩
end
end My
end
section
namespace PM
open PySem PySem.W PySem.Calls PyProof.Rows PyProof
noncomputable def Zeh(a:Int)(n:Nat): List V:=(List.range n).map fun(i:Nat)=>V.int (a+i)
noncomputable def Zh3: List V→Hp→Option (V×Hp)
 | [.int a,.int b],H=>if 0≤b-a∧b-a≤1000 then some (.ref H.length,H++[Zeh a (b-a).toNat])else none
 | _,_=>none
theorem Zxj{W:Wd}{a:Int}: ∀{n:Nat} {xs:List Value},xs.length=n→(∀(j:Nat) (v:Value),xs[j]?=some v→∃t:Tok,v=Value.int (a+(j:Int)*1) t)→VRs W (Zeh a n) xs:=by
 intro n
 induction n generalizing a with
 | zero=>
  intro xs hl _
  have:xs=[]:=List.length_eq_zero_iff.mp hl
  subst this
  exact .nil
 | succ n ih=>
  intro xs hl hv
  cases xs with
  | nil=>cases hl
  | cons v xs=>
   obtain⟨t,e⟩:=hv 0 v rfl
   subst e
   have r:Zeh a (n+1)=V.int (a+((0:Nat):Int)*1)::Zeh (a+1) n:=by
    simp only[Zeh,List.range_succ_eq_map,List.map_cons,List.map_map]
    refine congr (congrArg _ (congrArg _ (by omega))) ?_
    apply List.map_congr_left
    intro i _
    show V.int _=V.int _
    congr 1
    simp only[Nat.succ_eq_add_one]
    omega
   rw[r]
   refine .cons (.int _ t) (ih (by simpa using hl) fun j u hu=>?_)
   obtain⟨t',e'⟩:=hv (j+1) u (by simpa using hu)
   refine⟨t',?_⟩
   rw[e']
   congr 1
   omega
section
variable {prog:Program} {w:World} {Γ:Cx}
theorem ZyA{x x2:Str}{np pos np2 pos2:Pos}{e:Expr}{es:List Expr}{g:Exs}(hn:Nm prog w Γ x (.type "list"))(hr:Nm prog w Γ x2 (.type "range"))(h:Js prog w Γ (e::es) g)
  (he:starEach (e::es) Γ.env=(false,eval e Γ.env)::starEach es Γ.env:=by rfl) (hp:∀pos,(backTo pos (starEach es Γ.env)).any (·.1)=false:=by intro _;rfl):J prog w Γ (.Call (.Name x np) [.Call (.Name x2 np2) (e::es) [] pos2] [] pos) (Zq Zh3 g):=by
 intro W ρ H fr s Q E v H' r hf post
 obtain⟨p,e1,hf⟩:=Zz0.mp hf
 refine wpAny_Call_ofName (hn.use r ?_)
 refine PySem.Pv.callWith_type1 (wpAny_items_cons (wpAny_Call_ofName (hr.use r (PySem.Pv.callWith_type1 (h pos2 W ρ H fr s _ E _ _ r e1 fun W1 k1 t1 xs l1 r1 x1=>?_) he (hp pos2)))) rfl) rfl rfl
 obtain⟨vs,H1⟩:=p
 dsimp only at hf x1 r1
 unfold Zh3 at hf
 split at hf
 ·obtain⟨y,z,ex,ry,rz⟩:=x1.two
  subst ex
  cases ry
  cases rz
  split at hf
  ·rename_i _ _ a b _ _ hc
   cases hf
   refine call_range_2 (wpAny_items_nil ?_)
   refine My.list_any (n:=(b-a).toNat) Γ.hh (IsRange.new ..) ?_ (by omega) fun g tk acc k up hg its=>?_
   ·unfold Builtin.Range.rangeSize
    rw[if_pos (by decide)]
    split
    ·omega
    ·omega
   have e:acc=acc.toList.toArray:=by simp
   obtain⟨W2,l2,r2,v2⟩:=(r1.push _).listAt (xs:=acc.toList) up (by rw[hg]) (Zxj (a:=a) (n:=(b-a).toNat) (by have:=its.1;simpa using this) fun j v hv=>its.2 j v (by simpa using hv)) (by simp[Zeh,LEN];omega)
   exact post W2 g tk _ (l1.trans l2) r2 v2
  ·cases hf
 ·cases hf
end
end PM
end
section
namespace TM
open PySem PM
noncomputable def Zh4: List T→Option T
 | [.int a,.int b]=>if 0≤b-a∧b-a≤1000 then some (.lst (tab (b-a).toNat fun i=>.int (a+i)))else none
 | _=>none
theorem ZyB: OCn Zh3 Zh4:=fun H vs ts t F hp r h=>by
 unfold Zh4 at h
 split at h
 ·split at h
  ·rename_i a b hc
   cases h
   cases r with
   | cons r1 r2=>
   obtain⟨v,rfl,r'⟩:=r2.one_inv
   cases r1
   cases r'
   have e1:Zeh a (b-a).toNat=((List.range (b-a).toNat).map fun(i:Nat)=>a+(i:Int)).map V.int:=by rw[Zeh,List.map_map];rfl
   have e2:(tab (b-a).toNat fun i=>T.int (a+i))=((List.range (b-a).toNat).map fun(i:Nat)=>a+(i:Int)).map T.int:=by rw[tab,List.map_map];rfl
   refine⟨_,[Zeh a (b-a).toNat],_,by simp only[Zh3];rw[if_pos hc],by rw[e1,e2];exact Zem (ZoG _),fun q m=>?_,fun _=>?_⟩
   ·rcases Zz7.mp m with rfl | m
    ·exact .inl (Zz10 _)
    ·cases m
   ·simp
  ·cases h
 ·cases h
section
variable {Q:T→Prop}
theorem Zxk{a b:Int}{n:Nat}(h:b=a+n)(hn:n≤1000)(q:Q (.lst (tab n fun i=>.int (a+i)))): Pk (Zh4 [.int a,.int b]) Q:=by
 refine⟨_,?_,q⟩
 simp only[Zh4]
 rw[if_pos (by omega),show(b-a).toNat=n by omega]
end
end TM
end
section
namespace TM
open PySem PM
def NoRet(g:Sm): Prop:=∀ρ H r,g ρ H=some r→r.1=none
def End0(g:Sm): Prop:=∀ρ H r,g ρ H=some r→∃v,r.1=some v∧r.2.1 0=some v
theorem NoRet.put{f o i:Ex}: NoRet (ZbP f o i):=fun ρ H r h=>by
 obtain⟨_,_,h⟩:=Zz0.mp h
 obtain⟨_,_,h⟩:=Zz0.mp h
 obtain⟨_,_,h⟩:=Zz0.mp h
 obtain⟨_,_,q⟩:=Zz1.mp h
 subst q;rfl
theorem NoRet.set{i:Nat}{e:Ex}: NoRet (ZN i e):=fun ρ H r h=>by
 obtain⟨_,_,q⟩:=Zz1.mp h
 subst q;rfl
theorem NoRet.seq{a b:Sm}(x:NoRet a)(y:NoRet b): NoRet (Zt a b):=fun ρ H r h=>by
 obtain⟨r1,e1,h⟩:=Zz0.mp h
 have h1:=x ρ H r1 e1
 rw[h1]at h
 exact y _ _ _ h
theorem Zq6{nx:Nx}{put:V→Lc→Option Lc}{b:Sm}(hb:NoRet b): ∀n i,NoRet (Zc9 nx put b n i)
 | 0,_=>fun _ _ _ h=>by cases h
 | n+1,i=>fun ρ H r h=>by
  obtain⟨o,_,h⟩:=Zz0.mp h
  split at h
  ·cases h;rfl
  ·obtain⟨ρ1,e1,h⟩:=Zz0.mp h
   obtain⟨q,e2,h⟩:=Zz0.mp h
   have k:=hb _ _ _ e2
   rw[k]at h
   exact Zq6 hb n (i+1) _ _ _ h
theorem Zwl{g:Src}{put:V→Lc→Option Lc}{b:Sm}(hb:NoRet b): NoRet (ZaX g put b):=fun ρ H r h=>by
 obtain⟨z,_,h⟩:=Zz0.mp h
 exact Zq6 hb _ _ _ _ _ h
theorem End0.ret: End0 (ZD (Za 0)):=fun ρ H r h=>by
 obtain⟨p,h2,q⟩:=Zz1.mp h
 obtain⟨v,h3,e⟩:=Zz1.mp h2
 subst q;subst e
 exact⟨v,rfl,h3⟩
theorem End0.seq{a b:Sm}(x:NoRet a)(y:End0 b): End0 (Zt a b):=fun ρ H r h=>by
 obtain⟨r1,e1,h⟩:=Zz0.mp h
 have h1:=x ρ H r1 e1
 rw[h1]at h
 exact y _ _ _ h
def Back0(f:List V→Hp→Option (V×Hp)): Prop:=∀v vs H w H',f (v::vs) H=some (w,H')→w=v
theorem Back0.of{n:Nat}{g:Sm}(h:End0 g)(k:Keep0 g): Back0 (ZT n g):=fun v vs H w H' e=>by
 unfold ZT at e
 split at e
 ·obtain⟨r,e1,e2⟩:=Zz1.mp e
  obtain⟨u,h1,h2⟩:=h _ _ _ e1
  have h3:=k _ _ _ e1
  rw[h2]at h3
  cases e2
  rw[h1]
  have:(some u:Option V)=some v:=h3
  cases this
  rfl
 ·cases e
theorem ZAT{O N:List Nat}{u:Bool}{n:Nat}{e:Ex}{pe:PE}{es:Exs}{ps:PEs}{f:List V→Hp→Option (V×Hp)}{p:List T→Option T}(k:SimM f p)(b:Back0 f)(x:E O [] true e pe)(y:Es O N u n es ps): E O [] true (Zq f (Zd e es)) (Zr p (Ze pe ps)):=fun c ρ σ H Φ t s h=>by
 obtain⟨ts,h1,h⟩:=Zz0.mp h
 obtain⟨t0,g1,h1⟩:=Zz0.mp h1
 obtain⟨ts1,g2,h1⟩:=Zz0.mp h1
 cases h1
 obtain⟨v,X,F0,a1,a2,a3,a4⟩:=x c ρ σ H Φ t0 s g1
 obtain⟨_,vs,Y,F1,b1,b2,b3,b4⟩:=y c ρ σ (H++X) Φ ts1 (s.ext X) g2
 have hpos:=s.pos
 have hlen:=s.len
 have l1:(H++X).length=H.length+X.length:=List.length_append
 have l2:(H++X++Y).length=H.length+X.length+Y.length:=by rw[List.length_append,l1]
 have new0:∀a∈F0,H.length≤a:=fun a m=>(a3 a m).nil
 have dj:∀a∈F0,a∉F1:=fun a m q=>by
  have q1:=a2.lt a m
  rcases b3 a q with h | ⟨j,hj,⟨tj,ej⟩,mj⟩
  ·omega
  ·obtain⟨_,_,rj⟩:=s.slot j tj ej
   have:=rj.lt a mj
   have:=new0 a m
   omega
 obtain⟨w,H',F',c1,c2,c3,c4,c5,c6⟩:=k (H++X++Y) v vs t0 ts1 t F0 F1 (by omega) (a2.ext Y) (a4 rfl) (fun m=>by have:=new0 0 m;omega) b2 dj h
 have hw:=b _ _ _ _ _ c1
 subst hw
 have hH:H'=H++H'.drop H.length:=by
  apply List.ext_getElem?
  intro a
  by_cases ha:a<H.length
  ·rw[c3 a (by omega) (fun m=>by have:=new0 a m;omega),List.append_assoc,List.getElem?_append_left ha,List.getElem?_append_left ha]
  ·rw[List.getElem?_append_right (by omega),List.getElem?_drop]
   congr 1;omega
 refine⟨w,H'.drop H.length,F',?_,?_,fun a m=>.inl ?_,fun _=>c5⟩
 ·rw[←hH]
  simp only[Zq,Zd,a1,b1,Option.bind_some,c1]
 ·rw[←hH];exact c4
 ·rcases c6 a m with h | h
  ·omega
  ·exact new0 a h
end TM
end
section
namespace PM
open PySem PySem.W PySem.Calls PyProof.Rows PyProof PySem.Spec
noncomputable def Zkk: Expr→Bool
 | .Starred _ _=>true
 | _=>false
theorem Zp4{e:Expr}{es:List Expr}{env:Env}(h:Zkk e=false): starEach (e::es) env=(false,eval e env)::starEach es env:=by
 cases e <;> first | rfl | cases h
noncomputable def Zkl: List Expr→Bool
 | []=>true
 | e::es=>!Zkk e && Zkl es
theorem Ztm{env:Env}: ∀{es:List Expr} (pos:Pos),Zkl es=true→(backTo pos (starEach es env)).any (·.1)=false
 | [],pos,_=>by rfl
 | e::es,pos,h=>by
  simp only[Zkl,Bool.and_eq_true,Bool.not_eq_true']at h
  have ih:=Ztm (env:=env) (es:=es) pos h.2
  rw[Zp4 h.1]
  unfold backTo at ih ⊢
  simp only[List.map_cons,List.any_cons,Bool.false_or]
  exact ih
section
variable {prog:Program} {w:World} {Γ:Cx}
theorem jc{e:Expr}{es:List Expr}{f:Ex}{g:Exs}(h1:J prog w Γ e f)(h2:Js prog w Γ es g)(hs:Zkk e=false:=by exact rfl): Js prog w Γ (e::es) (Zd f g):=ZxP h1 h2 (Zp4 hs)
end
section
variable {prog:Program} {w:World} {K:Frag} {p:Program} {loose:List Str} {mean:ExcName→Option Value} {mg mb:Str→Option Value}
theorem Zxl{f:Addr}{room:Nat}: Def prog w K p loose mean mg mb f room (fun _ _=>none):=by
 intro Γ dp un clr hd hu W ρ H fr s Q E as xs v H' r hx hF post
 cases hF
end
end PM
end
section
namespace PM
open PySem PySem.W PySem.Calls PyProof.Rows PyProof PySem.Spec
section
variable {prog:Program} {w:World} {Γ:Cx}
theorem ln1{α:Type _}: ∀{xs:List α},xs.length=1→∃x0,xs=[x0]
 | [x0],_=>⟨x0,rfl⟩
theorem ln2{α:Type _}: ∀{xs:List α},xs.length=2→∃x0 x1,xs=[x0,x1]
 | [x0,x1],_=>⟨x0,x1,rfl⟩
theorem ln3{α:Type _}: ∀{xs:List α},xs.length=3→∃x0 x1 x2,xs=[x0,x1,x2]
 | [x0,x1,x2],_=>⟨x0,x1,x2,rfl⟩
theorem ln4{α:Type _}: ∀{xs:List α},xs.length=4→∃x0 x1 x2 x3,xs=[x0,x1,x2,x3]
 | [x0,x1,x2,x3],_=>⟨x0,x1,x2,x3,rfl⟩
theorem ln5{α:Type _}: ∀{xs:List α},xs.length=5→∃x0 x1 x2 x3 x4,xs=[x0,x1,x2,x3,x4]
 | [x0,x1,x2,x3,x4],_=>⟨x0,x1,x2,x3,x4,rfl⟩
theorem ln6{α:Type _}: ∀{xs:List α},xs.length=6→∃x0 x1 x2 x3 x4 x5,xs=[x0,x1,x2,x3,x4,x5]
 | [x0,x1,x2,x3,x4,x5],_=>⟨x0,x1,x2,x3,x4,x5,rfl⟩
theorem ln7{α:Type _}: ∀{xs:List α},xs.length=7→∃x0 x1 x2 x3 x4 x5 x6,xs=[x0,x1,x2,x3,x4,x5,x6]
 | [x0,x1,x2,x3,x4,x5,x6],_=>⟨x0,x1,x2,x3,x4,x5,x6,rfl⟩
theorem jI{k:Int}{n:Nat}{pos:Pos}: J prog w Γ (.Constant (.int k) n pos) (Zk k):=J.int _ _ _
theorem jN{n:Nat}{pos:Pos}: J prog w Γ (.Constant .none n pos) Zaa:=J.none _ _
theorem jB{b:Bool}{n:Nat}{pos:Pos}: J prog w Γ (.Constant (.bool b) n pos) (ZbF b):=J.bool _ _ _
theorem jS{x:Str}{n:Nat}{pos:Pos}: J prog w Γ (.Constant (.str x) n pos) (Zbe x):=J.str _ _ _
theorem cO{elt iter:Expr}{x:Str}{px:Pos}{ifs:List Expr}{scope:Scope}{pos:Pos}{cl:List (Str×Addr)}{t:Nat}{g:Src}{c:Ts}{f:Ex}(hg:JI prog w Γ iter g)(hel:∀C ρ,J prog w (Zbf Γ scope cl C [(x,t)] ρ) elt f)(hif:∀C ρ,JF prog w (Zbf Γ scope cl C [(x,t)] ρ) ifs c)
  (hclos:closureFor scope Γ.env=pure cl:=by with_unfolding_all rfl) (hcell:∀y∈scope.names,y.2≠.cell:=by decide) (hkind:scope.kind=.function:=by exact rfl) (hnames:∀y∈scope.names,y.2=.local→scope.names.lookup y.1=some .local:=by decide) (hx:scope.names.lookup x=some .local:=by exact rfl) (hs:∀x,foldedSetIterable iter Γ.env x=pure x:=by intro _;rfl):
  J prog w Γ (.ListComp elt [⟨.Name x px,iter,ifs,0⟩] scope pos) (ZaB g (put1 t) c f):=Zzk hg hel hif hclos hcell hkind hnames hx hs
theorem cT{elt iter:Expr}{x x₂:Str}{px px₂ tp:Pos}{kt:Nat}{scope:Scope}{pos:Pos}{cl:List (Str×Addr)}{t t₂:Nat}{g:Src}{f:Ex}(hg:JI2 prog w Γ iter g)(hel:∀C ρ,J prog w (Zbf Γ scope cl C [(x,t),(x₂,t₂)] ρ) elt f)
  (hclos:closureFor scope Γ.env=pure cl:=by with_unfolding_all rfl) (hcell:∀y∈scope.names,y.2≠.cell:=by decide) (hkind:scope.kind=.function:=by exact rfl) (hnames:∀y∈scope.names,y.2=.local→scope.names.lookup y.1=some .local:=by decide) (hx:scope.names.lookup x=some .local:=by exact rfl) (hx₂:scope.names.lookup x₂=some .local:=by exact rfl) (hxx:x≠x₂:=by decide) (htt:t≠t₂:=by decide) (hs:∀x,foldedSetIterable iter Γ.env x=pure x:=by intro _;rfl):
  J prog w Γ (.ListComp elt [⟨.Tuple [.Name x px,.Name x₂ px₂] kt tp,iter,[],0⟩] scope pos) (ZaB g (ZbY t t₂) Zaw f):=ZxV hg hel hclos hcell hkind hnames hx hx₂ hxx htt hs
theorem sO{elt iter:Expr}{x y:Str}{px py pos spos:Pos}{ifs:List Expr}{scope:Scope}{cl:List (Str×Addr)}{t i:Nat}{g:Src}{c:Ts}{f:Ex}(hy:Sto prog w Γ y i)(hg:JI prog w Γ iter g)(hel:∀C ρ,J prog w (Zbf Γ scope cl C [(x,t)] ρ) elt f)(hif:∀C ρ,JF prog w (Zbf Γ scope cl C [(x,t)] ρ) ifs c)
  (hsw:swapsWith (.ListComp elt [⟨.Name x px,iter,ifs,0⟩] scope pos) (some (.Name y py)) spos.line Γ.env=pure true:=by rfl)
  (hclos:closureFor scope Γ.env=pure cl:=by with_unfolding_all rfl) (hcell:∀y∈scope.names,y.2≠.cell:=by decide) (hkind:scope.kind=.function:=by exact rfl) (hnames:∀y∈scope.names,y.2=.local→scope.names.lookup y.1=some .local:=by decide) (hx:scope.names.lookup x=some .local:=by exact rfl) (hs:∀x,foldedSetIterable iter Γ.env x=pure x:=by intro _;rfl):
  S1 prog w Γ (.Assign [.Name y py] (.ListComp elt [⟨.Name x px,iter,ifs,0⟩] scope pos) spos) (ZN i (ZaB g (put1 t) c f)):=Zvm hy hg hel hif hsw hclos hcell hkind hnames hx hs
theorem sT{elt iter:Expr}{x x₂ y:Str}{px px₂ tp py pos spos:Pos}{kt:Nat}{scope:Scope}{cl:List (Str×Addr)}{t t₂ i:Nat}{g:Src}{f:Ex}(hy:Sto prog w Γ y i)(hg:JI2 prog w Γ iter g)(hel:∀C ρ,J prog w (Zbf Γ scope cl C [(x,t),(x₂,t₂)] ρ) elt f)
  (hsw:swapsWith (.ListComp elt [⟨.Tuple [.Name x px,.Name x₂ px₂] kt tp,iter,[],0⟩] scope pos) (some (.Name y py)) spos.line Γ.env=pure true:=by rfl)
  (hclos:closureFor scope Γ.env=pure cl:=by with_unfolding_all rfl) (hcell:∀y∈scope.names,y.2≠.cell:=by decide) (hkind:scope.kind=.function:=by exact rfl) (hnames:∀y∈scope.names,y.2=.local→scope.names.lookup y.1=some .local:=by decide) (hx:scope.names.lookup x=some .local:=by exact rfl) (hx₂:scope.names.lookup x₂=some .local:=by exact rfl) (hxx:x≠x₂:=by decide) (htt:t≠t₂:=by decide) (hs:∀x,foldedSetIterable iter Γ.env x=pure x:=by intro _;rfl):
  S1 prog w Γ (.Assign [.Name y py] (.ListComp elt [⟨.Tuple [.Name x px,.Name x₂ px₂] kt tp,iter,[],0⟩] scope pos) spos) (ZN i (ZaB g (ZbY t t₂) Zaw f)):=ZuN hy hg hel hsw hclos hcell hkind hnames hx hx₂ hxx htt hs
end
section
variable {prog:Program} {w:World} {dp un:Nat} {gd:Option (List Code)} {cn:Str} {cs:Scope} {L a:Addr} {ccd:Value} {cl:List (Str×Addr)} {outer:List Env} {h₀:Heap} {hu:un+200<cLine} {names:List Str}
theorem vL{x:Str}{i:Nat}{pos:Pos}(hi:names[i]?=some x:=by rfl)(hx:cs.names.lookup x=some .local:=by exact rfl)(hk:cs.kind=.function:=by exact rfl)(hd:(x == ("__debug__":Str))=false:=by exact rfl): J prog w (ZbH dp un gd cn cs L a ccd cl outer h₀ hu names) (.Name x pos) (Za i):=Zkx (Zzi hi hx hk hd)
theorem vC{x:Str}{i:Nat}{pos:Pos}(hi:names[i]?=some x:=by rfl)(hx:cs.names.lookup x=some .cell:=by exact rfl)(hk:cs.kind=.function:=by exact rfl)(hd:(x == ("__debug__":Str))=false:=by exact rfl): J prog w (ZbH dp un gd cn cs L a ccd cl outer h₀ hu names) (.Name x pos) (Za i):=Zkx (Zzj hi hx hk hd)
theorem sL{x:Str}{i:Nat}(nd:names.Nodup:=by decide)(hi:names[i]?=some x:=by rfl)(hx:cs.names.lookup x=some .local:=by exact rfl)(hk:cs.kind=.function:=by exact rfl): Sto prog w (ZbH dp un gd cn cs L a ccd cl outer h₀ hu names) x i:=ZxS nd hi hx hk
theorem sC{x:Str}{i:Nat}(nd:names.Nodup:=by decide)(hi:names[i]?=some x:=by rfl)(hx:cs.names.lookup x=some .cell:=by exact rfl)(hk:cs.kind=.function:=by exact rfl)(hcl:(cl.lookup x).isSome=true:=by exact rfl): Sto prog w (ZbH dp un gd cn cs L a ccd cl outer h₀ hu names) x i:=ZxT nd hi hx hk hcl
end
section
variable {prog:Program} {w:World} {K:Frag} {p:Program} {loose:List Str} {mean:ExcName→Option Value} {mg mb:Str→Option Value} {Γ:Cx} {dp un:Nat}
theorem nB{x:Str}{v:Value}(clr:Clr K p loose mean mg mb Γ dp un)(e:nsIn K mainGlobals x=some Option.none:=by k_is)(hv:bootBuiltins x=some v:=by boot_by_name)(hn:x≠"__name__":=by decide)(hg:Γ.env.globals=mainGlobals:=by exact rfl)(hb:Γ.env.builtins=builtinsNs:=by exact rfl)(hk:Γ.env.scope.kind=.function:=by exact rfl)(hx:Γ.env.kindOf x=some .globalImplicit:=by exact rfl)(hd:(x == ("__debug__":Str))=false:=by exact rfl): Nm prog w Γ x v:=ZwV clr e hv hn hg hb hk hx hd
theorem cF{x:Str}{np pos:Pos}{f:Addr}{room:Nat}{e:Expr}{es:List Expr}{g:Exs}{o:List V→Hp→Option (V×Hp)}(clr:Clr K p loose mean mg mb Γ dp un)(D:Def prog w K p loose mean mg mb f room o)(h:Js prog w Γ (e::es) g)
  (en:nsIn K mainGlobals x=some (some (.ref f)):=by k_is) (hg:Γ.env.globals=mainGlobals:=by exact rfl) (hk:Γ.env.scope.kind=.function:=by exact rfl) (hx:Γ.env.kindOf x=some .globalImplicit:=by exact rfl) (hd0:(x == ("__debug__":Str))=false:=by exact rfl)
  (hkeep:keepIn K (.ref f)=true:=by k_is) (hd:dp+room<recursionLimit:=by omega) (hu:un+10*room+300<cLine:=by omega)
  (he:Zkk e=false:=by exact rfl) (hp:Zkl es=true:=by exact rfl):J prog w Γ (.Call (.Name x np) (e::es) [] pos) (Zq o g):=ZxW clr (Zzo clr en hg hk hx hd0) hkeep D hd hu h (Zp4 he) (fun pos=>Ztm pos hp)
theorem Z9{name qual:Str}{params:Arguments}{body:List Stmt}{scope:Scope}{dV kV doc pm cdv ct oc:Value}{an od:Option Addr}{osl:Array (Option Value)}{f:Addr}{names:List Str}{n room:Nat}{g:Sm}
  (hbody:∀(dp un:Nat) (gd:Option (List Code)) (L:Addr) (outer:List Env) (h₀:Heap) (hu:un+200<cLine),Clr K p loose mean mg mb (ZbH dp un gd qual scope L f cdv (cellsFrom (L+1) scope.names []) outer h₀ hu names) dp un→dp+room<recursionLimit→un+10*room+300<cLine →
   Ss prog w (ZbH dp un gd qual scope L f cdv (cellsFrom (L+1) scope.names []) outer h₀ hu names) body g)
  (ho:K.lookup f=some ⟨oc,od,.func (fnOf name qual params body scope dV kV doc pm an cdv ct),osl⟩:=by k_is) (hcd:codeIn K cdv qual=true:=by k_is) (nd:names.Nodup:=by decide) (hn:n≤names.length:=by decide)
  (hbind:∀s xs,xs.length=n→BindsTo s (fnOf name qual params body scope dV kV doc pm an cdv ct) ⟨xs,[]⟩ ((names.take n).zip xs):=by
   intro s xs hx
   first
   | (obtain⟨x0,rfl⟩:=ln1 hx;exact BindsTo.of_eq rfl)
   | (obtain⟨x0,x1,rfl⟩:=ln2 hx;exact BindsTo.of_eq rfl)
   | (obtain⟨x0,x1,x2,rfl⟩:=ln3 hx;exact BindsTo.of_eq rfl)
   | (obtain⟨x0,x1,x2,x3,rfl⟩:=ln4 hx;exact BindsTo.of_eq rfl)
   | (obtain⟨x0,x1,x2,x3,x4,rfl⟩:=ln5 hx;exact BindsTo.of_eq rfl)
   | (obtain⟨x0,x1,x2,x3,x4,x5,rfl⟩:=ln6 hx;exact BindsTo.of_eq rfl)
   | (obtain⟨x0,x1,x2,x3,x4,x5,x6,rfl⟩:=ln7 hx;exact BindsTo.of_eq rfl)) (hkinds:∀x∈names.take n,scope.names.lookup x=some .local∨scope.names.lookup x=some .cell:=by decide) (hone:((cellsFrom 0 scope.names []).map (·.1)).Nodup:=by decide +kernel)
  (hco:scope.isCoroutine=false:=by exact rfl) (hgen:scope.isGenerator=false:=by exact rfl) (hk:scope.kind=.function:=by exact rfl):
  Def prog w K p loose mean mg mb f (room+1) (ZT n g):=Def.of ho hcd nd hn hbind hkinds hone hco hgen hk hbody
end
section
variable {prog:Program} {w:World} {Γ:Cx} {scope:Scope} {cl:List (Str×Addr)} {C:Addr} {ts:List (Str×Nat)} {ρ0:Lc}
theorem vO{x:Str}{t:Nat}{pos:Pos}(hm:(x,t)∈ts:=by first | exact Zz5 | exact Zz2 _ Zz5)(hk:scope.kind=.function:=by exact rfl)(hl:(compEnvC scope cl C Γ.env).kindOf x=some .local:=by exact rfl)(hd:(x == ("__debug__":Str))=false:=by exact rfl): J prog w (Zbf Γ scope cl C ts ρ0) (.Name x pos) (Za t):=Zkx (ZxY hm hk hl hd)
end
section
variable {prog:Program} {w:World} {dp un:Nat} {gd:Option (List Code)} {cn:Str} {cs:Scope} {L a:Addr} {ccd:Value} {clf:List (Str×Addr)} {outer:List Env} {h₀:Heap} {hu:un+200<cLine} {names:List Str} {scope:Scope} {cl:List (Str×Addr)} {C:Addr} {ts:List (Str×Nat)} {ρ0:Lc}
theorem vD{x:Str}{i:Nat}{pos:Pos}(hi:names[i]?=some x:=by rfl)(hx:cs.names.lookup x=some .cell:=by exact rfl)(hne:∀p∈ts,p.2≠i:=by decide)(hcl:cl.lookup x=clf.lookup x:=by exact rfl)(hk:scope.kind=.function:=by exact rfl)(hl:(compEnvC scope cl C (envX cn cs L a ccd clf)).kindOf x=some .cell:=by exact rfl)(hd:(x == ("__debug__":Str))=false:=by exact rfl):
  J prog w (Zbf (ZbH dp un gd cn cs L a ccd clf outer h₀ hu names) scope cl C ts ρ0) (.Name x pos) (Za i):=Zkx (ZxZ hi hx hne hcl hk hl hd)
end
end PM
end
noncomputable section
open PySem PM TM
namespace L
variable {H:Hp} {a:V} {t:T} {F:List Nat} {ρ:Lc} {σ:TL}
def Zmj: Sm:=Zt (ZN 2 (Zg Zae (Zg Za9 (Zg Za9 (Za 1) (Za 1)) (Zk 7919)) (Zk 11))) (Zt (ZU (ZK (Zg oGt (Zq ZaJ (Zd (Za 0) Zn)) (Zk 0))) (ZN 2 (Zg Zae (Za 2) (Zg Zu (Za 0) (Zg oMod (Za 1) (Zq ZaJ (Zd (Za 0) Zn)))))) ZW) (ZD (Za 2)))
def ZiO:=ZT 2 Zmj
def Zmk: PS:=(Zw (ZR 2 (Zh Zab (Zh ZaY (Zh ZaY (Zb 1) (Zb 1)) (Zj 7919)) (Zj 11))) (Zw (ZV (ZL (Zh qGt (Zr Zaz (Ze (Zb 0) Zm)) (Zj 0))) (ZR 2 (Zh Zab (Zb 2) (Zh Zv (Zb 0) (Zh ZaL (Zb 1) (Zr Zaz (Ze (Zb 0) Zm)))))) ZX) (ZF (Zb 2))))
def Zg9:=ZY 2 Zmk
theorem ZqO: SimF false ZiO Zg9:=SimF.of (show S [] [] [] false Zmj Zmk from(Zz (Z5 (O':=[]) (Zac Zah (Zac Zbz (Zac Zbz (Zc 1) (Zc 1)) (Zl _)) (Zl _))) (Zz (Z6 (ZO (ZE ZfR (ZaD ZaW (Zf (Zc 0) Zo)) (Zl _))) (Z5 (O':=[]) (Zac Zah (Zc 2) (ZC ZB (Zc 0) (ZE ZaV (Zc 1) (ZaD ZaW (Zf (Zc 0) Zo)))))) Z4) (ZQ (Zc 2)))))
def Zm2: Sm:=ZD (Zg oMod (Zg oMod (Zg Za9 (Zq ZiO (Zd (Za 0) (Zd (Za 1) Zn))) (Zk 48271)) (Zk 2147483647)) (Za 2))
def Zb1:=ZT 3 Zm2
def Zm3: PS:=(ZF (Zh ZaL (Zh ZaL (Zh ZaY (Zr Zg9 (Ze (Zb 0) (Ze (Zb 1) Zm))) (Zj 48271)) (Zj 2147483647)) (Zb 2)))
def ZbB:=ZY 3 Zm3
theorem Zci: SimF false Zb1 ZbB:=SimF.of (show S [] [] [] false Zm2 Zm3 from(ZQ (ZE ZaV (ZE ZaV (Zac Zbz (ZG ZqO (Zf (Zc 0) (Zf (Zc 1) Zo))) (Zl _)) (Zl _)) (Zc 2))))
def ZlZ: Sm:=Zt (ZN 2 (Zq ZiO (Zd (Za 0) (Zd (Za 1) Zn)))) (Zt (ZN 3 (Zg Zu (Za0 (Zd (Zk 3) (Zd (Zk 9) (Zd (Zg oPow (Zk 10) (Zk 9)) (Zd (Zg oPow (Zk 10) (Zk 40)) Zn))))) (Zg oMod (Zg oMod (Zg Za9 (Za 2) (Zk 69621)) (Zk 2147483629)) (Zk 4)))) (ZD (Zg Zbk (Zg oMod (Zg Za9 (Za 2) (Zg oPow (Zk 48271) (Zk 9))) (Zg Zae (Zg Za9 (Zk 2) (Za 3)) (Zk 1))) (Za 3))))
def Zep:=ZT 2 ZlZ
def Zl0: PS:=(Zw (ZR 2 (Zr Zg9 (Ze (Zb 0) (Ze (Zb 1) Zm)))) (Zw (ZR 3 (Zh Zv (ZaU (Ze (Zj 3) (Ze (Zj 9) (Ze (Zh Zdt (Zj 10) (Zj 9)) (Ze (Zh Zdt (Zj 10) (Zj 40)) Zm))))) (Zh ZaL (Zh ZaL (Zh ZaY (Zb 2) (Zj 69621)) (Zj 2147483629)) (Zj 4)))) (ZF (Zh Zba (Zh ZaL (Zh ZaY (Zb 2) (Zh Zdt (Zj 48271) (Zj 9))) (Zh Zab (Zh ZaY (Zj 2) (Zb 3)) (Zj 1))) (Zb 3)))))
def ZdU:=ZY 2 Zl0
theorem ZfZ: SimF false Zep ZdU:=SimF.of (show S [] [] [] false ZlZ Zl0 from(Zz (Z5 (O':=[]) (ZG ZqO (Zf (Zc 0) (Zf (Zc 1) Zo)))) (Zz (Z5 (O':=[]) (ZC ZB (E.list (Zf (Zl _) (Zf (Zl _) (Zf (ZE Zp2 (Zl _) (Zl _)) (Zf (ZE Zp2 (Zl _) (Zl _)) Zo))))) (ZE ZaV (ZE ZaV (Zac Zbz (Zc 2) (Zl _)) (Zl _)) (Zl _)))) (ZQ (ZE Zbr (ZE ZaV (Zac Zbz (Zc 2) (ZE Zp2 (Zl _) (Zl _))) (Zac Zah (Zac Zbz (Zl _) (Zc 3)) (Zl _))) (Zc 3))))))
def Zml: Sm:=Zt (ZN 2 (Zq Zb1 (Zd (Za 0) (Zd (Za 1) (Zd (Zk 42) Zn))))) (Zt (ZU (ZK (Zg oLt (Zg oMod (Za 2) (Zk 6)) (Zk 2))) (ZD (Zaa)) ZW) (Zt (ZU (ZK (Zg oLt (Zg oMod (Za 2) (Zk 6)) (Zk 4))) (ZD (Zk 0)) ZW) (Zt (ZU (ZK (Zg oEq (Zg oMod (Za 2) (Zk 6)) (Zk 4))) (ZD (Zg oDiv (Za 2) (Zk 6))) ZW) (ZD (Zq ZdK (Zd (Zq Zep (Zd (Za 0) (Zd (Za 1) Zn))) Zn))))))
def Zmm:=ZT 2 Zml
def Zmn: PS:=(Zw (ZR 2 (Zr ZbB (Ze (Zb 0) (Ze (Zb 1) (Ze (Zj 42) Zm))))) (Zw (ZV (ZL (Zh qLt (Zh ZaL (Zb 2) (Zj 6)) (Zj 2))) (ZF (Zad)) ZX) (Zw (ZV (ZL (Zh qLt (Zh ZaL (Zb 2) (Zj 6)) (Zj 4))) (ZF (Zj 0)) ZX) (Zw (ZV (ZL (Zh qEq (Zh ZaL (Zb 2) (Zj 6)) (Zj 4))) (ZF (Zh Zcf (Zb 2) (Zj 6))) ZX) (ZF (Zr ZdN (Ze (Zr ZdU (Ze (Zb 0) (Ze (Zb 1) Zm))) Zm)))))))
def ZiQ:=ZY 2 Zmn
theorem ZuQ: SimF false Zmm ZiQ:=SimF.of (show S [] [] [] false Zml Zmn from(Zz (Z5 (O':=[]) (ZG Zci (Zf (Zc 0) (Zf (Zc 1) (Zf (Zl _) Zo))))) (Zz (Z6 (ZO (ZE ZdL (ZE ZaV (Zc 2) (Zl _)) (Zl _))) (ZQ (Zag)) Z4) (Zz (Z6 (ZO (ZE ZdL (ZE ZaV (Zc 2) (Zl _)) (Zl _))) (ZQ (Zl _)) Z4) (Zz (Z6 (ZO (ZE Zau (ZE ZaV (Zc 2) (Zl _)) (Zl _))) (ZQ (ZE ZcY (Zc 2) (Zl _))) Z4) (ZQ (ZaD ZfI (Zf (ZG ZfZ (Zf (Zc 0) (Zf (Zc 1) Zo))) Zo))))))))
def Zlv: Sm:=Zt (ZU (ZK (Zg oEq (Za 0) (Zk 0))) (ZD (Zak (Zd (Zk 0) (Zd (Za 1) Zn)))) ZW) (ZD (Zak (Zd (Za 0) (Zd (Zg oMod (Za 1) (Za 0)) Zn))))
def Zix:=ZT 2 Zlv
def Zlw: PS:=(Zw (ZV (ZL (Zh qEq (Zb 0) (Zj 0))) (ZF (Zan (Ze (Zj 0) (Ze (Zb 1) Zm)))) ZX) (ZF (Zan (Ze (Zb 0) (Ze (Zh ZaL (Zb 1) (Zb 0)) Zm)))))
def ZgZ:=ZY 2 Zlw
theorem Zqx: SimF false Zix ZgZ:=SimF.of (show S [] [] [] false Zlv Zlw from(Zz (Z6 (ZO (ZE Zau (Zc 0) (Zl _))) (ZQ (E.tup (Zf (Zl _) (Zf (Zc 1) Zo)))) Z4) (ZQ (E.tup (Zf (Zc 0) (Zf (ZE ZaV (Zc 1) (Zc 0)) Zo))))))
def Zm4: Sm:=Zt (ZN 3 (Zq Zb1 (Zd (Za 0) (Zd (Za 1) (Zd (Zk 60) Zn))))) (Zt (ZU (ZK (Zg oLt (Zg oMod (Za 3) (Zk 5)) (Zk 2))) (ZD (Zak (Zd (Zk 1) (Zd (Zk 0) Zn)))) ZW) (Zt (ZU (ZK (Zg oEq (Zg oMod (Za 3) (Zk 5)) (Zk 2))) (ZD (Zak (Zd (Zk 0) (Zd (Za 2) Zn)))) ZW) (Zt (ZU (ZK (Zg oEq (Zg oMod (Za 3) (Zk 5)) (Zk 3))) (ZD (Zq Zix (Zd (Zg Zae (Zg oDiv (Za 3) (Zk 5)) (Zk 1)) (Zd (Za 2) Zn)))) ZW) (ZD (Zq Zix (Zd (Zq ZdK (Zd (Zq Zep (Zd (Za 0) (Zd (Za 1) Zn))) Zn)) (Zd (Za 2) Zn)))))))
def Zm5:=ZT 3 Zm4
def Zm6: PS:=(Zw (ZR 3 (Zr ZbB (Ze (Zb 0) (Ze (Zb 1) (Ze (Zj 60) Zm))))) (Zw (ZV (ZL (Zh qLt (Zh ZaL (Zb 3) (Zj 5)) (Zj 2))) (ZF (Zan (Ze (Zj 1) (Ze (Zj 0) Zm)))) ZX) (Zw (ZV (ZL (Zh qEq (Zh ZaL (Zb 3) (Zj 5)) (Zj 2))) (ZF (Zan (Ze (Zj 0) (Ze (Zb 2) Zm)))) ZX) (Zw (ZV (ZL (Zh qEq (Zh ZaL (Zb 3) (Zj 5)) (Zj 3))) (ZF (Zr ZgZ (Ze (Zh Zab (Zh Zcf (Zb 3) (Zj 5)) (Zj 1)) (Ze (Zb 2) Zm)))) ZX) (ZF (Zr ZgZ (Ze (Zr ZdN (Ze (Zr ZdU (Ze (Zb 0) (Ze (Zb 1) Zm))) Zm)) (Ze (Zb 2) Zm))))))))
def Zi8:=ZY 3 Zm6
theorem Zvr: SimF false Zm5 Zi8:=SimF.of (show S [] [] [] false Zm4 Zm6 from(Zz (Z5 (O':=[]) (ZG Zci (Zf (Zc 0) (Zf (Zc 1) (Zf (Zl _) Zo))))) (Zz (Z6 (ZO (ZE ZdL (ZE ZaV (Zc 3) (Zl _)) (Zl _))) (ZQ (E.tup (Zf (Zl _) (Zf (Zl _) Zo)))) Z4) (Zz (Z6 (ZO (ZE Zau (ZE ZaV (Zc 3) (Zl _)) (Zl _))) (ZQ (E.tup (Zf (Zl _) (Zf (Zc 2) Zo)))) Z4) (Zz (Z6 (ZO (ZE Zau (ZE ZaV (Zc 3) (Zl _)) (Zl _))) (ZQ (ZG Zqx (Zf (Zac Zah (ZE ZcY (Zc 3) (Zl _)) (Zl _)) (Zf (Zc 2) Zo)))) Z4) (ZQ (ZG Zqx (Zf (ZaD ZfI (Zf (ZG ZfZ (Zf (Zc 0) (Zf (Zc 1) Zo))) Zo)) (Zf (Zc 2) Zo)))))))))
def Zm7: Sm:=Zt (ZN 3 (Zg Zae (Za0 (Zd (Zk 0) Zn)) (Za 2))) (Zt (ZN 4 (Zq ZaJ (Zd (Za 3) Zn))) (Zt (ZN 5 (Za0 Zn)) (Zt (ZaX (Za1 (Zd (Za 4) Zn)) (put1 6) (Zt (ZN 7 (Za0 Zn)) (Zt (ZaX (Za1 (Zd (Za 4) Zn)) (put1 8) (Zt (ZN 9 (Zq Zmm (Zd (Za 0) (Zd (Zg Zae (Zg Zae (Za 1) (Zg Za9 (Za 6) (Za 4))) (Za 8)) Zn)))) (Zt (ZU (ZK (Zg ZcT (Za 9) (Zaa))) (ZN 9 (Zg Zae (Zg Zbk (Zg Zu (Za 3) (Za 6)) (Zg Zu (Za 3) (Za 8))) (Za 9))) ZW) (Zb8 (Zfl (Za 7) (Za 9)))))) (Zt (ZbP (Zk 0) (Za 7) (Za 6)) (Zb8 (Zfl (Za 5) (Za 7))))))) (ZD (Zak (Zd (Za 5) (Zd (ZaB (Za1 (Zd (Zg Zbk (Za 4) (Zk 1)) Zn)) (put1 100) Zaw (Zq Zm5 (Zd (Za 0) (Zd (Zg Zae (Zg Zae (Za 1) (Zg Za9 (Za 4) (Za 4))) (Za 100)) (Zd (Zg Zu (Za 2) (Za 100)) Zn))))) Zn)))))))
def Zm8:=ZT 3 Zm7
def Zm9: PS:=(Zw (ZR 3 (Zh Zab (ZaU (Ze (Zj 0) Zm)) (Zb 2))) (Zw (ZR 4 (Zr Zaz (Ze (Zb 3) Zm))) (Zw (ZR 5 (ZaU Zm)) (Zw (Za2 (ZaN (Ze (Zb 4) Zm)) (Zam 6) (Zw (ZR 7 (ZaU Zm)) (Zw (Za2 (ZaN (Ze (Zb 4) Zm)) (Zam 8) (Zw (ZR 9 (Zr ZiQ (Ze (Zb 0) (Ze (Zh Zab (Zh Zab (Zb 1) (Zh ZaY (Zb 6) (Zb 4))) (Zb 8)) Zm)))) (Zw (ZV (ZL (Zh Zb4 (Zb 9) (Zad))) (ZR 9 (Zh Zab (Zh Zba (Zh Zv (Zb 3) (Zb 6)) (Zh Zv (Zb 3) (Zb 8))) (Zb 9))) ZX) (Zen 7 [] ZaQ (ZbV (Zb 9)))))) (Zw (Zbi 7 [] (Zj 0) ZaQ (Zb 6)) (Zen 5 [7] ZaQ (Zb 7)))))) (ZF (Zan (Ze (Zb 5) (Ze (Zax (ZaN (Ze (Zh Zba (Zb 4) (Zj 1)) Zm)) (Zam 100) Zaq (ZbV (Zr Zi8 (Ze (Zb 0) (Ze (Zh Zab (Zh Zab (Zb 1) (Zh ZaY (Zb 4) (Zb 4))) (Zb 100)) (Ze (Zh Zv (Zb 2) (Zb 100)) Zm)))))) Zm))))))))
def Zi9:=ZY 3 Zm9
theorem Zvs: SimF true Zm8 Zi9:=SimF.of (show S [] [5] [] true Zm7 Zm9 from(Zz (Z5 (O':=[]) (Zac Zah (E.list (Zf (Zl _) Zo)) (Zc 2))) (Zz (Z5 (O':=[]) (ZaD ZaW (Zf (Zc 3) Zo))) (Zz (Zcc (O':=[5]) (E.list Zo)) (Zz (ZbL (Gs.range (Zf (Zc 4) Zo)) PutOk.one (by decide) (by decide) (Zz (Zcc (O':=[5,7]) (Zbq (O':=[]) (E.list Zo))) (Zz (ZbL (Gs.range (Zf (Zc 4) Zo)) PutOk.one (by decide) (by decide) (Zz (Z5 (O':=[5,7]) (ZG ZuQ (Zf (Zc 0) (Zf (Zac Zah (Zac Zah (Zc 1) (Zac Zbz (Zc 6) (Zc 4))) (Zc 8)) Zo)))) (Zz (Z6 (ZO (ZE Zdi (Zc 9) (Zag))) (Z5 (O':=[5,7]) (Zac Zah (ZE Zbr (ZC ZB (Zc 3) (Zc 6)) (ZC ZB (Zc 3) (Zc 8))) (Zc 9))) Z4) (Zkz (O':=[5,7]) (by decide) ZbS (Zbq (O':=[5]) (E.flat (Zc 9))) (by decide) (by decide))))) (Zz (S.put (O':=[5,7]) (by decide) (Zbq (O':=[5]) (Zl _)) ZbS (Zc 6) (by decide) (by decide)) (Zkz (O':=[5]) (by decide) ZbS (Zbq (O':=[7]) (E.own (by decide))) (by decide) (by decide)))))) (Zas (E.tup (Zfi (E.own (by decide)) (Zfi (Zc5 (Gs.range (Zf (ZE Zbr (Zc 4) (Zl _)) Zo)) PutOk.one (by decide) ZaH (Zbq (O':=[]) (E.flat (ZG Zvr (Zf (Zc 0) (Zf (Zac Zah (Zac Zah (Zc 1) (Zac Zbz (Zc 4) (Zc 4))) (Zc 100)) (Zf (ZC ZB (Zc 2) (Zc 100)) Zo))))))) Zo (by decide) (by decide)) (by decide) (by decide)))))))))
def Zna: Sm:=Zt (ZU (ZK (Zg oIs (Za 0) (Zaa))) (ZD (Zaa)) ZW) (ZD (Zak (Zd (ZaB (ZbA (Zg Zu (Za 0) (Zk 0))) (put1 100) Zaw (Zq ZeG (Zd (Za 100) Zn))) (Zd (Zq ZeG (Zd (Zg Zu (Za 0) (Zk 1)) Zn)) Zn))))
def Znb:=ZT 1 Zna
def Znc: PS:=(Zw (ZV (ZL (Zh qIs (Zb 0) (Zad))) (ZF (Zad)) ZX) (ZF (Zan (Ze (Zax (Zbm (Zh Zv (Zb 0) (Zj 0))) (Zam 100) Zaq (Zr Zfw (Ze (Zb 100) Zm))) (Ze (Zr Zfw (Ze (Zh Zv (Zb 0) (Zj 1)) Zm)) Zm)))))
def Ze5:=ZY 1 Znc
theorem Zvt: SimF false Znb Ze5:=SimF.of (show S [] [] [] false Zna Znc from(Zz (Z6 (ZO (ZE ZbR (Zc 0) (Zag))) (ZQ (Zag)) Z4) (ZQ (E.tup (Zf (Zb3 (Gs.seq (ZC ZB (Zc 0) (Zl _))) PutOk.one (by decide) ZaH (ZjQ Zo9 (Zf (Zc 100) Zo))) (Zf (ZjQ Zo9 (Zf (ZC ZB (Zc 0) (Zl _)) Zo)) Zo))))))
def Zmo: Sm:=ZD (eOr (Zg oIs (Za 1) (Zaa)) (Zda (Zg ZcT (Za 0) (Zaa)) (Zg oLe (Za 0) (Za 1))))
def ZiR:=ZT 2 Zmo
def Zmp: PS:=(ZF ((pOr (Zh qIs (Zb 1) (Zad)) ((Zds (Zh Zb4 (Zb 0) (Zad)) (Zh qLe (Zb 0) (Zb 1)))))))
def Zha:=ZY 2 Zmp
theorem ZqP: SimF false ZiR Zha:=SimF.of (show S [] [] [] false Zmo Zmp from(ZQ ((ZA8 (E.sh (ZE ZbR (Zc 1) (Zag))) (E.sh ((ZfG (E.sh (ZE Zdi (Zc 0) (Zag))) (E.sh (ZE Zqe (Zc 0) (Zc 1))))))))))
def Znd: Sm:=Zt (ZU (ZK (Zg oEq (Zg Zu (Za 0) (Zk 0)) (Zk 0))) (ZD (Zg oEq (Za 1) (Zg Zu (Za 0) (Zk 1)))) ZW) (ZD (Zg oEq (Zg oMod (Za 1) (Zg Zu (Za 0) (Zk 0))) (Zg Zu (Za 0) (Zk 1))))
def Ze6:=ZT 2 Znd
def Zne: PS:=(Zw (ZV (ZL (Zh qEq (Zh Zv (Zb 0) (Zj 0)) (Zj 0))) (ZF (Zh qEq (Zb 1) (Zh Zv (Zb 0) (Zj 1)))) ZX) (ZF (Zh qEq (Zh ZaL (Zb 1) (Zh Zv (Zb 0) (Zj 0))) (Zh Zv (Zb 0) (Zj 1)))))
def Zes:=ZY 2 Zne
theorem Zhk: SimF false Ze6 Zes:=SimF.of (show S [] [] [] false Znd Zne from(Zz (Z6 (ZO (ZE Zau (ZC ZB (Zc 0) (Zl _)) (Zl _))) (ZQ (ZE Zau (Zc 1) (ZC ZB (Zc 0) (Zl _)))) Z4) (ZQ (ZE Zau (ZE ZaV (Zc 1) (ZC ZB (Zc 0) (Zl _))) (ZC ZB (Zc 0) (Zl _))))))
def Zlx: Sm:=Zt (ZU (ZK (Zg oEq (Zg Zu (Za 1) (Zk 0)) (Zk 0))) (ZD (Zg oEq (Za 0) (Za 1))) ZW) (ZD (Zda (Zg oEq (Zg oMod (Zg Zu (Za 0) (Zk 0)) (Zg Zu (Za 1) (Zk 0))) (Zk 0)) (Zq Ze6 (Zd (Za 1) (Zd (Zg Zu (Za 0) (Zk 1)) Zn)))))
def Zly:=ZT 2 Zlx
def Zlz: PS:=(Zw (ZV (ZL (Zh qEq (Zh Zv (Zb 1) (Zj 0)) (Zj 0))) (ZF (Zh qEq (Zb 0) (Zb 1))) ZX) (ZF ((Zds (Zh qEq (Zh ZaL (Zh Zv (Zb 0) (Zj 0)) (Zh Zv (Zb 1) (Zj 0))) (Zj 0)) (Zr Zes (Ze (Zb 1) (Ze (Zh Zv (Zb 0) (Zj 1)) Zm)))))))
def Ziy:=ZY 2 Zlz
theorem Zua: SimF false Zly Ziy:=SimF.of (show S [] [] [] false Zlx Zlz from(Zz (Z6 (ZO (ZE Zau (ZC ZB (Zc 1) (Zl _)) (Zl _))) (ZQ (ZE Zau (Zc 0) (Zc 1))) Z4) (ZQ ((ZfG (E.sh (ZE Zau (ZE ZaV (ZC ZB (Zc 0) (Zl _)) (ZC ZB (Zc 1) (Zl _))) (Zl _))) (E.sh (ZG Zhk (Zf (Zc 1) (Zf (ZC ZB (Zc 0) (Zl _)) Zo)))))))))
def ZnX: Sm:=Zt (ZN 2 (Zq ZdK (Zd (Za 0) Zn))) (Zt (ZN 3 (Zq ZdK (Zd (Za 1) Zn))) (Zt (Zd9 (ZK (Zg oNe (Za 3) (Zk 0))) (Zt (ZN 4 (Zg oMod (Za 2) (Za 3))) (Zt (ZN 2 (Za 3)) (ZN 3 (Za 4)))) 1000000) (ZD (Za 2))))
def Zgn:=ZT 2 ZnX
def ZnY: PS:=(Zw (ZR 2 (Zr ZdN (Ze (Zb 0) Zm))) (Zw (ZR 3 (Zr ZdN (Ze (Zb 1) Zm))) (Zw (ZeH (ZL (Zh qNe (Zb 3) (Zj 0))) (Zw (ZR 4 (Zh ZaL (Zb 2) (Zb 3))) (Zw (ZR 2 (Zb 3)) (ZR 3 (Zb 4)))) 1000000) (ZF (Zb 2)))))
def Zfd:=ZY 2 ZnY
theorem Zjv: SimF false Zgn Zfd:=SimF.of (show S [] [] [] false ZnX ZnY from(Zz (Z5 (O':=[]) (ZaD ZfI (Zf (Zc 0) Zo))) (Zz (Z5 (O':=[]) (ZaD ZfI (Zf (Zc 1) Zo))) (Zz (Zpb (ZO (ZE Zdu (Zc 3) (Zl _))) (Zz (Z5 (O':=[]) (ZE ZaV (Zc 2) (Zc 3))) (Zz (Z5 (O':=[]) (Zc 3)) (Z5 (O':=[]) (Zc 4)))) 1000000) (ZQ (Zc 2))))))
def ZpH: Sm:=Zt (ZU (ZK (Zg oLt (Za 0) (Zk 0))) (PM.sNo) ZW) (Zt (ZU (ZK (Zg oEq (Za 0) (Zk 0))) (ZD (Zak (Zd (Zk 0) (Zd (Za 1) Zn)))) ZW) (ZD (Zak (Zd (Za 0) (Zd (Zg oMod (Za 1) (Za 0)) Zn)))))
def ZeI:=ZT 2 ZpH
def ZpI: PS:=(Zw (ZV (ZL (Zh qLt (Zb 0) (Zj 0))) (qNo) ZX) (Zw (ZV (ZL (Zh qEq (Zb 0) (Zj 0))) (ZF (Zan (Ze (Zj 0) (Ze (Zb 1) Zm)))) ZX) (ZF (Zan (Ze (Zb 0) (Ze (Zh ZaL (Zb 1) (Zb 0)) Zm))))))
def Zea:=ZY 2 ZpI
theorem ZgF: SimF false ZeI Zea:=SimF.of (show S [] [] [] false ZpH ZpI from(Zz (Z6 (ZO (ZE ZdL (Zc 0) (Zl _))) (ZA9 (O':=[])) Z4) (Zz (Z6 (ZO (ZE Zau (Zc 0) (Zl _))) (ZQ (E.tup (Zf (Zl _) (Zf (Zc 1) Zo)))) Z4) (ZQ (E.tup (Zf (Zc 0) (Zf (ZE ZaV (Zc 1) (Zc 0)) Zo)))))))
def ZnZ: Sm:=Zt (ZN 2 (Zg oMod (Za 0) (Za 1))) (Zt (ZN 3 (Za 1)) (Zt (ZN 4 (Zk 1)) (Zt (ZN 5 (Zk 0)) (Zt (Zd9 (ZK (Zg oNe (Za 3) (Zk 0))) (Zt (ZN 6 (Zg oDiv (Za 2) (Za 3))) (Zt (ZN 7 (Zg Zbk (Za 2) (Zg Za9 (Za 6) (Za 3)))) (Zt (ZN 8 (Zg Zbk (Za 4) (Zg Za9 (Za 6) (Za 5)))) (Zt (ZN 2 (Za 3)) (Zt (ZN 4 (Za 5)) (Zt (ZN 3 (Za 7)) (ZN 5 (Za 8)))))))) 1000000) (ZD (Zg oMod (Za 4) (Za 1)))))))
def Zn0:=ZT 2 ZnZ
def Zn1: PS:=(Zw (ZR 2 (Zh ZaL (Zb 0) (Zb 1))) (Zw (ZR 3 (Zb 1)) (Zw (ZR 4 (Zj 1)) (Zw (ZR 5 (Zj 0)) (Zw (ZeH (ZL (Zh qNe (Zb 3) (Zj 0))) (Zw (ZR 6 (Zh Zcf (Zb 2) (Zb 3))) (Zw (ZR 7 (Zh Zba (Zb 2) (Zh ZaY (Zb 6) (Zb 3)))) (Zw (ZR 8 (Zh Zba (Zb 4) (Zh ZaY (Zb 6) (Zb 5)))) (Zw (ZR 2 (Zb 3)) (Zw (ZR 4 (Zb 5)) (Zw (ZR 3 (Zb 7)) (ZR 5 (Zb 8)))))))) 1000000) (ZF (Zh ZaL (Zb 4) (Zb 1))))))))
def Zjw:=ZY 2 Zn1
theorem Zwm: SimF false Zn0 Zjw:=SimF.of (show S [] [] [] false ZnZ Zn1 from(Zz (Z5 (O':=[]) (ZE ZaV (Zc 0) (Zc 1))) (Zz (Z5 (O':=[]) (Zc 1)) (Zz (Z5 (O':=[]) (Zl _)) (Zz (Z5 (O':=[]) (Zl _)) (Zz (Zpb (ZO (ZE Zdu (Zc 3) (Zl _))) (Zz (Z5 (O':=[]) (ZE ZcY (Zc 2) (Zc 3))) (Zz (Z5 (O':=[]) (ZE Zbr (Zc 2) (Zac Zbz (Zc 6) (Zc 3)))) (Zz (Z5 (O':=[]) (ZE Zbr (Zc 4) (Zac Zbz (Zc 6) (Zc 5)))) (Zz (Z5 (O':=[]) (Zc 3)) (Zz (Z5 (O':=[]) (Zc 5)) (Zz (Z5 (O':=[]) (Zc 7)) (Z5 (O':=[]) (Zc 8)))))))) 1000000) (ZQ (ZE ZaV (Zc 4) (Zc 1)))))))))
def Znf: Sm:=Zt (ZU (ZK (Zg oEq (Zg Zu (Za 0) (Zk 0)) (Zk 0))) (ZD (eIf (ZK (Zq Ze6 (Zd (Za 1) (Zd (Zg Zu (Za 0) (Zk 1)) Zn)))) (Za 0) (Zaa))) ZW) (Zt (ZU (ZK (Zg oEq (Zg Zu (Za 1) (Zk 0)) (Zk 0))) (ZD (eIf (ZK (Zq Ze6 (Zd (Za 0) (Zd (Zg Zu (Za 1) (Zk 1)) Zn)))) (Za 1) (Zaa))) ZW) (Zt (ZN 2 (Zq Zgn (Zd (Zg Zu (Za 0) (Zk 0)) (Zd (Zg Zu (Za 1) (Zk 0)) Zn)))) (Zt (ZN 3 (Zg Zbk (Zg Zu (Za 1) (Zk 1)) (Zg Zu (Za 0) (Zk 1)))) (Zt (ZU (ZK (Zg oNe (Zg oMod (Za 3) (Za 2)) (Zk 0))) (ZD (Zaa)) ZW) (Zt (ZN 4 (Zg oDiv (Zg Zu (Za 1) (Zk 0)) (Za 2))) (Zt (ZN 5 (Zg Za9 (Zg oDiv (Za 3) (Za 2)) (Zq Zn0 (Zd (Zg oDiv (Zg Zu (Za 0) (Zk 0)) (Za 2)) (Zd (Za 4) Zn))))) (ZD (Zq ZeI (Zd (Zg Za9 (Zg Zu (Za 0) (Zk 0)) (Za 4)) (Zd (Zg Zae (Zg Zu (Za 0) (Zk 1)) (Zg Za9 (Zg Zu (Za 0) (Zk 0)) (Za 5))) Zn))))))))))
def Zhl:=ZT 2 Znf
def Zng: PS:=(Zw (ZV (ZL (Zh qEq (Zh Zv (Zb 0) (Zj 0)) (Zj 0))) (ZF (pIf (ZL (Zr Zes (Ze (Zb 1) (Ze (Zh Zv (Zb 0) (Zj 1)) Zm)))) (Zb 0) (Zad))) ZX) (Zw (ZV (ZL (Zh qEq (Zh Zv (Zb 1) (Zj 0)) (Zj 0))) (ZF (pIf (ZL (Zr Zes (Ze (Zb 0) (Ze (Zh Zv (Zb 1) (Zj 1)) Zm)))) (Zb 1) (Zad))) ZX) (Zw (ZR 2 (Zr Zfd (Ze (Zh Zv (Zb 0) (Zj 0)) (Ze (Zh Zv (Zb 1) (Zj 0)) Zm)))) (Zw (ZR 3 (Zh Zba (Zh Zv (Zb 1) (Zj 1)) (Zh Zv (Zb 0) (Zj 1)))) (Zw (ZV (ZL (Zh qNe (Zh ZaL (Zb 3) (Zb 2)) (Zj 0))) (ZF (Zad)) ZX) (Zw (ZR 4 (Zh Zcf (Zh Zv (Zb 1) (Zj 0)) (Zb 2))) (Zw (ZR 5 (Zh ZaY (Zh Zcf (Zb 3) (Zb 2)) (Zr Zjw (Ze (Zh Zcf (Zh Zv (Zb 0) (Zj 0)) (Zb 2)) (Ze (Zb 4) Zm))))) (ZF (Zr Zea (Ze (Zh ZaY (Zh Zv (Zb 0) (Zj 0)) (Zb 4)) (Ze (Zh Zab (Zh Zv (Zb 0) (Zj 1)) (Zh ZaY (Zh Zv (Zb 0) (Zj 0)) (Zb 5))) Zm)))))))))))
def Zgb:=ZY 2 Zng
theorem Znh: SimF false Zhl Zgb:=SimF.of (show S [] [] [] false Znf Zng from(Zz (Z6 (ZO (ZE Zau (ZC ZB (Zc 0) (Zl _)) (Zl _))) (ZQ (ZeQ (ZO (ZG Zhk (Zf (Zc 1) (Zf (ZC ZB (Zc 0) (Zl _)) Zo)))) (E.sh (Zc 0)) (E.sh (Zag)))) Z4) (Zz (Z6 (ZO (ZE Zau (ZC ZB (Zc 1) (Zl _)) (Zl _))) (ZQ (ZeQ (ZO (ZG Zhk (Zf (Zc 0) (Zf (ZC ZB (Zc 1) (Zl _)) Zo)))) (E.sh (Zc 1)) (E.sh (Zag)))) Z4) (Zz (Z5 (O':=[]) (ZG Zjv (Zf (ZC ZB (Zc 0) (Zl _)) (Zf (ZC ZB (Zc 1) (Zl _)) Zo)))) (Zz (Z5 (O':=[]) (ZE Zbr (ZC ZB (Zc 1) (Zl _)) (ZC ZB (Zc 0) (Zl _)))) (Zz (Z6 (ZO (ZE Zdu (ZE ZaV (Zc 3) (Zc 2)) (Zl _))) (ZQ (Zag)) Z4) (Zz (Z5 (O':=[]) (ZE ZcY (ZC ZB (Zc 1) (Zl _)) (Zc 2))) (Zz (Z5 (O':=[]) (Zac Zbz (ZE ZcY (Zc 3) (Zc 2)) (ZG Zwm (Zf (ZE ZcY (ZC ZB (Zc 0) (Zl _)) (Zc 2)) (Zf (Zc 4) Zo))))) (ZQ (ZG ZgF (Zf (Zac Zbz (ZC ZB (Zc 0) (Zl _)) (Zc 4)) (Zf (Zac Zah (ZC ZB (Zc 0) (Zl _)) (Zac Zbz (ZC ZB (Zc 0) (Zl _)) (Zc 5))) Zo))))))))))))
def Zmq: Sm:=ZD (Zq ZeI (Zd (Zq Zgn (Zd (Zg Zu (Za 0) (Zk 0)) (Zd (Zg Zu (Za 1) (Zk 0)) Zn))) (Zd (Zg Zae (Zg Zu (Za 0) (Zk 1)) (Zg Zu (Za 1) (Zk 1))) Zn)))
def Zhb:=ZT 2 Zmq
def Zmr: PS:=(ZF (Zr Zea (Ze (Zr Zfd (Ze (Zh Zv (Zb 0) (Zj 0)) (Ze (Zh Zv (Zb 1) (Zj 0)) Zm))) (Ze (Zh Zab (Zh Zv (Zb 0) (Zj 1)) (Zh Zv (Zb 1) (Zj 1))) Zm))))
def Zf4:=ZY 2 Zmr
theorem Zms: SimF false Zhb Zf4:=SimF.of (show S [] [] [] false Zmq Zmr from(ZQ (ZG ZgF (Zf (ZG Zjv (Zf (ZC ZB (Zc 0) (Zl _)) (Zf (ZC ZB (Zc 1) (Zl _)) Zo))) (Zf (Zac Zah (ZC ZB (Zc 0) (Zl _)) (ZC ZB (Zc 1) (Zl _))) Zo)))))
def Zl1: Sm:=ZD (Zq ZeI (Zd (Zg Za9 (Zg Zu (Za 0) (Zk 0)) (Zq ZdK (Zd (Za 1) Zn))) (Zd (Zg Za9 (Zg Zu (Za 0) (Zk 1)) (Za 1)) Zn)))
def Zg5:=ZT 2 Zl1
def Zl2: PS:=(ZF (Zr Zea (Ze (Zh ZaY (Zh Zv (Zb 0) (Zj 0)) (Zr ZdN (Ze (Zb 1) Zm))) (Ze (Zh ZaY (Zh Zv (Zb 0) (Zj 1)) (Zb 1)) Zm))))
def Zf0:=ZY 2 Zl2
theorem Zl3: SimF false Zg5 Zf0:=SimF.of (show S [] [] [] false Zl1 Zl2 from(ZQ (ZG ZgF (Zf (Zac Zbz (ZC ZB (Zc 0) (Zl _)) (ZaD ZfI (Zf (Zc 1) Zo))) (Zf (Zac Zbz (ZC ZB (Zc 0) (Zl _)) (Zc 1)) Zo)))))
def Zl4: Sm:=Zt (ZU (ZK (Zg oEq (Zg Zu (Za 0) (Zk 0)) (Zk 0))) (ZD (eIf (ZK (Zg oLe (Zg Zu (Za 0) (Zk 1)) (Za 1))) (Zg Zu (Za 0) (Zk 1)) (Zaa))) ZW) (ZD (Zg Zbk (Za 1) (Zg oMod (Zg Zbk (Za 1) (Zg Zu (Za 0) (Zk 1))) (Zg Zu (Za 0) (Zk 0)))))
def Zl5:=ZT 2 Zl4
def Zl6: PS:=(Zw (ZV (ZL (Zh qEq (Zh Zv (Zb 0) (Zj 0)) (Zj 0))) (ZF (pIf (ZL (Zh qLe (Zh Zv (Zb 0) (Zj 1)) (Zb 1))) (Zh Zv (Zb 0) (Zj 1)) (Zad))) ZX) (ZF (Zh Zba (Zb 1) (Zh ZaL (Zh Zba (Zb 1) (Zh Zv (Zb 0) (Zj 1))) (Zh Zv (Zb 0) (Zj 0))))))
def ZiH:=ZY 2 Zl6
theorem Zuy: SimF false Zl5 ZiH:=SimF.of (show S [] [] [] false Zl4 Zl6 from(Zz (Z6 (ZO (ZE Zau (ZC ZB (Zc 0) (Zl _)) (Zl _))) (ZQ (ZeQ (ZO (ZE Zqe (ZC ZB (Zc 0) (Zl _)) (Zc 1))) (E.sh (ZC ZB (Zc 0) (Zl _))) (E.sh (Zag)))) Z4) (ZQ (ZE Zbr (Zc 1) (ZE ZaV (ZE Zbr (Zc 1) (ZC ZB (Zc 0) (Zl _))) (ZC ZB (Zc 0) (Zl _)))))))
def ZoH: Sm:=ZD (eIf (ZK (Zq ZiR (Zd (Za 0) (Zd (Za 1) Zn)))) (Za 0) (Za 1))
def ZjF:=ZT 2 ZoH
def ZoI: PS:=(ZF (pIf (ZL (Zr Zha (Ze (Zb 0) (Ze (Zb 1) Zm)))) (Zb 0) (Zb 1)))
def ZhH:=ZY 2 ZoI
theorem ZrI: SimF false ZjF ZhH:=SimF.of (show S [] [] [] false ZoH ZoI from(ZQ (ZeQ (ZO (ZG ZqP (Zf (Zc 0) (Zf (Zc 1) Zo)))) (E.sh (Zc 0)) (E.sh (Zc 1)))))
def Zni: Sm:=Zt (ZU (tOr (ZK (Zg oIs (Za 0) (Zaa))) (tOr (ZK (Zg oIs (Za 1) (Zaa))) Zck)) (ZD (Zaa)) ZW) (ZD (Zg Zae (Za 0) (Za 1)))
def Zet:=ZT 2 Zni
def Znj: PS:=(Zw (ZV (bOr (ZL (Zh qIs (Zb 0) (Zad))) (bOr (ZL (Zh qIs (Zb 1) (Zad))) ZcB)) (ZF (Zad)) ZX) (ZF (Zh Zab (Zb 0) (Zb 1))))
def ZdY:=ZY 2 Znj
theorem Zgc: SimF false Zet ZdY:=SimF.of (show S [] [] [] false Zni Znj from(Zz (Z6 (Za8 (ZO (ZE ZbR (Zc 0) (Zag))) (Za8 (ZO (ZE ZbR (Zc 1) (Zag))) ZcP)) (ZQ (Zag)) Z4) (ZQ (Zac Zah (Zc 0) (Zc 1)))))
def ZkZ: Sm:=ZD (ZaB (Zdb (Za 0) (Za 2)) (ZbY 100 101) Zaw (Zq ZjF (Zd (Za 100) (Zd (Zq Zet (Zd (Za 1) (Zd (Za 101) Zn))) Zn))))
def Zk0:=ZT 3 ZkZ
def Zk1: PS:=(ZF (Zax (Zdc (Zb 0) (Zb 2)) (Zcs 100 101) Zaq (ZbV (Zr ZhH (Ze (Zb 100) (Ze (Zr ZdY (Ze (Zb 1) (Ze (Zb 101) Zm))) Zm))))))
def Zio:=ZY 3 Zk1
theorem ZtG: SimF true Zk0 Zio:=SimF.of (show S [] [] [] true ZkZ Zk1 from(Zas (Zc5 (Gs.zip (Zc 0) (Zc 2)) PutOk.two (by decide) ZaH (E.flat (ZG ZrI (Zf (Zc 100) (Zf (ZG Zgc (Zf (Zc 1) (Zf (Zc 101) Zo))) Zo)))))))
def Zmt: Sm:=ZD (ZaB (ZbA (Za 0)) (put1 100) Zaw (Zq Zk0 (Zd (Za 100) (Zd (Zg Zu (Za 100) (Za 1)) (Zd (Zg Zu (Za 0) (Za 1)) Zn)))))
def Zmu:=ZT 2 Zmt
def Zmv: PS:=(ZF (Zax (Zbm (Zb 0)) (Zam 100) Zaq (Zr Zio (Ze (Zb 100) (Ze (Zh Zv (Zb 100) (Zb 1)) (Ze (Zh Zv (Zb 0) (Zb 1)) Zm))))))
def ZiS:=ZY 2 Zmv
theorem ZqQ: SimF true Zmu ZiS:=SimF.of (show S [] [] [] true Zmt Zmv from(Zas (Zc5 (Gs.seq (Zc 0)) PutOk.one (by decide) ZaH (ZaE ZtG (Zf (Zc 100) (Zf (ZC ZB (Zc 100) (Zc 1)) (Zf (ZC ZB (Zc 0) (Zc 1)) Zo)))))))
def Zlj: Sm:=ZD (Zq Zij (Zd (ZaB (Za1 (Zd (Zq ZaJ (Zd (Za 0) Zn)) Zn)) (put1 100) Zaw (Zg oLt (Zg Zu (Zg Zu (Za 0) (Za 100)) (Za 100)) (Zk 0))) Zn))
def Zlk:=ZT 1 Zlj
def Zll: PS:=(ZF (Zr Zik (Ze (Zax (ZaN (Ze (Zr Zaz (Ze (Zb 0) Zm)) Zm)) (Zam 100) Zaq (Zh qLt (Zh Zv (Zh Zv (Zb 0) (Zb 100)) (Zb 100)) (Zj 0))) Zm)))
def Ziu:=ZY 1 Zll
theorem Zqp: SimF false Zlk Ziu:=SimF.of (show S [] [] [] false Zlj Zll from(ZQ (ZaD ZAH (Zf (Zb3 (Gs.range (Zf (ZaD ZaW (Zf (Zc 0) Zo)) Zo)) PutOk.one (by decide) ZaH (ZE ZdL (ZC ZB (ZC ZB (Zc 0) (Zc 100)) (Zc 100)) (Zl _))) Zo))))
def ZoJ: Sm:=Zt (ZN 1 (Za 0)) (Zt (ZaX (Za1 (Zd (Zq ZaJ (Zd (Za 0) Zn)) Zn)) (put1 2) (Zt (ZN 1 (Zq Zmu (Zd (Za 1) (Zd (Za 2) Zn)))) (ZU (ZK (Zq Zlk (Zd (Za 1) Zn))) (ZD (Zaa)) ZW))) (ZD (Za 1)))
def Zgs:=ZT 1 ZoJ
def ZoK: PS:=(Zw (ZR 1 (Zb 0)) (Zw (ZkD (ZaN (Ze (Zr Zaz (Ze (Zb 0) Zm)) Zm)) (Zam 2) (Zw (ZR 1 (Zr ZiS (Ze (Zb 1) (Ze (Zb 2) Zm)))) (ZV (ZL (Zr Ziu (Ze (Zb 1) Zm))) (ZF (Zad)) ZX))) (ZF (Zb 1))))
def ZhI:=ZY 1 ZoK
theorem Zxm: SimF true Zgs ZhI:=SimF.of (show S [] [1] [] true ZoJ ZoK from(Zz (Z5 (O':=[]) (Zc 0)) (Zz (ZAc (Gs.range (Zf (ZaD ZaW (Zf (Zc 0) Zo)) Zo)) PutOk.one PutOk.one (by decide) (by decide) (by decide) (Zz (Zcc (O':=[1]) (ZaE ZqQ (Zf (Zc 1) (Zf (Zc 2) Zo)))) (Z6 (ZO (ZG Zqp (Zf (Zc 1) Zo))) (Zas (Zag)) Z4)) (Zz (Zcc (O':=[1]) (Zbq (O':=[]) (ZaE ZqQ (Zf (Zc 1) (Zf (Zc 2) Zo))))) (Z6 (ZO (ZG Zqp (Zf (Zc 1) Zo))) (Zas (Zag)) Z4))) (Zas (E.own (by decide))))))
def Zmw: Sm:=ZD (Zda (eIs "int" (Za 0)) (ZkH (eIs "bool" (Za 0))))
def Zhc:=ZT 1 Zmw
def Zmx: PS:=(ZF ((Zds (pIs "int" (Zb 0)) (ZkK (pIs "bool" (Zb 0))))))
def Zf5:=ZY 1 Zmx
theorem Zmy: SimF false Zhc Zf5:=SimF.of (show S [] [] [] false Zmw Zmx from(ZQ ((ZfG (E.sh (Zel (Zc 0))) (E.sh (ZAF (Zel (Zc 0))))))))
def Znk: Sm:=Zt (ZU (tOr (ZbX (ZK (eIs "list" (Za 0)))) (tOr (ZK (Zg oNe (Zq ZaJ (Zd (Za 0) Zn)) (Za 1))) Zck)) (ZD (ZbF false)) ZW) (Zt (ZaX (Za1 (Zd (Za 1) Zn)) (put1 2) (Zt (ZU (tOr (ZbX (ZK (eIs "list" (Zg Zu (Za 0) (Za 2))))) (tOr (ZK (Zg oNe (Zq ZaJ (Zd (Zg Zu (Za 0) (Za 2)) Zn)) (Za 1))) Zck)) (ZD (ZbF false)) ZW) (Zt (ZaX (ZbA (Zg Zu (Za 0) (Za 2))) (put1 3) (ZU (ZbO (ZK (Zg ZcT (Za 3) (Zaa))) (ZbO (ZbX (ZK (Zq Zhc (Zd (Za 3) Zn)))) Zaw)) (ZD (ZbF false)) ZW)) (ZU (ZK (Zg oNe (Zg Zu (Zg Zu (Za 0) (Za 2)) (Za 2)) (Zk 0))) (ZD (ZbF false)) ZW)))) (ZD (ZbF true)))
def Znl:=ZT 2 Znk
def Znm: PS:=(Zw (ZV (bOr (ZbZ (ZL (pIs "list" (Zb 0)))) (bOr (ZL (Zh qNe (Zr Zaz (Ze (Zb 0) Zm)) (Zb 1))) ZcB)) (ZF (ZbU false)) ZX) (Zw (Za2 (ZaN (Ze (Zb 1) Zm)) (Zam 2) (Zw (ZV (bOr (ZbZ (ZL (pIs "list" (Zh Zv (Zb 0) (Zb 2))))) (bOr (ZL (Zh qNe (Zr Zaz (Ze (Zh Zv (Zb 0) (Zb 2)) Zm)) (Zb 1))) ZcB)) (ZF (ZbU false)) ZX) (Zw (Za2 (Zbm (Zh Zv (Zb 0) (Zb 2))) (Zam 3) (ZV (ZbQ (ZL (Zh Zb4 (Zb 3) (Zad))) (ZbQ (ZbZ (ZL (Zr Zf5 (Ze (Zb 3) Zm)))) Zaq)) (ZF (ZbU false)) ZX)) (ZV (ZL (Zh qNe (Zh Zv (Zh Zv (Zb 0) (Zb 2)) (Zb 2)) (Zj 0))) (ZF (ZbU false)) ZX)))) (ZF (ZbU true))))
def Zja:=ZY 2 Znm
theorem Zvu: SimF false Znl Zja:=SimF.of (show S [] [] [] false Znk Znm from(Zz (Z6 (Za8 (Zcn (ZO (Zel (Zc 0)))) (Za8 (ZO (ZE Zdu (ZaD ZaW (Zf (Zc 0) Zo)) (Zc 1))) ZcP)) (ZQ (E.bool _)) Z4) (Zz (ZbL (Gs.range (Zf (Zc 1) Zo)) PutOk.one (by decide) (by decide) (Zz (Z6 (Za8 (Zcn (ZO (Zel (ZC ZB (Zc 0) (Zc 2))))) (Za8 (ZO (ZE Zdu (ZaD ZaW (Zf (ZC ZB (Zc 0) (Zc 2)) Zo)) (Zc 1))) ZcP)) (ZQ (E.bool _)) Z4) (Zz (ZbL (Gs.seq (ZC ZB (Zc 0) (Zc 2))) PutOk.one (by decide) (by decide) (Z6 (Zco (ZO (ZE Zdi (Zc 3) (Zag))) (Zco (Zcn (ZO (ZG Zmy (Zf (Zc 3) Zo)))) ZaH)) (ZQ (E.bool _)) Z4)) (Z6 (ZO (ZE Zdu (ZC ZB (ZC ZB (Zc 0) (Zc 2)) (Zc 2)) (Zl _))) (ZQ (E.bool _)) Z4)))) (ZQ (E.bool _)))))
def Zlm: Sm:=ZD (Zak (Zd (Zq Zet (Zd (Zg Zu (Za 0) (Zk 0)) (Zd (Zg Zu (Za 1) (Zk 0)) Zn))) (Zd (Zq Zet (Zd (Zg Zu (Za 0) (Zk 1)) (Zd (Zg Zu (Za 1) (Zk 1)) Zn))) Zn)))
def Zln:=ZT 2 Zlm
def Zlo: PS:=(ZF (Zan (Ze (Zr ZdY (Ze (Zh Zv (Zb 0) (Zj 0)) (Ze (Zh Zv (Zb 1) (Zj 0)) Zm))) (Ze (Zr ZdY (Ze (Zh Zv (Zb 0) (Zj 1)) (Ze (Zh Zv (Zb 1) (Zj 1)) Zm))) Zm))))
def Ziv:=ZY 2 Zlo
theorem ZtX: SimF false Zln Ziv:=SimF.of (show S [] [] [] false Zlm Zlo from(ZQ (E.tup (Zf (ZG Zgc (Zf (ZC ZB (Zc 0) (Zl _)) (Zf (ZC ZB (Zc 1) (Zl _)) Zo))) (Zf (ZG Zgc (Zf (ZC ZB (Zc 0) (Zl _)) (Zf (ZC ZB (Zc 1) (Zl _)) Zo))) Zo)))))
def Zmz: Sm:=Zt (ZU (ZK (Zg oIs (Za 0) (Zaa))) (ZD (Zaa)) ZW) (ZD (Zg Za9 (Za 0) (Za 1)))
def Ze1:=ZT 2 Zmz
def ZmA: PS:=(Zw (ZV (ZL (Zh qIs (Zb 0) (Zad))) (ZF (Zad)) ZX) (ZF (Zh ZaY (Zb 0) (Zb 1))))
def Zer:=ZY 2 ZmA
theorem Zhd: SimF false Ze1 Zer:=SimF.of (show S [] [] [] false Zmz ZmA from(Zz (Z6 (ZO (ZE ZbR (Zc 0) (Zag))) (ZQ (Zag)) Z4) (ZQ (Zac Zbz (Zc 0) (Zc 1)))))
def Zk2: Sm:=Zt (ZU (ZK (Zg oEq (Za 1) (Zk 0))) (ZD (Zak (Zd (Zk 0) (Zd (Zk 0) Zn)))) ZW) (Zt (ZN 2 (Zq Ze1 (Zd (Zg Zu (Za 0) (Zk 0)) (Zd (Za 1) Zn)))) (Zt (ZN 3 (Zq Ze1 (Zd (Zg Zu (Za 0) (Zk 1)) (Zd (Za 1) Zn)))) (Zt (ZU (ZK (Zg oLt (Za 1) (Zk 0))) (ZD (Zak (Zd (Za 3) (Zd (Za 2) Zn)))) ZW) (ZD (Zak (Zd (Za 2) (Zd (Za 3) Zn)))))))
def Zk3:=ZT 2 Zk2
def Zk4: PS:=(Zw (ZV (ZL (Zh qEq (Zb 1) (Zj 0))) (ZF (Zan (Ze (Zj 0) (Ze (Zj 0) Zm)))) ZX) (Zw (ZR 2 (Zr Zer (Ze (Zh Zv (Zb 0) (Zj 0)) (Ze (Zb 1) Zm)))) (Zw (ZR 3 (Zr Zer (Ze (Zh Zv (Zb 0) (Zj 1)) (Ze (Zb 1) Zm)))) (Zw (ZV (ZL (Zh qLt (Zb 1) (Zj 0))) (ZF (Zan (Ze (Zb 3) (Ze (Zb 2) Zm)))) ZX) (ZF (Zan (Ze (Zb 2) (Ze (Zb 3) Zm))))))))
def Zip:=ZY 2 Zk4
theorem ZtH: SimF false Zk3 Zip:=SimF.of (show S [] [] [] false Zk2 Zk4 from(Zz (Z6 (ZO (ZE Zau (Zc 1) (Zl _))) (ZQ (E.tup (Zf (Zl _) (Zf (Zl _) Zo)))) Z4) (Zz (Z5 (O':=[]) (ZG Zhd (Zf (ZC ZB (Zc 0) (Zl _)) (Zf (Zc 1) Zo)))) (Zz (Z5 (O':=[]) (ZG Zhd (Zf (ZC ZB (Zc 0) (Zl _)) (Zf (Zc 1) Zo)))) (Zz (Z6 (ZO (ZE ZdL (Zc 1) (Zl _))) (ZQ (E.tup (Zf (Zc 3) (Zf (Zc 2) Zo)))) Z4) (ZQ (E.tup (Zf (Zc 2) (Zf (Zc 3) Zo)))))))))
def ZlA: Sm:=Zt (ZN 2 (Zak (Zd (Zg Zu (Za 0) (Zk 0)) (Zd (Zg Zu (Za 0) (Zk 0)) Zn)))) (Zt (ZaX (Zdb (Zeg (Za 0) 1) (Za 1)) (ZbY 3 4) (ZN 2 (Zq Zln (Zd (Za 2) (Zd (Zq Zk3 (Zd (Za 4) (Zd (Za 3) Zn))) Zn))))) (ZD (Za 2)))
def ZlB:=ZT 2 ZlA
def ZlC: PS:=(Zw (ZR 2 (Zan (Ze (Zh Zv (Zb 0) (Zj 0)) (Ze (Zh Zv (Zb 0) (Zj 0)) Zm)))) (Zw (Za2 (Zdc (ZeR (Zb 0) 1) (Zb 1)) (Zcs 3 4) (ZR 2 (Zr Ziv (Ze (Zb 2) (Ze (Zr Zip (Ze (Zb 4) (Ze (Zb 3) Zm))) Zm))))) (ZF (Zb 2))))
def Ziz:=ZY 2 ZlC
theorem Zub: SimF false ZlB Ziz:=SimF.of (show S [] [] [] false ZlA ZlC from(Zz (Z5 (O':=[]) (E.tup (Zf (ZC ZB (Zc 0) (Zl _)) (Zf (ZC ZB (Zc 0) (Zl _)) Zo)))) (Zz (ZbL (Gs.zip (Zke (Zc 0)) (Zc 1)) PutOk.two (by decide) (by decide) (Z5 (O':=[]) (ZG ZtX (Zf (Zc 2) (Zf (ZG ZtH (Zf (Zc 4) (Zf (Zc 3) Zo))) Zo))))) (ZQ (Zc 2)))))
def Znn: Sm:=Zt (ZN 2 (Zak (Zd (Zk 0) (Zd (Zg Zu (Za 0) (Zk 0)) Zn)))) (Zt (ZaX (Zdb (Zeg (Za 0) 1) (Za 1)) (ZbY 3 4) (ZN 2 (Zq Zhb (Zd (Za 2) (Zd (Zq Zg5 (Zd (Za 4) (Zd (Za 3) Zn))) Zn))))) (ZD (Za 2)))
def Zeu:=ZT 2 Znn
def Zno: PS:=(Zw (ZR 2 (Zan (Ze (Zj 0) (Ze (Zh Zv (Zb 0) (Zj 0)) Zm)))) (Zw (Za2 (Zdc (ZeR (Zb 0) 1) (Zb 1)) (Zcs 3 4) (ZR 2 (Zr Zf4 (Ze (Zb 2) (Ze (Zr Zf0 (Ze (Zb 4) (Ze (Zb 3) Zm))) Zm))))) (ZF (Zb 2))))
def ZdB:=ZY 2 Zno
theorem Zgd: SimF false Zeu ZdB:=SimF.of (show S [] [] [] false Znn Zno from(Zz (Z5 (O':=[]) (E.tup (Zf (Zl _) (Zf (ZC ZB (Zc 0) (Zl _)) Zo)))) (Zz (ZbL (Gs.zip (Zke (Zc 0)) (Zc 1)) PutOk.two (by decide) (by decide) (Z5 (O':=[]) (ZG Zms (Zf (Zc 2) (Zf (ZG Zl3 (Zf (Zc 4) (Zf (Zc 3) Zo))) Zo))))) (ZQ (Zc 2)))))
def Zn2: Sm:=ZD (Zda (Zg ZcT (Za 0) (Zaa)) (Zda (Zg ZcT (Za 1) (Zaa)) (Zg oGt (Za 0) (Za 1))))
def Zn3:=ZT 2 Zn2
def Zn4: PS:=(ZF ((Zds (Zh Zb4 (Zb 0) (Zad)) (Zds (Zh Zb4 (Zb 1) (Zad)) (Zh qGt (Zb 0) (Zb 1))))))
def Zgo:=ZY 2 Zn4
theorem Zwn: SimF false Zn3 Zgo:=SimF.of (show S [] [] [] false Zn2 Zn4 from(ZQ ((ZfG (E.sh (ZE Zdi (Zc 0) (Zag))) (ZfG (E.sh (ZE Zdi (Zc 1) (Zag))) (E.sh (ZE ZfR (Zc 0) (Zc 1))))))))
def ZlD: Sm:=ZD (Zg Zae (Za0 (Zd (Zak (Zd (Zk 0) (Zd (Zk 0) Zn))) Zn)) (Za 0))
def ZfX:=ZT 1 ZlD
def ZlE: PS:=(ZF (Zh Zab (ZaU (Ze (Zan (Ze (Zj 0) (Ze (Zj 0) Zm))) Zm)) (Zb 0)))
def ZfY:=ZY 1 ZlE
theorem ZlF: SimF false ZfX ZfY:=SimF.of (show S [] [] [] false ZlD ZlE from(ZQ (Zac Zah (E.list (Zf (E.tup (Zf (Zl _) (Zf (Zl _) Zo))) Zo)) (Zc 0))))
def Zlp: Sm:=Zt (ZN 3 (Zg Zu (Za 1) (Za 2))) (Zt (ZaX (ZkA (Za 1)) (ZbY 4 5) (ZU (ZbO (ZK (Zg ZcT (Za 3) (Zaa))) (ZbO (ZK (Zg oEq (Zq Zet (Zd (Zg Zu (Zg Zu (Za 0) (Za 2)) (Za 4)) (Zd (Zg Zu (Zg Zu (Za 0) (Za 4)) (Za 2)) Zn))) (Zk 0))) Zaw)) (ZN 3 (Zq Zhl (Zd (Za 3) (Zd (Zq Zhb (Zd (Za 5) (Zd (Zak (Zd (Zk 0) (Zd (Zg Zu (Zg Zu (Za 0) (Za 2)) (Za 4)) Zn))) Zn))) Zn)))) ZW)) (ZD (Za 3)))
def ZgY:=ZT 3 Zlp
def Zlq: PS:=(Zw (ZR 3 (Zh Zv (Zb 1) (Zb 2))) (Zw (Za2 (ZkC (Zb 1)) (Zcs 4 5) (ZV (ZbQ (ZL (Zh Zb4 (Zb 3) (Zad))) (ZbQ (ZL (Zh qEq (Zr ZdY (Ze (Zh Zv (Zh Zv (Zb 0) (Zb 2)) (Zb 4)) (Ze (Zh Zv (Zh Zv (Zb 0) (Zb 4)) (Zb 2)) Zm))) (Zj 0))) Zaq)) (ZR 3 (Zr Zgb (Ze (Zb 3) (Ze (Zr Zf4 (Ze (Zb 5) (Ze (Zan (Ze (Zj 0) (Ze (Zh Zv (Zh Zv (Zb 0) (Zb 2)) (Zb 4)) Zm))) Zm))) Zm)))) ZX)) (ZF (Zb 3))))
def ZeW:=ZY 3 Zlq
theorem Zqq: SimF false ZgY ZeW:=SimF.of (show S [] [] [] false Zlp Zlq from(Zz (Z5 (O':=[]) (ZC ZB (Zc 1) (Zc 2))) (Zz (ZbL (Zyv (Zc 1)) PutOk.two (by decide) (by decide) (Z6 (Zco (ZO (ZE Zdi (Zc 3) (Zag))) (Zco (ZO (ZE Zau (ZG Zgc (Zf (ZC ZB (ZC ZB (Zc 0) (Zc 2)) (Zc 4)) (Zf (ZC ZB (ZC ZB (Zc 0) (Zc 4)) (Zc 2)) Zo))) (Zl _))) ZaH)) (Z5 (O':=[]) (ZG Znh (Zf (Zc 3) (Zf (ZG Zms (Zf (Zc 5) (Zf (E.tup (Zf (Zl _) (Zf (ZC ZB (ZC ZB (Zc 0) (Zc 2)) (Zc 4)) Zo))) Zo))) Zo)))) Z4)) (ZQ (Zc 3)))))
def Zg0: Sm:=Zt (ZU (ZK (Zg oIs (Za 0) (Zaa))) (ZD (Zaa)) ZW) (Zt (ZN 1 (Zq ZfX (Zd (Zg Zu (Za 0) (Zk 1)) Zn))) (Zt (ZN 2 (ZaB (Za1 (Zd (Zk 1) (Zd (Zq ZaJ (Zd (Za 1) Zn)) Zn))) (put1 100) Zaw (Zq ZgY (Zd (Zg Zu (Za 0) (Zk 0)) (Zd (Za 1) (Zd (Za 100) Zn)))))) (Zt (ZU (ZK (Zg oIn (Zaa) (Za 2))) (ZD (Zaa)) ZW) (ZD (Zak (Zd (Zg Zu (Za 0) (Zk 0)) (Zd (Za 2) Zn)))))))
def Zeo:=ZT 1 Zg0
def Zg1: PS:=(Zw (ZV (ZL (Zh qIs (Zb 0) (Zad))) (ZF (Zad)) ZX) (Zw (ZR 1 (Zr ZfY (Ze (Zh Zv (Zb 0) (Zj 1)) Zm))) (Zw (ZR 2 (Zax (ZaN (Ze (Zj 1) (Ze (Zr Zaz (Ze (Zb 1) Zm)) Zm))) (Zam 100) Zaq (Zr ZeW (Ze (Zh Zv (Zb 0) (Zj 0)) (Ze (Zb 1) (Ze (Zb 100) Zm)))))) (Zw (ZV (ZL (Zh qIn (Zad) (Zb 2))) (ZF (Zad)) ZX) (ZF (Zan (Ze (Zh Zv (Zb 0) (Zj 0)) (Ze (Zb 2) Zm))))))))
def ZdT:=ZY 1 Zg1
theorem Zuc: SimF false Zeo ZdT:=SimF.of (show S [] [] [] false Zg0 Zg1 from(Zz (Z6 (ZO (ZE ZbR (Zc 0) (Zag))) (ZQ (Zag)) Z4) (Zz (Z5 (O':=[]) (ZG ZlF (Zf (ZC ZB (Zc 0) (Zl _)) Zo))) (Zz (Z5 (O':=[]) (Zb3 (Gs.range (Zf (Zl _) (Zf (ZaD ZaW (Zf (Zc 1) Zo)) Zo))) PutOk.one (by decide) ZaH (ZG Zqq (Zf (ZC ZB (Zc 0) (Zl _)) (Zf (Zc 1) (Zf (Zc 100) Zo)))))) (Zz (Z6 (ZO (ZE ZgR (Zag) (Zc 2))) (ZQ (Zag)) Z4) (ZQ (E.tup (Zf (ZC ZB (Zc 0) (Zl _)) (Zf (Zc 2) Zo)))))))))
def Zkm: Sm:=Zt (ZU (ZK (Zg oIs (Za 0) (Zaa))) (ZD (Zaa)) ZW) (Zt (ZN 1 (Zq Zgs (Zd (Zg Zu (Za 0) (Zk 0)) Zn))) (Zt (ZU (ZK (Zg oIs (Za 1) (Zaa))) (ZD (Zaa)) ZW) (ZD (Zak (Zd (Za 1) (Zd (Zg Zu (Za 0) (Zk 1)) Zn))))))
def ZeJ:=ZT 1 Zkm
def Zkn: PS:=(Zw (ZV (ZL (Zh qIs (Zb 0) (Zad))) (ZF (Zad)) ZX) (Zw (ZR 1 (Zr ZhI (Ze (Zh Zv (Zb 0) (Zj 0)) Zm))) (Zw (ZV (ZL (Zh qIs (Zb 1) (Zad))) (ZF (Zad)) ZX) (ZF (Zan (Ze (Zb 1) (Ze (Zh Zv (Zb 0) (Zj 1)) Zm)))))))
def ZeK:=ZY 1 Zkn
def ZpJ: Sm:=ZD (Zq Zeo (Zd (Zq ZeJ (Zd (Za 0) Zn)) Zn))
def ZgG:=ZT 1 ZpJ
def Zko: PS:=(ZF (Zr ZdT (Ze (Zr ZeK (Ze (Zb 0) Zm)) Zm)))
def ZhU: T→Bool
 | .none=>true
 | .tup [_,.lst ts]=>T.flats ts
 | _=>false
def ZfB: List T→Option T:=fun ts=>(ZY 1 Zko ts).bind fun t=>if ZhU t then some t else none
theorem ZsU(hp:0<H.length)(r:RF H a t F): St ⟨H,[],fun x=>x∈F⟩ [] (fun i=>[a][i]?) (fun i=>[t][i]?) H (fun _=>F):=by
 refine⟨fun i u e=>?_,fun i u e x m=>.inr m,fun i hi=>(nomatch hi),Nat.le_refl _,fun x _ _=>rfl,hp,by simp⟩
 cases i with
 | zero=>cases e;exact⟨a,rfl,r⟩
 | succ i=>simp at e
theorem Zsg(e:ρ 0=some a)(r:RF H a t F)(ht:t≠.none): ZU (ZK (Zg oIs (Za 0) (Zaa))) (ZD (Zaa)) ZW ρ H=some (none,ρ,H):=by
 cases r <;> first | exact absurd rfl ht | simp[ZU,ZK,Zg,Za,e,Zaa,oIs,ZcR,ZW]
theorem Zsh(e:σ 0=some t)(ht:t≠.none): ZV (ZL (Zh qIs (Zb 0) (Zad))) (ZF (Zad)) ZX σ=some (none,σ):=by
 cases t <;> first | exact absurd rfl ht | simp[ZV,ZL,Zh,Zb,e,Zad,qIs,ZbK,ZX]
theorem Zsi(e:σ 0=some .none): ZV (ZL (Zh qIs (Zb 0) (Zad))) (ZF (Zad)) ZX σ=some (some .none,σ):=by
 simp[ZV,ZL,Zh,Zb,e,Zad,qIs,ZbK,ZF]
theorem Zqg{a b:PS}{σ1:TL}(h:a σ=some (none,σ1)): Zw a b σ=b σ1:=by simp only[Zw,h,Option.bind_some]
theorem Ztv{a b:PS}{σ1:TL}(h:a σ=some (some t,σ1)): Zw a b σ=some (some t,σ1):=by simp only[Zw,h,Option.bind_some]
theorem ZfL{a b:Sm}{ρ1:Lc}{H1:Hp}(h:a ρ H=some (none,ρ1,H1)): Zt a b ρ H=b ρ1 H1:=by simp only[Zt,h,Option.bind_some]
theorem ZAU{a b:Sm}{ρ1:Lc}{H1:Hp}{v:V}(h:a ρ H=some (some v,ρ1,H1)): Zt a b ρ H=some (some v,ρ1,H1):=by simp only[Zt,h,Option.bind_some]
theorem Zvv{u:T}(hp:0<H.length)(r:RF H a t F)(h:ZeK [t]=some u):
  (u=.none∧∃X,ZeJ [a] H=some (.none,H++X))∨∃w0 v1 u0 u1 X F0 F1,u=.tup [u0,u1]∧ZeJ [a] H=some (.tup [w0,v1],H++X)∧RF (H++X) w0 u0 F0∧F0.Nodup∧(∀x∈F0,H.length≤x)∧RF (H++X) v1 u1 F1:=by
 have st:=ZsU hp r
 unfold ZeK ZY at h
 simp only[List.length_cons,List.length_nil,Nat.zero_add,if_true]at h
 obtain⟨r1,h,h0⟩:=Zz1.mp h
 unfold Zkn at h
 by_cases hn:t=.none
 ·subst hn
  rw[Ztv (Zsi rfl)]at h
  cases h
  cases h0
  cases r
  exact .inl ⟨rfl,[],by simp[ZeJ,ZT,Zkm,Zt,ZU,ZK,Zg,Za,Zaa,oIs,ZcR,ZD]⟩
 ·rw[Zqg (Zsh (σ:=fun i=>[t][i]?) rfl hn)]at h
  have ev:∀b:Sm,Zt (ZU (ZK (Zg oIs (Za 0) (Zaa))) (ZD (Zaa)) ZW) b (fun i=>[a][i]?) H=b (fun i=>[a][i]?) H:=fun b=>ZfL (Zsg rfl r hn)
  obtain⟨r2,h1',h⟩:=Zz0.mp h
  obtain⟨u0,h1,e1⟩:=Zz1.mp h1'
  subst e1
  have x1:E [] [] true (Zq Zgs (Zd (Zg Zu (Za 0) (Zk 0)) Zn)) (Zr ZhI (Ze (Zh Zv (Zb 0) (Zj 0)) Zm)):=ZaE Zxm (Zf (ZC ZB (Zc 0) (Zl _)) Zo)
  obtain⟨w0,X,F0,a1,a2,a3,a4⟩:=x1 _ _ _ _ _ _ st h1
  have new:∀x∈F0,H.length≤x:=fun x m=>(a3 x m).nil
  have e2:ZN 1 (Zq Zgs (Zd (Zg Zu (Za 0) (Zk 0)) Zn)) (fun i=>[a][i]?) H=some (none,upd (fun i=>[a][i]?) 1 w0,H++X):=by simp only[ZN,a1,Option.map_some]
  simp only at h
  have ev2:∀b:Sm,Zt (ZN 1 (Zq Zgs (Zd (Zg Zu (Za 0) (Zk 0)) Zn))) b (fun i=>[a][i]?) H=b (upd (fun i=>[a][i]?) 1 w0) (H++X):=fun b=>ZfL e2
  have fin:∀o,Zt (ZU (ZK (Zg oIs (Za 1) (Zaa))) (ZD (Zaa)) ZW) (ZD (Zak (Zd (Za 1) (Zd (Zg Zu (Za 0) (Zk 1)) Zn)))) (upd (fun i=>[a][i]?) 1 w0) (H++X)=some o→ZeJ [a] H=some (o.1.getD .none,o.2.2):=fun o ho=>by
   unfold ZeJ ZT Zkm
   simp only[List.length_cons,List.length_nil,Nat.zero_add,if_true]
   rw[ev,ev2,ho]
   rfl
  by_cases hu:u0=.none
  ·subst hu
   cases a2
   obtain⟨r3,h2,h⟩:=Zz0.mp h
   have:r3=(some .none,Z7 (fun i=>[t][i]?) 1 .none):=by
    have:=h2
    simp[ZV,ZL,Zh,Zb,Z7,Zad,qIs,ZbK,ZF]at this
    exact this.symm
   subst this
   cases h
   cases h0
   refine .inl ⟨rfl,X,fin (some .none,upd (fun i=>[a][i]?) 1 .none,H++X) ?_⟩
   exact ZAU (by simp[ZU,ZK,Zg,Za,upd,Zaa,oIs,ZcR,ZD])
  ·have e3:ZU (ZK (Zg oIs (Za 1) (Zaa))) (ZD (Zaa)) ZW (upd (fun i=>[a][i]?) 1 w0) (H++X)=some (none,upd (fun i=>[a][i]?) 1 w0,H++X):=by
    cases a2 <;> first | exact(hu rfl).elim | simp[ZU,ZK,Zg,Za,upd,Zaa,oIs,ZcR,ZW]
   have e4:ZV (ZL (Zh qIs (Zb 1) (Zad))) (ZF (Zad)) ZX (Z7 (fun i=>[t][i]?) 1 u0)=some (none,Z7 (fun i=>[t][i]?) 1 u0):=by
    cases u0 <;> first | exact(hu rfl).elim | simp[ZV,ZL,Zh,Zb,Z7,Zad,qIs,ZbK,ZX]
   rw[Zqg e4]at h
   obtain⟨u',h5,h6⟩:=Zz1.mp h
   subst h6
   obtain⟨us,h7,h8⟩:=Zz1.mp h5
   subst h8
   obtain⟨q0,g1,h9⟩:=Zz0.mp h7
   obtain⟨qs,g2,h10⟩:=Zz0.mp h9
   cases h10
   obtain⟨q1,g3,g6⟩:=Zz0.mp g2
   obtain⟨qs',g4,g7⟩:=Zz0.mp g6
   cases g7
   cases g4
   have eq0:q0=u0:=by
    have:Z7 (fun i=>[t][i]?) 1 u0 1=some q0:=g1
    simp[Z7]at this
    exact this.symm
   subst eq0
   have g5:Zv t (.int 1)=some q1:=by
    have:=g3
    simpa [Zh,Zb,Z7,Zj]using this
   obtain⟨v1,F1,b1,b2,b3⟩:=ZB _ _ _ _ _ _ _ _ (r.ext X) (RF.int (H:=H++X) 1) g5
   cases h0
   refine .inr ⟨w0,v1,q0,q1,X,F0,F1,rfl,fin (some (.tup [w0,v1]),upd (fun i=>[a][i]?) 1 w0,H++X) ?_,a2,a4 rfl,new,b2⟩
   rw[ZfL e3]
   simp[ZD,Zak,Zd,Za,upd,Zg,Zk,b1,Zn,Zbc]
theorem Zro{put:T→TL→Option TL}{f:PE}{σ:TL}: ∀{ts us:List T},ZcZ put Zaq f σ ts=some us→T.flats us=true→ZcZ put Zaq (ZbV f) σ ts=some us
 | [],_,h,_=>h
 | t::ts,us,h,hf=>by
  obtain⟨σ1,h1,h⟩:=Zz0.mp h
  simp only[Zaq,Option.bind_some,if_true]at h
  obtain⟨x,h2,h⟩:=Zz0.mp h
  obtain⟨xs,h3,h⟩:=Zz1.mp h
  subst h
  simp only[T.flats,Bool.and_eq_true]at hf
  simp only[ZcZ,h1,Option.bind_some,Zaq,if_true,ZbV,h2,hf.1,Zro h3 hf.2,Option.map_some]
theorem Zq7{u:T}(hp:0<H.length)(r:RF H a t F)(h:ZdT [t]=some u)(ok:ZhU u=true):
  (u=.none∧∃X,Zeo [a] H=some (.none,H++X))∨∃w0 w1 u0 u1 X F1,u=.tup [u0,u1]∧Zu a (.int 0) H=some (w0,H)∧Zv t (.int 0)=some u0∧Zeo [a] H=some (.tup [w0,w1],H++X)∧RF (H++X) w1 u1 F1∧F1.Nodup∧(∀x∈F1,H.length≤x):=by
 have st:=ZsU hp r
 have hfull:=h
 unfold ZdT ZY at h
 simp only[List.length_cons,List.length_nil,Nat.zero_add,if_true]at h
 obtain⟨r1,h,h0⟩:=Zz1.mp h
 unfold Zg1 at h
 by_cases hn:t=.none
 ·subst hn
  rw[Ztv (Zsi rfl)]at h
  cases h
  cases h0
  cases r
  exact .inl ⟨rfl,[],by simp[Zeo,ZT,Zg0,Zt,ZU,ZK,Zg,Za,Zaa,oIs,ZcR,ZD]⟩
 ·rw[Zqg (Zsh (σ:=fun i=>[t][i]?) rfl hn)]at h
  have ev:∀b:Sm,Zt (ZU (ZK (Zg oIs (Za 0) (Zaa))) (ZD (Zaa)) ZW) b (fun i=>[a][i]?) H=b (fun i=>[a][i]?) H:=fun b=>ZfL (Zsg rfl r hn)
  obtain⟨r2,h1',h⟩:=Zz0.mp h
  obtain⟨t1,h1,e1⟩:=Zz1.mp h1'
  subst e1
  have x1:E [] ([0]++[]) false (Zq ZfX (Zd (Zg Zu (Za 0) (Zk 1)) Zn)) (Zr ZfY (Ze (Zh Zv (Zb 0) (Zj 1)) Zm)):=ZG ZlF (Zf (ZC ZB (Zc 0) (Zl _)) Zo)
  obtain⟨v1,X1,Fr,a1,a2,a3,_⟩:=x1 _ _ _ _ _ _ st h1
  have st1:=(st.ext X1).put (j:=1) (by simp) a2 (fun x m=>st.from_src (a3 x m)) (fun i hi=>(nomatch hi))
  have ev1:∀b:Sm,Zt (ZN 1 (Zq ZfX (Zd (Zg Zu (Za 0) (Zk 1)) Zn))) b (fun i=>[a][i]?) H=b (upd (fun i=>[a][i]?) 1 v1) (H++X1):=fun b=>ZfL (by simp only[ZN,a1,Option.map_some])
  simp only at h
  obtain⟨r3,h2',h⟩:=Zz0.mp h
  obtain⟨t2,h2,e2⟩:=Zz1.mp h2'
  subst e2
  simp only at h
  generalize hσ:Z7 (fun i=>[t][i]?) 1 t1=σ1 at *
  generalize hρ:upd (fun i=>[a][i]?) 1 v1=ρ1 at *
  have hρ0:ρ1 0=some a:=by rw[←hρ];simp[upd]
  have hσ0:σ1 0=some t:=by rw[←hσ];simp[Z7]
  have x2:∀ts,T.flats ts=true→Zax (ZaN (Ze (Zj 1) (Ze (Zr Zaz (Ze (Zb 1) Zm)) Zm))) (Zam 100) Zaq (Zr ZeW (Ze (Zh Zv (Zb 0) (Zj 0)) (Ze (Zb 1) (Ze (Zb 100) Zm)))) σ1=some (.lst ts)→∃w X G,ZaB (Za1 (Zd (Zk 1) (Zd (Zq ZaJ (Zd (Za 1) Zn)) Zn))) (put1 100) Zaw (Zq ZgY (Zd (Zg Zu (Za 0) (Zk 0)) (Zd (Za 1) (Zd (Za 100) Zn)))) ρ1 (H++X1)=some (w,H++X1++X)∧RF (H++X1++X) w (.lst ts) G∧G.Nodup∧∀x∈G,(H++X1).length≤x:=fun ts hf he=>by
   have y:E [] [] true (ZaB (Za1 (Zd (Zk 1) (Zd (Zq ZaJ (Zd (Za 1) Zn)) Zn))) (put1 100) Zaw (Zq ZgY (Zd (Zg Zu (Za 0) (Zk 0)) (Zd (Za 1) (Zd (Za 100) Zn))))) (Zax (ZaN (Ze (Zj 1) (Ze (Zr Zaz (Ze (Zb 1) Zm)) Zm))) (Zam 100) Zaq (ZbV (Zr ZeW (Ze (Zh Zv (Zb 0) (Zj 0)) (Ze (Zb 1) (Ze (Zb 100) Zm)))))):=Zc5 (Gs.range (Zf (Zl _) (Zf (ZaD ZaW (Zf (Zc 1) Zo)) Zo))) PutOk.one (by decide) ZaH (E.flat (ZG Zqq (Zf (ZC ZB (Zc 0) (Zl _)) (Zf (Zc 1) (Zf (Zc 100) Zo)))))
   have he2:Zax (ZaN (Ze (Zj 1) (Ze (Zr Zaz (Ze (Zb 1) Zm)) Zm))) (Zam 100) Zaq (ZbV (Zr ZeW (Ze (Zh Zv (Zb 0) (Zj 0)) (Ze (Zb 1) (Ze (Zb 100) Zm))))) σ1=some (.lst ts):=by
    obtain⟨zs,g1,g2⟩:=Zz0.mp he
    split at g2
    ·rename_i hl
     obtain⟨us,g3,g4⟩:=Zz1.mp g2
     cases g4
     simp only[Zax,g1,Option.bind_some]
     rw[if_pos hl,Zro g3 hf]
     rfl
    ·cases g2
   obtain⟨w,X,G,b1,b2,b3,b4⟩:=y _ _ _ _ _ _ st1 he2
   exact⟨w,X,G,b1,b2,b4 rfl,fun x m=>(b3 x m).nil⟩
  obtain⟨ts,rfl⟩:∃ts,t2=.lst ts:=by
   obtain⟨zs,g1,g2⟩:=Zz0.mp h2
   split at g2
   ·obtain⟨us,g3,g4⟩:=Zz1.mp g2
    exact⟨us,g4.symm⟩
   ·cases g2
  by_cases hu:u=.none
  ·subst hu
   obtain⟨v,X,G,c1,c2,_⟩:=Zuc H [a] [t] .none F hp (RFs.one r) hfull
   cases c2
   exact .inl ⟨rfl,X,c1⟩
  ·obtain⟨r4,h3,h⟩:=Zz0.mp h
   obtain⟨b,h4,h5⟩:=Zz0.mp h3
   cases b with
   | true=>
    simp only[if_true]at h5
    cases h5
    cases h
    cases h0
    exact absurd rfl hu
   | false=>
    cases h5
    simp only at h
    obtain⟨u',h6,h7⟩:=Zz1.mp h
    subst h7
    obtain⟨us,h8,h9⟩:=Zz1.mp h6
    subst h9
    obtain⟨q0,g1,h10⟩:=Zz0.mp h8
    obtain⟨qs,g2,h11⟩:=Zz0.mp h10
    cases h11
    obtain⟨q1,g3,g6⟩:=Zz0.mp g2
    obtain⟨qs',g4,g7⟩:=Zz0.mp g6
    cases g7
    cases g4
    have eq1:q1=.lst ts:=by
     have:Z7 σ1 2 (.lst ts) 2=some q1:=g3
     simp[Z7]at this
     exact this.symm
    subst eq1
    have g5:Zv t (.int 0)=some q0:=by
     have:=g1
     simpa [Zh,Zb,Z7,Zj,hσ0]using this
    cases h0
    obtain⟨w,X,G,b1,b2,b3,b4⟩:=x2 ts ok h2
    obtain⟨w0,F0,i1,i2,i3⟩:=ZB _ _ _ _ _ _ _ _ r (RF.int (H:=H) 0) g5
    have st2:=(st1.ext X).put (j:=2) (by simp) b2 (fun x m=>.inl (by have:=b4 x m;simp at this;show H.length≤x;omega)) (fun i hi=>(nomatch hi))
    have bt:Bt [] (ZK (Zg oIn (Zaa) (Za 2))) (ZL (Zh qIn (Zad) (Zb 2))):=ZO (ZE ZgR Zag (Zc 2))
    obtain⟨Y,k1⟩:=bt _ _ _ _ _ _ st2 h4
    refine .inr ⟨w0,w,q0,.lst ts,X1++X++Y,G,rfl,i1,g5,?_,by rw[←List.append_assoc,←List.append_assoc];exact b2.ext Y,b3,fun x m=>by have:=b4 x m;simp at this;omega⟩
    unfold Zeo ZT Zg0
    simp only[List.length_cons,List.length_nil,Nat.zero_add,if_true]
    rw[ev,ev1,ZfL (ρ1:=upd ρ1 2 w) (H1:=H++X1++X) (by simp only[ZN,b1,Option.map_some]),ZfL (ρ1:=upd ρ1 2 w) (H1:=H++X1++X++Y) (by simp only[ZU,k1,Option.bind_some];rfl)]
    have hidx:=(ZnW i1 (X1++X++Y)).2
    have hr:(upd ρ1 2 w) 0=some a:=by simp[upd,hρ0]
    have h2w:(upd ρ1 2 w) 2=some w:=by simp[upd]
    simp only[←List.append_assoc]at hidx ⊢
    generalize H++X1++X++Y=K at *
    have e5:Zak (Zd (Zg Zu (Za 0) (Zk 0)) (Zd (Za 2) Zn)) (upd ρ1 2 w) K=some (.tup [w0,w],K):=by
     simp only[Zak,Zd,Zg,Za,hr,h2w,Zk,Zn,Option.map_some,Option.bind_some,hidx]
     rw[if_pos (by rw[Zbc];simp)]
    simp only[ZD,e5,Option.map_some]
    rfl
theorem ZsV: SimF true ZgG ZfB:=fun H vs ts t F1 hp r h=>by
 obtain⟨t',h1,h2⟩:=Zz0.mp h
 by_cases ok:ZhU t'=true
 ·rw[if_pos ok]at h2
  cases h2
  unfold ZY at h1
  split at h1
  ·rename_i hl
   obtain⟨t0,rfl⟩:∃t0,ts=[t0]:=List.length_eq_one_iff.mp hl
   obtain⟨a,rfl,r0⟩:=r.one_inv
   obtain⟨r1,h3,h4⟩:=Zz1.mp h1
   obtain⟨u,h5,h6⟩:=Zz1.mp h3
   subst h6
   cases h4
   obtain⟨us,h7,h8⟩:=Zz0.mp h5
   obtain⟨q0,g1,h9⟩:=Zz0.mp h7
   obtain⟨qs,g2,h10⟩:=Zz0.mp h9
   cases h10
   cases g2
   have g3:ZeK [t0]=some q0:=by
    have:=g1
    simpa [Zr,Ze,Zb,Zm]using this
   have g4:ZdT [q0]=some u:=h8
   have run:∀v1 X1 v2 X2,ZeJ [a] H=some (v1,H++X1)→Zeo [v1] (H++X1)=some (v2,H++X1++X2)→ZgG [a] H=some (v2,H++(X1++X2)):=fun v1 X1 v2 X2 e1 e2=>by
    simp[ZgG,ZT,ZpJ,ZD,Zq,Zd,Za,Zn,e1,e2]
   rcases Zvv hp r0 g3 with⟨rfl,X,e1⟩ | ⟨w0,v1,u0,u1,X,F0,F2,rfl,e1,a1,a2,a3,a4⟩
   ·have hp2:0<(H++X).length:=by rw[List.length_append];omega
    rcases Zq7 hp2 (.none (H:=H++X)) g4 ok with⟨rfl,Y,e2⟩ | ⟨_,_,_,_,_,_,_,e2,_⟩
    ·exact⟨.none,X++Y,[],run _ _ _ _ e1 e2,.none,by simp,by simp⟩
    ·cases e2
   ·have hp2:0<(H++X).length:=by rw[List.length_append];omega
    rcases Zq7 hp2 (.tup (.cons a1 (.one a4))) g4 ok with⟨rfl,Y,e2⟩ | ⟨x0,w1,y0,y1,Y,F1',rfl,e3,e4,e2,b1,b2,b3⟩
    ·exact⟨.none,X++Y,[],run _ _ _ _ e1 e2,.none,by simp,by simp⟩
    ·have ex:x0=w0:=by
      have:Zu (.tup [w0,v1]) (.int 0) (H++X)=some (w0,H++X):=by simp[Zu,seqIndex?]
      rw[this]at e3
      cases e3
      rfl
     have ey:y0=u0:=by
      have:Zv (.tup [u0,u1]) (.int 0)=some u0:=by simp[Zv,seqIndex?]
      rw[this]at e4
      cases e4
      rfl
     subst ex ey
     have nd:(F0++F1').Nodup:=by
      rw[List.nodup_append]
      refine⟨a2,b2,fun x hx y hy e=>?_⟩
      have:=a1.lt x hx
      have:=b3 y hy
      omega
     have nw:∀x∈F0++F1',H.length≤x:=fun x m=>by
      rcases Zz8.mp m with m | m
      ·exact a3 x m
      ·have:=b3 x m;rw[List.length_append]at this;omega
     exact⟨.tup [x0,w1],X++Y,F0++F1',run _ _ _ _ e1 e2,by rw[←List.append_assoc];exact .tup (.cons (a1.ext Y) (.one b1)),fun x m=>.inl (nw x m),fun _=>⟨nd,nw⟩⟩
  ·cases h1
 ·rw[if_neg ok]at h2
  cases h2
def Zk5: Sm:=Zt (ZU (ZK (Zg ZcT (Za 0) (Zaa))) (ZD (Zq Zl5 (Zd (Za 1) (Zd (Za 0) Zn)))) ZW) (Zt (ZU (ZK (Zg oEq (Zg Zu (Za 1) (Zk 0)) (Zk 0))) (ZD (Zg Zu (Za 1) (Zk 1))) ZW) (ZD (Zaa)))
def Zk6:=ZT 2 Zk5
def Zk7: PS:=(Zw (ZV (ZL (Zh Zb4 (Zb 0) (Zad))) (ZF (Zr ZiH (Ze (Zb 1) (Ze (Zb 0) Zm)))) ZX) (Zw (ZV (ZL (Zh qEq (Zh Zv (Zb 1) (Zj 0)) (Zj 0))) (ZF (Zh Zv (Zb 1) (Zj 1))) ZX) (ZF (Zad))))
def Ziq:=ZY 2 Zk7
theorem ZtI: SimF false Zk6 Ziq:=SimF.of (show S [] [] [] false Zk5 Zk7 from(Zz (Z6 (ZO (ZE Zdi (Zc 0) (Zag))) (ZQ (ZG Zuy (Zf (Zc 1) (Zf (Zc 0) Zo)))) Z4) (Zz (Z6 (ZO (ZE Zau (ZC ZB (Zc 1) (Zl _)) (Zl _))) (ZQ (ZC ZB (Zc 1) (Zl _))) Z4) (ZQ (Zag)))))
def ZlG: Sm:=Zt (ZN 3 (Za0 Zn)) (Zt (ZaX (Zdb (Za 0) (Za 2)) (ZbY 4 5) (Zt (ZN 6 (Zq Zk6 (Zd (Za 4) (Zd (Zq Zhb (Zd (Za 1) (Zd (Zq Zg5 (Zd (Za 5) (Zd (eUn Zb7 (Zk 1)) Zn))) Zn))) Zn)))) (Zt (ZU (ZbO (ZK (Zg oIs (Za 6) (Zaa))) (ZbO (ZK (Zg ZcT (Za 4) (Zaa))) Zaw)) (ZD (Zaa)) ZW) (Zb8 (Zfl (Za 3) (Za 6)))))) (ZD (Za 3)))
def ZlH:=ZT 3 ZlG
def ZlI: PS:=(Zw (ZR 3 (ZaU Zm)) (Zw (Za2 (Zdc (Zb 0) (Zb 2)) (Zcs 4 5) (Zw (ZR 6 (Zr Ziq (Ze (Zb 4) (Ze (Zr Zf4 (Ze (Zb 1) (Ze (Zr Zf0 (Ze (Zb 5) (Ze (pUn Zb9 (Zj 1)) Zm))) Zm))) Zm)))) (Zw (ZV (ZbQ (ZL (Zh qIs (Zb 6) (Zad))) (ZbQ (ZL (Zh Zb4 (Zb 4) (Zad))) Zaq)) (ZF (Zad)) ZX) (Zen 3 [] ZaQ (ZbV (Zb 6)))))) (ZF (Zb 3))))
def ZiA:=ZY 3 ZlI
theorem Zud: SimF false ZlH ZiA:=SimF.of (show S [] [3] [] false ZlG ZlI from(Zz (Zcc (O':=[3]) (E.list Zo)) (Zz (ZbL (Gs.zip (Zc 0) (Zc 2)) PutOk.two (by decide) (by decide) (Zz (Z5 (O':=[3]) (ZG ZtI (Zf (Zc 4) (Zf (ZG Zms (Zf (Zc 1) (Zf (ZG Zl3 (Zf (Zc 5) (Zf (Zcq Zcr (Zl _)) Zo))) Zo))) Zo)))) (Zz (Z6 (Zco (ZO (ZE ZbR (Zc 6) (Zag))) (Zco (ZO (ZE Zdi (Zc 4) (Zag))) ZaH)) (ZQ (Zag)) Z4) (Zkz (O':=[3]) (by decide) ZbS (Zbq (O':=[]) (E.flat (Zc 6))) (by decide) (by decide))))) (ZQ (Zc 3)))))
def Zn5: Sm:=Zt (ZU (ZK (Zg oIs (Za 0) (Zaa))) (ZD (Zaa)) ZW) (Zt (ZN 1 (Zq ZfX (Zd (Zg Zu (Za 0) (Zk 1)) Zn))) (Zt (ZN 2 (ZaB (Zdb (Zg Zu (Za 0) (Zk 0)) (Za 1)) (ZbY 100 101) Zaw (Zq ZlH (Zd (Za 100) (Zd (Za 101) (Zd (Za 1) Zn)))))) (Zt (ZU (ZK (Zg oIn (Zaa) (Za 2))) (ZD (Zaa)) ZW) (ZD (Zak (Zd (Za 2) (Zd (Zg Zu (Za 0) (Zk 1)) Zn)))))))
def Zn6:=ZT 1 Zn5
def Zjx: PS:=(Zw (ZV (ZL (Zh qIs (Zb 0) (Zad))) (ZF (Zad)) ZX) (Zw (ZR 1 (Zr ZfY (Ze (Zh Zv (Zb 0) (Zj 1)) Zm))) (Zw (ZR 2 (Zax (Zdc (Zh Zv (Zb 0) (Zj 0)) (Zb 1)) (Zcs 100 101) Zaq (Zr ZiA (Ze (Zb 100) (Ze (Zb 101) (Ze (Zb 1) Zm)))))) (Zw (ZV (ZL (Zh qIn (Zad) (Zb 2))) (ZF (Zad)) ZX) (ZF (Zan (Ze (Zb 2) (Ze (Zh Zv (Zb 0) (Zj 1)) Zm))))))))
def Zgp:=ZY 1 Zjx
theorem Zwo: SimF false Zn6 Zgp:=SimF.of (show S [] [] [] false Zn5 Zjx from(Zz (Z6 (ZO (ZE ZbR (Zc 0) (Zag))) (ZQ (Zag)) Z4) (Zz (Z5 (O':=[]) (ZG ZlF (Zf (ZC ZB (Zc 0) (Zl _)) Zo))) (Zz (Z5 (O':=[]) (Zb3 (Gs.zip (ZC ZB (Zc 0) (Zl _)) (Zc 1)) PutOk.two (by decide) ZaH (ZG Zud (Zf (Zc 100) (Zf (Zc 101) (Zf (Zc 1) Zo)))))) (Zz (Z6 (ZO (ZE ZgR (Zag) (Zc 2))) (ZQ (Zag)) Z4) (ZQ (E.tup (Zf (Zc 2) (Zf (ZC ZB (Zc 0) (Zl _)) Zo)))))))))
def Zpj: Sm:=ZD (Zq ZgG (Zd (Zq Zn6 (Zd (Zq ZgG (Zd (Za 0) Zn)) Zn)) Zn))
def Zd5:=ZT 1 Zpj
def ZjX: PS:=(ZF (Zr ZfB (Ze (Zr Zgp (Ze (Zr ZfB (Ze (Zb 0) Zm)) Zm)) Zm)))
def ZaK:=ZY 1 ZjX
theorem Zfq: SimF true Zd5 ZaK:=SimF.of (show S [] [] [] true Zpj ZjX from(Zas (ZaE ZsV (Zf (ZG Zwo (Zf (ZG ZsV (Zf (Zc 0) Zo)) Zo)) Zo))))
def ZmB: Sm:=Zt (ZU (tOr (ZbX (ZK (eIs "tuple" (Za 0)))) (tOr (ZK (Zg oNe (Zq ZaJ (Zd (Za 0) Zn)) (Zk 2))) (tOr (ZbX (ZK (Zq Znl (Zd (Zg Zu (Za 0) (Zk 0)) (Zd (Zg Zae (Za 1) (Zk 1)) Zn))))) Zck))) (ZD (ZbF false)) ZW) (Zt (ZU (tOr (ZbX (ZK (eIs "list" (Zg Zu (Za 0) (Zk 1))))) (tOr (ZK (Zg oNe (Zq ZaJ (Zd (Zg Zu (Za 0) (Zk 1)) Zn)) (Za 1))) Zck)) (ZD (ZbF false)) ZW) (Zt (ZaX (ZbA (Zg Zu (Za 0) (Zk 1))) (put1 2) (Zt (ZU (tOr (ZbX (ZK (eIs "tuple" (Za 2)))) (tOr (ZK (Zg oNe (Zq ZaJ (Zd (Za 2) Zn)) (Zk 2))) Zck)) (ZD (ZbF false)) ZW) (Zt (ZU (tOr (ZbX (ZK (Zq Zhc (Zd (Zg Zu (Za 2) (Zk 0)) Zn)))) (tOr (ZbX (ZK (Zq Zhc (Zd (Zg Zu (Za 2) (Zk 1)) Zn)))) Zck)) (ZD (ZbF false)) ZW) (ZU (tOr (ZK (Zg oLt (Zg Zu (Za 2) (Zk 0)) (Zk 0))) (tOr (ZbO (ZK (Zg oGt (Zg Zu (Za 2) (Zk 0)) (Zk 0))) (ZbO (ZbX (ZhZ oLe oLt (Zk 0) (Zg Zu (Za 2) (Zk 1)) (Zg Zu (Za 2) (Zk 0)))) Zaw)) Zck)) (ZD (ZbF false)) ZW)))) (ZD (ZbF true))))
def ZmC:=ZT 2 ZmB
def ZmD: PS:=(Zw (ZV (bOr (ZbZ (ZL (pIs "tuple" (Zb 0)))) (bOr (ZL (Zh qNe (Zr Zaz (Ze (Zb 0) Zm)) (Zj 2))) (bOr (ZbZ (ZL (Zr Zja (Ze (Zh Zv (Zb 0) (Zj 0)) (Ze (Zh Zab (Zb 1) (Zj 1)) Zm))))) ZcB))) (ZF (ZbU false)) ZX) (Zw (ZV (bOr (ZbZ (ZL (pIs "list" (Zh Zv (Zb 0) (Zj 1))))) (bOr (ZL (Zh qNe (Zr Zaz (Ze (Zh Zv (Zb 0) (Zj 1)) Zm)) (Zb 1))) ZcB)) (ZF (ZbU false)) ZX) (Zw (Za2 (Zbm (Zh Zv (Zb 0) (Zj 1))) (Zam 2) (Zw (ZV (bOr (ZbZ (ZL (pIs "tuple" (Zb 2)))) (bOr (ZL (Zh qNe (Zr Zaz (Ze (Zb 2) Zm)) (Zj 2))) ZcB)) (ZF (ZbU false)) ZX) (Zw (ZV (bOr (ZbZ (ZL (Zr Zf5 (Ze (Zh Zv (Zb 2) (Zj 0)) Zm)))) (bOr (ZbZ (ZL (Zr Zf5 (Ze (Zh Zv (Zb 2) (Zj 1)) Zm)))) ZcB)) (ZF (ZbU false)) ZX) (ZV (bOr (ZL (Zh qLt (Zh Zv (Zb 2) (Zj 0)) (Zj 0))) (bOr (ZbQ (ZL (Zh qGt (Zh Zv (Zb 2) (Zj 0)) (Zj 0))) (ZbQ (ZbZ (Zh0 qLe qLt (Zj 0) (Zh Zv (Zb 2) (Zj 1)) (Zh Zv (Zb 2) (Zj 0)))) Zaq)) ZcB)) (ZF (ZbU false)) ZX)))) (ZF (ZbU true)))))
def ZiT:=ZY 2 ZmD
theorem ZuR: SimF false ZmC ZiT:=SimF.of (show S [] [] [] false ZmB ZmD from(Zz (Z6 (Za8 (Zcn (ZO (Zel (Zc 0)))) (Za8 (ZO (ZE Zdu (ZaD ZaW (Zf (Zc 0) Zo)) (Zl _))) (Za8 (Zcn (ZO (ZG Zvu (Zf (ZC ZB (Zc 0) (Zl _)) (Zf (Zac Zah (Zc 1) (Zl _)) Zo))))) ZcP))) (ZQ (E.bool _)) Z4) (Zz (Z6 (Za8 (Zcn (ZO (Zel (ZC ZB (Zc 0) (Zl _))))) (Za8 (ZO (ZE Zdu (ZaD ZaW (Zf (ZC ZB (Zc 0) (Zl _)) Zo)) (Zc 1))) ZcP)) (ZQ (E.bool _)) Z4) (Zz (ZbL (Gs.seq (ZC ZB (Zc 0) (Zl _))) PutOk.one (by decide) (by decide) (Zz (Z6 (Za8 (Zcn (ZO (Zel (Zc 2)))) (Za8 (ZO (ZE Zdu (ZaD ZaW (Zf (Zc 2) Zo)) (Zl _))) ZcP)) (ZQ (E.bool _)) Z4) (Zz (Z6 (Za8 (Zcn (ZO (ZG Zmy (Zf (ZC ZB (Zc 2) (Zl _)) Zo)))) (Za8 (Zcn (ZO (ZG Zmy (Zf (ZC ZB (Zc 2) (Zl _)) Zo)))) ZcP)) (ZQ (E.bool _)) Z4) (Z6 (Za8 (ZO (ZE ZdL (ZC ZB (Zc 2) (Zl _)) (Zl _))) (Za8 (Zco (ZO (ZE ZfR (ZC ZB (Zc 2) (Zl _)) (Zl _))) (Zco (Zcn (Zxf Zqe ZdL (Zl _) (ZC ZB (Zc 2) (Zl _)) (ZC ZB (Zc 2) (Zl _)))) ZaH)) ZcP)) (ZQ (E.bool _)) Z4)))) (ZQ (E.bool _))))))
def Znp: Sm:=Zt (ZU (ZK (Zg oIs (Za 1) (Zaa))) (ZD (Zg oIs (Za 0) (Zaa))) ZW) (ZD (Zda (Zq ZmC (Zd (Za 0) (Zd (Zq ZaJ (Zd (Zg Zu (Za 1) (Zk 1)) Zn)) Zn))) (Zg oEq (Za 0) (Za 1))))
def Znq:=ZT 2 Znp
def Zjb: PS:=(Zw (ZV (ZL (Zh qIs (Zb 1) (Zad))) (ZF (Zh qIs (Zb 0) (Zad))) ZX) (ZF ((Zds (Zr ZiT (Ze (Zb 0) (Ze (Zr Zaz (Ze (Zh Zv (Zb 1) (Zj 1)) Zm)) Zm))) (Zh qEq (Zb 0) (Zb 1))))))
def Ze7:=ZY 2 Zjb
theorem Zvw: SimF false Znq Ze7:=SimF.of (show S [] [] [] false Znp Zjb from(Zz (Z6 (ZO (ZE ZbR (Zc 1) (Zag))) (ZQ (ZE ZbR (Zc 0) (Zag))) Z4) (ZQ ((ZfG (E.sh (ZG ZuR (Zf (Zc 0) (Zf (ZaD ZaW (Zf (ZC ZB (Zc 1) (Zl _)) Zo)) Zo)))) (E.sh (ZE Zau (Zc 0) (Zc 1))))))))
def Zpk(F:List V→Hp→Option (V×Hp)): Sm:=Zt (ZU (ZK (eIs "list" (Za 0))) (ZD (ZaB (ZbA (Za 0)) (put1 100) Zaw (Zq F (Zd (Za 100) Zn)))) ZW) (Zt (ZU (ZK (eIs "tuple" (Za 0))) (ZD (Zq Zgv (Zd (ZaB (ZbA (Za 0)) (put1 102) Zaw (Zq F (Zd (Za 102) Zn))) Zn))) ZW) (ZD (Za 0)))
def Zgt: Nat→List V→Hp→Option (V×Hp)
 | 0=>fun _ _=>none
 | n+1=>ZT 1 (Zpk (Zgt n))
def Zgy: List V→Hp→Option (V×Hp):=Zgt 9
def Zgz(F:List T→Option T): PS:=(Zw (ZV (ZL (pIs "list" (Zb 0))) (ZF (Zax (Zbm (Zb 0)) (Zam 100) Zaq (Zr F (Ze (Zb 100) Zm)))) ZX) (Zw (ZV (ZL (pIs "tuple" (Zb 0))) (ZF (Zr ZjT (Ze (Zax (Zbm (Zb 0)) (Zam 102) Zaq (Zr F (Ze (Zb 102) Zm))) Zm))) ZX) (ZF (ZbV (Zb 0)))))
def Zfk: Nat→List T→Option T
 | 0=>fun _=>none
 | n+1=>ZY 1 (Zgz (Zfk n))
def ZeA: List T→Option T:=Zfk 9
theorem ZoL: ∀n:Nat,SimF true (Zgt n) (Zfk n)
 | 0=>Zwi
 | n+1=>SimF.of (show S [] [] [] true (Zpk (Zgt n)) (Zgz (Zfk n))from(Zz (Z6 (ZO (Zel (Zc 0))) (Zas (Zc5 (Gs.seq (Zc 0)) PutOk.one (by decide) ZaH (ZaE (ZoL n) (Zf (Zc 100) Zo)))) Z4) (Zz (Z6 (ZO (Zel (Zc 0))) (Zas (Zyy Zxg (Zfi (Zc5 (Gs.seq (Zc 0)) PutOk.one (by decide) ZaH (ZaE (ZoL n) (Zf (Zc 102) Zo))) Zo (by decide) (by decide)))) Z4) (Zas (E.flat (Zc 0))))))
theorem ZjY: SimF true Zgy ZeA:=ZoL 9
def ZlJ: Sm:=ZD (ZaB (Za1 (Zd (Zg Zae (Za 1) (Zk 1)) Zn)) (put1 100) Zaw (eIf (ZK (Zg oEq (Za 0) (Za 100))) (Zk 0) (Zaa)))
def ZiB:=ZT 2 ZlJ
def ZlK: PS:=(ZF (Zax (ZaN (Ze (Zh Zab (Zb 1) (Zj 1)) Zm)) (Zam 100) Zaq (pIf (ZL (Zh qEq (Zb 0) (Zb 100))) (Zj 0) (Zad))))
def ZeX:=ZY 2 ZlK
theorem Zqy: SimF true ZiB ZeX:=SimF.of (show S [] [] [] true ZlJ ZlK from(Zas (Zc5 (Gs.range (Zf (Zac Zah (Zc 1) (Zl _)) Zo)) PutOk.one (by decide) ZaH (ZeQ (ZO (ZE Zau (Zc 0) (Zc 100))) (Zl _) (Zag)))))
def Zkp: Sm:=ZD (Zg Zae (Zg Zae (ZdF (Za 0) Zee (Zef (Zg Zbk (Za 1) (Zk 1)))) (Za0 (Zd (Za 2) Zn))) (ZdF (Za 0) (Zef (Za 1)) Zee))
def ZfC:=ZT 3 Zkp
def ZpK: PS:=(ZF (pFl (Zh Zab (Zh Zab (Zc7 (Zb 0) Zdk (Zdl (Zh Zba (Zb 1) (Zj 1)))) (ZaU (Ze (Zb 2) Zm))) (Zc7 (Zb 0) (Zdl (Zb 1)) Zdk))))
def ZgH:=ZY 3 ZpK
theorem ZsW: SimF true ZfC ZgH:=SimF.of (show S [] [] [] true Zkp ZpK from(Zas (ZhX Zah (Zac Zah (Zgx (Zc 0) Pe.none (Pe.some (ZE Zbr (Zc 1) (Zl _)))) (E.list (Zf (Zc 2) Zo))) (Zgx (Zc 0) (Pe.some (Zc 1)) Pe.none))))
def Znr: Sm:=Zt (ZN 2 (ZaB (ZbA (Za 0)) (put1 100) Zaw (Zq ZfC (Zd (Za 100) (Zd (Zg Zae (Za 1) (Zk 1)) (Zd (Zaa) Zn)))))) (Zt (ZbP (Zq ZiB (Zd (Za 1) (Zd (Zg Zbk (Zq ZaJ (Zd (Za 0) Zn)) (Zk 1)) Zn))) (Za 2) (Za 1)) (ZD (Za 2)))
def Zns:=ZT 2 Znr
def Znt: PS:=(Zw (ZR 2 (Zax (Zbm (Zb 0)) (Zam 100) Zaq (Zr ZgH (Ze (Zb 100) (Ze (Zh Zab (Zb 1) (Zj 1)) (Ze (Zad) Zm)))))) (Zw (Zbi 2 [] (Zr ZeX (Ze (Zb 1) (Ze (Zh Zba (Zr Zaz (Ze (Zb 0) Zm)) (Zj 1)) Zm))) ZaQ (Zb 1)) (ZF (Zb 2))))
def Zjc:=ZY 2 Znt
theorem Zvx: SimF true Zns Zjc:=SimF.of (show S [] [2] [] true Znr Znt from(Zz (Zcc (O':=[2]) (Zc5 (Gs.seq (Zc 0)) PutOk.one (by decide) ZaH (ZaE ZsW (Zf (Zc 100) (Zf (Zac Zah (Zc 1) (Zl _)) (Zf (Zag) Zo)))))) (Zz (S.put (O':=[2]) (by decide) (Zbq (O':=[]) (ZaE Zqy (Zf (Zc 1) (Zf (ZE Zbr (ZaD ZaW (Zf (Zc 0) Zo)) (Zl _)) Zo)))) ZbS (Zc 1) (by decide) (by decide)) (Zas (E.own (by decide))))))
def Zjd: Sm:=Zt (ZbP (Zg Zu (Za 2) (Zk 1)) (Zg Zu (Za 0) (Za 1)) (Zk 0)) (ZbP (Zq Ze1 (Zd (Zg Zu (Za 2) (Zk 0)) (Zd (eUn Zb7 (Zk 1)) Zn))) (Zg Zu (Za 0) (Zk 0)) (Za 1))
def Znu:=ZT 3 Zjd
def Znv: PS:=(Zw (Zbi 0 [] (ZbV (Zh Zv (Zb 2) (Zj 1))) (ZcU ZaQ (Zb 1)) (Zj 0)) (Zbi 0 [] (ZbV (Zr Zer (Ze (Zh Zv (Zb 2) (Zj 0)) (Ze (pUn Zb9 (Zj 1)) Zm)))) (ZcU ZaQ (Zj 0)) (Zb 1)))
def Zje:=Zdv 3 Znv
theorem Zvy: SimM Znu Zje:=SimM.of (show S [0] [0] [0] false Zjd Znv from(Zz (S.put (O':=[0]) (by decide) (Zbq (O':=[]) (E.flat (ZC ZB (Zc 2) (Zl _)))) (Zfx ZbS (Zc 1)) (Zl _) (by decide) (by decide)) (S.put (O':=[0]) (by decide) (Zbq (O':=[]) (E.flat (ZG Zhd (Zf (ZC ZB (Zc 2) (Zl _)) (Zf (Zcq Zcr (Zl _)) Zo))))) (Zfx ZbS (Zl _)) (Zc 1) (by decide) (by decide)))) (by decide) (by unfold Zjd;repeat' first | exact Keep0.next | exact Zgl | exact Keep0.ret | exact Keep0.put | apply Keep0.seq | apply Zgm | exact Keep0.set (by decide))
def ZpL: Sm:=Zt (ZU (ZK (Zg oIs (Za 0) (Zaa))) (ZD (Zaa)) ZW) (Zt (ZN 4 (Zq Zns (Zd (Zg Zu (Za 0) (Zk 0)) (Zd (Za 1) Zn)))) (Zt (Zb8 (Zq Znu (Zd (Za 4) (Zd (Za 1) (Zd (Za 2) Zn))))) (ZD (Zq Zd5 (Zd (Zak (Zd (Za 4) (Zd (Zq ZfC (Zd (Zg Zu (Za 0) (Zk 1)) (Zd (Za 1) (Zd (Za 3) Zn)))) Zn))) Zn)))))
def Zh5:=ZT 4 ZpL
def ZpM: PS:=(Zw (ZV (ZL (Zh qIs (Zb 0) (Zad))) (ZF (Zad)) ZX) (Zw (ZR 4 (Zr Zjc (Ze (Zh Zv (Zb 0) (Zj 0)) (Ze (Zb 1) Zm)))) (Zw (ZdO 4 Zje (Ze (Zb 1) (Ze (Zb 2) Zm))) (ZF (Zr ZaK (Ze (Zan (Ze (Zb 4) (Ze (Zr ZgH (Ze (Zh Zv (Zb 0) (Zj 1)) (Ze (Zb 1) (Ze (Zb 3) Zm)))) Zm))) Zm))))))
def Zeb:=ZY 4 ZpM
theorem ZpN: SimF true Zh5 Zeb:=SimF.of (show S [] [4] [] true ZpL ZpM from(Zz (Z6 (ZO (ZE ZbR (Zc 0) (Zag))) (Zas (Zag)) Z4) (Zz (Zcc (O':=[4]) (ZaE Zvx (Zf (ZC ZB (Zc 0) (Zl _)) (Zf (Zc 1) Zo)))) (Zz (Zfz (O':=[4]) (by decide) Zvy (Zf (Zc 1) (Zf (Zc 2) Zo)) (by decide) (by decide)) (Zas (ZaE Zfq (Zf (E.tup (Zf (Zc 4) (Zf (ZG ZsW (Zf (ZC ZB (Zc 0) (Zl _)) (Zf (Zc 1) (Zf (Zc 3) Zo)))) Zo))) Zo)))))))
def Zn7: Sm:=Zt (ZN 2 (Zq ZaJ (Zd (Zg Zu (Za 0) (Zk 1)) Zn))) (Zt (ZN 3 (ZaB (ZbA (Zg Zu (Za 0) (Zk 0))) (put1 100) Zaw (Zg Zae (Za 100) (Zg Za9 (Za0 (Zd (Zaa) Zn)) (Za 1))))) (Zt (ZN 4 (ZaB (Za1 (Zd (Zg Zae (Za 2) (Zk 1)) (Zd (Zg Zae (Zg Zae (Za 2) (Za 1)) (Zk 1)) Zn))) (put1 102) Zaw (Zq ZiB (Zd (Za 102) (Zd (Zg Zae (Za 2) (Za 1)) Zn))))) (ZD (Zak (Zd (Zg Zae (Za 3) (Za 4)) (Zd (Zg Zae (Zg Zu (Za 0) (Zk 1)) (Zg Za9 (Za0 (Zd (Zak (Zd (Zk 1) (Zd (Zk 0) Zn))) Zn)) (Za 1))) Zn))))))
def Zn8:=ZT 2 Zn7
def Zn9: PS:=(Zw (ZR 2 (Zr Zaz (Ze (Zh Zv (Zb 0) (Zj 1)) Zm))) (Zw (ZR 3 (Zax (Zbm (Zh Zv (Zb 0) (Zj 0))) (Zam 100) Zaq (pFl (Zh Zab (Zb 100) (Zh ZaY (ZaU (Ze (Zad) Zm)) (Zb 1)))))) (Zw (ZR 4 (Zax (ZaN (Ze (Zh Zab (Zb 2) (Zj 1)) (Ze (Zh Zab (Zh Zab (Zb 2) (Zb 1)) (Zj 1)) Zm))) (Zam 102) Zaq (Zr ZeX (Ze (Zb 102) (Ze (Zh Zab (Zb 2) (Zb 1)) Zm))))) (ZF (Zan (Ze (Zh Zab (Zb 3) (Zb 4)) (Ze (pFl (Zh Zab (Zh Zv (Zb 0) (Zj 1)) (Zh ZaY (ZaU (Ze (Zan (Ze (Zj 1) (Ze (Zj 0) Zm))) Zm)) (Zb 1)))) Zm)))))))
def Zhu:=ZY 2 Zn9
theorem Zwp: SimF true Zn8 Zhu:=SimF.of (show S [] [3,4] [] true Zn7 Zn9 from(Zz (Z5 (O':=[]) (ZaD ZaW (Zf (ZC ZB (Zc 0) (Zl _)) Zo))) (Zz (Zcc (O':=[3]) (Zc5 (Gs.seq (ZC ZB (Zc 0) (Zl _))) PutOk.one (by decide) ZaH (ZhX Zah (Zc 100) (Zac Zbz (E.list (Zf (Zag) Zo)) (Zc 1))))) (Zz (Zcc (O':=[3,4]) (Zbq (O':=[]) (Zc5 (Gs.range (Zf (Zac Zah (Zc 2) (Zl _)) (Zf (Zac Zah (Zac Zah (Zc 2) (Zc 1)) (Zl _)) Zo))) PutOk.one (by decide) ZaH (ZaE Zqy (Zf (Zc 102) (Zf (Zac Zah (Zc 2) (Zc 1)) Zo)))))) (Zas (E.tup (Zfi (ZAd (E.own (by decide)) (E.own (by decide)) (by decide) (by decide)) (Zfi (ZhX Zah (ZC ZB (Zc 0) (Zl _)) (Zac Zbz (E.list (Zf (E.tup (Zf (Zl _) (Zf (Zl _) Zo))) Zo)) (Zc 1))) Zo (by decide) (by decide)) (by decide) (by decide))))))))
def Zjf: Sm:=ZbP (Zq ZjF (Zd (Zg Zu (Zg Zu (Za 0) (Za 1)) (Za 2)) (Zd (Za 3) Zn))) (Zg Zu (Za 0) (Za 1)) (Za 2)
def Zge:=ZT 4 Zjf
def Znw: PS:=(Zbi 0 [] (ZbV (Zr ZhH (Ze (Zh Zv (Zh Zv (Zb 0) (Zb 1)) (Zb 2)) (Ze (Zb 3) Zm)))) (ZcU ZaQ (Zb 1)) (Zb 2))
def Ze8:=Zdv 4 Znw
theorem Zjg: SimM Zge Ze8:=SimM.of (show S [0] [0] [0] false Zjf Znw from(S.put (O':=[0]) (by decide) (Zbq (O':=[]) (E.flat (ZG ZrI (Zf (ZC ZB (ZC ZB (Zc 0) (Zc 1)) (Zc 2)) (Zf (Zc 3) Zo))))) (Zfx ZbS (Zc 1)) (Zc 2) (by decide) (by decide))) (by decide) (by unfold Zjf;repeat' first | exact Keep0.next | exact Zgl | exact Keep0.ret | exact Keep0.put | apply Keep0.seq | apply Zgm | exact Keep0.set (by decide))
def ZkP: Sm:=Zt (ZN 3 (Zq Zgy (Zd (Za 0) Zn))) (Zt (ZaX (Zdb (Za 1) (Za 2)) (ZbY 4 5) (ZaX (Zdb (Za 1) (Za 5)) (ZbY 6 7) (Zb8 (Zq Zge (Zd (Za 3) (Zd (Za 4) (Zd (Za 6) (Zd (Za 7) Zn)))))))) (ZD (Za 3)))
def ZkQ:=ZT 3 ZkP
def ZkR: PS:=(Zw (ZR 3 (Zr ZeA (Ze (Zb 0) Zm))) (Zw (Za2 (Zdc (Zb 1) (Zb 2)) (Zcs 4 5) (Za2 (Zdc (Zb 1) (Zb 5)) (Zcs 6 7) (ZdO 3 Ze8 (Ze (Zb 4) (Ze (Zb 6) (Ze (Zb 7) Zm)))))) (ZF (Zb 3))))
def Zim:=ZY 3 ZkR
theorem Zty: SimF true ZkQ Zim:=SimF.of (show S [] [3] [] true ZkP ZkR from(Zz (Zcc (O':=[3]) (ZaE ZjY (Zf (Zc 0) Zo))) (Zz (ZbL (Gs.zip (Zc 1) (Zc 2)) PutOk.two (by decide) (by decide) (ZbL (Gs.zip (Zc 1) (Zc 5)) PutOk.two (by decide) (by decide) (Zfz (O':=[3]) (by decide) Zjg (Zf (Zc 4) (Zf (Zc 6) (Zf (Zc 7) Zo))) (by decide) (by decide)))) (Zas (E.own (by decide))))))
def Zoa: Sm:=Zt (ZN 3 (Zq ZeG (Zd (Zg Zu (Za 0) (Zk 1)) Zn))) (Zt (ZaX (Zdb (Za 1) (Zg Zu (Za 2) (Zk 1))) (ZbY 4 5) (ZbP (Zq Zhl (Zd (Zg Zu (Za 3) (Zg Zbk (Za 4) (Zk 1))) (Zd (Za 5) Zn))) (Za 3) (Zg Zbk (Za 4) (Zk 1)))) (Zt (ZU (ZK (Zg oIn (Zaa) (Za 3))) (ZD (Zaa)) ZW) (ZD (Zak (Zd (Zq ZkQ (Zd (Zg Zu (Za 0) (Zk 0)) (Zd (Zg Zae (Za0 (Zd (Zk 0) Zn)) (Za 1)) (Zd (Zg Zu (Za 2) (Zk 0)) Zn)))) (Zd (Za 3) Zn))))))
def Zob:=ZT 3 Zoa
def Zoc: PS:=(Zw (ZR 3 (pFl (Zr Zfw (Ze (Zh Zv (Zb 0) (Zj 1)) Zm)))) (Zw (Za2 (Zdc (Zb 1) (Zh Zv (Zb 2) (Zj 1))) (Zcs 4 5) (Zbi 3 [] (ZbV (Zr Zgb (Ze (Zh Zv (Zb 3) (Zh Zba (Zb 4) (Zj 1))) (Ze (Zb 5) Zm)))) ZaQ (Zh Zba (Zb 4) (Zj 1)))) (Zw (ZV (ZL (Zh qIn (Zad) (Zb 3))) (ZF (Zad)) ZX) (ZF (Zan (Ze (Zr Zim (Ze (Zh Zv (Zb 0) (Zj 0)) (Ze (Zh Zab (ZaU (Ze (Zj 0) Zm)) (Zb 1)) (Ze (Zh Zv (Zb 2) (Zj 0)) Zm)))) (Ze (Zb 3) Zm)))))))
def Zhv:=ZY 3 Zoc
theorem Zwq: SimF true Zob Zhv:=SimF.of (show S [] [3] [] true Zoa Zoc from(Zz (Zcc (O':=[3]) (Zx2 Zo9 (Zf (ZC ZB (Zc 0) (Zl _)) Zo))) (Zz (ZbL (Gs.zip (Zc 1) (ZC ZB (Zc 2) (Zl _))) PutOk.two (by decide) (by decide) (S.put (O':=[3]) (by decide) (Zbq (O':=[]) (E.flat (ZG Znh (Zf (ZC ZB (Zc 3) (ZE Zbr (Zc 4) (Zl _))) (Zf (Zc 5) Zo))))) ZbS (ZE Zbr (Zc 4) (Zl _)) (by decide) (by decide))) (Zz (Z6 (ZO (ZE ZgR (Zag) (Zc 3))) (Zas (Zag)) Z4) (Zas (E.tup (Zfi (ZaE Zty (Zf (ZC ZB (Zc 0) (Zl _)) (Zf (Zac Zah (E.list (Zf (Zl _) Zo)) (Zc 1)) (Zf (ZC ZB (Zc 2) (Zl _)) Zo)))) (Zfi (E.own (by decide)) Zo (by decide) (by decide)) (by decide) (by decide))))))))
def Zod: Sm:=Zt (ZN 3 (Zg Zae (Za0 (Zd (Zq Zep (Zd (Za 0) (Zd (Za 1) Zn))) Zn)) (Zg Za9 (Za0 (Zd (Zk 0) Zn)) (Za 2)))) (Zt (ZN 4 (Zq Zb1 (Zd (Za 0) (Zd (Za 1) (Zd (Zk 6) Zn))))) (Zt (ZU (tOr (ZK (Zg oEq (Za 4) (Zk 0))) (tOr (ZK (Zg oEq (Za 2) (Zk 0))) Zck)) (ZD (Za 3)) ZW) (Zt (ZN 5 (Zg Zae (Zk 1) (Zq Zb1 (Zd (Za 0) (Zd (Zg Zae (Za 1) (Zk 1)) (Zd (Za 2) Zn)))))) (Zt (ZU (ZK (Zg oEq (Za 4) (Zk 1))) (ZbP (Zg Zbk (Zq Zb1 (Zd (Za 0) (Zd (Zg Zae (Za 1) (Zk 2)) (Zd (Zk 13) Zn)))) (Zk 6)) (Za 3) (Za 5)) ZW) (Zt (ZU (tOr (ZK (Zg oEq (Za 4) (Zk 2))) (tOr (ZK (Zg oEq (Za 4) (Zk 3))) Zck)) (Zt (ZN 6 (Zg Zae (Zk 1) (Zq Zb1 (Zd (Za 0) (Zd (Zg Zae (Za 1) (Zk 2)) (Zd (Za 2) Zn)))))) (Zt (ZbP (Zk 1) (Za 3) (Za 5)) (ZbP (Zg Zbk (Zg Zu (Za 3) (Za 6)) (Zk 1)) (Za 3) (Za 6)))) ZW) (Zt (ZU (ZK (Zg oEq (Za 4) (Zk 4))) (ZaX (Za1 (Zd (Za 2) Zn)) (put1 7) (ZbP (Zg Zbk (Zq Zb1 (Zd (Za 0) (Zd (Zg Zae (Zg Zae (Za 1) (Zk 1)) (Za 7)) (Zd (Zk 7) Zn)))) (Zk 3)) (Za 3) (Zg Zae (Za 7) (Zk 1)))) ZW) (Zt (ZU (ZK (Zg oEq (Za 4) (Zk 5))) (ZaX (Za1 (Zd (Za 2) Zn)) (put1 7) (ZbP (Zg Zbk (Zq Zb1 (Zd (Za 0) (Zd (Zg Zae (Zg Zae (Za 1) (Zk 1)) (Za 7)) (Zd (Zk 2000000001) Zn)))) (Zk 1000000000)) (Za 3) (Zg Zae (Za 7) (Zk 1)))) ZW) (ZD (Za 3)))))))))
def Zhw:=ZT 3 Zod
def Zoe: PS:=(Zw (ZR 3 (pFl (Zh Zab (ZaU (Ze (Zr ZdU (Ze (Zb 0) (Ze (Zb 1) Zm))) Zm)) (Zh ZaY (ZaU (Ze (Zj 0) Zm)) (Zb 2))))) (Zw (ZR 4 (Zr ZbB (Ze (Zb 0) (Ze (Zb 1) (Ze (Zj 6) Zm))))) (Zw (ZV (bOr (ZL (Zh qEq (Zb 4) (Zj 0))) (bOr (ZL (Zh qEq (Zb 2) (Zj 0))) ZcB)) (ZF (Zb 3)) ZX) (Zw (ZR 5 (Zh Zab (Zj 1) (Zr ZbB (Ze (Zb 0) (Ze (Zh Zab (Zb 1) (Zj 1)) (Ze (Zb 2) Zm)))))) (Zw (ZV (ZL (Zh qEq (Zb 4) (Zj 1))) (Zbi 3 [] (Zh Zba (Zr ZbB (Ze (Zb 0) (Ze (Zh Zab (Zb 1) (Zj 2)) (Ze (Zj 13) Zm)))) (Zj 6)) ZaQ (Zb 5)) ZX) (Zw (ZV (bOr (ZL (Zh qEq (Zb 4) (Zj 2))) (bOr (ZL (Zh qEq (Zb 4) (Zj 3))) ZcB)) (Zw (ZR 6 (Zh Zab (Zj 1) (Zr ZbB (Ze (Zb 0) (Ze (Zh Zab (Zb 1) (Zj 2)) (Ze (Zb 2) Zm)))))) (Zw (Zbi 3 [] (Zj 1) ZaQ (Zb 5)) (Zbi 3 [] (Zh Zba (Zh Zv (Zb 3) (Zb 6)) (Zj 1)) ZaQ (Zb 6)))) ZX) (Zw (ZV (ZL (Zh qEq (Zb 4) (Zj 4))) (Za2 (ZaN (Ze (Zb 2) Zm)) (Zam 7) (Zbi 3 [] (Zh Zba (Zr ZbB (Ze (Zb 0) (Ze (Zh Zab (Zh Zab (Zb 1) (Zj 1)) (Zb 7)) (Ze (Zj 7) Zm)))) (Zj 3)) ZaQ (Zh Zab (Zb 7) (Zj 1)))) ZX) (Zw (ZV (ZL (Zh qEq (Zb 4) (Zj 5))) (Za2 (ZaN (Ze (Zb 2) Zm)) (Zam 7) (Zbi 3 [] (Zh Zba (Zr ZbB (Ze (Zb 0) (Ze (Zh Zab (Zh Zab (Zb 1) (Zj 1)) (Zb 7)) (Ze (Zj 2000000001) Zm)))) (Zj 1000000000)) ZaQ (Zh Zab (Zb 7) (Zj 1)))) ZX) (ZF (Zb 3))))))))))
def Zgq:=ZY 3 Zoe
theorem Zof: SimF true Zhw Zgq:=SimF.of (show S [] [3] [] true Zod Zoe from(Zz (Zcc (O':=[3]) (ZhX Zah (E.list (Zf (ZG ZfZ (Zf (Zc 0) (Zf (Zc 1) Zo))) Zo)) (Zac Zbz (E.list (Zf (Zl _) Zo)) (Zc 2)))) (Zz (Z5 (O':=[3]) (ZG Zci (Zf (Zc 0) (Zf (Zc 1) (Zf (Zl _) Zo))))) (Zz (Z6 (Za8 (ZO (ZE Zau (Zc 4) (Zl _))) (Za8 (ZO (ZE Zau (Zc 2) (Zl _))) ZcP)) (Zas (E.own (by decide))) Z4) (Zz (Z5 (O':=[3]) (Zac Zah (Zl _) (ZG Zci (Zf (Zc 0) (Zf (Zac Zah (Zc 1) (Zl _)) (Zf (Zc 2) Zo)))))) (Zz (Z6 (ZO (ZE Zau (Zc 4) (Zl _))) (S.put (O':=[3]) (by decide) (Zbq (O':=[]) (ZE Zbr (ZG Zci (Zf (Zc 0) (Zf (Zac Zah (Zc 1) (Zl _)) (Zf (Zl _) Zo)))) (Zl _))) ZbS (Zc 5) (by decide) (by decide)) Z4) (Zz (Z6 (Za8 (ZO (ZE Zau (Zc 4) (Zl _))) (Za8 (ZO (ZE Zau (Zc 4) (Zl _))) ZcP)) (Zz (Z5 (O':=[3]) (Zac Zah (Zl _) (ZG Zci (Zf (Zc 0) (Zf (Zac Zah (Zc 1) (Zl _)) (Zf (Zc 2) Zo)))))) (Zz (S.put (O':=[3]) (by decide) (Zbq (O':=[]) (Zl _)) ZbS (Zc 5) (by decide) (by decide)) (S.put (O':=[3]) (by decide) (Zbq (O':=[]) (ZE Zbr (ZC ZB (Zc 3) (Zc 6)) (Zl _))) ZbS (Zc 6) (by decide) (by decide)))) Z4) (Zz (Z6 (ZO (ZE Zau (Zc 4) (Zl _))) (ZbL (Gs.range (Zf (Zc 2) Zo)) PutOk.one (by decide) (by decide) (S.put (O':=[3]) (by decide) (Zbq (O':=[]) (ZE Zbr (ZG Zci (Zf (Zc 0) (Zf (Zac Zah (Zac Zah (Zc 1) (Zl _)) (Zc 7)) (Zf (Zl _) Zo)))) (Zl _))) ZbS (Zac Zah (Zc 7) (Zl _)) (by decide) (by decide))) Z4) (Zz (Z6 (ZO (ZE Zau (Zc 4) (Zl _))) (ZbL (Gs.range (Zf (Zc 2) Zo)) PutOk.one (by decide) (by decide) (S.put (O':=[3]) (by decide) (Zbq (O':=[]) (ZE Zbr (ZG Zci (Zf (Zc 0) (Zf (Zac Zah (Zac Zah (Zc 1) (Zl _)) (Zc 7)) (Zf (Zl _) Zo)))) (Zl _))) ZbS (Zac Zah (Zc 7) (Zl _)) (by decide) (by decide))) Z4) (Zas (E.own (by decide))))))))))))
def Zk8: Sm:=ZD (Zg oEq (Zq ZhT (Zd (ZaB (ZbA (Zeg (Za 0) 1)) (put1 100) (ZK (Zg oNe (Za 100) (Zk 0))) (Za 100)) Zn)) (Za0 (Zd (eUn Zb7 (Zk 1)) (Zd (Zk 1) Zn))))
def Zk9:=ZT 1 Zk8
def Zla: PS:=(ZF (Zh qEq (Zr ZjW (Ze (Zax (Zbm (ZeR (Zb 0) 1)) (Zam 100) (ZL (Zh qNe (Zb 100) (Zj 0))) (Zb 100)) Zm)) (ZaU (Ze (pUn Zb9 (Zj 1)) (Ze (Zj 1) Zm)))))
def Zir:=ZY 1 Zla
theorem ZtJ: SimF false Zk9 Zir:=SimF.of (show S [] [] [] false Zk8 Zla from(ZQ (ZE Zau (ZjQ Zxi (Zf (Zb3 (Gs.seq (Zke (Zc 0))) PutOk.one (by decide) (ZO (ZE Zdu (Zc 100) (Zl _))) (Zc 100)) Zo)) (E.list (Zf (Zcq Zcr (Zl _)) (Zf (Zl _) Zo))))))
def Zlr: Sm:=Zt (ZN 1 (Zg Zu (Za 0) (Zk 0))) (ZD (ZaB (Za1 (Zd (Zk 1) (Zd (Zq ZaJ (Zd (Za 1) Zn)) Zn))) (put1 100) Zaw (Zak (Zd (Zq Ze1 (Zd (Zg Zu (Zg Zu (Za 1) (Zk 0)) (Za 100)) (Zd (eUn Zb7 (Zk 1)) Zn))) (Zd (Zg Zu (Zg Zu (Za 1) (Za 100)) (Zk 0)) Zn)))))
def Zls:=ZT 1 Zlr
def Zlt: PS:=(Zw (ZR 1 (Zh Zv (Zb 0) (Zj 0))) (ZF (Zax (ZaN (Ze (Zj 1) (Ze (Zr Zaz (Ze (Zb 1) Zm)) Zm))) (Zam 100) Zaq (Zan (Ze (Zr Zer (Ze (Zh Zv (Zh Zv (Zb 1) (Zj 0)) (Zb 100)) (Ze (pUn Zb9 (Zj 1)) Zm))) (Ze (Zh Zv (Zh Zv (Zb 1) (Zb 100)) (Zj 0)) Zm))))))
def Ziw:=ZY 1 Zlt
theorem ZtY: SimF false Zls Ziw:=SimF.of (show S [] [] [] false Zlr Zlt from(Zz (Z5 (O':=[]) (ZC ZB (Zc 0) (Zl _))) (ZQ (Zb3 (Gs.range (Zf (Zl _) (Zf (ZaD ZaW (Zf (Zc 1) Zo)) Zo))) PutOk.one (by decide) ZaH (E.tup (Zf (ZG Zhd (Zf (ZC ZB (ZC ZB (Zc 1) (Zl _)) (Zc 100)) (Zf (Zcq Zcr (Zl _)) Zo))) (Zf (ZC ZB (ZC ZB (Zc 1) (Zc 100)) (Zl _)) Zo)))))))
def Znx: Sm:=Zt (ZU (ZK (Zq Zk9 (Zd (Za 1) Zn))) (ZD (Zq Zet (Zd (Zg Zu (Zg Zu (Zg Zu (Za 0) (Zk 0)) (Zh1 (Za 1) (Zk 1) (Zk 1))) (Zh1 (Za 1) (eUn Zb7 (Zk 1)) (Zk 1))) (Zd (Zg Zu (Za 1) (Zk 0)) Zn)))) ZW) (ZD (Zg Zu (Zq ZlB (Zd (Za 1) (Zd (Zq Zls (Zd (Za 0) Zn)) Zn))) (Zk 1)))
def Ze9:=ZT 2 Znx
def Zny: PS:=(Zw (ZV (ZL (Zr Zir (Ze (Zb 1) Zm))) (ZF (Zr ZdY (Ze (Zh Zv (Zh Zv (Zh Zv (Zb 0) (Zj 0)) (Zh2 (Zb 1) (Zj 1) (Zj 1))) (Zh2 (Zb 1) (pUn Zb9 (Zj 1)) (Zj 1))) (Ze (Zh Zv (Zb 1) (Zj 0)) Zm)))) ZX) (ZF (Zh Zv (Zr Ziz (Ze (Zb 1) (Ze (Zr Ziw (Ze (Zb 0) Zm)) Zm))) (Zj 1))))
def ZdZ:=ZY 2 Zny
theorem Zhm: SimF false Ze9 ZdZ:=SimF.of (show S [] [] [] false Znx Zny from(Zz (Z6 (ZO (ZG ZtJ (Zf (Zc 1) Zo))) (ZQ (ZG Zgc (Zf (ZC ZB (ZC ZB (ZC ZB (Zc 0) (Zl _)) (E.index (Zc 1) (Zl _) (Zl _))) (E.index (Zc 1) (Zcq Zcr (Zl _)) (Zl _))) (Zf (ZC ZB (Zc 1) (Zl _)) Zo)))) Z4) (ZQ (ZC ZB (ZG Zub (Zf (Zc 1) (Zf (ZG ZtY (Zf (Zc 0) Zo)) Zo))) (Zl _)))))
def ZmE: Sm:=ZD (ZaB (ZbA (Za 0)) (put1 100) Zaw (Zg Za9 (Za 100) (Za 1)))
def ZdV:=ZT 2 ZmE
def ZmF: PS:=(ZF (Zax (Zbm (Zb 0)) (Zam 100) Zaq (Zh ZaY (Zb 100) (Zb 1))))
def Zdz:=ZY 2 ZmF
theorem Ze2: SimF false ZdV Zdz:=SimF.of (show S [] [] [] false ZmE ZmF from(ZQ (Zb3 (Gs.seq (Zc 0)) PutOk.one (by decide) ZaH (Zac Zbz (Zc 100) (Zc 1)))))
def Zpl: Sm:=ZD (Zq Ze1 (Zd (Zq Ze9 (Zd (Za 0) (Zd (Zq ZdV (Zd (Za 1) (Zd (eUn Zb7 (Zk 1)) Zn))) Zn))) (Zd (eUn Zb7 (Zk 1)) Zn)))
def ZjZ:=ZT 2 Zpl
def Zpm: PS:=(ZF (Zr Zer (Ze (Zr ZdZ (Ze (Zb 0) (Ze (Zr Zdz (Ze (Zb 1) (Ze (pUn Zb9 (Zj 1)) Zm))) Zm))) (Ze (pUn Zb9 (Zj 1)) Zm))))
def Zfr:=ZY 2 Zpm
theorem Zsj: SimF false ZjZ Zfr:=SimF.of (show S [] [] [] false Zpl Zpm from(ZQ (ZG Zhd (Zf (ZG Zhm (Zf (Zc 0) (Zf (ZG Ze2 (Zf (Zc 1) (Zf (Zcq Zcr (Zl _)) Zo))) Zo))) (Zf (Zcq Zcr (Zl _)) Zo)))))
def ZmG: Sm:=ZD (Zg Zae (Zg Zu (Za 0) (Zk 0)) (Zq Zih (Zd (ZaB (Za1 (Zd (Zq ZaJ (Zd (Za 1) Zn)) Zn)) (put1 100) Zaw (Zg Za9 (Zg Zu (Za 0) (Zg Zae (Za 100) (Zk 1))) (Zg Zu (Za 1) (Za 100)))) Zn)))
def Zf6:=ZT 2 ZmG
def ZmH: PS:=(ZF (Zh Zab (Zh Zv (Zb 0) (Zj 0)) (Zr ZkM (Ze (Zax (ZaN (Ze (Zr Zaz (Ze (Zb 1) Zm)) Zm)) (Zam 100) Zaq (Zh ZaY (Zh Zv (Zb 0) (Zh Zab (Zb 100) (Zj 1))) (Zh Zv (Zb 1) (Zb 100)))) Zm))))
def ZcF:=ZY 2 ZmH
theorem ZiU: SimF false Zf6 ZcF:=SimF.of (show S [] [] [] false ZmG ZmH from(ZQ (Zac Zah (ZC ZB (Zc 0) (Zl _)) (ZaD ZAG (Zf (Zb3 (Gs.range (Zf (ZaD ZaW (Zf (Zc 1) Zo)) Zo)) PutOk.one (by decide) ZaH (Zac Zbz (ZC ZB (Zc 0) (Zac Zah (Zc 100) (Zl _))) (ZC ZB (Zc 1) (Zc 100)))) Zo)))))
def Znz: Sm:=ZD (ZaB (Zdb (Za 0) (Za 1)) (ZbY 100 101) Zaw (Zg Zae (Za 100) (Za 101)))
def ZnA:=ZT 2 Znz
def ZnB: PS:=(ZF (Zax (Zdc (Zb 0) (Zb 1)) (Zcs 100 101) Zaq (Zh Zab (Zb 100) (Zb 101))))
def Zjh:=ZY 2 ZnB
theorem Zvz: SimF false ZnA Zjh:=SimF.of (show S [] [] [] false Znz ZnB from(ZQ (Zb3 (Gs.zip (Zc 0) (Zc 1)) PutOk.two (by decide) ZaH (Zac Zah (Zc 100) (Zc 101)))))
def ZnC: Sm:=ZD (Zq ZnA (Zd (Za 0) (Zd (Zq ZdV (Zd (Za 1) (Zd (eUn Zb7 (Zk 1)) Zn))) Zn)))
def Zgf:=ZT 2 ZnC
def ZnD: PS:=(ZF (Zr Zjh (Ze (Zb 0) (Ze (Zr Zdz (Ze (Zb 1) (Ze (pUn Zb9 (Zj 1)) Zm))) Zm))))
def Zfa:=ZY 2 ZnD
theorem Zji: SimF false Zgf Zfa:=SimF.of (show S [] [] [] false ZnC ZnD from(ZQ (ZG Zvz (Zf (Zc 0) (Zf (ZG Ze2 (Zf (Zc 1) (Zf (Zcq Zcr (Zl _)) Zo))) Zo)))))
def Zl7: Sm:=ZD (ZaB (ZbA (Za 2)) (put1 100) Zaw (Zq Ze9 (Zd (Za 0) (Zd (Zq Zgf (Zd (Za 1) (Zd (Za 100) Zn))) Zn))))
def Zl8:=ZT 3 Zl7
def Zl9: PS:=(ZF (Zax (Zbm (Zb 2)) (Zam 100) Zaq (Zr ZdZ (Ze (Zb 0) (Ze (Zr Zfa (Ze (Zb 1) (Ze (Zb 100) Zm))) Zm)))))
def ZiI:=ZY 3 Zl9
theorem Zuz: SimF false Zl8 ZiI:=SimF.of (show S [] [] [] false Zl7 Zl9 from(ZQ (Zb3 (Gs.seq (Zc 2)) PutOk.one (by decide) ZaH (ZG Zhm (Zf (Zc 0) (Zf (ZG Zji (Zf (Zc 1) (Zf (Zc 100) Zo))) Zo))))))
def Zog: Sm:=ZD (ZaB (Za1 (Zd (Zg Zae (Za 1) (Zk 1)) Zn)) (put1 100) Zaw (eIf (ZbO (ZK (Zg oGt (Za 0) (Zk 0))) (ZbO (ZK (Zg oEq (Za 100) (Za 0))) Zaw)) (Zk 1) (Zk 0)))
def Zd1:=ZT 2 Zog
def Zoh: PS:=(ZF (Zax (ZaN (Ze (Zh Zab (Zb 1) (Zj 1)) Zm)) (Zam 100) Zaq (pIf (ZbQ (ZL (Zh qGt (Zb 0) (Zj 0))) (ZbQ (ZL (Zh qEq (Zb 100) (Zb 0))) Zaq)) (Zj 1) (Zj 0))))
def Zde:=ZY 2 Zoh
theorem Zfe: SimF false Zd1 Zde:=SimF.of (show S [] [] [] false Zog Zoh from(ZQ (Zb3 (Gs.range (Zf (Zac Zah (Zc 1) (Zl _)) Zo)) PutOk.one (by decide) ZaH (ZeQ (Zco (ZO (ZE ZfR (Zc 0) (Zl _))) (Zco (ZO (ZE Zau (Zc 100) (Zc 0))) ZaH)) (E.sh (Zl _)) (E.sh (Zl _))))))
def ZoM: Sm:=Zt (ZU (ZK (Zg oIs (Za 0) (Zaa))) (ZD (Zaa)) ZW) (Zt (ZN 2 (Zg Zae (Za0 (Zd (Zq Zd1 (Zd (Zk 0) (Zd (Zq ZaJ (Zd (Zg Zu (Za 0) (Zk 1)) Zn)) Zn))) Zn)) (Za 1))) (Zt (ZN 3 (ZaB (ZbA (Za 2)) (put1 100) Zaw (Zq Zl8 (Zd (Za 0) (Zd (Za 100) (Zd (Za 2) Zn)))))) (Zt (ZN 4 (ZaB (ZbA (Za 1)) (put1 102) Zaw (Zq Zeu (Zd (Za 102) (Zd (Zg Zu (Za 0) (Zk 1)) Zn))))) (ZD (Zq Zd5 (Zd (Zak (Zd (Za 3) (Zd (Za 4) Zn))) Zn))))))
def ZhJ:=ZT 2 ZoM
def ZjG: PS:=(Zw (ZV (ZL (Zh qIs (Zb 0) (Zad))) (ZF (Zad)) ZX) (Zw (ZR 2 (Zh Zab (ZaU (Ze (Zr Zde (Ze (Zj 0) (Ze (Zr Zaz (Ze (Zh Zv (Zb 0) (Zj 1)) Zm)) Zm))) Zm)) (Zb 1))) (Zw (ZR 3 (Zax (Zbm (Zb 2)) (Zam 100) Zaq (Zr ZiI (Ze (Zb 0) (Ze (Zb 100) (Ze (Zb 2) Zm)))))) (Zw (ZR 4 (Zax (Zbm (Zb 1)) (Zam 102) Zaq (Zr ZdB (Ze (Zb 102) (Ze (Zh Zv (Zb 0) (Zj 1)) Zm))))) (ZF (Zr ZaK (Ze (Zan (Ze (Zb 3) (Ze (Zb 4) Zm))) Zm)))))))
def ZcG:=ZY 2 ZjG
theorem ZoN: SimF true ZhJ ZcG:=SimF.of (show S [] [] [] true ZoM ZjG from(Zz (Z6 (ZO (ZE ZbR (Zc 0) (Zag))) (Zas (Zag)) Z4) (Zz (Z5 (O':=[]) (Zac Zah (E.list (Zf (ZG Zfe (Zf (Zl _) (Zf (ZaD ZaW (Zf (ZC ZB (Zc 0) (Zl _)) Zo)) Zo))) Zo)) (Zc 1))) (Zz (Z5 (O':=[]) (Zb3 (Gs.seq (Zc 2)) PutOk.one (by decide) ZaH (ZG Zuz (Zf (Zc 0) (Zf (Zc 100) (Zf (Zc 2) Zo)))))) (Zz (Z5 (O':=[]) (Zb3 (Gs.seq (Zc 1)) PutOk.one (by decide) ZaH (ZG Zgd (Zf (Zc 102) (Zf (ZC ZB (Zc 0) (Zl _)) Zo))))) (Zas (ZaE Zfq (Zf (E.tup (Zf (Zc 3) (Zf (Zc 4) Zo))) Zo))))))))
def Zma: Sm:=ZD (Zq Zet (Zd (Zq Ze9 (Zd (Za 0) (Zd (Zq Zgf (Zd (Za 1) (Zd (Za 2) Zn))) Zn))) (Zd (Za 3) Zn)))
def ZiJ:=ZT 4 Zma
def Zmb: PS:=(ZF (Zr ZdY (Ze (Zr ZdZ (Ze (Zb 0) (Ze (Zr Zfa (Ze (Zb 1) (Ze (Zb 2) Zm))) Zm))) (Ze (Zb 3) Zm))))
def Zg6:=ZY 4 Zmb
theorem ZqE: SimF false ZiJ Zg6:=SimF.of (show S [] [] [] false Zma Zmb from(ZQ (ZG Zgc (Zf (ZG Zhm (Zf (Zc 0) (Zf (ZG Zji (Zf (Zc 1) (Zf (Zc 2) Zo))) Zo))) (Zf (Zc 3) Zo)))))
def ZiC: Sm:=Zt (ZN 4 (Zq ZaJ (Zd (Zg Zu (Za 1) (Zk 1)) Zn))) (ZaX (Za1 (Zd (Zg Zae (Za 4) (Zk 1)) Zn)) (put1 5) (ZaX (Za1 (Zd (Zg Zae (Za 4) (Zk 1)) Zn)) (put1 6) (Zt (ZN 7 (Zq Zgf (Zd (Zq Zd1 (Zd (Za 5) (Zd (Za 4) Zn))) (Zd (Zq Zd1 (Zd (Za 6) (Zd (Za 4) Zn))) Zn)))) (Zb8 (Zq Zge (Zd (Za 0) (Zd (Za 5) (Zd (Za 6) (Zd (Zq ZiJ (Zd (Za 1) (Zd (Za 7) (Zd (Za 2) (Zd (Za 3) Zn))))) Zn)))))))))
def ZlL:=ZT 4 ZiC
def ZlM: PS:=(Zw (ZR 4 (Zr Zaz (Ze (Zh Zv (Zb 1) (Zj 1)) Zm))) (Za2 (ZaN (Ze (Zh Zab (Zb 4) (Zj 1)) Zm)) (Zam 5) (Za2 (ZaN (Ze (Zh Zab (Zb 4) (Zj 1)) Zm)) (Zam 6) (Zw (ZR 7 (Zr Zfa (Ze (Zr Zde (Ze (Zb 5) (Ze (Zb 4) Zm))) (Ze (Zr Zde (Ze (Zb 6) (Ze (Zb 4) Zm))) Zm)))) (ZdO 0 Ze8 (Ze (Zb 5) (Ze (Zb 6) (Ze (Zr Zg6 (Ze (Zb 1) (Ze (Zb 7) (Ze (Zb 2) (Ze (Zb 3) Zm))))) Zm))))))))
def ZiD:=Zdv 4 ZlM
theorem Zue: SimM ZlL ZiD:=SimM.of (show S [0] [0] [0] false ZiC ZlM from(Zz (Z5 (O':=[0]) (ZaD ZaW (Zf (ZC ZB (Zc 1) (Zl _)) Zo))) (ZbL (Gs.range (Zf (Zac Zah (Zc 4) (Zl _)) Zo)) PutOk.one (by decide) (by decide) (ZbL (Gs.range (Zf (Zac Zah (Zc 4) (Zl _)) Zo)) PutOk.one (by decide) (by decide) (Zz (Z5 (O':=[0]) (ZG Zji (Zf (ZG Zfe (Zf (Zc 5) (Zf (Zc 4) Zo))) (Zf (ZG Zfe (Zf (Zc 6) (Zf (Zc 4) Zo))) Zo)))) (Zfz (O':=[0]) (by decide) Zjg (Zf (Zc 5) (Zf (Zc 6) (Zf (ZG ZqE (Zf (Zc 1) (Zf (Zc 7) (Zf (Zc 2) (Zf (Zc 3) Zo))))) Zo))) (by decide) (by decide))))))) (by decide) (by unfold ZiC;repeat' first | exact Keep0.next | exact Zgl | exact Keep0.ret | exact Keep0.put | apply Keep0.seq | apply Zgm | exact Keep0.set (by decide) | apply Zju (Zi7 (by decide)))
def Zmc: Sm:=Zt (ZU (ZK (Zg oIs (Za 0) (Zaa))) (ZD (Zaa)) ZW) (ZD (Zg oDiv (Za 0) (Za 1)))
def Zf1:=ZT 2 Zmc
def Zmd: PS:=(Zw (ZV (ZL (Zh qIs (Zb 0) (Zad))) (ZF (Zad)) ZX) (ZF (Zh Zcf (Zb 0) (Zb 1))))
def ZeY:=ZY 2 Zmd
theorem ZiK: SimF false Zf1 ZeY:=SimF.of (show S [] [] [] false Zmc Zmd from(Zz (Z6 (ZO (ZE ZbR (Zc 0) (Zag))) (ZQ (Zag)) Z4) (ZQ (ZE ZcY (Zc 0) (Zc 1)))))
def ZiE: Sm:=Zt (ZN 4 (Zq ZaJ (Zd (Zg Zu (Za 1) (Zk 1)) Zn))) (ZaX (Za1 (Zd (Zk 1) (Zd (Zg Zae (Za 4) (Zk 1)) Zn))) (put1 5) (Zt (ZN 6 (Zg Zu (Za 2) (Za 5))) (Zt (ZN 7 (Zq ZiJ (Zd (Za 1) (Zd (Zq ZdV (Zd (Zq Zd1 (Zd (Za 5) (Zd (Za 4) Zn))) (Zd (Za 6) Zn))) (Zd (Za 2) (Zd (Za 3) Zn)))))) (Zt (ZU (ZK (Zg oGt (Za 6) (Zk 0))) (Zb8 (Zq Zge (Zd (Za 0) (Zd (Za 5) (Zd (Zk 0) (Zd (Zq Zf1 (Zd (Za 7) (Zd (Za 6) Zn))) Zn)))))) ZW) (ZU (ZK (Zg oLt (Za 6) (Zk 0))) (Zb8 (Zq Zge (Zd (Za 0) (Zd (Zk 0) (Zd (Za 5) (Zd (Zq Zf1 (Zd (Za 7) (Zd (eUn Zb7 (Za 6)) Zn))) Zn)))))) ZW)))))
def ZlN:=ZT 4 ZiE
def ZlO: PS:=(Zw (ZR 4 (Zr Zaz (Ze (Zh Zv (Zb 1) (Zj 1)) Zm))) (Za2 (ZaN (Ze (Zj 1) (Ze (Zh Zab (Zb 4) (Zj 1)) Zm))) (Zam 5) (Zw (ZR 6 (Zh Zv (Zb 2) (Zb 5))) (Zw (ZR 7 (Zr Zg6 (Ze (Zb 1) (Ze (Zr Zdz (Ze (Zr Zde (Ze (Zb 5) (Ze (Zb 4) Zm))) (Ze (Zb 6) Zm))) (Ze (Zb 2) (Ze (Zb 3) Zm)))))) (Zw (ZV (ZL (Zh qGt (Zb 6) (Zj 0))) (ZdO 0 Ze8 (Ze (Zb 5) (Ze (Zj 0) (Ze (Zr ZeY (Ze (Zb 7) (Ze (Zb 6) Zm))) Zm)))) ZX) (ZV (ZL (Zh qLt (Zb 6) (Zj 0))) (ZdO 0 Ze8 (Ze (Zj 0) (Ze (Zb 5) (Ze (Zr ZeY (Ze (Zb 7) (Ze (pUn Zb9 (Zb 6)) Zm))) Zm)))) ZX))))))
def ZiF:=Zdv 4 ZlO
theorem Zuf: SimM ZlN ZiF:=SimM.of (show S [0] [0] [0] false ZiE ZlO from(Zz (Z5 (O':=[0]) (ZaD ZaW (Zf (ZC ZB (Zc 1) (Zl _)) Zo))) (ZbL (Gs.range (Zf (Zl _) (Zf (Zac Zah (Zc 4) (Zl _)) Zo))) PutOk.one (by decide) (by decide) (Zz (Z5 (O':=[0]) (ZC ZB (Zc 2) (Zc 5))) (Zz (Z5 (O':=[0]) (ZG ZqE (Zf (Zc 1) (Zf (ZG Ze2 (Zf (ZG Zfe (Zf (Zc 5) (Zf (Zc 4) Zo))) (Zf (Zc 6) Zo))) (Zf (Zc 2) (Zf (Zc 3) Zo)))))) (Zz (Z6 (ZO (ZE ZfR (Zc 6) (Zl _))) (Zfz (O':=[0]) (by decide) Zjg (Zf (Zc 5) (Zf (Zl _) (Zf (ZG ZiK (Zf (Zc 7) (Zf (Zc 6) Zo))) Zo))) (by decide) (by decide)) Z4) (Z6 (ZO (ZE ZdL (Zc 6) (Zl _))) (Zfz (O':=[0]) (by decide) Zjg (Zf (Zl _) (Zf (Zc 5) (Zf (ZG ZiK (Zf (Zc 7) (Zf (Zcq Zcr (Zc 6)) Zo))) Zo))) (by decide) (by decide)) Z4))))))) (by decide) (by unfold ZiE;repeat' first | exact Keep0.next | exact Zgl | exact Keep0.ret | exact Keep0.put | apply Keep0.seq | apply Zgm | exact Keep0.set (by decide) | apply Zju (Zi7 (by decide)))
def Zoi: Sm:=Zt (ZU (tOr (ZK (Zg oIs (Za 0) (Zaa))) (tOr (ZK (Zq Zn3 (Zd (Zq ZjZ (Zd (Za 0) (Zd (Za 1) Zn))) (Zd (Za 2) Zn)))) Zck)) (ZD (Zaa)) ZW) (Zt (ZN 3 (Zq Zgy (Zd (Zg Zu (Za 0) (Zk 0)) Zn))) (Zt (Zb8 (Zq ZlL (Zd (Za 3) (Zd (Za 0) (Zd (Za 1) (Zd (Za 2) Zn)))))) (Zt (Zb8 (Zq ZlN (Zd (Za 3) (Zd (Za 0) (Zd (Za 1) (Zd (Za 2) Zn)))))) (ZD (Zq Zd5 (Zd (Zak (Zd (Za 3) (Zd (Zg Zu (Za 0) (Zk 1)) Zn))) Zn))))))
def Zff:=ZT 3 Zoi
def Zhx: PS:=(Zw (ZV (bOr (ZL (Zh qIs (Zb 0) (Zad))) (bOr (ZL (Zr Zgo (Ze (Zr Zfr (Ze (Zb 0) (Ze (Zb 1) Zm))) (Ze (Zb 2) Zm)))) ZcB)) (ZF (Zad)) ZX) (Zw (ZR 3 (Zr ZeA (Ze (Zh Zv (Zb 0) (Zj 0)) Zm))) (Zw (ZdO 3 ZiD (Ze (Zb 0) (Ze (Zb 1) (Ze (Zb 2) Zm)))) (Zw (ZdO 3 ZiF (Ze (Zb 0) (Ze (Zb 1) (Ze (Zb 2) Zm)))) (ZF (Zr ZaK (Ze (Zan (Ze (Zb 3) (Ze (Zh Zv (Zb 0) (Zj 1)) Zm))) Zm)))))))
def Zb2:=ZY 3 Zhx
theorem Zhy: SimF true Zff Zb2:=SimF.of (show S [] [3] [] true Zoi Zhx from(Zz (Z6 (Za8 (ZO (ZE ZbR (Zc 0) (Zag))) (Za8 (ZO (ZG Zwn (Zf (ZG Zsj (Zf (Zc 0) (Zf (Zc 1) Zo))) (Zf (Zc 2) Zo)))) ZcP)) (Zas (Zag)) Z4) (Zz (Zcc (O':=[3]) (ZaE ZjY (Zf (ZC ZB (Zc 0) (Zl _)) Zo))) (Zz (Zfz (O':=[3]) (by decide) Zue (Zf (Zc 0) (Zf (Zc 1) (Zf (Zc 2) Zo))) (by decide) (by decide)) (Zz (Zfz (O':=[3]) (by decide) Zuf (Zf (Zc 0) (Zf (Zc 1) (Zf (Zc 2) Zo))) (by decide) (by decide)) (Zas (ZaE Zfq (Zf (E.tup (Zf (Zc 3) (Zf (ZC ZB (Zc 0) (Zl _)) Zo))) Zo))))))))
def Zme: Sm:=Zt (ZU (ZK (Za 2)) (ZD (Zq Zff (Zd (Za 0) (Zd (Za 1) (Zd (eUn Zb7 (Zk 1)) Zn))))) ZW) (ZD (Zq Zff (Zd (Za 0) (Zd (Zq ZdV (Zd (Za 1) (Zd (eUn Zb7 (Zk 1)) Zn))) (Zd (Zk 0) Zn)))))
def Zmf:=ZT 3 Zme
def ZiL: PS:=(Zw (ZV (ZL (Zb 2)) (ZF (Zr Zb2 (Ze (Zb 0) (Ze (Zb 1) (Ze (pUn Zb9 (Zj 1)) Zm))))) ZX) (ZF (Zr Zb2 (Ze (Zb 0) (Ze (Zr Zdz (Ze (Zb 1) (Ze (pUn Zb9 (Zj 1)) Zm))) (Ze (Zj 0) Zm))))))
def ZeZ:=ZY 3 ZiL
theorem ZuA: SimF true Zmf ZeZ:=SimF.of (show S [] [] [] true Zme ZiL from(Zz (Z6 (ZO (Zc 2)) (Zas (ZaE Zhy (Zf (Zc 0) (Zf (Zc 1) (Zf (Zcq Zcr (Zl _)) Zo))))) Z4) (Zas (ZaE Zhy (Zf (Zc 0) (Zf (ZG Ze2 (Zf (Zc 1) (Zf (Zcq Zcr (Zl _)) Zo))) (Zf (Zl _) Zo)))))))
def Zlb: Sm:=ZD (Zq ZeI (Zd (Zq Zgn (Zd (Zg Zu (Za 0) (Zk 0)) (Zd (Za 1) Zn))) (Zd (Zg Zu (Za 0) (Zk 1)) Zn)))
def Zis:=ZT 2 Zlb
def Zlc: PS:=(ZF (Zr Zea (Ze (Zr Zfd (Ze (Zh Zv (Zb 0) (Zj 0)) (Ze (Zb 1) Zm))) (Ze (Zh Zv (Zb 0) (Zj 1)) Zm))))
def ZgV:=ZY 2 Zlc
theorem Zqn: SimF false Zis ZgV:=SimF.of (show S [] [] [] false Zlb Zlc from(ZQ (ZG ZgF (Zf (ZG Zjv (Zf (ZC ZB (Zc 0) (Zl _)) (Zf (Zc 1) Zo))) (Zf (ZC ZB (Zc 0) (Zl _)) Zo)))))
def ZlP: Sm:=Zt (ZN 4 (Zg Zu (Za 1) (Za 3))) (Zt (ZN 5 (Zg Zu (Za 0) (Zg Zbk (Za 3) (Zk 1)))) (Zt (ZU (ZK (Zg oNe (Zq ZdK (Zd (Za 4) Zn)) (Zk 1))) (ZD (Za 5)) ZW) (Zt (ZN 6 (Zq Zgf (Zd (Za 1) (Zd (Zq ZdV (Zd (Zq Zd1 (Zd (Za 3) (Zd (Zq ZaJ (Zd (Za 0) Zn)) Zn))) (Zd (Za 4) Zn))) Zn)))) (ZD (Zq Zhl (Zd (Za 5) (Zd (Zq Zis (Zd (Zq Zg5 (Zd (Zq Zeu (Zd (Za 6) (Zd (Za 0) Zn))) (Zd (eUn Zb7 (Za 4)) Zn))) (Zd (Za 2) Zn))) Zn)))))))
def ZlQ:=ZT 4 ZlP
def ZlR: PS:=(Zw (ZR 4 (Zh Zv (Zb 1) (Zb 3))) (Zw (ZR 5 (Zh Zv (Zb 0) (Zh Zba (Zb 3) (Zj 1)))) (Zw (ZV (ZL (Zh qNe (Zr ZdN (Ze (Zb 4) Zm)) (Zj 1))) (ZF (Zb 5)) ZX) (Zw (ZR 6 (Zr Zfa (Ze (Zb 1) (Ze (Zr Zdz (Ze (Zr Zde (Ze (Zb 3) (Ze (Zr Zaz (Ze (Zb 0) Zm)) Zm))) (Ze (Zb 4) Zm))) Zm)))) (ZF (Zr Zgb (Ze (Zb 5) (Ze (Zr ZgV (Ze (Zr Zf0 (Ze (Zr ZdB (Ze (Zb 6) (Ze (Zb 0) Zm))) (Ze (pUn Zb9 (Zb 4)) Zm))) (Ze (Zb 2) Zm))) Zm))))))))
def Zg2:=ZY 4 ZlR
theorem Zug: SimF false ZlQ Zg2:=SimF.of (show S [] [] [] false ZlP ZlR from(Zz (Z5 (O':=[]) (ZC ZB (Zc 1) (Zc 3))) (Zz (Z5 (O':=[]) (ZC ZB (Zc 0) (ZE Zbr (Zc 3) (Zl _)))) (Zz (Z6 (ZO (ZE Zdu (ZaD ZfI (Zf (Zc 4) Zo)) (Zl _))) (ZQ (Zc 5)) Z4) (Zz (Z5 (O':=[]) (ZG Zji (Zf (Zc 1) (Zf (ZG Ze2 (Zf (ZG Zfe (Zf (Zc 3) (Zf (ZaD ZaW (Zf (Zc 0) Zo)) Zo))) (Zf (Zc 4) Zo))) Zo)))) (ZQ (ZG Znh (Zf (Zc 5) (Zf (ZG Zqn (Zf (ZG Zl3 (Zf (ZG Zgd (Zf (Zc 6) (Zf (Zc 0) Zo))) (Zf (Zcq Zcr (Zc 4)) Zo))) (Zf (Zc 2) Zo))) Zo)))))))))
def ZmI: Sm:=Zt (ZU (ZK (Zg oIs (Za 0) (Zaa))) (ZD (Zaa)) ZW) (Zt (ZN 3 (ZaB (Za1 (Zd (Zk 1) (Zd (Zq ZaJ (Zd (Za 1) Zn)) Zn))) (put1 100) Zaw (Zq ZlQ (Zd (Zg Zu (Za 0) (Zk 1)) (Zd (Za 1) (Zd (Za 2) (Zd (Za 100) Zn))))))) (Zt (ZU (ZK (Zg oIn (Zaa) (Za 3))) (ZD (Zaa)) ZW) (ZD (Zq Zd5 (Zd (Zak (Zd (Zg Zu (Za 0) (Zk 0)) (Zd (Za 3) Zn))) Zn)))))
def ZiV:=ZT 3 ZmI
def ZiW: PS:=(Zw (ZV (ZL (Zh qIs (Zb 0) (Zad))) (ZF (Zad)) ZX) (Zw (ZR 3 (Zax (ZaN (Ze (Zj 1) (Ze (Zr Zaz (Ze (Zb 1) Zm)) Zm))) (Zam 100) Zaq (Zr Zg2 (Ze (Zh Zv (Zb 0) (Zj 1)) (Ze (Zb 1) (Ze (Zb 2) (Ze (Zb 100) Zm))))))) (Zw (ZV (ZL (Zh qIn (Zad) (Zb 3))) (ZF (Zad)) ZX) (ZF (Zr ZaK (Ze (Zan (Ze (Zh Zv (Zb 0) (Zj 0)) (Ze (Zb 3) Zm))) Zm))))))
def Zdd:=ZY 3 ZiW
theorem ZqR: SimF true ZiV Zdd:=SimF.of (show S [] [] [] true ZmI ZiW from(Zz (Z6 (ZO (ZE ZbR (Zc 0) (Zag))) (Zas (Zag)) Z4) (Zz (Z5 (O':=[]) (Zb3 (Gs.range (Zf (Zl _) (Zf (ZaD ZaW (Zf (Zc 1) Zo)) Zo))) PutOk.one (by decide) ZaH (ZG Zug (Zf (ZC ZB (Zc 0) (Zl _)) (Zf (Zc 1) (Zf (Zc 2) (Zf (Zc 100) Zo))))))) (Zz (Z6 (ZO (ZE ZgR (Zag) (Zc 3))) (Zas (Zag)) Z4) (Zas (ZaE Zfq (Zf (E.tup (Zf (ZC ZB (Zc 0) (Zl _)) (Zf (Zc 3) Zo))) Zo)))))))
def ZmJ: Sm:=Zt (ZU (ZbX (ZK (Zq Ze6 (Zd (Zq Zis (Zd (Zq Zeu (Zd (Za 1) (Zd (Zg Zu (Za 0) (Zk 1)) Zn))) (Zd (Za 2) Zn))) (Zd (Zk 0) Zn))))) (ZD (Zaa)) ZW) (ZD (Zq ZiV (Zd (Za 0) (Zd (Za 1) (Zd (Za 2) Zn)))))
def ZiX:=ZT 3 ZmJ
def Zhe: PS:=(Zw (ZV (ZbZ (ZL (Zr Zes (Ze (Zr ZgV (Ze (Zr ZdB (Ze (Zb 1) (Ze (Zh Zv (Zb 0) (Zj 1)) Zm))) (Ze (Zb 2) Zm))) (Ze (Zj 0) Zm))))) (ZF (Zad)) ZX) (ZF (Zr Zdd (Ze (Zb 0) (Ze (Zb 1) (Ze (Zb 2) Zm))))))
def ZdW:=ZY 3 Zhe
theorem ZqS: SimF true ZiX ZdW:=SimF.of (show S [] [] [] true ZmJ Zhe from(Zz (Z6 (Zcn (ZO (ZG Zhk (Zf (ZG Zqn (Zf (ZG Zgd (Zf (Zc 1) (Zf (ZC ZB (Zc 0) (Zl _)) Zo))) (Zf (Zc 2) Zo))) (Zf (Zl _) Zo))))) (Zas (Zag)) Z4) (Zas (ZaE ZqR (Zf (Zc 0) (Zf (Zc 1) (Zf (Zc 2) Zo)))))))
def Zld: Sm:=Zt (ZU (ZK (Zq Zly (Zd (Zq Zeu (Zd (Za 1) (Zd (Zg Zu (Za 0) (Zk 1)) Zn))) (Zd (Zak (Zd (Za 2) (Zd (Zk 0) Zn))) Zn)))) (ZD (Zaa)) ZW) (Zt (ZU (ZK (Zg oEq (Za 2) (Zk 2))) (ZD (Zq ZiX (Zd (Za 0) (Zd (Zg Zae (Za0 (Zd (Zg Zae (Zg Zu (Za 1) (Zk 0)) (Zk 1)) Zn)) (Zeg (Za 1) 1)) (Zd (Zk 2) Zn))))) ZW) (ZD (Zq Zgy (Zd (Za 0) Zn))))
def Zle:=ZT 3 Zld
def ZfV: PS:=(Zw (ZV (ZL (Zr Ziy (Ze (Zr ZdB (Ze (Zb 1) (Ze (Zh Zv (Zb 0) (Zj 1)) Zm))) (Ze (Zan (Ze (Zb 2) (Ze (Zj 0) Zm))) Zm)))) (ZF (Zad)) ZX) (Zw (ZV (ZL (Zh qEq (Zb 2) (Zj 2))) (ZF (Zr ZdW (Ze (Zb 0) (Ze (Zh Zab (ZaU (Ze (Zh Zab (Zh Zv (Zb 1) (Zj 0)) (Zj 1)) Zm)) (ZeR (Zb 1) 1)) (Ze (Zj 2) Zm))))) ZX) (ZF (Zr ZeA (Ze (Zb 0) Zm)))))
def ZdS:=ZY 3 ZfV
theorem ZtK: SimF true Zle ZdS:=SimF.of (show S [] [] [] true Zld ZfV from(Zz (Z6 (ZO (ZG Zua (Zf (ZG Zgd (Zf (Zc 1) (Zf (ZC ZB (Zc 0) (Zl _)) Zo))) (Zf (E.tup (Zf (Zc 2) (Zf (Zl _) Zo))) Zo)))) (Zas (Zag)) Z4) (Zz (Z6 (ZO (ZE Zau (Zc 2) (Zl _))) (Zas (ZaE ZqS (Zf (Zc 0) (Zf (Zac Zah (E.list (Zf (Zac Zah (ZC ZB (Zc 1) (Zl _)) (Zl _)) Zo)) (Zke (Zc 1))) (Zf (Zl _) Zo))))) Z4) (Zas (ZaE ZjY (Zf (Zc 0) Zo))))))
def ZmK: Sm:=Zt (ZU (ZbX (ZK (Zq Ze6 (Zd (Zq Zeu (Zd (Za 1) (Zd (Zg Zu (Za 0) (Zk 1)) Zn))) (Zd (Zk 0) Zn))))) (ZD (Zaa)) ZW) (Zt (ZN 2 (Zq Zff (Zd (Zq Zff (Zd (Za 0) (Zd (Za 1) (Zd (Zk 0) Zn)))) (Zd (Zq ZdV (Zd (Za 1) (Zd (eUn Zb7 (Zk 1)) Zn))) (Zd (Zk 0) Zn))))) (ZD (Zq ZiV (Zd (Za 2) (Zd (Za 1) (Zd (Zk 0) Zn))))))
def ZmL:=ZT 2 ZmK
def ZmM: PS:=(Zw (ZV (ZbZ (ZL (Zr Zes (Ze (Zr ZdB (Ze (Zb 1) (Ze (Zh Zv (Zb 0) (Zj 1)) Zm))) (Ze (Zj 0) Zm))))) (ZF (Zad)) ZX) (Zw (ZR 2 (Zr Zb2 (Ze (Zr Zb2 (Ze (Zb 0) (Ze (Zb 1) (Ze (Zj 0) Zm)))) (Ze (Zr Zdz (Ze (Zb 1) (Ze (pUn Zb9 (Zj 1)) Zm))) (Ze (Zj 0) Zm))))) (ZF (Zr Zdd (Ze (Zb 2) (Ze (Zb 1) (Ze (Zj 0) Zm)))))))
def Zf7:=ZY 2 ZmM
theorem ZuS: SimF true ZmL Zf7:=SimF.of (show S [] [] [] true ZmK ZmM from(Zz (Z6 (Zcn (ZO (ZG Zhk (Zf (ZG Zgd (Zf (Zc 1) (Zf (ZC ZB (Zc 0) (Zl _)) Zo))) (Zf (Zl _) Zo))))) (Zas (Zag)) Z4) (Zz (Z5 (O':=[]) (ZG Zhy (Zf (ZG Zhy (Zf (Zc 0) (Zf (Zc 1) (Zf (Zl _) Zo)))) (Zf (ZG Ze2 (Zf (Zc 1) (Zf (Zcq Zcr (Zl _)) Zo))) (Zf (Zl _) Zo))))) (Zas (ZaE ZqR (Zf (Zc 2) (Zf (Zc 1) (Zf (Zl _) Zo))))))))
def ZnE: Sm:=Zt (ZU (ZbO (ZK (Zg ZcT (Za 0) (Zaa))) (ZbO (ZK (Zq ZiR (Zd (Zq Ze9 (Zd (Za 0) (Zd (Za 1) Zn))) (Zd (Zk 0) Zn)))) Zaw)) (ZD (Zq Zff (Zd (Za 0) (Zd (Za 1) (Zd (eUn Zb7 (Zk 1)) Zn))))) ZW) (ZD (Za 0))
def Zjj:=ZT 2 ZnE
def Zgg: PS:=(Zw (ZV (ZbQ (ZL (Zh Zb4 (Zb 0) (Zad))) (ZbQ (ZL (Zr Zha (Ze (Zr ZdZ (Ze (Zb 0) (Ze (Zb 1) Zm))) (Ze (Zj 0) Zm)))) Zaq)) (ZF (Zr Zb2 (Ze (Zb 0) (Ze (Zb 1) (Ze (pUn Zb9 (Zj 1)) Zm))))) ZX) (ZF (Zb 0)))
def Zc4:=ZY 2 Zgg
theorem Zq8: SimF false Zjj Zc4:=SimF.of (show S [] [] [] false ZnE Zgg from(Zz (Z6 (Zco (ZO (ZE Zdi (Zc 0) (Zag))) (Zco (ZO (ZG ZqP (Zf (ZG Zhm (Zf (Zc 0) (Zf (Zc 1) Zo))) (Zf (Zl _) Zo)))) ZaH)) (ZQ (ZG Zhy (Zf (Zc 0) (Zf (Zc 1) (Zf (Zcq Zcr (Zl _)) Zo))))) Z4) (ZQ (Zc 0))))
def Zlf: Sm:=ZD (Zq Zgy (Zd (Zq Zjj (Zd (Zq Zjj (Zd (Za 0) (Zd (Za 1) Zn))) (Zd (Zq ZdV (Zd (Za 1) (Zd (eUn Zb7 (Zk 1)) Zn))) Zn))) Zn))
def Zlg:=ZT 2 Zlf
def Zlh: PS:=(ZF (Zr ZeA (Ze (Zr Zc4 (Ze (Zr Zc4 (Ze (Zb 0) (Ze (Zb 1) Zm))) (Ze (Zr Zdz (Ze (Zb 1) (Ze (pUn Zb9 (Zj 1)) Zm))) Zm))) Zm)))
def ZfW:=ZY 2 Zlh
theorem ZtL: SimF true Zlg ZfW:=SimF.of (show S [] [] [] true Zlf Zlh from(Zas (ZaE ZjY (Zf (ZG Zq8 (Zf (ZG Zq8 (Zf (Zc 0) (Zf (Zc 1) Zo))) (Zf (ZG Ze2 (Zf (Zc 1) (Zf (Zcq Zcr (Zl _)) Zo))) Zo))) Zo))))
def ZpO: Sm:=Zt (ZU (ZK (Zg oIs (Za 0) (Zaa))) (ZD (Zaa)) ZW) (Zt (ZU (ZK (Zg oEq (Zg Zu (Za 1) (Zk 0)) (Zbe (Str.ofString "under")))) (ZD (Zq Zmf (Zd (Za 0) (Zd (Zg Zu (Za 1) (Zk 1)) (Zd (Za 2) Zn))))) ZW) (Zt (ZU (ZK (Zg oEq (Zg Zu (Za 1) (Zk 0)) (Zbe (Str.ofString "same")))) (ZD (eIf (ZK (Za 2)) (Zq ZmL (Zd (Za 0) (Zd (Zg Zu (Za 1) (Zk 1)) Zn))) (Zq Zlg (Zd (Za 0) (Zd (Zg Zu (Za 1) (Zk 1)) Zn))))) ZW) (ZD (eIf (ZK (Za 2)) (Zq ZiX (Zd (Za 0) (Zd (Zg Zu (Za 1) (Zk 1)) (Zd (Zg Zu (Za 1) (Zk 2)) Zn)))) (Zq Zle (Zd (Za 0) (Zd (Zg Zu (Za 1) (Zk 1)) (Zd (Zg Zu (Za 1) (Zk 2)) Zn))))))))
def ZpP:=ZT 3 ZpO
def Zh6: PS:=(Zw (ZV (ZL (Zh qIs (Zb 0) (Zad))) (ZF (Zad)) ZX) (Zw (ZV (ZL (Zh qEq (Zh Zv (Zb 1) (Zj 0)) (Zbl (Str.ofString "under")))) (ZF (Zr ZeZ (Ze (Zb 0) (Ze (Zh Zv (Zb 1) (Zj 1)) (Ze (Zb 2) Zm))))) ZX) (Zw (ZV (ZL (Zh qEq (Zh Zv (Zb 1) (Zj 0)) (Zbl (Str.ofString "same")))) (ZF (pIf (ZL (Zb 2)) (Zr Zf7 (Ze (Zb 0) (Ze (Zh Zv (Zb 1) (Zj 1)) Zm))) (Zr ZfW (Ze (Zb 0) (Ze (Zh Zv (Zb 1) (Zj 1)) Zm))))) ZX) (ZF (pIf (ZL (Zb 2)) (Zr ZdW (Ze (Zb 0) (Ze (Zh Zv (Zb 1) (Zj 1)) (Ze (Zh Zv (Zb 1) (Zj 2)) Zm)))) (Zr ZdS (Ze (Zb 0) (Ze (Zh Zv (Zb 1) (Zj 1)) (Ze (Zh Zv (Zb 1) (Zj 2)) Zm)))))))))
def Zdm:=ZY 3 Zh6
theorem ZAe: SimF true ZpP Zdm:=SimF.of (show S [] [] [] true ZpO Zh6 from(Zz (Z6 (ZO (ZE ZbR (Zc 0) (Zag))) (Zas (Zag)) Z4) (Zz (Z6 (ZO (ZE Zau (ZC ZB (Zc 1) (Zl _)) (E.str _))) (Zas (ZaE ZuA (Zf (Zc 0) (Zf (ZC ZB (Zc 1) (Zl _)) (Zf (Zc 2) Zo))))) Z4) (Zz (Z6 (ZO (ZE Zau (ZC ZB (Zc 1) (Zl _)) (E.str _))) (Zas (ZeQ (ZO (Zc 2)) (ZaE ZuS (Zf (Zc 0) (Zf (ZC ZB (Zc 1) (Zl _)) Zo))) (ZaE ZtL (Zf (Zc 0) (Zf (ZC ZB (Zc 1) (Zl _)) Zo))))) Z4) (Zas (ZeQ (ZO (Zc 2)) (ZaE ZqS (Zf (Zc 0) (Zf (ZC ZB (Zc 1) (Zl _)) (Zf (ZC ZB (Zc 1) (Zl _)) Zo)))) (ZaE ZtK (Zf (Zc 0) (Zf (ZC ZB (Zc 1) (Zl _)) (Zf (ZC ZB (Zc 1) (Zl _)) Zo))))))))))
def ZmN: Sm:=Zt (ZN 2 (Zq Zf6 (Zd (Zg Zu (Za 0) (Zk 1)) (Zd (Za 1) Zn)))) (Zt (ZU (ZK (Zg oEq (Zg Zu (Za 0) (Zk 0)) (Zbe (Str.ofString "under")))) (ZD (Zg oLt (Za 2) (Zk 0))) ZW) (Zt (ZU (ZK (Zg oEq (Zg Zu (Za 0) (Zk 0)) (Zbe (Str.ofString "same")))) (ZD (Zg oEq (Za 2) (Zk 0))) ZW) (ZD (Zg oEq (Zg oMod (Za 2) (Zg Zu (Za 0) (Zk 2))) (Zk 0)))))
def ZmO:=ZT 2 ZmN
def Zhf: PS:=(Zw (ZR 2 (Zr ZcF (Ze (Zh Zv (Zb 0) (Zj 1)) (Ze (Zb 1) Zm)))) (Zw (ZV (ZL (Zh qEq (Zh Zv (Zb 0) (Zj 0)) (Zbl (Str.ofString "under")))) (ZF (Zh qLt (Zb 2) (Zj 0))) ZX) (Zw (ZV (ZL (Zh qEq (Zh Zv (Zb 0) (Zj 0)) (Zbl (Str.ofString "same")))) (ZF (Zh qEq (Zb 2) (Zj 0))) ZX) (ZF (Zh qEq (Zh ZaL (Zb 2) (Zh Zv (Zb 0) (Zj 2))) (Zj 0))))))
def ZdA:=ZY 2 Zhf
theorem ZuT: SimF false ZmO ZdA:=SimF.of (show S [] [] [] false ZmN Zhf from(Zz (Z5 (O':=[]) (ZG ZiU (Zf (ZC ZB (Zc 0) (Zl _)) (Zf (Zc 1) Zo)))) (Zz (Z6 (ZO (ZE Zau (ZC ZB (Zc 0) (Zl _)) (E.str _))) (ZQ (ZE ZdL (Zc 2) (Zl _))) Z4) (Zz (Z6 (ZO (ZE Zau (ZC ZB (Zc 0) (Zl _)) (E.str _))) (ZQ (ZE Zau (Zc 2) (Zl _))) Z4) (ZQ (ZE Zau (ZE ZaV (Zc 2) (ZC ZB (Zc 0) (Zl _))) (Zl _)))))))
def Zpn: PS:=(ZF (Zh Zab (Zh Zab (Zc7 (Zb 0) Zdk (Zdl (Zh Zba (Zb 1) (Zj 1)))) (ZaU (Ze (Zb 2) Zm))) (Zc7 (Zb 0) (Zdl (Zb 1)) Zdk)))
def ZeB:=ZY 3 Zpn
theorem Zsk: SimF false ZfC ZeB:=SimF.of (show S [] [] [] false Zkp Zpn from(ZQ (Zac Zah (Zac Zah (Zgx (Zc 0) Pe.none (Pe.some (ZE Zbr (Zc 1) (Zl _)))) (E.list (Zf (Zc 2) Zo))) (Zgx (Zc 0) (Pe.some (Zc 1)) Pe.none))))
def ZnF: Sm:=ZD (ZaB (Za1 (Zd (Zk 1) (Zd (Zg Zae (Za 0) (Zk 1)) Zn))) (put1 100) Zaw (Zq Zd1 (Zd (Za 100) (Zd (Za 1) Zn))))
def Zhn:=ZT 2 ZnF
def ZnG: PS:=(ZF (Zax (ZaN (Ze (Zj 1) (Ze (Zh Zab (Zb 0) (Zj 1)) Zm))) (Zam 100) Zaq (Zr Zde (Ze (Zb 100) (Ze (Zb 1) Zm)))))
def Zfb:=ZY 2 ZnG
theorem ZnH: SimF false Zhn Zfb:=SimF.of (show S [] [] [] false ZnF ZnG from(ZQ (Zb3 (Gs.range (Zf (Zl _) (Zf (Zac Zah (Zc 0) (Zl _)) Zo))) PutOk.one (by decide) ZaH (ZG Zfe (Zf (Zc 100) (Zf (Zc 1) Zo))))))
def ZnI: Sm:=Zt (ZN 4 (Zq Zd5 (Zd (Za 0) Zn))) (Zt (ZU (tOr (ZK (Zg oIs (Za 4) (Zaa))) (tOr (ZK (Zg oIs (Za 3) (Zaa))) Zck)) (ZD (Zaa)) ZW) (Zt (ZN 5 (Zq ZaJ (Zd (Zg Zu (Za 4) (Zk 1)) Zn))) (Zt (ZN 6 (Zg Zae (Zg Zae (Za 5) (Zq ZaJ (Zd (Za 2) Zn))) (Zk 1))) (Zt (ZN 7 (Zq ZhJ (Zd (Za 4) (Zd (Zg Zae (Zq Zhn (Zd (Za 5) (Zd (Za 5) Zn))) (Za 2)) Zn)))) (Zt (ZU (ZK (Zg oIs (Za 7) (Zaa))) (ZD (Zaa)) ZW) (Zt (ZN 8 (Zq Zd5 (Zd (Zq Zob (Zd (Zq Zn8 (Zd (Za 7) (Zd (Zk 1) Zn))) (Zd (Zq Zh3 (Zd (Zg Zae (Za 5) (Zk 1)) (Zd (Zg Zae (Za 6) (Zk 1)) Zn))) (Zd (Za 3) Zn)))) Zn))) (ZD (Zq ZhJ (Zd (Za 8) (Zd (Zq ZfC (Zd (Zq Zhn (Zd (Za 5) (Zd (Za 6) Zn))) (Zd (Za 1) (Zd (Zq Zd1 (Zd (Za 6) (Zd (Za 6) Zn))) Zn)))) Zn))))))))))
def ZnJ:=ZT 4 ZnI
def ZnK: PS:=(Zw (ZR 4 (Zr ZaK (Ze (Zb 0) Zm))) (Zw (ZV (bOr (ZL (Zh qIs (Zb 4) (Zad))) (bOr (ZL (Zh qIs (Zb 3) (Zad))) ZcB)) (ZF (Zad)) ZX) (Zw (ZR 5 (Zr Zaz (Ze (Zh Zv (Zb 4) (Zj 1)) Zm))) (Zw (ZR 6 (Zh Zab (Zh Zab (Zb 5) (Zr Zaz (Ze (Zb 2) Zm))) (Zj 1))) (Zw (ZR 7 (Zr ZcG (Ze (Zb 4) (Ze (Zh Zab (Zr Zfb (Ze (Zb 5) (Ze (Zb 5) Zm))) (Zb 2)) Zm)))) (Zw (ZV (ZL (Zh qIs (Zb 7) (Zad))) (ZF (Zad)) ZX) (Zw (ZR 8 (Zr ZaK (Ze (Zr Zhv (Ze (Zr Zhu (Ze (Zb 7) (Ze (Zj 1) Zm))) (Ze (Zr Zh4 (Ze (Zh Zab (Zb 5) (Zj 1)) (Ze (Zh Zab (Zb 6) (Zj 1)) Zm))) (Ze (Zb 3) Zm)))) Zm))) (ZF (Zr ZcG (Ze (Zb 8) (Ze (Zr ZeB (Ze (Zr Zfb (Ze (Zb 5) (Ze (Zb 6) Zm))) (Ze (Zb 1) (Ze (Zr Zde (Ze (Zb 6) (Ze (Zb 6) Zm))) Zm)))) Zm)))))))))))
def Zev:=ZY 4 ZnK
theorem ZvA: SimF true ZnJ Zev:=SimF.of (show S [] [] [] true ZnI ZnK from(Zz (Z5 (O':=[]) (ZG Zfq (Zf (Zc 0) Zo))) (Zz (Z6 (Za8 (ZO (ZE ZbR (Zc 4) (Zag))) (Za8 (ZO (ZE ZbR (Zc 3) (Zag))) ZcP)) (Zas (Zag)) Z4) (Zz (Z5 (O':=[]) (ZaD ZaW (Zf (ZC ZB (Zc 4) (Zl _)) Zo))) (Zz (Z5 (O':=[]) (Zac Zah (Zac Zah (Zc 5) (ZaD ZaW (Zf (Zc 2) Zo))) (Zl _))) (Zz (Z5 (O':=[]) (ZG ZoN (Zf (Zc 4) (Zf (Zac Zah (ZG ZnH (Zf (Zc 5) (Zf (Zc 5) Zo))) (Zc 2)) Zo)))) (Zz (Z6 (ZO (ZE ZbR (Zc 7) (Zag))) (Zas (Zag)) Z4) (Zz (Z5 (O':=[]) (ZG Zfq (Zf (ZG Zwq (Zf (ZG Zwp (Zf (Zc 7) (Zf (Zl _) Zo))) (Zf (ZjQ ZyB (Zf (Zac Zah (Zc 5) (Zl _)) (Zf (Zac Zah (Zc 6) (Zl _)) Zo))) (Zf (Zc 3) Zo)))) Zo))) (Zas (ZaE ZoN (Zf (Zc 8) (Zf (ZG Zsk (Zf (ZG ZnH (Zf (Zc 5) (Zf (Zc 6) Zo))) (Zf (Zc 1) (Zf (ZG Zfe (Zf (Zc 6) (Zf (Zc 6) Zo))) Zo)))) Zo))))))))))))
def Zoj: Sm:=ZD (Zg Zae (Zg Zae (ZdF (Za 0) Zee (Zef (Zg Zbk (Za 1) (Zk 1)))) (Za0 (Zd (Za 2) Zn))) (ZdF (Za 0) (Zef (Za 1)) Zee))
def Zfg:=ZT 3 Zoj
def Zok: PS:=(ZF (Zh Zab (Zh Zab (Zc7 (Zb 0) Zdk (Zdl (Zh Zba (Zb 1) (Zj 1)))) (ZaU (Ze (Zb 2) Zm))) (Zc7 (Zb 0) (Zdl (Zb 1)) Zdk)))
def Zdf:=ZY 3 Zok
theorem Zhz: SimF false Zfg Zdf:=SimF.of (show S [] [] [] false Zoj Zok from(ZQ (Zac Zah (Zac Zah (Zgx (Zc 0) Pe.none (Pe.some (ZE Zbr (Zc 1) (Zl _)))) (E.list (Zf (Zc 2) Zo))) (Zgx (Zc 0) (Pe.some (Zc 1)) Pe.none))))
def ZkS: Sm:=ZD (Zak (Zd (Zq Zf1 (Zd (Zg Zu (Za 0) (Zk 0)) (Zd (Za 1) Zn))) (Zd (Zq Zf1 (Zd (Zg Zu (Za 0) (Zk 1)) (Zd (Za 1) Zn))) Zn)))
def Zin:=ZT 2 ZkS
def ZkT: PS:=(ZF (Zan (Ze (Zr ZeY (Ze (Zh Zv (Zb 0) (Zj 0)) (Ze (Zb 1) Zm))) (Ze (Zr ZeY (Ze (Zh Zv (Zb 0) (Zj 1)) (Ze (Zb 1) Zm))) Zm))))
def ZfU:=ZY 2 ZkT
theorem Zqk: SimF false Zin ZfU:=SimF.of (show S [] [] [] false ZkS ZkT from(ZQ (E.tup (Zf (ZG ZiK (Zf (ZC ZB (Zc 0) (Zl _)) (Zf (Zc 1) Zo))) (Zf (ZG ZiK (Zf (ZC ZB (Zc 0) (Zl _)) (Zf (Zc 1) Zo))) Zo)))))
def ZkU: Sm:=Zt (ZN 2 (Zq Zin (Zd (Za 0) (Zd (Za 1) Zn)))) (Zt (ZU (ZbO (ZK (Zg ZcT (Zg Zu (Za 2) (Zk 0)) (Zaa))) (ZbO (ZK (Zg oEq (Zg Zu (Za 2) (Zk 0)) (Zg Zu (Za 2) (Zk 1)))) Zaw)) (ZD (Zak (Zd (Zg oMod (Zg Zu (Za 0) (Zk 0)) (Za 1)) (Zd (Zg oMod (Zg Zu (Za 0) (Zk 1)) (Za 1)) Zn)))) ZW) (ZD (Zak (Zd (Zk 0) (Zd (Zg Zbk (Za 1) (Zk 1)) Zn)))))
def ZkV:=ZT 2 ZkU
def ZkW: PS:=(Zw (ZR 2 (Zr ZfU (Ze (Zb 0) (Ze (Zb 1) Zm)))) (Zw (ZV (ZbQ (ZL (Zh Zb4 (Zh Zv (Zb 2) (Zj 0)) (Zad))) (ZbQ (ZL (Zh qEq (Zh Zv (Zb 2) (Zj 0)) (Zh Zv (Zb 2) (Zj 1)))) Zaq)) (ZF (Zan (Ze (Zh ZaL (Zh Zv (Zb 0) (Zj 0)) (Zb 1)) (Ze (Zh ZaL (Zh Zv (Zb 0) (Zj 1)) (Zb 1)) Zm)))) ZX) (ZF (Zan (Ze (Zj 0) (Ze (Zh Zba (Zb 1) (Zj 1)) Zm))))))
def ZgU:=ZY 2 ZkW
theorem Ztz: SimF false ZkV ZgU:=SimF.of (show S [] [] [] false ZkU ZkW from(Zz (Z5 (O':=[]) (ZG Zqk (Zf (Zc 0) (Zf (Zc 1) Zo)))) (Zz (Z6 (Zco (ZO (ZE Zdi (ZC ZB (Zc 2) (Zl _)) (Zag))) (Zco (ZO (ZE Zau (ZC ZB (Zc 2) (Zl _)) (ZC ZB (Zc 2) (Zl _)))) ZaH)) (ZQ (E.tup (Zf (ZE ZaV (ZC ZB (Zc 0) (Zl _)) (Zc 1)) (Zf (ZE ZaV (ZC ZB (Zc 0) (Zl _)) (Zc 1)) Zo)))) Z4) (ZQ (E.tup (Zf (Zl _) (Zf (ZE Zbr (Zc 1) (Zl _)) Zo)))))))
def ZlS: Sm:=Zt (ZN 2 (Zq Zgn (Zd (Zg Zu (Za 0) (Zk 0)) (Zd (Za 1) Zn)))) (Zt (ZU (ZK (Zg oEq (Za 2) (Za 1))) (ZD (Zak (Zd (Zk 0) (Zd (Zg oMod (Zg Zu (Za 0) (Zk 1)) (Za 1)) Zn)))) ZW) (ZD (Zq ZeI (Zd (Za 2) (Zd (Zg Zu (Za 0) (Zk 1)) Zn)))))
def ZlT:=ZT 2 ZlS
def ZlU: PS:=(Zw (ZR 2 (Zr Zfd (Ze (Zh Zv (Zb 0) (Zj 0)) (Ze (Zb 1) Zm)))) (Zw (ZV (ZL (Zh qEq (Zb 2) (Zb 1))) (ZF (Zan (Ze (Zj 0) (Ze (Zh ZaL (Zh Zv (Zb 0) (Zj 1)) (Zb 1)) Zm)))) ZX) (ZF (Zr Zea (Ze (Zb 2) (Ze (Zh Zv (Zb 0) (Zj 1)) Zm))))))
def Zg3:=ZY 2 ZlU
theorem Zuh: SimF false ZlT Zg3:=SimF.of (show S [] [] [] false ZlS ZlU from(Zz (Z5 (O':=[]) (ZG Zjv (Zf (ZC ZB (Zc 0) (Zl _)) (Zf (Zc 1) Zo)))) (Zz (Z6 (ZO (ZE Zau (Zc 2) (Zc 1))) (ZQ (E.tup (Zf (Zl _) (Zf (ZE ZaV (ZC ZB (Zc 0) (Zl _)) (Zc 1)) Zo)))) Z4) (ZQ (ZG ZgF (Zf (Zc 2) (Zf (ZC ZB (Zc 0) (Zl _)) Zo)))))))
def ZlV: Sm:=Zt (ZU (ZK (Zg oEq (Zg oMod (Zg Zu (Za 0) (Zk 0)) (Za 1)) (Zk 0))) (ZD (Zq ZeI (Zd (Zg oDiv (Zg Zu (Za 0) (Zk 0)) (Za 1)) (Zd (Zg oDiv (Zg Zu (Za 0) (Zk 1)) (Za 1)) Zn)))) ZW) (ZD (Zak (Zd (Zk 1) (Zd (Zk 0) Zn))))
def ZlW:=ZT 2 ZlV
def ZlX: PS:=(Zw (ZV (ZL (Zh qEq (Zh ZaL (Zh Zv (Zb 0) (Zj 0)) (Zb 1)) (Zj 0))) (ZF (Zr Zea (Ze (Zh Zcf (Zh Zv (Zb 0) (Zj 0)) (Zb 1)) (Ze (Zh Zcf (Zh Zv (Zb 0) (Zj 1)) (Zb 1)) Zm)))) ZX) (ZF (Zan (Ze (Zj 1) (Ze (Zj 0) Zm)))))
def Zg4:=ZY 2 ZlX
theorem Zui: SimF false ZlW Zg4:=SimF.of (show S [] [] [] false ZlV ZlX from(Zz (Z6 (ZO (ZE Zau (ZE ZaV (ZC ZB (Zc 0) (Zl _)) (Zc 1)) (Zl _))) (ZQ (ZG ZgF (Zf (ZE ZcY (ZC ZB (Zc 0) (Zl _)) (Zc 1)) (Zf (ZE ZcY (ZC ZB (Zc 0) (Zl _)) (Zc 1)) Zo)))) Z4) (ZQ (E.tup (Zf (Zl _) (Zf (Zl _) Zo))))))
def Zol: Sm:=Zt (ZU (ZK (Zg oEq (Zg Zu (Za 1) (Zk 0)) (Zbe (Str.ofString "set")))) (Zt (ZN 2 (Zq ZaJ (Zd (Zg Zu (Za 0) (Zk 1)) Zn))) (ZD (Zq ZhJ (Zd (Za 0) (Zd (Zq ZfC (Zd (Zq Zhn (Zd (Za 2) (Zd (Za 2) Zn))) (Zd (Zg Zu (Za 1) (Zk 1)) (Zd (Zg Zu (Za 1) (Zk 2)) Zn)))) Zn))))) ZW) (Zt (ZU (ZK (Zg oEq (Zg Zu (Za 1) (Zk 0)) (Zbe (Str.ofString "any")))) (ZD (Zq Zh5 (Zd (Za 0) (Zd (Zg Zu (Za 1) (Zk 1)) (Zd (Zak (Zd (Zg Zu (Za 1) (Zk 2)) (Zd (Zg Zu (Za 1) (Zk 3)) Zn))) (Zd (Zak (Zd (Zk 1) (Zd (Zk 0) Zn))) Zn)))))) ZW) (Zt (ZN 3 (Zak (Zd (Zq ZjZ (Zd (Za 0) (Zd (Zg Zu (Za 1) (Zk 2)) Zn))) (Zd (Zq Ze9 (Zd (Za 0) (Zd (Zg Zu (Za 1) (Zk 2)) Zn))) Zn)))) (Zt (ZN 4 (Zq Zeu (Zd (Zg Zu (Za 1) (Zk 2)) (Zd (Zg Zu (Za 0) (Zk 1)) Zn)))) (Zt (ZU (ZK (Zg oEq (Zg Zu (Za 1) (Zk 0)) (Zbe (Str.ofString "part")))) (ZD (Zq Zh5 (Zd (Za 0) (Zd (Zg Zu (Za 1) (Zk 1)) (Zd (Zq Zin (Zd (Za 3) (Zd (Zg Zu (Za 1) (Zk 3)) Zn))) (Zd (Zq ZlW (Zd (Za 4) (Zd (Zg Zu (Za 1) (Zk 3)) Zn))) Zn)))))) ZW) (ZD (Zq Zh5 (Zd (Za 0) (Zd (Zg Zu (Za 1) (Zk 1)) (Zd (Zq ZkV (Zd (Za 3) (Zd (Zg Zu (Za 1) (Zk 3)) Zn))) (Zd (Zq ZlT (Zd (Za 4) (Zd (Zg Zu (Za 1) (Zk 3)) Zn))) Zn))))))))))
def Zom:=ZT 2 Zol
def ZhA: PS:=(Zw (ZV (ZL (Zh qEq (Zh Zv (Zb 1) (Zj 0)) (Zbl (Str.ofString "set")))) (Zw (ZR 2 (Zr Zaz (Ze (Zh Zv (Zb 0) (Zj 1)) Zm))) (ZF (Zr ZcG (Ze (Zb 0) (Ze (Zr ZeB (Ze (Zr Zfb (Ze (Zb 2) (Ze (Zb 2) Zm))) (Ze (Zh Zv (Zb 1) (Zj 1)) (Ze (Zh Zv (Zb 1) (Zj 2)) Zm)))) Zm))))) ZX) (Zw (ZV (ZL (Zh qEq (Zh Zv (Zb 1) (Zj 0)) (Zbl (Str.ofString "any")))) (ZF (Zr Zeb (Ze (Zb 0) (Ze (Zh Zv (Zb 1) (Zj 1)) (Ze (Zan (Ze (Zh Zv (Zb 1) (Zj 2)) (Ze (Zh Zv (Zb 1) (Zj 3)) Zm))) (Ze (Zan (Ze (Zj 1) (Ze (Zj 0) Zm))) Zm)))))) ZX) (Zw (ZR 3 (Zan (Ze (Zr Zfr (Ze (Zb 0) (Ze (Zh Zv (Zb 1) (Zj 2)) Zm))) (Ze (Zr ZdZ (Ze (Zb 0) (Ze (Zh Zv (Zb 1) (Zj 2)) Zm))) Zm)))) (Zw (ZR 4 (Zr ZdB (Ze (Zh Zv (Zb 1) (Zj 2)) (Ze (Zh Zv (Zb 0) (Zj 1)) Zm)))) (Zw (ZV (ZL (Zh qEq (Zh Zv (Zb 1) (Zj 0)) (Zbl (Str.ofString "part")))) (ZF (Zr Zeb (Ze (Zb 0) (Ze (Zh Zv (Zb 1) (Zj 1)) (Ze (Zr ZfU (Ze (Zb 3) (Ze (Zh Zv (Zb 1) (Zj 3)) Zm))) (Ze (Zr Zg4 (Ze (Zb 4) (Ze (Zh Zv (Zb 1) (Zj 3)) Zm))) Zm)))))) ZX) (ZF (Zr Zeb (Ze (Zb 0) (Ze (Zh Zv (Zb 1) (Zj 1)) (Ze (Zr ZgU (Ze (Zb 3) (Ze (Zh Zv (Zb 1) (Zj 3)) Zm))) (Ze (Zr Zg3 (Ze (Zb 4) (Ze (Zh Zv (Zb 1) (Zj 3)) Zm))) Zm)))))))))))
def Zcx:=ZY 2 ZhA
theorem Zwr: SimF true Zom Zcx:=SimF.of (show S [] [] [] true Zol ZhA from(Zz (Z6 (ZO (ZE Zau (ZC ZB (Zc 1) (Zl _)) (E.str _))) (Zz (Z5 (O':=[]) (ZaD ZaW (Zf (ZC ZB (Zc 0) (Zl _)) Zo))) (Zas (ZaE ZoN (Zf (Zc 0) (Zf (ZG Zsk (Zf (ZG ZnH (Zf (Zc 2) (Zf (Zc 2) Zo))) (Zf (ZC ZB (Zc 1) (Zl _)) (Zf (ZC ZB (Zc 1) (Zl _)) Zo)))) Zo))))) Z4) (Zz (Z6 (ZO (ZE Zau (ZC ZB (Zc 1) (Zl _)) (E.str _))) (Zas (ZaE ZpN (Zf (Zc 0) (Zf (ZC ZB (Zc 1) (Zl _)) (Zf (E.tup (Zf (ZC ZB (Zc 1) (Zl _)) (Zf (ZC ZB (Zc 1) (Zl _)) Zo))) (Zf (E.tup (Zf (Zl _) (Zf (Zl _) Zo))) Zo)))))) Z4) (Zz (Z5 (O':=[]) (E.tup (Zf (ZG Zsj (Zf (Zc 0) (Zf (ZC ZB (Zc 1) (Zl _)) Zo))) (Zf (ZG Zhm (Zf (Zc 0) (Zf (ZC ZB (Zc 1) (Zl _)) Zo))) Zo)))) (Zz (Z5 (O':=[]) (ZG Zgd (Zf (ZC ZB (Zc 1) (Zl _)) (Zf (ZC ZB (Zc 0) (Zl _)) Zo)))) (Zz (Z6 (ZO (ZE Zau (ZC ZB (Zc 1) (Zl _)) (E.str _))) (Zas (ZaE ZpN (Zf (Zc 0) (Zf (ZC ZB (Zc 1) (Zl _)) (Zf (ZG Zqk (Zf (Zc 3) (Zf (ZC ZB (Zc 1) (Zl _)) Zo))) (Zf (ZG Zui (Zf (Zc 4) (Zf (ZC ZB (Zc 1) (Zl _)) Zo))) Zo)))))) Z4) (Zas (ZaE ZpN (Zf (Zc 0) (Zf (ZC ZB (Zc 1) (Zl _)) (Zf (ZG Ztz (Zf (Zc 3) (Zf (ZC ZB (Zc 1) (Zl _)) Zo))) (Zf (ZG Zuh (Zf (Zc 4) (Zf (ZC ZB (Zc 1) (Zl _)) Zo))) Zo))))))))))))
def Zon: Sm:=Zt (ZN 3 (Zq Zd5 (Zd (Za 0) Zn))) (Zt (ZU (tOr (ZK (Zg oIs (Za 3) (Zaa))) (tOr (ZK (Zg oIn (Zg Zu (Za 1) (Zk 0)) (Zak (Zd (Zbe (Str.ofString "go")) (Zd (Zbe (Str.ofString "say")) Zn))))) Zck)) (ZD (Za 3)) ZW) (Zt (ZU (ZK (Zg oEq (Zg Zu (Za 1) (Zk 0)) (Zbe (Str.ofString "when")))) (ZD (Zq ZpP (Zd (Za 3) (Zd (Zg Zu (Za 1) (Zk 1)) (Zd (Zg Zu (Za 1) (Zk 2)) Zn))))) ZW) (Zt (ZU (ZK (Zg oEq (Zg Zu (Za 1) (Zk 0)) (Zbe (Str.ofString "call")))) (ZD (Zq ZnJ (Zd (Za 3) (Zd (Zg Zu (Za 1) (Zk 1)) (Zd (Zg Zu (Za 1) (Zk 3)) (Zd (Zg Zu (Za 2) (Zg Zu (Za 1) (Zk 2))) Zn)))))) ZW) (ZD (Zq Zom (Zd (Za 3) (Zd (Za 1) Zn)))))))
def Zoo:=ZT 3 Zon
def ZdC: PS:=(Zw (ZR 3 (Zr ZaK (Ze (Zb 0) Zm))) (Zw (ZV (bOr (ZL (Zh qIs (Zb 3) (Zad))) (bOr (ZL (Zh qIn (Zh Zv (Zb 1) (Zj 0)) (Zan (Ze (Zbl (Str.ofString "go")) (Ze (Zbl (Str.ofString "say")) Zm))))) ZcB)) (ZF (Zb 3)) ZX) (Zw (ZV (ZL (Zh qEq (Zh Zv (Zb 1) (Zj 0)) (Zbl (Str.ofString "when")))) (ZF (Zr Zdm (Ze (Zb 3) (Ze (Zh Zv (Zb 1) (Zj 1)) (Ze (Zh Zv (Zb 1) (Zj 2)) Zm))))) ZX) (Zw (ZV (ZL (Zh qEq (Zh Zv (Zb 1) (Zj 0)) (Zbl (Str.ofString "call")))) (ZF (Zr Zev (Ze (Zb 3) (Ze (Zh Zv (Zb 1) (Zj 1)) (Ze (Zh Zv (Zb 1) (Zj 3)) (Ze (Zh Zv (Zb 2) (Zh Zv (Zb 1) (Zj 2))) Zm)))))) ZX) (ZF (Zr Zcx (Ze (Zb 3) (Ze (Zb 1) Zm))))))))
def Zbb:=ZY 3 ZdC
theorem Zws: SimF true Zoo Zbb:=SimF.of (show S [] [3] [] true Zon ZdC from(Zz (Zcc (O':=[3]) (ZaE Zfq (Zf (Zc 0) Zo))) (Zz (Z6 (Za8 (ZO (ZE ZbR (Zc 3) (Zag))) (Za8 (ZO (ZE ZgR (ZC ZB (Zc 1) (Zl _)) (E.tup (Zf (E.str _) (Zf (E.str _) Zo))))) ZcP)) (Zas (E.own (by decide))) Z4) (Zz (Z6 (ZO (ZE Zau (ZC ZB (Zc 1) (Zl _)) (E.str _))) (Zas (ZaE ZAe (Zf (Zc 3) (Zf (ZC ZB (Zc 1) (Zl _)) (Zf (ZC ZB (Zc 1) (Zl _)) Zo))))) Z4) (Zz (Z6 (ZO (ZE Zau (ZC ZB (Zc 1) (Zl _)) (E.str _))) (Zas (ZaE ZvA (Zf (Zc 3) (Zf (ZC ZB (Zc 1) (Zl _)) (Zf (ZC ZB (Zc 1) (Zl _)) (Zf (ZC ZB (Zc 2) (ZC ZB (Zc 1) (Zl _))) Zo)))))) Z4) (Zas (ZaE Zwr (Zf (Zc 3) (Zf (Zc 1) Zo)))))))))
def Zf8: Sm:=Zt (ZaX (Za1 (Zd (Zq ZaJ (Zd (Za 1) Zn)) Zn)) (put1 2) (Zt (ZbP (Zg Zu (Za 1) (Za 2)) (Zg Zu (Zg Zu (Za 0) (Zk 0)) (Zg Zae (Za 2) (Zk 1))) (Zk 0)) (ZbP (eUn Zb7 (Zg Zu (Za 1) (Za 2))) (Zg Zu (Zg Zu (Za 0) (Zk 0)) (Zk 0)) (Zg Zae (Za 2) (Zk 1))))) (ZD (Za 0))
def ZiY:=ZT 2 Zf8
def ZmP: PS:=(Zw (Za2 (ZaN (Ze (Zr Zaz (Ze (Zb 1) Zm)) Zm)) (Zam 2) (Zw (Zbi 0 [] (ZbV (Zh Zv (Zb 1) (Zb 2))) (ZcU (ZcU ZaQ (Zj 0)) (Zh Zab (Zb 2) (Zj 1))) (Zj 0)) (Zbi 0 [] (pUn Zb9 (Zh Zv (Zb 1) (Zb 2))) (ZcU (ZcU ZaQ (Zj 0)) (Zj 0)) (Zh Zab (Zb 2) (Zj 1))))) (ZF (Zb 0)))
def ZiZ:=Zdv 2 ZmP
theorem ZuU: SimM ZiY ZiZ:=SimM.of (show S [0] [0] [0] false Zf8 ZmP from(Zz (ZbL (Gs.range (Zf (ZaD ZaW (Zf (Zc 1) Zo)) Zo)) PutOk.one (by decide) (by decide) (Zz (S.put (O':=[0]) (by decide) (Zbq (O':=[]) (E.flat (ZC ZB (Zc 1) (Zc 2)))) (Zfx (Zfx ZbS (Zl _)) (Zac Zah (Zc 2) (Zl _))) (Zl _) (by decide) (by decide)) (S.put (O':=[0]) (by decide) (Zbq (O':=[]) (Zcq Zcr (ZC ZB (Zc 1) (Zc 2)))) (Zfx (Zfx ZbS (Zl _)) (Zl _)) (Zac Zah (Zc 2) (Zl _)) (by decide) (by decide)))) (ZQ (Zc 0)))) (by decide) (by unfold Zf8;repeat' first | exact Keep0.next | exact Zgl | exact Keep0.ret | exact Keep0.put | apply Keep0.seq | apply Zgm | exact Keep0.set (by decide) | apply Zju (Zi7 (by decide)))
theorem ZuV: Back0 ZiY:=Back0.of (by unfold Zf8;repeat' first | exact End0.ret | exact NoRet.put | exact NoRet.set | apply Zwl | apply NoRet.seq | apply End0.seq) (by unfold Zf8;repeat' first | exact Keep0.next | exact Zgl | exact Keep0.ret | exact Keep0.put | apply Keep0.seq | apply Zgm | exact Keep0.set (by decide) | apply Zju (Zi7 (by decide)))
def ZmQ: Sm:=Zt (ZN 3 (Zq Zhw (Zd (Za 0) (Zd (Za 1) (Zd (Zq ZaJ (Zd (Za 2) Zn)) Zn))))) (Zt (ZN 4 (Zq Zb1 (Zd (Za 0) (Zd (Zg Zae (Za 1) (Zk 4)) (Zd (Zk 90) Zn))))) (Zt (ZU (ZK (Zg oGt (Zg oMod (Za 4) (Zk 5)) (Zk 0))) (ZbP (Zg Zbk (Zg Zae (Zg Zbk (Zg Zu (Za 3) (Zk 0)) (Zq Zf6 (Zd (Za 3) (Zd (Za 2) Zn)))) (Zg oMod (Za 4) (Zk 5))) (Zk 3)) (Za 3) (Zk 0)) ZW) (Zt (ZU (ZK (Zg oEq (Zg oMod (Zg oDiv (Za 4) (Zk 5)) (Zk 3)) (Zk 0))) (ZD (Zak (Zd (Zbe (Str.ofString "under")) (Zd (Za 3) Zn)))) ZW) (Zt (ZU (ZK (Zg oEq (Zg oMod (Zg oDiv (Za 4) (Zk 5)) (Zk 3)) (Zk 1))) (ZD (Zak (Zd (Zbe (Str.ofString "same")) (Zd (Za 3) Zn)))) ZW) (ZD (Zak (Zd (Zbe (Str.ofString "even")) (Zd (Za 3) (Zd (Zg Zae (Zk 1) (Zg oDiv (Za 4) (Zk 15))) Zn)))))))))
def ZmR:=ZT 3 ZmQ
def ZmS: PS:=(Zw (ZR 3 (Zr Zgq (Ze (Zb 0) (Ze (Zb 1) (Ze (Zr Zaz (Ze (Zb 2) Zm)) Zm))))) (Zw (ZR 4 (Zr ZbB (Ze (Zb 0) (Ze (Zh Zab (Zb 1) (Zj 4)) (Ze (Zj 90) Zm))))) (Zw (ZV (ZL (Zh qGt (Zh ZaL (Zb 4) (Zj 5)) (Zj 0))) (Zbi 3 [] (Zh Zba (Zh Zab (Zh Zba (Zh Zv (Zb 3) (Zj 0)) (Zr ZcF (Ze (Zb 3) (Ze (Zb 2) Zm)))) (Zh ZaL (Zb 4) (Zj 5))) (Zj 3)) ZaQ (Zj 0)) ZX) (Zw (ZV (ZL (Zh qEq (Zh ZaL (Zh Zcf (Zb 4) (Zj 5)) (Zj 3)) (Zj 0))) (ZF (Zan (Ze (Zbl (Str.ofString "under")) (Ze (Zb 3) Zm)))) ZX) (Zw (ZV (ZL (Zh qEq (Zh ZaL (Zh Zcf (Zb 4) (Zj 5)) (Zj 3)) (Zj 1))) (ZF (Zan (Ze (Zbl (Str.ofString "same")) (Ze (Zb 3) Zm)))) ZX) (ZF (Zan (Ze (Zbl (Str.ofString "even")) (Ze (Zb 3) (Ze (Zh Zab (Zj 1) (Zh Zcf (Zb 4) (Zj 15))) Zm))))))))))
def Zi0:=ZY 3 ZmS
theorem ZuW: SimF false ZmR Zi0:=SimF.of (show S [] [3] [] false ZmQ ZmS from(Zz (Zcc (O':=[3]) (ZaE Zof (Zf (Zc 0) (Zf (Zc 1) (Zf (ZaD ZaW (Zf (Zc 2) Zo)) Zo))))) (Zz (Z5 (O':=[3]) (ZG Zci (Zf (Zc 0) (Zf (Zac Zah (Zc 1) (Zl _)) (Zf (Zl _) Zo))))) (Zz (Z6 (ZO (ZE ZfR (ZE ZaV (Zc 4) (Zl _)) (Zl _))) (S.put (O':=[3]) (by decide) (Zbq (O':=[]) (ZE Zbr (Zac Zah (ZE Zbr (ZC ZB (Zc 3) (Zl _)) (ZG ZiU (Zf (Zc 3) (Zf (Zc 2) Zo)))) (ZE ZaV (Zc 4) (Zl _))) (Zl _))) ZbS (Zl _) (by decide) (by decide)) Z4) (Zz (Z6 (ZO (ZE Zau (ZE ZaV (ZE ZcY (Zc 4) (Zl _)) (Zl _)) (Zl _))) (ZQ (E.tup (Zf (E.str _) (Zf (Zc 3) Zo)))) Z4) (Zz (Z6 (ZO (ZE Zau (ZE ZaV (ZE ZcY (Zc 4) (Zl _)) (Zl _)) (Zl _))) (ZQ (E.tup (Zf (E.str _) (Zf (Zc 3) Zo)))) Z4) (ZQ (E.tup (Zf (E.str _) (Zf (Zc 3) (Zf (Zac Zah (Zl _) (ZE ZcY (Zc 4) (Zl _))) Zo)))))))))))
def ZnL: Sm:=Zt (ZN 3 (Zq Zhw (Zd (Za 0) (Zd (Zk 7) (Zd (Zq ZaJ (Zd (Za 1) Zn)) Zn))))) (Zt (ZN 4 (Zg Zae (Zk 1) (Zq Zb1 (Zd (Za 0) (Zd (Zk 12) (Zd (Zk 6) Zn)))))) (Zt (ZU (ZK (Zg oEq (Zq Zb1 (Zd (Za 0) (Zd (Zk 13) (Zd (Zk 3) Zn)))) (Zk 1))) (ZN 4 (Zq Zkw (Zd (Zk 1) (Zd (Zq ZdK (Zd (Zq Zep (Zd (Za 0) (Zd (Zk 12) Zn))) Zn)) Zn)))) ZW) (Zt (ZN 5 (Zq Zf6 (Zd (Za 3) (Zd (Za 1) Zn)))) (Zt (ZN 6 (Zq Zb1 (Zd (Za 0) (Zd (Zk 5) (Zd (Zk 5) Zn))))) (Zt (ZU (ZK (Zg oEq (Za 6) (Zk 0))) (ZD (Zak (Zd (Zak (Zd (Zbe (Str.ofString "any")) (Zd (Za 2) (Zd (Zg Zu (Za 3) (Zk 0)) (Zd (Zg Zu (Za 3) (Zk 0)) Zn))))) (Zd (Zq Zfg (Zd (Za 1) (Zd (Za 2) (Zd (Zg Zu (Za 3) (Zk 0)) Zn)))) Zn)))) ZW) (Zt (ZU (ZK (Zg oEq (Za 6) (Zk 1))) (ZD (Zak (Zd (Zak (Zd (Zbe (Str.ofString "part")) (Zd (Za 2) (Zd (Za 3) (Zd (Za 4) Zn))))) (Zd (Zq Zfg (Zd (Za 1) (Zd (Za 2) (Zd (Zg oDiv (Za 5) (Za 4)) Zn)))) Zn)))) ZW) (Zt (ZU (ZK (Zg oEq (Za 6) (Zk 2))) (ZD (Zak (Zd (Zak (Zd (Zbe (Str.ofString "rest")) (Zd (Za 2) (Zd (Za 3) (Zd (Za 4) Zn))))) (Zd (Zq Zfg (Zd (Za 1) (Zd (Za 2) (Zd (Zg oMod (Za 5) (Za 4)) Zn)))) Zn)))) ZW) (ZD (Zak (Zd (Zak (Zd (Zbe (Str.ofString "set")) (Zd (Za 2) (Zd (Za 3) Zn)))) (Zd (Zq Zfg (Zd (Za 1) (Zd (Za 2) (Zd (Za 5) Zn)))) Zn)))))))))))
def ZnM:=ZT 3 ZnL
def ZnN: PS:=(Zw (ZR 3 (Zr Zgq (Ze (Zb 0) (Ze (Zj 7) (Ze (Zr Zaz (Ze (Zb 1) Zm)) Zm))))) (Zw (ZR 4 (Zh Zab (Zj 1) (Zr ZbB (Ze (Zb 0) (Ze (Zj 12) (Ze (Zj 6) Zm)))))) (Zw (ZV (ZL (Zh qEq (Zr ZbB (Ze (Zb 0) (Ze (Zj 13) (Ze (Zj 3) Zm)))) (Zj 1))) (ZR 4 (Zr Zky (Ze (Zj 1) (Ze (Zr ZdN (Ze (Zr ZdU (Ze (Zb 0) (Ze (Zj 12) Zm))) Zm)) Zm)))) ZX) (Zw (ZR 5 (Zr ZcF (Ze (Zb 3) (Ze (Zb 1) Zm)))) (Zw (ZR 6 (Zr ZbB (Ze (Zb 0) (Ze (Zj 5) (Ze (Zj 5) Zm))))) (Zw (ZV (ZL (Zh qEq (Zb 6) (Zj 0))) (ZF (Zan (Ze (Zan (Ze (Zbl (Str.ofString "any")) (Ze (Zb 2) (Ze (Zh Zv (Zb 3) (Zj 0)) (Ze (Zh Zv (Zb 3) (Zj 0)) Zm))))) (Ze (Zr Zdf (Ze (Zb 1) (Ze (Zb 2) (Ze (Zh Zv (Zb 3) (Zj 0)) Zm)))) Zm)))) ZX) (Zw (ZV (ZL (Zh qEq (Zb 6) (Zj 1))) (ZF (Zan (Ze (Zan (Ze (Zbl (Str.ofString "part")) (Ze (Zb 2) (Ze (Zb 3) (Ze (Zb 4) Zm))))) (Ze (Zr Zdf (Ze (Zb 1) (Ze (Zb 2) (Ze (Zh Zcf (Zb 5) (Zb 4)) Zm)))) Zm)))) ZX) (Zw (ZV (ZL (Zh qEq (Zb 6) (Zj 2))) (ZF (Zan (Ze (Zan (Ze (Zbl (Str.ofString "rest")) (Ze (Zb 2) (Ze (Zb 3) (Ze (Zb 4) Zm))))) (Ze (Zr Zdf (Ze (Zb 1) (Ze (Zb 2) (Ze (Zh ZaL (Zb 5) (Zb 4)) Zm)))) Zm)))) ZX) (ZF (Zan (Ze (Zan (Ze (Zbl (Str.ofString "set")) (Ze (Zb 2) (Ze (Zb 3) Zm)))) (Ze (Zr Zdf (Ze (Zb 1) (Ze (Zb 2) (Ze (Zb 5) Zm)))) Zm))))))))))))
def Zjk:=ZY 3 ZnN
theorem ZvB: SimF false ZnM Zjk:=SimF.of (show S [] [] [] false ZnL ZnN from(Zz (Z5 (O':=[]) (ZG Zof (Zf (Zc 0) (Zf (Zl _) (Zf (ZaD ZaW (Zf (Zc 1) Zo)) Zo))))) (Zz (Z5 (O':=[]) (Zac Zah (Zl _) (ZG Zci (Zf (Zc 0) (Zf (Zl _) (Zf (Zl _) Zo)))))) (Zz (Z6 (ZO (ZE Zau (ZG Zci (Zf (Zc 0) (Zf (Zl _) (Zf (Zl _) Zo)))) (Zl _))) (Z5 (O':=[]) (ZaD Zzu (Zf (Zl _) (Zf (ZaD ZfI (Zf (ZG ZfZ (Zf (Zc 0) (Zf (Zl _) Zo))) Zo)) Zo)))) Z4) (Zz (Z5 (O':=[]) (ZG ZiU (Zf (Zc 3) (Zf (Zc 1) Zo)))) (Zz (Z5 (O':=[]) (ZG Zci (Zf (Zc 0) (Zf (Zl _) (Zf (Zl _) Zo))))) (Zz (Z6 (ZO (ZE Zau (Zc 6) (Zl _))) (ZQ (E.tup (Zf (E.tup (Zf (E.str _) (Zf (Zc 2) (Zf (ZC ZB (Zc 3) (Zl _)) (Zf (ZC ZB (Zc 3) (Zl _)) Zo))))) (Zf (ZG Zhz (Zf (Zc 1) (Zf (Zc 2) (Zf (ZC ZB (Zc 3) (Zl _)) Zo)))) Zo)))) Z4) (Zz (Z6 (ZO (ZE Zau (Zc 6) (Zl _))) (ZQ (E.tup (Zf (E.tup (Zf (E.str _) (Zf (Zc 2) (Zf (Zc 3) (Zf (Zc 4) Zo))))) (Zf (ZG Zhz (Zf (Zc 1) (Zf (Zc 2) (Zf (ZE ZcY (Zc 5) (Zc 4)) Zo)))) Zo)))) Z4) (Zz (Z6 (ZO (ZE Zau (Zc 6) (Zl _))) (ZQ (E.tup (Zf (E.tup (Zf (E.str _) (Zf (Zc 2) (Zf (Zc 3) (Zf (Zc 4) Zo))))) (Zf (ZG Zhz (Zf (Zc 1) (Zf (Zc 2) (Zf (ZE ZaV (Zc 5) (Zc 4)) Zo)))) Zo)))) Z4) (ZQ (E.tup (Zf (E.tup (Zf (E.str _) (Zf (Zc 2) (Zf (Zc 3) Zo)))) (Zf (ZG Zhz (Zf (Zc 1) (Zf (Zc 2) (Zf (Zc 5) Zo)))) Zo)))))))))))))
def ZmT: Sm:=Zt (ZN 1 (Zg Zae (Za0 (Zd (Zk 0) Zn)) (Za 0))) (Zt (ZN 2 (Za0 Zn)) (Zt (ZaX (ZbA (Za 1)) (put1 3) (Zb8 (Zfl (Za 2) (ZaB (ZbA (Za 1)) (put1 102) Zaw (Zg Zbk (Za 3) (Za 102)))))) (ZD (Zak (Zd (Za 2) (Zd (ZaB (ZbA (Za 0)) (put1 100) Zaw (Zak (Zd (Zk 0) (Zd (Za 100) Zn)))) Zn))))))
def Zi1:=ZT 1 ZmT
def ZmU: PS:=(Zw (ZR 1 (Zh Zab (ZaU (Ze (Zj 0) Zm)) (Zb 0))) (Zw (ZR 2 (ZaU Zm)) (Zw (Za2 (Zbm (Zb 1)) (Zam 3) (Zen 2 [] ZaQ (Zax (Zbm (Zb 1)) (Zam 102) Zaq (Zh Zba (Zb 3) (Zb 102))))) (ZF (Zan (Ze (Zb 2) (Ze (Zax (Zbm (Zb 0)) (Zam 100) Zaq (Zan (Ze (Zj 0) (Ze (Zb 100) Zm)))) Zm)))))))
def Zhg:=ZY 1 ZmU
theorem ZqT: SimF false Zi1 Zhg:=SimF.of (show S [] [2] [] false ZmT ZmU from(Zz (Z5 (O':=[]) (Zac Zah (E.list (Zf (Zl _) Zo)) (Zc 0))) (Zz (Zcc (O':=[2]) (E.list Zo)) (Zz (ZbL (Gs.seq (Zc 1)) PutOk.one (by decide) (by decide) (Zkz (O':=[2]) (by decide) ZbS (Zbq (O':=[]) (Zc5 (Gs.seq (Zc 1)) PutOk.one (by decide) ZaH (ZE Zbr (Zc 3) (Zc 102)))) (by decide) (by decide))) (ZQ (E.tup (Zf (Zc 2) (Zf (Zb3 (Gs.seq (Zc 0)) PutOk.one (by decide) ZaH (E.tup (Zf (Zl _) (Zf (Zc 100) Zo)))) Zo))))))))
def ZnO: Sm:=Zt (ZN 3 (ZaB (Za1 (Zd (Zg Zu (Za0 (Zd (Zk 0) (Zd (Zk 1) (Zd (Zk 1) (Zd (Zk 2) Zn))))) (Zq Zb1 (Zd (Za 0) (Zd (Zk 22) (Zd (Zk 4) Zn))))) Zn)) (put1 100) Zaw (Zq Zhw (Zd (Za 0) (Zd (Zg Zae (Zk 14) (Zg Za9 (Zk 4) (Za 100))) (Zd (Zq ZaJ (Zd (Za 1) Zn)) Zn)))))) (Zt (ZN 4 (ZaB (ZbA (Za 3)) (put1 102) Zaw (Zq Zf6 (Zd (Za 102) (Zd (Za 1) Zn))))) (Zt (ZN 5 (Zq Zep (Zd (Za 0) (Zd (Zk 23) Zn)))) (Zt (ZN 6 (Zq Zfg (Zd (Za 1) (Zd (Za 2) (Zd (Za 5) Zn))))) (Zt (ZU (ZbO (ZK (Zg oGt (Zq ZaJ (Zd (Za 3) Zn)) (Zk 0))) (ZbO (ZK (Zg oEq (Zq Zb1 (Zd (Za 0) (Zd (Zk 24) (Zd (Zk 4) Zn)))) (Zk 1))) Zaw)) (Zt (ZbP (Zg Zae (Zg Zu (Za 4) (Zk 0)) (Zk 1)) (Za 4) (Zk 0)) (ZN 6 (Zaa))) ZW) (ZD (Zak (Zd (Zak (Zd (Zbe (Str.ofString "call")) (Zd (Za 2) (Zd (Zk 1) (Zd (Za 3) Zn))))) (Zd (Za 6) (Zd (Za0 (Zd (Zaa) (Zd (Zq Zi1 (Zd (Zg Zae (Za 4) (Za0 (Zd (Za 5) Zn))) Zn)) Zn))) Zn)))))))))
def ZnP:=ZT 3 ZnO
def ZnQ: PS:=(Zw (ZR 3 (Zax (ZaN (Ze (Zh Zv (ZaU (Ze (Zj 0) (Ze (Zj 1) (Ze (Zj 1) (Ze (Zj 2) Zm))))) (Zr ZbB (Ze (Zb 0) (Ze (Zj 22) (Ze (Zj 4) Zm))))) Zm)) (Zam 100) Zaq (Zr Zgq (Ze (Zb 0) (Ze (Zh Zab (Zj 14) (Zh ZaY (Zj 4) (Zb 100))) (Ze (Zr Zaz (Ze (Zb 1) Zm)) Zm)))))) (Zw (ZR 4 (Zax (Zbm (Zb 3)) (Zam 102) Zaq (ZbV (Zr ZcF (Ze (Zb 102) (Ze (Zb 1) Zm)))))) (Zw (ZR 5 (Zr ZdU (Ze (Zb 0) (Ze (Zj 23) Zm)))) (Zw (ZR 6 (Zr Zdf (Ze (Zb 1) (Ze (Zb 2) (Ze (Zb 5) Zm))))) (Zw (ZV (ZbQ (ZL (Zh qGt (Zr Zaz (Ze (Zb 3) Zm)) (Zj 0))) (ZbQ (ZL (Zh qEq (Zr ZbB (Ze (Zb 0) (Ze (Zj 24) (Ze (Zj 4) Zm)))) (Zj 1))) Zaq)) (Zw (Zbi 4 [] (pFl (Zh Zab (Zh Zv (Zb 4) (Zj 0)) (Zj 1))) ZaQ (Zj 0)) (ZR 6 (Zad))) ZX) (ZF (Zan (Ze (Zan (Ze (Zbl (Str.ofString "call")) (Ze (Zb 2) (Ze (Zj 1) (Ze (Zb 3) Zm))))) (Ze (Zb 6) (Ze (ZaU (Ze (Zad) (Ze (Zr Zhg (Ze (Zh Zab (Zb 4) (ZaU (Ze (Zb 5) Zm))) Zm)) Zm))) Zm))))))))))
def Zjl:=ZY 3 ZnQ
theorem ZvC: SimF false ZnP Zjl:=SimF.of (show S [] [4] [] false ZnO ZnQ from(Zz (Z5 (O':=[]) (Zb3 (Gs.range (Zf (ZC ZB (E.list (Zf (Zl _) (Zf (Zl _) (Zf (Zl _) (Zf (Zl _) Zo))))) (ZG Zci (Zf (Zc 0) (Zf (Zl _) (Zf (Zl _) Zo))))) Zo)) PutOk.one (by decide) ZaH (ZG Zof (Zf (Zc 0) (Zf (Zac Zah (Zl _) (Zac Zbz (Zl _) (Zc 100))) (Zf (ZaD ZaW (Zf (Zc 1) Zo)) Zo)))))) (Zz (Zcc (O':=[4]) (Zc5 (Gs.seq (Zc 3)) PutOk.one (by decide) ZaH (E.flat (ZG ZiU (Zf (Zc 102) (Zf (Zc 1) Zo)))))) (Zz (Z5 (O':=[4]) (ZG ZfZ (Zf (Zc 0) (Zf (Zl _) Zo)))) (Zz (Z5 (O':=[4]) (ZG Zhz (Zf (Zc 1) (Zf (Zc 2) (Zf (Zc 5) Zo))))) (Zz (Z6 (Zco (ZO (ZE ZfR (ZaD ZaW (Zf (Zc 3) Zo)) (Zl _))) (Zco (ZO (ZE Zau (ZG Zci (Zf (Zc 0) (Zf (Zl _) (Zf (Zl _) Zo)))) (Zl _))) ZaH)) (Zz (S.put (O':=[4]) (by decide) (Zbq (O':=[]) (ZhX Zah (ZC ZB (Zc 4) (Zl _)) (Zl _))) ZbS (Zl _) (by decide) (by decide)) (Z5 (O':=[4]) (Zag))) Z4) (ZQ (E.tup (Zf (E.tup (Zf (E.str _) (Zf (Zc 2) (Zf (Zl _) (Zf (Zc 3) Zo))))) (Zf (Zc 6) (Zf (E.list (Zf (Zag) (Zf (ZG ZqT (Zf (Zac Zah (Zc 4) (E.list (Zf (Zc 5) Zo))) Zo)) Zo))) Zo)))))))))))
def Zli: Sm:=Zt (ZN 5 (Zaa)) (Zt (ZU (ZK (Zg ZcT (Za 4) (Zaa))) (ZN 5 (Zq Zi1 (Zd (Za 4) Zn))) ZW) (Zt (ZN 6 (Zq Znb (Zd (Za 1) Zn))) (ZD (Zda (Zq Znq (Zd (Zq Zoo (Zd (Za 1) (Zd (Za 2) (Zd (Za 3) Zn)))) (Zd (Za 5) Zn))) (Zg oEq (Za 1) (Za 6))))))
def ZeV:=ZT 5 Zli
def Zit: PS:=(Zw (ZR 5 (Zad)) (Zw (ZV (ZL (Zh Zb4 (Zb 4) (Zad))) (ZR 5 (Zr Zhg (Ze (Zb 4) Zm))) ZX) (Zw (ZR 6 (Zr Ze5 (Ze (Zb 1) Zm))) (ZF ((Zds (Zr Ze7 (Ze (Zr Zbb (Ze (Zb 1) (Ze (Zb 2) (Ze (Zb 3) Zm)))) (Ze (Zb 5) Zm))) (Zh qEq (Zb 1) (Zb 6))))))))
def Zcw:=ZY 5 Zit
theorem ZgW: SimF false ZeV Zcw:=SimF.of (show S [] [] [] false Zli Zit from(Zz (Z5 (O':=[]) (Zag)) (Zz (Z6 (ZO (ZE Zdi (Zc 4) (Zag))) (Z5 (O':=[]) (ZG ZqT (Zf (Zc 4) Zo))) Z4) (Zz (Z5 (O':=[]) (ZG Zvt (Zf (Zc 1) Zo))) (ZQ ((ZfG (E.sh (ZG Zvw (Zf (ZG Zws (Zf (Zc 1) (Zf (Zc 2) (Zf (Zc 3) Zo)))) (Zf (Zc 5) Zo)))) (E.sh (ZE Zau (Zc 1) (Zc 6))))))))))
def ZoO: Sm:=Zt (ZN 1 (Zg Zu (Za0 (Zd (Zk 1) (Zd (Zk 2) (Zd (Zk 1) (Zd (Zk 2) (Zd (Zk 1) (Zd (Zk 2) (Zd (Zk 1) (Zd (Zk 2) (Zd (Zk 3) Zn)))))))))) (Zq Zb1 (Zd (Za 0) (Zd (Zk 0) (Zd (Zk 9) Zn)))))) (Zt (ZN 2 (ZaB (Za1 (Zd (Za 1) Zn)) (put1 100) Zaw (Zq Zep (Zd (Za 0) (Zd (Zg Zae (Zk 1) (Za 100)) Zn))))) (Zt (ZN 3 (Zq ZiY (Zd (Zq Zm8 (Zd (Za 0) (Zd (Zk 30) (Zd (Za 2) Zn)))) (Zd (Za 2) Zn)))) (Zt (ZU (ZbX (ZK (Zq ZeV (Zd (Za 0) (Zd (Za 3) (Zd (Zak (Zd (Zbe (Str.ofString "go")) Zn)) (Zd (Za0 Zn) (Zd (Za 2) Zn)))))))) (ZD (ZbF false)) ZW) (Zt (ZN 4 (Zq ZmR (Zd (Za 0) (Zd (Zk 25) (Zd (Za 2) Zn))))) (Zt (ZU (ZbX (ZK (Zq ZeV (Zd (Za 0) (Zd (Za 3) (Zd (Zak (Zd (Zbe (Str.ofString "say")) (Zd (Za 4) Zn))) (Zd (Za0 Zn) (Zd (Za 2) Zn)))))))) (ZD (ZbF false)) ZW) (Zt (ZaX (ZbA (Za0 (Zd (ZbF true) (Zd (ZbF false) Zn)))) (put1 5) (Zt (ZN 6 (Zaa)) (Zt (ZU (ZK (Zg oEq (Zq ZmO (Zd (Za 4) (Zd (Za 2) Zn))) (Za 5))) (ZN 6 (Za 2)) ZW) (ZU (ZbX (ZK (Zq ZeV (Zd (Za 0) (Zd (Za 3) (Zd (Zak (Zd (Zbe (Str.ofString "when")) (Zd (Za 4) (Zd (Za 5) Zn)))) (Zd (Za0 Zn) (Zd (Za 6) Zn)))))))) (ZD (ZbF false)) ZW)))) (Zt (ZN 7 (Zg Zae (Zk 1) (Zq Zb1 (Zd (Za 0) (Zd (Zk 4) (Zd (Zq ZaJ (Zd (Za 2) Zn)) Zn)))))) (Zt (ZN 8 (Zq ZnM (Zd (Za 0) (Zd (Za 2) (Zd (Za 7) Zn))))) (Zt (ZN 9 (Zq ZnP (Zd (Za 0) (Zd (Za 2) (Zd (Za 7) Zn))))) (Zt (ZU (ZbX (ZK (Zq ZeV (Zd (Za 0) (Zd (Za 3) (Zd (Zg Zu (Za 8) (Zk 0)) (Zd (Za0 Zn) (Zd (Zg Zu (Za 8) (Zk 1)) Zn)))))))) (ZD (ZbF false)) ZW) (ZD (Zq ZeV (Zd (Za 0) (Zd (Za 3) (Zd (Zg Zu (Za 9) (Zk 0)) (Zd (Zg Zu (Za 9) (Zk 2)) (Zd (Zg Zu (Za 9) (Zk 1)) Zn)))))))))))))))))
def ZrJ:=ZT 1 ZoO
def ZoP: PS:=(Zw (ZR 1 (Zh Zv (ZaU (Ze (Zj 1) (Ze (Zj 2) (Ze (Zj 1) (Ze (Zj 2) (Ze (Zj 1) (Ze (Zj 2) (Ze (Zj 1) (Ze (Zj 2) (Ze (Zj 3) Zm)))))))))) (Zr ZbB (Ze (Zb 0) (Ze (Zj 0) (Ze (Zj 9) Zm)))))) (Zw (ZR 2 (Zax (ZaN (Ze (Zb 1) Zm)) (Zam 100) Zaq (Zr ZdU (Ze (Zb 0) (Ze (Zh Zab (Zj 1) (Zb 100)) Zm))))) (Zw (ZR 3 (Zr ZiZ (Ze (Zr Zi9 (Ze (Zb 0) (Ze (Zj 30) (Ze (Zb 2) Zm)))) (Ze (Zb 2) Zm)))) (Zw (ZV (ZbZ (ZL (Zr Zcw (Ze (Zb 0) (Ze (Zb 3) (Ze (Zan (Ze (Zbl (Str.ofString "go")) Zm)) (Ze (ZaU Zm) (Ze (Zb 2) Zm)))))))) (ZF (ZbU false)) ZX) (Zw (ZR 4 (Zr Zi0 (Ze (Zb 0) (Ze (Zj 25) (Ze (Zb 2) Zm))))) (Zw (ZV (ZbZ (ZL (Zr Zcw (Ze (Zb 0) (Ze (Zb 3) (Ze (Zan (Ze (Zbl (Str.ofString "say")) (Ze (Zb 4) Zm))) (Ze (ZaU Zm) (Ze (Zb 2) Zm)))))))) (ZF (ZbU false)) ZX) (Zw (Za2 (Zbm (ZaU (Ze (ZbU true) (Ze (ZbU false) Zm)))) (Zam 5) (Zw (ZR 6 (Zad)) (Zw (ZV (ZL (Zh qEq (Zr ZdA (Ze (Zb 4) (Ze (Zb 2) Zm))) (Zb 5))) (ZR 6 (Zb 2)) ZX) (ZV (ZbZ (ZL (Zr Zcw (Ze (Zb 0) (Ze (Zb 3) (Ze (Zan (Ze (Zbl (Str.ofString "when")) (Ze (Zb 4) (Ze (Zb 5) Zm)))) (Ze (ZaU Zm) (Ze (Zb 6) Zm)))))))) (ZF (ZbU false)) ZX)))) (Zw (ZR 7 (Zh Zab (Zj 1) (Zr ZbB (Ze (Zb 0) (Ze (Zj 4) (Ze (Zr Zaz (Ze (Zb 2) Zm)) Zm)))))) (Zw (ZR 8 (Zr Zjk (Ze (Zb 0) (Ze (Zb 2) (Ze (Zb 7) Zm))))) (Zw (ZR 9 (Zr Zjl (Ze (Zb 0) (Ze (Zb 2) (Ze (Zb 7) Zm))))) (Zw (ZV (ZbZ (ZL (Zr Zcw (Ze (Zb 0) (Ze (Zb 3) (Ze (Zh Zv (Zb 8) (Zj 0)) (Ze (ZaU Zm) (Ze (Zh Zv (Zb 8) (Zj 1)) Zm)))))))) (ZF (ZbU false)) ZX) (ZF (Zr Zcw (Ze (Zb 0) (Ze (Zb 3) (Ze (Zh Zv (Zb 9) (Zj 0)) (Ze (Zh Zv (Zb 9) (Zj 2)) (Ze (Zh Zv (Zb 9) (Zj 1)) Zm))))))))))))))))))
def ZoQ:=ZY 1 ZoP
theorem Zxn: SimF false ZrJ ZoQ:=SimF.of (show S [] [] [] false ZoO ZoP from(Zz (Z5 (O':=[]) (ZC ZB (E.list (Zf (Zl _) (Zf (Zl _) (Zf (Zl _) (Zf (Zl _) (Zf (Zl _) (Zf (Zl _) (Zf (Zl _) (Zf (Zl _) (Zf (Zl _) Zo)))))))))) (ZG Zci (Zf (Zc 0) (Zf (Zl _) (Zf (Zl _) Zo)))))) (Zz (Z5 (O':=[]) (Zb3 (Gs.range (Zf (Zc 1) Zo)) PutOk.one (by decide) ZaH (ZG ZfZ (Zf (Zc 0) (Zf (Zac Zah (Zl _) (Zc 100)) Zo))))) (Zz (Z5 (O':=[]) (ZAT ZuU ZuV (ZaE Zvs (Zf (Zc 0) (Zf (Zl _) (Zf (Zc 2) Zo)))) (Zf (Zc 2) Zo))) (Zz (Z6 (Zcn (ZO (ZG ZgW (Zf (Zc 0) (Zf (Zc 3) (Zf (E.tup (Zf (E.str _) Zo)) (Zf (E.list Zo) (Zf (Zc 2) Zo)))))))) (ZQ (E.bool _)) Z4) (Zz (Z5 (O':=[]) (ZG ZuW (Zf (Zc 0) (Zf (Zl _) (Zf (Zc 2) Zo))))) (Zz (Z6 (Zcn (ZO (ZG ZgW (Zf (Zc 0) (Zf (Zc 3) (Zf (E.tup (Zf (E.str _) (Zf (Zc 4) Zo))) (Zf (E.list Zo) (Zf (Zc 2) Zo)))))))) (ZQ (E.bool _)) Z4) (Zz (ZbL (Gs.seq (E.list (Zf (E.bool _) (Zf (E.bool _) Zo)))) PutOk.one (by decide) (by decide) (Zz (Z5 (O':=[]) (Zag)) (Zz (Z6 (ZO (ZE Zau (ZG ZuT (Zf (Zc 4) (Zf (Zc 2) Zo))) (Zc 5))) (Z5 (O':=[]) (Zc 2)) Z4) (Z6 (Zcn (ZO (ZG ZgW (Zf (Zc 0) (Zf (Zc 3) (Zf (E.tup (Zf (E.str _) (Zf (Zc 4) (Zf (Zc 5) Zo)))) (Zf (E.list Zo) (Zf (Zc 6) Zo)))))))) (ZQ (E.bool _)) Z4)))) (Zz (Z5 (O':=[]) (Zac Zah (Zl _) (ZG Zci (Zf (Zc 0) (Zf (Zl _) (Zf (ZaD ZaW (Zf (Zc 2) Zo)) Zo)))))) (Zz (Z5 (O':=[]) (ZG ZvB (Zf (Zc 0) (Zf (Zc 2) (Zf (Zc 7) Zo))))) (Zz (Z5 (O':=[]) (ZG ZvC (Zf (Zc 0) (Zf (Zc 2) (Zf (Zc 7) Zo))))) (Zz (Z6 (Zcn (ZO (ZG ZgW (Zf (Zc 0) (Zf (Zc 3) (Zf (ZC ZB (Zc 8) (Zl _)) (Zf (E.list Zo) (Zf (ZC ZB (Zc 8) (Zl _)) Zo)))))))) (ZQ (E.bool _)) Z4) (ZQ (ZG ZgW (Zf (Zc 0) (Zf (Zc 3) (Zf (ZC ZB (Zc 9) (Zl _)) (Zf (ZC ZB (Zc 9) (Zl _)) (Zf (ZC ZB (Zc 9) (Zl _)) Zo)))))))))))))))))))
end L
end
section
open PySem PySem.W PyProof.Rows PM TM My
local macro_rules | `(tactic| tm_at "r")=>`(tactic| assumption)
local macro_rules | `(tactic| tm_at "r")=>`(tactic| exact rfl)
local macro_rules | `(tactic| tm_at "r")=>`(tactic| ((with_reducible apply Zw8);decide;tm_at "r"))
local macro_rules | `(tactic| tm_at "r")=>`(tactic| ((with_reducible apply Zyr);decide;tm_at "r"))
local macro_rules | `(tactic| tm_at "r")=>`(tactic| with_reducible exact Zcb)
local macro_rules | `(tactic| tm_at "r")=>`(tactic| with_reducible assumption)
local macro_rules|`(tactic|walk_at "r")=>`(tactic|first | tm_at "r" | fail)
local macro_rules | `(tactic| tm_at "y")=>`(tactic| (simp only[Bool.not_eq_true',Bool.not_eq_false',decide_eq_true_eq,decide_eq_false_iff_not,beq_iff_eq,beq_eq_false_iff_ne,ne_eq,Bool.not_true,Bool.not_false,not_false_eq_true,not_true_eq_false,bne_iff_ne,Decidable.not_not,List.length_map] <;> first | done | omega | assumption))
local macro_rules | `(tactic| tm_at "y")=>`(tactic| (with_reducible assumption))
local macro_rules | `(tactic| tm_at "y")=>`(tactic| rfl)
local macro_rules|`(tactic|walk_at "y")=>`(tactic|first | tm_at "y" | fail)
local macro_rules | `(tactic| tm_at "f")=>`(tactic| exact Zhj fun i hi=>by(first | rfl | exact Zfp | exact Zfj))
local macro_rules | `(tactic| tm_at "f")=>`(tactic| exact Zfj)
local macro_rules | `(tactic| tm_at "f")=>`(tactic| exact Zfp)
local macro_rules | `(tactic| tm_at "f")=>`(tactic| rfl)
local macro_rules|`(tactic|walk_at "f")=>`(tactic|first | tm_at "f" | fail)
local macro_rules | `(tactic| tm_at "o")=>`(tactic| ((with_reducible apply ZzM);(first | decide | omega)))
local macro_rules | `(tactic| tm_at "o")=>`(tactic| with_reducible refine ZzV ?_)
local macro_rules | `(tactic| tm_at "o")=>`(tactic| with_reducible refine tk_all ?_)
local macro_rules | `(tactic| tm_at "o")=>`(tactic| with_reducible refine Zym ?_)
local macro_rules | `(tactic| tm_at "o")=>`(tactic| with_reducible refine tk_list1t ?_)
local macro_rules | `(tactic| tm_at "o")=>`(tactic| with_reducible refine Zw3 ?_)
local macro_rules | `(tactic| tm_at "o")=>`(tactic| ((with_reducible apply Zsc);omega))
local macro_rules | `(tactic| tm_at "o")=>`(tactic| ((with_reducible apply ZhR);(first | decide | omega);rfl))
local macro_rules | `(tactic| tm_at "o")=>`(tactic| ((with_reducible apply Zyl);(first | decide | omega);rfl))
local macro_rules | `(tactic| tm_at "o")=>`(tactic| ((with_reducible apply Zyk);(first | decide | omega);(first | decide | omega)))
local macro_rules | `(tactic| tm_at "o")=>`(tactic| ((with_reducible apply Zyj);(first | assumption | omega)))
local macro_rules | `(tactic| tm_at "o")=>`(tactic| with_reducible refine Zyi ?_)
local macro_rules | `(tactic| tm_at "o")=>`(tactic| with_reducible refine ZzU ?_)
local macro_rules | `(tactic| tm_at "o")=>`(tactic| with_reducible refine Zyh ?_)
local macro_rules | `(tactic| tm_at "o")=>`(tactic| with_reducible refine Zyg ?_)
local macro_rules | `(tactic| tm_at "o")=>`(tactic| with_reducible refine tk_notl ?_)
local macro_rules | `(tactic| tm_at "o")=>`(tactic| with_reducible refine Zyf ?_)
local macro_rules | `(tactic| tm_at "o")=>`(tactic| with_reducible refine Zye ?_)
local macro_rules | `(tactic| tm_at "o")=>`(tactic| with_reducible refine ZzT ?_)
local macro_rules | `(tactic| tm_at "o")=>`(tactic| with_reducible refine ZzS ?_)
local macro_rules | `(tactic| tm_at "o")=>`(tactic| with_reducible refine ZzR ?_)
local macro_rules | `(tactic| tm_at "o")=>`(tactic| with_reducible refine ZzQ ?_)
local macro_rules | `(tactic| tm_at "o")=>`(tactic| with_reducible refine tk_neb ?_)
local macro_rules | `(tactic| tm_at "o")=>`(tactic| with_reducible refine ZzP ?_)
local macro_rules | `(tactic| tm_at "o")=>`(tactic| with_reducible refine ZAR ?_)
local macro_rules | `(tactic| tm_at "o")=>`(tactic| with_reducible refine ZAQ ?_)
local macro_rules | `(tactic| tm_at "o")=>`(tactic| with_reducible refine tk_min ?_)
local macro_rules | `(tactic| tm_at "o")=>`(tactic| with_reducible refine ZzO ?_)
local macro_rules | `(tactic| tm_at "o")=>`(tactic| with_reducible refine ZzN ?_)
local macro_rules | `(tactic| tm_at "o")=>`(tactic| with_reducible refine tk_ge ?_)
local macro_rules | `(tactic| tm_at "o")=>`(tactic| with_reducible refine ZAP ?_)
local macro_rules | `(tactic| tm_at "o")=>`(tactic| with_reducible refine ZAO ?_)
local macro_rules | `(tactic| tm_at "o")=>`(tactic| with_reducible refine ZAN ?_)
local macro_rules | `(tactic| tm_at "o")=>`(tactic| with_reducible refine ZzL ?_)
local macro_rules | `(tactic| tm_at "o")=>`(tactic| with_reducible refine ZzK ?_)
local macro_rules | `(tactic| tm_at "o")=>`(tactic| with_reducible refine Zkg ?_)
local macro_rules|`(tactic|walk_at "o")=>`(tactic|first | tm_at "o" | fail)
local macro_rules | `(tactic| tm_at "1")=>`(tactic| tm_at "o")
local macro_rules | `(tactic| tm_at "1")=>`(tactic| ((with_reducible apply ZrF);tm_at "r";(first | assumption | omega);(first | assumption | omega)))
local macro_rules | `(tactic| tm_at "1")=>`(tactic| ((with_reducible apply Zw7);tm_at "r";(first | assumption | omega)))
local macro_rules | `(tactic| tm_at "1")=>`(tactic| ((with_reducible apply AppQ.of);tm_at "r";(first | (rw[Zap];omega) | (simp;done))))
local macro_rules | `(tactic| tm_at "1")=>`(tactic| ((with_reducible apply AppP.of);tm_at "r";(first | (rw[Zap];omega) | (simp;done))))
local macro_rules | `(tactic| tm_at "1")=>`(tactic| with_reducible refine Zyq ?_)
local macro_rules | `(tactic| tm_at "1")=>`(tactic| with_reducible refine ZzX ?_)
local macro_rules | `(tactic| tm_at "1")=>`(tactic| with_reducible refine Zyp ?_)
local macro_rules | `(tactic| tm_at "1")=>`(tactic| with_reducible refine ZzW ?_)
local macro_rules | `(tactic| tm_at "1")=>`(tactic| with_reducible refine Zi.mn ?_)
local macro_rules | `(tactic| tm_at "1")=>`(tactic| with_reducible refine Zi.eq ?_)
local macro_rules | `(tactic| tm_at "1")=>`(tactic| with_reducible refine Zxh ?_)
local macro_rules | `(tactic| tm_at "1")=>`(tactic| with_reducible refine Zyx ?_)
local macro_rules | `(tactic| tm_at "1")=>`(tactic| with_reducible refine Zyw ?_)
local macro_rules | `(tactic| tm_at "1")=>`(tactic| with_reducible refine ZpF ?_)
local macro_rules | `(tactic| tm_at "1")=>`(tactic| ((with_reducible apply Rn.one);omega))
local macro_rules | `(tactic| tm_at "1")=>`(tactic| with_reducible refine Zw6 ?_)
local macro_rules | `(tactic| tm_at "1")=>`(tactic| with_reducible refine Sq.tup ?_)
local macro_rules | `(tactic| tm_at "1")=>`(tactic| with_reducible refine Sq.lst ?_)
local macro_rules | `(tactic| tm_at "1")=>`(tactic| with_reducible refine Zpc ?_)
local macro_rules|`(tactic|tm_at "1")=>`(tactic|(refine And.intro (show T.flatIn _ = true by walk_at "f") ?_))
local macro_rules|`(tactic|tm_at "1")=>`(tactic|(refine And.intro (show T.flat _ = true by walk_at "f") ?_))
local macro_rules | `(tactic| tm_at "1")=>`(tactic| ((with_reducible apply ZsS);rfl))
local macro_rules | `(tactic| tm_at "1")=>`(tactic| ((with_reducible apply ZzJ);tm_at "y"))
local macro_rules | `(tactic| tm_at "1")=>`(tactic| ((with_reducible apply ZzI);tm_at "y"))
local macro_rules | `(tactic| tm_at "1")=>`(tactic| ((with_reducible apply Zzy);tm_at "r"))
local macro_rules | `(tactic| tm_at "1")=>`(tactic| with_reducible refine Zzx ?_)
local macro_rules | `(tactic| tm_at "1")=>`(tactic| with_reducible refine Zx5 ?_)
local macro_rules | `(tactic| tm_at "1")=>`(tactic| with_reducible refine Zzw ?_)
local macro_rules | `(tactic| tm_at "1")=>`(tactic| with_reducible refine Zzv ?_)
local macro_rules | `(tactic| tm_at "1")=>`(tactic| with_reducible refine ZpE ?_)
local macro_rules | `(tactic| tm_at "1")=>`(tactic| with_reducible refine ZpD ?_)
local macro_rules | `(tactic| tm_at "1")=>`(tactic| with_reducible refine tk_exp ?_)
local macro_rules | `(tactic| tm_at "1")=>`(tactic| with_reducible refine ZzH ?_)
local macro_rules | `(tactic| tm_at "1")=>`(tactic| with_reducible refine ZzG ?_)
local macro_rules | `(tactic| tm_at "1")=>`(tactic| with_reducible refine Zyd ?_)
local macro_rules | `(tactic| tm_at "1")=>`(tactic| with_reducible refine tk_truth_n ?_)
local macro_rules | `(tactic| tm_at "1")=>`(tactic| with_reducible refine Zvp ?_)
local macro_rules | `(tactic| tm_at "1")=>`(tactic| with_reducible refine ZzF ?_)
local macro_rules | `(tactic| tm_at "1")=>`(tactic| with_reducible refine Zyc ?_)
local macro_rules | `(tactic| tm_at "1")=>`(tactic| with_reducible refine Zw1 ?_)
local macro_rules | `(tactic| tm_at "1")=>`(tactic| with_reducible refine Zyb ?_)
local macro_rules | `(tactic| tm_at "1")=>`(tactic| with_reducible refine Zya ?_)
local macro_rules | `(tactic| tm_at "1")=>`(tactic| with_reducible refine ZzE ?_)
local macro_rules | `(tactic| tm_at "1")=>`(tactic| with_reducible refine ZAM ?_)
local macro_rules | `(tactic| tm_at "1")=>`(tactic| with_reducible refine ZAL ?_)
local macro_rules | `(tactic| tm_at "1")=>`(tactic| with_reducible refine ZzD ?_)
local macro_rules | `(tactic| tm_at "1")=>`(tactic| with_reducible refine ZzC ?_)
local macro_rules | `(tactic| tm_at "1")=>`(tactic| with_reducible refine ZAK ?_)
local macro_rules | `(tactic| tm_at "1")=>`(tactic| with_reducible refine ZAJ ?_)
local macro_rules | `(tactic| tm_at "1")=>`(tactic| with_reducible refine Zx9 ?_)
local macro_rules | `(tactic| tm_at "1")=>`(tactic| with_reducible refine Zx6 ?_)
local macro_rules | `(tactic| tm_at "1")=>`(tactic| with_reducible refine Zx8 ?_)
local macro_rules | `(tactic| tm_at "1")=>`(tactic| with_reducible refine ZzB ?_)
local macro_rules | `(tactic| tm_at "1")=>`(tactic| with_reducible refine ZzA ?_)
local macro_rules | `(tactic| tm_at "1")=>`(tactic| with_reducible refine Zx7 ?_)
local macro_rules | `(tactic| tm_at "1")=>`(tactic| with_reducible refine ZAI ?_)
local macro_rules | `(tactic| tm_at "1")=>`(tactic| with_reducible refine Zzz ?_)
local macro_rules|`(tactic|walk_at "1")=>`(tactic|first | tm_at "1" | fail)
local macro_rules|`(tactic|walk_at "z")=>`(tactic|repeat' (first | tm_at "1" | fail))
namespace L
open PySem PySem.W PyProof.Rows PM TM My
variable {a:Option Int} {N X b i j k m n t:Nat} {ns:List Int} {c x:Nat→Int} {K K' M d r top v y:Int} {G G' G2 Γ:Nat→Nat→Option Int} {σ:TL} {g:PG} {Q:T→Prop} {R R' R2:Nat→Int×Int} {p q:Int×Int} {f:Nat→T} {β:Type} {o:Option (Int×Int)} {ts:List T} {D T0 w:T} {P:(Nat→Int)→Prop} {C:Nat→Nat→Int} {ρ:Nat→Option (Int×Int)} {I:(Nat→Nat→Option Int)→(Nat→Int×Int)→Prop}
section
variable {Q:T→Prop}
theorem ZBa(h:Q (.int T9)): Pk (Zdt (.int 10) (.int 9)) Q:=by
 have:=ZAE []
 simp only[oPow]at this
 split at this
 ·rename_i hc
  refine⟨_,by simp only[Zdt];rw[if_pos hc],?_⟩
  simp only[Option.some.injEq,Prod.mk.injEq,V.int.injEq,and_true]at this
  rw[this];exact h
 ·cases this
theorem ZAV(h:Q (.int T40)): Pk (Zdt (.int 10) (.int 40)) Q:=by
 have:=Zzt []
 simp only[oPow]at this
 split at this
 ·rename_i hc
  refine⟨_,by simp only[Zdt];rw[if_pos hc],?_⟩
  simp only[Option.some.injEq,Prod.mk.injEq,V.int.injEq,and_true]at this
  rw[this];exact h
 ·cases this
theorem ZAW(h:Q (.int M9)): Pk (Zdt (.int 48271) (.int 9)) Q:=by
 have:=Zzs []
 simp only[oPow]at this
 split at this
 ·rename_i hc
  refine⟨_,by simp only[Zdt];rw[if_pos hc],?_⟩
  simp only[Option.some.injEq,Prod.mk.injEq,V.int.injEq,and_true]at this
  rw[this];exact h
 ·cases this
theorem Zd6{a b:Int}(h1:-(2 ^ 64)<b)(h2:b<2 ^ 64)(h:Q (.int (a*b))): Pk (ZaY (.int a) (.int b)) Q:=ZcW (Zwe h1 h2) h
theorem ZyC{a b:Int}(h1:-(2 ^ 64)<a)(h2:a<2 ^ 64)(h:Q (.int (a*b))): Pk (ZaY (.int a) (.int b)) Q:=ZcW (Zvn h1 h2) h
end
noncomputable def scr(ns:List Int): T:=.lst (ns.map T.int)
def Lay(ns:List Int): Prop:=PyData.layable0 (.list (ns.map .int))=true
noncomputable def Zcp(ns:List Int)(k:Int): Int:=k*k*7919+11+(if 0<ns.length then cellAt ns (k.fmod ns.length) 0 else 0)
theorem ZrK{k:Int}(h0:0≤k)(h9:k≤10000): Zg9 [scr ns,.int k]=some (.int (Zcp ns k)):=by
 apply Pk.eq
 unfold Zg9 Zmk Zcp scr
 by_cases hl:0<ns.length
 ·have a:=Int.fmod_nonneg_of_pos k (show(0:Int)<ns.length by omega)
  have b:=Int.fmod_lt_of_pos k (show(0:Int)<ns.length by omega)
  have e:(ns.map T.int).length=ns.length:=by simp
  walk_at "z"
  refine Zd6 (by omega) (by omega) ?_
  walk_at "z"
  refine Zd6 (by omega) (by omega) ?_
  walk_at "z"
  refine ZhR (t:=.int (cellAt ns (k.fmod ns.length) 0)) (by rw[e];omega) ?_ ?_
  ·rw[e,List.getElem?_map,List.getElem?_eq_getElem (by omega),cellAt_def]
   simp only[Option.map_some,T.int.injEq,Option.some.injEq]
   rw[List.getD_eq_getElem?_getD,List.getElem?_eq_getElem (by omega)]
   rfl
  walk_at "z"
  rw[if_pos hl]
 ·walk_at "z"
  refine Zd6 (by omega) (by omega) ?_
  walk_at "z"
  refine Zd6 (by omega) (by omega) ?_
  walk_at "z"
  rw[if_neg hl]
  simp
theorem ZvD{k:Int}(hL:Lay ns)(h0:0≤k)(h9:k≤10000): Builtin.Int.intBits (Zcp ns k)≤2 ^ 21:=by
 unfold Zcp
 have h1:0≤k*k:=Int.mul_nonneg h0 h0
 have h2:k*k≤10000*10000:=Int.mul_le_mul h9 h9 h0 (by decide)
 have hb:Builtin.Int.intBits (k*k*7919+11)≤2 ^ 20:=Nat.le_trans (intBits_le_64 (by omega) (by omega)) (by decide)
 have hc:Builtin.Int.intBits (if 0<ns.length then cellAt ns (k.fmod ns.length) 0 else 0)≤2 ^ 20:=by
  split
  ·exact(cell_at hL _).bits
  ·exact bits_zero
 exact Nat.le_trans (PM.ZwY hb hc) (by decide)
noncomputable def Zbj(ns:List Int)(k many:Int): Int:=((Zcp ns k*48271).fmod 2147483647).fmod many
theorem Zcz(ns:List Int)(k:Int){many:Int}(h:0<many): 0≤Zbj ns k many∧Zbj ns k many<many:=⟨Int.fmod_nonneg_of_pos _ h,Int.fmod_lt_of_pos _ h⟩
theorem ZcA{k many:Int}(h0:0≤k)(h9:k≤10000)(hm:0<many): ZbB [scr ns,.int k,.int many]=some (.int (Zbj ns k many)):=by
 apply Pk.eq
 unfold ZbB Zm3
 walk_at "z"
 refine Pk.of (ZrK h0 h9) ?_
 walk_at "z"
 refine Zd6 (by decide) (by decide) ?_
 walk_at "z"
 rfl
noncomputable def Zec(ns:List Int)(k:Int): Int:=[3,9,T9,T40].getD (((Zcp ns k*69621).fmod 2147483629).fmod 4).toNat 0
theorem ZrL(ns:List Int)(k:Int): 0<Zec ns k∧Zec ns k≤T40:=by
 unfold Zec
 have a:=Int.fmod_nonneg_of_pos ((Zcp ns k*69621).fmod 2147483629) (show(0:Int)<4 by decide)
 have b:=Int.fmod_lt_of_pos ((Zcp ns k*69621).fmod 2147483629) (show(0:Int)<4 by decide)
 generalize ((Zcp ns k*69621).fmod 2147483629).fmod 4=i at a b
 have h9:=T9_eq
 have h40:=Zkc
 have:i=0∨i=1∨i=2∨i=3:=by omega
 obtain rfl | rfl | rfl | rfl:=this
 ·show 0<3∧3≤T40;omega
 ·show 0<9∧9≤T40;omega
 ·show 0<T9∧T9≤T40;omega
 ·show 0<T40∧T40≤T40;omega
noncomputable def Zca(ns:List Int)(k:Int): Int:=(Zcp ns k*M9).fmod (2*Zec ns k+1)-Zec ns k
theorem ZsX(ns:List Int)(k:Int): -T40≤Zca ns k∧Zca ns k≤T40:=by
 obtain⟨a,b⟩:=ZrL ns k
 have h1:=Int.fmod_nonneg_of_pos (Zcp ns k*M9) (show 0<2*Zec ns k+1 by omega)
 have h2:=Int.fmod_lt_of_pos (Zcp ns k*M9) (show 0<2*Zec ns k+1 by omega)
 unfold Zca
 omega
theorem Zgr{k:Int}(hL:Lay ns)(h0:0≤k)(h9:k≤10000): ZdU [scr ns,.int k]=some (.int (Zca ns k)):=by
 apply Pk.eq
 unfold ZdU Zl0
 have hb:=ZrB (ZvD hL h0 h9) Zx1
 obtain⟨r0,r1⟩:=ZrL ns k
 have a:=Int.fmod_nonneg_of_pos ((Zcp ns k*69621).fmod 2147483629) (show(0:Int)<4 by decide)
 have b:=Int.fmod_lt_of_pos ((Zcp ns k*69621).fmod 2147483629) (show(0:Int)<4 by decide)
 walk_at "z"
 refine Pk.of (ZrK h0 h9) ?_
 walk_at "z"
 refine ZBa ?_
 walk_at "z"
 refine ZAV ?_
 walk_at "z"
 refine Zd6 (by decide) (by decide) ?_
 walk_at "z"
 refine ZhR (t:=.int (Zec ns k)) (by omega) ?_ ?_
 ·unfold Zec
  have:(((Zcp ns k*69621).fmod 2147483629).fmod 4).toNat<4:=by omega
  generalize (((Zcp ns k*69621).fmod 2147483629).fmod 4).toNat=i at this
  match i,this with
  | 0,_=>rfl
  | 1,_=>rfl
  | 2,_=>rfl
  | 3,_=>rfl
 walk_at "z"
 refine ZAW ?_
 walk_at "z"
 refine ZcW hb ?_
 walk_at "z"
 refine ZyC (by decide) (by decide) ?_
 walk_at "z"
 rfl
noncomputable def Za4(a:Int): Int:=if a<0 then -a else a
theorem Zd7(a:Int): 0≤Za4 a:=by unfold Za4;split <;> omega
noncomputable def Zdn(ns:List Int)(k:Int): Option Int:=
 if(Zbj ns k 42).fmod 6<2 then none else if(Zbj ns k 42).fmod 6<4 then some 0 else if(Zbj ns k 42).fmod 6=4 then some ((Zbj ns k 42).fdiv 6)else some (Za4 (Zca ns k))
theorem ZrM(ns:List Int)(k:Int){c:Int}(h:Zdn ns k=some c): 0≤c∧c≤T40:=by
 have h40:=Zkc
 unfold Zdn at h
 split at h
 ·cases h
 ·split at h
  ·cases h;omega
  ·split at h
   ·cases h
    obtain⟨p0,p1⟩:=Zcz ns k (show(0:Int)<42 by decide)
    rw[Int.fdiv_eq_ediv_of_nonneg _ (by decide)]
    omega
   ·cases h
    have:=ZsX ns k
    have:=Zd7 (Zca ns k)
    unfold Za4 at *
    split at * <;> omega
theorem ZhB{a b:Int}(h0:0≤b)(h1:b<2 ^ 30): Builtin.divisionGoesByPylong a b=false:=PyProof.noPylong_small (by omega)
theorem Zxo{k:Int}(hL:Lay ns)(h0:0≤k)(h9:k≤10000): ZiQ [scr ns,.int k]=some (oT (Zdn ns k)):=by
 apply Pk.eq
 unfold ZiQ Zmn Zdn
 obtain⟨p0,p1⟩:=Zcz ns k (show(0:Int)<42 by decide)
 walk_at "z"
 refine Pk.of (ZcA h0 h9 (by decide)) ?_
 walk_at "z"
 refine⟨fun c=>?_,fun c=>?_⟩
 ·walk_at "z"
  rw[if_pos (by simpa using c)];rfl
 rw[if_neg (by simpa using c)]
 walk_at "z"
 refine⟨fun c=>?_,fun c=>?_⟩
 ·walk_at "z"
  rw[if_pos (by simpa using c)];rfl
 rw[if_neg (by simpa using c)]
 walk_at "z"
 refine⟨fun c=>?_,fun c=>?_⟩
 ·walk_at "z"
  refine ZcV (by decide) (ZhB (by decide) (by decide)) ?_
  rw[if_pos (by simpa using c)];rfl
 rw[if_neg (by simpa using c)]
 walk_at "z"
 refine Pk.of (Zgr hL h0 h9) ?_
 walk_at "z"
 rfl
def RestOk(q:Int×Int): Prop:=q.1=0∨(0<q.1∧0≤q.2∧q.2<q.1)
noncomputable def ZaA(m r:Int): Int×Int:=if m=0 then(0,r)else(m,r.fmod m)
theorem ZcN{m:Int}(h:0≤m)(r:Int): RestOk (ZaA m r):=by
 unfold RestOk ZaA
 split
 ·exact .inl rfl
 ·exact .inr ⟨by show 0<m;omega,Int.fmod_nonneg_of_pos _ (by omega),Int.fmod_lt_of_pos _ (by omega)⟩
theorem Zq9{m:Int}: ZgZ [.int m,.int r]=some (ZP (ZaA m r)):=by
 apply Pk.eq
 unfold ZgZ Zlw ZaA
 by_cases c:m=0
 ·walk_at "z"
  rw[if_pos c];rfl
 ·walk_at "z"
  rw[if_neg c];rfl
noncomputable def ZdI(ns:List Int)(k x:Int): Int×Int:=
 if(Zbj ns k 60).fmod 5<2 then(1,0)else if(Zbj ns k 60).fmod 5=2 then(0,x)else if(Zbj ns k 60).fmod 5=3 then ZaA ((Zbj ns k 60).fdiv 5+1) x else ZaA (Za4 (Zca ns k)) x
def Zal(q:Int×Int)(x:Int): Prop:=(q.1=0→x=q.2)∧(0<q.1→(x-q.2).emod q.1=0)
theorem Zra{m:Int}(h:0≤m)(r:Int): Zal (ZaA m r) r:=by
 unfold Zal ZaA
 split
 ·exact⟨fun _=>rfl,fun q=>absurd q (by simp)⟩
 ·refine⟨fun q=>absurd q (by simpa using ‹¬m=0›),fun q=>?_⟩
  show(r-r.fmod m) % m=0
  rw[Int.fmod_eq_emod_of_nonneg _ h,Int.sub_emod,Int.emod_emod,Int.sub_self]
  simp
theorem ZoR(ns:List Int)(k:Int): 0≤(Zbj ns k 60).fdiv 5∧(Zbj ns k 60).fdiv 5<12:=by
 obtain⟨p0,p1⟩:=Zcz ns k (show(0:Int)<60 by decide)
 rw[Int.fdiv_eq_ediv_of_nonneg _ (by decide)]
 omega
theorem Zxp(ns:List Int)(k x:Int): RestOk (ZdI ns k x):=by
 have:=ZoR ns k
 unfold ZdI
 split
 ·exact .inr ⟨by decide,by decide,by decide⟩
 ·split
  ·exact .inl rfl
  ·split
   ·exact ZcN (by omega) x
   ·exact ZcN (Zd7 _) x
theorem Zwt(ns:List Int)(k x:Int): Zal (ZdI ns k x) x:=by
 have:=ZoR ns k
 unfold ZdI
 split
 ·exact⟨fun q=>absurd q (by decide),fun _=>by show(x-0) % 1=0;omega⟩
 ·split
  ·exact⟨fun _=>rfl,fun q=>absurd q (by simp)⟩
  ·split
   ·exact Zra (by omega) x
   ·exact Zra (Zd7 _) x
theorem ZyD{k x:Int}(hL:Lay ns)(h0:0≤k)(h9:k≤10000): Zi8 [scr ns,.int k,.int x]=some (ZP (ZdI ns k x)):=by
 apply Pk.eq
 unfold Zi8 Zm6 ZdI
 obtain⟨p0,p1⟩:=Zcz ns k (show(0:Int)<60 by decide)
 walk_at "z"
 refine Pk.of (ZcA h0 h9 (by decide)) ?_
 walk_at "z"
 refine⟨fun c=>?_,fun c=>?_⟩
 ·walk_at "z"
  rw[if_pos (by simpa using c)];rfl
 rw[if_neg (by simpa using c)]
 walk_at "z"
 refine⟨fun c=>?_,fun c=>?_⟩
 ·walk_at "z"
  rw[if_pos (by simpa using c)];rfl
 rw[if_neg (by simpa using c)]
 walk_at "z"
 refine⟨fun c=>?_,fun c=>?_⟩
 ·walk_at "z"
  refine ZcV (by decide) (ZhB (by decide) (by decide)) ?_
  walk_at "z"
  refine Pk.of Zq9 ?_
  rw[if_pos (by simpa using c)]
 rw[if_neg (by simpa using c)]
 walk_at "z"
 refine Pk.of (Zgr hL h0 h9) ?_
 walk_at "z"
 exact Pk.of Zq9 rfl
noncomputable def Zaj(x:Nat→Int): Nat→Int:=cn 0 x
theorem ZsY(x:Nat→Int): cn (T.int 0) (fun i=>T.int (x i))=fun i=>T.int (Zaj x i):=by
 funext i;cases i <;> rfl
noncomputable def Zb6(ns:List Int)(k:Int)(n:Nat)(x:Nat→Int)(i j:Nat): Option Int:=if j=i then some 0 else(Zdn ns (k+i*(n+1:Nat)+j)).map fun c=>Zaj x i-Zaj x j+c
noncomputable def ZfM(ns:List Int)(k:Int)(n:Nat)(x:Nat→Int)(t:Nat): Int×Int:=ZdI ns (k+(n+1:Nat)*(n+1:Nat)+t) (x t)
theorem ZvE(ns:List Int)(k:Int)(n:Nat)(x:Nat→Int)(i:Nat): Zb6 ns k n x i i=some 0:=by simp[Zb6]
theorem Zxq(ns:List Int)(k:Int)(n:Nat)(x:Nat→Int)(i:Nat): (fun j=>if j=i then T.int 0 else oT ((Zdn ns (k+i*(n+1:Nat)+j)).map fun c=>Zaj x i-Zaj x j+c))=fun j=>oT (Zb6 ns k n x i j):=by
 funext j
 unfold Zb6
 split <;> rfl
theorem ZyE{k:Int}(hL:Lay ns)(h0:0≤k)(h9:k≤1000)(hn:n≤9): Zi9 [scr ns,.int k,Zav n x]=some (Zs n (Zb6 ns k n x) (ZfM ns k n x)):=by
 apply Pk.eq
 unfold Zi9 Zm9 Zav
 have hq:((n+1:Nat):Int)*((n+1:Nat):Int)≤10*10:=Int.mul_le_mul (by omega) (by omega) (by omega) (by decide)
 have hq0:(0:Int)≤((n+1:Nat):Int)*((n+1:Nat):Int):=Int.mul_nonneg (by omega) (by omega)
 walk_at "z"
 rw[ZsY]
 refine Zc8 (n:=n+1) (a:=fun i=>.int i) (P:=fun i σ=>σ 0=some (scr ns)∧σ 1=some (.int k)∧σ 2=some (.lst (tab n fun i=>.int (x i)))∧σ 3=some (.lst (tab (n+1) fun i=>.int (Zaj x i)))∧σ 4=some (.int (n+1:Nat))∧σ 5=some (.lst (tab i fun i=>Zay (n+1) (Zb6 ns k n x i)))) ?_ ⟨rfl,rfl,rfl,rfl,rfl,rfl⟩ ?_ ?_
 ·walk_at "z"
  rfl
 ·rintro i σ hi ⟨e0,e1,e2,e3,e4,e5⟩
  walk_at "z"
  refine Zc8 (n:=n+1) (a:=fun i=>.int i) (P:=fun j σ=>σ 0=some (scr ns)∧σ 1=some (.int k)∧σ 2=some (.lst (tab n fun i=>.int (x i)))∧σ 3=some (.lst (tab (n+1) fun i=>.int (Zaj x i)))∧σ 4=some (.int (n+1:Nat))∧σ 5=some (.lst (tab i fun i=>Zay (n+1) (Zb6 ns k n x i)))∧σ 6=some (.int i)∧σ 7=some (.lst (tab j fun j=>oT ((Zdn ns (k+i*(n+1:Nat)+j)).map fun c=>Zaj x i-Zaj x j+c)))) ?_ ⟨?_,?_,?_,?_,?_,?_,?_,?_⟩ ?_ ?_
  ·walk_at "z"
   rfl
  all_goals first | walk_at "r" | skip
  ·rintro j σ hj ⟨e0,e1,e2,e3,e4,e5,e6,e7⟩
   have hb1:(0:Int)≤i*((n+1:Nat):Int):=Int.mul_nonneg (by omega) (by omega)
   have hb2:(i:Int)*((n+1:Nat):Int)≤10*10:=Int.mul_le_mul (by omega) (by omega) (by omega) (by decide)
   walk_at "z"
   refine Zd6 (by omega) (by omega) ?_
   walk_at "z"
   refine Pk.of (Zxo hL (by omega) (by omega)) ?_
   have key:∀w,w=oT ((Zdn ns (k+i*(n+1:Nat)+j)).map fun c=>Zaj x i-Zaj x j+c)→tab j (fun j=>oT ((Zdn ns (k+i*(n+1:Nat)+j)).map fun c=>Zaj x i-Zaj x j+c))++[w]=tab (j+1) fun j=>oT ((Zdn ns (k+i*(n+1:Nat)+j)).map fun c=>Zaj x i-Zaj x j+c):=fun w e=>by
    rw[e];exact Zd3
   cases hs:Zdn ns (k + ↑i * ↑(n+1) + ↑j)with
   | none=>
    simp only[ZcH,ZbJ]
    walk_at "z"
    rw[key _ (by rw[hs];rfl)]
    refine⟨?_,?_,?_,?_,?_,?_,?_,?_⟩ <;> walk_at "r"
   | some c=>
    simp only[ZcH,ZbJ]
    walk_at "z"
    rw[key _ (by rw[hs];rfl)]
    refine⟨?_,?_,?_,?_,?_,?_,?_,?_⟩ <;> walk_at "r"
  ·rintro σ ⟨e0,e1,e2,e3,e4,e5,e6,e7⟩
   walk_at "z"
   rw[Zxq,show tab i (fun i=>Zay (n+1) (Zb6 ns k n x i))++[T.lst (tab (n+1) fun j=>oT (Zb6 ns k n x i j))]=tab (i+1) fun i=>Zay (n+1) (Zb6 ns k n x i)from Zd3 (f:=fun i=>Zay (n+1) (Zb6 ns k n x i))]
   refine⟨?_,?_,?_,?_,?_,?_⟩ <;> walk_at "r"
 ·rintro σ ⟨e0,e1,e2,e3,e4,e5⟩
  walk_at "z"
  refine Zbv (n:=n) (a:=fun i=>.int i) (b:=fun t=>ZP (ZfM ns k n x t)) (by omega) ?_ (fun t ht=>?_) ?_
  ·walk_at "z"
   refine Zia n (by omega) (by omega) rfl
  ·walk_at "z"
   refine Zd6 (by omega) (by omega) ?_
   walk_at "z"
   exact Pk.of (ZyD hL (by omega) (by omega)) ⟨Zfj,rfl⟩
  walk_at "z"
  rfl
def Zar(n:Nat)(G:Nat→Nat→Option Int)(R:Nat→Int×Int)(x:Nat→Int): Prop:=(∀i j,i<n+1→j<n+1→∀b,G i j=some b→Zaj x i-Zaj x j≤b)∧∀t,t<n→Zal (R t) (x t)
theorem Zwu(ns:List Int)(k:Int)(n:Nat)(x:Nat→Int): Zar n (Zb6 ns k n x) (ZfM ns k n x) x:=by
 refine⟨fun i j _ _ b h=>?_,fun t _=>Zwt ns _ _⟩
 unfold Zb6 at h
 split at h
 ·rename_i e;subst e;cases h;omega
 ·obtain⟨c,h1,h2⟩:=Zz1.mp h
  have:=(ZrM ns _ h1).1
  omega
def ZBb(n:Nat)(G:Nat→Nat→Option Int)(R:Nat→Int×Int): Prop:=(∀i,i<n+1→G i i=some 0)∧∀t,t<n→RestOk (R t)
theorem Zwv(ns:List Int)(k:Int)(n:Nat)(x:Nat→Int): ZBb n (Zb6 ns k n x) (ZfM ns k n x):=⟨fun i _=>ZvE ns k n x i,fun t _=>Zxp ns _ _⟩
theorem Zww{g:PE}(hn:n<10000)(e:Pk (g σ) fun t=>t=Z8 n G)(h:Q (Z8 n G)): Pk (Zax (Zbm g) (Zam j) Zaq (Zr Zfw (Ze (Zb j) Zm)) σ) Q:=by
 refine Zbv (n:=n) (a:=fun i=>Zay n (G i)) (b:=fun i=>Zay n (G i)) hn ?_ (fun i hi=>?_) h
 ·refine Zpc (e.mono ?_)
  rintro _ rfl
  exact Sq.lst rfl
 ·unfold Zay
  walk_at "z"
  rfl
theorem ZyF(hn:n≤100): Ze5 [Zs n G R]=some (Zs n G R):=by
 apply Pk.eq
 unfold Ze5 Znc Zs Zbd
 walk_at "z"
 refine Zww (n:=n+1) (G:=G) (by omega) ?_ ?_
 ·walk_at "z"
  rfl
 walk_at "z"
 rfl
def leO(a b:Option Int): Prop:=∀y,b=some y→∃x,a=some x∧x≤y
theorem ZjH: leO a none:=fun _ e=>by cases e
theorem leO_some{x:Int}: leO (some x) (some y)↔x≤y:=⟨fun h=>by obtain⟨z,e,q⟩:=h y rfl;cases e;exact q,fun h z e=>by cases e;exact⟨x,rfl,h⟩⟩
theorem ZyG: ¬leO none (some y):=fun h=>by obtain⟨z,e,_⟩:=h y rfl;cases e
theorem ZiM{b:Option Int}: Zha [oT a,oT b]=some (.bool (dec (leO a b))):=by
 apply Pk.eq
 unfold Zha Zmp
 cases b with
 | none=>
  simp only[ZcH]
  walk_at "z"
  rw[ZaI ZjH]
 | some y=>
  cases a with
  | none=>
   simp only[ZcH,ZbJ]
   walk_at "z"
   rw[ZaO ZyG]
  | some x=>
   simp only[ZbJ]
   walk_at "z"
   rw[Zht leO_some,Zi6]
def RIn(p q:Int×Int): Prop:=if q.1=0 then p=q else p.1 % q.1=0∧(p.2-q.2) % q.1=0
theorem ZyH(h:0<q.1∧0≤q.2∧q.2<q.1)(x:Int): x.fmod q.1=q.2↔(x-q.2) % q.1=0:=by
 rw[Int.fmod_eq_emod_of_nonneg _ (by omega)]
 constructor
 ·intro e
  rw[←e,Int.sub_emod,Int.emod_emod,Int.sub_self]
  simp
 ·intro e
  have:x % q.1=q.2 % q.1:=Int.emod_eq_emod_iff_emod_sub_eq_zero.mpr e
  rw[this,Int.emod_eq_of_lt h.2.1 h.2.2]
theorem ZyI(h:RestOk q)(x:Int): (if q.1=0 then x=q.2 else x.fmod q.1=q.2)↔Zal q x:=by
 unfold Zal
 rcases h with h | h
 ·rw[if_pos h];simp[h]
 ·rw[if_neg (by omega),ZyH h]
  have h1:¬q.1=0:=by omega
  simp only[h1,false_implies,true_and,h.1,true_implies]
  rfl
theorem Ze3{x:Int}(h:RestOk q): Zes [ZP q,.int x]=some (.bool (dec (Zal q x))):=by
 apply Pk.eq
 unfold Zes Zne ZP
 rw[←Zht (ZyI h x)]
 by_cases c:q.1=0
 ·walk_at "z"
  rw[if_pos c,Zi6]
 ·walk_at "z"
  rw[if_neg c,Zi6]
theorem Zqr(h:RestOk q): Ziy [ZP p,ZP q]=some (.bool (dec (RIn p q))):=by
 apply Pk.eq
 unfold Ziy Zlz
 have hp:ZP p=.tup [.int p.1,.int p.2]:=rfl
 have hq:ZP q=.tup [.int q.1,.int q.2]:=rfl
 by_cases c:q.1=0
 ·rw[hp,hq]
  walk_at "z"
  rw[←hp,←hq]
  refine ZbT (Zki (n:=0)) (Zki (n:=0)) ?_
  rw[Zht (show ZP p=ZP q↔RIn p q by unfold RIn;rw[if_pos c,Zyt])]
 ·have hq0:0<q.1:=by rcases h with h | h <;> omega
  rw[hp,hq]
  walk_at "z"
  refine⟨fun e=>?_,fun e=>?_⟩
  ·rw[←hq]
   refine Pk.of (Ze3 h) ?_
   congr 1
   refine Zht ?_
   unfold RIn Zal
   rw[if_neg c]
   simp only[decide_eq_true_eq]at e
   rw[Int.fmod_eq_emod_of_nonneg _ (by omega)]at e
   simp[c,e,hq0]
   rfl
  ·rw[e]
   simp only[decide_eq_false_iff_not]at e
   rw[Int.fmod_eq_emod_of_nonneg _ (by omega)]at e
   rw[ZaO]
   unfold RIn
   rw[if_neg c]
   exact fun q=>e q.1
def ZbE(n:Nat)(G:Nat→Nat→Option Int)(R:Nat→Int×Int)(G':Nat→Nat→Option Int)(R':Nat→Int×Int): Prop:=(∀i,i<n+1→∀j,j<n+1→leO (G i j) (G' i j))∧∀t,t<n→RIn (R t) (R' t)
def Eu(m:Nat)(a b:Int): Prop:=0≤a∧0≤b∧∃k:Nat,a*b<2 ^ k∧m=2*k+if a<b then 1 else 0
theorem Eu.step{a b:Int}(h:Eu m a b)(hb:b≠0): ∃m',m'<m∧Eu m' b (a % b):=by
 obtain⟨h0,h1,k,h2,h3⟩:=h
 have hb':0<b:=by omega
 have r0:=Int.emod_nonneg a hb
 have r1:=Int.emod_lt_of_pos a hb'
 by_cases q:a<b
 ·rw[if_pos q]at h3
  have e:a % b=a:=Int.emod_eq_of_lt h0 q
  rw[e]
  exact⟨2*k,by omega,h1,h0,k,by rw[Int.mul_comm];exact h2,by rw[if_neg (by omega)];omega⟩
 ·rw[if_neg q]at h3
  have hd:=Int.emod_add_mul_ediv a b
  have hq:1≤a / b:=Int.le_ediv_of_mul_le hb' (by omega)
  have hm:b*1≤b*(a / b):=Int.mul_le_mul_of_nonneg_left hq h1
  have h2r:2*(a % b)<a:=by omega
  have hp:b*(2*(a % b))<b*a:=Int.mul_lt_mul_of_pos_left h2r hb'
  have hk:k≠0:=by
   rintro rfl
   have:0<a*b:=Int.mul_pos (by omega) hb'
   simp at h2
   omega
  obtain⟨k',rfl⟩:∃k',k=k'+1:=⟨k-1,by omega⟩
  refine⟨2*k',by omega,h1,r0,k',?_,by rw[if_neg (by omega)];omega⟩
  have e1:b*(2*(a % b))=2*(b*(a % b)):=by rw[←Int.mul_assoc,Int.mul_comm b 2,Int.mul_assoc]
  have e2:a*b=b*a:=Int.mul_comm _ _
  rw[Int.pow_succ]at h2
  omega
theorem ZrN{a b:Int}(ha:0≤a)(hb:0≤b)(ha2:a<2 ^ 200000)(hb2:b<2 ^ 200000): ∃m,m<1000000∧Eu m a b:=by
 refine⟨_,?_,ha,hb,400000,?_,rfl⟩
 ·split <;> omega
 ·have h1:a*b≤a*2 ^ 200000:=Int.mul_le_mul_of_nonneg_left (by omega) ha
  have h2:a*2 ^ 200000<2 ^ 200000*2 ^ 200000:=Int.mul_lt_mul_of_pos_right ha2 (Int.pow_pos (by decide))
  have h3:(2:Int) ^ 200000*2 ^ 200000=2 ^ 400000:=by rw[←Int.pow_add]
  omega
theorem ZoS{a b:Int}(hb:0<b): Int.gcd b (a % b)=Int.gcd a b:=by
 rw[Int.gcd_comm a b,Int.emod_def,Int.gcd_sub_mul_left_right]
theorem ZyJ{a b:Int}: Int.gcd (Za4 a) (Za4 b)=Int.gcd a b:=by
 unfold Za4 Int.gcd
 split <;> split <;> simp
theorem Zsl{a:Int}(h:a.natAbs<2 ^ k): Za4 a<2 ^ k:=by
 have:((a.natAbs:Nat):Int)<2 ^ k:=by exact_mod_cast h
 unfold Za4
 split <;> omega
theorem ZhV(ns:List Int)(k:Int): (Zca ns k).natAbs<2 ^ 134:=by
 have h:=ZsX ns k
 have h2:=Zkc
 have:(2:Nat) ^ 134=21778071482940061661655974875633165533184:=by decide
 omega
theorem Zcj{a:Nat}(h:a<2 ^ i)(hij:i≤j): a<2 ^ j:=Nat.lt_of_lt_of_le h (Nat.pow_le_pow_right (by decide) hij)
def SmG(k n:Nat)(G:Nat→Nat→Option Int): Prop:=∀i j,i<n+1→j<n+1→∀b,G i j=some b→b.natAbs<2 ^ k
def SmR(k n:Nat)(R:Nat→Int×Int): Prop:=∀t,t<n→(R t).1.natAbs<2 ^ k∧(R t).2.natAbs<2 ^ k
theorem Zmg{m:Int}(h0:0≤m)(hm:m.natAbs<2 ^ k)(hr:r.natAbs<2 ^ k): (ZaA m r).1.natAbs<2 ^ k∧(ZaA m r).2.natAbs<2 ^ k:=by
 unfold ZaA
 split
 ·exact⟨Nat.two_pow_pos k,hr⟩
 ·have h1:=Int.fmod_nonneg_of_pos r (show 0<m by omega)
  have h2:=Int.fmod_lt_of_pos r (show 0<m by omega)
  exact⟨hm,by show(r.fmod m).natAbs<_;omega⟩
theorem ZoT(a:Int): (Za4 a).natAbs=a.natAbs:=by unfold Za4;split <;> omega
theorem ZuX{k x:Int}(hx:x.natAbs<2 ^ 134): (ZdI ns k x).1.natAbs<2 ^ 134∧(ZdI ns k x).2.natAbs<2 ^ 134:=by
 have h:=ZoR ns k
 have h2:=ZhV ns k
 have e:(2:Nat) ^ 134=21778071482940061661655974875633165533184:=by decide
 unfold ZdI
 split
 ·exact⟨by show(1:Nat)<_;omega,by show(0:Nat)<_;omega⟩
 ·split
  ·exact⟨by show(0:Nat)<_;omega,hx⟩
  ·split
   ·exact Zmg (by omega) (by omega) hx
   ·exact Zmg (Zd7 _) (by rw[ZoT];exact h2) hx
theorem Zrb(hx:∀i,i<n→(x i).natAbs<2 ^ k)(i:Nat)(hi:i<n+1): (Zaj x i).natAbs<2 ^ k:=by
 cases i with
 | zero=>exact Nat.two_pow_pos k
 | succ i=>exact hx i (by omega)
theorem Zxr{k:Int}(hx:∀i,i<n→(x i).natAbs<2 ^ 134): SmG 136 n (Zb6 ns k n x):=by
 intro i j hi hj b h
 have e:(2:Nat) ^ 134=21778071482940061661655974875633165533184:=by decide
 have e2:(2:Nat) ^ 136=4*21778071482940061661655974875633165533184:=by decide
 have h40:=Zkc
 have h1:=Zrb hx i hi
 have h2:=Zrb hx j hj
 unfold Zb6 at h
 split at h
 ·cases h;exact Nat.two_pow_pos _
 ·obtain⟨c,h3,h4⟩:=Zz1.mp h
  have:=ZrM ns _ h3
  subst h4
  omega
theorem ZrO{k:Int}(hx:∀i,i<n→(x i).natAbs<2 ^ 134): SmR 134 n (ZfM ns k n x):=fun t ht=>ZuX (hx t ht)
theorem ZrP: RIn q q:=by
 unfold RIn
 split
 ·rfl
 ·simp
theorem Zrp{a:Nat→T}{f:PE}(e:β→T)(P:Nat→β→Prop)(hn:n<10000)(hg:Pl (g σ) fun ts=>ts=tab n a)(hf:∀i,i<n→Pk (f (Z7 σ j (a i))) fun t=>∃y,t=e y∧P i y)(d:β)(h:∀y:Nat→β,(∀i,i<n→P i (y i))→Q (.lst (tab n fun i=>e (y i)))): Pk (Zax g (Zam j) Zaq f σ) Q:=by
 have hc:∃y:Nat→β,∀i,i<n→Pk (f (Z7 σ j (a i))) (fun t=>t=e (y i))∧P i (y i):=by
  have hx:∀i,∃y:β,i<n→Pk (f (Z7 σ j (a i))) (fun t=>t=e y)∧P i y:=fun i=>by
   by_cases q:i<n
   ·obtain⟨t,e1,y,e2,p⟩:=hf i q
    exact⟨y,fun _=>⟨⟨t,e1,e2⟩,p⟩⟩
   ·exact⟨d,fun h=>absurd h q⟩
  exact⟨fun i=>Classical.choose (hx i),fun i=>Classical.choose_spec (hx i)⟩
 obtain⟨y,hy⟩:=hc
 exact Zbv hn hg (fun i hi=>(hy i hi).1) (h y fun i hi=>(hy i hi).2)
noncomputable def ZaF(G:Nat→Nat→Option Int)(i j:Nat)(v:Option Int): Nat→Nat→Option Int:=fun a b=>if a=i∧b=j then v else G a b
theorem ZpQ{v:Option Int}: T.lst (tab n fun a=>T.lst (tab n fun b=>if a=i∧b=j then oT v else oT (G a b)))=Z8 n (ZaF G i j v):=by
 unfold Z8 Zay ZaF
 congr 2
 funext a
 congr 2
 funext b
 split <;> rfl
theorem Zsm{v:Option Int}: ZaF G i j v i j=v:=by simp[ZaF]
theorem Zj0{a:Nat}{v:Option Int}(h:¬(a=i∧b=j)): ZaF G i j v a b=G a b:=by simp[ZaF,h]
theorem Zbu: leO a a:=fun y e=>⟨y,e,Int.le_refl y⟩
theorem ZbC{b c:Option Int}(h:leO a b)(k:leO b c): leO a c:=fun y e=>by
 obtain⟨x,e1,l1⟩:=k y e
 obtain⟨w,e2,l2⟩:=h x e1
 exact⟨w,e2,by omega⟩
theorem ZpR{k:Int}(h0:0≤k)(h1:k<n): ∃i:Nat,k=i∧i<n:=⟨k.toNat,by omega,by omega⟩
theorem Zjm{a b:Int}(ha:a.natAbs<2 ^ 200000)(hb:b.natAbs<2 ^ 200000): Zfd [.int a,.int b]=some (.int (Int.gcd a b)):=by
 apply Pk.eq
 unfold Zfd ZnY
 walk_at "z"
 obtain⟨m,hm,eu⟩:=ZrN (Zd7 a) (Zd7 b) (Zsl ha) (Zsl hb)
 refine ZoD (fun m σ=>∃c d:Int,σ 2=some (.int c)∧σ 3=some (.int d)∧Eu m c d∧Int.gcd c d=Int.gcd a b) _ _ ?_ 1000000 (m:=m) ⟨Za4 a,Za4 b,by walk_at "r",by walk_at "r",eu,ZyJ⟩ hm
 rintro m σ ⟨c,d,e0,e1,eu,eg⟩
 walk_at "z"
 refine⟨fun h=>?_,fun h=>?_⟩
 ·have hd:d≠0:=by simpa using h
  have hd0:0≤d:=eu.2.1
  walk_at "z"
  rw[Int.fmod_eq_emod_of_nonneg _ hd0]
  obtain⟨m',h1,h2⟩:=eu.step hd
  exact⟨m',h1,d,c % d,by walk_at "r",by walk_at "r",h2,by rw[ZoS (by omega)];exact eg⟩
 ·have hd:d=0:=by simpa using h
  subst hd
  walk_at "z"
  rw[←eg,Int.gcd_zero_right]
  have:=eu.1
  congr 1
  omega
def Bd(k:Nat)(x:Int): Prop:=x.natAbs<2 ^ k
theorem Bd.mono{x:Int}(h:Bd i x)(hij:i≤j): Bd j x:=Zcj h hij
theorem ZdD{x:Int}(h:Bd i x)(k:Bd j y)(hi:i≤1000000)(hj:j≤1000000): mulOk x y=true:=ZrB (Nat.le_trans (PyProof.Rows.intBits_le h) (Nat.le_trans hi (by decide))) (Nat.le_trans (PyProof.Rows.intBits_le k) (Nat.le_trans hj (by decide)))
theorem Bd.mul{x:Int}(h:Bd i x)(k:Bd j y): Bd (i+j) (x*y):=by
 unfold Bd at *
 rw[Int.natAbs_mul,Nat.pow_add]
 exact Nat.mul_lt_mul'' h k
theorem Bd.add{x:Int}(h:Bd i x)(k:Bd i y): Bd (i+1) (x+y):=by
 unfold Bd at *
 rw[Nat.pow_succ]
 omega
theorem Bd.sub{x:Int}(h:Bd i x)(k:Bd i y): Bd (i+1) (x-y):=by
 unfold Bd at *
 rw[Nat.pow_succ]
 omega
theorem ZeL{x:Int}(h:Bd i y)(hi:i≤9000): Builtin.divisionGoesByPylong x y=false:=by
 refine PyProof.noPylong_of_log2 ?_
 by_cases h0:y.natAbs=0
 ·rw[h0];decide +kernel
 ·exact Nat.lt_of_lt_of_le ((Nat.log2_lt h0).mpr h) hi
theorem ZeS{x:Int}(h:Bd i y)(h0:0≤x)(h1:x≤y): Bd i x:=by unfold Bd at *;omega
theorem Zdw(h:1≤i): Bd i 1:=Zcj (i:=1) (by decide) h
theorem ZaR: Bd i 0:=Nat.two_pow_pos i
theorem ZvF{a b:Int}(hb:0<b)(kb:Bd k b)(hk:k≤8000)(ha:0≤a)(hg:Int.gcd a b=1): Pk (Zjw [.int a,.int b]) fun t=>∃x:Int,t=.int x∧0≤x∧x<b∧∃q,a*x=1+b*q:=by
 unfold Zjw Zn1
 walk_at "z"
 rw[Int.fmod_eq_emod_of_nonneg _ (by omega)]
 have r0:=Int.emod_nonneg a (show b≠0 by omega)
 have r1:=Int.emod_lt_of_pos a hb
 have hlt:∀x:Int,0≤x→x≤b→x<2 ^ 200000:=fun x h0 h1=>by
  have h2:b.natAbs<2 ^ 200000:=Zcj kb (by omega)
  have h3:((b.natAbs:Nat):Int)<2 ^ 200000:=by exact_mod_cast h2
  omega
 obtain⟨m,hm,eu⟩:=ZrN r0 (show 0≤b by omega) (hlt _ r0 (by omega)) (hlt b (by omega) (by omega))
 have hg0:Int.gcd (a % b) b=1:=by
  rw[Int.gcd_comm,ZoS hb];exact hg
 refine ZoD (fun m σ=>∃l r s t:Int,σ 1=some (.int b)∧σ 2=some (.int l)∧σ 3=some (.int r)∧σ 4=some (.int s)∧σ 5=some (.int t)∧Eu m l r∧Int.gcd l r=1∧l≤b∧r≤b∧(∃q,s*a=l+b*q)∧(∃q,t*a=r+b*q)∧(s.natAbs:Int)*r+(t.natAbs:Int)*l≤b∧(1≤l∨t=0)) _ _ ?_ 1000000 (m:=m) ⟨a % b,b,1,0,by walk_at "r",by walk_at "r",by walk_at "r",by walk_at "r",by walk_at "r",eu,hg0,by omega,by omega,⟨a / b,?_⟩,⟨-1,by omega⟩,by simp,.inr rfl⟩ hm
 ·rintro m σ ⟨l,r,s,t,e1,e2,e3,e4,e5,eu,gl,lb,rb,⟨q1,h1⟩,⟨q2,h2⟩,hb1,hl⟩
  walk_at "z"
  refine⟨fun h=>?_,fun h=>?_⟩
  ·have hr:r≠0:=by simpa using h
   have hr0:0≤r:=eu.2.1
   have hl0:0≤l:=eu.1
   have hrp:0<r:=by omega
   have kr:Bd k r:=ZeS kb hr0 rb
   have kl:Bd k l:=ZeS kb hl0 lb
   have hdiv0:0≤l / r:=Int.ediv_nonneg hl0 hr0
   have hdiv1:l / r≤l:=Int.ediv_le_self _ hl0
   have ks:(s.natAbs:Int)≤b:=by
    have:(s.natAbs:Int)*1≤(s.natAbs:Int)*r:=Int.mul_le_mul_of_nonneg_left (by omega) (by omega)
    have:0≤(t.natAbs:Int)*l:=Int.mul_nonneg (by omega) hl0
    omega
   have kt:(t.natAbs:Int)≤b:=by
    rcases hl with hl | hl
    ·have:(t.natAbs:Int)*1≤(t.natAbs:Int)*l:=Int.mul_le_mul_of_nonneg_left (by omega) (by omega)
     have:0≤(s.natAbs:Int)*r:=Int.mul_nonneg (by omega) hr0
     omega
    ·rw[hl];simp;omega
   have kt':Bd k t:=by unfold Bd at *;omega
   have kd:Bd k (l / r):=ZeS kl hdiv0 hdiv1
   walk_at "z"
   refine ZcV hr (ZeL kr (by omega)) ?_
   rw[Int.fdiv_eq_ediv_of_nonneg _ hr0]
   walk_at "z"
   refine ZcW (ZdD kd kr (by omega) (by omega)) ?_
   walk_at "z"
   refine ZcW (ZdD kd kt' (by omega) (by omega)) ?_
   walk_at "z"
   have hover:l-l / r*r=l % r:=by
    have:=Int.emod_add_mul_ediv l r
    rw[Int.mul_comm r (l / r)]at this
    omega
   rw[hover]
   obtain⟨m',hm1,hm2⟩:=eu.step hr
   have o0:=Int.emod_nonneg l hr
   have o1:=Int.emod_lt_of_pos l hrp
   refine⟨m',hm1,r,l % r,t,s-l / r*t,by walk_at "r",by walk_at "r",by walk_at "r",by walk_at "r",by walk_at "r",hm2,by rw[ZoS hrp];exact gl,rb,by omega,⟨q2,h2⟩,⟨q1-l / r*q2,?_⟩,?_,.inl (by omega)⟩
   ·rw[Int.sub_mul,h1,Int.mul_assoc,h2,Int.mul_add,Int.mul_sub,←hover]
    have e1:b*(l / r*q2)=l / r*(b*q2):=by rw[←Int.mul_assoc,Int.mul_comm b,Int.mul_assoc]
    rw[e1]
    omega
   ·have ht:((s-l / r*t).natAbs:Int)≤(s.natAbs:Int)+l / r*(t.natAbs:Int):=by
     have h3:(s-l / r*t).natAbs≤s.natAbs+(l / r*t).natAbs:=by omega
     have h4:(l / r*t).natAbs=(l / r).natAbs*t.natAbs:=Int.natAbs_mul ..
     have h5:(((l / r).natAbs*t.natAbs:Nat):Int)=l / r*(t.natAbs:Int):=by
      rw[Int.natCast_mul,Int.natAbs_of_nonneg hdiv0]
     rw[h4]at h3
     omega
    have h6:((s-l / r*t).natAbs:Int)*r≤((s.natAbs:Int)+l / r*(t.natAbs:Int))*r:=Int.mul_le_mul_of_nonneg_right ht hr0
    have h7:((s.natAbs:Int)+l / r*(t.natAbs:Int))*r=(s.natAbs:Int)*r+(t.natAbs:Int)*(l / r*r):=by
     rw[Int.add_mul,Int.mul_comm (l / r) (t.natAbs:Int),Int.mul_assoc]
    have h8:(t.natAbs:Int)*(l % r)+(t.natAbs:Int)*(l / r*r)=(t.natAbs:Int)*l:=by
     rw[←Int.mul_add,←hover]
     congr 1
     omega
    omega
  ·have hr:r=0:=by simpa using h
   subst hr
   rw[Int.gcd_zero_right]at gl
   have hl1:l=1:=by have:=eu.1;omega
   subst hl1
   walk_at "z"
   rw[Int.fmod_eq_emod_of_nonneg _ (by omega)]
   refine⟨s % b,rfl,Int.emod_nonneg _ (by omega),Int.emod_lt_of_pos _ hb,q1-s / b*a,?_⟩
   have h3:=Int.emod_add_mul_ediv s b
   have h4:s % b=s-b*(s / b):=by omega
   rw[h4,Int.mul_sub,Int.mul_comm a s,h1,Int.mul_sub]
   have e1:a*(b*(s / b))=b*(s / b*a):=by rw[Int.mul_comm a,Int.mul_assoc]
   rw[e1]
   omega
 ·have h3:=Int.emod_add_mul_ediv a b
  rw[Int.one_mul]
  omega
theorem Zf2{m:Int}(h:0≤m): Zea [.int m,.int r]=some (ZP (ZaA m r)):=by
 apply Pk.eq
 unfold Zea ZpI ZaA
 by_cases c:m=0
 ·walk_at "z"
  rw[if_pos c];rfl
 ·walk_at "z"
  rw[if_neg c];rfl
theorem Zbp(h:0≤q.1)(x:Int): Zal q x↔q.1 ∣ x-q.2:=by
 unfold Zal
 by_cases c:q.1=0
 ·rw[c]
  simp
  omega
 ·have:0<q.1:=by omega
  simp only[c,false_implies,true_and,this,true_implies]
  exact(Int.dvd_iff_emod_eq_zero).symm
theorem Zwx{m:Int}(h:0≤m): 0≤(ZaA m r).1:=by unfold ZaA;split <;> simp[h]
theorem ZcM{m:Int}(h:0≤m)(x:Int): Zal (ZaA m r) x↔m ∣ x-r:=by
 rw[Zbp (Zwx h)]
 unfold ZaA
 split
 ·rename_i c;subst c;rfl
 ·show m ∣ x-r.fmod m↔_
  rw[Int.fmod_eq_emod_of_nonneg _ h]
  have h1:x-r % m=(x-r)+m*(r / m):=by have:=Int.emod_add_mul_ediv r m;omega
  rw[h1]
  constructor
  ·intro q
   have:=Int.dvd_sub q (Int.dvd_mul_right m (r / m))
   rwa [Int.add_sub_cancel]at this
  ·intro q
   exact Int.dvd_add q (Int.dvd_mul_right m (r / m))
theorem RestOk.nn(h:RestOk q): 0≤q.1:=by rcases h with h | h <;> omega
theorem RestOk.self(h:RestOk q): Zal q q.2:=by rw[Zbp h.nn];simp
theorem ZmV(hp:RestOk p)(hq:RestOk q)(h:∀x,Zal p x↔Zal q x): p=q:=by
 have e1:∀x,p.1 ∣ x-p.2↔q.1 ∣ x-q.2:=fun x=>by rw[←Zbp hp.nn,←Zbp hq.nn];exact h x
 have a1:q.1 ∣ p.2-q.2:=(e1 p.2).mp (by simp)
 have a2:q.1 ∣ p.2+p.1-q.2:=(e1 (p.2+p.1)).mp (by rw[show p.2+p.1-p.2=p.1 by omega];exact Int.dvd_refl _)
 have b1:p.1 ∣ q.2-p.2:=(e1 q.2).mpr (by simp)
 have b2:p.1 ∣ q.2+q.1-p.2:=(e1 (q.2+q.1)).mpr (by rw[show q.2+q.1-q.2=q.1 by omega];exact Int.dvd_refl _)
 have c1:q.1 ∣ p.1:=by have:=Int.dvd_sub a2 a1;rwa [show p.2+p.1-q.2-(p.2-q.2)=p.1 by omega]at this
 have c2:p.1 ∣ q.1:=by have:=Int.dvd_sub b2 b1;rwa [show q.2+q.1-p.2-(q.2-p.2)=q.1 by omega]at this
 have em:p.1=q.1:=Int.dvd_antisymm hp.nn hq.nn c2 c1
 have er:p.2=q.2:=by
  rcases hp with hp | hp
  ·rw[hp]at em
   rw[←em]at a1
   have:=Int.zero_dvd.mp a1
   omega
  ·rcases hq with hq | hq
   ·omega
   ·rw[←em]at a1 hq
    obtain⟨k,hk⟩:=a1
    have:k=0:=by
     rcases Int.lt_trichotomy k 0 with h | h | h
     ·have:p.1*k≤p.1*(-1):=Int.mul_le_mul_of_nonneg_left (by omega) (by omega)
      omega
     ·exact h
     ·have:p.1*1≤p.1*k:=Int.mul_le_mul_of_nonneg_left (by omega) (by omega)
      omega
    subst this
    simp at hk
    omega
 exact Prod.ext em er
def RBd(k:Nat)(q:Int×Int): Prop:=Bd k q.1∧Bd k q.2
theorem Zjy{m:Int}(h0:0≤m)(hm:Bd k m)(hr:Bd k r): RBd k (ZaA m r):=Zmg h0 hm hr
noncomputable def ZbW(p q:Int×Int): Int×Int:=ZaA (Int.gcd p.1 q.1) (p.2+q.2)
theorem ZoU(p q:Int×Int): RestOk (ZbW p q):=ZcN (by omega) _
theorem Zmh(hk:k≤200000)(hp:Bd k p.1)(hq:Bd k q.1): Zf4 [ZP p,ZP q]=some (ZP (ZbW p q)):=by
 apply Pk.eq
 unfold Zf4 Zmr ZP ZbW
 walk_at "z"
 refine Pk.of (Zjm (Zcj hp hk) (Zcj hq hk)) ?_
 walk_at "z"
 exact Pk.of (Zf2 (by omega)) rfl
noncomputable def Zcd(p:Int×Int)(k:Int): Int×Int:=ZaA (p.1*Za4 k) (p.2*k)
theorem ZlY{c:Int}(hk:k≤200000)(hp0:0≤p.1)(hp:RBd k p)(hc:Bd k c): Zf0 [ZP p,.int c]=some (ZP (Zcd p c)):=by
 apply Pk.eq
 unfold Zf0 Zl2 ZP Zcd
 have ha:Bd k (Za4 c):=by unfold Bd at *;rw[ZoT];exact hc
 walk_at "z"
 refine ZcW (ZdD hp.1 ha (by omega) (by omega)) ?_
 walk_at "z"
 refine ZcW (ZdD hp.2 hc (by omega) (by omega)) ?_
 walk_at "z"
 exact Pk.of (Zf2 (Int.mul_nonneg hp0 (Zd7 c))) rfl
noncomputable def ZeM(p:Int×Int)(top:Int): Option Int:=if p.1=0 then(if p.2≤top then some p.2 else none)else some (top-(top-p.2) % p.1)
theorem Zuj(hp:0≤p.1): ZiH [ZP p,.int top]=some (oT (ZeM p top)):=by
 apply Pk.eq
 unfold ZiH Zl6 ZP ZeM
 by_cases c:p.1=0
 ·rw[if_pos c]
  by_cases d:p.2≤top
  ·walk_at "z"
   rw[if_pos d];rfl
  ·walk_at "z"
   rw[if_neg d];rfl
 ·rw[if_neg c]
  walk_at "z"
  rw[Int.fmod_eq_emod_of_nonneg _ hp]
  rfl
noncomputable def oR: Option (Int×Int)→T
 | none=>.none
 | some q=>ZP q
def Met(p q:Int×Int)(o:Option (Int×Int)): Prop:=match o with
 | none=>∀x,¬(Zal p x∧Zal q x)
 | some r=>RestOk r∧(∀x,Zal r x↔Zal p x∧Zal q x)
theorem ZnR{a b:Option (Int×Int)}(ha:Met p q a)(hb:Met p q b): a=b:=by
 cases a with
 | none=>
  cases b with
  | none=>rfl
  | some r=>exact absurd ((hb.2 r.2).mp hb.1.self) (ha r.2)
 | some s=>
  cases b with
  | none=>exact absurd ((ha.2 s.2).mp ha.1.self) (hb s.2)
  | some r=>rw[ZmV ha.1 hb.1 fun x=>(ha.2 x).trans (hb.2 x).symm]
theorem Zi2(hk:k≤8000)(op:RestOk p)(oq:RestOk q)(bp:RBd k p)(bq:RBd k q): Pk (Zgb [ZP p,ZP q]) fun t=>∃o,t=oR o∧Met p q o∧∀r,o=some r→(r=p∨r=q∨(p.1≠0∧q.1≠0∧r.1=Int.lcm p.1 q.1)):=by
 unfold Zgb Zng
 have ep:ZP p=.tup [.int p.1,.int p.2]:=rfl
 have eq:ZP q=.tup [.int q.1,.int q.2]:=rfl
 have np:=op.nn
 have nq:=oq.nn
 by_cases c1:p.1=0
 ·rw[ep]
  walk_at "z"
  refine Pk.of (Ze3 oq) ?_
  walk_at "z"
  have hone:∀x,Zal p x↔x=p.2:=fun x=>by rw[Zbp np,c1,Int.zero_dvd];omega
  refine⟨fun e=>?_,fun e=>?_⟩
  ·walk_at "z"
   refine⟨some p,rfl,⟨op,fun x=>⟨fun h=>⟨h,?_⟩,fun h=>h.1⟩⟩,fun r e=>by cases e;exact .inl rfl⟩
   rw[(hone x).mp h];exact dec_iff.mp e
  ·walk_at "z"
   refine⟨none,rfl,fun x h=>?_,by simp⟩
   have:=(hone x).mp h.1
   subst this
   have h2:=ZaI h.2
   rw[h2]at e
   cases e
 by_cases c2:q.1=0
 ·have hone:∀x,Zal q x↔x=q.2:=fun x=>by rw[Zbp nq,c2,Int.zero_dvd];omega
  rw[ep,eq]
  walk_at "z"
  rw[←ep]
  refine Pk.of (Ze3 op) ?_
  walk_at "z"
  refine⟨fun e=>?_,fun e=>?_⟩
  ·walk_at "z"
   refine⟨some q,rfl,⟨oq,fun x=>⟨fun h=>⟨?_,h⟩,fun h=>h.2⟩⟩,fun r e=>by cases e;exact .inr (.inl rfl)⟩
   rw[(hone x).mp h];exact dec_iff.mp e
  ·walk_at "z"
   refine⟨none,rfl,fun x h=>?_,by simp⟩
   have:=(hone x).mp h.2
   subst this
   have h2:=ZaI h.1
   rw[h2]at e
   cases e
 ·have pp:0<p.1:=by omega
  have pq:0<q.1:=by omega
  obtain⟨g,hg⟩:∃g:Nat,Int.gcd p.1 q.1=g:=⟨_,rfl⟩
  have hg0:0<(g:Int):=by
   have:Int.gcd p.1 q.1≠0:=fun h=>c1 (Int.gcd_eq_zero_iff.mp h).1
   omega
  have gp:(g:Int) ∣ p.1:=by rw[←hg];exact Int.gcd_dvd_left ..
  have gq:(g:Int) ∣ q.1:=by rw[←hg];exact Int.gcd_dvd_right ..
  obtain⟨a,ea⟩:=gp
  obtain⟨b,eb⟩:=gq
  have ha:0<a:=by
   rcases Int.lt_trichotomy a 0 with h | h | h
   ·have:=Int.mul_neg_of_pos_of_neg hg0 h;omega
   ·subst h;simp at ea;omega
   ·exact h
  have hb:0<b:=by
   rcases Int.lt_trichotomy b 0 with h | h | h
   ·have:=Int.mul_neg_of_pos_of_neg hg0 h;omega
   ·subst h;simp at eb;omega
   ·exact h
  have da:p.1 / g=a:=by rw[ea];exact Int.mul_ediv_cancel_left _ (by omega)
  have db:q.1 / g=b:=by rw[eb];exact Int.mul_ediv_cancel_left _ (by omega)
  have kg:Bd k (g:Int):=ZeS bp.1 (by omega) (by
   rw[ea]
   have:(g:Int)*1≤g*a:=Int.mul_le_mul_of_nonneg_left (by omega) (by omega)
   omega)
  have kb:Bd k b:=ZeS bq.1 (by omega) (by
   rw[eb]
   have:1*b≤g*b:=Int.mul_le_mul_of_nonneg_right (by omega) (by omega)
   omega)
  have cop:Int.gcd a b=1:=by
   have h1:=Int.gcd_mul_left (g:Int) a b
   rw[←ea,←eb,hg,Int.natAbs_natCast]at h1
   have h2:g*1=g*Int.gcd a b:=by omega
   exact(Nat.eq_of_mul_eq_mul_left (by omega) h2).symm
  rw[ep,eq]
  walk_at "z"
  refine Pk.of (Zjm (Zcj bp.1 (by omega)) (Zcj bq.1 (by omega))) ?_
  rw[hg]
  walk_at "z"
  rw[Int.fmod_eq_emod_of_nonneg _ (by omega)]
  by_cases c3:(q.2-p.2) % (g:Int)=0
  ·obtain⟨d,ed⟩:=Int.dvd_of_emod_eq_zero c3
   have dd:(q.2-p.2) / g=d:=by rw[ed];exact Int.mul_ediv_cancel_left _ (by omega)
   have kd:Bd (k+1) d:=by
    have h1:Bd (k+1) (q.2-p.2):=Bd.sub bq.2 bp.2
    unfold Bd at *
    rw[ed,Int.natAbs_mul]at h1
    have:1*d.natAbs≤(g:Int).natAbs*d.natAbs:=Nat.mul_le_mul_right _ (by omega)
    omega
   walk_at "z"
   refine ZcV (by omega) (ZeL kg (by omega)) ?_
   rw[Int.fdiv_eq_ediv_of_nonneg _ (by omega),db]
   walk_at "z"
   refine ZcV (by omega) (ZeL kg (by omega)) ?_
   rw[Int.fdiv_eq_ediv_of_nonneg _ (by omega),dd]
   walk_at "z"
   refine ZcV (by omega) (ZeL kg (by omega)) ?_
   rw[Int.fdiv_eq_ediv_of_nonneg _ (by omega),da]
   walk_at "z"
   refine(ZvF hb kb hk (by omega) cop).mono ?_
   rintro _ ⟨y,rfl,y0,y1,z,hz⟩
   have ky:Bd k y:=ZeS kb y0 (by omega)
   walk_at "z"
   refine ZcW (ZdD kd ky (by omega) (by omega)) ?_
   walk_at "z"
   refine ZcW (ZdD bp.1 kb (by omega) (by omega)) ?_
   walk_at "z"
   refine ZcW (ZdD bp.1 (Bd.mul kd ky) (by omega) (by omega)) ?_
   walk_at "z"
   have hL:(p.1*b).natAbs=Int.lcm p.1 q.1:=by
    have h1:=Int.gcd_mul_lcm p.1 q.1
    rw[hg]at h1
    have h2:p.1.natAbs*q.1.natAbs=g*(p.1*b).natAbs:=by
     rw[Int.natAbs_mul]
     conv=>lhs;rw[show q.1.natAbs=g*b.natAbs by rw[eb,Int.natAbs_mul,Int.natAbs_natCast]]
     rw[←Nat.mul_assoc,Nat.mul_comm p.1.natAbs g,Nat.mul_assoc]
    have h3:g*Int.lcm p.1 q.1=g*(p.1*b).natAbs:=by omega
    exact(Nat.eq_of_mul_eq_mul_left (by omega) h3).symm
   have hpb:0<p.1*b:=Int.mul_pos pp hb
   refine Pk.of (Zf2 (by omega)) ⟨some _,rfl,⟨ZcN (by omega) _,fun x=>?_⟩,fun r e=>?_⟩
   ·rw[ZcM (by omega),Zbp np,Zbp nq]
    have hx0:p.1*(d*y)=(q.2-p.2)+q.1*(d*z):=by
     rw[ed,ea,eb]
     have:(g:Int)*a*(d*y)=g*d*(a*y):=by
      rw[Int.mul_assoc,Int.mul_assoc,Int.mul_left_comm a d y]
     rw[this,hz,Int.mul_add,Int.mul_one]
     congr 1
     rw[Int.mul_assoc,Int.mul_assoc,Int.mul_left_comm d b z]
    constructor
    ·intro h
     have h1:p.1 ∣ x-(p.2+p.1*(d*y)):=Int.dvd_trans (Int.dvd_mul_right _ _) h
     have h2:q.1 ∣ x-(p.2+p.1*(d*y)):=Int.dvd_trans ⟨a,by rw[ea,eb];rw[Int.mul_assoc,Int.mul_assoc,Int.mul_comm a b]⟩ h
     refine⟨?_,?_⟩
     ·have:=Int.dvd_add h1 (Int.dvd_mul_right p.1 (d*y))
      rwa [show x-(p.2+p.1*(d*y))+p.1*(d*y)=x-p.2 by omega]at this
     ·have:=Int.dvd_add h2 (Int.dvd_mul_right q.1 (d*z))
      rwa [show x-(p.2+p.1*(d*y))+q.1*(d*z)=x-q.2 by omega]at this
    ·rintro⟨h1,h2⟩
     have h3:p.1 ∣ x-(p.2+p.1*(d*y)):=by
      have:=Int.dvd_sub h1 (Int.dvd_mul_right p.1 (d*y))
      rwa [show x-p.2-p.1*(d*y)=x-(p.2+p.1*(d*y))by omega]at this
     have h4:q.1 ∣ x-(p.2+p.1*(d*y)):=by
      have:=Int.dvd_sub h2 (Int.dvd_mul_right q.1 (d*z))
      rwa [show x-q.2-q.1*(d*z)=x-(p.2+p.1*(d*y))by omega]at this
     have h5:=Int.lcm_dvd (Int.dvd_natAbs.mpr h3) (Int.dvd_natAbs.mpr h4)
     rw[←hL]at h5
     have h6:(((p.1*b).natAbs:Nat):Int) ∣ (((x-(p.2+p.1*(d*y))).natAbs:Nat):Int):=Int.natCast_dvd_natCast.mpr h5
     exact Int.natAbs_dvd.mp (Int.dvd_natAbs.mp h6)
   ·cases e
    refine .inr (.inr ⟨c1,c2,?_⟩)
    unfold ZaA
    rw[if_neg (by omega)]
    show p.1*b=_
    rw[←hL]
    omega
  ·walk_at "z"
   refine⟨none,rfl,fun x h=>c3 ?_,by simp⟩
   rw[Zbp np,Zbp nq]at h
   have h1:(g:Int) ∣ x-p.2:=Int.dvd_trans ⟨a,ea⟩ h.1
   have h2:(g:Int) ∣ x-q.2:=Int.dvd_trans ⟨b,eb⟩ h.2
   have h3:=Int.dvd_sub h1 h2
   rw[show x-p.2-(x-q.2)=q.2-p.2 by omega]at h3
   exact Int.emod_eq_zero_of_dvd h3
theorem Zkq{a b:Int}(ha:Bd k a)(hb:Bd k b): Bd k ((Int.gcd a b:Nat):Int):=by
 unfold Bd at *
 rw[Int.natAbs_natCast]
 by_cases z:a=0
 ·rw[z,Int.gcd_zero_left];exact hb
 ·exact Nat.lt_of_le_of_lt (Nat.gcd_le_left _ (by omega)) ha
noncomputable def Za5(a b:Option Int): Option Int:=if dec (leO a b)then a else b
noncomputable def addO: Option Int→Option Int→Option Int
 | some a,some b=>some (a+b)
 | _,_=>none
theorem addO_some{b:Option Int}{c:Int}: addO a b=some c↔∃x y,a=some x∧b=some y∧x+y=c:=by
 cases a <;> cases b <;> simp[addO]
theorem leO_total{b:Option Int}(h:¬leO a b): leO b a:=by
 cases a with
 | none=>exact ZjH
 | some x=>
  cases b with
  | none=>exact absurd ZjH h
  | some y=>rw[leO_some]at h ⊢;omega
theorem ZfD{b:Option Int}: leO (Za5 a b) a:=by
 unfold Za5
 split
 ·exact Zbu
 ·rename_i h;exact leO_total fun q=>h (ZaI q)
theorem ZpS{b:Option Int}: leO (Za5 a b) b:=by
 unfold Za5
 split
 ·rename_i h;exact dec_iff.mp h
 ·exact Zbu
theorem ZeC(a b:Option Int): Za5 a b=a∨Za5 a b=b:=by
 unfold Za5;split <;> simp
theorem Zj1{b:Option Int}(h:leO a b): Za5 a b=a:=by unfold Za5;rw[ZaI h];rfl
theorem ZhC{b c d:Option Int}(h:leO a c)(k:leO b d): leO (addO a b) (addO c d):=by
 intro y e
 obtain⟨p,q,rfl,rfl,rfl⟩:=addO_some.mp e
 obtain⟨p',rfl,l1⟩:=h p rfl
 obtain⟨q',rfl,l2⟩:=k q rfl
 exact⟨p'+q',rfl,by omega⟩
theorem ZAf: addO a (some 0)=a:=by cases a <;> simp[addO]
theorem ZsZ: addO (some 0) a=a:=by cases a <;> simp[addO]
theorem Zjn{b c:Option Int}: addO (addO a b) c=addO a (addO b c):=by cases a <;> cases b <;> cases c <;> simp[addO,Int.add_assoc]
theorem Zf9{b:Option Int}: ZdY [oT a,oT b]=some (oT (addO a b)):=by
 apply Pk.eq
 unfold ZdY Znj
 cases a with
 | none=>
  rw[ZcH]
  walk_at "z"
  rfl
 | some x=>
  cases b with
  | none=>
   rw[ZcH,ZbJ]
   walk_at "z"
   rfl
  | some y=>
   rw[ZbJ,ZbJ]
   walk_at "z"
   rfl
theorem Zrq{b:Option Int}: ZhH [oT a,oT b]=some (oT (Za5 a b)):=by
 apply Pk.eq
 unfold ZhH ZoI Za5
 walk_at "z"
 refine Pk.of ZiM ?_
 walk_at "z"
 refine⟨fun e=>?_,fun e=>?_⟩
 ·walk_at "z"
  rw[e];rfl
 ·walk_at "z"
  rw[e];rfl
noncomputable def ZbI(G:Nat→Nat→Option Int)(m:Nat): Nat→Nat→Option Int:=fun i j=>Za5 (G i j) (addO (G i m) (G m j))
theorem ZtA{a b:Nat→Option Int}{c:Option Int}(hn:n<10000): Zio [Zay n a,oT c,Zay n b]=some (Zay n fun j=>Za5 (a j) (addO c (b j))):=by
 apply Pk.eq
 unfold Zio Zk1 Zay
 walk_at "z"
 refine ZoC (n:=n) (a:=fun j=>oT (a j)) (b:=fun j=>oT (b j)) (c:=fun j=>oT (Za5 (a j) (addO c (b j)))) hn ?_ (fun j hj=>?_) ?_
 ·walk_at "z"
  rfl
 ·walk_at "z"
  refine Pk.of Zf9 ?_
  walk_at "z"
  exact Pk.of Zrq ⟨Zfp,rfl⟩
 rfl
theorem ZuB(hn:n<10000)(hm:m<n): ZiS [Z8 n G,.int m]=some (Z8 n (ZbI G m)):=by
 apply Pk.eq
 unfold ZiS Zmv Z8
 walk_at "z"
 refine Zbv (n:=n) (a:=fun i=>Zay n (G i)) (b:=fun i=>Zay n (ZbI G m i)) hn ?_ (fun i hi=>?_) ?_
 ·walk_at "z"
  rfl
 ·have h:Zay n (G i)=.lst (tab n fun j=>oT (G i j)):=rfl
  rw[h]
  walk_at "z"
  rw[←h]
  exact Pk.of (ZtA hn) rfl
 rfl
def Neg(n:Nat)(G:Nat→Nat→Option Int): Prop:=∃i,i<n∧∃b,G i i=some b∧b<0
theorem Zxs(hn:n≤1000)(hd:∀i,i<n→∃b,G i i=some b): Ziu [Z8 n G]=some (.bool (dec (Neg n G))):=by
 apply Pk.eq
 unfold Ziu Zll Z8 Zay
 walk_at "z"
 refine Zbv (n:=n) (a:=fun i=>.int i) (b:=fun i=>.bool (dec (∃b,G i i=some b∧b<0))) (by omega) ?_ (fun i hi=>?_) ?_
 ·walk_at "z"
  rfl
 ·walk_at "z"
  obtain⟨b,e⟩:=hd i hi
  rw[e,ZbJ]
  walk_at "z"
  rw[Zi6]
  congr 1
  refine Zht ⟨fun h=>⟨b,rfl,h⟩,?_⟩
  rintro⟨c,e,h⟩
  cases e
  exact h
 walk_at "z"
 rfl
noncomputable def clG(G:Nat→Nat→Option Int): Nat→Nat→Nat→Option Int
 | 0=>G
 | m+1=>ZbI (clG G m) m
theorem ZrQ(h:∃b,G i i=some b): ∃b,ZbI G m i i=some b:=by
 obtain⟨b,e⟩:=h
 have:=ZfD (a:=G i i) (b:=addO (G i m) (G m i))
 rw[e]at this
 obtain⟨c,e2,_⟩:=this b rfl
 exact⟨c,by unfold ZbI;rw[e];exact e2⟩
theorem Zpo{n:Nat}{G:Nat→Nat→Option Int}(hd:∀i,i<n→∃b,G i i=some b): ∀m i,i<n→∃b,clG G m i i=some b
 | 0=>hd
 | m+1=>fun i hi=>ZrQ (Zpo hd m i hi)
theorem Zwy(h0:0<n)(hn:n≤1000)(hd:∀i,i<n→∃b,G i i=some b): Pk (ZhI [Z8 n G]) fun t=>(t=Z8 n (clG G n)∧∀m,m<n→¬Neg n (clG G (m+1)))∨(t=.none∧∃m,m<n∧Neg n (clG G (m+1))):=by
 unfold ZhI ZoK
 have hg:Z8 n G=.lst (tab n fun i=>Zay n (G i)):=rfl
 walk_at "z"
 refine Zyz (n:=n) (a:=fun i=>.int i) h0 ?_ (P:=fun i σ=>σ 1=some (Z8 n (clG G i))∧∀m,m<i→¬Neg n (clG G (m+1))) ⟨rfl,by omega⟩ ?_ ?_
 ·walk_at "z"
  rw[hg]
  walk_at "z"
  rfl
 ·rintro i σ hi ⟨e1,e2⟩
  walk_at "z"
  refine Pk.of (ZuB (by omega) hi) ?_
  walk_at "z"
  refine Pk.of (Zxs hn fun a ha=>ZrQ (Zpo hd i a ha)) ?_
  walk_at "z"
  refine⟨fun e=>?_,fun e=>?_⟩
  ·walk_at "z"
   exact .inr ⟨rfl,i,hi,dec_iff.mp e⟩
  ·walk_at "z"
   refine⟨by walk_at "r",fun m hm=>?_⟩
   by_cases q:m=i
   ·subst q
    intro h
    have h2:dec (Neg n (ZbI (clG G m) m))=true:=ZaI h
    rw[h2]at e
    cases e
   ·exact e2 m (by omega)
 ·rintro σ ⟨e1,e2⟩
  walk_at "z"
  exact .inl ⟨rfl,e2⟩
theorem ZkE{G:Nat→Nat→Option Int}: ∀m i j,leO (clG G m i j) (G i j)
 | 0=>fun _ _=>Zbu
 | m+1=>fun i j=>ZbC ZfD (ZkE m i j)
theorem Zj2(hd:∀i,i<n→G i i=some 0)(hn:∀k,k<m→¬Neg n (clG G (k+1))): ∀i,i<n→clG G m i i=some 0:=by
 intro i hi
 obtain⟨b,e⟩:=Zpo (fun i hi=>⟨0,hd i hi⟩) m i hi
 have h:=ZkE m i i (G:=G)
 rw[hd i hi,e]at h
 have h1:=leO_some.mp h
 have h2:¬b<0:=fun q=>by
  cases m with
  | zero=>have:=hd i hi;rw[show clG G 0 i i=G i i from rfl,this]at e;cases e;omega
  | succ m=>exact hn m (by omega) ⟨i,hi,b,e,q⟩
 rw[e,show b=0 by omega]
theorem Zs0{n:Nat}{G:Nat→Nat→Option Int}(hd:∀i,i<n→G i i=some 0): ∀m,m≤n→(∀k,k<m→¬Neg n (clG G (k+1)))→∀k,k<m→∀i j,i<n→j<n→leO (clG G m i j) (addO (clG G m i k) (clG G m k j))
 | 0,_,_,k,hk=>by omega
 | m+1,hm,hn,k,hk=>by
  intro i j hi hj
  have z:=Zj2 hd (fun k hk=>hn k (by omega):∀k,k<m→_)
  have ih:=Zs0 hd m (by omega) (fun k hk=>hn k (by omega))
  generalize hD:clG G m=D at z ih
  have hs:clG G (m+1)=ZbI D m:=by rw[←hD];rfl
  rw[hs]
  have zm:=z m (by omega)
  have cm:∀a,ZbI D m a m=D a m:=fun a=>by unfold ZbI;rw[zm,ZAf];exact Zj1 Zbu
  have rm:∀b,ZbI D m m b=D m b:=fun b=>by unfold ZbI;rw[zm,ZsZ];exact Zj1 Zbu
  by_cases q:k=m
  ·subst q
   rw[cm,rm]
   exact ZpS
  ·have hk':k<m:=by omega
   have t1:=ih k hk' i j hi hj
   have t2:=ih k hk' i m hi (by omega)
   have t3:=ih k hk' m j (by omega) hj
   have t4:=ih k hk' m m (by omega) (by omega)
   rw[zm]at t4
   have dn:leO (ZbI D m i j) (addO (D i m) (D m j)):=ZpS
   have d0:leO (ZbI D m i j) (D i j):=ZfD
   rcases ZeC (D i k) (addO (D i m) (D m k))with e1 | e1 <;> rcases ZeC (D k j) (addO (D k m) (D m j))with e2 | e2
   ·rw[show ZbI D m i k=_ from e1,show ZbI D m k j=_ from e2]
    exact ZbC d0 t1
   ·rw[show ZbI D m i k=_ from e1,show ZbI D m k j=_ from e2,←Zjn]
    exact ZbC dn (ZhC t2 Zbu)
   ·rw[show ZbI D m i k=_ from e1,show ZbI D m k j=_ from e2,Zjn]
    exact ZbC dn (ZhC Zbu t3)
   ·rw[show ZbI D m i k=_ from e1,show ZbI D m k j=_ from e2,Zjn,←Zjn (a:=D m k)]
    refine ZbC dn (ZhC Zbu ?_)
    have:=ZhC t4 (Zbu (a:=D m j))
    rwa [ZsZ]at this
def Zic(n:Nat)(G:Nat→Nat→Option Int)(y:Nat→Int): Prop:=∀i j,i<n→j<n→∀b,G i j=some b→y i-y j≤b
theorem ZoV{n:Nat}{G:Nat→Nat→Option Int}{y:Nat→Int}(h:Zic n G y): ∀m,m≤n→Zic n (clG G m) y
 | 0,_=>h
 | m+1,hm=>by
  have ih:=ZoV h m (by omega)
  intro i j hi hj b e
  rcases ZeC (clG G m i j) (addO (clG G m i m) (clG G m m j))with e1 | e1
  ·rw[show clG G (m+1) i j=_ from e1]at e;exact ih i j hi hj b e
  ·rw[show clG G (m+1) i j=_ from e1]at e
   obtain⟨p,q,h1,h2,h3⟩:=addO_some.mp e
   have:=ih i m hi (by omega) p h1
   have:=ih m j (by omega) hj q h2
   omega
theorem Zwz{y:Nat→Int}(h:Zic n G y): ¬Neg n G:=by
 rintro⟨i,hi,b,e,hb⟩
 have:=h i i hi hi b e
 omega
theorem Zrc(h:Zar n G R x): Zic (n+1) G (Zaj x):=fun i j hi hj b e=>h.1 i j hi hj b e
theorem Zop{k:Int}: Zf5 [.int k]=some (.bool true):=by
 apply Pk.eq
 unfold Zf5 Zmx
 walk_at "z"
 rfl
theorem ZyK(hn:n≤1000)(hd:∀i,i<n→G i i=some 0): Zja [Z8 n G,.int n]=some (.bool true):=by
 apply Pk.eq
 unfold Zja Znm Z8 Zay
 walk_at "z"
 refine Zc8 (n:=n) (a:=fun i=>.int i) (P:=fun i σ=>σ 0=some (Z8 n G)∧σ 1=some (.int n)) ?_ ⟨rfl,rfl⟩ ?_ ?_
 ·walk_at "z"
  rfl
 ·rintro i σ hi ⟨e0,e1⟩
  unfold Z8 Zay at e0
  walk_at "z"
  refine Zc8 (n:=n) (a:=fun j=>oT (G i j)) (P:=fun j σ=>σ 0=some (Z8 n G)∧σ 1=some (.int n)∧σ 2=some (.int i)) ?_ ⟨by walk_at "r",by walk_at "r",by walk_at "r"⟩ ?_ ?_
  ·walk_at "z"
   rfl
  ·rintro j σ hj ⟨f0,f1,f2⟩
   cases G i j with
   | none=>
    rw[ZcH]
    walk_at "z"
    exact⟨by walk_at "r",by walk_at "r",by walk_at "r"⟩
   | some b=>
    rw[ZbJ]
    walk_at "z"
    refine Pk.of Zop ?_
    walk_at "z"
    exact⟨by walk_at "r",by walk_at "r",by walk_at "r"⟩
  ·rintro σ ⟨f0,f1,f2⟩
   unfold Z8 Zay at f0
   walk_at "z"
   rw[hd i hi,ZbJ]
   walk_at "z"
   exact⟨by walk_at "r",by walk_at "r"⟩
 ·rintro σ ⟨e0,e1⟩
  walk_at "z"
  rfl
section
variable {Q:T→Prop}
theorem Zjz{p:PE}(h:Pk (p σ) fun t=>∃ts,t=.lst ts∧Q (.lst (ts.drop k))): Pk (ZeR p k σ) Q:=by
 obtain⟨_,e,ts,rfl,q⟩:=h
 exact⟨_,by simp only[ZeR,e,Option.bind_some],q⟩
end
noncomputable abbrev Sp:=Option Int×Option Int
noncomputable def spT(s:Sp): T:=.tup [oT s.1,oT s.2]
def SBd(k:Nat)(s:Sp): Prop:=(∀x,s.1=some x→Bd k x)∧∀x,s.2=some x→Bd k x
theorem Zsn{x:Int}(h:Bd k x): Bd k (Za4 x):=by unfold Za4;unfold Bd at *;split <;> omega
def InS(s:Sp)(x:Int): Prop:=(∀l,s.1=some l→l≤x)∧∀h,s.2=some h→x≤h
theorem Zg7{k:Int}(hi:i≤100000)(ha:∀x,a=some x→Bd i x)(hk:Bd i k): Zer [oT a,.int k]=some (oT (a.map fun x=>x*k)):=by
 apply Pk.eq
 unfold Zer ZmA
 cases a with
 | none=>
  simp only[ZcH,Option.map_none]
  walk_at "z"
  rfl
 | some x=>
  simp only[ZbJ,Option.map_some]
  walk_at "z"
  refine ZcW (ZdD (ha x rfl) hk (by omega) (by omega)) ?_
  rfl
noncomputable def Zed(s:Sp)(k:Int): Sp:=if k=0 then(some 0,some 0)else if k<0 then(s.2.map fun x=>x*k,s.1.map fun x=>x*k)else(s.1.map fun x=>x*k,s.2.map fun x=>x*k)
theorem ZtB{s:Sp}{k:Int}(hi:i≤100000)(hs:SBd i s)(hk:Bd i k): Zip [spT s,.int k]=some (spT (Zed s k)):=by
 apply Pk.eq
 unfold Zip Zk4 Zed spT
 by_cases c:k=0
 ·walk_at "z"
  rw[if_pos c]
  rfl
 ·rw[if_neg c]
  walk_at "z"
  refine Pk.of (Zg7 hi hs.1 hk) ?_
  walk_at "z"
  refine Pk.of (Zg7 hi hs.2 hk) ?_
  by_cases d:k<0
  ·walk_at "z"
   rw[if_pos d]
  ·walk_at "z"
   rw[if_neg d]
noncomputable def ZkF(s u:Sp): Sp:=(addO s.1 u.1,addO s.2 u.2)
theorem ZtM{s u:Sp}: Ziv [spT s,spT u]=some (spT (ZkF s u)):=by
 apply Pk.eq
 unfold Ziv Zlo spT
 walk_at "z"
 refine Pk.of Zf9 ?_
 walk_at "z"
 refine Pk.of Zf9 ?_
 walk_at "z"
 rfl
noncomputable def ZdP(c:Nat→Int)(S:Nat→Sp): Nat→Sp
 | 0=>(some (c 0),some (c 0))
 | j+1=>ZkF (ZdP c S j) (Zed (S j) (c (j+1)))
theorem ZoW: (tab (n+1) f).drop 1=tab n fun i=>f (i+1):=by
 apply List.ext_getElem
 ·simp[tab]
 ·intro i h1 h2
  simp[tab]
theorem ZtZ{S:Nat→Sp}(hn:n≤100)(hi:i≤100000)(bc:∀j,j<n+1→Bd i (c j))(bS:∀j,j<n→SBd i (S j)): Ziz [.lst (tab (n+1) fun j=>.int (c j)),.lst (tab n fun j=>spT (S j))]=some (spT (ZdP c S n)):=by
 apply Pk.eq
 unfold Ziz ZlC
 walk_at "z"
 refine Zfo (n:=n) (a:=fun j=>.int (c (j+1))) (c:=fun j=>spT (S j)) (P:=fun j σ=>σ 2=some (spT (ZdP c S j))) ?_ rfl ?_ ?_
 ·refine ZpF ?_
  refine Zjz ?_
  walk_at "z"
  refine⟨_,rfl,?_⟩
  rw[ZoW]
  walk_at "z"
  rfl
 ·rintro j σ hj e2
  walk_at "z"
  refine Pk.of (ZtB hi (bS j hj) (bc (j+1) (by omega))) ?_
  walk_at "z"
  refine Pk.of ZtM ?_
  walk_at "z"
  exact Zcb
 ·rintro σ e2
  walk_at "z"
  rfl
noncomputable def ZaG(c:Nat→Int)(R:Nat→Int×Int): Nat→Int×Int
 | 0=>(0,c 0)
 | j+1=>ZbW (ZaG c R j) (Zcd (R j) (c (j+1)))
noncomputable def Zbn(c:Nat→Int)(R:Nat→Int×Int): Nat→Int
 | 0=>0
 | j+1=>Int.gcd (Zbn c R j) (c (j+1)*(R j).1)
noncomputable def Zb0(c:Nat→Int)(R:Nat→Int×Int): Nat→Int
 | 0=>c 0
 | j+1=>Zb0 c R j+c (j+1)*(R j).2
theorem ZeD(c:Nat→Int)(R:Nat→Int×Int): ∀j,0≤Zbn c R j
 | 0=>by show(0:Int)≤0;decide
 | j+1=>by show(0:Int)≤((Int.gcd _ _:Nat):Int);omega
theorem Zpp{c:Nat→Int}{R:Nat→Int×Int}{n i:Nat}(bc:∀j,j<n+1→Bd i (c j))(bR:∀j,j<n→RBd i (R j)): ∀j,j≤n→Bd (i+i) (Zbn c R j)
 | 0,_=>ZaR
 | j+1,h=>Zkq (Zpp bc bR j (by omega)) ((bc (j+1) (by omega)).mul (bR j (by omega)).1)
theorem Zso{c:Nat→Int}{R:Nat→Int×Int}{n i:Nat}(bc:∀j,j<n+1→Bd i (c j))(bR:∀j,j<n→RBd i (R j)): ∀j,j≤n→Bd (i+i+j) (Zb0 c R j)
 | 0,_=>(bc 0 (by omega)).mono (by omega)
 | j+1,h=>(Zso bc bR j (by omega)).add (((bc (j+1) (by omega)).mul (bR j (by omega)).2).mono (by omega))
theorem ZqF{m a b:Int}(h:0≤m)(hd:m ∣ a-b): ZaA m a=ZaA m b:=by
 refine ZmV (ZcN h _) (ZcN h _) fun x=>?_
 rw[ZcM h,ZcM h]
 constructor
 ·intro q
  have:=Int.dvd_add q hd
  rwa [show x-a+(a-b)=x-b by omega]at this
 ·intro q
  have:=Int.dvd_sub q hd
  rwa [show x-b-(a-b)=x-a by omega]at this
theorem Zjo{m:Int}(h:0≤m): m ∣ (ZaA m r).2-r:=by
 have:=(ZcM (r:=r) h (ZaA m r).2).mp (ZcN h r).self
 exact this
theorem Zd0{m:Int}: (ZaA m r).1=m:=by
 unfold ZaA
 split
 ·rename_i h;exact h.symm
 ·rfl
theorem ZdE{c:Nat→Int}{R:Nat→Int×Int}{n:Nat}(ok:∀j,j<n→RestOk (R j)): ∀j,j≤n→ZaG c R j=ZaA (Zbn c R j) (Zb0 c R j)
 | 0,_=>rfl
 | j+1,h=>by
  have ih:=ZdE (c:=c) ok j (by omega)
  have h0:=ZeD c R j
  have hr:=(ok j (by omega)).nn
  show ZbW (ZaG c R j) (Zcd (R j) (c (j+1)))=_
  rw[ih]
  unfold ZbW Zcd
  rw[Zd0,Zd0]
  have hab:0≤(R j).1*Za4 (c (j+1)):=Int.mul_nonneg hr (Zd7 _)
  have eg:((Int.gcd (Zbn c R j) ((R j).1*Za4 (c (j+1))):Nat):Int)=Zbn c R (j+1):=by
   show _=((Int.gcd (Zbn c R j) (c (j+1)*(R j).1):Nat):Int)
   congr 1
   unfold Int.gcd
   rw[Int.natAbs_mul,Int.natAbs_mul,ZoT,Nat.mul_comm]
  rw[eg]
  have h1:Zbn c R (j+1) ∣ Zbn c R j:=Int.gcd_dvd_left ..
  have h2:Zbn c R (j+1) ∣ (R j).1*Za4 (c (j+1)):=by rw[←eg];exact Int.gcd_dvd_right ..
  refine ZqF (ZeD _ _ _) ?_
  have a1:=Int.dvd_trans h1 (Zjo (r:=Zb0 c R j) h0)
  have a2:=Int.dvd_trans h2 (Zjo (r:=(R j).2*c (j+1)) hab)
  have:=Int.dvd_add a1 a2
  rw[show Zb0 c R (j+1)=Zb0 c R j+c (j+1)*(R j).2 from rfl,Int.mul_comm (c (j+1))]
  generalize (ZaA (Zbn c R j) (Zb0 c R j)).2=u at *
  generalize (ZaA ((R j).1*Za4 (c (j+1))) ((R j).2*c (j+1))).2=v at *
  generalize (R j).2*c (j+1)=z at *
  rwa [show u-Zb0 c R j+(v-z)=u+v-(Zb0 c R j+z)by omega]at this
theorem Zrd{b:Option Int}: Zgo [oT a,oT b]=some (.bool (dec (∃x y,a=some x∧b=some y∧y<x))):=by
 apply Pk.eq
 unfold Zgo Zn4
 cases a with
 | none=>
  rw[ZcH]
  walk_at "z"
  rw[ZaO (by rintro⟨x,y,h,_⟩;cases h)]
 | some x=>
  cases b with
  | none=>
   rw[ZcH,ZbJ]
   walk_at "z"
   rw[ZaO (by rintro⟨x,y,_,h,_⟩;cases h)]
  | some y=>
   rw[ZbJ,ZbJ]
   walk_at "z"
   congr 1
   by_cases h:y<x
   ·rw[ZaI ⟨x,y,rfl,rfl,h⟩];simp[h]
   ·rw[ZaO (by rintro⟨x',y',h1,h2,h3⟩;cases h1;cases h2;exact h h3)];simp[h]
theorem ZwA{s:Sp}{x k:Int}(h:InS s x): InS (Zed s k) (k*x):=by
 unfold Zed
 obtain⟨a,b⟩:=s
 by_cases c:k=0
 ·rw[if_pos c,c,Int.zero_mul]
  exact⟨fun l e=>by cases e;omega,fun l e=>by cases e;omega⟩
 ·rw[if_neg c]
  by_cases d:k<0
  ·rw[if_pos d]
   refine⟨fun l e=>?_,fun l e=>?_⟩
   ·cases b with
    | none=>cases e
    | some y=>
     cases e
     have:=h.2 y rfl
     show y*k≤k*x
     rw[Int.mul_comm]
     exact Int.mul_le_mul_of_nonpos_left (a:=k) (by omega) this
   ·cases a with
    | none=>cases e
    | some y=>
     cases e
     have:=h.1 y rfl
     show k*x≤y*k
     rw[Int.mul_comm y]
     exact Int.mul_le_mul_of_nonpos_left (a:=k) (by omega) this
  ·rw[if_neg d]
   refine⟨fun l e=>?_,fun l e=>?_⟩
   ·cases a with
    | none=>cases e
    | some y=>
     cases e
     have:=h.1 y rfl
     show y*k≤k*x
     rw[Int.mul_comm]
     exact Int.mul_le_mul_of_nonneg_left this (show 0≤k by omega)
   ·cases b with
    | none=>cases e
    | some y=>
     cases e
     have:=h.2 y rfl
     show k*x≤y*k
     rw[Int.mul_comm y]
     exact Int.mul_le_mul_of_nonneg_left this (show 0≤k by omega)
theorem Zxt{s u:Sp}{x:Int}(h:InS s x)(k:InS u y): InS (ZkF s u) (x+y):=by
 refine⟨fun l e=>?_,fun l e=>?_⟩
 ·obtain⟨a,b,h1,h2,rfl⟩:=addO_some.mp e
  have:=h.1 a h1
  have:=k.1 b h2
  omega
 ·obtain⟨a,b,h1,h2,rfl⟩:=addO_some.mp e
  have:=h.2 a h1
  have:=k.2 b h2
  omega
noncomputable def Zaf(R:Nat→Int×Int): Nat→Int×Int:=cn (0,0) R
theorem ZAX(R:Nat→Int×Int): cn (T.tup [.int 0,.int 0]) (fun i=>ZP (R i))=fun i=>ZP (Zaf R i):=by
 funext i;cases i <;> rfl
theorem Zqs(hn:n<9000): ZfY [Zbd n R]=some (Zbd (n+1) (Zaf R)):=by
 apply Pk.eq
 unfold ZfY ZlE Zbd
 walk_at "z"
 rw[ZAX]
def RB(M:Int)(k:Nat)(q:Int×Int): Prop:=RestOk q∧(q.1=0∨q.1 ∣ M)∧Bd k q.2
theorem RB.mono(h:RB M i q)(hij:i≤j): RB M j q:=⟨h.1,h.2.1,h.2.2.mono hij⟩
theorem RB.bd(hM:0<M)(bM:Bd k M)(h:RB M k q): RBd k q:=by
 refine⟨?_,h.2.2⟩
 rcases h.2.1 with e | e
 ·rw[e];exact ZaR
 ·exact ZeS bM h.1.nn (Int.le_of_dvd hM e)
theorem Zey(h:∀t,t<n→RB M k (R t)): ∀i,i<n+1→RB M k (Zaf R i)
 | 0,_=>⟨.inl rfl,.inl rfl,ZaR⟩
 | i+1,hi=>h i (by omega)
def Zfs(n:Nat)(G:Nat→Nat→Option Int)(R:Nat→Int×Int)(i:Nat)(m:Nat)(x:Int): Prop:=Zal (Zaf R i) x∧∀j,j<m→∀a b,G i j=some a→G j i=some b→a+b=0→Zal (Zaf R j) (x-a)
def Zkr(n:Nat)(G:Nat→Nat→Option Int)(R:Nat→Int×Int)(M:Int)(k:Nat)(i m:Nat)(o:Option (Int×Int)): Prop:=match o with
 | none=>∀x,¬Zfs n G R i m x
 | some q=>RB M k q∧∀x,Zal q x↔Zfs n G R i m x
theorem ZuY(h:RestOk q)(a x:Int): Zal (ZbW q (0,a)) x↔Zal q (x-a):=by
 unfold ZbW
 rw[ZcM (by omega),Zbp h.nn]
 simp only[Int.gcd_zero_right]
 rw[Int.natAbs_of_nonneg h.nn,show x-(q.2+a)=x-a-q.2 by omega]
theorem ZtN(hn:n≤100)(hi:i<n+1)(hk:k≤7000)(hM:0<M)(bM:Bd k M)(bG:∀a b c,a<n+1→b<n+1→G a b=some c→Bd k c)(hR:∀t,t<n→RB M k (R t)): Pk (ZeW [Z8 (n+1) G,Zbd (n+1) (Zaf R),.int i]) fun t=>∃o,t=oR o∧Zkr n G R M (k+1) i (n+1) o:=by
 unfold ZeW Zlq
 have hF:=Zey hR
 have bM1:Bd (k+1) M:=bM.mono (by omega)
 have hr:Zbd (n+1) (Zaf R)=.lst (tab (n+1) fun i=>ZP (Zaf R i)):=rfl
 rw[hr]
 walk_at "z"
 refine Zfo (n:=n+1) (a:=fun j=>.int j) (c:=fun j=>ZP (Zaf R j)) (P:=fun m σ=>∃o,σ 0=some (Z8 (n+1) G)∧σ 1=some (.lst (tab (n+1) fun i=>ZP (Zaf R i)))∧σ 2=some (.int i)∧σ 3=some (oR o)∧Zkr n G R M (k+1) i m o) ?_ ⟨some (Zaf R i),by walk_at "r",by walk_at "r",by walk_at "r",by walk_at "r",(hF i hi).mono (by omega),fun x=>⟨fun h=>⟨h,by omega⟩,fun h=>h.1⟩⟩ ?_ ?_
 ·walk_at "z"
  rfl
 ·rintro j σ hj ⟨o,e0,e1,e2,e3,ho⟩
  unfold Z8 Zay at e0
  cases o with
  | none=>
   have e3':σ 3=some .none:=e3
   clear e3
   walk_at "z"
   refine⟨none,by walk_at "r",by walk_at "r",by walk_at "r",by walk_at "r",fun x h=>ho x ⟨h.1,fun j' hj'=>h.2 j' (by omega)⟩⟩
  | some q=>
   have e3':σ 3=some (.tup [.int q.1,.int q.2]):=e3
   clear e3
   walk_at "z"
   refine Pk.of Zf9 ?_
   walk_at "z"
   refine ZbT (Ztl (n:=0)) (.int (n:=0)) ?_
   walk_at "z"
   have stay:(∀a b,G i j=some a→G j i=some b→¬a+b=0)→Zkr n G R M (k+1) i (j+1) (some q):=fun h=>⟨ho.1,fun x=>(ho.2 x).trans ⟨fun hx=>⟨hx.1,fun j' hj' a b ha hb hab=>by
     by_cases q':j'=j
     ·subst q';exact absurd hab (h a b ha hb)
     ·exact hx.2 j' (by omega) a b ha hb hab⟩,fun hx=>⟨hx.1,fun j' hj'=>hx.2 j' (by omega)⟩⟩⟩
   refine⟨fun e=>?_,fun e=>?_⟩
   ·have e':=dec_iff.mp e
    rw[←ZbJ,ZzY]at e'
    obtain⟨a,b,ha,hb,hab⟩:=addO_some.mp e'
    walk_at "z"
    rw[ha,ZbJ]
    have hj2:=hF j hj
    have ba:=bG i j a hi hj ha
    refine Pk.of (Zmh (p:=Zaf R j) (q:=(0,a)) (k:=k) (by omega) (hj2.bd hM bM).1 ZaR) ?_
    have hpl:RB M (k+1) (ZbW (Zaf R j) (0,a)):=by
     refine⟨ZoU _ _,?_,?_⟩
     ·unfold ZbW ZaA
      simp only[Int.gcd_zero_right]
      rw[Int.natAbs_of_nonneg hj2.1.nn]
      split
      ·exact .inl rfl
      ·exact hj2.2.1
     ·have hm:=(hj2.bd hM bM).1
      refine(Zjy (k:=k+1) (by omega) ?_ (Bd.add hj2.2.2 ba)).2
      simp only[Int.gcd_zero_right]
      rw[Int.natAbs_of_nonneg hj2.1.nn]
      exact hm.mono (by omega)
    walk_at "z"
    refine(Zi2 (p:=q) (q:=ZbW (Zaf R j) (0,a)) (k:=k+1) (by omega) ho.1.1 hpl.1 (ho.1.bd hM bM1) (hpl.bd hM bM1)).mono ?_
    rintro _ ⟨o',rfl,mt,wh⟩
    refine⟨o',by walk_at "r",by walk_at "r",by walk_at "r",by walk_at "r",?_⟩
    have hset:∀x,(Zal q x∧Zal (ZbW (Zaf R j) (0,a)) x)↔Zfs n G R i (j+1) x:=fun x=>by
     rw[ho.2 x,ZuY hj2.1]
     constructor
     ·rintro⟨h1,h2⟩
      refine⟨h1.1,fun j' hj' c d hc hd hcd=>?_⟩
      by_cases q':j'=j
      ·subst q';rw[ha]at hc;cases hc;exact h2
      ·exact h1.2 j' (by omega) c d hc hd hcd
     ·intro h
      exact⟨⟨h.1,fun j' hj'=>h.2 j' (by omega)⟩,h.2 j (by omega) a b ha hb hab⟩
    cases o' with
    | none=>exact fun x hx=>mt x ((hset x).mpr hx)
    | some r=>
     refine⟨⟨mt.1,?_,?_⟩,fun x=>(mt.2 x).trans (hset x)⟩
     ·rcases wh r rfl with h | h | ⟨h1,h2,h3⟩
      ·rw[h];exact ho.1.2.1
      ·rw[h];exact hpl.2.1
      ·right
       rw[h3]
       exact Int.coe_lcm_dvd (ho.1.2.1.resolve_left h1) (hpl.2.1.resolve_left h2)
     ·rcases wh r rfl with h | h | ⟨h1,h2,h3⟩
      ·rw[h];exact ho.1.2.2
      ·rw[h];exact hpl.2.2
      ·rcases mt.1 with z | z
       ·have:(Int.lcm q.1 (ZbW (Zaf R j) (0,a)).1)≠0:=Int.lcm_ne_zero h1 h2
        omega
       ·have hd:r.1 ∣ M:=by
         rw[h3]
         exact Int.coe_lcm_dvd (ho.1.2.1.resolve_left h1) (hpl.2.1.resolve_left h2)
        exact ZeS bM1 z.2.1 (by have:=Int.le_of_dvd hM hd;omega)
   ·walk_at "z"
    refine⟨some q,by walk_at "r",by walk_at "r",by walk_at "r",by walk_at "r",stay fun a b ha hb hab=>?_⟩
    have:dec (oT (addO (G i j) (G j i))=.int 0)=true:=ZaI (by rw[ha,hb];simp[addO,oT,hab])
    rw[this]at e
    cases e
 ·rintro σ ⟨o,e0,e1,e2,e3,ho⟩
  walk_at "z"
  exact⟨o,rfl,ho⟩
theorem ZAg: Zcu 1 1 1=some []:=by
 unfold Zcu
 rw[if_pos (by decide +kernel)]
 rfl
theorem Zp5: Pln 1 (oR o):=by
 cases o with
 | none=>exact .none
 | some q=>exact Zki
theorem oR_none: oR o=.none↔o=none:=by cases o <;> simp[oR,ZP]
def Hand(n:Nat)(G:Nat→Nat→Option Int)(R R':Nat→Int×Int)(M:Int)(k:Nat): Prop:=∀t,t<n→RB M k (R' t)∧∀x,Zal (R' t) x↔Zfs n G R (t+1) (n+1) x
theorem Zt0(hn:n≤100)(hk:k≤7000)(hM:0<M)(bM:Bd k M)(bG:∀a b c,a<n+1→b<n+1→G a b=some c→Bd k c)(hR:∀t,t<n→RB M k (R t)): Pk (ZdT [Zs n G R]) fun t=>(∃R',t=Zs n G R'∧Hand n G R R' M (k+1))∨(t=.none∧∃i,i<n∧∀x,¬Zfs n G R (i+1) (n+1) x):=by
 unfold ZdT Zg1
 have ht:Zs n G R=.tup [Z8 (n+1) G,Zbd n R]:=rfl
 rw[ht]
 walk_at "z"
 refine Pk.of (Zqs (by omega)) ?_
 have hr:Zbd (n+1) (Zaf R)=.lst (tab (n+1) fun i=>ZP (Zaf R i)):=rfl
 walk_at "z"
 refine Zrp oR (fun t o=>Zkr n G R M (k+1) (t+1) (n+1) o) (n:=n) (a:=fun i=>.int (i+1)) (by omega) ?_ (fun t ht=>?_) none (fun y hy=>?_)
 ·by_cases h0:n=0
  ·subst h0
   exact⟨[],ZhS (a:=1) (b:=1) rfl ZAg,rfl⟩
  ·rw[hr]
   walk_at "z"
   refine Rn.two 1 n (by decide) (by omega) (by omega) (by omega) ?_
   refine ZaS fun i _=>?_
   congr 1
   omega
 ·walk_at "z"
  refine(ZtN (i:=t+1) hn (by omega) hk hM bM bG hR).mono ?_
  rintro _ ⟨o,rfl,ho⟩
  exact⟨o,rfl,ho⟩
 ·walk_at "z"
  refine ZkB (.none (n:=0)) (Zfy (n:=1) fun i _=>Zp5) ?_
  by_cases hc:∃i,i<n∧y i=none
  ·obtain⟨i,hi,ei⟩:=hc
   rw[ZaI (show T.none∈tab n fun i=>oR (y i)from List.mem_of_getElem? (i:=i) (by rw[Za7 hi,ei];rfl))]
   walk_at "z"
   refine .inr ⟨rfl,i,hi,?_⟩
   have:=hy i hi
   rw[ei]at this
   exact this
  ·rw[ZaO (show ¬T.none∈tab n fun i=>oR (y i)from fun h=>by
    obtain⟨i,hi,e⟩:=ZcQ h
    exact hc ⟨i,hi,oR_none.mp e.symm⟩)]
   walk_at "z"
   have hs:∀i,i<n→y i=some ((y i).getD (1,0)):=fun i hi=>by
    cases e:y i with
    | none=>exact absurd ⟨i,hi,e⟩ hc
    | some q=>rfl
   refine .inl ⟨fun i=>(y i).getD (1,0),?_,fun t ht=>?_⟩
   ·unfold Zs Zbd
    congr 4
    refine ZaS fun i hi=>?_
    conv=>lhs;rw[hs i hi]
    rfl
   ·have:=hy t ht
    rw[hs t ht]at this
    exact this
theorem Zql: ZdT [.none]=some .none:=by
 apply Pk.eq
 unfold ZdT Zg1
 walk_at "z"
 rfl
noncomputable def Zbs(R:Nat→Int×Int)(i j:Nat): Int×Int:=ZbW (Zaf R i) (Zcd (Zaf R j) (-1))
noncomputable def Zcg(b:Option Int)(q:Int×Int): Option Int:=match b with
 | some b=>ZeM q b
 | none=>if q.1=0 then some q.2 else none
noncomputable def Zbo(G:Nat→Nat→Option Int)(R:Nat→Int×Int): Nat→Nat→Option Int:=fun i j=>Zcg (G i j) (Zbs R i j)
def ZgA(n:Nat)(G:Nat→Nat→Option Int)(R:Nat→Int×Int): Prop:=∃i j,i<n+1∧j<n+1∧∃b,G i j=some b∧Zbo G R i j=none
theorem ZtC{b:Option Int}(hq:0≤q.1): Ziq [oT b,ZP q]=some (oT (Zcg b q)):=by
 apply Pk.eq
 unfold Ziq Zk7 Zcg
 cases b with
 | none=>
  have ep:ZP q=.tup [.int q.1,.int q.2]:=rfl
  rw[ZcH,ep]
  by_cases c:q.1=0
  ·walk_at "z"
   simp[c,oT]
  ·walk_at "z"
   simp[c,oT]
 | some b=>
  rw[ZbJ]
  walk_at "z"
  exact Pk.of (Zuj hq) rfl
theorem Zt1{b:Nat→Option Int}(hn:n≤100)(hi:i<n+1)(hk:k≤7000)(hM:0<M)(bM:Bd k M)(hR:∀t,t<n→RB M k (R t)): Pk (ZiA [Zay (n+1) b,ZP (Zaf R i),Zbd (n+1) (Zaf R)]) fun t=>(t=Zay (n+1) (fun j=>Zcg (b j) (Zbs R i j))∧∀j,j<n+1→∀c,b j=some c→Zcg (b j) (Zbs R i j)≠none)∨(t=.none∧∃j,j<n+1∧∃c,b j=some c∧Zcg (b j) (Zbs R i j)=none):=by
 unfold ZiA ZlI
 have hF:=Zey hR
 have hb:Zay (n+1) b=.lst (tab (n+1) fun j=>oT (b j)):=rfl
 have hr:Zbd (n+1) (Zaf R)=.lst (tab (n+1) fun i=>ZP (Zaf R i)):=rfl
 rw[hb,hr]
 walk_at "z"
 refine Zfo (n:=n+1) (a:=fun j=>oT (b j)) (c:=fun j=>ZP (Zaf R j)) (P:=fun m σ=>σ 1=some (ZP (Zaf R i))∧σ 3=some (.lst (tab m fun j=>oT (Zcg (b j) (Zbs R i j))))∧∀j,j<m→∀c,b j=some c→Zcg (b j) (Zbs R i j)≠none) ?_ ⟨by walk_at "r",by walk_at "r",by omega⟩ ?_ ?_
 ·walk_at "z"
  rfl
 ·rintro j σ hj ⟨e1,e3,st⟩
  have h1:=hF i hi
  have h2:=hF j hj
  have b1:=h1.bd hM bM
  have b2:=h2.bd hM bM
  have bt:Bd (k+1) (Zcd (Zaf R j) (-1)).1:=by
   refine(Zjy (k:=k+1) (Int.mul_nonneg h2.1.nn (Zd7 _)) ?_ ?_).1
   ·have:=Bd.mul b2.1 (show Bd 1 (Za4 (-1))by unfold Bd;decide);exact this
   ·have:=Bd.mul b2.2 (show Bd 1 (-1)by unfold Bd;decide);exact this
  walk_at "z"
  refine Pk.of (ZlY (p:=Zaf R j) (c:=-1) (k:=k+1) (by omega) h2.1.nn ⟨b2.1.mono (by omega),b2.2.mono (by omega)⟩ (show Bd (k+1) (-1)from(show Bd 1 (-1)by unfold Bd;decide).mono (by omega))) ?_
  walk_at "z"
  refine Pk.of (Zmh (k:=k+1) (by omega) (b1.1.mono (by omega)) bt) ?_
  walk_at "z"
  refine Pk.of (ZtC (ZoU _ _).nn) ?_
  have hd:ZbW (Zaf R i) (Zcd (Zaf R j) (-1))=Zbs R i j:=rfl
  rw[hd]
  walk_at "z"
  have app:∀w,w=oT (Zcg (b j) (Zbs R i j))→tab j (fun j=>oT (Zcg (b j) (Zbs R i j)))++[w]=tab (j+1) fun j=>oT (Zcg (b j) (Zbs R i j)):=fun w e=>by rw[e];exact Zd3
  cases hl:Zcg (b j) (Zbs R i j)with
  | none=>
   rw[ZcH]
   walk_at "z"
   cases hbj:b j with
   | none=>
    rw[ZcH]
    walk_at "z"
    rw[app _ (by rw[hl];rfl)]
    refine⟨by walk_at "r",by walk_at "r",fun j' hj' c hc=>?_⟩
    by_cases q:j'=j
    ·subst q;rw[hbj]at hc;cases hc
    ·exact st j' (by omega) c hc
   | some c=>
    rw[ZbJ]
    walk_at "z"
    exact .inr ⟨rfl,j,hj,c,hbj,hl⟩
  | some v=>
   rw[ZbJ]
   walk_at "z"
   rw[app _ (by rw[hl];rfl)]
   refine⟨by walk_at "r",by walk_at "r",fun j' hj' c hc=>?_⟩
   by_cases q:j'=j
   ·subst q;rw[hl];simp
   ·exact st j' (by omega) c hc
 ·rintro σ ⟨e1,e3,st⟩
  walk_at "z"
  exact .inl ⟨rfl,st⟩
noncomputable def ZgS(n:Nat): Option (Nat→Option Int)→T
 | none=>.none
 | some b=>Zay n b
theorem ZyL{o:Option (Nat→Option Int)}: Pln 1 (ZgS n o):=by
 cases o with
 | none=>exact .none
 | some q=>exact Zsd
theorem ZvG{a b:Nat→T}{f:PE}(e:β→T)(P:Nat→β→Prop)(hn:n<10000)(hg:Pl (g σ) fun ts=>ts=tab n fun i=>.tup [a i,b i])(hf:∀i,i<n→Pk (f (Z7 (Z7 σ j (a i)) k (b i))) fun t=>∃y,t=e y∧P i y)(d:β)(h:∀y:Nat→β,(∀i,i<n→P i (y i))→Q (.lst (tab n fun i=>e (y i)))): Pk (Zax g (Zcs j k) Zaq f σ) Q:=by
 have hc:∃y:Nat→β,∀i,i<n→Pk (f (Z7 (Z7 σ j (a i)) k (b i))) (fun t=>t=e (y i))∧P i (y i):=by
  have hx:∀i,∃y:β,i<n→Pk (f (Z7 (Z7 σ j (a i)) k (b i))) (fun t=>t=e y)∧P i y:=fun i=>by
   by_cases q:i<n
   ·obtain⟨t,e1,y,e2,p⟩:=hf i q
    exact⟨y,fun _=>⟨⟨t,e1,e2⟩,p⟩⟩
   ·exact⟨d,fun h=>absurd h q⟩
  exact⟨fun i=>Classical.choose (hx i),fun i=>Classical.choose_spec (hx i)⟩
 obtain⟨y,hy⟩:=hc
 exact ZoC hn hg (fun i hi=>(hy i hi).1) (h y fun i hi=>(hy i hi).2)
theorem oRow_none{o:Option (Nat→Option Int)}: ZgS n o=.none↔o=none:=by cases o <;> simp[ZgS,Zay]
theorem ZvH(hn:n≤100)(hk:k≤7000)(hM:0<M)(bM:Bd k M)(hR:∀t,t<n→RB M k (R t)): Pk (Zgp [Zs n G R]) fun t=>(t=Zs n (Zbo G R) R∧¬ZgA n G R)∨(t=.none∧ZgA n G R):=by
 unfold Zgp Zjx
 have ht:Zs n G R=.tup [.lst (tab (n+1) fun i=>Zay (n+1) (G i)),Zbd n R]:=rfl
 rw[ht]
 walk_at "z"
 refine Pk.of (Zqs (by omega)) ?_
 have hr:Zbd (n+1) (Zaf R)=.lst (tab (n+1) fun i=>ZP (Zaf R i)):=rfl
 walk_at "z"
 refine ZvG (ZgS (n+1)) (fun i o=>match o with
  | none=>∃j,j<n+1∧∃c,G i j=some c∧Zbo G R i j=none
  | some b=>b=Zbo G R i∧∀j,j<n+1→∀c,G i j=some c→Zbo G R i j≠none) (n:=n+1) (a:=fun i=>Zay (n+1) (G i)) (b:=fun i=>ZP (Zaf R i)) (by omega) ?_ (fun i hi=>?_) none (fun y hy=>?_)
 ·rw[hr]
  walk_at "z"
  rfl
 ·walk_at "z"
  refine(Zt1 hn hi hk hM bM hR).mono ?_
  rintro t (⟨rfl,h⟩ | ⟨rfl,h⟩)
  ·exact⟨some (Zbo G R i),rfl,rfl,h⟩
  ·exact⟨none,rfl,h⟩
 ·walk_at "z"
  refine ZkB (.none (n:=0)) (Zfy (n:=1) fun i _=>ZyL) ?_
  by_cases hc:∃i,i<n+1∧y i=none
  ·obtain⟨i,hi,ei⟩:=hc
   rw[ZaI (show T.none∈tab (n+1) fun i=>ZgS (n+1) (y i)from List.mem_of_getElem? (i:=i) (by rw[Za7 hi,ei];rfl))]
   walk_at "z"
   have:=hy i hi
   rw[ei]at this
   obtain⟨j,hj,c,h1,h2⟩:=this
   exact .inr ⟨rfl,i,j,hi,hj,c,h1,h2⟩
  ·rw[ZaO (show ¬T.none∈tab (n+1) fun i=>ZgS (n+1) (y i)from fun h=>by
    obtain⟨i,hi,e⟩:=ZcQ h
    exact hc ⟨i,hi,oRow_none.mp e.symm⟩)]
   walk_at "z"
   have hs:∀i,i<n+1→y i=some (Zbo G R i)∧∀j,j<n+1→∀c,G i j=some c→Zbo G R i j≠none:=fun i hi=>by
    have:=hy i hi
    cases e:y i with
    | none=>exact absurd ⟨i,hi,e⟩ hc
    | some b=>rw[e]at this;exact⟨by rw[this.1],this.2⟩
   refine .inl ⟨?_,?_⟩
   ·unfold Zs Z8
    congr 3
    refine ZaS fun i hi=>?_
    rw[(hs i hi).1]
    rfl
   ·rintro⟨i,j,hi,hj,c,h1,h2⟩
    exact(hs i hi).2 j hj c h1 h2
theorem ZqG: Zgp [.none]=some .none:=by
 apply Pk.eq
 unfold Zgp Zjx
 walk_at "z"
 rfl
theorem ZwB: ZeK [.none]=some .none:=by
 apply Pk.eq
 unfold ZeK Zkn
 walk_at "z"
 rfl
def Zc1(n:Nat)(G:Nat→Nat→Option Int): Prop:=∃m,m<n∧Neg n (clG G (m+1))
theorem ZyM(hn:n≤100)(hd:∀i,i<n+1→G i i=some 0): Pk (ZeK [Zs n G R]) fun t=>(t=Zs n (clG G (n+1)) R∧¬Zc1 (n+1) G)∨(t=.none∧Zc1 (n+1) G):=by
 unfold ZeK Zkn
 have ht:Zs n G R=.tup [Z8 (n+1) G,Zbd n R]:=rfl
 rw[ht]
 walk_at "z"
 refine(Zwy (n:=n+1) (by omega) (by omega) fun i hi=>⟨0,hd i hi⟩).mono ?_
 rintro t (⟨rfl,h⟩ | ⟨rfl,h⟩)
 ·have hg:Z8 (n+1) (clG G (n+1))=.lst (tab (n+1) fun i=>Zay (n+1) (clG G (n+1) i)):=rfl
  rw[hg]
  walk_at "z"
  exact .inl ⟨rfl,fun⟨m,hm,q⟩=>h m hm q⟩
 ·walk_at "z"
  exact .inr ⟨rfl,h⟩
def BdG(n k:Nat)(G:Nat→Nat→Option Int): Prop:=∀a b c,a<n→b<n→G a b=some c→Bd k c
theorem Zid{n k:Nat}{G:Nat→Nat→Option Int}(h:BdG n k G): ∀m,m≤n→BdG n (k+m) (clG G m)
 | 0,_=>h
 | m+1,hm=>fun a b c ha hb e=>by
  have ih:=Zid h m (by omega)
  rcases ZeC (clG G m a b) (addO (clG G m a m) (clG G m m b))with e1 | e1
  ·rw[show clG G (m+1) a b=_ from e1]at e
   exact(ih a b c ha hb e).mono (by omega)
  ·rw[show clG G (m+1) a b=_ from e1]at e
   obtain⟨p,q,h1,h2,rfl⟩:=addO_some.mp e
   exact Bd.add (ih a m p ha (by omega) h1) (ih m b q (by omega) hb h2)
theorem Zre(h:RestOk q): Zcd q (-1)=ZaA q.1 (-q.2):=by
 unfold Zcd
 rw[show Za4 (-1)=1 from rfl,Int.mul_one,Int.mul_neg,Int.mul_one]
theorem ZnS{m:Int}: (ZaA m r).1=m:=by
 unfold ZaA;split
 ·rename_i c;exact c.symm
 ·rfl
theorem ZjI(hi:RestOk (Zaf R i))(hj:RestOk (Zaf R j))(x:Int): Zal (Zbs R i j) x↔((Int.gcd (Zaf R i).1 (Zaf R j).1:Nat):Int) ∣ x-((Zaf R i).2-(Zaf R j).2):=by
 unfold Zbs ZbW
 rw[ZcM (by omega),Zre hj,ZnS]
 have hr:=ZcM hj.nn (r:=-(Zaf R j).2) (ZaA (Zaf R j).1 (-(Zaf R j).2)).2
 have hs:=(hr.mp (ZcN hj.nn _).self)
 generalize (ZaA (Zaf R j).1 (-(Zaf R j).2)).2=s at *
 have hg:((Int.gcd (Zaf R i).1 (Zaf R j).1:Nat):Int) ∣ s - -(Zaf R j).2:=Int.dvd_trans (Int.gcd_dvd_right ..) hs
 constructor
 ·intro h
  have:=Int.dvd_add h hg
  rwa [show x-((Zaf R i).2+s)+(s - -(Zaf R j).2)=x-((Zaf R i).2-(Zaf R j).2)by omega]at this
 ·intro h
  have:=Int.dvd_sub h hg
  rwa [show x-((Zaf R i).2-(Zaf R j).2)-(s - -(Zaf R j).2)=x-((Zaf R i).2+s)by omega]at this
theorem Zoq{b c:Int}(h0:RestOk q)(h:ZeM q b=some c): c≤b∧Zal q c∧(q.1=0∨b-c<q.1):=by
 unfold ZeM at h
 split at h
 ·rename_i z
  split at h
  ·cases h
   exact⟨by assumption,h0.self,.inl z⟩
  ·cases h
 ·rename_i z
  cases h
  have hp:0<q.1:=by have:=h0.nn;omega
  have h1:=Int.emod_nonneg (b-q.2) z
  have h2:=Int.emod_lt_of_pos (b-q.2) hp
  refine⟨by omega,?_,.inr (by omega)⟩
  rw[Zbp h0.nn]
  have h3:=Int.emod_add_mul_ediv (b-q.2) q.1
  exact⟨(b-q.2) / q.1,by omega⟩
theorem ZnT{b x:Int}(h0:RestOk q)(hx:Zal q x)(hb:x≤b): ∃c,ZeM q b=some c∧x≤c:=by
 unfold ZeM
 rw[Zbp h0.nn]at hx
 split
 ·rename_i z
  rw[z,Int.zero_dvd]at hx
  rw[if_pos (by omega)]
  exact⟨_,rfl,by omega⟩
 ·rename_i z
  have hp:0<q.1:=by have:=h0.nn;omega
  refine⟨_,rfl,?_⟩
  obtain⟨t,ht⟩:=hx
  have h3:=Int.emod_add_mul_ediv (b-q.2) q.1
  have h2:=Int.emod_lt_of_pos (b-q.2) hp
  have h4:t≤(b-q.2) / q.1:=Int.le_ediv_of_mul_le hp (by rw[Int.mul_comm];omega)
  have h5:q.1*t≤q.1*((b-q.2) / q.1):=Int.mul_le_mul_of_nonneg_left h4 (by omega)
  omega
theorem ZeE(R:Nat→Int×Int)(i j:Nat): RestOk (Zbs R i j):=ZoU _ _
theorem ZyN(h:∀b,G i j=some b→Zbo G R i j≠none): leO (Zbo G R i j) (G i j):=by
 intro b e
 have hn:=h b e
 unfold Zbo at hn ⊢
 rw[e]at hn ⊢
 cases hc:Zcg (some b) (Zbs R i j)with
 | none=>exact absurd hc hn
 | some c=>exact⟨c,rfl,(Zoq (ZeE R i j) hc).1⟩
theorem Zs1(hM:0<M)(bM:Bd k M)(hG:BdG (n+1) k G)(hR:∀t,t<n→RB M k (R t)): BdG (n+1) (k+1) (Zbo G R):=by
 intro i j c hi hj e
 have h1:=Zey hR i hi
 have h2:=Zey hR j hj
 have hd1:(Zbs R i j).1=((Int.gcd (Zaf R i).1 (Zaf R j).1:Nat):Int):=by
  unfold Zbs ZbW
  rw[ZnS,Zre h2.1,ZnS]
 have hb1:=(h1.bd hM bM).1
 have hb2:=(h2.bd hM bM).1
 have hm:Bd k (Zbs R i j).1:=by
  rw[hd1]
  by_cases z:(Zaf R i).1=0
  ·rw[z,Int.gcd_zero_left]
   unfold Bd at *
   simpa using hb2
  ·have:=Int.gcd_le_natAbs_left (b:=(Zaf R j).1) z
   unfold Bd at *
   simp only[Int.natAbs_natCast]
   omega
 unfold Zbo Zcg at e
 cases hg:G i j with
 | some b=>
  rw[hg]at e
  obtain⟨u1,u2,u3⟩:=Zoq (ZeE R i j) e
  have hbb:=hG i j b hi hj hg
  rcases u3 with z | z
  ·have hx:=(ZjI h1.1 h2.1 c).mp u2
   rw[hd1]at z
   rw[z,Int.zero_dvd]at hx
   have:c=(Zaf R i).2-(Zaf R j).2:=by omega
   rw[this]
   exact Bd.sub h1.2.2 h2.2.2
  ·unfold Bd at *
   rw[Nat.pow_succ]
   omega
 | none=>
  rw[hg]at e
  simp only at e
  split at e
  ·rename_i z
   cases e
   have hx:=(ZjI h1.1 h2.1 (Zbs R i j).2).mp (ZeE R i j).self
   rw[hd1]at z
   rw[z,Int.zero_dvd]at hx
   have:(Zbs R i j).2=(Zaf R i).2-(Zaf R j).2:=by omega
   rw[this]
   exact Bd.sub h1.2.2 h2.2.2
  ·cases e
def ZjJ(n:Nat)(C:Nat→Nat→Option Int)(R:Nat→Int×Int): Prop:=∃i,i<n∧∀x,¬Zfs n C R (i+1) (n+1) x
theorem Zsp(h:Pk (ZY 1 Zko ts) fun t=>ZhU t=true∧Q t): Pk (ZfB ts) Q:=by
 obtain⟨t,e,o,q⟩:=h
 exact⟨t,by simp only[ZfB,e,Option.bind_some,o,if_true],q⟩
theorem ZyO: ZhU (Zs n G R)=true:=Zrn fun _ _=>Zfj
theorem Zsq(hn:n≤100)(hk:k+n+1≤7000)(hM:0<M)(bM:Bd k M)(hd:∀i,i<n+1→G i i=some 0)(bG:BdG (n+1) k G)(hR:∀t,t<n→RB M k (R t)): Pk (ZfB [Zs n G R]) fun t=>(∃R',t=Zs n (clG G (n+1)) R'∧¬Zc1 (n+1) G∧Hand n (clG G (n+1)) R R' M (k+n+2))∨(t=.none∧(Zc1 (n+1) G∨(¬Zc1 (n+1) G∧ZjJ n (clG G (n+1)) R))):=by
 refine Zsp ?_
 unfold Zko
 walk_at "z"
 refine(ZyM hn hd).mono ?_
 rintro t (⟨rfl,h⟩ | ⟨rfl,h⟩)
 ·walk_at "z"
  refine(Zt0 (k:=k+n+1) hn hk hM (bM.mono (by omega)) (Zid bG (n+1) (by omega)) (fun t ht=>(hR t ht).mono (by omega))).mono ?_
  rintro t (⟨R',rfl,h2⟩ | ⟨rfl,h2⟩)
  ·exact⟨ZyO,.inl ⟨R',rfl,h,h2⟩⟩
  ·exact⟨rfl,.inr ⟨rfl,.inr ⟨h,h2⟩⟩⟩
 ·walk_at "z"
  exact Pk.of Zql ⟨rfl,.inr ⟨rfl,.inl h⟩⟩
theorem ZjA: ZfB [.none]=some .none:=by
 apply Pk.eq
 refine Zsp ?_
 unfold Zko
 walk_at "z"
 refine Pk.of ZwB ?_
 walk_at "z"
 exact Pk.of Zql ⟨rfl,rfl⟩
theorem ZrR(hR:∀i,i<n+1→RestOk (Zaf R i))(hd:∀i,i<n+1→G i i=some 0): ∀i,i<n+1→Zbo G R i i=some 0:=by
 intro i hi
 unfold Zbo Zcg
 rw[hd i hi]
 have h0:Zal (Zbs R i i) 0:=(ZjI (hR i hi) (hR i hi) 0).mpr (by simp)
 obtain⟨c,e,hc⟩:=ZnT (ZeE R i i) h0 (Int.le_refl 0)
 have:=(Zoq (ZeE R i i) e).1
 show ZeM (Zbs R i i) 0=some 0
 rw[e,show c=0 by omega]
structure Sharp(n:Nat)(G:Nat→Nat→Option Int)(R:Nat→Int×Int)(G2:Nat→Nat→Option Int)(R2:Nat→Int×Int)(M:Int)(k:Nat): Prop where
 go:∃R1,¬Zc1 (n+1) G∧Hand n (clG G (n+1)) R R1 M k∧¬ZgA n (clG G (n+1)) R1∧¬Zc1 (n+1) (Zbo (clG G (n+1)) R1)∧G2=clG (Zbo (clG G (n+1)) R1) (n+1)∧Hand n G2 R1 R2 M k
def Zrr(n:Nat)(G:Nat→Nat→Option Int)(R:Nat→Int×Int)(M:Int)(k:Nat): Prop:=Zc1 (n+1) G∨(¬Zc1 (n+1) G∧ZjJ n (clG G (n+1)) R)∨∃R1,¬Zc1 (n+1) G∧Hand n (clG G (n+1)) R R1 M k∧(ZgA n (clG G (n+1)) R1∨(¬ZgA n (clG G (n+1)) R1∧(Zc1 (n+1) (Zbo (clG G (n+1)) R1)∨(¬Zc1 (n+1) (Zbo (clG G (n+1)) R1)∧ZjJ n (clG (Zbo (clG G (n+1)) R1) (n+1)) R1))))
theorem Hand.mono(h:Hand n G R R' M i)(hij:i≤j): Hand n G R R' M j:=fun t ht=>⟨(h t ht).1.mono hij,(h t ht).2⟩
theorem ZrS(hn:n≤100)(hk:k+2*n+4≤7000)(hM:0<M)(bM:Bd k M)(hd:∀i,i<n+1→G i i=some 0)(bG:BdG (n+1) k G)(hR:∀t,t<n→RB M k (R t)): Pk (ZaK [Zs n G R]) fun t=>(∃G2 R2,t=Zs n G2 R2∧Sharp n G R G2 R2 M (k+2*n+5))∨(t=.none∧Zrr n G R M (k+n+2)):=by
 unfold ZaK ZjX
 walk_at "z"
 refine(Zsq hn (by omega) hM bM hd bG hR).mono ?_
 rintro t (⟨R1,rfl,nr,h1⟩ | ⟨rfl,h⟩)
 ·have hR1:∀t,t<n→RB M (k+n+2) (R1 t):=fun t ht=>(h1 t ht).1
  have hF1:=Zey hR1
  have z1:=Zj2 hd (m:=n+1) fun m hm q=>nr ⟨m,hm,q⟩
  walk_at "z"
  refine(ZvH hn (by omega) hM (bM.mono (by omega)) hR1).mono ?_
  rintro t (⟨rfl,nl⟩ | ⟨rfl,fl⟩)
  ·walk_at "z"
   have bG1:BdG (n+1) (k+n+3) (Zbo (clG G (n+1)) R1):=Zs1 hM (bM.mono (by omega)) (fun a b c ha hb e=>(Zid bG (n+1) (by omega) a b c ha hb e).mono (by omega)) hR1
   refine(Zsq (k:=k+n+3) hn (by omega) hM (bM.mono (by omega)) (ZrR (fun i hi=>(hF1 i hi).1) z1) bG1 (fun t ht=>(hR1 t ht).mono (by omega))).mono ?_
   rintro t (⟨R2,rfl,nr2,h2⟩ | ⟨rfl,h2⟩)
   ·exact .inl ⟨_,R2,rfl,⟨R1,nr,h1.mono (by omega),nl,nr2,rfl,h2.mono (by omega)⟩⟩
   ·exact .inr ⟨rfl,.inr (.inr ⟨R1,nr,h1,.inr ⟨nl,h2⟩⟩)⟩
  ·walk_at "z"
   exact Pk.of ZjA (.inr ⟨rfl,.inr (.inr ⟨R1,nr,h1,.inl fl⟩)⟩)
 ·walk_at "z"
  refine Pk.of ZqG ?_
  walk_at "z"
  refine Pk.of ZjA (.inr ⟨rfl,?_⟩)
  rcases h with h | h
  ·exact .inl h
  ·exact .inr (.inl h)
theorem ZvI: ZaK [.none]=some .none:=by
 apply Pk.eq
 unfold ZaK ZjX
 walk_at "z"
 refine Pk.of ZjA ?_
 walk_at "z"
 refine Pk.of ZqG ?_
 walk_at "z"
 exact Pk.of ZjA rfl
theorem Zho(h:Zar n G R x): Zar n (clG G (n+1)) R x:=⟨fun i j hi hj b e=>ZoV (Zrc h) (n+1) (by omega) i j hi hj b e,h.2⟩
theorem ZqU(h:Zar n G R x): ¬Zc1 (n+1) G:=fun⟨m,hm,q⟩=>Zwz (ZoV (Zrc h) (m+1) (by omega)) q
theorem Zor(h:Zar n G R x): ∀i,i<n+1→Zal (Zaf R i) (Zaj x i)
 | 0,_=>⟨fun _=>rfl,fun q=>absurd q (show ¬(0:Int)<0 by decide)⟩
 | i+1,hi=>h.2 i (by omega)
theorem Zrs(h:Zar n G R x)(ht:t<n): Zfs n G R (t+1) (n+1) (x t):=by
 refine⟨h.2 t ht,fun j hj a b ha hb hab=>?_⟩
 have h1:=h.1 (t+1) j (by omega) hj a ha
 have h2:=h.1 j (t+1) hj (by omega) b hb
 have h3:Zaj x (t+1)=x t:=rfl
 rw[h3]at h1 h2
 rw[show x t-a=Zaj x j by omega]
 exact Zor h j hj
theorem ZmW(h:Zar n G R x)(q:Hand n G R R' M k): Zar n G R' x:=⟨h.1,fun t ht=>((q t ht).2 _).mpr (Zrs h ht)⟩
theorem ZrT(hR:∀i,i<n+1→RestOk (Zaf R i))(h:Zar n G R x)(hi:i<n+1)(hj:j<n+1): Zal (Zbs R i j) (Zaj x i-Zaj x j):=by
 rw[ZjI (hR i hi) (hR j hj)]
 have h1:=(Zbp (hR i hi).nn _).mp (Zor h i hi)
 have h2:=(Zbp (hR j hj).nn _).mp (Zor h j hj)
 have h3:=Int.dvd_sub (Int.dvd_trans (Int.gcd_dvd_left (b:=(Zaf R j).1) ..) h1) (Int.dvd_trans (Int.gcd_dvd_right (a:=(Zaf R i).1) ..) h2)
 rwa [show Zaj x i-(Zaf R i).2-(Zaj x j-(Zaf R j).2)=Zaj x i-Zaj x j-((Zaf R i).2-(Zaf R j).2)by omega]at h3
theorem ZvJ(hR:∀i,i<n+1→RestOk (Zaf R i))(h:Zar n G R x): ¬ZgA n G R:=by
 rintro⟨i,j,hi,hj,b,e,hn⟩
 obtain⟨c,e2,_⟩:=ZnT (ZeE R i j) (ZrT hR h hi hj) (h.1 i j hi hj b e)
 unfold Zbo Zcg at hn
 rw[e]at hn
 simp only at hn
 rw[e2]at hn
 cases hn
theorem ZrU(hR:∀i,i<n+1→RestOk (Zaf R i))(h:Zar n G R x): Zar n (Zbo G R) R x:=by
 refine⟨fun i j hi hj b e=>?_,h.2⟩
 have hd:=ZrT hR h hi hj
 unfold Zbo Zcg at e
 cases hg:G i j with
 | some c=>
  rw[hg]at e
  simp only at e
  obtain⟨d,e2,hle⟩:=ZnT (ZeE R i j) hd (h.1 i j hi hj c hg)
  rw[e2]at e
  cases e
  exact hle
 | none=>
  rw[hg]at e
  simp only at e
  split at e
  ·rename_i z
   cases e
   rw[Zbp (ZeE R i j).nn,z,Int.zero_dvd]at hd
   omega
  ·cases e
theorem Zrf(h:Zar n G R x)(s:Sharp n G R G2 R2 M k): Zar n G2 R2 x:=by
 obtain⟨R1,h1,h2,h3,h4,rfl,h6⟩:=s.go
 have l1:=ZmW (Zho h) h2
 have hF:=Zey fun t ht=>(h2 t ht).1
 exact ZmW (Zho (ZrU (fun i hi=>(hF i hi).1) l1)) h6
theorem ZqV(h:Zar n G R x): ¬Zrr n G R M k:=by
 have hf:∀{G:Nat→Nat→Option Int} {R:Nat→Int×Int},Zar n G R x→¬ZjJ n G R:=fun h ⟨i,hi,q⟩=>q _ (Zrs h hi)
 rintro(q | ⟨_,q⟩ | ⟨R1,_,h2,q⟩)
 ·exact ZqU h q
 ·exact hf (Zho h) q
 ·have l1:=ZmW (Zho h) h2
  have hF:=Zey fun t ht=>(h2 t ht).1
  have l2:=ZrU (fun i hi=>(hF i hi).1) l1
  rcases q with q | ⟨_,q | ⟨_,q⟩⟩
  ·exact ZvJ (fun i hi=>(hF i hi).1) l1 q
  ·exact ZqU l2 q
  ·exact hf (Zho l2) q
theorem ZAh(hk:k≤8000)(op:RestOk p)(oq:RestOk q)(bp:RBd k p)(bq:RBd k q)(h:Met p q o): ∀r,o=some r→(r=p∨r=q∨(p.1≠0∧q.1≠0∧r.1=Int.lcm p.1 q.1)):=by
 obtain⟨t,_,o',rfl,h',wh⟩:=Zi2 hk op oq bp bq
 rw[ZnR h h']
 exact wh
theorem ZvK(hn:n≤100)(hd:∀i,i<n+1→G i i=some 0)(ok:∀t,t<n→RestOk (R t)): ZiT [Zs n G R,.int n]=some (.bool true):=by
 apply Pk.eq
 unfold ZiT ZmD Zs Zbd
 walk_at "z"
 rw[show(n:Int)+1=((n+1:Nat):Int)by omega]
 refine Pk.of (ZyK (by omega) hd) ?_
 walk_at "z"
 refine Zc8 (n:=n) (a:=fun i=>ZP (R i)) (P:=fun _ _=>True) ?_ trivial ?_ ?_
 ·walk_at "z"
  rfl
 ·rintro t σ ht _
  have ho:=ok t ht
  unfold ZP
  walk_at "z"
  refine Pk.of Zop ?_
  walk_at "z"
  refine Pk.of Zop ?_
  walk_at "z"
  have h0:=ho.nn
  walk_at "z"
  rcases ho with h | h
  ·walk_at "z"
   trivial
  ·walk_at "z"
   trivial
 ·rintro σ _
  walk_at "z"
  rfl
theorem Zrg(hd:∀i,i<n+1→G i i=some 0)(s:Sharp n G R G2 R2 M k): (∀i,i<n+1→G2 i i=some 0)∧∀k,k<n+1→∀i j,i<n+1→j<n+1→leO (G2 i j) (addO (G2 i k) (G2 k j)):=by
 obtain⟨R1,h1,h2,h3,h4,rfl,h6⟩:=s.go
 have hF:=Zey fun t ht=>(h2 t ht).1
 have z1:=Zj2 hd (m:=n+1) fun m hm q=>h1 ⟨m,hm,q⟩
 have z2:=ZrR (fun i hi=>(hF i hi).1) z1
 exact⟨Zj2 z2 fun m hm q=>h4 ⟨m,hm,q⟩,Zs0 z2 (n+1) (by omega) fun m hm q=>h4 ⟨m,hm,q⟩⟩
noncomputable def Zei(R:Nat→Int×Int): Nat→Int
 | 0=>1
 | t+1=>Zei R t*(if(R t).1=0 then 1 else(R t).1)
theorem Zos{n:Nat}{R:Nat→Int×Int}(h:∀t,t<n→RestOk (R t)): ∀m,m≤n→0<Zei R m
 | 0,_=>by show(0:Int)<1;decide
 | m+1,hm=>by
  have ih:=Zos h m (by omega)
  have:=(h m (by omega)).nn
  unfold Zei
  refine Int.mul_pos ih ?_
  split
  ·decide
  ·omega
theorem Zot{R:Nat→Int×Int}: ∀m t,t<m→(R t).1=0∨(R t).1 ∣ Zei R m
 | m+1,t,ht=>by
  by_cases z:(R t).1=0
  ·exact .inl z
  ·right
   unfold Zei
   by_cases q:t=m
   ·subst q
    rw[if_neg z]
    exact Int.dvd_mul_left _ _
   ·exact Int.dvd_trans ((Zot m t (by omega)).resolve_left z) (Int.dvd_mul_right _ _)
theorem ZoX{n k:Nat}{R:Nat→Int×Int}(hk:1≤k)(h:∀t,t<n→Bd k (R t).1): ∀m,m≤n→Bd (k*m+1) (Zei R m)
 | 0,_=>by rw[Nat.mul_zero];exact Zdw (by omega)
 | m+1,hm=>by
  have ih:=ZoX hk h m (by omega)
  unfold Zei
  have h2:Bd k (if(R m).1=0 then 1 else(R m).1):=by
   split
   ·exact Zdw hk
   ·exact h m (by omega)
  have:=Bd.mul ih h2
  rw[Nat.mul_succ]
  exact this.mono (by omega)
theorem Zuk: Ze7 [.none,.none]=some (.bool true):=by
 apply Pk.eq
 unfold Ze7 Zjb
 walk_at "z"
 rfl
theorem Zul(hn:n≤100)(hd:∀i,i<n+1→G i i=some 0)(ok:∀t,t<n→RestOk (R t)): Ze7 [Zs n G R,Zs n G R]=some (.bool true):=by
 apply Pk.eq
 unfold Ze7 Zjb
 have ht:Zs n G R=.tup [Z8 (n+1) G,.lst (tab n fun i=>ZP (R i))]:=rfl
 rw[ht]
 walk_at "z"
 rw[←ht]
 refine Pk.of (ZvK hn hd ok) ?_
 walk_at "z"
 refine ZbT ZoF ZoF ?_
 rw[ZaI rfl]
inductive Dp: Nat→T→Prop where
 | none {n:Nat}:Dp n .none
 | int {n:Nat} {i:Int}:Dp n (.int i)
 | tup {n:Nat} {ts:List T}:(∀t∈ts,Dp n t)→ts.length≤10000→Dp (n+1) (.tup ts)
 | lst {n:Nat} {ts:List T}:(∀t∈ts,Dp n t)→ts.length≤10000→Dp (n+1) (.lst ts)
theorem Dp.mono{t:T}(h:Dp n t): ∀{m:Nat},n≤m→Dp m t:=by
 induction h with
 | none=>intro m _;exact .none
 | int=>intro m _;exact .int
 | tup hs hl ih=>
  intro m hm
  cases m with
  | zero=>omega
  | succ m=>exact .tup (fun t a=>ih t a (by omega)) hl
 | lst hs hl ih=>
  intro m hm
  cases m with
  | zero=>omega
  | succ m=>exact .lst (fun t a=>ih t a (by omega)) hl
theorem Zsr{F:List T→Option T}{g:PE}(hg:Zbm g σ=some ts)(hl:ts.length≤10000)(h:∀t∈ts,F [t]=some t)(q:Q (.lst ts)): Pk (Zax (Zbm g) (Zam j) Zaq (Zr F (Ze (Zb j) Zm)) σ) Q:=by
 refine⟨.lst ts,?_,q⟩
 have:=Zrm (σ:=σ) (j:=j) (f:=Zr F (Ze (Zb j) Zm)) (h:=fun t=>t) (ts:=ts) fun t m=>by
  simp only[Zr,Ze,Zb,Zm,Zcb,Option.bind_some,Option.map_some]
  exact h t m
 simp only[Zax,hg,Option.bind_some,this]
 rw[if_pos (by rw[Zbc];omega)]
 simp
theorem Zxu{t:T}(h:Dp n t): Zfk (n+1) [t]=some t:=by
 induction h with
 | none=>rfl
 | int=>rfl
 | @tup n ts hs hl ih=>
  apply Pk.eq
  show Pk (ZY 1 (Zgz (Zfk (n+1))) [.tup ts]) _
  unfold Zgz
  walk_at "z"
  refine Zsr (ts:=ts) rfl hl ih ?_
  walk_at "z"
  rfl
 | @lst n ts hs hl ih=>
  apply Pk.eq
  show Pk (ZY 1 (Zgz (Zfk (n+1))) [.lst ts]) _
  unfold Zgz
  walk_at "z"
  exact Zsr (ts:=ts) rfl hl ih rfl
theorem ZhK{t:T}(h:Dp 8 t): ZeA [t]=some t:=Zxu h
theorem Zp6: Dp n (oT a):=by cases a;exact .none;exact .int
theorem Zss(hn:n≤100): Dp 3 (Zs n G R):=by
 refine .tup (fun t m=>?_) (by simp)
 simp at m
 rcases m with rfl | rfl
 ·refine .lst (fun t m=>?_) (by rw[Zap];omega)
  obtain⟨i,hi,rfl⟩:=ZcQ m
  refine .lst (fun t m=>?_) (by rw[Zap];omega)
  obtain⟨j,hj,rfl⟩:=ZcQ m
  exact Zp6
 ·refine .lst (fun t m=>?_) (by rw[Zap];omega)
  obtain⟨i,hi,rfl⟩:=ZcQ m
  refine .tup (fun t m=>?_) (by simp)
  simp at m
  rcases m with rfl | rfl <;> exact .int
section
variable {σ:TL} {Q:T→Prop}
theorem Zp7{p e:PE}(h:Pk (p σ) fun t=>∃ts,t=.lst ts∧Pk (e σ) fun u=>∃a:Nat,u=.int a∧Q (.lst (ts.take a))): Pk (Zc7 p Zdk (Zdl e) σ) Q:=by
 obtain⟨_,e1,ts,rfl,_,e2,a,rfl,q⟩:=h
 refine⟨_,?_,q⟩
 simp only[Zc7,e1,Zdk,Zdl,e2,Option.bind_some,ZxQ ts rfl]
theorem Zp8{p e:PE}(h:Pk (p σ) fun t=>∃ts,t=.lst ts∧Pk (e σ) fun u=>∃a:Nat,u=.int a∧Q (.lst (ts.drop a))): Pk (Zc7 p (Zdl e) Zdk σ) Q:=by
 obtain⟨_,e1,ts,rfl,_,e2,a,rfl,q⟩:=h
 refine⟨_,?_,q⟩
 simp only[Zc7,e1,Zdk,Zdl,e2,Option.bind_some,Zrk ts rfl]
theorem Zd8{a b:List T}(hl:a.length+b.length≤10000)(h:Q (.lst (a++b))): Pk (Zab (.lst a) (.lst b)) Q:=by
 refine⟨_,?_,h⟩
 simp only[Zab]
 rw[if_pos (by rw[Zbc,List.length_append];omega)]
theorem Zpq{a:T}(hn:n≤1000)(h:Q (.lst (tab n fun _=>a))): Pk (ZaY (.lst [a]) (.int n)) Q:=by
 have e:∀n,Zil [a] n=tab n fun _=>a:=fun n=>by
  induction n with
  | zero=>rfl
  | succ n ih=>show Zil [a] n++[a]=_;rw[ih];exact Zd3 (f:=fun _=>a)
 refine⟨_,?_,h⟩
 simp only[ZaY,List.length_cons,List.length_nil,Int.toNat_natCast,e]
 rw[if_pos ⟨by rw[Zbc];omega,by omega,by omega⟩]
end
theorem Zst{x:Nat}{k l:Int}{f:Nat→Nat→T}{N:TL→Prop}(e:σ x=some (.lst (tab n fun a=>.lst (tab m (f a)))))(hk:k=i)(hl:l=j)(hi:i<n)(hj:j<m)(h:N (Z7 σ x (.lst (tab n fun a=>.lst (tab m fun b=>if a=i∧b=j then w else f a b))))): Put2 σ x w (.int k) (.int l) N:=by
 subst hk hl
 exact ZrF e hi hj h
theorem Zpr{l:List T}{x:Nat}(h:x<l.length): l.take x++[w]++l.drop (x+1)=l.set x w:=by
 rw[List.set_eq_take_append_cons_drop,if_pos h]
 simp
theorem Zsu{x:Nat}(hx:x<n)(hn:n≤1000)(hf:∀i,i<n→(f i).flat=true)(hw:w.flat=true): ZgH [.lst (tab n f),.int ((x:Int)+1),w]=some (.lst (tab n fun i=>if i=x then w else f i)):=by
 apply Pk.eq
 unfold ZgH ZpK
 have hlen:(tab n f).length=n:=Zap
 walk_at "z"
 refine Zp7 ?_
 walk_at "z"
 refine⟨_,rfl,?_⟩
 walk_at "z"
 refine⟨x,by congr 1;omega,?_⟩
 walk_at "z"
 refine Zd8 (by simp[hlen];omega) ?_
 refine Zp8 ?_
 walk_at "z"
 refine⟨_,rfl,?_⟩
 walk_at "z"
 refine⟨x+1,rfl,?_⟩
 refine Zd8 (by simp[hlen];omega) ?_
 rw[Zpr (by omega),Zd4]
 refine⟨Zhj fun i hi=>?_,rfl⟩
 split
 ·exact hw
 ·exact hf i hi
theorem Zqt(hn:n≤900): ZeX [.int i,.int n]=some (Zay (n+1) fun j=>if j=i then some 0 else none):=by
 apply Pk.eq
 unfold ZeX ZlK
 walk_at "z"
 refine Zbv (n:=n+1) (a:=fun j=>.int j) (b:=fun j=>oT (if j=i then some 0 else none)) (by omega) ?_ (fun j hj=>?_) rfl
 ·walk_at "z"
  exact Zia (n+1) (by omega) (by omega) rfl
 ·by_cases c:j=i
  ·have hc:(i:Int)=(j:Int):=by omega
   walk_at "z"
   rw[if_pos c]
   rfl
  ·have hc:(i:Int)≠(j:Int):=by omega
   walk_at "z"
   rw[if_neg c]
   rfl
noncomputable def ZeN(G:Nat→Nat→Option Int)(x:Nat): Nat→Nat→Option Int:=fun i j=>if i=x then(if j=x then some 0 else none)else if j=x then none else G i j
theorem ZuZ{x:Nat}(hx:x<n+1)(hn:n≤100): Zjc [Z8 (n+1) G,.int x]=some (Z8 (n+1) (ZeN G x)):=by
 apply Pk.eq
 unfold Zjc Znt Z8
 walk_at "z"
 refine Zbv (n:=n+1) (a:=fun i=>Zay (n+1) (G i)) (b:=fun i=>Zay (n+1) fun j=>if j=x then none else G i j) (by omega) ?_ (fun i hi=>?_) ?_
 ·walk_at "z"
  rfl
 ·walk_at "z"
  refine Pk.of (Zsu (f:=fun j=>oT (G i j)) hx (by omega) (fun _ _=>Zfp) rfl) ?_
  show T.lst _=T.lst _
  congr 1
  exact ZaS fun j _=>by
   show _=oT (if j=x then none else G i j)
   by_cases c:j=x
   ·rw[if_pos c,if_pos c];rfl
   ·rw[if_neg c,if_neg c]
 walk_at "z"
 refine Pk.of (show ZeX [.int x,.int (((n+1:Nat):Int)-1)]=_ by rw[show((n+1:Nat):Int)-1=(n:Int)by omega];exact Zqt (by omega)) ?_
 walk_at "z"
 show T.lst _=T.lst _
 congr 1
 refine ZaS fun i _=>?_
 unfold ZeN
 by_cases c:i=x
 ·rw[if_pos c]
  subst c
  simp
 ·rw[if_neg c]
  simp[c]
noncomputable def ZfN(G:Nat→Nat→Option Int)(x:Nat)(s:Sp): Nat→Nat→Option Int:=ZaF (ZaF G x 0 s.2) 0 x (s.1.map fun y=>y*(-1))
theorem Zrt{v:Option Int}(hw:w=oT v): T.lst (tab n fun a=>T.lst (tab n fun b=>if a=i∧b=j then w else oT (G a b)))=T.lst (tab n fun a=>T.lst (tab n fun b=>oT (ZaF G i j v a b))):=by
 subst hw
 exact ZpQ
theorem Zxv{x:Int}(h:Bd k x): Bd k (-x):=by unfold Bd at *;omega
theorem Zu0{x:Nat}{s:Sp}(hx:x<n+1)(hb:b≤100000)(hb1:1≤b)(bs:SBd b s): Zje [Z8 (n+1) G,.int x,spT s]=some (Z8 (n+1) (ZfN G x s)):=by
 apply Pk.eq
 unfold Zje Znv
 refine ZjV rfl ?_
 unfold Z8 Zay spT
 walk_at "z"
 refine Zst (n:=n+1) (m:=n+1) (f:=fun a b=>oT (G a b)) (i:=x) (j:=0) ?_ rfl rfl hx (by omega) ?_
 ·rfl
 rw[Zrt (v:=s.2) rfl]
 walk_at "z"
 refine Pk.of (Zg7 hb bs.1 (Zxv (Zdw hb1))) ?_
 refine⟨Zfp,?_⟩
 walk_at "z"
 refine Zst (n:=n+1) (m:=n+1) (f:=fun a b=>oT (ZaF G x 0 s.2 a b)) (i:=0) (j:=x) (by walk_at "r") rfl rfl (by omega) hx ?_
 rw[Zrt (v:=s.1.map fun y=>y*(-1)) rfl]
 exact⟨_,Zcb,rfl⟩
noncomputable def ZgN(R:Nat→Int×Int)(x:Nat)(q:Int×Int): Nat→Int×Int:=fun t=>if t=x then q else R t
theorem ZvL{x:Nat}: (T.lst (tab n fun i=>if i=x then ZP q else ZP (R i)))=Zbd n (ZgN R x q):=by
 unfold Zbd ZgN
 congr 1
 exact ZaS fun i _=>by
  by_cases c:i=x
  ·rw[if_pos c,if_pos c]
  ·rw[if_neg c,if_neg c]
theorem ZyP{x:Nat}{s:Sp}{P:T→Prop}(hx:x<n)(hn:n≤100)(hb:b≤100000)(hb1:1≤b)(bs:SBd b s)(h:Pk (ZaK [Zs n (ZfN (ZeN G (x+1)) (x+1) s) (ZgN R x q)]) P): Pk (Zeb [Zs n G R,.int ((x:Int)+1),spT s,ZP q]) P:=by
 unfold Zeb ZpM
 have ht:∀{G:Nat→Nat→Option Int} {R:Nat→Int×Int},Zs n G R=.tup [Z8 (n+1) G,.lst (tab n fun i=>ZP (R i))]:=rfl
 rw[ht]
 walk_at "z"
 rw[show(x:Int)+1=((x+1:Nat):Int)by omega]
 refine Pk.of (ZuZ (by omega) hn) ?_
 walk_at "z"
 refine ZfA Zcb ?_
 walk_at "z"
 refine Pk.of (Zu0 (b:=b) (by omega) hb hb1 bs) ?_
 walk_at "z"
 refine Pk.of (show ZgH [.lst (tab n fun i=>ZP (R i)),.int ((x+1:Nat):Int),ZP q]=some (Zbd n (ZgN R x q))by rw[show((x+1:Nat):Int)=(x:Int)+1 by omega,Zsu hx (by omega) (fun _ _=>Zfj) Zfj,ZvL]) ?_
 walk_at "z"
 exact h
theorem Zez{a b:PS}{R:T→Prop}{N:TL→Prop}(M:TL→Prop)(h1:Psk (a σ) R M)(h2:∀σ,M σ→Psk (b σ) R N): Psk (Zw a b σ) R N:=by
 obtain⟨o,s,e,p,q⟩:=h1
 exact ZpD ⟨o,s,e,p,fun h=>h2 s (q h)⟩
noncomputable def Zbg(n:Nat)(G:Nat→Nat→Option Int): Nat→Nat→Option Int:=fun i j=>if i<n+1∧j<n+1 then G i j else if j=i then some 0 else none
noncomputable def ZbM(n:Nat)(R:Nat→Int×Int): Nat→Int×Int:=fun t=>if t<n then R t else(1,0)
theorem ZyQ{a:Nat}(h:a≤4): Zcu a a 1=some []:=by
 have:a=0∨a=1∨a=2∨a=3∨a=4:=by omega
 obtain rfl | rfl | rfl | rfl | rfl:=this <;> (unfold Zcu;rw[if_pos (by decide +kernel)];rfl)
theorem ZjK{g:PEs}{a:Nat}{L:List T→Prop}(ha:a≤4)(hm:m≤100)(e:g σ=some [.int a,.int (a+m)])(h:L (tab m fun i=>.int ((a+i:Nat):Int))): Pl (ZaN g σ) L:=by
 cases m with
 | zero=>
  have e2:Zcu (a:Int) ((a:Int)+((0:Nat):Int)) 1=some []:=by simpa using ZyQ ha
  exact⟨[],ZhS e e2,h⟩
 | succ m=>
  refine⟨_,ZhS e (by have:=Zpd (a:=a) (n:=m+1) (by omega) (by omega);simpa using this),?_⟩
  rw[show(tab (m+1) fun i=>T.int ((a:Int)+i))=tab (m+1) fun i=>.int ((a+i:Nat):Int)from ZaS fun i _=>by congr 1]
  exact h
theorem Zxw(hi:i<n+1): (tab (n+1+m) fun j=>if j<n+1 then oT (G i j)else T.none)=tab (n+m+1) fun j=>oT (Zbg n G i j):=by
 rw[show n+1+m=n+m+1 by omega]
 refine ZaS fun j hj=>?_
 unfold Zbg
 by_cases c:j<n+1
 ·rw[if_pos c,if_pos ⟨hi,c⟩]
 ·rw[if_neg c,if_neg (by omega),if_neg (by omega)]
  rfl
theorem ZvM{b:Nat→Option Int}: T.flatIn (.lst (tab n fun j=>oT (b j)))=true:=Zhj fun _ _=>Zfp
theorem ZvN: (T.lst (tab (n+m) fun i=>if i<n then T.tup [.int (R i).1,.int (R i).2]else T.tup [.int 1,.int 0]))=Zbd (n+m) (ZbM n R):=by
 unfold Zbd ZbM
 congr 1
 refine ZaS fun i _=>?_
 by_cases c:i<n
 ·rw[if_pos c,if_pos c];rfl
 ·rw[if_neg c,if_neg c];rfl
noncomputable def ZfO(q:Nat→Nat)(G':Nat→Nat→Option Int)(i:Nat)(Γ:Nat→Nat→Option Int): Nat→Nat→Nat→Option Int
 | 0=>Γ
 | j+1=>ZaF (ZfO q G' i Γ j) (q i) (q j) (Za5 (ZfO q G' i Γ j (q i) (q j)) (G' i j))
noncomputable def ZcK(q:Nat→Nat)(G':Nat→Nat→Option Int)(k:Nat)(Γ:Nat→Nat→Option Int): Nat→Nat→Nat→Option Int
 | 0=>Γ
 | i+1=>ZfO q G' i (ZcK q G' k Γ i) k
theorem Zi3{a:Nat}{v:Option Int}(ha:a<N)(hb:b<N): Ze8 [Z8 N Γ,.int a,.int b,oT v]=some (Z8 N (ZaF Γ a b (Za5 (Γ a b) v))):=by
 apply Pk.eq
 unfold Ze8 Znw
 refine ZjV rfl ?_
 unfold Z8 Zay
 walk_at "z"
 refine Pk.of Zrq ?_
 refine⟨Zfp,?_⟩
 walk_at "z"
 refine⟨_,Zcb,?_⟩
 exact ZpQ
theorem Ztw{q:Nat→Nat}(hN:N≤100)(hk:k≤100)(hq:∀i,i<k→q i<N): Zim [Z8 N Γ,.lst (tab k fun i=>.int (q i)),Z8 k G']=some (Z8 N (ZcK q G' k Γ k)):=by
 apply Pk.eq
 unfold Zim ZkR
 have dp:Dp 8 (Z8 N Γ):=by
  refine Dp.mono (n:=2) (.lst (fun t m=>?_) (by rw[Zap];omega)) (by decide)
  obtain⟨i,hi,rfl⟩:=ZcQ m
  refine .lst (fun t m=>?_) (by rw[Zap];omega)
  obtain⟨j,hj,rfl⟩:=ZcQ m
  exact Zp6
 have eg:Z8 k G'=.lst (tab k fun i=>.lst (tab k fun j=>oT (G' i j))):=rfl
 rw[eg]
 walk_at "z"
 refine Pk.of (ZhK dp) ?_
 walk_at "z"
 refine Zfo (n:=k) (a:=fun i=>.int (q i)) (c:=fun i=>.lst (tab k fun j=>oT (G' i j))) (P:=fun i σ=>σ 1=some (.lst (tab k fun i=>.int (q i)))∧σ 3=some (Z8 N (ZcK q G' k Γ i))) ?_ ⟨by walk_at "r",by walk_at "r"⟩ ?_ ?_
 ·walk_at "z"
  rfl
 ·rintro i σ hi ⟨e1,e3⟩
  refine Zfo (n:=k) (a:=fun j=>.int (q j)) (c:=fun j=>oT (G' i j)) (P:=fun j σ=>σ 1=some (.lst (tab k fun i=>.int (q i)))∧σ 4=some (.int (q i))∧σ 3=some (Z8 N (ZfO q G' i (ZcK q G' k Γ i) j))) ?_ ⟨by walk_at "r",by walk_at "r",by walk_at "r"⟩ ?_ ?_
  ·walk_at "z"
   rfl
  ·rintro j σ hj ⟨e1,e4,e3⟩
   refine ZfA (t:=Z8 N (ZfO q G' i (ZcK q G' k Γ i) j)) (by walk_at "r") ?_
   walk_at "z"
   refine Pk.of (Zi3 (hq i hi) (hq j hj)) ?_
   exact⟨by walk_at "r",by walk_at "r",Zcb⟩
  ·rintro σ ⟨e1,e4,e3⟩
   exact⟨e1,e3⟩
 ·rintro σ ⟨e1,e3⟩
  walk_at "z"
  rfl
noncomputable def ZM(n:Nat)(c:Nat→Int): T:=.lst (tab (n+1) fun i=>.int (c i))
theorem Ze0{k:Int}(hn:n≤1000)(hb:b≤100000)(bc:∀i,i<n+1→Bd b (c i))(bk:Bd b k): Zdz [ZM n c,.int k]=some (ZM n fun i=>c i*k):=by
 apply Pk.eq
 unfold Zdz ZmF ZM
 walk_at "z"
 refine Zbv (n:=n+1) (a:=fun i=>.int (c i)) (b:=fun i=>.int (c i*k)) (by omega) ?_ (fun i hi=>?_) rfl
 ·walk_at "z"
  rfl
 ·walk_at "z"
  exact ZcW (ZdD (bc i hi) bk (by omega) (by omega)) rfl
noncomputable def S40(G:Nat→Nat→Option Int)(i:Nat): Sp:=((G 0 (i+1)).map fun y=>y*(-1),G (i+1) 0)
theorem ZtO(hn:n≤90)(hb:b≤100000)(hb1:1≤b)(bG:∀i j,i<n+1→j<n+1→∀y,G i j=some y→Bd b y): Ziw [Zs n G R]=some (.lst (tab n fun i=>spT (S40 G i))):=by
 apply Pk.eq
 unfold Ziw Zlt
 have ht:Zs n G R=.tup [.lst (tab (n+1) fun i=>.lst (tab (n+1) fun j=>oT (G i j))),.lst (tab n fun i=>ZP (R i))]:=rfl
 rw[ht]
 walk_at "z"
 refine Zbv (n:=n) (a:=fun i=>.int ((1+i:Nat):Int)) (b:=fun i=>spT (S40 G i)) (by omega) ?_ (fun i hi=>?_) rfl
 ·refine ZjK (a:=1) (m:=n) (by omega) (by omega) ?_ rfl
  simp only[Ze,Zj,Zm,Zr,Zb,Z7,Option.bind_some,if_true,Zaz,Zap]
  congr 3
  congr 1
  omega
 ·have h1:1+i<n+1:=by omega
  have h0:0<n+1:=by omega
  walk_at "z"
  refine Pk.of (Zg7 hb (fun y e=>bG 0 (1+i) h0 h1 y e) (show Bd b (-1)by unfold Bd;have:=Zdw hb1;unfold Bd at this;simpa using this)) ?_
  walk_at "z"
  unfold spT S40
  rw[show 1+i=i+1 by omega]
  rfl
theorem ZqW{σ:TL}{j:Nat}{cnd:PB}{P:T→Bool}: ∀{ts:List T},(∀t∈ts,cnd (Z7 σ j t)=some (P t))→ZcZ (Zam j) cnd (Zb j) σ ts=some (ts.filter P)
 | [],_=>rfl
 | t::ts,h=>by
  have ih:=ZqW fun t m=>h t (Zz2 _ m)
  have h0:=h t Zz5
  simp only[ZcZ,Zam,Option.bind_some,h0,Zb,Zcb,ih,Option.map_some,List.filter_cons]
  cases P t <;> rfl
theorem ZwC{cnd:PB}{P:T→Bool}(hl:ts.length≤10000)(hg:Pl (g σ) fun us=>us=ts)(hc:∀t∈ts,Pb (cnd (Z7 σ j t)) fun b=>b=P t)(h:Q (.lst (ts.filter P))): Pk (Zax g (Zam j) cnd (Zb j) σ) Q:=by
 obtain⟨us,e,rfl⟩:=hg
 refine⟨_,?_,h⟩
 have:=ZqW (σ:=σ) (j:=j) (cnd:=cnd) (P:=P) (ts:=us) fun t m=>by
  obtain⟨b,e1,rfl⟩:=hc t m
  exact e1
 simp only[Zax,e,Option.bind_some,this,Option.map_some]
 rw[if_pos (by rw[Zbc];omega)]
noncomputable def xsI(n:Nat)(c:Nat→Int): List Int:=tab n fun i=>c (i+1)
noncomputable def nzI(n:Nat)(c:Nat→Int): List Int:=(xsI n c).filter fun x=>decide (x≠0)
def Df(n:Nat)(c:Nat→Int): Prop:=PM.Zdq (nzI n c)=[-1,1]
theorem ZjL(ks:List Int): Zdp (ks.map T.int)=some ks:=by
 induction ks with
 | nil=>rfl
 | cons k ks ih=>simp[Zdp,ih]
theorem Zu1{a b:List Int}(h:a.map T.int=b.map T.int): a=b:=by
 have:=congrArg Zdp h
 rw[ZjL,ZjL]at this
 simpa using this
theorem Zsv(ks:List Int): Pln 1 (.lst (ks.map T.int)):=.lst fun t m=>by
 obtain⟨k,_,rfl⟩:=Zz11.mp m
 exact .int
theorem tab_map{α:Type}{f:Nat→α}{g:α→β}: (tab n f).map g=tab n fun i=>g (f i):=by simp[tab]
theorem ZtD(hn:n≤60): Zir [ZM n c]=some (.bool (dec (Df n c))):=by
 apply Pk.eq
 unfold Zir Zla ZM
 walk_at "z"
 refine ZwC (ts:=(xsI n c).map T.int) (P:=fun t=>match t with | .int x=>decide (x≠0) | _=>false) (by simp[xsI,Zap];omega) ?_ (fun t m=>?_) ?_
 ·refine Zpc ?_
  refine Zjz ?_
  walk_at "z"
  refine⟨_,rfl,?_⟩
  rw[ZoW]
  refine Sq.lst ?_
  unfold xsI
  rw[tab_map]
 ·obtain⟨x,_,rfl⟩:=Zz11.mp m
  walk_at "z"
  rfl
 have ef:((xsI n c).map T.int).filter (fun t=>match t with | .int x=>decide (x≠0) | _=>false)=(nzI n c).map T.int:=by
  unfold nzI
  rw[List.filter_map]
  rfl
 rw[ef]
 have hl:(nzI n c).length≤n:=by
  unfold nzI
  refine Nat.le_trans (List.length_filter_le _ _) ?_
  simp[xsI,Zap]
 walk_at "z"
 refine⟨.lst ((PM.Zdq (nzI n c)).map T.int),?_,?_⟩
 ·simp only[ZjW,ZjL,Option.bind_some,List.length_map]
  rw[if_pos (by omega)]
 walk_at "z"
 refine ZbT (n:=1) (m:=1) (Zsv _) (Zsv [-1,1]) ?_
 by_cases h:Df n c
 ·rw[ZaI h,ZaI]
  show T.lst ((PM.Zdq (nzI n c)).map T.int)=_
  rw[show PM.Zdq (nzI n c)=[-1,1]from h]
  rfl
 ·rw[ZaO h,ZaO]
  intro q
  refine h (Zu1 ?_)
  simpa using q
noncomputable def Zc2(c:Nat→Int): Nat→List Nat
 | 0=>[]
 | n+1=>Zc2 c n++(if 0<c (n+1)then [n+1]else [])
noncomputable def Zc3(c:Nat→Int): Nat→List Nat
 | 0=>[]
 | n+1=>Zc3 c n++(if c (n+1)<0 then [n+1]else [])
theorem ups_mem{c:Nat→Int}: ∀{n i:Nat},i∈Zc2 c n↔1≤i∧i≤n∧0<c i
 | 0,i=>by simp[Zc2];omega
 | n+1,i=>by
  simp only[Zc2,List.mem_append,ups_mem (n:=n)]
  by_cases h:0<c (n+1)
  ·simp only[h,if_true,List.mem_singleton]
   constructor
   ·rintro(⟨a,b,d⟩ | rfl)
    ·exact⟨a,by omega,d⟩
    ·exact⟨by omega,by omega,h⟩
   ·rintro⟨a,b,d⟩
    by_cases q:i=n+1
    ·exact .inr q
    ·exact .inl ⟨a,by omega,d⟩
  ·simp only[h,if_false,List.not_mem_nil,or_false]
   constructor
   ·rintro⟨a,b,d⟩;exact⟨a,by omega,d⟩
   ·rintro⟨a,b,d⟩
    have:i≠n+1:=fun q=>h (q▸d)
    exact⟨a,by omega,d⟩
theorem dns_mem{c:Nat→Int}: ∀{n i:Nat},i∈Zc3 c n↔1≤i∧i≤n∧c i<0
 | 0,i=>by simp[Zc3];omega
 | n+1,i=>by
  simp only[Zc3,List.mem_append,dns_mem (n:=n)]
  by_cases h:c (n+1)<0
  ·simp only[h,if_true,List.mem_singleton]
   constructor
   ·rintro(⟨a,b,d⟩ | rfl)
    ·exact⟨a,by omega,d⟩
    ·exact⟨by omega,by omega,h⟩
   ·rintro⟨a,b,d⟩
    by_cases q:i=n+1
    ·exact .inr q
    ·exact .inl ⟨a,by omega,d⟩
  ·simp only[h,if_false,List.not_mem_nil,or_false]
   constructor
   ·rintro⟨a,b,d⟩;exact⟨a,by omega,d⟩
   ·rintro⟨a,b,d⟩
    have:i≠n+1:=fun q=>h (q▸d)
    exact⟨a,by omega,d⟩
theorem ZrV{c:Nat→Int}: ∀n,(Zc2 c n).map c=(xsI n c).filter fun x=>decide (0<x)
 | 0=>rfl
 | n+1=>by
  have e:xsI (n+1) c=xsI n c++[c (n+1)]:=(Zd3 (n:=n) (f:=fun i=>c (i+1))).symm
  rw[e,List.filter_append,←ZrV n]
  simp only[Zc2,List.map_append]
  by_cases h:0<c (n+1) <;> simp[h]
theorem ZrW{c:Nat→Int}: ∀n,(Zc3 c n).map c=(xsI n c).filter fun x=>decide (x<0)
 | 0=>rfl
 | n+1=>by
  have e:xsI (n+1) c=xsI n c++[c (n+1)]:=(Zd3 (n:=n) (f:=fun i=>c (i+1))).symm
  rw[e,List.filter_append,←ZrW n]
  simp only[Zc3,List.map_append]
  by_cases h:c (n+1)<0 <;> simp[h]
theorem df_iff: Df n c↔(Zc2 c n).map c=[1]∧(Zc3 c n).map c=[-1]:=by
 rw[ZrV,ZrW]
 have hp:(nzI n c).Perm ((xsI n c).filter (fun x=>decide (0<x))++(xsI n c).filter (fun x=>decide (x<0))):=by
  unfold nzI
  generalize xsI n c=xs
  induction xs with
  | nil=>exact List.Perm.refl _
  | cons x xs ih=>
   by_cases h1:0<x
   ·have:x≠0:=by omega
    have h2:¬x<0:=by omega
    simp only[List.filter_cons,h1,h2,this,decide_true,decide_false,ne_eq,not_false_eq_true,if_true,Bool.false_eq_true,if_false,List.cons_append]
    exact List.Perm.cons _ ih
   ·by_cases h2:x<0
    ·have:x≠0:=by omega
     simp only[List.filter_cons,h1,h2,this,decide_true,decide_false,ne_eq,not_false_eq_true,if_true,Bool.false_eq_true,if_false]
     exact(List.Perm.cons _ ih).trans List.perm_middle.symm
    ·have:x=0:=by omega
     subst this
     simpa using ih
 constructor
 ·intro h
  have hq:(nzI n c).Perm [-1,1]:=by
   have:=List.mergeSort_perm (nzI n c) fun a b=>decide (a≤b)
   rw[show(nzI n c).mergeSort (fun a b=>decide (a≤b))=[-1,1]from h]at this
   exact this.symm
  have hf:∀q:Int→Bool,(∀x,q x=true→x≠0)→(xsI n c).filter q=(nzI n c).filter q:=fun q hq=>by
   unfold nzI
   rw[List.filter_filter]
   refine List.filter_congr fun x _=>?_
   cases e:q x with
   | false=>simp
   | true=>simp[hq x e]
  rw[hf _ (fun x h=>by simp at h;omega),hf _ (fun x h=>by simp at h;omega)]
  have p1:=hq.filter fun x=>decide (0<x)
  have p2:=hq.filter fun x=>decide (x<0)
  exact⟨List.perm_singleton.mp (by simpa using p1),List.perm_singleton.mp (by simpa using p2)⟩
 ·rintro⟨h1,h2⟩
  rw[h1,h2]at hp
  unfold Df
  refine(PM.ZrH ?_ ?_).symm
  ·exact(hp.trans (List.Perm.swap (-1) 1 [])).symm
  ·simp
theorem ZrX{p q r:PE}(h:Pk (p σ) fun t=>∃ks:List Int,t=.lst (ks.map T.int)∧Pk (q σ) fun u=>∃k,u=.int k∧Pk (r σ) fun v=>v=.int 1∧k∈ks.drop 1∧Q (.int ((1+(ks.drop 1).idxOf k:Nat):Int))): Pk (Zh2 p q r σ) Q:=by
 obtain⟨_,e1,ks,rfl,_,e2,k,rfl,_,e3,rfl,hm,h⟩:=h
 refine⟨_,?_,h⟩
 simp only[Zh2,e1,e2,e3,Option.bind_some,ZjL]
 rw[if_pos ⟨trivial,hm⟩]
theorem Zj3: (tab (n+1) c).drop 1=xsI n c:=by
 unfold xsI
 apply List.ext_getElem
 ·simp[tab]
 ·intro i h1 h2
  simp[tab]
theorem Zs2{l:List Nat}{k:Int}(h:l.map c=[k]): ∃u,l=[u]∧c u=k:=by
 cases l with
 | nil=>simp at h
 | cons a l=>
  cases l with
  | nil=>exact⟨a,rfl,by simpa using h⟩
  | cons b l=>simp at h
theorem Ztn(hi:i<n): (xsI n c)[i]?=some (c (i+1)):=Za7 (f:=fun i=>c (i+1)) hi
theorem Zs3{u:Nat}{k:Int}(h1:1≤u)(h2:u≤n)(hu:c u=k)(ho:∀i,1≤i→i≤n→c i=k→i=u): 1+(xsI n c).idxOf k=u∧k∈xsI n c:=by
 have hm:k∈xsI n c:=List.mem_of_getElem? (i:=u-1) (by rw[Ztn (by omega),show u-1+1=u by omega,hu])
 have hl:(xsI n c).idxOf k<(xsI n c).length:=List.idxOf_lt_length_iff.mpr hm
 have hn:(xsI n c).length=n:=Zap
 have hk:=List.getElem_idxOf hl
 have hx:(xsI n c)[(xsI n c).idxOf k]?=some k:=by rw[List.getElem?_eq_getElem hl,hk]
 rw[Ztn (by omega)]at hx
 have:=ho ((xsI n c).idxOf k+1) (by omega) (by omega) (by simpa using hx)
 exact⟨by omega,hm⟩
theorem ZjB(h:Df n c): ∃u d,Zc2 c n=[u]∧Zc3 c n=[d]∧c u=1∧c d = -1∧u<n+1∧d<n+1∧1≤u∧1≤d∧1+(xsI n c).idxOf 1=u∧1+(xsI n c).idxOf (-1)=d∧1∈xsI n c∧-1∈xsI n c:=by
 obtain⟨h1,h2⟩:=df_iff.mp h
 obtain⟨u,eu,hu⟩:=Zs2 h1
 obtain⟨d,ed,hd⟩:=Zs2 h2
 have mu:=ups_mem.mp (show u∈Zc2 c n by rw[eu];simp)
 have md:=dns_mem.mp (show d∈Zc3 c n by rw[ed];simp)
 have a1:=Zs3 mu.1 mu.2.1 hu fun i q1 q2 q3=>by
  have:i∈Zc2 c n:=ups_mem.mpr ⟨q1,q2,by omega⟩
  rw[eu]at this
  simpa using this
 have a2:=Zs3 md.1 md.2.1 hd fun i q1 q2 q3=>by
  have:i∈Zc3 c n:=dns_mem.mpr ⟨q1,q2,by omega⟩
  rw[ed]at this
  simpa using this
 exact⟨u,d,eu,ed,hu,hd,by omega,by omega,mu.1,md.1,a1.1,a2.1,a1.2,a2.2⟩
noncomputable def grt(n:Nat)(G:Nat→Nat→Option Int)(c:Nat→Int): Option Int:=if dec (Df n c)then addO (G (1+(xsI n c).idxOf 1) (1+(xsI n c).idxOf (-1))) (some (c 0))else(ZdP c (S40 G) n).2
def GB(b n:Nat)(G:Nat→Nat→Option Int): Prop:=∀i j,i<n+1→j<n+1→∀y,G i j=some y→Bd b y
theorem Zs4(hG:GB b n G): ∀i,i<n→SBd b (S40 G i):=fun i hi=>⟨fun x e=>by
 obtain⟨y,e1,e2⟩:=Zz1.mp e
 have:=hG 0 (i+1) (by omega) (by omega) y e1
 subst e2
 unfold Bd at *
 omega,fun x e=>hG (i+1) 0 (by omega) (by omega) x e⟩
theorem Zga(hn:n≤60)(hb:b≤100000)(hb1:1≤b)(hG:GB b n G)(bc:∀i,i<n+1→Bd b (c i)): ZdZ [Zs n G R,ZM n c]=some (oT (grt n G c)):=by
 apply Pk.eq
 unfold ZdZ Zny grt
 have ht:Zs n G R=.tup [.lst (tab (n+1) fun i=>.lst (tab (n+1) fun j=>oT (G i j))),.lst (tab n fun i=>ZP (R i))]:=rfl
 have hs:ZM n c=.lst ((tab (n+1) c).map T.int):=by unfold ZM;rw[tab_map]
 walk_at "z"
 refine Pk.of (ZtD hn) ?_
 by_cases h:Df n c
 ·obtain⟨u,d,_,_,_,_,hu,hd,_,_,eu,ed,mu,md⟩:=ZjB h
  rw[ZaI h]
  rw[ht]
  walk_at "z"
  refine ZrX ?_
  walk_at "z"
  refine⟨tab (n+1) c,hs,?_⟩
  walk_at "z"
  refine⟨1,rfl,?_⟩
  walk_at "z"
  refine⟨rfl,by rw[Zj3];exact mu,?_⟩
  rw[Zj3,eu]
  walk_at "z"
  refine ZrX ?_
  walk_at "z"
  refine⟨tab (n+1) c,hs,?_⟩
  walk_at "z"
  refine⟨-1,rfl,?_⟩
  walk_at "z"
  refine⟨rfl,by rw[Zj3];exact md,?_⟩
  rw[Zj3,ed]
  unfold ZM
  walk_at "z"
  exact Pk.of (Zf9 (b:=some (c (Int.toNat 0)))) rfl
 ·rw[ZaO h]
  walk_at "z"
  refine Pk.of (ZtO (by omega) hb hb1 hG) ?_
  walk_at "z"
  refine Pk.of (ZtZ (by omega) hb bc (Zs4 hG)) ?_
  unfold spT
  walk_at "z"
  rfl
theorem ZyR: ZM n (fun i=>c i * -1)=ZM n fun i=>-(c i):=by
 unfold ZM
 congr 1
 exact ZaS fun i _=>by show T.int (c i * -1)=T.int (-(c i));congr 1;omega
theorem Zsw{b n:Nat}{c:Nat→Int}{S:Nat→Sp}(bc:∀i,i<n+1→Bd b (c i))(bS:∀i,i<n→SBd b (S i)): ∀j,j≤n→∀y,(ZdP c S j).2=some y→Bd (b+b+j+1) y
 | 0,_,y,e=>by cases e;exact(bc 0 (by omega)).mono (by omega)
 | j+1,h,y,e=>by
  obtain⟨p,q,h1,h2,rfl⟩:=addO_some.mp (show addO (ZdP c S j).2 (Zed (S j) (c (j+1))).2=some y from e)
  have ih:=Zsw bc bS j (by omega) p h1
  have hq:Bd (b+b) q:=by
   unfold Zed at h2
   split at h2
   ·cases h2;exact ZaR
   ·split at h2
    ·obtain⟨z,e1,rfl⟩:=Zz1.mp h2
     exact((bS j (by omega)).1 z e1).mul (bc (j+1) (by omega))
    ·obtain⟨z,e1,rfl⟩:=Zz1.mp h2
     exact((bS j (by omega)).2 z e1).mul (bc (j+1) (by omega))
  exact(ih.add (hq.mono (by omega))).mono (by omega)
theorem ZgB(bc:∀i,i<n+1→Bd b (c i)): ∀i,i<n+1→Bd b (-(c i)):=fun i hi=>by
 have:=bc i hi
 unfold Bd at *
 omega
noncomputable def ZJ(c:Nat→Int)(x:Nat→Int): Nat→Int
 | 0=>c 0
 | j+1=>ZJ c x j+c (j+1)*x j
theorem Zsx{c x:Nat→Int}: ∀n,c 0+(tab n fun i=>c (i+1)*x i).sum=ZJ c x n
 | 0=>by simp[tab,ZJ]
 | n+1=>by
  rw[←Zd3 (n:=n) (f:=fun i=>c (i+1)*x i),List.sum_append]
  have:=Zsx (c:=c) (x:=x) n
  simp only[List.sum_cons,List.sum_nil,ZJ]
  omega
theorem Zs5{c x:Nat→Int}{S:Nat→Sp}{n:Nat}(h:∀i,i<n→InS (S i) (x i)): ∀j,j≤n→InS (ZdP c S j) (ZJ c x j)
 | 0,_=>⟨fun l e=>by cases e;exact Int.le_refl _,fun l e=>by cases e;exact Int.le_refl _⟩
 | j+1,hj=>Zxt (Zs5 h j (by omega)) (ZwA (h j (by omega)))
theorem Zc6{c x:Nat→Int}: ∀n,ZJ (fun i=>-(c i)) x n = -(ZJ c x n)
 | 0=>rfl
 | n+1=>by
  simp only[ZJ,Zc6 n,Int.neg_mul]
  omega
noncomputable def sV(c x:Nat→Int)(l:List Nat): Int:=(l.map fun i=>c i*x (i-1)).sum
theorem Zou{c x:Nat→Int}: ∀n,ZJ c x n=c 0+sV c x (Zc2 c n)+sV c x (Zc3 c n)
 | 0=>by simp[ZJ,sV,Zc2,Zc3]
 | n+1=>by
  have ih:=Zou (c:=c) (x:=x) n
  have sn:∀l,sV c x (l++[n+1])=sV c x l+c (n+1)*x n:=fun l=>by simp[sV]
  simp only[ZJ,Zc2,Zc3,ih]
  rcases Int.lt_trichotomy (c (n+1)) 0 with h | h | h
  ·rw[if_neg (by omega),if_pos h,List.append_nil,sn]
   omega
  ·rw[if_neg (by omega),if_neg (by omega),List.append_nil,List.append_nil,h]
   omega
  ·rw[if_pos h,if_neg (by omega),List.append_nil,sn]
   omega
theorem Zks(h:Zar n G R x)(e:grt n G c=some y): ZJ c x n≤y:=by
 unfold grt at e
 by_cases hd:Df n c
 ·rw[ZaI hd]at e
  obtain⟨u,d,eu,ed,hcu,hcd,hu,hdn,hu1,hd1,iu,id_,_,_⟩:=ZjB hd
  rw[iu,id_]at e
  obtain⟨p,q,h1,h2,rfl⟩:=addO_some.mp (show addO (G u d) (some (c 0))=some y from e)
  cases h2
  have hb:=h.1 u d hu hdn p h1
  rw[Zou,eu,ed]
  have f:∀i,1≤i→Zaj x i=x (i-1):=fun i hi=>by
   cases i with
   | zero=>omega
   | succ i=>rfl
  rw[f u hu1,f d hd1]at hb
  simp only[sV,List.map_cons,List.map_nil,List.sum_cons,List.sum_nil,hcu,hcd]
  omega
 ·rw[ZaO hd]at e
  refine(Zs5 (S:=S40 G) (n:=n) (fun i hi=>⟨fun l el=>?_,fun r er=>?_⟩) n (Zz10 n)).2 y e
  ·obtain⟨z,e1,rfl⟩:=Zz1.mp el
   have:=h.1 0 (i+1) (by omega) (by omega) z e1
   have f0:Zaj x 0=0:=rfl
   have f1:Zaj x (i+1)=x i:=rfl
   show z*(-1)≤x i
   omega
  ·have:=h.1 (i+1) 0 (by omega) (by omega) r er
   have f0:Zaj x 0=0:=rfl
   have f1:Zaj x (i+1)=x i:=rfl
   omega
theorem ZjM(hn:n≤60)(hb:b≤100000)(bc:∀i,i<n+1→Bd b (c i))(bx:∀i,i<n→Bd b (x i)): ZcF [ZM n c,Zav n x]=some (.int (ZJ c x n)):=by
 apply Pk.eq
 unfold ZcF ZmH ZM Zav
 have h0:0<n+1:=by omega
 walk_at "z"
 refine Zbv (n:=n) (a:=fun i=>.int i) (b:=fun i=>.int (c (i+1)*x i)) (by omega) ?_ (fun i hi=>?_) ?_
 ·walk_at "z"
  rfl
 ·walk_at "z"
  rw[show((i:Int)+1).toNat=i+1 by omega]
  exact ZcW (ZdD (bc (i+1) (by omega)) (bx i hi) (by omega) (by omega)) rfl
 walk_at "z"
 refine⟨.int (tab n fun i=>c (i+1)*x i).sum,by simp only[ZkM,Zw4,Option.map_some],?_⟩
 walk_at "z"
 rw[show(Int.toNat 0)=0 from rfl,Zsx]
def SumB(n:Nat)(c:Nat→Int)(K:Int): Prop:=Bd 140 (c 0)∧∀i,1≤i→i<n+1→-K≤c i∧c i≤K
theorem SumB.bd(h:SumB n c K)(hK:K≤4000000000): ∀i,i<n+1→Bd 140 (c i):=fun i hi=>by
 by_cases q:i=0
 ·subst q;exact h.1
 ·have:=h.2 i (by omega) hi
  exact Zcj (i:=33) (by omega) (by decide)
theorem SumB.mono(h:SumB n c K)(hK:K≤K'): SumB n c K':=⟨h.1,fun i h1 h2=>by have:=h.2 i h1 h2;omega⟩
theorem Zj4{x:Nat}{k:Int}{N:TL→Prop}(e:σ x=some (.lst (tab (n+1) fun i=>.int (c i))))(h0:1≤k)(h1:k<(n+1:Nat))(bc:SumB n c K)(hK:K≤K')(v0:-K'≤v)(v1:v≤K')(h:∀c',SumB n c' K'→N (Z7 σ x (.lst (tab (n+1) fun i=>.int (c' i))))): PutP σ x (.int v) (.int k) N:=by
 refine Zjt (n:=n+1) (f:=fun i=>.int (c i)) e (by omega) h1 ?_
 have:=h (fun i=>if i=k.toNat then v else c i) ⟨by show Bd 140 (if 0=k.toNat then v else c 0);rw[if_neg (by omega)];exact bc.1,fun i hi1 hi2=>by
  by_cases q:i=k.toNat
  ·simp only[q,if_true];exact⟨v0,v1⟩
  ·simp only[q,if_false];have:=bc.2 i hi1 hi2;omega⟩
 rw[show(tab (n+1) fun i=>if i=k.toNat then T.int v else T.int (c i))=tab (n+1) fun i=>T.int (if i=k.toNat then v else c i)from ZaS fun i _=>by split <;> rfl]
 exact this
noncomputable def unC(i:Nat): Nat→Int:=fun k=>if 0<i∧k=i then 1 else 0
theorem Zfc(hn:n≤900): Zde [.int i,.int n]=some (ZM n (unC i)):=by
 apply Pk.eq
 unfold Zde Zoh ZM
 walk_at "z"
 refine Zbv (n:=n+1) (a:=fun k=>.int (k:Nat)) (b:=fun k=>.int (unC i k)) (by omega) ?_ (fun k hk=>?_) rfl
 ·walk_at "z"
  exact Zia (n+1) (by omega) (by omega) rfl
 ·walk_at "z"
  by_cases h:0<i
  ·refine⟨fun _=>?_,fun c=>absurd c (by simp;omega)⟩
   walk_at "z"
   by_cases q:k=i
   ·refine⟨fun _=>?_,fun c=>absurd c (by simp[q])⟩
    walk_at "z"
    show _=T.int (unC i k)
    unfold unC
    rw[if_pos ⟨h,q⟩]
   ·refine⟨fun c=>absurd c (by simp;omega),fun _=>?_⟩
    walk_at "z"
    show _=T.int (unC i k)
    unfold unC
    rw[if_neg (fun c=>q c.2)]
  ·refine⟨fun c=>absurd c (by simp;omega),fun _=>⟨fun c=>absurd c (by decide),fun _=>?_⟩⟩
   walk_at "z"
   show _=T.int (unC i k)
   unfold unC
   rw[if_neg (fun c=>h c.1)]
theorem Zu2{d:Nat→Int}(hn:n≤900): Zjh [ZM n c,ZM n d]=some (ZM n fun k=>c k+d k):=by
 apply Pk.eq
 unfold Zjh ZnB ZM
 walk_at "z"
 refine ZoC (n:=n+1) (a:=fun i=>.int (c i)) (b:=fun i=>.int (d i)) (c:=fun i=>.int (c i+d i)) (by omega) ?_ (fun i hi=>?_) rfl
 ·walk_at "z"
  rfl
 ·walk_at "z"
  rfl
theorem Zi4{d:Nat→Int}(hn:n≤900)(hb1:1≤b)(hb:b≤100000)(bd:∀i,i<n+1→Bd b (d i)): Zfa [ZM n c,ZM n d]=some (ZM n fun k=>c k-d k):=by
 apply Pk.eq
 unfold Zfa ZnD
 walk_at "z"
 refine Pk.of (Ze0 (by omega) hb bd (show Bd b (-1)by unfold Bd;have:=Zdw hb1;unfold Bd at this;simpa using this)) ?_
 walk_at "z"
 refine Pk.of (Zu2 hn) ?_
 walk_at "z"
 have:(fun k=>c k+d k * -1)=fun k=>c k-d k:=by funext k;omega
 rw[this]
noncomputable def Zej(C:Nat→Nat→Int): Nat→Nat→Int
 | 0=>fun _=>0
 | i+1=>C i
noncomputable def dC(C:Nat→Nat→Int)(i j:Nat): Nat→Int:=fun k=>Zej C i k-Zej C j k
noncomputable def rcG(n:Nat)(G:Nat→Nat→Option Int)(C:Nat→Nat→Int)(i j:Nat): Option Int:=grt n G (dC C i j)
noncomputable def rcR(n:Nat)(R:Nat→Int×Int)(C:Nat→Nat→Int)(i:Nat): Int×Int:=ZaG (C i) R n
noncomputable def Zbh(n m:Nat)(C:Nat→Nat→Int): T:=.lst (tab m fun i=>ZM n (C i))
def CB(b n m:Nat)(C:Nat→Nat→Int): Prop:=∀i,i<m→∀k,k<n+1→Bd b (C i k)
theorem CB.full(h:CB b n m C): ∀i,i<m+1→∀k,k<n+1→Bd b (Zej C i k)
 | 0,_,_,_=>ZaR
 | i+1,hi,k,hk=>h i (by omega) k hk
theorem CB.dif(h:CB b n m C)(hi:i<m+1)(hj:j<m+1): ∀k,k<n+1→Bd (b+1) (dC C i j k):=fun k hk=>by
 have h1:=h.full i hi k hk
 have h2:=h.full j hj k hk
 unfold Bd dC at *
 rw[Nat.pow_succ]
 omega
theorem Zto: unC 0=fun _=>0:=by funext k;unfold unC;rw[if_neg (by omega)]
theorem Zps(hG:GB b n G)(bc:∀i,i<n+1→Bd b (c i)): ∀y,grt n G c=some y→Bd (b+b+n+1) y:=fun y e=>by
 unfold grt at e
 by_cases h:Df n c
 ·rw[ZaI h]at e
  obtain⟨u,d,_,_,_,_,hu,hd,_,_,iu,id_,_,_⟩:=ZjB h
  rw[iu,id_]at e
  obtain⟨p,q,h1,h2,rfl⟩:=addO_some.mp (show addO (G u d) (some (c 0))=some y from e)
  cases h2
  exact((hG u d hu hd p h1).add (bc 0 (by omega))).mono (by omega)
 ·rw[ZaO h]at e
  exact(Zsw bc (Zs4 hG) n (Zz10 n) y e).mono (by omega)
theorem Zft{c d x:Nat→Int}: ∀n,ZJ (fun k=>c k-d k) x n=ZJ c x n-ZJ d x n
 | 0=>rfl
 | n+1=>by
  simp only[ZJ,Zft n,Int.sub_mul]
  omega
theorem ZoY{x:Nat→Int}: ∀n,ZJ (fun _=>0) x n=0
 | 0=>rfl
 | n+1=>by simp only[ZJ,ZoY n,Int.zero_mul];omega
theorem ZrY: ∀i,ZJ (Zej C i) x n=Zaj (fun t=>ZJ (C t) x n) i
 | 0=>ZoY n
 | i+1=>rfl
theorem Zpt{c:Nat→Int}{R:Nat→Int×Int}{x:Nat→Int}{n:Nat}(ok:∀t,t<n→RestOk (R t))(h:∀t,t<n→Zal (R t) (x t)): ∀j,j≤n→Zbn c R j ∣ ZJ c x j-Zb0 c R j
 | 0,_=>by show(0:Int) ∣ c 0-c 0;rw[Int.sub_self];exact Int.dvd_zero _
 | j+1,hj=>by
  have h1:Zbn c R (j+1) ∣ Zbn c R j:=Int.gcd_dvd_left ..
  have h2:Zbn c R (j+1) ∣ c (j+1)*(R j).1:=Int.gcd_dvd_right ..
  obtain⟨z,hz⟩:=(Zbp (ok j (by omega)).nn (x j)).mp (h j (by omega))
  have h3:=Int.dvd_add (Int.dvd_trans h1 (Zpt ok h j (by omega))) (Int.dvd_trans h2 (Int.dvd_mul_right _ z))
  rw[show ZJ c x (j+1)=ZJ c x j+c (j+1)*x j from rfl,show Zb0 c R (j+1)=Zb0 c R j+c (j+1)*(R j).2 from rfl,show x j=(R j).2+(R j).1*z by omega,Int.mul_add,←Int.mul_assoc]
  generalize c (j+1)*(R j).1*z=u at *
  generalize c (j+1)*(R j).2=v at *
  rwa [show ZJ c x j+(v+u)-(Zb0 c R j+v)=ZJ c x j-Zb0 c R j+u by omega]
theorem Zru{kk:Int}{w at_ m lo:Int}{N:TL→Prop}(hk0:0≤kk)(hk9:kk≤1000)(hm:0<m)(hn:n≤9)(hK:K≤K')(hlo:-K'≤-lo)(hhi:m-1-lo≤K')(e0:σ 0=some (scr ns))(e1:σ 1=some (.int kk))(e2:σ 2=some (.int n))(e4:σ 4=some (.int w))(e5:σ 5=some (.int (1+at_)))(e3:σ 3=some (.lst (tab (n+1) fun i=>.int (c i))))(bc:SumB n c K)(h:∀σ' c',σ' 0=some (scr ns)→σ' 1=some (.int kk)→σ' 2=some (.int n)→σ' 4=some (.int w)→σ' 5=some (.int (1+at_))→σ' 3=some (.lst (tab (n+1) fun i=>.int (c' i)))→SumB n c' K'→N σ')(pm plo:PE)(epm:∀σ,pm σ=some (.int m))(eplo:∀σ,plo σ=some (.int lo)): Psk (Za2 (ZaN (Ze (Zb 2) Zm)) (Zam 7) (Zbi 3 [] (Zh Zba (Zr ZbB (Ze (Zb 0) (Ze (Zh Zab (Zh Zab (Zb 1) (Zj 1)) (Zb 7)) (Ze pm Zm)))) plo) ZaQ (Zh Zab (Zb 7) (Zj 1))) σ) Q N:=by
 refine Zc8 (n:=n) (a:=fun i=>.int i) (P:=fun _ σ'=>σ' 0=some (scr ns)∧σ' 1=some (.int kk)∧σ' 2=some (.int n)∧σ' 4=some (.int w)∧σ' 5=some (.int (1+at_))∧∃c',σ' 3=some (.lst (tab (n+1) fun i=>.int (c' i)))∧SumB n c' K') ?_ ⟨e0,e1,e2,e4,e5,c,e3,bc.mono hK⟩ ?_ ?_
 ·walk_at "z"
  rfl
 ·rintro i σ' hi ⟨f0,f1,f2,f4,f5,c',f3,bc'⟩
  obtain⟨k0,k1⟩:=Zcz ns (kk+1+(i:Int)) hm
  walk_at "z"
  refine⟨_,epm _,?_⟩
  walk_at "z"
  refine Pk.of (ZcA (by omega) (by omega) hm) ?_
  refine⟨_,eplo _,?_⟩
  walk_at "z"
  refine Zj4 (n:=n) (c:=c') (K:=K') (K':=K') (by walk_at "r") (by omega) (by omega) bc' (Int.le_refl _) (by omega) (by omega) fun c2 bc2=>?_
  exact⟨by walk_at "r",by walk_at "r",by walk_at "r",by walk_at "r",by walk_at "r",c2,Zcb,bc2⟩
 ·rintro σ' ⟨f0,f1,f2,f4,f5,c',f3,bc'⟩
  exact h σ' c' f0 f1 f2 f4 f5 f3 bc'
theorem Zp9{kk:Int}(hk0:0≤kk)(hk9:kk≤1000)(hL:Lay ns)(hn:n≤9): Pk (Zgq [scr ns,.int kk,.int n]) fun t=>∃c,t=ZM n c∧SumB n c 1000000000:=by
 unfold Zgq Zoe
 have bn:Bd 140 (Zca ns kk):=Zcj (ZhV ns kk) (by decide)
 obtain⟨p0,p1⟩:=Zcz ns kk (show(0:Int)<6 by decide)
 refine ZsS rfl ?_
 refine Zez (fun σ'=>σ' 0=some (scr ns)∧σ' 1=some (.int kk)∧σ' 2=some (.int n)∧∃c,σ' 3=some (.lst (tab (n+1) fun i=>.int (c i)))∧SumB n c 0) ?_ ?_
 ·walk_at "z"
  refine Pk.of (Zgr hL (by omega) (by omega)) ?_
  walk_at "z"
  refine Zpq (by omega) ?_
  refine Zsc (by omega) ?_
  rw[show cn (T.int (Zca ns kk)) (fun _=>T.int 0)=fun i=>T.int (cn (Zca ns kk) (fun _=>0) i)from by funext i;cases i <;> rfl]
  refine⟨Zhj fun _ _=>rfl,?_⟩
  refine⟨rfl,rfl,rfl,_,Zcb,bn,fun i h1 h2=>?_⟩
  cases i with
  | zero=>omega
  | succ i=>exact⟨Int.le_refl 0,Int.le_refl 0⟩
 rintro σ1 ⟨e0,e1,e2,c,e3,bc⟩
 walk_at "z"
 refine Pk.of (ZcA (by omega) (by omega) (by decide)) ?_
 by_cases hz:Zbj ns kk 6=0∨n=0
 ·rcases hz with hz | hz
  ·walk_at "z"
   exact⟨c,rfl,bc.mono (by decide)⟩
  ·by_cases q:Zbj ns kk 6=0
   ·walk_at "z"
    exact⟨c,rfl,bc.mono (by decide)⟩
   ·have:(n:Int)=0:=by omega
    walk_at "z"
    exact⟨c,rfl,bc.mono (by decide)⟩
 have hz1:Zbj ns kk 6≠0:=fun q=>hz (.inl q)
 have hn0:(n:Int)≠0:=fun q=>hz (.inr (by omega))
 obtain⟨a0,a1⟩:=Zcz ns (kk+1) (show(0:Int)<n by omega)
 walk_at "z"
 refine Pk.of (ZcA (by omega) (by omega) (by omega)) ?_
 refine Zkg ?_
 generalize Zbj ns kk 6=w at *
 generalize Zbj ns (kk+1) n=at_ at *
 let M:Int→TL→Prop:=fun K σ'=>σ' 0=some (scr ns)∧σ' 1=some (.int kk)∧σ' 2=some (.int n)∧σ' 4=some (.int w)∧σ' 5=some (.int (1+at_))∧∃c,σ' 3=some (.lst (tab (n+1) fun i=>.int (c i)))∧SumB n c K
 refine Zez (M 6) ?_ ?_
 ·walk_at "z"
  refine⟨fun q=>?_,fun q=>?_⟩
  ·obtain⟨k0,k1⟩:=Zcz ns (kk+2) (show(0:Int)<13 by decide)
   walk_at "z"
   refine Pk.of (ZcA (by omega) (by omega) (by decide)) ?_
   walk_at "z"
   refine Zj4 (n:=n) (c:=c) (K:=0) (K':=6) (by walk_at "r") (by omega) (by omega) bc (by decide) (by omega) (by omega) fun c' bc'=>?_
   exact⟨by walk_at "r",by walk_at "r",by walk_at "r",by walk_at "r",by walk_at "r",c',Zcb,bc'⟩
  ·walk_at "z"
   exact⟨by walk_at "r",by walk_at "r",by walk_at "r",by walk_at "r",by walk_at "r",c,by walk_at "r",bc.mono (by decide)⟩
 clear bc e3 c
 rintro σ2 ⟨f0,f1,f2,f4,f5,c1,f3,bc1⟩
 refine Zez (M 7) ?_ ?_
 ·have go:Psk ((Zw (ZR 6 (Zh Zab (Zj 1) (Zr ZbB (Ze (Zb 0) (Ze (Zh Zab (Zb 1) (Zj 2)) (Ze (Zb 2) Zm)))))) (Zw (Zbi 3 [] (Zj 1) ZaQ (Zb 5)) (Zbi 3 [] (Zh Zba (Zh Zv (Zb 3) (Zb 6)) (Zj 1)) ZaQ (Zb 6)))) σ2) (fun t=>∃c,t=ZM n c∧SumB n c 1000000000) (M 7):=by
   obtain⟨k0,k1⟩:=Zcz ns (kk+2) (show(0:Int)<n by omega)
   walk_at "z"
   refine Pk.of (ZcA (by omega) (by omega) (by omega)) ?_
   generalize Zbj ns (kk+2) n=to_ at *
   walk_at "z"
   refine Zj4 (n:=n) (c:=c1) (K:=6) (K':=6) (by walk_at "r") (by omega) (by omega) bc1 (by decide) (by decide) (by decide) fun c' bc'=>?_
   have hto:=bc'.2 (1+to_).toNat (by omega) (by omega)
   walk_at "z"
   refine Zj4 (n:=n) (c:=c') (K:=6) (K':=7) (by walk_at "r") (by omega) (by omega) bc' (by decide) (by omega) (by omega) fun c2 bc2=>?_
   exact⟨by walk_at "r",by walk_at "r",by walk_at "r",by walk_at "r",by walk_at "r",c2,Zcb,bc2⟩
  have no:M 7 σ2:=⟨f0,f1,f2,f4,f5,c1,f3,bc1.mono (by decide)⟩
  by_cases q2:w=2
  ·refine ZpE ?_
   refine⟨true,?_,fun _=>go,fun e=>by cases e⟩
   simp[bOr,ZL,Zh,Zb,f4,Zj,qEq,ZjU,ZbK,q2]
  ·by_cases q3:w=3
   ·refine ZpE ?_
    refine⟨true,?_,fun _=>go,fun e=>by cases e⟩
    simp[bOr,ZL,Zh,Zb,f4,Zj,qEq,ZjU,ZbK,q3]
   ·walk_at "z"
    exact no
 clear bc1 f3 c1
 clear f0 f1 f2 f4 f5
 rintro σ3 ⟨f0,f1,f2,f4,f5,c1,f3,bc1⟩
 refine Zez (M 7) ?_ ?_
 ·walk_at "z"
  refine⟨fun q=>?_,fun q=>?_⟩
  ·exact Zru hk0 hk9 (m:=7) (lo:=3) (K:=7) (K':=7) (by decide) hn (by decide) (by decide) (by decide) f0 f1 f2 f4 f5 f3 bc1 (fun σ' c' g0 g1 g2 g4 g5 g3 bc'=>⟨g0,g1,g2,g4,g5,c',g3,bc'⟩) _ _ (fun _=>rfl) (fun _=>rfl)
  ·walk_at "z"
   exact⟨f0,f1,f2,f4,f5,c1,f3,bc1⟩
 clear bc1 f3 c1
 clear f0 f1 f2 f4 f5
 rintro σ4 ⟨f0,f1,f2,f4,f5,c1,f3,bc1⟩
 refine Zez (M 1000000000) ?_ ?_
 ·walk_at "z"
  refine⟨fun q=>?_,fun q=>?_⟩
  ·exact Zru hk0 hk9 (m:=2000000001) (lo:=1000000000) (K:=7) (K':=1000000000) (by decide) hn (by decide) (by decide) (by decide) f0 f1 f2 f4 f5 f3 bc1 (fun σ' c' g0 g1 g2 g4 g5 g3 bc'=>⟨g0,g1,g2,g4,g5,c',g3,bc'⟩) _ _ (fun _=>rfl) (fun _=>rfl)
  ·walk_at "z"
   exact⟨f0,f1,f2,f4,f5,c1,f3,bc1.mono (by decide)⟩
 rintro σ5 ⟨g0,g1,g2,g4,g5,c2,g3,bc2⟩
 walk_at "z"
 exact⟨c2,rfl,bc2⟩
theorem Zs6{a:Nat}(h:1≤a): unC a a=1:=by unfold unC;rw[if_pos ⟨by omega,rfl⟩]
theorem ZpT{a:Nat}(h:k≠a): unC a k=0:=by unfold unC;rw[if_neg (fun q=>h q.2)]
theorem Zhp(h:∀i j,i<n+1→j<n+1→G i j=G' i j)(k:∀t,t<n→R t=R' t): Zs n G R=Zs n G' R':=by
 unfold Zs Z8 Zay Zbd
 rw[show(tab (n+1) fun i=>T.lst (tab (n+1) fun j=>oT (G i j)))=tab (n+1) fun i=>T.lst (tab (n+1) fun j=>oT (G' i j))from ZaS fun i hi=>by rw[ZaS fun j hj=>by rw[h i j hi hj]],show(tab n fun t=>ZP (R t))=tab n fun t=>ZP (R' t)from ZaS fun t ht=>by rw[k t ht]]
theorem Zkt(hp:RestOk p)(hq:RestOk q)(h:∀x,Zal p x→Zal q x): RIn p q:=by
 have e:∀x,p.1 ∣ x-p.2→q.1 ∣ x-q.2:=fun x hx=>(Zbp hq.nn x).mp (h x ((Zbp hp.nn x).mpr hx))
 have a1:q.1 ∣ p.2-q.2:=e p.2 (by simp)
 have a2:q.1 ∣ p.2+p.1-q.2:=e (p.2+p.1) (by rw[show p.2+p.1-p.2=p.1 by omega];exact Int.dvd_refl _)
 have c1:q.1 ∣ p.1:=by have:=Int.dvd_sub a2 a1;rwa [show p.2+p.1-q.2-(p.2-q.2)=p.1 by omega]at this
 unfold RIn
 split
 ·rename_i z
  rw[z,Int.zero_dvd]at a1 c1
  exact Prod.ext (by rw[c1,z]) (by omega)
 ·exact⟨Int.emod_eq_zero_of_dvd c1,Int.emod_eq_zero_of_dvd a1⟩
theorem ZqH(hR:∀t,t<n→RestOk (R t))(s:Sharp n G R G2 R2 M k): ZbE n G2 R2 G R:=by
 obtain⟨R1,h1,h2,h3,h4,rfl,h6⟩:=s.go
 refine⟨fun i hi j hj=>?_,fun t ht=>?_⟩
 ·refine ZbC (ZkE (n+1) i j) (ZbC (ZyN fun b e q=>h3 ⟨i,j,hi,hj,b,e,q⟩) (ZkE (n+1) i j))
 ·refine Zkt (h6 t ht).1.1 (hR t ht) fun x hx=>?_
  have a:=((h6 t ht).2 x).mp hx
  have b:=((h2 t ht).2 x).mp a.1
  exact b.1
theorem ZpU{a:Nat}{x:Nat→Int}(h1:1≤a): ∀n,ZJ (unC a) x n=if a≤n then x (a-1)else 0
 | 0=>by rw[if_neg (by omega)];exact ZpT (by omega)
 | n+1=>by
  show ZJ (unC a) x n+unC a (n+1)*x n=_
  rw[ZpU h1 n]
  by_cases q:n+1=a
  ·subst q
   rw[Zs6 h1,if_neg (by omega),if_pos (by omega),Nat.add_sub_cancel];omega
  ·rw[ZpT q,Int.zero_mul]
   by_cases g:a≤n
   ·rw[if_pos g,if_pos (by omega)];omega
   ·rw[if_neg g,if_neg (by omega)];rfl
theorem ZAi{x:Nat}{s:Sp}(hd:∀i,i<n+1→G i i=some 0): ∀i,i<n+1→ZfN (ZeN G (x+1)) (x+1) s i i=some 0:=fun i hi=>by
 unfold ZfN
 rw[Zj0 (by omega),Zj0 (by omega)]
 unfold ZeN
 by_cases c:i=x+1
 ·rw[if_pos c,if_pos c]
 ·rw[if_neg c,if_neg c,hd i hi]
def Ztp(m:Nat)(D:T): Prop:=D=.none∨∃G R,D=Zs m G R∧(∀i,i<m+1→G i i=some 0)∧∀t,t<m→RestOk (R t)
theorem Zu3{S:T}: ZcG [.none,S]=some .none:=by
 apply Pk.eq
 unfold ZcG ZjG
 walk_at "z"
 rfl
theorem ZvO{K:Nat}(hM:0<M)(bM:Bd K M)(bG:BdG (n+1) k G)(hk:k+n+1≤K)(s:Sharp n G R G2 R2 M K): BdG (n+1) (K+n+2) G2∧∀t,t<n→RBd K (R2 t):=by
 obtain⟨R1,_,h1,_,_,rfl,h2⟩:=s.go
 refine⟨?_,fun t ht=>(h2 t ht).1.bd hM bM⟩
 have b1:BdG (n+1) K (clG G (n+1)):=fun a b c ha hb e=>(Zid bG (n+1) (Zz10 _) a b c ha hb e).mono (by omega)
 have b2:=Zs1 hM bM b1 fun t ht=>(h1 t ht).1
 exact fun a b c ha hb e=>(Zid b2 (n+1) (Zz10 _) a b c ha hb e).mono (by omega)
def ZkO(N:Nat)(R:Nat→Int×Int)(p:Nat→Nat)(R':Nat→Int×Int)(L:Nat)(ρ:Nat→Option (Int×Int)): Prop:=(∀t,t<N→(∀j,j<L→p j≠t)→ρ t=some (R t))∧∀j,j<L→Met (R (p j)) (R' j) (ρ (p j))
theorem ZwD{L:Nat}{p:Nat→Nat}(hp:∀i,i<L+1→p i<N)(inj:∀i j,i<L+1→j<L+1→p i=p j→i=j)(h:ZkO N R p R' L ρ)(hm:Met (R (p L)) (R' L) o): ZkO N R p R' (L+1) (fun t=>if t=p L then o else ρ t):=by
 refine⟨fun t ht hn=>?_,fun j hj=>?_⟩
 ·have:t≠p L:=fun e=>hn L (by omega) e.symm
  simp only[this,if_false]
  exact h.1 t ht fun j hj=>hn j (by omega)
 ·by_cases c:j=L
  ·subst c
   simp only[if_true]
   exact hm
  ·have:p j≠p L:=fun e=>c (inj j L hj (by omega) e)
   simp only[this,if_false]
   exact h.2 j (by omega)
theorem ZyS: (oR o).flat=true:=by cases o <;> rfl
theorem ZAj: (tab N fun t=>if t=k then oR o else oR (ρ t))=tab N fun t=>oR (if t=k then o else ρ t):=ZaS fun t _=>by
 by_cases c:t=k
 ·rw[if_pos c,if_pos c]
 ·rw[if_neg c,if_neg c]
def ZAY(N:Nat)(G:Nat→Nat→Option Int)(ρ:Nat→Option (Int×Int))(t:T): Prop:=(t=.none∧∃i,i<N∧ρ i=none)∨(t=Zs N G (fun i=>(ρ i).getD (1,0))∧∀i,i<N→ρ i≠none)
noncomputable def qOf(p:Nat→Nat): Nat→Nat
 | 0=>0
 | i+1=>p i+1
theorem ZBc(p:Nat→Nat): cn (T.int 0) (fun i=>T.int ((p i:Int)+1))=fun i=>T.int (qOf p i:Nat):=by
 funext i
 cases i with
 | zero=>rfl
 | succ i=>show T.int ((p i:Int)+1)=T.int ((p i+1:Nat):Int);congr 1
theorem Zxx(h:∀i,i<N→ρ i≠none): T.tup [Z8 (N+1) G,.lst (tab N fun t=>oR (ρ t))]=Zs N G (fun i=>(ρ i).getD (1,0)):=by
 unfold Zs Zbd
 congr 4
 refine ZaS fun i hi=>?_
 show oR (ρ i)=ZP ((ρ i).getD (1,0))
 cases e:ρ i with
 | none=>exact absurd e (h i hi)
 | some q=>rfl
theorem Zrh{L:Nat}{p:Nat→Nat}(hN:N≤90)(hL:L≤90)(hb:b≤8000)(hp:∀i,i<L→p i<N)(inj:∀i j,i<L→j<L→p i=p j→i=j)(ok:∀t,t<N→RestOk (R t))(ok':∀t,t<L→RestOk (R' t))(bR:∀t,t<N→RBd b (R t))(bR':∀t,t<L→RBd b (R' t)): Pk (Zhv [Zs N Γ R,.lst (tab L fun i=>.int ((p i:Int)+1)),Zs L G' R']) fun t=>∃ρ,ZkO N R p R' L ρ∧ZAY N (ZcK (qOf p) G' (L+1) Γ (L+1)) ρ t:=by
 unfold Zhv Zoc
 have ht:∀{n:Nat} {G:Nat→Nat→Option Int} {R:Nat→Int×Int},Zs n G R=.tup [Z8 (n+1) G,.lst (tab n fun i=>ZP (R i))]:=rfl
 rw[ht,ht]
 walk_at "z"
 refine Zfo (n:=L) (a:=fun i=>.int ((p i:Int)+1)) (c:=fun i=>ZP (R' i)) (P:=fun i σ=>∃ρ,σ 0=some (.tup [Z8 (N+1) Γ,.lst (tab N fun i=>ZP (R i))])∧σ 1=some (.lst (tab L fun i=>.int ((p i:Int)+1)))∧σ 2=some (.tup [Z8 (L+1) G',.lst (tab L fun i=>ZP (R' i))])∧σ 3=some (.lst (tab N fun t=>oR (ρ t)))∧ZkO N R p R' i ρ) ?_ ⟨fun t=>some (R t),by walk_at "r",by walk_at "r",by walk_at "r",by walk_at "r",fun t _ _=>rfl,fun j hj=>by omega⟩ ?_ ?_
 ·walk_at "z"
  rfl
 ·rintro i σ hi ⟨ρ,e0,e1,e2,e3,hl⟩
  have hpi:=hp i hi
  have hidx:((p i:Int)+1-1).toNat=p i:=by omega
  have hr:ρ (p i)=some (R (p i)):=hl.1 (p i) hpi fun j hj e=>by have:=inj j i (by omega) hi e;omega
  walk_at "z"
  rw[hidx,hr]
  refine(Zi2 (k:=b) hb (ok _ hpi) (ok' i hi) (bR _ hpi) (bR' i hi)).mono ?_
  rintro _ ⟨o,rfl,hm,_⟩
  refine⟨ZyS,?_⟩
  walk_at "z"
  refine Zjt (n:=N) (f:=fun t=>oR (ρ t)) (by walk_at "r") (by omega) (by omega) ?_
  rw[hidx,ZAj]
  exact⟨_,by walk_at "r",by walk_at "r",by walk_at "r",by walk_at "r",ZwD (fun j hj=>hp j (by omega)) (fun i' j' h1 h2=>inj i' j' (by omega) (by omega)) hl hm⟩
 ·rintro σ ⟨ρ,e0,e1,e2,e3,hl⟩
  have hq:∀i,i<L+1→qOf p i<N+1:=fun i hi=>by
   cases i with
   | zero=>exact Nat.succ_pos N
   | succ i=>show p i+1<N+1;have:=hp i (by omega);omega
  walk_at "z"
  refine ZkB (.none (n:=0)) (Zfy (n:=1) fun i _=>Zp5) ?_
  by_cases hc:∃i,i<N∧ρ i=none
  ·obtain⟨i,hi,ei⟩:=hc
   rw[ZaI (show T.none∈tab N fun i=>oR (ρ i)from List.mem_of_getElem? (i:=i) (by rw[Za7 hi,ei];rfl))]
   walk_at "z"
   exact⟨ρ,hl,.inl ⟨rfl,i,hi,ei⟩⟩
  ·rw[ZaO (show ¬T.none∈tab N fun i=>oR (ρ i)from fun h=>by
    obtain⟨i,hi,e⟩:=ZcQ h
    exact hc ⟨i,hi,oR_none.mp e.symm⟩)]
   have hne:∀i,i<N→ρ i≠none:=fun i hi e=>hc ⟨i,hi,e⟩
   walk_at "z"
   rw[ZBc]
   refine Pk.of (Ztw (by omega) (by omega) hq) ?_
   walk_at "z"
   exact⟨ρ,hl,.inr ⟨Zxx hne,hne⟩⟩
noncomputable def apC(c:Nat→Int)(i j:Nat): Nat→Int:=fun k=>unC i k-unC j k-c k
noncomputable def alC(c:Nat→Int)(i:Nat): Nat→Int:=fun k=>unC i k*c i-c k
theorem ZfE: unC i k=0∨unC i k=1:=by unfold unC;split;exact .inr rfl;exact .inl rfl
theorem Ztq(hb:1≤b)(bc:∀i,i<n+1→Bd b (c i))(i j:Nat): ∀k,k<n+1→Bd (b+2) (apC c i j k):=fun k hk=>by
 have h:=bc k hk
 have h1:=ZfE (i:=i) (k:=k)
 have h2:=ZfE (i:=j) (k:=k)
 have h3:2≤2 ^ b:=by
  have:2 ^ 1≤2 ^ b:=Nat.pow_le_pow_right (by decide) hb
  exact this
 unfold Bd apC at *
 rw[Nat.pow_add]
 omega
theorem Ztr(bc:∀i,i<n+1→Bd b (c i))(i:Nat)(hi:i<n+1): ∀k,k<n+1→Bd (b+2) (alC c i k):=fun k hk=>by
 have h:=bc k hk
 have g:=bc i hi
 unfold alC
 rcases ZfE (i:=i) (k:=k)with e | e
 ·rw[e,Int.zero_mul];unfold Bd at *;rw[Nat.pow_add];omega
 ·rw[e,Int.one_mul];unfold Bd at *;rw[Nat.pow_add];omega
theorem Zri(h:∀i j,i<N→j<N→G i j=G' i j): Z8 N G=Z8 N G':=by
 unfold Z8 Zay
 rw[show(tab N fun i=>T.lst (tab N fun j=>oT (G i j)))=tab N fun i=>T.lst (tab N fun j=>oT (G' i j))from ZaS fun i hi=>by rw[ZaS fun j hj=>by rw[h i j hi hj]]]
noncomputable def Wv(w G:Nat→Nat→Option Int)(i j:Nat): Nat→Nat→Option Int:=fun a b=>if a<i∨(a=i∧b<j)then w a b else G a b
theorem ZAk{w:Nat→Nat→Option Int}: ZaF (Wv w G i j) i j (w i j)=Wv w G i (j+1):=by
 funext a b
 unfold ZaF Wv
 by_cases h:a=i∧b=j
 ·rw[if_pos h,if_pos (by omega),h.1,h.2]
 ·rw[if_neg h]
  by_cases q:a<i∨(a=i∧b<j)
  ·rw[if_pos q,if_pos (by omega)]
  ·rw[if_neg q,if_neg (by omega)]
theorem ZAZ{w:Nat→Nat→Option Int}: Wv w G i j i j=G i j:=by unfold Wv;rw[if_neg (by omega)]
theorem ZAl{w:Nat→Nat→Option Int}: Z8 N (Wv w G i N)=Z8 N (Wv w G (i+1) 0):=Zri fun a b ha hb=>by
 unfold Wv
 by_cases q:a<i∨(a=i∧b<N)
 ·rw[if_pos q,if_pos (by omega)]
 ·rw[if_neg q,if_neg (by omega)]
theorem ZBd{w:Nat→Nat→Option Int}: Wv w G 0 0=G:=by funext a b;unfold Wv;rw[if_neg (by omega)]
theorem ZAm{w:Nat→Nat→Option Int}: Z8 N (Wv w G N 0)=Z8 N w:=Zri fun a b ha hb=>by unfold Wv;rw[if_pos (.inl ha)]
noncomputable def apW(n:Nat)(G:Nat→Nat→Option Int)(c:Nat→Int)(top:Int)(a b:Nat): Option Int:=if a=b then G a b else Za5 (G a b) (addO (grt n G (apC c a b)) (some top))
theorem ZiG{k:Int}(hi:i≤9000)(hk0:k≠0)(hk:Bd i k): ZeY [oT a,.int k]=some (oT (a.map fun x=>x.fdiv k)):=by
 apply Pk.eq
 unfold ZeY Zmd
 cases a with
 | none=>
  simp only[ZcH]
  walk_at "z"
  rfl
 | some x=>
  rw[ZbJ]
  walk_at "z"
  refine ZcV hk0 (ZeL hk hi) ?_
  rfl
noncomputable def prt(n:Nat)(G:Nat→Nat→Option Int)(c:Nat→Int)(top:Int)(i:Nat): Option Int:=(addO (grt n G (alC c i)) (some top)).map fun y=>y.fdiv (if c i<0 then -(c i)else c i)
noncomputable def alW(n:Nat)(G:Nat→Nat→Option Int)(c:Nat→Int)(top:Int)(Γ:Nat→Nat→Option Int)(m:Nat): Nat→Nat→Option Int:=fun a b=>if b=0∧1≤a∧a≤m∧0<c a then Za5 (Γ a 0) (prt n G c top a)else if a=0∧1≤b∧b≤m∧c b<0 then Za5 (Γ 0 b) (prt n G c top b)else Γ a b
theorem ZA0: alW n G c top Γ 0=Γ:=by
 funext a b
 unfold alW
 rw[if_neg (by omega),if_neg (by omega)]
theorem ZyT(h:0<c (m+1)): ZaF (alW n G c top Γ m) (m+1) 0 (Za5 (alW n G c top Γ m (m+1) 0) (prt n G c top (m+1)))=alW n G c top Γ (m+1):=by
 have e:alW n G c top Γ m (m+1) 0=Γ (m+1) 0:=by unfold alW;rw[if_neg (by omega),if_neg (by omega)]
 rw[e]
 funext a b
 unfold ZaF alW
 by_cases q:a=m+1∧b=0
 ·obtain⟨rfl,rfl⟩:=q
  rw[if_pos ⟨rfl,rfl⟩,if_pos ⟨rfl,by omega,by omega,h⟩]
 ·have i1:(b=0∧1≤a∧a≤m+1∧0<c a)↔(b=0∧1≤a∧a≤m∧0<c a):=by omega
  have i2:(a=0∧1≤b∧b≤m+1∧c b<0)↔(a=0∧1≤b∧b≤m∧c b<0):=by
   by_cases g:b=m+1
   ·subst g;omega
   ·omega
  rw[if_neg q]
  simp only[i1,i2]
theorem ZyU(h:c (m+1)<0): ZaF (alW n G c top Γ m) 0 (m+1) (Za5 (alW n G c top Γ m 0 (m+1)) (prt n G c top (m+1)))=alW n G c top Γ (m+1):=by
 have e:alW n G c top Γ m 0 (m+1)=Γ 0 (m+1):=by unfold alW;rw[if_neg (by omega),if_neg (by omega)]
 rw[e]
 funext a b
 unfold ZaF alW
 by_cases q:a=0∧b=m+1
 ·obtain⟨rfl,rfl⟩:=q
  rw[if_pos ⟨rfl,rfl⟩,if_neg (by omega),if_pos ⟨rfl,by omega,by omega,h⟩]
 ·have i1:(b=0∧1≤a∧a≤m+1∧0<c a)↔(b=0∧1≤a∧a≤m∧0<c a):=by
   by_cases g:a=m+1
   ·subst g;omega
   ·omega
  have i2:(a=0∧1≤b∧b≤m+1∧c b<0)↔(a=0∧1≤b∧b≤m∧c b<0):=by omega
  rw[if_neg q]
  simp only[i1,i2]
theorem Zxy(h:c (m+1)=0): alW n G c top Γ m=alW n G c top Γ (m+1):=by
 funext a b
 unfold alW
 have i1:(b=0∧1≤a∧a≤m+1∧0<c a)↔(b=0∧1≤a∧a≤m∧0<c a):=by
  by_cases g:a=m+1
  ·subst g;omega
  ·omega
 have i2:(a=0∧1≤b∧b≤m+1∧c b<0)↔(a=0∧1≤b∧b≤m∧c b<0):=by
  by_cases g:b=m+1
  ·subst g;omega
  ·omega
 simp only[i1,i2]
noncomputable def amG(n:Nat)(G:Nat→Nat→Option Int)(c:Nat→Int)(top:Int): Nat→Nat→Option Int:=alW n G c top (apW n G c top) n
noncomputable def gT(N:Nat)(Γ:Nat→Nat→Option Int): T:=.lst (tab N fun a=>.lst (tab N fun b=>oT (Γ a b)))
theorem Zpu{b:Option Int}(ha:∀y,a=some y→Bd k y)(hb:∀y,b=some y→Bd k y): ∀y,Za5 a b=some y→Bd k y:=fun y e=>by
 rcases ZeC a b with q | q
 ·exact ha y (q▸e)
 ·exact hb y (q▸e)
theorem Zxz{x k:Int}(hk:0<k): (x.fdiv k).natAbs≤x.natAbs:=by
 rw[Int.fdiv_eq_ediv_of_nonneg x (by omega)]
 have e1:x / k*k≤x:=Int.ediv_mul_le x (by omega)
 have e2:x<(x / k+1)*k:=Int.lt_ediv_add_one_mul_self x hk
 generalize x / k=q at *
 rcases Int.lt_trichotomy q 0 with h | h | h
 ·-- q≤-1,x<(q+1) k≤q+1
  have:(q+1)*k≤q+1:=by
   have:=Int.mul_le_mul_of_nonpos_left (a:=q+1) (b:=k) (c:=1) (by omega) (by omega)
   simpa using this
  omega
 ·omega
 ·have:q*1≤q*k:=Int.mul_le_mul_of_nonneg_left (by omega) (by omega)
  omega
theorem ZyV{x k:Int}(h:Bd i x)(hk:0<k): Bd i (x.fdiv k):=Nat.lt_of_le_of_lt (Zxz hk) h
theorem ZA1{B:Nat}(hb1:1≤b)(hG:GB b n G)(bc:∀i,i<n+1→Bd b (c i))(bt:Bd b top)(hB:b+b+n+6≤B): SmG B n (amG n G c top):=by
 have hG2:GB (b+2) n G:=fun a b ha hb y e=>(hG a b ha hb y e).mono (by omega)
 have s1:∀{d:Nat→Int},(∀k,k<n+1→Bd (b+2) (d k))→∀y,addO (grt n G d) (some top)=some y→Bd B y:=fun bd y e=>by
  obtain⟨p,q,h1,h2,rfl⟩:=addO_some.mp e
  cases h2
  exact((Zps hG2 bd p h1).add (bt.mono (by omega))).mono (by omega)
 have sG:∀i j,i<n+1→j<n+1→∀y,G i j=some y→Bd B y:=fun i j hi hj y e=>(hG i j hi hj y e).mono (by omega)
 have sA:∀i j,i<n+1→j<n+1→∀y,apW n G c top i j=some y→Bd B y:=fun i j hi hj y e=>by
  unfold apW at e
  split at e
  ·exact sG i j hi hj y e
  ·exact Zpu (sG i j hi hj) (s1 (Ztq hb1 bc i j)) y e
 have sP:∀i,i<n+1→c i≠0→∀y,prt n G c top i=some y→Bd B y:=fun i hi h0 y e=>by
  unfold prt at e
  obtain⟨z,h1,rfl⟩:=Zz1.mp e
  exact ZyV (s1 (Ztr bc i hi) z h1) (by split <;> omega)
 intro i j hi hj y e
 show Bd B y
 unfold amG alW at e
 split at e
 ·rename_i q
  exact Zpu (sA i 0 hi (by omega)) (sP i hi (by omega)) y e
 ·split at e
  ·rename_i q
   exact Zpu (sA 0 j (by omega) hj) (sP j hj (by omega)) y e
  ·exact sA i j hi hj y e
theorem ZBe(hd:∀i,i<n+1→G i i=some 0): ∀i,i<n+1→amG n G c top i i=some 0:=fun i hi=>by
 unfold amG alW
 rw[if_neg (by omega),if_neg (by omega)]
 unfold apW
 rw[if_pos rfl,hd i hi]
theorem Zqa(i j:Nat): leO (apW n G c top i j) (G i j):=by
 unfold apW
 split
 ·exact Zbu
 ·exact ZfD
theorem ZA2(i j:Nat): leO (amG n G c top i j) (G i j):=by
 unfold amG alW
 split
 ·rename_i q
  rw[q.1]
  exact ZbC ZfD (Zqa i 0)
 ·split
  ·rename_i q
   rw[q.1]
   exact ZbC ZfD (Zqa 0 j)
  ·exact Zqa i j
theorem ZeF: ∀i,i<n+1→ZJ (unC i) x n=Zaj x i
 | 0,_=>by rw[Zto,ZoY];rfl
 | i+1,hi=>by rw[ZpU (by omega),if_pos (by omega)];rfl
theorem ZjC{u x:Nat→Int}{k:Int}: ∀n,ZJ (fun a=>u a*k) x n=ZJ u x n*k
 | 0=>rfl
 | n+1=>by
  show ZJ (fun a=>u a*k) x n+u (n+1)*k*x n=(ZJ u x n+u (n+1)*x n)*k
  rw[ZjC n,Int.add_mul,Int.mul_assoc,Int.mul_comm k,←Int.mul_assoc]
theorem Zov{b:Option Int}{x:Int}(h:Za5 a b=some y)(ha:∀z,a=some z→x≤z)(hb:∀z,b=some z→x≤z): x≤y:=by
 rcases ZeC a b with q | q
 ·exact ha y (q▸h)
 ·exact hb y (q▸h)
theorem Zsy(h:Zar n G R x)(ht:ZJ c x n≤top): Zar n (amG n G c top) R x:=by
 have f1:∀i j,i<n+1→j<n+1→∀y,apW n G c top i j=some y→Zaj x i-Zaj x j≤y:=fun i j hi hj y e=>by
  unfold apW at e
  split at e
  ·exact h.1 i j hi hj y e
  ·refine Zov e (h.1 i j hi hj) fun z ez=>?_
   obtain⟨p,q,h1,h2,rfl⟩:=addO_some.mp ez
   cases h2
   have:=Zks h h1
   rw[show apC c i j=fun k=>(fun a=>unC i a-unC j a) k-c k from rfl,Zft,Zft,ZeF i hi,ZeF j hj]at this
   omega
 have f2:∀i,i<n+1→∀z,addO (grt n G (alC c i)) (some top)=some z→Zaj x i*c i≤z:=fun i hi z ez=>by
  obtain⟨p,q,h1,h2,rfl⟩:=addO_some.mp ez
  cases h2
  have:=Zks h h1
  rw[show alC c i=fun k=>(fun a=>unC i a*c i) k-c k from rfl,Zft,ZjC,ZeF i hi]at this
  omega
 refine⟨fun i j hi hj y e=>?_,h.2⟩
 unfold amG alW at e
 split at e
 ·rename_i q
  obtain⟨rfl,q1,q2,q3⟩:=q
  refine Zov e (f1 i 0 hi hj) fun z ez=>?_
  unfold prt at ez
  obtain⟨p,h1,rfl⟩:=Zz1.mp ez
  have:=f2 i hi p h1
  rw[if_neg (by omega),show Zaj x 0=0 from rfl,Int.sub_zero]
  exact by rw[Int.fdiv_eq_ediv_of_nonneg _ (by omega)];exact(Int.le_ediv_iff_mul_le q3).mpr this
 ·split at e
  ·rename_i q
   obtain⟨rfl,q1,q2,q3⟩:=q
   refine Zov e (f1 0 j hi hj) fun z ez=>?_
   unfold prt at ez
   obtain⟨p,h1,rfl⟩:=Zz1.mp ez
   have:=f2 j hj p h1
   rw[if_pos q3,show Zaj x 0=0 from rfl,Int.zero_sub]
   rw[Int.fdiv_eq_ediv_of_nonneg _ (by omega)];refine(Int.le_ediv_iff_mul_le (by omega)).mpr ?_
   rw[Int.neg_mul_neg]
   exact this
  ·exact f1 i j hi hj y e
theorem ZyW(hn:n≤100): Dp 8 (Z8 (n+1) G):=by
 refine .lst (fun t m=>?_) (by rw[Zap];omega)
 obtain⟨i,hi,rfl⟩:=ZcQ m
 refine .lst (fun t m=>?_) (by rw[Zap];omega)
 obtain⟨j,hj,rfl⟩:=ZcQ m
 exact Zp6
theorem ZuC{c t:T}: Zb2 [.none,c,t]=some .none:=by
 apply Pk.eq
 unfold Zb2 Zhx
 walk_at "z"
 rfl
theorem ZgI{n b:Nat}{c x:Nat→Int}(bc:∀i,i<n+1→Bd b (c i))(bx:∀i,i<n→Bd b (x i)): ∀j,j≤n→Bd (b+b+j) (ZJ c x j)
 | 0,_=>(bc 0 (by omega)).mono (by omega)
 | j+1,hj=>by
  have h1:=ZgI bc bx j (by omega)
  have h2:=((bc (j+1) (by omega)).mul (bx j (by omega))).mono (show b+b≤b+b+j by omega)
  exact h1.add h2
noncomputable def Zcv(c:Nat→Int)(top:Int): Nat→Int:=fun k=>if k=0 then c 0-top else c k
theorem ZAn(bc:∀i,i<n+1→Bd b (c i))(bt:Bd b top): ∀i,i<n+1→Bd (b+1) (Zcv c top i):=fun i hi=>by
 unfold Zcv
 split
 ·exact(bc 0 (by omega)).sub bt
 ·exact(bc i hi).mono (by omega)
theorem su: PyData.strOk (Str.ofString "under")=true:=by decide +kernel
noncomputable def unT(n:Nat)(c:Nat→Int): T:=.tup [.str (Str.ofString "under"),ZM n c]
theorem Zow: (fun k=>c k * -1)=fun k=>-(c k):=by funext k;omega
theorem Zqu(h:Zb2 [T0,ZM n c,.int (-1)]=some D): ZeZ [T0,ZM n c,.bool true]=some D:=by
 apply Pk.eq
 unfold ZeZ ZiL
 walk_at "z"
 exact Pk.of h rfl
theorem Zqz(hn:n≤900)(hb1:1≤b)(hb:b≤1000)(bc:∀i,i<n+1→Bd b (c i))(h:Zb2 [T0,ZM n fun k=>-(c k),.int 0]=some D): ZeZ [T0,ZM n c,.bool false]=some D:=by
 apply Pk.eq
 unfold ZeZ ZiL
 walk_at "z"
 refine Pk.of (Ze0 (b:=b) (by omega) (by omega) bc (show Bd b (-1)by unfold Bd;have:=Zdw hb1;unfold Bd at this;simpa using this)) ?_
 rw[Zow]
 walk_at "z"
 exact Pk.of h rfl
theorem Zj5{b:Bool}(hT:T0=.none∨∃G R,T0=Zs n G R)(h0:T0=.none→D=.none)(h:ZeZ [T0,ZM n c,.bool b]=some D): Zdm [T0,unT n c,.bool b]=some D:=by
 apply Pk.eq
 unfold Zdm Zh6
 rcases hT with rfl | ⟨G,R,rfl⟩
 ·rw[h0 rfl]
  walk_at "z"
  rfl
 ·have ht:Zs n G R=.tup [Z8 (n+1) G,.lst (tab n fun i=>ZP (R i))]:=rfl
  have hne:∀{Q:T→Prop},Q (.bool false)→Pk (qIs (Zs n G R) .none) Q:=fun h=>⟨_,by rw[ht];rfl,h⟩
  unfold unT
  walk_at "z"
  refine hne ?_
  walk_at "z"
  refine ZbT (n:=1) (m:=1) (.str su) (.str su) ?_
  rw[ZaI rfl]
  walk_at "z"
  exact Pk.of h rfl
def Tm(n K:Nat)(M:Int)(P:(Nat→Int)→Prop)(I:(Nat→Nat→Option Int)→(Nat→Int×Int)→Prop)(D:T): Prop:=(D=.none∧∀x,¬P x)∨∃G R,D=Zs n G R∧(∀i,i<n+1→G i i=some 0)∧(∀t,t<n→RB M K (R t))∧GB K n G∧(∀x,P x→Zar n G R x)∧I G R
theorem Zeq(hn:n≤100)(hi:1≤i)(hi2:i≤9000)(bc:∀j,j<n+1→Bd i (c j))(bR:∀j,j<n→RBd i (R j))(ok:∀j,j<n→RestOk (R j)): ZdB [ZM n c,.lst (tab n fun j=>ZP (R j))]=some (ZP (ZaG c R n)):=by
 apply Pk.eq
 unfold ZdB Zno ZM
 walk_at "z"
 refine Zfo (n:=n) (a:=fun j=>.int (c (j+1))) (c:=fun j=>ZP (R j)) (P:=fun j σ=>σ 2=some (ZP (ZaG c R j))) ?_ rfl ?_ ?_
 ·refine ZpF ?_
  refine Zjz ?_
  walk_at "z"
  refine⟨_,rfl,?_⟩
  rw[ZoW]
  walk_at "z"
  rfl
 ·rintro j σ hj e2
  have hr:=(ok j hj).nn
  have bt:Bd (i+i) (Zcd (R j) (c (j+1))).1:=by
   unfold Zcd
   rw[Zd0]
   exact(bR j hj).1.mul (Zsn (bc (j+1) (by omega)))
  have bv:Bd (i+i) (ZaG c R j).1:=by
   rw[ZdE ok j (by omega),Zd0]
   exact Zpp bc bR j (by omega)
  walk_at "z"
  refine Pk.of (ZlY (k:=i) (by omega) hr (bR j hj) (bc (j+1) (by omega))) ?_
  walk_at "z"
  refine Pk.of (Zmh (k:=i+i) (by omega) bv bt) ?_
  walk_at "z"
  exact Zcb
 ·rintro σ e2
  walk_at "z"
  rfl
noncomputable def ZaP(c:Nat→Int)(i:Nat): Nat→Int:=fun k=>c k-unC i k*c i
theorem ZAo(bc:∀i,i<n+1→Bd b (c i))(i:Nat)(hi:i<n+1): ∀k,k<n+1→Bd (b+1) (ZaP c i k):=fun k hk=>by
 have h1:=bc k hk
 have h2:=bc i hi
 have h3:Bd b (unC i k*c i):=by
  rcases ZfE (i:=i) (k:=k)with e | e <;> rw[e]
  ·rw[Int.zero_mul];exact ZaR
  ·rw[Int.one_mul];exact h2
 exact h1.sub h3
noncomputable def Zdx(p:Int×Int)(d:Int): Int×Int:=ZaA (Int.gcd p.1 d) p.2
theorem ZkX(hk:k≤200000)(hp:Bd k p.1)(hd:Bd k d): ZgV [ZP p,.int d]=some (ZP (Zdx p d)):=by
 apply Pk.eq
 unfold ZgV Zlc ZP Zdx
 walk_at "z"
 refine Pk.of (Zjm (Zcj hp hk) (Zcj hd hk)) ?_
 walk_at "z"
 exact Pk.of (Zf2 (by omega)) rfl
noncomputable def Zdy(n:Nat)(R:Nat→Int×Int)(c:Nat→Int)(d:Int)(i:Nat): Int×Int:=ZaA (Int.gcd (ZaG (ZaP c i) R n).1 d) (-(c i)*(ZaG (ZaP c i) R n).2)
theorem ZAp(ok:∀t,t<n→RestOk (R t))(h1:c i=1∨c i = -1): Zdx (Zcd (ZaG (ZaP c i) R n) (-(c i))) d=Zdy n R c d i:=by
 have hr:RestOk (ZaG (ZaP c i) R n):=by rw[ZdE ok n (Zz10 n)];exact ZcN (ZeD _ _ _) _
 generalize hp:ZaG (ZaP c i) R n=p at *
 unfold Zdx Zdy Zcd
 rw[hp,Zd0]
 have ha:Za4 (-(c i))=1:=by rcases h1 with e | e <;> rw[e] <;> rfl
 rw[ha,Int.mul_one]
 refine ZqF (by omega) ?_
 have h2:((Int.gcd p.1 d:Nat):Int) ∣ p.1:=Int.gcd_dvd_left ..
 have:=Int.dvd_trans h2 (Zjo (m:=p.1) (r:=p.2 * -(c i)) hr.nn)
 rwa [Int.mul_comm (-(c i))]
theorem Zs7: RestOk (Zdy n R c d i):=ZcN (by omega) _
def ZcD(n:Nat)(R:Nat→Int×Int)(c:Nat→Int)(d:Int)(t:Nat)(o:Option (Int×Int)): Prop:=if c (t+1)=1∨c (t+1) = -1 then Met (R t) (Zdy n R c d (t+1)) o else o=some (R t)
theorem Zpv(ok:∀t,t<n→RestOk (R t))(bm:∀t,t<n→Bd m (R t).1)(bR:∀t,t<n→RBd k (R t))(bc:∀i,i<n+1→Bd k (c i)): RBd (k+k+n) (ZaG c R n):=by
 rw[ZdE ok n (Zz10 n)]
 exact Zjy (ZeD _ _ _) ((Zpp bc bR n (Zz10 n)).mono (by omega)) (Zso bc bR n (Zz10 n))
theorem Zs8(ok:∀t,t<n→RestOk (R t))(bR:∀t,t<n→RBd k (R t))(bc:∀j,j<n+1→Bd k (ZaP c i j))(bd:Bd k d)(h1:c i=1∨c i = -1): RBd (k+k+n) (Zdy n R c d i):=by
 have h:=Zpv (m:=k) ok (fun t ht=>(bR t ht).1) bR bc
 generalize hp:ZaG (ZaP c i) R n=p at *
 unfold Zdy
 rw[hp]
 refine Zjy (by omega) (Zkq h.1 (bd.mono (by omega))) ?_
 rcases h1 with e | e <;> rw[e]
 ·have:=h.2;unfold Bd at *;omega
 ·have:=h.2;unfold Bd at *;omega
theorem Zt2(hn:n≤60)(hk1:1≤k)(hk:k+k+n≤8000)(ht:t<n)(ok:∀t,t<n→RestOk (R t))(bR:∀t,t<n→RBd k (R t))(bc:∀j,j<n+1→Bd k (c j))(bo:∀j,j<n+1→Bd k (ZaP c (t+1) j))(bd:Bd k d): Pk (Zg2 [.lst (tab n fun j=>ZP (R j)),ZM n c,.int d,.int ((t+1:Nat):Int)]) fun u=>∃o,u=oR o∧ZcD n R c d t o:=by
 unfold Zg2 ZlR
 have hs:ZM n c=.lst (tab (n+1) fun k=>.int (c k)):=rfl
 have h1:t+1<n+1:=by omega
 have e1:(((t+1:Nat):Int)).toNat=t+1:=by omega
 have e2:(((t+1:Nat):Int)-1).toNat=t:=by omega
 have ab:Za4 (c (t+1))=1↔(c (t+1)=1∨c (t+1) = -1):=by unfold Za4;split <;> omega
 have bu:∀j,j<n+1→Bd k (unC (t+1) j):=fun j _=>by
  rcases ZfE (i:=t+1) (k:=j)with e | e <;> rw[e]
  ·exact ZaR
  ·exact Zdw hk1
 rw[hs]
 walk_at "z"
 rw[←hs]
 rw[e2]
 by_cases q:c (t+1)=1∨c (t+1) = -1
 ·have qa:=ab.mpr q
  have bp:=Zpv (m:=k) ok (fun t ht=>(bR t ht).1) bR bo
  have op:RestOk (ZaG (ZaP c (t+1)) R n):=by rw[ZdE ok n (Zz10 n)];exact ZcN (ZeD _ _ _) _
  have bs:=Zs8 ok bR bo bd q
  have bk:=bc (t+1) h1
  have be:=ZAp (d:=d) ok q
  walk_at "z"
  refine Pk.of (Zfc (i:=t+1) (n:=n) (by omega)) ?_
  walk_at "z"
  refine Pk.of (Ze0 (b:=k) (by omega) (by omega) bu bk) ?_
  walk_at "z"
  refine Pk.of (Zi4 (b:=k+k) (by omega) (by omega) (by omega) (fun j hj=>(bu j hj).mul bk)) ?_
  rw[show(fun k=>c k-unC (t+1) k*c (t+1))=ZaP c (t+1)from rfl]
  walk_at "z"
  refine Pk.of (Zeq (i:=k) (by omega) hk1 (by omega) bo bR ok) ?_
  walk_at "z"
  refine Pk.of (ZlY (k:=k+k+n) (by omega) op.nn bp (show Bd (k+k+n) (-(c (t+1)))by have:=bk.mono (show k≤k+k+n by omega);unfold Bd at *;omega)) ?_
  walk_at "z"
  refine Pk.of (ZkX (k:=k+k+n+k) (by omega) (by unfold Zcd;rw[Zd0];exact bp.1.mul (Zsn (show Bd k (-(c (t+1)))by unfold Bd at *;omega))) (bd.mono (by omega))) ?_
  rw[be]
  walk_at "z"
  refine(Zi2 (k:=k+k+n) hk (ok t ht) Zs7 ⟨(bR t ht).1.mono (by omega),(bR t ht).2.mono (by omega)⟩ bs).mono ?_
  rintro _ ⟨o,rfl,hm,_⟩
  exact⟨o,rfl,by unfold ZcD;rw[if_pos q];exact hm⟩
 ·have qa:¬Za4 (c (t+1))=1:=fun h=>q (ab.mp h)
  walk_at "z"
  exact⟨some (R t),rfl,by unfold ZcD;rw[if_neg q]⟩
theorem ZuD(hn:n≤60)(hk1:1≤k)(hk:k+k+n≤8000)(ok:∀t,t<n→RestOk (R t))(bR:∀t,t<n→RBd k (R t))(bc:∀j,j<n+1→Bd k (c j))(bo:∀t,t<n→∀j,j<n+1→Bd k (ZaP c (t+1) j))(bd:Bd k d): ∃o:Nat→Option (Int×Int),(∀t,t<n→ZcD n R c d t (o t))∧((∃t,t<n∧o t=none)→Zdd [Zs n G R,ZM n c,.int d]=some .none)∧∀R' D,(∀t,t<n→o t=some (R' t))→ZaK [Zs n G R']=some D→Zdd [Zs n G R,ZM n c,.int d]=some D:=by
 have ex:∀t,∃o,t<n→Zg2 [.lst (tab n fun j=>ZP (R j)),ZM n c,.int d,.int ((t+1:Nat):Int)]=some (oR o)∧ZcD n R c d t o:=fun t=>by
  by_cases ht:t<n
  ·obtain⟨u,e,o,rfl,h⟩:=Zt2 hn hk1 hk ht ok bR bc (bo t ht) bd
   exact⟨o,fun _=>⟨e,h⟩⟩
  ·exact⟨none,fun h=>absurd h ht⟩
 obtain⟨o,ho⟩:=Classical.axiomOfChoice ex
 refine⟨o,fun t ht=>(ho t ht).2,?_⟩
 have ht:Zs n G R=.tup [Z8 (n+1) G,.lst (tab n fun i=>ZP (R i))]:=rfl
 have hs:ZM n c=.lst (tab (n+1) fun k=>.int (c k)):=rfl
 have key:∀{D:T},((∃t,t<n∧o t=none)∧D=.none∨(¬(∃t,t<n∧o t=none))∧ZaK [.tup [Z8 (n+1) G,.lst (tab n fun t=>oR (o t))]]=some D)→Zdd [Zs n G R,ZM n c,.int d]=some D:=fun {D} hD=>by
  apply Pk.eq
  unfold Zdd ZiW
  rw[ht,hs]
  walk_at "z"
  rw[←hs]
  refine Zbv (n:=n) (a:=fun i=>.int ((1+i:Nat):Int)) (b:=fun t=>oR (o t)) (by omega) ?_ (fun t ht'=>?_) ?_
  ·refine ZjK (a:=1) (m:=n) (by omega) (by omega) ?_ rfl
   simp only[Ze,Zj,Zm,Zb,Zr,hs,Zaz,Zap,Option.bind_some]
   show some [T.int 1,T.int (((tab (n+1) fun k=>T.int (c k)).length:Nat):Int)]=_
   rw[Zap]
   congr 3
   congr 1
   omega
  ·rw[Nat.add_comm 1 t]
   walk_at "z"
   exact Pk.of (ho t ht').1 rfl
  walk_at "z"
  refine ZkB (.none (n:=0)) (Zfy (n:=1) fun i _=>Zp5) ?_
  rcases hD with⟨⟨t,h1,h2⟩,rfl⟩ | ⟨hc,hD⟩
  ·rw[ZaI (show T.none∈tab n fun i=>oR (o i)from List.mem_of_getElem? (i:=t) (by rw[Za7 h1,h2];rfl))]
   walk_at "z"
   rfl
  ·rw[ZaO (show ¬T.none∈tab n fun i=>oR (o i)from fun h=>by
    obtain⟨i,hi,e⟩:=ZcQ h
    exact hc ⟨i,hi,oR_none.mp e.symm⟩)]
   walk_at "z"
   exact Pk.of hD rfl
 refine⟨fun h=>key (.inl ⟨h,rfl⟩),fun R' D h hD=>key (.inr ⟨fun⟨t,h1,h2⟩=>(by rw[h t h1]at h2;cases h2),?_⟩)⟩
 have e:T.tup [Z8 (n+1) G,.lst (tab n fun t=>oR (o t))]=Zs n G R':=by
  show T.tup [Z8 (n+1) G,.lst (tab n fun t=>oR (o t))]=.tup [Z8 (n+1) G,.lst (tab n fun i=>ZP (R' i))]
  rw[ZaS fun i hi=>(show oR (o i)=ZP (R' i)by rw[h i hi];rfl)]
 rw[e]
 exact hD
theorem ZrZ{c:Nat→Int}{R:Nat→Int×Int}{n i m:Nat}(bc:∀j,j<n+1→Bd i (c j))(bm:∀j,j<n→Bd m (R j).1): ∀j,j≤n→Bd (i+m) (Zbn c R j)
 | 0,_=>ZaR
 | j+1,h=>Zkq (ZrZ bc bm j (by omega)) ((bc (j+1) (by omega)).mul (bm j (by omega)))
theorem Zs9{a b:Int}(ha:Bd i a)(hb:Bd j b): Bd (i+j) ((Int.lcm a b:Nat):Int):=by
 unfold Bd at *
 by_cases h:a=0∨b=0
 ·rcases h with e | e <;> subst e
  ·rw[Int.lcm_zero_left];exact Nat.pow_pos (by decide)
  ·rw[Int.lcm_zero_right];exact Nat.pow_pos (by decide)
 ·have:Int.lcm a b≤a.natAbs*b.natAbs:=Nat.le_of_dvd (Nat.mul_pos (by omega) (by omega)) (Nat.lcm_dvd_mul _ _)
  rw[Int.natAbs_natCast,Nat.pow_add]
  exact Nat.lt_of_le_of_lt this (Nat.mul_lt_mul'' ha hb)
theorem ZyX(ok:∀t,t<n→RestOk (R t))(bm:∀t,t<n→Bd m (R t).1)(bo:∀j,j<n+1→Bd b (ZaP c (t+1) j))(bd:Bd (b+m) d): Bd (b+m) (Zdy n R c d (t+1)).1:=by
 unfold Zdy
 rw[Zd0,ZdE ok n (Zz10 n),Zd0]
 exact Zkq (ZrZ bo bm n (Zz10 n)) bd
theorem ZyY{r:Int×Int}(hk:k+k+n≤8000)(ht:t<n)(ok:∀t,t<n→RestOk (R t))(bm:∀t,t<n→Bd m (R t).1)(bR:∀t,t<n→RBd k (R t))(bo:∀j,j<n+1→Bd b (ZaP c (t+1) j))(hbk:b+m≤k)(bd:Bd (b+m) d)(h:ZcD n R c d t (some r)): RestOk r∧Bd (b+m+m) r.1∧Bd (k+k+n) r.2:=by
 have g1:Bd (k+k+n) (R t).2:=(bR t ht).2.mono (by omega)
 unfold ZcD at h
 split at h
 ·rename_i q
  have bs:=Zs8 ok bR (fun j hj=>(bo j hj).mono (by omega)) (bd.mono (by omega)) q
  have hm:=ZyX ok bm bo bd
  have wh:=ZAh (k:=k+k+n) hk (ok t ht) Zs7 ⟨(bR t ht).1.mono (by omega),g1⟩ bs h r rfl
  refine⟨h.1,?_,?_⟩
  ·rcases wh with rfl | rfl | ⟨_,_,e⟩
   ·exact(bm t ht).mono (by omega)
   ·exact hm.mono (by omega)
   ·rw[e]
    exact(Zs9 (bm t ht) hm).mono (by omega)
  ·rcases wh with rfl | rfl | ⟨z1,z2,e⟩
   ·exact g1
   ·exact bs.2
   ·have b1:Bd (k+k+n) r.1:=by rw[e];exact(Zs9 (bm t ht) hm).mono (by omega)
    have n0:r.1≠0:=by rw[e];intro h;exact(Int.lcm_ne_zero z1 z2) (by omega)
    rcases h.1 with q | ⟨_,q2,q3⟩
    ·exact absurd q n0
    ·unfold Bd at *;omega
 ·cases h
  exact⟨ok t ht,(bm t ht).mono (by omega),g1⟩
def Tf(n:Nat)(P:(Nat→Int)→Prop)(I:(Nat→Nat→Option Int)→(Nat→Int×Int)→Prop)(D:T): Prop:=(D=.none∧∀x,¬P x)∨∃G R,D=Zs n G R∧(∀i,i<n+1→G i i=some 0)∧(∀t,t<n→RestOk (R t))∧(∀x,P x→Zar n G R x)∧I G R
theorem Tm.tf{K:Nat}(h:Tm n K M P I D): Tf n P I D:=by
 rcases h with h | ⟨G,R,rfl,h1,h2,h3,h4,h5⟩
 ·exact .inl h
 ·exact .inr ⟨G,R,rfl,h1,fun t ht=>(h2 t ht).1,h4,h5⟩
theorem Tf.due(h:Tf n P I D): Ztp n D:=by
 rcases h with⟨rfl,_⟩ | ⟨G,R,rfl,h1,h2,h3,h4⟩
 ·exact .inl rfl
 ·exact .inr ⟨G,R,rfl,h1,h2⟩
theorem ZyZ(ht:t<n)(ok:∀t,t<n→RestOk (R t))(hx:∀t,t<n→Zal (R t) (x t))(hd:d ∣ ZJ c x n)(q:c (t+1)=1∨c (t+1) = -1): Zal (Zdy n R c d (t+1)) (x t):=by
 unfold Zdy
 refine(ZcM (by omega) _).mpr ?_
 have hv:ZJ (ZaP c (t+1)) x n=ZJ c x n-x t*c (t+1):=by
  rw[show ZaP c (t+1)=fun k=>c k-(fun a=>unC (t+1) a*c (t+1)) k from rfl,Zft,ZjC,ZeF (t+1) (by omega)]
  rfl
 have h1:=Zpt (c:=ZaP c (t+1)) ok hx n (Zz10 n)
 rw[ZdE ok n (Zz10 n),Zd0]
 have h2:=Zjo (m:=Zbn (ZaP c (t+1)) R n) (r:=Zb0 (ZaP c (t+1)) R n) (ZeD _ _ _)
 have g1:((Int.gcd (Zbn (ZaP c (t+1)) R n) d:Nat):Int) ∣ Zbn (ZaP c (t+1)) R n:=Int.gcd_dvd_left ..
 have g2:((Int.gcd (Zbn (ZaP c (t+1)) R n) d:Nat):Int) ∣ d:=Int.gcd_dvd_right ..
 have h3:=Int.dvd_trans g1 (Int.dvd_sub h1 h2)
 have h4:=Int.dvd_trans g2 hd
 rw[hv]at h3
 generalize ((Int.gcd (Zbn (ZaP c (t+1)) R n) d:Nat):Int)=g at *
 generalize (ZaA (Zbn (ZaP c (t+1)) R n) (Zb0 (ZaP c (t+1)) R n)).2=s at *
 generalize Zb0 (ZaP c (t+1)) R n=r at *
 have h5:=Int.dvd_sub h4 h3
 rcases q with e | e <;> rw[e]at h5 ⊢
 ·rwa [show ZJ c x n-(ZJ c x n-x t*1-r-(s-r))=x t - -1*s by omega]at h5
 ·have:=(Int.dvd_neg).mpr h5
  rwa [show -(ZJ c x n-(ZJ c x n-x t * -1-r-(s-r)))=x t - -(-1)*s by omega]at this
theorem Zr0(ht:t<n)(ok:∀t,t<n→RestOk (R t))(hx:∀t,t<n→Zal (R t) (x t))(hd:d ∣ ZJ c x n)(h:ZcD n R c d t o): ∃r,o=some r∧Zal r (x t):=by
 unfold ZcD at h
 split at h
 ·rename_i q
  have hb:=ZyZ ht ok hx hd q
  cases o with
  | none=>exact absurd ⟨hx t ht,hb⟩ (h (x t))
  | some r=>exact⟨r,rfl,(h.2 (x t)).mpr ⟨hx t ht,hb⟩⟩
 ·exact⟨R t,h,hx t ht⟩
theorem Zj6{x:Int}(op:RestOk p)(oq:RestOk q)(h:RIn p q)(hx:Zal p x): Zal q x:=by
 unfold RIn at h
 split at h
 ·rw[←h];exact hx
 ·refine(Zbp oq.nn x).mpr ?_
  have a:=(Zbp op.nn x).mp hx
  have b:=Int.dvd_trans (Int.dvd_of_emod_eq_zero h.1) a
  have:=Int.dvd_add b (Int.dvd_of_emod_eq_zero h.2)
  rwa [show x-p.2+(p.2-q.2)=x-q.2 by omega]at this
theorem ZhW(o2:∀t,t<n→RestOk (R2 t))(o:∀t,t<n→RestOk (R t))(h:ZbE n G2 R2 G R)(l:Zar n G2 R2 x): Zar n G R x:=by
 refine⟨fun i j hi hj b e=>?_,fun t ht=>Zj6 (o2 t ht) (o t ht) (h.2 t ht) (l.2 t ht)⟩
 obtain⟨y,h1,h2⟩:=h.1 i hi j hj b e
 have:=l.1 i j hi hj y h1
 omega
theorem Zg8{G1 G3:Nat→Nat→Option Int}{R1 R3:Nat→Int×Int}(o1:∀t,t<n→RestOk (R1 t))(o2:∀t,t<n→RestOk (R2 t))(o3:∀t,t<n→RestOk (R3 t))(h:ZbE n G1 R1 G2 R2)(k:ZbE n G2 R2 G3 R3): ZbE n G1 R1 G3 R3:=⟨fun i hi j hj=>ZbC (h.1 i hi j hj) (k.1 i hi j hj),fun t ht=>Zkt (o1 t ht) (o3 t ht) fun x hx=>Zj6 (o2 t ht) (o3 t ht) (k.2 t ht) (Zj6 (o1 t ht) (o2 t ht) (h.2 t ht) hx)⟩
theorem ZhD(o:∀t,t<n→RestOk (R t))(h:ZbE n G2 R2 (amG n G c top) R): ZbE n G2 R2 G R:=⟨fun i hi j hj=>ZbC (h.1 i hi j hj) (ZA2 i j),h.2⟩
def AM(n:Nat)(c:Nat→Int)(top:Int)(x:Nat→Int): Prop:=∃G R,(∀y,grt n G (fun k=>-(c k))=some y→-y≤top)∧Zar n (amG n G c top) R x
theorem Zqv{a b:T}: Zdd [.none,a,b]=some .none:=by
 apply Pk.eq
 unfold Zdd ZiW
 walk_at "z"
 rfl
theorem ZpV(hM:0<M)(bM:Bd m M)(h:RB M k q): Bd m q.1:=by
 rcases h.2.1 with e | e
 ·rw[e];exact ZaR
 ·have:=Nat.le_of_dvd (by omega) (Int.natAbs_dvd_natAbs.mpr e)
  unfold Bd at *
  omega
theorem ZoZ(ok:∀t,t<n→RestOk (R t))(h:∀t,t<n→Zal (R t) (x t)): Zal (ZaG c R n) (ZJ c x n):=by
 rw[ZdE ok n (Zz10 n)]
 exact(ZcM (ZeD _ _ _) _).mpr (Zpt ok h n (Zz10 n))
theorem Zpw(ok:∀t,t<n→RestOk (R t)): RestOk (ZaG c R n):=by
 rw[ZdE ok n (Zz10 n)]
 exact ZcN (ZeD _ _ _) _
theorem Zsz(bc:∀i,i<n+1→Bd b (c i)): ∀t,t<n→∀j,j<n+1→Bd (b+1) (ZaP c (t+1) j):=fun t ht=>ZAo bc (t+1) (by omega)
theorem ZAq(h:∀i,i<n+1→G i i=some 0): ∀i,i<n+m+1→Zbg n G i i=some 0:=fun i hi=>by
 unfold Zbg
 by_cases c:i<n+1
 ·rw[if_pos ⟨c,c⟩,h i c]
 ·rw[if_neg (by omega),if_pos rfl]
theorem ZsA(h:∀t,t<n→RestOk (R t))(t:Nat): RestOk (ZbM n R t):=by
 unfold ZbM
 by_cases c:t<n
 ·rw[if_pos c];exact h t c
 ·rw[if_neg c];exact .inr ⟨by decide,by decide,by decide⟩
theorem ZsB(hb:1≤b)(h:∀t,t<n→RBd b (R t))(t:Nat): RBd b (ZbM n R t):=by
 unfold ZbM
 by_cases c:t<n
 ·rw[if_pos c];exact h t c
 ·rw[if_neg c];exact⟨Zdw hb,ZaR⟩
theorem ZwE{y:Nat→Int}(h:Zar n G R x)(hy:∀i,i<n→y i=x i): Zar (n+m) (Zbg n G) (ZbM n R) y:=by
 have hf:∀i,i<n+1→Zaj y i=Zaj x i:=fun i hi=>by
  cases i with
  | zero=>rfl
  | succ i=>exact hy i (by omega)
 refine⟨fun i j hi hj b e=>?_,fun t ht=>?_⟩
 ·unfold Zbg at e
  split at e
  ·rename_i c
   rw[hf i c.1,hf j c.2]
   exact h.1 i j c.1 c.2 b e
  ·split at e
   ·rename_i c
    cases e
    rw[c]
    omega
   ·cases e
 ·unfold ZbM
  by_cases c:t<n
  ·rw[if_pos c,hy t c];exact h.2 t c
  ·rw[if_neg c]
   exact⟨fun q=>absurd q (by decide),fun _=>Int.emod_one _⟩
theorem Zo0{q:Nat→Nat}{G':Nat→Nat→Option Int}{i k:Nat}(Iv:(Nat→Nat→Option Int)→Prop)(h:∀Δ j,j<k→Iv Δ→Iv (ZaF Δ (q i) (q j) (Za5 (Δ (q i) (q j)) (G' i j)))){Γ:Nat→Nat→Option Int}(h0:Iv Γ): ∀j,j≤k→Iv (ZfO q G' i Γ j)
 | 0,_=>h0
 | j+1,hj=>h _ j (by omega) (Zo0 Iv h h0 j (by omega))
theorem ZhL{q:Nat→Nat}{G':Nat→Nat→Option Int}{k:Nat}(Iv:(Nat→Nat→Option Int)→Prop)(h:∀Δ i j,i<k→j<k→Iv Δ→Iv (ZaF Δ (q i) (q j) (Za5 (Δ (q i) (q j)) (G' i j)))){Γ:Nat→Nat→Option Int}(h0:Iv Γ): ∀i,i≤k→Iv (ZcK q G' k Γ i)
 | 0,_=>h0
 | i+1,hi=>Zo0 Iv (fun Δ j hj hΔ=>h Δ i j (by omega) hj hΔ) (ZhL Iv h h0 i (by omega)) k (Zz10 k)
theorem Zy0{L:Nat}{p:Nat→Nat}(inj:∀i j,i<L→j<L→p i=p j→i=j): ∀i j,i<L+1→j<L+1→qOf p i=qOf p j→i=j
 | 0,0,_,_,_=>rfl
 | 0,j+1,_,_,h=>by simp only[qOf]at h;omega
 | i+1,0,_,_,h=>by simp only[qOf]at h;omega
 | i+1,j+1,hi,hj,h=>by
  simp only[qOf]at h
  rw[inj i j (by omega) (by omega) (by omega)]
theorem Zy1: Za5 (some 0) (some 0)=some 0:=Zj1 Zbu
theorem Zy2{L:Nat}{p:Nat→Nat}(inj:∀i j,i<L→j<L→p i=p j→i=j)(hp:∀i,i<L→p i<N)(h:∀i,i<N+1→Γ i i=some 0)(h':∀i,i<L+1→G' i i=some 0): ∀i,i<N+1→ZcK (qOf p) G' (L+1) Γ (L+1) i i=some 0:=by
 refine ZhL (fun Δ=>∀i,i<N+1→Δ i i=some 0) (fun Δ i j hi hj hΔ a ha=>?_) h (L+1) (Zz10 _)
 by_cases c:a=qOf p i∧a=qOf p j
 ·have hij:=Zy0 inj i j hi hj (c.1.symm.trans c.2)
  subst hij
  obtain⟨rfl,_⟩:=c
  rw[Zsm,hΔ _ ha,h' i hi,Zy1]
 ·rw[Zj0 c];exact hΔ a ha
theorem ZvP{L:Nat}{p:Nat→Nat}{y z:Nat→Int}(hz:∀i,i<L→z i=y (p i))(h:Zar N Γ R y)(h':Zar L G' R' z): ∀i j,i<N+1→j<N+1→∀b,ZcK (qOf p) G' (L+1) Γ (L+1) i j=some b→Zaj y i-Zaj y j≤b:=by
 have hf:∀i,i<L+1→Zaj y (qOf p i)=Zaj z i:=fun i hi=>by
  cases i with
  | zero=>rfl
  | succ i=>exact(hz i (by omega)).symm
 refine ZhL (fun Δ=>∀i j,i<N+1→j<N+1→∀b,Δ i j=some b→Zaj y i-Zaj y j≤b) (fun Δ i j hi hj hΔ a b ha hb c e=>?_) h.1 (L+1) (Zz10 _)
 by_cases d:a=qOf p i∧b=qOf p j
 ·obtain⟨rfl,rfl⟩:=d
  rw[Zsm]at e
  rcases ZeC (Δ (qOf p i) (qOf p j)) (G' i j)with q | q
  ·rw[q]at e;exact hΔ _ _ ha hb c e
  ·rw[q]at e
   rw[hf i hi,hf j hj]
   exact h'.1 i j hi hj c e
 ·rw[Zj0 d]at e;exact hΔ a b ha hb c e
theorem Zt3(hn:n≤60)(hm:m≤60)(hb:b≤9000)(hb1:1≤b)(hG:GB b n G)(hC:CB b n m C)(hi:i<m+1): ZiI [Zs n G R,ZM n (Zej C i),.lst (tab (m+1) fun j=>ZM n (Zej C j))]=some (Zay (m+1) fun j=>rcG n G C i j):=by
 apply Pk.eq
 unfold ZiI Zl9 Zay
 walk_at "z"
 refine Zbv (n:=m+1) (a:=fun j=>ZM n (Zej C j)) (b:=fun j=>oT (rcG n G C i j)) (by omega) ?_ (fun j hj=>?_) rfl
 ·walk_at "z"
  rfl
 ·walk_at "z"
  refine Pk.of (Zi4 (b:=b) (by omega) hb1 (by omega) (hC.full j hj)) ?_
  walk_at "z"
  exact Pk.of (Zga (b:=b+1) (c:=dC C i j) hn (by omega) (by omega) (fun a b ha hb y e=>(hG a b ha hb y e).mono (by omega)) (hC.dif hi hj)) rfl
theorem ZvQ(hn:n≤60)(hm:m≤60)(hb:b≤9000)(hb1:1≤b)(hG:GB b n G)(hR:∀t,t<n→RBd b (R t))(ok:∀t,t<n→RestOk (R t))(hC:CB b n m C)(h:Pk (ZaK [Zs m (rcG n G C) (rcR n R C)]) Q): Pk (ZcG [Zs n G R,Zbh n m C]) Q:=by
 obtain⟨t,et,qt⟩:=h
 refine⟨t,?_,qt⟩
 apply Pk.eq
 unfold ZcG ZjG
 have ht:Zs n G R=.tup [.lst (tab (n+1) fun i=>.lst (tab (n+1) fun j=>oT (G i j))),.lst (tab n fun i=>ZP (R i))]:=rfl
 have hc:cn (ZM n (unC 0)) (fun i=>ZM n (C i))=fun i=>ZM n (Zej C i):=by
  funext i
  cases i with
  | zero=>rw[Zto];rfl
  | succ i=>rfl
 have hs:Zbh n m C=.lst (tab m fun i=>ZM n (C i)):=rfl
 rw[ht,hs]
 walk_at "z"
 refine Pk.of (Zfc (i:=0) (n:=n) (by omega)) ?_
 walk_at "z"
 rw[hc]
 refine Zbv (n:=m+1) (a:=fun j=>ZM n (Zej C j)) (b:=fun i=>Zay (m+1) fun j=>rcG n G C i j) (by omega) ?_ (fun j hj=>?_) ?_
 ·walk_at "z"
  rfl
 ·walk_at "z"
  rw[←ht]
  exact Pk.of (Zt3 (b:=b) hn hm hb hb1 hG hC hj) rfl
 walk_at "z"
 refine Zbv (n:=m) (a:=fun j=>ZM n (C j)) (b:=fun i=>ZP (rcR n R C i)) (by omega) ?_ (fun j hj=>?_) ?_
 ·walk_at "z"
  rfl
 ·walk_at "z"
  exact Pk.of (Zeq (i:=b) (by omega) hb1 hb (fun k hk=>hC j hj k hk) hR ok) rfl
 walk_at "z"
 exact Pk.of et rfl
theorem ZwF{g:PEs}{a:Nat}{L:List T→Prop}(h0:0<m)(hm:a+m≤1000)(e:g σ=some [.int a,.int (a+m)])(h:L (tab m fun i=>.int ((a+i:Nat):Int))): Pl (ZaN g σ) L:=by
 refine⟨_,ZhS e (by have:=Zpd (a:=a) (n:=m) (by omega) (by omega);simpa using this),?_⟩
 rw[show(tab m fun i=>T.int ((a:Int)+i))=tab m fun i=>.int ((a+i:Nat):Int)from ZaS fun i _=>by congr 1]
 exact h
theorem Zu4(hn:n≤20)(hm0:0<m)(hm:m≤100): Zhu [Zs n G R,.int m]=some (Zs (n+m) (Zbg n G) (ZbM n R)):=by
 apply Pk.eq
 unfold Zhu Zn9
 have ht:∀{n:Nat} {G:Nat→Nat→Option Int} {R:Nat→Int×Int},Zs n G R=.tup [.lst (tab (n+1) fun i=>.lst (tab (n+1) fun j=>oT (G i j))),.lst (tab n fun i=>.tup [.int (R i).1,.int (R i).2])]:=rfl
 rw[ht]
 walk_at "z"
 refine Zbv (n:=n+1) (a:=fun i=>.lst (tab (n+1) fun j=>oT (G i j))) (b:=fun i=>.lst (tab (n+m+1) fun j=>oT (Zbg n G i j))) (by omega) ?_ (fun i hi=>?_) ?_
 ·walk_at "z"
  rfl
 ·walk_at "z"
  refine Zpq (by omega) ?_
  refine ZoB (by omega) ?_
  rw[Zxw hi]
  exact⟨ZvM,rfl⟩
 walk_at "z"
 refine Zbv (n:=m) (a:=fun i=>.int ((n+1+i:Nat):Int)) (b:=fun i=>.lst (tab (n+m+1) fun j=>oT (Zbg n G (n+1+i) j))) (by omega) ?_ (fun i hi=>?_) ?_
 ·refine ZwF (a:=n+1) (m:=m) hm0 (by omega) ?_ rfl
  simp only[Ze,Zh,Zb,Zj,Zm,Z7,Option.bind_some]
  simp[Zab]
  omega
 ·walk_at "z"
  refine Pk.of (show ZeX [.int ((n+1+i:Nat):Int),.int ((n:Int)+m)]=some (Zay (n+m+1) fun j=>if j=n+1+i then some 0 else none)from Zqt (by omega)) ?_
  show T.lst _=T.lst _
  congr 1
  refine ZaS fun j hj=>?_
  unfold Zbg
  rw[if_neg (by omega)]
 walk_at "z"
 refine ZoB (by omega) ?_
 walk_at "z"
 refine Zpq (by omega) ?_
 refine ZoB (by omega) ?_
 rw[ZvN]
 refine⟨Zhj fun _ _=>Zfj,?_⟩
 walk_at "z"
 rw[show(Zs (n+m) (Zbg n G) (ZbM n R))=.tup [.lst (tab (n+m+1) fun i=>.lst (tab (n+m+1) fun j=>oT (Zbg n G i j))),Zbd (n+m) (ZbM n R)]from rfl,show n+1+m=n+m+1 by omega]
 congr 3
 refine ZaS fun i hi=>?_
 by_cases c:i<n+1
 ·rw[if_pos c]
 ·rw[if_neg c,show n+1+(i-(n+1))=i by omega]
theorem ZmX(hm:m≤90)(hn:n≤900): Zfb [.int m,.int n]=some (Zbh n m fun t=>unC (t+1)):=by
 apply Pk.eq
 unfold Zfb ZnG
 walk_at "z"
 refine Zbv (n:=m) (a:=fun i=>.int ((1+i:Nat):Int)) (b:=fun t=>ZM n (unC (t+1))) (by omega) ?_ (fun i hi=>?_) rfl
 ·refine ZjK (a:=1) (m:=m) (by omega) (by omega) ?_ rfl
  show some [T.int 1,T.int ((m:Int)+1)]=_
  rw[show(m:Int)+1=((1:Nat):Int)+m by omega]
  rfl
 ·walk_at "z"
  rw[Nat.add_comm 1 i]
  exact Pk.of (Zfc (i:=i+1) (n:=n) hn) rfl
theorem Zr1{x:Nat}(hx:x<n)(hn:n≤1000): ZeB [.lst (tab n f),.int ((x:Int)+1),w]=some (.lst (tab n fun i=>if i=x then w else f i)):=by
 apply Pk.eq
 unfold ZeB Zpn
 have hlen:(tab n f).length=n:=Zap
 walk_at "z"
 refine Zp7 ?_
 walk_at "z"
 refine⟨_,rfl,?_⟩
 walk_at "z"
 refine⟨x,by congr 1;omega,?_⟩
 walk_at "z"
 refine Zd8 (by simp[hlen];omega) ?_
 refine Zp8 ?_
 walk_at "z"
 refine⟨_,rfl,?_⟩
 walk_at "z"
 refine⟨x+1,rfl,?_⟩
 refine Zd8 (by simp[hlen];omega) ?_
 rw[Zpr (by omega),Zd4]
theorem RB.bd2(hM:0<M)(bM:Bd m M)(hm:m≤k)(h:RB M k q): RBd k q:=⟨(ZpV hM bM h).mono hm,h.2.2⟩
noncomputable def ZcE(n:Nat)(C:Nat→Nat→Int): Nat→Nat→Int:=fun t=>if t<n then unC (t+1)else C (t-n)
theorem ZsC(ht:t<n): ZJ (ZcE n C t) x n=x t:=by
 unfold ZcE
 rw[if_pos ht,ZpU (by omega),if_pos (by omega),Nat.add_sub_cancel]
theorem Zo1: ZJ (ZcE n C (n+t)) x n=ZJ (C t) x n:=by
 unfold ZcE
 rw[if_neg (by omega),Nat.add_sub_cancel_left]
theorem bd_un: Bd 1 (unC i k):=by
 unfold unC Bd
 split <;> decide
theorem Zta{r:Nat}(hC:CB 140 n r C): CB 580 n (n+r) (ZcE n C):=fun i hi k hk=>by
 unfold ZcE
 split
 ·exact bd_un.mono (by decide)
 ·exact(hC (i-n) (by omega) k hk).mono (by decide)
theorem Zy3(h:GB k m G): GB k N (Zbg m G):=fun i j hi hj y e=>by
 unfold Zbg at e
 split at e
 ·rename_i c;exact h i j c.1 c.2 y e
 ·split at e
  ·cases e;exact ZaR
  ·cases e
noncomputable def ZeU(n m x:Nat): Nat→Nat:=fun t=>if t=x then m+1 else t+1
theorem ZxA{r:Nat}: (tab n fun t=>ZM n (unC (t+1)))++(tab r fun t=>ZM n (C t))=tab (n+r) fun t=>ZM n (ZcE n C t):=by
 refine List.ext_getElem? fun i=>?_
 rw[List.getElem?_append]
 rw[Zap]
 split
 ·rename_i h
  rw[Za7 h,Za7 (by omega)]
  unfold ZcE
  rw[if_pos h]
 ·rename_i h
  by_cases c:i-n<r
  ·rw[Za7 c,Za7 (by omega)]
   unfold ZcE
   rw[if_neg h]
  ·rw[ZpC (by omega),ZpC (by omega)]
theorem ZwG{x:Nat}: (T.lst (tab n fun i=>if i=x then ZM (m+1) (unC (m+1))else ZM (m+1) (unC (i+1))))=Zbh (m+1) n fun t=>unC (ZeU n m x t):=by
 unfold Zbh
 congr 1
 refine ZaS fun i _=>?_
 by_cases q:i=x
 ·rw[if_pos q];show _=ZM (m+1) (unC (if i=x then m+1 else i+1));rw[if_pos q]
 ·rw[if_neg q];show _=ZM (m+1) (unC (if i=x then m+1 else i+1));rw[if_neg q]
theorem ZqX{r x:Nat}{Gs Gg:Nat→Nat→Option Int}{Rs Rg:Nat→Int×Int}{S0 L0 B0:T}(hm:m=n+r)(hx:x<n)(hn:n≤10)(hr:r≤10)(hS:∃m G R,S0=Zs m G R)(h1:ZaK [T0]=some (Zs n Gs Rs))(h2:ZcG [Zs n Gs Rs,Zbh n (n+r) (ZcE n C)]=some (Zs m Gg Rg))(h3:Zhv [Zs (m+1) (Zbg m Gg) (ZbM m Rg),.lst (tab (r+1) fun i=>.int (((n+i:Nat):Int)+1)),S0]=some L0)(h4:ZaK [L0]=some B0)(h5:ZcG [B0,Zbh (m+1) n fun t=>unC (ZeU n m x t)]=some D): Zev [T0,.int ((x:Int)+1),Zbh n r C,S0]=some D:=by
 have ht:Zs n Gs Rs=.tup [Z8 (n+1) Gs,.lst (tab n fun i=>ZP (Rs i))]:=rfl
 have hne:∀{Q:T→Prop},Q (.bool false)→Pk (qIs (Zs n Gs Rs) .none) Q:=fun h=>⟨_,by rw[ht];rfl,h⟩
 have hne3:∀{Q:T→Prop},Q (.bool false)→Pk (qIs (Zs m Gg Rg) .none) Q:=fun h=>⟨_,rfl,h⟩
 have hg:∀{Q:T→Prop},Q (.lst (tab n fun i=>ZP (Rs i)))→Pk (Zv (Zs n Gs Rs) (.int 1)) Q:=fun h=>⟨_,by rw[ht];rfl,h⟩
 have hne2:∀{Q:T→Prop},Q (.bool false)→Pk (qIs S0 .none) Q:=fun h=>by obtain⟨m,G,R,rfl⟩:=hS;exact⟨_,rfl,h⟩
 have hs:Zbh n r C=.lst (tab r fun i=>ZM n (C i)):=rfl
 have hw:Zhu [Zs m Gg Rg,.int ((1:Nat):Int)]=some (Zs (m+1) (Zbg m Gg) (ZbM m Rg)):=Zu4 (by omega) (by decide) (by decide)
 have hb1:Zfb [.int n,.int (m+1:Nat)]=some (Zbh (m+1) n fun t=>unC (t+1)):=ZmX (by omega) (by omega)
 have hb2:Zde [.int (m+1:Nat),.int (m+1:Nat)]=some (ZM (m+1) (unC (m+1))):=Zfc (by omega)
 have hl:ZeB [.lst (tab n fun t=>ZM (m+1) (unC (t+1))),.int ((x:Int)+1),ZM (m+1) (unC (m+1))]=some (Zbh (m+1) n fun t=>unC (ZeU n m x t)):=by rw[Zr1 hx (by omega),ZwG]
 apply Pk.eq
 unfold Zev ZnK
 rw[hs]
 clear ht
 generalize Zs n Gs Rs=T1 at *
 generalize Zs m Gg Rg=T2 at *
 generalize Zs (m+1) (Zbg m Gg) (ZbM m Rg)=T3 at *
 walk_at "z"
 refine Pk.of h1 ?_
 walk_at "z"
 refine hne ?_
 walk_at "z"
 refine hne2 ?_
 walk_at "z"
 refine hg ?_
 walk_at "z"
 refine Pk.of (ZmX (m:=n) (n:=n) (by omega) (by omega)) ?_
 unfold Zbh
 walk_at "z"
 refine Zd8 (by simp[tab];omega) ?_
 rw[ZxA,show T.lst (tab (n+r) fun t=>ZM n (ZcE n C t))=Zbh n (n+r) (ZcE n C)from rfl]
 walk_at "z"
 refine Pk.of h2 ?_
 walk_at "z"
 refine hne3 ?_
 walk_at "z"
 refine Pk.of hw ?_
 walk_at "z"
 rw[show(n:Int)+r+1=((m+1:Nat):Int)by omega]
 refine Zxk (n:=r+1) (by omega) (by omega) ?_
 have et:(tab (r+1) fun i=>T.int ((n:Int)+1+i))=tab (r+1) fun i=>.int (((n+i:Nat):Int)+1):=ZaS fun i _=>congrArg T.int (by omega)
 rw[et]
 walk_at "z"
 refine Pk.of h3 ?_
 walk_at "z"
 refine Pk.of h4 ?_
 walk_at "z"
 refine Pk.of hb1 ?_
 unfold Zbh
 walk_at "z"
 refine Pk.of hb2 ?_
 walk_at "z"
 refine Pk.of hl ?_
 walk_at "z"
 exact Pk.of h5 rfl
theorem ZqA{a:T}: Zc4 [.none,a]=some .none:=by
 apply Pk.eq
 unfold Zc4 Zgg
 walk_at "z"
 rfl
theorem leO_0: leO a (some 0)↔∃y,a=some y∧y≤0:=⟨fun h=>h 0 rfl,fun h z e=>by cases e;exact h⟩
theorem ZkY{D1 D2:T}(hn:n≤20)(bc:∀i,i<n+1→Bd 300 (c i))(h1:Zc4 [T0,ZM n c]=some D1)(h2:Zc4 [D1,ZM n fun k=>-(c k)]=some D2)(h3:Ztp n D2): ZfW [T0,ZM n c]=some D2:=by
 apply Pk.eq
 unfold ZfW Zlh
 have bn:Bd 300 (-1):=(show Bd 1 (-1)by unfold Bd;decide).mono (by decide)
 have hf:ZeA [D2]=some D2:=by
  rcases h3 with rfl | ⟨G,R,rfl,_⟩
  ·exact ZhK .none
  ·exact ZhK ((Zss (by omega)).mono (by decide))
 walk_at "z"
 refine Pk.of h1 ?_
 walk_at "z"
 refine Pk.of (Ze0 (b:=300) (by omega) (by decide) bc bn) ?_
 rw[Zow]
 walk_at "z"
 refine Pk.of h2 ?_
 walk_at "z"
 exact Pk.of hf rfl
theorem Zrv(hn:n≤60)(hb:b≤4100)(hb1:1≤b)(hG:GB b n G)(bc:∀i,i<n+1→Bd b (c i))(bg:∀y,grt n G (fun i=>-(c i))=some y→Bd 100000 y): Zfr [Zs n G R,ZM n c]=some (oT ((grt n G fun i=>-(c i)).map fun y=>y * -1)):=by
 apply Pk.eq
 unfold Zfr Zpm
 have b1:Bd b (-1):=by have:=Zdw hb1;unfold Bd at *;simpa using this
 walk_at "z"
 refine Pk.of (Ze0 (by omega) (by omega) bc b1) ?_
 rw[ZyR]
 walk_at "z"
 refine Pk.of (Zga hn (by omega) hb1 hG fun i hi=>by have:=bc i hi;show Bd b (-(c i));unfold Bd at *;omega) ?_
 walk_at "z"
 exact Pk.of (Zg7 (i:=100000) (by decide) bg (b1.mono (by omega))) rfl
theorem Zqw{d:Nat→Int}(hn:n≤60)(hb:b≤4100)(hb1:1≤b)(hG:GB b n G)(bc:∀i,i<n+1→Bd b (c i))(bd:∀i,i<n+1→Bd b (d i-c i)): Zg6 [Zs n G R,ZM n d,ZM n c,.int top]=some (oT (addO (grt n G fun k=>d k-c k) (some top))):=by
 apply Pk.eq
 unfold Zg6 Zmb
 walk_at "z"
 refine Pk.of (Zi4 (by omega) hb1 (by omega) bc) ?_
 walk_at "z"
 refine Pk.of (Zga hn (by omega) hb1 hG bd) ?_
 walk_at "z"
 exact Pk.of (Zf9 (b:=some top)) rfl
theorem ZtP(hn:n≤60)(hb:b≤4000)(hb1:1≤b)(hG:GB b n G)(bc:∀i,i<n+1→Bd b (c i))(hd:∀i,i<n+1→G i i=some 0)(hc:∀y,grt n G (fun k=>-(c k))=some y→-y≤top): ZiD [Z8 (n+1) G,Zs n G R,ZM n c,.int top]=some (Z8 (n+1) (apW n G c top)):=by
 apply Pk.eq
 unfold ZiD ZlM
 refine ZjV rfl ?_
 have ht:Zs n G R=.tup [Z8 (n+1) G,.lst (tab n fun i=>ZP (R i))]:=rfl
 have bu:∀i k,k<n+1→Bd b (unC i k):=fun i k _=>by
  rcases ZfE (i:=i) (k:=k)with e | e <;> rw[e]
  ·exact ZaR
  ·exact Zdw hb1
 have hw:∀i j,i<n+1→Za5 (G i j) (addO (grt n G (apC c i j)) (some top))=apW n G c top i j:=fun i j hi=>by
  unfold apW
  split
  ·rename_i e
   subst e
   rw[hd i hi]
   refine Zj1 ?_
   have:apC c i i=fun k=>-(c k):=by funext k;unfold apC;omega
   rw[this]
   cases e:grt n G fun k=>-(c k)with
   | none=>exact ZjH
   | some y=>exact leO_some.mpr (by have:=hc y e;omega)
  ·rfl
 rw[ht]
 walk_at "z"
 rw[←ht]
 refine Zc8 (n:=n+1) (a:=fun i=>.int i) (P:=fun i σ=>σ 0=some (Z8 (n+1) (Wv (apW n G c top) G i 0))∧σ 1=some (Zs n G R)∧σ 2=some (ZM n c)∧σ 3=some (.int top)∧σ 4=some (.int n)) ?_ ⟨by rw[ZBd];rfl,rfl,rfl,rfl,rfl⟩ ?_ ?_
 ·walk_at "z"
  exact Zia (n+1) (by omega) (by omega) rfl
 ·rintro i σ hi ⟨e0,e1,e2,e3,e4⟩
  refine Zc8 (n:=n+1) (a:=fun j=>.int j) (P:=fun j σ=>σ 0=some (Z8 (n+1) (Wv (apW n G c top) G i j))∧σ 1=some (Zs n G R)∧σ 2=some (ZM n c)∧σ 3=some (.int top)∧σ 4=some (.int n)∧σ 5=some (.int i)) ?_ ⟨by walk_at "r",by walk_at "r",by walk_at "r",by walk_at "r",by walk_at "r",by walk_at "r"⟩ ?_ ?_
  ·walk_at "z"
   exact Zia (n+1) (by omega) (by omega) rfl
  ·rintro j σ hj ⟨e0,e1,e2,e3,e4,e5⟩
   walk_at "z"
   refine Pk.of (Zfc (by omega)) ?_
   walk_at "z"
   refine Pk.of (Zfc (by omega)) ?_
   walk_at "z"
   refine Pk.of (Zi4 (b:=b) (by omega) hb1 (by omega) (bu j)) ?_
   refine ZfA (t:=Z8 (n+1) (Wv (apW n G c top) G i j)) (by walk_at "r") ?_
   walk_at "z"
   refine Pk.of (Zqw (b:=b+2) (d:=fun k=>unC i k-unC j k) hn (by omega) (by omega) (fun a b ha hb y e=>(hG a b ha hb y e).mono (by omega)) (fun k hk=>(bc k hk).mono (by omega)) (Ztq hb1 bc i j)) ?_
   walk_at "z"
   refine Pk.of (Zi3 hi hj) ?_
   rw[ZAZ,show(fun k=>unC i k-unC j k-c k)=apC c i j from rfl,hw i j hi,ZAk]
   exact⟨Zcb,by walk_at "r",by walk_at "r",by walk_at "r",by walk_at "r",by walk_at "r"⟩
  ·rintro σ ⟨e0,e1,e2,e3,e4,e5⟩
   exact⟨by rw[←ZAl];exact e0,e1,e2,e3,e4⟩
 ·rintro σ ⟨e0,e1,e2,e3,e4⟩
  exact⟨_,e0,ZAm⟩
theorem ZtQ(hn:n≤60)(hb:b≤4000)(hb1:1≤b)(hG:GB b n G)(bc:∀i,i<n+1→Bd b (c i)): ZiF [Z8 (n+1) Γ,Zs n G R,ZM n c,.int top]=some (Z8 (n+1) (alW n G c top Γ n)):=by
 apply Pk.eq
 unfold ZiF ZlO
 refine ZjV rfl ?_
 have ht:Zs n G R=.tup [Z8 (n+1) G,.lst (tab n fun i=>ZP (R i))]:=rfl
 have bu:∀i k,k<n+1→Bd b (unC i k):=fun i k _=>by
  rcases ZfE (i:=i) (k:=k)with e | e <;> rw[e]
  ·exact ZaR
  ·exact Zdw hb1
 rw[ht]
 walk_at "z"
 rw[←ht]
 refine Zc8 (n:=n) (a:=fun i=>.int ((1+i:Nat):Int)) (P:=fun i σ=>σ 0=some (Z8 (n+1) (alW n G c top Γ i))∧σ 1=some (Zs n G R)∧σ 2=some (ZM n c)∧σ 3=some (.int top)∧σ 4=some (.int n)) ?_ ⟨by rw[ZA0];rfl,rfl,rfl,rfl,rfl⟩ ?_ ?_
 ·refine ZjK (a:=1) (m:=n) (by omega) (by omega) ?_ rfl
  simp only[Ze,Zj,Zm,Zh,Zb,Z7,Option.bind_some,if_true,Zab]
  congr 3
  congr 1
  omega
 ·rintro i σ hi ⟨e0,e1,e2,e3,e4⟩
  have h1:1+i<n+1:=by omega
  have hs:ZM n c=.lst (tab (n+1) fun k=>.int (c k)):=rfl
  rw[hs]at e2
  walk_at "z"
  rw[←hs]at e2
  have ci:=bc (1+i) h1
  have hG2:GB (b+2) n G:=fun a b ha hb y e=>(hG a b ha hb y e).mono (by omega)
  have bc2:∀k,k<n+1→Bd (b+2) (c k):=fun k hk=>(bc k hk).mono (by omega)
  refine Pk.of (Zfc (by omega)) ?_
  walk_at "z"
  refine Pk.of (Ze0 (b:=b) (by omega) (by omega) (bu (1+i)) ci) ?_
  walk_at "z"
  refine Pk.of (Zqw (b:=b+2) (d:=fun k=>unC (1+i) k*c (1+i)) hn (by omega) (by omega) hG2 bc2 (Ztr bc (1+i) h1)) ?_
  rw[show(fun k=>unC (1+i) k*c (1+i)-c k)=alC c (1+i)from rfl]
  have hp:∀k,k=(if c (1+i)<0 then -(c (1+i))else c (1+i))→(addO (grt n G (alC c (1+i))) (some top)).map (fun y=>y.fdiv k)=prt n G c top (1+i):=fun k e=>by unfold prt;rw[e]
  rw[Nat.add_comm 1 i]at *
  rcases Int.lt_trichotomy (c (i+1)) 0 with q | q | q
  ·have q':¬0<c (i+1):=by omega
   walk_at "z"
   refine ZfA (t:=Z8 (n+1) (alW n G c top Γ i)) (by walk_at "r") ?_
   walk_at "z"
   refine Pk.of (ZiG (i:=b) (by omega) (by omega) (show Bd b (-(c (i+1)))by unfold Bd at *;omega)) ?_
   walk_at "z"
   refine Pk.of (Zi3 (a:=0) (by omega) h1) ?_
   rw[hp _ (by rw[if_pos q]),ZyU q]
   exact⟨Zcb,by walk_at "r",by walk_at "r",by walk_at "r",by walk_at "r"⟩
  ·have q':¬0<c (i+1):=by omega
   have q'':¬c (i+1)<0:=by omega
   walk_at "z"
   rw[←Zxy q]
   exact⟨by walk_at "r",by walk_at "r",by walk_at "r",by walk_at "r",by walk_at "r"⟩
  ·have q':¬c (i+1)<0:=by omega
   walk_at "z"
   refine ZfA (t:=Z8 (n+1) (alW n G c top Γ i)) (by walk_at "r") ?_
   walk_at "z"
   refine Pk.of (ZiG (i:=b) (by omega) (by omega) ci) ?_
   walk_at "z"
   refine Pk.of (Zi3 (b:=0) h1 (by omega)) ?_
   rw[hp _ (by rw[if_neg q']),ZyT q]
   walk_at "z"
   exact⟨by walk_at "r",by walk_at "r",by walk_at "r",by walk_at "r",by walk_at "r"⟩
 ·rintro σ ⟨e0,e1,e2,e3,e4⟩
  exact⟨_,e0,rfl⟩
theorem Zrw(hn:n≤60)(hb:b≤4000)(hb1:1≤b)(hG:GB b n G)(bc:∀i,i<n+1→Bd b (c i)): Zfr [Zs n G R,ZM n c]=some (oT ((grt n G fun i=>-(c i)).map fun y=>y * -1)):=Zrv hn (by omega) hb1 hG bc fun y e=>(Zps hG (ZgB bc) y e).mono (by omega)
theorem Zu5(hn:n≤60)(hb:b≤4000)(hb1:1≤b)(hG:GB b n G)(bc:∀i,i<n+1→Bd b (c i))(hd:∀i,i<n+1→G i i=some 0)(hc:∀y,grt n G (fun k=>-(c k))=some y→-y≤top)(h:ZaK [Zs n (amG n G c top) R]=some D): Zb2 [Zs n G R,ZM n c,.int top]=some D:=by
 apply Pk.eq
 unfold Zb2 Zhx
 have ht:Zs n G R=.tup [Z8 (n+1) G,.lst (tab n fun i=>ZP (R i))]:=rfl
 have hne:∀{Q:T→Prop},Q (.bool false)→Pk (qIs (Zs n G R) .none) Q:=fun h=>⟨_,by rw[ht];rfl,h⟩
 have hx:Zgo [oT ((grt n G fun i=>-(c i)).map fun y=>y * -1),.int top]=some (.bool false):=by
  rw[show T.int top=oT (some top)from rfl,Zrd,ZaO]
  rintro⟨x,y,h1,h2,h3⟩
  cases h2
  obtain⟨z,e1,rfl⟩:=Zz1.mp h1
  have:=hc z e1
  omega
 have hg:∀{Q:T→Prop},Q (Z8 (n+1) G)→Pk (Zv (Zs n G R) (.int 0)) Q:=fun h=>⟨_,by rw[ht];rfl,h⟩
 walk_at "z"
 refine hne ?_
 walk_at "z"
 refine Pk.of (Zrw hn hb hb1 hG bc) ?_
 walk_at "z"
 refine Pk.of hx ?_
 walk_at "z"
 refine hg ?_
 walk_at "z"
 refine Pk.of (ZhK (ZyW (by omega))) ?_
 walk_at "z"
 refine ZfA (t:=Z8 (n+1) G) (by walk_at "r") ?_
 walk_at "z"
 refine Pk.of (ZtP hn hb hb1 hG bc hd hc) ?_
 walk_at "z"
 refine ZfA (t:=Z8 (n+1) (apW n G c top)) (by walk_at "r") ?_
 walk_at "z"
 refine Pk.of (ZtQ hn hb hb1 hG bc) ?_
 rw[ht]
 walk_at "z"
 exact Pk.of h rfl
theorem ZqI(hn:n≤60)(hb:b≤4000)(hb1:1≤b)(hG:GB b n G)(bc:∀i,i<n+1→Bd b (c i))(e:grt n G (fun k=>-(c k))=some y)(hy:top < -y): Zb2 [Zs n G R,ZM n c,.int top]=some .none∧True:=by
 have ht:Zs n G R=.tup [Z8 (n+1) G,.lst (tab n fun i=>ZP (R i))]:=rfl
 have hne:∀{Q:T→Prop},Q (.bool false)→Pk (qIs (Zs n G R) .none) Q:=fun h=>⟨_,by rw[ht];rfl,h⟩
 have hx:Zgo [oT ((grt n G fun i=>-(c i)).map fun y=>y * -1),.int top]=some (.bool true):=by
  rw[show T.int top=oT (some top)from rfl,Zrd,ZaI]
  exact⟨y * -1,top,by rw[e];rfl,rfl,by omega⟩
 constructor
 ·apply Pk.eq
  unfold Zb2 Zhx
  walk_at "z"
  refine hne ?_
  walk_at "z"
  refine Pk.of (Zrw hn hb hb1 hG bc) ?_
  walk_at "z"
  refine Pk.of hx ?_
  walk_at "z"
  rfl
 ·trivial
theorem Zy4: [T.int (c 0-top)]++(tab (n+1) fun i=>T.int (c i)).drop 1=tab (n+1) fun i=>T.int (Zcv c top i):=by
 apply List.ext_getElem
 ·simp[tab]
 ·intro i h1 h2
  cases i with
  | zero=>simp[tab,Zcv]
  | succ i=>simp[tab,Zcv]
def ZgT(n:Nat)(c:Nat→Int): Prop:=∀k,1≤k→k≤n→c k=0
theorem Zj7{n:Nat}{c x:Nat→Int}(h:ZgT n c): ∀j,j≤n→ZJ c x j=c 0
 | 0,_=>rfl
 | j+1,hj=>by
  show ZJ c x j+c (j+1)*x j=_
  rw[Zj7 h j (by omega),h (j+1) (by omega) hj,Int.zero_mul,Int.add_zero]
def Zqh(n:Nat)(c:Nat→Int)(i:Nat): Prop:=1≤i∧i≤n∧∀k,1≤k→k≤n→k≠i→c k=0
theorem Ztb: unC i 0=0:=by unfold unC;rw[if_neg (by omega)]
theorem ZsD(h:Zqh n c i): ZgT n (ZaP c i):=fun k a b=>by
 show c k-unC i k*c i=0
 by_cases q:k=i
 ·rw[q,Zs6 h.1];omega
 ·rw[ZpT q,h.2.2 k a b q];omega
theorem Zy5(h:Zqh n c i): ZJ c x n=c 0+Zaj x i*c i:=by
 have hv:ZJ (ZaP c i) x n=ZJ c x n-Zaj x i*c i:=by
  rw[show ZaP c i=fun k=>c k-(fun a=>unC i a*c i) k from rfl,Zft,ZjC,ZeF i (by have:=h.2.1;omega)]
 rw[Zj7 (ZsD h) n (Zz10 n)]at hv
 have:ZaP c i 0=c 0:=by show c 0-unC i 0*c i=c 0;rw[Ztb];omega
 omega
theorem Zo2(ok:∀t,t<n→RestOk (R t))(h:ZgT n c): ZaG c R n=(0,c 0):=by
 have h1:∀j,j≤n→Zbn c R j=0∧Zb0 c R j=c 0:=fun j=>by
  induction j with
  | zero=>intro _;exact⟨rfl,rfl⟩
  | succ j ih=>
   intro hj
   obtain⟨a,b⟩:=ih (by omega)
   have z:=h (j+1) (by omega) hj
   constructor
   ·show((Int.gcd (Zbn c R j) (c (j+1)*(R j).1):Nat):Int)=0
    rw[a,z,Int.zero_mul]
    rfl
   ·show Zb0 c R j+c (j+1)*(R j).2=c 0
    rw[b,z,Int.zero_mul,Int.add_zero]
 obtain⟨a,b⟩:=h1 n (Zz10 n)
 rw[ZdE ok n (Zz10 n),a,b]
 rfl
theorem Zts(h:0<d): ((Int.gcd 0 d:Nat):Int)=d:=by
 rw[Int.gcd_zero_left]
 omega
theorem Zy6(op:RestOk p)(h:Zal p v)(hd:d ∣ v): Zal (Zdx p d) 0:=by
 unfold Zdx
 refine(ZcM (by omega) _).mpr ?_
 have a:=(Zbp op.nn v).mp h
 have g1:((Int.gcd p.1 d:Nat):Int) ∣ p.1:=Int.gcd_dvd_left ..
 have g2:((Int.gcd p.1 d:Nat):Int) ∣ d:=Int.gcd_dvd_right ..
 have:=Int.dvd_sub (Int.dvd_trans g1 a) (Int.dvd_trans g2 hd)
 rwa [show v-p.2-v=0-p.2 by omega]at this
theorem ZpW: RestOk (Zdx p d):=ZcN (by omega) _
def EvC(n:Nat)(c:Nat→Int): Prop:=ZgT n c∨∃i,Zqh n c i∧(c i=1∨c i = -1)
theorem ZvR(hd:0<d)(ok:∀t,t<n→RestOk (R t))(h0:Zal (Zdx (ZaG c R n) d) 0)(hb:∀t,t<n→ZcD n R c d t (some (R' t)))(l:∀t,t<n→Zal (R' t) (x t))(h:EvC n c): d ∣ ZJ c x n:=by
 rcases h with h | ⟨i,h,q⟩
 ·rw[Zo2 ok h]at h0
  have:=(ZcM (by omega) _).mp h0
  rw[Zts hd]at this
  rw[Zj7 h n (Zz10 n)]
  have t:=(Int.dvd_neg).mpr this
  rwa [show -(0-(0,c 0).2)=c 0 by show -(0-c 0)=c 0;omega]at t
 ·obtain⟨t,rfl⟩:∃t,i=t+1:=⟨i-1,by have:=h.1;omega⟩
  have ht:t<n:=by have:=h.2.1;omega
  have b:=hb t ht
  unfold ZcD at b
  rw[if_pos q]at b
  have hx:=((b.2 (x t)).mp (l t ht)).2
  unfold Zdy at hx
  rw[Zo2 ok (ZsD h)]at hx
  have hx:=(ZcM (by omega) _).mp hx
  have e0:ZaP c (t+1) 0=c 0:=by show c 0-unC (t+1) 0*c (t+1)=c 0;rw[Ztb];omega
  rw[Zts hd,e0]at hx
  rw[Zy5 h]
  have hx:d ∣ x t - -(c (t+1))*c 0:=hx
  show d ∣ c 0+x t*c (t+1)
  rcases q with e | e <;> rw[e]at hx ⊢
  ·rwa [show x t - -1*c 0=c 0+x t*1 by omega]at hx
  ·have:=(Int.dvd_neg).mpr hx
   rwa [show -(x t - -(-1)*c 0)=c 0+x t * -1 by omega]at this
theorem ss_: PyData.strOk (Str.ofString "same")=true:=by decide +kernel
theorem Ztc: ¬(T.str (Str.ofString "same")=T.str (Str.ofString "under")):=by
 intro h
 have:=T.str.inj h
 revert this
 decide +kernel
noncomputable def smT(n:Nat)(c:Nat→Int): T:=.tup [.str (Str.ofString "same"),ZM n c]
theorem Zj8{b:Bool}(h:(if b then Zf7 [Zs n G R,ZM n c]else ZfW [Zs n G R,ZM n c])=some D): Zdm [Zs n G R,smT n c,.bool b]=some D:=by
 apply Pk.eq
 unfold Zdm Zh6
 have ht:Zs n G R=.tup [Z8 (n+1) G,.lst (tab n fun i=>ZP (R i))]:=rfl
 have hne:∀{Q:T→Prop},Q (.bool false)→Pk (qIs (Zs n G R) .none) Q:=fun h=>⟨_,by rw[ht];rfl,h⟩
 unfold smT
 walk_at "z"
 refine hne ?_
 walk_at "z"
 refine ZbT (n:=1) (m:=1) (.str ss_) (.str su) ?_
 rw[ZaO Ztc]
 walk_at "z"
 refine ZbT (n:=1) (m:=1) (.str ss_) (.str ss_) ?_
 rw[ZaI rfl]
 cases b with
 | true=>
  rw[if_pos rfl]at h
  walk_at "z"
  exact Pk.of h rfl
 | false=>
  rw[if_neg (by decide)]at h
  walk_at "z"
  exact Pk.of h rfl
theorem ZsE{c x:Nat→Int}{top:Int}: ∀j,ZJ (Zcv c top) x j=ZJ c x j-top
 | 0=>rfl
 | j+1=>by
  show ZJ (Zcv c top) x j+Zcv c top (j+1)*x j=ZJ c x j+c (j+1)*x j-top
  rw[ZsE j,show Zcv c top (j+1)=c (j+1)from rfl]
  omega
theorem ZAr(h:EvC n c): EvC n (Zcv c top):=by
 have e:∀k,1≤k→Zcv c top k=c k:=fun k hk=>by unfold Zcv;rw[if_neg (by omega)]
 rcases h with h | ⟨i,⟨h1,h2,h3⟩,q⟩
 ·exact .inl fun k a b=>by rw[e k a];exact h k a b
 ·exact .inr ⟨i,⟨h1,h2,fun k a b r=>by rw[e k a];exact h3 k a b r⟩,by rw[e i h1];exact q⟩
theorem ZA3(hd:0<d): Zal (d,0) v↔d ∣ v:=by
 rw[Zbp (show(0:Int)≤(d,(0:Int)).1 from by show 0≤d;omega)]
 show d ∣ v-0↔d ∣ v
 rw[Int.sub_zero]
theorem Zqi(hd:0<d): RestOk (d,0):=.inr ⟨hd,Int.le_refl 0,hd⟩
def NeC(n:Nat)(c:Nat→Int)(d:Int): Prop:=ZgT n c∨d=1∨(d=2∧EvC n c)
theorem ZsF(hn:n≤20)(hk:k+2*n+4≤7000)(hM:0<M)(bM:Bd k M)(hd:∀i,i<n+1→G i i=some 0)(bG:GB k n G)(hR:∀t,t<n→RB M k (R t)): ∃D,ZaK [Zs n G R]=some D∧True∧Tm n (k+3*n+7) M (Zar n G R) (fun G2 R2=>ZbE n G2 R2 G R) D:=by
 have bG2:BdG (n+1) k G:=fun a b c ha hb e=>bG a b ha hb c e
 obtain⟨D,et,hD⟩:=ZrS (k:=k) (by omega) (by omega) hM bM hd bG2 hR
 refine⟨D,et,trivial,?_⟩
 rcases hD with⟨G2,R2,rfl,s⟩ | ⟨rfl,f⟩
 ·obtain⟨z1,z2⟩:=ZvO hM (bM.mono (by omega)) bG2 (by omega) s
  obtain⟨_,_,_,_,_,_,h6⟩:=s.go
  exact .inr ⟨G2,R2,rfl,(Zrg hd s).1,fun t ht=>(h6 t ht).1.mono (by omega),fun i j hi hj b e=>(z1 i j b hi hj e).mono (by omega),fun x li=>Zrf li s,ZqH (fun t ht=>(hR t ht).1) s⟩
 ·exact .inl ⟨rfl,fun x li=>absurd f (ZqV li)⟩
theorem ZsG{K:Nat}(hn:n≤20)(hk1:1≤k)(hk:k+k+n≤K)(hbk:b+m≤k)(hb1:1≤b)(hK:(b+m+m)*n+1≤K)(hK2:K+2*n+4≤7000)(hd0:∀i,i<n+1→G i i=some 0)(bG:GB K n G)(ok:∀t,t<n→RestOk (R t))(bm:∀t,t<n→Bd m (R t).1)(bR:∀t,t<n→RBd k (R t))(bc:∀j,j<n+1→Bd k (c j))(bo:∀t,t<n→∀j,j<n+1→Bd b (ZaP c (t+1) j))(bd:Bd (b+m) d): ∃D,Zdd [Zs n G R,ZM n c,.int d]=some D∧True∧Tf n (fun x=>Zar n G R x∧d ∣ ZJ c x n) (fun G2 R2=>∃R',(∀t,t<n→RestOk (R' t))∧(∀t,t<n→ZcD n R c d t (some (R' t)))∧ZbE n G2 R2 G R') D:=by
 have bo2:∀t,t<n→∀j,j<n+1→Bd k (ZaP c (t+1) j):=fun t ht j hj=>(bo t ht j hj).mono (by omega)
 obtain⟨o,ho,a1,a2⟩:=ZuD (G:=G) (c:=c) (d:=d) (by omega) hk1 (by omega) ok bR bc bo2 (bd.mono (by omega))
 by_cases hc:∃t,t<n∧o t=none
 ·refine⟨.none,a1 hc,trivial,.inl ⟨rfl,fun x h=>?_⟩⟩
  obtain⟨t,h1,h2⟩:=hc
  obtain⟨r,e,_⟩:=Zr0 h1 ok h.1.2 h.2 (ho t h1)
  rw[h2]at e
  cases e
 ·have hs:∀t,t<n→o t=some ((o t).getD (1,0)):=fun t ht=>by
   cases e:o t with
   | none=>exact absurd ⟨t,ht,e⟩ hc
   | some q=>rfl
  generalize hR':(fun t=>(o t).getD (1,0))=R'
  have hs2:∀t,t<n→o t=some (R' t):=fun t ht=>by rw[←hR'];exact hs t ht
  have hB:∀t,t<n→ZcD n R c d t (some (R' t)):=fun t ht=>by rw[←hs2 t ht];exact ho t ht
  have hr:=fun t (ht:t<n)=>ZyY (k:=k) (by omega) ht ok bm bR (bo t ht) hbk bd (hB t ht)
  have bM:Bd K (Zei R' n):=(ZoX (k:=b+m+m) (by omega) (fun t ht=>(hr t ht).2.1) n (Zz10 n)).mono (by omega)
  obtain⟨D,e1,e2,hD⟩:=ZsF (k:=K) (R:=R') hn hK2 (Zos (fun t ht=>(hr t ht).1) n (Zz10 n)) bM hd0 bG (fun t ht=>⟨(hr t ht).1,Zot n t ht,(hr t ht).2.2.mono (by omega)⟩)
  refine⟨D,a2 R' D hs2 e1,trivial,?_⟩
  have lies:∀x,Zar n G R x∧d ∣ ZJ c x n→Zar n G R' x:=fun x h=>⟨h.1.1,fun t ht=>by
   obtain⟨r,e,q⟩:=Zr0 ht ok h.1.2 h.2 (hB t ht)
   cases e
   exact q⟩
  rcases hD.tf with⟨rfl,no⟩ | ⟨G2,R2,rfl,h1,h2,h3,h4⟩
  ·exact .inl ⟨rfl,fun x h=>no x (lies x h)⟩
  ·exact .inr ⟨G2,R2,rfl,h1,h2,fun x h=>h3 x (lies x h),R',fun t ht=>(hr t ht).1,hB,h4⟩
theorem ZhE(hn:n≤20)(hb1:1≤b)(hb:b≤4000)(hB:b+b+n+6≤k)(hk:k+2*n+4≤7000)(hM:0<M)(bM:Bd k M)(hd:∀i,i<n+1→G i i=some 0)(bG:GB b n G)(hR:∀t,t<n→RB M k (R t))(bc:∀i,i<n+1→Bd b (c i))(bt:Bd b top): ∃D,Zb2 [Zs n G R,ZM n c,.int top]=some D∧Tm n (k+3*n+7) M (fun x=>Zar n G R x∧ZJ c x n≤top) (fun G2 R2=>ZbE n G2 R2 (amG n G c top) R∧∀y,grt n G (fun k=>-(c k))=some y→-y≤top) D:=by
 by_cases hc:∀y,grt n G (fun k=>-(c k))=some y→-y≤top
 ·obtain⟨D,e1,e2,hD⟩:=ZsF (k:=k) hn hk hM bM (ZBe (c:=c) (top:=top) hd) (ZA1 hb1 bG bc bt hB) hR
  refine⟨D,Zu5 (by omega) hb hb1 bG bc hd hc e1,?_⟩
  rcases hD with⟨rfl,no⟩ | ⟨G2,R2,rfl,h1,h2,h3,h4,h5⟩
  ·exact .inl ⟨rfl,fun x h=>no x (Zsy h.1 h.2)⟩
  ·exact .inr ⟨G2,R2,rfl,h1,h2,h3,fun x h=>h4 x (Zsy h.1 h.2),h5,hc⟩
 ·have:∃y,grt n G (fun k=>-(c k))=some y∧top < -y:=by
   refine Classical.byContradiction fun q=>hc fun y e=>?_
   refine Classical.byContradiction fun z=>q ⟨y,e,by omega⟩
  obtain⟨y,e,hy⟩:=this
  obtain⟨a1,a2⟩:=ZqI (R:=R) (b:=b) (by omega) hb hb1 bG bc e hy
  refine⟨.none,a1,.inl ⟨rfl,fun x h=>?_⟩⟩
  have:=Zks h.1 e
  rw[Zc6]at this
  omega
theorem Ztd(hn:n≤20)(hb1:1≤b)(hb:b≤4000)(hB:b+b+n+6≤k)(hk:k+2*n+4≤7000)(hM:0<M)(bM:Bd k M)(hd:∀i,i<n+1→G i i=some 0)(bG:GB b n G)(hR:∀t,t<n→RB M k (R t))(bc:∀i,i<n+1→Bd b (c i)): ∃D,Zc4 [Zs n G R,ZM n c]=some D∧Tm n (k+3*n+7) M (fun x=>Zar n G R x∧ZJ c x n≠0) (fun G2 R2=>ZbE n G2 R2 G R∧∀x,Zar n G2 R2 x→(∃y,grt n G c=some y∧y≤0)→AM n c (-1) x) D:=by
 have ht:Zs n G R=.tup [Z8 (n+1) G,.lst (tab n fun i=>ZP (R i))]:=rfl
 have hne:∀{Q:T→Prop},Q (.bool true)→Pk (Zb4 (Zs n G R) .none) Q:=fun h=>⟨_,by rw[ht];rfl,h⟩
 have hg:=Zga (R:=R) (c:=c) (b:=b) (by omega) (by omega) hb1 bG bc
 have ok:∀t,t<n→RestOk (R t):=fun t ht=>(hR t ht).1
 by_cases h:∃y,grt n G c=some y∧y≤0
 ·obtain⟨D,e1,hD⟩:=ZhE (top:=-1) hn hb1 hb hB hk hM bM hd bG hR bc ((show Bd 1 (-1)by unfold Bd;decide).mono hb1)
  refine⟨D,?_,?_⟩
  ·apply Pk.eq
   unfold Zc4 Zgg
   walk_at "z"
   refine hne ?_
   walk_at "z"
   refine Pk.of hg ?_
   walk_at "z"
   refine Pk.of (ZiM (b:=some 0)) ?_
   rw[ZaI (leO_0.mpr h)]
   walk_at "z"
   exact Pk.of e1 rfl
  ·have lt:∀x,Zar n G R x∧ZJ c x n≠0→ZJ c x n≤-1:=fun x q=>by
    obtain⟨y,h1,h2⟩:=h
    have:=Zks q.1 h1
    omega
   rcases hD with⟨rfl,no⟩ | ⟨G2,R2,rfl,h1,h2,h3,h4,h5,hc⟩
   ·exact .inl ⟨rfl,fun x q=>no x ⟨q.1,lt x q⟩⟩
   ·exact .inr ⟨G2,R2,rfl,h1,h2,h3,fun x q=>h4 x ⟨q.1,lt x q⟩,ZhD ok h5,fun x l _=>⟨G,R,hc,ZhW (fun t ht=>(h2 t ht).1) ok h5 l⟩⟩
 ·refine⟨_,?_,.inr ⟨G,R,rfl,hd,fun t ht=>(hR t ht).mono (by omega),fun i j hi hj y e=>(bG i j hi hj y e).mono (by omega),fun x q=>q.1,⟨fun i hi j hj=>Zbu,fun t ht=>ZrP⟩,fun x _ q=>absurd q h⟩⟩
  apply Pk.eq
  unfold Zc4 Zgg
  walk_at "z"
  refine hne ?_
  walk_at "z"
  refine Pk.of hg ?_
  walk_at "z"
  refine Pk.of (ZiM (b:=some 0)) ?_
  rw[ZaO (fun q=>h (leO_0.mp q))]
  walk_at "z"
  rfl
theorem Zte(hn:n≤4)(hM:0<M)(bM:Bd 560 M)(hd:∀i,i<n+1→G i i=some 0)(hG:GB 580 n G)(hR:∀t,t<n→RB M 580 (R t))(bc:∀i,i<n+1→Bd 301 (c i))(hd0:0<d)(bd:Bd 140 d): ∃D,ZdW [Zs n G R,ZM n c,.int d]=some D∧Tf n (fun x=>Zar n G R x∧d ∣ ZJ c x n) (fun G2 R2=>ZbE n G2 R2 G R∧∀x,Zar n G2 R2 x→EvC n c→d ∣ ZJ c x n) D:=by
 have ok:∀t,t<n→RestOk (R t):=fun t ht=>(hR t ht).1
 have bR:∀t,t<n→RBd 900 (R t):=fun t ht=>((hR t ht).mono (show 580≤900 by decide)).bd2 hM bM (by decide)
 have bc5:∀i,i<n+1→Bd 900 (c i):=fun i hi=>(bc i hi).mono (by decide)
 have ht:Zs n G R=.tup [Z8 (n+1) G,.lst (tab n fun i=>ZP (R i))]:=rfl
 have hg:∀{Q:T→Prop},Q (.lst (tab n fun i=>ZP (R i)))→Pk (Zv (Zs n G R) (.int 1)) Q:=fun h=>⟨_,by rw[ht];rfl,h⟩
 have bp:=Zpv (m:=900) ok (fun t ht=>(bR t ht).1) bR bc5
 have hs:=Zeq (i:=900) (R:=R) (by omega) (by decide) (by decide) bc5 bR ok
 have hl:=ZkX (p:=ZaG c R n) (d:=d) (k:=2000) (by decide) (bp.1.mono (by omega)) (bd.mono (by decide))
 by_cases hr:Zal (Zdx (ZaG c R n) d) 0
 ·obtain⟨D,a,_,t⟩:=ZsG (k:=900) (b:=302) (m:=560) (K:=5700) (G:=G) (R:=R) (c:=c) (d:=d) (by omega) (by decide) (by omega) (by decide) (by decide) (by omega) (by omega) hd (fun i j hi hj y e=>(hG i j hi hj y e).mono (by decide)) ok (fun t ht=>ZpV hM bM (hR t ht)) bR bc5 (Zsz bc) (bd.mono (by decide))
  refine⟨D,?_,?_⟩
  ·apply Pk.eq
   unfold ZdW Zhe
   clear t ht
   generalize Zs n G R=T0 at *
   walk_at "z"
   refine hg ?_
   walk_at "z"
   refine Pk.of hs ?_
   walk_at "z"
   refine Pk.of hl ?_
   walk_at "z"
   refine Pk.of (Ze3 ZpW) ?_
   rw[ZaI hr]
   walk_at "z"
   exact Pk.of a rfl
  ·rcases t with h | ⟨G2,R2,rfl,h1,h2,h3,R',ok',bes,ins⟩
   ·exact .inl h
   ·refine .inr ⟨G2,R2,rfl,h1,h2,h3,Zg8 h2 ok' ok ins ⟨fun i hi j hj=>Zbu,fun t ht=>?_⟩,fun x l e=>ZvR hd0 ok hr bes (ZhW h2 ok' ins l).2 e⟩
    refine Zkt (ok' t ht) (ok t ht) fun x hx=>?_
    have b:=bes t ht
    unfold ZcD at b
    split at b
    ·exact((b.2 x).mp hx).1
    ·rw[Option.some.inj b]at hx;exact hx
 ·refine⟨.none,?_,.inl ⟨rfl,fun x h=>hr (Zy6 (Zpw ok) (ZoZ ok h.1.2) h.2)⟩⟩
  apply Pk.eq
  unfold ZdW Zhe
  walk_at "z"
  refine hg ?_
  walk_at "z"
  refine Pk.of hs ?_
  walk_at "z"
  refine Pk.of hl ?_
  walk_at "z"
  refine Pk.of (Ze3 ZpW) ?_
  rw[ZaO hr]
  walk_at "z"
  rfl
theorem ZvS(hn:n≤4)(hM:0<M)(bM:Bd 560 M)(hd:∀i,i<n+1→G i i=some 0)(hG:GB 580 n G)(hR:∀t,t<n→RB M 580 (R t))(bc:∀i,i<n+1→Bd 300 (c i))(hd0:0<d)(bd:Bd 140 d): ∃D,ZdS [Zs n G R,ZM n c,.int d]=some D∧Tf n (fun x=>Zar n G R x∧¬d ∣ ZJ c x n) (fun G2 R2=>ZbE n G2 R2 G R∧∀x,Zar n G2 R2 x→NeC n c d→¬d ∣ ZJ c x n) D:=by
 have ok:∀t,t<n→RestOk (R t):=fun t ht=>(hR t ht).1
 have bR:∀t,t<n→RBd 900 (R t):=fun t ht=>((hR t ht).mono (show 580≤900 by decide)).bd2 hM bM (by decide)
 have bc5:∀i,i<n+1→Bd 900 (c i):=fun i hi=>(bc i hi).mono (by decide)
 have ht:Zs n G R=.tup [Z8 (n+1) G,.lst (tab n fun i=>ZP (R i))]:=rfl
 have hg:∀{Q:T→Prop},Q (.lst (tab n fun i=>ZP (R i)))→Pk (Zv (Zs n G R) (.int 1)) Q:=fun h=>⟨_,by rw[ht];rfl,h⟩
 have hs:=Zeq (i:=900) (R:=R) (by omega) (by decide) (by decide) bc5 bR ok
 have hri:=Zqr (p:=ZaG c R n) (Zqi hd0)
 have ed:ZP (d,(0:Int))=.tup [.int d,.int 0]:=rfl
 rw[ed]at hri
 have hq0:∀{Q:T→Prop},Q (.int (c 0))→Pk (Zv (ZM n c) (.int 0)) Q:=fun h=>by
  unfold ZM
  walk_at "z"
  exact h
 by_cases hr:RIn (ZaG c R n) (d,0)
 ·refine⟨.none,?_,.inl ⟨rfl,fun x h=>h.2 ((ZA3 hd0).mp (Zj6 (Zpw ok) (Zqi hd0) hr (ZoZ ok h.1.2)))⟩⟩
  apply Pk.eq
  unfold ZdS ZfV
  walk_at "z"
  refine hg ?_
  walk_at "z"
  refine Pk.of hs ?_
  walk_at "z"
  refine Pk.of hri ?_
  rw[ZaI hr]
  walk_at "z"
  rfl
 ·have con:ZgT n c→∀x,¬d ∣ ZJ c x n:=fun h x q=>hr (by
   rw[Zj7 h n (Zz10 n)]at q
   rw[Zo2 ok h]
   unfold RIn
   rw[if_neg (by show ¬d=0;omega)]
   exact⟨Int.zero_emod d,by show(c 0-0) % d=0;rw[Int.sub_zero];exact Int.emod_eq_zero_of_dvd q⟩)
  have one:d≠1:=fun e=>hr (by
   subst e
   unfold RIn
   rw[if_neg (by decide)]
   exact⟨Int.emod_one _,Int.emod_one _⟩)
  by_cases h2:d=2
  ·subst h2
   obtain⟨D,a,t⟩:=Zte (c:=Zcv c (-1)) hn hM bM hd hG hR (ZAn bc ((show Bd 1 (-1)by unfold Bd;decide).mono (by decide))) (by decide) bd
   refine⟨D,?_,?_⟩
   ·apply Pk.eq
    unfold ZdS ZfV
    clear t ht
    generalize Zs n G R=T0 at *
    walk_at "z"
    refine hg ?_
    walk_at "z"
    refine Pk.of hs ?_
    walk_at "z"
    refine Pk.of hri ?_
    rw[ZaO hr]
    walk_at "z"
    refine hq0 ?_
    walk_at "z"
    refine Zjz ?_
    walk_at "z"
    refine⟨_,rfl,?_⟩
    refine Zd8 (by simp[tab];omega) ?_
    rw[show c 0+1=c 0 - -1 by omega,Zy4,show T.lst (tab (n+1) fun i=>T.int (Zcv c (-1) i))=ZM n (Zcv c (-1))from rfl]
    walk_at "z"
    exact Pk.of a rfl
   ·have vl:∀x,ZJ (Zcv c (-1)) x n=ZJ c x n+1:=fun x=>by rw[ZsE];omega
    rcases t with⟨rfl,no⟩ | ⟨G2,R2,rfl,h1,h2,h3,h4,h5⟩
    ·exact .inl ⟨rfl,fun x h=>no x ⟨h.1,by rw[vl];omega⟩⟩
    ·refine .inr ⟨G2,R2,rfl,h1,h2,fun x h=>h3 x ⟨h.1,by rw[vl];omega⟩,h4,fun x l p=>?_⟩
     rcases p with p | p | ⟨_,p⟩
     ·exact con p x
     ·exact absurd p one
     ·have:=h5 x l (ZAr p)
      rw[vl]at this
      omega
  ·refine⟨Zs n G R,?_,.inr ⟨G,R,rfl,hd,ok,fun x h=>h.1,⟨fun i hi j hj=>Zbu,fun t ht=>ZrP⟩,fun x l p=>?_⟩⟩
   ·have hf:ZeA [Zs n G R]=some (Zs n G R):=ZhK ((Zss (by omega)).mono (by decide))
    apply Pk.eq
    unfold ZdS ZfV
    clear ht
    generalize Zs n G R=T0 at *
    walk_at "z"
    refine hg ?_
    walk_at "z"
    refine Pk.of hs ?_
    walk_at "z"
    refine Pk.of hri ?_
    rw[ZaO hr]
    walk_at "z"
    exact Pk.of hf rfl
   ·rcases p with p | p | ⟨p,_⟩
    ·exact con p x
    ·exact absurd p one
    ·exact absurd p h2
theorem ZhM{D1 D2:T}(hn:n≤20)(ok:∀t,t<n→RestOk (R t))(bR:∀t,t<n→RBd 900 (R t))(bc:∀i,i<n+1→Bd 300 (c i))(h:(Zal (ZaG c R n) 0∧Zb2 [Zs n G R,ZM n c,.int 0]=some D1∧Zb2 [D1,ZM n fun k=>-(c k),.int 0]=some D2∧Zdd [D2,ZM n c,.int 0]=some D)∨(¬Zal (ZaG c R n) 0∧D=.none)): Zf7 [Zs n G R,ZM n c]=some D:=by
 have ht:Zs n G R=.tup [Z8 (n+1) G,.lst (tab n fun i=>ZP (R i))]:=rfl
 have hg:∀{Q:T→Prop},Q (.lst (tab n fun i=>ZP (R i)))→Pk (Zv (Zs n G R) (.int 1)) Q:=fun h=>⟨_,by rw[ht];rfl,h⟩
 have bn:Bd 300 (-1):=(show Bd 1 (-1)by unfold Bd;decide).mono (by decide)
 have hs:=Zeq (i:=900) (by omega) (by decide) (by decide) (fun i hi=>(bc i hi).mono (by decide)) bR ok
 have hh:=Ze3 (q:=ZaG c R n) (x:=0) (Zpw ok)
 apply Pk.eq
 unfold Zf7 ZmM
 rcases h with⟨hr,h1,h2,h3⟩ | ⟨hr,rfl⟩
 ·walk_at "z"
  refine hg ?_
  walk_at "z"
  refine Pk.of hs ?_
  walk_at "z"
  refine Pk.of hh ?_
  rw[ZaI hr]
  walk_at "z"
  refine Pk.of h1 ?_
  walk_at "z"
  refine Pk.of (Ze0 (b:=300) (by omega) (by decide) bc bn) ?_
  rw[Zow]
  walk_at "z"
  refine Pk.of h2 ?_
  walk_at "z"
  exact Pk.of h3 rfl
 ·walk_at "z"
  refine hg ?_
  walk_at "z"
  refine Pk.of hs ?_
  walk_at "z"
  refine Pk.of hh ?_
  rw[ZaO hr]
  walk_at "z"
  rfl
theorem se_: PyData.strOk (Str.ofString "even")=true:=by decide +kernel
theorem ZpX{a b:Str}(h:a≠b): ¬(T.str a=T.str b):=fun q=>h (T.str.inj q)
noncomputable def evT(n:Nat)(c:Nat→Int)(d:Int): T:=.tup [.str (Str.ofString "even"),ZM n c,.int d]
theorem Ztf: ¬(T.str (Str.ofString "even")=T.str (Str.ofString "under")):=ZpX (by decide +kernel)
theorem Ztg: ¬(T.str (Str.ofString "even")=T.str (Str.ofString "same")):=ZpX (by decide +kernel)
theorem ZxB(h:ZcF [ZM n c,Zav n x]=some (.int v)): ZdA [unT n c,Zav n x]=some (.bool (decide (v<0))):=by
 apply Pk.eq
 unfold ZdA Zhf unT
 walk_at "z"
 refine Pk.of h ?_
 walk_at "z"
 refine ZbT (n:=1) (m:=1) (.str su) (.str su) ?_
 rw[ZaI rfl]
 walk_at "z"
 rfl
theorem ZxC(h:ZcF [ZM n c,Zav n x]=some (.int v)): ZdA [smT n c,Zav n x]=some (.bool (decide (v=0))):=by
 apply Pk.eq
 unfold ZdA Zhf smT
 walk_at "z"
 refine Pk.of h ?_
 walk_at "z"
 refine ZbT (n:=1) (m:=1) (.str ss_) (.str su) ?_
 rw[ZaO Ztc]
 walk_at "z"
 refine ZbT (n:=1) (m:=1) (.str ss_) (.str ss_) ?_
 rw[ZaI rfl]
 walk_at "z"
 rfl
theorem ZxD(hd:0<d)(h:ZcF [ZM n c,Zav n x]=some (.int v)): ZdA [evT n c d,Zav n x]=some (.bool (decide (v.fmod d=0))):=by
 apply Pk.eq
 unfold ZdA Zhf evT
 walk_at "z"
 refine Pk.of h ?_
 walk_at "z"
 refine ZbT (n:=1) (m:=1) (.str se_) (.str su) ?_
 rw[ZaO Ztf]
 walk_at "z"
 refine ZbT (n:=1) (m:=1) (.str se_) (.str ss_) ?_
 rw[ZaO Ztg]
 walk_at "z"
 rfl
theorem Zj9{b:Bool}(h:(if b then ZdW [Zs n G R,ZM n c,.int d]else ZdS [Zs n G R,ZM n c,.int d])=some D): Zdm [Zs n G R,evT n c d,.bool b]=some D:=by
 apply Pk.eq
 unfold Zdm Zh6
 have ht:Zs n G R=.tup [Z8 (n+1) G,.lst (tab n fun i=>ZP (R i))]:=rfl
 have hne:∀{Q:T→Prop},Q (.bool false)→Pk (qIs (Zs n G R) .none) Q:=fun h=>⟨_,by rw[ht];rfl,h⟩
 unfold evT
 walk_at "z"
 refine hne ?_
 walk_at "z"
 refine ZbT (n:=1) (m:=1) (.str se_) (.str su) ?_
 rw[ZaO Ztf]
 walk_at "z"
 refine ZbT (n:=1) (m:=1) (.str se_) (.str ss_) ?_
 rw[ZaO Ztg]
 cases b with
 | true=>
  rw[if_pos rfl]at h
  walk_at "z"
  exact Pk.of h rfl
 | false=>
  rw[if_neg (by decide)]at h
  walk_at "z"
  exact Pk.of h rfl
section
variable {n:Nat} {G:Nat→Nat→Option Int} {R:Nat→Int×Int} {c:Nat→Int} (hn:n≤4) (hd:∀i,i<n+1→G i i=some 0) (ok:∀t,t<n→RestOk (R t)) (sG:SmG 137 n G) (sR:SmR 137 n R) (bc:∀i,i<n+1→Bd 300 (c i))
include hn hd ok sG sR bc
end
def ClT(n:Nat)(c:Nat→Int)(t:T): Prop:=t=unT n c∨t=smT n c∨∃d,0<d∧Bd 140 d∧t=evT n c d
theorem ZAs(hn:n≤4)(hM:0<M)(bM:Bd 560 M)(hd:∀i,i<n+1→G i i=some 0)(hG:GB 580 n G)(hR:∀t,t<n→RB M 580 (R t))(bc:∀i,i<n+1→Bd 300 (c i)): ∃D,Zf7 [Zs n G R,ZM n c]=some D∧Tf n (fun x=>Zar n G R x∧ZJ c x n=0) (fun G2 R2=>ZbE n G2 R2 G R∧∀x,Zar n G2 R2 x→AM n c 0 x∧AM n (fun k=>-(c k)) 0 x) D:=by
 have ok:∀t,t<n→RestOk (R t):=fun t ht=>(hR t ht).1
 have bR:∀t,t<n→RBd 900 (R t):=fun t ht=>((hR t ht).mono (show 580≤900 by decide)).bd2 hM bM (by decide)
 by_cases hr:Zal (ZaG c R n) 0
 ·obtain⟨D1,a1,t1⟩:=ZhE (b:=580) (k:=1180) (c:=c) (top:=0) (by omega) (by decide) (by decide) (by omega) (by omega) hM (bM.mono (by decide)) hd hG (fun t ht=>(hR t ht).mono (by decide)) (fun i hi=>(bc i hi).mono (by decide)) ZaR
  rcases t1 with⟨rfl,no⟩ | ⟨G1,R1,rfl,hd1,hR1,bG1,li1,in1,hc1⟩
  ·have e1:=ZhM (D:=.none) (by omega) ok bR bc (.inl ⟨hr,a1,ZuC,Zqv⟩)
   exact⟨.none,e1,.inl ⟨rfl,fun x h=>no x ⟨h.1,by omega⟩⟩⟩
  ·obtain⟨D2,a2,t2⟩:=ZhE (b:=1200) (k:=2420) (c:=fun k=>-(c k)) (top:=0) (by omega) (by decide) (by decide) (by omega) (by omega) hM (bM.mono (by decide)) hd1 (fun i j hi hj y e=>(bG1 i j hi hj y e).mono (by omega)) (fun t ht=>(hR1 t ht).mono (by omega)) (fun i hi=>(ZgB bc i hi).mono (by decide)) ZaR
   rcases t2 with⟨rfl,no⟩ | ⟨G2,R2,rfl,hd2,hR2,bG2,li2,in2,hc2⟩
   ·have e1:=ZhM (D:=.none) (by omega) ok bR bc (.inl ⟨hr,a1,a2,Zqv⟩)
    exact⟨.none,e1,.inl ⟨rfl,fun x h=>no x ⟨li1 x ⟨h.1,by omega⟩,by rw[Zc6];omega⟩⟩⟩
   ·obtain⟨D,a3,b3,t3⟩:=ZsG (k:=2440) (b:=301) (m:=560) (K:=5700) (G:=G2) (R:=R2) (c:=c) (d:=0) (by omega) (by decide) (by omega) (by decide) (by decide) (by omega) (by omega) hd2 (fun i j hi hj y e=>(bG2 i j hi hj y e).mono (by omega)) (fun t ht=>(hR2 t ht).1) (fun t ht=>ZpV hM bM (hR2 t ht)) (fun t ht=>((hR2 t ht).mono (show 2420+3*n+7≤2440 by omega)).bd hM (bM.mono (by decide))) (fun i hi=>(bc i hi).mono (by decide)) (Zsz bc) ZaR
    have e1:=ZhM (by omega) ok bR bc (.inl ⟨hr,a1,a2,a3⟩)
    refine⟨D,e1,?_⟩
    rcases t3 with⟨rfl,no⟩ | ⟨G3,R3,rfl,hd3,ok3,li3,R',ok',bes,in3⟩
    ·exact .inl ⟨rfl,fun x h=>no x ⟨li2 x ⟨li1 x ⟨h.1,by omega⟩,by rw[Zc6];omega⟩,by rw[h.2];exact Int.dvd_zero _⟩⟩
    ·have ok1:∀t,t<n→RestOk (R1 t):=fun t ht=>(hR1 t ht).1
     have ok2:∀t,t<n→RestOk (R2 t):=fun t ht=>(hR2 t ht).1
     have i32:ZbE n G3 R3 G2 R2:=Zg8 ok3 ok' ok2 in3 ⟨fun i hi j hj=>Zbu,fun t ht=>by
      refine Zkt (ok' t ht) (ok2 t ht) fun x hx=>?_
      have b:=bes t ht
      unfold ZcD at b
      split at b
      ·exact((b.2 x).mp hx).1
      ·rw[Option.some.inj b]at hx;exact hx⟩
     have i31:ZbE n G3 R3 (amG n G1 (fun k=>-(c k)) 0) R1:=Zg8 ok3 ok2 ok1 i32 in2
     have i30:ZbE n G3 R3 (amG n G c 0) R:=Zg8 ok3 ok1 ok (ZhD ok1 i31) in1
     refine .inr ⟨G3,R3,rfl,hd3,ok3,fun x h=>li3 x ⟨li2 x ⟨li1 x ⟨h.1,by omega⟩,by rw[Zc6];omega⟩,by rw[h.2];exact Int.dvd_zero _⟩,ZhD ok i30,fun x l=>⟨⟨G,R,hc1,ZhW ok3 ok i30 l⟩,⟨G1,R1,hc2,ZhW ok3 ok1 i31 l⟩⟩⟩
 ·have e1:=ZhM (G:=G) (D1:=.none) (D2:=.none) (D:=.none) (by omega) ok bR bc (.inr ⟨hr,rfl⟩)
  exact⟨.none,e1,.inl ⟨rfl,fun x h=>hr (by rw[←h.2];exact ZoZ ok h.1.2)⟩⟩
theorem ZxE(hn:n≤4)(hM:0<M)(bM:Bd 560 M)(hd:∀i,i<n+1→G i i=some 0)(hG:GB 580 n G)(hR:∀t,t<n→RB M 580 (R t))(bc:∀i,i<n+1→Bd 300 (c i)): ∃D,ZfW [Zs n G R,ZM n c]=some D∧Tf n (fun x=>Zar n G R x∧ZJ c x n≠0) (fun G2 R2=>ZbE n G2 R2 G R∧∀x,Zar n G2 R2 x→(∃y,grt n G c=some y∧y≤0)→AM n c (-1) x) D:=by
 have ok:∀t,t<n→RestOk (R t):=fun t ht=>(hR t ht).1
 obtain⟨D1,a1,t1⟩:=Ztd (b:=580) (k:=1180) (c:=c) (by omega) (by decide) (by decide) (by omega) (by omega) hM (bM.mono (by decide)) hd hG (fun t ht=>(hR t ht).mono (by decide)) (fun i hi=>(bc i hi).mono (by decide))
 rcases t1 with⟨rfl,no⟩ | ⟨G1,R1,rfl,hd1,hR1,bG1,li1,in1,am1⟩
 ·exact⟨.none,ZkY (by omega) bc a1 ZqA (.inl rfl),.inl ⟨rfl,no⟩⟩
 ·obtain⟨D2,a2,t2⟩:=Ztd (b:=1200) (k:=2420) (c:=fun k=>-(c k)) (by omega) (by decide) (by decide) (by omega) (by omega) hM (bM.mono (by decide)) hd1 (fun i j hi hj y e=>(bG1 i j hi hj y e).mono (by omega)) (fun t ht=>(hR1 t ht).mono (by omega)) (fun i hi=>(ZgB bc i hi).mono (by decide))
  have t3:=t2.tf
  refine⟨D2,ZkY (by omega) bc a1 a2 t3.due,?_⟩
  rcases t3 with⟨rfl,no⟩ | ⟨G2,R2,rfl,hd2,ok2,li2,in2,am2⟩
  ·exact .inl ⟨rfl,fun x h=>no x ⟨li1 x h,by rw[Zc6];omega⟩⟩
  ·exact .inr ⟨G2,R2,rfl,hd2,ok2,fun x h=>li2 x ⟨li1 x h,by rw[Zc6];omega⟩,Zg8 ok2 (fun t ht=>(hR1 t ht).1) ok in2 in1,fun x l=>am1 x (ZhW ok2 (fun t ht=>(hR1 t ht).1) in2 l)⟩
section
variable {n:Nat} {G:Nat→Nat→Option Int} {R:Nat→Int×Int} {c:Nat→Int} {M:Int} {Cl:T}
theorem Zy7(hn:n≤4)(hM:0<M)(bM:Bd 560 M)(hd:∀i,i<n+1→G i i=some 0)(hG:GB 580 n G)(hR:∀t,t<n→RB M 580 (R t))(bc:∀i,i<n+1→Bd 300 (c i))(b:Bool): ∃D,Zdm [Zs n G R,unT n c,.bool b]=some D∧Tf n (fun x=>Zar n G R x∧decide (ZJ c x n<0)=b) (fun G2 R2=>ZbE n G2 R2 G R) D:=by
 have ok:∀t,t<n→RestOk (R t):=fun t ht=>(hR t ht).1
 cases b with
 | true=>
  obtain⟨D,e,h⟩:=ZhE (b:=580) (k:=1180) (c:=c) (top:=-1) (by omega) (by decide) (by decide) (by omega) (by omega) hM (bM.mono (by decide)) hd hG (fun t ht=>(hR t ht).mono (by decide)) (fun i hi=>(bc i hi).mono (by decide)) ((show Bd 1 (-1)by unfold Bd;decide).mono (by decide))
  refine⟨D,Zj5 (.inr ⟨G,R,rfl⟩) (fun h=>by cases h) (Zqu e),?_⟩
  rcases h.tf with⟨rfl,no⟩ | ⟨G2,R2,rfl,h1,h2,h3,h4,_⟩
  ·exact .inl ⟨rfl,fun x q=>no x ⟨q.1,by have:=of_decide_eq_true q.2;omega⟩⟩
  ·exact .inr ⟨G2,R2,rfl,h1,h2,fun x q=>h3 x ⟨q.1,by have:=of_decide_eq_true q.2;omega⟩,ZhD ok h4⟩
 | false=>
  obtain⟨D,e,h⟩:=ZhE (b:=580) (k:=1180) (c:=fun k=>-(c k)) (top:=0) (by omega) (by decide) (by decide) (by omega) (by omega) hM (bM.mono (by decide)) hd hG (fun t ht=>(hR t ht).mono (by decide)) (fun i hi=>(ZgB bc i hi).mono (by decide)) ZaR
  refine⟨D,Zj5 (.inr ⟨G,R,rfl⟩) (fun h=>by cases h) (Zqz (b:=300) (by omega) (by decide) (by decide) bc e),?_⟩
  rcases h.tf with⟨rfl,no⟩ | ⟨G2,R2,rfl,h1,h2,h3,h4,_⟩
  ·exact .inl ⟨rfl,fun x q=>no x ⟨q.1,by have:=of_decide_eq_false q.2;rw[Zc6];omega⟩⟩
  ·exact .inr ⟨G2,R2,rfl,h1,h2,fun x q=>h3 x ⟨q.1,by have:=of_decide_eq_false q.2;rw[Zc6];omega⟩,ZhD ok h4⟩
theorem Tf.imp{P':(Nat→Int)→Prop}{I':(Nat→Nat→Option Int)→(Nat→Int×Int)→Prop}(h:Tf n P I D)(hP:∀x,P' x→P x)(hI:∀G R,I G R→I' G R): Tf n P' I' D:=by
 rcases h with⟨rfl,no⟩ | ⟨G,R,rfl,h1,h2,h3,h4⟩
 ·exact .inl ⟨rfl,fun x p=>no x (hP x p)⟩
 ·exact .inr ⟨G,R,rfl,h1,h2,fun x p=>h3 x (hP x p),hI G R h4⟩
end
theorem ZvT(hX:X<n)(hn:n≤1000): Zdf [Zav n x,.int ((X:Int)+1),.int v]=some (Zav n fun i=>if i=X then v else x i):=by
 apply Pk.eq
 unfold Zdf Zok Zav
 have hlen:(tab n fun i=>T.int (x i)).length=n:=Zap
 walk_at "z"
 refine Zp7 ?_
 walk_at "z"
 refine⟨_,rfl,?_⟩
 walk_at "z"
 refine⟨X,by congr 1;omega,?_⟩
 walk_at "z"
 refine Zd8 (by simp[hlen];omega) ?_
 refine Zp8 ?_
 walk_at "z"
 refine⟨_,rfl,?_⟩
 walk_at "z"
 refine⟨X+1,rfl,?_⟩
 refine Zd8 (by simp[hlen];omega) ?_
 rw[Zpr (by omega),Zd4]
 show T.lst _=T.lst _
 congr 1
 refine ZaS fun i _=>?_
 show _=T.int (if i=X then v else x i)
 by_cases q:i=X
 ·rw[if_pos q,if_pos q]
 ·rw[if_neg q,if_neg q]
section
variable {Q:T→Prop}
theorem Zie{a:Str}(ha:PyData.strOk a=true)(h:Q (.bool true)): Pk (qEq (.str a) (.str a)) Q:=ZbT (n:=1) (m:=1) (.str ha) (.str ha) (by rw[ZaI rfl];exact h)
theorem ZcC{a b:Str}(hab:(PyData.strOk a && PyData.strOk b && decide (a≠b))=true)(h:Q (.bool false)): Pk (qEq (.str a) (.str b)) Q:=by
 simp only[Bool.and_eq_true,decide_eq_true_eq]at hab
 exact ZbT (n:=1) (m:=1) (.str hab.1.1) (.str hab.1.2) (by rw[ZaO (ZpX hab.2)];exact h)
end
theorem Zqj{s:Sp}{k:Int}(hi:i≤9000)(hk0:k≠0)(hk:Bd i k): ZfU [spT s,.int k]=some (spT (s.1.map fun x=>x.fdiv k,s.2.map fun x=>x.fdiv k)):=by
 apply Pk.eq
 unfold ZfU ZkT spT
 walk_at "z"
 refine Pk.of (ZiG hi hk0 hk) ?_
 walk_at "z"
 refine Pk.of (ZiG hi hk0 hk) ?_
 walk_at "z"
 rfl
noncomputable def srI(s:Sp)(k:Int): Sp:=match s.1,s.2 with
 | some a,some b=>if a.fdiv k=b.fdiv k then(some (a.fmod k),some (b.fmod k))else(some 0,some (k-1))
 | _,_=>(some 0,some (k-1))
theorem Ztx{s:Sp}{k:Int}(hi:i≤9000)(hk0:k≠0)(hk:Bd i k): ZgU [spT s,.int k]=some (spT (srI s k)):=by
 have hp:=Zqj (s:=s) hi hk0 hk
 apply Pk.eq
 unfold ZgU ZkW srI
 obtain⟨a,b⟩:=s
 cases a with
 | none=>
  have e:spT ((none:Option Int).map fun x=>x.fdiv k,b.map fun x=>x.fdiv k)=.tup [.none,oT (b.map fun x=>x.fdiv k)]:=rfl
  rw[e]at hp
  walk_at "z"
  refine Pk.of hp ?_
  walk_at "z"
  rfl
 | some x=>
  cases b with
  | none=>
   have e:spT ((some x).map fun x=>x.fdiv k,(none:Option Int).map fun x=>x.fdiv k)=.tup [.int (x.fdiv k),.none]:=rfl
   rw[e]at hp
   walk_at "z"
   refine Pk.of hp ?_
   walk_at "z"
   refine ZbT (n:=1) (m:=1) .int .none ?_
   rw[ZaO (by intro h;cases h)]
   walk_at "z"
   rfl
  | some y=>
   have e:spT ((some x).map fun x=>x.fdiv k,(some y).map fun x=>x.fdiv k)=.tup [.int (x.fdiv k),.int (y.fdiv k)]:=rfl
   have e2:spT (some x,some y)=.tup [.int x,.int y]:=rfl
   rw[e]at hp
   rw[e2]at hp ⊢
   by_cases c:x.fdiv k=y.fdiv k
   ·simp only[c,if_true]
    rw[c]at hp
    walk_at "z"
    refine Pk.of hp ?_
    walk_at "z"
    rfl
   ·simp only[c,if_false]
    walk_at "z"
    refine Pk.of hp ?_
    walk_at "z"
    rfl
noncomputable def rpI(q:Int×Int)(k:Int): Int×Int:=if q.1.fmod k=0 then ZaA (q.1.fdiv k) (q.2.fdiv k)else(1,0)
theorem Zt4{k:Int}(hi:i≤9000)(hq:0≤q.1)(hk0:0<k)(hk:Bd i k): Zg4 [ZP q,.int k]=some (ZP (rpI q k)):=by
 have hz:k≠0:=by omega
 have hd:0≤q.1.fdiv k:=by rw[Int.fdiv_eq_ediv_of_nonneg _ (by omega)];exact Int.ediv_nonneg hq (by omega)
 apply Pk.eq
 unfold Zg4 ZlX rpI
 have ep:ZP q=.tup [.int q.1,.int q.2]:=rfl
 rw[ep]
 by_cases c:q.1.fmod k=0
 ·rw[if_pos c]
  walk_at "z"
  refine ZcV hz (ZeL hk hi) ?_
  walk_at "z"
  refine ZcV hz (ZeL hk hi) ?_
  walk_at "z"
  exact Pk.of (Zf2 hd) rfl
 ·rw[if_neg c]
  walk_at "z"
  rfl
noncomputable def rrI(q:Int×Int)(k:Int): Int×Int:=if((Int.gcd q.1 k:Nat):Int)=k then(0,q.2.fmod k)else ZaA (Int.gcd q.1 k) q.2
theorem Zt5{k:Int}(hk0:0<k)(hq:Bd 200000 q.1)(hk:Bd 200000 k): Zg3 [ZP q,.int k]=some (ZP (rrI q k)):=by
 have hz:k≠0:=by omega
 have hg:=Zjm (a:=q.1) (b:=k) hq hk
 apply Pk.eq
 unfold Zg3 ZlU rrI
 have ep:ZP q=.tup [.int q.1,.int q.2]:=rfl
 rw[ep]
 by_cases c:((Int.gcd q.1 k:Nat):Int)=k
 ·rw[if_pos c]
  walk_at "z"
  refine Pk.of hg ?_
  walk_at "z"
  rfl
 ·rw[if_neg c]
  walk_at "z"
  refine Pk.of hg ?_
  walk_at "z"
  exact Pk.of (Zf2 (by omega)) rfl
theorem Zy8{x:Int}(hd:0<d)(h:Bd k x): Bd k (x.fdiv d):=by
 unfold Bd at *
 rw[Int.fdiv_eq_ediv_of_nonneg _ (by omega)]
 exact Nat.lt_of_le_of_lt (Int.natAbs_ediv_le_natAbs x d) h
noncomputable def ZdQ(X:Nat)(c:Nat→Int): Nat→Nat→Int:=fun t=>if t=X then c else unC (t+1)
theorem ZxF: (T.lst (tab n fun i=>if i=X then ZM n c else ZM n (unC (i+1))))=Zbh n n (ZdQ X c):=by
 unfold Zbh
 congr 1
 refine ZaS fun i _=>?_
 unfold ZdQ
 by_cases q:i=X
 ·rw[if_pos q,if_pos q]
 ·rw[if_neg q,if_neg q]
theorem ZAt(bc:∀i,i<n+1→Bd 140 (c i)): CB 580 n n (ZdQ X c):=fun i _ k hk=>by
 unfold ZdQ
 split
 ·exact(bc k hk).mono (by decide)
 ·exact bd_un.mono (by decide)
section
variable {n X:Nat} {G:Nat→Nat→Option Int} {R:Nat→Int×Int} {c:Nat→Int} {M d:Int}
end
section
variable {n X:Nat} {G:Nat→Nat→Option Int} {R:Nat→Int×Int} {c:Nat→Int} {d:Int} {s:Sp} {T1 D:T}
noncomputable def Zif(n:Nat)(G:Nat→Nat→Option Int)(c:Nat→Int): Sp:=((grt n G fun i=>-(c i)).map fun y=>y * -1,grt n G c)
theorem Zu6(hn:n≤20)(hX:X<n)(h:ZcG [Zs n G R,Zbh n n (ZdQ X c)]=some D): Zcx [Zs n G R,.tup [.str (Str.ofString "set"),.int ((X:Int)+1),ZM n c]]=some D:=by
 have hg:∀{Q:T→Prop},Q (.lst (tab n fun i=>ZP (R i)))→Pk (Zv (Zs n G R) (.int 1)) Q:=fun h=>⟨_,rfl,h⟩
 have hb:=ZmX (m:=n) (n:=n) (by omega) (by omega)
 have hl:ZeB [Zbh n n fun t=>unC (t+1),.int ((X:Int)+1),ZM n c]=some (Zbh n n (ZdQ X c)):=by
  show ZeB [.lst (tab n fun t=>ZM n (unC (t+1))),_,_]=_
  rw[Zr1 hX (by omega),ZxF]
 generalize Zs n G R=T1 at *
 apply Pk.eq
 unfold Zcx ZhA
 walk_at "z"
 refine Zie (by decide +kernel) ?_
 walk_at "z"
 refine hg ?_
 walk_at "z"
 refine Pk.of hb ?_
 walk_at "z"
 refine Pk.of hl ?_
 walk_at "z"
 exact Pk.of h rfl
theorem Zu7(h:Zeb [T1,.int ((X:Int)+1),spT s,ZP (1,0)]=some D): Zcx [T1,.tup [.str (Str.ofString "any"),.int ((X:Int)+1),oT s.1,oT s.2]]=some D:=by
 have e1:spT s=.tup [oT s.1,oT s.2]:=rfl
 have e2:ZP ((1:Int),(0:Int))=.tup [.int 1,.int 0]:=rfl
 rw[e1,e2]at h
 apply Pk.eq
 unfold Zcx ZhA
 walk_at "z"
 refine ZcC (by decide +kernel) ?_
 walk_at "z"
 refine Zie (by decide +kernel) ?_
 walk_at "z"
 exact Pk.of h rfl
theorem Zu8{w:Str}(hw:w=Str.ofString "part"∨w=Str.ofString "rest")(hl:Zfr [Zs n G R,ZM n c]=some (oT ((grt n G fun i=>-(c i)).map fun y=>y * -1)))(hg:ZdZ [Zs n G R,ZM n c]=some (oT (grt n G c)))(hr:ZdB [ZM n c,.lst (tab n fun j=>ZP (R j))]=some (ZP (ZaG c R n))){s':Sp}{q':Int×Int}(h1:(w=Str.ofString "part"→ZfU [spT (Zif n G c),.int d]=some (spT s')∧Zg4 [ZP (ZaG c R n),.int d]=some (ZP q'))∧(w=Str.ofString "rest"→ZgU [spT (Zif n G c),.int d]=some (spT s')∧Zg3 [ZP (ZaG c R n),.int d]=some (ZP q')))(h:Zeb [Zs n G R,.int ((X:Int)+1),spT s',ZP q']=some D): Zcx [Zs n G R,.tup [.str w,.int ((X:Int)+1),ZM n c,.int d]]=some D:=by
 have hi:∀{Q:T→Prop},Q (.lst (tab n fun i=>ZP (R i)))→Pk (Zv (Zs n G R) (.int 1)) Q:=fun h=>⟨_,rfl,h⟩
 have es:spT (Zif n G c)=.tup [oT ((grt n G fun i=>-(c i)).map fun y=>y * -1),oT (grt n G c)]:=rfl
 rw[es]at h1
 generalize Zs n G R=T1 at *
 generalize ZP (ZaG c R n)=P0 at *
 apply Pk.eq
 unfold Zcx ZhA
 rcases hw with rfl | rfl
 ·obtain⟨a,b⟩:=h1.1 rfl
  walk_at "z"
  refine ZcC (by decide +kernel) ?_
  walk_at "z"
  refine ZcC (by decide +kernel) ?_
  walk_at "z"
  refine Pk.of hl ?_
  walk_at "z"
  refine Pk.of hg ?_
  walk_at "z"
  refine hi ?_
  walk_at "z"
  refine Pk.of hr ?_
  walk_at "z"
  refine Zie (by decide +kernel) ?_
  walk_at "z"
  refine Pk.of a ?_
  walk_at "z"
  refine Pk.of b ?_
  walk_at "z"
  exact Pk.of h rfl
 ·obtain⟨a,b⟩:=h1.2 rfl
  walk_at "z"
  refine ZcC (by decide +kernel) ?_
  walk_at "z"
  refine ZcC (by decide +kernel) ?_
  walk_at "z"
  refine Pk.of hl ?_
  walk_at "z"
  refine Pk.of hg ?_
  walk_at "z"
  refine hi ?_
  walk_at "z"
  refine Pk.of hr ?_
  walk_at "z"
  refine ZcC (by decide +kernel) ?_
  walk_at "z"
  refine Pk.of a ?_
  walk_at "z"
  refine Pk.of b ?_
  walk_at "z"
  exact Pk.of h rfl
end
section
variable {n X:Nat} {G:Nat→Nat→Option Int} {R:Nat→Int×Int} {c:Nat→Int} {d:Int} {D:T}
end
theorem Zy9{a:T}(ha:Pln n a)(hb:Pln m (.tup ts))(hn:n≤8:=by decide)(hm:m≤8:=by decide): ZfT a (.tup ts)=some (dec (a∈ts)):=by
 have ha:=ha.mono hn
 have hb:=hb.mono hm
 obtain⟨a1,a2,a3⟩:=ha.dat
 obtain⟨b1,b2,b3⟩:=hb.dat
 unfold ZfT ZbG
 rw[a1,b1]
 simp only[Option.bind_some,dd,inD]
 simp only[dd,PyData.canLay0]at b2
 rw[if_pos ⟨b2,a2,by omega⟩,ZpG]
 intro t m
 cases hb with
 | tup hs=>exact(hs t m).eqv ha
section
variable {n X:Nat} {c x:Nat→Int} {d p v:Int} {s:Sp} {A:T}
end
theorem ZeO{a b c:Str}(hok:(PyData.strOk a && PyData.strOk b && PyData.strOk c)=true){r:Bool}(hr:decide (a=b∨a=c)=r)(h:Q (.bool r)): Pk (qIn (.str a) (.tup [.str b,.str c])) Q:=by
 simp only[Bool.and_eq_true]at hok
 obtain⟨⟨ha,hb⟩,hc⟩:=hok
 refine⟨.bool r,?_,h⟩
 have hp:Pln 1 (.tup [.str b,.str c]):=.tup fun t m=>by
  simp at m
  rcases m with rfl | rfl
  ·exact .str hb
  ·exact .str hc
 simp only[qIn,Zy9 (.str ha:Pln 1 (.str a)) hp,Option.map_some]
 congr 2
 rw[←hr]
 exact Zkf (by rw[decide_eq_true_eq];simp)
section
variable {n X:Nat} {G:Nat→Nat→Option Int} {R:Nat→Int×Int} {c:Nat→Int} {d:Int} {s:Sp} {T0 D A S0:T}
theorem ZvU(h:ZaK [T0]=some (Zs n G R)): Zbb [T0,.tup [.str (Str.ofString "go")],S0]=some (Zs n G R):=by
 have hne:∀{Q:T→Prop},Q (.bool false)→Pk (qIs (Zs n G R) .none) Q:=fun h=>⟨_,rfl,h⟩
 generalize Zs n G R=T1 at *
 apply Pk.eq
 unfold Zbb ZdC
 walk_at "z"
 refine Pk.of h ?_
 walk_at "z"
 refine hne ?_
 walk_at "z"
 refine ZeO (by decide +kernel) (r:=true) (by decide +kernel) ?_
 walk_at "z"
 rfl
theorem Zu9(h:ZaK [T0]=some (Zs n G R)): Zbb [T0,.tup [.str (Str.ofString "say"),A],S0]=some (Zs n G R):=by
 have hne:∀{Q:T→Prop},Q (.bool false)→Pk (qIs (Zs n G R) .none) Q:=fun h=>⟨_,rfl,h⟩
 generalize Zs n G R=T1 at *
 apply Pk.eq
 unfold Zbb ZdC
 walk_at "z"
 refine Pk.of h ?_
 walk_at "z"
 refine hne ?_
 walk_at "z"
 refine ZeO (by decide +kernel) (r:=true) (by decide +kernel) ?_
 walk_at "z"
 rfl
theorem Zva(h:ZaK [T0]=some (Zs n G R))(hl:Zcx [Zs n G R,.tup [.str (Str.ofString "set"),.int ((X:Int)+1),ZM n c]]=some D): Zbb [T0,.tup [.str (Str.ofString "set"),.int ((X:Int)+1),ZM n c],S0]=some D:=by
 have hne:∀{Q:T→Prop},Q (.bool false)→Pk (qIs (Zs n G R) .none) Q:=fun h=>⟨_,rfl,h⟩
 generalize Zs n G R=T1 at *
 apply Pk.eq
 unfold Zbb ZdC
 walk_at "z"
 refine Pk.of h ?_
 walk_at "z"
 refine hne ?_
 walk_at "z"
 refine ZeO (by decide +kernel) (r:=false) (by decide +kernel) ?_
 walk_at "z"
 refine ZcC (by decide +kernel) ?_
 walk_at "z"
 refine ZcC (by decide +kernel) ?_
 walk_at "z"
 exact Pk.of hl rfl
theorem Zvb(h:ZaK [T0]=some (Zs n G R))(hl:Zcx [Zs n G R,.tup [.str (Str.ofString "any"),.int ((X:Int)+1),oT s.1,oT s.2]]=some D): Zbb [T0,.tup [.str (Str.ofString "any"),.int ((X:Int)+1),oT s.1,oT s.2],S0]=some D:=by
 have hne:∀{Q:T→Prop},Q (.bool false)→Pk (qIs (Zs n G R) .none) Q:=fun h=>⟨_,rfl,h⟩
 generalize Zs n G R=T1 at *
 apply Pk.eq
 unfold Zbb ZdC
 walk_at "z"
 refine Pk.of h ?_
 walk_at "z"
 refine hne ?_
 walk_at "z"
 refine ZeO (by decide +kernel) (r:=false) (by decide +kernel) ?_
 walk_at "z"
 refine ZcC (by decide +kernel) ?_
 walk_at "z"
 refine ZcC (by decide +kernel) ?_
 walk_at "z"
 exact Pk.of hl rfl
theorem ZuE(h:ZaK [T0]=some (Zs n G R))(hl:Zcx [Zs n G R,.tup [.str (Str.ofString "part"),.int ((X:Int)+1),ZM n c,.int d]]=some D): Zbb [T0,.tup [.str (Str.ofString "part"),.int ((X:Int)+1),ZM n c,.int d],S0]=some D:=by
 have hne:∀{Q:T→Prop},Q (.bool false)→Pk (qIs (Zs n G R) .none) Q:=fun h=>⟨_,rfl,h⟩
 generalize Zs n G R=T1 at *
 apply Pk.eq
 unfold Zbb ZdC
 walk_at "z"
 refine Pk.of h ?_
 walk_at "z"
 refine hne ?_
 walk_at "z"
 refine ZeO (by decide +kernel) (r:=false) (by decide +kernel) ?_
 walk_at "z"
 refine ZcC (by decide +kernel) ?_
 walk_at "z"
 refine ZcC (by decide +kernel) ?_
 walk_at "z"
 exact Pk.of hl rfl
theorem ZuF(h:ZaK [T0]=some (Zs n G R))(hl:Zcx [Zs n G R,.tup [.str (Str.ofString "rest"),.int ((X:Int)+1),ZM n c,.int d]]=some D): Zbb [T0,.tup [.str (Str.ofString "rest"),.int ((X:Int)+1),ZM n c,.int d],S0]=some D:=by
 have hne:∀{Q:T→Prop},Q (.bool false)→Pk (qIs (Zs n G R) .none) Q:=fun h=>⟨_,rfl,h⟩
 generalize Zs n G R=T1 at *
 apply Pk.eq
 unfold Zbb ZdC
 walk_at "z"
 refine Pk.of h ?_
 walk_at "z"
 refine hne ?_
 walk_at "z"
 refine ZeO (by decide +kernel) (r:=false) (by decide +kernel) ?_
 walk_at "z"
 refine ZcC (by decide +kernel) ?_
 walk_at "z"
 refine ZcC (by decide +kernel) ?_
 walk_at "z"
 exact Pk.of hl rfl
end
theorem ZvV{r:Nat}{f:Nat→Int}{a:Int}: (tab r fun i=>T.int (f i))++[T.int a]=tab (r+1) fun i=>T.int (if i<r then f i else a):=by
 rw[←Zd3 (n:=r) (f:=fun i=>T.int (if i<r then f i else a))]
 congr 1
 ·exact ZaS fun i hi=>by rw[if_pos hi]
 ·rw[if_neg (by omega)]
end L
open PySem PySem.W PyProof.Rows PM TM My
namespace L
open PySem PySem.W PyProof.Rows PM TM My
end L
open PySem PySem.W PyProof.Rows PM TM My
namespace L
open PySem PySem.W PyProof.Rows PM TM My
end L
open PySem PySem.W PyProof.Rows PM TM My
namespace L
open PySem PySem.W PyProof.Rows PM TM My
end L
open PySem PySem.W PyProof.Rows PM TM My
namespace L
open PySem PySem.W PyProof.Rows PM TM My
end L
open PySem PySem.W PyProof.Rows PM TM My
namespace L
open PySem PySem.W PyProof.Rows PM TM My
def Zqb(n:Nat)(G:Nat→Nat→Option Int)(c:Nat→Int): Prop:=∃y,grt n G c=some y∧y≤0
end L
open PySem PySem.W PyProof.Rows PM TM My
namespace L
open PySem PySem.W PyProof.Rows PM TM My
section
variable {n:Nat} {M M':Int} {G G':Nat→Nat→Option Int} {R R':Nat→Int×Int} {c:Nat→Int} {Cl:T}
end
end L
open PySem PySem.W PyProof.Rows PM TM My
namespace L
open PySem PySem.W PyProof.Rows PM TM My
end L
open PySem PySem.W PyProof.Rows PM TM My
namespace L
open PySem PySem.W PyProof.Rows PM TM My
section
variable {n X:Nat} {M M':Int} {G G':Nat→Nat→Option Int} {R R':Nat→Int×Int} {c:Nat→Int} {d:Int} {s:Sp}
end
end L
open PySem PySem.W PyProof.Rows PM TM My
namespace L
open PySem PySem.W PyProof.Rows PM TM My
section
variable {n X:Nat} {G:Nat→Nat→Option Int} {R:Nat→Int×Int} {T0 D Cl C0 S0 Sm:T} {b:Bool} {at_:Int}
theorem ZqJ(h:ZaK [T0]=some (Zs n G R))(hl:Zdm [Zs n G R,Cl,.bool b]=some D): Zbb [T0,.tup [.str (Str.ofString "when"),Cl,.bool b],S0]=some D:=by
 have hne:∀{Q:T→Prop},Q (.bool false)→Pk (qIs (Zs n G R) .none) Q:=fun h=>⟨_,rfl,h⟩
 generalize Zs n G R=T1 at *
 apply Pk.eq
 unfold Zbb ZdC
 walk_at "z"
 refine Pk.of h ?_
 walk_at "z"
 refine hne ?_
 walk_at "z"
 refine ZeO (by decide +kernel) (r:=false) (by decide +kernel) ?_
 walk_at "z"
 refine Zie (by decide +kernel) ?_
 walk_at "z"
 exact Pk.of hl rfl
theorem ZuG{xv:T}(hS:Zv S0 (.int at_)=some Sm)(h:ZaK [T0]=some (Zs n G R))(hl:Zev [Zs n G R,xv,C0,Sm]=some D): Zbb [T0,.tup [.str (Str.ofString "call"),xv,.int at_,C0],S0]=some D:=by
 have hne:∀{Q:T→Prop},Q (.bool false)→Pk (qIs (Zs n G R) .none) Q:=fun h=>⟨_,rfl,h⟩
 have hS':∀{Q:T→Prop},Q Sm→Pk (Zv S0 (.int at_)) Q:=fun h=>⟨_,hS,h⟩
 clear hS
 generalize Zs n G R=T1 at *
 apply Pk.eq
 unfold Zbb ZdC
 walk_at "z"
 refine Pk.of h ?_
 walk_at "z"
 refine hne ?_
 walk_at "z"
 refine ZeO (by decide +kernel) (r:=false) (by decide +kernel) ?_
 walk_at "z"
 refine ZcC (by decide +kernel) ?_
 walk_at "z"
 refine Zie (by decide +kernel) ?_
 walk_at "z"
 refine hS' ?_
 walk_at "z"
 exact Pk.of hl rfl
end
end L
namespace L
open PySem PM TM
variable {x:Nat→Int} {n:Nat} {G:Nat→Nat→Option Int} {R:Nat→Int×Int}
noncomputable def ptG(x:Nat→Int)(i j:Nat): Option Int:=some (Zaj x i-Zaj x j)
noncomputable def Z1(x:Nat→Int)(t:Nat): Int×Int:=(0,x t)
theorem ZdR: ∀i,i<n+1→ptG x i i=some 0:=fun i _=>by unfold ptG;rw[Int.sub_self]
theorem ZdJ: ∀t,t<n→RestOk (Z1 x t):=fun _ _=>.inl rfl
theorem pt_lies: Zar n (ptG x) (Z1 x) x:=⟨fun i j _ _ b e=>by cases e;exact Int.le_refl _,fun t _=>⟨fun _=>rfl,fun q=>absurd q (show ¬(0:Int)<0 by decide)⟩⟩
theorem ZgJ{x y:Int}(h:Zal (0,x) y): y=x:=h.1 rfl
def Tight(n:Nat)(G:Nat→Nat→Option Int)(x:Nat→Int): Prop:=∀t,t<n→leO (G (t+1) 0) (some (x t))∧leO (G 0 (t+1)) (some (-(x t)))
theorem Zgu: Tight n (ptG x) x:=fun t _=>⟨leO_some.mpr (by show x t-0≤x t;omega),leO_some.mpr (by show 0-x t≤- x t;omega)⟩
theorem Tight.of{G':Nat→Nat→Option Int}(h:Tight n G x)(k:∀i,i<n+1→∀j,j<n+1→leO (G' i j) (G i j)): Tight n G' x:=fun t ht=>⟨ZbC (k _ (by omega) _ (by omega)) (h t ht).1,ZbC (k _ (by omega) _ (by omega)) (h t ht).2⟩
theorem ZxG(h:Tight n G x)(l:Zar n G R x)(z:∀i,i<n+1→G i i=some 0)(tri:∀k,k<n+1→∀i j,i<n+1→j<n+1→leO (G i j) (addO (G i k) (G k j))): ∀i j,i<n+1→j<n+1→G i j=ptG x i j:=by
 have a:∀i,i<n+1→leO (G i 0) (some (Zaj x i)):=fun i hi=>by
  cases i with
  | zero=>rw[z 0 hi];exact Zbu
  | succ t=>exact(h t (by omega)).1
 have b:∀i,i<n+1→leO (G 0 i) (some (-(Zaj x i))):=fun i hi=>by
  cases i with
  | zero=>rw[z 0 hi];exact Zbu
  | succ t=>exact(h t (by omega)).2
 intro i j hi hj
 have c:=ZbC (tri 0 (by omega) i j hi hj) (ZhC (a i hi) (b j hj))
 obtain⟨y,e,q⟩:=c _ rfl
 have:=l.1 i j hi hj y e
 rw[e]
 unfold ptG
 congr 1
 omega
theorem ZxH{k:Nat}{G2:Nat→Nat→Option Int}{R2:Nat→Int×Int}{M:Int}(hd:∀i,i<n+1→G i i=some 0)(hR:∀t,t<n→RestOk (R t))(h:Tight n G x)(l:Zar n G R x)(s:Sharp n G R G2 R2 M k): Zs n G2 R2=Zs n (ptG x) (Z1 x):=by
 have i:=ZqH hR s
 have l2:=Zrf l s
 obtain⟨z,tri⟩:=Zrg hd s
 have eG:=ZxG (h.of i.1) l2 z tri
 refine Zhp eG fun t ht=>?_
 obtain⟨R1,_,_,_,_,_,h6⟩:=s.go
 obtain⟨rb,hx⟩:=h6 t ht
 refine ZmV rb.1 (.inl rfl) fun y=>⟨fun q=>?_,fun q=>?_⟩
 ·have:=((hx y).mp q).2 0 (by omega) (x t) (-(x t)) (by rw[eG _ _ (by omega) (by omega)];show some (x t-0)=_;rw[Int.sub_zero]) (by rw[eG _ _ (by omega) (by omega)];show some (0-x t)=_;rw[Int.zero_sub]) (by omega)
  have:=ZgJ (show Zal (0,0) (y-x t)from this)
  exact⟨fun _=>by show y=x t;omega,fun q=>absurd q (show ¬(0:Int)<0 by decide)⟩
 ·rw[ZgJ (show Zal (0,x t) y from q)]
  exact l2.2 t ht
theorem ZjN{k:Nat}{M:Int}(hn:n≤20)(hk:k+2*n+4≤7000)(hM:0<M)(bM:Bd k M)(hd:∀i,i<n+1→G i i=some 0)(bG:GB k n G)(hR:∀t,t<n→RB M k (R t))(h:Tight n G x)(l:Zar n G R x): ZaK [Zs n G R]=some (Zs n (ptG x) (Z1 x)):=by
 obtain⟨D,e,q⟩:=ZrS (k:=k) (by omega) (by omega) hM bM hd (fun a b c ha hb e=>bG a b ha hb c e) hR
 rcases q with⟨G2,R2,rfl,s⟩ | ⟨rfl,f⟩
 ·rw[e,ZxH hd (fun t ht=>(hR t ht).1) h l s]
 ·exact absurd f (ZqV l)
theorem Zh7{c:Nat→Int}: grt n (ptG x) c=some (ZJ c x n):=by
 unfold grt
 by_cases hd:Df n c
 ·rw[ZaI hd]
  obtain⟨u,d,eu,ed,hcu,hcd,hu,hdn,hu1,hd1,iu,id_,_,_⟩:=ZjB hd
  rw[iu,id_]
  have f:∀i,1≤i→Zaj x i=x (i-1):=fun i hi=>by
   cases i with
   | zero=>omega
   | succ i=>rfl
  show some (Zaj x u-Zaj x d+c 0)=_
  rw[Zou,eu,ed,f u hu1,f d hd1]
  simp only[sV,List.map_cons,List.map_nil,List.sum_cons,List.sum_nil,hcu,hcd]
  congr 1
  omega
 ·rw[ZaO hd]
  have:∀j,ZdP c (S40 (ptG x)) j=(some (ZJ c x j),some (ZJ c x j)):=fun j=>by
   induction j with
   | zero=>rfl
   | succ j ih=>
    show ZkF (ZdP c (S40 (ptG x)) j) (Zed (S40 (ptG x) j) (c (j+1)))=_
    have e:S40 (ptG x) j=(some (x j),some (x j)):=by
     show(some ((0-x j) * -1),some (x j-0))=_
     rw[show(0-x j) * -1=x j by omega,Int.sub_zero]
    rw[ih,e]
    unfold Zed
    show _=(some (ZJ c x j+c (j+1)*x j),some (ZJ c x j+c (j+1)*x j))
    split
    ·rename_i q
     rw[q,Int.zero_mul]
     rfl
    ·split <;> (show(some (ZJ c x j+x j*c (j+1)),some (ZJ c x j+x j*c (j+1)))=_;rw[Int.mul_comm])
  show(ZdP c (S40 (ptG x)) n).2=_
  rw[this n]
theorem ZgC{c:Nat→Int}: ZaG c (Z1 x) n=(0,ZJ c x n):=by
 have h:∀j,ZaG c (Z1 x) j=(0,ZJ c x j):=fun j=>by
  induction j with
  | zero=>rfl
  | succ j ih=>
   show ZbW (ZaG c (Z1 x) j) (Zcd (Z1 x j) (c (j+1)))=(0,ZJ c x j+c (j+1)*x j)
   rw[ih]
   unfold ZbW Zcd Z1
   simp[ZaA,Int.mul_comm]
 exact h n
end L
namespace L
open PySem PM TM
variable {b n:Nat} {c x:Nat→Int}
theorem bd1': Bd 1 1:=by unfold Bd;decide
theorem ZsH(bx:∀t,t<n→Bd b (x t)): ∀i,i<n+1→Bd b (Zaj x i)
 | 0,_=>ZaR
 | i+1,hi=>bx i (by omega)
theorem Zek(bx:∀t,t<n→Bd b (x t)): GB (b+1) n (ptG x):=fun i j hi hj y e=>by
 cases e
 have h1:=ZsH bx i hi
 have h2:=ZsH bx j hj
 unfold Bd at *
 have:(2:Int) ^ (b+1)=2*2 ^ b:=by rw[Int.pow_succ];omega
 omega
theorem ZkG{k:Nat}{M:Int}(bx:∀t,t<n→Bd b (x t))(h:b≤k): ∀t,t<n→RB M k (Z1 x t):=fun t ht=>⟨.inl rfl,.inl rfl,(bx t ht).mono h⟩
theorem ZwH{P:(Nat→Int)→Prop}{D:T}(h:Tf n P (fun G2 R2=>ZbE n G2 R2 (ptG x) (Z1 x)) D)(p:P x): D=Zs n (ptG x) (Z1 x):=by
 rcases h with⟨rfl,no⟩ | ⟨G,R,rfl,_,_,l,i⟩
 ·exact absurd p (no x)
 ·refine Zhp (fun a b ha hb=>?_) fun t ht=>?_
  ·obtain⟨y,e,q⟩:=i.1 a ha b hb _ rfl
   have:=(l x p).1 a b ha hb y e
   rw[e]
   unfold ptG
   congr 1
   omega
  ·have:=i.2 t ht
   unfold RIn at this
   rw[if_pos (show(Z1 x t).1=0 from rfl)]at this
   exact this
theorem rc_pt{C:Nat→Nat→Int}: rcG n (ptG x) C=ptG (fun t=>ZJ (C t) x n)∧rcR n (Z1 x) C=Z1 (fun t=>ZJ (C t) x n):=by
 constructor
 ·funext i j
  unfold rcG
  rw[Zh7]
  unfold dC
  rw[Zft,ZrY,ZrY]
  rfl
 ·funext t
  unfold rcR
  rw[ZgC]
  rfl
theorem Zo3(hn:n≤20)(hb:b≤6000)(bx:∀t,t<n→Bd b (x t)): ZaK [Zs n (ptG x) (Z1 x)]=some (Zs n (ptG x) (Z1 x)):=ZjN (k:=b+1) (M:=1) hn (by omega) (by decide) (bd1'.mono (by omega)) ZdR (Zek bx) (ZkG bx (by omega)) Zgu pt_lies
theorem ZjD{m:Nat}{C:Nat→Nat→Int}(hn:n≤20)(hm:m≤20)(hb:b≤2900)(bx:∀t,t<n→Bd b (x t))(hC:CB b n m C): ZcG [Zs n (ptG x) (Z1 x),Zbh n m C]=some (Zs m (ptG fun t=>ZJ (C t) x n) (Z1 fun t=>ZJ (C t) x n)):=by
 apply Pk.eq
 refine ZvQ (b:=b+1) (by omega) (by omega) (by omega) (by omega) (Zek bx) (fun t ht=>⟨ZaR,(bx t ht).mono (by omega)⟩) ZdJ (fun i hi k hk=>(hC i hi k hk).mono (by omega)) ?_
 rw[rc_pt.1,rc_pt.2]
 exact Pk.of (Zo3 (b:=b+b+n) hm (by omega) fun t ht=>ZgI (hC t ht) bx n (Zz10 n)) rfl
theorem ZpY{top:Int}(hn:n≤20)(hb:b≤2900)(bx:∀t,t<n→Bd b (x t))(bc:∀i,i<n+1→Bd b (c i))(h:top<ZJ c x n): Zb2 [Zs n (ptG x) (Z1 x),ZM n c,.int top]=some .none:=(ZqI (b:=b+1) (by omega) (by omega) (by omega) (Zek bx) (fun i hi=>(bc i hi).mono (by omega)) (y:=- ZJ c x n) (by rw[Zh7,Zc6]) (by omega)).1
theorem Zza(hn:n≤20)(hb:b≤2900)(bx:∀t,t<n→Bd b (x t))(bc:∀i,i<n+1→Bd b (c i))(h:ZJ c x n=0): Zc4 [Zs n (ptG x) (Z1 x),ZM n c]=some .none:=by
 have ht:Zs n (ptG x) (Z1 x)=.tup [Z8 (n+1) (ptG x),.lst (tab n fun i=>ZP (Z1 x i))]:=rfl
 have hne:∀{Q:T→Prop},Q (.bool true)→Pk (Zb4 (Zs n (ptG x) (Z1 x)) .none) Q:=fun h=>⟨_,by rw[ht];rfl,h⟩
 have hg:=Zga (R:=Z1 x) (c:=c) (b:=b+1) (by omega) (by omega) (by omega) (Zek bx) (fun i hi=>(bc i hi).mono (by omega))
 have e1:=ZpY (top:=-1) hn hb bx bc (by omega)
 apply Pk.eq
 unfold Zc4 Zgg
 walk_at "z"
 refine hne ?_
 walk_at "z"
 refine Pk.of hg ?_
 walk_at "z"
 refine Pk.of (ZiM (b:=some 0)) ?_
 rw[Zh7,h,ZaI (leO_0.mpr ⟨0,rfl,Int.le_refl 0⟩)]
 walk_at "z"
 exact Pk.of e1 rfl
theorem Zzb{d:Int}(hn:n≤4)(bx:∀t,t<n→Bd 140 (x t))(bc:∀i,i<n+1→Bd 300 (c i))(hd0:0<d)(bd:Bd 140 d)(h:¬d ∣ ZJ c x n): ZdW [Zs n (ptG x) (Z1 x),ZM n c,.int d]=some .none:=by
 have bR:∀t,t<n→RBd 900 (Z1 x t):=fun t ht=>⟨ZaR,(bx t ht).mono (by decide)⟩
 have bc5:∀i,i<n+1→Bd 900 (c i):=fun i hi=>(bc i hi).mono (by decide)
 have ht:Zs n (ptG x) (Z1 x)=.tup [Z8 (n+1) (ptG x),.lst (tab n fun i=>ZP (Z1 x i))]:=rfl
 have hg:∀{Q:T→Prop},Q (.lst (tab n fun i=>ZP (Z1 x i)))→Pk (Zv (Zs n (ptG x) (Z1 x)) (.int 1)) Q:=fun h=>⟨_,by rw[ht];rfl,h⟩
 have hs:=Zeq (i:=900) (R:=Z1 x) (by omega) (by decide) (by decide) bc5 bR ZdJ
 have hl:=ZkX (p:=ZaG c (Z1 x) n) (d:=d) (k:=2000) (by decide) (by rw[ZgC];exact ZaR) (bd.mono (by decide))
 have hr:¬Zal (Zdx (ZaG c (Z1 x) n) d) 0:=fun q=>by
  rw[ZgC]at q
  unfold Zdx at q
  have q2:=(ZcM (Int.natCast_nonneg _) 0).mp q
  rw[show(((0:Int),ZJ c x n)).1=0 from rfl,Int.gcd_zero_left]at q2
  rw[show(((0:Int),ZJ c x n)).2=ZJ c x n from rfl,Int.zero_sub]at q2
  exact h (Int.dvd_neg.mp (Int.natAbs_dvd.mp q2))
 apply Pk.eq
 unfold ZdW Zhe
 walk_at "z"
 refine hg ?_
 walk_at "z"
 refine Pk.of hs ?_
 walk_at "z"
 refine Pk.of hl ?_
 walk_at "z"
 refine Pk.of (Ze3 ZpW) ?_
 rw[ZaO hr]
 walk_at "z"
 rfl
theorem Zvc{d:Int}(hn:n≤4)(bx:∀t,t<n→Bd 140 (x t))(bc:∀i,i<n+1→Bd 300 (c i))(hd0:0<d)(bd:Bd 140 d)(h:d ∣ ZJ c x n): ZdS [Zs n (ptG x) (Z1 x),ZM n c,.int d]=some .none:=by
 have bR:∀t,t<n→RBd 900 (Z1 x t):=fun t ht=>⟨ZaR,(bx t ht).mono (by decide)⟩
 have bc5:∀i,i<n+1→Bd 900 (c i):=fun i hi=>(bc i hi).mono (by decide)
 have ht:Zs n (ptG x) (Z1 x)=.tup [Z8 (n+1) (ptG x),.lst (tab n fun i=>ZP (Z1 x i))]:=rfl
 have hg:∀{Q:T→Prop},Q (.lst (tab n fun i=>ZP (Z1 x i)))→Pk (Zv (Zs n (ptG x) (Z1 x)) (.int 1)) Q:=fun h=>⟨_,by rw[ht];rfl,h⟩
 have hs:=Zeq (i:=900) (R:=Z1 x) (by omega) (by decide) (by decide) bc5 bR ZdJ
 have hri:=Zqr (p:=ZaG c (Z1 x) n) (Zqi hd0)
 have ed:ZP (d,(0:Int))=.tup [.int d,.int 0]:=rfl
 rw[ed]at hri
 have hr:RIn (ZaG c (Z1 x) n) (d,0):=by
  rw[ZgC]
  unfold RIn
  rw[if_neg (by show ¬d=0;omega)]
  exact⟨Int.zero_emod d,by show(ZJ c x n-0) % d=0;rw[Int.sub_zero];exact Int.emod_eq_zero_of_dvd h⟩
 apply Pk.eq
 unfold ZdS ZfV
 walk_at "z"
 refine hg ?_
 walk_at "z"
 refine Pk.of hs ?_
 walk_at "z"
 refine Pk.of hri ?_
 rw[ZaI hr]
 walk_at "z"
 rfl
theorem Zzc{Cl:T}(hn:n≤4)(bx:∀t,t<n→Bd 140 (x t))(bc:∀i,i<n+1→Bd 300 (c i))(hC:ClT n c Cl): ∃hb:Int→Bool,(∀y v,ZcF [ZM n c,Zav n y]=some (.int v)→ZdA [Cl,Zav n y]=some (.bool (hb v)))∧∀b:Bool,Zdm [Zs n (ptG x) (Z1 x),Cl,.bool b]=some (if hb (ZJ c x n)=b then Zs n (ptG x) (Z1 x)else .none):=by
 have yes:=fun(hb:Int→Bool) (b:Bool) (D:T) (h:Tf n (fun y=>Zar n (ptG x) (Z1 x) y∧hb (ZJ c y n)=b) (fun G2 R2=>ZbE n G2 R2 (ptG x) (Z1 x)) D) (p:hb (ZJ c x n)=b)=>ZwH h ⟨pt_lies,p⟩
 have bG:GB 580 n (ptG x):=fun i j hi hj y e=>(Zek bx i j hi hj y e).mono (by decide)
 have hR:∀t,t<n→RB 1 580 (Z1 x t):=ZkG bx (by decide)
 have b1:Bd 560 (1:Int):=bd1'.mono (by decide)
 have bx3:∀t,t<n→Bd 300 (x t):=fun t ht=>(bx t ht).mono (by decide)
 have bRd:∀t,t<n→RBd 900 (Z1 x t):=fun t ht=>⟨ZaR,(bx t ht).mono (by decide)⟩
 rcases hC with rfl | rfl | ⟨d,hd0,bd,rfl⟩
 ·refine⟨fun v=>decide (v<0),fun x v h=>ZxB h,fun b=>?_⟩
  by_cases p:decide (ZJ c x n<0)=b
  ·obtain⟨D,e,h⟩:=Zy7 hn (by decide) b1 ZdR bG hR bc b
   rw[if_pos p]
   rw[yes (fun v=>decide (v<0)) b D h p]at e
   exact e
  ·rw[if_neg p]
   cases b with
   | true=>exact Zj5 (.inr ⟨_,_,rfl⟩) (fun h=>by cases h) (Zqu (ZpY (b:=300) (by omega) (by decide) bx3 bc (by have:=of_decide_eq_false (Bool.eq_false_iff.mpr p);omega)))
   | false=>exact Zj5 (.inr ⟨_,_,rfl⟩) (fun h=>by cases h) (Zqz (b:=300) (by omega) (by decide) (by decide) bc (ZpY (b:=300) (by omega) (by decide) bx3 (ZgB bc) (by have:=of_decide_eq_true (Bool.of_not_eq_false p);rw[Zc6];omega)))
 ·refine⟨fun v=>decide (v=0),fun x v h=>ZxC h,fun b=>?_⟩
  by_cases p:decide (ZJ c x n=0)=b
  ·rw[if_pos p]
   cases b with
   | true=>
    obtain⟨D,e,h⟩:=ZAs hn (by decide) b1 ZdR bG hR bc
    rw[yes (fun v=>decide (v=0)) true D (h.imp (fun x q=>⟨q.1,of_decide_eq_true q.2⟩) (fun _ _ q=>q.1)) p]at e
    exact Zj8 e
   | false=>
    obtain⟨D,e,h⟩:=ZxE hn (by decide) b1 ZdR bG hR bc
    rw[yes (fun v=>decide (v=0)) false D (h.imp (fun x q=>⟨q.1,of_decide_eq_false q.2⟩) (fun _ _ q=>q.1)) p]at e
    exact Zj8 e
  ·rw[if_neg p]
   cases b with
   | true=>
    have:=of_decide_eq_false (Bool.eq_false_iff.mpr p)
    exact Zj8 (ZhM (D1:=.none) (D2:=.none) (by omega) ZdJ bRd bc (.inr ⟨fun q=>this (by rw[ZgC]at q;exact(ZgJ q).symm),rfl⟩))
   | false=>
    have:=of_decide_eq_true (Bool.of_not_eq_false p)
    exact Zj8 (ZkY (by omega) bc (Zza (b:=300) (by omega) (by decide) bx3 bc this) ZqA (.inl rfl))
 ·have hz:∀v:Int,v.fmod d=0↔d ∣ v:=fun v=>by
   rw[Int.fmod_eq_emod_of_nonneg _ (by omega)]
   exact⟨Int.dvd_of_emod_eq_zero,Int.emod_eq_zero_of_dvd⟩
  refine⟨fun v=>decide (v.fmod d=0),fun x v h=>ZxD hd0 h,fun b=>?_⟩
  by_cases p:decide ((ZJ c x n).fmod d=0)=b
  ·rw[if_pos p]
   cases b with
   | true=>
    obtain⟨D,e,h⟩:=Zte hn (by decide) b1 ZdR bG hR (fun i hi=>(bc i hi).mono (by decide)) hd0 bd
    rw[yes (fun v=>decide (v.fmod d=0)) true D (h.imp (fun x q=>⟨q.1,(hz _).mp (of_decide_eq_true q.2)⟩) (fun _ _ q=>q.1)) p]at e
    exact Zj9 e
   | false=>
    obtain⟨D,e,h⟩:=ZvS hn (by decide) b1 ZdR bG hR bc hd0 bd
    rw[yes (fun v=>decide (v.fmod d=0)) false D (h.imp (fun x q=>⟨q.1,fun h=>(of_decide_eq_false q.2) ((hz _).mpr h)⟩) (fun _ _ q=>q.1)) p]at e
    exact Zj9 e
  ·rw[if_neg p]
   cases b with
   | true=>
    have:=of_decide_eq_false (Bool.eq_false_iff.mpr p)
    exact Zj9 (Zzb hn bx bc hd0 bd fun q=>this ((hz _).mpr q))
   | false=>
    have:=of_decide_eq_true (Bool.of_not_eq_false p)
    exact Zj9 (Zvc hn bx bc hd0 bd ((hz _).mp this))
end L
namespace L
open PySem PM TM
variable {c x:Nat→Int} {X n:Nat} {v:Int}
noncomputable def ZaM(x:Nat→Int)(X:Nat)(v:Int): Nat→Int:=fun t=>if t=X then v else x t
theorem Zr2{i:Nat}: Zaj (ZaM x X v) i=if i=X+1 then v else Zaj x i:=by
 cases i with
 | zero=>rw[if_neg (by omega)];rfl
 | succ i=>
  show ZaM x X v i=_
  unfold ZaM
  by_cases h:i=X
  ·rw[if_pos h,if_pos (by omega)]
  ·rw[if_neg h,if_neg (by omega)];rfl
theorem ZsI{b:Nat}{q:Int×Int}(hn:n≤20)(hX:X<n)(hb:b≤6000)(bx:∀t,t<n→Bd b (x t))(bv:Bd b v)(hq:RB 1 (b+1) q)(hv:Zal q v): Zeb [Zs n (ptG x) (Z1 x),.int ((X:Int)+1),spT (some v,some v),ZP q]=some (Zs n (ptG (ZaM x X v)) (Z1 (ZaM x X v))):=by
 have bs:SBd (b+1) (some v,some v):=⟨fun y e=>by cases e;exact bv.mono (by omega),fun y e=>by cases e;exact bv.mono (by omega)⟩
 apply Pk.eq
 refine ZyP (b:=b+1) hX (by omega) (by omega) (by omega) bs (Pk.of ?_ rfl)
 refine ZjN (k:=b+1) (M:=1) hn (by omega) (by decide) (bd1'.mono (by omega)) (ZAi (x:=X) (s:=(some v,some v)) ZdR) (fun i j hi hj y e=>?_) (fun t ht=>?_) (fun t ht=>?_) ⟨fun i j hi hj y e=>?_,fun t ht=>?_⟩
 ·unfold ZfN ZaF at e
  split at e
  ·obtain⟨z,hz,rfl⟩:=Zz1.mp e
   have:=bs.1 z hz
   unfold Bd at *;omega
  ·split at e
   ·exact bs.2 y e
   ·unfold ZeN at e
    split at e
    ·split at e
     ·cases e;exact ZaR
     ·cases e
    ·split at e
     ·cases e
     ·exact Zek bx i j hi hj y e
 ·unfold ZgN
  split
  ·exact hq
  ·exact ZkG bx (by omega) t ht
 ·unfold ZfN ZaF
  by_cases h:t=X
  ·subst h
   rw[if_neg (by omega),if_pos ⟨rfl,rfl⟩,if_pos ⟨rfl,rfl⟩,show ZaM x t v t=v by unfold ZaM;rw[if_pos rfl]]
   exact⟨Zbu,leO_some.mpr (by show v * -1≤_;omega)⟩
  ·rw[if_neg (by omega),if_neg (by omega),if_neg (by omega),if_neg (by omega),show ZaM x X v t=x t by unfold ZaM;rw[if_neg h]]
   unfold ZeN
   rw[if_neg (by omega),if_neg (by omega),if_neg (by omega),if_neg (by omega)]
   exact Zgu t ht
 ·rw[Zr2,Zr2]
  unfold ZfN ZaF at e
  split at e
  ·rename_i h
   have e2:some (v * -1)=some y:=e
   cases e2
   rw[if_neg (by omega),if_pos (by omega),h.1]
   show 0-v≤_
   omega
  ·split at e
   ·rename_i h
    have e2:some v=some y:=e
    cases e2
    rw[if_pos (by omega),if_neg (by omega),h.2]
    show v-0≤v
    omega
   ·unfold ZeN at e
    split at e
    ·split at e
     ·cases e
      rw[if_pos (by omega),if_pos (by omega)]
      omega
     ·cases e
    ·split at e
     ·cases e
     ·rename_i h1 h2
      rw[if_neg h1,if_neg h2]
      cases e
      exact Int.le_refl _
 ·unfold ZgN ZaM
  split
  ·exact hv
  ·exact⟨fun _=>rfl,fun q=>absurd q (show ¬(0:Int)<0 by decide)⟩
theorem ZAu(hn:n≤4)(hX:X<n)(bx:∀t,t<n→Bd 140 (x t))(bc:∀i,i<n+1→Bd 140 (c i)): Zcx [Zs n (ptG x) (Z1 x),.tup [.str (Str.ofString "set"),.int ((X:Int)+1),ZM n c]]=some (Zs n (ptG (ZaM x X (ZJ c x n))) (Z1 (ZaM x X (ZJ c x n)))):=by
 refine Zu6 (by omega) hX ?_
 rw[ZjD (b:=580) (by omega) (by omega) (by decide) (fun t ht=>(bx t ht).mono (by decide)) (ZAt bc)]
 have e:∀t,t<n→ZJ (ZdQ X c t) x n=ZaM x X (ZJ c x n) t:=fun t ht=>by
  unfold ZdQ ZaM
  split
  ·rfl
  ·rw[ZeF (t+1) (by omega)];rfl
 congr 1
 refine Zhp (fun i j hi hj=>?_) fun t ht=>by show(0,ZJ (ZdQ X c t) x n)=(0,ZaM x X (ZJ c x n) t);rw[e t ht]
 have f:∀i,i<n+1→Zaj (fun t=>ZJ (ZdQ X c t) x n) i=Zaj (ZaM x X (ZJ c x n)) i:=fun i hi=>by
  cases i with
  | zero=>rfl
  | succ i=>exact e i (by omega)
 unfold ptG
 rw[f i hi,f j hj]
theorem ZAv(hn:n≤4)(hX:X<n)(bx:∀t,t<n→Bd 140 (x t))(bv:Bd 140 v): Zcx [Zs n (ptG x) (Z1 x),.tup [.str (Str.ofString "any"),.int ((X:Int)+1),.int v,.int v]]=some (Zs n (ptG (ZaM x X v)) (Z1 (ZaM x X v))):=by
 refine Zu7 (s:=(some v,some v)) ?_
 exact ZsI (b:=140) (by omega) hX (by decide) bx bv ⟨.inr ⟨by decide,by decide,by decide⟩,.inr (Int.dvd_refl 1),ZaR⟩ ⟨fun h=>absurd h (by decide),fun _=>Int.emod_one _⟩
theorem Zzd: Zif n (ptG x) c=(some (ZJ c x n),some (ZJ c x n)):=by
 unfold Zif
 rw[Zh7,Zh7,Zc6]
 show(some (-ZJ c x n * -1),_)=_
 rw[show -ZJ c x n * -1=ZJ c x n by omega]
theorem Zth{d:Int}{w:Str}(hn:n≤4)(hX:X<n)(bx:∀t,t<n→Bd 140 (x t))(bc:∀i,i<n+1→Bd 140 (c i))(hd:0<d)(bd:Bd 140 d)(hw:(w=Str.ofString "part"∧v=(ZJ c x n).fdiv d)∨(w=Str.ofString "rest"∧v=(ZJ c x n).fmod d)): Zcx [Zs n (ptG x) (Z1 x),.tup [.str w,.int ((X:Int)+1),ZM n c,.int d]]=some (Zs n (ptG (ZaM x X v)) (Z1 (ZaM x X v))):=by
 have bG:GB 300 n (ptG x):=fun i j hi hj y e=>(Zek bx i j hi hj y e).mono (by decide)
 have bc3:∀i,i<n+1→Bd 300 (c i):=fun i hi=>(bc i hi).mono (by decide)
 have bR:∀t,t<n→RBd 300 (Z1 x t):=fun t ht=>⟨ZaR,(bx t ht).mono (by decide)⟩
 have bval:Bd 290 (ZJ c x n):=(ZgI bc bx n (Zz10 n)).mono (by omega)
 have bv:Bd 300 v:=by
  rcases hw with⟨_,rfl⟩ | ⟨_,rfl⟩
  ·exact(Zy8 hd bval).mono (by decide)
  ·have h1:=Int.fmod_nonneg_of_pos (ZJ c x n) hd
   have h2:=Int.fmod_lt_of_pos (ZJ c x n) hd
   have b3:Bd 300 d:=bd.mono (by decide)
   unfold Bd at b3 ⊢
   omega
 have hl:=Zrv (R:=Z1 x) (c:=c) (b:=300) (by omega) (by decide) (by decide) bG bc3 (fun y e=>(Zps bG (ZgB bc3) y e).mono (by omega))
 have hg:=Zga (R:=Z1 x) (c:=c) (b:=300) (by omega) (by decide) (by decide) bG bc3
 have hr:=Zeq (i:=900) (R:=Z1 x) (by omega) (by decide) (by decide) (fun i hi=>(bc i hi).mono (by decide)) (fun t ht=>⟨ZaR,(bx t ht).mono (by decide)⟩) ZdJ (n:=n) (c:=c)
 refine Zu8 (s':=(some v,some v)) (q':=(0,v)) (hw.elim (fun h=>.inl h.1) fun h=>.inr h.1) hl hg hr ?_ (ZsI (b:=300) (by omega) hX (by decide) (fun t ht=>(bx t ht).mono (by decide)) bv ⟨.inl rfl,.inl rfl,bv.mono (by decide)⟩ ⟨fun _=>rfl,fun q=>absurd q (show ¬(0:Int)<0 by decide)⟩)
 rw[Zzd,ZgC]
 refine⟨fun e=>?_,fun e=>?_⟩
 ·rcases hw with⟨_,rfl⟩ | ⟨h,_⟩
  ·have a:=Zqj (s:=(some (ZJ c x n),some (ZJ c x n))) (i:=140) (by decide) (by omega) bd
   have b:=Zt4 (q:=(0,ZJ c x n)) (k:=d) (i:=140) (by decide) (Int.le_refl 0) hd bd
   refine⟨a,?_⟩
   rw[b]
   unfold rpI
   rw[if_pos (by exact Int.zero_fmod d)]
   show some (ZP (ZaA ((0:Int).fdiv d) _))=_
   rw[Int.zero_fdiv]
   rfl
  ·exact absurd (h.symm.trans e) (by decide)
 ·rcases hw with⟨h,_⟩ | ⟨_,rfl⟩
  ·exact absurd (h.symm.trans e) (by decide)
  ·have a:=Ztx (s:=(some (ZJ c x n),some (ZJ c x n))) (i:=140) (by decide) (by omega) bd
   have b:=Zt5 (q:=(0,ZJ c x n)) (k:=d) hd (ZaR) (bd.mono (by decide))
   refine⟨?_,?_⟩
   ·rw[a]
    unfold srI
    show some (spT (if _=_ then _ else _))=_
    rw[if_pos rfl]
   ·rw[b]
    unfold rrI
    rw[if_pos (by rw[show(((0:Int),ZJ c x n)).1=0 from rfl,Int.gcd_zero_left];omega)]
end L
namespace L
open PySem PM TM
theorem Zo4{Δ:Nat→Nat→Option Int}{a b i j:Nat}{w:Option Int}: leO (ZaF Δ a b (Za5 (Δ a b) w) i j) (Δ i j):=by
 unfold ZaF
 split
 ·rename_i h
  rw[h.1,h.2]
  exact ZfD
 ·exact Zbu
theorem ZsJ{q:Nat→Nat}{G' Γ:Nat→Nat→Option Int}{k:Nat}(a b:Nat): leO (ZcK q G' k Γ k a b) (Γ a b):=
 ZhL (fun Δ=>leO (Δ a b) (Γ a b)) (fun Δ i j _ _ h=>ZbC Zo4 h) Zbu k (Zz10 k)
theorem ZsK{q:Nat→Nat}{G' Γ:Nat→Nat→Option Int}{i j:Nat}: ∀k,j<k→leO (ZfO q G' i Γ k (q i) (q j)) (G' i j)
 | 0,h=>by omega
 | k+1,h=>by
  by_cases c:j=k
  ·subst c
   show leO (ZaF _ _ _ _ _ _) _
   unfold ZaF
   rw[if_pos ⟨rfl,rfl⟩]
   exact ZpS
  ·exact ZbC Zo4 (ZsK k (by omega))
theorem Zpx{q:Nat→Nat}{G' Γ:Nat→Nat→Option Int}{i j K:Nat}(hj:j<K): ∀k,i<k→leO (ZcK q G' K Γ k (q i) (q j)) (G' i j)
 | 0,h=>by omega
 | k+1,h=>by
  by_cases c:i=k
  ·subst c
   exact ZsK K hj
  ·exact Zo0 (fun Δ=>leO (Δ (q i) (q j)) (G' i j)) (fun Δ j' _ h=>ZbC Zo4 h) (Zpx hj k (by omega)) K (Zz10 K)
theorem Zze{q:Nat→Nat}{G' Γ:Nat→Nat→Option Int}{k N B:Nat}(h:GB B N Γ)(h':∀i j,i<k→j<k→∀y,G' i j=some y→Bd B y)(hq:∀i,i<k→q i<N+1): GB B N (ZcK q G' k Γ k):=
 ZhL (fun Δ=>GB B N Δ) (fun Δ i j hi hj h a b ha hb y e=>by
  unfold ZaF at e
  split at e
  ·rcases ZeC (Δ (q i) (q j)) (G' i j)with c | c
   ·rw[c]at e;exact h _ _ (hq i hi) (hq j hj) y e
   ·rw[c]at e;exact h' i j hi hj y e
  ·exact h a b ha hb y e) h k (Zz10 k)
theorem ZAw{p:Int×Int}{v:Int}(h:Zal p v): Met p (0,v) (some (0,v)):=⟨.inl rfl,fun x=>⟨fun q=>⟨by rw[ZgJ q];exact h,q⟩,fun q=>q.2⟩⟩
theorem ZAx{u v:Int}{o:Option (Int×Int)}(h:u≠v)(m:Met (0,u) (0,v) o): o=none:=ZnR m (show Met (0,u) (0,v) none from fun x q=>h ((ZgJ q.1).symm.trans (ZgJ q.2)))
section
variable {n r X:Nat} {C:Nat→Nat→Int} {x s:Nat→Int}
noncomputable def uX(n:Nat)(C:Nat→Nat→Int)(x:Nat→Int): Nat→Int:=fun t=>ZJ (ZcE n C t) x n
theorem Ztt(hn:n≤4)(bx:∀t,t<n→Bd 140 (x t))(hC:CB 140 n r C): ∀t,t<n+r→Bd 290 (uX n C x t):=fun t ht=>by
 unfold uX
 by_cases c:t<n
 ·rw[ZsC c];exact(bx t c).mono (by decide)
 ·have e:t=n+(t-n):=by omega
  rw[e,Zo1]
  exact(ZgI (hC (t-n) (by omega)) bx n (Zz10 n)).mono (by omega)
theorem ZuH(hX:X<n)(hn:n≤4)(hr:r≤4)(bx:∀t,t<n→Bd 140 (x t))(hC:CB 140 n r C)(bs:∀t,t<r+1→Bd 290 (s t))(hs:∀t,t<r→s t=ZJ (C t) x n): Zev [Zs n (ptG x) (Z1 x),.int ((X:Int)+1),Zbh n r C,Zs (r+1) (ptG s) (Z1 s)]=some (Zs n (ptG (ZaM x X (s r))) (Z1 (ZaM x X (s r)))):=by
 have bu:=Ztt hn bx hC
 have h1:ZaK [Zs n (ptG x) (Z1 x)]=some (Zs n (ptG x) (Z1 x)):=Zo3 (b:=140) (by omega) (by decide) bx
 have h2:ZcG [Zs n (ptG x) (Z1 x),Zbh n (n+r) (ZcE n C)]=some (Zs (n+r) (ptG (uX n C x)) (Z1 (uX n C x))):=ZjD (b:=580) (by omega) (by omega) (by decide) (fun t ht=>(bx t ht).mono (by decide)) (Zta hC)
 have ue:∀t,t<n→uX n C x t=x t:=fun t ht=>ZsC ht
 have us:∀j,j<r→uX n C x (n+j)=s j:=fun j hj=>by rw[hs j hj];exact Zo1
 generalize uX n C x=u at bu h2 ue us
 let y:Nat→Int:=fun t=>if t<n+r then u t else s r
 have y1:∀t,t<n+r→y t=u t:=fun t ht=>if_pos ht
 have y2:∀j,j<r+1→y (n+j)=s j:=fun j hj=>by
  by_cases c:j<r
  ·rw[y1 _ (by omega),us j c]
  ·show(if n+j<n+r then _ else _)=_
   rw[if_neg (by omega),show j=r by omega]
 have by_:∀t,t<n+r+1→Bd 290 (y t):=fun t ht=>by
  show Bd 290 (if t<n+r then _ else _)
  split
  ·exact bu t (by assumption)
  ·exact bs r (by omega)
 clear_value y
 have wl:Zar (n+r+1) (Zbg (n+r) (ptG u)) (ZbM (n+r) (Z1 u)) y:=ZwE pt_lies y1
 have hp:∀i,i<r+1→n+i<n+r+1:=fun i hi=>by omega
 have inj:∀i j,i<r+1→j<r+1→n+i=n+j→i=j:=fun i j _ _ h=>by omega
 obtain⟨L0,e3,ρ,hl,hT⟩:=Zrh (N:=n+r+1) (L:=r+1) (b:=300) (p:=fun i=>n+i) (Γ:=Zbg (n+r) (ptG u)) (G':=ptG s) (R:=ZbM (n+r) (Z1 u)) (R':=Z1 s) (by omega) (by omega) (by decide) hp inj (fun t _=>ZsA ZdJ t) ZdJ (fun t _=>ZsB (by decide) (fun t ht=>⟨ZaR,(bu t ht).mono (by decide)⟩) t) (fun t ht=>⟨ZaR,(bs t ht).mono (by decide)⟩)
 have hρ:∀t,t<n+r+1→ρ t=some (0,y t):=fun t ht=>by
  by_cases c:t<n
  ·rw[hl.1 t ht fun j _ e=>by have e2:n+j=t:=e;omega]
   unfold ZbM
   rw[if_pos (by omega),y1 t (by omega)]
   rfl
  ·have e:t=n+(t-n):=by omega
   have hj:t-n<r+1:=by omega
   rw[e]
   have m:=hl.2 (t-n) hj
   rw[show Z1 s (t-n)=(0,y (n+(t-n)))by rw[y2 _ hj];rfl]at m
   exact ZnR m (ZAw (wl.2 (n+(t-n)) (by omega)))
 have eT:L0=Zs (n+r+1) (ZcK (qOf fun i=>n+i) (ptG s) (r+1+1) (Zbg (n+r) (ptG u)) (r+1+1)) (Z1 y):=by
  rcases hT with⟨_,i,hi,q⟩ | ⟨rfl,_⟩
  ·rw[hρ i hi]at q;cases q
  ·exact Zhp (fun _ _ _ _=>rfl) fun t ht=>by show(ρ t).getD (1,0)=_;rw[hρ t ht];rfl
 subst eT
 have wG:GB 300 (n+r+1) (Zbg (n+r) (ptG u)):=Zy3 (fun i j hi hj z e=>(Zek bu i j hi hj z e).mono (by decide))
 have h4:ZaK [Zs (n+r+1) (ZcK (qOf fun i=>n+i) (ptG s) (r+1+1) (Zbg (n+r) (ptG u)) (r+1+1)) (Z1 y)]=some (Zs (n+r+1) (ptG y) (Z1 y)):=by
  refine ZjN (k:=300) (M:=1) (by omega) (by omega) (by decide) (bd1'.mono (by decide)) (Zy2 inj hp (ZAq ZdR) ZdR) (Zze wG (fun i j hi hj z e=>(Zek bs i j hi hj z e).mono (by decide)) fun i hi=>?_) (ZkG by_ (by decide)) (fun t ht=>?_) ⟨ZvP (z:=s) (fun i hi=>(y2 i hi).symm) wl pt_lies,pt_lies.2⟩
  ·cases i with
   | zero=>exact Nat.succ_pos _
   | succ i=>show n+i+1<_;omega
  ·by_cases c:t<n+r
   ·rw[y1 t c]
    refine⟨ZbC (ZsJ _ _) ?_,ZbC (ZsJ _ _) ?_⟩
    ·unfold Zbg;rw[if_pos ⟨by omega,by omega⟩];exact(Zgu t c).1
    ·unfold Zbg;rw[if_pos ⟨by omega,by omega⟩];exact(Zgu t c).2
   ·have e:t=n+r:=by omega
    subst e
    rw[y2 r (by omega)]
    exact⟨ZbC (Zpx (i:=r+1) (j:=0) (by omega) _ (by omega)) (Zgu (n:=r+1) r (by omega)).1,ZbC (Zpx (i:=0) (j:=r+1) (by omega) _ (by omega)) (Zgu (n:=r+1) r (by omega)).2⟩
 have hC2:CB 290 (n+r+1) n (fun t=>unC (ZeU n (n+r) X t)):=fun i _ k _=>bd_un.mono (by decide)
 have h5:=ZjD (b:=290) (by omega) (by omega) (by decide) by_ hC2
 rw[ZqX (m:=n+r) rfl hX (by omega) (by omega) ⟨_,_,_,rfl⟩ h1 h2 e3 h4 h5]
 have ev:∀t,t<n→ZJ (unC (ZeU n (n+r) X t)) y (n+r+1)=ZaM x X (s r) t:=fun t ht=>by
  unfold ZeU ZaM
  by_cases c:t=X
  ·rw[if_pos c,if_pos c,ZeF _ (by omega)]
   exact y2 r (by omega)
  ·rw[if_neg c,if_neg c,ZeF _ (by omega)]
   show y t=_
   rw[y1 t (by omega),ue t ht]
 refine congrArg some (Zhp (fun i j hi hj=>?_) fun t ht=>by show(0,ZJ (unC (ZeU n (n+r) X t)) y (n+r+1))=(0,ZaM x X (s r) t);rw[ev t ht])
 have f:∀i,i<n+1→Zaj (fun t=>ZJ (unC (ZeU n (n+r) X t)) y (n+r+1)) i=Zaj (ZaM x X (s r)) i:=fun i hi=>by
  cases i with
  | zero=>rfl
  | succ i=>exact ev i (by omega)
 unfold ptG
 rw[f i hi,f j hj]
theorem Zvd(hX:X<n)(hn:n≤4)(hr:r≤4)(bx:∀t,t<n→Bd 140 (x t))(hC:CB 140 n r C)(bs:∀t,t<r+1→Bd 290 (s t))(h0:0<r)(hs:s 0≠ZJ (C 0) x n): Zev [Zs n (ptG x) (Z1 x),.int ((X:Int)+1),Zbh n r C,Zs (r+1) (ptG s) (Z1 s)]=some .none:=by
 have bu:=Ztt hn bx hC
 have h1:ZaK [Zs n (ptG x) (Z1 x)]=some (Zs n (ptG x) (Z1 x)):=Zo3 (b:=140) (by omega) (by decide) bx
 have h2:ZcG [Zs n (ptG x) (Z1 x),Zbh n (n+r) (ZcE n C)]=some (Zs (n+r) (ptG (uX n C x)) (Z1 (uX n C x))):=ZjD (b:=580) (by omega) (by omega) (by decide) (fun t ht=>(bx t ht).mono (by decide)) (Zta hC)
 have us:uX n C x (n+0)=ZJ (C 0) x n:=Zo1
 generalize uX n C x=u at bu h2 us
 obtain⟨L0,e3,ρ,hl,hT⟩:=Zrh (N:=n+r+1) (L:=r+1) (b:=300) (p:=fun i=>n+i) (Γ:=Zbg (n+r) (ptG u)) (G':=ptG s) (R:=ZbM (n+r) (Z1 u)) (R':=Z1 s) (by omega) (by omega) (by decide) (fun i hi=>by omega) (fun i j _ _ h=>by omega) (fun t _=>ZsA ZdJ t) ZdJ (fun t _=>ZsB (by decide) (fun t ht=>⟨ZaR,(bu t ht).mono (by decide)⟩) t) (fun t ht=>⟨ZaR,(bs t ht).mono (by decide)⟩)
 have m:=hl.2 0 (by omega)
 have e0:ZbM (n+r) (Z1 u) (n+0)=(0,u (n+0)):=by unfold ZbM;rw[if_pos (by omega)];rfl
 rw[e0,us]at m
 have hn0:=ZAx (fun q=>hs q.symm) m
 have eT:L0=.none:=by
  rcases hT with⟨h,_⟩ | ⟨_,h⟩
  ·exact h
  ·exact absurd hn0 (h (n+0) (by omega))
 subst eT
 exact ZqX (m:=n+r) rfl hX (by omega) (by omega) ⟨_,_,_,rfl⟩ h1 h2 e3 ZvI Zu3
end
end L
namespace L
open PySem PM TM
variable {n:Nat} {x:Nat→Int}
theorem Zzf{ns:List Int}(hL:Lay ns)(hn:n≤4)(bx:∀i,i<n→Bd 140 (x i)): Pk (Zi0 [scr ns,.int 25,Zav n x]) fun t=>∃c,(∀i,i<n+1→Bd 300 (c i))∧ClT n c t:=by
 unfold Zi0 ZmS Zav
 walk_at "z"
 refine(Zp9 (n:=n) (kk:=25) (by decide) (by decide) hL (by omega)).mono ?_
 rintro _ ⟨c0,rfl,hc⟩
 have bc:=hc.bd (by decide)
 have hv:=ZjM (n:=n) (b:=140) (c:=c0) (x:=x) (by omega) (by decide) bc bx
 have bv:=(ZgI bc bx n (Zz10 n)).mono (show 140+140+n≤285 by omega)
 obtain⟨z0,z1⟩:=Zcz ns (25+4) (show(0:Int)<90 by decide)
 have hpk:=ZcA (ns:=ns) (k:=25+4) (many:=90) (by decide) (by decide) (by decide)
 generalize Zbj ns (25+4) 90=wy at *
 walk_at "z"
 refine Pk.of hpk ?_
 refine Zez (fun σ'=>σ' 4=some (.int wy)∧∃c,σ' 3=some (ZM n c)∧∀i,i<n+1→Bd 300 (c i)) ?_ ?_
 ·walk_at "z"
  refine⟨fun q=>?_,fun q=>?_⟩
  ·have hs:ZM n c0=.lst (tab (n+1) fun k=>.int (c0 k)):=rfl
   rw[hs]at hv ⊢
   walk_at "z"
   refine Pk.of hv ?_
   walk_at "z"
   have w5:0≤wy.fmod 5∧wy.fmod 5<5:=⟨Int.fmod_nonneg_of_pos _ (by decide),Int.fmod_lt_of_pos _ (by decide)⟩
   generalize wy.fmod 5=pp at *
   refine Zjt (n:=n+1) (f:=fun k=>.int (c0 k)) (by walk_at "r") (by omega) (by omega) ?_
   rw[show Int.toNat 0=0 from rfl]
   refine⟨by walk_at "r",fun k=>if k=0 then c0 0-ZJ c0 x n+pp-3 else c0 k,?_,fun i hi=>?_⟩
   ·rw[show(ZM n fun k=>if k=0 then c0 0-ZJ c0 x n+pp-3 else c0 k)=.lst (tab (n+1) fun k=>if k=0 then T.int (c0 0-ZJ c0 x n+pp-3)else .int (c0 k))from congrArg T.lst (ZaS fun k _=>by show T.int (if k=0 then _ else _)=_;split <;> rfl)]
    walk_at "r"
   ·show Bd 300 (if i=0 then _ else _)
    split
    ·have h1:Bd 286 (pp-3):=(show Bd 3 (pp-3)by unfold Bd;omega).mono (by decide)
     have h2:=((bc 0 (by omega)).mono (show 140≤285 by decide)).sub bv
     rw[show c0 0-ZJ c0 x n+pp-3=c0 0-ZJ c0 x n+(pp-3)by omega]
     exact(h2.add h1).mono (by decide)
    ·exact(bc i hi).mono (by decide)
  ·walk_at "z"
   exact⟨by walk_at "r",c0,by walk_at "r",fun i hi=>(bc i hi).mono (by decide)⟩
 rintro σ1 ⟨e4,c,e3,bc'⟩
 walk_at "z"
 refine ZcV (by decide) (ZhB (by decide) (by decide)) ?_
 walk_at "z"
 refine⟨fun q=>?_,fun q=>?_⟩
 ·walk_at "z"
  exact⟨c,bc',.inl rfl⟩
 walk_at "z"
 refine ZcV (by decide) (ZhB (by decide) (by decide)) ?_
 walk_at "z"
 refine⟨fun q=>?_,fun q=>?_⟩
 ·walk_at "z"
  exact⟨c,bc',.inr (.inl rfl)⟩
 walk_at "z"
 refine ZcV (by decide) (ZhB (by decide) (by decide)) ?_
 walk_at "z"
 have w2:0≤wy.fdiv 15∧wy.fdiv 15≤6:=by rw[Int.fdiv_eq_ediv_of_nonneg _ (by decide)];omega
 exact⟨c,bc',.inr (.inr ⟨1+wy.fdiv 15,by omega,(show Bd 4 (1+wy.fdiv 15)by unfold Bd;omega).mono (by decide),rfl⟩)⟩
theorem Zr3(hn:n≤60): Zhg [Zav n x]=some (Zs n (ptG x) (Z1 x)):=by
 apply Pk.eq
 unfold Zhg ZmU Zav
 walk_at "z"
 rw[ZsY]
 refine Zc8 (n:=n+1) (a:=fun i=>.int (Zaj x i)) (P:=fun k σ=>σ 0=some (.lst (tab n fun i=>.int (x i)))∧σ 1=some (.lst (tab (n+1) fun i=>.int (Zaj x i)))∧σ 2=some (.lst (tab k fun i=>Zay (n+1) (ptG x i)))) ?_ ⟨by walk_at "r",by walk_at "r",by walk_at "r"⟩ ?_ ?_
 ·walk_at "z"
  rfl
 ·rintro k σ hk ⟨e0,e1,e2⟩
  walk_at "z"
  refine Zbv (n:=n+1) (a:=fun i=>.int (Zaj x i)) (b:=fun j=>.int (Zaj x k-Zaj x j)) (by omega) ?_ (fun i hi=>?_) ?_
  ·walk_at "z"
   rfl
  ·walk_at "z"
   rfl
  ·refine AppP.of e2 (by rw[Zap];omega) ⟨by walk_at "r",by walk_at "r",?_⟩
   rw[←Zd3 (n:=k) (f:=fun i=>Zay (n+1) (ptG x i))]
   exact Zcb
 ·rintro σ ⟨e0,e1,e2⟩
  walk_at "z"
  refine Zbv (n:=n) (a:=fun i=>.int (x i)) (b:=fun j=>.tup [.int 0,.int (x j)]) (by omega) ?_ (fun i hi=>?_) ?_
  ·walk_at "z"
   rfl
  ·walk_at "z"
   rfl
  ·walk_at "z"
   rfl
theorem Ztu{X:Nat}{v:Int}(hX:X<n)(hn:n≤60): Zdf [Zav n x,.int ((X:Int)+1),.int v]=some (Zav n (ZaM x X v)):=ZvT hX (by omega)
theorem ZwI{T0 A S0 sc:T}(hn:n≤60)(p:Pln 3 T0)(k:Ze5 [T0]=some T0)(h:Zbb [T0,A,S0]=some (Zs n (ptG x) (Z1 x))): Zcw [sc,T0,A,S0,Zav n x]=some (.bool true):=by
 have hp:=Zr3 (x:=x) hn
 have hs:Ze7 [Zs n (ptG x) (Z1 x),Zs n (ptG x) (Z1 x)]=some (.bool true):=Zul (by omega) ZdR ZdJ
 have hne:∀{Q:T→Prop},Q (.bool true)→Pk (Zb4 (Zav n x) .none) Q:=fun h=>⟨_,rfl,h⟩
 apply Pk.eq
 unfold Zcw Zit
 generalize Zs n (ptG x) (Z1 x)=D at *
 generalize Zav n x=B at *
 walk_at "z"
 refine hne ?_
 walk_at "z"
 refine Pk.of hp ?_
 walk_at "z"
 refine Pk.of k ?_
 walk_at "z"
 refine Pk.of h ?_
 walk_at "z"
 refine Pk.of hs ?_
 walk_at "z"
 refine ZbT (n:=3) p p ?_
 rw[ZaI rfl]
theorem ZxI{T0 A S0 sc:T}(p:Pln 3 T0)(k:Ze5 [T0]=some T0)(h:Zbb [T0,A,S0]=some .none): Zcw [sc,T0,A,S0,.none]=some (.bool true):=by
 apply Pk.eq
 unfold Zcw Zit
 walk_at "z"
 refine Pk.of k ?_
 walk_at "z"
 refine Pk.of h ?_
 walk_at "z"
 refine Pk.of Zuk ?_
 walk_at "z"
 refine ZbT (n:=3) p p ?_
 rw[ZaI rfl]
end L
namespace L
open PySem PM TM
variable {b n:Nat} {G:Nat→Nat→Option Int} {R:Nat→Int×Int} {x:Nat→Int}
theorem ZxJ{a:Nat}{v:Option Int}(ha:a<n+1)(hb:b<n+1): Zdr (ZgQ (b:Int) (oT v)) [0,(a:Int)] (Zs n G R)=some (Zs n (ZaF G a b v) R):=by
 rw[show Zs n (ZaF G a b v) R=.tup [Z8 (n+1) (ZaF G a b v),Zbd n R]from rfl,←ZpQ]
 unfold Zs Z8 Zay
 simp only[Zdr,List.length_cons,List.length_nil,Zap,ZfJ (show(0:Int)≤0 by decide) (show(0:Int)<((0+1+1:Nat):Int)by decide),ZfJ (show(0:Int)≤(a:Int)by omega) (show(a:Int)<((n+1:Nat):Int)by omega),Option.bind_some,Int.toNat_zero,Int.toNat_natCast,List.getElem?_cons_zero,Za7 ha,ZgQ]
 rw[if_pos ⟨by omega,by omega⟩]
 simp only[Option.map_some,List.set_cons_zero,Int.toNat_natCast]
 rw[Zd4,Zd4]
 congr 4
 refine ZaS fun i _=>?_
 by_cases q:i=a
 ·subst q;simp
 ·simp[q]
theorem ZsL{σ:TL}{x a:Nat}{P:T→Prop}{N:TL→Prop}{v:Option Int}{f i j:PE}(e:σ x=some (Zs n G R))(ef:f σ=some (oT v))(ei:i σ=some (.int a))(ej:j σ=some (.int b))(ha:a<n+1)(hb:b<n+1)(h:N (Z7 σ x (Zs n (ZaF G a b v) R))): Psk (Zbi x [] f (ZcU (ZcU ZaQ (Zj 0)) i) j σ) P N:=by
 refine⟨none,_,?_,by simp,fun _=>h⟩
 simp only[Zbi,ZaQ,ZcU,Zj,Option.bind_some,e,ef,ei,ej,List.nil_append,List.cons_append,ZxJ ha hb,Option.map_some,Zjs]
theorem ZxK{A:PS}{ts:List T}{Q:T→Prop}(hn:ts.length=n)(h:Psk (A fun i=>ts[i]?) (fun _=>False) fun σ=>∃t,σ 0=some t∧Q t): Pk (Zdv n (Zw A (ZF (Zb 0))) ts) Q:=by
 obtain⟨r,σ,e,h1,h2⟩:=h
 cases r with
 | some v=>exact absurd (h1 v rfl) id
 | none=>
  obtain⟨t,e0,q⟩:=h2 rfl
  refine⟨t,?_,q⟩
  unfold Zdv
  rw[if_pos hn]
  simp only[Zw,e,Option.bind_some,ZF,Zb,e0,Option.map_some]
noncomputable def tgG(G:Nat→Nat→Option Int)(x:Nat→Int): Nat→Nat→Nat→Option Int
 | 0=>G
 | k+1=>ZaF (ZaF (tgG G x k) (k+1) 0 (some (x k))) 0 (k+1) (some (-(x k)))
theorem ZxL(hn:n≤60): ZiZ [Zs n G R,Zav n x]=some (Zs n (tgG G x n) R):=by
 have hb:Zav n x=.lst (tab n fun i=>.int (x i)):=rfl
 apply Pk.eq
 unfold ZiZ ZmP
 refine ZxK rfl ?_
 rw[hb]
 refine Zc8 (n:=n) (a:=fun i=>.int (i:Nat)) (P:=fun k σ=>σ 0=some (Zs n (tgG G x k) R)∧σ 1=some (.lst (tab n fun i=>.int (x i)))) ?_ ⟨rfl,rfl⟩ ?_ ?_
 ·walk_at "z"
  rfl
 ·rintro k σ hk ⟨e0,e1⟩
  have i1:∀σ':TL,σ' 1=some (.lst (tab n fun i=>.int (x i)))→σ' 2=some (.int (k:Nat))→Zh Zv (Zb 1) (Zb 2) σ'=some (.int (x k))∧Zh Zab (Zb 2) (Zj 1) σ'=some (.int ((k+1:Nat):Int)):=fun σ' a b=>by
   constructor
   ·apply Pk.eq
    walk_at "z"
    rfl
   ·apply Pk.eq
    walk_at "z"
    rfl
  refine ZpD ?_
  obtain⟨j1,j2⟩:=i1 (Z7 σ 2 (.int (k:Nat))) (by walk_at "r") (by walk_at "r")
  refine ZsL (n:=n) (a:=k+1) (b:=0) (v:=some (x k)) (G:=tgG G x k) (R:=R) (by walk_at "r") (by simp only[ZbV,j1];rfl) j2 rfl (by omega) (by omega) ?_
  obtain⟨j3,j4⟩:=i1 (Z7 (Z7 σ 2 (.int (k:Nat))) 0 (Zs n (ZaF (tgG G x k) (k+1) 0 (some (x k))) R)) (by walk_at "r") (by walk_at "r")
  refine ZsL (n:=n) (a:=0) (b:=k+1) (v:=some (-(x k))) (G:=ZaF (tgG G x k) (k+1) 0 (some (x k))) (R:=R) (by walk_at "r") (by simp only[pUn,j3];rfl) rfl j4 (by omega) (by omega) ?_
  exact⟨by walk_at "r",by walk_at "r"⟩
 ·rintro σ ⟨e0,e1⟩
  exact⟨_,e0,rfl⟩
theorem ZgO{G:Nat→Nat→Option Int}{x:Nat→Int}{a b:Nat}: ∀k,tgG G x k a b=if b=0∧1≤a∧a≤k then some (x (a-1))else if a=0∧1≤b∧b≤k then some (-(x (b-1)))else G a b
 | 0=>by rw[if_neg (by omega),if_neg (by omega)];rfl
 | k+1=>by
  show ZaF (ZaF (tgG G x k) (k+1) 0 (some (x k))) 0 (k+1) (some (-(x k))) a b=_
  unfold ZaF
  by_cases h1:a=0∧b=k+1
  ·rw[if_pos h1,if_neg (by omega),if_pos (by omega),h1.2,Nat.add_sub_cancel]
  ·rw[if_neg h1]
   by_cases h2:a=k+1∧b=0
   ·rw[if_pos h2,if_pos (by omega),h2.1,Nat.add_sub_cancel]
   ·rw[if_neg h2,ZgO k]
    by_cases h3:b=0∧1≤a∧a≤k
    ·rw[if_pos h3,if_pos (by omega)]
    ·by_cases h4:a=0∧1≤b∧b≤k
     ·rw[if_neg h3,if_pos h4,if_neg (by omega),if_pos (by omega)]
     ·rw[if_neg h3,if_neg h4,if_neg (by omega),if_neg (by omega)]
theorem ZxM: Tight n (tgG G x n) x:=fun t ht=>by
 rw[ZgO,ZgO,if_pos (by omega),if_neg (by omega),if_pos (by omega),Nat.add_sub_cancel]
 exact⟨Zbu,Zbu⟩
theorem ZBf(hd:∀i,i<n+1→G i i=some 0): ∀i,i<n+1→tgG G x n i i=some 0:=fun i hi=>by
 rw[ZgO,if_neg (by omega),if_neg (by omega),hd i hi]
theorem Zzg(l:Zar n G R x): Zar n (tgG G x n) R x:=⟨fun i j hi hj y e=>by
 rw[ZgO]at e
 by_cases h3:j=0∧1≤i∧i≤n
 ·rw[if_pos h3]at e
  cases e
  obtain⟨t,rfl⟩:∃t,i=t+1:=⟨i-1,by omega⟩
  rw[h3.1]
  show x t-0≤x (t+1-1)
  rw[Nat.add_sub_cancel]
  omega
 ·rw[if_neg h3]at e
  by_cases h4:i=0∧1≤j∧j≤n
  ·rw[if_pos h4]at e
   cases e
   obtain⟨t,rfl⟩:∃t,j=t+1:=⟨j-1,by omega⟩
   rw[h4.1]
   show 0-x t≤-(x (t+1-1))
   rw[Nat.add_sub_cancel]
   omega
  ·rw[if_neg h4]at e
   exact l.1 i j hi hj y e,l.2⟩
theorem ZA4(h:GB b n G)(bx:∀t,t<n→Bd b (x t)): GB b n (tgG G x n):=fun i j hi hj y e=>by
 rw[ZgO]at e
 split at e
 ·cases e;exact bx _ (by omega)
 ·split at e
  ·cases e
   have:=bx (j-1) (by omega)
   unfold Bd at *
   omega
  ·exact h i j hi hj y e
end L
namespace L
open PySem PM TM
def ZA5(n:Nat)(x:Nat→Int)(A:T)(y:Nat→Int): Prop:=∀T0 S0,ZaK [T0]=some (Zs n (ptG x) (Z1 x))→Zbb [T0,A,S0]=some (Zs n (ptG y) (Z1 y))
theorem ZAy{ns:List Int}{n X:Nat}{x:Nat→Int}(hL:Lay ns)(hn:n≤4)(hX:X<n)(bx:∀i,i<n→Bd 140 (x i)): Pk (Zjk [scr ns,Zav n x,.int ((X:Int)+1)]) fun t=>∃A v,t=.tup [A,Zav n (ZaM x X v)]∧ZA5 n x A (ZaM x X v):=by
 have hl:∀{Q:T→Prop},Q (.int n)→Pk (Zaz [Zav n x]) Q:=fun h=>by
  unfold Zav
  walk_at "z"
  exact h
 have hp:∀v,Zdf [Zav n x,.int ((X:Int)+1),.int v]=some (Zav n (ZaM x X v)):=fun v=>Ztu hX (by omega)
 have hv:∀c,(∀i,i<n+1→Bd 140 (c i))→ZcF [ZM n c,Zav n x]=some (.int (ZJ c x n)):=fun c bc=>ZjM (b:=140) (by omega) (by decide) bc bx
 unfold Zjk ZnN
 generalize hB:Zav n x=B at *
 walk_at "z"
 refine hl ?_
 walk_at "z"
 refine(Zp9 (n:=n) (kk:=7) (by decide) (by decide) hL (by omega)).mono ?_
 rintro _ ⟨c,rfl,hc⟩
 have bc:=hc.bd (by decide)
 have hs:ZM n c=.lst (tab (n+1) fun k=>.int (c k)):=rfl
 have hq0:∀{Q:T→Prop},Q (.int (c 0))→Pk (Zv (ZM n c) (.int 0)) Q:=fun h=>by
  rw[hs]
  walk_at "z"
  exact h
 have hvc:=hv c bc
 generalize hS:ZM n c=S at *
 obtain⟨s0,s1⟩:=Zcz ns 12 (show(0:Int)<6 by decide)
 have bn:=ZhV ns 12
 walk_at "z"
 refine Pk.of (ZcA (by decide) (by decide) (by decide)) ?_
 refine Zkg ?_
 refine Zez (fun σ'=>σ' 0=some (scr ns)∧σ' 1=some B∧σ' 2=some (.int ((X:Int)+1))∧σ' 3=some S∧∃d:Int,σ' 4=some (.int d)∧0<d∧Bd 140 d) ?_ ?_
 ·walk_at "z"
  refine Pk.of (ZcA (by decide) (by decide) (by decide)) ?_
  walk_at "z"
  refine⟨fun q=>?_,fun q=>?_⟩
  ·walk_at "z"
   refine Pk.of (Zgr hL (by omega) (by omega)) ?_
   walk_at "z"
   refine⟨by walk_at "r",by walk_at "r",by walk_at "r",by walk_at "r",_,Zcb,?_,?_⟩
   ·split <;> omega
   ·have b2:Bd 134 (Zca ns 12):=bn
    have b3:Bd 140 (Zca ns 12):=b2.mono (by decide)
    repeat' split
    all_goals (unfold Bd at *;omega)
  ·walk_at "z"
   exact⟨by walk_at "r",by walk_at "r",by walk_at "r",by walk_at "r",_,by walk_at "r",by omega,(show Bd 3 _ by unfold Bd;omega).mono (by decide)⟩
 rintro σ1 ⟨e0,e1,e2,e3,d,e4,hd0,bd⟩
 subst hS
 walk_at "z"
 refine Pk.of hvc ?_
 walk_at "z"
 refine Pk.of (ZcA (by decide) (by decide) (by decide)) ?_
 obtain⟨w0,w1⟩:=Zcz ns 5 (show(0:Int)<5 by decide)
 generalize Zbj ns 5 5=wy at *
 walk_at "z"
 refine⟨fun q=>?_,fun q=>?_⟩
 ·walk_at "z"
  refine hq0 ?_
  walk_at "z"
  refine hq0 ?_
  walk_at "z"
  refine hq0 ?_
  walk_at "z"
  refine Pk.of (hp _) ?_
  walk_at "z"
  exact⟨_,c 0,rfl,fun T0 S0 h=>Zvb (s:=(some (c 0),some (c 0))) h (ZAv hn hX bx (bc 0 (by omega)))⟩
 walk_at "z"
 refine⟨fun q=>?_,fun q=>?_⟩
 ·walk_at "z"
  refine ZcV (by omega) (ZeL bd (by decide)) ?_
  walk_at "z"
  refine Pk.of (hp _) ?_
  walk_at "z"
  exact⟨_,_,rfl,fun T0 S0 h=>ZuE h (Zth hn hX bx bc hd0 bd (.inl ⟨rfl,rfl⟩))⟩
 walk_at "z"
 refine⟨fun q=>?_,fun q=>?_⟩
 ·walk_at "z"
  refine Pk.of (hp _) ?_
  walk_at "z"
  exact⟨_,_,rfl,fun T0 S0 h=>ZuF h (Zth hn hX bx bc hd0 bd (.inr ⟨rfl,rfl⟩))⟩
 walk_at "z"
 refine Pk.of (hp _) ?_
 walk_at "z"
 exact⟨_,_,rfl,fun T0 S0 h=>Zva h (ZAu hn hX bx bc)⟩
end L
namespace L
open PySem PM TM
theorem ZAz{ns:List Int}{n X:Nat}{x:Nat→Int}(hL:Lay ns)(hn:n≤4)(hX:X<n)(bx:∀i,i<n→Bd 140 (x i)): Pk (Zjl [scr ns,Zav n x,.int ((X:Int)+1)]) fun t=>∃A due S0,t=.tup [A,due,S0]∧∀T0,ZaK [T0]=some (Zs n (ptG x) (Z1 x))→(∃y,due=Zav n y∧Zbb [T0,A,S0]=some (Zs n (ptG y) (Z1 y)))∨(due=.none∧Zbb [T0,A,S0]=some .none):=by
 have hl:∀{Q:T→Prop},Q (.int n)→Pk (Zaz [Zav n x]) Q:=fun h=>by
  unfold Zav
  walk_at "z"
  exact h
 have hp:∀v,Zdf [Zav n x,.int ((X:Int)+1),.int v]=some (Zav n (ZaM x X v)):=fun v=>Ztu hX (by omega)
 have hv:∀c,(∀i,i<n+1→Bd 140 (c i))→ZcF [ZM n c,Zav n x]=some (.int (ZJ c x n)):=fun c bc=>ZjM (b:=140) (by omega) (by decide) bc bx
 unfold Zjl ZnQ
 generalize hB:Zav n x=B at *
 obtain⟨p0,p1⟩:=Zcz ns 22 (show(0:Int)<4 by decide)
 obtain⟨w,ew,hw⟩:=ZpR p0 (show Zbj ns 22 4<(4:Nat)by omega)
 obtain⟨r,hr,hidx⟩:∃r:Nat,r≤4∧[T.int 0,.int 1,.int 1,.int 2][w]?=some (.int r):=by
  match w,hw with
  | 0,_=>exact⟨0,by decide,rfl⟩
  | 1,_=>exact⟨1,by decide,rfl⟩
  | 2,_=>exact⟨1,by decide,rfl⟩
  | 3,_=>exact⟨2,by decide,rfl⟩
 walk_at "z"
 refine Zrp (n:=r) (a:=fun i=>.int i) (ZM n) (fun _ c=>SumB n c 1000000000) (by omega) ?_ (fun t ht=>?_) (fun _=>0) fun C hC=>?_
 ·walk_at "z"
  refine Pk.of (ZcA (by decide) (by decide) (by decide)) ?_
  rw[ew]
  refine ZhR (t:=.int r) (by omega) (by rw[Int.toNat_natCast];exact hidx) ?_
  walk_at "z"
  rfl
 ·walk_at "z"
  refine Zd6 (by omega) (by omega) ?_
  walk_at "z"
  refine hl ?_
  walk_at "z"
  exact Zp9 (by omega) (by omega) hL (by omega)
 have hCB:CB 140 n r C:=fun i hi k hk=>(hC i hi).bd (by decide) k hk
 have bv:∀i,i<r→Bd 285 (ZJ (C i) x n):=fun i hi=>(ZgI (hCB i hi) bx n (Zz10 n)).mono (by omega)
 walk_at "z"
 refine Zbv (n:=r) (a:=fun i=>ZM n (C i)) (b:=fun i=>.int (ZJ (C i) x n)) (by omega) ?_ (fun i hi=>?_) ?_
 ·walk_at "z"
  rfl
 ·walk_at "z"
  refine Pk.of (hv _ (hCB i hi)) ?_
  walk_at "z"
  rfl
 have ba:Bd 290 (Zca ns 23):=(show Bd 134 _ from ZhV ns 23).mono (by decide)
 walk_at "z"
 refine Pk.of (Zgr hL (by decide) (by decide)) ?_
 generalize Zca ns 23=a at *
 walk_at "z"
 refine Pk.of (hp a) ?_
 refine Zez (fun σ'=>σ' 2=some (.int ((X:Int)+1))∧σ' 3=some (.lst (tab r fun i=>ZM n (C i)))∧σ' 5=some (.int a)∧∃(s:Nat→Int) (due:T),σ' 4=some (.lst (tab r fun i=>.int (s i)))∧σ' 6=some due∧(∀i,i<r→Bd 290 (s i))∧((due=Zav n (ZaM x X a)∧∀i,i<r→s i=ZJ (C i) x n)∨(due=.none∧0<r∧s 0≠ZJ (C 0) x n))) ?_ ?_
 ·have dflt:∀{σ:TL},σ 2=some (.int ((X:Int)+1))→σ 3=some (.lst (tab r fun i=>ZM n (C i)))→σ 5=some (.int a)→σ 4=some (.lst (tab r fun i=>.int (ZJ (C i) x n)))→σ 6=some (Zav n (ZaM x X a))→(σ 2=some (.int ((X:Int)+1))∧σ 3=some (.lst (tab r fun i=>ZM n (C i)))∧σ 5=some (.int a)∧∃(s:Nat→Int) (due:T),σ 4=some (.lst (tab r fun i=>.int (s i)))∧σ 6=some due∧(∀i,i<r→Bd 290 (s i))∧((due=Zav n (ZaM x X a)∧∀i,i<r→s i=ZJ (C i) x n)∨(due=.none∧0<r∧s 0≠ZJ (C 0) x n))):=fun f2 f3 f5 f4 f6=>⟨f2,f3,f5,_,_,f4,f6,fun i hi=>(bv i hi).mono (by decide),.inl ⟨rfl,fun _ _=>rfl⟩⟩
  walk_at "z"
  refine⟨fun q1=>?_,fun q1=>?_⟩
  ·have h0:0<r:=by have:=of_decide_eq_true q1;omega
   walk_at "z"
   refine Pk.of (ZcA (by decide) (by decide) (by decide)) ?_
   walk_at "z"
   refine⟨fun q=>?_,fun q=>?_⟩
   ·walk_at "z"
    refine Zjt (n:=r) (f:=fun i=>.int (ZJ (C i) x n)) (by walk_at "r") (by omega) (by omega) ?_
    rw[show Int.toNat 0=0 from rfl]
    walk_at "z"
    refine⟨by walk_at "r",by walk_at "r",by walk_at "r",fun i=>if i=0 then ZJ (C 0) x n+1 else ZJ (C i) x n,.none,?_,by walk_at "r",fun i hi=>?_,.inr ⟨rfl,h0,?_⟩⟩
    ·rw[show(tab r fun i=>T.int (if i=0 then ZJ (C 0) x n+1 else ZJ (C i) x n))=tab r fun i=>if i=0 then T.int (ZJ (C 0) x n+1)else .int (ZJ (C i) x n)from ZaS fun k _=>by split <;> rfl]
     walk_at "r"
    ·show Bd 290 (if i=0 then _ else _)
     split
     ·exact((bv 0 h0).add ((show Bd 1 1 by unfold Bd;decide).mono (by decide))).mono (by decide)
     ·exact(bv i hi).mono (by decide)
    ·show(if 0=0 then _ else _)≠_
     rw[if_pos rfl]
     omega
   ·walk_at "z"
    exact dflt (by walk_at "r") (by walk_at "r") (by walk_at "r") (by walk_at "r") (by walk_at "r")
  ·walk_at "z"
   exact dflt (by walk_at "r") (by walk_at "r") (by walk_at "r") (by walk_at "r") (by walk_at "r")
 rintro σ1 ⟨e2,e3,e5,s,due,e4,e6,bs,hd⟩
 walk_at "z"
 refine Zd8 (by simp[tab];omega) ?_
 rw[ZvV]
 walk_at "z"
 refine Pk.of (Zr3 (n:=r+1) (x:=fun i=>if i<r then s i else a) (by omega)) ?_
 have bs2:∀t,t<r+1→Bd 290 ((fun i=>if i<r then s i else a) t):=fun t ht=>by
  show Bd 290 (if t<r then _ else _)
  split
  ·exact bs t (by assumption)
  ·exact ba
 have sr:(fun i=>if i<r then s i else a) r=a:=if_neg (by omega)
 have s1:∀t,t<r→(fun i=>if i<r then s i else a) t=s t:=fun t ht=>if_pos ht
 generalize (fun i=>if i<r then s i else a)=s' at *
 walk_at "z"
 refine⟨_,_,_,rfl,fun T0 h=>?_⟩
 have go:∀D,Zev [Zs n (ptG x) (Z1 x),.int ((X:Int)+1),Zbh n r C,Zs (r+1) (ptG s') (Z1 s')]=some D→Zbb [T0,.tup [.str (Str.ofString "call"),.int ((X:Int)+1),.int 1,.lst (tab r fun i=>ZM n (C i))],.lst [.none,Zs (r+1) (ptG s') (Z1 s')]]=some D:=fun D q=>ZuG (at_:=1) rfl h q
 rcases hd with⟨rfl,hs⟩ | ⟨rfl,h0,hs⟩
 ·refine .inl ⟨_,rfl,go _ ?_⟩
  have:=ZuH (s:=s') hX hn hr bx hCB bs2 fun t ht=>by rw[s1 t ht,hs t ht]
  rw[sr]at this
  exact this
 ·exact .inr ⟨rfl,go _ (Zvd hX hn hr bx hCB bs2 h0 (by rw[s1 0 h0];exact hs))⟩
end L
namespace L
open PySem PM TM
theorem ZxN{n:Nat}{G:Nat→Nat→Option Int}{R:Nat→Int×Int}{x:Nat→Int}(hn:n≤4)(hd:∀i,i<n+1→G i i=some 0)(ok:∀t,t<n→RestOk (R t))(l:Zar n G R x)(sG:SmG 137 n G)(sR:SmR 137 n R)(bx:∀t,t<n→Bd 137 (x t)): ZaK [Zs n (tgG G x n) R]=some (Zs n (ptG x) (Z1 x)):=by
 have hp:=Zos ok n (Zz10 n)
 have hb:Bd 560 (Zei R n):=(ZoX (k:=137) (by decide) (fun t ht=>(sR t ht).1) n (Zz10 n)).mono (by omega)
 refine ZjN (k:=560) (by omega) (by omega) hp hb (ZBf hd) (ZA4 (fun i j hi hj y e=>(show Bd 137 y from sG i j hi hj y e).mono (by decide)) fun t ht=>(bx t ht).mono (by decide)) (fun t ht=>⟨ok t ht,Zot n t ht,(show Bd 137 _ from(sR t ht).2).mono (by decide)⟩) ZxM (Zzg l)
theorem Zve{ns:List Int}(hL:Lay ns): ZoQ [scr ns]=some (.bool true):=by
 apply Pk.eq
 unfold ZoQ ZoP
 obtain⟨p0,p1⟩:=Zcz ns 0 (show(0:Int)<9 by decide)
 obtain⟨w,ew,hw⟩:=ZpR p0 (show Zbj ns 0 9<(9:Nat)by omega)
 walk_at "z"
 refine Pk.of (ZcA (by decide) (by decide) (by decide)) ?_
 rw[ew]
 obtain⟨n,h0,hn,hidx⟩:∃n:Nat,0<n∧n≤3∧[T.int 1,.int 2,.int 1,.int 2,.int 1,.int 2,.int 1,.int 2,.int 3][w]?=some (.int n):=by
  match w,hw with
  | 0,_=>exact⟨1,by decide,by decide,rfl⟩
  | 1,_=>exact⟨2,by decide,by decide,rfl⟩
  | 2,_=>exact⟨1,by decide,by decide,rfl⟩
  | 3,_=>exact⟨2,by decide,by decide,rfl⟩
  | 4,_=>exact⟨1,by decide,by decide,rfl⟩
  | 5,_=>exact⟨2,by decide,by decide,rfl⟩
  | 6,_=>exact⟨1,by decide,by decide,rfl⟩
  | 7,_=>exact⟨2,by decide,by decide,rfl⟩
  | 8,_=>exact⟨3,by decide,by decide,rfl⟩
 refine ZhR (t:=.int n) (by omega) (by rw[Int.toNat_natCast];exact hidx) ?_
 walk_at "z"
 refine Zbv (n:=n) (a:=fun i=>.int i) (b:=fun i=>.int (Zca ns (1+i))) (by omega) ?_ (fun t ht=>?_) ?_
 ·walk_at "z"
  rfl
 ·walk_at "z"
  exact Pk.of (Zgr hL (by omega) (by omega)) rfl
 generalize hx:(fun i:Nat=>Zca ns (1+i))=x
 have sx:∀i,i<n→(x i).natAbs<2 ^ 134:=fun i _=>by rw[←hx];exact ZhV ns _
 rw[show(fun i:Nat=>T.int (Zca ns (1+i)))=fun i=>T.int (x i)by rw[←hx]]
 have bx:∀i,i<n→Bd 140 (x i):=fun i hi=>Zcj (sx i hi) (by decide)
 walk_at "z"
 refine Pk.of (ZyE (x:=x) hL (by decide) (by decide) (by omega)) ?_
 have gd:=Zwv ns 30 n x
 have li:=Zwu ns 30 n x
 have smG:SmG 137 n (Zb6 ns 30 n x):=fun i j hi hj b e=>Zcj (Zxr sx i j hi hj b e) (by decide)
 have smR:SmR 137 n (ZfM ns 30 n x):=fun t ht=>⟨Zcj (ZrO (ns:=ns) (k:=30) sx t ht).1 (by decide),Zcj (ZrO (ns:=ns) (k:=30) sx t ht).2 (by decide)⟩
 generalize Zb6 ns 30 n x=G at *
 generalize ZfM ns 30 n x=R at *
 walk_at "z"
 rw[show(T.lst (tab n fun i=>T.int (x i)))=Zav n x from rfl]
 refine Pk.of (ZxL (by omega)) ?_
 have hs:=ZxN (x:=x) (by omega) gd.1 gd.2 li smG smR (fun t ht=>Zcj (sx t ht) (by decide))
 have p0:Pln 3 (Zs n (tgG G x n) R):=ZoF
 have hk:Ze5 [Zs n (tgG G x n) R]=some (Zs n (tgG G x n) R):=ZyF (by omega)
 generalize Zs n (tgG G x n) R=T0 at *
 have yes:∀A S0 y,Zbb [T0,A,S0]=some (Zs n (ptG y) (Z1 y))→Zcw [scr ns,T0,A,S0,Zav n y]=some (.bool true):=fun A S0 y h=>ZwI (by omega) p0 hk h
 have no:∀A S0,Zbb [T0,A,S0]=some .none→Zcw [scr ns,T0,A,S0,.none]=some (.bool true):=fun A S0 h=>ZxI p0 hk h
 have hl:∀{Q:T→Prop},Q (.int n)→Pk (Zaz [Zav n x]) Q:=fun h=>by
  unfold Zav
  walk_at "z"
  exact h
 have hv:∀c,(∀i,i<n+1→Bd 300 (c i))→ZcF [ZM n c,Zav n x]=some (.int (ZJ c x n)):=fun c bc=>ZjM (b:=300) (by omega) (by decide) bc (fun i hi=>(bx i hi).mono (by decide))
 have hcl:=Zzf (x:=x) hL (by omega) bx
 obtain⟨x0,x1⟩:=Zcz ns 4 (show(0:Int)<(n:Int)by omega)
 obtain⟨X,eX,hX⟩:=ZpR x0 (show Zbj ns 4 n<(n:Nat)by omega)
 have hst:=ZAy (x:=x) hL (by omega) hX bx
 have hca:=ZAz (x:=x) hL (by omega) hX bx
 have ygo:=yes _ (.lst []) x (ZvU hs)
 generalize hB:Zav n x=B at *
 walk_at "z"
 refine Pk.of ygo ?_
 walk_at "z"
 refine hcl.mono ?_
 rintro Cl ⟨c,bc,hC⟩
 have ysay:=yes (.tup [.str (Str.ofString "say"),Cl]) (.lst []) x (Zu9 hs)
 rw[hB]at ysay
 walk_at "z"
 refine Pk.of ysay ?_
 obtain⟨hb,hh,hw⟩:=Zzc (x:=x) (by omega) bx bc hC
 have hh2:ZdA [Cl,B]=some (.bool (hb (ZJ c x n))):=by rw[←hB];exact hh x _ (by rw[hB];exact hv c bc)
 generalize hb (ZJ c x n)=v at *
 have yw:∀b:Bool,v=b→Zcw [scr ns,T0,.tup [.str (Str.ofString "when"),Cl,.bool b],.lst [],B]=some (.bool true):=fun b e=>by
  have q:=hw b
  rw[if_pos e]at q
  rw[←hB]
  exact yes _ _ x (ZqJ hs q)
 have nw:∀b:Bool,v≠b→Zcw [scr ns,T0,.tup [.str (Str.ofString "when"),Cl,.bool b],.lst [],.none]=some (.bool true):=fun b e=>by
  have q:=hw b
  rw[if_neg e]at q
  exact no _ _ (ZqJ hs q)
 walk_at "z"
 refine Zyo (ts:=[.bool true,.bool false]) (P:=fun _ σ'=>σ' 0=some (scr ns)∧σ' 2=some B∧σ' 3=some T0∧σ' 4=some Cl) ?_ ⟨by walk_at "r",by walk_at "r",by walk_at "r",by walk_at "r"⟩ ?_ ?_
 ·walk_at "z"
  rfl
 ·rintro i t σ ht ⟨e0,e2,e3,e4⟩
  obtain⟨b,rfl⟩:∃b:Bool,t=.bool b:=by
   match i,ht with
   | 0,h=>exact⟨true,(Option.some.inj h).symm⟩
   | 1,h=>exact⟨false,(Option.some.inj h).symm⟩
  walk_at "z"
  refine Pk.of hh2 ?_
  walk_at "z"
  by_cases hr:v=b
  ·have e:(v == b)=true:=by simp[hr]
   rw[e]
   walk_at "z"
   refine Pk.of (yw b hr) ?_
   walk_at "z"
   exact⟨by walk_at "r",by walk_at "r",by walk_at "r",by walk_at "r"⟩
  ·have e:(v == b)=false:=by simp[hr]
   rw[e]
   walk_at "z"
   refine Pk.of (nw b hr) ?_
   walk_at "z"
   exact⟨by walk_at "r",by walk_at "r",by walk_at "r",by walk_at "r"⟩
 rintro σ1 ⟨e0,e2,e3,e4⟩
 walk_at "z"
 refine hl ?_
 walk_at "z"
 refine Pk.of (ZcA (by decide) (by decide) (by omega)) ?_
 rw[eX]
 refine Zkg ?_
 rw[Int.add_comm 1 (X:Int)]
 walk_at "z"
 refine hst.mono ?_
 rintro _ ⟨A,z,rfl,mk⟩
 have ya:=yes A (.lst []) _ (mk T0 (.lst []) hs)
 generalize Zav n (ZaM x X z)=B2 at *
 walk_at "z"
 refine hca.mono ?_
 rintro _ ⟨A2,due,S2,rfl,mk2⟩
 have yb:Zcw [scr ns,T0,A2,S2,due]=some (.bool true):=by
  rcases mk2 T0 hs with⟨y,rfl,q⟩ | ⟨rfl,q⟩
  ·exact yes _ _ y q
  ·exact no _ _ q
 walk_at "z"
 refine Pk.of ya ?_
 walk_at "z"
 exact Pk.of yb rfl
theorem ZuI{ns:List Int}(hlen:ns.length≤63)(hL:PyData.layable0 (.list (ns.map .int))=true): ∃H',ZrJ [.ref 0] [ns.map V.int]=some (.bool true,H'):=Zwg Zxn ns (Zve hL)
end L
end
section
open PySem PySem.W PyProof.Rows
namespace PySem.W.Fast
theorem tw5105673956185107153:True:=⟨⟩
theorem tw16968176118458789586:True:=⟨⟩
theorem tw1454219785156648487:True:=⟨⟩
theorem tw9497945907656264259:True:=⟨⟩
theorem tw316514102143019080:True:=⟨⟩
theorem tw1176975735165151067:True:=⟨⟩
theorem tw9515242367644423802:True:=⟨⟩
theorem tw13698048360955963301:True:=⟨⟩
theorem tw3528903376305711396:True:=⟨⟩
theorem tw14442895186254868694:True:=⟨⟩
theorem tw8860849082231704008:True:=⟨⟩
theorem tw550859730669387710:True:=⟨⟩
theorem tw4621932581444047675:True:=⟨⟩
theorem tw13402640891724300857:True:=⟨⟩
theorem tw14869557710840242666:True:=⟨⟩
theorem tw8629223137936558018:True:=⟨⟩
theorem tw17643754061406199020:True:=⟨⟩
theorem tw11187973929812520656:True:=⟨⟩
theorem tw4584130408075211490:True:=⟨⟩
theorem tw3018384756792678836:True:=⟨⟩
theorem tw3285859953031059425:True:=⟨⟩
theorem tw10667965978278278033:True:=⟨⟩
theorem tw15452572443179084588:True:=⟨⟩
theorem tw9156678896304099913:True:=⟨⟩
theorem tw15886500619415505586:True:=⟨⟩
theorem tw3520363519792060846:True:=⟨⟩
theorem tw1099786997935966427:True:=⟨⟩
theorem tw4419873286371483742:True:=⟨⟩
theorem tw4491058772748593153:True:=⟨⟩
theorem tw13436231055378572716:True:=⟨⟩
theorem tw11930311979851757478:True:=⟨⟩
theorem tw5055051069096525434:True:=⟨⟩
theorem tw15221209806709932071:True:=⟨⟩
theorem tw12798869161161681673:True:=⟨⟩
theorem tw10209164474934016114:True:=⟨⟩
theorem tw9774394379856643515:True:=⟨⟩
theorem tw2257529940240947247:True:=⟨⟩
theorem tw5891177449180782854:True:=⟨⟩
theorem tw12533650973541477374:True:=⟨⟩
theorem tw9840342860782594374:True:=⟨⟩
theorem tw3101917741504857134:True:=⟨⟩
theorem tw4359589691058243886:True:=⟨⟩
theorem tw14048895322960730393:True:=⟨⟩
theorem tw16002967266952078866:True:=⟨⟩
theorem tw17704188385166749297:True:=⟨⟩
theorem tw7523194637212750777:True:=⟨⟩
theorem tw4361700775904427359:True:=⟨⟩
theorem tw7498633149979677338:True:=⟨⟩
theorem tw15335523830956845186:True:=⟨⟩
theorem tw10299302589577801163:True:=⟨⟩
theorem tw9991952250452883065:True:=⟨⟩
theorem tw18188441679654595828:True:=⟨⟩
theorem tw15515405784836723652:True:=⟨⟩
theorem tw1913777049202361930:True:=⟨⟩
theorem tw9563574807059059695:True:=⟨⟩
theorem tw15348117752812372481:True:=⟨⟩
theorem tw9292651643026975300:True:=⟨⟩
theorem tw17624731456758155189:True:=⟨⟩
theorem tw11519117686961666697:True:=⟨⟩
theorem tw16932301668260661676:True:=⟨⟩
theorem tw4157206338815638501:True:=⟨⟩
theorem tw11630328935867623959:True:=⟨⟩
theorem tw5587826856885255690:True:=⟨⟩
theorem tw1349388230604553621:True:=⟨⟩
theorem tw6822529714786804032:True:=⟨⟩
theorem tw16915470645016011554:True:=⟨⟩
theorem tw16472409268878238316:True:=⟨⟩
theorem tw10700183255674453818:True:=⟨⟩
theorem tw8164005668110941744:True:=⟨⟩
theorem tw4961949625528378942:True:=⟨⟩
theorem tw4770949888891906500:True:=⟨⟩
theorem tw8981913638643619018:True:=⟨⟩
theorem tw3764688243253525356:True:=⟨⟩
theorem tw3139815972381352843:True:=⟨⟩
theorem tw13426244417702134072:True:=⟨⟩
theorem tw1462193419119380569:True:=⟨⟩
theorem tw5681066748535004433:True:=⟨⟩
theorem tw529536973988259948:True:=⟨⟩
theorem tw5958337225494893492:True:=⟨⟩
theorem tw1191315250883676292:True:=⟨⟩
theorem tw1906743188756502811:True:=⟨⟩
theorem tw7875376050956498882:True:=⟨⟩
theorem tw8426798971799828003:True:=⟨⟩
theorem tw10335527622381539264:True:=⟨⟩
theorem tw2215426274937266770:True:=⟨⟩
theorem tw14501001857826371202:True:=⟨⟩
theorem tw17925384258215065573:True:=⟨⟩
theorem tw4026151001005817321:True:=⟨⟩
theorem tw5030944203280556702:True:=⟨⟩
theorem tw13517250619966689955:True:=⟨⟩
theorem tw16539199913488330184:True:=⟨⟩
theorem tw9435018134839604537:True:=⟨⟩
theorem tw16131593051203169754:True:=⟨⟩
theorem tw8933567498414919238:True:=⟨⟩
theorem tw7492102371377302679:True:=⟨⟩
theorem tw5623994078177797194:True:=⟨⟩
theorem tw14191745827877185554:True:=⟨⟩
theorem tw5312734613080425828:True:=⟨⟩
theorem tw10155365746132046468:True:=⟨⟩
theorem tw16364373167927100580:True:=⟨⟩
theorem tw6548945272714408661:True:=⟨⟩
theorem tw14613296582639449008:True:=⟨⟩
theorem tw12018387782679925087:True:=⟨⟩
theorem tw4097071322456330496:True:=⟨⟩
theorem tw16745343075639119971:True:=⟨⟩
theorem tw16749348522385944071:True:=⟨⟩
theorem tw10561106145012299093:True:=⟨⟩
theorem tw12027893231959348502:True:=⟨⟩
theorem tw140247042037892190:True:=⟨⟩
theorem tw12996339429388188178:True:=⟨⟩
theorem tw2283480497557504744:True:=⟨⟩
theorem tw69414778264802052:True:=⟨⟩
theorem tw16550838102048051623:True:=⟨⟩
theorem tw7537285074954141530:True:=⟨⟩
theorem tw7215932318001415403:True:=⟨⟩
theorem tw12300527617525357084:True:=⟨⟩
theorem tw6285040191614719466:True:=⟨⟩
theorem tw734138898119960010:True:=⟨⟩
theorem tw3172541193896328996:True:=⟨⟩
theorem tw4843473975253519250:True:=⟨⟩
theorem tw16172578528114110199:True:=⟨⟩
theorem tw6012122021747098740:True:=⟨⟩
theorem tw16459021049253542911:True:=⟨⟩
theorem tw3307598998989760257:True:=⟨⟩
theorem tw11309342325655673037:True:=⟨⟩
theorem tw1541540961381408409:True:=⟨⟩
theorem tw15248526436251307398:True:=⟨⟩
theorem tw8789256864460932259:True:=⟨⟩
theorem tw15622835117965313283:True:=⟨⟩
theorem tw5388663596951873645:True:=⟨⟩
theorem tw11849525312028181438:True:=⟨⟩
theorem tw10785849952161257653:True:=⟨⟩
theorem tw8018341471551460276:True:=⟨⟩
theorem tw569269584081339442:True:=⟨⟩
theorem tw15943592676296772274:True:=⟨⟩
theorem tw7317576523658780031:True:=⟨⟩
theorem tw16317983856663788926:True:=⟨⟩
theorem tw8621301723031713458:True:=⟨⟩
theorem tw10635065575864489283:True:=⟨⟩
theorem tw17312996333117680517:True:=⟨⟩
theorem tw4248988804066548162:True:=⟨⟩
theorem tw12068798485007620914:True:=⟨⟩
theorem tw7363425622247834253:True:=⟨⟩
theorem tw17287205074728517176:True:=⟨⟩
theorem tw12941643214049860704:True:=⟨⟩
theorem tw13056512690104125533:True:=⟨⟩
theorem tw11418939547134857076:True:=⟨⟩
theorem tw3638187344944282256:True:=⟨⟩
theorem tw3094701115853657799:True:=⟨⟩
theorem tw13197444509695450237:True:=⟨⟩
theorem tw1385777081429181588:True:=⟨⟩
theorem tw14649280657103391569:True:=⟨⟩
theorem tw16279701975793424917:True:=⟨⟩
theorem tw4179031660912777645:True:=⟨⟩
theorem tw9597476570122768466:True:=⟨⟩
theorem tw305048472116853797:True:=⟨⟩
theorem tw371976131940695897:True:=⟨⟩
theorem tw3857615796733700780:True:=⟨⟩
theorem tw15508019666092448443:True:=⟨⟩
theorem tw804092199982636349:True:=⟨⟩
theorem tw2944391684731814369:True:=⟨⟩
theorem tw14326666937008165477:True:=⟨⟩
theorem tw13829591483307370896:True:=⟨⟩
theorem tw2133357390318303931:True:=⟨⟩
theorem tw17969941481158815411:True:=⟨⟩
theorem tw16469568281967520401:True:=⟨⟩
theorem tw15213048550514571353:True:=⟨⟩
theorem tw16525585646549488262:True:=⟨⟩
theorem tw2451202640524662777:True:=⟨⟩
theorem tw17427895641331663283:True:=⟨⟩
theorem tw6459200953577825518:True:=⟨⟩
theorem tw4033379813872489195:True:=⟨⟩
theorem tw14712817762504950641:True:=⟨⟩
theorem tw8903238766108814736:True:=⟨⟩
theorem tw8181798732573668865:True:=⟨⟩
theorem tw539595736760451978:True:=⟨⟩
theorem tw11622863634709415212:True:=⟨⟩
theorem tw11636702290074901078:True:=⟨⟩
theorem tw7610715734942229976:True:=⟨⟩
theorem tw13478877428745155630:True:=⟨⟩
theorem tw1820406046763328738:True:=⟨⟩
theorem tw3103751414666246812:True:=⟨⟩
theorem tw6708892414054319099:True:=⟨⟩
theorem tw6807009207803952845:True:=⟨⟩
theorem tw13319170342346483122:True:=⟨⟩
theorem tw15382044423783582273:True:=⟨⟩
theorem tw10097012582147076362:True:=⟨⟩
theorem tw1147522009701800784:True:=⟨⟩
theorem tw17721039672839981703:True:=⟨⟩
theorem tw112567504061534027:True:=⟨⟩
theorem tw9192171586001469603:True:=⟨⟩
theorem tw9359623039629485964:True:=⟨⟩
theorem tw14846608996346228861:True:=⟨⟩
theorem tw9455475090630465045:True:=⟨⟩
theorem tw8646929664414959583:True:=⟨⟩
theorem tw2766794811542550618:True:=⟨⟩
theorem tw17004574920194074796:True:=⟨⟩
theorem tw7825248364748044718:True:=⟨⟩
theorem tw358491328311820773:True:=⟨⟩
theorem tw1880258362356491002:True:=⟨⟩
theorem tw17845374550828520631:True:=⟨⟩
theorem tw17619882183920601743:True:=⟨⟩
theorem tw14439765378166140033:True:=⟨⟩
theorem tw8454840944936950519:True:=⟨⟩
theorem tw10752687858943698738:True:=⟨⟩
theorem tw9629638568524466495:True:=⟨⟩
theorem tw7470021291188754609:True:=⟨⟩
theorem tw16629561534657121264:True:=⟨⟩
theorem tw13884827974113296321:True:=⟨⟩
theorem tw7586693836618795562:True:=⟨⟩
theorem tw12059592832596718669:True:=⟨⟩
theorem tw5420646709462680085:True:=⟨⟩
theorem tw7249538410202319208:True:=⟨⟩
theorem tw16118103595353321548:True:=⟨⟩
theorem tw11712190458185945011:True:=⟨⟩
theorem tw10746989603658154836:True:=⟨⟩
theorem tw15210816241431372910:True:=⟨⟩
theorem tw11905978938385298303:True:=⟨⟩
theorem tw10762484250532422250:True:=⟨⟩
theorem tw13231743877010270464:True:=⟨⟩
theorem tw4733640183689119296:True:=⟨⟩
theorem tw15734334760007649912:True:=⟨⟩
theorem tw15069716523494295500:True:=⟨⟩
theorem tw14678158920106854735:True:=⟨⟩
theorem tw14790834132378566595:True:=⟨⟩
theorem tw8839083969933755074:True:=⟨⟩
theorem tw5089109622011424599:True:=⟨⟩
theorem tw13148303815899264127:True:=⟨⟩
theorem tw5047655472420816975:True:=⟨⟩
theorem tw8369868683130302868:True:=⟨⟩
theorem tw802917404587063742:True:=⟨⟩
theorem tw11764051201032110199:True:=⟨⟩
theorem tw5488966160659634681:True:=⟨⟩
theorem tw12221415409051222339:True:=⟨⟩
theorem tw9685044298169568939:True:=⟨⟩
theorem tw17714833071000019117:True:=⟨⟩
theorem tw15845117809764550140:True:=⟨⟩
theorem tw6664951462986138201:True:=⟨⟩
theorem tw12532165626772418067:True:=⟨⟩
theorem tw6638926791290424541:True:=⟨⟩
theorem tw3241244739717862871:True:=⟨⟩
theorem tw11769617611247221923:True:=⟨⟩
theorem tw15679247252792206210:True:=⟨⟩
theorem tw8160871880118814707:True:=⟨⟩
theorem tw6951939212644042833:True:=⟨⟩
theorem tw3977248041102528228:True:=⟨⟩
theorem tw9715166753854553471:True:=⟨⟩
theorem tw17100184641858439841:True:=⟨⟩
theorem tw5613845454599061817:True:=⟨⟩
theorem tw7160180452043601882:True:=⟨⟩
theorem tw14827384380277173613:True:=⟨⟩
theorem tw15431134087688302020:True:=⟨⟩
theorem tw9897558803702562313:True:=⟨⟩
theorem tw12978678129208030876:True:=⟨⟩
theorem tw8008005557923197168:True:=⟨⟩
theorem tw9508736203920968164:True:=⟨⟩
theorem tw10543178825980762907:True:=⟨⟩
theorem tw5759927347364260171:True:=⟨⟩
theorem tw7900839787485558254:True:=⟨⟩
theorem tw10884089432341657690:True:=⟨⟩
theorem tw6585068141940680455:True:=⟨⟩
theorem tw11990459337992974956:True:=⟨⟩
theorem tw6582134788679801411:True:=⟨⟩
theorem tw4952506757814975653:True:=⟨⟩
theorem tw8085317222854131807:True:=⟨⟩
theorem tw17548501875881557423:True:=⟨⟩
theorem tw5036445103931068615:True:=⟨⟩
theorem tw10780761586765376359:True:=⟨⟩
theorem tw11732214188671553305:True:=⟨⟩
theorem tw13792483299354683862:True:=⟨⟩
theorem tw6834397320308548248:True:=⟨⟩
theorem tw3482820431698744051:True:=⟨⟩
theorem tw6511239469406747073:True:=⟨⟩
theorem tw16202804259149639690:True:=⟨⟩
theorem tw11002848052431835627:True:=⟨⟩
theorem tw6737687440995333003:True:=⟨⟩
theorem tw11973505968982382900:True:=⟨⟩
theorem tw11289143093466461953:True:=⟨⟩
theorem tw2478928736998500339:True:=⟨⟩
theorem tw16919330064296535691:True:=⟨⟩
theorem tw12725296767022386299:True:=⟨⟩
theorem tw8086373703447589959:True:=⟨⟩
theorem tw9516800180062724845:True:=⟨⟩
theorem tw1712973634487312807:True:=⟨⟩
theorem tw1948689806639624469:True:=⟨⟩
theorem tw2852278927748849453:True:=⟨⟩
theorem tw5427499738942290107:True:=⟨⟩
theorem tw425938344300624212:True:=⟨⟩
theorem tw10042499479572932358:True:=⟨⟩
theorem tw13305670439411429421:True:=⟨⟩
theorem tw14015890951069844909:True:=⟨⟩
theorem tw17996964024917085871:True:=⟨⟩
theorem tw7254989234349611870:True:=⟨⟩
theorem tw15726315211890062517:True:=⟨⟩
theorem tw3992908553847606798:True:=⟨⟩
theorem tw7042659310547366237:True:=⟨⟩
theorem tw10015853644003576960:True:=⟨⟩
theorem tw931956834028986255:True:=⟨⟩
theorem tw17857563459279650048:True:=⟨⟩
theorem tw4211952112222678748:True:=⟨⟩
theorem tw8864380892348041232:True:=⟨⟩
theorem tw1322031339247656150:True:=⟨⟩
theorem tw7388713464098733815:True:=⟨⟩
theorem tw12434779806091606683:True:=⟨⟩
theorem tw12380031433413146341:True:=⟨⟩
theorem tw1201823643857629683:True:=⟨⟩
theorem tw4268201051430804902:True:=⟨⟩
theorem tw13218621648322568166:True:=⟨⟩
theorem tw14495299557687959983:True:=⟨⟩
theorem tw5353813085845620550:True:=⟨⟩
theorem tw5107255825281412738:True:=⟨⟩
theorem tw6192104577313164617:True:=⟨⟩
theorem tw12184380411685104690:True:=⟨⟩
theorem tw4475145619620083286:True:=⟨⟩
theorem tw6108208118871286908:True:=⟨⟩
theorem tw10693841506766600124:True:=⟨⟩
theorem tw15724745641170818534:True:=⟨⟩
theorem tw3555141088238359772:True:=⟨⟩
theorem tw5485572742587201778:True:=⟨⟩
theorem tw11081772624950168284:True:=⟨⟩
theorem tw17093224777342109595:True:=⟨⟩
theorem tw13419329186978087958:True:=⟨⟩
theorem tw8237626310708396552:True:=⟨⟩
theorem tw4211700434839312001:True:=⟨⟩
theorem tw9585978970863474492:True:=⟨⟩
theorem tw4982327473614321822:True:=⟨⟩
theorem tw4674102799890499726:True:=⟨⟩
theorem tw14207915657524821833:True:=⟨⟩
theorem tw17974404532321089622:True:=⟨⟩
theorem tw9218752888244210615:True:=⟨⟩
theorem tw5552461122284547459:True:=⟨⟩
theorem tw15862806813707239167:True:=⟨⟩
theorem tw6315216371427503177:True:=⟨⟩
theorem tw5260856337621036202:True:=⟨⟩
theorem tw17545862747986772839:True:=⟨⟩
theorem tw6390373612929051886:True:=⟨⟩
theorem tw7877236402650122457:True:=⟨⟩
theorem tw11637195238256488622:True:=⟨⟩
theorem tw1611551182742943237:True:=⟨⟩
theorem tw14199714164133228370:True:=⟨⟩
theorem tw14805814515597417852:True:=⟨⟩
theorem tw726985913927333873:True:=⟨⟩
theorem tw15718574390098580149:True:=⟨⟩
theorem tw2385268686561707046:True:=⟨⟩
theorem tw2335157872551914648:True:=⟨⟩
theorem tw11717690317537128808:True:=⟨⟩
theorem tw15137687247720179910:True:=⟨⟩
theorem tw8445716188487379795:True:=⟨⟩
theorem tw8605165415444627158:True:=⟨⟩
theorem tw13553050674002434610:True:=⟨⟩
theorem tw1840282097412291383:True:=⟨⟩
theorem tw14987661418082201831:True:=⟨⟩
theorem tw7097827964152542560:True:=⟨⟩
theorem tw1722802803701587481:True:=⟨⟩
theorem tw15632992782082381434:True:=⟨⟩
theorem tw2754692670688779762:True:=⟨⟩
theorem tw2923001932562327482:True:=⟨⟩
theorem tw5426448371682200115:True:=⟨⟩
theorem tw5661640270340304354:True:=⟨⟩
theorem tw17094580856887593759:True:=⟨⟩
theorem tw3904583755211930517:True:=⟨⟩
theorem tw838488071084229480:True:=⟨⟩
theorem tw14788362278542820120:True:=⟨⟩
theorem tw14124935244785052151:True:=⟨⟩
theorem tw2648174423076098445:True:=⟨⟩
theorem tw5266450434754204200:True:=⟨⟩
theorem tw10069975712529536831:True:=⟨⟩
theorem tw7317234293075219:True:=⟨⟩
theorem tw4425046354534653865:True:=⟨⟩
theorem tw14722794537435163219:True:=⟨⟩
theorem tw11069628954808310989:True:=⟨⟩
theorem tw2912592304959361012:True:=⟨⟩
theorem tw2337977823195543630:True:=⟨⟩
theorem tw7942853410682446962:True:=⟨⟩
theorem tw17698735102306075112:True:=⟨⟩
theorem tw317932667124481529:True:=⟨⟩
theorem tw15078095837771203109:True:=⟨⟩
theorem tw11118301316682269745:True:=⟨⟩
theorem tw16186510892431351131:True:=⟨⟩
theorem tw4227517698962585424:True:=⟨⟩
theorem tw14749253800190834908:True:=⟨⟩
theorem tw9466130334346563993:True:=⟨⟩
theorem tw11763852733077360975:True:=⟨⟩
theorem tw143782271200020318:True:=⟨⟩
theorem tw8526028360262338249:True:=⟨⟩
theorem tw10052001805573714066:True:=⟨⟩
theorem tw17398146341500462573:True:=⟨⟩
theorem tw1877378965866140348:True:=⟨⟩
theorem tw306725001281121169:True:=⟨⟩
theorem tw17882641709403210578:True:=⟨⟩
theorem tw12694589447371642155:True:=⟨⟩
theorem tw4153491320931672185:True:=⟨⟩
theorem tw15545184769064153574:True:=⟨⟩
theorem tw7979783701870024959:True:=⟨⟩
theorem tw16396790404030501481:True:=⟨⟩
theorem tw12067549021546063074:True:=⟨⟩
theorem tw15755044616229629136:True:=⟨⟩
theorem tw17401831432661337422:True:=⟨⟩
theorem tw1647960591809683682:True:=⟨⟩
theorem tw17878424488110687958:True:=⟨⟩
theorem tw5835942142707902020:True:=⟨⟩
theorem tw4185518321428705831:True:=⟨⟩
theorem tw10015450608781386451:True:=⟨⟩
theorem tw3345597093286824917:True:=⟨⟩
theorem tw5680315236850328200:True:=⟨⟩
theorem tw8174591469460913490:True:=⟨⟩
theorem tw11786325122171474085:True:=⟨⟩
theorem tw15325311475551686242:True:=⟨⟩
theorem tw1349615225243010270:True:=⟨⟩
theorem tw15223397061033166810:True:=⟨⟩
theorem tw7343611390307366373:True:=⟨⟩
theorem tw4543556514994620149:True:=⟨⟩
theorem tw7089793799200125183:True:=⟨⟩
theorem tw5916140570258018564:True:=⟨⟩
theorem tw18208996565591813656:True:=⟨⟩
theorem tw8159976661246289121:True:=⟨⟩
theorem tw3121739546393284973:True:=⟨⟩
theorem tw14323227155912201964:True:=⟨⟩
theorem tw14734032772098568817:True:=⟨⟩
theorem tw12815670308626618822:True:=⟨⟩
theorem tw8553059368797141306:True:=⟨⟩
theorem tw14900259974334564751:True:=⟨⟩
theorem tw2962324470309885386:True:=⟨⟩
theorem tw16266442582153907279:True:=⟨⟩
theorem tw2747774915501398362:True:=⟨⟩
theorem tw11320351676317602388:True:=⟨⟩
theorem tw7020395562169822392:True:=⟨⟩
theorem tw6793172497655745189:True:=⟨⟩
theorem tw6905212232875527693:True:=⟨⟩
theorem tw13952158723898717365:True:=⟨⟩
theorem tw18012574323051992567:True:=⟨⟩
theorem tw5310652868755799522:True:=⟨⟩
theorem tw10378583025934500588:True:=⟨⟩
theorem tw7524379617451308511:True:=⟨⟩
theorem tw18167724695441219349:True:=⟨⟩
theorem tw12392129776423771058:True:=⟨⟩
theorem tw6880125886219600808:True:=⟨⟩
theorem tw4968929673044707356:True:=⟨⟩
theorem tw13887902116395311400:True:=⟨⟩
theorem tw12712400820596877648:True:=⟨⟩
theorem tw1391549112126926301:True:=⟨⟩
theorem tw10846345724684618374:True:=⟨⟩
theorem tw3934833063311361131:True:=⟨⟩
theorem tw7076977106511060911:True:=⟨⟩
theorem tw274189353798237994:True:=⟨⟩
theorem tw16655083059833703075:True:=⟨⟩
theorem tw3664731896753646195:True:=⟨⟩
theorem tw14029171239946634462:True:=⟨⟩
theorem tw8891557043749499067:True:=⟨⟩
theorem tw6999419289813526679:True:=⟨⟩
theorem tw4340971767527515617:True:=⟨⟩
theorem tw10497823618577955822:True:=⟨⟩
theorem tw13508602156133886167:True:=⟨⟩
theorem tw897888412878121761:True:=⟨⟩
theorem tw14279065940840616024:True:=⟨⟩
theorem tw10131873952172028942:True:=⟨⟩
theorem tw1267704075650749254:True:=⟨⟩
theorem tw7950223703418521501:True:=⟨⟩
theorem tw16463793508043411602:True:=⟨⟩
theorem tw5587484289544270231:True:=⟨⟩
theorem tw12356241338228022558:True:=⟨⟩
theorem tw8131721106225051767:True:=⟨⟩
theorem tw3808584094389355786:True:=⟨⟩
theorem tw15261137711255440680:True:=⟨⟩
theorem tw10800367221633172730:True:=⟨⟩
theorem tw10134030333460990790:True:=⟨⟩
theorem tw4177351759533223642:True:=⟨⟩
theorem tw2202087279664922802:True:=⟨⟩
theorem tw3471986238504059686:True:=⟨⟩
theorem tw16925118299729312639:True:=⟨⟩
theorem tw4799189423077775474:True:=⟨⟩
theorem tw16699019767340423185:True:=⟨⟩
theorem tw16034362830870596112:True:=⟨⟩
theorem tw17084317755948004794:True:=⟨⟩
theorem tw5363195699714531557:True:=⟨⟩
theorem tw1567247161763788871:True:=⟨⟩
theorem tw18182889222666715495:True:=⟨⟩
theorem tw7894344252036594922:True:=⟨⟩
theorem tw8060744490709563079:True:=⟨⟩
theorem tw11224361182253327997:True:=⟨⟩
theorem tw12111957463147405440:True:=⟨⟩
theorem tw4188684199736651882:True:=⟨⟩
theorem tw1826987945724244988:True:=⟨⟩
theorem tw17338234738716814015:True:=⟨⟩
theorem tw12325562205625792791:True:=⟨⟩
theorem tw704147369595269066:True:=⟨⟩
theorem tw6623812351622530092:True:=⟨⟩
theorem tw1998032249293215463:True:=⟨⟩
theorem tw9161490523856799436:True:=⟨⟩
theorem tw6760056911573607715:True:=⟨⟩
theorem tw7618804249908900691:True:=⟨⟩
theorem tw6089177832033215386:True:=⟨⟩
theorem tw11300376045408061371:True:=⟨⟩
theorem tw12011070553636201877:True:=⟨⟩
theorem tw3369663099759083609:True:=⟨⟩
theorem tw18277388166739348960:True:=⟨⟩
theorem tw3133745999044795564:True:=⟨⟩
theorem tw1061639710858884176:True:=⟨⟩
theorem tw671769174312181376:True:=⟨⟩
theorem tw17570062618377817894:True:=⟨⟩
theorem tw10232147439284725336:True:=⟨⟩
theorem tw670427922429333600:True:=⟨⟩
theorem tw2374466318677132124:True:=⟨⟩
theorem tw3083371992184736890:True:=⟨⟩
theorem tw7395645310213146516:True:=⟨⟩
theorem tw10661956449011590994:True:=⟨⟩
theorem tw6252695792229605141:True:=⟨⟩
theorem tw714049069090440106:True:=⟨⟩
theorem tw12487779173672901959:True:=⟨⟩
theorem tw10393078302967963895:True:=⟨⟩
theorem tw6205024481829086969:True:=⟨⟩
theorem tw16884622931589843948:True:=⟨⟩
theorem tw4034687210265294523:True:=⟨⟩
theorem tw5015507407206683207:True:=⟨⟩
theorem tw8621336744817483243:True:=⟨⟩
theorem tw16408362238061914836:True:=⟨⟩
theorem tw10412780308102683651:True:=⟨⟩
theorem tw14064692534454641163:True:=⟨⟩
theorem tw15155859288707382567:True:=⟨⟩
theorem tw5425125011635884837:True:=⟨⟩
theorem tw11347631108264317165:True:=⟨⟩
theorem tw8886442042033028919:True:=⟨⟩
theorem tw10728712052571211117:True:=⟨⟩
theorem tw5805183375971660199:True:=⟨⟩
theorem tw17590088832654516399:True:=⟨⟩
theorem tw4842887358765978389:True:=⟨⟩
theorem tw6606014719576569030:True:=⟨⟩
theorem tw13639886217254120673:True:=⟨⟩
theorem tw8396962428940809896:True:=⟨⟩
theorem tw6999941293234460784:True:=⟨⟩
theorem tw17179431292420308709:True:=⟨⟩
theorem tw10241233070082051121:True:=⟨⟩
theorem tw3321576952164483024:True:=⟨⟩
theorem tw17960406059949683352:True:=⟨⟩
theorem tw14112606434462084385:True:=⟨⟩
theorem tw14593252181223967585:True:=⟨⟩
theorem tw1173414789623836638:True:=⟨⟩
theorem tw3488647797146898431:True:=⟨⟩
theorem tw3903891618737965568:True:=⟨⟩
theorem tw12319047049370110589:True:=⟨⟩
theorem tw7158441374720773216:True:=⟨⟩
theorem tw7834740603555865465:True:=⟨⟩
theorem tw16286715671046524454:True:=⟨⟩
theorem tw133755455108545178:True:=⟨⟩
theorem tw6788773261714906821:True:=⟨⟩
theorem tw7945405709010385892:True:=⟨⟩
theorem tw12694112234171929671:True:=⟨⟩
theorem tw6147076586173037292:True:=⟨⟩
theorem tw7717702957765121957:True:=⟨⟩
theorem tw13350131943787299761:True:=⟨⟩
theorem tw1354003750591732747:True:=⟨⟩
theorem tw14731147920152588799:True:=⟨⟩
theorem tw11887224372650548316:True:=⟨⟩
theorem tw8078195926588453703:True:=⟨⟩
theorem tw2730965030003752832:True:=⟨⟩
theorem tw3822784309164373692:True:=⟨⟩
theorem tw5674458297940323589:True:=⟨⟩
theorem tw11269825475406603969:True:=⟨⟩
theorem tw5011889884212318148:True:=⟨⟩
theorem tw10184835648761350555:True:=⟨⟩
theorem tw11970942820725077907:True:=⟨⟩
theorem tw16717272659965454103:True:=⟨⟩
theorem tw14245618210516037357:True:=⟨⟩
theorem tw6381902497316938245:True:=⟨⟩
theorem tw6784790241324674965:True:=⟨⟩
theorem tw2456577590951144490:True:=⟨⟩
theorem tw8697654515486363317:True:=⟨⟩
theorem tw12661032092557703082:True:=⟨⟩
theorem tw4636031889025220839:True:=⟨⟩
theorem tw12737541344736672974:True:=⟨⟩
theorem tw16607927582987124570:True:=⟨⟩
theorem tw13949155002146243131:True:=⟨⟩
theorem tw16970792351503237766:True:=⟨⟩
theorem tw14949513074056673275:True:=⟨⟩
theorem tw13708279966662545973:True:=⟨⟩
theorem tw1620389302784492585:True:=⟨⟩
theorem tw13323373534744806615:True:=⟨⟩
theorem tw15854262060937163188:True:=⟨⟩
theorem tw1096354831752916523:True:=⟨⟩
theorem tw7910172739516966087:True:=⟨⟩
theorem tw17802128708061929859:True:=⟨⟩
theorem tw9835382159548102362:True:=⟨⟩
theorem tw19751972998642308:True:=⟨⟩
theorem tw5185991453625059868:True:=⟨⟩
theorem tw14650769484350525481:True:=⟨⟩
theorem tw18042889414512086050:True:=⟨⟩
theorem tw1833547357909804662:True:=⟨⟩
theorem tw3016012700857477809:True:=⟨⟩
theorem tw3942624392001961204:True:=⟨⟩
theorem tw3259544426188881078:True:=⟨⟩
theorem tw6728313399510405491:True:=⟨⟩
theorem tw11526203479690249398:True:=⟨⟩
theorem tw16338214745046372782:True:=⟨⟩
theorem tw6662249597110656733:True:=⟨⟩
theorem tw11654023200298843171:True:=⟨⟩
theorem tw16803143847538834185:True:=⟨⟩
theorem tw15536387163757344236:True:=⟨⟩
theorem tw17108046237660401759:True:=⟨⟩
theorem tw16504757533647375273:True:=⟨⟩
end PySem.W.Fast
set_option maxRecDepth 100000 in
set_option maxHeartbeats 8000000 in
open_top head for PySem.Challenge.rw_seer_k56_points_told_exactly
end
section
open PySem PySem.W PySem.Calls PyProof.Rows PM
seal PM.J PM.Js PM.JT PM.JA PM.JF PM.JI PM.JI2 PM.JP PM.S1 PM.Ss PM.Sto PM.Rd PM.Nm PM.OpN PM.Op2 PM.Def
namespace L
noncomputable abbrev DD(w:World)(s₀:Shared)(mg mb:Str→Option Value)(f:Addr)(r:Nat)(F:List V→Hp→Option (V×Hp)): Prop:=Def PySem.Challenge.rw_seer_k56_points_told_exactly.row.prog w (head.heap_39 w.params) head.view_39 (looseW head.view_39 []) (ExcName.means s₀.heap) mg mb f r F
section
variable {w:World} {s₀:Shared} {mg mb:Str→Option Value}
theorem Zvf: DD w s₀ mg mb 646 1 ZiY:=by
 unfold DD;k_fill
 refine Z9 (names:=["_law_told_here","_law_boxes","_law_i"]) (g:=Zf8) ?_
 exact fun _ _ _ _ _ _ _ c _ _=>(Zx (ZcI sL (JI.range (nB c) (jc (ZaC (nB c) (jc vL Zp) ZaZ) Zp)) (Zx (S1.put (ZA vL vL) (ZA (ZA vL jI) (ZI vL jI Zai)) jI) (Zy (S1.put (Zct (ZA vL vL) Zcm) (ZA (ZA vL jI) jI) (ZI vL jI Zai))))) (Zy (ZH vL)))
theorem ZqY: DD w s₀ mg mb 528 1 ZiO:=by
 unfold DD;k_fill
 refine Z9 (names:=["_law_script","_law_k","_law_number_here"]) (g:=Zmj) ?_
 exact fun _ _ _ _ _ _ _ c _ _=>(Zx (ZZ sL (ZI (ZI (ZI vL vL Zbx) jI Zbx) jI Zai)) (Zx (Z3 (Z0 (ZaC (nB c) (jc vL Zp) ZaZ) jI ZfF) (Zy (ZZ sL (ZI vL (ZA vL (ZI vL (ZaC (nB c) (jc vL Zp) ZaZ) ZaT)) Zai))) Z2) (Zy (ZH vL))))
theorem law_pick_d: DD w s₀ mg mb 535 2 Zb1:=by
 unfold DD;k_fill
 refine Z9 (names:=["_law_script","_law_k","_law_many"]) (g:=Zm2) ?_
 exact fun _ _ _ _ _ _ _ c _ _=>(Zy (ZH (ZI (ZI (ZI (cF c ZqY (jc vL (jc vL Zp))) jI Zbx) jI ZaT) vL ZaT)))
theorem Zf3: DD w s₀ mg mb 542 2 Zep:=by
 unfold DD;k_fill
 refine Z9 (names:=["_law_script","_law_k","_law_number_here","_law_reach"]) (g:=ZlZ) ?_
 exact fun _ _ _ _ _ _ _ c _ _=>(Zx (ZZ sL (cF c ZqY (jc vL (jc vL Zp)))) (Zx (ZZ sL (ZA (J.list (jc jI (jc jI (jc (ZI jI jI Zpy) (jc (ZI jI jI Zpy) Zp))))) (ZI (ZI (ZI vL jI Zbx) jI ZaT) jI ZaT))) (Zy (ZH (ZI (ZI (ZI vL (ZI jI jI Zpy) Zbx) (ZI (ZI jI vL Zbx) jI Zai) ZaT) vL Zbw)))))
theorem Zox: DD w s₀ mg mb 608 3 Zhw:=by
 unfold DD;k_fill
 refine Z9 (names:=["_law_script","_law_k","_law_many","_law_one","_law_way","_law_at","_law_to","_law_i"]) (g:=Zod) ?_
 exact fun _ _ _ _ _ _ _ c _ _=>(Zx (ZZ sL (ZI (J.list (jc (cF c Zf3 (jc vL (jc vL Zp))) Zp)) (ZI (J.list (jc jI Zp)) vL Zbx) Zai)) (Zx (ZZ sL (cF c law_pick_d (jc vL (jc vL (jc jI Zp))))) (Zx (Z3 (ZbD (Za6 (Z0 vL jI Zat) (Za6 (Z0 vL jI Zat) ZcO))) (Zy (ZH vL)) Z2) (Zx (ZZ sL (ZI jI (cF c law_pick_d (jc vL (jc (ZI vL jI Zai) (jc vL Zp)))) Zai)) (Zx (Z3 (Z0 vL jI Zat) (Zy (S1.put (ZI (cF c law_pick_d (jc vL (jc (ZI vL jI Zai) (jc jI Zp)))) jI Zbw) vL vL)) Z2) (Zx (Z3 (ZbD (Za6 (Z0 vL jI Zat) (Za6 (Z0 vL jI Zat) ZcO))) (Zx (ZZ sL (ZI jI (cF c law_pick_d (jc vL (jc (ZI vL jI Zai) (jc vL Zp)))) Zai)) (Zx (S1.put jI vL vL) (Zy (S1.put (ZI (ZA vL vL) jI Zbw) vL vL)))) Z2) (Zx (Z3 (Z0 vL jI Zat) (Zy (ZcI sL (JI.range (nB c) (jc vL Zp)) (Zy (S1.put (ZI (cF c law_pick_d (jc vL (jc (ZI (ZI vL jI Zai) vL Zai) (jc jI Zp)))) jI Zbw) vL (ZI vL jI Zai))))) Z2) (Zx (Z3 (Z0 vL jI Zat) (Zy (ZcI sL (JI.range (nB c) (jc vL Zp)) (Zy (S1.put (ZI (cF c law_pick_d (jc vL (jc (ZI (ZI vL jI Zai) vL Zai) (jc jI Zp)))) jI Zbw) vL (ZI vL jI Zai))))) Z2) (Zy (ZH vL))))))))))
theorem Zi5: DD w s₀ mg mb 613 1 Zf6:=by
 unfold DD;k_fill
 refine Z9 (names:=["_law_one","_law_boxes"]) (g:=ZmG) ?_
 exact fun _ _ _ _ _ _ _ c _ _=>(Zy (ZH (ZI (ZA vC jI) (ZaC (nB c) (jc (by refine cO ?_ ?_ ?_;(exact(JI.range (nB c) (jc (ZaC (nB c) (jc vC Zp) ZaZ) Zp)));(exact fun _ _=>(ZI (ZA vD (ZI vO jI Zai)) (ZA vD vO) Zbx));(exact fun _ _=>JF.nil)) Zp) Zzh) Zai)))
theorem Zvg: DD w s₀ mg mb 620 4 ZmR:=by
 unfold DD;k_fill
 refine Z9 (names:=["_law_script","_law_k","_law_boxes","_law_one","_law_way"]) (g:=ZmQ) ?_
 exact fun _ _ _ _ _ _ _ c _ _=>(Zx (ZZ sL (cF c Zox (jc vL (jc vL (jc (ZaC (nB c) (jc vL Zp) ZaZ) Zp))))) (Zx (ZZ sL (cF c law_pick_d (jc vL (jc (ZI vL jI Zai) (jc jI Zp))))) (Zx (Z3 (Z0 (ZI vL jI ZaT) jI ZfF) (Zy (S1.put (ZI (ZI (ZI (ZA vL jI) (cF c Zi5 (jc vL (jc vL Zp))) Zbw) (ZI vL jI ZaT) Zai) jI Zbw) vL jI)) Z2) (Zx (Z3 (Z0 (ZI (ZI vL jI ZcS) jI ZaT) jI Zat) (Zy (ZH (J.tup (jc jS (jc vL Zp))))) Z2) (Zx (Z3 (Z0 (ZI (ZI vL jI ZcS) jI ZaT) jI Zat) (Zy (ZH (J.tup (jc jS (jc vL Zp))))) Z2) (Zy (ZH (J.tup (jc jS (jc vL (jc (ZI jI (ZI vL jI ZcS) Zai) Zp)))))))))))
theorem ZhF: DD w s₀ mg mb 634 1 Zfg:=by
 unfold DD;k_fill
 refine Z9 (names:=["_law_boxes","_law_x","_law_number_here"]) (g:=Zoj) ?_
 exact fun _ _ _ _ _ _ _ c _ _=>(Zy (ZH (ZI (ZI (ZhN vL JP.none (JP.some (ZI vL jI Zbw))) (J.list (jc vL Zp)) Zai) (ZhN vL (JP.some vL) JP.none) Zai)))
theorem ZvW: DD w s₀ mg mb 653 4 ZnM:=by
 unfold DD;k_fill
 refine Z9 (names:=["_law_script","_law_boxes","_law_x","_law_one","_law_d","_law_number_here","_law_way"]) (g:=ZnL) ?_
 exact fun _ _ _ _ _ _ _ c _ _=>(Zx (ZZ sL (cF c Zox (jc vL (jc jI (jc (ZaC (nB c) (jc vL Zp) ZaZ) Zp))))) (Zx (ZZ sL (ZI jI (cF c law_pick_d (jc vL (jc jI (jc jI Zp)))) Zai)) (Zx (Z3 (Z0 (cF c law_pick_d (jc vL (jc jI (jc jI Zp)))) jI Zat) (Zy (ZZ sL (ZaC (nB c) (jc jI (jc (ZaC (nB c) (jc (cF c Zf3 (jc vL (jc jI Zp))) Zp) Zfv) Zp)) ZxR))) Z2) (Zx (ZZ sL (cF c Zi5 (jc vL (jc vL Zp)))) (Zx (ZZ sL (cF c law_pick_d (jc vL (jc jI (jc jI Zp))))) (Zx (Z3 (Z0 vL jI Zat) (Zy (ZH (J.tup (jc (J.tup (jc jS (jc vL (jc (ZA vL jI) (jc (ZA vL jI) Zp))))) (jc (cF c ZhF (jc vL (jc vL (jc (ZA vL jI) Zp)))) Zp))))) Z2) (Zx (Z3 (Z0 vL jI Zat) (Zy (ZH (J.tup (jc (J.tup (jc jS (jc vL (jc vL (jc vL Zp))))) (jc (cF c ZhF (jc vL (jc vL (jc (ZI vL vL ZcS) Zp)))) Zp))))) Z2) (Zx (Z3 (Z0 vL jI Zat) (Zy (ZH (J.tup (jc (J.tup (jc jS (jc vL (jc vL (jc vL Zp))))) (jc (cF c ZhF (jc vL (jc vL (jc (ZI vL vL ZaT) Zp)))) Zp))))) Z2) (Zy (ZH (J.tup (jc (J.tup (jc jS (jc vL (jc vL Zp)))) (jc (cF c ZhF (jc vL (jc vL (jc vL Zp)))) Zp)))))))))))))
theorem ZqZ: DD w s₀ mg mb 639 1 Zi1:=by
 unfold DD;k_fill
 refine Z9 (names:=["_law_boxes","_law_full","_law_bounds","_law_one"]) (g:=ZmT) ?_
 exact fun _ _ _ _ _ _ _ c _ _=>(Zx (ZZ sL (ZI (J.list (jc jI Zp)) vL Zai)) (Zx (ZZ sL (J.list Zp)) (Zx (ZcI sC (JI.seq vL) (Zy (Zdj (J.append vL (by refine cO ?_ ?_ ?_;(exact(JI.seq vL));(exact fun _ _=>(ZI vD vO Zbw));(exact fun _ _=>JF.nil)))))) (Zy (ZH (J.tup (jc vL (jc (by refine cO ?_ ?_ ?_;(exact(JI.seq vL));(exact fun _ _=>(J.tup (jc jI (jc vO Zp))));(exact fun _ _=>JF.nil)) Zp))))))))
theorem ZvX: DD w s₀ mg mb 658 4 ZnP:=by
 unfold DD;k_fill
 refine Z9 (names:=["_law_script","_law_boxes","_law_x","_law_row","_law_some","_law_answer","_law_due"]) (g:=ZnO) ?_
 exact fun _ _ _ _ _ _ _ c _ _=>(Zx (by refine sO sL ?_ ?_ ?_;(exact(JI.range (nB c) (jc (ZA (J.list (jc jI (jc jI (jc jI (jc jI Zp))))) (cF c law_pick_d (jc vC (jc jI (jc jI Zp))))) Zp)));(exact fun _ _=>(cF (Zbt c) Zox (jc vD (jc (ZI jI (ZI jI vO Zbx) Zai) (jc (ZaC (nB (Zbt c)) (jc vD Zp) ZaZ) Zp)))));(exact fun _ _=>JF.nil)) (Zx (by refine sO sL ?_ ?_ ?_;(exact(JI.seq vL));(exact fun _ _=>(cF (Zbt c) Zi5 (jc vO (jc vD Zp))));(exact fun _ _=>JF.nil)) (Zx (ZZ sL (cF c Zf3 (jc vC (jc jI Zp)))) (Zx (ZZ sL (cF c ZhF (jc vC (jc vL (jc vL Zp))))) (Zx (Z3 (ZbD (Zch (Z0 (ZaC (nB c) (jc vL Zp) ZaZ) jI ZfF) (Zch (Z0 (cF c law_pick_d (jc vC (jc jI (jc jI Zp)))) jI Zat) Zew))) (Zx (S1.put (ZI (ZA vL jI) jI Zai) vL jI) (Zy (ZZ sL jN))) Z2) (Zy (ZH (J.tup (jc (J.tup (jc jS (jc vL (jc jI (jc vL Zp))))) (jc vL (jc (J.list (jc jN (jc (cF c ZqZ (jc (ZI vL (J.list (jc vL Zp)) Zai) Zp)) Zp))) Zp)))))))))))
theorem ZvY: DD w s₀ mg mb 573 1 Znb:=by
 unfold DD;k_fill
 refine Z9 (names:=["_law_told_here"]) (g:=Zna) ?_
 exact fun _ _ _ _ _ _ _ c _ _=>(Zx (Z3 (Z0 vL jN Zby) (Zy (ZH jN)) Z2) (Zy (ZH (J.tup (jc (by refine cO ?_ ?_ ?_;(exact(JI.seq (ZA vL jI)));(exact fun _ _=>(ZjP (nB (Zbt c)) (jc vO Zp) Zoy));(exact fun _ _=>JF.nil)) (jc (ZjP (nB c) (jc (ZA vL jI) Zp) Zoy) Zp))))))
theorem ZmY: DD w s₀ mg mb 580 1 Zhc:=by
 unfold DD;k_fill
 refine Z9 (names:=["_law_thing"]) (g:=Zmw) ?_
 exact fun _ _ _ _ _ _ _ c _ _=>(Zy (ZH (ZgM (Zd2 (nB c) (nB c) (.inl rfl) vL) (ZAC (Zd2 (nB c) (nB c) (.inr (.inl rfl)) vL)))))
theorem ZvZ: DD w s₀ mg mb 587 2 Znl:=by
 unfold DD;k_fill
 refine Z9 (names:=["_law_thing","_law_size","_law_i","_law_top"]) (g:=Znk) ?_
 exact fun _ _ _ _ _ _ _ c _ _=>(Zx (Z3 (ZbD (Za6 (Zcl (Za3 (Zd2 (nB c) (nB c) (.inr (.inr (.inl rfl))) vL))) (Za6 (Z0 (ZaC (nB c) (jc vL Zp) ZaZ) vL Zdo) ZcO))) (Zy (ZH jB)) Z2) (Zx (ZcI sL (JI.range (nB c) (jc vL Zp)) (Zx (Z3 (ZbD (Za6 (Zcl (Za3 (Zd2 (nB c) (nB c) (.inr (.inr (.inl rfl))) (ZA vL vL)))) (Za6 (Z0 (ZaC (nB c) (jc (ZA vL vL) Zp) ZaZ) vL Zdo) ZcO))) (Zy (ZH jB)) Z2) (Zx (ZcI sL (JI.seq (ZA vL vL)) (Zy (Z3 (ZbD (Zch (Z0 vL jN Zdh) (Zch (Zcl (Za3 (cF c ZmY (jc vL Zp)))) Zew))) (Zy (ZH jB)) Z2))) (Zy (Z3 (Z0 (ZA (ZA vL vL) vL) jI Zdo) (Zy (ZH jB)) Z2))))) (Zy (ZH jB))))
theorem Zvh: DD w s₀ mg mb 594 3 ZmC:=by
 unfold DD;k_fill
 refine Z9 (names:=["_law_thing","_law_many","_law_pair"]) (g:=ZmB) ?_
 exact fun _ _ _ _ _ _ _ c _ _=>(Zx (Z3 (ZbD (Za6 (Zcl (Za3 (Zd2 (nB c) (nB c) (.inr (.inr (.inr rfl))) vL))) (Za6 (Z0 (ZaC (nB c) (jc vL Zp) ZaZ) jI Zdo) (Za6 (Zcl (Za3 (cF c ZvZ (jc (ZA vL jI) (jc (ZI vL jI Zai) Zp))))) ZcO)))) (Zy (ZH jB)) Z2) (Zx (Z3 (ZbD (Za6 (Zcl (Za3 (Zd2 (nB c) (nB c) (.inr (.inr (.inl rfl))) (ZA vL jI)))) (Za6 (Z0 (ZaC (nB c) (jc (ZA vL jI) Zp) ZaZ) vL Zdo) ZcO))) (Zy (ZH jB)) Z2) (Zx (ZcI sL (JI.seq (ZA vL jI)) (Zx (Z3 (ZbD (Za6 (Zcl (Za3 (Zd2 (nB c) (nB c) (.inr (.inr (.inr rfl))) vL))) (Za6 (Z0 (ZaC (nB c) (jc vL Zp) ZaZ) jI Zdo) ZcO))) (Zy (ZH jB)) Z2) (Zx (Z3 (ZbD (Za6 (Zcl (Za3 (cF c ZmY (jc (ZA vL jI) Zp)))) (Za6 (Zcl (Za3 (cF c ZmY (jc (ZA vL jI) Zp)))) ZcO))) (Zy (ZH jB)) Z2) (Zy (Z3 (ZbD (Za6 (Z0 (ZA vL jI) jI ZdH) (Za6 (ZbD (Zch (Z0 (ZA vL jI) jI ZfF) (Zch (Zcl (Zxe jI (ZA vL jI) (ZA vL jI) Zp0 ZdH)) Zew))) ZcO))) (Zy (ZH jB)) Z2))))) (Zy (ZH jB)))))
theorem Zv0: DD w s₀ mg mb 601 4 Znq:=by
 unfold DD;k_fill
 refine Z9 (names:=["_law_found","_law_due"]) (g:=Znp) ?_
 exact fun _ _ _ _ _ _ _ c _ _=>(Zx (Z3 (Z0 vL jN Zby) (Zy (ZH (Zb5 vL jN Zby))) Z2) (Zy (ZH (ZgM (cF c Zvh (jc vL (jc (ZaC (nB c) (jc (ZA vL jI) Zp) ZaZ) Zp))) (Zb5 vL vL Zat)))))
theorem ZqB: DD w s₀ mg mb 313 1 ZfX:=by
 unfold DD;k_fill
 refine Z9 (names:=["rests"]) (g:=ZlD) ?_
 exact fun _ _ _ _ _ _ _ c _ _=>(Zy (ZH (ZI (J.list (jc (J.tup (jc jI (jc jI Zp))) Zp)) vL Zai)))
theorem ZjE: DD w s₀ mg mb 162 1 Zgn:=by
 unfold DD;k_fill
 refine Z9 (names:=["one","other","left","right","over"]) (g:=ZnX) ?_
 exact fun _ _ _ _ _ _ _ c _ _=>(Zx (ZZ sL (ZaC (nB c) (jc vL Zp) Zfv)) (Zx (ZZ sL (ZaC (nB c) (jc vL Zp) Zfv)) (Zx (Zry 1000000 (Z0 vL jI Zdo) (Zx (ZZ sL (ZI vL vL ZaT)) (Zx (ZZ sL vL) (Zy (ZZ sL vL))))) (Zy (ZH vL)))))
theorem ZgK: DD w s₀ mg mb 176 1 ZeI:=by
 unfold DD;k_fill
 refine Z9 (names:=["m","r"]) (g:=ZpH) ?_
 exact fun _ _ _ _ _ _ _ c _ _=>(Zx (Z3 (Z0 vL jI ZdH) (Zy (ZAS)) Z2) (Zx (Z3 (Z0 vL jI Zat) (Zy (ZH (J.tup (jc jI (jc vL Zp))))) Z2) (Zy (ZH (J.tup (jc vL (jc (ZI vL vL ZaT) Zp)))))))
theorem ZwJ: DD w s₀ mg mb 169 1 Zn0:=by
 unfold DD;k_fill
 refine Z9 (names:=["one","by","left","right","left_turns","right_turns","part","over","over_turns"]) (g:=ZnZ) ?_
 exact fun _ _ _ _ _ _ _ c _ _=>(Zx (ZZ sL (ZI vL vL ZaT)) (Zx (ZZ sL vL) (Zx (ZZ sL jI) (Zx (ZZ sL jI) (Zx (Zry 1000000 (Z0 vL jI Zdo) (Zx (ZZ sL (ZI vL vL ZcS)) (Zx (ZZ sL (ZI vL (ZI vL vL Zbx) Zbw)) (Zx (ZZ sL (ZI vL (ZI vL vL Zbx) Zbw)) (Zx (ZZ sL vL) (Zx (ZZ sL vL) (Zx (ZZ sL vL) (Zy (ZZ sL vL))))))))) (Zy (ZH (ZI vL vL ZaT))))))))
theorem Zhq: DD w s₀ mg mb 183 1 Ze6:=by
 unfold DD;k_fill
 refine Z9 (names:=["one","number"]) (g:=Znd) ?_
 exact fun _ _ _ _ _ _ _ c _ _=>(Zx (Z3 (Z0 (ZA vL jI) jI Zat) (Zy (ZH (Zb5 vL (ZA vL jI) Zat))) Z2) (Zy (ZH (Zb5 (ZI vL (ZA vL jI) ZaT) (ZA vL jI) Zat))))
theorem ZnU: DD w s₀ mg mb 197 2 Zhl:=by
 unfold DD;k_fill
 refine Z9 (names:=["one","other","common","apart","width","turns"]) (g:=Znf) ?_
 exact fun _ _ _ _ _ _ _ c _ _=>(Zx (Z3 (Z0 (ZA vL jI) jI Zat) (Zy (ZH (ZeP (Za3 (cF c Zhq (jc vL (jc (ZA vL jI) Zp)))) vL jN))) Z2) (Zx (Z3 (Z0 (ZA vL jI) jI Zat) (Zy (ZH (ZeP (Za3 (cF c Zhq (jc vL (jc (ZA vL jI) Zp)))) vL jN))) Z2) (Zx (ZZ sL (cF c ZjE (jc (ZA vL jI) (jc (ZA vL jI) Zp)))) (Zx (ZZ sL (ZI (ZA vL jI) (ZA vL jI) Zbw)) (Zx (Z3 (Z0 (ZI vL vL ZaT) jI Zdo) (Zy (ZH jN)) Z2) (Zx (ZZ sL (ZI (ZA vL jI) vL ZcS)) (Zx (ZZ sL (ZI (ZI vL vL ZcS) (cF c ZwJ (jc (ZI (ZA vL jI) vL ZcS) (jc vL Zp))) Zbx)) (Zy (ZH (cF c ZgK (jc (ZI (ZA vL jI) vL Zbx) (jc (ZI (ZA vL jI) (ZI (ZA vL jI) vL Zbx) Zai) Zp))))))))))))
theorem Zgh: DD w s₀ mg mb 72 1 Zet:=by
 unfold DD;k_fill
 refine Z9 (names:=["one","other"]) (g:=Zni) ?_
 exact fun _ _ _ _ _ _ _ c _ _=>(Zx (Z3 (ZbD (Za6 (Z0 vL jN Zby) (Za6 (Z0 vL jN Zby) ZcO))) (Zy (ZH jN)) Z2) (Zy (ZH (ZI vL vL Zai))))
theorem ZmZ: DD w s₀ mg mb 204 2 Zhb:=by
 unfold DD;k_fill
 refine Z9 (names:=["one","other"]) (g:=Zmq) ?_
 exact fun _ _ _ _ _ _ _ c _ _=>(Zy (ZH (cF c ZgK (jc (cF c ZjE (jc (ZA vL jI) (jc (ZA vL jI) Zp))) (jc (ZI (ZA vL jI) (ZA vL jI) Zai) Zp)))))
theorem Zt6: DD w s₀ mg mb 320 3 ZgY:=by
 unfold DD;k_fill
 refine Z9 (names:=["bounds","rests","i","met","j","other"]) (g:=Zlp) ?_
 exact fun _ _ _ _ _ _ _ c _ _=>(Zx (ZZ sL (ZA vL vL)) (Zx (Zfn sL sL (Zxb (nB c) vL) (Zy (Z3 (ZbD (Zch (Z0 vL jN Zdh) (Zch (Z0 (cF c Zgh (jc (ZA (ZA vL vL) vL) (jc (ZA (ZA vL vL) vL) Zp))) jI Zat) Zew))) (Zy (ZZ sL (cF c ZnU (jc vL (jc (cF c ZmZ (jc vL (jc (J.tup (jc jI (jc (ZA (ZA vL vL) vL) Zp))) Zp))) Zp))))) Z2))) (Zy (ZH vL))))
theorem Zum: DD w s₀ mg mb 306 4 Zeo:=by
 unfold DD;k_fill
 refine Z9 (names:=["told","rests","met"]) (g:=Zg0) ?_
 exact fun _ _ _ _ _ _ _ c _ _=>(Zx (Z3 (Z0 vC jN Zby) (Zy (ZH jN)) Z2) (Zx (ZZ sC (cF c ZqB (jc (ZA vC jI) Zp))) (Zx (by refine sO sL ?_ ?_ ?_;(exact(JI.range (nB c) (jc jI (jc (ZaC (nB c) (jc vC Zp) ZaZ) Zp))));(exact fun _ _=>(cF (Zbt c) Zt6 (jc (ZA vD jI) (jc vD (jc vO Zp)))));(exact fun _ _=>JF.nil)) (Zx (Z3 (Z0 jN vL Zib) (Zy (ZH jN)) Z2) (Zy (ZH (J.tup (jc (ZA vC jI) (jc vL Zp)))))))))
theorem Zq0: DD w s₀ mg mb 114 1 ZiR:=by
 unfold DD;k_fill
 refine Z9 (names:=["one","other"]) (g:=Zmo) ?_
 exact fun _ _ _ _ _ _ _ c _ _=>(Zy (ZH (ZA6 (Zb5 vL jN Zby) (ZgM (Zb5 vL jN Zdh) (Zb5 vL vL Zp0)))))
theorem Zr4: DD w s₀ mg mb 121 2 ZjF:=by
 unfold DD;k_fill
 refine Z9 (names:=["one","other"]) (g:=ZoH) ?_
 exact fun _ _ _ _ _ _ _ c _ _=>(Zy (ZH (ZeP (Za3 (cF c Zq0 (jc vL (jc vL Zp)))) vL vL)))
theorem ZtR: DD w s₀ mg mb 150 3 Zk0:=by
 unfold DD;k_fill
 refine Z9 (names:=["row","there","further"]) (g:=ZkZ) ?_
 exact fun _ _ _ _ _ _ _ c _ _=>(Zy (ZH (by refine cT ?_ ?_;(exact(JI2.zip (nB c) vL vL));(exact fun _ _=>(cF (Zbt c) Zr4 (jc vO (jc (cF (Zbt c) Zgh (jc vD (jc vO Zp))) Zp)))))))
theorem Zvi: DD w s₀ mg mb 145 4 Zmu:=by
 unfold DD;k_fill
 refine Z9 (names:=["bounds","mid"]) (g:=Zmt) ?_
 exact fun _ _ _ _ _ _ _ c _ _=>(Zy (ZH (by refine cO ?_ ?_ ?_;(exact(JI.seq vC));(exact fun _ _=>(cF (Zbt c) ZtR (jc vO (jc (ZA vO vD) (jc (ZA vD vD) Zp)))));(exact fun _ _=>JF.nil))))
theorem Zt7: DD w s₀ mg mb 155 1 Zlk:=by
 unfold DD;k_fill
 refine Z9 (names:=["bounds"]) (g:=Zlj) ?_
 exact fun _ _ _ _ _ _ _ c _ _=>(Zy (ZH (ZaC (nB c) (jc (by refine cO ?_ ?_ ?_;(exact(JI.range (nB c) (jc (ZaC (nB c) (jc vC Zp) ZaZ) Zp)));(exact fun _ _=>(Zb5 (ZA (ZA vD vO) vO) jI ZdH));(exact fun _ _=>JF.nil)) Zp) Zzn)))
theorem ZxO: DD w s₀ mg mb 140 5 Zgs:=by
 unfold DD;k_fill
 refine Z9 (names:=["bounds","near","mid"]) (g:=ZoJ) ?_
 exact fun _ _ _ _ _ _ _ c _ _=>(Zx (ZZ sL vL) (Zx (ZcI sL (JI.range (nB c) (jc (ZaC (nB c) (jc vL Zp) ZaZ) Zp)) (Zx (ZZ sL (cF c Zvi (jc vL (jc vL Zp)))) (Zy (Z3 (Za3 (cF c Zt7 (jc vL Zp))) (Zy (ZH jN)) Z2)))) (Zy (ZH vL))))
theorem ZAA: DD w s₀ mg mb 301 6 ZeJ:=by
 unfold DD;k_fill
 refine Z9 (names:=["told","bounds"]) (g:=Zkm) ?_
 exact fun _ _ _ _ _ _ _ c _ _=>(Zx (Z3 (Z0 vL jN Zby) (Zy (ZH jN)) Z2) (Zx (ZZ sL (cF c ZxO (jc (ZA vL jI) Zp))) (Zx (Z3 (Z0 vL jN Zby) (Zy (ZH jN)) Z2) (Zy (ZH (J.tup (jc vL (jc (ZA vL jI) Zp))))))))
theorem Zti: DD w s₀ mg mb 294 7 ZgG:=by
 unfold DD;k_fill
 refine Z9 (names:=["told"]) (g:=ZpJ) ?_
 exact fun _ _ _ _ _ _ _ c _ _=>(Zy (ZH (cF c Zum (jc (cF c ZAA (jc vL Zp)) Zp))))
theorem ZuJ: DD w s₀ mg mb 239 1 Zl5:=by
 unfold DD;k_fill
 refine Z9 (names:=["one","top"]) (g:=Zl4) ?_
 exact fun _ _ _ _ _ _ _ c _ _=>(Zx (Z3 (Z0 (ZA vL jI) jI Zat) (Zy (ZH (ZeP (Z0 (ZA vL jI) vL Zp0) (ZA vL jI) jN))) Z2) (Zy (ZH (ZI vL (ZI (ZI vL (ZA vL jI) Zbw) (ZA vL jI) ZaT) Zbw))))
theorem ZtS: DD w s₀ mg mb 339 2 Zk6:=by
 unfold DD;k_fill
 refine Z9 (names:=["bound","left"]) (g:=Zk5) ?_
 exact fun _ _ _ _ _ _ _ c _ _=>(Zx (Z3 (Z0 vL jN Zdh) (Zy (ZH (cF c ZuJ (jc vL (jc vL Zp))))) Z2) (Zx (Z3 (Z0 (ZA vL jI) jI Zat) (Zy (ZH (ZA vL jI))) Z2) (Zy (ZH jN))))
theorem Zmi: DD w s₀ mg mb 211 2 Zg5:=by
 unfold DD;k_fill
 refine Z9 (names:=["one","k"]) (g:=Zl1) ?_
 exact fun _ _ _ _ _ _ _ c _ _=>(Zy (ZH (cF c ZgK (jc (ZI (ZA vL jI) (ZaC (nB c) (jc vL Zp) Zfv) Zbx) (jc (ZI (ZA vL jI) vL Zbx) Zp)))))
theorem Zun: DD w s₀ mg mb 332 3 ZlH:=by
 unfold DD;k_fill
 refine Z9 (names:=["row","left","rests","new","bound","other","low"]) (g:=ZlG) ?_
 exact fun _ _ _ _ _ _ _ c _ _=>(Zx (ZZ sL (J.list Zp)) (Zx (Zfn sL sL (JI2.zip (nB c) vL vL) (Zx (ZZ sL (cF c ZtS (jc vL (jc (cF c ZmZ (jc vL (jc (cF c Zmi (jc vL (jc (Zct jI Zcm) Zp))) Zp))) Zp)))) (Zx (Z3 (ZbD (Zch (Z0 vL jN Zby) (Zch (Z0 vL jN Zdh) Zew))) (Zy (ZH jN)) Z2) (Zy (Zdj (J.append vL vL)))))) (Zy (ZH vL))))
theorem ZwK: DD w s₀ mg mb 325 4 Zn6:=by
 unfold DD;k_fill
 refine Z9 (names:=["told","rests","bounds"]) (g:=Zn5) ?_
 exact fun _ _ _ _ _ _ _ c _ _=>(Zx (Z3 (Z0 vL jN Zby) (Zy (ZH jN)) Z2) (Zx (ZZ sC (cF c ZqB (jc (ZA vL jI) Zp))) (Zx (by refine sT sL ?_ ?_;(exact(JI2.zip (nB c) (ZA vL jI) vC));(exact fun _ _=>(cF (Zbt c) Zun (jc vO (jc vO (jc vD Zp)))))) (Zx (Z3 (Z0 jN vL Zib) (Zy (ZH jN)) Z2) (Zy (ZH (J.tup (jc vL (jc (ZA vL jI) Zp)))))))))
theorem Zfu: DD w s₀ mg mb 287 8 Zd5:=by
 unfold DD;k_fill
 refine Z9 (names:=["told"]) (g:=Zpj) ?_
 exact fun _ _ _ _ _ _ _ c _ _=>(Zy (ZH (cF c Zti (jc (cF c ZwK (jc (cF c Zti (jc vL Zp)) Zp)) Zp))))
theorem Zgi: DD w s₀ mg mb 280 3 Zeu:=by
 unfold DD;k_fill
 refine Z9 (names:=["one","rests","whole","k","part"]) (g:=Znn) ?_
 exact fun _ _ _ _ _ _ _ c _ _=>(Zx (ZZ sL (J.tup (jc jI (jc (ZA vL jI) Zp)))) (Zx (Zfn sL sL (JI2.zip (nB c) (Zkb vL jI) vL) (Zy (ZZ sL (cF c ZmZ (jc vL (jc (cF c Zmi (jc vL (jc vL Zp))) Zp)))))) (Zy (ZH vL))))
theorem ZqC: DD w s₀ mg mb 133 1 ZiB:=by
 unfold DD;k_fill
 refine Z9 (names:=["i","n"]) (g:=ZlJ) ?_
 exact fun _ _ _ _ _ _ _ c _ _=>(Zy (ZH (by refine cO ?_ ?_ ?_;(exact(JI.range (nB c) (jc (ZI vL jI Zai) Zp)));(exact fun _ _=>(ZeP (Z0 vD vO Zat) jI jN));(exact fun _ _=>JF.nil))))
theorem Zku: DD w s₀ mg mb 26 1 ZfC:=by
 unfold DD;k_fill
 refine Z9 (names:=["row","x","thing"]) (g:=Zkp) ?_
 exact fun _ _ _ _ _ _ _ c _ _=>(Zy (ZH (ZI (ZI (ZhN vL JP.none (JP.some (ZI vL jI Zbw))) (J.list (jc vL Zp)) Zai) (ZhN vL (JP.some vL) JP.none) Zai)))
theorem Zv1: DD w s₀ mg mb 392 2 Zns:=by
 unfold DD;k_fill
 refine Z9 (names:=["bounds","x","loose"]) (g:=Znr) ?_
 exact fun _ _ _ _ _ _ _ c _ _=>(Zx (by refine sO sL ?_ ?_ ?_;(exact(JI.seq vL));(exact fun _ _=>(cF (Zbt c) Zku (jc vO (jc (ZI vD jI Zai) (jc jN Zp)))));(exact fun _ _=>JF.nil)) (Zx (S1.put (cF c ZqC (jc vC (jc (ZI (ZaC (nB c) (jc vL Zp) ZaZ) jI Zbw) Zp))) vL vC) (Zy (ZH vL))))
theorem Zhh: DD w s₀ mg mb 86 1 Ze1:=by
 unfold DD;k_fill
 refine Z9 (names:=["end","k"]) (g:=Zmz) ?_
 exact fun _ _ _ _ _ _ _ c _ _=>(Zx (Z3 (Z0 vL jN Zby) (Zy (ZH jN)) Z2) (Zy (ZH (ZI vL vL Zbx))))
theorem Zv2: DD w s₀ mg mb 346 2 Znu:=by
 unfold DD;k_fill
 refine Z9 (names:=["bounds","i","one"]) (g:=Zjd) ?_
 exact fun _ _ _ _ _ _ _ c _ _=>(Zx (S1.put (ZA vL jI) (ZA vL vL) jI) (Zy (S1.put (cF c Zhh (jc (ZA vL jI) (jc (Zct jI Zcm) Zp))) (ZA vL jI) vL)))
theorem ZpZ: DD w s₀ mg mb 387 9 Zh5:=by
 unfold DD;k_fill
 refine Z9 (names:=["told","x","span","left","bounds"]) (g:=ZpL) ?_
 exact fun _ _ _ _ _ _ _ c _ _=>(Zx (Z3 (Z0 vL jN Zby) (Zy (ZH jN)) Z2) (Zx (ZZ sL (cF c Zv1 (jc (ZA vL jI) (jc vL Zp)))) (Zx (Zdj (cF c Zv2 (jc vL (jc vL (jc vL Zp))))) (Zy (ZH (cF c Zfu (jc (J.tup (jc vL (jc (cF c Zku (jc (ZA vL jI) (jc vL (jc vL Zp)))) Zp))) Zp)))))))
theorem ZtT: DD w s₀ mg mb 363 1 Zk9:=by
 unfold DD;k_fill
 refine Z9 (names:=["one"]) (g:=Zk8) ?_
 exact fun _ _ _ _ _ _ _ c _ _=>(Zy (ZH (Zb5 (ZaC (nB c) (jc (by refine cO ?_ ?_ ?_;(exact(JI.seq (Zkb vL jI)));(exact fun _ _=>vO);(exact fun _ _=>JF.one (Z0 vO jI Zdo))) Zp) Zwk) (J.list (jc (Zct jI Zcm) (jc jI Zp))) Zat)))
theorem Zt8: DD w s₀ mg mb 65 2 Zln:=by
 unfold DD;k_fill
 refine Z9 (names:=["one","other"]) (g:=Zlm) ?_
 exact fun _ _ _ _ _ _ _ c _ _=>(Zy (ZH (J.tup (jc (cF c Zgh (jc (ZA vL jI) (jc (ZA vL jI) Zp))) (jc (cF c Zgh (jc (ZA vL jI) (jc (ZA vL jI) Zp))) Zp)))))
theorem ZtU: DD w s₀ mg mb 79 2 Zk3:=by
 unfold DD;k_fill
 refine Z9 (names:=["one","k","lo","hi"]) (g:=Zk2) ?_
 exact fun _ _ _ _ _ _ _ c _ _=>(Zx (Z3 (Z0 vL jI Zat) (Zy (ZH (J.tup (jc jI (jc jI Zp))))) Z2) (Zx (ZZ sL (cF c Zhh (jc (ZA vL jI) (jc vL Zp)))) (Zx (ZZ sL (cF c Zhh (jc (ZA vL jI) (jc vL Zp)))) (Zx (Z3 (Z0 vL jI ZdH) (Zy (ZH (J.tup (jc vL (jc vL Zp))))) Z2) (Zy (ZH (J.tup (jc vL (jc vL Zp)))))))))
theorem Zuo: DD w s₀ mg mb 273 3 ZlB:=by
 unfold DD;k_fill
 refine Z9 (names:=["one","stretches","whole","k","part"]) (g:=ZlA) ?_
 exact fun _ _ _ _ _ _ _ c _ _=>(Zx (ZZ sL (J.tup (jc (ZA vL jI) (jc (ZA vL jI) Zp)))) (Zx (Zfn sL sL (JI2.zip (nB c) (Zkb vL jI) vL) (Zy (ZZ sL (cF c Zt8 (jc vL (jc (cF c ZtU (jc vL (jc vL Zp))) Zp)))))) (Zy (ZH vL))))
theorem Zt9: DD w s₀ mg mb 351 2 Zls:=by
 unfold DD;k_fill
 refine Z9 (names:=["told","bounds"]) (g:=Zlr) ?_
 exact fun _ _ _ _ _ _ _ c _ _=>(Zx (ZZ sC (ZA vL jI)) (Zy (ZH (by refine cO ?_ ?_ ?_;(exact(JI.range (nB c) (jc jI (jc (ZaC (nB c) (jc vC Zp) ZaZ) Zp))));(exact fun _ _=>(J.tup (jc (cF (Zbt c) Zhh (jc (ZA (ZA vD jI) vO) (jc (Zct jI Zcm) Zp))) (jc (ZA (ZA vD vO) jI) Zp))));(exact fun _ _=>JF.nil)))))
theorem Zhr: DD w s₀ mg mb 358 4 Ze9:=by
 unfold DD;k_fill
 refine Z9 (names:=["told","one"]) (g:=Znx) ?_
 exact fun _ _ _ _ _ _ _ c _ _=>(Zx (Z3 (Za3 (cF c ZtT (jc vL Zp))) (Zy (ZH (cF c Zgh (jc (ZA (ZA (ZA vL jI) (J.index vL jI jI)) (J.index vL (Zct jI Zcm) jI)) (jc (ZA vL jI) Zp))))) Z2) (Zy (ZH (ZA (cF c Zuo (jc vL (jc (cF c Zt9 (jc vL Zp)) Zp))) jI))))
theorem Zv3: DD w s₀ mg mb 254 1 ZnA:=by
 unfold DD;k_fill
 refine Z9 (names:=["one","other"]) (g:=Znz) ?_
 exact fun _ _ _ _ _ _ _ c _ _=>(Zy (ZH (by refine cT ?_ ?_;(exact(JI2.zip (nB c) vL vL));(exact fun _ _=>(ZI vO vO Zai)))))
theorem Ze4: DD w s₀ mg mb 259 1 ZdV:=by
 unfold DD;k_fill
 refine Z9 (names:=["one","k"]) (g:=ZmE) ?_
 exact fun _ _ _ _ _ _ _ c _ _=>(Zy (ZH (by refine cO ?_ ?_ ?_;(exact(JI.seq vL));(exact fun _ _=>(ZI vO vD Zbx));(exact fun _ _=>JF.nil))))
theorem Zjp: DD w s₀ mg mb 266 2 Zgf:=by
 unfold DD;k_fill
 refine Z9 (names:=["one","other"]) (g:=ZnC) ?_
 exact fun _ _ _ _ _ _ _ c _ _=>(Zy (ZH (cF c Zv3 (jc vL (jc (cF c Ze4 (jc vL (jc (Zct jI Zcm) Zp))) Zp)))))
theorem ZuK: DD w s₀ mg mb 380 5 Zl8:=by
 unfold DD;k_fill
 refine Z9 (names:=["told","one","others"]) (g:=Zl7) ?_
 exact fun _ _ _ _ _ _ _ c _ _=>(Zy (ZH (by refine cO ?_ ?_ ?_;(exact(JI.seq vL));(exact fun _ _=>(cF (Zbt c) Zhr (jc vD (jc (cF (Zbt c) Zjp (jc vD (jc vO Zp))) Zp))));(exact fun _ _=>JF.nil))))
theorem Zfh: DD w s₀ mg mb 244 1 Zd1:=by
 unfold DD;k_fill
 refine Z9 (names:=["i","n"]) (g:=Zog) ?_
 exact fun _ _ _ _ _ _ _ c _ _=>(Zy (ZH (by refine cO ?_ ?_ ?_;(exact(JI.range (nB c) (jc (ZI vL jI Zai) Zp)));(exact fun _ _=>(ZeP (ZbD (Zch (Z0 vD jI ZfF) (Zch (Z0 vO vD Zat) Zew))) jI jI));(exact fun _ _=>JF.nil))))
theorem Zo5: DD w s₀ mg mb 375 9 ZhJ:=by
 unfold DD;k_fill
 refine Z9 (names:=["told","sums","all_sums","bounds","rests"]) (g:=ZoM) ?_
 exact fun _ _ _ _ _ _ _ c _ _=>(Zx (Z3 (Z0 vC jN Zby) (Zy (ZH jN)) Z2) (Zx (ZZ sC (ZI (J.list (jc (cF c Zfh (jc jI (jc (ZaC (nB c) (jc (ZA vC jI) Zp) ZaZ) Zp))) Zp)) vL Zai)) (Zx (by refine sO sL ?_ ?_ ?_;(exact(JI.seq vC));(exact fun _ _=>(cF (Zbt c) ZuK (jc vD (jc vO (jc vD Zp)))));(exact fun _ _=>JF.nil)) (Zx (by refine sO sL ?_ ?_ ?_;(exact(JI.seq vL));(exact fun _ _=>(cF (Zbt c) Zgi (jc vO (jc (ZA vD jI) Zp))));(exact fun _ _=>JF.nil)) (Zy (ZH (cF c Zfu (jc (J.tup (jc vL (jc vL Zp))) Zp))))))))
theorem ZsM: DD w s₀ mg mb 370 5 ZjZ:=by
 unfold DD;k_fill
 refine Z9 (names:=["told","one"]) (g:=Zpl) ?_
 exact fun _ _ _ _ _ _ _ c _ _=>(Zy (ZH (cF c Zhh (jc (cF c Zhr (jc vL (jc (cF c Ze4 (jc vL (jc (Zct jI Zcm) Zp))) Zp))) (jc (Zct jI Zcm) Zp)))))
theorem ZiN: DD w s₀ mg mb 100 1 Zf1:=by
 unfold DD;k_fill
 refine Z9 (names:=["end","k"]) (g:=Zmc) ?_
 exact fun _ _ _ _ _ _ _ c _ _=>(Zx (Z3 (Z0 vL jN Zby) (Zy (ZH jN)) Z2) (Zy (ZH (ZI vL vL ZcS))))
theorem Zqm: DD w s₀ mg mb 93 2 Zin:=by
 unfold DD;k_fill
 refine Z9 (names:=["one","k"]) (g:=ZkS) ?_
 exact fun _ _ _ _ _ _ _ c _ _=>(Zy (ZH (J.tup (jc (cF c ZiN (jc (ZA vL jI) (jc vL Zp))) (jc (cF c ZiN (jc (ZA vL jI) (jc vL Zp))) Zp)))))
theorem ZtE: DD w s₀ mg mb 107 3 ZkV:=by
 unfold DD;k_fill
 refine Z9 (names:=["one","k","parts"]) (g:=ZkU) ?_
 exact fun _ _ _ _ _ _ _ c _ _=>(Zx (ZZ sL (cF c Zqm (jc vL (jc vL Zp)))) (Zx (Z3 (ZbD (Zch (Z0 (ZA vL jI) jN Zdh) (Zch (Z0 (ZA vL jI) (ZA vL jI) Zat) Zew))) (Zy (ZH (J.tup (jc (ZI (ZA vL jI) vL ZaT) (jc (ZI (ZA vL jI) vL ZaT) Zp))))) Z2) (Zy (ZH (J.tup (jc jI (jc (ZI vL jI Zbw) Zp)))))))
theorem Zup: DD w s₀ mg mb 225 2 ZlT:=by
 unfold DD;k_fill
 refine Z9 (names:=["one","k","common"]) (g:=ZlS) ?_
 exact fun _ _ _ _ _ _ _ c _ _=>(Zx (ZZ sL (cF c ZjE (jc (ZA vL jI) (jc vL Zp)))) (Zx (Z3 (Z0 vL vL Zat) (Zy (ZH (J.tup (jc jI (jc (ZI (ZA vL jI) vL ZaT) Zp))))) Z2) (Zy (ZH (cF c ZgK (jc vL (jc (ZA vL jI) Zp)))))))
theorem Zuq: DD w s₀ mg mb 218 2 ZlW:=by
 unfold DD;k_fill
 refine Z9 (names:=["one","k"]) (g:=ZlV) ?_
 exact fun _ _ _ _ _ _ _ c _ _=>(Zx (Z3 (Z0 (ZI (ZA vL jI) vL ZaT) jI Zat) (Zy (ZH (cF c ZgK (jc (ZI (ZA vL jI) vL ZcS) (jc (ZI (ZA vL jI) vL ZcS) Zp))))) Z2) (Zy (ZH (J.tup (jc jI (jc jI Zp))))))
theorem ZnV: DD w s₀ mg mb 249 2 Zhn:=by
 unfold DD;k_fill
 refine Z9 (names:=["many","n"]) (g:=ZnF) ?_
 exact fun _ _ _ _ _ _ _ c _ _=>(Zy (ZH (by refine cO ?_ ?_ ?_;(exact(JI.range (nB c) (jc jI (jc (ZI vL jI Zai) Zp))));(exact fun _ _=>(cF (Zbt c) Zfh (jc vO (jc vD Zp))));(exact fun _ _=>JF.nil))))
theorem ZwL: DD w s₀ mg mb 521 10 Zom:=by
 unfold DD;k_fill
 refine Z9 (names:=["told","act","n","span","left"]) (g:=Zol) ?_
 exact fun _ _ _ _ _ _ _ c _ _=>(Zx (Z3 (Z0 (ZA vL jI) jS Zat) (Zx (ZZ sL (ZaC (nB c) (jc (ZA vL jI) Zp) ZaZ)) (Zy (ZH (cF c Zo5 (jc vL (jc (cF c Zku (jc (cF c ZnV (jc vL (jc vL Zp))) (jc (ZA vL jI) (jc (ZA vL jI) Zp)))) Zp)))))) Z2) (Zx (Z3 (Z0 (ZA vL jI) jS Zat) (Zy (ZH (cF c ZpZ (jc vL (jc (ZA vL jI) (jc (J.tup (jc (ZA vL jI) (jc (ZA vL jI) Zp))) (jc (J.tup (jc jI (jc jI Zp))) Zp))))))) Z2) (Zx (ZZ sL (J.tup (jc (cF c ZsM (jc vL (jc (ZA vL jI) Zp))) (jc (cF c Zhr (jc vL (jc (ZA vL jI) Zp))) Zp)))) (Zx (ZZ sL (cF c Zgi (jc (ZA vL jI) (jc (ZA vL jI) Zp)))) (Zx (Z3 (Z0 (ZA vL jI) jS Zat) (Zy (ZH (cF c ZpZ (jc vL (jc (ZA vL jI) (jc (cF c Zqm (jc vL (jc (ZA vL jI) Zp))) (jc (cF c Zuq (jc vL (jc (ZA vL jI) Zp))) Zp))))))) Z2) (Zy (ZH (cF c ZpZ (jc vL (jc (ZA vL jI) (jc (cF c ZtE (jc vL (jc (ZA vL jI) Zp))) (jc (cF c Zup (jc vL (jc (ZA vL jI) Zp))) Zp))))))))))))
theorem Zr5: ∀n:Nat,Def PySem.Challenge.rw_seer_k56_points_told_exactly.row.prog w (head.heap_39 w.params) head.view_39 (looseW head.view_39 []) (ExcName.means s₀.heap) mg mb 19 (n) (Zgt n)
 | 0=>Zxl
 | n+1=>by
  have ih:=Zr5 n
  k_fill
  refine' Def.of (names:=["thing"]) (n:=1) (room:=n) (g:=Zpk (Zgt n)) (ho:=?ho) (hcd:=?hcd) (nd:=by decide) (hn:=by decide) (hbind:=?hb) (hkinds:=?hk) (hone:=?h1) (hco:=?z1) (hgen:=?z2) (hk:=?z3) (hbody:=?hbody)
  case ho=>k_is
  case z1=>rfl
  case z2=>rfl
  case z3=>rfl
  case hcd=>k_is
  case hb=>intro s xs hx;match xs,hx with | [x0],_=>exact BindsTo.of_eq rfl
  case hk=>decide
  case h1=>decide +kernel
  case hbody=>
   intro dp un gd L outer h₀ hu clr hd1 hu1
   exact(Zx (Z3 (Za3 (Zd2 (nB clr) (nB clr) (.inr (.inr (.inl rfl))) vL)) (Zy (ZH (by refine cO ?_ ?_ ?_;(exact(JI.seq vL));(exact fun _ _=>(cF (Zbt clr) ih (jc vO Zp)));(exact fun _ _=>JF.nil)))) Z2) (Zx (Z3 (Za3 (Zd2 (nB clr) (nB clr) (.inr (.inr (.inr rfl))) vL)) (Zy (ZH (ZjP (nB clr) (jc (by refine cO ?_ ?_ ?_;(exact(JI.seq vL));(exact fun _ _=>(cF (Zbt clr) ih (jc vO Zp)));(exact fun _ _=>JF.nil)) Zp) Zwd))) Z2) (Zy (ZH vL))))
theorem Zka: Def PySem.Challenge.rw_seer_k56_points_told_exactly.row.prog w (head.heap_39 w.params) head.view_39 (looseW head.view_39 []) (ExcName.means s₀.heap) mg mb 19 9 Zgy:=Zr5 9
theorem Zjq: DD w s₀ mg mb 128 3 Zge:=by
 unfold DD;k_fill
 refine Z9 (names:=["bounds","i","j","bound"]) (g:=Zjf) ?_
 exact fun _ _ _ _ _ _ _ c _ _=>(Zy (S1.put (cF c Zr4 (jc (ZA (ZA vL vL) vL) (jc vL Zp))) (ZA vL vL) vL))
theorem ZqK: DD w s₀ mg mb 446 5 ZiJ:=by
 unfold DD;k_fill
 refine Z9 (names:=["told","part","one","top"]) (g:=Zma) ?_
 exact fun _ _ _ _ _ _ _ c _ _=>(Zy (ZH (cF c Zgh (jc (cF c Zhr (jc vL (jc (cF c Zjp (jc vL (jc vL Zp))) Zp))) (jc vL Zp)))))
theorem Zur: DD w s₀ mg mb 432 6 ZlL:=by
 unfold DD;k_fill
 refine Z9 (names:=["bounds","told","one","top","n","i","j","apart"]) (g:=ZiC) ?_
 exact fun _ _ _ _ _ _ _ c _ _=>(Zx (ZZ sL (ZaC (nB c) (jc (ZA vL jI) Zp) ZaZ)) (Zy (ZcI sL (JI.range (nB c) (jc (ZI vL jI Zai) Zp)) (Zy (ZcI sL (JI.range (nB c) (jc (ZI vL jI Zai) Zp)) (Zx (ZZ sL (cF c Zjp (jc (cF c Zfh (jc vL (jc vL Zp))) (jc (cF c Zfh (jc vL (jc vL Zp))) Zp)))) (Zy (Zdj (cF c Zjq (jc vL (jc vL (jc vL (jc (cF c ZqK (jc vL (jc vL (jc vL (jc vL Zp))))) Zp)))))))))))))
theorem Zus: DD w s₀ mg mb 439 6 ZlN:=by
 unfold DD;k_fill
 refine Z9 (names:=["bounds","told","one","top","n","i","k","bound"]) (g:=ZiE) ?_
 exact fun _ _ _ _ _ _ _ c _ _=>(Zx (ZZ sL (ZaC (nB c) (jc (ZA vL jI) Zp) ZaZ)) (Zy (ZcI sL (JI.range (nB c) (jc jI (jc (ZI vL jI Zai) Zp))) (Zx (ZZ sL (ZA vL vL)) (Zx (ZZ sL (cF c ZqK (jc vL (jc (cF c Ze4 (jc (cF c Zfh (jc vL (jc vL Zp))) (jc vL Zp))) (jc vL (jc vL Zp)))))) (Zx (Z3 (Z0 vL jI ZfF) (Zy (Zdj (cF c Zjq (jc vL (jc vL (jc jI (jc (cF c ZiN (jc vL (jc vL Zp))) Zp))))))) Z2) (Zy (Z3 (Z0 vL jI ZdH) (Zy (Zdj (cF c Zjq (jc vL (jc jI (jc vL (jc (cF c ZiN (jc vL (jc (Zct vL Zcm) Zp))) Zp))))))) Z2))))))))
theorem ZwM: DD w s₀ mg mb 58 1 Zn3:=by
 unfold DD;k_fill
 refine Z9 (names:=["lo","hi"]) (g:=Zn2) ?_
 exact fun _ _ _ _ _ _ _ c _ _=>(Zy (ZH (ZzZ (Zb5 vL jN Zdh) (ZgM (Zb5 vL jN Zdh) (Zb5 vL vL ZfF)))))
theorem ZhG: DD w s₀ mg mb 425 10 Zff:=by
 unfold DD;k_fill
 refine Z9 (names:=["told","one","top","bounds"]) (g:=Zoi) ?_
 exact fun _ _ _ _ _ _ _ c _ _=>(Zx (Z3 (ZbD (Za6 (Z0 vL jN Zby) (Za6 (Za3 (cF c ZwM (jc (cF c ZsM (jc vL (jc vL Zp))) (jc vL Zp)))) ZcO))) (Zy (ZH jN)) Z2) (Zx (ZZ sL (cF c Zka (jc (ZA vL jI) Zp))) (Zx (Zdj (cF c Zur (jc vL (jc vL (jc vL (jc vL Zp)))))) (Zx (Zdj (cF c Zus (jc vL (jc vL (jc vL (jc vL Zp)))))) (Zy (ZH (cF c Zfu (jc (J.tup (jc vL (jc (ZA vL jI) Zp))) Zp))))))))
theorem ZuL: DD w s₀ mg mb 460 11 Zmf:=by
 unfold DD;k_fill
 refine Z9 (names:=["told","one","truth"]) (g:=Zme) ?_
 exact fun _ _ _ _ _ _ _ c _ _=>(Zx (Z3 (Za3 vL) (Zy (ZH (cF c ZhG (jc vL (jc vL (jc (Zct jI Zcm) Zp)))))) Z2) (Zy (ZH (cF c ZhG (jc vL (jc (cF c Ze4 (jc vL (jc (Zct jI Zcm) Zp))) (jc jI Zp)))))))
theorem Zqo: DD w s₀ mg mb 232 2 Zis:=by
 unfold DD;k_fill
 refine Z9 (names:=["one","k"]) (g:=Zlb) ?_
 exact fun _ _ _ _ _ _ _ c _ _=>(Zy (ZH (cF c ZgK (jc (cF c ZjE (jc (ZA vL jI) (jc vL Zp))) (jc (ZA vL jI) Zp)))))
theorem Zut: DD w s₀ mg mb 507 4 ZlQ:=by
 unfold DD;k_fill
 refine Z9 (names:=["rests","one","d","i","k","left","others"]) (g:=ZlP) ?_
 exact fun _ _ _ _ _ _ _ c _ _=>(Zx (ZZ sL (ZA vL vL)) (Zx (ZZ sL (ZA vL (ZI vL jI Zbw))) (Zx (Z3 (Z0 (ZaC (nB c) (jc vL Zp) Zfv) jI Zdo) (Zy (ZH vL)) Z2) (Zx (ZZ sL (cF c Zjp (jc vL (jc (cF c Ze4 (jc (cF c Zfh (jc vL (jc (ZaC (nB c) (jc vL Zp) ZaZ) Zp))) (jc vL Zp))) Zp)))) (Zy (ZH (cF c ZnU (jc vL (jc (cF c Zqo (jc (cF c Zmi (jc (cF c Zgi (jc vL (jc vL Zp))) (jc (Zct vL Zcm) Zp))) (jc vL Zp))) Zp)))))))))
theorem Zq1: DD w s₀ mg mb 500 9 ZiV:=by
 unfold DD;k_fill
 refine Z9 (names:=["told","one","d","rests"]) (g:=ZmI) ?_
 exact fun _ _ _ _ _ _ _ c _ _=>(Zx (Z3 (Z0 vC jN Zby) (Zy (ZH jN)) Z2) (Zx (by refine sO sL ?_ ?_ ?_;(exact(JI.range (nB c) (jc jI (jc (ZaC (nB c) (jc vC Zp) ZaZ) Zp))));(exact fun _ _=>(cF (Zbt c) Zut (jc (ZA vD jI) (jc vD (jc vD (jc vO Zp))))));(exact fun _ _=>JF.nil)) (Zx (Z3 (Z0 jN vL Zib) (Zy (ZH jN)) Z2) (Zy (ZH (cF c Zfu (jc (J.tup (jc (ZA vC jI) (jc vL Zp))) Zp)))))))
theorem Zq2: DD w s₀ mg mb 488 10 ZiX:=by
 unfold DD;k_fill
 refine Z9 (names:=["told","one","d"]) (g:=ZmJ) ?_
 exact fun _ _ _ _ _ _ _ c _ _=>(Zx (Z3 (Zcl (Za3 (cF c Zhq (jc (cF c Zqo (jc (cF c Zgi (jc vL (jc (ZA vL jI) Zp))) (jc vL Zp))) (jc jI Zp))))) (Zy (ZH jN)) Z2) (Zy (ZH (cF c Zq1 (jc vL (jc vL (jc vL Zp)))))))
theorem Zuu: DD w s₀ mg mb 190 2 Zly:=by
 unfold DD;k_fill
 refine Z9 (names:=["one","other"]) (g:=Zlx) ?_
 exact fun _ _ _ _ _ _ _ c _ _=>(Zx (Z3 (Z0 (ZA vL jI) jI Zat) (Zy (ZH (Zb5 vL vL Zat))) Z2) (Zy (ZH (ZgM (Zb5 (ZI (ZA vL jI) (ZA vL jI) ZaT) jI Zat) (cF c Zhq (jc vL (jc (ZA vL jI) Zp)))))))
theorem ZtV: DD w s₀ mg mb 495 11 Zle:=by
 unfold DD;k_fill
 refine Z9 (names:=["told","one","d"]) (g:=Zld) ?_
 exact fun _ _ _ _ _ _ _ c _ _=>(Zx (Z3 (Za3 (cF c Zuu (jc (cF c Zgi (jc vL (jc (ZA vL jI) Zp))) (jc (J.tup (jc vL (jc jI Zp))) Zp)))) (Zy (ZH jN)) Z2) (Zx (Z3 (Z0 vL jI Zat) (Zy (ZH (cF c Zq2 (jc vL (jc (ZI (J.list (jc (ZI (ZA vL jI) jI Zai) Zp)) (Zkb vL jI) Zai) (jc jI Zp)))))) Z2) (Zy (ZH (cF c Zka (jc vL Zp))))))
theorem Zvj: DD w s₀ mg mb 467 11 ZmL:=by
 unfold DD;k_fill
 refine Z9 (names:=["told","one","held"]) (g:=ZmK) ?_
 exact fun _ _ _ _ _ _ _ c _ _=>(Zx (Z3 (Zcl (Za3 (cF c Zhq (jc (cF c Zgi (jc vL (jc (ZA vL jI) Zp))) (jc jI Zp))))) (Zy (ZH jN)) Z2) (Zx (ZZ sL (cF c ZhG (jc (cF c ZhG (jc vL (jc vL (jc jI Zp)))) (jc (cF c Ze4 (jc vL (jc (Zct jI Zcm) Zp))) (jc jI Zp))))) (Zy (ZH (cF c Zq1 (jc vL (jc vL (jc jI Zp))))))))
theorem Zrj: DD w s₀ mg mb 481 11 Zjj:=by
 unfold DD;k_fill
 refine Z9 (names:=["told","one"]) (g:=ZnE) ?_
 exact fun _ _ _ _ _ _ _ c _ _=>(Zx (Z3 (ZbD (Zch (Z0 vL jN Zdh) (Zch (Za3 (cF c Zq0 (jc (cF c Zhr (jc vL (jc vL Zp))) (jc jI Zp)))) Zew))) (Zy (ZH (cF c ZhG (jc vL (jc vL (jc (Zct jI Zcm) Zp)))))) Z2) (Zy (ZH vL)))
theorem ZtW: DD w s₀ mg mb 474 12 Zlg:=by
 unfold DD;k_fill
 refine Z9 (names:=["told","one"]) (g:=Zlf) ?_
 exact fun _ _ _ _ _ _ _ c _ _=>(Zy (ZH (cF c Zka (jc (cF c Zrj (jc (cF c Zrj (jc vL (jc vL Zp))) (jc (cF c Ze4 (jc vL (jc (Zct jI Zcm) Zp))) Zp))) Zp))))
theorem ZAB: DD w s₀ mg mb 453 13 ZpP:=by
 unfold DD;k_fill
 refine Z9 (names:=["told","claim","truth"]) (g:=ZpO) ?_
 exact fun _ _ _ _ _ _ _ c _ _=>(Zx (Z3 (Z0 vL jN Zby) (Zy (ZH jN)) Z2) (Zx (Z3 (Z0 (ZA vL jI) jS Zat) (Zy (ZH (cF c ZuL (jc vL (jc (ZA vL jI) (jc vL Zp)))))) Z2) (Zx (Z3 (Z0 (ZA vL jI) jS Zat) (Zy (ZH (ZeP (Za3 vL) (cF c Zvj (jc vL (jc (ZA vL jI) Zp))) (cF c ZtW (jc vL (jc (ZA vL jI) Zp)))))) Z2) (Zy (ZH (ZeP (Za3 vL) (cF c Zq2 (jc vL (jc (ZA vL jI) (jc (ZA vL jI) Zp)))) (cF c ZtV (jc vL (jc (ZA vL jI) (jc (ZA vL jI) Zp))))))))))
theorem ZtF: DD w s₀ mg mb 411 10 ZkQ:=by
 unfold DD;k_fill
 refine Z9 (names:=["bounds","at","other","new","i","row","j","bound"]) (g:=ZkP) ?_
 exact fun _ _ _ _ _ _ _ c _ _=>(Zx (ZZ sL (cF c Zka (jc vL Zp))) (Zx (Zfn sL sL (JI2.zip (nB c) vL vL) (Zy (Zfn sL sL (JI2.zip (nB c) vL vL) (Zy (Zdj (cF c Zjq (jc vL (jc vL (jc vL (jc vL Zp)))))))))) (Zy (ZH vL))))
theorem ZwN: DD w s₀ mg mb 404 11 Zob:=by
 unfold DD;k_fill
 refine Z9 (names:=["told","at","other","rests","i","left"]) (g:=Zoa) ?_
 exact fun _ _ _ _ _ _ _ c _ _=>(Zx (ZZ sL (ZjP (nB c) (jc (ZA vL jI) Zp) Zoy)) (Zx (Zfn sL sL (JI2.zip (nB c) vL (ZA vL jI)) (Zy (S1.put (cF c ZnU (jc (ZA vL (ZI vL jI Zbw)) (jc vL Zp))) vL (ZI vL jI Zbw)))) (Zx (Z3 (Z0 jN vL Zib) (Zy (ZH jN)) Z2) (Zy (ZH (J.tup (jc (cF c ZtF (jc (ZA vL jI) (jc (ZI (J.list (jc jI Zp)) vL Zai) (jc (ZA vL jI) Zp)))) (jc vL Zp))))))))
theorem ZwO: DD w s₀ mg mb 397 2 Zn8:=by
 unfold DD;k_fill
 refine Z9 (names:=["told","more","n","bounds","new"]) (g:=Zn7) ?_
 exact fun _ _ _ _ _ _ _ c _ _=>(Zx (ZZ sC (ZaC (nB c) (jc (ZA vL jI) Zp) ZaZ)) (Zx (by refine sO sL ?_ ?_ ?_;(exact(JI.seq (ZA vL jI)));(exact fun _ _=>(ZI vO (ZI (J.list (jc jN Zp)) vD Zbx) Zai));(exact fun _ _=>JF.nil)) (Zx (by refine sO sL ?_ ?_ ?_;(exact(JI.range (nB c) (jc (ZI vC jI Zai) (jc (ZI (ZI vC vC Zai) jI Zai) Zp))));(exact fun _ _=>(cF (Zbt c) ZqC (jc vO (jc (ZI vD vD Zai) Zp))));(exact fun _ _=>JF.nil)) (Zy (ZH (J.tup (jc (ZI vL vL Zai) (jc (ZI (ZA vL jI) (ZI (J.list (jc (J.tup (jc jI (jc jI Zp))) Zp)) vC Zbx) Zai) Zp))))))))
theorem Zv4: DD w s₀ mg mb 418 12 ZnJ:=by
 unfold DD;k_fill
 refine Z9 (names:=["told","x","row","summary","sharpened","n","answer","given","both"]) (g:=ZnI) ?_
 exact fun _ _ _ _ _ _ _ c _ _=>(Zx (ZZ sL (cF c Zfu (jc vL Zp))) (Zx (Z3 (ZbD (Za6 (Z0 vL jN Zby) (Za6 (Z0 vL jN Zby) ZcO))) (Zy (ZH jN)) Z2) (Zx (ZZ sL (ZaC (nB c) (jc (ZA vL jI) Zp) ZaZ)) (Zx (ZZ sL (ZI (ZI vL (ZaC (nB c) (jc vL Zp) ZaZ) Zai) jI Zai)) (Zx (ZZ sL (cF c Zo5 (jc vL (jc (ZI (cF c ZnV (jc vL (jc vL Zp))) vL Zai) Zp)))) (Zx (Z3 (Z0 vL jN Zby) (Zy (ZH jN)) Z2) (Zx (ZZ sL (cF c Zfu (jc (cF c ZwN (jc (cF c ZwO (jc vL (jc jI Zp))) (jc (ZyA (nB c) (nB c) (jc (ZI vL jI Zai) (jc (ZI vL jI Zai) Zp))) (jc vL Zp)))) Zp))) (Zy (ZH (cF c Zo5 (jc vL (jc (cF c Zku (jc (cF c ZnV (jc vL (jc vL Zp))) (jc vL (jc (cF c Zfh (jc vL (jc vL Zp))) Zp)))) Zp))))))))))))
theorem ZwP: DD w s₀ mg mb 514 14 Zoo:=by
 unfold DD;k_fill
 refine Z9 (names:=["told","act","summaries","sharpened"]) (g:=Zon) ?_
 exact fun _ _ _ _ _ _ _ c _ _=>(Zx (ZZ sL (cF c Zfu (jc vL Zp))) (Zx (Z3 (ZbD (Za6 (Z0 vL jN Zby) (Za6 (Z0 (ZA vL jI) (J.tup (jc jS (jc jS Zp))) Zib) ZcO))) (Zy (ZH vL)) Z2) (Zx (Z3 (Z0 (ZA vL jI) jS Zat) (Zy (ZH (cF c ZAB (jc vL (jc (ZA vL jI) (jc (ZA vL jI) Zp)))))) Z2) (Zx (Z3 (Z0 (ZA vL jI) jS Zat) (Zy (ZH (cF c Zv4 (jc vL (jc (ZA vL jI) (jc (ZA vL jI) (jc (ZA vL (ZA vL jI)) Zp))))))) Z2) (Zy (ZH (cF c ZwL (jc vL (jc vL Zp)))))))))
theorem ZgX: DD w s₀ mg mb 665 15 ZeV:=by
 unfold DD;k_fill
 refine Z9 (names:=["_law_script","_law_told_here","_law_act","_law_summaries","_law_boxes","_law_due","_law_kept"]) (g:=Zli) ?_
 exact fun _ _ _ _ _ _ _ c _ _=>(Zx (ZZ sL jN) (Zx (Z3 (Z0 vL jN Zdh) (Zy (ZZ sL (cF c ZqZ (jc vL Zp)))) Z2) (Zx (ZZ sL (cF c ZvY (jc vL Zp))) (Zy (ZH (ZgM (cF c Zv0 (jc (cF c ZwP (jc vL (jc vL (jc vL Zp)))) (jc vL Zp))) (Zb5 vL vL Zat)))))))
theorem Zvk: DD w s₀ mg mb 549 3 Zmm:=by
 unfold DD;k_fill
 refine Z9 (names:=["_law_script","_law_k","_law_way"]) (g:=Zml) ?_
 exact fun _ _ _ _ _ _ _ c _ _=>(Zx (ZZ sL (cF c law_pick_d (jc vL (jc vL (jc jI Zp))))) (Zx (Z3 (Z0 (ZI vL jI ZaT) jI ZdH) (Zy (ZH jN)) Z2) (Zx (Z3 (Z0 (ZI vL jI ZaT) jI ZdH) (Zy (ZH jI)) Z2) (Zx (Z3 (Z0 (ZI vL jI ZaT) jI Zat) (Zy (ZH (ZI vL jI ZcS))) Z2) (Zy (ZH (ZaC (nB c) (jc (cF c Zf3 (jc vL (jc vL Zp))) Zp) Zfv)))))))
theorem ZqD: DD w s₀ mg mb 556 1 Zix:=by
 unfold DD;k_fill
 refine Z9 (names:=["_law_m","_law_r"]) (g:=Zlv) ?_
 exact fun _ _ _ _ _ _ _ c _ _=>(Zx (Z3 (Z0 vL jI Zat) (Zy (ZH (J.tup (jc jI (jc vL Zp))))) Z2) (Zy (ZH (J.tup (jc vL (jc (ZI vL vL ZaT) Zp))))))
theorem Zv5: DD w s₀ mg mb 563 3 Zm5:=by
 unfold DD;k_fill
 refine Z9 (names:=["_law_script","_law_k","_law_number_here","_law_way"]) (g:=Zm4) ?_
 exact fun _ _ _ _ _ _ _ c _ _=>(Zx (ZZ sL (cF c law_pick_d (jc vL (jc vL (jc jI Zp))))) (Zx (Z3 (Z0 (ZI vL jI ZaT) jI ZdH) (Zy (ZH (J.tup (jc jI (jc jI Zp))))) Z2) (Zx (Z3 (Z0 (ZI vL jI ZaT) jI Zat) (Zy (ZH (J.tup (jc jI (jc vL Zp))))) Z2) (Zx (Z3 (Z0 (ZI vL jI ZaT) jI Zat) (Zy (ZH (cF c ZqD (jc (ZI (ZI vL jI ZcS) jI Zai) (jc vL Zp))))) Z2) (Zy (ZH (cF c ZqD (jc (ZaC (nB c) (jc (cF c Zf3 (jc vL (jc vL Zp))) Zp) Zfv) (jc vL Zp)))))))))
theorem Zv6: DD w s₀ mg mb 568 4 Zm8:=by
 unfold DD;k_fill
 refine Z9 (names:=["_law_script","_law_k","_law_boxes","_law_full","_law_size","_law_bounds","_law_i","_law_row","_law_j","_law_top"]) (g:=Zm7) ?_
 exact fun _ _ _ _ _ _ _ c _ _=>(Zx (ZZ sL (ZI (J.list (jc jI Zp)) vC Zai)) (Zx (ZZ sC (ZaC (nB c) (jc vL Zp) ZaZ)) (Zx (ZZ sL (J.list Zp)) (Zx (ZcI sL (JI.range (nB c) (jc vC Zp)) (Zx (ZZ sL (J.list Zp)) (Zx (ZcI sL (JI.range (nB c) (jc vC Zp)) (Zx (ZZ sL (cF c Zvk (jc vC (jc (ZI (ZI vC (ZI vL vC Zbx) Zai) vL Zai) Zp)))) (Zx (Z3 (Z0 vL jN Zdh) (Zy (ZZ sL (ZI (ZI (ZA vL vL) (ZA vL vL) Zbw) vL Zai))) Z2) (Zy (Zdj (J.append vL vL)))))) (Zx (S1.put jI vL vL) (Zy (Zdj (J.append vL vL))))))) (Zy (ZH (J.tup (jc vL (jc (by refine cO ?_ ?_ ?_;(exact(JI.range (nB c) (jc (ZI vC jI Zbw) Zp)));(exact fun _ _=>(cF (Zbt c) Zv5 (jc vD (jc (ZI (ZI vD (ZI vD vD Zbx) Zai) vO Zai) (jc (ZA vD vO) Zp)))));(exact fun _ _=>JF.nil)) Zp)))))))))
theorem Zvl: DD w s₀ mg mb 627 2 ZmO:=by
 unfold DD;k_fill
 refine Z9 (names:=["_law_claim_here","_law_boxes","_law_number_here"]) (g:=ZmN) ?_
 exact fun _ _ _ _ _ _ _ c _ _=>(Zx (ZZ sL (cF c Zi5 (jc (ZA vL jI) (jc vL Zp)))) (Zx (Z3 (Z0 (ZA vL jI) jS Zat) (Zy (ZH (Zb5 vL jI ZdH))) Z2) (Zx (Z3 (Z0 (ZA vL jI) jS Zat) (Zy (ZH (Zb5 vL jI Zat))) Z2) (Zy (ZH (Zb5 (ZI vL (ZA vL jI) ZaT) jI Zat))))))
end
end L
end
section
open PySem PySem.W PySem.Calls PyProof.Rows PM
open L
seal PySem.wpAny PM.J PM.Js PM.JT PM.JA PM.JF PM.JI PM.JI2 PM.JP PM.S1 PM.Ss PM.Sto PM.Rd PM.Nm PM.OpN PM.Op2 PM.Def
theorem PySem.Challenge.cw_seer_k56_points_told_exactly_holds : PySem.Challenge.rw_seer_k56_points_told_exactly.Holds :=
 head (by
  w_strict (k_go0;(rename Well _ _ _ _=>w9);(rename Frag.In _ _=>kx9);(rename Top _ _ _ _ _ _=>t9);(rename Fr _ _ _ _=>f9);(rename News _ _ _ _=>n9);(rename CellsAre _ _ _=>x9);(rename (PyData.layable0 _=true)=>hl9);(obtain⟨H9,e9⟩:=L.ZuI (by omega) hl9);(refine' PM.ZxX (names:=["_law_script","_law_many","_law_boxes","_law_told_here","_law_claim_here","_law_truth","_law_due","_law_x","_law_step_here","_law_call_here"]) (g:=ZoO) (room:=15) ?hb ?h1 ?h2 ?h3 ?h4 kx9 t9 w9 ?len f9 n9 x9 e9 ?post);(case h1=>decide);(case h2=>decide);(case h3=>rfl);(case h4=>rfl);(case len=>(rw[PM.Zbc];omega));(case hb=>(intro dp un gd L a ccd outer h₀ hu clr hd1 hu1;exact(Zx (ZZ sL (ZA (J.list (jc jI (jc jI (jc jI (jc jI (jc jI (jc jI (jc jI (jc jI (jc jI Zp)))))))))) (cF clr law_pick_d (jc vC (jc jI (jc jI Zp)))))) (Zx (by refine sO sL ?_ ?_ ?_;(exact(JI.range (nB clr) (jc vL Zp)));(exact fun _ _=>(cF (Zbt clr) Zf3 (jc vD (jc (ZI jI vO Zai) Zp))));(exact fun _ _=>JF.nil)) (Zx (ZZ sL (cF clr Zvf (jc (cF clr Zv6 (jc vC (jc jI (jc vL Zp)))) (jc vL Zp)))) (Zx (Z3 (Zcl (Za3 (cF clr ZgX (jc vC (jc vL (jc (J.tup (jc jS Zp)) (jc (J.list Zp) (jc vL Zp)))))))) (Zy (ZH jB)) Z2) (Zx (ZZ sL (cF clr Zvg (jc vC (jc jI (jc vL Zp))))) (Zx (Z3 (Zcl (Za3 (cF clr ZgX (jc vC (jc vL (jc (J.tup (jc jS (jc vL Zp))) (jc (J.list Zp) (jc vL Zp)))))))) (Zy (ZH jB)) Z2) (Zx (ZcI sL (JI.seq (J.list (jc jB (jc jB Zp)))) (Zx (ZZ sL jN) (Zx (Z3 (Z0 (cF clr Zvl (jc vL (jc vL Zp))) vL Zat) (Zy (ZZ sL vL)) Z2) (Zy (Z3 (Zcl (Za3 (cF clr ZgX (jc vC (jc vL (jc (J.tup (jc jS (jc vL (jc vL Zp)))) (jc (J.list Zp) (jc vL Zp)))))))) (Zy (ZH jB)) Z2))))) (Zx (ZZ sL (ZI jI (cF clr law_pick_d (jc vC (jc jI (jc (ZaC (nB clr) (jc vL Zp) ZaZ) Zp)))) Zai)) (Zx (ZZ sL (cF clr ZvW (jc vC (jc vL (jc vL Zp))))) (Zx (ZZ sL (cF clr ZvX (jc vC (jc vL (jc vL Zp))))) (Zx (Z3 (Zcl (Za3 (cF clr ZgX (jc vC (jc vL (jc (ZA vL jI) (jc (J.list Zp) (jc (ZA vL jI) Zp)))))))) (Zy (ZH jB)) Z2) (Zy (ZH (cF clr ZgX (jc vC (jc vL (jc (ZA vL jI) (jc (ZA vL jI) (jc (ZA vL jI) Zp)))))))))))))))))))));(case post=>(intro h' tk' m' F';k_steps)))
  )
end
