import PyProof.Rows.All
import Wide.All
import OpenK.AllK
import Wide.FinOn
import PySem.Challenge.RW_seer_k55_claims_and_calls
import PyProof.Rows.News
import PyProof.Rows.Nodes
import PyProof.Rows.Chain
import PyProof.Rows.TupSub
import PyProof.PureInt
import PyProof.Rules2
import PyProof.Rules3
import PyProof.Rows.Globals
import PyProof.Rows.RuleB_mod
import PyProof.Rows.RuleB_floordiv
import PyProof.Rows.RuleB_small
import PyProof.NoPylong
import PyProof.Rows.RuleB_pow
import PyProof.Rows.EqDataRows
import PyProof.Rows.StrTemp
import PyProof.Rows.TupAdd
import PyProof.Rows.ListMul
import PyProof.ListIndexNeg
import PyProof.SliceList
import PyProof.Methods
import PyProof.Rows.Tup
import PyProof.IsiPairs
import PyProof.IsiHeapPairs
import PyProof.IsiNone
import PyProof.Rows.RuleN_abs
import PyProof.Rows.SumAny
import PyProof.WalkInts
import PyProof.PvWalk
import PyProof.RulesRaise
import PyProof.Raises
import PyProof.Dict
import PyProof.Seq
import PyProof.Rows.ListAppend
import PyProof.ForAppend
import PyProof.ForAny
import PyProof.Walks
import PyProof.WalksT
import KE.KItem
import PyProof.WalksMore
import PyProof.RangeFor
import PyProof.Rows.Range3
import OpenK.KCell
import KE.KTree
import KE.RegLcTurns
import KE.KCompFold
import KE.KLcPair
import KE.LcTurns
import PyProof.CompUse
import PyProof.Rows.ZipGen
import OpenK.KLine
import KE.KState
import Wide.Well
import PyProof.ListCopy
import PyProof.Rows.TupleOfSeqD
import KE.LcSums
import KE.KCellOne
import PyProof.FitsBits
import KE.KEqDeep
import PyProof.Rows.TupMore
import PyProof.Rows.NestLooks
import PyProof.EnumMake
import PyProof.WalksEnum
import PyProof.Rows.SortWalk
import PyProof.DictStraight
import PyProof.EqAt
import PyProof.Rows.SeqMore2
import PyProof.ListRange
import PyProof.LongRange
import KE.KAnyBase
import PyProof.Rows.SeqSlice
set_option linter.all false
set_option maxRecDepth 100000
set_option maxHeartbeats 8000000
abbrev Zz0:=@Option.bind_eq_some_iff
abbrev Zz1:=@Option.map_eq_some_iff
abbrev Zz2:=@List.mem_cons_of_mem
abbrev Zz3:=@List.mem_append_right
abbrev Zz4:=@List.mem_append_left
abbrev Zz5:=@List.mem_cons_self
abbrev Zz6:=@List.getElem?_eq_some_iff
abbrev Zz7:=@List.mem_cons
abbrev Zz8:=@List.mem_append
abbrev Zz9:=@List.mem_singleton
abbrev Zz10:=@Nat.le_refl
abbrev Zz11:=@List.mem_map
set_option Elab.async false
set_option compiler.extract_closed false
section
/-! The plain machine: values as trees, lists as places; and how it stands for the model's heap. -/
namespace PM
open PySem PyProof.Rows
inductive V where
 | none
 | bool (b:Bool)
 | int (i:Int)
 | str (s:Str)
 | tup (vs:List V)
 | ref (a:Nat)
noncomputable abbrev Hp:=List (List V)
noncomputable abbrev Lc:=Nat→Option V
noncomputable def LEN: Nat:=100000
theorem Zba: LEN=100000:=rfl
theorem Zdf{n:Nat}(h:n≤LEN): n≤sizeLine:=by
 have:sizeLine=2 ^ 24:=rfl
 rw[this];rw[Zba]at h;omega
noncomputable abbrev Zfo(xs:List Value)(k:Nat): Obj:={ cls:=.type "tuple",data:=.seq xs.toArray k }
noncomputable abbrev ZbU(xs:List Value)(k:Nat): Obj:={ cls:=.type "list",data:=.seq xs.toArray k }
structure Wd where
 pi:List Addr
 tups:List (Addr×Obj)
 sc:Addr×Obj
structure Wd.Le(W W':Wd): Prop where
 pi:W.pi <+: W'.pi
 tups:∀q∈W.tups,q∈W'.tups
 sc:W'.sc=W.sc
theorem Wd.Le.refl(W:Wd): W.Le W:=⟨List.prefix_refl _,fun _ h=>h,rfl⟩
theorem Wd.Le.trans{W W' W'':Wd}(a:W.Le W')(b:W'.Le W''): W.Le W'':=⟨a.pi.trans b.pi,fun q h=>b.tups q (a.tups q h),b.sc.trans a.sc⟩
theorem Wd.Le.at{W W':Wd}(h:W.Le W'){i:Nat}{a:Addr}(e:W.pi[i]?=some a): W'.pi[i]?=some a:=by
 obtain⟨t,ht⟩:=h.pi
 have hi:i<W.pi.length:=(Zz6.mp e).1
 rw[←ht,List.getElem?_append_left hi]
 exact e
mutual
inductive VR(W:Wd): V→Value→Prop where
 | none:VR W .none .none
 | bool (b:Bool):VR W (.bool b) (.bool b)
 | int (i:Int) (t:Tok):VR W (.int i) (.int i t)
 | str (s:Str) (t:Tok):VR W (.str s) (.str s t)
 | tup {vs:List V} {a:Addr} {xs:List Value} {k:Nat}:(a,Zfo xs k)∈W.tups→vs.length≤LEN→VRs W vs xs→VR W (.tup vs) (.ref a)
 | ref {i:Nat} {a:Addr}:W.pi[i]?=some a→VR W (.ref i) (.ref a)
inductive VRs(W:Wd): List V→List Value→Prop where
 | nil:VRs W [] []
 | cons {v:V} {x:Value} {vs:List V} {xs:List Value}:VR W v x→VRs W vs xs→VRs W (v::vs) (x::xs)
end
mutual
theorem VR.mono{W W':Wd}(h:W.Le W'){v:V}{x:Value}(r:VR W v x): VR W' v x:=by
 cases r with
 | none=>exact .none
 | bool b=>exact .bool b
 | int i t=>exact .int i t
 | str s t=>exact .str s t
 | tup hm hl hs=>exact .tup (h.tups _ hm) hl (VRs.mono h hs)
 | ref e=>exact .ref (h.at e)
theorem VRs.mono{W W':Wd}(h:W.Le W'){vs:List V}{xs:List Value}(r:VRs W vs xs): VRs W' vs xs:=by
 cases r with
 | nil=>exact .nil
 | cons a b=>exact .cons (VR.mono h a) (VRs.mono h b)
end
theorem VRs.length{W:Wd}: ∀{vs:List V} {xs:List Value},VRs W vs xs→xs.length=vs.length
 | _,_,.nil=>rfl
 | _,_,.cons _ r=>by rw[List.length_cons,List.length_cons,r.length]
theorem VRs.at{W:Wd}: ∀{vs:List V} {xs:List Value} {i:Nat} {v:V},VRs W vs xs→vs[i]?=some v→∃x,xs[i]?=some x∧VR W v x
 | _,_,_,_,.nil,e=>by simp at e
 | _,_,0,_,.cons a _,e=>by
  simp at e
  exact⟨_,by simp,e▸a⟩
 | _,_,i+1,_,.cons _ r,e=>by
  simp at e
  obtain⟨x,hx,hr⟩:=r.at e
  exact⟨x,by simpa using hx,hr⟩
theorem VRs.append{W:Wd}: ∀{vs us:List V} {xs ys:List Value},VRs W vs xs→VRs W us ys→VRs W (vs++us) (xs++ys)
 | _,_,_,_,.nil,h=>h
 | _,_,_,_,.cons a r,h=>.cons a (r.append h)
theorem VRs.snoc{W:Wd}{vs:List V}{xs:List Value}{v:V}{x:Value}(h:VRs W vs xs)(r:VR W v x): VRs W (vs++[v]) (xs++[x]):=h.append (.cons r .nil)
theorem VRs.set{W:Wd}: ∀{vs:List V} {xs:List Value} {v:V} {x:Value} (i:Nat),VRs W vs xs→VR W v x→VRs W (vs.set i v) (xs.set i x)
 | _,_,_,_,_,.nil,_=>.nil
 | _,_,_,_,0,.cons _ r,h=>.cons h r
 | _,_,_,_,i+1,.cons a r,h=>.cons a (r.set i h)
theorem VRs.drop{W:Wd}: ∀{vs:List V} {xs:List Value} (i:Nat),VRs W vs xs→VRs W (vs.drop i) (xs.drop i)
 | _,_,0,h=>h
 | _,_,_+1,.nil=>.nil
 | _,_,i+1,.cons _ r=>r.drop i
structure HR(W:Wd)(H:Hp)(led:List (Addr×Obj)): Prop where
 len:W.pi.length=H.length
 nd:W.pi.Nodup
 lists:∀(i:Nat) (vs:List V),H[i]?=some vs→vs.length≤LEN∧∃a xs k,W.pi[i]?=some a∧(a,ZbU xs k)∈led∧VRs W vs xs
 tups:∀q∈W.tups,q∈led
 kind:∀q∈W.tups,∃xs k,q.2=Zfo xs k
theorem HR.mono{W:Wd}{H:Hp}{led led':List (Addr×Obj)}(R:HR W H led)(h:∀q∈led,q∈led'): HR W H led':=
 ⟨R.len,R.nd,fun i vs e=>by
  obtain⟨l,a,xs,k,h1,h2,h3⟩:=R.lists i vs e
  exact⟨l,a,xs,k,h1,h _ h2,h3⟩,fun q hq=>h q (R.tups q hq),R.kind⟩
structure Cx where
 A:Around
 env:Env
 h₀:Heap
 L:Addr
 hh:A.handled=none
 hu:A.units+200<cLine
 Own:Wd→Lc→(Str→Option Value)→List (Addr×Obj)→Prop
 mono:∀{W W':Wd} {ρ:Lc} {m:Str→Option Value} {c:List (Addr×Obj)},W.Le W'→Own W ρ m c→Own W' ρ m c
structure Rep'(Γ:Cx)(W:Wd)(ρ:Lc)(H:Hp)(fr:List (Addr×Obj))(h:Heap)(m:Str→Option Value)(cells led:List (Addr×Obj)): Prop where
 F:Fr Γ.h₀ Γ.L h m
 N:News Γ.h₀ Γ.L h led
 R:HR W H (W.sc::led)
 sc:Γ.h₀.get? W.sc.1=some W.sc.2
 sc0:W.pi[0]?=some W.sc.1
 frIn:∀q∈fr,q∈led
 frOff:∀q∈fr,q.1∉W.pi
 clIn:∀q∈cells,q∈led
 clOff:∀q∈cells,q.1∉W.pi
 apart:∀q∈cells,∀r∈fr,q.1≠r.1
 frTup:∀q∈fr,∀t∈W.tups,q.1≠t.1
 clTup:∀q∈cells,∀t∈W.tups,q.1≠t.1
 own:Γ.Own W ρ m cells
def Rep(Γ:Cx)(W:Wd)(ρ:Lc)(H:Hp)(fr:List (Addr×Obj))(h:Heap): Prop:=∃m cells led,Rep' Γ W ρ H fr h m cells led
theorem Rep.grown{Γ:Cx}{W:Wd}{ρ:Lc}{H:Hp}{fr:List (Addr×Obj)}{h h':Heap}(r:Rep Γ W ρ H fr h)(up:∀b o,h.get? b=some o→h'.get? b=some o): Rep Γ W ρ H fr h':=by
 obtain⟨m,c,led,r⟩:=r
 refine⟨m,c,led,⟨⟨?_,fun b o e=>up b o (r.F.keep b o e),r.F.above⟩,fun q hq=>⟨up _ _ (r.N q hq).1,(r.N q hq).2⟩,r.R,r.sc,r.sc0,r.frIn,r.frOff,r.clIn,r.clOff,r.apart,r.frTup,r.clTup,r.own⟩⟩
 obtain⟨o,es,ep,h1,h2⟩:=r.F.ns
 exact⟨o,es,ep,up _ _ h1,h2⟩
theorem Rep.push{Γ:Cx}{W:Wd}{ρ:Lc}{H:Hp}{fr:List (Addr×Obj)}{h:Heap}(r:Rep Γ W ρ H fr h)(o:Obj): Rep Γ W ρ H fr (h.push o):=r.grown fun _ _ e=>Heap.get?_push_of_some _ e
theorem ZeD{q s:Addr×Obj}{l l':List (Addr×Obj)}(h:q∈s::l)(m:q∈l→q∈l'): q∈s::l':=by
 rcases Zz7.mp h with e | h
 ·exact e▸List.mem_cons_self
 ·exact Zz2 _ (m h)
theorem Zgf{q s:Addr×Obj}{l l':List (Addr×Obj)}(h:q∈s::l)(m:∀x∈l,x∈l'): q∈s::l':=by
 rcases Zz7.mp h with e | h
 ·exact e▸List.mem_cons_self
 ·exact Zz2 _ (m q h)
theorem Rep'.get{Γ:Cx}{W:Wd}{ρ:Lc}{H:Hp}{fr:List (Addr×Obj)}{h:Heap}{m:Str→Option Value}{c led:List (Addr×Obj)}(r:Rep' Γ W ρ H fr h m c led){q:Addr×Obj}(hq:q∈W.sc::led): h.get? q.1=some q.2:=by
 rcases Zz7.mp hq with e | hq
 ·rw[e]
  exact r.F.keep _ _ r.sc
 ·exact(r.N q hq).1
theorem Rep'.off{Γ:Cx}{W:Wd}{ρ:Lc}{H:Hp}{fr:List (Addr×Obj)}{h:Heap}{m:Str→Option Value}{c led:List (Addr×Obj)}(r:Rep' Γ W ρ H fr h m c led): ∀q∈W.sc::led,q.1≠h.objs.size:=fun q hq=>Nat.ne_of_lt (Heap.lt_size (r.get hq))
theorem Rep'.same{Γ:Cx}{W:Wd}{ρ:Lc}{H:Hp}{fr:List (Addr×Obj)}{h h':Heap}{m:Str→Option Value}{c led:List (Addr×Obj)}(r:Rep' Γ W ρ H fr h m c led)(F':Fr Γ.h₀ Γ.L h' m)(N':News Γ.h₀ Γ.L h' led): Rep Γ W ρ H fr h':=
 ⟨m,c,led,F',N',r.R,r.sc,r.sc0,r.frIn,r.frOff,r.clIn,r.clOff,r.apart,r.frTup,r.clTup,r.own⟩
theorem Rep'.piIn{Γ:Cx}{W:Wd}{ρ:Lc}{H:Hp}{fr:List (Addr×Obj)}{h:Heap}{m:Str→Option Value}{c led:List (Addr×Obj)}(r:Rep' Γ W ρ H fr h m c led): ∀a∈W.pi,∃o,(a,o)∈W.sc::led:=by
 intro a ha
 obtain⟨i,hi,e⟩:=List.getElem_of_mem ha
 have hi':i<H.length:=r.R.len▸hi
 obtain⟨_,b,xs,k,h1,h2,_⟩:=r.R.lists i H[i] (List.getElem?_eq_getElem hi')
 have:b=a:=by rw[List.getElem?_eq_getElem hi,e]at h1;exact(Option.some.inj h1).symm
 exact⟨_,this▸h2⟩
theorem Rep'.inLed{Γ:Cx}{W:Wd}{ρ:Lc}{H:Hp}{fr:List (Addr×Obj)}{h:Heap}{m:Str→Option Value}{c led:List (Addr×Obj)}(r:Rep' Γ W ρ H fr h m c led){i:Nat}{a:Addr}{o:Obj}(hi:i≠0)(ea:W.pi[i]?=some a)(hm:(a,o)∈W.sc::led): (a,o)∈led:=by
 rcases Zz7.mp hm with e | hm
 ·have e1:a=W.sc.1:=congrArg (·.1) e
  have hl:i<W.pi.length:=(Zz6.mp ea).1
  have:i=0:=(List.getElem?_inj hl r.R.nd).mp (by rw[ea,r.sc0,e1])
  exact absurd this hi
 ·exact hm
theorem Rep'.notSc{Γ:Cx}{W:Wd}{ρ:Lc}{H:Hp}{fr:List (Addr×Obj)}{h:Heap}{m:Str→Option Value}{c led:List (Addr×Obj)}(r:Rep' Γ W ρ H fr h m c led): ∀q∈led,q.1≠W.sc.1:=fun q hq e=>by
 have:=(r.N q hq).2.2
 rw[e,r.sc]at this
 cases this
theorem Rep'.newTup{Γ:Cx}{W:Wd}{ρ:Lc}{H:Hp}{fr:List (Addr×Obj)}{h h':Heap}{m:Str→Option Value}{c led:List (Addr×Obj)}{vs:List V}{xs:List Value}{k:Nat}{n:Addr}(r:Rep' Γ W ρ H fr h m c led)(F':Fr Γ.h₀ Γ.L h' m)(N':News Γ.h₀ Γ.L h' ((n,Zfo xs k)::led))(hn:∀q∈W.sc::led,q.1≠n)(hv:VRs W vs xs)(hl:vs.length≤LEN):
  ∃W',W.Le W'∧Rep Γ W' ρ H fr h'∧VR W' (.tup vs) (.ref n):=by
 have le:W.Le ⟨W.pi,(n,Zfo xs k)::W.tups,W.sc⟩:=⟨List.prefix_refl _,fun q hq=>List.mem_cons_of_mem _ hq,rfl⟩
 refine⟨⟨W.pi,(n,Zfo xs k)::W.tups,W.sc⟩,le,⟨m,c,(n,Zfo xs k)::led,⟨F',N',?_,r.sc,r.sc0,fun q hq=>List.mem_cons_of_mem _ (r.frIn q hq),r.frOff,fun q hq=>List.mem_cons_of_mem _ (r.clIn q hq),r.clOff,r.apart,fun q hq t ht=>?_,fun q hq t ht=>?_,Γ.mono le r.own⟩⟩,.tup Zz5 hl (hv.mono le)⟩
 ·refine⟨r.R.len,r.R.nd,fun i us e=>?_,fun q hq=>?_,fun q hq=>?_⟩
  ·obtain⟨l,a,ys,j,h1,h2,h3⟩:=r.R.lists i us e
   exact⟨l,a,ys,j,h1,Zgf h2 fun x hx=>List.mem_cons_of_mem _ hx,h3.mono le⟩
  ·rcases Zz7.mp hq with e | hq
   ·exact e▸List.mem_cons_of_mem _ Zz5
   ·exact Zgf (r.R.tups q hq) fun x hx=>List.mem_cons_of_mem _ hx
  ·rcases Zz7.mp hq with e | hq
   ·exact⟨xs,k,by rw[e]⟩
   ·exact r.R.kind q hq
 ·rcases Zz7.mp ht with e | ht
  ·rw[e]
   exact hn q (Zz2 _ (r.frIn q hq))
  ·exact r.frTup q hq t ht
 ·rcases Zz7.mp ht with e | ht
  ·rw[e]
   exact hn q (Zz2 _ (r.clIn q hq))
  ·exact r.clTup q hq t ht
theorem Rep.tuple{Γ:Cx}{W:Wd}{ρ:Lc}{H:Hp}{fr:List (Addr×Obj)}{h:Heap}{vs:List V}{xs:List Value}{k:Nat}(r:Rep Γ W ρ H fr h)(hv:VRs W vs xs)(hl:vs.length≤LEN):
  ∃W',W.Le W'∧Rep Γ W' ρ H fr (h.push (Zfo xs k))∧VR W' (.tup vs) (.ref h.objs.size):=by
 obtain⟨m,c,led,r⟩:=r
 exact r.newTup (r.F.push _) (News.push r.F r.N _) r.off hv hl
theorem Rep'.newList{Γ:Cx}{W:Wd}{ρ:Lc}{H:Hp}{fr:List (Addr×Obj)}{h h':Heap}{m:Str→Option Value}{c led:List (Addr×Obj)}{vs:List V}{xs:List Value}{k:Nat}{n:Addr}(r:Rep' Γ W ρ H fr h m c led)(F':Fr Γ.h₀ Γ.L h' m)(N':News Γ.h₀ Γ.L h' ((n,ZbU xs k)::led))(hn:∀q∈W.sc::led,q.1≠n)(hv:VRs W vs xs)(hl:vs.length≤LEN):
  ∃W',W.Le W'∧Rep Γ W' ρ (H++[vs]) fr h'∧VR W' (.ref H.length) (.ref n):=by
 have le:W.Le ⟨W.pi++[n],W.tups,W.sc⟩:=⟨List.prefix_append _ _,fun q hq=>hq,rfl⟩
 have h0:0<W.pi.length:=(Zz6.mp r.sc0).1
 have at_n:(W.pi++[n])[H.length]?=some n:=by rw[←r.R.len];simp
 refine⟨⟨W.pi++[n],W.tups,W.sc⟩,le,⟨m,c,(n,ZbU xs k)::led,⟨F',N',?_,r.sc,(List.getElem?_append_left h0).trans r.sc0,fun q hq=>List.mem_cons_of_mem _ (r.frIn q hq),fun q hq=>?_,fun q hq=>List.mem_cons_of_mem _ (r.clIn q hq),fun q hq=>?_,r.apart,r.frTup,r.clTup,Γ.mono le r.own⟩⟩,.ref at_n⟩
 ·refine⟨by simp[r.R.len],?_,fun i us e=>?_,fun q hq=>Zgf (r.R.tups q hq) fun x hx=>List.mem_cons_of_mem _ hx,r.R.kind⟩
  ·show(W.pi++[n]).Nodup
   rw[List.nodup_append]
   refine⟨r.R.nd,by simp,fun a ha b hb=>?_⟩
   rw[List.mem_singleton.mp hb]
   obtain⟨o,ho⟩:=r.piIn a ha
   exact hn _ ho
  ·by_cases hi:i<H.length
   ·rw[List.getElem?_append_left hi]at e
    obtain⟨l,a,ys,j,h1,h2,h3⟩:=r.R.lists i us e
    exact⟨l,a,ys,j,le.at h1,Zgf h2 fun x hx=>List.mem_cons_of_mem _ hx,h3.mono le⟩
   ·have:i=H.length:=by
     have:=(Zz6.mp e).1
     simp at this
     omega
    subst this
    simp at e
    subst e
    exact⟨hl,n,xs,k,at_n,List.mem_cons_of_mem _ Zz5,hv.mono le⟩
 ·intro hm
  rcases Zz8.mp hm with hm | hm
  ·exact r.frOff q hq hm
  ·exact hn q (Zz2 _ (r.frIn q hq)) (Zz9.mp hm)
 ·intro hm
  rcases Zz8.mp hm with hm | hm
  ·exact r.clOff q hq hm
  ·exact hn q (Zz2 _ (r.clIn q hq)) (Zz9.mp hm)
theorem Rep.list{Γ:Cx}{W:Wd}{ρ:Lc}{H:Hp}{fr:List (Addr×Obj)}{h:Heap}{vs:List V}{xs:List Value}{k:Nat}(r:Rep Γ W ρ H fr h)(hv:VRs W vs xs)(hl:vs.length≤LEN):
  ∃W',W.Le W'∧Rep Γ W' ρ (H++[vs]) fr (h.push (ZbU xs k))∧VR W' (.ref H.length) (.ref h.objs.size):=by
 obtain⟨m,c,led,r⟩:=r
 exact r.newList (r.F.push _) (News.push r.F r.N _) r.off hv hl
theorem Rep.at{Γ:Cx}{W:Wd}{ρ:Lc}{H:Hp}{fr:List (Addr×Obj)}{h:Heap}{i:Nat}{a:Addr}{vs:List V}(r:Rep Γ W ρ H fr h)(e:H[i]?=some vs)(ea:W.pi[i]?=some a): vs.length≤LEN∧∃xs k,h.get? a=some (ZbU xs k)∧VRs W vs xs:=by
 obtain⟨m,c,led,r⟩:=r
 obtain⟨l,b,xs,k,h1,h2,h3⟩:=r.R.lists i vs e
 rw[ea]at h1
 cases h1
 exact⟨l,xs,k,r.get h2,h3⟩
theorem Rep.tupAt{Γ:Cx}{W:Wd}{ρ:Lc}{H:Hp}{fr:List (Addr×Obj)}{h:Heap}{q:Addr×Obj}(r:Rep Γ W ρ H fr h)(e:q∈W.tups): h.get? q.1=some q.2:=by
 obtain⟨m,c,led,r⟩:=r
 exact r.get (r.R.tups _ e)
theorem Rep'.changed{Γ:Cx}{W:Wd}{ρ:Lc}{H:Hp}{fr:List (Addr×Obj)}{h h':Heap}{m:Str→Option Value}{c led:List (Addr×Obj)}{i:Nat}{a:Addr}{vs us:List V}{ys:List Value}{k:Nat}(r:Rep' Γ W ρ H fr h m c led)(i0:i≠0)(e:H[i]?=some vs)(ea:W.pi[i]?=some a)(F':Fr Γ.h₀ Γ.L h' m)(N':News Γ.h₀ Γ.L h' ((a,ZbU ys k)::led.filter (fun q=>decide (q.1≠a))))(hv:VRs W us ys)(hl:us.length≤LEN):
  Rep Γ W ρ (H.set i us) fr h':=by
 obtain⟨_,b,xs,j,h1,h2,h3⟩:=r.R.lists i vs e
 rw[ea]at h1
 cases h1
 have h2:=r.inLed i0 ea h2
 have hN:=r.N _ h2
 have hm:a∈W.pi:=List.mem_of_getElem? ea
 have hi:i<H.length:=(Zz6.mp e).1
 refine⟨m,c,(a,ZbU ys k)::led.filter (fun q=>decide (q.1≠a)),⟨F',N',?_,r.sc,r.sc0,fun q hq=>?_,r.frOff,fun q hq=>?_,r.clOff,r.apart,r.frTup,r.clTup,r.own⟩⟩
 ·refine⟨by simp[r.R.len],r.R.nd,fun n ws en=>?_,fun q hq=>?_,r.R.kind⟩
  ·by_cases hn:n=i
   ·subst hn
    rw[List.getElem?_set_self hi]at en
    cases en
    exact⟨hl,a,ys,k,ea,List.mem_cons_of_mem _ Zz5,hv⟩
   ·rw[List.getElem?_set_ne (Ne.symm hn)]at en
    obtain⟨l,d,zs,j',g1,g2,g3⟩:=r.R.lists n ws en
    refine⟨l,d,zs,j',g1,ZeD g2 fun g2=>List.mem_cons_of_mem _ (List.mem_filter.mpr ⟨g2,?_⟩),g3⟩
    have:d≠a:=fun e=>by
     subst e
     exact hn ((List.getElem?_inj (Zz6.mp g1).1 r.R.nd).mp (g1.trans ea.symm))
    simpa using this
  ·refine ZeD (r.R.tups q hq) fun g2=>List.mem_cons_of_mem _ (List.mem_filter.mpr ⟨g2,?_⟩)
   have:q.1≠a:=fun e=>by
    obtain⟨zs,j',hk⟩:=r.R.kind q hq
    have g:=r.get (r.R.tups q hq)
    rw[e,hN.1,hk]at g
    have c:=congrArg Obj.cls (Option.some.inj g)
    exact absurd c (by simp)
   simpa using this
 ·refine Zz2 _ (List.mem_filter.mpr ⟨r.frIn q hq,?_⟩)
  have:q.1≠a:=fun e=>r.frOff q hq (e▸hm)
  simpa using this
 ·refine Zz2 _ (List.mem_filter.mpr ⟨r.clIn q hq,?_⟩)
  have:q.1≠a:=fun e=>r.clOff q hq (e▸hm)
  simpa using this
theorem Rep.change{Γ:Cx}{W:Wd}{ρ:Lc}{H:Hp}{fr:List (Addr×Obj)}{h h':Heap}{i:Nat}{a:Addr}{vs us:List V}{ys:List Value}{k:Nat}(r:Rep Γ W ρ H fr h)(i0:i≠0)(e:H[i]?=some vs)(ea:W.pi[i]?=some a)(sb:Heap.SameBut a h h')(ha:h'.get? a=some (ZbU ys k))(hv:VRs W us ys)(hl:us.length≤LEN):
  Rep Γ W ρ (H.set i us) fr h':=by
 obtain⟨m,c,led,r⟩:=r
 obtain⟨_,b,xs,j,h1,h2,h3⟩:=r.R.lists i vs e
 rw[ea]at h1
 cases h1
 have h2:=r.inLed i0 ea h2
 have hN:=r.N _ h2
 have keep:∀q∈led,q.1≠a→h'.get? q.1=some q.2:=fun q hq hn=>sb.extBut _ _ hn (r.N q hq).1
 refine r.changed (k:=k) i0 e ea ⟨r.F.ns.sameBut sb (Ne.symm hN.2.1),fun b o eb=>sb.extBut b o (fun q=>?_) (r.F.keep b o eb),r.F.above⟩ (fun q hq=>?_) hv hl
 ·subst q
  rw[hN.2.2]at eb
  cases eb
 ·rcases Zz7.mp hq with e | hq
  ·subst e
   exact⟨ha,hN.2⟩
  ·obtain⟨h1,h2⟩:=List.mem_filter.mp hq
   exact⟨keep q h1 (by simpa using h2),(r.N q h1).2⟩
theorem Rep.swap{Γ:Cx}{W:Wd}{ρ:Lc}{H:Hp}{fs fs' fr:List (Addr×Obj)}{h h':Heap}(r:Rep Γ W ρ H (fs++fr) h)(ap:∀q∈fs,∀t∈fr,q.1≠t.1)(keep:∀b o,b∉fs.map (·.1)→h.get? b=some o→h'.get? b=some o)(new:∀q∈fs',h'.get? q.1=some q.2∧q.1∈fs.map (·.1)): Rep Γ W ρ H (fs'++fr) h':=by
 obtain⟨m,c,led,r⟩:=r
 have inF:∀q∈fs,q∈fs++fr:=fun q hq=>List.mem_append_left _ hq
 have nL:∀a∈fs.map (·.1),a≠Γ.L∧Γ.h₀.get? a=none:=fun a ha=>by
  obtain⟨q,hq,e⟩:=Zz11.mp ha
  exact e▸(r.N q (r.frIn q (inF q hq))).2
 have kp:∀q∈led,q.1∉fs.map (·.1)→h'.get? q.1=some q.2:=fun q hq hn=>keep _ _ hn (r.N q hq).1
 refine⟨m,c,fs'++led.filter (fun q=>decide (q.1∉fs.map (·.1))),⟨⟨?_,fun b o e=>?_,r.F.above⟩,fun q hq=>?_,⟨r.R.len,r.R.nd,fun i vs e=>?_,fun q hq=>?_,r.R.kind⟩,r.sc,r.sc0,fun q hq=>?_,fun q hq=>?_,fun q hq=>?_,r.clOff,fun q hq t ht=>?_,fun q hq t ht=>?_,r.clTup,r.own⟩⟩
 ·obtain⟨o,es,ep,h1,h2⟩:=r.F.ns
  exact⟨o,es,ep,keep _ _ (fun q=>(nL _ q).1 rfl) h1,h2⟩
 ·refine keep b o (fun q=>?_) (r.F.keep b o e)
  rw[(nL b q).2]at e
  cases e
 ·rcases Zz8.mp hq with hq | hq
  ·obtain⟨h1,h2⟩:=new q hq
   exact⟨h1,nL _ h2⟩
  ·obtain⟨h1,h2⟩:=List.mem_filter.mp hq
   exact⟨kp q h1 (by simpa using h2),(r.N q h1).2⟩
 ·obtain⟨l,a,xs,k,h1,h2,h3⟩:=r.R.lists i vs e
  refine⟨l,a,xs,k,h1,ZeD h2 fun h2=>List.mem_append_right _ (List.mem_filter.mpr ⟨h2,?_⟩),h3⟩
  have:a∉fs.map (·.1):=fun q=>by
   obtain⟨t,ht,e⟩:=Zz11.mp q
   exact r.frOff t (inF t ht) (e▸List.mem_of_getElem? h1)
  simpa using this
 ·refine ZeD (r.R.tups q hq) fun h2=>List.mem_append_right _ (List.mem_filter.mpr ⟨h2,?_⟩)
  have:q.1∉fs.map (·.1):=fun z=>by
   obtain⟨t,ht,e⟩:=Zz11.mp z
   exact r.frTup t (inF t ht) q hq e
  simpa using this
 ·rcases Zz8.mp hq with hq | hq
  ·exact Zz4 _ hq
  ·refine Zz3 _ (List.mem_filter.mpr ⟨r.frIn q (Zz3 _ hq),?_⟩)
   have:q.1∉fs.map (·.1):=fun z=>by
    obtain⟨t,ht,e⟩:=Zz11.mp z
    exact ap t ht q hq e
   simpa using this
 ·rcases Zz8.mp hq with hq | hq
  ·obtain⟨t,ht,e⟩:=Zz11.mp (new q hq).2
   exact e▸r.frOff t (inF t ht)
  ·exact r.frOff q (Zz3 _ hq)
 ·refine Zz3 _ (List.mem_filter.mpr ⟨r.clIn q hq,?_⟩)
  have:q.1∉fs.map (·.1):=fun z=>by
   obtain⟨t,ht,e⟩:=Zz11.mp z
   exact r.apart q hq t (inF t ht) e.symm
  simpa using this
 ·rcases Zz8.mp ht with ht | ht
  ·obtain⟨u,hu,e⟩:=Zz11.mp (new t ht).2
   exact e▸r.apart q hq u (inF u hu)
  ·exact r.apart q hq t (Zz3 _ ht)
 ·rcases Zz8.mp hq with hq | hq
  ·obtain⟨u,hu,e⟩:=Zz11.mp (new q hq).2
   exact e▸r.frTup u (inF u hu) t ht
  ·exact r.frTup q (Zz3 _ hq) t ht
theorem Rep.more{Γ:Cx}{W:Wd}{ρ:Lc}{H:Hp}{fs fr:List (Addr×Obj)}{h h':Heap}(r:Rep Γ W ρ H fr h)(up:∀b o,h.get? b=some o→h'.get? b=some o)(new:∀q∈fs,h'.get? q.1=some q.2∧h.objs.size≤q.1): Rep Γ W ρ H (fs++fr) h'∧∀q∈fs,∀t∈fr,q.1≠t.1:=by
 have r':=r.grown up
 obtain⟨m,c,led,r⟩:=r
 have lt:∀q∈W.sc::led,q.1<h.objs.size:=fun q hq=>Heap.lt_size (r.get hq)
 have ne:∀q∈fs,∀t∈W.sc::led,q.1≠t.1:=fun q hq t ht=>Nat.ne_of_gt (Nat.lt_of_lt_of_le (lt t ht) (new q hq).2)
 refine⟨⟨m,c,fs++led,⟨⟨?_,fun b o e=>up b o (r.F.keep b o e),r.F.above⟩,fun q hq=>?_,r.R.mono fun q hq=>Zgf hq fun x hx=>List.mem_append_right _ hx,r.sc,r.sc0,fun q hq=>?_,fun q hq=>?_,fun q hq=>List.mem_append_right _ (r.clIn q hq),r.clOff,fun q hq t ht=>?_,fun q hq t ht=>?_,r.clTup,r.own⟩⟩,fun q hq t ht=>ne q hq t (Zz2 _ (r.frIn t ht))⟩
 ·obtain⟨o,es,ep,h1,h2⟩:=r.F.ns
  exact⟨o,es,ep,up _ _ h1,h2⟩
 ·rcases Zz8.mp hq with hq | hq
  ·obtain⟨h1,h2⟩:=new q hq
   refine⟨h1,fun e=>?_,?_⟩
   ·exact absurd (e▸r.F.ns.lt) (Nat.not_lt.mpr h2)
   ·cases e:Γ.h₀.get? q.1 with
    | none=>rfl
    | some o=>exact absurd (Heap.lt_size (r.F.keep _ _ e)) (Nat.not_lt.mpr h2)
  ·exact⟨up _ _ (r.N q hq).1,(r.N q hq).2⟩
 ·rcases Zz8.mp hq with hq | hq
  ·exact Zz4 _ hq
  ·exact Zz3 _ (r.frIn q hq)
 ·rcases Zz8.mp hq with hq | hq
  ·intro hm
   obtain⟨o,ho⟩:=r.piIn _ hm
   exact ne q hq _ ho rfl
  ·exact r.frOff q hq
 ·rcases Zz8.mp ht with ht | ht
  ·exact(ne t ht q (Zz2 _ (r.clIn q hq))).symm
  ·exact r.apart q hq t ht
 ·rcases Zz8.mp hq with hq | hq
  ·exact ne q hq t (r.R.tups t ht)
  ·exact r.frTup q hq t ht
theorem Rep.less{Γ:Cx}{W:Wd}{ρ:Lc}{H:Hp}{fs fr:List (Addr×Obj)}{h:Heap}(r:Rep Γ W ρ H fs h)(sub:∀q∈fr,q∈fs): Rep Γ W ρ H fr h:=by
 obtain⟨m,c,led,r⟩:=r
 exact⟨m,c,led,⟨r.F,r.N,r.R,r.sc,r.sc0,fun q hq=>r.frIn q (sub q hq),fun q hq=>r.frOff q (sub q hq),r.clIn,r.clOff,fun q hq t ht=>r.apart q hq t (sub t ht),fun q hq=>r.frTup q (sub q hq),r.clTup,r.own⟩⟩
theorem Rep.frAt{Γ:Cx}{W:Wd}{ρ:Lc}{H:Hp}{fr:List (Addr×Obj)}{h:Heap}{q:Addr×Obj}(r:Rep Γ W ρ H fr h)(hq:q∈fr): h.get? q.1=some q.2:=by
 obtain⟨m,c,led,r⟩:=r
 exact(r.N q (r.frIn q hq)).1
end PM
end
section
namespace PM
open PySem PyProof.Rows PyProof
noncomputable abbrev Ex:=Lc→Hp→Option (V×Hp)
noncomputable abbrev Exs:=Lc→Hp→Option (List V×Hp)
noncomputable abbrev Ts:=Lc→Hp→Option (Bool×Hp)
noncomputable abbrev ZhK(Γ:Cx)(W:Wd)(ρ:Lc)(H:Hp)(fr:List (Addr×Obj))(s:Shared)(Q:Value→Shared→Prop)(v:V): Prop:=
 ∀(W':Wd) (h':Heap) (tk':Nat) (x:Value),W.Le W'→Rep Γ W' ρ H fr h'→VR W' v x→Q x { s with heap:=h',toks:=tk' }
noncomputable abbrev ZjZ(Γ:Cx)(W:Wd)(ρ:Lc)(H:Hp)(fr:List (Addr×Obj))(s:Shared)(Q:Bool→Shared→Prop)(b:Bool): Prop:=
 ∀(W':Wd) (h':Heap) (tk':Nat),W.Le W'→Rep Γ W' ρ H fr h'→Q b { s with heap:=h',toks:=tk' }
section
variable (prog:Program) (w:World)
def J(Γ:Cx)(e:Expr)(f:Ex): Prop:=∀(W:Wd) (ρ:Lc) (H:Hp) (fr:List (Addr×Obj)) (s:Shared) (Q E:Value→Shared→Prop) (v:V) (H':Hp),
 Rep Γ W ρ H fr s.heap→f ρ H=some (v,H')→ZhK Γ W ρ H' fr s Q v→wpAny (model prog w) Γ.A (eval e Γ.env) Q E s
def Js(Γ:Cx)(es:List Expr)(f:Exs): Prop:=∀(pos:Pos) (W:Wd) (ρ:Lc) (H:Hp) (fr:List (Addr×Obj)) (s:Shared) (Q:List Value→Shared→Prop) (E:Value→Shared→Prop) (vs:List V) (H':Hp),
 Rep Γ W ρ H fr s.heap→f ρ H=some (vs,H')→(∀(W':Wd) (h':Heap) (tk':Nat) (xs:List Value),W.Le W'→Rep Γ W' ρ H' fr h'→VRs W' vs xs→Q xs { s with heap:=h',toks:=tk' })→wpAny (model prog w) Γ.A (spliced (backTo pos (starEach es Γ.env))) Q E s
def JT(Γ:Cx)(e:Expr)(f:Ts): Prop:=∀(W:Wd) (ρ:Lc) (H:Hp) (fr:List (Addr×Obj)) (s:Shared) (Q:Bool→Shared→Prop) (E:Value→Shared→Prop) (b:Bool) (H':Hp),
 Rep Γ W ρ H fr s.heap→f ρ H=some (b,H')→ZjZ Γ W ρ H' fr s Q b→wpAny (model prog w) Γ.A (isTrue e Γ.env (eval e Γ.env)) Q E s
def Op2(m:Value→Value→Sem Value)(o:V→V→Hp→Option (V×Hp)): Prop:=∀(Γ:Cx) (W:Wd) (ρ:Lc) (H:Hp) (fr:List (Addr×Obj)) (s:Shared) (Q E:Value→Shared→Prop) (a b:V) (x y:Value) (v:V) (H':Hp),
 Rep Γ W ρ H fr s.heap→VR W a x→VR W b y→o a b H=some (v,H')→ZhK Γ W ρ H' fr s Q v→wpAny (model prog w) Γ.A (m x y) Q E s
def Op1(m:Value→Sem Value)(o:V→Hp→Option (V×Hp)): Prop:=∀(Γ:Cx) (W:Wd) (ρ:Lc) (H:Hp) (fr:List (Addr×Obj)) (s:Shared) (Q E:Value→Shared→Prop) (a:V) (x:Value) (v:V) (H':Hp),
 Rep Γ W ρ H fr s.heap→VR W a x→o a H=some (v,H')→ZhK Γ W ρ H' fr s Q v→wpAny (model prog w) Γ.A (m x) Q E s
def OpT(m:Value→Sem Bool)(o:V→Hp→Option Bool): Prop:=∀(Γ:Cx) (W:Wd) (ρ:Lc) (H:Hp) (fr:List (Addr×Obj)) (s:Shared) (Q:Bool→Shared→Prop) (E:Value→Shared→Prop) (a:V) (x:Value) (b:Bool),
 Rep Γ W ρ H fr s.heap→VR W a x→o a H=some b→ZjZ Γ W ρ H fr s Q b→wpAny (model prog w) Γ.A (m x) Q E s
end
noncomputable def Zk(k:Int): Ex:=fun _ H=>some (.int k,H)
noncomputable def Z5: Ex:=fun _ H=>some (.none,H)
noncomputable def ZbT(b:Bool): Ex:=fun _ H=>some (.bool b,H)
noncomputable def Zb9(x:Str): Ex:=fun _ H=>some (.str x,H)
noncomputable def Zb(i:Nat): Ex:=fun ρ H=>(ρ i).map fun v=>(v,H)
noncomputable def Zh(o:V→V→Hp→Option (V×Hp))(f g:Ex): Ex:=fun ρ H=>(f ρ H).bind fun p=>(g ρ p.2).bind fun q=>o p.1 q.1 q.2
noncomputable def eUn(o:V→Hp→Option (V×Hp))(f:Ex): Ex:=fun ρ H=>(f ρ H).bind fun p=>o p.1 p.2
noncomputable def eIf(t:Ts)(f g:Ex): Ex:=fun ρ H=>(t ρ H).bind fun p=>if p.1 then f ρ p.2 else g ρ p.2
noncomputable def Zn: Exs:=fun _ H=>some ([],H)
noncomputable def Ze(f:Ex)(g:Exs): Exs:=fun ρ H=>(f ρ H).bind fun p=>(g ρ p.2).bind fun q=>some (p.1::q.1,q.2)
noncomputable def Zas(g:Exs): Ex:=fun ρ H=>(g ρ H).bind fun p=>if p.1.length≤LEN then some (.tup p.1,p.2)else none
noncomputable def Zbm(g:Exs): Ex:=fun ρ H=>(g ρ H).bind fun p=>if p.1.length≤LEN then some (.ref p.2.length,p.2++[p.1])else none
noncomputable def ZcS: V→Hp→Option Bool
 | .bool b,_=>some b
 | .int i,_=>some (i != 0)
 | .none,_=>some false
 | _,_=>none
noncomputable def ZL(f:Ex): Ts:=fun ρ H=>(f ρ H).bind fun p=>(ZcS p.1 p.2).map fun b=>(b,p.2)
noncomputable def Zci(t:Ts): Ts:=fun ρ H=>(t ρ H).map fun p=>(!p.1,p.2)
noncomputable def Zat: Ts:=fun _ H=>some (true,H)
noncomputable def Zb5: Ts:=fun _ H=>some (false,H)
noncomputable def Zbh(t u:Ts): Ts:=fun ρ H=>(t ρ H).bind fun p=>if p.1 then u ρ p.2 else some (false,p.2)
noncomputable def tOr(t u:Ts): Ts:=fun ρ H=>(t ρ H).bind fun p=>if p.1 then some (true,p.2)else u ρ p.2
noncomputable def Zj8(f:Ex): Ex:=fun ρ H=>(f ρ H).bind fun p=>(ZcS p.1 p.2).map fun b=>(.bool (!b),p.2)
noncomputable def Zc6(f g:Ex): Ex:=fun ρ H=>(f ρ H).bind fun p=>(ZcS p.1 p.2).bind fun b=>if b then g ρ p.2 else some p
noncomputable def eOr(f g:Ex): Ex:=fun ρ H=>(f ρ H).bind fun p=>(ZcS p.1 p.2).bind fun b=>if b then some p else g ρ p.2
section
variable {prog:Program} {w:World} {Γ:Cx}
theorem J.int(k:Int)(n:Nat)(pos:Pos): J prog w Γ (.Constant (.int k) n pos) (Zk k):=fun W ρ H fr s Q E v H' r e post=>by
 cases e
 exact wpAny_Constant_int (post W s.heap _ _ (.refl W) r (.int k _))
theorem J.none(n:Nat)(pos:Pos): J prog w Γ (.Constant .none n pos) Z5:=fun W ρ H fr s Q E v H' r e post=>by
 cases e
 exact wpAny_Constant_none (post W s.heap s.toks _ (.refl W) r .none)
theorem J.bool(b:Bool)(n:Nat)(pos:Pos): J prog w Γ (.Constant (.bool b) n pos) (ZbT b):=fun W ρ H fr s Q E v H' r e post=>by
 cases e
 exact wpAny_Constant_bool (post W s.heap s.toks _ (.refl W) r (.bool b))
theorem J.str(x:Str)(n:Nat)(pos:Pos): J prog w Γ (.Constant (.str x) n pos) (Zb9 x):=fun W ρ H fr s Q E v H' r e post=>by
 cases e
 exact wpAny_Constant_str (post W s.heap _ _ (.refl W) r (.str x _))
theorem ZJ{e1 e2:Expr}{op:Operator}{pos:Pos}{f g:Ex}{o:V→V→Hp→Option (V×Hp)}(h1:J prog w Γ e1 f)(h2:J prog w Γ e2 g)(ho:Op2 prog w (binaryOp op) o): J prog w Γ (.BinOp e1 op e2 pos) (Zh o f g):=by
 intro W ρ H fr s Q E v H' r hf post
 obtain⟨p,e1,hf⟩:=Zz0.mp hf
 obtain⟨q,e2,e3⟩:=Zz0.mp hf
 refine wpAny_BinOp (h1 W ρ H fr s _ E _ _ r e1 fun W1 k1 t1 x l1 r1 x1=>?_)
 refine h2 W1 ρ _ fr _ _ E _ _ r1 e2 fun W2 k2 t2 y l2 r2 y2=>?_
 exact ho Γ W2 ρ _ fr _ Q E _ _ x y v H' r2 (x1.mono l2) y2 e3 fun W3 k3 t3 z l3 r3 z3=>post W3 k3 t3 z ((l1.trans l2).trans l3) r3 z3
theorem Zcq{e1 e2:Expr}{op:CmpOp}{pos:Pos}{f g:Ex}{o:V→V→Hp→Option (V×Hp)}(h1:J prog w Γ e1 f)(h2:J prog w Γ e2 g)(ho:Op2 prog w (compareOp op) o)(hm:behindInMarks op e2=false:=by with_unfolding_all rfl): J prog w Γ (.Compare e1 [op] [e2] pos) (Zh o f g):=by
 intro W ρ H fr s Q E v H' r hf post
 obtain⟨p,e1,hf⟩:=Zz0.mp hf
 obtain⟨q,e2,e3⟩:=Zz0.mp hf
 refine wpAny_Compare1 (h1 W ρ H fr s _ E _ _ r e1 fun W1 k1 t1 x l1 r1 x1=>?_) hm
 refine h2 W1 ρ _ fr _ _ E _ _ r1 e2 fun W2 k2 t2 y l2 r2 y2=>?_
 exact ho Γ W2 ρ _ fr _ Q E _ _ x y v H' r2 (x1.mono l2) y2 e3 fun W3 k3 t3 z l3 r3 z3=>post W3 k3 t3 z ((l1.trans l2).trans l3) r3 z3
theorem ZcH{e1:Expr}{op:UnaryOp}{pos:Pos}{f:Ex}{o:V→Hp→Option (V×Hp)}(h1:J prog w Γ e1 f)(ho:Op1 prog w (unaryOp op) o): J prog w Γ (.UnaryOp op e1 pos) (eUn o f):=by
 intro W ρ H fr s Q E v H' r hf post
 obtain⟨p,e1,hf⟩:=Zz0.mp hf
 refine wpAny_UnaryOp (h1 W ρ H fr s _ E _ _ r e1 fun W1 k1 t1 x l1 r1 x1=>?_)
 exact ho Γ W1 ρ _ fr _ Q E _ x v H' r1 x1 hf fun W3 k3 t3 z l3 r3 z3=>post W3 k3 t3 z (l1.trans l3) r3 z3
theorem truth: OpT prog w truthy ZcS:=by
 intro Γ W ρ H fr s Q E a x b r hx ho post
 cases hx with
 | none=>cases ho;exact truthy_none (post W s.heap s.toks (.refl W) r)
 | bool c=>cases ho;exact fun _ _ _=>post W s.heap s.toks (.refl W) r
 | int i t=>cases ho;exact P.truthy_int (post W s.heap s.toks (.refl W) r)
 | str _ _=>cases ho
 | tup _ _ _=>cases ho
 | ref _=>cases ho
theorem Zza{e1:Expr}{pos:Pos}{f:Ex}(h1:J prog w Γ e1 f): J prog w Γ (.UnaryOp .Not e1 pos) (Zj8 f):=by
 intro W ρ H fr s Q E v H' r hf post
 obtain⟨p,e1,hf⟩:=Zz0.mp hf
 obtain⟨b,e2,e3⟩:=Zz1.mp hf
 cases e3
 refine wpAny_UnaryOp (h1 W ρ H fr s _ E _ _ r e1 fun W1 k1 t1 x l1 r1 x1=>?_)
 exact not_of (truth Γ W1 ρ _ fr _ _ E _ x b r1 x1 e2 fun W2 k2 t2 l2 r2=>post W2 k2 t2 _ (l1.trans l2) r2 (.bool _))
theorem Zgg{e1 e2:Expr}{pos:Pos}{f g:Ex}(h1:J prog w Γ e1 f)(h2:J prog w Γ e2 g): J prog w Γ (.BoolOp .And [e1,e2] pos) (Zc6 f g):=by
 intro W ρ H fr s Q E v H' r hf post
 obtain⟨p,e1,hf⟩:=Zz0.mp hf
 obtain⟨b,e2,e3⟩:=Zz0.mp hf
 refine wpAny_And2 (h1 W ρ H fr s _ E _ _ r e1 fun W1 k1 t1 x l1 r1 x1=>?_)
 refine truth Γ W1 ρ _ fr _ _ E _ x b r1 x1 e2 fun W2 k2 t2 l2 r2=>?_
 cases b with
 | true=>exact h2 W2 ρ _ fr _ Q E v H' r2 e3 fun W3 k3 t3 z l3 r3 z3=>post W3 k3 t3 z ((l1.trans l2).trans l3) r3 z3
 | false=>
  cases e3
  exact post W2 k2 t2 x (l1.trans l2) r2 (x1.mono l2)
theorem ZzH{e1 e2:Expr}{pos:Pos}{f g:Ex}(h1:J prog w Γ e1 f)(h2:J prog w Γ e2 g): J prog w Γ (.BoolOp .Or [e1,e2] pos) (eOr f g):=by
 intro W ρ H fr s Q E v H' r hf post
 obtain⟨p,e1,hf⟩:=Zz0.mp hf
 obtain⟨b,e2,e3⟩:=Zz0.mp hf
 refine wpAny_Or2 (h1 W ρ H fr s _ E _ _ r e1 fun W1 k1 t1 x l1 r1 x1=>?_)
 refine truth Γ W1 ρ _ fr _ _ E _ x b r1 x1 e2 fun W2 k2 t2 l2 r2=>?_
 cases b with
 | false=>exact h2 W2 ρ _ fr _ Q E v H' r2 e3 fun W3 k3 t3 z l3 r3 z3=>post W3 k3 t3 z ((l1.trans l2).trans l3) r3 z3
 | true=>
  cases e3
  exact post W2 k2 t2 x (l1.trans l2) r2 (x1.mono l2)
theorem Zey{t e1 e2:Expr}{pos:Pos}{u:Ts}{f g:Ex}(ht:JT prog w Γ t u)(h1:J prog w Γ e1 f)(h2:J prog w Γ e2 g): J prog w Γ (.IfExp t e1 e2 pos) (eIf u f g):=by
 intro W ρ H fr s Q E v H' r hf post
 obtain⟨p,e1,hf⟩:=Zz0.mp hf
 refine wpAny_IfExp (ht W ρ H fr s _ E _ _ r e1 fun W1 k1 t1 l1 r1=>?_)
 obtain⟨b,H1⟩:=p
 cases b with
 | true=>exact h1 W1 ρ _ fr _ Q E v H' r1 hf fun W3 k3 t3 z l3 r3 z3=>post W3 k3 t3 z (l1.trans l3) r3 z3
 | false=>exact h2 W1 ρ _ fr _ Q E v H' r1 hf fun W3 k3 t3 z l3 r3 z3=>post W3 k3 t3 z (l1.trans l3) r3 z3
theorem Zp: Js prog w Γ [] Zn:=fun pos W ρ H fr s Q E vs H' r hf post=>by
 cases hf
 exact wpAny_items_nil (post W s.heap s.toks [] (.refl W) r .nil)
theorem ZwL{e:Expr}{es:List Expr}{f:Ex}{g:Exs}(h1:J prog w Γ e f)(h2:Js prog w Γ es g)(he:starEach (e::es) Γ.env=(false,eval e Γ.env)::starEach es Γ.env:=by rfl): Js prog w Γ (e::es) (Ze f g):=by
 intro pos W ρ H fr s Q E vs H' r hf post
 obtain⟨p,e1,hf⟩:=Zz0.mp hf
 obtain⟨q,e2,e3⟩:=Zz0.mp hf
 cases e3
 refine wpAny_items_cons (h1 W ρ H fr s _ E _ _ r e1 fun W1 k1 t1 x l1 r1 x1=>?_) he
 exact h2 pos W1 ρ _ fr _ _ E _ _ r1 e2 fun W2 k2 t2 ys l2 r2 y2=>post W2 k2 t2 _ (l1.trans l2) r2 (.cons (x1.mono l2) y2)
theorem J.tup{es:List Expr}{k:Nat}{pos:Pos}{g:Exs}(h:Js prog w Γ es g): J prog w Γ (.Tuple es k pos) (Zas g):=by
 intro W ρ H fr s Q E v H' r hf post
 obtain⟨p,e1,hf⟩:=Zz0.mp hf
 by_cases hl:p.1.length≤LEN
 ·rw[if_pos hl]at hf
  cases hf
  refine wpAny_Tuple (h pos W ρ H fr s _ E _ _ r e1 fun W1 k1 t1 xs l1 r1 x1=>⟨Zdf (by rw[x1.length];exact hl),?_⟩)
  obtain⟨W2,l2,r2,v2⟩:=r1.tuple (k:=0) x1 hl
  exact post W2 _ _ _ (l1.trans l2) r2 v2
 ·rw[if_neg hl]at hf
  cases hf
theorem J.list{es:List Expr}{pos:Pos}{g:Exs}(h:Js prog w Γ es g): J prog w Γ (.List es pos) (Zbm g):=by
 intro W ρ H fr s Q E v H' r hf post
 obtain⟨p,e1,hf⟩:=Zz0.mp hf
 by_cases hl:p.1.length≤LEN
 ·rw[if_pos hl]at hf
  cases hf
  refine wpAny_List (h pos W ρ H fr s _ E _ _ r e1 fun W1 k1 t1 xs l1 r1 x1=>⟨Zdf (by rw[x1.length];exact hl),?_⟩)
  obtain⟨W2,l2,r2,v2⟩:=r1.list (k:=0) x1 hl
  exact post W2 _ _ _ (l1.trans l2) r2 v2
 ·rw[if_neg hl]at hf
  cases hf
theorem ZcM{e:Expr}{pos:Pos}{t:Ts}(h:JT prog w Γ e t): JT prog w Γ (.UnaryOp .Not e pos) (Zci t):=by
 intro W ρ H fr s Q E b H' r hf post
 obtain⟨p,e1,e2⟩:=Zz1.mp hf
 cases e2
 exact isTrue_not (h W ρ H fr s _ E _ _ r e1 post)
def JA(prog:Program)(w:World)(Γ:Cx)(op:BoolOp)(es:List Expr)(f:Ts): Prop:=∀(W:Wd) (ρ:Lc) (H:Hp) (fr:List (Addr×Obj)) (s:Shared) (Q:Bool→Shared→Prop) (E:Value→Shared→Prop) (b:Bool) (H':Hp),
 Rep Γ W ρ H fr s.heap→f ρ H=some (b,H')→ZjZ Γ W ρ H' fr s Q b→wpAny (model prog w) Γ.A (allTrue op es Γ.env) Q E s
theorem Zdv: JA prog w Γ .And [] Zat:=fun W ρ H fr s Q E b H' r hf post=>by
 cases hf
 exact wpAny_allTrue_And_nil (post W s.heap s.toks (.refl W) r)
theorem Zcv: JA prog w Γ .Or [] Zb5:=fun W ρ H fr s Q E b H' r hf post=>by
 cases hf
 exact wpAny_allTrue_Or_nil (post W s.heap s.toks (.refl W) r)
theorem ZbF{e:Expr}{es:List Expr}{t u:Ts}(h1:JT prog w Γ e t)(h2:JA prog w Γ .And es u): JA prog w Γ .And (e::es) (Zbh t u):=by
 intro W ρ H fr s Q E b H' r hf post
 obtain⟨p,e1,hf⟩:=Zz0.mp hf
 refine wpAny_allTrue_And_cons (h1 W ρ H fr s _ E _ _ r e1 fun W1 k1 t1 l1 r1=>?_)
 obtain⟨c,H1⟩:=p
 cases c with
 | true=>exact h2 W1 ρ _ fr _ Q E b H' r1 hf fun W3 k3 t3 l3 r3=>post W3 k3 t3 (l1.trans l3) r3
 | false=>
  cases hf
  exact post W1 k1 t1 l1 r1
theorem ZaR{e:Expr}{es:List Expr}{t u:Ts}(h1:JT prog w Γ e t)(h2:JA prog w Γ .Or es u): JA prog w Γ .Or (e::es) (tOr t u):=by
 intro W ρ H fr s Q E b H' r hf post
 obtain⟨p,e1,hf⟩:=Zz0.mp hf
 refine wpAny_allTrue_Or_cons (h1 W ρ H fr s _ E _ _ r e1 fun W1 k1 t1 l1 r1=>?_)
 obtain⟨c,H1⟩:=p
 cases c with
 | false=>exact h2 W1 ρ _ fr _ Q E b H' r1 hf fun W3 k3 t3 l3 r3=>post W3 k3 t3 (l1.trans l3) r3
 | true=>
  cases hf
  exact post W1 k1 t1 l1 r1
theorem Zbg{op:BoolOp}{es:List Expr}{pos:Pos}{t:Ts}(h:JA prog w Γ op es t): JT prog w Γ (.BoolOp op es pos) t:=fun W ρ H fr s Q E b H' r hf post=>wpAny_isTrue_BoolOp (h W ρ H fr s Q E b H' r hf post)
theorem Zbb{e:Expr}{f:Ex}(h:J prog w Γ e f)(he:isTrue e Γ.env (eval e Γ.env)=(do let v ←eval e Γ.env;standAt e.pos;holding [v] (truthy v)):=by rfl): JT prog w Γ e (ZL f):=by
 intro W ρ H fr s Q E b H' r hf post
 obtain⟨p,e1,hf⟩:=Zz0.mp hf
 obtain⟨c,e2,e3⟩:=Zz1.mp hf
 cases e3
 refine isTrue_plain (h W ρ H fr s _ E _ _ r e1 fun W1 k1 t1 x l1 r1 x1=>?_) he
 exact truth Γ W1 ρ _ fr _ _ E _ x b r1 x1 e2 fun W2 k2 t2 l2 r2=>post W2 k2 t2 (l1.trans l2) r2
theorem ZV{e1 e2:Expr}{op:CmpOp}{pos:Pos}{f g:Ex}{o:V→V→Hp→Option (V×Hp)}(h1:J prog w Γ e1 f)(h2:J prog w Γ e2 g)(ho:Op2 prog w (compareOp op) o)(hm:behindInMarks op e2=false:=by with_unfolding_all rfl): JT prog w Γ (.Compare e1 [op] [e2] pos) (ZL (Zh o f g)):=by
 intro W ρ H fr s Q E b H' r hf post
 obtain⟨pp,e0,hf0⟩:=Zz0.mp hf
 obtain⟨c,e4,e5⟩:=Zz1.mp hf0
 cases e5
 obtain⟨p,e1,hf⟩:=Zz0.mp e0
 obtain⟨q,e2,e3⟩:=Zz0.mp hf
 refine wpAny_isTrue_Compare1 (h1 W ρ H fr s _ E _ _ r e1 fun W1 k1 t1 x l1 r1 x1=>?_) hm
 refine h2 W1 ρ _ fr _ _ E _ _ r1 e2 fun W2 k2 t2 y l2 r2 y2=>?_
 refine ho Γ W2 ρ _ fr _ _ E _ _ x y _ _ r2 (x1.mono l2) y2 e3 fun W3 k3 t3 z l3 r3 z3=>?_
 exact truth Γ W3 ρ _ fr _ _ E _ z b r3 z3 e4 fun W4 k4 t4 l4 r4=>post W4 k4 t4 (((l1.trans l2).trans l3).trans l4) r4
end
end PM
end
section
namespace PM
open PySem PyProof.Rows PyProof
noncomputable def mulOk(a b:Int): Bool:=!(decide (Builtin.Int.intBits a>shortFactorBits) && decide (Builtin.Int.intBits b>shortFactorBits) && Builtin.Int.intTooBig (Builtin.Int.intBits a+Builtin.Int.intBits b))
theorem ZvS{a b:Int}(h:mulOk a b=true): IntMulOk a b:=by
 unfold mulOk at h
 unfold IntMulOk
 intro c
 rw[c]at h
 cases h
noncomputable def Zbo: V→V→Hp→Option (V×Hp)
 | .int a,.int b,H=>some (.int (a-b),H)
 | _,_,_=>none
noncomputable def oDiv: V→V→Hp→Option (V×Hp)
 | .int a,.int b,H=>if b≠0∧Builtin.divisionGoesByPylong a b=false then some (.int (a.fdiv b),H)else none
 | _,_,_=>none
noncomputable def oMod: V→V→Hp→Option (V×Hp)
 | .int a,.int b,H=>if b≠0 then some (.int (a.fmod b),H)else none
 | _,_,_=>none
noncomputable def oPow: V→V→Hp→Option (V×Hp)
 | .int a,.int b,H=>if 0≤b∧(Builtin.Int.intBits a:Int)*b≤2 ^ 27 then some (.int (a ^ b.toNat),H)else none
 | _,_,_=>none
noncomputable def Zcj: V→Hp→Option (V×Hp)
 | .int a,H=>some (.int (-a),H)
 | _,_=>none
noncomputable def Zj9(p:Int→Int→Bool): V→V→Hp→Option (V×Hp)
 | .int a,.int b,H=>some (.bool (p a b),H)
 | _,_,_=>none
noncomputable def oLt:=Zj9 fun a b=>decide (a<b)
noncomputable def oLe:=Zj9 fun a b=>decide (a≤b)
noncomputable def oGt:=Zj9 fun a b=>decide (b<a)
section
variable {prog:Program} {w:World}
theorem ZbC: Op2 prog w (binaryOp .Sub) Zbo:=by
 intro Γ W ρ H fr s Q E a b x y v H' r hx hy ho post
 cases hx <;> first | (cases ho;done) | skip
 cases hy <;> first | (cases ho;done) | skip
 cases ho
 exact PySem.P.sub_int (post W s.heap _ _ (.refl W) r (.int _ _))
theorem ZaV: Op2 prog w (binaryOp .Mod) oMod:=by
 intro Γ W ρ H fr s Q E a b x y v H' r hx hy ho post
 cases hx <;> first | (cases ho;done) | skip
 cases hy <;> first | (cases ho;done) | skip
 rename_i i t j u
 simp only[oMod]at ho
 by_cases hb:j≠0
 ·rw[if_pos hb]at ho
  cases ho
  exact mod_int' hb (post W s.heap _ _ (.refl W) r (.int _ _))
 ·rw[if_neg hb]at ho
  cases ho
theorem ZdB: Op2 prog w (binaryOp .FloorDiv) oDiv:=by
 intro Γ W ρ H fr s Q E a b x y v H' r hx hy ho post
 cases hx <;> first | (cases ho;done) | skip
 cases hy <;> first | (cases ho;done) | skip
 rename_i i t j u
 simp only[oDiv]at ho
 by_cases hb:j≠0∧Builtin.divisionGoesByPylong i j=false
 ·rw[if_pos hb]at ho
  cases ho
  exact floordiv_int hb.1 (post W s.heap _ _ (.refl W) r (.int _ _)) (.inl hb.2)
 ·rw[if_neg hb]at ho
  cases ho
theorem ZoD: Op2 prog w (binaryOp .Pow) oPow:=by
 intro Γ W ρ H fr s Q E a b x y v H' r hx hy ho post
 cases hx <;> first | (cases ho;done) | skip
 cases hy <;> first | (cases ho;done) | skip
 rename_i i t j u
 simp only[oPow]at ho
 by_cases hb:0≤j∧(Builtin.Int.intBits i:Int)*j≤2 ^ 27
 ·rw[if_pos hb]at ho
  cases ho
  exact pow_int hb.1 hb.2 (post W s.heap _ _ (.refl W) r (.int _ _))
 ·rw[if_neg hb]at ho
  cases ho
theorem ZcA: Op1 prog w (unaryOp .USub) Zcj:=by
 intro Γ W ρ H fr s Q E a x v H' r hx ho post
 cases hx <;> first | (cases ho;done) | skip
 cases ho
 exact PySem.P.neg_int (post W s.heap _ _ (.refl W) r (.int _ _))
theorem Zc5: Op2 prog w (compareOp .Lt) oLt:=by
 intro Γ W ρ H fr s Q E a b x y v H' r hx hy ho post
 cases hx <;> first | (cases ho;done) | skip
 cases hy <;> first | (cases ho;done) | skip
 cases ho
 exact PySem.P.lt_int (post W s.heap s.toks _ (.refl W) r (.bool _))
theorem Zo1: Op2 prog w (compareOp .LtE) oLe:=by
 intro Γ W ρ H fr s Q E a b x y v H' r hx hy ho post
 cases hx <;> first | (cases ho;done) | skip
 cases hy <;> first | (cases ho;done) | skip
 cases ho
 exact PySem.P.le_int (post W s.heap s.toks _ (.refl W) r (.bool _))
theorem Zfh: Op2 prog w (compareOp .Gt) oGt:=by
 intro Γ W ρ H fr s Q E a b x y v H' r hx hy ho post
 cases hx <;> first | (cases ho;done) | skip
 cases hy <;> first | (cases ho;done) | skip
 cases ho
 exact PySem.P.gt_int (post W s.heap s.toks _ (.refl W) r (.bool _))
end
end PM
end
section
namespace PM
open PySem PyProof.Rows PyProof
noncomputable def Zgk(f:V→Option PyData): List V→Option (List PyData)
 | []=>some []
 | v::vs=>(f v).bind fun d=>(Zgk f vs).bind fun ds=>some (d::ds)
noncomputable def toD(H:Hp): Nat→V→Option PyData
 | _,.none=>some .none
 | _,.bool b=>some (.bool b)
 | _,.int i=>some (.int i)
 | _,.str x=>some (.str x)
 | n+1,.tup vs=>(Zgk (toD H n) vs).map .tuple
 | n+1,.ref a=>H[a]?.bind fun vs=>(Zgk (toD H n) vs).map .list
 | 0,.tup _=>none
 | 0,.ref _=>none
theorem Zmq{W:Wd}{h:Heap}{f:V→Option PyData}(ih:∀v x d,VR W v x→f v=some d→∃as,Reads h x d as): ∀{vs:List V} {xs:List Value} {ds:List PyData},VRs W vs xs→Zgk f vs=some ds→∃as,ReadsAll h xs ds as
 | _,_,_,.nil,e=>by
  cases e
  exact⟨_,.nil⟩
 | _,_,_,.cons a r,e=>by
  obtain⟨d,e1,e⟩:=Zz0.mp e
  obtain⟨ds,e2,e3⟩:=Zz0.mp e
  cases e3
  obtain⟨as,h1⟩:=ih _ _ _ a e1
  obtain⟨bs,h2⟩:=Zmq ih r e2
  exact⟨_,.cons h1 h2⟩
theorem ZfO{Γ:Cx}{W:Wd}{ρ:Lc}{H:Hp}{fr:List (Addr×Obj)}{h:Heap}(r:Rep Γ W ρ H fr h): ∀(n:Nat) (v:V) (x:Value) (d:PyData),VR W v x→toD H n v=some d→∃as,Reads h x d as:=by
 intro n
 induction n with
 | zero=>
  intro v x d hv e
  cases hv with
  | none=>cases e;exact⟨_,.none⟩
  | bool b=>cases e;exact⟨_,.bool b⟩
  | int i t=>cases e;exact⟨_,.int i t⟩
  | str y t=>cases e;exact⟨_,.str y t⟩
  | tup _ _ _=>cases e
  | ref _=>cases e
 | succ n ih=>
  intro v x d hv e
  cases hv with
  | none=>cases e;exact⟨_,.none⟩
  | bool b=>cases e;exact⟨_,.bool b⟩
  | int i t=>cases e;exact⟨_,.int i t⟩
  | str y t=>cases e;exact⟨_,.str y t⟩
  | @tup vs a xs k hm hl hs=>
   obtain⟨ds,e1,e2⟩:=Zz1.mp e
   subst e2
   obtain⟨as,h1⟩:=Zmq ih hs e1
   exact⟨_,.tuple (r.tupAt hm) rfl rfl (by simpa using h1)⟩
  | @ref i a ea=>
   obtain⟨vs,e0,e⟩:=Zz0.mp e
   obtain⟨ds,e1,e2⟩:=Zz1.mp e
   subst e2
   obtain⟨hl,xs,k,hg,hs⟩:=r.at e0 ea
   obtain⟨as,h1⟩:=Zmq ih hs e1
   exact⟨_,.list hg rfl rfl (by simpa using h1)⟩
noncomputable def ZbK: Nat:=8
noncomputable def Zka(a b:V)(H:Hp): Option Bool:=(toD H ZbK a).bind fun d=>(toD H ZbK b).bind fun e=>if SeqAt.shaped d=true∧SeqAt.shaped e=true then some (PyData.eqv d e)else none
noncomputable def oEq(a b:V)(H:Hp): Option (V×Hp):=(Zka a b H).map fun c=>(.bool c,H)
noncomputable def oNe(a b:V)(H:Hp): Option (V×Hp):=(Zka a b H).map fun c=>(.bool (!c),H)
noncomputable def oIs: V→V→Hp→Option (V×Hp)
 | .none,.none,H=>some (.bool true,H)
 | .bool _,.none,H=>some (.bool false,H)
 | .int _,.none,H=>some (.bool false,H)
 | .str _,.none,H=>some (.bool false,H)
 | .tup _,.none,H=>some (.bool false,H)
 | .ref _,.none,H=>some (.bool false,H)
 | _,_,_=>none
noncomputable def Zc4(a b:V)(H:Hp): Option (V×Hp):=(oIs a b H).bind fun p=>match p.1 with | .bool c=>some (.bool (!c),p.2) | _=>none
section
variable {prog:Program} {w:World}
theorem Zaw: Op2 prog w (compareOp .Eq) oEq:=by
 intro Γ W ρ H fr s Q E a b x y v H' r hx hy ho post
 obtain⟨c,e1,e2⟩:=Zz1.mp ho
 cases e2
 obtain⟨d,h1,e1⟩:=Zz0.mp e1
 obtain⟨e,h2,e1⟩:=Zz0.mp e1
 by_cases hs:SeqAt.shaped d=true∧SeqAt.shaped e=true
 ·rw[if_pos hs]at e1
  cases e1
  obtain⟨as,R1⟩:=ZfO r ZbK a x d hx h1
  obtain⟨bs,R2⟩:=ZfO r ZbK b y e hy h2
  exact eq_dataH R1 R2 hs.1 hs.2 (by have:=Γ.hu;omega) (post W s.heap s.toks _ (.refl W) r (.bool _))
 ·rw[if_neg hs]at e1
  cases e1
theorem ZcE: Op2 prog w (compareOp .NotEq) oNe:=by
 intro Γ W ρ H fr s Q E a b x y v H' r hx hy ho post
 obtain⟨c,e1,e2⟩:=Zz1.mp ho
 cases e2
 obtain⟨d,h1,e1⟩:=Zz0.mp e1
 obtain⟨e,h2,e1⟩:=Zz0.mp e1
 by_cases hs:SeqAt.shaped d=true∧SeqAt.shaped e=true
 ·rw[if_pos hs]at e1
  cases e1
  obtain⟨as,R1⟩:=ZfO r ZbK a x d hx h1
  obtain⟨bs,R2⟩:=ZfO r ZbK b y e hy h2
  exact ne_dataH R1 R2 hs.1 hs.2 (by have:=Γ.hu;omega) (post W s.heap s.toks _ (.refl W) r (.bool _))
 ·rw[if_neg hs]at e1
  cases e1
theorem Zbv: Op2 prog w (compareOp .Is) oIs:=by
 intro Γ W ρ H fr s Q E a b x y v H' r hx hy ho post
 cases hy <;> first | (cases hx <;> cases ho;done) | skip
 refine PySem.is_none ?_
 cases hx <;> (cases ho;exact post W s.heap s.toks _ (.refl W) r (.bool _))
theorem Zdw: Op2 prog w (compareOp .IsNot) Zc4:=by
 intro Γ W ρ H fr s Q E a b x y v H' r hx hy ho post
 cases hy <;> first | (cases hx <;> cases ho;done) | skip
 refine PySem.isNot_none ?_
 cases hx <;> (cases ho;exact post W s.heap s.toks _ (.refl W) r (.bool _))
end
end PM
end
section
namespace PM
open PySem PyProof.Rows PyProof
noncomputable def Zv: V→V→Hp→Option (V×Hp)
 | .ref a,.int k,H=>H[a]?.bind fun vs=>(seqIndex? k vs.length).bind fun j=>vs[j]?.map fun v=>(v,H)
 | .tup vs,.int k,H=>(seqIndex? k vs.length).bind fun j=>vs[j]?.map fun v=>(v,H)
 | _,_,_=>none
theorem ZpJ{k:Int}{n j:Nat}(h:seqIndex? k n=some j): j<n∧(k:Int)<n∧-(n:Int)≤k∧(0≤k→k.toNat=j)∧(k<0→(k+n).toNat=j):=by
 unfold seqIndex? at h
 by_cases c:k<0
 ·simp only[c,if_true]at h
  split at h
  ·rename_i d
   simp at d h
   omega
  ·cases h
 ·simp only[c,if_false]at h
  split at h
  ·rename_i d
   simp at d h
   omega
  ·cases h
section
variable {prog:Program} {w:World} {Γ:Cx}
theorem ZA{e1 e2:Expr}{pos:Pos}{f g:Ex}(h1:J prog w Γ e1 f)(h2:J prog w Γ e2 g)(hs:∀a k u,subscripted e2 false (.ref a) (.int k u)=operate [.ref a,.int k u] (getItem (.ref a) (.int k u)):=by intros;with_unfolding_all rfl): J prog w Γ (.Subscript e1 e2 pos) (Zh Zv f g):=by
 intro W ρ H fr s Q E v H' r hf post
 obtain⟨p,e1,hf⟩:=Zz0.mp hf
 obtain⟨q,e2,e3⟩:=Zz0.mp hf
 refine Subscript_ (h1 W ρ H fr s _ E _ _ r e1 fun W1 k1 t1 x l1 r1 x1=>?_)
 refine h2 W1 ρ _ fr _ _ E _ _ r1 e2 fun W2 k2 t2 y l2 r2 y2=>?_
 have x2:=x1.mono l2
 obtain⟨v1,H1⟩:=p
 obtain⟨v2,H2⟩:=q
 simp only at e3 r2 x2 y2
 cases y2 <;> first | (cases x2 <;> cases e3;done) | skip
 rename_i k u
 cases x2 <;> first | (cases e3;done) | skip
 ·rename_i vs a xs kk hm hl hv
  obtain⟨j,hj,e4⟩:=Zz0.mp e3
  obtain⟨z,hz,e5⟩:=Zz1.mp e4
  cases e5
  obtain⟨z',hz',rz⟩:=hv.at hz
  have hx:xs.length=vs.length:=hv.length
  have hb:=ZpJ hj
  rw[Zba]at hl
  have it:IsTup k2 a xs.toArray:=⟨_,r2.tupAt hm,rfl,kk,rfl⟩
  exact item_tupleT it (by omega) (by omega) (by rw[hx];exact hj) hz' (post W2 k2 t2 z' (l1.trans l2) r2 rz) (hs _ _ _)
 ·rename_i i a ea
  obtain⟨vs,hvs,e3⟩:=Zz0.mp e3
  obtain⟨j,hj,e4⟩:=Zz0.mp e3
  obtain⟨z,hz,e5⟩:=Zz1.mp e4
  cases e5
  obtain⟨hl,xs,kk,hg,hv⟩:=r2.at hvs ea
  obtain⟨z',hz',rz⟩:=hv.at hz
  have hx:xs.length=vs.length:=hv.length
  have hb:=ZpJ hj
  rw[Zba]at hl
  have isl:k2.IsList a xs.toArray:=⟨_,hg,rfl,kk,rfl⟩
  refine tail_any (s:={ s with heap:=k2,toks:=t2 }) isl.typeIs slot_list_getitem.lookup ?_ (hs _ _ _)
  by_cases hk:0≤k
  ·exact wpAny_getItem_list isl hk (by omega) (by rw[hb.2.2.2.1 hk];simpa using hz') (post W2 k2 t2 z' (l1.trans l2) r2 rz)
  ·refine wpAny_getItem_list_neg isl (by omega) (by simp;omega) (by omega) ?_ (post W2 k2 t2 z' (l1.trans l2) r2 rz)
   have:=hb.2.2.2.2 (by omega)
   rw[←hx]at this
   simpa [this]using hz'
end
noncomputable def Zcg{α:Type}(vs:List α)(lo hi:Option Int): List α:=(sliceRange (sliceBounds lo hi none vs.length).1 (sliceBounds lo hi none vs.length).2.1 (sliceBounds lo hi none vs.length).2.2).filterMap fun i=>vs[i]?
theorem VRs.pick{W:Wd}{vs:List V}{xs:List Value}(h:VRs W vs xs)(l:List Nat): VRs W (l.filterMap fun i=>vs[i]?) (l.filterMap fun i=>xs[i]?):=by
 induction l with
 | nil=>exact .nil
 | cons i l ih=>
  simp only[List.filterMap_cons]
  have hl:=h.length
  cases e:vs[i]? with
  | none=>
   have:xs[i]?=none:=by rw[List.getElem?_eq_none_iff]at e ⊢;omega
   rw[this]
   exact ih
  | some v=>
   obtain⟨x,hx,hr⟩:=h.at e
   rw[hx]
   exact .cons hr ih
theorem ZvT{α:Type}(vs:List α)(lo hi:Option Int): (Zcg vs lo hi).length≤vs.length:=by
 unfold Zcg
 refine Nat.le_trans (List.length_filterMap_le _ _) ?_
 refine sliceRange_length_le _ _ _ _ (fun _=>?_) fun c=>?_
 ·unfold sliceBounds
  cases lo <;> cases hi <;> simp <;> omega
 ·exact absurd (by unfold sliceBounds;simp) c
theorem ZvU{α:Type}(vs:List α)(a:Nat): ∀m:Nat,a+m≤vs.length→((List.range m).map fun k=>a+k).filterMap (fun i=>vs[i]?)=(vs.drop a).take m:=by
 intro m
 induction m with
 | zero=>intro _;simp
 | succ m ih=>
  intro h
  rw[List.range_succ,List.map_append,List.filterMap_append,ih (by omega),List.take_add_one]
  congr 1
  simp only[List.map_cons,List.map_nil,List.filterMap_cons,List.filterMap_nil,List.getElem?_drop]
  cases e:vs[a+m]? with
  | none=>rw[List.getElem?_eq_none_iff]at e;omega
  | some v=>rfl
theorem Zjf{α:Type}(vs:List α)(lo hi:Option Int){a b:Nat}(ha:(sliceBounds lo hi none vs.length).1=(a:Int))(hb:(sliceBounds lo hi none vs.length).2.1=(b:Int))(h:b≤vs.length): Zcg vs lo hi=(vs.drop a).take (b-a):=by
 have hc:(sliceBounds lo hi none vs.length).2.2=1:=by unfold sliceBounds;rfl
 unfold Zcg
 rw[ha,hb,hc]
 have e:sliceRange (a:Int) (b:Int) 1=(List.range (b-a)).map fun k=>a+k:=by
  unfold sliceRange
  simp only[show(1:Int)>0 from by decide,if_true]
  by_cases c:(a:Int)<b
  ·rw[if_pos c]
   have:((b:Int)-a+1-1) / 1=((b-a:Nat):Int):=by omega
   rw[this]
   simp only[Int.toNat_natCast]
   refine List.map_congr_left fun k _=>?_
   omega
  ·rw[if_neg c]
   have:b-a=0:=by omega
   rw[this]
   rfl
 rw[e]
 by_cases c:a≤b
 ·exact ZvU vs a (b-a) (by omega)
 ·have:b-a=0:=by omega
  rw[this]
  simp
theorem Zqn{α:Type}(vs:List α){k:Int}{a:Nat}(e:k=(a:Int)): Zcg vs (some k) none=vs.drop a:=by
 by_cases h:a≤vs.length
 ·rw[Zjf vs (some k) none (a:=a) (b:=vs.length) (by unfold sliceBounds;simp;omega) (by unfold sliceBounds;simp) (Zz10 _)]
  rw[List.take_of_length_le (by simp)]
 ·rw[Zjf vs (some k) none (a:=vs.length) (b:=vs.length) (by unfold sliceBounds;simp;omega) (by unfold sliceBounds;simp) (Zz10 _)]
  simp
  omega
theorem ZwM{α:Type}(vs:List α){k:Int}{a:Nat}(e:k=(a:Int)): Zcg vs none (some k)=vs.take a:=by
 by_cases h:a≤vs.length
 ·rw[Zjf vs none (some k) (a:=0) (b:=a) (by unfold sliceBounds;simp) (by unfold sliceBounds;simp;omega) h]
  simp
 ·rw[Zjf vs none (some k) (a:=0) (b:=vs.length) (by unfold sliceBounds;simp) (by unfold sliceBounds;simp;omega) (Zz10 _)]
  rw[List.drop_zero,Nat.sub_zero,List.take_of_length_le (Zz10 _),List.take_of_length_le (by omega)]
noncomputable def ZhE: Option V→Option (Option Int)
 | none=>some none
 | some (.int k)=>some (some k)
 | _=>none
noncomputable abbrev Pt:=Lc→Hp→Option (Option V×Hp)
noncomputable def Zfi: Pt:=fun _ H=>some (none,H)
noncomputable def Zfj(f:Ex): Pt:=fun ρ H=>(f ρ H).map fun p=>(some p.1,p.2)
noncomputable def Zep(f:Ex)(lo hi:Pt): Ex:=fun ρ H=>(f ρ H).bind fun p=>(lo ρ p.2).bind fun q=>(hi ρ q.2).bind fun u=>(ZhE q.1).bind fun a=>(ZhE u.1).bind fun b=>match p.1 with
 | .ref i=>u.2[i]?.bind fun vs=>some (.ref u.2.length,u.2++[Zcg vs a b])
 | _=>none
inductive VP(W:Wd): Option V→Value→Prop where
 | none:VP W none .none
 | some {v:V} {x:Value}:VR W v x→VP W (some v) x
theorem VP.mono{W W':Wd}{v:Option V}{x:Value}(l:W.Le W')(h:VP W v x): VP W' v x:=by
 cases h with
 | none=>exact .none
 | some h=>exact .some (h.mono l)
theorem VP.part{W:Wd}{v:Option V}{x:Value}{k:Option Int}(h:VP W v x)(e:ZhE v=Option.some k): IsPart x k:=by
 cases h with
 | none=>cases e;exact .none
 | some h=>cases h <;> cases e;exact .int _ _
def JP(prog:Program)(w:World)(Γ:Cx)(e:Option Expr)(f:Pt): Prop:=∀(W:Wd) (ρ:Lc) (H:Hp) (fr:List (Addr×Obj)) (s:Shared) (Q E:Value→Shared→Prop) (v:Option V) (H':Hp),
 Rep Γ W ρ H fr s.heap→f ρ H=some (v,H')→(∀(W':Wd) (h':Heap) (tk':Nat) (x:Value),W.Le W'→Rep Γ W' ρ H' fr h'→VP W' v x→Q x { s with heap:=h',toks:=tk' })→wpAny (model prog w) Γ.A (evalPart e Γ.env) Q E s
section
variable {prog:Program} {w:World} {Γ:Cx}
theorem JP.none: JP prog w Γ none Zfi:=fun W ρ H fr s Q E v H' r hf post=>by
 cases hf
 exact wpAny_evalPart_none (post W s.heap s.toks _ (.refl W) r .none)
theorem JP.some{e:Expr}{f:Ex}(h:J prog w Γ e f): JP prog w Γ (some e) (Zfj f):=fun W ρ H fr s Q E v H' r hf post=>by
 obtain⟨p,e1,e2⟩:=Zz1.mp hf
 cases e2
 exact wpAny_evalPart_some (h W ρ H fr s _ E _ _ r e1 fun W1 k1 t1 x l1 r1 x1=>post W1 k1 t1 x l1 r1 (.some x1))
theorem Zob{e:Expr}{lo hi:Option Expr}{p pos:Pos}{f:Ex}{a b:Pt}(h:J prog w Γ e f)(hlo:JP prog w Γ lo a)(hhi:JP prog w Γ hi b)(ht:∀o r,letTemporaryGo e o r=pure ():=by intro _ _;rfl): J prog w Γ (.Subscript e (.Slice lo hi Option.none p) pos) (Zep f a b):=by
 intro W ρ H fr s Q E v H' r hf post
 obtain⟨p,e1,hf⟩:=Zz0.mp hf
 obtain⟨q,e2,hf⟩:=Zz0.mp hf
 obtain⟨u,e3,hf⟩:=Zz0.mp hf
 obtain⟨ka,e4,hf⟩:=Zz0.mp hf
 obtain⟨kb,e5,hf⟩:=Zz0.mp hf
 refine wpAny_Subscript_list_slice (h W ρ H fr s _ E _ _ r e1 fun W1 k1 t1 x l1 r1 x1=>?_) ht
 refine hlo W1 ρ _ fr _ _ E _ _ r1 e2 fun W2 k2 t2 y l2 r2 y2=>?_
 refine hhi W2 ρ _ fr _ _ E _ _ r2 e3 fun W3 k3 t3 z l3 r3 z3=>?_
 have x3:=x1.mono (l2.trans l3)
 obtain⟨v1,H1⟩:=p
 simp only at hf x3
 cases x3 with
 | none=>cases hf
 | bool _=>cases hf
 | int _ _=>cases hf
 | str _ _=>cases hf
 | tup _ _ _=>cases hf
 | @ref i a ea=>
  obtain⟨vs,hvs,e6⟩:=Zz0.mp hf
  cases e6
  obtain⟨hl,xs,kk,hg,hv⟩:=r3.at hvs ea
  have isl:k3.IsList a xs.toArray:=⟨_,hg,rfl,kk,rfl⟩
  refine⟨a,xs.toArray,ka,kb,rfl,isl,Zdf (by simp[hv.length];exact hl),(y2.mono l3).part e4,z3.part e5,?_⟩
  have hp:VRs W3 (Zcg vs ka kb) (Zcg xs ka kb):=by
   unfold Zcg
   rw[hv.length]
   exact hv.pick _
  have hx:slicePick xs.toArray ka kb Option.none=(Zcg xs ka kb).toArray:=by
   unfold slicePick Zcg
   simp
  obtain⟨W4,l4,r4,v4⟩:=(r3.push { cls:=.type "slice",data:=.fields #[y,z,.none] }).list (k:=0) hp (Nat.le_trans (ZvT vs ka kb) hl)
  rw[hx]
  have:=post W4 _ t3 _ (((l1.trans l2).trans l3).trans l4) r4 v4
  rw[Heap.size_push]at this
  exact this
end
end PM
end
section
namespace PM
open PySem PyProof.Rows PyProof
def Nm(prog:Program)(w:World)(Γ:Cx)(x:Str)(v:Value): Prop:=∀(pos:Pos) (m:Str→Option Value) (s:Shared) (Q E:Value→Shared→Prop),Fr Γ.h₀ Γ.L s.heap m→Q v s→wpAny (model prog w) Γ.A (eval (.Name x pos) Γ.env) Q E s
theorem Nm.use{prog:Program}{w:World}{Γ:Cx}{x:Str}{y:Value}(h:Nm prog w Γ x y){pos:Pos}{W:Wd}{ρ:Lc}{H:Hp}{fr:List (Addr×Obj)}{s:Shared}{Q E:Value→Shared→Prop}(r:Rep Γ W ρ H fr s.heap)(q:Q y s): wpAny (model prog w) Γ.A (eval (.Name x pos) Γ.env) Q E s:=by
 obtain⟨m,c,led,r⟩:=r
 exact h pos m s Q E r.F q
def OpN(prog:Program)(w:World)(m:List Value→Sem Value)(o:List V→Hp→Option (V×Hp)): Prop:=∀(Γ:Cx) (W:Wd) (ρ:Lc) (H:Hp) (fr:List (Addr×Obj)) (s:Shared) (Q E:Value→Shared→Prop) (as:List V) (xs:List Value) (v:V) (H':Hp),
 Rep Γ W ρ H fr s.heap→VRs W as xs→o as H=some (v,H')→ZhK Γ W ρ H' fr s Q v→wpAny (model prog w) Γ.A (m xs) Q E s
noncomputable def Zr(o:List V→Hp→Option (V×Hp))(g:Exs): Ex:=fun ρ H=>(g ρ H).bind fun p=>o p.1 p.2
section
variable {prog:Program} {w:World} {Γ:Cx}
theorem ZaC{x:Str}{np pos:Pos}{id:String}{e:Expr}{es:List Expr}{g:Exs}{o:List V→Hp→Option (V×Hp)}(hn:Nm prog w Γ x (.builtin id))(h:Js prog w Γ (e::es) g)(ho:OpN prog w (fun xs=>call (.builtin id) xs) o)
  (he:starEach (e::es) Γ.env=(false,eval e Γ.env)::starEach es Γ.env:=by rfl) (hp:∀pos,(backTo pos (starEach es Γ.env)).any (·.1)=false:=by intro _;rfl):J prog w Γ (.Call (.Name x np) (e::es) [] pos) (Zr o g):=by
 intro W ρ H fr s Q E v H' r hf post
 obtain⟨p,e1,hf⟩:=Zz0.mp hf
 refine wpAny_Call_ofName (hn.use r ?_)
 refine callWith_builtin1 (h pos W ρ H fr s _ E _ _ r e1 fun W1 k1 t1 xs l1 r1 x1=>?_) he (hp pos)
 exact ho Γ W1 ρ _ fr _ Q E _ xs v H' r1 x1 hf fun W2 k2 t2 y l2 r2 y2=>post W2 k2 t2 y (l1.trans l2) r2 y2
theorem ZfX{x:Str}{np pos:Pos}{T:String}{e:Expr}{es:List Expr}{g:Exs}{o:List V→Hp→Option (V×Hp)}(hn:Nm prog w Γ x (.type T))(h:Js prog w Γ (e::es) g)(ho:OpN prog w (fun xs=>call (.type T) xs) o)
  (he:starEach (e::es) Γ.env=(false,eval e Γ.env)::starEach es Γ.env:=by rfl) (hp:∀pos,(backTo pos (starEach es Γ.env)).any (·.1)=false:=by intro _;rfl):J prog w Γ (.Call (.Name x np) (e::es) [] pos) (Zr o g):=by
 intro W ρ H fr s Q E v H' r hf post
 obtain⟨p,e1,hf⟩:=Zz0.mp hf
 refine wpAny_Call_ofName (hn.use r ?_)
 refine PySem.Pv.callWith_type1 (h pos W ρ H fr s _ E _ _ r e1 fun W1 k1 t1 xs l1 r1 x1=>?_) he (hp pos)
 exact ho Γ W1 ρ _ fr _ Q E _ xs v H' r1 x1 hf fun W2 k2 t2 y l2 r2 y2=>post W2 k2 t2 y (l1.trans l2) r2 y2
end
noncomputable def Zoc: V→String
 | .none=>"NoneType"
 | .bool _=>"bool"
 | .int _=>"int"
 | .str _=>"str"
 | .tup _=>"tuple"
 | .ref _=>"list"
noncomputable def ZoE(T:String)(v:V): Bool:=Zoc v == T || (T == "int" && Zoc v == "bool")
noncomputable def eIs(T:String)(f:Ex): Ex:=fun ρ H=>(f ρ H).map fun p=>(.bool (ZoE T p.1),p.2)
section
variable {prog:Program} {w:World} {Γ:Cx}
theorem isinst{T:String}(hT:T="int"∨T="bool"∨T="list"∨T="tuple"){W:Wd}{ρ:Lc}{H:Hp}{fr:List (Addr×Obj)}{s:Shared}{Q E:Value→Shared→Prop}{a:V}{x:Value}(r:Rep Γ W ρ H fr s.heap)(hx:VR W a x)(hin:∀i,a=.ref i→i<H.length)
  (post:∀tk,Q (.bool (ZoE T a)) { s with toks:=tk }):wpAny (model prog w) Γ.A (call (.builtin "isinstance") [x,.type T]) Q E s:=by
 cases hx with
 | none=>
      rcases hT with e | e | e | e <;> subst e
      ·exact call_isinstance (isinstance_false_none (by decide +kernel) F.isi_meta_int (by rw[isSubtype_type];kernel_rfl)) (post _)
      ·exact call_isinstance (isinstance_false_none (by decide +kernel) F.isi_meta_bool (by rw[isSubtype_type];kernel_rfl)) (post _)
      ·exact call_isinstance (isinstance_false_none (by decide +kernel) F.isi_meta_list (by rw[isSubtype_type];kernel_rfl)) (post _)
      ·exact call_isinstance (isinstance_false_none (by decide +kernel) F.isi_meta_tuple (by rw[isSubtype_type];kernel_rfl)) (post _)
 | bool b=>
       rcases hT with e | e | e | e <;> subst e
       ·exact IsiPair.bool_int (post s.toks)
       ·exact IsiPair.bool_bool (post s.toks)
       ·exact IsiPair.bool_list (post _)
       ·exact IsiPair.bool_tuple (post _)
 | int i t=>
       rcases hT with e | e | e | e <;> subst e
       ·exact IsiPair.int_int (post s.toks)
       ·exact IsiPair.int_bool (post _)
       ·exact IsiPair.int_list (post _)
       ·exact IsiPair.int_tuple (post _)
 | str y t=>
       rcases hT with e | e | e | e <;> subst e
       ·exact IsiPair.str_int (post _)
       ·exact IsiPair.str_bool (post _)
       ·exact IsiPair.str_list (post _)
       ·exact IsiPair.str_tuple (post _)
 | tup hm hl hs=>
  have hg:=r.tupAt hm
  rcases hT with e | e | e | e <;> subst e
  ·exact IsiPair.tuple_int hg rfl (post _)
  ·exact IsiPair.tuple_bool hg rfl (post _)
  ·exact IsiPair.tuple_list hg rfl (post _)
  ·exact IsiPair.tuple_tuple hg rfl (post s.toks)
 | @ref i a ea=>
  obtain⟨hl,xs,k,hg,hv⟩:=r.at (List.getElem?_eq_getElem (hin i rfl)) ea
  rcases hT with e | e | e | e <;> subst e
  ·exact IsiPair.list_int hg rfl (post _)
  ·exact IsiPair.list_bool hg rfl (post _)
  ·exact IsiPair.list_list hg rfl (post s.toks)
  ·exact IsiPair.list_tuple hg rfl (post _)
end
theorem Rep.refIn{Γ:Cx}{W:Wd}{ρ:Lc}{H:Hp}{fr:List (Addr×Obj)}{h:Heap}{i:Nat}{x:Value}(r:Rep Γ W ρ H fr h)(hx:VR W (.ref i) x): i<H.length:=by
 obtain⟨m,c,led,r⟩:=r
 cases hx with
 | ref e=>rw[←r.R.len];exact(Zz6.mp e).1
section
variable {prog:Program} {w:World} {Γ:Cx}
theorem ZdP{np tp pos:Pos}{x y:Str}{T:String}{e:Expr}{f:Ex}(hn:Nm prog w Γ x (.builtin "isinstance"))(hy:Nm prog w Γ y (.type T))(hT:T="int"∨T="bool"∨T="list"∨T="tuple")(h:J prog w Γ e f)
  (he:starEach [e,.Name y tp] Γ.env=(false,eval e Γ.env)::starEach [.Name y tp] Γ.env:=by rfl) (hp:∀pos,(backTo pos (starEach [.Name y tp] Γ.env)).any (·.1)=false:=by intro _;rfl):J prog w Γ (.Call (.Name x np) [e,.Name y tp] [] pos) (eIs T f):=by
 intro W ρ H fr s Q E v H' r hf post
 obtain⟨p,e1,e2⟩:=Zz1.mp hf
 cases e2
 refine wpAny_Call_ofName (hn.use r ?_)
 refine callWith_builtin1 (wpAny_items_cons (h W ρ H fr s _ E _ _ r e1 fun W1 k1 t1 z l1 r1 z1=>?_) he) he (hp pos)
 refine wpAny_items_cons (hy.use (s:={ s with heap:=k1,toks:=t1 }) r1 ?_)
 refine wpAny_items_nil ?_
 exact PM.isinst hT r1 z1 (fun i e=>by rw[e]at z1;exact r1.refIn z1) fun tk=>post W1 k1 tk _ l1 r1 (.bool _)
end
noncomputable def ZaI: List V→Hp→Option (V×Hp)
 | [.ref a],H=>H[a]?.map fun vs=>(.int vs.length,H)
 | [.tup vs],H=>some (.int vs.length,H)
 | _,_=>none
noncomputable def Zd4: List V→Hp→Option (V×Hp)
 | [.int a],H=>some (.int (if a<0 then -a else a),H)
 | _,_=>none
noncomputable def ZdC: List V→Option (List Int)
 | []=>some []
 | .int k::vs=>(ZdC vs).map fun ks=>k::ks
 | _::_=>none
noncomputable def ZhL: List V→Hp→Option (V×Hp)
 | [.ref a],H=>H[a]?.bind fun vs=>(ZdC vs).map fun ks=>(.int ks.sum,H)
 | _,_=>none
theorem VRs.one{W:Wd}{v:V}{xs:List Value}(h:VRs W [v] xs): ∃x,xs=[x]∧VR W v x:=by
 cases h with
 | cons a b=>cases b;exact⟨_,rfl,a⟩
theorem VRs.two{W:Wd}{v u:V}{xs:List Value}(h:VRs W [v,u] xs): ∃x y,xs=[x,y]∧VR W v x∧VR W u y:=by
 cases h with
 | cons a b=>obtain⟨y,e,r⟩:=b.one;subst e;exact⟨_,_,rfl,a,r⟩
theorem ZtU{W:Wd}: ∀{vs:List V} {xs:List Value} {ks:List Int},VRs W vs xs→ZdC vs=some ks→∃ts:Array (Int×Tok),xs.toArray=intItems ts∧preSum (numAt ts) ts.size=ks.sum:=by
 have key:∀{vs:List V} {xs:List Value} {ks:List Int},VRs W vs xs→ZdC vs=some ks→∃ts:List (Int×Tok),xs=ts.map (fun p=>Value.int p.1 p.2)∧ts.map (·.1)=ks:=by
  intro vs
  induction vs with
  | nil=>intro xs ks h e;cases h;cases e;exact⟨[],rfl,rfl⟩
  | cons v vs ih=>
   intro xs ks h e
   cases h with
   | cons a b=>
    cases v with
    | int i=>
     obtain⟨js,e1,e2⟩:=Zz1.mp e
     subst e2
     cases a with
     | int _ t=>
      obtain⟨ts,h1,h2⟩:=ih b e1
      exact⟨(i,t)::ts,by rw[h1];rfl,by rw[List.map_cons,h2]⟩
    | none=>cases e
    | bool _=>cases e
    | str _=>cases e
    | tup _=>cases e
    | ref _=>cases e
 intro vs xs ks h e
 obtain⟨ts,h1,h2⟩:=key h e
 refine⟨ts.toArray,by rw[h1];simp[intItems],?_⟩
 rw[preSum_eq,List.take_of_length_le (by simp),←h2]
noncomputable def Zae: V→V→Hp→Option (V×Hp)
 | .int a,.int b,H=>some (.int (a+b),H)
 | .ref a,.ref b,H=>H[a]?.bind fun vs=>H[b]?.bind fun us=>if(vs++us).length≤LEN then some (.ref H.length,H++[vs++us])else none
 | .tup vs,.tup us,H=>if(vs++us).length≤LEN then some (.tup (vs++us),H)else none
 | _,_,_=>none
noncomputable def Zfp(vs:List V): Nat→List V
 | 0=>[]
 | n+1=>Zfp vs n++vs
noncomputable def Za2: V→V→Hp→Option (V×Hp)
 | .int a,.int b,H=>if mulOk a b=true then some (.int (a*b),H)else none
 | .ref a,.int k,H=>H[a]?.bind fun vs=>if vs.length*k.toNat≤LEN∧-(2 ^ 63:Int)≤k∧k<2 ^ 63 then some (.ref H.length,H++[Zfp vs k.toNat])else none
 | _,_,_=>none
section
variable {prog:Program} {w:World}
theorem ZaZ: OpN prog w (fun xs=>call (.builtin "len") xs) ZaI:=by
 intro Γ W ρ H fr s Q E as xs v H' r hx ho post
 unfold ZaI at ho
 split at ho
 ·rename_i a
  obtain⟨vs,e1,e2⟩:=Zz1.mp ho
  cases e2
  obtain⟨x,ex,rx⟩:=hx.one
  subst ex
  cases rx with
  | ref ea=>
   obtain⟨hl,ys,k,hg,hv⟩:=r.at e1 ea
   have isl:s.heap.IsList _ ys.toArray:=⟨_,hg,rfl,k,rfl⟩
   have e3:(ys.toArray.size:Int)=vs.length:=by simp[hv.length]
   rw[Zba]at hl
   refine Calls.call_len_list isl (by rw[e3];omega) ?_
   rw[e3]
   exact post W s.heap _ _ (.refl W) r (.int _ _)
 ·rename_i vs
  cases ho
  obtain⟨x,ex,rx⟩:=hx.one
  subst ex
  cases rx with
  | @tup _ a ys k hm hl hs=>
   have it:IsTup s.heap a ys.toArray:=⟨_,r.tupAt hm,rfl,k,rfl⟩
   have e3:(ys.toArray.size:Int)=vs.length:=by simp[hs.length]
   rw[Zba]at hl
   refine len_tuple it (by rw[e3];omega) ?_
   rw[e3]
   exact post W s.heap _ _ (.refl W) r (.int _ _)
 ·cases ho
theorem Zf7: OpN prog w (fun xs=>call (.builtin "abs") xs) Zd4:=by
 intro Γ W ρ H fr s Q E as xs v H' r hx ho post
 unfold Zd4 at ho
 split at ho
 ·cases ho
  obtain⟨x,ex,rx⟩:=hx.one
  subst ex
  cases rx with
  | int i t=>exact call_abs_int fun u tk=>post W s.heap tk _ (.refl W) r (.int _ _)
 ·cases ho
theorem Zx3: OpN prog w (fun xs=>call (.builtin "sum") xs) ZhL:=by
 intro Γ W ρ H fr s Q E as xs v H' r hx ho post
 unfold ZhL at ho
 split at ho
 ·obtain⟨vs,e1,e2⟩:=Zz0.mp ho
  obtain⟨ks,e3,e4⟩:=Zz1.mp e2
  cases e4
  obtain⟨x,ex,rx⟩:=hx.one
  subst ex
  cases rx with
  | ref ea=>
   obtain⟨hl,ys,k,hg,hv⟩:=r.at e1 ea
   obtain⟨ts,h1,h2⟩:=ZtU hv e3
   have isl:s.heap.IsList _ (intItems ts):=⟨_,hg,rfl,k,by rw[←h1]⟩
   refine sum_intListG Γ.hh isl fun h' tk t' up=>?_
   rw[h2]
   exact post W h' tk _ (.refl W) (r.grown up) (.int _ _)
 ·cases ho
theorem Zaj: Op2 prog w (binaryOp .Add) Zae:=by
 intro Γ W ρ H fr s Q E a b x y v H' r hx hy ho post
 unfold Zae at ho
 split at ho
 ·cases ho
  cases hx;cases hy
  exact PySem.P.add_int (post W s.heap _ _ (.refl W) r (.int _ _))
 ·obtain⟨vs,e1,ho⟩:=Zz0.mp ho
  obtain⟨us,e2,ho⟩:=Zz0.mp ho
  by_cases hl:(vs++us).length≤LEN
  ·rw[if_pos hl]at ho
   cases ho
   cases hx with
   | ref ea=>
   cases hy with
   | ref eb=>
   obtain⟨l1,ys,k,hg,hv⟩:=r.at e1 ea
   obtain⟨l2,zs,k2,hg2,hv2⟩:=r.at e2 eb
   obtain⟨m,c,led,r'⟩:=r
   have i1:s.heap.IsList _ ys.toArray:=⟨_,hg,rfl,k,rfl⟩
   have i2:s.heap.IsList _ zs.toArray:=⟨_,hg2,rfl,k2,rfl⟩
   refine add_lists (hsz:=Zdf (by rw[hv.length,hv2.length,←List.length_append];exact hl)) r'.F r'.N i1 i2 fun h' F' N'=>?_
   obtain⟨W2,le2,r2,v2⟩:=r'.newList F' N' r'.off (hv.append hv2) hl
   exact post W2 h' s.toks _ le2 r2 v2
  ·rw[if_neg hl]at ho
   cases ho
 ·rename_i vs us
  by_cases hl:(vs++us).length≤LEN
  ·rw[if_pos hl]at ho
   cases ho
   cases hx with
   | @tup _ a ys k hm h1 hv=>
   cases hy with
   | @tup _ b zs k2 hm2 h2 hv2=>
   have t1:IsTup s.heap a ys.toArray:=⟨_,r.tupAt hm,rfl,k,rfl⟩
   have t2:IsTup s.heap b zs.toArray:=⟨_,r.tupAt hm2,rfl,k2,rfl⟩
   have r0:=r
   obtain⟨m,c,led,r'⟩:=r
   refine add_tuples (hsz:=Zdf (by rw[hv.length,hv2.length,←List.length_append];exact hl)) r'.F r'.N t1 t2 (fun e=>?_) (fun _ e=>?_) fun _ _ h' F' N'=>?_
   ·have:vs=[]:=List.length_eq_zero_iff.mp (by rw[←hv.length,e];rfl)
    subst this
    exact post W s.heap s.toks _ (.refl W) r0 (.tup hm2 h2 hv2)
   ·have:us=[]:=List.length_eq_zero_iff.mp (by rw[←hv2.length,e];rfl)
    subst this
    rw[List.append_nil]at post
    exact post W s.heap s.toks _ (.refl W) r0 (.tup hm h1 hv)
   ·obtain⟨W2,le2,r2,v2⟩:=r'.newTup F' N' r'.off (hv.append hv2) hl
    exact post W2 h' s.toks _ le2 r2 v2
  ·rw[if_neg hl]at ho
   cases ho
 ·cases ho
theorem ZqH(vs:List V): ∀n,(Zfp vs n).length=vs.length*n
 | 0=>rfl
 | n+1=>by rw[Zfp,List.length_append,ZqH vs n,Nat.mul_succ]
theorem Zu9(xs:List Value)(n:Nat): ∀acc:Array Value,(List.foldl (fun x1 x2=>x1++x2) acc (List.replicate n xs.toArray))=acc++(List.replicate n xs).flatten.toArray:=by
 induction n with
 | zero=>intro acc;simp
 | succ n ih=>
  intro acc
  rw[List.replicate_succ,List.foldl_cons,ih,List.replicate_succ,List.flatten_cons]
  simp[Array.append_assoc]
theorem Zrg{W:Wd}{vs:List V}{xs:List Value}(h:VRs W vs xs): ∀n,VRs W (Zfp vs n) (List.replicate n xs).flatten
 | 0=>.nil
 | n+1=>by
  rw[Zfp,List.replicate_succ',List.flatten_append]
  simp only[List.flatten_cons,List.flatten_nil,List.append_nil]
  exact(Zrg h n).append h
theorem Zbu: Op2 prog w (binaryOp .Mult) Za2:=by
 intro Γ W ρ H fr s Q E a b x y v H' r hx hy ho post
 unfold Za2 at ho
 split at ho
 ·rename_i i j
  by_cases hm:mulOk i j=true
  ·rw[if_pos hm]at ho
   cases ho
   cases hx;cases hy
   exact PySem.P.mul_int (post W s.heap _ _ (.refl W) r (.int _ _)) (ZvS hm)
  ·rw[if_neg hm]at ho
   cases ho
 ·rename_i i k
  obtain⟨vs,e1,ho⟩:=Zz0.mp ho
  by_cases hc:vs.length*k.toNat≤LEN∧-(2 ^ 63:Int)≤k∧k<2 ^ 63
  ·rw[if_pos hc]at ho
   cases ho
   cases hx with
   | ref ea=>
   cases hy with
   | int _ u=>
   obtain⟨l1,ys,kk,hg,hv⟩:=r.at e1 ea
   obtain⟨m,c,led,r'⟩:=r
   have hl:=hc.1
   rw[Zba]at hl
   refine mul_list r'.F r'.N hg hc.2.1 hc.2.2 (by rw[List.size_toArray,hv.length];omega) fun h' F' N'=>?_
   have e2:(List.foldl (fun x1 x2=>x1++x2) #[] (List.replicate (if ys.toArray.isEmpty=true then 0 else k.toNat) ys.toArray))=(List.replicate k.toNat ys).flatten.toArray:=by
    cases ys with
    | nil=>
     simp
    | cons y0 ys0=>
     have:((y0::ys0).toArray.isEmpty=true)=False:=by simp
     simp only[this,if_false]
     rw[Zu9]
     simp
   rw[e2]at N'
   obtain⟨W2,le2,r2,v2⟩:=r'.newList F' N' r'.off (Zrg hv k.toNat) (by rw[ZqH];exact hc.1)
   exact post W2 h' s.toks _ le2 r2 v2
  ·rw[if_neg hc]at ho
   cases ho
 ·cases ho
end
end PM
end
section
namespace PM
open PySem PyProof.Rows PyProof
noncomputable def upd(ρ:Lc)(i:Nat)(v:V): Lc:=fun j=>if j=i then some v else ρ j
noncomputable abbrev Sm:=Lc→Hp→Option (Option V×Lc×Hp)
noncomputable def ZY: Sm:=fun ρ H=>some (none,ρ,H)
noncomputable def Zu(a b:Sm): Sm:=fun ρ H=>(a ρ H).bind fun p=>match p.1 with
 | some _=>some p
 | none=>b p.2.1 p.2.2
noncomputable def ZE(f:Ex): Sm:=fun ρ H=>(f ρ H).map fun p=>(some p.1,ρ,p.2)
noncomputable def ZO(i:Nat)(f:Ex): Sm:=fun ρ H=>(f ρ H).map fun p=>(none,upd ρ i p.1,p.2)
noncomputable def ZP(t:Ts)(a b:Sm): Sm:=fun ρ H=>(t ρ H).bind fun p=>if p.1 then a ρ p.2 else b ρ p.2
noncomputable def Zca(f:Ex): Sm:=fun ρ H=>(f ρ H).map fun p=>(none,ρ,p.2)
noncomputable def Zpa: V→V→V→Hp→Option Hp
 | .ref a,.int k,v,H=>H[a]?.bind fun vs=>if a≠0∧0≤k∧k<vs.length then some (H.set a (vs.set k.toNat v))else none
 | _,_,_,_=>none
noncomputable def ZbV(f o i:Ex): Sm:=fun ρ H=>(f ρ H).bind fun p=>(o ρ p.2).bind fun q=>(i ρ q.2).bind fun u=>(Zpa q.1 u.1 p.1 u.2).map fun K=>(none,ρ,K)
noncomputable def ZdV(t:Ts)(b:Sm): Nat→Sm
 | 0=>fun _ _=>none
 | n+1=>fun ρ H=>(t ρ H).bind fun p=>if p.1 then(b ρ p.2).bind fun q=>(match q.1 with
   | some _=>some q
   | none=>ZdV t b n q.2.1 q.2.2)else some (none,ρ,p.2)
noncomputable def PostS(Γ:Cx)(W:Wd)(fr:List (Addr×Obj))(s:Shared)(Q:Flow→Shared→Prop): Option V×Lc×Hp→Prop
 | (none,ρ',H')=>∀(W':Wd) (h':Heap) (tk':Nat),W.Le W'→Rep Γ W' ρ' H' fr h'→Q .next { s with heap:=h',toks:=tk' }
 | (some v,ρ',H')=>∀(W':Wd) (h':Heap) (tk':Nat) (x:Value),W.Le W'→Rep Γ W' ρ' H' fr h'→VR W' v x→Q (.ret x) { s with heap:=h',toks:=tk' }
theorem PostS.le{Γ:Cx}{W W':Wd}{fr:List (Addr×Obj)}{s:Shared}{h:Heap}{tk:Nat}{Q:Flow→Shared→Prop}{r:Option V×Lc×Hp}(l:W.Le W')(p:PostS Γ W fr s Q r): PostS Γ W' fr { s with heap:=h,toks:=tk } Q r:=by
 obtain⟨o,ρ',H'⟩:=r
 cases o with
 | none=>exact fun W2 h2 t2 l2 r2=>p W2 h2 t2 (l.trans l2) r2
 | some v=>exact fun W2 h2 t2 x l2 r2 x2=>p W2 h2 t2 x (l.trans l2) r2 x2
section
variable (prog:Program) (w:World)
def S1(Γ:Cx)(st:Stmt)(g:Sm): Prop:=∀(W:Wd) (ρ:Lc) (H:Hp) (fr:List (Addr×Obj)) (s:Shared) (Q:Flow→Shared→Prop) (E:Value→Shared→Prop) (r:Option V×Lc×Hp),
 Rep Γ W ρ H fr s.heap→g ρ H=some r→PostS Γ W fr s Q r→wpAny (model prog w) Γ.A (exec st Γ.env) Q E s
def Ss(Γ:Cx)(ss:List Stmt)(g:Sm): Prop:=∀(W:Wd) (ρ:Lc) (H:Hp) (fr:List (Addr×Obj)) (s:Shared) (Q:Flow→Shared→Prop) (E:Value→Shared→Prop) (r:Option V×Lc×Hp),
 Rep Γ W ρ H fr s.heap→g ρ H=some r→PostS Γ W fr s Q r→wpAny (model prog w) Γ.A (execs ss Γ.env) Q E s
def Sto(Γ:Cx)(x:Str)(i:Nat): Prop:=∀(W:Wd) (ρ:Lc) (H:Hp) (fr:List (Addr×Obj)) (s:Shared) (Q:Unit→Shared→Prop) (E:Value→Shared→Prop) (v:V) (y:Value),
 Rep Γ W ρ H fr s.heap→VR W v y→(∀(h':Heap) (tk':Nat),Rep Γ W (upd ρ i v) H fr h'→Q () { s with heap:=h',toks:=tk' })→wpAny (model prog w) Γ.A (storeName Γ.env x y) Q E s
def Rd(Γ:Cx)(x:Str)(i:Nat): Prop:=∀(W:Wd) (ρ:Lc) (H:Hp) (fr:List (Addr×Obj)) (s:Shared) (Q E:Value→Shared→Prop) (v:V) (pos:Pos),
 Rep Γ W ρ H fr s.heap→ρ i=some v→(∀y,VR W v y→Q y s)→wpAny (model prog w) Γ.A (eval (.Name x pos) Γ.env) Q E s
end
section
variable {prog:Program} {w:World} {Γ:Cx}
theorem Zj0{x:Str}{i:Nat}{pos:Pos}(h:Rd prog w Γ x i): J prog w Γ (.Name x pos) (Zb i):=by
 intro W ρ H fr s Q E v H' r hf post
 obtain⟨u,e1,e2⟩:=Zz1.mp hf
 cases e2
 exact h W ρ H fr s Q E v pos r e1 fun y hy=>post W s.heap s.toks y (.refl W) r hy
theorem Z7: Ss prog w Γ [] ZY:=fun W ρ H fr s Q E r rp hf post=>by
 cases hf
 exact wpAny_execs_nil (post W s.heap s.toks (.refl W) rp)
theorem Zx{st:Stmt}{ss:List Stmt}{a b:Sm}(h1:S1 prog w Γ st a)(h2:Ss prog w Γ ss b): Ss prog w Γ (st::ss) (Zu a b):=by
 intro W ρ H fr s Q E r rp hf post
 obtain⟨p,e1,hf⟩:=Zz0.mp hf
 refine wpAny_execs_cons (h1 W ρ H fr s _ E p rp e1 ?_)
 obtain⟨o,ρ1,H1⟩:=p
 cases o with
 | some v=>
  cases hf
  exact fun W1 k1 t1 x l1 r1 x1=>post W1 k1 t1 x l1 r1 x1
 | none=>exact fun W1 k1 t1 l1 r1=>h2 W1 ρ1 H1 fr _ Q E r r1 hf (post.le l1)
theorem Zy{st:Stmt}{a:Sm}(h1:S1 prog w Γ st a): Ss prog w Γ [st] a:=by
 intro W ρ H fr s Q E r rp hf post
 refine wpAny_execs_cons (h1 W ρ H fr s _ E r rp hf ?_)
 obtain⟨o,ρ1,H1⟩:=r
 cases o with
 | some v=>exact fun W1 k1 t1 x l1 r1 x1=>post W1 k1 t1 x l1 r1 x1
 | none=>exact fun W1 k1 t1 l1 r1=>wpAny_execs_nil (post W1 k1 t1 l1 r1)
theorem ZI{e:Expr}{pos:Pos}{f:Ex}(h:J prog w Γ e f): S1 prog w Γ (.Return (some e) pos) (ZE f):=by
 intro W ρ H fr s Q E r rp hf post
 obtain⟨p,e1,e2⟩:=Zz1.mp hf
 cases e2
 exact wpAny_Return_some (h W ρ H fr s _ E _ _ rp e1 post)
theorem Z3{t:Expr}{a b:List Stmt}{pos:Pos}{u:Ts}{f g:Sm}(ht:JT prog w Γ t u)(h1:Ss prog w Γ a f)(h2:Ss prog w Γ b g): S1 prog w Γ (.If t a b pos) (ZP u f g):=by
 intro W ρ H fr s Q E r rp hf post
 obtain⟨p,e1,hf⟩:=Zz0.mp hf
 refine wpAny_If (ht W ρ H fr s _ E _ _ rp e1 fun W1 k1 t1 l1 r1=>?_)
 obtain⟨c,H1⟩:=p
 cases c with
 | true=>exact h1 W1 ρ H1 fr _ Q E r r1 hf (post.le l1)
 | false=>exact h2 W1 ρ H1 fr _ Q E r r1 hf (post.le l1)
theorem Zdi{e:Expr}{pos:Pos}{f:Ex}(h:J prog w Γ e f)(hi:interactive Γ.env=false:=by rfl)(hs:swapsWith e none pos.line Γ.env=pure false:=by rfl): S1 prog w Γ (.Expr e pos) (Zca f):=by
 intro W ρ H fr s Q E r rp hf post
 obtain⟨p,e1,e2⟩:=Zz1.mp hf
 cases e2
 exact wpAny_Expr_any (h W ρ H fr s _ E _ _ rp e1 fun W1 k1 t1 x l1 r1 x1=>post W1 k1 t1 l1 r1) hi hs
theorem ZX{x:Str}{i:Nat}{e:Expr}{pos' pos:Pos}{f:Ex}(hx:Sto prog w Γ x i)(h:J prog w Γ e f)(hs:swapsWith e (some (.Name x pos')) pos.line Γ.env=pure false:=by rfl): S1 prog w Γ (.Assign [.Name x pos'] e pos) (ZO i f):=by
 intro W ρ H fr s Q E r rp hf post
 obtain⟨p,e1,e2⟩:=Zz1.mp hf
 cases e2
 refine wpAny_Assign_Name (h W ρ H fr s _ E _ _ rp e1 fun W1 k1 t1 y l1 r1 y1=>?_) hs
 exact hx W1 ρ _ fr _ _ E _ y r1 y1 fun h' tk' r2=>post W1 h' tk' l1 r2
theorem ZqI{t:Expr}{a:List Stmt}{pos:Pos}{u:Ts}{f:Sm}(n:Nat)(ht:JT prog w Γ t u)(h1:Ss prog w Γ a f): S1 prog w Γ (.While t a [] pos) (ZdV u f n):=by
 intro W ρ H fr s Q E r rp hf post
 refine wpAny_While ?_
 refine codeAny_whileLoop (fun k s'=>∃W' ρ' H' h' tk',s' = { s with heap:=h',toks:=tk' }∧W.Le W'∧Rep Γ W' ρ' H' fr h'∧ZdV u f k ρ' H'=some r) ?_ n ⟨W,ρ,H,s.heap,s.toks,rfl,.refl W,rp,hf⟩
 rintro k s' ⟨W1,ρ1,H1,k1,t1,rfl,l1,r1,e⟩
 cases k with
 | zero=>cases e
 | succ k=>
  obtain⟨p,e1,e⟩:=Zz0.mp e
  refine ht W1 ρ1 H1 fr _ _ _ _ _ r1 e1 fun W2 k2 t2 l2 r2=>?_
  obtain⟨c,H2⟩:=p
  cases c with
  | false=>
   cases e
   exact wpAny_execs_nil (post W2 k2 t2 (l1.trans l2) r2)
  | true=>
   obtain⟨q,e2,e⟩:=Zz0.mp e
   refine h1 W2 ρ1 H2 fr _ _ _ q r2 e2 ?_
   obtain⟨o,ρ3,H3⟩:=q
   cases o with
   | some v=>
    cases e
    exact fun W3 k3 t3 x l3 r3 x3=>post W3 k3 t3 x ((l1.trans l2).trans l3) r3 x3
   | none=>exact fun W3 k3 t3 l3 r3=>⟨k,Nat.lt_succ_self k,W3,ρ3,H3,k3,t3,rfl,(l1.trans l2).trans l3,r3,e⟩
end
noncomputable def Zhf: List V→Hp→Option (V×Hp)
 | [.ref a,v],H=>H[a]?.bind fun vs=>if a≠0∧vs.length<LEN then some (.none,H.set a (vs++[v]))else none
 | _,_=>none
section
variable {prog:Program} {w:World} {Γ:Cx}
theorem Zva: OpN prog w (fun xs=>call (.builtin "list.append") xs) Zhf:=by
 intro Γ W ρ H fr s Q E as xs v H' r hx ho post
 unfold Zhf at ho
 split at ho
 ·obtain⟨vs,e1,e2⟩:=Zz0.mp ho
  obtain⟨x,y,ex,rx,ry⟩:=hx.two
  subst ex
  split at e2
  ·rename_i hl
   cases e2
   cases rx with
   | @ref _ a0 ea=>
    obtain⟨_,ys,k,hg,hv⟩:=r.at e1 ea
    refine append_at (hsz:=Zdf (by rw[List.size_toArray,hv.length];omega)) hg fun h' sb hg'=>?_
    have hg2:h'.get? a0=some (ZbU (ys++[y]) (k+1)):=by rw[hg'];simp
    exact post W h' s.toks _ (.refl W) (r.change hl.1 e1 ea sb hg2 (hv.snoc ry) (by simp;omega)) .none
  ·cases e2
 ·cases ho
end
end PM
end
section
namespace PM
open PySem PySem.W PyProof.Rows PyProof
theorem Zrh: ∀{l:List Value} {k:Nat} {v:Value},k<l.length→ki_setL l k v=some (l.set k v)
 | [],_,_,h=>by simp at h
 | x::r,0,v,_=>by simp[ki_setL]
 | x::r,k+1,v,h=>by
  have:=Zrh (l:=r) (k:=k) (v:=v) (by simpa using h)
  simp[ki_setL,this]
theorem Zvb{a k v:V}{H K:Hp}(h:Zpa a k v H=some K): ∃i j vs,a=.ref i∧k=.int j∧H[i]?=some vs∧(i≠0∧0≤j∧j<vs.length)∧K=H.set i (vs.set j.toNat v):=by
 cases a <;> first | (cases h;done) | skip
 cases k <;> first | (cases h;done) | skip
 obtain⟨vs,e1,e2⟩:=Zz0.mp h
 split at e2
 ·rename_i c
  cases e2
  exact⟨_,_,vs,rfl,rfl,e1,c,rfl⟩
 ·cases e2
theorem ZtV{a v x:V}{H K:Hp}(h:Zhf [a,v] H=some (x,K)): ∃i,a=.ref i:=by
 cases a <;> first | (cases h;done) | skip
 exact⟨_,rfl⟩
noncomputable def Ze4(o f:Ex): Ex:=fun ρ H=>(o ρ H).bind fun p=>(f ρ p.2).bind fun q=>Zhf [p.1,q.1] q.2
section
variable {prog:Program} {w:World} {Γ:Cx}
theorem S1.put{o i value:Expr}{pos' pos:Pos}{f g k:Ex}(hf:J prog w Γ value f)(ho:J prog w Γ o g)(hi:J prog w Γ i k)(hs:swapsWith value (some (.Subscript o i pos')) pos.line Γ.env=pure false:=by rfl): S1 prog w Γ (.Assign [.Subscript o i pos'] value pos) (ZbV f g k):=by
 intro W ρ H fr s Q E r rp hx post
 obtain⟨p,e1,hx⟩:=Zz0.mp hx
 obtain⟨q,e2,hx⟩:=Zz0.mp hx
 obtain⟨u,e3,hx⟩:=Zz0.mp hx
 obtain⟨K,e4,e5⟩:=Zz1.mp hx
 cases e5
 refine wpAny_Assign_Subscript (hf W ρ H fr s _ E _ _ rp e1 fun W1 k1 t1 x l1 r1 x1=>?_) hs
 refine ho W1 ρ _ fr _ _ E _ _ r1 e2 fun W2 k2 t2 y l2 r2 y2=>?_
 refine hi W2 ρ _ fr _ _ E _ _ r2 e3 fun W3 k3 t3 z l3 r3 z3=>?_
 have x3:=x1.mono (l2.trans l3)
 have y3:=y2.mono l3
 obtain⟨b,kk,vs,eb,ek,hvs,hc,e6⟩:=Zvb e4
 subst e6
 rw[eb]at y3
 rw[ek]at z3
 cases y3 with
 | @ref _ a ea=>
 cases z3 with
 | int _ tz=>
 obtain⟨hl,xs,n,hg,hv⟩:=r3.at hvs ea
 obtain⟨m,c,led,r'⟩:=r3
 have hll:=hl
 rw[Zba]at hll
 have hk:kk.toNat<xs.length:=by rw[hv.length];omega
 obtain⟨_,a',xs',n',h1,h2,h3⟩:=r'.R.lists b vs hvs
 rw[ea]at h1
 cases h1
 have h2:=r'.inLed hc.1 ea h2
 have N2:News Γ.h₀ Γ.L k3 ((a,ZbU xs n)::led.filter (fun q=>decide (q.1≠a))):=by
  intro q hq
  rcases Zz7.mp hq with e | hq
  ·subst e
   exact⟨hg,(r'.N _ h2).2⟩
  ·exact r'.N q (List.mem_filter.mp hq).1
 refine ki_set (its:=xs.toArray) (n:=n) (q:=xs.set kk.toNat x) r'.F N2 hc.2.1 (by omega) (by simpa using Zrh hk) (Upd.head fun q hq=>by simpa using (List.mem_filter.mp hq).2) fun h' F' N'=>?_
 exact post W3 h' t3 ((l1.trans l2).trans l3) (r'.changed hc.1 hvs ea F' N' (hv.set _ x3) (by simpa using hl))
theorem J.append{o e:Expr}{apos pos:Pos}{f g:Ex}(ho:J prog w Γ o f)(he:J prog w Γ e g)(hbase:attributeBase o "append" Γ.env (eval o Γ.env)=eval o Γ.env:=by rfl)
  (hfew:((backTo pos (starEach [e] Γ.env)).all (fun x=>!x.1) && (backToKw pos (keywordEach [] Γ.env)).all (fun x=>x.1.isSome) && decide (([e]:List Expr).length+([]:List Keyword).length+(if([]:List Keyword).isEmpty then 0 else 1)<30))=true:=by rfl)
  (hline:(apos.endLine == pos.line)=true:=by rfl) (htrees:backTo pos (starEach [e] Γ.env)=[(false,eval e Γ.env)]:=by rfl):J prog w Γ (.Call (.Attribute o "append" apos) [e] [] pos) (Ze4 f g):=by
 intro W ρ H fr s Q E v H' r hx post
 obtain⟨p,e1,hx⟩:=Zz0.mp hx
 obtain⟨q,e2,e3⟩:=Zz0.mp hx
 refine wpAny_Call_append hbase hfew hline htrees (ho W ρ H fr s _ E _ _ r e1 fun W1 k1 t1 x l1 r1 x1=>?_)
 obtain⟨v1,H1⟩:=p
 obtain⟨b,hb⟩:=ZtV e3
 subst hb
 have hb:=r1.refIn x1
 cases x1 with
 | @ref _ a ea=>
 obtain⟨_,xs,n,hg,hv⟩:=r1.at (List.getElem?_eq_getElem hb) ea
 refine⟨a,xs.toArray,rfl,⟨_,n,hg,rfl,rfl,rfl⟩,?_⟩
 refine he W1 ρ _ fr _ _ E _ _ r1 e2 fun W2 k2 t2 y l2 r2 y2=>?_
 exact Zva Γ W2 ρ _ fr _ Q E _ [.ref a,y] v H' r2 (.cons (.ref (l2.at ea)) (.cons y2 .nil)) e3 fun W3 k3 t3 z l3 r3 z3=>post W3 k3 t3 z ((l1.trans l2).trans l3) r3 z3
end
end PM
end
section
namespace PM
open PySem PySem.W PyProof.Rows PyProof
noncomputable abbrev Nx:=Nat→Hp→Option (Option V)
noncomputable def Zzb(Γ:Cx)(W:Wd)(ρ:Lc)(H:Hp)(fr:List (Addr×Obj))(s:Shared)(It:Nat→List (Addr×Obj)→Prop)(i:Nat)(Q:Option Value→Shared→Prop): Option V→Prop
 | none=>∀(h':Heap) (tk':Nat),Rep Γ W ρ H fr h'→Q none { s with heap:=h',toks:=tk' }
 | some v=>∀(fs':List (Addr×Obj)) (h':Heap) (tk':Nat) (x:Value),It (i+1) fs'→Rep Γ W ρ H (fs'++fr) h'→VR W v x→Q (some x) { s with heap:=h',toks:=tk' }
structure Itr(prog:Program)(w:World)(Γ:Cx)(W0:Wd)(it:Value)(as:List Addr)(It:Nat→List (Addr×Obj)→Prop)(nx:Nx): Prop where
 adr:∀i fs,It i fs→fs.map (·.1)=as
 next:∀(i:Nat) (W:Wd) (ρ:Lc) (H:Hp) (fr fs:List (Addr×Obj)) (s:Shared) (Q:Option Value→Shared→Prop) (E:Value→Shared→Prop) (o:Option V),W0.Le W→Rep Γ W ρ H (fs++fr) s.heap→(∀a∈as,∀t∈fr,a≠t.1)→It i fs→nx i H=some o →
  Zzb Γ W ρ H fr s It i Q o→wpAny (model prog w) Γ.A (pyNext it) Q E s
 self:∀(i:Nat) (W:Wd) (ρ:Lc) (H:Hp) (fr fs:List (Addr×Obj)) (s:Shared) (Q E:Value→Shared→Prop),W0.Le W→Rep Γ W ρ H (fs++fr) s.heap→It i fs→Q it s→wpAny (model prog w) Γ.A (pyIter it) Q E s
noncomputable abbrev Src:=Lc→Hp→Option (Nx×Nat×Hp)
def JI(prog:Program)(w:World)(Γ:Cx)(e:Expr)(g:Src): Prop:=∀(W:Wd) (ρ:Lc) (H:Hp) (fr:List (Addr×Obj)) (s:Shared) (Q E:Value→Shared→Prop) (nx:Nx) (n:Nat) (H':Hp),
 Rep Γ W ρ H fr s.heap→g ρ H=some (nx,n,H') →
 (∀(W':Wd) (h':Heap) (tk':Nat) (it:Value) (as:List Addr) (It:Nat→List (Addr×Obj)→Prop) (fs:List (Addr×Obj)),W.Le W'→It 0 fs→Rep Γ W' ρ H' (fs++fr) h'→(∀a∈as,∀t∈fr,a≠t.1)→Itr prog w Γ W' it as It nx→Q it { s with heap:=h',toks:=tk' }) →
 wpAny (model prog w) Γ.A (eval e Γ.env) (fun xv s₁=>wpAny (model prog w) Γ.A (pyIter xv) Q E s₁) E s
noncomputable def ZoF(a:Nat): Nx:=fun i H=>H[a]?.map fun vs=>vs[i]?
noncomputable def ZrX(vs:List V): Nx:=fun i _=>some vs[i]?
noncomputable def Ze5(a c:Int)(n:Nat): Nx:=fun i _=>some (if i<n then some (.int (a+i*c))else none)
noncomputable def ZbW(f:Ex): Src:=fun ρ H=>(f ρ H).bind fun p=>match p.1 with
 | .ref a=>p.2[a]?.map fun vs=>(ZoF a,vs.length+1,p.2)
 | .tup vs=>some (ZrX vs,vs.length+1,p.2)
 | _=>none
noncomputable def rngN(a b c:Int): Nat:=(Builtin.Range.rangeSize a b c).toNat
noncomputable def Zcy(a b c:Int)(H:Hp): Option (Nx×Nat×Hp):=if c≠0∧Builtin.Range.small a b c=true∧0≤Builtin.Range.rangeSize a b c∧rngN a b c≤LEN∧Builtin.divisionGoesByPylong (b-a) c=false then some (Ze5 a c (rngN a b c),rngN a b c+1,H)else none
noncomputable def Za0(g:Exs): Src:=fun ρ H=>(g ρ H).bind fun p=>match p.1 with
 | [.int b]=>Zcy 0 b 1 p.2
 | [.int a,.int b]=>Zcy a b 1 p.2
 | [.int a,.int b,.int c]=>Zcy a b c p.2
 | _=>none
section
variable {prog:Program} {w:World} {Γ:Cx}
theorem ZoG{W0:Wd}{I:Addr}{nx:Nx}(P:Nat→Obj→Prop)
  (next:∀(i:Nat) (W:Wd) (ρ:Lc) (H:Hp) (fr:List (Addr×Obj)) (ob:Obj) (s:Shared) (Q:Option Value→Shared→Prop) (E:Value→Shared→Prop) (o:Option V),W0.Le W→Rep Γ W ρ H ((I,ob)::fr) s.heap→P i ob→nx i H=some o →
   (match o with
    | none=>∀(h':Heap) (tk':Nat),(∀b o,b≠I→s.heap.get? b=some o→h'.get? b=some o)→Q none { s with heap:=h',toks:=tk' }
    | some v=>∀(ob':Obj) (h':Heap) (tk':Nat) (x:Value),P (i+1) ob'→h'.get? I=some ob'→(∀b o,b≠I→s.heap.get? b=some o→h'.get? b=some o)→VR W v x→Q (some x) { s with heap:=h',toks:=tk' })→wpAny (model prog w) Γ.A (pyNext (.ref I)) Q E s)
  (self:∀(i:Nat) (W:Wd) (ρ:Lc) (H:Hp) (fr:List (Addr×Obj)) (ob:Obj) (s:Shared) (Q E:Value→Shared→Prop),W0.Le W→Rep Γ W ρ H ((I,ob)::fr) s.heap→P i ob→Q (.ref I) s→wpAny (model prog w) Γ.A (pyIter (.ref I)) Q E s):
  Itr prog w Γ W0 (.ref I) [I] (fun i fs=>∃ob,fs=[(I,ob)]∧P i ob) nx:=by
 refine⟨?_,?_,?_⟩
 ·rintro i fs ⟨ob,e,_⟩
  rw[e]
  rfl
 ·rintro i W ρ H fr fs s Q E o le r ap ⟨ob,e,hp⟩ hn post
  subst e
  refine next i W ρ H fr ob s Q E o le r hp hn ?_
  have ap':∀q∈[(I,ob)],∀t∈fr,q.1≠t.1:=fun q hq t ht=>by rw[List.mem_singleton.mp hq];exact ap I Zz5 t ht
  cases o with
  | none=>
   intro h' tk' keep
   have:=Rep.swap (fs:=[(I,ob)]) (fs':=[]) r ap' (fun b o hb e=>keep b o (fun q=>hb (by simp[q])) e) (fun q hq=>nomatch hq)
   exact post h' tk' this
  | some v=>
   intro ob' h' tk' x hp' hg keep hx
   have:=Rep.swap (fs:=[(I,ob)]) (fs':=[(I,ob')]) r ap' (fun b o hb e=>keep b o (fun q=>hb (by simp[q])) e) (fun q hq=>by rw[List.mem_singleton.mp hq];exact⟨hg,by simp⟩)
   exact post [(I,ob')] h' tk' x ⟨ob',rfl,hp'⟩ this hx
 ·rintro i W ρ H fr fs s Q E le r ⟨ob,e,hp⟩ q
  subst e
  exact self i W ρ H fr ob s Q E le r hp q
theorem JI.seq{e:Expr}{f:Ex}(h:J prog w Γ e f): JI prog w Γ e (ZbW f):=by
 intro W ρ H fr s Q E nx n H' r hf post
 obtain⟨p,e1,hf⟩:=Zz0.mp hf
 refine h W ρ H fr s _ E _ _ r e1 fun W1 k1 t1 x l1 r1 x1=>?_
 obtain⟨v,H1⟩:=p
 cases x1 with
 | none=>cases hf
 | bool _=>cases hf
 | int _ _=>cases hf
 | str _ _=>cases hf
 | @tup vs a xs k hm hl hs=>
  cases hf
  have it:k1.IsTuple a xs.toArray:=⟨_,r1.tupAt hm,rfl,k,rfl⟩
  refine wpAny_pyIter_tuple it ?_
  obtain⟨r2,ap⟩:=r1.more (fs:=[(k1.objs.size,{ cls:=.type "tuple_iterator",data:=.fields #[.ref a,.int 0 0] })]) (fun b o e=>Heap.get?_push_of_some { cls:=.type "tuple_iterator",data:=.fields #[.ref a,.int 0 0] } e) (fun q hq=>by rw[List.mem_singleton.mp hq];exact⟨Heap.get?_push_size _ rfl,Nat.le_refl _⟩)
  refine post W1 _ t1 _ [k1.objs.size] _ _ l1 ⟨_,rfl,?_⟩ r2 (fun b hb t ht=>by rw[List.mem_singleton.mp hb];exact ap _ Zz5 t ht)
   (ZoG (fun i ob=>ob.cls=.type "tuple_iterator"∧ob.data=.fields #[.ref a,.int i 0]) ?_ ?_)
  ·intro i W ρ H fr ob s Q E o le r hp hn post
   have g1:s.heap.IsTupleIter k1.objs.size a i:=⟨ob,r.frAt Zz5,hp.1,hp.2⟩
   have g2:s.heap.IsTuple a xs.toArray:=⟨_,r.tupAt (le.tups _ hm),rfl,k,rfl⟩
   have ne:a≠k1.objs.size:=Nat.ne_of_lt (Heap.lt_size (r1.tupAt hm))
   have Wk:=Walks.tuple (prog:=prog) (w:=w) Γ.hh k1.objs.size a ne xs.toArray
   cases hn
   cases ev:vs[i]? with
   | none=>
    rw[ev]at post
    have hi:xs.toArray[i]?=none:=by have:=List.getElem?_eq_none_iff.mp ev;rw[←hs.length]at this;simpa using this
    exact wpAny_pyNext_tuple_end Γ.hh g1 g2 hi fun h' he'=>post h' s.toks fun b o hb e=>he' b o hb e
   | some v=>
    rw[ev]at post
    obtain⟨y,hy,ry⟩:=hs.at ev
    refine wpAny_pyNext_tuple_item g1 g2 (x:=y) (by simpa using hy) fun h' hit' hs'=>?_
    obtain⟨ob',h1,h2,h3⟩:=hit'
    exact post ob' h' s.toks y ⟨h2,h3⟩ h1 (fun b o hb e=>hs'.extBut b o hb e) (ry.mono le)
  ·intro i W ρ H fr ob s Q E le r hp q
   exact wpAny_pyIter_tupleiter (⟨ob,r.frAt Zz5,hp.1,hp.2⟩:s.heap.IsTupleIter k1.objs.size a i) q
  ·exact⟨rfl,rfl⟩
 | @ref i0 a ea=>
  obtain⟨vs,e2,e3⟩:=Zz1.mp hf
  cases e3
  obtain⟨hl,xs,k,hg,hv⟩:=r1.at e2 ea
  have isl:k1.IsList a xs.toArray:=⟨_,hg,rfl,k,rfl⟩
  refine wpAny_pyIter_list isl ?_
  obtain⟨r2,ap⟩:=r1.more (fs:=[(k1.objs.size,{ cls:=.type "list_iterator",data:=.fields #[.ref a,.int 0 0] })]) (fun b o e=>Heap.get?_push_of_some { cls:=.type "list_iterator",data:=.fields #[.ref a,.int 0 0] } e) (fun q hq=>by rw[List.mem_singleton.mp hq];exact⟨Heap.get?_push_size _ rfl,Nat.le_refl _⟩)
  refine post W1 _ t1 _ [k1.objs.size] _ _ l1 ⟨_,rfl,?_⟩ r2 (fun b hb t ht=>by rw[List.mem_singleton.mp hb];exact ap _ Zz5 t ht)
   (ZoG (fun i ob=>ob.cls=.type "list_iterator"∧ob.data=.fields #[.ref a,.int i 0]) ?_ ?_)
  ·intro i W ρ H fr ob s Q E o le r hp hn post
   obtain⟨us,eu,e4⟩:=Zz1.mp hn
   subst e4
   obtain⟨hl2,ys,k2,hg2,hv2⟩:=r.at eu (le.at ea)
   have g1:s.heap.IsListIter k1.objs.size a i:=⟨ob,r.frAt Zz5,hp.1,hp.2⟩
   have g2:s.heap.IsList a ys.toArray:=⟨_,hg2,rfl,k2,rfl⟩
   cases ev:us[i]? with
   | none=>
    rw[ev]at post
    have hi:ys.toArray[i]?=none:=by have:=List.getElem?_eq_none_iff.mp ev;rw[←hv2.length]at this;simpa using this
    exact wpAny_pyNext_list_end Γ.hh g1 g2 hi fun h' he'=>post h' s.toks fun b o hb e=>he' b o hb e
   | some v=>
    rw[ev]at post
    obtain⟨y,hy,ry⟩:=hv2.at ev
    refine wpAny_pyNext_list_item g1 g2 (x:=y) (by simpa using hy) fun h' hit' hs'=>?_
    obtain⟨ob',h1,h2,h3⟩:=hit'
    exact post ob' h' s.toks y ⟨h2,h3⟩ h1 (fun b o hb e=>hs'.extBut b o hb e) ry
  ·intro i W ρ H fr ob s Q E le r hp q
   exact wpAny_pyIter_listiter (⟨ob,r.frAt Zz5,hp.1,hp.2⟩:s.heap.IsListIter k1.objs.size a i) q
  ·exact⟨rfl,rfl⟩
theorem ZtW{a b c:Int}{H:Hp}{z:Nx×Nat×Hp}(h:Zcy a b c H=some z): c≠0∧Builtin.divisionGoesByPylong (b-a) c=false:=by
 unfold Zcy at h
 split at h
 ·rename_i hc
  exact⟨hc.1,hc.2.2.2.2⟩
 ·cases h
theorem ZvV{W0:Wd}{I:Addr}{a c:Int}{n:Nat}: Itr prog w Γ W0 (.ref I) [I] (fun i fs=>∃ob,fs=[(I,ob)]∧(i≤n∧ob = { cls:=.type "range_iterator",dict:=none,data:=.fields #[rawInt (a+(i:Nat)*c),rawInt ((n:Int)-(i:Nat)),rawInt c],slots:=#[] })) (Ze5 a c n):=by
 have Wk:=Walks.range (prog:=prog) (w:=w) Γ.hh I a c n
 refine ZoG (fun i ob=>i≤n∧ob = { cls:=.type "range_iterator",dict:=none,data:=.fields #[rawInt (a+(i:Nat)*c),rawInt ((n:Int)-(i:Nat)),rawInt c],slots:=#[] }) ?_ ?_
 ·intro i W ρ H fr ob s Q E o le r hp hn post
  have g:IsRangeIter s.heap I (a+(i:Nat)*c) ((n:Int)-(i:Nat)) c:=(r.frAt Zz5).trans (congrArg some hp.2)
  cases hn
  by_cases hi:i<n
  ·rw[if_pos hi]at post
   refine Wk.item i s Q E hi g fun v h' tk hv st keep=>?_
   obtain⟨t,e⟩:=hv
   subst e
   exact post _ h' tk _ ⟨hi,rfl⟩ st (fun b o hb e=>keep b o (by simpa using hb) e) (.int _ _)
  ·rw[if_neg hi]at post
   have e:i=n:=by have:=hp.1;omega
   subst e
   exact Wk.done s Q E g fun h' tk keep=>post h' tk fun b o hb e=>keep b o (by simpa using hb) e
 ·intro i W ρ H fr ob s Q E le r hp q
  have g:IsRangeIter s.heap I (a+(i:Nat)*c) ((n:Int)-(i:Nat)) c:=(r.frAt Zz5).trans (congrArg some hp.2)
  exact Wk.self i s Q E g q
theorem Zmr{a b c:Int}{t u v:Tok}{W:Wd}{ρ:Lc}{H:Hp}{fr:List (Addr×Obj)}{s:Shared}{k:Heap}{tk:Nat}{Q E:Value→Shared→Prop}{nx:Nx}{n:Nat}{H':Hp}(r:Rep Γ W ρ H fr k)(hm:Zcy a b c H=some (nx,n,H'))
  (post:∀(W':Wd) (h':Heap) (tk':Nat) (it:Value) (as:List Addr) (It:Nat→List (Addr×Obj)→Prop) (fs:List (Addr×Obj)),W.Le W'→It 0 fs→Rep Γ W' ρ H' (fs++fr) h'→(∀a∈as,∀t∈fr,a≠t.1)→Itr prog w Γ W' it as It nx→Q it { s with heap:=h',toks:=tk' }):
  wpAny (model prog w) Γ.A (pyIter (.ref k.objs.size)) Q E { s with heap:=k.push { cls:=.type "range",data:=.fields #[.int a t,.int b u,.int c v] },toks:=tk }:=by
 unfold Zcy at hm
 split at hm
 ·rename_i hc
  cases hm
  have hr:IsRange (k.push { cls:=.type "range",data:=.fields #[.int a t,.int b u,.int c v] }) k.objs.size a b c t u v:=IsRange.new ..
  refine wpAny_pyIter_range hr hc.2.1 ?_
  have rp:=r.push { cls:=.type "range",data:=.fields #[.int a t,.int b u,.int c v] }
  have en:Builtin.Range.rangeSize a b c=((rngN a b c:Nat):Int):=(Int.toNat_of_nonneg hc.2.2.1).symm
  dsimp only
  generalize hk:k.push { cls:=.type "range",data:=.fields #[.int a t,.int b u,.int c v] } = k2 at rp ⊢
  obtain⟨r2,ap⟩:=rp.more (fs:=[(k2.objs.size,{ cls:=.type "range_iterator",data:=.fields #[rawInt a,rawInt (Builtin.Range.rangeSize a b c),rawInt c] })]) (fun b' o e=>Heap.get?_push_of_some { cls:=.type "range_iterator",data:=.fields #[rawInt a,rawInt (Builtin.Range.rangeSize a b c),rawInt c] } e) (fun q hq=>by rw[List.mem_singleton.mp hq];exact⟨Heap.get?_push_size _ rfl,Nat.le_refl _⟩)
  refine post W _ tk _ [k2.objs.size] _ _ (.refl W) ⟨_,rfl,Nat.zero_le _,?_⟩ r2 (fun b hb t ht=>by rw[List.mem_singleton.mp hb];exact ap _ Zz5 t ht) (ZvV (a:=a) (c:=c) (n:=rngN a b c))
  rw[en]
  simp
 ·cases hm
theorem JI.range{x:Str}{np pos:Pos}{e:Expr}{es:List Expr}{g:Exs}(hn:Nm prog w Γ x (.type "range"))(h:Js prog w Γ (e::es) g)
  (he:starEach (e::es) Γ.env=(false,eval e Γ.env)::starEach es Γ.env:=by rfl) (hp:∀pos,(backTo pos (starEach es Γ.env)).any (·.1)=false:=by intro _;rfl):JI prog w Γ (.Call (.Name x np) (e::es) [] pos) (Za0 g):=by
 intro W ρ H fr s Q E nx n H' r hf post
 obtain⟨p,e1,hf⟩:=Zz0.mp hf
 refine wpAny_Call_ofName (hn.use r ?_)
 refine PySem.Pv.callWith_type1 (h pos W ρ H fr s _ E _ _ r e1 fun W1 k1 t1 xs l1 r1 x1=>?_) he (hp pos)
 obtain⟨vs,H1⟩:=p
 dsimp only at hf x1 r1
 have post1:=fun W' h' tk' it as It fs (l:W1.Le W')=>post W' h' tk' it as It fs (l1.trans l)
 split at hf
 ·obtain⟨y,ex,ry⟩:=x1.one
  subst ex
  cases ry
  exact call_range_1 (Zmr r1 hf post1)
 ·obtain⟨y,z,ex,ry,rz⟩:=x1.two
  subst ex
  cases ry
  cases rz
  exact call_range_2 (Zmr r1 hf post1)
 ·cases x1 with
  | cons ry x1=>
  obtain⟨y,z,ex,rz,ru⟩:=x1.two
  subst ex
  cases ry
  cases rz
  cases ru
  have hc:=ZtW hf
  exact call_range_3 hc.1 (Zmr r1 hf post1) (.inl hc.2)
 ·cases hf
end
noncomputable def Zdl(nx:Nx)(put:V→Lc→Option Lc)(b:Sm): Nat→Nat→Sm
 | 0,_=>fun _ _=>none
 | n+1,i=>fun ρ H=>(nx i H).bind fun o=>match o with
  | none=>some (none,ρ,H)
  | some v=>(put v ρ).bind fun ρ1=>(b ρ1 H).bind fun q=>match q.1 with
   | some _=>some q
   | none=>Zdl nx put b n (i+1) q.2.1 q.2.2
noncomputable def Za1(g:Src)(put:V→Lc→Option Lc)(b:Sm): Sm:=fun ρ H=>(g ρ H).bind fun z=>Zdl z.1 put b z.2.1 0 ρ z.2.2
noncomputable def put1(i:Nat): V→Lc→Option Lc:=fun v ρ=>some (upd ρ i v)
section
variable {prog:Program} {w:World} {Γ:Cx}
theorem ZcT{x:Str}{i:Nat}{px pos:Pos}{it:Expr}{body:List Stmt}{g:Src}{b:Sm}(hx:Sto prog w Γ x i)(hg:JI prog w Γ it g)(hb:Ss prog w Γ body b)(hs:∀x,foldedSetIterable it Γ.env x=pure x:=by intro _;rfl): S1 prog w Γ (.For (.Name x px) it body [] pos) (Za1 g (put1 i) b):=by
 intro W ρ H fr s Q E r rp hf post
 obtain⟨z,e1,hf⟩:=Zz0.mp hf
 obtain⟨nx,n,H0⟩:=z
 refine wpAny_For (hg W ρ H fr s _ E nx n H0 rp e1 fun W1 k1 t1 itv as It fs l1 i1 r1 ap I1=>?_) hs
 refine codeAny_forLoop (fun k s'=>∃W' ρ' H' h' tk' j fs',s' = { s with heap:=h',toks:=tk' }∧W1.Le W'∧It j fs'∧Rep Γ W' ρ' H' (fs'++fr) h'∧Zdl nx (put1 i) b k j ρ' H'=some r) ?_ n ⟨W1,ρ,H0,k1,t1,0,fs,rfl,.refl _,i1,r1,hf⟩
 rintro k s' ⟨W2,ρ2,H2,k2,t2,j,fs2,rfl,l2,i2,r2,e⟩
 cases k with
 | zero=>cases e
 | succ k=>
  obtain⟨o,e2,e⟩:=Zz0.mp e
  refine I1.next j W2 ρ2 H2 fr fs2 _ _ _ o l2 r2 ap i2 e2 ?_
  cases o with
  | none=>
   cases e
   intro h' tk' r3
   exact wpAny_execs_nil (post W2 h' tk' (l1.trans l2) r3)
  | some v=>
   intro fs3 k3 t3 y i3 r3 y3
   obtain⟨ρ3,e3,e⟩:=Zz0.mp e
   cases e3
   obtain⟨q,e4,e⟩:=Zz0.mp e
   refine wpAny_assign_Name (hx W2 ρ2 H2 (fs3++fr) _ _ _ v y r3 y3 fun k4 t4 r4=>?_)
   refine hb W2 _ H2 (fs3++fr) _ _ _ q r4 e4 ?_
   obtain⟨u,ρ5,H5⟩:=q
   cases u with
   | some u=>
    cases e
    exact fun W5 k5 t5 x5 l5 r5 v5=>post W5 k5 t5 x5 ((l1.trans l2).trans l5) (r5.less fun q hq=>List.mem_append_right _ hq) v5
   | none=>exact fun W5 k5 t5 l5 r5=>⟨k,Nat.lt_succ_self k,W5,ρ5,H5,k5,t5,j+1,fs3,rfl,l2.trans l5,i3,r5,e⟩
end
end PM
end
section
namespace PM
open PySem PySem.W PySem.Calls PyProof.Rows PyProof
structure OwnF(names:List Str)(cs:Scope)(cl:List (Str×Addr))(W:Wd)(ρ:Lc)(m:Str→Option Value)(cells:List (Addr×Obj)): Prop where
 loc:∀(i:Nat) (x:Str) (v:V),names[i]?=some x→cs.names.lookup x=some .local→ρ i=some v→∃y,m x=some y∧VR W v y
 cel:∀(i:Nat) (x:Str) (v:V),names[i]?=some x→cs.names.lookup x=some .cell→ρ i=some v→∃c o y,cl.lookup x=some c∧(c,o)∈cells∧o.data=.cell (some y)∧VR W v y
 all:∀(x:Str) (c:Addr),cl.lookup x=some c→∃o v₀,(c,o)∈cells∧o.data=.cell v₀
 one:∀(x y:Str) (c:Addr),cl.lookup x=some c→cl.lookup y=some c→x=y
theorem OwnF.mono{names:List Str}{cs:Scope}{cl:List (Str×Addr)}{W W':Wd}{ρ:Lc}{m:Str→Option Value}{cells:List (Addr×Obj)}(l:W.Le W')(h:OwnF names cs cl W ρ m cells): OwnF names cs cl W' ρ m cells:=
 ⟨fun i x v a b c=>by
  obtain⟨y,h1,h2⟩:=h.loc i x v a b c
  exact⟨y,h1,h2.mono l⟩,fun i x v a b c=>by
  obtain⟨d,o,y,h1,h2,h3,h4⟩:=h.cel i x v a b c
  exact⟨d,o,y,h1,h2,h3,h4.mono l⟩,h.all,h.one⟩
noncomputable def ZbL(dp un:Nat)(gd:Option (List Code))(cn:Str)(cs:Scope)(L a:Addr)(ccd:Value)(cl:List (Str×Addr))(outer:List Env)(h₀:Heap)(hu:un+200<cLine)(names:List Str): Cx where
 A:=ktrTop dp un gd cn cs L a ccd cl outer
 env:=envX cn cs L a ccd cl
 h₀:=h₀
 L:=L
 hh:=rfl
 hu:=hu
 Own:=OwnF names cs cl
 mono:=OwnF.mono
section
variable {prog:Program} {w:World} {dp un:Nat} {gd:Option (List Code)} {cn:Str} {cs:Scope} {L a:Addr} {ccd:Value} {cl:List (Str×Addr)} {outer:List Env} {h₀:Heap} {hu:un+200<cLine} {names:List Str}
theorem Zx4{x:Str}{i:Nat}(hi:names[i]?=some x)(hx:cs.names.lookup x=some .local)(hk:cs.kind=.function)(hd:(x == ("__debug__":Str))=false): Rd prog w (ZbL dp un gd cn cs L a ccd cl outer h₀ hu names) x i:=by
 intro W ρ H fr s Q E v pos r e q
 obtain⟨m,c,led,r⟩:=r
 obtain⟨y,h1,h2⟩:=r.own.loc i x v hi hx e
 exact nameX_L r.F h1 (q y h2) hk hx hd
theorem Zx5{x:Str}{i:Nat}(hi:names[i]?=some x)(hx:cs.names.lookup x=some .cell)(hk:cs.kind=.function)(hd:(x == ("__debug__":Str))=false): Rd prog w (ZbL dp un gd cn cs L a ccd cl outer h₀ hu names) x i:=by
 intro W ρ H fr s Q E v pos r e q
 obtain⟨m,c,led,r⟩:=r
 obtain⟨d,o,y,h1,h2,h3,h4⟩:=r.own.cel i x v hi hx e
 exact nameX_C r.N h1 (r.clIn _ h2) h3 (q y h4) hk hx hd
theorem ZwN{x:Str}{i:Nat}(nd:names.Nodup)(hi:names[i]?=some x)(hx:cs.names.lookup x=some .local)(hk:cs.kind=.function): Sto prog w (ZbL dp un gd cn cs L a ccd cl outer h₀ hu names) x i:=by
 intro W ρ H fr s Q E v y r vy q
 obtain⟨m,c,led,r⟩:=r
 have hi':i<names.length:=(Zz6.mp hi).1
 refine storeX_L r.F r.N (fun h' F' N'=>q h' _ ⟨_,c,led,⟨F',N',r.R,r.sc,r.sc0,r.frIn,r.frOff,r.clIn,r.clOff,r.apart,r.frTup,r.clTup,⟨fun j z u hj hz hu=>?_,fun j z u hj hz hu=>?_,r.own.all,r.own.one⟩⟩⟩) hk hx
 ·by_cases e:j=i
  ·subst e
   rw[hi]at hj
   cases hj
   simp only[upd,if_true]at hu
   cases hu
   exact⟨y,by simp,vy⟩
  ·have hzx:z≠x:=fun e'=>by
    subst e'
    exact e ((List.getElem?_inj (Zz6.mp hj).1 nd).mp (hj.trans hi.symm))
   simp only[upd,if_neg e]at hu
   obtain⟨y',h1,h2⟩:=r.own.loc j z u hj hz hu
   exact⟨y',by simp[hzx,h1],h2⟩
 ·by_cases e:j=i
  ·subst e
   rw[hi]at hj
   cases hj
   rw[hx]at hz
   cases hz
  ·simp only[upd,if_neg e]at hu
   exact r.own.cel j z u hj hz hu
theorem ZwO{x:Str}{i:Nat}(nd:names.Nodup)(hi:names[i]?=some x)(hx:cs.names.lookup x=some .cell)(hk:cs.kind=.function)(hcl:(cl.lookup x).isSome=true): Sto prog w (ZbL dp un gd cn cs L a ccd cl outer h₀ hu names) x i:=by
 intro W ρ H fr s Q E v y r vy q
 obtain⟨m,c,led,r⟩:=r
 obtain⟨d,hd⟩:=Option.isSome_iff_exists.mp hcl
 obtain⟨o,v₀,ho,hv₀⟩:=r.own.all x d hd
 have inl:=r.clIn _ ho
 have N2:News h₀ L s.heap ((d,o)::led.filter (fun q=>decide (q.1≠d))):=by
  intro q hq
  rcases Zz7.mp hq with e | hq
  ·subst e
   exact r.N _ inl
  ·exact r.N q (List.mem_filter.mp hq).1
 refine storeX_C r.F N2 hd (UpdF.head fun q hq=>by simpa using (List.mem_filter.mp hq).2) hv₀ (fun h' o' F' N' ho'=>?_) hk hx
 have keep:∀q∈led,q.1≠d→q∈(d,o')::led.filter (fun q=>decide (q.1≠d)):=fun q hq hn=>List.mem_cons_of_mem _ (List.mem_filter.mpr ⟨hq,by simpa using hn⟩)
 refine q h' s.toks ⟨m,(d,o')::c.filter (fun q=>decide (q.1≠d)),_,⟨F',N',⟨r.R.len,r.R.nd,fun j vs e=>?_,fun q hq=>ZeD (r.R.tups q hq) fun z=>keep q z (r.clTup _ ho q hq).symm,r.R.kind⟩,r.sc,r.sc0,fun q hq=>keep q (r.frIn q hq) (r.apart _ ho q hq).symm,r.frOff,fun q hq=>?_,fun q hq=>?_,fun q hq t ht=>?_,r.frTup,fun q hq t ht=>?_,⟨fun j z u hj hz hu=>?_,fun j z u hj hz hu=>?_,fun z e hz=>?_,r.own.one⟩⟩⟩
 ·obtain⟨l,b,xs,k,h1,h2,h3⟩:=r.R.lists j vs e
  exact⟨l,b,xs,k,h1,ZeD h2 fun z=>keep _ z fun e=>r.clOff _ ho (e▸List.mem_of_getElem? h1),h3⟩
 ·rcases Zz7.mp hq with e | hq
  ·exact e▸List.mem_cons_self
  ·obtain⟨h1,h2⟩:=List.mem_filter.mp hq
   exact keep q (r.clIn q h1) (by simpa using h2)
 ·rcases Zz7.mp hq with e | hq
  ·rw[e]
   exact(r.clOff _ ho:d∉W.pi)
  ·exact r.clOff q (List.mem_filter.mp hq).1
 ·rcases Zz7.mp hq with e | hq
  ·rw[e]
   exact(r.apart _ ho t ht:d≠t.1)
  ·exact r.apart q (List.mem_filter.mp hq).1 t ht
 ·rcases Zz7.mp hq with e | hq
  ·rw[e]
   exact(r.clTup _ ho t ht:d≠t.1)
  ·exact r.clTup q (List.mem_filter.mp hq).1 t ht
 ·by_cases e:j=i
  ·subst e
   rw[hi]at hj
   cases hj
   rw[hx]at hz
   cases hz
  ·simp only[upd,if_neg e]at hu
   exact r.own.loc j z u hj hz hu
 ·by_cases e:j=i
  ·subst e
   rw[hi]at hj
   cases hj
   simp only[upd,if_true]at hu
   cases hu
   exact⟨d,o',y,hd,List.mem_cons_self,ho',vy⟩
  ·have hzx:z≠x:=fun e'=>by
    subst e'
    exact e ((List.getElem?_inj (Zz6.mp hj).1 nd).mp (hj.trans hi.symm))
   simp only[upd,if_neg e]at hu
   obtain⟨b,ob,y',h1,h2,h3,h4⟩:=r.own.cel j z u hj hz hu
   have:b≠d:=fun e'=>by
    subst e'
    exact hzx (r.own.one z x b h1 hd)
   exact⟨b,ob,y',h1,List.mem_cons_of_mem _ (List.mem_filter.mpr ⟨h2,by simpa using this⟩),h3,h4⟩
 ·by_cases e':e=d
  ·subst e'
   exact⟨o',_,List.mem_cons_self,ho'⟩
  ·obtain⟨ob,v1,h1,h2⟩:=r.own.all z e hz
   exact⟨ob,v1,List.mem_cons_of_mem _ (List.mem_filter.mpr ⟨h1,by simpa using e'⟩),h2⟩
end
end PM
end
section
namespace PM
open PySem PySem.W PySem.Calls PyProof.Rows PyProof PyProof.Rows.LCg
theorem ZgT{Γ:Cx}{W:Wd}{ρ:Lc}{H:Hp}{fr:List (Addr×Obj)}{h:Heap}{D:Addr}{ys:List Value}{k:Nat}{vs:List V}(r:Rep Γ W ρ H ((D,ZbU ys k)::fr) h)(ap:∀t∈fr,D≠t.1)(hv:VRs W vs ys)(hl:vs.length≤LEN):
  ∃W',W.Le W'∧Rep Γ W' ρ (H++[vs]) fr h∧VR W' (.ref H.length) (.ref D):=by
 obtain⟨m,c,led,r⟩:=r
 have le:W.Le ⟨W.pi++[D],W.tups,W.sc⟩:=⟨List.prefix_append _ _,fun q hq=>hq,rfl⟩
 have h0:0<W.pi.length:=(Zz6.mp r.sc0).1
 have at_n:(W.pi++[D])[H.length]?=some D:=by rw[←r.R.len];simp
 have off:=r.frOff _ Zz5
 refine⟨⟨W.pi++[D],W.tups,W.sc⟩,le,⟨m,c,led,⟨r.F,r.N,⟨by simp[r.R.len],?_,fun i us e=>?_,r.R.tups,r.R.kind⟩,r.sc,(List.getElem?_append_left h0).trans r.sc0,fun q hq=>r.frIn q (Zz2 _ hq),fun q hq=>?_,r.clIn,fun q hq=>?_,fun q hq t ht=>r.apart q hq t (Zz2 _ ht),fun q hq=>r.frTup q (Zz2 _ hq),r.clTup,Γ.mono le r.own⟩⟩,.ref at_n⟩
 ·show(W.pi++[D]).Nodup
  rw[List.nodup_append]
  refine⟨r.R.nd,by simp,fun a ha b hb=>?_⟩
  rw[List.mem_singleton.mp hb]
  exact fun e=>off (e▸ha)
 ·by_cases hi:i<H.length
  ·rw[List.getElem?_append_left hi]at e
   obtain⟨l,a,zs,j,h1,h2,h3⟩:=r.R.lists i us e
   exact⟨l,a,zs,j,le.at h1,h2,h3.mono le⟩
  ·have:i=H.length:=by
    have:=(Zz6.mp e).1
    simp at this
    omega
   subst this
   simp at e
   subst e
   exact⟨hl,D,ys,k,at_n,List.mem_cons_of_mem _ (r.frIn _ Zz5),hv.mono le⟩
 ·intro hm
  rcases Zz8.mp hm with hm | hm
  ·exact r.frOff q (Zz2 _ hq) hm
  ·exact ap q hq (Zz9.mp hm).symm
 ·intro hm
  rcases Zz8.mp hm with hm | hm
  ·exact r.clOff q hq hm
  ·exact r.apart q hq _ Zz5 (Zz9.mp hm)
def ZzI(Γ:Cx)(C:Addr)(ts:List (Str×Nat))(ρ0:Lc)(W:Wd)(ρ:Lc)(m:Str→Option Value)(cells:List (Addr×Obj)): Prop:=
 ∃oC m₂ cs,cells=(C,oC)::cs∧(∀q∈cs,q.1≠C)∧NsObj oC m₂∧(∀p∈ts,∃v y,ρ p.2=some v∧m₂ p.1=some y∧VR W v y)∧(∀j,(∀p∈ts,p.2≠j)→ρ j=ρ0 j)∧Γ.Own W ρ0 m cs
noncomputable def Zbe(Γ:Cx)(scope:Scope)(cl:List (Str×Addr))(C:Addr)(ts:List (Str×Nat))(ρ0:Lc): Cx where
 A:=Γ.A
 env:=compEnvC scope cl C Γ.env
 h₀:=Γ.h₀
 L:=Γ.L
 hh:=Γ.hh
 hu:=Γ.hu
 Own:=ZzI Γ C ts ρ0
 mono:=fun l h=>by
  obtain⟨oC,m₂,cs,e,h0,h1,h2,h3,h4⟩:=h
  exact⟨oC,m₂,cs,e,h0,h1,fun p hp=>by
   obtain⟨v,y,a,b,c⟩:=h2 p hp
   exact⟨v,y,a,b,c.mono l⟩,h3,Γ.mono l h4⟩
section
variable {Γ:Cx} {scope:Scope} {cl:List (Str×Addr)} {C:Addr} {ts:List (Str×Nat)} {ρ0:Lc} {W:Wd} {ρ:Lc} {H:Hp} {fr:List (Addr×Obj)} {h:Heap}
theorem Zri{oC:Obj}{m₂:Str→Option Value}(r:Rep Γ W ρ0 H ((C,oC)::fr) h)(ap:∀t∈fr,C≠t.1)(hC:NsObj oC m₂)(ht:∀p∈ts,∃v y,ρ p.2=some v∧m₂ p.1=some y∧VR W v y)(hj:∀j,(∀p∈ts,p.2≠j)→ρ j=ρ0 j): Rep (Zbe Γ scope cl C ts ρ0) W ρ H fr h:=by
 obtain⟨m,c,led,r⟩:=r
 refine⟨m,(C,oC)::c,led,⟨r.F,r.N,r.R,r.sc,r.sc0,fun q hq=>r.frIn q (Zz2 _ hq),fun q hq=>r.frOff q (Zz2 _ hq),fun q hq=>?_,fun q hq=>?_,fun q hq t ht=>?_,fun q hq=>r.frTup q (Zz2 _ hq),fun q hq t ht=>?_,⟨oC,m₂,c,rfl,fun q hq=>r.apart q hq _ Zz5,hC,ht,hj,r.own⟩⟩⟩
 ·rcases Zz7.mp hq with e | hq
  ·exact e▸r.frIn _ Zz5
  ·exact r.clIn q hq
 ·rcases Zz7.mp hq with e | hq
  ·exact e▸r.frOff _ Zz5
  ·exact r.clOff q hq
 ·rcases Zz7.mp hq with e | hq
  ·exact e▸ap t ht
  ·exact r.apart q hq t (Zz2 _ ht)
 ·rcases Zz7.mp hq with e | hq
  ·exact e▸r.frTup _ Zz5 t ht
  ·exact r.clTup q hq t ht
theorem Rep.fromC(r:Rep (Zbe Γ scope cl C ts ρ0) W ρ H fr h): ∃oC m₂,NsObj oC m₂∧Rep Γ W ρ0 H ((C,oC)::fr) h:=by
 obtain⟨m,c,led,r⟩:=r
 obtain⟨oC,m₂,cs,e,h0,h1,h2,h3,h4⟩:=r.own
 subst e
 refine⟨oC,m₂,h1,m,cs,led,⟨r.F,r.N,r.R,r.sc,r.sc0,fun q hq=>?_,fun q hq=>?_,fun q hq=>r.clIn q (Zz2 _ hq),fun q hq=>r.clOff q (Zz2 _ hq),fun q hq t ht=>?_,fun q hq t ht=>?_,fun q hq=>r.clTup q (Zz2 _ hq),h4⟩⟩
 ·rcases Zz7.mp hq with e | hq
  ·exact e▸r.clIn _ Zz5
  ·exact r.frIn q hq
 ·rcases Zz7.mp hq with e | hq
  ·exact e▸r.clOff _ Zz5
  ·exact r.frOff q hq
 ·rcases Zz7.mp ht with e | ht
  ·rw[e]
   exact h0 q hq
  ·exact r.apart q (Zz2 _ hq) t ht
 ·rcases Zz7.mp hq with e | hq
  ·exact e▸r.clTup _ Zz5 t ht
  ·exact r.frTup q hq t ht
end
def JF(prog:Program)(w:World)(Γ:Cx)(ifs:List Expr)(f:Ts): Prop:=∀(W:Wd) (ρ:Lc) (H:Hp) (fr:List (Addr×Obj)) (s:Shared) (Q:Bool→Shared→Prop) (E:Value→Shared→Prop) (b:Bool) (H':Hp),
 Rep Γ W ρ H fr s.heap→f ρ H=some (b,H')→ZjZ Γ W ρ H' fr s Q b →
 wpAny (model prog w) Γ.A (forIn ifs true fun c r=>if r=true then do let ok ←isTrue c Γ.env (eval c Γ.env);pure (ForInStep.yield ok)else pure (ForInStep.yield r)) Q E s
section
variable {prog:Program} {w:World} {Γ:Cx}
theorem JF.nil: JF prog w Γ [] Zat:=fun W ρ H fr s Q E b H' r hf post=>by
 cases hf
 exact wpAny_pure (post W s.heap s.toks (.refl W) r)
theorem JF.one{e:Expr}{t:Ts}(h:JT prog w Γ e t): JF prog w Γ [e] t:=fun W ρ H fr s Q E b H' r hf post=>by
 rw[List.forIn_cons]
 simp only[if_true,List.forIn_nil]
 refine wpAny_bind (wpAny_bind (h W ρ H fr s _ E b H' r hf fun W1 k1 t1 l1 r1=>wpAny_pure ?_))
 exact wpAny_pure (post W1 k1 t1 l1 r1)
end
end PM
end
section
namespace PM
open PySem PySem.W PySem.Calls PyProof.Rows PyProof PyProof.Rows.LCg
noncomputable def ZcV(nx:Nx)(put:V→Lc→Option Lc)(c:Ts)(f:Ex)(ρ:Lc): Nat→Nat→List V→Hp→Option (List V×Hp)
 | 0,_,_,_=>none
 | n+1,i,acc,H=>(nx i H).bind fun o=>match o with
  | none=>some (acc,H)
  | some v=>(put v ρ).bind fun ρ1=>(c ρ1 H).bind fun b=>if b.1 then(f ρ1 b.2).bind fun p=>(if acc.length<LEN then ZcV nx put c f ρ n (i+1) (acc++[p.1]) p.2 else none)else ZcV nx put c f ρ n (i+1) acc b.2
noncomputable def Zaz(g:Src)(put:V→Lc→Option Lc)(c:Ts)(f:Ex): Ex:=fun ρ H=>(g ρ H).bind fun z=>(ZcV z.1 put c f ρ z.2.1 0 [] z.2.2).map fun q=>(.ref q.2.length,q.2++[q.1])
def ZhM(Γ:Cx)(W0:Wd)(ρ:Lc)(fr:List (Addr×Obj))(C D:Addr)(It:Nat→List (Addr×Obj)→Prop)(nx:Nx)(put:V→Lc→Option Lc)(c:Ts)(f:Ex)(q:List V×Hp)(s:Shared)(k:Nat)(s':Shared): Prop:=
 ∃W' H' h' tk' j fs acc ys oC m₂,s' = { s with heap:=h',toks:=tk' }∧W0.Le W'∧It j fs∧NsObj oC m₂∧VRs W' acc ys∧acc.length≤LEN∧Rep Γ W' ρ H' ((C,oC)::(D,lst ys)::(fs++fr)) h'∧ZcV nx put c f ρ k j acc H'=some q
section
variable {prog:Program} {w:World} {Γ:Cx}
theorem Zqo{scope:Scope}{cl:List (Str×Addr)}{elt:Expr}{ts:List (Str×Nat)}{W0 W:Wd}{ρ ρ1:Lc}{H:Hp}{fr fs:List (Addr×Obj)}{C D:Addr}{It:Nat→List (Addr×Obj)→Prop}{nx:Nx}{put:V→Lc→Option Lc}{c:Ts}{f:Ex}{q:List V×Hp}{s:Shared}{h:Heap}{tk:Nat}{k j:Nat}{acc:List V}{ys:List Value}{E:Value→Shared→Prop}
  (hel:J prog w (Zbe Γ scope cl C ts ρ) elt f) (aD:∀t∈fs++fr,D≠t.1) (cd:C≠D) (l0:W0.Le W) (hit:It (j+1) fs) (hv:VRs W acc ys) (r:Rep (Zbe Γ scope cl C ts ρ) W ρ1 H ((D,lst ys)::(fs++fr)) h)
  (e:((f ρ1 H).bind fun p=>(if acc.length<LEN then ZcV nx put c f ρ k (j+1) (acc++[p.1]) p.2 else none))=some q):
  wpAny (model prog w) Γ.A (eval elt (compEnvC scope cl C Γ.env)) (fun x s₄=>wpAny (model prog w) Γ.A (call (.builtin "list.append") [.ref D,x]) (fun _ s₅=>∃m,m<k+1∧ZhM Γ W0 ρ fr C D It nx put c f q s m s₅) E s₄) E { s with heap:=h,toks:=tk }:=by
 obtain⟨p,e2,e⟩:=Zz0.mp e
 by_cases hlt:acc.length<LEN
 ·rw[if_pos hlt]at e
  refine hel W ρ1 H _ _ _ E _ _ r e2 fun W2 k2 t2 x l2 r2 x2=>?_
  obtain⟨oC',m₃,hC',r3⟩:=r2.fromC
  have hD:k2.get? D=some (lst ys):=r3.frAt (q:=(D,lst ys)) (Zz2 _ Zz5)
  refine append_at (hsz:=Zdf (by rw[List.size_toArray,hv.length];omega)) hD fun h' sb hg=>?_
  have hg':h'.get? D=some (lst (ys++[x])):=hg.trans (congrArg some (lst_snoc ys x))
  have r4:Rep Γ W2 ρ p.2 ([(D,lst ys)]++((C,oC')::(fs++fr))) k2:=r3.less fun q hq=>by
   rcases Zz8.mp hq with hq | hq
   ·rw[List.mem_singleton.mp hq]
    exact Zz2 _ Zz5
   ·rcases Zz7.mp hq with e | hq
    ·exact e▸List.mem_cons_self
    ·exact Zz2 _ (Zz2 _ hq)
  have r5:Rep Γ W2 ρ p.2 ([(D,lst (ys++[x]))]++((C,oC')::(fs++fr))) h':=by
   refine r4.swap (fun q hq t ht=>?_) (fun b o hb e=>sb.extBut b o (fun z=>hb (by simp[z])) e) fun q hq=>?_
   ·rw[List.mem_singleton.mp hq]
    rcases Zz7.mp ht with e | ht
    ·rw[e]
     exact cd.symm
    ·exact aD t ht
   ·rw[List.mem_singleton.mp hq]
    exact⟨hg',by simp⟩
  have r6:Rep Γ W2 ρ p.2 ((C,oC')::(D,lst (ys++[x]))::(fs++fr)) h':=r5.less fun q hq=>by
   rcases Zz7.mp hq with e | hq
   ·exact e▸List.mem_append_right _ Zz5
   ·rcases Zz7.mp hq with e | hq
    ·exact e▸List.mem_append_left _ Zz5
    ·exact Zz3 _ (Zz2 _ hq)
  exact⟨k,Nat.lt_succ_self k,W2,p.2,h',t2,j+1,fs,acc++[p.1],ys++[x],oC',m₃,rfl,l0.trans l2,hit,hC',(hv.mono l2).snoc x2,by simp;omega,r6,e⟩
 ·rw[if_neg hlt]at e
  cases e
theorem ZvW{scope:Scope}{cl:List (Str×Addr)}{elt:Expr}{ifs:List Expr}{ts:List (Str×Nat)}{W0 W:Wd}{ρ ρ1:Lc}{H:Hp}{fr fs:List (Addr×Obj)}{C D:Addr}{It:Nat→List (Addr×Obj)→Prop}{nx:Nx}{put:V→Lc→Option Lc}{c:Ts}{f:Ex}{q:List V×Hp}{s s1:Shared}{k j:Nat}{acc:List V}{ys:List Value}{oC:Obj}{m₂:Str→Option Value}{E:Value→Shared→Prop}
  (hel:J prog w (Zbe Γ scope cl C ts ρ) elt f) (hif:JF prog w (Zbe Γ scope cl C ts ρ) ifs c) (hs:∃h tk,s1 = { s with heap:=h,toks:=tk })
  (aC:∀t∈(D,lst ys)::(fs++fr),C≠t.1) (aD:∀t∈fs++fr,D≠t.1) (l0:W0.Le W) (hit:It (j+1) fs) (hC:NsObj oC m₂) (hv:VRs W acc ys) (hl:acc.length≤LEN) (r:Rep Γ W ρ H ((C,oC)::(D,lst ys)::(fs++fr)) s1.heap)
  (ht:∀p∈ts,∃v y,ρ1 p.2=some v∧m₂ p.1=some y∧VR W v y) (hj:∀i,(∀p∈ts,p.2≠i)→ρ1 i=ρ i)
  (e:((c ρ1 H).bind fun b=>if b.1 then(f ρ1 b.2).bind fun p=>(if acc.length<LEN then ZcV nx put c f ρ k (j+1) (acc++[p.1]) p.2 else none)else ZcV nx put c f ρ k (j+1) acc b.2)=some q):
  wpAny (model prog w) Γ.A (forIn ifs true fun c r=>if r=true then do let ok ←isTrue c (compEnvC scope cl C Γ.env) (eval c (compEnvC scope cl C Γ.env));pure (ForInStep.yield ok)else pure (ForInStep.yield r)) (fun ok s₃=>
   if ok=true then wpAny (model prog w) Γ.A (eval elt (compEnvC scope cl C Γ.env)) (fun x s₄=>wpAny (model prog w) Γ.A (call (.builtin "list.append") [.ref D,x]) (fun _ s₅=>∃m,m<k+1∧ZhM Γ W0 ρ fr C D It nx put c f q s m s₅) E s₄) E s₃
   else ∃m,m<k+1∧ZhM Γ W0 ρ fr C D It nx put c f q s m s₃) E s1:=by
 obtain⟨h,tk,rfl⟩:=hs
 obtain⟨b,e1,e⟩:=Zz0.mp e
 obtain⟨b,H1⟩:=b
 have rc:=Zri (scope:=scope) (cl:=cl) r aC hC ht hj
 refine hif W ρ1 H _ _ _ E b H1 rc e1 fun W1 k1 t1 l1 r1=>?_
 cases b with
 | false=>
  obtain⟨oC',m₃,hC',r2⟩:=r1.fromC
  exact⟨k,Nat.lt_succ_self k,W1,H1,k1,t1,j+1,fs,acc,ys,oC',m₃,rfl,l0.trans l1,hit,hC',hv.mono l1,hl,r2,e⟩
 | true=>exact Zqo hel aD (aC (D,lst ys) Zz5) (l0.trans l1) hit (hv.mono l1) r1 e
theorem comp_core{elt iter:Expr}{x:Str}{px:Pos}{ifs:List Expr}{scope:Scope}{pos:Pos}{cl:List (Str×Addr)}{t:Nat}{g:Src}{c:Ts}{f:Ex}(hg:JI prog w Γ iter g)(hel:∀C ρ,J prog w (Zbe Γ scope cl C [(x,t)] ρ) elt f)(hif:∀C ρ,JF prog w (Zbe Γ scope cl C [(x,t)] ρ) ifs c)
  (hcell:∀y∈scope.names,y.2≠.cell) (hkind:scope.kind=.function) (hx:scope.names.lookup x=some .local)
  {W:Wd} {ρ:Lc} {H:Hp} {fr:List (Addr×Obj)} {s:Shared} {E:Value→Shared→Prop} {q:List V×Hp} {RR:Value→Addr→Result→Shared→Prop} (r:Rep Γ W ρ H fr s.heap) (hf:((g ρ H).bind fun z=>ZcV z.1 (put1 t) c f ρ z.2.1 0 [] z.2.2)=some q)
  (hR:∀(W':Wd) (h':Heap) (tk':Nat) (C D:Addr) (oC:Obj) (m₂:Str→Option Value) (ys:List Value),W.Le W'→NsObj oC m₂→VRs W' q.1 ys→q.1.length≤LEN→(∀t∈fr,D≠t.1)→(∀t∈fr,C≠t.1)→C≠D→Rep Γ W' ρ q.2 ((C,oC)::(D,lst ys)::fr) h'→RR (.ref D) C (.ok .next) { s with heap:=h',toks:=tk' }):
  wpAny (model prog w) Γ.A (eval iter Γ.env) (fun xv s₁=>wpAny (model prog w) Γ.A (pyIter xv) (fun it s₂=>wpAny (model prog w) Γ.A (newList []) (fun acc s₃=>wpAny (model prog w) Γ.A (newFunctionEnv scope Γ.env.globals cl [] Γ.env.qual none .none (some Γ.env)) (fun cenv s₄=>
   codeAny (model prog w) Γ.A (.compStart (.ListComp elt [⟨.Name x px,iter,ifs,0⟩] scope pos) 0 it acc { cenv with scope:=relabel scope Γ.env }) (RR acc cenv.locals) s₄) E s₃) E s₂) E s₁) E s:=by
 obtain⟨z,e1,e2⟩:=Zz0.mp hf
 obtain⟨nx,n,H0⟩:=z
 refine hg W ρ H fr s _ E nx n H0 r e1 fun W1 k1 t1 itv as It fs l1 i1 r1 ap I1=>?_
 refine wpAny_newObj_type (wpAny_newFunctionEnv hcell (fun y hy=>by simp at hy) (fun h₂ hns hsb=>?_) hkind)
 dsimp only at hns hsb ⊢
 obtain⟨rD,aD⟩:=r1.more (fs:=[(k1.objs.size,lst [])]) (fun b o e=>Heap.get?_push_of_some (lst []) e) (fun q hq=>by rw[List.mem_singleton.mp hq];exact⟨Heap.get?_push_size _ rfl,Nat.le_refl _⟩)
 generalize eH:k1.push { cls:=.type "list",dict:=none,data:=.seq ([]:List Value).toArray } = K at hns hsb ⊢
 have eK:k1.push (lst [])=K:=eH
 rw[eK]at rD
 obtain⟨oC,gC,nC⟩:=ns_obj hns
 have up:∀b o,K.get? b=some o→h₂.get? b=some o:=fun b o e=>hsb.extBut b o (Nat.ne_of_lt (Heap.lt_size e)) (Heap.get?_push_of_some _ e)
 obtain⟨rC,aC⟩:=rD.more (fs:=[(K.objs.size,oC)]) up (fun q hq=>by rw[List.mem_singleton.mp hq];exact⟨gC,Nat.le_refl _⟩)
 have adr0:=I1.adr 0 fs i1
 have offs:∀b∈as,b≠k1.objs.size∧b≠K.objs.size:=fun b hb=>by
  rw[←adr0]at hb
  obtain⟨q,hq,e⟩:=Zz11.mp hb
  exact⟨e▸(aD _ Zz5 q (Zz4 _ hq)).symm,e▸(aC _ Zz5 q (Zz3 _ (Zz4 _ hq))).symm⟩
 have cd:K.objs.size≠k1.objs.size:=aC _ Zz5 (k1.objs.size,lst []) (Zz4 _ Zz5)
 have cfr:∀t∈fr,K.objs.size≠t.1:=fun t ht=>aC _ Zz5 t (Zz3 _ (Zz3 _ ht))
 have dfr:∀t∈fr,k1.objs.size≠t.1:=fun t ht=>aD _ Zz5 t (Zz3 _ ht)
 generalize k1.objs.size=D at *
 generalize K.objs.size=C at *
 have loop:∀s₃:Shared,s₃ = { s with heap:=h₂,toks:=t1+([]:List (Str×Value)).length } →
   codeAny (model prog w) Γ.A (.compLoop (.ListComp elt [⟨.Name x px,iter,ifs,0⟩] scope pos) 0 itv (.ref D) (compEnvC scope cl C Γ.env)) (RR (.ref D) C) s₃:=by
  intro s₃ hs₃
  subst hs₃
  refine codeAny_compLoop_tests (ZhM Γ W1 ρ fr C D It nx (put1 t) c f q s) ?_ n ⟨W1,H0,h₂,_,0,fs,[],[],oC,_,rfl,.refl _,i1,nC,.nil,Nat.zero_le _,rC,e2⟩
  rintro k s' ⟨W2,H2,k2,t2,j,fs2,acc,ys,oC2,m₂,rfl,l2,i2,hC2,hv2,hl2,r2,e⟩
  cases k with
  | zero=>cases e
  | succ k=>
   obtain⟨o,e4,e⟩:=Zz0.mp e
   have r2':Rep Γ W2 ρ H2 (fs2++((C,oC2)::(D,lst ys)::fr)) k2:=r2.less fun q hq=>by
    rcases Zz8.mp hq with hq | hq
    ·exact Zz2 _ (Zz2 _ (Zz4 _ hq))
    ·rcases Zz7.mp hq with e | hq
     ·exact e▸List.mem_cons_self
     ·rcases Zz7.mp hq with e | hq
      ·exact e▸List.mem_cons_of_mem _ Zz5
      ·exact Zz2 _ (Zz2 _ (Zz3 _ hq))
   have ap2:∀b∈as,∀t∈(C,oC2)::(D,lst ys)::fr,b≠t.1:=fun b hb t ht=>by
    rcases Zz7.mp ht with e | ht
    ·rw[e]
     exact(offs b hb).2
    ·rcases Zz7.mp ht with e | ht
     ·rw[e]
      exact(offs b hb).1
     ·exact ap b hb t ht
   refine I1.next j W2 ρ H2 _ fs2 _ _ _ o l2 r2' ap2 i2 e4 ?_
   cases o with
   | none=>
    cases e
    intro h' tk' r3
    exact hR W2 h' tk' C D oC2 m₂ ys (l1.trans l2) hC2 hv2 hl2 dfr cfr cd r3
   | some v=>
    intro fs3 k3 t3 y i3 r3 y3
    obtain⟨ρ3,e5,e⟩:=Zz0.mp e
    cases e5
    have a3:∀t∈fs3,t.1∈as:=fun t ht=>by
     rw[←I1.adr _ _ i3]
     exact List.mem_map_of_mem ht
    have gC3:k3.get? C=some oC2:=r3.frAt (q:=(C,oC2)) (Zz3 _ Zz5)
    have nC3:k3.Ns C m₂:=hC2.ns gC3
    refine wpAny_assign_Name (wpAny_storeName_local (lookup_relabel_local hx) nC3 (fun h4 hn4 sb4=>?_) (by simp[compEnvC,relabel,hkind]))
    obtain⟨oC4,gC4,nC4⟩:=ns_obj hn4
    have r3':Rep Γ W2 ρ H2 ([(C,oC2)]++((D,lst ys)::(fs3++fr))) k3:=r3.less fun q hq=>by
     rcases Zz8.mp hq with hq | hq
     ·rw[List.mem_singleton.mp hq]
      exact Zz3 _ Zz5
     ·rcases Zz7.mp hq with e | hq
      ·exact e▸List.mem_append_right _ (Zz2 _ Zz5)
      ·rcases Zz8.mp hq with hq | hq
       ·exact Zz4 _ hq
       ·exact Zz3 _ (Zz2 _ (Zz2 _ hq))
    have aC3:∀t∈(D,lst ys)::(fs3++fr),C≠t.1:=fun t ht=>by
     rcases Zz7.mp ht with e | ht
     ·rw[e]
      exact cd
     ·rcases Zz8.mp ht with ht | ht
      ·exact(offs _ (a3 t ht)).2.symm
      ·exact cfr t ht
    have aD3:∀t∈fs3++fr,D≠t.1:=fun t ht=>by
     rcases Zz8.mp ht with ht | ht
     ·exact(offs _ (a3 t ht)).1.symm
     ·exact dfr t ht
    have r4:Rep Γ W2 ρ H2 ([(C,oC4)]++((D,lst ys)::(fs3++fr))) h4:=by
     refine r3'.swap (fun q hq t ht=>?_) (fun b o hb e=>sb4.extBut b o (fun z=>hb (by simp[z,compEnvC])) e) fun q hq=>?_
     ·rw[List.mem_singleton.mp hq]
      exact aC3 t ht
     ·rw[List.mem_singleton.mp hq]
      exact⟨gC4,by simp⟩
    refine ZvW (hel C ρ) (hif C ρ) ⟨h4,_,rfl⟩ aC3 aD3 l2 i3 nC4 hv2 hl2 r4 (fun p hp=>?_) (fun i hi=>?_) e
    ·rw[List.mem_singleton.mp hp]
     exact⟨v,y,by simp[upd],by simp,y3⟩
    ·have:i≠t:=fun e=>hi (x,t) Zz5 e.symm
     simp[upd,this]
 refine codeAny_compStart_list (loop _ rfl) ?_
 exact I1.self 0 W1 ρ H0 (([(C,oC)]++[(D,lst [])])++fr) fs _ _ _ (.refl _) (rC.less fun q hq=>by
  rcases Zz8.mp hq with hq | hq
  ·exact Zz3 _ (Zz3 _ (Zz4 _ hq))
  ·rcases Zz8.mp hq with hq | hq
   ·rcases Zz8.mp hq with hq | hq
    ·exact Zz4 _ hq
    ·exact Zz3 _ (Zz4 _ hq)
   ·exact Zz3 _ (Zz3 _ (Zz3 _ hq))) i1 (loop _ rfl)
theorem ZqJ{W:Wd}{ρ:Lc}{q:List V×Hp}{fr:List (Addr×Obj)}{C D:Addr}{oC:Obj}{ys:List Value}{h' h'':Heap}(hv:VRs W q.1 ys)(hl:q.1.length≤LEN)(aD:∀t∈fr,D≠t.1)(aC:∀t∈fr,C≠t.1)(cd:C≠D)(r:Rep Γ W ρ q.2 ((C,oC)::(D,lst ys)::fr) h')(sb:Heap.SameBut C h' h''):
  ∃W',W.Le W'∧Rep Γ W' ρ (q.2++[q.1]) fr h''∧VR W' (.ref q.2.length) (.ref D):=by
 have r4:Rep Γ W ρ q.2 ([]++((D,lst ys)::fr)) h'':=by
  refine Rep.swap (fs:=[(C,oC)]) (fs':=[]) r (fun q hq t ht=>?_) (fun b o hb e=>sb.extBut b o (fun z=>hb (by simp[z])) e) fun q hq=>nomatch hq
  rw[List.mem_singleton.mp hq]
  rcases Zz7.mp ht with e | ht
  ·rw[e]
   exact cd
  ·exact aC t ht
 exact ZgT r4 aD hv hl
theorem Zx6{elt iter:Expr}{x:Str}{px:Pos}{ifs:List Expr}{scope:Scope}{pos:Pos}{cl:List (Str×Addr)}{t:Nat}{g:Src}{c:Ts}{f:Ex}(hg:JI prog w Γ iter g)(hel:∀C ρ,J prog w (Zbe Γ scope cl C [(x,t)] ρ) elt f)(hif:∀C ρ,JF prog w (Zbe Γ scope cl C [(x,t)] ρ) ifs c)
  (hclos:closureFor scope Γ.env=pure cl) (hcell:∀y∈scope.names,y.2≠.cell) (hkind:scope.kind=.function) (hnames:∀y∈scope.names,y.2=.local→scope.names.lookup y.1=some .local) (hx:scope.names.lookup x=some .local) (hs:∀x,foldedSetIterable iter Γ.env x=pure x:=by intro _;rfl):
  J prog w Γ (.ListComp elt [⟨.Name x px,iter,ifs,0⟩] scope pos) (Zaz g (put1 t) c f):=by
 intro W ρ H fr s Q E v H' r hf post
 obtain⟨z,e1,hf⟩:=Zz0.mp hf
 obtain⟨q,e2,e3⟩:=Zz1.mp hf
 cases e3
 rw[eval_ListComp]
 refine wpAny_comprehension_free (use:=Option.none) rfl hs hclos hkind hnames ?_
 refine comp_core (RR:=fun acc C=>compPost (model prog w) Γ.A E Option.none Q acc C) hg hel hif hcell hkind hx r (q:=q) (by rw[e1];exact e2) fun W2 h' tk' C D oC m₂ ys l2 hC hv hl aD aC cd r3=>?_
 refine⟨m₂,hC.ns (r3.frAt (q:=(C,oC)) Zz5),fun h'' sb=>?_⟩
 obtain⟨W5,l5,r5,v5⟩:=ZqJ hv hl aD aC cd r3 sb
 exact post W5 h'' tk' _ (l2.trans l5) r5 v5
theorem Zuy{elt iter:Expr}{x y:Str}{px py pos spos:Pos}{ifs:List Expr}{scope:Scope}{cl:List (Str×Addr)}{t i:Nat}{g:Src}{c:Ts}{f:Ex}(hy:Sto prog w Γ y i)(hg:JI prog w Γ iter g)(hel:∀C ρ,J prog w (Zbe Γ scope cl C [(x,t)] ρ) elt f)(hif:∀C ρ,JF prog w (Zbe Γ scope cl C [(x,t)] ρ) ifs c)
  (hsw:swapsWith (.ListComp elt [⟨.Name x px,iter,ifs,0⟩] scope pos) (some (.Name y py)) spos.line Γ.env=pure true)
  (hclos:closureFor scope Γ.env=pure cl) (hcell:∀y∈scope.names,y.2≠.cell) (hkind:scope.kind=.function) (hnames:∀y∈scope.names,y.2=.local→scope.names.lookup y.1=some .local) (hx:scope.names.lookup x=some .local) (hs:∀x,foldedSetIterable iter Γ.env x=pure x:=by intro _;rfl):
  S1 prog w Γ (.Assign [.Name y py] (.ListComp elt [⟨.Name x px,iter,ifs,0⟩] scope pos) spos) (ZO i (Zaz g (put1 t) c f)):=by
 intro W ρ H fr s Q E r rp hf post
 obtain⟨p,e0,e9⟩:=Zz1.mp hf
 cases e9
 obtain⟨z,e1,hf⟩:=Zz0.mp e0
 obtain⟨q,e2,e3⟩:=Zz1.mp hf
 cases e3
 rw[exec_Assign_Name_used _ _ _ _ hsw]
 refine wpAny_bind (wpAny_standAt (wpAny_bind ?_))
 show wpAny _ Γ.A (do let _ ←comprehension (.ListComp elt [⟨.Name x px,iter,ifs,0⟩] scope pos) scope Γ.env _ (newList []) false (eval iter Γ.env) (some (assign (.Name y py) Γ.env))) _ _ s
 refine wpAny_bind (wpAny_mono (wpAny_comprehension_free (use:=some (assign (.Name y py) Γ.env)) (Q:=fun _ s'=>Q .next s') rfl hs hclos hkind hnames ?_) (fun _ s' h'=>wpAny_pure (wpAny_pure h')) fun _ _ e=>e)
 refine comp_core (RR:=fun acc C=>compPost (model prog w) Γ.A E (some (assign (.Name y py) Γ.env)) (fun _ s'=>Q .next s') acc C) hg hel hif hcell hkind hx rp (q:=q) (by rw[e1];exact e2) fun W2 h' tk' C D oC m₂ ys l2 hC hv hl aD aC cd r3=>?_
 have r4:Rep Γ W2 ρ q.2 ((D,lst ys)::(C,oC)::fr) h':=r3.less fun t ht=>by
  rcases Zz7.mp ht with e | ht
  ·exact e▸List.mem_cons_of_mem _ Zz5
  ·rcases Zz7.mp ht with e | ht
   ·exact e▸List.mem_cons_self
   ·exact Zz2 _ (Zz2 _ ht)
 obtain⟨W5,l5,r5,v5⟩:=ZgT r4 (fun t ht=>by
  rcases Zz7.mp ht with e | ht
  ·rw[e]
   exact cd.symm
  ·exact aD t ht) hv hl
 refine wpAny_assign_Name (hy W5 ρ _ _ _ _ _ _ _ r5 v5 fun h6 t6 r6=>?_)
 refine⟨m₂,hC.ns (r6.frAt (q:=(C,oC)) Zz5),fun h'' sb=>?_⟩
 have r7:Rep Γ W5 (upd ρ i (.ref q.2.length)) (q.2++[q.1]) ([]++fr) h'':=
  Rep.swap (fs:=[(C,oC)]) (fs':=[]) r6 (fun q hq t ht=>by rw[List.mem_singleton.mp hq];exact aC t ht) (fun b o hb e=>sb.extBut b o (fun z=>hb (by simp[z])) e) fun q hq=>nomatch hq
 exact post W5 h'' t6 (l2.trans l5) r7
end
end PM
end
section
namespace PM
open PySem PySem.W PySem.Calls PyProof.Rows PyProof PyProof.Rows.LCg PyProof.Rows.LCp
theorem Zpb(h:Heap): ∀as:List Addr,(∀a∈as,∃o,h.get? a=some o)→∃fs:List (Addr×Obj),fs.map (·.1)=as∧∀q∈fs,h.get? q.1=some q.2
 | [],_=>⟨[],rfl,fun q hq=>nomatch hq⟩
 | a::as,d=>by
  obtain⟨o,ho⟩:=d a Zz5
  obtain⟨fs,h1,h2⟩:=Zpb h as fun b hb=>d b (Zz2 _ hb)
  refine⟨(a,o)::fs,by rw[List.map_cons,h1],fun q hq=>?_⟩
  rcases Zz7.mp hq with e | hq
  ·rw[e]
   exact ho
  ·exact h2 q hq
structure Itr2(prog:Program)(w:World)(Γ:Cx)(W0:Wd)(it:Value)(as:List Addr)(It:Nat→List (Addr×Obj)→Prop)(nx:Nx): Prop where
 adr:∀i fs,It i fs→fs.map (·.1)=as
 pair:∀i H v,nx i H=some (some v)→∃a b,v=.tup [a,b]
 item:∀(i:Nat) (W:Wd) (ρ:Lc) (H:Hp) (fr fs:List (Addr×Obj)) (s:Shared) (Q:Option Value→Shared→Prop) (E:Value→Shared→Prop) (a b:V),W0.Le W→Rep Γ W ρ H (fs++fr) s.heap→(∀a∈as,∀t∈fr,a≠t.1)→It i fs→nx i H=some (some (.tup [a,b])) →
  (∀(T:Addr) (h1:Heap) (t1:Nat),(∀(elts:List Expr) (k:Nat) (pos:Pos) (s1:Shared) (Q1:Unit→Shared→Prop) (E1:Value→Shared→Prop),s1 = { s with heap:=h1,toks:=t1 } →
    (∀(fs':List (Addr×Obj)) (h':Heap) (x y:Value),It (i+1) fs'→Rep Γ W ρ H (fs'++fr) h'→IsTup h' T #[x,y]→VR W a x→VR W b y→Q1 () { s with heap:=h',toks:=t1 })→wpAny (model prog w) Γ.A (letOwnedTupleGo (.Tuple elts k pos) it (.ref T)) Q1 E1 s1)→Q (some (.ref T)) { s with heap:=h1,toks:=t1 })→wpAny (model prog w) Γ.A (pyNext it) Q E s
 done:∀(i:Nat) (W:Wd) (ρ:Lc) (H:Hp) (fr fs:List (Addr×Obj)) (s:Shared) (Q:Option Value→Shared→Prop) (E:Value→Shared→Prop),W0.Le W→Rep Γ W ρ H (fs++fr) s.heap→(∀a∈as,∀t∈fr,a≠t.1)→It i fs→nx i H=some none →
  (∀(h':Heap) (tk':Nat),Rep Γ W ρ H fr h'→Q none { s with heap:=h',toks:=tk' })→wpAny (model prog w) Γ.A (pyNext it) Q E s
 self:∀(i:Nat) (W:Wd) (ρ:Lc) (H:Hp) (fr fs:List (Addr×Obj)) (s:Shared) (Q E:Value→Shared→Prop) (o:Option V),W0.Le W→Rep Γ W ρ H (fs++fr) s.heap→It i fs→nx i H=some o→Q it s→wpAny (model prog w) Γ.A (pyIter it) Q E s
def JI2(prog:Program)(w:World)(Γ:Cx)(e:Expr)(g:Src): Prop:=∀(W:Wd) (ρ:Lc) (H:Hp) (fr:List (Addr×Obj)) (s:Shared) (Q E:Value→Shared→Prop) (nx:Nx) (n:Nat) (H':Hp),
 Rep Γ W ρ H fr s.heap→g ρ H=some (nx,n,H') →
 (∀(W':Wd) (h':Heap) (tk':Nat) (it:Value) (as:List Addr) (It:Nat→List (Addr×Obj)→Prop) (fs:List (Addr×Obj)),W.Le W'→It 0 fs→Rep Γ W' ρ H' (fs++fr) h'→(∀a∈as,∀t∈fr,a≠t.1)→Itr2 prog w Γ W' it as It nx→(∃o,nx 0 H'=some o)→Q it { s with heap:=h',toks:=tk' }) →
 wpAny (model prog w) Γ.A (eval e Γ.env) (fun xv s₁=>wpAny (model prog w) Γ.A (pyIter xv) Q E s₁) E s
noncomputable def ZhF(a b:Nat): Nx:=fun i H=>H[a]?.bind fun vs=>H[b]?.bind fun us=>match vs[i]?,us[i]? with
 | some x,some y=>some (some (.tup [x,y]))
 | _,_=>if i=min vs.length us.length then some none else none
noncomputable def Zc7(f g:Ex): Src:=fun ρ H=>(f ρ H).bind fun p=>(g ρ p.2).bind fun q=>match p.1,q.1 with
 | .ref a,.ref b=>q.2[a]?.bind fun vs=>q.2[b]?.map fun us=>(ZhF a b,min vs.length us.length+1,q.2)
 | _,_=>none
noncomputable def Zb2(i j:Nat): V→Lc→Option Lc
 | .tup [a,b],ρ=>some (upd (upd ρ i a) j b)
 | _,_=>none
def ZS(z TI TO i1 i2 l1 l2:Addr)(i:Nat)(h:Heap): Prop:=IsZip h z TI TO .none∧PySem.IsPair h TI (.ref i1) (.ref i2)∧(∃a b,PySem.IsPair h TO a b)∧h.IsListIter i1 l1 i∧h.IsListIter i2 l2 i
theorem ZS.at{z TI TO i1 i2 l1 l2:Addr}{i:Nat}{h h':Heap}(x:ZS z TI TO i1 i2 l1 l2 i h)(e:∀a∈[z,TI,TO,i1,i2],∀o,h.get? a=some o→h'.get? a=some o): ZS z TI TO i1 i2 l1 l2 i h':=by
 obtain⟨h1,h2,⟨a,b,h3⟩,h4,h5⟩:=x
 exact⟨e z (by simp) _ h1,e TI (by simp) _ h2,⟨a,b,e TO (by simp) _ h3⟩,h4.at fun o x=>e i1 (by simp) o x,h5.at fun o x=>e i2 (by simp) o x⟩
theorem ZS.have{z TI TO i1 i2 l1 l2:Addr}{i:Nat}{h:Heap}(x:ZS z TI TO i1 i2 l1 l2 i h): ∀a∈[z,TI,TO,i1,i2],∃o,h.get? a=some o:=by
 obtain⟨h1,h2,⟨a,b,h3⟩,⟨o4,h4,_⟩,⟨o5,h5,_⟩⟩:=x
 intro c hc
 simp only[List.mem_cons,List.not_mem_nil,or_false]at hc
 rcases hc with e | e | e | e | e <;> subst e
 ·exact⟨_,h1⟩
 ·exact⟨_,h2⟩
 ·exact⟨_,h3⟩
 ·exact⟨_,h4⟩
 ·exact⟨_,h5⟩
def ZIt(z TI TO i1 i2 l1 l2:Addr)(i:Nat)(fs:List (Addr×Obj)): Prop:=fs.map (·.1)=[z,TI,TO,i1,i2]∧∀h:Heap,(∀q∈fs,h.get? q.1=some q.2)→ZS z TI TO i1 i2 l1 l2 i h
theorem Zrj{z TI TO i1 i2 l1 l2:Addr}{i:Nat}{h:Heap}(x:ZS z TI TO i1 i2 l1 l2 i h): ∃fs,ZIt z TI TO i1 i2 l1 l2 i fs∧∀q∈fs,h.get? q.1=some q.2:=by
 obtain⟨fs,h1,h2⟩:=Zpb h [z,TI,TO,i1,i2] x.have
 refine⟨fs,⟨h1,fun h' e=>x.at fun a ha o ho=>?_⟩,h2⟩
 rw[←h1]at ha
 obtain⟨q,hq,eq⟩:=Zz11.mp ha
 have:=h2 q hq
 rw[eq,ho]at this
 cases this
 exact eq▸e q hq
section
variable {prog:Program} {w:World} {Γ:Cx}
theorem Zx7{W0:Wd}{z TI TO i1 i2 l1 l2:Addr}{a b:Nat}(ea:W0.pi[a]?=some l1)(eb:W0.pi[b]?=some l2)(D:ZipApart z TI TO i1 i2 l1 l2):
  Itr2 prog w Γ W0 (.ref z) [z,TI,TO,i1,i2] (ZIt z TI TO i1 i2 l1 l2) (ZhF a b):=by
 refine⟨fun i fs h=>h.1,?_,?_,?_,?_⟩
 ·intro i H v e
  obtain⟨vs,e1,e⟩:=Zz0.mp e
  obtain⟨us,e2,e⟩:=Zz0.mp e
  split at e
  ·cases e
   exact⟨_,_,rfl⟩
  ·split at e <;> cases e
 ·intro i W ρ H fr fs s Q E va vb le r ap hit hn post
  obtain⟨vs,e1,e⟩:=Zz0.mp hn
  obtain⟨us,e2,e⟩:=Zz0.mp e
  have hvu:vs[i]?=some va∧us[i]?=some vb:=by
   split at e
   ·rename_i x y h1 h2
    cases e
    exact⟨h1,h2⟩
   ·split at e <;> cases e
  obtain⟨_,xs,k1,g1,v1⟩:=r.at e1 (le.at ea)
  obtain⟨_,ys,k2,g2,v2⟩:=r.at e2 (le.at eb)
  obtain⟨x,hx,rx⟩:=v1.at hvu.1
  obtain⟨y,hy,ry⟩:=v2.at hvu.2
  have st:ZS z TI TO i1 i2 l1 l2 i s.heap:=hit.2 _ fun q hq=>r.frAt (Zz4 _ hq)
  have Wk:=WalksT.zip2 (prog:=prog) (w:=w) (A:=Γ.A) Γ.hh z TI TO i1 i2 l1 l2 D xs.toArray ys.toArray
  have isl1:s.heap.IsList l1 xs.toArray:=⟨_,g1,rfl,k1,rfl⟩
  have isl2:s.heap.IsList l2 ys.toArray:=⟨_,g2,rfl,k2,rfl⟩
  have hi:i<min xs.toArray.size ys.toArray.size:=by
   have h1:=(Zz6.mp hx).1
   have h2:=(Zz6.mp hy).1
   simp
   omega
  refine Wk.item i s Q E hi ⟨st.1,st.2.1,st.2.2.1,st.2.2.2.1,st.2.2.2.2,isl1,isl2⟩ fun T vals h1 t1 hp hT hTup hmid keep1=>post T h1 t1 ?_
  intro elts k pos s1 Q1 E1 es1 q1
  subst es1
  have hTw:=Wk.apart i T _ hmid
  refine Wk.go elts k pos i T _ Q1 E1 hmid fun h2 st2 keep2=>?_
  obtain⟨x',y',hx',hy',ev⟩:=hp
  have ex:x'=x:=by
   have:xs[i]?=some x':=by simpa using hx'
   rw[hx]at this
   exact(Option.some.inj this).symm
  have ey:y'=y:=by
   have:ys[i]?=some y':=by simpa using hy'
   rw[hy]at this
   exact(Option.some.inj this).symm
  subst ex ey ev
  obtain⟨fs',hit',at'⟩:=Zrj (h:=h2) (⟨st2.1,st2.2.1,st2.2.2.1,st2.2.2.2.1,st2.2.2.2.2.1⟩:ZS z TI TO i1 i2 l1 l2 (i+1) h2)
  obtain⟨oT,gT,cT,nT,dT⟩:=hTup
  refine q1 fs' h2 x' y' hit' ?_ ⟨oT,keep2 T oT hTw gT,cT,nT,dT⟩ rx ry
  refine r.swap (fs':=fs') (fun q hq t ht=>?_) (fun c o hc e=>?_) fun q hq=>⟨at' q hq,?_⟩
  ·exact ap _ (hit.1▸List.mem_map_of_mem hq) t ht
  ·rw[hit.1]at hc
   have hcw:c∉[z,TO,i1,i2]:=fun h=>hc (by simp at h ⊢;rcases h with h | h | h | h <;> simp[h])
   exact keep2 c o hcw (keep1 c o hcw e)
  ·rw[hit.1,←hit'.1]
   exact List.mem_map_of_mem hq
 ·intro i W ρ H fr fs s Q E le r ap hit hn post
  obtain⟨vs,e1,e⟩:=Zz0.mp hn
  obtain⟨us,e2,e⟩:=Zz0.mp e
  obtain⟨_,xs,k1,g1,v1⟩:=r.at e1 (le.at ea)
  obtain⟨_,ys,k2,g2,v2⟩:=r.at e2 (le.at eb)
  have hi:i=min vs.length us.length:=by
   split at e
   ·cases e
   ·split at e
    ·assumption
    ·cases e
  have st:ZS z TI TO i1 i2 l1 l2 i s.heap:=hit.2 _ fun q hq=>r.frAt (Zz4 _ hq)
  have Wk:=WalksT.zip2 (prog:=prog) (w:=w) (A:=Γ.A) Γ.hh z TI TO i1 i2 l1 l2 D xs.toArray ys.toArray
  have hm:min xs.toArray.size ys.toArray.size=i:=by simp[v1.length,v2.length,hi]
  refine Wk.done s Q E (by rw[hm];exact⟨st.1,st.2.1,st.2.2.1,st.2.2.2.1,st.2.2.2.2,⟨_,g1,rfl,k1,rfl⟩,⟨_,g2,rfl,k2,rfl⟩⟩) fun h' tk keep=>post h' tk ?_
  have:=r.swap (fs':=[]) (fun q hq t ht=>ap _ (hit.1▸List.mem_map_of_mem hq) t ht) (fun c o hc e=>keep c o (fun h=>hc (by rw[hit.1];simp at h ⊢;rcases h with h | h | h | h <;> simp[h])) e) (fun q hq=>nomatch hq)
  exact this
 ·intro i W ρ H fr fs s Q E o le r hit hn q
  obtain⟨vs,e1,e⟩:=Zz0.mp hn
  obtain⟨us,e2,e⟩:=Zz0.mp e
  obtain⟨_,xs,k1,g1,v1⟩:=r.at e1 (le.at ea)
  obtain⟨_,ys,k2,g2,v2⟩:=r.at e2 (le.at eb)
  have st:ZS z TI TO i1 i2 l1 l2 i s.heap:=hit.2 _ fun q hq=>r.frAt (Zz4 _ hq)
  have Wk:=WalksT.zip2 (prog:=prog) (w:=w) (A:=Γ.A) Γ.hh z TI TO i1 i2 l1 l2 D xs.toArray ys.toArray
  exact Wk.self i s Q E ⟨st.1,st.2.1,st.2.2.1,st.2.2.2.1,st.2.2.2.2,⟨_,g1,rfl,k1,rfl⟩,⟨_,g2,rfl,k2,rfl⟩⟩ q
theorem JI2.zip{x:Str}{np pos:Pos}{e1 e2:Expr}{f g:Ex}(hn:Nm prog w Γ x (.type "zip"))(h1:J prog w Γ e1 f)(h2:J prog w Γ e2 g)
  (he:starEach [e1,e2] Γ.env=(false,eval e1 Γ.env)::starEach [e2] Γ.env:=by rfl) (he2:starEach [e2] Γ.env=(false,eval e2 Γ.env)::starEach [] Γ.env:=by rfl) (hp:∀pos,(backTo pos (starEach [e2] Γ.env)).any (·.1)=false:=by intro _;rfl):JI2 prog w Γ (.Call (.Name x np) [e1,e2] [] pos) (Zc7 f g):=by
 intro W ρ H fr s Q E nx n H' r hf post
 obtain⟨p,a1,hf⟩:=Zz0.mp hf
 obtain⟨q,a2,hf⟩:=Zz0.mp hf
 refine wpAny_Call_ofName (hn.use r ?_)
 refine PySem.Pv.callWith_type1 (wpAny_items_cons (h1 W ρ H fr s _ E _ _ r a1 fun W1 k1 t1 y1 l1 r1 v1=>?_) he) he (hp pos)
 refine wpAny_items_cons (h2 W1 ρ _ fr _ _ E _ _ r1 a2 fun W2 k2 t2 y2 l2 r2 v2=>wpAny_items_nil ?_) he2
 have v1':=v1.mono l2
 obtain⟨u1,H1⟩:=p
 obtain⟨u2,H2⟩:=q
 simp only at hf v1' v2 r2
 cases u1 <;> first | (cases hf;done) | skip
 rename_i b1
 cases u2 <;> first | (cases hf;done) | skip
 rename_i b2
 obtain⟨vs,c1,hf⟩:=Zz0.mp hf
 obtain⟨us,c2,c3⟩:=Zz1.mp hf
 cases c3
 cases v1' with
 | @ref _ m1 ea=>
 cases v2 with
 | @ref _ m2 eb=>
 obtain⟨_,xs,n1,g1,w1⟩:=r2.at c1 ea
 obtain⟨_,ys,n2,g2,w2⟩:=r2.at c2 eb
 have isl1:k2.IsList m1 xs.toArray:=⟨_,g1,rfl,n1,rfl⟩
 have isl2:k2.IsList m2 ys.toArray:=⟨_,g2,rfl,n2,rfl⟩
 refine call_zip_2 (s:={ s with heap:=k2,toks:=t2 }) isl1 isl2 fun h₁ hz hTI hTO hi1 hi2 hsz up=>?_
 have ap:=zipApart_new (n:=k2.objs.size) (Heap.lt_size g1) (Heap.lt_size g2)
 have Wk:=WalksT.zip2 (prog:=prog) (w:=w) (A:=Γ.A) Γ.hh _ _ _ _ _ m1 m2 ap xs.toArray ys.toArray
 have zs:ZS (k2.objs.size+4) (k2.objs.size+2) (k2.objs.size+3) k2.objs.size (k2.objs.size+1) m1 m2 0 h₁:=⟨hz,hTI,⟨_,_,hTO⟩,hi1,hi2⟩
 refine Wk.self 0 _ _ _ ⟨hz,hTI,⟨_,_,hTO⟩,hi1,hi2,isl1.at fun o e=>up _ o e,isl2.at fun o e=>up _ o e⟩ ?_
 obtain⟨fs,hit,at'⟩:=Zrj zs
 obtain⟨r3,ap3⟩:=r2.more (fs:=fs) (h':=h₁) (fun b o e=>up b o e) (fun q hq=>⟨at' q hq,by
  have:q.1∈fs.map (·.1):=List.mem_map_of_mem hq
  rw[hit.1]at this
  simp at this
  rcases this with e | e | e | e | e <;> rw[e] <;> omega⟩)
 refine post W2 h₁ t2 _ _ _ fs (l1.trans l2) hit r3 (fun b hb t ht=>?_) (Zx7 ea eb ap) ?_
 ·rw[←hit.1]at hb
  obtain⟨q,hq,e⟩:=Zz11.mp hb
  exact e▸ap3 q hq t ht
 ·simp only[ZhF,c1,c2,Option.bind_some]
  split
  ·exact⟨_,rfl⟩
  ·rename_i hno
   have:0=min vs.length us.length:=by
    rcases Nat.eq_zero_or_pos vs.length with z | z
    ·rw[z];simp
    ·rcases Nat.eq_zero_or_pos us.length with z' | z'
     ·rw[z'];simp
     ·exact(hno vs[0] us[0] (by simp[z]) (by simp[z'])).elim
   rw[if_pos this]
   exact⟨_,rfl⟩
theorem ZwP{x1 x2:Str}{i1 i2 kt:Nat}{p1 p2 tp:Pos}(h1:Sto prog w Γ x1 i1)(h2:Sto prog w Γ x2 i2){W:Wd}{ρ:Lc}{H:Hp}{fr:List (Addr×Obj)}{s:Shared}{Q:Unit→Shared→Prop}{E:Value→Shared→Prop}{T:Addr}{y1 y2:Value}{a b:V}(r:Rep Γ W ρ H fr s.heap)(ht:IsTup s.heap T #[y1,y2])(v1:VR W a y1)(v2:VR W b y2)
  (post:∀(h':Heap) (tk':Nat),Rep Γ W (upd (upd ρ i1 a) i2 b) H fr h'→Q () { s with heap:=h',toks:=tk' }):wpAny (model prog w) Γ.A (assign (.Tuple [.Name x1 p1,.Name x2 p2] kt tp) Γ.env (.ref T)) Q E s:=by
 refine assign_Tuple_tuple Γ.hh ht rfl rfl fun g₄ he=>?_
 have r4:=r.grown (h':=g₄) fun b o e=>he b o (Nat.ne_of_lt (Heap.lt_size e)) e
 refine assignInOrder_cons (wpAny_assign_Name (h1 W ρ H fr _ _ _ a y1 r4 v1 fun k5 t5 r5=>?_))
 refine assignInOrder_cons (wpAny_assign_Name (h2 W _ H fr _ _ _ b y2 r5 v2 fun k6 t6 r6=>?_))
 exact assignInOrder_nil (post k6 t6 r6)
theorem Ze6{x1 x2:Str}{i1 i2 kt:Nat}{p1 p2 tp pos:Pos}{it:Expr}{body:List Stmt}{g:Src}{b:Sm}(h1:Sto prog w Γ x1 i1)(h2:Sto prog w Γ x2 i2)(hg:JI2 prog w Γ it g)(hb:Ss prog w Γ body b)(hs:∀x,foldedSetIterable it Γ.env x=pure x:=by intro _;rfl):
  S1 prog w Γ (.For (.Tuple [.Name x1 p1,.Name x2 p2] kt tp) it body [] pos) (Za1 g (Zb2 i1 i2) b):=by
 intro W ρ H fr s Q E r rp hf post
 obtain⟨z,e1,hf⟩:=Zz0.mp hf
 obtain⟨nx,n,H0⟩:=z
 refine wpAny_For (hg W ρ H fr s _ E nx n H0 rp e1 fun W1 k1 t1 itv as It fs l1 j1 r1 ap I1 _=>?_) hs
 refine codeAny_forLoop_any (fun k s'=>∃W' ρ' H' h' tk' j fs',s' = { s with heap:=h',toks:=tk' }∧W1.Le W'∧It j fs'∧Rep Γ W' ρ' H' (fs'++fr) h'∧Zdl nx (Zb2 i1 i2) b k j ρ' H'=some r) ?_ n ⟨W1,ρ,H0,k1,t1,0,fs,rfl,.refl _,j1,r1,hf⟩
 rintro k s' ⟨W2,ρ2,H2,k2,t2,j,fs2,rfl,l2,j2,r2,e⟩
 cases k with
 | zero=>cases e
 | succ k=>
  obtain⟨o,e2,e⟩:=Zz0.mp e
  cases o with
  | none=>
   cases e
   exact I1.done j W2 ρ2 H2 fr fs2 _ _ _ l2 r2 ap j2 e2 fun h' tk' r3=>wpAny_execs_nil (post W2 h' tk' (l1.trans l2) r3)
  | some v=>
   obtain⟨va,vb,ev⟩:=I1.pair j H2 v e2
   subst ev
   refine I1.item j W2 ρ2 H2 fr fs2 _ _ _ va vb l2 r2 ap j2 e2 fun T h3 t3 go=>?_
   obtain⟨ρ3,e3,e⟩:=Zz0.mp e
   cases e3
   obtain⟨q,e4,e⟩:=Zz0.mp e
   refine go _ _ _ _ _ _ rfl fun fs3 k3 y1 y2 j3 r3 ht w1 w2=>?_
   refine ZwP h1 h2 (s:={ s with heap:=k3,toks:=t3 }) r3 ht w1 w2 fun k4 t4 r4=>?_
   refine hb W2 _ H2 (fs3++fr) _ _ _ q r4 e4 ?_
   obtain⟨u,ρ5,H5⟩:=q
   cases u with
   | some u=>
    cases e
    exact fun W5 k5 t5 x5 l5 r5 v5=>post W5 k5 t5 x5 ((l1.trans l2).trans l5) (r5.less fun q hq=>List.mem_append_right _ hq) v5
   | none=>exact fun W5 k5 t5 l5 r5=>⟨k,Nat.lt_succ_self k,W5,ρ5,H5,k5,t5,j+1,fs3,rfl,l2.trans l5,j3,r5,e⟩
theorem Zp0{elt iter:Expr}{x x₂:Str}{px px₂ tp:Pos}{kt:Nat}{scope:Scope}{pos:Pos}{cl:List (Str×Addr)}{t t₂:Nat}{g:Src}{f:Ex}(hg:JI2 prog w Γ iter g)(hel:∀C ρ,J prog w (Zbe Γ scope cl C [(x,t),(x₂,t₂)] ρ) elt f)
  (hcell:∀y∈scope.names,y.2≠.cell) (hkind:scope.kind=.function) (hx:scope.names.lookup x=some .local) (hx₂:scope.names.lookup x₂=some .local) (hxx:x≠x₂) (htt:t≠t₂)
  {W:Wd} {ρ:Lc} {H:Hp} {fr:List (Addr×Obj)} {s:Shared} {E:Value→Shared→Prop} {q:List V×Hp} {RR:Value→Addr→Result→Shared→Prop} (r:Rep Γ W ρ H fr s.heap) (hf:((g ρ H).bind fun z=>ZcV z.1 (Zb2 t t₂) Zat f ρ z.2.1 0 [] z.2.2)=some q)
  (hR:∀(W':Wd) (h':Heap) (tk':Nat) (C D:Addr) (oC:Obj) (m₂:Str→Option Value) (ys:List Value),W.Le W'→NsObj oC m₂→VRs W' q.1 ys→q.1.length≤LEN→(∀t∈fr,D≠t.1)→(∀t∈fr,C≠t.1)→C≠D→Rep Γ W' ρ q.2 ((C,oC)::(D,lst ys)::fr) h'→RR (.ref D) C (.ok .next) { s with heap:=h',toks:=tk' }):
  wpAny (model prog w) Γ.A (eval iter Γ.env) (fun xv s₁=>wpAny (model prog w) Γ.A (pyIter xv) (fun it s₂=>wpAny (model prog w) Γ.A (newList []) (fun acc s₃=>wpAny (model prog w) Γ.A (newFunctionEnv scope Γ.env.globals cl [] Γ.env.qual none .none (some Γ.env)) (fun cenv s₄=>
   codeAny (model prog w) Γ.A (.compStart (.ListComp elt [⟨.Tuple [.Name x px,.Name x₂ px₂] kt tp,iter,[],0⟩] scope pos) 0 it acc { cenv with scope:=relabel scope Γ.env }) (RR acc cenv.locals) s₄) E s₃) E s₂) E s₁) E s:=by
 obtain⟨z,e1,e2⟩:=Zz0.mp hf
 obtain⟨nx,n,H0⟩:=z
 refine hg W ρ H fr s _ E nx n H0 r e1 fun W1 k1 t1 itv as It fs l1 i1 r1 ap I1 hstart=>?_
 refine wpAny_newObj_type (wpAny_newFunctionEnv hcell (fun y hy=>by simp at hy) (fun h₂ hns hsb=>?_) hkind)
 dsimp only at hns hsb ⊢
 obtain⟨rD,aD⟩:=r1.more (fs:=[(k1.objs.size,lst [])]) (fun b o e=>Heap.get?_push_of_some (lst []) e) (fun q hq=>by rw[List.mem_singleton.mp hq];exact⟨Heap.get?_push_size _ rfl,Nat.le_refl _⟩)
 generalize eH:k1.push { cls:=.type "list",dict:=none,data:=.seq ([]:List Value).toArray } = K at hns hsb ⊢
 have eK:k1.push (lst [])=K:=eH
 rw[eK]at rD
 obtain⟨oC,gC,nC⟩:=ns_obj hns
 have up:∀b o,K.get? b=some o→h₂.get? b=some o:=fun b o e=>hsb.extBut b o (Nat.ne_of_lt (Heap.lt_size e)) (Heap.get?_push_of_some _ e)
 obtain⟨rC,aC⟩:=rD.more (fs:=[(K.objs.size,oC)]) up (fun q hq=>by rw[List.mem_singleton.mp hq];exact⟨gC,Nat.le_refl _⟩)
 have adr0:=I1.adr 0 fs i1
 have offs:∀b∈as,b≠k1.objs.size∧b≠K.objs.size:=fun b hb=>by
  rw[←adr0]at hb
  obtain⟨q,hq,e⟩:=Zz11.mp hb
  exact⟨e▸(aD _ Zz5 q (Zz4 _ hq)).symm,e▸(aC _ Zz5 q (Zz3 _ (Zz4 _ hq))).symm⟩
 have cd:K.objs.size≠k1.objs.size:=aC _ Zz5 (k1.objs.size,lst []) (Zz4 _ Zz5)
 have cfr:∀t∈fr,K.objs.size≠t.1:=fun t ht=>aC _ Zz5 t (Zz3 _ (Zz3 _ ht))
 have dfr:∀t∈fr,k1.objs.size≠t.1:=fun t ht=>aD _ Zz5 t (Zz3 _ ht)
 generalize k1.objs.size=D at *
 generalize K.objs.size=C at *
 have loop:∀s₃:Shared,s₃ = { s with heap:=h₂,toks:=t1+([]:List (Str×Value)).length } →
   codeAny (model prog w) Γ.A (.compLoop (.ListComp elt [⟨.Tuple [.Name x px,.Name x₂ px₂] kt tp,iter,[],0⟩] scope pos) 0 itv (.ref D) (compEnvC scope cl C Γ.env)) (RR (.ref D) C) s₃:=by
  intro s₃ hs₃
  subst hs₃
  refine codeAny_compLoop_pair (ZhM Γ W1 ρ fr C D It nx (Zb2 t t₂) Zat f q s) ?_ n ⟨W1,H0,h₂,_,0,fs,[],[],oC,_,rfl,.refl _,i1,nC,.nil,Nat.zero_le _,rC,e2⟩
  rintro k s' ⟨W2,H2,k2,t2,j,fs2,acc,ys,oC2,m₂,rfl,l2,i2,hC2,hv2,hl2,r2,e⟩
  cases k with
  | zero=>cases e
  | succ k=>
   obtain⟨o,e4,e⟩:=Zz0.mp e
   have r2':Rep Γ W2 ρ H2 (fs2++((C,oC2)::(D,lst ys)::fr)) k2:=r2.less fun q hq=>by
    rcases Zz8.mp hq with hq | hq
    ·exact Zz2 _ (Zz2 _ (Zz4 _ hq))
    ·rcases Zz7.mp hq with e | hq
     ·exact e▸List.mem_cons_self
     ·rcases Zz7.mp hq with e | hq
      ·exact e▸List.mem_cons_of_mem _ Zz5
      ·exact Zz2 _ (Zz2 _ (Zz3 _ hq))
   have ap2:∀b∈as,∀t∈(C,oC2)::(D,lst ys)::fr,b≠t.1:=fun b hb t ht=>by
    rcases Zz7.mp ht with e | ht
    ·rw[e]
     exact(offs b hb).2
    ·rcases Zz7.mp ht with e | ht
     ·rw[e]
      exact(offs b hb).1
     ·exact ap b hb t ht
   cases o with
   | none=>
    cases e
    exact I1.done j W2 ρ H2 _ fs2 _ _ _ l2 r2' ap2 i2 e4 fun h' tk' r3=>hR W2 h' tk' C D oC2 m₂ ys (l1.trans l2) hC2 hv2 hl2 dfr cfr cd r3
   | some v=>
    obtain⟨va,vb,ev⟩:=I1.pair j H2 v e4
    subst ev
    refine I1.item j W2 ρ H2 _ fs2 _ _ _ va vb l2 r2' ap2 i2 e4 fun T h3 t3 go=>?_
    obtain⟨ρ3,e5,e⟩:=Zz0.mp e
    cases e5
    refine go _ _ _ _ _ _ rfl fun fs3 k3 y1 y2 i3 r3 htup w1 w2=>?_
    have a3:∀t∈fs3,t.1∈as:=fun t ht=>by
     rw[←I1.adr _ _ i3]
     exact List.mem_map_of_mem ht
    refine assign_Tuple_tuple (s:={ s with heap:=k3,toks:=t3 }) Γ.hh htup rfl rfl fun g₄ he=>?_
    have r3g:=r3.grown (h':=g₄) fun b o e=>he b o (Nat.ne_of_lt (Heap.lt_size e)) e
    have gC3:g₄.get? C=some oC2:=r3g.frAt (q:=(C,oC2)) (Zz3 _ Zz5)
    have nC3:g₄.Ns C m₂:=hC2.ns gC3
    refine assignInOrder_cons (wpAny_assign_Name (wpAny_storeName_local (lookup_relabel_local hx) nC3 (fun h5 hn5 sb5=>?_) (by simp[compEnvC,relabel,hkind])))
    refine assignInOrder_cons (wpAny_assign_Name (wpAny_storeName_local (lookup_relabel_local hx₂) hn5 (fun h4 hn4 sb4=>?_) (by simp[compEnvC,relabel,hkind])))
    refine assignInOrder_nil ?_
    obtain⟨oC4,gC4,nC4⟩:=ns_obj hn4
    have r3':Rep Γ W2 ρ H2 ([(C,oC2)]++((D,lst ys)::(fs3++fr))) g₄:=r3g.less fun q hq=>by
     rcases Zz8.mp hq with hq | hq
     ·rw[List.mem_singleton.mp hq]
      exact Zz3 _ Zz5
     ·rcases Zz7.mp hq with e | hq
      ·exact e▸List.mem_append_right _ (Zz2 _ Zz5)
      ·rcases Zz8.mp hq with hq | hq
       ·exact Zz4 _ hq
       ·exact Zz3 _ (Zz2 _ (Zz2 _ hq))
    have aC3:∀t∈(D,lst ys)::(fs3++fr),C≠t.1:=fun t ht=>by
     rcases Zz7.mp ht with e | ht
     ·rw[e]
      exact cd
     ·rcases Zz8.mp ht with ht | ht
      ·exact(offs _ (a3 t ht)).2.symm
      ·exact cfr t ht
    have aD3:∀t∈fs3++fr,D≠t.1:=fun t ht=>by
     rcases Zz8.mp ht with ht | ht
     ·exact(offs _ (a3 t ht)).1.symm
     ·exact dfr t ht
    have r4:Rep Γ W2 ρ H2 ([(C,oC4)]++((D,lst ys)::(fs3++fr))) h4:=by
     refine r3'.swap (fun q hq t ht=>?_) (fun b o hb e=>sb4.extBut b o (fun z=>hb (by simp[z,compEnvC])) (sb5.extBut b o (fun z=>hb (by simp[z,compEnvC])) e)) fun q hq=>?_
     ·rw[List.mem_singleton.mp hq]
      exact aC3 t ht
     ·rw[List.mem_singleton.mp hq]
      exact⟨gC4,by simp⟩
    have rc:=Zri (scope:=scope) (cl:=cl) (ts:=[(x,t),(x₂,t₂)]) (ρ:=upd (upd ρ t va) t₂ vb) r4 aC3 nC4 (fun p hp=>by
     rcases Zz7.mp hp with e | hp
     ·rw[e]
      exact⟨va,y1,by simp[upd,htt],by simp[hxx],w1⟩
     ·rw[List.mem_singleton.mp hp]
      exact⟨vb,y2,by simp[upd],by simp,w2⟩) (fun i hi=>by
     have h1:i≠t:=fun e=>hi (x,t) Zz5 e.symm
     have h2:i≠t₂:=fun e=>hi (x₂,t₂) (Zz2 _ Zz5) e.symm
     simp[upd,h1,h2])
    exact Zqo (hel C ρ) aD3 cd l2 i3 hv2 rc e
 refine codeAny_compStart_list (loop _ rfl) ?_
 obtain⟨o0,ho0⟩:=hstart
 exact I1.self 0 W1 ρ H0 (([(C,oC)]++[(D,lst [])])++fr) fs _ _ _ o0 (.refl _) (rC.less fun q hq=>by
  rcases Zz8.mp hq with hq | hq
  ·exact Zz3 _ (Zz3 _ (Zz4 _ hq))
  ·rcases Zz8.mp hq with hq | hq
   ·rcases Zz8.mp hq with hq | hq
    ·exact Zz4 _ hq
    ·exact Zz3 _ (Zz4 _ hq)
   ·exact Zz3 _ (Zz3 _ (Zz3 _ hq))) i1 ho0 (loop _ rfl)
theorem ZwQ{elt iter:Expr}{x x₂:Str}{px px₂ tp:Pos}{kt:Nat}{scope:Scope}{pos:Pos}{cl:List (Str×Addr)}{t t₂:Nat}{g:Src}{f:Ex}(hg:JI2 prog w Γ iter g)(hel:∀C ρ,J prog w (Zbe Γ scope cl C [(x,t),(x₂,t₂)] ρ) elt f)
  (hclos:closureFor scope Γ.env=pure cl) (hcell:∀y∈scope.names,y.2≠.cell) (hkind:scope.kind=.function) (hnames:∀y∈scope.names,y.2=.local→scope.names.lookup y.1=some .local) (hx:scope.names.lookup x=some .local) (hx₂:scope.names.lookup x₂=some .local) (hxx:x≠x₂) (htt:t≠t₂) (hs:∀x,foldedSetIterable iter Γ.env x=pure x:=by intro _;rfl):
  J prog w Γ (.ListComp elt [⟨.Tuple [.Name x px,.Name x₂ px₂] kt tp,iter,[],0⟩] scope pos) (Zaz g (Zb2 t t₂) Zat f):=by
 intro W ρ H fr s Q E v H' r hf post
 obtain⟨z,e1,hf⟩:=Zz0.mp hf
 obtain⟨q,e2,e3⟩:=Zz1.mp hf
 cases e3
 rw[eval_ListComp]
 refine wpAny_comprehension_free (use:=Option.none) rfl hs hclos hkind hnames ?_
 refine Zp0 (RR:=fun acc C=>compPost (model prog w) Γ.A E Option.none Q acc C) hg hel hcell hkind hx hx₂ hxx htt r (q:=q) (by rw[e1];exact e2) fun W2 h' tk' C D oC m₂ ys l2 hC hv hl aD aC cd r3=>?_
 refine⟨m₂,hC.ns (r3.frAt (q:=(C,oC)) Zz5),fun h'' sb=>?_⟩
 obtain⟨W5,l5,r5,v5⟩:=ZqJ hv hl aD aC cd r3 sb
 exact post W5 h'' tk' _ (l2.trans l5) r5 v5
end
end PM
end
section
namespace PM
open PySem PySem.W PySem.Calls PyProof.Rows PyProof PySem.Spec
theorem Zx8{prog:Program}{w:World}{A A₀:Around}{s:Shared}{base h₀:Heap}{L:Addr}{m:Str→Option Value}{lent:List (Addr×Obj)}{K:Frag}{p:Program}{loose:List Str}{mean:ExcName→Option Value}{mg mb:Str→Option Value}
  {env:Env} {outer:List Env} {R:Result→Shared→Prop} {name qual:Str} {params:Arguments} {body:List Stmt} {scope:Scope} {dV kV doc pm cdv ct oc:Value} {an od:Option Addr} {osl:Array (Option Value)} {f:Addr} {args:Args} {binds:List (Str×Value)}
  (B:Below A₀ base outer h₀) (F:Fr h₀ L s.heap m) (X₀:K.In h₀) (N:News h₀ L s.heap lent) (T:Top p loose mean mg mb h₀) (hA:A.frames=some (env::outer)) (hf:env.frame=some L) (hke:env.scope.kind=.function)
  (ho:K.lookup f=some ⟨oc,od,.func (fnOf name qual params body scope dV kV doc pm an cdv ct),osl⟩) (hcd:codeIn K cdv qual=true) (hroom:A.depth<recursionLimit)
  (hbind:BindsTo s (fnOf name qual params body scope dV kV doc pm an cdv ct) args binds) (hall:(binds.all fun y=>scope.names.lookup y.1 == some .local || scope.names.lookup y.1 == some .cell)=true) (hone:((cellsFrom 0 scope.names []).map (·.1)).Nodup)
  (h:∀g L' h₁ tk cells,(∀b o,s.heap.get? b=some o→b∉lent.map (·.1)→g.get? b=some o)→Fr g L' h₁ (bindL (envOfC qual scope L' f cdv).kindOf binds fun _=>none)→News g L' h₁ (cells++lent)→CellsAre (bindC (envOfC qual scope L' f cdv).kindOf binds fun _=>none) (cellsFrom (L'+1) scope.names []) cells →
   (cellsFrom (L'+1) scope.names []).Pairwise (fun x y=>x.2≠y.2)→(∀n c,(n,c)∈cellsFrom (L'+1) scope.names []→L'<c)→Below A base (env::outer) g→K.In g→Top p loose mean mg mb g→(∀q∈lent,q.1<L')→s.heap.objs.size≤L' →
   wpAny (model prog w) (A.deeper (envOfC qual scope L' f cdv)) (execs body (envOfC qual scope L' f cdv)) (fun fl s'=>LeaveK h₀ L m g R (match fl with | .ret v=>v | _=>.none) s')
    (fun e s'=>wpAny (model prog w) (A.deeper (envOfC qual scope L' f cdv)) (leaving (envOfC qual scope L' f cdv) e) (fun _ s''=>R (.error e) s'') (fun e' s''=>R (.error e') s'') s') { s with heap:=h₁,toks:=tk })
  (hco:scope.isCoroutine=false) (hgen:scope.isGenerator=false) (hk:scope.kind=.function):codeAny (model prog w) A (.call (.ref f) args) R s:=by
 obtain⟨FG,BG,st,lv⟩:=groundX (R:=R) B F N hA hf hke
 have X:=X₀.keeps F.keep
 refine codeAny_call_function (fd:=fnOf name qual params body scope dV kV doc pm an cdv ct) hroom (X _ _ ho) rfl hco hgen rfl (codeRec_of X hcd) (hbind _ _ _ _ ?_)
 refine wpAny_newFunctionEnv_cells hk (kindsX hall _) fun fresh hfr s' inC=>?_
 subst hfr
 have up:=inC.toInCall.keep
 refine⟨(T.nolimit.keeps F.keep).keeps up,codeAny_func ?_⟩
 obtain⟨h₁,tk,hs',_⟩:=inC.done
 subst hs'
 have nod:=cellsFrom_names scope.names 0 (s.heap.objs.size+1) [] [] rfl▸hone
 obtain⟨cells,NC,Y⟩:=Cl.news (h₀:=s.heap) (L:=s.heap.objs.size) (Zz10 _) fun n c hm=>⟨inC.cell n c (lookup_of_mem_nodup nod hm),inC.above n c hm⟩
 have old:∀q∈lent,q.1<s.heap.objs.size:=fun q hq=>Heap.lt_size (N q hq).1
 refine wpAny_mono (h _ s.heap.objs.size h₁ tk cells (fun b o e nb=>hideAll_get _ e nb) ⟨inC.toInCall.ns,fun b o e=>up b o (of_hideAll _ e),Nat.le_of_eq (hideAll_size _ _)⟩ (fun q hq=>?_) Y inC.apart inC.above BG (X₀.keeps st) (T.keeps st) old (Zz10 _)) (fun fl s' hl=>lv _ _ hl) fun _ _ y=>y
 rcases Zz8.mp hq with hq | hq
 ·obtain⟨c1,c2,c3⟩:=NC q hq
  refine⟨c1,c2,?_⟩
  cases e:(hideAll s.heap (lent.map (·.1))).get? q.1 with
  | none=>rfl
  | some o=>
   have z:=of_hideAll _ e
   rw[c3]at z
   cases z
 ·exact⟨up _ _ (N q hq).1,Nat.ne_of_lt (old q hq),hideAll_none _ (List.mem_map_of_mem hq)⟩
section
variable (prog:Program) (w:World) (K:Frag) (p:Program) (loose:List Str) (mean:ExcName→Option Value) (mg mb:Str→Option Value)
def Clr(Γ:Cx)(dp un:Nat): Prop:=∃(gd:Option (List Code)) (cn:Str) (cs:Scope) (a:Addr) (ccd:Value) (cl:List (Str×Addr)) (outer:List Env) (A₀:Around) (base:Heap),
 Γ.A=ktrTop dp un gd cn cs Γ.L a ccd cl outer∧Below A₀ base outer Γ.h₀∧K.In Γ.h₀∧Top p loose mean mg mb Γ.h₀∧cs.kind=.function
def Def(f:Addr)(room:Nat)(F:List V→Hp→Option (V×Hp)): Prop:=∀(Γ:Cx) (dp un:Nat),Clr K p loose mean mg mb Γ dp un→dp+room<recursionLimit→un+10*room+300<cLine →
 ∀(W:Wd) (ρ:Lc) (H:Hp) (fr:List (Addr×Obj)) (s:Shared) (Q E:Value→Shared→Prop) (as:List V) (xs:List Value) (v:V) (H':Hp),
  Rep Γ W ρ H fr s.heap→VRs W as xs→F as H=some (v,H')→ZhK Γ W ρ H' fr s Q v→wpAny (model prog w) Γ.A (call (.ref f) xs) Q E s
end
noncomputable def ZU(n:Nat)(g:Sm): List V→Hp→Option (V×Hp):=fun as H=>if as.length=n then(g (fun i=>as[i]?) H).map fun r=>((r.1.getD .none),r.2.2)else none
theorem Zvc{kindOf:Str→Option NameKind}: ∀{ps:List Str} {xs:List Value} {m:Str→Option Value} {x:Str} {i:Nat} {y:Value},ps.Nodup→ps[i]?=some x→xs[i]?=some y→kindOf x=some .local→bindL kindOf (ps.zip xs) m x=some y:=by
 have skip:∀{ps:List Str} {xs:List Value} {m:Str→Option Value} {x:Str},x∉ps→bindL kindOf (ps.zip xs) m x=m x:=by
  intro ps
  induction ps with
  | nil=>intro xs m x _;rfl
  | cons p ps ih=>
   intro xs m x hx
   cases xs with
   | nil=>rfl
   | cons z xs=>
    simp only[List.zip_cons_cons,bindL]
    rw[ih (fun h=>hx (Zz2 _ h))]
    have:x≠p:=fun e=>hx (e▸List.mem_cons_self)
    split <;> simp[this]
 intro ps
 induction ps with
 | nil=>intro xs m x i y _ h;simp at h
 | cons p ps ih=>
  intro xs m x i y nd hp hx hk
  cases xs with
  | nil=>simp at hx
  | cons z xs=>
   obtain⟨n1,n2⟩:=List.nodup_cons.mp nd
   cases i with
   | zero=>
    simp at hp hx
    subst hp hx
    simp only[List.zip_cons_cons,bindL]
    rw[skip n1,if_pos hk]
    simp
   | succ i=>
    simp at hp hx
    simp only[List.zip_cons_cons,bindL]
    exact ih n2 hp hx hk
theorem Zvd{kindOf:Str→Option NameKind}: ∀{ps:List Str} {xs:List Value} {m:Str→Option Value} {x:Str} {i:Nat} {y:Value},ps.Nodup→ps[i]?=some x→xs[i]?=some y→kindOf x=some .cell→bindC kindOf (ps.zip xs) m x=some y:=by
 have skip:∀{ps:List Str} {xs:List Value} {m:Str→Option Value} {x:Str},x∉ps→bindC kindOf (ps.zip xs) m x=m x:=by
  intro ps
  induction ps with
  | nil=>intro xs m x _;rfl
  | cons p ps ih=>
   intro xs m x hx
   cases xs with
   | nil=>rfl
   | cons z xs=>
    simp only[List.zip_cons_cons,bindC]
    rw[ih (fun h=>hx (Zz2 _ h))]
    have:x≠p:=fun e=>hx (e▸List.mem_cons_self)
    split <;> simp[this]
 intro ps
 induction ps with
 | nil=>intro xs m x i y _ h;simp at h
 | cons p ps ih=>
  intro xs m x i y nd hp hx hk
  cases xs with
  | nil=>simp at hx
  | cons z xs=>
   obtain⟨n1,n2⟩:=List.nodup_cons.mp nd
   cases i with
   | zero=>
    simp at hp hx
    subst hp hx
    simp only[List.zip_cons_cons,bindC]
    rw[skip n1,if_neg (by rw[hk];simp)]
    simp
   | succ i=>
    simp at hp hx
    simp only[List.zip_cons_cons,bindC]
    exact ih n2 hp hx hk
theorem Zhg{cm:Str→Option Value}: ∀{cs:List (Str×Addr)} {cells:List (Addr×Obj)} {x:Str} {c:Addr},CellsAre cm cs cells→(x,c)∈cs→∃o,(c,o)∈cells∧o.data=.cell (cm x)
 | _,_,_,_,.nil,h=>nomatch h
 | _,_,_,_,.cons hd r,h=>by
  rcases Zz7.mp h with e | h
  ·cases e
   exact⟨_,List.mem_cons_self,hd⟩
  ·obtain⟨o,h1,h2⟩:=Zhg r h
   exact⟨o,List.mem_cons_of_mem _ h1,h2⟩
theorem Zrk{cm:Str→Option Value}: ∀{cs:List (Str×Addr)} {cells:List (Addr×Obj)} {q:Addr×Obj},CellsAre cm cs cells→q∈cells→∃x,(x,q.1)∈cs
 | _,_,_,.nil,h=>nomatch h
 | _,_,_,.cons hd r,h=>by
  rcases Zz7.mp h with e | h
  ·cases e
   exact⟨_,List.mem_cons_self⟩
  ·obtain⟨x,h1⟩:=Zrk r h
   exact⟨x,List.mem_cons_of_mem _ h1⟩
theorem ZdL{α β:Type}[BEq α][LawfulBEq α]: ∀{l:List (α×β)} {x:α} {y:β},l.lookup x=some y→(x,y)∈l
 | [],_,_,h=>by simp at h
 | (a,b)::r,x,y,h=>by
  rw[List.lookup_cons]at h
  split at h
  ·rename_i e
   cases h
   have:=eq_of_beq e
   subst this
   exact Zz5
  ·exact Zz2 _ (ZdL h)
end PM
end
section
namespace PM
open PySem PySem.W PySem.Calls PyProof.Rows PyProof PySem.Spec
section
variable {prog:Program} {w:World} {K:Frag} {p:Program} {loose:List Str} {mean:ExcName→Option Value} {mg mb:Str→Option Value}
theorem ZrY{name qual:Str}{params:Arguments}{body:List Stmt}{scope:Scope}{dV kV doc pm cdv ct oc:Value}{an od:Option Addr}{osl:Array (Option Value)}{f:Addr}{names:List Str}{n room:Nat}{g:Sm}
  (ho:K.lookup f=some ⟨oc,od,.func (fnOf name qual params body scope dV kV doc pm an cdv ct),osl⟩) (hcd:codeIn K cdv qual=true) (nd:names.Nodup) (hn:n≤names.length)
  (hbind:∀s xs,xs.length=n→BindsTo s (fnOf name qual params body scope dV kV doc pm an cdv ct) ⟨xs,[]⟩ ((names.take n).zip xs)) (hkinds:∀x∈names.take n,scope.names.lookup x=some .local∨scope.names.lookup x=some .cell) (hone:((cellsFrom 0 scope.names []).map (·.1)).Nodup)
  (hco:scope.isCoroutine=false) (hgen:scope.isGenerator=false) (hk:scope.kind=.function)
  (hbody:∀(dp un:Nat) (gd:Option (List Code)) (L:Addr) (outer:List Env) (h₀:Heap) (hu:un+200<cLine),Clr K p loose mean mg mb (ZbL dp un gd qual scope L f cdv (cellsFrom (L+1) scope.names []) outer h₀ hu names) dp un→dp+room<recursionLimit→un+10*room+300<cLine →
   Ss prog w (ZbL dp un gd qual scope L f cdv (cellsFrom (L+1) scope.names []) outer h₀ hu names) body g):
  Def prog w K p loose mean mg mb f (room+1) (ZU n g):=by
 intro Γ dp un clr hd hu W ρ H fr s Q E as xs v H' r hx hF post
 obtain⟨gd,cn,cs,a,ccd,cl,outer,A₀,base,eA,B,X,T,hke⟩:=clr
 unfold ZU at hF
 split at hF
 ·rename_i hlen
  obtain⟨res,e1,e2⟩:=Zz1.mp hF
  obtain⟨o,ρ',K'⟩:=res
  cases e2
  obtain⟨m,c,led,r⟩:=r
  have hxl:xs.length=n:=by rw[hx.length,hlen]
  have inn:∀q∈led,(q.1∈W.pi∨q.1∈W.tups.map (·.1))↔q∈led.filter (fun q=>decide (q.1∈W.pi∨q.1∈W.tups.map (·.1))):=fun q hq=>⟨fun h=>List.mem_filter.mpr ⟨hq,by simpa using h⟩,fun h=>by simpa using (List.mem_filter.mp h).2⟩
  have isub:∀q∈led.filter (fun q=>decide (q.1∈W.pi∨q.1∈W.tups.map (·.1))),q∈led:=fun q hq=>(List.mem_filter.mp hq).1
  generalize hlent:led.filter (fun q=>decide (q.1∈W.pi∨q.1∈W.tups.map (·.1)))=lent at inn isub
  have notin:∀q∈led,q.1∉W.pi→(∀t∈W.tups,q.1≠t.1)→q.1∉lent.map (·.1):=fun q hq h1 h2 h3=>by
   obtain⟨t,ht,e⟩:=Zz11.mp h3
   rcases(inn t (isub t ht)).mpr ht with z | z
   ·exact h1 (e▸z)
   ·obtain⟨u,hu,e'⟩:=Zz11.mp z
    exact h2 u hu (e▸e'.symm)
  rw[eA]
  refine wpAny_call ?_
  refine Zx8 (env:=envX cn cs Γ.L a ccd cl) (lent:=lent) B r.F X (fun q hq=>r.N q (isub q hq)) T rfl rfl hke ho hcd (by show dp<recursionLimit;omega) (hbind s xs hxl) ?_ hone ?_ hco hgen hk
  ·refine List.all_eq_true.mpr fun y hy=>?_
   rcases hkinds y.1 (List.of_mem_zip hy).1 with h | h <;> simp[h]
  intro g0 L' h₁ tk cells stay F' N' Y ap ab B' X' T' old szL
  have hu':(un+3)+200<cLine:=by omega
  have clr':Clr K p loose mean mg mb (ZbL (dp+1) (un+3) gd qual scope L' f cdv (cellsFrom (L'+1) scope.names []) (envX cn cs Γ.L a ccd cl::outer) g0 hu' names) (dp+1) (un+3):=
   ⟨gd,qual,scope,f,cdv,cellsFrom (L'+1) scope.names [],envX cn cs Γ.L a ccd cl::outer,_,base,rfl,B',X',T',hk⟩
  have below:∀q∈cells,L'<q.1:=fun q hq=>by
   obtain⟨x,hx⟩:=Zrk Y hq
   exact ab x _ hx
  have piLt:∀b∈W.pi,b<L':=fun b hb=>by
   obtain⟨o,ho⟩:=r.piIn b hb
   exact Nat.lt_of_lt_of_le (Heap.lt_size (r.get ho)) szL
  have tuLt:∀t∈W.tups,t.1<L':=fun t ht=>Nat.lt_of_lt_of_le (Heap.lt_size (r.get (r.R.tups t ht))) szL
  have scN:W.sc.1∉lent.map (·.1):=fun z=>by
   obtain⟨t,ht,e⟩:=Zz11.mp z
   exact r.notSc t (isub t ht) e
  have tkn:∀{i:Nat} {x:Str} {u:V},names[i]?=some x→as[i]?=some u→(names.take n)[i]?=some x∧∃y,xs[i]?=some y∧VR W u y:=fun {i x u} h1 h2=>by
   have hi:i<n:=by rw[←hlen];exact(Zz6.mp h2).1
   exact⟨by rw[List.getElem?_take_of_lt hi];exact h1,hx.at h2⟩
  have ndt:(names.take n).Nodup:=nd.sublist (List.take_sublist _ _)
  have rep:Rep (ZbL (dp+1) (un+3) gd qual scope L' f cdv (cellsFrom (L'+1) scope.names []) (envX cn cs Γ.L a ccd cl::outer) g0 hu' names) W (fun i=>as[i]?) H [] h₁:=by
   refine⟨_,cells,cells++lent,⟨F',N',⟨r.R.len,r.R.nd,fun i vs e=>?_,fun q hq=>?_,r.R.kind⟩,stay _ _ (r.F.keep _ _ r.sc) scN,r.sc0,fun q hq=>(nomatch hq),fun q hq=>(nomatch hq),fun q hq=>List.mem_append_left _ hq,fun q hq z=>?_,fun q _ t ht=>(nomatch ht),fun q hq=>(nomatch hq),fun q hq t ht=>?_,⟨fun i x u hi hk1 hu1=>?_,fun i x u hi hk1 hu1=>?_,fun x c1 hc=>?_,fun x y c1 h1 h2=>?_⟩⟩⟩
   ·obtain⟨l,b,ys,k,h1,h2,h3⟩:=r.R.lists i vs e
    exact⟨l,b,ys,k,h1,ZeD h2 fun z=>List.mem_append_right _ ((inn _ z).mp (.inl (List.mem_of_getElem? h1))),h3⟩
   ·exact ZeD (r.R.tups q hq) fun z=>List.mem_append_right _ ((inn _ z).mp (.inr (List.mem_map_of_mem hq)))
   ·exact absurd (Nat.lt_trans (piLt _ z) (below q hq)) (Nat.lt_irrefl _)
   ·exact Nat.ne_of_gt (Nat.lt_trans (tuLt t ht) (below q hq))
   ·obtain⟨h1,y,h2,h3⟩:=tkn hi hu1
    exact⟨y,Zvc ndt h1 h2 hk1,h3⟩
   ·obtain⟨h1,y,h2,h3⟩:=tkn hi hu1
    have hs:=cellsFrom_some scope.names (L'+1) [] (.inl hk1)
    obtain⟨c1,hc1⟩:=Option.isSome_iff_exists.mp hs
    obtain⟨o1,ho1,hd1⟩:=Zhg Y (ZdL hc1)
    refine⟨c1,o1,y,hc1,ho1,?_,h3⟩
    rw[hd1,Zvd ndt h1 h2 hk1]
   ·obtain⟨o1,ho1,hd1⟩:=Zhg Y (ZdL hc)
    exact⟨o1,_,ho1,hd1⟩
   ·exact name_of_addr ap (ZdL h1) (ZdL h2)
  have hb:=hbody (dp+1) (un+3) gd L' (envX cn cs Γ.L a ccd cl::outer) g0 hu' clr' (by omega) (by omega)
  have back:∀(W':Wd) (h':Heap) (tk':Nat) (x:Value),W.Le W'→Rep (ZbL (dp+1) (un+3) gd qual scope L' f cdv (cellsFrom (L'+1) scope.names []) (envX cn cs Γ.L a ccd cl::outer) g0 hu' names) W' ρ' K' [] h'→VR W' (o.getD .none) x →
    LeaveK Γ.h₀ Γ.L m g0 (fun r s'=>match r with | .ok (.ret v)=>Q v s' | .ok _=>False | .error e=>E e s') x { s with heap:=h',toks:=tk' }:=by
   intro W' h' tk' x l' r' x'
   obtain⟨m',c',led',r'⟩:=r'
   refine⟨L',m',led',r'.F,r'.N,fun FG NG=>post W' h' tk' x l' ?_ x'⟩
   have g0at:∀q∈led,q.1∉lent.map (·.1)→g0.get? q.1=some q.2:=fun q hq hn=>stay _ _ (r.N q hq).1 hn
   have frN:∀q∈fr,q.1∉lent.map (·.1):=fun q hq=>notin q (r.frIn q hq) (r.frOff q hq) (r.frTup q hq)
   have clN:∀q∈c,q.1∉lent.map (·.1):=fun q hq=>notin q (r.clIn q hq) (r.clOff q hq) (r.clTup q hq)
   have newN:∀t∈led',g0.get? t.1=none:=fun t ht=>(r'.N t ht).2.2
   have far:∀q∈led,q.1∉lent.map (·.1)→∀t∈W'.sc::led',q.1≠t.1:=fun q hq hn t ht e=>by
    rcases Zz7.mp ht with e2 | ht
    ·rw[e2,l'.sc]at e
     exact r.notSc q hq e
    ·have:=g0at q hq hn
     rw[e,newN t ht]at this
     cases this
   have farPi:∀q∈led,q.1∉lent.map (·.1)→q.1∉W'.pi:=fun q hq hn z=>by
    obtain⟨o2,h2⟩:=r'.piIn _ z
    exact far q hq hn _ h2 rfl
   have keep:∀q∈led,q.1∉lent.map (·.1)→q∈led'++led.filter (fun q=>decide (q.1∉lent.map (·.1))):=fun q hq hn=>List.mem_append_right _ (List.mem_filter.mpr ⟨hq,by simpa using hn⟩)
   refine⟨m,c,led'++led.filter (fun q=>decide (q.1∉lent.map (·.1))),⟨FG,fun q hq=>?_,r'.R.mono fun q hq=>Zgf hq fun x hx=>List.mem_append_left _ hx,l'.sc▸r.sc,r'.sc0,fun q hq=>keep q (r.frIn q hq) (frN q hq),fun q hq=>farPi q (r.frIn q hq) (frN q hq),fun q hq=>keep q (r.clIn q hq) (clN q hq),fun q hq=>farPi q (r.clIn q hq) (clN q hq),r.apart,fun q hq t ht=>far q (r.frIn q hq) (frN q hq) t (r'.R.tups t ht),fun q hq t ht=>far q (r.clIn q hq) (clN q hq) t (r'.R.tups t ht),Γ.mono l' r.own⟩⟩
   rcases Zz8.mp hq with hq | hq
   ·exact NG q hq
   ·obtain⟨h1,h2⟩:=List.mem_filter.mp hq
    exact⟨r'.F.keep _ _ (g0at q h1 (by simpa using h2)),(r.N q h1).2⟩
  refine hb W _ H [] _ _ _ (o,ρ',K') rep e1 ?_
  cases o with
  | none=>exact fun W' h' tk' l' r'=>back W' h' tk' .none l' r' .none
  | some v0=>exact fun W' h' tk' x l' r' x'=>back W' h' tk' x l' r' x'
 ·cases hF
theorem ZwR{Γ:Cx}{dp un:Nat}{x:Str}{np pos:Pos}{f:Addr}{room:Nat}{e:Expr}{es:List Expr}{g:Exs}{o:List V→Hp→Option (V×Hp)}(clr:Clr K p loose mean mg mb Γ dp un)(hn:Nm prog w Γ x (.ref f))(hkeep:keepIn K (.ref f)=true)(D:Def prog w K p loose mean mg mb f room o)(hd:dp+room<recursionLimit)(hu:un+10*room+300<cLine)
  (h:Js prog w Γ (e::es) g) (he:starEach (e::es) Γ.env=(false,eval e Γ.env)::starEach es Γ.env:=by rfl) (hp:∀pos,(backTo pos (starEach es Γ.env)).any (·.1)=false:=by intro _;rfl):J prog w Γ (.Call (.Name x np) (e::es) [] pos) (Zr o g):=by
 intro W ρ H fr s Q E v H' r hf post
 obtain⟨q,e1,hf⟩:=Zz0.mp hf
 have X:K.In Γ.h₀:=by
  obtain⟨_,_,_,_,_,_,_,_,_,_,_,X,_⟩:=clr
  exact X
 refine wpAny_Call_ofName (hn.use r ?_)
 refine callWith_K (first:=[]) X hkeep (h pos W ρ H fr s _ E _ _ r e1 fun W1 k1 t1 xs l1 r1 x1=>⟨?_,?_⟩) he (hp pos)
 ·obtain⟨m,c,led,r1⟩:=r1
  exact X.keeps r1.F.keep
 ·exact D Γ dp un clr hd hu W1 ρ _ fr _ Q E _ xs v H' r1 x1 hf fun W2 k2 t2 y l2 r2 y2=>post W2 k2 t2 y (l1.trans l2) r2 y2
theorem ZbA{Γ:Cx}{dp un:Nat}{scope:Scope}{cl:List (Str×Addr)}{C:Addr}{ts:List (Str×Nat)}{ρ0:Lc}(h:Clr K p loose mean mg mb Γ dp un): Clr K p loose mean mg mb (Zbe Γ scope cl C ts ρ0) dp un:=h
end
end PM
end
section
namespace PM
open PySem PySem.W PySem.Calls PyProof.Rows PyProof PySem.Spec
theorem ZkZ{lo:Nat}: ∀(names:List (Str×NameKind)) (n:Nat) (acc:List (Str×Addr)),acc.Pairwise (fun x y=>x.2≠y.2)→(∀q∈acc,lo<q.2∧q.2<n)→lo<n→(cellsFrom n names acc).Pairwise (fun x y=>x.2≠y.2)∧∀q∈cellsFrom n names acc,lo<q.2
 | [],n,acc,h1,h2,_=>⟨h1,fun q hq=>(h2 q hq).1⟩
 | (y,k)::r,n,acc,h1,h2,h3=>by
  unfold cellsFrom
  by_cases hk:(k == .cell)=true
  ·rw[if_pos hk]
   refine ZkZ r (n+1) ((y,n)::acc) (List.pairwise_cons.mpr ⟨fun q hq=>Nat.ne_of_gt (h2 q hq).2,h1⟩) (fun q hq=>?_) (Nat.lt_succ_of_lt h3)
   rcases Zz7.mp hq with e | hq
   ·rw[e]
    exact⟨h3,Nat.lt_succ_self n⟩
   ·exact⟨(h2 q hq).1,Nat.lt_succ_of_lt (h2 q hq).2⟩
  ·rw[if_neg hk]
   exact ZkZ r n acc h1 h2 h3
theorem Zve{P:Params}{h:Heap}{a:Addr}{ns:List Int}(w1:Well P h (.ref a) (ofPy (.list (ns.map PyData.int))))(W:Wd): ∃vs,h.get? a=some (ZbU vs 0)∧VRs W (ns.map V.int) vs:=by
 have key:∀{ns:List Int} {vs:List Value} {xs:List WData},xs=(ns.map PyData.int).map ofPy→WellAll P h vs xs→VRs W (ns.map V.int) vs:=by
  intro ns
  induction ns with
  | nil=>intro vs xs e h;subst e;cases h;exact .nil
  | cons n ns ih=>
   intro vs xs e h
   subst e
   cases h with
   | cons h1 h2=>
    cases h1 with
    | int i t=>exact .cons (.int _ _) (ih rfl h2)
 have e:ofPy (.list (ns.map PyData.int))=.list ((ns.map PyData.int).map ofPy):=by rw[ofPy,ofPys_eq]
 rw[e]at w1
 cases w1 with
 | list hg ha=>exact⟨_,hg,key rfl ha⟩
section
variable {prog:Program} {w:World} {K:Frag} {p:Program} {loose:List Str} {mean:ExcName→Option Value} {mg mb:Str→Option Value}
theorem ZwS{P:Params}{h₀:Heap}{s:Shared}{sa fa:Addr}{cd:Value}{ns:List Int}{qual pname:Str}{scope:Scope}{body:List Stmt}{names:List Str}{g:Sm}{cells:List (Addr×Obj)}{Q:Flow→Shared→Prop}{E:Value→Shared→Prop}{room:Nat}{H':Hp}
  (hbody:∀(dp un:Nat) (gd:Option (List Code)) (L a:Addr) (ccd:Value) (outer:List Env) (h₀:Heap) (hu:un+200<cLine),Clr K p loose mean mg mb (ZbL dp un gd qual scope L a ccd (cellsFrom (L+1) scope.names []) outer h₀ hu names) dp un→dp+room<recursionLimit→un+10*room+300<cLine →
   Ss prog w (ZbL dp un gd qual scope L a ccd (cellsFrom (L+1) scope.names []) outer h₀ hu names) body g)
  (hd:callerA.depth+1+room<recursionLimit) (hun:callerA.units+3+10*room+300<cLine) (hk:scope.kind=.function) (h0:names[0]?=some pname)
  (KX:K.In h₀) (T:Top p loose mean mg mb h₀) (w1:Well P h₀ (.ref sa) (ofPy (.list (ns.map PyData.int)))) (hlen:ns.length≤LEN)
  (F:Fr h₀ h₀.objs.size s.heap (bindL (envOfC qual scope h₀.objs.size fa cd).kindOf [(pname,.ref sa)] fun _=>none)) (N:News h₀ h₀.objs.size s.heap cells) (X0:CellsAre (bindC (envOfC qual scope h₀.objs.size fa cd).kindOf [(pname,.ref sa)] fun _=>none) (cellsFrom (h₀.objs.size+1) scope.names []) cells)
  (hg:ZU 1 g [.ref 0] [ns.map V.int]=some (.bool true,H')) (post:∀h' tk' m',Fr h₀ h₀.objs.size h' m'→Q (.ret (.bool true)) { s with heap:=h',toks:=tk' }):
  wpAny (model prog w) (callerA.deeper (envOfC qual scope h₀.objs.size fa cd)) (execs body (envOfC qual scope h₀.objs.size fa cd)) Q E s:=by
 have hu':(callerA.units+3)+200<cLine:=by omega
 have clr:Clr K p loose mean mg mb (ZbL (callerA.depth+1) (callerA.units+3) callerA.guards qual scope h₀.objs.size fa cd (cellsFrom (h₀.objs.size+1) scope.names []) [] h₀ hu' names) (callerA.depth+1) (callerA.units+3):=
  ⟨callerA.guards,qual,scope,fa,cd,cellsFrom (h₀.objs.size+1) scope.names [],[],_,_,rfl,below_caller h₀,KX,T,hk⟩
 have hb:=hbody (callerA.depth+1) (callerA.units+3) callerA.guards h₀.objs.size fa cd [] h₀ hu' clr hd hun
 obtain⟨vs,hsc,hv⟩:=Zve w1 ⟨[sa],[],(sa,ZbU [] 0)⟩
 have hv':VRs ⟨[sa],[],(sa,ZbU vs 0)⟩ (ns.map V.int) vs:=by
  clear hg post w1 hlen hsc
  generalize ns.map V.int=us at hv
  have key:∀{us:List V} {xs:List Value},VRs ⟨[sa],[],(sa,ZbU [] 0)⟩ us xs→VRs ⟨[sa],[],(sa,ZbU vs 0)⟩ us xs:=by
   intro us
   induction us with
   | nil=>intro xs h;cases h;exact .nil
   | cons u us ih=>
    intro xs h
    cases h with
    | cons a b=>
     refine .cons ?_ (ih b)
     cases a with
     | none=>exact .none
     | bool b=>exact .bool b
     | int i t=>exact .int i t
     | str s t=>exact .str s t
     | tup hm _ _=>exact nomatch hm
     | ref e=>exact .ref e
  exact key hv
 have far:=ZkZ (lo:=h₀.objs.size) scope.names (h₀.objs.size+1) [] .nil (fun q hq=>nomatch hq) (Nat.lt_succ_self _)
 unfold ZU at hg
 rw[if_pos (show([V.ref 0]:List V).length=1 from rfl)]at hg
 obtain⟨res,e1,e2⟩:=Zz1.mp hg
 obtain⟨o,ρ',K'⟩:=res
 have eo:o=some (.bool true):=by
  cases o with
  | none=>simp at e2
  | some v=>simp at e2;rw[e2.1]
 subst eo
 have pick:∀{i:Nat} {x:Str} {u:V},names[i]?=some x→([V.ref 0]:List V)[i]?=some u→x=pname∧u=.ref 0:=fun {i x u} h1 h2=>by
  have hi:i<1:=(Zz6.mp h2).1
  have:i=0:=by omega
  subst this
  rw[h0]at h1
  simp at h1 h2
  exact⟨h1.symm,h2.symm⟩
 have rep:Rep (ZbL (callerA.depth+1) (callerA.units+3) callerA.guards qual scope h₀.objs.size fa cd (cellsFrom (h₀.objs.size+1) scope.names []) [] h₀ hu' names) ⟨[sa],[],(sa,ZbU vs 0)⟩ (fun i=>[V.ref 0][i]?) [ns.map V.int] [] s.heap:=by
  refine⟨_,cells,cells,⟨F,N,⟨rfl,by simp,fun i us e=>?_,fun q hq=>(nomatch hq),fun q hq=>(nomatch hq)⟩,hsc,rfl,fun q hq=>(nomatch hq),fun q hq=>(nomatch hq),fun q hq=>hq,fun q hq z=>?_,fun q _ t ht=>(nomatch ht),fun q hq=>(nomatch hq),fun q hq t ht=>(nomatch ht),⟨fun i x u hi hk1 hu1=>?_,fun i x u hi hk1 hu1=>?_,fun x c1 hc=>?_,fun x y c1 h1 h2=>?_⟩⟩⟩
  ·have hi:i<1:=(Zz6.mp e).1
   have:i=0:=by omega
   subst this
   simp at e
   subst e
   exact⟨by simpa using hlen,sa,vs,0,rfl,List.mem_cons_self,hv'⟩
  ·have:=(N q hq).2.2
   rw[List.mem_singleton.mp z,hsc]at this
   cases this
  ·obtain⟨e3,e4⟩:=pick hi hu1
   subst e3 e4
   refine⟨.ref sa,?_,.ref rfl⟩
   show bindL _ _ _ _=_
   unfold bindL bindL
   rw[if_pos (show(envOfC qual scope h₀.objs.size fa cd).kindOf x=some .local from hk1)]
   simp
  ·obtain⟨e3,e4⟩:=pick hi hu1
   subst e3 e4
   have hs:=cellsFrom_some scope.names (h₀.objs.size+1) [] (.inl hk1)
   obtain⟨c1,hc1⟩:=Option.isSome_iff_exists.mp hs
   obtain⟨o1,ho1,hd1⟩:=Zhg X0 (ZdL hc1)
   refine⟨c1,o1,.ref sa,hc1,ho1,?_,.ref rfl⟩
   rw[hd1]
   unfold bindC bindC
   rw[if_neg (show ¬(envOfC qual scope h₀.objs.size fa cd).kindOf x=some .local by show ¬scope.names.lookup x=some .local;rw[hk1];simp)]
   simp
  ·obtain⟨o1,ho1,hd1⟩:=Zhg X0 (ZdL hc)
   exact⟨o1,_,ho1,hd1⟩
  ·exact name_of_addr far.1 (ZdL h1) (ZdL h2)
 refine hb _ _ _ [] s Q E _ rep e1 ?_
 intro W' h' tk' x l' r' x'
 cases x' with
 | bool _=>
  obtain⟨m',c',led',r'⟩:=r'
  exact post h' tk' m' r'.F
end
end PM
end
section
namespace PM
open PySem PySem.W PySem.Calls PyProof.Rows PyProof PyProof.Rows.LCg PyProof.Rows.LSm
theorem Rep.listAt{Γ:Cx}{W:Wd}{ρ:Lc}{H:Hp}{fr:List (Addr×Obj)}{h h':Heap}{vs:List V}{xs:List Value}{k:Nat}(r:Rep Γ W ρ H fr h)(up:∀b o,h.get? b=some o→h'.get? b=some o)(hg:h'.get? h.objs.size=some (ZbU xs k))(hv:VRs W vs xs)(hl:vs.length≤LEN):
  ∃W',W.Le W'∧Rep Γ W' ρ (H++[vs]) fr h'∧VR W' (.ref H.length) (.ref h.objs.size):=by
 obtain⟨r2,ap⟩:=r.more (fs:=[(h.objs.size,ZbU xs k)]) up (fun q hq=>by rw[List.mem_singleton.mp hq];exact⟨hg,Nat.le_refl _⟩)
 exact ZgT r2 (fun t ht=>ap _ Zz5 t ht) hv hl
noncomputable def ZdD: List V→Hp→Option (V×Hp)
 | [.ref a],H=>H[a]?.map fun vs=>(.ref H.length,H++[vs])
 | [.tup vs],H=>some (.ref H.length,H++[vs])
 | _,_=>none
noncomputable def ZfY: List V→Hp→Option (V×Hp)
 | [.ref a],H=>H[a]?.map fun vs=>(.tup vs,H)
 | [.tup vs],H=>some (.tup vs,H)
 | _,_=>none
noncomputable def ZfZ: List V→Option (List Bool)
 | []=>some []
 | .bool b::vs=>(ZfZ vs).map fun bs=>b::bs
 | _::_=>none
noncomputable def ZzQ: List V→Hp→Option (V×Hp)
 | [.ref a],H=>H[a]?.bind fun vs=>(ZfZ vs).map fun bs=>(.bool (bs.all id),H)
 | _,_=>none
noncomputable def ZhN: List V→Hp→Option (V×Hp)
 | [.ref a],H=>H[a]?.bind fun vs=>(ZfZ vs).map fun bs=>(.bool (bs.any id),H)
 | _,_=>none
theorem Zue{W:Wd}: ∀{vs:List V} {xs:List Value} {bs:List Bool},VRs W vs xs→ZfZ vs=some bs→BoolsAre xs bs:=by
 intro vs
 induction vs with
 | nil=>intro xs bs h e;cases h;cases e;exact .nil
 | cons v vs ih=>
  intro xs bs h e
  cases h with
  | cons a b=>
   cases v with
   | bool c=>
    obtain⟨cs,e1,e2⟩:=Zz1.mp e
    subst e2
    cases a
    exact .cons _ (ih b e1)
   | none=>cases e
   | int _=>cases e
   | str _=>cases e
   | tup _=>cases e
   | ref _=>cases e
section
variable {prog:Program} {w:World}
theorem Zg6: OpN prog w (fun xs=>call (.type "list") xs) ZdD:=by
 intro Γ W ρ H fr s Q E as xs v H' r hx ho post
 unfold ZdD at ho
 split at ho
 ·obtain⟨vs,e1,e2⟩:=Zz1.mp ho
  cases e2
  obtain⟨x,ex,rx⟩:=hx.one
  subst ex
  cases rx with
  | @ref _ a ea=>
   obtain⟨hl,ys,k,hg,hv⟩:=r.at e1 ea
   refine call_list_seq (hsz:=Zdf (by rw[List.size_toArray,hv.length];exact hl)) a (.inl rfl) hg rfl rfl fun h' c' up hg'=>?_
   obtain⟨W2,l2,r2,v2⟩:=r.listAt up hg' hv hl
   exact post W2 h' s.toks _ l2 r2 v2
 ·cases ho
  obtain⟨x,ex,rx⟩:=hx.one
  subst ex
  cases rx with
  | @tup _ a ys k hm hl hv=>
   refine call_list_seq (hsz:=Zdf (by rw[List.size_toArray,hv.length];exact hl)) a (.inr rfl) (r.tupAt hm) rfl rfl fun h' c' up hg'=>?_
   obtain⟨W2,l2,r2,v2⟩:=r.listAt up hg' hv hl
   exact post W2 h' s.toks _ l2 r2 v2
 ·cases ho
theorem Zvf: OpN prog w (fun xs=>call (.type "tuple") xs) ZfY:=by
 intro Γ W ρ H fr s Q E as xs v H' r hx ho post
 unfold ZfY at ho
 split at ho
 ·obtain⟨vs,e1,e2⟩:=Zz1.mp ho
  cases e2
  obtain⟨x,ex,rx⟩:=hx.one
  subst ex
  cases rx with
  | @ref _ a ea=>
   obtain⟨hl,ys,k,hg,hv⟩:=r.at e1 ea
   have isl:s.heap.IsList a ys.toArray:=⟨_,hg,rfl,k,rfl⟩
   refine call_tuple_list isl (fun h' up=>?_) (Zdf (by rw[List.size_toArray,hv.length];exact hl))
   obtain⟨W2,l2,r2,v2⟩:=(r.grown up).tuple (k:=0) hv hl
   exact post W2 _ s.toks _ l2 r2 v2
 ·cases ho
  obtain⟨x,ex,rx⟩:=hx.one
  subst ex
  cases rx with
  | @tup _ a ys k hm hl hv=>
   have it:IsTup s.heap a ys.toArray:=⟨_,r.tupAt hm,rfl,k,rfl⟩
   exact call_tuple_tup it (post W s.heap s.toks _ (.refl W) r (.tup hm hl hv))
 ·cases ho
theorem Zx9: OpN prog w (fun xs=>call (.builtin "any") xs) ZhN:=by
 intro Γ W ρ H fr s Q E as xs v H' r hx ho post
 unfold ZhN at ho
 split at ho
 ·obtain⟨vs,e1,e2⟩:=Zz0.mp ho
  obtain⟨bs,e3,e4⟩:=Zz1.mp e2
  cases e4
  obtain⟨x,ex,rx⟩:=hx.one
  subst ex
  cases rx with
  | @ref _ a ea=>
   obtain⟨hl,ys,k,hg,hv⟩:=r.at e1 ea
   have isl:s.heap.IsList a ys.toArray:=⟨_,hg,rfl,k,rfl⟩
   obtain⟨m,c,led,r'⟩:=r
   exact any_bools r'.F r'.N Γ.hh isl (Zue hv e3) fun h' tk F' N'=>post W h' tk _ (.refl W) (r'.same F' N') (.bool _)
 ·cases ho
end
section
variable {prog:Program} {w:World} {K:Frag} {p:Program} {loose:List Str} {mean:ExcName→Option Value} {mg mb:Str→Option Value} {Γ:Cx} {dp un:Nat}
theorem Zya{x:Str}{v:Value}(clr:Clr K p loose mean mg mb Γ dp un)(e:nsIn K mainGlobals x=some (some v))(hg:Γ.env.globals=mainGlobals)(hk:Γ.env.scope.kind=.function)(hx:Γ.env.kindOf x=some .globalImplicit)(hd:(x == ("__debug__":Str))=false): Nm prog w Γ x v:=by
 obtain⟨_,_,_,_,_,_,_,_,_,_,_,X,T,_⟩:=clr
 intro pos m s Q E F q
 exact Name_function_global hk hx (loadGlobal_global (env:=Γ.env) (by rw[hg];exact T.g.keeps F.keep) (mg_of X T.g e) q) hd
theorem ZvX{x:Str}{v:Value}(clr:Clr K p loose mean mg mb Γ dp un)(e:nsIn K mainGlobals x=some none)(hv:bootBuiltins x=some v)(hn:x≠"__name__")(hg:Γ.env.globals=mainGlobals)(hb:Γ.env.builtins=builtinsNs)(hk:Γ.env.scope.kind=.function)(hx:Γ.env.kindOf x=some .globalImplicit)(hd:(x == ("__debug__":Str))=false): Nm prog w Γ x v:=by
 obtain⟨_,_,_,_,_,_,_,_,_,_,_,X,T,_⟩:=clr
 intro pos m s Q E F q
 exact Name_function_global hk hx (loadGlobal_builtin (env:=Γ.env) (by rw[hg];exact T.g.keeps F.keep) (mg_none_of X T.g e) (by rw[hb];exact T.b.keeps F.keep) ((T.builtins x hn).trans hv) q) hd
end
section
variable {prog:Program} {w:World} {Γ:Cx} {scope:Scope} {cl:List (Str×Addr)} {C:Addr} {ts:List (Str×Nat)} {ρ0:Lc}
theorem ZwT{x:Str}{t:Nat}(hm:(x,t)∈ts)(hk:scope.kind=.function)(hl:(compEnvC scope cl C Γ.env).kindOf x=some .local)(hd:(x == ("__debug__":Str))=false): Rd prog w (Zbe Γ scope cl C ts ρ0) x t:=by
 intro W ρ H fr s Q E v pos r e q
 obtain⟨m,c,led,r⟩:=r
 obtain⟨oC,m₂,cs,ec,h0,h1,h2,h3,h4⟩:=r.own
 obtain⟨v',y,e1,e2,e3⟩:=h2 _ hm
 rw[e]at e1
 cases e1
 exact LCgL.ld_own r.N (r.clIn _ (by rw[ec];exact Zz5)) h1 e2 (q y e3) hk hl hd
end
section
variable {prog:Program} {w:World} {dp un:Nat} {gd:Option (List Code)} {cn:Str} {cs:Scope} {L a:Addr} {ccd:Value} {clf:List (Str×Addr)} {outer:List Env} {h₀:Heap} {hu:un+200<cLine} {names:List Str} {scope:Scope} {cl:List (Str×Addr)} {C:Addr} {ts:List (Str×Nat)} {ρ0:Lc}
theorem ZwU{x:Str}{i:Nat}(hi:names[i]?=some x)(hx:cs.names.lookup x=some .cell)(hne:∀p∈ts,p.2≠i)(hcl:cl.lookup x=clf.lookup x)(hk:scope.kind=.function)(hl:(compEnvC scope cl C (envX cn cs L a ccd clf)).kindOf x=some .cell)(hd:(x == ("__debug__":Str))=false):
  Rd prog w (Zbe (ZbL dp un gd cn cs L a ccd clf outer h₀ hu names) scope cl C ts ρ0) x i:=by
 intro W ρ H fr s Q E v pos r e q
 obtain⟨m,c,led,r⟩:=r
 obtain⟨oC,m₂,cs',ec,h0,h1,h2,h3,h4⟩:=r.own
 rw[h3 i hne]at e
 obtain⟨d,o,y,g1,g2,g3,g4⟩:=h4.cel i x v hi hx e
 exact kcf_cell r.N (hcl.trans g1) (r.clIn _ (by rw[ec];exact Zz2 _ g2)) g3 (q y g4) hk hl hd
end
end PM
end
section
namespace My
open PySem PySem.W PySem.Calls PyProof.Rows PySem.Spec
structure Cell(v:Int): Prop where
 bits:Builtin.Int.intBits v≤2 ^ 20
theorem bits_zero: Builtin.Int.intBits 0≤2 ^ 20:=by unfold Builtin.Int.intBits;simp
theorem cell_at{ns:List Int}(h:PyData.layable0 (.list (ns.map .int))=true)(i:Int): Cell (cellAt ns i 0):=by
 refine⟨?_⟩
 rw[cellAt_def,List.getD_eq_getElem?_getD]
 cases e:ns[i.toNat]? with
 | none=>exact bits_zero
 | some v=>exact PyData.bits_item_of_ints h (List.mem_of_getElem? e)
section
variable {prog:Program} {w:World} {A:Around} {E:Value→Shared→Prop} {s:Shared} {x y:Int} {t u:Tok} {Q:Value→Shared→Prop}
@[irreducible] noncomputable def T9: Int:=10 ^ 9
theorem T9_eq: T9=1000000000:=by unfold T9;decide +kernel
end
end My
end
section
/-! Reckoning with the plain machine. -/
namespace PM
open PySem PySem.W PyProof.Rows
section
variable (ρ:Lc) (H:Hp)
@[simp] theorem ZvY: Zfi ρ H=some (none,H):=rfl
@[simp] theorem ZvZ(f:Ex): Zfj f ρ H=(f ρ H).map fun p=>(some p.1,p.2):=rfl
end
section
variable (a b:Int) (H:Hp)
end
theorem Zsz{b:Int}(hb:0≤b): Builtin.Range.rangeSize 0 b 1=b:=by
 unfold Builtin.Range.rangeSize
 rw[if_pos (by decide)]
 by_cases h:(0:Int)<b
 ·rw[if_pos h]
  omega
 ·rw[if_neg h]
  omega
theorem Zyb{b:Int}{H:Hp}(hb:0≤b)(hb9:b≤1000): Zcy 0 b 1 H=some (Ze5 0 1 b.toNat,b.toNat+1,H):=by
 unfold Zcy rngN
 rw[Zsz hb,if_pos]
 refine⟨by decide,?_,hb,by rw[Zba];omega,?_⟩
 ·unfold Builtin.Range.small
  rw[Zsz hb]
  simp only[Builtin.Range.rangeFitsLong,Bool.and_eq_true,Bool.or_eq_true,decide_eq_true_eq,beq_iff_eq]
  rw[if_pos (by decide)]
  simp only[Bool.and_eq_true,decide_eq_true_eq]
  by_cases h:(0:Int)<b
  ·refine⟨⟨⟨⟨?_,?_⟩,?_⟩,?_⟩,Or.inr ?_⟩ <;> omega
  ·refine⟨⟨⟨⟨?_,?_⟩,?_⟩,?_⟩,?_⟩ <;> first | omega | (left;omega)
 ·exact PyProof.noPylong_small (by omega)
end PM
end
section
namespace PM
open PySem PySem.W PyProof.Rows My
theorem ZqK{a b:Int}(h:IntMulOk a b): mulOk a b=true:=by
 unfold IntMulOk at h
 unfold mulOk
 cases e:(decide (Builtin.Int.intBits a>shortFactorBits) && decide (Builtin.Int.intBits b>shortFactorBits) && Builtin.Int.intTooBig (Builtin.Int.intBits a+Builtin.Int.intBits b))with
 | true=>exact absurd e h
 | false=>rfl
theorem Zo2{a b:Int}{H:Hp}(h:0≤b∧(Builtin.Int.intBits a:Int)*b≤2 ^ 27): oPow (.int a) (.int b) H=some (.int (a ^ b.toNat),H):=by simp only[oPow];rw[if_pos h]
theorem Zzc(H:Hp): oPow (.int 10) (.int 9) H=some (.int T9,H):=by rw[Zo2 (by decide +kernel)];unfold T9;rfl
end PM
end
section
namespace PM
open PySem PySem.W PyProof.Rows My
section
variable {ρ ρ1 ρ2:Lc} {H H1 H2 H3:Hp}
theorem Zyc{k:Int}: Zk k ρ H=some (.int k,H):=rfl
theorem ZwV{f g:Ex}{a:Nat}{k:Int}{n:Nat}{vs:List V}(h1:f ρ H=some (.ref a,H1))(h2:g ρ H1=some (.int k,H2))(e:H2[a]?=some vs)(hk:k=(n:Int)): Zep f (Zfj g) Zfi ρ H=some (.ref H2.length,H2++[vs.drop n]):=by
 simp only[Zep,h1,Option.bind_some,ZvZ,h2,Option.map_some,ZvY,ZhE,e]
 rw[Zqn vs hk]
end
end PM
end
section
/-! Forward reckoning: what comes, told by a claim. -/
namespace PM
open PySem PySem.W PyProof.Rows My
def Rg(xs:List V)(H:Hp)(G:Nx→Nat→Hp→Prop): Prop:=∃n:Nat,xs=[.int n]∧n≤1000∧G (Ze5 0 1 n) (n+1) H
section
variable {ρ:Lc} {H:Hp} {Q:V→Hp→Prop} {L:List V→Hp→Prop} {T:Bool→Hp→Prop} {R:V→Hp→Prop} {N:Lc→Hp→Prop}
variable {a b:Int}
end
end PM
end
section
namespace PM
open PySem PySem.W PyProof.Rows PyProof
noncomputable def Zd1(f:Ex)(k:Nat): Ex:=fun ρ H=>(f ρ H).bind fun p=>match p.1 with
 | .ref i=>p.2[i]?.bind fun vs=>some (.ref p.2.length,p.2++[vs.drop k])
 | .tup vs=>if 1≤k∧k≤vs.length then some (.tup (vs.drop k),p.2)else none
 | _=>none
section
variable {prog:Program} {w:World} {Γ:Cx}
theorem ZjE{e lo:Expr}{p pos:Pos}{f:Ex}{k:Nat}(h:J prog w Γ e f)(hlo:J prog w Γ lo (Zk k))(ht:∀o r,letTemporaryGo e o r=pure ():=by intro _ _;rfl): J prog w Γ (.Subscript e (.Slice (Option.some lo) Option.none Option.none p) pos) (Zd1 f k):=by
 intro W ρ H fr s Q E v H' r hf post
 obtain⟨⟨v1,H1⟩,e1,hf⟩:=Zz0.mp hf
 cases v1 with
 | none=>cases hf
 | bool _=>cases hf
 | int _=>cases hf
 | str _=>cases hf
 | ref i=>
  obtain⟨vs,e2,e3⟩:=Zz0.mp hf
  refine Zob h (JP.some hlo) JP.none ht W ρ H fr s Q E v H' r ?_ post
  rw[ZwV (n:=k) e1 Zyc e2 rfl]
  exact e3
 | tup vs=>
  simp only at hf
  by_cases c:1≤k∧k≤vs.length
  ·rw[if_pos c]at hf
   cases hf
   refine wpAny_Subscript_Slice (T:="tuple") slot_tuple_getitem.lookup (h W ρ H fr s _ E _ _ r e1 fun W1 k1 t1 x l1 r1 x1=>?_) ht
   refine wpAny_Slice ?_
   refine wpAny_evalPart_some (hlo W1 ρ _ fr _ _ E _ _ r1 rfl fun W2 k2 t2 y l2 r2 y2=>?_)
   refine wpAny_evalPart_none ?_
   refine wpAny_evalPart_none ?_
   cases y2 with
   | int _ u=>
    have x2:=x1.mono l2
    cases x2 with
    | @tup _ a ys kk hm hl hs=>
     have it:IsTup k2 a ys.toArray:=⟨_,r2.tupAt hm,rfl,kk,rfl⟩
     have it':IsTup (k2.push { cls:=.type "slice",data:=.fields #[.int k u,.none,.none] }) a ys.toArray:=it.keeps fun _ _ e=>Heap.get?_push_of_some _ e
     have hlen:=hs.length
     rw[Zba]at hl
     refine⟨it'.typeIs,getItem_tuple_from it' (Heap.IsSliceOf.new ..) c.1 (by simp[hlen];exact c.2) ?_ (Zdf (by simp[hlen];rw[Zba];exact hl))⟩
     obtain⟨W4,l4,r4,v4⟩:=(r2.push { cls:=.type "slice",data:=.fields #[.int k u,.none,.none] }).tuple (k:=0) (hs.drop k) (by rw[Zba];simp;omega)
     have:=post W4 _ t2 _ ((l1.trans l2).trans l4) r4 v4
     simpa using this
  ·rw[if_neg c]at hf
   cases hf
end
section
variable {ρ:Lc} {H:Hp} {Q:V→Hp→Prop}
theorem ZsA{a b c:Int}(hc:0<c)(hb:a<b): Builtin.Range.rangeSize a b c=(b-a-1) / c+1:=by
 unfold Builtin.Range.rangeSize
 rw[if_pos hc,if_pos hb]
theorem Zyd{a b c:Int}{H:Hp}(ha:0≤a)(hb:a<b)(hb9:b≤1000)(hc:0<c)(hc9:c≤1000): Zcy a b c H=some (Ze5 a c (rngN a b c),rngN a b c+1,H):=by
 have e:=ZsA hc hb
 have h0:0≤(b-a-1) / c:=Int.ediv_nonneg (by omega) (by omega)
 have h2:(b-a-1) / c≤b-a-1:=Int.ediv_le_self _ (by omega)
 unfold Zcy
 rw[if_pos]
 refine⟨by omega,?_,by omega,by unfold rngN;rw[Zba];omega,PyProof.noPylong_small (by omega)⟩
 unfold Builtin.Range.small
 rw[e]
 simp only[Builtin.Range.rangeFitsLong,Bool.and_eq_true,Bool.or_eq_true,decide_eq_true_eq,beq_iff_eq]
 rw[if_pos hc]
 simp only[Bool.and_eq_true,decide_eq_true_eq]
 refine⟨⟨⟨⟨?_,?_⟩,?_⟩,?_⟩,?_⟩ <;> first | omega | (left;omega) | (right;omega)
end
end PM
end
section
namespace PM
open PySem PySem.W PyProof.Rows PyProof My
section
variable {ρ:Lc} {H:Hp} {Q:V→Hp→Prop} {L:List V→Hp→Prop}
end
noncomputable def od: Option Int→PyData
 | none=>.none
 | some k=>.int k
theorem ZpK{a:Int}{k:Nat}(h:Builtin.Int.intBits a≤k): a.natAbs<2 ^ k:=by
 unfold Builtin.Int.intBits at h
 by_cases z:a=0
 ·subst z
  exact Nat.two_pow_pos k
 ·rw[if_neg (by simpa using z)]at h
  exact Nat.lt_of_lt_of_le Nat.lt_log2_self (Nat.pow_le_pow_right (by decide) h)
theorem Zv0{a b:Int}{k:Nat}(ha:Builtin.Int.intBits a≤k)(hb:Builtin.Int.intBits b≤k): Builtin.Int.intBits (a+b)≤k+1:=by
 refine PyProof.Rows.intBits_le ?_
 have h1:=ZpK ha
 have h2:=ZpK hb
 rw[Nat.pow_succ]
 omega
theorem ZqL{a b:Int}(ha:Builtin.Int.intBits a≤2 ^ 21)(hb:Builtin.Int.intBits b≤2 ^ 21): mulOk a b=true:=by
 have e:(2:Nat) ^ 21=2097152:=by decide
 have h:Builtin.Int.intTooBig (Builtin.Int.intBits a+Builtin.Int.intBits b)=false:=by
  unfold Builtin.Int.intTooBig bitsLine
  exact decide_eq_false (by omega)
 unfold mulOk
 rw[h]
 simp
theorem Zvg{a b:Int}(h1:-(2 ^ 64)<b)(h2:b<2 ^ 64): mulOk a b=true:=ZqK (IntMulOk.of_right (intBits_le_64 h1 h2))
theorem Zuz{a b:Int}(h1:-(2 ^ 64)<a)(h2:a<2 ^ 64): mulOk a b=true:=ZqK (IntMulOk.of_left (intBits_le_64 h1 h2))
@[irreducible] noncomputable def M9: Int:=48271 ^ Int.toNat 9
@[irreducible] noncomputable def T40: Int:=10 ^ Int.toNat 40
theorem Zye(H:Hp): oPow (.int 48271) (.int 9) H=some (.int M9,H):=by rw[Zo2 (by decide +kernel)];unfold M9;rfl
theorem Zyf(H:Hp): oPow (.int 10) (.int 40) H=some (.int T40,H):=by rw[Zo2 (by decide +kernel)];unfold T40;rfl
theorem Zhs: T40=10000000000000000000000000000000000000000:=by unfold T40;decide +kernel
theorem ZwW: Builtin.Int.intBits M9≤2 ^ 21:=by
 unfold M9
 exact Nat.le_trans (PyProof.Rows.intBits_le (k:=256) (by decide +kernel)) (by decide)
section
variable {H:Hp} {Q:V→Hp→Prop} {a b:Int}
end
end PM
end
section
/-! The tree machine: values without places; lists that nobody else holds may be changed. -/
namespace TM
open PySem PM
inductive T where
 | none
 | bool (b:Bool)
 | int (i:Int)
 | str (s:Str)
 | tup (ts:List T)
 | lst (ts:List T)
mutual
inductive RF(H:Hp): V→T→List Nat→Prop where
 | none:RF H .none .none []
 | bool (b:Bool):RF H (.bool b) (.bool b) []
 | int (i:Int):RF H (.int i) (.int i) []
 | str (s:Str):RF H (.str s) (.str s) []
 | tup {vs:List V} {ts:List T} {F:List Nat}:RFs H vs ts F→RF H (.tup vs) (.tup ts) F
 | ref {a:Nat} {vs:List V} {ts:List T} {F:List Nat}:H[a]?=some vs→RFs H vs ts F→RF H (.ref a) (.lst ts) (a::F)
inductive RFs(H:Hp): List V→List T→List Nat→Prop where
 | nil:RFs H [] [] []
 | cons {v:V} {t:T} {F:List Nat} {vs:List V} {ts:List T} {G:List Nat}:RF H v t F→RFs H vs ts G→RFs H (v::vs) (t::ts) (F++G)
end
mutual
theorem RF.frame{H H':Hp}{v:V}{t:T}{F:List Nat}(r:RF H v t F)(h:∀a∈F,H'[a]?=H[a]?): RF H' v t F:=by
 cases r with
 | none=>exact .none
 | bool b=>exact .bool b
 | int i=>exact .int i
 | str s=>exact .str s
 | tup hs=>exact .tup (RFs.frame hs h)
 | ref e hs=>exact .ref ((h _ Zz5).trans e) (RFs.frame hs fun a m=>h a (Zz2 _ m))
theorem RFs.frame{H H':Hp}{vs:List V}{ts:List T}{F:List Nat}(r:RFs H vs ts F)(h:∀a∈F,H'[a]?=H[a]?): RFs H' vs ts F:=by
 cases r with
 | nil=>exact .nil
 | cons a b=>exact .cons (RF.frame a fun x m=>h x (Zz4 _ m)) (RFs.frame b fun x m=>h x (Zz3 _ m))
end
mutual
theorem RF.lt{H:Hp}{v:V}{t:T}{F:List Nat}(r:RF H v t F): ∀a∈F,a<H.length:=by
 cases r with
 | none=>intro a m;cases m
 | bool b=>intro a m;cases m
 | int i=>intro a m;cases m
 | str s=>intro a m;cases m
 | tup hs=>exact RFs.lt hs
 | ref e hs=>
  intro x m
  rcases Zz7.mp m with rfl | m
  ·exact(Zz6.mp e).1
  ·exact RFs.lt hs x m
theorem RFs.lt{H:Hp}{vs:List V}{ts:List T}{F:List Nat}(r:RFs H vs ts F): ∀a∈F,a<H.length:=by
 cases r with
 | nil=>intro a m;cases m
 | cons a b=>
  intro x m
  rcases Zz8.mp m with m | m
  ·exact RF.lt a x m
  ·exact RFs.lt b x m
end
theorem RF.ext{H:Hp}{v:V}{t:T}{F:List Nat}(r:RF H v t F)(X:Hp): RF (H++X) v t F:=r.frame fun a m=>List.getElem?_append_left (r.lt a m)
theorem RFs.ext{H:Hp}{vs:List V}{ts:List T}{F:List Nat}(r:RFs H vs ts F)(X:Hp): RFs (H++X) vs ts F:=r.frame fun a m=>List.getElem?_append_left (r.lt a m)
theorem RFs.length{H:Hp}: ∀{vs:List V} {ts:List T} {F:List Nat},RFs H vs ts F→vs.length=ts.length
 | _,_,_,.nil=>rfl
 | _,_,_,.cons _ r=>by rw[List.length_cons,List.length_cons,r.length]
theorem RFs.append{H:Hp}: ∀{vs us:List V} {ts ss:List T} {F G:List Nat},RFs H vs ts F→RFs H us ss G→RFs H (vs++us) (ts++ss) (F++G)
 | _,_,_,_,_,_,.nil,h=>h
 | _,_,_,_,_,_,.cons a r,h=>by rw[List.append_assoc];exact .cons a (r.append h)
theorem RFs.one{H:Hp}{v:V}{t:T}{F:List Nat}(r:RF H v t F): RFs H [v] [t] F:=by
 have:=RFs.cons r RFs.nil
 rwa [List.append_nil]at this
theorem RFs.snoc{H:Hp}{vs:List V}{ts:List T}{F G:List Nat}{v:V}{t:T}(r:RFs H vs ts F)(x:RF H v t G): RFs H (vs++[v]) (ts++[t]) (F++G):=r.append (.one x)
theorem RFs.at{H:Hp}: ∀{vs:List V} {ts:List T} {F:List Nat} {i:Nat} {t:T},RFs H vs ts F→ts[i]?=some t→∃v G,vs[i]?=some v∧RF H v t G∧G.Sublist F
 | _,_,_,_,_,.nil,e=>by simp at e
 | _,_,_,0,_,.cons a _,e=>by
  simp at e
  exact⟨_,_,by simp,e▸a,List.sublist_append_left _ _⟩
 | _,_,_,i+1,_,.cons _ r,e=>by
  simp at e
  obtain⟨x,G,hx,hr,hs⟩:=r.at e
  exact⟨x,G,by simpa using hx,hr,hs.trans (List.sublist_append_right _ _)⟩
theorem RFs.drop{H:Hp}: ∀{vs:List V} {ts:List T} {F:List Nat} (i:Nat),RFs H vs ts F→∃G,RFs H (vs.drop i) (ts.drop i) G∧G.Sublist F
 | _,_,_,0,h=>⟨_,h,List.Sublist.refl _⟩
 | _,_,_,_+1,.nil=>⟨_,.nil,List.Sublist.refl _⟩
 | _,_,_,i+1,.cons _ r=>by
  obtain⟨G,h1,h2⟩:=r.drop i
  exact⟨G,h1,h2.trans (List.sublist_append_right _ _)⟩
theorem RFs.split{H:Hp}: ∀{vs:List V} {ts:List T} {F:List Nat} {i:Nat} {t:T},RFs H vs ts F→ts[i]?=some t →
  ∃v G F1 F2,vs[i]?=some v∧RF H v t G∧F=F1++(G++F2)∧∀(H':Hp) (w:V) (t':T) (G':List Nat),RF H' w t' G'→(∀a∈F1,H'[a]?=H[a]?)→(∀a∈F2,H'[a]?=H[a]?)→RFs H' (vs.set i w) (ts.set i t') (F1++(G'++F2))
 | _,_,_,_,_,.nil,e=>by simp at e
 | _,_,_,0,_,.cons (G:=G1) a r,e=>by
  simp at e
  subst e
  exact⟨_,_,[],G1,by simp,a,by simp,fun H' w t' G' x _ h2=>by simpa using RFs.cons x (r.frame h2)⟩
 | _,_,_,i+1,_,.cons (F:=F0) a r,e=>by
  simp at e
  obtain⟨v,G,F1,F2,h1,h2,h3,h4⟩:=r.split e
  refine⟨v,G,F0++F1,F2,by simpa using h1,h2,by rw[h3];simp,fun H' w t' G' x k1 k2=>?_⟩
  have:=RFs.cons (a.frame fun b m=>k1 b (Zz4 _ m)) (h4 H' w t' G' x (fun b m=>k1 b (Zz3 _ m)) k2)
  simpa using this
theorem ZqM{α:Type}{xs:List α}{i:Nat}{x:α}(h:xs[i]?=some x): xs.set i x=xs:=by
 obtain⟨hi,e⟩:=Zz6.mp h
 rw[←e]
 exact List.set_getElem_self hi
theorem nd3{F1 G F2 G' Gn:List Nat}(nd:(F1++(G++F2)).Nodup)(n':G'.Nodup)(sub:∀a∈G',a∈G∨a∈Gn)(ds:∀a∈Gn,a∉F1++(G++F2)): (F1++(G'++F2)).Nodup:=by
 rw[List.nodup_append,List.nodup_append]at nd ⊢
 obtain⟨a1,⟨a2,a3,a4⟩,a5⟩:=nd
 refine⟨a1,⟨n',a3,fun x hx y hy e=>?_⟩,fun x hx y hy e=>?_⟩
 ·rcases sub x hx with m | m
  ·exact a4 x m y hy e
  ·exact ds x m (Zz3 _ (Zz3 _ (e▸hy)))
 ·rcases Zz8.mp hy with m | m
  ·rcases sub y m with q | q
   ·exact a5 x hx y (Zz4 _ q) e
   ·exact ds y q (Zz4 _ (e▸hx))
  ·exact a5 x hx y (Zz3 _ m) e
theorem in3{F1 G F2 G' Gn:List Nat}(sub:∀a∈G',a∈G∨a∈Gn): ∀a∈F1++(G'++F2),a∈F1++(G++F2)∨a∈Gn:=by
 intro a m
 rcases Zz8.mp m with m | m
 ·exact .inl (Zz4 _ m)
 ·rcases Zz8.mp m with m | m
  ·exact(sub a m).imp (fun q=>List.mem_append_right _ (Zz4 _ q)) id
  ·exact .inl (Zz3 _ (Zz3 _ m))
mutual
noncomputable def T.flat: T→Bool
 | .lst _=>false
 | .tup ts=>T.flats ts
 | .none=>true
 | .bool _=>true
 | .int _=>true
 | .str _=>true
noncomputable def T.flats: List T→Bool
 | []=>true
 | t::ts=>t.flat && T.flats ts
end
mutual
theorem RF.flat{H:Hp}{v:V}{t:T}{F:List Nat}(r:RF H v t F)(h:t.flat=true): F=[]:=by
 cases r with
 | none=>rfl
 | bool b=>rfl
 | int i=>rfl
 | str s=>rfl
 | tup hs=>exact RFs.flats hs (by simpa [T.flat]using h)
 | ref e hs=>simp[T.flat]at h
theorem RFs.flats{H:Hp}{vs:List V}{ts:List T}{F:List Nat}(r:RFs H vs ts F)(h:T.flats ts=true): F=[]:=by
 cases r with
 | nil=>rfl
 | cons a b=>
  simp only[T.flats,Bool.and_eq_true]at h
  rw[RF.flat a h.1,RFs.flats b h.2]
  rfl
end
noncomputable def T.flatIn: T→Bool
 | .lst ts=>T.flats ts
 | t=>t.flat
noncomputable def Zd5(f:List T→Option (List T)): List Int→T→Option T
 | [],.lst ts=>(f ts).map .lst
 | k::ks,.lst ts=>(seqIndex? k ts.length).bind fun j=>ts[j]?.bind fun t=>(Zd5 f ks t).map fun u=>.lst (ts.set j u)
 | k::ks,.tup ts=>(seqIndex? k ts.length).bind fun j=>ts[j]?.bind fun t=>(Zd5 f ks t).map fun u=>.tup (ts.set j u)
 | _,_=>none
inductive Lead(H:Hp): List Int→V→Nat→Prop where
 | nil {a:Nat}:Lead H [] (.ref a) a
 | ref {k:Int} {ks:List Int} {b:Nat} {vs:List V} {j:Nat} {v:V} {a:Nat}:H[b]?=some vs→seqIndex? k vs.length=some j→vs[j]?=some v→Lead H ks v a→Lead H (k::ks) (.ref b) a
 | tup {k:Int} {ks:List Int} {vs:List V} {j:Nat} {v:V} {a:Nat}:seqIndex? k vs.length=some j→vs[j]?=some v→Lead H ks v a→Lead H (k::ks) (.tup vs) a
theorem Zf8{H:Hp}{Gn:List Nat}{f:List T→Option (List T)}: ∀(ks:List Int) {v:V} {t t':T} {F:List Nat},RF H v t F→F.Nodup→(∀a∈Gn,a∉F)→Zd5 f ks t=some t' →
  ∃a vs ts ts' G,Lead H ks v a∧a∈F∧H[a]?=some vs∧RFs H vs ts G∧f ts=some ts'∧G.Nodup∧a∉G∧(∀x∈G,x∈F) ∧
   ∀vs' G',RFs H vs' ts' G'→G'.Nodup→a∉G'→(∀x∈G',x∈G∨x∈Gn)→∃F',RF (H.set a vs') v t' F'∧F'.Nodup∧∀x∈F',x∈F∨x∈Gn
 | [],v,t,t',F,r,nd,ds,e=>by
  cases r with
  | @ref a vs ts G e1 hs=>
   obtain⟨ts',h1,h2⟩:=Zz1.mp e
   subst h2
   rw[List.nodup_cons]at nd
   refine⟨a,vs,ts,ts',G,.nil,List.mem_cons_self,e1,hs,h1,nd.2,nd.1,fun x m=>List.mem_cons_of_mem _ m,fun vs' G' r' n' na sub=>⟨a::G',?_,?_,?_⟩⟩
   ·have ha:=(Zz6.mp e1).1
    refine .ref (List.getElem?_set_self ha) (r'.frame fun b m=>List.getElem?_set_ne ?_)
    intro q
    subst q
    exact na m
   ·exact List.nodup_cons.mpr ⟨na,n'⟩
   ·intro x m
    rcases Zz7.mp m with rfl | m
    ·exact .inl Zz5
    ·exact(sub x m).imp (Zz2 _) id
  | none=>cases e
  | bool _=>cases e
  | int _=>cases e
  | str _=>cases e
  | tup _=>cases e
 | k::ks,v,t,t',F,r,nd,ds,e=>by
  cases r with
  | none=>cases e
  | bool _=>cases e
  | int _=>cases e
  | str _=>cases e
  | @tup vs ts _ hs=>
   obtain⟨j,e1,e⟩:=Zz0.mp e
   obtain⟨u,e2,e⟩:=Zz0.mp e
   obtain⟨u',e3,e⟩:=Zz1.mp e
   subst e
   obtain⟨w,G1,F1,F2,e4,g1,eF,rb⟩:=hs.split e2
   subst eF
   have nd1:G1.Nodup:=(List.nodup_append.mp (List.nodup_append.mp nd).2.1).1
   have hin:∀x∈G1,x∈F1++(G1++F2):=fun x m=>List.mem_append_right _ (Zz4 _ m)
   obtain⟨a,us,qs,qs',G,l,am,ea,hq,hf,gn,na,gs,go⟩:=Zf8 ks g1 nd1 (fun b m q=>ds b m (hin b q)) e3
   refine⟨a,us,qs,qs',G,.tup (by rw[hs.length];exact e1) e4 l,hin a am,ea,hq,hf,gn,na,fun x m=>hin x (gs x m),fun vs' G' r' n' na' sub=>?_⟩
   obtain⟨G2,f1,f2,f3⟩:=go vs' G' r' n' na' sub
   obtain⟨a1,a2,a5⟩:=List.nodup_append.mp nd
   obtain⟨_,a3,a4⟩:=List.nodup_append.mp a2
   have:=rb (H.set a vs') w u' G2 f1 (fun b m=>List.getElem?_set_ne fun q=>a5 b m a (Zz4 _ am) q.symm) (fun b m=>List.getElem?_set_ne fun q=>a4 a am b m q)
   rw[ZqM e4]at this
   exact⟨_,.tup this,nd3 nd f2 f3 ds,in3 f3⟩
  | @ref b vs ts F' e0 hs=>
   obtain⟨j,e1,e⟩:=Zz0.mp e
   obtain⟨u,e2,e⟩:=Zz0.mp e
   obtain⟨u',e3,e⟩:=Zz1.mp e
   subst e
   obtain⟨w,G1,F1,F2,e4,g1,eF,rb⟩:=hs.split e2
   subst eF
   rw[List.nodup_cons]at nd
   obtain⟨nb,nd⟩:=nd
   have nd1:G1.Nodup:=(List.nodup_append.mp (List.nodup_append.mp nd).2.1).1
   have hin:∀x∈G1,x∈F1++(G1++F2):=fun x m=>List.mem_append_right _ (Zz4 _ m)
   have ds':∀a∈Gn,a∉F1++(G1++F2):=fun a m q=>ds a m (Zz2 _ q)
   obtain⟨a,us,qs,qs',G,l,am,ea,hq,hf,gn,na,gs,go⟩:=Zf8 ks g1 nd1 (fun b m q=>ds' b m (hin b q)) e3
   refine⟨a,us,qs,qs',G,.ref e0 (by rw[hs.length];exact e1) e4 l,List.mem_cons_of_mem _ (hin a am),ea,hq,hf,gn,na,fun x m=>List.mem_cons_of_mem _ (hin x (gs x m)),fun vs' G' r' n' na' sub=>?_⟩
   obtain⟨G2,f1,f2,f3⟩:=go vs' G' r' n' na' sub
   obtain⟨a1,a2,a5⟩:=List.nodup_append.mp nd
   obtain⟨_,a3,a4⟩:=List.nodup_append.mp a2
   have:=rb (H.set a vs') w u' G2 f1 (fun b m=>List.getElem?_set_ne fun q=>a5 b m a (Zz4 _ am) q.symm) (fun b m=>List.getElem?_set_ne fun q=>a4 a am b m q)
   rw[ZqM e4]at this
   have hab:a≠b:=fun q=>nb (hin b (q▸am))
   refine⟨_,.ref ((List.getElem?_set_ne hab).trans e0) this,List.nodup_cons.mpr ⟨fun q=>?_,nd3 nd f2 f3 ds'⟩,fun x m=>?_⟩
   ·rcases in3 f3 b q with m | m
    ·exact nb m
    ·exact ds b m Zz5
   ·rcases Zz7.mp m with rfl | m
    ·exact .inl Zz5
    ·exact(in3 f3 x m).imp (Zz2 _) id
end TM
end
section
namespace TM
open PySem PM
noncomputable abbrev TL:=Nat→Option T
noncomputable abbrev PE:=TL→Option T
noncomputable abbrev PEs:=TL→Option (List T)
noncomputable abbrev PB:=TL→Option Bool
noncomputable abbrev PG:=TL→Option (List T)
noncomputable def Z8(σ:TL)(i:Nat)(t:T): TL:=fun j=>if j=i then some t else σ j
structure Ctx where
 H0:Hp
 F0:List Nat
 P:Nat→Prop
structure St(c:Ctx)(O:List Nat)(ρ:Lc)(σ:TL)(H:Hp)(Φ:Nat→List Nat): Prop where
 slot:∀i t,σ i=some t→∃v,ρ i=some v∧RF H v t (Φ i)
 src:∀i t,σ i=some t→∀a∈Φ i,c.H0.length≤a∨c.P a
 own:∀i∈O,∀t,σ i=some t→(Φ i).Nodup∧(∀a∈Φ i,c.H0.length≤a∨a∈c.F0)∧∀j u,j≠i→σ j=some u→∀a∈Φ i,a∉Φ j
 len:c.H0.length≤H.length
 keep:∀a,a<c.H0.length→a∉c.F0→H[a]?=c.H0[a]?
 pos:0<c.H0.length
 f0:0∉c.F0
theorem St.ext{c:Ctx}{O:List Nat}{ρ:Lc}{σ:TL}{H:Hp}{Φ:Nat→List Nat}(s:St c O ρ σ H Φ)(X:Hp): St c O ρ σ (H++X) Φ:=
 ⟨fun i t e=>by obtain⟨v,h1,h2⟩:=s.slot i t e;exact⟨v,h1,h2.ext X⟩,s.src,s.own,by have:=s.len;rw[List.length_append];omega,fun a ha hn=>by
  rw[List.getElem?_append_left (Nat.lt_of_lt_of_le ha s.len)];exact s.keep a ha hn,s.pos,s.f0⟩
theorem St.less{c:Ctx}{O O':List Nat}{ρ:Lc}{σ:TL}{H:Hp}{Φ:Nat→List Nat}(s:St c O ρ σ H Φ)(h:∀i∈O',i∈O): St c O' ρ σ H Φ:=⟨s.slot,s.src,fun i hi=>s.own i (h i hi),s.len,s.keep,s.pos,s.f0⟩
def From(H:Hp)(N:List Nat)(σ:TL)(Φ:Nat→List Nat)(a:Nat): Prop:=H.length≤a∨∃i∈N,(∃t,σ i=some t)∧a∈Φ i
theorem From.mono{H:Hp}{N N':List Nat}{σ:TL}{Φ:Nat→List Nat}{a:Nat}(f:From H N σ Φ a)(h:∀i∈N,i∈N'): From H N' σ Φ a:=f.imp id fun⟨i,hi,q⟩=>⟨i,h i hi,q⟩
theorem From.back{H X:Hp}{N:List Nat}{σ:TL}{Φ:Nat→List Nat}{a:Nat}(f:From (H++X) N σ Φ a): From H N σ Φ a:=f.imp (fun h=>by rw[List.length_append]at h;omega) id
theorem From.nil{H:Hp}{σ:TL}{Φ:Nat→List Nat}{a:Nat}(f:From H [] σ Φ a): H.length≤a:=f.elim id fun⟨_,hi,_⟩=>by cases hi
def E(O N:List Nat)(u:Bool)(e:Ex)(p:PE): Prop:=∀(c:Ctx) (ρ:Lc) (σ:TL) (H:Hp) (Φ:Nat→List Nat) (t:T),St c O ρ σ H Φ→p σ=some t →
 ∃v X F,e ρ H=some (v,H++X)∧RF (H++X) v t F∧(∀a∈F,From H N σ Φ a)∧(u=true→F.Nodup)
def Es(O N:List Nat)(u:Bool)(n:Nat)(e:Exs)(p:PEs): Prop:=∀(c:Ctx) (ρ:Lc) (σ:TL) (H:Hp) (Φ:Nat→List Nat) (ts:List T),St c O ρ σ H Φ→p σ=some ts →
 ts.length=n∧∃vs X F,e ρ H=some (vs,H++X)∧RFs (H++X) vs ts F∧(∀a∈F,From H N σ Φ a)∧(u=true→F.Nodup)
def Bt(O:List Nat)(e:Ts)(p:PB): Prop:=∀(c:Ctx) (ρ:Lc) (σ:TL) (H:Hp) (Φ:Nat→List Nat) (b:Bool),St c O ρ σ H Φ→p σ=some b→∃X,e ρ H=some (b,H++X)
section
variable {O N:List Nat} {u:Bool}
theorem Zbd{O':List Nat}{e:Ex}{p:PE}(x:E O' N u e p)(h:∀i∈O',i∈O:=by decide): E O N u e p:=fun c ρ σ H Φ t s=>x c ρ σ H Φ t (s.less h)
theorem E.sh{e:Ex}{p:PE}(x:E O N u e p): E O N false e p:=fun c ρ σ H Φ t s q=>by
 obtain⟨v,X,F,a1,a2,a3,a4⟩:=x c ρ σ H Φ t s q
 exact⟨v,X,F,a1,a2,a3,by simp⟩
noncomputable def Zj(k:Int): PE:=fun _=>some (.int k)
noncomputable def Zad: PE:=fun _=>some .none
noncomputable def ZbI(b:Bool): PE:=fun _=>some (.bool b)
noncomputable def ZbM(x:Str): PE:=fun _=>some (.str x)
noncomputable def Za(i:Nat): PE:=fun σ=>σ i
theorem Zm(k:Int): E O [] true (Zk k) (Zj k):=fun c ρ σ H Φ t s q=>by
 cases q;exact⟨_,[],[],by simp[Zk],.int k,by simp,by simp⟩
theorem Zah: E O [] true Z5 Zad:=fun c ρ σ H Φ t s q=>by
 cases q;exact⟨_,[],[],by simp[Z5],.none,by simp,by simp⟩
theorem E.bool(k:Bool): E O [] true (ZbT k) (ZbI k):=fun c ρ σ H Φ t s q=>by
 cases q;exact⟨_,[],[],by simp[ZbT],.bool k,by simp,by simp⟩
theorem E.str(k:Str): E O [] true (Zb9 k) (ZbM k):=fun c ρ σ H Φ t s q=>by
 cases q;exact⟨_,[],[],by simp[Zb9],.str k,by simp,by simp⟩
theorem Zc(i:Nat): E O [i] false (Zb i) (Za i):=fun c ρ σ H Φ t s q=>by
 obtain⟨v,h1,h2⟩:=s.slot i t q
 exact⟨v,[],Φ i,by simp[Zb,h1],by simpa using h2,fun a m=>.inr ⟨i,List.mem_cons_self,⟨t,q⟩,m⟩,by simp⟩
theorem E.own{i:Nat}(hi:i∈O): E O [i] true (Zb i) (Za i):=fun c ρ σ H Φ t s q=>by
 obtain⟨v,h1,h2⟩:=s.slot i t q
 exact⟨v,[],Φ i,by simp[Zb,h1],by simpa using h2,fun a m=>.inr ⟨i,List.mem_cons_self,⟨t,q⟩,m⟩,fun _=>(s.own i hi t q).1⟩
noncomputable def ZbZ(p:PE): PE:=fun σ=>(p σ).bind fun t=>if t.flat then some t else none
theorem E.flat{e:Ex}{p:PE}(x:E O N u e p): E O [] true e (ZbZ p):=fun c ρ σ H Φ t s q=>by
 obtain⟨t',e1,e2⟩:=Zz0.mp q
 by_cases h:t'.flat=true
 ·rw[if_pos h]at e2
  cases e2
  obtain⟨v,X,F,a1,a2,a3,a4⟩:=x c ρ σ H Φ t s e1
  have:=a2.flat h
  subst this
  exact⟨v,X,[],a1,a2,by simp,by simp⟩
 ·rw[if_neg h]at e2;cases e2
noncomputable def Zl: PEs:=fun _=>some []
noncomputable def Zd(p:PE)(q:PEs): PEs:=fun σ=>(p σ).bind fun t=>(q σ).bind fun ts=>some (t::ts)
theorem Zo: Es O [] true 0 Zn Zl:=fun c ρ σ H Φ ts s q=>by
 cases q;exact⟨rfl,[],[],[],by simp[Zn],.nil,by simp,by simp⟩
theorem Zf{M:List Nat}{u':Bool}{n:Nat}{e:Ex}{p:PE}{es:Exs}{ps:PEs}(x:E O N u e p)(y:Es O M u' n es ps): Es O (N++M) false (n+1) (Ze e es) (Zd p ps):=fun c ρ σ H Φ ts s q=>by
 obtain⟨t,e1,q⟩:=Zz0.mp q
 obtain⟨rs,e2,q⟩:=Zz0.mp q
 cases q
 obtain⟨v,X,F,a1,a2,a3,a4⟩:=x c ρ σ H Φ t s e1
 obtain⟨hl,vs,Y,G,b1,b2,b3,b4⟩:=y c ρ σ (H++X) Φ rs (s.ext X) e2
 refine⟨by simp[hl],v::vs,X++Y,F++G,by simp[Ze,a1,b1],?_,fun a m=>?_,by simp⟩
 ·rw[←List.append_assoc];exact .cons (a2.ext Y) b2
 ·rcases Zz8.mp m with m | m
  ·exact(a3 a m).mono fun i hi=>List.mem_append_left _ hi
  ·exact(b3 a m).back.mono fun i hi=>List.mem_append_right _ hi
theorem Ze2{M:List Nat}{n:Nat}{e:Ex}{p:PE}{es:Exs}{ps:PEs}(x:E O N true e p)(y:Es O M true n es ps)(hN:∀i∈N,i∈O)(hM:∀i∈N,i∉M): Es O (N++M) true (n+1) (Ze e es) (Zd p ps):=fun c ρ σ H Φ ts s q=>by
 obtain⟨t,e1,q⟩:=Zz0.mp q
 obtain⟨rs,e2,q⟩:=Zz0.mp q
 cases q
 obtain⟨v,X,F,a1,a2,a3,a4⟩:=x c ρ σ H Φ t s e1
 obtain⟨hl,vs,Y,G,b1,b2,b3,b4⟩:=y c ρ σ (H++X) Φ rs (s.ext X) e2
 refine⟨by simp[hl],v::vs,X++Y,F++G,by simp[Ze,a1,b1],?_,fun a m=>?_,fun _=>?_⟩
 ·rw[←List.append_assoc];exact .cons (a2.ext Y) b2
 ·rcases Zz8.mp m with m | m
  ·exact(a3 a m).mono fun i hi=>List.mem_append_left _ hi
  ·exact(b3 a m).back.mono fun i hi=>List.mem_append_right _ hi
 ·rw[List.nodup_append]
  refine⟨a4 rfl,b4 rfl,fun a ha b hb e=>?_⟩
  subst e
  have hlt:=a2.lt a ha
  rcases b3 a hb with h | ⟨j,hj,⟨tj,ej⟩,mj⟩
  ·omega
  ·obtain⟨vj,_,rj⟩:=s.slot j tj ej
   have:=rj.lt a mj
   rcases a3 a ha with h | ⟨i,hi,⟨ti,ei⟩,mi⟩
   ·omega
   ·exact(s.own i (hN i hi) ti ei).2.2 j tj (fun q=>hM i hi (q▸hj)) ej a mi mj
noncomputable def Zav(p:PEs): PE:=fun σ=>(p σ).map .tup
noncomputable def Za6(p:PEs): PE:=fun σ=>(p σ).map .lst
theorem E.tup{n:Nat}{e:Exs}{p:PEs}(x:Es O N u n e p)(hn:n≤LEN:=by decide): E O N u (Zas e) (Zav p):=fun c ρ σ H Φ t s q=>by
 obtain⟨ts,e1,e2⟩:=Zz1.mp q
 subst e2
 obtain⟨hl,vs,Y,G,b1,b2,b3,b4⟩:=x c ρ σ H Φ ts s e1
 have:=b2.length
 refine⟨.tup vs,Y,G,?_,.tup b2,b3,b4⟩
 simp only[Zas,b1,Option.bind_some]
 rw[if_pos (by omega)]
theorem E.list{n:Nat}{e:Exs}{p:PEs}(x:Es O N u n e p)(hn:n≤LEN:=by decide): E O N u (Zbm e) (Za6 p):=fun c ρ σ H Φ t s q=>by
 obtain⟨ts,e1,e2⟩:=Zz1.mp q
 subst e2
 obtain⟨hl,vs,Y,G,b1,b2,b3,b4⟩:=x c ρ σ H Φ ts s e1
 have:=b2.length
 refine⟨.ref (H++Y).length,Y++[vs],(H++Y).length::G,?_,?_,fun a m=>?_,fun hu=>?_⟩
 ·simp only[Zbm,b1,Option.bind_some]
  rw[if_pos (by omega),List.append_assoc]
 ·rw[←List.append_assoc];exact .ref (by simp) (b2.ext _)
 ·rcases Zz7.mp m with rfl | m
  ·exact .inl (by simp)
  ·exact b3 a m
 ·rw[List.nodup_cons]
  exact⟨fun m=>Nat.lt_irrefl _ (b2.lt _ m),b4 hu⟩
def OA2(o:V→V→Hp→Option (V×Hp))(q:T→T→Option T): Prop:=∀(H:Hp) (v1 v2:V) (t1 t2 t:T) (F1 F2:List Nat),RF H v1 t1 F1→RF H v2 t2 F2→q t1 t2=some t→∃v,o v1 v2 H=some (v,H)∧RF H v t []
def OI2(o:V→V→Hp→Option (V×Hp))(q:T→T→Option T): Prop:=∀(H:Hp) (v1 v2:V) (t1 t2 t:T) (F1 F2:List Nat),RF H v1 t1 F1→RF H v2 t2 F2→q t1 t2=some t→∃v F,o v1 v2 H=some (v,H)∧RF H v t F∧F.Sublist F1
def OC2(o:V→V→Hp→Option (V×Hp))(q:T→T→Option T): Prop:=∀(H:Hp) (v1 v2:V) (t1 t2 t:T) (F1 F2:List Nat),RF H v1 t1 F1→RF H v2 t2 F2→q t1 t2=some t→∃v X F,o v1 v2 H=some (v,H++X)∧RF (H++X) v t F∧(∀a∈F,H.length≤a∨a∈F1∨a∈F2)∧(t.flatIn=true→F.Nodup∧∀a∈F,H.length≤a)
def OA1(o:V→Hp→Option (V×Hp))(q:T→Option T): Prop:=∀(H:Hp) (v1:V) (t1 t:T) (F1:List Nat),RF H v1 t1 F1→q t1=some t→∃v,o v1 H=some (v,H)∧RF H v t []
def OAn(o:List V→Hp→Option (V×Hp))(q:List T→Option T): Prop:=∀(H:Hp) (vs:List V) (ts:List T) (t:T) (F:List Nat),RFs H vs ts F→q ts=some t→∃v,o vs H=some (v,H)∧RF H v t []
def OCn(o:List V→Hp→Option (V×Hp))(q:List T→Option T): Prop:=∀(H:Hp) (vs:List V) (ts:List T) (t:T) (F1:List Nat),0<H.length→RFs H vs ts F1→q ts=some t→∃v X F,o vs H=some (v,H++X)∧RF (H++X) v t F∧(∀a∈F,H.length≤a∨a∈F1)∧(t.flatIn=true→F.Nodup∧∀a∈F,H.length≤a)
noncomputable def Zg(q:T→T→Option T)(p1 p2:PE): PE:=fun σ=>(p1 σ).bind fun x=>(p2 σ).bind fun y=>q x y
noncomputable def pUn(q:T→Option T)(p1:PE): PE:=fun σ=>(p1 σ).bind fun x=>q x
noncomputable def Zq(q:List T→Option T)(ps:PEs): PE:=fun σ=>(ps σ).bind fun xs=>q xs
noncomputable def pFl(p:PE): PE:=fun σ=>(p σ).bind fun t=>if t.flatIn then some t else none
theorem ZiS{M:List Nat}{u':Bool}{e1 e2:Ex}{p1 p2:PE}{q:T→T→Option T}{o:V→V→Hp→Option (V×Hp)}{c:Ctx}{ρ:Lc}{σ:TL}{H:Hp}{Φ:Nat→List Nat}{t:T}(x:E O N u e1 p1)(y:E O M u' e2 p2)(s:St c O ρ σ H Φ)(h:Zg q p1 p2 σ=some t):
  ∃t1 t2 v1 v2 X F1 F2,q t1 t2=some t∧RF (H++X) v1 t1 F1∧RF (H++X) v2 t2 F2∧(∀a∈F1,From H N σ Φ a)∧(∀a∈F2,From H M σ Φ a)∧(u=true→F1.Nodup)∧Zh o e1 e2 ρ H=o v1 v2 (H++X):=by
 obtain⟨t1,h1,h⟩:=Zz0.mp h
 obtain⟨t2,h2,h⟩:=Zz0.mp h
 obtain⟨v,X,F,a1,a2,a3,a4⟩:=x c ρ σ H Φ t1 s h1
 obtain⟨w,Y,G,b1,b2,b3,b4⟩:=y c ρ σ (H++X) Φ t2 (s.ext X) h2
 rw[List.append_assoc]at b1 b2
 refine⟨t1,t2,v,w,X++Y,F,G,h,?_,b2,a3,fun a m=>(b3 a m).back,a4,by simp only[Zh,a1,b1,Option.bind_some]⟩
 rw[←List.append_assoc];exact a2.ext Y
theorem ZD{M:List Nat}{u':Bool}{e1 e2:Ex}{p1 p2:PE}{q:T→T→Option T}{o:V→V→Hp→Option (V×Hp)}(k:OA2 o q)(x:E O N u e1 p1)(y:E O M u' e2 p2): E O [] true (Zh o e1 e2) (Zg q p1 p2):=fun c ρ σ H Φ t s h=>by
 obtain⟨t1,t2,v1,v2,X,F1,F2,hq,r1,r2,_,_,_,e⟩:=ZiS (o:=o) x y s h
 obtain⟨v,h1,h2⟩:=k _ v1 v2 t1 t2 t F1 F2 r1 r2 hq
 exact⟨v,X,[],e.trans h1,h2,by simp,by simp⟩
theorem ZC{M:List Nat}{u':Bool}{e1 e2:Ex}{p1 p2:PE}{q:T→T→Option T}{o:V→V→Hp→Option (V×Hp)}(k:OI2 o q)(x:E O N u e1 p1)(y:E O M u' e2 p2): E O N u (Zh o e1 e2) (Zg q p1 p2):=fun c ρ σ H Φ t s h=>by
 obtain⟨t1,t2,v1,v2,X,F1,F2,hq,r1,r2,h1,_,hu,e⟩:=ZiS (o:=o) x y s h
 obtain⟨v,F,k1,k2,k3⟩:=k _ v1 v2 t1 t2 t F1 F2 r1 r2 hq
 exact⟨v,X,F,e.trans k1,k2,fun a m=>h1 a (k3.subset m),fun h=>(hu h).sublist k3⟩
theorem Zaa{M:List Nat}{u':Bool}{e1 e2:Ex}{p1 p2:PE}{q:T→T→Option T}{o:V→V→Hp→Option (V×Hp)}(k:OC2 o q)(x:E O N u e1 p1)(y:E O M u' e2 p2): E O (N++M) false (Zh o e1 e2) (Zg q p1 p2):=fun c ρ σ H Φ t s h=>by
 obtain⟨t1,t2,v1,v2,X,F1,F2,hq,r1,r2,h1,h2,hu,e⟩:=ZiS (o:=o) x y s h
 obtain⟨v,Y,F,k1,k2,k3,k4⟩:=k _ v1 v2 t1 t2 t F1 F2 r1 r2 hq
 rw[List.append_assoc]at k1 k2
 refine⟨v,X++Y,F,e.trans k1,k2,fun a m=>?_,by simp⟩
 rcases k3 a m with h | h | h
 ·exact .inl (by rw[List.length_append]at h;omega)
 ·exact(h1 a h).mono fun i hi=>List.mem_append_left _ hi
 ·exact(h2 a h).mono fun i hi=>List.mem_append_right _ hi
theorem ZjF{M:List Nat}{u':Bool}{e1 e2:Ex}{p1 p2:PE}{q:T→T→Option T}{o:V→V→Hp→Option (V×Hp)}(k:OC2 o q)(x:E O N u e1 p1)(y:E O M u' e2 p2): E O [] true (Zh o e1 e2) (pFl (Zg q p1 p2)):=fun c ρ σ H Φ t s h=>by
 obtain⟨t',h,hf⟩:=Zz0.mp h
 by_cases fl:t'.flatIn=true
 ·rw[if_pos fl]at hf
  cases hf
  obtain⟨t1,t2,v1,v2,X,F1,F2,hq,r1,r2,h1,h2,hu,e⟩:=ZiS (o:=o) x y s h
  obtain⟨v,Y,F,k1,k2,k3,k4⟩:=k _ v1 v2 t1 t2 t F1 F2 r1 r2 hq
  rw[List.append_assoc]at k1 k2
  exact⟨v,X++Y,F,e.trans k1,k2,fun a m=>.inl (by have:=(k4 fl).2 a m;rw[List.length_append]at this;omega),fun _=>(k4 fl).1⟩
 ·rw[if_neg fl]at hf;cases hf
theorem ZcF{e1:Ex}{p1:PE}{q:T→Option T}{o:V→Hp→Option (V×Hp)}(k:OA1 o q)(x:E O N u e1 p1): E O [] true (eUn o e1) (pUn q p1):=fun c ρ σ H Φ t s h=>by
 obtain⟨t1,h1,h⟩:=Zz0.mp h
 obtain⟨v,X,F,a1,a2,a3,a4⟩:=x c ρ σ H Φ t1 s h1
 obtain⟨w,b1,b2⟩:=k _ v t1 t F a2 h
 exact⟨w,X,[],by simp only[eUn,a1,Option.bind_some,b1],b2,by simp,by simp⟩
theorem ZaD{n:Nat}{es:Exs}{ps:PEs}{q:List T→Option T}{o:List V→Hp→Option (V×Hp)}(k:OAn o q)(x:Es O N u n es ps): E O [] true (Zr o es) (Zq q ps):=fun c ρ σ H Φ t s h=>by
 obtain⟨ts,h1,h⟩:=Zz0.mp h
 obtain⟨_,vs,X,F,a1,a2,a3,a4⟩:=x c ρ σ H Φ ts s h1
 obtain⟨w,b1,b2⟩:=k _ vs ts t F a2 h
 exact⟨w,X,[],by simp only[Zr,a1,Option.bind_some,b1],b2,by simp,by simp⟩
theorem Zjg{n:Nat}{es:Exs}{ps:PEs}{q:List T→Option T}{o:List V→Hp→Option (V×Hp)}(k:OCn o q)(x:Es O N u n es ps): E O N false (Zr o es) (Zq q ps):=fun c ρ σ H Φ t s h=>by
 obtain⟨ts,h1,h⟩:=Zz0.mp h
 obtain⟨_,vs,X,F,a1,a2,a3,a4⟩:=x c ρ σ H Φ ts s h1
 have hp:0<(H++X).length:=by have:=s.pos;have:=s.len;rw[List.length_append];omega
 obtain⟨w,Y,G,b1,b2,b3,b4⟩:=k _ vs ts t F hp a2 h
 rw[List.append_assoc]at b1 b2
 refine⟨w,X++Y,G,by simp only[Zr,a1,Option.bind_some,b1],b2,fun a m=>?_,by simp⟩
 rcases b3 a m with h | h
 ·exact .inl (by rw[List.length_append]at h;omega)
 ·exact a3 a h
theorem Zod{n:Nat}{es:Exs}{ps:PEs}{q:List T→Option T}{o:List V→Hp→Option (V×Hp)}(k:OCn o q)(x:Es O N u n es ps): E O [] true (Zr o es) (pFl (Zq q ps)):=fun c ρ σ H Φ t s h=>by
 obtain⟨t',h,hf⟩:=Zz0.mp h
 by_cases fl:t'.flatIn=true
 ·rw[if_pos fl]at hf
  cases hf
  obtain⟨ts,h1,h⟩:=Zz0.mp h
  obtain⟨_,vs,X,F,a1,a2,a3,a4⟩:=x c ρ σ H Φ ts s h1
  have hp:0<(H++X).length:=by have:=s.pos;have:=s.len;rw[List.length_append];omega
  obtain⟨w,Y,G,b1,b2,b3,b4⟩:=k _ vs ts t F hp a2 h
  rw[List.append_assoc]at b1 b2
  exact⟨w,X++Y,G,by simp only[Zr,a1,Option.bind_some,b1],b2,fun a m=>.inl (by have:=(b4 fl).2 a m;rw[List.length_append]at this;omega),fun _=>(b4 fl).1⟩
 ·rw[if_neg fl]at hf;cases hf
def SimF(fr:Bool)(f:List V→Hp→Option (V×Hp))(p:List T→Option T): Prop:=∀(H:Hp) (vs:List V) (ts:List T) (t:T) (F1:List Nat),0<H.length→RFs H vs ts F1→p ts=some t→∃v X F,f vs H=some (v,H++X)∧RF (H++X) v t F∧(∀a∈F,H.length≤a∨a∈F1)∧(fr=true→F.Nodup∧∀a∈F,H.length≤a)
theorem ZG{fr:Bool}{n:Nat}{es:Exs}{ps:PEs}{q:List T→Option T}{o:List V→Hp→Option (V×Hp)}(k:SimF fr o q)(x:Es O N u n es ps): E O N false (Zr o es) (Zq q ps):=fun c ρ σ H Φ t s h=>by
 obtain⟨ts,h1,h⟩:=Zz0.mp h
 obtain⟨_,vs,X,F,a1,a2,a3,a4⟩:=x c ρ σ H Φ ts s h1
 have hp:0<(H++X).length:=by have:=s.pos;have:=s.len;rw[List.length_append];omega
 obtain⟨w,Y,G,b1,b2,b3,b4⟩:=k _ vs ts t F hp a2 h
 rw[List.append_assoc]at b1 b2
 refine⟨w,X++Y,G,by simp only[Zr,a1,Option.bind_some,b1],b2,fun a m=>?_,by simp⟩
 rcases b3 a m with h | h
 ·exact .inl (by rw[List.length_append]at h;omega)
 ·exact a3 a h
theorem ZaA{n:Nat}{es:Exs}{ps:PEs}{q:List T→Option T}{o:List V→Hp→Option (V×Hp)}(k:SimF true o q)(x:Es O N u n es ps): E O [] true (Zr o es) (Zq q ps):=fun c ρ σ H Φ t s h=>by
 obtain⟨ts,h1,h⟩:=Zz0.mp h
 obtain⟨_,vs,X,F,a1,a2,a3,a4⟩:=x c ρ σ H Φ ts s h1
 have hp:0<(H++X).length:=by have:=s.pos;have:=s.len;rw[List.length_append];omega
 obtain⟨w,Y,G,b1,b2,b3,b4⟩:=k _ vs ts t F hp a2 h
 rw[List.append_assoc]at b1 b2
 exact⟨w,X++Y,G,by simp only[Zr,a1,Option.bind_some,b1],b2,fun a m=>.inl (by have:=(b4 rfl).2 a m;rw[List.length_append]at this;omega),fun _=>(b4 rfl).1⟩
noncomputable def ZbR: T→Option Bool
 | .bool b=>some b
 | .none=>some false
 | .int i=>some (i != 0)
 | _=>none
theorem Zek{H:Hp}{v:V}{t:T}{F:List Nat}{b:Bool}(r:RF H v t F)(h:ZbR t=some b): ZcS v H=some b:=by
 cases r <;> first | (cases h;rfl) | cases h
noncomputable def ZK(p:PE): PB:=fun σ=>(p σ).bind ZbR
noncomputable def ZbX(p:PB): PB:=fun σ=>(p σ).map fun b=>!b
noncomputable def Zal: PB:=fun _=>some true
noncomputable def Zb6: PB:=fun _=>some false
noncomputable def Zbi(p q:PB): PB:=fun σ=>(p σ).bind fun b=>if b then q σ else some false
noncomputable def bOr(p q:PB): PB:=fun σ=>(p σ).bind fun b=>if b then some true else q σ
theorem ZM{e:Ex}{p:PE}(x:E O N u e p): Bt O (ZL e) (ZK p):=fun c ρ σ H Φ b s h=>by
 obtain⟨t,h1,h⟩:=Zz0.mp h
 obtain⟨v,X,F,a1,a2,a3,a4⟩:=x c ρ σ H Φ t s h1
 exact⟨X,by simp only[ZL,a1,Option.bind_some,Zek a2 h,Option.map_some]⟩
theorem ZcN{e:Ts}{p:PB}(x:Bt O e p): Bt O (Zci e) (ZbX p):=fun c ρ σ H Φ b s h=>by
 obtain⟨t,h1,h⟩:=Zz1.mp h
 subst h
 obtain⟨X,a1⟩:=x c ρ σ H Φ t s h1
 exact⟨X,by simp only[Zci,a1,Option.map_some]⟩
theorem ZaE: Bt O Zat Zal:=fun c ρ σ H Φ b s h=>by
 cases h;exact⟨[],by simp[Zat]⟩
theorem Zcw: Bt O Zb5 Zb6:=fun c ρ σ H Φ b s h=>by
 cases h;exact⟨[],by simp[Zb5]⟩
theorem ZbG{e f:Ts}{p q:PB}(x:Bt O e p)(y:Bt O f q): Bt O (Zbh e f) (Zbi p q):=fun c ρ σ H Φ b s h=>by
 obtain⟨t,h1,h⟩:=Zz0.mp h
 obtain⟨X,a1⟩:=x c ρ σ H Φ t s h1
 cases t with
 | true=>
  obtain⟨Y,b1⟩:=y c ρ σ (H++X) Φ b (s.ext X) (by simpa using h)
  exact⟨X++Y,by simp[Zbh,a1,b1]⟩
 | false=>cases h;exact⟨X,by simp[Zbh,a1]⟩
theorem ZaS{e f:Ts}{p q:PB}(x:Bt O e p)(y:Bt O f q): Bt O (tOr e f) (bOr p q):=fun c ρ σ H Φ b s h=>by
 obtain⟨t,h1,h⟩:=Zz0.mp h
 obtain⟨X,a1⟩:=x c ρ σ H Φ t s h1
 cases t with
 | false=>
  obtain⟨Y,b1⟩:=y c ρ σ (H++X) Φ b (s.ext X) (by simpa using h)
  exact⟨X++Y,by simp[tOr,a1,b1]⟩
 | true=>cases h;exact⟨X,by simp[tOr,a1]⟩
noncomputable def pIf(b:PB)(p q:PE): PE:=fun σ=>(b σ).bind fun x=>if x then p σ else q σ
noncomputable def Zkb(p:PE): PE:=fun σ=>(p σ).bind fun t=>(ZbR t).map fun b=>.bool !b
noncomputable def ZcY(p q:PE): PE:=fun σ=>(p σ).bind fun t=>(ZbR t).bind fun b=>if b then q σ else some t
noncomputable def pOr(p q:PE): PE:=fun σ=>(p σ).bind fun t=>(ZbR t).bind fun b=>if b then some t else q σ
theorem Zez{M:List Nat}{b:Ts}{pb:PB}{e f:Ex}{p q:PE}(z:Bt O b pb)(x:E O N u e p)(y:E O M u f q): E O (N++M) u (eIf b e f) (pIf pb p q):=fun c ρ σ H Φ t s h=>by
 obtain⟨b',h1,h⟩:=Zz0.mp h
 obtain⟨X,a1⟩:=z c ρ σ H Φ b' s h1
 cases b' with
 | true=>
  obtain⟨v,Y,F,b1,b2,b3,b4⟩:=x c ρ σ (H++X) Φ t (s.ext X) (by simpa using h)
  exact⟨v,X++Y,F,by simp[eIf,a1,b1],by rw[←List.append_assoc];exact b2,fun a m=>(b3 a m).back.mono fun i hi=>List.mem_append_left _ hi,b4⟩
 | false=>
  obtain⟨v,Y,F,b1,b2,b3,b4⟩:=y c ρ σ (H++X) Φ t (s.ext X) (by simpa using h)
  exact⟨v,X++Y,F,by simp[eIf,a1,b1],by rw[←List.append_assoc];exact b2,fun a m=>(b3 a m).back.mono fun i hi=>List.mem_append_right _ hi,b4⟩
theorem Zzd{e:Ex}{p:PE}(x:E O N u e p): E O [] true (Zj8 e) (Zkb p):=fun c ρ σ H Φ t s h=>by
 obtain⟨t1,h1,h⟩:=Zz0.mp h
 obtain⟨b,h2,h⟩:=Zz1.mp h
 subst h
 obtain⟨v,X,F,a1,a2,a3,a4⟩:=x c ρ σ H Φ t1 s h1
 exact⟨.bool !b,X,[],by simp only[Zj8,a1,Option.bind_some,Zek a2 h2,Option.map_some],.bool _,by simp,by simp⟩
theorem Zfk{M:List Nat}{e f:Ex}{p q:PE}(x:E O N u e p)(y:E O M u f q): E O (N++M) u (Zc6 e f) (ZcY p q):=fun c ρ σ H Φ t s h=>by
 obtain⟨t1,h1,h⟩:=Zz0.mp h
 obtain⟨b,h2,h⟩:=Zz0.mp h
 obtain⟨v,X,F,a1,a2,a3,a4⟩:=x c ρ σ H Φ t1 s h1
 cases b with
 | true=>
  obtain⟨w,Y,F',b1,b2,b3,b4⟩:=y c ρ σ (H++X) Φ t (s.ext X) (by simpa using h)
  exact⟨w,X++Y,F',by simp[Zc6,a1,Zek a2 h2,b1],by rw[←List.append_assoc];exact b2,fun a m=>(b3 a m).back.mono fun i hi=>List.mem_append_right _ hi,b4⟩
 | false=>
  cases h
  exact⟨v,X,F,by simp[Zc6,a1,Zek a2 h2],a2,fun a m=>(a3 a m).mono fun i hi=>List.mem_append_left _ hi,a4⟩
theorem ZzJ{M:List Nat}{e f:Ex}{p q:PE}(x:E O N u e p)(y:E O M u f q): E O (N++M) u (eOr e f) (pOr p q):=fun c ρ σ H Φ t s h=>by
 obtain⟨t1,h1,h⟩:=Zz0.mp h
 obtain⟨b,h2,h⟩:=Zz0.mp h
 obtain⟨v,X,F,a1,a2,a3,a4⟩:=x c ρ σ H Φ t1 s h1
 cases b with
 | false=>
  obtain⟨w,Y,F',b1,b2,b3,b4⟩:=y c ρ σ (H++X) Φ t (s.ext X) (by simpa using h)
  exact⟨w,X++Y,F',by simp[eOr,a1,Zek a2 h2,b1],by rw[←List.append_assoc];exact b2,fun a m=>(b3 a m).back.mono fun i hi=>List.mem_append_right _ hi,b4⟩
 | true=>
  cases h
  exact⟨v,X,F,by simp[eOr,a1,Zek a2 h2],a2,fun a m=>(a3 a m).mono fun i hi=>List.mem_append_left _ hi,a4⟩
noncomputable def Zoe: T→String
 | .none=>"NoneType"
 | .bool _=>"bool"
 | .int _=>"int"
 | .str _=>"str"
 | .tup _=>"tuple"
 | .lst _=>"list"
end
end TM
end
section
namespace TM
open PySem PM
section
variable {O N:List Nat} {u:Bool}
noncomputable def Zjh(K:String)(t:T): Bool:=Zoe t == K || (K == "int" && Zoe t == "bool")
noncomputable def pIs(K:String)(p:PE): PE:=fun σ=>(p σ).map fun t=>.bool (Zjh K t)
theorem ZwX{H:Hp}{v:V}{t:T}{F:List Nat}(r:RF H v t F): Zoc v=Zoe t:=by cases r <;> rfl
theorem Zd6{K:String}{e:Ex}{p:PE}(x:E O N u e p): E O [] true (eIs K e) (pIs K p):=fun c ρ σ H Φ t s h=>by
 obtain⟨t1,h1,h⟩:=Zz1.mp h
 subst h
 obtain⟨v,X,F,a1,a2,a3,a4⟩:=x c ρ σ H Φ t1 s h1
 exact⟨.bool (Zjh K t1),X,[],by simp only[eIs,a1,Option.map_some,ZoE,Zjh,ZwX a2],.bool _,by simp,by simp⟩
noncomputable def Za7: T→T→Option T
 | .int a,.int b=>some (.int (a-b))
 | _,_=>none
noncomputable def ZcP: T→T→Option T
 | .int a,.int b=>if b≠0∧Builtin.divisionGoesByPylong a b=false then some (.int (a.fdiv b))else none
 | _,_=>none
noncomputable def ZaK: T→T→Option T
 | .int a,.int b=>if b≠0 then some (.int (a.fmod b))else none
 | _,_=>none
noncomputable def Zdp: T→T→Option T
 | .int a,.int b=>if 0≤b∧(Builtin.Int.intBits a:Int)*b≤2 ^ 27 then some (.int (a ^ b.toNat))else none
 | _,_=>none
noncomputable def Zck: T→Option T
 | .int a=>some (.int (-a))
 | _=>none
noncomputable def Zkc(p:Int→Int→Bool): T→T→Option T
 | .int a,.int b=>some (.bool (p a b))
 | _,_=>none
noncomputable def qLt:=Zkc fun a b=>decide (a<b)
noncomputable def qLe:=Zkc fun a b=>decide (a≤b)
noncomputable def qGt:=Zkc fun a b=>decide (b<a)
theorem Zbw: OA2 Zbo Za7:=fun H v1 v2 t1 t2 t F1 F2 r1 r2 h=>by
 cases r1 <;> first | (cases h;done) | (cases r2 <;> first | (cases h;done) | (cases h;exact⟨_,rfl,.int _⟩))
theorem ZdG: OA2 oDiv ZcP:=fun H v1 v2 t1 t2 t F1 F2 r1 r2 h=>by
 cases r1 <;> first | (cases h;done) | skip
 cases r2 <;> first | (cases h;done) | skip
 simp only[ZcP]at h
 split at h
 ·rename_i hc;cases h;exact⟨_,by simp only[oDiv];rw[if_pos hc],.int _⟩
 ·cases h
theorem ZaW: OA2 oMod ZaK:=fun H v1 v2 t1 t2 t F1 F2 r1 r2 h=>by
 cases r1 <;> first | (cases h;done) | skip
 cases r2 <;> first | (cases h;done) | skip
 simp only[ZaK]at h
 split at h
 ·rename_i hc;cases h;exact⟨_,by simp only[oMod];rw[if_pos hc],.int _⟩
 ·cases h
theorem Zo3: OA2 oPow Zdp:=fun H v1 v2 t1 t2 t F1 F2 r1 r2 h=>by
 cases r1 <;> first | (cases h;done) | skip
 cases r2 <;> first | (cases h;done) | skip
 simp only[Zdp]at h
 split at h
 ·rename_i hc;cases h;exact⟨_,by simp only[oPow];rw[if_pos hc],.int _⟩
 ·cases h
theorem ZcG: OA1 Zcj Zck:=fun H v1 t1 t F1 r1 h=>by
 cases r1 <;> first | (cases h;done) | (cases h;exact⟨_,rfl,.int _⟩)
theorem Zo4(p:Int→Int→Bool): OA2 (Zj9 p) (Zkc p):=fun H v1 v2 t1 t2 t F1 F2 r1 r2 h=>by
 cases r1 <;> first | (cases h;done) | (cases r2 <;> first | (cases h;done) | (cases h;exact⟨_,rfl,.bool _⟩))
theorem Zc8: OA2 oLt qLt:=Zo4 _
theorem Zpc: OA2 oLe qLe:=Zo4 _
theorem Zfq: OA2 oGt qGt:=Zo4 _
noncomputable def Zfl(f:T→Option PyData): List T→Option (List PyData)
 | []=>some []
 | v::vs=>(f v).bind fun d=>(Zfl f vs).bind fun ds=>some (d::ds)
noncomputable def ZcZ: Nat→T→Option PyData
 | _,.none=>some .none
 | _,.bool b=>some (.bool b)
 | _,.int i=>some (.int i)
 | _,.str x=>some (.str x)
 | n+1,.tup vs=>(Zfl (ZcZ n) vs).map .tuple
 | n+1,.lst vs=>(Zfl (ZcZ n) vs).map .list
 | 0,.tup _=>none
 | 0,.lst _=>none
theorem Zof{H:Hp}{f:V→Option PyData}{g:T→Option PyData}(h:∀v t F,RF H v t F→f v=g t): ∀{vs:List V} {ts:List T} {F:List Nat},RFs H vs ts F→Zgk f vs=Zfl g ts
 | _,_,_,.nil=>rfl
 | _,_,_,.cons a b=>by simp only[Zgk,Zfl,h _ _ _ a,Zof h b]
theorem ZjG{H:Hp}: ∀(n:Nat) (v:V) (t:T) (F:List Nat),RF H v t F→toD H n v=ZcZ n t:=by
 intro n
 induction n with
 | zero=>intro v t F r;cases r <;> rfl
 | succ n ih=>
  intro v t F r
  cases r with
  | none=>rfl
  | bool=>rfl
  | int=>rfl
  | str=>rfl
  | tup hs=>simp only[toD,ZcZ,Zof ih hs]
  | ref e hs=>simp only[toD,ZcZ,e,Option.bind_some,Zof ih hs]
noncomputable def ZeE(a b:T): Option Bool:=(ZcZ ZbK a).bind fun d=>(ZcZ ZbK b).bind fun e=>if SeqAt.shaped d=true∧SeqAt.shaped e=true then some (PyData.eqv d e)else none
noncomputable def qEq(a b:T): Option T:=(ZeE a b).map .bool
noncomputable def qNe(a b:T): Option T:=(ZeE a b).map fun c=>.bool !c
theorem ZrZ{H:Hp}{v1 v2:V}{t1 t2:T}{F1 F2:List Nat}(r1:RF H v1 t1 F1)(r2:RF H v2 t2 F2): Zka v1 v2 H=ZeE t1 t2:=by
 simp only[Zka,ZeE,ZjG ZbK _ _ _ r1,ZjG ZbK _ _ _ r2]
theorem Zax: OA2 oEq qEq:=fun H v1 v2 t1 t2 t F1 F2 r1 r2 h=>by
 obtain⟨c,h1,h⟩:=Zz1.mp h
 subst h
 exact⟨_,by simp only[oEq,ZrZ r1 r2,h1,Option.map_some],.bool _⟩
theorem ZcI: OA2 oNe qNe:=fun H v1 v2 t1 t2 t F1 F2 r1 r2 h=>by
 obtain⟨c,h1,h⟩:=Zz1.mp h
 subst h
 exact⟨_,by simp only[oNe,ZrZ r1 r2,h1,Option.map_some],.bool _⟩
noncomputable def qIs: T→T→Option T
 | .none,.none=>some (.bool true)
 | _,.none=>some (.bool false)
 | _,_=>none
noncomputable def ZcB: T→T→Option T
 | .none,.none=>some (.bool false)
 | _,.none=>some (.bool true)
 | _,_=>none
theorem ZbN: OA2 oIs qIs:=fun H v1 v2 t1 t2 t F1 F2 r1 r2 h=>by
 cases r1 <;> cases r2 <;> first | (cases h;done) | (cases h;exact⟨_,rfl,.bool _⟩)
theorem Zdy: OA2 Zc4 ZcB:=fun H v1 v2 t1 t2 t F1 F2 r1 r2 h=>by
 cases r1 <;> cases r2 <;> first | (cases h;done) | (cases h;exact⟨_,rfl,.bool _⟩)
noncomputable def Zt: T→T→Option T
 | .lst ts,.int k=>(seqIndex? k ts.length).bind fun j=>ts[j]?
 | .tup ts,.int k=>(seqIndex? k ts.length).bind fun j=>ts[j]?
 | _,_=>none
theorem ZB: OI2 Zv Zt:=fun H v1 v2 t1 t2 t F1 F2 r1 r2 h=>by
 cases r1 with
 | none=>cases h
 | bool=>cases h
 | int=>cases h
 | str=>cases h
 | tup hs=>
  cases r2 <;> first | (cases h;done) | skip
  obtain⟨j,h1,h2⟩:=Zz0.mp h
  obtain⟨v,G,e1,e2,e3⟩:=hs.at h2
  exact⟨v,G,by simp only[Zv,hs.length,h1,Option.bind_some,e1,Option.map_some],e2,e3⟩
 | ref e hs=>
  cases r2 <;> first | (cases h;done) | skip
  obtain⟨j,h1,h2⟩:=Zz0.mp h
  obtain⟨v,G,e1,e2,e3⟩:=hs.at h2
  exact⟨v,G,by simp only[Zv,e,Option.bind_some,hs.length,h1,e1,Option.map_some],e2,e3.trans (List.sublist_cons_self _ _)⟩
noncomputable def ZaB: List T→Option T
 | [.lst ts]=>some (.int ts.length)
 | [.tup ts]=>some (.int ts.length)
 | _=>none
theorem RFs.one_inv{H:Hp}{vs:List V}{t:T}{F:List Nat}(r:RFs H vs [t] F): ∃v,vs=[v]∧RF H v t F:=by
 cases r with
 | cons a b=>cases b;rw[List.append_nil];exact⟨_,rfl,a⟩
theorem RFs.two_inv{H:Hp}{vs:List V}{t t':T}{F:List Nat}(r:RFs H vs [t,t'] F): ∃v v' F1 F2,vs=[v,v']∧RF H v t F1∧RF H v' t' F2∧F=F1++F2:=by
 cases r with
 | cons a b=>obtain⟨v',h1,h2⟩:=b.one_inv;subst h1;exact⟨_,_,_,_,rfl,a,h2,rfl⟩
theorem ZaX: OAn ZaI ZaB:=fun H vs ts t F r h=>by
 unfold ZaB at h
 split at h
 ·obtain⟨v,rfl,r'⟩:=r.one_inv
  cases r' with
  | ref e hs=>cases h;exact⟨_,by simp only[ZaI,e,Option.map_some,hs.length],.int _⟩
 ·obtain⟨v,rfl,r'⟩:=r.one_inv
  cases r' with
  | tup hs=>cases h;exact⟨_,by simp only[ZaI,hs.length],.int _⟩
 ·cases h
noncomputable def Zd7: List T→Option T
 | [.int a]=>some (.int (if a<0 then -a else a))
 | _=>none
theorem Zgh: OAn Zd4 Zd7:=fun H vs ts t F r h=>by
 unfold Zd7 at h
 split at h
 ·obtain⟨v,rfl,r'⟩:=r.one_inv
  cases r';cases h;exact⟨_,rfl,.int _⟩
 ·cases h
noncomputable def Zdm: List T→Option (List Int)
 | []=>some []
 | .int k::vs=>(Zdm vs).map fun ks=>k::ks
 | _::_=>none
noncomputable def Zf9: List T→Option (List Bool)
 | []=>some []
 | .bool k::vs=>(Zf9 vs).map fun ks=>k::ks
 | _::_=>none
theorem Zji{H:Hp}: ∀{vs:List V} {ts:List T} {F:List Nat} {ks:List Int},RFs H vs ts F→Zdm ts=some ks→ZdC vs=some ks
 | _,_,_,_,.nil,h=>h
 | _,_,_,_,.cons a b,h=>by
  cases a <;> first | (cases h;done) | skip
  obtain⟨js,h1,h2⟩:=Zz1.mp h
  subst h2
  simp only[ZdC,Zji b h1,Option.map_some]
theorem ZqN{H:Hp}: ∀{vs:List V} {ts:List T} {F:List Nat} {ks:List Bool},RFs H vs ts F→Zf9 ts=some ks→ZfZ vs=some ks
 | _,_,_,_,.nil,h=>h
 | _,_,_,_,.cons a b,h=>by
  cases a <;> first | (cases h;done) | skip
  obtain⟨js,h1,h2⟩:=Zz1.mp h
  subst h2
  simp only[ZfZ,ZqN b h1,Option.map_some]
noncomputable def Zkd: List T→Option T
 | [.lst ts]=>(Zdm ts).map fun ks=>.int ks.sum
 | _=>none
noncomputable def ZhO: List T→Option T
 | [.lst ts]=>(Zf9 ts).map fun bs=>.bool (bs.any id)
 | _=>none
theorem Zze: OAn ZhL Zkd:=fun H vs ts t F r h=>by
 unfold Zkd at h
 split at h
 ·obtain⟨v,rfl,r'⟩:=r.one_inv
  cases r' with
  | ref e hs=>
   obtain⟨ks,h1,h2⟩:=Zz1.mp h
   subst h2
   exact⟨_,by simp only[ZhL,e,Option.bind_some,Zji hs h1,Option.map_some],.int _⟩
 ·cases h
theorem Zzf: OAn ZhN ZhO:=fun H vs ts t F r h=>by
 unfold ZhO at h
 split at h
 ·obtain⟨v,rfl,r'⟩:=r.one_inv
  cases r' with
  | ref e hs=>
   obtain⟨ks,h1,h2⟩:=Zz1.mp h
   subst h2
   exact⟨_,by simp only[ZhN,e,Option.bind_some,ZqN hs h1,Option.map_some],.bool _⟩
 ·cases h
theorem Zd8{H:Hp}{vs:List V}{ts:List T}{F:List Nat}(r:RFs H vs ts F): RF (H++[vs]) (.ref H.length) (.lst ts) (H.length::F):=.ref (by simp) (r.ext _)
theorem ZfP{H:Hp}{vs:List V}{ts:List T}{F:List Nat}(r:RFs H vs ts F)(h:T.flatIn (.lst ts)=true): (H.length::F).Nodup∧∀a∈H.length::F,H.length≤a:=by
 rw[r.flats (by simpa [T.flatIn]using h)]
 simp
theorem Zv1{H:Hp}{v:V}{t:T}{F:List Nat}(r:RF H v t F)(h:F=[]): F.Nodup∧∀a∈F,H.length≤a:=by subst h;simp
noncomputable def ZhP(ts:List T): Nat→List T
 | 0=>[]
 | n+1=>ZhP ts n++ts
noncomputable def Z4: T→T→Option T
 | .int a,.int b=>some (.int (a+b))
 | .lst a,.lst b=>if(a++b).length≤LEN then some (.lst (a++b))else none
 | .tup a,.tup b=>if(a++b).length≤LEN then some (.tup (a++b))else none
 | _,_=>none
noncomputable def ZaN: T→T→Option T
 | .int a,.int b=>if mulOk a b=true then some (.int (a*b))else none
 | .lst a,.int k=>if a.length*k.toNat≤LEN∧-(2 ^ 63:Int)≤k∧k<2 ^ 63 then some (.lst (ZhP a k.toNat))else none
 | _,_=>none
theorem Zr0{H:Hp}{vs:List V}{ts:List T}{F:List Nat}(r:RFs H vs ts F): ∀n,∃G,RFs H (Zfp vs n) (ZhP ts n) G∧∀a∈G,a∈F
 | 0=>⟨_,.nil,by simp⟩
 | n+1=>by
  obtain⟨G,h1,h2⟩:=Zr0 r n
  exact⟨_,h1.append r,fun a m=>(Zz8.mp m).elim (h2 a) id⟩
theorem Zai: OC2 Zae Z4:=fun H v1 v2 t1 t2 t F1 F2 r1 r2 h=>by
 cases r1 with
 | none=>cases h
 | bool=>cases h
 | str=>cases h
 | int a=>
  cases r2 <;> first | (cases h;done) | skip
  cases h;exact⟨_,[],[],by simp[Zae],.int _,by simp,by simp⟩
 | tup hs1=>
  cases r2 with
  | none=>cases h
  | bool=>cases h
  | str=>cases h
  | int=>cases h
  | ref=>cases h
  | tup hs2=>
   simp only[Z4]at h
   split at h
   ·rename_i hl
    cases h
    refine⟨_,[],_,?_,.tup (by simpa using hs1.append hs2),fun a m=>.inr (Zz8.mp m),fun hf=>Zv1 (H:=H) (.tup (hs1.append hs2)) ((RF.tup (hs1.append hs2)).flat (by simpa [T.flatIn]using hf))⟩
    simp only[Zae,List.append_nil]
    rw[if_pos (by rw[List.length_append]at hl ⊢;rw[hs1.length,hs2.length];exact hl)]
   ·cases h
 | ref e1 hs1=>
  cases r2 with
  | none=>cases h
  | bool=>cases h
  | str=>cases h
  | int=>cases h
  | tup=>cases h
  | ref e2 hs2=>
   simp only[Z4]at h
   split at h
   ·rename_i hl
    cases h
    refine⟨_,_,_,?_,Zd8 (hs1.append hs2),fun a m=>?_,ZfP (hs1.append hs2)⟩
    ·simp only[Zae,e1,e2,Option.bind_some]
     rw[if_pos (by rw[List.length_append]at hl ⊢;rw[hs1.length,hs2.length];exact hl)]
    ·rcases Zz7.mp m with rfl | m
     ·exact .inl (Zz10 _)
     ·rcases Zz8.mp m with m | m
      ·exact .inr (.inl (Zz2 _ m))
      ·exact .inr (.inr (Zz2 _ m))
   ·cases h
theorem Zbx: OC2 Za2 ZaN:=fun H v1 v2 t1 t2 t F1 F2 r1 r2 h=>by
 cases r1 with
 | none=>cases h
 | bool=>cases h
 | str=>cases h
 | tup=>cases h
 | int a=>
  cases r2 <;> first | (cases h;done) | skip
  simp only[ZaN]at h
  split at h
  ·rename_i hm
   cases h;exact⟨_,[],[],by simp only[Za2];rw[if_pos hm];simp,.int _,by simp,by simp⟩
  ·cases h
 | ref e1 hs1=>
  cases r2 with
  | none=>cases h
  | bool=>cases h
  | str=>cases h
  | tup=>cases h
  | ref=>cases h
  | int k=>
   simp only[ZaN]at h
   split at h
   ·rename_i hl
    cases h
    obtain⟨G,h1,h2⟩:=Zr0 hs1 k.toNat
    refine⟨_,_,_,?_,Zd8 h1,fun a m=>?_,ZfP h1⟩
    ·simp only[Za2,e1,Option.bind_some]
     rw[if_pos (by rw[hs1.length];exact hl)]
    ·rcases Zz7.mp m with rfl | m
     ·exact .inl (Zz10 _)
     ·exact .inr (.inl (Zz2 _ (h2 a m)))
   ·cases h
noncomputable def ZdE: List T→Option T
 | [.lst ts]=>some (.lst ts)
 | [.tup ts]=>some (.lst ts)
 | _=>none
noncomputable def Zjj: List T→Option T
 | [.lst ts]=>some (.tup ts)
 | [.tup ts]=>some (.tup ts)
 | _=>none
theorem Zhh: OCn ZdD ZdE:=fun H vs ts t F hp r h=>by
 unfold ZdE at h
 split at h
 ·obtain⟨v,rfl,r'⟩:=r.one_inv
  cases r' with
  | ref e hs=>cases h;exact⟨_,_,_,by simp only[ZdD,e,Option.map_some],Zd8 hs,fun a m=>(Zz7.mp m).imp (fun q=>Nat.le_of_eq q.symm) (Zz2 _),ZfP hs⟩
 ·obtain⟨v,rfl,r'⟩:=r.one_inv
  cases r' with
  | tup hs=>cases h;exact⟨_,_,_,by simp only[ZdD],Zd8 hs,fun a m=>(Zz7.mp m).imp (fun q=>Nat.le_of_eq q.symm) id,ZfP hs⟩
 ·cases h
end
end TM
end
section
namespace TM
open PySem PM
theorem St.from_src{c:Ctx}{O N:List Nat}{ρ:Lc}{σ:TL}{H:Hp}{Φ:Nat→List Nat}(s:St c O ρ σ H Φ){a:Nat}(f:From H N σ Φ a): c.H0.length≤a∨c.P a:=by
 rcases f with h | ⟨i,hi,⟨t,e⟩,m⟩
 ·exact .inl (Nat.le_trans s.len h)
 ·exact s.src i t e a m
theorem St.from_off{c:Ctx}{O N:List Nat}{ρ:Lc}{σ:TL}{H:Hp}{Φ:Nat→List Nat}(s:St c O ρ σ H Φ)(hN:∀i∈N,i∉O){a:Nat}(f:From H N σ Φ a){i:Nat}(hi:i∈O){t:T}(e:σ i=some t): a∉Φ i:=by
 intro m
 obtain⟨v,_,r⟩:=s.slot i t e
 have hl:=r.lt a m
 rcases f with h | ⟨j,hj,⟨t',e'⟩,m'⟩
 ·omega
 ·exact(s.own i hi t e).2.2 j t' (fun q=>hN j hj (q▸hi)) e' a m m'
noncomputable abbrev PPt:=TL→Option (Option Int)
noncomputable def ZdW: PPt:=fun _=>some none
noncomputable def ZdX(p:PE): PPt:=fun σ=>(p σ).bind fun t=>match t with
 | .int k=>some (some k)
 | _=>none
def Pe(O:List Nat)(f:Pt)(p:PPt): Prop:=∀(c:Ctx) (ρ:Lc) (σ:TL) (H:Hp) (Φ:Nat→List Nat) (k:Option Int),St c O ρ σ H Φ→p σ=some k→∃o X,f ρ H=some (o,H++X)∧ZhE o=some k
section
variable {O N:List Nat} {u:Bool}
theorem Pe.none: Pe O PM.Zfi ZdW:=fun c ρ σ H Φ k s h=>by
 cases h;exact⟨Option.none,[],by simp[PM.Zfi],rfl⟩
theorem Pe.some{e:Ex}{p:PE}(x:E O N u e p): Pe O (Zfj e) (ZdX p):=fun c ρ σ H Φ k s h=>by
 obtain⟨t,h1,h⟩:=Zz0.mp h
 obtain⟨v,X,F,a1,a2,a3,a4⟩:=x c ρ σ H Φ t s h1
 cases a2 <;> first | (cases h;done) | skip
 rename_i k'
 cases h
 exact⟨Option.some (.int k'),X,by simp only[Zfj,a1,Option.map_some],rfl⟩
noncomputable def ZdF(p:PE)(lo hi:PPt): PE:=fun σ=>(p σ).bind fun t=>(lo σ).bind fun a=>(hi σ).bind fun b=>match t with
 | .lst ts=>Option.some (.lst (Zcg ts a b))
 | _=>Option.none
theorem RFs.pick{H:Hp}{vs:List V}{ts:List T}{F:List Nat}(h:RFs H vs ts F)(l:List Nat): ∃G,RFs H (l.filterMap fun i=>vs[i]?) (l.filterMap fun i=>ts[i]?) G∧∀a∈G,a∈F:=by
 induction l with
 | nil=>exact⟨_,.nil,by simp⟩
 | cons i l ih=>
  obtain⟨G,h1,h2⟩:=ih
  simp only[List.filterMap_cons]
  have hl:=h.length
  cases e:ts[i]? with
  | none=>
   have:vs[i]?=none:=by rw[List.getElem?_eq_none_iff]at e ⊢;omega
   rw[this]
   exact⟨G,h1,h2⟩
  | some t=>
   obtain⟨x,G',hx,hr,hs⟩:=h.at e
   rw[hx]
   exact⟨_,.cons hr h1,fun a m=>(Zz8.mp m).elim (fun q=>hs.subset q) (h2 a)⟩
theorem ZuA{c:Ctx}{ρ:Lc}{σ:TL}{H:Hp}{Φ:Nat→List Nat}{t:T}{e:Ex}{p:PE}{lo hi:Pt}{plo phi:PPt}(x:E O N u e p)(y:Pe O lo plo)(z:Pe O hi phi)(s:St c O ρ σ H Φ)(h:ZdF p plo phi σ=Option.some t):
  ∃v X F,Zep e lo hi ρ H=Option.some (v,H++X)∧RF (H++X) v t F∧(∀a∈F,From H N σ Φ a)∧(t.flatIn=true→F.Nodup∧∀a∈F,H.length≤a):=by
 obtain⟨t1,h1,h⟩:=Zz0.mp h
 obtain⟨a,h2,h⟩:=Zz0.mp h
 obtain⟨b,h3,h⟩:=Zz0.mp h
 obtain⟨v,X,F,a1,a2,a3,a4⟩:=x c ρ σ H Φ t1 s h1
 obtain⟨o1,Y,b1,b2⟩:=y c ρ σ (H++X) Φ a (s.ext X) h2
 obtain⟨o2,Z,c1,c2⟩:=z c ρ σ (H++X++Y) Φ b ((s.ext X).ext Y) h3
 cases a2 with
 | none=>cases h
 | bool=>cases h
 | int=>cases h
 | str=>cases h
 | tup=>cases h
 | @ref i vs ts F e1 hs=>
 cases h
 have e3:((H++X)++(Y++Z))[i]?=Option.some vs:=by rw[List.getElem?_append_left (Zz6.mp e1).1];exact e1
 have hs':=hs.ext (Y++Z)
 have hlen:=hs.length
 obtain⟨G,g1,g2⟩:=hs'.pick (sliceRange (sliceBounds a b none vs.length).1 (sliceBounds a b none vs.length).2.1 (sliceBounds a b none vs.length).2.2)
 have g1':RFs (H++X++(Y++Z)) (Zcg vs a b) (Zcg ts a b) G:=by unfold Zcg;rw[←hlen];exact g1
 refine⟨.ref (H++X++(Y++Z)).length,X++(Y++Z)++[Zcg vs a b],(H++X++(Y++Z)).length::G,?_,?_,fun q m=>?_,fun hf=>?_⟩
 ·simp only[Zep,a1,Option.bind_some,b1,c1,b2,c2]
  rw[List.append_assoc (H++X),e3]
  simp
 ·have:=Zd8 g1'
  simpa using this
 ·rcases Zz7.mp m with rfl | m
  ·exact .inl (by simp)
  ·exact a3 q (Zz2 _ (g2 q m))
 ·have:=ZfP g1' hf
  exact⟨this.1,fun q m=>by have:=this.2 q m;simp at this;omega⟩
theorem Zjk{e:Ex}{p:PE}{lo hi:Pt}{plo phi:PPt}(x:E O N u e p)(y:Pe O lo plo)(z:Pe O hi phi): E O N false (Zep e lo hi) (ZdF p plo phi):=fun c ρ σ H Φ t s h=>by
 obtain⟨v,X,F,a1,a2,a3,a4⟩:=ZuA x y z s h
 exact⟨v,X,F,a1,a2,a3,by simp⟩
noncomputable def ZeA(p:PE)(k:Nat): PE:=fun σ=>(p σ).bind fun t=>match t with
 | .lst ts=>Option.some (.lst (ts.drop k))
 | .tup ts=>if 1≤k∧k≤ts.length then Option.some (.tup (ts.drop k))else Option.none
 | _=>Option.none
theorem Zvh{c:Ctx}{ρ:Lc}{σ:TL}{H:Hp}{Φ:Nat→List Nat}{t:T}{e:Ex}{p:PE}{k:Nat}(x:E O N u e p)(s:St c O ρ σ H Φ)(h:ZeA p k σ=Option.some t):
  ∃v X F,Zd1 e k ρ H=Option.some (v,H++X)∧RF (H++X) v t F∧(∀a∈F,From H N σ Φ a)∧(t.flatIn=true→F.Nodup∧∀a∈F,H.length≤a):=by
 obtain⟨t1,h1,h⟩:=Zz0.mp h
 obtain⟨v,X,F,a1,a2,a3,a4⟩:=x c ρ σ H Φ t1 s h1
 cases a2 with
 | none=>cases h
 | bool=>cases h
 | int=>cases h
 | str=>cases h
 | tup hs=>
  simp only at h
  split at h
  ·rename_i hc
   cases h
   obtain⟨G,g1,g2⟩:=hs.drop k
   refine⟨_,X,G,?_,.tup g1,fun a m=>a3 a (g2.subset m),fun hf=>?_⟩
   ·simp only[Zd1,a1,Option.bind_some]
    rw[if_pos (by rw[hs.length];exact hc)]
   ·rw[g1.flats (by simpa [T.flatIn,T.flat]using hf)]
    simp
  ·cases h
 | @ref b vs1 ts1 F1 e1 hs=>
  cases h
  obtain⟨G,g1,g2⟩:=hs.drop k
  refine⟨.ref (H++X).length,X++[vs1.drop k],(H++X).length::G,?_,?_,fun a m=>?_,fun hf=>?_⟩
  ·simp only[Zd1,a1,Option.bind_some,e1,List.append_assoc]
  ·rw[←List.append_assoc];exact Zd8 g1
  ·rcases Zz7.mp m with rfl | m
   ·exact .inl (by simp)
   ·exact a3 a (Zz2 _ (g2.subset m))
  ·have:=ZfP g1 hf
   exact⟨this.1,fun q m=>by have:=this.2 q m;simp at this;omega⟩
theorem ZjH{e:Ex}{p:PE}{k:Nat}(x:E O N u e p): E O N false (Zd1 e k) (ZeA p k):=fun c ρ σ H Φ t s h=>by
 obtain⟨v,X,F,a1,a2,a3,a4⟩:=Zvh x s h
 exact⟨v,X,F,a1,a2,a3,by simp⟩
end
def Gs(O N:List Nat)(g:Src)(q:PG): Prop:=∀(c:Ctx) (ρ:Lc) (σ:TL) (H:Hp) (Φ:Nat→List Nat) (ts:List T),St c O ρ σ H Φ→q σ=some ts →
 ∃(nx:Nx) (X:Hp) (vs:List V) (F G:List Nat),g ρ H=some (nx,ts.length+1,H++X)∧RFs (H++X) vs ts F∧(∀a∈F,a∈G)∧(∀a∈G,a<(H++X).length∧From H N σ Φ a)∧∀K:Hp,(∀a∈G,K[a]?=(H++X)[a]?)→∀i,i≤vs.length→nx i K=some vs[i]?
section
variable {O N M:List Nat} {u u':Bool}
noncomputable def Zbp(p:PE): PG:=fun σ=>(p σ).bind fun t=>match t with
 | .lst ts=>some ts
 | .tup ts=>some ts
 | _=>none
theorem Gs.seq{e:Ex}{p:PE}(x:E O N u e p): Gs O N (ZbW e) (Zbp p):=fun c ρ σ H Φ ts s h=>by
 obtain⟨t1,h1,h⟩:=Zz0.mp h
 obtain⟨v,X,F,a1,a2,a3,a4⟩:=x c ρ σ H Φ t1 s h1
 have hlt:=a2.lt
 cases a2 with
 | none=>cases h
 | bool=>cases h
 | int=>cases h
 | str=>cases h
 | @tup vs _ _ hs=>
  cases h
  exact⟨ZrX vs,X,vs,F,F,by simp only[ZbW,a1,Option.bind_some,hs.length],hs,fun _ m=>m,fun a m=>⟨hlt a m,a3 a m⟩,fun K _ i hi=>rfl⟩
 | @ref b vs _ F' e1 hs=>
  cases h
  refine⟨ZoF b,X,vs,F',b::F',by simp only[ZbW,a1,Option.bind_some,e1,Option.map_some,hs.length],hs,fun _ m=>List.mem_cons_of_mem _ m,fun a m=>⟨hlt a m,a3 a m⟩,fun K hK i hi=>?_⟩
  simp only[ZoF,hK b Zz5,e1,Option.map_some]
noncomputable def Zcs(a b c:Int): Option (List T):=if c≠0∧Builtin.Range.small a b c=true∧0≤Builtin.Range.rangeSize a b c∧rngN a b c≤LEN∧Builtin.divisionGoesByPylong (b-a) c=false then some ((List.range (rngN a b c)).map fun(i:Nat)=>.int (a+(i:Int)*c))else none
noncomputable def ZaJ(p:PEs): PG:=fun σ=>(p σ).bind fun ts=>match ts with
 | [.int b]=>Zcs 0 b 1
 | [.int a,.int b]=>Zcs a b 1
 | [.int a,.int b,.int c]=>Zcs a b c
 | _=>none
theorem ZqO(H:Hp)(a c:Int): ∀(l:List Nat),RFs H (l.map fun(i:Nat)=>.int (a+(i:Int)*c)) (l.map fun(i:Nat)=>.int (a+(i:Int)*c)) []
 | []=>.nil
 | i::l=>by have:=RFs.cons (RF.int (H:=H) (a+i*c)) (ZqO H a c l);exact this
theorem ZnJ{a b c:Int}{H:Hp}{ts:List T}(h:Zcs a b c=some ts): ∃(nx:Nx) (vs:List V),Zcy a b c H=some (nx,ts.length+1,H)∧RFs H vs ts []∧∀K:Hp,∀i,i≤vs.length→nx i K=some vs[i]?:=by
 unfold Zcs at h
 split at h
 ·rename_i hc
  cases h
  refine⟨Ze5 a c (rngN a b c),(List.range (rngN a b c)).map fun(i:Nat)=>.int (a+(i:Int)*c),?_,ZqO H a c _,fun K i hi=>?_⟩
  ·unfold Zcy
   rw[if_pos hc]
   simp
  ·simp only[Ze5,List.getElem?_map]
   by_cases q:i<rngN a b c
   ·rw[if_pos q,List.getElem?_range q];rfl
   ·rw[if_neg q,List.getElem?_eq_none (by simpa using Nat.le_of_not_lt q)];rfl
 ·cases h
theorem RFs.three_inv{H:Hp}{vs:List V}{t t' t'':T}{F:List Nat}(r:RFs H vs [t,t',t''] F): ∃v v' v'' F1 F2 F3,vs=[v,v',v'']∧RF H v t F1∧RF H v' t' F2∧RF H v'' t'' F3:=by
 cases r with
 | cons a b=>obtain⟨v',v'',F2,F3,h1,h2,h3,_⟩:=b.two_inv;subst h1;exact⟨_,_,_,_,_,_,rfl,a,h2,h3⟩
theorem Gs.range{n:Nat}{e:Exs}{p:PEs}(x:Es O N u n e p): Gs O [] (Za0 e) (ZaJ p):=fun c ρ σ H Φ ts s h=>by
 obtain⟨t1,h1,h⟩:=Zz0.mp h
 obtain⟨_,vs,X,F,a1,a2,a3,a4⟩:=x c ρ σ H Φ t1 s h1
 split at h
 ·obtain⟨v,rfl,r⟩:=a2.one_inv
  cases r
  obtain⟨nx,us,q1,q2,q3⟩:=ZnJ (H:=H++X) h
  exact⟨nx,X,us,[],[],by simp only[Za0,a1,Option.bind_some,q1],q2,by simp,by simp,fun K _=>q3 K⟩
 ·obtain⟨v,v',F1,F2,rfl,r,r',_⟩:=a2.two_inv
  cases r;cases r'
  obtain⟨nx,us,q1,q2,q3⟩:=ZnJ (H:=H++X) h
  exact⟨nx,X,us,[],[],by simp only[Za0,a1,Option.bind_some,q1],q2,by simp,by simp,fun K _=>q3 K⟩
 ·obtain⟨v,v',v'',F1,F2,F3,rfl,r,r',r''⟩:=a2.three_inv
  cases r;cases r';cases r''
  obtain⟨nx,us,q1,q2,q3⟩:=ZnJ (H:=H++X) h
  exact⟨nx,X,us,[],[],by simp only[Za0,a1,Option.bind_some,q1],q2,by simp,by simp,fun K _=>q3 K⟩
 ·cases h
noncomputable def Zc9(p q:PE): PG:=fun σ=>(p σ).bind fun t=>(q σ).bind fun s=>match t,s with
 | .lst ts,.lst ss=>some (List.zipWith (fun x y=>.tup [x,y]) ts ss)
 | _,_=>none
theorem RFs.zip{H:Hp}: ∀{vs us:List V} {ts ss:List T} {F G:List Nat},RFs H vs ts F→RFs H us ss G→∃D,RFs H (List.zipWith (fun x y=>.tup [x,y]) vs us) (List.zipWith (fun x y=>.tup [x,y]) ts ss) D∧∀a∈D,a∈F∨a∈G
 | _,_,_,_,_,_,.nil,_=>⟨_,.nil,by simp⟩
 | _,_,_,_,_,_,.cons _ _,.nil=>⟨_,.nil,by simp⟩
 | _,_,_,_,_,_,.cons a b,.cons a' b'=>by
  obtain⟨D,h1,h2⟩:=b.zip b'
  refine⟨_,.cons (.tup (.cons a (.one a'))) h1,fun x m=>?_⟩
  rcases Zz8.mp m with m | m
  ·rcases Zz8.mp m with m | m
   ·exact .inl (Zz4 _ m)
   ·exact .inr (Zz4 _ m)
  ·exact(h2 x m).imp (Zz3 _) (Zz3 _)
theorem Gs.zip{e1 e2:Ex}{p1 p2:PE}(x:E O N u e1 p1)(y:E O M u' e2 p2): Gs O (N++M) (Zc7 e1 e2) (Zc9 p1 p2):=fun c ρ σ H Φ ts s h=>by
 obtain⟨t1,h1,h⟩:=Zz0.mp h
 obtain⟨t2,h2,h⟩:=Zz0.mp h
 obtain⟨v,X,F,a1,a2,a3,a4⟩:=x c ρ σ H Φ t1 s h1
 obtain⟨w,Y,G,b1,b2,b3,b4⟩:=y c ρ σ (H++X) Φ t2 (s.ext X) h2
 have a2:=a2.ext Y
 have l1:=a2.lt
 have l2:=b2.lt
 rw[List.append_assoc]at a2 b2 l1 l2 b1
 cases a2 with
 | none=>cases h
 | bool=>cases h
 | int=>cases h
 | str=>cases h
 | tup=>cases b2 <;> cases h
 | @ref a vs _ F' e1 hs=>
  cases b2 with
  | none=>cases h
  | bool=>cases h
  | int=>cases h
  | str=>cases h
  | tup=>cases h
  | @ref b us _ G' e2 hs2=>
   cases h
   obtain⟨D,d1,d2⟩:=hs.zip hs2
   refine⟨ZhF a b,X++Y,_,D,a::b::D,?_,d1,fun q m=>List.mem_cons_of_mem _ (Zz2 _ m),fun q m=>?_,fun K hK i hi=>?_⟩
   ·simp only[Zc7,a1,Option.bind_some,b1,e1,e2,Option.map_some,List.length_zipWith,hs.length,hs2.length]
   ·rcases Zz7.mp m with rfl | m
    ·exact⟨l1 _ Zz5,(a3 _ Zz5).mono fun i hi=>List.mem_append_left _ hi⟩
    ·rcases Zz7.mp m with rfl | m
     ·exact⟨l2 _ Zz5,(b3 _ Zz5).back.mono fun i hi=>List.mem_append_right _ hi⟩
     ·rcases d2 q m with m | m
      ·exact⟨l1 _ (Zz2 _ m),(a3 _ (Zz2 _ m)).mono fun i hi=>List.mem_append_left _ hi⟩
      ·exact⟨l2 _ (Zz2 _ m),(b3 _ (Zz2 _ m)).back.mono fun i hi=>List.mem_append_right _ hi⟩
   ·simp only[ZhF,hK a Zz5,hK b (Zz2 _ Zz5),e1,e2,Option.bind_some,List.getElem?_zipWith]
    rw[List.length_zipWith]at hi
    by_cases q:i<min vs.length us.length
    ·rw[List.getElem?_eq_getElem (show i<vs.length by omega),List.getElem?_eq_getElem (show i<us.length by omega)]
    ·have q':i=min vs.length us.length:=by omega
     by_cases q2:i<vs.length
     ·rw[List.getElem?_eq_getElem q2,List.getElem?_eq_none (show us.length≤i by omega)]
      simp[q']
     ·rw[List.getElem?_eq_none (show vs.length≤i by omega)]
      simp[q']
end
def PutOk(O J:List Nat)(put:V→Lc→Option Lc)(q:T→TL→Option TL): Prop:=∀(c:Ctx) (ρ:Lc) (σ:TL) (H:Hp) (Φ:Nat→List Nat) (v:V) (t:T) (F:List Nat) (σ1:TL),St c O ρ σ H Φ→RF H v t F→(∀a∈F,c.H0.length≤a∨c.P a)→(∀i∈O,∀t',σ i=some t'→∀a∈Φ i,a∉F)→q t σ=some σ1 →
 ∃ρ1 Φ1,put v ρ=some ρ1∧St c O ρ1 σ1 H Φ1∧(∀i,i∉J→σ1 i=σ i∧Φ1 i=Φ i)∧∀i∈J,∀a∈Φ1 i,a∈F
noncomputable def Zam(Φ:Nat→List Nat)(j:Nat)(F:List Nat): Nat→List Nat:=fun i=>if i=j then F else Φ i
theorem St.put{c:Ctx}{O:List Nat}{ρ:Lc}{σ:TL}{H:Hp}{Φ:Nat→List Nat}{v:V}{t:T}{F:List Nat}{j:Nat}(s:St c O ρ σ H Φ)(hj:j∉O)(r:RF H v t F)(hs:∀a∈F,c.H0.length≤a∨c.P a)(ho:∀i∈O,∀t',σ i=some t'→∀a∈Φ i,a∉F): St c O (upd ρ j v) (Z8 σ j t) H (Zam Φ j F):=by
 refine⟨fun i u e=>?_,fun i u e=>?_,fun i hi u e=>?_,s.len,s.keep,s.pos,s.f0⟩
 ·by_cases q:i=j
  ·subst q
   simp[Z8]at e
   subst e
   exact⟨v,by simp[upd],by simpa [Zam]using r⟩
  ·simp[Z8,q]at e
   simpa [upd,Zam,q]using s.slot i u e
 ·by_cases q:i=j
  ·subst q;simpa [Zam]using hs
  ·simp[Z8,q]at e
   simpa [Zam,q]using s.src i u e
 ·have q:i≠j:=fun q=>hj (q▸hi)
  simp[Z8,q]at e
  obtain⟨h1,h2,h3⟩:=s.own i hi u e
  refine⟨by simpa [Zam,q]using h1,by simpa [Zam,q]using h2,fun k w hk ek=>?_⟩
  by_cases q2:k=j
  ·subst q2
   simpa [Zam,q]using ho i hi u e
  ·simp[Z8,q2]at ek
   simpa [Zam,q,q2]using h3 k w hk ek
noncomputable def Zak(j:Nat): T→TL→Option TL:=fun t σ=>some (Z8 σ j t)
noncomputable def Zcr(i j:Nat): T→TL→Option TL
 | .tup [a,b],σ=>some (Z8 (Z8 σ i a) j b)
 | _,_=>none
theorem PutOk.one{O:List Nat}{j:Nat}(hj:j∉O:=by decide): PutOk O [j] (put1 j) (Zak j):=fun c ρ σ H Φ v t F σ1 s r hs ho h=>by
 cases h
 refine⟨_,_,rfl,s.put hj r hs ho,fun i hi=>?_,fun i hi a m=>?_⟩
 ·have:i≠j:=fun q=>hi (by simp[q])
  simp[Z8,Zam,this]
 ·simp at hi;subst hi;simpa [Zam]using m
theorem PutOk.two{O:List Nat}{i j:Nat}(hi:i∉O:=by decide)(hj:j∉O:=by decide)(hij:i≠j:=by decide): PutOk O [i,j] (Zb2 i j) (Zcr i j):=fun c ρ σ H Φ v t F σ1 s r hs ho h=>by
 unfold Zcr at h
 split at h
 ·cases h
  cases r with
  | tup hh=>
   obtain⟨v1,v2,F1,F2,rfl,r1,r2,rfl⟩:=hh.two_inv
   have s1:=s.put hi r1 (fun a m=>hs a (Zz4 _ m)) (fun k hk t' e a m q=>ho k hk t' e a m (Zz4 _ q))
   have s2:=s1.put hj r2 (fun a m=>hs a (Zz3 _ m)) (fun k hk t' e a m q=>by
    have:k≠i:=fun q=>hi (q▸hk)
    simp[Z8,Zam,this]at e m
    exact ho k hk t' e a m (Zz3 _ q))
   refine⟨_,_,rfl,s2,fun k hk=>?_,fun k hk a m=>?_⟩
   ·simp at hk
    simp[Z8,Zam,hk.1,hk.2]
   ·simp at hk
    rcases hk with rfl | rfl
    ·simp[Zam,hij]at m
     exact Zz4 _ m
    ·simp[Zam]at m
     exact Zz3 _ m
 ·cases h
noncomputable def ZcW(put:T→TL→Option TL)(c:PB)(f:PE)(σ:TL): List T→Option (List T)
 | []=>some []
 | t::ts=>(put t σ).bind fun σ1=>(c σ1).bind fun b=>if b then(f σ1).bind fun x=>(ZcW put c f σ ts).map fun xs=>x::xs else ZcW put c f σ ts
noncomputable def Zau(g:PG)(put:T→TL→Option TL)(c:PB)(f:PE): PE:=fun σ=>(g σ).bind fun ts=>if ts.length≤LEN then(ZcW put c f σ ts).map .lst else none
section
variable {O Ns Ne J:List Nat} {u:Bool}
theorem comp_core{put:V→Lc→Option Lc}{pput:T→TL→Option TL}{tc:Ts}{pc:PB}{f:Ex}{pf:PE}(hj:PutOk O J put pput)(hN:∀i∈Ns,i∉O)(hc:Bt O tc pc)(hf:E O Ne u f pf)(hu:u=true→Ne=[])
  {c:Ctx} {ρ:Lc} {σ:TL} {Φ:Nat→List Nat} {H0 H1:Hp} {nx:Nx} {vs:List V} {G:List Nat} (h0:H0.length≤H1.length)
  (hG:∀a∈G,a<H1.length∧From H0 Ns σ Φ a) (hoff:∀a∈G,∀i∈O,∀t,σ i=some t→a∉Φ i) (hsrc:∀a∈G,c.H0.length≤a∨c.P a) (hnx:∀K:Hp,(∀a∈G,K[a]?=H1[a]?)→∀i,i≤vs.length→nx i K=some vs[i]?):
  ∀(rs:List T) (ws:List V) (i:Nat) (acc:List V) (K:Hp) (Fr:List Nat) (out:List T),(∀j,vs[i+j]?=ws[j]?)→i+ws.length=vs.length→St c O ρ σ K Φ→H1.length≤K.length→(∀a∈G,K[a]?=H1[a]?)→RFs K ws rs Fr→(∀a∈Fr,a∈G)→acc.length+rs.length≤LEN→ZcW pput pc pf σ rs=some out →
   ∃xs X F,ZcV nx put tc f ρ (rs.length+1) i acc K=some (acc++xs,K++X)∧RFs (K++X) xs out F∧(∀a∈F,(u=true→K.length≤a)∧From H0 (Ns++Ne) σ Φ a)∧(u=true→F.Nodup)
 | [],ws,i,acc,K,Fr,out,hat,hlen,s,hl,hk,r,hfr,hacc,h=>by
  cases r
  cases h
  have e:=hnx K hk i (by simp at hlen;omega)
  have e2:vs[i]?=none:=by have:=hat 0;simpa using this
  refine⟨[],[],[],?_,.nil,by simp,by simp⟩
  simp[ZcV,e,e2]
 | t::rs,ws0,i,acc,K,Fr0,out,hat,hlen,s,hl,hk,r,hfr,hacc,h=>by
  cases r with
  | @cons v _ F1 ws _ F2 a b=>
  simp only[List.length_cons]at hlen hacc
  obtain⟨σ1,h1,h⟩:=Zz0.mp h
  obtain⟨bb,h2,h⟩:=Zz0.mp h
  have e:=hnx K hk i (by omega)
  have e2:vs[i]?=some v:=by have:=hat 0;simpa using this
  have hat':∀j,vs[i+1+j]?=ws[j]?:=fun j=>by have:=hat (j+1);rw[show i+1+j=i+(j+1)by omega,this];simp
  obtain⟨ρ1,Φ1,p1,s1,p3,p4⟩:=hj c ρ σ K Φ v t F1 σ1 s a (fun x m=>hsrc x (hfr x (Zz4 _ m))) (fun k hk t' e x m q=>hoff x (hfr x (Zz4 _ q)) k hk t' e m) h1
  obtain⟨X1,c1⟩:=hc c ρ1 σ1 K Φ1 bb s1 h2
  cases bb with
  | true=>
   obtain⟨y,h3,h⟩:=Zz0.mp h
   obtain⟨ys,h4,h⟩:=Zz1.mp h
   subst h
   obtain⟨w,X2,Fw,d1,d2,d3,d4⟩:=hf c ρ1 σ1 (K++X1) Φ1 y (s1.ext X1) h3
   have hext:∀a∈G,(K++X1++X2)[a]?=H1[a]?:=fun a m=>by
    have:=(hG a m).1
    rw[List.append_assoc,List.getElem?_append_left (by omega)];exact hk a m
   obtain⟨xs,X3,F3,f1,f2,f3,f4⟩:=comp_core hj hN hc hf hu h0 hG hoff hsrc hnx rs ws (i+1) (acc++[w]) (K++X1++X2) F2 ys hat' (by omega) ((s.ext X1).ext X2) (by simp;omega) hext (by rw[List.append_assoc];exact b.ext _) (fun x m=>hfr x (Zz3 _ m)) (by simp;omega) h4
   refine⟨w::xs,X1++X2++X3,Fw++F3,?_,?_,fun x m=>?_,fun hu'=>?_⟩
   ·rw[List.length_cons,ZcV,e,e2]
    simp only[Option.bind_some,p1,c1,d1,if_true]
    rw[if_pos (by omega)]
    simpa using f1
   ·have:=RFs.cons (d2.ext X3) f2
    simpa using this
   ·rcases Zz8.mp m with m | m
    ·refine⟨fun hu'=>?_,?_⟩
     ·have hne:=hu hu'
      subst hne
      have:=(d3 x m).nil
      simp at this;omega
     ·rcases d3 x m with q | ⟨k,hk1,⟨tk,ek⟩,mk⟩
      ·exact .inl (by simp at q;omega)
      ·by_cases hkJ:k∈J
       ·exact(hG x (hfr x (Zz4 _ (p4 k hkJ x mk)))).2.mono fun i hi=>List.mem_append_left _ hi
       ·obtain⟨q1,q2⟩:=p3 k hkJ
        exact .inr ⟨k,List.mem_append_right _ hk1,⟨tk,q1▸ek⟩,q2▸mk⟩
    ·obtain⟨g1,g2⟩:=f3 x m
     exact⟨fun hu'=>by have:=g1 hu';simp at this;omega,g2⟩
   ·rw[List.nodup_append]
    refine⟨d4 hu',f4 hu',fun x hx y hy e=>?_⟩
    have l1:=d2.lt x hx
    have l2:=(f3 y hy).1 hu'
    omega
  | false=>
   have hext:∀a∈G,(K++X1)[a]?=H1[a]?:=fun a m=>by
    have:=(hG a m).1
    rw[List.getElem?_append_left (by omega)];exact hk a m
   obtain⟨xs,X3,F3,f1,f2,f3,f4⟩:=comp_core hj hN hc hf hu h0 hG hoff hsrc hnx rs ws (i+1) acc (K++X1) F2 out hat' (by omega) (s.ext X1) (by simp;omega) hext (b.ext _) (fun x m=>hfr x (Zz3 _ m)) (by omega) (by simpa using h)
   refine⟨xs,X1++X3,F3,?_,by simpa using f2,fun x m=>?_,f4⟩
   ·rw[List.length_cons,ZcV,e,e2]
    simp only[Option.bind_some,p1,c1]
    simpa using f1
   ·obtain⟨g1,g2⟩:=f3 x m
    exact⟨fun hu'=>by have:=g1 hu';simp at this;omega,g2⟩
theorem Zr1{g:Src}{q:PG}{put:V→Lc→Option Lc}{pput:T→TL→Option TL}{tc:Ts}{pc:PB}{f:Ex}{pf:PE}(hg:Gs O Ns g q)(hj:PutOk O J put pput)(hN:∀i∈Ns,i∉O)(hc:Bt O tc pc)(hf:E O Ne u f pf)(hu:u=true→Ne=[]): E O (if u then []else Ns++Ne) u (Zaz g put tc f) (Zau q pput pc pf):=fun c ρ σ H Φ t s h=>by
 obtain⟨ts,h1,h⟩:=Zz0.mp h
 split at h
 ·rename_i hl
  obtain⟨out,h2,h⟩:=Zz1.mp h
  subst h
  obtain⟨nx,X,vs,F,G,g1,g2,g3,g4,g5⟩:=hg c ρ σ H Φ ts s h1
  obtain⟨xs,Y,F',d1,d2,d3,d4⟩:=comp_core hj hN hc hf hu (H0:=H) (H1:=H++X) (by simp) g4 (fun a m i hi t e=>s.from_off hN (g4 a m).2 hi e) (fun a m=>s.from_src (g4 a m).2) g5 ts vs 0 [] (H++X) F out (by simp) (by simp) (s.ext X) (Zz10 _) (fun _ _=>rfl) g2 g3 (by simpa using hl) h2
  refine⟨.ref (H++X++Y).length,X++Y++[xs],(H++X++Y).length::F',?_,?_,fun a m=>?_,fun hu'=>?_⟩
  ·simp only[Zaz,g1,Option.bind_some,d1,Option.map_some,List.nil_append,List.append_assoc]
  ·have:=Zd8 d2
   simpa using this
  ·rcases Zz7.mp m with rfl | m
   ·exact .inl (by simp)
   ·obtain⟨q1,q2⟩:=d3 a m
    cases u with
    | true=>exact .inl (by have:=q1 rfl;simp at this;omega)
    | false=>exact q2
  ·rw[List.nodup_cons]
   exact⟨fun m=>Nat.lt_irrefl _ (d2.lt _ m),d4 hu'⟩
 ·cases h
end
end TM
end
section
namespace TM
open PySem PM
noncomputable abbrev PS:=TL→Option (Option T×TL)
noncomputable def ZcO(σ:TL)(N:List Nat): TL:=fun j=>if j∈N then none else σ j
def Zc0(O:List Nat)(σ:TL)(Φ:Nat→List Nat)(a:Nat): Prop:=∃j∈O,(∃t,σ j=some t)∧a∈Φ j
def Aft(c:Ctx)(O O' R:List Nat)(fr:Bool)(σ:TL)(H:Hp)(Φ:Nat→List Nat)(g:Option (Option V×Lc×Hp))(r:Option T×TL): Prop:=
 ∃ρ' H' Φ',H.length≤H'.length∧(∀a,a<H.length→¬Zc0 O σ Φ a→H'[a]?=H[a]?) ∧
  ((r.1=none∧g=some (none,ρ',H')∧St c O' ρ' r.2 H' Φ'∧∀a,Zc0 O' r.2 Φ' a→H.length≤a∨Zc0 O σ Φ a) ∨
  ∃t v F,r.1=some t∧g=some (some v,ρ',H')∧RF H' v t F∧St c R ρ' r.2 H' Φ'∧(∀a∈F,c.H0.length≤a∨c.P a)∧(fr=true→F.Nodup∧∀a∈F,c.H0.length≤a∨a∈c.F0))
def S(O O' R:List Nat)(fr:Bool)(g:Sm)(q:PS): Prop:=∀(c:Ctx) (ρ:Lc) (σ:TL) (H:Hp) (Φ:Nat→List Nat) (r:Option T×TL),St c O ρ σ H Φ→q σ=some r→Aft c O O' R fr σ H Φ (g ρ H) r
section
variable {O O' R:List Nat} {fr:Bool}
noncomputable def ZW: PS:=fun σ=>some (none,σ)
theorem Z9: S O O R fr ZY ZW:=fun c ρ σ H Φ r s e=>by
 cases e
 exact⟨ρ,H,Φ,Nat.le_refl _,fun _ _ _=>rfl,.inl ⟨rfl,rfl,s,fun a m=>.inr m⟩⟩
noncomputable def Zs(a b:PS): PS:=fun σ=>(a σ).bind fun r=>match r.1 with
 | some _=>some r
 | none=>b r.2
theorem Zz{O1:List Nat}{a b:Sm}{p q:PS}(x:S O O1 R fr a p)(y:S O1 O' R fr b q): S O O' R fr (Zu a b) (Zs p q):=fun c ρ σ H Φ r s e=>by
 obtain⟨r1,e1,e⟩:=Zz0.mp e
 obtain⟨ρ1,H1,Φ1,h1,h2,h3⟩:=x c ρ σ H Φ r1 s e1
 rcases h3 with⟨k1,k2,k3,k4⟩ | ⟨t,v,F,k1,k2,k3⟩
 ·rw[k1]at e
  obtain⟨ρ2,H2,Φ2,g1,g2,g3⟩:=y c ρ1 r1.2 H1 Φ1 r k3 e
  refine⟨ρ2,H2,Φ2,Nat.le_trans h1 g1,fun a ha hn=>?_,?_⟩
  ·rw[g2 a (by omega) fun q=>(k4 a q).elim (fun q=>by omega) hn,h2 a ha hn]
  ·have eg:Zu a b ρ H=b ρ1 H1:=by simp only[Zu,k2,Option.bind_some]
   rw[eg]
   rcases g3 with⟨l1,l2,l3,l4⟩ | l
   ·refine .inl ⟨l1,l2,l3,fun a m=>?_⟩
    rcases l4 a m with q | q
    ·exact .inl (by omega)
    ·exact k4 a q
   ·exact .inr l
 ·rw[k1]at e
  cases e
  exact⟨ρ1,H1,Φ1,h1,h2,.inr ⟨t,v,F,k1,by simp only[Zu,k2,Option.bind_some],k3⟩⟩
noncomputable def ZF(p:PE): PS:=fun σ=>(p σ).map fun t=>(some t,σ)
theorem ZQ{N:List Nat}{u:Bool}{e:Ex}{p:PE}(x:E O N u e p)(hR:∀i∈R,i∈O:=by decide): S O O' R false (ZE e) (ZF p):=fun c ρ σ H Φ r s q=>by
 obtain⟨t,h1,h⟩:=Zz1.mp q
 subst h
 obtain⟨v,X,F,a1,a2,a3,a4⟩:=x c ρ σ H Φ t s h1
 refine⟨ρ,H++X,Φ,by simp,fun a ha _=>List.getElem?_append_left ha,.inr ⟨t,v,F,rfl,by simp only[ZE,a1,Option.map_some],a2,(s.ext X).less hR,fun a m=>s.from_src (a3 a m),by simp⟩⟩
theorem Zap{N:List Nat}{e:Ex}{p:PE}(x:E O N true e p)(hN:∀i∈N,i∈O:=by decide)(hR:∀i∈R,i∈O:=by decide): S O O' R fr (ZE e) (ZF p):=fun c ρ σ H Φ r s q=>by
 obtain⟨t,h1,h⟩:=Zz1.mp q
 subst h
 obtain⟨v,X,F,a1,a2,a3,a4⟩:=x c ρ σ H Φ t s h1
 refine⟨ρ,H++X,Φ,by simp,fun a ha _=>List.getElem?_append_left ha,.inr ⟨t,v,F,rfl,by simp only[ZE,a1,Option.map_some],a2,(s.ext X).less hR,fun a m=>s.from_src (a3 a m),fun _=>⟨a4 rfl,fun a m=>?_⟩⟩⟩
 rcases a3 a m with q | ⟨i,hi,⟨t',e'⟩,m'⟩
 ·exact .inl (Nat.le_trans s.len q)
 ·exact(s.own i (hN i hi) t' e').2.1 a m'
noncomputable def ZN(i:Nat)(p:PE): PS:=fun σ=>(p σ).map fun t=>(none,Z8 σ i t)
theorem Z2{N:List Nat}{u:Bool}{i:Nat}{e:Ex}{p:PE}(x:E O N u e p)(hi:i∉O':=by decide)(hN:∀j∈N,j∉O':=by decide)(hO:∀j∈O',j∈O:=by decide): S O O' R fr (ZO i e) (ZN i p):=fun c ρ σ H Φ r s q=>by
 obtain⟨t,h1,h⟩:=Zz1.mp q
 subst h
 obtain⟨v,X,F,a1,a2,a3,a4⟩:=x c ρ σ H Φ t s h1
 have s':=s.less hO
 refine⟨upd ρ i v,H++X,Zam Φ i F,by simp,fun a ha _=>List.getElem?_append_left ha,.inl ⟨rfl,by simp only[ZO,a1,Option.map_some],(s'.ext X).put hi a2 (fun a m=>s.from_src (a3 a m)) (fun k hk t' e' a m q=>?_),fun a m=>?_⟩⟩
 ·exact s'.from_off hN (a3 a q) hk e' m
 ·obtain⟨k,hk,⟨t',e'⟩,m⟩:=m
  have:k≠i:=fun q=>hi (q▸hk)
  simp[Z8,this]at e'
  simp[Zam,this]at m
  exact .inr ⟨k,hO k hk,⟨t',e'⟩,m⟩
theorem Zb7{i:Nat}{e:Ex}{p:PE}(x:E O [] true e p)(hO:∀j∈O',j∈O∨j=i:=by decide): S O O' R fr (ZO i e) (ZN i p):=fun c ρ σ H Φ r s q=>by
 obtain⟨t,h1,h⟩:=Zz1.mp q
 subst h
 obtain⟨v,X,F,a1,a2,a3,a4⟩:=x c ρ σ H Φ t s h1
 have hnew:∀a∈F,H.length≤a:=fun a m=>(a3 a m).nil
 have hold:∀k t',σ k=some t'→∀a∈Φ k,a<H.length:=fun k t' e a m=>by
  obtain⟨_,_,r⟩:=s.slot k t' e
  exact r.lt a m
 refine⟨upd ρ i v,H++X,Zam Φ i F,by simp,fun a ha _=>List.getElem?_append_left ha,.inl ⟨rfl,by simp only[ZO,a1,Option.map_some],⟨fun k t' e'=>?_,fun k t' e'=>?_,fun k hk t' e'=>?_,(s.ext X).len,(s.ext X).keep,s.pos,s.f0⟩,fun a m=>?_⟩⟩
 ·by_cases q:k=i
  ·subst q
   simp[Z8]at e'
   subst e'
   exact⟨v,by simp[upd],by simpa [Zam]using a2⟩
  ·simp[Z8,q]at e'
   simpa [upd,Zam,q]using (s.ext X).slot k t' e'
 ·by_cases q:k=i
  ·subst q;simpa [Zam]using fun a m=>s.from_src (a3 a m)
  ·simp[Z8,q]at e'
   simpa [Zam,q]using s.src k t' e'
 ·by_cases q:k=i
  ·subst q
   simp only[Zam,if_true]
   refine⟨a4 rfl,fun a m=>.inl (Nat.le_trans s.len (hnew a m)),fun j w hj ej a m q=>?_⟩
   simp[Z8,hj]at ej
   rw[if_neg hj]at q
   have:=hold j w ej a q
   have:=hnew a m
   omega
  ·have hk':=(hO k hk).resolve_right q
   simp[Z8,q]at e'
   obtain⟨o1,o2,o3⟩:=s.own k hk' t' e'
   refine⟨by simpa [Zam,q]using o1,by simpa [Zam,q]using o2,fun j w hj ej a m=>?_⟩
   simp[Zam,q]at m
   by_cases q2:j=i
   ·subst q2
    simp only[Zam,if_true]
    intro m2
    have:=hold k t' e' a m
    have:=hnew a m2
    omega
   ·simp[Z8,q2]at ej
    simpa [Zam,q2]using o3 j w hj ej a m
 ·obtain⟨k,hk,⟨t',e'⟩,m⟩:=m
  by_cases q:k=i
  ·subst q
   simp[Zam]at m
   exact .inl (hnew a m)
  ·simp[Z8,q]at e'
   simp[Zam,q]at m
   exact .inr ⟨k,(hO k hk).resolve_right q,⟨t',e'⟩,m⟩
noncomputable def ZT(b:PB)(p q:PS): PS:=fun σ=>(b σ).bind fun x=>if x then p σ else q σ
theorem Aft.grow{c:Ctx}{σ:TL}{H X:Hp}{Φ:Nat→List Nat}{g:Option (Option V×Lc×Hp)}{r:Option T×TL}(h:Aft c O O' R fr σ (H++X) Φ g r): Aft c O O' R fr σ H Φ g r:=by
 obtain⟨ρ',H',Φ',h1,h2,h3⟩:=h
 rw[List.length_append]at h1
 refine⟨ρ',H',Φ',by omega,fun a ha hn=>?_,?_⟩
 ·rw[h2 a (by rw[List.length_append];omega) hn,List.getElem?_append_left ha]
 ·rcases h3 with⟨k1,k2,k3,k4⟩ | k
  ·exact .inl ⟨k1,k2,k3,fun a m=>(k4 a m).imp (fun q=>by rw[List.length_append]at q;omega) id⟩
  ·exact .inr k
theorem Z6{t:Ts}{pb:PB}{a b:Sm}{p q:PS}(z:Bt O t pb)(x:S O O' R fr a p)(y:S O O' R fr b q): S O O' R fr (ZP t a b) (ZT pb p q):=fun c ρ σ H Φ r s e=>by
 obtain⟨bb,e1,e⟩:=Zz0.mp e
 obtain⟨X,h1⟩:=z c ρ σ H Φ bb s e1
 cases bb with
 | true=>
  have:=x c ρ σ (H++X) Φ r (s.ext X) (by simpa using e)
  have eg:ZP t a b ρ H=a ρ (H++X):=by simp[ZP,h1]
  rw[eg]
  exact this.grow
 | false=>
  have:=y c ρ σ (H++X) Φ r (s.ext X) (by simpa using e)
  have eg:ZP t a b ρ H=b ρ (H++X):=by simp[ZP,h1]
  rw[eg]
  exact this.grow
noncomputable def qNo: PS:=fun _=>none
noncomputable def sNo: Sm:=fun _ _=>none
theorem ZzK{g:Sm}: S O O' R fr g qNo:=fun c ρ σ H Φ r s q=>by cases q
noncomputable def follow(H:Hp): List Int→V→Option V
 | [],v=>some v
 | k::ks,v=>(Zv v (.int k) H).bind fun q=>follow H ks q.1
theorem Lead.follow{H:Hp}{ks:List Int}{v:V}{a:Nat}(l:Lead H ks v a): follow H ks v=some (.ref a):=by
 induction l with
 | nil=>rfl
 | ref h1 h2 h3 _ ih=>simp only[TM.follow,Zv,h1,Option.bind_some,h2,h3,Option.map_some,ih]
 | tup h2 h3 _ ih=>simp only[TM.follow,Zv,Option.bind_some,h2,h3,Option.map_some,ih]
theorem Znb{H:Hp}{v w z:V}{K:Hp}(h:Zv v z H=some (w,K))(X:Hp): K=H∧Zv v z (H++X)=some (w,H++X):=by
 unfold Zv at h
 split at h
 ·obtain⟨vs,e1,h⟩:=Zz0.mp h
  obtain⟨j,e2,h⟩:=Zz0.mp h
  obtain⟨x,e3,h⟩:=Zz1.mp h
  cases h
  exact⟨rfl,by simp only[Zv,List.getElem?_append_left (Zz6.mp e1).1,e1,Option.bind_some,e2,e3,Option.map_some]⟩
 ·obtain⟨j,e2,h⟩:=Zz0.mp h
  obtain⟨x,e3,h⟩:=Zz1.mp h
  cases h
  exact⟨rfl,by simp only[Zv,Option.bind_some,e2,e3,Option.map_some]⟩
 ·cases h
theorem ZpL{H:Hp}{k:Int}: ∀{ks:List Int} {v:V},follow H (ks++[k]) v=(follow H ks v).bind fun w=>(Zv w (.int k) H).map (·.1)
 | [],v=>by
  simp only[List.nil_append,follow,Option.bind_some]
  cases Zv v (.int k) H <;> rfl
 | j::ks,v=>by
  simp only[List.cons_append,follow]
  cases Zv v (.int j) H with
  | none=>rfl
  | some q=>simp only[Option.bind_some];exact ZpL
noncomputable abbrev PPa:=TL→Option (List Int)
noncomputable def ZaP: PPa:=fun _=>some []
noncomputable def Zeq(p:PPa)(i:PE): PPa:=fun σ=>(p σ).bind fun ks=>(i σ).bind fun t=>match t with
 | .int k=>some (ks++[k])
 | _=>none
def Pa(O:List Nat)(x:Nat)(e:Ex)(p:PPa): Prop:=∀(c:Ctx) (ρ:Lc) (σ:TL) (H:Hp) (Φ:Nat→List Nat) (ks:List Int) (v w:V),St c O ρ σ H Φ→p σ=some ks→ρ x=some v→follow H ks v=some w→∃X,e ρ H=some (w,H++X)
theorem ZbS{x:Nat}: Pa O x (Zb x) ZaP:=fun c ρ σ H Φ ks v w s h e f=>by
 cases h;cases f
 exact⟨[],by simp[Zb,e]⟩
theorem Zht{x:Nat}{N:List Nat}{u:Bool}{e i:Ex}{p:PPa}{pi:PE}(y:Pa O x e p)(z:E O N u i pi): Pa O x (Zh Zv e i) (Zeq p pi):=fun c ρ σ H Φ ks v w s h ev f=>by
 obtain⟨ks0,h1,h⟩:=Zz0.mp h
 obtain⟨t,h2,h⟩:=Zz0.mp h
 cases t <;> first | (cases h;done) | skip
 rename_i k
 cases h
 rw[ZpL]at f
 obtain⟨w0,f1,f⟩:=Zz0.mp f
 obtain⟨⟨w1,K⟩,f2,f⟩:=Zz1.mp f
 cases f
 obtain⟨X,a1⟩:=y c ρ σ H Φ ks0 v w0 s h1 ev f1
 obtain⟨vi,Y,F,b1,b2,b3,b4⟩:=z c ρ σ (H++X) Φ _ (s.ext X) h2
 cases b2
 refine⟨X++Y,?_⟩
 simp only[Zh,a1,Option.bind_some,b1]
 have:=(Znb f2 (X++Y)).2
 rw[List.append_assoc]
 exact this
theorem Zr2{c:Ctx}{ρ:Lc}{σ:TL}{H:Hp}{Φ:Nat→List Nat}{N:List Nat}{x a b:Nat}{t t':T}{v:V}{Fw F':List Nat}{vs':List V}(s:St c O ρ σ H Φ)(hx:x∈O)(ex:σ x=some t)(ev:ρ x=some v)(hb:c.H0.length≤b)(hlow:∀k t,σ k=some t→∀a∈Φ k,a<b)
  (hFw:∀a∈Fw,b≤a∨∃j∈N,(∃t,σ j=some t)∧a∈Φ j) (hN:∀j∈N,j∈O∧j≠x) (ha:a∈Φ x) (r:RF (H.set a vs') v t' F') (nd:F'.Nodup) (sub:∀y∈F',y∈Φ x∨y∈Fw) (hO:∀j∈O',j∈O∧j∉N):
  St c O' ρ (ZcO (Z8 σ x t') N) (H.set a vs') (Zam Φ x F')∧(∀y,Zc0 O' (ZcO (Z8 σ x t') N) (Zam Φ x F') y→b≤y∨Zc0 O σ Φ y):=by
 obtain⟨o1,o2,o3⟩:=s.own x hx t ex
 have old:∀k u,k≠x→ZcO (Z8 σ x t') N k=some u→σ k=some u∧k∉N:=fun k u hk e=>by
  unfold ZcO at e
  split at e
  ·cases e
  ·rename_i hn
   simp[Z8,hk]at e
   exact⟨e,hn⟩
 have self:∀u,ZcO (Z8 σ x t') N x=some u→u=t':=fun u e=>by
  unfold ZcO at e
  split at e
  ·cases e
  ·simp[Z8]at e;exact e.symm
 have foff:∀y∈F',∀k u,k≠x→σ k=some u→k∉N→y∉Φ k:=fun y hy k u hk e hkn m=>by
  rcases sub y hy with q | q
  ·exact o3 k u hk e y q m
  ·rcases hFw y q with q | ⟨j,hj,⟨tj,ej⟩,mj⟩
   ·have:=hlow k u e y m;omega
   ·exact(s.own j (hN j hj).1 tj ej).2.2 k u (fun q=>hkn (q▸hj)) e y mj m
 refine⟨⟨fun k u e=>?_,fun k u e=>?_,fun k hk u e=>?_,by simpa using s.len,fun y hy hn=>?_,s.pos,s.f0⟩,fun y hy=>?_⟩
 ·by_cases q:k=x
  ·subst q
   have:=self u e
   subst this
   exact⟨v,ev,by simpa [Zam]using r⟩
  ·obtain⟨e1,e2⟩:=old k u q e
   obtain⟨w,h1,h2⟩:=s.slot k u e1
   refine⟨w,h1,?_⟩
   simp only[Zam,q,if_false]
   refine h2.frame fun y hy=>List.getElem?_set_ne fun q'=>?_
   exact o3 k u q e1 a ha (q'▸hy)
 ·by_cases q:k=x
  ·subst q
   simp only[Zam,if_true]
   intro y hy
   rcases sub y hy with q | q
   ·exact s.src k t ex y q
   ·rcases hFw y q with q | ⟨j,hj,⟨tj,ej⟩,mj⟩
    ·exact .inl (by omega)
    ·exact s.src j tj ej y mj
  ·obtain⟨e1,e2⟩:=old k u q e
   simpa [Zam,q]using s.src k u e1
 ·by_cases q:k=x
  ·subst q
   simp only[Zam,if_true]
   refine⟨nd,fun y hy=>?_,fun j w hj ej y hy=>?_⟩
   ·rcases sub y hy with q | q
    ·exact o2 y q
    ·rcases hFw y q with q | ⟨j,hj,⟨tj,ej⟩,mj⟩
     ·exact .inl (by omega)
     ·exact(s.own j (hN j hj).1 tj ej).2.1 y mj
   ·obtain⟨e1,e2⟩:=old j w hj ej
    simpa [hj]using foff y hy j w hj e1 e2
  ·obtain⟨e1,e2⟩:=old k u q e
   obtain⟨p1,p2,p3⟩:=s.own k (hO k hk).1 u e1
   simp only[Zam,q,if_false]
   refine⟨p1,p2,fun j w hj ej y hy=>?_⟩
   by_cases q2:j=x
   ·subst q2
    simp only[if_true]
    exact fun m=>foff y m k u q e1 e2 hy
   ·obtain⟨f1,f2⟩:=old j w q2 ej
    simpa [q2]using p3 j w hj f1 y hy
 ·have:a≠y:=fun q=>by
   subst q
   rcases o2 a ha with q | q
   ·omega
   ·exact hn q
  rw[List.getElem?_set_ne this]
  exact s.keep y hy hn
 ·obtain⟨k,hk,⟨u,e⟩,m⟩:=hy
  by_cases q:k=x
  ·subst q
   simp only[Zam,if_true]at m
   rcases sub y m with q | q
   ·exact .inr ⟨k,hx,⟨t,ex⟩,q⟩
   ·rcases hFw y q with q | ⟨j,hj,q⟩
    ·exact .inl q
    ·exact .inr ⟨j,(hN j hj).1,q⟩
  ·obtain⟨e1,e2⟩:=old k u q e
   simp only[Zam,q,if_false]at m
   exact .inr ⟨k,(hO k hk).1,⟨u,e1⟩,m⟩
theorem Zog{c:Ctx}{ρ:Lc}{σ:TL}{H:Hp}{Φ:Nat→List Nat}{x a:Nat}{t:T}(s:St c O ρ σ H Φ)(hx:x∈O)(ex:σ x=some t)(ha:a∈Φ x): a≠0:=by
 have:=s.pos
 rcases(s.own x hx t ex).2.1 a ha with q | q
 ·omega
 ·exact fun e=>s.f0 (e▸q)
noncomputable def Zke(w:T)(ts:List T): Option (List T):=if ts.length<LEN then some (ts++[w])else none
noncomputable def Zkf(k:Int)(w:T)(ts:List T): Option (List T):=if 0≤k∧k<ts.length then some (ts.set k.toNat w)else none
noncomputable def Zd9(x:Nat)(N:List Nat)(po:PPa)(p:PE): PS:=fun σ=>(po σ).bind fun ks=>(p σ).bind fun w=>(σ x).bind fun t=>(Zd5 (Zke w) ks t).map fun t'=>(none,ZcO (Z8 σ x t') N)
noncomputable def Zbq(x:Nat)(N:List Nat)(p:PE)(po:PPa)(pi:PE): PS:=fun σ=>(p σ).bind fun w=>(po σ).bind fun ks=>(pi σ).bind fun k=>match k with
 | .int k=>(σ x).bind fun t=>(Zd5 (Zkf k w) ks t).map fun t'=>(none,ZcO (Z8 σ x t') N)
 | _=>none
theorem ZgJ{H:Hp}(X:Hp): ∀{ks:List Int} {v w:V},follow H ks v=some w→follow (H++X) ks v=some w
 | [],_,_,h=>h
 | k::ks,v,w,h=>by
  obtain⟨⟨w1,K⟩,h1,h2⟩:=Zz0.mp h
  simp only[follow,(Znb h1 X).2,Option.bind_some]
  exact ZgJ X h2
theorem Zj1{x:Nat}{N:List Nat}{o e:Ex}{po:PPa}{p:PE}(hx:x∈O)(y:Pa O x o po)(z:E O N true e p)(hN:∀j∈N,j∈O∧j≠x)(hO:∀j∈O',j∈O∧j∉N): S O O' R fr (Zca (Ze4 o e)) (Zd9 x N po p):=fun c ρ σ H Φ r s q=>by
 obtain⟨ks,h1,q⟩:=Zz0.mp q
 obtain⟨w,h2,q⟩:=Zz0.mp q
 obtain⟨t,h3,q⟩:=Zz0.mp q
 obtain⟨t',h4,q⟩:=Zz1.mp q
 subst q
 obtain⟨v,ev,rv⟩:=s.slot x t h3
 have hlow:∀k t,σ k=some t→∀a∈Φ k,a<H.length:=fun k t e a m=>by
  obtain⟨_,_,r⟩:=s.slot k t e
  exact r.lt a m
 obtain⟨o1,o2,o3⟩:=s.own x hx t h3
 obtain⟨a,vs0,ts0,ts0',G0,l0,_⟩:=Zf8 (Gn:=[]) ks rv o1 (by simp) h4
 obtain⟨X,a1⟩:=y c ρ σ H Φ ks v (.ref a) s h1 ev l0.follow
 obtain⟨vw,Y,Fw,b1,b2,b3,b4⟩:=z c ρ σ (H++X) Φ w (s.ext X) h2
 have s2:=(s.ext X).ext Y
 have rv2:RF (H++X++Y) v t (Φ x):=(rv.ext X).ext Y
 have hFw:∀a∈Fw,H.length≤a∨∃j∈N,(∃t,σ j=some t)∧a∈Φ j:=fun a m=>(b3 a m).back
 have dsj:∀a∈Fw,a∉Φ x:=fun a m q=>by
  rcases hFw a m with h | ⟨j,hj,⟨tj,ej⟩,mj⟩
  ·have:=hlow x t h3 a q;omega
  ·exact o3 j tj (hN j hj).2 ej a q mj
 obtain⟨a',vs,ts,ts',G,l,am,ea,hs,hf,gn,na,gs,go⟩:=Zf8 (Gn:=Fw) ks rv2 o1 dsj h4
 have haa:a'=a:=by
  have f2:=ZgJ Y (ZgJ X l0.follow)
  rw[l.follow]at f2
  cases f2
  rfl
 subst haa
 unfold Zke at hf
 split at hf
 ·rename_i hl
  cases hf
  obtain⟨F',r',n',sub'⟩:=go (vs++[vw]) (G++Fw) (hs.snoc b2) (by
   rw[List.nodup_append]
   exact⟨gn,b4 rfl,fun y hy z hz e=>dsj z hz (e▸gs y hy)⟩) (fun m=>(Zz8.mp m).elim na fun m=>dsj _ m am) (fun y m=>List.mem_append.mp m)
  obtain⟨st,com⟩:=Zr2 (O':=O') (b:=H.length) s2 hx h3 ev s.len hlow hFw hN am r' n' sub' hO
  refine⟨ρ,(H++X++Y).set a' (vs++[vw]),Zam Φ x F',by simp,fun y hy hn=>?_,.inl ⟨rfl,?_,st,com⟩⟩
  ·have:a'≠y:=fun q=>hn ⟨x,hx,⟨t,h3⟩,q▸am⟩
   rw[List.getElem?_set_ne this,List.append_assoc,List.getElem?_append_left hy]
  ·simp only[Zca,Ze4,a1,Option.bind_some,b1,Zhf,ea]
   rw[if_pos ⟨Zog s hx h3 am,by rw[hs.length];exact hl⟩]
   rfl
 ·cases hf
theorem S.put{x:Nat}{N M:List Nat}{u:Bool}{o e i:Ex}{po:PPa}{p pi:PE}(hx:x∈O)(z:E O N true e p)(y:Pa O x o po)(zi:E O M u i pi)(hN:∀j∈N,j∈O∧j≠x)(hO:∀j∈O',j∈O∧j∉N): S O O' R fr (ZbV e o i) (Zbq x N p po pi):=fun c ρ σ H Φ r s q=>by
 obtain⟨w,h2,q⟩:=Zz0.mp q
 obtain⟨ks,h1,q⟩:=Zz0.mp q
 obtain⟨tk,h5,q⟩:=Zz0.mp q
 cases tk <;> first | (cases q;done) | skip
 rename_i k
 obtain⟨t,h3,q⟩:=Zz0.mp q
 obtain⟨t',h4,q⟩:=Zz1.mp q
 subst q
 obtain⟨v,ev,rv⟩:=s.slot x t h3
 have hlow:∀k t,σ k=some t→∀a∈Φ k,a<H.length:=fun k t e a m=>by
  obtain⟨_,_,r⟩:=s.slot k t e
  exact r.lt a m
 obtain⟨o1,o2,o3⟩:=s.own x hx t h3
 obtain⟨vw,X,Fw,b1,b2,b3,b4⟩:=z c ρ σ H Φ w s h2
 obtain⟨a,vs0,ts0,ts0',G0,l0,_⟩:=Zf8 (Gn:=[]) ks (rv.ext X) o1 (by simp) h4
 obtain⟨Y,a1⟩:=y c ρ σ (H++X) Φ ks v (.ref a) (s.ext X) h1 ev l0.follow
 obtain⟨vk,Z,Fk,d1,d2,d3,d4⟩:=zi c ρ σ (H++X++Y) Φ _ ((s.ext X).ext Y) h5
 cases d2
 have s2:=((s.ext X).ext Y).ext Z
 have rv2:RF (H++X++Y++Z) v t (Φ x):=((rv.ext X).ext Y).ext Z
 have hFw:∀a∈Fw,H.length≤a∨∃j∈N,(∃t,σ j=some t)∧a∈Φ j:=b3
 have dsj:∀a∈Fw,a∉Φ x:=fun a m q=>by
  rcases hFw a m with h | ⟨j,hj,⟨tj,ej⟩,mj⟩
  ·have:=hlow x t h3 a q;omega
  ·exact o3 j tj (hN j hj).2 ej a q mj
 obtain⟨a',vs,ts,ts',G,l,am,ea,hs,hf,gn,na,gs,go⟩:=Zf8 (Gn:=Fw) ks rv2 o1 dsj h4
 have haa:a'=a:=by
  have f2:=ZgJ Z (ZgJ Y l0.follow)
  rw[l.follow]at f2
  cases f2
  rfl
 subst haa
 unfold Zkf at hf
 split at hf
 ·rename_i hl
  cases hf
  have hk:k.toNat<ts.length:=by omega
  obtain⟨v0,Gk,F1,F2,e0,r0,eG,rb⟩:=hs.split (List.getElem?_eq_getElem hk)
  have b2':RF (H++X++Y++Z) vw w Fw:=(b2.ext Y).ext Z
  have rs:=rb (H++X++Y++Z) vw w Fw b2' (fun _ _=>rfl) (fun _ _=>rfl)
  have sub0:∀a∈Fw,a∈Gk∨a∈Fw:=fun a m=>.inr m
  subst eG
  obtain⟨F',r',n',sub'⟩:=go _ _ rs (nd3 gn (b4 rfl) sub0 fun a m q=>dsj a m (gs a q)) (fun m=>by
   rcases in3 (G:=Gk) sub0 _ m with m | m
   ·exact na m
   ·exact dsj _ m am) (in3 sub0)
  obtain⟨st,com⟩:=Zr2 (O':=O') (b:=H.length) s2 hx h3 ev s.len hlow hFw hN am r' n' sub' hO
  refine⟨ρ,(H++X++Y++Z).set a' (vs.set k.toNat vw),Zam Φ x F',by simp,fun y hy hn=>?_,.inl ⟨rfl,?_,st,com⟩⟩
  ·have:a'≠y:=fun q=>hn ⟨x,hx,⟨t,h3⟩,q▸am⟩
   rw[List.getElem?_set_ne this,List.append_assoc,List.append_assoc,List.getElem?_append_left hy]
  ·simp only[ZbV,b1,Option.bind_some,a1,d1,Zpa,ea]
   rw[if_pos ⟨Zog s hx h3 am,by rw[hs.length];exact hl⟩]
   rfl
 ·cases hf
noncomputable def Zfr(put:T→TL→Option TL)(b:PS): TL→List T→Option (Option T×TL)
 | σ,[]=>some (none,σ)
 | σ,t::ts=>(put t σ).bind fun σ1=>(b σ1).bind fun r=>match r.1 with
  | some _=>some r
  | none=>Zfr put b r.2 ts
noncomputable def Za3(g:PG)(put:T→TL→Option TL)(b:PS): PS:=fun σ=>(g σ).bind fun ts=>Zfr put b σ ts
theorem ZnK{J:List Nat}{put:V→Lc→Option Lc}{pput:T→TL→Option TL}{b:Sm}{qb:PS}(hj:PutOk O J put pput)(hJ:∀i∈J,i∉O)(hb:S O O R fr b qb){c:Ctx}{nx:Nx}{vs:List V}{G:List Nat}{H1:Hp}(hG:∀a∈G,a<H1.length)(hsrc:∀a∈G,c.H0.length≤a∨c.P a)(hnx:∀K:Hp,(∀a∈G,K[a]?=H1[a]?)→∀i,i≤vs.length→nx i K=some vs[i]?):
  ∀(rs:List T) (ws:List V) (i:Nat) (ρ:Lc) (σ:TL) (K:Hp) (Φ:Nat→List Nat) (Fr:List Nat) (r:Option T×TL),(∀j,vs[i+j]?=ws[j]?)→i+ws.length=vs.length→St c O ρ σ K Φ→H1.length≤K.length→(∀a∈G,K[a]?=H1[a]?)→(∀a∈G,¬Zc0 O σ Φ a)→RFs K ws rs Fr→(∀a∈Fr,a∈G)→Zfr pput qb σ rs=some r →
   Aft c O O R fr σ K Φ (Zdl nx put b (rs.length+1) i ρ K) r
 | [],ws,i,ρ,σ,K,Φ,Fr,r,hat,hlen,s,hl,hk,hoff,rr,hfr,h=>by
  cases rr
  cases h
  have e:=hnx K hk i (by simp at hlen;omega)
  have e2:vs[i]?=none:=by have:=hat 0;simpa using this
  exact⟨ρ,K,Φ,Nat.le_refl _,fun _ _ _=>rfl,.inl ⟨rfl,by simp[Zdl,e,e2],s,fun a m=>.inr m⟩⟩
 | t::rs,ws0,i,ρ,σ,K,Φ,Fr0,r,hat,hlen,s,hl,hk,hoff,rr,hfr,h=>by
  cases rr with
  | @cons v _ F1 ws _ F2 a b'=>
  simp only[List.length_cons]at hlen
  obtain⟨σ1,h1,h⟩:=Zz0.mp h
  obtain⟨r1,h2,h⟩:=Zz0.mp h
  have e:=hnx K hk i (by omega)
  have e2:vs[i]?=some v:=by have:=hat 0;simpa using this
  have hat':∀j,vs[i+1+j]?=ws[j]?:=fun j=>by have:=hat (j+1);rw[show i+1+j=i+(j+1)by omega,this];simp
  obtain⟨ρ1,Φ1,p1,s1,p3,p4⟩:=hj c ρ σ K Φ v t F1 σ1 s a (fun x m=>hsrc x (hfr x (Zz4 _ m))) (fun k hk t' e x m q=>hoff x (hfr x (Zz4 _ q)) ⟨k,hk,⟨t',e⟩,m⟩) h1
  have hh:∀x,Zc0 O σ1 Φ1 x→Zc0 O σ Φ x:=fun x ⟨k,hk,⟨t',e⟩,m⟩=>by
   obtain⟨q1,q2⟩:=p3 k fun q=>hJ k q hk
   exact⟨k,hk,⟨t',q1▸e⟩,q2▸m⟩
  obtain⟨ρ2,K2,Φ2,g1,g2,g3⟩:=hb c ρ1 σ1 K Φ1 r1 s1 h2
  have estep:Zdl nx put b ((t::rs).length+1) i ρ K=(b ρ1 K).bind fun q=>match q.1 with
    | some _=>some q
    | none=>Zdl nx put b (rs.length+1) (i+1) q.2.1 q.2.2:=by
   rw[List.length_cons]
   show(nx i K).bind _=_
   rw[e,e2]
   first | (simp only[Option.bind_some,p1];done) | (simp only[Option.bind_some,p1];rfl)
  rcases g3 with⟨k1,k2,k3,k4⟩ | ⟨t',v',F',k1,k2,k3⟩
  ·rw[k1]at h
   have hG2:∀a∈G,K2[a]?=K[a]?:=fun x m=>g2 x (by have:=hG x m;omega) fun q=>hoff x m (hh x q)
   have hoff2:∀a∈G,¬Zc0 O r1.2 Φ2 a:=fun x m q=>by
    rcases k4 x q with q | q
    ·have:=hG x m;omega
    ·exact hoff x m (hh x q)
   have ih:=ZnK hj hJ hb hG hsrc hnx rs ws (i+1) ρ2 r1.2 K2 Φ2 F2 r hat' (by omega) k3 (by omega) (fun x m=>(hG2 x m).trans (hk x m)) hoff2 (b'.frame fun x m=>hG2 x (hfr x (Zz3 _ m))) (fun x m=>hfr x (Zz3 _ m)) h
   rw[estep,k2]
   simp only[Option.bind_some]
   obtain⟨ρ3,K3,Φ3,l1,l2,l3⟩:=ih
   refine⟨ρ3,K3,Φ3,by omega,fun x hx hn=>?_,?_⟩
   ·rw[l2 x (by omega) fun q=>(k4 x q).elim (fun q=>by omega) fun q=>hn (hh x q),g2 x hx fun q=>hn (hh x q)]
   ·rcases l3 with⟨m1,m2,m3,m4⟩ | l
    ·refine .inl ⟨m1,m2,m3,fun x q=>?_⟩
     rcases m4 x q with q | q
     ·exact .inl (by omega)
     ·exact(k4 x q).imp id (hh x)
    ·exact .inr l
  ·rw[k1]at h
   cases h
   refine⟨ρ2,K2,Φ2,g1,fun x hx hn=>g2 x hx fun q=>hn (hh x q),.inr ⟨t',v',F',k1,?_,k3⟩⟩
   rw[estep,k2]
   rfl
theorem Zb0{J Ns:List Nat}{g:Src}{q:PG}{put:V→Lc→Option Lc}{pput:T→TL→Option TL}{b:Sm}{qb:PS}(hg:Gs O Ns g q)(hj:PutOk O J put pput)(hJ:∀i∈J,i∉O)(hN:∀i∈Ns,i∉O)(hb:S O O R fr b qb): S O O R fr (Za1 g put b) (Za3 q pput qb):=fun c ρ σ H Φ r s h=>by
 obtain⟨ts,h1,h⟩:=Zz0.mp h
 obtain⟨nx,X,vs,F,G,g1,g2,g3,g4,g5⟩:=hg c ρ σ H Φ ts s h1
 have:=ZnK hj hJ hb (H1:=H++X) (fun a m=>(g4 a m).1) (fun a m=>s.from_src (g4 a m).2) g5 ts vs 0 ρ σ (H++X) Φ F r (by simp) (by simp) (s.ext X) (Zz10 _) (fun _ _=>rfl) (fun a m ⟨k,hk,⟨t,e⟩,q⟩=>s.from_off hN (g4 a m).2 hk e q) g2 g3 h
 have eg:Za1 g put b ρ H=Zdl nx put b (ts.length+1) 0 ρ (H++X):=by simp only[Za1,g1,Option.bind_some]
 rw[eg]
 exact this.grow
noncomputable def Zer(t:PB)(b:PS): Nat→PS
 | 0=>fun _=>none
 | n+1=>fun σ=>(t σ).bind fun p=>if p then(b σ).bind fun q=>(match q.1 with
   | some _=>some q
   | none=>Zer t b n q.2)else some (none,σ)
theorem Zoh{t:Ts}{pt:PB}{b:Sm}{qb:PS}(z:Bt O t pt)(y:S O O R fr b qb): ∀n,S O O R fr (ZdV t b n) (Zer pt qb n)
 | 0=>fun c ρ σ H Φ r s h=>by cases h
 | n+1=>fun c ρ σ H Φ r s h=>by
  obtain⟨p,h1,h⟩:=Zz0.mp h
  obtain⟨X,a1⟩:=z c ρ σ H Φ p s h1
  cases p with
  | false=>
   cases h
   exact⟨ρ,H++X,Φ,by simp,fun a ha _=>List.getElem?_append_left ha,.inl ⟨rfl,by simp[ZdV,a1],s.ext X,fun a m=>.inr m⟩⟩
  | true=>
   simp only[if_true]at h
   obtain⟨r1,h2,h⟩:=Zz0.mp h
   have b1:=(y c ρ σ (H++X) Φ r1 (s.ext X) h2).grow
   have eg:ZdV t b (n+1) ρ H=(b ρ (H++X)).bind fun q=>(match q.1 with
    | some _=>some q
    | none=>ZdV t b n q.2.1 q.2.2):=by
    show(t ρ H).bind _=_
    rw[a1]
    rfl
   rw[eg]
   obtain⟨ρ1,H1,Φ1,g1,g2,g3⟩:=b1
   rcases g3 with⟨k1,k2,k3,k4⟩ | ⟨t',v',F',k1,k2,k3⟩
   ·rw[k1]at h
    obtain⟨ρ3,K3,Φ3,l1,l2,l3⟩:=Zoh z y n c ρ1 r1.2 H1 Φ1 r k3 h
    rw[k2]
    simp only[Option.bind_some]
    refine⟨ρ3,K3,Φ3,by omega,fun x hx hn=>?_,?_⟩
    ·rw[l2 x (by omega) fun q=>(k4 x q).elim (fun q=>by omega) hn,g2 x hx hn]
    ·rcases l3 with⟨m1,m2,m3,m4⟩ | l
     ·refine .inl ⟨m1,m2,m3,fun x q=>?_⟩
      rcases m4 x q with q | q
      ·exact .inl (by omega)
      ·exact k4 x q
     ·exact .inr l
   ·rw[k1]at h
    cases h
    exact⟨ρ1,H1,Φ1,g1,g2,.inr ⟨t',v',F',k1,by rw[k2];rfl,k3⟩⟩
end
noncomputable def ZZ(n:Nat)(q:PS): List T→Option T:=fun ts=>if ts.length=n then(q fun i=>ts[i]?).map fun r=>r.1.getD .none else none
theorem RFs.slots{H:Hp}: ∀{vs:List V} {ts:List T} {F:List Nat},RFs H vs ts F→∃Φ:Nat→List Nat,∀i t,ts[i]?=some t→∃v,vs[i]?=some v∧RF H v t (Φ i)∧∀a∈Φ i,a∈F
 | _,_,_,.nil=>⟨fun _=>[],fun i t e=>by simp at e⟩
 | _,_,_,.cons (F:=F1) a b=>by
  obtain⟨Φ,h⟩:=b.slots
  refine⟨fun i=>match i with | 0=>F1 | i+1=>Φ i,fun i t e=>?_⟩
  cases i with
  | zero=>simp at e;subst e;exact⟨_,by simp,a,fun x m=>List.mem_append_left _ m⟩
  | succ i=>
   simp at e
   obtain⟨v,h1,h2,h3⟩:=h i t e
   exact⟨v,by simpa using h1,h2,fun x m=>List.mem_append_right _ (h3 x m)⟩
theorem Zp1{H H':Hp}(hl:H.length≤H'.length)(h:∀a,a<H.length→H'[a]?=H[a]?): H'=H++H'.drop H.length:=by
 conv=>lhs;rw[←List.take_append_drop H.length H']
 congr 1
 refine List.ext_getElem? fun i=>?_
 by_cases q:i<H.length
 ·rw[List.getElem?_take_of_lt q,h i q]
 ·rw[List.getElem?_eq_none (by simp;omega),List.getElem?_eq_none (by omega)]
theorem Zac{O':List Nat}{fr:Bool}{n:Nat}{g:Sm}{q:PS}(h:S [] O' [] fr g q): SimF fr (ZU n g) (ZZ n q):=fun H vs ts t F1 hp r e=>by
 unfold ZZ at e
 split at e
 ·rename_i hl
  obtain⟨r1,e1,e2⟩:=Zz1.mp e
  obtain⟨Φ,hΦ⟩:=r.slots
  have st:St ⟨H,[],fun a=>a∈F1⟩ [] (fun i=>vs[i]?) (fun i=>ts[i]?) H Φ:=
   ⟨(fun i t e=>by obtain⟨v,h1,h2,_⟩:=hΦ i t e;exact⟨v,h1,h2⟩),fun i t e a m=>(by obtain⟨v,h1,h2,h3⟩:=hΦ i t e;exact .inr (h3 a m)),(fun i hi=>nomatch hi),Nat.le_refl _,fun a _ _=>rfl,hp,by simp⟩
  obtain⟨ρ',H',Φ',h1,h2,h3⟩:=h _ _ _ _ _ _ st e1
  rcases h3 with⟨k1,k2,k3,k4⟩ | ⟨t',v',F',k1,k2,k3,k4,k5,k6⟩
  ·have eh:=Zp1 k3.len fun a ha=>k3.keep a ha (by simp)
   refine⟨.none,H'.drop H.length,[],?_,?_,by simp,by simp⟩
   ·have hv:vs.length=n:=r.length.trans hl
    simp only[ZU,hv,if_true,k2,Option.map_some,Option.getD_none]
    rw[←eh]
   ·rw[k1]at e2
    subst e2
    exact .none
  ·have eh:=Zp1 k4.len fun a ha=>k4.keep a ha (by simp)
   refine⟨v',H'.drop H.length,F',?_,?_,k5,fun hf=>⟨(k6 hf).1,fun a m=>((k6 hf).2 a m).elim id fun q=>by cases q⟩⟩
   ·have hv:vs.length=n:=r.length.trans hl
    simp only[ZU,hv,if_true,k2,Option.map_some,Option.getD_some]
    rw[←eh]
   ·rw[k1]at e2
    subst e2
    rw[←eh]
    exact k3
 ·cases e
theorem Zvi{f:List V→Hp→Option (V×Hp)}{p:List T→Option T}{fr:Bool}(h:SimF fr f p)(ns:List Int)(e:p [.lst (ns.map T.int)]=some (.bool true)): ∃H',f [.ref 0] [ns.map V.int]=some (.bool true,H'):=by
 have intsAre:∀l:List Int,RFs [ns.map V.int] (l.map V.int) (l.map T.int) []:=fun l=>by
  induction l with
  | nil=>exact .nil
  | cons a l ih=>exact .cons (.int a) ih
 obtain⟨v,X,F,h1,h2,_⟩:=h [ns.map V.int] [.ref 0] [.lst (ns.map T.int)] _ _ (by simp) (.one (.ref rfl (intsAre ns))) e
 cases h2
 exact⟨_,h1⟩
end TM
end
section
namespace TM
open PySem PM
section
variable {O Ns Ne J:List Nat}
theorem Zb4{u:Bool}{g:Src}{q:PG}{put:V→Lc→Option Lc}{pput:T→TL→Option TL}{tc:Ts}{pc:PB}{f:Ex}{pf:PE}(hg:Gs O Ns g q)(hj:PutOk O J put pput)(hN:∀i∈Ns,i∉O)(hc:Bt O tc pc)(hf:E O Ne u f pf): E O (Ns++Ne) false (Zaz g put tc f) (Zau q pput pc pf):=
 Zr1 hg hj hN hc hf.sh (by simp)
theorem Zdg{g:Src}{q:PG}{put:V→Lc→Option Lc}{pput:T→TL→Option TL}{tc:Ts}{pc:PB}{f:Ex}{pf:PE}(hg:Gs O Ns g q)(hj:PutOk O J put pput)(hN:∀i∈Ns,i∉O)(hc:Bt O tc pc)(hf:E O [] true f pf): E O [] true (Zaz g put tc f) (Zau q pput pc pf):=
 Zr1 hg hj hN hc hf (by simp)
end
end TM
end
section
/-! Forward reckoning over trees. -/
namespace TM
open PySem PM
noncomputable def dec(P:Prop): Bool:=@decide P (Classical.propDecidable P)
theorem dec_iff{P:Prop}: dec P=true↔P:=by unfold dec;exact @decide_eq_true_iff P (Classical.propDecidable P)
theorem ZaH{P:Prop}(h:P): dec P=true:=dec_iff.mpr h
theorem ZaM{P:Prop}(h:¬P): dec P=false:=by
 cases e:dec P with
 | true=>exact absurd (dec_iff.mp e) h
 | false=>rfl
theorem ZgU{P Q:Prop}(h:P↔Q): dec P=dec Q:=by
 by_cases p:P
 ·rw[ZaH p,ZaH (h.mp p)]
 ·rw[ZaM p,ZaM fun q=>p (h.mpr q)]
theorem ZjI{P:Prop}{b:Bool}(h:b=true↔P): dec P=b:=by
 cases b with
 | true=>exact ZaH (h.mp rfl)
 | false=>exact ZaM fun p=>by simpa using h.mpr p
theorem Zix{P:Prop}[i:Decidable P]: decide P=dec P:=by
 unfold dec;congr
noncomputable def tab{α:Type}(n:Nat)(f:Nat→α): List α:=(List.range n).map f
theorem Zao{α:Type}{n:Nat}{f:Nat→α}: (tab n f).length=n:=by simp[tab]
theorem Zbc{α:Type}{n:Nat}{f:Nat→α}{i:Nat}(h:i<n): (tab n f)[i]?=some (f i):=by simp[tab,h]
theorem ZoH{α:Type}{n:Nat}{f:Nat→α}{i:Nat}(h:n≤i): (tab n f)[i]?=none:=by simp[tab,h]
theorem ZdQ{α:Type}{n:Nat}{f:Nat→α}: tab n f++[f n]=tab (n+1) f:=by simp[tab,List.range_succ]
theorem Zhi{α:Type}{n:Nat}{xs:List α}{f:Nat→α}(hl:xs.length=n)(h:∀i,i<n→xs[i]?=some (f i)): xs=tab n f:=by
 refine List.ext_getElem? fun i=>?_
 by_cases q:i<n
 ·rw[h i q,Zbc q]
 ·rw[List.getElem?_eq_none (by omega),ZoH (by omega)]
theorem Zbz{α:Type}{n:Nat}{f g:Nat→α}(h:∀i,i<n→f i=g i): tab n f=tab n g:=by
 refine Zhi Zao fun i hi=>?_
 rw[Zbc hi,h i hi]
theorem Zhj{α:Type}{n k:Nat}{f:Nat→α}{v:α}: (tab n f).set k v=tab n fun i=>if i=k then v else f i:=by
 refine Zhi (by rw[List.length_set,Zao]) fun i hi=>?_
 by_cases q:i=k
 ·subst q
  rw[List.getElem?_set_self (by rw[Zao];exact hi),if_pos rfl]
 ·rw[List.getElem?_set_ne (Ne.symm q),Zbc hi,if_neg q]
theorem tab_map{α β:Type}{n:Nat}{f:Nat→α}{g:α→β}: (tab n f).map g=tab n fun i=>g (f i):=by simp[tab]
noncomputable def cn{α:Type}(a:α)(f:Nat→α): Nat→α
 | 0=>a
 | i+1=>f i
theorem Zv2{α:Type}{n:Nat}{a:α}{f:Nat→α}: a::tab n f=tab (n+1) (cn a f):=by
 refine Zhi (by rw[List.length_cons,Zao]) fun i hi=>?_
 cases i with
 | zero=>rfl
 | succ i=>rw[List.getElem?_cons_succ,Zbc (by omega)];rfl
theorem Zrl{α β γ:Type}{n m:Nat}{f:Nat→α}{g:Nat→β}{h:α→β→γ}: List.zipWith h (tab n f) (tab m g)=tab (min n m) fun i=>h (f i) (g i):=by
 refine Zhi (by rw[List.length_zipWith,Zao,Zao]) fun i hi=>?_
 rw[List.getElem?_zipWith,Zbc (show i<n by omega),Zbc (show i<m by omega)]
theorem ZwY{α:Type}{n m:Nat}{f g:Nat→α}: tab n f++tab m g=tab (n+m) fun i=>if i<n then f i else g (i-n):=by
 refine Zhi (by rw[List.length_append,Zao,Zao]) fun i hi=>?_
 by_cases q:i<n
 ·rw[List.getElem?_append_left (by rw[Zao];exact q),Zbc q,if_pos q]
 ·rw[List.getElem?_append_right (by rw[Zao];omega),Zao,Zbc (by omega),if_neg q]
def Pk(c:Option T)(Q:T→Prop): Prop:=∃t,c=some t∧Q t
def Pl(c:Option (List T))(Q:List T→Prop): Prop:=∃t,c=some t∧Q t
def Pb(c:Option Bool)(Q:Bool→Prop): Prop:=∃t,c=some t∧Q t
def Psk(c:Option (Option T×TL))(R:T→Prop)(N:TL→Prop): Prop:=∃o σ,c=some (o,σ)∧(∀t,o=some t→R t)∧(o=none→N σ)
theorem Zw{c:Option T}{Q:T→Prop}{t:T}(h:c=some t)(k:Q t): Pk c Q:=⟨t,h,k⟩
theorem Pk.eq{c:Option T}{t:T}(h:Pk c fun v=>v=t): c=some t:=by obtain⟨v,e,rfl⟩:=h;exact e
theorem Pk.mono{c:Option T}{Q Q':T→Prop}(h:Pk c Q)(k:∀t,Q t→Q' t): Pk c Q':=by obtain⟨v,e,q⟩:=h;exact⟨v,e,k v q⟩
section
variable {σ:TL} {Q:T→Prop} {L:List T→Prop} {B:Bool→Prop} {R:T→Prop} {N:TL→Prop}
theorem Zyg{k:Int}(h:Q (.int k)): Pk (Zj k σ) Q:=⟨_,rfl,h⟩
theorem Zyh(h:Q .none): Pk (Zad σ) Q:=⟨_,rfl,h⟩
theorem ZwZ{k:Bool}(h:Q (.bool k)): Pk (ZbI k σ) Q:=⟨_,rfl,h⟩
theorem Zyi{k:Str}(h:Q (.str k)): Pk (ZbM k σ) Q:=⟨_,rfl,h⟩
theorem Zyj{i:Nat}{t:T}(e:σ i=some t)(h:Q t): Pk (Za i σ) Q:=⟨_,e,h⟩
theorem Zyk{q:T→T→Option T}{f g:PE}(h:Pk (f σ) fun x=>Pk (g σ) fun y=>Pk (q x y) Q): Pk (Zg q f g σ) Q:=by
 obtain⟨x,a,y,b,z,c,k⟩:=h
 exact⟨z,by simp only[Zg,a,b,Option.bind_some,c],k⟩
theorem Zzg{q:T→Option T}{f:PE}(h:Pk (f σ) fun x=>Pk (q x) Q): Pk (pUn q f σ) Q:=by
 obtain⟨x,a,z,c,k⟩:=h
 exact⟨z,by simp only[pUn,a,Option.bind_some,c],k⟩
theorem Zw0{q:List T→Option T}{f:PEs}(h:Pl (f σ) fun x=>Pk (q x) Q): Pk (Zq q f σ) Q:=by
 obtain⟨x,a,z,c,k⟩:=h
 exact⟨z,by simp only[Zq,a,Option.bind_some,c],k⟩
theorem Zyl(h:L []): Pl (Zl σ) L:=⟨_,rfl,h⟩
theorem Zw1{f:PE}{g:PEs}(h:Pk (f σ) fun x=>Pl (g σ) fun xs=>L (x::xs)): Pl (Zd f g σ) L:=by
 obtain⟨x,a,y,b,k⟩:=h
 exact⟨_,by simp only[Zd,a,b,Option.bind_some],k⟩
theorem Zym{g:PEs}(h:Pl (g σ) fun xs=>Q (.tup xs)): Pk (Zav g σ) Q:=by
 obtain⟨x,a,k⟩:=h;exact⟨_,by simp only[Zav,a,Option.map_some],k⟩
theorem Zw2{g:PEs}(h:Pl (g σ) fun xs=>Q (.lst xs)): Pk (Za6 g σ) Q:=by
 obtain⟨x,a,k⟩:=h;exact⟨_,by simp only[Za6,a,Option.map_some],k⟩
theorem Zw3{f:PE}(h:Pk (f σ) fun t=>t.flat=true∧Q t): Pk (ZbZ f σ) Q:=by
 obtain⟨x,a,b,k⟩:=h;exact⟨_,by simp only[ZbZ,a,Option.bind_some,b,if_true],k⟩
theorem Zzh{f:PE}(h:Pk (f σ) fun t=>t.flatIn=true∧Q t): Pk (pFl f σ) Q:=by
 obtain⟨x,a,b,k⟩:=h;exact⟨_,by simp only[pFl,a,Option.bind_some,b,if_true],k⟩
theorem Zzi{b:PB}{f g:PE}(h:Pb (b σ) fun x=>(x=true→Pk (f σ) Q)∧(x=false→Pk (g σ) Q)): Pk (pIf b f g σ) Q:=by
 obtain⟨x,a,h1,h2⟩:=h
 cases x with
 | true=>obtain⟨t,c,q⟩:=h1 rfl;exact⟨t,by simp[pIf,a,c],q⟩
 | false=>obtain⟨t,c,q⟩:=h2 rfl;exact⟨t,by simp[pIf,a,c],q⟩
theorem Zyn{f:PE}(h:Pk (f σ) fun x=>Pb (ZbR x) fun b=>Q (.bool (!b))): Pk (Zkb f σ) Q:=by
 obtain⟨x,a,b,e,q⟩:=h;exact⟨_,by simp only[Zkb,a,Option.bind_some,e,Option.map_some],q⟩
theorem Zyo{f g:PE}(h:Pk (f σ) fun x=>Pb (ZbR x) fun b=>(b=true→Pk (g σ) Q)∧(b=false→Q x)): Pk (ZcY f g σ) Q:=by
 obtain⟨x,a,b,e,h1,h2⟩:=h
 cases b with
 | true=>obtain⟨t,c,q⟩:=h1 rfl;exact⟨t,by simp[ZcY,a,e,c],q⟩
 | false=>exact⟨x,by simp[ZcY,a,e],h2 rfl⟩
theorem Zzj{f g:PE}(h:Pk (f σ) fun x=>Pb (ZbR x) fun b=>(b=true→Q x)∧(b=false→Pk (g σ) Q)): Pk (pOr f g σ) Q:=by
 obtain⟨x,a,b,e,h1,h2⟩:=h
 cases b with
 | false=>obtain⟨t,c,q⟩:=h2 rfl;exact⟨t,by simp[pOr,a,e,c],q⟩
 | true=>exact⟨x,by simp[pOr,a,e],h1 rfl⟩
theorem Zzk{K:String}{f:PE}(h:Pk (f σ) fun x=>Q (.bool (Zjh K x))): Pk (pIs K f σ) Q:=by
 obtain⟨x,a,q⟩:=h;exact⟨_,by simp only[pIs,a,Option.map_some],q⟩
theorem Zyp{f:PE}(h:Pk (f σ) fun x=>Pb (ZbR x) B): Pb (ZK f σ) B:=by
 obtain⟨x,a,b,e,q⟩:=h;exact⟨_,by simp only[ZK,a,Option.bind_some,e],q⟩
theorem Zw4{f:PB}(h:Pb (f σ) fun b=>B (!b)): Pb (ZbX f σ) B:=by
 obtain⟨x,a,q⟩:=h;exact⟨_,by simp only[ZbX,a,Option.map_some],q⟩
theorem Zw5(h:B true): Pb (Zal σ) B:=⟨_,rfl,h⟩
theorem Zv3(h:B false): Pb (Zb6 σ) B:=⟨_,rfl,h⟩
theorem Zw6{f g:PB}(h:Pb (f σ) fun b=>(b=true→Pb (g σ) B)∧(b=false→B false)): Pb (Zbi f g σ) B:=by
 obtain⟨x,a,h1,h2⟩:=h
 cases x with
 | true=>obtain⟨t,c,q⟩:=h1 rfl;exact⟨t,by simp[Zbi,a,c],q⟩
 | false=>exact⟨_,by simp[Zbi,a],h2 rfl⟩
theorem Zyq{f g:PB}(h:Pb (f σ) fun b=>(b=true→B true)∧(b=false→Pb (g σ) B)): Pb (bOr f g σ) B:=by
 obtain⟨x,a,h1,h2⟩:=h
 cases x with
 | false=>obtain⟨t,c,q⟩:=h2 rfl;exact⟨t,by simp[bOr,a,c],q⟩
 | true=>exact⟨_,by simp[bOr,a],h1 rfl⟩
theorem ZuB{b:Bool}(h:B b): Pb (ZbR (.bool b)) B:=⟨_,rfl,h⟩
theorem Zrm(h:N σ): Psk (ZW σ) R N:=⟨_,_,rfl,by simp,fun _=>h⟩
theorem Zyr{f:PE}(h:Pk (f σ) R): Psk (ZF f σ) R N:=by
 obtain⟨x,a,q⟩:=h;exact⟨some x,σ,by simp only[ZF,a,Option.map_some],fun t e=>by cases e;exact q,by simp⟩
theorem Zys{i:Nat}{f:PE}(h:Pk (f σ) fun t=>N (Z8 σ i t)): Psk (ZN i f σ) R N:=by
 obtain⟨x,a,q⟩:=h;exact⟨none,Z8 σ i x,by simp only[ZN,a,Option.map_some],by simp,fun _=>q⟩
theorem ZoI{a b:PS}(h:Psk (a σ) R fun σ1=>Psk (b σ1) R N): Psk (Zs a b σ) R N:=by
 obtain⟨o,σ1,e,h1,h2⟩:=h
 cases o with
 | some t=>exact⟨some t,σ1,by simp only[Zs,e,Option.bind_some],h1,by simp⟩
 | none=>
  obtain⟨o2,σ2,e2,k1,k2⟩:=h2 rfl
  exact⟨o2,σ2,by simp only[Zs,e,Option.bind_some,e2],k1,k2⟩
theorem ZoJ{b:PB}{f g:PS}(h:Pb (b σ) fun x=>(x=true→Psk (f σ) R N)∧(x=false→Psk (g σ) R N)): Psk (ZT b f g σ) R N:=by
 obtain⟨x,a,h1,h2⟩:=h
 cases x with
 | true=>obtain⟨o,s,c,q⟩:=h1 rfl;exact⟨o,s,by simp[ZT,a,c],q⟩
 | false=>obtain⟨o,s,c,q⟩:=h2 rfl;exact⟨o,s,by simp[ZT,a,c],q⟩
theorem Zr3{n:Nat}{q:PS}{ts:List T}(hn:ts.length=n)(h:Psk (q fun i=>ts[i]?) Q fun _=>Q .none): Pk (ZZ n q ts) Q:=by
 obtain⟨o,s,e,h1,h2⟩:=h
 cases o with
 | some t=>exact⟨t,by simp only[ZZ,hn,if_true,e,Option.map_some,Option.getD_some],h1 t rfl⟩
 | none=>exact⟨.none,by simp only[ZZ,hn,if_true,e,Option.map_some,Option.getD_none],h2 rfl⟩
theorem Zyt{b:Bool}{A C:Prop}(h:b=true)(k:A): (b=true→A)∧(b=false→C):=⟨fun _=>k,fun e=>(by rw[h]at e;cases e)⟩
theorem Zyu{b:Bool}{A C:Prop}(h:b=false)(k:C): (b=true→A)∧(b=false→C):=⟨fun e=>(by rw[h]at e;cases e),fun _=>k⟩
theorem ZoK{a b:Int}(h:Q (.int (a+b))): Pk (Z4 (.int a) (.int b)) Q:=⟨_,rfl,h⟩
theorem Zyv{a b:Int}(h:Q (.int (a-b))): Pk (Za7 (.int a) (.int b)) Q:=⟨_,rfl,h⟩
theorem Zyw{a:Int}(h:Q (.int (-a))): Pk (Zck (.int a)) Q:=⟨_,rfl,h⟩
theorem Zzl{a b:Int}(h:Q (.bool (decide (a<b)))): Pk (qLt (.int a) (.int b)) Q:=⟨_,rfl,h⟩
theorem Zzm{a b:Int}(h:Q (.bool (decide (a≤b)))): Pk (qLe (.int a) (.int b)) Q:=⟨_,rfl,h⟩
theorem Zzn{a b:Int}(h:Q (.bool (decide (b<a)))): Pk (qGt (.int a) (.int b)) Q:=⟨_,rfl,h⟩
theorem Zyx{a b:Int}(hb:b≠0)(h:Q (.int (a.fmod b))): Pk (ZaK (.int a) (.int b)) Q:=⟨_,by simp only[ZaK];rw[if_pos hb],h⟩
theorem Zes{a b:Int}(hb:b≠0)(hd:Builtin.divisionGoesByPylong a b=false)(h:Q (.int (a.fdiv b))): Pk (ZcP (.int a) (.int b)) Q:=⟨_,by simp only[ZcP];rw[if_pos ⟨hb,hd⟩],h⟩
theorem ZcU{a b:Int}(hm:mulOk a b=true)(h:Q (.int (a*b))): Pk (ZaN (.int a) (.int b)) Q:=⟨_,by simp only[ZaN];rw[if_pos hm],h⟩
theorem Zyy{a:Int}(h:Q (.int (if a<0 then -a else a))): Pk (Zd7 [.int a]) Q:=⟨_,rfl,h⟩
theorem Zjl(a b:Int): ZeE (.int a) (.int b)=some (decide (a=b)):=by
 simp[ZeE,ZcZ,SeqAt.shaped,PyData.canLay0,PyData.depth,PyData.eqv]
 by_cases h:a=b <;> simp[h]
theorem Zzo{a b:Int}(h:Q (.bool (decide (a=b)))): Pk (qEq (.int a) (.int b)) Q:=⟨_,by simp only[qEq,Zjl,Option.map_some],h⟩
theorem Zzp{a b:Int}(h:Q (.bool (decide (a≠b)))): Pk (qNe (.int a) (.int b)) Q:=⟨.bool (decide (a≠b)),by simp only[qNe,Zjl,Option.map_some];simp,h⟩
theorem Zyz(h:Q (.bool true)): Pk (qIs .none .none) Q:=⟨_,rfl,h⟩
theorem ZyA{a:Int}(h:Q (.bool false)): Pk (qIs (.int a) .none) Q:=⟨_,rfl,h⟩
theorem ZyB{a:List T}(h:Q (.bool false)): Pk (qIs (.lst a) .none) Q:=⟨_,rfl,h⟩
theorem ZyC{a:List T}(h:Q (.bool false)): Pk (qIs (.tup a) .none) Q:=⟨_,rfl,h⟩
theorem Zw7(h:Q (.bool false)): Pk (ZcB .none .none) Q:=⟨_,rfl,h⟩
theorem Zw8{a:Int}(h:Q (.bool true)): Pk (ZcB (.int a) .none) Q:=⟨_,rfl,h⟩
theorem Zw9{a:List T}(h:Q (.bool true)): Pk (ZcB (.tup a) .none) Q:=⟨_,rfl,h⟩
theorem Zxa{n:Nat}{f:Nat→T}(h:Q (.int n)): Pk (ZaB [.lst (tab n f)]) Q:=⟨_,by simp only[ZaB,Zao],h⟩
theorem ZyD{ts:List T}(h:Q (.int ts.length)): Pk (ZaB [.lst ts]) Q:=⟨_,rfl,h⟩
theorem Zxb{ts:List T}(h:Q (.int ts.length)): Pk (ZaB [.tup ts]) Q:=⟨_,rfl,h⟩
theorem ZhG{k:Int}{n:Nat}(h0:0≤k)(h1:k<n): seqIndex? k n=some k.toNat:=by
 unfold seqIndex?
 have:¬k<0:=by omega
 simp[this]
 omega
theorem Zrn{n i:Nat}{f:Nat→T}(hi:i<n)(h:Q (f i)): Pk (Zt (.lst (tab n f)) (.int (i:Nat))) Q:=⟨_,by
 simp only[Zt,Zao,ZhG (show(0:Int)≤(i:Int)by omega) (show(i:Int)<(n:Int)by omega),Option.bind_some,Int.toNat_natCast]
 exact Zbc hi,h⟩
theorem Zxc{n:Nat}{k:Int}{f:Nat→T}(h0:0≤k)(h1:k<n)(h:Q (f k.toNat)): Pk (Zt (.lst (tab n f)) (.int k)) Q:=⟨_,by
 simp only[Zt,Zao,ZhG h0 h1,Option.bind_some]
 exact Zbc (by omega),h⟩
theorem Zhk{ts:List T}{k:Int}{t:T}(h0:0≤k)(e:ts[k.toNat]?=some t)(h:Q t): Pk (Zt (.lst ts) (.int k)) Q:=⟨_,by
 simp only[Zt]
 rw[ZhG h0 (by have:=(Zz6.mp e).1;omega)]
 exact e,h⟩
theorem Zxd{ts:List T}{k:Int}{t:T}(h0:0≤k)(e:ts[k.toNat]?=some t)(h:Q t): Pk (Zt (.tup ts) (.int k)) Q:=⟨_,by
 simp only[Zt]
 rw[ZhG h0 (by have:=(Zz6.mp e).1;omega)]
 exact e,h⟩
theorem Zro{n:Nat}{a:T}{f:Nat→T}(hn:n<10000)(h:Q (.lst (tab (n+1) (cn a f)))): Pk (Z4 (.lst [a]) (.lst (tab n f))) Q:=⟨_,by
 simp only[Z4]
 rw[if_pos (by rw[Zba,List.length_append,Zao];simp;omega),List.singleton_append,Zv2],h⟩
theorem ZnL{n m:Nat}{f g:Nat→T}(hn:n+m<10000)(h:Q (.lst (tab (n+m) fun i=>if i<n then f i else g (i-n)))): Pk (Z4 (.lst (tab n f)) (.lst (tab m g))) Q:=⟨_,by
 simp only[Z4]
 rw[if_pos (by rw[Zba,List.length_append,Zao,Zao];omega),ZwY],h⟩
theorem Zv4{ts:List T}(h:Q (.lst ts)): Pk (ZdE [.lst ts]) Q:=⟨_,rfl,h⟩
theorem Zxe{ts:List T}(h:Q (.tup ts)): Pk (Zjj [.lst ts]) Q:=⟨_,rfl,h⟩
theorem Zvj{n:Nat}{f:Nat→Bool}: Zf9 (tab n fun i=>.bool (f i))=some (tab n f):=by
 have:∀l:List Bool,Zf9 (l.map T.bool)=some l:=fun l=>by
  induction l with
  | nil=>rfl
  | cons a l ih=>simp only[List.map_cons,Zf9,ih,Option.map_some]
 rw[show(tab n fun i=>T.bool (f i))=(tab n f).map T.bool from tab_map.symm]
 exact this _
theorem Zv5{n:Nat}{f:Nat→Int}: Zdm (tab n fun i=>.int (f i))=some (tab n f):=by
 have:∀l:List Int,Zdm (l.map T.int)=some l:=fun l=>by
  induction l with
  | nil=>rfl
  | cons a l ih=>simp only[List.map_cons,Zdm,ih,Option.map_some]
 rw[show(tab n fun i=>T.int (f i))=(tab n f).map T.int from tab_map.symm]
 exact this _
theorem ZyE{n:Nat}{P:Nat→Prop}(h:Q (.bool (dec (∃i,i<n∧P i)))): Pk (ZhO [.lst (tab n fun i=>.bool (dec (P i)))]) Q:=⟨_,by
 simp only[ZhO,Zvj,Option.map_some]
 congr 2
 symm
 apply ZjI
 rw[List.any_eq_true]
 constructor
 ·rintro⟨x,hx,h⟩
  obtain⟨i,hi,e⟩:=List.getElem_of_mem hx
  rw[Zao]at hi
  have:=Zbc (f:=fun i=>dec (P i)) hi
  rw[List.getElem?_eq_getElem (by rw[Zao];exact hi)]at this
  rw[←e,Option.some.inj this]at h
  exact⟨i,hi,dec_iff.mp h⟩
 ·rintro⟨i,hi,h⟩
  exact⟨_,List.mem_of_getElem? (Zbc hi),ZaH h⟩,h⟩
def SqP(x:T)(L:List T→Prop): Prop:=∃ts,(x=.lst ts∨x=.tup ts)∧L ts
theorem Zjm{f:PE}(h:Pk (f σ) fun t=>SqP t L): Pl (Zbp f σ) L:=by
 obtain⟨t,a,ts,rfl | rfl,q⟩:=h <;> exact⟨_,by simp only[Zbp,a,Option.bind_some],q⟩
theorem Sq.lst{ts:List T}(h:L ts): SqP (.lst ts) L:=⟨ts,.inl rfl,h⟩
theorem Zr4{a b c:Int}{H:Hp}{z:Nx×Nat×Hp}(h:Zcy a b c H=some z): Zcs a b c=some ((List.range (rngN a b c)).map fun(i:Nat)=>.int (a+(i:Int)*c)):=by
 unfold Zcy at h
 split at h
 ·rename_i hc
  unfold Zcs
  rw[if_pos hc]
 ·cases h
theorem Zv6{n:Nat}(hn:n≤1000): Zcs 0 n 1=some (tab n fun i=>.int i):=by
 rw[Zr4 (Zyb (H:=[]) (b:=n) (by omega) (by omega))]
 have e:rngN 0 n 1=n:=by
  unfold rngN Builtin.Range.rangeSize
  by_cases q:(0:Int)<n
  ·rw[if_pos (by decide),if_pos (by omega)];omega
  ·rw[if_pos (by decide),if_neg (by omega)];omega
 rw[e]
 simp[tab]
theorem Zoi{a n:Nat}(ha:0<n)(hn:a+n≤1000): Zcs a (a+n) 1=some (tab n fun i=>.int (a+i)):=by
 rw[Zr4 (Zyd (H:=[]) (a:=a) (b:=a+n) (c:=1) (by omega) (by omega) (by omega) (by omega) (by omega))]
 have e:rngN a (a+n) 1=n:=by
  unfold rngN
  rw[ZsA (by omega) (by omega)]
  omega
 rw[e]
 simp[tab]
theorem Zxf{g:PEs}{b:Int}{o:Option (List T)}(e:g σ=some [.int b])(h:Zcs 0 b 1=o): ZaJ g σ=o:=by
 subst h;unfold ZaJ;rw[e];rfl
theorem Zhl{g:PEs}{a b:Int}{o:Option (List T)}(e:g σ=some [.int a,.int b])(h:Zcs a b 1=o): ZaJ g σ=o:=by
 subst h;unfold ZaJ;rw[e];rfl
def RnP(xs:List T)(L:List T→Prop): Prop:=(∃n:Nat,xs=[.int n]∧n≤1000∧L (tab n fun i=>.int i))∨∃(a:Nat) (n:Nat),xs=[.int a,.int (a+n)]∧0<n∧a+n≤1000∧L (tab n fun i=>.int (a+i))
theorem Zv7{g:PEs}(h:Pl (g σ) fun xs=>RnP xs L): Pl (ZaJ g σ) L:=by
 obtain⟨xs,e,h⟩:=h
 rcases h with⟨n,h0,h1,q⟩ | ⟨a,n,h0,h1,h2,q⟩
 ·subst h0;exact⟨_,Zxf e (Zv6 h1),q⟩
 ·subst h0;exact⟨_,Zhl e (Zoi h1 h2),q⟩
theorem Rn.one{n:Nat}(hn:n≤1000)(h:L (tab n fun i=>.int i)): RnP [.int n] L:=.inl ⟨n,rfl,hn,h⟩
theorem Zgi{k:Int}(n:Nat)(e:k=n)(hn:n≤1000)(h:L (tab n fun i=>.int i)): RnP [.int k] L:=.inl ⟨n,by rw[e],hn,h⟩
theorem Rn.two{k l:Int}(a n:Nat)(e0:l=a)(e:k=a+n)(ha:0<n)(hn:a+n≤1000)(h:L (tab n fun i=>.int (a+i))): RnP [.int l,.int k] L:=.inr ⟨a,n,by rw[e,e0],ha,hn,h⟩
def ZiP(x y:T)(L:List T→Prop): Prop:=∃xs ys,x=.lst xs∧y=.lst ys∧L (List.zipWith (fun a b=>.tup [a,b]) xs ys)
theorem ZoL{f g:PE}(h:Pk (f σ) fun x=>Pk (g σ) fun y=>ZiP x y L): Pl (Zc9 f g σ) L:=by
 obtain⟨x,a,y,b,xs,ys,rfl,rfl,q⟩:=h;exact⟨_,by simp only[Zc9,a,b,Option.bind_some],q⟩
theorem Zi.eq{n:Nat}{f g:Nat→T}(h:L (tab n fun i=>.tup [f i,g i])): ZiP (.lst (tab n f)) (.lst (tab n g)) L:=⟨_,_,rfl,rfl,by rw[Zrl,Nat.min_self];exact h⟩
theorem Zqp{j:Nat}{f:PE}{h:T→T}: ∀{ts:List T},(∀t∈ts,f (Z8 σ j t)=some (h t))→ZcW (Zak j) Zal f σ ts=some (ts.map h)
 | [],_=>rfl
 | t::ts,k=>by
  simp only[ZcW,Zak,Zal,Option.bind_some,if_true,k t Zz5,Zqp fun t m=>k t (Zz2 _ m),Option.map_some,List.map_cons]
theorem Zoj{put:T→TL→Option TL}{f:PE}: ∀{ts us:List T},us.length=ts.length→(∀(i:Nat) t u,ts[i]?=some t→us[i]?=some u→∃σ1,put t σ=some σ1∧f σ1=some u)→ZcW put Zal f σ ts=some us
 | [],us,hl,_=>by cases us with
  | nil=>rfl
  | cons _ _=>simp at hl
 | t::ts,us,hl,k=>by
  cases us with
  | nil=>simp at hl
  | cons u us=>
   obtain⟨σ1,h1,h2⟩:=k 0 t u (by simp) (by simp)
   have:=Zoj (ts:=ts) (us:=us) (f:=f) (put:=put) (by simpa using hl) fun i t' u' h3 h4=>k (i+1) t' u' (by simpa using h3) (by simpa using h4)
   simp only[ZcW,h1,Zal,Option.bind_some,if_true,h2,this,Option.map_some]
theorem ZbQ{g:PG}{j n:Nat}{a b:Nat→T}{f:PE}(hn:n<10000)(hg:Pl (g σ) fun ts=>ts=tab n a)(hf:∀i,i<n→Pk (f (Z8 σ j (a i))) fun t=>t=b i)(h:Q (.lst (tab n b))): Pk (Zau g (Zak j) Zal f σ) Q:=by
 obtain⟨ts,e,rfl⟩:=hg
 refine⟨_,?_,h⟩
 simp only[Zau,e,Option.bind_some,Zao]
 rw[if_pos (by rw[Zba];omega),Zoj (us:=tab n b) (by rw[Zao,Zao]) fun i t u h1 h2=>?_]
 ·rfl
 ·have hi:i<n:=by have:=(Zz6.mp h1).1;rwa [Zao]at this
  rw[Zbc hi]at h1 h2
  cases h1;cases h2
  exact⟨_,rfl,(hf i hi).eq⟩
theorem ZnM{g:PG}{j k n:Nat}{a b c:Nat→T}{f:PE}(hn:n<10000)(hg:Pl (g σ) fun ts=>ts=tab n fun i=>.tup [a i,b i])(hf:∀i,i<n→Pk (f (Z8 (Z8 σ j (a i)) k (b i))) fun t=>t=c i)(h:Q (.lst (tab n c))): Pk (Zau g (Zcr j k) Zal f σ) Q:=by
 obtain⟨ts,e,rfl⟩:=hg
 refine⟨_,?_,h⟩
 simp only[Zau,e,Option.bind_some,Zao]
 rw[if_pos (by rw[Zba];omega),Zoj (us:=tab n c) (by rw[Zao,Zao]) fun i t u h1 h2=>?_]
 ·rfl
 ·have hi:i<n:=by have:=(Zz6.mp h1).1;rwa [Zao]at this
  rw[Zbc hi]at h1 h2
  cases h1;cases h2
  exact⟨_,rfl,(hf i hi).eq⟩
theorem ZjJ{put:T→TL→Option TL}{b:PS}: ∀{ts:List T} (P:Nat→TL→Prop) {σ:TL},P 0 σ→(∀(i:Nat) t σ,ts[i]?=some t→P i σ→∃σ1,put t σ=some σ1∧Psk (b σ1) R (P (i+1)))→(∀σ,P ts.length σ→N σ)→Psk (Zfr put b σ ts) R N
 | [],P,σ,h0,_,h2=>⟨_,_,rfl,by simp,fun _=>h2 _ h0⟩
 | t::ts,P,σ,h0,h1,h2=>by
  obtain⟨σ1,e1,o,σ2,e2,k1,k2⟩:=h1 0 t σ (by simp) h0
  cases o with
  | some v=>exact⟨some v,σ2,by simp only[Zfr,e1,Option.bind_some,e2],k1,by simp⟩
  | none=>
   obtain⟨o3,σ3,e3,l1,l2⟩:=ZjJ (ts:=ts) (fun i=>P (i+1)) (k2 rfl) (fun i t' σ' h3 h4=>h1 (i+1) t' σ' (by simpa using h3) h4) (fun σ' h=>h2 σ' (by simpa using h))
   exact⟨o3,σ3,by simp only[Zfr,e1,Option.bind_some,e2,e3],l1,l2⟩
theorem Zdj{g:PG}{j n:Nat}{a:Nat→T}{b:PS}(hg:Pl (g σ) fun ts=>ts=tab n a)(P:Nat→TL→Prop)(h0:P 0 σ)(h1:∀i σ,i<n→P i σ→Psk (b (Z8 σ j (a i))) R (P (i+1)))(h2:∀σ,P n σ→N σ): Psk (Za3 g (Zak j) b σ) R N:=by
 obtain⟨ts,e,rfl⟩:=hg
 have:=ZjJ (R:=R) (N:=N) (put:=Zak j) (b:=b) (ts:=tab n a) P h0 (fun i t σ' h3 h4=>by
  have hi:i<n:=by have:=(Zz6.mp h3).1;rwa [Zao]at this
  rw[Zbc hi]at h3
  cases h3
  exact⟨_,rfl,h1 i σ' hi h4⟩) (by rw[Zao];exact h2)
 obtain⟨o,s,e2,q⟩:=this
 exact⟨o,s,by simp only[Za3,e,Option.bind_some,e2],q⟩
theorem Ze7{g:PG}{j k n:Nat}{a c:Nat→T}{b:PS}(hg:Pl (g σ) fun ts=>ts=tab n fun i=>.tup [a i,c i])(P:Nat→TL→Prop)(h0:P 0 σ)(h1:∀i σ,i<n→P i σ→Psk (b (Z8 (Z8 σ j (a i)) k (c i))) R (P (i+1)))(h2:∀σ,P n σ→N σ): Psk (Za3 g (Zcr j k) b σ) R N:=by
 obtain⟨ts,e,rfl⟩:=hg
 have:=ZjJ (R:=R) (N:=N) (put:=Zcr j k) (b:=b) (ts:=tab n fun i=>.tup [a i,c i]) P h0 (fun i t σ' h3 h4=>by
  have hi:i<n:=by have:=(Zz6.mp h3).1;rwa [Zao]at this
  rw[Zbc hi]at h3
  cases h3
  exact⟨_,rfl,h1 i σ' hi h4⟩) (by rw[Zao];exact h2)
 obtain⟨o,s,e2,q⟩:=this
 exact⟨o,s,by simp only[Za3,e,Option.bind_some,e2],q⟩
theorem Zxg{g:PG}{j:Nat}{ts:List T}{b:PS}(hg:Pl (g σ) fun us=>us=ts)(P:Nat→TL→Prop)(h0:P 0 σ)(h1:∀(i:Nat) t σ,ts[i]?=some t→P i σ→Psk (b (Z8 σ j t)) R (P (i+1)))(h2:∀σ,P ts.length σ→N σ): Psk (Za3 g (Zak j) b σ) R N:=by
 obtain⟨us,e,rfl⟩:=hg
 obtain⟨o,s,e2,q⟩:=ZjJ (R:=R) (N:=N) (put:=Zak j) (b:=b) (ts:=us) P h0 (fun i t σ' h3 h4=>⟨_,rfl,h1 i t σ' h3 h4⟩) h2
 exact⟨o,s,by simp only[Za3,e,Option.bind_some,e2],q⟩
theorem ZnN{t:PB}{b:PS}(P:Nat→TL→Prop)(R:T→Prop)(N:TL→Prop)(h:∀m σ,P m σ→Pb (t σ) fun x=>(x=true→Psk (b σ) R fun σ1=>∃m',m'<m∧P m' σ1)∧(x=false→N σ)): ∀(n:Nat) {m:Nat} {σ:TL},P m σ→m<n→Psk (Zer t b n σ) R N
 | 0,_,_,_,hm=>by omega
 | n+1,m,σ,hp,hm=>by
  obtain⟨x,e,h1,h2⟩:=h m σ hp
  cases x with
  | false=>exact⟨none,σ,by simp[Zer,e],by simp,fun _=>h2 rfl⟩
  | true=>
   obtain⟨o,σ1,e1,k1,k2⟩:=h1 rfl
   cases o with
   | some v=>exact⟨some v,σ1,by simp[Zer,e,e1],k1,by simp⟩
   | none=>
    obtain⟨m',hm',hp'⟩:=k2 rfl
    obtain⟨o2,σ2,e2,l1,l2⟩:=ZnN P R N h n hp' (by omega)
    exact⟨o2,σ2,by simp[Zer,e,e1,e2],l1,l2⟩
theorem Znc: ZcO σ []=σ:=by funext i;simp[ZcO]
def AppP(σ:TL)(x:Nat)(w:T)(N:TL→Prop): Prop:=∃ts,σ x=some (.lst ts)∧ts.length<10000∧N (Z8 σ x (.lst (ts++[w])))
theorem Zrp{x:Nat}{w:T}{ts:List T}(e:σ x=some (.lst ts))(hl:ts.length<10000)(h:N (Z8 σ x (.lst (ts++[w])))): AppP σ x w N:=⟨ts,e,hl,h⟩
theorem ZyF{x:Nat}{f:PE}(h:Pk (f σ) fun w=>AppP σ x w N): Psk (Zd9 x [] ZaP f σ) R N:=by
 obtain⟨w,e,ts,h1,h2,q⟩:=h
 refine⟨none,_,?_,by simp,fun _=>q⟩
 simp only[Zd9,ZaP,Option.bind_some,e,h1,Zd5,Zke]
 rw[if_pos (by rw[Zba];omega)]
 simp only[Option.map_some,Znc]
def AppQ(σ:TL)(x y:Nat)(w:T)(N:TL→Prop): Prop:=∃ts,σ x=some (.lst ts)∧ts.length<10000∧N (ZcO (Z8 σ x (.lst (ts++[w]))) [y])
theorem Zxh{x y:Nat}{w:T}{ts:List T}(e:σ x=some (.lst ts))(hl:ts.length<10000)(h:N (ZcO (Z8 σ x (.lst (ts++[w]))) [y])): AppQ σ x y w N:=⟨ts,e,hl,h⟩
theorem Zxi{x y:Nat}{f:PE}(h:Pk (f σ) fun w=>AppQ σ x y w N): Psk (Zd9 x [y] ZaP f σ) R N:=by
 obtain⟨w,e,ts,h1,h2,q⟩:=h
 refine⟨none,_,?_,by simp,fun _=>q⟩
 simp only[Zd9,ZaP,Option.bind_some,e,h1,Zd5,Zke]
 rw[if_pos (by rw[Zba];omega)]
 simp only[Option.map_some]
def PutP(σ:TL)(x:Nat)(w k:T)(N:TL→Prop): Prop:=∃ts m,k=.int m∧σ x=some (.lst ts)∧0≤m∧m<ts.length∧N (Z8 σ x (.lst (ts.set m.toNat w)))
theorem Zv8{x n i:Nat}{w:T}{f:Nat→T}(e:σ x=some (.lst (TM.tab n f)))(hi:i<n)(h:N (Z8 σ x (.lst (TM.tab n fun k=>if k=i then w else f k)))): PutP σ x w (.int i) N:=⟨_,_,rfl,e,by omega,by rw[Zao];omega,by rw[Int.toNat_natCast,Zhj];exact h⟩
theorem Znd{x n:Nat}{k:Int}{w:T}{f:Nat→T}(e:σ x=some (.lst (TM.tab n f)))(h0:0≤k)(hi:k<n)(h:N (Z8 σ x (.lst (TM.tab n fun i=>if i=k.toNat then w else f i)))): PutP σ x w (.int k) N:=⟨_,_,rfl,e,h0,by rw[Zao];omega,by rw[Zhj];exact h⟩
theorem ZyG{x:Nat}{f i:PE}(h:Pk (f σ) fun w=>Pk (i σ) fun k=>PutP σ x w k N): Psk (Zbq x [] f ZaP i σ) R N:=by
 obtain⟨w,e,k,e2,ts,m,rfl,h1,h2,h3,q⟩:=h
 refine⟨none,_,?_,by simp,fun _=>q⟩
 simp only[Zbq,ZaP,Option.bind_some,e,e2,h1,Zd5,Zkf]
 rw[if_pos ⟨h2,h3⟩]
 simp only[Option.map_some,Znc]
def Put2(σ:TL)(x:Nat)(w a k:T)(N:TL→Prop): Prop:=∃ts us l m,a=.int l∧k=.int m∧σ x=some (.lst ts)∧0≤l∧ts[l.toNat]?=some (.lst us)∧0≤m∧m<us.length∧N (Z8 σ x (.lst (ts.set l.toNat (.lst (us.set m.toNat w)))))
theorem Zv9{x n m i j:Nat}{w:T}{f:Nat→Nat→T}(e:σ x=some (.lst (TM.tab n fun a=>.lst (TM.tab m (f a)))))(hi:i<n)(hj:j<m)(h:N (Z8 σ x (.lst (TM.tab n fun a=>.lst (TM.tab m fun b=>if a=i∧b=j then w else f a b))))): Put2 σ x w (.int i) (.int j) N:=by
 refine⟨_,TM.tab m (f i),i,j,rfl,rfl,e,by omega,?_,by omega,by rw[Zao];omega,?_⟩
 ·rw[Int.toNat_natCast,Zbc hi]
 ·rw[Int.toNat_natCast,Int.toNat_natCast,Zhj,Zhj]
  have:(TM.tab n fun a=>if a=i then T.lst (TM.tab m fun b=>if b=j then w else f i b)else T.lst (TM.tab m (f a)))=TM.tab n fun a=>.lst (TM.tab m fun b=>if a=i∧b=j then w else f a b):=Zbz fun a _=>by
   by_cases q:a=i
   ·subst q;simp
   ·simp[q]
  rw[this];exact h
theorem Zxj{x:Nat}{f i j:PE}(h:Pk (f σ) fun w=>Pk (i σ) fun a=>Pk (j σ) fun k=>Put2 σ x w a k N): Psk (Zbq x [] f (Zeq ZaP i) j σ) R N:=by
 obtain⟨w,e,a,e1,k,e2,ts,us,l,m,rfl,rfl,h1,h0,h4,h2,h3,q⟩:=h
 refine⟨none,_,?_,by simp,fun _=>q⟩
 have hl:=(Zz6.mp h4).1
 simp only[Zbq,ZaP,Zeq,Option.bind_some,e,e1,e2,h1,List.nil_append,Zd5,Zkf,ZhG h0 (show l<ts.length by omega),h4]
 rw[if_pos ⟨h2,h3⟩]
 simp only[Option.map_some,Znc]
theorem Zxk{i j:Nat}{t:T}{o:Option T}(h:j≠i)(e:σ j=o): Z8 σ i t j=o:=by simp[Z8,h,e]
theorem Zwa{j:Nat}{J:List Nat}{o:Option T}(h:j∉J)(e:σ j=o): ZcO σ J j=o:=by simp[ZcO,h,e]
end
end TM
end
section
namespace TM
open PySem PM
inductive Pln: Nat→T→Prop where
 | none {n:Nat}:Pln n .none
 | int {n:Nat} {i:Int}:Pln n (.int i)
 | str {n:Nat} {x:Str}:PyData.strOk x=true→Pln n (.str x)
 | tup {n:Nat} {ts:List T}:(∀t∈ts,Pln n t)→Pln (n+1) (.tup ts)
 | lst {n:Nat} {ts:List T}:(∀t∈ts,Pln n t)→Pln (n+1) (.lst ts)
mutual
noncomputable def dd: T→PyData
 | .none=>.none
 | .bool b=>.bool b
 | .int i=>.int i
 | .str x=>.str x
 | .tup ts=>.tuple (dds ts)
 | .lst ts=>.list (dds ts)
noncomputable def dds: List T→List PyData
 | []=>[]
 | t::ts=>dd t::dds ts
end
theorem ZnO{f:T→Option PyData}: ∀{ts:List T},(∀t∈ts,f t=some (dd t))→Zfl f ts=some (dds ts)
 | [],_=>rfl
 | t::ts,h=>by simp only[Zfl,h t Zz5,ZnO fun t m=>h t (Zz2 _ m),Option.bind_some,dds]
theorem Zok: ∀{ts:List T},(∀t∈ts,PyData.canLay0 (dd t)=true)→PyData.canLayAll0 (dds ts)=true
 | [],_=>rfl
 | t::ts,h=>by simp only[dds,PyData.canLayAll0,h t Zz5,Zok fun t m=>h t (Zz2 _ m),Bool.and_self]
theorem Zol{n:Nat}: ∀{ts:List T},(∀t∈ts,PyData.depth (dd t)≤n)→PyData.depthAll (dds ts)≤n
 | [],_=>by simp[dds,PyData.depthAll]
 | t::ts,h=>by
  have h1:=h t Zz5
  have h2:=Zol fun t m=>h t (Zz2 _ m)
  simp only[dds,PyData.depthAll]
  omega
theorem Pln.dat{n:Nat}{t:T}(h:Pln n t): ZcZ n t=some (dd t)∧PyData.canLay0 (dd t)=true∧PyData.depth (dd t)≤n:=by
 induction h with
 | @none n=>cases n <;> exact⟨rfl,rfl,by simp[dd,PyData.depth]⟩
 | @int n i=>cases n <;> exact⟨rfl,rfl,by simp[dd,PyData.depth]⟩
 | @str n x h=>cases n <;> exact⟨rfl,by simpa [dd,PyData.canLay0]using h,by simp[dd,PyData.depth]⟩
 | @tup n ts _ ih=>
  refine⟨?_,?_,?_⟩
  ·simp only[ZcZ,ZnO fun t m=>(ih t m).1,Option.map_some,dd]
  ·simp only[dd,PyData.canLay0];exact Zok fun t m=>(ih t m).2.1
  ·simp only[dd,PyData.depth]
   have:=Zol fun t m=>(ih t m).2.2
   omega
 | @lst n ts _ ih=>
  refine⟨?_,?_,?_⟩
  ·simp only[ZcZ,ZnO fun t m=>(ih t m).1,Option.map_some,dd]
  ·simp only[dd,PyData.canLay0];exact Zok fun t m=>(ih t m).2.1
  ·simp only[dd,PyData.depth]
   have:=Zol fun t m=>(ih t m).2.2
   omega
theorem Zom: ∀{ts us:List T},(∀t∈ts,∀u∈us,(PyData.eqv (dd t) (dd u)=true↔t=u))→(PyData.eqvAll (dds ts) (dds us)=true↔ts=us)
 | [],[],_=>by simp[dds,PyData.eqvAll]
 | [],_::_,_=>by simp[dds,PyData.eqvAll]
 | _::_,[],_=>by simp[dds,PyData.eqvAll]
 | t::ts,u::us,h=>by
  simp only[dds,PyData.eqvAll,Bool.and_eq_true,h t Zz5 u Zz5,Zom fun t m u n=>h t (Zz2 _ m) u (Zz2 _ n),List.cons.injEq]
theorem Pln.eqv{n:Nat}{t:T}(h:Pln n t): ∀{m:Nat} {u:T},Pln m u→(PyData.eqv (dd t) (dd u)=true↔t=u):=by
 induction h with
 | none=>intro m u h;cases h <;> simp[dd,PyData.eqv]
 | int=>intro m u h;cases h <;> simp[dd,PyData.eqv]
 | str _=>intro m u h;cases h <;> simp[dd,PyData.eqv]
 | tup hs ih=>
  intro m u h
  cases h with
  | tup hu=>simp only[dd,PyData.eqv,T.tup.injEq];exact Zom fun t a u b=>ih t a (hu u b)
  | none=>simp[dd,PyData.eqv]
  | int=>simp[dd,PyData.eqv]
  | str=>simp[dd,PyData.eqv]
  | lst=>simp[dd,PyData.eqv]
 | lst hs ih=>
  intro m u h
  cases h with
  | lst hu=>simp only[dd,PyData.eqv,T.lst.injEq];exact Zom fun t a u b=>ih t a (hu u b)
  | none=>simp[dd,PyData.eqv]
  | int=>simp[dd,PyData.eqv]
  | str=>simp[dd,PyData.eqv]
  | tup=>simp[dd,PyData.eqv]
theorem Pln.mono{n:Nat}{t:T}(h:Pln n t): ∀{m:Nat},n≤m→Pln m t:=by
 induction h with
 | none=>intro m _;exact .none
 | int=>intro m _;exact .int
 | str h=>intro m _;exact .str h
 | tup hs ih=>
  intro m hm
  cases m with
  | zero=>omega
  | succ m=>exact .tup fun t a=>ih t a (by omega)
 | lst hs ih=>
  intro m hm
  cases m with
  | zero=>omega
  | succ m=>exact .lst fun t a=>ih t a (by omega)
theorem Zrq{n m:Nat}{a b:T}(ha:Pln n a)(hb:Pln m b)(hn:n≤8:=by decide)(hm:m≤8:=by decide): ZeE a b=some (dec (a=b)):=by
 have ha:=ha.mono hn
 have hb:=hb.mono hm
 obtain⟨a1,a2,a3⟩:=ha.dat
 obtain⟨b1,b2,b3⟩:=hb.dat
 unfold ZeE ZbK
 rw[a1,b1]
 simp only[Option.bind_some]
 rw[if_pos ⟨by simp only[SeqAt.shaped,a2,Bool.true_and,decide_eq_true_eq];omega,by simp only[SeqAt.shaped,b2,Bool.true_and,decide_eq_true_eq];omega⟩,ZjI (ha.eqv hb)]
section
variable {Q:T→Prop}
theorem Zb8{n m:Nat}{a b:T}(ha:Pln n a)(hb:Pln m b)(h:Q (.bool (dec (a=b))))(hn:n≤8:=by decide)(hm:m≤8:=by decide): Pk (qEq a b) Q:=⟨_,by simp only[qEq,Zrq ha hb hn hm,Option.map_some],h⟩
theorem ZyH{n m:Nat}{a b:T}(ha:Pln n a)(hb:Pln m b)(h:Q (.bool (!dec (a=b))))(hn:n≤8:=by decide)(hm:m≤8:=by decide): Pk (qNe a b) Q:=⟨_,by simp only[qNe,Zrq ha hb hn hm,Option.map_some],h⟩
end
theorem ZcR{α:Type}{n:Nat}{f:Nat→α}{x:α}(h:x∈tab n f): ∃i,i<n∧x=f i:=by
 obtain⟨i,hi,e⟩:=Zz11.mp h
 exact⟨i,List.mem_range.mp hi,e.symm⟩
theorem Zqq{n:Nat}{f:Nat→T}(h:∀i,i<n→(f i).flat=true): T.flats (tab n f)=true:=by
 have key:∀l:List T,(∀t∈l,t.flat=true)→T.flats l=true:=fun l=>by
  induction l with
  | nil=>intro _;rfl
  | cons t l ih=>intro h;simp only[T.flats,h t Zz5,ih fun t m=>h t (Zz2 _ m),Bool.and_self]
 exact key _ fun t m=>by obtain⟨i,hi,rfl⟩:=ZcR m;exact h i hi
theorem Ziy{n:Nat}{f:Nat→T}(h:∀i,i<n→(f i).flat=true): T.flatIn (.lst (tab n f))=true:=Zqq h
noncomputable def oT: Option Int→T
 | none=>.none
 | some x=>.int x
noncomputable def Z1(q:Int×Int): T:=.tup [.int q.1,.int q.2]
noncomputable def Zcb(n:Nat)(x:Nat→Int): T:=.lst (tab n fun i=>.int (x i))
noncomputable def Zay(n:Nat)(b:Nat→Option Int): T:=.lst (tab n fun j=>oT (b j))
noncomputable def Zab(n:Nat)(G:Nat→Nat→Option Int): T:=.lst (tab n fun i=>Zay n (G i))
noncomputable def ZbD(n:Nat)(R:Nat→Int×Int): T:=.lst (tab n fun i=>Z1 (R i))
noncomputable def ZH(n:Nat)(G:Nat→Nat→Option Int)(R:Nat→Int×Int): T:=.tup [Zab (n+1) G,ZbD n R]
theorem Zcz: oT none=.none:=rfl
theorem Zbk{c:Int}: oT (some c)=.int c:=rfl
theorem Zhm{b:Option Int}: (oT b).flat=true:=by cases b <;> rfl
theorem Zg7{q:Int×Int}: (Z1 q).flat=true:=rfl
theorem ZyI{a b:Option Int}: oT a=oT b↔a=b:=by cases a <;> cases b <;> simp[oT]
theorem Zxl{a b:Int×Int}: Z1 a=Z1 b↔a=b:=by cases a;cases b;simp[Z1]
theorem Zet{n k:Nat}{f:Nat→T}(h:∀i,i<k→Pln n (f i)): Pln (n+1) (.lst (tab k f)):=.lst fun t m=>by obtain⟨i,hi,rfl⟩:=ZcR m;exact h i hi
theorem ZsB{n:Nat}{b:Option Int}: Pln n (oT b):=by cases b;exact .none;exact .int
theorem ZjK{n:Nat}{q:Int×Int}: Pln (n+1) (Z1 q):=.tup fun t m=>by
 simp at m;rcases m with rfl | rfl <;> exact .int
theorem Zrr{n:Nat}{b:Nat→Option Int}: Pln 1 (Zay n b):=Zet fun _ _=>ZsB
theorem Zwb{n:Nat}{G:Nat→Nat→Option Int}: Pln 2 (Zab n G):=Zet fun _ _=>Zrr
theorem Zwc{n:Nat}{R:Nat→Int×Int}: Pln 2 (ZbD n R):=Zet fun _ _=>ZjK
theorem Zg8{n:Nat}{G:Nat→Nat→Option Int}{R:Nat→Int×Int}: Pln 3 (ZH n G R):=.tup fun t m=>by
 simp at m;rcases m with rfl | rfl
 ·exact Zwb
 ·exact Zwc
theorem Zcu{σ:TL}{i:Nat}{t:T}: Z8 σ i t i=some t:=by simp[Z8]
end TM
end
section
namespace PM
open PySem PySem.W PySem.Calls PyProof.Rows PyProof PyProof.Rows.LCg PyProof.Rows.LCp
noncomputable def sNo: Sm:=fun _ _=>none
noncomputable def inD(d:PyData): PyData→Option Bool
 | .list xs=>if PyData.canLayAll0 xs=true∧d.canLay0=true∧d.depth≤64 then some (xs.any fun y=>PyData.eqv y d)else none
 | .tuple xs=>if PyData.canLayAll0 xs=true∧d.canLay0=true∧d.depth≤64 then some (xs.any fun y=>PyData.eqv y d)else none
 | _=>none
noncomputable def Zpd(a b:V)(H:Hp): Option Bool:=(toD H ZbK a).bind fun d=>(toD H ZbK b).bind fun e=>inD d e
noncomputable def oIn(a b:V)(H:Hp): Option (V×Hp):=(Zpd a b H).map fun c=>(.bool c,H)
noncomputable def Zhu(a:Nat): Nx:=fun i H=>H[a]?.bind fun vs=>match vs[i]? with
 | some x=>some (some (.tup [.int i,x]))
 | none=>if i=vs.length then some none else none
noncomputable def Zj2(f:Ex): Src:=fun ρ H=>(f ρ H).bind fun p=>match p.1 with
 | .ref a=>p.2[a]?.map fun vs=>(Zhu a,vs.length+1,p.2)
 | _=>none
section
variable {prog:Program} {w:World} {Γ:Cx}
theorem Zzq{st:Stmt}: S1 prog w Γ st sNo:=fun W ρ H fr s Q E r rp hf post=>by cases hf
theorem ZhH: Op2 prog w (compareOp .In) oIn:=by
 intro Γ W ρ H fr s Q E a b x y v H' r hx hy ho post
 obtain⟨c,e1,e2⟩:=Zz1.mp ho
 cases e2
 obtain⟨d,h1,e1⟩:=Zz0.mp e1
 obtain⟨e,h2,e1⟩:=Zz0.mp e1
 obtain⟨as,R1⟩:=ZfO r ZbK a x d hx h1
 obtain⟨bs,R2⟩:=ZfO r ZbK b y e hy h2
 have hu:=Γ.hu
 unfold inD at e1
 split at e1
 ·split at e1
  ·rename_i hs
   cases e1
   exact SeqAt.in_list_reads R2 R1 hs.1 hs.2.1 (by omega) (post W s.heap s.toks _ (.refl W) r (.bool _))
  ·cases e1
 ·split at e1
  ·rename_i hs
   cases e1
   exact SeqAt.in_tuple_reads R2 R1 hs.1 hs.2.1 (by omega) (post W s.heap s.toks _ (.refl W) r (.bool _))
  ·cases e1
 ·cases e1
def ES(e it l:Addr)(i:Nat)(h:Heap): Prop:=(∃old,IsEnum h e it i old)∧h.IsListIter it l i
theorem ES.at{e it l:Addr}{i:Nat}{h h':Heap}(x:ES e it l i h)(k:∀a∈[e,it],∀o,h.get? a=some o→h'.get? a=some o): ES e it l i h':=by
 obtain⟨⟨old,h1⟩,h2⟩:=x
 exact⟨⟨old,k e (by simp) _ h1⟩,h2.at fun o x=>k it (by simp) o x⟩
theorem ES.have{e it l:Addr}{i:Nat}{h:Heap}(x:ES e it l i h): ∀a∈[e,it],∃o,h.get? a=some o:=by
 obtain⟨⟨old,h1⟩,o,h2,_⟩:=x
 intro a ha
 simp at ha
 rcases ha with rfl | rfl
 ·exact⟨_,h1⟩
 ·exact⟨_,h2⟩
def EIt(e it l:Addr)(i:Nat)(fs:List (Addr×Obj)): Prop:=fs.map (·.1)=[e,it]∧∀h:Heap,(∀q∈fs,h.get? q.1=some q.2)→ES e it l i h
theorem Zrs{e it l:Addr}{i:Nat}{h:Heap}(x:ES e it l i h): ∃fs,EIt e it l i fs∧∀q∈fs,h.get? q.1=some q.2:=by
 obtain⟨fs,h1,h2⟩:=Zpb h [e,it] x.have
 refine⟨fs,⟨h1,fun h' k=>x.at fun a ha o ho=>?_⟩,h2⟩
 rw[←h1]at ha
 obtain⟨q,hq,eq⟩:=Zz11.mp ha
 have:=h2 q hq
 rw[eq,ho]at this
 cases this
 exact eq▸k q hq
theorem Zxm{W0:Wd}{e it l:Addr}{a:Nat}(ea:W0.pi[a]?=some l)(hei:e≠it)(hle:l≠e)(hli:l≠it):
  Itr2 prog w Γ W0 (.ref e) [e,it] (EIt e it l) (Zhu a):=by
 refine⟨fun i fs h=>h.1,?_,?_,?_,?_⟩
 ·intro i H v hh
  obtain⟨vs,e1,hh⟩:=Zz0.mp hh
  split at hh
  ·cases hh
   exact⟨_,_,rfl⟩
  ·split at hh <;> cases hh
 ·intro i W ρ H fr fs s Q E va vb le r ap hit hn post
  obtain⟨vs,e1,hh⟩:=Zz0.mp hn
  have hv:va=.int i∧vs[i]?=some vb:=by
   split at hh
   ·rename_i x h1
    cases hh
    exact⟨rfl,h1⟩
   ·split at hh <;> cases hh
  obtain⟨_,xs,k1,g1,v1⟩:=r.at e1 (le.at ea)
  obtain⟨x,hx,rx⟩:=v1.at hv.2
  have st:ES e it l i s.heap:=hit.2 _ fun q hq=>r.frAt (Zz4 _ hq)
  have Wk:=WalksT.enumerate (prog:=prog) (w:=w) (A:=Γ.A) Γ.hh e it l hei hle hli xs.toArray
  have isl1:s.heap.IsList l xs.toArray:=⟨_,g1,rfl,k1,rfl⟩
  have hi:i<xs.toArray.size:=by
   have h1:=(Zz6.mp hx).1
   simpa using h1
  refine Wk.item i s Q E hi ⟨st.1,st.2,isl1⟩ fun T vals h1 t1 hp hT hTup hmid keep1=>post T h1 t1 ?_
  intro elts k pos s1 Q1 E1 es1 q1
  subst es1
  have hTw:=Wk.apart i T _ hmid
  refine Wk.go elts k pos i T _ Q1 E1 hmid fun h2 st2 keep2=>?_
  obtain⟨tk,x',hx',ev⟩:=hp
  have ex:x'=x:=by
   have:xs[i]?=some x':=by simpa using hx'
   rw[hx]at this
   exact(Option.some.inj this).symm
  subst ex ev
  obtain⟨fs',hit',at'⟩:=Zrs (h:=h2) (⟨st2.1,st2.2.1⟩:ES e it l (i+1) h2)
  obtain⟨oT,gT,cT,nT,dT⟩:=hTup
  refine q1 fs' h2 (.int i tk) x' hit' ?_ ⟨oT,keep2 T oT hTw gT,cT,nT,dT⟩ (by rw[hv.1];exact .int _ _) rx
  refine r.swap (fs':=fs') (fun q hq t ht=>?_) (fun c o hc e=>?_) fun q hq=>⟨at' q hq,?_⟩
  ·exact ap _ (hit.1▸List.mem_map_of_mem hq) t ht
  ·rw[hit.1]at hc
   exact keep2 c o hc (keep1 c o hc e)
  ·rw[hit.1,←hit'.1]
   exact List.mem_map_of_mem hq
 ·intro i W ρ H fr fs s Q E le r ap hit hn post
  obtain⟨vs,e1,hh⟩:=Zz0.mp hn
  obtain⟨_,xs,k1,g1,v1⟩:=r.at e1 (le.at ea)
  have hi:i=vs.length:=by
   split at hh
   ·cases hh
   ·split at hh
    ·assumption
    ·cases hh
  have st:ES e it l i s.heap:=hit.2 _ fun q hq=>r.frAt (Zz4 _ hq)
  have Wk:=WalksT.enumerate (prog:=prog) (w:=w) (A:=Γ.A) Γ.hh e it l hei hle hli xs.toArray
  have hm:xs.toArray.size=i:=by simp[v1.length,hi]
  refine Wk.done s Q E (by rw[hm];exact⟨st.1,st.2,⟨_,g1,rfl,k1,rfl⟩⟩) fun h' tk keep=>post h' tk ?_
  have:=r.swap (fs':=[]) (fun q hq t ht=>ap _ (hit.1▸List.mem_map_of_mem hq) t ht) (fun c o hc e=>keep c o (by rw[hit.1]at hc;exact hc) e) (fun q hq=>nomatch hq)
  exact this
 ·intro i W ρ H fr fs s Q E o le r hit hn q
  obtain⟨vs,e1,hh⟩:=Zz0.mp hn
  obtain⟨_,xs,k1,g1,v1⟩:=r.at e1 (le.at ea)
  have st:ES e it l i s.heap:=hit.2 _ fun q hq=>r.frAt (Zz4 _ hq)
  have Wk:=WalksT.enumerate (prog:=prog) (w:=w) (A:=Γ.A) Γ.hh e it l hei hle hli xs.toArray
  exact Wk.self i s Q E ⟨st.1,st.2,⟨_,g1,rfl,k1,rfl⟩⟩ q
theorem Zwd{x:Str}{np pos:Pos}{e1:Expr}{f:Ex}(hn:Nm prog w Γ x (.type "enumerate"))(h1:J prog w Γ e1 f)
  (he:starEach [e1] Γ.env=(false,eval e1 Γ.env)::starEach [] Γ.env:=by rfl) (hp:∀pos,(backTo pos (starEach [] Γ.env)).any (·.1)=false:=by intro _;rfl):JI2 prog w Γ (.Call (.Name x np) [e1] [] pos) (Zj2 f):=by
 intro W ρ H fr s Q E nx n H' r hf post
 obtain⟨p,a1,hf⟩:=Zz0.mp hf
 refine wpAny_Call_ofName (hn.use r ?_)
 refine PySem.Pv.callWith_type1 (wpAny_items_cons (h1 W ρ H fr s _ E _ _ r a1 fun W1 k1 t1 y1 l1 r1 v1=>wpAny_items_nil ?_) he) he (hp pos)
 obtain⟨u1,H1⟩:=p
 simp only at hf v1 r1
 cases u1 <;> first | (cases hf;done) | skip
 rename_i b1
 obtain⟨vs,c1,c3⟩:=Zz1.mp hf
 cases c3
 cases v1 with
 | @ref _ m1 ea=>
 obtain⟨_,xs,n1,g1,w1⟩:=r1.at c1 ea
 have isl1:k1.IsList m1 xs.toArray:=⟨_,g1,rfl,n1,rfl⟩
 refine call_enumerate_list (s:={ s with heap:=k1,toks:=t1 }) isl1 fun h₁ hE hI hsz up=>?_
 have hlt:m1<k1.objs.size:=Heap.lt_size g1
 have Wk:=WalksT.enumerate (prog:=prog) (w:=w) (A:=Γ.A) Γ.hh (k1.objs.size+1) k1.objs.size m1 (Nat.succ_ne_self _) (Nat.ne_of_lt (Nat.lt_succ_of_lt hlt)) (Nat.ne_of_lt hlt) xs.toArray
 have zs:ES (k1.objs.size+1) k1.objs.size m1 0 h₁:=⟨⟨_,hE⟩,hI⟩
 refine Wk.self 0 _ _ _ ⟨⟨_,hE⟩,hI,isl1.at fun o e=>up _ o e⟩ ?_
 obtain⟨fs,hit,at'⟩:=Zrs zs
 obtain⟨r3,ap3⟩:=r1.more (fs:=fs) (h':=h₁) (fun b o e=>up b o e) (fun q hq=>⟨at' q hq,by
  have:q.1∈fs.map (·.1):=List.mem_map_of_mem hq
  rw[hit.1]at this
  simp at this
  rcases this with e | e <;> rw[e] <;> omega⟩)
 refine post W1 h₁ t1 _ _ _ fs l1 hit r3 (fun b hb t ht=>?_) (Zxm ea (Nat.succ_ne_self _) (Nat.ne_of_lt (Nat.lt_succ_of_lt hlt)) (Nat.ne_of_lt hlt)) ?_
 ·rw[←hit.1]at hb
  obtain⟨q,hq,e⟩:=Zz11.mp hb
  exact e▸ap3 q hq t ht
 ·simp only[Zhu,c1,Option.bind_some]
  cases q:vs[0]? with
  | some x=>exact⟨_,rfl⟩
  | none=>
   have:vs.length=0:=by simpa using q
   simp[this]
theorem ZyJ{e1 e2 e3:Expr}{es:List Expr}{pos:Pos}{f g:Ex}(h1:J prog w Γ e1 f)(h2:J prog w Γ (.BoolOp .And (e2::e3::es) pos) g) (he:eval (.BoolOp .And (e1::e2::e3::es) pos) Γ.env=(do
  let v ←eval e1 Γ.env
  standAt pos
  let t ←holding [v] (truthy v)
  match BoolOp.And,t with
  | .And,false | .Or,true=>pure v
  | _,_=>eval (.BoolOp .And (e2::e3::es) pos) Γ.env):=by rfl):J prog w Γ (.BoolOp .And (e1::e2::e3::es) pos) (Zc6 f g):=by
 intro W ρ H fr s Q E v H' r hf post
 obtain⟨p,a1,hf⟩:=Zz0.mp hf
 obtain⟨b,a2,a3⟩:=Zz0.mp hf
 rw[he]
 refine wpAny_bind (wpAny_mono (h1 W ρ H fr s (fun x s₁=>wpAny (model prog w) Γ.A (truthy x) (fun t s₂=>if t then wpAny (model prog w) Γ.A (eval (.BoolOp .And (e2::e3::es) pos) Γ.env) Q E s₂ else Q x s₂) E s₁) E _ _ r a1 fun W1 k1 t1 x l1 r1 x1=>?_) (fun v s₁ h₁=>wpAny_bind (wpAny_standAt (wpAny_bind (wpAny_holding (wpAny_mono h₁ (fun t s₂ h₂=>?_) fun _ _ x=>x))))) fun _ _ x=>x)
 ·refine truth Γ W1 ρ _ fr _ _ E _ x b r1 x1 a2 fun W2 k2 t2 l2 r2=>?_
  cases b with
  | true=>exact h2 W2 ρ _ fr _ Q E _ H' r2 a3 fun W3 k3 t3 z l3 r3 z3=>post W3 k3 t3 z ((l1.trans l2).trans l3) r3 z3
  | false=>
   cases a3
   exact post W2 k2 t2 x (l1.trans l2) r2 (x1.mono l2)
 ·cases t with
  | false=>exact wpAny_pure h₂
  | true=>exact h₂
end
end PM
end
section
namespace TM
open PySem PM
noncomputable def Zfs(a b:T): Option Bool:=(ZcZ ZbK a).bind fun d=>(ZcZ ZbK b).bind fun e=>inD d e
noncomputable def qIn(a b:T): Option T:=(Zfs a b).map .bool
theorem ZyK{H:Hp}{v1 v2:V}{t1 t2:T}{F1 F2:List Nat}(r1:RF H v1 t1 F1)(r2:RF H v2 t2 F2): Zpd v1 v2 H=Zfs t1 t2:=by
 simp only[Zpd,Zfs,ZjG ZbK _ _ _ r1,ZjG ZbK _ _ _ r2]
theorem Zgl: OA2 oIn qIn:=fun H v1 v2 t1 t2 t F1 F2 r1 r2 h=>by
 obtain⟨c,h1,h⟩:=Zz1.mp h
 subst h
 exact⟨_,by simp only[oIn,ZyK r1 r2,h1,Option.map_some],.bool _⟩
theorem ZoM{d:T}: ∀{ts:List T},(∀t∈ts,(PyData.eqv (dd t) (dd d)=true↔t=d))→((dds ts).any fun y=>PyData.eqv y (dd d))=dec (d∈ts)
 | [],_=>by simp[dds,ZaM]
 | t::ts,h=>by
  have ih:=ZoM (d:=d) (ts:=ts) fun t m=>h t (Zz2 _ m)
  simp only[dds,List.any_cons,ih]
  symm
  apply ZjI
  rw[Bool.or_eq_true,h t Zz5,dec_iff]
  simp[eq_comm]
theorem ZyL{n m:Nat}{a:T}{ts:List T}(ha:Pln n a)(hb:Pln m (.lst ts))(hn:n≤8:=by decide)(hm:m≤8:=by decide): Zfs a (.lst ts)=some (dec (a∈ts)):=by
 have ha:=ha.mono hn
 have hb:=hb.mono hm
 obtain⟨a1,a2,a3⟩:=ha.dat
 obtain⟨b1,b2,b3⟩:=hb.dat
 unfold Zfs ZbK
 rw[a1,b1]
 simp only[Option.bind_some,dd,inD]
 simp only[dd,PyData.canLay0]at b2
 rw[if_pos ⟨b2,a2,by omega⟩,ZoM]
 intro t m
 cases hb with
 | lst hs=>exact(hs t m).eqv ha
section
variable {Q:T→Prop}
theorem Zj3{n m:Nat}{a:T}{ts:List T}(ha:Pln n a)(hb:Pln m (.lst ts))(h:Q (.bool (dec (a∈ts))))(hn:n≤8:=by decide)(hm:m≤8:=by decide): Pk (qIn a (.lst ts)) Q:=⟨_,by simp only[qIn,ZyL ha hb hn hm,Option.map_some],h⟩
end
noncomputable def Zfm(ts:List T): List T:=List.zipWith (fun i t=>.tup [.int (i:Nat),t]) (List.range ts.length) ts
noncomputable def Zj4(p:PE): PG:=fun σ=>(p σ).bind fun t=>match t with
 | .lst ts=>some (Zfm ts)
 | _=>none
theorem Zwe{ts:List T}: (Zfm ts).length=ts.length:=by simp[Zfm]
theorem ZqP{H:Hp}: ∀{vs:List V} {ts:List T} {F:List Nat} (k:Nat),RFs H vs ts F→RFs H (List.zipWith (fun i v=>V.tup [.int (i:Nat),v]) (List.range' k ts.length) vs) (List.zipWith (fun i t=>T.tup [.int (i:Nat),t]) (List.range' k ts.length) ts) F
 | _,_,_,_,.nil=>.nil
 | _,_,_,k,.cons a b=>by
  rw[List.length_cons,List.range'_succ]
  have h1:RF H (V.tup [.int (k:Nat),_]) (T.tup [.int (k:Nat),_]) _:=.tup (.cons (.int _) (.one a))
  simpa using RFs.cons h1 (ZqP (k+1) b)
theorem Zxn{O N:List Nat}{u:Bool}{e:Ex}{p:PE}(x:E O N u e p): Gs O N (Zj2 e) (Zj4 p):=fun c ρ σ H Φ ts s h=>by
 obtain⟨t1,h1,h⟩:=Zz0.mp h
 obtain⟨v,X,F,a1,a2,a3,a4⟩:=x c ρ σ H Φ t1 s h1
 have hlt:=a2.lt
 cases a2 with
 | none=>cases h
 | bool=>cases h
 | int=>cases h
 | str=>cases h
 | tup=>cases h
 | @ref b vs us F' e1 hs=>
  cases h
  have hl:=hs.length
  refine⟨Zhu b,X,List.zipWith (fun i v=>V.tup [.int (i:Nat),v]) (List.range us.length) vs,F',b::F',by simp only[Zj2,a1,Option.bind_some,e1,Option.map_some,Zwe,hl],?_,fun _ m=>List.mem_cons_of_mem _ m,fun a m=>⟨hlt a m,a3 a m⟩,fun K hK i hi=>?_⟩
  ·have:=ZqP 0 hs
   unfold Zfm
   rw[List.range_eq_range']
   exact this
  ·simp only[Zhu,hK b Zz5,e1,Option.bind_some,List.getElem?_zipWith]
   simp only[List.length_zipWith,List.length_range]at hi
   by_cases q:i<vs.length
   ·rw[List.getElem?_eq_getElem q,List.getElem?_range (by omega)]
   ·rw[List.getElem?_eq_none (by omega),List.getElem?_eq_none (by simp;omega)]
    simp
    omega
theorem Zwf{n:Nat}{f:Nat→T}: Zfm (tab n f)=tab n fun i=>.tup [.int (i:Nat),f i]:=by
 unfold Zfm
 rw[Zao]
 have:List.range n=tab n fun i=>i:=by simp[tab]
 rw[this,Zrl,Nat.min_self]
section
variable {σ:TL} {L:List T→Prop}
def EnP(x:T)(L:List T→Prop): Prop:=∃ts,x=.lst ts∧L (Zfm ts)
theorem Zxo{f:PE}(h:Pk (f σ) fun t=>EnP t L): Pl (Zj4 f σ) L:=by
 obtain⟨t,a,ts,rfl,q⟩:=h;exact⟨_,by simp only[Zj4,a,Option.bind_some],q⟩
theorem Zxp{n:Nat}{f:Nat→T}(h:L (TM.tab n fun i=>.tup [.int (i:Nat),f i])): EnP (.lst (TM.tab n f)) L:=⟨_,rfl,by rw[Zwf];exact h⟩
end
noncomputable def Zj5(g:PG)(put:T→TL→Option TL)(b:PS): PS:=fun σ=>(g σ).bind fun ts=>if ts=[]then none else Zfr put b σ ts
end TM
end
section
namespace PM
open PySem PySem.W PySem.Calls PyProof.Rows PyProof
noncomputable def Zhv(o1 o2:V→V→Hp→Option (V×Hp))(f g h:Ex): Ts:=fun ρ H=>(f ρ H).bind fun p=>(g ρ p.2).bind fun q=>(o1 p.1 q.1 q.2).bind fun u=>(ZcS u.1 u.2).bind fun b=>if b then(h ρ u.2).bind fun x=>(o2 q.1 x.1 x.2).bind fun y=>(ZcS y.1 y.2).map fun c=>(c,y.2)else some (false,u.2)
section
variable {prog:Program} {w:World} {Γ:Cx}
theorem Zwg{e1 e2 e3:Expr}{op1 op2:CmpOp}{pos:Pos}{f g h:Ex}{o1 o2:V→V→Hp→Option (V×Hp)}(h1:J prog w Γ e1 f)(h2:J prog w Γ e2 g)(h3:J prog w Γ e3 h)(k1:Op2 prog w (compareOp op1) o1)(k2:Op2 prog w (compareOp op2) o2)(hm:lastMarks [op1,op2] [e2,e3]=false:=by with_unfolding_all rfl): JT prog w Γ (.Compare e1 [op1,op2] [e2,e3] pos) (Zhv o1 o2 f g h):=by
 intro W ρ H fr s Q E b H' r hf post
 obtain⟨p,a1,hf⟩:=Zz0.mp hf
 obtain⟨q,a2,hf⟩:=Zz0.mp hf
 obtain⟨u,a3,hf⟩:=Zz0.mp hf
 obtain⟨c,a4,hf⟩:=Zz0.mp hf
 refine isTrue_chain (h1 W ρ H fr s _ E _ _ r a1 fun W1 n1 t1 x l1 r1 x1=>?_) hm
 refine test_link (h2 W1 ρ _ fr _ _ E _ _ r1 a2 fun W2 n2 t2 y l2 r2 y2=>?_)
 refine k1 Γ W2 ρ _ fr _ _ E _ _ x y _ _ r2 (x1.mono l2) y2 a3 fun W3 n3 t3 z l3 r3 z3=>?_
 refine truth Γ W3 ρ _ fr _ _ E _ z c r3 z3 a4 fun W4 n4 t4 l4 r4=>?_
 cases c with
 | false=>
  cases hf
  exact post W4 n4 t4 (((l1.trans l2).trans l3).trans l4) r4
 | true=>
  simp only[if_true]at hf
  obtain⟨v,a5,hf⟩:=Zz0.mp hf
  obtain⟨v2,a6,hf⟩:=Zz0.mp hf
  obtain⟨d,a7,a8⟩:=Zz1.mp hf
  cases a8
  refine test_last (h3 W4 ρ _ fr _ _ E _ _ r4 a5 fun W5 n5 t5 y5 l5 r5 x5=>?_)
  refine k2 Γ W5 ρ _ fr _ _ E _ _ y y5 _ _ r5 (((y2.mono l3).mono l4).mono l5) x5 a6 fun W6 n6 t6 z6 l6 r6 x6=>?_
  exact truth Γ W6 ρ _ fr _ _ E _ z6 b r6 x6 a7 fun W7 n7 t7 l7 r7=>post W7 n7 t7 ((((((l1.trans l2).trans l3).trans l4).trans l5).trans l6).trans l7) r7
end
end PM
end
section
namespace TM
open PySem PM
section
variable {O N M K:List Nat} {u u' u'':Bool}
noncomputable def Zhw(q1 q2:T→T→Option T)(p1 p2 p3:PE): PB:=fun σ=>(p1 σ).bind fun x=>(p2 σ).bind fun y=>(q1 x y).bind fun z=>(ZbR z).bind fun b=>if b then(p3 σ).bind fun v=>(q2 y v).bind ZbR else some false
theorem Zwh{e1 e2 e3:Ex}{p1 p2 p3:PE}{q1 q2:T→T→Option T}{o1 o2:V→V→Hp→Option (V×Hp)}(k1:OA2 o1 q1)(k2:OA2 o2 q2)(x:E O N u e1 p1)(y:E O M u' e2 p2)(z:E O K u'' e3 p3): Bt O (Zhv o1 o2 e1 e2 e3) (Zhw q1 q2 p1 p2 p3):=fun c ρ σ H Φ b s h=>by
 obtain⟨t1,h1,h⟩:=Zz0.mp h
 obtain⟨t2,h2,h⟩:=Zz0.mp h
 obtain⟨t3,h3,h⟩:=Zz0.mp h
 obtain⟨b0,h4,h⟩:=Zz0.mp h
 obtain⟨v1,X,F,a1,a2,_,_⟩:=x c ρ σ H Φ t1 s h1
 obtain⟨v2,Y,G,b1,b2,_,_⟩:=y c ρ σ (H++X) Φ t2 (s.ext X) h2
 obtain⟨v3,c1,c2⟩:=k1 _ v1 v2 t1 t2 t3 F G (a2.ext Y) b2 h3
 have d1:=Zek c2 h4
 cases b0 with
 | false=>
  cases h
  exact⟨X++Y,by simp only[Zhv,a1,b1,Option.bind_some,c1,d1];simp⟩
 | true=>
  simp only[if_true]at h
  obtain⟨t5,h5,h⟩:=Zz0.mp h
  obtain⟨t6,h6,h⟩:=Zz0.mp h
  obtain⟨v5,Z,F5,e1,e2,_,_⟩:=z c ρ σ (H++X++Y) Φ t5 ((s.ext X).ext Y) h5
  obtain⟨v6,f1,f2⟩:=k2 _ v2 v5 t2 t5 t6 G F5 (b2.ext Z) e2 h6
  have g1:=Zek f2 h
  exact⟨X++Y++Z,by simp only[Zhv,a1,b1,Option.bind_some,c1,d1,if_true,e1,f1,g1,Option.map_some];simp⟩
def OIn(o:List V→Hp→Option (V×Hp))(q:List T→Option T): Prop:=∀(H:Hp) (vs:List V) (ts:List T) (t:T) (F1:List Nat),RFs H vs ts F1→q ts=some t→∃v F,o vs H=some (v,H)∧RF H v t F∧F.Sublist F1
theorem Zxq{n:Nat}{es:Exs}{ps:PEs}{q:List T→Option T}{o:List V→Hp→Option (V×Hp)}(k:OIn o q)(x:Es O N u n es ps): E O N u (Zr o es) (Zq q ps):=fun c ρ σ H Φ t s h=>by
 obtain⟨ts,h1,h⟩:=Zz0.mp h
 obtain⟨_,vs,X,F,a1,a2,a3,a4⟩:=x c ρ σ H Φ ts s h1
 obtain⟨w,G,b1,b2,b3⟩:=k _ vs ts t F a2 h
 exact⟨w,X,G,by simp only[Zr,a1,Option.bind_some,b1],b2,fun a m=>a3 a (b3.subset m),fun hu=>(a4 hu).sublist b3⟩
theorem Zwi: OIn ZfY Zjj:=fun H vs ts t F r h=>by
 unfold Zjj at h
 split at h
 ·obtain⟨v,rfl,r'⟩:=r.one_inv
  cases r' with
  | @ref a vs1 _ F1 e hs=>cases h;exact⟨.tup vs1,F1,by simp only[ZfY,e,Option.map_some],.tup hs,List.sublist_cons_self _ _⟩
 ·obtain⟨v,rfl,r'⟩:=r.one_inv
  cases r' with
  | @tup vs1 _ _ hs=>cases h;exact⟨.tup vs1,_,by simp only[ZfY],.tup hs,List.Sublist.refl _⟩
 ·cases h
end
theorem ZyM{O O1 R J Ns:List Nat}{fr:Bool}{g:Src}{q:PG}{put:V→Lc→Option Lc}{pput:T→TL→Option TL}{b:Sm}{qb:PS}(hg:Gs O Ns g q)(hj:PutOk O J put pput)(hj1:PutOk O1 J put pput)(hJ:∀i∈J,i∉O)(hJ1:∀i∈J,i∉O1)(hN:∀i∈Ns,i∉O)(hb:S O O1 R fr b qb)(hb1:S O1 O1 R fr b qb): S O O1 R fr (Za1 g put b) (Zj5 q pput qb):=fun c ρ σ H Φ r s h=>by
 obtain⟨ts,h1,h⟩:=Zz0.mp h
 obtain⟨nx,X,vs,F,G,g1,g2,g3,g4,g5⟩:=hg c ρ σ H Φ ts s h1
 split at h
 ·cases h
 ·rename_i hne
  cases ts with
  | nil=>exact absurd rfl hne
  | cons t rs=>
   cases g2 with
   | @cons v _ F1 ws _ F2 a b'=>
   have sx:=s.ext X
   have hsrc:∀a∈G,c.H0.length≤a∨c.P a:=fun a m=>s.from_src (g4 a m).2
   have hoff:∀a∈G,¬Zc0 O σ Φ a:=fun a m ⟨k,hk,⟨t,e⟩,q⟩=>s.from_off hN (g4 a m).2 hk e q
   obtain⟨σ1,p0,h⟩:=Zz0.mp h
   obtain⟨r1,h2,h⟩:=Zz0.mp h
   obtain⟨ρ1,Φ1,p1,s1,p3,p4⟩:=hj c ρ σ (H++X) Φ v t F1 σ1 sx a (fun x m=>hsrc x (g3 x (Zz4 _ m))) (fun k hk t' e x m q=>hoff x (g3 x (Zz4 _ q)) ⟨k,hk,⟨t',e⟩,m⟩) p0
   have hh:∀x,Zc0 O σ1 Φ1 x→Zc0 O σ Φ x:=fun x ⟨k,hk,⟨t',e⟩,m⟩=>by
    obtain⟨q1,q2⟩:=p3 k fun q=>hJ k q hk
    exact⟨k,hk,⟨t',q1▸e⟩,q2▸m⟩
   obtain⟨ρ2,K2,Φ2,w1,w2,w3⟩:=hb c ρ1 σ1 (H++X) Φ1 r1 s1 h2
   have e0:nx 0 (H++X)=some (some v):=by have:=g5 (H++X) (fun _ _=>rfl) 0 (Nat.zero_le _);simpa using this
   have estep:Za1 g put b ρ H=(b ρ1 (H++X)).bind fun q=>match q.1 with
     | some _=>some q
     | none=>Zdl nx put b (rs.length+1) 1 q.2.1 q.2.2:=by
    simp only[Za1,g1,Option.bind_some,List.length_cons]
    show(nx 0 (H++X)).bind _=_
    rw[e0]
    first | (simp only[Option.bind_some,p1];done) | (simp only[Option.bind_some,p1];rfl)
   rw[estep]
   refine Aft.grow (X:=X) ?_
   rcases w3 with⟨k1,k2,k3,k4⟩ | ⟨t',v',F',k1,k2,k3⟩
   ·rw[k1]at h
    have hG2:∀a∈G,K2[a]?=(H++X)[a]?:=fun x m=>w2 x (g4 x m).1 fun q=>hoff x m (hh x q)
    have hoff2:∀a∈G,¬Zc0 O1 r1.2 Φ2 a:=fun x m q=>by
     rcases k4 x q with q | q
     ·have:=(g4 x m).1;omega
     ·exact hoff x m (hh x q)
    have ih:=ZnK hj1 hJ1 hb1 (H1:=H++X) (fun a m=>(g4 a m).1) hsrc g5 rs ws 1 ρ2 r1.2 K2 Φ2 F2 r (fun j=>by rw[Nat.add_comm];simp) (by simp;omega) k3 w1 hG2 hoff2 (b'.frame fun x m=>hG2 x (g3 x (Zz3 _ m))) (fun x m=>g3 x (Zz3 _ m)) h
    rw[k2]
    simp only[Option.bind_some]
    obtain⟨ρ3,K3,Φ3,l1,l2,l3⟩:=ih
    refine⟨ρ3,K3,Φ3,by omega,fun x hx hn=>?_,?_⟩
    ·rw[l2 x (by omega) fun q=>(k4 x q).elim (fun q=>by omega) fun q=>hn (hh x q),w2 x hx fun q=>hn (hh x q)]
    ·rcases l3 with⟨m1,m2,m3,m4⟩ | l
     ·refine .inl ⟨m1,m2,m3,fun x q=>?_⟩
      rcases m4 x q with q | q
      ·exact .inl (by omega)
      ·exact(k4 x q).imp id (hh x)
     ·exact .inr l
   ·rw[k1]at h
    cases h
    refine⟨ρ2,K2,Φ2,w1,fun x hx hn=>w2 x hx fun q=>hn (hh x q),.inr ⟨t',v',F',k1,?_,k3⟩⟩
    rw[k2]
    rfl
section
variable {σ:TL} {Q:T→Prop} {B:Bool→Prop} {R:T→Prop} {N:TL→Prop}
theorem Zwj{q1 q2:T→T→Option T}{f g h:PE}(k:Pk (f σ) fun x=>Pk (g σ) fun y=>Pk (q1 x y) fun z=>Pb (ZbR z) fun b=>(b=true→Pk (h σ) fun v=>Pk (q2 y v) fun w=>Pb (ZbR w) B)∧(b=false→B false)): Pb (Zhw q1 q2 f g h σ) B:=by
 obtain⟨x,a1,y,a2,z,a3,b,a4,k1,k2⟩:=k
 cases b with
 | false=>exact⟨false,by simp[Zhw,a1,a2,a3,a4],k2 rfl⟩
 | true=>
  obtain⟨v,b1,w,b2,c,b3,q⟩:=k1 rfl
  exact⟨c,by simp[Zhw,a1,a2,a3,a4,b1,b2,b3],q⟩
theorem Zxr{g:PG}{j n:Nat}{a:Nat→T}{b:PS}(hn:0<n)(hg:Pl (g σ) fun ts=>ts=tab n a)(P:Nat→TL→Prop)(h0:P 0 σ)(h1:∀i σ,i<n→P i σ→Psk (b (Z8 σ j (a i))) R (P (i+1)))(h2:∀σ,P n σ→N σ): Psk (Zj5 g (Zak j) b σ) R N:=by
 obtain⟨o,s,e,q⟩:=Zdj (R:=R) (N:=N) (b:=b) (j:=j) hg P h0 h1 h2
 obtain⟨ts,e1,rfl⟩:=hg
 refine⟨o,s,?_,q⟩
 have hne:tab n a≠[]:=fun h=>by have:=congrArg List.length h;rw[Zao]at this;simp at this;omega
 simp only[Zj5,e1,Option.bind_some,hne,if_false]
 simpa only[Za3,e1,Option.bind_some]using e
end
end TM
end
section
namespace TM
open PySem PM
theorem Zvk{fr:Bool}: SimF fr (fun _ _=>none) (fun _=>none):=by
 intro H vs ts t F1 hp r h
 cases h
end TM
end
section
namespace TM
open PySem PM
def Keep0(g:Sm): Prop:=∀ρ H r,g ρ H=some r→r.2.1 0=ρ 0
theorem Keep0.next: Keep0 ZY:=fun ρ H r h=>by cases h;rfl
theorem ZiT{e:Ex}: Keep0 (Zca e):=fun ρ H r h=>by
 obtain⟨_,_,q⟩:=Zz1.mp h
 subst q;rfl
theorem Keep0.ret{e:Ex}: Keep0 (ZE e):=fun ρ H r h=>by
 obtain⟨_,_,q⟩:=Zz1.mp h
 subst q;rfl
theorem Keep0.put{f o i:Ex}: Keep0 (ZbV f o i):=fun ρ H r h=>by
 obtain⟨_,_,h⟩:=Zz0.mp h
 obtain⟨_,_,h⟩:=Zz0.mp h
 obtain⟨_,_,h⟩:=Zz0.mp h
 obtain⟨_,_,q⟩:=Zz1.mp h
 subst q;rfl
theorem Keep0.seq{a b:Sm}(x:Keep0 a)(y:Keep0 b): Keep0 (Zu a b):=fun ρ H r h=>by
 obtain⟨r1,e1,h⟩:=Zz0.mp h
 have h1:=x ρ H r1 e1
 split at h
 ·cases h;exact h1
 ·exact(y _ _ _ h).trans h1
theorem ZiU{t:Ts}{a b:Sm}(x:Keep0 a)(y:Keep0 b): Keep0 (ZP t a b):=fun ρ H r h=>by
 obtain⟨p,_,h⟩:=Zz0.mp h
 split at h
 ·exact x _ _ _ h
 ·exact y _ _ _ h
theorem Keep0.set{i:Nat}{e:Ex}(hi:0≠i): Keep0 (ZO i e):=fun ρ H r h=>by
 obtain⟨_,_,q⟩:=Zz1.mp h
 subst q
 simp[upd,hi]
def SimM(f:List V→Hp→Option (V×Hp))(p:List T→Option T): Prop:=∀(H:Hp) (v:V) (vs:List V) (t:T) (ts:List T) (t':T) (F0 F1:List Nat),0<H.length→RF H v t F0→F0.Nodup→0∉F0→RFs H vs ts F1→(∀a∈F0,a∉F1)→p (t::ts)=some t' →
 ∃w H' F',f (v::vs) H=some (w,H')∧H.length≤H'.length∧(∀a,a<H.length→a∉F0→H'[a]?=H[a]?)∧RF H' v t' F'∧F'.Nodup∧∀a∈F',H.length≤a∨a∈F0
noncomputable def ZeF(n:Nat)(q:PS): List T→Option T:=fun ts=>if ts.length=n then(q fun i=>ts[i]?).bind fun r=>r.2 0 else none
theorem Zjn{O':List Nat}{n:Nat}{g:Sm}{q:PS}(h:S [0] O' [0] false g q)(h0:0∈O')(hk:Keep0 g): SimM (ZU n g) (ZeF n q):=fun H v vs t ts t' F0 F1 hp r0 nd n0 rs dj e=>by
 unfold ZeF at e
 split at e
 ·rename_i hl
  obtain⟨r1,e1,e2⟩:=Zz0.mp e
  obtain⟨Φ,hΦ⟩:=rs.slots
  have st:St ⟨H,F0,fun a=>a∈F0∨a∈F1⟩ [0] (fun i=>(v::vs)[i]?) (fun i=>(t::ts)[i]?) H (fun i=>match i with | 0=>F0 | i+1=>Φ i):=by
   refine⟨fun i u e=>?_,fun i u e a m=>?_,fun i hi u e=>?_,Nat.le_refl _,fun a _ _=>rfl,hp,n0⟩
   ·cases i with
    | zero=>simp at e;subst e;exact⟨v,rfl,r0⟩
    | succ i=>
     simp at e
     obtain⟨w,h1,h2,_⟩:=hΦ i u e
     exact⟨w,by simpa using h1,h2⟩
   ·cases i with
    | zero=>exact .inr (.inl m)
    | succ i=>
     simp at e
     obtain⟨w,h1,h2,h3⟩:=hΦ i u e
     exact .inr (.inr (h3 a m))
   ·have:i=0:=by simpa using hi
    subst this
    refine⟨nd,fun a m=>.inr m,fun j u' hj ej a m=>?_⟩
    cases j with
    | zero=>exact absurd rfl hj
    | succ j=>
     simp at ej
     obtain⟨w,h1,h2,h3⟩:=hΦ j u' ej
     exact fun q=>dj a m (h3 a q)
  obtain⟨ρ',H',Φ',h1,h2,h3⟩:=h _ _ _ _ _ _ st e1
  have hv:(v::vs).length=n:=by rw[←hl];simp[rs.length]
  have go:∀(o:Option V) (O2:List Nat),0∈O2→g (fun i=>(v::vs)[i]?) H=some (o,ρ',H')→St ⟨H,F0,fun a=>a∈F0∨a∈F1⟩ O2 ρ' r1.2 H' Φ'→∃w H' F',ZU n g (v::vs) H=some (w,H')∧H.length≤H'.length∧(∀a,a<H.length→a∉F0→H'[a]?=H[a]?)∧RF H' v t' F'∧F'.Nodup∧∀a∈F',H.length≤a∨a∈F0:=by
   intro o O2 hO eg s2
   obtain⟨v',ev,rv⟩:=s2.slot 0 t' e2
   have kk:=hk _ _ _ eg
   have:v'=v:=by
    have k2:ρ' 0=some v:=kk
    rw[ev]at k2
    cases k2
    rfl
   subst this
   obtain⟨o1,o2,_⟩:=s2.own 0 hO t' e2
   exact⟨o.getD .none,H',Φ' 0,by simp only[ZU,hv,if_true,eg,Option.map_some],h1,s2.keep,rv,o1,o2⟩
  rcases h3 with⟨k1,k2,k3,k4⟩ | ⟨u,v',F',k1,k2,k3,k4,k5,k6⟩
  ·exact go none O' h0 k2 k3
  ·exact go (some v') [0] List.mem_cons_self k2 k4
 ·cases e
noncomputable def ZdI(x:Nat)(p:List T→Option T)(ps:PEs): PS:=fun σ=>(ps σ).bind fun ts=>(σ x).bind fun t=>(p (t::ts)).map fun t'=>(none,Z8 σ x t')
section
variable {O O' R N:List Nat} {fr u:Bool}
theorem Zfa{x n:Nat}{f:List V→Hp→Option (V×Hp)}{p:List T→Option T}{es:Exs}{ps:PEs}(hx:x∈O)(k:SimM f p)(y:Es O N u n es ps)(hN:x∉N)(hO:∀j∈O',j∈O): S O O' R fr (Zca (Zr f (Ze (Zb x) es))) (ZdI x p ps):=fun c ρ σ H Φ r s q=>by
 obtain⟨ts,h1,q⟩:=Zz0.mp q
 obtain⟨t,h2,q⟩:=Zz0.mp q
 obtain⟨t',h3,q⟩:=Zz1.mp q
 subst q
 obtain⟨v,ev,rv⟩:=s.slot x t h2
 obtain⟨o1,o2,o3⟩:=s.own x hx t h2
 have hlow:∀k t,σ k=some t→∀a∈Φ k,a<H.length:=fun k t e a m=>by
  obtain⟨_,_,r⟩:=s.slot k t e
  exact r.lt a m
 obtain⟨_,vs,X,F,a1,a2,a3,_⟩:=y c ρ σ H Φ ts s h1
 have hp:0<(H++X).length:=by have:=s.pos;have:=s.len;rw[List.length_append];omega
 have hlen:(H++X).length=H.length+X.length:=List.length_append
 have dj:∀a∈Φ x,a∉F:=fun a m q=>by
  rcases a3 a q with h | ⟨j,hj,⟨tj,ej⟩,mj⟩
  ·have:=hlow x t h2 a m;omega
  ·exact o3 j tj (fun e=>hN (e▸hj)) ej a m mj
 obtain⟨w,H',F',b1,b2,b3,b4,b5,b6⟩:=k (H++X) v vs t ts t' (Φ x) F hp (rv.ext X) o1 (fun m=>Zog s hx h2 m rfl) a2 dj h3
 have same:∀a,a<H.length→a∉Φ x→H'[a]?=H[a]?:=fun a ha hn=>by
  rw[b3 a (by omega) hn,List.getElem?_append_left ha]
 have eg:Zca (Zr f (Ze (Zb x) es)) ρ H=some (none,ρ,H'):=by
  simp only[Zca,Zr,Ze,Zb,ev,Option.map_some,Option.bind_some,a1,b1]
 refine⟨ρ,H',Zam Φ x F',by omega,fun a ha hn=>same a ha fun m=>hn ⟨x,hx,⟨t,h2⟩,m⟩,.inl ⟨rfl,eg,⟨fun i u' e=>?_,fun i u' e a m=>?_,fun i hi u' e=>?_,by have:=s.len;omega,fun a ha hn=>?_,s.pos,s.f0⟩,fun a hh=>?_⟩⟩
 ·by_cases c1:i=x
  ·subst c1
   simp only[Z8,if_true,Option.some.injEq]at e
   subst e
   exact⟨v,ev,by simpa [Zam]using b4⟩
  ·simp only[Z8,c1,if_false]at e
   obtain⟨v2,e2,r2⟩:=s.slot i u' e
   refine⟨v2,e2,?_⟩
   simp only[Zam,c1,if_false]
   exact r2.frame fun a m=>same a (hlow i u' e a m) fun q=>o3 i u' c1 e a q m
 ·by_cases c1:i=x
  ·subst c1
   simp only[Zam,if_true]at m
   rcases b6 a m with h | h
   ·exact .inl (by have:=s.len;omega)
   ·exact s.src i t h2 a h
  ·simp only[Z8,c1,if_false]at e
   simp only[Zam,c1,if_false]at m
   exact s.src i u' e a m
 ·by_cases c1:i=x
  ·subst c1
   refine⟨by simpa [Zam]using b5,fun a m=>?_,fun j u2 hj ej a m=>?_⟩
   ·simp only[Zam,if_true]at m
    rcases b6 a m with h | h
    ·exact .inl (by have:=s.len;omega)
    ·exact o2 a h
   ·simp only[Zam,if_true]at m
    simp only[Z8,hj,if_false]at ej
    simp only[Zam,hj,if_false]
    intro q
    have hq:=hlow j u2 ej a q
    rcases b6 a m with h | h
    ·omega
    ·exact o3 j u2 hj ej a h q
  ·simp only[Z8,c1,if_false]at e
   obtain⟨q1,q2,q3⟩:=s.own i (hO i hi) u' e
   refine⟨by simpa [Zam,c1]using q1,fun a m=>?_,fun j u2 hj ej a m=>?_⟩
   ·simp only[Zam,c1,if_false]at m
    exact q2 a m
   ·simp only[Zam,c1,if_false]at m
    by_cases c2:j=x
    ·subst c2
     simp only[Zam,if_true]
     intro q
     have hm:=hlow i u' e a m
     rcases b6 a q with h | h
     ·omega
     ·exact q3 j t hj h2 a m h
    ·simp only[Z8,c2,if_false]at ej
     simp only[Zam,c2,if_false]
     exact q3 j u2 hj ej a m
 ·have hs:=s.keep a ha hn
  rw[same a (by have:=s.len;omega) fun m=>?_]
  ·exact hs
  ·rcases o2 a m with h | h
   ·omega
   ·exact hn h
 ·obtain⟨j,hj,⟨u',e⟩,m⟩:=hh
  by_cases c1:j=x
  ·subst c1
   simp only[Zam,if_true]at m
   rcases b6 a m with h | h
   ·exact .inl (by omega)
   ·exact .inr ⟨j,hx,⟨t,h2⟩,h⟩
  ·simp only[Z8,c1,if_false]at e
   simp only[Zam,c1,if_false]at m
   exact .inr ⟨j,hO j hj,⟨u',e⟩,m⟩
end
section
variable {σ:TL} {R:T→Prop} {N:TL→Prop}
theorem Zga{x:Nat}{p:List T→Option T}{ps:PEs}{t:T}(e:σ x=some t)(h:Pl (ps σ) fun ts=>Pk (p (t::ts)) fun t'=>N (Z8 σ x t')): Psk (ZdI x p ps σ) R N:=by
 obtain⟨ts,e1,t',e2,q⟩:=h
 exact⟨none,Z8 σ x t',by simp only[ZdI,e1,e,Option.bind_some,e2,Option.map_some],by simp,fun _=>q⟩
theorem Zon{n:Nat}{q:PS}{ts:List T}{Q:T→Prop}(hn:ts.length=n)(h:Psk (q fun i=>ts[i]?) (fun _=>False) fun σ=>∃t,σ 0=some t∧Q t): Pk (ZeF n q ts) Q:=by
 obtain⟨o,s,e,h1,h2⟩:=h
 cases o with
 | none=>
  obtain⟨t,e2,q2⟩:=h2 rfl
  exact⟨t,by simp only[ZeF,hn,if_true,e,Option.bind_some,e2],q2⟩
 | some u=>exact absurd (h1 u rfl) (by simp)
end
end TM
end
section
namespace TM
open PySem PM
section
variable {O N M:List Nat}
theorem ZyN{e1 e2:Ex}{p1 p2:PE}(x:E O N true e1 p1)(y:E O M true e2 p2)(hN:∀i∈N,i∈O)(hM:∀i∈N,i∉M): E O (N++M) true (Zh Zae e1 e2) (Zg Z4 p1 p2):=fun c ρ σ H Φ t s h=>by
 obtain⟨t1,h1,h⟩:=Zz0.mp h
 obtain⟨t2,h2,h⟩:=Zz0.mp h
 obtain⟨v1,X,F1,a1,a2,a3,a4⟩:=x c ρ σ H Φ t1 s h1
 obtain⟨v2,Y,F2,b1,b2,b3,b4⟩:=y c ρ σ (H++X) Φ t2 (s.ext X) h2
 have a2':=a2.ext Y
 have dj:∀a∈F1,a∉F2:=fun a ha hb=>by
  have hlt:=a2.lt a ha
  rcases b3 a hb with h | ⟨j,hj,⟨tj,ej⟩,mj⟩
  ·omega
  ·obtain⟨vj,_,rj⟩:=s.slot j tj ej
   have:=rj.lt a mj
   rcases a3 a ha with h | ⟨i,hi,⟨ti,ei⟩,mi⟩
   ·omega
   ·exact(s.own i (hN i hi) ti ei).2.2 j tj (fun q=>hM i hi (q▸hj)) ej a mi mj
 have nd1:=a4 rfl
 have nd2:=b4 rfl
 have f1:∀a∈F1,From H (N++M) σ Φ a:=fun a m=>(a3 a m).mono fun i hi=>List.mem_append_left _ hi
 have f2:∀a∈F2,From H (N++M) σ Φ a:=fun a m=>(b3 a m).back.mono fun i hi=>List.mem_append_right _ hi
 have ev:∀r,Zae v1 v2 (H++X++Y)=some r→Zh Zae e1 e2 ρ H=some r:=fun r hr=>by simp only[Zh,a1,b1,Option.bind_some,hr]
 have ndA:∀{A B:List Nat},A.Nodup→B.Nodup→(∀a∈A,a∉B)→(A++B).Nodup:=fun ha hb hd=>by
  rw[List.nodup_append]
  exact⟨ha,hb,fun a m b m' e=>hd a m (e▸m')⟩
 cases a2' with
 | none=>cases h
 | bool=>cases h
 | str=>cases h
 | int a=>
  cases b2 <;> first | (cases h;done) | skip
  cases h
  exact⟨_,X++Y,[],ev _ (by simp[Zae]),.int _,by simp,by simp⟩
 | tup hs1=>
  cases b2 with
  | none=>cases h
  | bool=>cases h
  | str=>cases h
  | int=>cases h
  | ref=>cases h
  | tup hs2=>
   simp only[Z4]at h
   split at h
   ·rename_i hl
    cases h
    refine⟨_,X++Y,_,ev _ ?_,.tup (by rw[←List.append_assoc];exact hs1.append hs2),fun a m=>?_,fun _=>ndA nd1 nd2 dj⟩
    ·simp only[Zae]
     rw[if_pos (by rw[List.length_append]at hl ⊢;rw[hs1.length,hs2.length];exact hl),List.append_assoc]
    ·rcases Zz8.mp m with m | m
     ·exact f1 a m
     ·exact f2 a m
   ·cases h
 | @ref r1 vs1 _ G1 e1' hs1=>
  cases b2 with
  | none=>cases h
  | bool=>cases h
  | str=>cases h
  | int=>cases h
  | tup=>cases h
  | @ref r2 vs2 _ G2 e2' hs2=>
   simp only[Z4]at h
   split at h
   ·rename_i hl
    cases h
    have hR:=hs1.append hs2
    refine⟨.ref (H++X++Y).length,X++Y++[vs1++vs2],(H++X++Y).length::(G1++G2),ev _ ?_,?_,fun a m=>?_,fun _=>?_⟩
    ·simp only[Zae,e1',e2',Option.bind_some]
     rw[if_pos (by rw[List.length_append]at hl ⊢;rw[hs1.length,hs2.length];exact hl)]
     simp
    ·rw[show H++(X++Y++[vs1++vs2])=H++X++Y++[vs1++vs2]by simp]
     exact .ref (by simp) (hR.ext _)
    ·rcases Zz7.mp m with rfl | m
     ·exact .inl (by simp)
     ·rcases Zz8.mp m with m | m
      ·exact f1 a (Zz2 _ m)
      ·exact f2 a (Zz2 _ m)
    ·refine List.nodup_cons.mpr ⟨fun m=>?_,ndA (List.nodup_cons.mp nd1).2 (List.nodup_cons.mp nd2).2 fun a m m'=>dj a (Zz2 _ m) (Zz2 _ m')⟩
     have:=hR.lt _ m
     omega
   ·cases h
end
end TM
end
section
namespace PM
open PySem PySem.W PySem.Calls PyProof.Rows PyProof PyProof.Rows.LCg PyProof.Rows.LCp
section
variable {prog:Program} {w:World} {Γ:Cx}
theorem Zuf{elt iter:Expr}{x x₂ y:Str}{px px₂ tp py pos spos:Pos}{kt:Nat}{scope:Scope}{cl:List (Str×Addr)}{t t₂ i:Nat}{g:Src}{f:Ex}(hy:Sto prog w Γ y i)(hg:JI2 prog w Γ iter g)(hel:∀C ρ,J prog w (Zbe Γ scope cl C [(x,t),(x₂,t₂)] ρ) elt f)
  (hsw:swapsWith (.ListComp elt [⟨.Tuple [.Name x px,.Name x₂ px₂] kt tp,iter,[],0⟩] scope pos) (some (.Name y py)) spos.line Γ.env=pure true)
  (hclos:closureFor scope Γ.env=pure cl) (hcell:∀y∈scope.names,y.2≠.cell) (hkind:scope.kind=.function) (hnames:∀y∈scope.names,y.2=.local→scope.names.lookup y.1=some .local) (hx:scope.names.lookup x=some .local) (hx₂:scope.names.lookup x₂=some .local) (hxx:x≠x₂) (htt:t≠t₂) (hs:∀x,foldedSetIterable iter Γ.env x=pure x:=by intro _;rfl):
  S1 prog w Γ (.Assign [.Name y py] (.ListComp elt [⟨.Tuple [.Name x px,.Name x₂ px₂] kt tp,iter,[],0⟩] scope pos) spos) (ZO i (Zaz g (Zb2 t t₂) Zat f)):=by
 intro W ρ H fr s Q E r rp hf post
 obtain⟨p,e0,e9⟩:=Zz1.mp hf
 cases e9
 obtain⟨z,e1,hf⟩:=Zz0.mp e0
 obtain⟨q,e2,e3⟩:=Zz1.mp hf
 cases e3
 rw[exec_Assign_Name_used _ _ _ _ hsw]
 refine wpAny_bind (wpAny_standAt (wpAny_bind ?_))
 show wpAny _ Γ.A (do let _ ←comprehension (.ListComp elt [⟨.Tuple [.Name x px,.Name x₂ px₂] kt tp,iter,[],0⟩] scope pos) scope Γ.env _ (newList []) false (eval iter Γ.env) (some (assign (.Name y py) Γ.env))) _ _ s
 refine wpAny_bind (wpAny_mono (wpAny_comprehension_free (use:=some (assign (.Name y py) Γ.env)) (Q:=fun _ s'=>Q .next s') rfl hs hclos hkind hnames ?_) (fun _ s' h'=>wpAny_pure (wpAny_pure h')) fun _ _ e=>e)
 refine Zp0 (RR:=fun acc C=>compPost (model prog w) Γ.A E (some (assign (.Name y py) Γ.env)) (fun _ s'=>Q .next s') acc C) hg hel hcell hkind hx hx₂ hxx htt rp (q:=q) (by rw[e1];exact e2) fun W2 h' tk' C D oC m₂ ys l2 hC hv hl aD aC cd r3=>?_
 have r4:Rep Γ W2 ρ q.2 ((D,lst ys)::(C,oC)::fr) h':=r3.less fun t ht=>by
  rcases Zz7.mp ht with e | ht
  ·exact e▸List.mem_cons_of_mem _ Zz5
  ·rcases Zz7.mp ht with e | ht
   ·exact e▸List.mem_cons_self
   ·exact Zz2 _ (Zz2 _ ht)
 obtain⟨W5,l5,r5,v5⟩:=ZgT r4 (fun t ht=>by
  rcases Zz7.mp ht with e | ht
  ·rw[e]
   exact cd.symm
  ·exact aD t ht) hv hl
 refine wpAny_assign_Name (hy W5 ρ _ _ _ _ _ _ _ r5 v5 fun h6 t6 r6=>?_)
 refine⟨m₂,hC.ns (r6.frAt (q:=(C,oC)) Zz5),fun h'' sb=>?_⟩
 have r7:Rep Γ W5 (upd ρ i (.ref q.2.length)) (q.2++[q.1]) ([]++fr) h'':=
  Rep.swap (fs:=[(C,oC)]) (fs':=[]) r6 (fun q hq t ht=>by rw[List.mem_singleton.mp hq];exact aC t ht) (fun b o hb e=>sb.extBut b o (fun z=>hb (by simp[z])) e) fun q hq=>nomatch hq
 exact post W5 h'' t6 (l2.trans l5) r7
end
end PM
end
section
namespace PM
open PySem PySem.W PySem.Calls PyProof.Rows PyProof
noncomputable def Zdn(ns:List Int): List Int:=ns.mergeSort fun a b=>decide (a≤b)
theorem ZqQ{ns ms:List Int}(h1:ms.Perm ns)(h2:ms.Pairwise (·≤·)): ms=Zdn ns:=by
 refine List.Perm.eq_of_pairwise (le:=fun a b:Int=>a≤b) (fun a b _ _ h h'=>Int.le_antisymm h h') h2 ?_ (h1.trans (List.mergeSort_perm ns _).symm)
 have:=List.pairwise_mergeSort (le:=fun a b:Int=>decide (a≤b)) (fun a b c h h'=>by simp at *;omega) (fun a b=>by simp;omega) ns
 unfold Zdn
 simpa using this
theorem Zvl{ns:List Int}: (Zdn ns).length=ns.length:=(List.mergeSort_perm ns _).length_eq
theorem Zoo{W:Wd}: ∀{vs:List V} {xs:List Value} {ks:List Int},VRs W vs xs→ZdC vs=some ks→IntsAre xs ks:=by
 intro vs
 induction vs with
 | nil=>intro xs ks h e;cases h;cases e;exact .nil
 | cons v vs ih=>
  intro xs ks h e
  cases h with
  | cons a b=>
   cases v with
   | int i=>
    obtain⟨js,e1,e2⟩:=Zz1.mp e
    subst e2
    cases a with
    | int _ t=>exact .cons i t (ih b e1)
   | none=>cases e
   | bool=>cases e
   | str=>cases e
   | tup=>cases e
   | ref=>cases e
theorem Zrt{W:Wd}: ∀{xs:List Value} {ks:List Int},IntsAre xs ks→VRs W (ks.map V.int) xs
 | _,_,.nil=>.nil
 | _,_,.cons n t r=>.cons (.int n t) (Zrt r)
noncomputable def Zhn: List V→Hp→Option (V×Hp)
 | [.ref a],H=>H[a]?.bind fun vs=>(ZdC vs).bind fun ns=>if vs.length<64 then some (.ref H.length,H++[(Zdn ns).map V.int])else none
 | _,_=>none
section
variable {prog:Program} {w:World}
theorem Zvm: OpN prog w (fun xs=>call (.builtin "sorted") xs) Zhn:=by
 intro Γ W ρ H fr s Q E as xs v H' r hx ho post
 unfold Zhn at ho
 split at ho
 ·obtain⟨vs,e1,ho⟩:=Zz0.mp ho
  obtain⟨ks,e3,ho⟩:=Zz0.mp ho
  split at ho
  ·rename_i h64
   cases ho
   obtain⟨x,ex,rx⟩:=hx.one
   subst ex
   cases rx with
   | @ref _ a ea=>
    obtain⟨hl,ys,k,hg,hv⟩:=r.at e1 ea
    have isl:s.heap.IsList a ys.toArray:=⟨_,hg,rfl,k,rfl⟩
    refine sorted_ints isl (Zoo hv e3) (by rw[hv.length];exact h64) fun out ms a1 a2 a3=>?_
    have em:=ZqQ a2 a3
    subst em
    obtain⟨q,hq⟩:=sortedAll_at s.heap ys out
    have hlen:ks.length=vs.length:=by rw[←hv.length];exact(Zoo hv e3).length.symm
    obtain⟨r2,ap⟩:=r.more (h':=sortedAll s.heap ys out) (fs:=[(s.heap.objs.size+1,ZbU out.toList q)]) (fun b o hb=>sortedAll_old hb) (fun u hu=>by
     rw[List.mem_singleton.mp hu]
     refine⟨?_,Nat.le_succ _⟩
     rw[hq])
    obtain⟨W2,l2,r3,v3⟩:=ZgT r2 (fun t ht=>ap _ Zz5 t ht) (Zrt a1) (by rw[List.length_map,Zvl,hlen];exact hl)
    exact post W2 _ s.toks _ l2 r3 v3
  ·cases ho
 ·cases ho
end
end PM
namespace PM
open PySem PySem.W PySem.Calls PyProof.Rows PyProof PySem.SeqAt
open SeqRoads2 MeetsSeq3 MeetsSeq2 MeetsSeq AutoSeq1
theorem ZuC(l:Addr)(its:Array Value)(n:Nat)(dd:Option Addr)(sl:Array (Option Value))(x:Value)(tk:Tok)(e:Value→Bool)(j:Nat)(hj:j<its.size)(h1:1≤j)(small:(j:Int)<2 ^ 63-1)
  (hit:e its[j]=true) (no:∀m (hm:m<its.size),1≤m→m<j→e its[m]=false):
  Meets (Builtin.«list.index» ⟨[.ref l,x,.int 1 tk],[]⟩) fun A R s=>s.heap.get? l=some { cls:=.type "list",dict:=dd,data:=.seq its n,slots:=sl }∧(∀y,y∈its→EqAt A.in1 s y x (e y))∧R (.ok (.ret (.int j s.toks))) { s with toks:=s.toks+1 }:=by
 intro prog w A R s h
 obtain⟨hp,g,d,tk',os⟩:=s
 obtain⟨hq0,he,h⟩:=h
 wp_walk using wpAny_loadPart' hq0
 have b1:((fun i:Int=>if i<0 then max 0 (i+(its.size:Int))else i) ((some (1:Int)).getD 0))=((1:Nat):Int):=by simp
 have b2:((fun i:Int=>if i<0 then max 0 (i+(its.size:Int))else i) ((Option.none:Option Int).getD (2 ^ 63-1)))=2 ^ 63-1:=by simp
 rw[b1,b2]
 refine⟨plainId_quiet plain_index_loop _,codeAny_builtin entry_index_loop ?_⟩
 rw[Around.under_plainId plain_index_loop _];exact index_loopAt l its n dd sl x e (2 ^ 63-1) j hj small hit _ 1 rfl h1 no prog w A R _ ⟨hq0,he,h⟩
section
variable {prog:Program} {w:World} {A:Around} {E:Value→Shared→Prop} {s:Shared}
theorem Zug{l:Addr}{vs:List Value}{ns:List Int}{k:Int}{t t':Tok}{Q:Value→Shared→Prop}(hl:s.heap.IsList l vs.toArray)(hi:IntsAre vs ns)(hn:ns.length≤100000)(hk:k∈ns.drop 1)
  (h:Q (.int ((1+(ns.drop 1).idxOf k:Nat)) s.toks) { s with toks:=s.toks+1 }):wpAny (model prog w) A (call (.builtin "list.index") [.ref l,.int k t,.int 1 t']) Q E s:=by
 obtain⟨⟨c0,dd,da,sl⟩,ho,ec,n,ed⟩:=id hl
 simp only at ec ed
 subst ec ed
 have hlen:=hi.length
 have hj:(ns.drop 1).idxOf k<(ns.drop 1).length:=List.idxOf_lt_length_iff.mpr hk
 have hj':1+(ns.drop 1).idxOf k<ns.length:=by rw[List.length_drop]at hj;omega
 refine call_meets PySem.F.slot_list_index ⟨_,ho,rfl⟩ PySem.F.entry_list_index (PySem.F.args_list_index_3 _ _ _) (ZuC l vs.toArray n dd sl (.int k t) t' (isInt k) (1+(ns.drop 1).idxOf k) (by simpa [hlen]using hj') (by omega) (by omega) ?_ ?_) ⟨ho,fun y hy=>(eq_isInt k t hi y (by simpa using hy)).at _ _,h⟩
 ·show isInt k vs[1+(ns.drop 1).idxOf k]=true
  rw[isInt_at k hi _ (by omega) hj']
  have:=List.getElem_idxOf hj
  rw[List.getElem_drop]at this
  simpa using this
 ·intro m hm h1 h2
  show isInt k vs[m]=false
  rw[isInt_at k hi m (by simpa using hm) (by have:=hm;simp[hlen]at this;omega)]
  have hm':m-1<(ns.drop 1).length:=by rw[List.length_drop];omega
  have:=ne_of_lt_idxOf (k:=k) (ns:=ns.drop 1) (j:=m-1) (by omega) hm'
  rw[List.getElem_drop]at this
  simpa [show 1+(m-1)=m by omega]using this
end
noncomputable def ZjL: V→V→V→Hp→Option (V×Hp)
 | .ref a,.int k,.int b,H=>H[a]?.bind fun vs=>(ZdC vs).bind fun ns=>if b=1∧k∈ns.drop 1 then some (.int ((1+(ns.drop 1).idxOf k:Nat):Int),H)else none
 | _,_,_,_=>none
noncomputable def Zhx(f g h:Ex): Ex:=fun ρ H=>(f ρ H).bind fun p=>(g ρ p.2).bind fun q=>(h ρ q.2).bind fun u=>ZjL p.1 q.1 u.1 u.2
section
variable {prog:Program} {w:World} {Γ:Cx}
theorem Zuh{a b c:V}{H:Hp}{r:V×Hp}(h:ZjL a b c H=some r): ∃i k vs ns,a=.ref i∧b=.int k∧c=.int 1∧H[i]?=some vs∧ZdC vs=some ns∧k∈ns.drop 1∧r=(.int ((1+(ns.drop 1).idxOf k:Nat):Int),H):=by
 unfold ZjL at h
 split at h
 ·obtain⟨vs,e1,h⟩:=Zz0.mp h
  obtain⟨ns,e2,h⟩:=Zz0.mp h
  split at h
  ·rename_i q
   cases h
   obtain⟨rfl,q⟩:=q
   exact⟨_,_,vs,ns,rfl,rfl,rfl,e1,e2,q,rfl⟩
  ·cases h
 ·cases h
theorem J.index{o e1 e2:Expr}{apos pos:Pos}{f g k:Ex}(ho:J prog w Γ o f)(h1:J prog w Γ e1 g)(h2:J prog w Γ e2 k)(hbase:attributeBase o "index" Γ.env (eval o Γ.env)=eval o Γ.env:=by rfl)
  (hline:(apos.endLine == pos.line)=true:=by rfl) (htrees:backTo pos (starEach [e1,e2] Γ.env)=[(false,eval e1 Γ.env),(false,eval e2 Γ.env)]:=by rfl) (hstay:∀ρ H p,f ρ H=some p→∀q,g ρ p.2=some q→p.2=q.2:=by intro _ _ _ _ _ h;cases h;rfl) (hstay2:∀ρ H p,g ρ H=some p→∀q,k ρ p.2=some q→p.2=q.2:=by intro _ _ _ _ _ h;cases h;rfl):J prog w Γ (.Call (.Attribute o "index" apos) [e1,e2] [] pos) (Zhx f g k):=by
 intro W ρ H fr s Q E v H' r hx post
 obtain⟨p,x1,hx⟩:=Zz0.mp hx
 obtain⟨q,x2,hx⟩:=Zz0.mp hx
 obtain⟨u,x3,x4⟩:=Zz0.mp hx
 obtain⟨i,kk,vs,ns,ea,eb,ec,hvs,hns,hmem,er⟩:=Zuh x4
 refine wpAny_Call_method2_late hbase hline htrees (ho W ρ H fr s _ E _ _ r x1 fun W1 k1 t1 x l1 r1 y1=>?_)
 rw[ea]at y1
 have s1:=hstay ρ H p x1 q x2
 have s2:=hstay2 ρ p.2 q x2 u x3
 cases y1 with
 | @ref _ a aa=>
 obtain⟨hl,xs,n,hg,hv⟩:=r1.at (by rw[s1,s2];exact hvs) aa
 refine⟨"list","list.index",PySem.F.plainAttrs_list,PySem.F.slot_list_index,PySem.F.type_list_index,(show k1.IsList a xs.toArray from⟨_,hg,rfl,n,rfl⟩).typeIs,fun b eb=>by cases eb;exact⟨_,hg,rfl⟩,?_⟩
 refine Calls.callWith_builtin rfl (Calls.evalArgs_plain (Calls.spliced_cons ?_))
 refine h1 W1 ρ _ fr _ _ E _ _ r1 x2 fun W2 k2 t2 y l2 r2 y2=>Calls.spliced_cons ?_
 refine h2 W2 ρ _ fr _ _ E _ _ r2 x3 fun W3 k3 t3 z l3 r3 z3=>Calls.spliced_nil ?_
 rw[eb]at y2
 rw[ec]at z3
 cases y2 with
 | int _ ty=>
 cases z3 with
 | int _ tz=>
 obtain⟨hl3,xs3,n3,hg3,hv3⟩:=r3.at hvs (l3.at (l2.at aa))
 rw[Zba]at hl3
 have hI:=Zoo hv3 hns
 refine Zug ⟨_,hg3,rfl,n3,rfl⟩ hI (by rw[←hI.length,hv3.length];omega) hmem ?_
 have:=post W3 k3 (t3+1) (.int ((1+(ns.drop 1).idxOf kk:Nat):Int) t3) ((l1.trans l2).trans l3)
 cases er
 exact this r3 (.int _ _)
end
end PM
end
section
namespace TM
open PySem PM
theorem ZnP{H:Hp}: ∀ks:List Int,RFs H (ks.map V.int) (ks.map T.int) []
 | []=>.nil
 | k::ks=>.cons (.int k) (ZnP ks)
noncomputable def Zjo: List T→Option T
 | [.lst ts]=>(Zdm ts).bind fun ns=>if ts.length<64 then some (.lst ((Zdn ns).map T.int))else none
 | _=>none
theorem Zwk: OCn Zhn Zjo:=fun H vs ts t F hp r h=>by
 unfold Zjo at h
 split at h
 ·obtain⟨v,rfl,r'⟩:=r.one_inv
  cases r' with
  | ref e hs=>
   obtain⟨ks,h1,h⟩:=Zz0.mp h
   split at h
   ·rename_i h64
    cases h
    refine⟨_,[(Zdn ks).map V.int],_,?_,Zd8 (ZnP (Zdn ks)),fun a m=>?_,fun _=>?_⟩
    ·simp only[Zhn,e,Option.bind_some,Zji hs h1]
     rw[if_pos (by rw[hs.length];exact h64)]
    ·rcases Zz7.mp m with rfl | m
     ·exact .inl (Zz10 _)
     ·cases m
    ·simp
   ·cases h
 ·cases h
noncomputable def Zhy(p q r:PE): PE:=fun σ=>(p σ).bind fun t=>(q σ).bind fun k=>(r σ).bind fun b=>match t,k,b with
 | .lst ts,.int k,.int b=>(Zdm ts).bind fun ns=>if b=1∧k∈ns.drop 1 then some (.int ((1+(ns.drop 1).idxOf k:Nat):Int))else none
 | _,_,_=>none
section
variable {O N M K:List Nat} {u u' u'':Bool}
theorem E.index{e1 e2 e3:Ex}{p1 p2 p3:PE}(x:E O N u e1 p1)(y:E O M u' e2 p2)(z:E O K u'' e3 p3): E O [] true (Zhx e1 e2 e3) (Zhy p1 p2 p3):=fun c ρ σ H Φ t s h=>by
 obtain⟨t1,h1,h⟩:=Zz0.mp h
 obtain⟨t2,h2,h⟩:=Zz0.mp h
 obtain⟨t3,h3,h⟩:=Zz0.mp h
 obtain⟨v1,X,F1,a1,a2,_,_⟩:=x c ρ σ H Φ t1 s h1
 obtain⟨v2,Y,F2,b1,b2,_,_⟩:=y c ρ σ (H++X) Φ t2 (s.ext X) h2
 obtain⟨v3,Z,F3,c1,c2,_,_⟩:=z c ρ σ (H++X++Y) Φ t3 ((s.ext X).ext Y) h3
 have a3:=(a2.ext Y).ext Z
 split at h
 ·obtain⟨ns,e1,h⟩:=Zz0.mp h
  split at h
  ·rename_i hc
   cases h
   cases b2
   cases c2
   cases a3 with
   | ref e hs=>
    refine⟨_,X++Y++Z,[],?_,.int _,by simp,by simp⟩
    have e':=e
    simp only[Zhx,a1,b1,c1,Option.bind_some,ZjL,e',Zji hs e1]
    rw[if_pos hc]
    simp
  ·cases h
 ·cases h
end
section
variable {σ:TL} {Q:T→Prop}
end
end TM
end
section
namespace TM
open PySem PM
theorem Zp2{nx:Nx}{put:V→Lc→Option Lc}{b:Sm}(hp:∀v ρ ρ',put v ρ=some ρ'→ρ' 0=ρ 0)(hb:Keep0 b): ∀n i,Keep0 (Zdl nx put b n i)
 | 0,_=>fun _ _ _ h=>by cases h
 | n+1,i=>fun ρ H r h=>by
  obtain⟨o,_,h⟩:=Zz0.mp h
  split at h
  ·cases h;rfl
  ·obtain⟨ρ1,e1,h⟩:=Zz0.mp h
   obtain⟨q,e2,h⟩:=Zz0.mp h
   have k:=(hb _ _ _ e2).trans (hp _ _ _ e1)
   split at h
   ·cases h;exact k
   ·exact(Zp2 hp hb n (i+1) _ _ _ h).trans k
theorem Zqr{g:Src}{put:V→Lc→Option Lc}{b:Sm}(hp:∀v ρ ρ',put v ρ=some ρ'→ρ' 0=ρ 0)(hb:Keep0 b): Keep0 (Za1 g put b):=fun ρ H r h=>by
 obtain⟨z,_,h⟩:=Zz0.mp h
 exact Zp2 hp hb _ _ _ _ _ h
theorem Zp3{i:Nat}(hi:0≠i): ∀v ρ ρ',PM.put1 i v ρ=some ρ'→ρ' 0=ρ 0:=fun v ρ ρ' h=>by
 cases h
 simp[upd,hi]
end TM
end
section
namespace My
open PySem
section
variable {prog:Program} {w:World} {A:Around} {E:Value→Shared→Prop} {s:Shared}
theorem fill_range{R:Result→Shared→Prop}{r:Addr}{a b c:Int}{t u v:Tok}{n:Nat}(hr:IsRange s.heap r a b c t u v)(hn:Builtin.Range.rangeSize a b c=n)(hlen:n≤2 ^ 24)(S:Addr)(res:Value)(c₀:Nat)
  (at_S:s.heap.get? S=some { cls:=.type "list",data:=.seq #[] c₀ }) (ito:Obj) {St:Nat→Heap→Prop} (W:Walks prog w A.in1 s.heap.objs.size [s.heap.objs.size] [s.heap.objs.size] n (fun i v=>∃t,v=.int (a+i*c) t) St)
  (st:∀g:Heap,g.get? s.heap.objs.size=some ito→St 0 g)
  (iter:∀(Q:Value→Shared→Prop) (E':Value→Shared→Prop),Q (.ref s.heap.objs.size) { s with heap:=s.heap.push ito }→wpAny (model prog w) A.in1 (pyIter (.ref r)) Q E' s) (hito:(s.heap.push ito).get? s.heap.objs.size=some ito)
  (out:∀g tk acc k,(∀b o,b≠S→s.heap.get? b=some o→g.get? b=some o)→g.get? S=some { cls:=.type "list",dict:=none,data:=.seq acc k,slots:=#[] }→ItemsOf (fun i v=>∃t,v=.int (a+i*c) t) acc n→R (.ok (.ret res)) { s with heap:=g,toks:=tk }):
  wpAny (model prog w) A.in1 (Builtin.List.listExtendWith (.ref S) (.ref r) res)
   (fun fin s'=>match fin with
    | .done f=>R (.ok f) s'
    | .again c'=>c'.quiet=true∧codeAny (model prog w) A c' R s') (fun e s'=>R (.error e) s') s:=by
 have ne_r:S≠r:=fun e=>by rw[e,hr]at at_S;simp at at_S
 have ne_I:S≠s.heap.objs.size:=Nat.ne_of_lt (Heap.lt_size at_S)
 have off:S∉[s.heap.objs.size]:=fun q=>ne_I (Zz9.mp q)
 have loop:∀(g:Heap) (k tk:Nat),g.get? s.heap.objs.size=some ito→(∀b o,b≠S→s.heap.get? b=some o→g.get? b=some o)→g.get? S=some { cls:=.type "list",data:=.seq #[] k } →
   codeAny (model prog w) A (.builtin "list.extend.loop" ⟨[.ref S,.ref s.heap.objs.size,res],[]⟩) R { s with heap:=g,toks:=tk }:=by
  intro g k tk at_I keeps at_S'
  refine codeAny_extend_loopS W.toS (by rw[sizeLine_eq];omega) S off res n 0 _ #[] k rfl (Nat.zero_le _) (st _ at_I) at_S' (ItemsOf.nil _) fun s' acc k' mv at_S'' its=>?_
  rw[Moved.eq_with mv]
  refine out s'.heap s'.toks acc k' (fun b o bS e=>mv.heap b o (fun q=>?_) (keeps b o bS e)) at_S'' its
  rcases Zz7.mp q with q | q
  ·exact bS q
  ·exact absurd (Heap.lt_size e) (by rw[List.mem_singleton.mp q];exact Nat.lt_irrefl _)
 unfold Builtin.List.listExtendWith
 refine wpAny_bind (wpAny_typeOf (T:="range") ⟨_,hr,rfl⟩ ?_)
 have z1:Builtin.List.listSameRef (.ref S) (.ref r)=false:=by simp[Builtin.List.listSameRef,ne_r]
 have z2:(Value.type "range" == Value.type "list")=false:=by decide
 have z3:(Value.type "range" == Value.type "tuple")=false:=by decide
 simp only[z1,z2,z3,Bool.or_false,Bool.false_eq_true,if_false]
 refine wpAny_bind (iter _ _ ?_)
 refine wpAny_bind (wpAny_holding (wpAny_hint_range (n:=n) (Heap.get?_push_of_some _ hr) hn hlen ?_))
 have at_S1:=Heap.get?_push_of_some ito at_S
 refine wpAny_ite_split (fun _=>?_) (fun _=>wpAny_pure ⟨plainId_quiet F.plain_extend_loop _,loop _ c₀ _ hito (fun b o _ e=>Heap.get?_push_of_some _ e) at_S1⟩)
 refine wpAny_bind (wpAny_rule ?_);refine wpAny_bind ?_
 show wpAny _ _ (updateSeq S (·.push .none) >>= fun _=>updateSeq S (·.pop)) _ _ _;refine wpAny_bind (wpAny_updateSeq at_S1 rfl ?_)
 have at_S2:=Heap.get?_update_self (Obj.mapSeq (·.push Value.none)) at_S1 rfl
 refine wpAny_updateSeq (hz:=by seq_fits) at_S2 rfl ?_
 have at_S3:=Heap.get?_update_self (Obj.mapSeq (·.pop)) at_S2 rfl
 refine wpAny_pure ⟨plainId_quiet F.plain_extend_loop _,loop _ _ _ ?_ (fun b o bS e=>?_) at_S3⟩
 ·exact(Heap.get?_update_other _ _ ne_I).trans ((Heap.get?_update_other _ _ ne_I).trans hito)
 ·exact(Heap.get?_update_other _ _ (Ne.symm bS)).trans ((Heap.get?_update_other _ _ (Ne.symm bS)).trans (Heap.get?_push_of_some _ e))
theorem fill_any{R:Result→Shared→Prop}{r:Addr}{a b c:Int}{t u v:Tok}{n:Nat}(hh:A.handled=none)(hr:IsRange s.heap r a b c t u v)(hn:Builtin.Range.rangeSize a b c=n)(hlen:n≤2 ^ 24)(S:Addr)(res:Value)(c₀:Nat)
  (at_S:s.heap.get? S=some { cls:=.type "list",data:=.seq #[] c₀ })
  (out:∀g tk acc k,(∀b o,b≠S→s.heap.get? b=some o→g.get? b=some o)→g.get? S=some { cls:=.type "list",dict:=none,data:=.seq acc k,slots:=#[] }→ItemsOf (fun i v=>∃t,v=.int (a+i*c) t) acc n→R (.ok (.ret res)) { s with heap:=g,toks:=tk }):
  wpAny (model prog w) A.in1 (Builtin.List.listExtendWith (.ref S) (.ref r) res)
   (fun fin s'=>match fin with
    | .done f=>R (.ok f) s'
    | .again c'=>c'.quiet=true∧codeAny (model prog w) A c' R s') (fun e s'=>R (.error e) s') s:=by
 by_cases sm:Builtin.Range.small a b c=true
 ·refine fill_range hr hn hlen S res c₀ at_S _ (Walks.range (prog:=prog) (w:=w) (A:=A.in1) hh s.heap.objs.size a c n) (fun g at_g=>?_) (fun Q' E' q=>wpAny_pyIter_range hr sm q) (Heap.get?_push_size _ rfl) out
  show IsRangeIter _ _ _ _ _
  rw[hn]at at_g
  simpa using at_g
 ·refine fill_range hr hn hlen S res c₀ at_S _ (Walks.longrange (prog:=prog) (w:=w) (A:=A.in1) hh s.heap.objs.size a c n) (fun g at_g=>?_) (fun Q' E' q=>wpAny_pyIter_longrange hr (by simpa using sm) q) (Heap.get?_push_size _ rfl) out
  show IsLongIter _ _ _ _ _
  rw[hn]at at_g
  simpa using at_g
theorem list_any{Q:Value→Shared→Prop}{r:Addr}{a b c:Int}{t u v:Tok}{n:Nat}(hh:A.handled=none)(hr:IsRange s.heap r a b c t u v)(hn:Builtin.Range.rangeSize a b c=n)(hlen:n≤2 ^ 24)
  (out:∀g tk acc k,(∀b o,s.heap.get? b=some o→g.get? b=some o)→g.get? s.heap.objs.size=some { cls:=.type "list",dict:=none,data:=.seq acc k,slots:=#[] }→ItemsOf (fun i v=>∃t,v=.int (a+i*c) t) acc n →
   Q (.ref s.heap.objs.size) { s with heap:=g,toks:=tk }):
  wpAny (model prog w) A (call (.type "list") [.ref r]) Q E s:=by
 refine callType_codes (Q₁:=fun obj s₁=>obj=.ref s.heap.objs.size∧s₁ = { s with heap:=s.heap.push { cls:=.type "list",data:=.seq #[] } }) F.called_list (F.typeCall_list_1 _) F.entry_list_init (code_list_new _ ⟨rfl,rfl⟩) fun obj s₁ h₁=>?_
 obtain⟨rfl,rfl⟩:=h₁
 have at_S:(s.heap.push { cls:=.type "list",data:=.seq #[] }).get? s.heap.objs.size=some { cls:=.type "list",data:=.seq #[] }:=Heap.get?_push_size _ rfl
 refine⟨⟨_,at_S,rfl⟩,F.args_list_init_2 _ _,?_⟩
 have hr':=Heap.get?_push_of_some { cls:=.type "list",data:=.seq #[] } hr
 have ne_r:s.heap.objs.size≠r:=fun e=>absurd (Heap.lt_size hr) (by rw[←e];exact Nat.lt_irrefl _)
 show wpAny _ _ (do let old ←Builtin.List.listItems (.ref s.heap.objs.size);Builtin.List.listUpdate (.ref s.heap.objs.size) (fun _=>#[]);letGo old.toList.reverse;Builtin.List.listExtendWith (.ref s.heap.objs.size) (.ref r) .none) _ _ _
 refine wpAny_bind ?_;unfold Builtin.List.listItems;refine wpAny_bind (wpAny_seqItems at_S rfl (wpAny_pure ?_))
 show wpAny _ _ (updateSeq s.heap.objs.size (fun _=>#[]) >>= fun _=>letGo (#[]:Array Value).toList.reverse >>= fun _=>Builtin.List.listExtendWith (.ref s.heap.objs.size) (.ref r) .none) _ _ _
 refine wpAny_bind (wpAny_updateSeq at_S rfl ?_)
 have at_S2:=Heap.get?_update_self (Obj.mapSeq (fun _=>(#[]:Array Value))) at_S rfl
 have oth:∀b o,b≠s.heap.objs.size→s.heap.get? b=some o→((s.heap.push { cls:=.type "list",data:=.seq #[] }).update s.heap.objs.size (Obj.mapSeq (fun _=>(#[]:Array Value)))).get? b=some o:=fun b o hb e=>(Heap.get?_update_other _ _ (Ne.symm hb)).trans (Heap.get?_push_of_some _ e)
 have hr2:=oth r _ (Ne.symm ne_r) hr
 refine wpAny_bind (wpAny_letGo ?_)
 refine' fill_any (t:=t) (u:=u) (v:=v) (A:=A.in1) (R:=wants (fun r s₂=>r=Value.none∧Q (Value.ref s.heap.objs.size) s₂) E) hh ?_ hn hlen s.heap.objs.size .none ?k0 ?k2 fun g tk acc k keeps at_g its=>?k3
 case k2=>exact at_S2
 ·exact hr2
 case k3=>exact⟨rfl,out g tk acc k (fun b o e=>keeps b o (Nat.ne_of_lt (Heap.lt_size e)) (oth b o (Nat.ne_of_lt (Heap.lt_size e)) e)) at_g its⟩
end
end My
end
section
namespace PM
open PySem PySem.W PySem.Calls PyProof.Rows PyProof
noncomputable def Zd2(a:Int)(n:Nat): List V:=(List.range n).map fun(i:Nat)=>V.int (a+i)
noncomputable def Zhz: List V→Hp→Option (V×Hp)
 | [.int a,.int b],H=>if 0≤b-a∧b-a≤1000 then some (.ref H.length,H++[Zd2 a (b-a).toNat])else none
 | _,_=>none
theorem Zwl{W:Wd}{a:Int}: ∀{n:Nat} {xs:List Value},xs.length=n→(∀(j:Nat) (v:Value),xs[j]?=some v→∃t:Tok,v=Value.int (a+(j:Int)*1) t)→VRs W (Zd2 a n) xs:=by
 intro n
 induction n generalizing a with
 | zero=>
  intro xs hl _
  have:xs=[]:=List.length_eq_zero_iff.mp hl
  subst this
  exact .nil
 | succ n ih=>
  intro xs hl hv
  cases xs with
  | nil=>cases hl
  | cons v xs=>
   obtain⟨t,e⟩:=hv 0 v rfl
   subst e
   have r:Zd2 a (n+1)=V.int (a+((0:Nat):Int)*1)::Zd2 (a+1) n:=by
    simp only[Zd2,List.range_succ_eq_map,List.map_cons,List.map_map]
    refine congr (congrArg _ (congrArg _ (by omega))) ?_
    apply List.map_congr_left
    intro i _
    show V.int _=V.int _
    congr 1
    simp only[Nat.succ_eq_add_one]
    omega
   rw[r]
   refine .cons (.int _ t) (ih (by simpa using hl) fun j u hu=>?_)
   obtain⟨t',e'⟩:=hv (j+1) u (by simpa using hu)
   refine⟨t',?_⟩
   rw[e']
   congr 1
   omega
section
variable {prog:Program} {w:World} {Γ:Cx}
theorem Zxs{x x2:Str}{np pos np2 pos2:Pos}{e:Expr}{es:List Expr}{g:Exs}(hn:Nm prog w Γ x (.type "list"))(hr:Nm prog w Γ x2 (.type "range"))(h:Js prog w Γ (e::es) g)
  (he:starEach (e::es) Γ.env=(false,eval e Γ.env)::starEach es Γ.env:=by rfl) (hp:∀pos,(backTo pos (starEach es Γ.env)).any (·.1)=false:=by intro _;rfl):J prog w Γ (.Call (.Name x np) [.Call (.Name x2 np2) (e::es) [] pos2] [] pos) (Zr Zhz g):=by
 intro W ρ H fr s Q E v H' r hf post
 obtain⟨p,e1,hf⟩:=Zz0.mp hf
 refine wpAny_Call_ofName (hn.use r ?_)
 refine PySem.Pv.callWith_type1 (wpAny_items_cons (wpAny_Call_ofName (hr.use r (PySem.Pv.callWith_type1 (h pos2 W ρ H fr s _ E _ _ r e1 fun W1 k1 t1 xs l1 r1 x1=>?_) he (hp pos2)))) rfl) rfl rfl
 obtain⟨vs,H1⟩:=p
 dsimp only at hf x1 r1
 unfold Zhz at hf
 split at hf
 ·obtain⟨y,z,ex,ry,rz⟩:=x1.two
  subst ex
  cases ry
  cases rz
  split at hf
  ·rename_i _ _ a b _ _ hc
   cases hf
   refine call_range_2 (wpAny_items_nil ?_)
   refine My.list_any (n:=(b-a).toNat) Γ.hh (IsRange.new ..) ?_ (by omega) fun g tk acc k up hg its=>?_
   ·unfold Builtin.Range.rangeSize
    rw[if_pos (by decide)]
    split
    ·omega
    ·omega
   have e:acc=acc.toList.toArray:=by simp
   obtain⟨W2,l2,r2,v2⟩:=(r1.push _).listAt (xs:=acc.toList) up (by rw[hg]) (Zwl (a:=a) (n:=(b-a).toNat) (by have:=its.1;simpa using this) fun j v hv=>its.2 j v (by simpa using hv)) (by simp[Zd2,LEN];omega)
   exact post W2 g tk _ (l1.trans l2) r2 v2
  ·cases hf
 ·cases hf
end
end PM
end
section
namespace TM
open PySem PM
noncomputable def ZhA: List T→Option T
 | [.int a,.int b]=>if 0≤b-a∧b-a≤1000 then some (.lst (tab (b-a).toNat fun i=>.int (a+i)))else none
 | _=>none
theorem Zxt: OCn Zhz ZhA:=fun H vs ts t F hp r h=>by
 unfold ZhA at h
 split at h
 ·split at h
  ·rename_i a b hc
   cases h
   cases r with
   | cons r1 r2=>
   obtain⟨v,rfl,r'⟩:=r2.one_inv
   cases r1
   cases r'
   have e1:Zd2 a (b-a).toNat=((List.range (b-a).toNat).map fun(i:Nat)=>a+(i:Int)).map V.int:=by rw[Zd2,List.map_map];rfl
   have e2:(tab (b-a).toNat fun i=>T.int (a+i))=((List.range (b-a).toNat).map fun(i:Nat)=>a+(i:Int)).map T.int:=by rw[tab,List.map_map];rfl
   refine⟨_,[Zd2 a (b-a).toNat],_,by simp only[Zhz];rw[if_pos hc],by rw[e1,e2];exact Zd8 (ZnP _),fun q m=>?_,fun _=>?_⟩
   ·rcases Zz7.mp m with rfl | m
    ·exact .inl (Zz10 _)
    ·cases m
   ·simp
  ·cases h
 ·cases h
section
variable {Q:T→Prop}
theorem Zwm{a b:Int}{n:Nat}(h:b=a+n)(hn:n≤1000)(q:Q (.lst (tab n fun i=>.int (a+i)))): Pk (ZhA [.int a,.int b]) Q:=by
 refine⟨_,?_,q⟩
 simp only[ZhA]
 rw[if_pos (by omega),show(b-a).toNat=n by omega]
end
end TM
end
section
namespace PM
open PySem PySem.W PySem.Calls PyProof.Rows PyProof PySem.Spec
noncomputable def ZjM: Expr→Bool
 | .Starred _ _=>true
 | _=>false
theorem Zo5{e:Expr}{es:List Expr}{env:Env}(h:ZjM e=false): starEach (e::es) env=(false,eval e env)::starEach es env:=by
 cases e <;> first | rfl | cases h
noncomputable def ZjN: List Expr→Bool
 | []=>true
 | e::es=>!ZjM e && ZjN es
theorem ZsC{env:Env}: ∀{es:List Expr} (pos:Pos),ZjN es=true→(backTo pos (starEach es env)).any (·.1)=false
 | [],pos,_=>by rfl
 | e::es,pos,h=>by
  simp only[ZjN,Bool.and_eq_true,Bool.not_eq_true']at h
  have ih:=ZsC (env:=env) (es:=es) pos h.2
  rw[Zo5 h.1]
  unfold backTo at ih ⊢
  simp only[List.map_cons,List.any_cons,Bool.false_or]
  exact ih
section
variable {prog:Program} {w:World} {Γ:Cx}
theorem jc{e:Expr}{es:List Expr}{f:Ex}{g:Exs}(h1:J prog w Γ e f)(h2:Js prog w Γ es g)(hs:ZjM e=false:=by exact rfl): Js prog w Γ (e::es) (Ze f g):=ZwL h1 h2 (Zo5 hs)
end
section
variable {prog:Program} {w:World} {K:Frag} {p:Program} {loose:List Str} {mean:ExcName→Option Value} {mg mb:Str→Option Value}
theorem Zwn{f:Addr}{room:Nat}: Def prog w K p loose mean mg mb f room (fun _ _=>none):=by
 intro Γ dp un clr hd hu W ρ H fr s Q E as xs v H' r hx hF post
 cases hF
end
end PM
end
section
namespace PM
open PySem PySem.W PySem.Calls PyProof.Rows PyProof PySem.Spec
section
variable {prog:Program} {w:World} {Γ:Cx}
theorem ln1{α:Type _}: ∀{xs:List α},xs.length=1→∃x0,xs=[x0]
 | [x0],_=>⟨x0,rfl⟩
theorem ln2{α:Type _}: ∀{xs:List α},xs.length=2→∃x0 x1,xs=[x0,x1]
 | [x0,x1],_=>⟨x0,x1,rfl⟩
theorem ln3{α:Type _}: ∀{xs:List α},xs.length=3→∃x0 x1 x2,xs=[x0,x1,x2]
 | [x0,x1,x2],_=>⟨x0,x1,x2,rfl⟩
theorem ln4{α:Type _}: ∀{xs:List α},xs.length=4→∃x0 x1 x2 x3,xs=[x0,x1,x2,x3]
 | [x0,x1,x2,x3],_=>⟨x0,x1,x2,x3,rfl⟩
theorem ln5{α:Type _}: ∀{xs:List α},xs.length=5→∃x0 x1 x2 x3 x4,xs=[x0,x1,x2,x3,x4]
 | [x0,x1,x2,x3,x4],_=>⟨x0,x1,x2,x3,x4,rfl⟩
theorem ln6{α:Type _}: ∀{xs:List α},xs.length=6→∃x0 x1 x2 x3 x4 x5,xs=[x0,x1,x2,x3,x4,x5]
 | [x0,x1,x2,x3,x4,x5],_=>⟨x0,x1,x2,x3,x4,x5,rfl⟩
theorem ln7{α:Type _}: ∀{xs:List α},xs.length=7→∃x0 x1 x2 x3 x4 x5 x6,xs=[x0,x1,x2,x3,x4,x5,x6]
 | [x0,x1,x2,x3,x4,x5,x6],_=>⟨x0,x1,x2,x3,x4,x5,x6,rfl⟩
theorem jI{k:Int}{n:Nat}{pos:Pos}: J prog w Γ (.Constant (.int k) n pos) (Zk k):=J.int _ _ _
theorem jN{n:Nat}{pos:Pos}: J prog w Γ (.Constant .none n pos) Z5:=J.none _ _
theorem jB{b:Bool}{n:Nat}{pos:Pos}: J prog w Γ (.Constant (.bool b) n pos) (ZbT b):=J.bool _ _ _
theorem jS{x:Str}{n:Nat}{pos:Pos}: J prog w Γ (.Constant (.str x) n pos) (Zb9 x):=J.str _ _ _
theorem cO{elt iter:Expr}{x:Str}{px:Pos}{ifs:List Expr}{scope:Scope}{pos:Pos}{cl:List (Str×Addr)}{t:Nat}{g:Src}{c:Ts}{f:Ex}(hg:JI prog w Γ iter g)(hel:∀C ρ,J prog w (Zbe Γ scope cl C [(x,t)] ρ) elt f)(hif:∀C ρ,JF prog w (Zbe Γ scope cl C [(x,t)] ρ) ifs c)
  (hclos:closureFor scope Γ.env=pure cl:=by with_unfolding_all rfl) (hcell:∀y∈scope.names,y.2≠.cell:=by decide) (hkind:scope.kind=.function:=by exact rfl) (hnames:∀y∈scope.names,y.2=.local→scope.names.lookup y.1=some .local:=by decide) (hx:scope.names.lookup x=some .local:=by exact rfl) (hs:∀x,foldedSetIterable iter Γ.env x=pure x:=by intro _;rfl):
  J prog w Γ (.ListComp elt [⟨.Name x px,iter,ifs,0⟩] scope pos) (Zaz g (put1 t) c f):=Zx6 hg hel hif hclos hcell hkind hnames hx hs
theorem cT{elt iter:Expr}{x x₂:Str}{px px₂ tp:Pos}{kt:Nat}{scope:Scope}{pos:Pos}{cl:List (Str×Addr)}{t t₂:Nat}{g:Src}{f:Ex}(hg:JI2 prog w Γ iter g)(hel:∀C ρ,J prog w (Zbe Γ scope cl C [(x,t),(x₂,t₂)] ρ) elt f)
  (hclos:closureFor scope Γ.env=pure cl:=by with_unfolding_all rfl) (hcell:∀y∈scope.names,y.2≠.cell:=by decide) (hkind:scope.kind=.function:=by exact rfl) (hnames:∀y∈scope.names,y.2=.local→scope.names.lookup y.1=some .local:=by decide) (hx:scope.names.lookup x=some .local:=by exact rfl) (hx₂:scope.names.lookup x₂=some .local:=by exact rfl) (hxx:x≠x₂:=by decide) (htt:t≠t₂:=by decide) (hs:∀x,foldedSetIterable iter Γ.env x=pure x:=by intro _;rfl):
  J prog w Γ (.ListComp elt [⟨.Tuple [.Name x px,.Name x₂ px₂] kt tp,iter,[],0⟩] scope pos) (Zaz g (Zb2 t t₂) Zat f):=ZwQ hg hel hclos hcell hkind hnames hx hx₂ hxx htt hs
theorem sO{elt iter:Expr}{x y:Str}{px py pos spos:Pos}{ifs:List Expr}{scope:Scope}{cl:List (Str×Addr)}{t i:Nat}{g:Src}{c:Ts}{f:Ex}(hy:Sto prog w Γ y i)(hg:JI prog w Γ iter g)(hel:∀C ρ,J prog w (Zbe Γ scope cl C [(x,t)] ρ) elt f)(hif:∀C ρ,JF prog w (Zbe Γ scope cl C [(x,t)] ρ) ifs c)
  (hsw:swapsWith (.ListComp elt [⟨.Name x px,iter,ifs,0⟩] scope pos) (some (.Name y py)) spos.line Γ.env=pure true:=by rfl)
  (hclos:closureFor scope Γ.env=pure cl:=by with_unfolding_all rfl) (hcell:∀y∈scope.names,y.2≠.cell:=by decide) (hkind:scope.kind=.function:=by exact rfl) (hnames:∀y∈scope.names,y.2=.local→scope.names.lookup y.1=some .local:=by decide) (hx:scope.names.lookup x=some .local:=by exact rfl) (hs:∀x,foldedSetIterable iter Γ.env x=pure x:=by intro _;rfl):
  S1 prog w Γ (.Assign [.Name y py] (.ListComp elt [⟨.Name x px,iter,ifs,0⟩] scope pos) spos) (ZO i (Zaz g (put1 t) c f)):=Zuy hy hg hel hif hsw hclos hcell hkind hnames hx hs
theorem sT{elt iter:Expr}{x x₂ y:Str}{px px₂ tp py pos spos:Pos}{kt:Nat}{scope:Scope}{cl:List (Str×Addr)}{t t₂ i:Nat}{g:Src}{f:Ex}(hy:Sto prog w Γ y i)(hg:JI2 prog w Γ iter g)(hel:∀C ρ,J prog w (Zbe Γ scope cl C [(x,t),(x₂,t₂)] ρ) elt f)
  (hsw:swapsWith (.ListComp elt [⟨.Tuple [.Name x px,.Name x₂ px₂] kt tp,iter,[],0⟩] scope pos) (some (.Name y py)) spos.line Γ.env=pure true:=by rfl)
  (hclos:closureFor scope Γ.env=pure cl:=by with_unfolding_all rfl) (hcell:∀y∈scope.names,y.2≠.cell:=by decide) (hkind:scope.kind=.function:=by exact rfl) (hnames:∀y∈scope.names,y.2=.local→scope.names.lookup y.1=some .local:=by decide) (hx:scope.names.lookup x=some .local:=by exact rfl) (hx₂:scope.names.lookup x₂=some .local:=by exact rfl) (hxx:x≠x₂:=by decide) (htt:t≠t₂:=by decide) (hs:∀x,foldedSetIterable iter Γ.env x=pure x:=by intro _;rfl):
  S1 prog w Γ (.Assign [.Name y py] (.ListComp elt [⟨.Tuple [.Name x px,.Name x₂ px₂] kt tp,iter,[],0⟩] scope pos) spos) (ZO i (Zaz g (Zb2 t t₂) Zat f)):=Zuf hy hg hel hsw hclos hcell hkind hnames hx hx₂ hxx htt hs
end
section
variable {prog:Program} {w:World} {dp un:Nat} {gd:Option (List Code)} {cn:Str} {cs:Scope} {L a:Addr} {ccd:Value} {cl:List (Str×Addr)} {outer:List Env} {h₀:Heap} {hu:un+200<cLine} {names:List Str}
theorem vL{x:Str}{i:Nat}{pos:Pos}(hi:names[i]?=some x:=by rfl)(hx:cs.names.lookup x=some .local:=by exact rfl)(hk:cs.kind=.function:=by exact rfl)(hd:(x == ("__debug__":Str))=false:=by exact rfl): J prog w (ZbL dp un gd cn cs L a ccd cl outer h₀ hu names) (.Name x pos) (Zb i):=Zj0 (Zx4 hi hx hk hd)
theorem vC{x:Str}{i:Nat}{pos:Pos}(hi:names[i]?=some x:=by rfl)(hx:cs.names.lookup x=some .cell:=by exact rfl)(hk:cs.kind=.function:=by exact rfl)(hd:(x == ("__debug__":Str))=false:=by exact rfl): J prog w (ZbL dp un gd cn cs L a ccd cl outer h₀ hu names) (.Name x pos) (Zb i):=Zj0 (Zx5 hi hx hk hd)
theorem sL{x:Str}{i:Nat}(nd:names.Nodup:=by decide)(hi:names[i]?=some x:=by rfl)(hx:cs.names.lookup x=some .local:=by exact rfl)(hk:cs.kind=.function:=by exact rfl): Sto prog w (ZbL dp un gd cn cs L a ccd cl outer h₀ hu names) x i:=ZwN nd hi hx hk
theorem sC{x:Str}{i:Nat}(nd:names.Nodup:=by decide)(hi:names[i]?=some x:=by rfl)(hx:cs.names.lookup x=some .cell:=by exact rfl)(hk:cs.kind=.function:=by exact rfl)(hcl:(cl.lookup x).isSome=true:=by exact rfl): Sto prog w (ZbL dp un gd cn cs L a ccd cl outer h₀ hu names) x i:=ZwO nd hi hx hk hcl
end
section
variable {prog:Program} {w:World} {K:Frag} {p:Program} {loose:List Str} {mean:ExcName→Option Value} {mg mb:Str→Option Value} {Γ:Cx} {dp un:Nat}
theorem nB{x:Str}{v:Value}(clr:Clr K p loose mean mg mb Γ dp un)(e:nsIn K mainGlobals x=some Option.none:=by k_is)(hv:bootBuiltins x=some v:=by boot_by_name)(hn:x≠"__name__":=by decide)(hg:Γ.env.globals=mainGlobals:=by exact rfl)(hb:Γ.env.builtins=builtinsNs:=by exact rfl)(hk:Γ.env.scope.kind=.function:=by exact rfl)(hx:Γ.env.kindOf x=some .globalImplicit:=by exact rfl)(hd:(x == ("__debug__":Str))=false:=by exact rfl): Nm prog w Γ x v:=ZvX clr e hv hn hg hb hk hx hd
theorem cF{x:Str}{np pos:Pos}{f:Addr}{room:Nat}{e:Expr}{es:List Expr}{g:Exs}{o:List V→Hp→Option (V×Hp)}(clr:Clr K p loose mean mg mb Γ dp un)(D:Def prog w K p loose mean mg mb f room o)(h:Js prog w Γ (e::es) g)
  (en:nsIn K mainGlobals x=some (some (.ref f)):=by k_is) (hg:Γ.env.globals=mainGlobals:=by exact rfl) (hk:Γ.env.scope.kind=.function:=by exact rfl) (hx:Γ.env.kindOf x=some .globalImplicit:=by exact rfl) (hd0:(x == ("__debug__":Str))=false:=by exact rfl)
  (hkeep:keepIn K (.ref f)=true:=by k_is) (hd:dp+room<recursionLimit:=by omega) (hu:un+10*room+300<cLine:=by omega)
  (he:ZjM e=false:=by exact rfl) (hp:ZjN es=true:=by exact rfl):J prog w Γ (.Call (.Name x np) (e::es) [] pos) (Zr o g):=ZwR clr (Zya clr en hg hk hx hd0) hkeep D hd hu h (Zo5 he) (fun pos=>ZsC pos hp)
theorem Dof{name qual:Str}{params:Arguments}{body:List Stmt}{scope:Scope}{dV kV doc pm cdv ct oc:Value}{an od:Option Addr}{osl:Array (Option Value)}{f:Addr}{names:List Str}{n room:Nat}{g:Sm}
  (hbody:∀(dp un:Nat) (gd:Option (List Code)) (L:Addr) (outer:List Env) (h₀:Heap) (hu:un+200<cLine),Clr K p loose mean mg mb (ZbL dp un gd qual scope L f cdv (cellsFrom (L+1) scope.names []) outer h₀ hu names) dp un→dp+room<recursionLimit→un+10*room+300<cLine →
   Ss prog w (ZbL dp un gd qual scope L f cdv (cellsFrom (L+1) scope.names []) outer h₀ hu names) body g)
  (ho:K.lookup f=some ⟨oc,od,.func (fnOf name qual params body scope dV kV doc pm an cdv ct),osl⟩:=by k_is) (hcd:codeIn K cdv qual=true:=by k_is) (nd:names.Nodup:=by decide) (hn:n≤names.length:=by decide)
  (hbind:∀s xs,xs.length=n→BindsTo s (fnOf name qual params body scope dV kV doc pm an cdv ct) ⟨xs,[]⟩ ((names.take n).zip xs):=by
   intro s xs hx
   first
   | (obtain⟨x0,rfl⟩:=ln1 hx;exact BindsTo.of_eq rfl)
   | (obtain⟨x0,x1,rfl⟩:=ln2 hx;exact BindsTo.of_eq rfl)
   | (obtain⟨x0,x1,x2,rfl⟩:=ln3 hx;exact BindsTo.of_eq rfl)
   | (obtain⟨x0,x1,x2,x3,rfl⟩:=ln4 hx;exact BindsTo.of_eq rfl)
   | (obtain⟨x0,x1,x2,x3,x4,rfl⟩:=ln5 hx;exact BindsTo.of_eq rfl)
   | (obtain⟨x0,x1,x2,x3,x4,x5,rfl⟩:=ln6 hx;exact BindsTo.of_eq rfl)
   | (obtain⟨x0,x1,x2,x3,x4,x5,x6,rfl⟩:=ln7 hx;exact BindsTo.of_eq rfl)) (hkinds:∀x∈names.take n,scope.names.lookup x=some .local∨scope.names.lookup x=some .cell:=by decide) (hone:((cellsFrom 0 scope.names []).map (·.1)).Nodup:=by decide +kernel)
  (hco:scope.isCoroutine=false:=by exact rfl) (hgen:scope.isGenerator=false:=by exact rfl) (hk:scope.kind=.function:=by exact rfl):
  Def prog w K p loose mean mg mb f (room+1) (ZU n g):=ZrY ho hcd nd hn hbind hkinds hone hco hgen hk hbody
end
section
variable {prog:Program} {w:World} {Γ:Cx} {scope:Scope} {cl:List (Str×Addr)} {C:Addr} {ts:List (Str×Nat)} {ρ0:Lc}
theorem vO{x:Str}{t:Nat}{pos:Pos}(hm:(x,t)∈ts:=by first | exact Zz5 | exact Zz2 _ Zz5)(hk:scope.kind=.function:=by exact rfl)(hl:(compEnvC scope cl C Γ.env).kindOf x=some .local:=by exact rfl)(hd:(x == ("__debug__":Str))=false:=by exact rfl): J prog w (Zbe Γ scope cl C ts ρ0) (.Name x pos) (Zb t):=Zj0 (ZwT hm hk hl hd)
end
section
variable {prog:Program} {w:World} {dp un:Nat} {gd:Option (List Code)} {cn:Str} {cs:Scope} {L a:Addr} {ccd:Value} {clf:List (Str×Addr)} {outer:List Env} {h₀:Heap} {hu:un+200<cLine} {names:List Str} {scope:Scope} {cl:List (Str×Addr)} {C:Addr} {ts:List (Str×Nat)} {ρ0:Lc}
theorem vD{x:Str}{i:Nat}{pos:Pos}(hi:names[i]?=some x:=by rfl)(hx:cs.names.lookup x=some .cell:=by exact rfl)(hne:∀p∈ts,p.2≠i:=by decide)(hcl:cl.lookup x=clf.lookup x:=by exact rfl)(hk:scope.kind=.function:=by exact rfl)(hl:(compEnvC scope cl C (envX cn cs L a ccd clf)).kindOf x=some .cell:=by exact rfl)(hd:(x == ("__debug__":Str))=false:=by exact rfl):
  J prog w (Zbe (ZbL dp un gd cn cs L a ccd clf outer h₀ hu names) scope cl C ts ρ0) (.Name x pos) (Zb i):=Zj0 (ZwU hi hx hne hcl hk hl hd)
end
end PM
end
noncomputable section
open PySem PM TM
namespace L
variable {H:Hp} {a:V} {t:T} {F:List Nat} {ρ:Lc} {σ:TL}
def ZlR: Sm:=Zu (ZO 2 (Zh Zae (Zh Za2 (Zh Za2 (Zb 1) (Zb 1)) (Zk 7919)) (Zk 11))) (Zu (ZP (ZL (Zh oGt (Zr ZaI (Ze (Zb 0) Zn)) (Zk 0))) (ZO 2 (Zh Zae (Zb 2) (Zh Zv (Zb 0) (Zh oMod (Zb 1) (Zr ZaI (Ze (Zb 0) Zn)))))) ZY) (ZE (Zb 2)))
def Zii:=ZU 2 ZlR
def ZlS: PS:=(Zs (ZN 2 (Zg Z4 (Zg ZaN (Zg ZaN (Za 1) (Za 1)) (Zj 7919)) (Zj 11))) (Zs (ZT (ZK (Zg qGt (Zq ZaB (Zd (Za 0) Zl)) (Zj 0))) (ZN 2 (Zg Z4 (Za 2) (Zg Zt (Za 0) (Zg ZaK (Za 1) (Zq ZaB (Zd (Za 0) Zl)))))) ZW) (ZF (Za 2))))
def ZgD:=ZZ 2 ZlS
theorem ZpM: SimF false Zii ZgD:=Zac (show S [] [] [] false ZlR ZlS from(Zz (Z2 (O':=[]) (Zaa Zai (Zaa Zbx (Zaa Zbx (Zc 1) (Zc 1)) (Zm _)) (Zm _))) (Zz (Z6 (ZM (ZD Zfq (ZaD ZaX (Zf (Zc 0) Zo)) (Zm _))) (Z2 (O':=[]) (Zaa Zai (Zc 2) (ZC ZB (Zc 0) (ZD ZaW (Zc 1) (ZaD ZaX (Zf (Zc 0) Zo)))))) Z9) (ZQ (Zc 2)))))
def Zms: Sm:=ZE (Zh oMod (Zh oMod (Zh Za2 (Zr Zii (Ze (Zb 0) (Ze (Zb 1) Zn))) (Zk 48271)) (Zk 2147483647)) (Zb 2))
def Za9:=ZU 3 Zms
def Zmt: PS:=(ZF (Zg ZaK (Zg ZaK (Zg ZaN (Zq ZgD (Zd (Za 0) (Zd (Za 1) Zl))) (Zj 48271)) (Zj 2147483647)) (Za 2)))
def ZaO:=ZZ 3 Zmt
theorem Zbj: SimF false Za9 ZaO:=Zac (show S [] [] [] false Zms Zmt from(ZQ (ZD ZaW (ZD ZaW (Zaa Zbx (ZG ZpM (Zf (Zc 0) (Zf (Zc 1) Zo))) (Zm _)) (Zm _)) (Zc 2))))
def Zlu: Sm:=Zu (ZO 2 (Zr Zii (Ze (Zb 0) (Ze (Zb 1) Zn)))) (Zu (ZO 3 (Zh Zv (Zbm (Ze (Zk 3) (Ze (Zk 9) (Ze (Zh oPow (Zk 10) (Zk 9)) (Ze (Zh oPow (Zk 10) (Zk 40)) Zn))))) (Zh oMod (Zh oMod (Zh Za2 (Zb 2) (Zk 69621)) (Zk 2147483629)) (Zk 4)))) (ZE (Zh Zbo (Zh oMod (Zh Za2 (Zb 2) (Zh oPow (Zk 48271) (Zk 9))) (Zh Zae (Zh Za2 (Zk 2) (Zb 3)) (Zk 1))) (Zb 3))))
def ZeJ:=ZU 2 Zlu
def Zlv: PS:=(Zs (ZN 2 (Zq ZgD (Zd (Za 0) (Zd (Za 1) Zl)))) (Zs (ZN 3 (Zg Zt (Za6 (Zd (Zj 3) (Zd (Zj 9) (Zd (Zg Zdp (Zj 10) (Zj 9)) (Zd (Zg Zdp (Zj 10) (Zj 40)) Zl))))) (Zg ZaK (Zg ZaK (Zg ZaN (Za 2) (Zj 69621)) (Zj 2147483629)) (Zj 4)))) (ZF (Zg Za7 (Zg ZaK (Zg ZaN (Za 2) (Zg Zdp (Zj 48271) (Zj 9))) (Zg Z4 (Zg ZaN (Zj 2) (Za 3)) (Zj 1))) (Za 3)))))
def Zed:=ZZ 2 Zlv
theorem Zgx: SimF false ZeJ Zed:=Zac (show S [] [] [] false Zlu Zlv from(Zz (Z2 (O':=[]) (ZG ZpM (Zf (Zc 0) (Zf (Zc 1) Zo)))) (Zz (Z2 (O':=[]) (ZC ZB (E.list (Zf (Zm _) (Zf (Zm _) (Zf (ZD Zo3 (Zm _) (Zm _)) (Zf (ZD Zo3 (Zm _) (Zm _)) Zo))))) (ZD ZaW (ZD ZaW (Zaa Zbx (Zc 2) (Zm _)) (Zm _)) (Zm _)))) (ZQ (ZD Zbw (ZD ZaW (Zaa Zbx (Zc 2) (ZD Zo3 (Zm _) (Zm _))) (Zaa Zai (Zaa Zbx (Zm _) (Zc 3)) (Zm _))) (Zc 3))))))
def ZlT: Sm:=Zu (ZO 2 (Zr Za9 (Ze (Zb 0) (Ze (Zb 1) (Ze (Zk 42) Zn))))) (Zu (ZP (ZL (Zh oLt (Zh oMod (Zb 2) (Zk 6)) (Zk 2))) (ZE (Z5)) ZY) (Zu (ZP (ZL (Zh oLt (Zh oMod (Zb 2) (Zk 6)) (Zk 4))) (ZE (Zk 0)) ZY) (Zu (ZP (ZL (Zh oEq (Zh oMod (Zb 2) (Zk 6)) (Zk 4))) (ZE (Zh oDiv (Zb 2) (Zk 6))) ZY) (ZE (Zr Zd4 (Ze (Zr ZeJ (Ze (Zb 0) (Ze (Zb 1) Zn))) Zn))))))
def ZlU:=ZU 2 ZlT
def ZlV: PS:=(Zs (ZN 2 (Zq ZaO (Zd (Za 0) (Zd (Za 1) (Zd (Zj 42) Zl))))) (Zs (ZT (ZK (Zg qLt (Zg ZaK (Za 2) (Zj 6)) (Zj 2))) (ZF (Zad)) ZW) (Zs (ZT (ZK (Zg qLt (Zg ZaK (Za 2) (Zj 6)) (Zj 4))) (ZF (Zj 0)) ZW) (Zs (ZT (ZK (Zg qEq (Zg ZaK (Za 2) (Zj 6)) (Zj 4))) (ZF (Zg ZcP (Za 2) (Zj 6))) ZW) (ZF (Zq Zd7 (Zd (Zq Zed (Zd (Za 0) (Zd (Za 1) Zl))) Zl)))))))
def Zij:=ZZ 2 ZlV
theorem Zui: SimF false ZlU Zij:=Zac (show S [] [] [] false ZlT ZlV from(Zz (Z2 (O':=[]) (ZG Zbj (Zf (Zc 0) (Zf (Zc 1) (Zf (Zm _) Zo))))) (Zz (Z6 (ZM (ZD Zc8 (ZD ZaW (Zc 2) (Zm _)) (Zm _))) (ZQ (Zah)) Z9) (Zz (Z6 (ZM (ZD Zc8 (ZD ZaW (Zc 2) (Zm _)) (Zm _))) (ZQ (Zm _)) Z9) (Zz (Z6 (ZM (ZD Zax (ZD ZaW (Zc 2) (Zm _)) (Zm _))) (ZQ (ZD ZdG (Zc 2) (Zm _))) Z9) (ZQ (ZaD Zgh (Zf (ZG Zgx (Zf (Zc 0) (Zf (Zc 1) Zo))) Zo))))))))
def Zk0: Sm:=Zu (ZP (ZL (Zh oEq (Zb 0) (Zk 0))) (ZE (Zas (Ze (Zk 0) (Ze (Zb 1) Zn)))) ZY) (ZE (Zas (Ze (Zb 0) (Ze (Zh oMod (Zb 1) (Zb 0)) Zn))))
def Zgt:=ZU 2 Zk0
def Zk1: PS:=(Zs (ZT (ZK (Zg qEq (Za 0) (Zj 0))) (ZF (Zav (Zd (Zj 0) (Zd (Za 1) Zl)))) ZW) (ZF (Zav (Zd (Za 0) (Zd (Zg ZaK (Za 1) (Za 0)) Zl)))))
def Zfu:=ZZ 2 Zk1
theorem Zk2: SimF false Zgt Zfu:=Zac (show S [] [] [] false Zk0 Zk1 from(Zz (Z6 (ZM (ZD Zax (Zc 0) (Zm _))) (ZQ (E.tup (Zf (Zm _) (Zf (Zc 1) Zo)))) Z9) (ZQ (E.tup (Zf (Zc 0) (Zf (ZD ZaW (Zc 1) (Zc 0)) Zo))))))
def Zmu: Sm:=Zu (ZO 3 (Zr Za9 (Ze (Zb 0) (Ze (Zb 1) (Ze (Zk 60) Zn))))) (Zu (ZP (ZL (Zh oLt (Zh oMod (Zb 3) (Zk 5)) (Zk 2))) (ZE (Zas (Ze (Zk 1) (Ze (Zk 0) Zn)))) ZY) (Zu (ZP (ZL (Zh oEq (Zh oMod (Zb 3) (Zk 5)) (Zk 2))) (ZE (Zas (Ze (Zk 0) (Ze (Zb 2) Zn)))) ZY) (Zu (ZP (ZL (Zh oEq (Zh oMod (Zb 3) (Zk 5)) (Zk 3))) (ZE (Zr Zgt (Ze (Zh Zae (Zh oDiv (Zb 3) (Zk 5)) (Zk 1)) (Ze (Zb 2) Zn)))) ZY) (ZE (Zr Zgt (Ze (Zr Zd4 (Ze (Zr ZeJ (Ze (Zb 0) (Ze (Zb 1) Zn))) Zn)) (Ze (Zb 2) Zn)))))))
def Zmv:=ZU 3 Zmu
def Zmw: PS:=(Zs (ZN 3 (Zq ZaO (Zd (Za 0) (Zd (Za 1) (Zd (Zj 60) Zl))))) (Zs (ZT (ZK (Zg qLt (Zg ZaK (Za 3) (Zj 5)) (Zj 2))) (ZF (Zav (Zd (Zj 1) (Zd (Zj 0) Zl)))) ZW) (Zs (ZT (ZK (Zg qEq (Zg ZaK (Za 3) (Zj 5)) (Zj 2))) (ZF (Zav (Zd (Zj 0) (Zd (Za 2) Zl)))) ZW) (Zs (ZT (ZK (Zg qEq (Zg ZaK (Za 3) (Zj 5)) (Zj 3))) (ZF (Zq Zfu (Zd (Zg Z4 (Zg ZcP (Za 3) (Zj 5)) (Zj 1)) (Zd (Za 2) Zl)))) ZW) (ZF (Zq Zfu (Zd (Zq Zd7 (Zd (Zq Zed (Zd (Za 0) (Zd (Za 1) Zl))) Zl)) (Zd (Za 2) Zl))))))))
def Ziz:=ZZ 3 Zmw
theorem ZuD: SimF false Zmv Ziz:=Zac (show S [] [] [] false Zmu Zmw from(Zz (Z2 (O':=[]) (ZG Zbj (Zf (Zc 0) (Zf (Zc 1) (Zf (Zm _) Zo))))) (Zz (Z6 (ZM (ZD Zc8 (ZD ZaW (Zc 3) (Zm _)) (Zm _))) (ZQ (E.tup (Zf (Zm _) (Zf (Zm _) Zo)))) Z9) (Zz (Z6 (ZM (ZD Zax (ZD ZaW (Zc 3) (Zm _)) (Zm _))) (ZQ (E.tup (Zf (Zm _) (Zf (Zc 2) Zo)))) Z9) (Zz (Z6 (ZM (ZD Zax (ZD ZaW (Zc 3) (Zm _)) (Zm _))) (ZQ (ZG Zk2 (Zf (Zaa Zai (ZD ZdG (Zc 3) (Zm _)) (Zm _)) (Zf (Zc 2) Zo)))) Z9) (ZQ (ZG Zk2 (Zf (ZaD Zgh (Zf (ZG Zgx (Zf (Zc 0) (Zf (Zc 1) Zo))) Zo)) (Zf (Zc 2) Zo)))))))))
def Zmx: Sm:=Zu (ZO 3 (Zh Zae (Zbm (Ze (Zk 0) Zn)) (Zb 2))) (Zu (ZO 4 (Zr ZaI (Ze (Zb 3) Zn))) (Zu (ZO 5 (Zbm Zn)) (Zu (Za1 (Za0 (Ze (Zb 4) Zn)) (put1 6) (Zu (ZO 7 (Zbm Zn)) (Zu (Za1 (Za0 (Ze (Zb 4) Zn)) (put1 8) (Zu (ZO 9 (Zr ZlU (Ze (Zb 0) (Ze (Zh Zae (Zh Zae (Zb 1) (Zh Za2 (Zb 6) (Zb 4))) (Zb 8)) Zn)))) (Zu (ZP (ZL (Zh Zc4 (Zb 9) (Z5))) (ZO 9 (Zh Zae (Zh Zbo (Zh Zv (Zb 3) (Zb 6)) (Zh Zv (Zb 3) (Zb 8))) (Zb 9))) ZY) (Zca (Ze4 (Zb 7) (Zb 9)))))) (Zu (ZbV (Zk 0) (Zb 7) (Zb 6)) (Zca (Ze4 (Zb 5) (Zb 7))))))) (ZE (Zas (Ze (Zb 5) (Ze (Zaz (Za0 (Ze (Zh Zbo (Zb 4) (Zk 1)) Zn)) (put1 100) Zat (Zr Zmv (Ze (Zb 0) (Ze (Zh Zae (Zh Zae (Zb 1) (Zh Za2 (Zb 4) (Zb 4))) (Zb 100)) (Ze (Zh Zv (Zb 2) (Zb 100)) Zn))))) Zn)))))))
def ZiA:=ZU 3 Zmx
def Zmy: PS:=(Zs (ZN 3 (Zg Z4 (Za6 (Zd (Zj 0) Zl)) (Za 2))) (Zs (ZN 4 (Zq ZaB (Zd (Za 3) Zl))) (Zs (ZN 5 (Za6 Zl)) (Zs (Za3 (ZaJ (Zd (Za 4) Zl)) (Zak 6) (Zs (ZN 7 (Za6 Zl)) (Zs (Za3 (ZaJ (Zd (Za 4) Zl)) (Zak 8) (Zs (ZN 9 (Zq Zij (Zd (Za 0) (Zd (Zg Z4 (Zg Z4 (Za 1) (Zg ZaN (Za 6) (Za 4))) (Za 8)) Zl)))) (Zs (ZT (ZK (Zg ZcB (Za 9) (Zad))) (ZN 9 (Zg Z4 (Zg Za7 (Zg Zt (Za 3) (Za 6)) (Zg Zt (Za 3) (Za 8))) (Za 9))) ZW) (Zd9 7 [] ZaP (ZbZ (Za 9)))))) (Zs (Zbq 7 [] (Zj 0) ZaP (Za 6)) (Zd9 5 [7] ZaP (Za 7)))))) (ZF (Zav (Zd (Za 5) (Zd (Zau (ZaJ (Zd (Zg Za7 (Za 4) (Zj 1)) Zl)) (Zak 100) Zal (ZbZ (Zq Ziz (Zd (Za 0) (Zd (Zg Z4 (Zg Z4 (Za 1) (Zg ZaN (Za 4) (Za 4))) (Za 100)) (Zd (Zg Zt (Za 2) (Za 100)) Zl)))))) Zl))))))))
def ZgK:=ZZ 3 Zmy
theorem Zp4: SimF true ZiA ZgK:=Zac (show S [] [5] [] true Zmx Zmy from(Zz (Z2 (O':=[]) (Zaa Zai (E.list (Zf (Zm _) Zo)) (Zc 2))) (Zz (Z2 (O':=[]) (ZaD ZaX (Zf (Zc 3) Zo))) (Zz (Zb7 (O':=[5]) (E.list Zo)) (Zz (Zb0 (Gs.range (Zf (Zc 4) Zo)) PutOk.one (by decide) (by decide) (Zz (Zb7 (O':=[5,7]) (Zbd (O':=[]) (E.list Zo))) (Zz (Zb0 (Gs.range (Zf (Zc 4) Zo)) PutOk.one (by decide) (by decide) (Zz (Z2 (O':=[5,7]) (ZG Zui (Zf (Zc 0) (Zf (Zaa Zai (Zaa Zai (Zc 1) (Zaa Zbx (Zc 6) (Zc 4))) (Zc 8)) Zo)))) (Zz (Z6 (ZM (ZD Zdy (Zc 9) (Zah))) (Z2 (O':=[5,7]) (Zaa Zai (ZD Zbw (ZC ZB (Zc 3) (Zc 6)) (ZC ZB (Zc 3) (Zc 8))) (Zc 9))) Z9) (Zj1 (O':=[5,7]) (by decide) ZbS (Zbd (O':=[5]) (E.flat (Zc 9))) (by decide) (by decide))))) (Zz (S.put (O':=[5,7]) (by decide) (Zbd (O':=[5]) (Zm _)) ZbS (Zc 6) (by decide) (by decide)) (Zj1 (O':=[5]) (by decide) ZbS (Zbd (O':=[7]) (E.own (by decide))) (by decide) (by decide)))))) (Zap (E.tup (Ze2 (E.own (by decide)) (Ze2 (Zdg (Gs.range (Zf (ZD Zbw (Zc 4) (Zm _)) Zo)) PutOk.one (by decide) ZaE (Zbd (O':=[]) (E.flat (ZG ZuD (Zf (Zc 0) (Zf (Zaa Zai (Zaa Zai (Zc 1) (Zaa Zbx (Zc 4) (Zc 4))) (Zc 100)) (Zf (ZC ZB (Zc 2) (Zc 100)) Zo))))))) Zo (by decide) (by decide)) (by decide) (by decide)))))))))
def Zmz: Sm:=Zu (ZP (ZL (Zh oIs (Zb 0) (Z5))) (ZE (Z5)) ZY) (ZE (Zas (Ze (Zaz (ZbW (Zh Zv (Zb 0) (Zk 0))) (put1 100) Zat (Zr ZdD (Ze (Zb 100) Zn))) (Ze (Zr ZdD (Ze (Zh Zv (Zb 0) (Zk 1)) Zn)) Zn))))
def ZmA:=ZU 1 Zmz
def ZiB: PS:=(Zs (ZT (ZK (Zg qIs (Za 0) (Zad))) (ZF (Zad)) ZW) (ZF (Zav (Zd (Zau (Zbp (Zg Zt (Za 0) (Zj 0))) (Zak 100) Zal (Zq ZdE (Zd (Za 100) Zl))) (Zd (Zq ZdE (Zd (Zg Zt (Za 0) (Zj 1)) Zl)) Zl)))))
def Zef:=ZZ 1 ZiB
theorem ZuE: SimF false ZmA Zef:=Zac (show S [] [] [] false Zmz ZiB from(Zz (Z6 (ZM (ZD ZbN (Zc 0) (Zah))) (ZQ (Zah)) Z9) (ZQ (E.tup (Zf (Zb4 (Gs.seq (ZC ZB (Zc 0) (Zm _))) PutOk.one (by decide) ZaE (Zjg Zhh (Zf (Zc 100) Zo))) (Zf (Zjg Zhh (Zf (ZC ZB (Zc 0) (Zm _)) Zo)) Zo))))))
def ZlW: Sm:=ZE (eOr (Zh oIs (Zb 1) (Z5)) (Zc6 (Zh Zc4 (Zb 0) (Z5)) (Zh oLe (Zb 0) (Zb 1))))
def Zik:=ZU 2 ZlW
def ZlX: PS:=(ZF ((pOr (Zg qIs (Za 1) (Zad)) ((ZcY (Zg ZcB (Za 0) (Zad)) (Zg qLe (Za 0) (Za 1)))))))
def ZgE:=ZZ 2 ZlX
theorem ZpN: SimF false Zik ZgE:=Zac (show S [] [] [] false ZlW ZlX from(ZQ ((ZzJ (E.sh (ZD ZbN (Zc 1) (Zah))) (E.sh ((Zfk (E.sh (ZD Zdy (Zc 0) (Zah))) (E.sh (ZD Zpc (Zc 0) (Zc 1))))))))))
def ZmB: Sm:=Zu (ZP (ZL (Zh oEq (Zh Zv (Zb 0) (Zk 0)) (Zk 0))) (ZE (Zh oEq (Zb 1) (Zh Zv (Zb 0) (Zk 1)))) ZY) (ZE (Zh oEq (Zh oMod (Zb 1) (Zh Zv (Zb 0) (Zk 0))) (Zh Zv (Zb 0) (Zk 1))))
def ZeS:=ZU 2 ZmB
def ZmC: PS:=(Zs (ZT (ZK (Zg qEq (Zg Zt (Za 0) (Zj 0)) (Zj 0))) (ZF (Zg qEq (Za 1) (Zg Zt (Za 0) (Zj 1)))) ZW) (ZF (Zg qEq (Zg ZaK (Za 1) (Zg Zt (Za 0) (Zj 0))) (Zg Zt (Za 0) (Zj 1)))))
def Zeg:=ZZ 2 ZmC
theorem ZgL: SimF false ZeS Zeg:=Zac (show S [] [] [] false ZmB ZmC from(Zz (Z6 (ZM (ZD Zax (ZC ZB (Zc 0) (Zm _)) (Zm _))) (ZQ (ZD Zax (Zc 1) (ZC ZB (Zc 0) (Zm _)))) Z9) (ZQ (ZD Zax (ZD ZaW (Zc 1) (ZC ZB (Zc 0) (Zm _))) (ZC ZB (Zc 0) (Zm _))))))
def Zk3: Sm:=Zu (ZP (ZL (Zh oEq (Zh Zv (Zb 1) (Zk 0)) (Zk 0))) (ZE (Zh oEq (Zb 0) (Zb 1))) ZY) (ZE (Zc6 (Zh oEq (Zh oMod (Zh Zv (Zb 0) (Zk 0)) (Zh Zv (Zb 1) (Zk 0))) (Zk 0)) (Zr ZeS (Ze (Zb 1) (Ze (Zh Zv (Zb 0) (Zk 1)) Zn)))))
def Zk4:=ZU 2 Zk3
def Zk5: PS:=(Zs (ZT (ZK (Zg qEq (Zg Zt (Za 1) (Zj 0)) (Zj 0))) (ZF (Zg qEq (Za 0) (Za 1))) ZW) (ZF ((ZcY (Zg qEq (Zg ZaK (Zg Zt (Za 0) (Zj 0)) (Zg Zt (Za 1) (Zj 0))) (Zj 0)) (Zq Zeg (Zd (Za 1) (Zd (Zg Zt (Za 0) (Zj 1)) Zl)))))))
def Zh1:=ZZ 2 Zk5
theorem Ztx: SimF false Zk4 Zh1:=Zac (show S [] [] [] false Zk3 Zk5 from(Zz (Z6 (ZM (ZD Zax (ZC ZB (Zc 1) (Zm _)) (Zm _))) (ZQ (ZD Zax (Zc 0) (Zc 1))) Z9) (ZQ ((Zfk (E.sh (ZD Zax (ZD ZaW (ZC ZB (Zc 0) (Zm _)) (ZC ZB (Zc 1) (Zm _))) (Zm _))) (E.sh (ZG ZgL (Zf (Zc 1) (Zf (ZC ZB (Zc 0) (Zm _)) Zo)))))))))
def Zlw: Sm:=Zu (ZO 3 (Zaz (ZbW (Zh Zv (Zb 2) (Zk 0))) (put1 100) Zat (Zr ZdD (Ze (Zb 100) Zn)))) (Zu (ZO 4 (Zr ZdD (Ze (Zh Zv (Zb 2) (Zk 1)) Zn))) (Zu (ZO 5 (Zr Za9 (Ze (Zb 0) (Ze (Zb 1) (Ze (Zr ZaI (Ze (Zb 3) Zn)) Zn))))) (Zu (ZO 6 (Zr Za9 (Ze (Zb 0) (Ze (Zh Zae (Zb 1) (Zk 1)) (Ze (Zr ZaI (Ze (Zb 3) Zn)) Zn))))) (Zu (ZO 7 (Zr Za9 (Ze (Zb 0) (Ze (Zh Zae (Zb 1) (Zk 2)) (Ze (Zk 5) Zn))))) (Zu (ZP (Zbh (ZL (Zh oLt (Zb 7) (Zk 3))) (Zbh (ZL (Zh oNe (Zb 5) (Zb 6))) (Zbh (ZL (Zh oIs (Zh Zv (Zh Zv (Zb 3) (Zb 5)) (Zb 6)) (Z5))) Zat))) (ZbV (Zr ZeJ (Ze (Zb 0) (Ze (Zh Zae (Zb 1) (Zk 3)) Zn))) (Zh Zv (Zb 3) (Zb 5)) (Zb 6)) (ZP (Zbh (ZL (Zh oLt (Zb 7) (Zk 3))) (Zbh (ZL (Zh oNe (Zb 5) (Zb 6))) Zat)) (ZbV (Zh Zbo (Zh Zbo (Zh Zv (Zh Zv (Zb 3) (Zb 5)) (Zb 6)) (Zk 1)) (Zr Za9 (Ze (Zb 0) (Ze (Zh Zae (Zb 1) (Zk 3)) (Ze (Zk 4) Zn))))) (Zh Zv (Zb 3) (Zb 5)) (Zb 6)) (ZP (ZL (Zh oGt (Zr ZaI (Ze (Zb 4) Zn)) (Zk 0))) (Zu (ZO 8 (Zr Za9 (Ze (Zb 0) (Ze (Zb 1) (Ze (Zr ZaI (Ze (Zb 4) Zn)) Zn))))) (Zu (ZO 9 (Zh Zv (Zb 4) (Zb 8))) (ZbV (Zr Zgt (Ze (Zh Za2 (Zh Zv (Zb 9) (Zk 0)) (Zh Zae (Zk 1) (Zh oMod (Zb 7) (Zk 2)))) (Ze (Zh Zae (Zh Zv (Zb 9) (Zk 1)) (Zr Za9 (Ze (Zb 0) (Ze (Zh Zae (Zb 1) (Zk 3)) (Ze (Zk 3) Zn))))) Zn))) (Zb 4) (Zb 8)))) ZY))) (ZE (Zas (Ze (Zb 3) (Ze (Zb 4) Zn)))))))))
def Zlx:=ZU 3 Zlw
def Zly: PS:=(Zs (ZN 3 (Zau (Zbp (Zg Zt (Za 2) (Zj 0))) (Zak 100) Zal (pFl (Zq ZdE (Zd (Za 100) Zl))))) (Zs (ZN 4 (pFl (Zq ZdE (Zd (Zg Zt (Za 2) (Zj 1)) Zl)))) (Zs (ZN 5 (Zq ZaO (Zd (Za 0) (Zd (Za 1) (Zd (Zq ZaB (Zd (Za 3) Zl)) Zl))))) (Zs (ZN 6 (Zq ZaO (Zd (Za 0) (Zd (Zg Z4 (Za 1) (Zj 1)) (Zd (Zq ZaB (Zd (Za 3) Zl)) Zl))))) (Zs (ZN 7 (Zq ZaO (Zd (Za 0) (Zd (Zg Z4 (Za 1) (Zj 2)) (Zd (Zj 5) Zl))))) (Zs (ZT (Zbi (ZK (Zg qLt (Za 7) (Zj 3))) (Zbi (ZK (Zg qNe (Za 5) (Za 6))) (Zbi (ZK (Zg qIs (Zg Zt (Zg Zt (Za 3) (Za 5)) (Za 6)) (Zad))) Zal))) (Zbq 3 [] (ZbZ (Zq Zed (Zd (Za 0) (Zd (Zg Z4 (Za 1) (Zj 3)) Zl)))) (Zeq ZaP (Za 5)) (Za 6)) (ZT (Zbi (ZK (Zg qLt (Za 7) (Zj 3))) (Zbi (ZK (Zg qNe (Za 5) (Za 6))) Zal)) (Zbq 3 [] (Zg Za7 (Zg Za7 (Zg Zt (Zg Zt (Za 3) (Za 5)) (Za 6)) (Zj 1)) (Zq ZaO (Zd (Za 0) (Zd (Zg Z4 (Za 1) (Zj 3)) (Zd (Zj 4) Zl))))) (Zeq ZaP (Za 5)) (Za 6)) (ZT (ZK (Zg qGt (Zq ZaB (Zd (Za 4) Zl)) (Zj 0))) (Zs (ZN 8 (Zq ZaO (Zd (Za 0) (Zd (Za 1) (Zd (Zq ZaB (Zd (Za 4) Zl)) Zl))))) (Zs (ZN 9 (ZbZ (Zg Zt (Za 4) (Za 8)))) (Zbq 4 [] (ZbZ (Zq Zfu (Zd (Zg ZaN (Zg Zt (Za 9) (Zj 0)) (Zg Z4 (Zj 1) (Zg ZaK (Za 7) (Zj 2)))) (Zd (Zg Z4 (Zg Zt (Za 9) (Zj 1)) (Zq ZaO (Zd (Za 0) (Zd (Zg Z4 (Za 1) (Zj 3)) (Zd (Zj 3) Zl))))) Zl)))) ZaP (Za 8)))) ZW))) (ZF (Zav (Zd (Za 3) (Zd (Za 4) Zl))))))))))
def Zh9:=ZZ 3 Zly
theorem ZtX: SimF false Zlx Zh9:=Zac (show S [] [3,4] [] false Zlw Zly from(Zz (Zb7 (O':=[3]) (Zdg (Gs.seq (ZC ZB (Zc 2) (Zm _))) PutOk.one (by decide) ZaE (Zod Zhh (Zf (Zc 100) Zo)))) (Zz (Zb7 (O':=[3,4]) (Zbd (O':=[]) (Zod Zhh (Zf (ZC ZB (Zc 2) (Zm _)) Zo)))) (Zz (Z2 (O':=[3,4]) (ZG Zbj (Zf (Zc 0) (Zf (Zc 1) (Zf (ZaD ZaX (Zf (Zc 3) Zo)) Zo))))) (Zz (Z2 (O':=[3,4]) (ZG Zbj (Zf (Zc 0) (Zf (Zaa Zai (Zc 1) (Zm _)) (Zf (ZaD ZaX (Zf (Zc 3) Zo)) Zo))))) (Zz (Z2 (O':=[3,4]) (ZG Zbj (Zf (Zc 0) (Zf (Zaa Zai (Zc 1) (Zm _)) (Zf (Zm _) Zo))))) (Zz (Z6 (ZbG (ZM (ZD Zc8 (Zc 7) (Zm _))) (ZbG (ZM (ZD ZcI (Zc 5) (Zc 6))) (ZbG (ZM (ZD ZbN (ZC ZB (ZC ZB (Zc 3) (Zc 5)) (Zc 6)) (Zah))) ZaE))) (S.put (O':=[3,4]) (by decide) (Zbd (O':=[4]) (E.flat (ZG Zgx (Zf (Zc 0) (Zf (Zaa Zai (Zc 1) (Zm _)) Zo))))) (Zht ZbS (Zc 5)) (Zc 6) (by decide) (by decide)) (Z6 (ZbG (ZM (ZD Zc8 (Zc 7) (Zm _))) (ZbG (ZM (ZD ZcI (Zc 5) (Zc 6))) ZaE)) (S.put (O':=[3,4]) (by decide) (Zbd (O':=[4]) (ZD Zbw (ZD Zbw (ZC ZB (ZC ZB (Zc 3) (Zc 5)) (Zc 6)) (Zm _)) (ZG Zbj (Zf (Zc 0) (Zf (Zaa Zai (Zc 1) (Zm _)) (Zf (Zm _) Zo)))))) (Zht ZbS (Zc 5)) (Zc 6) (by decide) (by decide)) (Z6 (ZM (ZD Zfq (ZaD ZaX (Zf (Zc 4) Zo)) (Zm _))) (Zz (Z2 (O':=[3,4]) (ZG Zbj (Zf (Zc 0) (Zf (Zc 1) (Zf (ZaD ZaX (Zf (Zc 4) Zo)) Zo))))) (Zz (Z2 (O':=[3,4]) (Zbd (O':=[]) (E.flat (ZC ZB (Zc 4) (Zc 8))))) (S.put (O':=[3,4]) (by decide) (Zbd (O':=[3]) (E.flat (ZG Zk2 (Zf (Zaa Zbx (ZC ZB (Zc 9) (Zm _)) (Zaa Zai (Zm _) (ZD ZaW (Zc 7) (Zm _)))) (Zf (Zaa Zai (ZC ZB (Zc 9) (Zm _)) (ZG Zbj (Zf (Zc 0) (Zf (Zaa Zai (Zc 1) (Zm _)) (Zf (Zm _) Zo))))) Zo))))) ZbS (Zc 8) (by decide) (by decide)))) Z9))) (ZQ (E.tup (Zf (Zc 3) (Zf (Zc 4) Zo)))))))))))
def Zne: Sm:=Zu (ZO 2 (Zr Zd4 (Ze (Zb 0) Zn))) (Zu (ZO 3 (Zr Zd4 (Ze (Zb 1) Zn))) (Zu (ZdV (ZL (Zh oNe (Zb 3) (Zk 0))) (Zu (ZO 4 (Zh oMod (Zb 2) (Zb 3))) (Zu (ZO 2 (Zb 3)) (ZO 3 (Zb 4)))) 1000000) (ZE (Zb 2))))
def ZfQ:=ZU 2 Zne
def Znf: PS:=(Zs (ZN 2 (Zq Zd7 (Zd (Za 0) Zl))) (Zs (ZN 3 (Zq Zd7 (Zd (Za 1) Zl))) (Zs (Zer (ZK (Zg qNe (Za 3) (Zj 0))) (Zs (ZN 4 (Zg ZaK (Za 2) (Za 3))) (Zs (ZN 2 (Za 3)) (ZN 3 (Za 4)))) 1000000) (ZF (Za 2)))))
def ZeY:=ZZ 2 Znf
theorem ZiV: SimF false ZfQ ZeY:=Zac (show S [] [] [] false Zne Znf from(Zz (Z2 (O':=[]) (ZaD Zgh (Zf (Zc 0) Zo))) (Zz (Z2 (O':=[]) (ZaD Zgh (Zf (Zc 1) Zo))) (Zz (Zoh (ZM (ZD ZcI (Zc 3) (Zm _))) (Zz (Z2 (O':=[]) (ZD ZaW (Zc 2) (Zc 3))) (Zz (Z2 (O':=[]) (Zc 3)) (Z2 (O':=[]) (Zc 4)))) 1000000) (ZQ (Zc 2))))))
def ZoN: Sm:=Zu (ZP (ZL (Zh oLt (Zb 0) (Zk 0))) (PM.sNo) ZY) (Zu (ZP (ZL (Zh oEq (Zb 0) (Zk 0))) (ZE (Zas (Ze (Zk 0) (Ze (Zb 1) Zn)))) ZY) (ZE (Zas (Ze (Zb 0) (Ze (Zh oMod (Zb 1) (Zb 0)) Zn)))))
def Zeu:=ZU 2 ZoN
def ZoO: PS:=(Zs (ZT (ZK (Zg qLt (Za 0) (Zj 0))) (qNo) ZW) (Zs (ZT (ZK (Zg qEq (Za 0) (Zj 0))) (ZF (Zav (Zd (Zj 0) (Zd (Za 1) Zl)))) ZW) (ZF (Zav (Zd (Za 0) (Zd (Zg ZaK (Za 1) (Za 0)) Zl))))))
def ZdY:=ZZ 2 ZoO
theorem Zgb: SimF false Zeu ZdY:=Zac (show S [] [] [] false ZoN ZoO from(Zz (Z6 (ZM (ZD Zc8 (Zc 0) (Zm _))) (ZzK (O':=[])) Z9) (Zz (Z6 (ZM (ZD Zax (Zc 0) (Zm _))) (ZQ (E.tup (Zf (Zm _) (Zf (Zc 1) Zo)))) Z9) (ZQ (E.tup (Zf (Zc 0) (Zf (ZD ZaW (Zc 1) (Zc 0)) Zo)))))))
def Zng: Sm:=Zu (ZO 2 (Zh oMod (Zb 0) (Zb 1))) (Zu (ZO 3 (Zb 1)) (Zu (ZO 4 (Zk 1)) (Zu (ZO 5 (Zk 0)) (Zu (ZdV (ZL (Zh oNe (Zb 3) (Zk 0))) (Zu (ZO 6 (Zh oDiv (Zb 2) (Zb 3))) (Zu (ZO 7 (Zh Zbo (Zb 2) (Zh Za2 (Zb 6) (Zb 3)))) (Zu (ZO 8 (Zh Zbo (Zb 4) (Zh Za2 (Zb 6) (Zb 5)))) (Zu (ZO 2 (Zb 3)) (Zu (ZO 4 (Zb 5)) (Zu (ZO 3 (Zb 7)) (ZO 5 (Zb 8)))))))) 1000000) (ZE (Zh oMod (Zb 4) (Zb 1)))))))
def Znh:=ZU 2 Zng
def Zni: PS:=(Zs (ZN 2 (Zg ZaK (Za 0) (Za 1))) (Zs (ZN 3 (Za 1)) (Zs (ZN 4 (Zj 1)) (Zs (ZN 5 (Zj 0)) (Zs (Zer (ZK (Zg qNe (Za 3) (Zj 0))) (Zs (ZN 6 (Zg ZcP (Za 2) (Za 3))) (Zs (ZN 7 (Zg Za7 (Za 2) (Zg ZaN (Za 6) (Za 3)))) (Zs (ZN 8 (Zg Za7 (Za 4) (Zg ZaN (Za 6) (Za 5)))) (Zs (ZN 2 (Za 3)) (Zs (ZN 4 (Za 5)) (Zs (ZN 3 (Za 7)) (ZN 5 (Za 8)))))))) 1000000) (ZF (Zg ZaK (Za 4) (Za 1))))))))
def ZiW:=ZZ 2 Zni
theorem Zvn: SimF false Znh ZiW:=Zac (show S [] [] [] false Zng Zni from(Zz (Z2 (O':=[]) (ZD ZaW (Zc 0) (Zc 1))) (Zz (Z2 (O':=[]) (Zc 1)) (Zz (Z2 (O':=[]) (Zm _)) (Zz (Z2 (O':=[]) (Zm _)) (Zz (Zoh (ZM (ZD ZcI (Zc 3) (Zm _))) (Zz (Z2 (O':=[]) (ZD ZdG (Zc 2) (Zc 3))) (Zz (Z2 (O':=[]) (ZD Zbw (Zc 2) (Zaa Zbx (Zc 6) (Zc 3)))) (Zz (Z2 (O':=[]) (ZD Zbw (Zc 4) (Zaa Zbx (Zc 6) (Zc 5)))) (Zz (Z2 (O':=[]) (Zc 3)) (Zz (Z2 (O':=[]) (Zc 5)) (Zz (Z2 (O':=[]) (Zc 7)) (Z2 (O':=[]) (Zc 8)))))))) 1000000) (ZQ (ZD ZaW (Zc 4) (Zc 1)))))))))
def ZmD: Sm:=Zu (ZP (ZL (Zh oEq (Zh Zv (Zb 0) (Zk 0)) (Zk 0))) (ZE (eIf (ZL (Zr ZeS (Ze (Zb 1) (Ze (Zh Zv (Zb 0) (Zk 1)) Zn)))) (Zb 0) (Z5))) ZY) (Zu (ZP (ZL (Zh oEq (Zh Zv (Zb 1) (Zk 0)) (Zk 0))) (ZE (eIf (ZL (Zr ZeS (Ze (Zb 0) (Ze (Zh Zv (Zb 1) (Zk 1)) Zn)))) (Zb 1) (Z5))) ZY) (Zu (ZO 2 (Zr ZfQ (Ze (Zh Zv (Zb 0) (Zk 0)) (Ze (Zh Zv (Zb 1) (Zk 0)) Zn)))) (Zu (ZO 3 (Zh Zbo (Zh Zv (Zb 1) (Zk 1)) (Zh Zv (Zb 0) (Zk 1)))) (Zu (ZP (ZL (Zh oNe (Zh oMod (Zb 3) (Zb 2)) (Zk 0))) (ZE (Z5)) ZY) (Zu (ZO 4 (Zh oDiv (Zh Zv (Zb 1) (Zk 0)) (Zb 2))) (Zu (ZO 5 (Zh Za2 (Zh oDiv (Zb 3) (Zb 2)) (Zr Znh (Ze (Zh oDiv (Zh Zv (Zb 0) (Zk 0)) (Zb 2)) (Ze (Zb 4) Zn))))) (ZE (Zr Zeu (Ze (Zh Za2 (Zh Zv (Zb 0) (Zk 0)) (Zb 4)) (Ze (Zh Zae (Zh Zv (Zb 0) (Zk 1)) (Zh Za2 (Zh Zv (Zb 0) (Zk 0)) (Zb 5))) Zn))))))))))
def ZgM:=ZU 2 ZmD
def ZmE: PS:=(Zs (ZT (ZK (Zg qEq (Zg Zt (Za 0) (Zj 0)) (Zj 0))) (ZF (pIf (ZK (Zq Zeg (Zd (Za 1) (Zd (Zg Zt (Za 0) (Zj 1)) Zl)))) (Za 0) (Zad))) ZW) (Zs (ZT (ZK (Zg qEq (Zg Zt (Za 1) (Zj 0)) (Zj 0))) (ZF (pIf (ZK (Zq Zeg (Zd (Za 0) (Zd (Zg Zt (Za 1) (Zj 1)) Zl)))) (Za 1) (Zad))) ZW) (Zs (ZN 2 (Zq ZeY (Zd (Zg Zt (Za 0) (Zj 0)) (Zd (Zg Zt (Za 1) (Zj 0)) Zl)))) (Zs (ZN 3 (Zg Za7 (Zg Zt (Za 1) (Zj 1)) (Zg Zt (Za 0) (Zj 1)))) (Zs (ZT (ZK (Zg qNe (Zg ZaK (Za 3) (Za 2)) (Zj 0))) (ZF (Zad)) ZW) (Zs (ZN 4 (Zg ZcP (Zg Zt (Za 1) (Zj 0)) (Za 2))) (Zs (ZN 5 (Zg ZaN (Zg ZcP (Za 3) (Za 2)) (Zq ZiW (Zd (Zg ZcP (Zg Zt (Za 0) (Zj 0)) (Za 2)) (Zd (Za 4) Zl))))) (ZF (Zq ZdY (Zd (Zg ZaN (Zg Zt (Za 0) (Zj 0)) (Za 4)) (Zd (Zg Z4 (Zg Zt (Za 0) (Zj 1)) (Zg ZaN (Zg Zt (Za 0) (Zj 0)) (Za 5))) Zl)))))))))))
def ZfG:=ZZ 2 ZmE
theorem ZmF: SimF false ZgM ZfG:=Zac (show S [] [] [] false ZmD ZmE from(Zz (Z6 (ZM (ZD Zax (ZC ZB (Zc 0) (Zm _)) (Zm _))) (ZQ (Zez (ZM (ZG ZgL (Zf (Zc 1) (Zf (ZC ZB (Zc 0) (Zm _)) Zo)))) (E.sh (Zc 0)) (E.sh (Zah)))) Z9) (Zz (Z6 (ZM (ZD Zax (ZC ZB (Zc 1) (Zm _)) (Zm _))) (ZQ (Zez (ZM (ZG ZgL (Zf (Zc 0) (Zf (ZC ZB (Zc 1) (Zm _)) Zo)))) (E.sh (Zc 1)) (E.sh (Zah)))) Z9) (Zz (Z2 (O':=[]) (ZG ZiV (Zf (ZC ZB (Zc 0) (Zm _)) (Zf (ZC ZB (Zc 1) (Zm _)) Zo)))) (Zz (Z2 (O':=[]) (ZD Zbw (ZC ZB (Zc 1) (Zm _)) (ZC ZB (Zc 0) (Zm _)))) (Zz (Z6 (ZM (ZD ZcI (ZD ZaW (Zc 3) (Zc 2)) (Zm _))) (ZQ (Zah)) Z9) (Zz (Z2 (O':=[]) (ZD ZdG (ZC ZB (Zc 1) (Zm _)) (Zc 2))) (Zz (Z2 (O':=[]) (Zaa Zbx (ZD ZdG (Zc 3) (Zc 2)) (ZG Zvn (Zf (ZD ZdG (ZC ZB (Zc 0) (Zm _)) (Zc 2)) (Zf (Zc 4) Zo))))) (ZQ (ZG Zgb (Zf (Zaa Zbx (ZC ZB (Zc 0) (Zm _)) (Zc 4)) (Zf (Zaa Zai (ZC ZB (Zc 0) (Zm _)) (Zaa Zbx (ZC ZB (Zc 0) (Zm _)) (Zc 5))) Zo))))))))))))
def ZlY: Sm:=ZE (Zr Zeu (Ze (Zr ZfQ (Ze (Zh Zv (Zb 0) (Zk 0)) (Ze (Zh Zv (Zb 1) (Zk 0)) Zn))) (Ze (Zh Zae (Zh Zv (Zb 0) (Zk 1)) (Zh Zv (Zb 1) (Zk 1))) Zn)))
def ZgF:=ZU 2 ZlY
def ZlZ: PS:=(ZF (Zq ZdY (Zd (Zq ZeY (Zd (Zg Zt (Za 0) (Zj 0)) (Zd (Zg Zt (Za 1) (Zj 0)) Zl))) (Zd (Zg Z4 (Zg Zt (Za 0) (Zj 1)) (Zg Zt (Za 1) (Zj 1))) Zl))))
def ZfB:=ZZ 2 ZlZ
theorem Zl0: SimF false ZgF ZfB:=Zac (show S [] [] [] false ZlY ZlZ from(ZQ (ZG Zgb (Zf (ZG ZiV (Zf (ZC ZB (Zc 0) (Zm _)) (Zf (ZC ZB (Zc 1) (Zm _)) Zo))) (Zf (Zaa Zai (ZC ZB (Zc 0) (Zm _)) (ZC ZB (Zc 1) (Zm _))) Zo)))))
def Zlz: Sm:=ZE (Zr Zeu (Ze (Zh Za2 (Zh Zv (Zb 0) (Zk 0)) (Zr Zd4 (Ze (Zb 1) Zn))) (Ze (Zh Za2 (Zh Zv (Zb 0) (Zk 1)) (Zb 1)) Zn)))
def Zgy:=ZU 2 Zlz
def ZlA: PS:=(ZF (Zq ZdY (Zd (Zg ZaN (Zg Zt (Za 0) (Zj 0)) (Zq Zd7 (Zd (Za 1) Zl))) (Zd (Zg ZaN (Zg Zt (Za 0) (Zj 1)) (Za 1)) Zl))))
def Zfy:=ZZ 2 ZlA
theorem ZlB: SimF false Zgy Zfy:=Zac (show S [] [] [] false Zlz ZlA from(ZQ (ZG Zgb (Zf (Zaa Zbx (ZC ZB (Zc 0) (Zm _)) (ZaD Zgh (Zf (Zc 1) Zo))) (Zf (Zaa Zbx (ZC ZB (Zc 0) (Zm _)) (Zc 1)) Zo)))))
def ZlC: Sm:=Zu (ZP (ZL (Zh oEq (Zh Zv (Zb 0) (Zk 0)) (Zk 0))) (ZE (eIf (ZL (Zh oLe (Zh Zv (Zb 0) (Zk 1)) (Zb 1))) (Zh Zv (Zb 0) (Zk 1)) (Z5))) ZY) (ZE (Zh Zbo (Zb 1) (Zh oMod (Zh Zbo (Zb 1) (Zh Zv (Zb 0) (Zk 1))) (Zh Zv (Zb 0) (Zk 0)))))
def ZlD:=ZU 2 ZlC
def ZlE: PS:=(Zs (ZT (ZK (Zg qEq (Zg Zt (Za 0) (Zj 0)) (Zj 0))) (ZF (pIf (ZK (Zg qLe (Zg Zt (Za 0) (Zj 1)) (Za 1))) (Zg Zt (Za 0) (Zj 1)) (Zad))) ZW) (ZF (Zg Za7 (Za 1) (Zg ZaK (Zg Za7 (Za 1) (Zg Zt (Za 0) (Zj 1))) (Zg Zt (Za 0) (Zj 0))))))
def Zia:=ZZ 2 ZlE
theorem ZtY: SimF false ZlD Zia:=Zac (show S [] [] [] false ZlC ZlE from(Zz (Z6 (ZM (ZD Zax (ZC ZB (Zc 0) (Zm _)) (Zm _))) (ZQ (Zez (ZM (ZD Zpc (ZC ZB (Zc 0) (Zm _)) (Zc 1))) (E.sh (ZC ZB (Zc 0) (Zm _))) (E.sh (Zah)))) Z9) (ZQ (ZD Zbw (Zc 1) (ZD ZaW (ZD Zbw (Zc 1) (ZC ZB (Zc 0) (Zm _))) (ZC ZB (Zc 0) (Zm _)))))))
def ZnQ: Sm:=ZE (eIf (ZL (Zr Zik (Ze (Zb 0) (Ze (Zb 1) Zn)))) (Zb 0) (Zb 1))
def Zi6:=ZU 2 ZnQ
def ZnR: PS:=(ZF (pIf (ZK (Zq ZgE (Zd (Za 0) (Zd (Za 1) Zl)))) (Za 0) (Za 1)))
def Zg9:=ZZ 2 ZnR
theorem ZqR: SimF false Zi6 Zg9:=Zac (show S [] [] [] false ZnQ ZnR from(ZQ (Zez (ZM (ZG ZpN (Zf (Zc 0) (Zf (Zc 1) Zo)))) (E.sh (Zc 0)) (E.sh (Zc 1)))))
def ZmG: Sm:=Zu (ZP (tOr (ZL (Zh oIs (Zb 0) (Z5))) (tOr (ZL (Zh oIs (Zb 1) (Z5))) Zb5)) (ZE (Z5)) ZY) (ZE (Zh Zae (Zb 0) (Zb 1)))
def Zeh:=ZU 2 ZmG
def ZmH: PS:=(Zs (ZT (bOr (ZK (Zg qIs (Za 0) (Zad))) (bOr (ZK (Zg qIs (Za 1) (Zad))) Zb6)) (ZF (Zad)) ZW) (ZF (Zg Z4 (Za 0) (Za 1))))
def ZdM:=ZZ 2 ZmH
theorem ZfH: SimF false Zeh ZdM:=Zac (show S [] [] [] false ZmG ZmH from(Zz (Z6 (ZaS (ZM (ZD ZbN (Zc 0) (Zah))) (ZaS (ZM (ZD ZbN (Zc 1) (Zah))) Zcw)) (ZQ (Zah)) Z9) (ZQ (Zaa Zai (Zc 0) (Zc 1)))))
def Zkn: Sm:=ZE (Zaz (Zc7 (Zb 0) (Zb 2)) (Zb2 100 101) Zat (Zr Zi6 (Ze (Zb 100) (Ze (Zr Zeh (Ze (Zb 1) (Ze (Zb 101) Zn))) Zn))))
def Zko:=ZU 3 Zkn
def Zkp: PS:=(ZF (Zau (Zc9 (Za 0) (Za 2)) (Zcr 100 101) Zal (ZbZ (Zq Zg9 (Zd (Za 100) (Zd (Zq ZdM (Zd (Za 1) (Zd (Za 101) Zl))) Zl))))))
def ZhS:=ZZ 3 Zkp
theorem ZsZ: SimF true Zko ZhS:=Zac (show S [] [] [] true Zkn Zkp from(Zap (Zdg (Gs.zip (Zc 0) (Zc 2)) PutOk.two (by decide) ZaE (E.flat (ZG ZqR (Zf (Zc 100) (Zf (ZG ZfH (Zf (Zc 1) (Zf (Zc 101) Zo))) Zo)))))))
def Zl1: Sm:=ZE (Zaz (ZbW (Zb 0)) (put1 100) Zat (Zr Zko (Ze (Zb 100) (Ze (Zh Zv (Zb 100) (Zb 1)) (Ze (Zh Zv (Zb 0) (Zb 1)) Zn)))))
def Zl2:=ZU 2 Zl1
def Zl3: PS:=(ZF (Zau (Zbp (Za 0)) (Zak 100) Zal (Zq ZhS (Zd (Za 100) (Zd (Zg Zt (Za 100) (Za 1)) (Zd (Zg Zt (Za 0) (Za 1)) Zl))))))
def Zil:=ZZ 2 Zl3
theorem ZpO: SimF true Zl2 Zil:=Zac (show S [] [] [] true Zl1 Zl3 from(Zap (Zdg (Gs.seq (Zc 0)) PutOk.one (by decide) ZaE (ZaA ZsZ (Zf (Zc 100) (Zf (ZC ZB (Zc 100) (Zc 1)) (Zf (ZC ZB (Zc 0) (Zc 1)) Zo)))))))
def ZkN: Sm:=ZE (Zr ZhN (Ze (Zaz (Za0 (Ze (Zr ZaI (Ze (Zb 0) Zn)) Zn)) (put1 100) Zat (Zh oLt (Zh Zv (Zh Zv (Zb 0) (Zb 100)) (Zb 100)) (Zk 0))) Zn))
def ZkO:=ZU 1 ZkN
def ZkP: PS:=(ZF (Zq ZhO (Zd (Zau (ZaJ (Zd (Zq ZaB (Zd (Za 0) Zl)) Zl)) (Zak 100) Zal (Zg qLt (Zg Zt (Zg Zt (Za 0) (Za 100)) (Za 100)) (Zj 0))) Zl)))
def ZhY:=ZZ 1 ZkP
theorem Zpq: SimF false ZkO ZhY:=Zac (show S [] [] [] false ZkN ZkP from(ZQ (ZaD Zzf (Zf (Zb4 (Gs.range (Zf (ZaD ZaX (Zf (Zc 0) Zo)) Zo)) PutOk.one (by decide) ZaE (ZD Zc8 (ZC ZB (ZC ZB (Zc 0) (Zc 100)) (Zc 100)) (Zm _))) Zo))))
def ZnS: Sm:=Zu (ZO 1 (Zb 0)) (Zu (Za1 (Za0 (Ze (Zr ZaI (Ze (Zb 0) Zn)) Zn)) (put1 2) (Zu (ZO 1 (Zr Zl2 (Ze (Zb 1) (Ze (Zb 2) Zn)))) (ZP (ZL (Zr ZkO (Ze (Zb 1) Zn))) (ZE (Z5)) ZY))) (ZE (Zb 1)))
def ZfV:=ZU 1 ZnS
def ZnT: PS:=(Zs (ZN 1 (Za 0)) (Zs (Zj5 (ZaJ (Zd (Zq ZaB (Zd (Za 0) Zl)) Zl)) (Zak 2) (Zs (ZN 1 (Zq Zil (Zd (Za 1) (Zd (Za 2) Zl)))) (ZT (ZK (Zq ZhY (Zd (Za 1) Zl))) (ZF (Zad)) ZW))) (ZF (Za 1))))
def Zha:=ZZ 1 ZnT
theorem Zwo: SimF true ZfV Zha:=Zac (show S [] [1] [] true ZnS ZnT from(Zz (Z2 (O':=[]) (Zc 0)) (Zz (ZyM (Gs.range (Zf (ZaD ZaX (Zf (Zc 0) Zo)) Zo)) PutOk.one PutOk.one (by decide) (by decide) (by decide) (Zz (Zb7 (O':=[1]) (ZaA ZpO (Zf (Zc 1) (Zf (Zc 2) Zo)))) (Z6 (ZM (ZG Zpq (Zf (Zc 1) Zo))) (Zap (Zah)) Z9)) (Zz (Zb7 (O':=[1]) (Zbd (O':=[]) (ZaA ZpO (Zf (Zc 1) (Zf (Zc 2) Zo))))) (Z6 (ZM (ZG Zpq (Zf (Zc 1) Zo))) (Zap (Zah)) Z9))) (Zap (E.own (by decide))))))
def Zl4: Sm:=ZE (Zc6 (eIs "int" (Zb 0)) (Zj8 (eIs "bool" (Zb 0))))
def ZgG:=ZU 1 Zl4
def Zl5: PS:=(ZF ((ZcY (pIs "int" (Za 0)) (Zkb (pIs "bool" (Za 0))))))
def ZfC:=ZZ 1 Zl5
theorem Zl6: SimF false ZgG ZfC:=Zac (show S [] [] [] false Zl4 Zl5 from(ZQ ((Zfk (E.sh (Zd6 (Zc 0))) (E.sh (Zzd (Zd6 (Zc 0))))))))
def ZmI: Sm:=Zu (ZP (tOr (Zci (ZL (eIs "list" (Zb 0)))) (tOr (ZL (Zh oNe (Zr ZaI (Ze (Zb 0) Zn)) (Zb 1))) Zb5)) (ZE (ZbT false)) ZY) (Zu (Za1 (Za0 (Ze (Zb 1) Zn)) (put1 2) (Zu (ZP (tOr (Zci (ZL (eIs "list" (Zh Zv (Zb 0) (Zb 2))))) (tOr (ZL (Zh oNe (Zr ZaI (Ze (Zh Zv (Zb 0) (Zb 2)) Zn)) (Zb 1))) Zb5)) (ZE (ZbT false)) ZY) (Zu (Za1 (ZbW (Zh Zv (Zb 0) (Zb 2))) (put1 3) (ZP (Zbh (ZL (Zh Zc4 (Zb 3) (Z5))) (Zbh (Zci (ZL (Zr ZgG (Ze (Zb 3) Zn)))) Zat)) (ZE (ZbT false)) ZY)) (ZP (ZL (Zh oNe (Zh Zv (Zh Zv (Zb 0) (Zb 2)) (Zb 2)) (Zk 0))) (ZE (ZbT false)) ZY)))) (ZE (ZbT true)))
def ZmJ:=ZU 2 ZmI
def ZmK: PS:=(Zs (ZT (bOr (ZbX (ZK (pIs "list" (Za 0)))) (bOr (ZK (Zg qNe (Zq ZaB (Zd (Za 0) Zl)) (Za 1))) Zb6)) (ZF (ZbI false)) ZW) (Zs (Za3 (ZaJ (Zd (Za 1) Zl)) (Zak 2) (Zs (ZT (bOr (ZbX (ZK (pIs "list" (Zg Zt (Za 0) (Za 2))))) (bOr (ZK (Zg qNe (Zq ZaB (Zd (Zg Zt (Za 0) (Za 2)) Zl)) (Za 1))) Zb6)) (ZF (ZbI false)) ZW) (Zs (Za3 (Zbp (Zg Zt (Za 0) (Za 2))) (Zak 3) (ZT (Zbi (ZK (Zg ZcB (Za 3) (Zad))) (Zbi (ZbX (ZK (Zq ZfC (Zd (Za 3) Zl)))) Zal)) (ZF (ZbI false)) ZW)) (ZT (ZK (Zg qNe (Zg Zt (Zg Zt (Za 0) (Za 2)) (Za 2)) (Zj 0))) (ZF (ZbI false)) ZW)))) (ZF (ZbI true))))
def ZiC:=ZZ 2 ZmK
theorem ZuF: SimF false ZmJ ZiC:=Zac (show S [] [] [] false ZmI ZmK from(Zz (Z6 (ZaS (ZcN (ZM (Zd6 (Zc 0)))) (ZaS (ZM (ZD ZcI (ZaD ZaX (Zf (Zc 0) Zo)) (Zc 1))) Zcw)) (ZQ (E.bool _)) Z9) (Zz (Zb0 (Gs.range (Zf (Zc 1) Zo)) PutOk.one (by decide) (by decide) (Zz (Z6 (ZaS (ZcN (ZM (Zd6 (ZC ZB (Zc 0) (Zc 2))))) (ZaS (ZM (ZD ZcI (ZaD ZaX (Zf (ZC ZB (Zc 0) (Zc 2)) Zo)) (Zc 1))) Zcw)) (ZQ (E.bool _)) Z9) (Zz (Zb0 (Gs.seq (ZC ZB (Zc 0) (Zc 2))) PutOk.one (by decide) (by decide) (Z6 (ZbG (ZM (ZD Zdy (Zc 3) (Zah))) (ZbG (ZcN (ZM (ZG Zl6 (Zf (Zc 3) Zo)))) ZaE)) (ZQ (E.bool _)) Z9)) (Z6 (ZM (ZD ZcI (ZC ZB (ZC ZB (Zc 0) (Zc 2)) (Zc 2)) (Zm _))) (ZQ (E.bool _)) Z9)))) (ZQ (E.bool _)))))
def ZkQ: Sm:=ZE (Zas (Ze (Zr Zeh (Ze (Zh Zv (Zb 0) (Zk 0)) (Ze (Zh Zv (Zb 1) (Zk 0)) Zn))) (Ze (Zr Zeh (Ze (Zh Zv (Zb 0) (Zk 1)) (Ze (Zh Zv (Zb 1) (Zk 1)) Zn))) Zn)))
def ZkR:=ZU 2 ZkQ
def ZkS: PS:=(ZF (Zav (Zd (Zq ZdM (Zd (Zg Zt (Za 0) (Zj 0)) (Zd (Zg Zt (Za 1) (Zj 0)) Zl))) (Zd (Zq ZdM (Zd (Zg Zt (Za 0) (Zj 1)) (Zd (Zg Zt (Za 1) (Zj 1)) Zl))) Zl))))
def ZhZ:=ZZ 2 ZkS
theorem Zti: SimF false ZkR ZhZ:=Zac (show S [] [] [] false ZkQ ZkS from(ZQ (E.tup (Zf (ZG ZfH (Zf (ZC ZB (Zc 0) (Zm _)) (Zf (ZC ZB (Zc 1) (Zm _)) Zo))) (Zf (ZG ZfH (Zf (ZC ZB (Zc 0) (Zm _)) (Zf (ZC ZB (Zc 1) (Zm _)) Zo))) Zo)))))
def Zl7: Sm:=Zu (ZP (ZL (Zh oIs (Zb 0) (Z5))) (ZE (Z5)) ZY) (ZE (Zh Za2 (Zb 0) (Zb 1)))
def ZeN:=ZU 2 Zl7
def Zl8: PS:=(Zs (ZT (ZK (Zg qIs (Za 0) (Zad))) (ZF (Zad)) ZW) (ZF (Zg ZaN (Za 0) (Za 1))))
def Zee:=ZZ 2 Zl8
theorem ZgH: SimF false ZeN Zee:=Zac (show S [] [] [] false Zl7 Zl8 from(Zz (Z6 (ZM (ZD ZbN (Zc 0) (Zah))) (ZQ (Zah)) Z9) (ZQ (Zaa Zbx (Zc 0) (Zc 1)))))
def Zkq: Sm:=Zu (ZP (ZL (Zh oEq (Zb 1) (Zk 0))) (ZE (Zas (Ze (Zk 0) (Ze (Zk 0) Zn)))) ZY) (Zu (ZO 2 (Zr ZeN (Ze (Zh Zv (Zb 0) (Zk 0)) (Ze (Zb 1) Zn)))) (Zu (ZO 3 (Zr ZeN (Ze (Zh Zv (Zb 0) (Zk 1)) (Ze (Zb 1) Zn)))) (Zu (ZP (ZL (Zh oLt (Zb 1) (Zk 0))) (ZE (Zas (Ze (Zb 3) (Ze (Zb 2) Zn)))) ZY) (ZE (Zas (Ze (Zb 2) (Ze (Zb 3) Zn)))))))
def Zkr:=ZU 2 Zkq
def Zks: PS:=(Zs (ZT (ZK (Zg qEq (Za 1) (Zj 0))) (ZF (Zav (Zd (Zj 0) (Zd (Zj 0) Zl)))) ZW) (Zs (ZN 2 (Zq Zee (Zd (Zg Zt (Za 0) (Zj 0)) (Zd (Za 1) Zl)))) (Zs (ZN 3 (Zq Zee (Zd (Zg Zt (Za 0) (Zj 1)) (Zd (Za 1) Zl)))) (Zs (ZT (ZK (Zg qLt (Za 1) (Zj 0))) (ZF (Zav (Zd (Za 3) (Zd (Za 2) Zl)))) ZW) (ZF (Zav (Zd (Za 2) (Zd (Za 3) Zl))))))))
def ZhT:=ZZ 2 Zks
theorem Zs0: SimF false Zkr ZhT:=Zac (show S [] [] [] false Zkq Zks from(Zz (Z6 (ZM (ZD Zax (Zc 1) (Zm _))) (ZQ (E.tup (Zf (Zm _) (Zf (Zm _) Zo)))) Z9) (Zz (Z2 (O':=[]) (ZG ZgH (Zf (ZC ZB (Zc 0) (Zm _)) (Zf (Zc 1) Zo)))) (Zz (Z2 (O':=[]) (ZG ZgH (Zf (ZC ZB (Zc 0) (Zm _)) (Zf (Zc 1) Zo)))) (Zz (Z6 (ZM (ZD Zc8 (Zc 1) (Zm _))) (ZQ (E.tup (Zf (Zc 3) (Zf (Zc 2) Zo)))) Z9) (ZQ (E.tup (Zf (Zc 2) (Zf (Zc 3) Zo)))))))))
def Zk6: Sm:=Zu (ZO 2 (Zas (Ze (Zh Zv (Zb 0) (Zk 0)) (Ze (Zh Zv (Zb 0) (Zk 0)) Zn)))) (Zu (Za1 (Zc7 (Zd1 (Zb 0) 1) (Zb 1)) (Zb2 3 4) (ZO 2 (Zr ZkR (Ze (Zb 2) (Ze (Zr Zkr (Ze (Zb 4) (Ze (Zb 3) Zn))) Zn))))) (ZE (Zb 2)))
def Zk7:=ZU 2 Zk6
def Zk8: PS:=(Zs (ZN 2 (Zav (Zd (Zg Zt (Za 0) (Zj 0)) (Zd (Zg Zt (Za 0) (Zj 0)) Zl)))) (Zs (Za3 (Zc9 (ZeA (Za 0) 1) (Za 1)) (Zcr 3 4) (ZN 2 (Zq ZhZ (Zd (Za 2) (Zd (Zq ZhT (Zd (Za 4) (Zd (Za 3) Zl))) Zl))))) (ZF (Za 2))))
def Zh2:=ZZ 2 Zk8
theorem Zty: SimF false Zk7 Zh2:=Zac (show S [] [] [] false Zk6 Zk8 from(Zz (Z2 (O':=[]) (E.tup (Zf (ZC ZB (Zc 0) (Zm _)) (Zf (ZC ZB (Zc 0) (Zm _)) Zo)))) (Zz (Zb0 (Gs.zip (ZjH (Zc 0)) (Zc 1)) PutOk.two (by decide) (by decide) (Z2 (O':=[]) (ZG Zti (Zf (Zc 2) (Zf (ZG Zs0 (Zf (Zc 4) (Zf (Zc 3) Zo))) Zo))))) (ZQ (Zc 2)))))
def ZmL: Sm:=Zu (ZO 2 (Zas (Ze (Zk 0) (Ze (Zh Zv (Zb 0) (Zk 0)) Zn)))) (Zu (Za1 (Zc7 (Zd1 (Zb 0) 1) (Zb 1)) (Zb2 3 4) (ZO 2 (Zr ZgF (Ze (Zb 2) (Ze (Zr Zgy (Ze (Zb 4) (Ze (Zb 3) Zn))) Zn))))) (ZE (Zb 2)))
def Zei:=ZU 2 ZmL
def ZmM: PS:=(Zs (ZN 2 (Zav (Zd (Zj 0) (Zd (Zg Zt (Za 0) (Zj 0)) Zl)))) (Zs (Za3 (Zc9 (ZeA (Za 0) 1) (Za 1)) (Zcr 3 4) (ZN 2 (Zq ZfB (Zd (Za 2) (Zd (Zq Zfy (Zd (Za 4) (Zd (Za 3) Zl))) Zl))))) (ZF (Za 2))))
def ZdN:=ZZ 2 ZmM
theorem ZfI: SimF false Zei ZdN:=Zac (show S [] [] [] false ZmL ZmM from(Zz (Z2 (O':=[]) (E.tup (Zf (Zm _) (Zf (ZC ZB (Zc 0) (Zm _)) Zo)))) (Zz (Zb0 (Gs.zip (ZjH (Zc 0)) (Zc 1)) PutOk.two (by decide) (by decide) (Z2 (O':=[]) (ZG Zl0 (Zf (Zc 2) (Zf (ZG ZlB (Zf (Zc 4) (Zf (Zc 3) Zo))) Zo))))) (ZQ (Zc 2)))))
def Znj: Sm:=ZE (Zc6 (Zh Zc4 (Zb 0) (Z5)) (Zc6 (Zh Zc4 (Zb 1) (Z5)) (Zh oGt (Zb 0) (Zb 1))))
def Znk:=ZU 2 Znj
def Znl: PS:=(ZF ((ZcY (Zg ZcB (Za 0) (Zad)) (ZcY (Zg ZcB (Za 1) (Zad)) (Zg qGt (Za 0) (Za 1))))))
def ZfR:=ZZ 2 Znl
theorem Zvo: SimF false Znk ZfR:=Zac (show S [] [] [] false Znj Znl from(ZQ ((Zfk (E.sh (ZD Zdy (Zc 0) (Zah))) (Zfk (E.sh (ZD Zdy (Zc 1) (Zah))) (E.sh (ZD Zfq (Zc 0) (Zc 1))))))))
def Zk9: Sm:=ZE (Zh Zae (Zbm (Ze (Zas (Ze (Zk 0) (Ze (Zk 0) Zn))) Zn)) (Zb 0))
def Zfv:=ZU 1 Zk9
def Zla: PS:=(ZF (Zg Z4 (Za6 (Zd (Zav (Zd (Zj 0) (Zd (Zj 0) Zl))) Zl)) (Za 0)))
def Zfw:=ZZ 1 Zla
theorem Zlb: SimF false Zfv Zfw:=Zac (show S [] [] [] false Zk9 Zla from(ZQ (Zaa Zai (E.list (Zf (E.tup (Zf (Zm _) (Zf (Zm _) Zo))) Zo)) (Zc 0))))
def ZkT: Sm:=Zu (ZO 3 (Zh Zv (Zb 1) (Zb 2))) (Zu (Za1 (Zj2 (Zb 1)) (Zb2 4 5) (ZP (Zbh (ZL (Zh Zc4 (Zb 3) (Z5))) (Zbh (ZL (Zh oEq (Zr Zeh (Ze (Zh Zv (Zh Zv (Zb 0) (Zb 2)) (Zb 4)) (Ze (Zh Zv (Zh Zv (Zb 0) (Zb 4)) (Zb 2)) Zn))) (Zk 0))) Zat)) (ZO 3 (Zr ZgM (Ze (Zb 3) (Ze (Zr ZgF (Ze (Zb 5) (Ze (Zas (Ze (Zk 0) (Ze (Zh Zv (Zh Zv (Zb 0) (Zb 2)) (Zb 4)) Zn))) Zn))) Zn)))) ZY)) (ZE (Zb 3)))
def Zgs:=ZU 3 ZkT
def ZkU: PS:=(Zs (ZN 3 (Zg Zt (Za 1) (Za 2))) (Zs (Za3 (Zj4 (Za 1)) (Zcr 4 5) (ZT (Zbi (ZK (Zg ZcB (Za 3) (Zad))) (Zbi (ZK (Zg qEq (Zq ZdM (Zd (Zg Zt (Zg Zt (Za 0) (Za 2)) (Za 4)) (Zd (Zg Zt (Zg Zt (Za 0) (Za 4)) (Za 2)) Zl))) (Zj 0))) Zal)) (ZN 3 (Zq ZfG (Zd (Za 3) (Zd (Zq ZfB (Zd (Za 5) (Zd (Zav (Zd (Zj 0) (Zd (Zg Zt (Zg Zt (Za 0) (Za 2)) (Za 4)) Zl))) Zl))) Zl)))) ZW)) (ZF (Za 3))))
def ZeI:=ZZ 3 ZkU
theorem Zpr: SimF false Zgs ZeI:=Zac (show S [] [] [] false ZkT ZkU from(Zz (Z2 (O':=[]) (ZC ZB (Zc 1) (Zc 2))) (Zz (Zb0 (Zxn (Zc 1)) PutOk.two (by decide) (by decide) (Z6 (ZbG (ZM (ZD Zdy (Zc 3) (Zah))) (ZbG (ZM (ZD Zax (ZG ZfH (Zf (ZC ZB (ZC ZB (Zc 0) (Zc 2)) (Zc 4)) (Zf (ZC ZB (ZC ZB (Zc 0) (Zc 4)) (Zc 2)) Zo))) (Zm _))) ZaE)) (Z2 (O':=[]) (ZG ZmF (Zf (Zc 3) (Zf (ZG Zl0 (Zf (Zc 5) (Zf (E.tup (Zf (Zm _) (Zf (ZC ZB (ZC ZB (Zc 0) (Zc 2)) (Zc 4)) Zo))) Zo))) Zo)))) Z9)) (ZQ (Zc 3)))))
def Zgu: Sm:=Zu (ZP (ZL (Zh oIs (Zb 0) (Z5))) (ZE (Z5)) ZY) (Zu (ZO 1 (Zr Zfv (Ze (Zh Zv (Zb 0) (Zk 1)) Zn))) (Zu (ZO 2 (Zaz (Za0 (Ze (Zk 1) (Ze (Zr ZaI (Ze (Zb 1) Zn)) Zn))) (put1 100) Zat (Zr Zgs (Ze (Zh Zv (Zb 0) (Zk 0)) (Ze (Zb 1) (Ze (Zb 100) Zn)))))) (Zu (ZP (ZL (Zh oIn (Z5) (Zb 2))) (ZE (Z5)) ZY) (ZE (Zas (Ze (Zh Zv (Zb 0) (Zk 0)) (Ze (Zb 2) Zn)))))))
def Zec:=ZU 1 Zgu
def Zgv: PS:=(Zs (ZT (ZK (Zg qIs (Za 0) (Zad))) (ZF (Zad)) ZW) (Zs (ZN 1 (Zq Zfw (Zd (Zg Zt (Za 0) (Zj 1)) Zl))) (Zs (ZN 2 (Zau (ZaJ (Zd (Zj 1) (Zd (Zq ZaB (Zd (Za 1) Zl)) Zl))) (Zak 100) Zal (Zq ZeI (Zd (Zg Zt (Za 0) (Zj 0)) (Zd (Za 1) (Zd (Za 100) Zl)))))) (Zs (ZT (ZK (Zg qIn (Zad) (Za 2))) (ZF (Zad)) ZW) (ZF (Zav (Zd (Zg Zt (Za 0) (Zj 0)) (Zd (Za 2) Zl))))))))
def ZdJ:=ZZ 1 Zgv
theorem Ztz: SimF false Zec ZdJ:=Zac (show S [] [] [] false Zgu Zgv from(Zz (Z6 (ZM (ZD ZbN (Zc 0) (Zah))) (ZQ (Zah)) Z9) (Zz (Z2 (O':=[]) (ZG Zlb (Zf (ZC ZB (Zc 0) (Zm _)) Zo))) (Zz (Z2 (O':=[]) (Zb4 (Gs.range (Zf (Zm _) (Zf (ZaD ZaX (Zf (Zc 1) Zo)) Zo))) PutOk.one (by decide) ZaE (ZG Zpr (Zf (ZC ZB (Zc 0) (Zm _)) (Zf (Zc 1) (Zf (Zc 100) Zo)))))) (Zz (Z6 (ZM (ZD Zgl (Zah) (Zc 2))) (ZQ (Zah)) Z9) (ZQ (E.tup (Zf (ZC ZB (Zc 0) (Zm _)) (Zf (Zc 2) Zo)))))))))
def ZjO: Sm:=Zu (ZP (ZL (Zh oIs (Zb 0) (Z5))) (ZE (Z5)) ZY) (Zu (ZO 1 (Zr ZfV (Ze (Zh Zv (Zb 0) (Zk 0)) Zn))) (Zu (ZP (ZL (Zh oIs (Zb 1) (Z5))) (ZE (Z5)) ZY) (ZE (Zas (Ze (Zb 1) (Ze (Zh Zv (Zb 0) (Zk 1)) Zn))))))
def Zev:=ZU 1 ZjO
def ZjP: PS:=(Zs (ZT (ZK (Zg qIs (Za 0) (Zad))) (ZF (Zad)) ZW) (Zs (ZN 1 (Zq Zha (Zd (Zg Zt (Za 0) (Zj 0)) Zl))) (Zs (ZT (ZK (Zg qIs (Za 1) (Zad))) (ZF (Zad)) ZW) (ZF (Zav (Zd (Za 1) (Zd (Zg Zt (Za 0) (Zj 1)) Zl)))))))
def Zew:=ZZ 1 ZjP
def ZoP: Sm:=ZE (Zr Zec (Ze (Zr Zev (Ze (Zb 0) Zn)) Zn))
def Zgc:=ZU 1 ZoP
def ZjQ: PS:=(ZF (Zq ZdJ (Zd (Zq Zew (Zd (Za 0) Zl)) Zl)))
def Zho: T→Bool
 | .none=>true
 | .tup [_,.lst ts]=>T.flats ts
 | _=>false
def Zfb: List T→Option T:=fun ts=>(ZZ 1 ZjQ ts).bind fun t=>if Zho t then some t else none
theorem Zr5(hp:0<H.length)(r:RF H a t F): St ⟨H,[],fun x=>x∈F⟩ [] (fun i=>[a][i]?) (fun i=>[t][i]?) H (fun _=>F):=by
 refine⟨fun i u e=>?_,fun i u e x m=>.inr m,fun i hi=>(nomatch hi),Nat.le_refl _,fun x _ _=>rfl,hp,by simp⟩
 cases i with
 | zero=>cases e;exact⟨a,rfl,r⟩
 | succ i=>simp at e
theorem Zru(e:ρ 0=some a)(r:RF H a t F)(ht:t≠.none): ZP (ZL (Zh oIs (Zb 0) (Z5))) (ZE (Z5)) ZY ρ H=some (none,ρ,H):=by
 cases r <;> first | exact absurd rfl ht | simp[ZP,ZL,Zh,Zb,e,Z5,oIs,ZcS,ZY]
theorem Zrv(e:σ 0=some t)(ht:t≠.none): ZT (ZK (Zg qIs (Za 0) (Zad))) (ZF (Zad)) ZW σ=some (none,σ):=by
 cases t <;> first | exact absurd rfl ht | simp[ZT,ZK,Zg,Za,e,Zad,qIs,ZbR,ZW]
theorem Zrw(e:σ 0=some .none): ZT (ZK (Zg qIs (Za 0) (Zad))) (ZF (Zad)) ZW σ=some (some .none,σ):=by
 simp[ZT,ZK,Zg,Za,e,Zad,qIs,ZbR,ZF]
theorem Zpe{a b:PS}{σ1:TL}(h:a σ=some (none,σ1)): Zs a b σ=b σ1:=by simp only[Zs,h,Option.bind_some]
theorem ZsN{a b:PS}{σ1:TL}(h:a σ=some (some t,σ1)): Zs a b σ=some (some t,σ1):=by simp only[Zs,h,Option.bind_some]
theorem Zfn{a b:Sm}{ρ1:Lc}{H1:Hp}(h:a ρ H=some (none,ρ1,H1)): Zu a b ρ H=b ρ1 H1:=by simp only[Zu,h,Option.bind_some]
theorem Zzr{a b:Sm}{ρ1:Lc}{H1:Hp}{v:V}(h:a ρ H=some (some v,ρ1,H1)): Zu a b ρ H=some (some v,ρ1,H1):=by simp only[Zu,h,Option.bind_some]
theorem ZuG{u:T}(hp:0<H.length)(r:RF H a t F)(h:Zew [t]=some u):
  (u=.none∧∃X,Zev [a] H=some (.none,H++X))∨∃w0 v1 u0 u1 X F0 F1,u=.tup [u0,u1]∧Zev [a] H=some (.tup [w0,v1],H++X)∧RF (H++X) w0 u0 F0∧F0.Nodup∧(∀x∈F0,H.length≤x)∧RF (H++X) v1 u1 F1:=by
 have st:=Zr5 hp r
 unfold Zew ZZ at h
 simp only[List.length_cons,List.length_nil,Nat.zero_add,if_true]at h
 obtain⟨r1,h,h0⟩:=Zz1.mp h
 unfold ZjP at h
 by_cases hn:t=.none
 ·subst hn
  rw[ZsN (Zrw rfl)]at h
  cases h
  cases h0
  cases r
  exact .inl ⟨rfl,[],by simp[Zev,ZU,ZjO,Zu,ZP,ZL,Zh,Zb,Z5,oIs,ZcS,ZE]⟩
 ·rw[Zpe (Zrv (σ:=fun i=>[t][i]?) rfl hn)]at h
  have ev:∀b:Sm,Zu (ZP (ZL (Zh oIs (Zb 0) (Z5))) (ZE (Z5)) ZY) b (fun i=>[a][i]?) H=b (fun i=>[a][i]?) H:=fun b=>Zfn (Zru rfl r hn)
  obtain⟨r2,h1',h⟩:=Zz0.mp h
  obtain⟨u0,h1,e1⟩:=Zz1.mp h1'
  subst e1
  have x1:E [] [] true (Zr ZfV (Ze (Zh Zv (Zb 0) (Zk 0)) Zn)) (Zq Zha (Zd (Zg Zt (Za 0) (Zj 0)) Zl)):=ZaA Zwo (Zf (ZC ZB (Zc 0) (Zm _)) Zo)
  obtain⟨w0,X,F0,a1,a2,a3,a4⟩:=x1 _ _ _ _ _ _ st h1
  have new:∀x∈F0,H.length≤x:=fun x m=>(a3 x m).nil
  have e2:ZO 1 (Zr ZfV (Ze (Zh Zv (Zb 0) (Zk 0)) Zn)) (fun i=>[a][i]?) H=some (none,upd (fun i=>[a][i]?) 1 w0,H++X):=by simp only[ZO,a1,Option.map_some]
  simp only at h
  have ev2:∀b:Sm,Zu (ZO 1 (Zr ZfV (Ze (Zh Zv (Zb 0) (Zk 0)) Zn))) b (fun i=>[a][i]?) H=b (upd (fun i=>[a][i]?) 1 w0) (H++X):=fun b=>Zfn e2
  have fin:∀o,Zu (ZP (ZL (Zh oIs (Zb 1) (Z5))) (ZE (Z5)) ZY) (ZE (Zas (Ze (Zb 1) (Ze (Zh Zv (Zb 0) (Zk 1)) Zn)))) (upd (fun i=>[a][i]?) 1 w0) (H++X)=some o→Zev [a] H=some (o.1.getD .none,o.2.2):=fun o ho=>by
   unfold Zev ZU ZjO
   simp only[List.length_cons,List.length_nil,Nat.zero_add,if_true]
   rw[ev,ev2,ho]
   rfl
  by_cases hu:u0=.none
  ·subst hu
   cases a2
   obtain⟨r3,h2,h⟩:=Zz0.mp h
   have:r3=(some .none,Z8 (fun i=>[t][i]?) 1 .none):=by
    have:=h2
    simp[ZT,ZK,Zg,Za,Z8,Zad,qIs,ZbR,ZF]at this
    exact this.symm
   subst this
   cases h
   cases h0
   refine .inl ⟨rfl,X,fin (some .none,upd (fun i=>[a][i]?) 1 .none,H++X) ?_⟩
   exact Zzr (by simp[ZP,ZL,Zh,Zb,upd,Z5,oIs,ZcS,ZE])
  ·have e3:ZP (ZL (Zh oIs (Zb 1) (Z5))) (ZE (Z5)) ZY (upd (fun i=>[a][i]?) 1 w0) (H++X)=some (none,upd (fun i=>[a][i]?) 1 w0,H++X):=by
    cases a2 <;> first | exact(hu rfl).elim | simp[ZP,ZL,Zh,Zb,upd,Z5,oIs,ZcS,ZY]
   have e4:ZT (ZK (Zg qIs (Za 1) (Zad))) (ZF (Zad)) ZW (Z8 (fun i=>[t][i]?) 1 u0)=some (none,Z8 (fun i=>[t][i]?) 1 u0):=by
    cases u0 <;> first | exact(hu rfl).elim | simp[ZT,ZK,Zg,Za,Z8,Zad,qIs,ZbR,ZW]
   rw[Zpe e4]at h
   obtain⟨u',h5,h6⟩:=Zz1.mp h
   subst h6
   obtain⟨us,h7,h8⟩:=Zz1.mp h5
   subst h8
   obtain⟨q0,g1,h9⟩:=Zz0.mp h7
   obtain⟨qs,g2,h10⟩:=Zz0.mp h9
   cases h10
   obtain⟨q1,g3,g6⟩:=Zz0.mp g2
   obtain⟨qs',g4,g7⟩:=Zz0.mp g6
   cases g7
   cases g4
   have eq0:q0=u0:=by
    have:Z8 (fun i=>[t][i]?) 1 u0 1=some q0:=g1
    simp[Z8]at this
    exact this.symm
   subst eq0
   have g5:Zt t (.int 1)=some q1:=by
    have:=g3
    simpa [Zg,Za,Z8,Zj]using this
   obtain⟨v1,F1,b1,b2,b3⟩:=ZB _ _ _ _ _ _ _ _ (r.ext X) (RF.int (H:=H++X) 1) g5
   cases h0
   refine .inr ⟨w0,v1,q0,q1,X,F0,F1,rfl,fin (some (.tup [w0,v1]),upd (fun i=>[a][i]?) 1 w0,H++X) ?_,a2,a4 rfl,new,b2⟩
   rw[Zfn e3]
   simp[ZE,Zas,Ze,Zb,upd,Zh,Zk,b1,Zn,Zba]
theorem Zqs{put:T→TL→Option TL}{f:PE}{σ:TL}: ∀{ts us:List T},ZcW put Zal f σ ts=some us→T.flats us=true→ZcW put Zal (ZbZ f) σ ts=some us
 | [],_,h,_=>h
 | t::ts,us,h,hf=>by
  obtain⟨σ1,h1,h⟩:=Zz0.mp h
  simp only[Zal,Option.bind_some,if_true]at h
  obtain⟨x,h2,h⟩:=Zz0.mp h
  obtain⟨xs,h3,h⟩:=Zz1.mp h
  subst h
  simp only[T.flats,Bool.and_eq_true]at hf
  simp only[ZcW,h1,Option.bind_some,Zal,if_true,ZbZ,h2,hf.1,Zqs h3 hf.2,Option.map_some]
theorem Zp5{u:T}(hp:0<H.length)(r:RF H a t F)(h:ZdJ [t]=some u)(ok:Zho u=true):
  (u=.none∧∃X,Zec [a] H=some (.none,H++X))∨∃w0 w1 u0 u1 X F1,u=.tup [u0,u1]∧Zv a (.int 0) H=some (w0,H)∧Zt t (.int 0)=some u0∧Zec [a] H=some (.tup [w0,w1],H++X)∧RF (H++X) w1 u1 F1∧F1.Nodup∧(∀x∈F1,H.length≤x):=by
 have st:=Zr5 hp r
 have hfull:=h
 unfold ZdJ ZZ at h
 simp only[List.length_cons,List.length_nil,Nat.zero_add,if_true]at h
 obtain⟨r1,h,h0⟩:=Zz1.mp h
 unfold Zgv at h
 by_cases hn:t=.none
 ·subst hn
  rw[ZsN (Zrw rfl)]at h
  cases h
  cases h0
  cases r
  exact .inl ⟨rfl,[],by simp[Zec,ZU,Zgu,Zu,ZP,ZL,Zh,Zb,Z5,oIs,ZcS,ZE]⟩
 ·rw[Zpe (Zrv (σ:=fun i=>[t][i]?) rfl hn)]at h
  have ev:∀b:Sm,Zu (ZP (ZL (Zh oIs (Zb 0) (Z5))) (ZE (Z5)) ZY) b (fun i=>[a][i]?) H=b (fun i=>[a][i]?) H:=fun b=>Zfn (Zru rfl r hn)
  obtain⟨r2,h1',h⟩:=Zz0.mp h
  obtain⟨t1,h1,e1⟩:=Zz1.mp h1'
  subst e1
  have x1:E [] ([0]++[]) false (Zr Zfv (Ze (Zh Zv (Zb 0) (Zk 1)) Zn)) (Zq Zfw (Zd (Zg Zt (Za 0) (Zj 1)) Zl)):=ZG Zlb (Zf (ZC ZB (Zc 0) (Zm _)) Zo)
  obtain⟨v1,X1,Fr,a1,a2,a3,_⟩:=x1 _ _ _ _ _ _ st h1
  have st1:=(st.ext X1).put (j:=1) (by simp) a2 (fun x m=>st.from_src (a3 x m)) (fun i hi=>(nomatch hi))
  have ev1:∀b:Sm,Zu (ZO 1 (Zr Zfv (Ze (Zh Zv (Zb 0) (Zk 1)) Zn))) b (fun i=>[a][i]?) H=b (upd (fun i=>[a][i]?) 1 v1) (H++X1):=fun b=>Zfn (by simp only[ZO,a1,Option.map_some])
  simp only at h
  obtain⟨r3,h2',h⟩:=Zz0.mp h
  obtain⟨t2,h2,e2⟩:=Zz1.mp h2'
  subst e2
  simp only at h
  generalize hσ:Z8 (fun i=>[t][i]?) 1 t1=σ1 at *
  generalize hρ:upd (fun i=>[a][i]?) 1 v1=ρ1 at *
  have hρ0:ρ1 0=some a:=by rw[←hρ];simp[upd]
  have hσ0:σ1 0=some t:=by rw[←hσ];simp[Z8]
  have x2:∀ts,T.flats ts=true→Zau (ZaJ (Zd (Zj 1) (Zd (Zq ZaB (Zd (Za 1) Zl)) Zl))) (Zak 100) Zal (Zq ZeI (Zd (Zg Zt (Za 0) (Zj 0)) (Zd (Za 1) (Zd (Za 100) Zl)))) σ1=some (.lst ts)→∃w X G,Zaz (Za0 (Ze (Zk 1) (Ze (Zr ZaI (Ze (Zb 1) Zn)) Zn))) (put1 100) Zat (Zr Zgs (Ze (Zh Zv (Zb 0) (Zk 0)) (Ze (Zb 1) (Ze (Zb 100) Zn)))) ρ1 (H++X1)=some (w,H++X1++X)∧RF (H++X1++X) w (.lst ts) G∧G.Nodup∧∀x∈G,(H++X1).length≤x:=fun ts hf he=>by
   have y:E [] [] true (Zaz (Za0 (Ze (Zk 1) (Ze (Zr ZaI (Ze (Zb 1) Zn)) Zn))) (put1 100) Zat (Zr Zgs (Ze (Zh Zv (Zb 0) (Zk 0)) (Ze (Zb 1) (Ze (Zb 100) Zn))))) (Zau (ZaJ (Zd (Zj 1) (Zd (Zq ZaB (Zd (Za 1) Zl)) Zl))) (Zak 100) Zal (ZbZ (Zq ZeI (Zd (Zg Zt (Za 0) (Zj 0)) (Zd (Za 1) (Zd (Za 100) Zl)))))):=Zdg (Gs.range (Zf (Zm _) (Zf (ZaD ZaX (Zf (Zc 1) Zo)) Zo))) PutOk.one (by decide) ZaE (E.flat (ZG Zpr (Zf (ZC ZB (Zc 0) (Zm _)) (Zf (Zc 1) (Zf (Zc 100) Zo)))))
   have he2:Zau (ZaJ (Zd (Zj 1) (Zd (Zq ZaB (Zd (Za 1) Zl)) Zl))) (Zak 100) Zal (ZbZ (Zq ZeI (Zd (Zg Zt (Za 0) (Zj 0)) (Zd (Za 1) (Zd (Za 100) Zl))))) σ1=some (.lst ts):=by
    obtain⟨zs,g1,g2⟩:=Zz0.mp he
    split at g2
    ·rename_i hl
     obtain⟨us,g3,g4⟩:=Zz1.mp g2
     cases g4
     simp only[Zau,g1,Option.bind_some]
     rw[if_pos hl,Zqs g3 hf]
     rfl
    ·cases g2
   obtain⟨w,X,G,b1,b2,b3,b4⟩:=y _ _ _ _ _ _ st1 he2
   exact⟨w,X,G,b1,b2,b4 rfl,fun x m=>(b3 x m).nil⟩
  obtain⟨ts,rfl⟩:∃ts,t2=.lst ts:=by
   obtain⟨zs,g1,g2⟩:=Zz0.mp h2
   split at g2
   ·obtain⟨us,g3,g4⟩:=Zz1.mp g2
    exact⟨us,g4.symm⟩
   ·cases g2
  by_cases hu:u=.none
  ·subst hu
   obtain⟨v,X,G,c1,c2,_⟩:=Ztz H [a] [t] .none F hp (RFs.one r) hfull
   cases c2
   exact .inl ⟨rfl,X,c1⟩
  ·obtain⟨r4,h3,h⟩:=Zz0.mp h
   obtain⟨b,h4,h5⟩:=Zz0.mp h3
   cases b with
   | true=>
    simp only[if_true]at h5
    cases h5
    cases h
    cases h0
    exact absurd rfl hu
   | false=>
    cases h5
    simp only at h
    obtain⟨u',h6,h7⟩:=Zz1.mp h
    subst h7
    obtain⟨us,h8,h9⟩:=Zz1.mp h6
    subst h9
    obtain⟨q0,g1,h10⟩:=Zz0.mp h8
    obtain⟨qs,g2,h11⟩:=Zz0.mp h10
    cases h11
    obtain⟨q1,g3,g6⟩:=Zz0.mp g2
    obtain⟨qs',g4,g7⟩:=Zz0.mp g6
    cases g7
    cases g4
    have eq1:q1=.lst ts:=by
     have:Z8 σ1 2 (.lst ts) 2=some q1:=g3
     simp[Z8]at this
     exact this.symm
    subst eq1
    have g5:Zt t (.int 0)=some q0:=by
     have:=g1
     simpa [Zg,Za,Z8,Zj,hσ0]using this
    cases h0
    obtain⟨w,X,G,b1,b2,b3,b4⟩:=x2 ts ok h2
    obtain⟨w0,F0,i1,i2,i3⟩:=ZB _ _ _ _ _ _ _ _ r (RF.int (H:=H) 0) g5
    have st2:=(st1.ext X).put (j:=2) (by simp) b2 (fun x m=>.inl (by have:=b4 x m;simp at this;show H.length≤x;omega)) (fun i hi=>(nomatch hi))
    have bt:Bt [] (ZL (Zh oIn (Z5) (Zb 2))) (ZK (Zg qIn (Zad) (Za 2))):=ZM (ZD Zgl Zah (Zc 2))
    obtain⟨Y,k1⟩:=bt _ _ _ _ _ _ st2 h4
    refine .inr ⟨w0,w,q0,.lst ts,X1++X++Y,G,rfl,i1,g5,?_,by rw[←List.append_assoc,←List.append_assoc];exact b2.ext Y,b3,fun x m=>by have:=b4 x m;simp at this;omega⟩
    unfold Zec ZU Zgu
    simp only[List.length_cons,List.length_nil,Nat.zero_add,if_true]
    rw[ev,ev1,Zfn (ρ1:=upd ρ1 2 w) (H1:=H++X1++X) (by simp only[ZO,b1,Option.map_some]),Zfn (ρ1:=upd ρ1 2 w) (H1:=H++X1++X++Y) (by simp only[ZP,k1,Option.bind_some];rfl)]
    have hidx:=(Znb i1 (X1++X++Y)).2
    have hr:(upd ρ1 2 w) 0=some a:=by simp[upd,hρ0]
    have h2w:(upd ρ1 2 w) 2=some w:=by simp[upd]
    simp only[←List.append_assoc]at hidx ⊢
    generalize H++X1++X++Y=K at *
    have e5:Zas (Ze (Zh Zv (Zb 0) (Zk 0)) (Ze (Zb 2) Zn)) (upd ρ1 2 w) K=some (.tup [w0,w],K):=by
     simp only[Zas,Ze,Zh,Zb,hr,h2w,Zk,Zn,Option.map_some,Option.bind_some,hidx]
     rw[if_pos (by rw[Zba];simp)]
    simp only[ZE,e5,Option.map_some]
    rfl
theorem Zr6: SimF true Zgc Zfb:=fun H vs ts t F1 hp r h=>by
 obtain⟨t',h1,h2⟩:=Zz0.mp h
 by_cases ok:Zho t'=true
 ·rw[if_pos ok]at h2
  cases h2
  unfold ZZ at h1
  split at h1
  ·rename_i hl
   obtain⟨t0,rfl⟩:∃t0,ts=[t0]:=List.length_eq_one_iff.mp hl
   obtain⟨a,rfl,r0⟩:=r.one_inv
   obtain⟨r1,h3,h4⟩:=Zz1.mp h1
   obtain⟨u,h5,h6⟩:=Zz1.mp h3
   subst h6
   cases h4
   obtain⟨us,h7,h8⟩:=Zz0.mp h5
   obtain⟨q0,g1,h9⟩:=Zz0.mp h7
   obtain⟨qs,g2,h10⟩:=Zz0.mp h9
   cases h10
   cases g2
   have g3:Zew [t0]=some q0:=by
    have:=g1
    simpa [Zq,Zd,Za,Zl]using this
   have g4:ZdJ [q0]=some u:=h8
   have run:∀v1 X1 v2 X2,Zev [a] H=some (v1,H++X1)→Zec [v1] (H++X1)=some (v2,H++X1++X2)→Zgc [a] H=some (v2,H++(X1++X2)):=fun v1 X1 v2 X2 e1 e2=>by
    simp[Zgc,ZU,ZoP,ZE,Zr,Ze,Zb,Zn,e1,e2]
   rcases ZuG hp r0 g3 with⟨rfl,X,e1⟩ | ⟨w0,v1,u0,u1,X,F0,F2,rfl,e1,a1,a2,a3,a4⟩
   ·have hp2:0<(H++X).length:=by rw[List.length_append];omega
    rcases Zp5 hp2 (.none (H:=H++X)) g4 ok with⟨rfl,Y,e2⟩ | ⟨_,_,_,_,_,_,_,e2,_⟩
    ·exact⟨.none,X++Y,[],run _ _ _ _ e1 e2,.none,by simp,by simp⟩
    ·cases e2
   ·have hp2:0<(H++X).length:=by rw[List.length_append];omega
    rcases Zp5 hp2 (.tup (.cons a1 (.one a4))) g4 ok with⟨rfl,Y,e2⟩ | ⟨x0,w1,y0,y1,Y,F1',rfl,e3,e4,e2,b1,b2,b3⟩
    ·exact⟨.none,X++Y,[],run _ _ _ _ e1 e2,.none,by simp,by simp⟩
    ·have ex:x0=w0:=by
      have:Zv (.tup [w0,v1]) (.int 0) (H++X)=some (w0,H++X):=by simp[Zv,seqIndex?]
      rw[this]at e3
      cases e3
      rfl
     have ey:y0=u0:=by
      have:Zt (.tup [u0,u1]) (.int 0)=some u0:=by simp[Zt,seqIndex?]
      rw[this]at e4
      cases e4
      rfl
     subst ex ey
     have nd:(F0++F1').Nodup:=by
      rw[List.nodup_append]
      refine⟨a2,b2,fun x hx y hy e=>?_⟩
      have:=a1.lt x hx
      have:=b3 y hy
      omega
     have nw:∀x∈F0++F1',H.length≤x:=fun x m=>by
      rcases Zz8.mp m with m | m
      ·exact a3 x m
      ·have:=b3 x m;rw[List.length_append]at this;omega
     exact⟨.tup [x0,w1],X++Y,F0++F1',run _ _ _ _ e1 e2,by rw[←List.append_assoc];exact .tup (.cons (a1.ext Y) (.one b1)),fun x m=>.inl (nw x m),fun _=>⟨nd,nw⟩⟩
  ·cases h1
 ·rw[if_neg ok]at h2
  cases h2
def Zkt: Sm:=Zu (ZP (ZL (Zh Zc4 (Zb 0) (Z5))) (ZE (Zr ZlD (Ze (Zb 1) (Ze (Zb 0) Zn)))) ZY) (Zu (ZP (ZL (Zh oEq (Zh Zv (Zb 1) (Zk 0)) (Zk 0))) (ZE (Zh Zv (Zb 1) (Zk 1))) ZY) (ZE (Z5)))
def Zku:=ZU 2 Zkt
def Zkv: PS:=(Zs (ZT (ZK (Zg ZcB (Za 0) (Zad))) (ZF (Zq Zia (Zd (Za 1) (Zd (Za 0) Zl)))) ZW) (Zs (ZT (ZK (Zg qEq (Zg Zt (Za 1) (Zj 0)) (Zj 0))) (ZF (Zg Zt (Za 1) (Zj 1))) ZW) (ZF (Zad))))
def ZhU:=ZZ 2 Zkv
theorem Zs1: SimF false Zku ZhU:=Zac (show S [] [] [] false Zkt Zkv from(Zz (Z6 (ZM (ZD Zdy (Zc 0) (Zah))) (ZQ (ZG ZtY (Zf (Zc 1) (Zf (Zc 0) Zo)))) Z9) (Zz (Z6 (ZM (ZD Zax (ZC ZB (Zc 1) (Zm _)) (Zm _))) (ZQ (ZC ZB (Zc 1) (Zm _))) Z9) (ZQ (Zah)))))
def Zlc: Sm:=Zu (ZO 3 (Zbm Zn)) (Zu (Za1 (Zc7 (Zb 0) (Zb 2)) (Zb2 4 5) (Zu (ZO 6 (Zr Zku (Ze (Zb 4) (Ze (Zr ZgF (Ze (Zb 1) (Ze (Zr Zgy (Ze (Zb 5) (Ze (eUn Zcj (Zk 1)) Zn))) Zn))) Zn)))) (Zu (ZP (Zbh (ZL (Zh oIs (Zb 6) (Z5))) (Zbh (ZL (Zh Zc4 (Zb 4) (Z5))) Zat)) (ZE (Z5)) ZY) (Zca (Ze4 (Zb 3) (Zb 6)))))) (ZE (Zb 3)))
def Zld:=ZU 3 Zlc
def Zle: PS:=(Zs (ZN 3 (Za6 Zl)) (Zs (Za3 (Zc9 (Za 0) (Za 2)) (Zcr 4 5) (Zs (ZN 6 (Zq ZhU (Zd (Za 4) (Zd (Zq ZfB (Zd (Za 1) (Zd (Zq Zfy (Zd (Za 5) (Zd (pUn Zck (Zj 1)) Zl))) Zl))) Zl)))) (Zs (ZT (Zbi (ZK (Zg qIs (Za 6) (Zad))) (Zbi (ZK (Zg ZcB (Za 4) (Zad))) Zal)) (ZF (Zad)) ZW) (Zd9 3 [] ZaP (ZbZ (Za 6)))))) (ZF (Za 3))))
def Zh3:=ZZ 3 Zle
theorem ZtA: SimF false Zld Zh3:=Zac (show S [] [3] [] false Zlc Zle from(Zz (Zb7 (O':=[3]) (E.list Zo)) (Zz (Zb0 (Gs.zip (Zc 0) (Zc 2)) PutOk.two (by decide) (by decide) (Zz (Z2 (O':=[3]) (ZG Zs1 (Zf (Zc 4) (Zf (ZG Zl0 (Zf (Zc 1) (Zf (ZG ZlB (Zf (Zc 5) (Zf (ZcF ZcG (Zm _)) Zo))) Zo))) Zo)))) (Zz (Z6 (ZbG (ZM (ZD ZbN (Zc 6) (Zah))) (ZbG (ZM (ZD Zdy (Zc 4) (Zah))) ZaE)) (ZQ (Zah)) Z9) (Zj1 (O':=[3]) (by decide) ZbS (Zbd (O':=[]) (E.flat (Zc 6))) (by decide) (by decide))))) (ZQ (Zc 3)))))
def Znm: Sm:=Zu (ZP (ZL (Zh oIs (Zb 0) (Z5))) (ZE (Z5)) ZY) (Zu (ZO 1 (Zr Zfv (Ze (Zh Zv (Zb 0) (Zk 1)) Zn))) (Zu (ZO 2 (Zaz (Zc7 (Zh Zv (Zb 0) (Zk 0)) (Zb 1)) (Zb2 100 101) Zat (Zr Zld (Ze (Zb 100) (Ze (Zb 101) (Ze (Zb 1) Zn)))))) (Zu (ZP (ZL (Zh oIn (Z5) (Zb 2))) (ZE (Z5)) ZY) (ZE (Zas (Ze (Zb 2) (Ze (Zh Zv (Zb 0) (Zk 1)) Zn)))))))
def Znn:=ZU 1 Znm
def ZiX: PS:=(Zs (ZT (ZK (Zg qIs (Za 0) (Zad))) (ZF (Zad)) ZW) (Zs (ZN 1 (Zq Zfw (Zd (Zg Zt (Za 0) (Zj 1)) Zl))) (Zs (ZN 2 (Zau (Zc9 (Zg Zt (Za 0) (Zj 0)) (Za 1)) (Zcr 100 101) Zal (Zq Zh3 (Zd (Za 100) (Zd (Za 101) (Zd (Za 1) Zl)))))) (Zs (ZT (ZK (Zg qIn (Zad) (Za 2))) (ZF (Zad)) ZW) (ZF (Zav (Zd (Za 2) (Zd (Zg Zt (Za 0) (Zj 1)) Zl))))))))
def ZfS:=ZZ 1 ZiX
theorem Zvp: SimF false Znn ZfS:=Zac (show S [] [] [] false Znm ZiX from(Zz (Z6 (ZM (ZD ZbN (Zc 0) (Zah))) (ZQ (Zah)) Z9) (Zz (Z2 (O':=[]) (ZG Zlb (Zf (ZC ZB (Zc 0) (Zm _)) Zo))) (Zz (Z2 (O':=[]) (Zb4 (Gs.zip (ZC ZB (Zc 0) (Zm _)) (Zc 1)) PutOk.two (by decide) ZaE (ZG ZtA (Zf (Zc 100) (Zf (Zc 101) (Zf (Zc 1) Zo)))))) (Zz (Z6 (ZM (ZD Zgl (Zah) (Zc 2))) (ZQ (Zah)) Z9) (ZQ (E.tup (Zf (Zc 2) (Zf (ZC ZB (Zc 0) (Zm _)) Zo)))))))))
def Zop: Sm:=ZE (Zr Zgc (Ze (Zr Znn (Ze (Zr Zgc (Ze (Zb 0) Zn)) Zn)) Zn))
def Zdh:=ZU 1 Zop
def Zjp: PS:=(ZF (Zq Zfb (Zd (Zq ZfS (Zd (Zq Zfb (Zd (Za 0) Zl)) Zl)) Zl)))
def ZaG:=ZZ 1 Zjp
theorem ZdR: SimF true Zdh ZaG:=Zac (show S [] [] [] true Zop Zjp from(Zap (ZaA Zr6 (Zf (ZG Zvp (Zf (ZG Zr6 (Zf (Zc 0) Zo)) Zo)) Zo))))
def Zl9: Sm:=Zu (ZP (tOr (Zci (ZL (eIs "tuple" (Zb 0)))) (tOr (ZL (Zh oNe (Zr ZaI (Ze (Zb 0) Zn)) (Zk 2))) (tOr (Zci (ZL (Zr ZmJ (Ze (Zh Zv (Zb 0) (Zk 0)) (Ze (Zh Zae (Zb 1) (Zk 1)) Zn))))) Zb5))) (ZE (ZbT false)) ZY) (Zu (ZP (tOr (Zci (ZL (eIs "list" (Zh Zv (Zb 0) (Zk 1))))) (tOr (ZL (Zh oNe (Zr ZaI (Ze (Zh Zv (Zb 0) (Zk 1)) Zn)) (Zb 1))) Zb5)) (ZE (ZbT false)) ZY) (Zu (Za1 (ZbW (Zh Zv (Zb 0) (Zk 1))) (put1 2) (Zu (ZP (tOr (Zci (ZL (eIs "tuple" (Zb 2)))) (tOr (ZL (Zh oNe (Zr ZaI (Ze (Zb 2) Zn)) (Zk 2))) Zb5)) (ZE (ZbT false)) ZY) (Zu (ZP (tOr (Zci (ZL (Zr ZgG (Ze (Zh Zv (Zb 2) (Zk 0)) Zn)))) (tOr (Zci (ZL (Zr ZgG (Ze (Zh Zv (Zb 2) (Zk 1)) Zn)))) Zb5)) (ZE (ZbT false)) ZY) (ZP (tOr (ZL (Zh oLt (Zh Zv (Zb 2) (Zk 0)) (Zk 0))) (tOr (Zbh (ZL (Zh oGt (Zh Zv (Zb 2) (Zk 0)) (Zk 0))) (Zbh (Zci (Zhv oLe oLt (Zk 0) (Zh Zv (Zb 2) (Zk 1)) (Zh Zv (Zb 2) (Zk 0)))) Zat)) Zb5)) (ZE (ZbT false)) ZY)))) (ZE (ZbT true))))
def Zma:=ZU 2 Zl9
def Zmb: PS:=(Zs (ZT (bOr (ZbX (ZK (pIs "tuple" (Za 0)))) (bOr (ZK (Zg qNe (Zq ZaB (Zd (Za 0) Zl)) (Zj 2))) (bOr (ZbX (ZK (Zq ZiC (Zd (Zg Zt (Za 0) (Zj 0)) (Zd (Zg Z4 (Za 1) (Zj 1)) Zl))))) Zb6))) (ZF (ZbI false)) ZW) (Zs (ZT (bOr (ZbX (ZK (pIs "list" (Zg Zt (Za 0) (Zj 1))))) (bOr (ZK (Zg qNe (Zq ZaB (Zd (Zg Zt (Za 0) (Zj 1)) Zl)) (Za 1))) Zb6)) (ZF (ZbI false)) ZW) (Zs (Za3 (Zbp (Zg Zt (Za 0) (Zj 1))) (Zak 2) (Zs (ZT (bOr (ZbX (ZK (pIs "tuple" (Za 2)))) (bOr (ZK (Zg qNe (Zq ZaB (Zd (Za 2) Zl)) (Zj 2))) Zb6)) (ZF (ZbI false)) ZW) (Zs (ZT (bOr (ZbX (ZK (Zq ZfC (Zd (Zg Zt (Za 2) (Zj 0)) Zl)))) (bOr (ZbX (ZK (Zq ZfC (Zd (Zg Zt (Za 2) (Zj 1)) Zl)))) Zb6)) (ZF (ZbI false)) ZW) (ZT (bOr (ZK (Zg qLt (Zg Zt (Za 2) (Zj 0)) (Zj 0))) (bOr (Zbi (ZK (Zg qGt (Zg Zt (Za 2) (Zj 0)) (Zj 0))) (Zbi (ZbX (Zhw qLe qLt (Zj 0) (Zg Zt (Za 2) (Zj 1)) (Zg Zt (Za 2) (Zj 0)))) Zal)) Zb6)) (ZF (ZbI false)) ZW)))) (ZF (ZbI true)))))
def Zim:=ZZ 2 Zmb
theorem Zuj: SimF false Zma Zim:=Zac (show S [] [] [] false Zl9 Zmb from(Zz (Z6 (ZaS (ZcN (ZM (Zd6 (Zc 0)))) (ZaS (ZM (ZD ZcI (ZaD ZaX (Zf (Zc 0) Zo)) (Zm _))) (ZaS (ZcN (ZM (ZG ZuF (Zf (ZC ZB (Zc 0) (Zm _)) (Zf (Zaa Zai (Zc 1) (Zm _)) Zo))))) Zcw))) (ZQ (E.bool _)) Z9) (Zz (Z6 (ZaS (ZcN (ZM (Zd6 (ZC ZB (Zc 0) (Zm _))))) (ZaS (ZM (ZD ZcI (ZaD ZaX (Zf (ZC ZB (Zc 0) (Zm _)) Zo)) (Zc 1))) Zcw)) (ZQ (E.bool _)) Z9) (Zz (Zb0 (Gs.seq (ZC ZB (Zc 0) (Zm _))) PutOk.one (by decide) (by decide) (Zz (Z6 (ZaS (ZcN (ZM (Zd6 (Zc 2)))) (ZaS (ZM (ZD ZcI (ZaD ZaX (Zf (Zc 2) Zo)) (Zm _))) Zcw)) (ZQ (E.bool _)) Z9) (Zz (Z6 (ZaS (ZcN (ZM (ZG Zl6 (Zf (ZC ZB (Zc 2) (Zm _)) Zo)))) (ZaS (ZcN (ZM (ZG Zl6 (Zf (ZC ZB (Zc 2) (Zm _)) Zo)))) Zcw)) (ZQ (E.bool _)) Z9) (Z6 (ZaS (ZM (ZD Zc8 (ZC ZB (Zc 2) (Zm _)) (Zm _))) (ZaS (ZbG (ZM (ZD Zfq (ZC ZB (Zc 2) (Zm _)) (Zm _))) (ZbG (ZcN (Zwh Zpc Zc8 (Zm _) (ZC ZB (Zc 2) (Zm _)) (ZC ZB (Zc 2) (Zm _)))) ZaE)) Zcw)) (ZQ (E.bool _)) Z9)))) (ZQ (E.bool _))))))
def ZmN: Sm:=Zu (ZP (ZL (Zh oIs (Zb 1) (Z5))) (ZE (Zh oIs (Zb 0) (Z5))) ZY) (ZE (Zc6 (Zr Zma (Ze (Zb 0) (Ze (Zr ZaI (Ze (Zh Zv (Zb 1) (Zk 1)) Zn)) Zn))) (Zh oEq (Zb 0) (Zb 1))))
def ZiD:=ZU 2 ZmN
def ZiE: PS:=(Zs (ZT (ZK (Zg qIs (Za 1) (Zad))) (ZF (Zg qIs (Za 0) (Zad))) ZW) (ZF ((ZcY (Zq Zim (Zd (Za 0) (Zd (Zq ZaB (Zd (Zg Zt (Za 1) (Zj 1)) Zl)) Zl))) (Zg qEq (Za 0) (Za 1))))))
def Zdd:=ZZ 2 ZiE
theorem Zp6: SimF false ZiD Zdd:=Zac (show S [] [] [] false ZmN ZiE from(Zz (Z6 (ZM (ZD ZbN (Zc 1) (Zah))) (ZQ (ZD ZbN (Zc 0) (Zah))) Z9) (ZQ ((Zfk (E.sh (ZG Zuj (Zf (Zc 0) (Zf (ZaD ZaX (Zf (ZC ZB (Zc 1) (Zm _)) Zo)) Zo)))) (E.sh (ZD Zax (Zc 0) (Zc 1))))))))
def Zoq(F:List V→Hp→Option (V×Hp)): Sm:=Zu (ZP (ZL (eIs "list" (Zb 0))) (ZE (Zaz (ZbW (Zb 0)) (put1 100) Zat (Zr F (Ze (Zb 100) Zn)))) ZY) (Zu (ZP (ZL (eIs "tuple" (Zb 0))) (ZE (Zr ZfY (Ze (Zaz (ZbW (Zb 0)) (put1 102) Zat (Zr F (Ze (Zb 102) Zn))) Zn))) ZY) (ZE (Zb 0)))
def ZfW: Nat→List V→Hp→Option (V×Hp)
 | 0=>fun _ _=>none
 | n+1=>ZU 1 (Zoq (ZfW n))
def Zf0: List V→Hp→Option (V×Hp):=ZfW 9
def Zf1(F:List T→Option T): PS:=(Zs (ZT (ZK (pIs "list" (Za 0))) (ZF (Zau (Zbp (Za 0)) (Zak 100) Zal (Zq F (Zd (Za 100) Zl)))) ZW) (Zs (ZT (ZK (pIs "tuple" (Za 0))) (ZF (Zq Zjj (Zd (Zau (Zbp (Za 0)) (Zak 102) Zal (Zq F (Zd (Za 102) Zl))) Zl))) ZW) (ZF (ZbZ (Za 0)))))
def Ze3: Nat→List T→Option T
 | 0=>fun _=>none
 | n+1=>ZZ 1 (Zf1 (Ze3 n))
def Zen: List T→Option T:=Ze3 9
theorem ZnU: ∀n:Nat,SimF true (ZfW n) (Ze3 n)
 | 0=>Zvk
 | n+1=>Zac (show S [] [] [] true (Zoq (ZfW n)) (Zf1 (Ze3 n))from(Zz (Z6 (ZM (Zd6 (Zc 0))) (Zap (Zdg (Gs.seq (Zc 0)) PutOk.one (by decide) ZaE (ZaA (ZnU n) (Zf (Zc 100) Zo)))) Z9) (Zz (Z6 (ZM (Zd6 (Zc 0))) (Zap (Zxq Zwi (Ze2 (Zdg (Gs.seq (Zc 0)) PutOk.one (by decide) ZaE (ZaA (ZnU n) (Zf (Zc 102) Zo))) Zo (by decide) (by decide)))) Z9) (Zap (E.flat (Zc 0))))))
theorem Zjq: SimF true Zf0 Zen:=ZnU 9
def Zlf: Sm:=ZE (Zaz (Za0 (Ze (Zh Zae (Zb 1) (Zk 1)) Zn)) (put1 100) Zat (eIf (ZL (Zh oEq (Zb 0) (Zb 100))) (Zk 0) (Z5)))
def Zh4:=ZU 2 Zlf
def Zlg: PS:=(ZF (Zau (ZaJ (Zd (Zg Z4 (Za 1) (Zj 1)) Zl)) (Zak 100) Zal (pIf (ZK (Zg qEq (Za 0) (Za 100))) (Zj 0) (Zad))))
def Zfx:=ZZ 2 Zlg
theorem Zpv: SimF true Zh4 Zfx:=Zac (show S [] [] [] true Zlf Zlg from(Zap (Zdg (Gs.range (Zf (Zaa Zai (Zc 1) (Zm _)) Zo)) PutOk.one (by decide) ZaE (Zez (ZM (ZD Zax (Zc 0) (Zc 100))) (Zm _) (Zah)))))
def ZjR: Sm:=ZE (Zh Zae (Zh Zae (Zep (Zb 0) Zfi (Zfj (Zh Zbo (Zb 1) (Zk 1)))) (Zbm (Ze (Zb 2) Zn))) (Zep (Zb 0) (Zfj (Zb 1)) Zfi))
def Zfc:=ZU 3 ZjR
def Zr7: PS:=(ZF (pFl (Zg Z4 (Zg Z4 (ZdF (Za 0) ZdW (ZdX (Zg Za7 (Za 1) (Zj 1)))) (Za6 (Zd (Za 2) Zl))) (ZdF (Za 0) (ZdX (Za 1)) ZdW))))
def ZoQ:=ZZ 3 Zr7
theorem Zr8: SimF true Zfc ZoQ:=Zac (show S [] [] [] true ZjR Zr7 from(Zap (ZjF Zai (Zaa Zai (Zjk (Zc 0) Pe.none (Pe.some (ZD Zbw (Zc 1) (Zm _)))) (E.list (Zf (Zc 2) Zo))) (Zjk (Zc 0) (Pe.some (Zc 1)) Pe.none))))
def ZmO: Sm:=Zu (ZO 2 (Zaz (ZbW (Zb 0)) (put1 100) Zat (Zr Zfc (Ze (Zb 100) (Ze (Zh Zae (Zb 1) (Zk 1)) (Ze (Z5) Zn)))))) (Zu (ZbV (Zr Zh4 (Ze (Zb 1) (Ze (Zh Zbo (Zr ZaI (Ze (Zb 0) Zn)) (Zk 1)) Zn))) (Zb 2) (Zb 1)) (ZE (Zb 2)))
def ZmP:=ZU 2 ZmO
def Zp7: PS:=(Zs (ZN 2 (Zau (Zbp (Za 0)) (Zak 100) Zal (Zq ZoQ (Zd (Za 100) (Zd (Zg Z4 (Za 1) (Zj 1)) (Zd (Zad) Zl)))))) (Zs (Zbq 2 [] (Zq Zfx (Zd (Za 1) (Zd (Zg Za7 (Zq ZaB (Zd (Za 0) Zl)) (Zj 1)) Zl))) ZaP (Za 1)) (ZF (Za 2))))
def Zp8:=ZZ 2 Zp7
theorem ZuH: SimF true ZmP Zp8:=Zac (show S [] [2] [] true ZmO Zp7 from(Zz (Zb7 (O':=[2]) (Zdg (Gs.seq (Zc 0)) PutOk.one (by decide) ZaE (ZaA Zr8 (Zf (Zc 100) (Zf (Zaa Zai (Zc 1) (Zm _)) (Zf (Zah) Zo)))))) (Zz (S.put (O':=[2]) (by decide) (Zbd (O':=[]) (ZaA Zpv (Zf (Zc 1) (Zf (ZD Zbw (ZaD ZaX (Zf (Zc 0) Zo)) (Zm _)) Zo)))) ZbS (Zc 1) (by decide) (by decide)) (Zap (E.own (by decide))))))
def ZiF: Sm:=Zu (ZbV (Zh Zv (Zb 2) (Zk 1)) (Zh Zv (Zb 0) (Zb 1)) (Zk 0)) (ZbV (Zr ZeN (Ze (Zh Zv (Zb 2) (Zk 0)) (Ze (eUn Zcj (Zk 1)) Zn))) (Zh Zv (Zb 0) (Zk 0)) (Zb 1))
def ZmQ:=ZU 3 ZiF
def Zp9: PS:=(Zs (Zbq 0 [] (ZbZ (Zg Zt (Za 2) (Zj 1))) (Zeq ZaP (Za 1)) (Zj 0)) (Zbq 0 [] (ZbZ (Zq Zee (Zd (Zg Zt (Za 2) (Zj 0)) (Zd (pUn Zck (Zj 1)) Zl)))) (Zeq ZaP (Zj 0)) (Za 1)))
def Zqa:=ZeF 3 Zp9
theorem ZuI: SimM ZmQ Zqa:=Zjn (show S [0] [0] [0] false ZiF Zp9 from(Zz (S.put (O':=[0]) (by decide) (Zbd (O':=[]) (E.flat (ZC ZB (Zc 2) (Zm _)))) (Zht ZbS (Zc 1)) (Zm _) (by decide) (by decide)) (S.put (O':=[0]) (by decide) (Zbd (O':=[]) (E.flat (ZG ZgH (Zf (ZC ZB (Zc 2) (Zm _)) (Zf (ZcF ZcG (Zm _)) Zo))))) (Zht ZbS (Zm _)) (Zc 1) (by decide) (by decide)))) (by decide) (by unfold ZiF;repeat' first | exact Keep0.next | exact ZiT | exact Keep0.ret | exact Keep0.put | apply Keep0.seq | apply ZiU | exact Keep0.set (by decide))
def ZoR: Sm:=Zu (ZP (ZL (Zh oIs (Zb 0) (Z5))) (ZE (Z5)) ZY) (Zu (ZO 4 (Zr ZmP (Ze (Zh Zv (Zb 0) (Zk 0)) (Ze (Zb 1) Zn)))) (Zu (Zca (Zr ZmQ (Ze (Zb 4) (Ze (Zb 1) (Ze (Zb 2) Zn))))) (ZE (Zr Zdh (Ze (Zas (Ze (Zb 4) (Ze (Zr Zfc (Ze (Zh Zv (Zb 0) (Zk 1)) (Ze (Zb 1) (Ze (Zb 3) Zn)))) Zn))) Zn)))))
def ZhB:=ZU 4 ZoR
def Zr9: PS:=(Zs (ZT (ZK (Zg qIs (Za 0) (Zad))) (ZF (Zad)) ZW) (Zs (ZN 4 (Zq Zp8 (Zd (Zg Zt (Za 0) (Zj 0)) (Zd (Za 1) Zl)))) (Zs (ZdI 4 Zqa (Zd (Za 1) (Zd (Za 2) Zl))) (ZF (Zq ZaG (Zd (Zav (Zd (Za 4) (Zd (Zq ZoQ (Zd (Zg Zt (Za 0) (Zj 1)) (Zd (Za 1) (Zd (Za 3) Zl)))) Zl))) Zl))))))
def ZjS:=ZZ 4 Zr9
theorem ZoS: SimF true ZhB ZjS:=Zac (show S [] [4] [] true ZoR Zr9 from(Zz (Z6 (ZM (ZD ZbN (Zc 0) (Zah))) (Zap (Zah)) Z9) (Zz (Zb7 (O':=[4]) (ZaA ZuH (Zf (ZC ZB (Zc 0) (Zm _)) (Zf (Zc 1) Zo)))) (Zz (Zfa (O':=[4]) (by decide) ZuI (Zf (Zc 1) (Zf (Zc 2) Zo)) (by decide) (by decide)) (Zap (ZaA ZdR (Zf (E.tup (Zf (Zc 4) (Zf (ZG Zr8 (Zf (ZC ZB (Zc 0) (Zm _)) (Zf (Zc 1) (Zf (Zc 3) Zo)))) Zo))) Zo)))))))
def Zno: Sm:=Zu (ZO 2 (Zr ZaI (Ze (Zh Zv (Zb 0) (Zk 1)) Zn))) (Zu (ZO 3 (Zaz (ZbW (Zh Zv (Zb 0) (Zk 0))) (put1 100) Zat (Zh Zae (Zb 100) (Zh Za2 (Zbm (Ze (Z5) Zn)) (Zb 1))))) (Zu (ZO 4 (Zaz (Za0 (Ze (Zh Zae (Zb 2) (Zk 1)) (Ze (Zh Zae (Zh Zae (Zb 2) (Zb 1)) (Zk 1)) Zn))) (put1 102) Zat (Zr Zh4 (Ze (Zb 102) (Ze (Zh Zae (Zb 2) (Zb 1)) Zn))))) (ZE (Zas (Ze (Zh Zae (Zb 3) (Zb 4)) (Ze (Zh Zae (Zh Zv (Zb 0) (Zk 1)) (Zh Za2 (Zbm (Ze (Zas (Ze (Zk 1) (Ze (Zk 0) Zn))) Zn)) (Zb 1))) Zn))))))
def Znp:=ZU 2 Zno
def Znq: PS:=(Zs (ZN 2 (Zq ZaB (Zd (Zg Zt (Za 0) (Zj 1)) Zl))) (Zs (ZN 3 (Zau (Zbp (Zg Zt (Za 0) (Zj 0))) (Zak 100) Zal (pFl (Zg Z4 (Za 100) (Zg ZaN (Za6 (Zd (Zad) Zl)) (Za 1)))))) (Zs (ZN 4 (Zau (ZaJ (Zd (Zg Z4 (Za 2) (Zj 1)) (Zd (Zg Z4 (Zg Z4 (Za 2) (Za 1)) (Zj 1)) Zl))) (Zak 102) Zal (Zq Zfx (Zd (Za 102) (Zd (Zg Z4 (Za 2) (Za 1)) Zl))))) (ZF (Zav (Zd (Zg Z4 (Za 3) (Za 4)) (Zd (pFl (Zg Z4 (Zg Zt (Za 0) (Zj 1)) (Zg ZaN (Za6 (Zd (Zav (Zd (Zj 1) (Zd (Zj 0) Zl))) Zl)) (Za 1)))) Zl)))))))
def ZgV:=ZZ 2 Znq
theorem Zvq: SimF true Znp ZgV:=Zac (show S [] [3,4] [] true Zno Znq from(Zz (Z2 (O':=[]) (ZaD ZaX (Zf (ZC ZB (Zc 0) (Zm _)) Zo))) (Zz (Zb7 (O':=[3]) (Zdg (Gs.seq (ZC ZB (Zc 0) (Zm _))) PutOk.one (by decide) ZaE (ZjF Zai (Zc 100) (Zaa Zbx (E.list (Zf (Zah) Zo)) (Zc 1))))) (Zz (Zb7 (O':=[3,4]) (Zbd (O':=[]) (Zdg (Gs.range (Zf (Zaa Zai (Zc 2) (Zm _)) (Zf (Zaa Zai (Zaa Zai (Zc 2) (Zc 1)) (Zm _)) Zo))) PutOk.one (by decide) ZaE (ZaA Zpv (Zf (Zc 102) (Zf (Zaa Zai (Zc 2) (Zc 1)) Zo)))))) (Zap (E.tup (Ze2 (ZyN (E.own (by decide)) (E.own (by decide)) (by decide) (by decide)) (Ze2 (ZjF Zai (ZC ZB (Zc 0) (Zm _)) (Zaa Zbx (E.list (Zf (E.tup (Zf (Zm _) (Zf (Zm _) Zo))) Zo)) (Zc 1))) Zo (by decide) (by decide)) (by decide) (by decide))))))))
def ZiG: Sm:=ZbV (Zr Zi6 (Ze (Zh Zv (Zh Zv (Zb 0) (Zb 1)) (Zb 2)) (Ze (Zb 3) Zn))) (Zh Zv (Zb 0) (Zb 1)) (Zb 2)
def ZfJ:=ZU 4 ZiG
def ZmR: PS:=(Zbq 0 [] (ZbZ (Zq Zg9 (Zd (Zg Zt (Zg Zt (Za 0) (Za 1)) (Za 2)) (Zd (Za 3) Zl)))) (Zeq ZaP (Za 1)) (Za 2))
def ZeT:=ZeF 4 ZmR
theorem ZiH: SimM ZfJ ZeT:=Zjn (show S [0] [0] [0] false ZiG ZmR from(S.put (O':=[0]) (by decide) (Zbd (O':=[]) (E.flat (ZG ZqR (Zf (ZC ZB (ZC ZB (Zc 0) (Zc 1)) (Zc 2)) (Zf (Zc 3) Zo))))) (Zht ZbS (Zc 1)) (Zc 2) (by decide) (by decide))) (by decide) (by unfold ZiG;repeat' first | exact Keep0.next | exact ZiT | exact Keep0.ret | exact Keep0.put | apply Keep0.seq | apply ZiU | exact Keep0.set (by decide))
def Zkg: Sm:=Zu (ZO 3 (Zr Zf0 (Ze (Zb 0) Zn))) (Zu (Za1 (Zc7 (Zb 1) (Zb 2)) (Zb2 4 5) (Za1 (Zc7 (Zb 1) (Zb 5)) (Zb2 6 7) (Zca (Zr ZfJ (Ze (Zb 3) (Ze (Zb 4) (Ze (Zb 6) (Ze (Zb 7) Zn)))))))) (ZE (Zb 3)))
def Zkh:=ZU 3 Zkg
def Zki: PS:=(Zs (ZN 3 (Zq Zen (Zd (Za 0) Zl))) (Zs (Za3 (Zc9 (Za 1) (Za 2)) (Zcr 4 5) (Za3 (Zc9 (Za 1) (Za 5)) (Zcr 6 7) (ZdI 3 ZeT (Zd (Za 4) (Zd (Za 6) (Zd (Za 7) Zl)))))) (ZF (Za 3))))
def ZhQ:=ZZ 3 Zki
theorem ZsR: SimF true Zkh ZhQ:=Zac (show S [] [3] [] true Zkg Zki from(Zz (Zb7 (O':=[3]) (ZaA Zjq (Zf (Zc 0) Zo))) (Zz (Zb0 (Gs.zip (Zc 1) (Zc 2)) PutOk.two (by decide) (by decide) (Zb0 (Gs.zip (Zc 1) (Zc 5)) PutOk.two (by decide) (by decide) (Zfa (O':=[3]) (by decide) ZiH (Zf (Zc 4) (Zf (Zc 6) (Zf (Zc 7) Zo))) (by decide) (by decide)))) (Zap (E.own (by decide))))))
def Znr: Sm:=Zu (ZO 3 (Zr ZdD (Ze (Zh Zv (Zb 0) (Zk 1)) Zn))) (Zu (Za1 (Zc7 (Zb 1) (Zh Zv (Zb 2) (Zk 1))) (Zb2 4 5) (ZbV (Zr ZgM (Ze (Zh Zv (Zb 3) (Zh Zbo (Zb 4) (Zk 1))) (Ze (Zb 5) Zn))) (Zb 3) (Zh Zbo (Zb 4) (Zk 1)))) (Zu (ZP (ZL (Zh oIn (Z5) (Zb 3))) (ZE (Z5)) ZY) (ZE (Zas (Ze (Zr Zkh (Ze (Zh Zv (Zb 0) (Zk 0)) (Ze (Zh Zae (Zbm (Ze (Zk 0) Zn)) (Zb 1)) (Ze (Zh Zv (Zb 2) (Zk 0)) Zn)))) (Ze (Zb 3) Zn))))))
def Zns:=ZU 3 Znr
def Znt: PS:=(Zs (ZN 3 (pFl (Zq ZdE (Zd (Zg Zt (Za 0) (Zj 1)) Zl)))) (Zs (Za3 (Zc9 (Za 1) (Zg Zt (Za 2) (Zj 1))) (Zcr 4 5) (Zbq 3 [] (ZbZ (Zq ZfG (Zd (Zg Zt (Za 3) (Zg Za7 (Za 4) (Zj 1))) (Zd (Za 5) Zl)))) ZaP (Zg Za7 (Za 4) (Zj 1)))) (Zs (ZT (ZK (Zg qIn (Zad) (Za 3))) (ZF (Zad)) ZW) (ZF (Zav (Zd (Zq ZhQ (Zd (Zg Zt (Za 0) (Zj 0)) (Zd (Zg Z4 (Za6 (Zd (Zj 0) Zl)) (Za 1)) (Zd (Zg Zt (Za 2) (Zj 0)) Zl)))) (Zd (Za 3) Zl)))))))
def ZfT:=ZZ 3 Znt
theorem Zvr: SimF true Zns ZfT:=Zac (show S [] [3] [] true Znr Znt from(Zz (Zb7 (O':=[3]) (Zod Zhh (Zf (ZC ZB (Zc 0) (Zm _)) Zo))) (Zz (Zb0 (Gs.zip (Zc 1) (ZC ZB (Zc 2) (Zm _))) PutOk.two (by decide) (by decide) (S.put (O':=[3]) (by decide) (Zbd (O':=[]) (E.flat (ZG ZmF (Zf (ZC ZB (Zc 3) (ZD Zbw (Zc 4) (Zm _))) (Zf (Zc 5) Zo))))) ZbS (ZD Zbw (Zc 4) (Zm _)) (by decide) (by decide))) (Zz (Z6 (ZM (ZD Zgl (Zah) (Zc 3))) (Zap (Zah)) Z9) (Zap (E.tup (Ze2 (ZaA ZsR (Zf (ZC ZB (Zc 0) (Zm _)) (Zf (Zaa Zai (E.list (Zf (Zm _) Zo)) (Zc 1)) (Zf (ZC ZB (Zc 2) (Zm _)) Zo)))) (Ze2 (E.own (by decide)) Zo (by decide) (by decide)) (by decide) (by decide))))))))
def Znu: Sm:=Zu (ZO 3 (Zh Zae (Zbm (Ze (Zr ZeJ (Ze (Zb 0) (Ze (Zb 1) Zn))) Zn)) (Zh Za2 (Zbm (Ze (Zk 0) Zn)) (Zb 2)))) (Zu (ZO 4 (Zr Za9 (Ze (Zb 0) (Ze (Zb 1) (Ze (Zk 6) Zn))))) (Zu (ZP (tOr (ZL (Zh oEq (Zb 4) (Zk 0))) (tOr (ZL (Zh oEq (Zb 2) (Zk 0))) Zb5)) (ZE (Zb 3)) ZY) (Zu (ZO 5 (Zh Zae (Zk 1) (Zr Za9 (Ze (Zb 0) (Ze (Zh Zae (Zb 1) (Zk 1)) (Ze (Zb 2) Zn)))))) (Zu (ZP (ZL (Zh oEq (Zb 4) (Zk 1))) (ZbV (Zh Zbo (Zr Za9 (Ze (Zb 0) (Ze (Zh Zae (Zb 1) (Zk 2)) (Ze (Zk 13) Zn)))) (Zk 6)) (Zb 3) (Zb 5)) ZY) (Zu (ZP (tOr (ZL (Zh oEq (Zb 4) (Zk 2))) (tOr (ZL (Zh oEq (Zb 4) (Zk 3))) Zb5)) (Zu (ZO 6 (Zh Zae (Zk 1) (Zr Za9 (Ze (Zb 0) (Ze (Zh Zae (Zb 1) (Zk 2)) (Ze (Zb 2) Zn)))))) (Zu (ZbV (Zk 1) (Zb 3) (Zb 5)) (ZbV (Zh Zbo (Zh Zv (Zb 3) (Zb 6)) (Zk 1)) (Zb 3) (Zb 6)))) ZY) (Zu (ZP (ZL (Zh oEq (Zb 4) (Zk 4))) (Za1 (Za0 (Ze (Zb 2) Zn)) (put1 7) (ZbV (Zh Zbo (Zr Za9 (Ze (Zb 0) (Ze (Zh Zae (Zh Zae (Zb 1) (Zk 1)) (Zb 7)) (Ze (Zk 7) Zn)))) (Zk 3)) (Zb 3) (Zh Zae (Zb 7) (Zk 1)))) ZY) (Zu (ZP (ZL (Zh oEq (Zb 4) (Zk 5))) (Za1 (Za0 (Ze (Zb 2) Zn)) (put1 7) (ZbV (Zh Zbo (Zr Za9 (Ze (Zb 0) (Ze (Zh Zae (Zh Zae (Zb 1) (Zk 1)) (Zb 7)) (Ze (Zk 2000000001) Zn)))) (Zk 1000000000)) (Zb 3) (Zh Zae (Zb 7) (Zk 1)))) ZY) (ZE (Zb 3)))))))))
def ZiY:=ZU 3 Znu
def Znv: PS:=(Zs (ZN 3 (pFl (Zg Z4 (Za6 (Zd (Zq Zed (Zd (Za 0) (Zd (Za 1) Zl))) Zl)) (Zg ZaN (Za6 (Zd (Zj 0) Zl)) (Za 2))))) (Zs (ZN 4 (Zq ZaO (Zd (Za 0) (Zd (Za 1) (Zd (Zj 6) Zl))))) (Zs (ZT (bOr (ZK (Zg qEq (Za 4) (Zj 0))) (bOr (ZK (Zg qEq (Za 2) (Zj 0))) Zb6)) (ZF (Za 3)) ZW) (Zs (ZN 5 (Zg Z4 (Zj 1) (Zq ZaO (Zd (Za 0) (Zd (Zg Z4 (Za 1) (Zj 1)) (Zd (Za 2) Zl)))))) (Zs (ZT (ZK (Zg qEq (Za 4) (Zj 1))) (Zbq 3 [] (Zg Za7 (Zq ZaO (Zd (Za 0) (Zd (Zg Z4 (Za 1) (Zj 2)) (Zd (Zj 13) Zl)))) (Zj 6)) ZaP (Za 5)) ZW) (Zs (ZT (bOr (ZK (Zg qEq (Za 4) (Zj 2))) (bOr (ZK (Zg qEq (Za 4) (Zj 3))) Zb6)) (Zs (ZN 6 (Zg Z4 (Zj 1) (Zq ZaO (Zd (Za 0) (Zd (Zg Z4 (Za 1) (Zj 2)) (Zd (Za 2) Zl)))))) (Zs (Zbq 3 [] (Zj 1) ZaP (Za 5)) (Zbq 3 [] (Zg Za7 (Zg Zt (Za 3) (Za 6)) (Zj 1)) ZaP (Za 6)))) ZW) (Zs (ZT (ZK (Zg qEq (Za 4) (Zj 4))) (Za3 (ZaJ (Zd (Za 2) Zl)) (Zak 7) (Zbq 3 [] (Zg Za7 (Zq ZaO (Zd (Za 0) (Zd (Zg Z4 (Zg Z4 (Za 1) (Zj 1)) (Za 7)) (Zd (Zj 7) Zl)))) (Zj 3)) ZaP (Zg Z4 (Za 7) (Zj 1)))) ZW) (Zs (ZT (ZK (Zg qEq (Za 4) (Zj 5))) (Za3 (ZaJ (Zd (Za 2) Zl)) (Zak 7) (Zbq 3 [] (Zg Za7 (Zq ZaO (Zd (Za 0) (Zd (Zg Z4 (Zg Z4 (Za 1) (Zj 1)) (Za 7)) (Zd (Zj 2000000001) Zl)))) (Zj 1000000000)) ZaP (Zg Z4 (Za 7) (Zj 1)))) ZW) (ZF (Za 3))))))))))
def ZfU:=ZZ 3 Znv
theorem Zqt: SimF true ZiY ZfU:=Zac (show S [] [3] [] true Znu Znv from(Zz (Zb7 (O':=[3]) (ZjF Zai (E.list (Zf (ZG Zgx (Zf (Zc 0) (Zf (Zc 1) Zo))) Zo)) (Zaa Zbx (E.list (Zf (Zm _) Zo)) (Zc 2)))) (Zz (Z2 (O':=[3]) (ZG Zbj (Zf (Zc 0) (Zf (Zc 1) (Zf (Zm _) Zo))))) (Zz (Z6 (ZaS (ZM (ZD Zax (Zc 4) (Zm _))) (ZaS (ZM (ZD Zax (Zc 2) (Zm _))) Zcw)) (Zap (E.own (by decide))) Z9) (Zz (Z2 (O':=[3]) (Zaa Zai (Zm _) (ZG Zbj (Zf (Zc 0) (Zf (Zaa Zai (Zc 1) (Zm _)) (Zf (Zc 2) Zo)))))) (Zz (Z6 (ZM (ZD Zax (Zc 4) (Zm _))) (S.put (O':=[3]) (by decide) (Zbd (O':=[]) (ZD Zbw (ZG Zbj (Zf (Zc 0) (Zf (Zaa Zai (Zc 1) (Zm _)) (Zf (Zm _) Zo)))) (Zm _))) ZbS (Zc 5) (by decide) (by decide)) Z9) (Zz (Z6 (ZaS (ZM (ZD Zax (Zc 4) (Zm _))) (ZaS (ZM (ZD Zax (Zc 4) (Zm _))) Zcw)) (Zz (Z2 (O':=[3]) (Zaa Zai (Zm _) (ZG Zbj (Zf (Zc 0) (Zf (Zaa Zai (Zc 1) (Zm _)) (Zf (Zc 2) Zo)))))) (Zz (S.put (O':=[3]) (by decide) (Zbd (O':=[]) (Zm _)) ZbS (Zc 5) (by decide) (by decide)) (S.put (O':=[3]) (by decide) (Zbd (O':=[]) (ZD Zbw (ZC ZB (Zc 3) (Zc 6)) (Zm _))) ZbS (Zc 6) (by decide) (by decide)))) Z9) (Zz (Z6 (ZM (ZD Zax (Zc 4) (Zm _))) (Zb0 (Gs.range (Zf (Zc 2) Zo)) PutOk.one (by decide) (by decide) (S.put (O':=[3]) (by decide) (Zbd (O':=[]) (ZD Zbw (ZG Zbj (Zf (Zc 0) (Zf (Zaa Zai (Zaa Zai (Zc 1) (Zm _)) (Zc 7)) (Zf (Zm _) Zo)))) (Zm _))) ZbS (Zaa Zai (Zc 7) (Zm _)) (by decide) (by decide))) Z9) (Zz (Z6 (ZM (ZD Zax (Zc 4) (Zm _))) (Zb0 (Gs.range (Zf (Zc 2) Zo)) PutOk.one (by decide) (by decide) (S.put (O':=[3]) (by decide) (Zbd (O':=[]) (ZD Zbw (ZG Zbj (Zf (Zc 0) (Zf (Zaa Zai (Zaa Zai (Zc 1) (Zm _)) (Zc 7)) (Zf (Zm _) Zo)))) (Zm _))) ZbS (Zaa Zai (Zc 7) (Zm _)) (by decide) (by decide))) Z9) (Zap (E.own (by decide))))))))))))
def Zkw: Sm:=ZE (Zh oEq (Zr Zhn (Ze (Zaz (ZbW (Zd1 (Zb 0) 1)) (put1 100) (ZL (Zh oNe (Zb 100) (Zk 0))) (Zb 100)) Zn)) (Zbm (Ze (eUn Zcj (Zk 1)) (Ze (Zk 1) Zn))))
def Zkx:=ZU 1 Zkw
def Zky: PS:=(ZF (Zg qEq (Zq Zjo (Zd (Zau (Zbp (ZeA (Za 0) 1)) (Zak 100) (ZK (Zg qNe (Za 100) (Zj 0))) (Za 100)) Zl)) (Za6 (Zd (pUn Zck (Zj 1)) (Zd (Zj 1) Zl)))))
def ZhV:=ZZ 1 Zky
theorem Zs2: SimF false Zkx ZhV:=Zac (show S [] [] [] false Zkw Zky from(ZQ (ZD Zax (Zjg Zwk (Zf (Zb4 (Gs.seq (ZjH (Zc 0))) PutOk.one (by decide) (ZM (ZD ZcI (Zc 100) (Zm _))) (Zc 100)) Zo)) (E.list (Zf (ZcF ZcG (Zm _)) (Zf (Zm _) Zo))))))
def ZkV: Sm:=Zu (ZO 1 (Zh Zv (Zb 0) (Zk 0))) (ZE (Zaz (Za0 (Ze (Zk 1) (Ze (Zr ZaI (Ze (Zb 1) Zn)) Zn))) (put1 100) Zat (Zas (Ze (Zr ZeN (Ze (Zh Zv (Zh Zv (Zb 1) (Zk 0)) (Zb 100)) (Ze (eUn Zcj (Zk 1)) Zn))) (Ze (Zh Zv (Zh Zv (Zb 1) (Zb 100)) (Zk 0)) Zn)))))
def ZkW:=ZU 1 ZkV
def ZkX: PS:=(Zs (ZN 1 (Zg Zt (Za 0) (Zj 0))) (ZF (Zau (ZaJ (Zd (Zj 1) (Zd (Zq ZaB (Zd (Za 1) Zl)) Zl))) (Zak 100) Zal (Zav (Zd (Zq Zee (Zd (Zg Zt (Zg Zt (Za 1) (Zj 0)) (Za 100)) (Zd (pUn Zck (Zj 1)) Zl))) (Zd (Zg Zt (Zg Zt (Za 1) (Za 100)) (Zj 0)) Zl))))))
def Zh0:=ZZ 1 ZkX
theorem Ztj: SimF false ZkW Zh0:=Zac (show S [] [] [] false ZkV ZkX from(Zz (Z2 (O':=[]) (ZC ZB (Zc 0) (Zm _))) (ZQ (Zb4 (Gs.range (Zf (Zm _) (Zf (ZaD ZaX (Zf (Zc 1) Zo)) Zo))) PutOk.one (by decide) ZaE (E.tup (Zf (ZG ZgH (Zf (ZC ZB (ZC ZB (Zc 1) (Zm _)) (Zc 100)) (Zf (ZcF ZcG (Zm _)) Zo))) (Zf (ZC ZB (ZC ZB (Zc 1) (Zc 100)) (Zm _)) Zo)))))))
def ZmS: Sm:=Zu (ZP (ZL (Zr Zkx (Ze (Zb 1) Zn))) (ZE (Zr Zeh (Ze (Zh Zv (Zh Zv (Zh Zv (Zb 0) (Zk 0)) (Zhx (Zb 1) (Zk 1) (Zk 1))) (Zhx (Zb 1) (eUn Zcj (Zk 1)) (Zk 1))) (Ze (Zh Zv (Zb 1) (Zk 0)) Zn)))) ZY) (ZE (Zh Zv (Zr Zk7 (Ze (Zb 1) (Ze (Zr ZkW (Ze (Zb 0) Zn)) Zn))) (Zk 1)))
def ZeU:=ZU 2 ZmS
def ZmT: PS:=(Zs (ZT (ZK (Zq ZhV (Zd (Za 1) Zl))) (ZF (Zq ZdM (Zd (Zg Zt (Zg Zt (Zg Zt (Za 0) (Zj 0)) (Zhy (Za 1) (Zj 1) (Zj 1))) (Zhy (Za 1) (pUn Zck (Zj 1)) (Zj 1))) (Zd (Zg Zt (Za 1) (Zj 0)) Zl)))) ZW) (ZF (Zg Zt (Zq Zh2 (Zd (Za 1) (Zd (Zq Zh0 (Zd (Za 0) Zl)) Zl))) (Zj 1))))
def Zej:=ZZ 2 ZmT
theorem ZgN: SimF false ZeU Zej:=Zac (show S [] [] [] false ZmS ZmT from(Zz (Z6 (ZM (ZG Zs2 (Zf (Zc 1) Zo))) (ZQ (ZG ZfH (Zf (ZC ZB (ZC ZB (ZC ZB (Zc 0) (Zm _)) (E.index (Zc 1) (Zm _) (Zm _))) (E.index (Zc 1) (ZcF ZcG (Zm _)) (Zm _))) (Zf (ZC ZB (Zc 1) (Zm _)) Zo)))) Z9) (ZQ (ZC ZB (ZG Zty (Zf (Zc 1) (Zf (ZG Ztj (Zf (Zc 0) Zo)) Zo))) (Zm _)))))
def Zmc: Sm:=ZE (Zaz (ZbW (Zb 0)) (put1 100) Zat (Zh Za2 (Zb 100) (Zb 1)))
def ZdK:=ZU 2 Zmc
def Zmd: PS:=(ZF (Zau (Zbp (Za 0)) (Zak 100) Zal (Zg ZaN (Za 100) (Za 1))))
def Zds:=ZZ 2 Zmd
theorem ZeO: SimF false ZdK Zds:=Zac (show S [] [] [] false Zmc Zmd from(ZQ (Zb4 (Gs.seq (Zc 0)) PutOk.one (by decide) ZaE (Zaa Zbx (Zc 100) (Zc 1)))))
def Zor: Sm:=ZE (Zr ZeN (Ze (Zr ZeU (Ze (Zb 0) (Ze (Zr ZdK (Ze (Zb 1) (Ze (eUn Zcj (Zk 1)) Zn))) Zn))) (Ze (eUn Zcj (Zk 1)) Zn)))
def Zjr:=ZU 2 Zor
def Zos: PS:=(ZF (Zq Zee (Zd (Zq Zej (Zd (Za 0) (Zd (Zq Zds (Zd (Za 1) (Zd (pUn Zck (Zj 1)) Zl))) Zl))) (Zd (pUn Zck (Zj 1)) Zl))))
def Zf2:=ZZ 2 Zos
theorem Zrx: SimF false Zjr Zf2:=Zac (show S [] [] [] false Zor Zos from(ZQ (ZG ZgH (Zf (ZG ZgN (Zf (Zc 0) (Zf (ZG ZeO (Zf (Zc 1) (Zf (ZcF ZcG (Zm _)) Zo))) Zo))) (Zf (ZcF ZcG (Zm _)) Zo)))))
def Zme: Sm:=ZE (Zh Zae (Zh Zv (Zb 0) (Zk 0)) (Zr ZhL (Ze (Zaz (Za0 (Ze (Zr ZaI (Ze (Zb 1) Zn)) Zn)) (put1 100) Zat (Zh Za2 (Zh Zv (Zb 0) (Zh Zae (Zb 100) (Zk 1))) (Zh Zv (Zb 1) (Zb 100)))) Zn)))
def Zin:=ZU 2 Zme
def Zmf: PS:=(ZF (Zg Z4 (Zg Zt (Za 0) (Zj 0)) (Zq Zkd (Zd (Zau (ZaJ (Zd (Zq ZaB (Zd (Za 1) Zl)) Zl)) (Zak 100) Zal (Zg ZaN (Zg Zt (Za 0) (Zg Z4 (Za 100) (Zj 1))) (Zg Zt (Za 1) (Za 100)))) Zl))))
def Zdb:=ZZ 2 Zmf
theorem ZpP: SimF false Zin Zdb:=Zac (show S [] [] [] false Zme Zmf from(ZQ (Zaa Zai (ZC ZB (Zc 0) (Zm _)) (ZaD Zze (Zf (Zb4 (Gs.range (Zf (ZaD ZaX (Zf (Zc 1) Zo)) Zo)) PutOk.one (by decide) ZaE (Zaa Zbx (ZC ZB (Zc 0) (Zaa Zai (Zc 100) (Zm _))) (ZC ZB (Zc 1) (Zc 100)))) Zo)))))
def ZmU: Sm:=ZE (Zaz (Zc7 (Zb 0) (Zb 1)) (Zb2 100 101) Zat (Zh Zae (Zb 100) (Zb 101)))
def ZmV:=ZU 2 ZmU
def ZmW: PS:=(ZF (Zau (Zc9 (Za 0) (Za 1)) (Zcr 100 101) Zal (Zg Z4 (Za 100) (Za 101))))
def ZiI:=ZZ 2 ZmW
theorem ZuJ: SimF false ZmV ZiI:=Zac (show S [] [] [] false ZmU ZmW from(ZQ (Zb4 (Gs.zip (Zc 0) (Zc 1)) PutOk.two (by decide) ZaE (Zaa Zai (Zc 100) (Zc 101)))))
def ZmX: Sm:=ZE (Zr ZmV (Ze (Zb 0) (Ze (Zr ZdK (Ze (Zb 1) (Ze (eUn Zcj (Zk 1)) Zn))) Zn)))
def ZfK:=ZU 2 ZmX
def ZmY: PS:=(ZF (Zq ZiI (Zd (Za 0) (Zd (Zq Zds (Zd (Za 1) (Zd (pUn Zck (Zj 1)) Zl))) Zl))))
def ZeV:=ZZ 2 ZmY
theorem ZiJ: SimF false ZfK ZeV:=Zac (show S [] [] [] false ZmX ZmY from(ZQ (ZG ZuJ (Zf (Zc 0) (Zf (ZG ZeO (Zf (Zc 1) (Zf (ZcF ZcG (Zm _)) Zo))) Zo)))))
def ZlF: Sm:=ZE (Zaz (ZbW (Zb 2)) (put1 100) Zat (Zr ZeU (Ze (Zb 0) (Ze (Zr ZfK (Ze (Zb 1) (Ze (Zb 100) Zn))) Zn))))
def ZlG:=ZU 3 ZlF
def ZlH: PS:=(ZF (Zau (Zbp (Za 2)) (Zak 100) Zal (Zq Zej (Zd (Za 0) (Zd (Zq ZeV (Zd (Za 1) (Zd (Za 100) Zl))) Zl)))))
def Zib:=ZZ 3 ZlH
theorem ZtZ: SimF false ZlG Zib:=Zac (show S [] [] [] false ZlF ZlH from(ZQ (Zb4 (Gs.seq (Zc 2)) PutOk.one (by decide) ZaE (ZG ZgN (Zf (Zc 0) (Zf (ZG ZiJ (Zf (Zc 1) (Zf (Zc 100) Zo))) Zo))))))
def Znw: Sm:=ZE (Zaz (Za0 (Ze (Zh Zae (Zb 1) (Zk 1)) Zn)) (put1 100) Zat (eIf (Zbh (ZL (Zh oGt (Zb 0) (Zk 0))) (Zbh (ZL (Zh oEq (Zb 100) (Zb 0))) Zat)) (Zk 1) (Zk 0)))
def ZdO:=ZU 2 Znw
def Znx: PS:=(ZF (Zau (ZaJ (Zd (Zg Z4 (Za 1) (Zj 1)) Zl)) (Zak 100) Zal (pIf (Zbi (ZK (Zg qGt (Za 0) (Zj 0))) (Zbi (ZK (Zg qEq (Za 100) (Za 0))) Zal)) (Zj 1) (Zj 0))))
def Zde:=ZZ 2 Znx
theorem ZeZ: SimF false ZdO Zde:=Zac (show S [] [] [] false Znw Znx from(ZQ (Zb4 (Gs.range (Zf (Zaa Zai (Zc 1) (Zm _)) Zo)) PutOk.one (by decide) ZaE (Zez (ZbG (ZM (ZD Zfq (Zc 0) (Zm _))) (ZbG (ZM (ZD Zax (Zc 100) (Zc 0))) ZaE)) (E.sh (Zm _)) (E.sh (Zm _))))))
def ZnV: Sm:=Zu (ZP (ZL (Zh oIs (Zb 0) (Z5))) (ZE (Z5)) ZY) (Zu (ZO 2 (Zh Zae (Zbm (Ze (Zr ZdO (Ze (Zk 0) (Ze (Zr ZaI (Ze (Zh Zv (Zb 0) (Zk 1)) Zn)) Zn))) Zn)) (Zb 1))) (Zu (ZO 3 (Zaz (ZbW (Zb 2)) (put1 100) Zat (Zr ZlG (Ze (Zb 0) (Ze (Zb 100) (Ze (Zb 2) Zn)))))) (Zu (ZO 4 (Zaz (ZbW (Zb 1)) (put1 102) Zat (Zr Zei (Ze (Zb 102) (Ze (Zh Zv (Zb 0) (Zk 1)) Zn))))) (ZE (Zr Zdh (Ze (Zas (Ze (Zb 3) (Ze (Zb 4) Zn))) Zn))))))
def Zhb:=ZU 2 ZnV
def Zi7: PS:=(Zs (ZT (ZK (Zg qIs (Za 0) (Zad))) (ZF (Zad)) ZW) (Zs (ZN 2 (Zg Z4 (Za6 (Zd (Zq Zde (Zd (Zj 0) (Zd (Zq ZaB (Zd (Zg Zt (Za 0) (Zj 1)) Zl)) Zl))) Zl)) (Za 1))) (Zs (ZN 3 (Zau (Zbp (Za 2)) (Zak 100) Zal (Zq Zib (Zd (Za 0) (Zd (Za 100) (Zd (Za 2) Zl)))))) (Zs (ZN 4 (Zau (Zbp (Za 1)) (Zak 102) Zal (Zq ZdN (Zd (Za 102) (Zd (Zg Zt (Za 0) (Zj 1)) Zl))))) (ZF (Zq ZaG (Zd (Zav (Zd (Za 3) (Zd (Za 4) Zl))) Zl)))))))
def Zcx:=ZZ 2 Zi7
theorem ZnW: SimF true Zhb Zcx:=Zac (show S [] [] [] true ZnV Zi7 from(Zz (Z6 (ZM (ZD ZbN (Zc 0) (Zah))) (Zap (Zah)) Z9) (Zz (Z2 (O':=[]) (Zaa Zai (E.list (Zf (ZG ZeZ (Zf (Zm _) (Zf (ZaD ZaX (Zf (ZC ZB (Zc 0) (Zm _)) Zo)) Zo))) Zo)) (Zc 1))) (Zz (Z2 (O':=[]) (Zb4 (Gs.seq (Zc 2)) PutOk.one (by decide) ZaE (ZG ZtZ (Zf (Zc 0) (Zf (Zc 100) (Zf (Zc 2) Zo)))))) (Zz (Z2 (O':=[]) (Zb4 (Gs.seq (Zc 1)) PutOk.one (by decide) ZaE (ZG ZfI (Zf (Zc 102) (Zf (ZC ZB (Zc 0) (Zm _)) Zo))))) (Zap (ZaA ZdR (Zf (E.tup (Zf (Zc 3) (Zf (Zc 4) Zo))) Zo))))))))
def ZlI: Sm:=ZE (Zr Zeh (Ze (Zr ZeU (Ze (Zb 0) (Ze (Zr ZfK (Ze (Zb 1) (Ze (Zb 2) Zn))) Zn))) (Ze (Zb 3) Zn)))
def Zic:=ZU 4 ZlI
def ZlJ: PS:=(ZF (Zq ZdM (Zd (Zq Zej (Zd (Za 0) (Zd (Zq ZeV (Zd (Za 1) (Zd (Za 2) Zl))) Zl))) (Zd (Za 3) Zl))))
def Zgz:=ZZ 4 ZlJ
theorem ZpD: SimF false Zic Zgz:=Zac (show S [] [] [] false ZlI ZlJ from(ZQ (ZG ZfH (Zf (ZG ZgN (Zf (Zc 0) (Zf (ZG ZiJ (Zf (Zc 1) (Zf (Zc 2) Zo))) Zo))) (Zf (Zc 3) Zo)))))
def Zh5: Sm:=Zu (ZO 4 (Zr ZaI (Ze (Zh Zv (Zb 1) (Zk 1)) Zn))) (Za1 (Za0 (Ze (Zh Zae (Zb 4) (Zk 1)) Zn)) (put1 5) (Za1 (Za0 (Ze (Zh Zae (Zb 4) (Zk 1)) Zn)) (put1 6) (Zu (ZO 7 (Zr ZfK (Ze (Zr ZdO (Ze (Zb 5) (Ze (Zb 4) Zn))) (Ze (Zr ZdO (Ze (Zb 6) (Ze (Zb 4) Zn))) Zn)))) (Zca (Zr ZfJ (Ze (Zb 0) (Ze (Zb 5) (Ze (Zb 6) (Ze (Zr Zic (Ze (Zb 1) (Ze (Zb 7) (Ze (Zb 2) (Ze (Zb 3) Zn))))) Zn)))))))))
def Zlh:=ZU 4 Zh5
def Zli: PS:=(Zs (ZN 4 (Zq ZaB (Zd (Zg Zt (Za 1) (Zj 1)) Zl))) (Za3 (ZaJ (Zd (Zg Z4 (Za 4) (Zj 1)) Zl)) (Zak 5) (Za3 (ZaJ (Zd (Zg Z4 (Za 4) (Zj 1)) Zl)) (Zak 6) (Zs (ZN 7 (Zq ZeV (Zd (Zq Zde (Zd (Za 5) (Zd (Za 4) Zl))) (Zd (Zq Zde (Zd (Za 6) (Zd (Za 4) Zl))) Zl)))) (ZdI 0 ZeT (Zd (Za 5) (Zd (Za 6) (Zd (Zq Zgz (Zd (Za 1) (Zd (Za 7) (Zd (Za 2) (Zd (Za 3) Zl))))) Zl))))))))
def Zh6:=ZeF 4 Zli
theorem ZtB: SimM Zlh Zh6:=Zjn (show S [0] [0] [0] false Zh5 Zli from(Zz (Z2 (O':=[0]) (ZaD ZaX (Zf (ZC ZB (Zc 1) (Zm _)) Zo))) (Zb0 (Gs.range (Zf (Zaa Zai (Zc 4) (Zm _)) Zo)) PutOk.one (by decide) (by decide) (Zb0 (Gs.range (Zf (Zaa Zai (Zc 4) (Zm _)) Zo)) PutOk.one (by decide) (by decide) (Zz (Z2 (O':=[0]) (ZG ZiJ (Zf (ZG ZeZ (Zf (Zc 5) (Zf (Zc 4) Zo))) (Zf (ZG ZeZ (Zf (Zc 6) (Zf (Zc 4) Zo))) Zo)))) (Zfa (O':=[0]) (by decide) ZiH (Zf (Zc 5) (Zf (Zc 6) (Zf (ZG ZpD (Zf (Zc 1) (Zf (Zc 7) (Zf (Zc 2) (Zf (Zc 3) Zo))))) Zo))) (by decide) (by decide))))))) (by decide) (by unfold Zh5;repeat' first | exact Keep0.next | exact ZiT | exact Keep0.ret | exact Keep0.put | apply Keep0.seq | apply ZiU | exact Keep0.set (by decide) | apply Zqr (Zp3 (by decide)))
def ZlK: Sm:=Zu (ZP (ZL (Zh oIs (Zb 0) (Z5))) (ZE (Z5)) ZY) (ZE (Zh oDiv (Zb 0) (Zb 1)))
def Zfz:=ZU 2 ZlK
def ZlL: PS:=(Zs (ZT (ZK (Zg qIs (Za 0) (Zad))) (ZF (Zad)) ZW) (ZF (Zg ZcP (Za 0) (Za 1))))
def ZeK:=ZZ 2 ZlL
theorem Zid: SimF false Zfz ZeK:=Zac (show S [] [] [] false ZlK ZlL from(Zz (Z6 (ZM (ZD ZbN (Zc 0) (Zah))) (ZQ (Zah)) Z9) (ZQ (ZD ZdG (Zc 0) (Zc 1)))))
def Zh7: Sm:=Zu (ZO 4 (Zr ZaI (Ze (Zh Zv (Zb 1) (Zk 1)) Zn))) (Za1 (Za0 (Ze (Zk 1) (Ze (Zh Zae (Zb 4) (Zk 1)) Zn))) (put1 5) (Zu (ZO 6 (Zh Zv (Zb 2) (Zb 5))) (Zu (ZO 7 (Zr Zic (Ze (Zb 1) (Ze (Zr ZdK (Ze (Zr ZdO (Ze (Zb 5) (Ze (Zb 4) Zn))) (Ze (Zb 6) Zn))) (Ze (Zb 2) (Ze (Zb 3) Zn)))))) (Zu (ZP (ZL (Zh oGt (Zb 6) (Zk 0))) (Zca (Zr ZfJ (Ze (Zb 0) (Ze (Zb 5) (Ze (Zk 0) (Ze (Zr Zfz (Ze (Zb 7) (Ze (Zb 6) Zn))) Zn)))))) ZY) (ZP (ZL (Zh oLt (Zb 6) (Zk 0))) (Zca (Zr ZfJ (Ze (Zb 0) (Ze (Zk 0) (Ze (Zb 5) (Ze (Zr Zfz (Ze (Zb 7) (Ze (eUn Zcj (Zb 6)) Zn))) Zn)))))) ZY)))))
def Zlj:=ZU 4 Zh7
def Zlk: PS:=(Zs (ZN 4 (Zq ZaB (Zd (Zg Zt (Za 1) (Zj 1)) Zl))) (Za3 (ZaJ (Zd (Zj 1) (Zd (Zg Z4 (Za 4) (Zj 1)) Zl))) (Zak 5) (Zs (ZN 6 (Zg Zt (Za 2) (Za 5))) (Zs (ZN 7 (Zq Zgz (Zd (Za 1) (Zd (Zq Zds (Zd (Zq Zde (Zd (Za 5) (Zd (Za 4) Zl))) (Zd (Za 6) Zl))) (Zd (Za 2) (Zd (Za 3) Zl)))))) (Zs (ZT (ZK (Zg qGt (Za 6) (Zj 0))) (ZdI 0 ZeT (Zd (Za 5) (Zd (Zj 0) (Zd (Zq ZeK (Zd (Za 7) (Zd (Za 6) Zl))) Zl)))) ZW) (ZT (ZK (Zg qLt (Za 6) (Zj 0))) (ZdI 0 ZeT (Zd (Zj 0) (Zd (Za 5) (Zd (Zq ZeK (Zd (Za 7) (Zd (pUn Zck (Za 6)) Zl))) Zl)))) ZW))))))
def Zh8:=ZeF 4 Zlk
theorem ZtC: SimM Zlj Zh8:=Zjn (show S [0] [0] [0] false Zh7 Zlk from(Zz (Z2 (O':=[0]) (ZaD ZaX (Zf (ZC ZB (Zc 1) (Zm _)) Zo))) (Zb0 (Gs.range (Zf (Zm _) (Zf (Zaa Zai (Zc 4) (Zm _)) Zo))) PutOk.one (by decide) (by decide) (Zz (Z2 (O':=[0]) (ZC ZB (Zc 2) (Zc 5))) (Zz (Z2 (O':=[0]) (ZG ZpD (Zf (Zc 1) (Zf (ZG ZeO (Zf (ZG ZeZ (Zf (Zc 5) (Zf (Zc 4) Zo))) (Zf (Zc 6) Zo))) (Zf (Zc 2) (Zf (Zc 3) Zo)))))) (Zz (Z6 (ZM (ZD Zfq (Zc 6) (Zm _))) (Zfa (O':=[0]) (by decide) ZiH (Zf (Zc 5) (Zf (Zm _) (Zf (ZG Zid (Zf (Zc 7) (Zf (Zc 6) Zo))) Zo))) (by decide) (by decide)) Z9) (Z6 (ZM (ZD Zc8 (Zc 6) (Zm _))) (Zfa (O':=[0]) (by decide) ZiH (Zf (Zm _) (Zf (Zc 5) (Zf (ZG Zid (Zf (Zc 7) (Zf (ZcF ZcG (Zc 6)) Zo))) Zo))) (by decide) (by decide)) Z9))))))) (by decide) (by unfold Zh7;repeat' first | exact Keep0.next | exact ZiT | exact Keep0.ret | exact Keep0.put | apply Keep0.seq | apply ZiU | exact Keep0.set (by decide) | apply Zqr (Zp3 (by decide)))
def Zny: Sm:=Zu (ZP (tOr (ZL (Zh oIs (Zb 0) (Z5))) (tOr (ZL (Zr Znk (Ze (Zr Zjr (Ze (Zb 0) (Ze (Zb 1) Zn))) (Ze (Zb 2) Zn)))) Zb5)) (ZE (Z5)) ZY) (Zu (ZO 3 (Zr Zf0 (Ze (Zh Zv (Zb 0) (Zk 0)) Zn))) (Zu (Zca (Zr Zlh (Ze (Zb 3) (Ze (Zb 0) (Ze (Zb 1) (Ze (Zb 2) Zn)))))) (Zu (Zca (Zr Zlj (Ze (Zb 3) (Ze (Zb 0) (Ze (Zb 1) (Ze (Zb 2) Zn)))))) (ZE (Zr Zdh (Ze (Zas (Ze (Zb 3) (Ze (Zh Zv (Zb 0) (Zk 1)) Zn))) Zn))))))
def Ze0:=ZU 3 Zny
def ZgW: PS:=(Zs (ZT (bOr (ZK (Zg qIs (Za 0) (Zad))) (bOr (ZK (Zq ZfR (Zd (Zq Zf2 (Zd (Za 0) (Zd (Za 1) Zl))) (Zd (Za 2) Zl)))) Zb6)) (ZF (Zad)) ZW) (Zs (ZN 3 (Zq Zen (Zd (Zg Zt (Za 0) (Zj 0)) Zl))) (Zs (ZdI 3 Zh6 (Zd (Za 0) (Zd (Za 1) (Zd (Za 2) Zl)))) (Zs (ZdI 3 Zh8 (Zd (Za 0) (Zd (Za 1) (Zd (Za 2) Zl)))) (ZF (Zq ZaG (Zd (Zav (Zd (Za 3) (Zd (Zg Zt (Za 0) (Zj 1)) Zl))) Zl)))))))
def Zcf:=ZZ 3 ZgW
theorem ZgX: SimF true Ze0 Zcf:=Zac (show S [] [3] [] true Zny ZgW from(Zz (Z6 (ZaS (ZM (ZD ZbN (Zc 0) (Zah))) (ZaS (ZM (ZG Zvo (Zf (ZG Zrx (Zf (Zc 0) (Zf (Zc 1) Zo))) (Zf (Zc 2) Zo)))) Zcw)) (Zap (Zah)) Z9) (Zz (Zb7 (O':=[3]) (ZaA Zjq (Zf (ZC ZB (Zc 0) (Zm _)) Zo))) (Zz (Zfa (O':=[3]) (by decide) ZtB (Zf (Zc 0) (Zf (Zc 1) (Zf (Zc 2) Zo))) (by decide) (by decide)) (Zz (Zfa (O':=[3]) (by decide) ZtC (Zf (Zc 0) (Zf (Zc 1) (Zf (Zc 2) Zo))) (by decide) (by decide)) (Zap (ZaA ZdR (Zf (E.tup (Zf (Zc 3) (Zf (ZC ZB (Zc 0) (Zm _)) Zo))) Zo))))))))
def ZlM: Sm:=Zu (ZP (ZL (Zb 2)) (ZE (Zr Ze0 (Ze (Zb 0) (Ze (Zb 1) (Ze (eUn Zcj (Zk 1)) Zn))))) ZY) (ZE (Zr Ze0 (Ze (Zb 0) (Ze (Zr ZdK (Ze (Zb 1) (Ze (eUn Zcj (Zk 1)) Zn))) (Ze (Zk 0) Zn)))))
def ZlN:=ZU 3 ZlM
def Zie: PS:=(Zs (ZT (ZK (Za 2)) (ZF (Zq Zcf (Zd (Za 0) (Zd (Za 1) (Zd (pUn Zck (Zj 1)) Zl))))) ZW) (ZF (Zq Zcf (Zd (Za 0) (Zd (Zq Zds (Zd (Za 1) (Zd (pUn Zck (Zj 1)) Zl))) (Zd (Zj 0) Zl))))))
def ZeL:=ZZ 3 Zie
theorem Zt0: SimF true ZlN ZeL:=Zac (show S [] [] [] true ZlM Zie from(Zz (Z6 (ZM (Zc 2)) (Zap (ZaA ZgX (Zf (Zc 0) (Zf (Zc 1) (Zf (ZcF ZcG (Zm _)) Zo))))) Z9) (Zap (ZaA ZgX (Zf (Zc 0) (Zf (ZG ZeO (Zf (Zc 1) (Zf (ZcF ZcG (Zm _)) Zo))) (Zf (Zm _) Zo)))))))
def Zkz: Sm:=ZE (Zr Zeu (Ze (Zr ZfQ (Ze (Zh Zv (Zb 0) (Zk 0)) (Ze (Zb 1) Zn))) (Ze (Zh Zv (Zb 0) (Zk 1)) Zn)))
def ZhW:=ZU 2 Zkz
def ZkA: PS:=(ZF (Zq ZdY (Zd (Zq ZeY (Zd (Zg Zt (Za 0) (Zj 0)) (Zd (Za 1) Zl))) (Zd (Zg Zt (Za 0) (Zj 1)) Zl))))
def Zgp:=ZZ 2 ZkA
theorem Zpo: SimF false ZhW Zgp:=Zac (show S [] [] [] false Zkz ZkA from(ZQ (ZG Zgb (Zf (ZG ZiV (Zf (ZC ZB (Zc 0) (Zm _)) (Zf (Zc 1) Zo))) (Zf (ZC ZB (Zc 0) (Zm _)) Zo)))))
def Zll: Sm:=Zu (ZO 4 (Zh Zv (Zb 1) (Zb 3))) (Zu (ZO 5 (Zh Zv (Zb 0) (Zh Zbo (Zb 3) (Zk 1)))) (Zu (ZP (ZL (Zh oNe (Zr Zd4 (Ze (Zb 4) Zn)) (Zk 1))) (ZE (Zb 5)) ZY) (Zu (ZO 6 (Zr ZfK (Ze (Zb 1) (Ze (Zr ZdK (Ze (Zr ZdO (Ze (Zb 3) (Ze (Zr ZaI (Ze (Zb 0) Zn)) Zn))) (Ze (Zb 4) Zn))) Zn)))) (ZE (Zr ZgM (Ze (Zb 5) (Ze (Zr ZhW (Ze (Zr Zgy (Ze (Zr Zei (Ze (Zb 6) (Ze (Zb 0) Zn))) (Ze (eUn Zcj (Zb 4)) Zn))) (Ze (Zb 2) Zn))) Zn)))))))
def Zlm:=ZU 4 Zll
def Zln: PS:=(Zs (ZN 4 (Zg Zt (Za 1) (Za 3))) (Zs (ZN 5 (Zg Zt (Za 0) (Zg Za7 (Za 3) (Zj 1)))) (Zs (ZT (ZK (Zg qNe (Zq Zd7 (Zd (Za 4) Zl)) (Zj 1))) (ZF (Za 5)) ZW) (Zs (ZN 6 (Zq ZeV (Zd (Za 1) (Zd (Zq Zds (Zd (Zq Zde (Zd (Za 3) (Zd (Zq ZaB (Zd (Za 0) Zl)) Zl))) (Zd (Za 4) Zl))) Zl)))) (ZF (Zq ZfG (Zd (Za 5) (Zd (Zq Zgp (Zd (Zq Zfy (Zd (Zq ZdN (Zd (Za 6) (Zd (Za 0) Zl))) (Zd (pUn Zck (Za 4)) Zl))) (Zd (Za 2) Zl))) Zl))))))))
def Zgw:=ZZ 4 Zln
theorem ZtD: SimF false Zlm Zgw:=Zac (show S [] [] [] false Zll Zln from(Zz (Z2 (O':=[]) (ZC ZB (Zc 1) (Zc 3))) (Zz (Z2 (O':=[]) (ZC ZB (Zc 0) (ZD Zbw (Zc 3) (Zm _)))) (Zz (Z6 (ZM (ZD ZcI (ZaD Zgh (Zf (Zc 4) Zo)) (Zm _))) (ZQ (Zc 5)) Z9) (Zz (Z2 (O':=[]) (ZG ZiJ (Zf (Zc 1) (Zf (ZG ZeO (Zf (ZG ZeZ (Zf (Zc 3) (Zf (ZaD ZaX (Zf (Zc 0) Zo)) Zo))) (Zf (Zc 4) Zo))) Zo)))) (ZQ (ZG ZmF (Zf (Zc 5) (Zf (ZG Zpo (Zf (ZG ZlB (Zf (ZG ZfI (Zf (Zc 6) (Zf (Zc 0) Zo))) (Zf (ZcF ZcG (Zc 4)) Zo))) (Zf (Zc 2) Zo))) Zo)))))))))
def Zmg: Sm:=Zu (ZP (ZL (Zh oIs (Zb 0) (Z5))) (ZE (Z5)) ZY) (Zu (ZO 3 (Zaz (Za0 (Ze (Zk 1) (Ze (Zr ZaI (Ze (Zb 1) Zn)) Zn))) (put1 100) Zat (Zr Zlm (Ze (Zh Zv (Zb 0) (Zk 1)) (Ze (Zb 1) (Ze (Zb 2) (Ze (Zb 100) Zn))))))) (Zu (ZP (ZL (Zh oIn (Z5) (Zb 3))) (ZE (Z5)) ZY) (ZE (Zr Zdh (Ze (Zas (Ze (Zh Zv (Zb 0) (Zk 0)) (Ze (Zb 3) Zn))) Zn)))))
def Zio:=ZU 3 Zmg
def Zip: PS:=(Zs (ZT (ZK (Zg qIs (Za 0) (Zad))) (ZF (Zad)) ZW) (Zs (ZN 3 (Zau (ZaJ (Zd (Zj 1) (Zd (Zq ZaB (Zd (Za 1) Zl)) Zl))) (Zak 100) Zal (Zq Zgw (Zd (Zg Zt (Za 0) (Zj 1)) (Zd (Za 1) (Zd (Za 2) (Zd (Za 100) Zl))))))) (Zs (ZT (ZK (Zg qIn (Zad) (Za 3))) (ZF (Zad)) ZW) (ZF (Zq ZaG (Zd (Zav (Zd (Zg Zt (Za 0) (Zj 0)) (Zd (Za 3) Zl))) Zl))))))
def Zdc:=ZZ 3 Zip
theorem ZpQ: SimF true Zio Zdc:=Zac (show S [] [] [] true Zmg Zip from(Zz (Z6 (ZM (ZD ZbN (Zc 0) (Zah))) (Zap (Zah)) Z9) (Zz (Z2 (O':=[]) (Zb4 (Gs.range (Zf (Zm _) (Zf (ZaD ZaX (Zf (Zc 1) Zo)) Zo))) PutOk.one (by decide) ZaE (ZG ZtD (Zf (ZC ZB (Zc 0) (Zm _)) (Zf (Zc 1) (Zf (Zc 2) (Zf (Zc 100) Zo))))))) (Zz (Z6 (ZM (ZD Zgl (Zah) (Zc 3))) (Zap (Zah)) Z9) (Zap (ZaA ZdR (Zf (E.tup (Zf (ZC ZB (Zc 0) (Zm _)) (Zf (Zc 3) Zo))) Zo)))))))
def Zmh: Sm:=Zu (ZP (Zci (ZL (Zr ZeS (Ze (Zr ZhW (Ze (Zr Zei (Ze (Zb 1) (Ze (Zh Zv (Zb 0) (Zk 1)) Zn))) (Ze (Zb 2) Zn))) (Ze (Zk 0) Zn))))) (ZE (Z5)) ZY) (ZE (Zr Zio (Ze (Zb 0) (Ze (Zb 1) (Ze (Zb 2) Zn)))))
def Ziq:=ZU 3 Zmh
def Zir: PS:=(Zs (ZT (ZbX (ZK (Zq Zeg (Zd (Zq Zgp (Zd (Zq ZdN (Zd (Za 1) (Zd (Zg Zt (Za 0) (Zj 1)) Zl))) (Zd (Za 2) Zl))) (Zd (Zj 0) Zl))))) (ZF (Zad)) ZW) (ZF (Zq Zdc (Zd (Za 0) (Zd (Za 1) (Zd (Za 2) Zl))))))
def ZeP:=ZZ 3 Zir
theorem ZpR: SimF true Ziq ZeP:=Zac (show S [] [] [] true Zmh Zir from(Zz (Z6 (ZcN (ZM (ZG ZgL (Zf (ZG Zpo (Zf (ZG ZfI (Zf (Zc 1) (Zf (ZC ZB (Zc 0) (Zm _)) Zo))) (Zf (Zc 2) Zo))) (Zf (Zm _) Zo))))) (Zap (Zah)) Z9) (Zap (ZaA ZpQ (Zf (Zc 0) (Zf (Zc 1) (Zf (Zc 2) Zo)))))))
def ZkB: Sm:=Zu (ZP (ZL (Zr Zk4 (Ze (Zr Zei (Ze (Zb 1) (Ze (Zh Zv (Zb 0) (Zk 1)) Zn))) (Ze (Zas (Ze (Zb 2) (Ze (Zk 0) Zn))) Zn)))) (ZE (Z5)) ZY) (Zu (ZP (ZL (Zh oEq (Zb 2) (Zk 2))) (ZE (Zr Ziq (Ze (Zb 0) (Ze (Zh Zae (Zbm (Ze (Zh Zae (Zh Zv (Zb 1) (Zk 0)) (Zk 1)) Zn)) (Zd1 (Zb 1) 1)) (Ze (Zk 2) Zn))))) ZY) (ZE (Zr Zf0 (Ze (Zb 0) Zn))))
def ZkC:=ZU 3 ZkB
def Zgq: PS:=(Zs (ZT (ZK (Zq Zh1 (Zd (Zq ZdN (Zd (Za 1) (Zd (Zg Zt (Za 0) (Zj 1)) Zl))) (Zd (Zav (Zd (Za 2) (Zd (Zj 0) Zl))) Zl)))) (ZF (Zad)) ZW) (Zs (ZT (ZK (Zg qEq (Za 2) (Zj 2))) (ZF (Zq ZeP (Zd (Za 0) (Zd (Zg Z4 (Za6 (Zd (Zg Z4 (Zg Zt (Za 1) (Zj 0)) (Zj 1)) Zl)) (ZeA (Za 1) 1)) (Zd (Zj 2) Zl))))) ZW) (ZF (Zq Zen (Zd (Za 0) Zl)))))
def ZeH:=ZZ 3 Zgq
theorem Zs3: SimF true ZkC ZeH:=Zac (show S [] [] [] true ZkB Zgq from(Zz (Z6 (ZM (ZG Ztx (Zf (ZG ZfI (Zf (Zc 1) (Zf (ZC ZB (Zc 0) (Zm _)) Zo))) (Zf (E.tup (Zf (Zc 2) (Zf (Zm _) Zo))) Zo)))) (Zap (Zah)) Z9) (Zz (Z6 (ZM (ZD Zax (Zc 2) (Zm _))) (Zap (ZaA ZpR (Zf (Zc 0) (Zf (Zaa Zai (E.list (Zf (Zaa Zai (ZC ZB (Zc 1) (Zm _)) (Zm _)) Zo)) (ZjH (Zc 1))) (Zf (Zm _) Zo))))) Z9) (Zap (ZaA Zjq (Zf (Zc 0) Zo))))))
def Zmi: Sm:=Zu (ZP (Zci (ZL (Zr ZeS (Ze (Zr Zei (Ze (Zb 1) (Ze (Zh Zv (Zb 0) (Zk 1)) Zn))) (Ze (Zk 0) Zn))))) (ZE (Z5)) ZY) (Zu (ZO 2 (Zr Ze0 (Ze (Zr Ze0 (Ze (Zb 0) (Ze (Zb 1) (Ze (Zk 0) Zn)))) (Ze (Zr ZdK (Ze (Zb 1) (Ze (eUn Zcj (Zk 1)) Zn))) (Ze (Zk 0) Zn))))) (ZE (Zr Zio (Ze (Zb 2) (Ze (Zb 1) (Ze (Zk 0) Zn))))))
def Zmj:=ZU 2 Zmi
def Zmk: PS:=(Zs (ZT (ZbX (ZK (Zq Zeg (Zd (Zq ZdN (Zd (Za 1) (Zd (Zg Zt (Za 0) (Zj 1)) Zl))) (Zd (Zj 0) Zl))))) (ZF (Zad)) ZW) (Zs (ZN 2 (Zq Zcf (Zd (Zq Zcf (Zd (Za 0) (Zd (Za 1) (Zd (Zj 0) Zl)))) (Zd (Zq Zds (Zd (Za 1) (Zd (pUn Zck (Zj 1)) Zl))) (Zd (Zj 0) Zl))))) (ZF (Zq Zdc (Zd (Za 2) (Zd (Za 1) (Zd (Zj 0) Zl)))))))
def ZfD:=ZZ 2 Zmk
theorem Zuk: SimF true Zmj ZfD:=Zac (show S [] [] [] true Zmi Zmk from(Zz (Z6 (ZcN (ZM (ZG ZgL (Zf (ZG ZfI (Zf (Zc 1) (Zf (ZC ZB (Zc 0) (Zm _)) Zo))) (Zf (Zm _) Zo))))) (Zap (Zah)) Z9) (Zz (Z2 (O':=[]) (ZG ZgX (Zf (ZG ZgX (Zf (Zc 0) (Zf (Zc 1) (Zf (Zm _) Zo)))) (Zf (ZG ZeO (Zf (Zc 1) (Zf (ZcF ZcG (Zm _)) Zo))) (Zf (Zm _) Zo))))) (Zap (ZaA ZpQ (Zf (Zc 2) (Zf (Zc 1) (Zf (Zm _) Zo))))))))
def ZmZ: Sm:=Zu (ZP (Zbh (ZL (Zh Zc4 (Zb 0) (Z5))) (Zbh (ZL (Zr Zik (Ze (Zr ZeU (Ze (Zb 0) (Ze (Zb 1) Zn))) (Ze (Zk 0) Zn)))) Zat)) (ZE (Zr Ze0 (Ze (Zb 0) (Ze (Zb 1) (Ze (eUn Zcj (Zk 1)) Zn))))) ZY) (ZE (Zb 0))
def ZiK:=ZU 2 ZmZ
def ZgO: PS:=(Zs (ZT (Zbi (ZK (Zg ZcB (Za 0) (Zad))) (Zbi (ZK (Zq ZgE (Zd (Zq Zej (Zd (Za 0) (Zd (Za 1) Zl))) (Zd (Zj 0) Zl)))) Zal)) (ZF (Zq Zcf (Zd (Za 0) (Zd (Za 1) (Zd (pUn Zck (Zj 1)) Zl))))) ZW) (ZF (Za 0)))
def Zdt:=ZZ 2 ZgO
theorem Zqb: SimF false ZiK Zdt:=Zac (show S [] [] [] false ZmZ ZgO from(Zz (Z6 (ZbG (ZM (ZD Zdy (Zc 0) (Zah))) (ZbG (ZM (ZG ZpN (Zf (ZG ZgN (Zf (Zc 0) (Zf (Zc 1) Zo))) (Zf (Zm _) Zo)))) ZaE)) (ZQ (ZG ZgX (Zf (Zc 0) (Zf (Zc 1) (Zf (ZcF ZcG (Zm _)) Zo))))) Z9) (ZQ (Zc 0))))
def ZkD: Sm:=ZE (Zr Zf0 (Ze (Zr ZiK (Ze (Zr ZiK (Ze (Zb 0) (Ze (Zb 1) Zn))) (Ze (Zr ZdK (Ze (Zb 1) (Ze (eUn Zcj (Zk 1)) Zn))) Zn))) Zn))
def ZkE:=ZU 2 ZkD
def ZkF: PS:=(ZF (Zq Zen (Zd (Zq Zdt (Zd (Zq Zdt (Zd (Za 0) (Zd (Za 1) Zl))) (Zd (Zq Zds (Zd (Za 1) (Zd (pUn Zck (Zj 1)) Zl))) Zl))) Zl)))
def Zft:=ZZ 2 ZkF
theorem Zs4: SimF true ZkE Zft:=Zac (show S [] [] [] true ZkD ZkF from(Zap (ZaA Zjq (Zf (ZG Zqb (Zf (ZG Zqb (Zf (Zc 0) (Zf (Zc 1) Zo))) (Zf (ZG ZeO (Zf (Zc 1) (Zf (ZcF ZcG (Zm _)) Zo))) Zo))) Zo))))
def ZoT: Sm:=Zu (ZP (ZL (Zh oIs (Zb 0) (Z5))) (ZE (Z5)) ZY) (Zu (ZP (ZL (Zh oEq (Zh Zv (Zb 1) (Zk 0)) (Zb9 (Str.ofString "under")))) (ZE (Zr ZlN (Ze (Zb 0) (Ze (Zh Zv (Zb 1) (Zk 1)) (Ze (Zb 2) Zn))))) ZY) (Zu (ZP (ZL (Zh oEq (Zh Zv (Zb 1) (Zk 0)) (Zb9 (Str.ofString "same")))) (ZE (eIf (ZL (Zb 2)) (Zr Zmj (Ze (Zb 0) (Ze (Zh Zv (Zb 1) (Zk 1)) Zn))) (Zr ZkE (Ze (Zb 0) (Ze (Zh Zv (Zb 1) (Zk 1)) Zn))))) ZY) (ZE (eIf (ZL (Zb 2)) (Zr Ziq (Ze (Zb 0) (Ze (Zh Zv (Zb 1) (Zk 1)) (Ze (Zh Zv (Zb 1) (Zk 2)) Zn)))) (Zr ZkC (Ze (Zb 0) (Ze (Zh Zv (Zb 1) (Zk 1)) (Ze (Zh Zv (Zb 1) (Zk 2)) Zn))))))))
def ZjT:=ZU 3 ZoT
def Zgd: PS:=(Zs (ZT (ZK (Zg qIs (Za 0) (Zad))) (ZF (Zad)) ZW) (Zs (ZT (ZK (Zg qEq (Zg Zt (Za 1) (Zj 0)) (ZbM (Str.ofString "under")))) (ZF (Zq ZeL (Zd (Za 0) (Zd (Zg Zt (Za 1) (Zj 1)) (Zd (Za 2) Zl))))) ZW) (Zs (ZT (ZK (Zg qEq (Zg Zt (Za 1) (Zj 0)) (ZbM (Str.ofString "same")))) (ZF (pIf (ZK (Za 2)) (Zq ZfD (Zd (Za 0) (Zd (Zg Zt (Za 1) (Zj 1)) Zl))) (Zq Zft (Zd (Za 0) (Zd (Zg Zt (Za 1) (Zj 1)) Zl))))) ZW) (ZF (pIf (ZK (Za 2)) (Zq ZeP (Zd (Za 0) (Zd (Zg Zt (Za 1) (Zj 1)) (Zd (Zg Zt (Za 1) (Zj 2)) Zl)))) (Zq ZeH (Zd (Za 0) (Zd (Zg Zt (Za 1) (Zj 1)) (Zd (Zg Zt (Za 1) (Zj 2)) Zl)))))))))
def Zco:=ZZ 3 Zgd
theorem Zsa: SimF true ZjT Zco:=Zac (show S [] [] [] true ZoT Zgd from(Zz (Z6 (ZM (ZD ZbN (Zc 0) (Zah))) (Zap (Zah)) Z9) (Zz (Z6 (ZM (ZD Zax (ZC ZB (Zc 1) (Zm _)) (E.str _))) (Zap (ZaA Zt0 (Zf (Zc 0) (Zf (ZC ZB (Zc 1) (Zm _)) (Zf (Zc 2) Zo))))) Z9) (Zz (Z6 (ZM (ZD Zax (ZC ZB (Zc 1) (Zm _)) (E.str _))) (Zap (Zez (ZM (Zc 2)) (ZaA Zuk (Zf (Zc 0) (Zf (ZC ZB (Zc 1) (Zm _)) Zo))) (ZaA Zs4 (Zf (Zc 0) (Zf (ZC ZB (Zc 1) (Zm _)) Zo))))) Z9) (Zap (Zez (ZM (Zc 2)) (ZaA ZpR (Zf (Zc 0) (Zf (ZC ZB (Zc 1) (Zm _)) (Zf (ZC ZB (Zc 1) (Zm _)) Zo)))) (ZaA Zs3 (Zf (Zc 0) (Zf (ZC ZB (Zc 1) (Zm _)) (Zf (ZC ZB (Zc 1) (Zm _)) Zo))))))))))
def Zis: PS:=(Zs (ZN 2 (Zq Zdb (Zd (Zg Zt (Za 0) (Zj 1)) (Zd (Za 1) Zl)))) (Zs (ZT (ZK (Zg qEq (Zg Zt (Za 0) (Zj 0)) (ZbM (Str.ofString "under")))) (ZF (Zg qLt (Za 2) (Zj 0))) ZW) (Zs (ZT (ZK (Zg qEq (Zg Zt (Za 0) (Zj 0)) (ZbM (Str.ofString "same")))) (ZF (Zg qEq (Za 2) (Zj 0))) ZW) (ZF (Zg qEq (Zg ZaK (Za 2) (Zg Zt (Za 0) (Zj 2))) (Zj 0))))))
def ZeQ:=ZZ 2 Zis
def Zot: PS:=(ZF (Zg Z4 (Zg Z4 (ZdF (Za 0) ZdW (ZdX (Zg Za7 (Za 1) (Zj 1)))) (Za6 (Zd (Za 2) Zl))) (ZdF (Za 0) (ZdX (Za 1)) ZdW)))
def Zf3:=ZZ 3 Zot
theorem Zry: SimF false Zfc Zf3:=Zac (show S [] [] [] false ZjR Zot from(ZQ (Zaa Zai (Zaa Zai (Zjk (Zc 0) Pe.none (Pe.some (ZD Zbw (Zc 1) (Zm _)))) (E.list (Zf (Zc 2) Zo))) (Zjk (Zc 0) (Pe.some (Zc 1)) Pe.none))))
def Zm0: Sm:=ZE (Zaz (Za0 (Ze (Zk 1) (Ze (Zh Zae (Zb 0) (Zk 1)) Zn))) (put1 100) Zat (Zr ZdO (Ze (Zb 100) (Ze (Zb 1) Zn))))
def ZgP:=ZU 2 Zm0
def Zm1: PS:=(ZF (Zau (ZaJ (Zd (Zj 1) (Zd (Zg Z4 (Za 0) (Zj 1)) Zl))) (Zak 100) Zal (Zq Zde (Zd (Za 100) (Zd (Za 1) Zl)))))
def ZeW:=ZZ 2 Zm1
theorem Zm2: SimF false ZgP ZeW:=Zac (show S [] [] [] false Zm0 Zm1 from(ZQ (Zb4 (Gs.range (Zf (Zm _) (Zf (Zaa Zai (Zc 0) (Zm _)) Zo))) PutOk.one (by decide) ZaE (ZG ZeZ (Zf (Zc 100) (Zf (Zc 1) Zo))))))
def Zm3: Sm:=Zu (ZO 4 (Zr Zdh (Ze (Zb 0) Zn))) (Zu (ZP (tOr (ZL (Zh oIs (Zb 4) (Z5))) (tOr (ZL (Zh oIs (Zb 3) (Z5))) Zb5)) (ZE (Z5)) ZY) (Zu (ZO 5 (Zr ZaI (Ze (Zh Zv (Zb 4) (Zk 1)) Zn))) (Zu (ZO 6 (Zh Zae (Zh Zae (Zb 5) (Zr ZaI (Ze (Zb 2) Zn))) (Zk 1))) (Zu (ZO 7 (Zr Zhb (Ze (Zb 4) (Ze (Zh Zae (Zr ZgP (Ze (Zb 5) (Ze (Zb 5) Zn))) (Zb 2)) Zn)))) (Zu (ZP (ZL (Zh oIs (Zb 7) (Z5))) (ZE (Z5)) ZY) (Zu (ZO 8 (Zr Zdh (Ze (Zr Zns (Ze (Zr Znp (Ze (Zb 7) (Ze (Zk 1) Zn))) (Ze (Zr Zhz (Ze (Zh Zae (Zb 5) (Zk 1)) (Ze (Zh Zae (Zb 6) (Zk 1)) Zn))) (Ze (Zb 3) Zn)))) Zn))) (ZE (Zr Zhb (Ze (Zb 8) (Ze (Zr Zfc (Ze (Zr ZgP (Ze (Zb 5) (Ze (Zb 6) Zn))) (Ze (Zb 1) (Ze (Zr ZdO (Ze (Zb 6) (Ze (Zb 6) Zn))) Zn)))) Zn))))))))))
def ZiL:=ZU 4 Zm3
def ZfL: PS:=(Zs (ZN 4 (Zq ZaG (Zd (Za 0) Zl))) (Zs (ZT (bOr (ZK (Zg qIs (Za 4) (Zad))) (bOr (ZK (Zg qIs (Za 3) (Zad))) Zb6)) (ZF (Zad)) ZW) (Zs (ZN 5 (Zq ZaB (Zd (Zg Zt (Za 4) (Zj 1)) Zl))) (Zs (ZN 6 (Zg Z4 (Zg Z4 (Za 5) (Zq ZaB (Zd (Za 2) Zl))) (Zj 1))) (Zs (ZN 7 (Zq Zcx (Zd (Za 4) (Zd (Zg Z4 (Zq ZeW (Zd (Za 5) (Zd (Za 5) Zl))) (Za 2)) Zl)))) (Zs (ZT (ZK (Zg qIs (Za 7) (Zad))) (ZF (Zad)) ZW) (Zs (ZN 8 (Zq ZaG (Zd (Zq ZfT (Zd (Zq ZgV (Zd (Za 7) (Zd (Zj 1) Zl))) (Zd (Zq ZhA (Zd (Zg Z4 (Za 5) (Zj 1)) (Zd (Zg Z4 (Za 6) (Zj 1)) Zl))) (Zd (Za 3) Zl)))) Zl))) (ZF (Zq Zcx (Zd (Za 8) (Zd (Zq Zf3 (Zd (Zq ZeW (Zd (Za 5) (Zd (Za 6) Zl))) (Zd (Za 1) (Zd (Zq Zde (Zd (Za 6) (Zd (Za 6) Zl))) Zl)))) Zl)))))))))))
def Zb3:=ZZ 4 ZfL
theorem Zqc: SimF true ZiL Zb3:=Zac (show S [] [] [] true Zm3 ZfL from(Zz (Z2 (O':=[]) (ZG ZdR (Zf (Zc 0) Zo))) (Zz (Z6 (ZaS (ZM (ZD ZbN (Zc 4) (Zah))) (ZaS (ZM (ZD ZbN (Zc 3) (Zah))) Zcw)) (Zap (Zah)) Z9) (Zz (Z2 (O':=[]) (ZaD ZaX (Zf (ZC ZB (Zc 4) (Zm _)) Zo))) (Zz (Z2 (O':=[]) (Zaa Zai (Zaa Zai (Zc 5) (ZaD ZaX (Zf (Zc 2) Zo))) (Zm _))) (Zz (Z2 (O':=[]) (ZG ZnW (Zf (Zc 4) (Zf (Zaa Zai (ZG Zm2 (Zf (Zc 5) (Zf (Zc 5) Zo))) (Zc 2)) Zo)))) (Zz (Z6 (ZM (ZD ZbN (Zc 7) (Zah))) (Zap (Zah)) Z9) (Zz (Z2 (O':=[]) (ZG ZdR (Zf (ZG Zvr (Zf (ZG Zvq (Zf (Zc 7) (Zf (Zm _) Zo))) (Zf (Zjg Zxt (Zf (Zaa Zai (Zc 5) (Zm _)) (Zf (Zaa Zai (Zc 6) (Zm _)) Zo))) (Zf (Zc 3) Zo)))) Zo))) (Zap (ZaA ZnW (Zf (Zc 8) (Zf (ZG Zry (Zf (ZG Zm2 (Zf (Zc 5) (Zf (Zc 6) Zo))) (Zf (Zc 1) (Zf (ZG ZeZ (Zf (Zc 6) (Zf (Zc 6) Zo))) Zo)))) Zo))))))))))))
def Zkj: Sm:=ZE (Zas (Ze (Zr Zfz (Ze (Zh Zv (Zb 0) (Zk 0)) (Ze (Zb 1) Zn))) (Ze (Zr Zfz (Ze (Zh Zv (Zb 0) (Zk 1)) (Ze (Zb 1) Zn))) Zn)))
def ZhR:=ZU 2 Zkj
def Zpg: PS:=(ZF (Zav (Zd (Zq ZeK (Zd (Zg Zt (Za 0) (Zj 0)) (Zd (Za 1) Zl))) (Zd (Zq ZeK (Zd (Zg Zt (Za 0) (Zj 1)) (Zd (Za 1) Zl))) Zl))))
def Zkk:=ZZ 2 Zpg
theorem Zph: SimF false ZhR Zkk:=Zac (show S [] [] [] false Zkj Zpg from(ZQ (E.tup (Zf (ZG Zid (Zf (ZC ZB (Zc 0) (Zm _)) (Zf (Zc 1) Zo))) (Zf (ZG Zid (Zf (ZC ZB (Zc 0) (Zm _)) (Zf (Zc 1) Zo))) Zo)))))
def Zkl: Sm:=Zu (ZO 2 (Zr ZhR (Ze (Zb 0) (Ze (Zb 1) Zn)))) (Zu (ZP (Zbh (ZL (Zh Zc4 (Zh Zv (Zb 2) (Zk 0)) (Z5))) (Zbh (ZL (Zh oEq (Zh Zv (Zb 2) (Zk 0)) (Zh Zv (Zb 2) (Zk 1)))) Zat)) (ZE (Zas (Ze (Zh oMod (Zh Zv (Zb 0) (Zk 0)) (Zb 1)) (Ze (Zh oMod (Zh Zv (Zb 0) (Zk 1)) (Zb 1)) Zn)))) ZY) (ZE (Zas (Ze (Zk 0) (Ze (Zh Zbo (Zb 1) (Zk 1)) Zn)))))
def Zkm:=ZU 2 Zkl
def Zpi: PS:=(Zs (ZN 2 (Zq Zkk (Zd (Za 0) (Zd (Za 1) Zl)))) (Zs (ZT (Zbi (ZK (Zg ZcB (Zg Zt (Za 2) (Zj 0)) (Zad))) (Zbi (ZK (Zg qEq (Zg Zt (Za 2) (Zj 0)) (Zg Zt (Za 2) (Zj 1)))) Zal)) (ZF (Zav (Zd (Zg ZaK (Zg Zt (Za 0) (Zj 0)) (Za 1)) (Zd (Zg ZaK (Zg Zt (Za 0) (Zj 1)) (Za 1)) Zl)))) ZW) (ZF (Zav (Zd (Zj 0) (Zd (Zg Za7 (Za 1) (Zj 1)) Zl))))))
def Zpj:=ZZ 2 Zpi
theorem ZsS: SimF false Zkm Zpj:=Zac (show S [] [] [] false Zkl Zpi from(Zz (Z2 (O':=[]) (ZG Zph (Zf (Zc 0) (Zf (Zc 1) Zo)))) (Zz (Z6 (ZbG (ZM (ZD Zdy (ZC ZB (Zc 2) (Zm _)) (Zah))) (ZbG (ZM (ZD Zax (ZC ZB (Zc 2) (Zm _)) (ZC ZB (Zc 2) (Zm _)))) ZaE)) (ZQ (E.tup (Zf (ZD ZaW (ZC ZB (Zc 0) (Zm _)) (Zc 1)) (Zf (ZD ZaW (ZC ZB (Zc 0) (Zm _)) (Zc 1)) Zo)))) Z9) (ZQ (E.tup (Zf (Zm _) (Zf (ZD Zbw (Zc 1) (Zm _)) Zo)))))))
def Zlo: Sm:=Zu (ZO 2 (Zr ZfQ (Ze (Zh Zv (Zb 0) (Zk 0)) (Ze (Zb 1) Zn)))) (Zu (ZP (ZL (Zh oEq (Zb 2) (Zb 1))) (ZE (Zas (Ze (Zk 0) (Ze (Zh oMod (Zh Zv (Zb 0) (Zk 1)) (Zb 1)) Zn)))) ZY) (ZE (Zr Zeu (Ze (Zb 2) (Ze (Zh Zv (Zb 0) (Zk 1)) Zn)))))
def Zlp:=ZU 2 Zlo
def Zpw: PS:=(Zs (ZN 2 (Zq ZeY (Zd (Zg Zt (Za 0) (Zj 0)) (Zd (Za 1) Zl)))) (Zs (ZT (ZK (Zg qEq (Za 2) (Za 1))) (ZF (Zav (Zd (Zj 0) (Zd (Zg ZaK (Zg Zt (Za 0) (Zj 1)) (Za 1)) Zl)))) ZW) (ZF (Zq ZdY (Zd (Za 2) (Zd (Zg Zt (Za 0) (Zj 1)) Zl))))))
def Zpx:=ZZ 2 Zpw
theorem ZtE: SimF false Zlp Zpx:=Zac (show S [] [] [] false Zlo Zpw from(Zz (Z2 (O':=[]) (ZG ZiV (Zf (ZC ZB (Zc 0) (Zm _)) (Zf (Zc 1) Zo)))) (Zz (Z6 (ZM (ZD Zax (Zc 2) (Zc 1))) (ZQ (E.tup (Zf (Zm _) (Zf (ZD ZaW (ZC ZB (Zc 0) (Zm _)) (Zc 1)) Zo)))) Z9) (ZQ (ZG Zgb (Zf (Zc 2) (Zf (ZC ZB (Zc 0) (Zm _)) Zo)))))))
def Zlq: Sm:=Zu (ZP (ZL (Zh oEq (Zh oMod (Zh Zv (Zb 0) (Zk 0)) (Zb 1)) (Zk 0))) (ZE (Zr Zeu (Ze (Zh oDiv (Zh Zv (Zb 0) (Zk 0)) (Zb 1)) (Ze (Zh oDiv (Zh Zv (Zb 0) (Zk 1)) (Zb 1)) Zn)))) ZY) (ZE (Zas (Ze (Zk 1) (Ze (Zk 0) Zn))))
def Zlr:=ZU 2 Zlq
def Zpy: PS:=(Zs (ZT (ZK (Zg qEq (Zg ZaK (Zg Zt (Za 0) (Zj 0)) (Za 1)) (Zj 0))) (ZF (Zq ZdY (Zd (Zg ZcP (Zg Zt (Za 0) (Zj 0)) (Za 1)) (Zd (Zg ZcP (Zg Zt (Za 0) (Zj 1)) (Za 1)) Zl)))) ZW) (ZF (Zav (Zd (Zj 1) (Zd (Zj 0) Zl)))))
def Zpz:=ZZ 2 Zpy
theorem ZtF: SimF false Zlr Zpz:=Zac (show S [] [] [] false Zlq Zpy from(Zz (Z6 (ZM (ZD Zax (ZD ZaW (ZC ZB (Zc 0) (Zm _)) (Zc 1)) (Zm _))) (ZQ (ZG Zgb (Zf (ZD ZdG (ZC ZB (Zc 0) (Zm _)) (Zc 1)) (Zf (ZD ZdG (ZC ZB (Zc 0) (Zm _)) (Zc 1)) Zo)))) Z9) (ZQ (E.tup (Zf (Zm _) (Zf (Zm _) Zo))))))
def Znz: Sm:=Zu (ZP (ZL (Zh oEq (Zh Zv (Zb 1) (Zk 0)) (Zb9 (Str.ofString "set")))) (Zu (ZO 2 (Zr ZaI (Ze (Zh Zv (Zb 0) (Zk 1)) Zn))) (ZE (Zr Zhb (Ze (Zb 0) (Ze (Zr Zfc (Ze (Zr ZgP (Ze (Zb 2) (Ze (Zb 2) Zn))) (Ze (Zh Zv (Zb 1) (Zk 1)) (Ze (Zh Zv (Zb 1) (Zk 2)) Zn)))) Zn))))) ZY) (Zu (ZP (ZL (Zh oEq (Zh Zv (Zb 1) (Zk 0)) (Zb9 (Str.ofString "any")))) (ZE (Zr ZhB (Ze (Zb 0) (Ze (Zh Zv (Zb 1) (Zk 1)) (Ze (Zas (Ze (Zh Zv (Zb 1) (Zk 2)) (Ze (Zh Zv (Zb 1) (Zk 3)) Zn))) (Ze (Zas (Ze (Zk 1) (Ze (Zk 0) Zn))) Zn)))))) ZY) (Zu (ZO 3 (Zas (Ze (Zr Zjr (Ze (Zb 0) (Ze (Zh Zv (Zb 1) (Zk 2)) Zn))) (Ze (Zr ZeU (Ze (Zb 0) (Ze (Zh Zv (Zb 1) (Zk 2)) Zn))) Zn)))) (Zu (ZO 4 (Zr Zei (Ze (Zh Zv (Zb 1) (Zk 2)) (Ze (Zh Zv (Zb 0) (Zk 1)) Zn)))) (Zu (ZP (ZL (Zh oEq (Zh Zv (Zb 1) (Zk 0)) (Zb9 (Str.ofString "part")))) (ZE (Zr ZhB (Ze (Zb 0) (Ze (Zh Zv (Zb 1) (Zk 1)) (Ze (Zr ZhR (Ze (Zb 3) (Ze (Zh Zv (Zb 1) (Zk 3)) Zn))) (Ze (Zr Zlr (Ze (Zb 4) (Ze (Zh Zv (Zb 1) (Zk 3)) Zn))) Zn)))))) ZY) (ZE (Zr ZhB (Ze (Zb 0) (Ze (Zh Zv (Zb 1) (Zk 1)) (Ze (Zr Zkm (Ze (Zb 3) (Ze (Zh Zv (Zb 1) (Zk 3)) Zn))) (Ze (Zr Zlp (Ze (Zb 4) (Ze (Zh Zv (Zb 1) (Zk 3)) Zn))) Zn))))))))))
def ZnA:=ZU 2 Znz
def Zqu: PS:=(Zs (ZT (ZK (Zg qEq (Zg Zt (Za 1) (Zj 0)) (ZbM (Str.ofString "set")))) (Zs (ZN 2 (Zq ZaB (Zd (Zg Zt (Za 0) (Zj 1)) Zl))) (ZF (Zq Zcx (Zd (Za 0) (Zd (Zq Zf3 (Zd (Zq ZeW (Zd (Za 2) (Zd (Za 2) Zl))) (Zd (Zg Zt (Za 1) (Zj 1)) (Zd (Zg Zt (Za 1) (Zj 2)) Zl)))) Zl))))) ZW) (Zs (ZT (ZK (Zg qEq (Zg Zt (Za 1) (Zj 0)) (ZbM (Str.ofString "any")))) (ZF (Zq ZjS (Zd (Za 0) (Zd (Zg Zt (Za 1) (Zj 1)) (Zd (Zav (Zd (Zg Zt (Za 1) (Zj 2)) (Zd (Zg Zt (Za 1) (Zj 3)) Zl))) (Zd (Zav (Zd (Zj 1) (Zd (Zj 0) Zl))) Zl)))))) ZW) (Zs (ZN 3 (Zav (Zd (Zq Zf2 (Zd (Za 0) (Zd (Zg Zt (Za 1) (Zj 2)) Zl))) (Zd (Zq Zej (Zd (Za 0) (Zd (Zg Zt (Za 1) (Zj 2)) Zl))) Zl)))) (Zs (ZN 4 (Zq ZdN (Zd (Zg Zt (Za 1) (Zj 2)) (Zd (Zg Zt (Za 0) (Zj 1)) Zl)))) (Zs (ZT (ZK (Zg qEq (Zg Zt (Za 1) (Zj 0)) (ZbM (Str.ofString "part")))) (ZF (Zq ZjS (Zd (Za 0) (Zd (Zg Zt (Za 1) (Zj 1)) (Zd (Zq Zkk (Zd (Za 3) (Zd (Zg Zt (Za 1) (Zj 3)) Zl))) (Zd (Zq Zpz (Zd (Za 4) (Zd (Zg Zt (Za 1) (Zj 3)) Zl))) Zl)))))) ZW) (ZF (Zq ZjS (Zd (Za 0) (Zd (Zg Zt (Za 1) (Zj 1)) (Zd (Zq Zpj (Zd (Za 3) (Zd (Zg Zt (Za 1) (Zj 3)) Zl))) (Zd (Zq Zpx (Zd (Za 4) (Zd (Zg Zt (Za 1) (Zj 3)) Zl))) Zl)))))))))))
def Zqv:=ZZ 2 Zqu
theorem Zvs: SimF true ZnA Zqv:=Zac (show S [] [] [] true Znz Zqu from(Zz (Z6 (ZM (ZD Zax (ZC ZB (Zc 1) (Zm _)) (E.str _))) (Zz (Z2 (O':=[]) (ZaD ZaX (Zf (ZC ZB (Zc 0) (Zm _)) Zo))) (Zap (ZaA ZnW (Zf (Zc 0) (Zf (ZG Zry (Zf (ZG Zm2 (Zf (Zc 2) (Zf (Zc 2) Zo))) (Zf (ZC ZB (Zc 1) (Zm _)) (Zf (ZC ZB (Zc 1) (Zm _)) Zo)))) Zo))))) Z9) (Zz (Z6 (ZM (ZD Zax (ZC ZB (Zc 1) (Zm _)) (E.str _))) (Zap (ZaA ZoS (Zf (Zc 0) (Zf (ZC ZB (Zc 1) (Zm _)) (Zf (E.tup (Zf (ZC ZB (Zc 1) (Zm _)) (Zf (ZC ZB (Zc 1) (Zm _)) Zo))) (Zf (E.tup (Zf (Zm _) (Zf (Zm _) Zo))) Zo)))))) Z9) (Zz (Z2 (O':=[]) (E.tup (Zf (ZG Zrx (Zf (Zc 0) (Zf (ZC ZB (Zc 1) (Zm _)) Zo))) (Zf (ZG ZgN (Zf (Zc 0) (Zf (ZC ZB (Zc 1) (Zm _)) Zo))) Zo)))) (Zz (Z2 (O':=[]) (ZG ZfI (Zf (ZC ZB (Zc 1) (Zm _)) (Zf (ZC ZB (Zc 0) (Zm _)) Zo)))) (Zz (Z6 (ZM (ZD Zax (ZC ZB (Zc 1) (Zm _)) (E.str _))) (Zap (ZaA ZoS (Zf (Zc 0) (Zf (ZC ZB (Zc 1) (Zm _)) (Zf (ZG Zph (Zf (Zc 3) (Zf (ZC ZB (Zc 1) (Zm _)) Zo))) (Zf (ZG ZtF (Zf (Zc 4) (Zf (ZC ZB (Zc 1) (Zm _)) Zo))) Zo)))))) Z9) (Zap (ZaA ZoS (Zf (Zc 0) (Zf (ZC ZB (Zc 1) (Zm _)) (Zf (ZG ZsS (Zf (Zc 3) (Zf (ZC ZB (Zc 1) (Zm _)) Zo))) (Zf (ZG ZtE (Zf (Zc 4) (Zf (ZC ZB (Zc 1) (Zm _)) Zo))) Zo))))))))))))
def ZnB: Sm:=Zu (ZO 3 (Zr Zdh (Ze (Zb 0) Zn))) (Zu (ZP (tOr (ZL (Zh oIs (Zb 3) (Z5))) (tOr (ZL (Zh oIn (Zh Zv (Zb 1) (Zk 0)) (Zas (Ze (Zb9 (Str.ofString "go")) (Ze (Zb9 (Str.ofString "say")) Zn))))) Zb5)) (ZE (Zb 3)) ZY) (Zu (ZP (ZL (Zh oEq (Zh Zv (Zb 1) (Zk 0)) (Zb9 (Str.ofString "when")))) (ZE (Zr ZjT (Ze (Zb 3) (Ze (Zh Zv (Zb 1) (Zk 1)) (Ze (Zh Zv (Zb 1) (Zk 2)) Zn))))) ZY) (Zu (ZP (ZL (Zh oEq (Zh Zv (Zb 1) (Zk 0)) (Zb9 (Str.ofString "call")))) (ZE (Zr ZiL (Ze (Zb 3) (Ze (Zh Zv (Zb 1) (Zk 1)) (Ze (Zh Zv (Zb 1) (Zk 3)) (Ze (Zh Zv (Zb 2) (Zh Zv (Zb 1) (Zk 2))) Zn)))))) ZY) (ZE (Zr ZnA (Ze (Zb 3) (Ze (Zb 1) Zn)))))))
def ZiZ:=ZU 3 ZnB
def ZgY: PS:=(Zs (ZN 3 (Zq ZaG (Zd (Za 0) Zl))) (Zs (ZT (bOr (ZK (Zg qIs (Za 3) (Zad))) (bOr (ZK (Zg qIn (Zg Zt (Za 1) (Zj 0)) (Zav (Zd (ZbM (Str.ofString "go")) (Zd (ZbM (Str.ofString "say")) Zl))))) Zb6)) (ZF (Za 3)) ZW) (Zs (ZT (ZK (Zg qEq (Zg Zt (Za 1) (Zj 0)) (ZbM (Str.ofString "when")))) (ZF (Zq Zco (Zd (Za 3) (Zd (Zg Zt (Za 1) (Zj 1)) (Zd (Zg Zt (Za 1) (Zj 2)) Zl))))) ZW) (Zs (ZT (ZK (Zg qEq (Zg Zt (Za 1) (Zj 0)) (ZbM (Str.ofString "call")))) (ZF (Zq Zb3 (Zd (Za 3) (Zd (Zg Zt (Za 1) (Zj 1)) (Zd (Zg Zt (Za 1) (Zj 3)) (Zd (Zg Zt (Za 2) (Zg Zt (Za 1) (Zj 2))) Zl)))))) ZW) (ZF (Zq Zqv (Zd (Za 3) (Zd (Za 1) Zl))))))))
def ZcK:=ZZ 3 ZgY
theorem Zqw: SimF true ZiZ ZcK:=Zac (show S [] [3] [] true ZnB ZgY from(Zz (Zb7 (O':=[3]) (ZaA ZdR (Zf (Zc 0) Zo))) (Zz (Z6 (ZaS (ZM (ZD ZbN (Zc 3) (Zah))) (ZaS (ZM (ZD Zgl (ZC ZB (Zc 1) (Zm _)) (E.tup (Zf (E.str _) (Zf (E.str _) Zo))))) Zcw)) (Zap (E.own (by decide))) Z9) (Zz (Z6 (ZM (ZD Zax (ZC ZB (Zc 1) (Zm _)) (E.str _))) (Zap (ZaA Zsa (Zf (Zc 3) (Zf (ZC ZB (Zc 1) (Zm _)) (Zf (ZC ZB (Zc 1) (Zm _)) Zo))))) Z9) (Zz (Z6 (ZM (ZD Zax (ZC ZB (Zc 1) (Zm _)) (E.str _))) (Zap (ZaA Zqc (Zf (Zc 3) (Zf (ZC ZB (Zc 1) (Zm _)) (Zf (ZC ZB (Zc 1) (Zm _)) (Zf (ZC ZB (Zc 2) (ZC ZB (Zc 1) (Zm _))) Zo)))))) Z9) (Zap (ZaA Zvs (Zf (Zc 3) (Zf (Zc 1) Zo)))))))))
def ZkG: Sm:=Zu (ZO 3 (Zbm Zn)) (Zu (Za1 (Za0 (Ze (Zk 3) Zn)) (put1 4) (Zu (ZO 5 (Zr Za9 (Ze (Zb 0) (Ze (Zh Zae (Zk 22) (Zb 4)) (Ze (Zk 7) Zn))))) (Zu (Zca (Ze4 (Zb 3) (Zr ZiA (Ze (Zb 0) (Ze (Zk 42) (Ze (Zh Zae (Zb 2) (Zbm (Ze (Zb 5) Zn))) Zn)))))) (ZP (tOr (Zbh (ZL (Zh oNe (Zb 4) (Zb 1))) (Zbh (ZL (Zh oLt (Zb 5) (Zk 4))) Zat)) (tOr (ZL (Zh oEq (Zb 5) (Zk 6))) Zb5)) (ZbV (Z5) (Zb 3) (Zb 4)) ZY)))) (ZE (Zb 3)))
def Zgr:=ZU 3 ZkG
def ZkH: PS:=(Zs (ZN 3 (Za6 Zl)) (Zs (Za3 (ZaJ (Zd (Zj 3) Zl)) (Zak 4) (Zs (ZN 5 (Zq ZaO (Zd (Za 0) (Zd (Zg Z4 (Zj 22) (Za 4)) (Zd (Zj 7) Zl))))) (Zs (Zd9 3 [] ZaP (Zq ZgK (Zd (Za 0) (Zd (Zj 42) (Zd (Zg Z4 (Za 2) (Za6 (Zd (Za 5) Zl))) Zl))))) (ZT (bOr (Zbi (ZK (Zg qNe (Za 4) (Za 1))) (Zbi (ZK (Zg qLt (Za 5) (Zj 4))) Zal)) (bOr (ZK (Zg qEq (Za 5) (Zj 6))) Zb6)) (Zbq 3 [] (Zad) ZaP (Za 4)) ZW)))) (ZF (Za 3))))
def Zc2:=ZZ 3 ZkH
theorem ZkI: SimF false Zgr Zc2:=Zac (show S [] [3] [] false ZkG ZkH from(Zz (Zb7 (O':=[3]) (E.list Zo)) (Zz (Zb0 (Gs.range (Zf (Zm _) Zo)) PutOk.one (by decide) (by decide) (Zz (Z2 (O':=[3]) (ZG Zbj (Zf (Zc 0) (Zf (Zaa Zai (Zm _) (Zc 4)) (Zf (Zm _) Zo))))) (Zz (Zj1 (O':=[3]) (by decide) ZbS (Zbd (O':=[]) (ZaA Zp4 (Zf (Zc 0) (Zf (Zm _) (Zf (Zaa Zai (Zc 2) (E.list (Zf (Zc 5) Zo))) Zo))))) (by decide) (by decide)) (Z6 (ZaS (ZbG (ZM (ZD ZcI (Zc 4) (Zc 1))) (ZbG (ZM (ZD Zc8 (Zc 5) (Zm _))) ZaE)) (ZaS (ZM (ZD Zax (Zc 5) (Zm _))) Zcw)) (S.put (O':=[3]) (by decide) (Zbd (O':=[]) (Zah)) ZbS (Zc 4) (by decide) (by decide)) Z9)))) (ZQ (Zc 3)))))
def ZkJ: Sm:=Zu (ZO 2 (Zr ZiY (Ze (Zb 0) (Ze (Zk 8) (Ze (Zr ZaI (Ze (Zb 1) Zn)) Zn))))) (Zu (ZP (ZL (Zh oGt (Zr Za9 (Ze (Zb 0) (Ze (Zk 7) (Ze (Zk 4) Zn)))) (Zk 0))) (ZbV (Zh Zbo (Zh Zae (Zh Zbo (Zh Zv (Zb 2) (Zk 0)) (Zr Zin (Ze (Zb 2) (Ze (Zb 1) Zn)))) (Zr Za9 (Ze (Zb 0) (Ze (Zk 6) (Ze (Zk 5) Zn))))) (Zk 2)) (Zb 2) (Zk 0)) ZY) (Zu (ZO 3 (Zr Za9 (Ze (Zb 0) (Ze (Zk 5) (Ze (Zk 18) Zn))))) (Zu (ZP (ZL (Zh oEq (Zh oMod (Zb 3) (Zk 3)) (Zk 0))) (ZE (Zas (Ze (Zb9 (Str.ofString "under")) (Ze (Zb 2) Zn)))) ZY) (Zu (ZP (ZL (Zh oEq (Zh oMod (Zb 3) (Zk 3)) (Zk 1))) (ZE (Zas (Ze (Zb9 (Str.ofString "same")) (Ze (Zb 2) Zn)))) ZY) (ZE (Zas (Ze (Zb9 (Str.ofString "even")) (Ze (Zb 2) (Ze (Zh Zae (Zk 1) (Zh oDiv (Zb 3) (Zk 3))) Zn)))))))))
def ZkK:=ZU 2 ZkJ
def ZkL: PS:=(Zs (ZN 2 (Zq ZfU (Zd (Za 0) (Zd (Zj 8) (Zd (Zq ZaB (Zd (Za 1) Zl)) Zl))))) (Zs (ZT (ZK (Zg qGt (Zq ZaO (Zd (Za 0) (Zd (Zj 7) (Zd (Zj 4) Zl)))) (Zj 0))) (Zbq 2 [] (Zg Za7 (Zg Z4 (Zg Za7 (Zg Zt (Za 2) (Zj 0)) (Zq Zdb (Zd (Za 2) (Zd (Za 1) Zl)))) (Zq ZaO (Zd (Za 0) (Zd (Zj 6) (Zd (Zj 5) Zl))))) (Zj 2)) ZaP (Zj 0)) ZW) (Zs (ZN 3 (Zq ZaO (Zd (Za 0) (Zd (Zj 5) (Zd (Zj 18) Zl))))) (Zs (ZT (ZK (Zg qEq (Zg ZaK (Za 3) (Zj 3)) (Zj 0))) (ZF (Zav (Zd (ZbM (Str.ofString "under")) (Zd (Za 2) Zl)))) ZW) (Zs (ZT (ZK (Zg qEq (Zg ZaK (Za 3) (Zj 3)) (Zj 1))) (ZF (Zav (Zd (ZbM (Str.ofString "same")) (Zd (Za 2) Zl)))) ZW) (ZF (Zav (Zd (ZbM (Str.ofString "even")) (Zd (Za 2) (Zd (Zg Z4 (Zj 1) (Zg ZcP (Za 3) (Zj 3))) Zl))))))))))
def ZhX:=ZZ 2 ZkL
theorem Zs5: SimF false ZkK ZhX:=Zac (show S [] [2] [] false ZkJ ZkL from(Zz (Zb7 (O':=[2]) (ZaA Zqt (Zf (Zc 0) (Zf (Zm _) (Zf (ZaD ZaX (Zf (Zc 1) Zo)) Zo))))) (Zz (Z6 (ZM (ZD Zfq (ZG Zbj (Zf (Zc 0) (Zf (Zm _) (Zf (Zm _) Zo)))) (Zm _))) (S.put (O':=[2]) (by decide) (Zbd (O':=[]) (ZD Zbw (Zaa Zai (ZD Zbw (ZC ZB (Zc 2) (Zm _)) (ZG ZpP (Zf (Zc 2) (Zf (Zc 1) Zo)))) (ZG Zbj (Zf (Zc 0) (Zf (Zm _) (Zf (Zm _) Zo))))) (Zm _))) ZbS (Zm _) (by decide) (by decide)) Z9) (Zz (Z2 (O':=[2]) (ZG Zbj (Zf (Zc 0) (Zf (Zm _) (Zf (Zm _) Zo))))) (Zz (Z6 (ZM (ZD Zax (ZD ZaW (Zc 3) (Zm _)) (Zm _))) (ZQ (E.tup (Zf (E.str _) (Zf (Zc 2) Zo)))) Z9) (Zz (Z6 (ZM (ZD Zax (ZD ZaW (Zc 3) (Zm _)) (Zm _))) (ZQ (E.tup (Zf (E.str _) (Zf (Zc 2) Zo)))) Z9) (ZQ (E.tup (Zf (E.str _) (Zf (Zc 2) (Zf (Zaa Zai (Zm _) (ZD ZdG (Zc 3) (Zm _))) Zo)))))))))))
def ZnX: Sm:=Zu (ZO 1 (Zh Zv (Zbm (Ze (Zk 1) (Ze (Zk 2) (Ze (Zk 1) (Ze (Zk 1) (Ze (Zk 2) (Ze (Zk 1) (Ze (Zk 1) (Ze (Zk 2) (Ze (Zk 3) Zn)))))))))) (Zr Za9 (Ze (Zb 0) (Ze (Zk 0) (Ze (Zk 9) Zn)))))) (Zu (ZO 2 (Zaz (Za0 (Ze (Zb 1) Zn)) (put1 100) Zat (Zr ZeJ (Ze (Zb 0) (Ze (Zh Zae (Zk 2) (Zb 100)) Zn))))) (Zu (ZO 3 (Zr ZiA (Ze (Zb 0) (Ze (Zk 25) (Ze (Zb 2) Zn))))) (Zu (ZO 4 (Zr Za9 (Ze (Zb 0) (Ze (Zk 1) (Ze (Zk 55) Zn))))) (Zu (ZP (ZL (Zh oEq (Zh oMod (Zb 4) (Zk 5)) (Zk 1))) (ZO 3 (Zr Zlx (Ze (Zb 0) (Ze (Zk 58) (Ze (Zb 3) Zn))))) ZY) (Zu (ZP (ZL (Zh oEq (Zh oMod (Zb 4) (Zk 11)) (Zk 4))) (ZO 3 (Z5)) ZY) (Zu (ZO 5 (Zr ZmA (Ze (Zb 3) Zn))) (Zu (ZP (ZL (Zh oEq (Zr Za9 (Ze (Zb 0) (Ze (Zk 20) (Ze (Zk 2) Zn)))) (Zk 0))) (Zu (ZO 6 (Zr ZkK (Ze (Zb 0) (Ze (Zb 2) Zn)))) (Zu (Za1 (ZbW (Zbm (Ze (ZbT true) (Ze (ZbT false) Zn)))) (put1 7) (Zu (ZO 8 (Zr ZiZ (Ze (Zb 3) (Ze (Zas (Ze (Zb9 (Str.ofString "when")) (Ze (Zb 6) (Ze (Zb 7) Zn)))) (Ze (Zbm Zn) Zn))))) (ZP (tOr (Zci (ZL (Zr ZiD (Ze (Zb 8) (Ze (Zr ZjT (Ze (Zr Zdh (Ze (Zb 5) Zn)) (Ze (Zb 6) (Ze (Zb 7) Zn)))) Zn))))) (tOr (ZL (Zh oNe (Zb 3) (Zb 5))) Zb5)) (ZE (ZbT false)) ZY))) (ZE (ZbT true)))) ZY) (Zu (ZO 9 (Zaz (Za0 (Ze (Zh Zv (Zbm (Ze (Zk 0) (Ze (Zk 1) (Ze (Zk 1) (Ze (Zk 2) Zn))))) (Zr Za9 (Ze (Zb 0) (Ze (Zk 62) (Ze (Zk 4) Zn))))) Zn)) (put1 102) Zat (Zr ZiY (Ze (Zb 0) (Ze (Zh Zae (Zk 13) (Zh Za2 (Zk 4) (Zb 102))) (Ze (Zb 1) Zn)))))) (Zu (ZO 10 (Zr Za9 (Ze (Zb 0) (Ze (Zk 21) (Ze (Zk 3) Zn))))) (Zu (ZO 11 (Zh Zae (Zk 1) (Zr Za9 (Ze (Zb 0) (Ze (Zk 61) (Ze (Zb 1) Zn)))))) (Zu (ZO 12 (Zaz (ZbW (Zb 9)) (put1 104) Zat (Zr Zin (Ze (Zb 104) (Ze (Zb 2) Zn))))) (Zu (ZO 13 (Zr Zgr (Ze (Zb 0) (Ze (Zb 10) (Ze (Zb 12) Zn))))) (Zu (ZO 8 (Zr ZiZ (Ze (Zb 3) (Ze (Zas (Ze (Zb9 (Str.ofString "call")) (Ze (Zb 11) (Ze (Zb 10) (Ze (Zb 9) Zn))))) (Ze (Zb 13) Zn))))) (Zu (ZO 14 (Zh Zv (Zr Zgr (Ze (Zb 0) (Ze (Zb 10) (Ze (Zb 12) Zn)))) (Zb 10))) (Zu (ZP (Zci (ZL (Zr ZiD (Ze (Zb 8) (Ze (Zr ZiL (Ze (Zr Zdh (Ze (Zb 5) Zn)) (Ze (Zb 11) (Ze (Zb 9) (Ze (Zb 14) Zn))))) Zn))))) (ZE (ZbT false)) ZY) (ZE (Zc6 (Zh oEq (Zb 3) (Zb 5)) (Zh oEq (Zb 13) (Zr Zgr (Ze (Zb 0) (Ze (Zb 10) (Ze (Zb 12) Zn))))))))))))))))))))))
def ZqS:=ZU 1 ZnX
def ZnY: PS:=(Zs (ZN 1 (Zg Zt (Za6 (Zd (Zj 1) (Zd (Zj 2) (Zd (Zj 1) (Zd (Zj 1) (Zd (Zj 2) (Zd (Zj 1) (Zd (Zj 1) (Zd (Zj 2) (Zd (Zj 3) Zl)))))))))) (Zq ZaO (Zd (Za 0) (Zd (Zj 0) (Zd (Zj 9) Zl)))))) (Zs (ZN 2 (Zau (ZaJ (Zd (Za 1) Zl)) (Zak 100) Zal (Zq Zed (Zd (Za 0) (Zd (Zg Z4 (Zj 2) (Za 100)) Zl))))) (Zs (ZN 3 (Zq ZgK (Zd (Za 0) (Zd (Zj 25) (Zd (Za 2) Zl))))) (Zs (ZN 4 (Zq ZaO (Zd (Za 0) (Zd (Zj 1) (Zd (Zj 55) Zl))))) (Zs (ZT (ZK (Zg qEq (Zg ZaK (Za 4) (Zj 5)) (Zj 1))) (ZN 3 (Zq Zh9 (Zd (Za 0) (Zd (Zj 58) (Zd (Za 3) Zl))))) ZW) (Zs (ZT (ZK (Zg qEq (Zg ZaK (Za 4) (Zj 11)) (Zj 4))) (ZN 3 (Zad)) ZW) (Zs (ZN 5 (Zq Zef (Zd (Za 3) Zl))) (Zs (ZT (ZK (Zg qEq (Zq ZaO (Zd (Za 0) (Zd (Zj 20) (Zd (Zj 2) Zl)))) (Zj 0))) (Zs (ZN 6 (Zq ZhX (Zd (Za 0) (Zd (Za 2) Zl)))) (Zs (Za3 (Zbp (Za6 (Zd (ZbI true) (Zd (ZbI false) Zl)))) (Zak 7) (Zs (ZN 8 (Zq ZcK (Zd (Za 3) (Zd (Zav (Zd (ZbM (Str.ofString "when")) (Zd (Za 6) (Zd (Za 7) Zl)))) (Zd (Za6 Zl) Zl))))) (ZT (bOr (ZbX (ZK (Zq Zdd (Zd (Za 8) (Zd (Zq Zco (Zd (Zq ZaG (Zd (Za 5) Zl)) (Zd (Za 6) (Zd (Za 7) Zl)))) Zl))))) (bOr (ZK (Zg qNe (Za 3) (Za 5))) Zb6)) (ZF (ZbI false)) ZW))) (ZF (ZbI true)))) ZW) (Zs (ZN 9 (Zau (ZaJ (Zd (Zg Zt (Za6 (Zd (Zj 0) (Zd (Zj 1) (Zd (Zj 1) (Zd (Zj 2) Zl))))) (Zq ZaO (Zd (Za 0) (Zd (Zj 62) (Zd (Zj 4) Zl))))) Zl)) (Zak 102) Zal (Zq ZfU (Zd (Za 0) (Zd (Zg Z4 (Zj 13) (Zg ZaN (Zj 4) (Za 102))) (Zd (Za 1) Zl)))))) (Zs (ZN 10 (Zq ZaO (Zd (Za 0) (Zd (Zj 21) (Zd (Zj 3) Zl))))) (Zs (ZN 11 (Zg Z4 (Zj 1) (Zq ZaO (Zd (Za 0) (Zd (Zj 61) (Zd (Za 1) Zl)))))) (Zs (ZN 12 (Zau (Zbp (Za 9)) (Zak 104) Zal (Zq Zdb (Zd (Za 104) (Zd (Za 2) Zl))))) (Zs (ZN 13 (Zq Zc2 (Zd (Za 0) (Zd (Za 10) (Zd (Za 12) Zl))))) (Zs (ZN 8 (Zq ZcK (Zd (Za 3) (Zd (Zav (Zd (ZbM (Str.ofString "call")) (Zd (Za 11) (Zd (Za 10) (Zd (Za 9) Zl))))) (Zd (Za 13) Zl))))) (Zs (ZN 14 (Zg Zt (Zq Zc2 (Zd (Za 0) (Zd (Za 10) (Zd (Za 12) Zl)))) (Za 10))) (Zs (ZT (ZbX (ZK (Zq Zdd (Zd (Za 8) (Zd (Zq Zb3 (Zd (Zq ZaG (Zd (Za 5) Zl)) (Zd (Za 11) (Zd (Za 9) (Zd (Za 14) Zl))))) Zl))))) (ZF (ZbI false)) ZW) (ZF ((ZcY (Zg qEq (Za 3) (Za 5)) (Zg qEq (Za 13) (Zq Zc2 (Zd (Za 0) (Zd (Za 10) (Zd (Za 12) Zl))))))))))))))))))))))))
def ZnZ:=ZZ 1 ZnY
theorem Zwp: SimF false ZqS ZnZ:=Zac (show S [] [] [] false ZnX ZnY from(Zz (Z2 (O':=[]) (ZC ZB (E.list (Zf (Zm _) (Zf (Zm _) (Zf (Zm _) (Zf (Zm _) (Zf (Zm _) (Zf (Zm _) (Zf (Zm _) (Zf (Zm _) (Zf (Zm _) Zo)))))))))) (ZG Zbj (Zf (Zc 0) (Zf (Zm _) (Zf (Zm _) Zo)))))) (Zz (Z2 (O':=[]) (Zb4 (Gs.range (Zf (Zc 1) Zo)) PutOk.one (by decide) ZaE (ZG Zgx (Zf (Zc 0) (Zf (Zaa Zai (Zm _) (Zc 100)) Zo))))) (Zz (Z2 (O':=[]) (ZG Zp4 (Zf (Zc 0) (Zf (Zm _) (Zf (Zc 2) Zo))))) (Zz (Z2 (O':=[]) (ZG Zbj (Zf (Zc 0) (Zf (Zm _) (Zf (Zm _) Zo))))) (Zz (Z6 (ZM (ZD Zax (ZD ZaW (Zc 4) (Zm _)) (Zm _))) (Z2 (O':=[]) (ZG ZtX (Zf (Zc 0) (Zf (Zm _) (Zf (Zc 3) Zo))))) Z9) (Zz (Z6 (ZM (ZD Zax (ZD ZaW (Zc 4) (Zm _)) (Zm _))) (Z2 (O':=[]) (Zah)) Z9) (Zz (Z2 (O':=[]) (ZG ZuE (Zf (Zc 3) Zo))) (Zz (Z6 (ZM (ZD Zax (ZG Zbj (Zf (Zc 0) (Zf (Zm _) (Zf (Zm _) Zo)))) (Zm _))) (Zz (Z2 (O':=[]) (ZG Zs5 (Zf (Zc 0) (Zf (Zc 2) Zo)))) (Zz (Zb0 (Gs.seq (E.list (Zf (E.bool _) (Zf (E.bool _) Zo)))) PutOk.one (by decide) (by decide) (Zz (Z2 (O':=[]) (ZG Zqw (Zf (Zc 3) (Zf (E.tup (Zf (E.str _) (Zf (Zc 6) (Zf (Zc 7) Zo)))) (Zf (E.list Zo) Zo))))) (Z6 (ZaS (ZcN (ZM (ZG Zp6 (Zf (Zc 8) (Zf (ZG Zsa (Zf (ZG ZdR (Zf (Zc 5) Zo)) (Zf (Zc 6) (Zf (Zc 7) Zo)))) Zo))))) (ZaS (ZM (ZD ZcI (Zc 3) (Zc 5))) Zcw)) (ZQ (E.bool _)) Z9))) (ZQ (E.bool _)))) Z9) (Zz (Z2 (O':=[]) (Zb4 (Gs.range (Zf (ZC ZB (E.list (Zf (Zm _) (Zf (Zm _) (Zf (Zm _) (Zf (Zm _) Zo))))) (ZG Zbj (Zf (Zc 0) (Zf (Zm _) (Zf (Zm _) Zo))))) Zo)) PutOk.one (by decide) ZaE (ZG Zqt (Zf (Zc 0) (Zf (Zaa Zai (Zm _) (Zaa Zbx (Zm _) (Zc 102))) (Zf (Zc 1) Zo)))))) (Zz (Z2 (O':=[]) (ZG Zbj (Zf (Zc 0) (Zf (Zm _) (Zf (Zm _) Zo))))) (Zz (Z2 (O':=[]) (Zaa Zai (Zm _) (ZG Zbj (Zf (Zc 0) (Zf (Zm _) (Zf (Zc 1) Zo)))))) (Zz (Z2 (O':=[]) (Zb4 (Gs.seq (Zc 9)) PutOk.one (by decide) ZaE (ZG ZpP (Zf (Zc 104) (Zf (Zc 2) Zo))))) (Zz (Z2 (O':=[]) (ZG ZkI (Zf (Zc 0) (Zf (Zc 10) (Zf (Zc 12) Zo))))) (Zz (Z2 (O':=[]) (ZG Zqw (Zf (Zc 3) (Zf (E.tup (Zf (E.str _) (Zf (Zc 11) (Zf (Zc 10) (Zf (Zc 9) Zo))))) (Zf (Zc 13) Zo))))) (Zz (Z2 (O':=[]) (ZC ZB (ZG ZkI (Zf (Zc 0) (Zf (Zc 10) (Zf (Zc 12) Zo)))) (Zc 10))) (Zz (Z6 (ZcN (ZM (ZG Zp6 (Zf (Zc 8) (Zf (ZG Zqc (Zf (ZG ZdR (Zf (Zc 5) Zo)) (Zf (Zc 11) (Zf (Zc 9) (Zf (Zc 14) Zo))))) Zo))))) (ZQ (E.bool _)) Z9) (ZQ ((Zfk (E.sh (ZD Zax (Zc 3) (Zc 5))) (E.sh (ZD Zax (Zc 13) (ZG ZkI (Zf (Zc 0) (Zf (Zc 10) (Zf (Zc 12) Zo))))))))))))))))))))))))))
end L
end
section
open PySem PySem.W PyProof.Rows PM TM My
local macro_rules | `(tactic| tm_at "r")=>`(tactic| assumption)
local macro_rules | `(tactic| tm_at "r")=>`(tactic| exact rfl)
local macro_rules | `(tactic| tm_at "r")=>`(tactic| ((with_reducible apply Zwa);decide;tm_at "r"))
local macro_rules | `(tactic| tm_at "r")=>`(tactic| ((with_reducible apply Zxk);decide;tm_at "r"))
local macro_rules | `(tactic| tm_at "r")=>`(tactic| with_reducible exact Zcu)
local macro_rules | `(tactic| tm_at "r")=>`(tactic| with_reducible assumption)
local macro_rules|`(tactic|walk_at "r")=>`(tactic|first | tm_at "r" | fail)
local macro_rules | `(tactic| tm_at "y")=>`(tactic| (simp only[Bool.not_eq_true',Bool.not_eq_false',decide_eq_true_eq,decide_eq_false_iff_not,beq_iff_eq,beq_eq_false_iff_ne,ne_eq,Bool.not_true,Bool.not_false,not_false_eq_true,not_true_eq_false,bne_iff_ne,Decidable.not_not,List.length_map] <;> first | done | omega | assumption))
local macro_rules | `(tactic| tm_at "y")=>`(tactic| (with_reducible assumption))
local macro_rules | `(tactic| tm_at "y")=>`(tactic| rfl)
local macro_rules|`(tactic|walk_at "y")=>`(tactic|first | tm_at "y" | fail)
local macro_rules | `(tactic| tm_at "f")=>`(tactic| exact Ziy fun i hi=>by(first | rfl | exact Zhm | exact Zg7))
local macro_rules | `(tactic| tm_at "f")=>`(tactic| exact Zg7)
local macro_rules | `(tactic| tm_at "f")=>`(tactic| exact Zhm)
local macro_rules | `(tactic| tm_at "f")=>`(tactic| rfl)
local macro_rules|`(tactic|walk_at "f")=>`(tactic|first | tm_at "f" | fail)
local macro_rules | `(tactic| tm_at "o")=>`(tactic| ((with_reducible apply Zyx);(first | decide | omega)))
local macro_rules | `(tactic| tm_at "o")=>`(tactic| with_reducible refine ZyE ?_)
local macro_rules | `(tactic| tm_at "o")=>`(tactic| with_reducible refine tk_all ?_)
local macro_rules | `(tactic| tm_at "o")=>`(tactic| with_reducible refine Zxe ?_)
local macro_rules | `(tactic| tm_at "o")=>`(tactic| with_reducible refine tk_list1t ?_)
local macro_rules | `(tactic| tm_at "o")=>`(tactic| with_reducible refine Zv4 ?_)
local macro_rules | `(tactic| tm_at "o")=>`(tactic| ((with_reducible apply Zro);omega))
local macro_rules | `(tactic| tm_at "o")=>`(tactic| ((with_reducible apply Zhk);(first | decide | omega);rfl))
local macro_rules | `(tactic| tm_at "o")=>`(tactic| ((with_reducible apply Zxd);(first | decide | omega);rfl))
local macro_rules | `(tactic| tm_at "o")=>`(tactic| ((with_reducible apply Zxc);(first | decide | omega);(first | decide | omega)))
local macro_rules | `(tactic| tm_at "o")=>`(tactic| ((with_reducible apply Zrn);(first | assumption | omega)))
local macro_rules | `(tactic| tm_at "o")=>`(tactic| with_reducible refine Zxb ?_)
local macro_rules | `(tactic| tm_at "o")=>`(tactic| with_reducible refine ZyD ?_)
local macro_rules | `(tactic| tm_at "o")=>`(tactic| with_reducible refine Zxa ?_)
local macro_rules | `(tactic| tm_at "o")=>`(tactic| with_reducible refine Zw9 ?_)
local macro_rules | `(tactic| tm_at "o")=>`(tactic| with_reducible refine tk_notl ?_)
local macro_rules | `(tactic| tm_at "o")=>`(tactic| with_reducible refine Zw8 ?_)
local macro_rules | `(tactic| tm_at "o")=>`(tactic| with_reducible refine Zw7 ?_)
local macro_rules | `(tactic| tm_at "o")=>`(tactic| with_reducible refine ZyC ?_)
local macro_rules | `(tactic| tm_at "o")=>`(tactic| with_reducible refine ZyB ?_)
local macro_rules | `(tactic| tm_at "o")=>`(tactic| with_reducible refine ZyA ?_)
local macro_rules | `(tactic| tm_at "o")=>`(tactic| with_reducible refine Zyz ?_)
local macro_rules | `(tactic| tm_at "o")=>`(tactic| with_reducible refine tk_neb ?_)
local macro_rules | `(tactic| tm_at "o")=>`(tactic| with_reducible refine tk_eqb ?_)
local macro_rules | `(tactic| tm_at "o")=>`(tactic| with_reducible refine Zzp ?_)
local macro_rules | `(tactic| tm_at "o")=>`(tactic| with_reducible refine Zzo ?_)
local macro_rules | `(tactic| tm_at "o")=>`(tactic| with_reducible refine tk_min ?_)
local macro_rules | `(tactic| tm_at "o")=>`(tactic| with_reducible refine tk_max ?_)
local macro_rules | `(tactic| tm_at "o")=>`(tactic| with_reducible refine Zyy ?_)
local macro_rules | `(tactic| tm_at "o")=>`(tactic| with_reducible refine tk_ge ?_)
local macro_rules | `(tactic| tm_at "o")=>`(tactic| with_reducible refine Zzn ?_)
local macro_rules | `(tactic| tm_at "o")=>`(tactic| with_reducible refine Zzm ?_)
local macro_rules | `(tactic| tm_at "o")=>`(tactic| with_reducible refine Zzl ?_)
local macro_rules | `(tactic| tm_at "o")=>`(tactic| with_reducible refine Zyw ?_)
local macro_rules | `(tactic| tm_at "o")=>`(tactic| with_reducible refine Zyv ?_)
local macro_rules | `(tactic| tm_at "o")=>`(tactic| with_reducible refine ZoK ?_)
local macro_rules|`(tactic|walk_at "o")=>`(tactic|first | tm_at "o" | fail)
local macro_rules | `(tactic| tm_at "1")=>`(tactic| tm_at "o")
local macro_rules | `(tactic| tm_at "1")=>`(tactic| ((with_reducible apply Zv9);tm_at "r";(first | assumption | omega);(first | assumption | omega)))
local macro_rules | `(tactic| tm_at "1")=>`(tactic| ((with_reducible apply Zv8);tm_at "r";(first | assumption | omega)))
local macro_rules | `(tactic| tm_at "1")=>`(tactic| ((with_reducible apply Zxh);tm_at "r";(first | (rw[Zao];omega) | (simp;done))))
local macro_rules | `(tactic| tm_at "1")=>`(tactic| ((with_reducible apply Zrp);tm_at "r";(first | (rw[Zao];omega) | (simp;done))))
local macro_rules | `(tactic| tm_at "1")=>`(tactic| with_reducible refine Zxj ?_)
local macro_rules | `(tactic| tm_at "1")=>`(tactic| with_reducible refine ZyG ?_)
local macro_rules | `(tactic| tm_at "1")=>`(tactic| with_reducible refine Zxi ?_)
local macro_rules | `(tactic| tm_at "1")=>`(tactic| with_reducible refine ZyF ?_)
local macro_rules | `(tactic| tm_at "1")=>`(tactic| with_reducible refine Zi.mn ?_)
local macro_rules | `(tactic| tm_at "1")=>`(tactic| with_reducible refine Zi.eq ?_)
local macro_rules | `(tactic| tm_at "1")=>`(tactic| with_reducible refine Zwj ?_)
local macro_rules | `(tactic| tm_at "1")=>`(tactic| with_reducible refine Zxp ?_)
local macro_rules | `(tactic| tm_at "1")=>`(tactic| with_reducible refine Zxo ?_)
local macro_rules | `(tactic| tm_at "1")=>`(tactic| with_reducible refine ZoL ?_)
local macro_rules | `(tactic| tm_at "1")=>`(tactic| ((with_reducible apply Rn.one);omega))
local macro_rules | `(tactic| tm_at "1")=>`(tactic| with_reducible refine Zv7 ?_)
local macro_rules | `(tactic| tm_at "1")=>`(tactic| with_reducible refine Sq.tup ?_)
local macro_rules | `(tactic| tm_at "1")=>`(tactic| with_reducible refine Sq.lst ?_)
local macro_rules | `(tactic| tm_at "1")=>`(tactic| with_reducible refine Zjm ?_)
local macro_rules|`(tactic|tm_at "1")=>`(tactic|(refine And.intro (show T.flatIn _ = true by walk_at "f") ?_))
local macro_rules|`(tactic|tm_at "1")=>`(tactic|(refine And.intro (show T.flat _ = true by walk_at "f") ?_))
local macro_rules | `(tactic| tm_at "1")=>`(tactic| ((with_reducible apply Zr3);rfl))
local macro_rules | `(tactic| tm_at "1")=>`(tactic| ((with_reducible apply Zyu);tm_at "y"))
local macro_rules | `(tactic| tm_at "1")=>`(tactic| ((with_reducible apply Zyt);tm_at "y"))
local macro_rules | `(tactic| tm_at "1")=>`(tactic| ((with_reducible apply Zyj);tm_at "r"))
local macro_rules | `(tactic| tm_at "1")=>`(tactic| with_reducible refine Zyi ?_)
local macro_rules | `(tactic| tm_at "1")=>`(tactic| with_reducible refine ZwZ ?_)
local macro_rules | `(tactic| tm_at "1")=>`(tactic| with_reducible refine Zyh ?_)
local macro_rules | `(tactic| tm_at "1")=>`(tactic| with_reducible refine Zyg ?_)
local macro_rules | `(tactic| tm_at "1")=>`(tactic| with_reducible refine ZoJ ?_)
local macro_rules | `(tactic| tm_at "1")=>`(tactic| with_reducible refine ZoI ?_)
local macro_rules | `(tactic| tm_at "1")=>`(tactic| with_reducible refine tk_exp ?_)
local macro_rules | `(tactic| tm_at "1")=>`(tactic| with_reducible refine Zys ?_)
local macro_rules | `(tactic| tm_at "1")=>`(tactic| with_reducible refine Zyr ?_)
local macro_rules | `(tactic| tm_at "1")=>`(tactic| with_reducible refine Zrm ?_)
local macro_rules | `(tactic| tm_at "1")=>`(tactic| with_reducible refine tk_truth_n ?_)
local macro_rules | `(tactic| tm_at "1")=>`(tactic| with_reducible refine ZuB ?_)
local macro_rules | `(tactic| tm_at "1")=>`(tactic| with_reducible refine Zyq ?_)
local macro_rules | `(tactic| tm_at "1")=>`(tactic| with_reducible refine Zw6 ?_)
local macro_rules | `(tactic| tm_at "1")=>`(tactic| with_reducible refine Zv3 ?_)
local macro_rules | `(tactic| tm_at "1")=>`(tactic| with_reducible refine Zw5 ?_)
local macro_rules | `(tactic| tm_at "1")=>`(tactic| with_reducible refine Zw4 ?_)
local macro_rules | `(tactic| tm_at "1")=>`(tactic| with_reducible refine Zyp ?_)
local macro_rules | `(tactic| tm_at "1")=>`(tactic| with_reducible refine Zzk ?_)
local macro_rules | `(tactic| tm_at "1")=>`(tactic| with_reducible refine Zzj ?_)
local macro_rules | `(tactic| tm_at "1")=>`(tactic| with_reducible refine Zyo ?_)
local macro_rules | `(tactic| tm_at "1")=>`(tactic| with_reducible refine Zyn ?_)
local macro_rules | `(tactic| tm_at "1")=>`(tactic| with_reducible refine Zzi ?_)
local macro_rules | `(tactic| tm_at "1")=>`(tactic| with_reducible refine Zzh ?_)
local macro_rules | `(tactic| tm_at "1")=>`(tactic| with_reducible refine Zw3 ?_)
local macro_rules | `(tactic| tm_at "1")=>`(tactic| with_reducible refine Zw0 ?_)
local macro_rules | `(tactic| tm_at "1")=>`(tactic| with_reducible refine Zw2 ?_)
local macro_rules | `(tactic| tm_at "1")=>`(tactic| with_reducible refine Zym ?_)
local macro_rules | `(tactic| tm_at "1")=>`(tactic| with_reducible refine Zyl ?_)
local macro_rules | `(tactic| tm_at "1")=>`(tactic| with_reducible refine Zw1 ?_)
local macro_rules | `(tactic| tm_at "1")=>`(tactic| with_reducible refine Zzg ?_)
local macro_rules | `(tactic| tm_at "1")=>`(tactic| with_reducible refine Zyk ?_)
local macro_rules|`(tactic|walk_at "1")=>`(tactic|first | tm_at "1" | fail)
local macro_rules|`(tactic|walk_at "z")=>`(tactic|repeat' (first | tm_at "1" | fail))
namespace L
open PySem PySem.W PyProof.Rows PM TM My
variable {a:Option Int} {B N b i j k m n t:Nat} {ns:List Int} {c x:Nat→Int} {K K' M d r top v y:Int} {G G' G2 w Γ:Nat→Nat→Option Int} {σ:TL} {g:PE} {Q:T→Prop} {R R' R2:Nat→Int×Int} {p q:Int×Int} {β:Type} {o:Option (Int×Int)} {ts:List T} {l:List Nat} {P:(Nat→Int)→Prop} {C:Nat→Nat→Int} {D T0:T} {ρ:Nat→Option (Int×Int)} {I:(Nat→Nat→Option Int)→(Nat→Int×Int)→Prop}
section
variable {Q:T→Prop}
theorem ZzL(h:Q (.int T9)): Pk (Zdp (.int 10) (.int 9)) Q:=by
 have:=Zzc []
 simp only[oPow]at this
 split at this
 ·rename_i hc
  refine⟨_,by simp only[Zdp];rw[if_pos hc],?_⟩
  simp only[Option.some.injEq,Prod.mk.injEq,V.int.injEq,and_true]at this
  rw[this];exact h
 ·cases this
theorem Zzs(h:Q (.int T40)): Pk (Zdp (.int 10) (.int 40)) Q:=by
 have:=Zyf []
 simp only[oPow]at this
 split at this
 ·rename_i hc
  refine⟨_,by simp only[Zdp];rw[if_pos hc],?_⟩
  simp only[Option.some.injEq,Prod.mk.injEq,V.int.injEq,and_true]at this
  rw[this];exact h
 ·cases this
theorem Zzt(h:Q (.int M9)): Pk (Zdp (.int 48271) (.int 9)) Q:=by
 have:=Zye []
 simp only[oPow]at this
 split at this
 ·rename_i hc
  refine⟨_,by simp only[Zdp];rw[if_pos hc],?_⟩
  simp only[Option.some.injEq,Prod.mk.injEq,V.int.injEq,and_true]at this
  rw[this];exact h
 ·cases this
theorem Zdz{a b:Int}(h1:-(2 ^ 64)<b)(h2:b<2 ^ 64)(h:Q (.int (a*b))): Pk (ZaN (.int a) (.int b)) Q:=ZcU (Zvg h1 h2) h
theorem Zxu{a b:Int}(h1:-(2 ^ 64)<a)(h2:a<2 ^ 64)(h:Q (.int (a*b))): Pk (ZaN (.int a) (.int b)) Q:=ZcU (Zuz h1 h2) h
end
noncomputable def scr(ns:List Int): T:=.lst (ns.map T.int)
def Lay(ns:List Int): Prop:=PyData.layable0 (.list (ns.map .int))=true
noncomputable def Zcp(ns:List Int)(k:Int): Int:=k*k*7919+11+(if 0<ns.length then cellAt ns (k.fmod ns.length) 0 else 0)
theorem ZqT{k:Int}(h0:0≤k)(h9:k≤10000): ZgD [scr ns,.int k]=some (.int (Zcp ns k)):=by
 apply Pk.eq
 unfold ZgD ZlS Zcp scr
 by_cases hl:0<ns.length
 ·have a:=Int.fmod_nonneg_of_pos k (show(0:Int)<ns.length by omega)
  have b:=Int.fmod_lt_of_pos k (show(0:Int)<ns.length by omega)
  have e:(ns.map T.int).length=ns.length:=by simp
  walk_at "z"
  refine Zdz (by omega) (by omega) ?_
  walk_at "z"
  refine Zdz (by omega) (by omega) ?_
  walk_at "z"
  refine Zhk (t:=.int (cellAt ns (k.fmod ns.length) 0)) (by rw[e];omega) ?_ ?_
  ·rw[e,List.getElem?_map,List.getElem?_eq_getElem (by omega),cellAt_def]
   simp only[Option.map_some,T.int.injEq,Option.some.injEq]
   rw[List.getD_eq_getElem?_getD,List.getElem?_eq_getElem (by omega)]
   rfl
  walk_at "z"
  rw[if_pos hl]
 ·walk_at "z"
  refine Zdz (by omega) (by omega) ?_
  walk_at "z"
  refine Zdz (by omega) (by omega) ?_
  walk_at "z"
  rw[if_neg hl]
  simp
theorem ZuK{k:Int}(hL:Lay ns)(h0:0≤k)(h9:k≤10000): Builtin.Int.intBits (Zcp ns k)≤2 ^ 21:=by
 unfold Zcp
 have h1:0≤k*k:=Int.mul_nonneg h0 h0
 have h2:k*k≤10000*10000:=Int.mul_le_mul h9 h9 h0 (by decide)
 have hb:Builtin.Int.intBits (k*k*7919+11)≤2 ^ 20:=Nat.le_trans (intBits_le_64 (by omega) (by omega)) (by decide)
 have hc:Builtin.Int.intBits (if 0<ns.length then cellAt ns (k.fmod ns.length) 0 else 0)≤2 ^ 20:=by
  split
  ·exact(cell_at hL _).bits
  ·exact bits_zero
 exact Nat.le_trans (PM.Zv0 hb hc) (by decide)
noncomputable def ZaT(ns:List Int)(k many:Int): Int:=((Zcp ns k*48271).fmod 2147483647).fmod many
theorem ZbB(ns:List Int)(k:Int){many:Int}(h:0<many): 0≤ZaT ns k many∧ZaT ns k many<many:=⟨Int.fmod_nonneg_of_pos _ h,Int.fmod_lt_of_pos _ h⟩
theorem Zbt{k many:Int}(h0:0≤k)(h9:k≤10000)(hm:0<many): ZaO [scr ns,.int k,.int many]=some (.int (ZaT ns k many)):=by
 apply Pk.eq
 unfold ZaO Zmt
 walk_at "z"
 refine Zw (ZqT h0 h9) ?_
 walk_at "z"
 refine Zdz (by decide) (by decide) ?_
 walk_at "z"
 rfl
noncomputable def ZdZ(ns:List Int)(k:Int): Int:=[3,9,T9,T40].getD (((Zcp ns k*69621).fmod 2147483629).fmod 4).toNat 0
theorem ZqU(ns:List Int)(k:Int): 0<ZdZ ns k∧ZdZ ns k≤T40:=by
 unfold ZdZ
 have a:=Int.fmod_nonneg_of_pos ((Zcp ns k*69621).fmod 2147483629) (show(0:Int)<4 by decide)
 have b:=Int.fmod_lt_of_pos ((Zcp ns k*69621).fmod 2147483629) (show(0:Int)<4 by decide)
 generalize ((Zcp ns k*69621).fmod 2147483629).fmod 4=i at a b
 have h9:=T9_eq
 have h40:=Zhs
 have:i=0∨i=1∨i=2∨i=3:=by omega
 obtain rfl | rfl | rfl | rfl:=this
 ·show 0<3∧3≤T40;omega
 ·show 0<9∧9≤T40;omega
 ·show 0<T9∧T9≤T40;omega
 ·show 0<T40∧T40≤T40;omega
noncomputable def Zcc(ns:List Int)(k:Int): Int:=(Zcp ns k*M9).fmod (2*ZdZ ns k+1)-ZdZ ns k
theorem Zsb(ns:List Int)(k:Int): -T40≤Zcc ns k∧Zcc ns k≤T40:=by
 obtain⟨a,b⟩:=ZqU ns k
 have h1:=Int.fmod_nonneg_of_pos (Zcp ns k*M9) (show 0<2*ZdZ ns k+1 by omega)
 have h2:=Int.fmod_lt_of_pos (Zcp ns k*M9) (show 0<2*ZdZ ns k+1 by omega)
 unfold Zcc
 omega
theorem ZgZ{k:Int}(hL:Lay ns)(h0:0≤k)(h9:k≤10000): Zed [scr ns,.int k]=some (.int (Zcc ns k)):=by
 apply Pk.eq
 unfold Zed Zlv
 have hb:=ZqL (ZuK hL h0 h9) ZwW
 obtain⟨r0,r1⟩:=ZqU ns k
 have a:=Int.fmod_nonneg_of_pos ((Zcp ns k*69621).fmod 2147483629) (show(0:Int)<4 by decide)
 have b:=Int.fmod_lt_of_pos ((Zcp ns k*69621).fmod 2147483629) (show(0:Int)<4 by decide)
 walk_at "z"
 refine Zw (ZqT h0 h9) ?_
 walk_at "z"
 refine ZzL ?_
 walk_at "z"
 refine Zzs ?_
 walk_at "z"
 refine Zdz (by decide) (by decide) ?_
 walk_at "z"
 refine Zhk (t:=.int (ZdZ ns k)) (by omega) ?_ ?_
 ·unfold ZdZ
  have:(((Zcp ns k*69621).fmod 2147483629).fmod 4).toNat<4:=by omega
  generalize (((Zcp ns k*69621).fmod 2147483629).fmod 4).toNat=i at this
  match i,this with
  | 0,_=>rfl
  | 1,_=>rfl
  | 2,_=>rfl
  | 3,_=>rfl
 walk_at "z"
 refine Zzt ?_
 walk_at "z"
 refine ZcU hb ?_
 walk_at "z"
 refine Zxu (by decide) (by decide) ?_
 walk_at "z"
 rfl
noncomputable def Za4(a:Int): Int:=if a<0 then -a else a
theorem ZdS(a:Int): 0≤Za4 a:=by unfold Za4;split <;> omega
noncomputable def Zdk(ns:List Int)(k:Int): Option Int:=
 if(ZaT ns k 42).fmod 6<2 then none else if(ZaT ns k 42).fmod 6<4 then some 0 else if(ZaT ns k 42).fmod 6=4 then some ((ZaT ns k 42).fdiv 6)else some (Za4 (Zcc ns k))
theorem ZqV(ns:List Int)(k:Int){c:Int}(h:Zdk ns k=some c): 0≤c∧c≤T40:=by
 have h40:=Zhs
 unfold Zdk at h
 split at h
 ·cases h
 ·split at h
  ·cases h;omega
  ·split at h
   ·cases h
    obtain⟨p0,p1⟩:=ZbB ns k (show(0:Int)<42 by decide)
    rw[Int.fdiv_eq_ediv_of_nonneg _ (by decide)]
    omega
   ·cases h
    have:=Zsb ns k
    have:=ZdS (Zcc ns k)
    unfold Za4 at *
    split at * <;> omega
theorem ZnC{a b:Int}(h0:0≤b)(h1:b<2 ^ 30): Builtin.divisionGoesByPylong a b=false:=PyProof.noPylong_small (by omega)
theorem Zwq{k:Int}(hL:Lay ns)(h0:0≤k)(h9:k≤10000): Zij [scr ns,.int k]=some (oT (Zdk ns k)):=by
 apply Pk.eq
 unfold Zij ZlV Zdk
 obtain⟨p0,p1⟩:=ZbB ns k (show(0:Int)<42 by decide)
 walk_at "z"
 refine Zw (Zbt h0 h9 (by decide)) ?_
 walk_at "z"
 refine⟨fun c=>?_,fun c=>?_⟩
 ·walk_at "z"
  rw[if_pos (by simpa using c)];rfl
 rw[if_neg (by simpa using c)]
 walk_at "z"
 refine⟨fun c=>?_,fun c=>?_⟩
 ·walk_at "z"
  rw[if_pos (by simpa using c)];rfl
 rw[if_neg (by simpa using c)]
 walk_at "z"
 refine⟨fun c=>?_,fun c=>?_⟩
 ·walk_at "z"
  refine Zes (by decide) (ZnC (by decide) (by decide)) ?_
  rw[if_pos (by simpa using c)];rfl
 rw[if_neg (by simpa using c)]
 walk_at "z"
 refine Zw (ZgZ hL h0 h9) ?_
 walk_at "z"
 rfl
def RestOk(q:Int×Int): Prop:=q.1=0∨(0<q.1∧0≤q.2∧q.2<q.1)
noncomputable def ZaF(m r:Int): Int×Int:=if m=0 then(0,r)else(m,r.fmod m)
theorem Zcm{m:Int}(h:0≤m)(r:Int): RestOk (ZaF m r):=by
 unfold RestOk ZaF
 split
 ·exact .inl rfl
 ·exact .inr ⟨by show 0<m;omega,Int.fmod_nonneg_of_pos _ (by omega),Int.fmod_lt_of_pos _ (by omega)⟩
theorem Zm4{m:Int}: Zfu [.int m,.int r]=some (Z1 (ZaF m r)):=by
 apply Pk.eq
 unfold Zfu Zk1 ZaF
 by_cases c:m=0
 ·walk_at "z"
  rw[if_pos c];rfl
 ·walk_at "z"
  rw[if_neg c];rfl
noncomputable def Zdo(ns:List Int)(k x:Int): Int×Int:=
 if(ZaT ns k 60).fmod 5<2 then(1,0)else if(ZaT ns k 60).fmod 5=2 then(0,x)else if(ZaT ns k 60).fmod 5=3 then ZaF ((ZaT ns k 60).fdiv 5+1) x else ZaF (Za4 (Zcc ns k)) x
def Zan(q:Int×Int)(x:Int): Prop:=(q.1=0→x=q.2)∧(0<q.1→(x-q.2).emod q.1=0)
theorem Zn0(ns:List Int)(k:Int): 0≤(ZaT ns k 60).fdiv 5∧(ZaT ns k 60).fdiv 5<12:=by
 obtain⟨p0,p1⟩:=ZbB ns k (show(0:Int)<60 by decide)
 rw[Int.fdiv_eq_ediv_of_nonneg _ (by decide)]
 omega
theorem Zwr(ns:List Int)(k x:Int): RestOk (Zdo ns k x):=by
 have:=Zn0 ns k
 unfold Zdo
 split
 ·exact .inr ⟨by decide,by decide,by decide⟩
 ·split
  ·exact .inl rfl
  ·split
   ·exact Zcm (by omega) x
   ·exact Zcm (ZdS _) x
theorem Zxv{k x:Int}(hL:Lay ns)(h0:0≤k)(h9:k≤10000): Ziz [scr ns,.int k,.int x]=some (Z1 (Zdo ns k x)):=by
 apply Pk.eq
 unfold Ziz Zmw Zdo
 obtain⟨p0,p1⟩:=ZbB ns k (show(0:Int)<60 by decide)
 walk_at "z"
 refine Zw (Zbt h0 h9 (by decide)) ?_
 walk_at "z"
 refine⟨fun c=>?_,fun c=>?_⟩
 ·walk_at "z"
  rw[if_pos (by simpa using c)];rfl
 rw[if_neg (by simpa using c)]
 walk_at "z"
 refine⟨fun c=>?_,fun c=>?_⟩
 ·walk_at "z"
  rw[if_pos (by simpa using c)];rfl
 rw[if_neg (by simpa using c)]
 walk_at "z"
 refine⟨fun c=>?_,fun c=>?_⟩
 ·walk_at "z"
  refine Zes (by decide) (ZnC (by decide) (by decide)) ?_
  walk_at "z"
  refine Zw Zm4 ?_
  rw[if_pos (by simpa using c)]
 rw[if_neg (by simpa using c)]
 walk_at "z"
 refine Zw (ZgZ hL h0 h9) ?_
 walk_at "z"
 exact Zw Zm4 rfl
noncomputable def Zar(x:Nat→Int): Nat→Int:=cn 0 x
theorem ZyO(x:Nat→Int): cn (T.int 0) (fun i=>T.int (x i))=fun i=>T.int (Zar x i):=by
 funext i;cases i <;> rfl
noncomputable def Zb1(ns:List Int)(k:Int)(n:Nat)(x:Nat→Int)(i j:Nat): Option Int:=if j=i then some 0 else(Zdk ns (k+i*(n+1:Nat)+j)).map fun c=>Zar x i-Zar x j+c
noncomputable def ZeB(ns:List Int)(k:Int)(n:Nat)(x:Nat→Int)(t:Nat): Int×Int:=Zdo ns (k+(n+1:Nat)*(n+1:Nat)+t) (x t)
theorem ZuL(ns:List Int)(k:Int)(n:Nat)(x:Nat→Int)(i:Nat): Zb1 ns k n x i i=some 0:=by simp[Zb1]
theorem Zws(ns:List Int)(k:Int)(n:Nat)(x:Nat→Int)(i:Nat): (fun j=>if j=i then T.int 0 else oT ((Zdk ns (k+i*(n+1:Nat)+j)).map fun c=>Zar x i-Zar x j+c))=fun j=>oT (Zb1 ns k n x i j):=by
 funext j
 unfold Zb1
 split <;> rfl
theorem Zrz{k:Int}(hL:Lay ns)(h0:0≤k)(h9:k≤1000)(hn:n≤9): ZgK [scr ns,.int k,Zcb n x]=some (ZH n (Zb1 ns k n x) (ZeB ns k n x)):=by
 apply Pk.eq
 unfold ZgK Zmy Zcb
 have hq:((n+1:Nat):Int)*((n+1:Nat):Int)≤10*10:=Int.mul_le_mul (by omega) (by omega) (by omega) (by decide)
 have hq0:(0:Int)≤((n+1:Nat):Int)*((n+1:Nat):Int):=Int.mul_nonneg (by omega) (by omega)
 walk_at "z"
 rw[ZyO]
 refine Zdj (n:=n+1) (a:=fun i=>.int i) (P:=fun i σ=>σ 0=some (scr ns)∧σ 1=some (.int k)∧σ 2=some (.lst (tab n fun i=>.int (x i)))∧σ 3=some (.lst (tab (n+1) fun i=>.int (Zar x i)))∧σ 4=some (.int (n+1:Nat))∧σ 5=some (.lst (tab i fun i=>Zay (n+1) (Zb1 ns k n x i)))) ?_ ⟨rfl,rfl,rfl,rfl,rfl,rfl⟩ ?_ ?_
 ·walk_at "z"
  rfl
 ·rintro i σ hi ⟨e0,e1,e2,e3,e4,e5⟩
  walk_at "z"
  refine Zdj (n:=n+1) (a:=fun i=>.int i) (P:=fun j σ=>σ 0=some (scr ns)∧σ 1=some (.int k)∧σ 2=some (.lst (tab n fun i=>.int (x i)))∧σ 3=some (.lst (tab (n+1) fun i=>.int (Zar x i)))∧σ 4=some (.int (n+1:Nat))∧σ 5=some (.lst (tab i fun i=>Zay (n+1) (Zb1 ns k n x i)))∧σ 6=some (.int i)∧σ 7=some (.lst (tab j fun j=>oT ((Zdk ns (k+i*(n+1:Nat)+j)).map fun c=>Zar x i-Zar x j+c)))) ?_ ⟨?_,?_,?_,?_,?_,?_,?_,?_⟩ ?_ ?_
  ·walk_at "z"
   rfl
  all_goals first | walk_at "r" | skip
  ·rintro j σ hj ⟨e0,e1,e2,e3,e4,e5,e6,e7⟩
   have hb1:(0:Int)≤i*((n+1:Nat):Int):=Int.mul_nonneg (by omega) (by omega)
   have hb2:(i:Int)*((n+1:Nat):Int)≤10*10:=Int.mul_le_mul (by omega) (by omega) (by omega) (by decide)
   walk_at "z"
   refine Zdz (by omega) (by omega) ?_
   walk_at "z"
   refine Zw (Zwq hL (by omega) (by omega)) ?_
   have key:∀w,w=oT ((Zdk ns (k+i*(n+1:Nat)+j)).map fun c=>Zar x i-Zar x j+c)→tab j (fun j=>oT ((Zdk ns (k+i*(n+1:Nat)+j)).map fun c=>Zar x i-Zar x j+c))++[w]=tab (j+1) fun j=>oT ((Zdk ns (k+i*(n+1:Nat)+j)).map fun c=>Zar x i-Zar x j+c):=fun w e=>by
    rw[e];exact ZdQ
   cases hs:Zdk ns (k + ↑i * ↑(n+1) + ↑j)with
   | none=>
    simp only[Zcz,Zbk]
    walk_at "z"
    rw[key _ (by rw[hs];rfl)]
    refine⟨?_,?_,?_,?_,?_,?_,?_,?_⟩ <;> walk_at "r"
   | some c=>
    simp only[Zcz,Zbk]
    walk_at "z"
    rw[key _ (by rw[hs];rfl)]
    refine⟨?_,?_,?_,?_,?_,?_,?_,?_⟩ <;> walk_at "r"
  ·rintro σ ⟨e0,e1,e2,e3,e4,e5,e6,e7⟩
   walk_at "z"
   rw[Zws,show tab i (fun i=>Zay (n+1) (Zb1 ns k n x i))++[T.lst (tab (n+1) fun j=>oT (Zb1 ns k n x i j))]=tab (i+1) fun i=>Zay (n+1) (Zb1 ns k n x i)from ZdQ (f:=fun i=>Zay (n+1) (Zb1 ns k n x i))]
   refine⟨?_,?_,?_,?_,?_,?_⟩ <;> walk_at "r"
 ·rintro σ ⟨e0,e1,e2,e3,e4,e5⟩
  walk_at "z"
  refine ZbQ (n:=n) (a:=fun i=>.int i) (b:=fun t=>Z1 (ZeB ns k n x t)) (by omega) ?_ (fun t ht=>?_) ?_
  ·walk_at "z"
   refine Zgi n (by omega) (by omega) rfl
  ·walk_at "z"
   refine Zdz (by omega) (by omega) ?_
   walk_at "z"
   exact Zw (Zxv hL (by omega) (by omega)) ⟨Zg7,rfl⟩
  walk_at "z"
  rfl
def Zaq(n:Nat)(G:Nat→Nat→Option Int)(R:Nat→Int×Int)(x:Nat→Int): Prop:=(∀i j,i<n+1→j<n+1→∀b,G i j=some b→Zar x i-Zar x j≤b)∧∀t,t<n→Zan (R t) (x t)
def ZzM(n:Nat)(G:Nat→Nat→Option Int)(R:Nat→Int×Int): Prop:=(∀i,i<n+1→G i i=some 0)∧∀t,t<n→RestOk (R t)
theorem Zqx(ns:List Int)(k:Int)(n:Nat)(x:Nat→Int): ZzM n (Zb1 ns k n x) (ZeB ns k n x):=⟨fun i _=>ZuL ns k n x i,fun t _=>Zwr ns _ _⟩
theorem Zvt(hn:n<10000)(e:Pk (g σ) fun t=>t=Zab n G)(h:Q (Zab n G)): Pk (Zau (Zbp g) (Zak j) Zal (Zq ZdE (Zd (Za j) Zl)) σ) Q:=by
 refine ZbQ (n:=n) (a:=fun i=>Zay n (G i)) (b:=fun i=>Zay n (G i)) hn ?_ (fun i hi=>?_) h
 ·refine Zjm (e.mono ?_)
  rintro _ rfl
  exact Sq.lst rfl
 ·unfold Zay
  walk_at "z"
  rfl
theorem ZrA(hn:n≤100): Zef [ZH n G R]=some (ZH n G R):=by
 apply Pk.eq
 unfold Zef ZiB ZH ZbD
 walk_at "z"
 refine Zvt (n:=n+1) (G:=G) (by omega) ?_ ?_
 ·walk_at "z"
  rfl
 walk_at "z"
 rfl
theorem Zvu: Zef [.none]=some .none:=by
 apply Pk.eq
 unfold Zef ZiB
 walk_at "z"
 rfl
def leO(a b:Option Int): Prop:=∀y,b=some y→∃x,a=some x∧x≤y
theorem Zi8: leO a none:=fun _ e=>by cases e
theorem leO_some{x:Int}: leO (some x) (some y)↔x≤y:=⟨fun h=>by obtain⟨z,e,q⟩:=h y rfl;cases e;exact q,fun h z e=>by cases e;exact⟨x,rfl,h⟩⟩
theorem Zxw: ¬leO none (some y):=fun h=>by obtain⟨z,e,_⟩:=h y rfl;cases e
theorem ZlO{b:Option Int}: ZgE [oT a,oT b]=some (.bool (dec (leO a b))):=by
 apply Pk.eq
 unfold ZgE ZlX
 cases b with
 | none=>
  simp only[Zcz]
  walk_at "z"
  rw[ZaH Zi8]
 | some y=>
  cases a with
  | none=>
   simp only[Zcz,Zbk]
   walk_at "z"
   rw[ZaM Zxw]
  | some x=>
   simp only[Zbk]
   walk_at "z"
   rw[ZgU leO_some,Zix]
def RIn(p q:Int×Int): Prop:=if q.1=0 then p=q else p.1 % q.1=0∧(p.2-q.2) % q.1=0
theorem Zxx(h:0<q.1∧0≤q.2∧q.2<q.1)(x:Int): x.fmod q.1=q.2↔(x-q.2) % q.1=0:=by
 rw[Int.fmod_eq_emod_of_nonneg _ (by omega)]
 constructor
 ·intro e
  rw[←e,Int.sub_emod,Int.emod_emod,Int.sub_self]
  simp
 ·intro e
  have:x % q.1=q.2 % q.1:=Int.emod_eq_emod_iff_emod_sub_eq_zero.mpr e
  rw[this,Int.emod_eq_of_lt h.2.1 h.2.2]
theorem Zxy(h:RestOk q)(x:Int): (if q.1=0 then x=q.2 else x.fmod q.1=q.2)↔Zan q x:=by
 unfold Zan
 rcases h with h | h
 ·rw[if_pos h];simp[h]
 ·rw[if_neg (by omega),Zxx h]
  have h1:¬q.1=0:=by omega
  simp only[h1,false_implies,true_and,h.1,true_implies]
  rfl
theorem ZfE{x:Int}(h:RestOk q): Zeg [Z1 q,.int x]=some (.bool (dec (Zan q x))):=by
 apply Pk.eq
 unfold Zeg ZmC Z1
 rw[←ZgU (Zxy h x)]
 by_cases c:q.1=0
 ·walk_at "z"
  rw[if_pos c,Zix]
 ·walk_at "z"
  rw[if_neg c,Zix]
theorem Ztk(h:RestOk q): Zh1 [Z1 p,Z1 q]=some (.bool (dec (RIn p q))):=by
 apply Pk.eq
 unfold Zh1 Zk5
 have hp:Z1 p=.tup [.int p.1,.int p.2]:=rfl
 have hq:Z1 q=.tup [.int q.1,.int q.2]:=rfl
 by_cases c:q.1=0
 ·rw[hp,hq]
  walk_at "z"
  rw[←hp,←hq]
  refine Zb8 (ZjK (n:=0)) (ZjK (n:=0)) ?_
  rw[ZgU (show Z1 p=Z1 q↔RIn p q by unfold RIn;rw[if_pos c,Zxl])]
 ·have hq0:0<q.1:=by rcases h with h | h <;> omega
  rw[hp,hq]
  walk_at "z"
  refine⟨fun e=>?_,fun e=>?_⟩
  ·rw[←hq]
   refine Zw (ZfE h) ?_
   congr 1
   refine ZgU ?_
   unfold RIn Zan
   rw[if_neg c]
   simp only[decide_eq_true_eq]at e
   rw[Int.fmod_eq_emod_of_nonneg _ (by omega)]at e
   simp[c,e,hq0]
   rfl
  ·rw[e]
   simp only[decide_eq_false_iff_not]at e
   rw[Int.fmod_eq_emod_of_nonneg _ (by omega)]at e
   rw[ZaM]
   unfold RIn
   rw[if_neg c]
   exact fun q=>e q.1
def ZbH(n:Nat)(G:Nat→Nat→Option Int)(R:Nat→Int×Int)(G':Nat→Nat→Option Int)(R':Nat→Int×Int): Prop:=(∀i,i<n+1→∀j,j<n+1→leO (G i j) (G' i j))∧∀t,t<n→RIn (R t) (R' t)
def Eu(m:Nat)(a b:Int): Prop:=0≤a∧0≤b∧∃k:Nat,a*b<2 ^ k∧m=2*k+if a<b then 1 else 0
theorem Eu.step{a b:Int}(h:Eu m a b)(hb:b≠0): ∃m',m'<m∧Eu m' b (a % b):=by
 obtain⟨h0,h1,k,h2,h3⟩:=h
 have hb':0<b:=by omega
 have r0:=Int.emod_nonneg a hb
 have r1:=Int.emod_lt_of_pos a hb'
 by_cases q:a<b
 ·rw[if_pos q]at h3
  have e:a % b=a:=Int.emod_eq_of_lt h0 q
  rw[e]
  exact⟨2*k,by omega,h1,h0,k,by rw[Int.mul_comm];exact h2,by rw[if_neg (by omega)];omega⟩
 ·rw[if_neg q]at h3
  have hd:=Int.emod_add_mul_ediv a b
  have hq:1≤a / b:=Int.le_ediv_of_mul_le hb' (by omega)
  have hm:b*1≤b*(a / b):=Int.mul_le_mul_of_nonneg_left hq h1
  have h2r:2*(a % b)<a:=by omega
  have hp:b*(2*(a % b))<b*a:=Int.mul_lt_mul_of_pos_left h2r hb'
  have hk:k≠0:=by
   rintro rfl
   have:0<a*b:=Int.mul_pos (by omega) hb'
   simp at h2
   omega
  obtain⟨k',rfl⟩:∃k',k=k'+1:=⟨k-1,by omega⟩
  refine⟨2*k',by omega,h1,r0,k',?_,by rw[if_neg (by omega)];omega⟩
  have e1:b*(2*(a % b))=2*(b*(a % b)):=by rw[←Int.mul_assoc,Int.mul_comm b 2,Int.mul_assoc]
  have e2:a*b=b*a:=Int.mul_comm _ _
  rw[Int.pow_succ]at h2
  omega
theorem ZqW{a b:Int}(ha:0≤a)(hb:0≤b)(ha2:a<2 ^ 200000)(hb2:b<2 ^ 200000): ∃m,m<1000000∧Eu m a b:=by
 refine⟨_,?_,ha,hb,400000,?_,rfl⟩
 ·split <;> omega
 ·have h1:a*b≤a*2 ^ 200000:=Int.mul_le_mul_of_nonneg_left (by omega) ha
  have h2:a*2 ^ 200000<2 ^ 200000*2 ^ 200000:=Int.mul_lt_mul_of_pos_right ha2 (Int.pow_pos (by decide))
  have h3:(2:Int) ^ 200000*2 ^ 200000=2 ^ 400000:=by rw[←Int.pow_add]
  omega
theorem Zn1{a b:Int}(hb:0<b): Int.gcd b (a % b)=Int.gcd a b:=by
 rw[Int.gcd_comm a b,Int.emod_def,Int.gcd_sub_mul_left_right]
theorem Zxz{a b:Int}: Int.gcd (Za4 a) (Za4 b)=Int.gcd a b:=by
 unfold Za4 Int.gcd
 split <;> split <;> simp
theorem ZrB{a:Int}(h:a.natAbs<2 ^ k): Za4 a<2 ^ k:=by
 have:((a.natAbs:Nat):Int)<2 ^ k:=by exact_mod_cast h
 unfold Za4
 split <;> omega
theorem Zhp(ns:List Int)(k:Int): (Zcc ns k).natAbs<2 ^ 134:=by
 have h:=Zsb ns k
 have h2:=Zhs
 have:(2:Nat) ^ 134=21778071482940061661655974875633165533184:=by decide
 omega
theorem Zbs{a:Nat}(h:a<2 ^ i)(hij:i≤j): a<2 ^ j:=Nat.lt_of_lt_of_le h (Nat.pow_le_pow_right (by decide) hij)
def SmG(k n:Nat)(G:Nat→Nat→Option Int): Prop:=∀i j,i<n+1→j<n+1→∀b,G i j=some b→b.natAbs<2 ^ k
def SmR(k n:Nat)(R:Nat→Int×Int): Prop:=∀t,t<n→(R t).1.natAbs<2 ^ k∧(R t).2.natAbs<2 ^ k
theorem ZfA{m:Int}(h0:0≤m)(hm:m.natAbs<2 ^ k)(hr:r.natAbs<2 ^ k): (ZaF m r).1.natAbs<2 ^ k∧(ZaF m r).2.natAbs<2 ^ k:=by
 unfold ZaF
 split
 ·exact⟨Nat.two_pow_pos k,hr⟩
 ·have h1:=Int.fmod_nonneg_of_pos r (show 0<m by omega)
  have h2:=Int.fmod_lt_of_pos r (show 0<m by omega)
  exact⟨hm,by show(r.fmod m).natAbs<_;omega⟩
theorem Zi9(a:Int): (Za4 a).natAbs=a.natAbs:=by unfold Za4;split <;> omega
theorem Zul{k x:Int}(hx:x.natAbs<2 ^ 134): (Zdo ns k x).1.natAbs<2 ^ 134∧(Zdo ns k x).2.natAbs<2 ^ 134:=by
 have h:=Zn0 ns k
 have h2:=Zhp ns k
 have e:(2:Nat) ^ 134=21778071482940061661655974875633165533184:=by decide
 unfold Zdo
 split
 ·exact⟨by show(1:Nat)<_;omega,by show(0:Nat)<_;omega⟩
 ·split
  ·exact⟨by show(0:Nat)<_;omega,hx⟩
  ·split
   ·exact ZfA (by omega) (by omega) hx
   ·exact ZfA (ZdS _) (by rw[Zi9];exact h2) hx
theorem ZiM(hx:∀i,i<n→(x i).natAbs<2 ^ k)(i:Nat)(hi:i<n+1): (Zar x i).natAbs<2 ^ k:=by
 cases i with
 | zero=>exact Nat.two_pow_pos k
 | succ i=>exact hx i (by omega)
theorem Zwt{k:Int}(hx:∀i,i<n→(x i).natAbs<2 ^ 134): SmG 136 n (Zb1 ns k n x):=by
 intro i j hi hj b h
 have e:(2:Nat) ^ 134=21778071482940061661655974875633165533184:=by decide
 have e2:(2:Nat) ^ 136=4*21778071482940061661655974875633165533184:=by decide
 have h40:=Zhs
 have h1:=ZiM hx i hi
 have h2:=ZiM hx j hj
 unfold Zb1 at h
 split at h
 ·cases h;exact Nat.two_pow_pos _
 ·obtain⟨c,h3,h4⟩:=Zz1.mp h
  have:=ZqV ns _ h3
  subst h4
  omega
theorem ZqX{k:Int}(hx:∀i,i<n→(x i).natAbs<2 ^ 134): SmR 134 n (ZeB ns k n x):=fun t ht=>Zul (hx t ht)
theorem Zn2: RIn q q:=by
 unfold RIn
 split
 ·rfl
 ·simp
theorem Zqy{g:PG}{a:Nat→T}{f:PE}(e:β→T)(P:Nat→β→Prop)(hn:n<10000)(hg:Pl (g σ) fun ts=>ts=tab n a)(hf:∀i,i<n→Pk (f (Z8 σ j (a i))) fun t=>∃y,t=e y∧P i y)(d:β)(h:∀y:Nat→β,(∀i,i<n→P i (y i))→Q (.lst (tab n fun i=>e (y i)))): Pk (Zau g (Zak j) Zal f σ) Q:=by
 have hc:∃y:Nat→β,∀i,i<n→Pk (f (Z8 σ j (a i))) (fun t=>t=e (y i))∧P i (y i):=by
  have hx:∀i,∃y:β,i<n→Pk (f (Z8 σ j (a i))) (fun t=>t=e y)∧P i y:=fun i=>by
   by_cases q:i<n
   ·obtain⟨t,e1,y,e2,p⟩:=hf i q
    exact⟨y,fun _=>⟨⟨t,e1,e2⟩,p⟩⟩
   ·exact⟨d,fun h=>absurd h q⟩
  exact⟨fun i=>Classical.choose (hx i),fun i=>Classical.choose_spec (hx i)⟩
 obtain⟨y,hy⟩:=hc
 exact ZbQ hn hg (fun i hi=>(hy i hi).1) (h y fun i hi=>(hy i hi).2)
theorem ZuM(hn:n<10000)(e:Pk (g σ) fun t=>t=Zab n G)(h:Q (Zab n G)): Pk (Zau (Zbp g) (Zak j) Zal (pFl (Zq ZdE (Zd (Za j) Zl))) σ) Q:=by
 refine ZbQ (n:=n) (a:=fun i=>Zay n (G i)) (b:=fun i=>Zay n (G i)) hn ?_ (fun i hi=>?_) h
 ·refine Zjm (e.mono ?_)
  rintro _ rfl
  exact Sq.lst rfl
 ·unfold Zay
  walk_at "z"
  rfl
noncomputable def ZbE(G:Nat→Nat→Option Int)(i j:Nat)(v:Option Int): Nat→Nat→Option Int:=fun a b=>if a=i∧b=j then v else G a b
theorem ZoU{v:Option Int}: T.lst (tab n fun a=>T.lst (tab n fun b=>if a=i∧b=j then oT v else oT (G a b)))=Zab n (ZbE G i j v):=by
 unfold Zab Zay ZbE
 congr 2
 funext a
 congr 2
 funext b
 split <;> rfl
theorem Zou{v:Option Int}: ZbE G i j v i j=v:=by simp[ZbE]
theorem Zjs{a:Nat}{v:Option Int}(h:¬(a=i∧b=j)): ZbE G i j v a b=G a b:=by simp[ZbE,h]
theorem Zcn: leO a a:=fun y e=>⟨y,e,Int.le_refl y⟩
theorem Zc3{b c:Option Int}(h:leO a b)(k:leO b c): leO a c:=fun y e=>by
 obtain⟨x,e1,l1⟩:=k y e
 obtain⟨w,e2,l2⟩:=h x e1
 exact⟨w,e2,by omega⟩
theorem Zfd{k:Int}(h0:0≤k)(h1:k<n): ∃i:Nat,k=i∧i<n:=⟨k.toNat,by omega,by omega⟩
theorem Zm5{a b:Int}(ha:a.natAbs<2 ^ 200000)(hb:b.natAbs<2 ^ 200000): ZeY [.int a,.int b]=some (.int (Int.gcd a b)):=by
 apply Pk.eq
 unfold ZeY Znf
 walk_at "z"
 obtain⟨m,hm,eu⟩:=ZqW (ZdS a) (ZdS b) (ZrB ha) (ZrB hb)
 refine ZnN (fun m σ=>∃c d:Int,σ 2=some (.int c)∧σ 3=some (.int d)∧Eu m c d∧Int.gcd c d=Int.gcd a b) _ _ ?_ 1000000 (m:=m) ⟨Za4 a,Za4 b,by walk_at "r",by walk_at "r",eu,Zxz⟩ hm
 rintro m σ ⟨c,d,e0,e1,eu,eg⟩
 walk_at "z"
 refine⟨fun h=>?_,fun h=>?_⟩
 ·have hd:d≠0:=by simpa using h
  have hd0:0≤d:=eu.2.1
  walk_at "z"
  rw[Int.fmod_eq_emod_of_nonneg _ hd0]
  obtain⟨m',h1,h2⟩:=eu.step hd
  exact⟨m',h1,d,c % d,by walk_at "r",by walk_at "r",h2,by rw[Zn1 (by omega)];exact eg⟩
 ·have hd:d=0:=by simpa using h
  subst hd
  walk_at "z"
  rw[←eg,Int.gcd_zero_right]
  have:=eu.1
  congr 1
  omega
def Bd(k:Nat)(x:Int): Prop:=x.natAbs<2 ^ k
theorem Bd.mono{x:Int}(h:Bd i x)(hij:i≤j): Bd j x:=Zbs h hij
theorem Zdx{x:Int}(h:Bd i x)(k:Bd j y)(hi:i≤1000000)(hj:j≤1000000): mulOk x y=true:=ZqL (Nat.le_trans (PyProof.Rows.intBits_le h) (Nat.le_trans hi (by decide))) (Nat.le_trans (PyProof.Rows.intBits_le k) (Nat.le_trans hj (by decide)))
theorem Bd.mul{x:Int}(h:Bd i x)(k:Bd j y): Bd (i+j) (x*y):=by
 unfold Bd at *
 rw[Int.natAbs_mul,Nat.pow_add]
 exact Nat.mul_lt_mul'' h k
theorem Bd.add{x:Int}(h:Bd i x)(k:Bd i y): Bd (i+1) (x+y):=by
 unfold Bd at *
 rw[Nat.pow_succ]
 omega
theorem Bd.sub{x:Int}(h:Bd i x)(k:Bd i y): Bd (i+1) (x-y):=by
 unfold Bd at *
 rw[Nat.pow_succ]
 omega
theorem ZhC{x:Int}(h:Bd i y)(hi:i≤9000): Builtin.divisionGoesByPylong x y=false:=by
 refine PyProof.noPylong_of_log2 ?_
 by_cases h0:y.natAbs=0
 ·rw[h0];decide +kernel
 ·exact Nat.lt_of_lt_of_le ((Nat.log2_lt h0).mpr h) hi
theorem ZeC{x:Int}(h:Bd i y)(h0:0≤x)(h1:x≤y): Bd i x:=by unfold Bd at *;omega
theorem Zea(h:1≤i): Bd i 1:=Zbs (i:=1) (by decide) h
theorem Zcd: Bd i 0:=Nat.two_pow_pos i
theorem ZuN{a b:Int}(hb:0<b)(kb:Bd k b)(hk:k≤8000)(ha:0≤a)(hg:Int.gcd a b=1): Pk (ZiW [.int a,.int b]) fun t=>∃x:Int,t=.int x∧0≤x∧x<b∧∃q,a*x=1+b*q:=by
 unfold ZiW Zni
 walk_at "z"
 rw[Int.fmod_eq_emod_of_nonneg _ (by omega)]
 have r0:=Int.emod_nonneg a (show b≠0 by omega)
 have r1:=Int.emod_lt_of_pos a hb
 have hlt:∀x:Int,0≤x→x≤b→x<2 ^ 200000:=fun x h0 h1=>by
  have h2:b.natAbs<2 ^ 200000:=Zbs kb (by omega)
  have h3:((b.natAbs:Nat):Int)<2 ^ 200000:=by exact_mod_cast h2
  omega
 obtain⟨m,hm,eu⟩:=ZqW r0 (show 0≤b by omega) (hlt _ r0 (by omega)) (hlt b (by omega) (by omega))
 have hg0:Int.gcd (a % b) b=1:=by
  rw[Int.gcd_comm,Zn1 hb];exact hg
 refine ZnN (fun m σ=>∃l r s t:Int,σ 1=some (.int b)∧σ 2=some (.int l)∧σ 3=some (.int r)∧σ 4=some (.int s)∧σ 5=some (.int t)∧Eu m l r∧Int.gcd l r=1∧l≤b∧r≤b∧(∃q,s*a=l+b*q)∧(∃q,t*a=r+b*q)∧(s.natAbs:Int)*r+(t.natAbs:Int)*l≤b∧(1≤l∨t=0)) _ _ ?_ 1000000 (m:=m) ⟨a % b,b,1,0,by walk_at "r",by walk_at "r",by walk_at "r",by walk_at "r",by walk_at "r",eu,hg0,by omega,by omega,⟨a / b,?_⟩,⟨-1,by omega⟩,by simp,.inr rfl⟩ hm
 ·rintro m σ ⟨l,r,s,t,e1,e2,e3,e4,e5,eu,gl,lb,rb,⟨q1,h1⟩,⟨q2,h2⟩,hb1,hl⟩
  walk_at "z"
  refine⟨fun h=>?_,fun h=>?_⟩
  ·have hr:r≠0:=by simpa using h
   have hr0:0≤r:=eu.2.1
   have hl0:0≤l:=eu.1
   have hrp:0<r:=by omega
   have kr:Bd k r:=ZeC kb hr0 rb
   have kl:Bd k l:=ZeC kb hl0 lb
   have hdiv0:0≤l / r:=Int.ediv_nonneg hl0 hr0
   have hdiv1:l / r≤l:=Int.ediv_le_self _ hl0
   have ks:(s.natAbs:Int)≤b:=by
    have:(s.natAbs:Int)*1≤(s.natAbs:Int)*r:=Int.mul_le_mul_of_nonneg_left (by omega) (by omega)
    have:0≤(t.natAbs:Int)*l:=Int.mul_nonneg (by omega) hl0
    omega
   have kt:(t.natAbs:Int)≤b:=by
    rcases hl with hl | hl
    ·have:(t.natAbs:Int)*1≤(t.natAbs:Int)*l:=Int.mul_le_mul_of_nonneg_left (by omega) (by omega)
     have:0≤(s.natAbs:Int)*r:=Int.mul_nonneg (by omega) hr0
     omega
    ·rw[hl];simp;omega
   have kt':Bd k t:=by unfold Bd at *;omega
   have kd:Bd k (l / r):=ZeC kl hdiv0 hdiv1
   walk_at "z"
   refine Zes hr (ZhC kr (by omega)) ?_
   rw[Int.fdiv_eq_ediv_of_nonneg _ hr0]
   walk_at "z"
   refine ZcU (Zdx kd kr (by omega) (by omega)) ?_
   walk_at "z"
   refine ZcU (Zdx kd kt' (by omega) (by omega)) ?_
   walk_at "z"
   have hover:l-l / r*r=l % r:=by
    have:=Int.emod_add_mul_ediv l r
    rw[Int.mul_comm r (l / r)]at this
    omega
   rw[hover]
   obtain⟨m',hm1,hm2⟩:=eu.step hr
   have o0:=Int.emod_nonneg l hr
   have o1:=Int.emod_lt_of_pos l hrp
   refine⟨m',hm1,r,l % r,t,s-l / r*t,by walk_at "r",by walk_at "r",by walk_at "r",by walk_at "r",by walk_at "r",hm2,by rw[Zn1 hrp];exact gl,rb,by omega,⟨q2,h2⟩,⟨q1-l / r*q2,?_⟩,?_,.inl (by omega)⟩
   ·rw[Int.sub_mul,h1,Int.mul_assoc,h2,Int.mul_add,Int.mul_sub,←hover]
    have e1:b*(l / r*q2)=l / r*(b*q2):=by rw[←Int.mul_assoc,Int.mul_comm b,Int.mul_assoc]
    rw[e1]
    omega
   ·have ht:((s-l / r*t).natAbs:Int)≤(s.natAbs:Int)+l / r*(t.natAbs:Int):=by
     have h3:(s-l / r*t).natAbs≤s.natAbs+(l / r*t).natAbs:=by omega
     have h4:(l / r*t).natAbs=(l / r).natAbs*t.natAbs:=Int.natAbs_mul ..
     have h5:(((l / r).natAbs*t.natAbs:Nat):Int)=l / r*(t.natAbs:Int):=by
      rw[Int.natCast_mul,Int.natAbs_of_nonneg hdiv0]
     rw[h4]at h3
     omega
    have h6:((s-l / r*t).natAbs:Int)*r≤((s.natAbs:Int)+l / r*(t.natAbs:Int))*r:=Int.mul_le_mul_of_nonneg_right ht hr0
    have h7:((s.natAbs:Int)+l / r*(t.natAbs:Int))*r=(s.natAbs:Int)*r+(t.natAbs:Int)*(l / r*r):=by
     rw[Int.add_mul,Int.mul_comm (l / r) (t.natAbs:Int),Int.mul_assoc]
    have h8:(t.natAbs:Int)*(l % r)+(t.natAbs:Int)*(l / r*r)=(t.natAbs:Int)*l:=by
     rw[←Int.mul_add,←hover]
     congr 1
     omega
    omega
  ·have hr:r=0:=by simpa using h
   subst hr
   rw[Int.gcd_zero_right]at gl
   have hl1:l=1:=by have:=eu.1;omega
   subst hl1
   walk_at "z"
   rw[Int.fmod_eq_emod_of_nonneg _ (by omega)]
   refine⟨s % b,rfl,Int.emod_nonneg _ (by omega),Int.emod_lt_of_pos _ hb,q1-s / b*a,?_⟩
   have h3:=Int.emod_add_mul_ediv s b
   have h4:s % b=s-b*(s / b):=by omega
   rw[h4,Int.mul_sub,Int.mul_comm a s,h1,Int.mul_sub]
   have e1:a*(b*(s / b))=b*(s / b*a):=by rw[Int.mul_comm a,Int.mul_assoc]
   rw[e1]
   omega
 ·have h3:=Int.emod_add_mul_ediv a b
  rw[Int.one_mul]
  omega
theorem Zif{m:Int}(h:0≤m): ZdY [.int m,.int r]=some (Z1 (ZaF m r)):=by
 apply Pk.eq
 unfold ZdY ZoO ZaF
 by_cases c:m=0
 ·walk_at "z"
  rw[if_pos c];rfl
 ·walk_at "z"
  rw[if_neg c];rfl
theorem Zbl(h:0≤q.1)(x:Int): Zan q x↔q.1 ∣ x-q.2:=by
 unfold Zan
 by_cases c:q.1=0
 ·rw[c]
  simp
  omega
 ·have:0<q.1:=by omega
  simp only[c,false_implies,true_and,this,true_implies]
  exact(Int.dvd_iff_emod_eq_zero).symm
theorem Zvv{m:Int}(h:0≤m): 0≤(ZaF m r).1:=by unfold ZaF;split <;> simp[h]
theorem ZcQ{m:Int}(h:0≤m)(x:Int): Zan (ZaF m r) x↔m ∣ x-r:=by
 rw[Zbl (Zvv h)]
 unfold ZaF
 split
 ·rename_i c;subst c;rfl
 ·show m ∣ x-r.fmod m↔_
  rw[Int.fmod_eq_emod_of_nonneg _ h]
  have h1:x-r % m=(x-r)+m*(r / m):=by have:=Int.emod_add_mul_ediv r m;omega
  rw[h1]
  constructor
  ·intro q
   have:=Int.dvd_sub q (Int.dvd_mul_right m (r / m))
   rwa [Int.add_sub_cancel]at this
  ·intro q
   exact Int.dvd_add q (Int.dvd_mul_right m (r / m))
theorem RestOk.nn(h:RestOk q): 0≤q.1:=by rcases h with h | h <;> omega
theorem RestOk.self(h:RestOk q): Zan q q.2:=by rw[Zbl h.nn];simp
theorem Zml(hp:RestOk p)(hq:RestOk q)(h:∀x,Zan p x↔Zan q x): p=q:=by
 have e1:∀x,p.1 ∣ x-p.2↔q.1 ∣ x-q.2:=fun x=>by rw[←Zbl hp.nn,←Zbl hq.nn];exact h x
 have a1:q.1 ∣ p.2-q.2:=(e1 p.2).mp (by simp)
 have a2:q.1 ∣ p.2+p.1-q.2:=(e1 (p.2+p.1)).mp (by rw[show p.2+p.1-p.2=p.1 by omega];exact Int.dvd_refl _)
 have b1:p.1 ∣ q.2-p.2:=(e1 q.2).mpr (by simp)
 have b2:p.1 ∣ q.2+q.1-p.2:=(e1 (q.2+q.1)).mpr (by rw[show q.2+q.1-q.2=q.1 by omega];exact Int.dvd_refl _)
 have c1:q.1 ∣ p.1:=by have:=Int.dvd_sub a2 a1;rwa [show p.2+p.1-q.2-(p.2-q.2)=p.1 by omega]at this
 have c2:p.1 ∣ q.1:=by have:=Int.dvd_sub b2 b1;rwa [show q.2+q.1-p.2-(q.2-p.2)=q.1 by omega]at this
 have em:p.1=q.1:=Int.dvd_antisymm hp.nn hq.nn c2 c1
 have er:p.2=q.2:=by
  rcases hp with hp | hp
  ·rw[hp]at em
   rw[←em]at a1
   have:=Int.zero_dvd.mp a1
   omega
  ·rcases hq with hq | hq
   ·omega
   ·rw[←em]at a1 hq
    obtain⟨k,hk⟩:=a1
    have:k=0:=by
     rcases Int.lt_trichotomy k 0 with h | h | h
     ·have:p.1*k≤p.1*(-1):=Int.mul_le_mul_of_nonneg_left (by omega) (by omega)
      omega
     ·exact h
     ·have:p.1*1≤p.1*k:=Int.mul_le_mul_of_nonneg_left (by omega) (by omega)
      omega
    subst this
    simp at hk
    omega
 exact Prod.ext em er
def RBd(k:Nat)(q:Int×Int): Prop:=Bd k q.1∧Bd k q.2
theorem Zg0{m:Int}(h0:0≤m)(hm:Bd k m)(hr:Bd k r): RBd k (ZaF m r):=ZfA h0 hm hr
noncomputable def Zch(p q:Int×Int): Int×Int:=ZaF (Int.gcd p.1 q.1) (p.2+q.2)
theorem Zn3(p q:Int×Int): RestOk (Zch p q):=Zcm (by omega) _
theorem ZlP(hk:k≤200000)(hp:Bd k p.1)(hq:Bd k q.1): ZfB [Z1 p,Z1 q]=some (Z1 (Zch p q)):=by
 apply Pk.eq
 unfold ZfB ZlZ Z1 Zch
 walk_at "z"
 refine Zw (Zm5 (Zbs hp hk) (Zbs hq hk)) ?_
 walk_at "z"
 exact Zw (Zif (by omega)) rfl
noncomputable def ZcC(p:Int×Int)(k:Int): Int×Int:=ZaF (p.1*Za4 k) (p.2*k)
theorem Zls{c:Int}(hk:k≤200000)(hp0:0≤p.1)(hp:RBd k p)(hc:Bd k c): Zfy [Z1 p,.int c]=some (Z1 (ZcC p c)):=by
 apply Pk.eq
 unfold Zfy ZlA Z1 ZcC
 have ha:Bd k (Za4 c):=by unfold Bd at *;rw[Zi9];exact hc
 walk_at "z"
 refine ZcU (Zdx hp.1 ha (by omega) (by omega)) ?_
 walk_at "z"
 refine ZcU (Zdx hp.2 hc (by omega) (by omega)) ?_
 walk_at "z"
 exact Zw (Zif (Int.mul_nonneg hp0 (ZdS c))) rfl
noncomputable def Zex(p:Int×Int)(top:Int): Option Int:=if p.1=0 then(if p.2≤top then some p.2 else none)else some (top-(top-p.2) % p.1)
theorem ZtG(hp:0≤p.1): Zia [Z1 p,.int top]=some (oT (Zex p top)):=by
 apply Pk.eq
 unfold Zia ZlE Z1 Zex
 by_cases c:p.1=0
 ·rw[if_pos c]
  by_cases d:p.2≤top
  ·walk_at "z"
   rw[if_pos d];rfl
  ·walk_at "z"
   rw[if_neg d];rfl
 ·rw[if_neg c]
  walk_at "z"
  rw[Int.fmod_eq_emod_of_nonneg _ hp]
  rfl
noncomputable def oR: Option (Int×Int)→T
 | none=>.none
 | some q=>Z1 q
def Met(p q:Int×Int)(o:Option (Int×Int)): Prop:=match o with
 | none=>∀x,¬(Zan p x∧Zan q x)
 | some r=>RestOk r∧(∀x,Zan r x↔Zan p x∧Zan q x)
theorem ZuO{a b:Option (Int×Int)}(ha:Met p q a)(hb:Met p q b): a=b:=by
 cases a with
 | none=>
  cases b with
  | none=>rfl
  | some r=>exact absurd ((hb.2 r.2).mp hb.1.self) (ha r.2)
 | some s=>
  cases b with
  | none=>exact absurd ((ha.2 s.2).mp ha.1.self) (hb s.2)
  | some r=>rw[Zml ha.1 hb.1 fun x=>(ha.2 x).trans (hb.2 x).symm]
theorem Zit(hk:k≤8000)(op:RestOk p)(oq:RestOk q)(bp:RBd k p)(bq:RBd k q): Pk (ZfG [Z1 p,Z1 q]) fun t=>∃o,t=oR o∧Met p q o∧∀r,o=some r→(r=p∨r=q∨(p.1≠0∧q.1≠0∧r.1=Int.lcm p.1 q.1)):=by
 unfold ZfG ZmE
 have ep:Z1 p=.tup [.int p.1,.int p.2]:=rfl
 have eq:Z1 q=.tup [.int q.1,.int q.2]:=rfl
 have np:=op.nn
 have nq:=oq.nn
 by_cases c1:p.1=0
 ·rw[ep]
  walk_at "z"
  refine Zw (ZfE oq) ?_
  walk_at "z"
  have hone:∀x,Zan p x↔x=p.2:=fun x=>by rw[Zbl np,c1,Int.zero_dvd];omega
  refine⟨fun e=>?_,fun e=>?_⟩
  ·walk_at "z"
   refine⟨some p,rfl,⟨op,fun x=>⟨fun h=>⟨h,?_⟩,fun h=>h.1⟩⟩,fun r e=>by cases e;exact .inl rfl⟩
   rw[(hone x).mp h];exact dec_iff.mp e
  ·walk_at "z"
   refine⟨none,rfl,fun x h=>?_,by simp⟩
   have:=(hone x).mp h.1
   subst this
   have h2:=ZaH h.2
   rw[h2]at e
   cases e
 by_cases c2:q.1=0
 ·have hone:∀x,Zan q x↔x=q.2:=fun x=>by rw[Zbl nq,c2,Int.zero_dvd];omega
  rw[ep,eq]
  walk_at "z"
  rw[←ep]
  refine Zw (ZfE op) ?_
  walk_at "z"
  refine⟨fun e=>?_,fun e=>?_⟩
  ·walk_at "z"
   refine⟨some q,rfl,⟨oq,fun x=>⟨fun h=>⟨?_,h⟩,fun h=>h.2⟩⟩,fun r e=>by cases e;exact .inr (.inl rfl)⟩
   rw[(hone x).mp h];exact dec_iff.mp e
  ·walk_at "z"
   refine⟨none,rfl,fun x h=>?_,by simp⟩
   have:=(hone x).mp h.2
   subst this
   have h2:=ZaH h.1
   rw[h2]at e
   cases e
 ·have pp:0<p.1:=by omega
  have pq:0<q.1:=by omega
  obtain⟨g,hg⟩:∃g:Nat,Int.gcd p.1 q.1=g:=⟨_,rfl⟩
  have hg0:0<(g:Int):=by
   have:Int.gcd p.1 q.1≠0:=fun h=>c1 (Int.gcd_eq_zero_iff.mp h).1
   omega
  have gp:(g:Int) ∣ p.1:=by rw[←hg];exact Int.gcd_dvd_left ..
  have gq:(g:Int) ∣ q.1:=by rw[←hg];exact Int.gcd_dvd_right ..
  obtain⟨a,ea⟩:=gp
  obtain⟨b,eb⟩:=gq
  have ha:0<a:=by
   rcases Int.lt_trichotomy a 0 with h | h | h
   ·have:=Int.mul_neg_of_pos_of_neg hg0 h;omega
   ·subst h;simp at ea;omega
   ·exact h
  have hb:0<b:=by
   rcases Int.lt_trichotomy b 0 with h | h | h
   ·have:=Int.mul_neg_of_pos_of_neg hg0 h;omega
   ·subst h;simp at eb;omega
   ·exact h
  have da:p.1 / g=a:=by rw[ea];exact Int.mul_ediv_cancel_left _ (by omega)
  have db:q.1 / g=b:=by rw[eb];exact Int.mul_ediv_cancel_left _ (by omega)
  have kg:Bd k (g:Int):=ZeC bp.1 (by omega) (by
   rw[ea]
   have:(g:Int)*1≤g*a:=Int.mul_le_mul_of_nonneg_left (by omega) (by omega)
   omega)
  have kb:Bd k b:=ZeC bq.1 (by omega) (by
   rw[eb]
   have:1*b≤g*b:=Int.mul_le_mul_of_nonneg_right (by omega) (by omega)
   omega)
  have cop:Int.gcd a b=1:=by
   have h1:=Int.gcd_mul_left (g:Int) a b
   rw[←ea,←eb,hg,Int.natAbs_natCast]at h1
   have h2:g*1=g*Int.gcd a b:=by omega
   exact(Nat.eq_of_mul_eq_mul_left (by omega) h2).symm
  rw[ep,eq]
  walk_at "z"
  refine Zw (Zm5 (Zbs bp.1 (by omega)) (Zbs bq.1 (by omega))) ?_
  rw[hg]
  walk_at "z"
  rw[Int.fmod_eq_emod_of_nonneg _ (by omega)]
  by_cases c3:(q.2-p.2) % (g:Int)=0
  ·obtain⟨d,ed⟩:=Int.dvd_of_emod_eq_zero c3
   have dd:(q.2-p.2) / g=d:=by rw[ed];exact Int.mul_ediv_cancel_left _ (by omega)
   have kd:Bd (k+1) d:=by
    have h1:Bd (k+1) (q.2-p.2):=Bd.sub bq.2 bp.2
    unfold Bd at *
    rw[ed,Int.natAbs_mul]at h1
    have:1*d.natAbs≤(g:Int).natAbs*d.natAbs:=Nat.mul_le_mul_right _ (by omega)
    omega
   walk_at "z"
   refine Zes (by omega) (ZhC kg (by omega)) ?_
   rw[Int.fdiv_eq_ediv_of_nonneg _ (by omega),db]
   walk_at "z"
   refine Zes (by omega) (ZhC kg (by omega)) ?_
   rw[Int.fdiv_eq_ediv_of_nonneg _ (by omega),dd]
   walk_at "z"
   refine Zes (by omega) (ZhC kg (by omega)) ?_
   rw[Int.fdiv_eq_ediv_of_nonneg _ (by omega),da]
   walk_at "z"
   refine(ZuN hb kb hk (by omega) cop).mono ?_
   rintro _ ⟨y,rfl,y0,y1,z,hz⟩
   have ky:Bd k y:=ZeC kb y0 (by omega)
   walk_at "z"
   refine ZcU (Zdx kd ky (by omega) (by omega)) ?_
   walk_at "z"
   refine ZcU (Zdx bp.1 kb (by omega) (by omega)) ?_
   walk_at "z"
   refine ZcU (Zdx bp.1 (Bd.mul kd ky) (by omega) (by omega)) ?_
   walk_at "z"
   have hL:(p.1*b).natAbs=Int.lcm p.1 q.1:=by
    have h1:=Int.gcd_mul_lcm p.1 q.1
    rw[hg]at h1
    have h2:p.1.natAbs*q.1.natAbs=g*(p.1*b).natAbs:=by
     rw[Int.natAbs_mul]
     conv=>lhs;rw[show q.1.natAbs=g*b.natAbs by rw[eb,Int.natAbs_mul,Int.natAbs_natCast]]
     rw[←Nat.mul_assoc,Nat.mul_comm p.1.natAbs g,Nat.mul_assoc]
    have h3:g*Int.lcm p.1 q.1=g*(p.1*b).natAbs:=by omega
    exact(Nat.eq_of_mul_eq_mul_left (by omega) h3).symm
   have hpb:0<p.1*b:=Int.mul_pos pp hb
   refine Zw (Zif (by omega)) ⟨some _,rfl,⟨Zcm (by omega) _,fun x=>?_⟩,fun r e=>?_⟩
   ·rw[ZcQ (by omega),Zbl np,Zbl nq]
    have hx0:p.1*(d*y)=(q.2-p.2)+q.1*(d*z):=by
     rw[ed,ea,eb]
     have:(g:Int)*a*(d*y)=g*d*(a*y):=by
      rw[Int.mul_assoc,Int.mul_assoc,Int.mul_left_comm a d y]
     rw[this,hz,Int.mul_add,Int.mul_one]
     congr 1
     rw[Int.mul_assoc,Int.mul_assoc,Int.mul_left_comm d b z]
    constructor
    ·intro h
     have h1:p.1 ∣ x-(p.2+p.1*(d*y)):=Int.dvd_trans (Int.dvd_mul_right _ _) h
     have h2:q.1 ∣ x-(p.2+p.1*(d*y)):=Int.dvd_trans ⟨a,by rw[ea,eb];rw[Int.mul_assoc,Int.mul_assoc,Int.mul_comm a b]⟩ h
     refine⟨?_,?_⟩
     ·have:=Int.dvd_add h1 (Int.dvd_mul_right p.1 (d*y))
      rwa [show x-(p.2+p.1*(d*y))+p.1*(d*y)=x-p.2 by omega]at this
     ·have:=Int.dvd_add h2 (Int.dvd_mul_right q.1 (d*z))
      rwa [show x-(p.2+p.1*(d*y))+q.1*(d*z)=x-q.2 by omega]at this
    ·rintro⟨h1,h2⟩
     have h3:p.1 ∣ x-(p.2+p.1*(d*y)):=by
      have:=Int.dvd_sub h1 (Int.dvd_mul_right p.1 (d*y))
      rwa [show x-p.2-p.1*(d*y)=x-(p.2+p.1*(d*y))by omega]at this
     have h4:q.1 ∣ x-(p.2+p.1*(d*y)):=by
      have:=Int.dvd_sub h2 (Int.dvd_mul_right q.1 (d*z))
      rwa [show x-q.2-q.1*(d*z)=x-(p.2+p.1*(d*y))by omega]at this
     have h5:=Int.lcm_dvd (Int.dvd_natAbs.mpr h3) (Int.dvd_natAbs.mpr h4)
     rw[←hL]at h5
     have h6:(((p.1*b).natAbs:Nat):Int) ∣ (((x-(p.2+p.1*(d*y))).natAbs:Nat):Int):=Int.natCast_dvd_natCast.mpr h5
     exact Int.natAbs_dvd.mp (Int.dvd_natAbs.mp h6)
   ·cases e
    refine .inr (.inr ⟨c1,c2,?_⟩)
    unfold ZaF
    rw[if_neg (by omega)]
    show p.1*b=_
    rw[←hL]
    omega
  ·walk_at "z"
   refine⟨none,rfl,fun x h=>c3 ?_,by simp⟩
   rw[Zbl np,Zbl nq]at h
   have h1:(g:Int) ∣ x-p.2:=Int.dvd_trans ⟨a,ea⟩ h.1
   have h2:(g:Int) ∣ x-q.2:=Int.dvd_trans ⟨b,eb⟩ h.2
   have h3:=Int.dvd_sub h1 h2
   rw[show x-p.2-(x-q.2)=q.2-p.2 by omega]at h3
   exact Int.emod_eq_zero_of_dvd h3
theorem ZjU{a b:Int}(ha:Bd k a)(hb:Bd k b): Bd k ((Int.gcd a b:Nat):Int):=by
 unfold Bd at *
 rw[Int.natAbs_natCast]
 by_cases z:a=0
 ·rw[z,Int.gcd_zero_left];exact hb
 ·exact Nat.lt_of_le_of_lt (Nat.gcd_le_left _ (by omega)) ha
noncomputable def Za8(a b:Option Int): Option Int:=if dec (leO a b)then a else b
noncomputable def addO: Option Int→Option Int→Option Int
 | some a,some b=>some (a+b)
 | _,_=>none
theorem addO_some{b:Option Int}{c:Int}: addO a b=some c↔∃x y,a=some x∧b=some y∧x+y=c:=by
 cases a <;> cases b <;> simp[addO]
theorem leO_total{b:Option Int}(h:¬leO a b): leO b a:=by
 cases a with
 | none=>exact Zi8
 | some x=>
  cases b with
  | none=>exact absurd Zi8 h
  | some y=>rw[leO_some]at h ⊢;omega
theorem Zfe{b:Option Int}: leO (Za8 a b) a:=by
 unfold Za8
 split
 ·exact Zcn
 ·rename_i h;exact leO_total fun q=>h (ZaH q)
theorem Zsc{b:Option Int}: leO (Za8 a b) b:=by
 unfold Za8
 split
 ·rename_i h;exact dec_iff.mp h
 ·exact Zcn
theorem Ze8(a b:Option Int): Za8 a b=a∨Za8 a b=b:=by
 unfold Za8;split <;> simp
theorem Zjt{b:Option Int}(h:leO a b): Za8 a b=a:=by unfold Za8;rw[ZaH h];rfl
theorem Zi0{b c d:Option Int}(h:leO a c)(k:leO b d): leO (addO a b) (addO c d):=by
 intro y e
 obtain⟨p,q,rfl,rfl,rfl⟩:=addO_some.mp e
 obtain⟨p',rfl,l1⟩:=h p rfl
 obtain⟨q',rfl,l2⟩:=k q rfl
 exact⟨p'+q',rfl,by omega⟩
theorem Zsd: addO a (some 0)=a:=by cases a <;> simp[addO]
theorem Zse: addO (some 0) a=a:=by cases a <;> simp[addO]
theorem ZiN{b c:Option Int}: addO (addO a b) c=addO a (addO b c):=by cases a <;> cases b <;> cases c <;> simp[addO,Int.add_assoc]
theorem ZfF{b:Option Int}: ZdM [oT a,oT b]=some (oT (addO a b)):=by
 apply Pk.eq
 unfold ZdM ZmH
 cases a with
 | none=>
  rw[Zcz]
  walk_at "z"
  rfl
 | some x=>
  cases b with
  | none=>
   rw[Zcz,Zbk]
   walk_at "z"
   rfl
  | some y=>
   rw[Zbk,Zbk]
   walk_at "z"
   rfl
theorem Zqz{b:Option Int}: Zg9 [oT a,oT b]=some (oT (Za8 a b)):=by
 apply Pk.eq
 unfold Zg9 ZnR Za8
 walk_at "z"
 refine Zw ZlO ?_
 walk_at "z"
 refine⟨fun e=>?_,fun e=>?_⟩
 ·walk_at "z"
  rw[e];rfl
 ·walk_at "z"
  rw[e];rfl
noncomputable def ZbO(G:Nat→Nat→Option Int)(m:Nat): Nat→Nat→Option Int:=fun i j=>Za8 (G i j) (addO (G i m) (G m j))
theorem ZsT{a b:Nat→Option Int}{c:Option Int}(hn:n<10000): ZhS [Zay n a,oT c,Zay n b]=some (Zay n fun j=>Za8 (a j) (addO c (b j))):=by
 apply Pk.eq
 unfold ZhS Zkp Zay
 walk_at "z"
 refine ZnM (n:=n) (a:=fun j=>oT (a j)) (b:=fun j=>oT (b j)) (c:=fun j=>oT (Za8 (a j) (addO c (b j)))) hn ?_ (fun j hj=>?_) ?_
 ·walk_at "z"
  rfl
 ·walk_at "z"
  refine Zw ZfF ?_
  walk_at "z"
  exact Zw Zqz ⟨Zhm,rfl⟩
 rfl
theorem Zt1(hn:n<10000)(hm:m<n): Zil [Zab n G,.int m]=some (Zab n (ZbO G m)):=by
 apply Pk.eq
 unfold Zil Zl3 Zab
 walk_at "z"
 refine ZbQ (n:=n) (a:=fun i=>Zay n (G i)) (b:=fun i=>Zay n (ZbO G m i)) hn ?_ (fun i hi=>?_) ?_
 ·walk_at "z"
  rfl
 ·have h:Zay n (G i)=.lst (tab n fun j=>oT (G i j)):=rfl
  rw[h]
  walk_at "z"
  rw[←h]
  exact Zw (ZsT hn) rfl
 rfl
def Neg(n:Nat)(G:Nat→Nat→Option Int): Prop:=∃i,i<n∧∃b,G i i=some b∧b<0
theorem Zwu(hn:n≤1000)(hd:∀i,i<n→∃b,G i i=some b): ZhY [Zab n G]=some (.bool (dec (Neg n G))):=by
 apply Pk.eq
 unfold ZhY ZkP Zab Zay
 walk_at "z"
 refine ZbQ (n:=n) (a:=fun i=>.int i) (b:=fun i=>.bool (dec (∃b,G i i=some b∧b<0))) (by omega) ?_ (fun i hi=>?_) ?_
 ·walk_at "z"
  rfl
 ·walk_at "z"
  obtain⟨b,e⟩:=hd i hi
  rw[e,Zbk]
  walk_at "z"
  rw[Zix]
  congr 1
  refine ZgU ⟨fun h=>⟨b,rfl,h⟩,?_⟩
  rintro⟨c,e,h⟩
  cases e
  exact h
 walk_at "z"
 rfl
noncomputable def clG(G:Nat→Nat→Option Int): Nat→Nat→Nat→Option Int
 | 0=>G
 | m+1=>ZbO (clG G m) m
theorem ZqY(h:∃b,G i i=some b): ∃b,ZbO G m i i=some b:=by
 obtain⟨b,e⟩:=h
 have:=Zfe (a:=G i i) (b:=addO (G i m) (G m i))
 rw[e]at this
 obtain⟨c,e2,_⟩:=this b rfl
 exact⟨c,by unfold ZbO;rw[e];exact e2⟩
theorem Zov{n:Nat}{G:Nat→Nat→Option Int}(hd:∀i,i<n→∃b,G i i=some b): ∀m i,i<n→∃b,clG G m i i=some b
 | 0=>hd
 | m+1=>fun i hi=>ZqY (Zov hd m i hi)
theorem Zvw(h0:0<n)(hn:n≤1000)(hd:∀i,i<n→∃b,G i i=some b): Pk (Zha [Zab n G]) fun t=>(t=Zab n (clG G n)∧∀m,m<n→¬Neg n (clG G (m+1)))∨(t=.none∧∃m,m<n∧Neg n (clG G (m+1))):=by
 unfold Zha ZnT
 have hg:Zab n G=.lst (tab n fun i=>Zay n (G i)):=rfl
 walk_at "z"
 refine Zxr (n:=n) (a:=fun i=>.int i) h0 ?_ (P:=fun i σ=>σ 1=some (Zab n (clG G i))∧∀m,m<i→¬Neg n (clG G (m+1))) ⟨rfl,by omega⟩ ?_ ?_
 ·walk_at "z"
  rw[hg]
  walk_at "z"
  rfl
 ·rintro i σ hi ⟨e1,e2⟩
  walk_at "z"
  refine Zw (Zt1 (by omega) hi) ?_
  walk_at "z"
  refine Zw (Zwu hn fun a ha=>ZqY (Zov hd i a ha)) ?_
  walk_at "z"
  refine⟨fun e=>?_,fun e=>?_⟩
  ·walk_at "z"
   exact .inr ⟨rfl,i,hi,dec_iff.mp e⟩
  ·walk_at "z"
   refine⟨by walk_at "r",fun m hm=>?_⟩
   by_cases q:m=i
   ·subst q
    intro h
    have h2:dec (Neg n (ZbO (clG G m) m))=true:=ZaH h
    rw[h2]at e
    cases e
   ·exact e2 m (by omega)
 ·rintro σ ⟨e1,e2⟩
  walk_at "z"
  exact .inl ⟨rfl,e2⟩
theorem Zj6{G:Nat→Nat→Option Int}: ∀m i j,leO (clG G m i j) (G i j)
 | 0=>fun _ _=>Zcn
 | m+1=>fun i j=>Zc3 Zfe (Zj6 m i j)
theorem Zju(hd:∀i,i<n→G i i=some 0)(hn:∀k,k<m→¬Neg n (clG G (k+1))): ∀i,i<n→clG G m i i=some 0:=by
 intro i hi
 obtain⟨b,e⟩:=Zov (fun i hi=>⟨0,hd i hi⟩) m i hi
 have h:=Zj6 m i i (G:=G)
 rw[hd i hi,e]at h
 have h1:=leO_some.mp h
 have h2:¬b<0:=fun q=>by
  cases m with
  | zero=>have:=hd i hi;rw[show clG G 0 i i=G i i from rfl,this]at e;cases e;omega
  | succ m=>exact hn m (by omega) ⟨i,hi,b,e,q⟩
 rw[e,show b=0 by omega]
theorem Zsf{n:Nat}{G:Nat→Nat→Option Int}(hd:∀i,i<n→G i i=some 0): ∀m,m≤n→(∀k,k<m→¬Neg n (clG G (k+1)))→∀k,k<m→∀i j,i<n→j<n→leO (clG G m i j) (addO (clG G m i k) (clG G m k j))
 | 0,_,_,k,hk=>by omega
 | m+1,hm,hn,k,hk=>by
  intro i j hi hj
  have z:=Zju hd (fun k hk=>hn k (by omega):∀k,k<m→_)
  have ih:=Zsf hd m (by omega) (fun k hk=>hn k (by omega))
  generalize hD:clG G m=D at z ih
  have hs:clG G (m+1)=ZbO D m:=by rw[←hD];rfl
  rw[hs]
  have zm:=z m (by omega)
  have cm:∀a,ZbO D m a m=D a m:=fun a=>by unfold ZbO;rw[zm,Zsd];exact Zjt Zcn
  have rm:∀b,ZbO D m m b=D m b:=fun b=>by unfold ZbO;rw[zm,Zse];exact Zjt Zcn
  by_cases q:k=m
  ·subst q
   rw[cm,rm]
   exact Zsc
  ·have hk':k<m:=by omega
   have t1:=ih k hk' i j hi hj
   have t2:=ih k hk' i m hi (by omega)
   have t3:=ih k hk' m j (by omega) hj
   have t4:=ih k hk' m m (by omega) (by omega)
   rw[zm]at t4
   have dn:leO (ZbO D m i j) (addO (D i m) (D m j)):=Zsc
   have d0:leO (ZbO D m i j) (D i j):=Zfe
   rcases Ze8 (D i k) (addO (D i m) (D m k))with e1 | e1 <;> rcases Ze8 (D k j) (addO (D k m) (D m j))with e2 | e2
   ·rw[show ZbO D m i k=_ from e1,show ZbO D m k j=_ from e2]
    exact Zc3 d0 t1
   ·rw[show ZbO D m i k=_ from e1,show ZbO D m k j=_ from e2,←ZiN]
    exact Zc3 dn (Zi0 t2 Zcn)
   ·rw[show ZbO D m i k=_ from e1,show ZbO D m k j=_ from e2,ZiN]
    exact Zc3 dn (Zi0 Zcn t3)
   ·rw[show ZbO D m i k=_ from e1,show ZbO D m k j=_ from e2,ZiN,←ZiN (a:=D m k)]
    refine Zc3 dn (Zi0 Zcn ?_)
    have:=Zi0 t4 (Zcn (a:=D m j))
    rwa [Zse]at this
def ZhI(n:Nat)(G:Nat→Nat→Option Int)(y:Nat→Int): Prop:=∀i j,i<n→j<n→∀b,G i j=some b→y i-y j≤b
theorem Zn4{n:Nat}{G:Nat→Nat→Option Int}{y:Nat→Int}(h:ZhI n G y): ∀m,m≤n→ZhI n (clG G m) y
 | 0,_=>h
 | m+1,hm=>by
  have ih:=Zn4 h m (by omega)
  intro i j hi hj b e
  rcases Ze8 (clG G m i j) (addO (clG G m i m) (clG G m m j))with e1 | e1
  ·rw[show clG G (m+1) i j=_ from e1]at e;exact ih i j hi hj b e
  ·rw[show clG G (m+1) i j=_ from e1]at e
   obtain⟨p,q,h1,h2,h3⟩:=addO_some.mp e
   have:=ih i m hi (by omega) p h1
   have:=ih m j (by omega) hj q h2
   omega
theorem Zvx{y:Nat→Int}(h:ZhI n G y): ¬Neg n G:=by
 rintro⟨i,hi,b,e,hb⟩
 have:=h i i hi hi b e
 omega
theorem Zqd(h:Zaq n G R x): ZhI (n+1) G (Zar x):=fun i j hi hj b e=>h.1 i j hi hj b e
theorem ZnD{k:Int}: ZfC [.int k]=some (.bool true):=by
 apply Pk.eq
 unfold ZfC Zl5
 walk_at "z"
 rfl
theorem ZxA(hn:n≤1000)(hd:∀i,i<n→G i i=some 0): ZiC [Zab n G,.int n]=some (.bool true):=by
 apply Pk.eq
 unfold ZiC ZmK Zab Zay
 walk_at "z"
 refine Zdj (n:=n) (a:=fun i=>.int i) (P:=fun i σ=>σ 0=some (Zab n G)∧σ 1=some (.int n)) ?_ ⟨rfl,rfl⟩ ?_ ?_
 ·walk_at "z"
  rfl
 ·rintro i σ hi ⟨e0,e1⟩
  unfold Zab Zay at e0
  walk_at "z"
  refine Zdj (n:=n) (a:=fun j=>oT (G i j)) (P:=fun j σ=>σ 0=some (Zab n G)∧σ 1=some (.int n)∧σ 2=some (.int i)) ?_ ⟨by walk_at "r",by walk_at "r",by walk_at "r"⟩ ?_ ?_
  ·walk_at "z"
   rfl
  ·rintro j σ hj ⟨f0,f1,f2⟩
   cases G i j with
   | none=>
    rw[Zcz]
    walk_at "z"
    exact⟨by walk_at "r",by walk_at "r",by walk_at "r"⟩
   | some b=>
    rw[Zbk]
    walk_at "z"
    refine Zw ZnD ?_
    walk_at "z"
    exact⟨by walk_at "r",by walk_at "r",by walk_at "r"⟩
  ·rintro σ ⟨f0,f1,f2⟩
   unfold Zab Zay at f0
   walk_at "z"
   rw[hd i hi,Zbk]
   walk_at "z"
   exact⟨by walk_at "r",by walk_at "r"⟩
 ·rintro σ ⟨e0,e1⟩
  walk_at "z"
  rfl
section
variable {Q:T→Prop}
theorem Zi1{p:PE}(h:Pk (p σ) fun t=>∃ts,t=.lst ts∧Q (.lst (ts.drop k))): Pk (ZeA p k σ) Q:=by
 obtain⟨_,e,ts,rfl,q⟩:=h
 exact⟨_,by simp only[ZeA,e,Option.bind_some],q⟩
end
noncomputable abbrev Sp:=Option Int×Option Int
noncomputable def spT(s:Sp): T:=.tup [oT s.1,oT s.2]
def SBd(k:Nat)(s:Sp): Prop:=(∀x,s.1=some x→Bd k x)∧∀x,s.2=some x→Bd k x
theorem ZrC{x:Int}(h:Bd k x): Bd k (Za4 x):=by unfold Za4;unfold Bd at *;split <;> omega
def InS(s:Sp)(x:Int): Prop:=(∀l,s.1=some l→l≤x)∧∀h,s.2=some h→x≤h
theorem Zig{k:Int}(hi:i≤100000)(ha:∀x,a=some x→Bd i x)(hk:Bd i k): Zee [oT a,.int k]=some (oT (a.map fun x=>x*k)):=by
 apply Pk.eq
 unfold Zee Zl8
 cases a with
 | none=>
  simp only[Zcz,Option.map_none]
  walk_at "z"
  rfl
 | some x=>
  simp only[Zbk,Option.map_some]
  walk_at "z"
  refine ZcU (Zdx (ha x rfl) hk (by omega) (by omega)) ?_
  rfl
noncomputable def ZcD(s:Sp)(k:Int): Sp:=if k=0 then(some 0,some 0)else if k<0 then(s.2.map fun x=>x*k,s.1.map fun x=>x*k)else(s.1.map fun x=>x*k,s.2.map fun x=>x*k)
theorem ZsU{s:Sp}{k:Int}(hi:i≤100000)(hs:SBd i s)(hk:Bd i k): ZhT [spT s,.int k]=some (spT (ZcD s k)):=by
 apply Pk.eq
 unfold ZhT Zks ZcD spT
 by_cases c:k=0
 ·walk_at "z"
  rw[if_pos c]
  rfl
 ·rw[if_neg c]
  walk_at "z"
  refine Zw (Zig hi hs.1 hk) ?_
  walk_at "z"
  refine Zw (Zig hi hs.2 hk) ?_
  by_cases d:k<0
  ·walk_at "z"
   rw[if_pos d]
  ·walk_at "z"
   rw[if_neg d]
noncomputable def Zj7(s u:Sp): Sp:=(addO s.1 u.1,addO s.2 u.2)
theorem Zs6{s u:Sp}: ZhZ [spT s,spT u]=some (spT (Zj7 s u)):=by
 apply Pk.eq
 unfold ZhZ ZkS spT
 walk_at "z"
 refine Zw ZfF ?_
 walk_at "z"
 refine Zw ZfF ?_
 walk_at "z"
 rfl
noncomputable def Zce(c:Nat→Int)(S:Nat→Sp): Nat→Sp
 | 0=>(some (c 0),some (c 0))
 | j+1=>Zj7 (Zce c S j) (ZcD (S j) (c (j+1)))
theorem Zn5{f:Nat→T}: (tab (n+1) f).drop 1=tab n fun i=>f (i+1):=by
 apply List.ext_getElem
 ·simp[tab]
 ·intro i h1 h2
  simp[tab]
theorem Ztl{S:Nat→Sp}(hn:n≤100)(hi:i≤100000)(bc:∀j,j<n+1→Bd i (c j))(bS:∀j,j<n→SBd i (S j)): Zh2 [.lst (tab (n+1) fun j=>.int (c j)),.lst (tab n fun j=>spT (S j))]=some (spT (Zce c S n)):=by
 apply Pk.eq
 unfold Zh2 Zk8
 walk_at "z"
 refine Ze7 (n:=n) (a:=fun j=>.int (c (j+1))) (c:=fun j=>spT (S j)) (P:=fun j σ=>σ 2=some (spT (Zce c S j))) ?_ rfl ?_ ?_
 ·refine ZoL ?_
  refine Zi1 ?_
  walk_at "z"
  refine⟨_,rfl,?_⟩
  rw[Zn5]
  walk_at "z"
  rfl
 ·rintro j σ hj e2
  walk_at "z"
  refine Zw (ZsU hi (bS j hj) (bc (j+1) (by omega))) ?_
  walk_at "z"
  refine Zw Zs6 ?_
  walk_at "z"
  exact Zcu
 ·rintro σ e2
  walk_at "z"
  rfl
noncomputable def Za5(c:Nat→Int)(R:Nat→Int×Int): Nat→Int×Int
 | 0=>(0,c 0)
 | j+1=>Zch (Za5 c R j) (ZcC (R j) (c (j+1)))
noncomputable def Zbf(c:Nat→Int)(R:Nat→Int×Int): Nat→Int
 | 0=>0
 | j+1=>Int.gcd (Zbf c R j) (c (j+1)*(R j).1)
noncomputable def ZbP(c:Nat→Int)(R:Nat→Int×Int): Nat→Int
 | 0=>c 0
 | j+1=>ZbP c R j+c (j+1)*(R j).2
theorem ZdA(c:Nat→Int)(R:Nat→Int×Int): ∀j,0≤Zbf c R j
 | 0=>by show(0:Int)≤0;decide
 | j+1=>by show(0:Int)≤((Int.gcd _ _:Nat):Int);omega
theorem Zjv{c:Nat→Int}{R:Nat→Int×Int}{n i:Nat}(bc:∀j,j<n+1→Bd i (c j))(bR:∀j,j<n→RBd i (R j)): ∀j,j≤n→Bd (i+i) (Zbf c R j)
 | 0,_=>Zcd
 | j+1,h=>ZjU (Zjv bc bR j (by omega)) ((bc (j+1) (by omega)).mul (bR j (by omega)).1)
theorem Zow{c:Nat→Int}{R:Nat→Int×Int}{n i:Nat}(bc:∀j,j<n+1→Bd i (c j))(bR:∀j,j<n→RBd i (R j)): ∀j,j≤n→Bd (i+i+j) (ZbP c R j)
 | 0,_=>(bc 0 (by omega)).mono (by omega)
 | j+1,h=>(Zow bc bR j (by omega)).add (((bc (j+1) (by omega)).mul (bR j (by omega)).2).mono (by omega))
theorem ZpE{m a b:Int}(h:0≤m)(hd:m ∣ a-b): ZaF m a=ZaF m b:=by
 refine Zml (Zcm h _) (Zcm h _) fun x=>?_
 rw[ZcQ h,ZcQ h]
 constructor
 ·intro q
  have:=Int.dvd_add q hd
  rwa [show x-a+(a-b)=x-b by omega]at this
 ·intro q
  have:=Int.dvd_sub q hd
  rwa [show x-b-(a-b)=x-a by omega]at this
theorem ZiO{m:Int}(h:0≤m): m ∣ (ZaF m r).2-r:=by
 have:=(ZcQ (r:=r) h (ZaF m r).2).mp (Zcm h r).self
 exact this
theorem Zdu{m:Int}: (ZaF m r).1=m:=by
 unfold ZaF
 split
 ·rename_i h;exact h.symm
 ·rfl
theorem ZcL{c:Nat→Int}{R:Nat→Int×Int}{n:Nat}(ok:∀j,j<n→RestOk (R j)): ∀j,j≤n→Za5 c R j=ZaF (Zbf c R j) (ZbP c R j)
 | 0,_=>rfl
 | j+1,h=>by
  have ih:=ZcL (c:=c) ok j (by omega)
  have h0:=ZdA c R j
  have hr:=(ok j (by omega)).nn
  show Zch (Za5 c R j) (ZcC (R j) (c (j+1)))=_
  rw[ih]
  unfold Zch ZcC
  rw[Zdu,Zdu]
  have hab:0≤(R j).1*Za4 (c (j+1)):=Int.mul_nonneg hr (ZdS _)
  have eg:((Int.gcd (Zbf c R j) ((R j).1*Za4 (c (j+1))):Nat):Int)=Zbf c R (j+1):=by
   show _=((Int.gcd (Zbf c R j) (c (j+1)*(R j).1):Nat):Int)
   congr 1
   unfold Int.gcd
   rw[Int.natAbs_mul,Int.natAbs_mul,Zi9,Nat.mul_comm]
  rw[eg]
  have h1:Zbf c R (j+1) ∣ Zbf c R j:=Int.gcd_dvd_left ..
  have h2:Zbf c R (j+1) ∣ (R j).1*Za4 (c (j+1)):=by rw[←eg];exact Int.gcd_dvd_right ..
  refine ZpE (ZdA _ _ _) ?_
  have a1:=Int.dvd_trans h1 (ZiO (r:=ZbP c R j) h0)
  have a2:=Int.dvd_trans h2 (ZiO (r:=(R j).2*c (j+1)) hab)
  have:=Int.dvd_add a1 a2
  rw[show ZbP c R (j+1)=ZbP c R j+c (j+1)*(R j).2 from rfl,Int.mul_comm (c (j+1))]
  generalize (ZaF (Zbf c R j) (ZbP c R j)).2=u at *
  generalize (ZaF ((R j).1*Za4 (c (j+1))) ((R j).2*c (j+1))).2=v at *
  generalize (R j).2*c (j+1)=z at *
  rwa [show u-ZbP c R j+(v-z)=u+v-(ZbP c R j+z)by omega]at this
theorem Zqe{b:Option Int}: ZfR [oT a,oT b]=some (.bool (dec (∃x y,a=some x∧b=some y∧y<x))):=by
 apply Pk.eq
 unfold ZfR Znl
 cases a with
 | none=>
  rw[Zcz]
  walk_at "z"
  rw[ZaM (by rintro⟨x,y,h,_⟩;cases h)]
 | some x=>
  cases b with
  | none=>
   rw[Zcz,Zbk]
   walk_at "z"
   rw[ZaM (by rintro⟨x,y,_,h,_⟩;cases h)]
  | some y=>
   rw[Zbk,Zbk]
   walk_at "z"
   congr 1
   by_cases h:y<x
   ·rw[ZaH ⟨x,y,rfl,rfl,h⟩];simp[h]
   ·rw[ZaM (by rintro⟨x',y',h1,h2,h3⟩;cases h1;cases h2;exact h h3)];simp[h]
theorem Zvy{s:Sp}{x k:Int}(h:InS s x): InS (ZcD s k) (k*x):=by
 unfold ZcD
 obtain⟨a,b⟩:=s
 by_cases c:k=0
 ·rw[if_pos c,c,Int.zero_mul]
  exact⟨fun l e=>by cases e;omega,fun l e=>by cases e;omega⟩
 ·rw[if_neg c]
  by_cases d:k<0
  ·rw[if_pos d]
   refine⟨fun l e=>?_,fun l e=>?_⟩
   ·cases b with
    | none=>cases e
    | some y=>
     cases e
     have:=h.2 y rfl
     show y*k≤k*x
     rw[Int.mul_comm]
     exact Int.mul_le_mul_of_nonpos_left (a:=k) (by omega) this
   ·cases a with
    | none=>cases e
    | some y=>
     cases e
     have:=h.1 y rfl
     show k*x≤y*k
     rw[Int.mul_comm y]
     exact Int.mul_le_mul_of_nonpos_left (a:=k) (by omega) this
  ·rw[if_neg d]
   refine⟨fun l e=>?_,fun l e=>?_⟩
   ·cases a with
    | none=>cases e
    | some y=>
     cases e
     have:=h.1 y rfl
     show y*k≤k*x
     rw[Int.mul_comm]
     exact Int.mul_le_mul_of_nonneg_left this (show 0≤k by omega)
   ·cases b with
    | none=>cases e
    | some y=>
     cases e
     have:=h.2 y rfl
     show k*x≤y*k
     rw[Int.mul_comm y]
     exact Int.mul_le_mul_of_nonneg_left this (show 0≤k by omega)
theorem Zwv{s u:Sp}{x:Int}(h:InS s x)(k:InS u y): InS (Zj7 s u) (x+y):=by
 refine⟨fun l e=>?_,fun l e=>?_⟩
 ·obtain⟨a,b,h1,h2,rfl⟩:=addO_some.mp e
  have:=h.1 a h1
  have:=k.1 b h2
  omega
 ·obtain⟨a,b,h1,h2,rfl⟩:=addO_some.mp e
  have:=h.2 a h1
  have:=k.2 b h2
  omega
noncomputable def Zag(R:Nat→Int×Int): Nat→Int×Int:=cn (0,0) R
theorem Zzu(R:Nat→Int×Int): cn (T.tup [.int 0,.int 0]) (fun i=>Z1 (R i))=fun i=>Z1 (Zag R i):=by
 funext i;cases i <;> rfl
theorem Zps(hn:n<9000): Zfw [ZbD n R]=some (ZbD (n+1) (Zag R)):=by
 apply Pk.eq
 unfold Zfw Zla ZbD
 walk_at "z"
 rw[Zzu]
def RB(M:Int)(k:Nat)(q:Int×Int): Prop:=RestOk q∧(q.1=0∨q.1 ∣ M)∧Bd k q.2
theorem RB.mono(h:RB M i q)(hij:i≤j): RB M j q:=⟨h.1,h.2.1,h.2.2.mono hij⟩
theorem RB.bd(hM:0<M)(bM:Bd k M)(h:RB M k q): RBd k q:=by
 refine⟨?_,h.2.2⟩
 rcases h.2.1 with e | e
 ·rw[e];exact Zcd
 ·exact ZeC bM h.1.nn (Int.le_of_dvd hM e)
theorem Zel(h:∀t,t<n→RB M k (R t)): ∀i,i<n+1→RB M k (Zag R i)
 | 0,_=>⟨.inl rfl,.inl rfl,Zcd⟩
 | i+1,hi=>h i (by omega)
def Ze9(n:Nat)(G:Nat→Nat→Option Int)(R:Nat→Int×Int)(i:Nat)(m:Nat)(x:Int): Prop:=Zan (Zag R i) x∧∀j,j<m→∀a b,G i j=some a→G j i=some b→a+b=0→Zan (Zag R j) (x-a)
def ZjV(n:Nat)(G:Nat→Nat→Option Int)(R:Nat→Int×Int)(M:Int)(k:Nat)(i m:Nat)(o:Option (Int×Int)): Prop:=match o with
 | none=>∀x,¬Ze9 n G R i m x
 | some q=>RB M k q∧∀x,Zan q x↔Ze9 n G R i m x
theorem Zum(h:RestOk q)(a x:Int): Zan (Zch q (0,a)) x↔Zan q (x-a):=by
 unfold Zch
 rw[ZcQ (by omega),Zbl h.nn]
 simp only[Int.gcd_zero_right]
 rw[Int.natAbs_of_nonneg h.nn,show x-(q.2+a)=x-a-q.2 by omega]
theorem Zs7(hn:n≤100)(hi:i<n+1)(hk:k≤7000)(hM:0<M)(bM:Bd k M)(bG:∀a b c,a<n+1→b<n+1→G a b=some c→Bd k c)(hR:∀t,t<n→RB M k (R t)): Pk (ZeI [Zab (n+1) G,ZbD (n+1) (Zag R),.int i]) fun t=>∃o,t=oR o∧ZjV n G R M (k+1) i (n+1) o:=by
 unfold ZeI ZkU
 have hF:=Zel hR
 have bM1:Bd (k+1) M:=bM.mono (by omega)
 have hr:ZbD (n+1) (Zag R)=.lst (tab (n+1) fun i=>Z1 (Zag R i)):=rfl
 rw[hr]
 walk_at "z"
 refine Ze7 (n:=n+1) (a:=fun j=>.int j) (c:=fun j=>Z1 (Zag R j)) (P:=fun m σ=>∃o,σ 0=some (Zab (n+1) G)∧σ 1=some (.lst (tab (n+1) fun i=>Z1 (Zag R i)))∧σ 2=some (.int i)∧σ 3=some (oR o)∧ZjV n G R M (k+1) i m o) ?_ ⟨some (Zag R i),by walk_at "r",by walk_at "r",by walk_at "r",by walk_at "r",(hF i hi).mono (by omega),fun x=>⟨fun h=>⟨h,by omega⟩,fun h=>h.1⟩⟩ ?_ ?_
 ·walk_at "z"
  rfl
 ·rintro j σ hj ⟨o,e0,e1,e2,e3,ho⟩
  unfold Zab Zay at e0
  cases o with
  | none=>
   have e3':σ 3=some .none:=e3
   clear e3
   walk_at "z"
   refine⟨none,by walk_at "r",by walk_at "r",by walk_at "r",by walk_at "r",fun x h=>ho x ⟨h.1,fun j' hj'=>h.2 j' (by omega)⟩⟩
  | some q=>
   have e3':σ 3=some (.tup [.int q.1,.int q.2]):=e3
   clear e3
   walk_at "z"
   refine Zw ZfF ?_
   walk_at "z"
   refine Zb8 (ZsB (n:=0)) (.int (n:=0)) ?_
   walk_at "z"
   have stay:(∀a b,G i j=some a→G j i=some b→¬a+b=0)→ZjV n G R M (k+1) i (j+1) (some q):=fun h=>⟨ho.1,fun x=>(ho.2 x).trans ⟨fun hx=>⟨hx.1,fun j' hj' a b ha hb hab=>by
     by_cases q':j'=j
     ·subst q';exact absurd hab (h a b ha hb)
     ·exact hx.2 j' (by omega) a b ha hb hab⟩,fun hx=>⟨hx.1,fun j' hj'=>hx.2 j' (by omega)⟩⟩⟩
   refine⟨fun e=>?_,fun e=>?_⟩
   ·have e':=dec_iff.mp e
    rw[←Zbk,ZyI]at e'
    obtain⟨a,b,ha,hb,hab⟩:=addO_some.mp e'
    walk_at "z"
    rw[ha,Zbk]
    have hj2:=hF j hj
    have ba:=bG i j a hi hj ha
    refine Zw (ZlP (p:=Zag R j) (q:=(0,a)) (k:=k) (by omega) (hj2.bd hM bM).1 Zcd) ?_
    have hpl:RB M (k+1) (Zch (Zag R j) (0,a)):=by
     refine⟨Zn3 _ _,?_,?_⟩
     ·unfold Zch ZaF
      simp only[Int.gcd_zero_right]
      rw[Int.natAbs_of_nonneg hj2.1.nn]
      split
      ·exact .inl rfl
      ·exact hj2.2.1
     ·have hm:=(hj2.bd hM bM).1
      refine(Zg0 (k:=k+1) (by omega) ?_ (Bd.add hj2.2.2 ba)).2
      simp only[Int.gcd_zero_right]
      rw[Int.natAbs_of_nonneg hj2.1.nn]
      exact hm.mono (by omega)
    walk_at "z"
    refine(Zit (p:=q) (q:=Zch (Zag R j) (0,a)) (k:=k+1) (by omega) ho.1.1 hpl.1 (ho.1.bd hM bM1) (hpl.bd hM bM1)).mono ?_
    rintro _ ⟨o',rfl,mt,wh⟩
    refine⟨o',by walk_at "r",by walk_at "r",by walk_at "r",by walk_at "r",?_⟩
    have hset:∀x,(Zan q x∧Zan (Zch (Zag R j) (0,a)) x)↔Ze9 n G R i (j+1) x:=fun x=>by
     rw[ho.2 x,Zum hj2.1]
     constructor
     ·rintro⟨h1,h2⟩
      refine⟨h1.1,fun j' hj' c d hc hd hcd=>?_⟩
      by_cases q':j'=j
      ·subst q';rw[ha]at hc;cases hc;exact h2
      ·exact h1.2 j' (by omega) c d hc hd hcd
     ·intro h
      exact⟨⟨h.1,fun j' hj'=>h.2 j' (by omega)⟩,h.2 j (by omega) a b ha hb hab⟩
    cases o' with
    | none=>exact fun x hx=>mt x ((hset x).mpr hx)
    | some r=>
     refine⟨⟨mt.1,?_,?_⟩,fun x=>(mt.2 x).trans (hset x)⟩
     ·rcases wh r rfl with h | h | ⟨h1,h2,h3⟩
      ·rw[h];exact ho.1.2.1
      ·rw[h];exact hpl.2.1
      ·right
       rw[h3]
       exact Int.coe_lcm_dvd (ho.1.2.1.resolve_left h1) (hpl.2.1.resolve_left h2)
     ·rcases wh r rfl with h | h | ⟨h1,h2,h3⟩
      ·rw[h];exact ho.1.2.2
      ·rw[h];exact hpl.2.2
      ·rcases mt.1 with z | z
       ·have:(Int.lcm q.1 (Zch (Zag R j) (0,a)).1)≠0:=Int.lcm_ne_zero h1 h2
        omega
       ·have hd:r.1 ∣ M:=by
         rw[h3]
         exact Int.coe_lcm_dvd (ho.1.2.1.resolve_left h1) (hpl.2.1.resolve_left h2)
        exact ZeC bM1 z.2.1 (by have:=Int.le_of_dvd hM hd;omega)
   ·walk_at "z"
    refine⟨some q,by walk_at "r",by walk_at "r",by walk_at "r",by walk_at "r",stay fun a b ha hb hab=>?_⟩
    have:dec (oT (addO (G i j) (G j i))=.int 0)=true:=ZaH (by rw[ha,hb];simp[addO,oT,hab])
    rw[this]at e
    cases e
 ·rintro σ ⟨o,e0,e1,e2,e3,ho⟩
  walk_at "z"
  exact⟨o,rfl,ho⟩
theorem ZyP: Zcs 1 1 1=some []:=by
 unfold Zcs
 rw[if_pos (by decide +kernel)]
 rfl
theorem Zo6: Pln 1 (oR o):=by
 cases o with
 | none=>exact .none
 | some q=>exact ZjK
theorem oR_none: oR o=.none↔o=none:=by cases o <;> simp[oR,Z1]
def Hand(n:Nat)(G:Nat→Nat→Option Int)(R R':Nat→Int×Int)(M:Int)(k:Nat): Prop:=∀t,t<n→RB M k (R' t)∧∀x,Zan (R' t) x↔Ze9 n G R (t+1) (n+1) x
theorem Ztm(hn:n≤100)(hk:k≤7000)(hM:0<M)(bM:Bd k M)(bG:∀a b c,a<n+1→b<n+1→G a b=some c→Bd k c)(hR:∀t,t<n→RB M k (R t)): Pk (ZdJ [ZH n G R]) fun t=>(∃R',t=ZH n G R'∧Hand n G R R' M (k+1))∨(t=.none∧∃i,i<n∧∀x,¬Ze9 n G R (i+1) (n+1) x):=by
 unfold ZdJ Zgv
 have ht:ZH n G R=.tup [Zab (n+1) G,ZbD n R]:=rfl
 rw[ht]
 walk_at "z"
 refine Zw (Zps (by omega)) ?_
 have hr:ZbD (n+1) (Zag R)=.lst (tab (n+1) fun i=>Z1 (Zag R i)):=rfl
 walk_at "z"
 refine Zqy oR (fun t o=>ZjV n G R M (k+1) (t+1) (n+1) o) (n:=n) (a:=fun i=>.int (i+1)) (by omega) ?_ (fun t ht=>?_) none (fun y hy=>?_)
 ·by_cases h0:n=0
  ·subst h0
   exact⟨[],Zhl (a:=1) (b:=1) rfl ZyP,rfl⟩
  ·rw[hr]
   walk_at "z"
   refine Rn.two 1 n (by decide) (by omega) (by omega) (by omega) ?_
   refine Zbz fun i _=>?_
   congr 1
   omega
 ·walk_at "z"
  refine(Zs7 (i:=t+1) hn (by omega) hk hM bM bG hR).mono ?_
  rintro _ ⟨o,rfl,ho⟩
  exact⟨o,rfl,ho⟩
 ·walk_at "z"
  refine Zj3 (.none (n:=0)) (Zet (n:=1) fun i _=>Zo6) ?_
  by_cases hc:∃i,i<n∧y i=none
  ·obtain⟨i,hi,ei⟩:=hc
   rw[ZaH (show T.none∈tab n fun i=>oR (y i)from List.mem_of_getElem? (i:=i) (by rw[Zbc hi,ei];rfl))]
   walk_at "z"
   refine .inr ⟨rfl,i,hi,?_⟩
   have:=hy i hi
   rw[ei]at this
   exact this
  ·rw[ZaM (show ¬T.none∈tab n fun i=>oR (y i)from fun h=>by
    obtain⟨i,hi,e⟩:=ZcR h
    exact hc ⟨i,hi,oR_none.mp e.symm⟩)]
   walk_at "z"
   have hs:∀i,i<n→y i=some ((y i).getD (1,0)):=fun i hi=>by
    cases e:y i with
    | none=>exact absurd ⟨i,hi,e⟩ hc
    | some q=>rfl
   refine .inl ⟨fun i=>(y i).getD (1,0),?_,fun t ht=>?_⟩
   ·unfold ZH ZbD
    congr 4
    refine Zbz fun i hi=>?_
    conv=>lhs;rw[hs i hi]
    rfl
   ·have:=hy t ht
    rw[hs t ht]at this
    exact this
theorem Zpk: ZdJ [.none]=some .none:=by
 apply Pk.eq
 unfold ZdJ Zgv
 walk_at "z"
 rfl
noncomputable def Zby(R:Nat→Int×Int)(i j:Nat): Int×Int:=Zch (Zag R i) (ZcC (Zag R j) (-1))
noncomputable def Zcl(b:Option Int)(q:Int×Int): Option Int:=match b with
 | some b=>Zex q b
 | none=>if q.1=0 then some q.2 else none
noncomputable def Zbr(G:Nat→Nat→Option Int)(R:Nat→Int×Int): Nat→Nat→Option Int:=fun i j=>Zcl (G i j) (Zby R i j)
def Zf4(n:Nat)(G:Nat→Nat→Option Int)(R:Nat→Int×Int): Prop:=∃i j,i<n+1∧j<n+1∧∃b,G i j=some b∧Zbr G R i j=none
theorem ZsV{b:Option Int}(hq:0≤q.1): ZhU [oT b,Z1 q]=some (oT (Zcl b q)):=by
 apply Pk.eq
 unfold ZhU Zkv Zcl
 cases b with
 | none=>
  have ep:Z1 q=.tup [.int q.1,.int q.2]:=rfl
  rw[Zcz,ep]
  by_cases c:q.1=0
  ·walk_at "z"
   simp[c,oT]
  ·walk_at "z"
   simp[c,oT]
 | some b=>
  rw[Zbk]
  walk_at "z"
  exact Zw (ZtG hq) rfl
theorem Ztn{b:Nat→Option Int}(hn:n≤100)(hi:i<n+1)(hk:k≤7000)(hM:0<M)(bM:Bd k M)(hR:∀t,t<n→RB M k (R t)): Pk (Zh3 [Zay (n+1) b,Z1 (Zag R i),ZbD (n+1) (Zag R)]) fun t=>(t=Zay (n+1) (fun j=>Zcl (b j) (Zby R i j))∧∀j,j<n+1→∀c,b j=some c→Zcl (b j) (Zby R i j)≠none)∨(t=.none∧∃j,j<n+1∧∃c,b j=some c∧Zcl (b j) (Zby R i j)=none):=by
 unfold Zh3 Zle
 have hF:=Zel hR
 have hb:Zay (n+1) b=.lst (tab (n+1) fun j=>oT (b j)):=rfl
 have hr:ZbD (n+1) (Zag R)=.lst (tab (n+1) fun i=>Z1 (Zag R i)):=rfl
 rw[hb,hr]
 walk_at "z"
 refine Ze7 (n:=n+1) (a:=fun j=>oT (b j)) (c:=fun j=>Z1 (Zag R j)) (P:=fun m σ=>σ 1=some (Z1 (Zag R i))∧σ 3=some (.lst (tab m fun j=>oT (Zcl (b j) (Zby R i j))))∧∀j,j<m→∀c,b j=some c→Zcl (b j) (Zby R i j)≠none) ?_ ⟨by walk_at "r",by walk_at "r",by omega⟩ ?_ ?_
 ·walk_at "z"
  rfl
 ·rintro j σ hj ⟨e1,e3,st⟩
  have h1:=hF i hi
  have h2:=hF j hj
  have b1:=h1.bd hM bM
  have b2:=h2.bd hM bM
  have bt:Bd (k+1) (ZcC (Zag R j) (-1)).1:=by
   refine(Zg0 (k:=k+1) (Int.mul_nonneg h2.1.nn (ZdS _)) ?_ ?_).1
   ·have:=Bd.mul b2.1 (show Bd 1 (Za4 (-1))by unfold Bd;decide);exact this
   ·have:=Bd.mul b2.2 (show Bd 1 (-1)by unfold Bd;decide);exact this
  walk_at "z"
  refine Zw (Zls (p:=Zag R j) (c:=-1) (k:=k+1) (by omega) h2.1.nn ⟨b2.1.mono (by omega),b2.2.mono (by omega)⟩ (show Bd (k+1) (-1)from(show Bd 1 (-1)by unfold Bd;decide).mono (by omega))) ?_
  walk_at "z"
  refine Zw (ZlP (k:=k+1) (by omega) (b1.1.mono (by omega)) bt) ?_
  walk_at "z"
  refine Zw (ZsV (Zn3 _ _).nn) ?_
  have hd:Zch (Zag R i) (ZcC (Zag R j) (-1))=Zby R i j:=rfl
  rw[hd]
  walk_at "z"
  have app:∀w,w=oT (Zcl (b j) (Zby R i j))→tab j (fun j=>oT (Zcl (b j) (Zby R i j)))++[w]=tab (j+1) fun j=>oT (Zcl (b j) (Zby R i j)):=fun w e=>by rw[e];exact ZdQ
  cases hl:Zcl (b j) (Zby R i j)with
  | none=>
   rw[Zcz]
   walk_at "z"
   cases hbj:b j with
   | none=>
    rw[Zcz]
    walk_at "z"
    rw[app _ (by rw[hl];rfl)]
    refine⟨by walk_at "r",by walk_at "r",fun j' hj' c hc=>?_⟩
    by_cases q:j'=j
    ·subst q;rw[hbj]at hc;cases hc
    ·exact st j' (by omega) c hc
   | some c=>
    rw[Zbk]
    walk_at "z"
    exact .inr ⟨rfl,j,hj,c,hbj,hl⟩
  | some v=>
   rw[Zbk]
   walk_at "z"
   rw[app _ (by rw[hl];rfl)]
   refine⟨by walk_at "r",by walk_at "r",fun j' hj' c hc=>?_⟩
   by_cases q:j'=j
   ·subst q;rw[hl];simp
   ·exact st j' (by omega) c hc
 ·rintro σ ⟨e1,e3,st⟩
  walk_at "z"
  exact .inl ⟨rfl,st⟩
noncomputable def Zgm(n:Nat): Option (Nat→Option Int)→T
 | none=>.none
 | some b=>Zay n b
theorem ZxB{o:Option (Nat→Option Int)}: Pln 1 (Zgm n o):=by
 cases o with
 | none=>exact .none
 | some q=>exact Zrr
theorem ZuP{g:PG}{a b:Nat→T}{f:PE}(e:β→T)(P:Nat→β→Prop)(hn:n<10000)(hg:Pl (g σ) fun ts=>ts=tab n fun i=>.tup [a i,b i])(hf:∀i,i<n→Pk (f (Z8 (Z8 σ j (a i)) k (b i))) fun t=>∃y,t=e y∧P i y)(d:β)(h:∀y:Nat→β,(∀i,i<n→P i (y i))→Q (.lst (tab n fun i=>e (y i)))): Pk (Zau g (Zcr j k) Zal f σ) Q:=by
 have hc:∃y:Nat→β,∀i,i<n→Pk (f (Z8 (Z8 σ j (a i)) k (b i))) (fun t=>t=e (y i))∧P i (y i):=by
  have hx:∀i,∃y:β,i<n→Pk (f (Z8 (Z8 σ j (a i)) k (b i))) (fun t=>t=e y)∧P i y:=fun i=>by
   by_cases q:i<n
   ·obtain⟨t,e1,y,e2,p⟩:=hf i q
    exact⟨y,fun _=>⟨⟨t,e1,e2⟩,p⟩⟩
   ·exact⟨d,fun h=>absurd h q⟩
  exact⟨fun i=>Classical.choose (hx i),fun i=>Classical.choose_spec (hx i)⟩
 obtain⟨y,hy⟩:=hc
 exact ZnM hn hg (fun i hi=>(hy i hi).1) (h y fun i hi=>(hy i hi).2)
theorem oRow_none{o:Option (Nat→Option Int)}: Zgm n o=.none↔o=none:=by cases o <;> simp[Zgm,Zay]
theorem ZuQ(hn:n≤100)(hk:k≤7000)(hM:0<M)(bM:Bd k M)(hR:∀t,t<n→RB M k (R t)): Pk (ZfS [ZH n G R]) fun t=>(t=ZH n (Zbr G R) R∧¬Zf4 n G R)∨(t=.none∧Zf4 n G R):=by
 unfold ZfS ZiX
 have ht:ZH n G R=.tup [.lst (tab (n+1) fun i=>Zay (n+1) (G i)),ZbD n R]:=rfl
 rw[ht]
 walk_at "z"
 refine Zw (Zps (by omega)) ?_
 have hr:ZbD (n+1) (Zag R)=.lst (tab (n+1) fun i=>Z1 (Zag R i)):=rfl
 walk_at "z"
 refine ZuP (Zgm (n+1)) (fun i o=>match o with
  | none=>∃j,j<n+1∧∃c,G i j=some c∧Zbr G R i j=none
  | some b=>b=Zbr G R i∧∀j,j<n+1→∀c,G i j=some c→Zbr G R i j≠none) (n:=n+1) (a:=fun i=>Zay (n+1) (G i)) (b:=fun i=>Z1 (Zag R i)) (by omega) ?_ (fun i hi=>?_) none (fun y hy=>?_)
 ·rw[hr]
  walk_at "z"
  rfl
 ·walk_at "z"
  refine(Ztn hn hi hk hM bM hR).mono ?_
  rintro t (⟨rfl,h⟩ | ⟨rfl,h⟩)
  ·exact⟨some (Zbr G R i),rfl,rfl,h⟩
  ·exact⟨none,rfl,h⟩
 ·walk_at "z"
  refine Zj3 (.none (n:=0)) (Zet (n:=1) fun i _=>ZxB) ?_
  by_cases hc:∃i,i<n+1∧y i=none
  ·obtain⟨i,hi,ei⟩:=hc
   rw[ZaH (show T.none∈tab (n+1) fun i=>Zgm (n+1) (y i)from List.mem_of_getElem? (i:=i) (by rw[Zbc hi,ei];rfl))]
   walk_at "z"
   have:=hy i hi
   rw[ei]at this
   obtain⟨j,hj,c,h1,h2⟩:=this
   exact .inr ⟨rfl,i,j,hi,hj,c,h1,h2⟩
  ·rw[ZaM (show ¬T.none∈tab (n+1) fun i=>Zgm (n+1) (y i)from fun h=>by
    obtain⟨i,hi,e⟩:=ZcR h
    exact hc ⟨i,hi,oRow_none.mp e.symm⟩)]
   walk_at "z"
   have hs:∀i,i<n+1→y i=some (Zbr G R i)∧∀j,j<n+1→∀c,G i j=some c→Zbr G R i j≠none:=fun i hi=>by
    have:=hy i hi
    cases e:y i with
    | none=>exact absurd ⟨i,hi,e⟩ hc
    | some b=>rw[e]at this;exact⟨by rw[this.1],this.2⟩
   refine .inl ⟨?_,?_⟩
   ·unfold ZH Zab
    congr 3
    refine Zbz fun i hi=>?_
    rw[(hs i hi).1]
    rfl
   ·rintro⟨i,j,hi,hj,c,h1,h2⟩
    exact(hs i hi).2 j hj c h1 h2
theorem ZpF: ZfS [.none]=some .none:=by
 apply Pk.eq
 unfold ZfS ZiX
 walk_at "z"
 rfl
theorem Zvz: Zew [.none]=some .none:=by
 apply Pk.eq
 unfold Zew ZjP
 walk_at "z"
 rfl
def Zc1(n:Nat)(G:Nat→Nat→Option Int): Prop:=∃m,m<n∧Neg n (clG G (m+1))
theorem ZxC(hn:n≤100)(hd:∀i,i<n+1→G i i=some 0): Pk (Zew [ZH n G R]) fun t=>(t=ZH n (clG G (n+1)) R∧¬Zc1 (n+1) G)∨(t=.none∧Zc1 (n+1) G):=by
 unfold Zew ZjP
 have ht:ZH n G R=.tup [Zab (n+1) G,ZbD n R]:=rfl
 rw[ht]
 walk_at "z"
 refine(Zvw (n:=n+1) (by omega) (by omega) fun i hi=>⟨0,hd i hi⟩).mono ?_
 rintro t (⟨rfl,h⟩ | ⟨rfl,h⟩)
 ·have hg:Zab (n+1) (clG G (n+1))=.lst (tab (n+1) fun i=>Zay (n+1) (clG G (n+1) i)):=rfl
  rw[hg]
  walk_at "z"
  exact .inl ⟨rfl,fun⟨m,hm,q⟩=>h m hm q⟩
 ·walk_at "z"
  exact .inr ⟨rfl,h⟩
def BdG(n k:Nat)(G:Nat→Nat→Option Int): Prop:=∀a b c,a<n→b<n→G a b=some c→Bd k c
theorem ZhJ{n k:Nat}{G:Nat→Nat→Option Int}(h:BdG n k G): ∀m,m≤n→BdG n (k+m) (clG G m)
 | 0,_=>h
 | m+1,hm=>fun a b c ha hb e=>by
  have ih:=ZhJ h m (by omega)
  rcases Ze8 (clG G m a b) (addO (clG G m a m) (clG G m m b))with e1 | e1
  ·rw[show clG G (m+1) a b=_ from e1]at e
   exact(ih a b c ha hb e).mono (by omega)
  ·rw[show clG G (m+1) a b=_ from e1]at e
   obtain⟨p,q,h1,h2,rfl⟩:=addO_some.mp e
   exact Bd.add (ih a m p ha (by omega) h1) (ih m b q (by omega) hb h2)
theorem Zqf(h:RestOk q): ZcC q (-1)=ZaF q.1 (-q.2):=by
 unfold ZcC
 rw[show Za4 (-1)=1 from rfl,Int.mul_one,Int.mul_neg,Int.mul_one]
theorem Zm6{m:Int}: (ZaF m r).1=m:=by
 unfold ZaF;split
 ·rename_i c;exact c.symm
 ·rfl
theorem Zja(hi:RestOk (Zag R i))(hj:RestOk (Zag R j))(x:Int): Zan (Zby R i j) x↔((Int.gcd (Zag R i).1 (Zag R j).1:Nat):Int) ∣ x-((Zag R i).2-(Zag R j).2):=by
 unfold Zby Zch
 rw[ZcQ (by omega),Zqf hj,Zm6]
 have hr:=ZcQ hj.nn (r:=-(Zag R j).2) (ZaF (Zag R j).1 (-(Zag R j).2)).2
 have hs:=(hr.mp (Zcm hj.nn _).self)
 generalize (ZaF (Zag R j).1 (-(Zag R j).2)).2=s at *
 have hg:((Int.gcd (Zag R i).1 (Zag R j).1:Nat):Int) ∣ s - -(Zag R j).2:=Int.dvd_trans (Int.gcd_dvd_right ..) hs
 constructor
 ·intro h
  have:=Int.dvd_add h hg
  rwa [show x-((Zag R i).2+s)+(s - -(Zag R j).2)=x-((Zag R i).2-(Zag R j).2)by omega]at this
 ·intro h
  have:=Int.dvd_sub h hg
  rwa [show x-((Zag R i).2-(Zag R j).2)-(s - -(Zag R j).2)=x-((Zag R i).2+s)by omega]at this
theorem ZnE{b c:Int}(h0:RestOk q)(h:Zex q b=some c): c≤b∧Zan q c∧(q.1=0∨b-c<q.1):=by
 unfold Zex at h
 split at h
 ·rename_i z
  split at h
  ·cases h
   exact⟨by assumption,h0.self,.inl z⟩
  ·cases h
 ·rename_i z
  cases h
  have hp:0<q.1:=by have:=h0.nn;omega
  have h1:=Int.emod_nonneg (b-q.2) z
  have h2:=Int.emod_lt_of_pos (b-q.2) hp
  refine⟨by omega,?_,.inr (by omega)⟩
  rw[Zbl h0.nn]
  have h3:=Int.emod_add_mul_ediv (b-q.2) q.1
  exact⟨(b-q.2) / q.1,by omega⟩
theorem Zm7{b x:Int}(h0:RestOk q)(hx:Zan q x)(hb:x≤b): ∃c,Zex q b=some c∧x≤c:=by
 unfold Zex
 rw[Zbl h0.nn]at hx
 split
 ·rename_i z
  rw[z,Int.zero_dvd]at hx
  rw[if_pos (by omega)]
  exact⟨_,rfl,by omega⟩
 ·rename_i z
  have hp:0<q.1:=by have:=h0.nn;omega
  refine⟨_,rfl,?_⟩
  obtain⟨t,ht⟩:=hx
  have h3:=Int.emod_add_mul_ediv (b-q.2) q.1
  have h2:=Int.emod_lt_of_pos (b-q.2) hp
  have h4:t≤(b-q.2) / q.1:=Int.le_ediv_of_mul_le hp (by rw[Int.mul_comm];omega)
  have h5:q.1*t≤q.1*((b-q.2) / q.1):=Int.mul_le_mul_of_nonneg_left h4 (by omega)
  omega
theorem Zeo(R:Nat→Int×Int)(i j:Nat): RestOk (Zby R i j):=Zn3 _ _
theorem ZxD(h:∀b,G i j=some b→Zbr G R i j≠none): leO (Zbr G R i j) (G i j):=by
 intro b e
 have hn:=h b e
 unfold Zbr at hn ⊢
 rw[e]at hn ⊢
 cases hc:Zcl (some b) (Zby R i j)with
 | none=>exact absurd hc hn
 | some c=>exact⟨c,rfl,(ZnE (Zeo R i j) hc).1⟩
theorem Zsg(hM:0<M)(bM:Bd k M)(hG:BdG (n+1) k G)(hR:∀t,t<n→RB M k (R t)): BdG (n+1) (k+1) (Zbr G R):=by
 intro i j c hi hj e
 have h1:=Zel hR i hi
 have h2:=Zel hR j hj
 have hd1:(Zby R i j).1=((Int.gcd (Zag R i).1 (Zag R j).1:Nat):Int):=by
  unfold Zby Zch
  rw[Zm6,Zqf h2.1,Zm6]
 have hb1:=(h1.bd hM bM).1
 have hb2:=(h2.bd hM bM).1
 have hm:Bd k (Zby R i j).1:=by
  rw[hd1]
  by_cases z:(Zag R i).1=0
  ·rw[z,Int.gcd_zero_left]
   unfold Bd at *
   simpa using hb2
  ·have:=Int.gcd_le_natAbs_left (b:=(Zag R j).1) z
   unfold Bd at *
   simp only[Int.natAbs_natCast]
   omega
 unfold Zbr Zcl at e
 cases hg:G i j with
 | some b=>
  rw[hg]at e
  obtain⟨u1,u2,u3⟩:=ZnE (Zeo R i j) e
  have hbb:=hG i j b hi hj hg
  rcases u3 with z | z
  ·have hx:=(Zja h1.1 h2.1 c).mp u2
   rw[hd1]at z
   rw[z,Int.zero_dvd]at hx
   have:c=(Zag R i).2-(Zag R j).2:=by omega
   rw[this]
   exact Bd.sub h1.2.2 h2.2.2
  ·unfold Bd at *
   rw[Nat.pow_succ]
   omega
 | none=>
  rw[hg]at e
  simp only at e
  split at e
  ·rename_i z
   cases e
   have hx:=(Zja h1.1 h2.1 (Zby R i j).2).mp (Zeo R i j).self
   rw[hd1]at z
   rw[z,Int.zero_dvd]at hx
   have:(Zby R i j).2=(Zag R i).2-(Zag R j).2:=by omega
   rw[this]
   exact Bd.sub h1.2.2 h2.2.2
  ·cases e
def Zjb(n:Nat)(C:Nat→Nat→Option Int)(R:Nat→Int×Int): Prop:=∃i,i<n∧∀x,¬Ze9 n C R (i+1) (n+1) x
theorem ZrD(h:Pk (ZZ 1 ZjQ ts) fun t=>Zho t=true∧Q t): Pk (Zfb ts) Q:=by
 obtain⟨t,e,o,q⟩:=h
 exact⟨t,by simp only[Zfb,e,Option.bind_some,o,if_true],q⟩
theorem ZxE: Zho (ZH n G R)=true:=Zqq fun _ _=>Zg7
theorem ZrE(hn:n≤100)(hk:k+n+1≤7000)(hM:0<M)(bM:Bd k M)(hd:∀i,i<n+1→G i i=some 0)(bG:BdG (n+1) k G)(hR:∀t,t<n→RB M k (R t)): Pk (Zfb [ZH n G R]) fun t=>(∃R',t=ZH n (clG G (n+1)) R'∧¬Zc1 (n+1) G∧Hand n (clG G (n+1)) R R' M (k+n+2))∨(t=.none∧(Zc1 (n+1) G∨(¬Zc1 (n+1) G∧Zjb n (clG G (n+1)) R))):=by
 refine ZrD ?_
 unfold ZjQ
 walk_at "z"
 refine(ZxC hn hd).mono ?_
 rintro t (⟨rfl,h⟩ | ⟨rfl,h⟩)
 ·walk_at "z"
  refine(Ztm (k:=k+n+1) hn hk hM (bM.mono (by omega)) (ZhJ bG (n+1) (by omega)) (fun t ht=>(hR t ht).mono (by omega))).mono ?_
  rintro t (⟨R',rfl,h2⟩ | ⟨rfl,h2⟩)
  ·exact⟨ZxE,.inl ⟨R',rfl,h,h2⟩⟩
  ·exact⟨rfl,.inr ⟨rfl,.inr ⟨h,h2⟩⟩⟩
 ·walk_at "z"
  exact Zw Zpk ⟨rfl,.inr ⟨rfl,.inl h⟩⟩
theorem Zi2: Zfb [.none]=some .none:=by
 apply Pk.eq
 refine ZrD ?_
 unfold ZjQ
 walk_at "z"
 refine Zw Zvz ?_
 walk_at "z"
 exact Zw Zpk ⟨rfl,rfl⟩
theorem ZqZ(hR:∀i,i<n+1→RestOk (Zag R i))(hd:∀i,i<n+1→G i i=some 0): ∀i,i<n+1→Zbr G R i i=some 0:=by
 intro i hi
 unfold Zbr Zcl
 rw[hd i hi]
 have h0:Zan (Zby R i i) 0:=(Zja (hR i hi) (hR i hi) 0).mpr (by simp)
 obtain⟨c,e,hc⟩:=Zm7 (Zeo R i i) h0 (Int.le_refl 0)
 have:=(ZnE (Zeo R i i) e).1
 show Zex (Zby R i i) 0=some 0
 rw[e,show c=0 by omega]
structure Sharp(n:Nat)(G:Nat→Nat→Option Int)(R:Nat→Int×Int)(G2:Nat→Nat→Option Int)(R2:Nat→Int×Int)(M:Int)(k:Nat): Prop where
 go:∃R1,¬Zc1 (n+1) G∧Hand n (clG G (n+1)) R R1 M k∧¬Zf4 n (clG G (n+1)) R1∧¬Zc1 (n+1) (Zbr (clG G (n+1)) R1)∧G2=clG (Zbr (clG G (n+1)) R1) (n+1)∧Hand n G2 R1 R2 M k
def ZnF(n:Nat)(G:Nat→Nat→Option Int)(R:Nat→Int×Int)(M:Int)(k:Nat): Prop:=Zc1 (n+1) G∨(¬Zc1 (n+1) G∧Zjb n (clG G (n+1)) R)∨∃R1,¬Zc1 (n+1) G∧Hand n (clG G (n+1)) R R1 M k∧(Zf4 n (clG G (n+1)) R1∨(¬Zf4 n (clG G (n+1)) R1∧(Zc1 (n+1) (Zbr (clG G (n+1)) R1)∨(¬Zc1 (n+1) (Zbr (clG G (n+1)) R1)∧Zjb n (clG (Zbr (clG G (n+1)) R1) (n+1)) R1))))
theorem Hand.mono(h:Hand n G R R' M i)(hij:i≤j): Hand n G R R' M j:=fun t ht=>⟨(h t ht).1.mono hij,(h t ht).2⟩
theorem Zn6(hn:n≤100)(hk:k+2*n+4≤7000)(hM:0<M)(bM:Bd k M)(hd:∀i,i<n+1→G i i=some 0)(bG:BdG (n+1) k G)(hR:∀t,t<n→RB M k (R t)): Pk (ZaG [ZH n G R]) fun t=>(∃G2 R2,t=ZH n G2 R2∧Sharp n G R G2 R2 M (k+2*n+5))∨(t=.none∧ZnF n G R M (k+n+2)):=by
 unfold ZaG Zjp
 walk_at "z"
 refine(ZrE hn (by omega) hM bM hd bG hR).mono ?_
 rintro t (⟨R1,rfl,nr,h1⟩ | ⟨rfl,h⟩)
 ·have hR1:∀t,t<n→RB M (k+n+2) (R1 t):=fun t ht=>(h1 t ht).1
  have hF1:=Zel hR1
  have z1:=Zju hd (m:=n+1) fun m hm q=>nr ⟨m,hm,q⟩
  walk_at "z"
  refine(ZuQ hn (by omega) hM (bM.mono (by omega)) hR1).mono ?_
  rintro t (⟨rfl,nl⟩ | ⟨rfl,fl⟩)
  ·walk_at "z"
   have bG1:BdG (n+1) (k+n+3) (Zbr (clG G (n+1)) R1):=Zsg hM (bM.mono (by omega)) (fun a b c ha hb e=>(ZhJ bG (n+1) (by omega) a b c ha hb e).mono (by omega)) hR1
   refine(ZrE (k:=k+n+3) hn (by omega) hM (bM.mono (by omega)) (ZqZ (fun i hi=>(hF1 i hi).1) z1) bG1 (fun t ht=>(hR1 t ht).mono (by omega))).mono ?_
   rintro t (⟨R2,rfl,nr2,h2⟩ | ⟨rfl,h2⟩)
   ·exact .inl ⟨_,R2,rfl,⟨R1,nr,h1.mono (by omega),nl,nr2,rfl,h2.mono (by omega)⟩⟩
   ·exact .inr ⟨rfl,.inr (.inr ⟨R1,nr,h1,.inr ⟨nl,h2⟩⟩)⟩
  ·walk_at "z"
   exact Zw Zi2 (.inr ⟨rfl,.inr (.inr ⟨R1,nr,h1,.inl fl⟩)⟩)
 ·walk_at "z"
  refine Zw ZpF ?_
  walk_at "z"
  refine Zw Zi2 (.inr ⟨rfl,?_⟩)
  rcases h with h | h
  ·exact .inl h
  ·exact .inr (.inl h)
theorem Zm8: ZaG [.none]=some .none:=by
 apply Pk.eq
 unfold ZaG Zjp
 walk_at "z"
 refine Zw Zi2 ?_
 walk_at "z"
 refine Zw ZpF ?_
 walk_at "z"
 exact Zw Zi2 rfl
theorem ZgQ(h:Zaq n G R x): Zaq n (clG G (n+1)) R x:=⟨fun i j hi hj b e=>Zn4 (Zqd h) (n+1) (by omega) i j hi hj b e,h.2⟩
theorem ZpS(h:Zaq n G R x): ¬Zc1 (n+1) G:=fun⟨m,hm,q⟩=>Zvx (Zn4 (Zqd h) (m+1) (by omega)) q
theorem ZnG(h:Zaq n G R x): ∀i,i<n+1→Zan (Zag R i) (Zar x i)
 | 0,_=>⟨fun _=>rfl,fun q=>absurd q (show ¬(0:Int)<0 by decide)⟩
 | i+1,hi=>h.2 i (by omega)
theorem ZqA(h:Zaq n G R x)(ht:t<n): Ze9 n G R (t+1) (n+1) (x t):=by
 refine⟨h.2 t ht,fun j hj a b ha hb hab=>?_⟩
 have h1:=h.1 (t+1) j (by omega) hj a ha
 have h2:=h.1 j (t+1) hj (by omega) b hb
 have h3:Zar x (t+1)=x t:=rfl
 rw[h3]at h1 h2
 rw[show x t-a=Zar x j by omega]
 exact ZnG h j hj
theorem Zmm(h:Zaq n G R x)(q:Hand n G R R' M k): Zaq n G R' x:=⟨h.1,fun t ht=>((q t ht).2 _).mpr (ZqA h ht)⟩
theorem Zq0(hR:∀i,i<n+1→RestOk (Zag R i))(h:Zaq n G R x)(hi:i<n+1)(hj:j<n+1): Zan (Zby R i j) (Zar x i-Zar x j):=by
 rw[Zja (hR i hi) (hR j hj)]
 have h1:=(Zbl (hR i hi).nn _).mp (ZnG h i hi)
 have h2:=(Zbl (hR j hj).nn _).mp (ZnG h j hj)
 have h3:=Int.dvd_sub (Int.dvd_trans (Int.gcd_dvd_left (b:=(Zag R j).1) ..) h1) (Int.dvd_trans (Int.gcd_dvd_right (a:=(Zag R i).1) ..) h2)
 rwa [show Zar x i-(Zag R i).2-(Zar x j-(Zag R j).2)=Zar x i-Zar x j-((Zag R i).2-(Zag R j).2)by omega]at h3
theorem ZuR(hR:∀i,i<n+1→RestOk (Zag R i))(h:Zaq n G R x): ¬Zf4 n G R:=by
 rintro⟨i,j,hi,hj,b,e,hn⟩
 obtain⟨c,e2,_⟩:=Zm7 (Zeo R i j) (Zq0 hR h hi hj) (h.1 i j hi hj b e)
 unfold Zbr Zcl at hn
 rw[e]at hn
 simp only at hn
 rw[e2]at hn
 cases hn
theorem Zq1(hR:∀i,i<n+1→RestOk (Zag R i))(h:Zaq n G R x): Zaq n (Zbr G R) R x:=by
 refine⟨fun i j hi hj b e=>?_,h.2⟩
 have hd:=Zq0 hR h hi hj
 unfold Zbr Zcl at e
 cases hg:G i j with
 | some c=>
  rw[hg]at e
  simp only at e
  obtain⟨d,e2,hle⟩:=Zm7 (Zeo R i j) hd (h.1 i j hi hj c hg)
  rw[e2]at e
  cases e
  exact hle
 | none=>
  rw[hg]at e
  simp only at e
  split at e
  ·rename_i z
   cases e
   rw[Zbl (Zeo R i j).nn,z,Int.zero_dvd]at hd
   omega
  ·cases e
theorem ZuS(h:Zaq n G R x)(s:Sharp n G R G2 R2 M k): Zaq n G2 R2 x:=by
 obtain⟨R1,h1,h2,h3,h4,rfl,h6⟩:=s.go
 have l1:=Zmm (ZgQ h) h2
 have hF:=Zel fun t ht=>(h2 t ht).1
 exact Zmm (ZgQ (Zq1 (fun i hi=>(hF i hi).1) l1)) h6
theorem Zun(h:Zaq n G R x): ¬ZnF n G R M k:=by
 have hf:∀{G:Nat→Nat→Option Int} {R:Nat→Int×Int},Zaq n G R x→¬Zjb n G R:=fun h ⟨i,hi,q⟩=>q _ (ZqA h hi)
 rintro(q | ⟨_,q⟩ | ⟨R1,_,h2,q⟩)
 ·exact ZpS h q
 ·exact hf (ZgQ h) q
 ·have l1:=Zmm (ZgQ h) h2
  have hF:=Zel fun t ht=>(h2 t ht).1
  have l2:=Zq1 (fun i hi=>(hF i hi).1) l1
  rcases q with q | ⟨_,q | ⟨_,q⟩⟩
  ·exact ZuR (fun i hi=>(hF i hi).1) l1 q
  ·exact ZpS l2 q
  ·exact hf (ZgQ l2) q
theorem Zsh(hk:k≤8000)(op:RestOk p)(oq:RestOk q)(bp:RBd k p)(bq:RBd k q)(h:Met p q o): ∀r,o=some r→(r=p∨r=q∨(p.1≠0∧q.1≠0∧r.1=Int.lcm p.1 q.1)):=by
 obtain⟨t,_,o',rfl,h',wh⟩:=Zit hk op oq bp bq
 rw[ZuO h h']
 exact wh
theorem ZuT(hn:n≤100)(hd:∀i,i<n+1→G i i=some 0)(ok:∀t,t<n→RestOk (R t)): Zim [ZH n G R,.int n]=some (.bool true):=by
 apply Pk.eq
 unfold Zim Zmb ZH ZbD
 walk_at "z"
 rw[show(n:Int)+1=((n+1:Nat):Int)by omega]
 refine Zw (ZxA (by omega) hd) ?_
 walk_at "z"
 refine Zdj (n:=n) (a:=fun i=>Z1 (R i)) (P:=fun _ _=>True) ?_ trivial ?_ ?_
 ·walk_at "z"
  rfl
 ·rintro t σ ht _
  have ho:=ok t ht
  unfold Z1
  walk_at "z"
  refine Zw ZnD ?_
  walk_at "z"
  refine Zw ZnD ?_
  walk_at "z"
  have h0:=ho.nn
  walk_at "z"
  rcases ho with h | h
  ·walk_at "z"
   trivial
  ·walk_at "z"
   trivial
 ·rintro σ _
  walk_at "z"
  rfl
theorem Zqg(hd:∀i,i<n+1→G i i=some 0)(s:Sharp n G R G2 R2 M k): (∀i,i<n+1→G2 i i=some 0)∧∀k,k<n+1→∀i j,i<n+1→j<n+1→leO (G2 i j) (addO (G2 i k) (G2 k j)):=by
 obtain⟨R1,h1,h2,h3,h4,rfl,h6⟩:=s.go
 have hF:=Zel fun t ht=>(h2 t ht).1
 have z1:=Zju hd (m:=n+1) fun m hm q=>h1 ⟨m,hm,q⟩
 have z2:=ZqZ (fun i hi=>(hF i hi).1) z1
 exact⟨Zju z2 fun m hm q=>h4 ⟨m,hm,q⟩,Zsf z2 (n+1) (by omega) fun m hm q=>h4 ⟨m,hm,q⟩⟩
noncomputable def ZcX(R:Nat→Int×Int): Nat→Int
 | 0=>1
 | t+1=>ZcX R t*(if(R t).1=0 then 1 else(R t).1)
theorem Zg1{n:Nat}{R:Nat→Int×Int}(h:∀t,t<n→RestOk (R t)): ∀m,m≤n→0<ZcX R m
 | 0,_=>by show(0:Int)<1;decide
 | m+1,hm=>by
  have ih:=Zg1 h m (by omega)
  have:=(h m (by omega)).nn
  unfold ZcX
  refine Int.mul_pos ih ?_
  split
  ·decide
  ·omega
theorem Zg2{R:Nat→Int×Int}: ∀m t,t<m→(R t).1=0∨(R t).1 ∣ ZcX R m
 | m+1,t,ht=>by
  by_cases z:(R t).1=0
  ·exact .inl z
  ·right
   unfold ZcX
   by_cases q:t=m
   ·subst q
    rw[if_neg z]
    exact Int.dvd_mul_left _ _
   ·exact Int.dvd_trans ((Zg2 m t (by omega)).resolve_left z) (Int.dvd_mul_right _ _)
theorem Zhc{n k:Nat}{R:Nat→Int×Int}(hk:1≤k)(h:∀t,t<n→Bd k (R t).1): ∀m,m≤n→Bd (k*m+1) (ZcX R m)
 | 0,_=>by rw[Nat.mul_zero];exact Zea (by omega)
 | m+1,hm=>by
  have ih:=Zhc hk h m (by omega)
  unfold ZcX
  have h2:Bd k (if(R m).1=0 then 1 else(R m).1):=by
   split
   ·exact Zea hk
   ·exact h m (by omega)
  have:=Bd.mul ih h2
  rw[Nat.mul_succ]
  exact this.mono (by omega)
theorem ZvA{k:Int}(hL:Lay ns)(h0:0≤k)(h9:k≤1000)(hn:n≤9)(hB2:134≤B)(hR:∀t,t<n→RestOk (R t))(sR:SmR B n R)(sG:SmG B n G): Pk (Zh9 [scr ns,.int k,ZH n G R]) fun t=>∃G' R',t=ZH n G' R'∧(∀i,i<n+1→G' i i=G i i)∧(∀t,t<n→RestOk (R' t))∧SmG (B+1) n G'∧SmR (B+1) n R':=by
 unfold Zh9 Zly
 have ht:ZH n G R=.tup [.lst (tab (n+1) fun i=>Zay (n+1) (G i)),.lst (tab n fun i=>Z1 (R i))]:=rfl
 have e134:(2:Nat) ^ 134=21778071482940061661655974875633165533184:=by decide
 have hpB:(2:Nat) ^ 134≤2 ^ B:=Nat.pow_le_pow_right (by decide) hB2
 have hpB1:(2:Nat) ^ (B+1)=2 ^ B*2:=Nat.pow_succ ..
 have sG1:SmG (B+1) n G:=fun i j hi hj b h=>Zbs (sG i j hi hj b h) (by omega)
 have sR1:SmR (B+1) n R:=fun t ht=>⟨Zbs (sR t ht).1 (by omega),Zbs (sR t ht).2 (by omega)⟩
 rw[ht]
 walk_at "z"
 refine ZuM (n:=n+1) (G:=G) (by omega) ?_ ?_
 ·walk_at "z"
  rfl
 unfold Zab Zay
 walk_at "z"
 obtain⟨p0,p1⟩:=ZbB ns k (show(0:Int)<((n+1:Nat):Int)by omega)
 obtain⟨i,ei,hi⟩:=Zfd p0 p1
 obtain⟨p2,p3⟩:=ZbB ns (k+1) (show(0:Int)<((n+1:Nat):Int)by omega)
 obtain⟨j,ej,hj⟩:=Zfd p2 p3
 obtain⟨w0,w1⟩:=ZbB ns (k+2) (show(0:Int)<5 by decide)
 obtain⟨u0,u1⟩:=ZbB ns (k+3) (show(0:Int)<4 by decide)
 obtain⟨u2,u3⟩:=ZbB ns (k+3) (show(0:Int)<3 by decide)
 refine Zw (Zbt h0 (by omega) (by omega)) ?_
 rw[ei]
 walk_at "z"
 refine Zw (Zbt (by omega) (by omega) (by omega)) ?_
 rw[ej]
 walk_at "z"
 refine Zw (Zbt (by omega) (by omega) (by omega)) ?_
 walk_at "z"
 generalize ZaT ns (k+2) 5=w at w0 w1
 by_cases hw:w<3∧i≠j
 ·have hij:(i:Int)≠(j:Int):=by omega
  have hw3:=hw.1
  have fin:∀v,(∀b,v=some b→b.natAbs<2 ^ (B+1))→(∀a,a<n+1→ZbE G i j v a a=G a a)∧SmG (B+1) n (ZbE G i j v):=fun v hv=>by
   refine⟨fun a ha=>by rw[Zjs (by omega)],fun a b ha hb c hc=>?_⟩
   by_cases q:a=i∧b=j
   ·obtain⟨rfl,rfl⟩:=q;rw[Zou]at hc;exact hv c hc
   ·rw[Zjs q]at hc;exact sG1 a b ha hb c hc
  cases hg:G i j with
  | none=>
   walk_at "z"
   rw[hg,Zcz]
   walk_at "z"
   refine Zw (ZgZ hL (by omega) (by omega)) ?_
   walk_at "z"
   rw[←Zbk (c:=Zcc ns (k+3)),ZoU]
   walk_at "z"
   have:=Zhp ns (k+3)
   obtain⟨f1,f2⟩:=fin (some (Zcc ns (k+3))) (fun b e=>by cases e;omega)
   exact⟨ZbE G i j (some (Zcc ns (k+3))),R,rfl,f1,hR,f2,sR1⟩
  | some g=>
   walk_at "z"
   rw[hg,Zbk]
   walk_at "z"
   rw[hg,Zbk]
   walk_at "z"
   refine Zw (Zbt (by omega) (by omega) (by omega)) ?_
   walk_at "z"
   rw[←Zbk (c:=g-1-ZaT ns (k+3) 4),ZoU]
   walk_at "z"
   have:=sG i j (by omega) (by omega) g hg
   obtain⟨f1,f2⟩:=fin (some (g-1-ZaT ns (k+3) 4)) (fun b e=>by cases e;omega)
   exact⟨ZbE G i j _,R,rfl,f1,hR,f2,sR1⟩
 ·have hcase:(¬w<3)∨(w<3∧(i:Int)=(j:Int)):=by
   by_cases q:w<3
   ·exact .inr ⟨q,by
     have:i=j:=Classical.byContradiction fun h=>hw ⟨q,h⟩
     rw[this]⟩
   ·exact .inl q
  clear hw
  rcases hcase with hw | ⟨hw,hij⟩
  all_goals
   by_cases hn0:n=0
   ·subst hn0
    walk_at "z"
    exact⟨G,R,rfl,fun _ _=>rfl,hR,sG1,sR1⟩
   ·have hnp:(0:Int)<(n:Int):=by omega
    walk_at "z"
    obtain⟨q0,q1⟩:=ZbB ns k hnp
    obtain⟨t,et,ht⟩:=Zfd q0 q1
    refine Zw (Zbt h0 (by omega) hnp) ?_
    rw[et]
    walk_at "z"
    have hp:Z1 (R t)=.tup [.int (R t).1,.int (R t).2]:=rfl
    rw[hp]
    walk_at "z"
    obtain⟨m0,m1⟩:0≤w.fmod 2∧w.fmod 2<2:=⟨Int.fmod_nonneg_of_pos _ (by decide),Int.fmod_lt_of_pos _ (by decide)⟩
    refine Zdz (by omega) (by omega) ?_
    walk_at "z"
    refine Zw (Zbt (by omega) (by omega) (by omega)) ?_
    walk_at "z"
    refine Zw Zm4 ?_
    walk_at "z"
    have hRt:=hR t ht
    have hm0:0≤(R t).1:=by rcases hRt with h | h <;> omega
    have sRt:=sR t ht
    obtain⟨c,hc,hc1⟩:∃c,(R t).1*(1+w.fmod 2)=c∧0≤c∧c≤(R t).1*2:=⟨_,rfl,Int.mul_nonneg hm0 (by omega),Int.mul_le_mul_of_nonneg_left (by omega) hm0⟩
    rw[hc]
    generalize hpp:ZaF c ((R t).2+ZaT ns (k+3) 3)=pp
    have p1:RestOk pp:=by rw[←hpp];exact Zcm hc1.1 _
    have p2:pp.1.natAbs<2 ^ (B+1)∧pp.2.natAbs<2 ^ (B+1):=by rw[←hpp];exact ZfA hc1.1 (by omega) (by omega)
    refine⟨G,fun s=>if s=t then pp else R s,?_,fun _ _=>rfl,fun s hs=>?_,sG1,fun s hs=>?_⟩
    ·unfold ZH Zab Zay ZbD
     congr 5
     funext s
     show(if s=t then Z1 pp else Z1 (R s))=Z1 (if s=t then pp else R s)
     split <;> rfl
    ·show RestOk (if s=t then pp else R s)
     split
     ·exact p1
     ·exact hR s hs
    ·show(if s=t then pp else R s).1.natAbs<_∧(if s=t then pp else R s).2.natAbs<_
     split
     ·exact p2
     ·exact sR1 s hs
theorem ZtH: Zdd [.none,.none]=some (.bool true):=by
 apply Pk.eq
 unfold Zdd ZiE
 walk_at "z"
 rfl
theorem ZtI(hn:n≤100)(hd:∀i,i<n+1→G i i=some 0)(ok:∀t,t<n→RestOk (R t)): Zdd [ZH n G R,ZH n G R]=some (.bool true):=by
 apply Pk.eq
 unfold Zdd ZiE
 have ht:ZH n G R=.tup [Zab (n+1) G,.lst (tab n fun i=>Z1 (R i))]:=rfl
 rw[ht]
 walk_at "z"
 rw[←ht]
 refine Zw (ZuT hn hd ok) ?_
 walk_at "z"
 refine Zb8 Zg8 Zg8 ?_
 rw[ZaH rfl]
inductive Dp: Nat→T→Prop where
 | none {n:Nat}:Dp n .none
 | int {n:Nat} {i:Int}:Dp n (.int i)
 | tup {n:Nat} {ts:List T}:(∀t∈ts,Dp n t)→ts.length≤10000→Dp (n+1) (.tup ts)
 | lst {n:Nat} {ts:List T}:(∀t∈ts,Dp n t)→ts.length≤10000→Dp (n+1) (.lst ts)
theorem Dp.mono{t:T}(h:Dp n t): ∀{m:Nat},n≤m→Dp m t:=by
 induction h with
 | none=>intro m _;exact .none
 | int=>intro m _;exact .int
 | tup hs hl ih=>
  intro m hm
  cases m with
  | zero=>omega
  | succ m=>exact .tup (fun t a=>ih t a (by omega)) hl
 | lst hs hl ih=>
  intro m hm
  cases m with
  | zero=>omega
  | succ m=>exact .lst (fun t a=>ih t a (by omega)) hl
theorem ZrF{F:List T→Option T}(hg:Zbp g σ=some ts)(hl:ts.length≤10000)(h:∀t∈ts,F [t]=some t)(q:Q (.lst ts)): Pk (Zau (Zbp g) (Zak j) Zal (Zq F (Zd (Za j) Zl)) σ) Q:=by
 refine⟨.lst ts,?_,q⟩
 have:=Zqp (σ:=σ) (j:=j) (f:=Zq F (Zd (Za j) Zl)) (h:=fun t=>t) (ts:=ts) fun t m=>by
  simp only[Zq,Zd,Za,Zl,Zcu,Option.bind_some,Option.map_some]
  exact h t m
 simp only[Zau,hg,Option.bind_some,this]
 rw[if_pos (by rw[Zba];omega)]
 simp
theorem Zww{t:T}(h:Dp n t): Ze3 (n+1) [t]=some t:=by
 induction h with
 | none=>rfl
 | int=>rfl
 | @tup n ts hs hl ih=>
  apply Pk.eq
  show Pk (ZZ 1 (Zf1 (Ze3 (n+1))) [.tup ts]) _
  unfold Zf1
  walk_at "z"
  refine ZrF (ts:=ts) rfl hl ih ?_
  walk_at "z"
  rfl
 | @lst n ts hs hl ih=>
  apply Pk.eq
  show Pk (ZZ 1 (Zf1 (Ze3 (n+1))) [.lst ts]) _
  unfold Zf1
  walk_at "z"
  exact ZrF (ts:=ts) rfl hl ih rfl
theorem Zhd{t:T}(h:Dp 8 t): Zen [t]=some t:=Zww h
theorem Zo7: Dp n (oT a):=by cases a;exact .none;exact .int
theorem ZrG(hn:n≤100): Dp 3 (ZH n G R):=by
 refine .tup (fun t m=>?_) (by simp)
 simp at m
 rcases m with rfl | rfl
 ·refine .lst (fun t m=>?_) (by rw[Zao];omega)
  obtain⟨i,hi,rfl⟩:=ZcR m
  refine .lst (fun t m=>?_) (by rw[Zao];omega)
  obtain⟨j,hj,rfl⟩:=ZcR m
  exact Zo7
 ·refine .lst (fun t m=>?_) (by rw[Zao];omega)
  obtain⟨i,hi,rfl⟩:=ZcR m
  refine .tup (fun t m=>?_) (by simp)
  simp at m
  rcases m with rfl | rfl <;> exact .int
section
variable {σ:TL} {Q:T→Prop}
theorem Zzv{p e:PE}(h:Pk (p σ) fun t=>∃ts,t=.lst ts∧Pk (e σ) fun u=>∃a:Nat,u=.int a∧Q (.lst (ts.take a))): Pk (ZdF p ZdW (ZdX e) σ) Q:=by
 obtain⟨_,e1,ts,rfl,_,e2,a,rfl,q⟩:=h
 refine⟨_,?_,q⟩
 simp only[ZdF,e1,ZdW,ZdX,e2,Option.bind_some,ZwM ts rfl]
theorem Zzw{p e:PE}(h:Pk (p σ) fun t=>∃ts,t=.lst ts∧Pk (e σ) fun u=>∃a:Nat,u=.int a∧Q (.lst (ts.drop a))): Pk (ZdF p (ZdX e) ZdW σ) Q:=by
 obtain⟨_,e1,ts,rfl,_,e2,a,rfl,q⟩:=h
 refine⟨_,?_,q⟩
 simp only[ZdF,e1,ZdW,ZdX,e2,Option.bind_some,Zqn ts rfl]
theorem Zf5{a b:List T}(hl:a.length+b.length≤10000)(h:Q (.lst (a++b))): Pk (Z4 (.lst a) (.lst b)) Q:=by
 refine⟨_,?_,h⟩
 simp only[Z4]
 rw[if_pos (by rw[Zba,List.length_append];omega)]
theorem Zox{a:T}(hn:n≤1000)(h:Q (.lst (tab n fun _=>a))): Pk (ZaN (.lst [a]) (.int n)) Q:=by
 have e:∀n,ZhP [a] n=tab n fun _=>a:=fun n=>by
  induction n with
  | zero=>rfl
  | succ n ih=>show ZhP [a] n++[a]=_;rw[ih];exact ZdQ (f:=fun _=>a)
 refine⟨_,?_,h⟩
 simp only[ZaN,List.length_cons,List.length_nil,Int.toNat_natCast,e]
 rw[if_pos ⟨by rw[Zba];omega,by omega,by omega⟩]
end
theorem ZxF{l:List T}{x:Nat}{w:T}(h:x<l.length): l.take x++[w]++l.drop (x+1)=l.set x w:=by
 rw[List.set_eq_take_append_cons_drop,if_pos h]
 simp
theorem Zto(hn:n≤900): Zfx [.int i,.int n]=some (Zay (n+1) fun j=>if j=i then some 0 else none):=by
 apply Pk.eq
 unfold Zfx Zlg
 walk_at "z"
 refine ZbQ (n:=n+1) (a:=fun j=>.int j) (b:=fun j=>oT (if j=i then some 0 else none)) (by omega) ?_ (fun j hj=>?_) rfl
 ·walk_at "z"
  exact Zgi (n+1) (by omega) (by omega) rfl
 ·by_cases c:j=i
  ·have hc:(i:Int)=(j:Int):=by omega
   walk_at "z"
   rw[if_pos c]
   rfl
  ·have hc:(i:Int)≠(j:Int):=by omega
   walk_at "z"
   rw[if_neg c]
   rfl
theorem Zem{a b:PS}{R:T→Prop}{N:TL→Prop}(M:TL→Prop)(h1:Psk (a σ) R M)(h2:∀σ,M σ→Psk (b σ) R N): Psk (Zs a b σ) R N:=by
 obtain⟨o,s,e,p,q⟩:=h1
 exact ZoI ⟨o,s,e,p,fun h=>h2 s (q h)⟩
noncomputable def Zbn(n:Nat)(G:Nat→Nat→Option Int): Nat→Nat→Option Int:=fun i j=>if i<n+1∧j<n+1 then G i j else if j=i then some 0 else none
noncomputable def ZbJ(n:Nat)(R:Nat→Int×Int): Nat→Int×Int:=fun t=>if t<n then R t else(1,0)
theorem ZxG{a:Nat}(h:a≤4): Zcs a a 1=some []:=by
 have:a=0∨a=1∨a=2∨a=3∨a=4:=by omega
 obtain rfl | rfl | rfl | rfl | rfl:=this <;> (unfold Zcs;rw[if_pos (by decide +kernel)];rfl)
theorem Zjc{g:PEs}{a:Nat}{L:List T→Prop}(ha:a≤4)(hm:m≤100)(e:g σ=some [.int a,.int (a+m)])(h:L (tab m fun i=>.int ((a+i:Nat):Int))): Pl (ZaJ g σ) L:=by
 cases m with
 | zero=>
  have e2:Zcs (a:Int) ((a:Int)+((0:Nat):Int)) 1=some []:=by simpa using ZxG ha
  exact⟨[],Zhl e e2,h⟩
 | succ m=>
  refine⟨_,Zhl e (by have:=Zoi (a:=a) (n:=m+1) (by omega) (by omega);simpa using this),?_⟩
  rw[show(tab (m+1) fun i=>T.int ((a:Int)+i))=tab (m+1) fun i=>.int ((a+i:Nat):Int)from Zbz fun i _=>by congr 1]
  exact h
theorem Zwx(hi:i<n+1): (tab (n+1+m) fun j=>if j<n+1 then oT (G i j)else T.none)=tab (n+m+1) fun j=>oT (Zbn n G i j):=by
 rw[show n+1+m=n+m+1 by omega]
 refine Zbz fun j hj=>?_
 unfold Zbn
 by_cases c:j<n+1
 ·rw[if_pos c,if_pos ⟨hi,c⟩]
 ·rw[if_neg c,if_neg (by omega),if_neg (by omega)]
  rfl
theorem ZuU{b:Nat→Option Int}: T.flatIn (.lst (tab n fun j=>oT (b j)))=true:=Ziy fun _ _=>Zhm
theorem ZuV: (T.lst (tab (n+m) fun i=>if i<n then T.tup [.int (R i).1,.int (R i).2]else T.tup [.int 1,.int 0]))=ZbD (n+m) (ZbJ n R):=by
 unfold ZbD ZbJ
 congr 1
 refine Zbz fun i _=>?_
 by_cases c:i<n
 ·rw[if_pos c,if_pos c];rfl
 ·rw[if_neg c,if_neg c];rfl
noncomputable def Zgj(q:Nat→Nat)(G':Nat→Nat→Option Int)(i:Nat)(Γ:Nat→Nat→Option Int): Nat→Nat→Nat→Option Int
 | 0=>Γ
 | j+1=>ZbE (Zgj q G' i Γ j) (q i) (q j) (Za8 (Zgj q G' i Γ j (q i) (q j)) (G' i j))
noncomputable def ZdH(q:Nat→Nat)(G':Nat→Nat→Option Int)(k:Nat)(Γ:Nat→Nat→Option Int): Nat→Nat→Nat→Option Int
 | 0=>Γ
 | i+1=>Zgj q G' i (ZdH q G' k Γ i) k
theorem Ziu{a:Nat}{v:Option Int}(ha:a<N)(hb:b<N): ZeT [Zab N Γ,.int a,.int b,oT v]=some (Zab N (ZbE Γ a b (Za8 (Γ a b) v))):=by
 apply Pk.eq
 unfold ZeT ZmR
 refine Zon rfl ?_
 unfold Zab Zay
 walk_at "z"
 refine Zw Zqz ?_
 refine⟨Zhm,?_⟩
 walk_at "z"
 refine⟨_,Zcu,?_⟩
 exact ZoU
theorem ZsQ{q:Nat→Nat}(hN:N≤100)(hk:k≤100)(hq:∀i,i<k→q i<N): ZhQ [Zab N Γ,.lst (tab k fun i=>.int (q i)),Zab k G']=some (Zab N (ZdH q G' k Γ k)):=by
 apply Pk.eq
 unfold ZhQ Zki
 have dp:Dp 8 (Zab N Γ):=by
  refine Dp.mono (n:=2) (.lst (fun t m=>?_) (by rw[Zao];omega)) (by decide)
  obtain⟨i,hi,rfl⟩:=ZcR m
  refine .lst (fun t m=>?_) (by rw[Zao];omega)
  obtain⟨j,hj,rfl⟩:=ZcR m
  exact Zo7
 have eg:Zab k G'=.lst (tab k fun i=>.lst (tab k fun j=>oT (G' i j))):=rfl
 rw[eg]
 walk_at "z"
 refine Zw (Zhd dp) ?_
 walk_at "z"
 refine Ze7 (n:=k) (a:=fun i=>.int (q i)) (c:=fun i=>.lst (tab k fun j=>oT (G' i j))) (P:=fun i σ=>σ 1=some (.lst (tab k fun i=>.int (q i)))∧σ 3=some (Zab N (ZdH q G' k Γ i))) ?_ ⟨by walk_at "r",by walk_at "r"⟩ ?_ ?_
 ·walk_at "z"
  rfl
 ·rintro i σ hi ⟨e1,e3⟩
  refine Ze7 (n:=k) (a:=fun j=>.int (q j)) (c:=fun j=>oT (G' i j)) (P:=fun j σ=>σ 1=some (.lst (tab k fun i=>.int (q i)))∧σ 4=some (.int (q i))∧σ 3=some (Zab N (Zgj q G' i (ZdH q G' k Γ i) j))) ?_ ⟨by walk_at "r",by walk_at "r",by walk_at "r"⟩ ?_ ?_
  ·walk_at "z"
   rfl
  ·rintro j σ hj ⟨e1,e4,e3⟩
   refine Zga (t:=Zab N (Zgj q G' i (ZdH q G' k Γ i) j)) (by walk_at "r") ?_
   walk_at "z"
   refine Zw (Ziu (hq i hi) (hq j hj)) ?_
   exact⟨by walk_at "r",by walk_at "r",Zcu⟩
  ·rintro σ ⟨e1,e4,e3⟩
   exact⟨e1,e3⟩
 ·rintro σ ⟨e1,e3⟩
  walk_at "z"
  rfl
noncomputable def ZR(n:Nat)(c:Nat→Int): T:=.lst (tab (n+1) fun i=>.int (c i))
theorem ZeM{k:Int}(hn:n≤1000)(hb:b≤100000)(bc:∀i,i<n+1→Bd b (c i))(bk:Bd b k): Zds [ZR n c,.int k]=some (ZR n fun i=>c i*k):=by
 apply Pk.eq
 unfold Zds Zmd ZR
 walk_at "z"
 refine ZbQ (n:=n+1) (a:=fun i=>.int (c i)) (b:=fun i=>.int (c i*k)) (by omega) ?_ (fun i hi=>?_) rfl
 ·walk_at "z"
  rfl
 ·walk_at "z"
  exact ZcU (Zdx (bc i hi) bk (by omega) (by omega)) rfl
noncomputable def S40(G:Nat→Nat→Option Int)(i:Nat): Sp:=((G 0 (i+1)).map fun y=>y*(-1),G (i+1) 0)
theorem Zs8(hn:n≤90)(hb:b≤100000)(hb1:1≤b)(bG:∀i j,i<n+1→j<n+1→∀y,G i j=some y→Bd b y): Zh0 [ZH n G R]=some (.lst (tab n fun i=>spT (S40 G i))):=by
 apply Pk.eq
 unfold Zh0 ZkX
 have ht:ZH n G R=.tup [.lst (tab (n+1) fun i=>.lst (tab (n+1) fun j=>oT (G i j))),.lst (tab n fun i=>Z1 (R i))]:=rfl
 rw[ht]
 walk_at "z"
 refine ZbQ (n:=n) (a:=fun i=>.int ((1+i:Nat):Int)) (b:=fun i=>spT (S40 G i)) (by omega) ?_ (fun i hi=>?_) rfl
 ·refine Zjc (a:=1) (m:=n) (by omega) (by omega) ?_ rfl
  simp only[Zd,Zj,Zl,Zq,Za,Z8,Option.bind_some,if_true,ZaB,Zao]
  congr 3
  congr 1
  omega
 ·have h1:1+i<n+1:=by omega
  have h0:0<n+1:=by omega
  walk_at "z"
  refine Zw (Zig hb (fun y e=>bG 0 (1+i) h0 h1 y e) (show Bd b (-1)by unfold Bd;have:=Zea hb1;unfold Bd at this;simpa using this)) ?_
  walk_at "z"
  unfold spT S40
  rw[show 1+i=i+1 by omega]
  rfl
theorem ZpT{σ:TL}{j:Nat}{cnd:PB}{P:T→Bool}: ∀{ts:List T},(∀t∈ts,cnd (Z8 σ j t)=some (P t))→ZcW (Zak j) cnd (Za j) σ ts=some (ts.filter P)
 | [],_=>rfl
 | t::ts,h=>by
  have ih:=ZpT fun t m=>h t (Zz2 _ m)
  have h0:=h t Zz5
  simp only[ZcW,Zak,Option.bind_some,h0,Za,Zcu,ih,Option.map_some,List.filter_cons]
  cases P t <;> rfl
theorem ZvB{g:PG}{cnd:PB}{P:T→Bool}(hl:ts.length≤10000)(hg:Pl (g σ) fun us=>us=ts)(hc:∀t∈ts,Pb (cnd (Z8 σ j t)) fun b=>b=P t)(h:Q (.lst (ts.filter P))): Pk (Zau g (Zak j) cnd (Za j) σ) Q:=by
 obtain⟨us,e,rfl⟩:=hg
 refine⟨_,?_,h⟩
 have:=ZpT (σ:=σ) (j:=j) (cnd:=cnd) (P:=P) (ts:=us) fun t m=>by
  obtain⟨b,e1,rfl⟩:=hc t m
  exact e1
 simp only[Zau,e,Option.bind_some,this,Option.map_some]
 rw[if_pos (by rw[Zba];omega)]
noncomputable def xsI(n:Nat)(c:Nat→Int): List Int:=tab n fun i=>c (i+1)
noncomputable def nzI(n:Nat)(c:Nat→Int): List Int:=(xsI n c).filter fun x=>decide (x≠0)
def Df(n:Nat)(c:Nat→Int): Prop:=PM.Zdn (nzI n c)=[-1,1]
theorem Zjd(ks:List Int): Zdm (ks.map T.int)=some ks:=by
 induction ks with
 | nil=>rfl
 | cons k ks ih=>simp[Zdm,ih]
theorem Zuo{a b:List Int}(h:a.map T.int=b.map T.int): a=b:=by
 have:=congrArg Zdm h
 rw[Zjd,Zjd]at this
 simpa using this
theorem ZrH(ks:List Int): Pln 1 (.lst (ks.map T.int)):=.lst fun t m=>by
 obtain⟨k,_,rfl⟩:=Zz11.mp m
 exact .int
theorem tab_map{α:Type}{f:Nat→α}{g:α→β}: (tab n f).map g=tab n fun i=>g (f i):=by simp[tab]
theorem ZsW(hn:n≤60): ZhV [ZR n c]=some (.bool (dec (Df n c))):=by
 apply Pk.eq
 unfold ZhV Zky ZR
 walk_at "z"
 refine ZvB (ts:=(xsI n c).map T.int) (P:=fun t=>match t with | .int x=>decide (x≠0) | _=>false) (by simp[xsI,Zao];omega) ?_ (fun t m=>?_) ?_
 ·refine Zjm ?_
  refine Zi1 ?_
  walk_at "z"
  refine⟨_,rfl,?_⟩
  rw[Zn5]
  refine Sq.lst ?_
  unfold xsI
  rw[tab_map]
 ·obtain⟨x,_,rfl⟩:=Zz11.mp m
  walk_at "z"
  rfl
 have ef:((xsI n c).map T.int).filter (fun t=>match t with | .int x=>decide (x≠0) | _=>false)=(nzI n c).map T.int:=by
  unfold nzI
  rw[List.filter_map]
  rfl
 rw[ef]
 have hl:(nzI n c).length≤n:=by
  unfold nzI
  refine Nat.le_trans (List.length_filter_le _ _) ?_
  simp[xsI,Zao]
 walk_at "z"
 refine⟨.lst ((PM.Zdn (nzI n c)).map T.int),?_,?_⟩
 ·simp only[Zjo,Zjd,Option.bind_some,List.length_map]
  rw[if_pos (by omega)]
 walk_at "z"
 refine Zb8 (n:=1) (m:=1) (ZrH _) (ZrH [-1,1]) ?_
 by_cases h:Df n c
 ·rw[ZaH h,ZaH]
  show T.lst ((PM.Zdn (nzI n c)).map T.int)=_
  rw[show PM.Zdn (nzI n c)=[-1,1]from h]
  rfl
 ·rw[ZaM h,ZaM]
  intro q
  refine h (Zuo ?_)
  simpa using q
noncomputable def ZaQ(c:Nat→Int): Nat→List Nat
 | 0=>[]
 | n+1=>ZaQ c n++(if 0<c (n+1)then [n+1]else [])
noncomputable def ZaU(c:Nat→Int): Nat→List Nat
 | 0=>[]
 | n+1=>ZaU c n++(if c (n+1)<0 then [n+1]else [])
theorem ups_mem{c:Nat→Int}: ∀{n i:Nat},i∈ZaQ c n↔1≤i∧i≤n∧0<c i
 | 0,i=>by simp[ZaQ];omega
 | n+1,i=>by
  simp only[ZaQ,List.mem_append,ups_mem (n:=n)]
  by_cases h:0<c (n+1)
  ·simp only[h,if_true,List.mem_singleton]
   constructor
   ·rintro(⟨a,b,d⟩ | rfl)
    ·exact⟨a,by omega,d⟩
    ·exact⟨by omega,by omega,h⟩
   ·rintro⟨a,b,d⟩
    by_cases q:i=n+1
    ·exact .inr q
    ·exact .inl ⟨a,by omega,d⟩
  ·simp only[h,if_false,List.not_mem_nil,or_false]
   constructor
   ·rintro⟨a,b,d⟩;exact⟨a,by omega,d⟩
   ·rintro⟨a,b,d⟩
    have:i≠n+1:=fun q=>h (q▸d)
    exact⟨a,by omega,d⟩
theorem dns_mem{c:Nat→Int}: ∀{n i:Nat},i∈ZaU c n↔1≤i∧i≤n∧c i<0
 | 0,i=>by simp[ZaU];omega
 | n+1,i=>by
  simp only[ZaU,List.mem_append,dns_mem (n:=n)]
  by_cases h:c (n+1)<0
  ·simp only[h,if_true,List.mem_singleton]
   constructor
   ·rintro(⟨a,b,d⟩ | rfl)
    ·exact⟨a,by omega,d⟩
    ·exact⟨by omega,by omega,h⟩
   ·rintro⟨a,b,d⟩
    by_cases q:i=n+1
    ·exact .inr q
    ·exact .inl ⟨a,by omega,d⟩
  ·simp only[h,if_false,List.not_mem_nil,or_false]
   constructor
   ·rintro⟨a,b,d⟩;exact⟨a,by omega,d⟩
   ·rintro⟨a,b,d⟩
    have:i≠n+1:=fun q=>h (q▸d)
    exact⟨a,by omega,d⟩
theorem Zq2{c:Nat→Int}: ∀n,(ZaQ c n).map c=(xsI n c).filter fun x=>decide (0<x)
 | 0=>rfl
 | n+1=>by
  have e:xsI (n+1) c=xsI n c++[c (n+1)]:=(ZdQ (n:=n) (f:=fun i=>c (i+1))).symm
  rw[e,List.filter_append,←Zq2 n]
  simp only[ZaQ,List.map_append]
  by_cases h:0<c (n+1) <;> simp[h]
theorem Zq3{c:Nat→Int}: ∀n,(ZaU c n).map c=(xsI n c).filter fun x=>decide (x<0)
 | 0=>rfl
 | n+1=>by
  have e:xsI (n+1) c=xsI n c++[c (n+1)]:=(ZdQ (n:=n) (f:=fun i=>c (i+1))).symm
  rw[e,List.filter_append,←Zq3 n]
  simp only[ZaU,List.map_append]
  by_cases h:c (n+1)<0 <;> simp[h]
theorem df_iff: Df n c↔(ZaQ c n).map c=[1]∧(ZaU c n).map c=[-1]:=by
 rw[Zq2,Zq3]
 have hp:(nzI n c).Perm ((xsI n c).filter (fun x=>decide (0<x))++(xsI n c).filter (fun x=>decide (x<0))):=by
  unfold nzI
  generalize xsI n c=xs
  induction xs with
  | nil=>exact List.Perm.refl _
  | cons x xs ih=>
   by_cases h1:0<x
   ·have:x≠0:=by omega
    have h2:¬x<0:=by omega
    simp only[List.filter_cons,h1,h2,this,decide_true,decide_false,ne_eq,not_false_eq_true,if_true,Bool.false_eq_true,if_false,List.cons_append]
    exact List.Perm.cons _ ih
   ·by_cases h2:x<0
    ·have:x≠0:=by omega
     simp only[List.filter_cons,h1,h2,this,decide_true,decide_false,ne_eq,not_false_eq_true,if_true,Bool.false_eq_true,if_false]
     exact(List.Perm.cons _ ih).trans List.perm_middle.symm
    ·have:x=0:=by omega
     subst this
     simpa using ih
 constructor
 ·intro h
  have hq:(nzI n c).Perm [-1,1]:=by
   have:=List.mergeSort_perm (nzI n c) fun a b=>decide (a≤b)
   rw[show(nzI n c).mergeSort (fun a b=>decide (a≤b))=[-1,1]from h]at this
   exact this.symm
  have hf:∀q:Int→Bool,(∀x,q x=true→x≠0)→(xsI n c).filter q=(nzI n c).filter q:=fun q hq=>by
   unfold nzI
   rw[List.filter_filter]
   refine List.filter_congr fun x _=>?_
   cases e:q x with
   | false=>simp
   | true=>simp[hq x e]
  rw[hf _ (fun x h=>by simp at h;omega),hf _ (fun x h=>by simp at h;omega)]
  have p1:=hq.filter fun x=>decide (0<x)
  have p2:=hq.filter fun x=>decide (x<0)
  exact⟨List.perm_singleton.mp (by simpa using p1),List.perm_singleton.mp (by simpa using p2)⟩
 ·rintro⟨h1,h2⟩
  rw[h1,h2]at hp
  unfold Df
  refine(PM.ZqQ ?_ ?_).symm
  ·exact(hp.trans (List.Perm.swap (-1) 1 [])).symm
  ·simp
theorem Zq4{p q r:PE}(h:Pk (p σ) fun t=>∃ks:List Int,t=.lst (ks.map T.int)∧Pk (q σ) fun u=>∃k,u=.int k∧Pk (r σ) fun v=>v=.int 1∧k∈ks.drop 1∧Q (.int ((1+(ks.drop 1).idxOf k:Nat):Int))): Pk (Zhy p q r σ) Q:=by
 obtain⟨_,e1,ks,rfl,_,e2,k,rfl,_,e3,rfl,hm,h⟩:=h
 refine⟨_,?_,h⟩
 simp only[Zhy,e1,e2,e3,Option.bind_some,Zjd]
 rw[if_pos ⟨trivial,hm⟩]
theorem Zjw: (tab (n+1) c).drop 1=xsI n c:=by
 unfold xsI
 apply List.ext_getElem
 ·simp[tab]
 ·intro i h1 h2
  simp[tab]
theorem Zsi{k:Int}(h:l.map c=[k]): ∃u,l=[u]∧c u=k:=by
 cases l with
 | nil=>simp at h
 | cons a l=>
  cases l with
  | nil=>exact⟨a,rfl,by simpa using h⟩
  | cons b l=>simp at h
theorem ZsD(hi:i<n): (xsI n c)[i]?=some (c (i+1)):=Zbc (f:=fun i=>c (i+1)) hi
theorem Zsj{u:Nat}{k:Int}(h1:1≤u)(h2:u≤n)(hu:c u=k)(ho:∀i,1≤i→i≤n→c i=k→i=u): 1+(xsI n c).idxOf k=u∧k∈xsI n c:=by
 have hm:k∈xsI n c:=List.mem_of_getElem? (i:=u-1) (by rw[ZsD (by omega),show u-1+1=u by omega,hu])
 have hl:(xsI n c).idxOf k<(xsI n c).length:=List.idxOf_lt_length_iff.mpr hm
 have hn:(xsI n c).length=n:=Zao
 have hk:=List.getElem_idxOf hl
 have hx:(xsI n c)[(xsI n c).idxOf k]?=some k:=by rw[List.getElem?_eq_getElem hl,hk]
 rw[ZsD (by omega)]at hx
 have:=ho ((xsI n c).idxOf k+1) (by omega) (by omega) (by simpa using hx)
 exact⟨by omega,hm⟩
theorem Zi3(h:Df n c): ∃u d,ZaQ c n=[u]∧ZaU c n=[d]∧c u=1∧c d = -1∧u<n+1∧d<n+1∧1≤u∧1≤d∧1+(xsI n c).idxOf 1=u∧1+(xsI n c).idxOf (-1)=d∧1∈xsI n c∧-1∈xsI n c:=by
 obtain⟨h1,h2⟩:=df_iff.mp h
 obtain⟨u,eu,hu⟩:=Zsi h1
 obtain⟨d,ed,hd⟩:=Zsi h2
 have mu:=ups_mem.mp (show u∈ZaQ c n by rw[eu];simp)
 have md:=dns_mem.mp (show d∈ZaU c n by rw[ed];simp)
 have a1:=Zsj mu.1 mu.2.1 hu fun i q1 q2 q3=>by
  have:i∈ZaQ c n:=ups_mem.mpr ⟨q1,q2,by omega⟩
  rw[eu]at this
  simpa using this
 have a2:=Zsj md.1 md.2.1 hd fun i q1 q2 q3=>by
  have:i∈ZaU c n:=dns_mem.mpr ⟨q1,q2,by omega⟩
  rw[ed]at this
  simpa using this
 exact⟨u,d,eu,ed,hu,hd,by omega,by omega,mu.1,md.1,a1.1,a2.1,a1.2,a2.2⟩
noncomputable def grt(n:Nat)(G:Nat→Nat→Option Int)(c:Nat→Int): Option Int:=if dec (Df n c)then addO (G (1+(xsI n c).idxOf 1) (1+(xsI n c).idxOf (-1))) (some (c 0))else(Zce c (S40 G) n).2
def GB(b n:Nat)(G:Nat→Nat→Option Int): Prop:=∀i j,i<n+1→j<n+1→∀y,G i j=some y→Bd b y
theorem Zsk(hG:GB b n G): ∀i,i<n→SBd b (S40 G i):=fun i hi=>⟨fun x e=>by
 obtain⟨y,e1,e2⟩:=Zz1.mp e
 have:=hG 0 (i+1) (by omega) (by omega) y e1
 subst e2
 unfold Bd at *
 omega,fun x e=>hG (i+1) 0 (by omega) (by omega) x e⟩
theorem Ziv(hn:n≤60)(hb:b≤100000)(hb1:1≤b)(hG:GB b n G)(bc:∀i,i<n+1→Bd b (c i)): Zej [ZH n G R,ZR n c]=some (oT (grt n G c)):=by
 apply Pk.eq
 unfold Zej ZmT grt
 have ht:ZH n G R=.tup [.lst (tab (n+1) fun i=>.lst (tab (n+1) fun j=>oT (G i j))),.lst (tab n fun i=>Z1 (R i))]:=rfl
 have hs:ZR n c=.lst ((tab (n+1) c).map T.int):=by unfold ZR;rw[tab_map]
 walk_at "z"
 refine Zw (ZsW hn) ?_
 by_cases h:Df n c
 ·obtain⟨u,d,_,_,_,_,hu,hd,_,_,eu,ed,mu,md⟩:=Zi3 h
  rw[ZaH h]
  rw[ht]
  walk_at "z"
  refine Zq4 ?_
  walk_at "z"
  refine⟨tab (n+1) c,hs,?_⟩
  walk_at "z"
  refine⟨1,rfl,?_⟩
  walk_at "z"
  refine⟨rfl,by rw[Zjw];exact mu,?_⟩
  rw[Zjw,eu]
  walk_at "z"
  refine Zq4 ?_
  walk_at "z"
  refine⟨tab (n+1) c,hs,?_⟩
  walk_at "z"
  refine⟨-1,rfl,?_⟩
  walk_at "z"
  refine⟨rfl,by rw[Zjw];exact md,?_⟩
  rw[Zjw,ed]
  unfold ZR
  walk_at "z"
  exact Zw (ZfF (b:=some (c (Int.toNat 0)))) rfl
 ·rw[ZaM h]
  walk_at "z"
  refine Zw (Zs8 (by omega) hb hb1 hG) ?_
  walk_at "z"
  refine Zw (Ztl (by omega) hb bc (Zsk hG)) ?_
  unfold spT
  walk_at "z"
  rfl
theorem ZxH: ZR n (fun i=>c i * -1)=ZR n fun i=>-(c i):=by
 unfold ZR
 congr 1
 exact Zbz fun i _=>by show T.int (c i * -1)=T.int (-(c i));congr 1;omega
noncomputable def sU(G:Nat→Nat→Option Int)(c:Nat→Int)(l:List Nat): Int:=(l.map fun i=>c i*(G i 0).getD 0).sum
noncomputable def sD(G:Nat→Nat→Option Int)(c:Nat→Int)(l:List Nat): Int:=(l.map fun i=>c i*(G 0 i).getD 0).sum
def Zdq(G:Nat→Nat→Option Int)(c:Nat→Int)(n:Nat): Prop:=(∃i∈ZaQ c n,G i 0=none)∨∃i∈ZaU c n,G 0 i=none
theorem ZxI: sU G c (l++[i])=sU G c l+c i*(G i 0).getD 0:=by simp[sU]
theorem ZxJ: sD G c (l++[i])=sD G c l+c i*(G 0 i).getD 0:=by simp[sD]
theorem tot{G:Nat→Nat→Option Int}{c:Nat→Int}: ∀n,(Zdq G c n→(Zce c (S40 G) n).2=none)∧(¬Zdq G c n→(Zce c (S40 G) n).2=some (c 0+sU G c (ZaQ c n)-sD G c (ZaU c n)))
 | 0=>⟨fun h=>(by rcases h with⟨i,m,_⟩ | ⟨i,m,_⟩ <;> cases m),fun _=>by simp[Zce,sU,sD,ZaQ,ZaU]⟩
 | n+1=>by
  obtain⟨ih1,ih2⟩:=tot (G:=G) (c:=c) n
  have step:(Zce c (S40 G) (n+1)).2=addO (Zce c (S40 G) n).2 (ZcD (S40 G n) (c (n+1))).2:=rfl
  rw[step]
  have mono:Zdq G c n→Zdq G c (n+1):=fun h=>h.imp (fun⟨i,m,e⟩=>⟨i,by simp only[ZaQ,List.mem_append];exact .inl m,e⟩) fun⟨i,m,e⟩=>⟨i,by simp only[ZaU,List.mem_append];exact .inl m,e⟩
  rcases Int.lt_trichotomy (c (n+1)) 0 with h | h | h
  ·have h0:¬0<c (n+1):=by omega
   have hz:¬c (n+1)=0:=by omega
   have eu:ZaQ c (n+1)=ZaQ c n:=by simp[ZaQ,h0]
   have ed:ZaU c (n+1)=ZaU c n++[n+1]:=by simp[ZaU,h]
   have et:(ZcD (S40 G n) (c (n+1))).2=(G 0 (n+1)).map fun y=>y*(-1)*c (n+1):=by
    unfold ZcD S40
    rw[if_neg hz,if_pos h]
    cases G 0 (n+1) <;> rfl
   rw[et]
   cases hg:G 0 (n+1)with
   | none=>
    refine⟨fun _=>?_,fun q=>absurd (.inr ⟨n+1,by rw[ed];simp,hg⟩) q⟩
    cases (Zce c (S40 G) n).2 <;> rfl
   | some y=>
    have hl:Zdq G c (n+1)→Zdq G c n:=by
     rintro(⟨i,m,e⟩ | ⟨i,m,e⟩)
     ·rw[eu]at m;exact .inl ⟨i,m,e⟩
     ·rw[ed]at m
      rcases Zz8.mp m with m | m
      ·exact .inr ⟨i,m,e⟩
      ·rw[List.mem_singleton.mp m,hg]at e;cases e
    refine⟨fun q=>by rw[ih1 (hl q)];rfl,fun q=>?_⟩
    rw[ih2 fun r=>q (mono r),eu,ed,ZxJ,hg]
    simp only[addO,Option.map_some,Option.getD_some]
    congr 1
    have:y*(-1)*c (n+1) = -(c (n+1)*y):=by rw[Int.mul_neg,Int.mul_one,Int.neg_mul,Int.mul_comm]
    omega
  ·have h0:¬0<c (n+1):=by omega
   have h1:¬c (n+1)<0:=by omega
   have eu:ZaQ c (n+1)=ZaQ c n:=by simp[ZaQ,h0]
   have ed:ZaU c (n+1)=ZaU c n:=by simp[ZaU,h1]
   have et:(ZcD (S40 G n) (c (n+1))).2=some 0:=by unfold ZcD;rw[if_pos h]
   have el:Zdq G c (n+1)↔Zdq G c n:=by unfold Zdq;rw[eu,ed]
   rw[et,Zsd,el,eu,ed]
   exact⟨ih1,ih2⟩
  ·have h1:¬c (n+1)<0:=by omega
   have hz:¬c (n+1)=0:=by omega
   have eu:ZaQ c (n+1)=ZaQ c n++[n+1]:=by simp[ZaQ,h]
   have ed:ZaU c (n+1)=ZaU c n:=by simp[ZaU,h1]
   have et:(ZcD (S40 G n) (c (n+1))).2=(G (n+1) 0).map fun y=>y*c (n+1):=by
    unfold ZcD S40
    rw[if_neg hz,if_neg h1]
   rw[et]
   cases hg:G (n+1) 0 with
   | none=>
    refine⟨fun _=>?_,fun q=>absurd (.inl ⟨n+1,by rw[eu];simp,hg⟩) q⟩
    cases (Zce c (S40 G) n).2 <;> rfl
   | some y=>
    have hl:Zdq G c (n+1)→Zdq G c n:=by
     rintro(⟨i,m,e⟩ | ⟨i,m,e⟩)
     ·rw[eu]at m
      rcases Zz8.mp m with m | m
      ·exact .inl ⟨i,m,e⟩
      ·rw[List.mem_singleton.mp m,hg]at e;cases e
     ·rw[ed]at m;exact .inr ⟨i,m,e⟩
    refine⟨fun q=>by rw[ih1 (hl q)];rfl,fun q=>?_⟩
    rw[ih2 fun r=>q (mono r),eu,ed,ZxI,hg]
    simp only[addO,Option.map_some,Option.getD_some]
    congr 1
    have:y*c (n+1)=c (n+1)*y:=Int.mul_comm _ _
    omega
theorem ZrI{b n:Nat}{c:Nat→Int}{S:Nat→Sp}(bc:∀i,i<n+1→Bd b (c i))(bS:∀i,i<n→SBd b (S i)): ∀j,j≤n→∀y,(Zce c S j).2=some y→Bd (b+b+j+1) y
 | 0,_,y,e=>by cases e;exact(bc 0 (by omega)).mono (by omega)
 | j+1,h,y,e=>by
  obtain⟨p,q,h1,h2,rfl⟩:=addO_some.mp (show addO (Zce c S j).2 (ZcD (S j) (c (j+1))).2=some y from e)
  have ih:=ZrI bc bS j (by omega) p h1
  have hq:Bd (b+b) q:=by
   unfold ZcD at h2
   split at h2
   ·cases h2;exact Zcd
   ·split at h2
    ·obtain⟨z,e1,rfl⟩:=Zz1.mp h2
     exact((bS j (by omega)).1 z e1).mul (bc (j+1) (by omega))
    ·obtain⟨z,e1,rfl⟩:=Zz1.mp h2
     exact((bS j (by omega)).2 z e1).mul (bc (j+1) (by omega))
  exact(ih.add (hq.mono (by omega))).mono (by omega)
theorem Zjx(bc:∀i,i<n+1→Bd b (c i)): ∀i,i<n+1→Bd b (-(c i)):=fun i hi=>by
 have:=bc i hi
 unfold Bd at *
 omega
noncomputable def Zaf(c:Nat→Int)(x:Nat→Int): Nat→Int
 | 0=>c 0
 | j+1=>Zaf c x j+c (j+1)*x j
theorem ZrJ{c x:Nat→Int}: ∀n,c 0+(tab n fun i=>c (i+1)*x i).sum=Zaf c x n
 | 0=>by simp[tab,Zaf]
 | n+1=>by
  rw[←ZdQ (n:=n) (f:=fun i=>c (i+1)*x i),List.sum_append]
  have:=ZrJ (c:=c) (x:=x) n
  simp only[List.sum_cons,List.sum_nil,Zaf]
  omega
theorem Zsl{c x:Nat→Int}{S:Nat→Sp}{n:Nat}(h:∀i,i<n→InS (S i) (x i)): ∀j,j≤n→InS (Zce c S j) (Zaf c x j)
 | 0,_=>⟨fun l e=>by cases e;exact Int.le_refl _,fun l e=>by cases e;exact Int.le_refl _⟩
 | j+1,hj=>Zwv (Zsl h j (by omega)) (Zvy (h j (by omega)))
theorem ZdT{c x:Nat→Int}: ∀n,Zaf (fun i=>-(c i)) x n = -(Zaf c x n)
 | 0=>rfl
 | n+1=>by
  simp only[Zaf,ZdT n,Int.neg_mul]
  omega
noncomputable def sV(c x:Nat→Int)(l:List Nat): Int:=(l.map fun i=>c i*x (i-1)).sum
theorem ZqB{c x:Nat→Int}: ∀n,Zaf c x n=c 0+sV c x (ZaQ c n)+sV c x (ZaU c n)
 | 0=>by simp[Zaf,sV,ZaQ,ZaU]
 | n+1=>by
  have ih:=ZqB (c:=c) (x:=x) n
  have sn:∀l,sV c x (l++[n+1])=sV c x l+c (n+1)*x n:=fun l=>by simp[sV]
  simp only[Zaf,ZaQ,ZaU,ih]
  rcases Int.lt_trichotomy (c (n+1)) 0 with h | h | h
  ·rw[if_neg (by omega),if_pos h,List.append_nil,sn]
   omega
  ·rw[if_neg (by omega),if_neg (by omega),List.append_nil,List.append_nil,h]
   omega
  ·rw[if_pos h,if_neg (by omega),List.append_nil,sn]
   omega
theorem ZjW(h:Zaq n G R x)(e:grt n G c=some y): Zaf c x n≤y:=by
 unfold grt at e
 by_cases hd:Df n c
 ·rw[ZaH hd]at e
  obtain⟨u,d,eu,ed,hcu,hcd,hu,hdn,hu1,hd1,iu,id_,_,_⟩:=Zi3 hd
  rw[iu,id_]at e
  obtain⟨p,q,h1,h2,rfl⟩:=addO_some.mp (show addO (G u d) (some (c 0))=some y from e)
  cases h2
  have hb:=h.1 u d hu hdn p h1
  rw[ZqB,eu,ed]
  have f:∀i,1≤i→Zar x i=x (i-1):=fun i hi=>by
   cases i with
   | zero=>omega
   | succ i=>rfl
  rw[f u hu1,f d hd1]at hb
  simp only[sV,List.map_cons,List.map_nil,List.sum_cons,List.sum_nil,hcu,hcd]
  omega
 ·rw[ZaM hd]at e
  refine(Zsl (S:=S40 G) (n:=n) (fun i hi=>⟨fun l el=>?_,fun r er=>?_⟩) n (Zz10 n)).2 y e
  ·obtain⟨z,e1,rfl⟩:=Zz1.mp el
   have:=h.1 0 (i+1) (by omega) (by omega) z e1
   have f0:Zar x 0=0:=rfl
   have f1:Zar x (i+1)=x i:=rfl
   show z*(-1)≤x i
   omega
  ·have:=h.1 (i+1) 0 (by omega) (by omega) r er
   have f0:Zar x 0=0:=rfl
   have f1:Zar x (i+1)=x i:=rfl
   omega
theorem Zq5(hn:n≤60)(hb:b≤100000)(bc:∀i,i<n+1→Bd b (c i))(bx:∀i,i<n→Bd b (x i)): Zdb [ZR n c,Zcb n x]=some (.int (Zaf c x n)):=by
 apply Pk.eq
 unfold Zdb Zmf ZR Zcb
 have h0:0<n+1:=by omega
 walk_at "z"
 refine ZbQ (n:=n) (a:=fun i=>.int i) (b:=fun i=>.int (c (i+1)*x i)) (by omega) ?_ (fun i hi=>?_) ?_
 ·walk_at "z"
  rfl
 ·walk_at "z"
  rw[show((i:Int)+1).toNat=i+1 by omega]
  exact ZcU (Zdx (bc (i+1) (by omega)) (bx i hi) (by omega) (by omega)) rfl
 walk_at "z"
 refine⟨.int (tab n fun i=>c (i+1)*x i).sum,by simp only[Zkd,Zv5,Option.map_some],?_⟩
 walk_at "z"
 rw[show(Int.toNat 0)=0 from rfl,ZrJ]
def SumB(n:Nat)(c:Nat→Int)(K:Int): Prop:=Bd 140 (c 0)∧∀i,1≤i→i<n+1→-K≤c i∧c i≤K
theorem SumB.bd(h:SumB n c K)(hK:K≤4000000000): ∀i,i<n+1→Bd 140 (c i):=fun i hi=>by
 by_cases q:i=0
 ·subst q;exact h.1
 ·have:=h.2 i (by omega) hi
  exact Zbs (i:=33) (by omega) (by decide)
theorem SumB.mono(h:SumB n c K)(hK:K≤K'): SumB n c K':=⟨h.1,fun i h1 h2=>by have:=h.2 i h1 h2;omega⟩
theorem Zjy{x:Nat}{k:Int}{N:TL→Prop}(e:σ x=some (.lst (tab (n+1) fun i=>.int (c i))))(h0:1≤k)(h1:k<(n+1:Nat))(bc:SumB n c K)(hK:K≤K')(v0:-K'≤v)(v1:v≤K')(h:∀c',SumB n c' K'→N (Z8 σ x (.lst (tab (n+1) fun i=>.int (c' i))))): PutP σ x (.int v) (.int k) N:=by
 refine Znd (n:=n+1) (f:=fun i=>.int (c i)) e (by omega) h1 ?_
 have:=h (fun i=>if i=k.toNat then v else c i) ⟨by show Bd 140 (if 0=k.toNat then v else c 0);rw[if_neg (by omega)];exact bc.1,fun i hi1 hi2=>by
  by_cases q:i=k.toNat
  ·simp only[q,if_true];exact⟨v0,v1⟩
  ·simp only[q,if_false];have:=bc.2 i hi1 hi2;omega⟩
 rw[show(tab (n+1) fun i=>if i=k.toNat then T.int v else T.int (c i))=tab (n+1) fun i=>T.int (if i=k.toNat then v else c i)from Zbz fun i _=>by split <;> rfl]
 exact this
noncomputable def Z0(i:Nat): Nat→Int:=fun k=>if 0<i∧k=i then 1 else 0
theorem ZeX(hn:n≤900): Zde [.int i,.int n]=some (ZR n (Z0 i)):=by
 apply Pk.eq
 unfold Zde Znx ZR
 walk_at "z"
 refine ZbQ (n:=n+1) (a:=fun k=>.int (k:Nat)) (b:=fun k=>.int (Z0 i k)) (by omega) ?_ (fun k hk=>?_) rfl
 ·walk_at "z"
  exact Zgi (n+1) (by omega) (by omega) rfl
 ·walk_at "z"
  by_cases h:0<i
  ·refine⟨fun _=>?_,fun c=>absurd c (by simp;omega)⟩
   walk_at "z"
   by_cases q:k=i
   ·refine⟨fun _=>?_,fun c=>absurd c (by simp[q])⟩
    walk_at "z"
    show _=T.int (Z0 i k)
    unfold Z0
    rw[if_pos ⟨h,q⟩]
   ·refine⟨fun c=>absurd c (by simp;omega),fun _=>?_⟩
    walk_at "z"
    show _=T.int (Z0 i k)
    unfold Z0
    rw[if_neg (fun c=>q c.2)]
  ·refine⟨fun c=>absurd c (by simp;omega),fun _=>⟨fun c=>absurd c (by decide),fun _=>?_⟩⟩
   walk_at "z"
   show _=T.int (Z0 i k)
   unfold Z0
   rw[if_neg (fun c=>h c.1)]
theorem Zup{d:Nat→Int}(hn:n≤900): ZiI [ZR n c,ZR n d]=some (ZR n fun k=>c k+d k):=by
 apply Pk.eq
 unfold ZiI ZmW ZR
 walk_at "z"
 refine ZnM (n:=n+1) (a:=fun i=>.int (c i)) (b:=fun i=>.int (d i)) (c:=fun i=>.int (c i+d i)) (by omega) ?_ (fun i hi=>?_) rfl
 ·walk_at "z"
  rfl
 ·walk_at "z"
  rfl
theorem Ziw{d:Nat→Int}(hn:n≤900)(hb1:1≤b)(hb:b≤100000)(bd:∀i,i<n+1→Bd b (d i)): ZeV [ZR n c,ZR n d]=some (ZR n fun k=>c k-d k):=by
 apply Pk.eq
 unfold ZeV ZmY
 walk_at "z"
 refine Zw (ZeM (by omega) hb bd (show Bd b (-1)by unfold Bd;have:=Zea hb1;unfold Bd at this;simpa using this)) ?_
 walk_at "z"
 refine Zw (Zup hn) ?_
 walk_at "z"
 have:(fun k=>c k+d k * -1)=fun k=>c k-d k:=by funext k;omega
 rw[this]
noncomputable def Zd3(C:Nat→Nat→Int): Nat→Nat→Int
 | 0=>fun _=>0
 | i+1=>C i
noncomputable def dC(C:Nat→Nat→Int)(i j:Nat): Nat→Int:=fun k=>Zd3 C i k-Zd3 C j k
noncomputable def rcG(n:Nat)(G:Nat→Nat→Option Int)(C:Nat→Nat→Int)(i j:Nat): Option Int:=grt n G (dC C i j)
noncomputable def rcR(n:Nat)(R:Nat→Int×Int)(C:Nat→Nat→Int)(i:Nat): Int×Int:=Za5 (C i) R n
noncomputable def ZaY(n m:Nat)(C:Nat→Nat→Int): T:=.lst (tab m fun i=>ZR n (C i))
def CB(b n m:Nat)(C:Nat→Nat→Int): Prop:=∀i,i<m→∀k,k<n+1→Bd b (C i k)
theorem CB.full(h:CB b n m C): ∀i,i<m+1→∀k,k<n+1→Bd b (Zd3 C i k)
 | 0,_,_,_=>Zcd
 | i+1,hi,k,hk=>h i (by omega) k hk
theorem CB.dif(h:CB b n m C)(hi:i<m+1)(hj:j<m+1): ∀k,k<n+1→Bd (b+1) (dC C i j k):=fun k hk=>by
 have h1:=h.full i hi k hk
 have h2:=h.full j hj k hk
 unfold Bd dC at *
 rw[Nat.pow_succ]
 omega
theorem unC_0: Z0 0=fun _=>0:=by funext k;unfold Z0;rw[if_neg (by omega)]
theorem Zoy(hG:GB b n G)(bc:∀i,i<n+1→Bd b (c i)): ∀y,grt n G c=some y→Bd (b+b+n+1) y:=fun y e=>by
 unfold grt at e
 by_cases h:Df n c
 ·rw[ZaH h]at e
  obtain⟨u,d,_,_,_,_,hu,hd,_,_,iu,id_,_,_⟩:=Zi3 h
  rw[iu,id_]at e
  obtain⟨p,q,h1,h2,rfl⟩:=addO_some.mp (show addO (G u d) (some (c 0))=some y from e)
  cases h2
  exact((hG u d hu hd p h1).add (bc 0 (by omega))).mono (by omega)
 ·rw[ZaM h]at e
  exact(ZrI bc (Zsk hG) n (Zz10 n) y e).mono (by omega)
theorem ZyQ(hG:GB b n G)(hC:CB b n m C)(hB:b+b+n+3≤B): SmG B m (rcG n G C):=fun i j hi hj y e=>(Zoy (b:=b+1) (fun u v hu hv z e=>(hG u v hu hv z e).mono (by omega)) (hC.dif hi hj) y e).mono (by omega)
theorem ZsE(ok:∀t,t<n→RestOk (R t)): ∀t,t<m→RestOk (rcR n R C t):=fun t _=>by
 unfold rcR
 rw[ZcL ok n (Zz10 n)]
 exact Zcm (ZdA _ _ _) _
theorem ZyR(ok:∀t,t<n→RestOk (R t))(hR:∀t,t<n→RBd b (R t))(hC:CB b n m C)(hB:b+b+n≤B): SmR B m (rcR n R C):=fun t ht=>by
 unfold rcR
 rw[ZcL ok n (Zz10 n)]
 exact Zg0 (ZdA _ _ _) ((Zjv (fun k hk=>hC t ht k hk) hR n (Zz10 n)).mono (by omega)) ((Zow (fun k hk=>hC t ht k hk) hR n (Zz10 n)).mono (by omega))
theorem Zzx(h:∀k,c k=0): ∀n,ZaQ c n=[]
 | n=>List.eq_nil_iff_forall_not_mem.mpr fun i hi=>by have:=(ups_mem.mp hi).2.2;rw[h]at this;omega
theorem ZsF(h:∀k,c k=0): grt n G c=some 0:=by
 unfold grt
 have hd:¬Df n c:=fun q=>by have:=(df_iff.mp q).1;rw[Zzx h]at this;cases this
 rw[ZaM hd]
 have:∀j,Zce c (S40 G) j=(some 0,some 0):=fun j=>by
  induction j with
  | zero=>show(some (c 0),some (c 0))=_;rw[h]
  | succ j ih=>
   show Zj7 (Zce c (S40 G) j) (ZcD (S40 G j) (c (j+1)))=_
   rw[ih,h]
   rfl
 show(Zce c (S40 G) n).2=some 0
 rw[this]
theorem ZsO: ∀i,i<m+1→rcG n G C i i=some 0:=fun i _=>ZsF fun k=>by unfold dC;omega
theorem Zf6{c d x:Nat→Int}: ∀n,Zaf (fun k=>c k-d k) x n=Zaf c x n-Zaf d x n
 | 0=>rfl
 | n+1=>by
  simp only[Zaf,Zf6 n,Int.sub_mul]
  omega
theorem Zq6{x:Nat→Int}: ∀n,Zaf (fun _=>0) x n=0
 | 0=>rfl
 | n+1=>by simp only[Zaf,Zq6 n,Int.zero_mul];omega
theorem Zoz{c:Nat→Int}{R:Nat→Int×Int}{x:Nat→Int}{n:Nat}(ok:∀t,t<n→RestOk (R t))(h:∀t,t<n→Zan (R t) (x t)): ∀j,j≤n→Zbf c R j ∣ Zaf c x j-ZbP c R j
 | 0,_=>by show(0:Int) ∣ c 0-c 0;rw[Int.sub_self];exact Int.dvd_zero _
 | j+1,hj=>by
  have h1:Zbf c R (j+1) ∣ Zbf c R j:=Int.gcd_dvd_left ..
  have h2:Zbf c R (j+1) ∣ c (j+1)*(R j).1:=Int.gcd_dvd_right ..
  obtain⟨z,hz⟩:=(Zbl (ok j (by omega)).nn (x j)).mp (h j (by omega))
  have h3:=Int.dvd_add (Int.dvd_trans h1 (Zoz ok h j (by omega))) (Int.dvd_trans h2 (Int.dvd_mul_right _ z))
  rw[show Zaf c x (j+1)=Zaf c x j+c (j+1)*x j from rfl,show ZbP c R (j+1)=ZbP c R j+c (j+1)*(R j).2 from rfl,show x j=(R j).2+(R j).1*z by omega,Int.mul_add,←Int.mul_assoc]
  generalize c (j+1)*(R j).1*z=u at *
  generalize c (j+1)*(R j).2=v at *
  rwa [show Zaf c x j+(v+u)-(ZbP c R j+v)=Zaf c x j-ZbP c R j+u by omega]
theorem ZqC{kk:Int}{w at_ m lo:Int}{N:TL→Prop}(hk0:0≤kk)(hk9:kk≤1000)(hm:0<m)(hn:n≤9)(hK:K≤K')(hlo:-K'≤-lo)(hhi:m-1-lo≤K')(e0:σ 0=some (scr ns))(e1:σ 1=some (.int kk))(e2:σ 2=some (.int n))(e4:σ 4=some (.int w))(e5:σ 5=some (.int (1+at_)))(e3:σ 3=some (.lst (tab (n+1) fun i=>.int (c i))))(bc:SumB n c K)(h:∀σ' c',σ' 0=some (scr ns)→σ' 1=some (.int kk)→σ' 2=some (.int n)→σ' 4=some (.int w)→σ' 5=some (.int (1+at_))→σ' 3=some (.lst (tab (n+1) fun i=>.int (c' i)))→SumB n c' K'→N σ')(pm plo:PE)(epm:∀σ,pm σ=some (.int m))(eplo:∀σ,plo σ=some (.int lo)): Psk (Za3 (ZaJ (Zd (Za 2) Zl)) (Zak 7) (Zbq 3 [] (Zg Za7 (Zq ZaO (Zd (Za 0) (Zd (Zg Z4 (Zg Z4 (Za 1) (Zj 1)) (Za 7)) (Zd pm Zl)))) plo) ZaP (Zg Z4 (Za 7) (Zj 1))) σ) Q N:=by
 refine Zdj (n:=n) (a:=fun i=>.int i) (P:=fun _ σ'=>σ' 0=some (scr ns)∧σ' 1=some (.int kk)∧σ' 2=some (.int n)∧σ' 4=some (.int w)∧σ' 5=some (.int (1+at_))∧∃c',σ' 3=some (.lst (tab (n+1) fun i=>.int (c' i)))∧SumB n c' K') ?_ ⟨e0,e1,e2,e4,e5,c,e3,bc.mono hK⟩ ?_ ?_
 ·walk_at "z"
  rfl
 ·rintro i σ' hi ⟨f0,f1,f2,f4,f5,c',f3,bc'⟩
  obtain⟨k0,k1⟩:=ZbB ns (kk+1+(i:Int)) hm
  walk_at "z"
  refine⟨_,epm _,?_⟩
  walk_at "z"
  refine Zw (Zbt (by omega) (by omega) hm) ?_
  refine⟨_,eplo _,?_⟩
  walk_at "z"
  refine Zjy (n:=n) (c:=c') (K:=K') (K':=K') (by walk_at "r") (by omega) (by omega) bc' (Int.le_refl _) (by omega) (by omega) fun c2 bc2=>?_
  exact⟨by walk_at "r",by walk_at "r",by walk_at "r",by walk_at "r",by walk_at "r",c2,Zcu,bc2⟩
 ·rintro σ' ⟨f0,f1,f2,f4,f5,c',f3,bc'⟩
  exact h σ' c' f0 f1 f2 f4 f5 f3 bc'
theorem ZsG{kk:Int}(hk0:0≤kk)(hk9:kk≤1000)(hL:Lay ns)(hn:n≤9): Pk (ZfU [scr ns,.int kk,.int n]) fun t=>∃c,t=ZR n c∧SumB n c 1000000000:=by
 unfold ZfU Znv
 have bn:Bd 140 (Zcc ns kk):=Zbs (Zhp ns kk) (by decide)
 obtain⟨p0,p1⟩:=ZbB ns kk (show(0:Int)<6 by decide)
 refine Zr3 rfl ?_
 refine Zem (fun σ'=>σ' 0=some (scr ns)∧σ' 1=some (.int kk)∧σ' 2=some (.int n)∧∃c,σ' 3=some (.lst (tab (n+1) fun i=>.int (c i)))∧SumB n c 0) ?_ ?_
 ·walk_at "z"
  refine Zw (ZgZ hL (by omega) (by omega)) ?_
  walk_at "z"
  refine Zox (by omega) ?_
  refine Zro (by omega) ?_
  rw[show cn (T.int (Zcc ns kk)) (fun _=>T.int 0)=fun i=>T.int (cn (Zcc ns kk) (fun _=>0) i)from by funext i;cases i <;> rfl]
  refine⟨Ziy fun _ _=>rfl,?_⟩
  refine⟨rfl,rfl,rfl,_,Zcu,bn,fun i h1 h2=>?_⟩
  cases i with
  | zero=>omega
  | succ i=>exact⟨Int.le_refl 0,Int.le_refl 0⟩
 rintro σ1 ⟨e0,e1,e2,c,e3,bc⟩
 walk_at "z"
 refine Zw (Zbt (by omega) (by omega) (by decide)) ?_
 by_cases hz:ZaT ns kk 6=0∨n=0
 ·rcases hz with hz | hz
  ·walk_at "z"
   exact⟨c,rfl,bc.mono (by decide)⟩
  ·by_cases q:ZaT ns kk 6=0
   ·walk_at "z"
    exact⟨c,rfl,bc.mono (by decide)⟩
   ·have:(n:Int)=0:=by omega
    walk_at "z"
    exact⟨c,rfl,bc.mono (by decide)⟩
 have hz1:ZaT ns kk 6≠0:=fun q=>hz (.inl q)
 have hn0:(n:Int)≠0:=fun q=>hz (.inr (by omega))
 obtain⟨a0,a1⟩:=ZbB ns (kk+1) (show(0:Int)<n by omega)
 walk_at "z"
 refine Zw (Zbt (by omega) (by omega) (by omega)) ?_
 refine ZoK ?_
 generalize ZaT ns kk 6=w at *
 generalize ZaT ns (kk+1) n=at_ at *
 let M:Int→TL→Prop:=fun K σ'=>σ' 0=some (scr ns)∧σ' 1=some (.int kk)∧σ' 2=some (.int n)∧σ' 4=some (.int w)∧σ' 5=some (.int (1+at_))∧∃c,σ' 3=some (.lst (tab (n+1) fun i=>.int (c i)))∧SumB n c K
 refine Zem (M 6) ?_ ?_
 ·walk_at "z"
  refine⟨fun q=>?_,fun q=>?_⟩
  ·obtain⟨k0,k1⟩:=ZbB ns (kk+2) (show(0:Int)<13 by decide)
   walk_at "z"
   refine Zw (Zbt (by omega) (by omega) (by decide)) ?_
   walk_at "z"
   refine Zjy (n:=n) (c:=c) (K:=0) (K':=6) (by walk_at "r") (by omega) (by omega) bc (by decide) (by omega) (by omega) fun c' bc'=>?_
   exact⟨by walk_at "r",by walk_at "r",by walk_at "r",by walk_at "r",by walk_at "r",c',Zcu,bc'⟩
  ·walk_at "z"
   exact⟨by walk_at "r",by walk_at "r",by walk_at "r",by walk_at "r",by walk_at "r",c,by walk_at "r",bc.mono (by decide)⟩
 clear bc e3 c
 rintro σ2 ⟨f0,f1,f2,f4,f5,c1,f3,bc1⟩
 refine Zem (M 7) ?_ ?_
 ·have go:Psk ((Zs (ZN 6 (Zg Z4 (Zj 1) (Zq ZaO (Zd (Za 0) (Zd (Zg Z4 (Za 1) (Zj 2)) (Zd (Za 2) Zl)))))) (Zs (Zbq 3 [] (Zj 1) ZaP (Za 5)) (Zbq 3 [] (Zg Za7 (Zg Zt (Za 3) (Za 6)) (Zj 1)) ZaP (Za 6)))) σ2) (fun t=>∃c,t=ZR n c∧SumB n c 1000000000) (M 7):=by
   obtain⟨k0,k1⟩:=ZbB ns (kk+2) (show(0:Int)<n by omega)
   walk_at "z"
   refine Zw (Zbt (by omega) (by omega) (by omega)) ?_
   generalize ZaT ns (kk+2) n=to_ at *
   walk_at "z"
   refine Zjy (n:=n) (c:=c1) (K:=6) (K':=6) (by walk_at "r") (by omega) (by omega) bc1 (by decide) (by decide) (by decide) fun c' bc'=>?_
   have hto:=bc'.2 (1+to_).toNat (by omega) (by omega)
   walk_at "z"
   refine Zjy (n:=n) (c:=c') (K:=6) (K':=7) (by walk_at "r") (by omega) (by omega) bc' (by decide) (by omega) (by omega) fun c2 bc2=>?_
   exact⟨by walk_at "r",by walk_at "r",by walk_at "r",by walk_at "r",by walk_at "r",c2,Zcu,bc2⟩
  have no:M 7 σ2:=⟨f0,f1,f2,f4,f5,c1,f3,bc1.mono (by decide)⟩
  by_cases q2:w=2
  ·refine ZoJ ?_
   refine⟨true,?_,fun _=>go,fun e=>by cases e⟩
   simp[bOr,ZK,Zg,Za,f4,Zj,qEq,Zjl,ZbR,q2]
  ·by_cases q3:w=3
   ·refine ZoJ ?_
    refine⟨true,?_,fun _=>go,fun e=>by cases e⟩
    simp[bOr,ZK,Zg,Za,f4,Zj,qEq,Zjl,ZbR,q3]
   ·walk_at "z"
    exact no
 clear bc1 f3 c1
 clear f0 f1 f2 f4 f5
 rintro σ3 ⟨f0,f1,f2,f4,f5,c1,f3,bc1⟩
 refine Zem (M 7) ?_ ?_
 ·walk_at "z"
  refine⟨fun q=>?_,fun q=>?_⟩
  ·exact ZqC hk0 hk9 (m:=7) (lo:=3) (K:=7) (K':=7) (by decide) hn (by decide) (by decide) (by decide) f0 f1 f2 f4 f5 f3 bc1 (fun σ' c' g0 g1 g2 g4 g5 g3 bc'=>⟨g0,g1,g2,g4,g5,c',g3,bc'⟩) _ _ (fun _=>rfl) (fun _=>rfl)
  ·walk_at "z"
   exact⟨f0,f1,f2,f4,f5,c1,f3,bc1⟩
 clear bc1 f3 c1
 clear f0 f1 f2 f4 f5
 rintro σ4 ⟨f0,f1,f2,f4,f5,c1,f3,bc1⟩
 refine Zem (M 1000000000) ?_ ?_
 ·walk_at "z"
  refine⟨fun q=>?_,fun q=>?_⟩
  ·exact ZqC hk0 hk9 (m:=2000000001) (lo:=1000000000) (K:=7) (K':=1000000000) (by decide) hn (by decide) (by decide) (by decide) f0 f1 f2 f4 f5 f3 bc1 (fun σ' c' g0 g1 g2 g4 g5 g3 bc'=>⟨g0,g1,g2,g4,g5,c',g3,bc'⟩) _ _ (fun _=>rfl) (fun _=>rfl)
  ·walk_at "z"
   exact⟨f0,f1,f2,f4,f5,c1,f3,bc1.mono (by decide)⟩
 rintro σ5 ⟨g0,g1,g2,g4,g5,c2,g3,bc2⟩
 walk_at "z"
 exact⟨c2,rfl,bc2⟩
theorem Zq7: ∀{n:Nat},(∀i,1≤i→i≤n→¬0<c i)→ZaQ c n=[]
 | n,h=>List.eq_nil_iff_forall_not_mem.mpr fun i hi=>h i (ups_mem.mp hi).1 (ups_mem.mp hi).2.1 (ups_mem.mp hi).2.2
theorem Zq8: ∀{n:Nat},(∀i,1≤i→i≤n→¬c i<0)→ZaU c n=[]
 | n,h=>List.eq_nil_iff_forall_not_mem.mpr fun i hi=>h i (dns_mem.mp hi).1 (dns_mem.mp hi).2.1 (dns_mem.mp hi).2.2
theorem ZrK{c:Nat→Int}{a:Nat}: ∀{n:Nat},(∀i,1≤i→i≤n→(0<c i↔i=a))→1≤a→a≤n→ZaQ c n=[a]
 | 0,_,h1,h2=>by omega
 | n+1,h,h1,h2=>by
  have hn:=h (n+1) (by omega) (by omega)
  show ZaQ c n++(if 0<c (n+1)then [n+1]else [])=[a]
  by_cases q:n+1=a
  ·rw[if_pos (hn.mpr q),Zq7 (fun i g1 g2 g=>by have:=(h i g1 (by omega)).mp g;omega),q];rfl
  ·rw[if_neg (fun g=>q (hn.mp g)),ZrK (fun i g1 g2=>h i g1 (by omega)) h1 (by omega)];rfl
theorem ZrL{c:Nat→Int}{a:Nat}: ∀{n:Nat},(∀i,1≤i→i≤n→(c i<0↔i=a))→1≤a→a≤n→ZaU c n=[a]
 | 0,_,h1,h2=>by omega
 | n+1,h,h1,h2=>by
  have hn:=h (n+1) (by omega) (by omega)
  show ZaU c n++(if c (n+1)<0 then [n+1]else [])=[a]
  by_cases q:n+1=a
  ·rw[if_pos (hn.mpr q),Zq8 (fun i g1 g2 g=>by have:=(h i g1 (by omega)).mp g;omega),q];rfl
  ·rw[if_neg (fun g=>q (hn.mp g)),ZrL (fun i g1 g2=>h i g1 (by omega)) h1 (by omega)];rfl
theorem Zff{a:Nat}(h:1≤a): Z0 a a=1:=by unfold Z0;rw[if_pos ⟨by omega,rfl⟩]
theorem Zd0{a:Nat}(h:k≠a): Z0 a k=0:=by unfold Z0;rw[if_neg (fun q=>h q.2)]
theorem ZyS{a:Nat}(ha:a<n+1)(hb:b<n+1)(hd:∀i,i<n+1→G i i=some 0): grt n G (fun k=>Z0 a k-Z0 b k)=G a b:=by
 by_cases hab:a=b
 ·subst hab
  rw[ZsF (fun k=>by omega),hd a ha]
 have c0:(fun k=>Z0 a k-Z0 b k) 0=0:=by
  show Z0 a 0-Z0 b 0=0
  unfold Z0
  rw[if_neg (by omega),if_neg (by omega)];rfl
 generalize hc:(fun k=>Z0 a k-Z0 b k)=c at *
 have hk:∀k,c k=Z0 a k-Z0 b k:=fun k=>by rw[←hc]
 have hu:∀k,(Z0 a k=1∧1≤a∧k=a)∨(Z0 a k=0∧(a=0∨k≠a)):=fun k=>by
  unfold Z0
  split
  ·rename_i q;exact .inl ⟨rfl,q.1,q.2⟩
  ·rename_i q;exact .inr ⟨rfl,by omega⟩
 have hv:∀k,(Z0 b k=1∧1≤b∧k=b)∨(Z0 b k=0∧(b=0∨k≠b)):=fun k=>by
  unfold Z0
  split
  ·rename_i q;exact .inl ⟨rfl,q.1,q.2⟩
  ·rename_i q;exact .inr ⟨rfl,by omega⟩
 have up:1≤a→ZaQ c n=[a]:=fun h1=>ZrK (fun i g1 g2=>by rw[hk];have:=hu i;have:=hv i;omega) h1 (by omega)
 have up0:a=0→ZaQ c n=[]:=fun h1=>Zq7 fun i g1 g2=>by rw[hk];have:=hu i;have:=hv i;omega
 have dn:1≤b→ZaU c n=[b]:=fun h1=>ZrL (fun i g1 g2=>by rw[hk];have:=hu i;have:=hv i;omega) h1 (by omega)
 have dn0:b=0→ZaU c n=[]:=fun h1=>Zq8 fun i g1 g2=>by rw[hk];have:=hu i;have:=hv i;omega
 unfold grt
 by_cases h:1≤a∧1≤b
 ·have ca:c a=1:=by rw[hk,Zff h.1,Zd0 (by omega)];rfl
  have cb:c b = -1:=by rw[hk,Zff h.2,Zd0 (by omega)];rfl
  have hD:Df n c:=df_iff.mpr ⟨by rw[up h.1,List.map_cons,ca];rfl,by rw[dn h.2,List.map_cons,cb];rfl⟩
  rw[ZaH hD]
  obtain⟨u,d,e1,e2,_,_,_,_,_,_,i1,i2,_,_⟩:=Zi3 hD
  rw[up h.1]at e1
  rw[dn h.2]at e2
  cases e1;cases e2
  show addO (G (1+(xsI n c).idxOf 1) (1+(xsI n c).idxOf (-1))) (some (c 0))=_
  rw[i1,i2,c0]
  cases G a b with
  | none=>rfl
  | some y=>show some (y+0)=some y;rw[Int.add_zero]
 ·have hD:¬Df n c:=fun q=>by
   obtain⟨h1,h2⟩:=df_iff.mp q
   by_cases g:1≤a
   ·rw[dn0 (by omega)]at h2;cases h2
   ·rw[up0 (by omega)]at h1;cases h1
  rw[ZaM hD]
  show(Zce c (S40 G) n).2=_
  obtain⟨t1,t2⟩:=tot (G:=G) (c:=c) n
  by_cases g:1≤a
  ·have hb0:b=0:=by omega
   have ca:c a=1:=by rw[hk,Zff g,Zd0 (by omega)];rfl
   subst hb0
   cases e:G a 0 with
   | none=>exact t1 (.inl ⟨a,by rw[up g];exact Zz9.mpr rfl,e⟩)
   | some y=>
    rw[t2 (fun q=>by
     rcases q with⟨i,hi,q⟩ | ⟨i,hi,q⟩
     ·rw[up g]at hi;rw[List.mem_singleton.mp hi,e]at q;cases q
     ·rw[dn0 rfl]at hi;cases hi),up g,dn0 rfl,c0]
    simp[sU,sD,ca,e]
  ·have ha0:a=0:=by omega
   have hb1:1≤b:=by omega
   have cb:c b = -1:=by rw[hk,Zff hb1,Zd0 (by omega)];rfl
   subst ha0
   cases e:G 0 b with
   | none=>exact t1 (.inr ⟨b,by rw[dn hb1];exact Zz9.mpr rfl,e⟩)
   | some y=>
    rw[t2 (fun q=>by
     rcases q with⟨i,hi,q⟩ | ⟨i,hi,q⟩
     ·rw[up0 rfl]at hi;cases hi
     ·rw[dn hb1]at hi;rw[List.mem_singleton.mp hi,e]at q;cases q),up0 rfl,dn hb1,c0]
    simp[sU,sD,cb,e]
theorem ZoV{a:Nat}{R:Nat→Int×Int}(h1:1≤a)(nn:0≤(R (a-1)).1): ∀j,Zbf (Z0 a) R j=(if a≤j then(R (a-1)).1 else 0)∧ZbP (Z0 a) R j=if a≤j then(R (a-1)).2 else 0
 | 0=>by
  rw[if_neg (by omega),if_neg (by omega)]
  exact⟨rfl,Zd0 (by omega)⟩
 | j+1=>by
  obtain⟨i1,i2⟩:=ZoV h1 nn j
  show((Int.gcd (Zbf (Z0 a) R j) (Z0 a (j+1)*(R j).1):Nat):Int)=_∧ZbP (Z0 a) R j+Z0 a (j+1)*(R j).2=_
  rw[i1,i2]
  by_cases q:j+1=a
  ·subst q
   rw[Zff h1,if_neg (by omega),if_pos (by omega),if_neg (by omega),if_pos (by omega),Nat.add_sub_cancel]
   rw[Nat.add_sub_cancel]at nn
   constructor
   ·rw[Int.one_mul,Int.gcd_zero_left];omega
   ·omega
  ·rw[Zd0 q,Int.zero_mul,Int.zero_mul,Int.gcd_zero_right]
   by_cases g:a≤j
   ·rw[if_pos g,if_pos (by omega),if_pos g,if_pos (by omega)]
    exact⟨by omega,by omega⟩
   ·rw[if_neg g,if_neg (by omega),if_neg g,if_neg (by omega)]
    exact⟨rfl,rfl⟩
theorem ZrM{a:Nat}(ok:∀t,t<n→RestOk (R t))(h1:1≤a)(h2:a≤n): Za5 (Z0 a) R n=R (a-1):=by
 have oa:=ok (a-1) (by omega)
 rw[ZcL ok n (Zz10 n),(ZoV h1 oa.nn n).1,(ZoV h1 oa.nn n).2,if_pos h2,if_pos h2]
 exact Zml (Zcm oa.nn _) oa fun x=>by rw[ZcQ oa.nn,Zbl oa.nn]
noncomputable def fO(o:Nat→Nat): Nat→Nat
 | 0=>0
 | t+1=>o t
noncomputable def trG(G:Nat→Nat→Option Int)(o:Nat→Nat)(i j:Nat): Option Int:=G (fO o i) (fO o j)
noncomputable def trR(R:Nat→Int×Int)(o:Nat→Nat)(t:Nat): Int×Int:=R (o t-1)
def Ord(n m:Nat)(o:Nat→Nat): Prop:=∀t,t<m→1≤o t∧o t≤n
theorem Ord.lt{o:Nat→Nat}(h:Ord n m o): ∀i,i<m+1→fO o i<n+1
 | 0,_=>by show 0<n+1;omega
 | t+1,ht=>by have:=h t (by omega);show o t<n+1;omega
theorem ZrN{o:Nat→Nat}: ∀i,Zd3 (fun t=>Z0 (o t)) i=Z0 (fO o i)
 | 0=>unC_0.symm
 | t+1=>rfl
theorem Zzy{o:Nat→Nat}(hd:∀i,i<n+1→G i i=some 0)(ho:Ord n m o): ∀i j,i<m+1→j<m+1→rcG n G (fun t=>Z0 (o t)) i j=trG G o i j:=fun i j hi hj=>by
 unfold rcG dC trG
 rw[ZrN,ZrN]
 exact ZyS (ho.lt i hi) (ho.lt j hj) hd
theorem ZyT{o:Nat→Nat}(ok:∀t,t<n→RestOk (R t))(ho:Ord n m o): ∀t,t<m→rcR n R (fun t=>Z0 (o t)) t=trR R o t:=fun t ht=>ZrM ok (ho t ht).1 (ho t ht).2
theorem ZhD(hp:RestOk p)(hq:RestOk q)(h:∀x,Zan p x→Zan q x): RIn p q:=by
 have e:∀x,p.1 ∣ x-p.2→q.1 ∣ x-q.2:=fun x hx=>(Zbl hq.nn x).mp (h x ((Zbl hp.nn x).mpr hx))
 have a1:q.1 ∣ p.2-q.2:=e p.2 (by simp)
 have a2:q.1 ∣ p.2+p.1-q.2:=e (p.2+p.1) (by rw[show p.2+p.1-p.2=p.1 by omega];exact Int.dvd_refl _)
 have c1:q.1 ∣ p.1:=by have:=Int.dvd_sub a2 a1;rwa [show p.2+p.1-q.2-(p.2-q.2)=p.1 by omega]at this
 unfold RIn
 split
 ·rename_i z
  rw[z,Int.zero_dvd]at a1 c1
  exact Prod.ext (by rw[c1,z]) (by omega)
 ·exact⟨Int.emod_eq_zero_of_dvd c1,Int.emod_eq_zero_of_dvd a1⟩
theorem Zt2(hR:∀t,t<n→RestOk (R t))(s:Sharp n G R G2 R2 M k): ZbH n G2 R2 G R:=by
 obtain⟨R1,h1,h2,h3,h4,rfl,h6⟩:=s.go
 refine⟨fun i hi j hj=>?_,fun t ht=>?_⟩
 ·refine Zc3 (Zj6 (n+1) i j) (Zc3 (ZxD fun b e q=>h3 ⟨i,j,hi,hj,b,e,q⟩) (Zj6 (n+1) i j))
 ·refine ZhD (h6 t ht).1.1 (hR t ht) fun x hx=>?_
  have a:=((h6 t ht).2 x).mp hx
  have b:=((h2 t ht).2 x).mp a.1
  exact b.1
theorem Zsm{a:Nat}{x:Nat→Int}(h1:1≤a): ∀n,Zaf (Z0 a) x n=if a≤n then x (a-1)else 0
 | 0=>by rw[if_neg (by omega)];exact Zd0 (by omega)
 | n+1=>by
  show Zaf (Z0 a) x n+Z0 a (n+1)*x n=_
  rw[Zsm h1 n]
  by_cases q:n+1=a
  ·subst q
   rw[Zff h1,if_neg (by omega),if_pos (by omega),Nat.add_sub_cancel];omega
  ·rw[Zd0 q,Int.zero_mul]
   by_cases g:a≤n
   ·rw[if_pos g,if_pos (by omega)];omega
   ·rw[if_neg g,if_neg (by omega)];rfl
def DueOk(m:Nat)(D:T): Prop:=D=.none∨∃G R,D=ZH m G R∧(∀i,i<m+1→G i i=some 0)∧∀t,t<m→RestOk (R t)
theorem DueOk.same(hm:m≤100)(h:DueOk m D): Zdd [D,D]=some (.bool true):=by
 rcases h with rfl | ⟨G,R,rfl,hd,ok⟩
 ·exact ZtH
 ·exact ZtI hm hd ok
theorem ZpU{S:T}: Zcx [.none,S]=some .none:=by
 apply Pk.eq
 unfold Zcx Zi7
 walk_at "z"
 rfl
theorem Zqh{K:Nat}(hM:0<M)(bM:Bd K M)(bG:BdG (n+1) k G)(hk:k+n+1≤K)(s:Sharp n G R G2 R2 M K): BdG (n+1) (K+n+2) G2∧∀t,t<n→RBd K (R2 t):=by
 obtain⟨R1,_,h1,_,_,rfl,h2⟩:=s.go
 refine⟨?_,fun t ht=>(h2 t ht).1.bd hM bM⟩
 have b1:BdG (n+1) K (clG G (n+1)):=fun a b c ha hb e=>(ZhJ bG (n+1) (Zz10 _) a b c ha hb e).mono (by omega)
 have b2:=Zsg hM bM b1 fun t ht=>(h1 t ht).1
 exact fun a b c ha hb e=>(ZhJ b2 (n+1) (Zz10 _) a b c ha hb e).mono (by omega)
def Zgn(N:Nat)(R:Nat→Int×Int)(p:Nat→Nat)(R':Nat→Int×Int)(L:Nat)(ρ:Nat→Option (Int×Int)): Prop:=(∀t,t<N→(∀j,j<L→p j≠t)→ρ t=some (R t))∧∀j,j<L→Met (R (p j)) (R' j) (ρ (p j))
theorem ZvC{L:Nat}{p:Nat→Nat}(hp:∀i,i<L+1→p i<N)(inj:∀i j,i<L+1→j<L+1→p i=p j→i=j)(h:Zgn N R p R' L ρ)(hm:Met (R (p L)) (R' L) o): Zgn N R p R' (L+1) (fun t=>if t=p L then o else ρ t):=by
 refine⟨fun t ht hn=>?_,fun j hj=>?_⟩
 ·have:t≠p L:=fun e=>hn L (by omega) e.symm
  simp only[this,if_false]
  exact h.1 t ht fun j hj=>hn j (by omega)
 ·by_cases c:j=L
  ·subst c
   simp only[if_true]
   exact hm
  ·have:p j≠p L:=fun e=>c (inj j L hj (by omega) e)
   simp only[this,if_false]
   exact h.2 j (by omega)
theorem ZxK: (oR o).flat=true:=by cases o <;> rfl
theorem ZyU: (tab N fun t=>if t=k then oR o else oR (ρ t))=tab N fun t=>oR (if t=k then o else ρ t):=Zbz fun t _=>by
 by_cases c:t=k
 ·rw[if_pos c,if_pos c]
 ·rw[if_neg c,if_neg c]
def ZsH(N:Nat)(G:Nat→Nat→Option Int)(ρ:Nat→Option (Int×Int))(t:T): Prop:=(t=.none∧∃i,i<N∧ρ i=none)∨(t=ZH N G (fun i=>(ρ i).getD (1,0))∧∀i,i<N→ρ i≠none)
noncomputable def qOf(p:Nat→Nat): Nat→Nat
 | 0=>0
 | i+1=>p i+1
theorem ZzN(p:Nat→Nat): cn (T.int 0) (fun i=>T.int ((p i:Int)+1))=fun i=>T.int (qOf p i:Nat):=by
 funext i
 cases i with
 | zero=>rfl
 | succ i=>show T.int ((p i:Int)+1)=T.int ((p i+1:Nat):Int);congr 1
theorem Zwy(h:∀i,i<N→ρ i≠none): T.tup [Zab (N+1) G,.lst (tab N fun t=>oR (ρ t))]=ZH N G (fun i=>(ρ i).getD (1,0)):=by
 unfold ZH ZbD
 congr 4
 refine Zbz fun i hi=>?_
 show oR (ρ i)=Z1 ((ρ i).getD (1,0))
 cases e:ρ i with
 | none=>exact absurd e (h i hi)
 | some q=>rfl
theorem ZuW{L:Nat}{p:Nat→Nat}(hN:N≤90)(hL:L≤90)(hb:b≤8000)(hp:∀i,i<L→p i<N)(inj:∀i j,i<L→j<L→p i=p j→i=j)(ok:∀t,t<N→RestOk (R t))(ok':∀t,t<L→RestOk (R' t))(bR:∀t,t<N→RBd b (R t))(bR':∀t,t<L→RBd b (R' t)): Pk (ZfT [ZH N Γ R,.lst (tab L fun i=>.int ((p i:Int)+1)),ZH L G' R']) fun t=>∃ρ,Zgn N R p R' L ρ∧ZsH N (ZdH (qOf p) G' (L+1) Γ (L+1)) ρ t:=by
 unfold ZfT Znt
 have ht:∀{n:Nat} {G:Nat→Nat→Option Int} {R:Nat→Int×Int},ZH n G R=.tup [Zab (n+1) G,.lst (tab n fun i=>Z1 (R i))]:=rfl
 rw[ht,ht]
 walk_at "z"
 refine Ze7 (n:=L) (a:=fun i=>.int ((p i:Int)+1)) (c:=fun i=>Z1 (R' i)) (P:=fun i σ=>∃ρ,σ 0=some (.tup [Zab (N+1) Γ,.lst (tab N fun i=>Z1 (R i))])∧σ 1=some (.lst (tab L fun i=>.int ((p i:Int)+1)))∧σ 2=some (.tup [Zab (L+1) G',.lst (tab L fun i=>Z1 (R' i))])∧σ 3=some (.lst (tab N fun t=>oR (ρ t)))∧Zgn N R p R' i ρ) ?_ ⟨fun t=>some (R t),by walk_at "r",by walk_at "r",by walk_at "r",by walk_at "r",fun t _ _=>rfl,fun j hj=>by omega⟩ ?_ ?_
 ·walk_at "z"
  rfl
 ·rintro i σ hi ⟨ρ,e0,e1,e2,e3,hl⟩
  have hpi:=hp i hi
  have hidx:((p i:Int)+1-1).toNat=p i:=by omega
  have hr:ρ (p i)=some (R (p i)):=hl.1 (p i) hpi fun j hj e=>by have:=inj j i (by omega) hi e;omega
  walk_at "z"
  rw[hidx,hr]
  refine(Zit (k:=b) hb (ok _ hpi) (ok' i hi) (bR _ hpi) (bR' i hi)).mono ?_
  rintro _ ⟨o,rfl,hm,_⟩
  refine⟨ZxK,?_⟩
  walk_at "z"
  refine Znd (n:=N) (f:=fun t=>oR (ρ t)) (by walk_at "r") (by omega) (by omega) ?_
  rw[hidx,ZyU]
  exact⟨_,by walk_at "r",by walk_at "r",by walk_at "r",by walk_at "r",ZvC (fun j hj=>hp j (by omega)) (fun i' j' h1 h2=>inj i' j' (by omega) (by omega)) hl hm⟩
 ·rintro σ ⟨ρ,e0,e1,e2,e3,hl⟩
  have hq:∀i,i<L+1→qOf p i<N+1:=fun i hi=>by
   cases i with
   | zero=>exact Nat.succ_pos N
   | succ i=>show p i+1<N+1;have:=hp i (by omega);omega
  walk_at "z"
  refine Zj3 (.none (n:=0)) (Zet (n:=1) fun i _=>Zo6) ?_
  by_cases hc:∃i,i<N∧ρ i=none
  ·obtain⟨i,hi,ei⟩:=hc
   rw[ZaH (show T.none∈tab N fun i=>oR (ρ i)from List.mem_of_getElem? (i:=i) (by rw[Zbc hi,ei];rfl))]
   walk_at "z"
   exact⟨ρ,hl,.inl ⟨rfl,i,hi,ei⟩⟩
  ·rw[ZaM (show ¬T.none∈tab N fun i=>oR (ρ i)from fun h=>by
    obtain⟨i,hi,e⟩:=ZcR h
    exact hc ⟨i,hi,oR_none.mp e.symm⟩)]
   have hne:∀i,i<N→ρ i≠none:=fun i hi e=>hc ⟨i,hi,e⟩
   walk_at "z"
   rw[ZzN]
   refine Zw (ZsQ (by omega) (by omega) hq) ?_
   walk_at "z"
   exact⟨ρ,hl,.inr ⟨Zwy hne,hne⟩⟩
noncomputable def apC(c:Nat→Int)(i j:Nat): Nat→Int:=fun k=>Z0 i k-Z0 j k-c k
noncomputable def alC(c:Nat→Int)(i:Nat): Nat→Int:=fun k=>Z0 i k*c i-c k
theorem Zfg: Z0 i k=0∨Z0 i k=1:=by unfold Z0;split;exact .inr rfl;exact .inl rfl
theorem ZsI(hb:1≤b)(bc:∀i,i<n+1→Bd b (c i))(i j:Nat): ∀k,k<n+1→Bd (b+2) (apC c i j k):=fun k hk=>by
 have h:=bc k hk
 have h1:=Zfg (i:=i) (k:=k)
 have h2:=Zfg (i:=j) (k:=k)
 have h3:2≤2 ^ b:=by
  have:2 ^ 1≤2 ^ b:=Nat.pow_le_pow_right (by decide) hb
  exact this
 unfold Bd apC at *
 rw[Nat.pow_add]
 omega
theorem ZsJ(bc:∀i,i<n+1→Bd b (c i))(i:Nat)(hi:i<n+1): ∀k,k<n+1→Bd (b+2) (alC c i k):=fun k hk=>by
 have h:=bc k hk
 have g:=bc i hi
 unfold alC
 rcases Zfg (i:=i) (k:=k)with e | e
 ·rw[e,Int.zero_mul];unfold Bd at *;rw[Nat.pow_add];omega
 ·rw[e,Int.one_mul];unfold Bd at *;rw[Nat.pow_add];omega
theorem Zqi(h:∀i j,i<N→j<N→G i j=G' i j): Zab N G=Zab N G':=by
 unfold Zab Zay
 rw[show(tab N fun i=>T.lst (tab N fun j=>oT (G i j)))=tab N fun i=>T.lst (tab N fun j=>oT (G' i j))from Zbz fun i hi=>by rw[Zbz fun j hj=>by rw[h i j hi hj]]]
noncomputable def Wv(w G:Nat→Nat→Option Int)(i j:Nat): Nat→Nat→Option Int:=fun a b=>if a<i∨(a=i∧b<j)then w a b else G a b
theorem ZyV: ZbE (Wv w G i j) i j (w i j)=Wv w G i (j+1):=by
 funext a b
 unfold ZbE Wv
 by_cases h:a=i∧b=j
 ·rw[if_pos h,if_pos (by omega),h.1,h.2]
 ·rw[if_neg h]
  by_cases q:a<i∨(a=i∧b<j)
  ·rw[if_pos q,if_pos (by omega)]
  ·rw[if_neg q,if_neg (by omega)]
theorem Zzz: Wv w G i j i j=G i j:=by unfold Wv;rw[if_neg (by omega)]
theorem ZyW: Zab N (Wv w G i N)=Zab N (Wv w G (i+1) 0):=Zqi fun a b ha hb=>by
 unfold Wv
 by_cases q:a<i∨(a=i∧b<N)
 ·rw[if_pos q,if_pos (by omega)]
 ·rw[if_neg q,if_neg (by omega)]
theorem ZzO: Wv w G 0 0=G:=by funext a b;unfold Wv;rw[if_neg (by omega)]
theorem ZyX: Zab N (Wv w G N 0)=Zab N w:=Zqi fun a b ha hb=>by unfold Wv;rw[if_pos (.inl ha)]
noncomputable def apW(n:Nat)(G:Nat→Nat→Option Int)(c:Nat→Int)(top:Int)(a b:Nat): Option Int:=if a=b then G a b else Za8 (G a b) (addO (grt n G (apC c a b)) (some top))
theorem ZpA{k:Int}(hi:i≤9000)(hk0:k≠0)(hk:Bd i k): ZeK [oT a,.int k]=some (oT (a.map fun x=>x.fdiv k)):=by
 apply Pk.eq
 unfold ZeK ZlL
 cases a with
 | none=>
  simp only[Zcz]
  walk_at "z"
  rfl
 | some x=>
  rw[Zbk]
  walk_at "z"
  refine Zes hk0 (ZhC hk hi) ?_
  rfl
noncomputable def prt(n:Nat)(G:Nat→Nat→Option Int)(c:Nat→Int)(top:Int)(i:Nat): Option Int:=(addO (grt n G (alC c i)) (some top)).map fun y=>y.fdiv (if c i<0 then -(c i)else c i)
noncomputable def alW(n:Nat)(G:Nat→Nat→Option Int)(c:Nat→Int)(top:Int)(Γ:Nat→Nat→Option Int)(m:Nat): Nat→Nat→Option Int:=fun a b=>if b=0∧1≤a∧a≤m∧0<c a then Za8 (Γ a 0) (prt n G c top a)else if a=0∧1≤b∧b≤m∧c b<0 then Za8 (Γ 0 b) (prt n G c top b)else Γ a b
theorem ZzA: alW n G c top Γ 0=Γ:=by
 funext a b
 unfold alW
 rw[if_neg (by omega),if_neg (by omega)]
theorem ZxL(h:0<c (m+1)): ZbE (alW n G c top Γ m) (m+1) 0 (Za8 (alW n G c top Γ m (m+1) 0) (prt n G c top (m+1)))=alW n G c top Γ (m+1):=by
 have e:alW n G c top Γ m (m+1) 0=Γ (m+1) 0:=by unfold alW;rw[if_neg (by omega),if_neg (by omega)]
 rw[e]
 funext a b
 unfold ZbE alW
 by_cases q:a=m+1∧b=0
 ·obtain⟨rfl,rfl⟩:=q
  rw[if_pos ⟨rfl,rfl⟩,if_pos ⟨rfl,by omega,by omega,h⟩]
 ·have i1:(b=0∧1≤a∧a≤m+1∧0<c a)↔(b=0∧1≤a∧a≤m∧0<c a):=by omega
  have i2:(a=0∧1≤b∧b≤m+1∧c b<0)↔(a=0∧1≤b∧b≤m∧c b<0):=by
   by_cases g:b=m+1
   ·subst g;omega
   ·omega
  rw[if_neg q]
  simp only[i1,i2]
theorem ZxM(h:c (m+1)<0): ZbE (alW n G c top Γ m) 0 (m+1) (Za8 (alW n G c top Γ m 0 (m+1)) (prt n G c top (m+1)))=alW n G c top Γ (m+1):=by
 have e:alW n G c top Γ m 0 (m+1)=Γ 0 (m+1):=by unfold alW;rw[if_neg (by omega),if_neg (by omega)]
 rw[e]
 funext a b
 unfold ZbE alW
 by_cases q:a=0∧b=m+1
 ·obtain⟨rfl,rfl⟩:=q
  rw[if_pos ⟨rfl,rfl⟩,if_neg (by omega),if_pos ⟨rfl,by omega,by omega,h⟩]
 ·have i1:(b=0∧1≤a∧a≤m+1∧0<c a)↔(b=0∧1≤a∧a≤m∧0<c a):=by
   by_cases g:a=m+1
   ·subst g;omega
   ·omega
  have i2:(a=0∧1≤b∧b≤m+1∧c b<0)↔(a=0∧1≤b∧b≤m∧c b<0):=by omega
  rw[if_neg q]
  simp only[i1,i2]
theorem Zwz(h:c (m+1)=0): alW n G c top Γ m=alW n G c top Γ (m+1):=by
 funext a b
 unfold alW
 have i1:(b=0∧1≤a∧a≤m+1∧0<c a)↔(b=0∧1≤a∧a≤m∧0<c a):=by
  by_cases g:a=m+1
  ·subst g;omega
  ·omega
 have i2:(a=0∧1≤b∧b≤m+1∧c b<0)↔(a=0∧1≤b∧b≤m∧c b<0):=by
  by_cases g:b=m+1
  ·subst g;omega
  ·omega
 simp only[i1,i2]
noncomputable def amG(n:Nat)(G:Nat→Nat→Option Int)(c:Nat→Int)(top:Int): Nat→Nat→Option Int:=alW n G c top (apW n G c top) n
noncomputable def gT(N:Nat)(Γ:Nat→Nat→Option Int): T:=.lst (tab N fun a=>.lst (tab N fun b=>oT (Γ a b)))
theorem Zjz{b:Option Int}(ha:∀y,a=some y→Bd k y)(hb:∀y,b=some y→Bd k y): ∀y,Za8 a b=some y→Bd k y:=fun y e=>by
 rcases Ze8 a b with q | q
 ·exact ha y (q▸e)
 ·exact hb y (q▸e)
theorem ZwA{x k:Int}(hk:0<k): (x.fdiv k).natAbs≤x.natAbs:=by
 rw[Int.fdiv_eq_ediv_of_nonneg x (by omega)]
 have e1:x / k*k≤x:=Int.ediv_mul_le x (by omega)
 have e2:x<(x / k+1)*k:=Int.lt_ediv_add_one_mul_self x hk
 generalize x / k=q at *
 rcases Int.lt_trichotomy q 0 with h | h | h
 ·-- q≤-1,x<(q+1) k≤q+1
  have:(q+1)*k≤q+1:=by
   have:=Int.mul_le_mul_of_nonpos_left (a:=q+1) (b:=k) (c:=1) (by omega) (by omega)
   simpa using this
  omega
 ·omega
 ·have:q*1≤q*k:=Int.mul_le_mul_of_nonneg_left (by omega) (by omega)
  omega
theorem ZxN{x k:Int}(h:Bd i x)(hk:0<k): Bd i (x.fdiv k):=Nat.lt_of_le_of_lt (ZwA hk) h
theorem ZzB(hb1:1≤b)(hG:GB b n G)(bc:∀i,i<n+1→Bd b (c i))(bt:Bd b top)(hB:b+b+n+6≤B): SmG B n (amG n G c top):=by
 have hG2:GB (b+2) n G:=fun a b ha hb y e=>(hG a b ha hb y e).mono (by omega)
 have s1:∀{d:Nat→Int},(∀k,k<n+1→Bd (b+2) (d k))→∀y,addO (grt n G d) (some top)=some y→Bd B y:=fun bd y e=>by
  obtain⟨p,q,h1,h2,rfl⟩:=addO_some.mp e
  cases h2
  exact((Zoy hG2 bd p h1).add (bt.mono (by omega))).mono (by omega)
 have sG:∀i j,i<n+1→j<n+1→∀y,G i j=some y→Bd B y:=fun i j hi hj y e=>(hG i j hi hj y e).mono (by omega)
 have sA:∀i j,i<n+1→j<n+1→∀y,apW n G c top i j=some y→Bd B y:=fun i j hi hj y e=>by
  unfold apW at e
  split at e
  ·exact sG i j hi hj y e
  ·exact Zjz (sG i j hi hj) (s1 (ZsI hb1 bc i j)) y e
 have sP:∀i,i<n+1→c i≠0→∀y,prt n G c top i=some y→Bd B y:=fun i hi h0 y e=>by
  unfold prt at e
  obtain⟨z,h1,rfl⟩:=Zz1.mp e
  exact ZxN (s1 (ZsJ bc i hi) z h1) (by split <;> omega)
 intro i j hi hj y e
 show Bd B y
 unfold amG alW at e
 split at e
 ·rename_i q
  exact Zjz (sA i 0 hi (by omega)) (sP i hi (by omega)) y e
 ·split at e
  ·rename_i q
   exact Zjz (sA 0 j (by omega) hj) (sP j hj (by omega)) y e
  ·exact sA i j hi hj y e
theorem ZzP(hd:∀i,i<n+1→G i i=some 0): ∀i,i<n+1→amG n G c top i i=some 0:=fun i hi=>by
 unfold amG alW
 rw[if_neg (by omega),if_neg (by omega)]
 unfold apW
 rw[if_pos rfl,hd i hi]
theorem Zo8(i j:Nat): leO (apW n G c top i j) (G i j):=by
 unfold apW
 split
 ·exact Zcn
 ·exact Zfe
theorem ZzC(i j:Nat): leO (amG n G c top i j) (G i j):=by
 unfold amG alW
 split
 ·rename_i q
  rw[q.1]
  exact Zc3 Zfe (Zo8 i 0)
 ·split
  ·rename_i q
   rw[q.1]
   exact Zc3 Zfe (Zo8 0 j)
  ·exact Zo8 i j
theorem Zhq: ∀i,i<n+1→Zaf (Z0 i) x n=Zar x i
 | 0,_=>by rw[unC_0,Zq6];rfl
 | i+1,hi=>by rw[Zsm (by omega),if_pos (by omega)];rfl
theorem Zi4{u x:Nat→Int}{k:Int}: ∀n,Zaf (fun a=>u a*k) x n=Zaf u x n*k
 | 0=>rfl
 | n+1=>by
  show Zaf (fun a=>u a*k) x n+u (n+1)*k*x n=(Zaf u x n+u (n+1)*x n)*k
  rw[Zi4 n,Int.add_mul,Int.mul_assoc,Int.mul_comm k,←Int.mul_assoc]
theorem ZnH{b:Option Int}{x:Int}(h:Za8 a b=some y)(ha:∀z,a=some z→x≤z)(hb:∀z,b=some z→x≤z): x≤y:=by
 rcases Ze8 a b with q | q
 ·exact ha y (q▸h)
 ·exact hb y (q▸h)
theorem ZrO(h:Zaq n G R x)(ht:Zaf c x n≤top): Zaq n (amG n G c top) R x:=by
 have f1:∀i j,i<n+1→j<n+1→∀y,apW n G c top i j=some y→Zar x i-Zar x j≤y:=fun i j hi hj y e=>by
  unfold apW at e
  split at e
  ·exact h.1 i j hi hj y e
  ·refine ZnH e (h.1 i j hi hj) fun z ez=>?_
   obtain⟨p,q,h1,h2,rfl⟩:=addO_some.mp ez
   cases h2
   have:=ZjW h h1
   rw[show apC c i j=fun k=>(fun a=>Z0 i a-Z0 j a) k-c k from rfl,Zf6,Zf6,Zhq i hi,Zhq j hj]at this
   omega
 have f2:∀i,i<n+1→∀z,addO (grt n G (alC c i)) (some top)=some z→Zar x i*c i≤z:=fun i hi z ez=>by
  obtain⟨p,q,h1,h2,rfl⟩:=addO_some.mp ez
  cases h2
  have:=ZjW h h1
  rw[show alC c i=fun k=>(fun a=>Z0 i a*c i) k-c k from rfl,Zf6,Zi4,Zhq i hi]at this
  omega
 refine⟨fun i j hi hj y e=>?_,h.2⟩
 unfold amG alW at e
 split at e
 ·rename_i q
  obtain⟨rfl,q1,q2,q3⟩:=q
  refine ZnH e (f1 i 0 hi hj) fun z ez=>?_
  unfold prt at ez
  obtain⟨p,h1,rfl⟩:=Zz1.mp ez
  have:=f2 i hi p h1
  rw[if_neg (by omega),show Zar x 0=0 from rfl,Int.sub_zero]
  exact by rw[Int.fdiv_eq_ediv_of_nonneg _ (by omega)];exact(Int.le_ediv_iff_mul_le q3).mpr this
 ·split at e
  ·rename_i q
   obtain⟨rfl,q1,q2,q3⟩:=q
   refine ZnH e (f1 0 j hi hj) fun z ez=>?_
   unfold prt at ez
   obtain⟨p,h1,rfl⟩:=Zz1.mp ez
   have:=f2 j hj p h1
   rw[if_pos q3,show Zar x 0=0 from rfl,Int.zero_sub]
   rw[Int.fdiv_eq_ediv_of_nonneg _ (by omega)];refine(Int.le_ediv_iff_mul_le (by omega)).mpr ?_
   rw[Int.neg_mul_neg]
   exact this
  ·exact f1 i j hi hj y e
theorem ZxO(hn:n≤100): Dp 8 (Zab (n+1) G):=by
 refine .lst (fun t m=>?_) (by rw[Zao];omega)
 obtain⟨i,hi,rfl⟩:=ZcR m
 refine .lst (fun t m=>?_) (by rw[Zao];omega)
 obtain⟨j,hj,rfl⟩:=ZcR m
 exact Zo7
theorem Zt3{c t:T}: Zcf [.none,c,t]=some .none:=by
 apply Pk.eq
 unfold Zcf ZgW
 walk_at "z"
 rfl
theorem ZoW{n b:Nat}{c x:Nat→Int}(bc:∀i,i<n+1→Bd b (c i))(bx:∀i,i<n→Bd b (x i)): ∀j,j≤n→Bd (b+b+j) (Zaf c x j)
 | 0,_=>(bc 0 (by omega)).mono (by omega)
 | j+1,hj=>by
  have h1:=ZoW bc bx j (by omega)
  have h2:=((bc (j+1) (by omega)).mul (bx j (by omega))).mono (show b+b≤b+b+j by omega)
  exact h1.add h2
noncomputable def Zct(c:Nat→Int)(top:Int): Nat→Int:=fun k=>if k=0 then c 0-top else c k
theorem ZyY(bc:∀i,i<n+1→Bd b (c i))(bt:Bd b top): ∀i,i<n+1→Bd (b+1) (Zct c top i):=fun i hi=>by
 unfold Zct
 split
 ·exact(bc 0 (by omega)).sub bt
 ·exact(bc i hi).mono (by omega)
theorem su: PyData.strOk (Str.ofString "under")=true:=by decide +kernel
noncomputable def unT(n:Nat)(c:Nat→Int): T:=.tup [.str (Str.ofString "under"),ZR n c]
theorem ZnI: (fun k=>c k * -1)=fun k=>-(c k):=by funext k;omega
theorem Ztp(h:Zcf [T0,ZR n c,.int (-1)]=some D): ZeL [T0,ZR n c,.bool true]=some D:=by
 apply Pk.eq
 unfold ZeL Zie
 walk_at "z"
 exact Zw h rfl
theorem ZtJ(hn:n≤900)(hb1:1≤b)(hb:b≤1000)(bc:∀i,i<n+1→Bd b (c i))(h:Zcf [T0,ZR n fun k=>-(c k),.int 0]=some D): ZeL [T0,ZR n c,.bool false]=some D:=by
 apply Pk.eq
 unfold ZeL Zie
 walk_at "z"
 refine Zw (ZeM (b:=b) (by omega) (by omega) bc (show Bd b (-1)by unfold Bd;have:=Zea hb1;unfold Bd at this;simpa using this)) ?_
 rw[ZnI]
 walk_at "z"
 exact Zw h rfl
theorem ZrP{b:Bool}(hT:T0=.none∨∃G R,T0=ZH n G R)(h0:T0=.none→D=.none)(h:ZeL [T0,ZR n c,.bool b]=some D): Zco [T0,unT n c,.bool b]=some D:=by
 apply Pk.eq
 unfold Zco Zgd
 rcases hT with rfl | ⟨G,R,rfl⟩
 ·rw[h0 rfl]
  walk_at "z"
  rfl
 ·have ht:ZH n G R=.tup [Zab (n+1) G,.lst (tab n fun i=>Z1 (R i))]:=rfl
  have hne:∀{Q:T→Prop},Q (.bool false)→Pk (qIs (ZH n G R) .none) Q:=fun h=>⟨_,by rw[ht];rfl,h⟩
  unfold unT
  walk_at "z"
  refine hne ?_
  walk_at "z"
  refine Zb8 (n:=1) (m:=1) (.str su) (.str su) ?_
  rw[ZaH rfl]
  walk_at "z"
  exact Zw h rfl
theorem ZvD{a b:T}: Zco [.none,a,b]=some .none:=by
 apply Pk.eq
 unfold Zco Zgd
 walk_at "z"
 rfl
def Tm(n K:Nat)(M:Int)(P:(Nat→Int)→Prop)(I:(Nat→Nat→Option Int)→(Nat→Int×Int)→Prop)(D:T): Prop:=(D=.none∧∀x,¬P x)∨∃G R,D=ZH n G R∧(∀i,i<n+1→G i i=some 0)∧(∀t,t<n→RB M K (R t))∧GB K n G∧(∀x,P x→Zaq n G R x)∧I G R
theorem ZgA(hn:n≤100)(hi:1≤i)(hi2:i≤9000)(bc:∀j,j<n+1→Bd i (c j))(bR:∀j,j<n→RBd i (R j))(ok:∀j,j<n→RestOk (R j)): ZdN [ZR n c,.lst (tab n fun j=>Z1 (R j))]=some (Z1 (Za5 c R n)):=by
 apply Pk.eq
 unfold ZdN ZmM ZR
 walk_at "z"
 refine Ze7 (n:=n) (a:=fun j=>.int (c (j+1))) (c:=fun j=>Z1 (R j)) (P:=fun j σ=>σ 2=some (Z1 (Za5 c R j))) ?_ rfl ?_ ?_
 ·refine ZoL ?_
  refine Zi1 ?_
  walk_at "z"
  refine⟨_,rfl,?_⟩
  rw[Zn5]
  walk_at "z"
  rfl
 ·rintro j σ hj e2
  have hr:=(ok j hj).nn
  have bt:Bd (i+i) (ZcC (R j) (c (j+1))).1:=by
   unfold ZcC
   rw[Zdu]
   exact(bR j hj).1.mul (ZrC (bc (j+1) (by omega)))
  have bv:Bd (i+i) (Za5 c R j).1:=by
   rw[ZcL ok j (by omega),Zdu]
   exact Zjv bc bR j (by omega)
  walk_at "z"
  refine Zw (Zls (k:=i) (by omega) hr (bR j hj) (bc (j+1) (by omega))) ?_
  walk_at "z"
  refine Zw (ZlP (k:=i+i) (by omega) bv bt) ?_
  walk_at "z"
  exact Zcu
 ·rintro σ e2
  walk_at "z"
  rfl
noncomputable def ZaL(c:Nat→Int)(i:Nat): Nat→Int:=fun k=>c k-Z0 i k*c i
theorem ZyZ(bc:∀i,i<n+1→Bd b (c i))(i:Nat)(hi:i<n+1): ∀k,k<n+1→Bd (b+1) (ZaL c i k):=fun k hk=>by
 have h1:=bc k hk
 have h2:=bc i hi
 have h3:Bd b (Z0 i k*c i):=by
  rcases Zfg (i:=i) (k:=k)with e | e <;> rw[e]
  ·rw[Int.zero_mul];exact Zcd
  ·rw[Int.one_mul];exact h2
 exact h1.sub h3
noncomputable def Zeb(p:Int×Int)(d:Int): Int×Int:=ZaF (Int.gcd p.1 d) p.2
theorem Zpl(hk:k≤200000)(hp:Bd k p.1)(hd:Bd k d): Zgp [Z1 p,.int d]=some (Z1 (Zeb p d)):=by
 apply Pk.eq
 unfold Zgp ZkA Z1 Zeb
 walk_at "z"
 refine Zw (Zm5 (Zbs hp hk) (Zbs hd hk)) ?_
 walk_at "z"
 exact Zw (Zif (by omega)) rfl
noncomputable def Zdr(n:Nat)(R:Nat→Int×Int)(c:Nat→Int)(d:Int)(i:Nat): Int×Int:=ZaF (Int.gcd (Za5 (ZaL c i) R n).1 d) (-(c i)*(Za5 (ZaL c i) R n).2)
theorem Zy0(ok:∀t,t<n→RestOk (R t))(h1:c i=1∨c i = -1): Zeb (ZcC (Za5 (ZaL c i) R n) (-(c i))) d=Zdr n R c d i:=by
 have hr:RestOk (Za5 (ZaL c i) R n):=by rw[ZcL ok n (Zz10 n)];exact Zcm (ZdA _ _ _) _
 generalize hp:Za5 (ZaL c i) R n=p at *
 unfold Zeb Zdr ZcC
 rw[hp,Zdu]
 have ha:Za4 (-(c i))=1:=by rcases h1 with e | e <;> rw[e] <;> rfl
 rw[ha,Int.mul_one]
 refine ZpE (by omega) ?_
 have h2:((Int.gcd p.1 d:Nat):Int) ∣ p.1:=Int.gcd_dvd_left ..
 have:=Int.dvd_trans h2 (ZiO (m:=p.1) (r:=p.2 * -(c i)) hr.nn)
 rwa [Int.mul_comm (-(c i))]
theorem Zsn: RestOk (Zdr n R c d i):=Zcm (by omega) _
def ZcJ(n:Nat)(R:Nat→Int×Int)(c:Nat→Int)(d:Int)(t:Nat)(o:Option (Int×Int)): Prop:=if c (t+1)=1∨c (t+1) = -1 then Met (R t) (Zdr n R c d (t+1)) o else o=some (R t)
theorem ZoA(ok:∀t,t<n→RestOk (R t))(bm:∀t,t<n→Bd m (R t).1)(bR:∀t,t<n→RBd k (R t))(bc:∀i,i<n+1→Bd k (c i)): RBd (k+k+n) (Za5 c R n):=by
 rw[ZcL ok n (Zz10 n)]
 exact Zg0 (ZdA _ _ _) ((Zjv bc bR n (Zz10 n)).mono (by omega)) (Zow bc bR n (Zz10 n))
theorem Zso(ok:∀t,t<n→RestOk (R t))(bR:∀t,t<n→RBd k (R t))(bc:∀j,j<n+1→Bd k (ZaL c i j))(bd:Bd k d)(h1:c i=1∨c i = -1): RBd (k+k+n) (Zdr n R c d i):=by
 have h:=ZoA (m:=k) ok (fun t ht=>(bR t ht).1) bR bc
 generalize hp:Za5 (ZaL c i) R n=p at *
 unfold Zdr
 rw[hp]
 refine Zg0 (by omega) (ZjU h.1 (bd.mono (by omega))) ?_
 rcases h1 with e | e <;> rw[e]
 ·have:=h.2;unfold Bd at *;omega
 ·have:=h.2;unfold Bd at *;omega
theorem Ztq(hn:n≤60)(hk1:1≤k)(hk:k+k+n≤8000)(ht:t<n)(ok:∀t,t<n→RestOk (R t))(bR:∀t,t<n→RBd k (R t))(bc:∀j,j<n+1→Bd k (c j))(bo:∀j,j<n+1→Bd k (ZaL c (t+1) j))(bd:Bd k d): Pk (Zgw [.lst (tab n fun j=>Z1 (R j)),ZR n c,.int d,.int ((t+1:Nat):Int)]) fun u=>∃o,u=oR o∧ZcJ n R c d t o:=by
 unfold Zgw Zln
 have hs:ZR n c=.lst (tab (n+1) fun k=>.int (c k)):=rfl
 have h1:t+1<n+1:=by omega
 have e1:(((t+1:Nat):Int)).toNat=t+1:=by omega
 have e2:(((t+1:Nat):Int)-1).toNat=t:=by omega
 have ab:Za4 (c (t+1))=1↔(c (t+1)=1∨c (t+1) = -1):=by unfold Za4;split <;> omega
 have bu:∀j,j<n+1→Bd k (Z0 (t+1) j):=fun j _=>by
  rcases Zfg (i:=t+1) (k:=j)with e | e <;> rw[e]
  ·exact Zcd
  ·exact Zea hk1
 rw[hs]
 walk_at "z"
 rw[←hs]
 rw[e2]
 by_cases q:c (t+1)=1∨c (t+1) = -1
 ·have qa:=ab.mpr q
  have bp:=ZoA (m:=k) ok (fun t ht=>(bR t ht).1) bR bo
  have op:RestOk (Za5 (ZaL c (t+1)) R n):=by rw[ZcL ok n (Zz10 n)];exact Zcm (ZdA _ _ _) _
  have bs:=Zso ok bR bo bd q
  have bk:=bc (t+1) h1
  have be:=Zy0 (d:=d) ok q
  walk_at "z"
  refine Zw (ZeX (i:=t+1) (n:=n) (by omega)) ?_
  walk_at "z"
  refine Zw (ZeM (b:=k) (by omega) (by omega) bu bk) ?_
  walk_at "z"
  refine Zw (Ziw (b:=k+k) (by omega) (by omega) (by omega) (fun j hj=>(bu j hj).mul bk)) ?_
  rw[show(fun k=>c k-Z0 (t+1) k*c (t+1))=ZaL c (t+1)from rfl]
  walk_at "z"
  refine Zw (ZgA (i:=k) (by omega) hk1 (by omega) bo bR ok) ?_
  walk_at "z"
  refine Zw (Zls (k:=k+k+n) (by omega) op.nn bp (show Bd (k+k+n) (-(c (t+1)))by have:=bk.mono (show k≤k+k+n by omega);unfold Bd at *;omega)) ?_
  walk_at "z"
  refine Zw (Zpl (k:=k+k+n+k) (by omega) (by unfold ZcC;rw[Zdu];exact bp.1.mul (ZrC (show Bd k (-(c (t+1)))by unfold Bd at *;omega))) (bd.mono (by omega))) ?_
  rw[be]
  walk_at "z"
  refine(Zit (k:=k+k+n) hk (ok t ht) Zsn ⟨(bR t ht).1.mono (by omega),(bR t ht).2.mono (by omega)⟩ bs).mono ?_
  rintro _ ⟨o,rfl,hm,_⟩
  exact⟨o,rfl,by unfold ZcJ;rw[if_pos q];exact hm⟩
 ·have qa:¬Za4 (c (t+1))=1:=fun h=>q (ab.mp h)
  walk_at "z"
  exact⟨some (R t),rfl,by unfold ZcJ;rw[if_neg q]⟩
theorem Zt4(hn:n≤60)(hk1:1≤k)(hk:k+k+n≤8000)(ok:∀t,t<n→RestOk (R t))(bR:∀t,t<n→RBd k (R t))(bc:∀j,j<n+1→Bd k (c j))(bo:∀t,t<n→∀j,j<n+1→Bd k (ZaL c (t+1) j))(bd:Bd k d): ∃o:Nat→Option (Int×Int),(∀t,t<n→ZcJ n R c d t (o t))∧((∃t,t<n∧o t=none)→Zdc [ZH n G R,ZR n c,.int d]=some .none)∧∀R' D,(∀t,t<n→o t=some (R' t))→ZaG [ZH n G R']=some D→Zdc [ZH n G R,ZR n c,.int d]=some D:=by
 have ex:∀t,∃o,t<n→Zgw [.lst (tab n fun j=>Z1 (R j)),ZR n c,.int d,.int ((t+1:Nat):Int)]=some (oR o)∧ZcJ n R c d t o:=fun t=>by
  by_cases ht:t<n
  ·obtain⟨u,e,o,rfl,h⟩:=Ztq hn hk1 hk ht ok bR bc (bo t ht) bd
   exact⟨o,fun _=>⟨e,h⟩⟩
  ·exact⟨none,fun h=>absurd h ht⟩
 obtain⟨o,ho⟩:=Classical.axiomOfChoice ex
 refine⟨o,fun t ht=>(ho t ht).2,?_⟩
 have ht:ZH n G R=.tup [Zab (n+1) G,.lst (tab n fun i=>Z1 (R i))]:=rfl
 have hs:ZR n c=.lst (tab (n+1) fun k=>.int (c k)):=rfl
 have key:∀{D:T},((∃t,t<n∧o t=none)∧D=.none∨(¬(∃t,t<n∧o t=none))∧ZaG [.tup [Zab (n+1) G,.lst (tab n fun t=>oR (o t))]]=some D)→Zdc [ZH n G R,ZR n c,.int d]=some D:=fun {D} hD=>by
  apply Pk.eq
  unfold Zdc Zip
  rw[ht,hs]
  walk_at "z"
  rw[←hs]
  refine ZbQ (n:=n) (a:=fun i=>.int ((1+i:Nat):Int)) (b:=fun t=>oR (o t)) (by omega) ?_ (fun t ht'=>?_) ?_
  ·refine Zjc (a:=1) (m:=n) (by omega) (by omega) ?_ rfl
   simp only[Zd,Zj,Zl,Za,Zq,hs,ZaB,Zao,Option.bind_some]
   show some [T.int 1,T.int (((tab (n+1) fun k=>T.int (c k)).length:Nat):Int)]=_
   rw[Zao]
   congr 3
   congr 1
   omega
  ·rw[Nat.add_comm 1 t]
   walk_at "z"
   exact Zw (ho t ht').1 rfl
  walk_at "z"
  refine Zj3 (.none (n:=0)) (Zet (n:=1) fun i _=>Zo6) ?_
  rcases hD with⟨⟨t,h1,h2⟩,rfl⟩ | ⟨hc,hD⟩
  ·rw[ZaH (show T.none∈tab n fun i=>oR (o i)from List.mem_of_getElem? (i:=t) (by rw[Zbc h1,h2];rfl))]
   walk_at "z"
   rfl
  ·rw[ZaM (show ¬T.none∈tab n fun i=>oR (o i)from fun h=>by
    obtain⟨i,hi,e⟩:=ZcR h
    exact hc ⟨i,hi,oR_none.mp e.symm⟩)]
   walk_at "z"
   exact Zw hD rfl
 refine⟨fun h=>key (.inl ⟨h,rfl⟩),fun R' D h hD=>key (.inr ⟨fun⟨t,h1,h2⟩=>(by rw[h t h1]at h2;cases h2),?_⟩)⟩
 have e:T.tup [Zab (n+1) G,.lst (tab n fun t=>oR (o t))]=ZH n G R':=by
  show T.tup [Zab (n+1) G,.lst (tab n fun t=>oR (o t))]=.tup [Zab (n+1) G,.lst (tab n fun i=>Z1 (R' i))]
  rw[Zbz fun i hi=>(show oR (o i)=Z1 (R' i)by rw[h i hi];rfl)]
 rw[e]
 exact hD
theorem Zn7{c:Nat→Int}{R:Nat→Int×Int}{n i m:Nat}(bc:∀j,j<n+1→Bd i (c j))(bm:∀j,j<n→Bd m (R j).1): ∀j,j≤n→Bd (i+m) (Zbf c R j)
 | 0,_=>Zcd
 | j+1,h=>ZjU (Zn7 bc bm j (by omega)) ((bc (j+1) (by omega)).mul (bm j (by omega)))
theorem ZoX{a b:Int}(ha:Bd i a)(hb:Bd j b): Bd (i+j) ((Int.lcm a b:Nat):Int):=by
 unfold Bd at *
 by_cases h:a=0∨b=0
 ·rcases h with e | e <;> subst e
  ·rw[Int.lcm_zero_left];exact Nat.pow_pos (by decide)
  ·rw[Int.lcm_zero_right];exact Nat.pow_pos (by decide)
 ·have:Int.lcm a b≤a.natAbs*b.natAbs:=Nat.le_of_dvd (Nat.mul_pos (by omega) (by omega)) (Nat.lcm_dvd_mul _ _)
  rw[Int.natAbs_natCast,Nat.pow_add]
  exact Nat.lt_of_le_of_lt this (Nat.mul_lt_mul'' ha hb)
theorem ZxP(ok:∀t,t<n→RestOk (R t))(bm:∀t,t<n→Bd m (R t).1)(bo:∀j,j<n+1→Bd b (ZaL c (t+1) j))(bd:Bd (b+m) d): Bd (b+m) (Zdr n R c d (t+1)).1:=by
 unfold Zdr
 rw[Zdu,ZcL ok n (Zz10 n),Zdu]
 exact ZjU (Zn7 bo bm n (Zz10 n)) bd
theorem ZxQ{r:Int×Int}(hk:k+k+n≤8000)(ht:t<n)(ok:∀t,t<n→RestOk (R t))(bm:∀t,t<n→Bd m (R t).1)(bR:∀t,t<n→RBd k (R t))(bo:∀j,j<n+1→Bd b (ZaL c (t+1) j))(hbk:b+m≤k)(bd:Bd (b+m) d)(h:ZcJ n R c d t (some r)): RestOk r∧Bd (b+m+m) r.1∧Bd (k+k+n) r.2:=by
 have g1:Bd (k+k+n) (R t).2:=(bR t ht).2.mono (by omega)
 unfold ZcJ at h
 split at h
 ·rename_i q
  have bs:=Zso ok bR (fun j hj=>(bo j hj).mono (by omega)) (bd.mono (by omega)) q
  have hm:=ZxP ok bm bo bd
  have wh:=Zsh (k:=k+k+n) hk (ok t ht) Zsn ⟨(bR t ht).1.mono (by omega),g1⟩ bs h r rfl
  refine⟨h.1,?_,?_⟩
  ·rcases wh with rfl | rfl | ⟨_,_,e⟩
   ·exact(bm t ht).mono (by omega)
   ·exact hm.mono (by omega)
   ·rw[e]
    exact(ZoX (bm t ht) hm).mono (by omega)
  ·rcases wh with rfl | rfl | ⟨z1,z2,e⟩
   ·exact g1
   ·exact bs.2
   ·have b1:Bd (k+k+n) r.1:=by rw[e];exact(ZoX (bm t ht) hm).mono (by omega)
    have n0:r.1≠0:=by rw[e];intro h;exact(Int.lcm_ne_zero z1 z2) (by omega)
    rcases h.1 with q | ⟨_,q2,q3⟩
    ·exact absurd q n0
    ·unfold Bd at *;omega
 ·cases h
  exact⟨ok t ht,(bm t ht).mono (by omega),g1⟩
def Tf(n:Nat)(P:(Nat→Int)→Prop)(I:(Nat→Nat→Option Int)→(Nat→Int×Int)→Prop)(D:T): Prop:=(D=.none∧∀x,¬P x)∨∃G R,D=ZH n G R∧(∀i,i<n+1→G i i=some 0)∧(∀t,t<n→RestOk (R t))∧(∀x,P x→Zaq n G R x)∧I G R
theorem Tm.tf{K:Nat}(h:Tm n K M P I D): Tf n P I D:=by
 rcases h with h | ⟨G,R,rfl,h1,h2,h3,h4,h5⟩
 ·exact .inl h
 ·exact .inr ⟨G,R,rfl,h1,fun t ht=>(h2 t ht).1,h4,h5⟩
theorem Tf.due(h:Tf n P I D): DueOk n D:=by
 rcases h with⟨rfl,_⟩ | ⟨G,R,rfl,h1,h2,h3,h4⟩
 ·exact .inl rfl
 ·exact .inr ⟨G,R,rfl,h1,h2⟩
theorem ZxR(ht:t<n)(ok:∀t,t<n→RestOk (R t))(hx:∀t,t<n→Zan (R t) (x t))(hd:d ∣ Zaf c x n)(q:c (t+1)=1∨c (t+1) = -1): Zan (Zdr n R c d (t+1)) (x t):=by
 unfold Zdr
 refine(ZcQ (by omega) _).mpr ?_
 have hv:Zaf (ZaL c (t+1)) x n=Zaf c x n-x t*c (t+1):=by
  rw[show ZaL c (t+1)=fun k=>c k-(fun a=>Z0 (t+1) a*c (t+1)) k from rfl,Zf6,Zi4,Zhq (t+1) (by omega)]
  rfl
 have h1:=Zoz (c:=ZaL c (t+1)) ok hx n (Zz10 n)
 rw[ZcL ok n (Zz10 n),Zdu]
 have h2:=ZiO (m:=Zbf (ZaL c (t+1)) R n) (r:=ZbP (ZaL c (t+1)) R n) (ZdA _ _ _)
 have g1:((Int.gcd (Zbf (ZaL c (t+1)) R n) d:Nat):Int) ∣ Zbf (ZaL c (t+1)) R n:=Int.gcd_dvd_left ..
 have g2:((Int.gcd (Zbf (ZaL c (t+1)) R n) d:Nat):Int) ∣ d:=Int.gcd_dvd_right ..
 have h3:=Int.dvd_trans g1 (Int.dvd_sub h1 h2)
 have h4:=Int.dvd_trans g2 hd
 rw[hv]at h3
 generalize ((Int.gcd (Zbf (ZaL c (t+1)) R n) d:Nat):Int)=g at *
 generalize (ZaF (Zbf (ZaL c (t+1)) R n) (ZbP (ZaL c (t+1)) R n)).2=s at *
 generalize ZbP (ZaL c (t+1)) R n=r at *
 have h5:=Int.dvd_sub h4 h3
 rcases q with e | e <;> rw[e]at h5 ⊢
 ·rwa [show Zaf c x n-(Zaf c x n-x t*1-r-(s-r))=x t - -1*s by omega]at h5
 ·have:=(Int.dvd_neg).mpr h5
  rwa [show -(Zaf c x n-(Zaf c x n-x t * -1-r-(s-r)))=x t - -(-1)*s by omega]at this
theorem Zq9(ht:t<n)(ok:∀t,t<n→RestOk (R t))(hx:∀t,t<n→Zan (R t) (x t))(hd:d ∣ Zaf c x n)(h:ZcJ n R c d t o): ∃r,o=some r∧Zan r (x t):=by
 unfold ZcJ at h
 split at h
 ·rename_i q
  have hb:=ZxR ht ok hx hd q
  cases o with
  | none=>exact absurd ⟨hx t ht,hb⟩ (h (x t))
  | some r=>exact⟨r,rfl,(h.2 (x t)).mpr ⟨hx t ht,hb⟩⟩
 ·exact⟨R t,h,hx t ht⟩
theorem ZjA{x:Int}(op:RestOk p)(oq:RestOk q)(h:RIn p q)(hx:Zan p x): Zan q x:=by
 unfold RIn at h
 split at h
 ·rw[←h];exact hx
 ·refine(Zbl oq.nn x).mpr ?_
  have a:=(Zbl op.nn x).mp hx
  have b:=Int.dvd_trans (Int.dvd_of_emod_eq_zero h.1) a
  have:=Int.dvd_add b (Int.dvd_of_emod_eq_zero h.2)
  rwa [show x-p.2+(p.2-q.2)=x-q.2 by omega]at this
theorem Zhr(o2:∀t,t<n→RestOk (R2 t))(o:∀t,t<n→RestOk (R t))(h:ZbH n G2 R2 G R)(l:Zaq n G2 R2 x): Zaq n G R x:=by
 refine⟨fun i j hi hj b e=>?_,fun t ht=>ZjA (o2 t ht) (o t ht) (h.2 t ht) (l.2 t ht)⟩
 obtain⟨y,h1,h2⟩:=h.1 i hi j hj b e
 have:=l.1 i j hi hj y h1
 omega
theorem ZgB{G1 G3:Nat→Nat→Option Int}{R1 R3:Nat→Int×Int}(o1:∀t,t<n→RestOk (R1 t))(o2:∀t,t<n→RestOk (R2 t))(o3:∀t,t<n→RestOk (R3 t))(h:ZbH n G1 R1 G2 R2)(k:ZbH n G2 R2 G3 R3): ZbH n G1 R1 G3 R3:=⟨fun i hi j hj=>Zc3 (h.1 i hi j hj) (k.1 i hi j hj),fun t ht=>ZhD (o1 t ht) (o3 t ht) fun x hx=>ZjA (o2 t ht) (o3 t ht) (k.2 t ht) (ZjA (o1 t ht) (o2 t ht) (h.2 t ht) hx)⟩
theorem Zg3(o:∀t,t<n→RestOk (R t))(h:ZbH n G2 R2 (amG n G c top) R): ZbH n G2 R2 G R:=⟨fun i hi j hj=>Zc3 (h.1 i hi j hj) (ZzC i j),h.2⟩
def AM(n:Nat)(c:Nat→Int)(top:Int)(x:Nat→Int): Prop:=∃G R,(∀y,grt n G (fun k=>-(c k))=some y→-y≤top)∧Zaq n (amG n G c top) R x
theorem Zpt{a b:T}: Zdc [.none,a,b]=some .none:=by
 apply Pk.eq
 unfold Zdc Zip
 walk_at "z"
 rfl
theorem ZjX(hM:0<M)(bM:Bd m M)(h:RB M k q): Bd m q.1:=by
 rcases h.2.1 with e | e
 ·rw[e];exact Zcd
 ·have:=Nat.le_of_dvd (by omega) (Int.natAbs_dvd_natAbs.mpr e)
  unfold Bd at *
  omega
theorem Zn8(ok:∀t,t<n→RestOk (R t))(h:∀t,t<n→Zan (R t) (x t)): Zan (Za5 c R n) (Zaf c x n):=by
 rw[ZcL ok n (Zz10 n)]
 exact(ZcQ (ZdA _ _ _) _).mpr (Zoz ok h n (Zz10 n))
theorem ZoB(ok:∀t,t<n→RestOk (R t)): RestOk (Za5 c R n):=by
 rw[ZcL ok n (Zz10 n)]
 exact Zcm (ZdA _ _ _) _
theorem ZrQ(bc:∀i,i<n+1→Bd b (c i)): ∀t,t<n→∀j,j<n+1→Bd (b+1) (ZaL c (t+1) j):=fun t ht=>ZyZ bc (t+1) (by omega)
theorem Zy1(h:∀i,i<n+1→G i i=some 0): ∀i,i<n+m+1→Zbn n G i i=some 0:=fun i hi=>by
 unfold Zbn
 by_cases c:i<n+1
 ·rw[if_pos ⟨c,c⟩,h i c]
 ·rw[if_neg (by omega),if_pos rfl]
theorem ZvE{y:Nat→Int}(h:Zaq n G R x)(hy:∀i,i<n→y i=x i): Zaq (n+m) (Zbn n G) (ZbJ n R) y:=by
 have hf:∀i,i<n+1→Zar y i=Zar x i:=fun i hi=>by
  cases i with
  | zero=>rfl
  | succ i=>exact hy i (by omega)
 refine⟨fun i j hi hj b e=>?_,fun t ht=>?_⟩
 ·unfold Zbn at e
  split at e
  ·rename_i c
   rw[hf i c.1,hf j c.2]
   exact h.1 i j c.1 c.2 b e
  ·split at e
   ·rename_i c
    cases e
    rw[c]
    omega
   ·cases e
 ·unfold ZbJ
  by_cases c:t<n
  ·rw[if_pos c,hy t c];exact h.2 t c
  ·rw[if_neg c]
   exact⟨fun q=>absurd q (by decide),fun _=>Int.emod_one _⟩
theorem Zra{q:Nat→Nat}{G':Nat→Nat→Option Int}{i k:Nat}(Iv:(Nat→Nat→Option Int)→Prop)(h:∀Δ j,j<k→Iv Δ→Iv (ZbE Δ (q i) (q j) (Za8 (Δ (q i) (q j)) (G' i j)))){Γ:Nat→Nat→Option Int}(h0:Iv Γ): ∀j,j≤k→Iv (Zgj q G' i Γ j)
 | 0,_=>h0
 | j+1,hj=>h _ j (by omega) (Zra Iv h h0 j (by omega))
theorem Zhe{q:Nat→Nat}{G':Nat→Nat→Option Int}{k:Nat}(Iv:(Nat→Nat→Option Int)→Prop)(h:∀Δ i j,i<k→j<k→Iv Δ→Iv (ZbE Δ (q i) (q j) (Za8 (Δ (q i) (q j)) (G' i j)))){Γ:Nat→Nat→Option Int}(h0:Iv Γ): ∀i,i≤k→Iv (ZdH q G' k Γ i)
 | 0,_=>h0
 | i+1,hi=>Zra Iv (fun Δ j hj hΔ=>h Δ i j (by omega) hj hΔ) (Zhe Iv h h0 i (by omega)) k (Zz10 k)
theorem ZxS{L:Nat}{p:Nat→Nat}(inj:∀i j,i<L→j<L→p i=p j→i=j): ∀i j,i<L+1→j<L+1→qOf p i=qOf p j→i=j
 | 0,0,_,_,_=>rfl
 | 0,j+1,_,_,h=>by simp only[qOf]at h;omega
 | i+1,0,_,_,h=>by simp only[qOf]at h;omega
 | i+1,j+1,hi,hj,h=>by
  simp only[qOf]at h
  rw[inj i j (by omega) (by omega) (by omega)]
theorem ZxT: Za8 (some 0) (some 0)=some 0:=Zjt Zcn
theorem ZxU{L:Nat}{p:Nat→Nat}(inj:∀i j,i<L→j<L→p i=p j→i=j)(hp:∀i,i<L→p i<N)(h:∀i,i<N+1→Γ i i=some 0)(h':∀i,i<L+1→G' i i=some 0): ∀i,i<N+1→ZdH (qOf p) G' (L+1) Γ (L+1) i i=some 0:=by
 refine Zhe (fun Δ=>∀i,i<N+1→Δ i i=some 0) (fun Δ i j hi hj hΔ a ha=>?_) h (L+1) (Zz10 _)
 by_cases c:a=qOf p i∧a=qOf p j
 ·have hij:=ZxS inj i j hi hj (c.1.symm.trans c.2)
  subst hij
  obtain⟨rfl,_⟩:=c
  rw[Zou,hΔ _ ha,h' i hi,ZxT]
 ·rw[Zjs c];exact hΔ a ha
theorem ZuX{L:Nat}{p:Nat→Nat}{y z:Nat→Int}(hz:∀i,i<L→z i=y (p i))(h:Zaq N Γ R y)(h':Zaq L G' R' z): ∀i j,i<N+1→j<N+1→∀b,ZdH (qOf p) G' (L+1) Γ (L+1) i j=some b→Zar y i-Zar y j≤b:=by
 have hf:∀i,i<L+1→Zar y (qOf p i)=Zar z i:=fun i hi=>by
  cases i with
  | zero=>rfl
  | succ i=>exact(hz i (by omega)).symm
 refine Zhe (fun Δ=>∀i j,i<N+1→j<N+1→∀b,Δ i j=some b→Zar y i-Zar y j≤b) (fun Δ i j hi hj hΔ a b ha hb c e=>?_) h.1 (L+1) (Zz10 _)
 by_cases d:a=qOf p i∧b=qOf p j
 ·obtain⟨rfl,rfl⟩:=d
  rw[Zou]at e
  rcases Ze8 (Δ (qOf p i) (qOf p j)) (G' i j)with q | q
  ·rw[q]at e;exact hΔ _ _ ha hb c e
  ·rw[q]at e
   rw[hf i hi,hf j hj]
   exact h'.1 i j hi hj c e
 ·rw[Zjs d]at e;exact hΔ a b ha hb c e
theorem Zrb{L:Nat}{p:Nat→Nat}{y z:Nat→Int}(h:Zgn N R p R' L ρ)(hz:∀i,i<L→z i=y (p i))(hp:∀i,i<L→p i<N)(hy:∀t,t<N→Zan (R t) (y t))(hz':∀t,t<L→Zan (R' t) (z t)): ∀t,t<N→∃r,ρ t=some r∧Zan r (y t):=fun t ht=>by
 by_cases c:∃j,j<L∧p j=t
 ·obtain⟨j,hj,rfl⟩:=c
  have hm:=h.2 j hj
  have hb:Zan (R (p j)) (y (p j))∧Zan (R' j) (y (p j)):=⟨hy _ ht,hz j hj▸hz' j hj⟩
  cases e:ρ (p j)with
  | none=>rw[e]at hm;exact absurd hb (hm _)
  | some r=>rw[e]at hm;exact⟨r,rfl,(hm.2 _).mpr hb⟩
 ·exact⟨R t,h.1 t ht fun j hj e=>c ⟨j,hj,e⟩,hy t ht⟩
theorem Ztr(hn:n≤60)(hm:m≤60)(hb:b≤9000)(hb1:1≤b)(hG:GB b n G)(hC:CB b n m C)(hi:i<m+1): Zib [ZH n G R,ZR n (Zd3 C i),.lst (tab (m+1) fun j=>ZR n (Zd3 C j))]=some (Zay (m+1) fun j=>rcG n G C i j):=by
 apply Pk.eq
 unfold Zib ZlH Zay
 walk_at "z"
 refine ZbQ (n:=m+1) (a:=fun j=>ZR n (Zd3 C j)) (b:=fun j=>oT (rcG n G C i j)) (by omega) ?_ (fun j hj=>?_) rfl
 ·walk_at "z"
  rfl
 ·walk_at "z"
  refine Zw (Ziw (b:=b) (by omega) hb1 (by omega) (hC.full j hj)) ?_
  walk_at "z"
  exact Zw (Ziv (b:=b+1) (c:=dC C i j) hn (by omega) (by omega) (fun a b ha hb y e=>(hG a b ha hb y e).mono (by omega)) (hC.dif hi hj)) rfl
theorem ZuY(hn:n≤60)(hm:m≤60)(hb:b≤9000)(hb1:1≤b)(hG:GB b n G)(hR:∀t,t<n→RBd b (R t))(ok:∀t,t<n→RestOk (R t))(hC:CB b n m C)(h:Pk (ZaG [ZH m (rcG n G C) (rcR n R C)]) Q): Pk (Zcx [ZH n G R,ZaY n m C]) Q:=by
 obtain⟨t,et,qt⟩:=h
 refine⟨t,?_,qt⟩
 apply Pk.eq
 unfold Zcx Zi7
 have ht:ZH n G R=.tup [.lst (tab (n+1) fun i=>.lst (tab (n+1) fun j=>oT (G i j))),.lst (tab n fun i=>Z1 (R i))]:=rfl
 have hc:cn (ZR n (Z0 0)) (fun i=>ZR n (C i))=fun i=>ZR n (Zd3 C i):=by
  funext i
  cases i with
  | zero=>rw[unC_0];rfl
  | succ i=>rfl
 have hs:ZaY n m C=.lst (tab m fun i=>ZR n (C i)):=rfl
 rw[ht,hs]
 walk_at "z"
 refine Zw (ZeX (i:=0) (n:=n) (by omega)) ?_
 walk_at "z"
 rw[hc]
 refine ZbQ (n:=m+1) (a:=fun j=>ZR n (Zd3 C j)) (b:=fun i=>Zay (m+1) fun j=>rcG n G C i j) (by omega) ?_ (fun j hj=>?_) ?_
 ·walk_at "z"
  rfl
 ·walk_at "z"
  rw[←ht]
  exact Zw (Ztr (b:=b) hn hm hb hb1 hG hC hj) rfl
 walk_at "z"
 refine ZbQ (n:=m) (a:=fun j=>ZR n (C j)) (b:=fun i=>Z1 (rcR n R C i)) (by omega) ?_ (fun j hj=>?_) ?_
 ·walk_at "z"
  rfl
 ·walk_at "z"
  exact Zw (ZgA (i:=b) (by omega) hb1 hb (fun k hk=>hC j hj k hk) hR ok) rfl
 walk_at "z"
 exact Zw et rfl
theorem ZvF{g:PEs}{a:Nat}{L:List T→Prop}(h0:0<m)(hm:a+m≤1000)(e:g σ=some [.int a,.int (a+m)])(h:L (tab m fun i=>.int ((a+i:Nat):Int))): Pl (ZaJ g σ) L:=by
 refine⟨_,Zhl e (by have:=Zoi (a:=a) (n:=m) (by omega) (by omega);simpa using this),?_⟩
 rw[show(tab m fun i=>T.int ((a:Int)+i))=tab m fun i=>.int ((a+i:Nat):Int)from Zbz fun i _=>by congr 1]
 exact h
theorem Zuq(hn:n≤20)(hm0:0<m)(hm:m≤100): ZgV [ZH n G R,.int m]=some (ZH (n+m) (Zbn n G) (ZbJ n R)):=by
 apply Pk.eq
 unfold ZgV Znq
 have ht:∀{n:Nat} {G:Nat→Nat→Option Int} {R:Nat→Int×Int},ZH n G R=.tup [.lst (tab (n+1) fun i=>.lst (tab (n+1) fun j=>oT (G i j))),.lst (tab n fun i=>.tup [.int (R i).1,.int (R i).2])]:=rfl
 rw[ht]
 walk_at "z"
 refine ZbQ (n:=n+1) (a:=fun i=>.lst (tab (n+1) fun j=>oT (G i j))) (b:=fun i=>.lst (tab (n+m+1) fun j=>oT (Zbn n G i j))) (by omega) ?_ (fun i hi=>?_) ?_
 ·walk_at "z"
  rfl
 ·walk_at "z"
  refine Zox (by omega) ?_
  refine ZnL (by omega) ?_
  rw[Zwx hi]
  exact⟨ZuU,rfl⟩
 walk_at "z"
 refine ZbQ (n:=m) (a:=fun i=>.int ((n+1+i:Nat):Int)) (b:=fun i=>.lst (tab (n+m+1) fun j=>oT (Zbn n G (n+1+i) j))) (by omega) ?_ (fun i hi=>?_) ?_
 ·refine ZvF (a:=n+1) (m:=m) hm0 (by omega) ?_ rfl
  simp only[Zd,Zg,Za,Zj,Zl,Z8,Option.bind_some]
  simp[Z4]
  omega
 ·walk_at "z"
  refine Zw (show Zfx [.int ((n+1+i:Nat):Int),.int ((n:Int)+m)]=some (Zay (n+m+1) fun j=>if j=n+1+i then some 0 else none)from Zto (by omega)) ?_
  show T.lst _=T.lst _
  congr 1
  refine Zbz fun j hj=>?_
  unfold Zbn
  rw[if_neg (by omega)]
 walk_at "z"
 refine ZnL (by omega) ?_
 walk_at "z"
 refine Zox (by omega) ?_
 refine ZnL (by omega) ?_
 rw[ZuV]
 refine⟨Ziy fun _ _=>Zg7,?_⟩
 walk_at "z"
 rw[show(ZH (n+m) (Zbn n G) (ZbJ n R))=.tup [.lst (tab (n+m+1) fun i=>.lst (tab (n+m+1) fun j=>oT (Zbn n G i j))),ZbD (n+m) (ZbJ n R)]from rfl,show n+1+m=n+m+1 by omega]
 congr 3
 refine Zbz fun i hi=>?_
 by_cases c:i<n+1
 ·rw[if_pos c]
 ·rw[if_neg c,show n+1+(i-(n+1))=i by omega]
theorem Zmn(hm:m≤90)(hn:n≤900): ZeW [.int m,.int n]=some (ZaY n m fun t=>Z0 (t+1)):=by
 apply Pk.eq
 unfold ZeW Zm1
 walk_at "z"
 refine ZbQ (n:=m) (a:=fun i=>.int ((1+i:Nat):Int)) (b:=fun t=>ZR n (Z0 (t+1))) (by omega) ?_ (fun i hi=>?_) rfl
 ·refine Zjc (a:=1) (m:=m) (by omega) (by omega) ?_ rfl
  show some [T.int 1,T.int ((m:Int)+1)]=_
  rw[show(m:Int)+1=((1:Nat):Int)+m by omega]
  rfl
 ·walk_at "z"
  rw[Nat.add_comm 1 i]
  exact Zw (ZeX (i:=i+1) (n:=n) hn) rfl
theorem ZwB{x:Nat}{f:Nat→T}{w:T}(hx:x<n)(hn:n≤1000): Zf3 [.lst (tab n f),.int ((x:Int)+1),w]=some (.lst (tab n fun i=>if i=x then w else f i)):=by
 apply Pk.eq
 unfold Zf3 Zot
 have hlen:(tab n f).length=n:=Zao
 walk_at "z"
 refine Zzv ?_
 walk_at "z"
 refine⟨_,rfl,?_⟩
 walk_at "z"
 refine⟨x,by congr 1;omega,?_⟩
 walk_at "z"
 refine Zf5 (by simp[hlen];omega) ?_
 refine Zzw ?_
 walk_at "z"
 refine⟨_,rfl,?_⟩
 walk_at "z"
 refine⟨x+1,rfl,?_⟩
 refine Zf5 (by simp[hlen];omega) ?_
 rw[ZxF (by omega),Zhj]
theorem Tm.sub{K K':Nat}{P':(Nat→Int)→Prop}{I':(Nat→Nat→Option Int)→(Nat→Int×Int)→Prop}(h:Tm n K M P I D)(hK:K≤K')(hP:∀x,P' x→P x)(hI:∀G R,(∀t,t<n→RestOk (R t))→I G R→I' G R): Tm n K' M P' I' D:=by
 rcases h with⟨rfl,no⟩ | ⟨G,R,rfl,h1,h2,h3,h4,h5⟩
 ·exact .inl ⟨rfl,fun x p=>no x (hP x p)⟩
 ·exact .inr ⟨G,R,rfl,h1,fun t ht=>(h2 t ht).mono hK,fun i j hi hj y e=>(h3 i j hi hj y e).mono hK,fun x p=>h4 x (hP x p),hI G R (fun t ht=>(h2 t ht).1) h5⟩
theorem RB.bd2(hM:0<M)(bM:Bd m M)(hm:m≤k)(h:RB M k q): RBd k q:=⟨(ZjX hM bM h).mono hm,h.2.2⟩
noncomputable def ZbY(n:Nat)(C:Nat→Nat→Int): Nat→Nat→Int:=fun t=>if t<n then Z0 (t+1)else C (t-n)
theorem ZzD(ok:∀t,t<n→RestOk (R t))(ht:t<n): rcR n R (ZbY n C) t=R t:=by
 unfold rcR ZbY
 rw[if_pos ht,ZrM ok (by omega) (by omega),Nat.add_sub_cancel]
theorem Zy2: rcR n R (ZbY n C) (n+t)=rcR n R C t:=by
 unfold rcR ZbY
 rw[if_neg (by omega),Nat.add_sub_cancel_left]
theorem bd_un: Bd 1 (Z0 i k):=by
 unfold Z0 Bd
 split <;> decide
theorem Zy3{r:Nat}(hC:CB 140 n r C): CB 580 n (n+r) (ZbY n C):=fun i hi k hk=>by
 unfold ZbY
 split
 ·exact bd_un.mono (by decide)
 ·exact(hC (i-n) (by omega) k hk).mono (by decide)
theorem RB.up{M':Int}{k':Nat}(h:RB M k q)(hd:M ∣ M')(hk:k≤k'): RB M' k' q:=⟨h.1,h.2.1.imp id fun d=>Int.dvd_trans d hd,h.2.2.mono hk⟩
theorem Zy4{M':Int}{r:Int×Int}(hp:RB M 3440 p)(hq:RB M' 3440 q)(bp:RBd 3440 p)(bq:Bd 300 q.1)(bq2:Bd 300 q.2)(h:Met p q (some r)): RB (M*M') 4060 r:=by
 have b1:=bp.1
 rcases Zsh (k:=3440) (by decide) hp.1 hq.1 bp ⟨bq.mono (by decide),bq2.mono (by decide)⟩ h r rfl with rfl | rfl | ⟨z1,z2,e⟩
 ·exact hp.up (Int.dvd_mul_right _ _) (by decide)
 ·exact hq.up (Int.dvd_mul_left _ _) (by decide)
 ·refine⟨h.1,.inr ?_,?_⟩
  ·rw[e]
   have d1:p.1 ∣ M:=hp.2.1.resolve_left z1
   have d2:q.1 ∣ M':=hq.2.1.resolve_left z2
   exact Int.coe_lcm_dvd (Int.dvd_trans d1 (Int.dvd_mul_right _ _)) (Int.dvd_trans d2 (Int.dvd_mul_left _ _))
  ·have b2:Bd 4060 r.1:=by rw[e];exact(ZoX b1 bq).mono (by decide)
   have n0:r.1≠0:=by rw[e];intro h;exact(Int.lcm_ne_zero z1 z2) (by omega)
   rcases h.1 with q | ⟨_,q2,q3⟩
   ·exact absurd q n0
   ·unfold Bd at *;omega
theorem ZxV(hk:1≤k)(h:∀t,t<m→RB M k (R t))(t:Nat): RB M k (ZbJ m R t):=by
 unfold ZbJ
 split
 ·exact h t (by assumption)
 ·exact⟨.inr ⟨by decide,by decide,by decide⟩,.inr (Int.one_dvd _),Zcd⟩
theorem wide_GB(h:GB k m G): GB k N (Zbn m G):=fun i j hi hj y e=>by
 unfold Zbn at e
 split at e
 ·rename_i c;exact h i j c.1 c.2 y e
 ·split at e
  ·cases e;exact Zcd
  ·cases e
def ZsK(n r m:Nat)(G:Nat→Nat→Option Int)(R:Nat→Int×Int)(G':Nat→Nat→Option Int)(R':Nat→Int×Int)(D:T): Prop:=∃ρ,Zgn (m+1) (ZbJ m R) (fun i=>n+i) R' (r+1) ρ∧ZsH (m+1) (ZdH (qOf fun i=>n+i) G' (r+1+1) (Zbn m G) (r+1+1)) ρ D
theorem Zy5{r:Nat}(hm:m=n+r)(hn:n≤4)(hr:r≤4)(hM:0<M)(bM:Bd 3400 M)(hd:∀i,i<m+1→G i i=some 0)(hG:GB 3440 m G)(hR:∀t,t<m→RB M 3440 (R t))(hd':∀i,i<r+1+1→G' i i=some 0)(ok':∀t,t<r+1→RestOk (R' t))(sG':SmG 300 (r+1) G')(sR':SmR 300 (r+1) R'): ∃D,ZfT [ZH (m+1) (Zbn m G) (ZbJ m R),.lst (tab (r+1) fun i=>.int (((n+i:Nat):Int)+1)),ZH (r+1) G' R']=some D∧ZsK n r m G R G' R' D∧∃M',0<M'∧Bd 4950 M'∧Tm (m+1) 4060 M' (fun y=>Zaq m G R y∧Zaq (r+1) G' R' fun i=>y (n+i)) (fun G3 R3=>(∀i,i<m+1→∀j,j<m+1→leO (G3 i j) (G i j))∧∀t,t<m→RIn (R3 t) (R t)) D:=by
 have hp:∀i,i<r+1→n+i<m+1:=fun i hi=>by omega
 have inj:∀i j,i<r+1→j<r+1→n+i=n+j→i=j:=fun i j _ _ h=>by omega
 have bR':∀t,t<r+1→RBd 3440 (R' t):=fun t ht=>⟨(show Bd 300 _ from(sR' t ht).1).mono (by decide),(show Bd 300 _ from(sR' t ht).2).mono (by decide)⟩
 have wRB:=ZxV (k:=3440) (by decide) hR
 have wok:∀t,t<m+1→RestOk (ZbJ m R t):=fun t _=>(wRB t).1
 have wb:∀t,t<m+1→RBd 3440 (ZbJ m R t):=fun t _=>(wRB t).bd2 hM bM (by decide)
 obtain⟨D,e1,ρ,hl,hT⟩:=ZuW (N:=m+1) (L:=r+1) (b:=3440) (p:=fun i=>n+i) (Γ:=Zbn m G) (G':=G') (by omega) (by omega) (by decide) hp inj wok ok' wb bR'
 have hpm:=Zg1 ok' (r+1) (Zz10 _)
 have hpb:=Zhc (k:=300) (by decide) (fun t ht=>(sR' t ht).1) (r+1) (Zz10 _)
 refine⟨D,e1,⟨ρ,hl,hT⟩,M*ZcX R' (r+1),Int.mul_pos hM hpm,(bM.mul hpb).mono (by omega),?_⟩
 have key:∀y,Zaq m G R y→(Zaq (r+1) G' R' fun i=>y (n+i))→Zaq (m+1) (Zbn m G) (ZbJ m R) y:=fun y h _=>ZvE h fun _ _=>rfl
 rcases hT with⟨rfl,i,hi,hnone⟩ | ⟨rfl,hsome⟩
 ·refine .inl ⟨rfl,fun y h=>?_⟩
  obtain⟨q,eq,_⟩:=Zrb (y:=y) (z:=fun i=>y (n+i)) hl (fun i _=>rfl) hp (key y h.1 h.2).2 h.2.2 i hi
  rw[hnone]at eq
  cases eq
 ·have hs:∀t,t<m+1→ρ t=some ((ρ t).getD (1,0)):=fun t ht=>by
   cases e:ρ t with
   | none=>exact absurd e (hsome t ht)
   | some q=>rfl
  have cases:∀t,t<m+1→(ρ t).getD (1,0)=ZbJ m R t∨∃j,j<r+1∧t=n+j∧Met (ZbJ m R t) (R' j) (some ((ρ t).getD (1,0))):=fun t ht=>by
   by_cases c:∃j,j<r+1∧n+j=t
   ·obtain⟨j,hj,rfl⟩:=c
    have:=hl.2 j hj
    rw[hs (n+j) ht]at this
    exact .inr ⟨j,hj,rfl,this⟩
   ·have:=hl.1 t ht fun j hj e=>c ⟨j,hj,e⟩
    rw[this]
    exact .inl rfl
  refine .inr ⟨_,_,rfl,ZxU inj hp (Zy1 hd) hd',fun t ht=>?_,?_,fun y h=>⟨ZuX (z:=fun i=>y (n+i)) (fun i _=>rfl) (key y h.1 h.2) h.2,fun t ht=>?_⟩,fun i hi j hj=>?_,fun t ht=>?_⟩
  ·rcases cases t ht with e | ⟨j,hj,_,hm⟩
   ·rw[e];exact(wRB t).up (Int.dvd_mul_right _ _) (by decide)
   ·exact Zy4 (wRB t) ⟨ok' j hj,Zg2 (r+1) j hj,(bR' j hj).2⟩ (wb t ht) (sR' j hj).1 (sR' j hj).2 hm
  ·refine Zhe (fun Δ=>GB 4060 (m+1) Δ) (fun Δ i j hi hj hΔ a b ha hb y e=>?_) (fun i j hi hj y e=>((wide_GB hG:GB 3440 (m+1) _) i j hi hj y e).mono (by decide)) (r+1+1) (Zz10 _)
   unfold ZbE at e
   split at e
   ·rename_i c
    refine Zjz (hΔ _ _ (c.1▸ha) (c.2▸hb)) (fun z ez=>?_) y e
    exact(show Bd 300 z from sG' i j hi hj z ez).mono (by decide)
   ·exact hΔ a b ha hb y e
  ·obtain⟨q,eq,hq⟩:=Zrb (y:=y) (z:=fun i=>y (n+i)) hl (fun i _=>rfl) hp (key y h.1 h.2).2 h.2.2 t ht
   show Zan ((ρ t).getD (1,0)) (y t)
   rw[eq]
   exact hq
  ·have:=Zhe (q:=qOf fun i=>n+i) (G':=G') (k:=r+1+1) (fun Δ=>∀i j,leO (Δ i j) (Zbn m G i j)) (fun Δ i j hi hj hΔ a b=>by
    unfold ZbE
    split
    ·rename_i c
     obtain⟨c1,c2⟩:=c
     subst c1 c2
     exact Zc3 Zfe (hΔ _ _)
    ·exact hΔ a b) (Γ:=Zbn m G) (fun i j=>Zcn) (r+1+1) (Zz10 _) i j
   unfold Zbn at this
   rw[if_pos ⟨hi,hj⟩]at this
   exact this
  ·have wt:ZbJ m R t=R t:=by unfold ZbJ;rw[if_pos ht]
   show RIn ((ρ t).getD (1,0)) (R t)
   rcases cases t (by omega)with e | ⟨j,hj,_,hm⟩
   ·rw[e,wt];exact Zn2
   ·rw[wt]at hm
    exact ZhD hm.1 (hR t ht).1 fun x hx=>((hm.2 x).mp hx).1
noncomputable def Zda(n m x:Nat): Nat→Nat:=fun t=>if t=x then m+1 else t+1
theorem ZzE{x:Nat}(hn:n≤m): Ord (m+1) n (Zda n m x):=fun t ht=>by
 unfold Zda
 split <;> omega
theorem ZkY{x row s:T}(h:ZaG [s]=some .none){s2:T}: Zb3 [s,x,row,s2]=some .none:=by
 apply Pk.eq
 unfold Zb3 ZfL
 walk_at "z"
 refine Zw h ?_
 walk_at "z"
 rfl
theorem Zts{x row s:T}(h:ZaG [s]=some (ZH n G R)): Zb3 [s,x,row,.none]=some .none:=by
 have ht:ZH n G R=.tup [Zab (n+1) G,.lst (tab n fun i=>Z1 (R i))]:=rfl
 have hne:∀{Q:T→Prop},Q (.bool false)→Pk (qIs (ZH n G R) .none) Q:=fun h=>⟨_,by rw[ht];rfl,h⟩
 apply Pk.eq
 unfold Zb3 ZfL
 walk_at "z"
 refine Zw h ?_
 walk_at "z"
 refine hne ?_
 walk_at "z"
 rfl
theorem Zrc{r:Nat}: (tab n fun t=>ZR n (Z0 (t+1)))++(tab r fun t=>ZR n (C t))=tab (n+r) fun t=>ZR n (ZbY n C t):=by
 refine List.ext_getElem? fun i=>?_
 rw[List.getElem?_append]
 rw[Zao]
 split
 ·rename_i h
  rw[Zbc h,Zbc (by omega)]
  unfold ZbY
  rw[if_pos h]
 ·rename_i h
  by_cases c:i-n<r
  ·rw[Zbc c,Zbc (by omega)]
   unfold ZbY
   rw[if_neg h]
  ·rw[ZoH (by omega),ZoH (by omega)]
theorem ZvG{x:Nat}: (T.lst (tab n fun i=>if i=x then ZR (m+1) (Z0 (m+1))else ZR (m+1) (Z0 (i+1))))=ZaY (m+1) n fun t=>Z0 (Zda n m x t):=by
 unfold ZaY
 congr 1
 refine Zbz fun i _=>?_
 by_cases q:i=x
 ·rw[if_pos q];show _=ZR (m+1) (Z0 (if i=x then m+1 else i+1));rw[if_pos q]
 ·rw[if_neg q];show _=ZR (m+1) (Z0 (if i=x then m+1 else i+1));rw[if_neg q]
theorem Zt5{r:Nat}{Gs:Nat→Nat→Option Int}{Rs:Nat→Int×Int}{S0:T}{xv:T}(hn:n≤20)(hr:r≤20)(hS:∃m G R,S0=ZH m G R)(h1:ZaG [T0]=some (ZH n Gs Rs))(h2:Zcx [ZH n Gs Rs,ZaY n (n+r) (ZbY n C)]=some .none): Zb3 [T0,xv,ZaY n r C,S0]=some .none:=by
 have ht:ZH n Gs Rs=.tup [Zab (n+1) Gs,.lst (tab n fun i=>Z1 (Rs i))]:=rfl
 have hne:∀{Q:T→Prop},Q (.bool false)→Pk (qIs (ZH n Gs Rs) .none) Q:=fun h=>⟨_,by rw[ht];rfl,h⟩
 have hg:∀{Q:T→Prop},Q (.lst (tab n fun i=>Z1 (Rs i)))→Pk (Zt (ZH n Gs Rs) (.int 1)) Q:=fun h=>⟨_,by rw[ht];rfl,h⟩
 have hne2:∀{Q:T→Prop},Q (.bool false)→Pk (qIs S0 .none) Q:=fun h=>by obtain⟨m,G,R,rfl⟩:=hS;exact⟨_,rfl,h⟩
 have hs:ZaY n r C=.lst (tab r fun i=>ZR n (C i)):=rfl
 apply Pk.eq
 unfold Zb3 ZfL
 rw[hs]
 clear ht
 generalize hD:ZH n Gs Rs=T1 at *
 walk_at "z"
 refine Zw h1 ?_
 walk_at "z"
 refine hne ?_
 walk_at "z"
 refine hne2 ?_
 walk_at "z"
 refine hg ?_
 walk_at "z"
 refine Zw (Zmn (m:=n) (n:=n) (by omega) (by omega)) ?_
 unfold ZaY
 walk_at "z"
 refine Zf5 (by simp[tab];omega) ?_
 rw[Zrc,show T.lst (tab (n+r) fun t=>ZR n (ZbY n C t))=ZaY n (n+r) (ZbY n C)from rfl]
 walk_at "z"
 refine Zw h2 ?_
 walk_at "z"
 rfl
theorem Zur{r x:Nat}{Gs Gg:Nat→Nat→Option Int}{Rs Rg:Nat→Int×Int}{S0 L0 B0:T}(hm:m=n+r)(hx:x<n)(hn:n≤10)(hr:r≤10)(hS:∃m G R,S0=ZH m G R)(h1:ZaG [T0]=some (ZH n Gs Rs))(h2:Zcx [ZH n Gs Rs,ZaY n (n+r) (ZbY n C)]=some (ZH m Gg Rg))(h3:ZfT [ZH (m+1) (Zbn m Gg) (ZbJ m Rg),.lst (tab (r+1) fun i=>.int (((n+i:Nat):Int)+1)),S0]=some L0)(h4:ZaG [L0]=some B0)(h5:Zcx [B0,ZaY (m+1) n fun t=>Z0 (Zda n m x t)]=some D): Zb3 [T0,.int ((x:Int)+1),ZaY n r C,S0]=some D:=by
 have ht:ZH n Gs Rs=.tup [Zab (n+1) Gs,.lst (tab n fun i=>Z1 (Rs i))]:=rfl
 have hne:∀{Q:T→Prop},Q (.bool false)→Pk (qIs (ZH n Gs Rs) .none) Q:=fun h=>⟨_,by rw[ht];rfl,h⟩
 have hne3:∀{Q:T→Prop},Q (.bool false)→Pk (qIs (ZH m Gg Rg) .none) Q:=fun h=>⟨_,rfl,h⟩
 have hg:∀{Q:T→Prop},Q (.lst (tab n fun i=>Z1 (Rs i)))→Pk (Zt (ZH n Gs Rs) (.int 1)) Q:=fun h=>⟨_,by rw[ht];rfl,h⟩
 have hne2:∀{Q:T→Prop},Q (.bool false)→Pk (qIs S0 .none) Q:=fun h=>by obtain⟨m,G,R,rfl⟩:=hS;exact⟨_,rfl,h⟩
 have hs:ZaY n r C=.lst (tab r fun i=>ZR n (C i)):=rfl
 have hw:ZgV [ZH m Gg Rg,.int ((1:Nat):Int)]=some (ZH (m+1) (Zbn m Gg) (ZbJ m Rg)):=Zuq (by omega) (by decide) (by decide)
 have hb1:ZeW [.int n,.int (m+1:Nat)]=some (ZaY (m+1) n fun t=>Z0 (t+1)):=Zmn (by omega) (by omega)
 have hb2:Zde [.int (m+1:Nat),.int (m+1:Nat)]=some (ZR (m+1) (Z0 (m+1))):=ZeX (by omega)
 have hl:Zf3 [.lst (tab n fun t=>ZR (m+1) (Z0 (t+1))),.int ((x:Int)+1),ZR (m+1) (Z0 (m+1))]=some (ZaY (m+1) n fun t=>Z0 (Zda n m x t)):=by rw[ZwB hx (by omega),ZvG]
 apply Pk.eq
 unfold Zb3 ZfL
 rw[hs]
 clear ht
 generalize ZH n Gs Rs=T1 at *
 generalize ZH m Gg Rg=T2 at *
 generalize ZH (m+1) (Zbn m Gg) (ZbJ m Rg)=T3 at *
 walk_at "z"
 refine Zw h1 ?_
 walk_at "z"
 refine hne ?_
 walk_at "z"
 refine hne2 ?_
 walk_at "z"
 refine hg ?_
 walk_at "z"
 refine Zw (Zmn (m:=n) (n:=n) (by omega) (by omega)) ?_
 unfold ZaY
 walk_at "z"
 refine Zf5 (by simp[tab];omega) ?_
 rw[Zrc,show T.lst (tab (n+r) fun t=>ZR n (ZbY n C t))=ZaY n (n+r) (ZbY n C)from rfl]
 walk_at "z"
 refine Zw h2 ?_
 walk_at "z"
 refine hne3 ?_
 walk_at "z"
 refine Zw hw ?_
 walk_at "z"
 rw[show(n:Int)+r+1=((m+1:Nat):Int)by omega]
 refine Zwm (n:=r+1) (by omega) (by omega) ?_
 have et:(tab (r+1) fun i=>T.int ((n:Int)+1+i))=tab (r+1) fun i=>.int (((n+i:Nat):Int)+1):=Zbz fun i _=>congrArg T.int (by omega)
 rw[et]
 walk_at "z"
 refine Zw h3 ?_
 walk_at "z"
 refine Zw h4 ?_
 walk_at "z"
 refine Zw hb1 ?_
 unfold ZaY
 walk_at "z"
 refine Zw hb2 ?_
 walk_at "z"
 refine Zw hl ?_
 walk_at "z"
 exact Zw h5 rfl
theorem ZtK{a:T}: Zdt [.none,a]=some .none:=by
 apply Pk.eq
 unfold Zdt ZgO
 walk_at "z"
 rfl
theorem leO_0: leO a (some 0)↔∃y,a=some y∧y≤0:=⟨fun h=>h 0 rfl,fun h z e=>by cases e;exact h⟩
theorem Zpm{D1 D2:T}(hn:n≤20)(bc:∀i,i<n+1→Bd 300 (c i))(h1:Zdt [T0,ZR n c]=some D1)(h2:Zdt [D1,ZR n fun k=>-(c k)]=some D2)(h3:DueOk n D2): Zft [T0,ZR n c]=some D2:=by
 apply Pk.eq
 unfold Zft ZkF
 have bn:Bd 300 (-1):=(show Bd 1 (-1)by unfold Bd;decide).mono (by decide)
 have hf:Zen [D2]=some D2:=by
  rcases h3 with rfl | ⟨G,R,rfl,_⟩
  ·exact Zhd .none
  ·exact Zhd ((ZrG (by omega)).mono (by decide))
 walk_at "z"
 refine Zw h1 ?_
 walk_at "z"
 refine Zw (ZeM (b:=300) (by omega) (by decide) bc bn) ?_
 rw[ZnI]
 walk_at "z"
 refine Zw h2 ?_
 walk_at "z"
 exact Zw hf rfl
theorem ZvH(hn:n≤60)(hb:b≤4100)(hb1:1≤b)(hG:GB b n G)(bc:∀i,i<n+1→Bd b (c i))(bg:∀y,grt n G (fun i=>-(c i))=some y→Bd 100000 y): Zf2 [ZH n G R,ZR n c]=some (oT ((grt n G fun i=>-(c i)).map fun y=>y * -1)):=by
 apply Pk.eq
 unfold Zf2 Zos
 have b1:Bd b (-1):=by have:=Zea hb1;unfold Bd at *;simpa using this
 walk_at "z"
 refine Zw (ZeM (by omega) (by omega) bc b1) ?_
 rw[ZxH]
 walk_at "z"
 refine Zw (Ziv hn (by omega) hb1 hG fun i hi=>by have:=bc i hi;show Bd b (-(c i));unfold Bd at *;omega) ?_
 walk_at "z"
 exact Zw (Zig (i:=100000) (by decide) bg (b1.mono (by omega))) rfl
theorem Zpu{d:Nat→Int}(hn:n≤60)(hb:b≤4100)(hb1:1≤b)(hG:GB b n G)(bc:∀i,i<n+1→Bd b (c i))(bd:∀i,i<n+1→Bd b (d i-c i)): Zgz [ZH n G R,ZR n d,ZR n c,.int top]=some (oT (addO (grt n G fun k=>d k-c k) (some top))):=by
 apply Pk.eq
 unfold Zgz ZlJ
 walk_at "z"
 refine Zw (Ziw (by omega) hb1 (by omega) bc) ?_
 walk_at "z"
 refine Zw (Ziv hn (by omega) hb1 hG bd) ?_
 walk_at "z"
 exact Zw (ZfF (b:=some top)) rfl
theorem Zs9(hn:n≤60)(hb:b≤4000)(hb1:1≤b)(hG:GB b n G)(bc:∀i,i<n+1→Bd b (c i))(hd:∀i,i<n+1→G i i=some 0)(hc:∀y,grt n G (fun k=>-(c k))=some y→-y≤top): Zh6 [Zab (n+1) G,ZH n G R,ZR n c,.int top]=some (Zab (n+1) (apW n G c top)):=by
 apply Pk.eq
 unfold Zh6 Zli
 refine Zon rfl ?_
 have ht:ZH n G R=.tup [Zab (n+1) G,.lst (tab n fun i=>Z1 (R i))]:=rfl
 have bu:∀i k,k<n+1→Bd b (Z0 i k):=fun i k _=>by
  rcases Zfg (i:=i) (k:=k)with e | e <;> rw[e]
  ·exact Zcd
  ·exact Zea hb1
 have hw:∀i j,i<n+1→Za8 (G i j) (addO (grt n G (apC c i j)) (some top))=apW n G c top i j:=fun i j hi=>by
  unfold apW
  split
  ·rename_i e
   subst e
   rw[hd i hi]
   refine Zjt ?_
   have:apC c i i=fun k=>-(c k):=by funext k;unfold apC;omega
   rw[this]
   cases e:grt n G fun k=>-(c k)with
   | none=>exact Zi8
   | some y=>exact leO_some.mpr (by have:=hc y e;omega)
  ·rfl
 rw[ht]
 walk_at "z"
 rw[←ht]
 refine Zdj (n:=n+1) (a:=fun i=>.int i) (P:=fun i σ=>σ 0=some (Zab (n+1) (Wv (apW n G c top) G i 0))∧σ 1=some (ZH n G R)∧σ 2=some (ZR n c)∧σ 3=some (.int top)∧σ 4=some (.int n)) ?_ ⟨by rw[ZzO];rfl,rfl,rfl,rfl,rfl⟩ ?_ ?_
 ·walk_at "z"
  exact Zgi (n+1) (by omega) (by omega) rfl
 ·rintro i σ hi ⟨e0,e1,e2,e3,e4⟩
  refine Zdj (n:=n+1) (a:=fun j=>.int j) (P:=fun j σ=>σ 0=some (Zab (n+1) (Wv (apW n G c top) G i j))∧σ 1=some (ZH n G R)∧σ 2=some (ZR n c)∧σ 3=some (.int top)∧σ 4=some (.int n)∧σ 5=some (.int i)) ?_ ⟨by walk_at "r",by walk_at "r",by walk_at "r",by walk_at "r",by walk_at "r",by walk_at "r"⟩ ?_ ?_
  ·walk_at "z"
   exact Zgi (n+1) (by omega) (by omega) rfl
  ·rintro j σ hj ⟨e0,e1,e2,e3,e4,e5⟩
   walk_at "z"
   refine Zw (ZeX (by omega)) ?_
   walk_at "z"
   refine Zw (ZeX (by omega)) ?_
   walk_at "z"
   refine Zw (Ziw (b:=b) (by omega) hb1 (by omega) (bu j)) ?_
   refine Zga (t:=Zab (n+1) (Wv (apW n G c top) G i j)) (by walk_at "r") ?_
   walk_at "z"
   refine Zw (Zpu (b:=b+2) (d:=fun k=>Z0 i k-Z0 j k) hn (by omega) (by omega) (fun a b ha hb y e=>(hG a b ha hb y e).mono (by omega)) (fun k hk=>(bc k hk).mono (by omega)) (ZsI hb1 bc i j)) ?_
   walk_at "z"
   refine Zw (Ziu hi hj) ?_
   rw[Zzz,show(fun k=>Z0 i k-Z0 j k-c k)=apC c i j from rfl,hw i j hi,ZyV]
   exact⟨Zcu,by walk_at "r",by walk_at "r",by walk_at "r",by walk_at "r",by walk_at "r"⟩
  ·rintro σ ⟨e0,e1,e2,e3,e4,e5⟩
   exact⟨by rw[←ZyW];exact e0,e1,e2,e3,e4⟩
 ·rintro σ ⟨e0,e1,e2,e3,e4⟩
  exact⟨_,e0,ZyX⟩
theorem Zta(hn:n≤60)(hb:b≤4000)(hb1:1≤b)(hG:GB b n G)(bc:∀i,i<n+1→Bd b (c i)): Zh8 [Zab (n+1) Γ,ZH n G R,ZR n c,.int top]=some (Zab (n+1) (alW n G c top Γ n)):=by
 apply Pk.eq
 unfold Zh8 Zlk
 refine Zon rfl ?_
 have ht:ZH n G R=.tup [Zab (n+1) G,.lst (tab n fun i=>Z1 (R i))]:=rfl
 have bu:∀i k,k<n+1→Bd b (Z0 i k):=fun i k _=>by
  rcases Zfg (i:=i) (k:=k)with e | e <;> rw[e]
  ·exact Zcd
  ·exact Zea hb1
 rw[ht]
 walk_at "z"
 rw[←ht]
 refine Zdj (n:=n) (a:=fun i=>.int ((1+i:Nat):Int)) (P:=fun i σ=>σ 0=some (Zab (n+1) (alW n G c top Γ i))∧σ 1=some (ZH n G R)∧σ 2=some (ZR n c)∧σ 3=some (.int top)∧σ 4=some (.int n)) ?_ ⟨by rw[ZzA];rfl,rfl,rfl,rfl,rfl⟩ ?_ ?_
 ·refine Zjc (a:=1) (m:=n) (by omega) (by omega) ?_ rfl
  simp only[Zd,Zj,Zl,Zg,Za,Z8,Option.bind_some,if_true,Z4]
  congr 3
  congr 1
  omega
 ·rintro i σ hi ⟨e0,e1,e2,e3,e4⟩
  have h1:1+i<n+1:=by omega
  have hs:ZR n c=.lst (tab (n+1) fun k=>.int (c k)):=rfl
  rw[hs]at e2
  walk_at "z"
  rw[←hs]at e2
  have ci:=bc (1+i) h1
  have hG2:GB (b+2) n G:=fun a b ha hb y e=>(hG a b ha hb y e).mono (by omega)
  have bc2:∀k,k<n+1→Bd (b+2) (c k):=fun k hk=>(bc k hk).mono (by omega)
  refine Zw (ZeX (by omega)) ?_
  walk_at "z"
  refine Zw (ZeM (b:=b) (by omega) (by omega) (bu (1+i)) ci) ?_
  walk_at "z"
  refine Zw (Zpu (b:=b+2) (d:=fun k=>Z0 (1+i) k*c (1+i)) hn (by omega) (by omega) hG2 bc2 (ZsJ bc (1+i) h1)) ?_
  rw[show(fun k=>Z0 (1+i) k*c (1+i)-c k)=alC c (1+i)from rfl]
  have hp:∀k,k=(if c (1+i)<0 then -(c (1+i))else c (1+i))→(addO (grt n G (alC c (1+i))) (some top)).map (fun y=>y.fdiv k)=prt n G c top (1+i):=fun k e=>by unfold prt;rw[e]
  rw[Nat.add_comm 1 i]at *
  rcases Int.lt_trichotomy (c (i+1)) 0 with q | q | q
  ·have q':¬0<c (i+1):=by omega
   walk_at "z"
   refine Zga (t:=Zab (n+1) (alW n G c top Γ i)) (by walk_at "r") ?_
   walk_at "z"
   refine Zw (ZpA (i:=b) (by omega) (by omega) (show Bd b (-(c (i+1)))by unfold Bd at *;omega)) ?_
   walk_at "z"
   refine Zw (Ziu (a:=0) (by omega) h1) ?_
   rw[hp _ (by rw[if_pos q]),ZxM q]
   exact⟨Zcu,by walk_at "r",by walk_at "r",by walk_at "r",by walk_at "r"⟩
  ·have q':¬0<c (i+1):=by omega
   have q'':¬c (i+1)<0:=by omega
   walk_at "z"
   rw[←Zwz q]
   exact⟨by walk_at "r",by walk_at "r",by walk_at "r",by walk_at "r",by walk_at "r"⟩
  ·have q':¬c (i+1)<0:=by omega
   walk_at "z"
   refine Zga (t:=Zab (n+1) (alW n G c top Γ i)) (by walk_at "r") ?_
   walk_at "z"
   refine Zw (ZpA (i:=b) (by omega) (by omega) ci) ?_
   walk_at "z"
   refine Zw (Ziu (b:=0) h1 (by omega)) ?_
   rw[hp _ (by rw[if_neg q']),ZxL q]
   walk_at "z"
   exact⟨by walk_at "r",by walk_at "r",by walk_at "r",by walk_at "r",by walk_at "r"⟩
 ·rintro σ ⟨e0,e1,e2,e3,e4⟩
  exact⟨_,e0,rfl⟩
theorem ZqD(hn:n≤60)(hb:b≤4000)(hb1:1≤b)(hG:GB b n G)(bc:∀i,i<n+1→Bd b (c i)): Zf2 [ZH n G R,ZR n c]=some (oT ((grt n G fun i=>-(c i)).map fun y=>y * -1)):=ZvH hn (by omega) hb1 hG bc fun y e=>(Zoy hG (Zjx bc) y e).mono (by omega)
theorem Zus(hn:n≤60)(hb:b≤4000)(hb1:1≤b)(hG:GB b n G)(bc:∀i,i<n+1→Bd b (c i))(hd:∀i,i<n+1→G i i=some 0)(hc:∀y,grt n G (fun k=>-(c k))=some y→-y≤top)(h:ZaG [ZH n (amG n G c top) R]=some D): Zcf [ZH n G R,ZR n c,.int top]=some D:=by
 apply Pk.eq
 unfold Zcf ZgW
 have ht:ZH n G R=.tup [Zab (n+1) G,.lst (tab n fun i=>Z1 (R i))]:=rfl
 have hne:∀{Q:T→Prop},Q (.bool false)→Pk (qIs (ZH n G R) .none) Q:=fun h=>⟨_,by rw[ht];rfl,h⟩
 have hx:ZfR [oT ((grt n G fun i=>-(c i)).map fun y=>y * -1),.int top]=some (.bool false):=by
  rw[show T.int top=oT (some top)from rfl,Zqe,ZaM]
  rintro⟨x,y,h1,h2,h3⟩
  cases h2
  obtain⟨z,e1,rfl⟩:=Zz1.mp h1
  have:=hc z e1
  omega
 have hg:∀{Q:T→Prop},Q (Zab (n+1) G)→Pk (Zt (ZH n G R) (.int 0)) Q:=fun h=>⟨_,by rw[ht];rfl,h⟩
 walk_at "z"
 refine hne ?_
 walk_at "z"
 refine Zw (ZqD hn hb hb1 hG bc) ?_
 walk_at "z"
 refine Zw hx ?_
 walk_at "z"
 refine hg ?_
 walk_at "z"
 refine Zw (Zhd (ZxO (by omega))) ?_
 walk_at "z"
 refine Zga (t:=Zab (n+1) G) (by walk_at "r") ?_
 walk_at "z"
 refine Zw (Zs9 hn hb hb1 hG bc hd hc) ?_
 walk_at "z"
 refine Zga (t:=Zab (n+1) (apW n G c top)) (by walk_at "r") ?_
 walk_at "z"
 refine Zw (Zta hn hb hb1 hG bc) ?_
 rw[ht]
 walk_at "z"
 exact Zw h rfl
theorem Zt6(hn:n≤60)(hb:b≤4000)(hb1:1≤b)(hG:GB b n G)(bc:∀i,i<n+1→Bd b (c i))(e:grt n G (fun k=>-(c k))=some y)(hy:top < -y): Zcf [ZH n G R,ZR n c,.int top]=some .none∧True:=by
 have ht:ZH n G R=.tup [Zab (n+1) G,.lst (tab n fun i=>Z1 (R i))]:=rfl
 have hne:∀{Q:T→Prop},Q (.bool false)→Pk (qIs (ZH n G R) .none) Q:=fun h=>⟨_,by rw[ht];rfl,h⟩
 have hx:ZfR [oT ((grt n G fun i=>-(c i)).map fun y=>y * -1),.int top]=some (.bool true):=by
  rw[show T.int top=oT (some top)from rfl,Zqe,ZaH]
  exact⟨y * -1,top,by rw[e];rfl,rfl,by omega⟩
 constructor
 ·apply Pk.eq
  unfold Zcf ZgW
  walk_at "z"
  refine hne ?_
  walk_at "z"
  refine Zw (ZqD hn hb hb1 hG bc) ?_
  walk_at "z"
  refine Zw hx ?_
  walk_at "z"
  rfl
 ·trivial
theorem ZxW: [T.int (c 0-top)]++(tab (n+1) fun i=>T.int (c i)).drop 1=tab (n+1) fun i=>T.int (Zct c top i):=by
 apply List.ext_getElem
 ·simp[tab]
 ·intro i h1 h2
  cases i with
  | zero=>simp[tab,Zct]
  | succ i=>simp[tab,Zct]
def Zgo(n:Nat)(c:Nat→Int): Prop:=∀k,1≤k→k≤n→c k=0
theorem ZjB{n:Nat}{c x:Nat→Int}(h:Zgo n c): ∀j,j≤n→Zaf c x j=c 0
 | 0,_=>rfl
 | j+1,hj=>by
  show Zaf c x j+c (j+1)*x j=_
  rw[ZjB h j (by omega),h (j+1) (by omega) hj,Int.zero_mul,Int.add_zero]
def Zpf(n:Nat)(c:Nat→Int)(i:Nat): Prop:=1≤i∧i≤n∧∀k,1≤k→k≤n→k≠i→c k=0
theorem Zsp: Z0 i 0=0:=by unfold Z0;rw[if_neg (by omega)]
theorem ZrR(h:Zpf n c i): Zgo n (ZaL c i):=fun k a b=>by
 show c k-Z0 i k*c i=0
 by_cases q:k=i
 ·rw[q,Zff h.1];omega
 ·rw[Zd0 q,h.2.2 k a b q];omega
theorem ZxX(h:Zpf n c i): Zaf c x n=c 0+Zar x i*c i:=by
 have hv:Zaf (ZaL c i) x n=Zaf c x n-Zar x i*c i:=by
  rw[show ZaL c i=fun k=>c k-(fun a=>Z0 i a*c i) k from rfl,Zf6,Zi4,Zhq i (by have:=h.2.1;omega)]
 rw[ZjB (ZrR h) n (Zz10 n)]at hv
 have:ZaL c i 0=c 0:=by show c 0-Z0 i 0*c i=c 0;rw[Zsp];omega
 omega
theorem Zn9(ok:∀t,t<n→RestOk (R t))(h:Zgo n c): Za5 c R n=(0,c 0):=by
 have h1:∀j,j≤n→Zbf c R j=0∧ZbP c R j=c 0:=fun j=>by
  induction j with
  | zero=>intro _;exact⟨rfl,rfl⟩
  | succ j ih=>
   intro hj
   obtain⟨a,b⟩:=ih (by omega)
   have z:=h (j+1) (by omega) hj
   constructor
   ·show((Int.gcd (Zbf c R j) (c (j+1)*(R j).1):Nat):Int)=0
    rw[a,z,Int.zero_mul]
    rfl
   ·show ZbP c R j+c (j+1)*(R j).2=c 0
    rw[b,z,Int.zero_mul,Int.add_zero]
 obtain⟨a,b⟩:=h1 n (Zz10 n)
 rw[ZcL ok n (Zz10 n),a,b]
 rfl
theorem ZsL(h:0<d): ((Int.gcd 0 d:Nat):Int)=d:=by
 rw[Int.gcd_zero_left]
 omega
theorem ZxY(op:RestOk p)(h:Zan p v)(hd:d ∣ v): Zan (Zeb p d) 0:=by
 unfold Zeb
 refine(ZcQ (by omega) _).mpr ?_
 have a:=(Zbl op.nn v).mp h
 have g1:((Int.gcd p.1 d:Nat):Int) ∣ p.1:=Int.gcd_dvd_left ..
 have g2:((Int.gcd p.1 d:Nat):Int) ∣ d:=Int.gcd_dvd_right ..
 have:=Int.dvd_sub (Int.dvd_trans g1 a) (Int.dvd_trans g2 hd)
 rwa [show v-p.2-v=0-p.2 by omega]at this
theorem Zsq: RestOk (Zeb p d):=Zcm (by omega) _
def EvC(n:Nat)(c:Nat→Int): Prop:=Zgo n c∨∃i,Zpf n c i∧(c i=1∨c i = -1)
theorem ZuZ(hd:0<d)(ok:∀t,t<n→RestOk (R t))(h0:Zan (Zeb (Za5 c R n) d) 0)(hb:∀t,t<n→ZcJ n R c d t (some (R' t)))(l:∀t,t<n→Zan (R' t) (x t))(h:EvC n c): d ∣ Zaf c x n:=by
 rcases h with h | ⟨i,h,q⟩
 ·rw[Zn9 ok h]at h0
  have:=(ZcQ (by omega) _).mp h0
  rw[ZsL hd]at this
  rw[ZjB h n (Zz10 n)]
  have t:=(Int.dvd_neg).mpr this
  rwa [show -(0-(0,c 0).2)=c 0 by show -(0-c 0)=c 0;omega]at t
 ·obtain⟨t,rfl⟩:∃t,i=t+1:=⟨i-1,by have:=h.1;omega⟩
  have ht:t<n:=by have:=h.2.1;omega
  have b:=hb t ht
  unfold ZcJ at b
  rw[if_pos q]at b
  have hx:=((b.2 (x t)).mp (l t ht)).2
  unfold Zdr at hx
  rw[Zn9 ok (ZrR h)]at hx
  have hx:=(ZcQ (by omega) _).mp hx
  have e0:ZaL c (t+1) 0=c 0:=by show c 0-Z0 (t+1) 0*c (t+1)=c 0;rw[Zsp];omega
  rw[ZsL hd,e0]at hx
  rw[ZxX h]
  have hx:d ∣ x t - -(c (t+1))*c 0:=hx
  show d ∣ c 0+x t*c (t+1)
  rcases q with e | e <;> rw[e]at hx ⊢
  ·rwa [show x t - -1*c 0=c 0+x t*1 by omega]at hx
  ·have:=(Int.dvd_neg).mpr hx
   rwa [show -(x t - -(-1)*c 0)=c 0+x t * -1 by omega]at this
theorem ss_: PyData.strOk (Str.ofString "same")=true:=by decide +kernel
theorem Zsr: ¬(T.str (Str.ofString "same")=T.str (Str.ofString "under")):=by
 intro h
 have:=T.str.inj h
 revert this
 decide +kernel
noncomputable def smT(n:Nat)(c:Nat→Int): T:=.tup [.str (Str.ofString "same"),ZR n c]
theorem ZrS{b:Bool}(h:(if b then ZfD [ZH n G R,ZR n c]else Zft [ZH n G R,ZR n c])=some D): Zco [ZH n G R,smT n c,.bool b]=some D:=by
 apply Pk.eq
 unfold Zco Zgd
 have ht:ZH n G R=.tup [Zab (n+1) G,.lst (tab n fun i=>Z1 (R i))]:=rfl
 have hne:∀{Q:T→Prop},Q (.bool false)→Pk (qIs (ZH n G R) .none) Q:=fun h=>⟨_,by rw[ht];rfl,h⟩
 unfold smT
 walk_at "z"
 refine hne ?_
 walk_at "z"
 refine Zb8 (n:=1) (m:=1) (.str ss_) (.str su) ?_
 rw[ZaM Zsr]
 walk_at "z"
 refine Zb8 (n:=1) (m:=1) (.str ss_) (.str ss_) ?_
 rw[ZaH rfl]
 cases b with
 | true=>
  rw[if_pos rfl]at h
  walk_at "z"
  exact Zw h rfl
 | false=>
  rw[if_neg (by decide)]at h
  walk_at "z"
  exact Zw h rfl
theorem ZrT{c x:Nat→Int}{top:Int}: ∀j,Zaf (Zct c top) x j=Zaf c x j-top
 | 0=>rfl
 | j+1=>by
  show Zaf (Zct c top) x j+Zct c top (j+1)*x j=Zaf c x j+c (j+1)*x j-top
  rw[ZrT j,show Zct c top (j+1)=c (j+1)from rfl]
  omega
theorem Zy6(h:EvC n c): EvC n (Zct c top):=by
 have e:∀k,1≤k→Zct c top k=c k:=fun k hk=>by unfold Zct;rw[if_neg (by omega)]
 rcases h with h | ⟨i,⟨h1,h2,h3⟩,q⟩
 ·exact .inl fun k a b=>by rw[e k a];exact h k a b
 ·exact .inr ⟨i,⟨h1,h2,fun k a b r=>by rw[e k a];exact h3 k a b r⟩,by rw[e i h1];exact q⟩
theorem ZzF(hd:0<d): Zan (d,0) v↔d ∣ v:=by
 rw[Zbl (show(0:Int)≤(d,(0:Int)).1 from by show 0≤d;omega)]
 show d ∣ v-0↔d ∣ v
 rw[Int.sub_zero]
theorem ZsP(hd:0<d): RestOk (d,0):=.inr ⟨hd,Int.le_refl 0,hd⟩
def NeC(n:Nat)(c:Nat→Int)(d:Int): Prop:=Zgo n c∨d=1∨(d=2∧EvC n c)
theorem ZjC(hn:n≤20)(hk:k+2*n+4≤7000)(hM:0<M)(bM:Bd k M)(hd:∀i,i<n+1→G i i=some 0)(bG:GB k n G)(hR:∀t,t<n→RB M k (R t)): ∃D,ZaG [ZH n G R]=some D∧True∧Tm n (k+3*n+7) M (Zaq n G R) (fun G2 R2=>ZbH n G2 R2 G R) D:=by
 have bG2:BdG (n+1) k G:=fun a b c ha hb e=>bG a b ha hb c e
 obtain⟨D,et,hD⟩:=Zn6 (k:=k) (by omega) (by omega) hM bM hd bG2 hR
 refine⟨D,et,trivial,?_⟩
 rcases hD with⟨G2,R2,rfl,s⟩ | ⟨rfl,f⟩
 ·obtain⟨z1,z2⟩:=Zqh hM (bM.mono (by omega)) bG2 (by omega) s
  obtain⟨_,_,_,_,_,_,h6⟩:=s.go
  exact .inr ⟨G2,R2,rfl,(Zqg hd s).1,fun t ht=>(h6 t ht).1.mono (by omega),fun i j hi hj b e=>(z1 i j b hi hj e).mono (by omega),fun x li=>ZuS li s,Zt2 (fun t ht=>(hR t ht).1) s⟩
 ·exact .inl ⟨rfl,fun x li=>absurd f (Zun li)⟩
theorem ZrU{K:Nat}(hn:n≤20)(hk1:1≤k)(hk:k+k+n≤K)(hbk:b+m≤k)(hb1:1≤b)(hK:(b+m+m)*n+1≤K)(hK2:K+2*n+4≤7000)(hd0:∀i,i<n+1→G i i=some 0)(bG:GB K n G)(ok:∀t,t<n→RestOk (R t))(bm:∀t,t<n→Bd m (R t).1)(bR:∀t,t<n→RBd k (R t))(bc:∀j,j<n+1→Bd k (c j))(bo:∀t,t<n→∀j,j<n+1→Bd b (ZaL c (t+1) j))(bd:Bd (b+m) d): ∃D,Zdc [ZH n G R,ZR n c,.int d]=some D∧True∧Tf n (fun x=>Zaq n G R x∧d ∣ Zaf c x n) (fun G2 R2=>∃R',(∀t,t<n→RestOk (R' t))∧(∀t,t<n→ZcJ n R c d t (some (R' t)))∧ZbH n G2 R2 G R') D:=by
 have bo2:∀t,t<n→∀j,j<n+1→Bd k (ZaL c (t+1) j):=fun t ht j hj=>(bo t ht j hj).mono (by omega)
 obtain⟨o,ho,a1,a2⟩:=Zt4 (G:=G) (c:=c) (d:=d) (by omega) hk1 (by omega) ok bR bc bo2 (bd.mono (by omega))
 by_cases hc:∃t,t<n∧o t=none
 ·refine⟨.none,a1 hc,trivial,.inl ⟨rfl,fun x h=>?_⟩⟩
  obtain⟨t,h1,h2⟩:=hc
  obtain⟨r,e,_⟩:=Zq9 h1 ok h.1.2 h.2 (ho t h1)
  rw[h2]at e
  cases e
 ·have hs:∀t,t<n→o t=some ((o t).getD (1,0)):=fun t ht=>by
   cases e:o t with
   | none=>exact absurd ⟨t,ht,e⟩ hc
   | some q=>rfl
  generalize hR':(fun t=>(o t).getD (1,0))=R'
  have hs2:∀t,t<n→o t=some (R' t):=fun t ht=>by rw[←hR'];exact hs t ht
  have hB:∀t,t<n→ZcJ n R c d t (some (R' t)):=fun t ht=>by rw[←hs2 t ht];exact ho t ht
  have hr:=fun t (ht:t<n)=>ZxQ (k:=k) (by omega) ht ok bm bR (bo t ht) hbk bd (hB t ht)
  have bM:Bd K (ZcX R' n):=(Zhc (k:=b+m+m) (by omega) (fun t ht=>(hr t ht).2.1) n (Zz10 n)).mono (by omega)
  obtain⟨D,e1,e2,hD⟩:=ZjC (k:=K) (R:=R') hn hK2 (Zg1 (fun t ht=>(hr t ht).1) n (Zz10 n)) bM hd0 bG (fun t ht=>⟨(hr t ht).1,Zg2 n t ht,(hr t ht).2.2.mono (by omega)⟩)
  refine⟨D,a2 R' D hs2 e1,trivial,?_⟩
  have lies:∀x,Zaq n G R x∧d ∣ Zaf c x n→Zaq n G R' x:=fun x h=>⟨h.1.1,fun t ht=>by
   obtain⟨r,e,q⟩:=Zq9 ht ok h.1.2 h.2 (hB t ht)
   cases e
   exact q⟩
  rcases hD.tf with⟨rfl,no⟩ | ⟨G2,R2,rfl,h1,h2,h3,h4⟩
  ·exact .inl ⟨rfl,fun x h=>no x (lies x h)⟩
  ·exact .inr ⟨G2,R2,rfl,h1,h2,fun x h=>h3 x (lies x h),R',fun t ht=>(hr t ht).1,hB,h4⟩
theorem Zg4(hn:n≤20)(hb1:1≤b)(hb:b≤4000)(hB:b+b+n+6≤k)(hk:k+2*n+4≤7000)(hM:0<M)(bM:Bd k M)(hd:∀i,i<n+1→G i i=some 0)(bG:GB b n G)(hR:∀t,t<n→RB M k (R t))(bc:∀i,i<n+1→Bd b (c i))(bt:Bd b top): ∃D,Zcf [ZH n G R,ZR n c,.int top]=some D∧Tm n (k+3*n+7) M (fun x=>Zaq n G R x∧Zaf c x n≤top) (fun G2 R2=>ZbH n G2 R2 (amG n G c top) R∧∀y,grt n G (fun k=>-(c k))=some y→-y≤top) D:=by
 by_cases hc:∀y,grt n G (fun k=>-(c k))=some y→-y≤top
 ·obtain⟨D,e1,e2,hD⟩:=ZjC (k:=k) hn hk hM bM (ZzP (c:=c) (top:=top) hd) (ZzB hb1 bG bc bt hB) hR
  refine⟨D,Zus (by omega) hb hb1 bG bc hd hc e1,?_⟩
  rcases hD with⟨rfl,no⟩ | ⟨G2,R2,rfl,h1,h2,h3,h4,h5⟩
  ·exact .inl ⟨rfl,fun x h=>no x (ZrO h.1 h.2)⟩
  ·exact .inr ⟨G2,R2,rfl,h1,h2,h3,fun x h=>h4 x (ZrO h.1 h.2),h5,hc⟩
 ·have:∃y,grt n G (fun k=>-(c k))=some y∧top < -y:=by
   refine Classical.byContradiction fun q=>hc fun y e=>?_
   refine Classical.byContradiction fun z=>q ⟨y,e,by omega⟩
  obtain⟨y,e,hy⟩:=this
  obtain⟨a1,a2⟩:=Zt6 (R:=R) (b:=b) (by omega) hb hb1 bG bc e hy
  refine⟨.none,a1,.inl ⟨rfl,fun x h=>?_⟩⟩
  have:=ZjW h.1 e
  rw[ZdT]at this
  omega
theorem Zss(hn:n≤20)(hb1:1≤b)(hb:b≤4000)(hB:b+b+n+6≤k)(hk:k+2*n+4≤7000)(hM:0<M)(bM:Bd k M)(hd:∀i,i<n+1→G i i=some 0)(bG:GB b n G)(hR:∀t,t<n→RB M k (R t))(bc:∀i,i<n+1→Bd b (c i)): ∃D,Zdt [ZH n G R,ZR n c]=some D∧Tm n (k+3*n+7) M (fun x=>Zaq n G R x∧Zaf c x n≠0) (fun G2 R2=>ZbH n G2 R2 G R∧∀x,Zaq n G2 R2 x→(∃y,grt n G c=some y∧y≤0)→AM n c (-1) x) D:=by
 have ht:ZH n G R=.tup [Zab (n+1) G,.lst (tab n fun i=>Z1 (R i))]:=rfl
 have hne:∀{Q:T→Prop},Q (.bool true)→Pk (ZcB (ZH n G R) .none) Q:=fun h=>⟨_,by rw[ht];rfl,h⟩
 have hg:=Ziv (R:=R) (c:=c) (b:=b) (by omega) (by omega) hb1 bG bc
 have ok:∀t,t<n→RestOk (R t):=fun t ht=>(hR t ht).1
 by_cases h:∃y,grt n G c=some y∧y≤0
 ·obtain⟨D,e1,hD⟩:=Zg4 (top:=-1) hn hb1 hb hB hk hM bM hd bG hR bc ((show Bd 1 (-1)by unfold Bd;decide).mono hb1)
  refine⟨D,?_,?_⟩
  ·apply Pk.eq
   unfold Zdt ZgO
   walk_at "z"
   refine hne ?_
   walk_at "z"
   refine Zw hg ?_
   walk_at "z"
   refine Zw (ZlO (b:=some 0)) ?_
   rw[ZaH (leO_0.mpr h)]
   walk_at "z"
   exact Zw e1 rfl
  ·have lt:∀x,Zaq n G R x∧Zaf c x n≠0→Zaf c x n≤-1:=fun x q=>by
    obtain⟨y,h1,h2⟩:=h
    have:=ZjW q.1 h1
    omega
   rcases hD with⟨rfl,no⟩ | ⟨G2,R2,rfl,h1,h2,h3,h4,h5,hc⟩
   ·exact .inl ⟨rfl,fun x q=>no x ⟨q.1,lt x q⟩⟩
   ·exact .inr ⟨G2,R2,rfl,h1,h2,h3,fun x q=>h4 x ⟨q.1,lt x q⟩,Zg3 ok h5,fun x l _=>⟨G,R,hc,Zhr (fun t ht=>(h2 t ht).1) ok h5 l⟩⟩
 ·refine⟨_,?_,.inr ⟨G,R,rfl,hd,fun t ht=>(hR t ht).mono (by omega),fun i j hi hj y e=>(bG i j hi hj y e).mono (by omega),fun x q=>q.1,⟨fun i hi j hj=>Zcn,fun t ht=>Zn2⟩,fun x _ q=>absurd q h⟩⟩
  apply Pk.eq
  unfold Zdt ZgO
  walk_at "z"
  refine hne ?_
  walk_at "z"
  refine Zw hg ?_
  walk_at "z"
  refine Zw (ZlO (b:=some 0)) ?_
  rw[ZaM (fun q=>h (leO_0.mp q))]
  walk_at "z"
  rfl
theorem Zst(hn:n≤4)(hM:0<M)(bM:Bd 560 M)(hd:∀i,i<n+1→G i i=some 0)(hG:GB 580 n G)(hR:∀t,t<n→RB M 580 (R t))(bc:∀i,i<n+1→Bd 301 (c i))(hd0:0<d)(bd:Bd 140 d): ∃D,ZeP [ZH n G R,ZR n c,.int d]=some D∧Tf n (fun x=>Zaq n G R x∧d ∣ Zaf c x n) (fun G2 R2=>ZbH n G2 R2 G R∧∀x,Zaq n G2 R2 x→EvC n c→d ∣ Zaf c x n) D:=by
 have ok:∀t,t<n→RestOk (R t):=fun t ht=>(hR t ht).1
 have bR:∀t,t<n→RBd 900 (R t):=fun t ht=>((hR t ht).mono (show 580≤900 by decide)).bd2 hM bM (by decide)
 have bc5:∀i,i<n+1→Bd 900 (c i):=fun i hi=>(bc i hi).mono (by decide)
 have ht:ZH n G R=.tup [Zab (n+1) G,.lst (tab n fun i=>Z1 (R i))]:=rfl
 have hg:∀{Q:T→Prop},Q (.lst (tab n fun i=>Z1 (R i)))→Pk (Zt (ZH n G R) (.int 1)) Q:=fun h=>⟨_,by rw[ht];rfl,h⟩
 have bp:=ZoA (m:=900) ok (fun t ht=>(bR t ht).1) bR bc5
 have hs:=ZgA (i:=900) (R:=R) (by omega) (by decide) (by decide) bc5 bR ok
 have hl:=Zpl (p:=Za5 c R n) (d:=d) (k:=2000) (by decide) (bp.1.mono (by omega)) (bd.mono (by decide))
 by_cases hr:Zan (Zeb (Za5 c R n) d) 0
 ·obtain⟨D,a,_,t⟩:=ZrU (k:=900) (b:=302) (m:=560) (K:=5700) (G:=G) (R:=R) (c:=c) (d:=d) (by omega) (by decide) (by omega) (by decide) (by decide) (by omega) (by omega) hd (fun i j hi hj y e=>(hG i j hi hj y e).mono (by decide)) ok (fun t ht=>ZjX hM bM (hR t ht)) bR bc5 (ZrQ bc) (bd.mono (by decide))
  refine⟨D,?_,?_⟩
  ·apply Pk.eq
   unfold ZeP Zir
   clear t ht
   generalize ZH n G R=T0 at *
   walk_at "z"
   refine hg ?_
   walk_at "z"
   refine Zw hs ?_
   walk_at "z"
   refine Zw hl ?_
   walk_at "z"
   refine Zw (ZfE Zsq) ?_
   rw[ZaH hr]
   walk_at "z"
   exact Zw a rfl
  ·rcases t with h | ⟨G2,R2,rfl,h1,h2,h3,R',ok',bes,ins⟩
   ·exact .inl h
   ·refine .inr ⟨G2,R2,rfl,h1,h2,h3,ZgB h2 ok' ok ins ⟨fun i hi j hj=>Zcn,fun t ht=>?_⟩,fun x l e=>ZuZ hd0 ok hr bes (Zhr h2 ok' ins l).2 e⟩
    refine ZhD (ok' t ht) (ok t ht) fun x hx=>?_
    have b:=bes t ht
    unfold ZcJ at b
    split at b
    ·exact((b.2 x).mp hx).1
    ·rw[Option.some.inj b]at hx;exact hx
 ·refine⟨.none,?_,.inl ⟨rfl,fun x h=>hr (ZxY (ZoB ok) (Zn8 ok h.1.2) h.2)⟩⟩
  apply Pk.eq
  unfold ZeP Zir
  walk_at "z"
  refine hg ?_
  walk_at "z"
  refine Zw hs ?_
  walk_at "z"
  refine Zw hl ?_
  walk_at "z"
  refine Zw (ZfE Zsq) ?_
  rw[ZaM hr]
  walk_at "z"
  rfl
theorem Zu0(hn:n≤4)(hM:0<M)(bM:Bd 560 M)(hd:∀i,i<n+1→G i i=some 0)(hG:GB 580 n G)(hR:∀t,t<n→RB M 580 (R t))(bc:∀i,i<n+1→Bd 300 (c i))(hd0:0<d)(bd:Bd 140 d): ∃D,ZeH [ZH n G R,ZR n c,.int d]=some D∧Tf n (fun x=>Zaq n G R x∧¬d ∣ Zaf c x n) (fun G2 R2=>ZbH n G2 R2 G R∧∀x,Zaq n G2 R2 x→NeC n c d→¬d ∣ Zaf c x n) D:=by
 have ok:∀t,t<n→RestOk (R t):=fun t ht=>(hR t ht).1
 have bR:∀t,t<n→RBd 900 (R t):=fun t ht=>((hR t ht).mono (show 580≤900 by decide)).bd2 hM bM (by decide)
 have bc5:∀i,i<n+1→Bd 900 (c i):=fun i hi=>(bc i hi).mono (by decide)
 have ht:ZH n G R=.tup [Zab (n+1) G,.lst (tab n fun i=>Z1 (R i))]:=rfl
 have hg:∀{Q:T→Prop},Q (.lst (tab n fun i=>Z1 (R i)))→Pk (Zt (ZH n G R) (.int 1)) Q:=fun h=>⟨_,by rw[ht];rfl,h⟩
 have hs:=ZgA (i:=900) (R:=R) (by omega) (by decide) (by decide) bc5 bR ok
 have hri:=Ztk (p:=Za5 c R n) (ZsP hd0)
 have ed:Z1 (d,(0:Int))=.tup [.int d,.int 0]:=rfl
 rw[ed]at hri
 have hq0:∀{Q:T→Prop},Q (.int (c 0))→Pk (Zt (ZR n c) (.int 0)) Q:=fun h=>by
  unfold ZR
  walk_at "z"
  exact h
 by_cases hr:RIn (Za5 c R n) (d,0)
 ·refine⟨.none,?_,.inl ⟨rfl,fun x h=>h.2 ((ZzF hd0).mp (ZjA (ZoB ok) (ZsP hd0) hr (Zn8 ok h.1.2)))⟩⟩
  apply Pk.eq
  unfold ZeH Zgq
  walk_at "z"
  refine hg ?_
  walk_at "z"
  refine Zw hs ?_
  walk_at "z"
  refine Zw hri ?_
  rw[ZaH hr]
  walk_at "z"
  rfl
 ·have con:Zgo n c→∀x,¬d ∣ Zaf c x n:=fun h x q=>hr (by
   rw[ZjB h n (Zz10 n)]at q
   rw[Zn9 ok h]
   unfold RIn
   rw[if_neg (by show ¬d=0;omega)]
   exact⟨Int.zero_emod d,by show(c 0-0) % d=0;rw[Int.sub_zero];exact Int.emod_eq_zero_of_dvd q⟩)
  have one:d≠1:=fun e=>hr (by
   subst e
   unfold RIn
   rw[if_neg (by decide)]
   exact⟨Int.emod_one _,Int.emod_one _⟩)
  by_cases h2:d=2
  ·subst h2
   obtain⟨D,a,t⟩:=Zst (c:=Zct c (-1)) hn hM bM hd hG hR (ZyY bc ((show Bd 1 (-1)by unfold Bd;decide).mono (by decide))) (by decide) bd
   refine⟨D,?_,?_⟩
   ·apply Pk.eq
    unfold ZeH Zgq
    clear t ht
    generalize ZH n G R=T0 at *
    walk_at "z"
    refine hg ?_
    walk_at "z"
    refine Zw hs ?_
    walk_at "z"
    refine Zw hri ?_
    rw[ZaM hr]
    walk_at "z"
    refine hq0 ?_
    walk_at "z"
    refine Zi1 ?_
    walk_at "z"
    refine⟨_,rfl,?_⟩
    refine Zf5 (by simp[tab];omega) ?_
    rw[show c 0+1=c 0 - -1 by omega,ZxW,show T.lst (tab (n+1) fun i=>T.int (Zct c (-1) i))=ZR n (Zct c (-1))from rfl]
    walk_at "z"
    exact Zw a rfl
   ·have vl:∀x,Zaf (Zct c (-1)) x n=Zaf c x n+1:=fun x=>by rw[ZrT];omega
    rcases t with⟨rfl,no⟩ | ⟨G2,R2,rfl,h1,h2,h3,h4,h5⟩
    ·exact .inl ⟨rfl,fun x h=>no x ⟨h.1,by rw[vl];omega⟩⟩
    ·refine .inr ⟨G2,R2,rfl,h1,h2,fun x h=>h3 x ⟨h.1,by rw[vl];omega⟩,h4,fun x l p=>?_⟩
     rcases p with p | p | ⟨_,p⟩
     ·exact con p x
     ·exact absurd p one
     ·have:=h5 x l (Zy6 p)
      rw[vl]at this
      omega
  ·refine⟨ZH n G R,?_,.inr ⟨G,R,rfl,hd,ok,fun x h=>h.1,⟨fun i hi j hj=>Zcn,fun t ht=>Zn2⟩,fun x l p=>?_⟩⟩
   ·have hf:Zen [ZH n G R]=some (ZH n G R):=Zhd ((ZrG (by omega)).mono (by decide))
    apply Pk.eq
    unfold ZeH Zgq
    clear ht
    generalize ZH n G R=T0 at *
    walk_at "z"
    refine hg ?_
    walk_at "z"
    refine Zw hs ?_
    walk_at "z"
    refine Zw hri ?_
    rw[ZaM hr]
    walk_at "z"
    exact Zw hf rfl
   ·rcases p with p | p | ⟨p,_⟩
    ·exact con p x
    ·exact absurd p one
    ·exact absurd p h2
theorem Zje{D1 D2:T}(hn:n≤20)(ok:∀t,t<n→RestOk (R t))(bR:∀t,t<n→RBd 900 (R t))(bc:∀i,i<n+1→Bd 300 (c i))(h:(Zan (Za5 c R n) 0∧Zcf [ZH n G R,ZR n c,.int 0]=some D1∧Zcf [D1,ZR n fun k=>-(c k),.int 0]=some D2∧Zdc [D2,ZR n c,.int 0]=some D)∨(¬Zan (Za5 c R n) 0∧D=.none)): ZfD [ZH n G R,ZR n c]=some D:=by
 have ht:ZH n G R=.tup [Zab (n+1) G,.lst (tab n fun i=>Z1 (R i))]:=rfl
 have hg:∀{Q:T→Prop},Q (.lst (tab n fun i=>Z1 (R i)))→Pk (Zt (ZH n G R) (.int 1)) Q:=fun h=>⟨_,by rw[ht];rfl,h⟩
 have bn:Bd 300 (-1):=(show Bd 1 (-1)by unfold Bd;decide).mono (by decide)
 have hs:=ZgA (i:=900) (by omega) (by decide) (by decide) (fun i hi=>(bc i hi).mono (by decide)) bR ok
 have hh:=ZfE (q:=Za5 c R n) (x:=0) (ZoB ok)
 apply Pk.eq
 unfold ZfD Zmk
 rcases h with⟨hr,h1,h2,h3⟩ | ⟨hr,rfl⟩
 ·walk_at "z"
  refine hg ?_
  walk_at "z"
  refine Zw hs ?_
  walk_at "z"
  refine Zw hh ?_
  rw[ZaH hr]
  walk_at "z"
  refine Zw h1 ?_
  walk_at "z"
  refine Zw (ZeM (b:=300) (by omega) (by decide) bc bn) ?_
  rw[ZnI]
  walk_at "z"
  refine Zw h2 ?_
  walk_at "z"
  exact Zw h3 rfl
 ·walk_at "z"
  refine hg ?_
  walk_at "z"
  refine Zw hs ?_
  walk_at "z"
  refine Zw hh ?_
  rw[ZaM hr]
  walk_at "z"
  rfl
theorem ZwC(hn:n≤3)(hd:∀i,i<n+1→G i i=some 0)(ok:∀t,t<n→RestOk (R t))(sG:SmG 137 n G)(sR:SmR 137 n R): ∃D,ZaG [ZH n G R]=some D∧∃M,0<M∧Bd 420 M∧Tm n 440 M (Zaq n G R) (fun G2 R2=>ZbH n G2 R2 G R) D:=by
 have hp:=Zg1 ok n (Zz10 n)
 have hb:Bd 420 (ZcX R n):=(Zhc (k:=137) (by decide) (fun t ht=>(sR t ht).1) n (Zz10 n)).mono (by omega)
 obtain⟨D,e1,e2,h⟩:=ZjC (k:=420) (by omega) (by omega) hp hb hd (fun i j hi hj y e=>(show Bd 137 y from sG i j hi hj y e).mono (by decide)) (fun t ht=>⟨ok t ht,Zg2 n t ht,(show Bd 137 _ from(sR t ht).2).mono (by decide)⟩)
 exact⟨D,e1,_,hp,hb,h.sub (by omega) (fun _ p=>p) (fun _ _ _ i=>i)⟩
theorem se_: PyData.strOk (Str.ofString "even")=true:=by decide +kernel
theorem ZoY{a b:Str}(h:a≠b): ¬(T.str a=T.str b):=fun q=>h (T.str.inj q)
noncomputable def evT(n:Nat)(c:Nat→Int)(d:Int): T:=.tup [.str (Str.ofString "even"),ZR n c,.int d]
theorem Zsu: ¬(T.str (Str.ofString "even")=T.str (Str.ofString "under")):=ZoY (by decide +kernel)
theorem Zsv: ¬(T.str (Str.ofString "even")=T.str (Str.ofString "same")):=ZoY (by decide +kernel)
theorem ZwD(h:Zdb [ZR n c,Zcb n x]=some (.int v)): ZeQ [unT n c,Zcb n x]=some (.bool (decide (v<0))):=by
 apply Pk.eq
 unfold ZeQ Zis unT
 walk_at "z"
 refine Zw h ?_
 walk_at "z"
 refine Zb8 (n:=1) (m:=1) (.str su) (.str su) ?_
 rw[ZaH rfl]
 walk_at "z"
 rfl
theorem ZwE(h:Zdb [ZR n c,Zcb n x]=some (.int v)): ZeQ [smT n c,Zcb n x]=some (.bool (decide (v=0))):=by
 apply Pk.eq
 unfold ZeQ Zis smT
 walk_at "z"
 refine Zw h ?_
 walk_at "z"
 refine Zb8 (n:=1) (m:=1) (.str ss_) (.str su) ?_
 rw[ZaM Zsr]
 walk_at "z"
 refine Zb8 (n:=1) (m:=1) (.str ss_) (.str ss_) ?_
 rw[ZaH rfl]
 walk_at "z"
 rfl
theorem ZwF(hd:0<d)(h:Zdb [ZR n c,Zcb n x]=some (.int v)): ZeQ [evT n c d,Zcb n x]=some (.bool (decide (v.fmod d=0))):=by
 apply Pk.eq
 unfold ZeQ Zis evT
 walk_at "z"
 refine Zw h ?_
 walk_at "z"
 refine Zb8 (n:=1) (m:=1) (.str se_) (.str su) ?_
 rw[ZaM Zsu]
 walk_at "z"
 refine Zb8 (n:=1) (m:=1) (.str se_) (.str ss_) ?_
 rw[ZaM Zsv]
 walk_at "z"
 rfl
theorem ZrV{b:Bool}(h:(if b then ZeP [ZH n G R,ZR n c,.int d]else ZeH [ZH n G R,ZR n c,.int d])=some D): Zco [ZH n G R,evT n c d,.bool b]=some D:=by
 apply Pk.eq
 unfold Zco Zgd
 have ht:ZH n G R=.tup [Zab (n+1) G,.lst (tab n fun i=>Z1 (R i))]:=rfl
 have hne:∀{Q:T→Prop},Q (.bool false)→Pk (qIs (ZH n G R) .none) Q:=fun h=>⟨_,by rw[ht];rfl,h⟩
 unfold evT
 walk_at "z"
 refine hne ?_
 walk_at "z"
 refine Zb8 (n:=1) (m:=1) (.str se_) (.str su) ?_
 rw[ZaM Zsu]
 walk_at "z"
 refine Zb8 (n:=1) (m:=1) (.str se_) (.str ss_) ?_
 rw[ZaM Zsv]
 cases b with
 | true=>
  rw[if_pos rfl]at h
  walk_at "z"
  exact Zw h rfl
 | false=>
  rw[if_neg (by decide)]at h
  walk_at "z"
  exact Zw h rfl
section
variable {n:Nat} {G:Nat→Nat→Option Int} {R:Nat→Int×Int} {c:Nat→Int} (hn:n≤4) (hd:∀i,i<n+1→G i i=some 0) (ok:∀t,t<n→RestOk (R t)) (sG:SmG 137 n G) (sR:SmR 137 n R) (bc:∀i,i<n+1→Bd 300 (c i))
include hn hd ok sG sR bc
end
def ClT(n:Nat)(c:Nat→Int)(t:T): Prop:=t=unT n c∨t=smT n c∨∃d,0<d∧Bd 140 d∧t=evT n c d
theorem Zy7(hn:n≤4)(hM:0<M)(bM:Bd 560 M)(hd:∀i,i<n+1→G i i=some 0)(hG:GB 580 n G)(hR:∀t,t<n→RB M 580 (R t))(bc:∀i,i<n+1→Bd 300 (c i)): ∃D,ZfD [ZH n G R,ZR n c]=some D∧Tf n (fun x=>Zaq n G R x∧Zaf c x n=0) (fun G2 R2=>ZbH n G2 R2 G R∧∀x,Zaq n G2 R2 x→AM n c 0 x∧AM n (fun k=>-(c k)) 0 x) D:=by
 have ok:∀t,t<n→RestOk (R t):=fun t ht=>(hR t ht).1
 have bR:∀t,t<n→RBd 900 (R t):=fun t ht=>((hR t ht).mono (show 580≤900 by decide)).bd2 hM bM (by decide)
 by_cases hr:Zan (Za5 c R n) 0
 ·obtain⟨D1,a1,t1⟩:=Zg4 (b:=580) (k:=1180) (c:=c) (top:=0) (by omega) (by decide) (by decide) (by omega) (by omega) hM (bM.mono (by decide)) hd hG (fun t ht=>(hR t ht).mono (by decide)) (fun i hi=>(bc i hi).mono (by decide)) Zcd
  rcases t1 with⟨rfl,no⟩ | ⟨G1,R1,rfl,hd1,hR1,bG1,li1,in1,hc1⟩
  ·have e1:=Zje (D:=.none) (by omega) ok bR bc (.inl ⟨hr,a1,Zt3,Zpt⟩)
   exact⟨.none,e1,.inl ⟨rfl,fun x h=>no x ⟨h.1,by omega⟩⟩⟩
  ·obtain⟨D2,a2,t2⟩:=Zg4 (b:=1200) (k:=2420) (c:=fun k=>-(c k)) (top:=0) (by omega) (by decide) (by decide) (by omega) (by omega) hM (bM.mono (by decide)) hd1 (fun i j hi hj y e=>(bG1 i j hi hj y e).mono (by omega)) (fun t ht=>(hR1 t ht).mono (by omega)) (fun i hi=>(Zjx bc i hi).mono (by decide)) Zcd
   rcases t2 with⟨rfl,no⟩ | ⟨G2,R2,rfl,hd2,hR2,bG2,li2,in2,hc2⟩
   ·have e1:=Zje (D:=.none) (by omega) ok bR bc (.inl ⟨hr,a1,a2,Zpt⟩)
    exact⟨.none,e1,.inl ⟨rfl,fun x h=>no x ⟨li1 x ⟨h.1,by omega⟩,by rw[ZdT];omega⟩⟩⟩
   ·obtain⟨D,a3,b3,t3⟩:=ZrU (k:=2440) (b:=301) (m:=560) (K:=5700) (G:=G2) (R:=R2) (c:=c) (d:=0) (by omega) (by decide) (by omega) (by decide) (by decide) (by omega) (by omega) hd2 (fun i j hi hj y e=>(bG2 i j hi hj y e).mono (by omega)) (fun t ht=>(hR2 t ht).1) (fun t ht=>ZjX hM bM (hR2 t ht)) (fun t ht=>((hR2 t ht).mono (show 2420+3*n+7≤2440 by omega)).bd hM (bM.mono (by decide))) (fun i hi=>(bc i hi).mono (by decide)) (ZrQ bc) Zcd
    have e1:=Zje (by omega) ok bR bc (.inl ⟨hr,a1,a2,a3⟩)
    refine⟨D,e1,?_⟩
    rcases t3 with⟨rfl,no⟩ | ⟨G3,R3,rfl,hd3,ok3,li3,R',ok',bes,in3⟩
    ·exact .inl ⟨rfl,fun x h=>no x ⟨li2 x ⟨li1 x ⟨h.1,by omega⟩,by rw[ZdT];omega⟩,by rw[h.2];exact Int.dvd_zero _⟩⟩
    ·have ok1:∀t,t<n→RestOk (R1 t):=fun t ht=>(hR1 t ht).1
     have ok2:∀t,t<n→RestOk (R2 t):=fun t ht=>(hR2 t ht).1
     have i32:ZbH n G3 R3 G2 R2:=ZgB ok3 ok' ok2 in3 ⟨fun i hi j hj=>Zcn,fun t ht=>by
      refine ZhD (ok' t ht) (ok2 t ht) fun x hx=>?_
      have b:=bes t ht
      unfold ZcJ at b
      split at b
      ·exact((b.2 x).mp hx).1
      ·rw[Option.some.inj b]at hx;exact hx⟩
     have i31:ZbH n G3 R3 (amG n G1 (fun k=>-(c k)) 0) R1:=ZgB ok3 ok2 ok1 i32 in2
     have i30:ZbH n G3 R3 (amG n G c 0) R:=ZgB ok3 ok1 ok (Zg3 ok1 i31) in1
     refine .inr ⟨G3,R3,rfl,hd3,ok3,fun x h=>li3 x ⟨li2 x ⟨li1 x ⟨h.1,by omega⟩,by rw[ZdT];omega⟩,by rw[h.2];exact Int.dvd_zero _⟩,Zg3 ok i30,fun x l=>⟨⟨G,R,hc1,Zhr ok3 ok i30 l⟩,⟨G1,R1,hc2,Zhr ok3 ok1 i31 l⟩⟩⟩
 ·have e1:=Zje (G:=G) (D1:=.none) (D2:=.none) (D:=.none) (by omega) ok bR bc (.inr ⟨hr,rfl⟩)
  exact⟨.none,e1,.inl ⟨rfl,fun x h=>hr (by rw[←h.2];exact Zn8 ok h.1.2)⟩⟩
theorem ZwG(hn:n≤4)(hM:0<M)(bM:Bd 560 M)(hd:∀i,i<n+1→G i i=some 0)(hG:GB 580 n G)(hR:∀t,t<n→RB M 580 (R t))(bc:∀i,i<n+1→Bd 300 (c i)): ∃D,Zft [ZH n G R,ZR n c]=some D∧Tf n (fun x=>Zaq n G R x∧Zaf c x n≠0) (fun G2 R2=>ZbH n G2 R2 G R∧∀x,Zaq n G2 R2 x→(∃y,grt n G c=some y∧y≤0)→AM n c (-1) x) D:=by
 have ok:∀t,t<n→RestOk (R t):=fun t ht=>(hR t ht).1
 obtain⟨D1,a1,t1⟩:=Zss (b:=580) (k:=1180) (c:=c) (by omega) (by decide) (by decide) (by omega) (by omega) hM (bM.mono (by decide)) hd hG (fun t ht=>(hR t ht).mono (by decide)) (fun i hi=>(bc i hi).mono (by decide))
 rcases t1 with⟨rfl,no⟩ | ⟨G1,R1,rfl,hd1,hR1,bG1,li1,in1,am1⟩
 ·exact⟨.none,Zpm (by omega) bc a1 ZtK (.inl rfl),.inl ⟨rfl,no⟩⟩
 ·obtain⟨D2,a2,t2⟩:=Zss (b:=1200) (k:=2420) (c:=fun k=>-(c k)) (by omega) (by decide) (by decide) (by omega) (by omega) hM (bM.mono (by decide)) hd1 (fun i j hi hj y e=>(bG1 i j hi hj y e).mono (by omega)) (fun t ht=>(hR1 t ht).mono (by omega)) (fun i hi=>(Zjx bc i hi).mono (by decide))
  have t3:=t2.tf
  refine⟨D2,Zpm (by omega) bc a1 a2 t3.due,?_⟩
  rcases t3 with⟨rfl,no⟩ | ⟨G2,R2,rfl,hd2,ok2,li2,in2,am2⟩
  ·exact .inl ⟨rfl,fun x h=>no x ⟨li1 x h,by rw[ZdT];omega⟩⟩
  ·exact .inr ⟨G2,R2,rfl,hd2,ok2,fun x h=>li2 x ⟨li1 x h,by rw[ZdT];omega⟩,ZgB ok2 (fun t ht=>(hR1 t ht).1) ok in2 in1,fun x l=>am1 x (Zhr ok2 (fun t ht=>(hR1 t ht).1) in2 l)⟩
section
variable {n:Nat} {G:Nat→Nat→Option Int} {R:Nat→Int×Int} {c:Nat→Int} {M:Int} {Cl:T}
theorem ZxZ(hn:n≤4)(hM:0<M)(bM:Bd 560 M)(hd:∀i,i<n+1→G i i=some 0)(hG:GB 580 n G)(hR:∀t,t<n→RB M 580 (R t))(bc:∀i,i<n+1→Bd 300 (c i))(b:Bool): ∃D,Zco [ZH n G R,unT n c,.bool b]=some D∧Tf n (fun x=>Zaq n G R x∧decide (Zaf c x n<0)=b) (fun G2 R2=>ZbH n G2 R2 G R) D:=by
 have ok:∀t,t<n→RestOk (R t):=fun t ht=>(hR t ht).1
 cases b with
 | true=>
  obtain⟨D,e,h⟩:=Zg4 (b:=580) (k:=1180) (c:=c) (top:=-1) (by omega) (by decide) (by decide) (by omega) (by omega) hM (bM.mono (by decide)) hd hG (fun t ht=>(hR t ht).mono (by decide)) (fun i hi=>(bc i hi).mono (by decide)) ((show Bd 1 (-1)by unfold Bd;decide).mono (by decide))
  refine⟨D,ZrP (.inr ⟨G,R,rfl⟩) (fun h=>by cases h) (Ztp e),?_⟩
  rcases h.tf with⟨rfl,no⟩ | ⟨G2,R2,rfl,h1,h2,h3,h4,_⟩
  ·exact .inl ⟨rfl,fun x q=>no x ⟨q.1,by have:=of_decide_eq_true q.2;omega⟩⟩
  ·exact .inr ⟨G2,R2,rfl,h1,h2,fun x q=>h3 x ⟨q.1,by have:=of_decide_eq_true q.2;omega⟩,Zg3 ok h4⟩
 | false=>
  obtain⟨D,e,h⟩:=Zg4 (b:=580) (k:=1180) (c:=fun k=>-(c k)) (top:=0) (by omega) (by decide) (by decide) (by omega) (by omega) hM (bM.mono (by decide)) hd hG (fun t ht=>(hR t ht).mono (by decide)) (fun i hi=>(Zjx bc i hi).mono (by decide)) Zcd
  refine⟨D,ZrP (.inr ⟨G,R,rfl⟩) (fun h=>by cases h) (ZtJ (b:=300) (by omega) (by decide) (by decide) bc e),?_⟩
  rcases h.tf with⟨rfl,no⟩ | ⟨G2,R2,rfl,h1,h2,h3,h4,_⟩
  ·exact .inl ⟨rfl,fun x q=>no x ⟨q.1,by have:=of_decide_eq_false q.2;rw[ZdT];omega⟩⟩
  ·exact .inr ⟨G2,R2,rfl,h1,h2,fun x q=>h3 x ⟨q.1,by have:=of_decide_eq_false q.2;rw[ZdT];omega⟩,Zg3 ok h4⟩
theorem Tf.imp{P':(Nat→Int)→Prop}{I':(Nat→Nat→Option Int)→(Nat→Int×Int)→Prop}(h:Tf n P I D)(hP:∀x,P' x→P x)(hI:∀G R,I G R→I' G R): Tf n P' I' D:=by
 rcases h with⟨rfl,no⟩ | ⟨G,R,rfl,h1,h2,h3,h4⟩
 ·exact .inl ⟨rfl,fun x p=>no x (hP x p)⟩
 ·exact .inr ⟨G,R,rfl,h1,h2,fun x p=>h3 x (hP x p),hI G R h4⟩
theorem Zy8(hn:n≤4)(hM:0<M)(bM:Bd 560 M)(hd:∀i,i<n+1→G i i=some 0)(hG:GB 580 n G)(hR:∀t,t<n→RB M 580 (R t))(bc:∀i,i<n+1→Bd 300 (c i))(hC:ClT n c Cl): ∃hb:Int→Bool,(∀x v,Zdb [ZR n c,Zcb n x]=some (.int v)→ZeQ [Cl,Zcb n x]=some (.bool (hb v)))∧∀b:Bool,∃D,Zco [ZH n G R,Cl,.bool b]=some D∧Tf n (fun x=>Zaq n G R x∧hb (Zaf c x n)=b) (fun G2 R2=>ZbH n G2 R2 G R) D:=by
 rcases hC with rfl | rfl | ⟨d,hd0,bd,rfl⟩
 ·exact⟨fun v=>decide (v<0),fun x v h=>ZwD h,fun b=>ZxZ hn hM bM hd hG hR bc b⟩
 ·refine⟨fun v=>decide (v=0),fun x v h=>ZwE h,fun b=>?_⟩
  cases b with
  | true=>
   obtain⟨D,e,h⟩:=Zy7 hn hM bM hd hG hR bc
   exact⟨D,ZrS e,h.imp (fun x q=>⟨q.1,of_decide_eq_true q.2⟩) (fun _ _ q=>q.1)⟩
  | false=>
   obtain⟨D,e,h⟩:=ZwG hn hM bM hd hG hR bc
   exact⟨D,ZrS e,h.imp (fun x q=>⟨q.1,of_decide_eq_false q.2⟩) (fun _ _ q=>q.1)⟩
 ·have hz:∀v:Int,v.fmod d=0↔d ∣ v:=fun v=>by
   rw[Int.fmod_eq_emod_of_nonneg _ (by omega)]
   exact⟨Int.dvd_of_emod_eq_zero,Int.emod_eq_zero_of_dvd⟩
  refine⟨fun v=>decide (v.fmod d=0),fun x v h=>ZwF hd0 h,fun b=>?_⟩
  cases b with
  | true=>
   obtain⟨D,e,h⟩:=Zst hn hM bM hd hG hR (fun i hi=>(bc i hi).mono (by decide)) hd0 bd
   exact⟨D,ZrV e,h.imp (fun x q=>⟨q.1,(hz _).mp (of_decide_eq_true q.2)⟩) (fun _ _ q=>q.1)⟩
  | false=>
   obtain⟨D,e,h⟩:=Zu0 hn hM bM hd hG hR bc hd0 bd
   exact⟨D,ZrV e,h.imp (fun x q=>⟨q.1,fun h=>(of_decide_eq_false q.2) ((hz _).mpr h)⟩) (fun _ _ q=>q.1)⟩
end
theorem ZqE{k x:Int}(hx:Bd 290 x): Bd 290 (Zdo ns k x).1∧Bd 290 (Zdo ns k x).2:=by
 have h:=Zn0 ns k
 have h2:Bd 290 (Zcc ns k):=Zbs (Zhp ns k) (by decide)
 have e:(20:Nat)<2 ^ 290:=by decide
 unfold Bd at *
 unfold Zdo
 split
 ·exact⟨by show(1:Nat)<_;omega,by show(0:Nat)<_;omega⟩
 ·split
  ·exact⟨by show(0:Nat)<_;omega,hx⟩
  ·split
   ·exact ZfA (by omega) (by omega) hx
   ·exact ZfA (ZdS _) (by rw[Zi9];exact h2) hx
theorem ZvI{k:Int}(hx:∀i,i<n→Bd 290 (x i)): SmR 300 n (ZeB ns k n x):=fun t ht=>⟨Zbs (ZqE (hx t ht)).1 (by decide),Zbs (ZqE (hx t ht)).2 (by decide)⟩
theorem ZvJ{k:Int}(hx:∀i,i<n→Bd 290 (x i)): SmG 300 n (Zb1 ns k n x):=by
 intro i j hi hj b h
 have h40:=Zhs
 have h1:Bd 290 (Zar x i):=ZiM (k:=290) hx i hi
 have h2:Bd 290 (Zar x j):=ZiM (k:=290) hx j hj
 unfold Zb1 at h
 split at h
 ·cases h;exact Nat.two_pow_pos _
 ·obtain⟨c,h3,h4⟩:=Zz1.mp h
  have:=ZqV ns _ h3
  subst h4
  have e:(2:Nat) ^ 140=1393796574908163946345982392040522594123776:=by decide
  have hc0:Bd 140 c:=by unfold Bd;omega
  have hc:Bd 291 c:=hc0.mono (by decide)
  exact((h1.sub h2).add hc).mono (by decide)
section
variable {Q:T→Prop}
theorem ZsM{a:Str}(ha:PyData.strOk a=true)(h:Q (.bool true)): Pk (qEq (.str a) (.str a)) Q:=Zb8 (n:=1) (m:=1) (.str ha) (.str ha) (by rw[ZaH rfl];exact h)
theorem ZzG{a b:Str}(hab:(PyData.strOk a && PyData.strOk b && decide (a≠b))=true)(h:Q (.bool false)): Pk (qEq (.str a) (.str b)) Q:=by
 simp only[Bool.and_eq_true,decide_eq_true_eq]at hab
 exact Zb8 (n:=1) (m:=1) (.str hab.1.1) (.str hab.1.2) (by rw[ZaM (ZoY hab.2)];exact h)
end
section
variable {n X:Nat} {G:Nat→Nat→Option Int} {R:Nat→Int×Int} {c:Nat→Int} {M d:Int}
end
section
variable {n X:Nat} {G:Nat→Nat→Option Int} {R:Nat→Int×Int} {c:Nat→Int} {d:Int} {s:Sp} {T1 D:T}
end
section
variable {n X:Nat} {G:Nat→Nat→Option Int} {R:Nat→Int×Int} {c:Nat→Int} {d:Int} {D:T}
end
theorem Zx0{a:T}(ha:Pln n a)(hb:Pln m (.tup ts))(hn:n≤8:=by decide)(hm:m≤8:=by decide): Zfs a (.tup ts)=some (dec (a∈ts)):=by
 have ha:=ha.mono hn
 have hb:=hb.mono hm
 obtain⟨a1,a2,a3⟩:=ha.dat
 obtain⟨b1,b2,b3⟩:=hb.dat
 unfold Zfs ZbK
 rw[a1,b1]
 simp only[Option.bind_some,dd,inD]
 simp only[dd,PyData.canLay0]at b2
 rw[if_pos ⟨b2,a2,by omega⟩,ZoM]
 intro t m
 cases hb with
 | tup hs=>exact(hs t m).eqv ha
section
variable {n X:Nat} {c x:Nat→Int} {d p v:Int} {s:Sp} {A:T}
end
theorem Zsw{a b c:Str}(hok:(PyData.strOk a && PyData.strOk b && PyData.strOk c)=true){r:Bool}(hr:decide (a=b∨a=c)=r)(h:Q (.bool r)): Pk (qIn (.str a) (.tup [.str b,.str c])) Q:=by
 simp only[Bool.and_eq_true]at hok
 obtain⟨⟨ha,hb⟩,hc⟩:=hok
 refine⟨.bool r,?_,h⟩
 have hp:Pln 1 (.tup [.str b,.str c]):=.tup fun t m=>by
  simp at m
  rcases m with rfl | rfl
  ·exact .str hb
  ·exact .str hc
 simp only[qIn,Zx0 (.str ha:Pln 1 (.str a)) hp,Option.map_some]
 congr 2
 rw[←hr]
 exact ZjI (by rw[decide_eq_true_eq];simp)
section
variable {n X:Nat} {G:Nat→Nat→Option Int} {R:Nat→Int×Int} {c:Nat→Int} {d:Int} {s:Sp} {T0 D A S0:T}
theorem ZpG(h:ZaG [T0]=some .none): ZcK [T0,A,S0]=some .none:=by
 apply Pk.eq
 unfold ZcK ZgY
 walk_at "z"
 refine Zw h ?_
 walk_at "z"
 rfl
end
theorem Zx1(hL:Lay ns)(hn:n≤4)(bx:∀i,i<n→Bd 140 (x i)): Pk (ZhX [scr ns,Zcb n x]) fun t=>∃c,(∀i,i<n+1→Bd 300 (c i))∧ClT n c t:=by
 unfold ZhX ZkL Zcb
 walk_at "z"
 refine(ZsG (n:=n) (kk:=8) (by decide) (by decide) hL (by omega)).mono ?_
 rintro _ ⟨c0,rfl,hc⟩
 have bc:=hc.bd (by decide)
 have hv:=Zq5 (n:=n) (b:=140) (c:=c0) (x:=x) (by omega) (by decide) bc bx
 have bv:=(ZoW bc bx n (Zz10 n)).mono (show 140+140+n≤285 by omega)
 refine Zem (fun σ'=>σ' 0=some (scr ns)∧∃c,σ' 2=some (ZR n c)∧∀i,i<n+1→Bd 300 (c i)) ?_ ?_
 ·walk_at "z"
  refine Zw (Zbt (by decide) (by decide) (by decide)) ?_
  walk_at "z"
  refine⟨fun q=>?_,fun q=>?_⟩
  ·have hs:ZR n c0=.lst (tab (n+1) fun k=>.int (c0 k)):=rfl
   rw[hs]at hv ⊢
   walk_at "z"
   refine Zw hv ?_
   walk_at "z"
   refine Zw (Zbt (by decide) (by decide) (by decide)) ?_
   walk_at "z"
   obtain⟨z0,z1⟩:=ZbB ns 6 (show(0:Int)<5 by decide)
   generalize ZaT ns 6 5=pp at *
   refine Znd (n:=n+1) (f:=fun k=>.int (c0 k)) (by walk_at "r") (by omega) (by omega) ?_
   rw[show Int.toNat 0=0 from rfl]
   refine⟨by walk_at "r",fun k=>if k=0 then c0 0-Zaf c0 x n+pp-2 else c0 k,?_,fun i hi=>?_⟩
   ·rw[show(ZR n fun k=>if k=0 then c0 0-Zaf c0 x n+pp-2 else c0 k)=.lst (tab (n+1) fun k=>if k=0 then T.int (c0 0-Zaf c0 x n+pp-2)else .int (c0 k))from congrArg T.lst (Zbz fun k _=>by by_cases z:k=0 <;> simp only[z,if_true,if_false])]
    walk_at "r"
   ·show Bd 300 (if i=0 then _ else _)
    split
    ·have h1:Bd 286 (pp-2):=(show Bd 3 (pp-2)by unfold Bd;omega).mono (by decide)
     have h2:=((bc 0 (by omega)).mono (show 140≤285 by decide)).sub bv
     rw[show c0 0-Zaf c0 x n+pp-2=c0 0-Zaf c0 x n+(pp-2)by omega]
     exact(h2.add h1).mono (by decide)
    ·exact(bc i hi).mono (by decide)
  ·walk_at "z"
   exact⟨by walk_at "r",c0,by walk_at "r",fun i hi=>(bc i hi).mono (by decide)⟩
 rintro σ1 ⟨e0,c,e2,bc'⟩
 walk_at "z"
 refine Zw (Zbt (by decide) (by decide) (by decide)) ?_
 obtain⟨z0,z1⟩:=ZbB ns 5 (show(0:Int)<18 by decide)
 generalize ZaT ns 5 18=wy at *
 walk_at "z"
 refine⟨fun q=>?_,fun q=>?_⟩
 ·walk_at "z"
  exact⟨c,bc',.inl rfl⟩
 walk_at "z"
 refine⟨fun q=>?_,fun q=>?_⟩
 ·walk_at "z"
  exact⟨c,bc',.inr (.inl rfl)⟩
 walk_at "z"
 refine Zes (by decide) (ZnC (by decide) (by decide)) ?_
 walk_at "z"
 have w2:0≤wy.fdiv 3∧wy.fdiv 3≤6:=by rw[Int.fdiv_eq_ediv_of_nonneg _ (by decide)];omega
 exact⟨c,bc',.inr (.inr ⟨1+wy.fdiv 3,by omega,(show Bd 4 (1+wy.fdiv 3)by unfold Bd;omega).mono (by decide),rfl⟩)⟩
def ZeG(r:Nat)(t:T): Prop:=t=.none∨∃(G:Nat→Nat→Option Int) (R:Nat→Int×Int),t=ZH (r+1) G R∧(∀i,i<r+1+1→G i i=some 0)∧(∀t,t<r+1→RestOk (R t))∧SmG 300 (r+1) G∧SmR 300 (r+1) R
theorem Zu1{r:Nat}{f:Nat→Int}{a:Int}: (tab r fun i=>T.int (f i))++[T.int a]=tab (r+1) fun i=>T.int (if i<r then f i else a):=by
 rw[←ZdQ (n:=r) (f:=fun i=>T.int (if i<r then f i else a))]
 congr 1
 ·exact Zbz fun i hi=>by rw[if_pos hi]
 ·rw[if_neg (by omega)]
theorem Zt7{r:Nat}{at_:Int}{v:Nat→Int}(hL:Lay ns)(hr:r≤4)(bv:∀i,i<r→Bd 285 (v i)): Pk (Zc2 [scr ns,.int at_,.lst (tab r fun i=>.int (v i))]) fun t=>∃f:Nat→T,t=.lst (tab 3 f)∧∀i,i<3→ZeG r (f i):=by
 unfold Zc2 ZkH
 walk_at "z"
 refine Zdj (n:=3) (a:=fun i=>.int i) (P:=fun k σ=>σ 0=some (scr ns)∧σ 1=some (.int at_)∧σ 2=some (.lst (tab r fun i=>.int (v i)))∧∃f:Nat→T,σ 3=some (.lst (tab k f))∧∀i,i<k→ZeG r (f i)) ?_ ⟨by walk_at "r",by walk_at "r",by walk_at "r",fun _=>.none,by walk_at "r",fun i h=>by omega⟩ ?_ ?_
 ·walk_at "z"
  exact Zgi 3 (by decide) (by decide) rfl
 ·rintro k σ hk ⟨e0,e1,e2,f,e3,hf⟩
  walk_at "z"
  refine Zw (Zbt (by omega) (by omega) (by decide)) ?_
  obtain⟨z0,z1⟩:=ZbB ns (22+(k:Int)) (show(0:Int)<7 by decide)
  generalize ZaT ns (22+(k:Int)) 7=pp at *
  have hv:∀i,i<r+1→Bd 290 (if i<r then v i else pp):=fun i hi=>by
   split
   ·exact(bv i (by assumption)).mono (by decide)
   ·exact(show Bd 3 pp by unfold Bd;omega).mono (by decide)
  have gd:=Zqx ns 42 (r+1) fun i=>if i<r then v i else pp
  have sG:=ZvJ (ns:=ns) (k:=42) hv
  have sR:=ZvI (ns:=ns) (k:=42) hv
  walk_at "z"
  refine Zf5 (by simp[tab];omega) ?_
  rw[Zu1,show T.lst (tab (r+1) fun i=>T.int (if i<r then v i else pp))=Zcb (r+1) fun i=>if i<r then v i else pp from rfl]
  walk_at "z"
  refine Zw (Zrz hL (by decide) (by decide) (by omega)) ?_
  generalize (Zb1 ns 42 (r+1) fun i=>if i<r then v i else pp)=G at *
  generalize (ZeB ns 42 (r+1) fun i=>if i<r then v i else pp)=R at *
  have so:ZeG r (ZH (r+1) G R):=.inr ⟨G,R,rfl,gd.1,gd.2,sG,sR⟩
  clear gd sG sR
  generalize ZH (r+1) G R=T0 at *
  have eT:tab k f++[T0]=tab (k+1) fun i=>if i<k then f i else T0:=by
   rw[←ZdQ (n:=k) (f:=fun i=>if i<k then f i else T0)]
   congr 1
   ·exact Zbz fun i hi=>by rw[if_pos hi]
   ·rw[if_neg (by omega)]
  have fin:∀{σ':TL},σ' 0=some (scr ns)→σ' 1=some (.int at_)→σ' 2=some (.lst (tab r fun i=>.int (v i)))→σ' 3=some (.lst (tab (k+1) fun i=>if i<k then f i else T0))→σ' 0=some (scr ns)∧σ' 1=some (.int at_)∧σ' 2=some (.lst (tab r fun i=>.int (v i)))∧∃f:Nat→T,σ' 3=some (.lst (tab (k+1) f))∧∀i,i<k+1→ZeG r (f i):=fun a b c d=>⟨a,b,c,_,d,fun i hi=>by
   show ZeG r (if i<k then f i else T0)
   split
   ·exact hf i (by assumption)
   ·exact so⟩
  have fin2:∀{σ':TL},σ' 0=some (scr ns)→σ' 1=some (.int at_)→σ' 2=some (.lst (tab r fun i=>.int (v i)))→σ' 3=some (.lst (tab (k+1) fun i=>if i=k then T.none else if i<k then f i else T0))→σ' 0=some (scr ns)∧σ' 1=some (.int at_)∧σ' 2=some (.lst (tab r fun i=>.int (v i)))∧∃f:Nat→T,σ' 3=some (.lst (tab (k+1) f))∧∀i,i<k+1→ZeG r (f i):=fun a b c d=>⟨a,b,c,_,d,fun i hi=>by
   show ZeG r (if i=k then .none else if i<k then f i else T0)
   split
   ·exact .inl rfl
   ·split
    ·exact hf i (by assumption)
    ·exact so⟩
  refine Zrp (by walk_at "r") (by rw[Zao];omega) ?_
  rw[eT]
  by_cases c3:pp=6
  ·by_cases c1:(k:Int)=at_
   ·walk_at "z"
    exact fin2 (by walk_at "r") (by walk_at "r") (by walk_at "r") (by walk_at "r")
   ·by_cases c2:pp<4
    ·omega
    ·walk_at "z"
     exact fin2 (by walk_at "r") (by walk_at "r") (by walk_at "r") (by walk_at "r")
  ·by_cases c1:(k:Int)=at_
   ·walk_at "z"
    exact fin (by walk_at "r") (by walk_at "r") (by walk_at "r") (by walk_at "r")
   ·by_cases c2:pp<4
    ·walk_at "z"
     exact fin2 (by walk_at "r") (by walk_at "r") (by walk_at "r") (by walk_at "r")
    ·walk_at "z"
     exact fin (by walk_at "r") (by walk_at "r") (by walk_at "r") (by walk_at "r")
 ·rintro σ ⟨e0,e1,e2,f,e3,hf⟩
  walk_at "z"
  exact⟨f,rfl,hf⟩
end L
open PySem PySem.W PyProof.Rows PM TM My
namespace L
open PySem PySem.W PyProof.Rows PM TM My
end L
open PySem PySem.W PyProof.Rows PM TM My
namespace L
open PySem PySem.W PyProof.Rows PM TM My
end L
open PySem PySem.W PyProof.Rows PM TM My
namespace L
open PySem PySem.W PyProof.Rows PM TM My
variable {k n:Nat} {G:Nat→Nat→Option Int} {R:Nat→Int×Int} {M:Int}
def ShD(n:Nat)(G:Nat→Nat→Option Int)(R:Nat→Int×Int)(D:T): Prop:=(∃G2 R2 M k,D=ZH n G2 R2∧Sharp n G R G2 R2 M k)∨(D=.none∧∃M k,ZnF n G R M k)
def Gd(n:Nat)(G:Nat→Nat→Option Int)(R:Nat→Int×Int): Prop:=(∀i,i<n+1→G i i=some 0)∧∀t,t<n→RestOk (R t)
theorem ZoC(hn:n≤20)(hk:k+2*n+4≤7000)(hM:0<M)(bM:Bd k M)(hd:∀i,i<n+1→G i i=some 0)(bG:GB k n G)(hR:∀t,t<n→RB M k (R t)): ∃D,ZaG [ZH n G R]=some D∧True∧Tm n (k+3*n+7) M (fun _=>False) (fun _ _=>True) D:=by
 have bG2:BdG (n+1) k G:=fun a b c ha hb e=>bG a b ha hb c e
 obtain⟨D,et,hD⟩:=Zn6 (k:=k) (by omega) (by omega) hM bM hd bG2 hR
 refine⟨D,et,trivial,?_⟩
 rcases hD with⟨G2,R2,rfl,s⟩ | ⟨rfl,f⟩
 ·obtain⟨z1,z2⟩:=Zqh hM (bM.mono (by omega)) bG2 (by omega) s
  obtain⟨_,_,_,_,_,_,h6⟩:=s.go
  exact .inr ⟨G2,R2,rfl,(Zqg hd s).1,fun t ht=>(h6 t ht).1.mono (by omega),fun i j hi hj b e=>(z1 i j b hi hj e).mono (by omega),fun x li=>li.elim,trivial⟩
 ·exact .inl ⟨rfl,fun x li=>li⟩
theorem ZoZ{D:T}(hn:n≤20)(hk:k+2*n+4≤7000)(hM:0<M)(bM:Bd k M)(hd:∀i,i<n+1→G i i=some 0)(bG:GB k n G)(hR:∀t,t<n→RB M k (R t))(e:ZaG [ZH n G R]=some D): ShD n G R D:=by
 obtain⟨t,et,h⟩:=Zn6 (by omega) hk hM bM hd (fun a b c ha hb e=>bG a b ha hb c e) hR
 rw[e]at et
 cases et
 rcases h with⟨G2,R2,rfl,s⟩ | ⟨rfl,f⟩
 ·exact .inl ⟨G2,R2,M,_,rfl,s⟩
 ·exact .inr ⟨rfl,M,_,f⟩
structure Sz(n b k:Nat)(M:Int)(G:Nat→Nat→Option Int)(R:Nat→Int×Int): Prop where
 hM:0<M
 bM:Bd k M
 hd:∀i,i<n+1→G i i=some 0
 bG:GB b n G
 hR:∀t,t<n→RB M k (R t)
theorem Sz.gd{b:Nat}(z:Sz n b k M G R): Gd n G R:=⟨z.hd,fun t ht=>(z.hR t ht).1⟩
theorem Sz.mono{b b' k':Nat}(z:Sz n b k M G R)(hb:b≤b')(hk:k≤k'): Sz n b' k' M G R:=⟨z.hM,z.bM.mono hk,z.hd,fun i j hi hj y e=>(z.bG i j hi hj y e).mono hb,fun t ht=>(z.hR t ht).mono hk⟩
def SzD(n K:Nat)(M:Int)(D:T): Prop:=D=.none∨∃G R,D=ZH n G R∧Sz n K K M G R
theorem Tm.szd{K:Nat}{P:(Nat→Int)→Prop}{I:(Nat→Nat→Option Int)→(Nat→Int×Int)→Prop}{D:T}(hM:0<M)(bM:Bd K M)(h:Tm n K M P I D): SzD n K M D:=by
 rcases h with⟨rfl,_⟩ | ⟨G,R,rfl,h1,h2,h3,_⟩
 ·exact .inl rfl
 ·exact .inr ⟨G,R,rfl,hM,bM,h1,h3,h2⟩
end L
open PySem PySem.W PyProof.Rows PM TM My
namespace L
open PySem PySem.W PyProof.Rows PM TM My
def Up(n:Nat)(P:(Nat→Nat→Option Int)→(Nat→Int×Int)→T→Prop)(T0 D:T): Prop:=(T0=.none∧D=.none)∨∃G R,T0=ZH n G R∧Gd n G R∧P G R D
structure S5(n:Nat)(M:Int)(G:Nat→Nat→Option Int)(R:Nat→Int×Int): Prop where
 hn:n≤4
 hM:0<M
 bM:Bd 560 M
 hd:∀i,i<n+1→G i i=some 0
 hG:GB 580 n G
 hR:∀t,t<n→RB M 580 (R t)
theorem S5.gd{n:Nat}{M:Int}{G:Nat→Nat→Option Int}{R:Nat→Int×Int}(z:S5 n M G R): Gd n G R:=⟨z.hd,fun t ht=>(z.hR t ht).1⟩
end L
open PySem PySem.W PyProof.Rows PM TM My
namespace L
open PySem PySem.W PyProof.Rows PM TM My
def Zo9(n:Nat)(G:Nat→Nat→Option Int)(c:Nat→Int): Prop:=∃y,grt n G c=some y∧y≤0
theorem SzD.due{n K:Nat}{M:Int}{D:T}(h:SzD n K M D): DueOk n D:=by
 rcases h with rfl | ⟨G,R,rfl,z⟩
 ·exact .inl rfl
 ·exact .inr ⟨G,R,rfl,z.gd.1,z.gd.2⟩
end L
open PySem PySem.W PyProof.Rows PM TM My
namespace L
open PySem PySem.W PyProof.Rows PM TM My
section
variable {n:Nat} {M M':Int} {G G':Nat→Nat→Option Int} {R R':Nat→Int×Int} {c:Nat→Int} {Cl:T}
theorem Zrd{m b K:Nat}{C:Nat→Nat→Int}(hn:n≤20)(hm:m≤20)(hb1:1≤b)(hb:b≤9000)(hK:K+2*m+4≤7000)(hG:GB b n G)(hR:∀t,t<n→RBd b (R t))(ok:∀t,t<n→RestOk (R t))(hC:CB b n m C)(hM:0<M)(bM:Bd K M)(bG:GB K m (rcG n G C))(hR':∀t,t<m→RB M K (rcR n R C t)): ∃D,Zcx [ZH n G R,ZaY n m C]=some D∧ShD m (rcG n G C) (rcR n R C) D∧SzD m (K+3*m+7) M D:=by
 obtain⟨D,et,_,hD⟩:=ZoC (k:=K) hm hK hM bM (ZsO (G:=G) (C:=C)) bG hR'
 exact⟨D,Pk.eq (ZuY (b:=b) (by omega) (by omega) hb hb1 hG hR ok hC (Zw et rfl)),ZoZ hm hK hM bM ZsO bG hR' et,hD.szd hM (bM.mono (by omega))⟩
end
end L
open PySem PySem.W PyProof.Rows PM TM My
namespace L
open PySem PySem.W PyProof.Rows PM TM My
end L
open PySem PySem.W PyProof.Rows PM TM My
namespace L
open PySem PySem.W PyProof.Rows PM TM My
section
variable {n X:Nat} {M M':Int} {G G':Nat→Nat→Option Int} {R R':Nat→Int×Int} {c:Nat→Int} {d:Int} {s:Sp}
end
end L
open PySem PySem.W PyProof.Rows PM TM My
namespace L
open PySem PySem.W PyProof.Rows PM TM My
variable {n r:Nat} {G:Nat→Nat→Option Int} {R:Nat→Int×Int} {C:Nat→Nat→Int} {M:Int} {Sh T0:T} {σ:TL} {N:TL→Prop} {ns:List Int}
def AnD(n r x:Nat)(C:Nat→Nat→Int)(Gs:Nat→Nat→Option Int)(Rs:Nat→Int×Int)(G:Nat→Nat→Option Int)(R:Nat→Int×Int)(D:T): Prop:=∃D1 D2 L0 B0,ShD n G R D1∧Up n (fun G R=>ShD (n+r) (rcG n G (ZbY n C)) (rcR n R (ZbY n C))) D1 D2∧Up (n+r) (fun G R=>ZsK n r (n+r) G R Gs Rs) D2 L0∧Up (n+r+1) (fun G R=>ShD (n+r+1) G R) L0 B0∧Up (n+r+1) (fun G R=>ShD n (rcG (n+r+1) G fun t=>Z0 (Zda n (n+r) x t)) (rcR (n+r+1) R fun t=>Z0 (Zda n (n+r) x t))) B0 D
theorem ZvK(z:S5 n M G R)(hr:r≤4)(hC:CB 140 n r C): ∃D,Zcx [ZH n G R,ZaY n (n+r) (ZbY n C)]=some D∧ShD (n+r) (rcG n G (ZbY n C)) (rcR n R (ZbY n C)) D∧∃M',0<M'∧Bd 3400 M'∧SzD (n+r) 3440 M' D:=by
 have hn:=z.hn
 have hM:=z.hM
 have bM:=z.bM
 have hR:=z.hR
 have hG:=z.hG
 have ok:=z.gd.2
 have bR:∀t,t<n→RBd 580 (R t):=fun t ht=>(hR t ht).bd2 hM bM (by decide)
 have ok2:∀t,t<r→RestOk (rcR n R C t):=ZsE ok
 have hp:=Zg1 ok2 r (Zz10 r)
 have bm:∀t,t<r→Bd 700 (rcR n R C t).1:=fun t ht=>by
  unfold rcR
  rw[ZcL ok n (Zz10 n),Zdu]
  exact Zn7 (i:=140) (m:=560) (hC t ht) (fun j hj=>ZjX hM bM (hR j hj)) n (Zz10 n)
 have hb:=Zhc (k:=700) (by decide) bm r (Zz10 r)
 have hM':0<M*ZcX (rcR n R C) r:=Int.mul_pos hM hp
 have bM':Bd 3400 (M*ZcX (rcR n R C) r):=(bM.mul hb).mono (by omega)
 have cb:=Zy3 hC
 obtain⟨D,e1,h,s⟩:=Zrd (b:=580) (K:=3400) (M:=M*ZcX (rcR n R C) r) (by omega) (by omega) (by decide) (by decide) (by omega) hG bR ok cb hM' bM' (fun i j hi hj y e=>(show Bd 1200 y from ZyQ (B:=1200) hG cb (by omega) i j hi hj y e).mono (by decide)) (fun t ht=>⟨ZsE (m:=n+r) ok t ht,by
  by_cases c:t<n
  ·rw[ZzD ok c]
   exact(hR t c).2.1.imp id fun d=>Int.dvd_trans d (Int.dvd_mul_right _ _)
  ·obtain⟨u,rfl⟩:∃u,t=n+u:=⟨t-n,by omega⟩
   rw[Zy2]
   exact(Zg2 r u (by omega)).imp id fun d=>Int.dvd_trans d (Int.dvd_mul_left _ _),(show Bd 1200 _ from(ZyR (B:=1200) ok bR cb (by omega) t ht).2).mono (by decide)⟩)
 refine⟨D,e1,h,_,hM',bM',?_⟩
 rcases s with rfl | ⟨G2,R2,rfl,z2⟩
 ·exact .inl rfl
 ·exact .inr ⟨G2,R2,rfl,z2.mono (by omega) (by omega)⟩
theorem ZvL{m x:Nat}(hnm:n≤m)(hm:m≤8)(hM:0<M)(bM:Bd 4950 M)(hd:∀i,i<m+1+1→G i i=some 0)(hG:GB 5000 (m+1) G)(hR:∀t,t<m+1→RB M 5000 (R t)): ∃D,Zcx [ZH (m+1) G R,ZaY (m+1) n fun t=>Z0 (Zda n m x t)]=some D∧ShD n (rcG (m+1) G fun t=>Z0 (Zda n m x t)) (rcR (m+1) R fun t=>Z0 (Zda n m x t)) D∧DueOk n D:=by
 have ho:=ZzE (x:=x) hnm
 have ok:∀t,t<m+1→RestOk (R t):=fun t ht=>(hR t ht).1
 have bR:∀t,t<m+1→RBd 5000 (R t):=fun t ht=>(hR t ht).bd2 hM bM (by decide)
 have eG:=Zzy hd ho
 have eR:=ZyT ok ho
 obtain⟨D,e1,h,s⟩:=Zrd (n:=m+1) (m:=n) (b:=5000) (K:=5000) (M:=M) (C:=fun t=>Z0 (Zda n m x t)) (by omega) (by omega) (by decide) (by decide) (by omega) hG bR ok (fun i hi k hk=>bd_un.mono (by decide)) hM (bM.mono (by decide)) (fun i j hi hj y e=>by rw[eG i j hi hj]at e;exact hG _ _ (ho.lt i hi) (ho.lt j hj) y e) (fun t ht=>by rw[eR t ht];have:=ho t ht;exact hR _ (by omega))
 exact⟨D,e1,h,s.due⟩
theorem Zu2{x:Nat}{Gs:Nat→Nat→Option Int}{Rs:Nat→Int×Int}(hx:x<n)(hn:n≤3)(hr:r≤4)(hM:0<M)(bM:Bd 420 M)(hd:∀i,i<n+1→G i i=some 0)(hG:GB 440 n G)(hR:∀t,t<n→RB M 440 (R t))(hC:CB 140 n r C)(hd':∀i,i<r+1+1→Gs i i=some 0)(ok':∀t,t<r+1→RestOk (Rs t))(sG':SmG 300 (r+1) Gs)(sR':SmR 300 (r+1) Rs): ∃D,Zb3 [ZH n G R,.int ((x:Int)+1),ZaY n r C,ZH (r+1) Gs Rs]=some D∧AnD n r x C Gs Rs G R D∧DueOk n D:=by
 obtain⟨D1,p1,_,h1⟩:=ZoC (k:=440) (by omega) (by omega) hM (bM.mono (by decide)) hd hG hR
 have s1:=ZoZ (by omega) (show 440+2*n+4≤7000 by omega) hM (bM.mono (by decide)) hd hG hR p1
 rcases h1.szd hM (bM.mono (by omega))with rfl | ⟨G1,R1,rfl,z1⟩
 ·exact⟨.none,ZkY p1,⟨_,_,_,_,s1,.inl ⟨rfl,rfl⟩,.inl ⟨rfl,rfl⟩,.inl ⟨rfl,rfl⟩,.inl ⟨rfl,rfl⟩⟩,.inl rfl⟩
 have z5:S5 n M G1 R1:=⟨by omega,hM,bM.mono (by decide),z1.hd,fun i j hi hj y e=>(z1.bG i j hi hj y e).mono (by omega),fun t ht=>(z1.hR t ht).mono (by omega)⟩
 obtain⟨D2,p2,s2,M2,m2,b2,h2⟩:=ZvK z5 hr hC
 rcases h2 with rfl | ⟨G2,R2,rfl,z2⟩
 ·exact⟨.none,Zt5 (by omega) (by omega) ⟨_,_,_,rfl⟩ p1 p2,⟨_,_,_,_,s1,.inr ⟨_,_,rfl,z1.gd,s2⟩,.inl ⟨rfl,rfl⟩,.inl ⟨rfl,rfl⟩,.inl ⟨rfl,rfl⟩⟩,.inl rfl⟩
 obtain⟨L0,p3,la,M3,m3,b3,h3⟩:=Zy5 (m:=n+r) rfl (by omega) hr m2 b2 z2.hd z2.bG z2.hR hd' ok' sG' sR'
 have fin:∀B0 D,ZaG [L0]=some B0→Zcx [B0,ZaY (n+r+1) n fun t=>Z0 (Zda n (n+r) x t)]=some D→Zb3 [ZH n G R,.int ((x:Int)+1),ZaY n r C,ZH (r+1) Gs Rs]=some D:=fun B0 D q1 q3=>Zur (m:=n+r) rfl hx (by omega) (by omega) ⟨_,_,_,rfl⟩ p1 p2 p3 q1 q3
 rcases h3 with⟨rfl,_⟩ | ⟨G3,R3,rfl,d3,r3,g3,_⟩
 ·exact⟨.none,fin .none .none Zm8 ZpU,⟨_,_,_,_,s1,.inr ⟨_,_,rfl,z1.gd,s2⟩,.inr ⟨_,_,rfl,z2.gd,la⟩,.inl ⟨rfl,rfl⟩,.inl ⟨rfl,rfl⟩⟩,.inl rfl⟩
 have g3':GB 4950 (n+r+1) G3:=fun i j hi hj y e=>(g3 i j hi hj y e).mono (by decide)
 have r3':∀t,t<n+r+1→RB M3 4950 (R3 t):=fun t ht=>(r3 t ht).mono (by decide)
 obtain⟨B0,p4,_,h4⟩:=ZoC (k:=4950) (by omega) (by omega) m3 b3 d3 g3' r3'
 have s4:=ZoZ (by omega) (show 4950+2*(n+r+1)+4≤7000 by omega) m3 b3 d3 g3' r3' p4
 have gd3:Gd (n+r+1) G3 R3:=⟨d3,fun t ht=>(r3 t ht).1⟩
 rcases h4.szd m3 (b3.mono (by omega))with rfl | ⟨G4,R4,rfl,z4⟩
 ·exact⟨.none,fin .none .none p4 ZpU,⟨_,_,_,_,s1,.inr ⟨_,_,rfl,z1.gd,s2⟩,.inr ⟨_,_,rfl,z2.gd,la⟩,.inr ⟨_,_,rfl,gd3,s4⟩,.inl ⟨rfl,rfl⟩⟩,.inl rfl⟩
 obtain⟨D,p5,s5,h5⟩:=ZvL (n:=n) (m:=n+r) (x:=x) (by omega) (by omega) m3 b3 z4.hd (fun i j hi hj y e=>(z4.bG i j hi hj y e).mono (by omega)) (fun t ht=>(z4.hR t ht).mono (by omega))
 exact⟨D,fin _ D p4 p5,⟨_,_,_,_,s1,.inr ⟨_,_,rfl,z1.gd,s2⟩,.inr ⟨_,_,rfl,z2.gd,la⟩,.inr ⟨_,_,rfl,gd3,s4⟩,.inr ⟨_,_,rfl,z4.gd,s5⟩⟩,h5⟩
section
variable {n X:Nat} {G:Nat→Nat→Option Int} {R:Nat→Int×Int} {T0 D Cl C0 S0 Sm:T} {b:Bool} {at_:Int}
theorem Zt8(h:ZaG [T0]=some (ZH n G R))(hl:Zco [ZH n G R,Cl,.bool b]=some D): ZcK [T0,.tup [.str (Str.ofString "when"),Cl,.bool b],S0]=some D:=by
 have hne:∀{Q:T→Prop},Q (.bool false)→Pk (qIs (ZH n G R) .none) Q:=fun h=>⟨_,rfl,h⟩
 generalize ZH n G R=T1 at *
 apply Pk.eq
 unfold ZcK ZgY
 walk_at "z"
 refine Zw h ?_
 walk_at "z"
 refine hne ?_
 walk_at "z"
 refine Zsw (by decide +kernel) (r:=false) (by decide +kernel) ?_
 walk_at "z"
 refine ZsM (by decide +kernel) ?_
 walk_at "z"
 exact Zw hl rfl
theorem ZpH{xv:T}(hS:Zt S0 (.int at_)=some Sm)(h:ZaG [T0]=some (ZH n G R))(hl:Zb3 [ZH n G R,xv,C0,Sm]=some D): ZcK [T0,.tup [.str (Str.ofString "call"),xv,.int at_,C0],S0]=some D:=by
 have hne:∀{Q:T→Prop},Q (.bool false)→Pk (qIs (ZH n G R) .none) Q:=fun h=>⟨_,rfl,h⟩
 have hS':∀{Q:T→Prop},Q Sm→Pk (Zt S0 (.int at_)) Q:=fun h=>⟨_,hS,h⟩
 clear hS
 generalize ZH n G R=T1 at *
 apply Pk.eq
 unfold ZcK ZgY
 walk_at "z"
 refine Zw h ?_
 walk_at "z"
 refine hne ?_
 walk_at "z"
 refine Zsw (by decide +kernel) (r:=false) (by decide +kernel) ?_
 walk_at "z"
 refine ZzG (by decide +kernel) ?_
 walk_at "z"
 refine ZsM (by decide +kernel) ?_
 walk_at "z"
 refine hS' ?_
 walk_at "z"
 exact Zw hl rfl
end
structure F55(n:Nat)(T0 Sh:T): Prop where
 s:ZaG [T0]=some Sh
 p:Pln 3 T0
 k:Zef [T0]=some T0
 w:∀(c:Nat→Int) (Cl:T) (b:Bool),(∀i,i<n+1→Bd 300 (c i))→ClT n c Cl→∃D,ZcK [T0,.tup [.str (Str.ofString "when"),Cl,.bool b],.lst []]=some D∧Zco [Sh,Cl,.bool b]=some D∧DueOk n D
 c:∀(X r:Nat) (C:Nat→Nat→Int) (Sm S0:T) (at_:Int),X<n→r≤4→CB 140 n r C→ZeG r Sm→Zt S0 (.int at_)=some Sm→∃D,ZcK [T0,.tup [.str (Str.ofString "call"),.int ((X:Int)+1),.int at_,ZaY n r C],S0]=some D∧Zb3 [Sh,.int ((X:Int)+1),ZaY n r C,Sm]=some D∧DueOk n D
theorem ZwH(hn:n≤3)(hT:T0=.none∨∃(G:Nat→Nat→Option Int) (R:Nat→Int×Int),T0=ZH n G R∧(∀i,i<n+1→G i i=some 0)∧(∀t,t<n→RestOk (R t))∧SmG 137 n G∧SmR 137 n R): ∃Sh,F55 n T0 Sh:=by
 have nn:∀{T0:T},ZaG [T0]=some .none→Pln 3 T0→Zef [T0]=some T0→F55 n T0 .none:=fun h p k=>⟨h,p,k,fun c Cl b _ _=>⟨.none,ZpG h,ZvD,.inl rfl⟩,fun X r C Sm S0 at_ _ _ _ _ _=>⟨.none,ZpG h,ZkY Zm8,.inl rfl⟩⟩
 rcases hT with rfl | ⟨G,R,rfl,hd,ok,sG,sR⟩
 ·exact⟨_,nn Zm8 .none Zvu⟩
 ·obtain⟨Sh,e1,M,hM,bM,h⟩:=ZwC hn hd ok sG sR
  rcases h with⟨rfl,_⟩ | ⟨G1,R1,rfl,d1,r1,g1,_,_⟩
  ·exact⟨_,nn e1 Zg8 (ZrA (by omega))⟩
  ·refine⟨_,e1,Zg8,ZrA (by omega),fun c Cl b bc hC=>?_,fun X r C Sm S0 at_ hX hr hC hS hi=>?_⟩
   ·obtain⟨hb,_,hw⟩:=Zy8 (by omega) hM (bM.mono (by decide)) d1 (fun i j hi hj y e=>(g1 i j hi hj y e).mono (by decide)) (fun t ht=>(r1 t ht).mono (by decide)) bc hC
    obtain⟨D,e,t⟩:=hw b
    exact⟨D,Zt8 e1 e,e,t.due⟩
   ·rcases hS with rfl | ⟨G',R',rfl,d',o',sG',sR'⟩
    ·have:Zb3 [ZH n G1 R1,.int ((X:Int)+1),ZaY n r C,.none]=some .none:=by
      obtain⟨D1,q1,_,t1⟩:=ZjC (k:=440) (by omega) (by omega) hM (bM.mono (by decide)) d1 g1 r1
      rcases t1 with⟨rfl,_⟩ | ⟨_,_,rfl,_⟩
      ·exact ZkY q1
      ·exact Zts q1
     exact⟨.none,ZpH hi e1 this,this,.inl rfl⟩
    ·obtain⟨D,e,_,t⟩:=Zu2 hX hn hr hM bM d1 g1 r1 hC d' o' sG' sR'
     exact⟨D,ZpH hi e1 e,e,t⟩
theorem Zx2{Cl:T}{c:Nat→Int}{b:Bool}(hn:n≤20)(F:F55 n T0 Sh)(bc:∀i,i<n+1→Bd 300 (c i))(hC:ClT n c Cl)(e3:σ 3=some T0)(e5:σ 5=some T0)(e6:σ 6=some Cl)(e7:σ 7=some (.bool b))(hN:∀σ',σ' 3=some T0→σ' 5=some T0→σ' 6=some Cl→N σ'): Psk ((Zs (ZN 8 (Zq ZcK (Zd (Za 3) (Zd (Zav (Zd (ZbM (Str.ofString "when")) (Zd (Za 6) (Zd (Za 7) Zl)))) (Zd (Za6 Zl) Zl))))) (ZT (bOr (ZbX (ZK (Zq Zdd (Zd (Za 8) (Zd (Zq Zco (Zd (Zq ZaG (Zd (Za 5) Zl)) (Zd (Za 6) (Zd (Za 7) Zl)))) Zl))))) (bOr (ZK (Zg qNe (Za 3) (Za 5))) Zb6)) (ZF (ZbI false)) ZW)) σ) (fun t=>t=.bool true) N:=by
 obtain⟨D,ho,hw,hD⟩:=F.w c Cl b bc hC
 have hsh:=F.s
 have p:=F.p
 have hs:=hD.same (by omega)
 clear F hC bc
 walk_at "z"
 refine Zw ho ?_
 walk_at "z"
 refine Zw hsh ?_
 walk_at "z"
 refine Zw hw ?_
 walk_at "z"
 refine Zw hs ?_
 walk_at "z"
 refine ZyH p p ?_
 rw[ZaH rfl]
 walk_at "z"
 exact hN _ (by walk_at "r") (by walk_at "r") (by walk_at "r")
theorem ZwI{X at_:Nat}{v:Nat→Int}(hL:Lay ns)(hn:n≤3)(hr:r≤4)(hX:X<n)(ha:at_<3)(F:F55 n T0 Sh)(hC:CB 140 n r C)(bv:∀i,i<r→Bd 285 (v i))(e0:σ 0=some (scr ns))(e3:σ 3=some T0)(e5:σ 5=some T0)(e9:σ 9=some (ZaY n r C))(e10:σ 10=some (.int at_))(e11:σ 11=some (.int ((X:Int)+1)))(e12:σ 12=some (.lst (tab r fun i=>.int (v i)))): Psk ((Zs (ZN 13 (Zq Zc2 (Zd (Za 0) (Zd (Za 10) (Zd (Za 12) Zl))))) (Zs (ZN 8 (Zq ZcK (Zd (Za 3) (Zd (Zav (Zd (ZbM (Str.ofString "call")) (Zd (Za 11) (Zd (Za 10) (Zd (Za 9) Zl))))) (Zd (Za 13) Zl))))) (Zs (ZN 14 (Zg Zt (Zq Zc2 (Zd (Za 0) (Zd (Za 10) (Zd (Za 12) Zl)))) (Za 10))) (Zs (ZT (ZbX (ZK (Zq Zdd (Zd (Za 8) (Zd (Zq Zb3 (Zd (Zq ZaG (Zd (Za 5) Zl)) (Zd (Za 11) (Zd (Za 9) (Zd (Za 14) Zl))))) Zl))))) (ZF (ZbI false)) ZW) (ZF ((ZcY (Zg qEq (Za 3) (Za 5)) (Zg qEq (Za 13) (Zq Zc2 (Zd (Za 0) (Zd (Za 10) (Zd (Za 12) Zl)))))))))))) σ) (fun t=>t=.bool true) N:=by
 obtain⟨S0,hS,f,rfl,hf⟩:=Zt7 (at_:=(at_:Int)) hL hr bv
 have hi:Zt (.lst (tab 3 f)) (.int (at_:Nat))=some (f at_):=by
  obtain⟨t,e,q⟩:=Zrn (f:=f) (Q:=fun t=>t=f at_) ha rfl
  rw[e,q]
 obtain⟨D,ho,han,hD⟩:=F.c X r C (f at_) (.lst (tab 3 f)) at_ hX hr hC (hf at_ ha) hi
 have hi':∀{Q:T→Prop},Q (f at_)→Pk (Zt (.lst (tab 3 f)) (.int (at_:Nat))) Q:=fun h=>⟨_,hi,h⟩
 have hsh:=F.s
 have p:=F.p
 have hs:=hD.same (by omega)
 have pS:Pln 4 (.lst (tab 3 f)):=Zet fun i hi=>by
  rcases hf i hi with h | ⟨G,R,h,_⟩
  ·rw[h];exact .none
  ·rw[h];exact Zg8
 clear F hC bv hi hf hD
 generalize ZaY n r C=C0 at *
 generalize f at_=Sm at *
 generalize T.lst (tab 3 f)=S0 at *
 generalize T.lst (tab r fun i=>.int (v i))=V0 at *
 walk_at "z"
 refine Zw hS ?_
 walk_at "z"
 refine Zw ho ?_
 walk_at "z"
 refine Zw hS ?_
 walk_at "z"
 refine hi' ?_
 walk_at "z"
 refine Zw hsh ?_
 walk_at "z"
 refine Zw han ?_
 walk_at "z"
 refine Zw hs ?_
 walk_at "z"
 refine Zb8 p p ?_
 rw[ZaH rfl]
 walk_at "z"
 refine Zw hS ?_
 walk_at "z"
 refine Zb8 pS pS ?_
 rw[ZaH rfl]
theorem ZwJ{x:Nat→Int}(hL:Lay ns)(h0:0<n)(hn:n≤3)(bx:∀i,i<n→Bd 140 (x i))(F:F55 n T0 Sh)(e0:σ 0=some (scr ns))(e1:σ 1=some (.int n))(e2:σ 2=some (Zcb n x))(e3:σ 3=some T0)(e5:σ 5=some T0): Psk ((Zs (ZN 9 (Zau (ZaJ (Zd (Zg Zt (Za6 (Zd (Zj 0) (Zd (Zj 1) (Zd (Zj 1) (Zd (Zj 2) Zl))))) (Zq ZaO (Zd (Za 0) (Zd (Zj 62) (Zd (Zj 4) Zl))))) Zl)) (Zak 102) Zal (Zq ZfU (Zd (Za 0) (Zd (Zg Z4 (Zj 13) (Zg ZaN (Zj 4) (Za 102))) (Zd (Za 1) Zl)))))) (Zs (ZN 10 (Zq ZaO (Zd (Za 0) (Zd (Zj 21) (Zd (Zj 3) Zl))))) (Zs (ZN 11 (Zg Z4 (Zj 1) (Zq ZaO (Zd (Za 0) (Zd (Zj 61) (Zd (Za 1) Zl)))))) (Zs (ZN 12 (Zau (Zbp (Za 9)) (Zak 104) Zal (Zq Zdb (Zd (Za 104) (Zd (Za 2) Zl))))) (Zs (ZN 13 (Zq Zc2 (Zd (Za 0) (Zd (Za 10) (Zd (Za 12) Zl))))) (Zs (ZN 8 (Zq ZcK (Zd (Za 3) (Zd (Zav (Zd (ZbM (Str.ofString "call")) (Zd (Za 11) (Zd (Za 10) (Zd (Za 9) Zl))))) (Zd (Za 13) Zl))))) (Zs (ZN 14 (Zg Zt (Zq Zc2 (Zd (Za 0) (Zd (Za 10) (Zd (Za 12) Zl)))) (Za 10))) (Zs (ZT (ZbX (ZK (Zq Zdd (Zd (Za 8) (Zd (Zq Zb3 (Zd (Zq ZaG (Zd (Za 5) Zl)) (Zd (Za 11) (Zd (Za 9) (Zd (Za 14) Zl))))) Zl))))) (ZF (ZbI false)) ZW) (ZF ((ZcY (Zg qEq (Za 3) (Za 5)) (Zg qEq (Za 13) (Zq Zc2 (Zd (Za 0) (Zd (Za 10) (Zd (Za 12) Zl)))))))))))))))) σ) (fun t=>t=.bool true) N:=by
 obtain⟨p0,p1⟩:=ZbB ns 62 (show(0:Int)<4 by decide)
 obtain⟨w,ew,hw⟩:=Zfd p0 (show ZaT ns 62 4<(4:Nat)by omega)
 obtain⟨r,hr,hidx⟩:∃r:Nat,r≤4∧[T.int 0,.int 1,.int 1,.int 2][w]?=some (.int r):=by
  match w,hw with
  | 0,_=>exact⟨0,by decide,rfl⟩
  | 1,_=>exact⟨1,by decide,rfl⟩
  | 2,_=>exact⟨1,by decide,rfl⟩
  | 3,_=>exact⟨2,by decide,rfl⟩
 walk_at "z"
 refine Zqy (n:=r) (a:=fun i=>.int i) (ZR n) (fun _ c=>SumB n c 1000000000) (by omega) ?_ (fun t ht=>?_) (fun _=>0) fun C hC=>?_
 ·walk_at "z"
  refine Zw (Zbt (by decide) (by decide) (by decide)) ?_
  rw[ew]
  refine Zhk (t:=.int r) (by omega) (by rw[Int.toNat_natCast];exact hidx) ?_
  walk_at "z"
  rfl
 ·walk_at "z"
  refine Zdz (by omega) (by omega) ?_
  walk_at "z"
  exact ZsG (by omega) (by omega) hL (by omega)
 have hCB:CB 140 n r C:=fun i hi k hk=>(hC i hi).bd (by decide) k hk
 have bv:∀i,i<r→Bd 285 (Zaf (C i) x n):=fun i hi=>(ZoW (hCB i hi) bx n (Zz10 n)).mono (by omega)
 obtain⟨a0,a1⟩:=ZbB ns 21 (show(0:Int)<3 by decide)
 obtain⟨at_,ea,ha⟩:=Zfd a0 (show ZaT ns 21 3<(3:Nat)by omega)
 obtain⟨x0,x1⟩:=ZbB ns 61 (show(0:Int)<(n:Int)by omega)
 obtain⟨X,eX,hX⟩:=Zfd x0 (show ZaT ns 61 n<(n:Nat)by omega)
 walk_at "z"
 refine Zw (Zbt (by decide) (by decide) (by decide)) ?_
 rw[ea]
 walk_at "z"
 refine Zw (Zbt (by decide) (by decide) (by omega)) ?_
 rw[eX]
 refine ZoK ?_
 rw[Int.add_comm 1 (X:Int)]
 walk_at "z"
 refine ZbQ (n:=r) (a:=fun i=>ZR n (C i)) (b:=fun i=>.int (Zaf (C i) x n)) (by omega) ?_ (fun i hi=>?_) ?_
 ·walk_at "z"
  rfl
 ·walk_at "z"
  exact Zw (Zq5 (b:=140) (by omega) (by decide) (hCB i hi) bx) rfl
 exact ZwI hL hn hr hX ha F hCB bv (by walk_at "r") (by walk_at "r") (by walk_at "r") (by walk_at "r") (by walk_at "r") (by walk_at "r") (by walk_at "r")
theorem Zut(hL:Lay ns): ZnZ [scr ns]=some (.bool true):=by
 apply Pk.eq
 unfold ZnZ ZnY
 obtain⟨p0,p1⟩:=ZbB ns 0 (show(0:Int)<9 by decide)
 obtain⟨w,ew,hw⟩:=Zfd p0 (show ZaT ns 0 9<(9:Nat)by omega)
 walk_at "z"
 refine Zw (Zbt (by decide) (by decide) (by decide)) ?_
 rw[ew]
 obtain⟨n,h0,hn,hidx⟩:∃n:Nat,0<n∧n≤3∧[T.int 1,.int 2,.int 1,.int 1,.int 2,.int 1,.int 1,.int 2,.int 3][w]?=some (.int n):=by
  match w,hw with
  | 0,_=>exact⟨1,by decide,by decide,rfl⟩
  | 1,_=>exact⟨2,by decide,by decide,rfl⟩
  | 2,_=>exact⟨1,by decide,by decide,rfl⟩
  | 3,_=>exact⟨1,by decide,by decide,rfl⟩
  | 4,_=>exact⟨2,by decide,by decide,rfl⟩
  | 5,_=>exact⟨1,by decide,by decide,rfl⟩
  | 6,_=>exact⟨1,by decide,by decide,rfl⟩
  | 7,_=>exact⟨2,by decide,by decide,rfl⟩
  | 8,_=>exact⟨3,by decide,by decide,rfl⟩
 refine Zhk (t:=.int n) (by omega) (by rw[Int.toNat_natCast];exact hidx) ?_
 walk_at "z"
 refine ZbQ (n:=n) (a:=fun i=>.int i) (b:=fun i=>.int (Zcc ns (2+i))) (by omega) ?_ (fun t ht=>?_) ?_
 ·walk_at "z"
  rfl
 ·walk_at "z"
  exact Zw (ZgZ hL (by omega) (by omega)) rfl
 generalize hx:(fun i:Nat=>Zcc ns (2+i))=x
 have sx:∀i,i<n→(x i).natAbs<2 ^ 134:=fun i _=>by rw[←hx];exact Zhp ns _
 rw[show(fun i:Nat=>T.int (Zcc ns (2+i)))=fun i=>T.int (x i)by rw[←hx]]
 walk_at "z"
 refine Zw (Zrz (x:=x) hL (by decide) (by decide) (by omega)) ?_
 have gd:=Zqx ns 25 n x
 have smG:SmG 136 n (Zb1 ns 25 n x):=Zwt sx
 have smR:SmR 136 n (ZeB ns 25 n x):=fun t ht=>⟨Zbs (ZqX (ns:=ns) (k:=25) sx t ht).1 (by decide),Zbs (ZqX (ns:=ns) (k:=25) sx t ht).2 (by decide)⟩
 generalize Zb1 ns 25 n x=G at *
 generalize ZeB ns 25 n x=R at *
 walk_at "z"
 refine Zw (Zbt (by decide) (by decide) (by decide)) ?_
 generalize ZaT ns 1 55=wy at *
 have bx:∀i,i<n→Bd 140 (x i):=fun i hi=>Zbs (sx i hi) (by decide)
 refine Zem (fun σ'=>σ' 0=some (scr ns)∧σ' 1=some (.int n)∧σ' 2=some (Zcb n x)∧σ' 4=some (.int wy)∧∃(G:Nat→Nat→Option Int) (R:Nat→Int×Int),σ' 3=some (ZH n G R)∧(∀i,i<n+1→G i i=some 0)∧(∀t,t<n→RestOk (R t))∧SmG 137 n G∧SmR 137 n R) ?_ ?_
 ·walk_at "z"
  refine⟨fun q=>?_,fun q=>?_⟩
  ·walk_at "z"
   refine(ZvA (B:=136) hL (by decide) (by decide) (by omega) (by decide) gd.2 smR smG).mono ?_
   rintro _ ⟨G2,R2,rfl,d2,r2,g2,s2⟩
   exact⟨by walk_at "r",by walk_at "r",by walk_at "r",by walk_at "r",G2,R2,Zcu,fun i hi=>by rw[d2 i hi];exact gd.1 i hi,r2,g2,s2⟩
  ·walk_at "z"
   exact⟨by walk_at "r",by walk_at "r",by walk_at "r",by walk_at "r",G,R,by walk_at "r",gd.1,gd.2,fun a b ha hb c e=>Zbs (smG a b ha hb c e) (by decide),fun t ht=>⟨Zbs (smR t ht).1 (by decide),Zbs (smR t ht).2 (by decide)⟩⟩
 clear smG smR gd
 rintro σ2 ⟨e0,e1,e2,e4,G1,R1,e3,hd1,ok1,sG1,sR1⟩
 refine Zem (fun σ'=>σ' 0=some (scr ns)∧σ' 1=some (.int n)∧σ' 2=some (Zcb n x)∧∃T0,σ' 3=some T0∧(T0=.none∨∃(G:Nat→Nat→Option Int) (R:Nat→Int×Int),T0=ZH n G R∧(∀i,i<n+1→G i i=some 0)∧(∀t,t<n→RestOk (R t))∧SmG 137 n G∧SmR 137 n R)) ?_ ?_
 ·walk_at "z"
  refine⟨fun q=>?_,fun q=>?_⟩
  ·walk_at "z"
   exact⟨by walk_at "r",by walk_at "r",by walk_at "r",.none,Zcu,.inl rfl⟩
  ·walk_at "z"
   exact⟨e0,e1,e2,_,e3,.inr ⟨G1,R1,rfl,hd1,ok1,sG1,sR1⟩⟩
 clear e0 e1 e2 e3 e4
 rintro σ3 ⟨e0,e1,e2,T0,e3,hT⟩
 obtain⟨Sh,F⟩:=ZwH hn hT
 have cp:=F.k
 clear hT
 walk_at "z"
 refine Zw cp ?_
 walk_at "z"
 refine Zw (Zbt (by decide) (by decide) (by decide)) ?_
 walk_at "z"
 refine⟨fun q=>?_,fun q=>?_⟩
 ·obtain⟨Cl,ec,c,bc,hC⟩:=Zx1 (n:=n) (x:=x) hL (by omega) bx
  walk_at "z"
  refine Zw ec ?_
  refine ZoI ?_
  refine Zxg (ts:=[.bool true,.bool false]) (P:=fun _ σ'=>σ' 3=some T0∧σ' 5=some T0∧σ' 6=some Cl) ?_ ⟨by walk_at "r",by walk_at "r",by walk_at "r"⟩ ?_ ?_
  ·walk_at "z"
   rfl
  ·rintro i t σ' ei ⟨f3,f5,f6⟩
   have:∃b,t=.bool b:=by
    match i,ei with
    | 0,ei=>cases ei;exact⟨_,rfl⟩
    | 1,ei=>cases ei;exact⟨_,rfl⟩
   obtain⟨b,rfl⟩:=this
   exact Zx2 (b:=b) (by omega) F bc hC (by walk_at "r") (by walk_at "r") (by walk_at "r") (by walk_at "r") fun σ'' g3 g5 g6=>⟨g3,g5,g6⟩
  ·rintro σ' ⟨f3,f5,f6⟩
   walk_at "z"
   rfl
 ·refine Zrm ?_
  exact ZwJ hL h0 hn bx F (by walk_at "r") (by walk_at "r") (by walk_at "r") (by walk_at "r") (by walk_at "r")
theorem Zt9(hlen:ns.length≤63)(hL:PyData.layable0 (.list (ns.map .int))=true): ∃H',ZqS [.ref 0] [ns.map V.int]=some (.bool true,H'):=Zvi Zwp ns (Zut hL)
end L
end
section
open PySem PySem.W PyProof.Rows
namespace PySem.W.Fast
theorem tw5105673956185107153:True:=⟨⟩
theorem tw16968176118458789586:True:=⟨⟩
theorem tw1454219785156648487:True:=⟨⟩
theorem tw9497945907656264259:True:=⟨⟩
theorem tw316514102143019080:True:=⟨⟩
theorem tw1176975735165151067:True:=⟨⟩
theorem tw9515242367644423802:True:=⟨⟩
theorem tw13698048360955963301:True:=⟨⟩
theorem tw3528903376305711396:True:=⟨⟩
theorem tw14442895186254868694:True:=⟨⟩
theorem tw550859730669387710:True:=⟨⟩
theorem tw4621932581444047675:True:=⟨⟩
theorem tw13402640891724300857:True:=⟨⟩
theorem tw14869557710840242666:True:=⟨⟩
theorem tw17643754061406199020:True:=⟨⟩
theorem tw1532905827683784112:True:=⟨⟩
theorem tw11187973929812520656:True:=⟨⟩
theorem tw4584130408075211490:True:=⟨⟩
theorem tw3018384756792678836:True:=⟨⟩
theorem tw3285859953031059425:True:=⟨⟩
theorem tw10667965978278278033:True:=⟨⟩
theorem tw15452572443179084588:True:=⟨⟩
theorem tw9156678896304099913:True:=⟨⟩
theorem tw15886500619415505586:True:=⟨⟩
theorem tw3520363519792060846:True:=⟨⟩
theorem tw1099786997935966427:True:=⟨⟩
theorem tw4419873286371483742:True:=⟨⟩
theorem tw4491058772748593153:True:=⟨⟩
theorem tw4135897612330176133:True:=⟨⟩
theorem tw13436231055378572716:True:=⟨⟩
theorem tw11930311979851757478:True:=⟨⟩
theorem tw5055051069096525434:True:=⟨⟩
theorem tw15221209806709932071:True:=⟨⟩
theorem tw12798869161161681673:True:=⟨⟩
theorem tw10209164474934016114:True:=⟨⟩
theorem tw9774394379856643515:True:=⟨⟩
theorem tw2257529940240947247:True:=⟨⟩
theorem tw5891177449180782854:True:=⟨⟩
theorem tw12533650973541477374:True:=⟨⟩
theorem tw9840342860782594374:True:=⟨⟩
theorem tw3101917741504857134:True:=⟨⟩
theorem tw4359589691058243886:True:=⟨⟩
theorem tw14048895322960730393:True:=⟨⟩
theorem tw16002967266952078866:True:=⟨⟩
theorem tw17704188385166749297:True:=⟨⟩
theorem tw7523194637212750777:True:=⟨⟩
theorem tw4361700775904427359:True:=⟨⟩
theorem tw7498633149979677338:True:=⟨⟩
theorem tw10299302589577801163:True:=⟨⟩
theorem tw9991952250452883065:True:=⟨⟩
theorem tw11902711398340702967:True:=⟨⟩
theorem tw18188441679654595828:True:=⟨⟩
theorem tw15515405784836723652:True:=⟨⟩
theorem tw9563574807059059695:True:=⟨⟩
theorem tw15348117752812372481:True:=⟨⟩
theorem tw9292651643026975300:True:=⟨⟩
theorem tw17624731456758155189:True:=⟨⟩
theorem tw11519117686961666697:True:=⟨⟩
theorem tw16932301668260661676:True:=⟨⟩
theorem tw4157206338815638501:True:=⟨⟩
theorem tw11630328935867623959:True:=⟨⟩
theorem tw5587826856885255690:True:=⟨⟩
theorem tw1349388230604553621:True:=⟨⟩
theorem tw6822529714786804032:True:=⟨⟩
theorem tw16915470645016011554:True:=⟨⟩
theorem tw16472409268878238316:True:=⟨⟩
theorem tw10700183255674453818:True:=⟨⟩
theorem tw8164005668110941744:True:=⟨⟩
theorem tw4961949625528378942:True:=⟨⟩
theorem tw3764688243253525356:True:=⟨⟩
theorem tw3139815972381352843:True:=⟨⟩
theorem tw13426244417702134072:True:=⟨⟩
theorem tw1462193419119380569:True:=⟨⟩
theorem tw5681066748535004433:True:=⟨⟩
theorem tw529536973988259948:True:=⟨⟩
theorem tw5958337225494893492:True:=⟨⟩
theorem tw1191315250883676292:True:=⟨⟩
theorem tw1906743188756502811:True:=⟨⟩
theorem tw7875376050956498882:True:=⟨⟩
theorem tw8426798971799828003:True:=⟨⟩
theorem tw10335527622381539264:True:=⟨⟩
theorem tw2215426274937266770:True:=⟨⟩
theorem tw14501001857826371202:True:=⟨⟩
theorem tw17925384258215065573:True:=⟨⟩
theorem tw4026151001005817321:True:=⟨⟩
theorem tw5030944203280556702:True:=⟨⟩
theorem tw13517250619966689955:True:=⟨⟩
theorem tw16539199913488330184:True:=⟨⟩
theorem tw9435018134839604537:True:=⟨⟩
theorem tw16131593051203169754:True:=⟨⟩
theorem tw8933567498414919238:True:=⟨⟩
theorem tw7492102371377302679:True:=⟨⟩
theorem tw5623994078177797194:True:=⟨⟩
theorem tw14191745827877185554:True:=⟨⟩
theorem tw5312734613080425828:True:=⟨⟩
theorem tw10155365746132046468:True:=⟨⟩
theorem tw16364373167927100580:True:=⟨⟩
theorem tw6548945272714408661:True:=⟨⟩
theorem tw14613296582639449008:True:=⟨⟩
theorem tw12018387782679925087:True:=⟨⟩
theorem tw16745343075639119971:True:=⟨⟩
theorem tw16749348522385944071:True:=⟨⟩
theorem tw10561106145012299093:True:=⟨⟩
theorem tw12027893231959348502:True:=⟨⟩
theorem tw12996339429388188178:True:=⟨⟩
theorem tw2283480497557504744:True:=⟨⟩
theorem tw69414778264802052:True:=⟨⟩
theorem tw16550838102048051623:True:=⟨⟩
theorem tw7537285074954141530:True:=⟨⟩
theorem tw7215932318001415403:True:=⟨⟩
theorem tw12300527617525357084:True:=⟨⟩
theorem tw6285040191614719466:True:=⟨⟩
theorem tw734138898119960010:True:=⟨⟩
theorem tw3172541193896328996:True:=⟨⟩
theorem tw4843473975253519250:True:=⟨⟩
theorem tw16172578528114110199:True:=⟨⟩
theorem tw6012122021747098740:True:=⟨⟩
theorem tw16459021049253542911:True:=⟨⟩
theorem tw3307598998989760257:True:=⟨⟩
theorem tw11309342325655673037:True:=⟨⟩
theorem tw1541540961381408409:True:=⟨⟩
theorem tw15248526436251307398:True:=⟨⟩
theorem tw8789256864460932259:True:=⟨⟩
theorem tw15622835117965313283:True:=⟨⟩
theorem tw5388663596951873645:True:=⟨⟩
theorem tw11849525312028181438:True:=⟨⟩
theorem tw10785849952161257653:True:=⟨⟩
theorem tw8018341471551460276:True:=⟨⟩
theorem tw569269584081339442:True:=⟨⟩
theorem tw15943592676296772274:True:=⟨⟩
theorem tw7317576523658780031:True:=⟨⟩
theorem tw16317983856663788926:True:=⟨⟩
theorem tw8621301723031713458:True:=⟨⟩
theorem tw10635065575864489283:True:=⟨⟩
theorem tw17312996333117680517:True:=⟨⟩
theorem tw4248988804066548162:True:=⟨⟩
theorem tw12068798485007620914:True:=⟨⟩
theorem tw7363425622247834253:True:=⟨⟩
theorem tw17287205074728517176:True:=⟨⟩
theorem tw12941643214049860704:True:=⟨⟩
theorem tw13056512690104125533:True:=⟨⟩
theorem tw11418939547134857076:True:=⟨⟩
theorem tw3638187344944282256:True:=⟨⟩
theorem tw3094701115853657799:True:=⟨⟩
theorem tw13197444509695450237:True:=⟨⟩
theorem tw1385777081429181588:True:=⟨⟩
theorem tw16279701975793424917:True:=⟨⟩
theorem tw4179031660912777645:True:=⟨⟩
theorem tw305048472116853797:True:=⟨⟩
theorem tw3857615796733700780:True:=⟨⟩
theorem tw15508019666092448443:True:=⟨⟩
theorem tw804092199982636349:True:=⟨⟩
theorem tw2944391684731814369:True:=⟨⟩
theorem tw13829591483307370896:True:=⟨⟩
theorem tw2133357390318303931:True:=⟨⟩
theorem tw17969941481158815411:True:=⟨⟩
theorem tw16469568281967520401:True:=⟨⟩
theorem tw15213048550514571353:True:=⟨⟩
theorem tw16525585646549488262:True:=⟨⟩
theorem tw17427895641331663283:True:=⟨⟩
theorem tw6459200953577825518:True:=⟨⟩
theorem tw4033379813872489195:True:=⟨⟩
theorem tw14712817762504950641:True:=⟨⟩
theorem tw8903238766108814736:True:=⟨⟩
theorem tw539595736760451978:True:=⟨⟩
theorem tw11622863634709415212:True:=⟨⟩
theorem tw11636702290074901078:True:=⟨⟩
theorem tw7610715734942229976:True:=⟨⟩
theorem tw17186741509365979835:True:=⟨⟩
theorem tw13478877428745155630:True:=⟨⟩
theorem tw1820406046763328738:True:=⟨⟩
theorem tw3103751414666246812:True:=⟨⟩
theorem tw6708892414054319099:True:=⟨⟩
theorem tw6807009207803952845:True:=⟨⟩
theorem tw15382044423783582273:True:=⟨⟩
theorem tw10097012582147076362:True:=⟨⟩
theorem tw1147522009701800784:True:=⟨⟩
theorem tw17721039672839981703:True:=⟨⟩
theorem tw112567504061534027:True:=⟨⟩
theorem tw9192171586001469603:True:=⟨⟩
theorem tw9359623039629485964:True:=⟨⟩
theorem tw14846608996346228861:True:=⟨⟩
theorem tw9455475090630465045:True:=⟨⟩
theorem tw8646929664414959583:True:=⟨⟩
theorem tw2766794811542550618:True:=⟨⟩
theorem tw17004574920194074796:True:=⟨⟩
theorem tw7825248364748044718:True:=⟨⟩
theorem tw358491328311820773:True:=⟨⟩
theorem tw1880258362356491002:True:=⟨⟩
theorem tw17845374550828520631:True:=⟨⟩
theorem tw17619882183920601743:True:=⟨⟩
theorem tw14439765378166140033:True:=⟨⟩
theorem tw8454840944936950519:True:=⟨⟩
theorem tw10752687858943698738:True:=⟨⟩
theorem tw9629638568524466495:True:=⟨⟩
theorem tw7470021291188754609:True:=⟨⟩
theorem tw16629561534657121264:True:=⟨⟩
theorem tw13884827974113296321:True:=⟨⟩
theorem tw7586693836618795562:True:=⟨⟩
theorem tw12059592832596718669:True:=⟨⟩
theorem tw5420646709462680085:True:=⟨⟩
theorem tw7249538410202319208:True:=⟨⟩
theorem tw16118103595353321548:True:=⟨⟩
theorem tw11712190458185945011:True:=⟨⟩
theorem tw10746989603658154836:True:=⟨⟩
theorem tw15210816241431372910:True:=⟨⟩
theorem tw11905978938385298303:True:=⟨⟩
theorem tw10762484250532422250:True:=⟨⟩
theorem tw13231743877010270464:True:=⟨⟩
theorem tw4733640183689119296:True:=⟨⟩
theorem tw15734334760007649912:True:=⟨⟩
theorem tw15069716523494295500:True:=⟨⟩
theorem tw14678158920106854735:True:=⟨⟩
theorem tw14790834132378566595:True:=⟨⟩
theorem tw8839083969933755074:True:=⟨⟩
theorem tw13148303815899264127:True:=⟨⟩
theorem tw5047655472420816975:True:=⟨⟩
theorem tw8369868683130302868:True:=⟨⟩
theorem tw802917404587063742:True:=⟨⟩
theorem tw5488966160659634681:True:=⟨⟩
theorem tw12221415409051222339:True:=⟨⟩
theorem tw9685044298169568939:True:=⟨⟩
theorem tw17714833071000019117:True:=⟨⟩
theorem tw15845117809764550140:True:=⟨⟩
theorem tw6664951462986138201:True:=⟨⟩
theorem tw12532165626772418067:True:=⟨⟩
theorem tw3241244739717862871:True:=⟨⟩
theorem tw11769617611247221923:True:=⟨⟩
theorem tw15679247252792206210:True:=⟨⟩
theorem tw8160871880118814707:True:=⟨⟩
theorem tw6951939212644042833:True:=⟨⟩
theorem tw9715166753854553471:True:=⟨⟩
theorem tw17100184641858439841:True:=⟨⟩
theorem tw5613845454599061817:True:=⟨⟩
theorem tw7160180452043601882:True:=⟨⟩
theorem tw14827384380277173613:True:=⟨⟩
theorem tw15431134087688302020:True:=⟨⟩
theorem tw9897558803702562313:True:=⟨⟩
theorem tw12978678129208030876:True:=⟨⟩
theorem tw8008005557923197168:True:=⟨⟩
theorem tw9508736203920968164:True:=⟨⟩
theorem tw10543178825980762907:True:=⟨⟩
theorem tw5759927347364260171:True:=⟨⟩
theorem tw7900839787485558254:True:=⟨⟩
theorem tw6585068141940680455:True:=⟨⟩
theorem tw11990459337992974956:True:=⟨⟩
theorem tw2315402971918999115:True:=⟨⟩
theorem tw6582134788679801411:True:=⟨⟩
theorem tw4952506757814975653:True:=⟨⟩
theorem tw5036445103931068615:True:=⟨⟩
theorem tw10780761586765376359:True:=⟨⟩
theorem tw11732214188671553305:True:=⟨⟩
theorem tw13792483299354683862:True:=⟨⟩
theorem tw6834397320308548248:True:=⟨⟩
theorem tw3482820431698744051:True:=⟨⟩
theorem tw6511239469406747073:True:=⟨⟩
theorem tw11002848052431835627:True:=⟨⟩
theorem tw4198713400997701141:True:=⟨⟩
theorem tw6737687440995333003:True:=⟨⟩
theorem tw11973505968982382900:True:=⟨⟩
theorem tw11289143093466461953:True:=⟨⟩
theorem tw2478928736998500339:True:=⟨⟩
theorem tw16919330064296535691:True:=⟨⟩
theorem tw8086373703447589959:True:=⟨⟩
theorem tw9516800180062724845:True:=⟨⟩
theorem tw1712973634487312807:True:=⟨⟩
theorem tw1948689806639624469:True:=⟨⟩
theorem tw2852278927748849453:True:=⟨⟩
theorem tw5427499738942290107:True:=⟨⟩
theorem tw425938344300624212:True:=⟨⟩
theorem tw10042499479572932358:True:=⟨⟩
theorem tw13305670439411429421:True:=⟨⟩
theorem tw14015890951069844909:True:=⟨⟩
theorem tw17996964024917085871:True:=⟨⟩
theorem tw7254989234349611870:True:=⟨⟩
theorem tw15726315211890062517:True:=⟨⟩
theorem tw3992908553847606798:True:=⟨⟩
theorem tw7042659310547366237:True:=⟨⟩
theorem tw10015853644003576960:True:=⟨⟩
theorem tw931956834028986255:True:=⟨⟩
theorem tw17857563459279650048:True:=⟨⟩
theorem tw4211952112222678748:True:=⟨⟩
theorem tw8864380892348041232:True:=⟨⟩
theorem tw1322031339247656150:True:=⟨⟩
theorem tw7388713464098733815:True:=⟨⟩
theorem tw12434779806091606683:True:=⟨⟩
theorem tw4268201051430804902:True:=⟨⟩
theorem tw14858129598448742980:True:=⟨⟩
theorem tw13218621648322568166:True:=⟨⟩
theorem tw14495299557687959983:True:=⟨⟩
theorem tw5353813085845620550:True:=⟨⟩
theorem tw5107255825281412738:True:=⟨⟩
theorem tw12184380411685104690:True:=⟨⟩
theorem tw4475145619620083286:True:=⟨⟩
theorem tw17019389589404088545:True:=⟨⟩
theorem tw6108208118871286908:True:=⟨⟩
theorem tw10693841506766600124:True:=⟨⟩
theorem tw15724745641170818534:True:=⟨⟩
theorem tw3555141088238359772:True:=⟨⟩
theorem tw5485572742587201778:True:=⟨⟩
theorem tw11081772624950168284:True:=⟨⟩
theorem tw17093224777342109595:True:=⟨⟩
theorem tw13419329186978087958:True:=⟨⟩
theorem tw8237626310708396552:True:=⟨⟩
theorem tw4211700434839312001:True:=⟨⟩
theorem tw9585978970863474492:True:=⟨⟩
theorem tw4982327473614321822:True:=⟨⟩
theorem tw4674102799890499726:True:=⟨⟩
theorem tw14207915657524821833:True:=⟨⟩
theorem tw17974404532321089622:True:=⟨⟩
theorem tw9218752888244210615:True:=⟨⟩
theorem tw5552461122284547459:True:=⟨⟩
theorem tw15862806813707239167:True:=⟨⟩
theorem tw6315216371427503177:True:=⟨⟩
theorem tw5260856337621036202:True:=⟨⟩
theorem tw17545862747986772839:True:=⟨⟩
theorem tw6390373612929051886:True:=⟨⟩
theorem tw7877236402650122457:True:=⟨⟩
theorem tw1611551182742943237:True:=⟨⟩
theorem tw14199714164133228370:True:=⟨⟩
theorem tw14805814515597417852:True:=⟨⟩
theorem tw726985913927333873:True:=⟨⟩
theorem tw15718574390098580149:True:=⟨⟩
theorem tw2385268686561707046:True:=⟨⟩
theorem tw2335157872551914648:True:=⟨⟩
theorem tw11717690317537128808:True:=⟨⟩
theorem tw15137687247720179910:True:=⟨⟩
theorem tw8605165415444627158:True:=⟨⟩
theorem tw13553050674002434610:True:=⟨⟩
theorem tw1840282097412291383:True:=⟨⟩
theorem tw14987661418082201831:True:=⟨⟩
theorem tw7097827964152542560:True:=⟨⟩
theorem tw1722802803701587481:True:=⟨⟩
theorem tw15632992782082381434:True:=⟨⟩
theorem tw2754692670688779762:True:=⟨⟩
theorem tw2923001932562327482:True:=⟨⟩
theorem tw5426448371682200115:True:=⟨⟩
theorem tw5661640270340304354:True:=⟨⟩
theorem tw17094580856887593759:True:=⟨⟩
theorem tw3904583755211930517:True:=⟨⟩
theorem tw14788362278542820120:True:=⟨⟩
theorem tw14124935244785052151:True:=⟨⟩
theorem tw2648174423076098445:True:=⟨⟩
theorem tw5266450434754204200:True:=⟨⟩
theorem tw10069975712529536831:True:=⟨⟩
theorem tw7317234293075219:True:=⟨⟩
theorem tw4425046354534653865:True:=⟨⟩
theorem tw14722794537435163219:True:=⟨⟩
theorem tw11069628954808310989:True:=⟨⟩
theorem tw2912592304959361012:True:=⟨⟩
theorem tw2337977823195543630:True:=⟨⟩
theorem tw7942853410682446962:True:=⟨⟩
theorem tw17698735102306075112:True:=⟨⟩
theorem tw317932667124481529:True:=⟨⟩
theorem tw15078095837771203109:True:=⟨⟩
theorem tw11118301316682269745:True:=⟨⟩
theorem tw16186510892431351131:True:=⟨⟩
theorem tw16089337674562769748:True:=⟨⟩
theorem tw4227517698962585424:True:=⟨⟩
theorem tw14749253800190834908:True:=⟨⟩
theorem tw9466130334346563993:True:=⟨⟩
theorem tw11763852733077360975:True:=⟨⟩
theorem tw8526028360262338249:True:=⟨⟩
theorem tw10052001805573714066:True:=⟨⟩
theorem tw17398146341500462573:True:=⟨⟩
theorem tw1877378965866140348:True:=⟨⟩
theorem tw306725001281121169:True:=⟨⟩
theorem tw17882641709403210578:True:=⟨⟩
theorem tw12694589447371642155:True:=⟨⟩
theorem tw4153491320931672185:True:=⟨⟩
theorem tw15545184769064153574:True:=⟨⟩
theorem tw7979783701870024959:True:=⟨⟩
theorem tw16396790404030501481:True:=⟨⟩
theorem tw12067549021546063074:True:=⟨⟩
theorem tw15755044616229629136:True:=⟨⟩
theorem tw1647960591809683682:True:=⟨⟩
theorem tw17878424488110687958:True:=⟨⟩
theorem tw5835942142707902020:True:=⟨⟩
theorem tw4185518321428705831:True:=⟨⟩
theorem tw10015450608781386451:True:=⟨⟩
theorem tw3345597093286824917:True:=⟨⟩
theorem tw5680315236850328200:True:=⟨⟩
theorem tw8174591469460913490:True:=⟨⟩
theorem tw11786325122171474085:True:=⟨⟩
theorem tw1349615225243010270:True:=⟨⟩
theorem tw15223397061033166810:True:=⟨⟩
theorem tw7343611390307366373:True:=⟨⟩
theorem tw4543556514994620149:True:=⟨⟩
theorem tw7089793799200125183:True:=⟨⟩
theorem tw5916140570258018564:True:=⟨⟩
theorem tw18208996565591813656:True:=⟨⟩
theorem tw14323227155912201964:True:=⟨⟩
theorem tw3121739546393284973:True:=⟨⟩
theorem tw14734032772098568817:True:=⟨⟩
theorem tw12815670308626618822:True:=⟨⟩
theorem tw8553059368797141306:True:=⟨⟩
theorem tw14900259974334564751:True:=⟨⟩
theorem tw2962324470309885386:True:=⟨⟩
theorem tw16266442582153907279:True:=⟨⟩
theorem tw2747774915501398362:True:=⟨⟩
theorem tw11320351676317602388:True:=⟨⟩
theorem tw7020395562169822392:True:=⟨⟩
theorem tw6793172497655745189:True:=⟨⟩
theorem tw6905212232875527693:True:=⟨⟩
theorem tw13952158723898717365:True:=⟨⟩
theorem tw18012574323051992567:True:=⟨⟩
theorem tw5310652868755799522:True:=⟨⟩
theorem tw10378583025934500588:True:=⟨⟩
theorem tw7524379617451308511:True:=⟨⟩
theorem tw18167724695441219349:True:=⟨⟩
theorem tw12392129776423771058:True:=⟨⟩
theorem tw4968929673044707356:True:=⟨⟩
theorem tw13887902116395311400:True:=⟨⟩
theorem tw12712400820596877648:True:=⟨⟩
theorem tw1391549112126926301:True:=⟨⟩
theorem tw10846345724684618374:True:=⟨⟩
theorem tw3934833063311361131:True:=⟨⟩
theorem tw7076977106511060911:True:=⟨⟩
theorem tw274189353798237994:True:=⟨⟩
theorem tw16655083059833703075:True:=⟨⟩
theorem tw3664731896753646195:True:=⟨⟩
theorem tw14029171239946634462:True:=⟨⟩
theorem tw8891557043749499067:True:=⟨⟩
theorem tw6999419289813526679:True:=⟨⟩
theorem tw4340971767527515617:True:=⟨⟩
theorem tw10497823618577955822:True:=⟨⟩
theorem tw13508602156133886167:True:=⟨⟩
theorem tw897888412878121761:True:=⟨⟩
theorem tw14279065940840616024:True:=⟨⟩
theorem tw10131873952172028942:True:=⟨⟩
theorem tw1267704075650749254:True:=⟨⟩
theorem tw7950223703418521501:True:=⟨⟩
theorem tw16463793508043411602:True:=⟨⟩
theorem tw5587484289544270231:True:=⟨⟩
theorem tw12356241338228022558:True:=⟨⟩
theorem tw8131721106225051767:True:=⟨⟩
theorem tw3808584094389355786:True:=⟨⟩
theorem tw15261137711255440680:True:=⟨⟩
theorem tw10800367221633172730:True:=⟨⟩
theorem tw10134030333460990790:True:=⟨⟩
theorem tw4177351759533223642:True:=⟨⟩
theorem tw2202087279664922802:True:=⟨⟩
theorem tw3471986238504059686:True:=⟨⟩
theorem tw16925118299729312639:True:=⟨⟩
theorem tw4799189423077775474:True:=⟨⟩
theorem tw16699019767340423185:True:=⟨⟩
theorem tw16034362830870596112:True:=⟨⟩
theorem tw17084317755948004794:True:=⟨⟩
theorem tw5363195699714531557:True:=⟨⟩
theorem tw1567247161763788871:True:=⟨⟩
theorem tw18182889222666715495:True:=⟨⟩
theorem tw7894344252036594922:True:=⟨⟩
theorem tw8060744490709563079:True:=⟨⟩
theorem tw11224361182253327997:True:=⟨⟩
theorem tw4188684199736651882:True:=⟨⟩
theorem tw1826987945724244988:True:=⟨⟩
theorem tw15739735347585871426:True:=⟨⟩
theorem tw17338234738716814015:True:=⟨⟩
theorem tw12325562205625792791:True:=⟨⟩
theorem tw704147369595269066:True:=⟨⟩
theorem tw6623812351622530092:True:=⟨⟩
theorem tw1998032249293215463:True:=⟨⟩
theorem tw9161490523856799436:True:=⟨⟩
theorem tw6760056911573607715:True:=⟨⟩
theorem tw7618804249908900691:True:=⟨⟩
theorem tw11300376045408061371:True:=⟨⟩
theorem tw12011070553636201877:True:=⟨⟩
theorem tw3369663099759083609:True:=⟨⟩
theorem tw18277388166739348960:True:=⟨⟩
theorem tw3133745999044795564:True:=⟨⟩
theorem tw9751423446361702133:True:=⟨⟩
theorem tw1061639710858884176:True:=⟨⟩
theorem tw671769174312181376:True:=⟨⟩
theorem tw17570062618377817894:True:=⟨⟩
theorem tw10232147439284725336:True:=⟨⟩
theorem tw670427922429333600:True:=⟨⟩
theorem tw3083371992184736890:True:=⟨⟩
theorem tw7395645310213146516:True:=⟨⟩
theorem tw6252695792229605141:True:=⟨⟩
theorem tw714049069090440106:True:=⟨⟩
theorem tw12487779173672901959:True:=⟨⟩
theorem tw10393078302967963895:True:=⟨⟩
theorem tw6205024481829086969:True:=⟨⟩
theorem tw16884622931589843948:True:=⟨⟩
theorem tw5015507407206683207:True:=⟨⟩
theorem tw8621336744817483243:True:=⟨⟩
theorem tw16408362238061914836:True:=⟨⟩
theorem tw10412780308102683651:True:=⟨⟩
theorem tw14064692534454641163:True:=⟨⟩
theorem tw15155859288707382567:True:=⟨⟩
theorem tw5425125011635884837:True:=⟨⟩
theorem tw11347631108264317165:True:=⟨⟩
theorem tw8886442042033028919:True:=⟨⟩
theorem tw10728712052571211117:True:=⟨⟩
theorem tw5805183375971660199:True:=⟨⟩
theorem tw17590088832654516399:True:=⟨⟩
theorem tw4842887358765978389:True:=⟨⟩
theorem tw6606014719576569030:True:=⟨⟩
theorem tw8396962428940809896:True:=⟨⟩
theorem tw6999941293234460784:True:=⟨⟩
theorem tw17179431292420308709:True:=⟨⟩
theorem tw10241233070082051121:True:=⟨⟩
theorem tw17960406059949683352:True:=⟨⟩
theorem tw3321576952164483024:True:=⟨⟩
theorem tw14112606434462084385:True:=⟨⟩
theorem tw14593252181223967585:True:=⟨⟩
theorem tw1173414789623836638:True:=⟨⟩
theorem tw3488647797146898431:True:=⟨⟩
theorem tw3903891618737965568:True:=⟨⟩
theorem tw12319047049370110589:True:=⟨⟩
theorem tw7158441374720773216:True:=⟨⟩
theorem tw7834740603555865465:True:=⟨⟩
theorem tw16286715671046524454:True:=⟨⟩
theorem tw133755455108545178:True:=⟨⟩
theorem tw6788773261714906821:True:=⟨⟩
theorem tw7945405709010385892:True:=⟨⟩
theorem tw12694112234171929671:True:=⟨⟩
theorem tw6147076586173037292:True:=⟨⟩
theorem tw7717702957765121957:True:=⟨⟩
theorem tw13350131943787299761:True:=⟨⟩
theorem tw1354003750591732747:True:=⟨⟩
theorem tw14731147920152588799:True:=⟨⟩
theorem tw11887224372650548316:True:=⟨⟩
theorem tw8078195926588453703:True:=⟨⟩
theorem tw2730965030003752832:True:=⟨⟩
theorem tw3822784309164373692:True:=⟨⟩
theorem tw5674458297940323589:True:=⟨⟩
theorem tw11269825475406603969:True:=⟨⟩
theorem tw5011889884212318148:True:=⟨⟩
theorem tw10184835648761350555:True:=⟨⟩
theorem tw11970942820725077907:True:=⟨⟩
theorem tw16717272659965454103:True:=⟨⟩
theorem tw14245618210516037357:True:=⟨⟩
theorem tw6381902497316938245:True:=⟨⟩
theorem tw6784790241324674965:True:=⟨⟩
theorem tw2456577590951144490:True:=⟨⟩
theorem tw8697654515486363317:True:=⟨⟩
theorem tw12661032092557703082:True:=⟨⟩
theorem tw4636031889025220839:True:=⟨⟩
theorem tw12737541344736672974:True:=⟨⟩
theorem tw16607927582987124570:True:=⟨⟩
theorem tw13949155002146243131:True:=⟨⟩
theorem tw16970792351503237766:True:=⟨⟩
theorem tw14949513074056673275:True:=⟨⟩
theorem tw13708279966662545973:True:=⟨⟩
theorem tw1620389302784492585:True:=⟨⟩
theorem tw10149639745659574222:True:=⟨⟩
theorem tw13323373534744806615:True:=⟨⟩
theorem tw15854262060937163188:True:=⟨⟩
theorem tw1096354831752916523:True:=⟨⟩
theorem tw7910172739516966087:True:=⟨⟩
theorem tw17802128708061929859:True:=⟨⟩
theorem tw9835382159548102362:True:=⟨⟩
theorem tw19751972998642308:True:=⟨⟩
theorem tw14650769484350525481:True:=⟨⟩
theorem tw18042889414512086050:True:=⟨⟩
theorem tw1833547357909804662:True:=⟨⟩
theorem tw3016012700857477809:True:=⟨⟩
theorem tw3942624392001961204:True:=⟨⟩
theorem tw3259544426188881078:True:=⟨⟩
theorem tw6728313399510405491:True:=⟨⟩
theorem tw11526203479690249398:True:=⟨⟩
theorem tw6662249597110656733:True:=⟨⟩
theorem tw11654023200298843171:True:=⟨⟩
theorem tw16803143847538834185:True:=⟨⟩
theorem tw15536387163757344236:True:=⟨⟩
theorem tw17108046237660401759:True:=⟨⟩
theorem tw16504757533647375273:True:=⟨⟩
end PySem.W.Fast
set_option maxRecDepth 100000 in
set_option maxHeartbeats 8000000 in
open_top head for PySem.Challenge.rw_seer_k55_claims_and_calls
end
section
open PySem PySem.W PySem.Calls PyProof.Rows PM
seal PM.J PM.Js PM.JT PM.JA PM.JF PM.JI PM.JI2 PM.JP PM.S1 PM.Ss PM.Sto PM.Rd PM.Nm PM.OpN PM.Op2 PM.Def
namespace L
noncomputable abbrev DD(w:World)(s₀:Shared)(mg mb:Str→Option Value)(f:Addr)(r:Nat)(F:List V→Hp→Option (V×Hp)): Prop:=Def PySem.Challenge.rw_seer_k55_claims_and_calls.row.prog w (head.heap_39 w.params) head.view_39 (looseW head.view_39 []) (ExcName.means s₀.heap) mg mb f r F
section
variable {w:World} {s₀:Shared} {mg mb:Str→Option Value}
theorem ZpV: DD w s₀ mg mb 528 1 Zii:=by
 unfold DD;k_fill
 refine Dof (names:=["_law_script","_law_k","_law_number_here"]) (g:=ZlR) ?_
 exact fun _ _ _ _ _ _ _ c _ _=>(Zx (ZX sL (ZJ (ZJ (ZJ vL vL Zbu) jI Zbu) jI Zaj)) (Zx (Z3 (ZV (ZaC (nB c) (jc vL Zp) ZaZ) jI Zfh) (Zy (ZX sL (ZJ vL (ZA vL (ZJ vL (ZaC (nB c) (jc vL Zp) ZaZ) ZaV)) Zaj))) Z7) (Zy (ZI vL))))
theorem law_pick_d: DD w s₀ mg mb 535 2 Za9:=by
 unfold DD;k_fill
 refine Dof (names:=["_law_script","_law_k","_law_many"]) (g:=Zms) ?_
 exact fun _ _ _ _ _ _ _ c _ _=>(Zy (ZI (ZJ (ZJ (ZJ (cF c ZpV (jc vL (jc vL Zp))) jI Zbu) jI ZaV) vL ZaV)))
theorem ZgC: DD w s₀ mg mb 542 2 ZeJ:=by
 unfold DD;k_fill
 refine Dof (names:=["_law_script","_law_k","_law_number_here","_law_reach"]) (g:=Zlu) ?_
 exact fun _ _ _ _ _ _ _ c _ _=>(Zx (ZX sL (cF c ZpV (jc vL (jc vL Zp)))) (Zx (ZX sL (ZA (J.list (jc jI (jc jI (jc (ZJ jI jI ZoD) (jc (ZJ jI jI ZoD) Zp))))) (ZJ (ZJ (ZJ vL jI Zbu) jI ZaV) jI ZaV))) (Zy (ZI (ZJ (ZJ (ZJ vL (ZJ jI jI ZoD) Zbu) (ZJ (ZJ jI vL Zbu) jI Zaj) ZaV) vL ZbC)))))
theorem Zuu: DD w s₀ mg mb 549 3 ZlU:=by
 unfold DD;k_fill
 refine Dof (names:=["_law_script","_law_k","_law_way"]) (g:=ZlT) ?_
 exact fun _ _ _ _ _ _ _ c _ _=>(Zx (ZX sL (cF c law_pick_d (jc vL (jc vL (jc jI Zp))))) (Zx (Z3 (ZV (ZJ vL jI ZaV) jI Zc5) (Zy (ZI jN)) Z7) (Zx (Z3 (ZV (ZJ vL jI ZaV) jI Zc5) (Zy (ZI jI)) Z7) (Zx (Z3 (ZV (ZJ vL jI ZaV) jI Zaw) (Zy (ZI (ZJ vL jI ZdB))) Z7) (Zy (ZI (ZaC (nB c) (jc (cF c ZgC (jc vL (jc vL Zp))) Zp) Zf7)))))))
theorem Zlt: DD w s₀ mg mb 556 1 Zgt:=by
 unfold DD;k_fill
 refine Dof (names:=["_law_m","_law_r"]) (g:=Zk0) ?_
 exact fun _ _ _ _ _ _ _ c _ _=>(Zx (Z3 (ZV vL jI Zaw) (Zy (ZI (J.tup (jc jI (jc vL Zp))))) Z7) (Zy (ZI (J.tup (jc vL (jc (ZJ vL vL ZaV) Zp))))))
theorem Zu3: DD w s₀ mg mb 563 3 Zmv:=by
 unfold DD;k_fill
 refine Dof (names:=["_law_script","_law_k","_law_number_here","_law_way"]) (g:=Zmu) ?_
 exact fun _ _ _ _ _ _ _ c _ _=>(Zx (ZX sL (cF c law_pick_d (jc vL (jc vL (jc jI Zp))))) (Zx (Z3 (ZV (ZJ vL jI ZaV) jI Zc5) (Zy (ZI (J.tup (jc jI (jc jI Zp))))) Z7) (Zx (Z3 (ZV (ZJ vL jI ZaV) jI Zaw) (Zy (ZI (J.tup (jc jI (jc vL Zp))))) Z7) (Zx (Z3 (ZV (ZJ vL jI ZaV) jI Zaw) (Zy (ZI (cF c Zlt (jc (ZJ (ZJ vL jI ZdB) jI Zaj) (jc vL Zp))))) Z7) (Zy (ZI (cF c Zlt (jc (ZaC (nB c) (jc (cF c ZgC (jc vL (jc vL Zp))) Zp) Zf7) (jc vL Zp)))))))))
theorem Zqj: DD w s₀ mg mb 568 4 ZiA:=by
 unfold DD;k_fill
 refine Dof (names:=["_law_script","_law_k","_law_boxes","_law_full","_law_size","_law_bounds","_law_i","_law_row","_law_j","_law_top"]) (g:=Zmx) ?_
 exact fun _ _ _ _ _ _ _ c _ _=>(Zx (ZX sL (ZJ (J.list (jc jI Zp)) vC Zaj)) (Zx (ZX sC (ZaC (nB c) (jc vL Zp) ZaZ)) (Zx (ZX sL (J.list Zp)) (Zx (ZcT sL (JI.range (nB c) (jc vC Zp)) (Zx (ZX sL (J.list Zp)) (Zx (ZcT sL (JI.range (nB c) (jc vC Zp)) (Zx (ZX sL (cF c Zuu (jc vC (jc (ZJ (ZJ vC (ZJ vL vC Zbu) Zaj) vL Zaj) Zp)))) (Zx (Z3 (ZV vL jN Zdw) (Zy (ZX sL (ZJ (ZJ (ZA vL vL) (ZA vL vL) ZbC) vL Zaj))) Z7) (Zy (Zdi (J.append vL vL)))))) (Zx (S1.put jI vL vL) (Zy (Zdi (J.append vL vL))))))) (Zy (ZI (J.tup (jc vL (jc (by refine cO ?_ ?_ ?_;(exact(JI.range (nB c) (jc (ZJ vC jI ZbC) Zp)));(exact fun _ _=>(cF (ZbA c) Zu3 (jc vD (jc (ZJ (ZJ vD (ZJ vD vD Zbu) Zaj) vO Zaj) (jc (ZA vD vO) Zp)))));(exact fun _ _=>JF.nil)) Zp)))))))))
theorem Zu4: DD w s₀ mg mb 573 1 ZmA:=by
 unfold DD;k_fill
 refine Dof (names:=["_law_told_here"]) (g:=Zmz) ?_
 exact fun _ _ _ _ _ _ _ c _ _=>(Zx (Z3 (ZV vL jN Zbv) (Zy (ZI jN)) Z7) (Zy (ZI (J.tup (jc (by refine cO ?_ ?_ ?_;(exact(JI.seq (ZA vL jI)));(exact fun _ _=>(ZfX (nB (ZbA c)) (jc vO Zp) Zg6));(exact fun _ _=>JF.nil)) (jc (ZfX (nB c) (jc (ZA vL jI) Zp) Zg6) Zp))))))
theorem ZkM: DD w s₀ mg mb 632 5 Zgr:=by
 unfold DD;k_fill
 refine Dof (names:=["_law_script","_law_at","_law_some","_law_found","_law_f","_law_answer"]) (g:=ZkG) ?_
 exact fun _ _ _ _ _ _ _ c _ _=>(Zx (ZX sL (J.list Zp)) (Zx (ZcT sL (JI.range (nB c) (jc jI Zp)) (Zx (ZX sL (cF c law_pick_d (jc vL (jc (ZJ jI vL Zaj) (jc jI Zp))))) (Zx (Zdi (J.append vL (cF c Zqj (jc vL (jc jI (jc (ZJ vL (J.list (jc vL Zp)) Zaj) Zp)))))) (Zy (Z3 (Zbg (ZaR (Zbg (ZbF (ZV vL vL ZcE) (ZbF (ZV vL jI Zc5) Zdv))) (ZaR (ZV vL jI Zaw) Zcv))) (Zy (S1.put jN vL vL)) Z7))))) (Zy (ZI vL))))
theorem ZpB: DD w s₀ mg mb 313 1 Zfv:=by
 unfold DD;k_fill
 refine Dof (names:=["rests"]) (g:=Zk9) ?_
 exact fun _ _ _ _ _ _ _ c _ _=>(Zy (ZI (ZJ (J.list (jc (J.tup (jc jI (jc jI Zp))) Zp)) vL Zaj)))
theorem Zi5: DD w s₀ mg mb 162 1 ZfQ:=by
 unfold DD;k_fill
 refine Dof (names:=["one","other","left","right","over"]) (g:=Zne) ?_
 exact fun _ _ _ _ _ _ _ c _ _=>(Zx (ZX sL (ZaC (nB c) (jc vL Zp) Zf7)) (Zx (ZX sL (ZaC (nB c) (jc vL Zp) Zf7)) (Zx (ZqI 1000000 (ZV vL jI ZcE) (Zx (ZX sL (ZJ vL vL ZaV)) (Zx (ZX sL vL) (Zy (ZX sL vL))))) (Zy (ZI vL)))))
theorem Zge: DD w s₀ mg mb 176 1 Zeu:=by
 unfold DD;k_fill
 refine Dof (names:=["m","r"]) (g:=ZoN) ?_
 exact fun _ _ _ _ _ _ _ c _ _=>(Zx (Z3 (ZV vL jI Zc5) (Zy (Zzq)) Z7) (Zx (Z3 (ZV vL jI Zaw) (Zy (ZI (J.tup (jc jI (jc vL Zp))))) Z7) (Zy (ZI (J.tup (jc vL (jc (ZJ vL vL ZaV) Zp)))))))
theorem ZvM: DD w s₀ mg mb 169 1 Znh:=by
 unfold DD;k_fill
 refine Dof (names:=["one","by","left","right","left_turns","right_turns","part","over","over_turns"]) (g:=Zng) ?_
 exact fun _ _ _ _ _ _ _ c _ _=>(Zx (ZX sL (ZJ vL vL ZaV)) (Zx (ZX sL vL) (Zx (ZX sL jI) (Zx (ZX sL jI) (Zx (ZqI 1000000 (ZV vL jI ZcE) (Zx (ZX sL (ZJ vL vL ZdB)) (Zx (ZX sL (ZJ vL (ZJ vL vL Zbu) ZbC)) (Zx (ZX sL (ZJ vL (ZJ vL vL Zbu) ZbC)) (Zx (ZX sL vL) (Zx (ZX sL vL) (Zx (ZX sL vL) (Zy (ZX sL vL))))))))) (Zy (ZI (ZJ vL vL ZaV))))))))
theorem ZgR: DD w s₀ mg mb 183 1 ZeS:=by
 unfold DD;k_fill
 refine Dof (names:=["one","number"]) (g:=ZmB) ?_
 exact fun _ _ _ _ _ _ _ c _ _=>(Zx (Z3 (ZV (ZA vL jI) jI Zaw) (Zy (ZI (Zcq vL (ZA vL jI) Zaw))) Z7) (Zy (ZI (Zcq (ZJ vL (ZA vL jI) ZaV) (ZA vL jI) Zaw))))
theorem Zm9: DD w s₀ mg mb 197 2 ZgM:=by
 unfold DD;k_fill
 refine Dof (names:=["one","other","common","apart","width","turns"]) (g:=ZmD) ?_
 exact fun _ _ _ _ _ _ _ c _ _=>(Zx (Z3 (ZV (ZA vL jI) jI Zaw) (Zy (ZI (Zey (Zbb (cF c ZgR (jc vL (jc (ZA vL jI) Zp)))) vL jN))) Z7) (Zx (Z3 (ZV (ZA vL jI) jI Zaw) (Zy (ZI (Zey (Zbb (cF c ZgR (jc vL (jc (ZA vL jI) Zp)))) vL jN))) Z7) (Zx (ZX sL (cF c Zi5 (jc (ZA vL jI) (jc (ZA vL jI) Zp)))) (Zx (ZX sL (ZJ (ZA vL jI) (ZA vL jI) ZbC)) (Zx (Z3 (ZV (ZJ vL vL ZaV) jI ZcE) (Zy (ZI jN)) Z7) (Zx (ZX sL (ZJ (ZA vL jI) vL ZdB)) (Zx (ZX sL (ZJ (ZJ vL vL ZdB) (cF c ZvM (jc (ZJ (ZA vL jI) vL ZdB) (jc vL Zp))) Zbu)) (Zy (ZI (cF c Zge (jc (ZJ (ZA vL jI) vL Zbu) (jc (ZJ (ZA vL jI) (ZJ (ZA vL jI) vL Zbu) Zaj) Zp))))))))))))
theorem ZfM: DD w s₀ mg mb 72 1 Zeh:=by
 unfold DD;k_fill
 refine Dof (names:=["one","other"]) (g:=ZmG) ?_
 exact fun _ _ _ _ _ _ _ c _ _=>(Zx (Z3 (Zbg (ZaR (ZV vL jN Zbv) (ZaR (ZV vL jN Zbv) Zcv))) (Zy (ZI jN)) Z7) (Zy (ZI (ZJ vL vL Zaj))))
theorem Zmo: DD w s₀ mg mb 204 2 ZgF:=by
 unfold DD;k_fill
 refine Dof (names:=["one","other"]) (g:=ZlY) ?_
 exact fun _ _ _ _ _ _ _ c _ _=>(Zy (ZI (cF c Zge (jc (cF c Zi5 (jc (ZA vL jI) (jc (ZA vL jI) Zp))) (jc (ZJ (ZA vL jI) (ZA vL jI) Zaj) Zp)))))
theorem Ztt: DD w s₀ mg mb 320 3 Zgs:=by
 unfold DD;k_fill
 refine Dof (names:=["bounds","rests","i","met","j","other"]) (g:=ZkT) ?_
 exact fun _ _ _ _ _ _ _ c _ _=>(Zx (ZX sL (ZA vL vL)) (Zx (Ze6 sL sL (Zwd (nB c) vL) (Zy (Z3 (Zbg (ZbF (ZV vL jN Zdw) (ZbF (ZV (cF c ZfM (jc (ZA (ZA vL vL) vL) (jc (ZA (ZA vL vL) vL) Zp))) jI Zaw) Zdv))) (Zy (ZX sL (cF c Zm9 (jc vL (jc (cF c Zmo (jc vL (jc (J.tup (jc jI (jc (ZA (ZA vL vL) vL) Zp))) Zp))) Zp))))) Z7))) (Zy (ZI vL))))
theorem ZtL: DD w s₀ mg mb 306 4 Zec:=by
 unfold DD;k_fill
 refine Dof (names:=["told","rests","met"]) (g:=Zgu) ?_
 exact fun _ _ _ _ _ _ _ c _ _=>(Zx (Z3 (ZV vC jN Zbv) (Zy (ZI jN)) Z7) (Zx (ZX sC (cF c ZpB (jc (ZA vC jI) Zp))) (Zx (by refine sO sL ?_ ?_ ?_;(exact(JI.range (nB c) (jc jI (jc (ZaC (nB c) (jc vC Zp) ZaZ) Zp))));(exact fun _ _=>(cF (ZbA c) Ztt (jc (ZA vD jI) (jc vD (jc vO Zp)))));(exact fun _ _=>JF.nil)) (Zx (Z3 (ZV jN vL ZhH) (Zy (ZI jN)) Z7) (Zy (ZI (J.tup (jc (ZA vC jI) (jc vL Zp)))))))))
theorem ZpW: DD w s₀ mg mb 114 1 Zik:=by
 unfold DD;k_fill
 refine Dof (names:=["one","other"]) (g:=ZlW) ?_
 exact fun _ _ _ _ _ _ _ c _ _=>(Zy (ZI (ZzH (Zcq vL jN Zbv) (Zgg (Zcq vL jN Zdw) (Zcq vL vL Zo1)))))
theorem Zre: DD w s₀ mg mb 121 2 Zi6:=by
 unfold DD;k_fill
 refine Dof (names:=["one","other"]) (g:=ZnQ) ?_
 exact fun _ _ _ _ _ _ _ c _ _=>(Zy (ZI (Zey (Zbb (cF c ZpW (jc vL (jc vL Zp)))) vL vL)))
theorem Ztb: DD w s₀ mg mb 150 3 Zko:=by
 unfold DD;k_fill
 refine Dof (names:=["row","there","further"]) (g:=Zkn) ?_
 exact fun _ _ _ _ _ _ _ c _ _=>(Zy (ZI (by refine cT ?_ ?_;(exact(JI2.zip (nB c) vL vL));(exact fun _ _=>(cF (ZbA c) Zre (jc vO (jc (cF (ZbA c) ZfM (jc vD (jc vO Zp))) Zp)))))))
theorem Zuv: DD w s₀ mg mb 145 4 Zl2:=by
 unfold DD;k_fill
 refine Dof (names:=["bounds","mid"]) (g:=Zl1) ?_
 exact fun _ _ _ _ _ _ _ c _ _=>(Zy (ZI (by refine cO ?_ ?_ ?_;(exact(JI.seq vC));(exact fun _ _=>(cF (ZbA c) Ztb (jc vO (jc (ZA vO vD) (jc (ZA vD vD) Zp)))));(exact fun _ _=>JF.nil))))
theorem Ztu: DD w s₀ mg mb 155 1 ZkO:=by
 unfold DD;k_fill
 refine Dof (names:=["bounds"]) (g:=ZkN) ?_
 exact fun _ _ _ _ _ _ _ c _ _=>(Zy (ZI (ZaC (nB c) (jc (by refine cO ?_ ?_ ?_;(exact(JI.range (nB c) (jc (ZaC (nB c) (jc vC Zp) ZaZ) Zp)));(exact fun _ _=>(Zcq (ZA (ZA vD vO) vO) jI Zc5));(exact fun _ _=>JF.nil)) Zp) Zx9)))
theorem ZwK: DD w s₀ mg mb 140 5 ZfV:=by
 unfold DD;k_fill
 refine Dof (names:=["bounds","near","mid"]) (g:=ZnS) ?_
 exact fun _ _ _ _ _ _ _ c _ _=>(Zx (ZX sL vL) (Zx (ZcT sL (JI.range (nB c) (jc (ZaC (nB c) (jc vL Zp) ZaZ) Zp)) (Zx (ZX sL (cF c Zuv (jc vL (jc vL Zp)))) (Zy (Z3 (Zbb (cF c Ztu (jc vL Zp))) (Zy (ZI jN)) Z7)))) (Zy (ZI vL))))
theorem Zy9: DD w s₀ mg mb 301 6 Zev:=by
 unfold DD;k_fill
 refine Dof (names:=["told","bounds"]) (g:=ZjO) ?_
 exact fun _ _ _ _ _ _ _ c _ _=>(Zx (Z3 (ZV vL jN Zbv) (Zy (ZI jN)) Z7) (Zx (ZX sL (cF c ZwK (jc (ZA vL jI) Zp))) (Zx (Z3 (ZV vL jN Zbv) (Zy (ZI jN)) Z7) (Zy (ZI (J.tup (jc vL (jc (ZA vL jI) Zp))))))))
theorem Zsx: DD w s₀ mg mb 294 7 Zgc:=by
 unfold DD;k_fill
 refine Dof (names:=["told"]) (g:=ZoP) ?_
 exact fun _ _ _ _ _ _ _ c _ _=>(Zy (ZI (cF c ZtL (jc (cF c Zy9 (jc vL Zp)) Zp))))
theorem Zua: DD w s₀ mg mb 239 1 ZlD:=by
 unfold DD;k_fill
 refine Dof (names:=["one","top"]) (g:=ZlC) ?_
 exact fun _ _ _ _ _ _ _ c _ _=>(Zx (Z3 (ZV (ZA vL jI) jI Zaw) (Zy (ZI (Zey (ZV (ZA vL jI) vL Zo1) (ZA vL jI) jN))) Z7) (Zy (ZI (ZJ vL (ZJ (ZJ vL (ZA vL jI) ZbC) (ZA vL jI) ZaV) ZbC))))
theorem Ztc: DD w s₀ mg mb 339 2 Zku:=by
 unfold DD;k_fill
 refine Dof (names:=["bound","left"]) (g:=Zkt) ?_
 exact fun _ _ _ _ _ _ _ c _ _=>(Zx (Z3 (ZV vL jN Zdw) (Zy (ZI (cF c Zua (jc vL (jc vL Zp))))) Z7) (Zx (Z3 (ZV (ZA vL jI) jI Zaw) (Zy (ZI (ZA vL jI))) Z7) (Zy (ZI jN))))
theorem ZlQ: DD w s₀ mg mb 211 2 Zgy:=by
 unfold DD;k_fill
 refine Dof (names:=["one","k"]) (g:=Zlz) ?_
 exact fun _ _ _ _ _ _ _ c _ _=>(Zy (ZI (cF c Zge (jc (ZJ (ZA vL jI) (ZaC (nB c) (jc vL Zp) Zf7) Zbu) (jc (ZJ (ZA vL jI) vL Zbu) Zp)))))
theorem ZtM: DD w s₀ mg mb 332 3 Zld:=by
 unfold DD;k_fill
 refine Dof (names:=["row","left","rests","new","bound","other","low"]) (g:=Zlc) ?_
 exact fun _ _ _ _ _ _ _ c _ _=>(Zx (ZX sL (J.list Zp)) (Zx (Ze6 sL sL (JI2.zip (nB c) vL vL) (Zx (ZX sL (cF c Ztc (jc vL (jc (cF c Zmo (jc vL (jc (cF c ZlQ (jc vL (jc (ZcH jI ZcA) Zp))) Zp))) Zp)))) (Zx (Z3 (Zbg (ZbF (ZV vL jN Zbv) (ZbF (ZV vL jN Zdw) Zdv))) (Zy (ZI jN)) Z7) (Zy (Zdi (J.append vL vL)))))) (Zy (ZI vL))))
theorem ZvN: DD w s₀ mg mb 325 4 Znn:=by
 unfold DD;k_fill
 refine Dof (names:=["told","rests","bounds"]) (g:=Znm) ?_
 exact fun _ _ _ _ _ _ _ c _ _=>(Zx (Z3 (ZV vL jN Zbv) (Zy (ZI jN)) Z7) (Zx (ZX sC (cF c ZpB (jc (ZA vL jI) Zp))) (Zx (by refine sT sL ?_ ?_;(exact(JI2.zip (nB c) (ZA vL jI) vC));(exact fun _ _=>(cF (ZbA c) ZtM (jc vO (jc vO (jc vD Zp)))))) (Zx (Z3 (ZV jN vL ZhH) (Zy (ZI jN)) Z7) (Zy (ZI (J.tup (jc vL (jc (ZA vL jI) Zp)))))))))
theorem ZdU: DD w s₀ mg mb 287 8 Zdh:=by
 unfold DD;k_fill
 refine Dof (names:=["told"]) (g:=Zop) ?_
 exact fun _ _ _ _ _ _ _ c _ _=>(Zy (ZI (cF c Zsx (jc (cF c ZvN (jc (cF c Zsx (jc vL Zp)) Zp)) Zp))))
theorem ZfN: DD w s₀ mg mb 280 3 Zei:=by
 unfold DD;k_fill
 refine Dof (names:=["one","rests","whole","k","part"]) (g:=ZmL) ?_
 exact fun _ _ _ _ _ _ _ c _ _=>(Zx (ZX sL (J.tup (jc jI (jc (ZA vL jI) Zp)))) (Zx (Ze6 sL sL (JI2.zip (nB c) (ZjE vL jI) vL) (Zy (ZX sL (cF c Zmo (jc vL (jc (cF c ZlQ (jc vL (jc vL Zp))) Zp)))))) (Zy (ZI vL))))
theorem ZpC: DD w s₀ mg mb 133 1 Zh4:=by
 unfold DD;k_fill
 refine Dof (names:=["i","n"]) (g:=Zlf) ?_
 exact fun _ _ _ _ _ _ _ c _ _=>(Zy (ZI (by refine cO ?_ ?_ ?_;(exact(JI.range (nB c) (jc (ZJ vL jI Zaj) Zp)));(exact fun _ _=>(Zey (ZV vD vO Zaw) jI jN));(exact fun _ _=>JF.nil))))
theorem ZjY: DD w s₀ mg mb 26 1 Zfc:=by
 unfold DD;k_fill
 refine Dof (names:=["row","x","thing"]) (g:=ZjR) ?_
 exact fun _ _ _ _ _ _ _ c _ _=>(Zy (ZI (ZJ (ZJ (Zob vL JP.none (JP.some (ZJ vL jI ZbC))) (J.list (jc vL Zp)) Zaj) (Zob vL (JP.some vL) JP.none) Zaj)))
theorem Zu5: DD w s₀ mg mb 392 2 ZmP:=by
 unfold DD;k_fill
 refine Dof (names:=["bounds","x","loose"]) (g:=ZmO) ?_
 exact fun _ _ _ _ _ _ _ c _ _=>(Zx (by refine sO sL ?_ ?_ ?_;(exact(JI.seq vL));(exact fun _ _=>(cF (ZbA c) ZjY (jc vO (jc (ZJ vD jI Zaj) (jc jN Zp)))));(exact fun _ _=>JF.nil)) (Zx (S1.put (cF c ZpC (jc vC (jc (ZJ (ZaC (nB c) (jc vL Zp) ZaZ) jI ZbC) Zp))) vL vC) (Zy (ZI vL))))
theorem ZgI: DD w s₀ mg mb 86 1 ZeN:=by
 unfold DD;k_fill
 refine Dof (names:=["end","k"]) (g:=Zl7) ?_
 exact fun _ _ _ _ _ _ _ c _ _=>(Zx (Z3 (ZV vL jN Zbv) (Zy (ZI jN)) Z7) (Zy (ZI (ZJ vL vL Zbu))))
theorem Zu6: DD w s₀ mg mb 346 2 ZmQ:=by
 unfold DD;k_fill
 refine Dof (names:=["bounds","i","one"]) (g:=ZiF) ?_
 exact fun _ _ _ _ _ _ _ c _ _=>(Zx (S1.put (ZA vL jI) (ZA vL vL) jI) (Zy (S1.put (cF c ZgI (jc (ZA vL jI) (jc (ZcH jI ZcA) Zp))) (ZA vL jI) vL)))
theorem Zo0: DD w s₀ mg mb 387 9 ZhB:=by
 unfold DD;k_fill
 refine Dof (names:=["told","x","span","left","bounds"]) (g:=ZoR) ?_
 exact fun _ _ _ _ _ _ _ c _ _=>(Zx (Z3 (ZV vL jN Zbv) (Zy (ZI jN)) Z7) (Zx (ZX sL (cF c Zu5 (jc (ZA vL jI) (jc vL Zp)))) (Zx (Zdi (cF c Zu6 (jc vL (jc vL (jc vL Zp))))) (Zy (ZI (cF c ZdU (jc (J.tup (jc vL (jc (cF c ZjY (jc (ZA vL jI) (jc vL (jc vL Zp)))) Zp))) Zp)))))))
theorem Ztd: DD w s₀ mg mb 363 1 Zkx:=by
 unfold DD;k_fill
 refine Dof (names:=["one"]) (g:=Zkw) ?_
 exact fun _ _ _ _ _ _ _ c _ _=>(Zy (ZI (Zcq (ZaC (nB c) (jc (by refine cO ?_ ?_ ?_;(exact(JI.seq (ZjE vL jI)));(exact fun _ _=>vO);(exact fun _ _=>JF.one (ZV vO jI ZcE))) Zp) Zvm) (J.list (jc (ZcH jI ZcA) (jc jI Zp))) Zaw)))
theorem Ztv: DD w s₀ mg mb 65 2 ZkR:=by
 unfold DD;k_fill
 refine Dof (names:=["one","other"]) (g:=ZkQ) ?_
 exact fun _ _ _ _ _ _ _ c _ _=>(Zy (ZI (J.tup (jc (cF c ZfM (jc (ZA vL jI) (jc (ZA vL jI) Zp))) (jc (cF c ZfM (jc (ZA vL jI) (jc (ZA vL jI) Zp))) Zp)))))
theorem Zte: DD w s₀ mg mb 79 2 Zkr:=by
 unfold DD;k_fill
 refine Dof (names:=["one","k","lo","hi"]) (g:=Zkq) ?_
 exact fun _ _ _ _ _ _ _ c _ _=>(Zx (Z3 (ZV vL jI Zaw) (Zy (ZI (J.tup (jc jI (jc jI Zp))))) Z7) (Zx (ZX sL (cF c ZgI (jc (ZA vL jI) (jc vL Zp)))) (Zx (ZX sL (cF c ZgI (jc (ZA vL jI) (jc vL Zp)))) (Zx (Z3 (ZV vL jI Zc5) (Zy (ZI (J.tup (jc vL (jc vL Zp))))) Z7) (Zy (ZI (J.tup (jc vL (jc vL Zp)))))))))
theorem ZtN: DD w s₀ mg mb 273 3 Zk7:=by
 unfold DD;k_fill
 refine Dof (names:=["one","stretches","whole","k","part"]) (g:=Zk6) ?_
 exact fun _ _ _ _ _ _ _ c _ _=>(Zx (ZX sL (J.tup (jc (ZA vL jI) (jc (ZA vL jI) Zp)))) (Zx (Ze6 sL sL (JI2.zip (nB c) (ZjE vL jI) vL) (Zy (ZX sL (cF c Ztv (jc vL (jc (cF c Zte (jc vL (jc vL Zp))) Zp)))))) (Zy (ZI vL))))
theorem Ztw: DD w s₀ mg mb 351 2 ZkW:=by
 unfold DD;k_fill
 refine Dof (names:=["told","bounds"]) (g:=ZkV) ?_
 exact fun _ _ _ _ _ _ _ c _ _=>(Zx (ZX sC (ZA vL jI)) (Zy (ZI (by refine cO ?_ ?_ ?_;(exact(JI.range (nB c) (jc jI (jc (ZaC (nB c) (jc vC Zp) ZaZ) Zp))));(exact fun _ _=>(J.tup (jc (cF (ZbA c) ZgI (jc (ZA (ZA vD jI) vO) (jc (ZcH jI ZcA) Zp))) (jc (ZA (ZA vD vO) jI) Zp))));(exact fun _ _=>JF.nil)))))
theorem ZgS: DD w s₀ mg mb 358 4 ZeU:=by
 unfold DD;k_fill
 refine Dof (names:=["told","one"]) (g:=ZmS) ?_
 exact fun _ _ _ _ _ _ _ c _ _=>(Zx (Z3 (Zbb (cF c Ztd (jc vL Zp))) (Zy (ZI (cF c ZfM (jc (ZA (ZA (ZA vL jI) (J.index vL jI jI)) (J.index vL (ZcH jI ZcA) jI)) (jc (ZA vL jI) Zp))))) Z7) (Zy (ZI (ZA (cF c ZtN (jc vL (jc (cF c Ztw (jc vL Zp)) Zp))) jI))))
theorem Zu7: DD w s₀ mg mb 254 1 ZmV:=by
 unfold DD;k_fill
 refine Dof (names:=["one","other"]) (g:=ZmU) ?_
 exact fun _ _ _ _ _ _ _ c _ _=>(Zy (ZI (by refine cT ?_ ?_;(exact(JI2.zip (nB c) vL vL));(exact fun _ _=>(ZJ vO vO Zaj)))))
theorem ZeR: DD w s₀ mg mb 259 1 ZdK:=by
 unfold DD;k_fill
 refine Dof (names:=["one","k"]) (g:=Zmc) ?_
 exact fun _ _ _ _ _ _ _ c _ _=>(Zy (ZI (by refine cO ?_ ?_ ?_;(exact(JI.seq vL));(exact fun _ _=>(ZJ vO vD Zbu));(exact fun _ _=>JF.nil))))
theorem ZiQ: DD w s₀ mg mb 266 2 ZfK:=by
 unfold DD;k_fill
 refine Dof (names:=["one","other"]) (g:=ZmX) ?_
 exact fun _ _ _ _ _ _ _ c _ _=>(Zy (ZI (cF c Zu7 (jc vL (jc (cF c ZeR (jc vL (jc (ZcH jI ZcA) Zp))) Zp)))))
theorem Zub: DD w s₀ mg mb 380 5 ZlG:=by
 unfold DD;k_fill
 refine Dof (names:=["told","one","others"]) (g:=ZlF) ?_
 exact fun _ _ _ _ _ _ _ c _ _=>(Zy (ZI (by refine cO ?_ ?_ ?_;(exact(JI.seq vL));(exact fun _ _=>(cF (ZbA c) ZgS (jc vD (jc (cF (ZbA c) ZiQ (jc vD (jc vO Zp))) Zp))));(exact fun _ _=>JF.nil))))
theorem Ze1: DD w s₀ mg mb 244 1 ZdO:=by
 unfold DD;k_fill
 refine Dof (names:=["i","n"]) (g:=Znw) ?_
 exact fun _ _ _ _ _ _ _ c _ _=>(Zy (ZI (by refine cO ?_ ?_ ?_;(exact(JI.range (nB c) (jc (ZJ vL jI Zaj) Zp)));(exact fun _ _=>(Zey (Zbg (ZbF (ZV vD jI Zfh) (ZbF (ZV vO vD Zaw) Zdv))) jI jI));(exact fun _ _=>JF.nil))))
theorem Zoa: DD w s₀ mg mb 375 9 Zhb:=by
 unfold DD;k_fill
 refine Dof (names:=["told","sums","all_sums","bounds","rests"]) (g:=ZnV) ?_
 exact fun _ _ _ _ _ _ _ c _ _=>(Zx (Z3 (ZV vC jN Zbv) (Zy (ZI jN)) Z7) (Zx (ZX sC (ZJ (J.list (jc (cF c Ze1 (jc jI (jc (ZaC (nB c) (jc (ZA vC jI) Zp) ZaZ) Zp))) Zp)) vL Zaj)) (Zx (by refine sO sL ?_ ?_ ?_;(exact(JI.seq vC));(exact fun _ _=>(cF (ZbA c) Zub (jc vD (jc vO (jc vD Zp)))));(exact fun _ _=>JF.nil)) (Zx (by refine sO sL ?_ ?_ ?_;(exact(JI.seq vL));(exact fun _ _=>(cF (ZbA c) ZfN (jc vO (jc (ZA vD jI) Zp))));(exact fun _ _=>JF.nil)) (Zy (ZI (cF c ZdU (jc (J.tup (jc vL (jc vL Zp))) Zp))))))))
theorem ZrW: DD w s₀ mg mb 370 5 Zjr:=by
 unfold DD;k_fill
 refine Dof (names:=["told","one"]) (g:=Zor) ?_
 exact fun _ _ _ _ _ _ _ c _ _=>(Zy (ZI (cF c ZgI (jc (cF c ZgS (jc vL (jc (cF c ZeR (jc vL (jc (ZcH jI ZcA) Zp))) Zp))) (jc (ZcH jI ZcA) Zp)))))
theorem Zih: DD w s₀ mg mb 100 1 Zfz:=by
 unfold DD;k_fill
 refine Dof (names:=["end","k"]) (g:=ZlK) ?_
 exact fun _ _ _ _ _ _ _ c _ _=>(Zx (Z3 (ZV vL jN Zbv) (Zy (ZI jN)) Z7) (Zy (ZI (ZJ vL vL ZdB))))
theorem Zpn: DD w s₀ mg mb 93 2 ZhR:=by
 unfold DD;k_fill
 refine Dof (names:=["one","k"]) (g:=Zkj) ?_
 exact fun _ _ _ _ _ _ _ c _ _=>(Zy (ZI (J.tup (jc (cF c Zih (jc (ZA vL jI) (jc vL Zp))) (jc (cF c Zih (jc (ZA vL jI) (jc vL Zp))) Zp)))))
theorem ZsX: DD w s₀ mg mb 107 3 Zkm:=by
 unfold DD;k_fill
 refine Dof (names:=["one","k","parts"]) (g:=Zkl) ?_
 exact fun _ _ _ _ _ _ _ c _ _=>(Zx (ZX sL (cF c Zpn (jc vL (jc vL Zp)))) (Zx (Z3 (Zbg (ZbF (ZV (ZA vL jI) jN Zdw) (ZbF (ZV (ZA vL jI) (ZA vL jI) Zaw) Zdv))) (Zy (ZI (J.tup (jc (ZJ (ZA vL jI) vL ZaV) (jc (ZJ (ZA vL jI) vL ZaV) Zp))))) Z7) (Zy (ZI (J.tup (jc jI (jc (ZJ vL jI ZbC) Zp)))))))
theorem ZtO: DD w s₀ mg mb 225 2 Zlp:=by
 unfold DD;k_fill
 refine Dof (names:=["one","k","common"]) (g:=Zlo) ?_
 exact fun _ _ _ _ _ _ _ c _ _=>(Zx (ZX sL (cF c Zi5 (jc (ZA vL jI) (jc vL Zp)))) (Zx (Z3 (ZV vL vL Zaw) (Zy (ZI (J.tup (jc jI (jc (ZJ (ZA vL jI) vL ZaV) Zp))))) Z7) (Zy (ZI (cF c Zge (jc vL (jc (ZA vL jI) Zp)))))))
theorem ZtP: DD w s₀ mg mb 218 2 Zlr:=by
 unfold DD;k_fill
 refine Dof (names:=["one","k"]) (g:=Zlq) ?_
 exact fun _ _ _ _ _ _ _ c _ _=>(Zx (Z3 (ZV (ZJ (ZA vL jI) vL ZaV) jI Zaw) (Zy (ZI (cF c Zge (jc (ZJ (ZA vL jI) vL ZdB) (jc (ZJ (ZA vL jI) vL ZdB) Zp))))) Z7) (Zy (ZI (J.tup (jc jI (jc jI Zp))))))
theorem Zna: DD w s₀ mg mb 249 2 ZgP:=by
 unfold DD;k_fill
 refine Dof (names:=["many","n"]) (g:=Zm0) ?_
 exact fun _ _ _ _ _ _ _ c _ _=>(Zy (ZI (by refine cO ?_ ?_ ?_;(exact(JI.range (nB c) (jc jI (jc (ZJ vL jI Zaj) Zp))));(exact fun _ _=>(cF (ZbA c) Ze1 (jc vO (jc vD Zp))));(exact fun _ _=>JF.nil))))
theorem ZvO: DD w s₀ mg mb 521 10 ZnA:=by
 unfold DD;k_fill
 refine Dof (names:=["told","act","n","span","left"]) (g:=Znz) ?_
 exact fun _ _ _ _ _ _ _ c _ _=>(Zx (Z3 (ZV (ZA vL jI) jS Zaw) (Zx (ZX sL (ZaC (nB c) (jc (ZA vL jI) Zp) ZaZ)) (Zy (ZI (cF c Zoa (jc vL (jc (cF c ZjY (jc (cF c Zna (jc vL (jc vL Zp))) (jc (ZA vL jI) (jc (ZA vL jI) Zp)))) Zp)))))) Z7) (Zx (Z3 (ZV (ZA vL jI) jS Zaw) (Zy (ZI (cF c Zo0 (jc vL (jc (ZA vL jI) (jc (J.tup (jc (ZA vL jI) (jc (ZA vL jI) Zp))) (jc (J.tup (jc jI (jc jI Zp))) Zp))))))) Z7) (Zx (ZX sL (J.tup (jc (cF c ZrW (jc vL (jc (ZA vL jI) Zp))) (jc (cF c ZgS (jc vL (jc (ZA vL jI) Zp))) Zp)))) (Zx (ZX sL (cF c ZfN (jc (ZA vL jI) (jc (ZA vL jI) Zp)))) (Zx (Z3 (ZV (ZA vL jI) jS Zaw) (Zy (ZI (cF c Zo0 (jc vL (jc (ZA vL jI) (jc (cF c Zpn (jc vL (jc (ZA vL jI) Zp))) (jc (cF c ZtP (jc vL (jc (ZA vL jI) Zp))) Zp))))))) Z7) (Zy (ZI (cF c Zo0 (jc vL (jc (ZA vL jI) (jc (cF c ZsX (jc vL (jc (ZA vL jI) Zp))) (jc (cF c ZtO (jc vL (jc (ZA vL jI) Zp))) Zp))))))))))))
theorem Zrf: ∀n:Nat,Def PySem.Challenge.rw_seer_k55_claims_and_calls.row.prog w (head.heap_39 w.params) head.view_39 (looseW head.view_39 []) (ExcName.means s₀.heap) mg mb 19 (n) (ZfW n)
 | 0=>Zwn
 | n+1=>by
  have ih:=Zrf n
  k_fill
  refine' ZrY (names:=["thing"]) (n:=1) (room:=n) (g:=Zoq (ZfW n)) (ho:=?ho) (hcd:=?hcd) (nd:=by decide) (hn:=by decide) (hbind:=?hb) (hkinds:=?hk) (hone:=?h1) (hco:=?z1) (hgen:=?z2) (hk:=?z3) (hbody:=?hbody)
  case ho=>k_is
  case z1=>rfl
  case z2=>rfl
  case z3=>rfl
  case hcd=>k_is
  case hb=>intro s xs hx;match xs,hx with | [x0],_=>exact BindsTo.of_eq rfl
  case hk=>decide
  case h1=>decide +kernel
  case hbody=>
   intro dp un gd L outer h₀ hu clr hd1 hu1
   exact(Zx (Z3 (Zbb (ZdP (nB clr) (nB clr) (.inr (.inr (.inl rfl))) vL)) (Zy (ZI (by refine cO ?_ ?_ ?_;(exact(JI.seq vL));(exact fun _ _=>(cF (ZbA clr) ih (jc vO Zp)));(exact fun _ _=>JF.nil)))) Z7) (Zx (Z3 (Zbb (ZdP (nB clr) (nB clr) (.inr (.inr (.inr rfl))) vL)) (Zy (ZI (ZfX (nB clr) (jc (by refine cO ?_ ?_ ?_;(exact(JI.seq vL));(exact fun _ _=>(cF (ZbA clr) ih (jc vO Zp)));(exact fun _ _=>JF.nil)) Zp) Zvf))) Z7) (Zy (ZI vL))))
theorem ZjD: Def PySem.Challenge.rw_seer_k55_claims_and_calls.row.prog w (head.heap_39 w.params) head.view_39 (looseW head.view_39 []) (ExcName.means s₀.heap) mg mb 19 9 Zf0:=Zrf 9
theorem ZiR: DD w s₀ mg mb 128 3 ZfJ:=by
 unfold DD;k_fill
 refine Dof (names:=["bounds","i","j","bound"]) (g:=ZiG) ?_
 exact fun _ _ _ _ _ _ _ c _ _=>(Zy (S1.put (cF c Zre (jc (ZA (ZA vL vL) vL) (jc vL Zp))) (ZA vL vL) vL))
theorem ZpI: DD w s₀ mg mb 446 5 Zic:=by
 unfold DD;k_fill
 refine Dof (names:=["told","part","one","top"]) (g:=ZlI) ?_
 exact fun _ _ _ _ _ _ _ c _ _=>(Zy (ZI (cF c ZfM (jc (cF c ZgS (jc vL (jc (cF c ZiQ (jc vL (jc vL Zp))) Zp))) (jc vL Zp)))))
theorem ZtQ: DD w s₀ mg mb 432 6 Zlh:=by
 unfold DD;k_fill
 refine Dof (names:=["bounds","told","one","top","n","i","j","apart"]) (g:=Zh5) ?_
 exact fun _ _ _ _ _ _ _ c _ _=>(Zx (ZX sL (ZaC (nB c) (jc (ZA vL jI) Zp) ZaZ)) (Zy (ZcT sL (JI.range (nB c) (jc (ZJ vL jI Zaj) Zp)) (Zy (ZcT sL (JI.range (nB c) (jc (ZJ vL jI Zaj) Zp)) (Zx (ZX sL (cF c ZiQ (jc (cF c Ze1 (jc vL (jc vL Zp))) (jc (cF c Ze1 (jc vL (jc vL Zp))) Zp)))) (Zy (Zdi (cF c ZiR (jc vL (jc vL (jc vL (jc (cF c ZpI (jc vL (jc vL (jc vL (jc vL Zp))))) Zp)))))))))))))
theorem ZtR: DD w s₀ mg mb 439 6 Zlj:=by
 unfold DD;k_fill
 refine Dof (names:=["bounds","told","one","top","n","i","k","bound"]) (g:=Zh7) ?_
 exact fun _ _ _ _ _ _ _ c _ _=>(Zx (ZX sL (ZaC (nB c) (jc (ZA vL jI) Zp) ZaZ)) (Zy (ZcT sL (JI.range (nB c) (jc jI (jc (ZJ vL jI Zaj) Zp))) (Zx (ZX sL (ZA vL vL)) (Zx (ZX sL (cF c ZpI (jc vL (jc (cF c ZeR (jc (cF c Ze1 (jc vL (jc vL Zp))) (jc vL Zp))) (jc vL (jc vL Zp)))))) (Zx (Z3 (ZV vL jI Zfh) (Zy (Zdi (cF c ZiR (jc vL (jc vL (jc jI (jc (cF c Zih (jc vL (jc vL Zp))) Zp))))))) Z7) (Zy (Z3 (ZV vL jI Zc5) (Zy (Zdi (cF c ZiR (jc vL (jc jI (jc vL (jc (cF c Zih (jc vL (jc (ZcH vL ZcA) Zp))) Zp))))))) Z7))))))))
theorem ZvP: DD w s₀ mg mb 58 1 Znk:=by
 unfold DD;k_fill
 refine Dof (names:=["lo","hi"]) (g:=Znj) ?_
 exact fun _ _ _ _ _ _ _ c _ _=>(Zy (ZI (ZyJ (Zcq vL jN Zdw) (Zgg (Zcq vL jN Zdw) (Zcq vL vL Zfh)))))
theorem Zg5: DD w s₀ mg mb 425 10 Ze0:=by
 unfold DD;k_fill
 refine Dof (names:=["told","one","top","bounds"]) (g:=Zny) ?_
 exact fun _ _ _ _ _ _ _ c _ _=>(Zx (Z3 (Zbg (ZaR (ZV vL jN Zbv) (ZaR (Zbb (cF c ZvP (jc (cF c ZrW (jc vL (jc vL Zp))) (jc vL Zp)))) Zcv))) (Zy (ZI jN)) Z7) (Zx (ZX sL (cF c ZjD (jc (ZA vL jI) Zp))) (Zx (Zdi (cF c ZtQ (jc vL (jc vL (jc vL (jc vL Zp)))))) (Zx (Zdi (cF c ZtR (jc vL (jc vL (jc vL (jc vL Zp)))))) (Zy (ZI (cF c ZdU (jc (J.tup (jc vL (jc (ZA vL jI) Zp))) Zp))))))))
theorem Zuc: DD w s₀ mg mb 460 11 ZlN:=by
 unfold DD;k_fill
 refine Dof (names:=["told","one","truth"]) (g:=ZlM) ?_
 exact fun _ _ _ _ _ _ _ c _ _=>(Zx (Z3 (Zbb vL) (Zy (ZI (cF c Zg5 (jc vL (jc vL (jc (ZcH jI ZcA) Zp)))))) Z7) (Zy (ZI (cF c Zg5 (jc vL (jc (cF c ZeR (jc vL (jc (ZcH jI ZcA) Zp))) (jc jI Zp)))))))
theorem Zpp: DD w s₀ mg mb 232 2 ZhW:=by
 unfold DD;k_fill
 refine Dof (names:=["one","k"]) (g:=Zkz) ?_
 exact fun _ _ _ _ _ _ _ c _ _=>(Zy (ZI (cF c Zge (jc (cF c Zi5 (jc (ZA vL jI) (jc vL Zp))) (jc (ZA vL jI) Zp)))))
theorem ZtS: DD w s₀ mg mb 507 4 Zlm:=by
 unfold DD;k_fill
 refine Dof (names:=["rests","one","d","i","k","left","others"]) (g:=Zll) ?_
 exact fun _ _ _ _ _ _ _ c _ _=>(Zx (ZX sL (ZA vL vL)) (Zx (ZX sL (ZA vL (ZJ vL jI ZbC))) (Zx (Z3 (ZV (ZaC (nB c) (jc vL Zp) Zf7) jI ZcE) (Zy (ZI vL)) Z7) (Zx (ZX sL (cF c ZiQ (jc vL (jc (cF c ZeR (jc (cF c Ze1 (jc vL (jc (ZaC (nB c) (jc vL Zp) ZaZ) Zp))) (jc vL Zp))) Zp)))) (Zy (ZI (cF c Zm9 (jc vL (jc (cF c Zpp (jc (cF c ZlQ (jc (cF c ZfN (jc vL (jc vL Zp))) (jc (ZcH vL ZcA) Zp))) (jc vL Zp))) Zp)))))))))
theorem ZpX: DD w s₀ mg mb 500 9 Zio:=by
 unfold DD;k_fill
 refine Dof (names:=["told","one","d","rests"]) (g:=Zmg) ?_
 exact fun _ _ _ _ _ _ _ c _ _=>(Zx (Z3 (ZV vC jN Zbv) (Zy (ZI jN)) Z7) (Zx (by refine sO sL ?_ ?_ ?_;(exact(JI.range (nB c) (jc jI (jc (ZaC (nB c) (jc vC Zp) ZaZ) Zp))));(exact fun _ _=>(cF (ZbA c) ZtS (jc (ZA vD jI) (jc vD (jc vD (jc vO Zp))))));(exact fun _ _=>JF.nil)) (Zx (Z3 (ZV jN vL ZhH) (Zy (ZI jN)) Z7) (Zy (ZI (cF c ZdU (jc (J.tup (jc (ZA vC jI) (jc vL Zp))) Zp)))))))
theorem ZpY: DD w s₀ mg mb 488 10 Ziq:=by
 unfold DD;k_fill
 refine Dof (names:=["told","one","d"]) (g:=Zmh) ?_
 exact fun _ _ _ _ _ _ _ c _ _=>(Zx (Z3 (ZcM (Zbb (cF c ZgR (jc (cF c Zpp (jc (cF c ZfN (jc vL (jc (ZA vL jI) Zp))) (jc vL Zp))) (jc jI Zp))))) (Zy (ZI jN)) Z7) (Zy (ZI (cF c ZpX (jc vL (jc vL (jc vL Zp)))))))
theorem ZtT: DD w s₀ mg mb 190 2 Zk4:=by
 unfold DD;k_fill
 refine Dof (names:=["one","other"]) (g:=Zk3) ?_
 exact fun _ _ _ _ _ _ _ c _ _=>(Zx (Z3 (ZV (ZA vL jI) jI Zaw) (Zy (ZI (Zcq vL vL Zaw))) Z7) (Zy (ZI (Zgg (Zcq (ZJ (ZA vL jI) (ZA vL jI) ZaV) jI Zaw) (cF c ZgR (jc vL (jc (ZA vL jI) Zp)))))))
theorem Ztf: DD w s₀ mg mb 495 11 ZkC:=by
 unfold DD;k_fill
 refine Dof (names:=["told","one","d"]) (g:=ZkB) ?_
 exact fun _ _ _ _ _ _ _ c _ _=>(Zx (Z3 (Zbb (cF c ZtT (jc (cF c ZfN (jc vL (jc (ZA vL jI) Zp))) (jc (J.tup (jc vL (jc jI Zp))) Zp)))) (Zy (ZI jN)) Z7) (Zx (Z3 (ZV vL jI Zaw) (Zy (ZI (cF c ZpY (jc vL (jc (ZJ (J.list (jc (ZJ (ZA vL jI) jI Zaj) Zp)) (ZjE vL jI) Zaj) (jc jI Zp)))))) Z7) (Zy (ZI (cF c ZjD (jc vL Zp))))))
theorem Zuw: DD w s₀ mg mb 467 11 Zmj:=by
 unfold DD;k_fill
 refine Dof (names:=["told","one","held"]) (g:=Zmi) ?_
 exact fun _ _ _ _ _ _ _ c _ _=>(Zx (Z3 (ZcM (Zbb (cF c ZgR (jc (cF c ZfN (jc vL (jc (ZA vL jI) Zp))) (jc jI Zp))))) (Zy (ZI jN)) Z7) (Zx (ZX sL (cF c Zg5 (jc (cF c Zg5 (jc vL (jc vL (jc jI Zp)))) (jc (cF c ZeR (jc vL (jc (ZcH jI ZcA) Zp))) (jc jI Zp))))) (Zy (ZI (cF c ZpX (jc vL (jc vL (jc jI Zp))))))))
theorem Zqk: DD w s₀ mg mb 481 11 ZiK:=by
 unfold DD;k_fill
 refine Dof (names:=["told","one"]) (g:=ZmZ) ?_
 exact fun _ _ _ _ _ _ _ c _ _=>(Zx (Z3 (Zbg (ZbF (ZV vL jN Zdw) (ZbF (Zbb (cF c ZpW (jc (cF c ZgS (jc vL (jc vL Zp))) (jc jI Zp)))) Zdv))) (Zy (ZI (cF c Zg5 (jc vL (jc vL (jc (ZcH jI ZcA) Zp)))))) Z7) (Zy (ZI vL)))
theorem Ztg: DD w s₀ mg mb 474 12 ZkE:=by
 unfold DD;k_fill
 refine Dof (names:=["told","one"]) (g:=ZkD) ?_
 exact fun _ _ _ _ _ _ _ c _ _=>(Zy (ZI (cF c ZjD (jc (cF c Zqk (jc (cF c Zqk (jc vL (jc vL Zp))) (jc (cF c ZeR (jc vL (jc (ZcH jI ZcA) Zp))) Zp))) Zp))))
theorem Zsy: DD w s₀ mg mb 453 13 ZjT:=by
 unfold DD;k_fill
 refine Dof (names:=["told","claim","truth"]) (g:=ZoT) ?_
 exact fun _ _ _ _ _ _ _ c _ _=>(Zx (Z3 (ZV vL jN Zbv) (Zy (ZI jN)) Z7) (Zx (Z3 (ZV (ZA vL jI) jS Zaw) (Zy (ZI (cF c Zuc (jc vL (jc (ZA vL jI) (jc vL Zp)))))) Z7) (Zx (Z3 (ZV (ZA vL jI) jS Zaw) (Zy (ZI (Zey (Zbb vL) (cF c Zuw (jc vL (jc (ZA vL jI) Zp))) (cF c Ztg (jc vL (jc (ZA vL jI) Zp)))))) Z7) (Zy (ZI (Zey (Zbb vL) (cF c ZpY (jc vL (jc (ZA vL jI) (jc (ZA vL jI) Zp)))) (cF c Ztf (jc vL (jc (ZA vL jI) (jc (ZA vL jI) Zp))))))))))
theorem ZsY: DD w s₀ mg mb 411 10 Zkh:=by
 unfold DD;k_fill
 refine Dof (names:=["bounds","at","other","new","i","row","j","bound"]) (g:=Zkg) ?_
 exact fun _ _ _ _ _ _ _ c _ _=>(Zx (ZX sL (cF c ZjD (jc vL Zp))) (Zx (Ze6 sL sL (JI2.zip (nB c) vL vL) (Zy (Ze6 sL sL (JI2.zip (nB c) vL vL) (Zy (Zdi (cF c ZiR (jc vL (jc vL (jc vL (jc vL Zp)))))))))) (Zy (ZI vL))))
theorem ZvQ: DD w s₀ mg mb 404 11 Zns:=by
 unfold DD;k_fill
 refine Dof (names:=["told","at","other","rests","i","left"]) (g:=Znr) ?_
 exact fun _ _ _ _ _ _ _ c _ _=>(Zx (ZX sL (ZfX (nB c) (jc (ZA vL jI) Zp) Zg6)) (Zx (Ze6 sL sL (JI2.zip (nB c) vL (ZA vL jI)) (Zy (S1.put (cF c Zm9 (jc (ZA vL (ZJ vL jI ZbC)) (jc vL Zp))) vL (ZJ vL jI ZbC)))) (Zx (Z3 (ZV jN vL ZhH) (Zy (ZI jN)) Z7) (Zy (ZI (J.tup (jc (cF c ZsY (jc (ZA vL jI) (jc (ZJ (J.list (jc jI Zp)) vL Zaj) (jc (ZA vL jI) Zp)))) (jc vL Zp))))))))
theorem ZvR: DD w s₀ mg mb 397 2 Znp:=by
 unfold DD;k_fill
 refine Dof (names:=["told","more","n","bounds","new"]) (g:=Zno) ?_
 exact fun _ _ _ _ _ _ _ c _ _=>(Zx (ZX sC (ZaC (nB c) (jc (ZA vL jI) Zp) ZaZ)) (Zx (by refine sO sL ?_ ?_ ?_;(exact(JI.seq (ZA vL jI)));(exact fun _ _=>(ZJ vO (ZJ (J.list (jc jN Zp)) vD Zbu) Zaj));(exact fun _ _=>JF.nil)) (Zx (by refine sO sL ?_ ?_ ?_;(exact(JI.range (nB c) (jc (ZJ vC jI Zaj) (jc (ZJ (ZJ vC vC Zaj) jI Zaj) Zp))));(exact fun _ _=>(cF (ZbA c) ZpC (jc vO (jc (ZJ vD vD Zaj) Zp))));(exact fun _ _=>JF.nil)) (Zy (ZI (J.tup (jc (ZJ vL vL Zaj) (jc (ZJ (ZA vL jI) (ZJ (J.list (jc (J.tup (jc jI (jc jI Zp))) Zp)) vC Zbu) Zaj) Zp))))))))
theorem Zql: DD w s₀ mg mb 418 12 ZiL:=by
 unfold DD;k_fill
 refine Dof (names:=["told","x","row","summary","sharpened","n","answer","given","both"]) (g:=Zm3) ?_
 exact fun _ _ _ _ _ _ _ c _ _=>(Zx (ZX sL (cF c ZdU (jc vL Zp))) (Zx (Z3 (Zbg (ZaR (ZV vL jN Zbv) (ZaR (ZV vL jN Zbv) Zcv))) (Zy (ZI jN)) Z7) (Zx (ZX sL (ZaC (nB c) (jc (ZA vL jI) Zp) ZaZ)) (Zx (ZX sL (ZJ (ZJ vL (ZaC (nB c) (jc vL Zp) ZaZ) Zaj) jI Zaj)) (Zx (ZX sL (cF c Zoa (jc vL (jc (ZJ (cF c Zna (jc vL (jc vL Zp))) vL Zaj) Zp)))) (Zx (Z3 (ZV vL jN Zbv) (Zy (ZI jN)) Z7) (Zx (ZX sL (cF c ZdU (jc (cF c ZvQ (jc (cF c ZvR (jc vL (jc jI Zp))) (jc (Zxs (nB c) (nB c) (jc (ZJ vL jI Zaj) (jc (ZJ vL jI Zaj) Zp))) (jc vL Zp)))) Zp))) (Zy (ZI (cF c Zoa (jc vL (jc (cF c ZjY (jc (cF c Zna (jc vL (jc vL Zp))) (jc vL (jc (cF c Ze1 (jc vL (jc vL Zp))) Zp)))) Zp))))))))))))
theorem ZqF: DD w s₀ mg mb 514 14 ZiZ:=by
 unfold DD;k_fill
 refine Dof (names:=["told","act","summaries","sharpened"]) (g:=ZnB) ?_
 exact fun _ _ _ _ _ _ _ c _ _=>(Zx (ZX sL (cF c ZdU (jc vL Zp))) (Zx (Z3 (Zbg (ZaR (ZV vL jN Zbv) (ZaR (ZV (ZA vL jI) (J.tup (jc jS (jc jS Zp))) ZhH) Zcv))) (Zy (ZI vL)) Z7) (Zx (Z3 (ZV (ZA vL jI) jS Zaw) (Zy (ZI (cF c Zsy (jc vL (jc (ZA vL jI) (jc (ZA vL jI) Zp)))))) Z7) (Zx (Z3 (ZV (ZA vL jI) jS Zaw) (Zy (ZI (cF c Zql (jc vL (jc (ZA vL jI) (jc (ZA vL jI) (jc (ZA vL (ZA vL jI)) Zp))))))) Z7) (Zy (ZI (cF c ZvO (jc vL (jc vL Zp)))))))))
theorem Zud: DD w s₀ mg mb 578 3 Zlx:=by
 unfold DD;k_fill
 refine Dof (names:=["_law_script","_law_k","_law_told_here","_law_bounds","_law_rests","_law_i","_law_j","_law_way","_law_t","_law_one"]) (g:=Zlw) ?_
 exact fun _ _ _ _ _ _ _ c _ _=>(Zx (by refine sO sL ?_ ?_ ?_;(exact(JI.seq (ZA vL jI)));(exact fun _ _=>(ZfX (nB (ZbA c)) (jc vO Zp) Zg6));(exact fun _ _=>JF.nil)) (Zx (ZX sL (ZfX (nB c) (jc (ZA vL jI) Zp) Zg6)) (Zx (ZX sL (cF c law_pick_d (jc vL (jc vL (jc (ZaC (nB c) (jc vL Zp) ZaZ) Zp))))) (Zx (ZX sL (cF c law_pick_d (jc vL (jc (ZJ vL jI Zaj) (jc (ZaC (nB c) (jc vL Zp) ZaZ) Zp))))) (Zx (ZX sL (cF c law_pick_d (jc vL (jc (ZJ vL jI Zaj) (jc jI Zp))))) (Zx (Z3 (Zbg (ZbF (ZV vL jI Zc5) (ZbF (ZV vL vL ZcE) (ZbF (ZV (ZA (ZA vL vL) vL) jN Zbv) Zdv)))) (Zy (S1.put (cF c ZgC (jc vL (jc (ZJ vL jI Zaj) Zp))) (ZA vL vL) vL)) (Zy (Z3 (Zbg (ZbF (ZV vL jI Zc5) (ZbF (ZV vL vL ZcE) Zdv))) (Zy (S1.put (ZJ (ZJ (ZA (ZA vL vL) vL) jI ZbC) (cF c law_pick_d (jc vL (jc (ZJ vL jI Zaj) (jc jI Zp)))) ZbC) (ZA vL vL) vL)) (Zy (Z3 (ZV (ZaC (nB c) (jc vL Zp) ZaZ) jI Zfh) (Zx (ZX sL (cF c law_pick_d (jc vL (jc vL (jc (ZaC (nB c) (jc vL Zp) ZaZ) Zp))))) (Zx (ZX sL (ZA vL vL)) (Zy (S1.put (cF c Zlt (jc (ZJ (ZA vL jI) (ZJ jI (ZJ vL jI ZaV) Zaj) Zbu) (jc (ZJ (ZA vL jI) (cF c law_pick_d (jc vL (jc (ZJ vL jI Zaj) (jc jI Zp)))) Zaj) Zp))) vL vL)))) Z7))))) (Zy (ZI (J.tup (jc vL (jc vL Zp)))))))))))
theorem ZqG: DD w s₀ mg mb 613 3 ZiY:=by
 unfold DD;k_fill
 refine Dof (names:=["_law_script","_law_k","_law_many","_law_one","_law_way","_law_at","_law_to","_law_i"]) (g:=Znu) ?_
 exact fun _ _ _ _ _ _ _ c _ _=>(Zx (ZX sL (ZJ (J.list (jc (cF c ZgC (jc vL (jc vL Zp))) Zp)) (ZJ (J.list (jc jI Zp)) vL Zbu) Zaj)) (Zx (ZX sL (cF c law_pick_d (jc vL (jc vL (jc jI Zp))))) (Zx (Z3 (Zbg (ZaR (ZV vL jI Zaw) (ZaR (ZV vL jI Zaw) Zcv))) (Zy (ZI vL)) Z7) (Zx (ZX sL (ZJ jI (cF c law_pick_d (jc vL (jc (ZJ vL jI Zaj) (jc vL Zp)))) Zaj)) (Zx (Z3 (ZV vL jI Zaw) (Zy (S1.put (ZJ (cF c law_pick_d (jc vL (jc (ZJ vL jI Zaj) (jc jI Zp)))) jI ZbC) vL vL)) Z7) (Zx (Z3 (Zbg (ZaR (ZV vL jI Zaw) (ZaR (ZV vL jI Zaw) Zcv))) (Zx (ZX sL (ZJ jI (cF c law_pick_d (jc vL (jc (ZJ vL jI Zaj) (jc vL Zp)))) Zaj)) (Zx (S1.put jI vL vL) (Zy (S1.put (ZJ (ZA vL vL) jI ZbC) vL vL)))) Z7) (Zx (Z3 (ZV vL jI Zaw) (Zy (ZcT sL (JI.range (nB c) (jc vL Zp)) (Zy (S1.put (ZJ (cF c law_pick_d (jc vL (jc (ZJ (ZJ vL jI Zaj) vL Zaj) (jc jI Zp)))) jI ZbC) vL (ZJ vL jI Zaj))))) Z7) (Zx (Z3 (ZV vL jI Zaw) (Zy (ZcT sL (JI.range (nB c) (jc vL Zp)) (Zy (S1.put (ZJ (cF c law_pick_d (jc vL (jc (ZJ (ZJ vL jI Zaj) vL Zaj) (jc jI Zp)))) jI ZbC) vL (ZJ vL jI Zaj))))) Z7) (Zy (ZI vL))))))))))
theorem ZpZ: DD w s₀ mg mb 618 1 Zin:=by
 unfold DD;k_fill
 refine Dof (names:=["_law_one","_law_boxes"]) (g:=Zme) ?_
 exact fun _ _ _ _ _ _ _ c _ _=>(Zy (ZI (ZJ (ZA vC jI) (ZaC (nB c) (jc (by refine cO ?_ ?_ ?_;(exact(JI.range (nB c) (jc (ZaC (nB c) (jc vC Zp) ZaZ) Zp)));(exact fun _ _=>(ZJ (ZA vD (ZJ vO jI Zaj)) (ZA vD vO) Zbu));(exact fun _ _=>JF.nil)) Zp) Zx3) Zaj)))
theorem Zth: DD w s₀ mg mb 625 4 ZkK:=by
 unfold DD;k_fill
 refine Dof (names:=["_law_script","_law_boxes","_law_one","_law_way"]) (g:=ZkJ) ?_
 exact fun _ _ _ _ _ _ _ c _ _=>(Zx (ZX sL (cF c ZqG (jc vL (jc jI (jc (ZaC (nB c) (jc vL Zp) ZaZ) Zp))))) (Zx (Z3 (ZV (cF c law_pick_d (jc vL (jc jI (jc jI Zp)))) jI Zfh) (Zy (S1.put (ZJ (ZJ (ZJ (ZA vL jI) (cF c ZpZ (jc vL (jc vL Zp))) ZbC) (cF c law_pick_d (jc vL (jc jI (jc jI Zp)))) Zaj) jI ZbC) vL jI)) Z7) (Zx (ZX sL (cF c law_pick_d (jc vL (jc jI (jc jI Zp))))) (Zx (Z3 (ZV (ZJ vL jI ZaV) jI Zaw) (Zy (ZI (J.tup (jc jS (jc vL Zp))))) Z7) (Zx (Z3 (ZV (ZJ vL jI ZaV) jI Zaw) (Zy (ZI (J.tup (jc jS (jc vL Zp))))) Z7) (Zy (ZI (J.tup (jc jS (jc vL (jc (ZJ jI (ZJ vL jI ZdB) Zaj) Zp)))))))))))
theorem Zmp: DD w s₀ mg mb 585 1 ZgG:=by
 unfold DD;k_fill
 refine Dof (names:=["_law_thing"]) (g:=Zl4) ?_
 exact fun _ _ _ _ _ _ _ c _ _=>(Zy (ZI (Zgg (ZdP (nB c) (nB c) (.inl rfl) vL) (Zza (ZdP (nB c) (nB c) (.inr (.inl rfl)) vL)))))
theorem Zu8: DD w s₀ mg mb 592 2 ZmJ:=by
 unfold DD;k_fill
 refine Dof (names:=["_law_thing","_law_size","_law_i","_law_top"]) (g:=ZmI) ?_
 exact fun _ _ _ _ _ _ _ c _ _=>(Zx (Z3 (Zbg (ZaR (ZcM (Zbb (ZdP (nB c) (nB c) (.inr (.inr (.inl rfl))) vL))) (ZaR (ZV (ZaC (nB c) (jc vL Zp) ZaZ) vL ZcE) Zcv))) (Zy (ZI jB)) Z7) (Zx (ZcT sL (JI.range (nB c) (jc vL Zp)) (Zx (Z3 (Zbg (ZaR (ZcM (Zbb (ZdP (nB c) (nB c) (.inr (.inr (.inl rfl))) (ZA vL vL)))) (ZaR (ZV (ZaC (nB c) (jc (ZA vL vL) Zp) ZaZ) vL ZcE) Zcv))) (Zy (ZI jB)) Z7) (Zx (ZcT sL (JI.seq (ZA vL vL)) (Zy (Z3 (Zbg (ZbF (ZV vL jN Zdw) (ZbF (ZcM (Zbb (cF c Zmp (jc vL Zp)))) Zdv))) (Zy (ZI jB)) Z7))) (Zy (Z3 (ZV (ZA (ZA vL vL) vL) jI ZcE) (Zy (ZI jB)) Z7))))) (Zy (ZI jB))))
theorem Zux: DD w s₀ mg mb 599 3 Zma:=by
 unfold DD;k_fill
 refine Dof (names:=["_law_thing","_law_many","_law_pair"]) (g:=Zl9) ?_
 exact fun _ _ _ _ _ _ _ c _ _=>(Zx (Z3 (Zbg (ZaR (ZcM (Zbb (ZdP (nB c) (nB c) (.inr (.inr (.inr rfl))) vL))) (ZaR (ZV (ZaC (nB c) (jc vL Zp) ZaZ) jI ZcE) (ZaR (ZcM (Zbb (cF c Zu8 (jc (ZA vL jI) (jc (ZJ vL jI Zaj) Zp))))) Zcv)))) (Zy (ZI jB)) Z7) (Zx (Z3 (Zbg (ZaR (ZcM (Zbb (ZdP (nB c) (nB c) (.inr (.inr (.inl rfl))) (ZA vL jI)))) (ZaR (ZV (ZaC (nB c) (jc (ZA vL jI) Zp) ZaZ) vL ZcE) Zcv))) (Zy (ZI jB)) Z7) (Zx (ZcT sL (JI.seq (ZA vL jI)) (Zx (Z3 (Zbg (ZaR (ZcM (Zbb (ZdP (nB c) (nB c) (.inr (.inr (.inr rfl))) vL))) (ZaR (ZV (ZaC (nB c) (jc vL Zp) ZaZ) jI ZcE) Zcv))) (Zy (ZI jB)) Z7) (Zx (Z3 (Zbg (ZaR (ZcM (Zbb (cF c Zmp (jc (ZA vL jI) Zp)))) (ZaR (ZcM (Zbb (cF c Zmp (jc (ZA vL jI) Zp)))) Zcv))) (Zy (ZI jB)) Z7) (Zy (Z3 (Zbg (ZaR (ZV (ZA vL jI) jI Zc5) (ZaR (Zbg (ZbF (ZV (ZA vL jI) jI Zfh) (ZbF (ZcM (Zwg jI (ZA vL jI) (ZA vL jI) Zo1 Zc5)) Zdv))) Zcv))) (Zy (ZI jB)) Z7))))) (Zy (ZI jB)))))
theorem Zqm: DD w s₀ mg mb 606 4 ZiD:=by
 unfold DD;k_fill
 refine Dof (names:=["_law_found","_law_due"]) (g:=ZmN) ?_
 exact fun _ _ _ _ _ _ _ c _ _=>(Zx (Z3 (ZV vL jN Zbv) (Zy (ZI (Zcq vL jN Zbv))) Z7) (Zy (ZI (Zgg (cF c Zux (jc vL (jc (ZaC (nB c) (jc (ZA vL jI) Zp) ZaZ) Zp))) (Zcq vL vL Zaw)))))
end
end L
end
section
open PySem PySem.W PySem.Calls PyProof.Rows PM
open L
seal PySem.wpAny PM.J PM.Js PM.JT PM.JA PM.JF PM.JI PM.JI2 PM.JP PM.S1 PM.Ss PM.Sto PM.Rd PM.Nm PM.OpN PM.Op2 PM.Def
theorem PySem.Challenge.cw_seer_k55_claims_and_calls_holds : PySem.Challenge.rw_seer_k55_claims_and_calls.Holds :=
 head (by
  w_strict (k_go0;(rename Well _ _ _ _=>w9);(rename Frag.In _ _=>kx9);(rename Top _ _ _ _ _ _=>t9);(rename Fr _ _ _ _=>f9);(rename News _ _ _ _=>n9);(rename CellsAre _ _ _=>x9);(rename (PyData.layable0 _=true)=>hl9);(obtain⟨H9,e9⟩:=L.Zt9 (by omega) hl9);(refine' PM.ZwS (names:=["_law_script","_law_many","_law_boxes","_law_told_here","_law_way","_law_kept","_law_claim_here","_law_truth","_law_found","_law_row","_law_at","_law_x","_law_some","_law_summaries_here","_law_summary"]) (g:=ZnX) (room:=14) ?hb ?h1 ?h2 ?h3 ?h4 kx9 t9 w9 ?len f9 n9 x9 e9 ?post);(case h1=>decide);(case h2=>decide);(case h3=>rfl);(case h4=>rfl);(case len=>(rw[PM.Zba];omega));(case hb=>(intro dp un gd L a ccd outer h₀ hu clr hd1 hu1;exact(Zx (ZX sC (ZA (J.list (jc jI (jc jI (jc jI (jc jI (jc jI (jc jI (jc jI (jc jI (jc jI Zp)))))))))) (cF clr law_pick_d (jc vC (jc jI (jc jI Zp)))))) (Zx (ZX sC (by refine cO ?_ ?_ ?_;(exact(JI.range (nB clr) (jc vC Zp)));(exact fun _ _=>(cF (ZbA clr) ZgC (jc vD (jc (ZJ jI vO Zaj) Zp))));(exact fun _ _=>JF.nil))) (Zx (ZX sL (cF clr Zqj (jc vC (jc jI (jc vC Zp))))) (Zx (ZX sL (cF clr law_pick_d (jc vC (jc jI (jc jI Zp))))) (Zx (Z3 (ZV (ZJ vL jI ZaV) jI Zaw) (Zy (ZX sL (cF clr Zud (jc vC (jc jI (jc vL Zp)))))) Z7) (Zx (Z3 (ZV (ZJ vL jI ZaV) jI Zaw) (Zy (ZX sL jN)) Z7) (Zx (ZX sL (cF clr Zu4 (jc vL Zp))) (Zx (Z3 (ZV (cF clr law_pick_d (jc vC (jc jI (jc jI Zp)))) jI Zaw) (Zx (ZX sL (cF clr Zth (jc vC (jc vC Zp)))) (Zx (ZcT sL (JI.seq (J.list (jc jB (jc jB Zp)))) (Zx (ZX sL (cF clr ZqF (jc vL (jc (J.tup (jc jS (jc vL (jc vL Zp)))) (jc (J.list Zp) Zp))))) (Zy (Z3 (Zbg (ZaR (ZcM (Zbb (cF clr Zqm (jc vL (jc (cF clr Zsy (jc (cF clr ZdU (jc vL Zp)) (jc vL (jc vL Zp)))) Zp))))) (ZaR (ZV vL vL ZcE) Zcv))) (Zy (ZI jB)) Z7)))) (Zy (ZI jB)))) Z7) (Zx (by refine sO sL ?_ ?_ ?_;(exact(JI.range (nB clr) (jc (ZA (J.list (jc jI (jc jI (jc jI (jc jI Zp))))) (cF clr law_pick_d (jc vC (jc jI (jc jI Zp))))) Zp)));(exact fun _ _=>(cF (ZbA clr) ZqG (jc vD (jc (ZJ jI (ZJ jI vO Zbu) Zaj) (jc vD Zp)))));(exact fun _ _=>JF.nil)) (Zx (ZX sL (cF clr law_pick_d (jc vC (jc jI (jc jI Zp))))) (Zx (ZX sL (ZJ jI (cF clr law_pick_d (jc vC (jc jI (jc vC Zp)))) Zaj)) (Zx (by refine sO sL ?_ ?_ ?_;(exact(JI.seq vL));(exact fun _ _=>(cF (ZbA clr) ZpZ (jc vO (jc vD Zp))));(exact fun _ _=>JF.nil)) (Zx (ZX sL (cF clr ZkM (jc vC (jc vL (jc vL Zp))))) (Zx (ZX sL (cF clr ZqF (jc vL (jc (J.tup (jc jS (jc vL (jc vL (jc vL Zp))))) (jc vL Zp))))) (Zx (ZX sL (ZA (cF clr ZkM (jc vC (jc vL (jc vL Zp)))) vL)) (Zx (Z3 (ZcM (Zbb (cF clr Zqm (jc vL (jc (cF clr Zql (jc (cF clr ZdU (jc vL Zp)) (jc vL (jc vL (jc vL Zp))))) Zp))))) (Zy (ZI jB)) Z7) (Zy (ZI (Zgg (Zcq vL vL Zaw) (Zcq vL (cF clr ZkM (jc vC (jc vL (jc vL Zp)))) Zaw))))))))))))))))))))));(case post=>(intro h' tk' m' F';k_steps)))
  )
end
