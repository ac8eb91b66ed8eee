import PyProof.Rows.All
import Wide.All
import OpenK.AllK
import Wide.FinOn
import PySem.Challenge.RW_seer_k58_whole_outcomes_keep_boxes
import PyProof.Rows.News
import PyProof.Rows.Nodes
import PyProof.Rows.Chain
import PyProof.Rows.TupSub
import PyProof.PureInt
import PyProof.Rules2
import PyProof.Rules3
import PyProof.Rows.Globals
import PyProof.Rows.RuleB_mod
import PyProof.Rows.RuleB_floordiv
import PyProof.Rows.RuleB_small
import PyProof.NoPylong
import PyProof.Rows.RuleB_pow
import PyProof.Rows.EqDataRows
import PyProof.Rows.StrTemp
import PyProof.Rows.TupAdd
import PyProof.Rows.ListMul
import PyProof.ListIndexNeg
import PyProof.SliceList
import PyProof.Methods
import PyProof.Rows.Tup
import PyProof.IsiPairs
import PyProof.IsiHeapPairs
import PyProof.IsiNone
import PyProof.Rows.RuleN_abs
import PyProof.Rows.SumAny
import PyProof.WalkInts
import PyProof.PvWalk
import PyProof.RulesRaise
import PyProof.Raises
import PyProof.Dict
import PyProof.Seq
import PyProof.Rows.ListAppend
import PyProof.ForAppend
import PyProof.ForAny
import PyProof.Walks
import PyProof.WalksT
import KE.KItem
import PyProof.WalksMore
import PyProof.RangeFor
import PyProof.Rows.Range3
import OpenK.KCell
import KE.KTree
import KE.RegLcTurns
import KE.KCompFold
import KE.KLcPair
import KE.LcTurns
import PyProof.CompUse
import PyProof.Rows.ZipGen
import OpenK.KLine
import KE.KState
import Wide.Well
import PyProof.ListCopy
import PyProof.Rows.TupleOfSeqD
import KE.LcSums
import KE.KCellOne
import PyProof.FitsBits
import KE.KEqDeep
import PyProof.Rows.TupMore
import PyProof.Rows.NestLooks
import PyProof.EnumMake
import PyProof.WalksEnum
import PyProof.Rows.SortWalk
import PyProof.DictStraight
import PyProof.EqAt
import PyProof.Rows.SeqMore2
import PyProof.ListRange
import PyProof.LongRange
import KE.KRevIter
import KE.KAnyBase
import PyProof.Rows.SeqSlice
set_option linter.all false
set_option maxRecDepth 100000
set_option maxHeartbeats 8000000
abbrev Zz0:=@Option.bind_eq_some_iff
abbrev Zz1:=@Option.map_eq_some_iff
abbrev Zz2:=@List.mem_cons_of_mem
abbrev Zz3:=@List.mem_append_right
abbrev Zz4:=@List.mem_append_left
abbrev Zz5:=@List.mem_cons_self
abbrev Zz6:=@List.getElem?_eq_some_iff
abbrev Zz7:=@List.mem_cons
abbrev Zz8:=@List.mem_append
abbrev Zz9:=@List.mem_singleton
abbrev Zz10:=@Nat.le_refl
abbrev Zz11:=@List.mem_map
set_option Elab.async false
set_option compiler.extract_closed false
section
/-! The plain machine: values as trees, lists as places; and how it stands for the model's heap. -/
namespace PM
open PySem PyProof.Rows
inductive V where
 | none
 | bool (b:Bool)
 | int (i:Int)
 | str (s:Str)
 | tup (vs:List V)
 | ref (a:Nat)
noncomputable abbrev Hp:=List (List V)
noncomputable abbrev Lc:=Nat→Option V
noncomputable def LEN: Nat:=100000
theorem ZaO: LEN=100000:=rfl
theorem ZcV{n:Nat}(h:n≤LEN): n≤sizeLine:=by
 have:sizeLine=2 ^ 24:=rfl
 rw[this];rw[ZaO]at h;omega
noncomputable abbrev ZeU(xs:List Value)(k:Nat): Obj:={ cls:=.type "tuple",data:=.seq xs.toArray k }
noncomputable abbrev Zbg(xs:List Value)(k:Nat): Obj:={ cls:=.type "list",data:=.seq xs.toArray k }
structure Wd where
 pi:List Addr
 tups:List (Addr×Obj)
 sc:Addr×Obj
structure Wd.Le(W W':Wd): Prop where
 pi:W.pi <+: W'.pi
 tups:∀q∈W.tups,q∈W'.tups
 sc:W'.sc=W.sc
theorem Wd.Le.refl(W:Wd): W.Le W:=⟨List.prefix_refl _,fun _ h=>h,rfl⟩
theorem Wd.Le.trans{W W' W'':Wd}(a:W.Le W')(b:W'.Le W''): W.Le W'':=⟨a.pi.trans b.pi,fun q h=>b.tups q (a.tups q h),b.sc.trans a.sc⟩
theorem Wd.Le.at{W W':Wd}(h:W.Le W'){i:Nat}{a:Addr}(e:W.pi[i]?=some a): W'.pi[i]?=some a:=by
 obtain⟨t,ht⟩:=h.pi
 have hi:i<W.pi.length:=(Zz6.mp e).1
 rw[←ht,List.getElem?_append_left hi]
 exact e
mutual
inductive VR(W:Wd): V→Value→Prop where
 | none:VR W .none .none
 | bool (b:Bool):VR W (.bool b) (.bool b)
 | int (i:Int) (t:Tok):VR W (.int i) (.int i t)
 | str (s:Str) (t:Tok):VR W (.str s) (.str s t)
 | tup {vs:List V} {a:Addr} {xs:List Value} {k:Nat}:(a,ZeU xs k)∈W.tups→vs.length≤LEN→VRs W vs xs→VR W (.tup vs) (.ref a)
 | ref {i:Nat} {a:Addr}:W.pi[i]?=some a→VR W (.ref i) (.ref a)
inductive VRs(W:Wd): List V→List Value→Prop where
 | nil:VRs W [] []
 | cons {v:V} {x:Value} {vs:List V} {xs:List Value}:VR W v x→VRs W vs xs→VRs W (v::vs) (x::xs)
end
mutual
theorem VR.mono{W W':Wd}(h:W.Le W'){v:V}{x:Value}(r:VR W v x): VR W' v x:=by
 cases r with
 | none=>exact .none
 | bool b=>exact .bool b
 | int i t=>exact .int i t
 | str s t=>exact .str s t
 | tup hm hl hs=>exact .tup (h.tups _ hm) hl (VRs.mono h hs)
 | ref e=>exact .ref (h.at e)
theorem VRs.mono{W W':Wd}(h:W.Le W'){vs:List V}{xs:List Value}(r:VRs W vs xs): VRs W' vs xs:=by
 cases r with
 | nil=>exact .nil
 | cons a b=>exact .cons (VR.mono h a) (VRs.mono h b)
end
theorem VRs.length{W:Wd}: ∀{vs:List V} {xs:List Value},VRs W vs xs→xs.length=vs.length
 | _,_,.nil=>rfl
 | _,_,.cons _ r=>by rw[List.length_cons,List.length_cons,r.length]
theorem VRs.at{W:Wd}: ∀{vs:List V} {xs:List Value} {i:Nat} {v:V},VRs W vs xs→vs[i]?=some v→∃x,xs[i]?=some x∧VR W v x
 | _,_,_,_,.nil,e=>by simp at e
 | _,_,0,_,.cons a _,e=>by
  simp at e
  exact⟨_,by simp,e▸a⟩
 | _,_,i+1,_,.cons _ r,e=>by
  simp at e
  obtain⟨x,hx,hr⟩:=r.at e
  exact⟨x,by simpa using hx,hr⟩
theorem VRs.append{W:Wd}: ∀{vs us:List V} {xs ys:List Value},VRs W vs xs→VRs W us ys→VRs W (vs++us) (xs++ys)
 | _,_,_,_,.nil,h=>h
 | _,_,_,_,.cons a r,h=>.cons a (r.append h)
theorem VRs.snoc{W:Wd}{vs:List V}{xs:List Value}{v:V}{x:Value}(h:VRs W vs xs)(r:VR W v x): VRs W (vs++[v]) (xs++[x]):=h.append (.cons r .nil)
theorem VRs.set{W:Wd}: ∀{vs:List V} {xs:List Value} {v:V} {x:Value} (i:Nat),VRs W vs xs→VR W v x→VRs W (vs.set i v) (xs.set i x)
 | _,_,_,_,_,.nil,_=>.nil
 | _,_,_,_,0,.cons _ r,h=>.cons h r
 | _,_,_,_,i+1,.cons a r,h=>.cons a (r.set i h)
theorem VRs.drop{W:Wd}: ∀{vs:List V} {xs:List Value} (i:Nat),VRs W vs xs→VRs W (vs.drop i) (xs.drop i)
 | _,_,0,h=>h
 | _,_,_+1,.nil=>.nil
 | _,_,i+1,.cons _ r=>r.drop i
structure HR(W:Wd)(H:Hp)(led:List (Addr×Obj)): Prop where
 len:W.pi.length=H.length
 nd:W.pi.Nodup
 lists:∀(i:Nat) (vs:List V),H[i]?=some vs→vs.length≤LEN∧∃a xs k,W.pi[i]?=some a∧(a,Zbg xs k)∈led∧VRs W vs xs
 tups:∀q∈W.tups,q∈led
 kind:∀q∈W.tups,∃xs k,q.2=ZeU xs k
theorem HR.mono{W:Wd}{H:Hp}{led led':List (Addr×Obj)}(R:HR W H led)(h:∀q∈led,q∈led'): HR W H led':=
 ⟨R.len,R.nd,fun i vs e=>by
  obtain⟨l,a,xs,k,h1,h2,h3⟩:=R.lists i vs e
  exact⟨l,a,xs,k,h1,h _ h2,h3⟩,fun q hq=>h q (R.tups q hq),R.kind⟩
structure Cx where
 A:Around
 env:Env
 h₀:Heap
 L:Addr
 hh:A.handled=none
 hu:A.units+200<cLine
 Own:Wd→Lc→(Str→Option Value)→List (Addr×Obj)→Prop
 mono:∀{W W':Wd} {ρ:Lc} {m:Str→Option Value} {c:List (Addr×Obj)},W.Le W'→Own W ρ m c→Own W' ρ m c
structure Rep'(Γ:Cx)(W:Wd)(ρ:Lc)(H:Hp)(fr:List (Addr×Obj))(h:Heap)(m:Str→Option Value)(cells led:List (Addr×Obj)): Prop where
 F:Fr Γ.h₀ Γ.L h m
 N:News Γ.h₀ Γ.L h led
 R:HR W H (W.sc::led)
 sc:Γ.h₀.get? W.sc.1=some W.sc.2
 sc0:W.pi[0]?=some W.sc.1
 frIn:∀q∈fr,q∈led
 frOff:∀q∈fr,q.1∉W.pi
 clIn:∀q∈cells,q∈led
 clOff:∀q∈cells,q.1∉W.pi
 apart:∀q∈cells,∀r∈fr,q.1≠r.1
 frTup:∀q∈fr,∀t∈W.tups,q.1≠t.1
 clTup:∀q∈cells,∀t∈W.tups,q.1≠t.1
 own:Γ.Own W ρ m cells
def Rep(Γ:Cx)(W:Wd)(ρ:Lc)(H:Hp)(fr:List (Addr×Obj))(h:Heap): Prop:=∃m cells led,Rep' Γ W ρ H fr h m cells led
theorem Rep.grown{Γ:Cx}{W:Wd}{ρ:Lc}{H:Hp}{fr:List (Addr×Obj)}{h h':Heap}(r:Rep Γ W ρ H fr h)(up:∀b o,h.get? b=some o→h'.get? b=some o): Rep Γ W ρ H fr h':=by
 obtain⟨m,c,led,r⟩:=r
 refine⟨m,c,led,⟨⟨?_,fun b o e=>up b o (r.F.keep b o e),r.F.above⟩,fun q hq=>⟨up _ _ (r.N q hq).1,(r.N q hq).2⟩,r.R,r.sc,r.sc0,r.frIn,r.frOff,r.clIn,r.clOff,r.apart,r.frTup,r.clTup,r.own⟩⟩
 obtain⟨o,es,ep,h1,h2⟩:=r.F.ns
 exact⟨o,es,ep,up _ _ h1,h2⟩
theorem Rep.push{Γ:Cx}{W:Wd}{ρ:Lc}{H:Hp}{fr:List (Addr×Obj)}{h:Heap}(r:Rep Γ W ρ H fr h)(o:Obj): Rep Γ W ρ H fr (h.push o):=r.grown fun _ _ e=>Heap.get?_push_of_some _ e
theorem Zd8{q s:Addr×Obj}{l l':List (Addr×Obj)}(h:q∈s::l)(m:q∈l→q∈l'): q∈s::l':=by
 rcases Zz7.mp h with e | h
 ·exact e▸List.mem_cons_self
 ·exact Zz2 _ (m h)
theorem ZfI{q s:Addr×Obj}{l l':List (Addr×Obj)}(h:q∈s::l)(m:∀x∈l,x∈l'): q∈s::l':=by
 rcases Zz7.mp h with e | h
 ·exact e▸List.mem_cons_self
 ·exact Zz2 _ (m q h)
theorem Rep'.get{Γ:Cx}{W:Wd}{ρ:Lc}{H:Hp}{fr:List (Addr×Obj)}{h:Heap}{m:Str→Option Value}{c led:List (Addr×Obj)}(r:Rep' Γ W ρ H fr h m c led){q:Addr×Obj}(hq:q∈W.sc::led): h.get? q.1=some q.2:=by
 rcases Zz7.mp hq with e | hq
 ·rw[e]
  exact r.F.keep _ _ r.sc
 ·exact(r.N q hq).1
theorem Rep'.off{Γ:Cx}{W:Wd}{ρ:Lc}{H:Hp}{fr:List (Addr×Obj)}{h:Heap}{m:Str→Option Value}{c led:List (Addr×Obj)}(r:Rep' Γ W ρ H fr h m c led): ∀q∈W.sc::led,q.1≠h.objs.size:=fun q hq=>Nat.ne_of_lt (Heap.lt_size (r.get hq))
theorem Rep'.same{Γ:Cx}{W:Wd}{ρ:Lc}{H:Hp}{fr:List (Addr×Obj)}{h h':Heap}{m:Str→Option Value}{c led:List (Addr×Obj)}(r:Rep' Γ W ρ H fr h m c led)(F':Fr Γ.h₀ Γ.L h' m)(N':News Γ.h₀ Γ.L h' led): Rep Γ W ρ H fr h':=
 ⟨m,c,led,F',N',r.R,r.sc,r.sc0,r.frIn,r.frOff,r.clIn,r.clOff,r.apart,r.frTup,r.clTup,r.own⟩
theorem Rep'.piIn{Γ:Cx}{W:Wd}{ρ:Lc}{H:Hp}{fr:List (Addr×Obj)}{h:Heap}{m:Str→Option Value}{c led:List (Addr×Obj)}(r:Rep' Γ W ρ H fr h m c led): ∀a∈W.pi,∃o,(a,o)∈W.sc::led:=by
 intro a ha
 obtain⟨i,hi,e⟩:=List.getElem_of_mem ha
 have hi':i<H.length:=r.R.len▸hi
 obtain⟨_,b,xs,k,h1,h2,_⟩:=r.R.lists i H[i] (List.getElem?_eq_getElem hi')
 have:b=a:=by rw[List.getElem?_eq_getElem hi,e]at h1;exact(Option.some.inj h1).symm
 exact⟨_,this▸h2⟩
theorem Rep'.inLed{Γ:Cx}{W:Wd}{ρ:Lc}{H:Hp}{fr:List (Addr×Obj)}{h:Heap}{m:Str→Option Value}{c led:List (Addr×Obj)}(r:Rep' Γ W ρ H fr h m c led){i:Nat}{a:Addr}{o:Obj}(hi:i≠0)(ea:W.pi[i]?=some a)(hm:(a,o)∈W.sc::led): (a,o)∈led:=by
 rcases Zz7.mp hm with e | hm
 ·have e1:a=W.sc.1:=congrArg (·.1) e
  have hl:i<W.pi.length:=(Zz6.mp ea).1
  have:i=0:=(List.getElem?_inj hl r.R.nd).mp (by rw[ea,r.sc0,e1])
  exact absurd this hi
 ·exact hm
theorem Rep'.notSc{Γ:Cx}{W:Wd}{ρ:Lc}{H:Hp}{fr:List (Addr×Obj)}{h:Heap}{m:Str→Option Value}{c led:List (Addr×Obj)}(r:Rep' Γ W ρ H fr h m c led): ∀q∈led,q.1≠W.sc.1:=fun q hq e=>by
 have:=(r.N q hq).2.2
 rw[e,r.sc]at this
 cases this
theorem Rep'.newTup{Γ:Cx}{W:Wd}{ρ:Lc}{H:Hp}{fr:List (Addr×Obj)}{h h':Heap}{m:Str→Option Value}{c led:List (Addr×Obj)}{vs:List V}{xs:List Value}{k:Nat}{n:Addr}(r:Rep' Γ W ρ H fr h m c led)(F':Fr Γ.h₀ Γ.L h' m)(N':News Γ.h₀ Γ.L h' ((n,ZeU xs k)::led))(hn:∀q∈W.sc::led,q.1≠n)(hv:VRs W vs xs)(hl:vs.length≤LEN):
  ∃W',W.Le W'∧Rep Γ W' ρ H fr h'∧VR W' (.tup vs) (.ref n):=by
 have le:W.Le ⟨W.pi,(n,ZeU xs k)::W.tups,W.sc⟩:=⟨List.prefix_refl _,fun q hq=>List.mem_cons_of_mem _ hq,rfl⟩
 refine⟨⟨W.pi,(n,ZeU xs k)::W.tups,W.sc⟩,le,⟨m,c,(n,ZeU xs k)::led,⟨F',N',?_,r.sc,r.sc0,fun q hq=>List.mem_cons_of_mem _ (r.frIn q hq),r.frOff,fun q hq=>List.mem_cons_of_mem _ (r.clIn q hq),r.clOff,r.apart,fun q hq t ht=>?_,fun q hq t ht=>?_,Γ.mono le r.own⟩⟩,.tup Zz5 hl (hv.mono le)⟩
 ·refine⟨r.R.len,r.R.nd,fun i us e=>?_,fun q hq=>?_,fun q hq=>?_⟩
  ·obtain⟨l,a,ys,j,h1,h2,h3⟩:=r.R.lists i us e
   exact⟨l,a,ys,j,h1,ZfI h2 fun x hx=>List.mem_cons_of_mem _ hx,h3.mono le⟩
  ·rcases Zz7.mp hq with e | hq
   ·exact e▸List.mem_cons_of_mem _ Zz5
   ·exact ZfI (r.R.tups q hq) fun x hx=>List.mem_cons_of_mem _ hx
  ·rcases Zz7.mp hq with e | hq
   ·exact⟨xs,k,by rw[e]⟩
   ·exact r.R.kind q hq
 ·rcases Zz7.mp ht with e | ht
  ·rw[e]
   exact hn q (Zz2 _ (r.frIn q hq))
  ·exact r.frTup q hq t ht
 ·rcases Zz7.mp ht with e | ht
  ·rw[e]
   exact hn q (Zz2 _ (r.clIn q hq))
  ·exact r.clTup q hq t ht
theorem Rep.tuple{Γ:Cx}{W:Wd}{ρ:Lc}{H:Hp}{fr:List (Addr×Obj)}{h:Heap}{vs:List V}{xs:List Value}{k:Nat}(r:Rep Γ W ρ H fr h)(hv:VRs W vs xs)(hl:vs.length≤LEN):
  ∃W',W.Le W'∧Rep Γ W' ρ H fr (h.push (ZeU xs k))∧VR W' (.tup vs) (.ref h.objs.size):=by
 obtain⟨m,c,led,r⟩:=r
 exact r.newTup (r.F.push _) (News.push r.F r.N _) r.off hv hl
theorem Rep'.newList{Γ:Cx}{W:Wd}{ρ:Lc}{H:Hp}{fr:List (Addr×Obj)}{h h':Heap}{m:Str→Option Value}{c led:List (Addr×Obj)}{vs:List V}{xs:List Value}{k:Nat}{n:Addr}(r:Rep' Γ W ρ H fr h m c led)(F':Fr Γ.h₀ Γ.L h' m)(N':News Γ.h₀ Γ.L h' ((n,Zbg xs k)::led))(hn:∀q∈W.sc::led,q.1≠n)(hv:VRs W vs xs)(hl:vs.length≤LEN):
  ∃W',W.Le W'∧Rep Γ W' ρ (H++[vs]) fr h'∧VR W' (.ref H.length) (.ref n):=by
 have le:W.Le ⟨W.pi++[n],W.tups,W.sc⟩:=⟨List.prefix_append _ _,fun q hq=>hq,rfl⟩
 have h0:0<W.pi.length:=(Zz6.mp r.sc0).1
 have at_n:(W.pi++[n])[H.length]?=some n:=by rw[←r.R.len];simp
 refine⟨⟨W.pi++[n],W.tups,W.sc⟩,le,⟨m,c,(n,Zbg xs k)::led,⟨F',N',?_,r.sc,(List.getElem?_append_left h0).trans r.sc0,fun q hq=>List.mem_cons_of_mem _ (r.frIn q hq),fun q hq=>?_,fun q hq=>List.mem_cons_of_mem _ (r.clIn q hq),fun q hq=>?_,r.apart,r.frTup,r.clTup,Γ.mono le r.own⟩⟩,.ref at_n⟩
 ·refine⟨by simp[r.R.len],?_,fun i us e=>?_,fun q hq=>ZfI (r.R.tups q hq) fun x hx=>List.mem_cons_of_mem _ hx,r.R.kind⟩
  ·show(W.pi++[n]).Nodup
   rw[List.nodup_append]
   refine⟨r.R.nd,by simp,fun a ha b hb=>?_⟩
   rw[List.mem_singleton.mp hb]
   obtain⟨o,ho⟩:=r.piIn a ha
   exact hn _ ho
  ·by_cases hi:i<H.length
   ·rw[List.getElem?_append_left hi]at e
    obtain⟨l,a,ys,j,h1,h2,h3⟩:=r.R.lists i us e
    exact⟨l,a,ys,j,le.at h1,ZfI h2 fun x hx=>List.mem_cons_of_mem _ hx,h3.mono le⟩
   ·have:i=H.length:=by
     have:=(Zz6.mp e).1
     simp at this
     omega
    subst this
    simp at e
    subst e
    exact⟨hl,n,xs,k,at_n,List.mem_cons_of_mem _ Zz5,hv.mono le⟩
 ·intro hm
  rcases Zz8.mp hm with hm | hm
  ·exact r.frOff q hq hm
  ·exact hn q (Zz2 _ (r.frIn q hq)) (Zz9.mp hm)
 ·intro hm
  rcases Zz8.mp hm with hm | hm
  ·exact r.clOff q hq hm
  ·exact hn q (Zz2 _ (r.clIn q hq)) (Zz9.mp hm)
theorem Rep.list{Γ:Cx}{W:Wd}{ρ:Lc}{H:Hp}{fr:List (Addr×Obj)}{h:Heap}{vs:List V}{xs:List Value}{k:Nat}(r:Rep Γ W ρ H fr h)(hv:VRs W vs xs)(hl:vs.length≤LEN):
  ∃W',W.Le W'∧Rep Γ W' ρ (H++[vs]) fr (h.push (Zbg xs k))∧VR W' (.ref H.length) (.ref h.objs.size):=by
 obtain⟨m,c,led,r⟩:=r
 exact r.newList (r.F.push _) (News.push r.F r.N _) r.off hv hl
theorem Rep.at{Γ:Cx}{W:Wd}{ρ:Lc}{H:Hp}{fr:List (Addr×Obj)}{h:Heap}{i:Nat}{a:Addr}{vs:List V}(r:Rep Γ W ρ H fr h)(e:H[i]?=some vs)(ea:W.pi[i]?=some a): vs.length≤LEN∧∃xs k,h.get? a=some (Zbg xs k)∧VRs W vs xs:=by
 obtain⟨m,c,led,r⟩:=r
 obtain⟨l,b,xs,k,h1,h2,h3⟩:=r.R.lists i vs e
 rw[ea]at h1
 cases h1
 exact⟨l,xs,k,r.get h2,h3⟩
theorem Rep.tupAt{Γ:Cx}{W:Wd}{ρ:Lc}{H:Hp}{fr:List (Addr×Obj)}{h:Heap}{q:Addr×Obj}(r:Rep Γ W ρ H fr h)(e:q∈W.tups): h.get? q.1=some q.2:=by
 obtain⟨m,c,led,r⟩:=r
 exact r.get (r.R.tups _ e)
theorem Rep'.changed{Γ:Cx}{W:Wd}{ρ:Lc}{H:Hp}{fr:List (Addr×Obj)}{h h':Heap}{m:Str→Option Value}{c led:List (Addr×Obj)}{i:Nat}{a:Addr}{vs us:List V}{ys:List Value}{k:Nat}(r:Rep' Γ W ρ H fr h m c led)(i0:i≠0)(e:H[i]?=some vs)(ea:W.pi[i]?=some a)(F':Fr Γ.h₀ Γ.L h' m)(N':News Γ.h₀ Γ.L h' ((a,Zbg ys k)::led.filter (fun q=>decide (q.1≠a))))(hv:VRs W us ys)(hl:us.length≤LEN):
  Rep Γ W ρ (H.set i us) fr h':=by
 obtain⟨_,b,xs,j,h1,h2,h3⟩:=r.R.lists i vs e
 rw[ea]at h1
 cases h1
 have h2:=r.inLed i0 ea h2
 have hN:=r.N _ h2
 have hm:a∈W.pi:=List.mem_of_getElem? ea
 have hi:i<H.length:=(Zz6.mp e).1
 refine⟨m,c,(a,Zbg ys k)::led.filter (fun q=>decide (q.1≠a)),⟨F',N',?_,r.sc,r.sc0,fun q hq=>?_,r.frOff,fun q hq=>?_,r.clOff,r.apart,r.frTup,r.clTup,r.own⟩⟩
 ·refine⟨by simp[r.R.len],r.R.nd,fun n ws en=>?_,fun q hq=>?_,r.R.kind⟩
  ·by_cases hn:n=i
   ·subst hn
    rw[List.getElem?_set_self hi]at en
    cases en
    exact⟨hl,a,ys,k,ea,List.mem_cons_of_mem _ Zz5,hv⟩
   ·rw[List.getElem?_set_ne (Ne.symm hn)]at en
    obtain⟨l,d,zs,j',g1,g2,g3⟩:=r.R.lists n ws en
    refine⟨l,d,zs,j',g1,Zd8 g2 fun g2=>List.mem_cons_of_mem _ (List.mem_filter.mpr ⟨g2,?_⟩),g3⟩
    have:d≠a:=fun e=>by
     subst e
     exact hn ((List.getElem?_inj (Zz6.mp g1).1 r.R.nd).mp (g1.trans ea.symm))
    simpa using this
  ·refine Zd8 (r.R.tups q hq) fun g2=>List.mem_cons_of_mem _ (List.mem_filter.mpr ⟨g2,?_⟩)
   have:q.1≠a:=fun e=>by
    obtain⟨zs,j',hk⟩:=r.R.kind q hq
    have g:=r.get (r.R.tups q hq)
    rw[e,hN.1,hk]at g
    have c:=congrArg Obj.cls (Option.some.inj g)
    exact absurd c (by simp)
   simpa using this
 ·refine Zz2 _ (List.mem_filter.mpr ⟨r.frIn q hq,?_⟩)
  have:q.1≠a:=fun e=>r.frOff q hq (e▸hm)
  simpa using this
 ·refine Zz2 _ (List.mem_filter.mpr ⟨r.clIn q hq,?_⟩)
  have:q.1≠a:=fun e=>r.clOff q hq (e▸hm)
  simpa using this
theorem Rep.change{Γ:Cx}{W:Wd}{ρ:Lc}{H:Hp}{fr:List (Addr×Obj)}{h h':Heap}{i:Nat}{a:Addr}{vs us:List V}{ys:List Value}{k:Nat}(r:Rep Γ W ρ H fr h)(i0:i≠0)(e:H[i]?=some vs)(ea:W.pi[i]?=some a)(sb:Heap.SameBut a h h')(ha:h'.get? a=some (Zbg ys k))(hv:VRs W us ys)(hl:us.length≤LEN):
  Rep Γ W ρ (H.set i us) fr h':=by
 obtain⟨m,c,led,r⟩:=r
 obtain⟨_,b,xs,j,h1,h2,h3⟩:=r.R.lists i vs e
 rw[ea]at h1
 cases h1
 have h2:=r.inLed i0 ea h2
 have hN:=r.N _ h2
 have keep:∀q∈led,q.1≠a→h'.get? q.1=some q.2:=fun q hq hn=>sb.extBut _ _ hn (r.N q hq).1
 refine r.changed (k:=k) i0 e ea ⟨r.F.ns.sameBut sb (Ne.symm hN.2.1),fun b o eb=>sb.extBut b o (fun q=>?_) (r.F.keep b o eb),r.F.above⟩ (fun q hq=>?_) hv hl
 ·subst q
  rw[hN.2.2]at eb
  cases eb
 ·rcases Zz7.mp hq with e | hq
  ·subst e
   exact⟨ha,hN.2⟩
  ·obtain⟨h1,h2⟩:=List.mem_filter.mp hq
   exact⟨keep q h1 (by simpa using h2),(r.N q h1).2⟩
theorem Rep.swap{Γ:Cx}{W:Wd}{ρ:Lc}{H:Hp}{fs fs' fr:List (Addr×Obj)}{h h':Heap}(r:Rep Γ W ρ H (fs++fr) h)(ap:∀q∈fs,∀t∈fr,q.1≠t.1)(keep:∀b o,b∉fs.map (·.1)→h.get? b=some o→h'.get? b=some o)(new:∀q∈fs',h'.get? q.1=some q.2∧q.1∈fs.map (·.1)): Rep Γ W ρ H (fs'++fr) h':=by
 obtain⟨m,c,led,r⟩:=r
 have inF:∀q∈fs,q∈fs++fr:=fun q hq=>List.mem_append_left _ hq
 have nL:∀a∈fs.map (·.1),a≠Γ.L∧Γ.h₀.get? a=none:=fun a ha=>by
  obtain⟨q,hq,e⟩:=Zz11.mp ha
  exact e▸(r.N q (r.frIn q (inF q hq))).2
 have kp:∀q∈led,q.1∉fs.map (·.1)→h'.get? q.1=some q.2:=fun q hq hn=>keep _ _ hn (r.N q hq).1
 refine⟨m,c,fs'++led.filter (fun q=>decide (q.1∉fs.map (·.1))),⟨⟨?_,fun b o e=>?_,r.F.above⟩,fun q hq=>?_,⟨r.R.len,r.R.nd,fun i vs e=>?_,fun q hq=>?_,r.R.kind⟩,r.sc,r.sc0,fun q hq=>?_,fun q hq=>?_,fun q hq=>?_,r.clOff,fun q hq t ht=>?_,fun q hq t ht=>?_,r.clTup,r.own⟩⟩
 ·obtain⟨o,es,ep,h1,h2⟩:=r.F.ns
  exact⟨o,es,ep,keep _ _ (fun q=>(nL _ q).1 rfl) h1,h2⟩
 ·refine keep b o (fun q=>?_) (r.F.keep b o e)
  rw[(nL b q).2]at e
  cases e
 ·rcases Zz8.mp hq with hq | hq
  ·obtain⟨h1,h2⟩:=new q hq
   exact⟨h1,nL _ h2⟩
  ·obtain⟨h1,h2⟩:=List.mem_filter.mp hq
   exact⟨kp q h1 (by simpa using h2),(r.N q h1).2⟩
 ·obtain⟨l,a,xs,k,h1,h2,h3⟩:=r.R.lists i vs e
  refine⟨l,a,xs,k,h1,Zd8 h2 fun h2=>List.mem_append_right _ (List.mem_filter.mpr ⟨h2,?_⟩),h3⟩
  have:a∉fs.map (·.1):=fun q=>by
   obtain⟨t,ht,e⟩:=Zz11.mp q
   exact r.frOff t (inF t ht) (e▸List.mem_of_getElem? h1)
  simpa using this
 ·refine Zd8 (r.R.tups q hq) fun h2=>List.mem_append_right _ (List.mem_filter.mpr ⟨h2,?_⟩)
  have:q.1∉fs.map (·.1):=fun z=>by
   obtain⟨t,ht,e⟩:=Zz11.mp z
   exact r.frTup t (inF t ht) q hq e
  simpa using this
 ·rcases Zz8.mp hq with hq | hq
  ·exact Zz4 _ hq
  ·refine Zz3 _ (List.mem_filter.mpr ⟨r.frIn q (Zz3 _ hq),?_⟩)
   have:q.1∉fs.map (·.1):=fun z=>by
    obtain⟨t,ht,e⟩:=Zz11.mp z
    exact ap t ht q hq e
   simpa using this
 ·rcases Zz8.mp hq with hq | hq
  ·obtain⟨t,ht,e⟩:=Zz11.mp (new q hq).2
   exact e▸r.frOff t (inF t ht)
  ·exact r.frOff q (Zz3 _ hq)
 ·refine Zz3 _ (List.mem_filter.mpr ⟨r.clIn q hq,?_⟩)
  have:q.1∉fs.map (·.1):=fun z=>by
   obtain⟨t,ht,e⟩:=Zz11.mp z
   exact r.apart q hq t (inF t ht) e.symm
  simpa using this
 ·rcases Zz8.mp ht with ht | ht
  ·obtain⟨u,hu,e⟩:=Zz11.mp (new t ht).2
   exact e▸r.apart q hq u (inF u hu)
  ·exact r.apart q hq t (Zz3 _ ht)
 ·rcases Zz8.mp hq with hq | hq
  ·obtain⟨u,hu,e⟩:=Zz11.mp (new q hq).2
   exact e▸r.frTup u (inF u hu) t ht
  ·exact r.frTup q (Zz3 _ hq) t ht
theorem Rep.more{Γ:Cx}{W:Wd}{ρ:Lc}{H:Hp}{fs fr:List (Addr×Obj)}{h h':Heap}(r:Rep Γ W ρ H fr h)(up:∀b o,h.get? b=some o→h'.get? b=some o)(new:∀q∈fs,h'.get? q.1=some q.2∧h.objs.size≤q.1): Rep Γ W ρ H (fs++fr) h'∧∀q∈fs,∀t∈fr,q.1≠t.1:=by
 have r':=r.grown up
 obtain⟨m,c,led,r⟩:=r
 have lt:∀q∈W.sc::led,q.1<h.objs.size:=fun q hq=>Heap.lt_size (r.get hq)
 have ne:∀q∈fs,∀t∈W.sc::led,q.1≠t.1:=fun q hq t ht=>Nat.ne_of_gt (Nat.lt_of_lt_of_le (lt t ht) (new q hq).2)
 refine⟨⟨m,c,fs++led,⟨⟨?_,fun b o e=>up b o (r.F.keep b o e),r.F.above⟩,fun q hq=>?_,r.R.mono fun q hq=>ZfI hq fun x hx=>List.mem_append_right _ hx,r.sc,r.sc0,fun q hq=>?_,fun q hq=>?_,fun q hq=>List.mem_append_right _ (r.clIn q hq),r.clOff,fun q hq t ht=>?_,fun q hq t ht=>?_,r.clTup,r.own⟩⟩,fun q hq t ht=>ne q hq t (Zz2 _ (r.frIn t ht))⟩
 ·obtain⟨o,es,ep,h1,h2⟩:=r.F.ns
  exact⟨o,es,ep,up _ _ h1,h2⟩
 ·rcases Zz8.mp hq with hq | hq
  ·obtain⟨h1,h2⟩:=new q hq
   refine⟨h1,fun e=>?_,?_⟩
   ·exact absurd (e▸r.F.ns.lt) (Nat.not_lt.mpr h2)
   ·cases e:Γ.h₀.get? q.1 with
    | none=>rfl
    | some o=>exact absurd (Heap.lt_size (r.F.keep _ _ e)) (Nat.not_lt.mpr h2)
  ·exact⟨up _ _ (r.N q hq).1,(r.N q hq).2⟩
 ·rcases Zz8.mp hq with hq | hq
  ·exact Zz4 _ hq
  ·exact Zz3 _ (r.frIn q hq)
 ·rcases Zz8.mp hq with hq | hq
  ·intro hm
   obtain⟨o,ho⟩:=r.piIn _ hm
   exact ne q hq _ ho rfl
  ·exact r.frOff q hq
 ·rcases Zz8.mp ht with ht | ht
  ·exact(ne t ht q (Zz2 _ (r.clIn q hq))).symm
  ·exact r.apart q hq t ht
 ·rcases Zz8.mp hq with hq | hq
  ·exact ne q hq t (r.R.tups t ht)
  ·exact r.frTup q hq t ht
theorem Rep.less{Γ:Cx}{W:Wd}{ρ:Lc}{H:Hp}{fs fr:List (Addr×Obj)}{h:Heap}(r:Rep Γ W ρ H fs h)(sub:∀q∈fr,q∈fs): Rep Γ W ρ H fr h:=by
 obtain⟨m,c,led,r⟩:=r
 exact⟨m,c,led,⟨r.F,r.N,r.R,r.sc,r.sc0,fun q hq=>r.frIn q (sub q hq),fun q hq=>r.frOff q (sub q hq),r.clIn,r.clOff,fun q hq t ht=>r.apart q hq t (sub t ht),fun q hq=>r.frTup q (sub q hq),r.clTup,r.own⟩⟩
theorem Rep.frAt{Γ:Cx}{W:Wd}{ρ:Lc}{H:Hp}{fr:List (Addr×Obj)}{h:Heap}{q:Addr×Obj}(r:Rep Γ W ρ H fr h)(hq:q∈fr): h.get? q.1=some q.2:=by
 obtain⟨m,c,led,r⟩:=r
 exact(r.N q (r.frIn q hq)).1
end PM
end
section
namespace PM
open PySem PyProof.Rows PyProof
noncomputable abbrev Ex:=Lc→Hp→Option (V×Hp)
noncomputable abbrev Exs:=Lc→Hp→Option (List V×Hp)
noncomputable abbrev Ts:=Lc→Hp→Option (Bool×Hp)
noncomputable abbrev Ziv(Γ:Cx)(W:Wd)(ρ:Lc)(H:Hp)(fr:List (Addr×Obj))(s:Shared)(Q:Value→Shared→Prop)(v:V): Prop:=
 ∀(W':Wd) (h':Heap) (tk':Nat) (x:Value),W.Le W'→Rep Γ W' ρ H fr h'→VR W' v x→Q x { s with heap:=h',toks:=tk' }
noncomputable abbrev Zkj(Γ:Cx)(W:Wd)(ρ:Lc)(H:Hp)(fr:List (Addr×Obj))(s:Shared)(Q:Bool→Shared→Prop)(b:Bool): Prop:=
 ∀(W':Wd) (h':Heap) (tk':Nat),W.Le W'→Rep Γ W' ρ H fr h'→Q b { s with heap:=h',toks:=tk' }
section
variable (prog:Program) (w:World)
def J(Γ:Cx)(e:Expr)(f:Ex): Prop:=∀(W:Wd) (ρ:Lc) (H:Hp) (fr:List (Addr×Obj)) (s:Shared) (Q E:Value→Shared→Prop) (v:V) (H':Hp),
 Rep Γ W ρ H fr s.heap→f ρ H=some (v,H')→Ziv Γ W ρ H' fr s Q v→wpAny (model prog w) Γ.A (eval e Γ.env) Q E s
def Js(Γ:Cx)(es:List Expr)(f:Exs): Prop:=∀(pos:Pos) (W:Wd) (ρ:Lc) (H:Hp) (fr:List (Addr×Obj)) (s:Shared) (Q:List Value→Shared→Prop) (E:Value→Shared→Prop) (vs:List V) (H':Hp),
 Rep Γ W ρ H fr s.heap→f ρ H=some (vs,H')→(∀(W':Wd) (h':Heap) (tk':Nat) (xs:List Value),W.Le W'→Rep Γ W' ρ H' fr h'→VRs W' vs xs→Q xs { s with heap:=h',toks:=tk' })→wpAny (model prog w) Γ.A (spliced (backTo pos (starEach es Γ.env))) Q E s
def JT(Γ:Cx)(e:Expr)(f:Ts): Prop:=∀(W:Wd) (ρ:Lc) (H:Hp) (fr:List (Addr×Obj)) (s:Shared) (Q:Bool→Shared→Prop) (E:Value→Shared→Prop) (b:Bool) (H':Hp),
 Rep Γ W ρ H fr s.heap→f ρ H=some (b,H')→Zkj Γ W ρ H' fr s Q b→wpAny (model prog w) Γ.A (isTrue e Γ.env (eval e Γ.env)) Q E s
def Op2(m:Value→Value→Sem Value)(o:V→V→Hp→Option (V×Hp)): Prop:=∀(Γ:Cx) (W:Wd) (ρ:Lc) (H:Hp) (fr:List (Addr×Obj)) (s:Shared) (Q E:Value→Shared→Prop) (a b:V) (x y:Value) (v:V) (H':Hp),
 Rep Γ W ρ H fr s.heap→VR W a x→VR W b y→o a b H=some (v,H')→Ziv Γ W ρ H' fr s Q v→wpAny (model prog w) Γ.A (m x y) Q E s
def Op1(m:Value→Sem Value)(o:V→Hp→Option (V×Hp)): Prop:=∀(Γ:Cx) (W:Wd) (ρ:Lc) (H:Hp) (fr:List (Addr×Obj)) (s:Shared) (Q E:Value→Shared→Prop) (a:V) (x:Value) (v:V) (H':Hp),
 Rep Γ W ρ H fr s.heap→VR W a x→o a H=some (v,H')→Ziv Γ W ρ H' fr s Q v→wpAny (model prog w) Γ.A (m x) Q E s
def OpT(m:Value→Sem Bool)(o:V→Hp→Option Bool): Prop:=∀(Γ:Cx) (W:Wd) (ρ:Lc) (H:Hp) (fr:List (Addr×Obj)) (s:Shared) (Q:Bool→Shared→Prop) (E:Value→Shared→Prop) (a:V) (x:Value) (b:Bool),
 Rep Γ W ρ H fr s.heap→VR W a x→o a H=some b→Zkj Γ W ρ H fr s Q b→wpAny (model prog w) Γ.A (m x) Q E s
end
noncomputable def Zz(k:Int): Ex:=fun _ H=>some (.int k,H)
noncomputable def Zau: Ex:=fun _ H=>some (.none,H)
noncomputable def Zdo(b:Bool): Ex:=fun _ H=>some (.bool b,H)
noncomputable def ZeV(x:Str): Ex:=fun _ H=>some (.str x,H)
noncomputable def Zg(i:Nat): Ex:=fun ρ H=>(ρ i).map fun v=>(v,H)
noncomputable def Zy(o:V→V→Hp→Option (V×Hp))(f g:Ex): Ex:=fun ρ H=>(f ρ H).bind fun p=>(g ρ p.2).bind fun q=>o p.1 q.1 q.2
noncomputable def eUn(o:V→Hp→Option (V×Hp))(f:Ex): Ex:=fun ρ H=>(f ρ H).bind fun p=>o p.1 p.2
noncomputable def eIf(t:Ts)(f g:Ex): Ex:=fun ρ H=>(t ρ H).bind fun p=>if p.1 then f ρ p.2 else g ρ p.2
noncomputable def ZD: Exs:=fun _ H=>some ([],H)
noncomputable def Zh(f:Ex)(g:Exs): Exs:=fun ρ H=>(f ρ H).bind fun p=>(g ρ p.2).bind fun q=>some (p.1::q.1,q.2)
noncomputable def ZbX(g:Exs): Ex:=fun ρ H=>(g ρ H).bind fun p=>if p.1.length≤LEN then some (.tup p.1,p.2)else none
noncomputable def Zcz(g:Exs): Ex:=fun ρ H=>(g ρ H).bind fun p=>if p.1.length≤LEN then some (.ref p.2.length,p.2++[p.1])else none
noncomputable def Zcy: V→Hp→Option Bool
 | .bool b,_=>some b
 | .int i,_=>some (i != 0)
 | .none,_=>some false
 | _,_=>none
noncomputable def Zao(f:Ex): Ts:=fun ρ H=>(f ρ H).bind fun p=>(Zcy p.1 p.2).map fun b=>(b,p.2)
noncomputable def ZeW(t:Ts): Ts:=fun ρ H=>(t ρ H).map fun p=>(!p.1,p.2)
noncomputable def Zbz: Ts:=fun _ H=>some (true,H)
noncomputable def Zd1: Ts:=fun _ H=>some (false,H)
noncomputable def ZfP(t u:Ts): Ts:=fun ρ H=>(t ρ H).bind fun p=>if p.1 then u ρ p.2 else some (false,p.2)
noncomputable def tOr(t u:Ts): Ts:=fun ρ H=>(t ρ H).bind fun p=>if p.1 then some (true,p.2)else u ρ p.2
noncomputable def tIf(t u v:Ts): Ts:=fun ρ H=>(t ρ H).bind fun p=>if p.1 then u ρ p.2 else v ρ p.2
noncomputable def ZnQ(f:Ex): Ex:=fun ρ H=>(f ρ H).bind fun p=>(Zcy p.1 p.2).map fun b=>(.bool (!b),p.2)
noncomputable def Ziw(f g:Ex): Ex:=fun ρ H=>(f ρ H).bind fun p=>(Zcy p.1 p.2).bind fun b=>if b then g ρ p.2 else some p
noncomputable def eOr(f g:Ex): Ex:=fun ρ H=>(f ρ H).bind fun p=>(Zcy p.1 p.2).bind fun b=>if b then some p else g ρ p.2
section
variable {prog:Program} {w:World} {Γ:Cx}
theorem J.int(k:Int)(n:Nat)(pos:Pos): J prog w Γ (.Constant (.int k) n pos) (Zz k):=fun W ρ H fr s Q E v H' r e post=>by
 cases e
 exact wpAny_Constant_int (post W s.heap _ _ (.refl W) r (.int k _))
theorem J.none(n:Nat)(pos:Pos): J prog w Γ (.Constant .none n pos) Zau:=fun W ρ H fr s Q E v H' r e post=>by
 cases e
 exact wpAny_Constant_none (post W s.heap s.toks _ (.refl W) r .none)
theorem J.bool(b:Bool)(n:Nat)(pos:Pos): J prog w Γ (.Constant (.bool b) n pos) (Zdo b):=fun W ρ H fr s Q E v H' r e post=>by
 cases e
 exact wpAny_Constant_bool (post W s.heap s.toks _ (.refl W) r (.bool b))
theorem J.str(x:Str)(n:Nat)(pos:Pos): J prog w Γ (.Constant (.str x) n pos) (ZeV x):=fun W ρ H fr s Q E v H' r e post=>by
 cases e
 exact wpAny_Constant_str (post W s.heap _ _ (.refl W) r (.str x _))
theorem Zv{e1 e2:Expr}{op:Operator}{pos:Pos}{f g:Ex}{o:V→V→Hp→Option (V×Hp)}(h1:J prog w Γ e1 f)(h2:J prog w Γ e2 g)(ho:Op2 prog w (binaryOp op) o): J prog w Γ (.BinOp e1 op e2 pos) (Zy o f g):=by
 intro W ρ H fr s Q E v H' r hf post
 obtain⟨p,e1,hf⟩:=Zz0.mp hf
 obtain⟨q,e2,e3⟩:=Zz0.mp hf
 refine wpAny_BinOp (h1 W ρ H fr s _ E _ _ r e1 fun W1 k1 t1 x l1 r1 x1=>?_)
 refine h2 W1 ρ _ fr _ _ E _ _ r1 e2 fun W2 k2 t2 y l2 r2 y2=>?_
 exact ho Γ W2 ρ _ fr _ Q E _ _ x y v H' r2 (x1.mono l2) y2 e3 fun W3 k3 t3 z l3 r3 z3=>post W3 k3 t3 z ((l1.trans l2).trans l3) r3 z3
theorem Zcd{e1 e2:Expr}{op:CmpOp}{pos:Pos}{f g:Ex}{o:V→V→Hp→Option (V×Hp)}(h1:J prog w Γ e1 f)(h2:J prog w Γ e2 g)(ho:Op2 prog w (compareOp op) o)(hm:behindInMarks op e2=false:=by with_unfolding_all rfl): J prog w Γ (.Compare e1 [op] [e2] pos) (Zy o f g):=by
 intro W ρ H fr s Q E v H' r hf post
 obtain⟨p,e1,hf⟩:=Zz0.mp hf
 obtain⟨q,e2,e3⟩:=Zz0.mp hf
 refine wpAny_Compare1 (h1 W ρ H fr s _ E _ _ r e1 fun W1 k1 t1 x l1 r1 x1=>?_) hm
 refine h2 W1 ρ _ fr _ _ E _ _ r1 e2 fun W2 k2 t2 y l2 r2 y2=>?_
 exact ho Γ W2 ρ _ fr _ Q E _ _ x y v H' r2 (x1.mono l2) y2 e3 fun W3 k3 t3 z l3 r3 z3=>post W3 k3 t3 z ((l1.trans l2).trans l3) r3 z3
theorem ZbY{e1:Expr}{op:UnaryOp}{pos:Pos}{f:Ex}{o:V→Hp→Option (V×Hp)}(h1:J prog w Γ e1 f)(ho:Op1 prog w (unaryOp op) o): J prog w Γ (.UnaryOp op e1 pos) (eUn o f):=by
 intro W ρ H fr s Q E v H' r hf post
 obtain⟨p,e1,hf⟩:=Zz0.mp hf
 refine wpAny_UnaryOp (h1 W ρ H fr s _ E _ _ r e1 fun W1 k1 t1 x l1 r1 x1=>?_)
 exact ho Γ W1 ρ _ fr _ Q E _ x v H' r1 x1 hf fun W3 k3 t3 z l3 r3 z3=>post W3 k3 t3 z (l1.trans l3) r3 z3
theorem truth: OpT prog w truthy Zcy:=by
 intro Γ W ρ H fr s Q E a x b r hx ho post
 cases hx with
 | none=>cases ho;exact truthy_none (post W s.heap s.toks (.refl W) r)
 | bool c=>cases ho;exact fun _ _ _=>post W s.heap s.toks (.refl W) r
 | int i t=>cases ho;exact P.truthy_int (post W s.heap s.toks (.refl W) r)
 | str _ _=>cases ho
 | tup _ _ _=>cases ho
 | ref _=>cases ho
theorem ZzK{e1:Expr}{pos:Pos}{f:Ex}(h1:J prog w Γ e1 f): J prog w Γ (.UnaryOp .Not e1 pos) (ZnQ f):=by
 intro W ρ H fr s Q E v H' r hf post
 obtain⟨p,e1,hf⟩:=Zz0.mp hf
 obtain⟨b,e2,e3⟩:=Zz1.mp hf
 cases e3
 refine wpAny_UnaryOp (h1 W ρ H fr s _ E _ _ r e1 fun W1 k1 t1 x l1 r1 x1=>?_)
 exact not_of (truth Γ W1 ρ _ fr _ _ E _ x b r1 x1 e2 fun W2 k2 t2 l2 r2=>post W2 k2 t2 _ (l1.trans l2) r2 (.bool _))
theorem Zkk{e1 e2:Expr}{pos:Pos}{f g:Ex}(h1:J prog w Γ e1 f)(h2:J prog w Γ e2 g): J prog w Γ (.BoolOp .And [e1,e2] pos) (Ziw f g):=by
 intro W ρ H fr s Q E v H' r hf post
 obtain⟨p,e1,hf⟩:=Zz0.mp hf
 obtain⟨b,e2,e3⟩:=Zz0.mp hf
 refine wpAny_And2 (h1 W ρ H fr s _ E _ _ r e1 fun W1 k1 t1 x l1 r1 x1=>?_)
 refine truth Γ W1 ρ _ fr _ _ E _ x b r1 x1 e2 fun W2 k2 t2 l2 r2=>?_
 cases b with
 | true=>exact h2 W2 ρ _ fr _ Q E v H' r2 e3 fun W3 k3 t3 z l3 r3 z3=>post W3 k3 t3 z ((l1.trans l2).trans l3) r3 z3
 | false=>
  cases e3
  exact post W2 k2 t2 x (l1.trans l2) r2 (x1.mono l2)
theorem ZAD{e1 e2:Expr}{pos:Pos}{f g:Ex}(h1:J prog w Γ e1 f)(h2:J prog w Γ e2 g): J prog w Γ (.BoolOp .Or [e1,e2] pos) (eOr f g):=by
 intro W ρ H fr s Q E v H' r hf post
 obtain⟨p,e1,hf⟩:=Zz0.mp hf
 obtain⟨b,e2,e3⟩:=Zz0.mp hf
 refine wpAny_Or2 (h1 W ρ H fr s _ E _ _ r e1 fun W1 k1 t1 x l1 r1 x1=>?_)
 refine truth Γ W1 ρ _ fr _ _ E _ x b r1 x1 e2 fun W2 k2 t2 l2 r2=>?_
 cases b with
 | false=>exact h2 W2 ρ _ fr _ Q E v H' r2 e3 fun W3 k3 t3 z l3 r3 z3=>post W3 k3 t3 z ((l1.trans l2).trans l3) r3 z3
 | true=>
  cases e3
  exact post W2 k2 t2 x (l1.trans l2) r2 (x1.mono l2)
theorem J.ife{t e1 e2:Expr}{pos:Pos}{u:Ts}{f g:Ex}(ht:JT prog w Γ t u)(h1:J prog w Γ e1 f)(h2:J prog w Γ e2 g): J prog w Γ (.IfExp t e1 e2 pos) (eIf u f g):=by
 intro W ρ H fr s Q E v H' r hf post
 obtain⟨p,e1,hf⟩:=Zz0.mp hf
 refine wpAny_IfExp (ht W ρ H fr s _ E _ _ r e1 fun W1 k1 t1 l1 r1=>?_)
 obtain⟨b,H1⟩:=p
 cases b with
 | true=>exact h1 W1 ρ _ fr _ Q E v H' r1 hf fun W3 k3 t3 z l3 r3 z3=>post W3 k3 t3 z (l1.trans l3) r3 z3
 | false=>exact h2 W1 ρ _ fr _ Q E v H' r1 hf fun W3 k3 t3 z l3 r3 z3=>post W3 k3 t3 z (l1.trans l3) r3 z3
theorem Zf: Js prog w Γ [] ZD:=fun pos W ρ H fr s Q E vs H' r hf post=>by
 cases hf
 exact wpAny_items_nil (post W s.heap s.toks [] (.refl W) r .nil)
theorem ZwP{e:Expr}{es:List Expr}{f:Ex}{g:Exs}(h1:J prog w Γ e f)(h2:Js prog w Γ es g)(he:starEach (e::es) Γ.env=(false,eval e Γ.env)::starEach es Γ.env:=by rfl): Js prog w Γ (e::es) (Zh f g):=by
 intro pos W ρ H fr s Q E vs H' r hf post
 obtain⟨p,e1,hf⟩:=Zz0.mp hf
 obtain⟨q,e2,e3⟩:=Zz0.mp hf
 cases e3
 refine wpAny_items_cons (h1 W ρ H fr s _ E _ _ r e1 fun W1 k1 t1 x l1 r1 x1=>?_) he
 exact h2 pos W1 ρ _ fr _ _ E _ _ r1 e2 fun W2 k2 t2 ys l2 r2 y2=>post W2 k2 t2 _ (l1.trans l2) r2 (.cons (x1.mono l2) y2)
theorem J.tup{es:List Expr}{k:Nat}{pos:Pos}{g:Exs}(h:Js prog w Γ es g): J prog w Γ (.Tuple es k pos) (ZbX g):=by
 intro W ρ H fr s Q E v H' r hf post
 obtain⟨p,e1,hf⟩:=Zz0.mp hf
 by_cases hl:p.1.length≤LEN
 ·rw[if_pos hl]at hf
  cases hf
  refine wpAny_Tuple (h pos W ρ H fr s _ E _ _ r e1 fun W1 k1 t1 xs l1 r1 x1=>⟨ZcV (by rw[x1.length];exact hl),?_⟩)
  obtain⟨W2,l2,r2,v2⟩:=r1.tuple (k:=0) x1 hl
  exact post W2 _ _ _ (l1.trans l2) r2 v2
 ·rw[if_neg hl]at hf
  cases hf
theorem J.list{es:List Expr}{pos:Pos}{g:Exs}(h:Js prog w Γ es g): J prog w Γ (.List es pos) (Zcz g):=by
 intro W ρ H fr s Q E v H' r hf post
 obtain⟨p,e1,hf⟩:=Zz0.mp hf
 by_cases hl:p.1.length≤LEN
 ·rw[if_pos hl]at hf
  cases hf
  refine wpAny_List (h pos W ρ H fr s _ E _ _ r e1 fun W1 k1 t1 xs l1 r1 x1=>⟨ZcV (by rw[x1.length];exact hl),?_⟩)
  obtain⟨W2,l2,r2,v2⟩:=r1.list (k:=0) x1 hl
  exact post W2 _ _ _ (l1.trans l2) r2 v2
 ·rw[if_neg hl]at hf
  cases hf
theorem Zcj{e:Expr}{pos:Pos}{t:Ts}(h:JT prog w Γ e t): JT prog w Γ (.UnaryOp .Not e pos) (ZeW t):=by
 intro W ρ H fr s Q E b H' r hf post
 obtain⟨p,e1,e2⟩:=Zz1.mp hf
 cases e2
 exact isTrue_not (h W ρ H fr s _ E _ _ r e1 post)
def JA(prog:Program)(w:World)(Γ:Cx)(op:BoolOp)(es:List Expr)(f:Ts): Prop:=∀(W:Wd) (ρ:Lc) (H:Hp) (fr:List (Addr×Obj)) (s:Shared) (Q:Bool→Shared→Prop) (E:Value→Shared→Prop) (b:Bool) (H':Hp),
 Rep Γ W ρ H fr s.heap→f ρ H=some (b,H')→Zkj Γ W ρ H' fr s Q b→wpAny (model prog w) Γ.A (allTrue op es Γ.env) Q E s
theorem Zcv: JA prog w Γ .And [] Zbz:=fun W ρ H fr s Q E b H' r hf post=>by
 cases hf
 exact wpAny_allTrue_And_nil (post W s.heap s.toks (.refl W) r)
theorem Zch: JA prog w Γ .Or [] Zd1:=fun W ρ H fr s Q E b H' r hf post=>by
 cases hf
 exact wpAny_allTrue_Or_nil (post W s.heap s.toks (.refl W) r)
theorem ZaZ{e:Expr}{es:List Expr}{t u:Ts}(h1:JT prog w Γ e t)(h2:JA prog w Γ .And es u): JA prog w Γ .And (e::es) (ZfP t u):=by
 intro W ρ H fr s Q E b H' r hf post
 obtain⟨p,e1,hf⟩:=Zz0.mp hf
 refine wpAny_allTrue_And_cons (h1 W ρ H fr s _ E _ _ r e1 fun W1 k1 t1 l1 r1=>?_)
 obtain⟨c,H1⟩:=p
 cases c with
 | true=>exact h2 W1 ρ _ fr _ Q E b H' r1 hf fun W3 k3 t3 l3 r3=>post W3 k3 t3 (l1.trans l3) r3
 | false=>
  cases hf
  exact post W1 k1 t1 l1 r1
theorem ZaN{e:Expr}{es:List Expr}{t u:Ts}(h1:JT prog w Γ e t)(h2:JA prog w Γ .Or es u): JA prog w Γ .Or (e::es) (tOr t u):=by
 intro W ρ H fr s Q E b H' r hf post
 obtain⟨p,e1,hf⟩:=Zz0.mp hf
 refine wpAny_allTrue_Or_cons (h1 W ρ H fr s _ E _ _ r e1 fun W1 k1 t1 l1 r1=>?_)
 obtain⟨c,H1⟩:=p
 cases c with
 | false=>exact h2 W1 ρ _ fr _ Q E b H' r1 hf fun W3 k3 t3 l3 r3=>post W3 k3 t3 (l1.trans l3) r3
 | true=>
  cases hf
  exact post W1 k1 t1 l1 r1
theorem ZaV{op:BoolOp}{es:List Expr}{pos:Pos}{t:Ts}(h:JA prog w Γ op es t): JT prog w Γ (.BoolOp op es pos) t:=fun W ρ H fr s Q E b H' r hf post=>wpAny_isTrue_BoolOp (h W ρ H fr s Q E b H' r hf post)
theorem Za1{e:Expr}{f:Ex}(h:J prog w Γ e f)(he:isTrue e Γ.env (eval e Γ.env)=(do let v ←eval e Γ.env;standAt e.pos;holding [v] (truthy v)):=by rfl): JT prog w Γ e (Zao f):=by
 intro W ρ H fr s Q E b H' r hf post
 obtain⟨p,e1,hf⟩:=Zz0.mp hf
 obtain⟨c,e2,e3⟩:=Zz1.mp hf
 cases e3
 refine isTrue_plain (h W ρ H fr s _ E _ _ r e1 fun W1 k1 t1 x l1 r1 x1=>?_) he
 exact truth Γ W1 ρ _ fr _ _ E _ x b r1 x1 e2 fun W2 k2 t2 l2 r2=>post W2 k2 t2 (l1.trans l2) r2
theorem ZI{e1 e2:Expr}{op:CmpOp}{pos:Pos}{f g:Ex}{o:V→V→Hp→Option (V×Hp)}(h1:J prog w Γ e1 f)(h2:J prog w Γ e2 g)(ho:Op2 prog w (compareOp op) o)(hm:behindInMarks op e2=false:=by with_unfolding_all rfl): JT prog w Γ (.Compare e1 [op] [e2] pos) (Zao (Zy o f g)):=by
 intro W ρ H fr s Q E b H' r hf post
 obtain⟨pp,e0,hf0⟩:=Zz0.mp hf
 obtain⟨c,e4,e5⟩:=Zz1.mp hf0
 cases e5
 obtain⟨p,e1,hf⟩:=Zz0.mp e0
 obtain⟨q,e2,e3⟩:=Zz0.mp hf
 refine wpAny_isTrue_Compare1 (h1 W ρ H fr s _ E _ _ r e1 fun W1 k1 t1 x l1 r1 x1=>?_) hm
 refine h2 W1 ρ _ fr _ _ E _ _ r1 e2 fun W2 k2 t2 y l2 r2 y2=>?_
 refine ho Γ W2 ρ _ fr _ _ E _ _ x y _ _ r2 (x1.mono l2) y2 e3 fun W3 k3 t3 z l3 r3 z3=>?_
 exact truth Γ W3 ρ _ fr _ _ E _ z b r3 z3 e4 fun W4 k4 t4 l4 r4=>post W4 k4 t4 (((l1.trans l2).trans l3).trans l4) r4
theorem JT.ife{t e1 e2:Expr}{pos:Pos}{u f g:Ts}(ht:JT prog w Γ t u)(h1:JT prog w Γ e1 f)(h2:JT prog w Γ e2 g): JT prog w Γ (.IfExp t e1 e2 pos) (tIf u f g):=by
 intro W ρ H fr s Q E v H' r hf post
 obtain⟨p,e1,hf⟩:=Zz0.mp hf
 refine isTrue_IfExp (ht W ρ H fr s _ E _ _ r e1 fun W1 k1 t1 l1 r1=>?_)
 obtain⟨b,H1⟩:=p
 cases b with
 | true=>exact h1 W1 ρ _ fr _ Q E v H' r1 hf fun W3 k3 t3 l3 r3=>post W3 k3 t3 (l1.trans l3) r3
 | false=>exact h2 W1 ρ _ fr _ Q E v H' r1 hf fun W3 k3 t3 l3 r3=>post W3 k3 t3 (l1.trans l3) r3
end
end PM
end
section
namespace PM
open PySem PyProof.Rows PyProof
noncomputable def mulOk(a b:Int): Bool:=!(decide (Builtin.Int.intBits a>shortFactorBits) && decide (Builtin.Int.intBits b>shortFactorBits) && Builtin.Int.intTooBig (Builtin.Int.intBits a+Builtin.Int.intBits b))
theorem ZvM{a b:Int}(h:mulOk a b=true): IntMulOk a b:=by
 unfold mulOk at h
 unfold IntMulOk
 intro c
 rw[c]at h
 cases h
noncomputable def ZeX: V→V→Hp→Option (V×Hp)
 | .int a,.int b,H=>some (.int (a-b),H)
 | _,_,_=>none
noncomputable def oDiv: V→V→Hp→Option (V×Hp)
 | .int a,.int b,H=>if b≠0∧Builtin.divisionGoesByPylong a b=false then some (.int (a.fdiv b),H)else none
 | _,_,_=>none
noncomputable def oMod: V→V→Hp→Option (V×Hp)
 | .int a,.int b,H=>if b≠0 then some (.int (a.fmod b),H)else none
 | _,_,_=>none
noncomputable def oPow: V→V→Hp→Option (V×Hp)
 | .int a,.int b,H=>if 0≤b∧(Builtin.Int.intBits a:Int)*b≤2 ^ 27 then some (.int (a ^ b.toNat),H)else none
 | _,_,_=>none
noncomputable def Zix: V→Hp→Option (V×Hp)
 | .int a,H=>some (.int (-a),H)
 | _,_=>none
noncomputable def Zkr(p:Int→Int→Bool): V→V→Hp→Option (V×Hp)
 | .int a,.int b,H=>some (.bool (p a b),H)
 | _,_,_=>none
noncomputable def oLt:=Zkr fun a b=>decide (a<b)
noncomputable def oLe:=Zkr fun a b=>decide (a≤b)
noncomputable def oGt:=Zkr fun a b=>decide (b<a)
section
variable {prog:Program} {w:World}
theorem Za2: Op2 prog w (binaryOp .Sub) ZeX:=by
 intro Γ W ρ H fr s Q E a b x y v H' r hx hy ho post
 cases hx <;> first | (cases ho;done) | skip
 cases hy <;> first | (cases ho;done) | skip
 cases ho
 exact PySem.P.sub_int (post W s.heap _ _ (.refl W) r (.int _ _))
theorem ZaB: Op2 prog w (binaryOp .Mod) oMod:=by
 intro Γ W ρ H fr s Q E a b x y v H' r hx hy ho post
 cases hx <;> first | (cases ho;done) | skip
 cases hy <;> first | (cases ho;done) | skip
 rename_i i t j u
 simp only[oMod]at ho
 by_cases hb:j≠0
 ·rw[if_pos hb]at ho
  cases ho
  exact mod_int' hb (post W s.heap _ _ (.refl W) r (.int _ _))
 ·rw[if_neg hb]at ho
  cases ho
theorem Zck: Op2 prog w (binaryOp .FloorDiv) oDiv:=by
 intro Γ W ρ H fr s Q E a b x y v H' r hx hy ho post
 cases hx <;> first | (cases ho;done) | skip
 cases hy <;> first | (cases ho;done) | skip
 rename_i i t j u
 simp only[oDiv]at ho
 by_cases hb:j≠0∧Builtin.divisionGoesByPylong i j=false
 ·rw[if_pos hb]at ho
  cases ho
  exact floordiv_int hb.1 (post W s.heap _ _ (.refl W) r (.int _ _)) (.inl hb.2)
 ·rw[if_neg hb]at ho
  cases ho
theorem Zia: Op2 prog w (binaryOp .Pow) oPow:=by
 intro Γ W ρ H fr s Q E a b x y v H' r hx hy ho post
 cases hx <;> first | (cases ho;done) | skip
 cases hy <;> first | (cases ho;done) | skip
 rename_i i t j u
 simp only[oPow]at ho
 by_cases hb:0≤j∧(Builtin.Int.intBits i:Int)*j≤2 ^ 27
 ·rw[if_pos hb]at ho
  cases ho
  exact pow_int hb.1 hb.2 (post W s.heap _ _ (.refl W) r (.int _ _))
 ·rw[if_neg hb]at ho
  cases ho
theorem ZbQ: Op1 prog w (unaryOp .USub) Zix:=by
 intro Γ W ρ H fr s Q E a x v H' r hx ho post
 cases hx <;> first | (cases ho;done) | skip
 cases ho
 exact PySem.P.neg_int (post W s.heap _ _ (.refl W) r (.int _ _))
theorem ZcA: Op2 prog w (compareOp .Lt) oLt:=by
 intro Γ W ρ H fr s Q E a b x y v H' r hx hy ho post
 cases hx <;> first | (cases ho;done) | skip
 cases hy <;> first | (cases ho;done) | skip
 cases ho
 exact PySem.P.lt_int (post W s.heap s.toks _ (.refl W) r (.bool _))
theorem ZnA: Op2 prog w (compareOp .LtE) oLe:=by
 intro Γ W ρ H fr s Q E a b x y v H' r hx hy ho post
 cases hx <;> first | (cases ho;done) | skip
 cases hy <;> first | (cases ho;done) | skip
 cases ho
 exact PySem.P.le_int (post W s.heap s.toks _ (.refl W) r (.bool _))
theorem ZdC: Op2 prog w (compareOp .Gt) oGt:=by
 intro Γ W ρ H fr s Q E a b x y v H' r hx hy ho post
 cases hx <;> first | (cases ho;done) | skip
 cases hy <;> first | (cases ho;done) | skip
 cases ho
 exact PySem.P.gt_int (post W s.heap s.toks _ (.refl W) r (.bool _))
end
end PM
end
section
namespace PM
open PySem PyProof.Rows PyProof
noncomputable def ZfQ(f:V→Option PyData): List V→Option (List PyData)
 | []=>some []
 | v::vs=>(f v).bind fun d=>(ZfQ f vs).bind fun ds=>some (d::ds)
noncomputable def toD(H:Hp): Nat→V→Option PyData
 | _,.none=>some .none
 | _,.bool b=>some (.bool b)
 | _,.int i=>some (.int i)
 | _,.str x=>some (.str x)
 | n+1,.tup vs=>(ZfQ (toD H n) vs).map .tuple
 | n+1,.ref a=>H[a]?.bind fun vs=>(ZfQ (toD H n) vs).map .list
 | 0,.tup _=>none
 | 0,.ref _=>none
theorem Zlx{W:Wd}{h:Heap}{f:V→Option PyData}(ih:∀v x d,VR W v x→f v=some d→∃as,Reads h x d as): ∀{vs:List V} {xs:List Value} {ds:List PyData},VRs W vs xs→ZfQ f vs=some ds→∃as,ReadsAll h xs ds as
 | _,_,_,.nil,e=>by
  cases e
  exact⟨_,.nil⟩
 | _,_,_,.cons a r,e=>by
  obtain⟨d,e1,e⟩:=Zz0.mp e
  obtain⟨ds,e2,e3⟩:=Zz0.mp e
  cases e3
  obtain⟨as,h1⟩:=ih _ _ _ a e1
  obtain⟨bs,h2⟩:=Zlx ih r e2
  exact⟨_,.cons h1 h2⟩
theorem Zfd{Γ:Cx}{W:Wd}{ρ:Lc}{H:Hp}{fr:List (Addr×Obj)}{h:Heap}(r:Rep Γ W ρ H fr h): ∀(n:Nat) (v:V) (x:Value) (d:PyData),VR W v x→toD H n v=some d→∃as,Reads h x d as:=by
 intro n
 induction n with
 | zero=>
  intro v x d hv e
  cases hv with
  | none=>cases e;exact⟨_,.none⟩
  | bool b=>cases e;exact⟨_,.bool b⟩
  | int i t=>cases e;exact⟨_,.int i t⟩
  | str y t=>cases e;exact⟨_,.str y t⟩
  | tup _ _ _=>cases e
  | ref _=>cases e
 | succ n ih=>
  intro v x d hv e
  cases hv with
  | none=>cases e;exact⟨_,.none⟩
  | bool b=>cases e;exact⟨_,.bool b⟩
  | int i t=>cases e;exact⟨_,.int i t⟩
  | str y t=>cases e;exact⟨_,.str y t⟩
  | @tup vs a xs k hm hl hs=>
   obtain⟨ds,e1,e2⟩:=Zz1.mp e
   subst e2
   obtain⟨as,h1⟩:=Zlx ih hs e1
   exact⟨_,.tuple (r.tupAt hm) rfl rfl (by simpa using h1)⟩
  | @ref i a ea=>
   obtain⟨vs,e0,e⟩:=Zz0.mp e
   obtain⟨ds,e1,e2⟩:=Zz1.mp e
   subst e2
   obtain⟨hl,xs,k,hg,hs⟩:=r.at e0 ea
   obtain⟨as,h1⟩:=Zlx ih hs e1
   exact⟨_,.list hg rfl rfl (by simpa using h1)⟩
noncomputable def Zbo: Nat:=8
noncomputable def Zks(a b:V)(H:Hp): Option Bool:=(toD H Zbo a).bind fun d=>(toD H Zbo b).bind fun e=>if SeqAt.shaped d=true∧SeqAt.shaped e=true then some (PyData.eqv d e)else none
noncomputable def oEq(a b:V)(H:Hp): Option (V×Hp):=(Zks a b H).map fun c=>(.bool c,H)
noncomputable def oNe(a b:V)(H:Hp): Option (V×Hp):=(Zks a b H).map fun c=>(.bool (!c),H)
noncomputable def oIs: V→V→Hp→Option (V×Hp)
 | .none,.none,H=>some (.bool true,H)
 | .bool _,.none,H=>some (.bool false,H)
 | .int _,.none,H=>some (.bool false,H)
 | .str _,.none,H=>some (.bool false,H)
 | .tup _,.none,H=>some (.bool false,H)
 | .ref _,.none,H=>some (.bool false,H)
 | _,_,_=>none
noncomputable def Zm8(a b:V)(H:Hp): Option (V×Hp):=(oIs a b H).bind fun p=>match p.1 with | .bool c=>some (.bool (!c),p.2) | _=>none
section
variable {prog:Program} {w:World}
theorem Zae: Op2 prog w (compareOp .Eq) oEq:=by
 intro Γ W ρ H fr s Q E a b x y v H' r hx hy ho post
 obtain⟨c,e1,e2⟩:=Zz1.mp ho
 cases e2
 obtain⟨d,h1,e1⟩:=Zz0.mp e1
 obtain⟨e,h2,e1⟩:=Zz0.mp e1
 by_cases hs:SeqAt.shaped d=true∧SeqAt.shaped e=true
 ·rw[if_pos hs]at e1
  cases e1
  obtain⟨as,R1⟩:=Zfd r Zbo a x d hx h1
  obtain⟨bs,R2⟩:=Zfd r Zbo b y e hy h2
  exact eq_dataH R1 R2 hs.1 hs.2 (by have:=Γ.hu;omega) (post W s.heap s.toks _ (.refl W) r (.bool _))
 ·rw[if_neg hs]at e1
  cases e1
theorem Zcq: Op2 prog w (compareOp .NotEq) oNe:=by
 intro Γ W ρ H fr s Q E a b x y v H' r hx hy ho post
 obtain⟨c,e1,e2⟩:=Zz1.mp ho
 cases e2
 obtain⟨d,h1,e1⟩:=Zz0.mp e1
 obtain⟨e,h2,e1⟩:=Zz0.mp e1
 by_cases hs:SeqAt.shaped d=true∧SeqAt.shaped e=true
 ·rw[if_pos hs]at e1
  cases e1
  obtain⟨as,R1⟩:=Zfd r Zbo a x d hx h1
  obtain⟨bs,R2⟩:=Zfd r Zbo b y e hy h2
  exact ne_dataH R1 R2 hs.1 hs.2 (by have:=Γ.hu;omega) (post W s.heap s.toks _ (.refl W) r (.bool _))
 ·rw[if_neg hs]at e1
  cases e1
theorem Zbl: Op2 prog w (compareOp .Is) oIs:=by
 intro Γ W ρ H fr s Q E a b x y v H' r hx hy ho post
 cases hy <;> first | (cases hx <;> cases ho;done) | skip
 refine PySem.is_none ?_
 cases hx <;> (cases ho;exact post W s.heap s.toks _ (.refl W) r (.bool _))
theorem ZbF: Op2 prog w (compareOp .IsNot) Zm8:=by
 intro Γ W ρ H fr s Q E a b x y v H' r hx hy ho post
 cases hy <;> first | (cases hx <;> cases ho;done) | skip
 refine PySem.isNot_none ?_
 cases hx <;> (cases ho;exact post W s.heap s.toks _ (.refl W) r (.bool _))
end
end PM
end
section
namespace PM
open PySem PyProof.Rows PyProof
noncomputable def Z3: V→V→Hp→Option (V×Hp)
 | .ref a,.int k,H=>H[a]?.bind fun vs=>(seqIndex? k vs.length).bind fun j=>vs[j]?.map fun v=>(v,H)
 | .tup vs,.int k,H=>(seqIndex? k vs.length).bind fun j=>vs[j]?.map fun v=>(v,H)
 | _,_,_=>none
theorem ZoN{k:Int}{n j:Nat}(h:seqIndex? k n=some j): j<n∧(k:Int)<n∧-(n:Int)≤k∧(0≤k→k.toNat=j)∧(k<0→(k+n).toNat=j):=by
 unfold seqIndex? at h
 by_cases c:k<0
 ·simp only[c,if_true]at h
  split at h
  ·rename_i d
   simp at d h
   omega
  ·cases h
 ·simp only[c,if_false]at h
  split at h
  ·rename_i d
   simp at d h
   omega
  ·cases h
section
variable {prog:Program} {w:World} {Γ:Cx}
theorem Zm{e1 e2:Expr}{pos:Pos}{f g:Ex}(h1:J prog w Γ e1 f)(h2:J prog w Γ e2 g)(hs:∀a k u,subscripted e2 false (.ref a) (.int k u)=operate [.ref a,.int k u] (getItem (.ref a) (.int k u)):=by intros;with_unfolding_all rfl): J prog w Γ (.Subscript e1 e2 pos) (Zy Z3 f g):=by
 intro W ρ H fr s Q E v H' r hf post
 obtain⟨p,e1,hf⟩:=Zz0.mp hf
 obtain⟨q,e2,e3⟩:=Zz0.mp hf
 refine Subscript_ (h1 W ρ H fr s _ E _ _ r e1 fun W1 k1 t1 x l1 r1 x1=>?_)
 refine h2 W1 ρ _ fr _ _ E _ _ r1 e2 fun W2 k2 t2 y l2 r2 y2=>?_
 have x2:=x1.mono l2
 obtain⟨v1,H1⟩:=p
 obtain⟨v2,H2⟩:=q
 simp only at e3 r2 x2 y2
 cases y2 <;> first | (cases x2 <;> cases e3;done) | skip
 rename_i k u
 cases x2 <;> first | (cases e3;done) | skip
 ·rename_i vs a xs kk hm hl hv
  obtain⟨j,hj,e4⟩:=Zz0.mp e3
  obtain⟨z,hz,e5⟩:=Zz1.mp e4
  cases e5
  obtain⟨z',hz',rz⟩:=hv.at hz
  have hx:xs.length=vs.length:=hv.length
  have hb:=ZoN hj
  rw[ZaO]at hl
  have it:IsTup k2 a xs.toArray:=⟨_,r2.tupAt hm,rfl,kk,rfl⟩
  exact item_tupleT it (by omega) (by omega) (by rw[hx];exact hj) hz' (post W2 k2 t2 z' (l1.trans l2) r2 rz) (hs _ _ _)
 ·rename_i i a ea
  obtain⟨vs,hvs,e3⟩:=Zz0.mp e3
  obtain⟨j,hj,e4⟩:=Zz0.mp e3
  obtain⟨z,hz,e5⟩:=Zz1.mp e4
  cases e5
  obtain⟨hl,xs,kk,hg,hv⟩:=r2.at hvs ea
  obtain⟨z',hz',rz⟩:=hv.at hz
  have hx:xs.length=vs.length:=hv.length
  have hb:=ZoN hj
  rw[ZaO]at hl
  have isl:k2.IsList a xs.toArray:=⟨_,hg,rfl,kk,rfl⟩
  refine tail_any (s:={ s with heap:=k2,toks:=t2 }) isl.typeIs slot_list_getitem.lookup ?_ (hs _ _ _)
  by_cases hk:0≤k
  ·exact wpAny_getItem_list isl hk (by omega) (by rw[hb.2.2.2.1 hk];simpa using hz') (post W2 k2 t2 z' (l1.trans l2) r2 rz)
  ·refine wpAny_getItem_list_neg isl (by omega) (by simp;omega) (by omega) ?_ (post W2 k2 t2 z' (l1.trans l2) r2 rz)
   have:=hb.2.2.2.2 (by omega)
   rw[←hx]at this
   simpa [this]using hz'
end
noncomputable def Za4{α:Type}(vs:List α)(lo hi:Option Int): List α:=(sliceRange (sliceBounds lo hi none vs.length).1 (sliceBounds lo hi none vs.length).2.1 (sliceBounds lo hi none vs.length).2.2).filterMap fun i=>vs[i]?
theorem VRs.pick{W:Wd}{vs:List V}{xs:List Value}(h:VRs W vs xs)(l:List Nat): VRs W (l.filterMap fun i=>vs[i]?) (l.filterMap fun i=>xs[i]?):=by
 induction l with
 | nil=>exact .nil
 | cons i l ih=>
  simp only[List.filterMap_cons]
  have hl:=h.length
  cases e:vs[i]? with
  | none=>
   have:xs[i]?=none:=by rw[List.getElem?_eq_none_iff]at e ⊢;omega
   rw[this]
   exact ih
  | some v=>
   obtain⟨x,hx,hr⟩:=h.at e
   rw[hx]
   exact .cons hr ih
theorem ZvN{α:Type}(vs:List α)(lo hi:Option Int): (Za4 vs lo hi).length≤vs.length:=by
 unfold Za4
 refine Nat.le_trans (List.length_filterMap_le _ _) ?_
 refine sliceRange_length_le _ _ _ _ (fun _=>?_) fun c=>?_
 ·unfold sliceBounds
  cases lo <;> cases hi <;> simp <;> omega
 ·exact absurd (by unfold sliceBounds;simp) c
theorem ZvO{α:Type}(vs:List α)(a:Nat): ∀m:Nat,a+m≤vs.length→((List.range m).map fun k=>a+k).filterMap (fun i=>vs[i]?)=(vs.drop a).take m:=by
 intro m
 induction m with
 | zero=>intro _;simp
 | succ m ih=>
  intro h
  rw[List.range_succ,List.map_append,List.filterMap_append,ih (by omega),List.take_add_one]
  congr 1
  simp only[List.map_cons,List.map_nil,List.filterMap_cons,List.filterMap_nil,List.getElem?_drop]
  cases e:vs[a+m]? with
  | none=>rw[List.getElem?_eq_none_iff]at e;omega
  | some v=>rfl
theorem ZhZ{α:Type}(vs:List α)(lo hi:Option Int){a b:Nat}(ha:(sliceBounds lo hi none vs.length).1=(a:Int))(hb:(sliceBounds lo hi none vs.length).2.1=(b:Int))(h:b≤vs.length): Za4 vs lo hi=(vs.drop a).take (b-a):=by
 have hc:(sliceBounds lo hi none vs.length).2.2=1:=by unfold sliceBounds;rfl
 unfold Za4
 rw[ha,hb,hc]
 have e:sliceRange (a:Int) (b:Int) 1=(List.range (b-a)).map fun k=>a+k:=by
  unfold sliceRange
  simp only[show(1:Int)>0 from by decide,if_true]
  by_cases c:(a:Int)<b
  ·rw[if_pos c]
   have:((b:Int)-a+1-1) / 1=((b-a:Nat):Int):=by omega
   rw[this]
   simp only[Int.toNat_natCast]
   refine List.map_congr_left fun k _=>?_
   omega
  ·rw[if_neg c]
   have:b-a=0:=by omega
   rw[this]
   rfl
 rw[e]
 by_cases c:a≤b
 ·exact ZvO vs a (b-a) (by omega)
 ·have:b-a=0:=by omega
  rw[this]
  simp
theorem ZpG{α:Type}(vs:List α){k:Int}{a:Nat}(e:k=(a:Int)): Za4 vs (some k) none=vs.drop a:=by
 by_cases h:a≤vs.length
 ·rw[ZhZ vs (some k) none (a:=a) (b:=vs.length) (by unfold sliceBounds;simp;omega) (by unfold sliceBounds;simp) (Zz10 _)]
  rw[List.take_of_length_le (by simp)]
 ·rw[ZhZ vs (some k) none (a:=vs.length) (b:=vs.length) (by unfold sliceBounds;simp;omega) (by unfold sliceBounds;simp) (Zz10 _)]
  simp
  omega
theorem ZwQ{α:Type}(vs:List α){k:Int}{a:Nat}(e:k=(a:Int)): Za4 vs none (some k)=vs.take a:=by
 by_cases h:a≤vs.length
 ·rw[ZhZ vs none (some k) (a:=0) (b:=a) (by unfold sliceBounds;simp) (by unfold sliceBounds;simp;omega) h]
  simp
 ·rw[ZhZ vs none (some k) (a:=0) (b:=vs.length) (by unfold sliceBounds;simp) (by unfold sliceBounds;simp;omega) (Zz10 _)]
  rw[List.drop_zero,Nat.sub_zero,List.take_of_length_le (Zz10 _),List.take_of_length_le (by omega)]
noncomputable def Zik: Option V→Option (Option Int)
 | none=>some none
 | some (.int k)=>some (some k)
 | _=>none
noncomputable abbrev Pt:=Lc→Hp→Option (Option V×Hp)
noncomputable def ZdD: Pt:=fun _ H=>some (none,H)
noncomputable def ZcB(f:Ex): Pt:=fun ρ H=>(f ρ H).map fun p=>(some p.1,p.2)
noncomputable def Zcl(f:Ex)(lo hi:Pt): Ex:=fun ρ H=>(f ρ H).bind fun p=>(lo ρ p.2).bind fun q=>(hi ρ q.2).bind fun u=>(Zik q.1).bind fun a=>(Zik u.1).bind fun b=>match p.1 with
 | .ref i=>u.2[i]?.bind fun vs=>some (.ref u.2.length,u.2++[Za4 vs a b])
 | _=>none
inductive VP(W:Wd): Option V→Value→Prop where
 | none:VP W none .none
 | some {v:V} {x:Value}:VR W v x→VP W (some v) x
theorem VP.mono{W W':Wd}{v:Option V}{x:Value}(l:W.Le W')(h:VP W v x): VP W' v x:=by
 cases h with
 | none=>exact .none
 | some h=>exact .some (h.mono l)
theorem VP.part{W:Wd}{v:Option V}{x:Value}{k:Option Int}(h:VP W v x)(e:Zik v=Option.some k): IsPart x k:=by
 cases h with
 | none=>cases e;exact .none
 | some h=>cases h <;> cases e;exact .int _ _
def JP(prog:Program)(w:World)(Γ:Cx)(e:Option Expr)(f:Pt): Prop:=∀(W:Wd) (ρ:Lc) (H:Hp) (fr:List (Addr×Obj)) (s:Shared) (Q E:Value→Shared→Prop) (v:Option V) (H':Hp),
 Rep Γ W ρ H fr s.heap→f ρ H=some (v,H')→(∀(W':Wd) (h':Heap) (tk':Nat) (x:Value),W.Le W'→Rep Γ W' ρ H' fr h'→VP W' v x→Q x { s with heap:=h',toks:=tk' })→wpAny (model prog w) Γ.A (evalPart e Γ.env) Q E s
section
variable {prog:Program} {w:World} {Γ:Cx}
theorem JP.none: JP prog w Γ none ZdD:=fun W ρ H fr s Q E v H' r hf post=>by
 cases hf
 exact wpAny_evalPart_none (post W s.heap s.toks _ (.refl W) r .none)
theorem JP.some{e:Expr}{f:Ex}(h:J prog w Γ e f): JP prog w Γ (some e) (ZcB f):=fun W ρ H fr s Q E v H' r hf post=>by
 obtain⟨p,e1,e2⟩:=Zz1.mp hf
 cases e2
 exact wpAny_evalPart_some (h W ρ H fr s _ E _ _ r e1 fun W1 k1 t1 x l1 r1 x1=>post W1 k1 t1 x l1 r1 (.some x1))
theorem Zew{e:Expr}{lo hi:Option Expr}{p pos:Pos}{f:Ex}{a b:Pt}(h:J prog w Γ e f)(hlo:JP prog w Γ lo a)(hhi:JP prog w Γ hi b)(ht:∀o r,letTemporaryGo e o r=pure ():=by intro _ _;rfl): J prog w Γ (.Subscript e (.Slice lo hi Option.none p) pos) (Zcl f a b):=by
 intro W ρ H fr s Q E v H' r hf post
 obtain⟨p,e1,hf⟩:=Zz0.mp hf
 obtain⟨q,e2,hf⟩:=Zz0.mp hf
 obtain⟨u,e3,hf⟩:=Zz0.mp hf
 obtain⟨ka,e4,hf⟩:=Zz0.mp hf
 obtain⟨kb,e5,hf⟩:=Zz0.mp hf
 refine wpAny_Subscript_list_slice (h W ρ H fr s _ E _ _ r e1 fun W1 k1 t1 x l1 r1 x1=>?_) ht
 refine hlo W1 ρ _ fr _ _ E _ _ r1 e2 fun W2 k2 t2 y l2 r2 y2=>?_
 refine hhi W2 ρ _ fr _ _ E _ _ r2 e3 fun W3 k3 t3 z l3 r3 z3=>?_
 have x3:=x1.mono (l2.trans l3)
 obtain⟨v1,H1⟩:=p
 simp only at hf x3
 cases x3 with
 | none=>cases hf
 | bool _=>cases hf
 | int _ _=>cases hf
 | str _ _=>cases hf
 | tup _ _ _=>cases hf
 | @ref i a ea=>
  obtain⟨vs,hvs,e6⟩:=Zz0.mp hf
  cases e6
  obtain⟨hl,xs,kk,hg,hv⟩:=r3.at hvs ea
  have isl:k3.IsList a xs.toArray:=⟨_,hg,rfl,kk,rfl⟩
  refine⟨a,xs.toArray,ka,kb,rfl,isl,ZcV (by simp[hv.length];exact hl),(y2.mono l3).part e4,z3.part e5,?_⟩
  have hp:VRs W3 (Za4 vs ka kb) (Za4 xs ka kb):=by
   unfold Za4
   rw[hv.length]
   exact hv.pick _
  have hx:slicePick xs.toArray ka kb Option.none=(Za4 xs ka kb).toArray:=by
   unfold slicePick Za4
   simp
  obtain⟨W4,l4,r4,v4⟩:=(r3.push { cls:=.type "slice",data:=.fields #[y,z,.none] }).list (k:=0) hp (Nat.le_trans (ZvN vs ka kb) hl)
  rw[hx]
  have:=post W4 _ t3 _ (((l1.trans l2).trans l3).trans l4) r4 v4
  rw[Heap.size_push]at this
  exact this
end
end PM
end
section
namespace PM
open PySem PyProof.Rows PyProof
def Nm(prog:Program)(w:World)(Γ:Cx)(x:Str)(v:Value): Prop:=∀(pos:Pos) (m:Str→Option Value) (s:Shared) (Q E:Value→Shared→Prop),Fr Γ.h₀ Γ.L s.heap m→Q v s→wpAny (model prog w) Γ.A (eval (.Name x pos) Γ.env) Q E s
theorem Nm.use{prog:Program}{w:World}{Γ:Cx}{x:Str}{y:Value}(h:Nm prog w Γ x y){pos:Pos}{W:Wd}{ρ:Lc}{H:Hp}{fr:List (Addr×Obj)}{s:Shared}{Q E:Value→Shared→Prop}(r:Rep Γ W ρ H fr s.heap)(q:Q y s): wpAny (model prog w) Γ.A (eval (.Name x pos) Γ.env) Q E s:=by
 obtain⟨m,c,led,r⟩:=r
 exact h pos m s Q E r.F q
def OpN(prog:Program)(w:World)(m:List Value→Sem Value)(o:List V→Hp→Option (V×Hp)): Prop:=∀(Γ:Cx) (W:Wd) (ρ:Lc) (H:Hp) (fr:List (Addr×Obj)) (s:Shared) (Q E:Value→Shared→Prop) (as:List V) (xs:List Value) (v:V) (H':Hp),
 Rep Γ W ρ H fr s.heap→VRs W as xs→o as H=some (v,H')→Ziv Γ W ρ H' fr s Q v→wpAny (model prog w) Γ.A (m xs) Q E s
noncomputable def ZH(o:List V→Hp→Option (V×Hp))(g:Exs): Ex:=fun ρ H=>(g ρ H).bind fun p=>o p.1 p.2
section
variable {prog:Program} {w:World} {Γ:Cx}
theorem Zah{x:Str}{np pos:Pos}{id:String}{e:Expr}{es:List Expr}{g:Exs}{o:List V→Hp→Option (V×Hp)}(hn:Nm prog w Γ x (.builtin id))(h:Js prog w Γ (e::es) g)(ho:OpN prog w (fun xs=>call (.builtin id) xs) o)
  (he:starEach (e::es) Γ.env=(false,eval e Γ.env)::starEach es Γ.env:=by rfl) (hp:∀pos,(backTo pos (starEach es Γ.env)).any (·.1)=false:=by intro _;rfl):J prog w Γ (.Call (.Name x np) (e::es) [] pos) (ZH o g):=by
 intro W ρ H fr s Q E v H' r hf post
 obtain⟨p,e1,hf⟩:=Zz0.mp hf
 refine wpAny_Call_ofName (hn.use r ?_)
 refine callWith_builtin1 (h pos W ρ H fr s _ E _ _ r e1 fun W1 k1 t1 xs l1 r1 x1=>?_) he (hp pos)
 exact ho Γ W1 ρ _ fr _ Q E _ xs v H' r1 x1 hf fun W2 k2 t2 y l2 r2 y2=>post W2 k2 t2 y (l1.trans l2) r2 y2
theorem ZjD{x:Str}{np pos:Pos}{T:String}{e:Expr}{es:List Expr}{g:Exs}{o:List V→Hp→Option (V×Hp)}(hn:Nm prog w Γ x (.type T))(h:Js prog w Γ (e::es) g)(ho:OpN prog w (fun xs=>call (.type T) xs) o)
  (he:starEach (e::es) Γ.env=(false,eval e Γ.env)::starEach es Γ.env:=by rfl) (hp:∀pos,(backTo pos (starEach es Γ.env)).any (·.1)=false:=by intro _;rfl):J prog w Γ (.Call (.Name x np) (e::es) [] pos) (ZH o g):=by
 intro W ρ H fr s Q E v H' r hf post
 obtain⟨p,e1,hf⟩:=Zz0.mp hf
 refine wpAny_Call_ofName (hn.use r ?_)
 refine PySem.Pv.callWith_type1 (h pos W ρ H fr s _ E _ _ r e1 fun W1 k1 t1 xs l1 r1 x1=>?_) he (hp pos)
 exact ho Γ W1 ρ _ fr _ Q E _ xs v H' r1 x1 hf fun W2 k2 t2 y l2 r2 y2=>post W2 k2 t2 y (l1.trans l2) r2 y2
end
noncomputable def ZmI: V→String
 | .none=>"NoneType"
 | .bool _=>"bool"
 | .int _=>"int"
 | .str _=>"str"
 | .tup _=>"tuple"
 | .ref _=>"list"
noncomputable def Zm9(T:String)(v:V): Bool:=ZmI v == T || (T == "int" && ZmI v == "bool")
noncomputable def eIs(T:String)(f:Ex): Ex:=fun ρ H=>(f ρ H).map fun p=>(.bool (Zm9 T p.1),p.2)
section
variable {prog:Program} {w:World} {Γ:Cx}
theorem isinst{T:String}(hT:T="int"∨T="bool"∨T="list"∨T="tuple"){W:Wd}{ρ:Lc}{H:Hp}{fr:List (Addr×Obj)}{s:Shared}{Q E:Value→Shared→Prop}{a:V}{x:Value}(r:Rep Γ W ρ H fr s.heap)(hx:VR W a x)(hin:∀i,a=.ref i→i<H.length)
  (post:∀tk,Q (.bool (Zm9 T a)) { s with toks:=tk }):wpAny (model prog w) Γ.A (call (.builtin "isinstance") [x,.type T]) Q E s:=by
 cases hx with
 | none=>
      rcases hT with e | e | e | e <;> subst e
      ·exact call_isinstance (isinstance_false_none (by decide +kernel) F.isi_meta_int (by rw[isSubtype_type];kernel_rfl)) (post _)
      ·exact call_isinstance (isinstance_false_none (by decide +kernel) F.isi_meta_bool (by rw[isSubtype_type];kernel_rfl)) (post _)
      ·exact call_isinstance (isinstance_false_none (by decide +kernel) F.isi_meta_list (by rw[isSubtype_type];kernel_rfl)) (post _)
      ·exact call_isinstance (isinstance_false_none (by decide +kernel) F.isi_meta_tuple (by rw[isSubtype_type];kernel_rfl)) (post _)
 | bool b=>
       rcases hT with e | e | e | e <;> subst e
       ·exact IsiPair.bool_int (post s.toks)
       ·exact IsiPair.bool_bool (post s.toks)
       ·exact IsiPair.bool_list (post _)
       ·exact IsiPair.bool_tuple (post _)
 | int i t=>
       rcases hT with e | e | e | e <;> subst e
       ·exact IsiPair.int_int (post s.toks)
       ·exact IsiPair.int_bool (post _)
       ·exact IsiPair.int_list (post _)
       ·exact IsiPair.int_tuple (post _)
 | str y t=>
       rcases hT with e | e | e | e <;> subst e
       ·exact IsiPair.str_int (post _)
       ·exact IsiPair.str_bool (post _)
       ·exact IsiPair.str_list (post _)
       ·exact IsiPair.str_tuple (post _)
 | tup hm hl hs=>
  have hg:=r.tupAt hm
  rcases hT with e | e | e | e <;> subst e
  ·exact IsiPair.tuple_int hg rfl (post _)
  ·exact IsiPair.tuple_bool hg rfl (post _)
  ·exact IsiPair.tuple_list hg rfl (post _)
  ·exact IsiPair.tuple_tuple hg rfl (post s.toks)
 | @ref i a ea=>
  obtain⟨hl,xs,k,hg,hv⟩:=r.at (List.getElem?_eq_getElem (hin i rfl)) ea
  rcases hT with e | e | e | e <;> subst e
  ·exact IsiPair.list_int hg rfl (post _)
  ·exact IsiPair.list_bool hg rfl (post _)
  ·exact IsiPair.list_list hg rfl (post s.toks)
  ·exact IsiPair.list_tuple hg rfl (post _)
end
theorem Rep.refIn{Γ:Cx}{W:Wd}{ρ:Lc}{H:Hp}{fr:List (Addr×Obj)}{h:Heap}{i:Nat}{x:Value}(r:Rep Γ W ρ H fr h)(hx:VR W (.ref i) x): i<H.length:=by
 obtain⟨m,c,led,r⟩:=r
 cases hx with
 | ref e=>rw[←r.R.len];exact(Zz6.mp e).1
section
variable {prog:Program} {w:World} {Γ:Cx}
theorem Zdw{np tp pos:Pos}{x y:Str}{T:String}{e:Expr}{f:Ex}(hn:Nm prog w Γ x (.builtin "isinstance"))(hy:Nm prog w Γ y (.type T))(hT:T="int"∨T="bool"∨T="list"∨T="tuple")(h:J prog w Γ e f)
  (he:starEach [e,.Name y tp] Γ.env=(false,eval e Γ.env)::starEach [.Name y tp] Γ.env:=by rfl) (hp:∀pos,(backTo pos (starEach [.Name y tp] Γ.env)).any (·.1)=false:=by intro _;rfl):J prog w Γ (.Call (.Name x np) [e,.Name y tp] [] pos) (eIs T f):=by
 intro W ρ H fr s Q E v H' r hf post
 obtain⟨p,e1,e2⟩:=Zz1.mp hf
 cases e2
 refine wpAny_Call_ofName (hn.use r ?_)
 refine callWith_builtin1 (wpAny_items_cons (h W ρ H fr s _ E _ _ r e1 fun W1 k1 t1 z l1 r1 z1=>?_) he) he (hp pos)
 refine wpAny_items_cons (hy.use (s:={ s with heap:=k1,toks:=t1 }) r1 ?_)
 refine wpAny_items_nil ?_
 exact PM.isinst hT r1 z1 (fun i e=>by rw[e]at z1;exact r1.refIn z1) fun tk=>post W1 k1 tk _ l1 r1 (.bool _)
end
noncomputable def ZbL: List V→Hp→Option (V×Hp)
 | [.ref a],H=>H[a]?.map fun vs=>(.int vs.length,H)
 | [.tup vs],H=>some (.int vs.length,H)
 | _,_=>none
noncomputable def ZnR: List V→Hp→Option (V×Hp)
 | [.int a],H=>some (.int (if a<0 then -a else a),H)
 | _,_=>none
noncomputable def ZnB: List V→Hp→Option (V×Hp)
 | [.int a,.int b],H=>some (.int (if b>a then b else a),H)
 | _,_=>none
noncomputable def Zdj: List V→Option (List Int)
 | []=>some []
 | .int k::vs=>(Zdj vs).map fun ks=>k::ks
 | _::_=>none
noncomputable def Zkt: List V→Hp→Option (V×Hp)
 | [.ref a],H=>H[a]?.bind fun vs=>(Zdj vs).map fun ks=>(.int ks.sum,H)
 | _,_=>none
theorem VRs.one{W:Wd}{v:V}{xs:List Value}(h:VRs W [v] xs): ∃x,xs=[x]∧VR W v x:=by
 cases h with
 | cons a b=>cases b;exact⟨_,rfl,a⟩
theorem VRs.two{W:Wd}{v u:V}{xs:List Value}(h:VRs W [v,u] xs): ∃x y,xs=[x,y]∧VR W v x∧VR W u y:=by
 cases h with
 | cons a b=>obtain⟨y,e,r⟩:=b.one;subst e;exact⟨_,_,rfl,a,r⟩
theorem Ztx{W:Wd}: ∀{vs:List V} {xs:List Value} {ks:List Int},VRs W vs xs→Zdj vs=some ks→∃ts:Array (Int×Tok),xs.toArray=intItems ts∧preSum (numAt ts) ts.size=ks.sum:=by
 have key:∀{vs:List V} {xs:List Value} {ks:List Int},VRs W vs xs→Zdj vs=some ks→∃ts:List (Int×Tok),xs=ts.map (fun p=>Value.int p.1 p.2)∧ts.map (·.1)=ks:=by
  intro vs
  induction vs with
  | nil=>intro xs ks h e;cases h;cases e;exact⟨[],rfl,rfl⟩
  | cons v vs ih=>
   intro xs ks h e
   cases h with
   | cons a b=>
    cases v with
    | int i=>
     obtain⟨js,e1,e2⟩:=Zz1.mp e
     subst e2
     cases a with
     | int _ t=>
      obtain⟨ts,h1,h2⟩:=ih b e1
      exact⟨(i,t)::ts,by rw[h1];rfl,by rw[List.map_cons,h2]⟩
    | none=>cases e
    | bool _=>cases e
    | str _=>cases e
    | tup _=>cases e
    | ref _=>cases e
 intro vs xs ks h e
 obtain⟨ts,h1,h2⟩:=key h e
 refine⟨ts.toArray,by rw[h1];simp[intItems],?_⟩
 rw[preSum_eq,List.take_of_length_le (by simp),←h2]
noncomputable def Zas: V→V→Hp→Option (V×Hp)
 | .int a,.int b,H=>some (.int (a+b),H)
 | .ref a,.ref b,H=>H[a]?.bind fun vs=>H[b]?.bind fun us=>if(vs++us).length≤LEN then some (.ref H.length,H++[vs++us])else none
 | .tup vs,.tup us,H=>if(vs++us).length≤LEN then some (.tup (vs++us),H)else none
 | _,_,_=>none
noncomputable def ZeY(vs:List V): Nat→List V
 | 0=>[]
 | n+1=>ZeY vs n++vs
noncomputable def Zd9: V→V→Hp→Option (V×Hp)
 | .int a,.int b,H=>if mulOk a b=true then some (.int (a*b),H)else none
 | .ref a,.int k,H=>H[a]?.bind fun vs=>if vs.length*k.toNat≤LEN∧-(2 ^ 63:Int)≤k∧k<2 ^ 63 then some (.ref H.length,H++[ZeY vs k.toNat])else none
 | _,_,_=>none
section
variable {prog:Program} {w:World}
theorem ZaC: OpN prog w (fun xs=>call (.builtin "len") xs) ZbL:=by
 intro Γ W ρ H fr s Q E as xs v H' r hx ho post
 unfold ZbL at ho
 split at ho
 ·rename_i a
  obtain⟨vs,e1,e2⟩:=Zz1.mp ho
  cases e2
  obtain⟨x,ex,rx⟩:=hx.one
  subst ex
  cases rx with
  | ref ea=>
   obtain⟨hl,ys,k,hg,hv⟩:=r.at e1 ea
   have isl:s.heap.IsList _ ys.toArray:=⟨_,hg,rfl,k,rfl⟩
   have e3:(ys.toArray.size:Int)=vs.length:=by simp[hv.length]
   rw[ZaO]at hl
   refine Calls.call_len_list isl (by rw[e3];omega) ?_
   rw[e3]
   exact post W s.heap _ _ (.refl W) r (.int _ _)
 ·rename_i vs
  cases ho
  obtain⟨x,ex,rx⟩:=hx.one
  subst ex
  cases rx with
  | @tup _ a ys k hm hl hs=>
   have it:IsTup s.heap a ys.toArray:=⟨_,r.tupAt hm,rfl,k,rfl⟩
   have e3:(ys.toArray.size:Int)=vs.length:=by simp[hs.length]
   rw[ZaO]at hl
   refine len_tuple it (by rw[e3];omega) ?_
   rw[e3]
   exact post W s.heap _ _ (.refl W) r (.int _ _)
 ·cases ho
theorem ZcY: OpN prog w (fun xs=>call (.builtin "abs") xs) ZnR:=by
 intro Γ W ρ H fr s Q E as xs v H' r hx ho post
 unfold ZnR at ho
 split at ho
 ·cases ho
  obtain⟨x,ex,rx⟩:=hx.one
  subst ex
  cases rx with
  | int i t=>exact call_abs_int fun u tk=>post W s.heap tk _ (.refl W) r (.int _ _)
 ·cases ho
theorem ZwR: OpN prog w (fun xs=>call (.builtin "max") xs) ZnB:=by
 intro Γ W ρ H fr s Q E as xs v H' r hx ho post
 unfold ZnB at ho
 split at ho
 ·cases ho
  obtain⟨x,y,ex,rx,ry⟩:=hx.two
  subst ex
  cases rx with
  | int i t=>
   cases ry with
   | int j u=>
    refine max_two_ints Γ.hh fun h' tk up=>?_
    split
    ·rename_i c
     rw[if_pos c]at post
     exact post W h' tk _ (.refl W) (r.grown up) (.int _ _)
    ·rename_i c
     rw[if_neg c]at post
     exact post W h' tk _ (.refl W) (r.grown up) (.int _ _)
 ·cases ho
theorem Zym: OpN prog w (fun xs=>call (.builtin "sum") xs) Zkt:=by
 intro Γ W ρ H fr s Q E as xs v H' r hx ho post
 unfold Zkt at ho
 split at ho
 ·obtain⟨vs,e1,e2⟩:=Zz0.mp ho
  obtain⟨ks,e3,e4⟩:=Zz1.mp e2
  cases e4
  obtain⟨x,ex,rx⟩:=hx.one
  subst ex
  cases rx with
  | ref ea=>
   obtain⟨hl,ys,k,hg,hv⟩:=r.at e1 ea
   obtain⟨ts,h1,h2⟩:=Ztx hv e3
   have isl:s.heap.IsList _ (intItems ts):=⟨_,hg,rfl,k,by rw[←h1]⟩
   refine sum_intListG Γ.hh isl fun h' tk t' up=>?_
   rw[h2]
   exact post W h' tk _ (.refl W) (r.grown up) (.int _ _)
 ·cases ho
theorem Z0: Op2 prog w (binaryOp .Add) Zas:=by
 intro Γ W ρ H fr s Q E a b x y v H' r hx hy ho post
 unfold Zas at ho
 split at ho
 ·cases ho
  cases hx;cases hy
  exact PySem.P.add_int (post W s.heap _ _ (.refl W) r (.int _ _))
 ·obtain⟨vs,e1,ho⟩:=Zz0.mp ho
  obtain⟨us,e2,ho⟩:=Zz0.mp ho
  by_cases hl:(vs++us).length≤LEN
  ·rw[if_pos hl]at ho
   cases ho
   cases hx with
   | ref ea=>
   cases hy with
   | ref eb=>
   obtain⟨l1,ys,k,hg,hv⟩:=r.at e1 ea
   obtain⟨l2,zs,k2,hg2,hv2⟩:=r.at e2 eb
   obtain⟨m,c,led,r'⟩:=r
   have i1:s.heap.IsList _ ys.toArray:=⟨_,hg,rfl,k,rfl⟩
   have i2:s.heap.IsList _ zs.toArray:=⟨_,hg2,rfl,k2,rfl⟩
   refine add_lists (hsz:=ZcV (by rw[hv.length,hv2.length,←List.length_append];exact hl)) r'.F r'.N i1 i2 fun h' F' N'=>?_
   obtain⟨W2,le2,r2,v2⟩:=r'.newList F' N' r'.off (hv.append hv2) hl
   exact post W2 h' s.toks _ le2 r2 v2
  ·rw[if_neg hl]at ho
   cases ho
 ·rename_i vs us
  by_cases hl:(vs++us).length≤LEN
  ·rw[if_pos hl]at ho
   cases ho
   cases hx with
   | @tup _ a ys k hm h1 hv=>
   cases hy with
   | @tup _ b zs k2 hm2 h2 hv2=>
   have t1:IsTup s.heap a ys.toArray:=⟨_,r.tupAt hm,rfl,k,rfl⟩
   have t2:IsTup s.heap b zs.toArray:=⟨_,r.tupAt hm2,rfl,k2,rfl⟩
   have r0:=r
   obtain⟨m,c,led,r'⟩:=r
   refine add_tuples (hsz:=ZcV (by rw[hv.length,hv2.length,←List.length_append];exact hl)) r'.F r'.N t1 t2 (fun e=>?_) (fun _ e=>?_) fun _ _ h' F' N'=>?_
   ·have:vs=[]:=List.length_eq_zero_iff.mp (by rw[←hv.length,e];rfl)
    subst this
    exact post W s.heap s.toks _ (.refl W) r0 (.tup hm2 h2 hv2)
   ·have:us=[]:=List.length_eq_zero_iff.mp (by rw[←hv2.length,e];rfl)
    subst this
    rw[List.append_nil]at post
    exact post W s.heap s.toks _ (.refl W) r0 (.tup hm h1 hv)
   ·obtain⟨W2,le2,r2,v2⟩:=r'.newTup F' N' r'.off (hv.append hv2) hl
    exact post W2 h' s.toks _ le2 r2 v2
  ·rw[if_neg hl]at ho
   cases ho
 ·cases ho
theorem Zp6(vs:List V): ∀n,(ZeY vs n).length=vs.length*n
 | 0=>rfl
 | n+1=>by rw[ZeY,List.length_append,Zp6 vs n,Nat.mul_succ]
theorem Zu2(xs:List Value)(n:Nat): ∀acc:Array Value,(List.foldl (fun x1 x2=>x1++x2) acc (List.replicate n xs.toArray))=acc++(List.replicate n xs).flatten.toArray:=by
 induction n with
 | zero=>intro acc;simp
 | succ n ih=>
  intro acc
  rw[List.replicate_succ,List.foldl_cons,ih,List.replicate_succ,List.flatten_cons]
  simp[Array.append_assoc]
theorem ZqM{W:Wd}{vs:List V}{xs:List Value}(h:VRs W vs xs): ∀n,VRs W (ZeY vs n) (List.replicate n xs).flatten
 | 0=>.nil
 | n+1=>by
  rw[ZeY,List.replicate_succ',List.flatten_append]
  simp only[List.flatten_cons,List.flatten_nil,List.append_nil]
  exact(ZqM h n).append h
theorem Za9: Op2 prog w (binaryOp .Mult) Zd9:=by
 intro Γ W ρ H fr s Q E a b x y v H' r hx hy ho post
 unfold Zd9 at ho
 split at ho
 ·rename_i i j
  by_cases hm:mulOk i j=true
  ·rw[if_pos hm]at ho
   cases ho
   cases hx;cases hy
   exact PySem.P.mul_int (post W s.heap _ _ (.refl W) r (.int _ _)) (ZvM hm)
  ·rw[if_neg hm]at ho
   cases ho
 ·rename_i i k
  obtain⟨vs,e1,ho⟩:=Zz0.mp ho
  by_cases hc:vs.length*k.toNat≤LEN∧-(2 ^ 63:Int)≤k∧k<2 ^ 63
  ·rw[if_pos hc]at ho
   cases ho
   cases hx with
   | ref ea=>
   cases hy with
   | int _ u=>
   obtain⟨l1,ys,kk,hg,hv⟩:=r.at e1 ea
   obtain⟨m,c,led,r'⟩:=r
   have hl:=hc.1
   rw[ZaO]at hl
   refine mul_list r'.F r'.N hg hc.2.1 hc.2.2 (by rw[List.size_toArray,hv.length];omega) fun h' F' N'=>?_
   have e2:(List.foldl (fun x1 x2=>x1++x2) #[] (List.replicate (if ys.toArray.isEmpty=true then 0 else k.toNat) ys.toArray))=(List.replicate k.toNat ys).flatten.toArray:=by
    cases ys with
    | nil=>
     simp
    | cons y0 ys0=>
     have:((y0::ys0).toArray.isEmpty=true)=False:=by simp
     simp only[this,if_false]
     rw[Zu2]
     simp
   rw[e2]at N'
   obtain⟨W2,le2,r2,v2⟩:=r'.newList F' N' r'.off (ZqM hv k.toNat) (by rw[Zp6];exact hc.1)
   exact post W2 h' s.toks _ le2 r2 v2
  ·rw[if_neg hc]at ho
   cases ho
 ·cases ho
end
end PM
end
section
namespace PM
open PySem PyProof.Rows PyProof
noncomputable def upd(ρ:Lc)(i:Nat)(v:V): Lc:=fun j=>if j=i then some v else ρ j
noncomputable abbrev Sm:=Lc→Hp→Option (Option V×Lc×Hp)
noncomputable def Zax: Sm:=fun ρ H=>some (none,ρ,H)
noncomputable def ZW(a b:Sm): Sm:=fun ρ H=>(a ρ H).bind fun p=>match p.1 with
 | some _=>some p
 | none=>b p.2.1 p.2.2
noncomputable def Zag(f:Ex): Sm:=fun ρ H=>(f ρ H).map fun p=>(some p.1,ρ,p.2)
noncomputable def Zaa(i:Nat)(f:Ex): Sm:=fun ρ H=>(f ρ H).map fun p=>(none,upd ρ i p.1,p.2)
noncomputable def sIf(t:Ts)(a b:Sm): Sm:=fun ρ H=>(t ρ H).bind fun p=>if p.1 then a ρ p.2 else b ρ p.2
noncomputable def ZbM(f:Ex): Sm:=fun ρ H=>(f ρ H).map fun p=>(none,ρ,p.2)
noncomputable def ZnS: V→V→V→Hp→Option Hp
 | .ref a,.int k,v,H=>H[a]?.bind fun vs=>if a≠0∧0≤k∧k<vs.length then some (H.set a (vs.set k.toNat v))else none
 | _,_,_,_=>none
noncomputable def ZcG(f o i:Ex): Sm:=fun ρ H=>(f ρ H).bind fun p=>(o ρ p.2).bind fun q=>(i ρ q.2).bind fun u=>(ZnS q.1 u.1 p.1 u.2).map fun K=>(none,ρ,K)
noncomputable def ZeH(t:Ts)(b:Sm): Nat→Sm
 | 0=>fun _ _=>none
 | n+1=>fun ρ H=>(t ρ H).bind fun p=>if p.1 then(b ρ p.2).bind fun q=>(match q.1 with
   | some _=>some q
   | none=>ZeH t b n q.2.1 q.2.2)else some (none,ρ,p.2)
noncomputable def PostS(Γ:Cx)(W:Wd)(fr:List (Addr×Obj))(s:Shared)(Q:Flow→Shared→Prop): Option V×Lc×Hp→Prop
 | (none,ρ',H')=>∀(W':Wd) (h':Heap) (tk':Nat),W.Le W'→Rep Γ W' ρ' H' fr h'→Q .next { s with heap:=h',toks:=tk' }
 | (some v,ρ',H')=>∀(W':Wd) (h':Heap) (tk':Nat) (x:Value),W.Le W'→Rep Γ W' ρ' H' fr h'→VR W' v x→Q (.ret x) { s with heap:=h',toks:=tk' }
theorem PostS.le{Γ:Cx}{W W':Wd}{fr:List (Addr×Obj)}{s:Shared}{h:Heap}{tk:Nat}{Q:Flow→Shared→Prop}{r:Option V×Lc×Hp}(l:W.Le W')(p:PostS Γ W fr s Q r): PostS Γ W' fr { s with heap:=h,toks:=tk } Q r:=by
 obtain⟨o,ρ',H'⟩:=r
 cases o with
 | none=>exact fun W2 h2 t2 l2 r2=>p W2 h2 t2 (l.trans l2) r2
 | some v=>exact fun W2 h2 t2 x l2 r2 x2=>p W2 h2 t2 x (l.trans l2) r2 x2
section
variable (prog:Program) (w:World)
def S1(Γ:Cx)(st:Stmt)(g:Sm): Prop:=∀(W:Wd) (ρ:Lc) (H:Hp) (fr:List (Addr×Obj)) (s:Shared) (Q:Flow→Shared→Prop) (E:Value→Shared→Prop) (r:Option V×Lc×Hp),
 Rep Γ W ρ H fr s.heap→g ρ H=some r→PostS Γ W fr s Q r→wpAny (model prog w) Γ.A (exec st Γ.env) Q E s
def Ss(Γ:Cx)(ss:List Stmt)(g:Sm): Prop:=∀(W:Wd) (ρ:Lc) (H:Hp) (fr:List (Addr×Obj)) (s:Shared) (Q:Flow→Shared→Prop) (E:Value→Shared→Prop) (r:Option V×Lc×Hp),
 Rep Γ W ρ H fr s.heap→g ρ H=some r→PostS Γ W fr s Q r→wpAny (model prog w) Γ.A (execs ss Γ.env) Q E s
def Sto(Γ:Cx)(x:Str)(i:Nat): Prop:=∀(W:Wd) (ρ:Lc) (H:Hp) (fr:List (Addr×Obj)) (s:Shared) (Q:Unit→Shared→Prop) (E:Value→Shared→Prop) (v:V) (y:Value),
 Rep Γ W ρ H fr s.heap→VR W v y→(∀(h':Heap) (tk':Nat),Rep Γ W (upd ρ i v) H fr h'→Q () { s with heap:=h',toks:=tk' })→wpAny (model prog w) Γ.A (storeName Γ.env x y) Q E s
def Rd(Γ:Cx)(x:Str)(i:Nat): Prop:=∀(W:Wd) (ρ:Lc) (H:Hp) (fr:List (Addr×Obj)) (s:Shared) (Q E:Value→Shared→Prop) (v:V) (pos:Pos),
 Rep Γ W ρ H fr s.heap→ρ i=some v→(∀y,VR W v y→Q y s)→wpAny (model prog w) Γ.A (eval (.Name x pos) Γ.env) Q E s
end
section
variable {prog:Program} {w:World} {Γ:Cx}
theorem Zkl{x:Str}{i:Nat}{pos:Pos}(h:Rd prog w Γ x i): J prog w Γ (.Name x pos) (Zg i):=by
 intro W ρ H fr s Q E v H' r hf post
 obtain⟨u,e1,e2⟩:=Zz1.mp hf
 cases e2
 exact h W ρ H fr s Q E v pos r e1 fun y hy=>post W s.heap s.toks y (.refl W) r hy
theorem ZO: Ss prog w Γ [] Zax:=fun W ρ H fr s Q E r rp hf post=>by
 cases hf
 exact wpAny_execs_nil (post W s.heap s.toks (.refl W) rp)
theorem Zp{st:Stmt}{ss:List Stmt}{a b:Sm}(h1:S1 prog w Γ st a)(h2:Ss prog w Γ ss b): Ss prog w Γ (st::ss) (ZW a b):=by
 intro W ρ H fr s Q E r rp hf post
 obtain⟨p,e1,hf⟩:=Zz0.mp hf
 refine wpAny_execs_cons (h1 W ρ H fr s _ E p rp e1 ?_)
 obtain⟨o,ρ1,H1⟩:=p
 cases o with
 | some v=>
  cases hf
  exact fun W1 k1 t1 x l1 r1 x1=>post W1 k1 t1 x l1 r1 x1
 | none=>exact fun W1 k1 t1 l1 r1=>h2 W1 ρ1 H1 fr _ Q E r r1 hf (post.le l1)
theorem Zq{st:Stmt}{a:Sm}(h1:S1 prog w Γ st a): Ss prog w Γ [st] a:=by
 intro W ρ H fr s Q E r rp hf post
 refine wpAny_execs_cons (h1 W ρ H fr s _ E r rp hf ?_)
 obtain⟨o,ρ1,H1⟩:=r
 cases o with
 | some v=>exact fun W1 k1 t1 x l1 r1 x1=>post W1 k1 t1 x l1 r1 x1
 | none=>exact fun W1 k1 t1 l1 r1=>wpAny_execs_nil (post W1 k1 t1 l1 r1)
theorem Zx{e:Expr}{pos:Pos}{f:Ex}(h:J prog w Γ e f): S1 prog w Γ (.Return (some e) pos) (Zag f):=by
 intro W ρ H fr s Q E r rp hf post
 obtain⟨p,e1,e2⟩:=Zz1.mp hf
 cases e2
 exact wpAny_Return_some (h W ρ H fr s _ E _ _ rp e1 post)
theorem S1.ife{t:Expr}{a b:List Stmt}{pos:Pos}{u:Ts}{f g:Sm}(ht:JT prog w Γ t u)(h1:Ss prog w Γ a f)(h2:Ss prog w Γ b g): S1 prog w Γ (.If t a b pos) (sIf u f g):=by
 intro W ρ H fr s Q E r rp hf post
 obtain⟨p,e1,hf⟩:=Zz0.mp hf
 refine wpAny_If (ht W ρ H fr s _ E _ _ rp e1 fun W1 k1 t1 l1 r1=>?_)
 obtain⟨c,H1⟩:=p
 cases c with
 | true=>exact h1 W1 ρ H1 fr _ Q E r r1 hf (post.le l1)
 | false=>exact h2 W1 ρ H1 fr _ Q E r r1 hf (post.le l1)
theorem ZcZ{e:Expr}{pos:Pos}{f:Ex}(h:J prog w Γ e f)(hi:interactive Γ.env=false:=by rfl)(hs:swapsWith e none pos.line Γ.env=pure false:=by rfl): S1 prog w Γ (.Expr e pos) (ZbM f):=by
 intro W ρ H fr s Q E r rp hf post
 obtain⟨p,e1,e2⟩:=Zz1.mp hf
 cases e2
 exact wpAny_Expr_any (h W ρ H fr s _ E _ _ rp e1 fun W1 k1 t1 x l1 r1 x1=>post W1 k1 t1 l1 r1) hi hs
theorem ZN{x:Str}{i:Nat}{e:Expr}{pos' pos:Pos}{f:Ex}(hx:Sto prog w Γ x i)(h:J prog w Γ e f)(hs:swapsWith e (some (.Name x pos')) pos.line Γ.env=pure false:=by rfl): S1 prog w Γ (.Assign [.Name x pos'] e pos) (Zaa i f):=by
 intro W ρ H fr s Q E r rp hf post
 obtain⟨p,e1,e2⟩:=Zz1.mp hf
 cases e2
 refine wpAny_Assign_Name (h W ρ H fr s _ E _ _ rp e1 fun W1 k1 t1 y l1 r1 y1=>?_) hs
 exact hx W1 ρ _ fr _ _ E _ y r1 y1 fun h' tk' r2=>post W1 h' tk' l1 r2
theorem Zp7{t:Expr}{a:List Stmt}{pos:Pos}{u:Ts}{f:Sm}(n:Nat)(ht:JT prog w Γ t u)(h1:Ss prog w Γ a f): S1 prog w Γ (.While t a [] pos) (ZeH u f n):=by
 intro W ρ H fr s Q E r rp hf post
 refine wpAny_While ?_
 refine codeAny_whileLoop (fun k s'=>∃W' ρ' H' h' tk',s' = { s with heap:=h',toks:=tk' }∧W.Le W'∧Rep Γ W' ρ' H' fr h'∧ZeH u f k ρ' H'=some r) ?_ n ⟨W,ρ,H,s.heap,s.toks,rfl,.refl W,rp,hf⟩
 rintro k s' ⟨W1,ρ1,H1,k1,t1,rfl,l1,r1,e⟩
 cases k with
 | zero=>cases e
 | succ k=>
  obtain⟨p,e1,e⟩:=Zz0.mp e
  refine ht W1 ρ1 H1 fr _ _ _ _ _ r1 e1 fun W2 k2 t2 l2 r2=>?_
  obtain⟨c,H2⟩:=p
  cases c with
  | false=>
   cases e
   exact wpAny_execs_nil (post W2 k2 t2 (l1.trans l2) r2)
  | true=>
   obtain⟨q,e2,e⟩:=Zz0.mp e
   refine h1 W2 ρ1 H2 fr _ _ _ q r2 e2 ?_
   obtain⟨o,ρ3,H3⟩:=q
   cases o with
   | some v=>
    cases e
    exact fun W3 k3 t3 x l3 r3 x3=>post W3 k3 t3 x ((l1.trans l2).trans l3) r3 x3
   | none=>exact fun W3 k3 t3 l3 r3=>⟨k,Nat.lt_succ_self k,W3,ρ3,H3,k3,t3,rfl,(l1.trans l2).trans l3,r3,e⟩
end
noncomputable def Zex: List V→Hp→Option (V×Hp)
 | [.ref a,v],H=>H[a]?.bind fun vs=>if a≠0∧vs.length<LEN then some (.none,H.set a (vs++[v]))else none
 | _,_=>none
section
variable {prog:Program} {w:World} {Γ:Cx}
theorem Zu3: OpN prog w (fun xs=>call (.builtin "list.append") xs) Zex:=by
 intro Γ W ρ H fr s Q E as xs v H' r hx ho post
 unfold Zex at ho
 split at ho
 ·obtain⟨vs,e1,e2⟩:=Zz0.mp ho
  obtain⟨x,y,ex,rx,ry⟩:=hx.two
  subst ex
  split at e2
  ·rename_i hl
   cases e2
   cases rx with
   | @ref _ a0 ea=>
    obtain⟨_,ys,k,hg,hv⟩:=r.at e1 ea
    refine append_at (hsz:=ZcV (by rw[List.size_toArray,hv.length];omega)) hg fun h' sb hg'=>?_
    have hg2:h'.get? a0=some (Zbg (ys++[y]) (k+1)):=by rw[hg'];simp
    exact post W h' s.toks _ (.refl W) (r.change hl.1 e1 ea sb hg2 (hv.snoc ry) (by simp;omega)) .none
  ·cases e2
 ·cases ho
end
end PM
end
section
namespace PM
open PySem PySem.W PyProof.Rows PyProof
theorem ZqN: ∀{l:List Value} {k:Nat} {v:Value},k<l.length→ki_setL l k v=some (l.set k v)
 | [],_,_,h=>by simp at h
 | x::r,0,v,_=>by simp[ki_setL]
 | x::r,k+1,v,h=>by
  have:=ZqN (l:=r) (k:=k) (v:=v) (by simpa using h)
  simp[ki_setL,this]
theorem Zu4{a k v:V}{H K:Hp}(h:ZnS a k v H=some K): ∃i j vs,a=.ref i∧k=.int j∧H[i]?=some vs∧(i≠0∧0≤j∧j<vs.length)∧K=H.set i (vs.set j.toNat v):=by
 cases a <;> first | (cases h;done) | skip
 cases k <;> first | (cases h;done) | skip
 obtain⟨vs,e1,e2⟩:=Zz0.mp h
 split at e2
 ·rename_i c
  cases e2
  exact⟨_,_,vs,rfl,rfl,e1,c,rfl⟩
 ·cases e2
theorem Zty{a v x:V}{H K:Hp}(h:Zex [a,v] H=some (x,K)): ∃i,a=.ref i:=by
 cases a <;> first | (cases h;done) | skip
 exact⟨_,rfl⟩
noncomputable def Zde(o f:Ex): Ex:=fun ρ H=>(o ρ H).bind fun p=>(f ρ p.2).bind fun q=>Zex [p.1,q.1] q.2
section
variable {prog:Program} {w:World} {Γ:Cx}
theorem S1.put{o i value:Expr}{pos' pos:Pos}{f g k:Ex}(hf:J prog w Γ value f)(ho:J prog w Γ o g)(hi:J prog w Γ i k)(hs:swapsWith value (some (.Subscript o i pos')) pos.line Γ.env=pure false:=by rfl): S1 prog w Γ (.Assign [.Subscript o i pos'] value pos) (ZcG f g k):=by
 intro W ρ H fr s Q E r rp hx post
 obtain⟨p,e1,hx⟩:=Zz0.mp hx
 obtain⟨q,e2,hx⟩:=Zz0.mp hx
 obtain⟨u,e3,hx⟩:=Zz0.mp hx
 obtain⟨K,e4,e5⟩:=Zz1.mp hx
 cases e5
 refine wpAny_Assign_Subscript (hf W ρ H fr s _ E _ _ rp e1 fun W1 k1 t1 x l1 r1 x1=>?_) hs
 refine ho W1 ρ _ fr _ _ E _ _ r1 e2 fun W2 k2 t2 y l2 r2 y2=>?_
 refine hi W2 ρ _ fr _ _ E _ _ r2 e3 fun W3 k3 t3 z l3 r3 z3=>?_
 have x3:=x1.mono (l2.trans l3)
 have y3:=y2.mono l3
 obtain⟨b,kk,vs,eb,ek,hvs,hc,e6⟩:=Zu4 e4
 subst e6
 rw[eb]at y3
 rw[ek]at z3
 cases y3 with
 | @ref _ a ea=>
 cases z3 with
 | int _ tz=>
 obtain⟨hl,xs,n,hg,hv⟩:=r3.at hvs ea
 obtain⟨m,c,led,r'⟩:=r3
 have hll:=hl
 rw[ZaO]at hll
 have hk:kk.toNat<xs.length:=by rw[hv.length];omega
 obtain⟨_,a',xs',n',h1,h2,h3⟩:=r'.R.lists b vs hvs
 rw[ea]at h1
 cases h1
 have h2:=r'.inLed hc.1 ea h2
 have N2:News Γ.h₀ Γ.L k3 ((a,Zbg xs n)::led.filter (fun q=>decide (q.1≠a))):=by
  intro q hq
  rcases Zz7.mp hq with e | hq
  ·subst e
   exact⟨hg,(r'.N _ h2).2⟩
  ·exact r'.N q (List.mem_filter.mp hq).1
 refine ki_set (its:=xs.toArray) (n:=n) (q:=xs.set kk.toNat x) r'.F N2 hc.2.1 (by omega) (by simpa using ZqN hk) (Upd.head fun q hq=>by simpa using (List.mem_filter.mp hq).2) fun h' F' N'=>?_
 exact post W3 h' t3 ((l1.trans l2).trans l3) (r'.changed hc.1 hvs ea F' N' (hv.set _ x3) (by simpa using hl))
theorem J.append{o e:Expr}{apos pos:Pos}{f g:Ex}(ho:J prog w Γ o f)(he:J prog w Γ e g)(hbase:attributeBase o "append" Γ.env (eval o Γ.env)=eval o Γ.env:=by rfl)
  (hfew:((backTo pos (starEach [e] Γ.env)).all (fun x=>!x.1) && (backToKw pos (keywordEach [] Γ.env)).all (fun x=>x.1.isSome) && decide (([e]:List Expr).length+([]:List Keyword).length+(if([]:List Keyword).isEmpty then 0 else 1)<30))=true:=by rfl)
  (hline:(apos.endLine == pos.line)=true:=by rfl) (htrees:backTo pos (starEach [e] Γ.env)=[(false,eval e Γ.env)]:=by rfl):J prog w Γ (.Call (.Attribute o "append" apos) [e] [] pos) (Zde f g):=by
 intro W ρ H fr s Q E v H' r hx post
 obtain⟨p,e1,hx⟩:=Zz0.mp hx
 obtain⟨q,e2,e3⟩:=Zz0.mp hx
 refine wpAny_Call_append hbase hfew hline htrees (ho W ρ H fr s _ E _ _ r e1 fun W1 k1 t1 x l1 r1 x1=>?_)
 obtain⟨v1,H1⟩:=p
 obtain⟨b,hb⟩:=Zty e3
 subst hb
 have hb:=r1.refIn x1
 cases x1 with
 | @ref _ a ea=>
 obtain⟨_,xs,n,hg,hv⟩:=r1.at (List.getElem?_eq_getElem hb) ea
 refine⟨a,xs.toArray,rfl,⟨_,n,hg,rfl,rfl,rfl⟩,?_⟩
 refine he W1 ρ _ fr _ _ E _ _ r1 e2 fun W2 k2 t2 y l2 r2 y2=>?_
 exact Zu3 Γ W2 ρ _ fr _ Q E _ [.ref a,y] v H' r2 (.cons (.ref (l2.at ea)) (.cons y2 .nil)) e3 fun W3 k3 t3 z l3 r3 z3=>post W3 k3 t3 z ((l1.trans l2).trans l3) r3 z3
end
end PM
end
section
namespace PM
open PySem PySem.W PyProof.Rows PyProof
noncomputable abbrev Nx:=Nat→Hp→Option (Option V)
noncomputable def ZzL(Γ:Cx)(W:Wd)(ρ:Lc)(H:Hp)(fr:List (Addr×Obj))(s:Shared)(It:Nat→List (Addr×Obj)→Prop)(i:Nat)(Q:Option Value→Shared→Prop): Option V→Prop
 | none=>∀(h':Heap) (tk':Nat),Rep Γ W ρ H fr h'→Q none { s with heap:=h',toks:=tk' }
 | some v=>∀(fs':List (Addr×Obj)) (h':Heap) (tk':Nat) (x:Value),It (i+1) fs'→Rep Γ W ρ H (fs'++fr) h'→VR W v x→Q (some x) { s with heap:=h',toks:=tk' }
structure Itr(prog:Program)(w:World)(Γ:Cx)(W0:Wd)(it:Value)(as:List Addr)(It:Nat→List (Addr×Obj)→Prop)(nx:Nx): Prop where
 adr:∀i fs,It i fs→fs.map (·.1)=as
 next:∀(i:Nat) (W:Wd) (ρ:Lc) (H:Hp) (fr fs:List (Addr×Obj)) (s:Shared) (Q:Option Value→Shared→Prop) (E:Value→Shared→Prop) (o:Option V),W0.Le W→Rep Γ W ρ H (fs++fr) s.heap→(∀a∈as,∀t∈fr,a≠t.1)→It i fs→nx i H=some o →
  ZzL Γ W ρ H fr s It i Q o→wpAny (model prog w) Γ.A (pyNext it) Q E s
 self:∀(i:Nat) (W:Wd) (ρ:Lc) (H:Hp) (fr fs:List (Addr×Obj)) (s:Shared) (Q E:Value→Shared→Prop),W0.Le W→Rep Γ W ρ H (fs++fr) s.heap→It i fs→Q it s→wpAny (model prog w) Γ.A (pyIter it) Q E s
noncomputable abbrev Src:=Lc→Hp→Option (Nx×Nat×Hp)
def JI(prog:Program)(w:World)(Γ:Cx)(e:Expr)(g:Src): Prop:=∀(W:Wd) (ρ:Lc) (H:Hp) (fr:List (Addr×Obj)) (s:Shared) (Q E:Value→Shared→Prop) (nx:Nx) (n:Nat) (H':Hp),
 Rep Γ W ρ H fr s.heap→g ρ H=some (nx,n,H') →
 (∀(W':Wd) (h':Heap) (tk':Nat) (it:Value) (as:List Addr) (It:Nat→List (Addr×Obj)→Prop) (fs:List (Addr×Obj)),W.Le W'→It 0 fs→Rep Γ W' ρ H' (fs++fr) h'→(∀a∈as,∀t∈fr,a≠t.1)→Itr prog w Γ W' it as It nx→Q it { s with heap:=h',toks:=tk' }) →
 wpAny (model prog w) Γ.A (eval e Γ.env) (fun xv s₁=>wpAny (model prog w) Γ.A (pyIter xv) Q E s₁) E s
noncomputable def Zna(a:Nat): Nx:=fun i H=>H[a]?.map fun vs=>vs[i]?
noncomputable def ZrC(vs:List V): Nx:=fun i _=>some vs[i]?
noncomputable def Zey(a c:Int)(n:Nat): Nx:=fun i _=>some (if i<n then some (.int (a+i*c))else none)
noncomputable def ZdJ(f:Ex): Src:=fun ρ H=>(f ρ H).bind fun p=>match p.1 with
 | .ref a=>p.2[a]?.map fun vs=>(Zna a,vs.length+1,p.2)
 | .tup vs=>some (ZrC vs,vs.length+1,p.2)
 | _=>none
noncomputable def rngN(a b c:Int): Nat:=(Builtin.Range.rangeSize a b c).toNat
noncomputable def Zb4(a b c:Int)(H:Hp): Option (Nx×Nat×Hp):=if c≠0∧Builtin.Range.small a b c=true∧0≤Builtin.Range.rangeSize a b c∧rngN a b c≤LEN∧Builtin.divisionGoesByPylong (b-a) c=false then some (Zey a c (rngN a b c),rngN a b c+1,H)else none
noncomputable def ZbI(g:Exs): Src:=fun ρ H=>(g ρ H).bind fun p=>match p.1 with
 | [.int b]=>Zb4 0 b 1 p.2
 | [.int a,.int b]=>Zb4 a b 1 p.2
 | [.int a,.int b,.int c]=>Zb4 a b c p.2
 | _=>none
section
variable {prog:Program} {w:World} {Γ:Cx}
theorem Znb{W0:Wd}{I:Addr}{nx:Nx}(P:Nat→Obj→Prop)
  (next:∀(i:Nat) (W:Wd) (ρ:Lc) (H:Hp) (fr:List (Addr×Obj)) (ob:Obj) (s:Shared) (Q:Option Value→Shared→Prop) (E:Value→Shared→Prop) (o:Option V),W0.Le W→Rep Γ W ρ H ((I,ob)::fr) s.heap→P i ob→nx i H=some o →
   (match o with
    | none=>∀(h':Heap) (tk':Nat),(∀b o,b≠I→s.heap.get? b=some o→h'.get? b=some o)→Q none { s with heap:=h',toks:=tk' }
    | some v=>∀(ob':Obj) (h':Heap) (tk':Nat) (x:Value),P (i+1) ob'→h'.get? I=some ob'→(∀b o,b≠I→s.heap.get? b=some o→h'.get? b=some o)→VR W v x→Q (some x) { s with heap:=h',toks:=tk' })→wpAny (model prog w) Γ.A (pyNext (.ref I)) Q E s)
  (self:∀(i:Nat) (W:Wd) (ρ:Lc) (H:Hp) (fr:List (Addr×Obj)) (ob:Obj) (s:Shared) (Q E:Value→Shared→Prop),W0.Le W→Rep Γ W ρ H ((I,ob)::fr) s.heap→P i ob→Q (.ref I) s→wpAny (model prog w) Γ.A (pyIter (.ref I)) Q E s):
  Itr prog w Γ W0 (.ref I) [I] (fun i fs=>∃ob,fs=[(I,ob)]∧P i ob) nx:=by
 refine⟨?_,?_,?_⟩
 ·rintro i fs ⟨ob,e,_⟩
  rw[e]
  rfl
 ·rintro i W ρ H fr fs s Q E o le r ap ⟨ob,e,hp⟩ hn post
  subst e
  refine next i W ρ H fr ob s Q E o le r hp hn ?_
  have ap':∀q∈[(I,ob)],∀t∈fr,q.1≠t.1:=fun q hq t ht=>by rw[List.mem_singleton.mp hq];exact ap I Zz5 t ht
  cases o with
  | none=>
   intro h' tk' keep
   have:=Rep.swap (fs:=[(I,ob)]) (fs':=[]) r ap' (fun b o hb e=>keep b o (fun q=>hb (by simp[q])) e) (fun q hq=>nomatch hq)
   exact post h' tk' this
  | some v=>
   intro ob' h' tk' x hp' hg keep hx
   have:=Rep.swap (fs:=[(I,ob)]) (fs':=[(I,ob')]) r ap' (fun b o hb e=>keep b o (fun q=>hb (by simp[q])) e) (fun q hq=>by rw[List.mem_singleton.mp hq];exact⟨hg,by simp⟩)
   exact post [(I,ob')] h' tk' x ⟨ob',rfl,hp'⟩ this hx
 ·rintro i W ρ H fr fs s Q E le r ⟨ob,e,hp⟩ q
  subst e
  exact self i W ρ H fr ob s Q E le r hp q
theorem JI.seq{e:Expr}{f:Ex}(h:J prog w Γ e f): JI prog w Γ e (ZdJ f):=by
 intro W ρ H fr s Q E nx n H' r hf post
 obtain⟨p,e1,hf⟩:=Zz0.mp hf
 refine h W ρ H fr s _ E _ _ r e1 fun W1 k1 t1 x l1 r1 x1=>?_
 obtain⟨v,H1⟩:=p
 cases x1 with
 | none=>cases hf
 | bool _=>cases hf
 | int _ _=>cases hf
 | str _ _=>cases hf
 | @tup vs a xs k hm hl hs=>
  cases hf
  have it:k1.IsTuple a xs.toArray:=⟨_,r1.tupAt hm,rfl,k,rfl⟩
  refine wpAny_pyIter_tuple it ?_
  obtain⟨r2,ap⟩:=r1.more (fs:=[(k1.objs.size,{ cls:=.type "tuple_iterator",data:=.fields #[.ref a,.int 0 0] })]) (fun b o e=>Heap.get?_push_of_some { cls:=.type "tuple_iterator",data:=.fields #[.ref a,.int 0 0] } e) (fun q hq=>by rw[List.mem_singleton.mp hq];exact⟨Heap.get?_push_size _ rfl,Nat.le_refl _⟩)
  refine post W1 _ t1 _ [k1.objs.size] _ _ l1 ⟨_,rfl,?_⟩ r2 (fun b hb t ht=>by rw[List.mem_singleton.mp hb];exact ap _ Zz5 t ht)
   (Znb (fun i ob=>ob.cls=.type "tuple_iterator"∧ob.data=.fields #[.ref a,.int i 0]) ?_ ?_)
  ·intro i W ρ H fr ob s Q E o le r hp hn post
   have g1:s.heap.IsTupleIter k1.objs.size a i:=⟨ob,r.frAt Zz5,hp.1,hp.2⟩
   have g2:s.heap.IsTuple a xs.toArray:=⟨_,r.tupAt (le.tups _ hm),rfl,k,rfl⟩
   have ne:a≠k1.objs.size:=Nat.ne_of_lt (Heap.lt_size (r1.tupAt hm))
   have Wk:=Walks.tuple (prog:=prog) (w:=w) Γ.hh k1.objs.size a ne xs.toArray
   cases hn
   cases ev:vs[i]? with
   | none=>
    rw[ev]at post
    have hi:xs.toArray[i]?=none:=by have:=List.getElem?_eq_none_iff.mp ev;rw[←hs.length]at this;simpa using this
    exact wpAny_pyNext_tuple_end Γ.hh g1 g2 hi fun h' he'=>post h' s.toks fun b o hb e=>he' b o hb e
   | some v=>
    rw[ev]at post
    obtain⟨y,hy,ry⟩:=hs.at ev
    refine wpAny_pyNext_tuple_item g1 g2 (x:=y) (by simpa using hy) fun h' hit' hs'=>?_
    obtain⟨ob',h1,h2,h3⟩:=hit'
    exact post ob' h' s.toks y ⟨h2,h3⟩ h1 (fun b o hb e=>hs'.extBut b o hb e) (ry.mono le)
  ·intro i W ρ H fr ob s Q E le r hp q
   exact wpAny_pyIter_tupleiter (⟨ob,r.frAt Zz5,hp.1,hp.2⟩:s.heap.IsTupleIter k1.objs.size a i) q
  ·exact⟨rfl,rfl⟩
 | @ref i0 a ea=>
  obtain⟨vs,e2,e3⟩:=Zz1.mp hf
  cases e3
  obtain⟨hl,xs,k,hg,hv⟩:=r1.at e2 ea
  have isl:k1.IsList a xs.toArray:=⟨_,hg,rfl,k,rfl⟩
  refine wpAny_pyIter_list isl ?_
  obtain⟨r2,ap⟩:=r1.more (fs:=[(k1.objs.size,{ cls:=.type "list_iterator",data:=.fields #[.ref a,.int 0 0] })]) (fun b o e=>Heap.get?_push_of_some { cls:=.type "list_iterator",data:=.fields #[.ref a,.int 0 0] } e) (fun q hq=>by rw[List.mem_singleton.mp hq];exact⟨Heap.get?_push_size _ rfl,Nat.le_refl _⟩)
  refine post W1 _ t1 _ [k1.objs.size] _ _ l1 ⟨_,rfl,?_⟩ r2 (fun b hb t ht=>by rw[List.mem_singleton.mp hb];exact ap _ Zz5 t ht)
   (Znb (fun i ob=>ob.cls=.type "list_iterator"∧ob.data=.fields #[.ref a,.int i 0]) ?_ ?_)
  ·intro i W ρ H fr ob s Q E o le r hp hn post
   obtain⟨us,eu,e4⟩:=Zz1.mp hn
   subst e4
   obtain⟨hl2,ys,k2,hg2,hv2⟩:=r.at eu (le.at ea)
   have g1:s.heap.IsListIter k1.objs.size a i:=⟨ob,r.frAt Zz5,hp.1,hp.2⟩
   have g2:s.heap.IsList a ys.toArray:=⟨_,hg2,rfl,k2,rfl⟩
   cases ev:us[i]? with
   | none=>
    rw[ev]at post
    have hi:ys.toArray[i]?=none:=by have:=List.getElem?_eq_none_iff.mp ev;rw[←hv2.length]at this;simpa using this
    exact wpAny_pyNext_list_end Γ.hh g1 g2 hi fun h' he'=>post h' s.toks fun b o hb e=>he' b o hb e
   | some v=>
    rw[ev]at post
    obtain⟨y,hy,ry⟩:=hv2.at ev
    refine wpAny_pyNext_list_item g1 g2 (x:=y) (by simpa using hy) fun h' hit' hs'=>?_
    obtain⟨ob',h1,h2,h3⟩:=hit'
    exact post ob' h' s.toks y ⟨h2,h3⟩ h1 (fun b o hb e=>hs'.extBut b o hb e) ry
  ·intro i W ρ H fr ob s Q E le r hp q
   exact wpAny_pyIter_listiter (⟨ob,r.frAt Zz5,hp.1,hp.2⟩:s.heap.IsListIter k1.objs.size a i) q
  ·exact⟨rfl,rfl⟩
theorem Ztz{a b c:Int}{H:Hp}{z:Nx×Nat×Hp}(h:Zb4 a b c H=some z): c≠0∧Builtin.divisionGoesByPylong (b-a) c=false:=by
 unfold Zb4 at h
 split at h
 ·rename_i hc
  exact⟨hc.1,hc.2.2.2.2⟩
 ·cases h
theorem ZvP{W0:Wd}{I:Addr}{a c:Int}{n:Nat}: Itr prog w Γ W0 (.ref I) [I] (fun i fs=>∃ob,fs=[(I,ob)]∧(i≤n∧ob = { cls:=.type "range_iterator",dict:=none,data:=.fields #[rawInt (a+(i:Nat)*c),rawInt ((n:Int)-(i:Nat)),rawInt c],slots:=#[] })) (Zey a c n):=by
 have Wk:=Walks.range (prog:=prog) (w:=w) Γ.hh I a c n
 refine Znb (fun i ob=>i≤n∧ob = { cls:=.type "range_iterator",dict:=none,data:=.fields #[rawInt (a+(i:Nat)*c),rawInt ((n:Int)-(i:Nat)),rawInt c],slots:=#[] }) ?_ ?_
 ·intro i W ρ H fr ob s Q E o le r hp hn post
  have g:IsRangeIter s.heap I (a+(i:Nat)*c) ((n:Int)-(i:Nat)) c:=(r.frAt Zz5).trans (congrArg some hp.2)
  cases hn
  by_cases hi:i<n
  ·rw[if_pos hi]at post
   refine Wk.item i s Q E hi g fun v h' tk hv st keep=>?_
   obtain⟨t,e⟩:=hv
   subst e
   exact post _ h' tk _ ⟨hi,rfl⟩ st (fun b o hb e=>keep b o (by simpa using hb) e) (.int _ _)
  ·rw[if_neg hi]at post
   have e:i=n:=by have:=hp.1;omega
   subst e
   exact Wk.done s Q E g fun h' tk keep=>post h' tk fun b o hb e=>keep b o (by simpa using hb) e
 ·intro i W ρ H fr ob s Q E le r hp q
  have g:IsRangeIter s.heap I (a+(i:Nat)*c) ((n:Int)-(i:Nat)) c:=(r.frAt Zz5).trans (congrArg some hp.2)
  exact Wk.self i s Q E g q
theorem Zly{a b c:Int}{t u v:Tok}{W:Wd}{ρ:Lc}{H:Hp}{fr:List (Addr×Obj)}{s:Shared}{k:Heap}{tk:Nat}{Q E:Value→Shared→Prop}{nx:Nx}{n:Nat}{H':Hp}(r:Rep Γ W ρ H fr k)(hm:Zb4 a b c H=some (nx,n,H'))
  (post:∀(W':Wd) (h':Heap) (tk':Nat) (it:Value) (as:List Addr) (It:Nat→List (Addr×Obj)→Prop) (fs:List (Addr×Obj)),W.Le W'→It 0 fs→Rep Γ W' ρ H' (fs++fr) h'→(∀a∈as,∀t∈fr,a≠t.1)→Itr prog w Γ W' it as It nx→Q it { s with heap:=h',toks:=tk' }):
  wpAny (model prog w) Γ.A (pyIter (.ref k.objs.size)) Q E { s with heap:=k.push { cls:=.type "range",data:=.fields #[.int a t,.int b u,.int c v] },toks:=tk }:=by
 unfold Zb4 at hm
 split at hm
 ·rename_i hc
  cases hm
  have hr:IsRange (k.push { cls:=.type "range",data:=.fields #[.int a t,.int b u,.int c v] }) k.objs.size a b c t u v:=IsRange.new ..
  refine wpAny_pyIter_range hr hc.2.1 ?_
  have rp:=r.push { cls:=.type "range",data:=.fields #[.int a t,.int b u,.int c v] }
  have en:Builtin.Range.rangeSize a b c=((rngN a b c:Nat):Int):=(Int.toNat_of_nonneg hc.2.2.1).symm
  dsimp only
  generalize hk:k.push { cls:=.type "range",data:=.fields #[.int a t,.int b u,.int c v] } = k2 at rp ⊢
  obtain⟨r2,ap⟩:=rp.more (fs:=[(k2.objs.size,{ cls:=.type "range_iterator",data:=.fields #[rawInt a,rawInt (Builtin.Range.rangeSize a b c),rawInt c] })]) (fun b' o e=>Heap.get?_push_of_some { cls:=.type "range_iterator",data:=.fields #[rawInt a,rawInt (Builtin.Range.rangeSize a b c),rawInt c] } e) (fun q hq=>by rw[List.mem_singleton.mp hq];exact⟨Heap.get?_push_size _ rfl,Nat.le_refl _⟩)
  refine post W _ tk _ [k2.objs.size] _ _ (.refl W) ⟨_,rfl,Nat.zero_le _,?_⟩ r2 (fun b hb t ht=>by rw[List.mem_singleton.mp hb];exact ap _ Zz5 t ht) (ZvP (a:=a) (c:=c) (n:=rngN a b c))
  rw[en]
  simp
 ·cases hm
theorem JI.range{x:Str}{np pos:Pos}{e:Expr}{es:List Expr}{g:Exs}(hn:Nm prog w Γ x (.type "range"))(h:Js prog w Γ (e::es) g)
  (he:starEach (e::es) Γ.env=(false,eval e Γ.env)::starEach es Γ.env:=by rfl) (hp:∀pos,(backTo pos (starEach es Γ.env)).any (·.1)=false:=by intro _;rfl):JI prog w Γ (.Call (.Name x np) (e::es) [] pos) (ZbI g):=by
 intro W ρ H fr s Q E nx n H' r hf post
 obtain⟨p,e1,hf⟩:=Zz0.mp hf
 refine wpAny_Call_ofName (hn.use r ?_)
 refine PySem.Pv.callWith_type1 (h pos W ρ H fr s _ E _ _ r e1 fun W1 k1 t1 xs l1 r1 x1=>?_) he (hp pos)
 obtain⟨vs,H1⟩:=p
 dsimp only at hf x1 r1
 have post1:=fun W' h' tk' it as It fs (l:W1.Le W')=>post W' h' tk' it as It fs (l1.trans l)
 split at hf
 ·obtain⟨y,ex,ry⟩:=x1.one
  subst ex
  cases ry
  exact call_range_1 (Zly r1 hf post1)
 ·obtain⟨y,z,ex,ry,rz⟩:=x1.two
  subst ex
  cases ry
  cases rz
  exact call_range_2 (Zly r1 hf post1)
 ·cases x1 with
  | cons ry x1=>
  obtain⟨y,z,ex,rz,ru⟩:=x1.two
  subst ex
  cases ry
  cases rz
  cases ru
  have hc:=Ztz hf
  exact call_range_3 hc.1 (Zly r1 hf post1) (.inl hc.2)
 ·cases hf
end
noncomputable def ZcC(nx:Nx)(put:V→Lc→Option Lc)(b:Sm): Nat→Nat→Sm
 | 0,_=>fun _ _=>none
 | n+1,i=>fun ρ H=>(nx i H).bind fun o=>match o with
  | none=>some (none,ρ,H)
  | some v=>(put v ρ).bind fun ρ1=>(b ρ1 H).bind fun q=>match q.1 with
   | some _=>some q
   | none=>ZcC nx put b n (i+1) q.2.1 q.2.2
noncomputable def Zbh(g:Src)(put:V→Lc→Option Lc)(b:Sm): Sm:=fun ρ H=>(g ρ H).bind fun z=>ZcC z.1 put b z.2.1 0 ρ z.2.2
noncomputable def put1(i:Nat): V→Lc→Option Lc:=fun v ρ=>some (upd ρ i v)
section
variable {prog:Program} {w:World} {Γ:Cx}
theorem ZbR{x:Str}{i:Nat}{px pos:Pos}{it:Expr}{body:List Stmt}{g:Src}{b:Sm}(hx:Sto prog w Γ x i)(hg:JI prog w Γ it g)(hb:Ss prog w Γ body b)(hs:∀x,foldedSetIterable it Γ.env x=pure x:=by intro _;rfl): S1 prog w Γ (.For (.Name x px) it body [] pos) (Zbh g (put1 i) b):=by
 intro W ρ H fr s Q E r rp hf post
 obtain⟨z,e1,hf⟩:=Zz0.mp hf
 obtain⟨nx,n,H0⟩:=z
 refine wpAny_For (hg W ρ H fr s _ E nx n H0 rp e1 fun W1 k1 t1 itv as It fs l1 i1 r1 ap I1=>?_) hs
 refine codeAny_forLoop (fun k s'=>∃W' ρ' H' h' tk' j fs',s' = { s with heap:=h',toks:=tk' }∧W1.Le W'∧It j fs'∧Rep Γ W' ρ' H' (fs'++fr) h'∧ZcC nx (put1 i) b k j ρ' H'=some r) ?_ n ⟨W1,ρ,H0,k1,t1,0,fs,rfl,.refl _,i1,r1,hf⟩
 rintro k s' ⟨W2,ρ2,H2,k2,t2,j,fs2,rfl,l2,i2,r2,e⟩
 cases k with
 | zero=>cases e
 | succ k=>
  obtain⟨o,e2,e⟩:=Zz0.mp e
  refine I1.next j W2 ρ2 H2 fr fs2 _ _ _ o l2 r2 ap i2 e2 ?_
  cases o with
  | none=>
   cases e
   intro h' tk' r3
   exact wpAny_execs_nil (post W2 h' tk' (l1.trans l2) r3)
  | some v=>
   intro fs3 k3 t3 y i3 r3 y3
   obtain⟨ρ3,e3,e⟩:=Zz0.mp e
   cases e3
   obtain⟨q,e4,e⟩:=Zz0.mp e
   refine wpAny_assign_Name (hx W2 ρ2 H2 (fs3++fr) _ _ _ v y r3 y3 fun k4 t4 r4=>?_)
   refine hb W2 _ H2 (fs3++fr) _ _ _ q r4 e4 ?_
   obtain⟨u,ρ5,H5⟩:=q
   cases u with
   | some u=>
    cases e
    exact fun W5 k5 t5 x5 l5 r5 v5=>post W5 k5 t5 x5 ((l1.trans l2).trans l5) (r5.less fun q hq=>List.mem_append_right _ hq) v5
   | none=>exact fun W5 k5 t5 l5 r5=>⟨k,Nat.lt_succ_self k,W5,ρ5,H5,k5,t5,j+1,fs3,rfl,l2.trans l5,i3,r5,e⟩
end
end PM
end
section
namespace PM
open PySem PySem.W PySem.Calls PyProof.Rows PyProof
structure OwnF(names:List Str)(cs:Scope)(cl:List (Str×Addr))(W:Wd)(ρ:Lc)(m:Str→Option Value)(cells:List (Addr×Obj)): Prop where
 loc:∀(i:Nat) (x:Str) (v:V),names[i]?=some x→cs.names.lookup x=some .local→ρ i=some v→∃y,m x=some y∧VR W v y
 cel:∀(i:Nat) (x:Str) (v:V),names[i]?=some x→cs.names.lookup x=some .cell→ρ i=some v→∃c o y,cl.lookup x=some c∧(c,o)∈cells∧o.data=.cell (some y)∧VR W v y
 all:∀(x:Str) (c:Addr),cl.lookup x=some c→∃o v₀,(c,o)∈cells∧o.data=.cell v₀
 one:∀(x y:Str) (c:Addr),cl.lookup x=some c→cl.lookup y=some c→x=y
theorem OwnF.mono{names:List Str}{cs:Scope}{cl:List (Str×Addr)}{W W':Wd}{ρ:Lc}{m:Str→Option Value}{cells:List (Addr×Obj)}(l:W.Le W')(h:OwnF names cs cl W ρ m cells): OwnF names cs cl W' ρ m cells:=
 ⟨fun i x v a b c=>by
  obtain⟨y,h1,h2⟩:=h.loc i x v a b c
  exact⟨y,h1,h2.mono l⟩,fun i x v a b c=>by
  obtain⟨d,o,y,h1,h2,h3,h4⟩:=h.cel i x v a b c
  exact⟨d,o,y,h1,h2,h3,h4.mono l⟩,h.all,h.one⟩
noncomputable def Zbp(dp un:Nat)(gd:Option (List Code))(cn:Str)(cs:Scope)(L a:Addr)(ccd:Value)(cl:List (Str×Addr))(outer:List Env)(h₀:Heap)(hu:un+200<cLine)(names:List Str): Cx where
 A:=ktrTop dp un gd cn cs L a ccd cl outer
 env:=envX cn cs L a ccd cl
 h₀:=h₀
 L:=L
 hh:=rfl
 hu:=hu
 Own:=OwnF names cs cl
 mono:=OwnF.mono
section
variable {prog:Program} {w:World} {dp un:Nat} {gd:Option (List Code)} {cn:Str} {cs:Scope} {L a:Addr} {ccd:Value} {cl:List (Str×Addr)} {outer:List Env} {h₀:Heap} {hu:un+200<cLine} {names:List Str}
theorem Zyn{x:Str}{i:Nat}(hi:names[i]?=some x)(hx:cs.names.lookup x=some .local)(hk:cs.kind=.function)(hd:(x == ("__debug__":Str))=false): Rd prog w (Zbp dp un gd cn cs L a ccd cl outer h₀ hu names) x i:=by
 intro W ρ H fr s Q E v pos r e q
 obtain⟨m,c,led,r⟩:=r
 obtain⟨y,h1,h2⟩:=r.own.loc i x v hi hx e
 exact nameX_L r.F h1 (q y h2) hk hx hd
theorem Zyo{x:Str}{i:Nat}(hi:names[i]?=some x)(hx:cs.names.lookup x=some .cell)(hk:cs.kind=.function)(hd:(x == ("__debug__":Str))=false): Rd prog w (Zbp dp un gd cn cs L a ccd cl outer h₀ hu names) x i:=by
 intro W ρ H fr s Q E v pos r e q
 obtain⟨m,c,led,r⟩:=r
 obtain⟨d,o,y,h1,h2,h3,h4⟩:=r.own.cel i x v hi hx e
 exact nameX_C r.N h1 (r.clIn _ h2) h3 (q y h4) hk hx hd
theorem ZwS{x:Str}{i:Nat}(nd:names.Nodup)(hi:names[i]?=some x)(hx:cs.names.lookup x=some .local)(hk:cs.kind=.function): Sto prog w (Zbp dp un gd cn cs L a ccd cl outer h₀ hu names) x i:=by
 intro W ρ H fr s Q E v y r vy q
 obtain⟨m,c,led,r⟩:=r
 have hi':i<names.length:=(Zz6.mp hi).1
 refine storeX_L r.F r.N (fun h' F' N'=>q h' _ ⟨_,c,led,⟨F',N',r.R,r.sc,r.sc0,r.frIn,r.frOff,r.clIn,r.clOff,r.apart,r.frTup,r.clTup,⟨fun j z u hj hz hu=>?_,fun j z u hj hz hu=>?_,r.own.all,r.own.one⟩⟩⟩) hk hx
 ·by_cases e:j=i
  ·subst e
   rw[hi]at hj
   cases hj
   simp only[upd,if_true]at hu
   cases hu
   exact⟨y,by simp,vy⟩
  ·have hzx:z≠x:=fun e'=>by
    subst e'
    exact e ((List.getElem?_inj (Zz6.mp hj).1 nd).mp (hj.trans hi.symm))
   simp only[upd,if_neg e]at hu
   obtain⟨y',h1,h2⟩:=r.own.loc j z u hj hz hu
   exact⟨y',by simp[hzx,h1],h2⟩
 ·by_cases e:j=i
  ·subst e
   rw[hi]at hj
   cases hj
   rw[hx]at hz
   cases hz
  ·simp only[upd,if_neg e]at hu
   exact r.own.cel j z u hj hz hu
theorem ZwT{x:Str}{i:Nat}(nd:names.Nodup)(hi:names[i]?=some x)(hx:cs.names.lookup x=some .cell)(hk:cs.kind=.function)(hcl:(cl.lookup x).isSome=true): Sto prog w (Zbp dp un gd cn cs L a ccd cl outer h₀ hu names) x i:=by
 intro W ρ H fr s Q E v y r vy q
 obtain⟨m,c,led,r⟩:=r
 obtain⟨d,hd⟩:=Option.isSome_iff_exists.mp hcl
 obtain⟨o,v₀,ho,hv₀⟩:=r.own.all x d hd
 have inl:=r.clIn _ ho
 have N2:News h₀ L s.heap ((d,o)::led.filter (fun q=>decide (q.1≠d))):=by
  intro q hq
  rcases Zz7.mp hq with e | hq
  ·subst e
   exact r.N _ inl
  ·exact r.N q (List.mem_filter.mp hq).1
 refine storeX_C r.F N2 hd (UpdF.head fun q hq=>by simpa using (List.mem_filter.mp hq).2) hv₀ (fun h' o' F' N' ho'=>?_) hk hx
 have keep:∀q∈led,q.1≠d→q∈(d,o')::led.filter (fun q=>decide (q.1≠d)):=fun q hq hn=>List.mem_cons_of_mem _ (List.mem_filter.mpr ⟨hq,by simpa using hn⟩)
 refine q h' s.toks ⟨m,(d,o')::c.filter (fun q=>decide (q.1≠d)),_,⟨F',N',⟨r.R.len,r.R.nd,fun j vs e=>?_,fun q hq=>Zd8 (r.R.tups q hq) fun z=>keep q z (r.clTup _ ho q hq).symm,r.R.kind⟩,r.sc,r.sc0,fun q hq=>keep q (r.frIn q hq) (r.apart _ ho q hq).symm,r.frOff,fun q hq=>?_,fun q hq=>?_,fun q hq t ht=>?_,r.frTup,fun q hq t ht=>?_,⟨fun j z u hj hz hu=>?_,fun j z u hj hz hu=>?_,fun z e hz=>?_,r.own.one⟩⟩⟩
 ·obtain⟨l,b,xs,k,h1,h2,h3⟩:=r.R.lists j vs e
  exact⟨l,b,xs,k,h1,Zd8 h2 fun z=>keep _ z fun e=>r.clOff _ ho (e▸List.mem_of_getElem? h1),h3⟩
 ·rcases Zz7.mp hq with e | hq
  ·exact e▸List.mem_cons_self
  ·obtain⟨h1,h2⟩:=List.mem_filter.mp hq
   exact keep q (r.clIn q h1) (by simpa using h2)
 ·rcases Zz7.mp hq with e | hq
  ·rw[e]
   exact(r.clOff _ ho:d∉W.pi)
  ·exact r.clOff q (List.mem_filter.mp hq).1
 ·rcases Zz7.mp hq with e | hq
  ·rw[e]
   exact(r.apart _ ho t ht:d≠t.1)
  ·exact r.apart q (List.mem_filter.mp hq).1 t ht
 ·rcases Zz7.mp hq with e | hq
  ·rw[e]
   exact(r.clTup _ ho t ht:d≠t.1)
  ·exact r.clTup q (List.mem_filter.mp hq).1 t ht
 ·by_cases e:j=i
  ·subst e
   rw[hi]at hj
   cases hj
   rw[hx]at hz
   cases hz
  ·simp only[upd,if_neg e]at hu
   exact r.own.loc j z u hj hz hu
 ·by_cases e:j=i
  ·subst e
   rw[hi]at hj
   cases hj
   simp only[upd,if_true]at hu
   cases hu
   exact⟨d,o',y,hd,List.mem_cons_self,ho',vy⟩
  ·have hzx:z≠x:=fun e'=>by
    subst e'
    exact e ((List.getElem?_inj (Zz6.mp hj).1 nd).mp (hj.trans hi.symm))
   simp only[upd,if_neg e]at hu
   obtain⟨b,ob,y',h1,h2,h3,h4⟩:=r.own.cel j z u hj hz hu
   have:b≠d:=fun e'=>by
    subst e'
    exact hzx (r.own.one z x b h1 hd)
   exact⟨b,ob,y',h1,List.mem_cons_of_mem _ (List.mem_filter.mpr ⟨h2,by simpa using this⟩),h3,h4⟩
 ·by_cases e':e=d
  ·subst e'
   exact⟨o',_,List.mem_cons_self,ho'⟩
  ·obtain⟨ob,v1,h1,h2⟩:=r.own.all z e hz
   exact⟨ob,v1,List.mem_cons_of_mem _ (List.mem_filter.mpr ⟨h1,by simpa using e'⟩),h2⟩
end
end PM
end
section
namespace PM
open PySem PySem.W PySem.Calls PyProof.Rows PyProof PyProof.Rows.LCg
theorem Zfe{Γ:Cx}{W:Wd}{ρ:Lc}{H:Hp}{fr:List (Addr×Obj)}{h:Heap}{D:Addr}{ys:List Value}{k:Nat}{vs:List V}(r:Rep Γ W ρ H ((D,Zbg ys k)::fr) h)(ap:∀t∈fr,D≠t.1)(hv:VRs W vs ys)(hl:vs.length≤LEN):
  ∃W',W.Le W'∧Rep Γ W' ρ (H++[vs]) fr h∧VR W' (.ref H.length) (.ref D):=by
 obtain⟨m,c,led,r⟩:=r
 have le:W.Le ⟨W.pi++[D],W.tups,W.sc⟩:=⟨List.prefix_append _ _,fun q hq=>hq,rfl⟩
 have h0:0<W.pi.length:=(Zz6.mp r.sc0).1
 have at_n:(W.pi++[D])[H.length]?=some D:=by rw[←r.R.len];simp
 have off:=r.frOff _ Zz5
 refine⟨⟨W.pi++[D],W.tups,W.sc⟩,le,⟨m,c,led,⟨r.F,r.N,⟨by simp[r.R.len],?_,fun i us e=>?_,r.R.tups,r.R.kind⟩,r.sc,(List.getElem?_append_left h0).trans r.sc0,fun q hq=>r.frIn q (Zz2 _ hq),fun q hq=>?_,r.clIn,fun q hq=>?_,fun q hq t ht=>r.apart q hq t (Zz2 _ ht),fun q hq=>r.frTup q (Zz2 _ hq),r.clTup,Γ.mono le r.own⟩⟩,.ref at_n⟩
 ·show(W.pi++[D]).Nodup
  rw[List.nodup_append]
  refine⟨r.R.nd,by simp,fun a ha b hb=>?_⟩
  rw[List.mem_singleton.mp hb]
  exact fun e=>off (e▸ha)
 ·by_cases hi:i<H.length
  ·rw[List.getElem?_append_left hi]at e
   obtain⟨l,a,zs,j,h1,h2,h3⟩:=r.R.lists i us e
   exact⟨l,a,zs,j,le.at h1,h2,h3.mono le⟩
  ·have:i=H.length:=by
    have:=(Zz6.mp e).1
    simp at this
    omega
   subst this
   simp at e
   subst e
   exact⟨hl,D,ys,k,at_n,List.mem_cons_of_mem _ (r.frIn _ Zz5),hv.mono le⟩
 ·intro hm
  rcases Zz8.mp hm with hm | hm
  ·exact r.frOff q (Zz2 _ hq) hm
  ·exact ap q hq (Zz9.mp hm).symm
 ·intro hm
  rcases Zz8.mp hm with hm | hm
  ·exact r.clOff q hq hm
  ·exact r.apart q hq _ Zz5 (Zz9.mp hm)
def ZAE(Γ:Cx)(C:Addr)(ts:List (Str×Nat))(ρ0:Lc)(W:Wd)(ρ:Lc)(m:Str→Option Value)(cells:List (Addr×Obj)): Prop:=
 ∃oC m₂ cs,cells=(C,oC)::cs∧(∀q∈cs,q.1≠C)∧NsObj oC m₂∧(∀p∈ts,∃v y,ρ p.2=some v∧m₂ p.1=some y∧VR W v y)∧(∀j,(∀p∈ts,p.2≠j)→ρ j=ρ0 j)∧Γ.Own W ρ0 m cs
noncomputable def Za5(Γ:Cx)(scope:Scope)(cl:List (Str×Addr))(C:Addr)(ts:List (Str×Nat))(ρ0:Lc): Cx where
 A:=Γ.A
 env:=compEnvC scope cl C Γ.env
 h₀:=Γ.h₀
 L:=Γ.L
 hh:=Γ.hh
 hu:=Γ.hu
 Own:=ZAE Γ C ts ρ0
 mono:=fun l h=>by
  obtain⟨oC,m₂,cs,e,h0,h1,h2,h3,h4⟩:=h
  exact⟨oC,m₂,cs,e,h0,h1,fun p hp=>by
   obtain⟨v,y,a,b,c⟩:=h2 p hp
   exact⟨v,y,a,b,c.mono l⟩,h3,Γ.mono l h4⟩
section
variable {Γ:Cx} {scope:Scope} {cl:List (Str×Addr)} {C:Addr} {ts:List (Str×Nat)} {ρ0:Lc} {W:Wd} {ρ:Lc} {H:Hp} {fr:List (Addr×Obj)} {h:Heap}
theorem ZqO{oC:Obj}{m₂:Str→Option Value}(r:Rep Γ W ρ0 H ((C,oC)::fr) h)(ap:∀t∈fr,C≠t.1)(hC:NsObj oC m₂)(ht:∀p∈ts,∃v y,ρ p.2=some v∧m₂ p.1=some y∧VR W v y)(hj:∀j,(∀p∈ts,p.2≠j)→ρ j=ρ0 j): Rep (Za5 Γ scope cl C ts ρ0) W ρ H fr h:=by
 obtain⟨m,c,led,r⟩:=r
 refine⟨m,(C,oC)::c,led,⟨r.F,r.N,r.R,r.sc,r.sc0,fun q hq=>r.frIn q (Zz2 _ hq),fun q hq=>r.frOff q (Zz2 _ hq),fun q hq=>?_,fun q hq=>?_,fun q hq t ht=>?_,fun q hq=>r.frTup q (Zz2 _ hq),fun q hq t ht=>?_,⟨oC,m₂,c,rfl,fun q hq=>r.apart q hq _ Zz5,hC,ht,hj,r.own⟩⟩⟩
 ·rcases Zz7.mp hq with e | hq
  ·exact e▸r.frIn _ Zz5
  ·exact r.clIn q hq
 ·rcases Zz7.mp hq with e | hq
  ·exact e▸r.frOff _ Zz5
  ·exact r.clOff q hq
 ·rcases Zz7.mp hq with e | hq
  ·exact e▸ap t ht
  ·exact r.apart q hq t (Zz2 _ ht)
 ·rcases Zz7.mp hq with e | hq
  ·exact e▸r.frTup _ Zz5 t ht
  ·exact r.clTup q hq t ht
theorem Rep.fromC(r:Rep (Za5 Γ scope cl C ts ρ0) W ρ H fr h): ∃oC m₂,NsObj oC m₂∧Rep Γ W ρ0 H ((C,oC)::fr) h:=by
 obtain⟨m,c,led,r⟩:=r
 obtain⟨oC,m₂,cs,e,h0,h1,h2,h3,h4⟩:=r.own
 subst e
 refine⟨oC,m₂,h1,m,cs,led,⟨r.F,r.N,r.R,r.sc,r.sc0,fun q hq=>?_,fun q hq=>?_,fun q hq=>r.clIn q (Zz2 _ hq),fun q hq=>r.clOff q (Zz2 _ hq),fun q hq t ht=>?_,fun q hq t ht=>?_,fun q hq=>r.clTup q (Zz2 _ hq),h4⟩⟩
 ·rcases Zz7.mp hq with e | hq
  ·exact e▸r.clIn _ Zz5
  ·exact r.frIn q hq
 ·rcases Zz7.mp hq with e | hq
  ·exact e▸r.clOff _ Zz5
  ·exact r.frOff q hq
 ·rcases Zz7.mp ht with e | ht
  ·rw[e]
   exact h0 q hq
  ·exact r.apart q (Zz2 _ hq) t ht
 ·rcases Zz7.mp hq with e | hq
  ·exact e▸r.clTup _ Zz5 t ht
  ·exact r.frTup q hq t ht
end
def JF(prog:Program)(w:World)(Γ:Cx)(ifs:List Expr)(f:Ts): Prop:=∀(W:Wd) (ρ:Lc) (H:Hp) (fr:List (Addr×Obj)) (s:Shared) (Q:Bool→Shared→Prop) (E:Value→Shared→Prop) (b:Bool) (H':Hp),
 Rep Γ W ρ H fr s.heap→f ρ H=some (b,H')→Zkj Γ W ρ H' fr s Q b →
 wpAny (model prog w) Γ.A (forIn ifs true fun c r=>if r=true then do let ok ←isTrue c Γ.env (eval c Γ.env);pure (ForInStep.yield ok)else pure (ForInStep.yield r)) Q E s
section
variable {prog:Program} {w:World} {Γ:Cx}
theorem JF.nil: JF prog w Γ [] Zbz:=fun W ρ H fr s Q E b H' r hf post=>by
 cases hf
 exact wpAny_pure (post W s.heap s.toks (.refl W) r)
theorem JF.one{e:Expr}{t:Ts}(h:JT prog w Γ e t): JF prog w Γ [e] t:=fun W ρ H fr s Q E b H' r hf post=>by
 rw[List.forIn_cons]
 simp only[if_true,List.forIn_nil]
 refine wpAny_bind (wpAny_bind (h W ρ H fr s _ E b H' r hf fun W1 k1 t1 l1 r1=>wpAny_pure ?_))
 exact wpAny_pure (post W1 k1 t1 l1 r1)
end
end PM
end
section
namespace PM
open PySem PySem.W PySem.Calls PyProof.Rows PyProof PyProof.Rows.LCg
noncomputable def ZcD(nx:Nx)(put:V→Lc→Option Lc)(c:Ts)(f:Ex)(ρ:Lc): Nat→Nat→List V→Hp→Option (List V×Hp)
 | 0,_,_,_=>none
 | n+1,i,acc,H=>(nx i H).bind fun o=>match o with
  | none=>some (acc,H)
  | some v=>(put v ρ).bind fun ρ1=>(c ρ1 H).bind fun b=>if b.1 then(f ρ1 b.2).bind fun p=>(if acc.length<LEN then ZcD nx put c f ρ n (i+1) (acc++[p.1]) p.2 else none)else ZcD nx put c f ρ n (i+1) acc b.2
noncomputable def Zbw(g:Src)(put:V→Lc→Option Lc)(c:Ts)(f:Ex): Ex:=fun ρ H=>(g ρ H).bind fun z=>(ZcD z.1 put c f ρ z.2.1 0 [] z.2.2).map fun q=>(.ref q.2.length,q.2++[q.1])
def Ziy(Γ:Cx)(W0:Wd)(ρ:Lc)(fr:List (Addr×Obj))(C D:Addr)(It:Nat→List (Addr×Obj)→Prop)(nx:Nx)(put:V→Lc→Option Lc)(c:Ts)(f:Ex)(q:List V×Hp)(s:Shared)(k:Nat)(s':Shared): Prop:=
 ∃W' H' h' tk' j fs acc ys oC m₂,s' = { s with heap:=h',toks:=tk' }∧W0.Le W'∧It j fs∧NsObj oC m₂∧VRs W' acc ys∧acc.length≤LEN∧Rep Γ W' ρ H' ((C,oC)::(D,lst ys)::(fs++fr)) h'∧ZcD nx put c f ρ k j acc H'=some q
section
variable {prog:Program} {w:World} {Γ:Cx}
theorem ZpH{scope:Scope}{cl:List (Str×Addr)}{elt:Expr}{ts:List (Str×Nat)}{W0 W:Wd}{ρ ρ1:Lc}{H:Hp}{fr fs:List (Addr×Obj)}{C D:Addr}{It:Nat→List (Addr×Obj)→Prop}{nx:Nx}{put:V→Lc→Option Lc}{c:Ts}{f:Ex}{q:List V×Hp}{s:Shared}{h:Heap}{tk:Nat}{k j:Nat}{acc:List V}{ys:List Value}{E:Value→Shared→Prop}
  (hel:J prog w (Za5 Γ scope cl C ts ρ) elt f) (aD:∀t∈fs++fr,D≠t.1) (cd:C≠D) (l0:W0.Le W) (hit:It (j+1) fs) (hv:VRs W acc ys) (r:Rep (Za5 Γ scope cl C ts ρ) W ρ1 H ((D,lst ys)::(fs++fr)) h)
  (e:((f ρ1 H).bind fun p=>(if acc.length<LEN then ZcD nx put c f ρ k (j+1) (acc++[p.1]) p.2 else none))=some q):
  wpAny (model prog w) Γ.A (eval elt (compEnvC scope cl C Γ.env)) (fun x s₄=>wpAny (model prog w) Γ.A (call (.builtin "list.append") [.ref D,x]) (fun _ s₅=>∃m,m<k+1∧Ziy Γ W0 ρ fr C D It nx put c f q s m s₅) E s₄) E { s with heap:=h,toks:=tk }:=by
 obtain⟨p,e2,e⟩:=Zz0.mp e
 by_cases hlt:acc.length<LEN
 ·rw[if_pos hlt]at e
  refine hel W ρ1 H _ _ _ E _ _ r e2 fun W2 k2 t2 x l2 r2 x2=>?_
  obtain⟨oC',m₃,hC',r3⟩:=r2.fromC
  have hD:k2.get? D=some (lst ys):=r3.frAt (q:=(D,lst ys)) (Zz2 _ Zz5)
  refine append_at (hsz:=ZcV (by rw[List.size_toArray,hv.length];omega)) hD fun h' sb hg=>?_
  have hg':h'.get? D=some (lst (ys++[x])):=hg.trans (congrArg some (lst_snoc ys x))
  have r4:Rep Γ W2 ρ p.2 ([(D,lst ys)]++((C,oC')::(fs++fr))) k2:=r3.less fun q hq=>by
   rcases Zz8.mp hq with hq | hq
   ·rw[List.mem_singleton.mp hq]
    exact Zz2 _ Zz5
   ·rcases Zz7.mp hq with e | hq
    ·exact e▸List.mem_cons_self
    ·exact Zz2 _ (Zz2 _ hq)
  have r5:Rep Γ W2 ρ p.2 ([(D,lst (ys++[x]))]++((C,oC')::(fs++fr))) h':=by
   refine r4.swap (fun q hq t ht=>?_) (fun b o hb e=>sb.extBut b o (fun z=>hb (by simp[z])) e) fun q hq=>?_
   ·rw[List.mem_singleton.mp hq]
    rcases Zz7.mp ht with e | ht
    ·rw[e]
     exact cd.symm
    ·exact aD t ht
   ·rw[List.mem_singleton.mp hq]
    exact⟨hg',by simp⟩
  have r6:Rep Γ W2 ρ p.2 ((C,oC')::(D,lst (ys++[x]))::(fs++fr)) h':=r5.less fun q hq=>by
   rcases Zz7.mp hq with e | hq
   ·exact e▸List.mem_append_right _ Zz5
   ·rcases Zz7.mp hq with e | hq
    ·exact e▸List.mem_append_left _ Zz5
    ·exact Zz3 _ (Zz2 _ hq)
  exact⟨k,Nat.lt_succ_self k,W2,p.2,h',t2,j+1,fs,acc++[p.1],ys++[x],oC',m₃,rfl,l0.trans l2,hit,hC',(hv.mono l2).snoc x2,by simp;omega,r6,e⟩
 ·rw[if_neg hlt]at e
  cases e
theorem ZvQ{scope:Scope}{cl:List (Str×Addr)}{elt:Expr}{ifs:List Expr}{ts:List (Str×Nat)}{W0 W:Wd}{ρ ρ1:Lc}{H:Hp}{fr fs:List (Addr×Obj)}{C D:Addr}{It:Nat→List (Addr×Obj)→Prop}{nx:Nx}{put:V→Lc→Option Lc}{c:Ts}{f:Ex}{q:List V×Hp}{s s1:Shared}{k j:Nat}{acc:List V}{ys:List Value}{oC:Obj}{m₂:Str→Option Value}{E:Value→Shared→Prop}
  (hel:J prog w (Za5 Γ scope cl C ts ρ) elt f) (hif:JF prog w (Za5 Γ scope cl C ts ρ) ifs c) (hs:∃h tk,s1 = { s with heap:=h,toks:=tk })
  (aC:∀t∈(D,lst ys)::(fs++fr),C≠t.1) (aD:∀t∈fs++fr,D≠t.1) (l0:W0.Le W) (hit:It (j+1) fs) (hC:NsObj oC m₂) (hv:VRs W acc ys) (hl:acc.length≤LEN) (r:Rep Γ W ρ H ((C,oC)::(D,lst ys)::(fs++fr)) s1.heap)
  (ht:∀p∈ts,∃v y,ρ1 p.2=some v∧m₂ p.1=some y∧VR W v y) (hj:∀i,(∀p∈ts,p.2≠i)→ρ1 i=ρ i)
  (e:((c ρ1 H).bind fun b=>if b.1 then(f ρ1 b.2).bind fun p=>(if acc.length<LEN then ZcD nx put c f ρ k (j+1) (acc++[p.1]) p.2 else none)else ZcD nx put c f ρ k (j+1) acc b.2)=some q):
  wpAny (model prog w) Γ.A (forIn ifs true fun c r=>if r=true then do let ok ←isTrue c (compEnvC scope cl C Γ.env) (eval c (compEnvC scope cl C Γ.env));pure (ForInStep.yield ok)else pure (ForInStep.yield r)) (fun ok s₃=>
   if ok=true then wpAny (model prog w) Γ.A (eval elt (compEnvC scope cl C Γ.env)) (fun x s₄=>wpAny (model prog w) Γ.A (call (.builtin "list.append") [.ref D,x]) (fun _ s₅=>∃m,m<k+1∧Ziy Γ W0 ρ fr C D It nx put c f q s m s₅) E s₄) E s₃
   else ∃m,m<k+1∧Ziy Γ W0 ρ fr C D It nx put c f q s m s₃) E s1:=by
 obtain⟨h,tk,rfl⟩:=hs
 obtain⟨b,e1,e⟩:=Zz0.mp e
 obtain⟨b,H1⟩:=b
 have rc:=ZqO (scope:=scope) (cl:=cl) r aC hC ht hj
 refine hif W ρ1 H _ _ _ E b H1 rc e1 fun W1 k1 t1 l1 r1=>?_
 cases b with
 | false=>
  obtain⟨oC',m₃,hC',r2⟩:=r1.fromC
  exact⟨k,Nat.lt_succ_self k,W1,H1,k1,t1,j+1,fs,acc,ys,oC',m₃,rfl,l0.trans l1,hit,hC',hv.mono l1,hl,r2,e⟩
 | true=>exact ZpH hel aD (aC (D,lst ys) Zz5) (l0.trans l1) hit (hv.mono l1) r1 e
theorem comp_core{elt iter:Expr}{x:Str}{px:Pos}{ifs:List Expr}{scope:Scope}{pos:Pos}{cl:List (Str×Addr)}{t:Nat}{g:Src}{c:Ts}{f:Ex}(hg:JI prog w Γ iter g)(hel:∀C ρ,J prog w (Za5 Γ scope cl C [(x,t)] ρ) elt f)(hif:∀C ρ,JF prog w (Za5 Γ scope cl C [(x,t)] ρ) ifs c)
  (hcell:∀y∈scope.names,y.2≠.cell) (hkind:scope.kind=.function) (hx:scope.names.lookup x=some .local)
  {W:Wd} {ρ:Lc} {H:Hp} {fr:List (Addr×Obj)} {s:Shared} {E:Value→Shared→Prop} {q:List V×Hp} {RR:Value→Addr→Result→Shared→Prop} (r:Rep Γ W ρ H fr s.heap) (hf:((g ρ H).bind fun z=>ZcD z.1 (put1 t) c f ρ z.2.1 0 [] z.2.2)=some q)
  (hR:∀(W':Wd) (h':Heap) (tk':Nat) (C D:Addr) (oC:Obj) (m₂:Str→Option Value) (ys:List Value),W.Le W'→NsObj oC m₂→VRs W' q.1 ys→q.1.length≤LEN→(∀t∈fr,D≠t.1)→(∀t∈fr,C≠t.1)→C≠D→Rep Γ W' ρ q.2 ((C,oC)::(D,lst ys)::fr) h'→RR (.ref D) C (.ok .next) { s with heap:=h',toks:=tk' }):
  wpAny (model prog w) Γ.A (eval iter Γ.env) (fun xv s₁=>wpAny (model prog w) Γ.A (pyIter xv) (fun it s₂=>wpAny (model prog w) Γ.A (newList []) (fun acc s₃=>wpAny (model prog w) Γ.A (newFunctionEnv scope Γ.env.globals cl [] Γ.env.qual none .none (some Γ.env)) (fun cenv s₄=>
   codeAny (model prog w) Γ.A (.compStart (.ListComp elt [⟨.Name x px,iter,ifs,0⟩] scope pos) 0 it acc { cenv with scope:=relabel scope Γ.env }) (RR acc cenv.locals) s₄) E s₃) E s₂) E s₁) E s:=by
 obtain⟨z,e1,e2⟩:=Zz0.mp hf
 obtain⟨nx,n,H0⟩:=z
 refine hg W ρ H fr s _ E nx n H0 r e1 fun W1 k1 t1 itv as It fs l1 i1 r1 ap I1=>?_
 refine wpAny_newObj_type (wpAny_newFunctionEnv hcell (fun y hy=>by simp at hy) (fun h₂ hns hsb=>?_) hkind)
 dsimp only at hns hsb ⊢
 obtain⟨rD,aD⟩:=r1.more (fs:=[(k1.objs.size,lst [])]) (fun b o e=>Heap.get?_push_of_some (lst []) e) (fun q hq=>by rw[List.mem_singleton.mp hq];exact⟨Heap.get?_push_size _ rfl,Nat.le_refl _⟩)
 generalize eH:k1.push { cls:=.type "list",dict:=none,data:=.seq ([]:List Value).toArray } = K at hns hsb ⊢
 have eK:k1.push (lst [])=K:=eH
 rw[eK]at rD
 obtain⟨oC,gC,nC⟩:=ns_obj hns
 have up:∀b o,K.get? b=some o→h₂.get? b=some o:=fun b o e=>hsb.extBut b o (Nat.ne_of_lt (Heap.lt_size e)) (Heap.get?_push_of_some _ e)
 obtain⟨rC,aC⟩:=rD.more (fs:=[(K.objs.size,oC)]) up (fun q hq=>by rw[List.mem_singleton.mp hq];exact⟨gC,Nat.le_refl _⟩)
 have adr0:=I1.adr 0 fs i1
 have offs:∀b∈as,b≠k1.objs.size∧b≠K.objs.size:=fun b hb=>by
  rw[←adr0]at hb
  obtain⟨q,hq,e⟩:=Zz11.mp hb
  exact⟨e▸(aD _ Zz5 q (Zz4 _ hq)).symm,e▸(aC _ Zz5 q (Zz3 _ (Zz4 _ hq))).symm⟩
 have cd:K.objs.size≠k1.objs.size:=aC _ Zz5 (k1.objs.size,lst []) (Zz4 _ Zz5)
 have cfr:∀t∈fr,K.objs.size≠t.1:=fun t ht=>aC _ Zz5 t (Zz3 _ (Zz3 _ ht))
 have dfr:∀t∈fr,k1.objs.size≠t.1:=fun t ht=>aD _ Zz5 t (Zz3 _ ht)
 generalize k1.objs.size=D at *
 generalize K.objs.size=C at *
 have loop:∀s₃:Shared,s₃ = { s with heap:=h₂,toks:=t1+([]:List (Str×Value)).length } →
   codeAny (model prog w) Γ.A (.compLoop (.ListComp elt [⟨.Name x px,iter,ifs,0⟩] scope pos) 0 itv (.ref D) (compEnvC scope cl C Γ.env)) (RR (.ref D) C) s₃:=by
  intro s₃ hs₃
  subst hs₃
  refine codeAny_compLoop_tests (Ziy Γ W1 ρ fr C D It nx (put1 t) c f q s) ?_ n ⟨W1,H0,h₂,_,0,fs,[],[],oC,_,rfl,.refl _,i1,nC,.nil,Nat.zero_le _,rC,e2⟩
  rintro k s' ⟨W2,H2,k2,t2,j,fs2,acc,ys,oC2,m₂,rfl,l2,i2,hC2,hv2,hl2,r2,e⟩
  cases k with
  | zero=>cases e
  | succ k=>
   obtain⟨o,e4,e⟩:=Zz0.mp e
   have r2':Rep Γ W2 ρ H2 (fs2++((C,oC2)::(D,lst ys)::fr)) k2:=r2.less fun q hq=>by
    rcases Zz8.mp hq with hq | hq
    ·exact Zz2 _ (Zz2 _ (Zz4 _ hq))
    ·rcases Zz7.mp hq with e | hq
     ·exact e▸List.mem_cons_self
     ·rcases Zz7.mp hq with e | hq
      ·exact e▸List.mem_cons_of_mem _ Zz5
      ·exact Zz2 _ (Zz2 _ (Zz3 _ hq))
   have ap2:∀b∈as,∀t∈(C,oC2)::(D,lst ys)::fr,b≠t.1:=fun b hb t ht=>by
    rcases Zz7.mp ht with e | ht
    ·rw[e]
     exact(offs b hb).2
    ·rcases Zz7.mp ht with e | ht
     ·rw[e]
      exact(offs b hb).1
     ·exact ap b hb t ht
   refine I1.next j W2 ρ H2 _ fs2 _ _ _ o l2 r2' ap2 i2 e4 ?_
   cases o with
   | none=>
    cases e
    intro h' tk' r3
    exact hR W2 h' tk' C D oC2 m₂ ys (l1.trans l2) hC2 hv2 hl2 dfr cfr cd r3
   | some v=>
    intro fs3 k3 t3 y i3 r3 y3
    obtain⟨ρ3,e5,e⟩:=Zz0.mp e
    cases e5
    have a3:∀t∈fs3,t.1∈as:=fun t ht=>by
     rw[←I1.adr _ _ i3]
     exact List.mem_map_of_mem ht
    have gC3:k3.get? C=some oC2:=r3.frAt (q:=(C,oC2)) (Zz3 _ Zz5)
    have nC3:k3.Ns C m₂:=hC2.ns gC3
    refine wpAny_assign_Name (wpAny_storeName_local (lookup_relabel_local hx) nC3 (fun h4 hn4 sb4=>?_) (by simp[compEnvC,relabel,hkind]))
    obtain⟨oC4,gC4,nC4⟩:=ns_obj hn4
    have r3':Rep Γ W2 ρ H2 ([(C,oC2)]++((D,lst ys)::(fs3++fr))) k3:=r3.less fun q hq=>by
     rcases Zz8.mp hq with hq | hq
     ·rw[List.mem_singleton.mp hq]
      exact Zz3 _ Zz5
     ·rcases Zz7.mp hq with e | hq
      ·exact e▸List.mem_append_right _ (Zz2 _ Zz5)
      ·rcases Zz8.mp hq with hq | hq
       ·exact Zz4 _ hq
       ·exact Zz3 _ (Zz2 _ (Zz2 _ hq))
    have aC3:∀t∈(D,lst ys)::(fs3++fr),C≠t.1:=fun t ht=>by
     rcases Zz7.mp ht with e | ht
     ·rw[e]
      exact cd
     ·rcases Zz8.mp ht with ht | ht
      ·exact(offs _ (a3 t ht)).2.symm
      ·exact cfr t ht
    have aD3:∀t∈fs3++fr,D≠t.1:=fun t ht=>by
     rcases Zz8.mp ht with ht | ht
     ·exact(offs _ (a3 t ht)).1.symm
     ·exact dfr t ht
    have r4:Rep Γ W2 ρ H2 ([(C,oC4)]++((D,lst ys)::(fs3++fr))) h4:=by
     refine r3'.swap (fun q hq t ht=>?_) (fun b o hb e=>sb4.extBut b o (fun z=>hb (by simp[z,compEnvC])) e) fun q hq=>?_
     ·rw[List.mem_singleton.mp hq]
      exact aC3 t ht
     ·rw[List.mem_singleton.mp hq]
      exact⟨gC4,by simp⟩
    refine ZvQ (hel C ρ) (hif C ρ) ⟨h4,_,rfl⟩ aC3 aD3 l2 i3 nC4 hv2 hl2 r4 (fun p hp=>?_) (fun i hi=>?_) e
    ·rw[List.mem_singleton.mp hp]
     exact⟨v,y,by simp[upd],by simp,y3⟩
    ·have:i≠t:=fun e=>hi (x,t) Zz5 e.symm
     simp[upd,this]
 refine codeAny_compStart_list (loop _ rfl) ?_
 exact I1.self 0 W1 ρ H0 (([(C,oC)]++[(D,lst [])])++fr) fs _ _ _ (.refl _) (rC.less fun q hq=>by
  rcases Zz8.mp hq with hq | hq
  ·exact Zz3 _ (Zz3 _ (Zz4 _ hq))
  ·rcases Zz8.mp hq with hq | hq
   ·rcases Zz8.mp hq with hq | hq
    ·exact Zz4 _ hq
    ·exact Zz3 _ (Zz4 _ hq)
   ·exact Zz3 _ (Zz3 _ (Zz3 _ hq))) i1 (loop _ rfl)
theorem Zp8{W:Wd}{ρ:Lc}{q:List V×Hp}{fr:List (Addr×Obj)}{C D:Addr}{oC:Obj}{ys:List Value}{h' h'':Heap}(hv:VRs W q.1 ys)(hl:q.1.length≤LEN)(aD:∀t∈fr,D≠t.1)(aC:∀t∈fr,C≠t.1)(cd:C≠D)(r:Rep Γ W ρ q.2 ((C,oC)::(D,lst ys)::fr) h')(sb:Heap.SameBut C h' h''):
  ∃W',W.Le W'∧Rep Γ W' ρ (q.2++[q.1]) fr h''∧VR W' (.ref q.2.length) (.ref D):=by
 have r4:Rep Γ W ρ q.2 ([]++((D,lst ys)::fr)) h'':=by
  refine Rep.swap (fs:=[(C,oC)]) (fs':=[]) r (fun q hq t ht=>?_) (fun b o hb e=>sb.extBut b o (fun z=>hb (by simp[z])) e) fun q hq=>nomatch hq
  rw[List.mem_singleton.mp hq]
  rcases Zz7.mp ht with e | ht
  ·rw[e]
   exact cd
  ·exact aC t ht
 exact Zfe r4 aD hv hl
theorem Zyp{elt iter:Expr}{x:Str}{px:Pos}{ifs:List Expr}{scope:Scope}{pos:Pos}{cl:List (Str×Addr)}{t:Nat}{g:Src}{c:Ts}{f:Ex}(hg:JI prog w Γ iter g)(hel:∀C ρ,J prog w (Za5 Γ scope cl C [(x,t)] ρ) elt f)(hif:∀C ρ,JF prog w (Za5 Γ scope cl C [(x,t)] ρ) ifs c)
  (hclos:closureFor scope Γ.env=pure cl) (hcell:∀y∈scope.names,y.2≠.cell) (hkind:scope.kind=.function) (hnames:∀y∈scope.names,y.2=.local→scope.names.lookup y.1=some .local) (hx:scope.names.lookup x=some .local) (hs:∀x,foldedSetIterable iter Γ.env x=pure x:=by intro _;rfl):
  J prog w Γ (.ListComp elt [⟨.Name x px,iter,ifs,0⟩] scope pos) (Zbw g (put1 t) c f):=by
 intro W ρ H fr s Q E v H' r hf post
 obtain⟨z,e1,hf⟩:=Zz0.mp hf
 obtain⟨q,e2,e3⟩:=Zz1.mp hf
 cases e3
 rw[eval_ListComp]
 refine wpAny_comprehension_free (use:=Option.none) rfl hs hclos hkind hnames ?_
 refine comp_core (RR:=fun acc C=>compPost (model prog w) Γ.A E Option.none Q acc C) hg hel hif hcell hkind hx r (q:=q) (by rw[e1];exact e2) fun W2 h' tk' C D oC m₂ ys l2 hC hv hl aD aC cd r3=>?_
 refine⟨m₂,hC.ns (r3.frAt (q:=(C,oC)) Zz5),fun h'' sb=>?_⟩
 obtain⟨W5,l5,r5,v5⟩:=Zp8 hv hl aD aC cd r3 sb
 exact post W5 h'' tk' _ (l2.trans l5) r5 v5
theorem Zuh{elt iter:Expr}{x y:Str}{px py pos spos:Pos}{ifs:List Expr}{scope:Scope}{cl:List (Str×Addr)}{t i:Nat}{g:Src}{c:Ts}{f:Ex}(hy:Sto prog w Γ y i)(hg:JI prog w Γ iter g)(hel:∀C ρ,J prog w (Za5 Γ scope cl C [(x,t)] ρ) elt f)(hif:∀C ρ,JF prog w (Za5 Γ scope cl C [(x,t)] ρ) ifs c)
  (hsw:swapsWith (.ListComp elt [⟨.Name x px,iter,ifs,0⟩] scope pos) (some (.Name y py)) spos.line Γ.env=pure true)
  (hclos:closureFor scope Γ.env=pure cl) (hcell:∀y∈scope.names,y.2≠.cell) (hkind:scope.kind=.function) (hnames:∀y∈scope.names,y.2=.local→scope.names.lookup y.1=some .local) (hx:scope.names.lookup x=some .local) (hs:∀x,foldedSetIterable iter Γ.env x=pure x:=by intro _;rfl):
  S1 prog w Γ (.Assign [.Name y py] (.ListComp elt [⟨.Name x px,iter,ifs,0⟩] scope pos) spos) (Zaa i (Zbw g (put1 t) c f)):=by
 intro W ρ H fr s Q E r rp hf post
 obtain⟨p,e0,e9⟩:=Zz1.mp hf
 cases e9
 obtain⟨z,e1,hf⟩:=Zz0.mp e0
 obtain⟨q,e2,e3⟩:=Zz1.mp hf
 cases e3
 rw[exec_Assign_Name_used _ _ _ _ hsw]
 refine wpAny_bind (wpAny_standAt (wpAny_bind ?_))
 show wpAny _ Γ.A (do let _ ←comprehension (.ListComp elt [⟨.Name x px,iter,ifs,0⟩] scope pos) scope Γ.env _ (newList []) false (eval iter Γ.env) (some (assign (.Name y py) Γ.env))) _ _ s
 refine wpAny_bind (wpAny_mono (wpAny_comprehension_free (use:=some (assign (.Name y py) Γ.env)) (Q:=fun _ s'=>Q .next s') rfl hs hclos hkind hnames ?_) (fun _ s' h'=>wpAny_pure (wpAny_pure h')) fun _ _ e=>e)
 refine comp_core (RR:=fun acc C=>compPost (model prog w) Γ.A E (some (assign (.Name y py) Γ.env)) (fun _ s'=>Q .next s') acc C) hg hel hif hcell hkind hx rp (q:=q) (by rw[e1];exact e2) fun W2 h' tk' C D oC m₂ ys l2 hC hv hl aD aC cd r3=>?_
 have r4:Rep Γ W2 ρ q.2 ((D,lst ys)::(C,oC)::fr) h':=r3.less fun t ht=>by
  rcases Zz7.mp ht with e | ht
  ·exact e▸List.mem_cons_of_mem _ Zz5
  ·rcases Zz7.mp ht with e | ht
   ·exact e▸List.mem_cons_self
   ·exact Zz2 _ (Zz2 _ ht)
 obtain⟨W5,l5,r5,v5⟩:=Zfe r4 (fun t ht=>by
  rcases Zz7.mp ht with e | ht
  ·rw[e]
   exact cd.symm
  ·exact aD t ht) hv hl
 refine wpAny_assign_Name (hy W5 ρ _ _ _ _ _ _ _ r5 v5 fun h6 t6 r6=>?_)
 refine⟨m₂,hC.ns (r6.frAt (q:=(C,oC)) Zz5),fun h'' sb=>?_⟩
 have r7:Rep Γ W5 (upd ρ i (.ref q.2.length)) (q.2++[q.1]) ([]++fr) h'':=
  Rep.swap (fs:=[(C,oC)]) (fs':=[]) r6 (fun q hq t ht=>by rw[List.mem_singleton.mp hq];exact aC t ht) (fun b o hb e=>sb.extBut b o (fun z=>hb (by simp[z])) e) fun q hq=>nomatch hq
 exact post W5 h'' t6 (l2.trans l5) r7
end
end PM
end
section
namespace PM
open PySem PySem.W PySem.Calls PyProof.Rows PyProof PyProof.Rows.LCg PyProof.Rows.LCp
theorem ZnT(h:Heap): ∀as:List Addr,(∀a∈as,∃o,h.get? a=some o)→∃fs:List (Addr×Obj),fs.map (·.1)=as∧∀q∈fs,h.get? q.1=some q.2
 | [],_=>⟨[],rfl,fun q hq=>nomatch hq⟩
 | a::as,d=>by
  obtain⟨o,ho⟩:=d a Zz5
  obtain⟨fs,h1,h2⟩:=ZnT h as fun b hb=>d b (Zz2 _ hb)
  refine⟨(a,o)::fs,by rw[List.map_cons,h1],fun q hq=>?_⟩
  rcases Zz7.mp hq with e | hq
  ·rw[e]
   exact ho
  ·exact h2 q hq
structure Itr2(prog:Program)(w:World)(Γ:Cx)(W0:Wd)(it:Value)(as:List Addr)(It:Nat→List (Addr×Obj)→Prop)(nx:Nx): Prop where
 adr:∀i fs,It i fs→fs.map (·.1)=as
 pair:∀i H v,nx i H=some (some v)→∃a b,v=.tup [a,b]
 item:∀(i:Nat) (W:Wd) (ρ:Lc) (H:Hp) (fr fs:List (Addr×Obj)) (s:Shared) (Q:Option Value→Shared→Prop) (E:Value→Shared→Prop) (a b:V),W0.Le W→Rep Γ W ρ H (fs++fr) s.heap→(∀a∈as,∀t∈fr,a≠t.1)→It i fs→nx i H=some (some (.tup [a,b])) →
  (∀(T:Addr) (h1:Heap) (t1:Nat),(∀(elts:List Expr) (k:Nat) (pos:Pos) (s1:Shared) (Q1:Unit→Shared→Prop) (E1:Value→Shared→Prop),s1 = { s with heap:=h1,toks:=t1 } →
    (∀(fs':List (Addr×Obj)) (h':Heap) (x y:Value),It (i+1) fs'→Rep Γ W ρ H (fs'++fr) h'→IsTup h' T #[x,y]→VR W a x→VR W b y→Q1 () { s with heap:=h',toks:=t1 })→wpAny (model prog w) Γ.A (letOwnedTupleGo (.Tuple elts k pos) it (.ref T)) Q1 E1 s1)→Q (some (.ref T)) { s with heap:=h1,toks:=t1 })→wpAny (model prog w) Γ.A (pyNext it) Q E s
 done:∀(i:Nat) (W:Wd) (ρ:Lc) (H:Hp) (fr fs:List (Addr×Obj)) (s:Shared) (Q:Option Value→Shared→Prop) (E:Value→Shared→Prop),W0.Le W→Rep Γ W ρ H (fs++fr) s.heap→(∀a∈as,∀t∈fr,a≠t.1)→It i fs→nx i H=some none →
  (∀(h':Heap) (tk':Nat),Rep Γ W ρ H fr h'→Q none { s with heap:=h',toks:=tk' })→wpAny (model prog w) Γ.A (pyNext it) Q E s
 self:∀(i:Nat) (W:Wd) (ρ:Lc) (H:Hp) (fr fs:List (Addr×Obj)) (s:Shared) (Q E:Value→Shared→Prop) (o:Option V),W0.Le W→Rep Γ W ρ H (fs++fr) s.heap→It i fs→nx i H=some o→Q it s→wpAny (model prog w) Γ.A (pyIter it) Q E s
def JI2(prog:Program)(w:World)(Γ:Cx)(e:Expr)(g:Src): Prop:=∀(W:Wd) (ρ:Lc) (H:Hp) (fr:List (Addr×Obj)) (s:Shared) (Q E:Value→Shared→Prop) (nx:Nx) (n:Nat) (H':Hp),
 Rep Γ W ρ H fr s.heap→g ρ H=some (nx,n,H') →
 (∀(W':Wd) (h':Heap) (tk':Nat) (it:Value) (as:List Addr) (It:Nat→List (Addr×Obj)→Prop) (fs:List (Addr×Obj)),W.Le W'→It 0 fs→Rep Γ W' ρ H' (fs++fr) h'→(∀a∈as,∀t∈fr,a≠t.1)→Itr2 prog w Γ W' it as It nx→(∃o,nx 0 H'=some o)→Q it { s with heap:=h',toks:=tk' }) →
 wpAny (model prog w) Γ.A (eval e Γ.env) (fun xv s₁=>wpAny (model prog w) Γ.A (pyIter xv) Q E s₁) E s
noncomputable def Zil(a b:Nat): Nx:=fun i H=>H[a]?.bind fun vs=>H[b]?.bind fun us=>match vs[i]?,us[i]? with
 | some x,some y=>some (some (.tup [x,y]))
 | _,_=>if i=min vs.length us.length then some none else none
noncomputable def Zku(f g:Ex): Src:=fun ρ H=>(f ρ H).bind fun p=>(g ρ p.2).bind fun q=>match p.1,q.1 with
 | .ref a,.ref b=>q.2[a]?.bind fun vs=>q.2[b]?.map fun us=>(Zil a b,min vs.length us.length+1,q.2)
 | _,_=>none
noncomputable def Zdq(i j:Nat): V→Lc→Option Lc
 | .tup [a,b],ρ=>some (upd (upd ρ i a) j b)
 | _,_=>none
def ZS(z TI TO i1 i2 l1 l2:Addr)(i:Nat)(h:Heap): Prop:=IsZip h z TI TO .none∧PySem.IsPair h TI (.ref i1) (.ref i2)∧(∃a b,PySem.IsPair h TO a b)∧h.IsListIter i1 l1 i∧h.IsListIter i2 l2 i
theorem ZS.at{z TI TO i1 i2 l1 l2:Addr}{i:Nat}{h h':Heap}(x:ZS z TI TO i1 i2 l1 l2 i h)(e:∀a∈[z,TI,TO,i1,i2],∀o,h.get? a=some o→h'.get? a=some o): ZS z TI TO i1 i2 l1 l2 i h':=by
 obtain⟨h1,h2,⟨a,b,h3⟩,h4,h5⟩:=x
 exact⟨e z (by simp) _ h1,e TI (by simp) _ h2,⟨a,b,e TO (by simp) _ h3⟩,h4.at fun o x=>e i1 (by simp) o x,h5.at fun o x=>e i2 (by simp) o x⟩
theorem ZS.have{z TI TO i1 i2 l1 l2:Addr}{i:Nat}{h:Heap}(x:ZS z TI TO i1 i2 l1 l2 i h): ∀a∈[z,TI,TO,i1,i2],∃o,h.get? a=some o:=by
 obtain⟨h1,h2,⟨a,b,h3⟩,⟨o4,h4,_⟩,⟨o5,h5,_⟩⟩:=x
 intro c hc
 simp only[List.mem_cons,List.not_mem_nil,or_false]at hc
 rcases hc with e | e | e | e | e <;> subst e
 ·exact⟨_,h1⟩
 ·exact⟨_,h2⟩
 ·exact⟨_,h3⟩
 ·exact⟨_,h4⟩
 ·exact⟨_,h5⟩
def ZIt(z TI TO i1 i2 l1 l2:Addr)(i:Nat)(fs:List (Addr×Obj)): Prop:=fs.map (·.1)=[z,TI,TO,i1,i2]∧∀h:Heap,(∀q∈fs,h.get? q.1=some q.2)→ZS z TI TO i1 i2 l1 l2 i h
theorem ZqP{z TI TO i1 i2 l1 l2:Addr}{i:Nat}{h:Heap}(x:ZS z TI TO i1 i2 l1 l2 i h): ∃fs,ZIt z TI TO i1 i2 l1 l2 i fs∧∀q∈fs,h.get? q.1=some q.2:=by
 obtain⟨fs,h1,h2⟩:=ZnT h [z,TI,TO,i1,i2] x.have
 refine⟨fs,⟨h1,fun h' e=>x.at fun a ha o ho=>?_⟩,h2⟩
 rw[←h1]at ha
 obtain⟨q,hq,eq⟩:=Zz11.mp ha
 have:=h2 q hq
 rw[eq,ho]at this
 cases this
 exact eq▸e q hq
section
variable {prog:Program} {w:World} {Γ:Cx}
theorem Zyq{W0:Wd}{z TI TO i1 i2 l1 l2:Addr}{a b:Nat}(ea:W0.pi[a]?=some l1)(eb:W0.pi[b]?=some l2)(D:ZipApart z TI TO i1 i2 l1 l2):
  Itr2 prog w Γ W0 (.ref z) [z,TI,TO,i1,i2] (ZIt z TI TO i1 i2 l1 l2) (Zil a b):=by
 refine⟨fun i fs h=>h.1,?_,?_,?_,?_⟩
 ·intro i H v e
  obtain⟨vs,e1,e⟩:=Zz0.mp e
  obtain⟨us,e2,e⟩:=Zz0.mp e
  split at e
  ·cases e
   exact⟨_,_,rfl⟩
  ·split at e <;> cases e
 ·intro i W ρ H fr fs s Q E va vb le r ap hit hn post
  obtain⟨vs,e1,e⟩:=Zz0.mp hn
  obtain⟨us,e2,e⟩:=Zz0.mp e
  have hvu:vs[i]?=some va∧us[i]?=some vb:=by
   split at e
   ·rename_i x y h1 h2
    cases e
    exact⟨h1,h2⟩
   ·split at e <;> cases e
  obtain⟨_,xs,k1,g1,v1⟩:=r.at e1 (le.at ea)
  obtain⟨_,ys,k2,g2,v2⟩:=r.at e2 (le.at eb)
  obtain⟨x,hx,rx⟩:=v1.at hvu.1
  obtain⟨y,hy,ry⟩:=v2.at hvu.2
  have st:ZS z TI TO i1 i2 l1 l2 i s.heap:=hit.2 _ fun q hq=>r.frAt (Zz4 _ hq)
  have Wk:=WalksT.zip2 (prog:=prog) (w:=w) (A:=Γ.A) Γ.hh z TI TO i1 i2 l1 l2 D xs.toArray ys.toArray
  have isl1:s.heap.IsList l1 xs.toArray:=⟨_,g1,rfl,k1,rfl⟩
  have isl2:s.heap.IsList l2 ys.toArray:=⟨_,g2,rfl,k2,rfl⟩
  have hi:i<min xs.toArray.size ys.toArray.size:=by
   have h1:=(Zz6.mp hx).1
   have h2:=(Zz6.mp hy).1
   simp
   omega
  refine Wk.item i s Q E hi ⟨st.1,st.2.1,st.2.2.1,st.2.2.2.1,st.2.2.2.2,isl1,isl2⟩ fun T vals h1 t1 hp hT hTup hmid keep1=>post T h1 t1 ?_
  intro elts k pos s1 Q1 E1 es1 q1
  subst es1
  have hTw:=Wk.apart i T _ hmid
  refine Wk.go elts k pos i T _ Q1 E1 hmid fun h2 st2 keep2=>?_
  obtain⟨x',y',hx',hy',ev⟩:=hp
  have ex:x'=x:=by
   have:xs[i]?=some x':=by simpa using hx'
   rw[hx]at this
   exact(Option.some.inj this).symm
  have ey:y'=y:=by
   have:ys[i]?=some y':=by simpa using hy'
   rw[hy]at this
   exact(Option.some.inj this).symm
  subst ex ey ev
  obtain⟨fs',hit',at'⟩:=ZqP (h:=h2) (⟨st2.1,st2.2.1,st2.2.2.1,st2.2.2.2.1,st2.2.2.2.2.1⟩:ZS z TI TO i1 i2 l1 l2 (i+1) h2)
  obtain⟨oT,gT,cT,nT,dT⟩:=hTup
  refine q1 fs' h2 x' y' hit' ?_ ⟨oT,keep2 T oT hTw gT,cT,nT,dT⟩ rx ry
  refine r.swap (fs':=fs') (fun q hq t ht=>?_) (fun c o hc e=>?_) fun q hq=>⟨at' q hq,?_⟩
  ·exact ap _ (hit.1▸List.mem_map_of_mem hq) t ht
  ·rw[hit.1]at hc
   have hcw:c∉[z,TO,i1,i2]:=fun h=>hc (by simp at h ⊢;rcases h with h | h | h | h <;> simp[h])
   exact keep2 c o hcw (keep1 c o hcw e)
  ·rw[hit.1,←hit'.1]
   exact List.mem_map_of_mem hq
 ·intro i W ρ H fr fs s Q E le r ap hit hn post
  obtain⟨vs,e1,e⟩:=Zz0.mp hn
  obtain⟨us,e2,e⟩:=Zz0.mp e
  obtain⟨_,xs,k1,g1,v1⟩:=r.at e1 (le.at ea)
  obtain⟨_,ys,k2,g2,v2⟩:=r.at e2 (le.at eb)
  have hi:i=min vs.length us.length:=by
   split at e
   ·cases e
   ·split at e
    ·assumption
    ·cases e
  have st:ZS z TI TO i1 i2 l1 l2 i s.heap:=hit.2 _ fun q hq=>r.frAt (Zz4 _ hq)
  have Wk:=WalksT.zip2 (prog:=prog) (w:=w) (A:=Γ.A) Γ.hh z TI TO i1 i2 l1 l2 D xs.toArray ys.toArray
  have hm:min xs.toArray.size ys.toArray.size=i:=by simp[v1.length,v2.length,hi]
  refine Wk.done s Q E (by rw[hm];exact⟨st.1,st.2.1,st.2.2.1,st.2.2.2.1,st.2.2.2.2,⟨_,g1,rfl,k1,rfl⟩,⟨_,g2,rfl,k2,rfl⟩⟩) fun h' tk keep=>post h' tk ?_
  have:=r.swap (fs':=[]) (fun q hq t ht=>ap _ (hit.1▸List.mem_map_of_mem hq) t ht) (fun c o hc e=>keep c o (fun h=>hc (by rw[hit.1];simp at h ⊢;rcases h with h | h | h | h <;> simp[h])) e) (fun q hq=>nomatch hq)
  exact this
 ·intro i W ρ H fr fs s Q E o le r hit hn q
  obtain⟨vs,e1,e⟩:=Zz0.mp hn
  obtain⟨us,e2,e⟩:=Zz0.mp e
  obtain⟨_,xs,k1,g1,v1⟩:=r.at e1 (le.at ea)
  obtain⟨_,ys,k2,g2,v2⟩:=r.at e2 (le.at eb)
  have st:ZS z TI TO i1 i2 l1 l2 i s.heap:=hit.2 _ fun q hq=>r.frAt (Zz4 _ hq)
  have Wk:=WalksT.zip2 (prog:=prog) (w:=w) (A:=Γ.A) Γ.hh z TI TO i1 i2 l1 l2 D xs.toArray ys.toArray
  exact Wk.self i s Q E ⟨st.1,st.2.1,st.2.2.1,st.2.2.2.1,st.2.2.2.2,⟨_,g1,rfl,k1,rfl⟩,⟨_,g2,rfl,k2,rfl⟩⟩ q
theorem JI2.zip{x:Str}{np pos:Pos}{e1 e2:Expr}{f g:Ex}(hn:Nm prog w Γ x (.type "zip"))(h1:J prog w Γ e1 f)(h2:J prog w Γ e2 g)
  (he:starEach [e1,e2] Γ.env=(false,eval e1 Γ.env)::starEach [e2] Γ.env:=by rfl) (he2:starEach [e2] Γ.env=(false,eval e2 Γ.env)::starEach [] Γ.env:=by rfl) (hp:∀pos,(backTo pos (starEach [e2] Γ.env)).any (·.1)=false:=by intro _;rfl):JI2 prog w Γ (.Call (.Name x np) [e1,e2] [] pos) (Zku f g):=by
 intro W ρ H fr s Q E nx n H' r hf post
 obtain⟨p,a1,hf⟩:=Zz0.mp hf
 obtain⟨q,a2,hf⟩:=Zz0.mp hf
 refine wpAny_Call_ofName (hn.use r ?_)
 refine PySem.Pv.callWith_type1 (wpAny_items_cons (h1 W ρ H fr s _ E _ _ r a1 fun W1 k1 t1 y1 l1 r1 v1=>?_) he) he (hp pos)
 refine wpAny_items_cons (h2 W1 ρ _ fr _ _ E _ _ r1 a2 fun W2 k2 t2 y2 l2 r2 v2=>wpAny_items_nil ?_) he2
 have v1':=v1.mono l2
 obtain⟨u1,H1⟩:=p
 obtain⟨u2,H2⟩:=q
 simp only at hf v1' v2 r2
 cases u1 <;> first | (cases hf;done) | skip
 rename_i b1
 cases u2 <;> first | (cases hf;done) | skip
 rename_i b2
 obtain⟨vs,c1,hf⟩:=Zz0.mp hf
 obtain⟨us,c2,c3⟩:=Zz1.mp hf
 cases c3
 cases v1' with
 | @ref _ m1 ea=>
 cases v2 with
 | @ref _ m2 eb=>
 obtain⟨_,xs,n1,g1,w1⟩:=r2.at c1 ea
 obtain⟨_,ys,n2,g2,w2⟩:=r2.at c2 eb
 have isl1:k2.IsList m1 xs.toArray:=⟨_,g1,rfl,n1,rfl⟩
 have isl2:k2.IsList m2 ys.toArray:=⟨_,g2,rfl,n2,rfl⟩
 refine call_zip_2 (s:={ s with heap:=k2,toks:=t2 }) isl1 isl2 fun h₁ hz hTI hTO hi1 hi2 hsz up=>?_
 have ap:=zipApart_new (n:=k2.objs.size) (Heap.lt_size g1) (Heap.lt_size g2)
 have Wk:=WalksT.zip2 (prog:=prog) (w:=w) (A:=Γ.A) Γ.hh _ _ _ _ _ m1 m2 ap xs.toArray ys.toArray
 have zs:ZS (k2.objs.size+4) (k2.objs.size+2) (k2.objs.size+3) k2.objs.size (k2.objs.size+1) m1 m2 0 h₁:=⟨hz,hTI,⟨_,_,hTO⟩,hi1,hi2⟩
 refine Wk.self 0 _ _ _ ⟨hz,hTI,⟨_,_,hTO⟩,hi1,hi2,isl1.at fun o e=>up _ o e,isl2.at fun o e=>up _ o e⟩ ?_
 obtain⟨fs,hit,at'⟩:=ZqP zs
 obtain⟨r3,ap3⟩:=r2.more (fs:=fs) (h':=h₁) (fun b o e=>up b o e) (fun q hq=>⟨at' q hq,by
  have:q.1∈fs.map (·.1):=List.mem_map_of_mem hq
  rw[hit.1]at this
  simp at this
  rcases this with e | e | e | e | e <;> rw[e] <;> omega⟩)
 refine post W2 h₁ t2 _ _ _ fs (l1.trans l2) hit r3 (fun b hb t ht=>?_) (Zyq ea eb ap) ?_
 ·rw[←hit.1]at hb
  obtain⟨q,hq,e⟩:=Zz11.mp hb
  exact e▸ap3 q hq t ht
 ·simp only[Zil,c1,c2,Option.bind_some]
  split
  ·exact⟨_,rfl⟩
  ·rename_i hno
   have:0=min vs.length us.length:=by
    rcases Nat.eq_zero_or_pos vs.length with z | z
    ·rw[z];simp
    ·rcases Nat.eq_zero_or_pos us.length with z' | z'
     ·rw[z'];simp
     ·exact(hno vs[0] us[0] (by simp[z]) (by simp[z'])).elim
   rw[if_pos this]
   exact⟨_,rfl⟩
theorem ZwU{x1 x2:Str}{i1 i2 kt:Nat}{p1 p2 tp:Pos}(h1:Sto prog w Γ x1 i1)(h2:Sto prog w Γ x2 i2){W:Wd}{ρ:Lc}{H:Hp}{fr:List (Addr×Obj)}{s:Shared}{Q:Unit→Shared→Prop}{E:Value→Shared→Prop}{T:Addr}{y1 y2:Value}{a b:V}(r:Rep Γ W ρ H fr s.heap)(ht:IsTup s.heap T #[y1,y2])(v1:VR W a y1)(v2:VR W b y2)
  (post:∀(h':Heap) (tk':Nat),Rep Γ W (upd (upd ρ i1 a) i2 b) H fr h'→Q () { s with heap:=h',toks:=tk' }):wpAny (model prog w) Γ.A (assign (.Tuple [.Name x1 p1,.Name x2 p2] kt tp) Γ.env (.ref T)) Q E s:=by
 refine assign_Tuple_tuple Γ.hh ht rfl rfl fun g₄ he=>?_
 have r4:=r.grown (h':=g₄) fun b o e=>he b o (Nat.ne_of_lt (Heap.lt_size e)) e
 refine assignInOrder_cons (wpAny_assign_Name (h1 W ρ H fr _ _ _ a y1 r4 v1 fun k5 t5 r5=>?_))
 refine assignInOrder_cons (wpAny_assign_Name (h2 W _ H fr _ _ _ b y2 r5 v2 fun k6 t6 r6=>?_))
 exact assignInOrder_nil (post k6 t6 r6)
theorem Zez{x1 x2:Str}{i1 i2 kt:Nat}{p1 p2 tp pos:Pos}{it:Expr}{body:List Stmt}{g:Src}{b:Sm}(h1:Sto prog w Γ x1 i1)(h2:Sto prog w Γ x2 i2)(hg:JI2 prog w Γ it g)(hb:Ss prog w Γ body b)(hs:∀x,foldedSetIterable it Γ.env x=pure x:=by intro _;rfl):
  S1 prog w Γ (.For (.Tuple [.Name x1 p1,.Name x2 p2] kt tp) it body [] pos) (Zbh g (Zdq i1 i2) b):=by
 intro W ρ H fr s Q E r rp hf post
 obtain⟨z,e1,hf⟩:=Zz0.mp hf
 obtain⟨nx,n,H0⟩:=z
 refine wpAny_For (hg W ρ H fr s _ E nx n H0 rp e1 fun W1 k1 t1 itv as It fs l1 j1 r1 ap I1 _=>?_) hs
 refine codeAny_forLoop_any (fun k s'=>∃W' ρ' H' h' tk' j fs',s' = { s with heap:=h',toks:=tk' }∧W1.Le W'∧It j fs'∧Rep Γ W' ρ' H' (fs'++fr) h'∧ZcC nx (Zdq i1 i2) b k j ρ' H'=some r) ?_ n ⟨W1,ρ,H0,k1,t1,0,fs,rfl,.refl _,j1,r1,hf⟩
 rintro k s' ⟨W2,ρ2,H2,k2,t2,j,fs2,rfl,l2,j2,r2,e⟩
 cases k with
 | zero=>cases e
 | succ k=>
  obtain⟨o,e2,e⟩:=Zz0.mp e
  cases o with
  | none=>
   cases e
   exact I1.done j W2 ρ2 H2 fr fs2 _ _ _ l2 r2 ap j2 e2 fun h' tk' r3=>wpAny_execs_nil (post W2 h' tk' (l1.trans l2) r3)
  | some v=>
   obtain⟨va,vb,ev⟩:=I1.pair j H2 v e2
   subst ev
   refine I1.item j W2 ρ2 H2 fr fs2 _ _ _ va vb l2 r2 ap j2 e2 fun T h3 t3 go=>?_
   obtain⟨ρ3,e3,e⟩:=Zz0.mp e
   cases e3
   obtain⟨q,e4,e⟩:=Zz0.mp e
   refine go _ _ _ _ _ _ rfl fun fs3 k3 y1 y2 j3 r3 ht w1 w2=>?_
   refine ZwU h1 h2 (s:={ s with heap:=k3,toks:=t3 }) r3 ht w1 w2 fun k4 t4 r4=>?_
   refine hb W2 _ H2 (fs3++fr) _ _ _ q r4 e4 ?_
   obtain⟨u,ρ5,H5⟩:=q
   cases u with
   | some u=>
    cases e
    exact fun W5 k5 t5 x5 l5 r5 v5=>post W5 k5 t5 x5 ((l1.trans l2).trans l5) (r5.less fun q hq=>List.mem_append_right _ hq) v5
   | none=>exact fun W5 k5 t5 l5 r5=>⟨k,Nat.lt_succ_self k,W5,ρ5,H5,k5,t5,j+1,fs3,rfl,l2.trans l5,j3,r5,e⟩
theorem Zpc{elt iter:Expr}{x x₂:Str}{px px₂ tp:Pos}{kt:Nat}{scope:Scope}{pos:Pos}{cl:List (Str×Addr)}{t t₂:Nat}{g:Src}{f:Ex}(hg:JI2 prog w Γ iter g)(hel:∀C ρ,J prog w (Za5 Γ scope cl C [(x,t),(x₂,t₂)] ρ) elt f)
  (hcell:∀y∈scope.names,y.2≠.cell) (hkind:scope.kind=.function) (hx:scope.names.lookup x=some .local) (hx₂:scope.names.lookup x₂=some .local) (hxx:x≠x₂) (htt:t≠t₂)
  {W:Wd} {ρ:Lc} {H:Hp} {fr:List (Addr×Obj)} {s:Shared} {E:Value→Shared→Prop} {q:List V×Hp} {RR:Value→Addr→Result→Shared→Prop} (r:Rep Γ W ρ H fr s.heap) (hf:((g ρ H).bind fun z=>ZcD z.1 (Zdq t t₂) Zbz f ρ z.2.1 0 [] z.2.2)=some q)
  (hR:∀(W':Wd) (h':Heap) (tk':Nat) (C D:Addr) (oC:Obj) (m₂:Str→Option Value) (ys:List Value),W.Le W'→NsObj oC m₂→VRs W' q.1 ys→q.1.length≤LEN→(∀t∈fr,D≠t.1)→(∀t∈fr,C≠t.1)→C≠D→Rep Γ W' ρ q.2 ((C,oC)::(D,lst ys)::fr) h'→RR (.ref D) C (.ok .next) { s with heap:=h',toks:=tk' }):
  wpAny (model prog w) Γ.A (eval iter Γ.env) (fun xv s₁=>wpAny (model prog w) Γ.A (pyIter xv) (fun it s₂=>wpAny (model prog w) Γ.A (newList []) (fun acc s₃=>wpAny (model prog w) Γ.A (newFunctionEnv scope Γ.env.globals cl [] Γ.env.qual none .none (some Γ.env)) (fun cenv s₄=>
   codeAny (model prog w) Γ.A (.compStart (.ListComp elt [⟨.Tuple [.Name x px,.Name x₂ px₂] kt tp,iter,[],0⟩] scope pos) 0 it acc { cenv with scope:=relabel scope Γ.env }) (RR acc cenv.locals) s₄) E s₃) E s₂) E s₁) E s:=by
 obtain⟨z,e1,e2⟩:=Zz0.mp hf
 obtain⟨nx,n,H0⟩:=z
 refine hg W ρ H fr s _ E nx n H0 r e1 fun W1 k1 t1 itv as It fs l1 i1 r1 ap I1 hstart=>?_
 refine wpAny_newObj_type (wpAny_newFunctionEnv hcell (fun y hy=>by simp at hy) (fun h₂ hns hsb=>?_) hkind)
 dsimp only at hns hsb ⊢
 obtain⟨rD,aD⟩:=r1.more (fs:=[(k1.objs.size,lst [])]) (fun b o e=>Heap.get?_push_of_some (lst []) e) (fun q hq=>by rw[List.mem_singleton.mp hq];exact⟨Heap.get?_push_size _ rfl,Nat.le_refl _⟩)
 generalize eH:k1.push { cls:=.type "list",dict:=none,data:=.seq ([]:List Value).toArray } = K at hns hsb ⊢
 have eK:k1.push (lst [])=K:=eH
 rw[eK]at rD
 obtain⟨oC,gC,nC⟩:=ns_obj hns
 have up:∀b o,K.get? b=some o→h₂.get? b=some o:=fun b o e=>hsb.extBut b o (Nat.ne_of_lt (Heap.lt_size e)) (Heap.get?_push_of_some _ e)
 obtain⟨rC,aC⟩:=rD.more (fs:=[(K.objs.size,oC)]) up (fun q hq=>by rw[List.mem_singleton.mp hq];exact⟨gC,Nat.le_refl _⟩)
 have adr0:=I1.adr 0 fs i1
 have offs:∀b∈as,b≠k1.objs.size∧b≠K.objs.size:=fun b hb=>by
  rw[←adr0]at hb
  obtain⟨q,hq,e⟩:=Zz11.mp hb
  exact⟨e▸(aD _ Zz5 q (Zz4 _ hq)).symm,e▸(aC _ Zz5 q (Zz3 _ (Zz4 _ hq))).symm⟩
 have cd:K.objs.size≠k1.objs.size:=aC _ Zz5 (k1.objs.size,lst []) (Zz4 _ Zz5)
 have cfr:∀t∈fr,K.objs.size≠t.1:=fun t ht=>aC _ Zz5 t (Zz3 _ (Zz3 _ ht))
 have dfr:∀t∈fr,k1.objs.size≠t.1:=fun t ht=>aD _ Zz5 t (Zz3 _ ht)
 generalize k1.objs.size=D at *
 generalize K.objs.size=C at *
 have loop:∀s₃:Shared,s₃ = { s with heap:=h₂,toks:=t1+([]:List (Str×Value)).length } →
   codeAny (model prog w) Γ.A (.compLoop (.ListComp elt [⟨.Tuple [.Name x px,.Name x₂ px₂] kt tp,iter,[],0⟩] scope pos) 0 itv (.ref D) (compEnvC scope cl C Γ.env)) (RR (.ref D) C) s₃:=by
  intro s₃ hs₃
  subst hs₃
  refine codeAny_compLoop_pair (Ziy Γ W1 ρ fr C D It nx (Zdq t t₂) Zbz f q s) ?_ n ⟨W1,H0,h₂,_,0,fs,[],[],oC,_,rfl,.refl _,i1,nC,.nil,Nat.zero_le _,rC,e2⟩
  rintro k s' ⟨W2,H2,k2,t2,j,fs2,acc,ys,oC2,m₂,rfl,l2,i2,hC2,hv2,hl2,r2,e⟩
  cases k with
  | zero=>cases e
  | succ k=>
   obtain⟨o,e4,e⟩:=Zz0.mp e
   have r2':Rep Γ W2 ρ H2 (fs2++((C,oC2)::(D,lst ys)::fr)) k2:=r2.less fun q hq=>by
    rcases Zz8.mp hq with hq | hq
    ·exact Zz2 _ (Zz2 _ (Zz4 _ hq))
    ·rcases Zz7.mp hq with e | hq
     ·exact e▸List.mem_cons_self
     ·rcases Zz7.mp hq with e | hq
      ·exact e▸List.mem_cons_of_mem _ Zz5
      ·exact Zz2 _ (Zz2 _ (Zz3 _ hq))
   have ap2:∀b∈as,∀t∈(C,oC2)::(D,lst ys)::fr,b≠t.1:=fun b hb t ht=>by
    rcases Zz7.mp ht with e | ht
    ·rw[e]
     exact(offs b hb).2
    ·rcases Zz7.mp ht with e | ht
     ·rw[e]
      exact(offs b hb).1
     ·exact ap b hb t ht
   cases o with
   | none=>
    cases e
    exact I1.done j W2 ρ H2 _ fs2 _ _ _ l2 r2' ap2 i2 e4 fun h' tk' r3=>hR W2 h' tk' C D oC2 m₂ ys (l1.trans l2) hC2 hv2 hl2 dfr cfr cd r3
   | some v=>
    obtain⟨va,vb,ev⟩:=I1.pair j H2 v e4
    subst ev
    refine I1.item j W2 ρ H2 _ fs2 _ _ _ va vb l2 r2' ap2 i2 e4 fun T h3 t3 go=>?_
    obtain⟨ρ3,e5,e⟩:=Zz0.mp e
    cases e5
    refine go _ _ _ _ _ _ rfl fun fs3 k3 y1 y2 i3 r3 htup w1 w2=>?_
    have a3:∀t∈fs3,t.1∈as:=fun t ht=>by
     rw[←I1.adr _ _ i3]
     exact List.mem_map_of_mem ht
    refine assign_Tuple_tuple (s:={ s with heap:=k3,toks:=t3 }) Γ.hh htup rfl rfl fun g₄ he=>?_
    have r3g:=r3.grown (h':=g₄) fun b o e=>he b o (Nat.ne_of_lt (Heap.lt_size e)) e
    have gC3:g₄.get? C=some oC2:=r3g.frAt (q:=(C,oC2)) (Zz3 _ Zz5)
    have nC3:g₄.Ns C m₂:=hC2.ns gC3
    refine assignInOrder_cons (wpAny_assign_Name (wpAny_storeName_local (lookup_relabel_local hx) nC3 (fun h5 hn5 sb5=>?_) (by simp[compEnvC,relabel,hkind])))
    refine assignInOrder_cons (wpAny_assign_Name (wpAny_storeName_local (lookup_relabel_local hx₂) hn5 (fun h4 hn4 sb4=>?_) (by simp[compEnvC,relabel,hkind])))
    refine assignInOrder_nil ?_
    obtain⟨oC4,gC4,nC4⟩:=ns_obj hn4
    have r3':Rep Γ W2 ρ H2 ([(C,oC2)]++((D,lst ys)::(fs3++fr))) g₄:=r3g.less fun q hq=>by
     rcases Zz8.mp hq with hq | hq
     ·rw[List.mem_singleton.mp hq]
      exact Zz3 _ Zz5
     ·rcases Zz7.mp hq with e | hq
      ·exact e▸List.mem_append_right _ (Zz2 _ Zz5)
      ·rcases Zz8.mp hq with hq | hq
       ·exact Zz4 _ hq
       ·exact Zz3 _ (Zz2 _ (Zz2 _ hq))
    have aC3:∀t∈(D,lst ys)::(fs3++fr),C≠t.1:=fun t ht=>by
     rcases Zz7.mp ht with e | ht
     ·rw[e]
      exact cd
     ·rcases Zz8.mp ht with ht | ht
      ·exact(offs _ (a3 t ht)).2.symm
      ·exact cfr t ht
    have aD3:∀t∈fs3++fr,D≠t.1:=fun t ht=>by
     rcases Zz8.mp ht with ht | ht
     ·exact(offs _ (a3 t ht)).1.symm
     ·exact dfr t ht
    have r4:Rep Γ W2 ρ H2 ([(C,oC4)]++((D,lst ys)::(fs3++fr))) h4:=by
     refine r3'.swap (fun q hq t ht=>?_) (fun b o hb e=>sb4.extBut b o (fun z=>hb (by simp[z,compEnvC])) (sb5.extBut b o (fun z=>hb (by simp[z,compEnvC])) e)) fun q hq=>?_
     ·rw[List.mem_singleton.mp hq]
      exact aC3 t ht
     ·rw[List.mem_singleton.mp hq]
      exact⟨gC4,by simp⟩
    have rc:=ZqO (scope:=scope) (cl:=cl) (ts:=[(x,t),(x₂,t₂)]) (ρ:=upd (upd ρ t va) t₂ vb) r4 aC3 nC4 (fun p hp=>by
     rcases Zz7.mp hp with e | hp
     ·rw[e]
      exact⟨va,y1,by simp[upd,htt],by simp[hxx],w1⟩
     ·rw[List.mem_singleton.mp hp]
      exact⟨vb,y2,by simp[upd],by simp,w2⟩) (fun i hi=>by
     have h1:i≠t:=fun e=>hi (x,t) Zz5 e.symm
     have h2:i≠t₂:=fun e=>hi (x₂,t₂) (Zz2 _ Zz5) e.symm
     simp[upd,h1,h2])
    exact ZpH (hel C ρ) aD3 cd l2 i3 hv2 rc e
 refine codeAny_compStart_list (loop _ rfl) ?_
 obtain⟨o0,ho0⟩:=hstart
 exact I1.self 0 W1 ρ H0 (([(C,oC)]++[(D,lst [])])++fr) fs _ _ _ o0 (.refl _) (rC.less fun q hq=>by
  rcases Zz8.mp hq with hq | hq
  ·exact Zz3 _ (Zz3 _ (Zz4 _ hq))
  ·rcases Zz8.mp hq with hq | hq
   ·rcases Zz8.mp hq with hq | hq
    ·exact Zz4 _ hq
    ·exact Zz3 _ (Zz4 _ hq)
   ·exact Zz3 _ (Zz3 _ (Zz3 _ hq))) i1 ho0 (loop _ rfl)
theorem ZwV{elt iter:Expr}{x x₂:Str}{px px₂ tp:Pos}{kt:Nat}{scope:Scope}{pos:Pos}{cl:List (Str×Addr)}{t t₂:Nat}{g:Src}{f:Ex}(hg:JI2 prog w Γ iter g)(hel:∀C ρ,J prog w (Za5 Γ scope cl C [(x,t),(x₂,t₂)] ρ) elt f)
  (hclos:closureFor scope Γ.env=pure cl) (hcell:∀y∈scope.names,y.2≠.cell) (hkind:scope.kind=.function) (hnames:∀y∈scope.names,y.2=.local→scope.names.lookup y.1=some .local) (hx:scope.names.lookup x=some .local) (hx₂:scope.names.lookup x₂=some .local) (hxx:x≠x₂) (htt:t≠t₂) (hs:∀x,foldedSetIterable iter Γ.env x=pure x:=by intro _;rfl):
  J prog w Γ (.ListComp elt [⟨.Tuple [.Name x px,.Name x₂ px₂] kt tp,iter,[],0⟩] scope pos) (Zbw g (Zdq t t₂) Zbz f):=by
 intro W ρ H fr s Q E v H' r hf post
 obtain⟨z,e1,hf⟩:=Zz0.mp hf
 obtain⟨q,e2,e3⟩:=Zz1.mp hf
 cases e3
 rw[eval_ListComp]
 refine wpAny_comprehension_free (use:=Option.none) rfl hs hclos hkind hnames ?_
 refine Zpc (RR:=fun acc C=>compPost (model prog w) Γ.A E Option.none Q acc C) hg hel hcell hkind hx hx₂ hxx htt r (q:=q) (by rw[e1];exact e2) fun W2 h' tk' C D oC m₂ ys l2 hC hv hl aD aC cd r3=>?_
 refine⟨m₂,hC.ns (r3.frAt (q:=(C,oC)) Zz5),fun h'' sb=>?_⟩
 obtain⟨W5,l5,r5,v5⟩:=Zp8 hv hl aD aC cd r3 sb
 exact post W5 h'' tk' _ (l2.trans l5) r5 v5
end
end PM
end
section
namespace PM
open PySem PySem.W PySem.Calls PyProof.Rows PyProof PySem.Spec
theorem Zyr{prog:Program}{w:World}{A A₀:Around}{s:Shared}{base h₀:Heap}{L:Addr}{m:Str→Option Value}{lent:List (Addr×Obj)}{K:Frag}{p:Program}{loose:List Str}{mean:ExcName→Option Value}{mg mb:Str→Option Value}
  {env:Env} {outer:List Env} {R:Result→Shared→Prop} {name qual:Str} {params:Arguments} {body:List Stmt} {scope:Scope} {dV kV doc pm cdv ct oc:Value} {an od:Option Addr} {osl:Array (Option Value)} {f:Addr} {args:Args} {binds:List (Str×Value)}
  (B:Below A₀ base outer h₀) (F:Fr h₀ L s.heap m) (X₀:K.In h₀) (N:News h₀ L s.heap lent) (T:Top p loose mean mg mb h₀) (hA:A.frames=some (env::outer)) (hf:env.frame=some L) (hke:env.scope.kind=.function)
  (ho:K.lookup f=some ⟨oc,od,.func (fnOf name qual params body scope dV kV doc pm an cdv ct),osl⟩) (hcd:codeIn K cdv qual=true) (hroom:A.depth<recursionLimit)
  (hbind:BindsTo s (fnOf name qual params body scope dV kV doc pm an cdv ct) args binds) (hall:(binds.all fun y=>scope.names.lookup y.1 == some .local || scope.names.lookup y.1 == some .cell)=true) (hone:((cellsFrom 0 scope.names []).map (·.1)).Nodup)
  (h:∀g L' h₁ tk cells,(∀b o,s.heap.get? b=some o→b∉lent.map (·.1)→g.get? b=some o)→Fr g L' h₁ (bindL (envOfC qual scope L' f cdv).kindOf binds fun _=>none)→News g L' h₁ (cells++lent)→CellsAre (bindC (envOfC qual scope L' f cdv).kindOf binds fun _=>none) (cellsFrom (L'+1) scope.names []) cells →
   (cellsFrom (L'+1) scope.names []).Pairwise (fun x y=>x.2≠y.2)→(∀n c,(n,c)∈cellsFrom (L'+1) scope.names []→L'<c)→Below A base (env::outer) g→K.In g→Top p loose mean mg mb g→(∀q∈lent,q.1<L')→s.heap.objs.size≤L' →
   wpAny (model prog w) (A.deeper (envOfC qual scope L' f cdv)) (execs body (envOfC qual scope L' f cdv)) (fun fl s'=>LeaveK h₀ L m g R (match fl with | .ret v=>v | _=>.none) s')
    (fun e s'=>wpAny (model prog w) (A.deeper (envOfC qual scope L' f cdv)) (leaving (envOfC qual scope L' f cdv) e) (fun _ s''=>R (.error e) s'') (fun e' s''=>R (.error e') s'') s') { s with heap:=h₁,toks:=tk })
  (hco:scope.isCoroutine=false) (hgen:scope.isGenerator=false) (hk:scope.kind=.function):codeAny (model prog w) A (.call (.ref f) args) R s:=by
 obtain⟨FG,BG,st,lv⟩:=groundX (R:=R) B F N hA hf hke
 have X:=X₀.keeps F.keep
 refine codeAny_call_function (fd:=fnOf name qual params body scope dV kV doc pm an cdv ct) hroom (X _ _ ho) rfl hco hgen rfl (codeRec_of X hcd) (hbind _ _ _ _ ?_)
 refine wpAny_newFunctionEnv_cells hk (kindsX hall _) fun fresh hfr s' inC=>?_
 subst hfr
 have up:=inC.toInCall.keep
 refine⟨(T.nolimit.keeps F.keep).keeps up,codeAny_func ?_⟩
 obtain⟨h₁,tk,hs',_⟩:=inC.done
 subst hs'
 have nod:=cellsFrom_names scope.names 0 (s.heap.objs.size+1) [] [] rfl▸hone
 obtain⟨cells,NC,Y⟩:=Cl.news (h₀:=s.heap) (L:=s.heap.objs.size) (Zz10 _) fun n c hm=>⟨inC.cell n c (lookup_of_mem_nodup nod hm),inC.above n c hm⟩
 have old:∀q∈lent,q.1<s.heap.objs.size:=fun q hq=>Heap.lt_size (N q hq).1
 refine wpAny_mono (h _ s.heap.objs.size h₁ tk cells (fun b o e nb=>hideAll_get _ e nb) ⟨inC.toInCall.ns,fun b o e=>up b o (of_hideAll _ e),Nat.le_of_eq (hideAll_size _ _)⟩ (fun q hq=>?_) Y inC.apart inC.above BG (X₀.keeps st) (T.keeps st) old (Zz10 _)) (fun fl s' hl=>lv _ _ hl) fun _ _ y=>y
 rcases Zz8.mp hq with hq | hq
 ·obtain⟨c1,c2,c3⟩:=NC q hq
  refine⟨c1,c2,?_⟩
  cases e:(hideAll s.heap (lent.map (·.1))).get? q.1 with
  | none=>rfl
  | some o=>
   have z:=of_hideAll _ e
   rw[c3]at z
   cases z
 ·exact⟨up _ _ (N q hq).1,Nat.ne_of_lt (old q hq),hideAll_none _ (List.mem_map_of_mem hq)⟩
section
variable (prog:Program) (w:World) (K:Frag) (p:Program) (loose:List Str) (mean:ExcName→Option Value) (mg mb:Str→Option Value)
def Clr(Γ:Cx)(dp un:Nat): Prop:=∃(gd:Option (List Code)) (cn:Str) (cs:Scope) (a:Addr) (ccd:Value) (cl:List (Str×Addr)) (outer:List Env) (A₀:Around) (base:Heap),
 Γ.A=ktrTop dp un gd cn cs Γ.L a ccd cl outer∧Below A₀ base outer Γ.h₀∧K.In Γ.h₀∧Top p loose mean mg mb Γ.h₀∧cs.kind=.function
def Def(f:Addr)(room:Nat)(F:List V→Hp→Option (V×Hp)): Prop:=∀(Γ:Cx) (dp un:Nat),Clr K p loose mean mg mb Γ dp un→dp+room<recursionLimit→un+10*room+300<cLine →
 ∀(W:Wd) (ρ:Lc) (H:Hp) (fr:List (Addr×Obj)) (s:Shared) (Q E:Value→Shared→Prop) (as:List V) (xs:List Value) (v:V) (H':Hp),
  Rep Γ W ρ H fr s.heap→VRs W as xs→F as H=some (v,H')→Ziv Γ W ρ H' fr s Q v→wpAny (model prog w) Γ.A (call (.ref f) xs) Q E s
end
noncomputable def ZJ(n:Nat)(g:Sm): List V→Hp→Option (V×Hp):=fun as H=>if as.length=n then(g (fun i=>as[i]?) H).map fun r=>((r.1.getD .none),r.2.2)else none
theorem Zu5{kindOf:Str→Option NameKind}: ∀{ps:List Str} {xs:List Value} {m:Str→Option Value} {x:Str} {i:Nat} {y:Value},ps.Nodup→ps[i]?=some x→xs[i]?=some y→kindOf x=some .local→bindL kindOf (ps.zip xs) m x=some y:=by
 have skip:∀{ps:List Str} {xs:List Value} {m:Str→Option Value} {x:Str},x∉ps→bindL kindOf (ps.zip xs) m x=m x:=by
  intro ps
  induction ps with
  | nil=>intro xs m x _;rfl
  | cons p ps ih=>
   intro xs m x hx
   cases xs with
   | nil=>rfl
   | cons z xs=>
    simp only[List.zip_cons_cons,bindL]
    rw[ih (fun h=>hx (Zz2 _ h))]
    have:x≠p:=fun e=>hx (e▸List.mem_cons_self)
    split <;> simp[this]
 intro ps
 induction ps with
 | nil=>intro xs m x i y _ h;simp at h
 | cons p ps ih=>
  intro xs m x i y nd hp hx hk
  cases xs with
  | nil=>simp at hx
  | cons z xs=>
   obtain⟨n1,n2⟩:=List.nodup_cons.mp nd
   cases i with
   | zero=>
    simp at hp hx
    subst hp hx
    simp only[List.zip_cons_cons,bindL]
    rw[skip n1,if_pos hk]
    simp
   | succ i=>
    simp at hp hx
    simp only[List.zip_cons_cons,bindL]
    exact ih n2 hp hx hk
theorem Zu6{kindOf:Str→Option NameKind}: ∀{ps:List Str} {xs:List Value} {m:Str→Option Value} {x:Str} {i:Nat} {y:Value},ps.Nodup→ps[i]?=some x→xs[i]?=some y→kindOf x=some .cell→bindC kindOf (ps.zip xs) m x=some y:=by
 have skip:∀{ps:List Str} {xs:List Value} {m:Str→Option Value} {x:Str},x∉ps→bindC kindOf (ps.zip xs) m x=m x:=by
  intro ps
  induction ps with
  | nil=>intro xs m x _;rfl
  | cons p ps ih=>
   intro xs m x hx
   cases xs with
   | nil=>rfl
   | cons z xs=>
    simp only[List.zip_cons_cons,bindC]
    rw[ih (fun h=>hx (Zz2 _ h))]
    have:x≠p:=fun e=>hx (e▸List.mem_cons_self)
    split <;> simp[this]
 intro ps
 induction ps with
 | nil=>intro xs m x i y _ h;simp at h
 | cons p ps ih=>
  intro xs m x i y nd hp hx hk
  cases xs with
  | nil=>simp at hx
  | cons z xs=>
   obtain⟨n1,n2⟩:=List.nodup_cons.mp nd
   cases i with
   | zero=>
    simp at hp hx
    subst hp hx
    simp only[List.zip_cons_cons,bindC]
    rw[skip n1,if_neg (by rw[hk];simp)]
    simp
   | succ i=>
    simp at hp hx
    simp only[List.zip_cons_cons,bindC]
    exact ih n2 hp hx hk
theorem Zh0{cm:Str→Option Value}: ∀{cs:List (Str×Addr)} {cells:List (Addr×Obj)} {x:Str} {c:Addr},CellsAre cm cs cells→(x,c)∈cs→∃o,(c,o)∈cells∧o.data=.cell (cm x)
 | _,_,_,_,.nil,h=>nomatch h
 | _,_,_,_,.cons hd r,h=>by
  rcases Zz7.mp h with e | h
  ·cases e
   exact⟨_,List.mem_cons_self,hd⟩
  ·obtain⟨o,h1,h2⟩:=Zh0 r h
   exact⟨o,List.mem_cons_of_mem _ h1,h2⟩
theorem ZqQ{cm:Str→Option Value}: ∀{cs:List (Str×Addr)} {cells:List (Addr×Obj)} {q:Addr×Obj},CellsAre cm cs cells→q∈cells→∃x,(x,q.1)∈cs
 | _,_,_,.nil,h=>nomatch h
 | _,_,_,.cons hd r,h=>by
  rcases Zz7.mp h with e | h
  ·cases e
   exact⟨_,List.mem_cons_self⟩
  ·obtain⟨x,h1⟩:=ZqQ r h
   exact⟨x,List.mem_cons_of_mem _ h1⟩
theorem Zdu{α β:Type}[BEq α][LawfulBEq α]: ∀{l:List (α×β)} {x:α} {y:β},l.lookup x=some y→(x,y)∈l
 | [],_,_,h=>by simp at h
 | (a,b)::r,x,y,h=>by
  rw[List.lookup_cons]at h
  split at h
  ·rename_i e
   cases h
   have:=eq_of_beq e
   subst this
   exact Zz5
  ·exact Zz2 _ (Zdu h)
end PM
end
section
namespace PM
open PySem PySem.W PySem.Calls PyProof.Rows PyProof PySem.Spec
section
variable {prog:Program} {w:World} {K:Frag} {p:Program} {loose:List Str} {mean:ExcName→Option Value} {mg mb:Str→Option Value}
theorem ZrD{name qual:Str}{params:Arguments}{body:List Stmt}{scope:Scope}{dV kV doc pm cdv ct oc:Value}{an od:Option Addr}{osl:Array (Option Value)}{f:Addr}{names:List Str}{n room:Nat}{g:Sm}
  (ho:K.lookup f=some ⟨oc,od,.func (fnOf name qual params body scope dV kV doc pm an cdv ct),osl⟩) (hcd:codeIn K cdv qual=true) (nd:names.Nodup) (hn:n≤names.length)
  (hbind:∀s xs,xs.length=n→BindsTo s (fnOf name qual params body scope dV kV doc pm an cdv ct) ⟨xs,[]⟩ ((names.take n).zip xs)) (hkinds:∀x∈names.take n,scope.names.lookup x=some .local∨scope.names.lookup x=some .cell) (hone:((cellsFrom 0 scope.names []).map (·.1)).Nodup)
  (hco:scope.isCoroutine=false) (hgen:scope.isGenerator=false) (hk:scope.kind=.function)
  (hbody:∀(dp un:Nat) (gd:Option (List Code)) (L:Addr) (outer:List Env) (h₀:Heap) (hu:un+200<cLine),Clr K p loose mean mg mb (Zbp dp un gd qual scope L f cdv (cellsFrom (L+1) scope.names []) outer h₀ hu names) dp un→dp+room<recursionLimit→un+10*room+300<cLine →
   Ss prog w (Zbp dp un gd qual scope L f cdv (cellsFrom (L+1) scope.names []) outer h₀ hu names) body g):
  Def prog w K p loose mean mg mb f (room+1) (ZJ n g):=by
 intro Γ dp un clr hd hu W ρ H fr s Q E as xs v H' r hx hF post
 obtain⟨gd,cn,cs,a,ccd,cl,outer,A₀,base,eA,B,X,T,hke⟩:=clr
 unfold ZJ at hF
 split at hF
 ·rename_i hlen
  obtain⟨res,e1,e2⟩:=Zz1.mp hF
  obtain⟨o,ρ',K'⟩:=res
  cases e2
  obtain⟨m,c,led,r⟩:=r
  have hxl:xs.length=n:=by rw[hx.length,hlen]
  have inn:∀q∈led,(q.1∈W.pi∨q.1∈W.tups.map (·.1))↔q∈led.filter (fun q=>decide (q.1∈W.pi∨q.1∈W.tups.map (·.1))):=fun q hq=>⟨fun h=>List.mem_filter.mpr ⟨hq,by simpa using h⟩,fun h=>by simpa using (List.mem_filter.mp h).2⟩
  have isub:∀q∈led.filter (fun q=>decide (q.1∈W.pi∨q.1∈W.tups.map (·.1))),q∈led:=fun q hq=>(List.mem_filter.mp hq).1
  generalize hlent:led.filter (fun q=>decide (q.1∈W.pi∨q.1∈W.tups.map (·.1)))=lent at inn isub
  have notin:∀q∈led,q.1∉W.pi→(∀t∈W.tups,q.1≠t.1)→q.1∉lent.map (·.1):=fun q hq h1 h2 h3=>by
   obtain⟨t,ht,e⟩:=Zz11.mp h3
   rcases(inn t (isub t ht)).mpr ht with z | z
   ·exact h1 (e▸z)
   ·obtain⟨u,hu,e'⟩:=Zz11.mp z
    exact h2 u hu (e▸e'.symm)
  rw[eA]
  refine wpAny_call ?_
  refine Zyr (env:=envX cn cs Γ.L a ccd cl) (lent:=lent) B r.F X (fun q hq=>r.N q (isub q hq)) T rfl rfl hke ho hcd (by show dp<recursionLimit;omega) (hbind s xs hxl) ?_ hone ?_ hco hgen hk
  ·refine List.all_eq_true.mpr fun y hy=>?_
   rcases hkinds y.1 (List.of_mem_zip hy).1 with h | h <;> simp[h]
  intro g0 L' h₁ tk cells stay F' N' Y ap ab B' X' T' old szL
  have hu':(un+3)+200<cLine:=by omega
  have clr':Clr K p loose mean mg mb (Zbp (dp+1) (un+3) gd qual scope L' f cdv (cellsFrom (L'+1) scope.names []) (envX cn cs Γ.L a ccd cl::outer) g0 hu' names) (dp+1) (un+3):=
   ⟨gd,qual,scope,f,cdv,cellsFrom (L'+1) scope.names [],envX cn cs Γ.L a ccd cl::outer,_,base,rfl,B',X',T',hk⟩
  have below:∀q∈cells,L'<q.1:=fun q hq=>by
   obtain⟨x,hx⟩:=ZqQ Y hq
   exact ab x _ hx
  have piLt:∀b∈W.pi,b<L':=fun b hb=>by
   obtain⟨o,ho⟩:=r.piIn b hb
   exact Nat.lt_of_lt_of_le (Heap.lt_size (r.get ho)) szL
  have tuLt:∀t∈W.tups,t.1<L':=fun t ht=>Nat.lt_of_lt_of_le (Heap.lt_size (r.get (r.R.tups t ht))) szL
  have scN:W.sc.1∉lent.map (·.1):=fun z=>by
   obtain⟨t,ht,e⟩:=Zz11.mp z
   exact r.notSc t (isub t ht) e
  have tkn:∀{i:Nat} {x:Str} {u:V},names[i]?=some x→as[i]?=some u→(names.take n)[i]?=some x∧∃y,xs[i]?=some y∧VR W u y:=fun {i x u} h1 h2=>by
   have hi:i<n:=by rw[←hlen];exact(Zz6.mp h2).1
   exact⟨by rw[List.getElem?_take_of_lt hi];exact h1,hx.at h2⟩
  have ndt:(names.take n).Nodup:=nd.sublist (List.take_sublist _ _)
  have rep:Rep (Zbp (dp+1) (un+3) gd qual scope L' f cdv (cellsFrom (L'+1) scope.names []) (envX cn cs Γ.L a ccd cl::outer) g0 hu' names) W (fun i=>as[i]?) H [] h₁:=by
   refine⟨_,cells,cells++lent,⟨F',N',⟨r.R.len,r.R.nd,fun i vs e=>?_,fun q hq=>?_,r.R.kind⟩,stay _ _ (r.F.keep _ _ r.sc) scN,r.sc0,fun q hq=>(nomatch hq),fun q hq=>(nomatch hq),fun q hq=>List.mem_append_left _ hq,fun q hq z=>?_,fun q _ t ht=>(nomatch ht),fun q hq=>(nomatch hq),fun q hq t ht=>?_,⟨fun i x u hi hk1 hu1=>?_,fun i x u hi hk1 hu1=>?_,fun x c1 hc=>?_,fun x y c1 h1 h2=>?_⟩⟩⟩
   ·obtain⟨l,b,ys,k,h1,h2,h3⟩:=r.R.lists i vs e
    exact⟨l,b,ys,k,h1,Zd8 h2 fun z=>List.mem_append_right _ ((inn _ z).mp (.inl (List.mem_of_getElem? h1))),h3⟩
   ·exact Zd8 (r.R.tups q hq) fun z=>List.mem_append_right _ ((inn _ z).mp (.inr (List.mem_map_of_mem hq)))
   ·exact absurd (Nat.lt_trans (piLt _ z) (below q hq)) (Nat.lt_irrefl _)
   ·exact Nat.ne_of_gt (Nat.lt_trans (tuLt t ht) (below q hq))
   ·obtain⟨h1,y,h2,h3⟩:=tkn hi hu1
    exact⟨y,Zu5 ndt h1 h2 hk1,h3⟩
   ·obtain⟨h1,y,h2,h3⟩:=tkn hi hu1
    have hs:=cellsFrom_some scope.names (L'+1) [] (.inl hk1)
    obtain⟨c1,hc1⟩:=Option.isSome_iff_exists.mp hs
    obtain⟨o1,ho1,hd1⟩:=Zh0 Y (Zdu hc1)
    refine⟨c1,o1,y,hc1,ho1,?_,h3⟩
    rw[hd1,Zu6 ndt h1 h2 hk1]
   ·obtain⟨o1,ho1,hd1⟩:=Zh0 Y (Zdu hc)
    exact⟨o1,_,ho1,hd1⟩
   ·exact name_of_addr ap (Zdu h1) (Zdu h2)
  have hb:=hbody (dp+1) (un+3) gd L' (envX cn cs Γ.L a ccd cl::outer) g0 hu' clr' (by omega) (by omega)
  have back:∀(W':Wd) (h':Heap) (tk':Nat) (x:Value),W.Le W'→Rep (Zbp (dp+1) (un+3) gd qual scope L' f cdv (cellsFrom (L'+1) scope.names []) (envX cn cs Γ.L a ccd cl::outer) g0 hu' names) W' ρ' K' [] h'→VR W' (o.getD .none) x →
    LeaveK Γ.h₀ Γ.L m g0 (fun r s'=>match r with | .ok (.ret v)=>Q v s' | .ok _=>False | .error e=>E e s') x { s with heap:=h',toks:=tk' }:=by
   intro W' h' tk' x l' r' x'
   obtain⟨m',c',led',r'⟩:=r'
   refine⟨L',m',led',r'.F,r'.N,fun FG NG=>post W' h' tk' x l' ?_ x'⟩
   have g0at:∀q∈led,q.1∉lent.map (·.1)→g0.get? q.1=some q.2:=fun q hq hn=>stay _ _ (r.N q hq).1 hn
   have frN:∀q∈fr,q.1∉lent.map (·.1):=fun q hq=>notin q (r.frIn q hq) (r.frOff q hq) (r.frTup q hq)
   have clN:∀q∈c,q.1∉lent.map (·.1):=fun q hq=>notin q (r.clIn q hq) (r.clOff q hq) (r.clTup q hq)
   have newN:∀t∈led',g0.get? t.1=none:=fun t ht=>(r'.N t ht).2.2
   have far:∀q∈led,q.1∉lent.map (·.1)→∀t∈W'.sc::led',q.1≠t.1:=fun q hq hn t ht e=>by
    rcases Zz7.mp ht with e2 | ht
    ·rw[e2,l'.sc]at e
     exact r.notSc q hq e
    ·have:=g0at q hq hn
     rw[e,newN t ht]at this
     cases this
   have farPi:∀q∈led,q.1∉lent.map (·.1)→q.1∉W'.pi:=fun q hq hn z=>by
    obtain⟨o2,h2⟩:=r'.piIn _ z
    exact far q hq hn _ h2 rfl
   have keep:∀q∈led,q.1∉lent.map (·.1)→q∈led'++led.filter (fun q=>decide (q.1∉lent.map (·.1))):=fun q hq hn=>List.mem_append_right _ (List.mem_filter.mpr ⟨hq,by simpa using hn⟩)
   refine⟨m,c,led'++led.filter (fun q=>decide (q.1∉lent.map (·.1))),⟨FG,fun q hq=>?_,r'.R.mono fun q hq=>ZfI hq fun x hx=>List.mem_append_left _ hx,l'.sc▸r.sc,r'.sc0,fun q hq=>keep q (r.frIn q hq) (frN q hq),fun q hq=>farPi q (r.frIn q hq) (frN q hq),fun q hq=>keep q (r.clIn q hq) (clN q hq),fun q hq=>farPi q (r.clIn q hq) (clN q hq),r.apart,fun q hq t ht=>far q (r.frIn q hq) (frN q hq) t (r'.R.tups t ht),fun q hq t ht=>far q (r.clIn q hq) (clN q hq) t (r'.R.tups t ht),Γ.mono l' r.own⟩⟩
   rcases Zz8.mp hq with hq | hq
   ·exact NG q hq
   ·obtain⟨h1,h2⟩:=List.mem_filter.mp hq
    exact⟨r'.F.keep _ _ (g0at q h1 (by simpa using h2)),(r.N q h1).2⟩
  refine hb W _ H [] _ _ _ (o,ρ',K') rep e1 ?_
  cases o with
  | none=>exact fun W' h' tk' l' r'=>back W' h' tk' .none l' r' .none
  | some v0=>exact fun W' h' tk' x l' r' x'=>back W' h' tk' x l' r' x'
 ·cases hF
theorem ZwW{Γ:Cx}{dp un:Nat}{x:Str}{np pos:Pos}{f:Addr}{room:Nat}{e:Expr}{es:List Expr}{g:Exs}{o:List V→Hp→Option (V×Hp)}(clr:Clr K p loose mean mg mb Γ dp un)(hn:Nm prog w Γ x (.ref f))(hkeep:keepIn K (.ref f)=true)(D:Def prog w K p loose mean mg mb f room o)(hd:dp+room<recursionLimit)(hu:un+10*room+300<cLine)
  (h:Js prog w Γ (e::es) g) (he:starEach (e::es) Γ.env=(false,eval e Γ.env)::starEach es Γ.env:=by rfl) (hp:∀pos,(backTo pos (starEach es Γ.env)).any (·.1)=false:=by intro _;rfl):J prog w Γ (.Call (.Name x np) (e::es) [] pos) (ZH o g):=by
 intro W ρ H fr s Q E v H' r hf post
 obtain⟨q,e1,hf⟩:=Zz0.mp hf
 have X:K.In Γ.h₀:=by
  obtain⟨_,_,_,_,_,_,_,_,_,_,_,X,_⟩:=clr
  exact X
 refine wpAny_Call_ofName (hn.use r ?_)
 refine callWith_K (first:=[]) X hkeep (h pos W ρ H fr s _ E _ _ r e1 fun W1 k1 t1 xs l1 r1 x1=>⟨?_,?_⟩) he (hp pos)
 ·obtain⟨m,c,led,r1⟩:=r1
  exact X.keeps r1.F.keep
 ·exact D Γ dp un clr hd hu W1 ρ _ fr _ Q E _ xs v H' r1 x1 hf fun W2 k2 t2 y l2 r2 y2=>post W2 k2 t2 y (l1.trans l2) r2 y2
theorem Zbd{Γ:Cx}{dp un:Nat}{scope:Scope}{cl:List (Str×Addr)}{C:Addr}{ts:List (Str×Nat)}{ρ0:Lc}(h:Clr K p loose mean mg mb Γ dp un): Clr K p loose mean mg mb (Za5 Γ scope cl C ts ρ0) dp un:=h
end
end PM
end
section
namespace PM
open PySem PySem.W PySem.Calls PyProof.Rows PyProof PySem.Spec
theorem ZkT{lo:Nat}: ∀(names:List (Str×NameKind)) (n:Nat) (acc:List (Str×Addr)),acc.Pairwise (fun x y=>x.2≠y.2)→(∀q∈acc,lo<q.2∧q.2<n)→lo<n→(cellsFrom n names acc).Pairwise (fun x y=>x.2≠y.2)∧∀q∈cellsFrom n names acc,lo<q.2
 | [],n,acc,h1,h2,_=>⟨h1,fun q hq=>(h2 q hq).1⟩
 | (y,k)::r,n,acc,h1,h2,h3=>by
  unfold cellsFrom
  by_cases hk:(k == .cell)=true
  ·rw[if_pos hk]
   refine ZkT r (n+1) ((y,n)::acc) (List.pairwise_cons.mpr ⟨fun q hq=>Nat.ne_of_gt (h2 q hq).2,h1⟩) (fun q hq=>?_) (Nat.lt_succ_of_lt h3)
   rcases Zz7.mp hq with e | hq
   ·rw[e]
    exact⟨h3,Nat.lt_succ_self n⟩
   ·exact⟨(h2 q hq).1,Nat.lt_succ_of_lt (h2 q hq).2⟩
  ·rw[if_neg hk]
   exact ZkT r n acc h1 h2 h3
theorem Zu7{P:Params}{h:Heap}{a:Addr}{ns:List Int}(w1:Well P h (.ref a) (ofPy (.list (ns.map PyData.int))))(W:Wd): ∃vs,h.get? a=some (Zbg vs 0)∧VRs W (ns.map V.int) vs:=by
 have key:∀{ns:List Int} {vs:List Value} {xs:List WData},xs=(ns.map PyData.int).map ofPy→WellAll P h vs xs→VRs W (ns.map V.int) vs:=by
  intro ns
  induction ns with
  | nil=>intro vs xs e h;subst e;cases h;exact .nil
  | cons n ns ih=>
   intro vs xs e h
   subst e
   cases h with
   | cons h1 h2=>
    cases h1 with
    | int i t=>exact .cons (.int _ _) (ih rfl h2)
 have e:ofPy (.list (ns.map PyData.int))=.list ((ns.map PyData.int).map ofPy):=by rw[ofPy,ofPys_eq]
 rw[e]at w1
 cases w1 with
 | list hg ha=>exact⟨_,hg,key rfl ha⟩
section
variable {prog:Program} {w:World} {K:Frag} {p:Program} {loose:List Str} {mean:ExcName→Option Value} {mg mb:Str→Option Value}
theorem ZwX{P:Params}{h₀:Heap}{s:Shared}{sa fa:Addr}{cd:Value}{ns:List Int}{qual pname:Str}{scope:Scope}{body:List Stmt}{names:List Str}{g:Sm}{cells:List (Addr×Obj)}{Q:Flow→Shared→Prop}{E:Value→Shared→Prop}{room:Nat}{H':Hp}
  (hbody:∀(dp un:Nat) (gd:Option (List Code)) (L a:Addr) (ccd:Value) (outer:List Env) (h₀:Heap) (hu:un+200<cLine),Clr K p loose mean mg mb (Zbp dp un gd qual scope L a ccd (cellsFrom (L+1) scope.names []) outer h₀ hu names) dp un→dp+room<recursionLimit→un+10*room+300<cLine →
   Ss prog w (Zbp dp un gd qual scope L a ccd (cellsFrom (L+1) scope.names []) outer h₀ hu names) body g)
  (hd:callerA.depth+1+room<recursionLimit) (hun:callerA.units+3+10*room+300<cLine) (hk:scope.kind=.function) (h0:names[0]?=some pname)
  (KX:K.In h₀) (T:Top p loose mean mg mb h₀) (w1:Well P h₀ (.ref sa) (ofPy (.list (ns.map PyData.int)))) (hlen:ns.length≤LEN)
  (F:Fr h₀ h₀.objs.size s.heap (bindL (envOfC qual scope h₀.objs.size fa cd).kindOf [(pname,.ref sa)] fun _=>none)) (N:News h₀ h₀.objs.size s.heap cells) (X0:CellsAre (bindC (envOfC qual scope h₀.objs.size fa cd).kindOf [(pname,.ref sa)] fun _=>none) (cellsFrom (h₀.objs.size+1) scope.names []) cells)
  (hg:ZJ 1 g [.ref 0] [ns.map V.int]=some (.bool true,H')) (post:∀h' tk' m',Fr h₀ h₀.objs.size h' m'→Q (.ret (.bool true)) { s with heap:=h',toks:=tk' }):
  wpAny (model prog w) (callerA.deeper (envOfC qual scope h₀.objs.size fa cd)) (execs body (envOfC qual scope h₀.objs.size fa cd)) Q E s:=by
 have hu':(callerA.units+3)+200<cLine:=by omega
 have clr:Clr K p loose mean mg mb (Zbp (callerA.depth+1) (callerA.units+3) callerA.guards qual scope h₀.objs.size fa cd (cellsFrom (h₀.objs.size+1) scope.names []) [] h₀ hu' names) (callerA.depth+1) (callerA.units+3):=
  ⟨callerA.guards,qual,scope,fa,cd,cellsFrom (h₀.objs.size+1) scope.names [],[],_,_,rfl,below_caller h₀,KX,T,hk⟩
 have hb:=hbody (callerA.depth+1) (callerA.units+3) callerA.guards h₀.objs.size fa cd [] h₀ hu' clr hd hun
 obtain⟨vs,hsc,hv⟩:=Zu7 w1 ⟨[sa],[],(sa,Zbg [] 0)⟩
 have hv':VRs ⟨[sa],[],(sa,Zbg vs 0)⟩ (ns.map V.int) vs:=by
  clear hg post w1 hlen hsc
  generalize ns.map V.int=us at hv
  have key:∀{us:List V} {xs:List Value},VRs ⟨[sa],[],(sa,Zbg [] 0)⟩ us xs→VRs ⟨[sa],[],(sa,Zbg vs 0)⟩ us xs:=by
   intro us
   induction us with
   | nil=>intro xs h;cases h;exact .nil
   | cons u us ih=>
    intro xs h
    cases h with
    | cons a b=>
     refine .cons ?_ (ih b)
     cases a with
     | none=>exact .none
     | bool b=>exact .bool b
     | int i t=>exact .int i t
     | str s t=>exact .str s t
     | tup hm _ _=>exact nomatch hm
     | ref e=>exact .ref e
  exact key hv
 have far:=ZkT (lo:=h₀.objs.size) scope.names (h₀.objs.size+1) [] .nil (fun q hq=>nomatch hq) (Nat.lt_succ_self _)
 unfold ZJ at hg
 rw[if_pos (show([V.ref 0]:List V).length=1 from rfl)]at hg
 obtain⟨res,e1,e2⟩:=Zz1.mp hg
 obtain⟨o,ρ',K'⟩:=res
 have eo:o=some (.bool true):=by
  cases o with
  | none=>simp at e2
  | some v=>simp at e2;rw[e2.1]
 subst eo
 have pick:∀{i:Nat} {x:Str} {u:V},names[i]?=some x→([V.ref 0]:List V)[i]?=some u→x=pname∧u=.ref 0:=fun {i x u} h1 h2=>by
  have hi:i<1:=(Zz6.mp h2).1
  have:i=0:=by omega
  subst this
  rw[h0]at h1
  simp at h1 h2
  exact⟨h1.symm,h2.symm⟩
 have rep:Rep (Zbp (callerA.depth+1) (callerA.units+3) callerA.guards qual scope h₀.objs.size fa cd (cellsFrom (h₀.objs.size+1) scope.names []) [] h₀ hu' names) ⟨[sa],[],(sa,Zbg vs 0)⟩ (fun i=>[V.ref 0][i]?) [ns.map V.int] [] s.heap:=by
  refine⟨_,cells,cells,⟨F,N,⟨rfl,by simp,fun i us e=>?_,fun q hq=>(nomatch hq),fun q hq=>(nomatch hq)⟩,hsc,rfl,fun q hq=>(nomatch hq),fun q hq=>(nomatch hq),fun q hq=>hq,fun q hq z=>?_,fun q _ t ht=>(nomatch ht),fun q hq=>(nomatch hq),fun q hq t ht=>(nomatch ht),⟨fun i x u hi hk1 hu1=>?_,fun i x u hi hk1 hu1=>?_,fun x c1 hc=>?_,fun x y c1 h1 h2=>?_⟩⟩⟩
  ·have hi:i<1:=(Zz6.mp e).1
   have:i=0:=by omega
   subst this
   simp at e
   subst e
   exact⟨by simpa using hlen,sa,vs,0,rfl,List.mem_cons_self,hv'⟩
  ·have:=(N q hq).2.2
   rw[List.mem_singleton.mp z,hsc]at this
   cases this
  ·obtain⟨e3,e4⟩:=pick hi hu1
   subst e3 e4
   refine⟨.ref sa,?_,.ref rfl⟩
   show bindL _ _ _ _=_
   unfold bindL bindL
   rw[if_pos (show(envOfC qual scope h₀.objs.size fa cd).kindOf x=some .local from hk1)]
   simp
  ·obtain⟨e3,e4⟩:=pick hi hu1
   subst e3 e4
   have hs:=cellsFrom_some scope.names (h₀.objs.size+1) [] (.inl hk1)
   obtain⟨c1,hc1⟩:=Option.isSome_iff_exists.mp hs
   obtain⟨o1,ho1,hd1⟩:=Zh0 X0 (Zdu hc1)
   refine⟨c1,o1,.ref sa,hc1,ho1,?_,.ref rfl⟩
   rw[hd1]
   unfold bindC bindC
   rw[if_neg (show ¬(envOfC qual scope h₀.objs.size fa cd).kindOf x=some .local by show ¬scope.names.lookup x=some .local;rw[hk1];simp)]
   simp
  ·obtain⟨o1,ho1,hd1⟩:=Zh0 X0 (Zdu hc)
   exact⟨o1,_,ho1,hd1⟩
  ·exact name_of_addr far.1 (Zdu h1) (Zdu h2)
 refine hb _ _ _ [] s Q E _ rep e1 ?_
 intro W' h' tk' x l' r' x'
 cases x' with
 | bool _=>
  obtain⟨m',c',led',r'⟩:=r'
  exact post h' tk' m' r'.F
end
end PM
end
section
namespace PM
open PySem PySem.W PySem.Calls PyProof.Rows PyProof PyProof.Rows.LCg PyProof.Rows.LSm
theorem Rep.listAt{Γ:Cx}{W:Wd}{ρ:Lc}{H:Hp}{fr:List (Addr×Obj)}{h h':Heap}{vs:List V}{xs:List Value}{k:Nat}(r:Rep Γ W ρ H fr h)(up:∀b o,h.get? b=some o→h'.get? b=some o)(hg:h'.get? h.objs.size=some (Zbg xs k))(hv:VRs W vs xs)(hl:vs.length≤LEN):
  ∃W',W.Le W'∧Rep Γ W' ρ (H++[vs]) fr h'∧VR W' (.ref H.length) (.ref h.objs.size):=by
 obtain⟨r2,ap⟩:=r.more (fs:=[(h.objs.size,Zbg xs k)]) up (fun q hq=>by rw[List.mem_singleton.mp hq];exact⟨hg,Nat.le_refl _⟩)
 exact Zfe r2 (fun t ht=>ap _ Zz5 t ht) hv hl
noncomputable def ZeI: List V→Hp→Option (V×Hp)
 | [.ref a],H=>H[a]?.map fun vs=>(.ref H.length,H++[vs])
 | [.tup vs],H=>some (.ref H.length,H++[vs])
 | _,_=>none
noncomputable def Zfp: List V→Hp→Option (V×Hp)
 | [.ref a],H=>H[a]?.map fun vs=>(.tup vs,H)
 | [.tup vs],H=>some (.tup vs,H)
 | _,_=>none
noncomputable def Zfq: List V→Option (List Bool)
 | []=>some []
 | .bool b::vs=>(Zfq vs).map fun bs=>b::bs
 | _::_=>none
noncomputable def ZAQ: List V→Hp→Option (V×Hp)
 | [.ref a],H=>H[a]?.bind fun vs=>(Zfq vs).map fun bs=>(.bool (bs.all id),H)
 | _,_=>none
noncomputable def Zkv: List V→Hp→Option (V×Hp)
 | [.ref a],H=>H[a]?.bind fun vs=>(Zfq vs).map fun bs=>(.bool (bs.any id),H)
 | _,_=>none
theorem ZtQ{W:Wd}: ∀{vs:List V} {xs:List Value} {bs:List Bool},VRs W vs xs→Zfq vs=some bs→BoolsAre xs bs:=by
 intro vs
 induction vs with
 | nil=>intro xs bs h e;cases h;cases e;exact .nil
 | cons v vs ih=>
  intro xs bs h e
  cases h with
  | cons a b=>
   cases v with
   | bool c=>
    obtain⟨cs,e1,e2⟩:=Zz1.mp e
    subst e2
    cases a
    exact .cons _ (ih b e1)
   | none=>cases e
   | int _=>cases e
   | str _=>cases e
   | tup _=>cases e
   | ref _=>cases e
section
variable {prog:Program} {w:World}
theorem Zmh: OpN prog w (fun xs=>call (.type "list") xs) ZeI:=by
 intro Γ W ρ H fr s Q E as xs v H' r hx ho post
 unfold ZeI at ho
 split at ho
 ·obtain⟨vs,e1,e2⟩:=Zz1.mp ho
  cases e2
  obtain⟨x,ex,rx⟩:=hx.one
  subst ex
  cases rx with
  | @ref _ a ea=>
   obtain⟨hl,ys,k,hg,hv⟩:=r.at e1 ea
   refine call_list_seq (hsz:=ZcV (by rw[List.size_toArray,hv.length];exact hl)) a (.inl rfl) hg rfl rfl fun h' c' up hg'=>?_
   obtain⟨W2,l2,r2,v2⟩:=r.listAt up hg' hv hl
   exact post W2 h' s.toks _ l2 r2 v2
 ·cases ho
  obtain⟨x,ex,rx⟩:=hx.one
  subst ex
  cases rx with
  | @tup _ a ys k hm hl hv=>
   refine call_list_seq (hsz:=ZcV (by rw[List.size_toArray,hv.length];exact hl)) a (.inr rfl) (r.tupAt hm) rfl rfl fun h' c' up hg'=>?_
   obtain⟨W2,l2,r2,v2⟩:=r.listAt up hg' hv hl
   exact post W2 h' s.toks _ l2 r2 v2
 ·cases ho
theorem Zu8: OpN prog w (fun xs=>call (.type "tuple") xs) Zfp:=by
 intro Γ W ρ H fr s Q E as xs v H' r hx ho post
 unfold Zfp at ho
 split at ho
 ·obtain⟨vs,e1,e2⟩:=Zz1.mp ho
  cases e2
  obtain⟨x,ex,rx⟩:=hx.one
  subst ex
  cases rx with
  | @ref _ a ea=>
   obtain⟨hl,ys,k,hg,hv⟩:=r.at e1 ea
   have isl:s.heap.IsList a ys.toArray:=⟨_,hg,rfl,k,rfl⟩
   refine call_tuple_list isl (fun h' up=>?_) (ZcV (by rw[List.size_toArray,hv.length];exact hl))
   obtain⟨W2,l2,r2,v2⟩:=(r.grown up).tuple (k:=0) hv hl
   exact post W2 _ s.toks _ l2 r2 v2
 ·cases ho
  obtain⟨x,ex,rx⟩:=hx.one
  subst ex
  cases rx with
  | @tup _ a ys k hm hl hv=>
   have it:IsTup s.heap a ys.toArray:=⟨_,r.tupAt hm,rfl,k,rfl⟩
   exact call_tuple_tup it (post W s.heap s.toks _ (.refl W) r (.tup hm hl hv))
 ·cases ho
theorem Zys: OpN prog w (fun xs=>call (.builtin "any") xs) Zkv:=by
 intro Γ W ρ H fr s Q E as xs v H' r hx ho post
 unfold Zkv at ho
 split at ho
 ·obtain⟨vs,e1,e2⟩:=Zz0.mp ho
  obtain⟨bs,e3,e4⟩:=Zz1.mp e2
  cases e4
  obtain⟨x,ex,rx⟩:=hx.one
  subst ex
  cases rx with
  | @ref _ a ea=>
   obtain⟨hl,ys,k,hg,hv⟩:=r.at e1 ea
   have isl:s.heap.IsList a ys.toArray:=⟨_,hg,rfl,k,rfl⟩
   obtain⟨m,c,led,r'⟩:=r
   exact any_bools r'.F r'.N Γ.hh isl (ZtQ hv e3) fun h' tk F' N'=>post W h' tk _ (.refl W) (r'.same F' N') (.bool _)
 ·cases ho
end
section
variable {prog:Program} {w:World} {K:Frag} {p:Program} {loose:List Str} {mean:ExcName→Option Value} {mg mb:Str→Option Value} {Γ:Cx} {dp un:Nat}
theorem Zyt{x:Str}{v:Value}(clr:Clr K p loose mean mg mb Γ dp un)(e:nsIn K mainGlobals x=some (some v))(hg:Γ.env.globals=mainGlobals)(hk:Γ.env.scope.kind=.function)(hx:Γ.env.kindOf x=some .globalImplicit)(hd:(x == ("__debug__":Str))=false): Nm prog w Γ x v:=by
 obtain⟨_,_,_,_,_,_,_,_,_,_,_,X,T,_⟩:=clr
 intro pos m s Q E F q
 exact Name_function_global hk hx (loadGlobal_global (env:=Γ.env) (by rw[hg];exact T.g.keeps F.keep) (mg_of X T.g e) q) hd
theorem ZvR{x:Str}{v:Value}(clr:Clr K p loose mean mg mb Γ dp un)(e:nsIn K mainGlobals x=some none)(hv:bootBuiltins x=some v)(hn:x≠"__name__")(hg:Γ.env.globals=mainGlobals)(hb:Γ.env.builtins=builtinsNs)(hk:Γ.env.scope.kind=.function)(hx:Γ.env.kindOf x=some .globalImplicit)(hd:(x == ("__debug__":Str))=false): Nm prog w Γ x v:=by
 obtain⟨_,_,_,_,_,_,_,_,_,_,_,X,T,_⟩:=clr
 intro pos m s Q E F q
 exact Name_function_global hk hx (loadGlobal_builtin (env:=Γ.env) (by rw[hg];exact T.g.keeps F.keep) (mg_none_of X T.g e) (by rw[hb];exact T.b.keeps F.keep) ((T.builtins x hn).trans hv) q) hd
end
section
variable {prog:Program} {w:World} {Γ:Cx} {scope:Scope} {cl:List (Str×Addr)} {C:Addr} {ts:List (Str×Nat)} {ρ0:Lc}
theorem ZwY{x:Str}{t:Nat}(hm:(x,t)∈ts)(hk:scope.kind=.function)(hl:(compEnvC scope cl C Γ.env).kindOf x=some .local)(hd:(x == ("__debug__":Str))=false): Rd prog w (Za5 Γ scope cl C ts ρ0) x t:=by
 intro W ρ H fr s Q E v pos r e q
 obtain⟨m,c,led,r⟩:=r
 obtain⟨oC,m₂,cs,ec,h0,h1,h2,h3,h4⟩:=r.own
 obtain⟨v',y,e1,e2,e3⟩:=h2 _ hm
 rw[e]at e1
 cases e1
 exact LCgL.ld_own r.N (r.clIn _ (by rw[ec];exact Zz5)) h1 e2 (q y e3) hk hl hd
end
section
variable {prog:Program} {w:World} {dp un:Nat} {gd:Option (List Code)} {cn:Str} {cs:Scope} {L a:Addr} {ccd:Value} {clf:List (Str×Addr)} {outer:List Env} {h₀:Heap} {hu:un+200<cLine} {names:List Str} {scope:Scope} {cl:List (Str×Addr)} {C:Addr} {ts:List (Str×Nat)} {ρ0:Lc}
theorem ZwZ{x:Str}{i:Nat}(hi:names[i]?=some x)(hx:cs.names.lookup x=some .cell)(hne:∀p∈ts,p.2≠i)(hcl:cl.lookup x=clf.lookup x)(hk:scope.kind=.function)(hl:(compEnvC scope cl C (envX cn cs L a ccd clf)).kindOf x=some .cell)(hd:(x == ("__debug__":Str))=false):
  Rd prog w (Za5 (Zbp dp un gd cn cs L a ccd clf outer h₀ hu names) scope cl C ts ρ0) x i:=by
 intro W ρ H fr s Q E v pos r e q
 obtain⟨m,c,led,r⟩:=r
 obtain⟨oC,m₂,cs',ec,h0,h1,h2,h3,h4⟩:=r.own
 rw[h3 i hne]at e
 obtain⟨d,o,y,g1,g2,g3,g4⟩:=h4.cel i x v hi hx e
 exact kcf_cell r.N (hcl.trans g1) (r.clIn _ (by rw[ec];exact Zz2 _ g2)) g3 (q y g4) hk hl hd
end
end PM
end
section
namespace My
open PySem PySem.W PySem.Calls PyProof.Rows PySem.Spec
structure Cell(v:Int): Prop where
 bits:Builtin.Int.intBits v≤2 ^ 20
theorem bits_zero: Builtin.Int.intBits 0≤2 ^ 20:=by unfold Builtin.Int.intBits;simp
theorem cell_at{ns:List Int}(h:PyData.layable0 (.list (ns.map .int))=true)(i:Int): Cell (cellAt ns i 0):=by
 refine⟨?_⟩
 rw[cellAt_def,List.getD_eq_getElem?_getD]
 cases e:ns[i.toNat]? with
 | none=>exact bits_zero
 | some v=>exact PyData.bits_item_of_ints h (List.mem_of_getElem? e)
section
variable {prog:Program} {w:World} {A:Around} {E:Value→Shared→Prop} {s:Shared} {x y:Int} {t u:Tok} {Q:Value→Shared→Prop}
@[irreducible] noncomputable def wide(v:Int): Int:=Int.fdiv v 5*48271 ^ Int.toNat 14
@[irreducible] noncomputable def T9: Int:=10 ^ 9
theorem T9_eq: T9=1000000000:=by unfold T9;decide +kernel
end
end My
end
section
/-! Reckoning with the plain machine. -/
namespace PM
open PySem PySem.W PyProof.Rows
section
variable (ρ:Lc) (H:Hp)
@[simp] theorem ZvS: ZdD ρ H=some (none,H):=rfl
@[simp] theorem ZvT(f:Ex): ZcB f ρ H=(f ρ H).map fun p=>(some p.1,p.2):=rfl
end
section
variable (a b:Int) (H:Hp)
end
def Ext(H H':Hp): Prop:=∃X,H'=H++X
theorem Ext.trans{H H' H'':Hp}(a:Ext H H')(b:Ext H' H''): Ext H H'':=by
 obtain⟨X,rfl⟩:=a
 obtain⟨Y,rfl⟩:=b
 exact⟨X++Y,by simp⟩
theorem Ext.at{H H':Hp}(h:Ext H H'){i:Nat}{vs:List V}(e:H[i]?=some vs): H'[i]?=some vs:=by
 obtain⟨X,rfl⟩:=h
 rw[List.getElem?_append_left (Zz6.mp e).1]
 exact e
theorem Ext.one(H:Hp)(vs:List V): Ext H (H++[vs]):=⟨[vs],rfl⟩
theorem Zsd{b:Int}(hb:0≤b): Builtin.Range.rangeSize 0 b 1=b:=by
 unfold Builtin.Range.rangeSize
 rw[if_pos (by decide)]
 by_cases h:(0:Int)<b
 ·rw[if_pos h]
  omega
 ·rw[if_neg h]
  omega
theorem Zyu{b:Int}{H:Hp}(hb:0≤b)(hb9:b≤1000): Zb4 0 b 1 H=some (Zey 0 1 b.toNat,b.toNat+1,H):=by
 unfold Zb4 rngN
 rw[Zsd hb,if_pos]
 refine⟨by decide,?_,hb,by rw[ZaO];omega,?_⟩
 ·unfold Builtin.Range.small
  rw[Zsd hb]
  simp only[Builtin.Range.rangeFitsLong,Bool.and_eq_true,Bool.or_eq_true,decide_eq_true_eq,beq_iff_eq]
  rw[if_pos (by decide)]
  simp only[Bool.and_eq_true,decide_eq_true_eq]
  by_cases h:(0:Int)<b
  ·refine⟨⟨⟨⟨?_,?_⟩,?_⟩,?_⟩,Or.inr ?_⟩ <;> omega
  ·refine⟨⟨⟨⟨?_,?_⟩,?_⟩,?_⟩,?_⟩ <;> first | omega | (left;omega)
 ·exact PyProof.noPylong_small (by omega)
end PM
end
section
namespace PM
open PySem PySem.W PyProof.Rows My
theorem Zp9{a b:Int}(h:IntMulOk a b): mulOk a b=true:=by
 unfold IntMulOk at h
 unfold mulOk
 cases e:(decide (Builtin.Int.intBits a>shortFactorBits) && decide (Builtin.Int.intBits b>shortFactorBits) && Builtin.Int.intTooBig (Builtin.Int.intBits a+Builtin.Int.intBits b))with
 | true=>exact absurd e h
 | false=>rfl
theorem ZnC{a b:Int}{H:Hp}(h:0≤b∧(Builtin.Int.intBits a:Int)*b≤2 ^ 27): oPow (.int a) (.int b) H=some (.int (a ^ b.toNat),H):=by simp only[oPow];rw[if_pos h]
theorem ZzM(H:Hp): oPow (.int 10) (.int 9) H=some (.int T9,H):=by rw[ZnC (by decide +kernel)];unfold T9;rfl
end PM
end
section
namespace PM
open PySem PySem.W PyProof.Rows My
section
variable {ρ ρ1 ρ2:Lc} {H H1 H2 H3:Hp}
theorem Zyv{k:Int}: Zz k ρ H=some (.int k,H):=rfl
theorem Zw0{f g:Ex}{a:Nat}{k:Int}{n:Nat}{vs:List V}(h1:f ρ H=some (.ref a,H1))(h2:g ρ H1=some (.int k,H2))(e:H2[a]?=some vs)(hk:k=(n:Int)): Zcl f (ZcB g) ZdD ρ H=some (.ref H2.length,H2++[vs.drop n]):=by
 simp only[Zcl,h1,Option.bind_some,ZvT,h2,Option.map_some,ZvS,Zik,e]
 rw[ZpG vs hk]
end
end PM
end
section
/-! Forward reckoning: what comes, told by a claim. -/
namespace PM
open PySem PySem.W PyProof.Rows My
def Ok(c:Option (V×Hp))(Q:V→Hp→Prop): Prop:=∃v H,c=some (v,H)∧Q v H
def Okl(c:Option (List V×Hp))(Q:List V→Hp→Prop): Prop:=∃v H,c=some (v,H)∧Q v H
def Okt(c:Option (Bool×Hp))(Q:Bool→Hp→Prop): Prop:=∃v H,c=some (v,H)∧Q v H
def Oks(c:Option (Option V×Lc×Hp))(R:V→Hp→Prop)(N:Lc→Hp→Prop): Prop:=∃o ρ H,c=some (o,ρ,H)∧(∀v,o=some v→R v H)∧(o=none→N ρ H)
def Rg(xs:List V)(H:Hp)(G:Nx→Nat→Hp→Prop): Prop:=∃n:Nat,xs=[.int n]∧n≤1000∧G (Zey 0 1 n) (n+1) H
theorem Ok.mono{c:Option (V×Hp)}{Q Q':V→Hp→Prop}(h:Ok c Q)(k:∀v H,Q v H→Q' v H): Ok c Q':=by
 obtain⟨v,H,a,b⟩:=h;exact⟨v,H,a,k v H b⟩
theorem Okl.mono{c:Option (List V×Hp)}{Q Q':List V→Hp→Prop}(h:Okl c Q)(k:∀v H,Q v H→Q' v H): Okl c Q':=by
 obtain⟨v,H,a,b⟩:=h;exact⟨v,H,a,k v H b⟩
theorem Okt.mono{c:Option (Bool×Hp)}{Q Q':Bool→Hp→Prop}(h:Okt c Q)(k:∀v H,Q v H→Q' v H): Okt c Q':=by
 obtain⟨v,H,a,b⟩:=h;exact⟨v,H,a,k v H b⟩
theorem Oks.mono{c:Option (Option V×Lc×Hp)}{R R':V→Hp→Prop}{N N':Lc→Hp→Prop}(h:Oks c R N)(k:∀v H,R v H→R' v H)(l:∀ρ H,N ρ H→N' ρ H): Oks c R' N':=by
 obtain⟨o,ρ,H,a,b,d⟩:=h;exact⟨o,ρ,H,a,fun v e=>k v H (b v e),fun e=>l ρ H (d e)⟩
section
variable {ρ:Lc} {H:Hp} {Q:V→Hp→Prop} {L:List V→Hp→Prop} {T:Bool→Hp→Prop} {R:V→Hp→Prop} {N:Lc→Hp→Prop}
variable {a b:Int}
theorem ZrE{i:Nat}{X:Hp}{vs:List V}(e:H[i]?=some vs): (H++X)[i]?=some vs:=Ext.at ⟨X,rfl⟩ e
end
end PM
end
section
namespace PM
open PySem PySem.W PyProof.Rows PyProof
noncomputable def Zim(f:Ex)(k:Nat): Ex:=fun ρ H=>(f ρ H).bind fun p=>match p.1 with
 | .ref i=>p.2[i]?.bind fun vs=>some (.ref p.2.length,p.2++[vs.drop k])
 | .tup vs=>if 1≤k∧k≤vs.length then some (.tup (vs.drop k),p.2)else none
 | _=>none
section
variable {prog:Program} {w:World} {Γ:Cx}
theorem ZjY{e lo:Expr}{p pos:Pos}{f:Ex}{k:Nat}(h:J prog w Γ e f)(hlo:J prog w Γ lo (Zz k))(ht:∀o r,letTemporaryGo e o r=pure ():=by intro _ _;rfl): J prog w Γ (.Subscript e (.Slice (Option.some lo) Option.none Option.none p) pos) (Zim f k):=by
 intro W ρ H fr s Q E v H' r hf post
 obtain⟨⟨v1,H1⟩,e1,hf⟩:=Zz0.mp hf
 cases v1 with
 | none=>cases hf
 | bool _=>cases hf
 | int _=>cases hf
 | str _=>cases hf
 | ref i=>
  obtain⟨vs,e2,e3⟩:=Zz0.mp hf
  refine Zew h (JP.some hlo) JP.none ht W ρ H fr s Q E v H' r ?_ post
  rw[Zw0 (n:=k) e1 Zyv e2 rfl]
  exact e3
 | tup vs=>
  simp only at hf
  by_cases c:1≤k∧k≤vs.length
  ·rw[if_pos c]at hf
   cases hf
   refine wpAny_Subscript_Slice (T:="tuple") slot_tuple_getitem.lookup (h W ρ H fr s _ E _ _ r e1 fun W1 k1 t1 x l1 r1 x1=>?_) ht
   refine wpAny_Slice ?_
   refine wpAny_evalPart_some (hlo W1 ρ _ fr _ _ E _ _ r1 rfl fun W2 k2 t2 y l2 r2 y2=>?_)
   refine wpAny_evalPart_none ?_
   refine wpAny_evalPart_none ?_
   cases y2 with
   | int _ u=>
    have x2:=x1.mono l2
    cases x2 with
    | @tup _ a ys kk hm hl hs=>
     have it:IsTup k2 a ys.toArray:=⟨_,r2.tupAt hm,rfl,kk,rfl⟩
     have it':IsTup (k2.push { cls:=.type "slice",data:=.fields #[.int k u,.none,.none] }) a ys.toArray:=it.keeps fun _ _ e=>Heap.get?_push_of_some _ e
     have hlen:=hs.length
     rw[ZaO]at hl
     refine⟨it'.typeIs,getItem_tuple_from it' (Heap.IsSliceOf.new ..) c.1 (by simp[hlen];exact c.2) ?_ (ZcV (by simp[hlen];rw[ZaO];exact hl))⟩
     obtain⟨W4,l4,r4,v4⟩:=(r2.push { cls:=.type "slice",data:=.fields #[.int k u,.none,.none] }).tuple (k:=0) (hs.drop k) (by rw[ZaO];simp;omega)
     have:=post W4 _ t2 _ ((l1.trans l2).trans l4) r4 v4
     simpa using this
  ·rw[if_neg c]at hf
   cases hf
end
section
variable {ρ:Lc} {H:Hp} {Q:V→Hp→Prop}
theorem Zse{a b c:Int}(hc:0<c)(hb:a<b): Builtin.Range.rangeSize a b c=(b-a-1) / c+1:=by
 unfold Builtin.Range.rangeSize
 rw[if_pos hc,if_pos hb]
theorem Zyw{a b c:Int}{H:Hp}(ha:0≤a)(hb:a<b)(hb9:b≤1000)(hc:0<c)(hc9:c≤1000): Zb4 a b c H=some (Zey a c (rngN a b c),rngN a b c+1,H):=by
 have e:=Zse hc hb
 have h0:0≤(b-a-1) / c:=Int.ediv_nonneg (by omega) (by omega)
 have h2:(b-a-1) / c≤b-a-1:=Int.ediv_le_self _ (by omega)
 unfold Zb4
 rw[if_pos]
 refine⟨by omega,?_,by omega,by unfold rngN;rw[ZaO];omega,PyProof.noPylong_small (by omega)⟩
 unfold Builtin.Range.small
 rw[e]
 simp only[Builtin.Range.rangeFitsLong,Bool.and_eq_true,Bool.or_eq_true,decide_eq_true_eq,beq_iff_eq]
 rw[if_pos hc]
 simp only[Bool.and_eq_true,decide_eq_true_eq]
 refine⟨⟨⟨⟨?_,?_⟩,?_⟩,?_⟩,?_⟩ <;> first | omega | (left;omega) | (right;omega)
end
end PM
end
section
namespace PM
open PySem PySem.W PyProof.Rows PyProof My
section
variable {ρ:Lc} {H:Hp} {Q:V→Hp→Prop} {L:List V→Hp→Prop}
end
noncomputable def oi: Option Int→V
 | none=>.none
 | some k=>.int k
def Grid(H:Hp)(p:Nat)(as:List Nat)(B:List (List (Option Int))): Prop:=H[p]?=some (as.map V.ref)∧as.length=B.length∧∀(i a:Nat) (row:List (Option Int)),as[i]?=some a→B[i]?=some row→H[a]?=some (row.map oi)
theorem ZAL{H X:Hp}{p:Nat}{as:List Nat}{B:List (List (Option Int))}(g:Grid H p as B): Grid (H++X) p as B:=⟨ZrE g.1,g.2.1,fun i a row h1 h2=>ZrE (g.2.2 i a row h1 h2)⟩
noncomputable def od: Option Int→PyData
 | none=>.none
 | some k=>.int k
theorem ZoO{a:Int}{k:Nat}(h:Builtin.Int.intBits a≤k): a.natAbs<2 ^ k:=by
 unfold Builtin.Int.intBits at h
 by_cases z:a=0
 ·subst z
  exact Nat.two_pow_pos k
 ·rw[if_neg (by simpa using z)]at h
  exact Nat.lt_of_lt_of_le Nat.lt_log2_self (Nat.pow_le_pow_right (by decide) h)
theorem ZvU{a b:Int}{k:Nat}(ha:Builtin.Int.intBits a≤k)(hb:Builtin.Int.intBits b≤k): Builtin.Int.intBits (a+b)≤k+1:=by
 refine PyProof.Rows.intBits_le ?_
 have h1:=ZoO ha
 have h2:=ZoO hb
 rw[Nat.pow_succ]
 omega
theorem Zqa{a b:Int}(ha:Builtin.Int.intBits a≤2 ^ 21)(hb:Builtin.Int.intBits b≤2 ^ 21): mulOk a b=true:=by
 have e:(2:Nat) ^ 21=2097152:=by decide
 have h:Builtin.Int.intTooBig (Builtin.Int.intBits a+Builtin.Int.intBits b)=false:=by
  unfold Builtin.Int.intTooBig bitsLine
  exact decide_eq_false (by omega)
 unfold mulOk
 rw[h]
 simp
theorem Zu9{a b:Int}(h1:-(2 ^ 64)<b)(h2:b<2 ^ 64): mulOk a b=true:=Zp9 (IntMulOk.of_right (intBits_le_64 h1 h2))
theorem Zui{a b:Int}(h1:-(2 ^ 64)<a)(h2:a<2 ^ 64): mulOk a b=true:=Zp9 (IntMulOk.of_left (intBits_le_64 h1 h2))
@[irreducible] noncomputable def M9: Int:=48271 ^ Int.toNat 9
@[irreducible] noncomputable def T40: Int:=10 ^ Int.toNat 40
theorem Zyx(H:Hp): oPow (.int 48271) (.int 9) H=some (.int M9,H):=by rw[ZnC (by decide +kernel)];unfold M9;rfl
theorem Zyy(H:Hp): oPow (.int 10) (.int 40) H=some (.int T40,H):=by rw[ZnC (by decide +kernel)];unfold T40;rfl
theorem ZjZ: T40=10000000000000000000000000000000000000000:=by unfold T40;decide +kernel
theorem Zw1: Builtin.Int.intBits M9≤2 ^ 21:=by
 unfold M9
 exact Nat.le_trans (PyProof.Rows.intBits_le (k:=256) (by decide +kernel)) (by decide)
section
variable {H:Hp} {Q:V→Hp→Prop} {a b:Int}
end
end PM
end
section
/-! The tree machine: values without places; lists that nobody else holds may be changed. -/
namespace TM
open PySem PM
inductive T where
 | none
 | bool (b:Bool)
 | int (i:Int)
 | str (s:Str)
 | tup (ts:List T)
 | lst (ts:List T)
mutual
inductive RF(H:Hp): V→T→List Nat→Prop where
 | none:RF H .none .none []
 | bool (b:Bool):RF H (.bool b) (.bool b) []
 | int (i:Int):RF H (.int i) (.int i) []
 | str (s:Str):RF H (.str s) (.str s) []
 | tup {vs:List V} {ts:List T} {F:List Nat}:RFs H vs ts F→RF H (.tup vs) (.tup ts) F
 | ref {a:Nat} {vs:List V} {ts:List T} {F:List Nat}:H[a]?=some vs→RFs H vs ts F→RF H (.ref a) (.lst ts) (a::F)
inductive RFs(H:Hp): List V→List T→List Nat→Prop where
 | nil:RFs H [] [] []
 | cons {v:V} {t:T} {F:List Nat} {vs:List V} {ts:List T} {G:List Nat}:RF H v t F→RFs H vs ts G→RFs H (v::vs) (t::ts) (F++G)
end
mutual
theorem RF.frame{H H':Hp}{v:V}{t:T}{F:List Nat}(r:RF H v t F)(h:∀a∈F,H'[a]?=H[a]?): RF H' v t F:=by
 cases r with
 | none=>exact .none
 | bool b=>exact .bool b
 | int i=>exact .int i
 | str s=>exact .str s
 | tup hs=>exact .tup (RFs.frame hs h)
 | ref e hs=>exact .ref ((h _ Zz5).trans e) (RFs.frame hs fun a m=>h a (Zz2 _ m))
theorem RFs.frame{H H':Hp}{vs:List V}{ts:List T}{F:List Nat}(r:RFs H vs ts F)(h:∀a∈F,H'[a]?=H[a]?): RFs H' vs ts F:=by
 cases r with
 | nil=>exact .nil
 | cons a b=>exact .cons (RF.frame a fun x m=>h x (Zz4 _ m)) (RFs.frame b fun x m=>h x (Zz3 _ m))
end
mutual
theorem RF.lt{H:Hp}{v:V}{t:T}{F:List Nat}(r:RF H v t F): ∀a∈F,a<H.length:=by
 cases r with
 | none=>intro a m;cases m
 | bool b=>intro a m;cases m
 | int i=>intro a m;cases m
 | str s=>intro a m;cases m
 | tup hs=>exact RFs.lt hs
 | ref e hs=>
  intro x m
  rcases Zz7.mp m with rfl | m
  ·exact(Zz6.mp e).1
  ·exact RFs.lt hs x m
theorem RFs.lt{H:Hp}{vs:List V}{ts:List T}{F:List Nat}(r:RFs H vs ts F): ∀a∈F,a<H.length:=by
 cases r with
 | nil=>intro a m;cases m
 | cons a b=>
  intro x m
  rcases Zz8.mp m with m | m
  ·exact RF.lt a x m
  ·exact RFs.lt b x m
end
theorem RF.ext{H:Hp}{v:V}{t:T}{F:List Nat}(r:RF H v t F)(X:Hp): RF (H++X) v t F:=r.frame fun a m=>List.getElem?_append_left (r.lt a m)
theorem RFs.ext{H:Hp}{vs:List V}{ts:List T}{F:List Nat}(r:RFs H vs ts F)(X:Hp): RFs (H++X) vs ts F:=r.frame fun a m=>List.getElem?_append_left (r.lt a m)
theorem RFs.length{H:Hp}: ∀{vs:List V} {ts:List T} {F:List Nat},RFs H vs ts F→vs.length=ts.length
 | _,_,_,.nil=>rfl
 | _,_,_,.cons _ r=>by rw[List.length_cons,List.length_cons,r.length]
theorem RFs.append{H:Hp}: ∀{vs us:List V} {ts ss:List T} {F G:List Nat},RFs H vs ts F→RFs H us ss G→RFs H (vs++us) (ts++ss) (F++G)
 | _,_,_,_,_,_,.nil,h=>h
 | _,_,_,_,_,_,.cons a r,h=>by rw[List.append_assoc];exact .cons a (r.append h)
theorem RFs.one{H:Hp}{v:V}{t:T}{F:List Nat}(r:RF H v t F): RFs H [v] [t] F:=by
 have:=RFs.cons r RFs.nil
 rwa [List.append_nil]at this
theorem RFs.snoc{H:Hp}{vs:List V}{ts:List T}{F G:List Nat}{v:V}{t:T}(r:RFs H vs ts F)(x:RF H v t G): RFs H (vs++[v]) (ts++[t]) (F++G):=r.append (.one x)
theorem RFs.at{H:Hp}: ∀{vs:List V} {ts:List T} {F:List Nat} {i:Nat} {t:T},RFs H vs ts F→ts[i]?=some t→∃v G,vs[i]?=some v∧RF H v t G∧G.Sublist F
 | _,_,_,_,_,.nil,e=>by simp at e
 | _,_,_,0,_,.cons a _,e=>by
  simp at e
  exact⟨_,_,by simp,e▸a,List.sublist_append_left _ _⟩
 | _,_,_,i+1,_,.cons _ r,e=>by
  simp at e
  obtain⟨x,G,hx,hr,hs⟩:=r.at e
  exact⟨x,G,by simpa using hx,hr,hs.trans (List.sublist_append_right _ _)⟩
theorem RFs.drop{H:Hp}: ∀{vs:List V} {ts:List T} {F:List Nat} (i:Nat),RFs H vs ts F→∃G,RFs H (vs.drop i) (ts.drop i) G∧G.Sublist F
 | _,_,_,0,h=>⟨_,h,List.Sublist.refl _⟩
 | _,_,_,_+1,.nil=>⟨_,.nil,List.Sublist.refl _⟩
 | _,_,_,i+1,.cons _ r=>by
  obtain⟨G,h1,h2⟩:=r.drop i
  exact⟨G,h1,h2.trans (List.sublist_append_right _ _)⟩
theorem RFs.split{H:Hp}: ∀{vs:List V} {ts:List T} {F:List Nat} {i:Nat} {t:T},RFs H vs ts F→ts[i]?=some t →
  ∃v G F1 F2,vs[i]?=some v∧RF H v t G∧F=F1++(G++F2)∧∀(H':Hp) (w:V) (t':T) (G':List Nat),RF H' w t' G'→(∀a∈F1,H'[a]?=H[a]?)→(∀a∈F2,H'[a]?=H[a]?)→RFs H' (vs.set i w) (ts.set i t') (F1++(G'++F2))
 | _,_,_,_,_,.nil,e=>by simp at e
 | _,_,_,0,_,.cons (G:=G1) a r,e=>by
  simp at e
  subst e
  exact⟨_,_,[],G1,by simp,a,by simp,fun H' w t' G' x _ h2=>by simpa using RFs.cons x (r.frame h2)⟩
 | _,_,_,i+1,_,.cons (F:=F0) a r,e=>by
  simp at e
  obtain⟨v,G,F1,F2,h1,h2,h3,h4⟩:=r.split e
  refine⟨v,G,F0++F1,F2,by simpa using h1,h2,by rw[h3];simp,fun H' w t' G' x k1 k2=>?_⟩
  have:=RFs.cons (a.frame fun b m=>k1 b (Zz4 _ m)) (h4 H' w t' G' x (fun b m=>k1 b (Zz3 _ m)) k2)
  simpa using this
theorem Zqb{α:Type}{xs:List α}{i:Nat}{x:α}(h:xs[i]?=some x): xs.set i x=xs:=by
 obtain⟨hi,e⟩:=Zz6.mp h
 rw[←e]
 exact List.set_getElem_self hi
theorem nd3{F1 G F2 G' Gn:List Nat}(nd:(F1++(G++F2)).Nodup)(n':G'.Nodup)(sub:∀a∈G',a∈G∨a∈Gn)(ds:∀a∈Gn,a∉F1++(G++F2)): (F1++(G'++F2)).Nodup:=by
 rw[List.nodup_append,List.nodup_append]at nd ⊢
 obtain⟨a1,⟨a2,a3,a4⟩,a5⟩:=nd
 refine⟨a1,⟨n',a3,fun x hx y hy e=>?_⟩,fun x hx y hy e=>?_⟩
 ·rcases sub x hx with m | m
  ·exact a4 x m y hy e
  ·exact ds x m (Zz3 _ (Zz3 _ (e▸hy)))
 ·rcases Zz8.mp hy with m | m
  ·rcases sub y m with q | q
   ·exact a5 x hx y (Zz4 _ q) e
   ·exact ds y q (Zz4 _ (e▸hx))
  ·exact a5 x hx y (Zz3 _ m) e
theorem in3{F1 G F2 G' Gn:List Nat}(sub:∀a∈G',a∈G∨a∈Gn): ∀a∈F1++(G'++F2),a∈F1++(G++F2)∨a∈Gn:=by
 intro a m
 rcases Zz8.mp m with m | m
 ·exact .inl (Zz4 _ m)
 ·rcases Zz8.mp m with m | m
  ·exact(sub a m).imp (fun q=>List.mem_append_right _ (Zz4 _ q)) id
  ·exact .inl (Zz3 _ (Zz3 _ m))
mutual
noncomputable def T.flat: T→Bool
 | .lst _=>false
 | .tup ts=>T.flats ts
 | .none=>true
 | .bool _=>true
 | .int _=>true
 | .str _=>true
noncomputable def T.flats: List T→Bool
 | []=>true
 | t::ts=>t.flat && T.flats ts
end
mutual
theorem RF.flat{H:Hp}{v:V}{t:T}{F:List Nat}(r:RF H v t F)(h:t.flat=true): F=[]:=by
 cases r with
 | none=>rfl
 | bool b=>rfl
 | int i=>rfl
 | str s=>rfl
 | tup hs=>exact RFs.flats hs (by simpa [T.flat]using h)
 | ref e hs=>simp[T.flat]at h
theorem RFs.flats{H:Hp}{vs:List V}{ts:List T}{F:List Nat}(r:RFs H vs ts F)(h:T.flats ts=true): F=[]:=by
 cases r with
 | nil=>rfl
 | cons a b=>
  simp only[T.flats,Bool.and_eq_true]at h
  rw[RF.flat a h.1,RFs.flats b h.2]
  rfl
end
noncomputable def T.flatIn: T→Bool
 | .lst ts=>T.flats ts
 | t=>t.flat
noncomputable def ZdK(f:List T→Option (List T)): List Int→T→Option T
 | [],.lst ts=>(f ts).map .lst
 | k::ks,.lst ts=>(seqIndex? k ts.length).bind fun j=>ts[j]?.bind fun t=>(ZdK f ks t).map fun u=>.lst (ts.set j u)
 | k::ks,.tup ts=>(seqIndex? k ts.length).bind fun j=>ts[j]?.bind fun t=>(ZdK f ks t).map fun u=>.tup (ts.set j u)
 | _,_=>none
inductive Lead(H:Hp): List Int→V→Nat→Prop where
 | nil {a:Nat}:Lead H [] (.ref a) a
 | ref {k:Int} {ks:List Int} {b:Nat} {vs:List V} {j:Nat} {v:V} {a:Nat}:H[b]?=some vs→seqIndex? k vs.length=some j→vs[j]?=some v→Lead H ks v a→Lead H (k::ks) (.ref b) a
 | tup {k:Int} {ks:List Int} {vs:List V} {j:Nat} {v:V} {a:Nat}:seqIndex? k vs.length=some j→vs[j]?=some v→Lead H ks v a→Lead H (k::ks) (.tup vs) a
theorem Zfy{H:Hp}{Gn:List Nat}{f:List T→Option (List T)}: ∀(ks:List Int) {v:V} {t t':T} {F:List Nat},RF H v t F→F.Nodup→(∀a∈Gn,a∉F)→ZdK f ks t=some t' →
  ∃a vs ts ts' G,Lead H ks v a∧a∈F∧H[a]?=some vs∧RFs H vs ts G∧f ts=some ts'∧G.Nodup∧a∉G∧(∀x∈G,x∈F) ∧
   ∀vs' G',RFs H vs' ts' G'→G'.Nodup→a∉G'→(∀x∈G',x∈G∨x∈Gn)→∃F',RF (H.set a vs') v t' F'∧F'.Nodup∧∀x∈F',x∈F∨x∈Gn
 | [],v,t,t',F,r,nd,ds,e=>by
  cases r with
  | @ref a vs ts G e1 hs=>
   obtain⟨ts',h1,h2⟩:=Zz1.mp e
   subst h2
   rw[List.nodup_cons]at nd
   refine⟨a,vs,ts,ts',G,.nil,List.mem_cons_self,e1,hs,h1,nd.2,nd.1,fun x m=>List.mem_cons_of_mem _ m,fun vs' G' r' n' na sub=>⟨a::G',?_,?_,?_⟩⟩
   ·have ha:=(Zz6.mp e1).1
    refine .ref (List.getElem?_set_self ha) (r'.frame fun b m=>List.getElem?_set_ne ?_)
    intro q
    subst q
    exact na m
   ·exact List.nodup_cons.mpr ⟨na,n'⟩
   ·intro x m
    rcases Zz7.mp m with rfl | m
    ·exact .inl Zz5
    ·exact(sub x m).imp (Zz2 _) id
  | none=>cases e
  | bool _=>cases e
  | int _=>cases e
  | str _=>cases e
  | tup _=>cases e
 | k::ks,v,t,t',F,r,nd,ds,e=>by
  cases r with
  | none=>cases e
  | bool _=>cases e
  | int _=>cases e
  | str _=>cases e
  | @tup vs ts _ hs=>
   obtain⟨j,e1,e⟩:=Zz0.mp e
   obtain⟨u,e2,e⟩:=Zz0.mp e
   obtain⟨u',e3,e⟩:=Zz1.mp e
   subst e
   obtain⟨w,G1,F1,F2,e4,g1,eF,rb⟩:=hs.split e2
   subst eF
   have nd1:G1.Nodup:=(List.nodup_append.mp (List.nodup_append.mp nd).2.1).1
   have hin:∀x∈G1,x∈F1++(G1++F2):=fun x m=>List.mem_append_right _ (Zz4 _ m)
   obtain⟨a,us,qs,qs',G,l,am,ea,hq,hf,gn,na,gs,go⟩:=Zfy ks g1 nd1 (fun b m q=>ds b m (hin b q)) e3
   refine⟨a,us,qs,qs',G,.tup (by rw[hs.length];exact e1) e4 l,hin a am,ea,hq,hf,gn,na,fun x m=>hin x (gs x m),fun vs' G' r' n' na' sub=>?_⟩
   obtain⟨G2,f1,f2,f3⟩:=go vs' G' r' n' na' sub
   obtain⟨a1,a2,a5⟩:=List.nodup_append.mp nd
   obtain⟨_,a3,a4⟩:=List.nodup_append.mp a2
   have:=rb (H.set a vs') w u' G2 f1 (fun b m=>List.getElem?_set_ne fun q=>a5 b m a (Zz4 _ am) q.symm) (fun b m=>List.getElem?_set_ne fun q=>a4 a am b m q)
   rw[Zqb e4]at this
   exact⟨_,.tup this,nd3 nd f2 f3 ds,in3 f3⟩
  | @ref b vs ts F' e0 hs=>
   obtain⟨j,e1,e⟩:=Zz0.mp e
   obtain⟨u,e2,e⟩:=Zz0.mp e
   obtain⟨u',e3,e⟩:=Zz1.mp e
   subst e
   obtain⟨w,G1,F1,F2,e4,g1,eF,rb⟩:=hs.split e2
   subst eF
   rw[List.nodup_cons]at nd
   obtain⟨nb,nd⟩:=nd
   have nd1:G1.Nodup:=(List.nodup_append.mp (List.nodup_append.mp nd).2.1).1
   have hin:∀x∈G1,x∈F1++(G1++F2):=fun x m=>List.mem_append_right _ (Zz4 _ m)
   have ds':∀a∈Gn,a∉F1++(G1++F2):=fun a m q=>ds a m (Zz2 _ q)
   obtain⟨a,us,qs,qs',G,l,am,ea,hq,hf,gn,na,gs,go⟩:=Zfy ks g1 nd1 (fun b m q=>ds' b m (hin b q)) e3
   refine⟨a,us,qs,qs',G,.ref e0 (by rw[hs.length];exact e1) e4 l,List.mem_cons_of_mem _ (hin a am),ea,hq,hf,gn,na,fun x m=>List.mem_cons_of_mem _ (hin x (gs x m)),fun vs' G' r' n' na' sub=>?_⟩
   obtain⟨G2,f1,f2,f3⟩:=go vs' G' r' n' na' sub
   obtain⟨a1,a2,a5⟩:=List.nodup_append.mp nd
   obtain⟨_,a3,a4⟩:=List.nodup_append.mp a2
   have:=rb (H.set a vs') w u' G2 f1 (fun b m=>List.getElem?_set_ne fun q=>a5 b m a (Zz4 _ am) q.symm) (fun b m=>List.getElem?_set_ne fun q=>a4 a am b m q)
   rw[Zqb e4]at this
   have hab:a≠b:=fun q=>nb (hin b (q▸am))
   refine⟨_,.ref ((List.getElem?_set_ne hab).trans e0) this,List.nodup_cons.mpr ⟨fun q=>?_,nd3 nd f2 f3 ds'⟩,fun x m=>?_⟩
   ·rcases in3 f3 b q with m | m
    ·exact nb m
    ·exact ds b m Zz5
   ·rcases Zz7.mp m with rfl | m
    ·exact .inl Zz5
    ·exact(in3 f3 x m).imp (Zz2 _) id
end TM
end
section
namespace TM
open PySem PM
noncomputable abbrev TL:=Nat→Option T
noncomputable abbrev PE:=TL→Option T
noncomputable abbrev PEs:=TL→Option (List T)
noncomputable abbrev PB:=TL→Option Bool
noncomputable abbrev PG:=TL→Option (List T)
noncomputable def ZR(σ:TL)(i:Nat)(t:T): TL:=fun j=>if j=i then some t else σ j
structure Ctx where
 H0:Hp
 F0:List Nat
 P:Nat→Prop
structure St(c:Ctx)(O:List Nat)(ρ:Lc)(σ:TL)(H:Hp)(Φ:Nat→List Nat): Prop where
 slot:∀i t,σ i=some t→∃v,ρ i=some v∧RF H v t (Φ i)
 src:∀i t,σ i=some t→∀a∈Φ i,c.H0.length≤a∨c.P a
 own:∀i∈O,∀t,σ i=some t→(Φ i).Nodup∧(∀a∈Φ i,c.H0.length≤a∨a∈c.F0)∧∀j u,j≠i→σ j=some u→∀a∈Φ i,a∉Φ j
 len:c.H0.length≤H.length
 keep:∀a,a<c.H0.length→a∉c.F0→H[a]?=c.H0[a]?
 pos:0<c.H0.length
 f0:0∉c.F0
theorem St.ext{c:Ctx}{O:List Nat}{ρ:Lc}{σ:TL}{H:Hp}{Φ:Nat→List Nat}(s:St c O ρ σ H Φ)(X:Hp): St c O ρ σ (H++X) Φ:=
 ⟨fun i t e=>by obtain⟨v,h1,h2⟩:=s.slot i t e;exact⟨v,h1,h2.ext X⟩,s.src,s.own,by have:=s.len;rw[List.length_append];omega,fun a ha hn=>by
  rw[List.getElem?_append_left (Nat.lt_of_lt_of_le ha s.len)];exact s.keep a ha hn,s.pos,s.f0⟩
theorem St.less{c:Ctx}{O O':List Nat}{ρ:Lc}{σ:TL}{H:Hp}{Φ:Nat→List Nat}(s:St c O ρ σ H Φ)(h:∀i∈O',i∈O): St c O' ρ σ H Φ:=⟨s.slot,s.src,fun i hi=>s.own i (h i hi),s.len,s.keep,s.pos,s.f0⟩
def From(H:Hp)(N:List Nat)(σ:TL)(Φ:Nat→List Nat)(a:Nat): Prop:=H.length≤a∨∃i∈N,(∃t,σ i=some t)∧a∈Φ i
theorem From.mono{H:Hp}{N N':List Nat}{σ:TL}{Φ:Nat→List Nat}{a:Nat}(f:From H N σ Φ a)(h:∀i∈N,i∈N'): From H N' σ Φ a:=f.imp id fun⟨i,hi,q⟩=>⟨i,h i hi,q⟩
theorem From.back{H X:Hp}{N:List Nat}{σ:TL}{Φ:Nat→List Nat}{a:Nat}(f:From (H++X) N σ Φ a): From H N σ Φ a:=f.imp (fun h=>by rw[List.length_append]at h;omega) id
theorem From.nil{H:Hp}{σ:TL}{Φ:Nat→List Nat}{a:Nat}(f:From H [] σ Φ a): H.length≤a:=f.elim id fun⟨_,hi,_⟩=>by cases hi
def E(O N:List Nat)(u:Bool)(e:Ex)(p:PE): Prop:=∀(c:Ctx) (ρ:Lc) (σ:TL) (H:Hp) (Φ:Nat→List Nat) (t:T),St c O ρ σ H Φ→p σ=some t →
 ∃v X F,e ρ H=some (v,H++X)∧RF (H++X) v t F∧(∀a∈F,From H N σ Φ a)∧(u=true→F.Nodup)
def Es(O N:List Nat)(u:Bool)(n:Nat)(e:Exs)(p:PEs): Prop:=∀(c:Ctx) (ρ:Lc) (σ:TL) (H:Hp) (Φ:Nat→List Nat) (ts:List T),St c O ρ σ H Φ→p σ=some ts →
 ts.length=n∧∃vs X F,e ρ H=some (vs,H++X)∧RFs (H++X) vs ts F∧(∀a∈F,From H N σ Φ a)∧(u=true→F.Nodup)
def Bt(O:List Nat)(e:Ts)(p:PB): Prop:=∀(c:Ctx) (ρ:Lc) (σ:TL) (H:Hp) (Φ:Nat→List Nat) (b:Bool),St c O ρ σ H Φ→p σ=some b→∃X,e ρ H=some (b,H++X)
section
variable {O N:List Nat} {u:Bool}
theorem ZbA{O':List Nat}{e:Ex}{p:PE}(x:E O' N u e p)(h:∀i∈O',i∈O:=by decide): E O N u e p:=fun c ρ σ H Φ t s=>x c ρ σ H Φ t (s.less h)
theorem ZAN{O':List Nat}{e:Ts}{p:PB}(x:Bt O' e p)(h:∀i∈O',i∈O): Bt O e p:=fun c ρ σ H Φ t s=>x c ρ σ H Φ t (s.less h)
theorem E.sh{e:Ex}{p:PE}(x:E O N u e p): E O N false e p:=fun c ρ σ H Φ t s q=>by
 obtain⟨v,X,F,a1,a2,a3,a4⟩:=x c ρ σ H Φ t s q
 exact⟨v,X,F,a1,a2,a3,by simp⟩
noncomputable def ZE(k:Int): PE:=fun _=>some (.int k)
noncomputable def ZaH: PE:=fun _=>some .none
noncomputable def Zin(b:Bool): PE:=fun _=>some (.bool b)
noncomputable def Ziz(x:Str): PE:=fun _=>some (.str x)
noncomputable def Zj(i:Nat): PE:=fun σ=>σ i
theorem Zc(k:Int): E O [] true (Zz k) (ZE k):=fun c ρ σ H Φ t s q=>by
 cases q;exact⟨_,[],[],by simp[Zz],.int k,by simp,by simp⟩
theorem Z4: E O [] true Zau ZaH:=fun c ρ σ H Φ t s q=>by
 cases q;exact⟨_,[],[],by simp[Zau],.none,by simp,by simp⟩
theorem E.bool(k:Bool): E O [] true (Zdo k) (Zin k):=fun c ρ σ H Φ t s q=>by
 cases q;exact⟨_,[],[],by simp[Zdo],.bool k,by simp,by simp⟩
theorem E.str(k:Str): E O [] true (ZeV k) (Ziz k):=fun c ρ σ H Φ t s q=>by
 cases q;exact⟨_,[],[],by simp[ZeV],.str k,by simp,by simp⟩
theorem Za(i:Nat): E O [i] false (Zg i) (Zj i):=fun c ρ σ H Φ t s q=>by
 obtain⟨v,h1,h2⟩:=s.slot i t q
 exact⟨v,[],Φ i,by simp[Zg,h1],by simpa using h2,fun a m=>.inr ⟨i,List.mem_cons_self,⟨t,q⟩,m⟩,by simp⟩
theorem E.own{i:Nat}(hi:i∈O): E O [i] true (Zg i) (Zj i):=fun c ρ σ H Φ t s q=>by
 obtain⟨v,h1,h2⟩:=s.slot i t q
 exact⟨v,[],Φ i,by simp[Zg,h1],by simpa using h2,fun a m=>.inr ⟨i,List.mem_cons_self,⟨t,q⟩,m⟩,fun _=>(s.own i hi t q).1⟩
noncomputable def ZcQ(p:PE): PE:=fun σ=>(p σ).bind fun t=>if t.flat then some t else none
theorem E.flat{e:Ex}{p:PE}(x:E O N u e p): E O [] true e (ZcQ p):=fun c ρ σ H Φ t s q=>by
 obtain⟨t',e1,e2⟩:=Zz0.mp q
 by_cases h:t'.flat=true
 ·rw[if_pos h]at e2
  cases e2
  obtain⟨v,X,F,a1,a2,a3,a4⟩:=x c ρ σ H Φ t s e1
  have:=a2.flat h
  subst this
  exact⟨v,X,[],a1,a2,by simp,by simp⟩
 ·rw[if_neg h]at e2;cases e2
noncomputable def ZG: PEs:=fun _=>some []
noncomputable def Zl(p:PE)(q:PEs): PEs:=fun σ=>(p σ).bind fun t=>(q σ).bind fun ts=>some (t::ts)
theorem Ze: Es O [] true 0 ZD ZG:=fun c ρ σ H Φ ts s q=>by
 cases q;exact⟨rfl,[],[],[],by simp[ZD],.nil,by simp,by simp⟩
theorem Zb{M:List Nat}{u':Bool}{n:Nat}{e:Ex}{p:PE}{es:Exs}{ps:PEs}(x:E O N u e p)(y:Es O M u' n es ps): Es O (N++M) false (n+1) (Zh e es) (Zl p ps):=fun c ρ σ H Φ ts s q=>by
 obtain⟨t,e1,q⟩:=Zz0.mp q
 obtain⟨rs,e2,q⟩:=Zz0.mp q
 cases q
 obtain⟨v,X,F,a1,a2,a3,a4⟩:=x c ρ σ H Φ t s e1
 obtain⟨hl,vs,Y,G,b1,b2,b3,b4⟩:=y c ρ σ (H++X) Φ rs (s.ext X) e2
 refine⟨by simp[hl],v::vs,X++Y,F++G,by simp[Zh,a1,b1],?_,fun a m=>?_,by simp⟩
 ·rw[←List.append_assoc];exact .cons (a2.ext Y) b2
 ·rcases Zz8.mp m with m | m
  ·exact(a3 a m).mono fun i hi=>List.mem_append_left _ hi
  ·exact(b3 a m).back.mono fun i hi=>List.mem_append_right _ hi
theorem Zer{M:List Nat}{n:Nat}{e:Ex}{p:PE}{es:Exs}{ps:PEs}(x:E O N true e p)(y:Es O M true n es ps)(hN:∀i∈N,i∈O)(hM:∀i∈N,i∉M): Es O (N++M) true (n+1) (Zh e es) (Zl p ps):=fun c ρ σ H Φ ts s q=>by
 obtain⟨t,e1,q⟩:=Zz0.mp q
 obtain⟨rs,e2,q⟩:=Zz0.mp q
 cases q
 obtain⟨v,X,F,a1,a2,a3,a4⟩:=x c ρ σ H Φ t s e1
 obtain⟨hl,vs,Y,G,b1,b2,b3,b4⟩:=y c ρ σ (H++X) Φ rs (s.ext X) e2
 refine⟨by simp[hl],v::vs,X++Y,F++G,by simp[Zh,a1,b1],?_,fun a m=>?_,fun _=>?_⟩
 ·rw[←List.append_assoc];exact .cons (a2.ext Y) b2
 ·rcases Zz8.mp m with m | m
  ·exact(a3 a m).mono fun i hi=>List.mem_append_left _ hi
  ·exact(b3 a m).back.mono fun i hi=>List.mem_append_right _ hi
 ·rw[List.nodup_append]
  refine⟨a4 rfl,b4 rfl,fun a ha b hb e=>?_⟩
  subst e
  have hlt:=a2.lt a ha
  rcases b3 a hb with h | ⟨j,hj,⟨tj,ej⟩,mj⟩
  ·omega
  ·obtain⟨vj,_,rj⟩:=s.slot j tj ej
   have:=rj.lt a mj
   rcases a3 a ha with h | ⟨i,hi,⟨ti,ei⟩,mi⟩
   ·omega
   ·exact(s.own i (hN i hi) ti ei).2.2 j tj (fun q=>hM i hi (q▸hj)) ej a mi mj
theorem ZAO{O':List Nat}{n:Nat}{e:Exs}{p:PEs}(x:Es O' N u n e p)(h:∀i∈O',i∈O): Es O N u n e p:=fun c ρ σ H Φ t s=>x c ρ σ H Φ t (s.less h)
noncomputable def ZcR(p:PEs): PE:=fun σ=>(p σ).map .tup
noncomputable def ZdE(p:PEs): PE:=fun σ=>(p σ).map .lst
theorem E.tup{n:Nat}{e:Exs}{p:PEs}(x:Es O N u n e p)(hn:n≤LEN:=by decide): E O N u (ZbX e) (ZcR p):=fun c ρ σ H Φ t s q=>by
 obtain⟨ts,e1,e2⟩:=Zz1.mp q
 subst e2
 obtain⟨hl,vs,Y,G,b1,b2,b3,b4⟩:=x c ρ σ H Φ ts s e1
 have:=b2.length
 refine⟨.tup vs,Y,G,?_,.tup b2,b3,b4⟩
 simp only[ZbX,b1,Option.bind_some]
 rw[if_pos (by omega)]
theorem E.list{n:Nat}{e:Exs}{p:PEs}(x:Es O N u n e p)(hn:n≤LEN:=by decide): E O N u (Zcz e) (ZdE p):=fun c ρ σ H Φ t s q=>by
 obtain⟨ts,e1,e2⟩:=Zz1.mp q
 subst e2
 obtain⟨hl,vs,Y,G,b1,b2,b3,b4⟩:=x c ρ σ H Φ ts s e1
 have:=b2.length
 refine⟨.ref (H++Y).length,Y++[vs],(H++Y).length::G,?_,?_,fun a m=>?_,fun hu=>?_⟩
 ·simp only[Zcz,b1,Option.bind_some]
  rw[if_pos (by omega),List.append_assoc]
 ·rw[←List.append_assoc];exact .ref (by simp) (b2.ext _)
 ·rcases Zz7.mp m with rfl | m
  ·exact .inl (by simp)
  ·exact b3 a m
 ·rw[List.nodup_cons]
  exact⟨fun m=>Nat.lt_irrefl _ (b2.lt _ m),b4 hu⟩
def OA2(o:V→V→Hp→Option (V×Hp))(q:T→T→Option T): Prop:=∀(H:Hp) (v1 v2:V) (t1 t2 t:T) (F1 F2:List Nat),RF H v1 t1 F1→RF H v2 t2 F2→q t1 t2=some t→∃v,o v1 v2 H=some (v,H)∧RF H v t []
def OI2(o:V→V→Hp→Option (V×Hp))(q:T→T→Option T): Prop:=∀(H:Hp) (v1 v2:V) (t1 t2 t:T) (F1 F2:List Nat),RF H v1 t1 F1→RF H v2 t2 F2→q t1 t2=some t→∃v F,o v1 v2 H=some (v,H)∧RF H v t F∧F.Sublist F1
def OC2(o:V→V→Hp→Option (V×Hp))(q:T→T→Option T): Prop:=∀(H:Hp) (v1 v2:V) (t1 t2 t:T) (F1 F2:List Nat),RF H v1 t1 F1→RF H v2 t2 F2→q t1 t2=some t→∃v X F,o v1 v2 H=some (v,H++X)∧RF (H++X) v t F∧(∀a∈F,H.length≤a∨a∈F1∨a∈F2)∧(t.flatIn=true→F.Nodup∧∀a∈F,H.length≤a)
def OA1(o:V→Hp→Option (V×Hp))(q:T→Option T): Prop:=∀(H:Hp) (v1:V) (t1 t:T) (F1:List Nat),RF H v1 t1 F1→q t1=some t→∃v,o v1 H=some (v,H)∧RF H v t []
def OAn(o:List V→Hp→Option (V×Hp))(q:List T→Option T): Prop:=∀(H:Hp) (vs:List V) (ts:List T) (t:T) (F:List Nat),RFs H vs ts F→q ts=some t→∃v,o vs H=some (v,H)∧RF H v t []
def OCn(o:List V→Hp→Option (V×Hp))(q:List T→Option T): Prop:=∀(H:Hp) (vs:List V) (ts:List T) (t:T) (F1:List Nat),0<H.length→RFs H vs ts F1→q ts=some t→∃v X F,o vs H=some (v,H++X)∧RF (H++X) v t F∧(∀a∈F,H.length≤a∨a∈F1)∧(t.flatIn=true→F.Nodup∧∀a∈F,H.length≤a)
noncomputable def ZC(q:T→T→Option T)(p1 p2:PE): PE:=fun σ=>(p1 σ).bind fun x=>(p2 σ).bind fun y=>q x y
noncomputable def pUn(q:T→Option T)(p1:PE): PE:=fun σ=>(p1 σ).bind fun x=>q x
noncomputable def ZV(q:List T→Option T)(ps:PEs): PE:=fun σ=>(ps σ).bind fun xs=>q xs
noncomputable def pFl(p:PE): PE:=fun σ=>(p σ).bind fun t=>if t.flatIn then some t else none
theorem Zjk{M:List Nat}{u':Bool}{e1 e2:Ex}{p1 p2:PE}{q:T→T→Option T}{o:V→V→Hp→Option (V×Hp)}{c:Ctx}{ρ:Lc}{σ:TL}{H:Hp}{Φ:Nat→List Nat}{t:T}(x:E O N u e1 p1)(y:E O M u' e2 p2)(s:St c O ρ σ H Φ)(h:ZC q p1 p2 σ=some t):
  ∃t1 t2 v1 v2 X F1 F2,q t1 t2=some t∧RF (H++X) v1 t1 F1∧RF (H++X) v2 t2 F2∧(∀a∈F1,From H N σ Φ a)∧(∀a∈F2,From H M σ Φ a)∧(u=true→F1.Nodup)∧Zy o e1 e2 ρ H=o v1 v2 (H++X):=by
 obtain⟨t1,h1,h⟩:=Zz0.mp h
 obtain⟨t2,h2,h⟩:=Zz0.mp h
 obtain⟨v,X,F,a1,a2,a3,a4⟩:=x c ρ σ H Φ t1 s h1
 obtain⟨w,Y,G,b1,b2,b3,b4⟩:=y c ρ σ (H++X) Φ t2 (s.ext X) h2
 rw[List.append_assoc]at b1 b2
 refine⟨t1,t2,v,w,X++Y,F,G,h,?_,b2,a3,fun a m=>(b3 a m).back,a4,by simp only[Zy,a1,b1,Option.bind_some]⟩
 rw[←List.append_assoc];exact a2.ext Y
theorem Zu{M:List Nat}{u':Bool}{e1 e2:Ex}{p1 p2:PE}{q:T→T→Option T}{o:V→V→Hp→Option (V×Hp)}(k:OA2 o q)(x:E O N u e1 p1)(y:E O M u' e2 p2): E O [] true (Zy o e1 e2) (ZC q p1 p2):=fun c ρ σ H Φ t s h=>by
 obtain⟨t1,t2,v1,v2,X,F1,F2,hq,r1,r2,_,_,_,e⟩:=Zjk (o:=o) x y s h
 obtain⟨v,h1,h2⟩:=k _ v1 v2 t1 t2 t F1 F2 r1 r2 hq
 exact⟨v,X,[],e.trans h1,h2,by simp,by simp⟩
theorem Zo{M:List Nat}{u':Bool}{e1 e2:Ex}{p1 p2:PE}{q:T→T→Option T}{o:V→V→Hp→Option (V×Hp)}(k:OI2 o q)(x:E O N u e1 p1)(y:E O M u' e2 p2): E O N u (Zy o e1 e2) (ZC q p1 p2):=fun c ρ σ H Φ t s h=>by
 obtain⟨t1,t2,v1,v2,X,F1,F2,hq,r1,r2,h1,_,hu,e⟩:=Zjk (o:=o) x y s h
 obtain⟨v,F,k1,k2,k3⟩:=k _ v1 v2 t1 t2 t F1 F2 r1 r2 hq
 exact⟨v,X,F,e.trans k1,k2,fun a m=>h1 a (k3.subset m),fun h=>(hu h).sublist k3⟩
theorem ZM{M:List Nat}{u':Bool}{e1 e2:Ex}{p1 p2:PE}{q:T→T→Option T}{o:V→V→Hp→Option (V×Hp)}(k:OC2 o q)(x:E O N u e1 p1)(y:E O M u' e2 p2): E O (N++M) false (Zy o e1 e2) (ZC q p1 p2):=fun c ρ σ H Φ t s h=>by
 obtain⟨t1,t2,v1,v2,X,F1,F2,hq,r1,r2,h1,h2,hu,e⟩:=Zjk (o:=o) x y s h
 obtain⟨v,Y,F,k1,k2,k3,k4⟩:=k _ v1 v2 t1 t2 t F1 F2 r1 r2 hq
 rw[List.append_assoc]at k1 k2
 refine⟨v,X++Y,F,e.trans k1,k2,fun a m=>?_,by simp⟩
 rcases k3 a m with h | h | h
 ·exact .inl (by rw[List.length_append]at h;omega)
 ·exact(h1 a h).mono fun i hi=>List.mem_append_left _ hi
 ·exact(h2 a h).mono fun i hi=>List.mem_append_right _ hi
theorem Zj0{M:List Nat}{u':Bool}{e1 e2:Ex}{p1 p2:PE}{q:T→T→Option T}{o:V→V→Hp→Option (V×Hp)}(k:OC2 o q)(x:E O N u e1 p1)(y:E O M u' e2 p2): E O [] true (Zy o e1 e2) (pFl (ZC q p1 p2)):=fun c ρ σ H Φ t s h=>by
 obtain⟨t',h,hf⟩:=Zz0.mp h
 by_cases fl:t'.flatIn=true
 ·rw[if_pos fl]at hf
  cases hf
  obtain⟨t1,t2,v1,v2,X,F1,F2,hq,r1,r2,h1,h2,hu,e⟩:=Zjk (o:=o) x y s h
  obtain⟨v,Y,F,k1,k2,k3,k4⟩:=k _ v1 v2 t1 t2 t F1 F2 r1 r2 hq
  rw[List.append_assoc]at k1 k2
  exact⟨v,X++Y,F,e.trans k1,k2,fun a m=>.inl (by have:=(k4 fl).2 a m;rw[List.length_append]at this;omega),fun _=>(k4 fl).1⟩
 ·rw[if_neg fl]at hf;cases hf
theorem ZbU{e1:Ex}{p1:PE}{q:T→Option T}{o:V→Hp→Option (V×Hp)}(k:OA1 o q)(x:E O N u e1 p1): E O [] true (eUn o e1) (pUn q p1):=fun c ρ σ H Φ t s h=>by
 obtain⟨t1,h1,h⟩:=Zz0.mp h
 obtain⟨v,X,F,a1,a2,a3,a4⟩:=x c ρ σ H Φ t1 s h1
 obtain⟨w,b1,b2⟩:=k _ v t1 t F a2 h
 exact⟨w,X,[],by simp only[eUn,a1,Option.bind_some,b1],b2,by simp,by simp⟩
theorem Zai{n:Nat}{es:Exs}{ps:PEs}{q:List T→Option T}{o:List V→Hp→Option (V×Hp)}(k:OAn o q)(x:Es O N u n es ps): E O [] true (ZH o es) (ZV q ps):=fun c ρ σ H Φ t s h=>by
 obtain⟨ts,h1,h⟩:=Zz0.mp h
 obtain⟨_,vs,X,F,a1,a2,a3,a4⟩:=x c ρ σ H Φ ts s h1
 obtain⟨w,b1,b2⟩:=k _ vs ts t F a2 h
 exact⟨w,X,[],by simp only[ZH,a1,Option.bind_some,b1],b2,by simp,by simp⟩
theorem Zh1{n:Nat}{es:Exs}{ps:PEs}{q:List T→Option T}{o:List V→Hp→Option (V×Hp)}(k:OCn o q)(x:Es O N u n es ps): E O N false (ZH o es) (ZV q ps):=fun c ρ σ H Φ t s h=>by
 obtain⟨ts,h1,h⟩:=Zz0.mp h
 obtain⟨_,vs,X,F,a1,a2,a3,a4⟩:=x c ρ σ H Φ ts s h1
 have hp:0<(H++X).length:=by have:=s.pos;have:=s.len;rw[List.length_append];omega
 obtain⟨w,Y,G,b1,b2,b3,b4⟩:=k _ vs ts t F hp a2 h
 rw[List.append_assoc]at b1 b2
 refine⟨w,X++Y,G,by simp only[ZH,a1,Option.bind_some,b1],b2,fun a m=>?_,by simp⟩
 rcases b3 a m with h | h
 ·exact .inl (by rw[List.length_append]at h;omega)
 ·exact a3 a h
theorem Zw2{n:Nat}{es:Exs}{ps:PEs}{q:List T→Option T}{o:List V→Hp→Option (V×Hp)}(k:OCn o q)(x:Es O N u n es ps): E O [] true (ZH o es) (pFl (ZV q ps)):=fun c ρ σ H Φ t s h=>by
 obtain⟨t',h,hf⟩:=Zz0.mp h
 by_cases fl:t'.flatIn=true
 ·rw[if_pos fl]at hf
  cases hf
  obtain⟨ts,h1,h⟩:=Zz0.mp h
  obtain⟨_,vs,X,F,a1,a2,a3,a4⟩:=x c ρ σ H Φ ts s h1
  have hp:0<(H++X).length:=by have:=s.pos;have:=s.len;rw[List.length_append];omega
  obtain⟨w,Y,G,b1,b2,b3,b4⟩:=k _ vs ts t F hp a2 h
  rw[List.append_assoc]at b1 b2
  exact⟨w,X++Y,G,by simp only[ZH,a1,Option.bind_some,b1],b2,fun a m=>.inl (by have:=(b4 fl).2 a m;rw[List.length_append]at this;omega),fun _=>(b4 fl).1⟩
 ·rw[if_neg fl]at hf;cases hf
def SimF(fr:Bool)(f:List V→Hp→Option (V×Hp))(p:List T→Option T): Prop:=∀(H:Hp) (vs:List V) (ts:List T) (t:T) (F1:List Nat),0<H.length→RFs H vs ts F1→p ts=some t→∃v X F,f vs H=some (v,H++X)∧RF (H++X) v t F∧(∀a∈F,H.length≤a∨a∈F1)∧(fr=true→F.Nodup∧∀a∈F,H.length≤a)
theorem Zw{fr:Bool}{n:Nat}{es:Exs}{ps:PEs}{q:List T→Option T}{o:List V→Hp→Option (V×Hp)}(k:SimF fr o q)(x:Es O N u n es ps): E O N false (ZH o es) (ZV q ps):=fun c ρ σ H Φ t s h=>by
 obtain⟨ts,h1,h⟩:=Zz0.mp h
 obtain⟨_,vs,X,F,a1,a2,a3,a4⟩:=x c ρ σ H Φ ts s h1
 have hp:0<(H++X).length:=by have:=s.pos;have:=s.len;rw[List.length_append];omega
 obtain⟨w,Y,G,b1,b2,b3,b4⟩:=k _ vs ts t F hp a2 h
 rw[List.append_assoc]at b1 b2
 refine⟨w,X++Y,G,by simp only[ZH,a1,Option.bind_some,b1],b2,fun a m=>?_,by simp⟩
 rcases b3 a m with h | h
 ·exact .inl (by rw[List.length_append]at h;omega)
 ·exact a3 a h
theorem Zar{n:Nat}{es:Exs}{ps:PEs}{q:List T→Option T}{o:List V→Hp→Option (V×Hp)}(k:SimF true o q)(x:Es O N u n es ps): E O [] true (ZH o es) (ZV q ps):=fun c ρ σ H Φ t s h=>by
 obtain⟨ts,h1,h⟩:=Zz0.mp h
 obtain⟨_,vs,X,F,a1,a2,a3,a4⟩:=x c ρ σ H Φ ts s h1
 have hp:0<(H++X).length:=by have:=s.pos;have:=s.len;rw[List.length_append];omega
 obtain⟨w,Y,G,b1,b2,b3,b4⟩:=k _ vs ts t F hp a2 h
 rw[List.append_assoc]at b1 b2
 exact⟨w,X++Y,G,by simp only[ZH,a1,Option.bind_some,b1],b2,fun a m=>.inl (by have:=(b4 rfl).2 a m;rw[List.length_append]at this;omega),fun _=>(b4 rfl).1⟩
noncomputable def Zbt: T→Option Bool
 | .bool b=>some b
 | .none=>some false
 | .int i=>some (i != 0)
 | _=>none
theorem ZdS{H:Hp}{v:V}{t:T}{F:List Nat}{b:Bool}(r:RF H v t F)(h:Zbt t=some b): Zcy v H=some b:=by
 cases r <;> first | (cases h;rfl) | cases h
noncomputable def Zat(p:PE): PB:=fun σ=>(p σ).bind Zbt
noncomputable def ZiA(p:PB): PB:=fun σ=>(p σ).map fun b=>!b
noncomputable def Za6: PB:=fun _=>some true
noncomputable def Zfz: PB:=fun _=>some false
noncomputable def ZfR(p q:PB): PB:=fun σ=>(p σ).bind fun b=>if b then q σ else some false
noncomputable def bOr(p q:PB): PB:=fun σ=>(p σ).bind fun b=>if b then some true else q σ
noncomputable def bIf(p q r:PB): PB:=fun σ=>(p σ).bind fun b=>if b then q σ else r σ
theorem ZA{e:Ex}{p:PE}(x:E O N u e p): Bt O (Zao e) (Zat p):=fun c ρ σ H Φ b s h=>by
 obtain⟨t,h1,h⟩:=Zz0.mp h
 obtain⟨v,X,F,a1,a2,a3,a4⟩:=x c ρ σ H Φ t s h1
 exact⟨X,by simp only[Zao,a1,Option.bind_some,ZdS a2 h,Option.map_some]⟩
theorem Zcm{e:Ts}{p:PB}(x:Bt O e p): Bt O (ZeW e) (ZiA p):=fun c ρ σ H Φ b s h=>by
 obtain⟨t,h1,h⟩:=Zz1.mp h
 subst h
 obtain⟨X,a1⟩:=x c ρ σ H Φ t s h1
 exact⟨X,by simp only[ZeW,a1,Option.map_some]⟩
theorem Zaq: Bt O Zbz Za6:=fun c ρ σ H Φ b s h=>by
 cases h;exact⟨[],by simp[Zbz]⟩
theorem Zci: Bt O Zd1 Zfz:=fun c ρ σ H Φ b s h=>by
 cases h;exact⟨[],by simp[Zd1]⟩
theorem Za3{e f:Ts}{p q:PB}(x:Bt O e p)(y:Bt O f q): Bt O (ZfP e f) (ZfR p q):=fun c ρ σ H Φ b s h=>by
 obtain⟨t,h1,h⟩:=Zz0.mp h
 obtain⟨X,a1⟩:=x c ρ σ H Φ t s h1
 cases t with
 | true=>
  obtain⟨Y,b1⟩:=y c ρ σ (H++X) Φ b (s.ext X) (by simpa using h)
  exact⟨X++Y,by simp[ZfP,a1,b1]⟩
 | false=>cases h;exact⟨X,by simp[ZfP,a1]⟩
theorem ZaP{e f:Ts}{p q:PB}(x:Bt O e p)(y:Bt O f q): Bt O (tOr e f) (bOr p q):=fun c ρ σ H Φ b s h=>by
 obtain⟨t,h1,h⟩:=Zz0.mp h
 obtain⟨X,a1⟩:=x c ρ σ H Φ t s h1
 cases t with
 | false=>
  obtain⟨Y,b1⟩:=y c ρ σ (H++X) Φ b (s.ext X) (by simpa using h)
  exact⟨X++Y,by simp[tOr,a1,b1]⟩
 | true=>cases h;exact⟨X,by simp[tOr,a1]⟩
theorem Bt.ife{e f g:Ts}{p q r:PB}(x:Bt O e p)(y:Bt O f q)(z:Bt O g r): Bt O (tIf e f g) (bIf p q r):=fun c ρ σ H Φ b s h=>by
 obtain⟨t,h1,h⟩:=Zz0.mp h
 obtain⟨X,a1⟩:=x c ρ σ H Φ t s h1
 cases t with
 | true=>
  obtain⟨Y,b1⟩:=y c ρ σ (H++X) Φ b (s.ext X) (by simpa using h)
  exact⟨X++Y,by simp[tIf,a1,b1]⟩
 | false=>
  obtain⟨Y,b1⟩:=z c ρ σ (H++X) Φ b (s.ext X) (by simpa using h)
  exact⟨X++Y,by simp[tIf,a1,b1]⟩
noncomputable def pIf(b:PB)(p q:PE): PE:=fun σ=>(b σ).bind fun x=>if x then p σ else q σ
noncomputable def ZnU(p:PE): PE:=fun σ=>(p σ).bind fun t=>(Zbt t).map fun b=>.bool !b
noncomputable def Zkw(p q:PE): PE:=fun σ=>(p σ).bind fun t=>(Zbt t).bind fun b=>if b then q σ else some t
noncomputable def pOr(p q:PE): PE:=fun σ=>(p σ).bind fun t=>(Zbt t).bind fun b=>if b then some t else q σ
theorem E.ife{M:List Nat}{b:Ts}{pb:PB}{e f:Ex}{p q:PE}(z:Bt O b pb)(x:E O N u e p)(y:E O M u f q): E O (N++M) u (eIf b e f) (pIf pb p q):=fun c ρ σ H Φ t s h=>by
 obtain⟨b',h1,h⟩:=Zz0.mp h
 obtain⟨X,a1⟩:=z c ρ σ H Φ b' s h1
 cases b' with
 | true=>
  obtain⟨v,Y,F,b1,b2,b3,b4⟩:=x c ρ σ (H++X) Φ t (s.ext X) (by simpa using h)
  exact⟨v,X++Y,F,by simp[eIf,a1,b1],by rw[←List.append_assoc];exact b2,fun a m=>(b3 a m).back.mono fun i hi=>List.mem_append_left _ hi,b4⟩
 | false=>
  obtain⟨v,Y,F,b1,b2,b3,b4⟩:=y c ρ σ (H++X) Φ t (s.ext X) (by simpa using h)
  exact⟨v,X++Y,F,by simp[eIf,a1,b1],by rw[←List.append_assoc];exact b2,fun a m=>(b3 a m).back.mono fun i hi=>List.mem_append_right _ hi,b4⟩
theorem ZzN{e:Ex}{p:PE}(x:E O N u e p): E O [] true (ZnQ e) (ZnU p):=fun c ρ σ H Φ t s h=>by
 obtain⟨t1,h1,h⟩:=Zz0.mp h
 obtain⟨b,h2,h⟩:=Zz1.mp h
 subst h
 obtain⟨v,X,F,a1,a2,a3,a4⟩:=x c ρ σ H Φ t1 s h1
 exact⟨.bool !b,X,[],by simp only[ZnQ,a1,Option.bind_some,ZdS a2 h2,Option.map_some],.bool _,by simp,by simp⟩
theorem Zio{M:List Nat}{e f:Ex}{p q:PE}(x:E O N u e p)(y:E O M u f q): E O (N++M) u (Ziw e f) (Zkw p q):=fun c ρ σ H Φ t s h=>by
 obtain⟨t1,h1,h⟩:=Zz0.mp h
 obtain⟨b,h2,h⟩:=Zz0.mp h
 obtain⟨v,X,F,a1,a2,a3,a4⟩:=x c ρ σ H Φ t1 s h1
 cases b with
 | true=>
  obtain⟨w,Y,F',b1,b2,b3,b4⟩:=y c ρ σ (H++X) Φ t (s.ext X) (by simpa using h)
  exact⟨w,X++Y,F',by simp[Ziw,a1,ZdS a2 h2,b1],by rw[←List.append_assoc];exact b2,fun a m=>(b3 a m).back.mono fun i hi=>List.mem_append_right _ hi,b4⟩
 | false=>
  cases h
  exact⟨v,X,F,by simp[Ziw,a1,ZdS a2 h2],a2,fun a m=>(a3 a m).mono fun i hi=>List.mem_append_left _ hi,a4⟩
theorem ZAF{M:List Nat}{e f:Ex}{p q:PE}(x:E O N u e p)(y:E O M u f q): E O (N++M) u (eOr e f) (pOr p q):=fun c ρ σ H Φ t s h=>by
 obtain⟨t1,h1,h⟩:=Zz0.mp h
 obtain⟨b,h2,h⟩:=Zz0.mp h
 obtain⟨v,X,F,a1,a2,a3,a4⟩:=x c ρ σ H Φ t1 s h1
 cases b with
 | false=>
  obtain⟨w,Y,F',b1,b2,b3,b4⟩:=y c ρ σ (H++X) Φ t (s.ext X) (by simpa using h)
  exact⟨w,X++Y,F',by simp[eOr,a1,ZdS a2 h2,b1],by rw[←List.append_assoc];exact b2,fun a m=>(b3 a m).back.mono fun i hi=>List.mem_append_right _ hi,b4⟩
 | true=>
  cases h
  exact⟨v,X,F,by simp[eOr,a1,ZdS a2 h2],a2,fun a m=>(a3 a m).mono fun i hi=>List.mem_append_left _ hi,a4⟩
noncomputable def ZmJ: T→String
 | .none=>"NoneType"
 | .bool _=>"bool"
 | .int _=>"int"
 | .str _=>"str"
 | .tup _=>"tuple"
 | .lst _=>"list"
end
end TM
end
section
namespace TM
open PySem PM
section
variable {O N:List Nat} {u:Bool}
noncomputable def ZjE(K:String)(t:T): Bool:=ZmJ t == K || (K == "int" && ZmJ t == "bool")
noncomputable def pIs(K:String)(p:PE): PE:=fun σ=>(p σ).map fun t=>.bool (ZjE K t)
theorem Zw3{H:Hp}{v:V}{t:T}{F:List Nat}(r:RF H v t F): ZmI v=ZmJ t:=by cases r <;> rfl
theorem ZdL{K:String}{e:Ex}{p:PE}(x:E O N u e p): E O [] true (eIs K e) (pIs K p):=fun c ρ σ H Φ t s h=>by
 obtain⟨t1,h1,h⟩:=Zz1.mp h
 subst h
 obtain⟨v,X,F,a1,a2,a3,a4⟩:=x c ρ σ H Φ t1 s h1
 exact⟨.bool (ZjE K t1),X,[],by simp only[eIs,a1,Option.map_some,Zm9,ZjE,Zw3 a2],.bool _,by simp,by simp⟩
noncomputable def Zdr: T→T→Option T
 | .int a,.int b=>some (.int (a-b))
 | _,_=>none
noncomputable def ZiB: T→T→Option T
 | .int a,.int b=>if b≠0∧Builtin.divisionGoesByPylong a b=false then some (.int (a.fdiv b))else none
 | _,_=>none
noncomputable def Zkx: T→T→Option T
 | .int a,.int b=>if b≠0 then some (.int (a.fmod b))else none
 | _,_=>none
noncomputable def ZcS: T→T→Option T
 | .int a,.int b=>if 0≤b∧(Builtin.Int.intBits a:Int)*b≤2 ^ 27 then some (.int (a ^ b.toNat))else none
 | _,_=>none
noncomputable def ZiC: T→Option T
 | .int a=>some (.int (-a))
 | _=>none
noncomputable def Zky(p:Int→Int→Bool): T→T→Option T
 | .int a,.int b=>some (.bool (p a b))
 | _,_=>none
noncomputable def qLt:=Zky fun a b=>decide (a<b)
noncomputable def qLe:=Zky fun a b=>decide (a≤b)
noncomputable def qGt:=Zky fun a b=>decide (b<a)
theorem ZaX: OA2 ZeX Zdr:=fun H v1 v2 t1 t2 t F1 F2 r1 r2 h=>by
 cases r1 <;> first | (cases h;done) | (cases r2 <;> first | (cases h;done) | (cases h;exact⟨_,rfl,.int _⟩))
theorem Zcr: OA2 oDiv ZiB:=fun H v1 v2 t1 t2 t F1 F2 r1 r2 h=>by
 cases r1 <;> first | (cases h;done) | skip
 cases r2 <;> first | (cases h;done) | skip
 simp only[ZiB]at h
 split at h
 ·rename_i hc;cases h;exact⟨_,by simp only[oDiv];rw[if_pos hc],.int _⟩
 ·cases h
theorem ZaD: OA2 oMod Zkx:=fun H v1 v2 t1 t2 t F1 F2 r1 r2 h=>by
 cases r1 <;> first | (cases h;done) | skip
 cases r2 <;> first | (cases h;done) | skip
 simp only[Zkx]at h
 split at h
 ·rename_i hc;cases h;exact⟨_,by simp only[oMod];rw[if_pos hc],.int _⟩
 ·cases h
theorem Zip: OA2 oPow ZcS:=fun H v1 v2 t1 t2 t F1 F2 r1 r2 h=>by
 cases r1 <;> first | (cases h;done) | skip
 cases r2 <;> first | (cases h;done) | skip
 simp only[ZcS]at h
 split at h
 ·rename_i hc;cases h;exact⟨_,by simp only[oPow];rw[if_pos hc],.int _⟩
 ·cases h
theorem ZbV: OA1 Zix ZiC:=fun H v1 t1 t F1 r1 h=>by
 cases r1 <;> first | (cases h;done) | (cases h;exact⟨_,rfl,.int _⟩)
theorem ZnD(p:Int→Int→Bool): OA2 (Zkr p) (Zky p):=fun H v1 v2 t1 t2 t F1 F2 r1 r2 h=>by
 cases r1 <;> first | (cases h;done) | (cases r2 <;> first | (cases h;done) | (cases h;exact⟨_,rfl,.bool _⟩))
theorem ZcH: OA2 oLt qLt:=ZnD _
theorem ZnV: OA2 oLe qLe:=ZnD _
theorem ZdM: OA2 oGt qGt:=ZnD _
noncomputable def ZeP(f:T→Option PyData): List T→Option (List PyData)
 | []=>some []
 | v::vs=>(f v).bind fun d=>(ZeP f vs).bind fun ds=>some (d::ds)
noncomputable def ZcI: Nat→T→Option PyData
 | _,.none=>some .none
 | _,.bool b=>some (.bool b)
 | _,.int i=>some (.int i)
 | _,.str x=>some (.str x)
 | n+1,.tup vs=>(ZeP (ZcI n) vs).map .tuple
 | n+1,.lst vs=>(ZeP (ZcI n) vs).map .list
 | 0,.tup _=>none
 | 0,.lst _=>none
theorem ZmK{H:Hp}{f:V→Option PyData}{g:T→Option PyData}(h:∀v t F,RF H v t F→f v=g t): ∀{vs:List V} {ts:List T} {F:List Nat},RFs H vs ts F→ZfQ f vs=ZeP g ts
 | _,_,_,.nil=>rfl
 | _,_,_,.cons a b=>by simp only[ZfQ,ZeP,h _ _ _ a,ZmK h b]
theorem Zj1{H:Hp}: ∀(n:Nat) (v:V) (t:T) (F:List Nat),RF H v t F→toD H n v=ZcI n t:=by
 intro n
 induction n with
 | zero=>intro v t F r;cases r <;> rfl
 | succ n ih=>
  intro v t F r
  cases r with
  | none=>rfl
  | bool=>rfl
  | int=>rfl
  | str=>rfl
  | tup hs=>simp only[toD,ZcI,ZmK ih hs]
  | ref e hs=>simp only[toD,ZcI,e,Option.bind_some,ZmK ih hs]
noncomputable def Zea(a b:T): Option Bool:=(ZcI Zbo a).bind fun d=>(ZcI Zbo b).bind fun e=>if SeqAt.shaped d=true∧SeqAt.shaped e=true then some (PyData.eqv d e)else none
noncomputable def qEq(a b:T): Option T:=(Zea a b).map .bool
noncomputable def qNe(a b:T): Option T:=(Zea a b).map fun c=>.bool !c
theorem ZrF{H:Hp}{v1 v2:V}{t1 t2:T}{F1 F2:List Nat}(r1:RF H v1 t1 F1)(r2:RF H v2 t2 F2): Zks v1 v2 H=Zea t1 t2:=by
 simp only[Zks,Zea,Zj1 Zbo _ _ _ r1,Zj1 Zbo _ _ _ r2]
theorem Zaf: OA2 oEq qEq:=fun H v1 v2 t1 t2 t F1 F2 r1 r2 h=>by
 obtain⟨c,h1,h⟩:=Zz1.mp h
 subst h
 exact⟨_,by simp only[oEq,ZrF r1 r2,h1,Option.map_some],.bool _⟩
theorem Zct: OA2 oNe qNe:=fun H v1 v2 t1 t2 t F1 F2 r1 r2 h=>by
 obtain⟨c,h1,h⟩:=Zz1.mp h
 subst h
 exact⟨_,by simp only[oNe,ZrF r1 r2,h1,Option.map_some],.bool _⟩
noncomputable def qIs: T→T→Option T
 | .none,.none=>some (.bool true)
 | _,.none=>some (.bool false)
 | _,_=>none
noncomputable def ZfA: T→T→Option T
 | .none,.none=>some (.bool false)
 | _,.none=>some (.bool true)
 | _,_=>none
theorem ZbB: OA2 oIs qIs:=fun H v1 v2 t1 t2 t F1 F2 r1 r2 h=>by
 cases r1 <;> cases r2 <;> first | (cases h;done) | (cases h;exact⟨_,rfl,.bool _⟩)
theorem ZbG: OA2 Zm8 ZfA:=fun H v1 v2 t1 t2 t F1 F2 r1 r2 h=>by
 cases r1 <;> cases r2 <;> first | (cases h;done) | (cases h;exact⟨_,rfl,.bool _⟩)
noncomputable def Z5: T→T→Option T
 | .lst ts,.int k=>(seqIndex? k ts.length).bind fun j=>ts[j]?
 | .tup ts,.int k=>(seqIndex? k ts.length).bind fun j=>ts[j]?
 | _,_=>none
theorem Zn: OI2 Z3 Z5:=fun H v1 v2 t1 t2 t F1 F2 r1 r2 h=>by
 cases r1 with
 | none=>cases h
 | bool=>cases h
 | int=>cases h
 | str=>cases h
 | tup hs=>
  cases r2 <;> first | (cases h;done) | skip
  obtain⟨j,h1,h2⟩:=Zz0.mp h
  obtain⟨v,G,e1,e2,e3⟩:=hs.at h2
  exact⟨v,G,by simp only[Z3,hs.length,h1,Option.bind_some,e1,Option.map_some],e2,e3⟩
 | ref e hs=>
  cases r2 <;> first | (cases h;done) | skip
  obtain⟨j,h1,h2⟩:=Zz0.mp h
  obtain⟨v,G,e1,e2,e3⟩:=hs.at h2
  exact⟨v,G,by simp only[Z3,e,Option.bind_some,hs.length,h1,e1,Option.map_some],e2,e3.trans (List.sublist_cons_self _ _)⟩
noncomputable def Zbc: List T→Option T
 | [.lst ts]=>some (.int ts.length)
 | [.tup ts]=>some (.int ts.length)
 | _=>none
theorem RFs.one_inv{H:Hp}{vs:List V}{t:T}{F:List Nat}(r:RFs H vs [t] F): ∃v,vs=[v]∧RF H v t F:=by
 cases r with
 | cons a b=>cases b;rw[List.append_nil];exact⟨_,rfl,a⟩
theorem RFs.two_inv{H:Hp}{vs:List V}{t t':T}{F:List Nat}(r:RFs H vs [t,t'] F): ∃v v' F1 F2,vs=[v,v']∧RF H v t F1∧RF H v' t' F2∧F=F1++F2:=by
 cases r with
 | cons a b=>obtain⟨v',h1,h2⟩:=b.one_inv;subst h1;exact⟨_,_,_,_,rfl,a,h2,rfl⟩
theorem Zay: OAn ZbL Zbc:=fun H vs ts t F r h=>by
 unfold Zbc at h
 split at h
 ·obtain⟨v,rfl,r'⟩:=r.one_inv
  cases r' with
  | ref e hs=>cases h;exact⟨_,by simp only[ZbL,e,Option.map_some,hs.length],.int _⟩
 ·obtain⟨v,rfl,r'⟩:=r.one_inv
  cases r' with
  | tup hs=>cases h;exact⟨_,by simp only[ZbL,hs.length],.int _⟩
 ·cases h
noncomputable def ZnW: List T→Option T
 | [.int a]=>some (.int (if a<0 then -a else a))
 | _=>none
theorem Zc0: OAn ZnR ZnW:=fun H vs ts t F r h=>by
 unfold ZnW at h
 split at h
 ·obtain⟨v,rfl,r'⟩:=r.one_inv
  cases r';cases h;exact⟨_,rfl,.int _⟩
 ·cases h
noncomputable def ZnE: List T→Option T
 | [.int a,.int b]=>some (.int (if b>a then b else a))
 | _=>none
theorem Zyz: OAn ZnB ZnE:=fun H vs ts t F r h=>by
 unfold ZnE at h
 split at h
 ·obtain⟨v,w,F1,F2,rfl,r1,r2,_⟩:=r.two_inv
  cases r1;cases r2;cases h;exact⟨_,rfl,.int _⟩
 ·cases h
noncomputable def Zc1: List T→Option (List Int)
 | []=>some []
 | .int k::vs=>(Zc1 vs).map fun ks=>k::ks
 | _::_=>none
noncomputable def ZfB: List T→Option (List Bool)
 | []=>some []
 | .bool k::vs=>(ZfB vs).map fun ks=>k::ks
 | _::_=>none
theorem ZjF{H:Hp}: ∀{vs:List V} {ts:List T} {F:List Nat} {ks:List Int},RFs H vs ts F→Zc1 ts=some ks→Zdj vs=some ks
 | _,_,_,_,.nil,h=>h
 | _,_,_,_,.cons a b,h=>by
  cases a <;> first | (cases h;done) | skip
  obtain⟨js,h1,h2⟩:=Zz1.mp h
  subst h2
  simp only[Zdj,ZjF b h1,Option.map_some]
theorem Zqc{H:Hp}: ∀{vs:List V} {ts:List T} {F:List Nat} {ks:List Bool},RFs H vs ts F→ZfB ts=some ks→Zfq vs=some ks
 | _,_,_,_,.nil,h=>h
 | _,_,_,_,.cons a b,h=>by
  cases a <;> first | (cases h;done) | skip
  obtain⟨js,h1,h2⟩:=Zz1.mp h
  subst h2
  simp only[Zfq,Zqc b h1,Option.map_some]
noncomputable def ZnX: List T→Option T
 | [.lst ts]=>(Zc1 ts).map fun ks=>.int ks.sum
 | _=>none
noncomputable def Zkz: List T→Option T
 | [.lst ts]=>(ZfB ts).map fun bs=>.bool (bs.any id)
 | _=>none
theorem ZzO: OAn Zkt ZnX:=fun H vs ts t F r h=>by
 unfold ZnX at h
 split at h
 ·obtain⟨v,rfl,r'⟩:=r.one_inv
  cases r' with
  | ref e hs=>
   obtain⟨ks,h1,h2⟩:=Zz1.mp h
   subst h2
   exact⟨_,by simp only[Zkt,e,Option.bind_some,ZjF hs h1,Option.map_some],.int _⟩
 ·cases h
theorem ZzP: OAn Zkv Zkz:=fun H vs ts t F r h=>by
 unfold Zkz at h
 split at h
 ·obtain⟨v,rfl,r'⟩:=r.one_inv
  cases r' with
  | ref e hs=>
   obtain⟨ks,h1,h2⟩:=Zz1.mp h
   subst h2
   exact⟨_,by simp only[Zkv,e,Option.bind_some,Zqc hs h1,Option.map_some],.bool _⟩
 ·cases h
theorem Zds{H:Hp}{vs:List V}{ts:List T}{F:List Nat}(r:RFs H vs ts F): RF (H++[vs]) (.ref H.length) (.lst ts) (H.length::F):=.ref (by simp) (r.ext _)
theorem Zen{H:Hp}{vs:List V}{ts:List T}{F:List Nat}(r:RFs H vs ts F)(h:T.flatIn (.lst ts)=true): (H.length::F).Nodup∧∀a∈H.length::F,H.length≤a:=by
 rw[r.flats (by simpa [T.flatIn]using h)]
 simp
theorem ZvV{H:Hp}{v:V}{t:T}{F:List Nat}(r:RF H v t F)(h:F=[]): F.Nodup∧∀a∈F,H.length≤a:=by subst h;simp
noncomputable def ZiD(ts:List T): Nat→List T
 | 0=>[]
 | n+1=>ZiD ts n++ts
noncomputable def Zaj: T→T→Option T
 | .int a,.int b=>some (.int (a+b))
 | .lst a,.lst b=>if(a++b).length≤LEN then some (.lst (a++b))else none
 | .tup a,.tup b=>if(a++b).length≤LEN then some (.tup (a++b))else none
 | _,_=>none
noncomputable def Zc3: T→T→Option T
 | .int a,.int b=>if mulOk a b=true then some (.int (a*b))else none
 | .lst a,.int k=>if a.length*k.toNat≤LEN∧-(2 ^ 63:Int)≤k∧k<2 ^ 63 then some (.lst (ZiD a k.toNat))else none
 | _,_=>none
theorem ZrG{H:Hp}{vs:List V}{ts:List T}{F:List Nat}(r:RFs H vs ts F): ∀n,∃G,RFs H (ZeY vs n) (ZiD ts n) G∧∀a∈G,a∈F
 | 0=>⟨_,.nil,by simp⟩
 | n+1=>by
  obtain⟨G,h1,h2⟩:=ZrG r n
  exact⟨_,h1.append r,fun a m=>(Zz8.mp m).elim (h2 a) id⟩
theorem ZZ: OC2 Zas Zaj:=fun H v1 v2 t1 t2 t F1 F2 r1 r2 h=>by
 cases r1 with
 | none=>cases h
 | bool=>cases h
 | str=>cases h
 | int a=>
  cases r2 <;> first | (cases h;done) | skip
  cases h;exact⟨_,[],[],by simp[Zas],.int _,by simp,by simp⟩
 | tup hs1=>
  cases r2 with
  | none=>cases h
  | bool=>cases h
  | str=>cases h
  | int=>cases h
  | ref=>cases h
  | tup hs2=>
   simp only[Zaj]at h
   split at h
   ·rename_i hl
    cases h
    refine⟨_,[],_,?_,.tup (by simpa using hs1.append hs2),fun a m=>.inr (Zz8.mp m),fun hf=>ZvV (H:=H) (.tup (hs1.append hs2)) ((RF.tup (hs1.append hs2)).flat (by simpa [T.flatIn]using hf))⟩
    simp only[Zas,List.append_nil]
    rw[if_pos (by rw[List.length_append]at hl ⊢;rw[hs1.length,hs2.length];exact hl)]
   ·cases h
 | ref e1 hs1=>
  cases r2 with
  | none=>cases h
  | bool=>cases h
  | str=>cases h
  | int=>cases h
  | tup=>cases h
  | ref e2 hs2=>
   simp only[Zaj]at h
   split at h
   ·rename_i hl
    cases h
    refine⟨_,_,_,?_,Zds (hs1.append hs2),fun a m=>?_,Zen (hs1.append hs2)⟩
    ·simp only[Zas,e1,e2,Option.bind_some]
     rw[if_pos (by rw[List.length_append]at hl ⊢;rw[hs1.length,hs2.length];exact hl)]
    ·rcases Zz7.mp m with rfl | m
     ·exact .inl (Zz10 _)
     ·rcases Zz8.mp m with m | m
      ·exact .inr (.inl (Zz2 _ m))
      ·exact .inr (.inr (Zz2 _ m))
   ·cases h
theorem Zba: OC2 Zd9 Zc3:=fun H v1 v2 t1 t2 t F1 F2 r1 r2 h=>by
 cases r1 with
 | none=>cases h
 | bool=>cases h
 | str=>cases h
 | tup=>cases h
 | int a=>
  cases r2 <;> first | (cases h;done) | skip
  simp only[Zc3]at h
  split at h
  ·rename_i hm
   cases h;exact⟨_,[],[],by simp only[Zd9];rw[if_pos hm];simp,.int _,by simp,by simp⟩
  ·cases h
 | ref e1 hs1=>
  cases r2 with
  | none=>cases h
  | bool=>cases h
  | str=>cases h
  | tup=>cases h
  | ref=>cases h
  | int k=>
   simp only[Zc3]at h
   split at h
   ·rename_i hl
    cases h
    obtain⟨G,h1,h2⟩:=ZrG hs1 k.toNat
    refine⟨_,_,_,?_,Zds h1,fun a m=>?_,Zen h1⟩
    ·simp only[Zd9,e1,Option.bind_some]
     rw[if_pos (by rw[hs1.length];exact hl)]
    ·rcases Zz7.mp m with rfl | m
     ·exact .inl (Zz10 _)
     ·exact .inr (.inl (Zz2 _ (h2 a m)))
   ·cases h
noncomputable def ZfC: List T→Option T
 | [.lst ts]=>some (.lst ts)
 | [.tup ts]=>some (.lst ts)
 | _=>none
noncomputable def ZjG: List T→Option T
 | [.lst ts]=>some (.tup ts)
 | [.tup ts]=>some (.tup ts)
 | _=>none
theorem ZmL: OCn ZeI ZfC:=fun H vs ts t F hp r h=>by
 unfold ZfC at h
 split at h
 ·obtain⟨v,rfl,r'⟩:=r.one_inv
  cases r' with
  | ref e hs=>cases h;exact⟨_,_,_,by simp only[ZeI,e,Option.map_some],Zds hs,fun a m=>(Zz7.mp m).imp (fun q=>Nat.le_of_eq q.symm) (Zz2 _),Zen hs⟩
 ·obtain⟨v,rfl,r'⟩:=r.one_inv
  cases r' with
  | tup hs=>cases h;exact⟨_,_,_,by simp only[ZeI],Zds hs,fun a m=>(Zz7.mp m).imp (fun q=>Nat.le_of_eq q.symm) id,Zen hs⟩
 ·cases h
end
end TM
end
section
namespace TM
open PySem PM
theorem St.from_src{c:Ctx}{O N:List Nat}{ρ:Lc}{σ:TL}{H:Hp}{Φ:Nat→List Nat}(s:St c O ρ σ H Φ){a:Nat}(f:From H N σ Φ a): c.H0.length≤a∨c.P a:=by
 rcases f with h | ⟨i,hi,⟨t,e⟩,m⟩
 ·exact .inl (Nat.le_trans s.len h)
 ·exact s.src i t e a m
theorem St.from_off{c:Ctx}{O N:List Nat}{ρ:Lc}{σ:TL}{H:Hp}{Φ:Nat→List Nat}(s:St c O ρ σ H Φ)(hN:∀i∈N,i∉O){a:Nat}(f:From H N σ Φ a){i:Nat}(hi:i∈O){t:T}(e:σ i=some t): a∉Φ i:=by
 intro m
 obtain⟨v,_,r⟩:=s.slot i t e
 have hl:=r.lt a m
 rcases f with h | ⟨j,hj,⟨t',e'⟩,m'⟩
 ·omega
 ·exact(s.own i hi t e).2.2 j t' (fun q=>hN j hj (q▸hi)) e' a m m'
noncomputable abbrev PPt:=TL→Option (Option Int)
noncomputable def Zdk: PPt:=fun _=>some none
noncomputable def Zb7(p:PE): PPt:=fun σ=>(p σ).bind fun t=>match t with
 | .int k=>some (some k)
 | _=>none
def Pe(O:List Nat)(f:Pt)(p:PPt): Prop:=∀(c:Ctx) (ρ:Lc) (σ:TL) (H:Hp) (Φ:Nat→List Nat) (k:Option Int),St c O ρ σ H Φ→p σ=some k→∃o X,f ρ H=some (o,H++X)∧Zik o=some k
section
variable {O N:List Nat} {u:Bool}
theorem Pe.none: Pe O PM.ZdD Zdk:=fun c ρ σ H Φ k s h=>by
 cases h;exact⟨Option.none,[],by simp[PM.ZdD],rfl⟩
theorem Pe.some{e:Ex}{p:PE}(x:E O N u e p): Pe O (ZcB e) (Zb7 p):=fun c ρ σ H Φ k s h=>by
 obtain⟨t,h1,h⟩:=Zz0.mp h
 obtain⟨v,X,F,a1,a2,a3,a4⟩:=x c ρ σ H Φ t s h1
 cases a2 <;> first | (cases h;done) | skip
 rename_i k'
 cases h
 exact⟨Option.some (.int k'),X,by simp only[ZcB,a1,Option.map_some],rfl⟩
noncomputable def Zb8(p:PE)(lo hi:PPt): PE:=fun σ=>(p σ).bind fun t=>(lo σ).bind fun a=>(hi σ).bind fun b=>match t with
 | .lst ts=>Option.some (.lst (Za4 ts a b))
 | _=>Option.none
theorem RFs.pick{H:Hp}{vs:List V}{ts:List T}{F:List Nat}(h:RFs H vs ts F)(l:List Nat): ∃G,RFs H (l.filterMap fun i=>vs[i]?) (l.filterMap fun i=>ts[i]?) G∧∀a∈G,a∈F:=by
 induction l with
 | nil=>exact⟨_,.nil,by simp⟩
 | cons i l ih=>
  obtain⟨G,h1,h2⟩:=ih
  simp only[List.filterMap_cons]
  have hl:=h.length
  cases e:ts[i]? with
  | none=>
   have:vs[i]?=none:=by rw[List.getElem?_eq_none_iff]at e ⊢;omega
   rw[this]
   exact⟨G,h1,h2⟩
  | some t=>
   obtain⟨x,G',hx,hr,hs⟩:=h.at e
   rw[hx]
   exact⟨_,.cons hr h1,fun a m=>(Zz8.mp m).elim (fun q=>hs.subset q) (h2 a)⟩
theorem Zuj{c:Ctx}{ρ:Lc}{σ:TL}{H:Hp}{Φ:Nat→List Nat}{t:T}{e:Ex}{p:PE}{lo hi:Pt}{plo phi:PPt}(x:E O N u e p)(y:Pe O lo plo)(z:Pe O hi phi)(s:St c O ρ σ H Φ)(h:Zb8 p plo phi σ=Option.some t):
  ∃v X F,Zcl e lo hi ρ H=Option.some (v,H++X)∧RF (H++X) v t F∧(∀a∈F,From H N σ Φ a)∧(t.flatIn=true→F.Nodup∧∀a∈F,H.length≤a):=by
 obtain⟨t1,h1,h⟩:=Zz0.mp h
 obtain⟨a,h2,h⟩:=Zz0.mp h
 obtain⟨b,h3,h⟩:=Zz0.mp h
 obtain⟨v,X,F,a1,a2,a3,a4⟩:=x c ρ σ H Φ t1 s h1
 obtain⟨o1,Y,b1,b2⟩:=y c ρ σ (H++X) Φ a (s.ext X) h2
 obtain⟨o2,Z,c1,c2⟩:=z c ρ σ (H++X++Y) Φ b ((s.ext X).ext Y) h3
 cases a2 with
 | none=>cases h
 | bool=>cases h
 | int=>cases h
 | str=>cases h
 | tup=>cases h
 | @ref i vs ts F e1 hs=>
 cases h
 have e3:((H++X)++(Y++Z))[i]?=Option.some vs:=by rw[List.getElem?_append_left (Zz6.mp e1).1];exact e1
 have hs':=hs.ext (Y++Z)
 have hlen:=hs.length
 obtain⟨G,g1,g2⟩:=hs'.pick (sliceRange (sliceBounds a b none vs.length).1 (sliceBounds a b none vs.length).2.1 (sliceBounds a b none vs.length).2.2)
 have g1':RFs (H++X++(Y++Z)) (Za4 vs a b) (Za4 ts a b) G:=by unfold Za4;rw[←hlen];exact g1
 refine⟨.ref (H++X++(Y++Z)).length,X++(Y++Z)++[Za4 vs a b],(H++X++(Y++Z)).length::G,?_,?_,fun q m=>?_,fun hf=>?_⟩
 ·simp only[Zcl,a1,Option.bind_some,b1,c1,b2,c2]
  rw[List.append_assoc (H++X),e3]
  simp
 ·have:=Zds g1'
  simpa using this
 ·rcases Zz7.mp m with rfl | m
  ·exact .inl (by simp)
  ·exact a3 q (Zz2 _ (g2 q m))
 ·have:=Zen g1' hf
  exact⟨this.1,fun q m=>by have:=this.2 q m;simp at this;omega⟩
theorem ZdX{e:Ex}{p:PE}{lo hi:Pt}{plo phi:PPt}(x:E O N u e p)(y:Pe O lo plo)(z:Pe O hi phi): E O N false (Zcl e lo hi) (Zb8 p plo phi):=fun c ρ σ H Φ t s h=>by
 obtain⟨v,X,F,a1,a2,a3,a4⟩:=Zuj x y z s h
 exact⟨v,X,F,a1,a2,a3,by simp⟩
noncomputable def Zkm(p:PE)(k:Nat): PE:=fun σ=>(p σ).bind fun t=>match t with
 | .lst ts=>Option.some (.lst (ts.drop k))
 | .tup ts=>if 1≤k∧k≤ts.length then Option.some (.tup (ts.drop k))else Option.none
 | _=>Option.none
theorem Zva{c:Ctx}{ρ:Lc}{σ:TL}{H:Hp}{Φ:Nat→List Nat}{t:T}{e:Ex}{p:PE}{k:Nat}(x:E O N u e p)(s:St c O ρ σ H Φ)(h:Zkm p k σ=Option.some t):
  ∃v X F,Zim e k ρ H=Option.some (v,H++X)∧RF (H++X) v t F∧(∀a∈F,From H N σ Φ a)∧(t.flatIn=true→F.Nodup∧∀a∈F,H.length≤a):=by
 obtain⟨t1,h1,h⟩:=Zz0.mp h
 obtain⟨v,X,F,a1,a2,a3,a4⟩:=x c ρ σ H Φ t1 s h1
 cases a2 with
 | none=>cases h
 | bool=>cases h
 | int=>cases h
 | str=>cases h
 | tup hs=>
  simp only at h
  split at h
  ·rename_i hc
   cases h
   obtain⟨G,g1,g2⟩:=hs.drop k
   refine⟨_,X,G,?_,.tup g1,fun a m=>a3 a (g2.subset m),fun hf=>?_⟩
   ·simp only[Zim,a1,Option.bind_some]
    rw[if_pos (by rw[hs.length];exact hc)]
   ·rw[g1.flats (by simpa [T.flatIn,T.flat]using hf)]
    simp
  ·cases h
 | @ref b vs1 ts1 F1 e1 hs=>
  cases h
  obtain⟨G,g1,g2⟩:=hs.drop k
  refine⟨.ref (H++X).length,X++[vs1.drop k],(H++X).length::G,?_,?_,fun a m=>?_,fun hf=>?_⟩
  ·simp only[Zim,a1,Option.bind_some,e1,List.append_assoc]
  ·rw[←List.append_assoc];exact Zds g1
  ·rcases Zz7.mp m with rfl | m
   ·exact .inl (by simp)
   ·exact a3 a (Zz2 _ (g2.subset m))
  ·have:=Zen g1 hf
   exact⟨this.1,fun q m=>by have:=this.2 q m;simp at this;omega⟩
theorem Zj2{e:Ex}{p:PE}{k:Nat}(x:E O N u e p): E O N false (Zim e k) (Zkm p k):=fun c ρ σ H Φ t s h=>by
 obtain⟨v,X,F,a1,a2,a3,a4⟩:=Zva x s h
 exact⟨v,X,F,a1,a2,a3,by simp⟩
end
def Gs(O N:List Nat)(g:Src)(q:PG): Prop:=∀(c:Ctx) (ρ:Lc) (σ:TL) (H:Hp) (Φ:Nat→List Nat) (ts:List T),St c O ρ σ H Φ→q σ=some ts →
 ∃(nx:Nx) (X:Hp) (vs:List V) (F G:List Nat),g ρ H=some (nx,ts.length+1,H++X)∧RFs (H++X) vs ts F∧(∀a∈F,a∈G)∧(∀a∈G,a<(H++X).length∧From H N σ Φ a)∧∀K:Hp,(∀a∈G,K[a]?=(H++X)[a]?)→∀i,i≤vs.length→nx i K=some vs[i]?
section
variable {O N M:List Nat} {u u':Bool}
noncomputable def Zc4(p:PE): PG:=fun σ=>(p σ).bind fun t=>match t with
 | .lst ts=>some ts
 | .tup ts=>some ts
 | _=>none
theorem Gs.seq{e:Ex}{p:PE}(x:E O N u e p): Gs O N (ZdJ e) (Zc4 p):=fun c ρ σ H Φ ts s h=>by
 obtain⟨t1,h1,h⟩:=Zz0.mp h
 obtain⟨v,X,F,a1,a2,a3,a4⟩:=x c ρ σ H Φ t1 s h1
 have hlt:=a2.lt
 cases a2 with
 | none=>cases h
 | bool=>cases h
 | int=>cases h
 | str=>cases h
 | @tup vs _ _ hs=>
  cases h
  exact⟨ZrC vs,X,vs,F,F,by simp only[ZdJ,a1,Option.bind_some,hs.length],hs,fun _ m=>m,fun a m=>⟨hlt a m,a3 a m⟩,fun K _ i hi=>rfl⟩
 | @ref b vs _ F' e1 hs=>
  cases h
  refine⟨Zna b,X,vs,F',b::F',by simp only[ZdJ,a1,Option.bind_some,e1,Option.map_some,hs.length],hs,fun _ m=>List.mem_cons_of_mem _ m,fun a m=>⟨hlt a m,a3 a m⟩,fun K hK i hi=>?_⟩
  simp only[Zna,hK b Zz5,e1,Option.map_some]
noncomputable def ZbZ(a b c:Int): Option (List T):=if c≠0∧Builtin.Range.small a b c=true∧0≤Builtin.Range.rangeSize a b c∧rngN a b c≤LEN∧Builtin.divisionGoesByPylong (b-a) c=false then some ((List.range (rngN a b c)).map fun(i:Nat)=>.int (a+(i:Int)*c))else none
noncomputable def Zbu(p:PEs): PG:=fun σ=>(p σ).bind fun ts=>match ts with
 | [.int b]=>ZbZ 0 b 1
 | [.int a,.int b]=>ZbZ a b 1
 | [.int a,.int b,.int c]=>ZbZ a b c
 | _=>none
theorem Zqd(H:Hp)(a c:Int): ∀(l:List Nat),RFs H (l.map fun(i:Nat)=>.int (a+(i:Int)*c)) (l.map fun(i:Nat)=>.int (a+(i:Int)*c)) []
 | []=>.nil
 | i::l=>by have:=RFs.cons (RF.int (H:=H) (a+i*c)) (Zqd H a c l);exact this
theorem Zmi{a b c:Int}{H:Hp}{ts:List T}(h:ZbZ a b c=some ts): ∃(nx:Nx) (vs:List V),Zb4 a b c H=some (nx,ts.length+1,H)∧RFs H vs ts []∧∀K:Hp,∀i,i≤vs.length→nx i K=some vs[i]?:=by
 unfold ZbZ at h
 split at h
 ·rename_i hc
  cases h
  refine⟨Zey a c (rngN a b c),(List.range (rngN a b c)).map fun(i:Nat)=>.int (a+(i:Int)*c),?_,Zqd H a c _,fun K i hi=>?_⟩
  ·unfold Zb4
   rw[if_pos hc]
   simp
  ·simp only[Zey,List.getElem?_map]
   by_cases q:i<rngN a b c
   ·rw[if_pos q,List.getElem?_range q];rfl
   ·rw[if_neg q,List.getElem?_eq_none (by simpa using Nat.le_of_not_lt q)];rfl
 ·cases h
theorem RFs.three_inv{H:Hp}{vs:List V}{t t' t'':T}{F:List Nat}(r:RFs H vs [t,t',t''] F): ∃v v' v'' F1 F2 F3,vs=[v,v',v'']∧RF H v t F1∧RF H v' t' F2∧RF H v'' t'' F3:=by
 cases r with
 | cons a b=>obtain⟨v',v'',F2,F3,h1,h2,h3,_⟩:=b.two_inv;subst h1;exact⟨_,_,_,_,_,_,rfl,a,h2,h3⟩
theorem Gs.range{n:Nat}{e:Exs}{p:PEs}(x:Es O N u n e p): Gs O [] (ZbI e) (Zbu p):=fun c ρ σ H Φ ts s h=>by
 obtain⟨t1,h1,h⟩:=Zz0.mp h
 obtain⟨_,vs,X,F,a1,a2,a3,a4⟩:=x c ρ σ H Φ t1 s h1
 split at h
 ·obtain⟨v,rfl,r⟩:=a2.one_inv
  cases r
  obtain⟨nx,us,q1,q2,q3⟩:=Zmi (H:=H++X) h
  exact⟨nx,X,us,[],[],by simp only[ZbI,a1,Option.bind_some,q1],q2,by simp,by simp,fun K _=>q3 K⟩
 ·obtain⟨v,v',F1,F2,rfl,r,r',_⟩:=a2.two_inv
  cases r;cases r'
  obtain⟨nx,us,q1,q2,q3⟩:=Zmi (H:=H++X) h
  exact⟨nx,X,us,[],[],by simp only[ZbI,a1,Option.bind_some,q1],q2,by simp,by simp,fun K _=>q3 K⟩
 ·obtain⟨v,v',v'',F1,F2,F3,rfl,r,r',r''⟩:=a2.three_inv
  cases r;cases r';cases r''
  obtain⟨nx,us,q1,q2,q3⟩:=Zmi (H:=H++X) h
  exact⟨nx,X,us,[],[],by simp only[ZbI,a1,Option.bind_some,q1],q2,by simp,by simp,fun K _=>q3 K⟩
 ·cases h
noncomputable def ZkA(p q:PE): PG:=fun σ=>(p σ).bind fun t=>(q σ).bind fun s=>match t,s with
 | .lst ts,.lst ss=>some (List.zipWith (fun x y=>.tup [x,y]) ts ss)
 | _,_=>none
theorem RFs.zip{H:Hp}: ∀{vs us:List V} {ts ss:List T} {F G:List Nat},RFs H vs ts F→RFs H us ss G→∃D,RFs H (List.zipWith (fun x y=>.tup [x,y]) vs us) (List.zipWith (fun x y=>.tup [x,y]) ts ss) D∧∀a∈D,a∈F∨a∈G
 | _,_,_,_,_,_,.nil,_=>⟨_,.nil,by simp⟩
 | _,_,_,_,_,_,.cons _ _,.nil=>⟨_,.nil,by simp⟩
 | _,_,_,_,_,_,.cons a b,.cons a' b'=>by
  obtain⟨D,h1,h2⟩:=b.zip b'
  refine⟨_,.cons (.tup (.cons a (.one a'))) h1,fun x m=>?_⟩
  rcases Zz8.mp m with m | m
  ·rcases Zz8.mp m with m | m
   ·exact .inl (Zz4 _ m)
   ·exact .inr (Zz4 _ m)
  ·exact(h2 x m).imp (Zz3 _) (Zz3 _)
theorem Gs.zip{e1 e2:Ex}{p1 p2:PE}(x:E O N u e1 p1)(y:E O M u' e2 p2): Gs O (N++M) (Zku e1 e2) (ZkA p1 p2):=fun c ρ σ H Φ ts s h=>by
 obtain⟨t1,h1,h⟩:=Zz0.mp h
 obtain⟨t2,h2,h⟩:=Zz0.mp h
 obtain⟨v,X,F,a1,a2,a3,a4⟩:=x c ρ σ H Φ t1 s h1
 obtain⟨w,Y,G,b1,b2,b3,b4⟩:=y c ρ σ (H++X) Φ t2 (s.ext X) h2
 have a2:=a2.ext Y
 have l1:=a2.lt
 have l2:=b2.lt
 rw[List.append_assoc]at a2 b2 l1 l2 b1
 cases a2 with
 | none=>cases h
 | bool=>cases h
 | int=>cases h
 | str=>cases h
 | tup=>cases b2 <;> cases h
 | @ref a vs _ F' e1 hs=>
  cases b2 with
  | none=>cases h
  | bool=>cases h
  | int=>cases h
  | str=>cases h
  | tup=>cases h
  | @ref b us _ G' e2 hs2=>
   cases h
   obtain⟨D,d1,d2⟩:=hs.zip hs2
   refine⟨Zil a b,X++Y,_,D,a::b::D,?_,d1,fun q m=>List.mem_cons_of_mem _ (Zz2 _ m),fun q m=>?_,fun K hK i hi=>?_⟩
   ·simp only[Zku,a1,Option.bind_some,b1,e1,e2,Option.map_some,List.length_zipWith,hs.length,hs2.length]
   ·rcases Zz7.mp m with rfl | m
    ·exact⟨l1 _ Zz5,(a3 _ Zz5).mono fun i hi=>List.mem_append_left _ hi⟩
    ·rcases Zz7.mp m with rfl | m
     ·exact⟨l2 _ Zz5,(b3 _ Zz5).back.mono fun i hi=>List.mem_append_right _ hi⟩
     ·rcases d2 q m with m | m
      ·exact⟨l1 _ (Zz2 _ m),(a3 _ (Zz2 _ m)).mono fun i hi=>List.mem_append_left _ hi⟩
      ·exact⟨l2 _ (Zz2 _ m),(b3 _ (Zz2 _ m)).back.mono fun i hi=>List.mem_append_right _ hi⟩
   ·simp only[Zil,hK a Zz5,hK b (Zz2 _ Zz5),e1,e2,Option.bind_some,List.getElem?_zipWith]
    rw[List.length_zipWith]at hi
    by_cases q:i<min vs.length us.length
    ·rw[List.getElem?_eq_getElem (show i<vs.length by omega),List.getElem?_eq_getElem (show i<us.length by omega)]
    ·have q':i=min vs.length us.length:=by omega
     by_cases q2:i<vs.length
     ·rw[List.getElem?_eq_getElem q2,List.getElem?_eq_none (show us.length≤i by omega)]
      simp[q']
     ·rw[List.getElem?_eq_none (show vs.length≤i by omega)]
      simp[q']
end
def PutOk(O J:List Nat)(put:V→Lc→Option Lc)(q:T→TL→Option TL): Prop:=∀(c:Ctx) (ρ:Lc) (σ:TL) (H:Hp) (Φ:Nat→List Nat) (v:V) (t:T) (F:List Nat) (σ1:TL),St c O ρ σ H Φ→RF H v t F→(∀a∈F,c.H0.length≤a∨c.P a)→(∀i∈O,∀t',σ i=some t'→∀a∈Φ i,a∉F)→q t σ=some σ1 →
 ∃ρ1 Φ1,put v ρ=some ρ1∧St c O ρ1 σ1 H Φ1∧(∀i,i∉J→σ1 i=σ i∧Φ1 i=Φ i)∧∀i∈J,∀a∈Φ1 i,a∈F
noncomputable def Z7(Φ:Nat→List Nat)(j:Nat)(F:List Nat): Nat→List Nat:=fun i=>if i=j then F else Φ i
theorem St.put{c:Ctx}{O:List Nat}{ρ:Lc}{σ:TL}{H:Hp}{Φ:Nat→List Nat}{v:V}{t:T}{F:List Nat}{j:Nat}(s:St c O ρ σ H Φ)(hj:j∉O)(r:RF H v t F)(hs:∀a∈F,c.H0.length≤a∨c.P a)(ho:∀i∈O,∀t',σ i=some t'→∀a∈Φ i,a∉F): St c O (upd ρ j v) (ZR σ j t) H (Z7 Φ j F):=by
 refine⟨fun i u e=>?_,fun i u e=>?_,fun i hi u e=>?_,s.len,s.keep,s.pos,s.f0⟩
 ·by_cases q:i=j
  ·subst q
   simp[ZR]at e
   subst e
   exact⟨v,by simp[upd],by simpa [Z7]using r⟩
  ·simp[ZR,q]at e
   simpa [upd,Z7,q]using s.slot i u e
 ·by_cases q:i=j
  ·subst q;simpa [Z7]using hs
  ·simp[ZR,q]at e
   simpa [Z7,q]using s.src i u e
 ·have q:i≠j:=fun q=>hj (q▸hi)
  simp[ZR,q]at e
  obtain⟨h1,h2,h3⟩:=s.own i hi u e
  refine⟨by simpa [Z7,q]using h1,by simpa [Z7,q]using h2,fun k w hk ek=>?_⟩
  by_cases q2:k=j
  ·subst q2
   simpa [Z7,q]using ho i hi u e
  ·simp[ZR,q2]at ek
   simpa [Z7,q,q2]using h3 k w hk ek
noncomputable def ZaT(j:Nat): T→TL→Option TL:=fun t σ=>some (ZR σ j t)
noncomputable def ZeQ(i j:Nat): T→TL→Option TL
 | .tup [a,b],σ=>some (ZR (ZR σ i a) j b)
 | _,_=>none
theorem PutOk.one{O:List Nat}{j:Nat}(hj:j∉O:=by decide): PutOk O [j] (put1 j) (ZaT j):=fun c ρ σ H Φ v t F σ1 s r hs ho h=>by
 cases h
 refine⟨_,_,rfl,s.put hj r hs ho,fun i hi=>?_,fun i hi a m=>?_⟩
 ·have:i≠j:=fun q=>hi (by simp[q])
  simp[ZR,Z7,this]
 ·simp at hi;subst hi;simpa [Z7]using m
theorem PutOk.two{O:List Nat}{i j:Nat}(hi:i∉O:=by decide)(hj:j∉O:=by decide)(hij:i≠j:=by decide): PutOk O [i,j] (Zdq i j) (ZeQ i j):=fun c ρ σ H Φ v t F σ1 s r hs ho h=>by
 unfold ZeQ at h
 split at h
 ·cases h
  cases r with
  | tup hh=>
   obtain⟨v1,v2,F1,F2,rfl,r1,r2,rfl⟩:=hh.two_inv
   have s1:=s.put hi r1 (fun a m=>hs a (Zz4 _ m)) (fun k hk t' e a m q=>ho k hk t' e a m (Zz4 _ q))
   have s2:=s1.put hj r2 (fun a m=>hs a (Zz3 _ m)) (fun k hk t' e a m q=>by
    have:k≠i:=fun q=>hi (q▸hk)
    simp[ZR,Z7,this]at e m
    exact ho k hk t' e a m (Zz3 _ q))
   refine⟨_,_,rfl,s2,fun k hk=>?_,fun k hk a m=>?_⟩
   ·simp at hk
    simp[ZR,Z7,hk.1,hk.2]
   ·simp at hk
    rcases hk with rfl | rfl
    ·simp[Z7,hij]at m
     exact Zz4 _ m
    ·simp[Z7]at m
     exact Zz3 _ m
 ·cases h
noncomputable def ZcE(put:T→TL→Option TL)(c:PB)(f:PE)(σ:TL): List T→Option (List T)
 | []=>some []
 | t::ts=>(put t σ).bind fun σ1=>(c σ1).bind fun b=>if b then(f σ1).bind fun x=>(ZcE put c f σ ts).map fun xs=>x::xs else ZcE put c f σ ts
noncomputable def Zbb(g:PG)(put:T→TL→Option TL)(c:PB)(f:PE): PE:=fun σ=>(g σ).bind fun ts=>if ts.length≤LEN then(ZcE put c f σ ts).map .lst else none
section
variable {O Ns Ne J:List Nat} {u:Bool}
theorem comp_core{put:V→Lc→Option Lc}{pput:T→TL→Option TL}{tc:Ts}{pc:PB}{f:Ex}{pf:PE}(hj:PutOk O J put pput)(hN:∀i∈Ns,i∉O)(hc:Bt O tc pc)(hf:E O Ne u f pf)(hu:u=true→Ne=[])
  {c:Ctx} {ρ:Lc} {σ:TL} {Φ:Nat→List Nat} {H0 H1:Hp} {nx:Nx} {vs:List V} {G:List Nat} (h0:H0.length≤H1.length)
  (hG:∀a∈G,a<H1.length∧From H0 Ns σ Φ a) (hoff:∀a∈G,∀i∈O,∀t,σ i=some t→a∉Φ i) (hsrc:∀a∈G,c.H0.length≤a∨c.P a) (hnx:∀K:Hp,(∀a∈G,K[a]?=H1[a]?)→∀i,i≤vs.length→nx i K=some vs[i]?):
  ∀(rs:List T) (ws:List V) (i:Nat) (acc:List V) (K:Hp) (Fr:List Nat) (out:List T),(∀j,vs[i+j]?=ws[j]?)→i+ws.length=vs.length→St c O ρ σ K Φ→H1.length≤K.length→(∀a∈G,K[a]?=H1[a]?)→RFs K ws rs Fr→(∀a∈Fr,a∈G)→acc.length+rs.length≤LEN→ZcE pput pc pf σ rs=some out →
   ∃xs X F,ZcD nx put tc f ρ (rs.length+1) i acc K=some (acc++xs,K++X)∧RFs (K++X) xs out F∧(∀a∈F,(u=true→K.length≤a)∧From H0 (Ns++Ne) σ Φ a)∧(u=true→F.Nodup)
 | [],ws,i,acc,K,Fr,out,hat,hlen,s,hl,hk,r,hfr,hacc,h=>by
  cases r
  cases h
  have e:=hnx K hk i (by simp at hlen;omega)
  have e2:vs[i]?=none:=by have:=hat 0;simpa using this
  refine⟨[],[],[],?_,.nil,by simp,by simp⟩
  simp[ZcD,e,e2]
 | t::rs,ws0,i,acc,K,Fr0,out,hat,hlen,s,hl,hk,r,hfr,hacc,h=>by
  cases r with
  | @cons v _ F1 ws _ F2 a b=>
  simp only[List.length_cons]at hlen hacc
  obtain⟨σ1,h1,h⟩:=Zz0.mp h
  obtain⟨bb,h2,h⟩:=Zz0.mp h
  have e:=hnx K hk i (by omega)
  have e2:vs[i]?=some v:=by have:=hat 0;simpa using this
  have hat':∀j,vs[i+1+j]?=ws[j]?:=fun j=>by have:=hat (j+1);rw[show i+1+j=i+(j+1)by omega,this];simp
  obtain⟨ρ1,Φ1,p1,s1,p3,p4⟩:=hj c ρ σ K Φ v t F1 σ1 s a (fun x m=>hsrc x (hfr x (Zz4 _ m))) (fun k hk t' e x m q=>hoff x (hfr x (Zz4 _ q)) k hk t' e m) h1
  obtain⟨X1,c1⟩:=hc c ρ1 σ1 K Φ1 bb s1 h2
  cases bb with
  | true=>
   obtain⟨y,h3,h⟩:=Zz0.mp h
   obtain⟨ys,h4,h⟩:=Zz1.mp h
   subst h
   obtain⟨w,X2,Fw,d1,d2,d3,d4⟩:=hf c ρ1 σ1 (K++X1) Φ1 y (s1.ext X1) h3
   have hext:∀a∈G,(K++X1++X2)[a]?=H1[a]?:=fun a m=>by
    have:=(hG a m).1
    rw[List.append_assoc,List.getElem?_append_left (by omega)];exact hk a m
   obtain⟨xs,X3,F3,f1,f2,f3,f4⟩:=comp_core hj hN hc hf hu h0 hG hoff hsrc hnx rs ws (i+1) (acc++[w]) (K++X1++X2) F2 ys hat' (by omega) ((s.ext X1).ext X2) (by simp;omega) hext (by rw[List.append_assoc];exact b.ext _) (fun x m=>hfr x (Zz3 _ m)) (by simp;omega) h4
   refine⟨w::xs,X1++X2++X3,Fw++F3,?_,?_,fun x m=>?_,fun hu'=>?_⟩
   ·rw[List.length_cons,ZcD,e,e2]
    simp only[Option.bind_some,p1,c1,d1,if_true]
    rw[if_pos (by omega)]
    simpa using f1
   ·have:=RFs.cons (d2.ext X3) f2
    simpa using this
   ·rcases Zz8.mp m with m | m
    ·refine⟨fun hu'=>?_,?_⟩
     ·have hne:=hu hu'
      subst hne
      have:=(d3 x m).nil
      simp at this;omega
     ·rcases d3 x m with q | ⟨k,hk1,⟨tk,ek⟩,mk⟩
      ·exact .inl (by simp at q;omega)
      ·by_cases hkJ:k∈J
       ·exact(hG x (hfr x (Zz4 _ (p4 k hkJ x mk)))).2.mono fun i hi=>List.mem_append_left _ hi
       ·obtain⟨q1,q2⟩:=p3 k hkJ
        exact .inr ⟨k,List.mem_append_right _ hk1,⟨tk,q1▸ek⟩,q2▸mk⟩
    ·obtain⟨g1,g2⟩:=f3 x m
     exact⟨fun hu'=>by have:=g1 hu';simp at this;omega,g2⟩
   ·rw[List.nodup_append]
    refine⟨d4 hu',f4 hu',fun x hx y hy e=>?_⟩
    have l1:=d2.lt x hx
    have l2:=(f3 y hy).1 hu'
    omega
  | false=>
   have hext:∀a∈G,(K++X1)[a]?=H1[a]?:=fun a m=>by
    have:=(hG a m).1
    rw[List.getElem?_append_left (by omega)];exact hk a m
   obtain⟨xs,X3,F3,f1,f2,f3,f4⟩:=comp_core hj hN hc hf hu h0 hG hoff hsrc hnx rs ws (i+1) acc (K++X1) F2 out hat' (by omega) (s.ext X1) (by simp;omega) hext (b.ext _) (fun x m=>hfr x (Zz3 _ m)) (by omega) (by simpa using h)
   refine⟨xs,X1++X3,F3,?_,by simpa using f2,fun x m=>?_,f4⟩
   ·rw[List.length_cons,ZcD,e,e2]
    simp only[Option.bind_some,p1,c1]
    simpa using f1
   ·obtain⟨g1,g2⟩:=f3 x m
    exact⟨fun hu'=>by have:=g1 hu';simp at this;omega,g2⟩
theorem ZrH{g:Src}{q:PG}{put:V→Lc→Option Lc}{pput:T→TL→Option TL}{tc:Ts}{pc:PB}{f:Ex}{pf:PE}(hg:Gs O Ns g q)(hj:PutOk O J put pput)(hN:∀i∈Ns,i∉O)(hc:Bt O tc pc)(hf:E O Ne u f pf)(hu:u=true→Ne=[]): E O (if u then []else Ns++Ne) u (Zbw g put tc f) (Zbb q pput pc pf):=fun c ρ σ H Φ t s h=>by
 obtain⟨ts,h1,h⟩:=Zz0.mp h
 split at h
 ·rename_i hl
  obtain⟨out,h2,h⟩:=Zz1.mp h
  subst h
  obtain⟨nx,X,vs,F,G,g1,g2,g3,g4,g5⟩:=hg c ρ σ H Φ ts s h1
  obtain⟨xs,Y,F',d1,d2,d3,d4⟩:=comp_core hj hN hc hf hu (H0:=H) (H1:=H++X) (by simp) g4 (fun a m i hi t e=>s.from_off hN (g4 a m).2 hi e) (fun a m=>s.from_src (g4 a m).2) g5 ts vs 0 [] (H++X) F out (by simp) (by simp) (s.ext X) (Zz10 _) (fun _ _=>rfl) g2 g3 (by simpa using hl) h2
  refine⟨.ref (H++X++Y).length,X++Y++[xs],(H++X++Y).length::F',?_,?_,fun a m=>?_,fun hu'=>?_⟩
  ·simp only[Zbw,g1,Option.bind_some,d1,Option.map_some,List.nil_append,List.append_assoc]
  ·have:=Zds d2
   simpa using this
  ·rcases Zz7.mp m with rfl | m
   ·exact .inl (by simp)
   ·obtain⟨q1,q2⟩:=d3 a m
    cases u with
    | true=>exact .inl (by have:=q1 rfl;simp at this;omega)
    | false=>exact q2
  ·rw[List.nodup_cons]
   exact⟨fun m=>Nat.lt_irrefl _ (d2.lt _ m),d4 hu'⟩
 ·cases h
end
end TM
end
section
namespace TM
open PySem PM
noncomputable abbrev PS:=TL→Option (Option T×TL)
noncomputable def Zcs(σ:TL)(N:List Nat): TL:=fun j=>if j∈N then none else σ j
def Held(O:List Nat)(σ:TL)(Φ:Nat→List Nat)(a:Nat): Prop:=∃j∈O,(∃t,σ j=some t)∧a∈Φ j
def Aft(c:Ctx)(O O' R:List Nat)(fr:Bool)(σ:TL)(H:Hp)(Φ:Nat→List Nat)(g:Option (Option V×Lc×Hp))(r:Option T×TL): Prop:=
 ∃ρ' H' Φ',H.length≤H'.length∧(∀a,a<H.length→¬Held O σ Φ a→H'[a]?=H[a]?) ∧
  ((r.1=none∧g=some (none,ρ',H')∧St c O' ρ' r.2 H' Φ'∧∀a,Held O' r.2 Φ' a→H.length≤a∨Held O σ Φ a) ∨
  ∃t v F,r.1=some t∧g=some (some v,ρ',H')∧RF H' v t F∧St c R ρ' r.2 H' Φ'∧(∀a∈F,c.H0.length≤a∨c.P a)∧(fr=true→F.Nodup∧∀a∈F,c.H0.length≤a∨a∈c.F0))
def S(O O' R:List Nat)(fr:Bool)(g:Sm)(q:PS): Prop:=∀(c:Ctx) (ρ:Lc) (σ:TL) (H:Hp) (Φ:Nat→List Nat) (r:Option T×TL),St c O ρ σ H Φ→q σ=some r→Aft c O O' R fr σ H Φ (g ρ H) r
theorem Held.mono{O O':List Nat}{σ:TL}{Φ:Nat→List Nat}{a:Nat}(h:Held O σ Φ a)(s:∀i∈O,i∈O'): Held O' σ Φ a:=by
 obtain⟨j,hj,q⟩:=h;exact⟨j,s j hj,q⟩
theorem Held.lt{c:Ctx}{O O':List Nat}{ρ:Lc}{σ:TL}{H:Hp}{Φ:Nat→List Nat}{a:Nat}(s:St c O ρ σ H Φ)(h:Held O' σ Φ a): a<H.length:=by
 obtain⟨j,hj,⟨t,e⟩,m⟩:=h
 obtain⟨v,_,r⟩:=s.slot j t e
 exact r.lt a m
section
variable {O O' R:List Nat} {fr:Bool}
theorem ZAP{O0:List Nat}{g:Sm}{q:PS}(x:S O0 O' R fr g q)(h:∀i∈O0,i∈O): S O O' R fr g q:=fun c ρ σ H Φ r s e=>by
 obtain⟨ρ',H',Φ',h1,h2,h3⟩:=x c ρ σ H Φ r (s.less h) e
 refine⟨ρ',H',Φ',h1,fun a ha hn=>h2 a ha fun q=>hn (q.mono h),?_⟩
 rcases h3 with⟨k1,k2,k3,k4⟩ | k
 ·exact .inl ⟨k1,k2,k3,fun a m=>(k4 a m).imp id fun q=>q.mono h⟩
 ·exact .inr k
noncomputable def ZaQ: PS:=fun σ=>some (none,σ)
theorem ZQ: S O O R fr Zax ZaQ:=fun c ρ σ H Φ r s e=>by
 cases e
 exact⟨ρ,H,Φ,Nat.le_refl _,fun _ _ _=>rfl,.inl ⟨rfl,rfl,s,fun a m=>.inr m⟩⟩
noncomputable def Z8(a b:PS): PS:=fun σ=>(a σ).bind fun r=>match r.1 with
 | some _=>some r
 | none=>b r.2
theorem Zr{O1:List Nat}{a b:Sm}{p q:PS}(x:S O O1 R fr a p)(y:S O1 O' R fr b q): S O O' R fr (ZW a b) (Z8 p q):=fun c ρ σ H Φ r s e=>by
 obtain⟨r1,e1,e⟩:=Zz0.mp e
 obtain⟨ρ1,H1,Φ1,h1,h2,h3⟩:=x c ρ σ H Φ r1 s e1
 rcases h3 with⟨k1,k2,k3,k4⟩ | ⟨t,v,F,k1,k2,k3⟩
 ·rw[k1]at e
  obtain⟨ρ2,H2,Φ2,g1,g2,g3⟩:=y c ρ1 r1.2 H1 Φ1 r k3 e
  refine⟨ρ2,H2,Φ2,Nat.le_trans h1 g1,fun a ha hn=>?_,?_⟩
  ·rw[g2 a (by omega) fun q=>(k4 a q).elim (fun q=>by omega) hn,h2 a ha hn]
  ·have eg:ZW a b ρ H=b ρ1 H1:=by simp only[ZW,k2,Option.bind_some]
   rw[eg]
   rcases g3 with⟨l1,l2,l3,l4⟩ | l
   ·refine .inl ⟨l1,l2,l3,fun a m=>?_⟩
    rcases l4 a m with q | q
    ·exact .inl (by omega)
    ·exact k4 a q
   ·exact .inr l
 ·rw[k1]at e
  cases e
  exact⟨ρ1,H1,Φ1,h1,h2,.inr ⟨t,v,F,k1,by simp only[ZW,k2,Option.bind_some],k3⟩⟩
noncomputable def Zav(p:PE): PS:=fun σ=>(p σ).map fun t=>(some t,σ)
theorem ZF{N:List Nat}{u:Bool}{e:Ex}{p:PE}(x:E O N u e p)(hR:∀i∈R,i∈O:=by decide): S O O' R false (Zag e) (Zav p):=fun c ρ σ H Φ r s q=>by
 obtain⟨t,h1,h⟩:=Zz1.mp q
 subst h
 obtain⟨v,X,F,a1,a2,a3,a4⟩:=x c ρ σ H Φ t s h1
 refine⟨ρ,H++X,Φ,by simp,fun a ha _=>List.getElem?_append_left ha,.inr ⟨t,v,F,rfl,by simp only[Zag,a1,Option.map_some],a2,(s.ext X).less hR,fun a m=>s.from_src (a3 a m),by simp⟩⟩
theorem Zad{N:List Nat}{e:Ex}{p:PE}(x:E O N true e p)(hN:∀i∈N,i∈O:=by decide)(hR:∀i∈R,i∈O:=by decide): S O O' R fr (Zag e) (Zav p):=fun c ρ σ H Φ r s q=>by
 obtain⟨t,h1,h⟩:=Zz1.mp q
 subst h
 obtain⟨v,X,F,a1,a2,a3,a4⟩:=x c ρ σ H Φ t s h1
 refine⟨ρ,H++X,Φ,by simp,fun a ha _=>List.getElem?_append_left ha,.inr ⟨t,v,F,rfl,by simp only[Zag,a1,Option.map_some],a2,(s.ext X).less hR,fun a m=>s.from_src (a3 a m),fun _=>⟨a4 rfl,fun a m=>?_⟩⟩⟩
 rcases a3 a m with q | ⟨i,hi,⟨t',e'⟩,m'⟩
 ·exact .inl (Nat.le_trans s.len q)
 ·exact(s.own i (hN i hi) t' e').2.1 a m'
noncomputable def ZaA(i:Nat)(p:PE): PS:=fun σ=>(p σ).map fun t=>(none,ZR σ i t)
theorem ZU{N:List Nat}{u:Bool}{i:Nat}{e:Ex}{p:PE}(x:E O N u e p)(hi:i∉O':=by decide)(hN:∀j∈N,j∉O':=by decide)(hO:∀j∈O',j∈O:=by decide): S O O' R fr (Zaa i e) (ZaA i p):=fun c ρ σ H Φ r s q=>by
 obtain⟨t,h1,h⟩:=Zz1.mp q
 subst h
 obtain⟨v,X,F,a1,a2,a3,a4⟩:=x c ρ σ H Φ t s h1
 have s':=s.less hO
 refine⟨upd ρ i v,H++X,Z7 Φ i F,by simp,fun a ha _=>List.getElem?_append_left ha,.inl ⟨rfl,by simp only[Zaa,a1,Option.map_some],(s'.ext X).put hi a2 (fun a m=>s.from_src (a3 a m)) (fun k hk t' e' a m q=>?_),fun a m=>?_⟩⟩
 ·exact s'.from_off hN (a3 a q) hk e' m
 ·obtain⟨k,hk,⟨t',e'⟩,m⟩:=m
  have:k≠i:=fun q=>hi (q▸hk)
  simp[ZR,this]at e'
  simp[Z7,this]at m
  exact .inr ⟨k,hO k hk,⟨t',e'⟩,m⟩
theorem Zb9{i:Nat}{e:Ex}{p:PE}(x:E O [] true e p)(hO:∀j∈O',j∈O∨j=i:=by decide): S O O' R fr (Zaa i e) (ZaA i p):=fun c ρ σ H Φ r s q=>by
 obtain⟨t,h1,h⟩:=Zz1.mp q
 subst h
 obtain⟨v,X,F,a1,a2,a3,a4⟩:=x c ρ σ H Φ t s h1
 have hnew:∀a∈F,H.length≤a:=fun a m=>(a3 a m).nil
 have hold:∀k t',σ k=some t'→∀a∈Φ k,a<H.length:=fun k t' e a m=>by
  obtain⟨_,_,r⟩:=s.slot k t' e
  exact r.lt a m
 refine⟨upd ρ i v,H++X,Z7 Φ i F,by simp,fun a ha _=>List.getElem?_append_left ha,.inl ⟨rfl,by simp only[Zaa,a1,Option.map_some],⟨fun k t' e'=>?_,fun k t' e'=>?_,fun k hk t' e'=>?_,(s.ext X).len,(s.ext X).keep,s.pos,s.f0⟩,fun a m=>?_⟩⟩
 ·by_cases q:k=i
  ·subst q
   simp[ZR]at e'
   subst e'
   exact⟨v,by simp[upd],by simpa [Z7]using a2⟩
  ·simp[ZR,q]at e'
   simpa [upd,Z7,q]using (s.ext X).slot k t' e'
 ·by_cases q:k=i
  ·subst q;simpa [Z7]using fun a m=>s.from_src (a3 a m)
  ·simp[ZR,q]at e'
   simpa [Z7,q]using s.src k t' e'
 ·by_cases q:k=i
  ·subst q
   simp only[Z7,if_true]
   refine⟨a4 rfl,fun a m=>.inl (Nat.le_trans s.len (hnew a m)),fun j w hj ej a m q=>?_⟩
   simp[ZR,hj]at ej
   rw[if_neg hj]at q
   have:=hold j w ej a q
   have:=hnew a m
   omega
  ·have hk':=(hO k hk).resolve_right q
   simp[ZR,q]at e'
   obtain⟨o1,o2,o3⟩:=s.own k hk' t' e'
   refine⟨by simpa [Z7,q]using o1,by simpa [Z7,q]using o2,fun j w hj ej a m=>?_⟩
   simp[Z7,q]at m
   by_cases q2:j=i
   ·subst q2
    simp only[Z7,if_true]
    intro m2
    have:=hold k t' e' a m
    have:=hnew a m2
    omega
   ·simp[ZR,q2]at ej
    simpa [Z7,q2]using o3 j w hj ej a m
 ·obtain⟨k,hk,⟨t',e'⟩,m⟩:=m
  by_cases q:k=i
  ·subst q
   simp[Z7]at m
   exact .inl (hnew a m)
  ·simp[ZR,q]at e'
   simp[Z7,q]at m
   exact .inr ⟨k,(hO k hk).resolve_right q,⟨t',e'⟩,m⟩
noncomputable def qIf(b:PB)(p q:PS): PS:=fun σ=>(b σ).bind fun x=>if x then p σ else q σ
theorem Aft.grow{c:Ctx}{σ:TL}{H X:Hp}{Φ:Nat→List Nat}{g:Option (Option V×Lc×Hp)}{r:Option T×TL}(h:Aft c O O' R fr σ (H++X) Φ g r): Aft c O O' R fr σ H Φ g r:=by
 obtain⟨ρ',H',Φ',h1,h2,h3⟩:=h
 rw[List.length_append]at h1
 refine⟨ρ',H',Φ',by omega,fun a ha hn=>?_,?_⟩
 ·rw[h2 a (by rw[List.length_append];omega) hn,List.getElem?_append_left ha]
 ·rcases h3 with⟨k1,k2,k3,k4⟩ | k
  ·exact .inl ⟨k1,k2,k3,fun a m=>(k4 a m).imp (fun q=>by rw[List.length_append]at q;omega) id⟩
  ·exact .inr k
theorem S.ife{t:Ts}{pb:PB}{a b:Sm}{p q:PS}(z:Bt O t pb)(x:S O O' R fr a p)(y:S O O' R fr b q): S O O' R fr (sIf t a b) (qIf pb p q):=fun c ρ σ H Φ r s e=>by
 obtain⟨bb,e1,e⟩:=Zz0.mp e
 obtain⟨X,h1⟩:=z c ρ σ H Φ bb s e1
 cases bb with
 | true=>
  have:=x c ρ σ (H++X) Φ r (s.ext X) (by simpa using e)
  have eg:sIf t a b ρ H=a ρ (H++X):=by simp[sIf,h1]
  rw[eg]
  exact this.grow
 | false=>
  have:=y c ρ σ (H++X) Φ r (s.ext X) (by simpa using e)
  have eg:sIf t a b ρ H=b ρ (H++X):=by simp[sIf,h1]
  rw[eg]
  exact this.grow
noncomputable def qNo: PS:=fun _=>none
noncomputable def sNo: Sm:=fun _ _=>none
theorem ZAG{g:Sm}: S O O' R fr g qNo:=fun c ρ σ H Φ r s q=>by cases q
noncomputable def follow(H:Hp): List Int→V→Option V
 | [],v=>some v
 | k::ks,v=>(Z3 v (.int k) H).bind fun q=>follow H ks q.1
theorem Lead.follow{H:Hp}{ks:List Int}{v:V}{a:Nat}(l:Lead H ks v a): follow H ks v=some (.ref a):=by
 induction l with
 | nil=>rfl
 | ref h1 h2 h3 _ ih=>simp only[TM.follow,Z3,h1,Option.bind_some,h2,h3,Option.map_some,ih]
 | tup h2 h3 _ ih=>simp only[TM.follow,Z3,Option.bind_some,h2,h3,Option.map_some,ih]
theorem ZlW{H:Hp}{v w z:V}{K:Hp}(h:Z3 v z H=some (w,K))(X:Hp): K=H∧Z3 v z (H++X)=some (w,H++X):=by
 unfold Z3 at h
 split at h
 ·obtain⟨vs,e1,h⟩:=Zz0.mp h
  obtain⟨j,e2,h⟩:=Zz0.mp h
  obtain⟨x,e3,h⟩:=Zz1.mp h
  cases h
  exact⟨rfl,by simp only[Z3,List.getElem?_append_left (Zz6.mp e1).1,e1,Option.bind_some,e2,e3,Option.map_some]⟩
 ·obtain⟨j,e2,h⟩:=Zz0.mp h
  obtain⟨x,e3,h⟩:=Zz1.mp h
  cases h
  exact⟨rfl,by simp only[Z3,Option.bind_some,e2,e3,Option.map_some]⟩
 ·cases h
theorem ZoP{H:Hp}{k:Int}: ∀{ks:List Int} {v:V},follow H (ks++[k]) v=(follow H ks v).bind fun w=>(Z3 w (.int k) H).map (·.1)
 | [],v=>by
  simp only[List.nil_append,follow,Option.bind_some]
  cases Z3 v (.int k) H <;> rfl
 | j::ks,v=>by
  simp only[List.cons_append,follow]
  cases Z3 v (.int j) H with
  | none=>rfl
  | some q=>simp only[Option.bind_some];exact ZoP
noncomputable abbrev PPa:=TL→Option (List Int)
noncomputable def Zbm: PPa:=fun _=>some []
noncomputable def ZfD(p:PPa)(i:PE): PPa:=fun σ=>(p σ).bind fun ks=>(i σ).bind fun t=>match t with
 | .int k=>some (ks++[k])
 | _=>none
def Pa(O:List Nat)(x:Nat)(e:Ex)(p:PPa): Prop:=∀(c:Ctx) (ρ:Lc) (σ:TL) (H:Hp) (Φ:Nat→List Nat) (ks:List Int) (v w:V),St c O ρ σ H Φ→p σ=some ks→ρ x=some v→follow H ks v=some w→∃X,e ρ H=some (w,H++X)
theorem Zca{x:Nat}: Pa O x (Zg x) Zbm:=fun c ρ σ H Φ ks v w s h e f=>by
 cases h;cases f
 exact⟨[],by simp[Zg,e]⟩
theorem Znc{x:Nat}{N:List Nat}{u:Bool}{e i:Ex}{p:PPa}{pi:PE}(y:Pa O x e p)(z:E O N u i pi): Pa O x (Zy Z3 e i) (ZfD p pi):=fun c ρ σ H Φ ks v w s h ev f=>by
 obtain⟨ks0,h1,h⟩:=Zz0.mp h
 obtain⟨t,h2,h⟩:=Zz0.mp h
 cases t <;> first | (cases h;done) | skip
 rename_i k
 cases h
 rw[ZoP]at f
 obtain⟨w0,f1,f⟩:=Zz0.mp f
 obtain⟨⟨w1,K⟩,f2,f⟩:=Zz1.mp f
 cases f
 obtain⟨X,a1⟩:=y c ρ σ H Φ ks0 v w0 s h1 ev f1
 obtain⟨vi,Y,F,b1,b2,b3,b4⟩:=z c ρ σ (H++X) Φ _ (s.ext X) h2
 cases b2
 refine⟨X++Y,?_⟩
 simp only[Zy,a1,Option.bind_some,b1]
 have:=(ZlW f2 (X++Y)).2
 rw[List.append_assoc]
 exact this
theorem ZrI{c:Ctx}{ρ:Lc}{σ:TL}{H:Hp}{Φ:Nat→List Nat}{N:List Nat}{x a b:Nat}{t t':T}{v:V}{Fw F':List Nat}{vs':List V}(s:St c O ρ σ H Φ)(hx:x∈O)(ex:σ x=some t)(ev:ρ x=some v)(hb:c.H0.length≤b)(hlow:∀k t,σ k=some t→∀a∈Φ k,a<b)
  (hFw:∀a∈Fw,b≤a∨∃j∈N,(∃t,σ j=some t)∧a∈Φ j) (hN:∀j∈N,j∈O∧j≠x) (ha:a∈Φ x) (r:RF (H.set a vs') v t' F') (nd:F'.Nodup) (sub:∀y∈F',y∈Φ x∨y∈Fw) (hO:∀j∈O',j∈O∧j∉N):
  St c O' ρ (Zcs (ZR σ x t') N) (H.set a vs') (Z7 Φ x F')∧(∀y,Held O' (Zcs (ZR σ x t') N) (Z7 Φ x F') y→b≤y∨Held O σ Φ y):=by
 obtain⟨o1,o2,o3⟩:=s.own x hx t ex
 have old:∀k u,k≠x→Zcs (ZR σ x t') N k=some u→σ k=some u∧k∉N:=fun k u hk e=>by
  unfold Zcs at e
  split at e
  ·cases e
  ·rename_i hn
   simp[ZR,hk]at e
   exact⟨e,hn⟩
 have self:∀u,Zcs (ZR σ x t') N x=some u→u=t':=fun u e=>by
  unfold Zcs at e
  split at e
  ·cases e
  ·simp[ZR]at e;exact e.symm
 have foff:∀y∈F',∀k u,k≠x→σ k=some u→k∉N→y∉Φ k:=fun y hy k u hk e hkn m=>by
  rcases sub y hy with q | q
  ·exact o3 k u hk e y q m
  ·rcases hFw y q with q | ⟨j,hj,⟨tj,ej⟩,mj⟩
   ·have:=hlow k u e y m;omega
   ·exact(s.own j (hN j hj).1 tj ej).2.2 k u (fun q=>hkn (q▸hj)) e y mj m
 refine⟨⟨fun k u e=>?_,fun k u e=>?_,fun k hk u e=>?_,by simpa using s.len,fun y hy hn=>?_,s.pos,s.f0⟩,fun y hy=>?_⟩
 ·by_cases q:k=x
  ·subst q
   have:=self u e
   subst this
   exact⟨v,ev,by simpa [Z7]using r⟩
  ·obtain⟨e1,e2⟩:=old k u q e
   obtain⟨w,h1,h2⟩:=s.slot k u e1
   refine⟨w,h1,?_⟩
   simp only[Z7,q,if_false]
   refine h2.frame fun y hy=>List.getElem?_set_ne fun q'=>?_
   exact o3 k u q e1 a ha (q'▸hy)
 ·by_cases q:k=x
  ·subst q
   simp only[Z7,if_true]
   intro y hy
   rcases sub y hy with q | q
   ·exact s.src k t ex y q
   ·rcases hFw y q with q | ⟨j,hj,⟨tj,ej⟩,mj⟩
    ·exact .inl (by omega)
    ·exact s.src j tj ej y mj
  ·obtain⟨e1,e2⟩:=old k u q e
   simpa [Z7,q]using s.src k u e1
 ·by_cases q:k=x
  ·subst q
   simp only[Z7,if_true]
   refine⟨nd,fun y hy=>?_,fun j w hj ej y hy=>?_⟩
   ·rcases sub y hy with q | q
    ·exact o2 y q
    ·rcases hFw y q with q | ⟨j,hj,⟨tj,ej⟩,mj⟩
     ·exact .inl (by omega)
     ·exact(s.own j (hN j hj).1 tj ej).2.1 y mj
   ·obtain⟨e1,e2⟩:=old j w hj ej
    simpa [hj]using foff y hy j w hj e1 e2
  ·obtain⟨e1,e2⟩:=old k u q e
   obtain⟨p1,p2,p3⟩:=s.own k (hO k hk).1 u e1
   simp only[Z7,q,if_false]
   refine⟨p1,p2,fun j w hj ej y hy=>?_⟩
   by_cases q2:j=x
   ·subst q2
    simp only[if_true]
    exact fun m=>foff y m k u q e1 e2 hy
   ·obtain⟨f1,f2⟩:=old j w q2 ej
    simpa [q2]using p3 j w hj f1 y hy
 ·have:a≠y:=fun q=>by
   subst q
   rcases o2 a ha with q | q
   ·omega
   ·exact hn q
  rw[List.getElem?_set_ne this]
  exact s.keep y hy hn
 ·obtain⟨k,hk,⟨u,e⟩,m⟩:=hy
  by_cases q:k=x
  ·subst q
   simp only[Z7,if_true]at m
   rcases sub y m with q | q
   ·exact .inr ⟨k,hx,⟨t,ex⟩,q⟩
   ·rcases hFw y q with q | ⟨j,hj,q⟩
    ·exact .inl q
    ·exact .inr ⟨j,(hN j hj).1,q⟩
  ·obtain⟨e1,e2⟩:=old k u q e
   simp only[Z7,q,if_false]at m
   exact .inr ⟨k,(hO k hk).1,⟨u,e1⟩,m⟩
theorem ZmM{c:Ctx}{ρ:Lc}{σ:TL}{H:Hp}{Φ:Nat→List Nat}{x a:Nat}{t:T}(s:St c O ρ σ H Φ)(hx:x∈O)(ex:σ x=some t)(ha:a∈Φ x): a≠0:=by
 have:=s.pos
 rcases(s.own x hx t ex).2.1 a ha with q | q
 ·omega
 ·exact fun e=>s.f0 (e▸q)
noncomputable def ZkB(w:T)(ts:List T): Option (List T):=if ts.length<LEN then some (ts++[w])else none
noncomputable def ZkC(k:Int)(w:T)(ts:List T): Option (List T):=if 0≤k∧k<ts.length then some (ts.set k.toNat w)else none
noncomputable def ZfS(x:Nat)(N:List Nat)(po:PPa)(p:PE): PS:=fun σ=>(po σ).bind fun ks=>(p σ).bind fun w=>(σ x).bind fun t=>(ZdK (ZkB w) ks t).map fun t'=>(none,Zcs (ZR σ x t') N)
noncomputable def Zb0(x:Nat)(N:List Nat)(p:PE)(po:PPa)(pi:PE): PS:=fun σ=>(p σ).bind fun w=>(po σ).bind fun ks=>(pi σ).bind fun k=>match k with
 | .int k=>(σ x).bind fun t=>(ZdK (ZkC k w) ks t).map fun t'=>(none,Zcs (ZR σ x t') N)
 | _=>none
theorem Zg0{H:Hp}(X:Hp): ∀{ks:List Int} {v w:V},follow H ks v=some w→follow (H++X) ks v=some w
 | [],_,_,h=>h
 | k::ks,v,w,h=>by
  obtain⟨⟨w1,K⟩,h1,h2⟩:=Zz0.mp h
  simp only[follow,(ZlW h1 X).2,Option.bind_some]
  exact Zg0 X h2
theorem ZnF{x:Nat}{N:List Nat}{o e:Ex}{po:PPa}{p:PE}(hx:x∈O)(y:Pa O x o po)(z:E O N true e p)(hN:∀j∈N,j∈O∧j≠x)(hO:∀j∈O',j∈O∧j∉N): S O O' R fr (ZbM (Zde o e)) (ZfS x N po p):=fun c ρ σ H Φ r s q=>by
 obtain⟨ks,h1,q⟩:=Zz0.mp q
 obtain⟨w,h2,q⟩:=Zz0.mp q
 obtain⟨t,h3,q⟩:=Zz0.mp q
 obtain⟨t',h4,q⟩:=Zz1.mp q
 subst q
 obtain⟨v,ev,rv⟩:=s.slot x t h3
 have hlow:∀k t,σ k=some t→∀a∈Φ k,a<H.length:=fun k t e a m=>by
  obtain⟨_,_,r⟩:=s.slot k t e
  exact r.lt a m
 obtain⟨o1,o2,o3⟩:=s.own x hx t h3
 obtain⟨a,vs0,ts0,ts0',G0,l0,_⟩:=Zfy (Gn:=[]) ks rv o1 (by simp) h4
 obtain⟨X,a1⟩:=y c ρ σ H Φ ks v (.ref a) s h1 ev l0.follow
 obtain⟨vw,Y,Fw,b1,b2,b3,b4⟩:=z c ρ σ (H++X) Φ w (s.ext X) h2
 have s2:=(s.ext X).ext Y
 have rv2:RF (H++X++Y) v t (Φ x):=(rv.ext X).ext Y
 have hFw:∀a∈Fw,H.length≤a∨∃j∈N,(∃t,σ j=some t)∧a∈Φ j:=fun a m=>(b3 a m).back
 have dsj:∀a∈Fw,a∉Φ x:=fun a m q=>by
  rcases hFw a m with h | ⟨j,hj,⟨tj,ej⟩,mj⟩
  ·have:=hlow x t h3 a q;omega
  ·exact o3 j tj (hN j hj).2 ej a q mj
 obtain⟨a',vs,ts,ts',G,l,am,ea,hs,hf,gn,na,gs,go⟩:=Zfy (Gn:=Fw) ks rv2 o1 dsj h4
 have haa:a'=a:=by
  have f2:=Zg0 Y (Zg0 X l0.follow)
  rw[l.follow]at f2
  cases f2
  rfl
 subst haa
 unfold ZkB at hf
 split at hf
 ·rename_i hl
  cases hf
  obtain⟨F',r',n',sub'⟩:=go (vs++[vw]) (G++Fw) (hs.snoc b2) (by
   rw[List.nodup_append]
   exact⟨gn,b4 rfl,fun y hy z hz e=>dsj z hz (e▸gs y hy)⟩) (fun m=>(Zz8.mp m).elim na fun m=>dsj _ m am) (fun y m=>List.mem_append.mp m)
  obtain⟨st,com⟩:=ZrI (O':=O') (b:=H.length) s2 hx h3 ev s.len hlow hFw hN am r' n' sub' hO
  refine⟨ρ,(H++X++Y).set a' (vs++[vw]),Z7 Φ x F',by simp,fun y hy hn=>?_,.inl ⟨rfl,?_,st,com⟩⟩
  ·have:a'≠y:=fun q=>hn ⟨x,hx,⟨t,h3⟩,q▸am⟩
   rw[List.getElem?_set_ne this,List.append_assoc,List.getElem?_append_left hy]
  ·simp only[ZbM,Zde,a1,Option.bind_some,b1,Zex,ea]
   rw[if_pos ⟨ZmM s hx h3 am,by rw[hs.length];exact hl⟩]
   rfl
 ·cases hf
theorem S.put{x:Nat}{N M:List Nat}{u:Bool}{o e i:Ex}{po:PPa}{p pi:PE}(hx:x∈O)(z:E O N true e p)(y:Pa O x o po)(zi:E O M u i pi)(hN:∀j∈N,j∈O∧j≠x)(hO:∀j∈O',j∈O∧j∉N): S O O' R fr (ZcG e o i) (Zb0 x N p po pi):=fun c ρ σ H Φ r s q=>by
 obtain⟨w,h2,q⟩:=Zz0.mp q
 obtain⟨ks,h1,q⟩:=Zz0.mp q
 obtain⟨tk,h5,q⟩:=Zz0.mp q
 cases tk <;> first | (cases q;done) | skip
 rename_i k
 obtain⟨t,h3,q⟩:=Zz0.mp q
 obtain⟨t',h4,q⟩:=Zz1.mp q
 subst q
 obtain⟨v,ev,rv⟩:=s.slot x t h3
 have hlow:∀k t,σ k=some t→∀a∈Φ k,a<H.length:=fun k t e a m=>by
  obtain⟨_,_,r⟩:=s.slot k t e
  exact r.lt a m
 obtain⟨o1,o2,o3⟩:=s.own x hx t h3
 obtain⟨vw,X,Fw,b1,b2,b3,b4⟩:=z c ρ σ H Φ w s h2
 obtain⟨a,vs0,ts0,ts0',G0,l0,_⟩:=Zfy (Gn:=[]) ks (rv.ext X) o1 (by simp) h4
 obtain⟨Y,a1⟩:=y c ρ σ (H++X) Φ ks v (.ref a) (s.ext X) h1 ev l0.follow
 obtain⟨vk,Z,Fk,d1,d2,d3,d4⟩:=zi c ρ σ (H++X++Y) Φ _ ((s.ext X).ext Y) h5
 cases d2
 have s2:=((s.ext X).ext Y).ext Z
 have rv2:RF (H++X++Y++Z) v t (Φ x):=((rv.ext X).ext Y).ext Z
 have hFw:∀a∈Fw,H.length≤a∨∃j∈N,(∃t,σ j=some t)∧a∈Φ j:=b3
 have dsj:∀a∈Fw,a∉Φ x:=fun a m q=>by
  rcases hFw a m with h | ⟨j,hj,⟨tj,ej⟩,mj⟩
  ·have:=hlow x t h3 a q;omega
  ·exact o3 j tj (hN j hj).2 ej a q mj
 obtain⟨a',vs,ts,ts',G,l,am,ea,hs,hf,gn,na,gs,go⟩:=Zfy (Gn:=Fw) ks rv2 o1 dsj h4
 have haa:a'=a:=by
  have f2:=Zg0 Z (Zg0 Y l0.follow)
  rw[l.follow]at f2
  cases f2
  rfl
 subst haa
 unfold ZkC at hf
 split at hf
 ·rename_i hl
  cases hf
  have hk:k.toNat<ts.length:=by omega
  obtain⟨v0,Gk,F1,F2,e0,r0,eG,rb⟩:=hs.split (List.getElem?_eq_getElem hk)
  have b2':RF (H++X++Y++Z) vw w Fw:=(b2.ext Y).ext Z
  have rs:=rb (H++X++Y++Z) vw w Fw b2' (fun _ _=>rfl) (fun _ _=>rfl)
  have sub0:∀a∈Fw,a∈Gk∨a∈Fw:=fun a m=>.inr m
  subst eG
  obtain⟨F',r',n',sub'⟩:=go _ _ rs (nd3 gn (b4 rfl) sub0 fun a m q=>dsj a m (gs a q)) (fun m=>by
   rcases in3 (G:=Gk) sub0 _ m with m | m
   ·exact na m
   ·exact dsj _ m am) (in3 sub0)
  obtain⟨st,com⟩:=ZrI (O':=O') (b:=H.length) s2 hx h3 ev s.len hlow hFw hN am r' n' sub' hO
  refine⟨ρ,(H++X++Y++Z).set a' (vs.set k.toNat vw),Z7 Φ x F',by simp,fun y hy hn=>?_,.inl ⟨rfl,?_,st,com⟩⟩
  ·have:a'≠y:=fun q=>hn ⟨x,hx,⟨t,h3⟩,q▸am⟩
   rw[List.getElem?_set_ne this,List.append_assoc,List.append_assoc,List.getElem?_append_left hy]
  ·simp only[ZcG,b1,Option.bind_some,a1,d1,ZnS,ea]
   rw[if_pos ⟨ZmM s hx h3 am,by rw[hs.length];exact hl⟩]
   rfl
 ·cases hf
noncomputable def ZeZ(put:T→TL→Option TL)(b:PS): TL→List T→Option (Option T×TL)
 | σ,[]=>some (none,σ)
 | σ,t::ts=>(put t σ).bind fun σ1=>(b σ1).bind fun r=>match r.1 with
  | some _=>some r
  | none=>ZeZ put b r.2 ts
noncomputable def Zcu(g:PG)(put:T→TL→Option TL)(b:PS): PS:=fun σ=>(g σ).bind fun ts=>ZeZ put b σ ts
theorem Zmj{J:List Nat}{put:V→Lc→Option Lc}{pput:T→TL→Option TL}{b:Sm}{qb:PS}(hj:PutOk O J put pput)(hJ:∀i∈J,i∉O)(hb:S O O R fr b qb){c:Ctx}{nx:Nx}{vs:List V}{G:List Nat}{H1:Hp}(hG:∀a∈G,a<H1.length)(hsrc:∀a∈G,c.H0.length≤a∨c.P a)(hnx:∀K:Hp,(∀a∈G,K[a]?=H1[a]?)→∀i,i≤vs.length→nx i K=some vs[i]?):
  ∀(rs:List T) (ws:List V) (i:Nat) (ρ:Lc) (σ:TL) (K:Hp) (Φ:Nat→List Nat) (Fr:List Nat) (r:Option T×TL),(∀j,vs[i+j]?=ws[j]?)→i+ws.length=vs.length→St c O ρ σ K Φ→H1.length≤K.length→(∀a∈G,K[a]?=H1[a]?)→(∀a∈G,¬Held O σ Φ a)→RFs K ws rs Fr→(∀a∈Fr,a∈G)→ZeZ pput qb σ rs=some r →
   Aft c O O R fr σ K Φ (ZcC nx put b (rs.length+1) i ρ K) r
 | [],ws,i,ρ,σ,K,Φ,Fr,r,hat,hlen,s,hl,hk,hoff,rr,hfr,h=>by
  cases rr
  cases h
  have e:=hnx K hk i (by simp at hlen;omega)
  have e2:vs[i]?=none:=by have:=hat 0;simpa using this
  exact⟨ρ,K,Φ,Nat.le_refl _,fun _ _ _=>rfl,.inl ⟨rfl,by simp[ZcC,e,e2],s,fun a m=>.inr m⟩⟩
 | t::rs,ws0,i,ρ,σ,K,Φ,Fr0,r,hat,hlen,s,hl,hk,hoff,rr,hfr,h=>by
  cases rr with
  | @cons v _ F1 ws _ F2 a b'=>
  simp only[List.length_cons]at hlen
  obtain⟨σ1,h1,h⟩:=Zz0.mp h
  obtain⟨r1,h2,h⟩:=Zz0.mp h
  have e:=hnx K hk i (by omega)
  have e2:vs[i]?=some v:=by have:=hat 0;simpa using this
  have hat':∀j,vs[i+1+j]?=ws[j]?:=fun j=>by have:=hat (j+1);rw[show i+1+j=i+(j+1)by omega,this];simp
  obtain⟨ρ1,Φ1,p1,s1,p3,p4⟩:=hj c ρ σ K Φ v t F1 σ1 s a (fun x m=>hsrc x (hfr x (Zz4 _ m))) (fun k hk t' e x m q=>hoff x (hfr x (Zz4 _ q)) ⟨k,hk,⟨t',e⟩,m⟩) h1
  have hh:∀x,Held O σ1 Φ1 x→Held O σ Φ x:=fun x ⟨k,hk,⟨t',e⟩,m⟩=>by
   obtain⟨q1,q2⟩:=p3 k fun q=>hJ k q hk
   exact⟨k,hk,⟨t',q1▸e⟩,q2▸m⟩
  obtain⟨ρ2,K2,Φ2,g1,g2,g3⟩:=hb c ρ1 σ1 K Φ1 r1 s1 h2
  have estep:ZcC nx put b ((t::rs).length+1) i ρ K=(b ρ1 K).bind fun q=>match q.1 with
    | some _=>some q
    | none=>ZcC nx put b (rs.length+1) (i+1) q.2.1 q.2.2:=by
   rw[List.length_cons]
   show(nx i K).bind _=_
   rw[e,e2]
   first | (simp only[Option.bind_some,p1];done) | (simp only[Option.bind_some,p1];rfl)
  rcases g3 with⟨k1,k2,k3,k4⟩ | ⟨t',v',F',k1,k2,k3⟩
  ·rw[k1]at h
   have hG2:∀a∈G,K2[a]?=K[a]?:=fun x m=>g2 x (by have:=hG x m;omega) fun q=>hoff x m (hh x q)
   have hoff2:∀a∈G,¬Held O r1.2 Φ2 a:=fun x m q=>by
    rcases k4 x q with q | q
    ·have:=hG x m;omega
    ·exact hoff x m (hh x q)
   have ih:=Zmj hj hJ hb hG hsrc hnx rs ws (i+1) ρ2 r1.2 K2 Φ2 F2 r hat' (by omega) k3 (by omega) (fun x m=>(hG2 x m).trans (hk x m)) hoff2 (b'.frame fun x m=>hG2 x (hfr x (Zz3 _ m))) (fun x m=>hfr x (Zz3 _ m)) h
   rw[estep,k2]
   simp only[Option.bind_some]
   obtain⟨ρ3,K3,Φ3,l1,l2,l3⟩:=ih
   refine⟨ρ3,K3,Φ3,by omega,fun x hx hn=>?_,?_⟩
   ·rw[l2 x (by omega) fun q=>(k4 x q).elim (fun q=>by omega) fun q=>hn (hh x q),g2 x hx fun q=>hn (hh x q)]
   ·rcases l3 with⟨m1,m2,m3,m4⟩ | l
    ·refine .inl ⟨m1,m2,m3,fun x q=>?_⟩
     rcases m4 x q with q | q
     ·exact .inl (by omega)
     ·exact(k4 x q).imp id (hh x)
    ·exact .inr l
  ·rw[k1]at h
   cases h
   refine⟨ρ2,K2,Φ2,g1,fun x hx hn=>g2 x hx fun q=>hn (hh x q),.inr ⟨t',v',F',k1,?_,k3⟩⟩
   rw[estep,k2]
   rfl
theorem Zbn{J Ns:List Nat}{g:Src}{q:PG}{put:V→Lc→Option Lc}{pput:T→TL→Option TL}{b:Sm}{qb:PS}(hg:Gs O Ns g q)(hj:PutOk O J put pput)(hJ:∀i∈J,i∉O)(hN:∀i∈Ns,i∉O)(hb:S O O R fr b qb): S O O R fr (Zbh g put b) (Zcu q pput qb):=fun c ρ σ H Φ r s h=>by
 obtain⟨ts,h1,h⟩:=Zz0.mp h
 obtain⟨nx,X,vs,F,G,g1,g2,g3,g4,g5⟩:=hg c ρ σ H Φ ts s h1
 have:=Zmj hj hJ hb (H1:=H++X) (fun a m=>(g4 a m).1) (fun a m=>s.from_src (g4 a m).2) g5 ts vs 0 ρ σ (H++X) Φ F r (by simp) (by simp) (s.ext X) (Zz10 _) (fun _ _=>rfl) (fun a m ⟨k,hk,⟨t,e⟩,q⟩=>s.from_off hN (g4 a m).2 hk e q) g2 g3 h
 have eg:Zbh g put b ρ H=ZcC nx put b (ts.length+1) 0 ρ (H++X):=by simp only[Zbh,g1,Option.bind_some]
 rw[eg]
 exact this.grow
noncomputable def ZfE(t:PB)(b:PS): Nat→PS
 | 0=>fun _=>none
 | n+1=>fun σ=>(t σ).bind fun p=>if p then(b σ).bind fun q=>(match q.1 with
   | some _=>some q
   | none=>ZfE t b n q.2)else some (none,σ)
theorem ZmN{t:Ts}{pt:PB}{b:Sm}{qb:PS}(z:Bt O t pt)(y:S O O R fr b qb): ∀n,S O O R fr (ZeH t b n) (ZfE pt qb n)
 | 0=>fun c ρ σ H Φ r s h=>by cases h
 | n+1=>fun c ρ σ H Φ r s h=>by
  obtain⟨p,h1,h⟩:=Zz0.mp h
  obtain⟨X,a1⟩:=z c ρ σ H Φ p s h1
  cases p with
  | false=>
   cases h
   exact⟨ρ,H++X,Φ,by simp,fun a ha _=>List.getElem?_append_left ha,.inl ⟨rfl,by simp[ZeH,a1],s.ext X,fun a m=>.inr m⟩⟩
  | true=>
   simp only[if_true]at h
   obtain⟨r1,h2,h⟩:=Zz0.mp h
   have b1:=(y c ρ σ (H++X) Φ r1 (s.ext X) h2).grow
   have eg:ZeH t b (n+1) ρ H=(b ρ (H++X)).bind fun q=>(match q.1 with
    | some _=>some q
    | none=>ZeH t b n q.2.1 q.2.2):=by
    show(t ρ H).bind _=_
    rw[a1]
    rfl
   rw[eg]
   obtain⟨ρ1,H1,Φ1,g1,g2,g3⟩:=b1
   rcases g3 with⟨k1,k2,k3,k4⟩ | ⟨t',v',F',k1,k2,k3⟩
   ·rw[k1]at h
    obtain⟨ρ3,K3,Φ3,l1,l2,l3⟩:=ZmN z y n c ρ1 r1.2 H1 Φ1 r k3 h
    rw[k2]
    simp only[Option.bind_some]
    refine⟨ρ3,K3,Φ3,by omega,fun x hx hn=>?_,?_⟩
    ·rw[l2 x (by omega) fun q=>(k4 x q).elim (fun q=>by omega) hn,g2 x hx hn]
    ·rcases l3 with⟨m1,m2,m3,m4⟩ | l
     ·refine .inl ⟨m1,m2,m3,fun x q=>?_⟩
      rcases m4 x q with q | q
      ·exact .inl (by omega)
      ·exact k4 x q
     ·exact .inr l
   ·rw[k1]at h
    cases h
    exact⟨ρ1,H1,Φ1,g1,g2,.inr ⟨t',v',F',k1,by rw[k2];rfl,k3⟩⟩
end
noncomputable def ZT(n:Nat)(q:PS): List T→Option T:=fun ts=>if ts.length=n then(q fun i=>ts[i]?).map fun r=>r.1.getD .none else none
theorem RFs.slots{H:Hp}: ∀{vs:List V} {ts:List T} {F:List Nat},RFs H vs ts F→∃Φ:Nat→List Nat,∀i t,ts[i]?=some t→∃v,vs[i]?=some v∧RF H v t (Φ i)∧∀a∈Φ i,a∈F
 | _,_,_,.nil=>⟨fun _=>[],fun i t e=>by simp at e⟩
 | _,_,_,.cons (F:=F1) a b=>by
  obtain⟨Φ,h⟩:=b.slots
  refine⟨fun i=>match i with | 0=>F1 | i+1=>Φ i,fun i t e=>?_⟩
  cases i with
  | zero=>simp at e;subst e;exact⟨_,by simp,a,fun x m=>List.mem_append_left _ m⟩
  | succ i=>
   simp at e
   obtain⟨v,h1,h2,h3⟩:=h i t e
   exact⟨v,by simpa using h1,h2,fun x m=>List.mem_append_right _ (h3 x m)⟩
theorem Zpd{H H':Hp}(hl:H.length≤H'.length)(h:∀a,a<H.length→H'[a]?=H[a]?): H'=H++H'.drop H.length:=by
 conv=>lhs;rw[←List.take_append_drop H.length H']
 congr 1
 refine List.ext_getElem? fun i=>?_
 by_cases q:i<H.length
 ·rw[List.getElem?_take_of_lt q,h i q]
 ·rw[List.getElem?_eq_none (by simp;omega),List.getElem?_eq_none (by omega)]
theorem ZY{O':List Nat}{fr:Bool}{n:Nat}{g:Sm}{q:PS}(h:S [] O' [] fr g q): SimF fr (ZJ n g) (ZT n q):=fun H vs ts t F1 hp r e=>by
 unfold ZT at e
 split at e
 ·rename_i hl
  obtain⟨r1,e1,e2⟩:=Zz1.mp e
  obtain⟨Φ,hΦ⟩:=r.slots
  have st:St ⟨H,[],fun a=>a∈F1⟩ [] (fun i=>vs[i]?) (fun i=>ts[i]?) H Φ:=
   ⟨(fun i t e=>by obtain⟨v,h1,h2,_⟩:=hΦ i t e;exact⟨v,h1,h2⟩),fun i t e a m=>(by obtain⟨v,h1,h2,h3⟩:=hΦ i t e;exact .inr (h3 a m)),(fun i hi=>nomatch hi),Nat.le_refl _,fun a _ _=>rfl,hp,by simp⟩
  obtain⟨ρ',H',Φ',h1,h2,h3⟩:=h _ _ _ _ _ _ st e1
  rcases h3 with⟨k1,k2,k3,k4⟩ | ⟨t',v',F',k1,k2,k3,k4,k5,k6⟩
  ·have eh:=Zpd k3.len fun a ha=>k3.keep a ha (by simp)
   refine⟨.none,H'.drop H.length,[],?_,?_,by simp,by simp⟩
   ·have hv:vs.length=n:=r.length.trans hl
    simp only[ZJ,hv,if_true,k2,Option.map_some,Option.getD_none]
    rw[←eh]
   ·rw[k1]at e2
    subst e2
    exact .none
  ·have eh:=Zpd k4.len fun a ha=>k4.keep a ha (by simp)
   refine⟨v',H'.drop H.length,F',?_,?_,k5,fun hf=>⟨(k6 hf).1,fun a m=>((k6 hf).2 a m).elim id fun q=>by cases q⟩⟩
   ·have hv:vs.length=n:=r.length.trans hl
    simp only[ZJ,hv,if_true,k2,Option.map_some,Option.getD_some]
    rw[←eh]
   ·rw[k1]at e2
    subst e2
    rw[←eh]
    exact k3
 ·cases e
end TM
end
section
namespace TM
open PySem PM
structure XS(O O' R:List Nat)(fr:Bool) where
 g:Sm
 q:PS
 h:S O O' R fr g q
end TM
end
section
namespace TM
open PySem PM
section
variable {O Ns Ne J:List Nat}
theorem ZbD{u:Bool}{g:Src}{q:PG}{put:V→Lc→Option Lc}{pput:T→TL→Option TL}{tc:Ts}{pc:PB}{f:Ex}{pf:PE}(hg:Gs O Ns g q)(hj:PutOk O J put pput)(hN:∀i∈Ns,i∉O)(hc:Bt O tc pc)(hf:E O Ne u f pf): E O (Ns++Ne) false (Zbw g put tc f) (Zbb q pput pc pf):=
 ZrH hg hj hN hc hf.sh (by simp)
theorem Zdf{g:Src}{q:PG}{put:V→Lc→Option Lc}{pput:T→TL→Option TL}{tc:Ts}{pc:PB}{f:Ex}{pf:PE}(hg:Gs O Ns g q)(hj:PutOk O J put pput)(hN:∀i∈Ns,i∉O)(hc:Bt O tc pc)(hf:E O [] true f pf): E O [] true (Zbw g put tc f) (Zbb q pput pc pf):=
 ZrH hg hj hN hc hf (by simp)
end
end TM
end
section
/-! Forward reckoning over trees. -/
namespace TM
open PySem PM
noncomputable def dec(P:Prop): Bool:=@decide P (Classical.propDecidable P)
theorem dec_iff{P:Prop}: dec P=true↔P:=by unfold dec;exact @decide_eq_true_iff P (Classical.propDecidable P)
theorem ZaE{P:Prop}(h:P): dec P=true:=dec_iff.mpr h
theorem Zaz{P:Prop}(h:¬P): dec P=false:=by
 cases e:dec P with
 | true=>exact absurd (dec_iff.mp e) h
 | false=>rfl
theorem Zhu{P Q:Prop}(h:P↔Q): dec P=dec Q:=by
 by_cases p:P
 ·rw[ZaE p,ZaE (h.mp p)]
 ·rw[Zaz p,Zaz fun q=>p (h.mpr q)]
theorem Zj3{P:Prop}{b:Bool}(h:b=true↔P): dec P=b:=by
 cases b with
 | true=>exact ZaE (h.mp rfl)
 | false=>exact Zaz fun p=>by simpa using h.mpr p
theorem Zi2{P:Prop}[i:Decidable P]: decide P=dec P:=by
 unfold dec;congr
noncomputable def tab{α:Type}(n:Nat)(f:Nat→α): List α:=(List.range n).map f
theorem Z9{α:Type}{n:Nat}{f:Nat→α}: (tab n f).length=n:=by simp[tab]
theorem ZaL{α:Type}{n:Nat}{f:Nat→α}{i:Nat}(h:i<n): (tab n f)[i]?=some (f i):=by simp[tab,h]
theorem Znd{α:Type}{n:Nat}{f:Nat→α}{i:Nat}(h:n≤i): (tab n f)[i]?=none:=by simp[tab,h]
theorem ZdT{α:Type}{n:Nat}{f:Nat→α}: tab n f++[f n]=tab (n+1) f:=by simp[tab,List.range_succ]
theorem Zh2{α:Type}{n:Nat}{xs:List α}{f:Nat→α}(hl:xs.length=n)(h:∀i,i<n→xs[i]?=some (f i)): xs=tab n f:=by
 refine List.ext_getElem? fun i=>?_
 by_cases q:i<n
 ·rw[h i q,ZaL q]
 ·rw[List.getElem?_eq_none (by omega),Znd (by omega)]
theorem Za0{α:Type}{n:Nat}{f g:Nat→α}(h:∀i,i<n→f i=g i): tab n f=tab n g:=by
 refine Zh2 Z9 fun i hi=>?_
 rw[ZaL hi,h i hi]
theorem ZeA{α:Type}{n k:Nat}{f:Nat→α}{v:α}: (tab n f).set k v=tab n fun i=>if i=k then v else f i:=by
 refine Zh2 (by rw[List.length_set,Z9]) fun i hi=>?_
 by_cases q:i=k
 ·subst q
  rw[List.getElem?_set_self (by rw[Z9];exact hi),if_pos rfl]
 ·rw[List.getElem?_set_ne (Ne.symm q),ZaL hi,if_neg q]
theorem tab_map{α β:Type}{n:Nat}{f:Nat→α}{g:α→β}: (tab n f).map g=tab n fun i=>g (f i):=by simp[tab]
noncomputable def cn{α:Type}(a:α)(f:Nat→α): Nat→α
 | 0=>a
 | i+1=>f i
theorem ZvW{α:Type}{n:Nat}{a:α}{f:Nat→α}: a::tab n f=tab (n+1) (cn a f):=by
 refine Zh2 (by rw[List.length_cons,Z9]) fun i hi=>?_
 cases i with
 | zero=>rfl
 | succ i=>rw[List.getElem?_cons_succ,ZaL (by omega)];rfl
theorem ZqR{α β γ:Type}{n m:Nat}{f:Nat→α}{g:Nat→β}{h:α→β→γ}: List.zipWith h (tab n f) (tab m g)=tab (min n m) fun i=>h (f i) (g i):=by
 refine Zh2 (by rw[List.length_zipWith,Z9,Z9]) fun i hi=>?_
 rw[List.getElem?_zipWith,ZaL (show i<n by omega),ZaL (show i<m by omega)]
theorem Zw4{α:Type}{n m:Nat}{f g:Nat→α}: tab n f++tab m g=tab (n+m) fun i=>if i<n then f i else g (i-n):=by
 refine Zh2 (by rw[List.length_append,Z9,Z9]) fun i hi=>?_
 by_cases q:i<n
 ·rw[List.getElem?_append_left (by rw[Z9];exact q),ZaL q,if_pos q]
 ·rw[List.getElem?_append_right (by rw[Z9];omega),Z9,ZaL (by omega),if_neg q]
def Pk(c:Option T)(Q:T→Prop): Prop:=∃t,c=some t∧Q t
def Pl(c:Option (List T))(Q:List T→Prop): Prop:=∃t,c=some t∧Q t
def Pb(c:Option Bool)(Q:Bool→Prop): Prop:=∃t,c=some t∧Q t
def Psk(c:Option (Option T×TL))(R:T→Prop)(N:TL→Prop): Prop:=∃o σ,c=some (o,σ)∧(∀t,o=some t→R t)∧(o=none→N σ)
theorem Zk{c:Option T}{Q:T→Prop}{t:T}(h:c=some t)(k:Q t): Pk c Q:=⟨t,h,k⟩
theorem Pk.eq{c:Option T}{t:T}(h:Pk c fun v=>v=t): c=some t:=by obtain⟨v,e,rfl⟩:=h;exact e
theorem Pk.mono{c:Option T}{Q Q':T→Prop}(h:Pk c Q)(k:∀t,Q t→Q' t): Pk c Q':=by obtain⟨v,e,q⟩:=h;exact⟨v,e,k v q⟩
theorem Psk.mono{c:Option (Option T×TL)}{R R':T→Prop}{N N':TL→Prop}(h:Psk c R N)(k:∀t,R t→R' t)(l:∀σ,N σ→N' σ): Psk c R' N':=by
 obtain⟨o,σ,a,b,d⟩:=h;exact⟨o,σ,a,fun v e=>k v (b v e),fun e=>l σ (d e)⟩
section
variable {σ:TL} {Q:T→Prop} {L:List T→Prop} {B:Bool→Prop} {R:T→Prop} {N:TL→Prop}
theorem ZyA{k:Int}(h:Q (.int k)): Pk (ZE k σ) Q:=⟨_,rfl,h⟩
theorem ZyB(h:Q .none): Pk (ZaH σ) Q:=⟨_,rfl,h⟩
theorem Zw5{k:Bool}(h:Q (.bool k)): Pk (Zin k σ) Q:=⟨_,rfl,h⟩
theorem ZyC{k:Str}(h:Q (.str k)): Pk (Ziz k σ) Q:=⟨_,rfl,h⟩
theorem ZyD{i:Nat}{t:T}(e:σ i=some t)(h:Q t): Pk (Zj i σ) Q:=⟨_,e,h⟩
theorem ZyE{q:T→T→Option T}{f g:PE}(h:Pk (f σ) fun x=>Pk (g σ) fun y=>Pk (q x y) Q): Pk (ZC q f g σ) Q:=by
 obtain⟨x,a,y,b,z,c,k⟩:=h
 exact⟨z,by simp only[ZC,a,b,Option.bind_some,c],k⟩
theorem ZzQ{q:T→Option T}{f:PE}(h:Pk (f σ) fun x=>Pk (q x) Q): Pk (pUn q f σ) Q:=by
 obtain⟨x,a,z,c,k⟩:=h
 exact⟨z,by simp only[pUn,a,Option.bind_some,c],k⟩
theorem Zw6{q:List T→Option T}{f:PEs}(h:Pl (f σ) fun x=>Pk (q x) Q): Pk (ZV q f σ) Q:=by
 obtain⟨x,a,z,c,k⟩:=h
 exact⟨z,by simp only[ZV,a,Option.bind_some,c],k⟩
theorem ZyF(h:L []): Pl (ZG σ) L:=⟨_,rfl,h⟩
theorem Zw7{f:PE}{g:PEs}(h:Pk (f σ) fun x=>Pl (g σ) fun xs=>L (x::xs)): Pl (Zl f g σ) L:=by
 obtain⟨x,a,y,b,k⟩:=h
 exact⟨_,by simp only[Zl,a,b,Option.bind_some],k⟩
theorem ZyG{g:PEs}(h:Pl (g σ) fun xs=>Q (.tup xs)): Pk (ZcR g σ) Q:=by
 obtain⟨x,a,k⟩:=h;exact⟨_,by simp only[ZcR,a,Option.map_some],k⟩
theorem Zw8{g:PEs}(h:Pl (g σ) fun xs=>Q (.lst xs)): Pk (ZdE g σ) Q:=by
 obtain⟨x,a,k⟩:=h;exact⟨_,by simp only[ZdE,a,Option.map_some],k⟩
theorem Zw9{f:PE}(h:Pk (f σ) fun t=>t.flat=true∧Q t): Pk (ZcQ f σ) Q:=by
 obtain⟨x,a,b,k⟩:=h;exact⟨_,by simp only[ZcQ,a,Option.bind_some,b,if_true],k⟩
theorem ZzR{f:PE}(h:Pk (f σ) fun t=>t.flatIn=true∧Q t): Pk (pFl f σ) Q:=by
 obtain⟨x,a,b,k⟩:=h;exact⟨_,by simp only[pFl,a,Option.bind_some,b,if_true],k⟩
theorem ZzS{b:PB}{f g:PE}(h:Pb (b σ) fun x=>(x=true→Pk (f σ) Q)∧(x=false→Pk (g σ) Q)): Pk (pIf b f g σ) Q:=by
 obtain⟨x,a,h1,h2⟩:=h
 cases x with
 | true=>obtain⟨t,c,q⟩:=h1 rfl;exact⟨t,by simp[pIf,a,c],q⟩
 | false=>obtain⟨t,c,q⟩:=h2 rfl;exact⟨t,by simp[pIf,a,c],q⟩
theorem ZyH{f:PE}(h:Pk (f σ) fun x=>Pb (Zbt x) fun b=>Q (.bool (!b))): Pk (ZnU f σ) Q:=by
 obtain⟨x,a,b,e,q⟩:=h;exact⟨_,by simp only[ZnU,a,Option.bind_some,e,Option.map_some],q⟩
theorem ZyI{f g:PE}(h:Pk (f σ) fun x=>Pb (Zbt x) fun b=>(b=true→Pk (g σ) Q)∧(b=false→Q x)): Pk (Zkw f g σ) Q:=by
 obtain⟨x,a,b,e,h1,h2⟩:=h
 cases b with
 | true=>obtain⟨t,c,q⟩:=h1 rfl;exact⟨t,by simp[Zkw,a,e,c],q⟩
 | false=>exact⟨x,by simp[Zkw,a,e],h2 rfl⟩
theorem ZzT{f g:PE}(h:Pk (f σ) fun x=>Pb (Zbt x) fun b=>(b=true→Q x)∧(b=false→Pk (g σ) Q)): Pk (pOr f g σ) Q:=by
 obtain⟨x,a,b,e,h1,h2⟩:=h
 cases b with
 | false=>obtain⟨t,c,q⟩:=h2 rfl;exact⟨t,by simp[pOr,a,e,c],q⟩
 | true=>exact⟨x,by simp[pOr,a,e],h1 rfl⟩
theorem ZzU{K:String}{f:PE}(h:Pk (f σ) fun x=>Q (.bool (ZjE K x))): Pk (pIs K f σ) Q:=by
 obtain⟨x,a,q⟩:=h;exact⟨_,by simp only[pIs,a,Option.map_some],q⟩
theorem ZyJ{f:PE}(h:Pk (f σ) fun x=>Pb (Zbt x) B): Pb (Zat f σ) B:=by
 obtain⟨x,a,b,e,q⟩:=h;exact⟨_,by simp only[Zat,a,Option.bind_some,e],q⟩
theorem Zxa{f:PB}(h:Pb (f σ) fun b=>B (!b)): Pb (ZiA f σ) B:=by
 obtain⟨x,a,q⟩:=h;exact⟨_,by simp only[ZiA,a,Option.map_some],q⟩
theorem Zxb(h:B true): Pb (Za6 σ) B:=⟨_,rfl,h⟩
theorem ZvX(h:B false): Pb (Zfz σ) B:=⟨_,rfl,h⟩
theorem Zxc{f g:PB}(h:Pb (f σ) fun b=>(b=true→Pb (g σ) B)∧(b=false→B false)): Pb (ZfR f g σ) B:=by
 obtain⟨x,a,h1,h2⟩:=h
 cases x with
 | true=>obtain⟨t,c,q⟩:=h1 rfl;exact⟨t,by simp[ZfR,a,c],q⟩
 | false=>exact⟨_,by simp[ZfR,a],h2 rfl⟩
theorem ZyK{f g:PB}(h:Pb (f σ) fun b=>(b=true→B true)∧(b=false→Pb (g σ) B)): Pb (bOr f g σ) B:=by
 obtain⟨x,a,h1,h2⟩:=h
 cases x with
 | false=>obtain⟨t,c,q⟩:=h2 rfl;exact⟨t,by simp[bOr,a,c],q⟩
 | true=>exact⟨_,by simp[bOr,a],h1 rfl⟩
theorem Zuk{b:Bool}(h:B b): Pb (Zbt (.bool b)) B:=⟨_,rfl,h⟩
theorem Zxd(h:N σ): Psk (ZaQ σ) R N:=⟨_,_,rfl,by simp,fun _=>h⟩
theorem ZyL{f:PE}(h:Pk (f σ) R): Psk (Zav f σ) R N:=by
 obtain⟨x,a,q⟩:=h;exact⟨some x,σ,by simp only[Zav,a,Option.map_some],fun t e=>by cases e;exact q,by simp⟩
theorem ZyM{i:Nat}{f:PE}(h:Pk (f σ) fun t=>N (ZR σ i t)): Psk (ZaA i f σ) R N:=by
 obtain⟨x,a,q⟩:=h;exact⟨none,ZR σ i x,by simp only[ZaA,a,Option.map_some],by simp,fun _=>q⟩
theorem Zne{a b:PS}(h:Psk (a σ) R fun σ1=>Psk (b σ1) R N): Psk (Z8 a b σ) R N:=by
 obtain⟨o,σ1,e,h1,h2⟩:=h
 cases o with
 | some t=>exact⟨some t,σ1,by simp only[Z8,e,Option.bind_some],h1,by simp⟩
 | none=>
  obtain⟨o2,σ2,e2,k1,k2⟩:=h2 rfl
  exact⟨o2,σ2,by simp only[Z8,e,Option.bind_some,e2],k1,k2⟩
theorem Znf{b:PB}{f g:PS}(h:Pb (b σ) fun x=>(x=true→Psk (f σ) R N)∧(x=false→Psk (g σ) R N)): Psk (qIf b f g σ) R N:=by
 obtain⟨x,a,h1,h2⟩:=h
 cases x with
 | true=>obtain⟨o,s,c,q⟩:=h1 rfl;exact⟨o,s,by simp[qIf,a,c],q⟩
 | false=>obtain⟨o,s,c,q⟩:=h2 rfl;exact⟨o,s,by simp[qIf,a,c],q⟩
theorem ZrJ{n:Nat}{q:PS}{ts:List T}(hn:ts.length=n)(h:Psk (q fun i=>ts[i]?) Q fun _=>Q .none): Pk (ZT n q ts) Q:=by
 obtain⟨o,s,e,h1,h2⟩:=h
 cases o with
 | some t=>exact⟨t,by simp only[ZT,hn,if_true,e,Option.map_some,Option.getD_some],h1 t rfl⟩
 | none=>exact⟨.none,by simp only[ZT,hn,if_true,e,Option.map_some,Option.getD_none],h2 rfl⟩
theorem ZyN{b:Bool}{A C:Prop}(h:b=true)(k:A): (b=true→A)∧(b=false→C):=⟨fun _=>k,fun e=>(by rw[h]at e;cases e)⟩
theorem ZyO{b:Bool}{A C:Prop}(h:b=false)(k:C): (b=true→A)∧(b=false→C):=⟨fun e=>(by rw[h]at e;cases e),fun _=>k⟩
theorem Zj4{a b:Int}(h:Q (.int (a+b))): Pk (Zaj (.int a) (.int b)) Q:=⟨_,rfl,h⟩
theorem ZyP{a b:Int}(h:Q (.int (a-b))): Pk (Zdr (.int a) (.int b)) Q:=⟨_,rfl,h⟩
theorem ZyQ{a:Int}(h:Q (.int (-a))): Pk (ZiC (.int a)) Q:=⟨_,rfl,h⟩
theorem ZzV{a b:Int}(h:Q (.bool (decide (a<b)))): Pk (qLt (.int a) (.int b)) Q:=⟨_,rfl,h⟩
theorem ZzW{a b:Int}(h:Q (.bool (decide (a≤b)))): Pk (qLe (.int a) (.int b)) Q:=⟨_,rfl,h⟩
theorem ZzX{a b:Int}(h:Q (.bool (decide (b<a)))): Pk (qGt (.int a) (.int b)) Q:=⟨_,rfl,h⟩
theorem ZyR{a b:Int}(hb:b≠0)(h:Q (.int (a.fmod b))): Pk (Zkx (.int a) (.int b)) Q:=⟨_,by simp only[Zkx];rw[if_pos hb],h⟩
theorem Zcn{a b:Int}(hb:b≠0)(hd:Builtin.divisionGoesByPylong a b=false)(h:Q (.int (a.fdiv b))): Pk (ZiB (.int a) (.int b)) Q:=⟨_,by simp only[ZiB];rw[if_pos ⟨hb,hd⟩],h⟩
theorem Zcb{a b:Int}(hm:mulOk a b=true)(h:Q (.int (a*b))): Pk (Zc3 (.int a) (.int b)) Q:=⟨_,by simp only[Zc3];rw[if_pos hm],h⟩
theorem ZyS{a:Int}(h:Q (.int (if a<0 then -a else a))): Pk (ZnW [.int a]) Q:=⟨_,rfl,h⟩
theorem ZyT{a b:Int}(h:Q (.int (if b>a then b else a))): Pk (ZnE [.int a,.int b]) Q:=⟨_,rfl,h⟩
theorem ZjH(a b:Int): Zea (.int a) (.int b)=some (decide (a=b)):=by
 simp[Zea,ZcI,SeqAt.shaped,PyData.canLay0,PyData.depth,PyData.eqv]
 by_cases h:a=b <;> simp[h]
theorem ZzY{a b:Int}(h:Q (.bool (decide (a=b)))): Pk (qEq (.int a) (.int b)) Q:=⟨_,by simp only[qEq,ZjH,Option.map_some],h⟩
theorem ZzZ{a b:Int}(h:Q (.bool (decide (a≠b)))): Pk (qNe (.int a) (.int b)) Q:=⟨.bool (decide (a≠b)),by simp only[qNe,ZjH,Option.map_some];simp,h⟩
theorem ZyU(h:Q (.bool true)): Pk (qIs .none .none) Q:=⟨_,rfl,h⟩
theorem ZyV{a:Int}(h:Q (.bool false)): Pk (qIs (.int a) .none) Q:=⟨_,rfl,h⟩
theorem ZyW{a:List T}(h:Q (.bool false)): Pk (qIs (.lst a) .none) Q:=⟨_,rfl,h⟩
theorem ZyX{a:List T}(h:Q (.bool false)): Pk (qIs (.tup a) .none) Q:=⟨_,rfl,h⟩
theorem Zxe(h:Q (.bool false)): Pk (ZfA .none .none) Q:=⟨_,rfl,h⟩
theorem Zxf{a:Int}(h:Q (.bool true)): Pk (ZfA (.int a) .none) Q:=⟨_,rfl,h⟩
theorem Zxg{a:List T}(h:Q (.bool true)): Pk (ZfA (.tup a) .none) Q:=⟨_,rfl,h⟩
theorem Zxh{n:Nat}{f:Nat→T}(h:Q (.int n)): Pk (Zbc [.lst (tab n f)]) Q:=⟨_,by simp only[Zbc,Z9],h⟩
theorem ZyY{ts:List T}(h:Q (.int ts.length)): Pk (Zbc [.lst ts]) Q:=⟨_,rfl,h⟩
theorem Zxi{ts:List T}(h:Q (.int ts.length)): Pk (Zbc [.tup ts]) Q:=⟨_,rfl,h⟩
theorem Ziq{k:Int}{n:Nat}(h0:0≤k)(h1:k<n): seqIndex? k n=some k.toNat:=by
 unfold seqIndex?
 have:¬k<0:=by omega
 simp[this]
 omega
theorem Zxj{n i:Nat}{f:Nat→T}(hi:i<n)(h:Q (f i)): Pk (Z5 (.lst (tab n f)) (.int (i:Nat))) Q:=⟨_,by
 simp only[Z5,Z9,Ziq (show(0:Int)≤(i:Int)by omega) (show(i:Int)<(n:Int)by omega),Option.bind_some,Int.toNat_natCast]
 exact ZaL hi,h⟩
theorem Zxk{n:Nat}{k:Int}{f:Nat→T}(h0:0≤k)(h1:k<n)(h:Q (f k.toNat)): Pk (Z5 (.lst (tab n f)) (.int k)) Q:=⟨_,by
 simp only[Z5,Z9,Ziq h0 h1,Option.bind_some]
 exact ZaL (by omega),h⟩
theorem Zh3{ts:List T}{k:Int}{t:T}(h0:0≤k)(e:ts[k.toNat]?=some t)(h:Q t): Pk (Z5 (.lst ts) (.int k)) Q:=⟨_,by
 simp only[Z5]
 rw[Ziq h0 (by have:=(Zz6.mp e).1;omega)]
 exact e,h⟩
theorem Zxl{ts:List T}{k:Int}{t:T}(h0:0≤k)(e:ts[k.toNat]?=some t)(h:Q t): Pk (Z5 (.tup ts) (.int k)) Q:=⟨_,by
 simp only[Z5]
 rw[Ziq h0 (by have:=(Zz6.mp e).1;omega)]
 exact e,h⟩
theorem ZqS{n:Nat}{a:T}{f:Nat→T}(hn:n<10000)(h:Q (.lst (tab (n+1) (cn a f)))): Pk (Zaj (.lst [a]) (.lst (tab n f))) Q:=⟨_,by
 simp only[Zaj]
 rw[if_pos (by rw[ZaO,List.length_append,Z9];simp;omega),List.singleton_append,ZvW],h⟩
theorem Zmk{n m:Nat}{f g:Nat→T}(hn:n+m<10000)(h:Q (.lst (tab (n+m) fun i=>if i<n then f i else g (i-n)))): Pk (Zaj (.lst (tab n f)) (.lst (tab m g))) Q:=⟨_,by
 simp only[Zaj]
 rw[if_pos (by rw[ZaO,List.length_append,Z9,Z9];omega),Zw4],h⟩
theorem ZvY{ts:List T}(h:Q (.lst ts)): Pk (ZfC [.lst ts]) Q:=⟨_,rfl,h⟩
theorem Zxm{ts:List T}(h:Q (.tup ts)): Pk (ZjG [.lst ts]) Q:=⟨_,rfl,h⟩
theorem Zvb{n:Nat}{f:Nat→Bool}: ZfB (tab n fun i=>.bool (f i))=some (tab n f):=by
 have:∀l:List Bool,ZfB (l.map T.bool)=some l:=fun l=>by
  induction l with
  | nil=>rfl
  | cons a l ih=>simp only[List.map_cons,ZfB,ih,Option.map_some]
 rw[show(tab n fun i=>T.bool (f i))=(tab n f).map T.bool from tab_map.symm]
 exact this _
theorem ZvZ{n:Nat}{f:Nat→Int}: Zc1 (tab n fun i=>.int (f i))=some (tab n f):=by
 have:∀l:List Int,Zc1 (l.map T.int)=some l:=fun l=>by
  induction l with
  | nil=>rfl
  | cons a l ih=>simp only[List.map_cons,Zc1,ih,Option.map_some]
 rw[show(tab n fun i=>T.int (f i))=(tab n f).map T.int from tab_map.symm]
 exact this _
theorem ZyZ{n:Nat}{P:Nat→Prop}(h:Q (.bool (dec (∃i,i<n∧P i)))): Pk (Zkz [.lst (tab n fun i=>.bool (dec (P i)))]) Q:=⟨_,by
 simp only[Zkz,Zvb,Option.map_some]
 congr 2
 symm
 apply Zj3
 rw[List.any_eq_true]
 constructor
 ·rintro⟨x,hx,h⟩
  obtain⟨i,hi,e⟩:=List.getElem_of_mem hx
  rw[Z9]at hi
  have:=ZaL (f:=fun i=>dec (P i)) hi
  rw[List.getElem?_eq_getElem (by rw[Z9];exact hi)]at this
  rw[←e,Option.some.inj this]at h
  exact⟨i,hi,dec_iff.mp h⟩
 ·rintro⟨i,hi,h⟩
  exact⟨_,List.mem_of_getElem? (ZaL hi),ZaE h⟩,h⟩
def SqP(x:T)(L:List T→Prop): Prop:=∃ts,(x=.lst ts∨x=.tup ts)∧L ts
theorem ZmO{f:PE}(h:Pk (f σ) fun t=>SqP t L): Pl (Zc4 f σ) L:=by
 obtain⟨t,a,ts,rfl | rfl,q⟩:=h <;> exact⟨_,by simp only[Zc4,a,Option.bind_some],q⟩
theorem Sq.lst{ts:List T}(h:L ts): SqP (.lst ts) L:=⟨ts,.inl rfl,h⟩
theorem Sq.tup{ts:List T}(h:L ts): SqP (.tup ts) L:=⟨ts,.inr rfl,h⟩
theorem ZrK{a b c:Int}{H:Hp}{z:Nx×Nat×Hp}(h:Zb4 a b c H=some z): ZbZ a b c=some ((List.range (rngN a b c)).map fun(i:Nat)=>.int (a+(i:Int)*c)):=by
 unfold Zb4 at h
 split at h
 ·rename_i hc
  unfold ZbZ
  rw[if_pos hc]
 ·cases h
theorem Zv0{n:Nat}(hn:n≤1000): ZbZ 0 n 1=some (tab n fun i=>.int i):=by
 rw[ZrK (Zyu (H:=[]) (b:=n) (by omega) (by omega))]
 have e:rngN 0 n 1=n:=by
  unfold rngN Builtin.Range.rangeSize
  by_cases q:(0:Int)<n
  ·rw[if_pos (by decide),if_pos (by omega)];omega
  ·rw[if_pos (by decide),if_neg (by omega)];omega
 rw[e]
 simp[tab]
theorem ZmP{a n:Nat}(ha:0<n)(hn:a+n≤1000): ZbZ a (a+n) 1=some (tab n fun i=>.int (a+i)):=by
 rw[ZrK (Zyw (H:=[]) (a:=a) (b:=a+n) (c:=1) (by omega) (by omega) (by omega) (by omega) (by omega))]
 have e:rngN a (a+n) 1=n:=by
  unfold rngN
  rw[Zse (by omega) (by omega)]
  omega
 rw[e]
 simp[tab]
theorem Zxn{g:PEs}{b:Int}{o:Option (List T)}(e:g σ=some [.int b])(h:ZbZ 0 b 1=o): Zbu g σ=o:=by
 subst h;unfold Zbu;rw[e];rfl
theorem Zh4{g:PEs}{a b:Int}{o:Option (List T)}(e:g σ=some [.int a,.int b])(h:ZbZ a b 1=o): Zbu g σ=o:=by
 subst h;unfold Zbu;rw[e];rfl
def RnP(xs:List T)(L:List T→Prop): Prop:=(∃n:Nat,xs=[.int n]∧n≤1000∧L (tab n fun i=>.int i))∨∃(a:Nat) (n:Nat),xs=[.int a,.int (a+n)]∧0<n∧a+n≤1000∧L (tab n fun i=>.int (a+i))
theorem Zv1{g:PEs}(h:Pl (g σ) fun xs=>RnP xs L): Pl (Zbu g σ) L:=by
 obtain⟨xs,e,h⟩:=h
 rcases h with⟨n,h0,h1,q⟩ | ⟨a,n,h0,h1,h2,q⟩
 ·subst h0;exact⟨_,Zxn e (Zv0 h1),q⟩
 ·subst h0;exact⟨_,Zh4 e (ZmP h1 h2),q⟩
theorem Rn.one{n:Nat}(hn:n≤1000)(h:L (tab n fun i=>.int i)): RnP [.int n] L:=.inl ⟨n,rfl,hn,h⟩
theorem ZfJ{k:Int}(n:Nat)(e:k=n)(hn:n≤1000)(h:L (tab n fun i=>.int i)): RnP [.int k] L:=.inl ⟨n,by rw[e],hn,h⟩
theorem Rn.two{k l:Int}(a n:Nat)(e0:l=a)(e:k=a+n)(ha:0<n)(hn:a+n≤1000)(h:L (tab n fun i=>.int (a+i))): RnP [.int l,.int k] L:=.inr ⟨a,n,by rw[e,e0],ha,hn,h⟩
def ZiP(x y:T)(L:List T→Prop): Prop:=∃xs ys,x=.lst xs∧y=.lst ys∧L (List.zipWith (fun a b=>.tup [a,b]) xs ys)
theorem Zng{f g:PE}(h:Pk (f σ) fun x=>Pk (g σ) fun y=>ZiP x y L): Pl (ZkA f g σ) L:=by
 obtain⟨x,a,y,b,xs,ys,rfl,rfl,q⟩:=h;exact⟨_,by simp only[ZkA,a,b,Option.bind_some],q⟩
theorem Zi.eq{n:Nat}{f g:Nat→T}(h:L (tab n fun i=>.tup [f i,g i])): ZiP (.lst (tab n f)) (.lst (tab n g)) L:=⟨_,_,rfl,rfl,by rw[ZqR,Nat.min_self];exact h⟩
theorem ZpI{j:Nat}{f:PE}{h:T→T}: ∀{ts:List T},(∀t∈ts,f (ZR σ j t)=some (h t))→ZcE (ZaT j) Za6 f σ ts=some (ts.map h)
 | [],_=>rfl
 | t::ts,k=>by
  simp only[ZcE,ZaT,Za6,Option.bind_some,if_true,k t Zz5,ZpI fun t m=>k t (Zz2 _ m),Option.map_some,List.map_cons]
theorem ZmQ{put:T→TL→Option TL}{f:PE}: ∀{ts us:List T},us.length=ts.length→(∀(i:Nat) t u,ts[i]?=some t→us[i]?=some u→∃σ1,put t σ=some σ1∧f σ1=some u)→ZcE put Za6 f σ ts=some us
 | [],us,hl,_=>by cases us with
  | nil=>rfl
  | cons _ _=>simp at hl
 | t::ts,us,hl,k=>by
  cases us with
  | nil=>simp at hl
  | cons u us=>
   obtain⟨σ1,h1,h2⟩:=k 0 t u (by simp) (by simp)
   have:=ZmQ (ts:=ts) (us:=us) (f:=f) (put:=put) (by simpa using hl) fun i t' u' h3 h4=>k (i+1) t' u' (by simpa using h3) (by simpa using h4)
   simp only[ZcE,h1,Za6,Option.bind_some,if_true,h2,this,Option.map_some]
theorem Zbs{g:PG}{j n:Nat}{a b:Nat→T}{f:PE}(hn:n<10000)(hg:Pl (g σ) fun ts=>ts=tab n a)(hf:∀i,i<n→Pk (f (ZR σ j (a i))) fun t=>t=b i)(h:Q (.lst (tab n b))): Pk (Zbb g (ZaT j) Za6 f σ) Q:=by
 obtain⟨ts,e,rfl⟩:=hg
 refine⟨_,?_,h⟩
 simp only[Zbb,e,Option.bind_some,Z9]
 rw[if_pos (by rw[ZaO];omega),ZmQ (us:=tab n b) (by rw[Z9,Z9]) fun i t u h1 h2=>?_]
 ·rfl
 ·have hi:i<n:=by have:=(Zz6.mp h1).1;rwa [Z9]at this
  rw[ZaL hi]at h1 h2
  cases h1;cases h2
  exact⟨_,rfl,(hf i hi).eq⟩
theorem Zml{g:PG}{j k n:Nat}{a b c:Nat→T}{f:PE}(hn:n<10000)(hg:Pl (g σ) fun ts=>ts=tab n fun i=>.tup [a i,b i])(hf:∀i,i<n→Pk (f (ZR (ZR σ j (a i)) k (b i))) fun t=>t=c i)(h:Q (.lst (tab n c))): Pk (Zbb g (ZeQ j k) Za6 f σ) Q:=by
 obtain⟨ts,e,rfl⟩:=hg
 refine⟨_,?_,h⟩
 simp only[Zbb,e,Option.bind_some,Z9]
 rw[if_pos (by rw[ZaO];omega),ZmQ (us:=tab n c) (by rw[Z9,Z9]) fun i t u h1 h2=>?_]
 ·rfl
 ·have hi:i<n:=by have:=(Zz6.mp h1).1;rwa [Z9]at this
  rw[ZaL hi]at h1 h2
  cases h1;cases h2
  exact⟨_,rfl,(hf i hi).eq⟩
theorem Znh{put:T→TL→Option TL}{b:PS}: ∀{ts:List T} (P:Nat→TL→Prop) {σ:TL},P 0 σ→(∀(i:Nat) t σ,ts[i]?=some t→P i σ→∃σ1,put t σ=some σ1∧Psk (b σ1) R (P (i+1)))→(∀σ,P ts.length σ→N σ)→Psk (ZeZ put b σ ts) R N
 | [],P,σ,h0,_,h2=>⟨_,_,rfl,by simp,fun _=>h2 _ h0⟩
 | t::ts,P,σ,h0,h1,h2=>by
  obtain⟨σ1,e1,o,σ2,e2,k1,k2⟩:=h1 0 t σ (by simp) h0
  cases o with
  | some v=>exact⟨some v,σ2,by simp only[ZeZ,e1,Option.bind_some,e2],k1,by simp⟩
  | none=>
   obtain⟨o3,σ3,e3,l1,l2⟩:=Znh (ts:=ts) (fun i=>P (i+1)) (k2 rfl) (fun i t' σ' h3 h4=>h1 (i+1) t' σ' (by simpa using h3) h4) (fun σ' h=>h2 σ' (by simpa using h))
   exact⟨o3,σ3,by simp only[ZeZ,e1,Option.bind_some,e2,e3],l1,l2⟩
theorem Zco{g:PG}{j n:Nat}{a:Nat→T}{b:PS}(hg:Pl (g σ) fun ts=>ts=tab n a)(P:Nat→TL→Prop)(h0:P 0 σ)(h1:∀i σ,i<n→P i σ→Psk (b (ZR σ j (a i))) R (P (i+1)))(h2:∀σ,P n σ→N σ): Psk (Zcu g (ZaT j) b σ) R N:=by
 obtain⟨ts,e,rfl⟩:=hg
 have:=Znh (R:=R) (N:=N) (put:=ZaT j) (b:=b) (ts:=tab n a) P h0 (fun i t σ' h3 h4=>by
  have hi:i<n:=by have:=(Zz6.mp h3).1;rwa [Z9]at this
  rw[ZaL hi]at h3
  cases h3
  exact⟨_,rfl,h1 i σ' hi h4⟩) (by rw[Z9];exact h2)
 obtain⟨o,s,e2,q⟩:=this
 exact⟨o,s,by simp only[Zcu,e,Option.bind_some,e2],q⟩
theorem ZeB{g:PG}{j k n:Nat}{a c:Nat→T}{b:PS}(hg:Pl (g σ) fun ts=>ts=tab n fun i=>.tup [a i,c i])(P:Nat→TL→Prop)(h0:P 0 σ)(h1:∀i σ,i<n→P i σ→Psk (b (ZR (ZR σ j (a i)) k (c i))) R (P (i+1)))(h2:∀σ,P n σ→N σ): Psk (Zcu g (ZeQ j k) b σ) R N:=by
 obtain⟨ts,e,rfl⟩:=hg
 have:=Znh (R:=R) (N:=N) (put:=ZeQ j k) (b:=b) (ts:=tab n fun i=>.tup [a i,c i]) P h0 (fun i t σ' h3 h4=>by
  have hi:i<n:=by have:=(Zz6.mp h3).1;rwa [Z9]at this
  rw[ZaL hi]at h3
  cases h3
  exact⟨_,rfl,h1 i σ' hi h4⟩) (by rw[Z9];exact h2)
 obtain⟨o,s,e2,q⟩:=this
 exact⟨o,s,by simp only[Zcu,e,Option.bind_some,e2],q⟩
theorem Zmm{t:PB}{b:PS}(P:Nat→TL→Prop)(R:T→Prop)(N:TL→Prop)(h:∀m σ,P m σ→Pb (t σ) fun x=>(x=true→Psk (b σ) R fun σ1=>∃m',m'<m∧P m' σ1)∧(x=false→N σ)): ∀(n:Nat) {m:Nat} {σ:TL},P m σ→m<n→Psk (ZfE t b n σ) R N
 | 0,_,_,_,hm=>by omega
 | n+1,m,σ,hp,hm=>by
  obtain⟨x,e,h1,h2⟩:=h m σ hp
  cases x with
  | false=>exact⟨none,σ,by simp[ZfE,e],by simp,fun _=>h2 rfl⟩
  | true=>
   obtain⟨o,σ1,e1,k1,k2⟩:=h1 rfl
   cases o with
   | some v=>exact⟨some v,σ1,by simp[ZfE,e,e1],k1,by simp⟩
   | none=>
    obtain⟨m',hm',hp'⟩:=k2 rfl
    obtain⟨o2,σ2,e2,l1,l2⟩:=Zmm P R N h n hp' (by omega)
    exact⟨o2,σ2,by simp[ZfE,e,e1,e2],l1,l2⟩
theorem ZlX: Zcs σ []=σ:=by funext i;simp[Zcs]
def AppP(σ:TL)(x:Nat)(w:T)(N:TL→Prop): Prop:=∃ts,σ x=some (.lst ts)∧ts.length<10000∧N (ZR σ x (.lst (ts++[w])))
theorem Zxo{x:Nat}{w:T}{ts:List T}(e:σ x=some (.lst ts))(hl:ts.length<10000)(h:N (ZR σ x (.lst (ts++[w])))): AppP σ x w N:=⟨ts,e,hl,h⟩
theorem Zy0{x:Nat}{f:PE}(h:Pk (f σ) fun w=>AppP σ x w N): Psk (ZfS x [] Zbm f σ) R N:=by
 obtain⟨w,e,ts,h1,h2,q⟩:=h
 refine⟨none,_,?_,by simp,fun _=>q⟩
 simp only[ZfS,Zbm,Option.bind_some,e,h1,ZdK,ZkB]
 rw[if_pos (by rw[ZaO];omega)]
 simp only[Option.map_some,ZlX]
def AppQ(σ:TL)(x y:Nat)(w:T)(N:TL→Prop): Prop:=∃ts,σ x=some (.lst ts)∧ts.length<10000∧N (Zcs (ZR σ x (.lst (ts++[w]))) [y])
theorem Zxp{x y:Nat}{w:T}{ts:List T}(e:σ x=some (.lst ts))(hl:ts.length<10000)(h:N (Zcs (ZR σ x (.lst (ts++[w]))) [y])): AppQ σ x y w N:=⟨ts,e,hl,h⟩
theorem Zxq{x y:Nat}{f:PE}(h:Pk (f σ) fun w=>AppQ σ x y w N): Psk (ZfS x [y] Zbm f σ) R N:=by
 obtain⟨w,e,ts,h1,h2,q⟩:=h
 refine⟨none,_,?_,by simp,fun _=>q⟩
 simp only[ZfS,Zbm,Option.bind_some,e,h1,ZdK,ZkB]
 rw[if_pos (by rw[ZaO];omega)]
 simp only[Option.map_some]
def PutP(σ:TL)(x:Nat)(w k:T)(N:TL→Prop): Prop:=∃ts m,k=.int m∧σ x=some (.lst ts)∧0≤m∧m<ts.length∧N (ZR σ x (.lst (ts.set m.toNat w)))
theorem Zv2{x n i:Nat}{w:T}{f:Nat→T}(e:σ x=some (.lst (TM.tab n f)))(hi:i<n)(h:N (ZR σ x (.lst (TM.tab n fun k=>if k=i then w else f k)))): PutP σ x w (.int i) N:=⟨_,_,rfl,e,by omega,by rw[Z9];omega,by rw[Int.toNat_natCast,ZeA];exact h⟩
theorem ZlY{x n:Nat}{k:Int}{w:T}{f:Nat→T}(e:σ x=some (.lst (TM.tab n f)))(h0:0≤k)(hi:k<n)(h:N (ZR σ x (.lst (TM.tab n fun i=>if i=k.toNat then w else f i)))): PutP σ x w (.int k) N:=⟨_,_,rfl,e,h0,by rw[Z9];omega,by rw[ZeA];exact h⟩
theorem Zy1{x:Nat}{f i:PE}(h:Pk (f σ) fun w=>Pk (i σ) fun k=>PutP σ x w k N): Psk (Zb0 x [] f Zbm i σ) R N:=by
 obtain⟨w,e,k,e2,ts,m,rfl,h1,h2,h3,q⟩:=h
 refine⟨none,_,?_,by simp,fun _=>q⟩
 simp only[Zb0,Zbm,Option.bind_some,e,e2,h1,ZdK,ZkC]
 rw[if_pos ⟨h2,h3⟩]
 simp only[Option.map_some,ZlX]
def Put2(σ:TL)(x:Nat)(w a k:T)(N:TL→Prop): Prop:=∃ts us l m,a=.int l∧k=.int m∧σ x=some (.lst ts)∧0≤l∧ts[l.toNat]?=some (.lst us)∧0≤m∧m<us.length∧N (ZR σ x (.lst (ts.set l.toNat (.lst (us.set m.toNat w)))))
theorem Zqe{x n m i j:Nat}{w:T}{f:Nat→Nat→T}(e:σ x=some (.lst (TM.tab n fun a=>.lst (TM.tab m (f a)))))(hi:i<n)(hj:j<m)(h:N (ZR σ x (.lst (TM.tab n fun a=>.lst (TM.tab m fun b=>if a=i∧b=j then w else f a b))))): Put2 σ x w (.int i) (.int j) N:=by
 refine⟨_,TM.tab m (f i),i,j,rfl,rfl,e,by omega,?_,by omega,by rw[Z9];omega,?_⟩
 ·rw[Int.toNat_natCast,ZaL hi]
 ·rw[Int.toNat_natCast,Int.toNat_natCast,ZeA,ZeA]
  have:(TM.tab n fun a=>if a=i then T.lst (TM.tab m fun b=>if b=j then w else f i b)else T.lst (TM.tab m (f a)))=TM.tab n fun a=>.lst (TM.tab m fun b=>if a=i∧b=j then w else f a b):=Za0 fun a _=>by
   by_cases q:a=i
   ·subst q;simp
   ·simp[q]
  rw[this];exact h
theorem Zxr{x:Nat}{f i j:PE}(h:Pk (f σ) fun w=>Pk (i σ) fun a=>Pk (j σ) fun k=>Put2 σ x w a k N): Psk (Zb0 x [] f (ZfD Zbm i) j σ) R N:=by
 obtain⟨w,e,a,e1,k,e2,ts,us,l,m,rfl,rfl,h1,h0,h4,h2,h3,q⟩:=h
 refine⟨none,_,?_,by simp,fun _=>q⟩
 have hl:=(Zz6.mp h4).1
 simp only[Zb0,Zbm,ZfD,Option.bind_some,e,e1,e2,h1,List.nil_append,ZdK,ZkC,Ziq h0 (show l<ts.length by omega),h4]
 rw[if_pos ⟨h2,h3⟩]
 simp only[Option.map_some,ZlX]
theorem Zxs{i j:Nat}{t:T}{o:Option T}(h:j≠i)(e:σ j=o): ZR σ i t j=o:=by simp[ZR,h,e]
theorem Zv3{j:Nat}{J:List Nat}{o:Option T}(h:j∉J)(e:σ j=o): Zcs σ J j=o:=by simp[Zcs,h,e]
end
end TM
end
section
namespace TM
open PySem PM
inductive Pln: Nat→T→Prop where
 | none {n:Nat}:Pln n .none
 | int {n:Nat} {i:Int}:Pln n (.int i)
 | str {n:Nat} {x:Str}:PyData.strOk x=true→Pln n (.str x)
 | tup {n:Nat} {ts:List T}:(∀t∈ts,Pln n t)→Pln (n+1) (.tup ts)
 | lst {n:Nat} {ts:List T}:(∀t∈ts,Pln n t)→Pln (n+1) (.lst ts)
mutual
noncomputable def dd: T→PyData
 | .none=>.none
 | .bool b=>.bool b
 | .int i=>.int i
 | .str x=>.str x
 | .tup ts=>.tuple (dds ts)
 | .lst ts=>.list (dds ts)
noncomputable def dds: List T→List PyData
 | []=>[]
 | t::ts=>dd t::dds ts
end
theorem Zmn{f:T→Option PyData}: ∀{ts:List T},(∀t∈ts,f t=some (dd t))→ZeP f ts=some (dds ts)
 | [],_=>rfl
 | t::ts,h=>by simp only[ZeP,h t Zz5,Zmn fun t m=>h t (Zz2 _ m),Option.bind_some,dds]
theorem ZmR: ∀{ts:List T},(∀t∈ts,PyData.canLay0 (dd t)=true)→PyData.canLayAll0 (dds ts)=true
 | [],_=>rfl
 | t::ts,h=>by simp only[dds,PyData.canLayAll0,h t Zz5,ZmR fun t m=>h t (Zz2 _ m),Bool.and_self]
theorem ZmS{n:Nat}: ∀{ts:List T},(∀t∈ts,PyData.depth (dd t)≤n)→PyData.depthAll (dds ts)≤n
 | [],_=>by simp[dds,PyData.depthAll]
 | t::ts,h=>by
  have h1:=h t Zz5
  have h2:=ZmS fun t m=>h t (Zz2 _ m)
  simp only[dds,PyData.depthAll]
  omega
theorem Pln.dat{n:Nat}{t:T}(h:Pln n t): ZcI n t=some (dd t)∧PyData.canLay0 (dd t)=true∧PyData.depth (dd t)≤n:=by
 induction h with
 | @none n=>cases n <;> exact⟨rfl,rfl,by simp[dd,PyData.depth]⟩
 | @int n i=>cases n <;> exact⟨rfl,rfl,by simp[dd,PyData.depth]⟩
 | @str n x h=>cases n <;> exact⟨rfl,by simpa [dd,PyData.canLay0]using h,by simp[dd,PyData.depth]⟩
 | @tup n ts _ ih=>
  refine⟨?_,?_,?_⟩
  ·simp only[ZcI,Zmn fun t m=>(ih t m).1,Option.map_some,dd]
  ·simp only[dd,PyData.canLay0];exact ZmR fun t m=>(ih t m).2.1
  ·simp only[dd,PyData.depth]
   have:=ZmS fun t m=>(ih t m).2.2
   omega
 | @lst n ts _ ih=>
  refine⟨?_,?_,?_⟩
  ·simp only[ZcI,Zmn fun t m=>(ih t m).1,Option.map_some,dd]
  ·simp only[dd,PyData.canLay0];exact ZmR fun t m=>(ih t m).2.1
  ·simp only[dd,PyData.depth]
   have:=ZmS fun t m=>(ih t m).2.2
   omega
theorem ZmT: ∀{ts us:List T},(∀t∈ts,∀u∈us,(PyData.eqv (dd t) (dd u)=true↔t=u))→(PyData.eqvAll (dds ts) (dds us)=true↔ts=us)
 | [],[],_=>by simp[dds,PyData.eqvAll]
 | [],_::_,_=>by simp[dds,PyData.eqvAll]
 | _::_,[],_=>by simp[dds,PyData.eqvAll]
 | t::ts,u::us,h=>by
  simp only[dds,PyData.eqvAll,Bool.and_eq_true,h t Zz5 u Zz5,ZmT fun t m u n=>h t (Zz2 _ m) u (Zz2 _ n),List.cons.injEq]
theorem Pln.eqv{n:Nat}{t:T}(h:Pln n t): ∀{m:Nat} {u:T},Pln m u→(PyData.eqv (dd t) (dd u)=true↔t=u):=by
 induction h with
 | none=>intro m u h;cases h <;> simp[dd,PyData.eqv]
 | int=>intro m u h;cases h <;> simp[dd,PyData.eqv]
 | str _=>intro m u h;cases h <;> simp[dd,PyData.eqv]
 | tup hs ih=>
  intro m u h
  cases h with
  | tup hu=>simp only[dd,PyData.eqv,T.tup.injEq];exact ZmT fun t a u b=>ih t a (hu u b)
  | none=>simp[dd,PyData.eqv]
  | int=>simp[dd,PyData.eqv]
  | str=>simp[dd,PyData.eqv]
  | lst=>simp[dd,PyData.eqv]
 | lst hs ih=>
  intro m u h
  cases h with
  | lst hu=>simp only[dd,PyData.eqv,T.lst.injEq];exact ZmT fun t a u b=>ih t a (hu u b)
  | none=>simp[dd,PyData.eqv]
  | int=>simp[dd,PyData.eqv]
  | str=>simp[dd,PyData.eqv]
  | tup=>simp[dd,PyData.eqv]
theorem Pln.mono{n:Nat}{t:T}(h:Pln n t): ∀{m:Nat},n≤m→Pln m t:=by
 induction h with
 | none=>intro m _;exact .none
 | int=>intro m _;exact .int
 | str h=>intro m _;exact .str h
 | tup hs ih=>
  intro m hm
  cases m with
  | zero=>omega
  | succ m=>exact .tup fun t a=>ih t a (by omega)
 | lst hs ih=>
  intro m hm
  cases m with
  | zero=>omega
  | succ m=>exact .lst fun t a=>ih t a (by omega)
theorem ZqT{n m:Nat}{a b:T}(ha:Pln n a)(hb:Pln m b)(hn:n≤8:=by decide)(hm:m≤8:=by decide): Zea a b=some (dec (a=b)):=by
 have ha:=ha.mono hn
 have hb:=hb.mono hm
 obtain⟨a1,a2,a3⟩:=ha.dat
 obtain⟨b1,b2,b3⟩:=hb.dat
 unfold Zea Zbo
 rw[a1,b1]
 simp only[Option.bind_some]
 rw[if_pos ⟨by simp only[SeqAt.shaped,a2,Bool.true_and,decide_eq_true_eq];omega,by simp only[SeqAt.shaped,b2,Bool.true_and,decide_eq_true_eq];omega⟩,Zj3 (ha.eqv hb)]
section
variable {Q:T→Prop}
theorem ZbS{n m:Nat}{a b:T}(ha:Pln n a)(hb:Pln m b)(h:Q (.bool (dec (a=b))))(hn:n≤8:=by decide)(hm:m≤8:=by decide): Pk (qEq a b) Q:=⟨_,by simp only[qEq,ZqT ha hb hn hm,Option.map_some],h⟩
theorem Zy2{n m:Nat}{a b:T}(ha:Pln n a)(hb:Pln m b)(h:Q (.bool (!dec (a=b))))(hn:n≤8:=by decide)(hm:m≤8:=by decide): Pk (qNe a b) Q:=⟨_,by simp only[qNe,ZqT ha hb hn hm,Option.map_some],h⟩
end
theorem Zcx{α:Type}{n:Nat}{f:Nat→α}{x:α}(h:x∈tab n f): ∃i,i<n∧x=f i:=by
 obtain⟨i,hi,e⟩:=Zz11.mp h
 exact⟨i,List.mem_range.mp hi,e.symm⟩
theorem ZpJ{n:Nat}{f:Nat→T}(h:∀i,i<n→(f i).flat=true): T.flats (tab n f)=true:=by
 have key:∀l:List T,(∀t∈l,t.flat=true)→T.flats l=true:=fun l=>by
  induction l with
  | nil=>intro _;rfl
  | cons t l ih=>intro h;simp only[T.flats,h t Zz5,ih fun t m=>h t (Zz2 _ m),Bool.and_self]
 exact key _ fun t m=>by obtain⟨i,hi,rfl⟩:=Zcx m;exact h i hi
theorem Zg1{n:Nat}{f:Nat→T}(h:∀i,i<n→(f i).flat=true): T.flatIn (.lst (tab n f))=true:=ZpJ h
noncomputable def oT: Option Int→T
 | none=>.none
 | some x=>.int x
noncomputable def ZL(q:Int×Int): T:=.tup [.int q.1,.int q.2]
noncomputable def Zac(n:Nat)(x:Nat→Int): T:=.lst (tab n fun i=>.int (x i))
noncomputable def Zak(n:Nat)(b:Nat→Option Int): T:=.lst (tab n fun j=>oT (b j))
noncomputable def Z1(n:Nat)(G:Nat→Nat→Option Int): T:=.lst (tab n fun i=>Zak n (G i))
noncomputable def ZaU(n:Nat)(R:Nat→Int×Int): T:=.lst (tab n fun i=>ZL (R i))
noncomputable def Zt(n:Nat)(G:Nat→Nat→Option Int)(R:Nat→Int×Int): T:=.tup [Z1 (n+1) G,ZaU n R]
theorem Zb5: oT none=.none:=rfl
theorem Zbe{c:Int}: oT (some c)=.int c:=rfl
theorem ZeC{b:Option Int}: (oT b).flat=true:=by cases b <;> rfl
theorem Zes{q:Int×Int}: (ZL q).flat=true:=rfl
theorem Zy3{a b:Option Int}: oT a=oT b↔a=b:=by cases a <;> cases b <;> simp[oT]
theorem Zxt{a b:Int×Int}: ZL a=ZL b↔a=b:=by cases a;cases b;simp[ZL]
theorem ZeJ{n k:Nat}{f:Nat→T}(h:∀i,i<k→Pln n (f i)): Pln (n+1) (.lst (tab k f)):=.lst fun t m=>by obtain⟨i,hi,rfl⟩:=Zcx m;exact h i hi
theorem Zsf{n:Nat}{b:Option Int}: Pln n (oT b):=by cases b;exact .none;exact .int
theorem Zj5{n:Nat}{q:Int×Int}: Pln (n+1) (ZL q):=.tup fun t m=>by
 simp at m;rcases m with rfl | rfl <;> exact .int
theorem ZqU{n:Nat}{b:Nat→Option Int}: Pln 1 (Zak n b):=ZeJ fun _ _=>Zsf
theorem Zv4{n:Nat}{G:Nat→Nat→Option Int}: Pln 2 (Z1 n G):=ZeJ fun _ _=>ZqU
theorem Zv5{n:Nat}{R:Nat→Int×Int}: Pln 2 (ZaU n R):=ZeJ fun _ _=>Zj5
theorem Zqf{n:Nat}{G:Nat→Nat→Option Int}{R:Nat→Int×Int}: Pln 3 (Zt n G R):=.tup fun t m=>by
 simp at m;rcases m with rfl | rfl
 ·exact Zv4
 ·exact Zv5
theorem Zb2{σ:TL}{i:Nat}{t:T}: ZR σ i t i=some t:=by simp[ZR]
end TM
end
section
namespace PM
open PySem PySem.W PySem.Calls PyProof.Rows PyProof PyProof.Rows.LCg PyProof.Rows.LCp
noncomputable def sNo: Sm:=fun _ _=>none
noncomputable def inD(d:PyData): PyData→Option Bool
 | .list xs=>if PyData.canLayAll0 xs=true∧d.canLay0=true∧d.depth≤64 then some (xs.any fun y=>PyData.eqv y d)else none
 | .tuple xs=>if PyData.canLayAll0 xs=true∧d.canLay0=true∧d.depth≤64 then some (xs.any fun y=>PyData.eqv y d)else none
 | _=>none
noncomputable def ZnY(a b:V)(H:Hp): Option Bool:=(toD H Zbo a).bind fun d=>(toD H Zbo b).bind fun e=>inD d e
noncomputable def oIn(a b:V)(H:Hp): Option (V×Hp):=(ZnY a b H).map fun c=>(.bool c,H)
noncomputable def Zib(a:Nat): Nx:=fun i H=>H[a]?.bind fun vs=>match vs[i]? with
 | some x=>some (some (.tup [.int i,x]))
 | none=>if i=vs.length then some none else none
noncomputable def ZnG(f:Ex): Src:=fun ρ H=>(f ρ H).bind fun p=>match p.1 with
 | .ref a=>p.2[a]?.map fun vs=>(Zib a,vs.length+1,p.2)
 | _=>none
section
variable {prog:Program} {w:World} {Γ:Cx}
theorem ZAa{st:Stmt}: S1 prog w Γ st sNo:=fun W ρ H fr s Q E r rp hf post=>by cases hf
theorem Zir: Op2 prog w (compareOp .In) oIn:=by
 intro Γ W ρ H fr s Q E a b x y v H' r hx hy ho post
 obtain⟨c,e1,e2⟩:=Zz1.mp ho
 cases e2
 obtain⟨d,h1,e1⟩:=Zz0.mp e1
 obtain⟨e,h2,e1⟩:=Zz0.mp e1
 obtain⟨as,R1⟩:=Zfd r Zbo a x d hx h1
 obtain⟨bs,R2⟩:=Zfd r Zbo b y e hy h2
 have hu:=Γ.hu
 unfold inD at e1
 split at e1
 ·split at e1
  ·rename_i hs
   cases e1
   exact SeqAt.in_list_reads R2 R1 hs.1 hs.2.1 (by omega) (post W s.heap s.toks _ (.refl W) r (.bool _))
  ·cases e1
 ·split at e1
  ·rename_i hs
   cases e1
   exact SeqAt.in_tuple_reads R2 R1 hs.1 hs.2.1 (by omega) (post W s.heap s.toks _ (.refl W) r (.bool _))
  ·cases e1
 ·cases e1
def ES(e it l:Addr)(i:Nat)(h:Heap): Prop:=(∃old,IsEnum h e it i old)∧h.IsListIter it l i
theorem ES.at{e it l:Addr}{i:Nat}{h h':Heap}(x:ES e it l i h)(k:∀a∈[e,it],∀o,h.get? a=some o→h'.get? a=some o): ES e it l i h':=by
 obtain⟨⟨old,h1⟩,h2⟩:=x
 exact⟨⟨old,k e (by simp) _ h1⟩,h2.at fun o x=>k it (by simp) o x⟩
theorem ES.have{e it l:Addr}{i:Nat}{h:Heap}(x:ES e it l i h): ∀a∈[e,it],∃o,h.get? a=some o:=by
 obtain⟨⟨old,h1⟩,o,h2,_⟩:=x
 intro a ha
 simp at ha
 rcases ha with rfl | rfl
 ·exact⟨_,h1⟩
 ·exact⟨_,h2⟩
def EIt(e it l:Addr)(i:Nat)(fs:List (Addr×Obj)): Prop:=fs.map (·.1)=[e,it]∧∀h:Heap,(∀q∈fs,h.get? q.1=some q.2)→ES e it l i h
theorem ZqV{e it l:Addr}{i:Nat}{h:Heap}(x:ES e it l i h): ∃fs,EIt e it l i fs∧∀q∈fs,h.get? q.1=some q.2:=by
 obtain⟨fs,h1,h2⟩:=ZnT h [e,it] x.have
 refine⟨fs,⟨h1,fun h' k=>x.at fun a ha o ho=>?_⟩,h2⟩
 rw[←h1]at ha
 obtain⟨q,hq,eq⟩:=Zz11.mp ha
 have:=h2 q hq
 rw[eq,ho]at this
 cases this
 exact eq▸k q hq
theorem Zxu{W0:Wd}{e it l:Addr}{a:Nat}(ea:W0.pi[a]?=some l)(hei:e≠it)(hle:l≠e)(hli:l≠it):
  Itr2 prog w Γ W0 (.ref e) [e,it] (EIt e it l) (Zib a):=by
 refine⟨fun i fs h=>h.1,?_,?_,?_,?_⟩
 ·intro i H v hh
  obtain⟨vs,e1,hh⟩:=Zz0.mp hh
  split at hh
  ·cases hh
   exact⟨_,_,rfl⟩
  ·split at hh <;> cases hh
 ·intro i W ρ H fr fs s Q E va vb le r ap hit hn post
  obtain⟨vs,e1,hh⟩:=Zz0.mp hn
  have hv:va=.int i∧vs[i]?=some vb:=by
   split at hh
   ·rename_i x h1
    cases hh
    exact⟨rfl,h1⟩
   ·split at hh <;> cases hh
  obtain⟨_,xs,k1,g1,v1⟩:=r.at e1 (le.at ea)
  obtain⟨x,hx,rx⟩:=v1.at hv.2
  have st:ES e it l i s.heap:=hit.2 _ fun q hq=>r.frAt (Zz4 _ hq)
  have Wk:=WalksT.enumerate (prog:=prog) (w:=w) (A:=Γ.A) Γ.hh e it l hei hle hli xs.toArray
  have isl1:s.heap.IsList l xs.toArray:=⟨_,g1,rfl,k1,rfl⟩
  have hi:i<xs.toArray.size:=by
   have h1:=(Zz6.mp hx).1
   simpa using h1
  refine Wk.item i s Q E hi ⟨st.1,st.2,isl1⟩ fun T vals h1 t1 hp hT hTup hmid keep1=>post T h1 t1 ?_
  intro elts k pos s1 Q1 E1 es1 q1
  subst es1
  have hTw:=Wk.apart i T _ hmid
  refine Wk.go elts k pos i T _ Q1 E1 hmid fun h2 st2 keep2=>?_
  obtain⟨tk,x',hx',ev⟩:=hp
  have ex:x'=x:=by
   have:xs[i]?=some x':=by simpa using hx'
   rw[hx]at this
   exact(Option.some.inj this).symm
  subst ex ev
  obtain⟨fs',hit',at'⟩:=ZqV (h:=h2) (⟨st2.1,st2.2.1⟩:ES e it l (i+1) h2)
  obtain⟨oT,gT,cT,nT,dT⟩:=hTup
  refine q1 fs' h2 (.int i tk) x' hit' ?_ ⟨oT,keep2 T oT hTw gT,cT,nT,dT⟩ (by rw[hv.1];exact .int _ _) rx
  refine r.swap (fs':=fs') (fun q hq t ht=>?_) (fun c o hc e=>?_) fun q hq=>⟨at' q hq,?_⟩
  ·exact ap _ (hit.1▸List.mem_map_of_mem hq) t ht
  ·rw[hit.1]at hc
   exact keep2 c o hc (keep1 c o hc e)
  ·rw[hit.1,←hit'.1]
   exact List.mem_map_of_mem hq
 ·intro i W ρ H fr fs s Q E le r ap hit hn post
  obtain⟨vs,e1,hh⟩:=Zz0.mp hn
  obtain⟨_,xs,k1,g1,v1⟩:=r.at e1 (le.at ea)
  have hi:i=vs.length:=by
   split at hh
   ·cases hh
   ·split at hh
    ·assumption
    ·cases hh
  have st:ES e it l i s.heap:=hit.2 _ fun q hq=>r.frAt (Zz4 _ hq)
  have Wk:=WalksT.enumerate (prog:=prog) (w:=w) (A:=Γ.A) Γ.hh e it l hei hle hli xs.toArray
  have hm:xs.toArray.size=i:=by simp[v1.length,hi]
  refine Wk.done s Q E (by rw[hm];exact⟨st.1,st.2,⟨_,g1,rfl,k1,rfl⟩⟩) fun h' tk keep=>post h' tk ?_
  have:=r.swap (fs':=[]) (fun q hq t ht=>ap _ (hit.1▸List.mem_map_of_mem hq) t ht) (fun c o hc e=>keep c o (by rw[hit.1]at hc;exact hc) e) (fun q hq=>nomatch hq)
  exact this
 ·intro i W ρ H fr fs s Q E o le r hit hn q
  obtain⟨vs,e1,hh⟩:=Zz0.mp hn
  obtain⟨_,xs,k1,g1,v1⟩:=r.at e1 (le.at ea)
  have st:ES e it l i s.heap:=hit.2 _ fun q hq=>r.frAt (Zz4 _ hq)
  have Wk:=WalksT.enumerate (prog:=prog) (w:=w) (A:=Γ.A) Γ.hh e it l hei hle hli xs.toArray
  exact Wk.self i s Q E ⟨st.1,st.2,⟨_,g1,rfl,k1,rfl⟩⟩ q
theorem Zv6{x:Str}{np pos:Pos}{e1:Expr}{f:Ex}(hn:Nm prog w Γ x (.type "enumerate"))(h1:J prog w Γ e1 f)
  (he:starEach [e1] Γ.env=(false,eval e1 Γ.env)::starEach [] Γ.env:=by rfl) (hp:∀pos,(backTo pos (starEach [] Γ.env)).any (·.1)=false:=by intro _;rfl):JI2 prog w Γ (.Call (.Name x np) [e1] [] pos) (ZnG f):=by
 intro W ρ H fr s Q E nx n H' r hf post
 obtain⟨p,a1,hf⟩:=Zz0.mp hf
 refine wpAny_Call_ofName (hn.use r ?_)
 refine PySem.Pv.callWith_type1 (wpAny_items_cons (h1 W ρ H fr s _ E _ _ r a1 fun W1 k1 t1 y1 l1 r1 v1=>wpAny_items_nil ?_) he) he (hp pos)
 obtain⟨u1,H1⟩:=p
 simp only at hf v1 r1
 cases u1 <;> first | (cases hf;done) | skip
 rename_i b1
 obtain⟨vs,c1,c3⟩:=Zz1.mp hf
 cases c3
 cases v1 with
 | @ref _ m1 ea=>
 obtain⟨_,xs,n1,g1,w1⟩:=r1.at c1 ea
 have isl1:k1.IsList m1 xs.toArray:=⟨_,g1,rfl,n1,rfl⟩
 refine call_enumerate_list (s:={ s with heap:=k1,toks:=t1 }) isl1 fun h₁ hE hI hsz up=>?_
 have hlt:m1<k1.objs.size:=Heap.lt_size g1
 have Wk:=WalksT.enumerate (prog:=prog) (w:=w) (A:=Γ.A) Γ.hh (k1.objs.size+1) k1.objs.size m1 (Nat.succ_ne_self _) (Nat.ne_of_lt (Nat.lt_succ_of_lt hlt)) (Nat.ne_of_lt hlt) xs.toArray
 have zs:ES (k1.objs.size+1) k1.objs.size m1 0 h₁:=⟨⟨_,hE⟩,hI⟩
 refine Wk.self 0 _ _ _ ⟨⟨_,hE⟩,hI,isl1.at fun o e=>up _ o e⟩ ?_
 obtain⟨fs,hit,at'⟩:=ZqV zs
 obtain⟨r3,ap3⟩:=r1.more (fs:=fs) (h':=h₁) (fun b o e=>up b o e) (fun q hq=>⟨at' q hq,by
  have:q.1∈fs.map (·.1):=List.mem_map_of_mem hq
  rw[hit.1]at this
  simp at this
  rcases this with e | e <;> rw[e] <;> omega⟩)
 refine post W1 h₁ t1 _ _ _ fs l1 hit r3 (fun b hb t ht=>?_) (Zxu ea (Nat.succ_ne_self _) (Nat.ne_of_lt (Nat.lt_succ_of_lt hlt)) (Nat.ne_of_lt hlt)) ?_
 ·rw[←hit.1]at hb
  obtain⟨q,hq,e⟩:=Zz11.mp hb
  exact e▸ap3 q hq t ht
 ·simp only[Zib,c1,Option.bind_some]
  cases q:vs[0]? with
  | some x=>exact⟨_,rfl⟩
  | none=>
   have:vs.length=0:=by simpa using q
   simp[this]
theorem Zy4{e1 e2 e3:Expr}{es:List Expr}{pos:Pos}{f g:Ex}(h1:J prog w Γ e1 f)(h2:J prog w Γ (.BoolOp .And (e2::e3::es) pos) g) (he:eval (.BoolOp .And (e1::e2::e3::es) pos) Γ.env=(do
  let v ←eval e1 Γ.env
  standAt pos
  let t ←holding [v] (truthy v)
  match BoolOp.And,t with
  | .And,false | .Or,true=>pure v
  | _,_=>eval (.BoolOp .And (e2::e3::es) pos) Γ.env):=by rfl):J prog w Γ (.BoolOp .And (e1::e2::e3::es) pos) (Ziw f g):=by
 intro W ρ H fr s Q E v H' r hf post
 obtain⟨p,a1,hf⟩:=Zz0.mp hf
 obtain⟨b,a2,a3⟩:=Zz0.mp hf
 rw[he]
 refine wpAny_bind (wpAny_mono (h1 W ρ H fr s (fun x s₁=>wpAny (model prog w) Γ.A (truthy x) (fun t s₂=>if t then wpAny (model prog w) Γ.A (eval (.BoolOp .And (e2::e3::es) pos) Γ.env) Q E s₂ else Q x s₂) E s₁) E _ _ r a1 fun W1 k1 t1 x l1 r1 x1=>?_) (fun v s₁ h₁=>wpAny_bind (wpAny_standAt (wpAny_bind (wpAny_holding (wpAny_mono h₁ (fun t s₂ h₂=>?_) fun _ _ x=>x))))) fun _ _ x=>x)
 ·refine truth Γ W1 ρ _ fr _ _ E _ x b r1 x1 a2 fun W2 k2 t2 l2 r2=>?_
  cases b with
  | true=>exact h2 W2 ρ _ fr _ Q E _ H' r2 a3 fun W3 k3 t3 z l3 r3 z3=>post W3 k3 t3 z ((l1.trans l2).trans l3) r3 z3
  | false=>
   cases a3
   exact post W2 k2 t2 x (l1.trans l2) r2 (x1.mono l2)
 ·cases t with
  | false=>exact wpAny_pure h₂
  | true=>exact h₂
end
end PM
end
section
namespace TM
open PySem PM
noncomputable def Ze0(a b:T): Option Bool:=(ZcI Zbo a).bind fun d=>(ZcI Zbo b).bind fun e=>inD d e
noncomputable def qIn(a b:T): Option T:=(Ze0 a b).map .bool
theorem Zy5{H:Hp}{v1 v2:V}{t1 t2:T}{F1 F2:List Nat}(r1:RF H v1 t1 F1)(r2:RF H v2 t2 F2): ZnY v1 v2 H=Ze0 t1 t2:=by
 simp only[ZnY,Ze0,Zj1 Zbo _ _ _ r1,Zj1 Zbo _ _ _ r2]
theorem ZfT: OA2 oIn qIn:=fun H v1 v2 t1 t2 t F1 F2 r1 r2 h=>by
 obtain⟨c,h1,h⟩:=Zz1.mp h
 subst h
 exact⟨_,by simp only[oIn,Zy5 r1 r2,h1,Option.map_some],.bool _⟩
theorem Zni{d:T}: ∀{ts:List T},(∀t∈ts,(PyData.eqv (dd t) (dd d)=true↔t=d))→((dds ts).any fun y=>PyData.eqv y (dd d))=dec (d∈ts)
 | [],_=>by simp[dds,Zaz]
 | t::ts,h=>by
  have ih:=Zni (d:=d) (ts:=ts) fun t m=>h t (Zz2 _ m)
  simp only[dds,List.any_cons,ih]
  symm
  apply Zj3
  rw[Bool.or_eq_true,h t Zz5,dec_iff]
  simp[eq_comm]
theorem Zy6{n m:Nat}{a:T}{ts:List T}(ha:Pln n a)(hb:Pln m (.lst ts))(hn:n≤8:=by decide)(hm:m≤8:=by decide): Ze0 a (.lst ts)=some (dec (a∈ts)):=by
 have ha:=ha.mono hn
 have hb:=hb.mono hm
 obtain⟨a1,a2,a3⟩:=ha.dat
 obtain⟨b1,b2,b3⟩:=hb.dat
 unfold Ze0 Zbo
 rw[a1,b1]
 simp only[Option.bind_some,dd,inD]
 simp only[dd,PyData.canLay0]at b2
 rw[if_pos ⟨b2,a2,by omega⟩,Zni]
 intro t m
 cases hb with
 | lst hs=>exact(hs t m).eqv ha
section
variable {Q:T→Prop}
theorem Zkn{n m:Nat}{a:T}{ts:List T}(ha:Pln n a)(hb:Pln m (.lst ts))(h:Q (.bool (dec (a∈ts))))(hn:n≤8:=by decide)(hm:m≤8:=by decide): Pk (qIn a (.lst ts)) Q:=⟨_,by simp only[qIn,Zy6 ha hb hn hm,Option.map_some],h⟩
end
noncomputable def ZeR(ts:List T): List T:=List.zipWith (fun i t=>.tup [.int (i:Nat),t]) (List.range ts.length) ts
noncomputable def ZnH(p:PE): PG:=fun σ=>(p σ).bind fun t=>match t with
 | .lst ts=>some (ZeR ts)
 | _=>none
theorem Zv7{ts:List T}: (ZeR ts).length=ts.length:=by simp[ZeR]
theorem Zqg{H:Hp}: ∀{vs:List V} {ts:List T} {F:List Nat} (k:Nat),RFs H vs ts F→RFs H (List.zipWith (fun i v=>V.tup [.int (i:Nat),v]) (List.range' k ts.length) vs) (List.zipWith (fun i t=>T.tup [.int (i:Nat),t]) (List.range' k ts.length) ts) F
 | _,_,_,_,.nil=>.nil
 | _,_,_,k,.cons a b=>by
  rw[List.length_cons,List.range'_succ]
  have h1:RF H (V.tup [.int (k:Nat),_]) (T.tup [.int (k:Nat),_]) _:=.tup (.cons (.int _) (.one a))
  simpa using RFs.cons h1 (Zqg (k+1) b)
theorem Zxv{O N:List Nat}{u:Bool}{e:Ex}{p:PE}(x:E O N u e p): Gs O N (ZnG e) (ZnH p):=fun c ρ σ H Φ ts s h=>by
 obtain⟨t1,h1,h⟩:=Zz0.mp h
 obtain⟨v,X,F,a1,a2,a3,a4⟩:=x c ρ σ H Φ t1 s h1
 have hlt:=a2.lt
 cases a2 with
 | none=>cases h
 | bool=>cases h
 | int=>cases h
 | str=>cases h
 | tup=>cases h
 | @ref b vs us F' e1 hs=>
  cases h
  have hl:=hs.length
  refine⟨Zib b,X,List.zipWith (fun i v=>V.tup [.int (i:Nat),v]) (List.range us.length) vs,F',b::F',by simp only[ZnG,a1,Option.bind_some,e1,Option.map_some,Zv7,hl],?_,fun _ m=>List.mem_cons_of_mem _ m,fun a m=>⟨hlt a m,a3 a m⟩,fun K hK i hi=>?_⟩
  ·have:=Zqg 0 hs
   unfold ZeR
   rw[List.range_eq_range']
   exact this
  ·simp only[Zib,hK b Zz5,e1,Option.bind_some,List.getElem?_zipWith]
   simp only[List.length_zipWith,List.length_range]at hi
   by_cases q:i<vs.length
   ·rw[List.getElem?_eq_getElem q,List.getElem?_range (by omega)]
   ·rw[List.getElem?_eq_none (by omega),List.getElem?_eq_none (by simp;omega)]
    simp
    omega
theorem Zv8{n:Nat}{f:Nat→T}: ZeR (tab n f)=tab n fun i=>.tup [.int (i:Nat),f i]:=by
 unfold ZeR
 rw[Z9]
 have:List.range n=tab n fun i=>i:=by simp[tab]
 rw[this,ZqR,Nat.min_self]
section
variable {σ:TL} {L:List T→Prop}
def EnP(x:T)(L:List T→Prop): Prop:=∃ts,x=.lst ts∧L (ZeR ts)
theorem Zxw{f:PE}(h:Pk (f σ) fun t=>EnP t L): Pl (ZnH f σ) L:=by
 obtain⟨t,a,ts,rfl,q⟩:=h;exact⟨_,by simp only[ZnH,a,Option.bind_some],q⟩
theorem Zxx{n:Nat}{f:Nat→T}(h:L (TM.tab n fun i=>.tup [.int (i:Nat),f i])): EnP (.lst (TM.tab n f)) L:=⟨_,rfl,by rw[Zv8];exact h⟩
end
noncomputable def ZnI(g:PG)(put:T→TL→Option TL)(b:PS): PS:=fun σ=>(g σ).bind fun ts=>if ts=[]then none else ZeZ put b σ ts
end TM
end
section
namespace PM
open PySem PySem.W PySem.Calls PyProof.Rows PyProof
noncomputable def Zj6(o1 o2:V→V→Hp→Option (V×Hp))(f g h:Ex): Ts:=fun ρ H=>(f ρ H).bind fun p=>(g ρ p.2).bind fun q=>(o1 p.1 q.1 q.2).bind fun u=>(Zcy u.1 u.2).bind fun b=>if b then(h ρ u.2).bind fun x=>(o2 q.1 x.1 x.2).bind fun y=>(Zcy y.1 y.2).map fun c=>(c,y.2)else some (false,u.2)
section
variable {prog:Program} {w:World} {Γ:Cx}
theorem Zv9{e1 e2 e3:Expr}{op1 op2:CmpOp}{pos:Pos}{f g h:Ex}{o1 o2:V→V→Hp→Option (V×Hp)}(h1:J prog w Γ e1 f)(h2:J prog w Γ e2 g)(h3:J prog w Γ e3 h)(k1:Op2 prog w (compareOp op1) o1)(k2:Op2 prog w (compareOp op2) o2)(hm:lastMarks [op1,op2] [e2,e3]=false:=by with_unfolding_all rfl): JT prog w Γ (.Compare e1 [op1,op2] [e2,e3] pos) (Zj6 o1 o2 f g h):=by
 intro W ρ H fr s Q E b H' r hf post
 obtain⟨p,a1,hf⟩:=Zz0.mp hf
 obtain⟨q,a2,hf⟩:=Zz0.mp hf
 obtain⟨u,a3,hf⟩:=Zz0.mp hf
 obtain⟨c,a4,hf⟩:=Zz0.mp hf
 refine isTrue_chain (h1 W ρ H fr s _ E _ _ r a1 fun W1 n1 t1 x l1 r1 x1=>?_) hm
 refine test_link (h2 W1 ρ _ fr _ _ E _ _ r1 a2 fun W2 n2 t2 y l2 r2 y2=>?_)
 refine k1 Γ W2 ρ _ fr _ _ E _ _ x y _ _ r2 (x1.mono l2) y2 a3 fun W3 n3 t3 z l3 r3 z3=>?_
 refine truth Γ W3 ρ _ fr _ _ E _ z c r3 z3 a4 fun W4 n4 t4 l4 r4=>?_
 cases c with
 | false=>
  cases hf
  exact post W4 n4 t4 (((l1.trans l2).trans l3).trans l4) r4
 | true=>
  simp only[if_true]at hf
  obtain⟨v,a5,hf⟩:=Zz0.mp hf
  obtain⟨v2,a6,hf⟩:=Zz0.mp hf
  obtain⟨d,a7,a8⟩:=Zz1.mp hf
  cases a8
  refine test_last (h3 W4 ρ _ fr _ _ E _ _ r4 a5 fun W5 n5 t5 y5 l5 r5 x5=>?_)
  refine k2 Γ W5 ρ _ fr _ _ E _ _ y y5 _ _ r5 (((y2.mono l3).mono l4).mono l5) x5 a6 fun W6 n6 t6 z6 l6 r6 x6=>?_
  exact truth Γ W6 ρ _ fr _ _ E _ z6 b r6 x6 a7 fun W7 n7 t7 l7 r7=>post W7 n7 t7 ((((((l1.trans l2).trans l3).trans l4).trans l5).trans l6).trans l7) r7
end
end PM
end
section
namespace TM
open PySem PM
section
variable {O N M K:List Nat} {u u' u'':Bool}
noncomputable def Zj7(q1 q2:T→T→Option T)(p1 p2 p3:PE): PB:=fun σ=>(p1 σ).bind fun x=>(p2 σ).bind fun y=>(q1 x y).bind fun z=>(Zbt z).bind fun b=>if b then(p3 σ).bind fun v=>(q2 y v).bind Zbt else some false
theorem Zwa{e1 e2 e3:Ex}{p1 p2 p3:PE}{q1 q2:T→T→Option T}{o1 o2:V→V→Hp→Option (V×Hp)}(k1:OA2 o1 q1)(k2:OA2 o2 q2)(x:E O N u e1 p1)(y:E O M u' e2 p2)(z:E O K u'' e3 p3): Bt O (Zj6 o1 o2 e1 e2 e3) (Zj7 q1 q2 p1 p2 p3):=fun c ρ σ H Φ b s h=>by
 obtain⟨t1,h1,h⟩:=Zz0.mp h
 obtain⟨t2,h2,h⟩:=Zz0.mp h
 obtain⟨t3,h3,h⟩:=Zz0.mp h
 obtain⟨b0,h4,h⟩:=Zz0.mp h
 obtain⟨v1,X,F,a1,a2,_,_⟩:=x c ρ σ H Φ t1 s h1
 obtain⟨v2,Y,G,b1,b2,_,_⟩:=y c ρ σ (H++X) Φ t2 (s.ext X) h2
 obtain⟨v3,c1,c2⟩:=k1 _ v1 v2 t1 t2 t3 F G (a2.ext Y) b2 h3
 have d1:=ZdS c2 h4
 cases b0 with
 | false=>
  cases h
  exact⟨X++Y,by simp only[Zj6,a1,b1,Option.bind_some,c1,d1];simp⟩
 | true=>
  simp only[if_true]at h
  obtain⟨t5,h5,h⟩:=Zz0.mp h
  obtain⟨t6,h6,h⟩:=Zz0.mp h
  obtain⟨v5,Z,F5,e1,e2,_,_⟩:=z c ρ σ (H++X++Y) Φ t5 ((s.ext X).ext Y) h5
  obtain⟨v6,f1,f2⟩:=k2 _ v2 v5 t2 t5 t6 G F5 (b2.ext Z) e2 h6
  have g1:=ZdS f2 h
  exact⟨X++Y++Z,by simp only[Zj6,a1,b1,Option.bind_some,c1,d1,if_true,e1,f1,g1,Option.map_some];simp⟩
def OIn(o:List V→Hp→Option (V×Hp))(q:List T→Option T): Prop:=∀(H:Hp) (vs:List V) (ts:List T) (t:T) (F1:List Nat),RFs H vs ts F1→q ts=some t→∃v F,o vs H=some (v,H)∧RF H v t F∧F.Sublist F1
theorem Zxy{n:Nat}{es:Exs}{ps:PEs}{q:List T→Option T}{o:List V→Hp→Option (V×Hp)}(k:OIn o q)(x:Es O N u n es ps): E O N u (ZH o es) (ZV q ps):=fun c ρ σ H Φ t s h=>by
 obtain⟨ts,h1,h⟩:=Zz0.mp h
 obtain⟨_,vs,X,F,a1,a2,a3,a4⟩:=x c ρ σ H Φ ts s h1
 obtain⟨w,G,b1,b2,b3⟩:=k _ vs ts t F a2 h
 exact⟨w,X,G,by simp only[ZH,a1,Option.bind_some,b1],b2,fun a m=>a3 a (b3.subset m),fun hu=>(a4 hu).sublist b3⟩
theorem Zwb: OIn Zfp ZjG:=fun H vs ts t F r h=>by
 unfold ZjG at h
 split at h
 ·obtain⟨v,rfl,r'⟩:=r.one_inv
  cases r' with
  | @ref a vs1 _ F1 e hs=>cases h;exact⟨.tup vs1,F1,by simp only[Zfp,e,Option.map_some],.tup hs,List.sublist_cons_self _ _⟩
 ·obtain⟨v,rfl,r'⟩:=r.one_inv
  cases r' with
  | @tup vs1 _ _ hs=>cases h;exact⟨.tup vs1,_,by simp only[Zfp],.tup hs,List.Sublist.refl _⟩
 ·cases h
end
theorem Zy7{O O1 R J Ns:List Nat}{fr:Bool}{g:Src}{q:PG}{put:V→Lc→Option Lc}{pput:T→TL→Option TL}{b:Sm}{qb:PS}(hg:Gs O Ns g q)(hj:PutOk O J put pput)(hj1:PutOk O1 J put pput)(hJ:∀i∈J,i∉O)(hJ1:∀i∈J,i∉O1)(hN:∀i∈Ns,i∉O)(hb:S O O1 R fr b qb)(hb1:S O1 O1 R fr b qb): S O O1 R fr (Zbh g put b) (ZnI q pput qb):=fun c ρ σ H Φ r s h=>by
 obtain⟨ts,h1,h⟩:=Zz0.mp h
 obtain⟨nx,X,vs,F,G,g1,g2,g3,g4,g5⟩:=hg c ρ σ H Φ ts s h1
 split at h
 ·cases h
 ·rename_i hne
  cases ts with
  | nil=>exact absurd rfl hne
  | cons t rs=>
   cases g2 with
   | @cons v _ F1 ws _ F2 a b'=>
   have sx:=s.ext X
   have hsrc:∀a∈G,c.H0.length≤a∨c.P a:=fun a m=>s.from_src (g4 a m).2
   have hoff:∀a∈G,¬Held O σ Φ a:=fun a m ⟨k,hk,⟨t,e⟩,q⟩=>s.from_off hN (g4 a m).2 hk e q
   obtain⟨σ1,p0,h⟩:=Zz0.mp h
   obtain⟨r1,h2,h⟩:=Zz0.mp h
   obtain⟨ρ1,Φ1,p1,s1,p3,p4⟩:=hj c ρ σ (H++X) Φ v t F1 σ1 sx a (fun x m=>hsrc x (g3 x (Zz4 _ m))) (fun k hk t' e x m q=>hoff x (g3 x (Zz4 _ q)) ⟨k,hk,⟨t',e⟩,m⟩) p0
   have hh:∀x,Held O σ1 Φ1 x→Held O σ Φ x:=fun x ⟨k,hk,⟨t',e⟩,m⟩=>by
    obtain⟨q1,q2⟩:=p3 k fun q=>hJ k q hk
    exact⟨k,hk,⟨t',q1▸e⟩,q2▸m⟩
   obtain⟨ρ2,K2,Φ2,w1,w2,w3⟩:=hb c ρ1 σ1 (H++X) Φ1 r1 s1 h2
   have e0:nx 0 (H++X)=some (some v):=by have:=g5 (H++X) (fun _ _=>rfl) 0 (Nat.zero_le _);simpa using this
   have estep:Zbh g put b ρ H=(b ρ1 (H++X)).bind fun q=>match q.1 with
     | some _=>some q
     | none=>ZcC nx put b (rs.length+1) 1 q.2.1 q.2.2:=by
    simp only[Zbh,g1,Option.bind_some,List.length_cons]
    show(nx 0 (H++X)).bind _=_
    rw[e0]
    first | (simp only[Option.bind_some,p1];done) | (simp only[Option.bind_some,p1];rfl)
   rw[estep]
   refine Aft.grow (X:=X) ?_
   rcases w3 with⟨k1,k2,k3,k4⟩ | ⟨t',v',F',k1,k2,k3⟩
   ·rw[k1]at h
    have hG2:∀a∈G,K2[a]?=(H++X)[a]?:=fun x m=>w2 x (g4 x m).1 fun q=>hoff x m (hh x q)
    have hoff2:∀a∈G,¬Held O1 r1.2 Φ2 a:=fun x m q=>by
     rcases k4 x q with q | q
     ·have:=(g4 x m).1;omega
     ·exact hoff x m (hh x q)
    have ih:=Zmj hj1 hJ1 hb1 (H1:=H++X) (fun a m=>(g4 a m).1) hsrc g5 rs ws 1 ρ2 r1.2 K2 Φ2 F2 r (fun j=>by rw[Nat.add_comm];simp) (by simp;omega) k3 w1 hG2 hoff2 (b'.frame fun x m=>hG2 x (g3 x (Zz3 _ m))) (fun x m=>g3 x (Zz3 _ m)) h
    rw[k2]
    simp only[Option.bind_some]
    obtain⟨ρ3,K3,Φ3,l1,l2,l3⟩:=ih
    refine⟨ρ3,K3,Φ3,by omega,fun x hx hn=>?_,?_⟩
    ·rw[l2 x (by omega) fun q=>(k4 x q).elim (fun q=>by omega) fun q=>hn (hh x q),w2 x hx fun q=>hn (hh x q)]
    ·rcases l3 with⟨m1,m2,m3,m4⟩ | l
     ·refine .inl ⟨m1,m2,m3,fun x q=>?_⟩
      rcases m4 x q with q | q
      ·exact .inl (by omega)
      ·exact(k4 x q).imp id (hh x)
     ·exact .inr l
   ·rw[k1]at h
    cases h
    refine⟨ρ2,K2,Φ2,w1,fun x hx hn=>w2 x hx fun q=>hn (hh x q),.inr ⟨t',v',F',k1,?_,k3⟩⟩
    rw[k2]
    rfl
section
variable {σ:TL} {Q:T→Prop} {B:Bool→Prop} {R:T→Prop} {N:TL→Prop}
theorem Zwc{q1 q2:T→T→Option T}{f g h:PE}(k:Pk (f σ) fun x=>Pk (g σ) fun y=>Pk (q1 x y) fun z=>Pb (Zbt z) fun b=>(b=true→Pk (h σ) fun v=>Pk (q2 y v) fun w=>Pb (Zbt w) B)∧(b=false→B false)): Pb (Zj7 q1 q2 f g h σ) B:=by
 obtain⟨x,a1,y,a2,z,a3,b,a4,k1,k2⟩:=k
 cases b with
 | false=>exact⟨false,by simp[Zj7,a1,a2,a3,a4],k2 rfl⟩
 | true=>
  obtain⟨v,b1,w,b2,c,b3,q⟩:=k1 rfl
  exact⟨c,by simp[Zj7,a1,a2,a3,a4,b1,b2,b3],q⟩
theorem Zxz{g:PG}{j n:Nat}{a:Nat→T}{b:PS}(hn:0<n)(hg:Pl (g σ) fun ts=>ts=tab n a)(P:Nat→TL→Prop)(h0:P 0 σ)(h1:∀i σ,i<n→P i σ→Psk (b (ZR σ j (a i))) R (P (i+1)))(h2:∀σ,P n σ→N σ): Psk (ZnI g (ZaT j) b σ) R N:=by
 obtain⟨o,s,e,q⟩:=Zco (R:=R) (N:=N) (b:=b) (j:=j) hg P h0 h1 h2
 obtain⟨ts,e1,rfl⟩:=hg
 refine⟨o,s,?_,q⟩
 have hne:tab n a≠[]:=fun h=>by have:=congrArg List.length h;rw[Z9]at this;simp at this;omega
 simp only[ZnI,e1,Option.bind_some,hne,if_false]
 simpa only[Zcu,e1,Option.bind_some]using e
end
end TM
end
section
namespace TM
open PySem PM
theorem Zvc{fr:Bool}: SimF fr (fun _ _=>none) (fun _=>none):=by
 intro H vs ts t F1 hp r h
 cases h
end TM
end
section
namespace TM
open PySem PM
def Keep0(g:Sm): Prop:=∀ρ H r,g ρ H=some r→r.2.1 0=ρ 0
theorem Keep0.next: Keep0 Zax:=fun ρ H r h=>by cases h;rfl
theorem Zjl{e:Ex}: Keep0 (ZbM e):=fun ρ H r h=>by
 obtain⟨_,_,q⟩:=Zz1.mp h
 subst q;rfl
theorem Keep0.ret{e:Ex}: Keep0 (Zag e):=fun ρ H r h=>by
 obtain⟨_,_,q⟩:=Zz1.mp h
 subst q;rfl
theorem Keep0.put{f o i:Ex}: Keep0 (ZcG f o i):=fun ρ H r h=>by
 obtain⟨_,_,h⟩:=Zz0.mp h
 obtain⟨_,_,h⟩:=Zz0.mp h
 obtain⟨_,_,h⟩:=Zz0.mp h
 obtain⟨_,_,q⟩:=Zz1.mp h
 subst q;rfl
theorem Keep0.seq{a b:Sm}(x:Keep0 a)(y:Keep0 b): Keep0 (ZW a b):=fun ρ H r h=>by
 obtain⟨r1,e1,h⟩:=Zz0.mp h
 have h1:=x ρ H r1 e1
 split at h
 ·cases h;exact h1
 ·exact(y _ _ _ h).trans h1
theorem Keep0.ife{t:Ts}{a b:Sm}(x:Keep0 a)(y:Keep0 b): Keep0 (sIf t a b):=fun ρ H r h=>by
 obtain⟨p,_,h⟩:=Zz0.mp h
 split at h
 ·exact x _ _ _ h
 ·exact y _ _ _ h
theorem Keep0.set{i:Nat}{e:Ex}(hi:0≠i): Keep0 (Zaa i e):=fun ρ H r h=>by
 obtain⟨_,_,q⟩:=Zz1.mp h
 subst q
 simp[upd,hi]
def SimM(f:List V→Hp→Option (V×Hp))(p:List T→Option T): Prop:=∀(H:Hp) (v:V) (vs:List V) (t:T) (ts:List T) (t':T) (F0 F1:List Nat),0<H.length→RF H v t F0→F0.Nodup→0∉F0→RFs H vs ts F1→(∀a∈F0,a∉F1)→p (t::ts)=some t' →
 ∃w H' F',f (v::vs) H=some (w,H')∧H.length≤H'.length∧(∀a,a<H.length→a∉F0→H'[a]?=H[a]?)∧RF H' v t' F'∧F'.Nodup∧∀a∈F',H.length≤a∨a∈F0
noncomputable def Zeb(n:Nat)(q:PS): List T→Option T:=fun ts=>if ts.length=n then(q fun i=>ts[i]?).bind fun r=>r.2 0 else none
theorem ZjI{O':List Nat}{n:Nat}{g:Sm}{q:PS}(h:S [0] O' [0] false g q)(h0:0∈O')(hk:Keep0 g): SimM (ZJ n g) (Zeb n q):=fun H v vs t ts t' F0 F1 hp r0 nd n0 rs dj e=>by
 unfold Zeb at e
 split at e
 ·rename_i hl
  obtain⟨r1,e1,e2⟩:=Zz0.mp e
  obtain⟨Φ,hΦ⟩:=rs.slots
  have st:St ⟨H,F0,fun a=>a∈F0∨a∈F1⟩ [0] (fun i=>(v::vs)[i]?) (fun i=>(t::ts)[i]?) H (fun i=>match i with | 0=>F0 | i+1=>Φ i):=by
   refine⟨fun i u e=>?_,fun i u e a m=>?_,fun i hi u e=>?_,Nat.le_refl _,fun a _ _=>rfl,hp,n0⟩
   ·cases i with
    | zero=>simp at e;subst e;exact⟨v,rfl,r0⟩
    | succ i=>
     simp at e
     obtain⟨w,h1,h2,_⟩:=hΦ i u e
     exact⟨w,by simpa using h1,h2⟩
   ·cases i with
    | zero=>exact .inr (.inl m)
    | succ i=>
     simp at e
     obtain⟨w,h1,h2,h3⟩:=hΦ i u e
     exact .inr (.inr (h3 a m))
   ·have:i=0:=by simpa using hi
    subst this
    refine⟨nd,fun a m=>.inr m,fun j u' hj ej a m=>?_⟩
    cases j with
    | zero=>exact absurd rfl hj
    | succ j=>
     simp at ej
     obtain⟨w,h1,h2,h3⟩:=hΦ j u' ej
     exact fun q=>dj a m (h3 a q)
  obtain⟨ρ',H',Φ',h1,h2,h3⟩:=h _ _ _ _ _ _ st e1
  have hv:(v::vs).length=n:=by rw[←hl];simp[rs.length]
  have go:∀(o:Option V) (O2:List Nat),0∈O2→g (fun i=>(v::vs)[i]?) H=some (o,ρ',H')→St ⟨H,F0,fun a=>a∈F0∨a∈F1⟩ O2 ρ' r1.2 H' Φ'→∃w H' F',ZJ n g (v::vs) H=some (w,H')∧H.length≤H'.length∧(∀a,a<H.length→a∉F0→H'[a]?=H[a]?)∧RF H' v t' F'∧F'.Nodup∧∀a∈F',H.length≤a∨a∈F0:=by
   intro o O2 hO eg s2
   obtain⟨v',ev,rv⟩:=s2.slot 0 t' e2
   have kk:=hk _ _ _ eg
   have:v'=v:=by
    have k2:ρ' 0=some v:=kk
    rw[ev]at k2
    cases k2
    rfl
   subst this
   obtain⟨o1,o2,_⟩:=s2.own 0 hO t' e2
   exact⟨o.getD .none,H',Φ' 0,by simp only[ZJ,hv,if_true,eg,Option.map_some],h1,s2.keep,rv,o1,o2⟩
  rcases h3 with⟨k1,k2,k3,k4⟩ | ⟨u,v',F',k1,k2,k3,k4,k5,k6⟩
  ·exact go none O' h0 k2 k3
  ·exact go (some v') [0] List.mem_cons_self k2 k4
 ·cases e
noncomputable def ZfU(x:Nat)(p:List T→Option T)(ps:PEs): PS:=fun σ=>(ps σ).bind fun ts=>(σ x).bind fun t=>(p (t::ts)).map fun t'=>(none,ZR σ x t')
section
variable {O O' R N:List Nat} {fr u:Bool}
theorem ZeK{x n:Nat}{f:List V→Hp→Option (V×Hp)}{p:List T→Option T}{es:Exs}{ps:PEs}(hx:x∈O)(k:SimM f p)(y:Es O N u n es ps)(hN:x∉N)(hO:∀j∈O',j∈O): S O O' R fr (ZbM (ZH f (Zh (Zg x) es))) (ZfU x p ps):=fun c ρ σ H Φ r s q=>by
 obtain⟨ts,h1,q⟩:=Zz0.mp q
 obtain⟨t,h2,q⟩:=Zz0.mp q
 obtain⟨t',h3,q⟩:=Zz1.mp q
 subst q
 obtain⟨v,ev,rv⟩:=s.slot x t h2
 obtain⟨o1,o2,o3⟩:=s.own x hx t h2
 have hlow:∀k t,σ k=some t→∀a∈Φ k,a<H.length:=fun k t e a m=>by
  obtain⟨_,_,r⟩:=s.slot k t e
  exact r.lt a m
 obtain⟨_,vs,X,F,a1,a2,a3,_⟩:=y c ρ σ H Φ ts s h1
 have hp:0<(H++X).length:=by have:=s.pos;have:=s.len;rw[List.length_append];omega
 have hlen:(H++X).length=H.length+X.length:=List.length_append
 have dj:∀a∈Φ x,a∉F:=fun a m q=>by
  rcases a3 a q with h | ⟨j,hj,⟨tj,ej⟩,mj⟩
  ·have:=hlow x t h2 a m;omega
  ·exact o3 j tj (fun e=>hN (e▸hj)) ej a m mj
 obtain⟨w,H',F',b1,b2,b3,b4,b5,b6⟩:=k (H++X) v vs t ts t' (Φ x) F hp (rv.ext X) o1 (fun m=>ZmM s hx h2 m rfl) a2 dj h3
 have same:∀a,a<H.length→a∉Φ x→H'[a]?=H[a]?:=fun a ha hn=>by
  rw[b3 a (by omega) hn,List.getElem?_append_left ha]
 have eg:ZbM (ZH f (Zh (Zg x) es)) ρ H=some (none,ρ,H'):=by
  simp only[ZbM,ZH,Zh,Zg,ev,Option.map_some,Option.bind_some,a1,b1]
 refine⟨ρ,H',Z7 Φ x F',by omega,fun a ha hn=>same a ha fun m=>hn ⟨x,hx,⟨t,h2⟩,m⟩,.inl ⟨rfl,eg,⟨fun i u' e=>?_,fun i u' e a m=>?_,fun i hi u' e=>?_,by have:=s.len;omega,fun a ha hn=>?_,s.pos,s.f0⟩,fun a hh=>?_⟩⟩
 ·by_cases c1:i=x
  ·subst c1
   simp only[ZR,if_true,Option.some.injEq]at e
   subst e
   exact⟨v,ev,by simpa [Z7]using b4⟩
  ·simp only[ZR,c1,if_false]at e
   obtain⟨v2,e2,r2⟩:=s.slot i u' e
   refine⟨v2,e2,?_⟩
   simp only[Z7,c1,if_false]
   exact r2.frame fun a m=>same a (hlow i u' e a m) fun q=>o3 i u' c1 e a q m
 ·by_cases c1:i=x
  ·subst c1
   simp only[Z7,if_true]at m
   rcases b6 a m with h | h
   ·exact .inl (by have:=s.len;omega)
   ·exact s.src i t h2 a h
  ·simp only[ZR,c1,if_false]at e
   simp only[Z7,c1,if_false]at m
   exact s.src i u' e a m
 ·by_cases c1:i=x
  ·subst c1
   refine⟨by simpa [Z7]using b5,fun a m=>?_,fun j u2 hj ej a m=>?_⟩
   ·simp only[Z7,if_true]at m
    rcases b6 a m with h | h
    ·exact .inl (by have:=s.len;omega)
    ·exact o2 a h
   ·simp only[Z7,if_true]at m
    simp only[ZR,hj,if_false]at ej
    simp only[Z7,hj,if_false]
    intro q
    have hq:=hlow j u2 ej a q
    rcases b6 a m with h | h
    ·omega
    ·exact o3 j u2 hj ej a h q
  ·simp only[ZR,c1,if_false]at e
   obtain⟨q1,q2,q3⟩:=s.own i (hO i hi) u' e
   refine⟨by simpa [Z7,c1]using q1,fun a m=>?_,fun j u2 hj ej a m=>?_⟩
   ·simp only[Z7,c1,if_false]at m
    exact q2 a m
   ·simp only[Z7,c1,if_false]at m
    by_cases c2:j=x
    ·subst c2
     simp only[Z7,if_true]
     intro q
     have hm:=hlow i u' e a m
     rcases b6 a q with h | h
     ·omega
     ·exact q3 j t hj h2 a m h
    ·simp only[ZR,c2,if_false]at ej
     simp only[Z7,c2,if_false]
     exact q3 j u2 hj ej a m
 ·have hs:=s.keep a ha hn
  rw[same a (by have:=s.len;omega) fun m=>?_]
  ·exact hs
  ·rcases o2 a m with h | h
   ·omega
   ·exact hn h
 ·obtain⟨j,hj,⟨u',e⟩,m⟩:=hh
  by_cases c1:j=x
  ·subst c1
   simp only[Z7,if_true]at m
   rcases b6 a m with h | h
   ·exact .inl (by omega)
   ·exact .inr ⟨j,hx,⟨t,h2⟩,h⟩
  ·simp only[ZR,c1,if_false]at e
   simp only[Z7,c1,if_false]at m
   exact .inr ⟨j,hO j hj,⟨u',e⟩,m⟩
end
section
variable {σ:TL} {R:T→Prop} {N:TL→Prop}
theorem ZeL{x:Nat}{p:List T→Option T}{ps:PEs}{t:T}(e:σ x=some t)(h:Pl (ps σ) fun ts=>Pk (p (t::ts)) fun t'=>N (ZR σ x t')): Psk (ZfU x p ps σ) R N:=by
 obtain⟨ts,e1,t',e2,q⟩:=h
 exact⟨none,ZR σ x t',by simp only[ZfU,e1,e,Option.bind_some,e2,Option.map_some],by simp,fun _=>q⟩
theorem ZjJ{n:Nat}{q:PS}{ts:List T}{Q:T→Prop}(hn:ts.length=n)(h:Psk (q fun i=>ts[i]?) (fun _=>False) fun σ=>∃t,σ 0=some t∧Q t): Pk (Zeb n q ts) Q:=by
 obtain⟨o,s,e,h1,h2⟩:=h
 cases o with
 | none=>
  obtain⟨t,e2,q2⟩:=h2 rfl
  exact⟨t,by simp only[Zeb,hn,if_true,e,Option.bind_some,e2],q2⟩
 | some u=>exact absurd (h1 u rfl) (by simp)
end
end TM
end
section
namespace TM
open PySem PM
section
variable {O N M:List Nat}
theorem Zy8{e1 e2:Ex}{p1 p2:PE}(x:E O N true e1 p1)(y:E O M true e2 p2)(hN:∀i∈N,i∈O)(hM:∀i∈N,i∉M): E O (N++M) true (Zy Zas e1 e2) (ZC Zaj p1 p2):=fun c ρ σ H Φ t s h=>by
 obtain⟨t1,h1,h⟩:=Zz0.mp h
 obtain⟨t2,h2,h⟩:=Zz0.mp h
 obtain⟨v1,X,F1,a1,a2,a3,a4⟩:=x c ρ σ H Φ t1 s h1
 obtain⟨v2,Y,F2,b1,b2,b3,b4⟩:=y c ρ σ (H++X) Φ t2 (s.ext X) h2
 have a2':=a2.ext Y
 have dj:∀a∈F1,a∉F2:=fun a ha hb=>by
  have hlt:=a2.lt a ha
  rcases b3 a hb with h | ⟨j,hj,⟨tj,ej⟩,mj⟩
  ·omega
  ·obtain⟨vj,_,rj⟩:=s.slot j tj ej
   have:=rj.lt a mj
   rcases a3 a ha with h | ⟨i,hi,⟨ti,ei⟩,mi⟩
   ·omega
   ·exact(s.own i (hN i hi) ti ei).2.2 j tj (fun q=>hM i hi (q▸hj)) ej a mi mj
 have nd1:=a4 rfl
 have nd2:=b4 rfl
 have f1:∀a∈F1,From H (N++M) σ Φ a:=fun a m=>(a3 a m).mono fun i hi=>List.mem_append_left _ hi
 have f2:∀a∈F2,From H (N++M) σ Φ a:=fun a m=>(b3 a m).back.mono fun i hi=>List.mem_append_right _ hi
 have ev:∀r,Zas v1 v2 (H++X++Y)=some r→Zy Zas e1 e2 ρ H=some r:=fun r hr=>by simp only[Zy,a1,b1,Option.bind_some,hr]
 have ndA:∀{A B:List Nat},A.Nodup→B.Nodup→(∀a∈A,a∉B)→(A++B).Nodup:=fun ha hb hd=>by
  rw[List.nodup_append]
  exact⟨ha,hb,fun a m b m' e=>hd a m (e▸m')⟩
 cases a2' with
 | none=>cases h
 | bool=>cases h
 | str=>cases h
 | int a=>
  cases b2 <;> first | (cases h;done) | skip
  cases h
  exact⟨_,X++Y,[],ev _ (by simp[Zas]),.int _,by simp,by simp⟩
 | tup hs1=>
  cases b2 with
  | none=>cases h
  | bool=>cases h
  | str=>cases h
  | int=>cases h
  | ref=>cases h
  | tup hs2=>
   simp only[Zaj]at h
   split at h
   ·rename_i hl
    cases h
    refine⟨_,X++Y,_,ev _ ?_,.tup (by rw[←List.append_assoc];exact hs1.append hs2),fun a m=>?_,fun _=>ndA nd1 nd2 dj⟩
    ·simp only[Zas]
     rw[if_pos (by rw[List.length_append]at hl ⊢;rw[hs1.length,hs2.length];exact hl),List.append_assoc]
    ·rcases Zz8.mp m with m | m
     ·exact f1 a m
     ·exact f2 a m
   ·cases h
 | @ref r1 vs1 _ G1 e1' hs1=>
  cases b2 with
  | none=>cases h
  | bool=>cases h
  | str=>cases h
  | int=>cases h
  | tup=>cases h
  | @ref r2 vs2 _ G2 e2' hs2=>
   simp only[Zaj]at h
   split at h
   ·rename_i hl
    cases h
    have hR:=hs1.append hs2
    refine⟨.ref (H++X++Y).length,X++Y++[vs1++vs2],(H++X++Y).length::(G1++G2),ev _ ?_,?_,fun a m=>?_,fun _=>?_⟩
    ·simp only[Zas,e1',e2',Option.bind_some]
     rw[if_pos (by rw[List.length_append]at hl ⊢;rw[hs1.length,hs2.length];exact hl)]
     simp
    ·rw[show H++(X++Y++[vs1++vs2])=H++X++Y++[vs1++vs2]by simp]
     exact .ref (by simp) (hR.ext _)
    ·rcases Zz7.mp m with rfl | m
     ·exact .inl (by simp)
     ·rcases Zz8.mp m with m | m
      ·exact f1 a (Zz2 _ m)
      ·exact f2 a (Zz2 _ m)
    ·refine List.nodup_cons.mpr ⟨fun m=>?_,ndA (List.nodup_cons.mp nd1).2 (List.nodup_cons.mp nd2).2 fun a m m'=>dj a (Zz2 _ m) (Zz2 _ m')⟩
     have:=hR.lt _ m
     omega
   ·cases h
end
end TM
end
section
namespace PM
open PySem PySem.W PySem.Calls PyProof.Rows PyProof PyProof.Rows.LCg PyProof.Rows.LCp
section
variable {prog:Program} {w:World} {Γ:Cx}
theorem ZtR{elt iter:Expr}{x x₂ y:Str}{px px₂ tp py pos spos:Pos}{kt:Nat}{scope:Scope}{cl:List (Str×Addr)}{t t₂ i:Nat}{g:Src}{f:Ex}(hy:Sto prog w Γ y i)(hg:JI2 prog w Γ iter g)(hel:∀C ρ,J prog w (Za5 Γ scope cl C [(x,t),(x₂,t₂)] ρ) elt f)
  (hsw:swapsWith (.ListComp elt [⟨.Tuple [.Name x px,.Name x₂ px₂] kt tp,iter,[],0⟩] scope pos) (some (.Name y py)) spos.line Γ.env=pure true)
  (hclos:closureFor scope Γ.env=pure cl) (hcell:∀y∈scope.names,y.2≠.cell) (hkind:scope.kind=.function) (hnames:∀y∈scope.names,y.2=.local→scope.names.lookup y.1=some .local) (hx:scope.names.lookup x=some .local) (hx₂:scope.names.lookup x₂=some .local) (hxx:x≠x₂) (htt:t≠t₂) (hs:∀x,foldedSetIterable iter Γ.env x=pure x:=by intro _;rfl):
  S1 prog w Γ (.Assign [.Name y py] (.ListComp elt [⟨.Tuple [.Name x px,.Name x₂ px₂] kt tp,iter,[],0⟩] scope pos) spos) (Zaa i (Zbw g (Zdq t t₂) Zbz f)):=by
 intro W ρ H fr s Q E r rp hf post
 obtain⟨p,e0,e9⟩:=Zz1.mp hf
 cases e9
 obtain⟨z,e1,hf⟩:=Zz0.mp e0
 obtain⟨q,e2,e3⟩:=Zz1.mp hf
 cases e3
 rw[exec_Assign_Name_used _ _ _ _ hsw]
 refine wpAny_bind (wpAny_standAt (wpAny_bind ?_))
 show wpAny _ Γ.A (do let _ ←comprehension (.ListComp elt [⟨.Tuple [.Name x px,.Name x₂ px₂] kt tp,iter,[],0⟩] scope pos) scope Γ.env _ (newList []) false (eval iter Γ.env) (some (assign (.Name y py) Γ.env))) _ _ s
 refine wpAny_bind (wpAny_mono (wpAny_comprehension_free (use:=some (assign (.Name y py) Γ.env)) (Q:=fun _ s'=>Q .next s') rfl hs hclos hkind hnames ?_) (fun _ s' h'=>wpAny_pure (wpAny_pure h')) fun _ _ e=>e)
 refine Zpc (RR:=fun acc C=>compPost (model prog w) Γ.A E (some (assign (.Name y py) Γ.env)) (fun _ s'=>Q .next s') acc C) hg hel hcell hkind hx hx₂ hxx htt rp (q:=q) (by rw[e1];exact e2) fun W2 h' tk' C D oC m₂ ys l2 hC hv hl aD aC cd r3=>?_
 have r4:Rep Γ W2 ρ q.2 ((D,lst ys)::(C,oC)::fr) h':=r3.less fun t ht=>by
  rcases Zz7.mp ht with e | ht
  ·exact e▸List.mem_cons_of_mem _ Zz5
  ·rcases Zz7.mp ht with e | ht
   ·exact e▸List.mem_cons_self
   ·exact Zz2 _ (Zz2 _ ht)
 obtain⟨W5,l5,r5,v5⟩:=Zfe r4 (fun t ht=>by
  rcases Zz7.mp ht with e | ht
  ·rw[e]
   exact cd.symm
  ·exact aD t ht) hv hl
 refine wpAny_assign_Name (hy W5 ρ _ _ _ _ _ _ _ r5 v5 fun h6 t6 r6=>?_)
 refine⟨m₂,hC.ns (r6.frAt (q:=(C,oC)) Zz5),fun h'' sb=>?_⟩
 have r7:Rep Γ W5 (upd ρ i (.ref q.2.length)) (q.2++[q.1]) ([]++fr) h'':=
  Rep.swap (fs:=[(C,oC)]) (fs':=[]) r6 (fun q hq t ht=>by rw[List.mem_singleton.mp hq];exact aC t ht) (fun b o hb e=>sb.extBut b o (fun z=>hb (by simp[z])) e) fun q hq=>nomatch hq
 exact post W5 h'' t6 (l2.trans l5) r7
end
end PM
end
section
namespace PM
open PySem PySem.W PySem.Calls PyProof.Rows PyProof
noncomputable def Zc2(ns:List Int): List Int:=ns.mergeSort fun a b=>decide (a≤b)
theorem Zqh{ns ms:List Int}(h1:ms.Perm ns)(h2:ms.Pairwise (·≤·)): ms=Zc2 ns:=by
 refine List.Perm.eq_of_pairwise (le:=fun a b:Int=>a≤b) (fun a b _ _ h h'=>Int.le_antisymm h h') h2 ?_ (h1.trans (List.mergeSort_perm ns _).symm)
 have:=List.pairwise_mergeSort (le:=fun a b:Int=>decide (a≤b)) (fun a b c h h'=>by simp at *;omega) (fun a b=>by simp;omega) ns
 unfold Zc2
 simpa using this
theorem Zvd{ns:List Int}: (Zc2 ns).length=ns.length:=(List.mergeSort_perm ns _).length_eq
theorem ZmU{W:Wd}: ∀{vs:List V} {xs:List Value} {ks:List Int},VRs W vs xs→Zdj vs=some ks→IntsAre xs ks:=by
 intro vs
 induction vs with
 | nil=>intro xs ks h e;cases h;cases e;exact .nil
 | cons v vs ih=>
  intro xs ks h e
  cases h with
  | cons a b=>
   cases v with
   | int i=>
    obtain⟨js,e1,e2⟩:=Zz1.mp e
    subst e2
    cases a with
    | int _ t=>exact .cons i t (ih b e1)
   | none=>cases e
   | bool=>cases e
   | str=>cases e
   | tup=>cases e
   | ref=>cases e
theorem ZqW{W:Wd}: ∀{xs:List Value} {ks:List Int},IntsAre xs ks→VRs W (ks.map V.int) xs
 | _,_,.nil=>.nil
 | _,_,.cons n t r=>.cons (.int n t) (ZqW r)
noncomputable def ZjK: List V→Hp→Option (V×Hp)
 | [.ref a],H=>H[a]?.bind fun vs=>(Zdj vs).bind fun ns=>if vs.length<64 then some (.ref H.length,H++[(Zc2 ns).map V.int])else none
 | _,_=>none
section
variable {prog:Program} {w:World}
theorem Zve: OpN prog w (fun xs=>call (.builtin "sorted") xs) ZjK:=by
 intro Γ W ρ H fr s Q E as xs v H' r hx ho post
 unfold ZjK at ho
 split at ho
 ·obtain⟨vs,e1,ho⟩:=Zz0.mp ho
  obtain⟨ks,e3,ho⟩:=Zz0.mp ho
  split at ho
  ·rename_i h64
   cases ho
   obtain⟨x,ex,rx⟩:=hx.one
   subst ex
   cases rx with
   | @ref _ a ea=>
    obtain⟨hl,ys,k,hg,hv⟩:=r.at e1 ea
    have isl:s.heap.IsList a ys.toArray:=⟨_,hg,rfl,k,rfl⟩
    refine sorted_ints isl (ZmU hv e3) (by rw[hv.length];exact h64) fun out ms a1 a2 a3=>?_
    have em:=Zqh a2 a3
    subst em
    obtain⟨q,hq⟩:=sortedAll_at s.heap ys out
    have hlen:ks.length=vs.length:=by rw[←hv.length];exact(ZmU hv e3).length.symm
    obtain⟨r2,ap⟩:=r.more (h':=sortedAll s.heap ys out) (fs:=[(s.heap.objs.size+1,Zbg out.toList q)]) (fun b o hb=>sortedAll_old hb) (fun u hu=>by
     rw[List.mem_singleton.mp hu]
     refine⟨?_,Nat.le_succ _⟩
     rw[hq])
    obtain⟨W2,l2,r3,v3⟩:=Zfe r2 (fun t ht=>ap _ Zz5 t ht) (ZqW a1) (by rw[List.length_map,Zvd,hlen];exact hl)
    exact post W2 _ s.toks _ l2 r3 v3
  ·cases ho
 ·cases ho
end
end PM
namespace PM
open PySem PySem.W PySem.Calls PyProof.Rows PyProof PySem.SeqAt
open SeqRoads2 MeetsSeq3 MeetsSeq2 MeetsSeq AutoSeq1
theorem Zul(l:Addr)(its:Array Value)(n:Nat)(dd:Option Addr)(sl:Array (Option Value))(x:Value)(tk:Tok)(e:Value→Bool)(j:Nat)(hj:j<its.size)(h1:1≤j)(small:(j:Int)<2 ^ 63-1)
  (hit:e its[j]=true) (no:∀m (hm:m<its.size),1≤m→m<j→e its[m]=false):
  Meets (Builtin.«list.index» ⟨[.ref l,x,.int 1 tk],[]⟩) fun A R s=>s.heap.get? l=some { cls:=.type "list",dict:=dd,data:=.seq its n,slots:=sl }∧(∀y,y∈its→EqAt A.in1 s y x (e y))∧R (.ok (.ret (.int j s.toks))) { s with toks:=s.toks+1 }:=by
 intro prog w A R s h
 obtain⟨hp,g,d,tk',os⟩:=s
 obtain⟨hq0,he,h⟩:=h
 wp_walk using wpAny_loadPart' hq0
 have b1:((fun i:Int=>if i<0 then max 0 (i+(its.size:Int))else i) ((some (1:Int)).getD 0))=((1:Nat):Int):=by simp
 have b2:((fun i:Int=>if i<0 then max 0 (i+(its.size:Int))else i) ((Option.none:Option Int).getD (2 ^ 63-1)))=2 ^ 63-1:=by simp
 rw[b1,b2]
 refine⟨plainId_quiet plain_index_loop _,codeAny_builtin entry_index_loop ?_⟩
 rw[Around.under_plainId plain_index_loop _];exact index_loopAt l its n dd sl x e (2 ^ 63-1) j hj small hit _ 1 rfl h1 no prog w A R _ ⟨hq0,he,h⟩
section
variable {prog:Program} {w:World} {A:Around} {E:Value→Shared→Prop} {s:Shared}
theorem ZtS{l:Addr}{vs:List Value}{ns:List Int}{k:Int}{t t':Tok}{Q:Value→Shared→Prop}(hl:s.heap.IsList l vs.toArray)(hi:IntsAre vs ns)(hn:ns.length≤100000)(hk:k∈ns.drop 1)
  (h:Q (.int ((1+(ns.drop 1).idxOf k:Nat)) s.toks) { s with toks:=s.toks+1 }):wpAny (model prog w) A (call (.builtin "list.index") [.ref l,.int k t,.int 1 t']) Q E s:=by
 obtain⟨⟨c0,dd,da,sl⟩,ho,ec,n,ed⟩:=id hl
 simp only at ec ed
 subst ec ed
 have hlen:=hi.length
 have hj:(ns.drop 1).idxOf k<(ns.drop 1).length:=List.idxOf_lt_length_iff.mpr hk
 have hj':1+(ns.drop 1).idxOf k<ns.length:=by rw[List.length_drop]at hj;omega
 refine call_meets PySem.F.slot_list_index ⟨_,ho,rfl⟩ PySem.F.entry_list_index (PySem.F.args_list_index_3 _ _ _) (Zul l vs.toArray n dd sl (.int k t) t' (isInt k) (1+(ns.drop 1).idxOf k) (by simpa [hlen]using hj') (by omega) (by omega) ?_ ?_) ⟨ho,fun y hy=>(eq_isInt k t hi y (by simpa using hy)).at _ _,h⟩
 ·show isInt k vs[1+(ns.drop 1).idxOf k]=true
  rw[isInt_at k hi _ (by omega) hj']
  have:=List.getElem_idxOf hj
  rw[List.getElem_drop]at this
  simpa using this
 ·intro m hm h1 h2
  show isInt k vs[m]=false
  rw[isInt_at k hi m (by simpa using hm) (by have:=hm;simp[hlen]at this;omega)]
  have hm':m-1<(ns.drop 1).length:=by rw[List.length_drop];omega
  have:=ne_of_lt_idxOf (k:=k) (ns:=ns.drop 1) (j:=m-1) (by omega) hm'
  rw[List.getElem_drop]at this
  simpa [show 1+(m-1)=m by omega]using this
end
noncomputable def Zj8: V→V→V→Hp→Option (V×Hp)
 | .ref a,.int k,.int b,H=>H[a]?.bind fun vs=>(Zdj vs).bind fun ns=>if b=1∧k∈ns.drop 1 then some (.int ((1+(ns.drop 1).idxOf k:Nat):Int),H)else none
 | _,_,_,_=>none
noncomputable def Znj(f g h:Ex): Ex:=fun ρ H=>(f ρ H).bind fun p=>(g ρ p.2).bind fun q=>(h ρ q.2).bind fun u=>Zj8 p.1 q.1 u.1 u.2
section
variable {prog:Program} {w:World} {Γ:Cx}
theorem ZtT{a b c:V}{H:Hp}{r:V×Hp}(h:Zj8 a b c H=some r): ∃i k vs ns,a=.ref i∧b=.int k∧c=.int 1∧H[i]?=some vs∧Zdj vs=some ns∧k∈ns.drop 1∧r=(.int ((1+(ns.drop 1).idxOf k:Nat):Int),H):=by
 unfold Zj8 at h
 split at h
 ·obtain⟨vs,e1,h⟩:=Zz0.mp h
  obtain⟨ns,e2,h⟩:=Zz0.mp h
  split at h
  ·rename_i q
   cases h
   obtain⟨rfl,q⟩:=q
   exact⟨_,_,vs,ns,rfl,rfl,rfl,e1,e2,q,rfl⟩
  ·cases h
 ·cases h
theorem J.index{o e1 e2:Expr}{apos pos:Pos}{f g k:Ex}(ho:J prog w Γ o f)(h1:J prog w Γ e1 g)(h2:J prog w Γ e2 k)(hbase:attributeBase o "index" Γ.env (eval o Γ.env)=eval o Γ.env:=by rfl)
  (hline:(apos.endLine == pos.line)=true:=by rfl) (htrees:backTo pos (starEach [e1,e2] Γ.env)=[(false,eval e1 Γ.env),(false,eval e2 Γ.env)]:=by rfl) (hstay:∀ρ H p,f ρ H=some p→∀q,g ρ p.2=some q→p.2=q.2:=by intro _ _ _ _ _ h;cases h;rfl) (hstay2:∀ρ H p,g ρ H=some p→∀q,k ρ p.2=some q→p.2=q.2:=by intro _ _ _ _ _ h;cases h;rfl):J prog w Γ (.Call (.Attribute o "index" apos) [e1,e2] [] pos) (Znj f g k):=by
 intro W ρ H fr s Q E v H' r hx post
 obtain⟨p,x1,hx⟩:=Zz0.mp hx
 obtain⟨q,x2,hx⟩:=Zz0.mp hx
 obtain⟨u,x3,x4⟩:=Zz0.mp hx
 obtain⟨i,kk,vs,ns,ea,eb,ec,hvs,hns,hmem,er⟩:=ZtT x4
 refine wpAny_Call_method2_late hbase hline htrees (ho W ρ H fr s _ E _ _ r x1 fun W1 k1 t1 x l1 r1 y1=>?_)
 rw[ea]at y1
 have s1:=hstay ρ H p x1 q x2
 have s2:=hstay2 ρ p.2 q x2 u x3
 cases y1 with
 | @ref _ a aa=>
 obtain⟨hl,xs,n,hg,hv⟩:=r1.at (by rw[s1,s2];exact hvs) aa
 refine⟨"list","list.index",PySem.F.plainAttrs_list,PySem.F.slot_list_index,PySem.F.type_list_index,(show k1.IsList a xs.toArray from⟨_,hg,rfl,n,rfl⟩).typeIs,fun b eb=>by cases eb;exact⟨_,hg,rfl⟩,?_⟩
 refine Calls.callWith_builtin rfl (Calls.evalArgs_plain (Calls.spliced_cons ?_))
 refine h1 W1 ρ _ fr _ _ E _ _ r1 x2 fun W2 k2 t2 y l2 r2 y2=>Calls.spliced_cons ?_
 refine h2 W2 ρ _ fr _ _ E _ _ r2 x3 fun W3 k3 t3 z l3 r3 z3=>Calls.spliced_nil ?_
 rw[eb]at y2
 rw[ec]at z3
 cases y2 with
 | int _ ty=>
 cases z3 with
 | int _ tz=>
 obtain⟨hl3,xs3,n3,hg3,hv3⟩:=r3.at hvs (l3.at (l2.at aa))
 rw[ZaO]at hl3
 have hI:=ZmU hv3 hns
 refine ZtS ⟨_,hg3,rfl,n3,rfl⟩ hI (by rw[←hI.length,hv3.length];omega) hmem ?_
 have:=post W3 k3 (t3+1) (.int ((1+(ns.drop 1).idxOf kk:Nat):Int) t3) ((l1.trans l2).trans l3)
 cases er
 exact this r3 (.int _ _)
end
end PM
end
section
namespace TM
open PySem PM
theorem Zmo{H:Hp}: ∀ks:List Int,RFs H (ks.map V.int) (ks.map T.int) []
 | []=>.nil
 | k::ks=>.cons (.int k) (Zmo ks)
noncomputable def ZmV: List T→Option T
 | [.lst ts]=>(Zc1 ts).bind fun ns=>if ts.length<64 then some (.lst ((Zc2 ns).map T.int))else none
 | _=>none
theorem Zwd: OCn ZjK ZmV:=fun H vs ts t F hp r h=>by
 unfold ZmV at h
 split at h
 ·obtain⟨v,rfl,r'⟩:=r.one_inv
  cases r' with
  | ref e hs=>
   obtain⟨ks,h1,h⟩:=Zz0.mp h
   split at h
   ·rename_i h64
    cases h
    refine⟨_,[(Zc2 ks).map V.int],_,?_,Zds (Zmo (Zc2 ks)),fun a m=>?_,fun _=>?_⟩
    ·simp only[ZjK,e,Option.bind_some,ZjF hs h1]
     rw[if_pos (by rw[hs.length];exact h64)]
    ·rcases Zz7.mp m with rfl | m
     ·exact .inl (Zz10 _)
     ·cases m
    ·simp
   ·cases h
 ·cases h
noncomputable def Znk(p q r:PE): PE:=fun σ=>(p σ).bind fun t=>(q σ).bind fun k=>(r σ).bind fun b=>match t,k,b with
 | .lst ts,.int k,.int b=>(Zc1 ts).bind fun ns=>if b=1∧k∈ns.drop 1 then some (.int ((1+(ns.drop 1).idxOf k:Nat):Int))else none
 | _,_,_=>none
section
variable {O N M K:List Nat} {u u' u'':Bool}
theorem E.index{e1 e2 e3:Ex}{p1 p2 p3:PE}(x:E O N u e1 p1)(y:E O M u' e2 p2)(z:E O K u'' e3 p3): E O [] true (Znj e1 e2 e3) (Znk p1 p2 p3):=fun c ρ σ H Φ t s h=>by
 obtain⟨t1,h1,h⟩:=Zz0.mp h
 obtain⟨t2,h2,h⟩:=Zz0.mp h
 obtain⟨t3,h3,h⟩:=Zz0.mp h
 obtain⟨v1,X,F1,a1,a2,_,_⟩:=x c ρ σ H Φ t1 s h1
 obtain⟨v2,Y,F2,b1,b2,_,_⟩:=y c ρ σ (H++X) Φ t2 (s.ext X) h2
 obtain⟨v3,Z,F3,c1,c2,_,_⟩:=z c ρ σ (H++X++Y) Φ t3 ((s.ext X).ext Y) h3
 have a3:=(a2.ext Y).ext Z
 split at h
 ·obtain⟨ns,e1,h⟩:=Zz0.mp h
  split at h
  ·rename_i hc
   cases h
   cases b2
   cases c2
   cases a3 with
   | ref e hs=>
    refine⟨_,X++Y++Z,[],?_,.int _,by simp,by simp⟩
    have e':=e
    simp only[Znj,a1,b1,c1,Option.bind_some,Zj8,e',ZjF hs e1]
    rw[if_pos hc]
    simp
  ·cases h
 ·cases h
end
section
variable {σ:TL} {Q:T→Prop}
end
end TM
end
section
namespace TM
open PySem PM
theorem Zpe{nx:Nx}{put:V→Lc→Option Lc}{b:Sm}(hp:∀v ρ ρ',put v ρ=some ρ'→ρ' 0=ρ 0)(hb:Keep0 b): ∀n i,Keep0 (ZcC nx put b n i)
 | 0,_=>fun _ _ _ h=>by cases h
 | n+1,i=>fun ρ H r h=>by
  obtain⟨o,_,h⟩:=Zz0.mp h
  split at h
  ·cases h;rfl
  ·obtain⟨ρ1,e1,h⟩:=Zz0.mp h
   obtain⟨q,e2,h⟩:=Zz0.mp h
   have k:=(hb _ _ _ e2).trans (hp _ _ _ e1)
   split at h
   ·cases h;exact k
   ·exact(Zpe hp hb n (i+1) _ _ _ h).trans k
theorem ZpK{g:Src}{put:V→Lc→Option Lc}{b:Sm}(hp:∀v ρ ρ',put v ρ=some ρ'→ρ' 0=ρ 0)(hb:Keep0 b): Keep0 (Zbh g put b):=fun ρ H r h=>by
 obtain⟨z,_,h⟩:=Zz0.mp h
 exact Zpe hp hb _ _ _ _ _ h
theorem Zpf{i:Nat}(hi:0≠i): ∀v ρ ρ',PM.put1 i v ρ=some ρ'→ρ' 0=ρ 0:=fun v ρ ρ' h=>by
 cases h
 simp[upd,hi]
end TM
end
section
namespace My
open PySem
section
variable {prog:Program} {w:World} {A:Around} {E:Value→Shared→Prop} {s:Shared}
theorem fill_range{R:Result→Shared→Prop}{r:Addr}{a b c:Int}{t u v:Tok}{n:Nat}(hr:IsRange s.heap r a b c t u v)(hn:Builtin.Range.rangeSize a b c=n)(hlen:n≤2 ^ 24)(S:Addr)(res:Value)(c₀:Nat)
  (at_S:s.heap.get? S=some { cls:=.type "list",data:=.seq #[] c₀ }) (ito:Obj) {St:Nat→Heap→Prop} (W:Walks prog w A.in1 s.heap.objs.size [s.heap.objs.size] [s.heap.objs.size] n (fun i v=>∃t,v=.int (a+i*c) t) St)
  (st:∀g:Heap,g.get? s.heap.objs.size=some ito→St 0 g)
  (iter:∀(Q:Value→Shared→Prop) (E':Value→Shared→Prop),Q (.ref s.heap.objs.size) { s with heap:=s.heap.push ito }→wpAny (model prog w) A.in1 (pyIter (.ref r)) Q E' s) (hito:(s.heap.push ito).get? s.heap.objs.size=some ito)
  (out:∀g tk acc k,(∀b o,b≠S→s.heap.get? b=some o→g.get? b=some o)→g.get? S=some { cls:=.type "list",dict:=none,data:=.seq acc k,slots:=#[] }→ItemsOf (fun i v=>∃t,v=.int (a+i*c) t) acc n→R (.ok (.ret res)) { s with heap:=g,toks:=tk }):
  wpAny (model prog w) A.in1 (Builtin.List.listExtendWith (.ref S) (.ref r) res)
   (fun fin s'=>match fin with
    | .done f=>R (.ok f) s'
    | .again c'=>c'.quiet=true∧codeAny (model prog w) A c' R s') (fun e s'=>R (.error e) s') s:=by
 have ne_r:S≠r:=fun e=>by rw[e,hr]at at_S;simp at at_S
 have ne_I:S≠s.heap.objs.size:=Nat.ne_of_lt (Heap.lt_size at_S)
 have off:S∉[s.heap.objs.size]:=fun q=>ne_I (Zz9.mp q)
 have loop:∀(g:Heap) (k tk:Nat),g.get? s.heap.objs.size=some ito→(∀b o,b≠S→s.heap.get? b=some o→g.get? b=some o)→g.get? S=some { cls:=.type "list",data:=.seq #[] k } →
   codeAny (model prog w) A (.builtin "list.extend.loop" ⟨[.ref S,.ref s.heap.objs.size,res],[]⟩) R { s with heap:=g,toks:=tk }:=by
  intro g k tk at_I keeps at_S'
  refine codeAny_extend_loopS W.toS (by rw[sizeLine_eq];omega) S off res n 0 _ #[] k rfl (Nat.zero_le _) (st _ at_I) at_S' (ItemsOf.nil _) fun s' acc k' mv at_S'' its=>?_
  rw[Moved.eq_with mv]
  refine out s'.heap s'.toks acc k' (fun b o bS e=>mv.heap b o (fun q=>?_) (keeps b o bS e)) at_S'' its
  rcases Zz7.mp q with q | q
  ·exact bS q
  ·exact absurd (Heap.lt_size e) (by rw[List.mem_singleton.mp q];exact Nat.lt_irrefl _)
 unfold Builtin.List.listExtendWith
 refine wpAny_bind (wpAny_typeOf (T:="range") ⟨_,hr,rfl⟩ ?_)
 have z1:Builtin.List.listSameRef (.ref S) (.ref r)=false:=by simp[Builtin.List.listSameRef,ne_r]
 have z2:(Value.type "range" == Value.type "list")=false:=by decide
 have z3:(Value.type "range" == Value.type "tuple")=false:=by decide
 simp only[z1,z2,z3,Bool.or_false,Bool.false_eq_true,if_false]
 refine wpAny_bind (iter _ _ ?_)
 refine wpAny_bind (wpAny_holding (wpAny_hint_range (n:=n) (Heap.get?_push_of_some _ hr) hn hlen ?_))
 have at_S1:=Heap.get?_push_of_some ito at_S
 refine wpAny_ite_split (fun _=>?_) (fun _=>wpAny_pure ⟨plainId_quiet F.plain_extend_loop _,loop _ c₀ _ hito (fun b o _ e=>Heap.get?_push_of_some _ e) at_S1⟩)
 refine wpAny_bind (wpAny_rule ?_);refine wpAny_bind ?_
 show wpAny _ _ (updateSeq S (·.push .none) >>= fun _=>updateSeq S (·.pop)) _ _ _;refine wpAny_bind (wpAny_updateSeq at_S1 rfl ?_)
 have at_S2:=Heap.get?_update_self (Obj.mapSeq (·.push Value.none)) at_S1 rfl
 refine wpAny_updateSeq (hz:=by seq_fits) at_S2 rfl ?_
 have at_S3:=Heap.get?_update_self (Obj.mapSeq (·.pop)) at_S2 rfl
 refine wpAny_pure ⟨plainId_quiet F.plain_extend_loop _,loop _ _ _ ?_ (fun b o bS e=>?_) at_S3⟩
 ·exact(Heap.get?_update_other _ _ ne_I).trans ((Heap.get?_update_other _ _ ne_I).trans hito)
 ·exact(Heap.get?_update_other _ _ (Ne.symm bS)).trans ((Heap.get?_update_other _ _ (Ne.symm bS)).trans (Heap.get?_push_of_some _ e))
theorem fill_any{R:Result→Shared→Prop}{r:Addr}{a b c:Int}{t u v:Tok}{n:Nat}(hh:A.handled=none)(hr:IsRange s.heap r a b c t u v)(hn:Builtin.Range.rangeSize a b c=n)(hlen:n≤2 ^ 24)(S:Addr)(res:Value)(c₀:Nat)
  (at_S:s.heap.get? S=some { cls:=.type "list",data:=.seq #[] c₀ })
  (out:∀g tk acc k,(∀b o,b≠S→s.heap.get? b=some o→g.get? b=some o)→g.get? S=some { cls:=.type "list",dict:=none,data:=.seq acc k,slots:=#[] }→ItemsOf (fun i v=>∃t,v=.int (a+i*c) t) acc n→R (.ok (.ret res)) { s with heap:=g,toks:=tk }):
  wpAny (model prog w) A.in1 (Builtin.List.listExtendWith (.ref S) (.ref r) res)
   (fun fin s'=>match fin with
    | .done f=>R (.ok f) s'
    | .again c'=>c'.quiet=true∧codeAny (model prog w) A c' R s') (fun e s'=>R (.error e) s') s:=by
 by_cases sm:Builtin.Range.small a b c=true
 ·refine fill_range hr hn hlen S res c₀ at_S _ (Walks.range (prog:=prog) (w:=w) (A:=A.in1) hh s.heap.objs.size a c n) (fun g at_g=>?_) (fun Q' E' q=>wpAny_pyIter_range hr sm q) (Heap.get?_push_size _ rfl) out
  show IsRangeIter _ _ _ _ _
  rw[hn]at at_g
  simpa using at_g
 ·refine fill_range hr hn hlen S res c₀ at_S _ (Walks.longrange (prog:=prog) (w:=w) (A:=A.in1) hh s.heap.objs.size a c n) (fun g at_g=>?_) (fun Q' E' q=>wpAny_pyIter_longrange hr (by simpa using sm) q) (Heap.get?_push_size _ rfl) out
  show IsLongIter _ _ _ _ _
  rw[hn]at at_g
  simpa using at_g
theorem list_any{Q:Value→Shared→Prop}{r:Addr}{a b c:Int}{t u v:Tok}{n:Nat}(hh:A.handled=none)(hr:IsRange s.heap r a b c t u v)(hn:Builtin.Range.rangeSize a b c=n)(hlen:n≤2 ^ 24)
  (out:∀g tk acc k,(∀b o,s.heap.get? b=some o→g.get? b=some o)→g.get? s.heap.objs.size=some { cls:=.type "list",dict:=none,data:=.seq acc k,slots:=#[] }→ItemsOf (fun i v=>∃t,v=.int (a+i*c) t) acc n →
   Q (.ref s.heap.objs.size) { s with heap:=g,toks:=tk }):
  wpAny (model prog w) A (call (.type "list") [.ref r]) Q E s:=by
 refine callType_codes (Q₁:=fun obj s₁=>obj=.ref s.heap.objs.size∧s₁ = { s with heap:=s.heap.push { cls:=.type "list",data:=.seq #[] } }) F.called_list (F.typeCall_list_1 _) F.entry_list_init (code_list_new _ ⟨rfl,rfl⟩) fun obj s₁ h₁=>?_
 obtain⟨rfl,rfl⟩:=h₁
 have at_S:(s.heap.push { cls:=.type "list",data:=.seq #[] }).get? s.heap.objs.size=some { cls:=.type "list",data:=.seq #[] }:=Heap.get?_push_size _ rfl
 refine⟨⟨_,at_S,rfl⟩,F.args_list_init_2 _ _,?_⟩
 have hr':=Heap.get?_push_of_some { cls:=.type "list",data:=.seq #[] } hr
 have ne_r:s.heap.objs.size≠r:=fun e=>absurd (Heap.lt_size hr) (by rw[←e];exact Nat.lt_irrefl _)
 show wpAny _ _ (do let old ←Builtin.List.listItems (.ref s.heap.objs.size);Builtin.List.listUpdate (.ref s.heap.objs.size) (fun _=>#[]);letGo old.toList.reverse;Builtin.List.listExtendWith (.ref s.heap.objs.size) (.ref r) .none) _ _ _
 refine wpAny_bind ?_;unfold Builtin.List.listItems;refine wpAny_bind (wpAny_seqItems at_S rfl (wpAny_pure ?_))
 show wpAny _ _ (updateSeq s.heap.objs.size (fun _=>#[]) >>= fun _=>letGo (#[]:Array Value).toList.reverse >>= fun _=>Builtin.List.listExtendWith (.ref s.heap.objs.size) (.ref r) .none) _ _ _
 refine wpAny_bind (wpAny_updateSeq at_S rfl ?_)
 have at_S2:=Heap.get?_update_self (Obj.mapSeq (fun _=>(#[]:Array Value))) at_S rfl
 have oth:∀b o,b≠s.heap.objs.size→s.heap.get? b=some o→((s.heap.push { cls:=.type "list",data:=.seq #[] }).update s.heap.objs.size (Obj.mapSeq (fun _=>(#[]:Array Value)))).get? b=some o:=fun b o hb e=>(Heap.get?_update_other _ _ (Ne.symm hb)).trans (Heap.get?_push_of_some _ e)
 have hr2:=oth r _ (Ne.symm ne_r) hr
 refine wpAny_bind (wpAny_letGo ?_)
 refine' fill_any (t:=t) (u:=u) (v:=v) (A:=A.in1) (R:=wants (fun r s₂=>r=Value.none∧Q (Value.ref s.heap.objs.size) s₂) E) hh ?_ hn hlen s.heap.objs.size .none ?k0 ?k2 fun g tk acc k keeps at_g its=>?k3
 case k2=>exact at_S2
 ·exact hr2
 case k3=>exact⟨rfl,out g tk acc k (fun b o e=>keeps b o (Nat.ne_of_lt (Heap.lt_size e)) (oth b o (Nat.ne_of_lt (Heap.lt_size e)) e)) at_g its⟩
end
end My
end
section
namespace PM
open PySem PySem.W PySem.Calls PyProof.Rows PyProof
noncomputable def ZdF(a:Int)(n:Nat): List V:=(List.range n).map fun(i:Nat)=>V.int (a+i)
noncomputable def Zic: List V→Hp→Option (V×Hp)
 | [.int a,.int b],H=>if 0≤b-a∧b-a≤1000 then some (.ref H.length,H++[ZdF a (b-a).toNat])else none
 | _,_=>none
theorem Zwe{W:Wd}{a:Int}: ∀{n:Nat} {xs:List Value},xs.length=n→(∀(j:Nat) (v:Value),xs[j]?=some v→∃t:Tok,v=Value.int (a+(j:Int)*1) t)→VRs W (ZdF a n) xs:=by
 intro n
 induction n generalizing a with
 | zero=>
  intro xs hl _
  have:xs=[]:=List.length_eq_zero_iff.mp hl
  subst this
  exact .nil
 | succ n ih=>
  intro xs hl hv
  cases xs with
  | nil=>cases hl
  | cons v xs=>
   obtain⟨t,e⟩:=hv 0 v rfl
   subst e
   have r:ZdF a (n+1)=V.int (a+((0:Nat):Int)*1)::ZdF (a+1) n:=by
    simp only[ZdF,List.range_succ_eq_map,List.map_cons,List.map_map]
    refine congr (congrArg _ (congrArg _ (by omega))) ?_
    apply List.map_congr_left
    intro i _
    show V.int _=V.int _
    congr 1
    simp only[Nat.succ_eq_add_one]
    omega
   rw[r]
   refine .cons (.int _ t) (ih (by simpa using hl) fun j u hu=>?_)
   obtain⟨t',e'⟩:=hv (j+1) u (by simpa using hu)
   refine⟨t',?_⟩
   rw[e']
   congr 1
   omega
section
variable {prog:Program} {w:World} {Γ:Cx}
theorem ZxA{x x2:Str}{np pos np2 pos2:Pos}{e:Expr}{es:List Expr}{g:Exs}(hn:Nm prog w Γ x (.type "list"))(hr:Nm prog w Γ x2 (.type "range"))(h:Js prog w Γ (e::es) g)
  (he:starEach (e::es) Γ.env=(false,eval e Γ.env)::starEach es Γ.env:=by rfl) (hp:∀pos,(backTo pos (starEach es Γ.env)).any (·.1)=false:=by intro _;rfl):J prog w Γ (.Call (.Name x np) [.Call (.Name x2 np2) (e::es) [] pos2] [] pos) (ZH Zic g):=by
 intro W ρ H fr s Q E v H' r hf post
 obtain⟨p,e1,hf⟩:=Zz0.mp hf
 refine wpAny_Call_ofName (hn.use r ?_)
 refine PySem.Pv.callWith_type1 (wpAny_items_cons (wpAny_Call_ofName (hr.use r (PySem.Pv.callWith_type1 (h pos2 W ρ H fr s _ E _ _ r e1 fun W1 k1 t1 xs l1 r1 x1=>?_) he (hp pos2)))) rfl) rfl rfl
 obtain⟨vs,H1⟩:=p
 dsimp only at hf x1 r1
 unfold Zic at hf
 split at hf
 ·obtain⟨y,z,ex,ry,rz⟩:=x1.two
  subst ex
  cases ry
  cases rz
  split at hf
  ·rename_i _ _ a b _ _ hc
   cases hf
   refine call_range_2 (wpAny_items_nil ?_)
   refine My.list_any (n:=(b-a).toNat) Γ.hh (IsRange.new ..) ?_ (by omega) fun g tk acc k up hg its=>?_
   ·unfold Builtin.Range.rangeSize
    rw[if_pos (by decide)]
    split
    ·omega
    ·omega
   have e:acc=acc.toList.toArray:=by simp
   obtain⟨W2,l2,r2,v2⟩:=(r1.push _).listAt (xs:=acc.toList) up (by rw[hg]) (Zwe (a:=a) (n:=(b-a).toNat) (by have:=its.1;simpa using this) fun j v hv=>its.2 j v (by simpa using hv)) (by simp[ZdF,LEN];omega)
   exact post W2 g tk _ (l1.trans l2) r2 v2
  ·cases hf
 ·cases hf
end
end PM
end
section
namespace TM
open PySem PM
noncomputable def Zid: List T→Option T
 | [.int a,.int b]=>if 0≤b-a∧b-a≤1000 then some (.lst (tab (b-a).toNat fun i=>.int (a+i)))else none
 | _=>none
theorem ZxB: OCn Zic Zid:=fun H vs ts t F hp r h=>by
 unfold Zid at h
 split at h
 ·split at h
  ·rename_i a b hc
   cases h
   cases r with
   | cons r1 r2=>
   obtain⟨v,rfl,r'⟩:=r2.one_inv
   cases r1
   cases r'
   have e1:ZdF a (b-a).toNat=((List.range (b-a).toNat).map fun(i:Nat)=>a+(i:Int)).map V.int:=by rw[ZdF,List.map_map];rfl
   have e2:(tab (b-a).toNat fun i=>T.int (a+i))=((List.range (b-a).toNat).map fun(i:Nat)=>a+(i:Int)).map T.int:=by rw[tab,List.map_map];rfl
   refine⟨_,[ZdF a (b-a).toNat],_,by simp only[Zic];rw[if_pos hc],by rw[e1,e2];exact Zds (Zmo _),fun q m=>?_,fun _=>?_⟩
   ·rcases Zz7.mp m with rfl | m
    ·exact .inl (Zz10 _)
    ·cases m
   ·simp
  ·cases h
 ·cases h
section
variable {Q:T→Prop}
theorem Zwf{a b:Int}{n:Nat}(h:b=a+n)(hn:n≤1000)(q:Q (.lst (tab n fun i=>.int (a+i)))): Pk (Zid [.int a,.int b]) Q:=by
 refine⟨_,?_,q⟩
 simp only[Zid]
 rw[if_pos (by omega),show(b-a).toNat=n by omega]
end
end TM
end
section
namespace TM
open PySem PM
def EN(O N:List Nat)(e:Ex)(p:PE): Prop:=∀(c:Ctx) (ρ:Lc) (σ:TL) (H:Hp) (Φ:Nat→List Nat) (ts:List T),St c O ρ σ H Φ→p σ=some (.lst ts) →
 ∃a vs X F,e ρ H=some (.ref a,H++X)∧(H++X)[a]?=some vs∧RFs (H++X) vs ts F∧H.length≤a∧a∉F∧∀b∈F,From H N σ Φ b
section
variable {O N M K:List Nat} {u u':Bool}
theorem EN.own{e:Ex}{p:PE}(x:E O [] true e p): EN O [] e p:=fun c ρ σ H Φ ts s h=>by
 obtain⟨v,X,F,a1,a2,a3,a4⟩:=x c ρ σ H Φ _ s h
 cases a2 with
 | @ref a vs _ G e1 hs=>
  have nd:=a4 rfl
  rw[List.nodup_cons]at nd
  exact⟨a,vs,X,G,a1,e1,hs,(a3 a Zz5).nil,nd.1,fun b m=>a3 b (Zz2 _ m)⟩
theorem ZAM{e:Ex}{p:PE}{lo hi:Pt}{plo phi:PPt}(x:E O N u e p)(y:Pe O lo plo)(z:Pe O hi phi): EN O N (Zcl e lo hi) (Zb8 p plo phi):=fun c ρ σ H Φ ts0 s h=>by
 obtain⟨t1,h1,h⟩:=Zz0.mp h
 obtain⟨a,h2,h⟩:=Zz0.mp h
 obtain⟨b,h3,h⟩:=Zz0.mp h
 obtain⟨v,X,F,a1,a2,a3,a4⟩:=x c ρ σ H Φ t1 s h1
 obtain⟨o1,Y,b1,b2⟩:=y c ρ σ (H++X) Φ a (s.ext X) h2
 obtain⟨o2,Z,c1,c2⟩:=z c ρ σ (H++X++Y) Φ b ((s.ext X).ext Y) h3
 cases a2 with
 | none=>cases h
 | bool=>cases h
 | int=>cases h
 | str=>cases h
 | tup=>cases h
 | @ref i vs ts F e1 hs=>
 cases h
 have e3:((H++X)++(Y++Z))[i]?=Option.some vs:=by rw[List.getElem?_append_left (Zz6.mp e1).1];exact e1
 have hs':=hs.ext (Y++Z)
 have hlen:=hs.length
 obtain⟨G,g1,g2⟩:=hs'.pick (sliceRange (sliceBounds a b none vs.length).1 (sliceBounds a b none vs.length).2.1 (sliceBounds a b none vs.length).2.2)
 have g1':RFs (H++X++(Y++Z)) (Za4 vs a b) (Za4 ts a b) G:=by unfold Za4;rw[←hlen];exact g1
 refine⟨(H++X++(Y++Z)).length,Za4 vs a b,X++(Y++Z)++[Za4 vs a b],G,?_,?_,?_,?_,fun m=>?_,fun q m=>a3 q (Zz2 _ (g2 q m))⟩
 ·simp only[Zcl,a1,Option.bind_some,b1,c1,b2,c2]
  rw[List.append_assoc (H++X),e3]
  simp
 ·simp
 ·have:=g1'.ext [Za4 vs a b]
  simpa using this
 ·simp
 ·exact absurd (g1'.lt _ m) (Nat.lt_irrefl _)
end
section
variable {R:T→Prop} {N:TL→Prop} {σ:TL}
end
end TM
end
section
namespace TM
open PySem PM
def NoRet(g:Sm): Prop:=∀ρ H r,g ρ H=some r→r.1=none
def End0(g:Sm): Prop:=∀ρ H r,g ρ H=some r→∃v,r.1=some v∧r.2.1 0=some v
theorem NoRet.put{f o i:Ex}: NoRet (ZcG f o i):=fun ρ H r h=>by
 obtain⟨_,_,h⟩:=Zz0.mp h
 obtain⟨_,_,h⟩:=Zz0.mp h
 obtain⟨_,_,h⟩:=Zz0.mp h
 obtain⟨_,_,q⟩:=Zz1.mp h
 subst q;rfl
theorem NoRet.set{i:Nat}{e:Ex}: NoRet (Zaa i e):=fun ρ H r h=>by
 obtain⟨_,_,q⟩:=Zz1.mp h
 subst q;rfl
theorem NoRet.seq{a b:Sm}(x:NoRet a)(y:NoRet b): NoRet (ZW a b):=fun ρ H r h=>by
 obtain⟨r1,e1,h⟩:=Zz0.mp h
 have h1:=x ρ H r1 e1
 rw[h1]at h
 exact y _ _ _ h
theorem Zpg{nx:Nx}{put:V→Lc→Option Lc}{b:Sm}(hb:NoRet b): ∀n i,NoRet (ZcC nx put b n i)
 | 0,_=>fun _ _ _ h=>by cases h
 | n+1,i=>fun ρ H r h=>by
  obtain⟨o,_,h⟩:=Zz0.mp h
  split at h
  ·cases h;rfl
  ·obtain⟨ρ1,e1,h⟩:=Zz0.mp h
   obtain⟨q,e2,h⟩:=Zz0.mp h
   have k:=hb _ _ _ e2
   rw[k]at h
   exact Zpg hb n (i+1) _ _ _ h
theorem ZAK{g:Src}{put:V→Lc→Option Lc}{b:Sm}(hb:NoRet b): NoRet (Zbh g put b):=fun ρ H r h=>by
 obtain⟨z,_,h⟩:=Zz0.mp h
 exact Zpg hb _ _ _ _ _ h
theorem End0.ret: End0 (Zag (Zg 0)):=fun ρ H r h=>by
 obtain⟨p,h2,q⟩:=Zz1.mp h
 obtain⟨v,h3,e⟩:=Zz1.mp h2
 subst q;subst e
 exact⟨v,rfl,h3⟩
theorem End0.seq{a b:Sm}(x:NoRet a)(y:End0 b): End0 (ZW a b):=fun ρ H r h=>by
 obtain⟨r1,e1,h⟩:=Zz0.mp h
 have h1:=x ρ H r1 e1
 rw[h1]at h
 exact y _ _ _ h
end TM
end
section
namespace My
open PySem
theorem lri_len: typeLookup (.type "list_reverseiterator") "__len__"=pure none:=by rw[typeLookup_type,builtinLookup_eq_fast];kernel_rfl
theorem lri_hint: typeLookup (.type "list_reverseiterator") "__length_hint__"=pure (some (.builtin "list_reverseiterator.__length_hint__")):=by rw[typeLookup_type,builtinLookup_eq_fast];kernel_rfl
section
variable {prog:Program} {w:World} {A:Around} {E:Value→Shared→Prop} {s:Shared}
theorem hint_rev{it l:Addr}{i:Int}{Q:Bool→Shared→Prop}(hit:s.heap.IsRevIter it l i)(h:Q false s): wpAny (model prog w) A (Builtin.List.listLengthHint (.ref it)) Q E s:=by
 unfold Builtin.List.listLengthHint
 refine wpAny_bind (wpAny_specialOf hit.typeIs lri_len ?_)
 refine wpAny_ite_split (fun hab=>absurd hab (by decide)) (fun _=>?_)
 refine wpAny_ite_split (fun hab=>absurd hab (by decide)) (fun _=>?_)
 refine wpAny_bind (wpAny_specialOf hit.typeIs lri_hint ?_)
 generalize hid:("list_reverseiterator.__length_hint__":String)=id0
 wp_delta
 rw[show splitId id0=some ("list_reverseiterator","__length_hint__")from by subst hid;decide +kernel]
 subst hid
 refine wpAny_bind (wpAny_isInstance (T:="list_reverseiterator") (b:=true) hit.typeIs (by rw[isSubtype_type];kernel_rfl) ?_)
 refine wpAny_ite_split (fun hab=>absurd hab (by decide)) (fun _=>?_)
 refine wpAny_ite_split (fun _=>?_) (fun hab=>absurd (by decide +kernel) hab)
 refine wpAny_ite_split (fun hab=>absurd hab (by decide +kernel)) (fun _=>?_)
 exact wpAny_pure h
theorem fill_rev{R:Result→Shared→Prop}{I l:Addr}{items:Array Value}(hh:A.handled=none)(hit:s.heap.IsRevIter I l ((items.size:Int)-1))(hl:s.heap.IsList l items)(hne:l≠I)(hlen:items.size≤2 ^ 24)(S:Addr)(res:Value)(c₀:Nat)(nl:S≠l)
  (at_S:s.heap.get? S=some { cls:=.type "list",data:=.seq #[] c₀ })
  (out:∀g tk acc k,(∀b o,b≠S→b≠I→s.heap.get? b=some o→g.get? b=some o)→g.get? S=some { cls:=.type "list",dict:=none,data:=.seq acc k,slots:=#[] }→ItemsOf (fun i v=>items[items.size-1-i]?=some v) acc items.size→R (.ok (.ret res)) { s with heap:=g,toks:=tk }):
  wpAny (model prog w) A.in1 (Builtin.List.listExtendWith (.ref S) (.ref I) res)
   (fun fin s'=>match fin with
    | .done f=>R (.ok f) s'
    | .again c'=>c'.quiet=true∧codeAny (model prog w) A c' R s') (fun e s'=>R (.error e) s') s:=by
 have ne_I:S≠I:=fun e=>by
  obtain⟨o,ho,hc,_⟩:=hit
  rw[←e,at_S]at ho
  cases ho
  exact absurd (show Value.type "list"=Value.type "list_reverseiterator" from hc) (by decide)
 have off:S∉[I,l]:=fun q=>by
  rcases Zz7.mp q with q | q
  ·exact ne_I q
  ·exact nl (Zz9.mp q)
 have W:=Walks.listRev (prog:=prog) (w:=w) (A:=A.in1) hh I l hne items
 unfold Builtin.List.listExtendWith
 refine wpAny_bind (wpAny_typeOf (T:="list_reverseiterator") hit.typeIs ?_)
 have z1:Builtin.List.listSameRef (.ref S) (.ref I)=false:=by simp[Builtin.List.listSameRef,ne_I]
 have z2:(Value.type "list_reverseiterator" == Value.type "list")=false:=by decide
 have z3:(Value.type "list_reverseiterator" == Value.type "tuple")=false:=by decide
 simp only[z1,z2,z3,Bool.or_false,Bool.false_eq_true,if_false]
 refine wpAny_bind (wpAny_pyIter_revIter hit ?_)
 refine wpAny_bind (wpAny_holding (hint_rev hit ?_))
 refine wpAny_ite_split (fun hab=>absurd hab (by decide +kernel)) (fun _=>?_)
 refine wpAny_pure ⟨plainId_quiet F.plain_extend_loop _,?_⟩
 refine codeAny_extend_loopS W.toS (by rw[sizeLine_eq];omega) S off res items.size 0 _ #[] c₀ rfl (Nat.zero_le _) ⟨Nat.zero_le _,by simpa using hit,hl⟩ at_S (ItemsOf.nil _) fun s' acc k' mv at_S'' its=>?_
 rw[Moved.eq_with mv]
 refine out s'.heap s'.toks acc k' (fun b o bS bI e=>mv.heap b o (fun q=>?_) e) at_S'' its
 rcases Zz7.mp q with q | q
 ·exact bS q
 ·exact bI (Zz9.mp q)
theorem list_rev{Q:Value→Shared→Prop}{I l:Addr}{items:Array Value}(hh:A.handled=none)(hit:s.heap.IsRevIter I l ((items.size:Int)-1))(hl:s.heap.IsList l items)(hne:l≠I)(hlen:items.size≤2 ^ 24)
  (out:∀g tk acc k,(∀b o,b≠I→s.heap.get? b=some o→g.get? b=some o)→g.get? s.heap.objs.size=some { cls:=.type "list",dict:=none,data:=.seq acc k,slots:=#[] }→ItemsOf (fun i v=>items[items.size-1-i]?=some v) acc items.size →
   Q (.ref s.heap.objs.size) { s with heap:=g,toks:=tk }):
  wpAny (model prog w) A (call (.type "list") [.ref I]) Q E s:=by
 refine callType_codes (Q₁:=fun obj s₁=>obj=.ref s.heap.objs.size∧s₁ = { s with heap:=s.heap.push { cls:=.type "list",data:=.seq #[] } }) F.called_list (F.typeCall_list_1 _) F.entry_list_init (code_list_new _ ⟨rfl,rfl⟩) fun obj s₁ h₁=>?_
 obtain⟨rfl,rfl⟩:=h₁
 have at_S:(s.heap.push { cls:=.type "list",data:=.seq #[] }).get? s.heap.objs.size=some { cls:=.type "list",data:=.seq #[] }:=Heap.get?_push_size _ rfl
 refine⟨⟨_,at_S,rfl⟩,F.args_list_init_2 _ _,?_⟩
 have lt:∀b o,s.heap.get? b=some o→b≠s.heap.objs.size:=fun b o e=>Nat.ne_of_lt (Heap.lt_size e)
 obtain⟨oi,hi,_⟩:=id hit
 obtain⟨ol,hol,_⟩:=id hl
 show wpAny _ _ (do let old ←Builtin.List.listItems (.ref s.heap.objs.size);Builtin.List.listUpdate (.ref s.heap.objs.size) (fun _=>#[]);letGo old.toList.reverse;Builtin.List.listExtendWith (.ref s.heap.objs.size) (.ref I) .none) _ _ _
 refine wpAny_bind ?_;unfold Builtin.List.listItems;refine wpAny_bind (wpAny_seqItems at_S rfl (wpAny_pure ?_))
 show wpAny _ _ (updateSeq s.heap.objs.size (fun _=>#[]) >>= fun _=>letGo (#[]:Array Value).toList.reverse >>= fun _=>Builtin.List.listExtendWith (.ref s.heap.objs.size) (.ref I) .none) _ _ _
 refine wpAny_bind (wpAny_updateSeq at_S rfl ?_)
 have at_S2:=Heap.get?_update_self (Obj.mapSeq (fun _=>(#[]:Array Value))) at_S rfl
 have oth:∀b o,b≠s.heap.objs.size→s.heap.get? b=some o→((s.heap.push { cls:=.type "list",data:=.seq #[] }).update s.heap.objs.size (Obj.mapSeq (fun _=>(#[]:Array Value)))).get? b=some o:=fun b o hb e=>(Heap.get?_update_other _ _ (Ne.symm hb)).trans (Heap.get?_push_of_some _ e)
 refine wpAny_bind (wpAny_letGo ?_)
 refine' fill_rev (A:=A.in1) (R:=wants (fun r s₂=>r=Value.none∧Q (Value.ref s.heap.objs.size) s₂) E) (I:=I) (l:=l) (items:=items) hh ?_ ?_ hne hlen s.heap.objs.size .none ?k0 ?_ ?k2 fun g tk acc k keeps at_g its=>?k3
 case k2=>exact at_S2
 ·exact hit.at fun o e=>oth I o (lt I o e) e
 ·exact hl.at fun o e=>oth l o (lt l o e) e
 ·exact Ne.symm (lt l ol hol)
 case k3=>exact⟨rfl,out g tk acc k (fun b o bI e=>keeps b o (lt b o e) bI (oth b o (lt b o e) e)) at_g its⟩
end
end My
end
section
namespace PM
open PySem PySem.W PySem.Calls PyProof.Rows PyProof
noncomputable def ZfK: List V→Hp→Option (V×Hp)
 | [.ref a],H=>H[a]?.map fun vs=>(.ref H.length,H++[vs.reverse])
 | _,_=>none
theorem Rep.listAtN{Γ:Cx}{W:Wd}{ρ:Lc}{H:Hp}{fr:List (Addr×Obj)}{h h':Heap}{vs:List V}{xs:List Value}{k:Nat}{S:Addr}(r:Rep Γ W ρ H fr h)(hS:h.objs.size≤S)(up:∀b o,h.get? b=some o→h'.get? b=some o)(hg:h'.get? S=some (Zbg xs k))(hv:VRs W vs xs)(hl:vs.length≤LEN):
  ∃W',W.Le W'∧Rep Γ W' ρ (H++[vs]) fr h'∧VR W' (.ref H.length) (.ref S):=by
 obtain⟨r2,ap⟩:=r.more (fs:=[(S,Zbg xs k)]) up (fun q hq=>by rw[List.mem_singleton.mp hq];exact⟨hg,hS⟩)
 exact Zfe r2 (fun t ht=>ap _ Zz5 t ht) hv hl
theorem ZqX{W:Wd}{ws:List V}{ys:List Value}(k:VRs W ws ys): ∀{vs:List V} {xs:List Value},VRs W vs xs→VRs W (vs++ws) (xs++ys)
 | _,_,.nil=>k
 | _,_,.cons a b=>.cons a (ZqX k b)
theorem VRs.rev{W:Wd}: ∀{vs:List V} {xs:List Value},VRs W vs xs→VRs W vs.reverse xs.reverse
 | _,_,.nil=>.nil
 | _,_,.cons a b=>by
  rw[List.reverse_cons,List.reverse_cons]
  exact ZqX (.cons a .nil) (VRs.rev b)
section
variable {prog:Program} {w:World} {Γ:Cx}
theorem J.listRev{x x2:Str}{np pos np2 pos2:Pos}{e:Expr}{es:List Expr}{g:Exs}(hn:Nm prog w Γ x (.type "list"))(hr:Nm prog w Γ x2 (.type "reversed"))(h:Js prog w Γ (e::es) g)
  (he:starEach (e::es) Γ.env=(false,eval e Γ.env)::starEach es Γ.env:=by rfl) (hp:∀pos,(backTo pos (starEach es Γ.env)).any (·.1)=false:=by intro _;rfl):J prog w Γ (.Call (.Name x np) [.Call (.Name x2 np2) (e::es) [] pos2] [] pos) (ZH ZfK g):=by
 intro W ρ H fr s Q E v H' r hf post
 obtain⟨p,e1,hf⟩:=Zz0.mp hf
 refine wpAny_Call_ofName (hn.use r ?_)
 refine PySem.Pv.callWith_type1 (wpAny_items_cons (wpAny_Call_ofName (hr.use r (PySem.Pv.callWith_type1 (h pos2 W ρ H fr s _ E _ _ r e1 fun W1 k1 t1 xs l1 r1 x1=>?_) he (hp pos2)))) rfl) rfl rfl
 obtain⟨vs,H1⟩:=p
 dsimp only at hf x1 r1
 unfold ZfK at hf
 split at hf
 ·obtain⟨us,e2,e3⟩:=Zz1.mp hf
  cases e3
  obtain⟨y,ey,ry⟩:=x1.one
  subst ey
  cases ry with
  | @ref _ a ea=>
   obtain⟨hl,ys,k,hg,hv⟩:=r1.at e2 ea
   have isl:(k1:Heap).IsList a ys.toArray:=⟨_,hg,rfl,k,rfl⟩
   have ne:a≠(k1:Heap).objs.size:=Nat.ne_of_lt (Heap.lt_size hg)
   refine call_reversed_list isl (wpAny_items_nil ?_)
   have sz:=hv.length
   refine My.list_rev (I:=(k1:Heap).objs.size) (l:=a) (items:=ys.toArray) Γ.hh ⟨_,Heap.get?_push_size _ rfl,rfl,rfl⟩ (isl.at fun o e=>Heap.get?_push_of_some _ e) ne (by have:us.length≤LEN:=hl;rw[ZaO]at this;simp;omega) fun g tk acc kk up hg' its=>?_
   have ea':acc=ys.reverse.toArray:=by
    apply Array.ext
    ·simp;exact its.1
    ·intro i h1 h2
     have:=its.2 i acc[i] (by simp)
     simp at this h2 ⊢
     rw[List.getElem?_eq_getElem (by omega)]at this
     exact(Option.some.inj this).symm
   subst ea'
   obtain⟨W2,l2,r2,v2⟩:=r1.listAtN (S:=_) (by simp[Heap.push]) (fun b o e=>up b o (Nat.ne_of_lt (Heap.lt_size e)) (Heap.get?_push_of_some _ e)) hg' hv.rev (by rw[List.length_reverse];exact hl)
   exact post W2 g tk _ (l1.trans l2) r2 v2
 ·cases hf
end
end PM
end
section
namespace TM
open PySem PM
noncomputable def Zko: List T→Option T
 | [.lst ts]=>some (.lst ts.reverse)
 | _=>none
theorem ZqY{H:Hp}{ws:List V}{us:List T}{G:List Nat}(k:RFs H ws us G): ∀{vs:List V} {ts:List T} {F:List Nat},RFs H vs ts F→RFs H (vs++ws) (ts++us) (F++G)
 | _,_,_,.nil=>k
 | _,_,_,.cons a b=>by
  rw[List.cons_append,List.cons_append,List.append_assoc]
  exact .cons a (ZqY k b)
theorem ZqZ{H:Hp}: ∀{vs:List V} {ts:List T} {F:List Nat},RFs H vs ts F→∃G,RFs H vs.reverse ts.reverse G∧∀a∈G,a∈F
 | _,_,_,.nil=>⟨_,.nil,fun _ h=>h⟩
 | _,_,_,.cons (F:=F1) a b=>by
  obtain⟨G,h,m⟩:=ZqZ b
  rw[List.reverse_cons,List.reverse_cons]
  refine⟨G++(F1++[]),ZqY (.cons a .nil) h,fun x hx=>?_⟩
  rcases Zz8.mp hx with hx | hx
  ·exact Zz3 _ (m x hx)
  ·rw[List.append_nil]at hx;exact Zz4 _ hx
theorem Zy9: OCn ZfK Zko:=fun H vs ts t F hp r h=>by
 unfold Zko at h
 split at h
 ·obtain⟨v,rfl,r'⟩:=r.one_inv
  cases r' with
  | ref e hs=>
   cases h
   obtain⟨G,hr,hm⟩:=ZqZ hs
   exact⟨_,_,_,by simp only[ZfK,e,Option.map_some],Zds hr,fun a m=>(Zz7.mp m).imp (fun q=>Nat.le_of_eq q.symm) (fun q=>List.mem_cons_of_mem _ (hm a q)),Zen hr⟩
 ·cases h
theorem ZxC{Q:T→Prop}{ts:List T}(q:Q (.lst ts.reverse)): Pk (Zko [.lst ts]) Q:=⟨_,rfl,q⟩
end TM
end
section
namespace PM
open PySem PySem.W PySem.Calls PyProof.Rows PyProof PySem.Spec
noncomputable def Zj9: Expr→Bool
 | .Starred _ _=>true
 | _=>false
theorem ZnJ{e:Expr}{es:List Expr}{env:Env}(h:Zj9 e=false): starEach (e::es) env=(false,eval e env)::starEach es env:=by
 cases e <;> first | rfl | cases h
noncomputable def Zka: List Expr→Bool
 | []=>true
 | e::es=>!Zj9 e && Zka es
theorem Zsg{env:Env}: ∀{es:List Expr} (pos:Pos),Zka es=true→(backTo pos (starEach es env)).any (·.1)=false
 | [],pos,_=>by rfl
 | e::es,pos,h=>by
  simp only[Zka,Bool.and_eq_true,Bool.not_eq_true']at h
  have ih:=Zsg (env:=env) (es:=es) pos h.2
  rw[ZnJ h.1]
  unfold backTo at ih ⊢
  simp only[List.map_cons,List.any_cons,Bool.false_or]
  exact ih
section
variable {prog:Program} {w:World} {Γ:Cx}
theorem jc{e:Expr}{es:List Expr}{f:Ex}{g:Exs}(h1:J prog w Γ e f)(h2:Js prog w Γ es g)(hs:Zj9 e=false:=by exact rfl): Js prog w Γ (e::es) (Zh f g):=ZwP h1 h2 (ZnJ hs)
end
section
variable {prog:Program} {w:World} {K:Frag} {p:Program} {loose:List Str} {mean:ExcName→Option Value} {mg mb:Str→Option Value}
theorem Zwg{f:Addr}{room:Nat}: Def prog w K p loose mean mg mb f room (fun _ _=>none):=by
 intro Γ dp un clr hd hu W ρ H fr s Q E as xs v H' r hx hF post
 cases hF
end
end PM
end
section
namespace PM
open PySem PySem.W PySem.Calls PyProof.Rows PyProof PySem.Spec
section
variable {prog:Program} {w:World} {Γ:Cx}
theorem ln1{α:Type _}: ∀{xs:List α},xs.length=1→∃x0,xs=[x0]
 | [x0],_=>⟨x0,rfl⟩
theorem ln2{α:Type _}: ∀{xs:List α},xs.length=2→∃x0 x1,xs=[x0,x1]
 | [x0,x1],_=>⟨x0,x1,rfl⟩
theorem ln3{α:Type _}: ∀{xs:List α},xs.length=3→∃x0 x1 x2,xs=[x0,x1,x2]
 | [x0,x1,x2],_=>⟨x0,x1,x2,rfl⟩
theorem ln4{α:Type _}: ∀{xs:List α},xs.length=4→∃x0 x1 x2 x3,xs=[x0,x1,x2,x3]
 | [x0,x1,x2,x3],_=>⟨x0,x1,x2,x3,rfl⟩
theorem ln5{α:Type _}: ∀{xs:List α},xs.length=5→∃x0 x1 x2 x3 x4,xs=[x0,x1,x2,x3,x4]
 | [x0,x1,x2,x3,x4],_=>⟨x0,x1,x2,x3,x4,rfl⟩
theorem ln6{α:Type _}: ∀{xs:List α},xs.length=6→∃x0 x1 x2 x3 x4 x5,xs=[x0,x1,x2,x3,x4,x5]
 | [x0,x1,x2,x3,x4,x5],_=>⟨x0,x1,x2,x3,x4,x5,rfl⟩
theorem ln7{α:Type _}: ∀{xs:List α},xs.length=7→∃x0 x1 x2 x3 x4 x5 x6,xs=[x0,x1,x2,x3,x4,x5,x6]
 | [x0,x1,x2,x3,x4,x5,x6],_=>⟨x0,x1,x2,x3,x4,x5,x6,rfl⟩
theorem jI{k:Int}{n:Nat}{pos:Pos}: J prog w Γ (.Constant (.int k) n pos) (Zz k):=J.int _ _ _
theorem jN{n:Nat}{pos:Pos}: J prog w Γ (.Constant .none n pos) Zau:=J.none _ _
theorem jB{b:Bool}{n:Nat}{pos:Pos}: J prog w Γ (.Constant (.bool b) n pos) (Zdo b):=J.bool _ _ _
theorem jS{x:Str}{n:Nat}{pos:Pos}: J prog w Γ (.Constant (.str x) n pos) (ZeV x):=J.str _ _ _
theorem cO{elt iter:Expr}{x:Str}{px:Pos}{ifs:List Expr}{scope:Scope}{pos:Pos}{cl:List (Str×Addr)}{t:Nat}{g:Src}{c:Ts}{f:Ex}(hg:JI prog w Γ iter g)(hel:∀C ρ,J prog w (Za5 Γ scope cl C [(x,t)] ρ) elt f)(hif:∀C ρ,JF prog w (Za5 Γ scope cl C [(x,t)] ρ) ifs c)
  (hclos:closureFor scope Γ.env=pure cl:=by with_unfolding_all rfl) (hcell:∀y∈scope.names,y.2≠.cell:=by decide) (hkind:scope.kind=.function:=by exact rfl) (hnames:∀y∈scope.names,y.2=.local→scope.names.lookup y.1=some .local:=by decide) (hx:scope.names.lookup x=some .local:=by exact rfl) (hs:∀x,foldedSetIterable iter Γ.env x=pure x:=by intro _;rfl):
  J prog w Γ (.ListComp elt [⟨.Name x px,iter,ifs,0⟩] scope pos) (Zbw g (put1 t) c f):=Zyp hg hel hif hclos hcell hkind hnames hx hs
theorem cT{elt iter:Expr}{x x₂:Str}{px px₂ tp:Pos}{kt:Nat}{scope:Scope}{pos:Pos}{cl:List (Str×Addr)}{t t₂:Nat}{g:Src}{f:Ex}(hg:JI2 prog w Γ iter g)(hel:∀C ρ,J prog w (Za5 Γ scope cl C [(x,t),(x₂,t₂)] ρ) elt f)
  (hclos:closureFor scope Γ.env=pure cl:=by with_unfolding_all rfl) (hcell:∀y∈scope.names,y.2≠.cell:=by decide) (hkind:scope.kind=.function:=by exact rfl) (hnames:∀y∈scope.names,y.2=.local→scope.names.lookup y.1=some .local:=by decide) (hx:scope.names.lookup x=some .local:=by exact rfl) (hx₂:scope.names.lookup x₂=some .local:=by exact rfl) (hxx:x≠x₂:=by decide) (htt:t≠t₂:=by decide) (hs:∀x,foldedSetIterable iter Γ.env x=pure x:=by intro _;rfl):
  J prog w Γ (.ListComp elt [⟨.Tuple [.Name x px,.Name x₂ px₂] kt tp,iter,[],0⟩] scope pos) (Zbw g (Zdq t t₂) Zbz f):=ZwV hg hel hclos hcell hkind hnames hx hx₂ hxx htt hs
theorem sO{elt iter:Expr}{x y:Str}{px py pos spos:Pos}{ifs:List Expr}{scope:Scope}{cl:List (Str×Addr)}{t i:Nat}{g:Src}{c:Ts}{f:Ex}(hy:Sto prog w Γ y i)(hg:JI prog w Γ iter g)(hel:∀C ρ,J prog w (Za5 Γ scope cl C [(x,t)] ρ) elt f)(hif:∀C ρ,JF prog w (Za5 Γ scope cl C [(x,t)] ρ) ifs c)
  (hsw:swapsWith (.ListComp elt [⟨.Name x px,iter,ifs,0⟩] scope pos) (some (.Name y py)) spos.line Γ.env=pure true:=by rfl)
  (hclos:closureFor scope Γ.env=pure cl:=by with_unfolding_all rfl) (hcell:∀y∈scope.names,y.2≠.cell:=by decide) (hkind:scope.kind=.function:=by exact rfl) (hnames:∀y∈scope.names,y.2=.local→scope.names.lookup y.1=some .local:=by decide) (hx:scope.names.lookup x=some .local:=by exact rfl) (hs:∀x,foldedSetIterable iter Γ.env x=pure x:=by intro _;rfl):
  S1 prog w Γ (.Assign [.Name y py] (.ListComp elt [⟨.Name x px,iter,ifs,0⟩] scope pos) spos) (Zaa i (Zbw g (put1 t) c f)):=Zuh hy hg hel hif hsw hclos hcell hkind hnames hx hs
theorem sT{elt iter:Expr}{x x₂ y:Str}{px px₂ tp py pos spos:Pos}{kt:Nat}{scope:Scope}{cl:List (Str×Addr)}{t t₂ i:Nat}{g:Src}{f:Ex}(hy:Sto prog w Γ y i)(hg:JI2 prog w Γ iter g)(hel:∀C ρ,J prog w (Za5 Γ scope cl C [(x,t),(x₂,t₂)] ρ) elt f)
  (hsw:swapsWith (.ListComp elt [⟨.Tuple [.Name x px,.Name x₂ px₂] kt tp,iter,[],0⟩] scope pos) (some (.Name y py)) spos.line Γ.env=pure true:=by rfl)
  (hclos:closureFor scope Γ.env=pure cl:=by with_unfolding_all rfl) (hcell:∀y∈scope.names,y.2≠.cell:=by decide) (hkind:scope.kind=.function:=by exact rfl) (hnames:∀y∈scope.names,y.2=.local→scope.names.lookup y.1=some .local:=by decide) (hx:scope.names.lookup x=some .local:=by exact rfl) (hx₂:scope.names.lookup x₂=some .local:=by exact rfl) (hxx:x≠x₂:=by decide) (htt:t≠t₂:=by decide) (hs:∀x,foldedSetIterable iter Γ.env x=pure x:=by intro _;rfl):
  S1 prog w Γ (.Assign [.Name y py] (.ListComp elt [⟨.Tuple [.Name x px,.Name x₂ px₂] kt tp,iter,[],0⟩] scope pos) spos) (Zaa i (Zbw g (Zdq t t₂) Zbz f)):=ZtR hy hg hel hsw hclos hcell hkind hnames hx hx₂ hxx htt hs
end
section
variable {prog:Program} {w:World} {dp un:Nat} {gd:Option (List Code)} {cn:Str} {cs:Scope} {L a:Addr} {ccd:Value} {cl:List (Str×Addr)} {outer:List Env} {h₀:Heap} {hu:un+200<cLine} {names:List Str}
theorem vL{x:Str}{i:Nat}{pos:Pos}(hi:names[i]?=some x:=by rfl)(hx:cs.names.lookup x=some .local:=by exact rfl)(hk:cs.kind=.function:=by exact rfl)(hd:(x == ("__debug__":Str))=false:=by exact rfl): J prog w (Zbp dp un gd cn cs L a ccd cl outer h₀ hu names) (.Name x pos) (Zg i):=Zkl (Zyn hi hx hk hd)
theorem vC{x:Str}{i:Nat}{pos:Pos}(hi:names[i]?=some x:=by rfl)(hx:cs.names.lookup x=some .cell:=by exact rfl)(hk:cs.kind=.function:=by exact rfl)(hd:(x == ("__debug__":Str))=false:=by exact rfl): J prog w (Zbp dp un gd cn cs L a ccd cl outer h₀ hu names) (.Name x pos) (Zg i):=Zkl (Zyo hi hx hk hd)
theorem sL{x:Str}{i:Nat}(nd:names.Nodup:=by decide)(hi:names[i]?=some x:=by rfl)(hx:cs.names.lookup x=some .local:=by exact rfl)(hk:cs.kind=.function:=by exact rfl): Sto prog w (Zbp dp un gd cn cs L a ccd cl outer h₀ hu names) x i:=ZwS nd hi hx hk
theorem sC{x:Str}{i:Nat}(nd:names.Nodup:=by decide)(hi:names[i]?=some x:=by rfl)(hx:cs.names.lookup x=some .cell:=by exact rfl)(hk:cs.kind=.function:=by exact rfl)(hcl:(cl.lookup x).isSome=true:=by exact rfl): Sto prog w (Zbp dp un gd cn cs L a ccd cl outer h₀ hu names) x i:=ZwT nd hi hx hk hcl
end
section
variable {prog:Program} {w:World} {K:Frag} {p:Program} {loose:List Str} {mean:ExcName→Option Value} {mg mb:Str→Option Value} {Γ:Cx} {dp un:Nat}
theorem nB{x:Str}{v:Value}(clr:Clr K p loose mean mg mb Γ dp un)(e:nsIn K mainGlobals x=some Option.none:=by k_is)(hv:bootBuiltins x=some v:=by boot_by_name)(hn:x≠"__name__":=by decide)(hg:Γ.env.globals=mainGlobals:=by exact rfl)(hb:Γ.env.builtins=builtinsNs:=by exact rfl)(hk:Γ.env.scope.kind=.function:=by exact rfl)(hx:Γ.env.kindOf x=some .globalImplicit:=by exact rfl)(hd:(x == ("__debug__":Str))=false:=by exact rfl): Nm prog w Γ x v:=ZvR clr e hv hn hg hb hk hx hd
theorem cF{x:Str}{np pos:Pos}{f:Addr}{room:Nat}{e:Expr}{es:List Expr}{g:Exs}{o:List V→Hp→Option (V×Hp)}(clr:Clr K p loose mean mg mb Γ dp un)(D:Def prog w K p loose mean mg mb f room o)(h:Js prog w Γ (e::es) g)
  (en:nsIn K mainGlobals x=some (some (.ref f)):=by k_is) (hg:Γ.env.globals=mainGlobals:=by exact rfl) (hk:Γ.env.scope.kind=.function:=by exact rfl) (hx:Γ.env.kindOf x=some .globalImplicit:=by exact rfl) (hd0:(x == ("__debug__":Str))=false:=by exact rfl)
  (hkeep:keepIn K (.ref f)=true:=by k_is) (hd:dp+room<recursionLimit:=by omega) (hu:un+10*room+300<cLine:=by omega)
  (he:Zj9 e=false:=by exact rfl) (hp:Zka es=true:=by exact rfl):J prog w Γ (.Call (.Name x np) (e::es) [] pos) (ZH o g):=ZwW clr (Zyt clr en hg hk hx hd0) hkeep D hd hu h (ZnJ he) (fun pos=>Zsg pos hp)
theorem ZX{name qual:Str}{params:Arguments}{body:List Stmt}{scope:Scope}{dV kV doc pm cdv ct oc:Value}{an od:Option Addr}{osl:Array (Option Value)}{f:Addr}{names:List Str}{n room:Nat}{g:Sm}
  (hbody:∀(dp un:Nat) (gd:Option (List Code)) (L:Addr) (outer:List Env) (h₀:Heap) (hu:un+200<cLine),Clr K p loose mean mg mb (Zbp dp un gd qual scope L f cdv (cellsFrom (L+1) scope.names []) outer h₀ hu names) dp un→dp+room<recursionLimit→un+10*room+300<cLine →
   Ss prog w (Zbp dp un gd qual scope L f cdv (cellsFrom (L+1) scope.names []) outer h₀ hu names) body g)
  (ho:K.lookup f=some ⟨oc,od,.func (fnOf name qual params body scope dV kV doc pm an cdv ct),osl⟩:=by k_is) (hcd:codeIn K cdv qual=true:=by k_is) (nd:names.Nodup:=by decide) (hn:n≤names.length:=by decide)
  (hbind:∀s xs,xs.length=n→BindsTo s (fnOf name qual params body scope dV kV doc pm an cdv ct) ⟨xs,[]⟩ ((names.take n).zip xs):=by
   intro s xs hx
   first
   | (obtain⟨x0,rfl⟩:=ln1 hx;exact BindsTo.of_eq rfl)
   | (obtain⟨x0,x1,rfl⟩:=ln2 hx;exact BindsTo.of_eq rfl)
   | (obtain⟨x0,x1,x2,rfl⟩:=ln3 hx;exact BindsTo.of_eq rfl)
   | (obtain⟨x0,x1,x2,x3,rfl⟩:=ln4 hx;exact BindsTo.of_eq rfl)
   | (obtain⟨x0,x1,x2,x3,x4,rfl⟩:=ln5 hx;exact BindsTo.of_eq rfl)
   | (obtain⟨x0,x1,x2,x3,x4,x5,rfl⟩:=ln6 hx;exact BindsTo.of_eq rfl)
   | (obtain⟨x0,x1,x2,x3,x4,x5,x6,rfl⟩:=ln7 hx;exact BindsTo.of_eq rfl)) (hkinds:∀x∈names.take n,scope.names.lookup x=some .local∨scope.names.lookup x=some .cell:=by decide) (hone:((cellsFrom 0 scope.names []).map (·.1)).Nodup:=by decide +kernel)
  (hco:scope.isCoroutine=false:=by exact rfl) (hgen:scope.isGenerator=false:=by exact rfl) (hk:scope.kind=.function:=by exact rfl):
  Def prog w K p loose mean mg mb f (room+1) (ZJ n g):=ZrD ho hcd nd hn hbind hkinds hone hco hgen hk hbody
end
section
variable {prog:Program} {w:World} {Γ:Cx} {scope:Scope} {cl:List (Str×Addr)} {C:Addr} {ts:List (Str×Nat)} {ρ0:Lc}
theorem vO{x:Str}{t:Nat}{pos:Pos}(hm:(x,t)∈ts:=by first | exact Zz5 | exact Zz2 _ Zz5)(hk:scope.kind=.function:=by exact rfl)(hl:(compEnvC scope cl C Γ.env).kindOf x=some .local:=by exact rfl)(hd:(x == ("__debug__":Str))=false:=by exact rfl): J prog w (Za5 Γ scope cl C ts ρ0) (.Name x pos) (Zg t):=Zkl (ZwY hm hk hl hd)
end
section
variable {prog:Program} {w:World} {dp un:Nat} {gd:Option (List Code)} {cn:Str} {cs:Scope} {L a:Addr} {ccd:Value} {clf:List (Str×Addr)} {outer:List Env} {h₀:Heap} {hu:un+200<cLine} {names:List Str} {scope:Scope} {cl:List (Str×Addr)} {C:Addr} {ts:List (Str×Nat)} {ρ0:Lc}
theorem vD{x:Str}{i:Nat}{pos:Pos}(hi:names[i]?=some x:=by rfl)(hx:cs.names.lookup x=some .cell:=by exact rfl)(hne:∀p∈ts,p.2≠i:=by decide)(hcl:cl.lookup x=clf.lookup x:=by exact rfl)(hk:scope.kind=.function:=by exact rfl)(hl:(compEnvC scope cl C (envX cn cs L a ccd clf)).kindOf x=some .cell:=by exact rfl)(hd:(x == ("__debug__":Str))=false:=by exact rfl):
  J prog w (Za5 (Zbp dp un gd cn cs L a ccd clf outer h₀ hu names) scope cl C ts ρ0) (.Name x pos) (Zg i):=Zkl (ZwZ hi hx hne hcl hk hl hd)
end
end PM
end
noncomputable section
open PySem PM TM
namespace L
variable {H:Hp} {a:V} {t:T} {F:List Nat} {ρ:Lc} {σ:TL}
def ZgH: XS [] [] [] false:=⟨_,_,(Zr (ZU (i:=2) (O':=[]) (ZM ZZ (ZM Zba (ZM Zba (Za 1) (Za 1)) (Zc 7919)) (Zc 11))) (Zr (S.ife (ZA (Zu ZdM (Zai Zay (Zb (Za 0) Ze)) (Zc 0))) (ZU (i:=2) (O':=[]) (ZM ZZ (Za 2) (Zo Zn (Za 0) (Zu ZaD (Za 1) (Zai Zay (Zb (Za 0) Ze)))))) ZQ) (ZF (Za 2))))⟩
def ZoQ:=ZJ 2 (XS.g ZgH)
def Zlg:=ZT 2 (XS.q ZgH)
theorem ZoR: SimF false ZoQ Zlg:=ZY (XS.h ZgH)
def Zg2: XS [] [] [] false:=⟨_,_,(ZF (Zu ZaD (Zu ZaD (ZM Zba (Zw ZoR (Zb (Za 0) (Zb (Za 1) Ze))) (Zc 48271)) (Zc 2147483647)) (Za 2)))⟩
def Zda:=ZJ 3 (XS.g Zg2)
def ZcK:=ZT 3 (XS.q Zg2)
theorem ZbC: SimF false Zda ZcK:=ZY (XS.h Zg2)
def Zgw: XS [] [] [] false:=⟨_,_,(Zr (ZU (i:=2) (O':=[]) (Zw ZoR (Zb (Za 0) (Zb (Za 1) Ze)))) (Zr (ZU (i:=3) (O':=[]) (Zo Zn (E.list (Zb (Zc 3) (Zb (Zc 9) (Zb (Zu Zip (Zc 10) (Zc 9)) (Zb (Zu Zip (Zc 10) (Zc 40)) Ze))))) (Zu ZaD (Zu ZaD (ZM Zba (Za 2) (Zc 69621)) (Zc 2147483629)) (Zc 4)))) (ZF (Zu ZaX (Zu ZaD (ZM Zba (Za 2) (Zu Zip (Zc 48271) (Zc 9))) (ZM ZZ (ZM Zba (Zc 2) (Za 3)) (Zc 1))) (Za 3)))))⟩
def Zgx:=ZJ 2 (XS.g Zgw)
def Zgy:=ZT 2 (XS.q Zgw)
theorem ZcT: SimF false Zgx Zgy:=ZY (XS.h Zgw)
def ZgI: XS [] [] [] false:=⟨_,_,(Zr (ZU (i:=2) (O':=[]) (Zw ZbC (Zb (Za 0) (Zb (Za 1) (Zb (Zc 42) Ze))))) (Zr (S.ife (ZA (Zu ZcH (Zu ZaD (Za 2) (Zc 6)) (Zc 2))) (ZF (Z4)) ZQ) (Zr (S.ife (ZA (Zu ZcH (Zu ZaD (Za 2) (Zc 6)) (Zc 4))) (ZF (Zc 0)) ZQ) (Zr (S.ife (ZA (Zu Zaf (Zu ZaD (Za 2) (Zc 6)) (Zc 4))) (ZF (Zu Zcr (Za 2) (Zc 6))) ZQ) (ZF (Zai Zc0 (Zb (Zw ZcT (Zb (Za 0) (Zb (Za 1) Ze))) Ze)))))))⟩
def ZoS:=ZJ 2 (XS.g ZgI)
def Zlh:=ZT 2 (XS.q ZgI)
theorem Zli: SimF false ZoS Zlh:=ZY (XS.h ZgI)
def Zgg: XS [] [] [] false:=⟨_,_,(Zr (S.ife (ZA (Zu Zaf (Za 0) (Zc 0))) (ZF (E.tup (Zb (Zc 0) (Zb (Za 1) Ze)))) ZQ) (ZF (E.tup (Zb (Za 0) (Zb (Zu ZaD (Za 1) (Za 0)) Ze)))))⟩
def Zoq:=ZJ 2 (XS.g Zgg)
def ZkU:=ZT 2 (XS.q Zgg)
theorem Zor: SimF false Zoq ZkU:=ZY (XS.h Zgg)
def Zg3: XS [] [] [] false:=⟨_,_,(Zr (ZU (i:=3) (O':=[]) (Zw ZbC (Zb (Za 0) (Zb (Za 1) (Zb (Zc 60) Ze))))) (Zr (S.ife (ZA (Zu ZcH (Zu ZaD (Za 3) (Zc 5)) (Zc 2))) (ZF (E.tup (Zb (Zc 1) (Zb (Zc 0) Ze)))) ZQ) (Zr (S.ife (ZA (Zu Zaf (Zu ZaD (Za 3) (Zc 5)) (Zc 2))) (ZF (E.tup (Zb (Zc 0) (Zb (Za 2) Ze)))) ZQ) (Zr (S.ife (ZA (Zu Zaf (Zu ZaD (Za 3) (Zc 5)) (Zc 3))) (ZF (Zw Zor (Zb (ZM ZZ (Zu Zcr (Za 3) (Zc 5)) (Zc 1)) (Zb (Za 2) Ze)))) ZQ) (ZF (Zw Zor (Zb (Zai Zc0 (Zb (Zw ZcT (Zb (Za 0) (Zb (Za 1) Ze))) Ze)) (Zb (Za 2) Ze))))))))⟩
def Zph:=ZJ 3 (XS.g Zg3)
def Zlz:=ZT 3 (XS.q Zg3)
theorem Zum: SimF false Zph Zlz:=ZY (XS.h Zg3)
def Zg4: XS [] [5] [] true:=⟨_,_,(Zr (ZU (i:=3) (O':=[]) (ZM ZZ (E.list (Zb (Zc 0) Ze)) (Za 2))) (Zr (ZU (i:=4) (O':=[]) (Zai Zay (Zb (Za 3) Ze))) (Zr (Zb9 (i:=5) (O':=[5]) (E.list Ze)) (Zr (Zbn (Gs.range (Zb (Za 4) Ze)) (PutOk.one (j:=6)) (by decide) (by decide) (Zr (Zb9 (i:=7) (O':=[5,7]) (ZbA (O':=[]) (E.list Ze))) (Zr (Zbn (Gs.range (Zb (Za 4) Ze)) (PutOk.one (j:=8)) (by decide) (by decide) (Zr (ZU (i:=9) (O':=[5,7]) (Zw Zli (Zb (Za 0) (Zb (ZM ZZ (ZM ZZ (Za 1) (ZM Zba (Za 6) (Za 4))) (Za 8)) Ze)))) (Zr (S.ife (ZA (Zu ZbG (Za 9) (Z4))) (ZU (i:=9) (O':=[5,7]) (ZM ZZ (Zu ZaX (Zo Zn (Za 3) (Za 6)) (Zo Zn (Za 3) (Za 8))) (Za 9))) ZQ) (ZnF (x:=7) (O':=[5,7]) (by decide) Zca (ZbA (O':=[5]) (E.flat (Za 9))) (by decide) (by decide))))) (Zr (S.put (x:=7) (O':=[5,7]) (by decide) (ZbA (O':=[5]) (Zc 0)) Zca (Za 6) (by decide) (by decide)) (ZnF (x:=5) (O':=[5]) (by decide) Zca (ZbA (O':=[7]) (E.own (i:=7) (by decide))) (by decide) (by decide)))))) (Zad (E.tup (Zer (E.own (i:=5) (by decide)) (Zer (Zdf (Gs.range (Zb (Zu ZaX (Za 4) (Zc 1)) Ze)) (PutOk.one (j:=100)) (by decide) Zaq (ZbA (O':=[]) (E.flat (Zw Zum (Zb (Za 0) (Zb (ZM ZZ (ZM ZZ (Za 1) (ZM Zba (Za 4) (Za 4))) (Za 100)) (Zb (Zo Zn (Za 2) (Za 100)) Ze))))))) Ze (by decide) (by decide)) (by decide) (by decide))))))))⟩
def Zi3:=ZJ 3 (XS.g Zg4)
def Zi4:=ZT 3 (XS.q Zg4)
theorem Zpi: SimF true Zi3 Zi4:=ZY (XS.h Zg4)
def ZlA: Sm:=ZW (sIf (Zao (Zy oIs (Zg 0) (Zau))) (Zag (Zau)) Zax) (Zag (ZbX (Zh (Zbw (ZdJ (Zy Z3 (Zg 0) (Zz 0))) (put1 100) Zbz (ZH ZeI (Zh (Zg 100) ZD))) (Zh (ZH ZeI (Zh (Zy Z3 (Zg 0) (Zz 1)) ZD)) ZD))))
def Zg5:=ZJ 1 ZlA
def ZlB: PS:=(Z8 (qIf (Zat (ZC qIs (Zj 0) (ZaH))) (Zav (ZaH)) ZaQ) (Zav (ZcR (Zl (Zbb (Zc4 (ZC Z5 (Zj 0) (ZE 0))) (ZaT 100) Za6 (ZV ZfC (Zl (Zj 100) ZG))) (Zl (ZV ZfC (Zl (ZC Z5 (Zj 0) (ZE 1)) ZG)) ZG)))))
def Zdb:=ZT 1 ZlB
theorem Zun: SimF false Zg5 Zdb:=ZY (show S [] [] [] false ZlA ZlB from(Zr (S.ife (ZA (Zu ZbB (Za 0) (Z4))) (ZF (Z4)) ZQ) (ZF (E.tup (Zb (ZbD (Gs.seq (Zo Zn (Za 0) (Zc _))) PutOk.one (by decide) Zaq (Zh1 ZmL (Zb (Za 100) Ze))) (Zb (Zh1 ZmL (Zb (Zo Zn (Za 0) (Zc _)) Ze)) Ze))))))
def ZgJ: XS [] [] [] false:=⟨_,_,(ZF ((ZAF (E.sh (Zu ZbB (Za 1) (Z4))) (E.sh ((Zio (E.sh (Zu ZbG (Za 0) (Z4))) (E.sh (Zu ZnV (Za 0) (Za 1)))))))))⟩
def ZoT:=ZJ 2 (XS.g ZgJ)
def Zlj:=ZT 2 (XS.q ZgJ)
theorem ZoU: SimF false ZoT Zlj:=ZY (XS.h ZgJ)
def Zg6: XS [] [] [] false:=⟨_,_,(Zr (S.ife (ZA (Zu Zaf (Zo Zn (Za 0) (Zc 0)) (Zc 0))) (ZF (Zu Zaf (Za 1) (Zo Zn (Za 0) (Zc 1)))) ZQ) (ZF (Zu Zaf (Zu ZaD (Za 1) (Zo Zn (Za 0) (Zc 0))) (Zo Zn (Za 0) (Zc 1)))))⟩
def Zpj:=ZJ 2 (XS.g Zg6)
def ZlC:=ZT 2 (XS.q Zg6)
theorem Zg7: SimF false Zpj ZlC:=ZY (XS.h Zg6)
def Zgh: XS [] [] [] false:=⟨_,_,(Zr (S.ife (ZA (Zu Zaf (Zo Zn (Za 1) (Zc 0)) (Zc 0))) (ZF (Zu Zaf (Za 0) (Za 1))) ZQ) (ZF ((Zio (E.sh (Zu Zaf (Zu ZaD (Zo Zn (Za 0) (Zc 0)) (Zo Zn (Za 1) (Zc 0))) (Zc 0))) (E.sh (Zw Zg7 (Zb (Za 1) (Zb (Zo Zn (Za 0) (Zc 1)) Ze))))))))⟩
def Zos:=ZJ 2 (XS.g Zgh)
def ZkV:=ZT 2 (XS.q Zgh)
theorem Ztb: SimF false Zos ZkV:=ZY (XS.h Zgh)
def Zhv: XS [] [] [] false:=⟨_,_,(Zr (ZU (i:=2) (O':=[]) (Zai Zc0 (Zb (Za 0) Ze))) (Zr (ZU (i:=3) (O':=[]) (Zai Zc0 (Zb (Za 1) Ze))) (Zr (ZmN (ZA (Zu Zct (Za 3) (Zc 0))) (Zr (ZU (i:=4) (O':=[]) (Zu ZaD (Za 2) (Za 3))) (Zr (ZU (i:=2) (O':=[]) (Za 3)) (ZU (i:=3) (O':=[]) (Za 4)))) 1000000) (ZF (Za 2)))))⟩
def ZpL:=ZJ 2 (XS.g Zhv)
def ZlZ:=ZT 2 (XS.q Zhv)
theorem Zjm: SimF false ZpL ZlZ:=ZY (XS.h Zhv)
def Zie: XS [] [] [] false:=⟨_,_,(Zr (S.ife (ZA (Zu ZcH (Za 0) (Zc 0))) (ZAG (g:=PM.sNo) (O':=[])) ZQ) (Zr (S.ife (ZA (Zu Zaf (Za 0) (Zc 0))) (ZF (E.tup (Zb (Zc 0) (Zb (Za 1) Ze)))) ZQ) (ZF (E.tup (Zb (Za 0) (Zb (Zu ZaD (Za 1) (Za 0)) Ze))))))⟩
def ZrL:=ZJ 2 (XS.g Zie)
def Znl:=ZT 2 (XS.q Zie)
theorem ZfF: SimF false ZrL Znl:=ZY (XS.h Zie)
def Zhw: XS [] [] [] false:=⟨_,_,(Zr (ZU (i:=2) (O':=[]) (Zu ZaD (Za 0) (Za 1))) (Zr (ZU (i:=3) (O':=[]) (Za 1)) (Zr (ZU (i:=4) (O':=[]) (Zc 1)) (Zr (ZU (i:=5) (O':=[]) (Zc 0)) (Zr (ZmN (ZA (Zu Zct (Za 3) (Zc 0))) (Zr (ZU (i:=6) (O':=[]) (Zu Zcr (Za 2) (Za 3))) (Zr (ZU (i:=7) (O':=[]) (Zu ZaX (Za 2) (ZM Zba (Za 6) (Za 3)))) (Zr (ZU (i:=8) (O':=[]) (Zu ZaX (Za 4) (ZM Zba (Za 6) (Za 5)))) (Zr (ZU (i:=2) (O':=[]) (Za 3)) (Zr (ZU (i:=4) (O':=[]) (Za 5)) (Zr (ZU (i:=3) (O':=[]) (Za 7)) (ZU (i:=5) (O':=[]) (Za 8)))))))) 1000000) (ZF (Zu ZaD (Za 4) (Za 1))))))))⟩
def ZpM:=ZJ 2 (XS.g Zhw)
def Zl0:=ZT 2 (XS.q Zhw)
theorem Zvf: SimF false ZpM Zl0:=ZY (XS.h Zhw)
def Zg8: XS [] [] [] false:=⟨_,_,(Zr (S.ife (ZA (Zu Zaf (Zo Zn (Za 0) (Zc 0)) (Zc 0))) (ZF (E.ife (ZA (Zw Zg7 (Zb (Za 1) (Zb (Zo Zn (Za 0) (Zc 1)) Ze)))) (E.sh (Za 0)) (E.sh (Z4)))) ZQ) (Zr (S.ife (ZA (Zu Zaf (Zo Zn (Za 1) (Zc 0)) (Zc 0))) (ZF (E.ife (ZA (Zw Zg7 (Zb (Za 0) (Zb (Zo Zn (Za 1) (Zc 1)) Ze)))) (E.sh (Za 1)) (E.sh (Z4)))) ZQ) (Zr (ZU (i:=2) (O':=[]) (Zw Zjm (Zb (Zo Zn (Za 0) (Zc 0)) (Zb (Zo Zn (Za 1) (Zc 0)) Ze)))) (Zr (ZU (i:=3) (O':=[]) (Zu ZaX (Zo Zn (Za 1) (Zc 1)) (Zo Zn (Za 0) (Zc 1)))) (Zr (S.ife (ZA (Zu Zct (Zu ZaD (Za 3) (Za 2)) (Zc 0))) (ZF (Z4)) ZQ) (Zr (ZU (i:=4) (O':=[]) (Zu Zcr (Zo Zn (Za 1) (Zc 0)) (Za 2))) (Zr (ZU (i:=5) (O':=[]) (ZM Zba (Zu Zcr (Za 3) (Za 2)) (Zw Zvf (Zb (Zu Zcr (Zo Zn (Za 0) (Zc 0)) (Za 2)) (Zb (Za 4) Ze))))) (ZF (Zw ZfF (Zb (ZM Zba (Zo Zn (Za 0) (Zc 0)) (Za 4)) (Zb (ZM ZZ (Zo Zn (Za 0) (Zc 1)) (ZM Zba (Zo Zn (Za 0) (Zc 0)) (Za 5))) Ze)))))))))))⟩
def Zpk:=ZJ 2 (XS.g Zg8)
def ZlD:=ZT 2 (XS.q Zg8)
theorem ZlE: SimF false Zpk ZlD:=ZY (XS.h Zg8)
def ZgK: XS [] [] [] false:=⟨_,_,(ZF (Zw ZfF (Zb (Zw Zjm (Zb (Zo Zn (Za 0) (Zc 0)) (Zb (Zo Zn (Za 1) (Zc 0)) Ze))) (Zb (ZM ZZ (Zo Zn (Za 0) (Zc 1)) (Zo Zn (Za 1) (Zc 1))) Ze))))⟩
def Zlk:=ZJ 2 (XS.g ZgK)
def ZiT:=ZT 2 (XS.q ZgK)
theorem Zll: SimF false Zlk ZiT:=ZY (XS.h ZgK)
def Zgz: XS [] [] [] false:=⟨_,_,(ZF (Zw ZfF (Zb (ZM Zba (Zo Zn (Za 0) (Zc 0)) (Zai Zc0 (Zb (Za 1) Ze))) (Zb (ZM Zba (Zo Zn (Za 0) (Zc 1)) (Za 1)) Ze))))⟩
def Zk8:=ZJ 2 (XS.g Zgz)
def ZiN:=ZT 2 (XS.q Zgz)
theorem Zk9: SimF false Zk8 ZiN:=ZY (XS.h Zgz)
def ZgA: XS [] [] [] false:=⟨_,_,(Zr (S.ife (ZA (Zu Zaf (Zo Zn (Za 0) (Zc 0)) (Zc 0))) (ZF (E.ife (ZA (Zu ZnV (Zo Zn (Za 0) (Zc 1)) (Za 1))) (E.sh (Zo Zn (Za 0) (Zc 1))) (E.sh (Z4)))) ZQ) (ZF (Zu ZaX (Za 1) (Zu ZaD (Zu ZaX (Za 1) (Zo Zn (Za 0) (Zc 1))) (Zo Zn (Za 0) (Zc 0))))))⟩
def ZoF:=ZJ 2 (XS.g ZgA)
def Zla:=ZT 2 (XS.q ZgA)
theorem ZtA: SimF false ZoF Zla:=ZY (XS.h ZgA)
def ZhO: XS [] [] [] false:=⟨_,_,(ZF (E.ife (ZA (Zw ZoU (Zb (Za 0) (Zb (Za 1) Ze)))) (E.sh (Za 0)) (E.sh (Za 1))))⟩
def Zmp:=ZJ 2 (XS.g ZhO)
def Zjs:=ZT 2 (XS.q ZhO)
theorem Zqi: SimF false Zmp Zjs:=ZY (XS.h ZhO)
def Zg9: XS [] [] [] false:=⟨_,_,(Zr (S.ife (ZaP (ZA (Zu ZbB (Za 0) (Z4))) (ZaP (ZA (Zu ZbB (Za 1) (Z4))) Zci)) (ZF (Z4)) ZQ) (ZF (ZM ZZ (Za 0) (Za 1))))⟩
def Zpl:=ZJ 2 (XS.g Zg9)
def ZlF:=ZT 2 (XS.q Zg9)
theorem Ze7: SimF false Zpl ZlF:=ZY (XS.h Zg9)
def Zf2: XS [] [] [] true:=⟨_,_,(Zad (Zdf (Gs.zip (Za 0) (Za 2)) (PutOk.two (i:=100) (j:=101)) (by decide) Zaq (E.flat (Zw Zqi (Zb (Za 100) (Zb (Zw Ze7 (Zb (Za 1) (Zb (Za 101) Ze))) Ze))))))⟩
def Zn8:=ZJ 3 (XS.g Zf2)
def ZkJ:=ZT 3 (XS.q Zf2)
theorem ZsB: SimF true Zn8 ZkJ:=ZY (XS.h Zf2)
def ZgL: XS [] [] [] true:=⟨_,_,(Zad (Zdf (Gs.seq (Za 0)) (PutOk.one (j:=100)) (by decide) Zaq (Zar ZsB (Zb (Za 100) (Zb (Zo Zn (Za 100) (Za 1)) (Zb (Zo Zn (Za 0) (Za 1)) Ze))))))⟩
def ZoV:=ZJ 2 (XS.g ZgL)
def Zlm:=ZT 2 (XS.q ZgL)
theorem ZoW: SimF true ZoV Zlm:=ZY (XS.h ZgL)
def Zga: XS [] [] [] false:=⟨_,_,(ZF (Zai ZzP (Zb (ZbD (Gs.range (Zb (Zai Zay (Zb (Za 0) Ze)) Ze)) (PutOk.one (j:=100)) (by decide) Zaq (Zu ZcH (Zo Zn (Zo Zn (Za 0) (Za 100)) (Za 100)) (Zc 0))) Ze)))⟩
def Zoh:=ZJ 1 (XS.g Zga)
def ZkP:=ZT 1 (XS.q Zga)
theorem Zoi: SimF false Zoh ZkP:=ZY (XS.h Zga)
def ZhP: XS [] [1] [] true:=⟨_,_,(Zr (ZU (i:=1) (O':=[]) (Za 0)) (Zr (Zy7 (Gs.range (Zb (Zai Zay (Zb (Za 0) Ze)) Ze)) (PutOk.one (j:=2)) (PutOk.one (j:=2)) (by decide) (by decide) (by decide) (Zr (Zb9 (i:=1) (O':=[1]) (Zar ZoW (Zb (Za 1) (Zb (Za 2) Ze)))) (S.ife (ZA (Zw Zoi (Zb (Za 1) Ze))) (Zad (Z4)) ZQ)) (Zr (Zb9 (i:=1) (O':=[1]) (ZbA (O':=[]) (Zar ZoW (Zb (Za 1) (Zb (Za 2) Ze))))) (S.ife (ZA (Zw Zoi (Zb (Za 1) Ze))) (Zad (Z4)) ZQ))) (Zad (E.own (i:=1) (by decide)))))⟩
def Zfl:=ZJ 1 (XS.g ZhP)
def ZhQ:=ZT 1 (XS.q ZhP)
theorem Zwh: SimF true Zfl ZhQ:=ZY (XS.h ZhP)
def ZgM: XS [] [] [] false:=⟨_,_,(ZF ((Zio (E.sh (ZdL (K:="int") (Za 0))) (E.sh (ZzN (ZdL (K:="bool") (Za 0)))))))⟩
def ZoX:=ZJ 1 (XS.g ZgM)
def Zln:=ZT 1 (XS.q ZgM)
theorem Zlo: SimF false ZoX Zln:=ZY (XS.h ZgM)
def Zha: XS [] [] [] false:=⟨_,_,(Zr (S.ife (ZaP (Zcm (ZA (ZdL (K:="list") (Za 0)))) (ZaP (ZA (Zu Zct (Zai Zay (Zb (Za 0) Ze)) (Za 1))) Zci)) (ZF (E.bool false)) ZQ) (Zr (Zbn (Gs.range (Zb (Za 1) Ze)) (PutOk.one (j:=2)) (by decide) (by decide) (Zr (S.ife (ZaP (Zcm (ZA (ZdL (K:="list") (Zo Zn (Za 0) (Za 2))))) (ZaP (ZA (Zu Zct (Zai Zay (Zb (Zo Zn (Za 0) (Za 2)) Ze)) (Za 1))) Zci)) (ZF (E.bool false)) ZQ) (Zr (Zbn (Gs.seq (Zo Zn (Za 0) (Za 2))) (PutOk.one (j:=3)) (by decide) (by decide) (S.ife (Za3 (ZA (Zu ZbG (Za 3) (Z4))) (Za3 (Zcm (ZA (Zw Zlo (Zb (Za 3) Ze)))) Zaq)) (ZF (E.bool false)) ZQ)) (S.ife (ZA (Zu Zct (Zo Zn (Zo Zn (Za 0) (Za 2)) (Za 2)) (Zc 0))) (ZF (E.bool false)) ZQ)))) (ZF (E.bool true))))⟩
def Zpm:=ZJ 2 (XS.g Zha)
def ZlG:=ZT 2 (XS.q Zha)
theorem Zuo: SimF false Zpm ZlG:=ZY (XS.h Zha)
def Zgb: XS [] [] [] false:=⟨_,_,(ZF (E.tup (Zb (Zw Ze7 (Zb (Zo Zn (Za 0) (Zc 0)) (Zb (Zo Zn (Za 1) (Zc 0)) Ze))) (Zb (Zw Ze7 (Zb (Zo Zn (Za 0) (Zc 1)) (Zb (Zo Zn (Za 1) (Zc 1)) Ze))) Ze))))⟩
def Zoj:=ZJ 2 (XS.g Zgb)
def ZkQ:=ZT 2 (XS.q Zgb)
theorem ZsU: SimF false Zoj ZkQ:=ZY (XS.h Zgb)
def ZgN: XS [] [] [] false:=⟨_,_,(Zr (S.ife (ZA (Zu ZbB (Za 0) (Z4))) (ZF (Z4)) ZQ) (ZF (ZM Zba (Za 0) (Za 1))))⟩
def Zlp:=ZJ 2 (XS.g ZgN)
def ZiU:=ZT 2 (XS.q ZgN)
theorem ZgO: SimF false Zlp ZiU:=ZY (XS.h ZgN)
def Zf3: XS [] [] [] false:=⟨_,_,(Zr (S.ife (ZA (Zu Zaf (Za 1) (Zc 0))) (ZF (E.tup (Zb (Zc 0) (Zb (Zc 0) Ze)))) ZQ) (Zr (ZU (i:=2) (O':=[]) (Zw ZgO (Zb (Zo Zn (Za 0) (Zc 0)) (Zb (Za 1) Ze)))) (Zr (ZU (i:=3) (O':=[]) (Zw ZgO (Zb (Zo Zn (Za 0) (Zc 1)) (Zb (Za 1) Ze)))) (Zr (S.ife (ZA (Zu ZcH (Za 1) (Zc 0))) (ZF (E.tup (Zb (Za 3) (Zb (Za 2) Ze)))) ZQ) (ZF (E.tup (Zb (Za 2) (Zb (Za 3) Ze))))))))⟩
def Zn9:=ZJ 2 (XS.g Zf3)
def ZkK:=ZT 2 (XS.q Zf3)
theorem ZsC: SimF false Zn9 ZkK:=ZY (XS.h Zf3)
def Zgi: XS [] [] [] false:=⟨_,_,(Zr (ZU (i:=2) (O':=[]) (E.tup (Zb (Zo Zn (Za 0) (Zc 0)) (Zb (Zo Zn (Za 0) (Zc 0)) Ze)))) (Zr (Zbn (Gs.zip (Zj2 (k:=1) (Za 0)) (Za 1)) (PutOk.two (i:=3) (j:=4)) (by decide) (by decide) (ZU (i:=2) (O':=[]) (Zw ZsU (Zb (Za 2) (Zb (Zw ZsC (Zb (Za 4) (Zb (Za 3) Ze))) Ze))))) (ZF (Za 2))))⟩
def Zot:=ZJ 2 (XS.g Zgi)
def ZkW:=ZT 2 (XS.q Zgi)
theorem Ztc: SimF false Zot ZkW:=ZY (XS.h Zgi)
def Zhb: XS [] [] [] false:=⟨_,_,(Zr (ZU (i:=2) (O':=[]) (E.tup (Zb (Zc 0) (Zb (Zo Zn (Za 0) (Zc 0)) Ze)))) (Zr (Zbn (Gs.zip (Zj2 (k:=1) (Za 0)) (Za 1)) (PutOk.two (i:=3) (j:=4)) (by decide) (by decide) (ZU (i:=2) (O':=[]) (Zw Zll (Zb (Za 2) (Zb (Zw Zk9 (Zb (Za 4) (Zb (Za 3) Ze))) Ze))))) (ZF (Za 2))))⟩
def ZlH:=ZJ 2 (XS.g Zhb)
def Zek:=ZT 2 (XS.q Zhb)
theorem Ze8: SimF false ZlH Zek:=ZY (XS.h Zhb)
def Zhx: XS [] [] [] false:=⟨_,_,(ZF ((Zio (E.sh (Zu ZbG (Za 0) (Z4))) (Zio (E.sh (Zu ZbG (Za 1) (Z4))) (E.sh (Zu ZdM (Za 0) (Za 1)))))))⟩
def ZpN:=ZJ 2 (XS.g Zhx)
def Zjn:=ZT 2 (XS.q Zhx)
theorem Zvg: SimF false ZpN Zjn:=ZY (XS.h Zhx)
def Zgj: XS [] [] [] false:=⟨_,_,(ZF (ZM ZZ (E.list (Zb (E.tup (Zb (Zc 0) (Zb (Zc 0) Ze))) Ze)) (Za 0)))⟩
def Zgk:=ZJ 1 (XS.g Zgj)
def Zgl:=ZT 1 (XS.q Zgj)
theorem ZkX: SimF false Zgk Zgl:=ZY (XS.h Zgj)
def Zgc: XS [] [] [] false:=⟨_,_,(Zr (ZU (i:=3) (O':=[]) (Zo Zn (Za 1) (Za 2))) (Zr (Zbn (Zxv (Za 1)) (PutOk.two (i:=4) (j:=5)) (by decide) (by decide) (S.ife (Za3 (ZA (Zu ZbG (Za 3) (Z4))) (Za3 (ZA (Zu Zaf (Zw Ze7 (Zb (Zo Zn (Zo Zn (Za 0) (Za 2)) (Za 4)) (Zb (Zo Zn (Zo Zn (Za 0) (Za 4)) (Za 2)) Ze))) (Zc 0))) Zaq)) (ZU (i:=3) (O':=[]) (Zw ZlE (Zb (Za 3) (Zb (Zw Zll (Zb (Za 5) (Zb (E.tup (Zb (Zc 0) (Zb (Zo Zn (Zo Zn (Za 0) (Za 2)) (Za 4)) Ze))) Ze))) Ze)))) ZQ)) (ZF (Za 3))))⟩
def Zgd:=ZJ 3 (XS.g Zgc)
def Zee:=ZT 3 (XS.q Zgc)
theorem Zok: SimF false Zgd Zee:=ZY (XS.h Zgc)
def Zgm: Sm:=ZW (sIf (Zao (Zy oIs (Zg 0) (Zau))) (Zag (Zau)) Zax) (ZW (Zaa 1 (ZH Zgk (Zh (Zy Z3 (Zg 0) (Zz 1)) ZD))) (ZW (Zaa 2 (Zbw (ZbI (Zh (Zz 1) (Zh (ZH ZbL (Zh (Zg 1) ZD)) ZD))) (put1 100) Zbz (ZH Zgd (Zh (Zy Z3 (Zg 0) (Zz 0)) (Zh (Zg 1) (Zh (Zg 100) ZD)))))) (ZW (sIf (Zao (Zy oIn (Zau) (Zg 2))) (Zag (Zau)) Zax) (Zag (ZbX (Zh (Zy Z3 (Zg 0) (Zz 0)) (Zh (Zg 2) ZD)))))))
def ZdO:=ZJ 1 Zgm
def Zgn: PS:=(Z8 (qIf (Zat (ZC qIs (Zj 0) (ZaH))) (Zav (ZaH)) ZaQ) (Z8 (ZaA 1 (ZV Zgl (Zl (ZC Z5 (Zj 0) (ZE 1)) ZG))) (Z8 (ZaA 2 (Zbb (Zbu (Zl (ZE 1) (Zl (ZV Zbc (Zl (Zj 1) ZG)) ZG))) (ZaT 100) Za6 (ZV Zee (Zl (ZC Z5 (Zj 0) (ZE 0)) (Zl (Zj 1) (Zl (Zj 100) ZG)))))) (Z8 (qIf (Zat (ZC qIn (ZaH) (Zj 2))) (Zav (ZaH)) ZaQ) (Zav (ZcR (Zl (ZC Z5 (Zj 0) (ZE 0)) (Zl (Zj 2) ZG))))))))
def Zdt:=ZT 1 Zgn
theorem Ztd: SimF false ZdO Zdt:=ZY (show S [] [] [] false Zgm Zgn from(Zr (S.ife (ZA (Zu ZbB (Za 0) (Z4))) (ZF (Z4)) ZQ) (Zr (ZU (O':=[]) (Zw ZkX (Zb (Zo Zn (Za 0) (Zc _)) Ze))) (Zr (ZU (O':=[]) (ZbD (Gs.range (Zb (Zc _) (Zb (Zai Zay (Zb (Za 1) Ze)) Ze))) PutOk.one (by decide) Zaq (Zw Zok (Zb (Zo Zn (Za 0) (Zc _)) (Zb (Za 1) (Zb (Za 100) Ze)))))) (Zr (S.ife (ZA (Zu ZfT (Z4) (Za 2))) (ZF (Z4)) ZQ) (ZF (E.tup (Zb (Zo Zn (Za 0) (Zc _)) (Zb (Za 2) Ze)))))))))
def Zkb: Sm:=ZW (sIf (Zao (Zy oIs (Zg 0) (Zau))) (Zag (Zau)) Zax) (ZW (Zaa 1 (ZH Zfl (Zh (Zy Z3 (Zg 0) (Zz 0)) ZD))) (ZW (sIf (Zao (Zy oIs (Zg 1) (Zau))) (Zag (Zau)) Zax) (Zag (ZbX (Zh (Zg 1) (Zh (Zy Z3 (Zg 0) (Zz 1)) ZD))))))
def Zd2:=ZJ 1 Zkb
def Zkc: PS:=(Z8 (qIf (Zat (ZC qIs (Zj 0) (ZaH))) (Zav (ZaH)) ZaQ) (Z8 (ZaA 1 (ZV ZhQ (Zl (ZC Z5 (Zj 0) (ZE 0)) ZG))) (Z8 (qIf (Zat (ZC qIs (Zj 1) (ZaH))) (Zav (ZaH)) ZaQ) (Zav (ZcR (Zl (Zj 1) (Zl (ZC Z5 (Zj 0) (ZE 1)) ZG)))))))
def Zd3:=ZT 1 Zkc
def Znm: Sm:=Zag (ZH ZdO (Zh (ZH Zd2 (Zh (Zg 0) ZD)) ZD))
def Zkd:=ZJ 1 Znm
def Zke: PS:=(Zav (ZV Zdt (Zl (ZV Zd3 (Zl (Zj 0) ZG)) ZG)))
def Zh5: T→Bool
 | .none=>true
 | .tup [_,.lst ts]=>T.flats ts
 | _=>false
def Zif: List T→Option T:=fun ts=>(ZT 1 Zke ts).bind fun t=>if Zh5 t then some t else none
theorem ZrM(hp:0<H.length)(r:RF H a t F): St ⟨H,[],fun x=>x∈F⟩ [] (fun i=>[a][i]?) (fun i=>[t][i]?) H (fun _=>F):=by
 refine⟨fun i u e=>?_,fun i u e x m=>.inr m,fun i hi=>(nomatch hi),Nat.le_refl _,fun x _ _=>rfl,hp,by simp⟩
 cases i with
 | zero=>cases e;exact⟨a,rfl,r⟩
 | succ i=>simp at e
theorem Zq0(e:ρ 0=some a)(r:RF H a t F)(ht:t≠.none): sIf (Zao (Zy oIs (Zg 0) (Zau))) (Zag (Zau)) Zax ρ H=some (none,ρ,H):=by
 cases r <;> first | exact absurd rfl ht | simp[sIf,Zao,Zy,Zg,e,Zau,oIs,Zcy,Zax]
theorem Zq1(e:σ 0=some t)(ht:t≠.none): qIf (Zat (ZC qIs (Zj 0) (ZaH))) (Zav (ZaH)) ZaQ σ=some (none,σ):=by
 cases t <;> first | exact absurd rfl ht | simp[qIf,Zat,ZC,Zj,e,ZaH,qIs,Zbt,ZaQ]
theorem Zq2(e:σ 0=some .none): qIf (Zat (ZC qIs (Zj 0) (ZaH))) (Zav (ZaH)) ZaQ σ=some (some .none,σ):=by
 simp[qIf,Zat,ZC,Zj,e,ZaH,qIs,Zbt,Zav]
theorem ZnZ{a b:PS}{σ1:TL}(h:a σ=some (none,σ1)): Z8 a b σ=b σ1:=by simp only[Z8,h,Option.bind_some]
theorem Zsm{a b:PS}{σ1:TL}(h:a σ=some (some t,σ1)): Z8 a b σ=some (some t,σ1):=by simp only[Z8,h,Option.bind_some]
theorem ZeS{a b:Sm}{ρ1:Lc}{H1:Hp}(h:a ρ H=some (none,ρ1,H1)): ZW a b ρ H=b ρ1 H1:=by simp only[ZW,h,Option.bind_some]
theorem ZAb{a b:Sm}{ρ1:Lc}{H1:Hp}{v:V}(h:a ρ H=some (some v,ρ1,H1)): ZW a b ρ H=some (some v,ρ1,H1):=by simp only[ZW,h,Option.bind_some]
theorem Zup{u:T}(hp:0<H.length)(r:RF H a t F)(h:Zd3 [t]=some u):
  (u=.none∧∃X,Zd2 [a] H=some (.none,H++X))∨∃w0 v1 u0 u1 X F0 F1,u=.tup [u0,u1]∧Zd2 [a] H=some (.tup [w0,v1],H++X)∧RF (H++X) w0 u0 F0∧F0.Nodup∧(∀x∈F0,H.length≤x)∧RF (H++X) v1 u1 F1:=by
 have st:=ZrM hp r
 unfold Zd3 ZT at h
 simp only[List.length_cons,List.length_nil,Nat.zero_add,if_true]at h
 obtain⟨r1,h,h0⟩:=Zz1.mp h
 unfold Zkc at h
 by_cases hn:t=.none
 ·subst hn
  rw[Zsm (Zq2 rfl)]at h
  cases h
  cases h0
  cases r
  exact .inl ⟨rfl,[],by simp[Zd2,ZJ,Zkb,ZW,sIf,Zao,Zy,Zg,Zau,oIs,Zcy,Zag]⟩
 ·rw[ZnZ (Zq1 (σ:=fun i=>[t][i]?) rfl hn)]at h
  have ev:∀b:Sm,ZW (sIf (Zao (Zy oIs (Zg 0) (Zau))) (Zag (Zau)) Zax) b (fun i=>[a][i]?) H=b (fun i=>[a][i]?) H:=fun b=>ZeS (Zq0 rfl r hn)
  obtain⟨r2,h1',h⟩:=Zz0.mp h
  obtain⟨u0,h1,e1⟩:=Zz1.mp h1'
  subst e1
  have x1:E [] [] true (ZH Zfl (Zh (Zy Z3 (Zg 0) (Zz 0)) ZD)) (ZV ZhQ (Zl (ZC Z5 (Zj 0) (ZE 0)) ZG)):=Zar Zwh (Zb (Zo Zn (Za 0) (Zc _)) Ze)
  obtain⟨w0,X,F0,a1,a2,a3,a4⟩:=x1 _ _ _ _ _ _ st h1
  have new:∀x∈F0,H.length≤x:=fun x m=>(a3 x m).nil
  have e2:Zaa 1 (ZH Zfl (Zh (Zy Z3 (Zg 0) (Zz 0)) ZD)) (fun i=>[a][i]?) H=some (none,upd (fun i=>[a][i]?) 1 w0,H++X):=by simp only[Zaa,a1,Option.map_some]
  simp only at h
  have ev2:∀b:Sm,ZW (Zaa 1 (ZH Zfl (Zh (Zy Z3 (Zg 0) (Zz 0)) ZD))) b (fun i=>[a][i]?) H=b (upd (fun i=>[a][i]?) 1 w0) (H++X):=fun b=>ZeS e2
  have fin:∀o,ZW (sIf (Zao (Zy oIs (Zg 1) (Zau))) (Zag (Zau)) Zax) (Zag (ZbX (Zh (Zg 1) (Zh (Zy Z3 (Zg 0) (Zz 1)) ZD)))) (upd (fun i=>[a][i]?) 1 w0) (H++X)=some o→Zd2 [a] H=some (o.1.getD .none,o.2.2):=fun o ho=>by
   unfold Zd2 ZJ Zkb
   simp only[List.length_cons,List.length_nil,Nat.zero_add,if_true]
   rw[ev,ev2,ho]
   rfl
  by_cases hu:u0=.none
  ·subst hu
   cases a2
   obtain⟨r3,h2,h⟩:=Zz0.mp h
   have:r3=(some .none,ZR (fun i=>[t][i]?) 1 .none):=by
    have:=h2
    simp[qIf,Zat,ZC,Zj,ZR,ZaH,qIs,Zbt,Zav]at this
    exact this.symm
   subst this
   cases h
   cases h0
   refine .inl ⟨rfl,X,fin (some .none,upd (fun i=>[a][i]?) 1 .none,H++X) ?_⟩
   exact ZAb (by simp[sIf,Zao,Zy,Zg,upd,Zau,oIs,Zcy,Zag])
  ·have e3:sIf (Zao (Zy oIs (Zg 1) (Zau))) (Zag (Zau)) Zax (upd (fun i=>[a][i]?) 1 w0) (H++X)=some (none,upd (fun i=>[a][i]?) 1 w0,H++X):=by
    cases a2 <;> first | exact(hu rfl).elim | simp[sIf,Zao,Zy,Zg,upd,Zau,oIs,Zcy,Zax]
   have e4:qIf (Zat (ZC qIs (Zj 1) (ZaH))) (Zav (ZaH)) ZaQ (ZR (fun i=>[t][i]?) 1 u0)=some (none,ZR (fun i=>[t][i]?) 1 u0):=by
    cases u0 <;> first | exact(hu rfl).elim | simp[qIf,Zat,ZC,Zj,ZR,ZaH,qIs,Zbt,ZaQ]
   rw[ZnZ e4]at h
   obtain⟨u',h5,h6⟩:=Zz1.mp h
   subst h6
   obtain⟨us,h7,h8⟩:=Zz1.mp h5
   subst h8
   obtain⟨q0,g1,h9⟩:=Zz0.mp h7
   obtain⟨qs,g2,h10⟩:=Zz0.mp h9
   cases h10
   obtain⟨q1,g3,g6⟩:=Zz0.mp g2
   obtain⟨qs',g4,g7⟩:=Zz0.mp g6
   cases g7
   cases g4
   have eq0:q0=u0:=by
    have:ZR (fun i=>[t][i]?) 1 u0 1=some q0:=g1
    simp[ZR]at this
    exact this.symm
   subst eq0
   have g5:Z5 t (.int 1)=some q1:=by
    have:=g3
    simpa [ZC,Zj,ZR,ZE]using this
   obtain⟨v1,F1,b1,b2,b3⟩:=Zn _ _ _ _ _ _ _ _ (r.ext X) (RF.int (H:=H++X) 1) g5
   cases h0
   refine .inr ⟨w0,v1,q0,q1,X,F0,F1,rfl,fin (some (.tup [w0,v1]),upd (fun i=>[a][i]?) 1 w0,H++X) ?_,a2,a4 rfl,new,b2⟩
   rw[ZeS e3]
   simp[Zag,ZbX,Zh,Zg,upd,Zy,Zz,b1,ZD,ZaO]
theorem ZpO{put:T→TL→Option TL}{f:PE}{σ:TL}: ∀{ts us:List T},ZcE put Za6 f σ ts=some us→T.flats us=true→ZcE put Za6 (ZcQ f) σ ts=some us
 | [],_,h,_=>h
 | t::ts,us,h,hf=>by
  obtain⟨σ1,h1,h⟩:=Zz0.mp h
  simp only[Za6,Option.bind_some,if_true]at h
  obtain⟨x,h2,h⟩:=Zz0.mp h
  obtain⟨xs,h3,h⟩:=Zz1.mp h
  subst h
  simp only[T.flats,Bool.and_eq_true]at hf
  simp only[ZcE,h1,Option.bind_some,Za6,if_true,ZcQ,h2,hf.1,ZpO h3 hf.2,Option.map_some]
theorem Zpn{u:T}(hp:0<H.length)(r:RF H a t F)(h:Zdt [t]=some u)(ok:Zh5 u=true):
  (u=.none∧∃X,ZdO [a] H=some (.none,H++X))∨∃w0 w1 u0 u1 X F1,u=.tup [u0,u1]∧Z3 a (.int 0) H=some (w0,H)∧Z5 t (.int 0)=some u0∧ZdO [a] H=some (.tup [w0,w1],H++X)∧RF (H++X) w1 u1 F1∧F1.Nodup∧(∀x∈F1,H.length≤x):=by
 have st:=ZrM hp r
 have hfull:=h
 unfold Zdt ZT at h
 simp only[List.length_cons,List.length_nil,Nat.zero_add,if_true]at h
 obtain⟨r1,h,h0⟩:=Zz1.mp h
 unfold Zgn at h
 by_cases hn:t=.none
 ·subst hn
  rw[Zsm (Zq2 rfl)]at h
  cases h
  cases h0
  cases r
  exact .inl ⟨rfl,[],by simp[ZdO,ZJ,Zgm,ZW,sIf,Zao,Zy,Zg,Zau,oIs,Zcy,Zag]⟩
 ·rw[ZnZ (Zq1 (σ:=fun i=>[t][i]?) rfl hn)]at h
  have ev:∀b:Sm,ZW (sIf (Zao (Zy oIs (Zg 0) (Zau))) (Zag (Zau)) Zax) b (fun i=>[a][i]?) H=b (fun i=>[a][i]?) H:=fun b=>ZeS (Zq0 rfl r hn)
  obtain⟨r2,h1',h⟩:=Zz0.mp h
  obtain⟨t1,h1,e1⟩:=Zz1.mp h1'
  subst e1
  have x1:E [] ([0]++[]) false (ZH Zgk (Zh (Zy Z3 (Zg 0) (Zz 1)) ZD)) (ZV Zgl (Zl (ZC Z5 (Zj 0) (ZE 1)) ZG)):=Zw ZkX (Zb (Zo Zn (Za 0) (Zc _)) Ze)
  obtain⟨v1,X1,Fr,a1,a2,a3,_⟩:=x1 _ _ _ _ _ _ st h1
  have st1:=(st.ext X1).put (j:=1) (by simp) a2 (fun x m=>st.from_src (a3 x m)) (fun i hi=>(nomatch hi))
  have ev1:∀b:Sm,ZW (Zaa 1 (ZH Zgk (Zh (Zy Z3 (Zg 0) (Zz 1)) ZD))) b (fun i=>[a][i]?) H=b (upd (fun i=>[a][i]?) 1 v1) (H++X1):=fun b=>ZeS (by simp only[Zaa,a1,Option.map_some])
  simp only at h
  obtain⟨r3,h2',h⟩:=Zz0.mp h
  obtain⟨t2,h2,e2⟩:=Zz1.mp h2'
  subst e2
  simp only at h
  generalize hσ:ZR (fun i=>[t][i]?) 1 t1=σ1 at *
  generalize hρ:upd (fun i=>[a][i]?) 1 v1=ρ1 at *
  have hρ0:ρ1 0=some a:=by rw[←hρ];simp[upd]
  have hσ0:σ1 0=some t:=by rw[←hσ];simp[ZR]
  have x2:∀ts,T.flats ts=true→Zbb (Zbu (Zl (ZE 1) (Zl (ZV Zbc (Zl (Zj 1) ZG)) ZG))) (ZaT 100) Za6 (ZV Zee (Zl (ZC Z5 (Zj 0) (ZE 0)) (Zl (Zj 1) (Zl (Zj 100) ZG)))) σ1=some (.lst ts)→∃w X G,Zbw (ZbI (Zh (Zz 1) (Zh (ZH ZbL (Zh (Zg 1) ZD)) ZD))) (put1 100) Zbz (ZH Zgd (Zh (Zy Z3 (Zg 0) (Zz 0)) (Zh (Zg 1) (Zh (Zg 100) ZD)))) ρ1 (H++X1)=some (w,H++X1++X)∧RF (H++X1++X) w (.lst ts) G∧G.Nodup∧∀x∈G,(H++X1).length≤x:=fun ts hf he=>by
   have y:E [] [] true (Zbw (ZbI (Zh (Zz 1) (Zh (ZH ZbL (Zh (Zg 1) ZD)) ZD))) (put1 100) Zbz (ZH Zgd (Zh (Zy Z3 (Zg 0) (Zz 0)) (Zh (Zg 1) (Zh (Zg 100) ZD))))) (Zbb (Zbu (Zl (ZE 1) (Zl (ZV Zbc (Zl (Zj 1) ZG)) ZG))) (ZaT 100) Za6 (ZcQ (ZV Zee (Zl (ZC Z5 (Zj 0) (ZE 0)) (Zl (Zj 1) (Zl (Zj 100) ZG)))))):=Zdf (Gs.range (Zb (Zc _) (Zb (Zai Zay (Zb (Za 1) Ze)) Ze))) PutOk.one (by decide) Zaq (E.flat (Zw Zok (Zb (Zo Zn (Za 0) (Zc _)) (Zb (Za 1) (Zb (Za 100) Ze)))))
   have he2:Zbb (Zbu (Zl (ZE 1) (Zl (ZV Zbc (Zl (Zj 1) ZG)) ZG))) (ZaT 100) Za6 (ZcQ (ZV Zee (Zl (ZC Z5 (Zj 0) (ZE 0)) (Zl (Zj 1) (Zl (Zj 100) ZG))))) σ1=some (.lst ts):=by
    obtain⟨zs,g1,g2⟩:=Zz0.mp he
    split at g2
    ·rename_i hl
     obtain⟨us,g3,g4⟩:=Zz1.mp g2
     cases g4
     simp only[Zbb,g1,Option.bind_some]
     rw[if_pos hl,ZpO g3 hf]
     rfl
    ·cases g2
   obtain⟨w,X,G,b1,b2,b3,b4⟩:=y _ _ _ _ _ _ st1 he2
   exact⟨w,X,G,b1,b2,b4 rfl,fun x m=>(b3 x m).nil⟩
  obtain⟨ts,rfl⟩:∃ts,t2=.lst ts:=by
   obtain⟨zs,g1,g2⟩:=Zz0.mp h2
   split at g2
   ·obtain⟨us,g3,g4⟩:=Zz1.mp g2
    exact⟨us,g4.symm⟩
   ·cases g2
  by_cases hu:u=.none
  ·subst hu
   obtain⟨v,X,G,c1,c2,_⟩:=Ztd H [a] [t] .none F hp (RFs.one r) hfull
   cases c2
   exact .inl ⟨rfl,X,c1⟩
  ·obtain⟨r4,h3,h⟩:=Zz0.mp h
   obtain⟨b,h4,h5⟩:=Zz0.mp h3
   cases b with
   | true=>
    simp only[if_true]at h5
    cases h5
    cases h
    cases h0
    exact absurd rfl hu
   | false=>
    cases h5
    simp only at h
    obtain⟨u',h6,h7⟩:=Zz1.mp h
    subst h7
    obtain⟨us,h8,h9⟩:=Zz1.mp h6
    subst h9
    obtain⟨q0,g1,h10⟩:=Zz0.mp h8
    obtain⟨qs,g2,h11⟩:=Zz0.mp h10
    cases h11
    obtain⟨q1,g3,g6⟩:=Zz0.mp g2
    obtain⟨qs',g4,g7⟩:=Zz0.mp g6
    cases g7
    cases g4
    have eq1:q1=.lst ts:=by
     have:ZR σ1 2 (.lst ts) 2=some q1:=g3
     simp[ZR]at this
     exact this.symm
    subst eq1
    have g5:Z5 t (.int 0)=some q0:=by
     have:=g1
     simpa [ZC,Zj,ZR,ZE,hσ0]using this
    cases h0
    obtain⟨w,X,G,b1,b2,b3,b4⟩:=x2 ts ok h2
    obtain⟨w0,F0,i1,i2,i3⟩:=Zn _ _ _ _ _ _ _ _ r (RF.int (H:=H) 0) g5
    have st2:=(st1.ext X).put (j:=2) (by simp) b2 (fun x m=>.inl (by have:=b4 x m;simp at this;show H.length≤x;omega)) (fun i hi=>(nomatch hi))
    have bt:Bt [] (Zao (Zy oIn (Zau) (Zg 2))) (Zat (ZC qIn (ZaH) (Zj 2))):=ZA (Zu ZfT Z4 (Za 2))
    obtain⟨Y,k1⟩:=bt _ _ _ _ _ _ st2 h4
    refine .inr ⟨w0,w,q0,.lst ts,X1++X++Y,G,rfl,i1,g5,?_,by rw[←List.append_assoc,←List.append_assoc];exact b2.ext Y,b3,fun x m=>by have:=b4 x m;simp at this;omega⟩
    unfold ZdO ZJ Zgm
    simp only[List.length_cons,List.length_nil,Nat.zero_add,if_true]
    rw[ev,ev1,ZeS (ρ1:=upd ρ1 2 w) (H1:=H++X1++X) (by simp only[Zaa,b1,Option.map_some]),ZeS (ρ1:=upd ρ1 2 w) (H1:=H++X1++X++Y) (by simp only[sIf,k1,Option.bind_some];rfl)]
    have hidx:=(ZlW i1 (X1++X++Y)).2
    have hr:(upd ρ1 2 w) 0=some a:=by simp[upd,hρ0]
    have h2w:(upd ρ1 2 w) 2=some w:=by simp[upd]
    simp only[←List.append_assoc]at hidx ⊢
    generalize H++X1++X++Y=K at *
    have e5:ZbX (Zh (Zy Z3 (Zg 0) (Zz 0)) (Zh (Zg 2) ZD)) (upd ρ1 2 w) K=some (.tup [w0,w],K):=by
     simp only[ZbX,Zh,Zy,Zg,hr,h2w,Zz,ZD,Option.map_some,Option.bind_some,hidx]
     rw[if_pos (by rw[ZaO];simp)]
    simp only[Zag,e5,Option.map_some]
    rfl
theorem ZrN: SimF true Zkd Zif:=fun H vs ts t F1 hp r h=>by
 obtain⟨t',h1,h2⟩:=Zz0.mp h
 by_cases ok:Zh5 t'=true
 ·rw[if_pos ok]at h2
  cases h2
  unfold ZT at h1
  split at h1
  ·rename_i hl
   obtain⟨t0,rfl⟩:∃t0,ts=[t0]:=List.length_eq_one_iff.mp hl
   obtain⟨a,rfl,r0⟩:=r.one_inv
   obtain⟨r1,h3,h4⟩:=Zz1.mp h1
   obtain⟨u,h5,h6⟩:=Zz1.mp h3
   subst h6
   cases h4
   obtain⟨us,h7,h8⟩:=Zz0.mp h5
   obtain⟨q0,g1,h9⟩:=Zz0.mp h7
   obtain⟨qs,g2,h10⟩:=Zz0.mp h9
   cases h10
   cases g2
   have g3:Zd3 [t0]=some q0:=by
    have:=g1
    simpa [ZV,Zl,Zj,ZG]using this
   have g4:Zdt [q0]=some u:=h8
   have run:∀v1 X1 v2 X2,Zd2 [a] H=some (v1,H++X1)→ZdO [v1] (H++X1)=some (v2,H++X1++X2)→Zkd [a] H=some (v2,H++(X1++X2)):=fun v1 X1 v2 X2 e1 e2=>by
    simp[Zkd,ZJ,Znm,Zag,ZH,Zh,Zg,ZD,e1,e2]
   rcases Zup hp r0 g3 with⟨rfl,X,e1⟩ | ⟨w0,v1,u0,u1,X,F0,F2,rfl,e1,a1,a2,a3,a4⟩
   ·have hp2:0<(H++X).length:=by rw[List.length_append];omega
    rcases Zpn hp2 (.none (H:=H++X)) g4 ok with⟨rfl,Y,e2⟩ | ⟨_,_,_,_,_,_,_,e2,_⟩
    ·exact⟨.none,X++Y,[],run _ _ _ _ e1 e2,.none,by simp,by simp⟩
    ·cases e2
   ·have hp2:0<(H++X).length:=by rw[List.length_append];omega
    rcases Zpn hp2 (.tup (.cons a1 (.one a4))) g4 ok with⟨rfl,Y,e2⟩ | ⟨x0,w1,y0,y1,Y,F1',rfl,e3,e4,e2,b1,b2,b3⟩
    ·exact⟨.none,X++Y,[],run _ _ _ _ e1 e2,.none,by simp,by simp⟩
    ·have ex:x0=w0:=by
      have:Z3 (.tup [w0,v1]) (.int 0) (H++X)=some (w0,H++X):=by simp[Z3,seqIndex?]
      rw[this]at e3
      cases e3
      rfl
     have ey:y0=u0:=by
      have:Z5 (.tup [u0,u1]) (.int 0)=some u0:=by simp[Z5,seqIndex?]
      rw[this]at e4
      cases e4
      rfl
     subst ex ey
     have nd:(F0++F1').Nodup:=by
      rw[List.nodup_append]
      refine⟨a2,b2,fun x hx y hy e=>?_⟩
      have:=a1.lt x hx
      have:=b3 y hy
      omega
     have nw:∀x∈F0++F1',H.length≤x:=fun x m=>by
      rcases Zz8.mp m with m | m
      ·exact a3 x m
      ·have:=b3 x m;rw[List.length_append]at this;omega
     exact⟨.tup [x0,w1],X++Y,F0++F1',run _ _ _ _ e1 e2,by rw[←List.append_assoc];exact .tup (.cons (a1.ext Y) (.one b1)),fun x m=>.inl (nw x m),fun _=>⟨nd,nw⟩⟩
  ·cases h1
 ·rw[if_neg ok]at h2
  cases h2
def Zf4: XS [] [] [] false:=⟨_,_,(Zr (S.ife (ZA (Zu ZbG (Za 0) (Z4))) (ZF (Zw ZtA (Zb (Za 1) (Zb (Za 0) Ze)))) ZQ) (Zr (S.ife (ZA (Zu Zaf (Zo Zn (Za 1) (Zc 0)) (Zc 0))) (ZF (Zo Zn (Za 1) (Zc 1))) ZQ) (ZF (Z4))))⟩
def ZkL:=ZJ 2 (XS.g Zf4)
def ZiG:=ZT 2 (XS.q Zf4)
theorem ZsD: SimF false ZkL ZiG:=ZY (XS.h Zf4)
def ZkY: Sm:=ZW (Zaa 3 (Zcz ZD)) (ZW (Zbh (Zku (Zg 0) (Zg 2)) (Zdq 4 5) (ZW (Zaa 6 (ZH ZkL (Zh (Zg 4) (Zh (ZH Zlk (Zh (Zg 1) (Zh (ZH Zk8 (Zh (Zg 5) (Zh (eUn Zix (Zz 1)) ZD))) ZD))) ZD)))) (ZW (sIf (ZfP (Zao (Zy oIs (Zg 6) (Zau))) (ZfP (Zao (Zy Zm8 (Zg 4) (Zau))) Zbz)) (Zag (Zau)) Zax) (ZbM (Zde (Zg 3) (Zg 6)))))) (Zag (Zg 3)))
def Zou:=ZJ 3 ZkY
def ZkZ: PS:=(Z8 (ZaA 3 (ZdE ZG)) (Z8 (Zcu (ZkA (Zj 0) (Zj 2)) (ZeQ 4 5) (Z8 (ZaA 6 (ZV ZiG (Zl (Zj 4) (Zl (ZV ZiT (Zl (Zj 1) (Zl (ZV ZiN (Zl (Zj 5) (Zl (pUn ZiC (ZE 1)) ZG))) ZG))) ZG)))) (Z8 (qIf (ZfR (Zat (ZC qIs (Zj 6) (ZaH))) (ZfR (Zat (ZC ZfA (Zj 4) (ZaH))) Za6)) (Zav (ZaH)) ZaQ) (ZfS 3 [] Zbm (ZcQ (Zj 6)))))) (Zav (Zj 3))))
def Zk0:=ZT 3 ZkZ
theorem Zte: SimF false Zou Zk0:=ZY (show S [] [3] [] false ZkY ZkZ from(Zr (Zb9 (O':=[3]) (E.list Ze)) (Zr (Zbn (Gs.zip (Za 0) (Za 2)) PutOk.two (by decide) (by decide) (Zr (ZU (O':=[3]) (Zw ZsD (Zb (Za 4) (Zb (Zw Zll (Zb (Za 1) (Zb (Zw Zk9 (Zb (Za 5) (Zb (ZbU ZbV (Zc _)) Ze))) Ze))) Ze)))) (Zr (S.ife (Za3 (ZA (Zu ZbB (Za 6) (Z4))) (Za3 (ZA (Zu ZbG (Za 4) (Z4))) Zaq)) (ZF (Z4)) ZQ) (ZnF (O':=[3]) (by decide) Zca (ZbA (O':=[]) (E.flat (Za 6))) (by decide) (by decide))))) (ZF (Za 3)))))
def Zff: XS [] [] [] false:=⟨_,_,(Zr (S.ife (ZA (Zu ZbB (Za 0) (Z4))) (ZF (Z4)) ZQ) (Zr (ZU (i:=1) (O':=[]) (Zw ZkX (Zb (Zo Zn (Za 0) (Zc 1)) Ze))) (Zr (ZU (i:=2) (O':=[]) (ZbD (Gs.zip (Zo Zn (Za 0) (Zc 0)) (Za 1)) (PutOk.two (i:=100) (j:=101)) (by decide) Zaq (Zw Zte (Zb (Za 100) (Zb (Za 101) (Zb (Za 1) Ze)))))) (Zr (S.ife (ZA (Zu ZfT (Z4) (Za 2))) (ZF (Z4)) ZQ) (ZF (E.tup (Zb (Za 2) (Zb (Zo Zn (Za 0) (Zc 1)) Ze))))))))⟩
def ZpP:=ZJ 1 (XS.g Zff)
def Zhy:=ZT 1 (XS.q Zff)
theorem Zvh: SimF false ZpP Zhy:=ZY (XS.h Zff)
def Zh6: XS [] [] [] true:=⟨_,_,(Zad (Zar ZrN (Zb (Zw Zvh (Zb (Zw ZrN (Zb (Za 0) Ze)) Ze)) Ze)))⟩
def ZjL:=ZJ 1 (XS.g Zh6)
def Zbf:=ZT 1 (XS.q Zh6)
theorem ZeD: SimF true ZjL Zbf:=ZY (XS.h Zh6)
def ZgP: XS [] [] [] false:=⟨_,_,(Zr (S.ife (ZaP (Zcm (ZA (ZdL (K:="tuple") (Za 0)))) (ZaP (ZA (Zu Zct (Zai Zay (Zb (Za 0) Ze)) (Zc 2))) (ZaP (Zcm (ZA (Zw Zuo (Zb (Zo Zn (Za 0) (Zc 0)) (Zb (ZM ZZ (Za 1) (Zc 1)) Ze))))) Zci))) (ZF (E.bool false)) ZQ) (Zr (S.ife (ZaP (Zcm (ZA (ZdL (K:="list") (Zo Zn (Za 0) (Zc 1))))) (ZaP (ZA (Zu Zct (Zai Zay (Zb (Zo Zn (Za 0) (Zc 1)) Ze)) (Za 1))) Zci)) (ZF (E.bool false)) ZQ) (Zr (Zbn (Gs.seq (Zo Zn (Za 0) (Zc 1))) (PutOk.one (j:=2)) (by decide) (by decide) (Zr (S.ife (ZaP (Zcm (ZA (ZdL (K:="tuple") (Za 2)))) (ZaP (ZA (Zu Zct (Zai Zay (Zb (Za 2) Ze)) (Zc 2))) Zci)) (ZF (E.bool false)) ZQ) (Zr (S.ife (ZaP (Zcm (ZA (Zw Zlo (Zb (Zo Zn (Za 2) (Zc 0)) Ze)))) (ZaP (Zcm (ZA (Zw Zlo (Zb (Zo Zn (Za 2) (Zc 1)) Ze)))) Zci)) (ZF (E.bool false)) ZQ) (S.ife (ZaP (ZA (Zu ZcH (Zo Zn (Za 2) (Zc 0)) (Zc 0))) (ZaP (Za3 (ZA (Zu ZdM (Zo Zn (Za 2) (Zc 0)) (Zc 0))) (Za3 (Zcm (Zwa ZnV ZcH (Zc 0) (Zo Zn (Za 2) (Zc 1)) (Zo Zn (Za 2) (Zc 0)))) Zaq)) Zci)) (ZF (E.bool false)) ZQ)))) (ZF (E.bool true)))))⟩
def ZiV:=ZJ 2 (XS.g ZgP)
def ZiW:=ZT 2 (XS.q ZgP)
theorem ZtU: SimF false ZiV ZiW:=ZY (XS.h ZgP)
def ZmW(F:List V→Hp→Option (V×Hp)): Sm:=ZW (sIf (Zao (eIs "list" (Zg 0))) (Zag (Zbw (ZdJ (Zg 0)) (put1 100) Zbz (ZH F (Zh (Zg 100) ZD)))) Zax) (ZW (sIf (Zao (eIs "tuple" (Zg 0))) (Zag (ZH Zfp (Zh (Zbw (ZdJ (Zg 0)) (put1 102) Zbz (ZH F (Zh (Zg 102) ZD))) ZD))) Zax) (Zag (Zg 0)))
def Zfm: Nat→List V→Hp→Option (V×Hp)
 | 0=>fun _ _=>none
 | n+1=>ZJ 1 (ZmW (Zfm n))
def Zq3: List V→Hp→Option (V×Hp):=Zfm 9
def Zfr(F:List T→Option T): PS:=(Z8 (qIf (Zat (pIs "list" (Zj 0))) (Zav (Zbb (Zc4 (Zj 0)) (ZaT 100) Za6 (ZV F (Zl (Zj 100) ZG)))) ZaQ) (Z8 (qIf (Zat (pIs "tuple" (Zj 0))) (Zav (ZV ZjG (Zl (Zbb (Zc4 (Zj 0)) (ZaT 102) Za6 (ZV F (Zl (Zj 102) ZG))) ZG))) ZaQ) (Zav (ZcQ (Zj 0)))))
def Zet: Nat→List T→Option T
 | 0=>fun _=>none
 | n+1=>ZT 1 (Zfr (Zet n))
def ZjM: List T→Option T:=Zet 9
theorem Zmq: ∀n:Nat,SimF true (Zfm n) (Zet n)
 | 0=>Zvc
 | n+1=>ZY (show S [] [] [] true (ZmW (Zfm n)) (Zfr (Zet n))from(Zr (S.ife (ZA (ZdL (Za 0))) (Zad (Zdf (Gs.seq (Za 0)) PutOk.one (by decide) Zaq (Zar (Zmq n) (Zb (Za 100) Ze)))) ZQ) (Zr (S.ife (ZA (ZdL (Za 0))) (Zad (Zxy Zwb (Zer (Zdf (Gs.seq (Za 0)) PutOk.one (by decide) Zaq (Zar (Zmq n) (Zb (Za 102) Ze))) Ze (by decide) (by decide)))) ZQ) (Zad (E.flat (Za 0))))))
theorem ZjN: SimF true Zq3 ZjM:=Zmq 9
def Zhc: XS [] [] [] false:=⟨_,_,(Zr (S.ife (ZA (Zu ZbB (Za 0) (Z4))) (ZF (E.bool false)) ZQ) (Zr (ZU (i:=2) (O':=[]) (ZM ZZ (E.list (Zb (Zc 0) Ze)) (Za 1))) (Zr (Zbn (Gs.range (Zb (Zai Zay (Zb (Za 2) Ze)) Ze)) (PutOk.one (j:=3)) (by decide) (by decide) (Zbn (Gs.range (Zb (Zai Zay (Zb (Za 2) Ze)) Ze)) (PutOk.one (j:=4)) (by decide) (by decide) (S.ife (Za3 (ZA (Zu ZbG (Zo Zn (Zo Zn (Zo Zn (Za 0) (Zc 0)) (Za 3)) (Za 4)) (Z4))) (Za3 (ZA (Zu ZdM (Zo Zn (Za 2) (Za 3)) (ZM ZZ (Zo Zn (Za 2) (Za 4)) (Zo Zn (Zo Zn (Zo Zn (Za 0) (Zc 0)) (Za 3)) (Za 4))))) Zaq)) (ZF (E.bool false)) ZQ))) (Zr (Zbn (Gs.range (Zb (Zai Zay (Zb (Za 1) Ze)) Ze)) (PutOk.one (j:=5)) (by decide) (by decide) (Zr (ZU (i:=6) (O':=[]) (Zu ZaX (Zo Zn (Za 1) (Za 5)) (Zo Zn (Zo Zn (Zo Zn (Za 0) (Zc 1)) (Za 5)) (Zc 1)))) (Zr (S.ife (Za3 (ZA (Zu Zaf (Zo Zn (Zo Zn (Zo Zn (Za 0) (Zc 1)) (Za 5)) (Zc 0)) (Zc 0))) (Za3 (ZA (Zu Zct (Za 6) (Zc 0))) Zaq)) (ZF (E.bool false)) ZQ) (S.ife (Za3 (ZA (Zu ZdM (Zo Zn (Zo Zn (Zo Zn (Za 0) (Zc 1)) (Za 5)) (Zc 0)) (Zc 0))) (Za3 (ZA (Zu Zct (Zu ZaD (Za 6) (Zo Zn (Zo Zn (Zo Zn (Za 0) (Zc 1)) (Za 5)) (Zc 0))) (Zc 0))) Zaq)) (ZF (E.bool false)) ZQ)))) (ZF (E.bool true))))))⟩
def Zi5:=ZJ 2 (XS.g Zhc)
def Zi6:=ZT 2 (XS.q Zhc)
theorem Zuq: SimF false Zi5 Zi6:=ZY (XS.h Zhc)
def Zgo: XS [] [] [] true:=⟨_,_,(Zad (Zdf (Gs.range (Zb (ZM ZZ (Za 1) (Zc 1)) Ze)) (PutOk.one (j:=100)) (by decide) Zaq (E.ife (ZA (Zu Zaf (Za 0) (Za 100))) (Zc 0) (Z4))))⟩
def Zov:=ZJ 2 (XS.g Zgo)
def Zgp:=ZT 2 (XS.q Zgo)
theorem Zow: SimF true Zov Zgp:=ZY (XS.h Zgo)
def Zkf: Sm:=Zag (Zy Zas (Zy Zas (Zcl (Zg 0) ZdD (ZcB (Zy ZeX (Zg 1) (Zz 1)))) (Zcz (Zh (Zg 2) ZD))) (Zcl (Zg 0) (ZcB (Zg 1)) ZdD))
def Zig:=ZJ 3 Zkf
def Znn: PS:=(Zav (pFl (ZC Zaj (ZC Zaj (Zb8 (Zj 0) Zdk (Zb7 (ZC Zdr (Zj 1) (ZE 1)))) (ZdE (Zl (Zj 2) ZG))) (Zb8 (Zj 0) (Zb7 (Zj 1)) Zdk))))
def Zkg:=ZT 3 Znn
theorem ZrO: SimF true Zig Zkg:=ZY (show S [] [] [] true Zkf Znn from(Zad (Zj0 ZZ (ZM ZZ (ZdX (Za 0) Pe.none (Pe.some (Zu ZaX (Za 1) (Zc _)))) (E.list (Zb (Za 2) Ze))) (ZdX (Za 0) (Pe.some (Za 1)) Pe.none))))
def Zhd: XS [] [2] [] true:=⟨_,_,(Zr (Zb9 (i:=2) (O':=[2]) (Zdf (Gs.seq (Za 0)) (PutOk.one (j:=100)) (by decide) Zaq (Zar ZrO (Zb (Za 100) (Zb (ZM ZZ (Za 1) (Zc 1)) (Zb (Z4) Ze)))))) (Zr (S.put (x:=2) (O':=[2]) (by decide) (ZbA (O':=[]) (Zar Zow (Zb (Za 1) (Zb (Zu ZaX (Zai Zay (Zb (Za 0) Ze)) (Zc 1)) Ze)))) Zca (Za 1) (by decide) (by decide)) (Zad (E.own (i:=2) (by decide)))))⟩
def Zpo:=ZJ 2 (XS.g Zhd)
def ZlI:=ZT 2 (XS.q Zhd)
theorem Zur: SimF true Zpo ZlI:=ZY (XS.h Zhd)
def Zi7: Sm:=ZW (ZcG (Zy Z3 (Zg 2) (Zz 1)) (Zy Z3 (Zg 0) (Zg 1)) (Zz 0)) (ZcG (ZH Zlp (Zh (Zy Z3 (Zg 2) (Zz 0)) (Zh (eUn Zix (Zz 1)) ZD))) (Zy Z3 (Zg 0) (Zz 0)) (Zg 1))
def Zpp:=ZJ 3 Zi7
def ZlJ: PS:=(Z8 (Zb0 0 [] (ZcQ (ZC Z5 (Zj 2) (ZE 1))) (ZfD Zbm (Zj 1)) (ZE 0)) (Zb0 0 [] (ZcQ (ZV ZiU (Zl (ZC Z5 (Zj 2) (ZE 0)) (Zl (pUn ZiC (ZE 1)) ZG)))) (ZfD Zbm (ZE 0)) (Zj 1)))
def ZlK:=Zeb 3 ZlJ
theorem Zus: SimM Zpp ZlK:=ZjI (show S [0] [0] [0] false Zi7 ZlJ from(Zr (S.put (O':=[0]) (by decide) (ZbA (O':=[]) (E.flat (Zo Zn (Za 2) (Zc _)))) (Znc Zca (Za 1)) (Zc _) (by decide) (by decide)) (S.put (O':=[0]) (by decide) (ZbA (O':=[]) (E.flat (Zw ZgO (Zb (Zo Zn (Za 2) (Zc _)) (Zb (ZbU ZbV (Zc _)) Ze))))) (Znc Zca (Zc _)) (Za 1) (by decide) (by decide)))) (by decide) (by unfold Zi7;repeat' first | exact Keep0.next | exact Zjl | exact Keep0.ret | exact Keep0.put | apply Keep0.seq | apply Keep0.ife | exact Keep0.set (by decide))
def Zih: XS [] [4] [] true:=⟨_,_,(Zr (S.ife (ZA (Zu ZbB (Za 0) (Z4))) (Zad (Z4)) ZQ) (Zr (Zb9 (i:=4) (O':=[4]) (Zar Zur (Zb (Zo Zn (Za 0) (Zc 0)) (Zb (Za 1) Ze)))) (Zr (ZeK (x:=4) (O':=[4]) (by decide) Zus (Zb (Za 1) (Zb (Za 2) Ze)) (by decide) (by decide)) (Zad (Zar ZeD (Zb (E.tup (Zb (Za 4) (Zb (Zw ZrO (Zb (Zo Zn (Za 0) (Zc 1)) (Zb (Za 1) (Zb (Za 3) Ze)))) Ze))) Ze))))))⟩
def Zii:=ZJ 4 (XS.g Zih)
def ZdA:=ZT 4 (XS.q Zih)
theorem Zno: SimF true Zii ZdA:=ZY (XS.h Zih)
def Zhz: XS [] [3,4] [] true:=⟨_,_,(Zr (ZU (i:=2) (O':=[]) (Zai Zay (Zb (Zo Zn (Za 0) (Zc 1)) Ze))) (Zr (Zb9 (i:=3) (O':=[3]) (Zdf (Gs.seq (Zo Zn (Za 0) (Zc 0))) (PutOk.one (j:=100)) (by decide) Zaq (Zj0 ZZ (Za 100) (ZM Zba (E.list (Zb (Z4) Ze)) (Za 1))))) (Zr (Zb9 (i:=4) (O':=[3,4]) (ZbA (O':=[]) (Zdf (Gs.range (Zb (ZM ZZ (Za 2) (Zc 1)) (Zb (ZM ZZ (ZM ZZ (Za 2) (Za 1)) (Zc 1)) Ze))) (PutOk.one (j:=102)) (by decide) Zaq (Zar Zow (Zb (Za 102) (Zb (ZM ZZ (Za 2) (Za 1)) Ze)))))) (Zad (E.tup (Zer (Zy8 (E.own (i:=3) (by decide)) (E.own (i:=4) (by decide)) (by decide) (by decide)) (Zer (Zj0 ZZ (Zo Zn (Za 0) (Zc 1)) (ZM Zba (E.list (Zb (E.tup (Zb (Zc 1) (Zb (Zc 0) Ze))) Ze)) (Za 1))) Ze (by decide) (by decide)) (by decide) (by decide)))))))⟩
def Zl1:=ZJ 2 (XS.g Zhz)
def ZhA:=ZT 2 (XS.q Zhz)
theorem Zvi: SimF true Zl1 ZhA:=ZY (XS.h Zhz)
def Zi8: Sm:=ZcG (ZH Zmp (Zh (Zy Z3 (Zy Z3 (Zg 0) (Zg 1)) (Zg 2)) (Zh (Zg 3) ZD))) (Zy Z3 (Zg 0) (Zg 1)) (Zg 2)
def Zhe:=ZJ 4 Zi8
def ZlL: PS:=(Zb0 0 [] (ZcQ (ZV Zjs (Zl (ZC Z5 (ZC Z5 (Zj 0) (Zj 1)) (Zj 2)) (Zl (Zj 3) ZG)))) (ZfD Zbm (Zj 1)) (Zj 2))
def Ze9:=Zeb 4 ZlL
theorem Zi9: SimM Zhe Ze9:=ZjI (show S [0] [0] [0] false Zi8 ZlL from(S.put (O':=[0]) (by decide) (ZbA (O':=[]) (E.flat (Zw Zqi (Zb (Zo Zn (Zo Zn (Za 0) (Za 1)) (Za 2)) (Zb (Za 3) Ze))))) (Znc Zca (Za 1)) (Za 2) (by decide) (by decide))) (by decide) (by unfold Zi8;repeat' first | exact Keep0.next | exact Zjl | exact Keep0.ret | exact Keep0.put | apply Keep0.seq | apply Keep0.ife | exact Keep0.set (by decide))
def ZfW: XS [] [3] [] true:=⟨_,_,(Zr (Zb9 (i:=3) (O':=[3]) (Zar ZjN (Zb (Za 0) Ze))) (Zr (Zbn (Gs.zip (Za 1) (Za 2)) (PutOk.two (i:=4) (j:=5)) (by decide) (by decide) (Zbn (Gs.zip (Za 1) (Za 5)) (PutOk.two (i:=6) (j:=7)) (by decide) (by decide) (ZeK (x:=3) (O':=[3]) (by decide) Zi9 (Zb (Za 4) (Zb (Za 6) (Zb (Za 7) Ze))) (by decide) (by decide)))) (Zad (E.own (i:=3) (by decide)))))⟩
def Zn2:=ZJ 3 (XS.g ZfW)
def ZkF:=ZT 3 (XS.q ZfW)
theorem Zsr: SimF true Zn2 ZkF:=ZY (XS.h ZfW)
def ZhB: XS [] [3] [] true:=⟨_,_,(Zr (Zb9 (i:=3) (O':=[3]) (Zw2 ZmL (Zb (Zo Zn (Za 0) (Zc 1)) Ze))) (Zr (Zbn (Gs.zip (Za 1) (Zo Zn (Za 2) (Zc 1))) (PutOk.two (i:=4) (j:=5)) (by decide) (by decide) (S.put (x:=3) (O':=[3]) (by decide) (ZbA (O':=[]) (E.flat (Zw ZlE (Zb (Zo Zn (Za 3) (Zu ZaX (Za 4) (Zc 1))) (Zb (Za 5) Ze))))) Zca (Zu ZaX (Za 4) (Zc 1)) (by decide) (by decide))) (Zr (S.ife (ZA (Zu ZfT (Z4) (Za 3))) (Zad (Z4)) ZQ) (Zad (E.tup (Zer (Zar Zsr (Zb (Zo Zn (Za 0) (Zc 0)) (Zb (ZM ZZ (E.list (Zb (Zc 0) Ze)) (Za 1)) (Zb (Zo Zn (Za 2) (Zc 0)) Ze)))) (Zer (E.own (i:=3) (by decide)) Ze (by decide) (by decide)) (by decide) (by decide)))))))⟩
def Zl2:=ZJ 3 (XS.g ZhB)
def Zfg:=ZT 3 (XS.q ZhB)
theorem Zvj: SimF true Zl2 Zfg:=ZY (XS.h ZhB)
def Zl3: Sm:=ZW (Zaa 3 (Zy Zas (Zcz (Zh (ZH Zgx (Zh (Zg 0) (Zh (Zg 1) ZD))) ZD)) (Zy Zd9 (Zcz (Zh (Zz 0) ZD)) (Zg 2)))) (ZW (Zaa 4 (ZH Zda (Zh (Zg 0) (Zh (Zg 1) (Zh (Zz 6) ZD))))) (ZW (sIf (tOr (Zao (Zy oEq (Zg 4) (Zz 0))) (tOr (Zao (Zy oEq (Zg 2) (Zz 0))) Zd1)) (Zag (Zg 3)) Zax) (ZW (Zaa 5 (Zy Zas (Zz 1) (ZH Zda (Zh (Zg 0) (Zh (Zy Zas (Zg 1) (Zz 1)) (Zh (Zg 2) ZD)))))) (ZW (sIf (Zao (Zy oEq (Zg 4) (Zz 1))) (ZcG (Zy ZeX (ZH Zda (Zh (Zg 0) (Zh (Zy Zas (Zg 1) (Zz 2)) (Zh (Zz 13) ZD)))) (Zz 6)) (Zg 3) (Zg 5)) Zax) (ZW (sIf (tOr (Zao (Zy oEq (Zg 4) (Zz 2))) (tOr (Zao (Zy oEq (Zg 4) (Zz 3))) Zd1)) (ZW (Zaa 6 (Zy Zas (Zz 1) (ZH Zda (Zh (Zg 0) (Zh (Zy Zas (Zg 1) (Zz 2)) (Zh (Zg 2) ZD)))))) (ZW (ZcG (Zz 1) (Zg 3) (Zg 5)) (ZcG (Zy ZeX (Zy Z3 (Zg 3) (Zg 6)) (Zz 1)) (Zg 3) (Zg 6)))) Zax) (ZW (sIf (Zao (Zy oEq (Zg 4) (Zz 4))) (Zbh (ZbI (Zh (Zg 2) ZD)) (put1 7) (ZcG (Zy ZeX (ZH Zda (Zh (Zg 0) (Zh (Zy Zas (Zy Zas (Zg 1) (Zz 1)) (Zg 7)) (Zh (Zz 7) ZD)))) (Zz 3)) (Zg 3) (Zy Zas (Zg 7) (Zz 1)))) Zax) (ZW (sIf (Zao (Zy oEq (Zg 4) (Zz 5))) (Zbh (ZbI (Zh (Zg 2) ZD)) (put1 7) (ZcG (Zy ZeX (ZH Zda (Zh (Zg 0) (Zh (Zy Zas (Zy Zas (Zg 1) (Zz 1)) (Zg 7)) (Zh (Zz 2000000001) ZD)))) (Zz 1000000000)) (Zg 3) (Zy Zas (Zg 7) (Zz 1)))) Zax) (Zag (Zg 3)))))))))
def ZpQ:=ZJ 3 Zl3
def Zl4: PS:=(Z8 (ZaA 3 (pFl (ZC Zaj (ZdE (Zl (ZV Zgy (Zl (Zj 0) (Zl (Zj 1) ZG))) ZG)) (ZC Zc3 (ZdE (Zl (ZE 0) ZG)) (Zj 2))))) (Z8 (ZaA 4 (ZV ZcK (Zl (Zj 0) (Zl (Zj 1) (Zl (ZE 6) ZG))))) (Z8 (qIf (bOr (Zat (ZC qEq (Zj 4) (ZE 0))) (bOr (Zat (ZC qEq (Zj 2) (ZE 0))) Zfz)) (Zav (Zj 3)) ZaQ) (Z8 (ZaA 5 (ZC Zaj (ZE 1) (ZV ZcK (Zl (Zj 0) (Zl (ZC Zaj (Zj 1) (ZE 1)) (Zl (Zj 2) ZG)))))) (Z8 (qIf (Zat (ZC qEq (Zj 4) (ZE 1))) (Zb0 3 [] (ZC Zdr (ZV ZcK (Zl (Zj 0) (Zl (ZC Zaj (Zj 1) (ZE 2)) (Zl (ZE 13) ZG)))) (ZE 6)) Zbm (Zj 5)) ZaQ) (Z8 (qIf (bOr (Zat (ZC qEq (Zj 4) (ZE 2))) (bOr (Zat (ZC qEq (Zj 4) (ZE 3))) Zfz)) (Z8 (ZaA 6 (ZC Zaj (ZE 1) (ZV ZcK (Zl (Zj 0) (Zl (ZC Zaj (Zj 1) (ZE 2)) (Zl (Zj 2) ZG)))))) (Z8 (Zb0 3 [] (ZE 1) Zbm (Zj 5)) (Zb0 3 [] (ZC Zdr (ZC Z5 (Zj 3) (Zj 6)) (ZE 1)) Zbm (Zj 6)))) ZaQ) (Z8 (qIf (Zat (ZC qEq (Zj 4) (ZE 4))) (Zcu (Zbu (Zl (Zj 2) ZG)) (ZaT 7) (Zb0 3 [] (ZC Zdr (ZV ZcK (Zl (Zj 0) (Zl (ZC Zaj (ZC Zaj (Zj 1) (ZE 1)) (Zj 7)) (Zl (ZE 7) ZG)))) (ZE 3)) Zbm (ZC Zaj (Zj 7) (ZE 1)))) ZaQ) (Z8 (qIf (Zat (ZC qEq (Zj 4) (ZE 5))) (Zcu (Zbu (Zl (Zj 2) ZG)) (ZaT 7) (Zb0 3 [] (ZC Zdr (ZV ZcK (Zl (Zj 0) (Zl (ZC Zaj (ZC Zaj (Zj 1) (ZE 1)) (Zj 7)) (Zl (ZE 2000000001) ZG)))) (ZE 1000000000)) Zbm (ZC Zaj (Zj 7) (ZE 1)))) ZaQ) (Zav (Zj 3))))))))))
def Zl5:=ZT 3 Zl4
theorem Zl6: SimF true ZpQ Zl5:=ZY (show S [] [3] [] true Zl3 Zl4 from(Zr (Zb9 (O':=[3]) (Zj0 ZZ (E.list (Zb (Zw ZcT (Zb (Za 0) (Zb (Za 1) Ze))) Ze)) (ZM Zba (E.list (Zb (Zc _) Ze)) (Za 2)))) (Zr (ZU (O':=[3]) (Zw ZbC (Zb (Za 0) (Zb (Za 1) (Zb (Zc _) Ze))))) (Zr (S.ife (ZaP (ZA (Zu Zaf (Za 4) (Zc _))) (ZaP (ZA (Zu Zaf (Za 2) (Zc _))) Zci)) (Zad (E.own (by decide))) ZQ) (Zr (ZU (O':=[3]) (ZM ZZ (Zc _) (Zw ZbC (Zb (Za 0) (Zb (ZM ZZ (Za 1) (Zc _)) (Zb (Za 2) Ze)))))) (Zr (S.ife (ZA (Zu Zaf (Za 4) (Zc _))) (S.put (O':=[3]) (by decide) (ZbA (O':=[]) (Zu ZaX (Zw ZbC (Zb (Za 0) (Zb (ZM ZZ (Za 1) (Zc _)) (Zb (Zc _) Ze)))) (Zc _))) Zca (Za 5) (by decide) (by decide)) ZQ) (Zr (S.ife (ZaP (ZA (Zu Zaf (Za 4) (Zc _))) (ZaP (ZA (Zu Zaf (Za 4) (Zc _))) Zci)) (Zr (ZU (O':=[3]) (ZM ZZ (Zc _) (Zw ZbC (Zb (Za 0) (Zb (ZM ZZ (Za 1) (Zc _)) (Zb (Za 2) Ze)))))) (Zr (S.put (O':=[3]) (by decide) (ZbA (O':=[]) (Zc _)) Zca (Za 5) (by decide) (by decide)) (S.put (O':=[3]) (by decide) (ZbA (O':=[]) (Zu ZaX (Zo Zn (Za 3) (Za 6)) (Zc _))) Zca (Za 6) (by decide) (by decide)))) ZQ) (Zr (S.ife (ZA (Zu Zaf (Za 4) (Zc _))) (Zbn (Gs.range (Zb (Za 2) Ze)) PutOk.one (by decide) (by decide) (S.put (O':=[3]) (by decide) (ZbA (O':=[]) (Zu ZaX (Zw ZbC (Zb (Za 0) (Zb (ZM ZZ (ZM ZZ (Za 1) (Zc _)) (Za 7)) (Zb (Zc _) Ze)))) (Zc _))) Zca (ZM ZZ (Za 7) (Zc _)) (by decide) (by decide))) ZQ) (Zr (S.ife (ZA (Zu Zaf (Za 4) (Zc _))) (Zbn (Gs.range (Zb (Za 2) Ze)) PutOk.one (by decide) (by decide) (S.put (O':=[3]) (by decide) (ZbA (O':=[]) (Zu ZaX (Zw ZbC (Zb (Za 0) (Zb (ZM ZZ (ZM ZZ (Za 1) (Zc _)) (Za 7)) (Zb (Zc _) Ze)))) (Zc _))) Zca (ZM ZZ (Za 7) (Zc _)) (by decide) (by decide))) ZQ) (Zad (E.own (by decide))))))))))))
def Zf5: XS [] [] [] false:=⟨_,_,(ZF (Zu Zaf (Zh1 Zwd (Zb (ZbD (Gs.seq (Zj2 (k:=1) (Za 0))) (PutOk.one (j:=100)) (by decide) (ZA (Zu Zct (Za 100) (Zc 0))) (Za 100)) Ze)) (E.list (Zb (ZbU ZbV (Zc 1)) (Zb (Zc 1) Ze)))))⟩
def Zoa:=ZJ 1 (XS.g Zf5)
def ZkM:=ZT 1 (XS.q Zf5)
theorem ZsE: SimF false Zoa ZkM:=ZY (XS.h Zf5)
def Zge: XS [] [] [] false:=⟨_,_,(Zr (ZU (i:=1) (O':=[]) (Zo Zn (Za 0) (Zc 0))) (ZF (ZbD (Gs.range (Zb (Zc 1) (Zb (Zai Zay (Zb (Za 1) Ze)) Ze))) (PutOk.one (j:=100)) (by decide) Zaq (E.tup (Zb (Zw ZgO (Zb (Zo Zn (Zo Zn (Za 1) (Zc 0)) (Za 100)) (Zb (ZbU ZbV (Zc 1)) Ze))) (Zb (Zo Zn (Zo Zn (Za 1) (Za 100)) (Zc 0)) Ze))))))⟩
def Zol:=ZJ 1 (XS.g Zge)
def ZkR:=ZT 1 (XS.q Zge)
theorem ZsV: SimF false Zol ZkR:=ZY (XS.h Zge)
def Zhf: XS [] [] [] false:=⟨_,_,(Zr (S.ife (ZA (Zw ZsE (Zb (Za 1) Ze))) (ZF (Zw Ze7 (Zb (Zo Zn (Zo Zn (Zo Zn (Za 0) (Zc 0)) (E.index (Za 1) (Zc 1) (Zc 1))) (E.index (Za 1) (ZbU ZbV (Zc 1)) (Zc 1))) (Zb (Zo Zn (Za 1) (Zc 0)) Ze)))) ZQ) (ZF (Zo Zn (Zw Ztc (Zb (Za 1) (Zb (Zw ZsV (Zb (Za 0) Ze)) Ze))) (Zc 1))))⟩
def ZlM:=ZJ 2 (XS.g Zhf)
def Zhg:=ZT 2 (XS.q Zhf)
theorem Zhh: SimF false ZlM Zhg:=ZY (XS.h Zhf)
def ZgQ: XS [] [] [] false:=⟨_,_,(ZF (ZbD (Gs.seq (Za 0)) (PutOk.one (j:=100)) (by decide) Zaq (ZM Zba (Za 100) (Za 1))))⟩
def Zlq:=ZJ 2 (XS.g ZgQ)
def ZiX:=ZT 2 (XS.q ZgQ)
theorem Zeg: SimF false Zlq ZiX:=ZY (XS.h ZgQ)
def Zh7: XS [] [] [] false:=⟨_,_,(ZF (Zw ZgO (Zb (Zw Zhh (Zb (Za 0) (Zb (Zw Zeg (Zb (Za 1) (Zb (ZbU ZbV (Zc 1)) Ze))) Ze))) (Zb (ZbU ZbV (Zc 1)) Ze))))⟩
def ZmX:=ZJ 2 (XS.g Zh7)
def Zfs:=ZT 2 (XS.q Zh7)
theorem Zq4: SimF false ZmX Zfs:=ZY (XS.h Zh7)
def ZgR: XS [] [] [] false:=⟨_,_,(ZF (ZM ZZ (Zo Zn (Za 0) (Zc 0)) (Zai ZzO (Zb (ZbD (Gs.range (Zb (Zai Zay (Zb (Za 1) Ze)) Ze)) (PutOk.one (j:=100)) (by decide) Zaq (ZM Zba (Zo Zn (Za 0) (ZM ZZ (Za 100) (Zc 1))) (Zo Zn (Za 1) (Za 100)))) Ze))))⟩
def ZoY:=ZJ 2 (XS.g ZgR)
def ZcJ:=ZT 2 (XS.q ZgR)
theorem ZgS: SimF false ZoY ZcJ:=ZY (XS.h ZgR)
def Zhi: XS [] [] [] false:=⟨_,_,(ZF (ZbD (Gs.zip (Za 0) (Za 1)) (PutOk.two (i:=100) (j:=101)) (by decide) Zaq (ZM ZZ (Za 100) (Za 101))))⟩
def Zpq:=ZJ 2 (XS.g Zhi)
def ZlN:=ZT 2 (XS.q Zhi)
theorem Zut: SimF false Zpq ZlN:=ZY (XS.h Zhi)
def Zhj: XS [] [] [] false:=⟨_,_,(ZF (Zw Zut (Zb (Za 0) (Zb (Zw Zeg (Zb (Za 1) (Zb (ZbU ZbV (Zc 1)) Ze))) Ze))))⟩
def ZlO:=ZJ 2 (XS.g Zhj)
def Zja:=ZT 2 (XS.q Zhj)
theorem Zjb: SimF false ZlO Zja:=ZY (XS.h Zhj)
def ZgB: XS [] [] [] false:=⟨_,_,(ZF (ZbD (Gs.seq (Za 2)) (PutOk.one (j:=100)) (by decide) Zaq (Zw Zhh (Zb (Za 0) (Zb (Zw Zjb (Zb (Za 1) (Zb (Za 100) Ze))) Ze)))))⟩
def ZoG:=ZJ 3 (XS.g ZgB)
def Zlb:=ZT 3 (XS.q ZgB)
theorem ZtB: SimF false ZoG Zlb:=ZY (XS.h ZgB)
def ZhC: XS [] [] [] false:=⟨_,_,(ZF (ZbD (Gs.range (Zb (ZM ZZ (Za 1) (Zc 1)) Ze)) (PutOk.one (j:=100)) (by decide) Zaq (E.ife (Za3 (ZA (Zu ZdM (Za 0) (Zc 0))) (Za3 (ZA (Zu Zaf (Za 100) (Za 0))) Zaq)) (E.sh (Zc 1)) (E.sh (Zc 0)))))⟩
def Zfh:=ZJ 2 (XS.g ZhC)
def ZdP:=ZT 2 (XS.q ZhC)
theorem Zeo: SimF false Zfh ZdP:=ZY (XS.h ZhC)
def ZhR: XS [] [] [] true:=⟨_,_,(Zr (S.ife (ZA (Zu ZbB (Za 0) (Z4))) (Zad (Z4)) ZQ) (Zr (ZU (i:=2) (O':=[]) (ZM ZZ (E.list (Zb (Zw Zeo (Zb (Zc 0) (Zb (Zai Zay (Zb (Zo Zn (Za 0) (Zc 1)) Ze)) Ze))) Ze)) (Za 1))) (Zr (ZU (i:=3) (O':=[]) (ZbD (Gs.seq (Za 2)) (PutOk.one (j:=100)) (by decide) Zaq (Zw ZtB (Zb (Za 0) (Zb (Za 100) (Zb (Za 2) Ze)))))) (Zr (ZU (i:=4) (O':=[]) (ZbD (Gs.seq (Za 1)) (PutOk.one (j:=102)) (by decide) Zaq (Zw Ze8 (Zb (Za 102) (Zb (Zo Zn (Za 0) (Zc 1)) Ze))))) (Zad (Zar ZeD (Zb (E.tup (Zb (Za 3) (Zb (Za 4) Ze))) Ze)))))))⟩
def ZhS:=ZJ 2 (XS.g ZhR)
def ZcN:=ZT 2 (XS.q ZhR)
theorem Zmr: SimF true ZhS ZcN:=ZY (XS.h ZhR)
def ZgC: XS [] [] [] false:=⟨_,_,(ZF (Zw Ze7 (Zb (Zw Zhh (Zb (Za 0) (Zb (Zw Zjb (Zb (Za 1) (Zb (Za 2) Ze))) Ze))) (Zb (Za 3) Ze))))⟩
def ZiO:=ZJ 4 (XS.g ZgC)
def ZgD:=ZT 4 (XS.q ZgC)
theorem ZoH: SimF false ZiO ZgD:=ZY (XS.h ZgC)
def ZiI: Sm:=ZW (Zaa 4 (ZH ZbL (Zh (Zy Z3 (Zg 1) (Zz 1)) ZD))) (Zbh (ZbI (Zh (Zy Zas (Zg 4) (Zz 1)) ZD)) (put1 5) (Zbh (ZbI (Zh (Zy Zas (Zg 4) (Zz 1)) ZD)) (put1 6) (ZW (Zaa 7 (ZH ZlO (Zh (ZH Zfh (Zh (Zg 5) (Zh (Zg 4) ZD))) (Zh (ZH Zfh (Zh (Zg 6) (Zh (Zg 4) ZD))) ZD)))) (ZbM (ZH Zhe (Zh (Zg 0) (Zh (Zg 5) (Zh (Zg 6) (Zh (ZH ZiO (Zh (Zg 1) (Zh (Zg 7) (Zh (Zg 2) (Zh (Zg 3) ZD))))) ZD)))))))))
def Zox:=ZJ 4 ZiI
def Zk1: PS:=(Z8 (ZaA 4 (ZV Zbc (Zl (ZC Z5 (Zj 1) (ZE 1)) ZG))) (Zcu (Zbu (Zl (ZC Zaj (Zj 4) (ZE 1)) ZG)) (ZaT 5) (Zcu (Zbu (Zl (ZC Zaj (Zj 4) (ZE 1)) ZG)) (ZaT 6) (Z8 (ZaA 7 (ZV Zja (Zl (ZV ZdP (Zl (Zj 5) (Zl (Zj 4) ZG))) (Zl (ZV ZdP (Zl (Zj 6) (Zl (Zj 4) ZG))) ZG)))) (ZfU 0 Ze9 (Zl (Zj 5) (Zl (Zj 6) (Zl (ZV ZgD (Zl (Zj 1) (Zl (Zj 7) (Zl (Zj 2) (Zl (Zj 3) ZG))))) ZG))))))))
def Zk2:=Zeb 4 Zk1
theorem Ztf: SimM Zox Zk2:=ZjI (show S [0] [0] [0] false ZiI Zk1 from(Zr (ZU (O':=[0]) (Zai Zay (Zb (Zo Zn (Za 1) (Zc _)) Ze))) (Zbn (Gs.range (Zb (ZM ZZ (Za 4) (Zc _)) Ze)) PutOk.one (by decide) (by decide) (Zbn (Gs.range (Zb (ZM ZZ (Za 4) (Zc _)) Ze)) PutOk.one (by decide) (by decide) (Zr (ZU (O':=[0]) (Zw Zjb (Zb (Zw Zeo (Zb (Za 5) (Zb (Za 4) Ze))) (Zb (Zw Zeo (Zb (Za 6) (Zb (Za 4) Ze))) Ze)))) (ZeK (O':=[0]) (by decide) Zi9 (Zb (Za 5) (Zb (Za 6) (Zb (Zw ZoH (Zb (Za 1) (Zb (Za 7) (Zb (Za 2) (Zb (Za 3) Ze))))) Ze))) (by decide) (by decide))))))) (by decide) (by unfold ZiI;repeat' first | exact Keep0.next | exact Zjl | exact Keep0.ret | exact Keep0.put | apply Keep0.seq | apply Keep0.ife | exact Keep0.set (by decide) | apply ZpK (Zpf (by decide)))
def ZgE: XS [] [] [] false:=⟨_,_,(Zr (S.ife (ZA (Zu ZbB (Za 0) (Z4))) (ZF (Z4)) ZQ) (ZF (Zu Zcr (Za 0) (Za 1))))⟩
def ZiQ:=ZJ 2 (XS.g ZgE)
def ZgF:=ZT 2 (XS.q ZgE)
theorem ZiR: SimF false ZiQ ZgF:=ZY (XS.h ZgE)
def ZiJ: Sm:=ZW (Zaa 4 (ZH ZbL (Zh (Zy Z3 (Zg 1) (Zz 1)) ZD))) (Zbh (ZbI (Zh (Zz 1) (Zh (Zy Zas (Zg 4) (Zz 1)) ZD))) (put1 5) (ZW (Zaa 6 (Zy Z3 (Zg 2) (Zg 5))) (ZW (Zaa 7 (ZH ZiO (Zh (Zg 1) (Zh (ZH Zlq (Zh (ZH Zfh (Zh (Zg 5) (Zh (Zg 4) ZD))) (Zh (Zg 6) ZD))) (Zh (Zg 2) (Zh (Zg 3) ZD)))))) (ZW (sIf (Zao (Zy oGt (Zg 6) (Zz 0))) (ZbM (ZH Zhe (Zh (Zg 0) (Zh (Zg 5) (Zh (Zz 0) (Zh (ZH ZiQ (Zh (Zg 7) (Zh (Zg 6) ZD))) ZD)))))) Zax) (sIf (Zao (Zy oLt (Zg 6) (Zz 0))) (ZbM (ZH Zhe (Zh (Zg 0) (Zh (Zz 0) (Zh (Zg 5) (Zh (ZH ZiQ (Zh (Zg 7) (Zh (eUn Zix (Zg 6)) ZD))) ZD)))))) Zax)))))
def Zoy:=ZJ 4 ZiJ
def Zk3: PS:=(Z8 (ZaA 4 (ZV Zbc (Zl (ZC Z5 (Zj 1) (ZE 1)) ZG))) (Zcu (Zbu (Zl (ZE 1) (Zl (ZC Zaj (Zj 4) (ZE 1)) ZG))) (ZaT 5) (Z8 (ZaA 6 (ZC Z5 (Zj 2) (Zj 5))) (Z8 (ZaA 7 (ZV ZgD (Zl (Zj 1) (Zl (ZV ZiX (Zl (ZV ZdP (Zl (Zj 5) (Zl (Zj 4) ZG))) (Zl (Zj 6) ZG))) (Zl (Zj 2) (Zl (Zj 3) ZG)))))) (Z8 (qIf (Zat (ZC qGt (Zj 6) (ZE 0))) (ZfU 0 Ze9 (Zl (Zj 5) (Zl (ZE 0) (Zl (ZV ZgF (Zl (Zj 7) (Zl (Zj 6) ZG))) ZG)))) ZaQ) (qIf (Zat (ZC qLt (Zj 6) (ZE 0))) (ZfU 0 Ze9 (Zl (ZE 0) (Zl (Zj 5) (Zl (ZV ZgF (Zl (Zj 7) (Zl (pUn ZiC (Zj 6)) ZG))) ZG)))) ZaQ))))))
def Zk4:=Zeb 4 Zk3
theorem Ztg: SimM Zoy Zk4:=ZjI (show S [0] [0] [0] false ZiJ Zk3 from(Zr (ZU (O':=[0]) (Zai Zay (Zb (Zo Zn (Za 1) (Zc _)) Ze))) (Zbn (Gs.range (Zb (Zc _) (Zb (ZM ZZ (Za 4) (Zc _)) Ze))) PutOk.one (by decide) (by decide) (Zr (ZU (O':=[0]) (Zo Zn (Za 2) (Za 5))) (Zr (ZU (O':=[0]) (Zw ZoH (Zb (Za 1) (Zb (Zw Zeg (Zb (Zw Zeo (Zb (Za 5) (Zb (Za 4) Ze))) (Zb (Za 6) Ze))) (Zb (Za 2) (Zb (Za 3) Ze)))))) (Zr (S.ife (ZA (Zu ZdM (Za 6) (Zc _))) (ZeK (O':=[0]) (by decide) Zi9 (Zb (Za 5) (Zb (Zc _) (Zb (Zw ZiR (Zb (Za 7) (Zb (Za 6) Ze))) Ze))) (by decide) (by decide)) ZQ) (S.ife (ZA (Zu ZcH (Za 6) (Zc _))) (ZeK (O':=[0]) (by decide) Zi9 (Zb (Zc _) (Zb (Za 5) (Zb (Zw ZiR (Zb (Za 7) (Zb (ZbU ZbV (Za 6)) Ze))) Ze))) (by decide) (by decide)) ZQ))))))) (by decide) (by unfold ZiJ;repeat' first | exact Keep0.next | exact Zjl | exact Keep0.ret | exact Keep0.put | apply Keep0.seq | apply Keep0.ife | exact Keep0.set (by decide) | apply ZpK (Zpf (by decide)))
def ZhD: XS [] [3] [] true:=⟨_,_,(Zr (S.ife (ZaP (ZA (Zu ZbB (Za 0) (Z4))) (ZaP (ZA (Zw Zvg (Zb (Zw Zq4 (Zb (Za 0) (Zb (Za 1) Ze))) (Zb (Za 2) Ze)))) Zci)) (Zad (Z4)) ZQ) (Zr (Zb9 (i:=3) (O':=[3]) (Zar ZjN (Zb (Zo Zn (Za 0) (Zc 0)) Ze))) (Zr (ZeK (x:=3) (O':=[3]) (by decide) Ztf (Zb (Za 0) (Zb (Za 1) (Zb (Za 2) Ze))) (by decide) (by decide)) (Zr (ZeK (x:=3) (O':=[3]) (by decide) Ztg (Zb (Za 0) (Zb (Za 1) (Zb (Za 2) Ze))) (by decide) (by decide)) (Zad (Zar ZeD (Zb (E.tup (Zb (Za 3) (Zb (Zo Zn (Za 0) (Zc 1)) Ze))) Ze)))))))⟩
def ZpR:=ZJ 3 (XS.g ZhD)
def ZdQ:=ZT 3 (XS.q ZhD)
theorem ZhE: SimF true ZpR ZdQ:=ZY (XS.h ZhD)
def Ze2: XS [] [] [] true:=⟨_,_,(Zr (S.ife (ZA (Za 2)) (Zad (Zar ZhE (Zb (Za 0) (Zb (Za 1) (Zb (ZbU ZbV (Zc 1)) Ze))))) ZQ) (Zad (Zar ZhE (Zb (Za 0) (Zb (Zw Zeg (Zb (Za 1) (Zb (ZbU ZbV (Zc 1)) Ze))) (Zb (Zc 0) Ze))))))⟩
def ZoI:=ZJ 3 (XS.g Ze2)
def Ze3:=ZT 3 (XS.q Ze2)
theorem ZtC: SimF true ZoI Ze3:=ZY (XS.h Ze2)
def Zf6: XS [] [] [] false:=⟨_,_,(ZF (Zw ZfF (Zb (Zw Zjm (Zb (Zo Zn (Za 0) (Zc 0)) (Zb (Za 1) Ze))) (Zb (Zo Zn (Za 0) (Zc 1)) Ze))))⟩
def Zob:=ZJ 2 (XS.g Zf6)
def ZkN:=ZT 2 (XS.q Zf6)
theorem Zoc: SimF false Zob ZkN:=ZY (XS.h Zf6)
def Zgq: XS [] [] [] false:=⟨_,_,(Zr (ZU (i:=4) (O':=[]) (Zo Zn (Za 1) (Za 3))) (Zr (ZU (i:=5) (O':=[]) (Zo Zn (Za 0) (Zu ZaX (Za 3) (Zc 1)))) (Zr (S.ife (ZA (Zu Zct (Zai Zc0 (Zb (Za 4) Ze)) (Zc 1))) (ZF (Za 5)) ZQ) (Zr (ZU (i:=6) (O':=[]) (Zw Zjb (Zb (Za 1) (Zb (Zw Zeg (Zb (Zw Zeo (Zb (Za 3) (Zb (Zai Zay (Zb (Za 0) Ze)) Ze))) (Zb (Za 4) Ze))) Ze)))) (ZF (Zw ZlE (Zb (Za 5) (Zb (Zw Zoc (Zb (Zw Zk9 (Zb (Zw Ze8 (Zb (Za 6) (Zb (Za 0) Ze))) (Zb (ZbU ZbV (Za 4)) Ze))) (Zb (Za 2) Ze))) Ze))))))))⟩
def Zoz:=ZJ 4 (XS.g Zgq)
def ZiK:=ZT 4 (XS.q Zgq)
theorem Zth: SimF false Zoz ZiK:=ZY (XS.h Zgq)
def ZgT: XS [] [] [] true:=⟨_,_,(Zr (S.ife (ZA (Zu ZbB (Za 0) (Z4))) (Zad (Z4)) ZQ) (Zr (ZU (i:=3) (O':=[]) (ZbD (Gs.range (Zb (Zc 1) (Zb (Zai Zay (Zb (Za 1) Ze)) Ze))) (PutOk.one (j:=100)) (by decide) Zaq (Zw Zth (Zb (Zo Zn (Za 0) (Zc 1)) (Zb (Za 1) (Zb (Za 2) (Zb (Za 100) Ze))))))) (Zr (S.ife (ZA (Zu ZfT (Z4) (Za 3))) (Zad (Z4)) ZQ) (Zad (Zar ZeD (Zb (E.tup (Zb (Zo Zn (Za 0) (Zc 0)) (Zb (Za 3) Ze))) Ze))))))⟩
def ZoZ:=ZJ 3 (XS.g ZgT)
def Zeh:=ZT 3 (XS.q ZgT)
theorem Zo0: SimF true ZoZ Zeh:=ZY (XS.h ZgT)
def ZgU: XS [] [] [] true:=⟨_,_,(Zr (S.ife (Zcm (ZA (Zw Zg7 (Zb (Zw Zoc (Zb (Zw Ze8 (Zb (Za 1) (Zb (Zo Zn (Za 0) (Zc 1)) Ze))) (Zb (Za 2) Ze))) (Zb (Zc 0) Ze))))) (Zad (Z4)) ZQ) (Zad (Zar Zo0 (Zb (Za 0) (Zb (Za 1) (Zb (Za 2) Ze))))))⟩
def Zo1:=ZJ 3 (XS.g ZgU)
def ZiY:=ZT 3 (XS.q ZgU)
theorem Zo2: SimF true Zo1 ZiY:=ZY (XS.h ZgU)
def Ze1: XS [] [] [] true:=⟨_,_,(Zr (S.ife (ZA (Zw Ztb (Zb (Zw Ze8 (Zb (Za 1) (Zb (Zo Zn (Za 0) (Zc 1)) Ze))) (Zb (E.tup (Zb (Za 2) (Zb (Zc 0) Ze))) Ze)))) (Zad (Z4)) ZQ) (Zr (S.ife (ZA (Zu Zaf (Za 2) (Zc 2))) (Zad (Zar Zo2 (Zb (Za 0) (Zb (ZM ZZ (E.list (Zb (ZM ZZ (Zo Zn (Za 1) (Zc 0)) (Zc 1)) Ze)) (Zj2 (k:=1) (Za 1))) (Zb (Zc 2) Ze))))) ZQ) (Zad (Zar ZjN (Zb (Za 0) Ze)))))⟩
def Zod:=ZJ 3 (XS.g Ze1)
def Zf7:=ZT 3 (XS.q Ze1)
theorem ZsF: SimF true Zod Zf7:=ZY (XS.h Ze1)
def ZgV: XS [] [] [] true:=⟨_,_,(Zr (S.ife (Zcm (ZA (Zw Zg7 (Zb (Zw Ze8 (Zb (Za 1) (Zb (Zo Zn (Za 0) (Zc 1)) Ze))) (Zb (Zc 0) Ze))))) (Zad (Z4)) ZQ) (Zr (ZU (i:=2) (O':=[]) (Zw ZhE (Zb (Zw ZhE (Zb (Za 0) (Zb (Za 1) (Zb (Zc 0) Ze)))) (Zb (Zw Zeg (Zb (Za 1) (Zb (ZbU ZbV (Zc 1)) Ze))) (Zb (Zc 0) Ze))))) (Zad (Zar Zo0 (Zb (Za 2) (Zb (Za 1) (Zb (Zc 0) Ze)))))))⟩
def Zo3:=ZJ 2 (XS.g ZgV)
def ZgW:=ZT 2 (XS.q ZgV)
theorem ZtV: SimF true Zo3 ZgW:=ZY (XS.h ZgV)
def Zfa: XS [] [] [] false:=⟨_,_,(Zr (S.ife (Za3 (ZA (Zu ZbG (Za 0) (Z4))) (Za3 (ZA (Zw ZoU (Zb (Zw Zhh (Zb (Za 0) (Zb (Za 1) Ze))) (Zb (Zc 0) Ze)))) Zaq)) (ZF (Zw ZhE (Zb (Za 0) (Zb (Za 1) (Zb (ZbU ZbV (Zc 1)) Ze))))) ZQ) (ZF (Za 0)))⟩
def Zpr:=ZJ 2 (XS.g Zfa)
def Zjc:=ZT 2 (XS.q Zfa)
theorem Zps: SimF false Zpr Zjc:=ZY (XS.h Zfa)
def Zf8: XS [] [] [] true:=⟨_,_,(Zad (Zar ZjN (Zb (Zw Zps (Zb (Zw Zps (Zb (Za 0) (Zb (Za 1) Ze))) (Zb (Zw Zeg (Zb (Za 1) (Zb (ZbU ZbV (Zc 1)) Ze))) Ze))) Ze)))⟩
def Zoe:=ZJ 2 (XS.g Zf8)
def ZiH:=ZT 2 (XS.q Zf8)
theorem ZsG: SimF true Zoe ZiH:=ZY (XS.h Zf8)
def ZeM: XS [] [] [] true:=⟨_,_,(Zr (S.ife (ZA (Zu ZbB (Za 0) (Z4))) (Zad (Z4)) ZQ) (Zr (S.ife (ZA (Zu Zaf (Zo Zn (Za 1) (Zc 0)) (E.str (Str.ofString "under")))) (Zad (Zar ZtC (Zb (Za 0) (Zb (Zo Zn (Za 1) (Zc 1)) (Zb (Za 2) Ze))))) ZQ) (Zr (S.ife (ZA (Zu Zaf (Zo Zn (Za 1) (Zc 0)) (E.str (Str.ofString "same")))) (Zad (E.ife (ZA (Za 2)) (Zar ZtV (Zb (Za 0) (Zb (Zo Zn (Za 1) (Zc 1)) Ze))) (Zar ZsG (Zb (Za 0) (Zb (Zo Zn (Za 1) (Zc 1)) Ze))))) ZQ) (Zad (E.ife (ZA (Za 2)) (Zar Zo2 (Zb (Za 0) (Zb (Zo Zn (Za 1) (Zc 1)) (Zb (Zo Zn (Za 1) (Zc 2)) Ze)))) (Zar ZsF (Zb (Za 0) (Zb (Zo Zn (Za 1) (Zc 1)) (Zb (Zo Zn (Za 1) (Zc 2)) Ze)))))))))⟩
def ZrP:=ZJ 3 (XS.g ZeM)
def Zdl:=ZT 3 (XS.q ZeM)
theorem Zza: SimF true ZrP Zdl:=ZY (XS.h ZeM)
def Zei: XS [] [] [] false:=⟨_,_,(Zr (ZU (i:=2) (O':=[]) (Zw ZgS (Zb (Zo Zn (Za 0) (Zc 1)) (Zb (Za 1) Ze)))) (Zr (S.ife (ZA (Zu Zaf (Zo Zn (Za 0) (Zc 0)) (E.str (Str.ofString "under")))) (ZF (Zu ZcH (Za 2) (Zc 0))) ZQ) (Zr (S.ife (ZA (Zu Zaf (Zo Zn (Za 0) (Zc 0)) (E.str (Str.ofString "same")))) (ZF (Zu Zaf (Za 2) (Zc 0))) ZQ) (ZF (Zu Zaf (Zu ZaD (Za 2) (Zo Zn (Za 0) (Zc 2))) (Zc 0))))))⟩
def Zo4:=ZJ 2 (XS.g Zei)
def Zc9:=ZT 2 (XS.q Zei)
theorem ZtW: SimF false Zo4 Zc9:=ZY (XS.h Zei)
def ZmY: PS:=(Zav (ZC Zaj (ZC Zaj (Zb8 (Zj 0) Zdk (Zb7 (ZC Zdr (Zj 1) (ZE 1)))) (ZdE (Zl (Zj 2) ZG))) (Zb8 (Zj 0) (Zb7 (Zj 1)) Zdk)))
def ZdY:=ZT 3 ZmY
theorem Zq5: SimF false Zig ZdY:=ZY (show S [] [] [] false Zkf ZmY from(ZF (ZM ZZ (ZM ZZ (ZdX (Za 0) Pe.none (Pe.some (Zu ZaX (Za 1) (Zc _)))) (E.list (Zb (Za 2) Ze))) (ZdX (Za 0) (Pe.some (Za 1)) Pe.none))))
def Zhk: XS [] [] [] false:=⟨_,_,(ZF (ZbD (Gs.range (Zb (Zc 1) (Zb (ZM ZZ (Za 0) (Zc 1)) Ze))) (PutOk.one (j:=100)) (by decide) Zaq (Zw Zeo (Zb (Za 100) (Zb (Za 1) Ze)))))⟩
def Zhl:=ZJ 2 (XS.g Zhk)
def Zel:=ZT 2 (XS.q Zhk)
theorem ZlP: SimF false Zhl Zel:=ZY (XS.h Zhk)
def ZlQ: Sm:=ZW (Zaa 4 (ZH ZjL (Zh (Zg 0) ZD))) (ZW (sIf (tOr (Zao (Zy oIs (Zg 4) (Zau))) (tOr (Zao (Zy oIs (Zg 3) (Zau))) Zd1)) (Zag (Zau)) Zax) (ZW (Zaa 5 (ZH ZbL (Zh (Zy Z3 (Zg 4) (Zz 1)) ZD))) (ZW (Zaa 6 (Zy Zas (Zy Zas (Zg 5) (ZH ZbL (Zh (Zg 2) ZD))) (Zz 1))) (ZW (Zaa 7 (ZH ZhS (Zh (Zg 4) (Zh (Zy Zas (ZH Zhl (Zh (Zg 5) (Zh (Zg 5) ZD))) (Zg 2)) ZD)))) (ZW (sIf (Zao (Zy oIs (Zg 7) (Zau))) (Zag (Zau)) Zax) (ZW (Zaa 8 (ZH ZjL (Zh (ZH Zl2 (Zh (ZH Zl1 (Zh (Zg 7) (Zh (Zz 1) ZD))) (Zh (ZH Zic (Zh (Zy Zas (Zg 5) (Zz 1)) (Zh (Zy Zas (Zg 6) (Zz 1)) ZD))) (Zh (Zg 3) ZD)))) ZD))) (Zag (ZH ZhS (Zh (Zg 8) (Zh (ZH Zig (Zh (ZH Zhl (Zh (Zg 5) (Zh (Zg 6) ZD))) (Zh (Zg 1) (Zh (ZH Zfh (Zh (Zg 6) (Zh (Zg 6) ZD))) ZD)))) ZD))))))))))
def Zpt:=ZJ 4 ZlQ
def ZlR: PS:=(Z8 (ZaA 4 (ZV Zbf (Zl (Zj 0) ZG))) (Z8 (qIf (bOr (Zat (ZC qIs (Zj 4) (ZaH))) (bOr (Zat (ZC qIs (Zj 3) (ZaH))) Zfz)) (Zav (ZaH)) ZaQ) (Z8 (ZaA 5 (ZV Zbc (Zl (ZC Z5 (Zj 4) (ZE 1)) ZG))) (Z8 (ZaA 6 (ZC Zaj (ZC Zaj (Zj 5) (ZV Zbc (Zl (Zj 2) ZG))) (ZE 1))) (Z8 (ZaA 7 (ZV ZcN (Zl (Zj 4) (Zl (ZC Zaj (ZV Zel (Zl (Zj 5) (Zl (Zj 5) ZG))) (Zj 2)) ZG)))) (Z8 (qIf (Zat (ZC qIs (Zj 7) (ZaH))) (Zav (ZaH)) ZaQ) (Z8 (ZaA 8 (ZV Zbf (Zl (ZV Zfg (Zl (ZV ZhA (Zl (Zj 7) (Zl (ZE 1) ZG))) (Zl (ZV Zid (Zl (ZC Zaj (Zj 5) (ZE 1)) (Zl (ZC Zaj (Zj 6) (ZE 1)) ZG))) (Zl (Zj 3) ZG)))) ZG))) (Zav (ZV ZcN (Zl (Zj 8) (Zl (ZV ZdY (Zl (ZV Zel (Zl (Zj 5) (Zl (Zj 6) ZG))) (Zl (Zj 1) (Zl (ZV ZdP (Zl (Zj 6) (Zl (Zj 6) ZG))) ZG)))) ZG)))))))))))
def Zhm:=ZT 4 ZlR
theorem Zuu: SimF true Zpt Zhm:=ZY (show S [] [] [] true ZlQ ZlR from(Zr (ZU (O':=[]) (Zw ZeD (Zb (Za 0) Ze))) (Zr (S.ife (ZaP (ZA (Zu ZbB (Za 4) (Z4))) (ZaP (ZA (Zu ZbB (Za 3) (Z4))) Zci)) (Zad (Z4)) ZQ) (Zr (ZU (O':=[]) (Zai Zay (Zb (Zo Zn (Za 4) (Zc _)) Ze))) (Zr (ZU (O':=[]) (ZM ZZ (ZM ZZ (Za 5) (Zai Zay (Zb (Za 2) Ze))) (Zc _))) (Zr (ZU (O':=[]) (Zw Zmr (Zb (Za 4) (Zb (ZM ZZ (Zw ZlP (Zb (Za 5) (Zb (Za 5) Ze))) (Za 2)) Ze)))) (Zr (S.ife (ZA (Zu ZbB (Za 7) (Z4))) (Zad (Z4)) ZQ) (Zr (ZU (O':=[]) (Zw ZeD (Zb (Zw Zvj (Zb (Zw Zvi (Zb (Za 7) (Zb (Zc _) Ze))) (Zb (Zh1 ZxB (Zb (ZM ZZ (Za 5) (Zc _)) (Zb (ZM ZZ (Za 6) (Zc _)) Ze))) (Zb (Za 3) Ze)))) Ze))) (Zad (Zar Zmr (Zb (Za 8) (Zb (Zw Zq5 (Zb (Zw ZlP (Zb (Za 5) (Zb (Za 6) Ze))) (Zb (Za 1) (Zb (Zw Zeo (Zb (Za 6) (Zb (Za 6) Ze))) Ze)))) Ze))))))))))))
def ZhF: XS [] [] [] false:=⟨_,_,(ZF (ZM ZZ (ZM ZZ (ZdX (Za 0) Pe.none (Pe.some (Zu ZaX (Za 1) (Zc 1)))) (E.list (Zb (Za 2) Ze))) (ZdX (Za 0) (Pe.some (Za 1)) Pe.none)))⟩
def ZpS:=ZJ 3 (XS.g ZhF)
def Zfi:=ZT 3 (XS.q ZhF)
theorem ZhG: SimF false ZpS Zfi:=ZY (XS.h ZhF)
def ZfX: XS [] [] [] false:=⟨_,_,(ZF (E.tup (Zb (Zw ZiR (Zb (Zo Zn (Za 0) (Zc 0)) (Zb (Za 1) Ze))) (Zb (Zw ZiR (Zb (Zo Zn (Za 0) (Zc 1)) (Zb (Za 1) Ze))) Ze))))⟩
def ZkG:=ZJ 2 (XS.g ZfX)
def ZfY:=ZT 2 (XS.q ZfX)
theorem Zn3: SimF false ZkG ZfY:=ZY (XS.h ZfX)
def ZfZ: XS [] [] [] false:=⟨_,_,(Zr (ZU (i:=2) (O':=[]) (Zw Zn3 (Zb (Za 0) (Zb (Za 1) Ze)))) (Zr (S.ife (Za3 (ZA (Zu ZbG (Zo Zn (Za 2) (Zc 0)) (Z4))) (Za3 (ZA (Zu Zaf (Zo Zn (Za 2) (Zc 0)) (Zo Zn (Za 2) (Zc 1)))) Zaq)) (ZF (E.tup (Zb (Zu ZaD (Zo Zn (Za 0) (Zc 0)) (Za 1)) (Zb (Zu ZaD (Zo Zn (Za 0) (Zc 1)) (Za 1)) Ze)))) ZQ) (ZF (E.tup (Zb (Zc 0) (Zb (Zu ZaX (Za 1) (Zc 1)) Ze))))))⟩
def ZkH:=ZJ 2 (XS.g ZfZ)
def Zf0:=ZT 2 (XS.q ZfZ)
theorem Zss: SimF false ZkH Zf0:=ZY (XS.h ZfZ)
def Zgr: XS [] [] [] false:=⟨_,_,(Zr (ZU (i:=2) (O':=[]) (Zw Zjm (Zb (Zo Zn (Za 0) (Zc 0)) (Zb (Za 1) Ze)))) (Zr (S.ife (ZA (Zu Zaf (Za 2) (Za 1))) (ZF (E.tup (Zb (Zc 0) (Zb (Zu ZaD (Zo Zn (Za 0) (Zc 1)) (Za 1)) Ze)))) ZQ) (ZF (Zw ZfF (Zb (Za 2) (Zb (Zo Zn (Za 0) (Zc 1)) Ze))))))⟩
def Zk5:=ZJ 2 (XS.g Zgr)
def Zgs:=ZT 2 (XS.q Zgr)
theorem Zti: SimF false Zk5 Zgs:=ZY (XS.h Zgr)
def Zgt: XS [] [] [] false:=⟨_,_,(Zr (S.ife (ZA (Zu Zaf (Zu ZaD (Zo Zn (Za 0) (Zc 0)) (Za 1)) (Zc 0))) (ZF (Zw ZfF (Zb (Zu Zcr (Zo Zn (Za 0) (Zc 0)) (Za 1)) (Zb (Zu Zcr (Zo Zn (Za 0) (Zc 1)) (Za 1)) Ze)))) ZQ) (ZF (E.tup (Zb (Zc 1) (Zb (Zc 0) Ze)))))⟩
def Zk6:=ZJ 2 (XS.g Zgt)
def Zgu:=ZT 2 (XS.q Zgt)
theorem Ztj: SimF false Zk6 Zgu:=ZY (XS.h Zgt)
def Zl7: Sm:=ZW (sIf (Zao (Zy oEq (Zy Z3 (Zg 1) (Zz 0)) (ZeV (Str.ofString "set")))) (ZW (Zaa 2 (ZH ZbL (Zh (Zy Z3 (Zg 0) (Zz 1)) ZD))) (Zag (ZH ZhS (Zh (Zg 0) (Zh (ZH Zig (Zh (ZH Zhl (Zh (Zg 2) (Zh (Zg 2) ZD))) (Zh (Zy Z3 (Zg 1) (Zz 1)) (Zh (Zy Z3 (Zg 1) (Zz 2)) ZD)))) ZD))))) Zax) (ZW (sIf (Zao (Zy oEq (Zy Z3 (Zg 1) (Zz 0)) (ZeV (Str.ofString "any")))) (Zag (ZH Zii (Zh (Zg 0) (Zh (Zy Z3 (Zg 1) (Zz 1)) (Zh (ZbX (Zh (Zy Z3 (Zg 1) (Zz 2)) (Zh (Zy Z3 (Zg 1) (Zz 3)) ZD))) (Zh (ZbX (Zh (Zz 1) (Zh (Zz 0) ZD))) ZD)))))) Zax) (ZW (Zaa 3 (ZbX (Zh (ZH ZmX (Zh (Zg 0) (Zh (Zy Z3 (Zg 1) (Zz 2)) ZD))) (Zh (ZH ZlM (Zh (Zg 0) (Zh (Zy Z3 (Zg 1) (Zz 2)) ZD))) ZD)))) (ZW (Zaa 4 (ZH ZlH (Zh (Zy Z3 (Zg 1) (Zz 2)) (Zh (Zy Z3 (Zg 0) (Zz 1)) ZD)))) (ZW (sIf (Zao (Zy oEq (Zy Z3 (Zg 1) (Zz 0)) (ZeV (Str.ofString "part")))) (Zag (ZH Zii (Zh (Zg 0) (Zh (Zy Z3 (Zg 1) (Zz 1)) (Zh (ZH ZkG (Zh (Zg 3) (Zh (Zy Z3 (Zg 1) (Zz 3)) ZD))) (Zh (ZH Zk6 (Zh (Zg 4) (Zh (Zy Z3 (Zg 1) (Zz 3)) ZD))) ZD)))))) Zax) (Zag (ZH Zii (Zh (Zg 0) (Zh (Zy Z3 (Zg 1) (Zz 1)) (Zh (ZH ZkH (Zh (Zg 3) (Zh (Zy Z3 (Zg 1) (Zz 3)) ZD))) (Zh (ZH Zk5 (Zh (Zg 4) (Zh (Zy Z3 (Zg 1) (Zz 3)) ZD))) ZD))))))))))
def ZpT:=ZJ 2 Zl7
def ZhH: PS:=(Z8 (qIf (Zat (ZC qEq (ZC Z5 (Zj 1) (ZE 0)) (Ziz (Str.ofString "set")))) (Z8 (ZaA 2 (ZV Zbc (Zl (ZC Z5 (Zj 0) (ZE 1)) ZG))) (Zav (ZV ZcN (Zl (Zj 0) (Zl (ZV ZdY (Zl (ZV Zel (Zl (Zj 2) (Zl (Zj 2) ZG))) (Zl (ZC Z5 (Zj 1) (ZE 1)) (Zl (ZC Z5 (Zj 1) (ZE 2)) ZG)))) ZG))))) ZaQ) (Z8 (qIf (Zat (ZC qEq (ZC Z5 (Zj 1) (ZE 0)) (Ziz (Str.ofString "any")))) (Zav (ZV ZdA (Zl (Zj 0) (Zl (ZC Z5 (Zj 1) (ZE 1)) (Zl (ZcR (Zl (ZC Z5 (Zj 1) (ZE 2)) (Zl (ZC Z5 (Zj 1) (ZE 3)) ZG))) (Zl (ZcR (Zl (ZE 1) (Zl (ZE 0) ZG))) ZG)))))) ZaQ) (Z8 (ZaA 3 (ZcR (Zl (ZV Zfs (Zl (Zj 0) (Zl (ZC Z5 (Zj 1) (ZE 2)) ZG))) (Zl (ZV Zhg (Zl (Zj 0) (Zl (ZC Z5 (Zj 1) (ZE 2)) ZG))) ZG)))) (Z8 (ZaA 4 (ZV Zek (Zl (ZC Z5 (Zj 1) (ZE 2)) (Zl (ZC Z5 (Zj 0) (ZE 1)) ZG)))) (Z8 (qIf (Zat (ZC qEq (ZC Z5 (Zj 1) (ZE 0)) (Ziz (Str.ofString "part")))) (Zav (ZV ZdA (Zl (Zj 0) (Zl (ZC Z5 (Zj 1) (ZE 1)) (Zl (ZV ZfY (Zl (Zj 3) (Zl (ZC Z5 (Zj 1) (ZE 3)) ZG))) (Zl (ZV Zgu (Zl (Zj 4) (Zl (ZC Z5 (Zj 1) (ZE 3)) ZG))) ZG)))))) ZaQ) (Zav (ZV ZdA (Zl (Zj 0) (Zl (ZC Z5 (Zj 1) (ZE 1)) (Zl (ZV Zf0 (Zl (Zj 3) (Zl (ZC Z5 (Zj 1) (ZE 3)) ZG))) (Zl (ZV Zgs (Zl (Zj 4) (Zl (ZC Z5 (Zj 1) (ZE 3)) ZG))) ZG)))))))))))
def Zb3:=ZT 2 ZhH
theorem Zvk: SimF true ZpT Zb3:=ZY (show S [] [] [] true Zl7 ZhH from(Zr (S.ife (ZA (Zu Zaf (Zo Zn (Za 1) (Zc _)) (E.str _))) (Zr (ZU (O':=[]) (Zai Zay (Zb (Zo Zn (Za 0) (Zc _)) Ze))) (Zad (Zar Zmr (Zb (Za 0) (Zb (Zw Zq5 (Zb (Zw ZlP (Zb (Za 2) (Zb (Za 2) Ze))) (Zb (Zo Zn (Za 1) (Zc _)) (Zb (Zo Zn (Za 1) (Zc _)) Ze)))) Ze))))) ZQ) (Zr (S.ife (ZA (Zu Zaf (Zo Zn (Za 1) (Zc _)) (E.str _))) (Zad (Zar Zno (Zb (Za 0) (Zb (Zo Zn (Za 1) (Zc _)) (Zb (E.tup (Zb (Zo Zn (Za 1) (Zc _)) (Zb (Zo Zn (Za 1) (Zc _)) Ze))) (Zb (E.tup (Zb (Zc _) (Zb (Zc _) Ze))) Ze)))))) ZQ) (Zr (ZU (O':=[]) (E.tup (Zb (Zw Zq4 (Zb (Za 0) (Zb (Zo Zn (Za 1) (Zc _)) Ze))) (Zb (Zw Zhh (Zb (Za 0) (Zb (Zo Zn (Za 1) (Zc _)) Ze))) Ze)))) (Zr (ZU (O':=[]) (Zw Ze8 (Zb (Zo Zn (Za 1) (Zc _)) (Zb (Zo Zn (Za 0) (Zc _)) Ze)))) (Zr (S.ife (ZA (Zu Zaf (Zo Zn (Za 1) (Zc _)) (E.str _))) (Zad (Zar Zno (Zb (Za 0) (Zb (Zo Zn (Za 1) (Zc _)) (Zb (Zw Zn3 (Zb (Za 3) (Zb (Zo Zn (Za 1) (Zc _)) Ze))) (Zb (Zw Ztj (Zb (Za 4) (Zb (Zo Zn (Za 1) (Zc _)) Ze))) Ze)))))) ZQ) (Zad (Zar Zno (Zb (Za 0) (Zb (Zo Zn (Za 1) (Zc _)) (Zb (Zw Zss (Zb (Za 3) (Zb (Zo Zn (Za 1) (Zc _)) Ze))) (Zb (Zw Zti (Zb (Za 4) (Zb (Zo Zn (Za 1) (Zc _)) Ze))) Ze))))))))))))
def ZcM: XS [] [3] [] true:=⟨_,_,(Zr (Zb9 (i:=3) (O':=[3]) (Zar ZeD (Zb (Za 0) Ze))) (Zr (S.ife (ZaP (ZA (Zu ZbB (Za 3) (Z4))) (ZaP (ZA (Zu ZfT (Zo Zn (Za 1) (Zc 0)) (E.tup (Zb (E.str (Str.ofString "go")) (Zb (E.str (Str.ofString "say")) Ze))))) Zci)) (Zad (E.own (i:=3) (by decide))) ZQ) (Zr (S.ife (ZA (Zu Zaf (Zo Zn (Za 1) (Zc 0)) (E.str (Str.ofString "when")))) (Zad (Zar Zza (Zb (Za 3) (Zb (Zo Zn (Za 1) (Zc 1)) (Zb (Zo Zn (Za 1) (Zc 2)) Ze))))) ZQ) (Zr (S.ife (ZA (Zu Zaf (Zo Zn (Za 1) (Zc 0)) (E.str (Str.ofString "call")))) (Zad (Zar Zuu (Zb (Za 3) (Zb (Zo Zn (Za 1) (Zc 1)) (Zb (Zo Zn (Za 1) (Zc 3)) (Zb (Zo Zn (Za 2) (Zo Zn (Za 1) (Zc 2))) Ze)))))) ZQ) (Zad (Zar Zvk (Zb (Za 3) (Zb (Za 1) Ze))))))))⟩
def Zjo:=ZJ 3 (XS.g ZcM)
def Zbr:=ZT 3 (XS.q ZcM)
theorem Zvl: SimF true Zjo Zbr:=ZY (XS.h ZcM)
def Zf9: XS [] [3] [] false:=⟨_,_,(Zr (Zb9 (i:=3) (O':=[3]) (Zar Zl6 (Zb (Za 0) (Zb (Za 1) (Zb (Zai Zay (Zb (Za 2) Ze)) Ze))))) (Zr (ZU (i:=4) (O':=[3]) (Zw ZbC (Zb (Za 0) (Zb (ZM ZZ (Za 1) (Zc 4)) (Zb (Zc 90) Ze))))) (Zr (S.ife (Za3 (ZA (Zu ZdM (Zu ZaD (Za 4) (Zc 5)) (Zc 0))) (Za3 (ZA (Zu ZcH (Zai Zc0 (Zb (Zw ZgS (Zb (Za 3) (Zb (Za 2) Ze))) Ze)) (ZM Zba (Zu Zip (Zc 10) (Zc 60)) (Zu Zip (Zc 10) (Zc 38))))) Zaq)) (S.put (x:=3) (O':=[3]) (by decide) (ZbA (O':=[]) (Zu ZaX (ZM ZZ (Zu ZaX (Zo Zn (Za 3) (Zc 0)) (Zw ZgS (Zb (Za 3) (Zb (Za 2) Ze)))) (Zu ZaD (Za 4) (Zc 5))) (Zc 3))) Zca (Zc 0) (by decide) (by decide)) ZQ) (Zr (S.ife (ZA (Zu Zaf (Zu ZaD (Zu Zcr (Za 4) (Zc 5)) (Zc 3)) (Zc 0))) (ZF (E.tup (Zb (E.str (Str.ofString "under")) (Zb (Za 3) Ze)))) ZQ) (Zr (S.ife (ZA (Zu Zaf (Zu ZaD (Zu Zcr (Za 4) (Zc 5)) (Zc 3)) (Zc 1))) (ZF (E.tup (Zb (E.str (Str.ofString "same")) (Zb (Za 3) Ze)))) ZQ) (ZF (E.tup (Zb (E.str (Str.ofString "even")) (Zb (Za 3) (Zb (ZM ZZ (Zc 1) (Zu Zcr (Za 4) (Zc 15))) Ze))))))))))⟩
def Zof:=ZJ 3 (XS.g Zf9)
def ZkO:=ZT 3 (XS.q Zf9)
theorem ZsH: SimF false Zof ZkO:=ZY (XS.h Zf9)
def Zhn: XS [] [] [] false:=⟨_,_,(Zr (ZU (i:=3) (O':=[]) (Zw Zli (Zb (Za 0) (Zb (Za 1) Ze)))) (Zr (ZU (i:=4) (O':=[]) (Zw Zli (Zb (Za 0) (Zb (ZM ZZ (Za 1) (Zc 1)) Ze)))) (Zr (S.ife (ZA (Zu ZbG (Za 3) (Z4))) (ZU (i:=3) (O':=[]) (Zu ZaX (Za 2) (Za 3))) ZQ) (Zr (S.ife (ZA (Zu ZbG (Za 4) (Z4))) (ZU (i:=4) (O':=[]) (ZM ZZ (Za 2) (Za 4))) ZQ) (ZF (E.tup (Zb (Za 3) (Zb (Za 4) Ze))))))))⟩
def Zpu:=ZJ 3 (XS.g Zhn)
def ZlS:=ZT 3 (XS.q Zhn)
theorem Zuv: SimF false Zpu ZlS:=ZY (XS.h Zhn)
def Zgv: XS [] [] [] false:=⟨_,_,(Zr (S.ife (Za3 (ZA (Zu ZbG (Zo Zn (Za 2) (Zc 0)) (Z4))) (Za3 (ZA (Zu ZbG (Zo Zn (Za 2) (Zc 1)) (Z4))) Zaq)) (ZF (ZM ZZ (Zo Zn (Za 2) (Zc 0)) (Zu ZaD (Zai Zc0 (Zb (Zw ZcT (Zb (Za 0) (Zb (Za 1) Ze))) Ze)) (ZM ZZ (Zu ZaX (Zo Zn (Za 2) (Zc 1)) (Zo Zn (Za 2) (Zc 0))) (Zc 1))))) ZQ) (Zr (S.ife (ZA (Zu ZbG (Zo Zn (Za 2) (Zc 0)) (Z4))) (ZF (ZM ZZ (Zo Zn (Za 2) (Zc 0)) (Zai Zc0 (Zb (Zw ZcT (Zb (Za 0) (Zb (Za 1) Ze))) Ze)))) ZQ) (Zr (S.ife (ZA (Zu ZbG (Zo Zn (Za 2) (Zc 1)) (Z4))) (ZF (Zu ZaX (Zo Zn (Za 2) (Zc 1)) (Zai Zc0 (Zb (Zw ZcT (Zb (Za 0) (Zb (Za 1) Ze))) Ze)))) ZQ) (ZF (Zw ZcT (Zb (Za 0) (Zb (Za 1) Ze)))))))⟩
def ZoA:=ZJ 3 (XS.g Zgv)
def ZiL:=ZT 3 (XS.q Zgv)
theorem Ztk: SimF false ZoA ZiL:=ZY (XS.h Zgv)
def Zf1: XS [] [] [] false:=⟨_,_,(Zr (ZU (i:=4) (O':=[]) (Zw Zl6 (Zb (Za 0) (Zb (ZM ZZ (Za 1) (Zc 2)) (Zb (Zai Zay (Zb (Za 2) Ze)) Ze))))) (Zr (ZU (i:=5) (O':=[]) (Zw ZgS (Zb (Za 4) (Zb (Za 2) Ze)))) (Zr (ZU (i:=6) (O':=[]) (ZM ZZ (Zc 1) (Zw ZbC (Zb (Za 0) (Zb (ZM ZZ (Za 1) (Zc 6)) (Zb (Zc 6) Ze)))))) (Zr (S.ife (ZA (Zu Zaf (Zw ZbC (Zb (Za 0) (Zb (ZM ZZ (Za 1) (Zc 7)) (Zb (Zc 3) Ze)))) (Zc 1))) (ZU (i:=6) (O':=[]) (Zai Zyz (Zb (Zc 1) (Zb (Zai Zc0 (Zb (Zw ZcT (Zb (Za 0) (Zb (ZM ZZ (Za 1) (Zc 6)) Ze))) Ze)) Ze)))) ZQ) (Zr (ZU (i:=7) (O':=[]) (Zw ZbC (Zb (Za 0) (Zb (ZM ZZ (Za 1) (Zc 1)) (Zb (Zc 5) Ze))))) (Zr (S.ife (ZA (Zu Zaf (Za 7) (Zc 0))) (Zr (ZU (i:=8) (O':=[]) (Zw Zuv (Zb (Za 0) (Zb (ZM ZZ (Za 1) (Zc 2)) (Zb (Zw ZcT (Zb (Za 0) (Zb (ZM ZZ (Za 1) (Zc 4)) Ze))) Ze))))) (ZF (E.tup (Zb (E.tup (Zb (E.str (Str.ofString "any")) (Zb (Za 3) (Zb (Zo Zn (Za 8) (Zc 0)) (Zb (Zo Zn (Za 8) (Zc 1)) Ze))))) (Zb (Zw ZhG (Zb (Za 2) (Zb (Za 3) (Zb (Zw Ztk (Zb (Za 0) (Zb (ZM ZZ (Za 1) (Zc 5)) (Zb (Za 8) Ze)))) Ze)))) Ze))))) ZQ) (Zr (S.ife (ZA (Zu Zaf (Za 7) (Zc 1))) (ZF (E.tup (Zb (E.tup (Zb (E.str (Str.ofString "part")) (Zb (Za 3) (Zb (Za 4) (Zb (Za 6) Ze))))) (Zb (Zw ZhG (Zb (Za 2) (Zb (Za 3) (Zb (Zu Zcr (Za 5) (Za 6)) Ze)))) Ze)))) ZQ) (Zr (S.ife (ZA (Zu Zaf (Za 7) (Zc 2))) (ZF (E.tup (Zb (E.tup (Zb (E.str (Str.ofString "rest")) (Zb (Za 3) (Zb (Za 4) (Zb (Za 6) Ze))))) (Zb (Zw ZhG (Zb (Za 2) (Zb (Za 3) (Zb (Zu ZaD (Za 5) (Za 6)) Ze)))) Ze)))) ZQ) (ZF (E.tup (Zb (E.tup (Zb (E.str (Str.ofString "set")) (Zb (Za 3) (Zb (Za 4) Ze)))) (Zb (Zw ZhG (Zb (Za 2) (Zb (Za 3) (Zb (Za 5) Ze)))) Ze))))))))))))⟩
def Zn4:=ZJ 4 (XS.g Zf1)
def ZkI:=ZT 4 (XS.q Zf1)
theorem Zst: SimF false Zn4 ZkI:=ZY (XS.h Zf1)
def Zgf: XS [] [] [] false:=⟨_,_,(Zr (ZU (i:=4) (O':=[]) (ZbD (Gs.range (Zb (Zo Zn (E.list (Zb (Zc 0) (Zb (Zc 1) (Zb (Zc 1) (Zb (Zc 2) Ze))))) (Zw ZbC (Zb (Za 0) (Zb (ZM ZZ (Za 1) (Zc 1)) (Zb (Zc 4) Ze))))) Ze)) (PutOk.one (j:=100)) (by decide) Zaq (Zw Zl6 (Zb (Za 0) (Zb (ZM ZZ (Za 1) (Za 100)) (Zb (Zai Zay (Zb (Za 2) Ze)) Ze)))))) (Zr (ZU (i:=5) (O':=[]) (ZbD (Gs.seq (Za 4)) (PutOk.one (j:=102)) (by decide) Zaq (Zw ZgS (Zb (Za 102) (Zb (Za 2) Ze))))) (Zr (ZU (i:=6) (O':=[]) (Zw ZcT (Zb (Za 0) (Zb (ZM ZZ (Za 1) (Zc 5)) Ze)))) (Zr (S.ife (Za3 (ZA (Zu ZdM (Zai Zay (Zb (Za 4) Ze)) (Zc 0))) (Za3 (ZA (Zu Zaf (Zw ZbC (Zb (Za 0) (Zb (ZM ZZ (Za 1) (Zc 6)) (Zb (Zc 2) Ze)))) (Zc 1))) Zaq)) (ZU (i:=6) (O':=[]) (Zu ZaX (ZM ZZ (Zo Zn (Za 5) (ZbU ZbV (Zc 1))) (Zw ZbC (Zb (Za 0) (Zb (ZM ZZ (Za 1) (Zc 5)) (Zb (Zc 7) Ze))))) (Zc 3))) ZQ) (ZF (E.tup (Zb (E.tup (Zb (E.str (Str.ofString "call")) (Zb (Za 3) (Zb (Zc 1) (Zb (Za 4) Ze))))) (Zb (Zw ZhG (Zb (Za 2) (Zb (Za 3) (Zb (Za 6) Ze)))) (Zb (E.list (Zb (Z4) (Zb (Zw Zpi (Zb (Za 0) (Zb (ZM ZZ (Za 1) (Zc 3)) (Zb (ZM ZZ (Za 5) (E.list (Zb (Za 6) Ze))) Ze)))) Ze))) Ze)))))))))⟩
def Zom:=ZJ 4 (XS.g Zgf)
def ZkS:=ZT 4 (XS.q Zgf)
theorem ZsW: SimF false Zom ZkS:=ZY (XS.h Zgf)
def Zho: XS [] [] [] false:=⟨_,_,(Zr (ZU (i:=3) (O':=[]) (ZM ZZ (Zc 1) (Zw ZbC (Zb (Za 0) (Zb (ZM ZZ (Za 1) (Zc 7)) (Zb (Zai Zay (Zb (Za 2) Ze)) Ze)))))) (Zr (ZU (i:=4) (O':=[]) (Zw ZbC (Zb (Za 0) (Zb (Za 1) (Zb (Zc 10) Ze))))) (Zr (S.ife (ZA (Zu Zaf (Za 4) (Zc 0))) (ZF (E.tup (Zb (E.tup (Zb (E.str (Str.ofString "go")) Ze)) (Zb (Za 2) (Zb (E.list Ze) Ze))))) ZQ) (Zr (ZU (i:=5) (O':=[]) (Zw ZsH (Zb (Za 0) (Zb (ZM ZZ (Za 1) (Zc 1)) (Zb (Za 2) Ze))))) (Zr (S.ife (ZA (Zu Zaf (Za 4) (Zc 1))) (ZF (E.tup (Zb (E.tup (Zb (E.str (Str.ofString "say")) (Zb (Za 5) Ze))) (Zb (Za 2) (Zb (E.list Ze) Ze))))) ZQ) (Zr (S.ife (ZA (Zu ZcH (Za 4) (Zc 5))) (ZF (E.tup (Zb (E.tup (Zb (E.str (Str.ofString "when")) (Zb (Za 5) (Zb (Zw ZtW (Zb (Za 5) (Zb (Za 2) Ze))) Ze)))) (Zb (Za 2) (Zb (E.list Ze) Ze))))) ZQ) (Zr (S.ife (ZA (Zu ZcH (Za 4) (Zc 7))) (ZF (Zw ZsW (Zb (Za 0) (Zb (Za 1) (Zb (Za 2) (Zb (Za 3) Ze)))))) ZQ) (Zr (ZU (i:=6) (O':=[]) (Zw Zst (Zb (Za 0) (Zb (Za 1) (Zb (Za 2) (Zb (Za 3) Ze)))))) (ZF (E.tup (Zb (Zo Zn (Za 6) (Zc 0)) (Zb (Zo Zn (Za 6) (Zc 1)) (Zb (E.list Ze) Ze)))))))))))))⟩
def Zjd:=ZJ 3 (XS.g Zho)
def Zje:=ZT 3 (XS.q Zho)
theorem Zuw: SimF false Zjd Zje:=ZY (XS.h Zho)
def Zms: Sm:=ZW (Zaa 1 (Zy Z3 (Zcz (Zh (Zz 1) (Zh (Zz 2) (Zh (Zz 1) (Zh (Zz 2) (Zh (Zz 1) (Zh (Zz 2) (Zh (Zz 1) (Zh (Zz 2) (Zh (Zz 3) ZD)))))))))) (ZH Zda (Zh (Zg 0) (Zh (Zz 0) (Zh (Zz 9) ZD)))))) (ZW (Zaa 2 (Zbw (ZbI (Zh (Zg 1) ZD)) (put1 100) Zbz (ZH Zgx (Zh (Zg 0) (Zh (Zy Zas (Zz 1) (Zg 100)) ZD))))) (ZW (Zaa 3 (ZH Zi3 (Zh (ZH ZfK (Zh (Zcl (Zg 0) ZdD (ZcB (Zz 63))) ZD)) (Zh (Zz 4) (Zh (Zg 2) ZD))))) (ZW (Zaa 4 (Zcz (Zh (ZbX (Zh (Zg 3) (Zh (ZH Zg5 (Zh (Zg 3) ZD)) ZD))) ZD))) (ZW (Zbh (ZbI (Zh (Zy Zas (Zz 2) (Zy oDiv (ZH ZbL (Zh (Zcl (Zg 0) (ZcB (Zz 7)) (ZcB (Zz 63))) ZD)) (Zz 11))) ZD)) (put1 5) (ZW (Zaa 6 (ZH Zjd (Zh (Zg 0) (Zh (Zy Zas (Zz 7) (Zy Zd9 (Zz 8) (Zg 5))) (Zh (Zg 2) ZD))))) (ZW (Zaa 7 (ZH Zjo (Zh (Zg 3) (Zh (Zy Z3 (Zg 6) (Zz 0)) (Zh (Zy Z3 (Zg 6) (Zz 2)) ZD))))) (ZW (sIf (tOr (ZeW (Zao (ZH ZiV (Zh (Zg 7) (Zh (ZH ZbL (Zh (Zg 2) ZD)) ZD))))) (tOr (ZeW (Zao (ZH Zi5 (Zh (Zg 7) (Zh (Zy Z3 (Zg 6) (Zz 1)) ZD))))) Zd1)) (Zag (Zdo false)) Zax) (ZW (Zaa 2 (Zy Z3 (Zg 6) (Zz 1))) (ZW (Zaa 3 (Zg 7)) (ZbM (Zde (Zg 4) (ZbX (Zh (Zg 3) (Zh (ZH Zg5 (Zh (Zg 3) ZD)) ZD))))))))))) (ZW (Zbh (ZdJ (Zg 4)) (put1 8) (sIf (Zao (Zy oNe (Zy Z3 (Zg 8) (Zz 0)) (Zy Z3 (Zg 8) (Zz 1)))) (Zag (Zdo false)) Zax)) (Zag (Zdo true)))))))
def Zmt:=ZJ 1 Zms
def Zmu: Sm:=(ZW (Zaa 1 (Zy Z3 (Zcz (Zh (Zz 1) (Zh (Zz 2) (Zh (Zz 1) (Zh (Zz 2) (Zh (Zz 1) (Zh (Zz 2) (Zh (Zz 1) (Zh (Zz 2) (Zh (Zz 3) ZD)))))))))) (ZH Zda (Zh (Zg 0) (Zh (Zz 0) (Zh (Zz 9) ZD)))))) (ZW (Zaa 2 (Zbw (ZbI (Zh (Zg 1) ZD)) (put1 100) Zbz (ZH Zgx (Zh (Zg 0) (Zh (Zy Zas (Zz 1) (Zg 100)) ZD))))) (Zaa 3 (ZH Zi3 (Zh (ZH ZfK (Zh (Zcl (Zg 0) ZdD (ZcB (Zz 63))) ZD)) (Zh (Zz 4) (Zh (Zg 2) ZD)))))))
def ZhT: PS:=(Z8 (ZaA 1 (ZC Z5 (ZdE (Zl (ZE 1) (Zl (ZE 2) (Zl (ZE 1) (Zl (ZE 2) (Zl (ZE 1) (Zl (ZE 2) (Zl (ZE 1) (Zl (ZE 2) (Zl (ZE 3) ZG)))))))))) (ZV ZcK (Zl (Zj 0) (Zl (ZE 0) (Zl (ZE 9) ZG)))))) (Z8 (ZaA 2 (Zbb (Zbu (Zl (Zj 1) ZG)) (ZaT 100) Za6 (ZV Zgy (Zl (Zj 0) (Zl (ZC Zaj (ZE 1) (Zj 100)) ZG))))) (ZaA 3 (ZV Zi4 (Zl (ZV Zko (Zl (Zb8 (Zj 0) Zdk (Zb7 (ZE 63))) ZG)) (Zl (ZE 4) (Zl (Zj 2) ZG)))))))
theorem Zwi: S [] [] [] false Zmu ZhT:=(Zr (ZU (O':=[]) (Zo Zn (E.list (Zb (Zc _) (Zb (Zc _) (Zb (Zc _) (Zb (Zc _) (Zb (Zc _) (Zb (Zc _) (Zb (Zc _) (Zb (Zc _) (Zb (Zc _) Ze)))))))))) (Zw ZbC (Zb (Za 0) (Zb (Zc _) (Zb (Zc _) Ze)))))) (Zr (ZU (O':=[]) (ZbD (Gs.range (Zb (Za 1) Ze)) PutOk.one (by decide) Zaq (Zw ZcT (Zb (Za 0) (Zb (ZM ZZ (Zc _) (Za 100)) Ze))))) (ZU (O':=[]) (Zw Zpi (Zb (Zh1 Zy9 (Zb (ZdX (Za 0) Pe.none (Pe.some (Zc _))) Ze)) (Zb (Zc _) (Zb (Za 2) Ze)))))))
def Zeu: Sm:=(ZW (Zaa 6 (ZH Zjd (Zh (Zg 0) (Zh (Zy Zas (Zz 7) (Zy Zd9 (Zz 8) (Zg 5))) (Zh (Zg 2) ZD))))) (ZW (Zaa 7 (ZH Zjo (Zh (Zg 3) (Zh (Zy Z3 (Zg 6) (Zz 0)) (Zh (Zy Z3 (Zg 6) (Zz 2)) ZD))))) (ZW (sIf (tOr (ZeW (Zao (ZH ZiV (Zh (Zg 7) (Zh (ZH ZbL (Zh (Zg 2) ZD)) ZD))))) (tOr (ZeW (Zao (ZH Zi5 (Zh (Zg 7) (Zh (Zy Z3 (Zg 6) (Zz 1)) ZD))))) Zd1)) (Zag (Zdo false)) Zax) (ZW (Zaa 2 (Zy Z3 (Zg 6) (Zz 1))) (Zaa 3 (Zg 7))))))
def Zev: PS:=(Z8 (ZaA 6 (ZV Zje (Zl (Zj 0) (Zl (ZC Zaj (ZE 7) (ZC Zc3 (ZE 8) (Zj 5))) (Zl (Zj 2) ZG))))) (Z8 (ZaA 7 (ZV Zbr (Zl (Zj 3) (Zl (ZC Z5 (Zj 6) (ZE 0)) (Zl (ZC Z5 (Zj 6) (ZE 2)) ZG))))) (Z8 (qIf (bOr (ZiA (Zat (ZV ZiW (Zl (Zj 7) (Zl (ZV Zbc (Zl (Zj 2) ZG)) ZG))))) (bOr (ZiA (Zat (ZV Zi6 (Zl (Zj 7) (Zl (ZC Z5 (Zj 6) (ZE 1)) ZG))))) Zfz)) (Zav (Zin false)) ZaQ) (Z8 (ZaA 2 (ZC Z5 (Zj 6) (ZE 1))) (ZaA 3 (Zj 7))))))
theorem Zwj: S [] [] [] false Zeu Zev:=(Zr (ZU (O':=[]) (Zw Zuw (Zb (Za 0) (Zb (ZM ZZ (Zc _) (ZM Zba (Zc _) (Za 5))) (Zb (Za 2) Ze))))) (Zr (ZU (O':=[]) (Zw Zvl (Zb (Za 3) (Zb (Zo Zn (Za 6) (Zc _)) (Zb (Zo Zn (Za 6) (Zc _)) Ze))))) (Zr (S.ife (ZaP (Zcm (ZA (Zw ZtU (Zb (Za 7) (Zb (Zai Zay (Zb (Za 2) Ze)) Ze))))) (ZaP (Zcm (ZA (Zw Zuq (Zb (Za 7) (Zb (Zo Zn (Za 6) (Zc _)) Ze))))) Zci)) (ZF (E.bool _)) ZQ) (Zr (ZU (O':=[]) (Zo Zn (Za 6) (Zc _))) (ZU (O':=[]) (Za 7))))))
def Zqj: Sm:=(ZW (Zbh (ZdJ (Zg 4)) (put1 8) (sIf (Zao (Zy oNe (Zy Z3 (Zg 8) (Zz 0)) (Zy Z3 (Zg 8) (Zz 1)))) (Zag (Zdo false)) Zax)) (Zag (Zdo true)))
def Zjt: PS:=(Z8 (Zcu (Zc4 (Zj 4)) (ZaT 8) (qIf (Zat (ZC qNe (ZC Z5 (Zj 8) (ZE 0)) (ZC Z5 (Zj 8) (ZE 1)))) (Zav (Zin false)) ZaQ)) (Zav (Zin true)))
theorem Zwk: S [] [] [] false Zqj Zjt:=(Zr (Zbn (Gs.seq (Za 4)) PutOk.one (by decide) (by decide) (S.ife (ZA (Zu Zct (Zo Zn (Za 8) (Zc _)) (Zo Zn (Za 8) (Zc _)))) (ZF (E.bool _)) ZQ)) (ZF (E.bool _)))
def ZdU: Ex:=(ZbX (Zh (Zg 3) (Zh (ZH Zg5 (Zh (Zg 3) ZD)) ZD)))
def ZhU: PE:=(ZcR (Zl (Zj 3) (Zl (ZV Zdb (Zl (Zj 3) ZG)) ZG)))
theorem Zqk: E [] [3,3] false ZdU ZhU:=(E.tup (Zb (Za 3) (Zb (Zw Zun (Zb (Za 3) Ze)) Ze)))
def Zmv: Src:=(ZbI (Zh (Zy Zas (Zz 2) (Zy oDiv (ZH ZbL (Zh (Zcl (Zg 0) (ZcB (Zz 7)) (ZcB (Zz 63))) ZD)) (Zz 11))) ZD))
def ZhV: PG:=(Zbu (Zl (ZC Zaj (ZE 2) (ZC ZiB (ZV Zbc (Zl (Zb8 (Zj 0) (Zb7 (ZE 7)) (Zb7 (ZE 63))) ZG)) (ZE 11))) ZG))
theorem Zwl: Gs [] [] Zmv ZhV:=(Gs.range (Zb (ZM ZZ (Zc _) (Zu Zcr (Zai Zay (Zb (ZdX (Za 0) (Pe.some (Zc _)) (Pe.some (Zc _))) Ze)) (Zc _))) Ze))
end L
end
section
open PySem PySem.W PyProof.Rows PM TM My
local macro_rules | `(tactic| tm_at "r")=>`(tactic| assumption)
local macro_rules | `(tactic| tm_at "r")=>`(tactic| exact rfl)
local macro_rules | `(tactic| tm_at "r")=>`(tactic| ((with_reducible apply Zv3);decide;tm_at "r"))
local macro_rules | `(tactic| tm_at "r")=>`(tactic| ((with_reducible apply Zxs);decide;tm_at "r"))
local macro_rules | `(tactic| tm_at "r")=>`(tactic| with_reducible exact Zb2)
local macro_rules | `(tactic| tm_at "r")=>`(tactic| with_reducible assumption)
local macro_rules|`(tactic|walk_at "r")=>`(tactic|first | tm_at "r" | fail)
local macro_rules | `(tactic| tm_at "y")=>`(tactic| (simp only[Bool.not_eq_true',Bool.not_eq_false',decide_eq_true_eq,decide_eq_false_iff_not,beq_iff_eq,beq_eq_false_iff_ne,ne_eq,Bool.not_true,Bool.not_false,not_false_eq_true,not_true_eq_false,bne_iff_ne,Decidable.not_not,List.length_map] <;> first | done | omega | assumption))
local macro_rules | `(tactic| tm_at "y")=>`(tactic| (with_reducible assumption))
local macro_rules | `(tactic| tm_at "y")=>`(tactic| rfl)
local macro_rules|`(tactic|walk_at "y")=>`(tactic|first | tm_at "y" | fail)
local macro_rules | `(tactic| tm_at "f")=>`(tactic| exact Zg1 fun i hi=>by(first | rfl | exact ZeC | exact Zes))
local macro_rules | `(tactic| tm_at "f")=>`(tactic| exact Zes)
local macro_rules | `(tactic| tm_at "f")=>`(tactic| exact ZeC)
local macro_rules | `(tactic| tm_at "f")=>`(tactic| rfl)
local macro_rules|`(tactic|walk_at "f")=>`(tactic|first | tm_at "f" | fail)
local macro_rules | `(tactic| tm_at "o")=>`(tactic| ((with_reducible apply ZyR);(first | decide | omega)))
local macro_rules | `(tactic| tm_at "o")=>`(tactic| with_reducible refine ZyZ ?_)
local macro_rules | `(tactic| tm_at "o")=>`(tactic| with_reducible refine tk_all ?_)
local macro_rules | `(tactic| tm_at "o")=>`(tactic| with_reducible refine Zxm ?_)
local macro_rules | `(tactic| tm_at "o")=>`(tactic| with_reducible refine tk_list1t ?_)
local macro_rules | `(tactic| tm_at "o")=>`(tactic| with_reducible refine ZvY ?_)
local macro_rules | `(tactic| tm_at "o")=>`(tactic| ((with_reducible apply ZqS);omega))
local macro_rules | `(tactic| tm_at "o")=>`(tactic| ((with_reducible apply Zh3);(first | decide | omega);rfl))
local macro_rules | `(tactic| tm_at "o")=>`(tactic| ((with_reducible apply Zxl);(first | decide | omega);rfl))
local macro_rules | `(tactic| tm_at "o")=>`(tactic| ((with_reducible apply Zxk);(first | decide | omega);(first | decide | omega)))
local macro_rules | `(tactic| tm_at "o")=>`(tactic| ((with_reducible apply Zxj);(first | assumption | omega)))
local macro_rules | `(tactic| tm_at "o")=>`(tactic| with_reducible refine Zxi ?_)
local macro_rules | `(tactic| tm_at "o")=>`(tactic| with_reducible refine ZyY ?_)
local macro_rules | `(tactic| tm_at "o")=>`(tactic| with_reducible refine Zxh ?_)
local macro_rules | `(tactic| tm_at "o")=>`(tactic| with_reducible refine Zxg ?_)
local macro_rules | `(tactic| tm_at "o")=>`(tactic| with_reducible refine tk_notl ?_)
local macro_rules | `(tactic| tm_at "o")=>`(tactic| with_reducible refine Zxf ?_)
local macro_rules | `(tactic| tm_at "o")=>`(tactic| with_reducible refine Zxe ?_)
local macro_rules | `(tactic| tm_at "o")=>`(tactic| with_reducible refine ZyX ?_)
local macro_rules | `(tactic| tm_at "o")=>`(tactic| with_reducible refine ZyW ?_)
local macro_rules | `(tactic| tm_at "o")=>`(tactic| with_reducible refine ZyV ?_)
local macro_rules | `(tactic| tm_at "o")=>`(tactic| with_reducible refine ZyU ?_)
local macro_rules | `(tactic| tm_at "o")=>`(tactic| with_reducible refine tk_neb ?_)
local macro_rules | `(tactic| tm_at "o")=>`(tactic| with_reducible refine tk_eqb ?_)
local macro_rules | `(tactic| tm_at "o")=>`(tactic| with_reducible refine ZzZ ?_)
local macro_rules | `(tactic| tm_at "o")=>`(tactic| with_reducible refine ZzY ?_)
local macro_rules | `(tactic| tm_at "o")=>`(tactic| with_reducible refine tk_min ?_)
local macro_rules | `(tactic| tm_at "o")=>`(tactic| with_reducible refine ZyT ?_)
local macro_rules | `(tactic| tm_at "o")=>`(tactic| with_reducible refine ZyS ?_)
local macro_rules | `(tactic| tm_at "o")=>`(tactic| with_reducible refine tk_ge ?_)
local macro_rules | `(tactic| tm_at "o")=>`(tactic| with_reducible refine ZzX ?_)
local macro_rules | `(tactic| tm_at "o")=>`(tactic| with_reducible refine ZzW ?_)
local macro_rules | `(tactic| tm_at "o")=>`(tactic| with_reducible refine ZzV ?_)
local macro_rules | `(tactic| tm_at "o")=>`(tactic| with_reducible refine ZyQ ?_)
local macro_rules | `(tactic| tm_at "o")=>`(tactic| with_reducible refine ZyP ?_)
local macro_rules | `(tactic| tm_at "o")=>`(tactic| with_reducible refine Zj4 ?_)
local macro_rules|`(tactic|walk_at "o")=>`(tactic|first | tm_at "o" | fail)
local macro_rules | `(tactic| tm_at "1")=>`(tactic| tm_at "o")
local macro_rules | `(tactic| tm_at "1")=>`(tactic| ((with_reducible apply Zqe);tm_at "r";(first | assumption | omega);(first | assumption | omega)))
local macro_rules | `(tactic| tm_at "1")=>`(tactic| ((with_reducible apply Zv2);tm_at "r";(first | assumption | omega)))
local macro_rules | `(tactic| tm_at "1")=>`(tactic| ((with_reducible apply Zxp);tm_at "r";(first | (rw[Z9];omega) | (simp;done))))
local macro_rules | `(tactic| tm_at "1")=>`(tactic| ((with_reducible apply Zxo);tm_at "r";(first | (rw[Z9];omega) | (simp;done))))
local macro_rules | `(tactic| tm_at "1")=>`(tactic| with_reducible refine Zxr ?_)
local macro_rules | `(tactic| tm_at "1")=>`(tactic| with_reducible refine Zy1 ?_)
local macro_rules | `(tactic| tm_at "1")=>`(tactic| with_reducible refine Zxq ?_)
local macro_rules | `(tactic| tm_at "1")=>`(tactic| with_reducible refine Zy0 ?_)
local macro_rules | `(tactic| tm_at "1")=>`(tactic| with_reducible refine Zi.mn ?_)
local macro_rules | `(tactic| tm_at "1")=>`(tactic| with_reducible refine Zi.eq ?_)
local macro_rules | `(tactic| tm_at "1")=>`(tactic| with_reducible refine Zwc ?_)
local macro_rules | `(tactic| tm_at "1")=>`(tactic| with_reducible refine Zxx ?_)
local macro_rules | `(tactic| tm_at "1")=>`(tactic| with_reducible refine Zxw ?_)
local macro_rules | `(tactic| tm_at "1")=>`(tactic| with_reducible refine Zng ?_)
local macro_rules | `(tactic| tm_at "1")=>`(tactic| ((with_reducible apply Rn.one);omega))
local macro_rules | `(tactic| tm_at "1")=>`(tactic| with_reducible refine Zv1 ?_)
local macro_rules | `(tactic| tm_at "1")=>`(tactic| with_reducible refine Sq.tup ?_)
local macro_rules | `(tactic| tm_at "1")=>`(tactic| with_reducible refine Sq.lst ?_)
local macro_rules | `(tactic| tm_at "1")=>`(tactic| with_reducible refine ZmO ?_)
local macro_rules|`(tactic|tm_at "1")=>`(tactic|(refine And.intro (show T.flatIn _ = true by walk_at "f") ?_))
local macro_rules|`(tactic|tm_at "1")=>`(tactic|(refine And.intro (show T.flat _ = true by walk_at "f") ?_))
local macro_rules | `(tactic| tm_at "1")=>`(tactic| ((with_reducible apply ZrJ);rfl))
local macro_rules | `(tactic| tm_at "1")=>`(tactic| ((with_reducible apply ZyO);tm_at "y"))
local macro_rules | `(tactic| tm_at "1")=>`(tactic| ((with_reducible apply ZyN);tm_at "y"))
local macro_rules | `(tactic| tm_at "1")=>`(tactic| ((with_reducible apply ZyD);tm_at "r"))
local macro_rules | `(tactic| tm_at "1")=>`(tactic| with_reducible refine ZyC ?_)
local macro_rules | `(tactic| tm_at "1")=>`(tactic| with_reducible refine Zw5 ?_)
local macro_rules | `(tactic| tm_at "1")=>`(tactic| with_reducible refine ZyB ?_)
local macro_rules | `(tactic| tm_at "1")=>`(tactic| with_reducible refine ZyA ?_)
local macro_rules | `(tactic| tm_at "1")=>`(tactic| with_reducible refine Znf ?_)
local macro_rules | `(tactic| tm_at "1")=>`(tactic| with_reducible refine Zne ?_)
local macro_rules | `(tactic| tm_at "1")=>`(tactic| with_reducible refine tk_exp ?_)
local macro_rules | `(tactic| tm_at "1")=>`(tactic| with_reducible refine ZyM ?_)
local macro_rules | `(tactic| tm_at "1")=>`(tactic| with_reducible refine ZyL ?_)
local macro_rules | `(tactic| tm_at "1")=>`(tactic| with_reducible refine Zxd ?_)
local macro_rules | `(tactic| tm_at "1")=>`(tactic| with_reducible refine tk_truth_n ?_)
local macro_rules | `(tactic| tm_at "1")=>`(tactic| with_reducible refine Zuk ?_)
local macro_rules | `(tactic| tm_at "1")=>`(tactic| with_reducible refine ZyK ?_)
local macro_rules | `(tactic| tm_at "1")=>`(tactic| with_reducible refine Zxc ?_)
local macro_rules | `(tactic| tm_at "1")=>`(tactic| with_reducible refine ZvX ?_)
local macro_rules | `(tactic| tm_at "1")=>`(tactic| with_reducible refine Zxb ?_)
local macro_rules | `(tactic| tm_at "1")=>`(tactic| with_reducible refine Zxa ?_)
local macro_rules | `(tactic| tm_at "1")=>`(tactic| with_reducible refine ZyJ ?_)
local macro_rules | `(tactic| tm_at "1")=>`(tactic| with_reducible refine ZzU ?_)
local macro_rules | `(tactic| tm_at "1")=>`(tactic| with_reducible refine ZzT ?_)
local macro_rules | `(tactic| tm_at "1")=>`(tactic| with_reducible refine ZyI ?_)
local macro_rules | `(tactic| tm_at "1")=>`(tactic| with_reducible refine ZyH ?_)
local macro_rules | `(tactic| tm_at "1")=>`(tactic| with_reducible refine ZzS ?_)
local macro_rules | `(tactic| tm_at "1")=>`(tactic| with_reducible refine ZzR ?_)
local macro_rules | `(tactic| tm_at "1")=>`(tactic| with_reducible refine Zw9 ?_)
local macro_rules | `(tactic| tm_at "1")=>`(tactic| with_reducible refine Zw6 ?_)
local macro_rules | `(tactic| tm_at "1")=>`(tactic| with_reducible refine Zw8 ?_)
local macro_rules | `(tactic| tm_at "1")=>`(tactic| with_reducible refine ZyG ?_)
local macro_rules | `(tactic| tm_at "1")=>`(tactic| with_reducible refine ZyF ?_)
local macro_rules | `(tactic| tm_at "1")=>`(tactic| with_reducible refine Zw7 ?_)
local macro_rules | `(tactic| tm_at "1")=>`(tactic| with_reducible refine ZzQ ?_)
local macro_rules | `(tactic| tm_at "1")=>`(tactic| with_reducible refine ZyE ?_)
local macro_rules|`(tactic|walk_at "1")=>`(tactic|first | tm_at "1" | fail)
local macro_rules|`(tactic|walk_at "z")=>`(tactic|repeat' (first | tm_at "1" | fail))
namespace L
open PySem PySem.W PyProof.Rows PM TM My
variable {a:Option Int} {N X b i j k m n t:Nat} {ns:List Int} {c x:Nat→Int} {K K' M d r top v y:Int} {G G' G2 Γ:Nat→Nat→Option Int} {σ:TL} {g:PG} {Q:T→Prop} {R R' R2:Nat→Int×Int} {p q:Int×Int} {f:Nat→T} {β:Type} {o:Option (Int×Int)} {ts:List T} {l:List Nat} {D T0 w:T} {C:Nat→Nat→Int} {ρ:Nat→Option (Int×Int)}
section
variable {Q:T→Prop}
theorem ZAH(h:Q (.int T9)): Pk (ZcS (.int 10) (.int 9)) Q:=by
 have:=ZzM []
 simp only[oPow]at this
 split at this
 ·rename_i hc
  refine⟨_,by simp only[ZcS];rw[if_pos hc],?_⟩
  simp only[Option.some.injEq,Prod.mk.injEq,V.int.injEq,and_true]at this
  rw[this];exact h
 ·cases this
theorem ZAc(h:Q (.int T40)): Pk (ZcS (.int 10) (.int 40)) Q:=by
 have:=Zyy []
 simp only[oPow]at this
 split at this
 ·rename_i hc
  refine⟨_,by simp only[ZcS];rw[if_pos hc],?_⟩
  simp only[Option.some.injEq,Prod.mk.injEq,V.int.injEq,and_true]at this
  rw[this];exact h
 ·cases this
theorem ZAd(h:Q (.int M9)): Pk (ZcS (.int 48271) (.int 9)) Q:=by
 have:=Zyx []
 simp only[oPow]at this
 split at this
 ·rename_i hc
  refine⟨_,by simp only[ZcS];rw[if_pos hc],?_⟩
  simp only[Option.some.injEq,Prod.mk.injEq,V.int.injEq,and_true]at this
  rw[this];exact h
 ·cases this
theorem Zdx{a b:Int}(h1:-(2 ^ 64)<b)(h2:b<2 ^ 64)(h:Q (.int (a*b))): Pk (Zc3 (.int a) (.int b)) Q:=Zcb (Zu9 h1 h2) h
theorem ZxD{a b:Int}(h1:-(2 ^ 64)<a)(h2:a<2 ^ 64)(h:Q (.int (a*b))): Pk (Zc3 (.int a) (.int b)) Q:=Zcb (Zui h1 h2) h
end
noncomputable def scr(ns:List Int): T:=.lst (ns.map T.int)
def Lay(ns:List Int): Prop:=PyData.layable0 (.list (ns.map .int))=true
noncomputable def ZbT(ns:List Int)(k:Int): Int:=k*k*7919+11+(if 0<ns.length then cellAt ns (k.fmod ns.length) 0 else 0)
theorem Zql{k:Int}(h0:0≤k)(h9:k≤10000): Zlg [scr ns,.int k]=some (.int (ZbT ns k)):=by
 apply Pk.eq
 unfold Zlg ZgH ZbT scr
 by_cases hl:0<ns.length
 ·have a:=Int.fmod_nonneg_of_pos k (show(0:Int)<ns.length by omega)
  have b:=Int.fmod_lt_of_pos k (show(0:Int)<ns.length by omega)
  have e:(ns.map T.int).length=ns.length:=by simp
  walk_at "z"
  refine Zdx (by omega) (by omega) ?_
  walk_at "z"
  refine Zdx (by omega) (by omega) ?_
  walk_at "z"
  refine Zh3 (t:=.int (cellAt ns (k.fmod ns.length) 0)) (by rw[e];omega) ?_ ?_
  ·rw[e,List.getElem?_map,List.getElem?_eq_getElem (by omega),cellAt_def]
   simp only[Option.map_some,T.int.injEq,Option.some.injEq]
   rw[List.getD_eq_getElem?_getD,List.getElem?_eq_getElem (by omega)]
   rfl
  walk_at "z"
  rw[if_pos hl]
 ·walk_at "z"
  refine Zdx (by omega) (by omega) ?_
  walk_at "z"
  refine Zdx (by omega) (by omega) ?_
  walk_at "z"
  rw[if_neg hl]
  simp
theorem Zux{k:Int}(hL:Lay ns)(h0:0≤k)(h9:k≤10000): Builtin.Int.intBits (ZbT ns k)≤2 ^ 21:=by
 unfold ZbT
 have h1:0≤k*k:=Int.mul_nonneg h0 h0
 have h2:k*k≤10000*10000:=Int.mul_le_mul h9 h9 h0 (by decide)
 have hb:Builtin.Int.intBits (k*k*7919+11)≤2 ^ 20:=Nat.le_trans (intBits_le_64 (by omega) (by omega)) (by decide)
 have hc:Builtin.Int.intBits (if 0<ns.length then cellAt ns (k.fmod ns.length) 0 else 0)≤2 ^ 20:=by
  split
  ·exact(cell_at hL _).bits
  ·exact bits_zero
 exact Nat.le_trans (PM.ZvU hb hc) (by decide)
noncomputable def ZaR(ns:List Int)(k many:Int): Int:=((ZbT ns k*48271).fmod 2147483647).fmod many
theorem Zb6(ns:List Int)(k:Int){many:Int}(h:0<many): 0≤ZaR ns k many∧ZaR ns k many<many:=⟨Int.fmod_nonneg_of_pos _ h,Int.fmod_lt_of_pos _ h⟩
theorem ZbH{k many:Int}(h0:0≤k)(h9:k≤10000)(hm:0<many): ZcK [scr ns,.int k,.int many]=some (.int (ZaR ns k many)):=by
 apply Pk.eq
 unfold ZcK Zg2
 walk_at "z"
 refine Zk (Zql h0 h9) ?_
 walk_at "z"
 refine Zdx (by decide) (by decide) ?_
 walk_at "z"
 rfl
noncomputable def ZdB(ns:List Int)(k:Int): Int:=[3,9,T9,T40].getD (((ZbT ns k*69621).fmod 2147483629).fmod 4).toNat 0
theorem Zqm(ns:List Int)(k:Int): 0<ZdB ns k∧ZdB ns k≤T40:=by
 unfold ZdB
 have a:=Int.fmod_nonneg_of_pos ((ZbT ns k*69621).fmod 2147483629) (show(0:Int)<4 by decide)
 have b:=Int.fmod_lt_of_pos ((ZbT ns k*69621).fmod 2147483629) (show(0:Int)<4 by decide)
 generalize ((ZbT ns k*69621).fmod 2147483629).fmod 4=i at a b
 have h9:=T9_eq
 have h40:=ZjZ
 have:i=0∨i=1∨i=2∨i=3:=by omega
 obtain rfl | rfl | rfl | rfl:=this
 ·show 0<3∧3≤T40;omega
 ·show 0<9∧9≤T40;omega
 ·show 0<T9∧T9≤T40;omega
 ·show 0<T40∧T40≤T40;omega
noncomputable def ZaF(ns:List Int)(k:Int): Int:=(ZbT ns k*M9).fmod (2*ZdB ns k+1)-ZdB ns k
theorem ZrQ(ns:List Int)(k:Int): -T40≤ZaF ns k∧ZaF ns k≤T40:=by
 obtain⟨a,b⟩:=Zqm ns k
 have h1:=Int.fmod_nonneg_of_pos (ZbT ns k*M9) (show 0<2*ZdB ns k+1 by omega)
 have h2:=Int.fmod_lt_of_pos (ZbT ns k*M9) (show 0<2*ZdB ns k+1 by omega)
 unfold ZaF
 omega
theorem ZdR{k:Int}(hL:Lay ns)(h0:0≤k)(h9:k≤10000): Zgy [scr ns,.int k]=some (.int (ZaF ns k)):=by
 apply Pk.eq
 unfold Zgy Zgw
 have hb:=Zqa (Zux hL h0 h9) Zw1
 obtain⟨r0,r1⟩:=Zqm ns k
 have a:=Int.fmod_nonneg_of_pos ((ZbT ns k*69621).fmod 2147483629) (show(0:Int)<4 by decide)
 have b:=Int.fmod_lt_of_pos ((ZbT ns k*69621).fmod 2147483629) (show(0:Int)<4 by decide)
 walk_at "z"
 refine Zk (Zql h0 h9) ?_
 walk_at "z"
 refine ZAH ?_
 walk_at "z"
 refine ZAc ?_
 walk_at "z"
 refine Zdx (by decide) (by decide) ?_
 walk_at "z"
 refine Zh3 (t:=.int (ZdB ns k)) (by omega) ?_ ?_
 ·unfold ZdB
  have:(((ZbT ns k*69621).fmod 2147483629).fmod 4).toNat<4:=by omega
  generalize (((ZbT ns k*69621).fmod 2147483629).fmod 4).toNat=i at this
  match i,this with
  | 0,_=>rfl
  | 1,_=>rfl
  | 2,_=>rfl
  | 3,_=>rfl
 walk_at "z"
 refine ZAd ?_
 walk_at "z"
 refine Zcb hb ?_
 walk_at "z"
 refine ZxD (by decide) (by decide) ?_
 walk_at "z"
 rfl
noncomputable def Zal(a:Int): Int:=if a<0 then -a else a
theorem Zdg(a:Int): 0≤Zal a:=by unfold Zal;split <;> omega
noncomputable def Zcp(ns:List Int)(k:Int): Option Int:=
 if(ZaR ns k 42).fmod 6<2 then none else if(ZaR ns k 42).fmod 6<4 then some 0 else if(ZaR ns k 42).fmod 6=4 then some ((ZaR ns k 42).fdiv 6)else some (Zal (ZaF ns k))
theorem Zqn(ns:List Int)(k:Int){c:Int}(h:Zcp ns k=some c): 0≤c∧c≤T40:=by
 have h40:=ZjZ
 unfold Zcp at h
 split at h
 ·cases h
 ·split at h
  ·cases h;omega
  ·split at h
   ·cases h
    obtain⟨p0,p1⟩:=Zb6 ns k (show(0:Int)<42 by decide)
    rw[Int.fdiv_eq_ediv_of_nonneg _ (by decide)]
    omega
   ·cases h
    have:=ZrQ ns k
    have:=Zdg (ZaF ns k)
    unfold Zal at *
    split at * <;> omega
theorem Zfj{a b:Int}(h0:0≤b)(h1:b<2 ^ 30): Builtin.divisionGoesByPylong a b=false:=PyProof.noPylong_small (by omega)
theorem Zmw{k:Int}(hL:Lay ns)(h0:0≤k)(h9:k≤10000): Zlh [scr ns,.int k]=some (oT (Zcp ns k)):=by
 apply Pk.eq
 unfold Zlh ZgI Zcp
 obtain⟨p0,p1⟩:=Zb6 ns k (show(0:Int)<42 by decide)
 walk_at "z"
 refine Zk (ZbH h0 h9 (by decide)) ?_
 walk_at "z"
 refine⟨fun c=>?_,fun c=>?_⟩
 ·walk_at "z"
  rw[if_pos (by simpa using c)];rfl
 rw[if_neg (by simpa using c)]
 walk_at "z"
 refine⟨fun c=>?_,fun c=>?_⟩
 ·walk_at "z"
  rw[if_pos (by simpa using c)];rfl
 rw[if_neg (by simpa using c)]
 walk_at "z"
 refine⟨fun c=>?_,fun c=>?_⟩
 ·walk_at "z"
  refine Zcn (by decide) (Zfj (by decide) (by decide)) ?_
  rw[if_pos (by simpa using c)];rfl
 rw[if_neg (by simpa using c)]
 walk_at "z"
 refine Zk (ZdR hL h0 h9) ?_
 walk_at "z"
 rfl
def RestOk(q:Int×Int): Prop:=q.1=0∨(0<q.1∧0≤q.2∧q.2<q.1)
noncomputable def Zan(m r:Int): Int×Int:=if m=0 then(0,r)else(m,r.fmod m)
theorem ZbO{m:Int}(h:0≤m)(r:Int): RestOk (Zan m r):=by
 unfold RestOk Zan
 split
 ·exact .inl rfl
 ·exact .inr ⟨by show 0<m;omega,Int.fmod_nonneg_of_pos _ (by omega),Int.fmod_lt_of_pos _ (by omega)⟩
theorem Zpv{m:Int}: ZkU [.int m,.int r]=some (ZL (Zan m r)):=by
 apply Pk.eq
 unfold ZkU Zgg Zan
 by_cases c:m=0
 ·walk_at "z"
  rw[if_pos c];rfl
 ·walk_at "z"
  rw[if_neg c];rfl
noncomputable def ZdG(ns:List Int)(k x:Int): Int×Int:=
 if(ZaR ns k 60).fmod 5<2 then(1,0)else if(ZaR ns k 60).fmod 5=2 then(0,x)else if(ZaR ns k 60).fmod 5=3 then Zan ((ZaR ns k 60).fdiv 5+1) x else Zan (Zal (ZaF ns k)) x
def Z6(q:Int×Int)(x:Int): Prop:=(q.1=0→x=q.2)∧(0<q.1→(x-q.2).emod q.1=0)
theorem Zpw{m:Int}(h:0≤m)(r:Int): Z6 (Zan m r) r:=by
 unfold Z6 Zan
 split
 ·exact⟨fun _=>rfl,fun q=>absurd q (by simp)⟩
 ·refine⟨fun q=>absurd q (by simpa using ‹¬m=0›),fun q=>?_⟩
  show(r-r.fmod m) % m=0
  rw[Int.fmod_eq_emod_of_nonneg _ h,Int.sub_emod,Int.emod_emod,Int.sub_self]
  simp
theorem Zqo(ns:List Int)(k:Int): 0≤(ZaR ns k 60).fdiv 5∧(ZaR ns k 60).fdiv 5<12:=by
 obtain⟨p0,p1⟩:=Zb6 ns k (show(0:Int)<60 by decide)
 rw[Int.fdiv_eq_ediv_of_nonneg _ (by decide)]
 omega
theorem Zvm(ns:List Int)(k x:Int): Z6 (ZdG ns k x) x:=by
 have:=Zqo ns k
 unfold ZdG
 split
 ·exact⟨fun q=>absurd q (by decide),fun _=>by show(x-0) % 1=0;omega⟩
 ·split
  ·exact⟨fun _=>rfl,fun q=>absurd q (by simp)⟩
  ·split
   ·exact Zpw (by omega) x
   ·exact Zpw (Zdg _) x
theorem ZxE{k x:Int}(hL:Lay ns)(h0:0≤k)(h9:k≤10000): Zlz [scr ns,.int k,.int x]=some (ZL (ZdG ns k x)):=by
 apply Pk.eq
 unfold Zlz Zg3 ZdG
 obtain⟨p0,p1⟩:=Zb6 ns k (show(0:Int)<60 by decide)
 walk_at "z"
 refine Zk (ZbH h0 h9 (by decide)) ?_
 walk_at "z"
 refine⟨fun c=>?_,fun c=>?_⟩
 ·walk_at "z"
  rw[if_pos (by simpa using c)];rfl
 rw[if_neg (by simpa using c)]
 walk_at "z"
 refine⟨fun c=>?_,fun c=>?_⟩
 ·walk_at "z"
  rw[if_pos (by simpa using c)];rfl
 rw[if_neg (by simpa using c)]
 walk_at "z"
 refine⟨fun c=>?_,fun c=>?_⟩
 ·walk_at "z"
  refine Zcn (by decide) (Zfj (by decide) (by decide)) ?_
  walk_at "z"
  refine Zk Zpv ?_
  rw[if_pos (by simpa using c)]
 rw[if_neg (by simpa using c)]
 walk_at "z"
 refine Zk (ZdR hL h0 h9) ?_
 walk_at "z"
 exact Zk Zpv rfl
noncomputable def Zab(x:Nat→Int): Nat→Int:=cn 0 x
theorem ZrR(x:Nat→Int): cn (T.int 0) (fun i=>T.int (x i))=fun i=>T.int (Zab x i):=by
 funext i;cases i <;> rfl
noncomputable def ZbJ(ns:List Int)(k:Int)(n:Nat)(x:Nat→Int)(i j:Nat): Option Int:=if j=i then some 0 else(Zcp ns (k+i*(n+1:Nat)+j)).map fun c=>Zab x i-Zab x j+c
noncomputable def ZfL(ns:List Int)(k:Int)(n:Nat)(x:Nat→Int)(t:Nat): Int×Int:=ZdG ns (k+(n+1:Nat)*(n+1:Nat)+t) (x t)
theorem Zwm(ns:List Int)(k:Int)(n:Nat)(x:Nat→Int)(i:Nat): (fun j=>if j=i then T.int 0 else oT ((Zcp ns (k+i*(n+1:Nat)+j)).map fun c=>Zab x i-Zab x j+c))=fun j=>oT (ZbJ ns k n x i j):=by
 funext j
 unfold ZbJ
 split <;> rfl
theorem Zq6{k:Int}(hL:Lay ns)(h0:0≤k)(h9:k≤1000)(hn:n≤9): Zi4 [scr ns,.int k,Zac n x]=some (Zt n (ZbJ ns k n x) (ZfL ns k n x)):=by
 apply Pk.eq
 unfold Zi4 Zg4 Zac
 have hq:((n+1:Nat):Int)*((n+1:Nat):Int)≤10*10:=Int.mul_le_mul (by omega) (by omega) (by omega) (by decide)
 have hq0:(0:Int)≤((n+1:Nat):Int)*((n+1:Nat):Int):=Int.mul_nonneg (by omega) (by omega)
 walk_at "z"
 rw[ZrR]
 refine Zco (n:=n+1) (a:=fun i=>.int i) (P:=fun i σ=>σ 0=some (scr ns)∧σ 1=some (.int k)∧σ 2=some (.lst (tab n fun i=>.int (x i)))∧σ 3=some (.lst (tab (n+1) fun i=>.int (Zab x i)))∧σ 4=some (.int (n+1:Nat))∧σ 5=some (.lst (tab i fun i=>Zak (n+1) (ZbJ ns k n x i)))) ?_ ⟨rfl,rfl,rfl,rfl,rfl,rfl⟩ ?_ ?_
 ·walk_at "z"
  rfl
 ·rintro i σ hi ⟨e0,e1,e2,e3,e4,e5⟩
  walk_at "z"
  refine Zco (n:=n+1) (a:=fun i=>.int i) (P:=fun j σ=>σ 0=some (scr ns)∧σ 1=some (.int k)∧σ 2=some (.lst (tab n fun i=>.int (x i)))∧σ 3=some (.lst (tab (n+1) fun i=>.int (Zab x i)))∧σ 4=some (.int (n+1:Nat))∧σ 5=some (.lst (tab i fun i=>Zak (n+1) (ZbJ ns k n x i)))∧σ 6=some (.int i)∧σ 7=some (.lst (tab j fun j=>oT ((Zcp ns (k+i*(n+1:Nat)+j)).map fun c=>Zab x i-Zab x j+c)))) ?_ ⟨?_,?_,?_,?_,?_,?_,?_,?_⟩ ?_ ?_
  ·walk_at "z"
   rfl
  all_goals first | walk_at "r" | skip
  ·rintro j σ hj ⟨e0,e1,e2,e3,e4,e5,e6,e7⟩
   have hb1:(0:Int)≤i*((n+1:Nat):Int):=Int.mul_nonneg (by omega) (by omega)
   have hb2:(i:Int)*((n+1:Nat):Int)≤10*10:=Int.mul_le_mul (by omega) (by omega) (by omega) (by decide)
   walk_at "z"
   refine Zdx (by omega) (by omega) ?_
   walk_at "z"
   refine Zk (Zmw hL (by omega) (by omega)) ?_
   have key:∀w,w=oT ((Zcp ns (k+i*(n+1:Nat)+j)).map fun c=>Zab x i-Zab x j+c)→tab j (fun j=>oT ((Zcp ns (k+i*(n+1:Nat)+j)).map fun c=>Zab x i-Zab x j+c))++[w]=tab (j+1) fun j=>oT ((Zcp ns (k+i*(n+1:Nat)+j)).map fun c=>Zab x i-Zab x j+c):=fun w e=>by
    rw[e];exact ZdT
   cases hs:Zcp ns (k + ↑i * ↑(n+1) + ↑j)with
   | none=>
    simp only[Zb5,Zbe]
    walk_at "z"
    rw[key _ (by rw[hs];rfl)]
    refine⟨?_,?_,?_,?_,?_,?_,?_,?_⟩ <;> walk_at "r"
   | some c=>
    simp only[Zb5,Zbe]
    walk_at "z"
    rw[key _ (by rw[hs];rfl)]
    refine⟨?_,?_,?_,?_,?_,?_,?_,?_⟩ <;> walk_at "r"
  ·rintro σ ⟨e0,e1,e2,e3,e4,e5,e6,e7⟩
   walk_at "z"
   rw[Zwm,show tab i (fun i=>Zak (n+1) (ZbJ ns k n x i))++[T.lst (tab (n+1) fun j=>oT (ZbJ ns k n x i j))]=tab (i+1) fun i=>Zak (n+1) (ZbJ ns k n x i)from ZdT (f:=fun i=>Zak (n+1) (ZbJ ns k n x i))]
   refine⟨?_,?_,?_,?_,?_,?_⟩ <;> walk_at "r"
 ·rintro σ ⟨e0,e1,e2,e3,e4,e5⟩
  walk_at "z"
  refine Zbs (n:=n) (a:=fun i=>.int i) (b:=fun t=>ZL (ZfL ns k n x t)) (by omega) ?_ (fun t ht=>?_) ?_
  ·walk_at "z"
   refine ZfJ n (by omega) (by omega) rfl
  ·walk_at "z"
   refine Zdx (by omega) (by omega) ?_
   walk_at "z"
   exact Zk (ZxE hL (by omega) (by omega)) ⟨Zes,rfl⟩
  walk_at "z"
  rfl
def Zaw(n:Nat)(G:Nat→Nat→Option Int)(R:Nat→Int×Int)(x:Nat→Int): Prop:=(∀i j,i<n+1→j<n+1→∀b,G i j=some b→Zab x i-Zab x j≤b)∧∀t,t<n→Z6 (R t) (x t)
theorem ZpU(ns:List Int)(k:Int)(n:Nat)(x:Nat→Int): Zaw n (ZbJ ns k n x) (ZfL ns k n x) x:=by
 refine⟨fun i j _ _ b h=>?_,fun t _=>Zvm ns _ _⟩
 unfold ZbJ at h
 split at h
 ·rename_i e;subst e;cases h;omega
 ·obtain⟨c,h1,h2⟩:=Zz1.mp h
  have:=(Zqn ns _ h1).1
  omega
theorem Zvn{g:PE}(hn:n<10000)(e:Pk (g σ) fun t=>t=Z1 n G)(h:Q (Z1 n G)): Pk (Zbb (Zc4 g) (ZaT j) Za6 (ZV ZfC (Zl (Zj j) ZG)) σ) Q:=by
 refine Zbs (n:=n) (a:=fun i=>Zak n (G i)) (b:=fun i=>Zak n (G i)) hn ?_ (fun i hi=>?_) h
 ·refine ZmO (e.mono ?_)
  rintro _ rfl
  exact Sq.lst rfl
 ·unfold Zak
  walk_at "z"
  rfl
theorem Zq7(hn:n≤100): Zdb [Zt n G R]=some (Zt n G R):=by
 apply Pk.eq
 unfold Zdb ZlB Zt ZaU
 walk_at "z"
 refine Zvn (n:=n+1) (G:=G) (by omega) ?_ ?_
 ·walk_at "z"
  rfl
 walk_at "z"
 rfl
def leO(a b:Option Int): Prop:=∀y,b=some y→∃x,a=some x∧x≤y
theorem Zju: leO a none:=fun _ e=>by cases e
theorem leO_some{x:Int}: leO (some x) (some y)↔x≤y:=⟨fun h=>by obtain⟨z,e,q⟩:=h y rfl;cases e;exact q,fun h z e=>by cases e;exact⟨x,rfl,h⟩⟩
theorem ZxF: ¬leO none (some y):=fun h=>by obtain⟨z,e,_⟩:=h y rfl;cases e
theorem Zlc{b:Option Int}: Zlj [oT a,oT b]=some (.bool (dec (leO a b))):=by
 apply Pk.eq
 unfold Zlj ZgJ
 cases b with
 | none=>
  simp only[Zb5]
  walk_at "z"
  rw[ZaE Zju]
 | some y=>
  cases a with
  | none=>
   simp only[Zb5,Zbe]
   walk_at "z"
   rw[Zaz ZxF]
  | some x=>
   simp only[Zbe]
   walk_at "z"
   rw[Zhu leO_some,Zi2]
def RIn(p q:Int×Int): Prop:=if q.1=0 then p=q else p.1 % q.1=0∧(p.2-q.2) % q.1=0
theorem ZxG(h:0<q.1∧0≤q.2∧q.2<q.1)(x:Int): x.fmod q.1=q.2↔(x-q.2) % q.1=0:=by
 rw[Int.fmod_eq_emod_of_nonneg _ (by omega)]
 constructor
 ·intro e
  rw[←e,Int.sub_emod,Int.emod_emod,Int.sub_self]
  simp
 ·intro e
  have:x % q.1=q.2 % q.1:=Int.emod_eq_emod_iff_emod_sub_eq_zero.mpr e
  rw[this,Int.emod_eq_of_lt h.2.1 h.2.2]
theorem ZxH(h:RestOk q)(x:Int): (if q.1=0 then x=q.2 else x.fmod q.1=q.2)↔Z6 q x:=by
 unfold Z6
 rcases h with h | h
 ·rw[if_pos h];simp[h]
 ·rw[if_neg (by omega),ZxG h]
  have h1:¬q.1=0:=by omega
  simp only[h1,false_implies,true_and,h.1,true_implies]
  rfl
theorem ZgX{x:Int}(h:RestOk q): ZlC [ZL q,.int x]=some (.bool (dec (Z6 q x))):=by
 apply Pk.eq
 unfold ZlC Zg6 ZL
 rw[←Zhu (ZxH h x)]
 by_cases c:q.1=0
 ·walk_at "z"
  rw[if_pos c,Zi2]
 ·walk_at "z"
  rw[if_neg c,Zi2]
theorem ZsX(h:RestOk q): ZkV [ZL p,ZL q]=some (.bool (dec (RIn p q))):=by
 apply Pk.eq
 unfold ZkV Zgh
 have hp:ZL p=.tup [.int p.1,.int p.2]:=rfl
 have hq:ZL q=.tup [.int q.1,.int q.2]:=rfl
 by_cases c:q.1=0
 ·rw[hp,hq]
  walk_at "z"
  rw[←hp,←hq]
  refine ZbS (Zj5 (n:=0)) (Zj5 (n:=0)) ?_
  rw[Zhu (show ZL p=ZL q↔RIn p q by unfold RIn;rw[if_pos c,Zxt])]
 ·have hq0:0<q.1:=by rcases h with h | h <;> omega
  rw[hp,hq]
  walk_at "z"
  refine⟨fun e=>?_,fun e=>?_⟩
  ·rw[←hq]
   refine Zk (ZgX h) ?_
   congr 1
   refine Zhu ?_
   unfold RIn Z6
   rw[if_neg c]
   simp only[decide_eq_true_eq]at e
   rw[Int.fmod_eq_emod_of_nonneg _ (by omega)]at e
   simp[c,e,hq0]
   rfl
  ·rw[e]
   simp only[decide_eq_false_iff_not]at e
   rw[Int.fmod_eq_emod_of_nonneg _ (by omega)]at e
   rw[Zaz]
   unfold RIn
   rw[if_neg c]
   exact fun q=>e q.1
def Inside(n:Nat)(G:Nat→Nat→Option Int)(R:Nat→Int×Int)(G':Nat→Nat→Option Int)(R':Nat→Int×Int): Prop:=(∀i,i<n+1→∀j,j<n+1→leO (G i j) (G' i j))∧∀t,t<n→RIn (R t) (R' t)
def Eu(m:Nat)(a b:Int): Prop:=0≤a∧0≤b∧∃k:Nat,a*b<2 ^ k∧m=2*k+if a<b then 1 else 0
theorem Eu.step{a b:Int}(h:Eu m a b)(hb:b≠0): ∃m',m'<m∧Eu m' b (a % b):=by
 obtain⟨h0,h1,k,h2,h3⟩:=h
 have hb':0<b:=by omega
 have r0:=Int.emod_nonneg a hb
 have r1:=Int.emod_lt_of_pos a hb'
 by_cases q:a<b
 ·rw[if_pos q]at h3
  have e:a % b=a:=Int.emod_eq_of_lt h0 q
  rw[e]
  exact⟨2*k,by omega,h1,h0,k,by rw[Int.mul_comm];exact h2,by rw[if_neg (by omega)];omega⟩
 ·rw[if_neg q]at h3
  have hd:=Int.emod_add_mul_ediv a b
  have hq:1≤a / b:=Int.le_ediv_of_mul_le hb' (by omega)
  have hm:b*1≤b*(a / b):=Int.mul_le_mul_of_nonneg_left hq h1
  have h2r:2*(a % b)<a:=by omega
  have hp:b*(2*(a % b))<b*a:=Int.mul_lt_mul_of_pos_left h2r hb'
  have hk:k≠0:=by
   rintro rfl
   have:0<a*b:=Int.mul_pos (by omega) hb'
   simp at h2
   omega
  obtain⟨k',rfl⟩:∃k',k=k'+1:=⟨k-1,by omega⟩
  refine⟨2*k',by omega,h1,r0,k',?_,by rw[if_neg (by omega)];omega⟩
  have e1:b*(2*(a % b))=2*(b*(a % b)):=by rw[←Int.mul_assoc,Int.mul_comm b 2,Int.mul_assoc]
  have e2:a*b=b*a:=Int.mul_comm _ _
  rw[Int.pow_succ]at h2
  omega
theorem Zqp{a b:Int}(ha:0≤a)(hb:0≤b)(ha2:a<2 ^ 200000)(hb2:b<2 ^ 200000): ∃m,m<1000000∧Eu m a b:=by
 refine⟨_,?_,ha,hb,400000,?_,rfl⟩
 ·split <;> omega
 ·have h1:a*b≤a*2 ^ 200000:=Int.mul_le_mul_of_nonneg_left (by omega) ha
  have h2:a*2 ^ 200000<2 ^ 200000*2 ^ 200000:=Int.mul_lt_mul_of_pos_right ha2 (Int.pow_pos (by decide))
  have h3:(2:Int) ^ 200000*2 ^ 200000=2 ^ 400000:=by rw[←Int.pow_add]
  omega
theorem Zmx{a b:Int}(hb:0<b): Int.gcd b (a % b)=Int.gcd a b:=by
 rw[Int.gcd_comm a b,Int.emod_def,Int.gcd_sub_mul_left_right]
theorem ZxI{a b:Int}: Int.gcd (Zal a) (Zal b)=Int.gcd a b:=by
 unfold Zal Int.gcd
 split <;> split <;> simp
theorem Zq8{a:Int}(h:a.natAbs<2 ^ k): Zal a<2 ^ k:=by
 have:((a.natAbs:Nat):Int)<2 ^ k:=by exact_mod_cast h
 unfold Zal
 split <;> omega
theorem ZeE(ns:List Int)(k:Int): (ZaF ns k).natAbs<2 ^ 134:=by
 have h:=ZrQ ns k
 have h2:=ZjZ
 have:(2:Nat) ^ 134=21778071482940061661655974875633165533184:=by decide
 omega
theorem Zdc{a:Nat}(h:a<2 ^ i)(hij:i≤j): a<2 ^ j:=Nat.lt_of_lt_of_le h (Nat.pow_le_pow_right (by decide) hij)
def SmG(k n:Nat)(G:Nat→Nat→Option Int): Prop:=∀i j,i<n+1→j<n+1→∀b,G i j=some b→b.natAbs<2 ^ k
def SmR(k n:Nat)(R:Nat→Int×Int): Prop:=∀t,t<n→(R t).1.natAbs<2 ^ k∧(R t).2.natAbs<2 ^ k
theorem ZoJ{m:Int}(h0:0≤m)(hm:m.natAbs<2 ^ k)(hr:r.natAbs<2 ^ k): (Zan m r).1.natAbs<2 ^ k∧(Zan m r).2.natAbs<2 ^ k:=by
 unfold Zan
 split
 ·exact⟨Nat.two_pow_pos k,hr⟩
 ·have h1:=Int.fmod_nonneg_of_pos r (show 0<m by omega)
  have h2:=Int.fmod_lt_of_pos r (show 0<m by omega)
  exact⟨hm,by show(r.fmod m).natAbs<_;omega⟩
theorem Zqq(a:Int): (Zal a).natAbs=a.natAbs:=by unfold Zal;split <;> omega
theorem Zwn: RIn q q:=by
 unfold RIn
 split
 ·rfl
 ·simp
theorem ZpV{a:Nat→T}{f:PE}(e:β→T)(P:Nat→β→Prop)(hn:n<10000)(hg:Pl (g σ) fun ts=>ts=tab n a)(hf:∀i,i<n→Pk (f (ZR σ j (a i))) fun t=>∃y,t=e y∧P i y)(d:β)(h:∀y:Nat→β,(∀i,i<n→P i (y i))→Q (.lst (tab n fun i=>e (y i)))): Pk (Zbb g (ZaT j) Za6 f σ) Q:=by
 have hc:∃y:Nat→β,∀i,i<n→Pk (f (ZR σ j (a i))) (fun t=>t=e (y i))∧P i (y i):=by
  have hx:∀i,∃y:β,i<n→Pk (f (ZR σ j (a i))) (fun t=>t=e y)∧P i y:=fun i=>by
   by_cases q:i<n
   ·obtain⟨t,e1,y,e2,p⟩:=hf i q
    exact⟨y,fun _=>⟨⟨t,e1,e2⟩,p⟩⟩
   ·exact⟨d,fun h=>absurd h q⟩
  exact⟨fun i=>Classical.choose (hx i),fun i=>Classical.choose_spec (hx i)⟩
 obtain⟨y,hy⟩:=hc
 exact Zbs hn hg (fun i hi=>(hy i hi).1) (h y fun i hi=>(hy i hi).2)
noncomputable def Zbi(G:Nat→Nat→Option Int)(i j:Nat)(v:Option Int): Nat→Nat→Option Int:=fun a b=>if a=i∧b=j then v else G a b
theorem ZrS{v:Option Int}: T.lst (tab n fun a=>T.lst (tab n fun b=>if a=i∧b=j then oT v else oT (G a b)))=Z1 n (Zbi G i j v):=by
 unfold Z1 Zak Zbi
 congr 2
 funext a
 congr 2
 funext b
 split <;> rfl
theorem ZjO{v:Option Int}: Zbi G i j v i j=v:=by simp[Zbi]
theorem Zft{a:Nat}{v:Option Int}(h:¬(a=i∧b=j)): Zbi G i j v a b=G a b:=by simp[Zbi,h]
theorem ZbP: leO a a:=fun y e=>⟨y,e,Int.le_refl y⟩
theorem Zcw{b c:Option Int}(h:leO a b)(k:leO b c): leO a c:=fun y e=>by
 obtain⟨x,e1,l1⟩:=k y e
 obtain⟨w,e2,l2⟩:=h x e1
 exact⟨w,e2,by omega⟩
theorem Znp{k:Int}(h0:0≤k)(h1:k<n): ∃i:Nat,k=i∧i<n:=⟨k.toNat,by omega,by omega⟩
theorem Zjf{a b:Int}(ha:a.natAbs<2 ^ 200000)(hb:b.natAbs<2 ^ 200000): ZlZ [.int a,.int b]=some (.int (Int.gcd a b)):=by
 apply Pk.eq
 unfold ZlZ Zhv
 walk_at "z"
 obtain⟨m,hm,eu⟩:=Zqp (Zdg a) (Zdg b) (Zq8 ha) (Zq8 hb)
 refine Zmm (fun m σ=>∃c d:Int,σ 2=some (.int c)∧σ 3=some (.int d)∧Eu m c d∧Int.gcd c d=Int.gcd a b) _ _ ?_ 1000000 (m:=m) ⟨Zal a,Zal b,by walk_at "r",by walk_at "r",eu,ZxI⟩ hm
 rintro m σ ⟨c,d,e0,e1,eu,eg⟩
 walk_at "z"
 refine⟨fun h=>?_,fun h=>?_⟩
 ·have hd:d≠0:=by simpa using h
  have hd0:0≤d:=eu.2.1
  walk_at "z"
  rw[Int.fmod_eq_emod_of_nonneg _ hd0]
  obtain⟨m',h1,h2⟩:=eu.step hd
  exact⟨m',h1,d,c % d,by walk_at "r",by walk_at "r",h2,by rw[Zmx (by omega)];exact eg⟩
 ·have hd:d=0:=by simpa using h
  subst hd
  walk_at "z"
  rw[←eg,Int.gcd_zero_right]
  have:=eu.1
  congr 1
  omega
def Bd(k:Nat)(x:Int): Prop:=x.natAbs<2 ^ k
theorem Bd.mono{x:Int}(h:Bd i x)(hij:i≤j): Bd j x:=Zdc h hij
theorem Zdd{x:Int}(h:Bd i x)(k:Bd j y)(hi:i≤1000000)(hj:j≤1000000): mulOk x y=true:=Zqa (Nat.le_trans (PyProof.Rows.intBits_le h) (Nat.le_trans hi (by decide))) (Nat.le_trans (PyProof.Rows.intBits_le k) (Nat.le_trans hj (by decide)))
theorem Bd.mul{x:Int}(h:Bd i x)(k:Bd j y): Bd (i+j) (x*y):=by
 unfold Bd at *
 rw[Int.natAbs_mul,Nat.pow_add]
 exact Nat.mul_lt_mul'' h k
theorem Bd.add{x:Int}(h:Bd i x)(k:Bd i y): Bd (i+1) (x+y):=by
 unfold Bd at *
 rw[Nat.pow_succ]
 omega
theorem Bd.sub{x:Int}(h:Bd i x)(k:Bd i y): Bd (i+1) (x-y):=by
 unfold Bd at *
 rw[Nat.pow_succ]
 omega
theorem Bd.div{x:Int}(h:Bd i y)(hi:i≤9000): Builtin.divisionGoesByPylong x y=false:=by
 refine PyProof.noPylong_of_log2 ?_
 by_cases h0:y.natAbs=0
 ·rw[h0];decide +kernel
 ·exact Nat.lt_of_lt_of_le ((Nat.log2_lt h0).mpr h) hi
theorem Zd7{x:Int}(h:Bd i y)(h0:0≤x)(h1:x≤y): Bd i x:=by unfold Bd at *;omega
theorem ZbN(h:1≤i): Bd i 1:=Zdc (i:=1) (by decide) h
theorem ZaI: Bd i 0:=Nat.two_pow_pos i
theorem Zuy{a b:Int}(hb:0<b)(kb:Bd k b)(hk:k≤8000)(ha:0≤a)(hg:Int.gcd a b=1): Pk (Zl0 [.int a,.int b]) fun t=>∃x:Int,t=.int x∧0≤x∧x<b∧∃q,a*x=1+b*q:=by
 unfold Zl0 Zhw
 walk_at "z"
 rw[Int.fmod_eq_emod_of_nonneg _ (by omega)]
 have r0:=Int.emod_nonneg a (show b≠0 by omega)
 have r1:=Int.emod_lt_of_pos a hb
 have hlt:∀x:Int,0≤x→x≤b→x<2 ^ 200000:=fun x h0 h1=>by
  have h2:b.natAbs<2 ^ 200000:=Zdc kb (by omega)
  have h3:((b.natAbs:Nat):Int)<2 ^ 200000:=by exact_mod_cast h2
  omega
 obtain⟨m,hm,eu⟩:=Zqp r0 (show 0≤b by omega) (hlt _ r0 (by omega)) (hlt b (by omega) (by omega))
 have hg0:Int.gcd (a % b) b=1:=by
  rw[Int.gcd_comm,Zmx hb];exact hg
 refine Zmm (fun m σ=>∃l r s t:Int,σ 1=some (.int b)∧σ 2=some (.int l)∧σ 3=some (.int r)∧σ 4=some (.int s)∧σ 5=some (.int t)∧Eu m l r∧Int.gcd l r=1∧l≤b∧r≤b∧(∃q,s*a=l+b*q)∧(∃q,t*a=r+b*q)∧(s.natAbs:Int)*r+(t.natAbs:Int)*l≤b∧(1≤l∨t=0)) _ _ ?_ 1000000 (m:=m) ⟨a % b,b,1,0,by walk_at "r",by walk_at "r",by walk_at "r",by walk_at "r",by walk_at "r",eu,hg0,by omega,by omega,⟨a / b,?_⟩,⟨-1,by omega⟩,by simp,.inr rfl⟩ hm
 ·rintro m σ ⟨l,r,s,t,e1,e2,e3,e4,e5,eu,gl,lb,rb,⟨q1,h1⟩,⟨q2,h2⟩,hb1,hl⟩
  walk_at "z"
  refine⟨fun h=>?_,fun h=>?_⟩
  ·have hr:r≠0:=by simpa using h
   have hr0:0≤r:=eu.2.1
   have hl0:0≤l:=eu.1
   have hrp:0<r:=by omega
   have kr:Bd k r:=Zd7 kb hr0 rb
   have kl:Bd k l:=Zd7 kb hl0 lb
   have hdiv0:0≤l / r:=Int.ediv_nonneg hl0 hr0
   have hdiv1:l / r≤l:=Int.ediv_le_self _ hl0
   have ks:(s.natAbs:Int)≤b:=by
    have:(s.natAbs:Int)*1≤(s.natAbs:Int)*r:=Int.mul_le_mul_of_nonneg_left (by omega) (by omega)
    have:0≤(t.natAbs:Int)*l:=Int.mul_nonneg (by omega) hl0
    omega
   have kt:(t.natAbs:Int)≤b:=by
    rcases hl with hl | hl
    ·have:(t.natAbs:Int)*1≤(t.natAbs:Int)*l:=Int.mul_le_mul_of_nonneg_left (by omega) (by omega)
     have:0≤(s.natAbs:Int)*r:=Int.mul_nonneg (by omega) hr0
     omega
    ·rw[hl];simp;omega
   have kt':Bd k t:=by unfold Bd at *;omega
   have kd:Bd k (l / r):=Zd7 kl hdiv0 hdiv1
   walk_at "z"
   refine Zcn hr (Bd.div kr (by omega)) ?_
   rw[Int.fdiv_eq_ediv_of_nonneg _ hr0]
   walk_at "z"
   refine Zcb (Zdd kd kr (by omega) (by omega)) ?_
   walk_at "z"
   refine Zcb (Zdd kd kt' (by omega) (by omega)) ?_
   walk_at "z"
   have hover:l-l / r*r=l % r:=by
    have:=Int.emod_add_mul_ediv l r
    rw[Int.mul_comm r (l / r)]at this
    omega
   rw[hover]
   obtain⟨m',hm1,hm2⟩:=eu.step hr
   have o0:=Int.emod_nonneg l hr
   have o1:=Int.emod_lt_of_pos l hrp
   refine⟨m',hm1,r,l % r,t,s-l / r*t,by walk_at "r",by walk_at "r",by walk_at "r",by walk_at "r",by walk_at "r",hm2,by rw[Zmx hrp];exact gl,rb,by omega,⟨q2,h2⟩,⟨q1-l / r*q2,?_⟩,?_,.inl (by omega)⟩
   ·rw[Int.sub_mul,h1,Int.mul_assoc,h2,Int.mul_add,Int.mul_sub,←hover]
    have e1:b*(l / r*q2)=l / r*(b*q2):=by rw[←Int.mul_assoc,Int.mul_comm b,Int.mul_assoc]
    rw[e1]
    omega
   ·have ht:((s-l / r*t).natAbs:Int)≤(s.natAbs:Int)+l / r*(t.natAbs:Int):=by
     have h3:(s-l / r*t).natAbs≤s.natAbs+(l / r*t).natAbs:=by omega
     have h4:(l / r*t).natAbs=(l / r).natAbs*t.natAbs:=Int.natAbs_mul ..
     have h5:(((l / r).natAbs*t.natAbs:Nat):Int)=l / r*(t.natAbs:Int):=by
      rw[Int.natCast_mul,Int.natAbs_of_nonneg hdiv0]
     rw[h4]at h3
     omega
    have h6:((s-l / r*t).natAbs:Int)*r≤((s.natAbs:Int)+l / r*(t.natAbs:Int))*r:=Int.mul_le_mul_of_nonneg_right ht hr0
    have h7:((s.natAbs:Int)+l / r*(t.natAbs:Int))*r=(s.natAbs:Int)*r+(t.natAbs:Int)*(l / r*r):=by
     rw[Int.add_mul,Int.mul_comm (l / r) (t.natAbs:Int),Int.mul_assoc]
    have h8:(t.natAbs:Int)*(l % r)+(t.natAbs:Int)*(l / r*r)=(t.natAbs:Int)*l:=by
     rw[←Int.mul_add,←hover]
     congr 1
     omega
    omega
  ·have hr:r=0:=by simpa using h
   subst hr
   rw[Int.gcd_zero_right]at gl
   have hl1:l=1:=by have:=eu.1;omega
   subst hl1
   walk_at "z"
   rw[Int.fmod_eq_emod_of_nonneg _ (by omega)]
   refine⟨s % b,rfl,Int.emod_nonneg _ (by omega),Int.emod_lt_of_pos _ hb,q1-s / b*a,?_⟩
   have h3:=Int.emod_add_mul_ediv s b
   have h4:s % b=s-b*(s / b):=by omega
   rw[h4,Int.mul_sub,Int.mul_comm a s,h1,Int.mul_sub]
   have e1:a*(b*(s / b))=b*(s / b*a):=by rw[Int.mul_comm a,Int.mul_assoc]
   rw[e1]
   omega
 ·have h3:=Int.emod_add_mul_ediv a b
  rw[Int.one_mul]
  omega
theorem Ze4{m:Int}(h:0≤m): Znl [.int m,.int r]=some (ZL (Zan m r)):=by
 apply Pk.eq
 unfold Znl Zie Zan
 by_cases c:m=0
 ·walk_at "z"
  rw[if_pos c];rfl
 ·walk_at "z"
  rw[if_neg c];rfl
theorem ZaW(h:0≤q.1)(x:Int): Z6 q x↔q.1 ∣ x-q.2:=by
 unfold Z6
 by_cases c:q.1=0
 ·rw[c]
  simp
  omega
 ·have:0<q.1:=by omega
  simp only[c,false_implies,true_and,this,true_implies]
  exact(Int.dvd_iff_emod_eq_zero).symm
theorem Zvo{m:Int}(h:0≤m): 0≤(Zan m r).1:=by unfold Zan;split <;> simp[h]
theorem Zcg{m:Int}(h:0≤m)(x:Int): Z6 (Zan m r) x↔m ∣ x-r:=by
 rw[ZaW (Zvo h)]
 unfold Zan
 split
 ·rename_i c;subst c;rfl
 ·show m ∣ x-r.fmod m↔_
  rw[Int.fmod_eq_emod_of_nonneg _ h]
  have h1:x-r % m=(x-r)+m*(r / m):=by have:=Int.emod_add_mul_ediv r m;omega
  rw[h1]
  constructor
  ·intro q
   have:=Int.dvd_sub q (Int.dvd_mul_right m (r / m))
   rwa [Int.add_sub_cancel]at this
  ·intro q
   exact Int.dvd_add q (Int.dvd_mul_right m (r / m))
theorem RestOk.nn(h:RestOk q): 0≤q.1:=by rcases h with h | h <;> omega
theorem RestOk.self(h:RestOk q): Z6 q q.2:=by rw[ZaW h.nn];simp
theorem Zlr(hp:RestOk p)(hq:RestOk q)(h:∀x,Z6 p x↔Z6 q x): p=q:=by
 have e1:∀x,p.1 ∣ x-p.2↔q.1 ∣ x-q.2:=fun x=>by rw[←ZaW hp.nn,←ZaW hq.nn];exact h x
 have a1:q.1 ∣ p.2-q.2:=(e1 p.2).mp (by simp)
 have a2:q.1 ∣ p.2+p.1-q.2:=(e1 (p.2+p.1)).mp (by rw[show p.2+p.1-p.2=p.1 by omega];exact Int.dvd_refl _)
 have b1:p.1 ∣ q.2-p.2:=(e1 q.2).mpr (by simp)
 have b2:p.1 ∣ q.2+q.1-p.2:=(e1 (q.2+q.1)).mpr (by rw[show q.2+q.1-q.2=q.1 by omega];exact Int.dvd_refl _)
 have c1:q.1 ∣ p.1:=by have:=Int.dvd_sub a2 a1;rwa [show p.2+p.1-q.2-(p.2-q.2)=p.1 by omega]at this
 have c2:p.1 ∣ q.1:=by have:=Int.dvd_sub b2 b1;rwa [show q.2+q.1-p.2-(q.2-p.2)=q.1 by omega]at this
 have em:p.1=q.1:=Int.dvd_antisymm hp.nn hq.nn c2 c1
 have er:p.2=q.2:=by
  rcases hp with hp | hp
  ·rw[hp]at em
   rw[←em]at a1
   have:=Int.zero_dvd.mp a1
   omega
  ·rcases hq with hq | hq
   ·omega
   ·rw[←em]at a1 hq
    obtain⟨k,hk⟩:=a1
    have:k=0:=by
     rcases Int.lt_trichotomy k 0 with h | h | h
     ·have:p.1*k≤p.1*(-1):=Int.mul_le_mul_of_nonneg_left (by omega) (by omega)
      omega
     ·exact h
     ·have:p.1*1≤p.1*k:=Int.mul_le_mul_of_nonneg_left (by omega) (by omega)
      omega
    subst this
    simp at hk
    omega
 exact Prod.ext em er
def RBd(k:Nat)(q:Int×Int): Prop:=Bd k q.1∧Bd k q.2
theorem Zep{m:Int}(h0:0≤m)(hm:Bd k m)(hr:Bd k r): RBd k (Zan m r):=ZoJ h0 hm hr
noncomputable def ZbK(p q:Int×Int): Int×Int:=Zan (Int.gcd p.1 q.1) (p.2+q.2)
theorem Zmy(p q:Int×Int): RestOk (ZbK p q):=ZbO (by omega) _
theorem Zld(hk:k≤200000)(hp:Bd k p.1)(hq:Bd k q.1): ZiT [ZL p,ZL q]=some (ZL (ZbK p q)):=by
 apply Pk.eq
 unfold ZiT ZgK ZL ZbK
 walk_at "z"
 refine Zk (Zjf (Zdc hp hk) (Zdc hq hk)) ?_
 walk_at "z"
 exact Zk (Ze4 (by omega)) rfl
noncomputable def Zcc(p:Int×Int)(k:Int): Int×Int:=Zan (p.1*Zal k) (p.2*k)
theorem Zk7{c:Int}(hk:k≤200000)(hp0:0≤p.1)(hp:RBd k p)(hc:Bd k c): ZiN [ZL p,.int c]=some (ZL (Zcc p c)):=by
 apply Pk.eq
 unfold ZiN Zgz ZL Zcc
 have ha:Bd k (Zal c):=by unfold Bd at *;rw[Zqq];exact hc
 walk_at "z"
 refine Zcb (Zdd hp.1 ha (by omega) (by omega)) ?_
 walk_at "z"
 refine Zcb (Zdd hp.2 hc (by omega) (by omega)) ?_
 walk_at "z"
 exact Zk (Ze4 (Int.mul_nonneg hp0 (Zdg c))) rfl
noncomputable def ZcP(p:Int×Int)(top:Int): Option Int:=if p.1=0 then(if p.2≤top then some p.2 else none)else some (top-(top-p.2) % p.1)
theorem Ztl(hp:0≤p.1): Zla [ZL p,.int top]=some (oT (ZcP p top)):=by
 apply Pk.eq
 unfold Zla ZgA ZL ZcP
 by_cases c:p.1=0
 ·rw[if_pos c]
  by_cases d:p.2≤top
  ·walk_at "z"
   rw[if_pos d];rfl
  ·walk_at "z"
   rw[if_neg d];rfl
 ·rw[if_neg c]
  walk_at "z"
  rw[Int.fmod_eq_emod_of_nonneg _ hp]
  rfl
noncomputable def oR: Option (Int×Int)→T
 | none=>.none
 | some q=>ZL q
def Met(p q:Int×Int)(o:Option (Int×Int)): Prop:=match o with
 | none=>∀x,¬(Z6 p x∧Z6 q x)
 | some r=>RestOk r∧(∀x,Z6 r x↔Z6 p x∧Z6 q x)
theorem Zpx{a b:Option (Int×Int)}(ha:Met p q a)(hb:Met p q b): a=b:=by
 cases a with
 | none=>
  cases b with
  | none=>rfl
  | some r=>exact absurd ((hb.2 r.2).mp hb.1.self) (ha r.2)
 | some s=>
  cases b with
  | none=>exact absurd ((ha.2 s.2).mp ha.1.self) (hb s.2)
  | some r=>rw[Zlr ha.1 hb.1 fun x=>(ha.2 x).trans (hb.2 x).symm]
theorem ZiZ(hk:k≤8000)(op:RestOk p)(oq:RestOk q)(bp:RBd k p)(bq:RBd k q): Pk (ZlD [ZL p,ZL q]) fun t=>∃o,t=oR o∧Met p q o∧∀r,o=some r→(r=p∨r=q∨(p.1≠0∧q.1≠0∧r.1=Int.lcm p.1 q.1)):=by
 unfold ZlD Zg8
 have ep:ZL p=.tup [.int p.1,.int p.2]:=rfl
 have eq:ZL q=.tup [.int q.1,.int q.2]:=rfl
 have np:=op.nn
 have nq:=oq.nn
 by_cases c1:p.1=0
 ·rw[ep]
  walk_at "z"
  refine Zk (ZgX oq) ?_
  walk_at "z"
  have hone:∀x,Z6 p x↔x=p.2:=fun x=>by rw[ZaW np,c1,Int.zero_dvd];omega
  refine⟨fun e=>?_,fun e=>?_⟩
  ·walk_at "z"
   refine⟨some p,rfl,⟨op,fun x=>⟨fun h=>⟨h,?_⟩,fun h=>h.1⟩⟩,fun r e=>by cases e;exact .inl rfl⟩
   rw[(hone x).mp h];exact dec_iff.mp e
  ·walk_at "z"
   refine⟨none,rfl,fun x h=>?_,by simp⟩
   have:=(hone x).mp h.1
   subst this
   have h2:=ZaE h.2
   rw[h2]at e
   cases e
 by_cases c2:q.1=0
 ·have hone:∀x,Z6 q x↔x=q.2:=fun x=>by rw[ZaW nq,c2,Int.zero_dvd];omega
  rw[ep,eq]
  walk_at "z"
  rw[←ep]
  refine Zk (ZgX op) ?_
  walk_at "z"
  refine⟨fun e=>?_,fun e=>?_⟩
  ·walk_at "z"
   refine⟨some q,rfl,⟨oq,fun x=>⟨fun h=>⟨?_,h⟩,fun h=>h.2⟩⟩,fun r e=>by cases e;exact .inr (.inl rfl)⟩
   rw[(hone x).mp h];exact dec_iff.mp e
  ·walk_at "z"
   refine⟨none,rfl,fun x h=>?_,by simp⟩
   have:=(hone x).mp h.2
   subst this
   have h2:=ZaE h.1
   rw[h2]at e
   cases e
 ·have pp:0<p.1:=by omega
  have pq:0<q.1:=by omega
  obtain⟨g,hg⟩:∃g:Nat,Int.gcd p.1 q.1=g:=⟨_,rfl⟩
  have hg0:0<(g:Int):=by
   have:Int.gcd p.1 q.1≠0:=fun h=>c1 (Int.gcd_eq_zero_iff.mp h).1
   omega
  have gp:(g:Int) ∣ p.1:=by rw[←hg];exact Int.gcd_dvd_left ..
  have gq:(g:Int) ∣ q.1:=by rw[←hg];exact Int.gcd_dvd_right ..
  obtain⟨a,ea⟩:=gp
  obtain⟨b,eb⟩:=gq
  have ha:0<a:=by
   rcases Int.lt_trichotomy a 0 with h | h | h
   ·have:=Int.mul_neg_of_pos_of_neg hg0 h;omega
   ·subst h;simp at ea;omega
   ·exact h
  have hb:0<b:=by
   rcases Int.lt_trichotomy b 0 with h | h | h
   ·have:=Int.mul_neg_of_pos_of_neg hg0 h;omega
   ·subst h;simp at eb;omega
   ·exact h
  have da:p.1 / g=a:=by rw[ea];exact Int.mul_ediv_cancel_left _ (by omega)
  have db:q.1 / g=b:=by rw[eb];exact Int.mul_ediv_cancel_left _ (by omega)
  have kg:Bd k (g:Int):=Zd7 bp.1 (by omega) (by
   rw[ea]
   have:(g:Int)*1≤g*a:=Int.mul_le_mul_of_nonneg_left (by omega) (by omega)
   omega)
  have kb:Bd k b:=Zd7 bq.1 (by omega) (by
   rw[eb]
   have:1*b≤g*b:=Int.mul_le_mul_of_nonneg_right (by omega) (by omega)
   omega)
  have cop:Int.gcd a b=1:=by
   have h1:=Int.gcd_mul_left (g:Int) a b
   rw[←ea,←eb,hg,Int.natAbs_natCast]at h1
   have h2:g*1=g*Int.gcd a b:=by omega
   exact(Nat.eq_of_mul_eq_mul_left (by omega) h2).symm
  rw[ep,eq]
  walk_at "z"
  refine Zk (Zjf (Zdc bp.1 (by omega)) (Zdc bq.1 (by omega))) ?_
  rw[hg]
  walk_at "z"
  rw[Int.fmod_eq_emod_of_nonneg _ (by omega)]
  by_cases c3:(q.2-p.2) % (g:Int)=0
  ·obtain⟨d,ed⟩:=Int.dvd_of_emod_eq_zero c3
   have dd:(q.2-p.2) / g=d:=by rw[ed];exact Int.mul_ediv_cancel_left _ (by omega)
   have kd:Bd (k+1) d:=by
    have h1:Bd (k+1) (q.2-p.2):=Bd.sub bq.2 bp.2
    unfold Bd at *
    rw[ed,Int.natAbs_mul]at h1
    have:1*d.natAbs≤(g:Int).natAbs*d.natAbs:=Nat.mul_le_mul_right _ (by omega)
    omega
   walk_at "z"
   refine Zcn (by omega) (Bd.div kg (by omega)) ?_
   rw[Int.fdiv_eq_ediv_of_nonneg _ (by omega),db]
   walk_at "z"
   refine Zcn (by omega) (Bd.div kg (by omega)) ?_
   rw[Int.fdiv_eq_ediv_of_nonneg _ (by omega),dd]
   walk_at "z"
   refine Zcn (by omega) (Bd.div kg (by omega)) ?_
   rw[Int.fdiv_eq_ediv_of_nonneg _ (by omega),da]
   walk_at "z"
   refine(Zuy hb kb hk (by omega) cop).mono ?_
   rintro _ ⟨y,rfl,y0,y1,z,hz⟩
   have ky:Bd k y:=Zd7 kb y0 (by omega)
   walk_at "z"
   refine Zcb (Zdd kd ky (by omega) (by omega)) ?_
   walk_at "z"
   refine Zcb (Zdd bp.1 kb (by omega) (by omega)) ?_
   walk_at "z"
   refine Zcb (Zdd bp.1 (Bd.mul kd ky) (by omega) (by omega)) ?_
   walk_at "z"
   have hL:(p.1*b).natAbs=Int.lcm p.1 q.1:=by
    have h1:=Int.gcd_mul_lcm p.1 q.1
    rw[hg]at h1
    have h2:p.1.natAbs*q.1.natAbs=g*(p.1*b).natAbs:=by
     rw[Int.natAbs_mul]
     conv=>lhs;rw[show q.1.natAbs=g*b.natAbs by rw[eb,Int.natAbs_mul,Int.natAbs_natCast]]
     rw[←Nat.mul_assoc,Nat.mul_comm p.1.natAbs g,Nat.mul_assoc]
    have h3:g*Int.lcm p.1 q.1=g*(p.1*b).natAbs:=by omega
    exact(Nat.eq_of_mul_eq_mul_left (by omega) h3).symm
   have hpb:0<p.1*b:=Int.mul_pos pp hb
   refine Zk (Ze4 (by omega)) ⟨some _,rfl,⟨ZbO (by omega) _,fun x=>?_⟩,fun r e=>?_⟩
   ·rw[Zcg (by omega),ZaW np,ZaW nq]
    have hx0:p.1*(d*y)=(q.2-p.2)+q.1*(d*z):=by
     rw[ed,ea,eb]
     have:(g:Int)*a*(d*y)=g*d*(a*y):=by
      rw[Int.mul_assoc,Int.mul_assoc,Int.mul_left_comm a d y]
     rw[this,hz,Int.mul_add,Int.mul_one]
     congr 1
     rw[Int.mul_assoc,Int.mul_assoc,Int.mul_left_comm d b z]
    constructor
    ·intro h
     have h1:p.1 ∣ x-(p.2+p.1*(d*y)):=Int.dvd_trans (Int.dvd_mul_right _ _) h
     have h2:q.1 ∣ x-(p.2+p.1*(d*y)):=Int.dvd_trans ⟨a,by rw[ea,eb];rw[Int.mul_assoc,Int.mul_assoc,Int.mul_comm a b]⟩ h
     refine⟨?_,?_⟩
     ·have:=Int.dvd_add h1 (Int.dvd_mul_right p.1 (d*y))
      rwa [show x-(p.2+p.1*(d*y))+p.1*(d*y)=x-p.2 by omega]at this
     ·have:=Int.dvd_add h2 (Int.dvd_mul_right q.1 (d*z))
      rwa [show x-(p.2+p.1*(d*y))+q.1*(d*z)=x-q.2 by omega]at this
    ·rintro⟨h1,h2⟩
     have h3:p.1 ∣ x-(p.2+p.1*(d*y)):=by
      have:=Int.dvd_sub h1 (Int.dvd_mul_right p.1 (d*y))
      rwa [show x-p.2-p.1*(d*y)=x-(p.2+p.1*(d*y))by omega]at this
     have h4:q.1 ∣ x-(p.2+p.1*(d*y)):=by
      have:=Int.dvd_sub h2 (Int.dvd_mul_right q.1 (d*z))
      rwa [show x-q.2-q.1*(d*z)=x-(p.2+p.1*(d*y))by omega]at this
     have h5:=Int.lcm_dvd (Int.dvd_natAbs.mpr h3) (Int.dvd_natAbs.mpr h4)
     rw[←hL]at h5
     have h6:(((p.1*b).natAbs:Nat):Int) ∣ (((x-(p.2+p.1*(d*y))).natAbs:Nat):Int):=Int.natCast_dvd_natCast.mpr h5
     exact Int.natAbs_dvd.mp (Int.dvd_natAbs.mp h6)
   ·cases e
    refine .inr (.inr ⟨c1,c2,?_⟩)
    unfold Zan
    rw[if_neg (by omega)]
    show p.1*b=_
    rw[←hL]
    omega
  ·walk_at "z"
   refine⟨none,rfl,fun x h=>c3 ?_,by simp⟩
   rw[ZaW np,ZaW nq]at h
   have h1:(g:Int) ∣ x-p.2:=Int.dvd_trans ⟨a,ea⟩ h.1
   have h2:(g:Int) ∣ x-q.2:=Int.dvd_trans ⟨b,eb⟩ h.2
   have h3:=Int.dvd_sub h1 h2
   rw[show x-p.2-(x-q.2)=q.2-p.2 by omega]at h3
   exact Int.emod_eq_zero_of_dvd h3
theorem ZrT{a b:Int}(ha:Bd k a)(hb:Bd k b): Bd k ((Int.gcd a b:Nat):Int):=by
 unfold Bd at *
 rw[Int.natAbs_natCast]
 by_cases z:a=0
 ·rw[z,Int.gcd_zero_left];exact hb
 ·exact Nat.lt_of_le_of_lt (Nat.gcd_le_left _ (by omega)) ha
noncomputable def ZaM(a b:Option Int): Option Int:=if dec (leO a b)then a else b
noncomputable def addO: Option Int→Option Int→Option Int
 | some a,some b=>some (a+b)
 | _,_=>none
theorem addO_some{b:Option Int}{c:Int}: addO a b=some c↔∃x y,a=some x∧b=some y∧x+y=c:=by
 cases a <;> cases b <;> simp[addO]
theorem leO_total{b:Option Int}(h:¬leO a b): leO b a:=by
 cases a with
 | none=>exact Zju
 | some x=>
  cases b with
  | none=>exact absurd Zju h
  | some y=>rw[leO_some]at h ⊢;omega
theorem ZeN{b:Option Int}: leO (ZaM a b) a:=by
 unfold ZaM
 split
 ·exact ZbP
 ·rename_i h;exact leO_total fun q=>h (ZaE q)
theorem Znq{b:Option Int}: leO (ZaM a b) b:=by
 unfold ZaM
 split
 ·rename_i h;exact dec_iff.mp h
 ·exact ZbP
theorem ZdZ(a b:Option Int): ZaM a b=a∨ZaM a b=b:=by
 unfold ZaM;split <;> simp
theorem ZxJ{b c:Option Int}(h:leO c a)(k:leO c b): leO c (ZaM a b):=by
 rcases ZdZ a b with e | e <;> rw[e] <;> assumption
theorem ZjP{b:Option Int}(h:leO a b): ZaM a b=a:=by unfold ZaM;rw[ZaE h];rfl
theorem Zdv{b c d:Option Int}(h:leO a c)(k:leO b d): leO (addO a b) (addO c d):=by
 intro y e
 obtain⟨p,q,rfl,rfl,rfl⟩:=addO_some.mp e
 obtain⟨p',rfl,l1⟩:=h p rfl
 obtain⟨q',rfl,l2⟩:=k q rfl
 exact⟨p'+q',rfl,by omega⟩
theorem ZrU: addO a (some 0)=a:=by cases a <;> simp[addO]
theorem ZrV: addO (some 0) a=a:=by cases a <;> simp[addO]
theorem Zjg{b c:Option Int}: addO (addO a b) c=addO a (addO b c):=by cases a <;> cases b <;> cases c <;> simp[addO,Int.add_assoc]
theorem Ze5{b:Option Int}: ZlF [oT a,oT b]=some (oT (addO a b)):=by
 apply Pk.eq
 unfold ZlF Zg9
 cases a with
 | none=>
  rw[Zb5]
  walk_at "z"
  rfl
 | some x=>
  cases b with
  | none=>
   rw[Zb5,Zbe]
   walk_at "z"
   rfl
  | some y=>
   rw[Zbe,Zbe]
   walk_at "z"
   rfl
theorem ZpW{b:Option Int}: Zjs [oT a,oT b]=some (oT (ZaM a b)):=by
 apply Pk.eq
 unfold Zjs ZhO ZaM
 walk_at "z"
 refine Zk Zlc ?_
 walk_at "z"
 refine⟨fun e=>?_,fun e=>?_⟩
 ·walk_at "z"
  rw[e];rfl
 ·walk_at "z"
  rw[e];rfl
noncomputable def Zbq(G:Nat→Nat→Option Int)(m:Nat): Nat→Nat→Option Int:=fun i j=>ZaM (G i j) (addO (G i m) (G m j))
theorem Zsu{a b:Nat→Option Int}{c:Option Int}(hn:n<10000): ZkJ [Zak n a,oT c,Zak n b]=some (Zak n fun j=>ZaM (a j) (addO c (b j))):=by
 apply Pk.eq
 unfold ZkJ Zf2 Zak
 walk_at "z"
 refine Zml (n:=n) (a:=fun j=>oT (a j)) (b:=fun j=>oT (b j)) (c:=fun j=>oT (ZaM (a j) (addO c (b j)))) hn ?_ (fun j hj=>?_) ?_
 ·walk_at "z"
  rfl
 ·walk_at "z"
  refine Zk Ze5 ?_
  walk_at "z"
  exact Zk ZpW ⟨ZeC,rfl⟩
 rfl
theorem ZtD(hn:n<10000)(hm:m<n): Zlm [Z1 n G,.int m]=some (Z1 n (Zbq G m)):=by
 apply Pk.eq
 unfold Zlm ZgL Z1
 walk_at "z"
 refine Zbs (n:=n) (a:=fun i=>Zak n (G i)) (b:=fun i=>Zak n (Zbq G m i)) hn ?_ (fun i hi=>?_) ?_
 ·walk_at "z"
  rfl
 ·have h:Zak n (G i)=.lst (tab n fun j=>oT (G i j)):=rfl
  rw[h]
  walk_at "z"
  rw[←h]
  exact Zk (Zsu hn) rfl
 rfl
def Neg(n:Nat)(G:Nat→Nat→Option Int): Prop:=∃i,i<n∧∃b,G i i=some b∧b<0
theorem Zwo(hn:n≤1000)(hd:∀i,i<n→∃b,G i i=some b): ZkP [Z1 n G]=some (.bool (dec (Neg n G))):=by
 apply Pk.eq
 unfold ZkP Zga Z1 Zak
 walk_at "z"
 refine Zbs (n:=n) (a:=fun i=>.int i) (b:=fun i=>.bool (dec (∃b,G i i=some b∧b<0))) (by omega) ?_ (fun i hi=>?_) ?_
 ·walk_at "z"
  rfl
 ·walk_at "z"
  obtain⟨b,e⟩:=hd i hi
  rw[e,Zbe]
  walk_at "z"
  rw[Zi2]
  congr 1
  refine Zhu ⟨fun h=>⟨b,rfl,h⟩,?_⟩
  rintro⟨c,e,h⟩
  cases e
  exact h
 walk_at "z"
 rfl
noncomputable def clG(G:Nat→Nat→Option Int): Nat→Nat→Nat→Option Int
 | 0=>G
 | m+1=>Zbq (clG G m) m
theorem Zqr(h:∃b,G i i=some b): ∃b,Zbq G m i i=some b:=by
 obtain⟨b,e⟩:=h
 have:=ZeN (a:=G i i) (b:=addO (G i m) (G m i))
 rw[e]at this
 obtain⟨c,e2,_⟩:=this b rfl
 exact⟨c,by unfold Zbq;rw[e];exact e2⟩
theorem ZmZ{n:Nat}{G:Nat→Nat→Option Int}(hd:∀i,i<n→∃b,G i i=some b): ∀m i,i<n→∃b,clG G m i i=some b
 | 0=>hd
 | m+1=>fun i hi=>Zqr (ZmZ hd m i hi)
theorem Zvp(h0:0<n)(hn:n≤1000)(hd:∀i,i<n→∃b,G i i=some b): Pk (ZhQ [Z1 n G]) fun t=>(t=Z1 n (clG G n)∧∀m,m<n→¬Neg n (clG G (m+1)))∨(t=.none∧∃m,m<n∧Neg n (clG G (m+1))):=by
 unfold ZhQ ZhP
 have hg:Z1 n G=.lst (tab n fun i=>Zak n (G i)):=rfl
 walk_at "z"
 refine Zxz (n:=n) (a:=fun i=>.int i) h0 ?_ (P:=fun i σ=>σ 1=some (Z1 n (clG G i))∧∀m,m<i→¬Neg n (clG G (m+1))) ⟨rfl,by omega⟩ ?_ ?_
 ·walk_at "z"
  rw[hg]
  walk_at "z"
  rfl
 ·rintro i σ hi ⟨e1,e2⟩
  walk_at "z"
  refine Zk (ZtD (by omega) hi) ?_
  walk_at "z"
  refine Zk (Zwo hn fun a ha=>Zqr (ZmZ hd i a ha)) ?_
  walk_at "z"
  refine⟨fun e=>?_,fun e=>?_⟩
  ·walk_at "z"
   exact .inr ⟨rfl,i,hi,dec_iff.mp e⟩
  ·walk_at "z"
   refine⟨by walk_at "r",fun m hm=>?_⟩
   by_cases q:m=i
   ·subst q
    intro h
    have h2:dec (Neg n (Zbq (clG G m) m))=true:=ZaE h
    rw[h2]at e
    cases e
   ·exact e2 m (by omega)
 ·rintro σ ⟨e1,e2⟩
  walk_at "z"
  exact .inl ⟨rfl,e2⟩
theorem Zkp{G:Nat→Nat→Option Int}: ∀m i j,leO (clG G m i j) (G i j)
 | 0=>fun _ _=>ZbP
 | m+1=>fun i j=>Zcw ZeN (Zkp m i j)
theorem ZeF(hd:∀i,i<n→G i i=some 0)(hn:∀k,k<m→¬Neg n (clG G (k+1))): ∀i,i<n→clG G m i i=some 0:=by
 intro i hi
 obtain⟨b,e⟩:=ZmZ (fun i hi=>⟨0,hd i hi⟩) m i hi
 have h:=Zkp m i i (G:=G)
 rw[hd i hi,e]at h
 have h1:=leO_some.mp h
 have h2:¬b<0:=fun q=>by
  cases m with
  | zero=>have:=hd i hi;rw[show clG G 0 i i=G i i from rfl,this]at e;cases e;omega
  | succ m=>exact hn m (by omega) ⟨i,hi,b,e,q⟩
 rw[e,show b=0 by omega]
theorem Znr{n:Nat}{G:Nat→Nat→Option Int}(hd:∀i,i<n→G i i=some 0): ∀m,m≤n→(∀k,k<m→¬Neg n (clG G (k+1)))→∀k,k<m→∀i j,i<n→j<n→leO (clG G m i j) (addO (clG G m i k) (clG G m k j))
 | 0,_,_,k,hk=>by omega
 | m+1,hm,hn,k,hk=>by
  intro i j hi hj
  have z:=ZeF hd (fun k hk=>hn k (by omega):∀k,k<m→_)
  have ih:=Znr hd m (by omega) (fun k hk=>hn k (by omega))
  generalize hD:clG G m=D at z ih
  have hs:clG G (m+1)=Zbq D m:=by rw[←hD];rfl
  rw[hs]
  have zm:=z m (by omega)
  have cm:∀a,Zbq D m a m=D a m:=fun a=>by unfold Zbq;rw[zm,ZrU];exact ZjP ZbP
  have rm:∀b,Zbq D m m b=D m b:=fun b=>by unfold Zbq;rw[zm,ZrV];exact ZjP ZbP
  by_cases q:k=m
  ·subst q
   rw[cm,rm]
   exact Znq
  ·have hk':k<m:=by omega
   have t1:=ih k hk' i j hi hj
   have t2:=ih k hk' i m hi (by omega)
   have t3:=ih k hk' m j (by omega) hj
   have t4:=ih k hk' m m (by omega) (by omega)
   rw[zm]at t4
   have dn:leO (Zbq D m i j) (addO (D i m) (D m j)):=Znq
   have d0:leO (Zbq D m i j) (D i j):=ZeN
   rcases ZdZ (D i k) (addO (D i m) (D m k))with e1 | e1 <;> rcases ZdZ (D k j) (addO (D k m) (D m j))with e2 | e2
   ·rw[show Zbq D m i k=_ from e1,show Zbq D m k j=_ from e2]
    exact Zcw d0 t1
   ·rw[show Zbq D m i k=_ from e1,show Zbq D m k j=_ from e2,←Zjg]
    exact Zcw dn (Zdv t2 ZbP)
   ·rw[show Zbq D m i k=_ from e1,show Zbq D m k j=_ from e2,Zjg]
    exact Zcw dn (Zdv ZbP t3)
   ·rw[show Zbq D m i k=_ from e1,show Zbq D m k j=_ from e2,Zjg,←Zjg (a:=D m k)]
    refine Zcw dn (Zdv ZbP ?_)
    have:=Zdv t4 (ZbP (a:=D m j))
    rwa [ZrV]at this
def Zis(n:Nat)(G:Nat→Nat→Option Int)(y:Nat→Int): Prop:=∀i j,i<n→j<n→∀b,G i j=some b→y i-y j≤b
theorem Zmz{n:Nat}{G:Nat→Nat→Option Int}{y:Nat→Int}(h:Zis n G y): ∀m,m≤n→Zis n (clG G m) y
 | 0,_=>h
 | m+1,hm=>by
  have ih:=Zmz h m (by omega)
  intro i j hi hj b e
  rcases ZdZ (clG G m i j) (addO (clG G m i m) (clG G m m j))with e1 | e1
  ·rw[show clG G (m+1) i j=_ from e1]at e;exact ih i j hi hj b e
  ·rw[show clG G (m+1) i j=_ from e1]at e
   obtain⟨p,q,h1,h2,h3⟩:=addO_some.mp e
   have:=ih i m hi (by omega) p h1
   have:=ih m j (by omega) hj q h2
   omega
theorem Zvq{y:Nat→Int}(h:Zis n G y): ¬Neg n G:=by
 rintro⟨i,hi,b,e,hb⟩
 have:=h i i hi hi b e
 omega
theorem Zpy(h:Zaw n G R x): Zis (n+1) G (Zab x):=fun i j hi hj b e=>h.1 i j hi hj b e
theorem Zl8{k:Int}: Zln [.int k]=some (.bool true):=by
 apply Pk.eq
 unfold Zln ZgM
 walk_at "z"
 rfl
theorem ZxK(hn:n≤1000)(hd:∀i,i<n→G i i=some 0): ZlG [Z1 n G,.int n]=some (.bool true):=by
 apply Pk.eq
 unfold ZlG Zha Z1 Zak
 walk_at "z"
 refine Zco (n:=n) (a:=fun i=>.int i) (P:=fun i σ=>σ 0=some (Z1 n G)∧σ 1=some (.int n)) ?_ ⟨rfl,rfl⟩ ?_ ?_
 ·walk_at "z"
  rfl
 ·rintro i σ hi ⟨e0,e1⟩
  unfold Z1 Zak at e0
  walk_at "z"
  refine Zco (n:=n) (a:=fun j=>oT (G i j)) (P:=fun j σ=>σ 0=some (Z1 n G)∧σ 1=some (.int n)∧σ 2=some (.int i)) ?_ ⟨by walk_at "r",by walk_at "r",by walk_at "r"⟩ ?_ ?_
  ·walk_at "z"
   rfl
  ·rintro j σ hj ⟨f0,f1,f2⟩
   cases G i j with
   | none=>
    rw[Zb5]
    walk_at "z"
    exact⟨by walk_at "r",by walk_at "r",by walk_at "r"⟩
   | some b=>
    rw[Zbe]
    walk_at "z"
    refine Zk Zl8 ?_
    walk_at "z"
    exact⟨by walk_at "r",by walk_at "r",by walk_at "r"⟩
  ·rintro σ ⟨f0,f1,f2⟩
   unfold Z1 Zak at f0
   walk_at "z"
   rw[hd i hi,Zbe]
   walk_at "z"
   exact⟨by walk_at "r",by walk_at "r"⟩
 ·rintro σ ⟨e0,e1⟩
  walk_at "z"
  rfl
section
variable {Q:T→Prop}
theorem Zjp{p:PE}(h:Pk (p σ) fun t=>∃ts,t=.lst ts∧Q (.lst (ts.drop k))): Pk (Zkm p k σ) Q:=by
 obtain⟨_,e,ts,rfl,q⟩:=h
 exact⟨_,by simp only[Zkm,e,Option.bind_some],q⟩
end
noncomputable abbrev Sp:=Option Int×Option Int
noncomputable def spT(s:Sp): T:=.tup [oT s.1,oT s.2]
def SBd(k:Nat)(s:Sp): Prop:=(∀x,s.1=some x→Bd k x)∧∀x,s.2=some x→Bd k x
theorem Zq9{x:Int}(h:Bd k x): Bd k (Zal x):=by unfold Zal;unfold Bd at *;split <;> omega
def InS(s:Sp)(x:Int): Prop:=(∀l,s.1=some l→l≤x)∧∀h,s.2=some h→x≤h
theorem ZgG{k:Int}(hi:i≤100000)(ha:∀x,a=some x→Bd i x)(hk:Bd i k): ZiU [oT a,.int k]=some (oT (a.map fun x=>x*k)):=by
 apply Pk.eq
 unfold ZiU ZgN
 cases a with
 | none=>
  simp only[Zb5,Option.map_none]
  walk_at "z"
  rfl
 | some x=>
  simp only[Zbe,Option.map_some]
  walk_at "z"
  refine Zcb (Zdd (ha x rfl) hk (by omega) (by omega)) ?_
  rfl
noncomputable def Zbv(s:Sp)(k:Int): Sp:=if k=0 then(some 0,some 0)else if k<0 then(s.2.map fun x=>x*k,s.1.map fun x=>x*k)else(s.1.map fun x=>x*k,s.2.map fun x=>x*k)
theorem Zsv{s:Sp}{k:Int}(hi:i≤100000)(hs:SBd i s)(hk:Bd i k): ZkK [spT s,.int k]=some (spT (Zbv s k)):=by
 apply Pk.eq
 unfold ZkK Zf3 Zbv spT
 by_cases c:k=0
 ·walk_at "z"
  rw[if_pos c]
  rfl
 ·rw[if_neg c]
  walk_at "z"
  refine Zk (ZgG hi hs.1 hk) ?_
  walk_at "z"
  refine Zk (ZgG hi hs.2 hk) ?_
  by_cases d:k<0
  ·walk_at "z"
   rw[if_pos d]
  ·walk_at "z"
   rw[if_neg d]
noncomputable def ZfM(s u:Sp): Sp:=(addO s.1 u.1,addO s.2 u.2)
theorem ZsI{s u:Sp}: ZkQ [spT s,spT u]=some (spT (ZfM s u)):=by
 apply Pk.eq
 unfold ZkQ Zgb spT
 walk_at "z"
 refine Zk Ze5 ?_
 walk_at "z"
 refine Zk Ze5 ?_
 walk_at "z"
 rfl
noncomputable def Zbj(c:Nat→Int)(S:Nat→Sp): Nat→Sp
 | 0=>(some (c 0),some (c 0))
 | j+1=>ZfM (Zbj c S j) (Zbv (S j) (c (j+1)))
theorem ZmA: (tab (n+1) f).drop 1=tab n fun i=>f (i+1):=by
 apply List.ext_getElem
 ·simp[tab]
 ·intro i h1 h2
  simp[tab]
theorem ZsY{S:Nat→Sp}(hn:n≤100)(hi:i≤100000)(bc:∀j,j<n+1→Bd i (c j))(bS:∀j,j<n→SBd i (S j)): ZkW [.lst (tab (n+1) fun j=>.int (c j)),.lst (tab n fun j=>spT (S j))]=some (spT (Zbj c S n)):=by
 apply Pk.eq
 unfold ZkW Zgi
 walk_at "z"
 refine ZeB (n:=n) (a:=fun j=>.int (c (j+1))) (c:=fun j=>spT (S j)) (P:=fun j σ=>σ 2=some (spT (Zbj c S j))) ?_ rfl ?_ ?_
 ·refine Zng ?_
  refine Zjp ?_
  walk_at "z"
  refine⟨_,rfl,?_⟩
  rw[ZmA]
  walk_at "z"
  rfl
 ·rintro j σ hj e2
  walk_at "z"
  refine Zk (Zsv hi (bS j hj) (bc (j+1) (by omega))) ?_
  walk_at "z"
  refine Zk ZsI ?_
  walk_at "z"
  exact Zb2
 ·rintro σ e2
  walk_at "z"
  rfl
noncomputable def Zap(c:Nat→Int)(R:Nat→Int×Int): Nat→Int×Int
 | 0=>(0,c 0)
 | j+1=>ZbK (Zap c R j) (Zcc (R j) (c (j+1)))
noncomputable def ZaJ(c:Nat→Int)(R:Nat→Int×Int): Nat→Int
 | 0=>0
 | j+1=>Int.gcd (ZaJ c R j) (c (j+1)*(R j).1)
noncomputable def Zby(c:Nat→Int)(R:Nat→Int×Int): Nat→Int
 | 0=>c 0
 | j+1=>Zby c R j+c (j+1)*(R j).2
theorem ZcW(c:Nat→Int)(R:Nat→Int×Int): ∀j,0≤ZaJ c R j
 | 0=>by show(0:Int)≤0;decide
 | j+1=>by show(0:Int)≤((Int.gcd _ _:Nat):Int);omega
theorem Zm0{c:Nat→Int}{R:Nat→Int×Int}{n i:Nat}(bc:∀j,j<n+1→Bd i (c j))(bR:∀j,j<n→RBd i (R j)): ∀j,j≤n→Bd (i+i) (ZaJ c R j)
 | 0,_=>ZaI
 | j+1,h=>ZrT (Zm0 bc bR j (by omega)) ((bc (j+1) (by omega)).mul (bR j (by omega)).1)
theorem Zra{c:Nat→Int}{R:Nat→Int×Int}{n i:Nat}(bc:∀j,j<n+1→Bd i (c j))(bR:∀j,j<n→RBd i (R j)): ∀j,j≤n→Bd (i+i+j) (Zby c R j)
 | 0,_=>(bc 0 (by omega)).mono (by omega)
 | j+1,h=>(Zra bc bR j (by omega)).add (((bc (j+1) (by omega)).mul (bR j (by omega)).2).mono (by omega))
theorem ZoK{m a b:Int}(h:0≤m)(hd:m ∣ a-b): Zan m a=Zan m b:=by
 refine Zlr (ZbO h _) (ZbO h _) fun x=>?_
 rw[Zcg h,Zcg h]
 constructor
 ·intro q
  have:=Int.dvd_add q hd
  rwa [show x-a+(a-b)=x-b by omega]at this
 ·intro q
  have:=Int.dvd_sub q hd
  rwa [show x-b-(a-b)=x-a by omega]at this
theorem Zjh{m:Int}(h:0≤m): m ∣ (Zan m r).2-r:=by
 have:=(Zcg (r:=r) h (Zan m r).2).mp (ZbO h r).self
 exact this
theorem ZcL{m:Int}: (Zan m r).1=m:=by
 unfold Zan
 split
 ·rename_i h;exact h.symm
 ·rfl
theorem ZcX{c:Nat→Int}{R:Nat→Int×Int}{n:Nat}(ok:∀j,j<n→RestOk (R j)): ∀j,j≤n→Zap c R j=Zan (ZaJ c R j) (Zby c R j)
 | 0,_=>rfl
 | j+1,h=>by
  have ih:=ZcX (c:=c) ok j (by omega)
  have h0:=ZcW c R j
  have hr:=(ok j (by omega)).nn
  show ZbK (Zap c R j) (Zcc (R j) (c (j+1)))=_
  rw[ih]
  unfold ZbK Zcc
  rw[ZcL,ZcL]
  have hab:0≤(R j).1*Zal (c (j+1)):=Int.mul_nonneg hr (Zdg _)
  have eg:((Int.gcd (ZaJ c R j) ((R j).1*Zal (c (j+1))):Nat):Int)=ZaJ c R (j+1):=by
   show _=((Int.gcd (ZaJ c R j) (c (j+1)*(R j).1):Nat):Int)
   congr 1
   unfold Int.gcd
   rw[Int.natAbs_mul,Int.natAbs_mul,Zqq,Nat.mul_comm]
  rw[eg]
  have h1:ZaJ c R (j+1) ∣ ZaJ c R j:=Int.gcd_dvd_left ..
  have h2:ZaJ c R (j+1) ∣ (R j).1*Zal (c (j+1)):=by rw[←eg];exact Int.gcd_dvd_right ..
  refine ZoK (ZcW _ _ _) ?_
  have a1:=Int.dvd_trans h1 (Zjh (r:=Zby c R j) h0)
  have a2:=Int.dvd_trans h2 (Zjh (r:=(R j).2*c (j+1)) hab)
  have:=Int.dvd_add a1 a2
  rw[show Zby c R (j+1)=Zby c R j+c (j+1)*(R j).2 from rfl,Int.mul_comm (c (j+1))]
  generalize (Zan (ZaJ c R j) (Zby c R j)).2=u at *
  generalize (Zan ((R j).1*Zal (c (j+1))) ((R j).2*c (j+1))).2=v at *
  generalize (R j).2*c (j+1)=z at *
  rwa [show u-Zby c R j+(v-z)=u+v-(Zby c R j+z)by omega]at this
theorem Zuz{b:Option Int}: Zjn [oT a,oT b]=some (.bool (dec (∃x y,a=some x∧b=some y∧y<x))):=by
 apply Pk.eq
 unfold Zjn Zhx
 cases a with
 | none=>
  rw[Zb5]
  walk_at "z"
  rw[Zaz (by rintro⟨x,y,h,_⟩;cases h)]
 | some x=>
  cases b with
  | none=>
   rw[Zb5,Zbe]
   walk_at "z"
   rw[Zaz (by rintro⟨x,y,_,h,_⟩;cases h)]
  | some y=>
   rw[Zbe,Zbe]
   walk_at "z"
   congr 1
   by_cases h:y<x
   ·rw[ZaE ⟨x,y,rfl,rfl,h⟩];simp[h]
   ·rw[Zaz (by rintro⟨x',y',h1,h2,h3⟩;cases h1;cases h2;exact h h3)];simp[h]
theorem Zvr{s:Sp}{x k:Int}(h:InS s x): InS (Zbv s k) (k*x):=by
 unfold Zbv
 obtain⟨a,b⟩:=s
 by_cases c:k=0
 ·rw[if_pos c,c,Int.zero_mul]
  exact⟨fun l e=>by cases e;omega,fun l e=>by cases e;omega⟩
 ·rw[if_neg c]
  by_cases d:k<0
  ·rw[if_pos d]
   refine⟨fun l e=>?_,fun l e=>?_⟩
   ·cases b with
    | none=>cases e
    | some y=>
     cases e
     have:=h.2 y rfl
     show y*k≤k*x
     rw[Int.mul_comm]
     exact Int.mul_le_mul_of_nonpos_left (a:=k) (by omega) this
   ·cases a with
    | none=>cases e
    | some y=>
     cases e
     have:=h.1 y rfl
     show k*x≤y*k
     rw[Int.mul_comm y]
     exact Int.mul_le_mul_of_nonpos_left (a:=k) (by omega) this
  ·rw[if_neg d]
   refine⟨fun l e=>?_,fun l e=>?_⟩
   ·cases a with
    | none=>cases e
    | some y=>
     cases e
     have:=h.1 y rfl
     show y*k≤k*x
     rw[Int.mul_comm]
     exact Int.mul_le_mul_of_nonneg_left this (show 0≤k by omega)
   ·cases b with
    | none=>cases e
    | some y=>
     cases e
     have:=h.2 y rfl
     show k*x≤y*k
     rw[Int.mul_comm y]
     exact Int.mul_le_mul_of_nonneg_left this (show 0≤k by omega)
theorem Zwp{s u:Sp}{x:Int}(h:InS s x)(k:InS u y): InS (ZfM s u) (x+y):=by
 refine⟨fun l e=>?_,fun l e=>?_⟩
 ·obtain⟨a,b,h1,h2,rfl⟩:=addO_some.mp e
  have:=h.1 a h1
  have:=k.1 b h2
  omega
 ·obtain⟨a,b,h1,h2,rfl⟩:=addO_some.mp e
  have:=h.2 a h1
  have:=k.2 b h2
  omega
noncomputable def Z2(R:Nat→Int×Int): Nat→Int×Int:=cn (0,0) R
theorem ZAe(R:Nat→Int×Int): cn (T.tup [.int 0,.int 0]) (fun i=>ZL (R i))=fun i=>ZL (Z2 R i):=by
 funext i;cases i <;> rfl
theorem Zon(hn:n<9000): Zgl [ZaU n R]=some (ZaU (n+1) (Z2 R)):=by
 apply Pk.eq
 unfold Zgl Zgj ZaU
 walk_at "z"
 rw[ZAe]
def RB(M:Int)(k:Nat)(q:Int×Int): Prop:=RestOk q∧(q.1=0∨q.1 ∣ M)∧Bd k q.2
theorem RB.mono(h:RB M i q)(hij:i≤j): RB M j q:=⟨h.1,h.2.1,h.2.2.mono hij⟩
theorem RB.bd(hM:0<M)(bM:Bd k M)(h:RB M k q): RBd k q:=by
 refine⟨?_,h.2.2⟩
 rcases h.2.1 with e | e
 ·rw[e];exact ZaI
 ·exact Zd7 bM h.1.nn (Int.le_of_dvd hM e)
theorem ZdV(h:∀t,t<n→RB M k (R t)): ∀i,i<n+1→RB M k (Z2 R i)
 | 0,_=>⟨.inl rfl,.inl rfl,ZaI⟩
 | i+1,hi=>h i (by omega)
def Zdh(n:Nat)(G:Nat→Nat→Option Int)(R:Nat→Int×Int)(i:Nat)(m:Nat)(x:Int): Prop:=Z6 (Z2 R i) x∧∀j,j<m→∀a b,G i j=some a→G j i=some b→a+b=0→Z6 (Z2 R j) (x-a)
def Zkh(n:Nat)(G:Nat→Nat→Option Int)(R:Nat→Int×Int)(M:Int)(k:Nat)(i m:Nat)(o:Option (Int×Int)): Prop:=match o with
 | none=>∀x,¬Zdh n G R i m x
 | some q=>RB M k q∧∀x,Z6 q x↔Zdh n G R i m x
theorem ZtX(h:RestOk q)(a x:Int): Z6 (ZbK q (0,a)) x↔Z6 q (x-a):=by
 unfold ZbK
 rw[Zcg (by omega),ZaW h.nn]
 simp only[Int.gcd_zero_right]
 rw[Int.natAbs_of_nonneg h.nn,show x-(q.2+a)=x-a-q.2 by omega]
theorem ZsJ(hn:n≤100)(hi:i<n+1)(hk:k≤7000)(hM:0<M)(bM:Bd k M)(bG:∀a b c,a<n+1→b<n+1→G a b=some c→Bd k c)(hR:∀t,t<n→RB M k (R t)): Pk (Zee [Z1 (n+1) G,ZaU (n+1) (Z2 R),.int i]) fun t=>∃o,t=oR o∧Zkh n G R M (k+1) i (n+1) o:=by
 unfold Zee Zgc
 have hF:=ZdV hR
 have bM1:Bd (k+1) M:=bM.mono (by omega)
 have hr:ZaU (n+1) (Z2 R)=.lst (tab (n+1) fun i=>ZL (Z2 R i)):=rfl
 rw[hr]
 walk_at "z"
 refine ZeB (n:=n+1) (a:=fun j=>.int j) (c:=fun j=>ZL (Z2 R j)) (P:=fun m σ=>∃o,σ 0=some (Z1 (n+1) G)∧σ 1=some (.lst (tab (n+1) fun i=>ZL (Z2 R i)))∧σ 2=some (.int i)∧σ 3=some (oR o)∧Zkh n G R M (k+1) i m o) ?_ ⟨some (Z2 R i),by walk_at "r",by walk_at "r",by walk_at "r",by walk_at "r",(hF i hi).mono (by omega),fun x=>⟨fun h=>⟨h,by omega⟩,fun h=>h.1⟩⟩ ?_ ?_
 ·walk_at "z"
  rfl
 ·rintro j σ hj ⟨o,e0,e1,e2,e3,ho⟩
  unfold Z1 Zak at e0
  cases o with
  | none=>
   have e3':σ 3=some .none:=e3
   clear e3
   walk_at "z"
   refine⟨none,by walk_at "r",by walk_at "r",by walk_at "r",by walk_at "r",fun x h=>ho x ⟨h.1,fun j' hj'=>h.2 j' (by omega)⟩⟩
  | some q=>
   have e3':σ 3=some (.tup [.int q.1,.int q.2]):=e3
   clear e3
   walk_at "z"
   refine Zk Ze5 ?_
   walk_at "z"
   refine ZbS (Zsf (n:=0)) (.int (n:=0)) ?_
   walk_at "z"
   have stay:(∀a b,G i j=some a→G j i=some b→¬a+b=0)→Zkh n G R M (k+1) i (j+1) (some q):=fun h=>⟨ho.1,fun x=>(ho.2 x).trans ⟨fun hx=>⟨hx.1,fun j' hj' a b ha hb hab=>by
     by_cases q':j'=j
     ·subst q';exact absurd hab (h a b ha hb)
     ·exact hx.2 j' (by omega) a b ha hb hab⟩,fun hx=>⟨hx.1,fun j' hj'=>hx.2 j' (by omega)⟩⟩⟩
   refine⟨fun e=>?_,fun e=>?_⟩
   ·have e':=dec_iff.mp e
    rw[←Zbe,Zy3]at e'
    obtain⟨a,b,ha,hb,hab⟩:=addO_some.mp e'
    walk_at "z"
    rw[ha,Zbe]
    have hj2:=hF j hj
    have ba:=bG i j a hi hj ha
    refine Zk (Zld (p:=Z2 R j) (q:=(0,a)) (k:=k) (by omega) (hj2.bd hM bM).1 ZaI) ?_
    have hpl:RB M (k+1) (ZbK (Z2 R j) (0,a)):=by
     refine⟨Zmy _ _,?_,?_⟩
     ·unfold ZbK Zan
      simp only[Int.gcd_zero_right]
      rw[Int.natAbs_of_nonneg hj2.1.nn]
      split
      ·exact .inl rfl
      ·exact hj2.2.1
     ·have hm:=(hj2.bd hM bM).1
      refine(Zep (k:=k+1) (by omega) ?_ (Bd.add hj2.2.2 ba)).2
      simp only[Int.gcd_zero_right]
      rw[Int.natAbs_of_nonneg hj2.1.nn]
      exact hm.mono (by omega)
    walk_at "z"
    refine(ZiZ (p:=q) (q:=ZbK (Z2 R j) (0,a)) (k:=k+1) (by omega) ho.1.1 hpl.1 (ho.1.bd hM bM1) (hpl.bd hM bM1)).mono ?_
    rintro _ ⟨o',rfl,mt,wh⟩
    refine⟨o',by walk_at "r",by walk_at "r",by walk_at "r",by walk_at "r",?_⟩
    have hset:∀x,(Z6 q x∧Z6 (ZbK (Z2 R j) (0,a)) x)↔Zdh n G R i (j+1) x:=fun x=>by
     rw[ho.2 x,ZtX hj2.1]
     constructor
     ·rintro⟨h1,h2⟩
      refine⟨h1.1,fun j' hj' c d hc hd hcd=>?_⟩
      by_cases q':j'=j
      ·subst q';rw[ha]at hc;cases hc;exact h2
      ·exact h1.2 j' (by omega) c d hc hd hcd
     ·intro h
      exact⟨⟨h.1,fun j' hj'=>h.2 j' (by omega)⟩,h.2 j (by omega) a b ha hb hab⟩
    cases o' with
    | none=>exact fun x hx=>mt x ((hset x).mpr hx)
    | some r=>
     refine⟨⟨mt.1,?_,?_⟩,fun x=>(mt.2 x).trans (hset x)⟩
     ·rcases wh r rfl with h | h | ⟨h1,h2,h3⟩
      ·rw[h];exact ho.1.2.1
      ·rw[h];exact hpl.2.1
      ·right
       rw[h3]
       exact Int.coe_lcm_dvd (ho.1.2.1.resolve_left h1) (hpl.2.1.resolve_left h2)
     ·rcases wh r rfl with h | h | ⟨h1,h2,h3⟩
      ·rw[h];exact ho.1.2.2
      ·rw[h];exact hpl.2.2
      ·rcases mt.1 with z | z
       ·have:(Int.lcm q.1 (ZbK (Z2 R j) (0,a)).1)≠0:=Int.lcm_ne_zero h1 h2
        omega
       ·have hd:r.1 ∣ M:=by
         rw[h3]
         exact Int.coe_lcm_dvd (ho.1.2.1.resolve_left h1) (hpl.2.1.resolve_left h2)
        exact Zd7 bM1 z.2.1 (by have:=Int.le_of_dvd hM hd;omega)
   ·walk_at "z"
    refine⟨some q,by walk_at "r",by walk_at "r",by walk_at "r",by walk_at "r",stay fun a b ha hb hab=>?_⟩
    have:dec (oT (addO (G i j) (G j i))=.int 0)=true:=ZaE (by rw[ha,hb];simp[addO,oT,hab])
    rw[this]at e
    cases e
 ·rintro σ ⟨o,e0,e1,e2,e3,ho⟩
  walk_at "z"
  exact⟨o,rfl,ho⟩
theorem Zzb: ZbZ 1 1 1=some []:=by
 unfold ZbZ
 rw[if_pos (by decide +kernel)]
 rfl
theorem ZnK: Pln 1 (oR o):=by
 cases o with
 | none=>exact .none
 | some q=>exact Zj5
theorem oR_none: oR o=.none↔o=none:=by cases o <;> simp[oR,ZL]
def Hand(n:Nat)(G:Nat→Nat→Option Int)(R R':Nat→Int×Int)(M:Int)(k:Nat): Prop:=∀t,t<n→RB M k (R' t)∧∀x,Z6 (R' t) x↔Zdh n G R (t+1) (n+1) x
theorem ZsZ(hn:n≤100)(hk:k≤7000)(hM:0<M)(bM:Bd k M)(bG:∀a b c,a<n+1→b<n+1→G a b=some c→Bd k c)(hR:∀t,t<n→RB M k (R t)): Pk (Zdt [Zt n G R]) fun t=>(∃R',t=Zt n G R'∧Hand n G R R' M (k+1))∨(t=.none∧∃i,i<n∧∀x,¬Zdh n G R (i+1) (n+1) x):=by
 unfold Zdt Zgn
 have ht:Zt n G R=.tup [Z1 (n+1) G,ZaU n R]:=rfl
 rw[ht]
 walk_at "z"
 refine Zk (Zon (by omega)) ?_
 have hr:ZaU (n+1) (Z2 R)=.lst (tab (n+1) fun i=>ZL (Z2 R i)):=rfl
 walk_at "z"
 refine ZpV oR (fun t o=>Zkh n G R M (k+1) (t+1) (n+1) o) (n:=n) (a:=fun i=>.int (i+1)) (by omega) ?_ (fun t ht=>?_) none (fun y hy=>?_)
 ·by_cases h0:n=0
  ·subst h0
   exact⟨[],Zh4 (a:=1) (b:=1) rfl Zzb,rfl⟩
  ·rw[hr]
   walk_at "z"
   refine Rn.two 1 n (by decide) (by omega) (by omega) (by omega) ?_
   refine Za0 fun i _=>?_
   congr 1
   omega
 ·walk_at "z"
  refine(ZsJ (i:=t+1) hn (by omega) hk hM bM bG hR).mono ?_
  rintro _ ⟨o,rfl,ho⟩
  exact⟨o,rfl,ho⟩
 ·walk_at "z"
  refine Zkn (.none (n:=0)) (ZeJ (n:=1) fun i _=>ZnK) ?_
  by_cases hc:∃i,i<n∧y i=none
  ·obtain⟨i,hi,ei⟩:=hc
   rw[ZaE (show T.none∈tab n fun i=>oR (y i)from List.mem_of_getElem? (i:=i) (by rw[ZaL hi,ei];rfl))]
   walk_at "z"
   refine .inr ⟨rfl,i,hi,?_⟩
   have:=hy i hi
   rw[ei]at this
   exact this
  ·rw[Zaz (show ¬T.none∈tab n fun i=>oR (y i)from fun h=>by
    obtain⟨i,hi,e⟩:=Zcx h
    exact hc ⟨i,hi,oR_none.mp e.symm⟩)]
   walk_at "z"
   have hs:∀i,i<n→y i=some ((y i).getD (1,0)):=fun i hi=>by
    cases e:y i with
    | none=>exact absurd ⟨i,hi,e⟩ hc
    | some q=>rfl
   refine .inl ⟨fun i=>(y i).getD (1,0),?_,fun t ht=>?_⟩
   ·unfold Zt ZaU
    congr 4
    refine Za0 fun i hi=>?_
    conv=>lhs;rw[hs i hi]
    rfl
   ·have:=hy t ht
    rw[hs t ht]at this
    exact this
theorem Zn5: Zdt [.none]=some .none:=by
 apply Pk.eq
 unfold Zdt Zgn
 walk_at "z"
 rfl
noncomputable def Zam(R:Nat→Int×Int)(i j:Nat): Int×Int:=ZbK (Z2 R i) (Zcc (Z2 R j) (-1))
noncomputable def Za8(b:Option Int)(q:Int×Int): Option Int:=match b with
 | some b=>ZcP q b
 | none=>if q.1=0 then some q.2 else none
noncomputable def ZaS(G:Nat→Nat→Option Int)(R:Nat→Int×Int): Nat→Nat→Option Int:=fun i j=>Za8 (G i j) (Zam R i j)
def Zdy(n:Nat)(G:Nat→Nat→Option Int)(R:Nat→Int×Int): Prop:=∃i j,i<n+1∧j<n+1∧∃b,G i j=some b∧ZaS G R i j=none
theorem Zsw{b:Option Int}(hq:0≤q.1): ZiG [oT b,ZL q]=some (oT (Za8 b q)):=by
 apply Pk.eq
 unfold ZiG Zf4 Za8
 cases b with
 | none=>
  have ep:ZL q=.tup [.int q.1,.int q.2]:=rfl
  rw[Zb5,ep]
  by_cases c:q.1=0
  ·walk_at "z"
   simp[c,oT]
  ·walk_at "z"
   simp[c,oT]
 | some b=>
  rw[Zbe]
  walk_at "z"
  exact Zk (Ztl hq) rfl
theorem Zs0{b:Nat→Option Int}(hn:n≤100)(hi:i<n+1)(hk:k≤7000)(hM:0<M)(bM:Bd k M)(hR:∀t,t<n→RB M k (R t)): Pk (Zk0 [Zak (n+1) b,ZL (Z2 R i),ZaU (n+1) (Z2 R)]) fun t=>(t=Zak (n+1) (fun j=>Za8 (b j) (Zam R i j))∧∀j,j<n+1→∀c,b j=some c→Za8 (b j) (Zam R i j)≠none)∨(t=.none∧∃j,j<n+1∧∃c,b j=some c∧Za8 (b j) (Zam R i j)=none):=by
 unfold Zk0 ZkZ
 have hF:=ZdV hR
 have hb:Zak (n+1) b=.lst (tab (n+1) fun j=>oT (b j)):=rfl
 have hr:ZaU (n+1) (Z2 R)=.lst (tab (n+1) fun i=>ZL (Z2 R i)):=rfl
 rw[hb,hr]
 walk_at "z"
 refine ZeB (n:=n+1) (a:=fun j=>oT (b j)) (c:=fun j=>ZL (Z2 R j)) (P:=fun m σ=>σ 1=some (ZL (Z2 R i))∧σ 3=some (.lst (tab m fun j=>oT (Za8 (b j) (Zam R i j))))∧∀j,j<m→∀c,b j=some c→Za8 (b j) (Zam R i j)≠none) ?_ ⟨by walk_at "r",by walk_at "r",by omega⟩ ?_ ?_
 ·walk_at "z"
  rfl
 ·rintro j σ hj ⟨e1,e3,st⟩
  have h1:=hF i hi
  have h2:=hF j hj
  have b1:=h1.bd hM bM
  have b2:=h2.bd hM bM
  have bt:Bd (k+1) (Zcc (Z2 R j) (-1)).1:=by
   refine(Zep (k:=k+1) (Int.mul_nonneg h2.1.nn (Zdg _)) ?_ ?_).1
   ·have:=Bd.mul b2.1 (show Bd 1 (Zal (-1))by unfold Bd;decide);exact this
   ·have:=Bd.mul b2.2 (show Bd 1 (-1)by unfold Bd;decide);exact this
  walk_at "z"
  refine Zk (Zk7 (p:=Z2 R j) (c:=-1) (k:=k+1) (by omega) h2.1.nn ⟨b2.1.mono (by omega),b2.2.mono (by omega)⟩ (show Bd (k+1) (-1)from(show Bd 1 (-1)by unfold Bd;decide).mono (by omega))) ?_
  walk_at "z"
  refine Zk (Zld (k:=k+1) (by omega) (b1.1.mono (by omega)) bt) ?_
  walk_at "z"
  refine Zk (Zsw (Zmy _ _).nn) ?_
  have hd:ZbK (Z2 R i) (Zcc (Z2 R j) (-1))=Zam R i j:=rfl
  rw[hd]
  walk_at "z"
  have app:∀w,w=oT (Za8 (b j) (Zam R i j))→tab j (fun j=>oT (Za8 (b j) (Zam R i j)))++[w]=tab (j+1) fun j=>oT (Za8 (b j) (Zam R i j)):=fun w e=>by rw[e];exact ZdT
  cases hl:Za8 (b j) (Zam R i j)with
  | none=>
   rw[Zb5]
   walk_at "z"
   cases hbj:b j with
   | none=>
    rw[Zb5]
    walk_at "z"
    rw[app _ (by rw[hl];rfl)]
    refine⟨by walk_at "r",by walk_at "r",fun j' hj' c hc=>?_⟩
    by_cases q:j'=j
    ·subst q;rw[hbj]at hc;cases hc
    ·exact st j' (by omega) c hc
   | some c=>
    rw[Zbe]
    walk_at "z"
    exact .inr ⟨rfl,j,hj,c,hbj,hl⟩
  | some v=>
   rw[Zbe]
   walk_at "z"
   rw[app _ (by rw[hl];rfl)]
   refine⟨by walk_at "r",by walk_at "r",fun j' hj' c hc=>?_⟩
   by_cases q:j'=j
   ·subst q;rw[hl];simp
   ·exact st j' (by omega) c hc
 ·rintro σ ⟨e1,e3,st⟩
  walk_at "z"
  exact .inl ⟨rfl,st⟩
noncomputable def ZfV(n:Nat): Option (Nat→Option Int)→T
 | none=>.none
 | some b=>Zak n b
theorem ZxL{o:Option (Nat→Option Int)}: Pln 1 (ZfV n o):=by
 cases o with
 | none=>exact .none
 | some q=>exact ZqU
theorem ZuA{a b:Nat→T}{f:PE}(e:β→T)(P:Nat→β→Prop)(hn:n<10000)(hg:Pl (g σ) fun ts=>ts=tab n fun i=>.tup [a i,b i])(hf:∀i,i<n→Pk (f (ZR (ZR σ j (a i)) k (b i))) fun t=>∃y,t=e y∧P i y)(d:β)(h:∀y:Nat→β,(∀i,i<n→P i (y i))→Q (.lst (tab n fun i=>e (y i)))): Pk (Zbb g (ZeQ j k) Za6 f σ) Q:=by
 have hc:∃y:Nat→β,∀i,i<n→Pk (f (ZR (ZR σ j (a i)) k (b i))) (fun t=>t=e (y i))∧P i (y i):=by
  have hx:∀i,∃y:β,i<n→Pk (f (ZR (ZR σ j (a i)) k (b i))) (fun t=>t=e y)∧P i y:=fun i=>by
   by_cases q:i<n
   ·obtain⟨t,e1,y,e2,p⟩:=hf i q
    exact⟨y,fun _=>⟨⟨t,e1,e2⟩,p⟩⟩
   ·exact⟨d,fun h=>absurd h q⟩
  exact⟨fun i=>Classical.choose (hx i),fun i=>Classical.choose_spec (hx i)⟩
 obtain⟨y,hy⟩:=hc
 exact Zml hn hg (fun i hi=>(hy i hi).1) (h y fun i hi=>(hy i hi).2)
theorem oRow_none{o:Option (Nat→Option Int)}: ZfV n o=.none↔o=none:=by cases o <;> simp[ZfV,Zak]
theorem ZuB(hn:n≤100)(hk:k≤7000)(hM:0<M)(bM:Bd k M)(hR:∀t,t<n→RB M k (R t)): Pk (Zhy [Zt n G R]) fun t=>(t=Zt n (ZaS G R) R∧¬Zdy n G R)∨(t=.none∧Zdy n G R):=by
 unfold Zhy Zff
 have ht:Zt n G R=.tup [.lst (tab (n+1) fun i=>Zak (n+1) (G i)),ZaU n R]:=rfl
 rw[ht]
 walk_at "z"
 refine Zk (Zon (by omega)) ?_
 have hr:ZaU (n+1) (Z2 R)=.lst (tab (n+1) fun i=>ZL (Z2 R i)):=rfl
 walk_at "z"
 refine ZuA (ZfV (n+1)) (fun i o=>match o with
  | none=>∃j,j<n+1∧∃c,G i j=some c∧ZaS G R i j=none
  | some b=>b=ZaS G R i∧∀j,j<n+1→∀c,G i j=some c→ZaS G R i j≠none) (n:=n+1) (a:=fun i=>Zak (n+1) (G i)) (b:=fun i=>ZL (Z2 R i)) (by omega) ?_ (fun i hi=>?_) none (fun y hy=>?_)
 ·rw[hr]
  walk_at "z"
  rfl
 ·walk_at "z"
  refine(Zs0 hn hi hk hM bM hR).mono ?_
  rintro t (⟨rfl,h⟩ | ⟨rfl,h⟩)
  ·exact⟨some (ZaS G R i),rfl,rfl,h⟩
  ·exact⟨none,rfl,h⟩
 ·walk_at "z"
  refine Zkn (.none (n:=0)) (ZeJ (n:=1) fun i _=>ZxL) ?_
  by_cases hc:∃i,i<n+1∧y i=none
  ·obtain⟨i,hi,ei⟩:=hc
   rw[ZaE (show T.none∈tab (n+1) fun i=>ZfV (n+1) (y i)from List.mem_of_getElem? (i:=i) (by rw[ZaL hi,ei];rfl))]
   walk_at "z"
   have:=hy i hi
   rw[ei]at this
   obtain⟨j,hj,c,h1,h2⟩:=this
   exact .inr ⟨rfl,i,j,hi,hj,c,h1,h2⟩
  ·rw[Zaz (show ¬T.none∈tab (n+1) fun i=>ZfV (n+1) (y i)from fun h=>by
    obtain⟨i,hi,e⟩:=Zcx h
    exact hc ⟨i,hi,oRow_none.mp e.symm⟩)]
   walk_at "z"
   have hs:∀i,i<n+1→y i=some (ZaS G R i)∧∀j,j<n+1→∀c,G i j=some c→ZaS G R i j≠none:=fun i hi=>by
    have:=hy i hi
    cases e:y i with
    | none=>exact absurd ⟨i,hi,e⟩ hc
    | some b=>rw[e]at this;exact⟨by rw[this.1],this.2⟩
   refine .inl ⟨?_,?_⟩
   ·unfold Zt Z1
    congr 3
    refine Za0 fun i hi=>?_
    rw[(hs i hi).1]
    rfl
   ·rintro⟨i,j,hi,hj,c,h1,h2⟩
    exact(hs i hi).2 j hj c h1 h2
theorem ZtE: Zhy [.none]=some .none:=by
 apply Pk.eq
 unfold Zhy Zff
 walk_at "z"
 rfl
theorem Zvs: Zd3 [.none]=some .none:=by
 apply Pk.eq
 unfold Zd3 Zkc
 walk_at "z"
 rfl
def Zb1(n:Nat)(G:Nat→Nat→Option Int): Prop:=∃m,m<n∧Neg n (clG G (m+1))
theorem ZxM(hn:n≤100)(hd:∀i,i<n+1→G i i=some 0): Pk (Zd3 [Zt n G R]) fun t=>(t=Zt n (clG G (n+1)) R∧¬Zb1 (n+1) G)∨(t=.none∧Zb1 (n+1) G):=by
 unfold Zd3 Zkc
 have ht:Zt n G R=.tup [Z1 (n+1) G,ZaU n R]:=rfl
 rw[ht]
 walk_at "z"
 refine(Zvp (n:=n+1) (by omega) (by omega) fun i hi=>⟨0,hd i hi⟩).mono ?_
 rintro t (⟨rfl,h⟩ | ⟨rfl,h⟩)
 ·have hg:Z1 (n+1) (clG G (n+1))=.lst (tab (n+1) fun i=>Zak (n+1) (clG G (n+1) i)):=rfl
  rw[hg]
  walk_at "z"
  exact .inl ⟨rfl,fun⟨m,hm,q⟩=>h m hm q⟩
 ·walk_at "z"
  exact .inr ⟨rfl,h⟩
def BdG(n k:Nat)(G:Nat→Nat→Option Int): Prop:=∀a b c,a<n→b<n→G a b=some c→Bd k c
theorem Zit{n k:Nat}{G:Nat→Nat→Option Int}(h:BdG n k G): ∀m,m≤n→BdG n (k+m) (clG G m)
 | 0,_=>h
 | m+1,hm=>fun a b c ha hb e=>by
  have ih:=Zit h m (by omega)
  rcases ZdZ (clG G m a b) (addO (clG G m a m) (clG G m m b))with e1 | e1
  ·rw[show clG G (m+1) a b=_ from e1]at e
   exact(ih a b c ha hb e).mono (by omega)
  ·rw[show clG G (m+1) a b=_ from e1]at e
   obtain⟨p,q,h1,h2,rfl⟩:=addO_some.mp e
   exact Bd.add (ih a m p ha (by omega) h1) (ih m b q (by omega) hb h2)
theorem Zpz(h:RestOk q): Zcc q (-1)=Zan q.1 (-q.2):=by
 unfold Zcc
 rw[show Zal (-1)=1 from rfl,Int.mul_one,Int.mul_neg,Int.mul_one]
theorem ZlT{m:Int}: (Zan m r).1=m:=by
 unfold Zan;split
 ·rename_i c;exact c.symm
 ·rfl
theorem Zfn(hi:RestOk (Z2 R i))(hj:RestOk (Z2 R j))(x:Int): Z6 (Zam R i j) x↔((Int.gcd (Z2 R i).1 (Z2 R j).1:Nat):Int) ∣ x-((Z2 R i).2-(Z2 R j).2):=by
 unfold Zam ZbK
 rw[Zcg (by omega),Zpz hj,ZlT]
 have hr:=Zcg hj.nn (r:=-(Z2 R j).2) (Zan (Z2 R j).1 (-(Z2 R j).2)).2
 have hs:=(hr.mp (ZbO hj.nn _).self)
 generalize (Zan (Z2 R j).1 (-(Z2 R j).2)).2=s at *
 have hg:((Int.gcd (Z2 R i).1 (Z2 R j).1:Nat):Int) ∣ s - -(Z2 R j).2:=Int.dvd_trans (Int.gcd_dvd_right ..) hs
 constructor
 ·intro h
  have:=Int.dvd_add h hg
  rwa [show x-((Z2 R i).2+s)+(s - -(Z2 R j).2)=x-((Z2 R i).2-(Z2 R j).2)by omega]at this
 ·intro h
  have:=Int.dvd_sub h hg
  rwa [show x-((Z2 R i).2-(Z2 R j).2)-(s - -(Z2 R j).2)=x-((Z2 R i).2+s)by omega]at this
theorem ZhI{b c:Int}(h0:RestOk q)(h:ZcP q b=some c): c≤b∧Z6 q c∧(q.1=0∨b-c<q.1):=by
 unfold ZcP at h
 split at h
 ·rename_i z
  split at h
  ·cases h
   exact⟨by assumption,h0.self,.inl z⟩
  ·cases h
 ·rename_i z
  cases h
  have hp:0<q.1:=by have:=h0.nn;omega
  have h1:=Int.emod_nonneg (b-q.2) z
  have h2:=Int.emod_lt_of_pos (b-q.2) hp
  refine⟨by omega,?_,.inr (by omega)⟩
  rw[ZaW h0.nn]
  have h3:=Int.emod_add_mul_ediv (b-q.2) q.1
  exact⟨(b-q.2) / q.1,by omega⟩
theorem Zhp{b x:Int}(h0:RestOk q)(hx:Z6 q x)(hb:x≤b): ∃c,ZcP q b=some c∧x≤c:=by
 unfold ZcP
 rw[ZaW h0.nn]at hx
 split
 ·rename_i z
  rw[z,Int.zero_dvd]at hx
  rw[if_pos (by omega)]
  exact⟨_,rfl,by omega⟩
 ·rename_i z
  have hp:0<q.1:=by have:=h0.nn;omega
  refine⟨_,rfl,?_⟩
  obtain⟨t,ht⟩:=hx
  have h3:=Int.emod_add_mul_ediv (b-q.2) q.1
  have h2:=Int.emod_lt_of_pos (b-q.2) hp
  have h4:t≤(b-q.2) / q.1:=Int.le_ediv_of_mul_le hp (by rw[Int.mul_comm];omega)
  have h5:q.1*t≤q.1*((b-q.2) / q.1):=Int.mul_le_mul_of_nonneg_left h4 (by omega)
  omega
theorem ZcO(R:Nat→Int×Int)(i j:Nat): RestOk (Zam R i j):=Zmy _ _
theorem ZxN(h:∀b,G i j=some b→ZaS G R i j≠none): leO (ZaS G R i j) (G i j):=by
 intro b e
 have hn:=h b e
 unfold ZaS at hn ⊢
 rw[e]at hn ⊢
 cases hc:Za8 (some b) (Zam R i j)with
 | none=>exact absurd hc hn
 | some c=>exact⟨c,rfl,(ZhI (ZcO R i j) hc).1⟩
theorem ZrW(hM:0<M)(bM:Bd k M)(hG:BdG (n+1) k G)(hR:∀t,t<n→RB M k (R t)): BdG (n+1) (k+1) (ZaS G R):=by
 intro i j c hi hj e
 have h1:=ZdV hR i hi
 have h2:=ZdV hR j hj
 have hd1:(Zam R i j).1=((Int.gcd (Z2 R i).1 (Z2 R j).1:Nat):Int):=by
  unfold Zam ZbK
  rw[ZlT,Zpz h2.1,ZlT]
 have hb1:=(h1.bd hM bM).1
 have hb2:=(h2.bd hM bM).1
 have hm:Bd k (Zam R i j).1:=by
  rw[hd1]
  by_cases z:(Z2 R i).1=0
  ·rw[z,Int.gcd_zero_left]
   unfold Bd at *
   simpa using hb2
  ·have:=Int.gcd_le_natAbs_left (b:=(Z2 R j).1) z
   unfold Bd at *
   simp only[Int.natAbs_natCast]
   omega
 unfold ZaS Za8 at e
 cases hg:G i j with
 | some b=>
  rw[hg]at e
  obtain⟨u1,u2,u3⟩:=ZhI (ZcO R i j) e
  have hbb:=hG i j b hi hj hg
  rcases u3 with z | z
  ·have hx:=(Zfn h1.1 h2.1 c).mp u2
   rw[hd1]at z
   rw[z,Int.zero_dvd]at hx
   have:c=(Z2 R i).2-(Z2 R j).2:=by omega
   rw[this]
   exact Bd.sub h1.2.2 h2.2.2
  ·unfold Bd at *
   rw[Nat.pow_succ]
   omega
 | none=>
  rw[hg]at e
  simp only at e
  split at e
  ·rename_i z
   cases e
   have hx:=(Zfn h1.1 h2.1 (Zam R i j).2).mp (ZcO R i j).self
   rw[hd1]at z
   rw[z,Int.zero_dvd]at hx
   have:(Zam R i j).2=(Z2 R i).2-(Z2 R j).2:=by omega
   rw[this]
   exact Bd.sub h1.2.2 h2.2.2
  ·cases e
def Zfo(n:Nat)(C:Nat→Nat→Option Int)(R:Nat→Int×Int): Prop:=∃i,i<n∧∀x,¬Zdh n C R (i+1) (n+1) x
theorem Zrb(h:Pk (ZT 1 Zke ts) fun t=>Zh5 t=true∧Q t): Pk (Zif ts) Q:=by
 obtain⟨t,e,o,q⟩:=h
 exact⟨t,by simp only[Zif,e,Option.bind_some,o,if_true],q⟩
theorem ZxO: Zh5 (Zt n G R)=true:=ZpJ fun _ _=>Zes
theorem Zrc(hn:n≤100)(hk:k+n+1≤7000)(hM:0<M)(bM:Bd k M)(hd:∀i,i<n+1→G i i=some 0)(bG:BdG (n+1) k G)(hR:∀t,t<n→RB M k (R t)): Pk (Zif [Zt n G R]) fun t=>(∃R',t=Zt n (clG G (n+1)) R'∧¬Zb1 (n+1) G∧Hand n (clG G (n+1)) R R' M (k+n+2))∨(t=.none∧(Zb1 (n+1) G∨(¬Zb1 (n+1) G∧Zfo n (clG G (n+1)) R))):=by
 refine Zrb ?_
 unfold Zke
 walk_at "z"
 refine(ZxM hn hd).mono ?_
 rintro t (⟨rfl,h⟩ | ⟨rfl,h⟩)
 ·walk_at "z"
  refine(ZsZ (k:=k+n+1) hn hk hM (bM.mono (by omega)) (Zit bG (n+1) (by omega)) (fun t ht=>(hR t ht).mono (by omega))).mono ?_
  rintro t (⟨R',rfl,h2⟩ | ⟨rfl,h2⟩)
  ·exact⟨ZxO,.inl ⟨R',rfl,h,h2⟩⟩
  ·exact⟨rfl,.inr ⟨rfl,.inr ⟨h,h2⟩⟩⟩
 ·walk_at "z"
  exact Zk Zn5 ⟨rfl,.inr ⟨rfl,.inl h⟩⟩
theorem ZpX: Zif [.none]=some .none:=by
 apply Pk.eq
 refine Zrb ?_
 unfold Zke
 walk_at "z"
 refine Zk Zvs ?_
 walk_at "z"
 exact Zk Zn5 ⟨rfl,rfl⟩
theorem Zjv(hR:∀i,i<n+1→RestOk (Z2 R i))(hd:∀i,i<n+1→G i i=some 0): ∀i,i<n+1→ZaS G R i i=some 0:=by
 intro i hi
 unfold ZaS Za8
 rw[hd i hi]
 have h0:Z6 (Zam R i i) 0:=(Zfn (hR i hi) (hR i hi) 0).mpr (by simp)
 obtain⟨c,e,hc⟩:=Zhp (ZcO R i i) h0 (Int.le_refl 0)
 have:=(ZhI (ZcO R i i) e).1
 show ZcP (Zam R i i) 0=some 0
 rw[e,show c=0 by omega]
structure Sharp(n:Nat)(G:Nat→Nat→Option Int)(R:Nat→Int×Int)(G2:Nat→Nat→Option Int)(R2:Nat→Int×Int)(M:Int)(k:Nat): Prop where
 go:∃R1,¬Zb1 (n+1) G∧Hand n (clG G (n+1)) R R1 M k∧¬Zdy n (clG G (n+1)) R1∧¬Zb1 (n+1) (ZaS (clG G (n+1)) R1)∧G2=clG (ZaS (clG G (n+1)) R1) (n+1)∧Hand n G2 R1 R2 M k
def Zjq(n:Nat)(G:Nat→Nat→Option Int)(R:Nat→Int×Int)(M:Int)(k:Nat): Prop:=Zb1 (n+1) G∨(¬Zb1 (n+1) G∧Zfo n (clG G (n+1)) R)∨∃R1,¬Zb1 (n+1) G∧Hand n (clG G (n+1)) R R1 M k∧(Zdy n (clG G (n+1)) R1∨(¬Zdy n (clG G (n+1)) R1∧(Zb1 (n+1) (ZaS (clG G (n+1)) R1)∨(¬Zb1 (n+1) (ZaS (clG G (n+1)) R1)∧Zfo n (clG (ZaS (clG G (n+1)) R1) (n+1)) R1))))
theorem Hand.mono(h:Hand n G R R' M i)(hij:i≤j): Hand n G R R' M j:=fun t ht=>⟨(h t ht).1.mono hij,(h t ht).2⟩
theorem Zwq(hn:n≤100)(hk:k+2*n+4≤7000)(hM:0<M)(bM:Bd k M)(hd:∀i,i<n+1→G i i=some 0)(bG:BdG (n+1) k G)(hR:∀t,t<n→RB M k (R t)): Pk (Zbf [Zt n G R]) fun t=>(∃G2 R2,t=Zt n G2 R2∧Sharp n G R G2 R2 M (k+2*n+5))∨(t=.none∧Zjq n G R M (k+n+2)):=by
 unfold Zbf Zh6
 walk_at "z"
 refine(Zrc hn (by omega) hM bM hd bG hR).mono ?_
 rintro t (⟨R1,rfl,nr,h1⟩ | ⟨rfl,h⟩)
 ·have hR1:∀t,t<n→RB M (k+n+2) (R1 t):=fun t ht=>(h1 t ht).1
  have hF1:=ZdV hR1
  have z1:=ZeF hd (m:=n+1) fun m hm q=>nr ⟨m,hm,q⟩
  walk_at "z"
  refine(ZuB hn (by omega) hM (bM.mono (by omega)) hR1).mono ?_
  rintro t (⟨rfl,nl⟩ | ⟨rfl,fl⟩)
  ·walk_at "z"
   have bG1:BdG (n+1) (k+n+3) (ZaS (clG G (n+1)) R1):=ZrW hM (bM.mono (by omega)) (fun a b c ha hb e=>(Zit bG (n+1) (by omega) a b c ha hb e).mono (by omega)) hR1
   refine(Zrc (k:=k+n+3) hn (by omega) hM (bM.mono (by omega)) (Zjv (fun i hi=>(hF1 i hi).1) z1) bG1 (fun t ht=>(hR1 t ht).mono (by omega))).mono ?_
   rintro t (⟨R2,rfl,nr2,h2⟩ | ⟨rfl,h2⟩)
   ·exact .inl ⟨_,R2,rfl,⟨R1,nr,h1.mono (by omega),nl,nr2,rfl,h2.mono (by omega)⟩⟩
   ·exact .inr ⟨rfl,.inr (.inr ⟨R1,nr,h1,.inr ⟨nl,h2⟩⟩)⟩
  ·walk_at "z"
   exact Zk ZpX (.inr ⟨rfl,.inr (.inr ⟨R1,nr,h1,.inl fl⟩)⟩)
 ·walk_at "z"
  refine Zk ZtE ?_
  walk_at "z"
  refine Zk ZpX (.inr ⟨rfl,?_⟩)
  rcases h with h | h
  ·exact .inl h
  ·exact .inr (.inl h)
theorem Zhq(h:Zaw n G R x): Zaw n (clG G (n+1)) R x:=⟨fun i j hi hj b e=>Zmz (Zpy h) (n+1) (by omega) i j hi hj b e,h.2⟩
theorem Zo5(h:Zaw n G R x): ¬Zb1 (n+1) G:=fun⟨m,hm,q⟩=>Zvq (Zmz (Zpy h) (m+1) (by omega)) q
theorem Zl9(h:Zaw n G R x): ∀i,i<n+1→Z6 (Z2 R i) (Zab x i)
 | 0,_=>⟨fun _=>rfl,fun q=>absurd q (show ¬(0:Int)<0 by decide)⟩
 | i+1,hi=>h.2 i (by omega)
theorem ZpY(h:Zaw n G R x)(ht:t<n): Zdh n G R (t+1) (n+1) (x t):=by
 refine⟨h.2 t ht,fun j hj a b ha hb hab=>?_⟩
 have h1:=h.1 (t+1) j (by omega) hj a ha
 have h2:=h.1 j (t+1) hj (by omega) b hb
 have h3:Zab x (t+1)=x t:=rfl
 rw[h3]at h1 h2
 rw[show x t-a=Zab x j by omega]
 exact Zl9 h j hj
theorem Zls(h:Zaw n G R x)(q:Hand n G R R' M k): Zaw n G R' x:=⟨h.1,fun t ht=>((q t ht).2 _).mpr (ZpY h ht)⟩
theorem Zqs(hR:∀i,i<n+1→RestOk (Z2 R i))(h:Zaw n G R x)(hi:i<n+1)(hj:j<n+1): Z6 (Zam R i j) (Zab x i-Zab x j):=by
 rw[Zfn (hR i hi) (hR j hj)]
 have h1:=(ZaW (hR i hi).nn _).mp (Zl9 h i hi)
 have h2:=(ZaW (hR j hj).nn _).mp (Zl9 h j hj)
 have h3:=Int.dvd_sub (Int.dvd_trans (Int.gcd_dvd_left (b:=(Z2 R j).1) ..) h1) (Int.dvd_trans (Int.gcd_dvd_right (a:=(Z2 R i).1) ..) h2)
 rwa [show Zab x i-(Z2 R i).2-(Zab x j-(Z2 R j).2)=Zab x i-Zab x j-((Z2 R i).2-(Z2 R j).2)by omega]at h3
theorem ZuC(hR:∀i,i<n+1→RestOk (Z2 R i))(h:Zaw n G R x): ¬Zdy n G R:=by
 rintro⟨i,j,hi,hj,b,e,hn⟩
 obtain⟨c,e2,_⟩:=Zhp (ZcO R i j) (Zqs hR h hi hj) (h.1 i j hi hj b e)
 unfold ZaS Za8 at hn
 rw[e]at hn
 simp only at hn
 rw[e2]at hn
 cases hn
theorem Zqt(hR:∀i,i<n+1→RestOk (Z2 R i))(h:Zaw n G R x): Zaw n (ZaS G R) R x:=by
 refine⟨fun i j hi hj b e=>?_,h.2⟩
 have hd:=Zqs hR h hi hj
 unfold ZaS Za8 at e
 cases hg:G i j with
 | some c=>
  rw[hg]at e
  simp only at e
  obtain⟨d,e2,hle⟩:=Zhp (ZcO R i j) hd (h.1 i j hi hj c hg)
  rw[e2]at e
  cases e
  exact hle
 | none=>
  rw[hg]at e
  simp only at e
  split at e
  ·rename_i z
   cases e
   rw[ZaW (ZcO R i j).nn,z,Int.zero_dvd]at hd
   omega
  ·cases e
theorem ZuD(h:Zaw n G R x)(s:Sharp n G R G2 R2 M k): Zaw n G2 R2 x:=by
 obtain⟨R1,h1,h2,h3,h4,rfl,h6⟩:=s.go
 have l1:=Zls (Zhq h) h2
 have hF:=ZdV fun t ht=>(h2 t ht).1
 exact Zls (Zhq (Zqt (fun i hi=>(hF i hi).1) l1)) h6
theorem ZtY(h:Zaw n G R x): ¬Zjq n G R M k:=by
 have hf:∀{G:Nat→Nat→Option Int} {R:Nat→Int×Int},Zaw n G R x→¬Zfo n G R:=fun h ⟨i,hi,q⟩=>q _ (ZpY h hi)
 rintro(q | ⟨_,q⟩ | ⟨R1,_,h2,q⟩)
 ·exact Zo5 h q
 ·exact hf (Zhq h) q
 ·have l1:=Zls (Zhq h) h2
  have hF:=ZdV fun t ht=>(h2 t ht).1
  have l2:=Zqt (fun i hi=>(hF i hi).1) l1
  rcases q with q | ⟨_,q | ⟨_,q⟩⟩
  ·exact ZuC (fun i hi=>(hF i hi).1) l1 q
  ·exact Zo5 l2 q
  ·exact hf (Zhq l2) q
theorem ZrX(hk:k≤8000)(op:RestOk p)(oq:RestOk q)(bp:RBd k p)(bq:RBd k q)(h:Met p q o): ∀r,o=some r→(r=p∨r=q∨(p.1≠0∧q.1≠0∧r.1=Int.lcm p.1 q.1)):=by
 obtain⟨t,_,o',rfl,h',wh⟩:=ZiZ hk op oq bp bq
 rw[Zpx h h']
 exact wh
def SameG(n:Nat)(A B:Nat→Nat→Option Int): Prop:=∀i j,i<n→j<n→A i j=B i j
def SameR(n:Nat)(R S:Nat→Int×Int): Prop:=∀t,t<n→R t=S t
theorem SameG.symm{A B:Nat→Nat→Option Int}(h:SameG n A B): SameG n B A:=fun i j hi hj=>(h i j hi hj).symm
theorem SameR.symm{A B:Nat→Int×Int}(h:SameR n A B): SameR n B A:=fun i hi=>(h i hi).symm
theorem ZuE(hn:n≤100)(hd:∀i,i<n+1→G i i=some 0)(ok:∀t,t<n→RestOk (R t)): ZiW [Zt n G R,.int n]=some (.bool true):=by
 apply Pk.eq
 unfold ZiW ZgP Zt ZaU
 walk_at "z"
 rw[show(n:Int)+1=((n+1:Nat):Int)by omega]
 refine Zk (ZxK (by omega) hd) ?_
 walk_at "z"
 refine Zco (n:=n) (a:=fun i=>ZL (R i)) (P:=fun _ _=>True) ?_ trivial ?_ ?_
 ·walk_at "z"
  rfl
 ·rintro t σ ht _
  have ho:=ok t ht
  unfold ZL
  walk_at "z"
  refine Zk Zl8 ?_
  walk_at "z"
  refine Zk Zl8 ?_
  walk_at "z"
  have h0:=ho.nn
  walk_at "z"
  rcases ho with h | h
  ·walk_at "z"
   trivial
  ·walk_at "z"
   trivial
 ·rintro σ _
  walk_at "z"
  rfl
theorem ZuF(hd:∀i,i<n+1→G i i=some 0)(s:Sharp n G R G2 R2 M k): (∀i,i<n+1→G2 i i=some 0)∧∀k,k<n+1→∀i j,i<n+1→j<n+1→leO (G2 i j) (addO (G2 i k) (G2 k j)):=by
 obtain⟨R1,h1,h2,h3,h4,rfl,h6⟩:=s.go
 have hF:=ZdV fun t ht=>(h2 t ht).1
 have z1:=ZeF hd (m:=n+1) fun m hm q=>h1 ⟨m,hm,q⟩
 have z2:=Zjv (fun i hi=>(hF i hi).1) z1
 exact⟨ZeF z2 fun m hm q=>h4 ⟨m,hm,q⟩,Znr z2 (n+1) (by omega) fun m hm q=>h4 ⟨m,hm,q⟩⟩
noncomputable def Zce(R:Nat→Int×Int): Nat→Int
 | 0=>1
 | t+1=>Zce R t*(if(R t).1=0 then 1 else(R t).1)
theorem ZhJ{n:Nat}{R:Nat→Int×Int}(h:∀t,t<n→RestOk (R t)): ∀m,m≤n→0<Zce R m
 | 0,_=>by show(0:Int)<1;decide
 | m+1,hm=>by
  have ih:=ZhJ h m (by omega)
  have:=(h m (by omega)).nn
  unfold Zce
  refine Int.mul_pos ih ?_
  split
  ·decide
  ·omega
theorem ZhK{R:Nat→Int×Int}: ∀m t,t<m→(R t).1=0∨(R t).1 ∣ Zce R m
 | m+1,t,ht=>by
  by_cases z:(R t).1=0
  ·exact .inl z
  ·right
   unfold Zce
   by_cases q:t=m
   ·subst q
    rw[if_neg z]
    exact Int.dvd_mul_left _ _
   ·exact Int.dvd_trans ((ZhK m t (by omega)).resolve_left z) (Int.dvd_mul_right _ _)
theorem ZhW{n k:Nat}{R:Nat→Int×Int}(hk:1≤k)(h:∀t,t<n→Bd k (R t).1): ∀m,m≤n→Bd (k*m+1) (Zce R m)
 | 0,_=>by rw[Nat.mul_zero];exact ZbN (by omega)
 | m+1,hm=>by
  have ih:=ZhW hk h m (by omega)
  unfold Zce
  have h2:Bd k (if(R m).1=0 then 1 else(R m).1):=by
   split
   ·exact ZbN hk
   ·exact h m (by omega)
  have:=Bd.mul ih h2
  rw[Nat.mul_succ]
  exact this.mono (by omega)
inductive Dp: Nat→T→Prop where
 | none {n:Nat}:Dp n .none
 | int {n:Nat} {i:Int}:Dp n (.int i)
 | tup {n:Nat} {ts:List T}:(∀t∈ts,Dp n t)→ts.length≤10000→Dp (n+1) (.tup ts)
 | lst {n:Nat} {ts:List T}:(∀t∈ts,Dp n t)→ts.length≤10000→Dp (n+1) (.lst ts)
theorem Dp.mono{t:T}(h:Dp n t): ∀{m:Nat},n≤m→Dp m t:=by
 induction h with
 | none=>intro m _;exact .none
 | int=>intro m _;exact .int
 | tup hs hl ih=>
  intro m hm
  cases m with
  | zero=>omega
  | succ m=>exact .tup (fun t a=>ih t a (by omega)) hl
 | lst hs hl ih=>
  intro m hm
  cases m with
  | zero=>omega
  | succ m=>exact .lst (fun t a=>ih t a (by omega)) hl
theorem Zrd{F:List T→Option T}{g:PE}(hg:Zc4 g σ=some ts)(hl:ts.length≤10000)(h:∀t∈ts,F [t]=some t)(q:Q (.lst ts)): Pk (Zbb (Zc4 g) (ZaT j) Za6 (ZV F (Zl (Zj j) ZG)) σ) Q:=by
 refine⟨.lst ts,?_,q⟩
 have:=ZpI (σ:=σ) (j:=j) (f:=ZV F (Zl (Zj j) ZG)) (h:=fun t=>t) (ts:=ts) fun t m=>by
  simp only[ZV,Zl,Zj,ZG,Zb2,Option.bind_some,Option.map_some]
  exact h t m
 simp only[Zbb,hg,Option.bind_some,this]
 rw[if_pos (by rw[ZaO];omega)]
 simp
theorem Zwr{t:T}(h:Dp n t): Zet (n+1) [t]=some t:=by
 induction h with
 | none=>rfl
 | int=>rfl
 | @tup n ts hs hl ih=>
  apply Pk.eq
  show Pk (ZT 1 (Zfr (Zet (n+1))) [.tup ts]) _
  unfold Zfr
  walk_at "z"
  refine Zrd (ts:=ts) rfl hl ih ?_
  walk_at "z"
  rfl
 | @lst n ts hs hl ih=>
  apply Pk.eq
  show Pk (ZT 1 (Zfr (Zet (n+1))) [.lst ts]) _
  unfold Zfr
  walk_at "z"
  exact Zrd (ts:=ts) rfl hl ih rfl
theorem Zjw{t:T}(h:Dp 8 t): ZjM [t]=some t:=Zwr h
theorem ZnL: Dp n (oT a):=by cases a;exact .none;exact .int
theorem Zre(hn:n≤100): Dp 3 (Zt n G R):=by
 refine .tup (fun t m=>?_) (by simp)
 simp at m
 rcases m with rfl | rfl
 ·refine .lst (fun t m=>?_) (by rw[Z9];omega)
  obtain⟨i,hi,rfl⟩:=Zcx m
  refine .lst (fun t m=>?_) (by rw[Z9];omega)
  obtain⟨j,hj,rfl⟩:=Zcx m
  exact ZnL
 ·refine .lst (fun t m=>?_) (by rw[Z9];omega)
  obtain⟨i,hi,rfl⟩:=Zcx m
  refine .tup (fun t m=>?_) (by simp)
  simp at m
  rcases m with rfl | rfl <;> exact .int
theorem Zvt(hn:n≤100)(h:Zaw n G R x)(ok:∀t,t<n→RestOk (R t)): Zi6 [Zt n G R,Zac n x]=some (.bool true):=by
 apply Pk.eq
 unfold Zi6 Zhc Zt Z1 Zak ZaU Zac
 walk_at "z"
 rw[ZrR]
 refine Zco (n:=n+1) (a:=fun i=>.int i) (P:=fun i σ=>σ 0=some (Zt n G R)∧σ 1=some (.lst (tab n fun i=>.int (x i)))∧σ 2=some (.lst (tab (n+1) fun i=>.int (Zab x i)))) ?_ ⟨by walk_at "r",by walk_at "r",by walk_at "r"⟩ ?_ ?_
 ·walk_at "z"
  rfl
 ·rintro i σ hi ⟨e0,e1,e2⟩
  refine Zco (n:=n+1) (a:=fun i=>.int i) (P:=fun j σ=>σ 0=some (Zt n G R)∧σ 1=some (.lst (tab n fun i=>.int (x i)))∧σ 2=some (.lst (tab (n+1) fun i=>.int (Zab x i)))∧σ 3=some (.int i)) ?_ ⟨by walk_at "r",by walk_at "r",by walk_at "r",by walk_at "r"⟩ ?_ ?_
  ·walk_at "z"
   rfl
  ·rintro j σ hj ⟨f0,f1,f2,f3⟩
   unfold Zt Z1 Zak ZaU at f0
   walk_at "z"
   cases hg:G i j with
   | none=>
    rw[Zb5]
    walk_at "z"
    exact⟨by walk_at "r",by walk_at "r",by walk_at "r",by walk_at "r"⟩
   | some b=>
    have:=h.1 i j hi hj b hg
    rw[Zbe]
    walk_at "z"
    rw[hg,Zbe]
    walk_at "z"
    exact⟨by walk_at "r",by walk_at "r",by walk_at "r",by walk_at "r"⟩
  ·rintro σ ⟨f0,f1,f2,f3⟩
   exact⟨f0,f1,f2⟩
 ·rintro σ ⟨e0,e1,e2⟩
  refine Zne ?_
  refine Zco (n:=n) (a:=fun i=>.int i) (P:=fun j σ=>σ 0=some (Zt n G R)∧σ 1=some (.lst (tab n fun i=>.int (x i)))) ?_ ⟨e0,e1⟩ ?_ ?_
  ·walk_at "z"
   rfl
  ·rintro t σ ht ⟨f0,f1⟩
   unfold Zt Z1 Zak ZaU ZL at f0
   have ho:=ok t ht
   have hh:=h.2 t ht
   unfold Z6 at hh
   walk_at "z"
   by_cases c:(R t).1=0
   ·have:=hh.1 c
    walk_at "z"
    exact⟨by walk_at "r",by walk_at "r"⟩
   ·have hp:0<(R t).1:=by have:=ho.nn;omega
    have h2:(x t-(R t).2) % (R t).1=0:=hh.2 hp
    walk_at "z"
    rw[Int.fmod_eq_emod_of_nonneg _ (by omega),h2]
    walk_at "z"
    exact⟨by walk_at "r",by walk_at "r"⟩
  ·rintro σ _
   walk_at "z"
   rfl
section
variable {σ:TL} {Q:T→Prop}
theorem Zkq{p e:PE}(h:Pk (p σ) fun t=>∃ts,t=.lst ts∧Pk (e σ) fun u=>∃a:Nat,u=.int a∧Q (.lst (ts.take a))): Pk (Zb8 p Zdk (Zb7 e) σ) Q:=by
 obtain⟨_,e1,ts,rfl,_,e2,a,rfl,q⟩:=h
 refine⟨_,?_,q⟩
 simp only[Zb8,e1,Zdk,Zb7,e2,Option.bind_some,ZwQ ts rfl]
theorem ZnM{p e:PE}(h:Pk (p σ) fun t=>∃ts,t=.lst ts∧Pk (e σ) fun u=>∃a:Nat,u=.int a∧Q (.lst (ts.drop a))): Pk (Zb8 p (Zb7 e) Zdk σ) Q:=by
 obtain⟨_,e1,ts,rfl,_,e2,a,rfl,q⟩:=h
 refine⟨_,?_,q⟩
 simp only[Zb8,e1,Zdk,Zb7,e2,Option.bind_some,ZpG ts rfl]
theorem Zdz{a b:List T}(hl:a.length+b.length≤10000)(h:Q (.lst (a++b))): Pk (Zaj (.lst a) (.lst b)) Q:=by
 refine⟨_,?_,h⟩
 simp only[Zaj]
 rw[if_pos (by rw[ZaO,List.length_append];omega)]
theorem Zm1{a:T}(hn:n≤1000)(h:Q (.lst (tab n fun _=>a))): Pk (Zc3 (.lst [a]) (.int n)) Q:=by
 have e:∀n,ZiD [a] n=tab n fun _=>a:=fun n=>by
  induction n with
  | zero=>rfl
  | succ n ih=>show ZiD [a] n++[a]=_;rw[ih];exact ZdT (f:=fun _=>a)
 refine⟨_,?_,h⟩
 simp only[Zc3,List.length_cons,List.length_nil,Int.toNat_natCast,e]
 rw[if_pos ⟨by rw[ZaO];omega,by omega,by omega⟩]
end
theorem Zrf{x:Nat}{k l:Int}{f:Nat→Nat→T}{N:TL→Prop}(e:σ x=some (.lst (tab n fun a=>.lst (tab m (f a)))))(hk:k=i)(hl:l=j)(hi:i<n)(hj:j<m)(h:N (ZR σ x (.lst (tab n fun a=>.lst (tab m fun b=>if a=i∧b=j then w else f a b))))): Put2 σ x w (.int k) (.int l) N:=by
 subst hk hl
 exact Zqe e hi hj h
theorem Zm2{l:List T}{x:Nat}(h:x<l.length): l.take x++[w]++l.drop (x+1)=l.set x w:=by
 rw[List.set_eq_take_append_cons_drop,if_pos h]
 simp
theorem Zrg{x:Nat}(hx:x<n)(hn:n≤1000)(hf:∀i,i<n→(f i).flat=true)(hw:w.flat=true): Zkg [.lst (tab n f),.int ((x:Int)+1),w]=some (.lst (tab n fun i=>if i=x then w else f i)):=by
 apply Pk.eq
 unfold Zkg Znn
 have hlen:(tab n f).length=n:=Z9
 walk_at "z"
 refine Zkq ?_
 walk_at "z"
 refine⟨_,rfl,?_⟩
 walk_at "z"
 refine⟨x,by congr 1;omega,?_⟩
 walk_at "z"
 refine Zdz (by simp[hlen];omega) ?_
 refine ZnM ?_
 walk_at "z"
 refine⟨_,rfl,?_⟩
 walk_at "z"
 refine⟨x+1,rfl,?_⟩
 refine Zdz (by simp[hlen];omega) ?_
 rw[Zm2 (by omega),ZeA]
 refine⟨Zg1 fun i hi=>?_,rfl⟩
 split
 ·exact hw
 ·exact hf i hi
theorem Zoo(hn:n≤900): Zgp [.int i,.int n]=some (Zak (n+1) fun j=>if j=i then some 0 else none):=by
 apply Pk.eq
 unfold Zgp Zgo
 walk_at "z"
 refine Zbs (n:=n+1) (a:=fun j=>.int j) (b:=fun j=>oT (if j=i then some 0 else none)) (by omega) ?_ (fun j hj=>?_) rfl
 ·walk_at "z"
  exact ZfJ (n+1) (by omega) (by omega) rfl
 ·by_cases c:j=i
  ·have hc:(i:Int)=(j:Int):=by omega
   walk_at "z"
   rw[if_pos c]
   rfl
  ·have hc:(i:Int)≠(j:Int):=by omega
   walk_at "z"
   rw[if_neg c]
   rfl
noncomputable def Zdm(G:Nat→Nat→Option Int)(x:Nat): Nat→Nat→Option Int:=fun i j=>if i=x then(if j=x then some 0 else none)else if j=x then none else G i j
theorem ZtZ{x:Nat}(hx:x<n+1)(hn:n≤100): ZlI [Z1 (n+1) G,.int x]=some (Z1 (n+1) (Zdm G x)):=by
 apply Pk.eq
 unfold ZlI Zhd Z1
 walk_at "z"
 refine Zbs (n:=n+1) (a:=fun i=>Zak (n+1) (G i)) (b:=fun i=>Zak (n+1) fun j=>if j=x then none else G i j) (by omega) ?_ (fun i hi=>?_) ?_
 ·walk_at "z"
  rfl
 ·walk_at "z"
  refine Zk (Zrg (f:=fun j=>oT (G i j)) hx (by omega) (fun _ _=>ZeC) rfl) ?_
  show T.lst _=T.lst _
  congr 1
  exact Za0 fun j _=>by
   show _=oT (if j=x then none else G i j)
   by_cases c:j=x
   ·rw[if_pos c,if_pos c];rfl
   ·rw[if_neg c,if_neg c]
 walk_at "z"
 refine Zk (show Zgp [.int x,.int (((n+1:Nat):Int)-1)]=_ by rw[show((n+1:Nat):Int)-1=(n:Int)by omega];exact Zoo (by omega)) ?_
 walk_at "z"
 show T.lst _=T.lst _
 congr 1
 refine Za0 fun i _=>?_
 unfold Zdm
 by_cases c:i=x
 ·rw[if_pos c]
  subst c
  simp
 ·rw[if_neg c]
  simp[c]
noncomputable def ZdH(G:Nat→Nat→Option Int)(x:Nat)(s:Sp): Nat→Nat→Option Int:=Zbi (Zbi G x 0 s.2) 0 x (s.1.map fun y=>y*(-1))
theorem ZpZ{v:Option Int}(hw:w=oT v): T.lst (tab n fun a=>T.lst (tab n fun b=>if a=i∧b=j then w else oT (G a b)))=T.lst (tab n fun a=>T.lst (tab n fun b=>oT (Zbi G i j v a b))):=by
 subst hw
 exact ZrS
theorem Zws{x:Int}(h:Bd k x): Bd k (-x):=by unfold Bd at *;omega
theorem Zt0{x:Nat}{s:Sp}(hx:x<n+1)(hb:b≤100000)(hb1:1≤b)(bs:SBd b s): ZlK [Z1 (n+1) G,.int x,spT s]=some (Z1 (n+1) (ZdH G x s)):=by
 apply Pk.eq
 unfold ZlK ZlJ
 refine ZjJ rfl ?_
 unfold Z1 Zak spT
 walk_at "z"
 refine Zrf (n:=n+1) (m:=n+1) (f:=fun a b=>oT (G a b)) (i:=x) (j:=0) ?_ rfl rfl hx (by omega) ?_
 ·rfl
 rw[ZpZ (v:=s.2) rfl]
 walk_at "z"
 refine Zk (ZgG hb bs.1 (Zws (ZbN hb1))) ?_
 refine⟨ZeC,?_⟩
 walk_at "z"
 refine Zrf (n:=n+1) (m:=n+1) (f:=fun a b=>oT (Zbi G x 0 s.2 a b)) (i:=0) (j:=x) (by walk_at "r") rfl rfl (by omega) hx ?_
 rw[ZpZ (v:=s.1.map fun y=>y*(-1)) rfl]
 exact⟨_,Zb2,rfl⟩
noncomputable def ZeT(R:Nat→Int×Int)(x:Nat)(q:Int×Int): Nat→Int×Int:=fun t=>if t=x then q else R t
theorem ZuG{x:Nat}: (T.lst (tab n fun i=>if i=x then ZL q else ZL (R i)))=ZaU n (ZeT R x q):=by
 unfold ZaU ZeT
 congr 1
 exact Za0 fun i _=>by
  by_cases c:i=x
  ·rw[if_pos c,if_pos c]
  ·rw[if_neg c,if_neg c]
theorem ZxP{x:Nat}{s:Sp}{P:T→Prop}(hx:x<n)(hn:n≤100)(hb:b≤100000)(hb1:1≤b)(bs:SBd b s)(h:Pk (Zbf [Zt n (ZdH (Zdm G (x+1)) (x+1) s) (ZeT R x q)]) P): Pk (ZdA [Zt n G R,.int ((x:Int)+1),spT s,ZL q]) P:=by
 unfold ZdA Zih
 have ht:∀{G:Nat→Nat→Option Int} {R:Nat→Int×Int},Zt n G R=.tup [Z1 (n+1) G,.lst (tab n fun i=>ZL (R i))]:=rfl
 rw[ht]
 walk_at "z"
 rw[show(x:Int)+1=((x+1:Nat):Int)by omega]
 refine Zk (ZtZ (by omega) hn) ?_
 walk_at "z"
 refine ZeL Zb2 ?_
 walk_at "z"
 refine Zk (Zt0 (b:=b) (by omega) hb hb1 bs) ?_
 walk_at "z"
 refine Zk (show Zkg [.lst (tab n fun i=>ZL (R i)),.int ((x+1:Nat):Int),ZL q]=some (ZaU n (ZeT R x q))by rw[show((x+1:Nat):Int)=(x:Int)+1 by omega,Zrg hx (by omega) (fun _ _=>Zes) Zes,ZuG]) ?_
 walk_at "z"
 exact h
theorem ZdW{a b:PS}{R:T→Prop}{N:TL→Prop}(M:TL→Prop)(h1:Psk (a σ) R M)(h2:∀σ,M σ→Psk (b σ) R N): Psk (Z8 a b σ) R N:=by
 obtain⟨o,s,e,p,q⟩:=h1
 exact Zne ⟨o,s,e,p,fun h=>h2 s (q h)⟩
noncomputable def Zbx(n:Nat)(G:Nat→Nat→Option Int): Nat→Nat→Option Int:=fun i j=>if i<n+1∧j<n+1 then G i j else if j=i then some 0 else none
noncomputable def ZbW(n:Nat)(R:Nat→Int×Int): Nat→Int×Int:=fun t=>if t<n then R t else(1,0)
theorem ZxQ{a:Nat}(h:a≤4): ZbZ a a 1=some []:=by
 have:a=0∨a=1∨a=2∨a=3∨a=4:=by omega
 obtain rfl | rfl | rfl | rfl | rfl:=this <;> (unfold ZbZ;rw[if_pos (by decide +kernel)];rfl)
theorem Zjx{g:PEs}{a:Nat}{L:List T→Prop}(ha:a≤4)(hm:m≤100)(e:g σ=some [.int a,.int (a+m)])(h:L (tab m fun i=>.int ((a+i:Nat):Int))): Pl (Zbu g σ) L:=by
 cases m with
 | zero=>
  have e2:ZbZ (a:Int) ((a:Int)+((0:Nat):Int)) 1=some []:=by simpa using ZxQ ha
  exact⟨[],Zh4 e e2,h⟩
 | succ m=>
  refine⟨_,Zh4 e (by have:=ZmP (a:=a) (n:=m+1) (by omega) (by omega);simpa using this),?_⟩
  rw[show(tab (m+1) fun i=>T.int ((a:Int)+i))=tab (m+1) fun i=>.int ((a+i:Nat):Int)from Za0 fun i _=>by congr 1]
  exact h
theorem Zwt(hi:i<n+1): (tab (n+1+m) fun j=>if j<n+1 then oT (G i j)else T.none)=tab (n+m+1) fun j=>oT (Zbx n G i j):=by
 rw[show n+1+m=n+m+1 by omega]
 refine Za0 fun j hj=>?_
 unfold Zbx
 by_cases c:j<n+1
 ·rw[if_pos c,if_pos ⟨hi,c⟩]
 ·rw[if_neg c,if_neg (by omega),if_neg (by omega)]
  rfl
theorem ZuH{b:Nat→Option Int}: T.flatIn (.lst (tab n fun j=>oT (b j)))=true:=Zg1 fun _ _=>ZeC
theorem ZuI: (T.lst (tab (n+m) fun i=>if i<n then T.tup [.int (R i).1,.int (R i).2]else T.tup [.int 1,.int 0]))=ZaU (n+m) (ZbW n R):=by
 unfold ZaU ZbW
 congr 1
 refine Za0 fun i _=>?_
 by_cases c:i<n
 ·rw[if_pos c,if_pos c];rfl
 ·rw[if_neg c,if_neg c];rfl
noncomputable def ZfN(q:Nat→Nat)(G':Nat→Nat→Option Int)(i:Nat)(Γ:Nat→Nat→Option Int): Nat→Nat→Nat→Option Int
 | 0=>Γ
 | j+1=>Zbi (ZfN q G' i Γ j) (q i) (q j) (ZaM (ZfN q G' i Γ j (q i) (q j)) (G' i j))
noncomputable def ZdI(q:Nat→Nat)(G':Nat→Nat→Option Int)(k:Nat)(Γ:Nat→Nat→Option Int): Nat→Nat→Nat→Option Int
 | 0=>Γ
 | i+1=>ZfN q G' i (ZdI q G' k Γ i) k
theorem Zi0{a:Nat}{v:Option Int}(ha:a<N)(hb:b<N): Ze9 [Z1 N Γ,.int a,.int b,oT v]=some (Z1 N (Zbi Γ a b (ZaM (Γ a b) v))):=by
 apply Pk.eq
 unfold Ze9 ZlL
 refine ZjJ rfl ?_
 unfold Z1 Zak
 walk_at "z"
 refine Zk ZpW ?_
 refine⟨ZeC,?_⟩
 walk_at "z"
 refine⟨_,Zb2,?_⟩
 exact ZrS
theorem Zsp{q:Nat→Nat}(hN:N≤100)(hk:k≤100)(hq:∀i,i<k→q i<N): ZkF [Z1 N Γ,.lst (tab k fun i=>.int (q i)),Z1 k G']=some (Z1 N (ZdI q G' k Γ k)):=by
 apply Pk.eq
 unfold ZkF ZfW
 have dp:Dp 8 (Z1 N Γ):=by
  refine Dp.mono (n:=2) (.lst (fun t m=>?_) (by rw[Z9];omega)) (by decide)
  obtain⟨i,hi,rfl⟩:=Zcx m
  refine .lst (fun t m=>?_) (by rw[Z9];omega)
  obtain⟨j,hj,rfl⟩:=Zcx m
  exact ZnL
 have eg:Z1 k G'=.lst (tab k fun i=>.lst (tab k fun j=>oT (G' i j))):=rfl
 rw[eg]
 walk_at "z"
 refine Zk (Zjw dp) ?_
 walk_at "z"
 refine ZeB (n:=k) (a:=fun i=>.int (q i)) (c:=fun i=>.lst (tab k fun j=>oT (G' i j))) (P:=fun i σ=>σ 1=some (.lst (tab k fun i=>.int (q i)))∧σ 3=some (Z1 N (ZdI q G' k Γ i))) ?_ ⟨by walk_at "r",by walk_at "r"⟩ ?_ ?_
 ·walk_at "z"
  rfl
 ·rintro i σ hi ⟨e1,e3⟩
  refine ZeB (n:=k) (a:=fun j=>.int (q j)) (c:=fun j=>oT (G' i j)) (P:=fun j σ=>σ 1=some (.lst (tab k fun i=>.int (q i)))∧σ 4=some (.int (q i))∧σ 3=some (Z1 N (ZfN q G' i (ZdI q G' k Γ i) j))) ?_ ⟨by walk_at "r",by walk_at "r",by walk_at "r"⟩ ?_ ?_
  ·walk_at "z"
   rfl
  ·rintro j σ hj ⟨e1,e4,e3⟩
   refine ZeL (t:=Z1 N (ZfN q G' i (ZdI q G' k Γ i) j)) (by walk_at "r") ?_
   walk_at "z"
   refine Zk (Zi0 (hq i hi) (hq j hj)) ?_
   exact⟨by walk_at "r",by walk_at "r",Zb2⟩
  ·rintro σ ⟨e1,e4,e3⟩
   exact⟨e1,e3⟩
 ·rintro σ ⟨e1,e3⟩
  walk_at "z"
  rfl
noncomputable def ZB(n:Nat)(c:Nat→Int): T:=.lst (tab (n+1) fun i=>.int (c i))
theorem Zef{k:Int}(hn:n≤1000)(hb:b≤100000)(bc:∀i,i<n+1→Bd b (c i))(bk:Bd b k): ZiX [ZB n c,.int k]=some (ZB n fun i=>c i*k):=by
 apply Pk.eq
 unfold ZiX ZgQ ZB
 walk_at "z"
 refine Zbs (n:=n+1) (a:=fun i=>.int (c i)) (b:=fun i=>.int (c i*k)) (by omega) ?_ (fun i hi=>?_) rfl
 ·walk_at "z"
  rfl
 ·walk_at "z"
  exact Zcb (Zdd (bc i hi) bk (by omega) (by omega)) rfl
noncomputable def S40(G:Nat→Nat→Option Int)(i:Nat): Sp:=((G 0 (i+1)).map fun y=>y*(-1),G (i+1) 0)
theorem ZsK(hn:n≤90)(hb:b≤100000)(hb1:1≤b)(bG:∀i j,i<n+1→j<n+1→∀y,G i j=some y→Bd b y): ZkR [Zt n G R]=some (.lst (tab n fun i=>spT (S40 G i))):=by
 apply Pk.eq
 unfold ZkR Zge
 have ht:Zt n G R=.tup [.lst (tab (n+1) fun i=>.lst (tab (n+1) fun j=>oT (G i j))),.lst (tab n fun i=>ZL (R i))]:=rfl
 rw[ht]
 walk_at "z"
 refine Zbs (n:=n) (a:=fun i=>.int ((1+i:Nat):Int)) (b:=fun i=>spT (S40 G i)) (by omega) ?_ (fun i hi=>?_) rfl
 ·refine Zjx (a:=1) (m:=n) (by omega) (by omega) ?_ rfl
  simp only[Zl,ZE,ZG,ZV,Zj,ZR,Option.bind_some,if_true,Zbc,Z9]
  congr 3
  congr 1
  omega
 ·have h1:1+i<n+1:=by omega
  have h0:0<n+1:=by omega
  walk_at "z"
  refine Zk (ZgG hb (fun y e=>bG 0 (1+i) h0 h1 y e) (show Bd b (-1)by unfold Bd;have:=ZbN hb1;unfold Bd at this;simpa using this)) ?_
  walk_at "z"
  unfold spT S40
  rw[show 1+i=i+1 by omega]
  rfl
theorem Zo6{σ:TL}{j:Nat}{cnd:PB}{P:T→Bool}: ∀{ts:List T},(∀t∈ts,cnd (ZR σ j t)=some (P t))→ZcE (ZaT j) cnd (Zj j) σ ts=some (ts.filter P)
 | [],_=>rfl
 | t::ts,h=>by
  have ih:=Zo6 fun t m=>h t (Zz2 _ m)
  have h0:=h t Zz5
  simp only[ZcE,ZaT,Option.bind_some,h0,Zj,Zb2,ih,Option.map_some,List.filter_cons]
  cases P t <;> rfl
theorem Zvu{cnd:PB}{P:T→Bool}(hl:ts.length≤10000)(hg:Pl (g σ) fun us=>us=ts)(hc:∀t∈ts,Pb (cnd (ZR σ j t)) fun b=>b=P t)(h:Q (.lst (ts.filter P))): Pk (Zbb g (ZaT j) cnd (Zj j) σ) Q:=by
 obtain⟨us,e,rfl⟩:=hg
 refine⟨_,?_,h⟩
 have:=Zo6 (σ:=σ) (j:=j) (cnd:=cnd) (P:=P) (ts:=us) fun t m=>by
  obtain⟨b,e1,rfl⟩:=hc t m
  exact e1
 simp only[Zbb,e,Option.bind_some,this,Option.map_some]
 rw[if_pos (by rw[ZaO];omega)]
noncomputable def xsI(n:Nat)(c:Nat→Int): List Int:=tab n fun i=>c (i+1)
noncomputable def nzI(n:Nat)(c:Nat→Int): List Int:=(xsI n c).filter fun x=>decide (x≠0)
def Df(n:Nat)(c:Nat→Int): Prop:=PM.Zc2 (nzI n c)=[-1,1]
theorem Zjy(ks:List Int): Zc1 (ks.map T.int)=some ks:=by
 induction ks with
 | nil=>rfl
 | cons k ks ih=>simp[Zc1,ih]
theorem Zt1{a b:List Int}(h:a.map T.int=b.map T.int): a=b:=by
 have:=congrArg Zc1 h
 rw[Zjy,Zjy]at this
 simpa using this
theorem Zrh(ks:List Int): Pln 1 (.lst (ks.map T.int)):=.lst fun t m=>by
 obtain⟨k,_,rfl⟩:=Zz11.mp m
 exact .int
theorem tab_map{α:Type}{f:Nat→α}{g:α→β}: (tab n f).map g=tab n fun i=>g (f i):=by simp[tab]
theorem Zsx(hn:n≤60): ZkM [ZB n c]=some (.bool (dec (Df n c))):=by
 apply Pk.eq
 unfold ZkM Zf5 ZB
 walk_at "z"
 refine Zvu (ts:=(xsI n c).map T.int) (P:=fun t=>match t with | .int x=>decide (x≠0) | _=>false) (by simp[xsI,Z9];omega) ?_ (fun t m=>?_) ?_
 ·refine ZmO ?_
  refine Zjp ?_
  walk_at "z"
  refine⟨_,rfl,?_⟩
  rw[ZmA]
  refine Sq.lst ?_
  unfold xsI
  rw[tab_map]
 ·obtain⟨x,_,rfl⟩:=Zz11.mp m
  walk_at "z"
  rfl
 have ef:((xsI n c).map T.int).filter (fun t=>match t with | .int x=>decide (x≠0) | _=>false)=(nzI n c).map T.int:=by
  unfold nzI
  rw[List.filter_map]
  rfl
 rw[ef]
 have hl:(nzI n c).length≤n:=by
  unfold nzI
  refine Nat.le_trans (List.length_filter_le _ _) ?_
  simp[xsI,Z9]
 walk_at "z"
 refine⟨.lst ((PM.Zc2 (nzI n c)).map T.int),?_,?_⟩
 ·simp only[ZmV,Zjy,Option.bind_some,List.length_map]
  rw[if_pos (by omega)]
 walk_at "z"
 refine ZbS (n:=1) (m:=1) (Zrh _) (Zrh [-1,1]) ?_
 by_cases h:Df n c
 ·rw[ZaE h,ZaE]
  show T.lst ((PM.Zc2 (nzI n c)).map T.int)=_
  rw[show PM.Zc2 (nzI n c)=[-1,1]from h]
  rfl
 ·rw[Zaz h,Zaz]
  intro q
  refine h (Zt1 ?_)
  simpa using q
noncomputable def ZaG(c:Nat→Int): Nat→List Nat
 | 0=>[]
 | n+1=>ZaG c n++(if 0<c (n+1)then [n+1]else [])
noncomputable def ZaK(c:Nat→Int): Nat→List Nat
 | 0=>[]
 | n+1=>ZaK c n++(if c (n+1)<0 then [n+1]else [])
theorem ups_mem{c:Nat→Int}: ∀{n i:Nat},i∈ZaG c n↔1≤i∧i≤n∧0<c i
 | 0,i=>by simp[ZaG];omega
 | n+1,i=>by
  simp only[ZaG,List.mem_append,ups_mem (n:=n)]
  by_cases h:0<c (n+1)
  ·simp only[h,if_true,List.mem_singleton]
   constructor
   ·rintro(⟨a,b,d⟩ | rfl)
    ·exact⟨a,by omega,d⟩
    ·exact⟨by omega,by omega,h⟩
   ·rintro⟨a,b,d⟩
    by_cases q:i=n+1
    ·exact .inr q
    ·exact .inl ⟨a,by omega,d⟩
  ·simp only[h,if_false,List.not_mem_nil,or_false]
   constructor
   ·rintro⟨a,b,d⟩;exact⟨a,by omega,d⟩
   ·rintro⟨a,b,d⟩
    have:i≠n+1:=fun q=>h (q▸d)
    exact⟨a,by omega,d⟩
theorem dns_mem{c:Nat→Int}: ∀{n i:Nat},i∈ZaK c n↔1≤i∧i≤n∧c i<0
 | 0,i=>by simp[ZaK];omega
 | n+1,i=>by
  simp only[ZaK,List.mem_append,dns_mem (n:=n)]
  by_cases h:c (n+1)<0
  ·simp only[h,if_true,List.mem_singleton]
   constructor
   ·rintro(⟨a,b,d⟩ | rfl)
    ·exact⟨a,by omega,d⟩
    ·exact⟨by omega,by omega,h⟩
   ·rintro⟨a,b,d⟩
    by_cases q:i=n+1
    ·exact .inr q
    ·exact .inl ⟨a,by omega,d⟩
  ·simp only[h,if_false,List.not_mem_nil,or_false]
   constructor
   ·rintro⟨a,b,d⟩;exact⟨a,by omega,d⟩
   ·rintro⟨a,b,d⟩
    have:i≠n+1:=fun q=>h (q▸d)
    exact⟨a,by omega,d⟩
theorem Zqu{c:Nat→Int}: ∀n,(ZaG c n).map c=(xsI n c).filter fun x=>decide (0<x)
 | 0=>rfl
 | n+1=>by
  have e:xsI (n+1) c=xsI n c++[c (n+1)]:=(ZdT (n:=n) (f:=fun i=>c (i+1))).symm
  rw[e,List.filter_append,←Zqu n]
  simp only[ZaG,List.map_append]
  by_cases h:0<c (n+1) <;> simp[h]
theorem Zqv{c:Nat→Int}: ∀n,(ZaK c n).map c=(xsI n c).filter fun x=>decide (x<0)
 | 0=>rfl
 | n+1=>by
  have e:xsI (n+1) c=xsI n c++[c (n+1)]:=(ZdT (n:=n) (f:=fun i=>c (i+1))).symm
  rw[e,List.filter_append,←Zqv n]
  simp only[ZaK,List.map_append]
  by_cases h:c (n+1)<0 <;> simp[h]
theorem df_iff: Df n c↔(ZaG c n).map c=[1]∧(ZaK c n).map c=[-1]:=by
 rw[Zqu,Zqv]
 have hp:(nzI n c).Perm ((xsI n c).filter (fun x=>decide (0<x))++(xsI n c).filter (fun x=>decide (x<0))):=by
  unfold nzI
  generalize xsI n c=xs
  induction xs with
  | nil=>exact List.Perm.refl _
  | cons x xs ih=>
   by_cases h1:0<x
   ·have:x≠0:=by omega
    have h2:¬x<0:=by omega
    simp only[List.filter_cons,h1,h2,this,decide_true,decide_false,ne_eq,not_false_eq_true,if_true,Bool.false_eq_true,if_false,List.cons_append]
    exact List.Perm.cons _ ih
   ·by_cases h2:x<0
    ·have:x≠0:=by omega
     simp only[List.filter_cons,h1,h2,this,decide_true,decide_false,ne_eq,not_false_eq_true,if_true,Bool.false_eq_true,if_false]
     exact(List.Perm.cons _ ih).trans List.perm_middle.symm
    ·have:x=0:=by omega
     subst this
     simpa using ih
 constructor
 ·intro h
  have hq:(nzI n c).Perm [-1,1]:=by
   have:=List.mergeSort_perm (nzI n c) fun a b=>decide (a≤b)
   rw[show(nzI n c).mergeSort (fun a b=>decide (a≤b))=[-1,1]from h]at this
   exact this.symm
  have hf:∀q:Int→Bool,(∀x,q x=true→x≠0)→(xsI n c).filter q=(nzI n c).filter q:=fun q hq=>by
   unfold nzI
   rw[List.filter_filter]
   refine List.filter_congr fun x _=>?_
   cases e:q x with
   | false=>simp
   | true=>simp[hq x e]
  rw[hf _ (fun x h=>by simp at h;omega),hf _ (fun x h=>by simp at h;omega)]
  have p1:=hq.filter fun x=>decide (0<x)
  have p2:=hq.filter fun x=>decide (x<0)
  exact⟨List.perm_singleton.mp (by simpa using p1),List.perm_singleton.mp (by simpa using p2)⟩
 ·rintro⟨h1,h2⟩
  rw[h1,h2]at hp
  unfold Df
  refine(PM.Zqh ?_ ?_).symm
  ·exact(hp.trans (List.Perm.swap (-1) 1 [])).symm
  ·simp
theorem Zqw{p q r:PE}(h:Pk (p σ) fun t=>∃ks:List Int,t=.lst (ks.map T.int)∧Pk (q σ) fun u=>∃k,u=.int k∧Pk (r σ) fun v=>v=.int 1∧k∈ks.drop 1∧Q (.int ((1+(ks.drop 1).idxOf k:Nat):Int))): Pk (Znk p q r σ) Q:=by
 obtain⟨_,e1,ks,rfl,_,e2,k,rfl,_,e3,rfl,hm,h⟩:=h
 refine⟨_,?_,h⟩
 simp only[Znk,e1,e2,e3,Option.bind_some,Zjy]
 rw[if_pos ⟨trivial,hm⟩]
theorem ZjQ: (tab (n+1) c).drop 1=xsI n c:=by
 unfold xsI
 apply List.ext_getElem
 ·simp[tab]
 ·intro i h1 h2
  simp[tab]
theorem ZrY{k:Int}(h:l.map c=[k]): ∃u,l=[u]∧c u=k:=by
 cases l with
 | nil=>simp at h
 | cons a l=>
  cases l with
  | nil=>exact⟨a,rfl,by simpa using h⟩
  | cons b l=>simp at h
theorem Zsh(hi:i<n): (xsI n c)[i]?=some (c (i+1)):=ZaL (f:=fun i=>c (i+1)) hi
theorem ZrZ{u:Nat}{k:Int}(h1:1≤u)(h2:u≤n)(hu:c u=k)(ho:∀i,1≤i→i≤n→c i=k→i=u): 1+(xsI n c).idxOf k=u∧k∈xsI n c:=by
 have hm:k∈xsI n c:=List.mem_of_getElem? (i:=u-1) (by rw[Zsh (by omega),show u-1+1=u by omega,hu])
 have hl:(xsI n c).idxOf k<(xsI n c).length:=List.idxOf_lt_length_iff.mpr hm
 have hn:(xsI n c).length=n:=Z9
 have hk:=List.getElem_idxOf hl
 have hx:(xsI n c)[(xsI n c).idxOf k]?=some k:=by rw[List.getElem?_eq_getElem hl,hk]
 rw[Zsh (by omega)]at hx
 have:=ho ((xsI n c).idxOf k+1) (by omega) (by omega) (by simpa using hx)
 exact⟨by omega,hm⟩
theorem Zfk(h:Df n c): ∃u d,ZaG c n=[u]∧ZaK c n=[d]∧c u=1∧c d = -1∧u<n+1∧d<n+1∧1≤u∧1≤d∧1+(xsI n c).idxOf 1=u∧1+(xsI n c).idxOf (-1)=d∧1∈xsI n c∧-1∈xsI n c:=by
 obtain⟨h1,h2⟩:=df_iff.mp h
 obtain⟨u,eu,hu⟩:=ZrY h1
 obtain⟨d,ed,hd⟩:=ZrY h2
 have mu:=ups_mem.mp (show u∈ZaG c n by rw[eu];simp)
 have md:=dns_mem.mp (show d∈ZaK c n by rw[ed];simp)
 have a1:=ZrZ mu.1 mu.2.1 hu fun i q1 q2 q3=>by
  have:i∈ZaG c n:=ups_mem.mpr ⟨q1,q2,by omega⟩
  rw[eu]at this
  simpa using this
 have a2:=ZrZ md.1 md.2.1 hd fun i q1 q2 q3=>by
  have:i∈ZaK c n:=dns_mem.mpr ⟨q1,q2,by omega⟩
  rw[ed]at this
  simpa using this
 exact⟨u,d,eu,ed,hu,hd,by omega,by omega,mu.1,md.1,a1.1,a2.1,a1.2,a2.2⟩
noncomputable def grt(n:Nat)(G:Nat→Nat→Option Int)(c:Nat→Int): Option Int:=if dec (Df n c)then addO (G (1+(xsI n c).idxOf 1) (1+(xsI n c).idxOf (-1))) (some (c 0))else(Zbj c (S40 G) n).2
def GB(b n:Nat)(G:Nat→Nat→Option Int): Prop:=∀i j,i<n+1→j<n+1→∀y,G i j=some y→Bd b y
theorem Zns(hG:GB b n G): ∀i,i<n→SBd b (S40 G i):=fun i hi=>⟨fun x e=>by
 obtain⟨y,e1,e2⟩:=Zz1.mp e
 have:=hG 0 (i+1) (by omega) (by omega) y e1
 subst e2
 unfold Bd at *
 omega,fun x e=>hG (i+1) 0 (by omega) (by omega) x e⟩
theorem Ze6(hn:n≤60)(hb:b≤100000)(hb1:1≤b)(hG:GB b n G)(bc:∀i,i<n+1→Bd b (c i)): Zhg [Zt n G R,ZB n c]=some (oT (grt n G c)):=by
 apply Pk.eq
 unfold Zhg Zhf grt
 have ht:Zt n G R=.tup [.lst (tab (n+1) fun i=>.lst (tab (n+1) fun j=>oT (G i j))),.lst (tab n fun i=>ZL (R i))]:=rfl
 have hs:ZB n c=.lst ((tab (n+1) c).map T.int):=by unfold ZB;rw[tab_map]
 walk_at "z"
 refine Zk (Zsx hn) ?_
 by_cases h:Df n c
 ·obtain⟨u,d,_,_,_,_,hu,hd,_,_,eu,ed,mu,md⟩:=Zfk h
  rw[ZaE h]
  rw[ht]
  walk_at "z"
  refine Zqw ?_
  walk_at "z"
  refine⟨tab (n+1) c,hs,?_⟩
  walk_at "z"
  refine⟨1,rfl,?_⟩
  walk_at "z"
  refine⟨rfl,by rw[ZjQ];exact mu,?_⟩
  rw[ZjQ,eu]
  walk_at "z"
  refine Zqw ?_
  walk_at "z"
  refine⟨tab (n+1) c,hs,?_⟩
  walk_at "z"
  refine⟨-1,rfl,?_⟩
  walk_at "z"
  refine⟨rfl,by rw[ZjQ];exact md,?_⟩
  rw[ZjQ,ed]
  unfold ZB
  walk_at "z"
  exact Zk (Ze5 (b:=some (c (Int.toNat 0)))) rfl
 ·rw[Zaz h]
  walk_at "z"
  refine Zk (ZsK (by omega) hb hb1 hG) ?_
  walk_at "z"
  refine Zk (ZsY (by omega) hb bc (Zns hG)) ?_
  unfold spT
  walk_at "z"
  rfl
theorem ZxR: ZB n (fun i=>c i * -1)=ZB n fun i=>-(c i):=by
 unfold ZB
 congr 1
 exact Za0 fun i _=>by show T.int (c i * -1)=T.int (-(c i));congr 1;omega
noncomputable def sU(G:Nat→Nat→Option Int)(c:Nat→Int)(l:List Nat): Int:=(l.map fun i=>c i*(G i 0).getD 0).sum
noncomputable def sD(G:Nat→Nat→Option Int)(c:Nat→Int)(l:List Nat): Int:=(l.map fun i=>c i*(G 0 i).getD 0).sum
def Zc5(G:Nat→Nat→Option Int)(c:Nat→Int)(n:Nat): Prop:=(∃i∈ZaG c n,G i 0=none)∨∃i∈ZaK c n,G 0 i=none
theorem ZxS: sU G c (l++[i])=sU G c l+c i*(G i 0).getD 0:=by simp[sU]
theorem ZxT: sD G c (l++[i])=sD G c l+c i*(G 0 i).getD 0:=by simp[sD]
theorem tot{G:Nat→Nat→Option Int}{c:Nat→Int}: ∀n,(Zc5 G c n→(Zbj c (S40 G) n).2=none)∧(¬Zc5 G c n→(Zbj c (S40 G) n).2=some (c 0+sU G c (ZaG c n)-sD G c (ZaK c n)))
 | 0=>⟨fun h=>(by rcases h with⟨i,m,_⟩ | ⟨i,m,_⟩ <;> cases m),fun _=>by simp[Zbj,sU,sD,ZaG,ZaK]⟩
 | n+1=>by
  obtain⟨ih1,ih2⟩:=tot (G:=G) (c:=c) n
  have step:(Zbj c (S40 G) (n+1)).2=addO (Zbj c (S40 G) n).2 (Zbv (S40 G n) (c (n+1))).2:=rfl
  rw[step]
  have mono:Zc5 G c n→Zc5 G c (n+1):=fun h=>h.imp (fun⟨i,m,e⟩=>⟨i,by simp only[ZaG,List.mem_append];exact .inl m,e⟩) fun⟨i,m,e⟩=>⟨i,by simp only[ZaK,List.mem_append];exact .inl m,e⟩
  rcases Int.lt_trichotomy (c (n+1)) 0 with h | h | h
  ·have h0:¬0<c (n+1):=by omega
   have hz:¬c (n+1)=0:=by omega
   have eu:ZaG c (n+1)=ZaG c n:=by simp[ZaG,h0]
   have ed:ZaK c (n+1)=ZaK c n++[n+1]:=by simp[ZaK,h]
   have et:(Zbv (S40 G n) (c (n+1))).2=(G 0 (n+1)).map fun y=>y*(-1)*c (n+1):=by
    unfold Zbv S40
    rw[if_neg hz,if_pos h]
    cases G 0 (n+1) <;> rfl
   rw[et]
   cases hg:G 0 (n+1)with
   | none=>
    refine⟨fun _=>?_,fun q=>absurd (.inr ⟨n+1,by rw[ed];simp,hg⟩) q⟩
    cases (Zbj c (S40 G) n).2 <;> rfl
   | some y=>
    have hl:Zc5 G c (n+1)→Zc5 G c n:=by
     rintro(⟨i,m,e⟩ | ⟨i,m,e⟩)
     ·rw[eu]at m;exact .inl ⟨i,m,e⟩
     ·rw[ed]at m
      rcases Zz8.mp m with m | m
      ·exact .inr ⟨i,m,e⟩
      ·rw[List.mem_singleton.mp m,hg]at e;cases e
    refine⟨fun q=>by rw[ih1 (hl q)];rfl,fun q=>?_⟩
    rw[ih2 fun r=>q (mono r),eu,ed,ZxT,hg]
    simp only[addO,Option.map_some,Option.getD_some]
    congr 1
    have:y*(-1)*c (n+1) = -(c (n+1)*y):=by rw[Int.mul_neg,Int.mul_one,Int.neg_mul,Int.mul_comm]
    omega
  ·have h0:¬0<c (n+1):=by omega
   have h1:¬c (n+1)<0:=by omega
   have eu:ZaG c (n+1)=ZaG c n:=by simp[ZaG,h0]
   have ed:ZaK c (n+1)=ZaK c n:=by simp[ZaK,h1]
   have et:(Zbv (S40 G n) (c (n+1))).2=some 0:=by unfold Zbv;rw[if_pos h]
   have el:Zc5 G c (n+1)↔Zc5 G c n:=by unfold Zc5;rw[eu,ed]
   rw[et,ZrU,el,eu,ed]
   exact⟨ih1,ih2⟩
  ·have h1:¬c (n+1)<0:=by omega
   have hz:¬c (n+1)=0:=by omega
   have eu:ZaG c (n+1)=ZaG c n++[n+1]:=by simp[ZaG,h]
   have ed:ZaK c (n+1)=ZaK c n:=by simp[ZaK,h1]
   have et:(Zbv (S40 G n) (c (n+1))).2=(G (n+1) 0).map fun y=>y*c (n+1):=by
    unfold Zbv S40
    rw[if_neg hz,if_neg h1]
   rw[et]
   cases hg:G (n+1) 0 with
   | none=>
    refine⟨fun _=>?_,fun q=>absurd (.inl ⟨n+1,by rw[eu];simp,hg⟩) q⟩
    cases (Zbj c (S40 G) n).2 <;> rfl
   | some y=>
    have hl:Zc5 G c (n+1)→Zc5 G c n:=by
     rintro(⟨i,m,e⟩ | ⟨i,m,e⟩)
     ·rw[eu]at m
      rcases Zz8.mp m with m | m
      ·exact .inl ⟨i,m,e⟩
      ·rw[List.mem_singleton.mp m,hg]at e;cases e
     ·rw[ed]at m;exact .inr ⟨i,m,e⟩
    refine⟨fun q=>by rw[ih1 (hl q)];rfl,fun q=>?_⟩
    rw[ih2 fun r=>q (mono r),eu,ed,ZxS,hg]
    simp only[addO,Option.map_some,Option.getD_some]
    congr 1
    have:y*c (n+1)=c (n+1)*y:=Int.mul_comm _ _
    omega
theorem Zri{b n:Nat}{c:Nat→Int}{S:Nat→Sp}(bc:∀i,i<n+1→Bd b (c i))(bS:∀i,i<n→SBd b (S i)): ∀j,j≤n→∀y,(Zbj c S j).2=some y→Bd (b+b+j+1) y
 | 0,_,y,e=>by cases e;exact(bc 0 (by omega)).mono (by omega)
 | j+1,h,y,e=>by
  obtain⟨p,q,h1,h2,rfl⟩:=addO_some.mp (show addO (Zbj c S j).2 (Zbv (S j) (c (j+1))).2=some y from e)
  have ih:=Zri bc bS j (by omega) p h1
  have hq:Bd (b+b) q:=by
   unfold Zbv at h2
   split at h2
   ·cases h2;exact ZaI
   ·split at h2
    ·obtain⟨z,e1,rfl⟩:=Zz1.mp h2
     exact((bS j (by omega)).1 z e1).mul (bc (j+1) (by omega))
    ·obtain⟨z,e1,rfl⟩:=Zz1.mp h2
     exact((bS j (by omega)).2 z e1).mul (bc (j+1) (by omega))
  exact(ih.add (hq.mono (by omega))).mono (by omega)
theorem ZxU(bc:∀i,i<n+1→Bd b (c i)): ∀i,i<n+1→Bd b (-(c i)):=fun i hi=>by
 have:=bc i hi
 unfold Bd at *
 omega
noncomputable def ZK(c:Nat→Int)(x:Nat→Int): Nat→Int
 | 0=>c 0
 | j+1=>ZK c x j+c (j+1)*x j
theorem Zrj{c x:Nat→Int}: ∀n,c 0+(tab n fun i=>c (i+1)*x i).sum=ZK c x n
 | 0=>by simp[tab,ZK]
 | n+1=>by
  rw[←ZdT (n:=n) (f:=fun i=>c (i+1)*x i),List.sum_append]
  have:=Zrj (c:=c) (x:=x) n
  simp only[List.sum_cons,List.sum_nil,ZK]
  omega
theorem Zr0{c x:Nat→Int}{S:Nat→Sp}{n:Nat}(h:∀i,i<n→InS (S i) (x i)): ∀j,j≤n→InS (Zbj c S j) (ZK c x j)
 | 0,_=>⟨fun l e=>by cases e;exact Int.le_refl _,fun l e=>by cases e;exact Int.le_refl _⟩
 | j+1,hj=>Zwp (Zr0 h j (by omega)) (Zvr (h j (by omega)))
theorem Zfu{c x:Nat→Int}: ∀n,ZK (fun i=>-(c i)) x n = -(ZK c x n)
 | 0=>rfl
 | n+1=>by
  simp only[ZK,Zfu n,Int.neg_mul]
  omega
noncomputable def sV(c x:Nat→Int)(l:List Nat): Int:=(l.map fun i=>c i*x (i-1)).sum
theorem Zp0{c x:Nat→Int}: ∀n,ZK c x n=c 0+sV c x (ZaG c n)+sV c x (ZaK c n)
 | 0=>by simp[ZK,sV,ZaG,ZaK]
 | n+1=>by
  have ih:=Zp0 (c:=c) (x:=x) n
  have sn:∀l,sV c x (l++[n+1])=sV c x l+c (n+1)*x n:=fun l=>by simp[sV]
  simp only[ZK,ZaG,ZaK,ih]
  rcases Int.lt_trichotomy (c (n+1)) 0 with h | h | h
  ·rw[if_neg (by omega),if_pos h,List.append_nil,sn]
   omega
  ·rw[if_neg (by omega),if_neg (by omega),List.append_nil,List.append_nil,h]
   omega
  ·rw[if_pos h,if_neg (by omega),List.append_nil,sn]
   omega
theorem ZeO(h:Zaw n G R x)(e:grt n G c=some y): ZK c x n≤y:=by
 unfold grt at e
 by_cases hd:Df n c
 ·rw[ZaE hd]at e
  obtain⟨u,d,eu,ed,hcu,hcd,hu,hdn,hu1,hd1,iu,id_,_,_⟩:=Zfk hd
  rw[iu,id_]at e
  obtain⟨p,q,h1,h2,rfl⟩:=addO_some.mp (show addO (G u d) (some (c 0))=some y from e)
  cases h2
  have hb:=h.1 u d hu hdn p h1
  rw[Zp0,eu,ed]
  have f:∀i,1≤i→Zab x i=x (i-1):=fun i hi=>by
   cases i with
   | zero=>omega
   | succ i=>rfl
  rw[f u hu1,f d hd1]at hb
  simp only[sV,List.map_cons,List.map_nil,List.sum_cons,List.sum_nil,hcu,hcd]
  omega
 ·rw[Zaz hd]at e
  refine(Zr0 (S:=S40 G) (n:=n) (fun i hi=>⟨fun l el=>?_,fun r er=>?_⟩) n (Zz10 n)).2 y e
  ·obtain⟨z,e1,rfl⟩:=Zz1.mp el
   have:=h.1 0 (i+1) (by omega) (by omega) z e1
   have f0:Zab x 0=0:=rfl
   have f1:Zab x (i+1)=x i:=rfl
   show z*(-1)≤x i
   omega
  ·have:=h.1 (i+1) 0 (by omega) (by omega) r er
   have f0:Zab x 0=0:=rfl
   have f1:Zab x (i+1)=x i:=rfl
   omega
theorem Zwu(hn:n≤60)(hb:b≤100000)(bc:∀i,i<n+1→Bd b (c i))(bx:∀i,i<n→Bd b (x i)): ZcJ [ZB n c,Zac n x]=some (.int (ZK c x n)):=by
 apply Pk.eq
 unfold ZcJ ZgR ZB Zac
 have h0:0<n+1:=by omega
 walk_at "z"
 refine Zbs (n:=n) (a:=fun i=>.int i) (b:=fun i=>.int (c (i+1)*x i)) (by omega) ?_ (fun i hi=>?_) ?_
 ·walk_at "z"
  rfl
 ·walk_at "z"
  rw[show((i:Int)+1).toNat=i+1 by omega]
  exact Zcb (Zdd (bc (i+1) (by omega)) (bx i hi) (by omega) (by omega)) rfl
 walk_at "z"
 refine⟨.int (tab n fun i=>c (i+1)*x i).sum,by simp only[ZnX,ZvZ,Option.map_some],?_⟩
 walk_at "z"
 rw[show(Int.toNat 0)=0 from rfl,Zrj]
def SumB(n:Nat)(c:Nat→Int)(K:Int): Prop:=Bd 140 (c 0)∧∀i,1≤i→i<n+1→-K≤c i∧c i≤K
theorem SumB.mono(h:SumB n c K)(hK:K≤K'): SumB n c K':=⟨h.1,fun i h1 h2=>by have:=h.2 i h1 h2;omega⟩
theorem ZjR{x:Nat}{k:Int}{N:TL→Prop}(e:σ x=some (.lst (tab (n+1) fun i=>.int (c i))))(h0:1≤k)(h1:k<(n+1:Nat))(bc:SumB n c K)(hK:K≤K')(v0:-K'≤v)(v1:v≤K')(h:∀c',SumB n c' K'→N (ZR σ x (.lst (tab (n+1) fun i=>.int (c' i))))): PutP σ x (.int v) (.int k) N:=by
 refine ZlY (n:=n+1) (f:=fun i=>.int (c i)) e (by omega) h1 ?_
 have:=h (fun i=>if i=k.toNat then v else c i) ⟨by show Bd 140 (if 0=k.toNat then v else c 0);rw[if_neg (by omega)];exact bc.1,fun i hi1 hi2=>by
  by_cases q:i=k.toNat
  ·simp only[q,if_true];exact⟨v0,v1⟩
  ·simp only[q,if_false];have:=bc.2 i hi1 hi2;omega⟩
 rw[show(tab (n+1) fun i=>if i=k.toNat then T.int v else T.int (c i))=tab (n+1) fun i=>T.int (if i=k.toNat then v else c i)from Za0 fun i _=>by split <;> rfl]
 exact this
noncomputable def ZP(i:Nat): Nat→Int:=fun k=>if 0<i∧k=i then 1 else 0
theorem Zem(hn:n≤900): ZdP [.int i,.int n]=some (ZB n (ZP i)):=by
 apply Pk.eq
 unfold ZdP ZhC ZB
 walk_at "z"
 refine Zbs (n:=n+1) (a:=fun k=>.int (k:Nat)) (b:=fun k=>.int (ZP i k)) (by omega) ?_ (fun k hk=>?_) rfl
 ·walk_at "z"
  exact ZfJ (n+1) (by omega) (by omega) rfl
 ·walk_at "z"
  by_cases h:0<i
  ·refine⟨fun _=>?_,fun c=>absurd c (by simp;omega)⟩
   walk_at "z"
   by_cases q:k=i
   ·refine⟨fun _=>?_,fun c=>absurd c (by simp[q])⟩
    walk_at "z"
    show _=T.int (ZP i k)
    unfold ZP
    rw[if_pos ⟨h,q⟩]
   ·refine⟨fun c=>absurd c (by simp;omega),fun _=>?_⟩
    walk_at "z"
    show _=T.int (ZP i k)
    unfold ZP
    rw[if_neg (fun c=>q c.2)]
  ·refine⟨fun c=>absurd c (by simp;omega),fun _=>⟨fun c=>absurd c (by decide),fun _=>?_⟩⟩
   walk_at "z"
   show _=T.int (ZP i k)
   unfold ZP
   rw[if_neg (fun c=>h c.1)]
theorem Zt2{d:Nat→Int}(hn:n≤900): ZlN [ZB n c,ZB n d]=some (ZB n fun k=>c k+d k):=by
 apply Pk.eq
 unfold ZlN Zhi ZB
 walk_at "z"
 refine Zml (n:=n+1) (a:=fun i=>.int (c i)) (b:=fun i=>.int (d i)) (c:=fun i=>.int (c i+d i)) (by omega) ?_ (fun i hi=>?_) rfl
 ·walk_at "z"
  rfl
 ·walk_at "z"
  rfl
theorem Zi1{d:Nat→Int}(hn:n≤900)(hb1:1≤b)(hb:b≤100000)(bd:∀i,i<n+1→Bd b (d i)): Zja [ZB n c,ZB n d]=some (ZB n fun k=>c k-d k):=by
 apply Pk.eq
 unfold Zja Zhj
 walk_at "z"
 refine Zk (Zef (by omega) hb bd (show Bd b (-1)by unfold Bd;have:=ZbN hb1;unfold Bd at this;simpa using this)) ?_
 walk_at "z"
 refine Zk (Zt2 hn) ?_
 walk_at "z"
 have:(fun k=>c k+d k * -1)=fun k=>c k-d k:=by funext k;omega
 rw[this]
noncomputable def ZcF(C:Nat→Nat→Int): Nat→Nat→Int
 | 0=>fun _=>0
 | i+1=>C i
noncomputable def dC(C:Nat→Nat→Int)(i j:Nat): Nat→Int:=fun k=>ZcF C i k-ZcF C j k
noncomputable def rcG(n:Nat)(G:Nat→Nat→Option Int)(C:Nat→Nat→Int)(i j:Nat): Option Int:=grt n G (dC C i j)
noncomputable def rcR(n:Nat)(R:Nat→Int×Int)(C:Nat→Nat→Int)(i:Nat): Int×Int:=Zap (C i) R n
noncomputable def Za7(n m:Nat)(C:Nat→Nat→Int): T:=.lst (tab m fun i=>ZB n (C i))
def CB(b n m:Nat)(C:Nat→Nat→Int): Prop:=∀i,i<m→∀k,k<n+1→Bd b (C i k)
theorem CB.full(h:CB b n m C): ∀i,i<m+1→∀k,k<n+1→Bd b (ZcF C i k)
 | 0,_,_,_=>ZaI
 | i+1,hi,k,hk=>h i (by omega) k hk
theorem CB.dif(h:CB b n m C)(hi:i<m+1)(hj:j<m+1): ∀k,k<n+1→Bd (b+1) (dC C i j k):=fun k hk=>by
 have h1:=h.full i hi k hk
 have h2:=h.full j hj k hk
 unfold Bd dC at *
 rw[Nat.pow_succ]
 omega
theorem unC_0: ZP 0=fun _=>0:=by funext k;unfold ZP;rw[if_neg (by omega)]
theorem ZxV(hG:GB b n G)(bc:∀i,i<n+1→Bd b (c i)): ∀y,grt n G c=some y→Bd (b+b+n+1) y:=fun y e=>by
 unfold grt at e
 by_cases h:Df n c
 ·rw[ZaE h]at e
  obtain⟨u,d,_,_,_,_,hu,hd,_,_,iu,id_,_,_⟩:=Zfk h
  rw[iu,id_]at e
  obtain⟨p,q,h1,h2,rfl⟩:=addO_some.mp (show addO (G u d) (some (c 0))=some y from e)
  cases h2
  exact((hG u d hu hd p h1).add (bc 0 (by omega))).mono (by omega)
 ·rw[Zaz h]at e
  exact(Zri bc (Zns hG) n (Zz10 n) y e).mono (by omega)
theorem ZAf(h:∀k,c k=0): ∀n,ZaG c n=[]
 | n=>List.eq_nil_iff_forall_not_mem.mpr fun i hi=>by have:=(ups_mem.mp hi).2.2;rw[h]at this;omega
theorem Zsi(h:∀k,c k=0): grt n G c=some 0:=by
 unfold grt
 have hd:¬Df n c:=fun q=>by have:=(df_iff.mp q).1;rw[ZAf h]at this;cases this
 rw[Zaz hd]
 have:∀j,Zbj c (S40 G) j=(some 0,some 0):=fun j=>by
  induction j with
  | zero=>show(some (c 0),some (c 0))=_;rw[h]
  | succ j ih=>
   show ZfM (Zbj c (S40 G) j) (Zbv (S40 G j) (c (j+1)))=_
   rw[ih,h]
   rfl
 show(Zbj c (S40 G) n).2=some 0
 rw[this]
theorem Zsn: ∀i,i<m+1→rcG n G C i i=some 0:=fun i _=>Zsi fun k=>by unfold dC;omega
theorem Zfv{c d x:Nat→Int}: ∀n,ZK (fun k=>c k-d k) x n=ZK c x n-ZK d x n
 | 0=>rfl
 | n+1=>by
  simp only[ZK,Zfv n,Int.sub_mul]
  omega
theorem ZmB{x:Nat→Int}: ∀n,ZK (fun _=>0) x n=0
 | 0=>rfl
 | n+1=>by simp only[ZK,ZmB n,Int.zero_mul];omega
theorem Zqx: ∀i,ZK (ZcF C i) x n=Zab (fun t=>ZK (C t) x n) i
 | 0=>ZmB n
 | i+1=>rfl
theorem ZjS{c:Nat→Int}{R:Nat→Int×Int}{x:Nat→Int}{n:Nat}(ok:∀t,t<n→RestOk (R t))(h:∀t,t<n→Z6 (R t) (x t)): ∀j,j≤n→ZaJ c R j ∣ ZK c x j-Zby c R j
 | 0,_=>by show(0:Int) ∣ c 0-c 0;rw[Int.sub_self];exact Int.dvd_zero _
 | j+1,hj=>by
  have h1:ZaJ c R (j+1) ∣ ZaJ c R j:=Int.gcd_dvd_left ..
  have h2:ZaJ c R (j+1) ∣ c (j+1)*(R j).1:=Int.gcd_dvd_right ..
  obtain⟨z,hz⟩:=(ZaW (ok j (by omega)).nn (x j)).mp (h j (by omega))
  have h3:=Int.dvd_add (Int.dvd_trans h1 (ZjS ok h j (by omega))) (Int.dvd_trans h2 (Int.dvd_mul_right _ z))
  rw[show ZK c x (j+1)=ZK c x j+c (j+1)*x j from rfl,show Zby c R (j+1)=Zby c R j+c (j+1)*(R j).2 from rfl,show x j=(R j).2+(R j).1*z by omega,Int.mul_add,←Int.mul_assoc]
  generalize c (j+1)*(R j).1*z=u at *
  generalize c (j+1)*(R j).2=v at *
  rwa [show ZK c x j+(v+u)-(Zby c R j+v)=ZK c x j-Zby c R j+u by omega]
theorem Zrk(ok:∀t,t<n→RestOk (R t))(h:Zaw n G R x): Zaw m (rcG n G C) (rcR n R C) fun t=>ZK (C t) x n:=by
 refine⟨fun i j hi hj b e=>?_,fun t ht=>?_⟩
 ·rw[←Zqx,←Zqx,←Zfv]
  exact ZeO h e
 ·unfold rcR
  rw[ZcX ok n (Zz10 n)]
  exact(Zcg (ZcW _ _ _) _).mpr (ZjS ok h.2 n (Zz10 n))
theorem Zp1{kk:Int}{w at_ m lo:Int}{N:TL→Prop}(hk0:0≤kk)(hk9:kk≤1000)(hm:0<m)(hn:n≤9)(hK:K≤K')(hlo:-K'≤-lo)(hhi:m-1-lo≤K')(e0:σ 0=some (scr ns))(e1:σ 1=some (.int kk))(e2:σ 2=some (.int n))(e4:σ 4=some (.int w))(e5:σ 5=some (.int (1+at_)))(e3:σ 3=some (.lst (tab (n+1) fun i=>.int (c i))))(bc:SumB n c K)(h:∀σ' c',σ' 0=some (scr ns)→σ' 1=some (.int kk)→σ' 2=some (.int n)→σ' 4=some (.int w)→σ' 5=some (.int (1+at_))→σ' 3=some (.lst (tab (n+1) fun i=>.int (c' i)))→SumB n c' K'→N σ')(pm plo:PE)(epm:∀σ,pm σ=some (.int m))(eplo:∀σ,plo σ=some (.int lo)): Psk (Zcu (Zbu (Zl (Zj 2) ZG)) (ZaT 7) (Zb0 3 [] (ZC Zdr (ZV ZcK (Zl (Zj 0) (Zl (ZC Zaj (ZC Zaj (Zj 1) (ZE 1)) (Zj 7)) (Zl pm ZG)))) plo) Zbm (ZC Zaj (Zj 7) (ZE 1))) σ) Q N:=by
 refine Zco (n:=n) (a:=fun i=>.int i) (P:=fun _ σ'=>σ' 0=some (scr ns)∧σ' 1=some (.int kk)∧σ' 2=some (.int n)∧σ' 4=some (.int w)∧σ' 5=some (.int (1+at_))∧∃c',σ' 3=some (.lst (tab (n+1) fun i=>.int (c' i)))∧SumB n c' K') ?_ ⟨e0,e1,e2,e4,e5,c,e3,bc.mono hK⟩ ?_ ?_
 ·walk_at "z"
  rfl
 ·rintro i σ' hi ⟨f0,f1,f2,f4,f5,c',f3,bc'⟩
  obtain⟨k0,k1⟩:=Zb6 ns (kk+1+(i:Int)) hm
  walk_at "z"
  refine⟨_,epm _,?_⟩
  walk_at "z"
  refine Zk (ZbH (by omega) (by omega) hm) ?_
  refine⟨_,eplo _,?_⟩
  walk_at "z"
  refine ZjR (n:=n) (c:=c') (K:=K') (K':=K') (by walk_at "r") (by omega) (by omega) bc' (Int.le_refl _) (by omega) (by omega) fun c2 bc2=>?_
  exact⟨by walk_at "r",by walk_at "r",by walk_at "r",by walk_at "r",by walk_at "r",c2,Zb2,bc2⟩
 ·rintro σ' ⟨f0,f1,f2,f4,f5,c',f3,bc'⟩
  exact h σ' c' f0 f1 f2 f4 f5 f3 bc'
theorem ZnN{kk:Int}(hk0:0≤kk)(hk9:kk≤1000)(hL:Lay ns)(hn:n≤9): Pk (Zl5 [scr ns,.int kk,.int n]) fun t=>∃c,t=ZB n c∧SumB n c 1000000000:=by
 unfold Zl5 Zl4
 have bn:Bd 140 (ZaF ns kk):=Zdc (ZeE ns kk) (by decide)
 obtain⟨p0,p1⟩:=Zb6 ns kk (show(0:Int)<6 by decide)
 refine ZrJ rfl ?_
 refine ZdW (fun σ'=>σ' 0=some (scr ns)∧σ' 1=some (.int kk)∧σ' 2=some (.int n)∧∃c,σ' 3=some (.lst (tab (n+1) fun i=>.int (c i)))∧SumB n c 0) ?_ ?_
 ·walk_at "z"
  refine Zk (ZdR hL (by omega) (by omega)) ?_
  walk_at "z"
  refine Zm1 (by omega) ?_
  refine ZqS (by omega) ?_
  rw[show cn (T.int (ZaF ns kk)) (fun _=>T.int 0)=fun i=>T.int (cn (ZaF ns kk) (fun _=>0) i)from by funext i;cases i <;> rfl]
  refine⟨Zg1 fun _ _=>rfl,?_⟩
  refine⟨rfl,rfl,rfl,_,Zb2,bn,fun i h1 h2=>?_⟩
  cases i with
  | zero=>omega
  | succ i=>exact⟨Int.le_refl 0,Int.le_refl 0⟩
 rintro σ1 ⟨e0,e1,e2,c,e3,bc⟩
 walk_at "z"
 refine Zk (ZbH (by omega) (by omega) (by decide)) ?_
 by_cases hz:ZaR ns kk 6=0∨n=0
 ·rcases hz with hz | hz
  ·walk_at "z"
   exact⟨c,rfl,bc.mono (by decide)⟩
  ·by_cases q:ZaR ns kk 6=0
   ·walk_at "z"
    exact⟨c,rfl,bc.mono (by decide)⟩
   ·have:(n:Int)=0:=by omega
    walk_at "z"
    exact⟨c,rfl,bc.mono (by decide)⟩
 have hz1:ZaR ns kk 6≠0:=fun q=>hz (.inl q)
 have hn0:(n:Int)≠0:=fun q=>hz (.inr (by omega))
 obtain⟨a0,a1⟩:=Zb6 ns (kk+1) (show(0:Int)<n by omega)
 walk_at "z"
 refine Zk (ZbH (by omega) (by omega) (by omega)) ?_
 refine Zj4 ?_
 generalize ZaR ns kk 6=w at *
 generalize ZaR ns (kk+1) n=at_ at *
 let M:Int→TL→Prop:=fun K σ'=>σ' 0=some (scr ns)∧σ' 1=some (.int kk)∧σ' 2=some (.int n)∧σ' 4=some (.int w)∧σ' 5=some (.int (1+at_))∧∃c,σ' 3=some (.lst (tab (n+1) fun i=>.int (c i)))∧SumB n c K
 refine ZdW (M 6) ?_ ?_
 ·walk_at "z"
  refine⟨fun q=>?_,fun q=>?_⟩
  ·obtain⟨k0,k1⟩:=Zb6 ns (kk+2) (show(0:Int)<13 by decide)
   walk_at "z"
   refine Zk (ZbH (by omega) (by omega) (by decide)) ?_
   walk_at "z"
   refine ZjR (n:=n) (c:=c) (K:=0) (K':=6) (by walk_at "r") (by omega) (by omega) bc (by decide) (by omega) (by omega) fun c' bc'=>?_
   exact⟨by walk_at "r",by walk_at "r",by walk_at "r",by walk_at "r",by walk_at "r",c',Zb2,bc'⟩
  ·walk_at "z"
   exact⟨by walk_at "r",by walk_at "r",by walk_at "r",by walk_at "r",by walk_at "r",c,by walk_at "r",bc.mono (by decide)⟩
 clear bc e3 c
 rintro σ2 ⟨f0,f1,f2,f4,f5,c1,f3,bc1⟩
 refine ZdW (M 7) ?_ ?_
 ·have go:Psk ((Z8 (ZaA 6 (ZC Zaj (ZE 1) (ZV ZcK (Zl (Zj 0) (Zl (ZC Zaj (Zj 1) (ZE 2)) (Zl (Zj 2) ZG)))))) (Z8 (Zb0 3 [] (ZE 1) Zbm (Zj 5)) (Zb0 3 [] (ZC Zdr (ZC Z5 (Zj 3) (Zj 6)) (ZE 1)) Zbm (Zj 6)))) σ2) (fun t=>∃c,t=ZB n c∧SumB n c 1000000000) (M 7):=by
   obtain⟨k0,k1⟩:=Zb6 ns (kk+2) (show(0:Int)<n by omega)
   walk_at "z"
   refine Zk (ZbH (by omega) (by omega) (by omega)) ?_
   generalize ZaR ns (kk+2) n=to_ at *
   walk_at "z"
   refine ZjR (n:=n) (c:=c1) (K:=6) (K':=6) (by walk_at "r") (by omega) (by omega) bc1 (by decide) (by decide) (by decide) fun c' bc'=>?_
   have hto:=bc'.2 (1+to_).toNat (by omega) (by omega)
   walk_at "z"
   refine ZjR (n:=n) (c:=c') (K:=6) (K':=7) (by walk_at "r") (by omega) (by omega) bc' (by decide) (by omega) (by omega) fun c2 bc2=>?_
   exact⟨by walk_at "r",by walk_at "r",by walk_at "r",by walk_at "r",by walk_at "r",c2,Zb2,bc2⟩
  have no:M 7 σ2:=⟨f0,f1,f2,f4,f5,c1,f3,bc1.mono (by decide)⟩
  by_cases q2:w=2
  ·refine Znf ?_
   refine⟨true,?_,fun _=>go,fun e=>by cases e⟩
   simp[bOr,Zat,ZC,Zj,f4,ZE,qEq,ZjH,Zbt,q2]
  ·by_cases q3:w=3
   ·refine Znf ?_
    refine⟨true,?_,fun _=>go,fun e=>by cases e⟩
    simp[bOr,Zat,ZC,Zj,f4,ZE,qEq,ZjH,Zbt,q3]
   ·walk_at "z"
    exact no
 clear bc1 f3 c1
 clear f0 f1 f2 f4 f5
 rintro σ3 ⟨f0,f1,f2,f4,f5,c1,f3,bc1⟩
 refine ZdW (M 7) ?_ ?_
 ·walk_at "z"
  refine⟨fun q=>?_,fun q=>?_⟩
  ·exact Zp1 hk0 hk9 (m:=7) (lo:=3) (K:=7) (K':=7) (by decide) hn (by decide) (by decide) (by decide) f0 f1 f2 f4 f5 f3 bc1 (fun σ' c' g0 g1 g2 g4 g5 g3 bc'=>⟨g0,g1,g2,g4,g5,c',g3,bc'⟩) _ _ (fun _=>rfl) (fun _=>rfl)
  ·walk_at "z"
   exact⟨f0,f1,f2,f4,f5,c1,f3,bc1⟩
 clear bc1 f3 c1
 clear f0 f1 f2 f4 f5
 rintro σ4 ⟨f0,f1,f2,f4,f5,c1,f3,bc1⟩
 refine ZdW (M 1000000000) ?_ ?_
 ·walk_at "z"
  refine⟨fun q=>?_,fun q=>?_⟩
  ·exact Zp1 hk0 hk9 (m:=2000000001) (lo:=1000000000) (K:=7) (K':=1000000000) (by decide) hn (by decide) (by decide) (by decide) f0 f1 f2 f4 f5 f3 bc1 (fun σ' c' g0 g1 g2 g4 g5 g3 bc'=>⟨g0,g1,g2,g4,g5,c',g3,bc'⟩) _ _ (fun _=>rfl) (fun _=>rfl)
  ·walk_at "z"
   exact⟨f0,f1,f2,f4,f5,c1,f3,bc1.mono (by decide)⟩
 rintro σ5 ⟨g0,g1,g2,g4,g5,c2,g3,bc2⟩
 walk_at "z"
 exact⟨c2,rfl,bc2⟩
theorem Zqy: ∀{n:Nat},(∀i,1≤i→i≤n→¬0<c i)→ZaG c n=[]
 | n,h=>List.eq_nil_iff_forall_not_mem.mpr fun i hi=>h i (ups_mem.mp hi).1 (ups_mem.mp hi).2.1 (ups_mem.mp hi).2.2
theorem Zqz: ∀{n:Nat},(∀i,1≤i→i≤n→¬c i<0)→ZaK c n=[]
 | n,h=>List.eq_nil_iff_forall_not_mem.mpr fun i hi=>h i (dns_mem.mp hi).1 (dns_mem.mp hi).2.1 (dns_mem.mp hi).2.2
theorem Zrl{c:Nat→Int}{a:Nat}: ∀{n:Nat},(∀i,1≤i→i≤n→(0<c i↔i=a))→1≤a→a≤n→ZaG c n=[a]
 | 0,_,h1,h2=>by omega
 | n+1,h,h1,h2=>by
  have hn:=h (n+1) (by omega) (by omega)
  show ZaG c n++(if 0<c (n+1)then [n+1]else [])=[a]
  by_cases q:n+1=a
  ·rw[if_pos (hn.mpr q),Zqy (fun i g1 g2 g=>by have:=(h i g1 (by omega)).mp g;omega),q];rfl
  ·rw[if_neg (fun g=>q (hn.mp g)),Zrl (fun i g1 g2=>h i g1 (by omega)) h1 (by omega)];rfl
theorem Zrm{c:Nat→Int}{a:Nat}: ∀{n:Nat},(∀i,1≤i→i≤n→(c i<0↔i=a))→1≤a→a≤n→ZaK c n=[a]
 | 0,_,h1,h2=>by omega
 | n+1,h,h1,h2=>by
  have hn:=h (n+1) (by omega) (by omega)
  show ZaK c n++(if c (n+1)<0 then [n+1]else [])=[a]
  by_cases q:n+1=a
  ·rw[if_pos (hn.mpr q),Zqz (fun i g1 g2 g=>by have:=(h i g1 (by omega)).mp g;omega),q];rfl
  ·rw[if_neg (fun g=>q (hn.mp g)),Zrm (fun i g1 g2=>h i g1 (by omega)) h1 (by omega)];rfl
theorem Zd4{a:Nat}(h:1≤a): ZP a a=1:=by unfold ZP;rw[if_pos ⟨by omega,rfl⟩]
theorem Zdn{a:Nat}(h:k≠a): ZP a k=0:=by unfold ZP;rw[if_neg (fun q=>h q.2)]
theorem Zzc{a:Nat}(ha:a<n+1)(hb:b<n+1)(hd:∀i,i<n+1→G i i=some 0): grt n G (fun k=>ZP a k-ZP b k)=G a b:=by
 by_cases hab:a=b
 ·subst hab
  rw[Zsi (fun k=>by omega),hd a ha]
 have c0:(fun k=>ZP a k-ZP b k) 0=0:=by
  show ZP a 0-ZP b 0=0
  unfold ZP
  rw[if_neg (by omega),if_neg (by omega)];rfl
 generalize hc:(fun k=>ZP a k-ZP b k)=c at *
 have hk:∀k,c k=ZP a k-ZP b k:=fun k=>by rw[←hc]
 have hu:∀k,(ZP a k=1∧1≤a∧k=a)∨(ZP a k=0∧(a=0∨k≠a)):=fun k=>by
  unfold ZP
  split
  ·rename_i q;exact .inl ⟨rfl,q.1,q.2⟩
  ·rename_i q;exact .inr ⟨rfl,by omega⟩
 have hv:∀k,(ZP b k=1∧1≤b∧k=b)∨(ZP b k=0∧(b=0∨k≠b)):=fun k=>by
  unfold ZP
  split
  ·rename_i q;exact .inl ⟨rfl,q.1,q.2⟩
  ·rename_i q;exact .inr ⟨rfl,by omega⟩
 have up:1≤a→ZaG c n=[a]:=fun h1=>Zrl (fun i g1 g2=>by rw[hk];have:=hu i;have:=hv i;omega) h1 (by omega)
 have up0:a=0→ZaG c n=[]:=fun h1=>Zqy fun i g1 g2=>by rw[hk];have:=hu i;have:=hv i;omega
 have dn:1≤b→ZaK c n=[b]:=fun h1=>Zrm (fun i g1 g2=>by rw[hk];have:=hu i;have:=hv i;omega) h1 (by omega)
 have dn0:b=0→ZaK c n=[]:=fun h1=>Zqz fun i g1 g2=>by rw[hk];have:=hu i;have:=hv i;omega
 unfold grt
 by_cases h:1≤a∧1≤b
 ·have ca:c a=1:=by rw[hk,Zd4 h.1,Zdn (by omega)];rfl
  have cb:c b = -1:=by rw[hk,Zd4 h.2,Zdn (by omega)];rfl
  have hD:Df n c:=df_iff.mpr ⟨by rw[up h.1,List.map_cons,ca];rfl,by rw[dn h.2,List.map_cons,cb];rfl⟩
  rw[ZaE hD]
  obtain⟨u,d,e1,e2,_,_,_,_,_,_,i1,i2,_,_⟩:=Zfk hD
  rw[up h.1]at e1
  rw[dn h.2]at e2
  cases e1;cases e2
  show addO (G (1+(xsI n c).idxOf 1) (1+(xsI n c).idxOf (-1))) (some (c 0))=_
  rw[i1,i2,c0]
  cases G a b with
  | none=>rfl
  | some y=>show some (y+0)=some y;rw[Int.add_zero]
 ·have hD:¬Df n c:=fun q=>by
   obtain⟨h1,h2⟩:=df_iff.mp q
   by_cases g:1≤a
   ·rw[dn0 (by omega)]at h2;cases h2
   ·rw[up0 (by omega)]at h1;cases h1
  rw[Zaz hD]
  show(Zbj c (S40 G) n).2=_
  obtain⟨t1,t2⟩:=tot (G:=G) (c:=c) n
  by_cases g:1≤a
  ·have hb0:b=0:=by omega
   have ca:c a=1:=by rw[hk,Zd4 g,Zdn (by omega)];rfl
   subst hb0
   cases e:G a 0 with
   | none=>exact t1 (.inl ⟨a,by rw[up g];exact Zz9.mpr rfl,e⟩)
   | some y=>
    rw[t2 (fun q=>by
     rcases q with⟨i,hi,q⟩ | ⟨i,hi,q⟩
     ·rw[up g]at hi;rw[List.mem_singleton.mp hi,e]at q;cases q
     ·rw[dn0 rfl]at hi;cases hi),up g,dn0 rfl,c0]
    simp[sU,sD,ca,e]
  ·have ha0:a=0:=by omega
   have hb1:1≤b:=by omega
   have cb:c b = -1:=by rw[hk,Zd4 hb1,Zdn (by omega)];rfl
   subst ha0
   cases e:G 0 b with
   | none=>exact t1 (.inr ⟨b,by rw[dn hb1];exact Zz9.mpr rfl,e⟩)
   | some y=>
    rw[t2 (fun q=>by
     rcases q with⟨i,hi,q⟩ | ⟨i,hi,q⟩
     ·rw[up0 rfl]at hi;cases hi
     ·rw[dn hb1]at hi;rw[List.mem_singleton.mp hi,e]at q;cases q),up0 rfl,dn hb1,c0]
    simp[sU,sD,cb,e]
theorem Znt{a:Nat}{R:Nat→Int×Int}(h1:1≤a)(nn:0≤(R (a-1)).1): ∀j,ZaJ (ZP a) R j=(if a≤j then(R (a-1)).1 else 0)∧Zby (ZP a) R j=if a≤j then(R (a-1)).2 else 0
 | 0=>by
  rw[if_neg (by omega),if_neg (by omega)]
  exact⟨rfl,Zdn (by omega)⟩
 | j+1=>by
  obtain⟨i1,i2⟩:=Znt h1 nn j
  show((Int.gcd (ZaJ (ZP a) R j) (ZP a (j+1)*(R j).1):Nat):Int)=_∧Zby (ZP a) R j+ZP a (j+1)*(R j).2=_
  rw[i1,i2]
  by_cases q:j+1=a
  ·subst q
   rw[Zd4 h1,if_neg (by omega),if_pos (by omega),if_neg (by omega),if_pos (by omega),Nat.add_sub_cancel]
   rw[Nat.add_sub_cancel]at nn
   constructor
   ·rw[Int.one_mul,Int.gcd_zero_left];omega
   ·omega
  ·rw[Zdn q,Int.zero_mul,Int.zero_mul,Int.gcd_zero_right]
   by_cases g:a≤j
   ·rw[if_pos g,if_pos (by omega),if_pos g,if_pos (by omega)]
    exact⟨by omega,by omega⟩
   ·rw[if_neg g,if_neg (by omega),if_neg g,if_neg (by omega)]
    exact⟨rfl,rfl⟩
theorem Zm3{a:Nat}(ok:∀t,t<n→RestOk (R t))(h1:1≤a)(h2:a≤n): Zap (ZP a) R n=R (a-1):=by
 have oa:=ok (a-1) (by omega)
 rw[ZcX ok n (Zz10 n),(Znt h1 oa.nn n).1,(Znt h1 oa.nn n).2,if_pos h2,if_pos h2]
 exact Zlr (ZbO oa.nn _) oa fun x=>by rw[Zcg oa.nn,ZaW oa.nn]
noncomputable def fO(o:Nat→Nat): Nat→Nat
 | 0=>0
 | t+1=>o t
noncomputable def trG(G:Nat→Nat→Option Int)(o:Nat→Nat)(i j:Nat): Option Int:=G (fO o i) (fO o j)
noncomputable def trR(R:Nat→Int×Int)(o:Nat→Nat)(t:Nat): Int×Int:=R (o t-1)
def Ord(n m:Nat)(o:Nat→Nat): Prop:=∀t,t<m→1≤o t∧o t≤n
theorem Ord.lt{o:Nat→Nat}(h:Ord n m o): ∀i,i<m+1→fO o i<n+1
 | 0,_=>by show 0<n+1;omega
 | t+1,ht=>by have:=h t (by omega);show o t<n+1;omega
theorem Zrn{o:Nat→Nat}: ∀i,ZcF (fun t=>ZP (o t)) i=ZP (fO o i)
 | 0=>unC_0.symm
 | t+1=>rfl
theorem ZAg{o:Nat→Nat}(hd:∀i,i<n+1→G i i=some 0)(ho:Ord n m o): ∀i j,i<m+1→j<m+1→rcG n G (fun t=>ZP (o t)) i j=trG G o i j:=fun i j hi hj=>by
 unfold rcG dC trG
 rw[Zrn,Zrn]
 exact Zzc (ho.lt i hi) (ho.lt j hj) hd
theorem Zzd{o:Nat→Nat}(ok:∀t,t<n→RestOk (R t))(ho:Ord n m o): ∀t,t<m→rcR n R (fun t=>ZP (o t)) t=trR R o t:=fun t ht=>Zm3 ok (ho t ht).1 (ho t ht).2
theorem Znu(hp:RestOk p)(hq:RestOk q)(h:∀x,Z6 p x→Z6 q x): RIn p q:=by
 have e:∀x,p.1 ∣ x-p.2→q.1 ∣ x-q.2:=fun x hx=>(ZaW hq.nn x).mp (h x ((ZaW hp.nn x).mpr hx))
 have a1:q.1 ∣ p.2-q.2:=e p.2 (by simp)
 have a2:q.1 ∣ p.2+p.1-q.2:=e (p.2+p.1) (by rw[show p.2+p.1-p.2=p.1 by omega];exact Int.dvd_refl _)
 have c1:q.1 ∣ p.1:=by have:=Int.dvd_sub a2 a1;rwa [show p.2+p.1-q.2-(p.2-q.2)=p.1 by omega]at this
 unfold RIn
 split
 ·rename_i z
  rw[z,Int.zero_dvd]at a1 c1
  exact Prod.ext (by rw[c1,z]) (by omega)
 ·exact⟨Int.emod_eq_zero_of_dvd c1,Int.emod_eq_zero_of_dvd a1⟩
theorem ZoL(hR:∀t,t<n→RestOk (R t))(s:Sharp n G R G2 R2 M k): Inside n G2 R2 G R:=by
 obtain⟨R1,h1,h2,h3,h4,rfl,h6⟩:=s.go
 refine⟨fun i hi j hj=>?_,fun t ht=>?_⟩
 ·refine Zcw (Zkp (n+1) i j) (Zcw (ZxN fun b e q=>h3 ⟨i,j,hi,hj,b,e,q⟩) (Zkp (n+1) i j))
 ·refine Znu (h6 t ht).1.1 (hR t ht) fun x hx=>?_
  have a:=((h6 t ht).2 x).mp hx
  have b:=((h2 t ht).2 x).mp a.1
  exact b.1
theorem Zij{a:Nat}{x:Nat→Int}(h1:1≤a): ∀n,ZK (ZP a) x n=if a≤n then x (a-1)else 0
 | 0=>by rw[if_neg (by omega)];exact Zdn (by omega)
 | n+1=>by
  show ZK (ZP a) x n+ZP a (n+1)*x n=_
  rw[Zij h1 n]
  by_cases q:n+1=a
  ·subst q
   rw[Zd4 h1,if_neg (by omega),if_pos (by omega),Nat.add_sub_cancel];omega
  ·rw[Zdn q,Int.zero_mul]
   by_cases g:a≤n
   ·rw[if_pos g,if_pos (by omega)];omega
   ·rw[if_neg g,if_neg (by omega)];rfl
theorem Zze{x:Nat}{s:Sp}(hd:∀i,i<n+1→G i i=some 0): ∀i,i<n+1→ZdH (Zdm G (x+1)) (x+1) s i i=some 0:=fun i hi=>by
 unfold ZdH
 rw[Zft (by omega),Zft (by omega)]
 unfold Zdm
 by_cases c:i=x+1
 ·rw[if_pos c,if_pos c]
 ·rw[if_neg c,if_neg c,hd i hi]
theorem Zvv{s:Sp}(h:Zaw n G R x)(hs:InS s v)(hq:Z6 q v): Zaw n (ZdH (Zdm G (X+1)) (X+1) s) (ZeT R X q) (fun i=>if i=X then v else x i):=by
 refine⟨fun i j hi hj b e=>?_,fun t ht=>?_⟩
 ·have hv:Zab (fun i=>if i=X then v else x i) (X+1)=v:=by show(if X=X then v else x X)=v;rw[if_pos rfl]
  have ho:∀i,i≠X+1→Zab (fun i=>if i=X then v else x i) i=Zab x i:=fun i hi=>by
   cases i with
   | zero=>rfl
   | succ i=>show(if i=X then v else x i)=x i;rw[if_neg (by omega)]
  have h0:Zab (fun i=>if i=X then v else x i) 0=0:=rfl
  unfold ZdH at e
  by_cases c1:i=0∧j=X+1
  ·obtain⟨rfl,rfl⟩:=c1
   rw[ZjO]at e
   rw[h0,hv]
   cases h1:s.1 with
   | none=>rw[h1]at e;cases e
   | some y=>
    rw[h1]at e
    cases e
    have:=hs.1 y h1
    show 0-v≤y*(-1)
    omega
  ·rw[Zft c1]at e
   by_cases c2:i=X+1∧j=0
   ·obtain⟨rfl,rfl⟩:=c2
    rw[ZjO]at e
    rw[hv,h0]
    have:=hs.2 b e
    omega
   ·rw[Zft c2]at e
    unfold Zdm at e
    split at e
    ·rename_i c3
     split at e
     ·rename_i c4
      cases e
      rw[c3,c4]
      omega
     ·cases e
    ·rename_i c3
     split at e
     ·cases e
     ·rename_i c4
      rw[ho i c3,ho j c4]
      exact h.1 i j hi hj b e
 ·show Z6 (if t=X then q else R t) (if t=X then v else x t)
  by_cases c:t=X
  ·rw[if_pos c,if_pos c];exact hq
  ·rw[if_neg c,if_neg c];exact h.2 t ht
def DueOk(m:Nat)(D:T): Prop:=D=.none∨∃G R,D=Zt m G R∧(∀i,i<m+1→G i i=some 0)∧∀t,t<m→RestOk (R t)
theorem DueOk.sh(h:DueOk m D): D=.none∨∃G R,D=Zt m G R:=by
 rcases h with rfl | ⟨G,R,rfl,_,_⟩
 ·exact .inl rfl
 ·exact .inr ⟨G,R,rfl⟩
theorem ZuJ{K:Nat}(hM:0<M)(bM:Bd K M)(bG:BdG (n+1) k G)(hk:k+n+1≤K)(s:Sharp n G R G2 R2 M K): BdG (n+1) (K+n+2) G2∧∀t,t<n→RBd K (R2 t):=by
 obtain⟨R1,_,h1,_,_,rfl,h2⟩:=s.go
 refine⟨?_,fun t ht=>(h2 t ht).1.bd hM bM⟩
 have b1:BdG (n+1) K (clG G (n+1)):=fun a b c ha hb e=>(Zit bG (n+1) (Zz10 _) a b c ha hb e).mono (by omega)
 have b2:=ZrW hM bM b1 fun t ht=>(h1 t ht).1
 exact fun a b c ha hb e=>(Zit b2 (n+1) (Zz10 _) a b c ha hb e).mono (by omega)
theorem ZpA{y:Nat→Int}(h:Zaw n G R x)(e:∀t,t<n→y t=x t): Zaw n G R y:=by
 have f:∀i,i<n+1→Zab y i=Zab x i:=fun i hi=>by
  cases i with
  | zero=>rfl
  | succ i=>exact e i (by omega)
 exact⟨fun i j hi hj b q=>by rw[f i hi,f j hj];exact h.1 i j hi hj b q,fun t ht=>by rw[e t ht];exact h.2 t ht⟩
def ZiE(N:Nat)(R:Nat→Int×Int)(p:Nat→Nat)(R':Nat→Int×Int)(L:Nat)(ρ:Nat→Option (Int×Int)): Prop:=(∀t,t<N→(∀j,j<L→p j≠t)→ρ t=some (R t))∧∀j,j<L→Met (R (p j)) (R' j) (ρ (p j))
theorem Zvw{L:Nat}{p:Nat→Nat}(hp:∀i,i<L+1→p i<N)(inj:∀i j,i<L+1→j<L+1→p i=p j→i=j)(h:ZiE N R p R' L ρ)(hm:Met (R (p L)) (R' L) o): ZiE N R p R' (L+1) (fun t=>if t=p L then o else ρ t):=by
 refine⟨fun t ht hn=>?_,fun j hj=>?_⟩
 ·have:t≠p L:=fun e=>hn L (by omega) e.symm
  simp only[this,if_false]
  exact h.1 t ht fun j hj=>hn j (by omega)
 ·by_cases c:j=L
  ·subst c
   simp only[if_true]
   exact hm
  ·have:p j≠p L:=fun e=>c (inj j L hj (by omega) e)
   simp only[this,if_false]
   exact h.2 j (by omega)
theorem ZxW: (oR o).flat=true:=by cases o <;> rfl
theorem Zzf: (tab N fun t=>if t=k then oR o else oR (ρ t))=tab N fun t=>oR (if t=k then o else ρ t):=Za0 fun t _=>by
 by_cases c:t=k
 ·rw[if_pos c,if_pos c]
 ·rw[if_neg c,if_neg c]
def ZAh(N:Nat)(G:Nat→Nat→Option Int)(ρ:Nat→Option (Int×Int))(t:T): Prop:=(t=.none∧∃i,i<N∧ρ i=none)∨(t=Zt N G (fun i=>(ρ i).getD (1,0))∧∀i,i<N→ρ i≠none)
noncomputable def qOf(p:Nat→Nat): Nat→Nat
 | 0=>0
 | i+1=>p i+1
theorem ZAI(p:Nat→Nat): cn (T.int 0) (fun i=>T.int ((p i:Int)+1))=fun i=>T.int (qOf p i:Nat):=by
 funext i
 cases i with
 | zero=>rfl
 | succ i=>show T.int ((p i:Int)+1)=T.int ((p i+1:Nat):Int);congr 1
theorem Zwv(h:∀i,i<N→ρ i≠none): T.tup [Z1 (N+1) G,.lst (tab N fun t=>oR (ρ t))]=Zt N G (fun i=>(ρ i).getD (1,0)):=by
 unfold Zt ZaU
 congr 4
 refine Za0 fun i hi=>?_
 show oR (ρ i)=ZL ((ρ i).getD (1,0))
 cases e:ρ i with
 | none=>exact absurd e (h i hi)
 | some q=>rfl
theorem ZuK{L:Nat}{p:Nat→Nat}(hN:N≤90)(hL:L≤90)(hb:b≤8000)(hp:∀i,i<L→p i<N)(inj:∀i j,i<L→j<L→p i=p j→i=j)(ok:∀t,t<N→RestOk (R t))(ok':∀t,t<L→RestOk (R' t))(bR:∀t,t<N→RBd b (R t))(bR':∀t,t<L→RBd b (R' t)): Pk (Zfg [Zt N Γ R,.lst (tab L fun i=>.int ((p i:Int)+1)),Zt L G' R']) fun t=>∃ρ,ZiE N R p R' L ρ∧ZAh N (ZdI (qOf p) G' (L+1) Γ (L+1)) ρ t:=by
 unfold Zfg ZhB
 have ht:∀{n:Nat} {G:Nat→Nat→Option Int} {R:Nat→Int×Int},Zt n G R=.tup [Z1 (n+1) G,.lst (tab n fun i=>ZL (R i))]:=rfl
 rw[ht,ht]
 walk_at "z"
 refine ZeB (n:=L) (a:=fun i=>.int ((p i:Int)+1)) (c:=fun i=>ZL (R' i)) (P:=fun i σ=>∃ρ,σ 0=some (.tup [Z1 (N+1) Γ,.lst (tab N fun i=>ZL (R i))])∧σ 1=some (.lst (tab L fun i=>.int ((p i:Int)+1)))∧σ 2=some (.tup [Z1 (L+1) G',.lst (tab L fun i=>ZL (R' i))])∧σ 3=some (.lst (tab N fun t=>oR (ρ t)))∧ZiE N R p R' i ρ) ?_ ⟨fun t=>some (R t),by walk_at "r",by walk_at "r",by walk_at "r",by walk_at "r",fun t _ _=>rfl,fun j hj=>by omega⟩ ?_ ?_
 ·walk_at "z"
  rfl
 ·rintro i σ hi ⟨ρ,e0,e1,e2,e3,hl⟩
  have hpi:=hp i hi
  have hidx:((p i:Int)+1-1).toNat=p i:=by omega
  have hr:ρ (p i)=some (R (p i)):=hl.1 (p i) hpi fun j hj e=>by have:=inj j i (by omega) hi e;omega
  walk_at "z"
  rw[hidx,hr]
  refine(ZiZ (k:=b) hb (ok _ hpi) (ok' i hi) (bR _ hpi) (bR' i hi)).mono ?_
  rintro _ ⟨o,rfl,hm,_⟩
  refine⟨ZxW,?_⟩
  walk_at "z"
  refine ZlY (n:=N) (f:=fun t=>oR (ρ t)) (by walk_at "r") (by omega) (by omega) ?_
  rw[hidx,Zzf]
  exact⟨_,by walk_at "r",by walk_at "r",by walk_at "r",by walk_at "r",Zvw (fun j hj=>hp j (by omega)) (fun i' j' h1 h2=>inj i' j' (by omega) (by omega)) hl hm⟩
 ·rintro σ ⟨ρ,e0,e1,e2,e3,hl⟩
  have hq:∀i,i<L+1→qOf p i<N+1:=fun i hi=>by
   cases i with
   | zero=>exact Nat.succ_pos N
   | succ i=>show p i+1<N+1;have:=hp i (by omega);omega
  walk_at "z"
  refine Zkn (.none (n:=0)) (ZeJ (n:=1) fun i _=>ZnK) ?_
  by_cases hc:∃i,i<N∧ρ i=none
  ·obtain⟨i,hi,ei⟩:=hc
   rw[ZaE (show T.none∈tab N fun i=>oR (ρ i)from List.mem_of_getElem? (i:=i) (by rw[ZaL hi,ei];rfl))]
   walk_at "z"
   exact⟨ρ,hl,.inl ⟨rfl,i,hi,ei⟩⟩
  ·rw[Zaz (show ¬T.none∈tab N fun i=>oR (ρ i)from fun h=>by
    obtain⟨i,hi,e⟩:=Zcx h
    exact hc ⟨i,hi,oR_none.mp e.symm⟩)]
   have hne:∀i,i<N→ρ i≠none:=fun i hi e=>hc ⟨i,hi,e⟩
   walk_at "z"
   rw[ZAI]
   refine Zk (Zsp (by omega) (by omega) hq) ?_
   walk_at "z"
   exact⟨ρ,hl,.inr ⟨Zwv hne,hne⟩⟩
noncomputable def apC(c:Nat→Int)(i j:Nat): Nat→Int:=fun k=>ZP i k-ZP j k-c k
noncomputable def alC(c:Nat→Int)(i:Nat): Nat→Int:=fun k=>ZP i k*c i-c k
theorem Zd5: ZP i k=0∨ZP i k=1:=by unfold ZP;split;exact .inr rfl;exact .inl rfl
theorem ZAi(hb:1≤b)(bc:∀i,i<n+1→Bd b (c i))(i j:Nat): ∀k,k<n+1→Bd (b+2) (apC c i j k):=fun k hk=>by
 have h:=bc k hk
 have h1:=Zd5 (i:=i) (k:=k)
 have h2:=Zd5 (i:=j) (k:=k)
 have h3:2≤2 ^ b:=by
  have:2 ^ 1≤2 ^ b:=Nat.pow_le_pow_right (by decide) hb
  exact this
 unfold Bd apC at *
 rw[Nat.pow_add]
 omega
theorem ZAj(bc:∀i,i<n+1→Bd b (c i))(i:Nat)(hi:i<n+1): ∀k,k<n+1→Bd (b+2) (alC c i k):=fun k hk=>by
 have h:=bc k hk
 have g:=bc i hi
 unfold alC
 rcases Zd5 (i:=i) (k:=k)with e | e
 ·rw[e,Int.zero_mul];unfold Bd at *;rw[Nat.pow_add];omega
 ·rw[e,Int.one_mul];unfold Bd at *;rw[Nat.pow_add];omega
theorem ZpB(h:∀i j,i<N→j<N→G i j=G' i j): Z1 N G=Z1 N G':=by
 unfold Z1 Zak
 rw[show(tab N fun i=>T.lst (tab N fun j=>oT (G i j)))=tab N fun i=>T.lst (tab N fun j=>oT (G' i j))from Za0 fun i hi=>by rw[Za0 fun j hj=>by rw[h i j hi hj]]]
noncomputable def Wv(w G:Nat→Nat→Option Int)(i j:Nat): Nat→Nat→Option Int:=fun a b=>if a<i∨(a=i∧b<j)then w a b else G a b
theorem Zzg{w:Nat→Nat→Option Int}: Zbi (Wv w G i j) i j (w i j)=Wv w G i (j+1):=by
 funext a b
 unfold Zbi Wv
 by_cases h:a=i∧b=j
 ·rw[if_pos h,if_pos (by omega),h.1,h.2]
 ·rw[if_neg h]
  by_cases q:a<i∨(a=i∧b<j)
  ·rw[if_pos q,if_pos (by omega)]
  ·rw[if_neg q,if_neg (by omega)]
theorem ZAk{w:Nat→Nat→Option Int}: Wv w G i j i j=G i j:=by unfold Wv;rw[if_neg (by omega)]
theorem Zzh{w:Nat→Nat→Option Int}: Z1 N (Wv w G i N)=Z1 N (Wv w G (i+1) 0):=ZpB fun a b ha hb=>by
 unfold Wv
 by_cases q:a<i∨(a=i∧b<N)
 ·rw[if_pos q,if_pos (by omega)]
 ·rw[if_neg q,if_neg (by omega)]
theorem ZAJ{w:Nat→Nat→Option Int}: Wv w G 0 0=G:=by funext a b;unfold Wv;rw[if_neg (by omega)]
theorem Zzi{w:Nat→Nat→Option Int}: Z1 N (Wv w G N 0)=Z1 N w:=ZpB fun a b ha hb=>by unfold Wv;rw[if_pos (.inl ha)]
noncomputable def apW(n:Nat)(G:Nat→Nat→Option Int)(c:Nat→Int)(top:Int)(a b:Nat): Option Int:=if a=b then G a b else ZaM (G a b) (addO (grt n G (apC c a b)) (some top))
theorem ZiM{k:Int}(hi:i≤9000)(hk0:k≠0)(hk:Bd i k): ZgF [oT a,.int k]=some (oT (a.map fun x=>x.fdiv k)):=by
 apply Pk.eq
 unfold ZgF ZgE
 cases a with
 | none=>
  simp only[Zb5]
  walk_at "z"
  rfl
 | some x=>
  rw[Zbe]
  walk_at "z"
  refine Zcn hk0 (Bd.div hk hi) ?_
  rfl
noncomputable def prt(n:Nat)(G:Nat→Nat→Option Int)(c:Nat→Int)(top:Int)(i:Nat): Option Int:=(addO (grt n G (alC c i)) (some top)).map fun y=>y.fdiv (if c i<0 then -(c i)else c i)
noncomputable def alW(n:Nat)(G:Nat→Nat→Option Int)(c:Nat→Int)(top:Int)(Γ:Nat→Nat→Option Int)(m:Nat): Nat→Nat→Option Int:=fun a b=>if b=0∧1≤a∧a≤m∧0<c a then ZaM (Γ a 0) (prt n G c top a)else if a=0∧1≤b∧b≤m∧c b<0 then ZaM (Γ 0 b) (prt n G c top b)else Γ a b
theorem ZAl: alW n G c top Γ 0=Γ:=by
 funext a b
 unfold alW
 rw[if_neg (by omega),if_neg (by omega)]
theorem ZxX(h:0<c (m+1)): Zbi (alW n G c top Γ m) (m+1) 0 (ZaM (alW n G c top Γ m (m+1) 0) (prt n G c top (m+1)))=alW n G c top Γ (m+1):=by
 have e:alW n G c top Γ m (m+1) 0=Γ (m+1) 0:=by unfold alW;rw[if_neg (by omega),if_neg (by omega)]
 rw[e]
 funext a b
 unfold Zbi alW
 by_cases q:a=m+1∧b=0
 ·obtain⟨rfl,rfl⟩:=q
  rw[if_pos ⟨rfl,rfl⟩,if_pos ⟨rfl,by omega,by omega,h⟩]
 ·have i1:(b=0∧1≤a∧a≤m+1∧0<c a)↔(b=0∧1≤a∧a≤m∧0<c a):=by omega
  have i2:(a=0∧1≤b∧b≤m+1∧c b<0)↔(a=0∧1≤b∧b≤m∧c b<0):=by
   by_cases g:b=m+1
   ·subst g;omega
   ·omega
  rw[if_neg q]
  simp only[i1,i2]
theorem ZxY(h:c (m+1)<0): Zbi (alW n G c top Γ m) 0 (m+1) (ZaM (alW n G c top Γ m 0 (m+1)) (prt n G c top (m+1)))=alW n G c top Γ (m+1):=by
 have e:alW n G c top Γ m 0 (m+1)=Γ 0 (m+1):=by unfold alW;rw[if_neg (by omega),if_neg (by omega)]
 rw[e]
 funext a b
 unfold Zbi alW
 by_cases q:a=0∧b=m+1
 ·obtain⟨rfl,rfl⟩:=q
  rw[if_pos ⟨rfl,rfl⟩,if_neg (by omega),if_pos ⟨rfl,by omega,by omega,h⟩]
 ·have i1:(b=0∧1≤a∧a≤m+1∧0<c a)↔(b=0∧1≤a∧a≤m∧0<c a):=by
   by_cases g:a=m+1
   ·subst g;omega
   ·omega
  have i2:(a=0∧1≤b∧b≤m+1∧c b<0)↔(a=0∧1≤b∧b≤m∧c b<0):=by omega
  rw[if_neg q]
  simp only[i1,i2]
theorem Zww(h:c (m+1)=0): alW n G c top Γ m=alW n G c top Γ (m+1):=by
 funext a b
 unfold alW
 have i1:(b=0∧1≤a∧a≤m+1∧0<c a)↔(b=0∧1≤a∧a≤m∧0<c a):=by
  by_cases g:a=m+1
  ·subst g;omega
  ·omega
 have i2:(a=0∧1≤b∧b≤m+1∧c b<0)↔(a=0∧1≤b∧b≤m∧c b<0):=by
  by_cases g:b=m+1
  ·subst g;omega
  ·omega
 simp only[i1,i2]
noncomputable def amG(n:Nat)(G:Nat→Nat→Option Int)(c:Nat→Int)(top:Int): Nat→Nat→Option Int:=alW n G c top (apW n G c top) n
noncomputable def gT(N:Nat)(Γ:Nat→Nat→Option Int): T:=.lst (tab N fun a=>.lst (tab N fun b=>oT (Γ a b)))
theorem ZjT{b:Option Int}(ha:∀y,a=some y→Bd k y)(hb:∀y,b=some y→Bd k y): ∀y,ZaM a b=some y→Bd k y:=fun y e=>by
 rcases ZdZ a b with q | q
 ·exact ha y (q▸e)
 ·exact hb y (q▸e)
theorem Zwx{x k:Int}(hk:0<k): (x.fdiv k).natAbs≤x.natAbs:=by
 rw[Int.fdiv_eq_ediv_of_nonneg x (by omega)]
 have e1:x / k*k≤x:=Int.ediv_mul_le x (by omega)
 have e2:x<(x / k+1)*k:=Int.lt_ediv_add_one_mul_self x hk
 generalize x / k=q at *
 rcases Int.lt_trichotomy q 0 with h | h | h
 ·-- q≤-1,x<(q+1) k≤q+1
  have:(q+1)*k≤q+1:=by
   have:=Int.mul_le_mul_of_nonpos_left (a:=q+1) (b:=k) (c:=1) (by omega) (by omega)
   simpa using this
  omega
 ·omega
 ·have:q*1≤q*k:=Int.mul_le_mul_of_nonneg_left (by omega) (by omega)
  omega
theorem ZxZ{x k:Int}(h:Bd i x)(hk:0<k): Bd i (x.fdiv k):=Nat.lt_of_le_of_lt (Zwx hk) h
theorem ZkD(hd:∀i,i<n+1→G i i=some 0): ∀i,i<n+1→amG n G c top i i=some 0:=fun i hi=>by
 unfold amG alW
 rw[if_neg (by omega),if_neg (by omega)]
 unfold apW
 rw[if_pos rfl,hd i hi]
theorem ZnO(i j:Nat): leO (apW n G c top i j) (G i j):=by
 unfold apW
 split
 ·exact ZbP
 ·exact ZeN
theorem ZAm(i j:Nat): leO (amG n G c top i j) (G i j):=by
 unfold amG alW
 split
 ·rename_i q
  rw[q.1]
  exact Zcw ZeN (ZnO i 0)
 ·split
  ·rename_i q
   rw[q.1]
   exact Zcw ZeN (ZnO 0 j)
  ·exact ZnO i j
theorem ZjU: ∀i,i<n+1→ZK (ZP i) x n=Zab x i
 | 0,_=>by rw[unC_0,ZmB];rfl
 | i+1,hi=>by rw[Zij (by omega),if_pos (by omega)];rfl
theorem Zma{u x:Nat→Int}{k:Int}: ∀n,ZK (fun a=>u a*k) x n=ZK u x n*k
 | 0=>rfl
 | n+1=>by
  show ZK (fun a=>u a*k) x n+u (n+1)*k*x n=(ZK u x n+u (n+1)*x n)*k
  rw[Zma n,Int.add_mul,Int.mul_assoc,Int.mul_comm k,←Int.mul_assoc]
theorem Zmb{b:Option Int}{x:Int}(h:ZaM a b=some y)(ha:∀z,a=some z→x≤z)(hb:∀z,b=some z→x≤z): x≤y:=by
 rcases ZdZ a b with q | q
 ·exact ha y (q▸h)
 ·exact hb y (q▸h)
theorem Zx0(h:Zaw n G R x)(ht:ZK c x n≤top): Zaw n (amG n G c top) R x:=by
 have f1:∀i j,i<n+1→j<n+1→∀y,apW n G c top i j=some y→Zab x i-Zab x j≤y:=fun i j hi hj y e=>by
  unfold apW at e
  split at e
  ·exact h.1 i j hi hj y e
  ·refine Zmb e (h.1 i j hi hj) fun z ez=>?_
   obtain⟨p,q,h1,h2,rfl⟩:=addO_some.mp ez
   cases h2
   have:=ZeO h h1
   rw[show apC c i j=fun k=>(fun a=>ZP i a-ZP j a) k-c k from rfl,Zfv,Zfv,ZjU i hi,ZjU j hj]at this
   omega
 have f2:∀i,i<n+1→∀z,addO (grt n G (alC c i)) (some top)=some z→Zab x i*c i≤z:=fun i hi z ez=>by
  obtain⟨p,q,h1,h2,rfl⟩:=addO_some.mp ez
  cases h2
  have:=ZeO h h1
  rw[show alC c i=fun k=>(fun a=>ZP i a*c i) k-c k from rfl,Zfv,Zma,ZjU i hi]at this
  omega
 refine⟨fun i j hi hj y e=>?_,h.2⟩
 unfold amG alW at e
 split at e
 ·rename_i q
  obtain⟨rfl,q1,q2,q3⟩:=q
  refine Zmb e (f1 i 0 hi hj) fun z ez=>?_
  unfold prt at ez
  obtain⟨p,h1,rfl⟩:=Zz1.mp ez
  have:=f2 i hi p h1
  rw[if_neg (by omega),show Zab x 0=0 from rfl,Int.sub_zero]
  exact by rw[Int.fdiv_eq_ediv_of_nonneg _ (by omega)];exact(Int.le_ediv_iff_mul_le q3).mpr this
 ·split at e
  ·rename_i q
   obtain⟨rfl,q1,q2,q3⟩:=q
   refine Zmb e (f1 0 j hi hj) fun z ez=>?_
   unfold prt at ez
   obtain⟨p,h1,rfl⟩:=Zz1.mp ez
   have:=f2 j hj p h1
   rw[if_pos q3,show Zab x 0=0 from rfl,Int.zero_sub]
   rw[Int.fdiv_eq_ediv_of_nonneg _ (by omega)];refine(Int.le_ediv_iff_mul_le (by omega)).mpr ?_
   rw[Int.neg_mul_neg]
   exact this
  ·exact f1 i j hi hj y e
theorem Zx1(hn:n≤100): Dp 8 (Z1 (n+1) G):=by
 refine .lst (fun t m=>?_) (by rw[Z9];omega)
 obtain⟨i,hi,rfl⟩:=Zcx m
 refine .lst (fun t m=>?_) (by rw[Z9];omega)
 obtain⟨j,hj,rfl⟩:=Zcx m
 exact ZnL
noncomputable def Zc6(c:Nat→Int)(top:Int): Nat→Int:=fun k=>if k=0 then c 0-top else c k
theorem su: PyData.strOk (Str.ofString "under")=true:=by decide +kernel
noncomputable def unT(n:Nat)(c:Nat→Int): T:=.tup [.str (Str.ofString "under"),ZB n c]
theorem Zmc: (fun k=>c k * -1)=fun k=>-(c k):=by funext k;omega
theorem Zs1(h:ZdQ [T0,ZB n c,.int (-1)]=some D): Ze3 [T0,ZB n c,.bool true]=some D:=by
 apply Pk.eq
 unfold Ze3 Ze2
 walk_at "z"
 exact Zk h rfl
theorem Ztm(hn:n≤900)(hb1:1≤b)(hb:b≤1000)(bc:∀i,i<n+1→Bd b (c i))(h:ZdQ [T0,ZB n fun k=>-(c k),.int 0]=some D): Ze3 [T0,ZB n c,.bool false]=some D:=by
 apply Pk.eq
 unfold Ze3 Ze2
 walk_at "z"
 refine Zk (Zef (b:=b) (by omega) (by omega) bc (show Bd b (-1)by unfold Bd;have:=ZbN hb1;unfold Bd at this;simpa using this)) ?_
 rw[Zmc]
 walk_at "z"
 exact Zk h rfl
theorem Zro{b:Bool}(hT:T0=.none∨∃G R,T0=Zt n G R)(h0:T0=.none→D=.none)(h:Ze3 [T0,ZB n c,.bool b]=some D): Zdl [T0,unT n c,.bool b]=some D:=by
 apply Pk.eq
 unfold Zdl ZeM
 rcases hT with rfl | ⟨G,R,rfl⟩
 ·rw[h0 rfl]
  walk_at "z"
  rfl
 ·have ht:Zt n G R=.tup [Z1 (n+1) G,.lst (tab n fun i=>ZL (R i))]:=rfl
  have hne:∀{Q:T→Prop},Q (.bool false)→Pk (qIs (Zt n G R) .none) Q:=fun h=>⟨_,by rw[ht];rfl,h⟩
  unfold unT
  walk_at "z"
  refine hne ?_
  walk_at "z"
  refine ZbS (n:=1) (m:=1) (.str su) (.str su) ?_
  rw[ZaE rfl]
  walk_at "z"
  exact Zk h rfl
def Tm(n K:Nat)(M:Int)(P:(Nat→Int)→Prop)(I:(Nat→Nat→Option Int)→(Nat→Int×Int)→Prop)(D:T): Prop:=(D=.none∧∀x,¬P x)∨∃G R,D=Zt n G R∧(∀i,i<n+1→G i i=some 0)∧(∀t,t<n→RB M K (R t))∧GB K n G∧(∀x,P x→Zaw n G R x)∧I G R
theorem Zle(hn:n≤100)(hi:1≤i)(hi2:i≤9000)(bc:∀j,j<n+1→Bd i (c j))(bR:∀j,j<n→RBd i (R j))(ok:∀j,j<n→RestOk (R j)): Zek [ZB n c,.lst (tab n fun j=>ZL (R j))]=some (ZL (Zap c R n)):=by
 apply Pk.eq
 unfold Zek Zhb ZB
 walk_at "z"
 refine ZeB (n:=n) (a:=fun j=>.int (c (j+1))) (c:=fun j=>ZL (R j)) (P:=fun j σ=>σ 2=some (ZL (Zap c R j))) ?_ rfl ?_ ?_
 ·refine Zng ?_
  refine Zjp ?_
  walk_at "z"
  refine⟨_,rfl,?_⟩
  rw[ZmA]
  walk_at "z"
  rfl
 ·rintro j σ hj e2
  have hr:=(ok j hj).nn
  have bt:Bd (i+i) (Zcc (R j) (c (j+1))).1:=by
   unfold Zcc
   rw[ZcL]
   exact(bR j hj).1.mul (Zq9 (bc (j+1) (by omega)))
  have bv:Bd (i+i) (Zap c R j).1:=by
   rw[ZcX ok j (by omega),ZcL]
   exact Zm0 bc bR j (by omega)
  walk_at "z"
  refine Zk (Zk7 (k:=i) (by omega) hr (bR j hj) (bc (j+1) (by omega))) ?_
  walk_at "z"
  refine Zk (Zld (k:=i+i) (by omega) bv bt) ?_
  walk_at "z"
  exact Zb2
 ·rintro σ e2
  walk_at "z"
  rfl
noncomputable def ZaY(c:Nat→Int)(i:Nat): Nat→Int:=fun k=>c k-ZP i k*c i
noncomputable def Zec(p:Int×Int)(d:Int): Int×Int:=Zan (Int.gcd p.1 d) p.2
theorem Zn6(hk:k≤200000)(hp:Bd k p.1)(hd:Bd k d): ZkN [ZL p,.int d]=some (ZL (Zec p d)):=by
 apply Pk.eq
 unfold ZkN Zf6 ZL Zec
 walk_at "z"
 refine Zk (Zjf (Zdc hp hk) (Zdc hd hk)) ?_
 walk_at "z"
 exact Zk (Ze4 (by omega)) rfl
noncomputable def Zc7(n:Nat)(R:Nat→Int×Int)(c:Nat→Int)(d:Int)(i:Nat): Int×Int:=Zan (Int.gcd (Zap (ZaY c i) R n).1 d) (-(c i)*(Zap (ZaY c i) R n).2)
theorem Zzj(ok:∀t,t<n→RestOk (R t))(h1:c i=1∨c i = -1): Zec (Zcc (Zap (ZaY c i) R n) (-(c i))) d=Zc7 n R c d i:=by
 have hr:RestOk (Zap (ZaY c i) R n):=by rw[ZcX ok n (Zz10 n)];exact ZbO (ZcW _ _ _) _
 generalize hp:Zap (ZaY c i) R n=p at *
 unfold Zec Zc7 Zcc
 rw[hp,ZcL]
 have ha:Zal (-(c i))=1:=by rcases h1 with e | e <;> rw[e] <;> rfl
 rw[ha,Int.mul_one]
 refine ZoK (by omega) ?_
 have h2:((Int.gcd p.1 d:Nat):Int) ∣ p.1:=Int.gcd_dvd_left ..
 have:=Int.dvd_trans h2 (Zjh (m:=p.1) (r:=p.2 * -(c i)) hr.nn)
 rwa [Int.mul_comm (-(c i))]
theorem Zr1: RestOk (Zc7 n R c d i):=ZbO (by omega) _
def BesO(n:Nat)(R:Nat→Int×Int)(c:Nat→Int)(d:Int)(t:Nat)(o:Option (Int×Int)): Prop:=if c (t+1)=1∨c (t+1) = -1 then Met (R t) (Zc7 n R c d (t+1)) o else o=some (R t)
theorem BesO.one{o':Option (Int×Int)}(h:BesO n R c d t o)(h':BesO n R c d t o'): o=o':=by
 unfold BesO at *
 split at h
 ·rename_i q
  rw[if_pos q]at h'
  exact Zpx h h'
 ·rename_i q
  rw[if_neg q]at h'
  rw[h,h']
theorem Zrp(ok:∀t,t<n→RestOk (R t))(bm:∀t,t<n→Bd m (R t).1)(bR:∀t,t<n→RBd k (R t))(bc:∀i,i<n+1→Bd k (c i)): RBd (k+k+n) (Zap c R n):=by
 rw[ZcX ok n (Zz10 n)]
 exact Zep (ZcW _ _ _) ((Zm0 bc bR n (Zz10 n)).mono (by omega)) (Zra bc bR n (Zz10 n))
theorem Zzk(ok:∀t,t<n→RestOk (R t))(bR:∀t,t<n→RBd k (R t))(bc:∀j,j<n+1→Bd k (ZaY c i j))(bd:Bd k d)(h1:c i=1∨c i = -1): RBd (k+k+n) (Zc7 n R c d i):=by
 have h:=Zrp (m:=k) ok (fun t ht=>(bR t ht).1) bR bc
 generalize hp:Zap (ZaY c i) R n=p at *
 unfold Zc7
 rw[hp]
 refine Zep (by omega) (ZrT h.1 (bd.mono (by omega))) ?_
 rcases h1 with e | e <;> rw[e]
 ·have:=h.2;unfold Bd at *;omega
 ·have:=h.2;unfold Bd at *;omega
theorem Zs2(hn:n≤60)(hk1:1≤k)(hk:k+k+n≤8000)(ht:t<n)(ok:∀t,t<n→RestOk (R t))(bR:∀t,t<n→RBd k (R t))(bc:∀j,j<n+1→Bd k (c j))(bo:∀j,j<n+1→Bd k (ZaY c (t+1) j))(bd:Bd k d): Pk (ZiK [.lst (tab n fun j=>ZL (R j)),ZB n c,.int d,.int ((t+1:Nat):Int)]) fun u=>∃o,u=oR o∧BesO n R c d t o:=by
 unfold ZiK Zgq
 have hs:ZB n c=.lst (tab (n+1) fun k=>.int (c k)):=rfl
 have h1:t+1<n+1:=by omega
 have e1:(((t+1:Nat):Int)).toNat=t+1:=by omega
 have e2:(((t+1:Nat):Int)-1).toNat=t:=by omega
 have ab:Zal (c (t+1))=1↔(c (t+1)=1∨c (t+1) = -1):=by unfold Zal;split <;> omega
 have bu:∀j,j<n+1→Bd k (ZP (t+1) j):=fun j _=>by
  rcases Zd5 (i:=t+1) (k:=j)with e | e <;> rw[e]
  ·exact ZaI
  ·exact ZbN hk1
 rw[hs]
 walk_at "z"
 rw[←hs]
 rw[e2]
 by_cases q:c (t+1)=1∨c (t+1) = -1
 ·have qa:=ab.mpr q
  have bp:=Zrp (m:=k) ok (fun t ht=>(bR t ht).1) bR bo
  have op:RestOk (Zap (ZaY c (t+1)) R n):=by rw[ZcX ok n (Zz10 n)];exact ZbO (ZcW _ _ _) _
  have bs:=Zzk ok bR bo bd q
  have bk:=bc (t+1) h1
  have be:=Zzj (d:=d) ok q
  walk_at "z"
  refine Zk (Zem (i:=t+1) (n:=n) (by omega)) ?_
  walk_at "z"
  refine Zk (Zef (b:=k) (by omega) (by omega) bu bk) ?_
  walk_at "z"
  refine Zk (Zi1 (b:=k+k) (by omega) (by omega) (by omega) (fun j hj=>(bu j hj).mul bk)) ?_
  rw[show(fun k=>c k-ZP (t+1) k*c (t+1))=ZaY c (t+1)from rfl]
  walk_at "z"
  refine Zk (Zle (i:=k) (by omega) hk1 (by omega) bo bR ok) ?_
  walk_at "z"
  refine Zk (Zk7 (k:=k+k+n) (by omega) op.nn bp (show Bd (k+k+n) (-(c (t+1)))by have:=bk.mono (show k≤k+k+n by omega);unfold Bd at *;omega)) ?_
  walk_at "z"
  refine Zk (Zn6 (k:=k+k+n+k) (by omega) (by unfold Zcc;rw[ZcL];exact bp.1.mul (Zq9 (show Bd k (-(c (t+1)))by unfold Bd at *;omega))) (bd.mono (by omega))) ?_
  rw[be]
  walk_at "z"
  refine(ZiZ (k:=k+k+n) hk (ok t ht) Zr1 ⟨(bR t ht).1.mono (by omega),(bR t ht).2.mono (by omega)⟩ bs).mono ?_
  rintro _ ⟨o,rfl,hm,_⟩
  exact⟨o,rfl,by unfold BesO;rw[if_pos q];exact hm⟩
 ·have qa:¬Zal (c (t+1))=1:=fun h=>q (ab.mp h)
  walk_at "z"
  exact⟨some (R t),rfl,by unfold BesO;rw[if_neg q]⟩
theorem ZtF(hn:n≤60)(hk1:1≤k)(hk:k+k+n≤8000)(ok:∀t,t<n→RestOk (R t))(bR:∀t,t<n→RBd k (R t))(bc:∀j,j<n+1→Bd k (c j))(bo:∀t,t<n→∀j,j<n+1→Bd k (ZaY c (t+1) j))(bd:Bd k d): ∃o:Nat→Option (Int×Int),(∀t,t<n→BesO n R c d t (o t))∧((∃t,t<n∧o t=none)→Zeh [Zt n G R,ZB n c,.int d]=some .none)∧∀R' D,(∀t,t<n→o t=some (R' t))→Zbf [Zt n G R']=some D→Zeh [Zt n G R,ZB n c,.int d]=some D:=by
 have ex:∀t,∃o,t<n→ZiK [.lst (tab n fun j=>ZL (R j)),ZB n c,.int d,.int ((t+1:Nat):Int)]=some (oR o)∧BesO n R c d t o:=fun t=>by
  by_cases ht:t<n
  ·obtain⟨u,e,o,rfl,h⟩:=Zs2 hn hk1 hk ht ok bR bc (bo t ht) bd
   exact⟨o,fun _=>⟨e,h⟩⟩
  ·exact⟨none,fun h=>absurd h ht⟩
 obtain⟨o,ho⟩:=Classical.axiomOfChoice ex
 refine⟨o,fun t ht=>(ho t ht).2,?_⟩
 have ht:Zt n G R=.tup [Z1 (n+1) G,.lst (tab n fun i=>ZL (R i))]:=rfl
 have hs:ZB n c=.lst (tab (n+1) fun k=>.int (c k)):=rfl
 have key:∀{D:T},((∃t,t<n∧o t=none)∧D=.none∨(¬(∃t,t<n∧o t=none))∧Zbf [.tup [Z1 (n+1) G,.lst (tab n fun t=>oR (o t))]]=some D)→Zeh [Zt n G R,ZB n c,.int d]=some D:=fun {D} hD=>by
  apply Pk.eq
  unfold Zeh ZgT
  rw[ht,hs]
  walk_at "z"
  rw[←hs]
  refine Zbs (n:=n) (a:=fun i=>.int ((1+i:Nat):Int)) (b:=fun t=>oR (o t)) (by omega) ?_ (fun t ht'=>?_) ?_
  ·refine Zjx (a:=1) (m:=n) (by omega) (by omega) ?_ rfl
   simp only[Zl,ZE,ZG,Zj,ZV,hs,Zbc,Z9,Option.bind_some]
   show some [T.int 1,T.int (((tab (n+1) fun k=>T.int (c k)).length:Nat):Int)]=_
   rw[Z9]
   congr 3
   congr 1
   omega
  ·rw[Nat.add_comm 1 t]
   walk_at "z"
   exact Zk (ho t ht').1 rfl
  walk_at "z"
  refine Zkn (.none (n:=0)) (ZeJ (n:=1) fun i _=>ZnK) ?_
  rcases hD with⟨⟨t,h1,h2⟩,rfl⟩ | ⟨hc,hD⟩
  ·rw[ZaE (show T.none∈tab n fun i=>oR (o i)from List.mem_of_getElem? (i:=t) (by rw[ZaL h1,h2];rfl))]
   walk_at "z"
   rfl
  ·rw[Zaz (show ¬T.none∈tab n fun i=>oR (o i)from fun h=>by
    obtain⟨i,hi,e⟩:=Zcx h
    exact hc ⟨i,hi,oR_none.mp e.symm⟩)]
   walk_at "z"
   exact Zk hD rfl
 refine⟨fun h=>key (.inl ⟨h,rfl⟩),fun R' D h hD=>key (.inr ⟨fun⟨t,h1,h2⟩=>(by rw[h t h1]at h2;cases h2),?_⟩)⟩
 have e:T.tup [Z1 (n+1) G,.lst (tab n fun t=>oR (o t))]=Zt n G R':=by
  show T.tup [Z1 (n+1) G,.lst (tab n fun t=>oR (o t))]=.tup [Z1 (n+1) G,.lst (tab n fun i=>ZL (R' i))]
  rw[Za0 fun i hi=>(show oR (o i)=ZL (R' i)by rw[h i hi];rfl)]
 rw[e]
 exact hD
def Tf(n:Nat)(P:(Nat→Int)→Prop)(I:(Nat→Nat→Option Int)→(Nat→Int×Int)→Prop)(D:T): Prop:=(D=.none∧∀x,¬P x)∨∃G R,D=Zt n G R∧(∀i,i<n+1→G i i=some 0)∧(∀t,t<n→RestOk (R t))∧(∀x,P x→Zaw n G R x)∧I G R
theorem Zx2(ht:t<n)(ok:∀t,t<n→RestOk (R t))(hx:∀t,t<n→Z6 (R t) (x t))(hd:d ∣ ZK c x n)(q:c (t+1)=1∨c (t+1) = -1): Z6 (Zc7 n R c d (t+1)) (x t):=by
 unfold Zc7
 refine(Zcg (by omega) _).mpr ?_
 have hv:ZK (ZaY c (t+1)) x n=ZK c x n-x t*c (t+1):=by
  rw[show ZaY c (t+1)=fun k=>c k-(fun a=>ZP (t+1) a*c (t+1)) k from rfl,Zfv,Zma,ZjU (t+1) (by omega)]
  rfl
 have h1:=ZjS (c:=ZaY c (t+1)) ok hx n (Zz10 n)
 rw[ZcX ok n (Zz10 n),ZcL]
 have h2:=Zjh (m:=ZaJ (ZaY c (t+1)) R n) (r:=Zby (ZaY c (t+1)) R n) (ZcW _ _ _)
 have g1:((Int.gcd (ZaJ (ZaY c (t+1)) R n) d:Nat):Int) ∣ ZaJ (ZaY c (t+1)) R n:=Int.gcd_dvd_left ..
 have g2:((Int.gcd (ZaJ (ZaY c (t+1)) R n) d:Nat):Int) ∣ d:=Int.gcd_dvd_right ..
 have h3:=Int.dvd_trans g1 (Int.dvd_sub h1 h2)
 have h4:=Int.dvd_trans g2 hd
 rw[hv]at h3
 generalize ((Int.gcd (ZaJ (ZaY c (t+1)) R n) d:Nat):Int)=g at *
 generalize (Zan (ZaJ (ZaY c (t+1)) R n) (Zby (ZaY c (t+1)) R n)).2=s at *
 generalize Zby (ZaY c (t+1)) R n=r at *
 have h5:=Int.dvd_sub h4 h3
 rcases q with e | e <;> rw[e]at h5 ⊢
 ·rwa [show ZK c x n-(ZK c x n-x t*1-r-(s-r))=x t - -1*s by omega]at h5
 ·have:=(Int.dvd_neg).mpr h5
  rwa [show -(ZK c x n-(ZK c x n-x t * -1-r-(s-r)))=x t - -(-1)*s by omega]at this
theorem Zwy(ht:t<n)(ok:∀t,t<n→RestOk (R t))(hx:∀t,t<n→Z6 (R t) (x t))(hd:d ∣ ZK c x n)(h:BesO n R c d t o): ∃r,o=some r∧Z6 r (x t):=by
 unfold BesO at h
 split at h
 ·rename_i q
  have hb:=Zx2 ht ok hx hd q
  cases o with
  | none=>exact absurd ⟨hx t ht,hb⟩ (h (x t))
  | some r=>exact⟨r,rfl,(h.2 (x t)).mpr ⟨hx t ht,hb⟩⟩
 ·exact⟨R t,h,hx t ht⟩
theorem Zh8{x:Int}(op:RestOk p)(oq:RestOk q)(h:RIn p q)(hx:Z6 p x): Z6 q x:=by
 unfold RIn at h
 split at h
 ·rw[←h];exact hx
 ·refine(ZaW oq.nn x).mpr ?_
  have a:=(ZaW op.nn x).mp hx
  have b:=Int.dvd_trans (Int.dvd_of_emod_eq_zero h.1) a
  have:=Int.dvd_add b (Int.dvd_of_emod_eq_zero h.2)
  rwa [show x-p.2+(p.2-q.2)=x-q.2 by omega]at this
theorem ZtG{G1 G3:Nat→Nat→Option Int}{R1 R3:Nat→Int×Int}(o1:∀t,t<n→RestOk (R1 t))(o2:∀t,t<n→RestOk (R2 t))(o3:∀t,t<n→RestOk (R3 t))(h:Inside n G1 R1 G2 R2)(k:Inside n G2 R2 G3 R3): Inside n G1 R1 G3 R3:=⟨fun i hi j hj=>Zcw (h.1 i hi j hj) (k.1 i hi j hj),fun t ht=>Znu (o1 t ht) (o3 t ht) fun x hx=>Zh8 (o2 t ht) (o3 t ht) (k.2 t ht) (Zh8 (o1 t ht) (o2 t ht) (h.2 t ht) hx)⟩
theorem Zzl(hM:0<M)(bM:Bd m M)(h:RB M k q): Bd m q.1:=by
 rcases h.2.1 with e | e
 ·rw[e];exact ZaI
 ·have:=Nat.le_of_dvd (by omega) (Int.natAbs_dvd_natAbs.mpr e)
  unfold Bd at *
  omega
theorem ZhX(ok:∀t,t<n→RestOk (R t))(h:∀t,t<n→Z6 (R t) (x t)): Z6 (Zap c R n) (ZK c x n):=by
 rw[ZcX ok n (Zz10 n)]
 exact(Zcg (ZcW _ _ _) _).mpr (ZjS ok h n (Zz10 n))
theorem Zm4(ok:∀t,t<n→RestOk (R t)): RestOk (Zap c R n):=by
 rw[ZcX ok n (Zz10 n)]
 exact ZbO (ZcW _ _ _) _
theorem Zzm(h:∀i,i<n+1→G i i=some 0): ∀i,i<n+m+1→Zbx n G i i=some 0:=fun i hi=>by
 unfold Zbx
 by_cases c:i<n+1
 ·rw[if_pos ⟨c,c⟩,h i c]
 ·rw[if_neg (by omega),if_pos rfl]
theorem Zvx{y:Nat→Int}(h:Zaw n G R x)(hy:∀i,i<n→y i=x i): Zaw (n+m) (Zbx n G) (ZbW n R) y:=by
 have hf:∀i,i<n+1→Zab y i=Zab x i:=fun i hi=>by
  cases i with
  | zero=>rfl
  | succ i=>exact hy i (by omega)
 refine⟨fun i j hi hj b e=>?_,fun t ht=>?_⟩
 ·unfold Zbx at e
  split at e
  ·rename_i c
   rw[hf i c.1,hf j c.2]
   exact h.1 i j c.1 c.2 b e
  ·split at e
   ·rename_i c
    cases e
    rw[c]
    omega
   ·cases e
 ·unfold ZbW
  by_cases c:t<n
  ·rw[if_pos c,hy t c];exact h.2 t c
  ·rw[if_neg c]
   exact⟨fun q=>absurd q (by decide),fun _=>Int.emod_one _⟩
theorem ZqA{q:Nat→Nat}{G':Nat→Nat→Option Int}{i k:Nat}(Iv:(Nat→Nat→Option Int)→Prop)(h:∀Δ j,j<k→Iv Δ→Iv (Zbi Δ (q i) (q j) (ZaM (Δ (q i) (q j)) (G' i j)))){Γ:Nat→Nat→Option Int}(h0:Iv Γ): ∀j,j≤k→Iv (ZfN q G' i Γ j)
 | 0,_=>h0
 | j+1,hj=>h _ j (by omega) (ZqA Iv h h0 j (by omega))
theorem Zjz{q:Nat→Nat}{G':Nat→Nat→Option Int}{k:Nat}(Iv:(Nat→Nat→Option Int)→Prop)(h:∀Δ i j,i<k→j<k→Iv Δ→Iv (Zbi Δ (q i) (q j) (ZaM (Δ (q i) (q j)) (G' i j)))){Γ:Nat→Nat→Option Int}(h0:Iv Γ): ∀i,i≤k→Iv (ZdI q G' k Γ i)
 | 0,_=>h0
 | i+1,hi=>ZqA Iv (fun Δ j hj hΔ=>h Δ i j (by omega) hj hΔ) (Zjz Iv h h0 i (by omega)) k (Zz10 k)
theorem Zx3{L:Nat}{p:Nat→Nat}(inj:∀i j,i<L→j<L→p i=p j→i=j): ∀i j,i<L+1→j<L+1→qOf p i=qOf p j→i=j
 | 0,0,_,_,_=>rfl
 | 0,j+1,_,_,h=>by simp only[qOf]at h;omega
 | i+1,0,_,_,h=>by simp only[qOf]at h;omega
 | i+1,j+1,hi,hj,h=>by
  simp only[qOf]at h
  rw[inj i j (by omega) (by omega) (by omega)]
theorem Zx4: ZaM (some 0) (some 0)=some 0:=ZjP ZbP
theorem Zx5{L:Nat}{p:Nat→Nat}(inj:∀i j,i<L→j<L→p i=p j→i=j)(hp:∀i,i<L→p i<N)(h:∀i,i<N+1→Γ i i=some 0)(h':∀i,i<L+1→G' i i=some 0): ∀i,i<N+1→ZdI (qOf p) G' (L+1) Γ (L+1) i i=some 0:=by
 refine Zjz (fun Δ=>∀i,i<N+1→Δ i i=some 0) (fun Δ i j hi hj hΔ a ha=>?_) h (L+1) (Zz10 _)
 by_cases c:a=qOf p i∧a=qOf p j
 ·have hij:=Zx3 inj i j hi hj (c.1.symm.trans c.2)
  subst hij
  obtain⟨rfl,_⟩:=c
  rw[ZjO,hΔ _ ha,h' i hi,Zx4]
 ·rw[Zft c];exact hΔ a ha
theorem ZuL{L:Nat}{p:Nat→Nat}{y z:Nat→Int}(hz:∀i,i<L→z i=y (p i))(h:Zaw N Γ R y)(h':Zaw L G' R' z): ∀i j,i<N+1→j<N+1→∀b,ZdI (qOf p) G' (L+1) Γ (L+1) i j=some b→Zab y i-Zab y j≤b:=by
 have hf:∀i,i<L+1→Zab y (qOf p i)=Zab z i:=fun i hi=>by
  cases i with
  | zero=>rfl
  | succ i=>exact(hz i (by omega)).symm
 refine Zjz (fun Δ=>∀i j,i<N+1→j<N+1→∀b,Δ i j=some b→Zab y i-Zab y j≤b) (fun Δ i j hi hj hΔ a b ha hb c e=>?_) h.1 (L+1) (Zz10 _)
 by_cases d:a=qOf p i∧b=qOf p j
 ·obtain⟨rfl,rfl⟩:=d
  rw[ZjO]at e
  rcases ZdZ (Δ (qOf p i) (qOf p j)) (G' i j)with q | q
  ·rw[q]at e;exact hΔ _ _ ha hb c e
  ·rw[q]at e
   rw[hf i hi,hf j hj]
   exact h'.1 i j hi hj c e
 ·rw[Zft d]at e;exact hΔ a b ha hb c e
theorem Zwz{L:Nat}{p:Nat→Nat}{y z:Nat→Int}(h:ZiE N R p R' L ρ)(hz:∀i,i<L→z i=y (p i))(hp:∀i,i<L→p i<N)(hy:∀t,t<N→Z6 (R t) (y t))(hz':∀t,t<L→Z6 (R' t) (z t)): ∀t,t<N→∃r,ρ t=some r∧Z6 r (y t):=fun t ht=>by
 by_cases c:∃j,j<L∧p j=t
 ·obtain⟨j,hj,rfl⟩:=c
  have hm:=h.2 j hj
  have hb:Z6 (R (p j)) (y (p j))∧Z6 (R' j) (y (p j)):=⟨hy _ ht,hz j hj▸hz' j hj⟩
  cases e:ρ (p j)with
  | none=>rw[e]at hm;exact absurd hb (hm _)
  | some r=>rw[e]at hm;exact⟨r,rfl,(hm.2 _).mpr hb⟩
 ·exact⟨R t,h.1 t ht fun j hj e=>c ⟨j,hj,e⟩,hy t ht⟩
theorem Zs3(hn:n≤60)(hm:m≤60)(hb:b≤9000)(hb1:1≤b)(hG:GB b n G)(hC:CB b n m C)(hi:i<m+1): Zlb [Zt n G R,ZB n (ZcF C i),.lst (tab (m+1) fun j=>ZB n (ZcF C j))]=some (Zak (m+1) fun j=>rcG n G C i j):=by
 apply Pk.eq
 unfold Zlb ZgB Zak
 walk_at "z"
 refine Zbs (n:=m+1) (a:=fun j=>ZB n (ZcF C j)) (b:=fun j=>oT (rcG n G C i j)) (by omega) ?_ (fun j hj=>?_) rfl
 ·walk_at "z"
  rfl
 ·walk_at "z"
  refine Zk (Zi1 (b:=b) (by omega) hb1 (by omega) (hC.full j hj)) ?_
  walk_at "z"
  exact Zk (Ze6 (b:=b+1) (c:=dC C i j) hn (by omega) (by omega) (fun a b ha hb y e=>(hG a b ha hb y e).mono (by omega)) (hC.dif hi hj)) rfl
theorem ZpC(hn:n≤60)(hm:m≤60)(hb:b≤9000)(hb1:1≤b)(hG:GB b n G)(hR:∀t,t<n→RBd b (R t))(ok:∀t,t<n→RestOk (R t))(hC:CB b n m C)(h:Pk (Zbf [Zt m (rcG n G C) (rcR n R C)]) Q): Pk (ZcN [Zt n G R,Za7 n m C]) Q:=by
 obtain⟨t,et,qt⟩:=h
 refine⟨t,?_,qt⟩
 apply Pk.eq
 unfold ZcN ZhR
 have ht:Zt n G R=.tup [.lst (tab (n+1) fun i=>.lst (tab (n+1) fun j=>oT (G i j))),.lst (tab n fun i=>ZL (R i))]:=rfl
 have hc:cn (ZB n (ZP 0)) (fun i=>ZB n (C i))=fun i=>ZB n (ZcF C i):=by
  funext i
  cases i with
  | zero=>rw[unC_0];rfl
  | succ i=>rfl
 have hs:Za7 n m C=.lst (tab m fun i=>ZB n (C i)):=rfl
 rw[ht,hs]
 walk_at "z"
 refine Zk (Zem (i:=0) (n:=n) (by omega)) ?_
 walk_at "z"
 rw[hc]
 refine Zbs (n:=m+1) (a:=fun j=>ZB n (ZcF C j)) (b:=fun i=>Zak (m+1) fun j=>rcG n G C i j) (by omega) ?_ (fun j hj=>?_) ?_
 ·walk_at "z"
  rfl
 ·walk_at "z"
  rw[←ht]
  exact Zk (Zs3 (b:=b) hn hm hb hb1 hG hC hj) rfl
 walk_at "z"
 refine Zbs (n:=m) (a:=fun j=>ZB n (C j)) (b:=fun i=>ZL (rcR n R C i)) (by omega) ?_ (fun j hj=>?_) ?_
 ·walk_at "z"
  rfl
 ·walk_at "z"
  exact Zk (Zle (i:=b) (by omega) hb1 hb (fun k hk=>hC j hj k hk) hR ok) rfl
 walk_at "z"
 exact Zk et rfl
theorem Zvy{g:PEs}{a:Nat}{L:List T→Prop}(h0:0<m)(hm:a+m≤1000)(e:g σ=some [.int a,.int (a+m)])(h:L (tab m fun i=>.int ((a+i:Nat):Int))): Pl (Zbu g σ) L:=by
 refine⟨_,Zh4 e (by have:=ZmP (a:=a) (n:=m) (by omega) (by omega);simpa using this),?_⟩
 rw[show(tab m fun i=>T.int ((a:Int)+i))=tab m fun i=>.int ((a+i:Nat):Int)from Za0 fun i _=>by congr 1]
 exact h
theorem Zt3(hn:n≤20)(hm0:0<m)(hm:m≤100): ZhA [Zt n G R,.int m]=some (Zt (n+m) (Zbx n G) (ZbW n R)):=by
 apply Pk.eq
 unfold ZhA Zhz
 have ht:∀{n:Nat} {G:Nat→Nat→Option Int} {R:Nat→Int×Int},Zt n G R=.tup [.lst (tab (n+1) fun i=>.lst (tab (n+1) fun j=>oT (G i j))),.lst (tab n fun i=>.tup [.int (R i).1,.int (R i).2])]:=rfl
 rw[ht]
 walk_at "z"
 refine Zbs (n:=n+1) (a:=fun i=>.lst (tab (n+1) fun j=>oT (G i j))) (b:=fun i=>.lst (tab (n+m+1) fun j=>oT (Zbx n G i j))) (by omega) ?_ (fun i hi=>?_) ?_
 ·walk_at "z"
  rfl
 ·walk_at "z"
  refine Zm1 (by omega) ?_
  refine Zmk (by omega) ?_
  rw[Zwt hi]
  exact⟨ZuH,rfl⟩
 walk_at "z"
 refine Zbs (n:=m) (a:=fun i=>.int ((n+1+i:Nat):Int)) (b:=fun i=>.lst (tab (n+m+1) fun j=>oT (Zbx n G (n+1+i) j))) (by omega) ?_ (fun i hi=>?_) ?_
 ·refine Zvy (a:=n+1) (m:=m) hm0 (by omega) ?_ rfl
  simp only[Zl,ZC,Zj,ZE,ZG,ZR,Option.bind_some]
  simp[Zaj]
  omega
 ·walk_at "z"
  refine Zk (show Zgp [.int ((n+1+i:Nat):Int),.int ((n:Int)+m)]=some (Zak (n+m+1) fun j=>if j=n+1+i then some 0 else none)from Zoo (by omega)) ?_
  show T.lst _=T.lst _
  congr 1
  refine Za0 fun j hj=>?_
  unfold Zbx
  rw[if_neg (by omega)]
 walk_at "z"
 refine Zmk (by omega) ?_
 walk_at "z"
 refine Zm1 (by omega) ?_
 refine Zmk (by omega) ?_
 rw[ZuI]
 refine⟨Zg1 fun _ _=>Zes,?_⟩
 walk_at "z"
 rw[show(Zt (n+m) (Zbx n G) (ZbW n R))=.tup [.lst (tab (n+m+1) fun i=>.lst (tab (n+m+1) fun j=>oT (Zbx n G i j))),ZaU (n+m) (ZbW n R)]from rfl,show n+1+m=n+m+1 by omega]
 congr 3
 refine Za0 fun i hi=>?_
 by_cases c:i<n+1
 ·rw[if_pos c]
 ·rw[if_neg c,show n+1+(i-(n+1))=i by omega]
theorem Zlt(hm:m≤90)(hn:n≤900): Zel [.int m,.int n]=some (Za7 n m fun t=>ZP (t+1)):=by
 apply Pk.eq
 unfold Zel Zhk
 walk_at "z"
 refine Zbs (n:=m) (a:=fun i=>.int ((1+i:Nat):Int)) (b:=fun t=>ZB n (ZP (t+1))) (by omega) ?_ (fun i hi=>?_) rfl
 ·refine Zjx (a:=1) (m:=m) (by omega) (by omega) ?_ rfl
  show some [T.int 1,T.int ((m:Int)+1)]=_
  rw[show(m:Int)+1=((1:Nat):Int)+m by omega]
  rfl
 ·walk_at "z"
  rw[Nat.add_comm 1 i]
  exact Zk (Zem (i:=i+1) (n:=n) hn) rfl
theorem ZqB{x:Nat}(hx:x<n)(hn:n≤1000): ZdY [.lst (tab n f),.int ((x:Int)+1),w]=some (.lst (tab n fun i=>if i=x then w else f i)):=by
 apply Pk.eq
 unfold ZdY ZmY
 have hlen:(tab n f).length=n:=Z9
 walk_at "z"
 refine Zkq ?_
 walk_at "z"
 refine⟨_,rfl,?_⟩
 walk_at "z"
 refine⟨x,by congr 1;omega,?_⟩
 walk_at "z"
 refine Zdz (by simp[hlen];omega) ?_
 refine ZnM ?_
 walk_at "z"
 refine⟨_,rfl,?_⟩
 walk_at "z"
 refine⟨x+1,rfl,?_⟩
 refine Zdz (by simp[hlen];omega) ?_
 rw[Zm2 (by omega),ZeA]
theorem RB.bd2(hM:0<M)(bM:Bd m M)(hm:m≤k)(h:RB M k q): RBd k q:=⟨(Zzl hM bM h).mono hm,h.2.2⟩
noncomputable def ZbE(n:Nat)(C:Nat→Nat→Int): Nat→Nat→Int:=fun t=>if t<n then ZP (t+1)else C (t-n)
theorem ZAn(ok:∀t,t<n→RestOk (R t))(ht:t<n): rcR n R (ZbE n C) t=R t:=by
 unfold rcR ZbE
 rw[if_pos ht,Zm3 ok (by omega) (by omega),Nat.add_sub_cancel]
theorem Zzn: rcR n R (ZbE n C) (n+t)=rcR n R C t:=by
 unfold rcR ZbE
 rw[if_neg (by omega),Nat.add_sub_cancel_left]
theorem Zx6(ht:t<n): ZK (ZbE n C t) x n=x t:=by
 unfold ZbE
 rw[if_pos ht,Zij (by omega),if_pos (by omega),Nat.add_sub_cancel]
theorem ZwA: ZK (ZbE n C (n+t)) x n=ZK (C t) x n:=by
 unfold ZbE
 rw[if_neg (by omega),Nat.add_sub_cancel_left]
theorem bd_un: Bd 1 (ZP i k):=by
 unfold ZP Bd
 split <;> decide
theorem RB.up{M':Int}{k':Nat}(h:RB M k q)(hd:M ∣ M')(hk:k≤k'): RB M' k' q:=⟨h.1,h.2.1.imp id fun d=>Int.dvd_trans d hd,h.2.2.mono hk⟩
theorem Zx7(hk:1≤k)(h:∀t,t<m→RB M k (R t))(t:Nat): RB M k (ZbW m R t):=by
 unfold ZbW
 split
 ·exact h t (by assumption)
 ·exact⟨.inr ⟨by decide,by decide,by decide⟩,.inr (Int.one_dvd _),ZaI⟩
theorem Zx8(h:GB k m G): GB k N (Zbx m G):=fun i j hi hj y e=>by
 unfold Zbx at e
 split at e
 ·rename_i c;exact h i j c.1 c.2 y e
 ·split at e
  ·cases e;exact ZaI
  ·cases e
noncomputable def Zc8(n m x:Nat): Nat→Nat:=fun t=>if t=x then m+1 else t+1
theorem ZAo{x:Nat}(hn:n≤m): Ord (m+1) n (Zc8 n m x):=fun t ht=>by
 unfold Zc8
 split <;> omega
theorem ZwB{r:Nat}: (tab n fun t=>ZB n (ZP (t+1)))++(tab r fun t=>ZB n (C t))=tab (n+r) fun t=>ZB n (ZbE n C t):=by
 refine List.ext_getElem? fun i=>?_
 rw[List.getElem?_append]
 rw[Z9]
 split
 ·rename_i h
  rw[ZaL h,ZaL (by omega)]
  unfold ZbE
  rw[if_pos h]
 ·rename_i h
  by_cases c:i-n<r
  ·rw[ZaL c,ZaL (by omega)]
   unfold ZbE
   rw[if_neg h]
  ·rw[Znd (by omega),Znd (by omega)]
theorem Zvz{x:Nat}: (T.lst (tab n fun i=>if i=x then ZB (m+1) (ZP (m+1))else ZB (m+1) (ZP (i+1))))=Za7 (m+1) n fun t=>ZP (Zc8 n m x t):=by
 unfold Za7
 congr 1
 refine Za0 fun i _=>?_
 by_cases q:i=x
 ·rw[if_pos q];show _=ZB (m+1) (ZP (if i=x then m+1 else i+1));rw[if_pos q]
 ·rw[if_neg q];show _=ZB (m+1) (ZP (if i=x then m+1 else i+1));rw[if_neg q]
theorem Zt4{r x:Nat}{Gs Gg:Nat→Nat→Option Int}{Rs Rg:Nat→Int×Int}{S0 L0 B0:T}(hm:m=n+r)(hx:x<n)(hn:n≤10)(hr:r≤10)(hS:∃m G R,S0=Zt m G R)(h1:Zbf [T0]=some (Zt n Gs Rs))(h2:ZcN [Zt n Gs Rs,Za7 n (n+r) (ZbE n C)]=some (Zt m Gg Rg))(h3:Zfg [Zt (m+1) (Zbx m Gg) (ZbW m Rg),.lst (tab (r+1) fun i=>.int (((n+i:Nat):Int)+1)),S0]=some L0)(h4:Zbf [L0]=some B0)(h5:ZcN [B0,Za7 (m+1) n fun t=>ZP (Zc8 n m x t)]=some D): Zhm [T0,.int ((x:Int)+1),Za7 n r C,S0]=some D:=by
 have ht:Zt n Gs Rs=.tup [Z1 (n+1) Gs,.lst (tab n fun i=>ZL (Rs i))]:=rfl
 have hne:∀{Q:T→Prop},Q (.bool false)→Pk (qIs (Zt n Gs Rs) .none) Q:=fun h=>⟨_,by rw[ht];rfl,h⟩
 have hne3:∀{Q:T→Prop},Q (.bool false)→Pk (qIs (Zt m Gg Rg) .none) Q:=fun h=>⟨_,rfl,h⟩
 have hg:∀{Q:T→Prop},Q (.lst (tab n fun i=>ZL (Rs i)))→Pk (Z5 (Zt n Gs Rs) (.int 1)) Q:=fun h=>⟨_,by rw[ht];rfl,h⟩
 have hne2:∀{Q:T→Prop},Q (.bool false)→Pk (qIs S0 .none) Q:=fun h=>by obtain⟨m,G,R,rfl⟩:=hS;exact⟨_,rfl,h⟩
 have hs:Za7 n r C=.lst (tab r fun i=>ZB n (C i)):=rfl
 have hw:ZhA [Zt m Gg Rg,.int ((1:Nat):Int)]=some (Zt (m+1) (Zbx m Gg) (ZbW m Rg)):=Zt3 (by omega) (by decide) (by decide)
 have hb1:Zel [.int n,.int (m+1:Nat)]=some (Za7 (m+1) n fun t=>ZP (t+1)):=Zlt (by omega) (by omega)
 have hb2:ZdP [.int (m+1:Nat),.int (m+1:Nat)]=some (ZB (m+1) (ZP (m+1))):=Zem (by omega)
 have hl:ZdY [.lst (tab n fun t=>ZB (m+1) (ZP (t+1))),.int ((x:Int)+1),ZB (m+1) (ZP (m+1))]=some (Za7 (m+1) n fun t=>ZP (Zc8 n m x t)):=by rw[ZqB hx (by omega),Zvz]
 apply Pk.eq
 unfold Zhm ZlR
 rw[hs]
 clear ht
 generalize Zt n Gs Rs=T1 at *
 generalize Zt m Gg Rg=T2 at *
 generalize Zt (m+1) (Zbx m Gg) (ZbW m Rg)=T3 at *
 walk_at "z"
 refine Zk h1 ?_
 walk_at "z"
 refine hne ?_
 walk_at "z"
 refine hne2 ?_
 walk_at "z"
 refine hg ?_
 walk_at "z"
 refine Zk (Zlt (m:=n) (n:=n) (by omega) (by omega)) ?_
 unfold Za7
 walk_at "z"
 refine Zdz (by simp[tab];omega) ?_
 rw[ZwB,show T.lst (tab (n+r) fun t=>ZB n (ZbE n C t))=Za7 n (n+r) (ZbE n C)from rfl]
 walk_at "z"
 refine Zk h2 ?_
 walk_at "z"
 refine hne3 ?_
 walk_at "z"
 refine Zk hw ?_
 walk_at "z"
 rw[show(n:Int)+r+1=((m+1:Nat):Int)by omega]
 refine Zwf (n:=r+1) (by omega) (by omega) ?_
 have et:(tab (r+1) fun i=>T.int ((n:Int)+1+i))=tab (r+1) fun i=>.int (((n+i:Nat):Int)+1):=Za0 fun i _=>congrArg T.int (by omega)
 rw[et]
 walk_at "z"
 refine Zk h3 ?_
 walk_at "z"
 refine Zk h4 ?_
 walk_at "z"
 refine Zk hb1 ?_
 unfold Za7
 walk_at "z"
 refine Zk hb2 ?_
 walk_at "z"
 refine Zk hl ?_
 walk_at "z"
 exact Zk h5 rfl
theorem leO_0: leO a (some 0)↔∃y,a=some y∧y≤0:=⟨fun h=>h 0 rfl,fun h z e=>by cases e;exact h⟩
theorem Zmd(hn:n≤60)(hb:b≤4100)(hb1:1≤b)(hG:GB b n G)(bc:∀i,i<n+1→Bd b (c i))(bg:∀y,grt n G (fun i=>-(c i))=some y→Bd 100000 y): Zfs [Zt n G R,ZB n c]=some (oT ((grt n G fun i=>-(c i)).map fun y=>y * -1)):=by
 apply Pk.eq
 unfold Zfs Zh7
 have b1:Bd b (-1):=by have:=ZbN hb1;unfold Bd at *;simpa using this
 walk_at "z"
 refine Zk (Zef (by omega) (by omega) bc b1) ?_
 rw[ZxR]
 walk_at "z"
 refine Zk (Ze6 hn (by omega) hb1 hG fun i hi=>by have:=bc i hi;show Bd b (-(c i));unfold Bd at *;omega) ?_
 walk_at "z"
 exact Zk (ZgG (i:=100000) (by decide) bg (b1.mono (by omega))) rfl
theorem Zop{d:Nat→Int}(hn:n≤60)(hb:b≤4100)(hb1:1≤b)(hG:GB b n G)(bc:∀i,i<n+1→Bd b (c i))(bd:∀i,i<n+1→Bd b (d i-c i)): ZgD [Zt n G R,ZB n d,ZB n c,.int top]=some (oT (addO (grt n G fun k=>d k-c k) (some top))):=by
 apply Pk.eq
 unfold ZgD ZgC
 walk_at "z"
 refine Zk (Zi1 (by omega) hb1 (by omega) bc) ?_
 walk_at "z"
 refine Zk (Ze6 hn (by omega) hb1 hG bd) ?_
 walk_at "z"
 exact Zk (Ze5 (b:=some top)) rfl
theorem ZsL(hn:n≤60)(hb:b≤4000)(hb1:1≤b)(hG:GB b n G)(bc:∀i,i<n+1→Bd b (c i))(hd:∀i,i<n+1→G i i=some 0)(hc:∀y,grt n G (fun k=>-(c k))=some y→-y≤top): Zk2 [Z1 (n+1) G,Zt n G R,ZB n c,.int top]=some (Z1 (n+1) (apW n G c top)):=by
 apply Pk.eq
 unfold Zk2 Zk1
 refine ZjJ rfl ?_
 have ht:Zt n G R=.tup [Z1 (n+1) G,.lst (tab n fun i=>ZL (R i))]:=rfl
 have bu:∀i k,k<n+1→Bd b (ZP i k):=fun i k _=>by
  rcases Zd5 (i:=i) (k:=k)with e | e <;> rw[e]
  ·exact ZaI
  ·exact ZbN hb1
 have hw:∀i j,i<n+1→ZaM (G i j) (addO (grt n G (apC c i j)) (some top))=apW n G c top i j:=fun i j hi=>by
  unfold apW
  split
  ·rename_i e
   subst e
   rw[hd i hi]
   refine ZjP ?_
   have:apC c i i=fun k=>-(c k):=by funext k;unfold apC;omega
   rw[this]
   cases e:grt n G fun k=>-(c k)with
   | none=>exact Zju
   | some y=>exact leO_some.mpr (by have:=hc y e;omega)
  ·rfl
 rw[ht]
 walk_at "z"
 rw[←ht]
 refine Zco (n:=n+1) (a:=fun i=>.int i) (P:=fun i σ=>σ 0=some (Z1 (n+1) (Wv (apW n G c top) G i 0))∧σ 1=some (Zt n G R)∧σ 2=some (ZB n c)∧σ 3=some (.int top)∧σ 4=some (.int n)) ?_ ⟨by rw[ZAJ];rfl,rfl,rfl,rfl,rfl⟩ ?_ ?_
 ·walk_at "z"
  exact ZfJ (n+1) (by omega) (by omega) rfl
 ·rintro i σ hi ⟨e0,e1,e2,e3,e4⟩
  refine Zco (n:=n+1) (a:=fun j=>.int j) (P:=fun j σ=>σ 0=some (Z1 (n+1) (Wv (apW n G c top) G i j))∧σ 1=some (Zt n G R)∧σ 2=some (ZB n c)∧σ 3=some (.int top)∧σ 4=some (.int n)∧σ 5=some (.int i)) ?_ ⟨by walk_at "r",by walk_at "r",by walk_at "r",by walk_at "r",by walk_at "r",by walk_at "r"⟩ ?_ ?_
  ·walk_at "z"
   exact ZfJ (n+1) (by omega) (by omega) rfl
  ·rintro j σ hj ⟨e0,e1,e2,e3,e4,e5⟩
   walk_at "z"
   refine Zk (Zem (by omega)) ?_
   walk_at "z"
   refine Zk (Zem (by omega)) ?_
   walk_at "z"
   refine Zk (Zi1 (b:=b) (by omega) hb1 (by omega) (bu j)) ?_
   refine ZeL (t:=Z1 (n+1) (Wv (apW n G c top) G i j)) (by walk_at "r") ?_
   walk_at "z"
   refine Zk (Zop (b:=b+2) (d:=fun k=>ZP i k-ZP j k) hn (by omega) (by omega) (fun a b ha hb y e=>(hG a b ha hb y e).mono (by omega)) (fun k hk=>(bc k hk).mono (by omega)) (ZAi hb1 bc i j)) ?_
   walk_at "z"
   refine Zk (Zi0 hi hj) ?_
   rw[ZAk,show(fun k=>ZP i k-ZP j k-c k)=apC c i j from rfl,hw i j hi,Zzg]
   exact⟨Zb2,by walk_at "r",by walk_at "r",by walk_at "r",by walk_at "r",by walk_at "r"⟩
  ·rintro σ ⟨e0,e1,e2,e3,e4,e5⟩
   exact⟨by rw[←Zzh];exact e0,e1,e2,e3,e4⟩
 ·rintro σ ⟨e0,e1,e2,e3,e4⟩
  exact⟨_,e0,Zzi⟩
theorem ZsM(hn:n≤60)(hb:b≤4000)(hb1:1≤b)(hG:GB b n G)(bc:∀i,i<n+1→Bd b (c i)): Zk4 [Z1 (n+1) Γ,Zt n G R,ZB n c,.int top]=some (Z1 (n+1) (alW n G c top Γ n)):=by
 apply Pk.eq
 unfold Zk4 Zk3
 refine ZjJ rfl ?_
 have ht:Zt n G R=.tup [Z1 (n+1) G,.lst (tab n fun i=>ZL (R i))]:=rfl
 have bu:∀i k,k<n+1→Bd b (ZP i k):=fun i k _=>by
  rcases Zd5 (i:=i) (k:=k)with e | e <;> rw[e]
  ·exact ZaI
  ·exact ZbN hb1
 rw[ht]
 walk_at "z"
 rw[←ht]
 refine Zco (n:=n) (a:=fun i=>.int ((1+i:Nat):Int)) (P:=fun i σ=>σ 0=some (Z1 (n+1) (alW n G c top Γ i))∧σ 1=some (Zt n G R)∧σ 2=some (ZB n c)∧σ 3=some (.int top)∧σ 4=some (.int n)) ?_ ⟨by rw[ZAl];rfl,rfl,rfl,rfl,rfl⟩ ?_ ?_
 ·refine Zjx (a:=1) (m:=n) (by omega) (by omega) ?_ rfl
  simp only[Zl,ZE,ZG,ZC,Zj,ZR,Option.bind_some,if_true,Zaj]
  congr 3
  congr 1
  omega
 ·rintro i σ hi ⟨e0,e1,e2,e3,e4⟩
  have h1:1+i<n+1:=by omega
  have hs:ZB n c=.lst (tab (n+1) fun k=>.int (c k)):=rfl
  rw[hs]at e2
  walk_at "z"
  rw[←hs]at e2
  have ci:=bc (1+i) h1
  have hG2:GB (b+2) n G:=fun a b ha hb y e=>(hG a b ha hb y e).mono (by omega)
  have bc2:∀k,k<n+1→Bd (b+2) (c k):=fun k hk=>(bc k hk).mono (by omega)
  refine Zk (Zem (by omega)) ?_
  walk_at "z"
  refine Zk (Zef (b:=b) (by omega) (by omega) (bu (1+i)) ci) ?_
  walk_at "z"
  refine Zk (Zop (b:=b+2) (d:=fun k=>ZP (1+i) k*c (1+i)) hn (by omega) (by omega) hG2 bc2 (ZAj bc (1+i) h1)) ?_
  rw[show(fun k=>ZP (1+i) k*c (1+i)-c k)=alC c (1+i)from rfl]
  have hp:∀k,k=(if c (1+i)<0 then -(c (1+i))else c (1+i))→(addO (grt n G (alC c (1+i))) (some top)).map (fun y=>y.fdiv k)=prt n G c top (1+i):=fun k e=>by unfold prt;rw[e]
  rw[Nat.add_comm 1 i]at *
  rcases Int.lt_trichotomy (c (i+1)) 0 with q | q | q
  ·have q':¬0<c (i+1):=by omega
   walk_at "z"
   refine ZeL (t:=Z1 (n+1) (alW n G c top Γ i)) (by walk_at "r") ?_
   walk_at "z"
   refine Zk (ZiM (i:=b) (by omega) (by omega) (show Bd b (-(c (i+1)))by unfold Bd at *;omega)) ?_
   walk_at "z"
   refine Zk (Zi0 (a:=0) (by omega) h1) ?_
   rw[hp _ (by rw[if_pos q]),ZxY q]
   exact⟨Zb2,by walk_at "r",by walk_at "r",by walk_at "r",by walk_at "r"⟩
  ·have q':¬0<c (i+1):=by omega
   have q'':¬c (i+1)<0:=by omega
   walk_at "z"
   rw[←Zww q]
   exact⟨by walk_at "r",by walk_at "r",by walk_at "r",by walk_at "r",by walk_at "r"⟩
  ·have q':¬c (i+1)<0:=by omega
   walk_at "z"
   refine ZeL (t:=Z1 (n+1) (alW n G c top Γ i)) (by walk_at "r") ?_
   walk_at "z"
   refine Zk (ZiM (i:=b) (by omega) (by omega) ci) ?_
   walk_at "z"
   refine Zk (Zi0 (b:=0) h1 (by omega)) ?_
   rw[hp _ (by rw[if_neg q']),ZxX q]
   walk_at "z"
   exact⟨by walk_at "r",by walk_at "r",by walk_at "r",by walk_at "r",by walk_at "r"⟩
 ·rintro σ ⟨e0,e1,e2,e3,e4⟩
  exact⟨_,e0,rfl⟩
theorem ZvA(hn:n≤60)(hb:b≤4000)(hb1:1≤b)(hG:GB b n G)(bc:∀i,i<n+1→Bd b (c i)): Zfs [Zt n G R,ZB n c]=some (oT ((grt n G fun i=>-(c i)).map fun y=>y * -1)):=Zmd hn (by omega) hb1 hG bc fun y e=>(ZxV hG (ZxU bc) y e).mono (by omega)
theorem Zt5(hn:n≤60)(hb:b≤4000)(hb1:1≤b)(hG:GB b n G)(bc:∀i,i<n+1→Bd b (c i))(hd:∀i,i<n+1→G i i=some 0)(hc:∀y,grt n G (fun k=>-(c k))=some y→-y≤top)(h:Zbf [Zt n (amG n G c top) R]=some D): ZdQ [Zt n G R,ZB n c,.int top]=some D:=by
 apply Pk.eq
 unfold ZdQ ZhD
 have ht:Zt n G R=.tup [Z1 (n+1) G,.lst (tab n fun i=>ZL (R i))]:=rfl
 have hne:∀{Q:T→Prop},Q (.bool false)→Pk (qIs (Zt n G R) .none) Q:=fun h=>⟨_,by rw[ht];rfl,h⟩
 have hx:Zjn [oT ((grt n G fun i=>-(c i)).map fun y=>y * -1),.int top]=some (.bool false):=by
  rw[show T.int top=oT (some top)from rfl,Zuz,Zaz]
  rintro⟨x,y,h1,h2,h3⟩
  cases h2
  obtain⟨z,e1,rfl⟩:=Zz1.mp h1
  have:=hc z e1
  omega
 have hg:∀{Q:T→Prop},Q (Z1 (n+1) G)→Pk (Z5 (Zt n G R) (.int 0)) Q:=fun h=>⟨_,by rw[ht];rfl,h⟩
 walk_at "z"
 refine hne ?_
 walk_at "z"
 refine Zk (ZvA hn hb hb1 hG bc) ?_
 walk_at "z"
 refine Zk hx ?_
 walk_at "z"
 refine hg ?_
 walk_at "z"
 refine Zk (Zjw (Zx1 (by omega))) ?_
 walk_at "z"
 refine ZeL (t:=Z1 (n+1) G) (by walk_at "r") ?_
 walk_at "z"
 refine Zk (ZsL hn hb hb1 hG bc hd hc) ?_
 walk_at "z"
 refine ZeL (t:=Z1 (n+1) (apW n G c top)) (by walk_at "r") ?_
 walk_at "z"
 refine Zk (ZsM hn hb hb1 hG bc) ?_
 rw[ht]
 walk_at "z"
 exact Zk h rfl
theorem Zx9: [T.int (c 0-top)]++(tab (n+1) fun i=>T.int (c i)).drop 1=tab (n+1) fun i=>T.int (Zc6 c top i):=by
 apply List.ext_getElem
 ·simp[tab]
 ·intro i h1 h2
  cases i with
  | zero=>simp[tab,Zc6]
  | succ i=>simp[tab,Zc6]
theorem Zzo: ZP i 0=0:=by unfold ZP;rw[if_neg (by omega)]
theorem ZAp(h:0<d): ((Int.gcd 0 d:Nat):Int)=d:=by
 rw[Int.gcd_zero_left]
 omega
theorem Zya(op:RestOk p)(h:Z6 p v)(hd:d ∣ v): Z6 (Zec p d) 0:=by
 unfold Zec
 refine(Zcg (by omega) _).mpr ?_
 have a:=(ZaW op.nn v).mp h
 have g1:((Int.gcd p.1 d:Nat):Int) ∣ p.1:=Int.gcd_dvd_left ..
 have g2:((Int.gcd p.1 d:Nat):Int) ∣ d:=Int.gcd_dvd_right ..
 have:=Int.dvd_sub (Int.dvd_trans g1 a) (Int.dvd_trans g2 hd)
 rwa [show v-p.2-v=0-p.2 by omega]at this
theorem Zzp: RestOk (Zec p d):=ZbO (by omega) _
theorem ss_: PyData.strOk (Str.ofString "same")=true:=by decide +kernel
theorem Zr2: ¬(T.str (Str.ofString "same")=T.str (Str.ofString "under")):=by
 intro h
 have:=T.str.inj h
 revert this
 decide +kernel
noncomputable def smT(n:Nat)(c:Nat→Int): T:=.tup [.str (Str.ofString "same"),ZB n c]
theorem Zrq{b:Bool}(h:(if b then ZgW [Zt n G R,ZB n c]else ZiH [Zt n G R,ZB n c])=some D): Zdl [Zt n G R,smT n c,.bool b]=some D:=by
 apply Pk.eq
 unfold Zdl ZeM
 have ht:Zt n G R=.tup [Z1 (n+1) G,.lst (tab n fun i=>ZL (R i))]:=rfl
 have hne:∀{Q:T→Prop},Q (.bool false)→Pk (qIs (Zt n G R) .none) Q:=fun h=>⟨_,by rw[ht];rfl,h⟩
 unfold smT
 walk_at "z"
 refine hne ?_
 walk_at "z"
 refine ZbS (n:=1) (m:=1) (.str ss_) (.str su) ?_
 rw[Zaz Zr2]
 walk_at "z"
 refine ZbS (n:=1) (m:=1) (.str ss_) (.str ss_) ?_
 rw[ZaE rfl]
 cases b with
 | true=>
  rw[if_pos rfl]at h
  walk_at "z"
  exact Zk h rfl
 | false=>
  rw[if_neg (by decide)]at h
  walk_at "z"
  exact Zk h rfl
theorem Zrr{c x:Nat→Int}{top:Int}: ∀j,ZK (Zc6 c top) x j=ZK c x j-top
 | 0=>rfl
 | j+1=>by
  show ZK (Zc6 c top) x j+Zc6 c top (j+1)*x j=ZK c x j+c (j+1)*x j-top
  rw[Zrr j,show Zc6 c top (j+1)=c (j+1)from rfl]
  omega
theorem ZAq(hd:0<d): Z6 (d,0) v↔d ∣ v:=by
 rw[ZaW (show(0:Int)≤(d,(0:Int)).1 from by show 0≤d;omega)]
 show d ∣ v-0↔d ∣ v
 rw[Int.sub_zero]
theorem Zso(hd:0<d): RestOk (d,0):=.inr ⟨hd,Int.le_refl 0,hd⟩
theorem Zyb(hn:n≤20)(hk:k+2*n+4≤7000)(hM:0<M)(bM:Bd k M)(hd:∀i,i<n+1→G i i=some 0)(bG:GB k n G)(hR:∀t,t<n→RB M k (R t)): ∃D,Zbf [Zt n G R]=some D∧True∧Tm n (k+3*n+7) M (Zaw n G R) (fun G2 R2=>Inside n G2 R2 G R) D:=by
 have bG2:BdG (n+1) k G:=fun a b c ha hb e=>bG a b ha hb c e
 obtain⟨D,et,hD⟩:=Zwq (k:=k) (by omega) (by omega) hM bM hd bG2 hR
 refine⟨D,et,trivial,?_⟩
 rcases hD with⟨G2,R2,rfl,s⟩ | ⟨rfl,f⟩
 ·obtain⟨z1,z2⟩:=ZuJ hM (bM.mono (by omega)) bG2 (by omega) s
  obtain⟨_,_,_,_,_,_,h6⟩:=s.go
  exact .inr ⟨G2,R2,rfl,(ZuF hd s).1,fun t ht=>(h6 t ht).1.mono (by omega),fun i j hi hj b e=>(z1 i j b hi hj e).mono (by omega),fun x li=>ZuD li s,ZoL (fun t ht=>(hR t ht).1) s⟩
 ·exact .inl ⟨rfl,fun x li=>absurd f (ZtY li)⟩
theorem se_: PyData.strOk (Str.ofString "even")=true:=by decide +kernel
theorem Znv{a b:Str}(h:a≠b): ¬(T.str a=T.str b):=fun q=>h (T.str.inj q)
noncomputable def evT(n:Nat)(c:Nat→Int)(d:Int): T:=.tup [.str (Str.ofString "even"),ZB n c,.int d]
theorem Zr3: ¬(T.str (Str.ofString "even")=T.str (Str.ofString "under")):=Znv (by decide +kernel)
theorem Zr4: ¬(T.str (Str.ofString "even")=T.str (Str.ofString "same")):=Znv (by decide +kernel)
theorem ZwC(h:ZcJ [ZB n c,Zac n x]=some (.int v)): Zc9 [unT n c,Zac n x]=some (.bool (decide (v<0))):=by
 apply Pk.eq
 unfold Zc9 Zei unT
 walk_at "z"
 refine Zk h ?_
 walk_at "z"
 refine ZbS (n:=1) (m:=1) (.str su) (.str su) ?_
 rw[ZaE rfl]
 walk_at "z"
 rfl
theorem ZwD(h:ZcJ [ZB n c,Zac n x]=some (.int v)): Zc9 [smT n c,Zac n x]=some (.bool (decide (v=0))):=by
 apply Pk.eq
 unfold Zc9 Zei smT
 walk_at "z"
 refine Zk h ?_
 walk_at "z"
 refine ZbS (n:=1) (m:=1) (.str ss_) (.str su) ?_
 rw[Zaz Zr2]
 walk_at "z"
 refine ZbS (n:=1) (m:=1) (.str ss_) (.str ss_) ?_
 rw[ZaE rfl]
 walk_at "z"
 rfl
theorem ZwE(hd:0<d)(h:ZcJ [ZB n c,Zac n x]=some (.int v)): Zc9 [evT n c d,Zac n x]=some (.bool (decide (v.fmod d=0))):=by
 apply Pk.eq
 unfold Zc9 Zei evT
 walk_at "z"
 refine Zk h ?_
 walk_at "z"
 refine ZbS (n:=1) (m:=1) (.str se_) (.str su) ?_
 rw[Zaz Zr3]
 walk_at "z"
 refine ZbS (n:=1) (m:=1) (.str se_) (.str ss_) ?_
 rw[Zaz Zr4]
 walk_at "z"
 rfl
theorem Zrs{b:Bool}(h:(if b then ZiY [Zt n G R,ZB n c,.int d]else Zf7 [Zt n G R,ZB n c,.int d])=some D): Zdl [Zt n G R,evT n c d,.bool b]=some D:=by
 apply Pk.eq
 unfold Zdl ZeM
 have ht:Zt n G R=.tup [Z1 (n+1) G,.lst (tab n fun i=>ZL (R i))]:=rfl
 have hne:∀{Q:T→Prop},Q (.bool false)→Pk (qIs (Zt n G R) .none) Q:=fun h=>⟨_,by rw[ht];rfl,h⟩
 unfold evT
 walk_at "z"
 refine hne ?_
 walk_at "z"
 refine ZbS (n:=1) (m:=1) (.str se_) (.str su) ?_
 rw[Zaz Zr3]
 walk_at "z"
 refine ZbS (n:=1) (m:=1) (.str se_) (.str ss_) ?_
 rw[Zaz Zr4]
 cases b with
 | true=>
  rw[if_pos rfl]at h
  walk_at "z"
  exact Zk h rfl
 | false=>
  rw[if_neg (by decide)]at h
  walk_at "z"
  exact Zk h rfl
section
variable {n:Nat} {G:Nat→Nat→Option Int} {R:Nat→Int×Int} {c:Nat→Int} (hn:n≤4) (hd:∀i,i<n+1→G i i=some 0) (ok:∀t,t<n→RestOk (R t)) (sG:SmG 137 n G) (sR:SmR 137 n R) (bc:∀i,i<n+1→Bd 300 (c i))
include hn hd ok sG sR bc
end
section
variable {n:Nat} {G:Nat→Nat→Option Int} {R:Nat→Int×Int} {c:Nat→Int} {M:Int} {Cl:T}
theorem Tf.imp{P P':(Nat→Int)→Prop}{I I':(Nat→Nat→Option Int)→(Nat→Int×Int)→Prop}(h:Tf n P I D)(hP:∀x,P' x→P x)(hI:∀G R,I G R→I' G R): Tf n P' I' D:=by
 rcases h with⟨rfl,no⟩ | ⟨G,R,rfl,h1,h2,h3,h4⟩
 ·exact .inl ⟨rfl,fun x p=>no x (hP x p)⟩
 ·exact .inr ⟨G,R,rfl,h1,h2,fun x p=>h3 x (hP x p),hI G R h4⟩
end
theorem ZuM(hX:X<n)(hn:n≤1000): Zfi [Zac n x,.int ((X:Int)+1),.int v]=some (Zac n fun i=>if i=X then v else x i):=by
 apply Pk.eq
 unfold Zfi ZhF Zac
 have hlen:(tab n fun i=>T.int (x i)).length=n:=Z9
 walk_at "z"
 refine Zkq ?_
 walk_at "z"
 refine⟨_,rfl,?_⟩
 walk_at "z"
 refine⟨X,by congr 1;omega,?_⟩
 walk_at "z"
 refine Zdz (by simp[hlen];omega) ?_
 refine ZnM ?_
 walk_at "z"
 refine⟨_,rfl,?_⟩
 walk_at "z"
 refine⟨X+1,rfl,?_⟩
 refine Zdz (by simp[hlen];omega) ?_
 rw[Zm2 (by omega),ZeA]
 show T.lst _=T.lst _
 congr 1
 refine Za0 fun i _=>?_
 show _=T.int (if i=X then v else x i)
 by_cases q:i=X
 ·rw[if_pos q,if_pos q]
 ·rw[if_neg q,if_neg q]
theorem Zyc(h:Q (f n)): Pk (Z5 (.lst (tab (n+1) f)) (.int (-1))) Q:=⟨f n,by
 simp only[Z5,Z9]
 rw[show seqIndex? (-1) (n+1)=some n by unfold seqIndex?;simp;omega]
 simp only[Option.bind_some]
 exact ZaL (by omega),h⟩
section
variable {Q:T→Prop}
theorem Ziu{a:Str}(ha:PyData.strOk a=true)(h:Q (.bool true)): Pk (qEq (.str a) (.str a)) Q:=ZbS (n:=1) (m:=1) (.str ha) (.str ha) (by rw[ZaE rfl];exact h)
theorem Zcf{a b:Str}(hab:(PyData.strOk a && PyData.strOk b && decide (a≠b))=true)(h:Q (.bool false)): Pk (qEq (.str a) (.str b)) Q:=by
 simp only[Bool.and_eq_true,decide_eq_true_eq]at hab
 exact ZbS (n:=1) (m:=1) (.str hab.1.1) (.str hab.1.2) (by rw[Zaz (Znv hab.2)];exact h)
end
theorem Zn1{s:Sp}{k:Int}(hi:i≤9000)(hk0:k≠0)(hk:Bd i k): ZfY [spT s,.int k]=some (spT (s.1.map fun x=>x.fdiv k,s.2.map fun x=>x.fdiv k)):=by
 apply Pk.eq
 unfold ZfY ZfX spT
 walk_at "z"
 refine Zk (ZiM hi hk0 hk) ?_
 walk_at "z"
 refine Zk (ZiM hi hk0 hk) ?_
 walk_at "z"
 rfl
noncomputable def srI(s:Sp)(k:Int): Sp:=match s.1,s.2 with
 | some a,some b=>if a.fdiv k=b.fdiv k then(some (a.fmod k),some (b.fmod k))else(some 0,some (k-1))
 | _,_=>(some 0,some (k-1))
theorem Zsq{s:Sp}{k:Int}(hi:i≤9000)(hk0:k≠0)(hk:Bd i k): Zf0 [spT s,.int k]=some (spT (srI s k)):=by
 have hp:=Zn1 (s:=s) hi hk0 hk
 apply Pk.eq
 unfold Zf0 ZfZ srI
 obtain⟨a,b⟩:=s
 cases a with
 | none=>
  have e:spT ((none:Option Int).map fun x=>x.fdiv k,b.map fun x=>x.fdiv k)=.tup [.none,oT (b.map fun x=>x.fdiv k)]:=rfl
  rw[e]at hp
  walk_at "z"
  refine Zk hp ?_
  walk_at "z"
  rfl
 | some x=>
  cases b with
  | none=>
   have e:spT ((some x).map fun x=>x.fdiv k,(none:Option Int).map fun x=>x.fdiv k)=.tup [.int (x.fdiv k),.none]:=rfl
   rw[e]at hp
   walk_at "z"
   refine Zk hp ?_
   walk_at "z"
   refine ZbS (n:=1) (m:=1) .int .none ?_
   rw[Zaz (by intro h;cases h)]
   walk_at "z"
   rfl
  | some y=>
   have e:spT ((some x).map fun x=>x.fdiv k,(some y).map fun x=>x.fdiv k)=.tup [.int (x.fdiv k),.int (y.fdiv k)]:=rfl
   have e2:spT (some x,some y)=.tup [.int x,.int y]:=rfl
   rw[e]at hp
   rw[e2]at hp ⊢
   by_cases c:x.fdiv k=y.fdiv k
   ·simp only[c,if_true]
    rw[c]at hp
    walk_at "z"
    refine Zk hp ?_
    walk_at "z"
    rfl
   ·simp only[c,if_false]
    walk_at "z"
    refine Zk hp ?_
    walk_at "z"
    rfl
noncomputable def rpI(q:Int×Int)(k:Int): Int×Int:=if q.1.fmod k=0 then Zan (q.1.fdiv k) (q.2.fdiv k)else(1,0)
theorem Zs4{k:Int}(hi:i≤9000)(hq:0≤q.1)(hk0:0<k)(hk:Bd i k): Zgu [ZL q,.int k]=some (ZL (rpI q k)):=by
 have hz:k≠0:=by omega
 have hd:0≤q.1.fdiv k:=by rw[Int.fdiv_eq_ediv_of_nonneg _ (by omega)];exact Int.ediv_nonneg hq (by omega)
 apply Pk.eq
 unfold Zgu Zgt rpI
 have ep:ZL q=.tup [.int q.1,.int q.2]:=rfl
 rw[ep]
 by_cases c:q.1.fmod k=0
 ·rw[if_pos c]
  walk_at "z"
  refine Zcn hz (Bd.div hk hi) ?_
  walk_at "z"
  refine Zcn hz (Bd.div hk hi) ?_
  walk_at "z"
  exact Zk (Ze4 hd) rfl
 ·rw[if_neg c]
  walk_at "z"
  rfl
noncomputable def rrI(q:Int×Int)(k:Int): Int×Int:=if((Int.gcd q.1 k:Nat):Int)=k then(0,q.2.fmod k)else Zan (Int.gcd q.1 k) q.2
theorem Zs5{k:Int}(hk0:0<k)(hq:Bd 200000 q.1)(hk:Bd 200000 k): Zgs [ZL q,.int k]=some (ZL (rrI q k)):=by
 have hz:k≠0:=by omega
 have hg:=Zjf (a:=q.1) (b:=k) hq hk
 apply Pk.eq
 unfold Zgs Zgr rrI
 have ep:ZL q=.tup [.int q.1,.int q.2]:=rfl
 rw[ep]
 by_cases c:((Int.gcd q.1 k:Nat):Int)=k
 ·rw[if_pos c]
  walk_at "z"
  refine Zk hg ?_
  walk_at "z"
  rfl
 ·rw[if_neg c]
  walk_at "z"
  refine Zk hg ?_
  walk_at "z"
  exact Zk (Ze4 (by omega)) rfl
theorem Zh9{x:Int}(hd:0<d)(h:Bd k x): Bd k (x.fdiv d):=by
 unfold Bd at *
 rw[Int.fdiv_eq_ediv_of_nonneg _ (by omega)]
 exact Nat.lt_of_le_of_lt (Int.natAbs_ediv_le_natAbs x d) h
noncomputable def ZdN(X:Nat)(c:Nat→Int): Nat→Nat→Int:=fun t=>if t=X then c else ZP (t+1)
theorem ZwF: (T.lst (tab n fun i=>if i=X then ZB n c else ZB n (ZP (i+1))))=Za7 n n (ZdN X c):=by
 unfold Za7
 congr 1
 refine Za0 fun i _=>?_
 unfold ZdN
 by_cases q:i=X
 ·rw[if_pos q,if_pos q]
 ·rw[if_neg q,if_neg q]
section
variable {n X:Nat} {G:Nat→Nat→Option Int} {R:Nat→Int×Int} {c:Nat→Int} {M d:Int}
theorem ZAr(hd:0<d)(hq:RestOk q): RestOk (rpI q d):=by
 unfold rpI
 split
 ·exact ZbO (by rw[Int.fdiv_eq_ediv_of_nonneg _ (by omega)];exact Int.ediv_nonneg hq.nn (by omega)) _
 ·exact .inr ⟨by decide,by decide,by decide⟩
theorem ZAs(hi:1≤i)(hd:0<d)(hq:RestOk q)(h1:Bd i q.1)(h2:Bd i q.2): Bd i (rpI q d).1∧Bd i (rpI q d).2:=by
 unfold rpI
 split
 ·exact ZoJ (by rw[Int.fdiv_eq_ediv_of_nonneg _ (by omega)];exact Int.ediv_nonneg hq.nn (by omega)) (Zh9 hd h1) (Zh9 hd h2)
 ·exact⟨ZbN hi,ZaI⟩
theorem ZAt(hd:0<d): RestOk (rrI q d):=by
 unfold rrI
 split
 ·exact .inl rfl
 ·exact ZbO (by omega) _
theorem ZAu(hd:0<d)(bd:Bd 140 d): Bd 140 (rrI q d).1∧Bd 140 (rrI q d).2:=by
 unfold rrI
 have f0:=Int.fmod_nonneg_of_pos q.2 hd
 have f1:=Int.fmod_lt_of_pos q.2 hd
 split
 ·exact⟨ZaI,by show Bd 140 (q.2.fmod d);unfold Bd at *;omega⟩
 ·have g0:0<((Int.gcd q.1 d:Nat):Int):=by
   have:Int.gcd q.1 d≠0:=fun e=>by have:=Int.gcd_eq_zero_iff.mp e;omega
   omega
  have g1:((Int.gcd q.1 d:Nat):Int)≤d:=Int.le_of_dvd hd (Int.gcd_dvd_right ..)
  have m0:=Int.fmod_nonneg_of_pos q.2 g0
  have m1:=Int.fmod_lt_of_pos q.2 g0
  unfold Zan
  rw[if_neg (by omega)]
  exact⟨by show Bd 140 ((Int.gcd q.1 d:Nat):Int);unfold Bd at *;omega,by show Bd 140 (q.2.fmod _);unfold Bd at *;omega⟩
end
section
variable {n X:Nat} {G:Nat→Nat→Option Int} {R:Nat→Int×Int} {c:Nat→Int} {d:Int} {s:Sp} {T1 D:T}
noncomputable def Zdp(n:Nat)(G:Nat→Nat→Option Int)(c:Nat→Int): Sp:=((grt n G fun i=>-(c i)).map fun y=>y * -1,grt n G c)
theorem Zt6(hn:n≤20)(hX:X<n)(h:ZcN [Zt n G R,Za7 n n (ZdN X c)]=some D): Zb3 [Zt n G R,.tup [.str (Str.ofString "set"),.int ((X:Int)+1),ZB n c]]=some D:=by
 have hg:∀{Q:T→Prop},Q (.lst (tab n fun i=>ZL (R i)))→Pk (Z5 (Zt n G R) (.int 1)) Q:=fun h=>⟨_,rfl,h⟩
 have hb:=Zlt (m:=n) (n:=n) (by omega) (by omega)
 have hl:ZdY [Za7 n n fun t=>ZP (t+1),.int ((X:Int)+1),ZB n c]=some (Za7 n n (ZdN X c)):=by
  show ZdY [.lst (tab n fun t=>ZB n (ZP (t+1))),_,_]=_
  rw[ZqB hX (by omega),ZwF]
 generalize Zt n G R=T1 at *
 apply Pk.eq
 unfold Zb3 ZhH
 walk_at "z"
 refine Ziu (by decide +kernel) ?_
 walk_at "z"
 refine hg ?_
 walk_at "z"
 refine Zk hb ?_
 walk_at "z"
 refine Zk hl ?_
 walk_at "z"
 exact Zk h rfl
theorem Zt7(h:ZdA [T1,.int ((X:Int)+1),spT s,ZL (1,0)]=some D): Zb3 [T1,.tup [.str (Str.ofString "any"),.int ((X:Int)+1),oT s.1,oT s.2]]=some D:=by
 have e1:spT s=.tup [oT s.1,oT s.2]:=rfl
 have e2:ZL ((1:Int),(0:Int))=.tup [.int 1,.int 0]:=rfl
 rw[e1,e2]at h
 apply Pk.eq
 unfold Zb3 ZhH
 walk_at "z"
 refine Zcf (by decide +kernel) ?_
 walk_at "z"
 refine Ziu (by decide +kernel) ?_
 walk_at "z"
 exact Zk h rfl
theorem Zo7{w:Str}(hw:w=Str.ofString "part"∨w=Str.ofString "rest")(hl:Zfs [Zt n G R,ZB n c]=some (oT ((grt n G fun i=>-(c i)).map fun y=>y * -1)))(hg:Zhg [Zt n G R,ZB n c]=some (oT (grt n G c)))(hr:Zek [ZB n c,.lst (tab n fun j=>ZL (R j))]=some (ZL (Zap c R n))){s':Sp}{q':Int×Int}(h1:(w=Str.ofString "part"→ZfY [spT (Zdp n G c),.int d]=some (spT s')∧Zgu [ZL (Zap c R n),.int d]=some (ZL q'))∧(w=Str.ofString "rest"→Zf0 [spT (Zdp n G c),.int d]=some (spT s')∧Zgs [ZL (Zap c R n),.int d]=some (ZL q')))(h:ZdA [Zt n G R,.int ((X:Int)+1),spT s',ZL q']=some D): Zb3 [Zt n G R,.tup [.str w,.int ((X:Int)+1),ZB n c,.int d]]=some D:=by
 have hi:∀{Q:T→Prop},Q (.lst (tab n fun i=>ZL (R i)))→Pk (Z5 (Zt n G R) (.int 1)) Q:=fun h=>⟨_,rfl,h⟩
 have es:spT (Zdp n G c)=.tup [oT ((grt n G fun i=>-(c i)).map fun y=>y * -1),oT (grt n G c)]:=rfl
 rw[es]at h1
 generalize Zt n G R=T1 at *
 generalize ZL (Zap c R n)=P0 at *
 apply Pk.eq
 unfold Zb3 ZhH
 rcases hw with rfl | rfl
 ·obtain⟨a,b⟩:=h1.1 rfl
  walk_at "z"
  refine Zcf (by decide +kernel) ?_
  walk_at "z"
  refine Zcf (by decide +kernel) ?_
  walk_at "z"
  refine Zk hl ?_
  walk_at "z"
  refine Zk hg ?_
  walk_at "z"
  refine hi ?_
  walk_at "z"
  refine Zk hr ?_
  walk_at "z"
  refine Ziu (by decide +kernel) ?_
  walk_at "z"
  refine Zk a ?_
  walk_at "z"
  refine Zk b ?_
  walk_at "z"
  exact Zk h rfl
 ·obtain⟨a,b⟩:=h1.2 rfl
  walk_at "z"
  refine Zcf (by decide +kernel) ?_
  walk_at "z"
  refine Zcf (by decide +kernel) ?_
  walk_at "z"
  refine Zk hl ?_
  walk_at "z"
  refine Zk hg ?_
  walk_at "z"
  refine hi ?_
  walk_at "z"
  refine Zk hr ?_
  walk_at "z"
  refine Zcf (by decide +kernel) ?_
  walk_at "z"
  refine Zk a ?_
  walk_at "z"
  refine Zk b ?_
  walk_at "z"
  exact Zk h rfl
end
section
variable {n X:Nat} {G:Nat→Nat→Option Int} {R:Nat→Int×Int} {c:Nat→Int} {d:Int} {D:T}
end
theorem Zyd{a:T}(ha:Pln n a)(hb:Pln m (.tup ts))(hn:n≤8:=by decide)(hm:m≤8:=by decide): Ze0 a (.tup ts)=some (dec (a∈ts)):=by
 have ha:=ha.mono hn
 have hb:=hb.mono hm
 obtain⟨a1,a2,a3⟩:=ha.dat
 obtain⟨b1,b2,b3⟩:=hb.dat
 unfold Ze0 Zbo
 rw[a1,b1]
 simp only[Option.bind_some,dd,inD]
 simp only[dd,PyData.canLay0]at b2
 rw[if_pos ⟨b2,a2,by omega⟩,Zni]
 intro t m
 cases hb with
 | tup hs=>exact(hs t m).eqv ha
section
variable {n X:Nat} {c x:Nat→Int} {d p v:Int} {s:Sp} {A:T}
end
theorem Zd6{a b c:Str}(hok:(PyData.strOk a && PyData.strOk b && PyData.strOk c)=true){r:Bool}(hr:decide (a=b∨a=c)=r)(h:Q (.bool r)): Pk (qIn (.str a) (.tup [.str b,.str c])) Q:=by
 simp only[Bool.and_eq_true]at hok
 obtain⟨⟨ha,hb⟩,hc⟩:=hok
 refine⟨.bool r,?_,h⟩
 have hp:Pln 1 (.tup [.str b,.str c]):=.tup fun t m=>by
  simp at m
  rcases m with rfl | rfl
  ·exact .str hb
  ·exact .str hc
 simp only[qIn,Zyd (.str ha:Pln 1 (.str a)) hp,Option.map_some]
 congr 2
 rw[←hr]
 exact Zj3 (by rw[decide_eq_true_eq];simp)
section
variable {n X:Nat} {G:Nat→Nat→Option Int} {R:Nat→Int×Int} {c:Nat→Int} {d:Int} {s:Sp} {T0 D A S0:T}
theorem ZuN(h:Zbf [T0]=some (Zt n G R)): Zbr [T0,.tup [.str (Str.ofString "go")],S0]=some (Zt n G R):=by
 have hne:∀{Q:T→Prop},Q (.bool false)→Pk (qIs (Zt n G R) .none) Q:=fun h=>⟨_,rfl,h⟩
 generalize Zt n G R=T1 at *
 apply Pk.eq
 unfold Zbr ZcM
 walk_at "z"
 refine Zk h ?_
 walk_at "z"
 refine hne ?_
 walk_at "z"
 refine Zd6 (by decide +kernel) (r:=true) (by decide +kernel) ?_
 walk_at "z"
 rfl
theorem Zt8(h:Zbf [T0]=some (Zt n G R)): Zbr [T0,.tup [.str (Str.ofString "say"),A],S0]=some (Zt n G R):=by
 have hne:∀{Q:T→Prop},Q (.bool false)→Pk (qIs (Zt n G R) .none) Q:=fun h=>⟨_,rfl,h⟩
 generalize Zt n G R=T1 at *
 apply Pk.eq
 unfold Zbr ZcM
 walk_at "z"
 refine Zk h ?_
 walk_at "z"
 refine hne ?_
 walk_at "z"
 refine Zd6 (by decide +kernel) (r:=true) (by decide +kernel) ?_
 walk_at "z"
 rfl
theorem Zt9(h:Zbf [T0]=some (Zt n G R))(hl:Zb3 [Zt n G R,.tup [.str (Str.ofString "set"),.int ((X:Int)+1),ZB n c]]=some D): Zbr [T0,.tup [.str (Str.ofString "set"),.int ((X:Int)+1),ZB n c],S0]=some D:=by
 have hne:∀{Q:T→Prop},Q (.bool false)→Pk (qIs (Zt n G R) .none) Q:=fun h=>⟨_,rfl,h⟩
 generalize Zt n G R=T1 at *
 apply Pk.eq
 unfold Zbr ZcM
 walk_at "z"
 refine Zk h ?_
 walk_at "z"
 refine hne ?_
 walk_at "z"
 refine Zd6 (by decide +kernel) (r:=false) (by decide +kernel) ?_
 walk_at "z"
 refine Zcf (by decide +kernel) ?_
 walk_at "z"
 refine Zcf (by decide +kernel) ?_
 walk_at "z"
 exact Zk hl rfl
theorem Zua(h:Zbf [T0]=some (Zt n G R))(hl:Zb3 [Zt n G R,.tup [.str (Str.ofString "any"),.int ((X:Int)+1),oT s.1,oT s.2]]=some D): Zbr [T0,.tup [.str (Str.ofString "any"),.int ((X:Int)+1),oT s.1,oT s.2],S0]=some D:=by
 have hne:∀{Q:T→Prop},Q (.bool false)→Pk (qIs (Zt n G R) .none) Q:=fun h=>⟨_,rfl,h⟩
 generalize Zt n G R=T1 at *
 apply Pk.eq
 unfold Zbr ZcM
 walk_at "z"
 refine Zk h ?_
 walk_at "z"
 refine hne ?_
 walk_at "z"
 refine Zd6 (by decide +kernel) (r:=false) (by decide +kernel) ?_
 walk_at "z"
 refine Zcf (by decide +kernel) ?_
 walk_at "z"
 refine Zcf (by decide +kernel) ?_
 walk_at "z"
 exact Zk hl rfl
theorem ZtH(h:Zbf [T0]=some (Zt n G R))(hl:Zb3 [Zt n G R,.tup [.str (Str.ofString "part"),.int ((X:Int)+1),ZB n c,.int d]]=some D): Zbr [T0,.tup [.str (Str.ofString "part"),.int ((X:Int)+1),ZB n c,.int d],S0]=some D:=by
 have hne:∀{Q:T→Prop},Q (.bool false)→Pk (qIs (Zt n G R) .none) Q:=fun h=>⟨_,rfl,h⟩
 generalize Zt n G R=T1 at *
 apply Pk.eq
 unfold Zbr ZcM
 walk_at "z"
 refine Zk h ?_
 walk_at "z"
 refine hne ?_
 walk_at "z"
 refine Zd6 (by decide +kernel) (r:=false) (by decide +kernel) ?_
 walk_at "z"
 refine Zcf (by decide +kernel) ?_
 walk_at "z"
 refine Zcf (by decide +kernel) ?_
 walk_at "z"
 exact Zk hl rfl
theorem ZtI(h:Zbf [T0]=some (Zt n G R))(hl:Zb3 [Zt n G R,.tup [.str (Str.ofString "rest"),.int ((X:Int)+1),ZB n c,.int d]]=some D): Zbr [T0,.tup [.str (Str.ofString "rest"),.int ((X:Int)+1),ZB n c,.int d],S0]=some D:=by
 have hne:∀{Q:T→Prop},Q (.bool false)→Pk (qIs (Zt n G R) .none) Q:=fun h=>⟨_,rfl,h⟩
 generalize Zt n G R=T1 at *
 apply Pk.eq
 unfold Zbr ZcM
 walk_at "z"
 refine Zk h ?_
 walk_at "z"
 refine hne ?_
 walk_at "z"
 refine Zd6 (by decide +kernel) (r:=false) (by decide +kernel) ?_
 walk_at "z"
 refine Zcf (by decide +kernel) ?_
 walk_at "z"
 refine Zcf (by decide +kernel) ?_
 walk_at "z"
 exact Zk hl rfl
end
theorem ZuO{r:Nat}{f:Nat→Int}{a:Int}: (tab r fun i=>T.int (f i))++[T.int a]=tab (r+1) fun i=>T.int (if i<r then f i else a):=by
 rw[←ZdT (n:=r) (f:=fun i=>T.int (if i<r then f i else a))]
 congr 1
 ·exact Za0 fun i hi=>by rw[if_pos hi]
 ·rw[if_neg (by omega)]
end L
open PySem PySem.W PyProof.Rows PM TM My
namespace L
open PySem PySem.W PyProof.Rows PM TM My
variable {k k' n:Nat} {R R':Nat→Int×Int} {C C' G G':Nat→Nat→Option Int} {M M':Int}
theorem Zrt{p q:Int×Int}(h:RIn p q): q.1 ∣ p.1∧q.1 ∣ p.2-q.2:=by
 unfold RIn at h
 split at h
 ·rename_i z
  rw[h,z];exact⟨Int.dvd_refl _,by rw[Int.sub_self];exact Int.dvd_refl _⟩
 ·exact⟨Int.dvd_of_emod_eq_zero h.1,Int.dvd_of_emod_eq_zero h.2⟩
theorem ZjA(h:∀t,t<n→RIn (R t) (R' t)): ∀i,i<n+1→RIn (Z2 R i) (Z2 R' i)
 | 0,_=>Zwn
 | i+1,hi=>h i (by omega)
theorem Zdi(h:∀t,t<n→RestOk (R t)): ∀i,i<n+1→RestOk (Z2 R i)
 | 0,_=>.inl rfl
 | i+1,hi=>h i (by omega)
def LeG(N:Nat)(G G':Nat→Nat→Option Int): Prop:=∀i j,i<N→j<N→leO (G i j) (G' i j)
theorem ZjB{a b a' b':Option Int}(h:leO a a')(k:leO b b'): leO (ZaM a b) (ZaM a' b'):=ZxJ (Zcw ZeN h) (Zcw Znq k)
theorem Zfw{N:Nat}{G G':Nat→Nat→Option Int}(h:LeG N G G'): ∀m,m≤N→LeG N (clG G m) (clG G' m)
 | 0,_=>h
 | m+1,hm=>fun i j hi hj=>by
  have ih:=Zfw h m (by omega)
  exact ZjB (ih i j hi hj) (Zdv (ih i m hi (by omega)) (ih m j (by omega) hj))
theorem Zp2{N:Nat}(h:LeG N G G')(r:Zb1 N G'): Zb1 N G:=by
 obtain⟨m,hm,i,hi,b,e,hb⟩:=r
 obtain⟨x,ex,hx⟩:=Zfw h (m+1) (by omega) i i hi hi b e
 exact⟨m,hm,i,hi,x,ex,by omega⟩
def ZkE(N:Nat)(C:Nat→Nat→Option Int): Prop:=∀i j,i<N→j<N→∀a b,C i j=some a→C j i=some b→0≤a+b
theorem ZjV{N:Nat}(hd:∀i,i<N→G i i=some 0)(hr:¬Zb1 N G): ZkE N (clG G N):=fun i j hi hj a b h1 h2=>by
 have hn:∀k,k<N→¬Neg N (clG G (k+1)):=fun k hk q=>hr ⟨k,hk,q⟩
 have z:=ZeF hd (m:=N) hn i hi
 have t:=Znr hd N (Zz10 _) hn j hj i i hi hi
 rw[z,h1,h2]at t
 obtain⟨x,ex,hx⟩:=t (a+b) rfl
 cases ex;exact hx
theorem Zp3(hC:LeG (n+1) C C')(nn:ZkE (n+1) C)(ok:∀t,t<n→RestOk (R t))(ok':∀t,t<n→RestOk (R' t))(hR:∀t,t<n→RIn (R t) (R' t)){i:Nat}(hi:i<n+1){x:Int}(h:Zdh n C R i (n+1) x): Zdh n C' R' i (n+1) x:=by
 refine⟨Zh8 (Zdi ok i hi) (Zdi ok' i hi) (ZjA hR i hi) h.1,fun j hj a' b' h1 h2 e=>?_⟩
 obtain⟨a,ea,la⟩:=hC i j hi hj a' h1
 obtain⟨b,eb,lb⟩:=hC j i hj hi b' h2
 have:=nn i j hi hj a b ea eb
 have e1:a=a':=by omega
 have e2:b=b':=by omega
 subst e1 e2
 exact Zh8 (Zdi ok j hj) (Zdi ok' j hj) (ZjA hR j hj) (h.2 j hj a b ea eb e)
theorem Zme{R1 R1':Nat→Int×Int}(hC:LeG (n+1) C C')(nn:ZkE (n+1) C)(ok:∀t,t<n→RestOk (R t))(ok':∀t,t<n→RestOk (R' t))(hR:∀t,t<n→RIn (R t) (R' t))(h:Hand n C R R1 M k)(h':Hand n C' R' R1' M' k'): ∀t,t<n→RIn (R1 t) (R1' t):=fun t ht=>
 Znu (h t ht).1.1 (h' t ht).1.1 fun x hx=>((h' t ht).2 x).mpr (Zp3 hC nn ok ok' hR (by omega) (((h t ht).2 x).mp hx))
theorem ZoB(hC:LeG (n+1) C C')(nn:ZkE (n+1) C)(ok:∀t,t<n→RestOk (R t))(ok':∀t,t<n→RestOk (R' t))(hR:∀t,t<n→RIn (R t) (R' t))(h:Zfo n C' R'): Zfo n C R:=by
 obtain⟨i,hi,q⟩:=h
 exact⟨i,hi,fun x hx=>q x (Zp3 hC nn ok ok' hR (by omega) hx)⟩
theorem ZqC(ok:∀t,t<n→RestOk (R t))(ok':∀t,t<n→RestOk (R' t))(hR:∀t,t<n→RIn (R t) (R' t)){i j:Nat}(hi:i<n+1)(hj:j<n+1){x:Int}(h:Z6 (Zam R i j) x): Z6 (Zam R' i j) x:=by
 rw[Zfn (Zdi ok i hi) (Zdi ok j hj)]at h
 rw[Zfn (Zdi ok' i hi) (Zdi ok' j hj)]
 obtain⟨a1,a2⟩:=Zrt (ZjA hR i hi)
 obtain⟨b1,b2⟩:=Zrt (ZjA hR j hj)
 generalize Z2 R i=p at *
 generalize Z2 R j=q at *
 generalize Z2 R' i=p' at *
 generalize Z2 R' j=q' at *
 have g1:((Int.gcd p'.1 q'.1:Nat):Int) ∣ p'.1:=Int.gcd_dvd_left ..
 have g2:((Int.gcd p'.1 q'.1:Nat):Int) ∣ q'.1:=Int.gcd_dvd_right ..
 have g3:((Int.gcd p'.1 q'.1:Nat):Int) ∣ ((Int.gcd p.1 q.1:Nat):Int):=Int.dvd_coe_gcd (Int.dvd_trans g1 a1) (Int.dvd_trans g2 b1)
 have h1:=Int.dvd_trans g3 h
 have h2:=Int.dvd_trans g1 a2
 have h3:=Int.dvd_trans g2 b2
 have:=Int.dvd_sub (Int.dvd_add h1 h2) h3
 rwa [show x-(p.2-q.2)+(p.2-p'.2)-(q.2-q'.2)=x-(p'.2-q'.2)by omega]at this
theorem ZmC(hC:LeG (n+1) C C')(ok:∀t,t<n→RestOk (R t))(ok':∀t,t<n→RestOk (R' t))(hR:∀t,t<n→RIn (R t) (R' t))(nf:¬Zdy n C R): LeG (n+1) (ZaS C R) (ZaS C' R'):=fun i j hi hj y hy=>by
 have q0:=ZcO R i j
 have q0':=ZcO R' i j
 have hm:∀x,Z6 (Zam R i j) x→Z6 (Zam R' i j) x:=fun x h=>ZqC ok ok' hR hi hj h
 have key:∀b,C i j=some b→∃c,ZaS C R i j=some c∧c≤b∧Z6 (Zam R i j) c:=fun b e=>by
  cases q:ZaS C R i j with
  | none=>exact absurd ⟨i,j,hi,hj,b,e,q⟩ nf
  | some c=>
   have q1:Za8 (C i j) (Zam R i j)=some c:=q
   rw[e]at q1
   obtain⟨h1,h2,_⟩:=ZhI q0 (show ZcP (Zam R i j) b=some c from q1)
   exact⟨c,rfl,h1,h2⟩
 have hy':Za8 (C' i j) (Zam R' i j)=some y:=hy
 cases e':C' i j with
 | some b'=>
  rw[e']at hy'
  obtain⟨b,e,lb⟩:=hC i j hi hj b' e'
  obtain⟨c,e1,h1,h2⟩:=key b e
  obtain⟨c',e2,h3⟩:=Zhp q0' (hm c h2) (show c≤b' by omega)
  have:ZcP (Zam R' i j) b'=some y:=hy'
  rw[e2]at this
  cases this
  exact⟨c,e1,h3⟩
 | none=>
  rw[e']at hy'
  have hz:(Zam R' i j).1=0∧y=(Zam R' i j).2:=by
   simp only[Za8]at hy'
   split at hy'
   ·rename_i z;cases hy';exact⟨z,rfl⟩
   ·cases hy'
  have one:∀x,Z6 (Zam R i j) x→x=y:=fun x h=>by rw[hz.2];exact(hm x h).1 hz.1
  cases e:C i j with
  | some b=>
   obtain⟨c,e1,_,h2⟩:=key b e
   exact⟨c,e1,by rw[one c h2];exact Int.le_refl _⟩
  | none=>
   have s1:=one _ q0.self
   have s2:=one ((Zam R i j).2+(Zam R i j).1) ((ZaW q0.nn _).mpr (by rw[show(Zam R i j).2+(Zam R i j).1-(Zam R i j).2=(Zam R i j).1 by omega];exact Int.dvd_refl _))
   refine⟨y,?_,Int.le_refl _⟩
   show Za8 (C i j) (Zam R i j)=some y
   rw[e]
   simp only[Za8]
   rw[if_pos (by omega),s1]
theorem ZtJ(hC:LeG (n+1) C C')(ok:∀t,t<n→RestOk (R t))(ok':∀t,t<n→RestOk (R' t))(hR:∀t,t<n→RIn (R t) (R' t))(h:Zdy n C' R'): Zdy n C R:=by
 obtain⟨i,j,hi,hj,b',e',q'⟩:=h
 obtain⟨b,e,lb⟩:=hC i j hi hj b' e'
 refine⟨i,j,hi,hj,b,e,?_⟩
 cases q:ZaS C R i j with
 | none=>rfl
 | some c=>
  have q1:Za8 (C i j) (Zam R i j)=some c:=q
  rw[e]at q1
  obtain⟨h1,h2,_⟩:=ZhI (ZcO R i j) (show ZcP (Zam R i j) b=some c from q1)
  obtain⟨c',e2,_⟩:=Zhp (ZcO R' i j) (ZqC ok ok' hR hi hj h2) (show c≤b' by omega)
  have q2:Za8 (C' i j) (Zam R' i j)=none:=q'
  rw[e']at q2
  have q2:ZcP (Zam R' i j) b'=none:=q2
  rw[e2]at q2
  cases q2
theorem ZuP{G2 G2':Nat→Nat→Option Int}{R2 R2':Nat→Int×Int}(hd:∀i,i<n+1→G i i=some 0)(ok:∀t,t<n→RestOk (R t))(ok':∀t,t<n→RestOk (R' t))(h:Inside n G R G' R')(s:Sharp n G R G2 R2 M k)(s':Sharp n G' R' G2' R2' M' k'): Inside n G2 R2 G2' R2':=by
 have hG:LeG (n+1) G G':=fun i j hi hj=>h.1 i hi j hj
 obtain⟨R1,r1,h1,l1,r2,e2,h2⟩:=s.go
 obtain⟨R1',r1',h1',l1',r2',e2',h2'⟩:=s'.go
 have c1:=Zfw hG (n+1) (Zz10 _)
 have nn1:=ZjV hd r1
 have ok1:∀t,t<n→RestOk (R1 t):=fun t ht=>(h1 t ht).1.1
 have ok1':∀t,t<n→RestOk (R1' t):=fun t ht=>(h1' t ht).1.1
 have i1:=Zme c1 nn1 ok ok' h.2 h1 h1'
 have l:=ZmC c1 ok1 ok1' i1 l1
 have c2:=Zfw l (n+1) (Zz10 _)
 have z1:=ZeF hd (m:=n+1) fun m hm q=>r1 ⟨m,hm,q⟩
 have z2:=Zjv (Zdi ok1) z1
 have nn2:=ZjV z2 r2
 subst e2 e2'
 exact⟨fun i hi j hj=>c2 i j hi hj,Zme c2 nn2 ok1 ok1' i1 h2 h2'⟩
theorem Zub{G2:Nat→Nat→Option Int}{R2:Nat→Int×Int}(hd:∀i,i<n+1→G i i=some 0)(ok:∀t,t<n→RestOk (R t))(ok':∀t,t<n→RestOk (R' t))(h:Inside n G R G' R')(s:Sharp n G R G2 R2 M k): ¬Zjq n G' R' M' k':=fun f=>by
 have hG:LeG (n+1) G G':=fun i j hi hj=>h.1 i hi j hj
 obtain⟨R1,r1,h1,l1,r2,e2,h2⟩:=s.go
 have c1:=Zfw hG (n+1) (Zz10 _)
 have nn1:=ZjV hd r1
 have ok1:∀t,t<n→RestOk (R1 t):=fun t ht=>(h1 t ht).1.1
 have ne:∀t,t<n→∃x,Zdh n (clG G (n+1)) R (t+1) (n+1) x:=fun t ht=>⟨_,((h1 t ht).2 _).mp (ok1 t ht).self⟩
 rcases f with f | ⟨_,f⟩ | ⟨R1',_,h1',f⟩
 ·exact r1 (Zp2 hG f)
 ·obtain⟨i,hi,q⟩:=ZoB c1 nn1 ok ok' h.2 f
  obtain⟨x,hx⟩:=ne i hi
  exact q x hx
 ·have ok1':∀t,t<n→RestOk (R1' t):=fun t ht=>(h1' t ht).1.1
  have i1:=Zme c1 nn1 ok ok' h.2 h1 h1'
  rcases f with f | ⟨_,f | ⟨_,f⟩⟩
  ·exact l1 (ZtJ c1 ok1 ok1' i1 f)
  ·exact r2 (Zp2 (ZmC c1 ok1 ok1' i1 l1) f)
  ·have l:=ZmC c1 ok1 ok1' i1 l1
   have c2:=Zfw l (n+1) (Zz10 _)
   have z1:=ZeF hd (m:=n+1) fun m hm q=>r1 ⟨m,hm,q⟩
   have z2:=Zjv (Zdi ok1) z1
   have nn2:=ZjV z2 r2
   obtain⟨i,hi,q⟩:=ZoB c2 nn2 ok1 ok1' i1 f
   subst e2
   exact q _ (((h2 i hi).2 _).mp ((h2 i hi).1.1).self)
end L
open PySem PySem.W PyProof.Rows PM TM My
namespace L
open PySem PySem.W PyProof.Rows PM TM My
variable {n:Nat} {G G':Nat→Nat→Option Int}
def Zed(s s':Sp): Prop:=(∀y,s'.1=some y→∃x,s.1=some x∧y≤x)∧leO s.2 s'.2
theorem ZmD{x y k:Int}(h:x≤y)(hk:0≤k): x*k≤y*k:=Int.mul_le_mul_of_nonneg_right h hk
theorem Zuc{s s':Sp}(h:Zed s s')(k:Int): Zed (Zbv s k) (Zbv s' k):=by
 unfold Zbv
 split
 ·exact⟨fun y e=>⟨y,e,Int.le_refl _⟩,ZbP⟩
 ·split
  ·rename_i hk
   have neg:∀{x y:Int},x≤y→y*k≤x*k:=fun {x y} q=>by
    have:=ZmD q (show 0≤-k by omega)
    rw[Int.mul_neg,Int.mul_neg]at this;omega
   refine⟨fun y e=>?_,fun y e=>?_⟩
   ·obtain⟨u,e1,e2⟩:=Zz1.mp e
    obtain⟨x,e3,l⟩:=h.2 u e1
    exact⟨x*k,by show s.2.map _=_;rw[e3];rfl,by rw[←e2];exact neg l⟩
   ·obtain⟨u,e1,e2⟩:=Zz1.mp e
    obtain⟨x,e3,l⟩:=h.1 u e1
    exact⟨x*k,by show s.1.map _=_;rw[e3];rfl,by rw[←e2];exact neg l⟩
  ·refine⟨fun y e=>?_,fun y e=>?_⟩
   ·obtain⟨u,e1,e2⟩:=Zz1.mp e
    obtain⟨x,e3,l⟩:=h.1 u e1
    exact⟨x*k,by show s.1.map _=_;rw[e3];rfl,by rw[←e2];exact ZmD l (by omega)⟩
   ·obtain⟨u,e1,e2⟩:=Zz1.mp e
    obtain⟨x,e3,l⟩:=h.2 u e1
    exact⟨x*k,by show s.2.map _=_;rw[e3];rfl,by rw[←e2];exact ZmD l (by omega)⟩
theorem ZuQ{s s' u u':Sp}(h:Zed s s')(k:Zed u u'): Zed (ZfM s u) (ZfM s' u'):=by
 refine⟨fun y e=>?_,Zdv h.2 k.2⟩
 obtain⟨a,b,e1,e2,e3⟩:=addO_some.mp e
 obtain⟨x1,f1,l1⟩:=h.1 a e1
 obtain⟨x2,f2,l2⟩:=k.1 b e2
 exact⟨x1+x2,addO_some.mpr ⟨x1,x2,f1,f2,rfl⟩,by omega⟩
theorem Zp4{n:Nat}{c:Nat→Int}{S S':Nat→Sp}(h:∀t,t<n→Zed (S t) (S' t)): ∀j,j≤n→Zed (Zbj c S j) (Zbj c S' j)
 | 0,_=>⟨fun y e=>⟨y,e,Int.le_refl _⟩,ZbP⟩
 | j+1,hj=>ZuQ (Zp4 h j (by omega)) (Zuc (h j (by omega)) _)
theorem ZwG(h:LeG (n+1) G G'){t:Nat}(ht:t<n): Zed (S40 G t) (S40 G' t):=by
 refine⟨fun y e=>?_,h (t+1) 0 (by omega) (by omega)⟩
 obtain⟨u,e1,e2⟩:=Zz1.mp e
 obtain⟨x,e3,l⟩:=h 0 (t+1) (by omega) (by omega) u e1
 exact⟨x*(-1),by show(G 0 (t+1)).map _=_;rw[e3];rfl,by omega⟩
theorem ZmE(h:LeG (n+1) G G')(c:Nat→Int): leO (grt n G c) (grt n G' c):=by
 unfold grt
 by_cases q:Df n c
 ·rw[ZaE q]
  obtain⟨u,d,_,_,_,_,hu,hd,_,_,e1,e2,_⟩:=Zfk q
  rw[e1,e2]
  exact Zdv (h u d hu hd) ZbP
 ·rw[Zaz q]
  exact(Zp4 (fun t ht=>ZwG h ht) n (Zz10 _)).2
theorem Zmf{x y k:Int}(h:x≤y)(hk:0<k): x.fdiv k≤y.fdiv k:=by
 rw[Int.fdiv_eq_ediv_of_nonneg _ (Int.le_of_lt hk),Int.fdiv_eq_ediv_of_nonneg _ (Int.le_of_lt hk)]
 exact Int.ediv_le_ediv hk h
theorem ZwH{a b:Option Int}{f:Int→Int}(h:leO a b)(hf:∀x y,x≤y→f x≤f y): leO (a.map f) (b.map f):=fun y e=>by
 obtain⟨u,e1,e2⟩:=Zz1.mp e
 obtain⟨x,e3,l⟩:=h u e1
 exact⟨f x,by rw[e3];rfl,by rw[←e2];exact hf x u l⟩
theorem ZqD(h:LeG (n+1) G G')(c:Nat→Int)(top:Int){i:Nat}(hi:c i≠0): leO (prt n G c top i) (prt n G' c top i):=
 ZwH (Zdv (ZmE h _) ZbP) fun x y q=>Zmf q (by split <;> omega)
theorem Zye(h:LeG (n+1) G G')(c:Nat→Int)(top:Int): LeG (n+1) (amG n G c top) (amG n G' c top):=fun a b ha hb=>by
 have ap:leO (apW n G c top a b) (apW n G' c top a b):=by
  unfold apW
  split
  ·exact h a b ha hb
  ·exact ZjB (h a b ha hb) (Zdv (ZmE h _) ZbP)
 unfold amG alW
 split
 ·rename_i q
  obtain⟨rfl,_,_,q4⟩:=q
  exact ZjB ap (ZqD h c top (by omega))
 ·split
  ·rename_i q
   obtain⟨rfl,_,_,q4⟩:=q
   exact ZjB ap (ZqD h c top (by omega))
  ·exact ap
end L
open PySem PySem.W PyProof.Rows PM TM My
namespace L
open PySem PySem.W PyProof.Rows PM TM My
variable {n:Nat} {G G':Nat→Nat→Option Int} {R R':Nat→Int×Int}
theorem Znw{α:Type}{f g:Nat→α}(h:tab n f=tab n g){i:Nat}(hi:i<n): f i=g i:=by
 have:=congrArg (fun l=>l[i]?) h
 simp only[ZaL hi]at this
 exact Option.some.inj this
theorem ZAv{a b:Option Int}(h:oT a=oT b): a=b:=by
 cases a <;> cases b <;> first | rfl | (cases h;done) | (cases h;rfl)
theorem ZqE(h:Zt n G R=Zt n G' R'): (∀i j,i<n+1→j<n+1→G i j=G' i j)∧∀t,t<n→R t=R' t:=by
 unfold Zt Z1 Zak ZaU at h
 injection h with h
 injection h with h1 h2
 injection h2 with h2 _
 injection h1 with h1
 injection h2 with h2
 refine⟨fun i j hi hj=>?_,fun t ht=>?_⟩
 ·have:=Znw h1 hi
  injection this with this
  exact ZAv (Znw this hj)
 ·have:=Znw h2 ht
  unfold ZL at this
  injection this with this
  injection this with a b
  injection b with b _
  injection a with a
  injection b with b
  exact Prod.ext a b
def InD(n:Nat)(D D':T): Prop:=D=.none∨∃G R G' R',D=Zt n G R∧D'=Zt n G' R'∧Inside n G R G' R'
theorem Zm5(h:Zt n G R=.none): False:=by cases h
theorem InD.inside(h:InD n (Zt n G R) (Zt n G' R')): Inside n G R G' R':=by
 rcases h with h | ⟨A,S,A',S',e,e',i⟩
 ·exact(Zm5 h).elim
 ·obtain⟨a1,a2⟩:=ZqE e
  obtain⟨b1,b2⟩:=ZqE e'
  exact⟨fun i' hi j hj=>by rw[a1 i' j hi hj,b1 i' j hi hj];exact i.1 i' hi j hj,fun t ht=>by rw[a2 t ht,b2 t ht];exact i.2 t ht⟩
theorem InD.told(h:Inside n G R G' R'): InD n (Zt n G R) (Zt n G' R'):=.inr ⟨G,R,G',R',rfl,rfl,h⟩
theorem Zzq(h:InD n (Zt n G R) .none): False:=by
 rcases h with h | ⟨A,S,A',S',e,e',i⟩
 ·exact Zm5 h
 ·exact Zm5 e'.symm
def ShD(n:Nat)(G:Nat→Nat→Option Int)(R:Nat→Int×Int)(D:T): Prop:=(∃G2 R2 M k,D=Zt n G2 R2∧Sharp n G R G2 R2 M k)∨(D=.none∧∃M k,Zjq n G R M k)
def Gd(n:Nat)(G:Nat→Nat→Option Int)(R:Nat→Int×Int): Prop:=(∀i,i<n+1→G i i=some 0)∧∀t,t<n→RestOk (R t)
theorem ShD.mono{D D':T}(g:Gd n G R)(g':Gd n G' R')(h:Inside n G R G' R')(s:ShD n G R D)(s':ShD n G' R' D'): InD n D D':=by
 rcases s with⟨G2,R2,M,k,rfl,s⟩ | ⟨rfl,_⟩
 ·rcases s' with⟨G2',R2',M',k',rfl,s'⟩ | ⟨rfl,M',k',f⟩
  ·exact .told (ZuP g.1 g.2 g'.2 h s s')
  ·exact absurd f (Zub g.1 g.2 g'.2 h s)
 ·exact .inl rfl
def Far(n:Nat)(G:Nat→Nat→Option Int)(c:Nat→Int)(top:Int): Prop:=∃y,grt n G (fun k=>-(c k))=some y∧top < -y
theorem ZwI{c:Nat→Int}{top:Int}(h:LeG (n+1) G G')(f:Far n G' c top): Far n G c top:=by
 obtain⟨y,e,l⟩:=f
 obtain⟨x,e2,l2⟩:=ZmE h _ y e
 exact⟨x,e2,by omega⟩
def AmD(n:Nat)(G:Nat→Nat→Option Int)(R:Nat→Int×Int)(c:Nat→Int)(top:Int)(D:T): Prop:=(Far n G c top∧D=.none)∨(¬Far n G c top∧ShD n (amG n G c top) R D)
theorem Inside.le(h:Inside n G R G' R'): LeG (n+1) G G':=fun i j hi hj=>h.1 i hi j hj
theorem AmD.mono{c:Nat→Int}{top:Int}{D D':T}(g:Gd n G R)(g':Gd n G' R')(h:Inside n G R G' R')(s:AmD n G R c top D)(s':AmD n G' R' c top D'): InD n D D':=by
 rcases s with⟨_,rfl⟩ | ⟨nf,s⟩
 ·exact .inl rfl
 ·rcases s' with⟨f,_⟩ | ⟨_,s'⟩
  ·exact absurd (ZwI h.le f) nf
  ·have m:=Zye h.le c top
   exact s.mono ⟨ZkD g.1,g.2⟩ ⟨ZkD g'.1,g'.2⟩ ⟨fun i hi j hj=>m i j hi hj,h.2⟩ s'
structure Sz(n b k:Nat)(M:Int)(G:Nat→Nat→Option Int)(R:Nat→Int×Int): Prop where
 hM:0<M
 bM:Bd k M
 hd:∀i,i<n+1→G i i=some 0
 bG:GB b n G
 hR:∀t,t<n→RB M k (R t)
theorem Sz.mono{b k b' k':Nat}{M:Int}(z:Sz n b k M G R)(hb:b≤b')(hk:k≤k'): Sz n b' k' M G R:=⟨z.hM,z.bM.mono hk,z.hd,fun i j hi hj y e=>(z.bG i j hi hj y e).mono hb,fun t ht=>(z.hR t ht).mono hk⟩
end L
open PySem PySem.W PyProof.Rows PM TM My
namespace L
open PySem PySem.W PyProof.Rows PM TM My
def Up(n:Nat)(P:(Nat→Nat→Option Int)→(Nat→Int×Int)→T→Prop)(T0 D:T): Prop:=(T0=.none∧D=.none)∨∃G R,T0=Zt n G R∧Gd n G R∧P G R D
def Mo(n:Nat)(P P':(Nat→Nat→Option Int)→(Nat→Int×Int)→T→Prop): Prop:=∀G R G' R' D D',Gd n G R→Gd n G' R'→Inside n G R G' R'→P G R D→P' G' R' D'→InD n D D'
theorem Up.mono{n:Nat}{P P':(Nat→Nat→Option Int)→(Nat→Int×Int)→T→Prop}{T0 T0' D D':T}(m:Mo n P P')(h:InD n T0 T0')(u:Up n P T0 D)(u':Up n P' T0' D'): InD n D D':=by
 rcases u with⟨_,rfl⟩ | ⟨G,R,rfl,g,p⟩
 ·exact .inl rfl
 ·rcases u' with⟨rfl,_⟩ | ⟨G',R',rfl,g',p'⟩
  ·exact(Zzq h).elim
  ·exact m G R G' R' D D' g g' h.inside p p'
end L
open PySem PySem.W PyProof.Rows PM TM My
namespace L
open PySem PySem.W PyProof.Rows PM TM My
theorem ShD.inside{n:Nat}{G G':Nat→Nat→Option Int}{R R':Nat→Int×Int}{D:T}(g:Gd n G R)(g':Gd n G' R')(h:Inside n G R G' R')(s:ShD n G R D): InD n D (Zt n G' R'):=by
 rcases s with⟨G2,R2,M,k,rfl,s⟩ | ⟨rfl,_⟩
 ·have ok2:∀t,t<n→RestOk (R2 t):=fun t ht=>by
   obtain⟨R1,_,_,_,_,_,h6⟩:=s.go
   exact(h6 t ht).1.1
  exact .told (ZtG ok2 g.2 g'.2 (ZoL g.2 s) h)
 ·exact .inl rfl
theorem AmD.inside{n:Nat}{G G':Nat→Nat→Option Int}{R R':Nat→Int×Int}{c:Nat→Int}{top:Int}{D:T}(g:Gd n G R)(g':Gd n G' R')(h:Inside n G R G' R')(s:AmD n G R c top D): InD n D (Zt n G' R'):=by
 rcases s with⟨_,rfl⟩ | ⟨_,s⟩
 ·exact .inl rfl
 ·exact s.inside ⟨ZkD g.1,g.2⟩ g' ⟨fun i hi j hj=>Zcw (ZAm i j) (h.1 i hi j hj),h.2⟩
def ZnP(n:Nat)(G:Nat→Nat→Option Int)(c:Nat→Int): Prop:=∃y,grt n G c=some y∧y≤0
end L
open PySem PySem.W PyProof.Rows PM TM My
namespace L
open PySem PySem.W PyProof.Rows PM TM My
section
variable {n:Nat} {M M':Int} {G G':Nat→Nat→Option Int} {R R':Nat→Int×Int} {c:Nat→Int} {Cl:T}
end
end L
open PySem PySem.W PyProof.Rows PM TM My
namespace L
open PySem PySem.W PyProof.Rows PM TM My
end L
open PySem PySem.W PyProof.Rows PM TM My
namespace L
open PySem PySem.W PyProof.Rows PM TM My
section
variable {n X:Nat} {M M':Int} {G G':Nat→Nat→Option Int} {R R':Nat→Int×Int} {c:Nat→Int} {d:Int} {s:Sp}
end
end L
open PySem PySem.W PyProof.Rows PM TM My
namespace L
open PySem PySem.W PyProof.Rows PM TM My
section
variable {n X:Nat} {G:Nat→Nat→Option Int} {R:Nat→Int×Int} {T0 D Cl C0 S0 Sm:T} {b:Bool} {at_:Int}
theorem ZtK(h:Zbf [T0]=some (Zt n G R))(hl:Zdl [Zt n G R,Cl,.bool b]=some D): Zbr [T0,.tup [.str (Str.ofString "when"),Cl,.bool b],S0]=some D:=by
 have hne:∀{Q:T→Prop},Q (.bool false)→Pk (qIs (Zt n G R) .none) Q:=fun h=>⟨_,rfl,h⟩
 generalize Zt n G R=T1 at *
 apply Pk.eq
 unfold Zbr ZcM
 walk_at "z"
 refine Zk h ?_
 walk_at "z"
 refine hne ?_
 walk_at "z"
 refine Zd6 (by decide +kernel) (r:=false) (by decide +kernel) ?_
 walk_at "z"
 refine Ziu (by decide +kernel) ?_
 walk_at "z"
 exact Zk hl rfl
theorem ZtL{xv:T}(hS:Z5 S0 (.int at_)=some Sm)(h:Zbf [T0]=some (Zt n G R))(hl:Zhm [Zt n G R,xv,C0,Sm]=some D): Zbr [T0,.tup [.str (Str.ofString "call"),xv,.int at_,C0],S0]=some D:=by
 have hne:∀{Q:T→Prop},Q (.bool false)→Pk (qIs (Zt n G R) .none) Q:=fun h=>⟨_,rfl,h⟩
 have hS':∀{Q:T→Prop},Q Sm→Pk (Z5 S0 (.int at_)) Q:=fun h=>⟨_,hS,h⟩
 clear hS
 generalize Zt n G R=T1 at *
 apply Pk.eq
 unfold Zbr ZcM
 walk_at "z"
 refine Zk h ?_
 walk_at "z"
 refine hne ?_
 walk_at "z"
 refine Zd6 (by decide +kernel) (r:=false) (by decide +kernel) ?_
 walk_at "z"
 refine Zcf (by decide +kernel) ?_
 walk_at "z"
 refine Ziu (by decide +kernel) ?_
 walk_at "z"
 refine hS' ?_
 walk_at "z"
 exact Zk hl rfl
end
end L
namespace L
open PySem PM TM
end L
namespace L
open PySem PM TM
theorem Zru{n b:Nat}{x:Nat→Int}(bx:∀t,t<n→Bd b (x t)): ∀i,i<n+1→Bd b (Zab x i)
 | 0,_=>ZaI
 | i+1,hi=>bx i (by omega)
end L
namespace L
open PySem PM TM
noncomputable def Zbk(x:Nat→Int)(X:Nat)(v:Int): Nat→Int:=fun t=>if t=X then v else x t
theorem Zzr{n b X:Nat}{x:Nat→Int}{v:Int}(bx:∀t,t<n→Bd b (x t))(bv:Bd b v): ∀t,t<n→Bd b (Zbk x X v t):=fun t ht=>by
 unfold Zbk
 split
 ·exact bv
 ·exact bx t ht
end L
namespace L
open PySem PM TM
section
variable {n r X:Nat} {C:Nat→Nat→Int} {x s:Nat→Int}
end
end L
namespace L
open PySem PM TM
theorem Zsj{n X:Nat}{x:Nat→Int}{v:Int}(hX:X<n)(hn:n≤60): Zfi [Zac n x,.int ((X:Int)+1),.int v]=some (Zac n (Zbk x X v)):=ZuM hX (by omega)
end L
open PySem PySem.W PyProof.Rows PM TM My
namespace L
open PySem PySem.W PyProof.Rows PM TM My
section
variable {n k b e f:Nat} {M:Int} {G:Nat→Nat→Option Int} {R:Nat→Int×Int} {c x:Nat→Int} {top:Int}
structure Zs(n k:Nat)(M:Int)(G:Nat→Nat→Option Int)(R:Nat→Int×Int)(x:Nat→Int): Prop where
 hM:0<M
 bM:Bd k M
 hd:∀i,i<n+1→G i i=some 0
 bG:GB k n G
 hR:∀t,t<n→RB M k (R t)
 li:Zaw n G R x
structure Sc(n e f:Nat)(c:Nat→Int): Prop where
 a:∀i,i<n→Bd e (c (i+1))
 z:Bd f (c 0)
theorem Sc.all(s:Sc n e f c)(he:e≤b)(hf:f≤b): ∀i,i<n+1→Bd b (c i)
 | 0,_=>s.z.mono hf
 | i+1,h=>(s.a i (by omega)).mono he
theorem ZfO{k:Nat}{y:Int}(h:Bd k y): Bd k (-y):=by unfold Bd at *;omega
theorem Sc.neg(s:Sc n e f c): Sc n e f fun i=>-(c i):=⟨fun i h=>ZfO (s.a i h),ZfO s.z⟩
theorem Zs.ok(z:Zs n k M G R x): ∀t,t<n→RestOk (R t):=fun t ht=>(z.hR t ht).1
theorem Zs.rbd(z:Zs n k M G R x): ∀t,t<n→RBd k (R t):=fun t ht=>(z.hR t ht).bd2 z.hM z.bM (Zz10 k)
theorem Zs.mono(z:Zs n k M G R x)(h:k≤b): Zs n b M G R x:=⟨z.hM,z.bM.mono h,z.hd,fun i j hi hj y e=>(z.bG i j hi hj y e).mono h,fun t ht=>(z.hR t ht).mono h,z.li⟩
theorem ZqF{S:Nat→Sp}(s:Sc n e f c)(bS:∀i,i<n→SBd b (S i))(hf:f≤b+e): ∀j,j≤n→∀y,(Zbj c S j).2=some y→Bd (b+e+j) y
 | 0,_,y,e=>by cases e;exact s.z.mono (by omega)
 | j+1,h,y,e0=>by
  obtain⟨p,q,h1,h2,rfl⟩:=addO_some.mp (show addO (Zbj c S j).2 (Zbv (S j) (c (j+1))).2=some y from e0)
  have ih:=ZqF s bS hf j (by omega) p h1
  have hq:Bd (b+e) q:=by
   unfold Zbv at h2
   split at h2
   ·cases h2;exact ZaI
   ·split at h2
    ·obtain⟨z,e1,rfl⟩:=Zz1.mp h2
     exact((bS j (by omega)).1 z e1).mul (s.a j (by omega))
    ·obtain⟨z,e1,rfl⟩:=Zz1.mp h2
     exact((bS j (by omega)).2 z e1).mul (s.a j (by omega))
  exact(ih.add (hq.mono (by omega))).mono (by omega)
theorem Zfx(hG:GB b n G)(s:Sc n e f c)(hf:f≤b+e): ∀y,grt n G c=some y→Bd (b+e+n+1) y:=fun y e0=>by
 unfold grt at e0
 by_cases h:Df n c
 ·rw[ZaE h]at e0
  obtain⟨u,d,_,_,_,_,hu,hd,_,_,iu,id_,_,_⟩:=Zfk h
  rw[iu,id_]at e0
  obtain⟨p,q,h1,h2,rfl⟩:=addO_some.mp (show addO (G u d) (some (c 0))=some y from e0)
  cases h2
  exact(((hG u d hu hd p h1).mono (show b≤b+e by omega)).add (s.z.mono hf)).mono (by omega)
 ·rw[Zaz h]at e0
  exact(ZqF s (Zns hG) hf n (Zz10 n) y e0).mono (by omega)
theorem ZiF{i:Nat}: ZP i 0=0:=Zzo
theorem Sc.ap(s:Sc n e f c)(i j:Nat): Sc n (e+1) f (apC c i j):=⟨fun t ht=>by
 have:=s.a t ht
 have p:=Nat.pow_succ (n:=2) (m:=e)
 have q:=Nat.two_pow_pos e
 show Bd (e+1) (ZP i (t+1)-ZP j (t+1)-c (t+1))
 rcases Zd5 (i:=i) (k:=t+1)with h | h <;> rcases Zd5 (i:=j) (k:=t+1)with h' | h' <;> rw[h,h'] <;> unfold Bd at * <;> rw[p] <;> omega,by
 have:=s.z
 show Bd f (ZP i 0-ZP j 0-c 0)
 rw[ZiF,ZiF];unfold Bd at *;omega⟩
theorem Sc.al(s:Sc n e f c)(i:Nat): Sc n e f (alC c i):=⟨fun t ht=>by
 have:=s.a t ht
 show Bd e (ZP i (t+1)*c i-c (t+1))
 by_cases q:t+1=i
 ·subst q;rw[Zd4 (by omega),Int.one_mul,Int.sub_self];exact ZaI
 ·rw[Zdn q,Int.zero_mul];unfold Bd at *;omega,by
 have:=s.z
 show Bd f (ZP i 0*c i-c 0)
 rw[ZiF,Int.zero_mul];unfold Bd at *;omega⟩
theorem Zzs(hG:GB b n G)(s:Sc n e f c)(hf:f≤b+e)(bt:Bd b top): GB (b+e+n+4) n (amG n G c top):=by
 have s1:∀{d:Nat→Int},Sc n (e+1) f d→∀y,addO (grt n G d) (some top)=some y→Bd (b+e+n+4) y:=fun bd y e0=>by
  obtain⟨p,q,h1,h2,rfl⟩:=addO_some.mp e0
  cases h2
  exact((Zfx hG bd (by omega) p h1).add (bt.mono (by omega))).mono (by omega)
 have sG:∀i j,i<n+1→j<n+1→∀y,G i j=some y→Bd (b+e+n+4) y:=fun i j hi hj y e0=>(hG i j hi hj y e0).mono (by omega)
 have sA:∀i j,i<n+1→j<n+1→∀y,apW n G c top i j=some y→Bd (b+e+n+4) y:=fun i j hi hj y e0=>by
  unfold apW at e0
  split at e0
  ·exact sG i j hi hj y e0
  ·exact ZjT (sG i j hi hj) (s1 (s.ap i j)) y e0
 have sP:∀i,i<n+1→c i≠0→∀y,prt n G c top i=some y→Bd (b+e+n+4) y:=fun i hi h0 y e0=>by
  unfold prt at e0
  obtain⟨z,h1,rfl⟩:=Zz1.mp e0
  exact ZxZ (s1 ⟨fun t ht=>((s.al i).a t ht).mono (by omega),(s.al i).z⟩ z h1) (by split <;> omega)
 intro i j hi hj y e0
 unfold amG alW at e0
 split at e0
 ·rename_i q
  exact ZjT (sA i 0 hi (by omega)) (sP i hi (by omega)) y e0
 ·split at e0
  ·rename_i q
   exact ZjT (sA 0 j (by omega) hj) (sP j hj (by omega)) y e0
  ·exact sA i j hi hj y e0
theorem Zd0(hn:n≤20)(hk:k+2*n+4≤7000)(z:Zs n k M G R x): ∃G2 R2,Zbf [Zt n G R]=some (Zt n G2 R2)∧Zs n (k+3*n+7) M G2 R2 x:=by
 obtain⟨D,e1,_,h⟩:=Zyb hn hk z.hM z.bM z.hd z.bG z.hR
 rcases h with⟨rfl,no⟩ | ⟨G2,R2,rfl,h1,h2,h3,h4,_⟩
 ·exact absurd z.li (no x)
 ·exact⟨G2,R2,e1,z.hM,z.bM.mono (by omega),h1,h3,h2,h4 x z.li⟩
theorem ZhL(hn:n≤3)(hk:k≤3990)(h1:400≤k)(z:Zs n k M G R x)(s:Sc n 31 341 c)(bt:Bd 1 top)(hv:ZK c x n≤top): ∃G2 R2,ZdQ [Zt n G R,ZB n c,.int top]=some (Zt n G2 R2)∧Zs n (k+56) M G2 R2 x:=by
 have hc:∀y,grt n G (fun k=>-(c k))=some y→-y≤top:=fun y e0=>by
  have:=ZeO z.li e0
  rw[Zfu]at this
  omega
 have za:Zs n (k+38) M (amG n G c top) R x:=⟨z.hM,z.bM.mono (by omega),ZkD z.hd,fun i j hi hj y e0=>(Zzs z.bG s (by omega) (bt.mono (by omega)) i j hi hj y e0).mono (by omega),fun t ht=>(z.hR t ht).mono (by omega),Zx0 z.li hv⟩
 obtain⟨G2,R2,e1,z2⟩:=Zd0 (by omega) (by omega) za
 exact⟨G2,R2,Zt5 (b:=k) (by omega) (by omega) (by omega) z.bG (s.all (by omega) (by omega)) z.hd hc e1,z2.mono (by omega)⟩
theorem Zr5(hn:n≤3)(hk:k≤3990)(h1:400≤k)(z:Zs n k M G R x)(s:Sc n 31 341 c)(hv:ZK c x n≠0): ∃G2 R2,Zjc [Zt n G R,ZB n c]=some (Zt n G2 R2)∧Zs n (k+56) M G2 R2 x:=by
 have ht:Zt n G R=.tup [Z1 (n+1) G,.lst (tab n fun i=>ZL (R i))]:=rfl
 have hne:∀{Q:T→Prop},Q (.bool true)→Pk (ZfA (Zt n G R) .none) Q:=fun h=>⟨_,by rw[ht];rfl,h⟩
 have hg:=Ze6 (R:=R) (c:=c) (b:=k) (by omega) (by omega) (by omega) z.bG (s.all (by omega) (by omega))
 by_cases h:∃y,grt n G c=some y∧y≤0
 ·have lt:ZK c x n≤-1:=by
   obtain⟨y,q1,q2⟩:=h
   have:=ZeO z.li q1
   omega
  obtain⟨G2,R2,e1,z2⟩:=ZhL (top:=-1) hn hk h1 z s (by unfold Bd;decide) lt
  refine⟨G2,R2,?_,z2⟩
  apply Pk.eq
  unfold Zjc Zfa
  walk_at "z"
  refine hne ?_
  walk_at "z"
  refine Zk hg ?_
  walk_at "z"
  refine Zk (Zlc (b:=some 0)) ?_
  rw[ZaE (leO_0.mpr h)]
  walk_at "z"
  exact Zk e1 rfl
 ·refine⟨G,R,?_,z.mono (by omega)⟩
  apply Pk.eq
  unfold Zjc Zfa
  walk_at "z"
  refine hne ?_
  walk_at "z"
  refine Zk hg ?_
  walk_at "z"
  refine Zk (Zlc (b:=some 0)) ?_
  rw[Zaz (fun q=>h (leO_0.mp q))]
  walk_at "z"
  rfl
theorem Zrv(hM:0<M)(he:1≤e)(hR:∀t,t<n→RB M k (R t))(a:∀i,i<n→Bd e (c (i+1))): ∀j,j≤n→∃u:Int,0<u∧Bd e u∧(ZaJ c R j=0∨ZaJ c R j ∣ M*u)
 | 0,_=>⟨1,by decide,ZbN he,.inl rfl⟩
 | j+1,hj=>by
  obtain⟨u,h1,h2,h3⟩:=Zrv hM he hR a j (by omega)
  have gl:ZaJ c R (j+1) ∣ ZaJ c R j:=Int.gcd_dvd_left ..
  have gr:ZaJ c R (j+1) ∣ c (j+1)*(R j).1:=Int.gcd_dvd_right ..
  by_cases q:ZaJ c R j=0
  ·by_cases q2:c (j+1)*(R j).1=0
   ·refine⟨1,by decide,ZbN he,.inl ?_⟩
    show((Int.gcd (ZaJ c R j) (c (j+1)*(R j).1):Nat):Int)=0
    rw[q,q2];rfl
   ·have c0:c (j+1)≠0:=fun h=>q2 (by rw[h,Int.zero_mul])
    have r0:(R j).1≠0:=fun h=>q2 (by rw[h,Int.mul_zero])
    have dm:=(hR j (by omega)).2.1.resolve_left r0
    have ba:=a j (by omega)
    refine⟨(c (j+1)).natAbs,by omega,by unfold Bd at *;omega,.inr (Int.dvd_trans gr ?_)⟩
    rw[Int.mul_comm M]
    exact Int.mul_dvd_mul (Int.dvd_natAbs.mpr (Int.dvd_refl _)) dm
  ·exact⟨u,h1,h2,.inr (Int.dvd_trans gl (h3.resolve_left q))⟩
theorem Zrw(s:Sc n e f c)(bR:∀j,j<n→Bd k (R j).2)(hf:f≤k+e): ∀j,j≤n→Bd (k+e+j) (Zby c R j)
 | 0,_=>s.z.mono (by omega)
 | j+1,h=>(Zrw s bR hf j (by omega)).add ((((bR j (by omega)).mul (s.a j (by omega))).mono (show k+e≤k+e+j by omega) |> fun q=>by rw[Int.mul_comm]at q;exact q))
theorem ZfG(z:Zs n k M G R x)(he:1≤e)(s:Sc n e f c)(hf:f≤k+e): ∃u:Int,0<u∧Bd e u∧RB (M*u) (k+e+n) (Zap c R n):=by
 obtain⟨u,h1,h2,h3⟩:=Zrv z.hM he z.hR s.a n (Zz10 n)
 have bu:Bd (k+e) (M*u):=z.bM.mul h2
 have pu:0<M*u:=Int.mul_pos z.hM h1
 rw[ZcX z.ok n (Zz10 n)]
 have bc:Bd (k+e+n) (ZaJ c R n):=by
  rcases h3 with q | q
  ·rw[q];exact ZaI
  ·have:=Nat.le_of_dvd (by omega) (Int.natAbs_dvd_natAbs.mpr q)
   exact(show Bd (k+e) _ by unfold Bd at *;omega).mono (by omega)
 refine⟨u,h1,h2,ZbO (ZcW _ _ _) _,?_,(Zep (ZcW _ _ _) bc (Zrw s (fun j hj=>(z.hR j hj).2.2) hf n (Zz10 n))).2⟩
 rw[ZcL]
 exact h3
end
end L
open PySem PySem.W PyProof.Rows PM TM My
namespace L
open PySem PySem.W PyProof.Rows PM TM My
section
variable {n k b e f:Nat} {M:Int} {G:Nat→Nat→Option Int} {R:Nat→Int×Int} {c x:Nat→Int} {top d:Int}
def Zd(n k:Nat)(x:Nat→Int)(D:T): Prop:=∃M G R,D=Zt n G R∧Zs n k M G R x
theorem Zs.told(z:Zs n k M G R x)(h:k≤b): Zd n b x (Zt n G R):=⟨M,G,R,rfl,z.mono h⟩
theorem Sc.oth(s:Sc n e f c)(i:Nat): Sc n e f (ZaY c (i+1)):=⟨fun t ht=>by
 show Bd e (c (t+1)-ZP (i+1) (t+1)*c (i+1))
 by_cases q:t+1=i+1
 ·rw[q,Zd4 (by omega),Int.one_mul,Int.sub_self];exact ZaI
 ·rw[Zdn q,Int.zero_mul,Int.sub_zero];exact s.a t ht,by
 show Bd f (c 0-ZP (i+1) 0*c (i+1))
 rw[ZiF,Int.zero_mul,Int.sub_zero];exact s.z⟩
def Ev(d:Int): Prop:=d=0∨(0<d∧Bd 3 d)
theorem Znx{k:Nat}{a m:Int}(hm:0<m)(bm:Bd k m)(h:a=0∨a ∣ m): Bd k a:=by
 rcases h with h | h
 ·rw[h];exact ZaI
 ·have:=Nat.le_of_dvd (by omega) (Int.natAbs_dvd_natAbs.mpr h)
  unfold Bd at *;omega
theorem ZAw{t:Nat}(z:Zs n k M G R x)(s:Sc n 31 f c)(hf:f≤k+31)(hd:Ev d)(h1:c (t+1)=1∨c (t+1) = -1): ∃u:Int,0<u∧Bd 31 u∧RB (M*u) (k+31+n) (Zc7 n R c d (t+1)):=by
 obtain⟨u,p1,p2,p3⟩:=ZfG z (e:=31) (by decide) (s.oth t) hf
 have br:Bd (k+31+n) (-(c (t+1))*(Zap (ZaY c (t+1)) R n).2):=by
  have:=p3.2.2
  rcases h1 with q | q <;> rw[q] <;> unfold Bd at * <;> omega
 have go:∀v:Int,0<v→Bd 31 v→(((Int.gcd (Zap (ZaY c (t+1)) R n).1 d:Nat):Int)=0∨((Int.gcd (Zap (ZaY c (t+1)) R n).1 d:Nat):Int) ∣ M*v)→RB (M*v) (k+31+n) (Zc7 n R c d (t+1)):=fun v v1 v2 h=>by
  have bm:=Znx (Int.mul_pos z.hM v1) (z.bM.mul v2) h
  refine⟨Zr1,?_,(Zep (by omega) (bm.mono (by omega)) br).2⟩
  unfold Zc7
  rw[ZcL]
  exact h
 rcases hd with q | ⟨q,q2⟩
 ·refine⟨u,p1,p2,go u p1 p2 ?_⟩
  rw[q,Int.gcd_zero_right,Int.natAbs_of_nonneg p3.1.nn]
  exact p3.2.1
 ·exact⟨d,q,q2.mono (by decide),go d q (q2.mono (by decide)) (.inr (Int.dvd_trans (Int.gcd_dvd_right ..) (Int.dvd_mul_left _ _)))⟩
theorem Zzt{t:Nat}{r:Int×Int}(ht:t<n)(hk:k+31+n≤8000)(z:Zs n k M G R x)(s:Sc n 31 f c)(hf:f≤k+31)(hd:Ev d)(h:BesO n R c d t (some r)): ∃u:Int,0<u∧Bd 31 u∧RB (M*u) (k+31+n) r:=by
 have hp:RB M (k+31+n) (R t):=(z.hR t ht).mono (by omega)
 unfold BesO at h
 split at h
 ·rename_i q
  obtain⟨u,h1,h2,h3⟩:=ZAw z s hf hd q
  have bu:Bd (k+31) (M*u):=z.bM.mul h2
  have pu:0<M*u:=Int.mul_pos z.hM h1
  refine⟨u,h1,h2,?_⟩
  rcases ZrX (k:=k+31+n) hk hp.1 h3.1 (hp.bd2 z.hM z.bM (by omega)) (h3.bd2 pu bu (by omega)) h r rfl with rfl | rfl | ⟨z1,z2,e0⟩
  ·exact hp.up (Int.dvd_mul_right _ _) (Zz10 _)
  ·exact h3
  ·have dv:r.1 ∣ M*u:=by
    rw[e0]
    exact Int.coe_lcm_dvd (Int.dvd_trans (hp.2.1.resolve_left z1) (Int.dvd_mul_right _ _)) (h3.2.1.resolve_left z2)
   refine⟨h.1,.inr dv,?_⟩
   have b2:=Znx pu bu (.inr dv)
   have n0:r.1≠0:=by rw[e0];intro h;exact(Int.lcm_ne_zero z1 z2) (by omega)
   rcases h.1 with q | ⟨_,q2,q3⟩
   ·exact absurd q n0
   ·exact(show Bd (k+31) r.2 by unfold Bd at *;omega).mono (by omega)
 ·cases h
  exact⟨1,by decide,ZbN (by decide),by rw[Int.mul_one];exact hp⟩
theorem Zrx(hn:n≤3)(hk:k≤3950)(h4:400≤k)(z:Zs n k M G R x)(s:Sc n 31 342 c)(hd:Ev d)(hv:d ∣ ZK c x n): ∃M2 G2 R2,Zeh [Zt n G R,ZB n c,.int d]=some (Zt n G2 R2)∧Zs n (k+112) M2 G2 R2 x:=by
 have bd:Bd k d:=by
  rcases hd with q | ⟨_,q⟩
  ·rw[q];exact ZaI
  ·exact q.mono (by omega)
 obtain⟨o,ho,_,a2⟩:=ZtF (G:=G) (c:=c) (d:=d) (k:=k) (by omega) (by omega) (by omega) z.ok z.rbd (s.all (by omega) (by omega)) (fun t ht=>(s.oth t).all (by omega) (by omega)) bd
 have hs:∀t,t<n→∃r,o t=some r∧Z6 r (x t):=fun t ht=>Zwy ht z.ok z.li.2 hv (ho t ht)
 have ex:∀t,∃q:(Int×Int)×Int,t<n→o t=some q.1∧Z6 q.1 (x t)∧0<q.2∧Bd 31 q.2∧RB (M*q.2) (k+31+n) q.1:=fun t=>by
  by_cases ht:t<n
  ·obtain⟨r,e1,h1⟩:=hs t ht
   have:=ho t ht
   rw[e1]at this
   obtain⟨u,u1,u2,u3⟩:=Zzt ht (by omega) z s (by omega) hd this
   exact⟨(r,u),fun _=>⟨e1,h1,u1,u2,u3⟩⟩
  ·exact⟨((0,0),0),fun h=>absurd h ht⟩
 obtain⟨q,hq⟩:=Classical.axiomOfChoice ex
 generalize hU:(fun t=>((q t).2,(0:Int)))=U
 have uo:∀t,t<n→RestOk (U t):=fun t ht=>by rw[←hU];exact .inr ⟨(hq t ht).2.2.1,Int.le_refl 0,(hq t ht).2.2.1⟩
 have hp:=ZhJ uo n (Zz10 n)
 have hb:=ZhW (R:=U) (k:=31) (by decide) (fun t ht=>by rw[←hU];exact(hq t ht).2.2.2.1) n (Zz10 n)
 have zn:Zs n (k+94) (M*Zce U n) G (fun t=>(q t).1) x:=by
  refine⟨Int.mul_pos z.hM hp,(z.bM.mul hb).mono (by omega),z.hd,fun i j hi hj y e0=>(z.bG i j hi hj y e0).mono (by omega),fun t ht=>?_,z.li.1,fun t ht=>(hq t ht).2.1⟩
  have dv:(q t).2 ∣ Zce U n:=by
   have:=ZhK (R:=U) n t ht
   rw[←hU]at this ⊢
   exact this.resolve_left (by have:=(hq t ht).2.2.1;show(q t).2≠0;omega)
  exact(hq t ht).2.2.2.2.up (Int.mul_dvd_mul_left M dv) (by omega)
 obtain⟨G2,R2,e1,z2⟩:=Zd0 (by omega) (by omega) zn
 exact⟨_,G2,R2,a2 _ _ (fun t ht=>(hq t ht).1) e1,z2.mono (by omega)⟩
theorem Zhr(hn:n≤3)(hk:k≤3990)(h4:400≤k)(z:Zs n k M G R x)(s:Sc n 31 342 c): Zek [ZB n c,.lst (tab n fun j=>ZL (R j))]=some (ZL (Zap c R n)):=
 Zle (i:=k) (by omega) (by omega) (by omega) (s.all (by omega) (by omega)) z.rbd z.ok
theorem ZmF{Q:T→Prop}(h:Q (.lst (tab n fun i=>ZL (R i)))): Pk (Z5 (Zt n G R) (.int 1)) Q:=⟨_,rfl,h⟩
theorem ZwJ{D1 D2 D:T}(hn:n≤3)(ok:RestOk (Zap c R n))(bc:∀i,i<n+1→Bd 400 (c i))(hs:Zek [ZB n c,.lst (tab n fun j=>ZL (R j))]=some (ZL (Zap c R n)))(hr:Z6 (Zap c R n) 0)(h1:ZdQ [Zt n G R,ZB n c,.int 0]=some D1)(h2:ZdQ [D1,ZB n fun k=>-(c k),.int 0]=some D2)(h3:Zeh [D2,ZB n c,.int 0]=some D): ZgW [Zt n G R,ZB n c]=some D:=by
 have ht:=@ZmF n G R
 have bn:Bd 400 (-1):=(show Bd 1 (-1)by unfold Bd;decide).mono (by decide)
 have hh:=ZgX (q:=Zap c R n) (x:=0) ok
 apply Pk.eq
 unfold ZgW ZgV
 walk_at "z"
 refine ht ?_
 walk_at "z"
 refine Zk hs ?_
 walk_at "z"
 refine Zk hh ?_
 rw[ZaE hr]
 walk_at "z"
 refine Zk h1 ?_
 walk_at "z"
 refine Zk (Zef (b:=400) (by omega) (by decide) bc bn) ?_
 rw[Zmc]
 walk_at "z"
 refine Zk h2 ?_
 walk_at "z"
 exact Zk h3 rfl
theorem Zzu(hn:n≤3)(hk:k≤3800)(h4:400≤k)(z:Zs n k M G R x)(s:Sc n 31 341 c)(hv:ZK c x n=0): ∃D,ZgW [Zt n G R,ZB n c]=some D∧Zd n (k+224) x D:=by
 obtain⟨G1,R1,e1,z1⟩:=ZhL (top:=0) hn (by omega) h4 z s (by unfold Bd;decide) (by omega)
 obtain⟨G2,R2,e2,z2⟩:=ZhL (top:=0) hn (by omega) (by omega) z1 s.neg (by unfold Bd;decide) (by rw[Zfu];omega)
 obtain⟨M3,G3,R3,e3,z3⟩:=Zrx (d:=0) hn (by omega) (by omega) z2 ⟨s.a,s.z.mono (by decide)⟩ (.inl rfl) (by rw[hv];exact Int.dvd_refl 0)
 exact⟨_,ZwJ hn (Zm4 z.ok) (s.all (by decide) (by decide)) (Zhr hn (by omega) h4 z ⟨s.a,s.z.mono (by decide)⟩) (by rw[←hv];exact ZhX z.ok z.li.2) e1 e2 e3,z3.told (by omega)⟩
theorem ZwK(hn:n≤3)(hk:k≤3800)(h4:400≤k)(z:Zs n k M G R x)(s:Sc n 31 341 c)(hv:ZK c x n≠0): ∃D,ZiH [Zt n G R,ZB n c]=some D∧Zd n (k+224) x D:=by
 obtain⟨G1,R1,e1,z1⟩:=Zr5 hn (by omega) h4 z s hv
 obtain⟨G2,R2,e2,z2⟩:=Zr5 hn (by omega) (by omega) z1 s.neg (by rw[Zfu];omega)
 refine⟨_,?_,z2.told (by omega)⟩
 have bn:Bd 400 (-1):=(show Bd 1 (-1)by unfold Bd;decide).mono (by decide)
 have hf:ZjM [Zt n G2 R2]=some (Zt n G2 R2):=Zjw ((Zre (by omega)).mono (by decide))
 apply Pk.eq
 unfold ZiH Zf8
 walk_at "z"
 refine Zk e1 ?_
 walk_at "z"
 refine Zk (Zef (b:=400) (by omega) (by decide) (s.all (by decide) (by decide)) bn) ?_
 rw[Zmc]
 walk_at "z"
 refine Zk e2 ?_
 walk_at "z"
 exact Zk hf rfl
theorem Zr6(hn:n≤3)(hk:k≤3800)(h4:400≤k)(z:Zs n k M G R x)(s:Sc n 31 342 c)(hd0:0<d)(bd:Bd 3 d)(hv:d ∣ ZK c x n): ∃D,ZiY [Zt n G R,ZB n c,.int d]=some D∧Zd n (k+224) x D:=by
 obtain⟨M2,G2,R2,e2,z2⟩:=Zrx hn (by omega) h4 z s (.inr ⟨hd0,bd⟩) hv
 refine⟨_,?_,z2.told (by omega)⟩
 obtain⟨u,u1,u2,u3⟩:=ZfG z (e:=31) (by decide) s (by omega)
 have hs:=Zhr hn (by omega) h4 z s
 have hl:=Zn6 (p:=Zap c R n) (d:=d) (k:=8000) (by decide) ((u3.bd2 (Int.mul_pos z.hM u1) (z.bM.mul u2) (by omega)).1.mono (by omega)) (bd.mono (by decide))
 have hr:Z6 (Zec (Zap c R n) d) 0:=Zya (Zm4 z.ok) (ZhX z.ok z.li.2) hv
 have ht:=@ZmF n G R
 apply Pk.eq
 unfold ZiY ZgU
 clear z z2
 generalize Zt n G R=T0 at *
 walk_at "z"
 refine ht ?_
 walk_at "z"
 refine Zk hs ?_
 walk_at "z"
 refine Zk hl ?_
 walk_at "z"
 refine Zk (ZgX Zzp) ?_
 rw[ZaE hr]
 walk_at "z"
 exact Zk e2 rfl
theorem ZuR(hn:n≤3)(hk:k≤3800)(h4:400≤k)(z:Zs n k M G R x)(s:Sc n 31 341 c)(hd0:0<d)(bd:Bd 3 d)(hv:¬d ∣ ZK c x n): ∃D,Zf7 [Zt n G R,ZB n c,.int d]=some D∧Zd n (k+224) x D:=by
 have s2:Sc n 31 342 c:=⟨s.a,s.z.mono (by decide)⟩
 have hs:=Zhr hn (by omega) h4 z s2
 have hri:=ZsX (p:=Zap c R n) (Zso hd0)
 have ed:ZL (d,(0:Int))=.tup [.int d,.int 0]:=rfl
 rw[ed]at hri
 have hq0:∀{Q:T→Prop},Q (.int (c 0))→Pk (Z5 (ZB n c) (.int 0)) Q:=fun h=>by
  unfold ZB
  walk_at "z"
  exact h
 have hr:¬RIn (Zap c R n) (d,0):=fun q=>hv ((ZAq hd0).mp (Zh8 (Zm4 z.ok) (Zso hd0) q (ZhX z.ok z.li.2)))
 have ht:=@ZmF n G R
 by_cases h2:d=2
 ·subst h2
  have sl:Sc n 31 342 (Zc6 c (-1)):=⟨fun i hi=>s.a i hi,by
   exact(s.z.sub (show Bd 341 (-1)from(show Bd 1 (-1)by unfold Bd;decide).mono (by decide)))⟩
  have vl:ZK (Zc6 c (-1)) x n=ZK c x n+1:=by rw[Zrr];omega
  obtain⟨D,e2,z2⟩:=Zr6 (d:=2) hn hk h4 z sl (by decide) bd (by rw[vl];omega)
  refine⟨D,?_,z2⟩
  apply Pk.eq
  unfold Zf7 Ze1
  clear z z2
  generalize Zt n G R=T0 at *
  walk_at "z"
  refine ht ?_
  walk_at "z"
  refine Zk hs ?_
  walk_at "z"
  refine Zk hri ?_
  rw[Zaz hr]
  walk_at "z"
  refine hq0 ?_
  walk_at "z"
  refine Zjp ?_
  walk_at "z"
  refine⟨_,rfl,?_⟩
  refine Zdz (by simp[tab];omega) ?_
  rw[show c 0+1=c 0 - -1 by omega,Zx9,show T.lst (tab (n+1) fun i=>T.int (Zc6 c (-1) i))=ZB n (Zc6 c (-1))from rfl]
  walk_at "z"
  exact Zk e2 rfl
 ·refine⟨Zt n G R,?_,z.told (by omega)⟩
  have hf:ZjM [Zt n G R]=some (Zt n G R):=Zjw ((Zre (by omega)).mono (by decide))
  apply Pk.eq
  unfold Zf7 Ze1
  clear z
  generalize Zt n G R=T0 at *
  walk_at "z"
  refine ht ?_
  walk_at "z"
  refine Zk hs ?_
  walk_at "z"
  refine Zk hri ?_
  rw[Zaz hr]
  walk_at "z"
  exact Zk hf rfl
theorem Zyf(hn:n≤3)(hk:k≤3800)(h4:400≤k)(z:Zs n k M G R x)(s:Sc n 31 341 c)(b:Bool)(hv:decide (ZK c x n<0)=b): ∃D,Zdl [Zt n G R,unT n c,.bool b]=some D∧Zd n (k+224) x D:=by
 cases b with
 | true=>
  obtain⟨G1,R1,e1,z1⟩:=ZhL (top:=-1) hn (by omega) h4 z s (by unfold Bd;decide) (by have:=of_decide_eq_true hv;omega)
  exact⟨_,Zro (.inr ⟨G,R,rfl⟩) (fun h=>by cases h) (Zs1 e1),z1.told (by omega)⟩
 | false=>
  obtain⟨G1,R1,e1,z1⟩:=ZhL (c:=fun k=>-(c k)) (top:=0) hn (by omega) h4 z s.neg (by unfold Bd;decide) (by have:=of_decide_eq_false hv;rw[Zfu];omega)
  exact⟨_,Zro (.inr ⟨G,R,rfl⟩) (fun h=>by cases h) (Ztm (b:=400) (by omega) (by decide) (by decide) (s.all (by decide) (by decide)) e1),z1.told (by omega)⟩
def ClZ(n:Nat)(c:Nat→Int)(t:T): Prop:=t=unT n c∨t=smT n c∨∃d,0<d∧Bd 3 d∧t=evT n c d
theorem Zr7{Cl:T}(hn:n≤3)(s:Sc n 31 341 c)(hC:ClZ n c Cl): ∃hb:Int→Bool,(∀x v,ZcJ [ZB n c,Zac n x]=some (.int v)→Zc9 [Cl,Zac n x]=some (.bool (hb v)))∧∀{k:Nat} {M:Int} {G:Nat→Nat→Option Int} {R:Nat→Int×Int} {x:Nat→Int},k≤3800→400≤k→Zs n k M G R x→∃D,Zdl [Zt n G R,Cl,.bool (hb (ZK c x n))]=some D∧Zd n (k+224) x D:=by
 rcases hC with rfl | rfl | ⟨d,hd0,bd,rfl⟩
 ·exact⟨fun v=>decide (v<0),fun x v h=>ZwC h,fun h1 h2 z=>Zyf hn h1 h2 z s _ rfl⟩
 ·refine⟨fun v=>decide (v=0),fun x v h=>ZwD h,fun {k M G R x} h1 h2 z=>?_⟩
  by_cases q:ZK c x n=0
  ·obtain⟨D,e1,z1⟩:=Zzu hn h1 h2 z s q
   exact⟨D,by rw[show(fun v:Int=>decide (v=0)) (ZK c x n)=true from decide_eq_true q];exact Zrq e1,z1⟩
  ·obtain⟨D,e1,z1⟩:=ZwK hn h1 h2 z s q
   exact⟨D,by rw[show(fun v:Int=>decide (v=0)) (ZK c x n)=false from decide_eq_false q];exact Zrq e1,z1⟩
 ·have hz:∀v:Int,v.fmod d=0↔d ∣ v:=fun v=>by
   rw[Int.fmod_eq_emod_of_nonneg _ (by omega)]
   exact⟨Int.dvd_of_emod_eq_zero,Int.emod_eq_zero_of_dvd⟩
  refine⟨fun v=>decide (v.fmod d=0),fun x v h=>ZwE hd0 h,fun {k M G R x} h1 h2 z=>?_⟩
  by_cases q:d ∣ ZK c x n
  ·obtain⟨D,e1,z1⟩:=Zr6 hn h1 h2 z ⟨s.a,s.z.mono (by decide)⟩ hd0 bd q
   exact⟨D,by rw[show(fun v:Int=>decide (v.fmod d=0)) (ZK c x n)=true from decide_eq_true ((hz _).mpr q)];exact Zrs e1,z1⟩
  ·obtain⟨D,e1,z1⟩:=ZuR hn h1 h2 z s hd0 bd q
   exact⟨D,by rw[show(fun v:Int=>decide (v.fmod d=0)) (ZK c x n)=false from decide_eq_false (fun h=>q ((hz _).mp h))];exact Zrs e1,z1⟩
end
end L
open PySem PySem.W PyProof.Rows PM TM My
namespace L
open PySem PySem.W PyProof.Rows PM TM My
variable {C:Nat→Nat→Int} {m:Nat}
section
variable {n k b e f X:Nat} {M:Int} {G:Nat→Nat→Option Int} {R:Nat→Int×Int} {c x:Nat→Int} {d u v:Int} {s:Sp} {q:Int×Int}
theorem Zsk(i:Nat): Sc n 31 f (ZP i):=⟨fun t _=>bd_un.mono (by decide),by rw[ZiF];exact ZaI⟩
theorem Zyg: Sc n 31 f (fun _=>0):=⟨fun _ _=>ZaI,ZaI⟩
theorem Sc.dif{i j:Nat}(h1:Sc n 31 f (ZcF C i))(h2:Sc n 31 f (ZcF C j)): Sc n 32 (f+1) (dC C i j):=⟨fun t ht=>(h1.a t ht).sub (h2.a t ht),h1.z.sub h2.z⟩
theorem ZAx(hG:GB k n G)(hC:∀i,i<m→Sc n 31 f (C i))(hf:f+1≤k+32): GB (k+33+n) m (rcG n G C):=fun i j hi hj y e0=>by
 have fl:∀i,i<m+1→Sc n 31 f (ZcF C i):=fun i hi=>by
  cases i with
  | zero=>exact Zyg
  | succ i=>exact hC i (by omega)
 exact(Zfx hG ((fl i hi).dif (fl j hj)) hf y e0).mono (by omega)
theorem ZAy(hC:∀i,i<m→Sc n 31 f (C i))(h1:31≤b)(h2:f≤b): CB b n m C:=fun i hi=>(hC i hi).all h1 h2
theorem ZqG{K:Nat}{M2:Int}(hn:n≤20)(hm:m≤20)(hk:k≤6500)(h4:400≤k)(z:Zs n k M G R x)(hC:∀i,i<m→Sc n 31 341 (C i))(hM:0<M2)(bM:Bd K M2)(hK:k+33+n≤K)(hK2:K+2*m+4≤7000)(hR:∀t,t<m→RB M2 K (rcR n R C t)): ∃G2 R2,ZcN [Zt n G R,Za7 n m C]=some (Zt m G2 R2)∧Zs m (K+3*m+7) M2 G2 R2 fun t=>ZK (C t) x n:=by
 have zn:Zs m K M2 (rcG n G C) (rcR n R C) fun t=>ZK (C t) x n:=⟨hM,bM,Zsn,fun i j hi hj y e0=>(ZAx z.bG hC (by omega) i j hi hj y e0).mono hK,hR,Zrk z.ok z.li⟩
 obtain⟨G2,R2,e1,z2⟩:=Zd0 hm hK2 zn
 exact⟨G2,R2,Pk.eq (ZpC (b:=k) (by omega) (by omega) (by omega) (by omega) z.bG z.rbd z.ok (ZAy hC (by omega) (by omega)) (Zk e1 rfl)),z2⟩
theorem Zs.congr{y:Nat→Int}(z:Zs n k M G R x)(h:∀t,t<n→y t=x t): Zs n k M G R y:=⟨z.hM,z.bM,z.hd,z.bG,z.hR,ZpA z.li h⟩
theorem ZAz(hn:n≤3)(hk:k≤3800)(h4:400≤k)(z:Zs n k M G R x)(hX:X<n)(s:Sc n 31 341 c): ∃D,Zb3 [Zt n G R,.tup [.str (Str.ofString "set"),.int ((X:Int)+1),ZB n c]]=some D∧Zd n (k+60) (Zbk x X (ZK c x n)) D:=by
 obtain⟨u,u1,u2,u3⟩:=ZfG z (e:=31) (by decide) s (by omega)
 obtain⟨G2,R2,e1,z2⟩:=ZqG (C:=ZdN X c) (m:=n) (K:=k+33+n) (M2:=M*u) (by omega) (by omega) (by omega) h4 z (fun i _=>by unfold ZdN;split;exact s;exact Zsk _) (Int.mul_pos z.hM u1) ((z.bM.mul u2).mono (by omega)) (Zz10 _) (by omega) (fun t ht=>by
  unfold rcR ZdN
  split
  ·exact u3.mono (by omega)
  ·rw[Zm3 z.ok (by omega) (by omega),Nat.add_sub_cancel]
   exact(z.hR t ht).up (Int.dvd_mul_right _ _) (by omega))
 refine⟨_,Zt6 (by omega) hX e1,(z2.congr fun t ht=>?_).told (by omega)⟩
 show Zbk x X (ZK c x n) t=ZK (ZdN X c t) x n
 unfold Zbk ZdN
 split
 ·rfl
 ·rw[Zij (by omega),if_pos (by omega),Nat.add_sub_cancel]
theorem Zyh(hG:GB k n G)(bs:SBd k s): GB k n (ZdH (Zdm G (X+1)) (X+1) s):=fun i j hi hj y e0=>by
 unfold ZdH Zbi at e0
 split at e0
 ·obtain⟨w,h1,rfl⟩:=Zz1.mp e0
  have:=bs.1 w h1
  unfold Bd at *;omega
 ·split at e0
  ·exact bs.2 y e0
  ·unfold Zdm at e0
   split at e0
   ·split at e0
    ·cases e0;exact ZaI
    ·cases e0
   ·split at e0
    ·cases e0
    ·exact hG i j hi hj y e0
theorem Zny(hn:n≤3)(hk:k≤3800)(h4:400≤k)(z:Zs n k M G R x)(hX:X<n)(u1:0<u)(u2:Bd 31 u)(hq:RB (M*u) (k+36) q)(bs:SBd (k+36) s)(vs:InS s v)(vq:Z6 q v): ∃D,ZdA [Zt n G R,.int ((X:Int)+1),spT s,ZL q]=some D∧Zd n (k+60) (Zbk x X v) D:=by
 have zn:Zs n (k+36) (M*u) (ZdH (Zdm G (X+1)) (X+1) s) (ZeT R X q) (Zbk x X v):=⟨Int.mul_pos z.hM u1,(z.bM.mul u2).mono (by omega),Zze z.hd,Zyh (fun i j hi hj y e0=>(z.bG i j hi hj y e0).mono (by omega)) bs,fun t ht=>by
  unfold ZeT
  split
  ·exact hq
  ·exact(z.hR t ht).up (Int.dvd_mul_right _ _) (by omega),Zvv z.li vs vq⟩
 obtain⟨G2,R2,e1,z2⟩:=Zd0 (by omega) (by omega) zn
 exact⟨_,Pk.eq (ZxP (b:=k+36) hX (by omega) (by omega) (by omega) bs (Zk e1 rfl)),z2.told (by omega)⟩
theorem ZAA(hn:n≤3)(hk:k≤3800)(h4:400≤k)(z:Zs n k M G R x)(hX:X<n)(bs:SBd 400 s)(vs:InS s v): ∃D,Zb3 [Zt n G R,.tup [.str (Str.ofString "any"),.int ((X:Int)+1),oT s.1,oT s.2]]=some D∧Zd n (k+60) (Zbk x X v) D:=by
 obtain⟨D,e1,z1⟩:=Zny (u:=1) (q:=(1,0)) (s:=s) hn hk h4 z hX (by decide) (ZbN (by decide)) ⟨.inr ⟨by decide,by decide,by decide⟩,.inr (Int.one_dvd _),ZaI⟩ ⟨fun y h=>(bs.1 y h).mono (by omega),fun y h=>(bs.2 y h).mono (by omega)⟩ vs ⟨fun h=>absurd h (by decide),fun _=>Int.emod_one _⟩
 exact⟨D,Zt7 e1,z1⟩
theorem Zr8(z:Zs n k M G R x)(s:Sc n 31 341 c)(hk:400≤k): SBd (k+32+n) (Zdp n G c)∧InS (Zdp n G c) (ZK c x n):=by
 refine⟨⟨fun y h=>?_,fun y h=>(Zfx z.bG s (by omega) y h).mono (by omega)⟩,fun y h=>?_,fun y h=>ZeO z.li h⟩
 ·obtain⟨w,h1,rfl⟩:=Zz1.mp h
  have:=Zfx z.bG s.neg (by omega) w h1
  rw[Int.mul_neg,Int.mul_one]
  exact(ZfO this).mono (by omega)
 ·obtain⟨w,h1,rfl⟩:=Zz1.mp h
  have:=ZeO z.li h1
  rw[Zfu]at this
  omega
theorem Zzv(hd:0<d)(op:RestOk q)(h:Z6 q v): Z6 (rpI q d) (v.fdiv d):=by
 have fe:∀x:Int,x.fdiv d=x / d:=fun x=>Int.fdiv_eq_ediv_of_nonneg _ (by omega)
 unfold rpI
 split
 ·rename_i c0
  rw[Int.fmod_eq_emod_of_nonneg _ (by omega)]at c0
  obtain⟨a,ea⟩:=Int.dvd_of_emod_eq_zero c0
  obtain⟨j,ej⟩:=(ZaW op.nn v).mp h
  have p0:=op.nn
  rw[fe,fe,fe]
  refine(Zcg (Int.ediv_nonneg p0 (by omega)) _).mpr ?_
  have e1:q.1 / d=a:=by rw[ea];exact Int.mul_ediv_cancel_left _ (by omega)
  have e3:v / d=q.2 / d+a*j:=by
   have:v=q.2+d*(a*j):=by rw[←Int.mul_assoc,←ea,←ej];omega
   rw[this];exact Int.add_mul_ediv_left _ _ (by omega)
  rw[e1,e3,show q.2 / d+a*j-q.2 / d=a*j by omega]
  exact Int.dvd_mul_right _ _
 ·exact⟨fun h=>absurd h (by decide),fun _=>Int.emod_one _⟩
theorem Zzw(hd:0<d)(op:RestOk q)(h:Z6 q v): Z6 (rrI q d) (v.fmod d):=by
 have g1:((Int.gcd q.1 d:Nat):Int) ∣ q.1:=Int.gcd_dvd_left ..
 have g2:((Int.gcd q.1 d:Nat):Int) ∣ d:=Int.gcd_dvd_right ..
 have hv:=(ZaW op.nn v).mp h
 have fm:d ∣ v.fmod d-v:=by
  rw[Int.fmod_eq_emod_of_nonneg _ (by omega)]
  have:=Int.mul_ediv_add_emod v d
  exact⟨-(v / d),by rw[Int.mul_neg];omega⟩
 unfold rrI
 split
 ·rename_i c0
  have dq:d ∣ q.1:=by rw[c0]at g1;exact g1
  have e0:v.fmod d=q.2.fmod d:=by
   rw[Int.fmod_eq_emod_of_nonneg _ (by omega),Int.fmod_eq_emod_of_nonneg _ (by omega)]
   exact Int.emod_eq_emod_iff_emod_sub_eq_zero.mpr (Int.emod_eq_zero_of_dvd (Int.dvd_trans dq hv))
  exact⟨fun _=>e0,fun h=>absurd h (show ¬(0:Int)<0 by decide)⟩
 ·refine(Zcg (by omega) _).mpr ?_
  have:=Int.dvd_add (Int.dvd_trans g2 fm) (Int.dvd_trans g1 hv)
  rwa [show v.fmod d-v+(v-q.2)=v.fmod d-q.2 by omega]at this
theorem Zzx(hd:0<d)(h:InS s v): InS (srI s d) (v.fmod d):=by
 have fe:∀x:Int,x.fdiv d=x / d:=fun x=>Int.fdiv_eq_ediv_of_nonneg _ (by omega)
 have fm:∀x:Int,x.fmod d=x % d:=fun x=>Int.fmod_eq_emod_of_nonneg _ (by omega)
 have w0:=Int.emod_nonneg v (show d≠0 by omega)
 have w1:=Int.emod_lt_of_pos v hd
 have wide:InS (some 0,some (d-1)) (v.fmod d):=⟨fun l e0=>by cases e0;rw[fm];exact w0,fun l e0=>by cases e0;rw[fm];omega⟩
 unfold srI
 split
 ·rename_i l t e1 e2
  split
  ·rename_i c0
   rw[fe,fe]at c0
   have h1:=h.1 l e1
   have h2:=h.2 t e2
   have a1:=Int.ediv_le_ediv hd h1
   have a2:=Int.ediv_le_ediv hd h2
   have m1:=Int.mul_ediv_add_emod v d
   have m2:=Int.mul_ediv_add_emod l d
   have m3:=Int.mul_ediv_add_emod t d
   have e3:v / d=l / d:=by omega
   have e4:t / d=l / d:=by omega
   rw[e3]at m1
   rw[e4]at m3
   exact⟨fun y e0=>by cases e0;rw[fm,fm];omega,fun y e0=>by cases e0;rw[fm,fm];omega⟩
  ·exact wide
 ·exact wide
theorem Zzy(hn:n≤3)(hk:k≤3800)(h4:400≤k)(z:Zs n k M G R x)(hX:X<n)(s:Sc n 31 341 c)(hd0:0<d)(bd:Bd 140 d): ∃D,Zb3 [Zt n G R,.tup [.str (Str.ofString "part"),.int ((X:Int)+1),ZB n c,.int d]]=some D∧Zd n (k+60) (Zbk x X ((ZK c x n).fdiv d)) D:=by
 obtain⟨u,u1,u2,u3⟩:=ZfG z (e:=31) (by decide) s (by omega)
 obtain⟨sb,si⟩:=Zr8 z s h4
 have pu:=Int.mul_pos z.hM u1
 have bu:=(z.bM.mul u2)
 have ur:=u3.bd2 pu bu (by omega)
 have zb:=ZAs (d:=d) (i:=k+31+n) (by omega) hd0 u3.1 ur.1 ur.2
 have s2:Sc n 31 342 c:=⟨s.a,s.z.mono (by decide)⟩
 obtain⟨D,e1,z1⟩:=Zny (u:=u) (q:=rpI (Zap c R n) d) (s:=((Zdp n G c).1.map fun x=>x.fdiv d,(Zdp n G c).2.map fun x=>x.fdiv d)) (v:=(ZK c x n).fdiv d) hn hk h4 z hX u1 u2 ⟨ZAr hd0 u3.1,by
  unfold rpI
  split
  ·rename_i c0
   rw[ZcL]
   rcases u3.2.1 with h | h
   ·left;rw[h];exact Int.zero_fdiv d
   ·right
    rw[Int.fmod_eq_emod_of_nonneg _ (by omega)]at c0
    rw[Int.fdiv_eq_ediv_of_nonneg _ (by omega)]
    obtain⟨a,ea⟩:=Int.dvd_of_emod_eq_zero c0
    rw[ea,Int.mul_ediv_cancel_left _ (by omega)]
    rw[ea]at h
    exact Int.dvd_trans (Int.dvd_mul_left _ _) h
  ·exact .inr (Int.one_dvd _),zb.2.mono (by omega)⟩ ⟨fun y h=>by
   obtain⟨w,hw,rfl⟩:=Zz1.mp h
   exact(Zh9 hd0 (sb.1 w hw)).mono (by omega),fun y h=>by
   obtain⟨w,hw,rfl⟩:=Zz1.mp h
   exact(Zh9 hd0 (sb.2 w hw)).mono (by omega)⟩ ⟨fun y h=>by
   obtain⟨w,hw,rfl⟩:=Zz1.mp h
   exact Zmf (si.1 w hw) hd0,fun y h=>by
   obtain⟨w,hw,rfl⟩:=Zz1.mp h
   exact Zmf (si.2 w hw) hd0⟩ (Zzv hd0 u3.1 (ZhX z.ok z.li.2))
 have bk:=s.all (b:=k) (by omega) (by omega)
 have hl:=Zmd (n:=n) (b:=k) (R:=R) (by omega) (by omega) (by omega) z.bG bk (fun y e0=>(Zfx z.bG s.neg (by omega) y e0).mono (by omega))
 have hg:=Ze6 (n:=n) (b:=k) (R:=R) (by omega) (by omega) (by omega) z.bG bk
 have hr:=Zhr hn (by omega) h4 z s2
 have sp:=Zn1 (s:=Zdp n G c) (i:=140) (by decide) (show d≠0 by omega) bd
 have rp:=Zs4 (q:=Zap c R n) (i:=140) (by decide) u3.1.nn hd0 bd
 exact⟨D,Zo7 (.inl rfl) hl hg hr ⟨fun _=>⟨sp,rp⟩,fun h=>absurd h (by decide +kernel)⟩ e1,z1⟩
theorem Zzz(hn:n≤3)(hk:k≤3800)(h4:400≤k)(z:Zs n k M G R x)(hX:X<n)(s:Sc n 31 341 c)(hd0:0<d)(bd:Bd 140 d): ∃D,Zb3 [Zt n G R,.tup [.str (Str.ofString "rest"),.int ((X:Int)+1),ZB n c,.int d]]=some D∧Zd n (k+60) (Zbk x X ((ZK c x n).fmod d)) D:=by
 obtain⟨u,u1,u2,u3⟩:=ZfG z (e:=31) (by decide) s (by omega)
 obtain⟨sb,si⟩:=Zr8 z s h4
 have pu:=Int.mul_pos z.hM u1
 have bu:=(z.bM.mul u2)
 have ur:=u3.bd2 pu bu (by omega)
 have zb:=ZAu (q:=Zap c R n) hd0 bd
 have s2:Sc n 31 342 c:=⟨s.a,s.z.mono (by decide)⟩
 obtain⟨D,e1,z1⟩:=Zny (u:=u) (q:=rrI (Zap c R n) d) (s:=srI (Zdp n G c) d) (v:=(ZK c x n).fmod d) hn hk h4 z hX u1 u2 ⟨ZAt hd0,by
  unfold rrI
  split
  ·exact .inl rfl
  ·rename_i c0
   rw[ZcL]
   rcases u3.2.1 with h | h
   ·rw[h,ZAp hd0]at c0;exact absurd rfl c0
   ·exact .inr (Int.dvd_trans (Int.gcd_dvd_left ..) h),zb.2.mono (by omega)⟩ (by
  have f:∀x:Int,Bd (k+36) (x.fmod d):=fun x=>by
   have f0:=Int.fmod_nonneg_of_pos x hd0
   have f1:=Int.fmod_lt_of_pos x hd0
   exact(show Bd 140 _ by unfold Bd at *;omega).mono (by omega)
  have g:Bd (k+36) (d-1):=(show Bd 140 _ by unfold Bd at *;omega).mono (by omega)
  unfold srI
  split
  ·split
   ·exact⟨fun x e=>by cases e;exact f _,fun x e=>by cases e;exact f _⟩
   ·exact⟨fun x e=>by cases e;exact ZaI,fun x e=>by cases e;exact g⟩
  ·exact⟨fun x e=>by cases e;exact ZaI,fun x e=>by cases e;exact g⟩) (Zzx hd0 si) (Zzw hd0 u3.1 (ZhX z.ok z.li.2))
 have bk:=s.all (b:=k) (by omega) (by omega)
 have hl:=Zmd (n:=n) (b:=k) (R:=R) (by omega) (by omega) (by omega) z.bG bk (fun y e0=>(Zfx z.bG s.neg (by omega) y e0).mono (by omega))
 have hg:=Ze6 (n:=n) (b:=k) (R:=R) (by omega) (by omega) (by omega) z.bG bk
 have hr:=Zhr hn (by omega) h4 z s2
 have sp:=Zsq (s:=Zdp n G c) (i:=140) (by decide) (show d≠0 by omega) bd
 have rp:=Zs5 (q:=Zap c R n) hd0 (ur.1.mono (by omega)) (bd.mono (by decide))
 exact⟨D,Zo7 (.inr rfl) hl hg hr ⟨fun h=>absurd h (by decide +kernel),fun _=>⟨sp,rp⟩⟩ e1,z1⟩
end
end L
open PySem PySem.W PyProof.Rows PM TM My
namespace L
open PySem PySem.W PyProof.Rows PM TM My
section
variable {n k b e f r X m:Nat} {M:Int} {G Gs:Nat→Nat→Option Int} {R Rs:Nat→Int×Int} {c x y:Nat→Int} {C:Nat→Nat→Int} {a:Int}
theorem ZAB(hn:n≤3)(hr:r≤2)(hk:k≤3800)(h4:400≤k)(z:Zs n (k+32) M G R x)(bM:Bd k M)(hC:∀i,i<r→Sc n 31 341 (C i)): ∃M2 G2 R2,ZcN [Zt n G R,Za7 n (n+r) (ZbE n C)]=some (Zt (n+r) G2 R2)∧Bd (k+63) M2∧Zs (n+r) (k+90) M2 G2 R2 fun t=>ZK (ZbE n C t) x n:=by
 have ex:∀i,∃u:Int,i<r→0<u∧Bd 31 u∧RB (M*u) (k+32+31+n) (Zap (C i) R n):=fun i=>by
  by_cases h:i<r
  ·obtain⟨u,h1⟩:=ZfG z (e:=31) (by decide) (hC i h) (by omega)
   exact⟨u,fun _=>h1⟩
  ·exact⟨0,fun q=>absurd q h⟩
 obtain⟨u,hu⟩:=Classical.axiomOfChoice ex
 generalize hU:(fun t=>(u t,(0:Int)))=U
 have uo:∀t,t<r→RestOk (U t):=fun t ht=>by rw[←hU];exact .inr ⟨(hu t ht).1,Int.le_refl 0,(hu t ht).1⟩
 have hp:=ZhJ uo r (Zz10 r)
 have hb:=ZhW (R:=U) (k:=31) (by decide) (fun t ht=>by rw[←hU];exact(hu t ht).2.1) r (Zz10 r)
 have bM2:Bd (k+63) (M*Zce U r):=(bM.mul hb).mono (by omega)
 obtain⟨G2,R2,e1,z2⟩:=ZqG (C:=ZbE n C) (m:=n+r) (K:=k+68) (M2:=M*Zce U r) (by omega) (by omega) (by omega) (by omega) z (fun i hi=>by
  unfold ZbE
  split
  ·exact Zsk _
  ·exact hC _ (by omega)) (Int.mul_pos z.hM hp) (bM2.mono (by omega)) (by omega) (by omega) (fun t ht=>by
  by_cases q:t<n
  ·rw[ZAn z.ok q]
   exact(z.hR t q).up (Int.dvd_mul_right _ _) (by omega)
  ·obtain⟨v,rfl⟩:∃v,t=n+v:=⟨t-n,by omega⟩
   rw[Zzn]
   have hv:v<r:=by omega
   have dv:u v ∣ Zce U r:=by
    have:=ZhK (R:=U) r v hv
    rw[←hU]at this ⊢
    exact this.resolve_left (by have:=(hu v hv).1;show u v≠0;omega)
   exact(hu v hv).2.2.up (Int.mul_dvd_mul_left M dv) (by omega))
 exact⟨_,G2,R2,e1,bM2,z2.mono (by omega)⟩
structure Su(r:Nat)(G:Nat→Nat→Option Int)(R:Nat→Int×Int)(y:Nat→Int): Prop where
 d:∀i,i<r+1→G i i=some 0
 ok:∀t,t<r→RestOk (R t)
 g:GB 420 r G
 m:∀t,t<r→Bd 134 (R t).1
 q:∀t,t<r→Bd 420 (R t).2
 li:Zaw r G R y
theorem ZAC(hm:m=n+r)(hn:n≤3)(hr:r≤2)(hk:k≤3800)(h4:400≤k)(z:Zs m (k+90) M G R y)(bM:Bd (k+63) M)(s:Su (r+1) Gs Rs fun i=>y (n+i)): ∃M3 G3 R3,Zfg [Zt (m+1) (Zbx m G) (ZbW m R),.lst (tab (r+1) fun i=>.int (((n+i:Nat):Int)+1)),Zt (r+1) Gs Rs]=some (Zt (m+1) G3 R3)∧Zs (m+1) (k+466) M3 G3 R3 y:=by
 have hp:∀i,i<r+1→n+i<m+1:=fun i hi=>by omega
 have inj:∀i j,i<r+1→j<r+1→n+i=n+j→i=j:=fun i j _ _ h=>by omega
 have bR':∀t,t<r+1→RBd (k+90) (Rs t):=fun t ht=>⟨(s.m t ht).mono (by omega),(s.q t ht).mono (by omega)⟩
 have wRB:=Zx7 (k:=k+90) (by omega) z.hR
 have wok:∀t,t<m+1→RestOk (ZbW m R t):=fun t _=>(wRB t).1
 have wb:∀t,t<m+1→RBd (k+90) (ZbW m R t):=fun t _=>(wRB t).bd2 z.hM z.bM (Zz10 _)
 obtain⟨D,e1,ρ,hl,hT⟩:=ZuK (N:=m+1) (L:=r+1) (b:=k+90) (p:=fun i=>n+i) (Γ:=Zbx m G) (G':=Gs) (by omega) (by omega) (by omega) hp inj wok s.ok wb bR'
 have hpm:=ZhJ s.ok (r+1) (Zz10 _)
 have hpb:=ZhW (k:=134) (by decide) s.m (r+1) (Zz10 _)
 have pM:=Int.mul_pos z.hM hpm
 have bM3:Bd (k+466) (M*Zce Rs (r+1)):=(bM.mul hpb).mono (by omega)
 have key:Zaw (m+1) (Zbx m G) (ZbW m R) y:=Zvx z.li fun _ _=>rfl
 have has:=Zwz (y:=y) (z:=fun i=>y (n+i)) hl (fun i _=>rfl) hp key.2 s.li.2
 rcases hT with⟨rfl,i,hi,hnone⟩ | ⟨rfl,hsome⟩
 ·obtain⟨q,eq,_⟩:=has i hi
  rw[hnone]at eq
  cases eq
 ·refine⟨_,_,_,e1,pM,bM3,Zx5 inj hp (Zzm z.hd) s.d,?_,fun t ht=>?_,ZuL (z:=fun i=>y (n+i)) (fun i _=>rfl) key s.li,fun t ht=>?_⟩
  ·refine Zjz (fun Δ=>GB (k+466) (m+1) Δ) (fun Δ i j hi hj hΔ a b ha hb y e=>?_) (fun i j hi hj y e=>((Zx8 z.bG:GB (k+90) (m+1) _) i j hi hj y e).mono (by omega)) (r+1+1) (Zz10 _)
   unfold Zbi at e
   split at e
   ·rename_i c
    refine ZjT (hΔ _ _ (c.1▸ha) (c.2▸hb)) (fun z ez=>?_) y e
    exact(s.g i j hi hj z ez).mono (by omega)
   ·exact hΔ a b ha hb y e
  ·obtain⟨q,eq,_⟩:=has t ht
   show RB _ _ ((ρ t).getD (1,0))
   rw[eq]
   show RB _ _ q
   by_cases c:∃j,j<r+1∧n+j=t
   ·obtain⟨j,hj,rfl⟩:=c
    have hm2:=hl.2 j hj
    rw[eq]at hm2
    have hq:RB (Zce Rs (r+1)) (k+90) (Rs j):=⟨s.ok j hj,ZhK (r+1) j hj,(bR' j hj).2⟩
    rcases ZrX (k:=k+90) (by omega) (wok _ ht) (s.ok j hj) (wb _ ht) (bR' j hj) hm2 q rfl with rfl | rfl | ⟨z1,z2,e0⟩
    ·exact(wRB _).up (Int.dvd_mul_right _ _) (by omega)
    ·exact hq.up (Int.dvd_mul_left _ _) (by omega)
    ·have dv:q.1 ∣ M*Zce Rs (r+1):=by
      rw[e0]
      exact Int.coe_lcm_dvd (Int.dvd_trans ((wRB _).2.1.resolve_left z1) (Int.dvd_mul_right _ _)) (Int.dvd_trans (hq.2.1.resolve_left z2) (Int.dvd_mul_left _ _))
     refine⟨hm2.1,.inr dv,?_⟩
     have b2:=Znx pM bM3 (.inr dv)
     have n0:q.1≠0:=by rw[e0];intro h;exact(Int.lcm_ne_zero z1 z2) (by omega)
     rcases hm2.1 with g | ⟨_,g2,g3⟩
     ·exact absurd g n0
     ·unfold Bd at *;omega
   ·have:=hl.1 t ht fun j hj e=>c ⟨j,hj,e⟩
    rw[eq]at this
    cases this
    exact(wRB t).up (Int.dvd_mul_right _ _) (by omega)
  ·obtain⟨q,eq,hq⟩:=has t ht
   show Z6 ((ρ t).getD (1,0)) (y t)
   rw[eq]
   exact hq
theorem ZzA(hnm:n≤m)(hn:n≤3)(hm:m≤5)(hk:k≤6000)(h4:400≤k)(z:Zs (m+1) k M G R y): ∃G2 R2,ZcN [Zt (m+1) G R,Za7 (m+1) n fun t=>ZP (Zc8 n m X t)]=some (Zt n G2 R2)∧Zs n (k+16) M G2 R2 fun t=>y (Zc8 n m X t-1):=by
 have ho:=ZAo (x:=X) hnm
 have eG:=ZAg z.hd ho
 have eR:=Zzd z.ok ho
 have zn:Zs n k M (rcG (m+1) G fun t=>ZP (Zc8 n m X t)) (rcR (m+1) R fun t=>ZP (Zc8 n m X t)) fun t=>ZK (ZP (Zc8 n m X t)) y (m+1):=⟨z.hM,z.bM,Zsn,fun i j hi hj w e0=>by rw[eG i j hi hj]at e0;exact z.bG _ _ (ho.lt i hi) (ho.lt j hj) w e0,fun t ht=>by rw[eR t ht];have:=ho t ht;exact z.hR _ (by omega),Zrk z.ok z.li⟩
 obtain⟨G2,R2,e1,z2⟩:=Zd0 (by omega) (by omega) zn
 refine⟨G2,R2,Pk.eq (ZpC (b:=k) (by omega) (by omega) (by omega) (by omega) z.bG z.rbd z.ok (fun i hi k' hk'=>bd_un.mono (by omega)) (Zk e1 rfl)),(z2.mono (by omega)).congr fun t ht=>?_⟩
 have:=ho t ht
 rw[Zij this.1,if_pos this.2]
theorem ZuS(hX:X<n)(hn:n≤3)(hr:r≤2)(hk:k≤3800)(h4:400≤k)(z:Zs n (k+16) M G R x)(bM:Bd k M)(hC:∀i,i<r→Sc n 31 341 (C i))(s:Su (r+1) Gs Rs fun i=>if i<r then ZK (C i) x n else a): ∃D,Zhm [Zt n G R,.int ((X:Int)+1),Za7 n r C,Zt (r+1) Gs Rs]=some D∧Zd n (k+510) (Zbk x X a) D:=by
 obtain⟨G1,R1,e1,z1⟩:=Zd0 (by omega) (by omega) z
 obtain⟨M2,G2,R2,e2,b2,z2⟩:=ZAB hn hr hk h4 (z1.mono (by omega)) bM hC
 have z2':Zs (n+r) (k+90) M2 G2 R2 fun t=>if t<n then x t else if t<n+r then ZK (C (t-n)) x n else a:=z2.congr fun t ht=>by
  by_cases q:t<n
  ·rw[if_pos q,Zx6 q]
  ·rw[if_neg q,if_pos ht]
   obtain⟨v,rfl⟩:∃v,t=n+v:=⟨t-n,by omega⟩
   rw[ZwA,Nat.add_sub_cancel_left]
 have s':Su (r+1) Gs Rs fun i=>(fun t=>if t<n then x t else if t<n+r then ZK (C (t-n)) x n else a) (n+i):=⟨s.d,s.ok,s.g,s.m,s.q,ZpA s.li fun i hi=>by
  show(if n+i<n then _ else if n+i<n+r then _ else _)=_
  rw[if_neg (by omega),Nat.add_sub_cancel_left]
  by_cases q:i<r
  ·rw[if_pos (by omega),if_pos q]
  ·rw[if_neg (by omega),if_neg q]⟩
 obtain⟨M3,G3,R3,e3,z3⟩:=ZAC rfl hn hr hk h4 z2' b2 s'
 obtain⟨G4,R4,e4,z4⟩:=Zd0 (by omega) (by omega) z3
 obtain⟨G5,R5,e5,z5⟩:=ZzA (n:=n) (m:=n+r) (X:=X) (by omega) hn (by omega) (by omega) (by omega) z4
 refine⟨_,Zt4 (m:=n+r) rfl hX (by omega) (by omega) ⟨_,_,_,rfl⟩ e1 e2 e3 e4 e5,(z5.congr fun t ht=>?_).told (by omega)⟩
 show Zbk x X a t=_
 unfold Zbk Zc8
 by_cases q:t=X
 ·rw[if_pos q,if_pos q]
  show _=(if n+r+1-1<n then _ else if n+r+1-1<n+r then _ else _)
  rw[if_neg (by omega),if_neg (by omega)]
 ·rw[if_neg q,if_neg q]
  show _=(if t+1-1<n then _ else _)
  rw[if_pos (by omega),Nat.add_sub_cancel]
end
end L
open PySem PySem.W PyProof.Rows PM TM My
namespace L
open PySem PySem.W PyProof.Rows PM TM My
section
variable {n k:Nat} {M:Int} {G:Nat→Nat→Option Int} {R:Nat→Int×Int} {x x':Nat→Int} {A S:T}
inductive Ac(n:Nat)(x:Nat→Int): T→T→(Nat→Int)→Prop where
 | go {S:T}:Ac n x (.tup [.str (Str.ofString "go")]) S x
 | say {S Cl:T}:Ac n x (.tup [.str (Str.ofString "say"),Cl]) S x
 | when {S Cl:T} {c:Nat→Int} {b:Bool}:Sc n 31 341 c→ClZ n c Cl→ZcJ [ZB n c,Zac n x]=some (.int (ZK c x n))→Zc9 [Cl,Zac n x]=some (.bool b)→Ac n x (.tup [.str (Str.ofString "when"),Cl,.bool b]) S x
 | set {S:T} {X:Nat} {c:Nat→Int}:X<n→Sc n 31 341 c→Ac n x (.tup [.str (Str.ofString "set"),.int ((X:Int)+1),ZB n c]) S (Zbk x X (ZK c x n))
 | part {S:T} {X:Nat} {c:Nat→Int} {d:Int}:X<n→Sc n 31 341 c→0<d→Bd 140 d→Ac n x (.tup [.str (Str.ofString "part"),.int ((X:Int)+1),ZB n c,.int d]) S (Zbk x X ((ZK c x n).fdiv d))
 | rest {S:T} {X:Nat} {c:Nat→Int} {d:Int}:X<n→Sc n 31 341 c→0<d→Bd 140 d→Ac n x (.tup [.str (Str.ofString "rest"),.int ((X:Int)+1),ZB n c,.int d]) S (Zbk x X ((ZK c x n).fmod d))
 | any {S:T} {X:Nat} {s:Sp} {v:Int}:X<n→SBd 400 s→InS s v→Ac n x (.tup [.str (Str.ofString "any"),.int ((X:Int)+1),oT s.1,oT s.2]) S (Zbk x X v)
 | call {S:T} {X r:Nat} {C:Nat→Nat→Int} {Gs:Nat→Nat→Option Int} {Rs:Nat→Int×Int} {a:Int}:X<n→r≤2→(∀i,i<r→Sc n 31 341 (C i))→Z5 S (.int 1)=some (Zt (r+1) Gs Rs)→Su (r+1) Gs Rs (fun i=>if i<r then ZK (C i) x n else a)→Ac n x (.tup [.str (Str.ofString "call"),.int ((X:Int)+1),.int 1,Za7 n r C]) S (Zbk x X a)
theorem Zd.mono{D:T}{b:Nat}(z:Zd n k x D)(h:k≤b): Zd n b x D:=by
 obtain⟨M,G,R,e,z⟩:=z
 exact⟨M,G,R,e,z.mono h⟩
theorem ZvB(hn:n≤3)(hk:k≤3700)(h4:400≤k)(z:Zs n k M G R x)(a:Ac n x A S x'): ∃D,Zbr [Zt n G R,A,S]=some D∧Zd n (k+510) x' D:=by
 obtain⟨G1,R1,e1,z1⟩:=Zd0 (by omega) (by omega) z
 cases a with
 | go=>exact⟨_,ZuN e1,z1.told (by omega)⟩
 | say=>exact⟨_,Zt8 e1,z1.told (by omega)⟩
 | when s hC hv hb=>
  obtain⟨f,h1,h2⟩:=Zr7 hn s hC
  obtain⟨D,e2,z2⟩:=h2 (by omega) (by omega) z1
  have:=h1 x _ hv
  rw[hb]at this
  cases this
  exact⟨D,ZtK e1 e2,z2.mono (by omega)⟩
 | set hX s=>
  obtain⟨D,e2,z2⟩:=ZAz hn (by omega) (by omega) z1 hX s
  exact⟨D,Zt9 e1 e2,z2.mono (by omega)⟩
 | part hX s hd bd=>
  obtain⟨D,e2,z2⟩:=Zzy hn (by omega) (by omega) z1 hX s hd bd
  exact⟨D,ZtH e1 e2,z2.mono (by omega)⟩
 | rest hX s hd bd=>
  obtain⟨D,e2,z2⟩:=Zzz hn (by omega) (by omega) z1 hX s hd bd
  exact⟨D,ZtI e1 e2,z2.mono (by omega)⟩
 | any hX bs vs=>
  obtain⟨D,e2,z2⟩:=ZAA hn (by omega) (by omega) z1 hX bs vs
  exact⟨D,Zua e1 e2,z2.mono (by omega)⟩
 | call hX hr hC hS s=>
  obtain⟨D,e2,z2⟩:=ZuS hX hn hr (by omega) h4 (z1.mono (by omega)) z.bM hC s
  exact⟨D,ZtL hS e1 e2,z2⟩
end
end L
open PySem PySem.W PyProof.Rows PM TM My
namespace L
open PySem PySem.W PyProof.Rows PM TM My
@[irreducible] noncomputable def P60: Int:=10 ^ Int.toNat 60
@[irreducible] noncomputable def P38: Int:=10 ^ Int.toNat 38
theorem Zry{Q:T→Prop}(h:Q (.int P60)): Pk (ZcS (.int 10) (.int 60)) Q:=⟨_,by simp only[ZcS];rw[if_pos (by decide +kernel)],by unfold P60 at h;exact h⟩
theorem Zsl{Q:T→Prop}(h:Q (.int P38)): Pk (ZcS (.int 10) (.int 38)) Q:=⟨_,by simp only[ZcS];rw[if_pos (by decide +kernel)],by unfold P38 at h;exact h⟩
theorem ZzB{v:Int}(h:Zal v<P60*P38): Bd 326 v:=by
 have e:P60*P38≤((2 ^ 326:Nat):Int):=by unfold P60 P38;decide +kernel
 unfold Zal at h
 unfold Bd
 generalize (2:Nat) ^ 326=N at *
 split at h <;> omega
theorem Zr9: mulOk P60 P38=true:=by unfold P60 P38;decide +kernel
section
variable {n b f:Nat} {c x:Nat→Int} {ns:List Int} {kk:Int}
theorem SumB.sc(h:SumB n c 1000000000): Sc n 31 140 c:=⟨fun i hi=>by have:=h.2 (i+1) (by omega) (by omega);unfold Bd;omega,h.1⟩
theorem Sc.up{e f g:Nat}(s:Sc n e f c)(h:f≤g): Sc n e g c:=⟨s.a,s.z.mono h⟩
theorem Zm6(s:Sc n 31 f c)(bx:∀i,i<n→Bd b (x i))(hf:f≤b+31): ∀j,j≤n→Bd (b+31+j) (ZK c x j)
 | 0,_=>s.z.mono (by omega)
 | j+1,hj=>((Zm6 s bx hf j (by omega)).add ((((bx j (by omega)).mul (s.a j (by omega))).mono (show b+31≤b+31+j by omega)) |> fun q=>by rw[Int.mul_comm]at q;exact q))
theorem ZjW(hn:n≤3)(s:Sc n 31 341 c)(bx:∀i,i<n→Bd 380 (x i)): ZcJ [ZB n c,Zac n x]=some (.int (ZK c x n)):=Zwu (b:=400) (by omega) (by decide) (s.all (by decide) (by decide)) (fun i hi=>(bx i hi).mono (by decide))
theorem Zyi(hL:Lay ns)(hn:n≤3)(k0:0≤kk)(k9:kk≤100)(bx:∀i,i<n→Bd 380 (x i)): Pk (ZkO [scr ns,.int kk,Zac n x]) fun t=>∃c,Sc n 31 341 c∧ClZ n c t:=by
 unfold ZkO Zf9 Zac
 walk_at "z"
 refine(ZnN (n:=n) (kk:=kk) k0 (by omega) hL (by omega)).mono ?_
 rintro _ ⟨c0,rfl,hc⟩
 have s0:=hc.sc
 have hv:=ZjW hn (s0.up (show 140≤341 by decide)) bx
 obtain⟨z0,z1⟩:=Zb6 ns (kk+4) (show(0:Int)<90 by decide)
 have hpk:=ZbH (ns:=ns) (k:=kk+4) (many:=90) (by omega) (by omega) (by decide)
 generalize ZaR ns (kk+4) 90=wy at *
 walk_at "z"
 refine Zk hpk ?_
 refine ZdW (fun σ'=>σ' 4=some (.int wy)∧∃c,σ' 3=some (ZB n c)∧Sc n 31 341 c) ?_ ?_
 ·have hs:ZB n c0=.lst (tab (n+1) fun k=>.int (c0 k)):=rfl
  have stay:∀{σ:TL},σ 4=some (.int wy)→σ 3=some (ZB n c0)→σ 4=some (.int wy)∧∃c,σ 3=some (ZB n c)∧Sc n 31 341 c:=fun h1 h2=>⟨h1,c0,h2,s0.up (by decide)⟩
  by_cases q1:wy.fmod 5>0
  ·by_cases q2:Zal (ZK c0 x n)<P60*P38
   ·have bv:=ZzB q2
    walk_at "z"
    rw[hs]at hv ⊢
    walk_at "z"
    refine Zk hv ?_
    walk_at "z"
    refine Zry ?_
    walk_at "z"
    refine Zsl ?_
    walk_at "z"
    refine Zcb Zr9 ?_
    walk_at "z"
    refine Zk hv ?_
    walk_at "z"
    have w5:0≤wy.fmod 5∧wy.fmod 5<5:=⟨Int.fmod_nonneg_of_pos _ (by decide),Int.fmod_lt_of_pos _ (by decide)⟩
    generalize wy.fmod 5=pp at *
    refine ZlY (n:=n+1) (f:=fun k=>.int (c0 k)) (by walk_at "r") (by omega) (by omega) ?_
    rw[show Int.toNat 0=0 from rfl]
    refine⟨by walk_at "r",fun k=>if k=0 then c0 0-ZK c0 x n+pp-3 else c0 k,?_,fun i hi=>?_,?_⟩
    ·rw[show(ZB n fun k=>if k=0 then c0 0-ZK c0 x n+pp-3 else c0 k)=.lst (tab (n+1) fun k=>if k=0 then T.int (c0 0-ZK c0 x n+pp-3)else .int (c0 k))from congrArg T.lst (Za0 fun k _=>by show T.int (if k=0 then _ else _)=_;split <;> rfl)]
     walk_at "r"
    ·exact s0.a i hi
    ·have h1:Bd 327 (pp-3):=(show Bd 3 (pp-3)by unfold Bd;omega).mono (by decide)
     have h2:=(s0.z.mono (show 140≤326 by decide)).sub bv
     show Bd 341 (c0 0-ZK c0 x n+pp-3)
     rw[show c0 0-ZK c0 x n+pp-3=c0 0-ZK c0 x n+(pp-3)by omega]
     exact(h2.add h1).mono (by decide)
   ·walk_at "z"
    refine Zk hv ?_
    walk_at "z"
    refine Zry ?_
    walk_at "z"
    refine Zsl ?_
    walk_at "z"
    refine Zcb Zr9 ?_
    walk_at "z"
    exact stay (by walk_at "r") (by walk_at "r")
  ·walk_at "z"
   exact stay (by walk_at "r") (by walk_at "r")
 rintro σ1 ⟨e4,c,e3,sc⟩
 walk_at "z"
 refine Zcn (by decide) (Zfj (by decide) (by decide)) ?_
 walk_at "z"
 refine⟨fun q=>?_,fun q=>?_⟩
 ·walk_at "z"
  exact⟨c,sc,.inl rfl⟩
 walk_at "z"
 refine Zcn (by decide) (Zfj (by decide) (by decide)) ?_
 walk_at "z"
 refine⟨fun q=>?_,fun q=>?_⟩
 ·walk_at "z"
  exact⟨c,sc,.inr (.inl rfl)⟩
 walk_at "z"
 refine Zcn (by decide) (Zfj (by decide) (by decide)) ?_
 walk_at "z"
 have w2:0≤wy.fdiv 15∧wy.fdiv 15≤5:=by rw[Int.fdiv_eq_ediv_of_nonneg _ (by decide)];omega
 exact⟨c,sc,.inr (.inr ⟨1+wy.fdiv 15,by omega,(show Bd 3 (1+wy.fdiv 15)by unfold Bd;omega),rfl⟩)⟩
end
end L
open PySem PySem.W PyProof.Rows PM TM My
namespace L
open PySem PySem.W PyProof.Rows PM TM My
section
variable {n b:Nat} {x:Nat→Int} {ns:List Int} {kk v:Int} {s:Sp} {X:Nat}
theorem ZmG(ns:List Int)(k:Int): ∀c,Zcp ns k=some c→Bd 134 c∧0≤c:=fun c h=>by
 have h40:=ZjZ
 have:=Zqn ns _ h
 have e:(2:Nat) ^ 134=21778071482940061661655974875633165533184:=by decide
 exact⟨by unfold Bd;omega,this.1⟩
def SpL(s:Sp): Prop:=∀l h,s.1=some l→s.2=some h→l≤h
theorem ZzC(hL:Lay ns)(k0:0≤kk)(k9:kk≤100)(bv:Bd 134 v): Pk (ZlS [scr ns,.int kk,.int v]) fun t=>∃s:Sp,t=.tup [oT s.1,oT s.2]∧SBd 135 s∧SpL s:=by
 have s1:=Zmw (k:=kk) hL k0 (by omega)
 have s2:=Zmw (k:=kk+1) hL (by omega) (by omega)
 have b1:=ZmG ns kk
 have b2:=ZmG ns (kk+1)
 generalize Zcp ns kk=o1 at *
 generalize Zcp ns (kk+1)=o2 at *
 unfold ZlS Zhn
 walk_at "z"
 refine Zk s1 ?_
 walk_at "z"
 refine Zk s2 ?_
 have oi:∀a:Int,oT (some a)=.int a:=fun _=>rfl
 have on:oT none=.none:=rfl
 have n0:∀x,(none:Option Int)=some x→Bd 135 x:=fun x e=>by cases e
 cases o1 with
 | none=>
  cases o2 with
  | none=>
   simp only[oi,on]
   walk_at "z"
   exact⟨(none,none),rfl,⟨n0,n0⟩,fun l h e=>by cases e⟩
  | some b=>
   simp only[oi,on]
   walk_at "z"
   exact⟨(none,some (v+b)),rfl,⟨n0,fun x e=>by cases e;exact(bv.add (b2 b rfl).1)⟩,fun l h e=>by cases e⟩
 | some a=>
  cases o2 with
  | none=>
   simp only[oi,on]
   walk_at "z"
   exact⟨(some (v-a),none),rfl,⟨fun x e=>by cases e;exact(bv.sub (b1 a rfl).1),n0⟩,fun l h e e'=>by cases e'⟩
  | some b=>
   simp only[oi,on]
   walk_at "z"
   exact⟨(some (v-a),some (v+b)),rfl,⟨fun x e=>by cases e;exact(bv.sub (b1 a rfl).1),fun x e=>by cases e;exact(bv.add (b2 b rfl).1)⟩,fun l h e e'=>by cases e;cases e';have:=(b1 a rfl).2;have:=(b2 b rfl).2;omega⟩
theorem ZvC(hL:Lay ns)(k0:0≤kk)(k9:kk≤100)(bs:SBd 135 s)(hs:SpL s): ∃w,ZiL [scr ns,.int kk,.tup [oT s.1,oT s.2]]=some (.int w)∧InS s w∧Bd 140 w:=by
 have hn:=ZdR (k:=kk) hL k0 (by omega)
 have bn:Bd 134 (ZaF ns kk):=ZeE ns kk
 have an:=Zdg (ZaF ns kk)
 have ba:Bd 134 (Zal (ZaF ns kk)):=by unfold Zal;split;exact ZfO bn;exact bn
 generalize ZaF ns kk=u at *
 obtain⟨s1,s2⟩:=s
 have oi:∀a:Int,oT (some a)=.int a:=fun _=>rfl
 have on:oT none=.none:=rfl
 have key:Pk (ZiL [scr ns,.int kk,.tup [oT s1,oT s2]]) fun t=>∃w,t=.int w∧InS (s1,s2) w∧Bd 140 w:=by
  unfold ZiL Zgv
  cases s1 with
  | none=>
   cases s2 with
   | none=>
    simp only[oi,on]
    walk_at "z"
    refine Zk hn ?_
    exact⟨u,rfl,⟨fun l e=>(by cases e),fun l e=>(by cases e)⟩,bn.mono (by decide)⟩
   | some h=>
    simp only[oi,on]
    walk_at "z"
    refine Zk hn ?_
    walk_at "z"
    exact⟨h-Zal u,rfl,⟨fun l e=>(by cases e),fun l e=>by cases e;show h-Zal u≤h;omega⟩,((bs.2 h rfl).sub (ba.mono (by decide))).mono (by decide)⟩
  | some l=>
   cases s2 with
   | none=>
    simp only[oi,on]
    walk_at "z"
    refine Zk hn ?_
    walk_at "z"
    exact⟨l+Zal u,rfl,⟨fun y e=>by cases e;show l≤l+Zal u;omega,fun y e=>by cases e⟩,((bs.1 l rfl).add (ba.mono (by decide))).mono (by decide)⟩
   | some h=>
    have lh:=hs l h rfl rfl
    have p0:0<h-l+1:=by omega
    have f0:=Int.fmod_nonneg_of_pos (Zal u) p0
    have f1:=Int.fmod_lt_of_pos (Zal u) p0
    have bl:=bs.1 l rfl
    have bh:=bs.2 h rfl
    simp only[oi,on]
    walk_at "z"
    refine Zk hn ?_
    walk_at "z"
    refine⟨l+(Zal u).fmod (h-l+1),rfl,⟨fun y e=>by cases e;omega,fun y e=>by cases e;omega⟩,?_⟩
    exact(show Bd 136 (l+(Zal u).fmod (h-l+1))by unfold Bd at *;omega).mono (by decide)
 obtain⟨t,e,w,rfl,h1,h2⟩:=key
 exact⟨w,e,h1,h2⟩
theorem ZhY{c:Nat}(bx:∀t,t<n→Bd b (x t))(hb:b≤c)(bv:Bd c v): ∀t,t<n→Bd c (Zbk x X v t):=Zzr (fun t ht=>(bx t ht).mono hb) bv
theorem ZwL(hL:Lay ns)(hn:n≤3)(hX:X<n)(k0:0≤kk)(k9:kk≤90)(h1:134≤b)(h2:b≤346)(bx:∀i,i<n→Bd b (x i)): Pk (ZkI [scr ns,.int kk,Zac n x,.int ((X:Int)+1)]) fun t=>∃A x',t=.tup [A,Zac n x']∧(∀S,Ac n x A S x')∧∀i,i<n→Bd (b+34) (x' i):=by
 have hl:∀{Q:T→Prop},Q (.int n)→Pk (Zbc [Zac n x]) Q:=fun h=>by
  unfold Zac
  walk_at "z"
  exact h
 have hp:∀v,Zfi [Zac n x,.int ((X:Int)+1),.int v]=some (Zac n (Zbk x X v)):=fun v=>Zsj hX (by omega)
 have hv:∀c,Sc n 31 341 c→ZcJ [ZB n c,Zac n x]=some (.int (ZK c x n)):=fun c sc=>ZjW hn sc fun i hi=>(bx i hi).mono (by omega)
 obtain⟨p0,p1⟩:=Zb6 ns (kk+6) (show(0:Int)<6 by decide)
 have e6:=ZbH (ns:=ns) (k:=kk+6) (many:=6) (by omega) (by omega) (by decide)
 have e7:=ZbH (ns:=ns) (k:=kk+7) (many:=3) (by omega) (by omega) (by decide)
 have e1:=ZbH (ns:=ns) (k:=kk+1) (many:=5) (by omega) (by omega) (by decide)
 have n6:=ZdR (k:=kk+6) hL (by omega) (by omega)
 have b6:Bd 134 (ZaF ns (kk+6)):=ZeE ns (kk+6)
 have a6:=Zdg (ZaF ns (kk+6))
 have ba:Bd 134 (Zal (ZaF ns (kk+6))):=by unfold Zal;split;exact ZfO b6;exact b6
 have n4:=ZdR (k:=kk+4) hL (by omega) (by omega)
 have b4:Bd 134 (ZaF ns (kk+4)):=ZeE ns (kk+4)
 generalize ZaR ns (kk+6) 6=d6 at *
 generalize ZaR ns (kk+7) 3=w7 at *
 generalize ZaR ns (kk+1) 5=w1 at *
 generalize ZaF ns (kk+6)=u6 at *
 generalize ZaF ns (kk+4)=u4 at *
 unfold ZkI Zf1
 generalize hB:Zac n x=B at *
 walk_at "z"
 refine hl ?_
 walk_at "z"
 refine(ZnN (n:=n) (kk:=kk+2) (by omega) (by omega) hL (by omega)).mono ?_
 rintro _ ⟨c,rfl,hc⟩
 have sc:=hc.sc
 have s3:=sc.up (show 140≤341 by decide)
 have bv:=(Zm6 sc bx (by omega) n (Zz10 n)).mono (show b+31+n≤b+34 by omega)
 walk_at "z"
 refine Zk (hv c s3) ?_
 generalize hvv:ZK c x n=vv at *
 walk_at "z"
 refine Zk e6 ?_
 refine Zj4 ?_
 refine ZdW (fun σ'=>σ' 0=some (scr ns)∧σ' 1=some (.int kk)∧σ' 2=some B∧σ' 3=some (.int ((X:Int)+1))∧σ' 4=some (ZB n c)∧σ' 5=some (.int vv)∧∃d,σ' 6=some (.int d)∧0<d∧Bd 140 d) ?_ ?_
 ·walk_at "z"
  refine Zk e7 ?_
  walk_at "z"
  refine⟨fun q=>?_,fun q=>?_⟩
  ·walk_at "z"
   refine Zk n6 ?_
   walk_at "z"
   have hd:0<(if(if u6<0 then -u6 else u6)>1 then if u6<0 then -u6 else u6 else 1)∧Bd 140 (if(if u6<0 then -u6 else u6)>1 then if u6<0 then -u6 else u6 else 1):=by
    rw[show(if u6<0 then -u6 else u6)=Zal u6 from rfl]
    split
    ·exact⟨by omega,ba.mono (by decide)⟩
    ·exact⟨by decide,ZbN (by decide)⟩
   generalize (if(if u6<0 then -u6 else u6)>1 then if u6<0 then -u6 else u6 else 1)=dd at *
   exact⟨by walk_at "r",by walk_at "r",by walk_at "r",by walk_at "r",by walk_at "r",by walk_at "r",dd,by walk_at "r",hd.1,hd.2⟩
  ·walk_at "z"
   exact⟨by walk_at "r",by walk_at "r",by walk_at "r",by walk_at "r",by walk_at "r",by walk_at "r",1+d6,by walk_at "r",by omega,(show Bd 3 (1+d6)by unfold Bd;omega).mono (by decide)⟩
 rintro σ1 ⟨f0,f1,f2,f3,f4,f5,d,f6,dp,db⟩
 walk_at "z"
 refine Zk e1 ?_
 walk_at "z"
 refine⟨fun q0=>?_,fun q0=>?_⟩
 ·walk_at "z"
  refine Zk n4 ?_
  walk_at "z"
  refine(ZzC (v:=u4) hL (by omega) (by omega) b4).mono ?_
  rintro _ ⟨s,rfl,bs,hs⟩
  obtain⟨w,ew,iw,bw⟩:=ZvC (ns:=ns) (kk:=kk+5) hL (by omega) (by omega) bs hs
  walk_at "z"
  refine Zk ew ?_
  walk_at "z"
  refine Zk (hp w) ?_
  walk_at "z"
  exact⟨_,_,rfl,fun S=>.any hX ⟨fun y e=>(bs.1 y e).mono (by decide),fun y e=>(bs.2 y e).mono (by decide)⟩ iw,ZhY bx (by omega) (bw.mono (by omega))⟩
 walk_at "z"
 refine⟨fun q1=>?_,fun q1=>?_⟩
 ·walk_at "z"
  refine Zcn (by omega) (db.div (by decide)) ?_
  walk_at "z"
  refine Zk (hp _) ?_
  walk_at "z"
  exact⟨_,_,rfl,fun S=>by rw[←hvv];exact .part hX s3 dp db,ZhY bx (by omega) (Zh9 dp bv)⟩
 walk_at "z"
 refine⟨fun q2=>?_,fun q2=>?_⟩
 ·walk_at "z"
  refine Zk (hp _) ?_
  walk_at "z"
  refine⟨_,_,rfl,fun S=>by rw[←hvv];exact .rest hX s3 dp db,ZhY bx (by omega) ?_⟩
  have g0:=Int.fmod_nonneg_of_pos vv dp
  have g1:=Int.fmod_lt_of_pos vv dp
  exact(show Bd 140 _ by unfold Bd at *;omega).mono (by omega)
 walk_at "z"
 refine Zk (hp _) ?_
 walk_at "z"
 exact⟨_,_,rfl,fun S=>by rw[←hvv];exact .set hX s3,ZhY bx (by omega) bv⟩
end
end L
open PySem PySem.W PyProof.Rows PM TM My
namespace L
open PySem PySem.W PyProof.Rows PM TM My
variable {k:Int}
section
variable {n b r:Nat} {x y:Nat→Int} {ns:List Int} {kk v:Int} {s:Sp} {X:Nat}
theorem ZjC{x:Int}(hx:Bd 420 x): Bd 134 (ZdG ns k x).1∧Bd 420 (ZdG ns k x).2∧RestOk (ZdG ns k x):=by
 have h:=Zqo ns k
 have h2:Bd 134 (ZaF ns k):=ZeE ns k
 have ha:Bd 134 (Zal (ZaF ns k)):=by unfold Zal;split;exact ZfO h2;exact h2
 have go:∀m:Int,0≤m→Bd 134 m→Bd 134 (Zan m x).1∧Bd 420 (Zan m x).2∧RestOk (Zan m x):=fun m h0 hm=>⟨by rw[ZcL];exact hm,(Zep h0 (hm.mono (by decide)) hx).2,ZbO h0 _⟩
 unfold ZdG
 split
 ·exact⟨ZbN (by decide),ZaI,.inr ⟨by decide,by decide,by decide⟩⟩
 ·split
  ·exact⟨ZaI,hx,.inl rfl⟩
  ·split
   ·exact go _ (by omega) ((show Bd 5 _ by unfold Bd;omega).mono (by decide))
   ·exact go _ (Zdg _) ha
theorem Zrz{c:Nat}(hc:134≤c)(hx:∀i,i<n→Bd c (x i)): GB (c+2) n (ZbJ ns k n x):=fun i j hi hj y h=>by
 have h1:=Zru hx i hi
 have h2:=Zru hx j hj
 unfold ZbJ at h
 split at h
 ·cases h;exact ZaI
 ·obtain⟨w,h3,h4⟩:=Zz1.mp h
  subst h4
  exact((h1.sub h2).add ((ZmG ns _ w h3).1.mono (by omega)))
theorem ZrA: ∀i,i<n+1→ZbJ ns k n x i i=some 0:=fun i _=>by unfold ZbJ;rw[if_pos rfl]
theorem Zyj(hx:∀i,i<n→Bd 418 (x i)): Su n (ZbJ ns k n x) (ZfL ns k n x) x:=⟨ZrA,fun t ht=>(ZjC ((hx t ht).mono (by decide))).2.2,Zrz (by decide) hx,fun t ht=>(ZjC ((hx t ht).mono (by decide))).1,fun t ht=>(ZjC ((hx t ht).mono (by decide))).2.1,ZpU ns k n x⟩
theorem ZzD(hL:Lay ns)(hn:n≤3)(hX:X<n)(k0:0≤kk)(k9:kk≤90)(h1:134≤b)(h2:b≤346)(bx:∀i,i<n→Bd b (x i)): Pk (ZkS [scr ns,.int kk,Zac n x,.int ((X:Int)+1)]) fun t=>∃A x' S,t=.tup [A,Zac n x',S]∧Ac n x A S x'∧∀i,i<n→Bd (b+35) (x' i):=by
 have hl:∀{Q:T→Prop},Q (.int n)→Pk (Zbc [Zac n x]) Q:=fun h=>by
  unfold Zac
  walk_at "z"
  exact h
 have hp:∀v,Zfi [Zac n x,.int ((X:Int)+1),.int v]=some (Zac n (Zbk x X v)):=fun v=>Zsj hX (by omega)
 have hv:∀c,Sc n 31 341 c→ZcJ [ZB n c,Zac n x]=some (.int (ZK c x n)):=fun c sc=>ZjW hn sc fun i hi=>(bx i hi).mono (by omega)
 obtain⟨p0,p1⟩:=Zb6 ns (kk+1) (show(0:Int)<4 by decide)
 obtain⟨w,ew,hw⟩:=Znp p0 (show ZaR ns (kk+1) 4<(4:Nat)by omega)
 have e1:=ZbH (ns:=ns) (k:=kk+1) (many:=4) (by omega) (by omega) (by decide)
 rw[ew]at e1
 have n5:=ZdR (k:=kk+5) hL (by omega) (by omega)
 have b5:Bd 134 (ZaF ns (kk+5)):=ZeE ns (kk+5)
 have e6:=ZbH (ns:=ns) (k:=kk+6) (many:=2) (by omega) (by omega) (by decide)
 have e5:=ZbH (ns:=ns) (k:=kk+5) (many:=7) (by omega) (by omega) (by decide)
 obtain⟨q50,q51⟩:=Zb6 ns (kk+5) (show(0:Int)<7 by decide)
 generalize ZaR ns (kk+6) 2=w6 at *
 generalize ZaR ns (kk+5) 7=w5 at *
 generalize ZaF ns (kk+5)=u5 at *
 unfold ZkS Zgf
 generalize hB:Zac n x=B at *
 obtain⟨r,hr,hidx⟩:∃r:Nat,r≤2∧[T.int 0,.int 1,.int 1,.int 2][w]?=some (.int r):=by
  match w,hw with
  | 0,_=>exact⟨0,by decide,rfl⟩
  | 1,_=>exact⟨1,by decide,rfl⟩
  | 2,_=>exact⟨1,by decide,rfl⟩
  | 3,_=>exact⟨2,by decide,rfl⟩
 walk_at "z"
 refine ZpV (n:=r) (a:=fun i=>.int i) (ZB n) (fun _ c=>SumB n c 1000000000) (by omega) ?_ (fun t ht=>?_) (fun _=>0) fun C hC=>?_
 ·walk_at "z"
  refine Zk e1 ?_
  refine Zh3 (t:=.int r) (by omega) (by rw[Int.toNat_natCast];exact hidx) ?_
  walk_at "z"
  rfl
 ·walk_at "z"
  refine hl ?_
  walk_at "z"
  exact ZnN (by omega) (by omega) hL (by omega)
 have sc:∀i,i<r→Sc n 31 341 (C i):=fun i hi=>(hC i hi).sc.up (by decide)
 have bv:∀i,i<r→Bd (b+34) (ZK (C i) x n):=fun i hi=>(Zm6 (hC i hi).sc bx (by omega) n (Zz10 n)).mono (by omega)
 walk_at "z"
 refine Zbs (n:=r) (a:=fun i=>ZB n (C i)) (b:=fun i=>.int (ZK (C i) x n)) (by omega) ?_ (fun i hi=>?_) ?_
 ·walk_at "z"
  rfl
 ·walk_at "z"
  refine Zk (hv _ (sc i hi)) ?_
  walk_at "z"
  rfl
 walk_at "z"
 refine Zk n5 ?_
 refine ZdW (fun σ'=>σ' 0=some (scr ns)∧σ' 1=some (.int kk)∧σ' 2=some B∧σ' 3=some (.int ((X:Int)+1))∧σ' 4=some (.lst (tab r fun i=>ZB n (C i)))∧σ' 5=some (.lst (tab r fun i=>.int (ZK (C i) x n)))∧∃a,σ' 6=some (.int a)∧Bd (b+35) a) ?_ ?_
 ·have stay:∀{σ:TL},σ 0=some (scr ns)→σ 1=some (.int kk)→σ 2=some B→σ 3=some (.int ((X:Int)+1))→σ 4=some (.lst (tab r fun i=>ZB n (C i)))→σ 5=some (.lst (tab r fun i=>.int (ZK (C i) x n)))→σ 6=some (.int u5)→(σ 0=some (scr ns)∧σ 1=some (.int kk)∧σ 2=some B∧σ 3=some (.int ((X:Int)+1))∧σ 4=some (.lst (tab r fun i=>ZB n (C i)))∧σ 5=some (.lst (tab r fun i=>.int (ZK (C i) x n)))∧∃a,σ 6=some (.int a)∧Bd (b+35) a):=fun a0 a1 a2 a3 a4 a5 a6=>⟨a0,a1,a2,a3,a4,a5,_,a6,b5.mono (by omega)⟩
  walk_at "z"
  refine⟨fun q1=>?_,fun q1=>?_⟩
  ·have h0:0<r:=by have:=of_decide_eq_true q1;omega
   walk_at "z"
   refine Zk e6 ?_
   walk_at "z"
   refine⟨fun q2=>?_,fun q2=>?_⟩
   ·obtain⟨m,rfl⟩:∃m,r=m+1:=⟨r-1,by omega⟩
    walk_at "z"
    refine Zyc ?_
    walk_at "z"
    refine Zk e5 ?_
    walk_at "z"
    refine⟨by walk_at "r",by walk_at "r",by walk_at "r",by walk_at "r",by walk_at "r",by walk_at "r",ZK (C m) x n+w5-3,by walk_at "r",?_⟩
    have h7:Bd (b+34) (w5-3):=(show Bd 3 (w5-3)by unfold Bd;omega).mono (by omega)
    rw[show ZK (C m) x n+w5-3=ZK (C m) x n+(w5-3)by omega]
    exact(bv m (by omega)).add h7
   ·walk_at "z"
    exact stay (by walk_at "r") (by walk_at "r") (by walk_at "r") (by walk_at "r") (by walk_at "r") (by walk_at "r") (by walk_at "r")
  ·walk_at "z"
   exact stay (by walk_at "r") (by walk_at "r") (by walk_at "r") (by walk_at "r") (by walk_at "r") (by walk_at "r") (by walk_at "r")
 rintro σ1 ⟨f0,f1,f2,f3,f4,f5,a,f6,ba⟩
 have bva:∀i,i<r+1→Bd 418 (if i<r then ZK (C i) x n else a):=fun i hi=>by
  split
  ·exact(bv i (by assumption)).mono (by omega)
  ·exact ba.mono (by omega)
 have ht:=Zq6 (ns:=ns) (k:=kk+3) (n:=r+1) (x:=fun i=>if i<r then ZK (C i) x n else a) hL (by omega) (by omega) (by omega)
 have hsn:(tab r fun i=>T.int (ZK (C i) x n))++[T.int a]=tab (r+1) fun i=>T.int (if i<r then ZK (C i) x n else a):=ZuO
 walk_at "z"
 refine Zk (hp a) ?_
 walk_at "z"
 refine Zdz (by simp[tab];omega) ?_
 rw[hsn]
 walk_at "z"
 refine Zk ht ?_
 walk_at "z"
 refine⟨_,_,_,rfl,.call hX hr sc rfl (Zyj bva),ZhY bx (by omega) ba⟩
theorem ZzE(hL:Lay ns)(h0:0<n)(hn:n≤3)(k0:0≤kk)(k9:kk≤90)(h1:134≤b)(h2:b≤346)(bx:∀i,i<n→Bd b (x i)): Pk (Zje [scr ns,.int kk,Zac n x]) fun t=>∃A x' S,t=.tup [A,Zac n x',S]∧Ac n x A S x'∧∀i,i<n→Bd (b+35) (x' i):=by
 have hl:∀{Q:T→Prop},Q (.int n)→Pk (Zbc [Zac n x]) Q:=fun h=>by
  unfold Zac
  walk_at "z"
  exact h
 obtain⟨x0,x1⟩:=Zb6 ns (kk+7) (show(0:Int)<(n:Int)by omega)
 obtain⟨X,eX,hX⟩:=Znp x0 (show ZaR ns (kk+7) n<(n:Nat)by omega)
 have e7:=ZbH (ns:=ns) (k:=kk+7) (many:=(n:Int)) (by omega) (by omega) (by omega)
 rw[eX]at e7
 have e0:=ZbH (ns:=ns) (k:=kk) (many:=10) k0 (by omega) (by decide)
 generalize ZaR ns kk 10=w at *
 have bx3:∀i,i<n→Bd 380 (x i):=fun i hi=>(bx i hi).mono (by omega)
 have same:∀i,i<n→Bd (b+35) (x i):=fun i hi=>(bx i hi).mono (by omega)
 have cl:=Zyi (kk:=kk+1) hL hn (by omega) (by omega) bx3
 have ca:=ZzD hL hn hX k0 k9 h1 h2 bx
 have ch:=ZwL hL hn hX k0 k9 h1 h2 bx
 have hh:∀c Cl,Sc n 31 341 c→ClZ n c Cl→∃bb,Zc9 [Cl,Zac n x]=some (.bool bb)∧ZcJ [ZB n c,Zac n x]=some (.int (ZK c x n)):=fun c Cl s hC=>by
  obtain⟨f,q1,_⟩:=Zr7 hn s hC
  have:=ZjW hn s bx3
  exact⟨_,q1 x _ this,this⟩
 unfold Zje Zho
 generalize hB:Zac n x=B at *
 walk_at "z"
 refine hl ?_
 walk_at "z"
 refine Zk e7 ?_
 refine Zj4 ?_
 rw[Int.add_comm 1 (X:Int)]
 walk_at "z"
 refine Zk e0 ?_
 walk_at "z"
 refine⟨fun q=>?_,fun q=>?_⟩
 ·walk_at "z"
  rw[←hB]
  exact⟨_,_,_,rfl,.go,same⟩
 walk_at "z"
 refine cl.mono ?_
 rintro Cl ⟨c,s,hC⟩
 walk_at "z"
 refine⟨fun q=>?_,fun q=>?_⟩
 ·walk_at "z"
  rw[←hB]
  exact⟨_,_,_,rfl,.say,same⟩
 walk_at "z"
 refine⟨fun q=>?_,fun q=>?_⟩
 ·obtain⟨bb,g1,g2⟩:=hh c Cl s hC
  walk_at "z"
  refine Zk g1 ?_
  walk_at "z"
  rw[←hB]at g1 g2 ⊢
  exact⟨_,_,_,rfl,.when s hC g2 g1,same⟩
 walk_at "z"
 refine⟨fun q=>?_,fun q=>?_⟩
 ·walk_at "z"
  exact ca
 walk_at "z"
 refine ch.mono ?_
 rintro _ ⟨A,x',rfl,ac,b'⟩
 walk_at "z"
 exact⟨_,_,_,rfl,ac _,fun i hi=>(b' i hi).mono (by omega)⟩
end
end L
namespace L
open PySem PM TM
variable {a b:Sm} {ρ:Lc} {σ:TL} {H:Hp} {Φ:Nat→List Nat}
theorem ZvD{c:Sm}: ZW (ZW a b) c=ZW a (ZW b c):=by
 funext ρ H
 simp only[ZW]
 cases a ρ H with
 | none=>rfl
 | some p=>
  obtain⟨o,ρ',H'⟩:=p
  cases o <;> rfl
def Kp4(g:Sm): Prop:=∀ρ H o ρ' H',g ρ H=some (o,ρ',H')→ρ' 4=ρ 4
theorem Kp4.set{i:Nat}{e:Ex}(h:i≠4): Kp4 (Zaa i e):=fun ρ H o ρ' H' q=>by
 obtain⟨p,_,e2⟩:=Zz1.mp q
 cases e2
 show(if 4=i then _ else _)=_
 rw[if_neg (fun z=>h z.symm)]
theorem Kp4.seq(x:Kp4 a)(y:Kp4 b): Kp4 (ZW a b):=fun ρ H o ρ' H' q=>by
 obtain⟨⟨o1,ρ1,H1⟩,e1,e2⟩:=Zz0.mp q
 have h1:=x _ _ _ _ _ e1
 cases o1 with
 | none=>exact(y _ _ _ _ _ e2).trans h1
 | some v=>cases e2;exact h1
theorem Kp4.next: Kp4 Zax:=fun ρ H o ρ' H' q=>by cases q;rfl
theorem Kp4.ret{e:Ex}: Kp4 (Zag e):=fun ρ H o ρ' H' q=>by
 obtain⟨p,_,e2⟩:=Zz1.mp q
 cases e2;rfl
theorem Kp4.ife{t:Ts}(x:Kp4 a)(y:Kp4 b): Kp4 (sIf t a b):=fun ρ H o ρ' H' q=>by
 obtain⟨⟨p,K⟩,e1,e2⟩:=Zz0.mp q
 cases p with
 | true=>exact x _ _ _ _ _ e2
 | false=>exact y _ _ _ _ _ e2
theorem kpB: Kp4 Zeu:=.seq (.set (by decide)) (.seq (.set (by decide)) (.seq (.ife .ret .next) (.seq (.set (by decide)) (.set (by decide)))))
structure Kt(H:Hp)(a:Nat)(vs:List V)(ts:List T)(F:List Nat): Prop where
 at_:H[a]?=some vs
 r:RFs H vs ts F
 off:a∉F
structure Sd(ρ:Lc)(σ:TL)(H:Hp)(Φ:Nat→List Nat)(a:Nat)(vs:List V)(ts:List T)(F:List Nat): Prop where
 st:St ⟨H,[],fun p=>p≠a⟩ [] ρ σ H Φ
 s4:σ 4=none
 r4:ρ 4=some (.ref a)
 k:Kt H a vs ts F
 h0:a≠0
theorem Zm7{c:TM.Ctx}(P:Nat→Prop)(s:St c [] ρ σ H Φ)(h:∀i t,σ i=some t→∀p∈Φ i,P p): St ⟨H,[],P⟩ [] ρ σ H Φ:=
 ⟨s.slot,fun i t e p m=>.inr (h i t e p m),(fun i hi=>nomatch hi),Nat.le_refl _,fun _ _ _=>rfl,Nat.lt_of_lt_of_le s.pos s.len,by simp⟩
theorem ZwM{a:Nat}{D:T}(st:St ⟨H,[],fun p=>p≠a⟩ [] ρ σ H Φ)(ha:a<H.length)(e3:σ 3=some D)(cp:Zdb [D]=some D): ∃w X F,ZdU ρ H=some (w,H++X)∧RF (H++X) w (.tup [D,D]) F∧a∉F:=by
 have ep:ZhU σ=some (.tup [D,D]):=by simp[ZhU,ZcR,Zl,Zj,ZV,ZG,e3,cp]
 obtain⟨w,X,F,h1,h2,h3,_⟩:=Zqk _ ρ σ H Φ _ st ep
 refine⟨w,X,F,h1,h2,fun m=>?_⟩
 rcases h3 a m with q | ⟨i,_,⟨t,e⟩,q⟩
 ·omega
 ·rcases st.src i t e a q with z | z
  ·exact absurd z (by show ¬H.length≤a;omega)
  ·exact z rfl
theorem Zp5{H:Hp}{v:V}{t:T}: ∀{vs:List V} {ts:List T} {F G:List Nat},RFs H vs ts F→RF H v t G→RFs H (vs++[v]) (ts++[t]) (F++G)
 | _,_,_,_,.nil,r=>by simpa using RFs.one r
 | _,_,_,_,.cons a b,r=>by
  have:=RFs.cons a (Zp5 b r)
  simpa using this
theorem ZwN{σ':TL}{a i:Nat}{vs:List V}{ts:List T}{F:List Nat}{D:T}(s:Sd ρ σ H Φ a vs ts F)(hl:vs.length<1000)(e:Zev (ZR σ 5 (.int i))=some (none,σ'))(e4:σ' 4=none)(e3:σ' 3=some D)(cp:Zdb [D]=some D):
  ∃ρ' H' Φ' w F',ZW Zeu (ZbM (Zde (Zg 4) ZdU)) (upd ρ 5 (.int i)) H=some (none,ρ',H')∧Sd ρ' σ' H' Φ' a (vs++[w]) (ts++[.tup [D,D]]) F'∧H.length≤H'.length∧∀p,p<H.length→p≠a→H'[p]?=H[p]?:=by
 have ha:a<H.length:=(Zz6.mp s.k.at_).1
 have st1:St ⟨H,[],fun p=>p≠a⟩ [] (upd ρ 5 (.int i)) (ZR σ 5 (.int i)) H (Z7 Φ 5 []):=s.st.put (by simp) (.int i) (by simp) (by simp)
 obtain⟨ρ1,H1,Φ1,h1,h2,h3⟩:=Zwj _ _ _ _ _ _ st1 e
 obtain⟨_,k2,k3,_⟩:=h3.resolve_right fun⟨t,v,F',k1,_⟩=>nomatch k1
 have r4:ρ1 4=some (.ref a):=by
  rw[kpB _ _ _ _ _ k2]
  show(if 4=5 then _ else _)=_
  rw[if_neg (by decide)]
  exact s.r4
 have kp:∀p,p<H.length→H1[p]?=H[p]?:=fun p hp=>h2 p hp fun⟨j,hj,_⟩=>nomatch hj
 have at1:H1[a]?=some vs:=(kp a ha).trans s.k.at_
 have off1:∀j t,σ' j=some t→∀p∈Φ1 j,p≠a:=fun j t ej p m=>by
  rcases k3.src j t ej p m with z | z
  ·have:H.length≤p:=z
   omega
  ·exact z
 have st2:=Zm7 (fun p=>p≠a) k3 off1
 obtain⟨w,X,Fw,w1,w2,w3⟩:=ZwM st2 (Nat.lt_of_lt_of_le ha h1) e3 cp
 have r1:RFs H1 vs ts F:=s.k.r.frame fun p m=>kp p (s.k.r.lt p m)
 have ha1:a<(H1++X).length:=by rw[List.length_append];omega
 have at2:(H1++X)[a]?=some vs:=by rw[List.getElem?_append_left (by omega)];exact at1
 have ne:∀p,p≠a→((H1++X).set a (vs++[w]))[p]?=(H1++X)[p]?:=fun p hp=>List.getElem?_set_ne (fun z=>hp z.symm)
 refine⟨ρ1,(H1++X).set a (vs++[w]),Φ1,w,F++Fw,?_,⟨?_,e4,r4,⟨?_,?_,fun m=>?_⟩,s.h0⟩,?_,fun p hp pa=>?_⟩
 ·have ev:Zg 4 ρ1 H1=some (.ref a,H1):=by simp[Zg,r4]
  have ap:Zex [.ref a,w] (H1++X)=some (.none,(H1++X).set a (vs++[w])):=by
   simp only[Zex,at2,Option.bind_some]
   rw[if_pos ⟨s.h0,by rw[ZaO];omega⟩]
  simp only[ZW,k2,Option.bind_some,ZbM,Zde,ev,w1,ap,Option.map_some]
 ·refine⟨fun j t ej=>?_,fun j t ej p m=>.inr (off1 j t ej p m),(fun j hj=>nomatch hj),Nat.le_refl _,fun _ _ _=>rfl,?_,by simp⟩
  ·obtain⟨v,v1,v2⟩:=(k3.ext X).slot j t ej
   exact⟨v,v1,v2.frame fun p m=>ne p (off1 j t ej p m)⟩
  ·show 0<((H1++X).set a (vs++[w])).length
   rw[List.length_set];omega
 ·rw[List.getElem?_set_self ha1]
 ·have rA:RFs ((H1++X).set a (vs++[w])) vs ts F:=(r1.ext X).frame fun p m=>ne p (fun z=>s.k.off (z▸m))
  exact Zp5 rA (w2.frame fun p m=>ne p (fun z=>w3 (z▸m)))
 ·rcases Zz8.mp m with m | m
  ·exact s.k.off m
  ·exact w3 m
 ·rw[List.length_set,List.length_append];omega
 ·rw[ne p pa,List.getElem?_append_left (by omega)];exact kp p hp
end L
namespace L
open PySem PM TM
theorem ZzF: Zms=ZW Zmu (ZW (Zaa 4 (Zcz (Zh ZdU ZD))) (ZW (Zbh Zmv (put1 5) (ZW Zeu (ZbM (Zde (Zg 4) ZdU)))) Zqj)):=by
 unfold Zmu Zeu
 simp only[ZvD]
 rfl
def Zn0(t:T): Prop:=∃D,t=.tup [D,D]∧Pln 3 D
section
variable {a N:Nat} {P:Nat→TL→Prop} {nx:Nx} {us:List V} {K0:Hp} {G:List Nat}
theorem ZqH(hu:∀i,i<N→us[i]?=some (.int i))(hl:us.length=N)(hN:N≤500)
  (step:∀i σ,i<N→P i σ→σ 4=none→∃σ' D,Zev (ZR σ 5 (.int i))=some (none,σ')∧σ' 4=none∧σ' 3=some D∧Zdb [D]=some D∧Pln 3 D∧P (i+1) σ')
  (gl:∀p∈G,p<K0.length∧p≠a) (hnx:∀K:Hp,(∀p∈G,K[p]?=K0[p]?)→∀i,i≤us.length→nx i K=some us[i]?):
  ∀m i ρ σ H Φ vs ts F,i+m=N→P i σ→Sd ρ σ H Φ a vs ts F→vs.length≤i+1→K0.length≤H.length→(∀p∈G,H[p]?=K0[p]?)→(∀t∈ts,Zn0 t)→∃ρ' σ' H' Φ' vs' ts' F',ZcC nx (put1 5) (ZW Zeu (ZbM (Zde (Zg 4) ZdU))) (m+1) i ρ H=some (none,ρ',H')∧Sd ρ' σ' H' Φ' a vs' ts' F'∧(∀t∈ts',Zn0 t)∧vs'.length≤N+1
 | 0,i,ρ,σ,H,Φ,vs,ts,F,hm,hp,s,hv,hk,hg,ht=>by
  refine⟨ρ,σ,H,Φ,vs,ts,F,?_,s,ht,by omega⟩
  have:=hnx H hg i (by omega)
  rw[List.getElem?_eq_none (by omega)]at this
  show(nx i H).bind _=_
  rw[this]
  rfl
 | m+1,i,ρ,σ,H,Φ,vs,ts,F,hm,hp,s,hv,hk,hg,ht=>by
  obtain⟨σ1,D,e1,e4,e3,cp,pl,hp1⟩:=step i σ (by omega) hp s.s4
  obtain⟨ρ1,H1,Φ1,w,F1,r1,s1,l1,k1⟩:=ZwN s (by omega) e1 e4 e3 cp
  obtain⟨ρ2,σ2,H2,Φ2,vs2,ts2,F2,r2,s2,t2,n2⟩:=ZqH hu hl hN step gl hnx m (i+1) ρ1 σ1 H1 Φ1 _ _ F1 (by omega) hp1 s1 (by rw[List.length_append,List.length_singleton];omega) (by omega) (fun p q=>by rw[k1 p (by have:=(gl p q).1;omega) (gl p q).2];exact hg p q) (fun t q=>by
   rcases Zz8.mp q with q | q
   ·exact ht t q
   ·rw[List.mem_singleton.mp q];exact⟨D,rfl,pl⟩)
  refine⟨ρ2,σ2,H2,Φ2,vs2,ts2,F2,?_,s2,t2,n2⟩
  have:=hnx H hg i (by omega)
  rw[hu i (by omega)]at this
  show(nx i H).bind _=_
  rw[this]
  simp only[Option.bind_some,put1,r1]
  exact r2
end
theorem ZzG{σ:TL}{ts:List T}(e:σ 4=some (.lst ts))(hl:ts.length<1000)(h:∀t∈ts,Zn0 t): ∃σ',Zjt σ=some (some (.bool true),σ'):=by
 have et:ts=tab ts.length fun i=>(ts[i]?).getD .none:=by
  apply List.ext_getElem?
  intro i
  by_cases q:i<ts.length
  ·rw[ZaL q,List.getElem?_eq_getElem q];rfl
  ·rw[List.getElem?_eq_none (by omega),List.getElem?_eq_none (by rw[Z9];omega)]
 have key:Psk (Zjt σ) (fun t=>t=.bool true) (fun _=>False):=by
  unfold Zjt
  walk_at "z"
  refine Zco (n:=ts.length) (a:=fun i=>(ts[i]?).getD .none) (P:=fun _ _=>True) ?_ trivial ?_ ?_
  ·exact⟨ts,by simp[Zc4,Zj,e],et⟩
  ·intro i σ1 hi _
   obtain⟨D,eD,pl⟩:=h _ (List.getElem_mem hi)
   rw[show(ts[i]?).getD .none=.tup [D,D]by rw[List.getElem?_eq_getElem hi];exact eD]
   walk_at "z"
   refine Zy2 pl pl ?_
   rw[ZaE rfl]
   walk_at "z"
   trivial
  ·intro σ1 _
   walk_at "z"
   rfl
 obtain⟨o,σ',e1,h1,h2⟩:=key
 cases o with
 | none=>exact absurd (h2 rfl) id
 | some t=>exact⟨σ',by rw[e1,h1 t rfl]⟩
theorem ZvE{ns:List Int}{σA:TL}{D0:T}{N:Nat}{P:Nat→TL→Prop}(eA:ZhT (fun i=>[T.lst (ns.map T.int)][i]?)=some (none,σA))(h4:σA 4=none)(h3:σA 3=some D0)(cp:Zdb [D0]=some D0)(pl:Pln 3 D0)(hP:P 0 σA)(hN:N≤500)(eG:ZhV σA=some (tab N fun i=>.int i))
  (step:∀i σ,i<N→P i σ→σ 4=none→∃σ' D,Zev (ZR σ 5 (.int i))=some (none,σ')∧σ' 4=none∧σ' 3=some D∧Zdb [D]=some D∧Pln 3 D∧P (i+1) σ'):∃H',Zmt [.ref 0] [ns.map V.int]=some (.bool true,H'):=by
 have intsAre:∀l:List Int,RFs [ns.map V.int] (l.map V.int) (l.map T.int) []:=fun l=>by
  induction l with
  | nil=>exact .nil
  | cons a l ih=>exact .cons (.int a) ih
 have st0:St ⟨[ns.map V.int],[],fun _=>True⟩ [] (fun i=>[V.ref 0][i]?) (fun i=>[T.lst (ns.map T.int)][i]?) [ns.map V.int] (fun _=>[0]):=by
  refine⟨fun i t e=>?_,fun _ _ _ _ _=>.inr trivial,(fun i hi=>nomatch hi),Nat.le_refl _,fun _ _ _=>rfl,by show 0<1;decide,by simp⟩
  cases i with
  | zero=>
   cases e
   exact⟨_,rfl,.ref rfl (intsAre ns)⟩
  | succ i=>simp at e
 obtain⟨ρ1,H1,Φ1,l1,k1,q1⟩:=Zwi _ _ _ _ _ _ st0 eA
 obtain⟨_,r1,s1,_⟩:=q1.resolve_right fun⟨t,v,F',z,_⟩=>nomatch z
 have s1':St ⟨H1,[],fun p=>p≠H1.length⟩ [] ρ1 σA H1 Φ1:=Zm7 _ s1 fun i t e p m=>by
  obtain⟨_,_,r⟩:=s1.slot i t e
  have:=r.lt p m
  omega
 have ep:ZhU σA=some (.tup [D0,D0]):=by simp[ZhU,ZcR,Zl,Zj,ZV,ZG,h3,cp]
 obtain⟨w,X,F,w1,w2,_,_⟩:=Zqk _ ρ1 σA H1 Φ1 _ s1 ep
 have hpos:0<H1.length:=Nat.lt_of_lt_of_le s1.pos s1.len
 have lw:∀p∈F,p<(H1++X).length:=w2.lt
 have st2:St ⟨H1++X++[[w]],[],fun p=>p≠(H1++X).length⟩ [] (upd ρ1 4 (.ref (H1++X).length)) σA (H1++X++[[w]]) Φ1:=by
  have q:=(s1.ext X).ext [[w]]
  refine⟨fun i t e=>?_,fun i t e p m=>.inr ?_,(fun i hi=>nomatch hi),Nat.le_refl _,fun _ _ _=>rfl,Nat.lt_of_lt_of_le q.pos q.len,by simp⟩
  ·obtain⟨v,v1,v2⟩:=q.slot i t e
   refine⟨v,?_,v2⟩
   show(if i=4 then _ else _)=_
   rw[if_neg (fun z=>by subst z;rw[h4]at e;cases e)]
   exact v1
  ·obtain⟨_,_,r⟩:=s1.slot i t e
   have:=r.lt p m
   show p≠(H1++X).length
   rw[List.length_append]
   omega
 have sd:Sd (upd ρ1 4 (.ref (H1++X).length)) σA (H1++X++[[w]]) Φ1 (H1++X).length [w] [.tup [D0,D0]] F:=⟨st2,h4,rfl,⟨by simp,.one (w2.ext _),fun m=>by have:=lw _ m;omega⟩,by rw[List.length_append];omega⟩
 obtain⟨nx,Y,us,FG,G,g1,g2,g3,g4,g5⟩:=Zwl _ _ _ _ _ _ st2 eG
 generalize hK:H1++X++[[w]]=K at *
 have ha:(H1++X).length<K.length:=by rw[←hK,List.length_append (as:=H1++X)];simp
 have ln:us.length=N:=by rw[g2.length,Z9]
 have hu:∀i,i<N→us[i]?=some (.int i):=fun i hi=>by
  have:=g2.at (i:=i) (t:=.int i) (ZaL hi)
  obtain⟨v,F',e1,e2,_⟩:=this
  cases e2
  exact e1
 have sd2:Sd (upd ρ1 4 (.ref (H1++X).length)) σA (K++Y) Φ1 (H1++X).length [w] [.tup [D0,D0]] F:=⟨Zm7 _ (st2.ext Y) fun i t e p m=>by
  rcases st2.src i t e p m with z | z
  ·have:K.length≤p:=z
   show p≠(H1++X).length
   omega
  ·exact z,h4,sd.r4,⟨by rw[List.getElem?_append_left ha];exact sd.k.at_,sd.k.r.ext Y,sd.k.off⟩,sd.h0⟩
 obtain⟨ρ3,σ3,H3,Φ3,vs3,ts3,F3,r3,s3,t3,n3⟩:=ZqH (K0:=K++Y) (G:=G) hu ln hN step (fun p m=>⟨(g4 p m).1,by
  have:=(g4 p m).2.nil
  omega⟩) g5 N 0 _ _ _ _ _ _ _ (by omega) hP sd2 (by simp) (Zz10 _) (fun _ _=>rfl) (fun t m=>by rw[List.mem_singleton.mp m];exact⟨D0,rfl,pl⟩)
 have st4:St ⟨H3,[],fun _=>True⟩ [] ρ3 (ZR σ3 4 (.lst ts3)) H3 (Z7 Φ3 4 ((H1++X).length::F3)):=by
  refine⟨fun i t e=>?_,fun _ _ _ _ _=>.inr trivial,(fun i hi=>nomatch hi),Nat.le_refl _,fun _ _ _=>rfl,s3.st.pos,by simp⟩
  by_cases q:i=4
  ·subst q
   simp[ZR]at e
   subst e
   exact⟨_,s3.r4,by simpa [Z7]using RF.ref s3.k.at_ s3.k.r⟩
  ·simp[ZR,q]at e
   simpa [Z7,q]using s3.st.slot i t e
 obtain⟨σ5,e5⟩:=ZzG (σ:=ZR σ3 4 (.lst ts3)) (ts:=ts3) (by simp[ZR]) (by rw[←s3.k.r.length];omega) t3
 obtain⟨ρ6,H6,Φ6,_,_,q6⟩:=Zwk _ _ _ _ _ _ st4 e5
 rcases q6 with⟨z,_⟩ | ⟨t,v,F6,z,r6,rf,_⟩
 ·cases z
 ·cases z
  cases rf
  refine⟨H6,?_⟩
  have el:Zcz (Zh ZdU ZD) ρ1 H1=some (.ref (H1++X).length,K):=by
   simp only[Zcz,Zh,ZD,w1,Option.bind_some]
   rw[if_pos (by show 1≤LEN;rw[ZaO];decide),hK]
  have ef:Zbh Zmv (put1 5) (ZW Zeu (ZbM (Zde (Zg 4) ZdU))) (upd ρ1 4 (.ref (H1++X).length)) K=some (none,ρ3,H3):=by
   simp only[Zbh,g1,Option.bind_some]
   rw[Z9]
   exact r3
  unfold Zmt ZJ
  rw[if_pos (show [V.ref 0].length=1 from rfl),ZzF]
  simp only[ZW,Zaa,r1,Option.bind_some,el,Option.map_some,ef,r6,Option.getD_some]
end L
namespace L
open PySem PyData
theorem ZqI: ∀ns:List Int,canLayAll0 (ns.map .int)=true
 | []=>by simp[canLayAll0]
 | a::ns=>by simp[canLayAll0,canLay0,ZqI ns]
theorem ZqJ: ∀ns:List Int,depthAll (ns.map .int)≤1
 | []=>by simp[depthAll]
 | a::ns=>by have:=ZqJ ns;simp[depthAll,depth];omega
theorem Zsa: ∀(xs ys:List PyData),weightAll (xs++ys)=weightAll xs+weightAll ys
 | [],ys=>by simp[weightAll]
 | a::xs,ys=>by simp[weightAll,Zsa xs ys];omega
theorem Zsb: ∀xs:List PyData,weightAll xs.reverse=weightAll xs
 | []=>rfl
 | a::xs=>by rw[List.reverse_cons,Zsa,Zsb xs];simp[weightAll];omega
theorem Lay.rev{ns:List Int}(h:Lay ns): Lay ns.reverse:=by
 unfold Lay layable0 at *
 simp only[Bool.and_eq_true,decide_eq_true_eq]at *
 refine⟨⟨by simp only[canLay0];exact ZqI _,?_⟩,?_⟩
 ·have:=ZqJ ns.reverse
  simp only[depth];omega
 ·have:=h.2
  rw[List.map_reverse]
  simp only[weight,Zsb]at *
  simpa using this
end L
open PySem PySem.W PyProof.Rows PM TM My
namespace L
open PySem PySem.W PyProof.Rows PM TM My
variable {ns:List Int}
def P58(ns:List Int)(n i:Nat)(σ:TL): Prop:=∃M G R x,σ 0=some (scr ns)∧σ 2=some (Zac n x)∧σ 3=some (Zt n G R)∧Zs n (420+510*i) M G R x∧∀t,t<n→Bd (134+35*i) (x t)
theorem ZzH{n i:Nat}{σ:TL}(hL:Lay ns)(h0:0<n)(hn:n≤3)(hi:i<7)(h:P58 ns n i σ)(h4:σ 4=none): ∃σ' D,Zev (ZR σ 5 (.int i))=some (none,σ')∧σ' 4=none∧σ' 3=some D∧Zdb [D]=some D∧Pln 3 D∧P58 ns n (i+1) σ':=by
 obtain⟨M,G,R,x,e0,e2,e3,z,bx⟩:=h
 have tu:=ZzE (kk:=7+8*(i:Int)) (b:=134+35*i) hL h0 hn (by omega) (by omega) (by omega) (by omega) bx
 have hl:∀{Q:T→Prop},Q (.int n)→Pk (Zbc [Zac n x]) Q:=fun h=>by
  unfold Zac
  walk_at "z"
  exact h
 have key:Psk (Zev (ZR σ 5 (.int i))) (fun _=>False) (fun σ'=>∃M G R x',σ' 0=some (scr ns)∧σ' 2=some (Zac n x')∧σ' 3=some (Zt n G R)∧σ' 4=none∧Zs n (420+510*(i+1)) M G R x'∧∀t,t<n→Bd (134+35*(i+1)) (x' t)):=by
  unfold Zev
  have oz:∀{A S:T} {x':Nat→Int},Ac n x A S x'→∃D,Zbr [Zt n G R,A,S]=some D∧Zd n (420+510*i+510) x' D:=fun ac=>ZvB hn (by omega) (by omega) z ac
  generalize Zt n G R=T0 at *
  generalize Zac n x=B at *
  walk_at "z"
  refine Zdx (by omega) (by omega) ?_
  walk_at "z"
  refine tu.mono ?_
  rintro _ ⟨A,x',S,rfl,ac,bx'⟩
  obtain⟨D,eD,M',G',R',eq,z'⟩:=oz ac
  have sh:=ZuE (n:=n) (by omega) z'.hd z'.ok
  have ly:=Zvt (n:=n) (by omega) z'.li z'.ok
  rw[←eq]at sh ly
  generalize hB':Zac n x'=B' at *
  walk_at "z"
  refine Zk eD ?_
  walk_at "z"
  refine hl ?_
  walk_at "z"
  refine Zk sh ?_
  walk_at "z"
  refine Zk ly ?_
  walk_at "z"
  rw[←hB',eq]
  refine⟨M',G',R',x',by walk_at "r",by walk_at "r",by walk_at "r",?_,z'.mono (by omega),fun t ht=>(bx' t ht).mono (by omega)⟩
  simp[ZR,h4]
 obtain⟨o,σ',e1,k1,k2⟩:=key
 cases o with
 | some t=>exact absurd (k1 t rfl) id
 | none=>
  obtain⟨M',G',R',x',f0,f2,f3,f4,z',b'⟩:=k2 rfl
  exact⟨σ',_,e1,f4,f3,Zq7 (by omega),Zqf,M',G',R',x',f0,f2,f3,z',b'⟩
theorem Zyk(hlen:ns.length≤63)(hL:Lay ns): ∃n σA,0<n∧n≤3∧ZhT (fun i=>[T.lst (ns.map T.int)][i]?)=some (none,σA)∧σA 4=none∧P58 ns n 0 σA:=by
 have hs:T.lst (ns.map T.int)=scr ns:=rfl
 obtain⟨p0,p1⟩:=Zb6 ns 0 (show(0:Int)<9 by decide)
 obtain⟨w,ew,hw⟩:=Znp p0 (show ZaR ns 0 9<(9:Nat)by omega)
 have e0:=ZbH (ns:=ns) (k:=0) (many:=9) (by decide) (by decide) (by decide)
 rw[ew]at e0
 obtain⟨n,h0,hn,hidx⟩:∃n:Nat,0<n∧n≤3∧[T.int 1,.int 2,.int 1,.int 2,.int 1,.int 2,.int 1,.int 2,.int 3][w]?=some (.int n):=by
  match w,hw with
  | 0,_=>exact⟨1,by decide,by decide,rfl⟩
  | 1,_=>exact⟨2,by decide,by decide,rfl⟩
  | 2,_=>exact⟨1,by decide,by decide,rfl⟩
  | 3,_=>exact⟨2,by decide,by decide,rfl⟩
  | 4,_=>exact⟨1,by decide,by decide,rfl⟩
  | 5,_=>exact⟨2,by decide,by decide,rfl⟩
  | 6,_=>exact⟨1,by decide,by decide,rfl⟩
  | 7,_=>exact⟨2,by decide,by decide,rfl⟩
  | 8,_=>exact⟨3,by decide,by decide,rfl⟩
 have bx:∀t,t<n→Bd 134 (ZaF ns (1+t)):=fun t _=>ZeE ns _
 have ht:=Zq6 (ns:=ns.reverse) (k:=4) (n:=n) (x:=fun t=>ZaF ns (1+t)) hL.rev (by decide) (by decide) (by omega)
 have hr:(ns.map T.int).reverse=ns.reverse.map T.int:=List.map_reverse.symm
 have ln:(ns.map T.int).length=ns.length:=List.length_map ..
 refine⟨n,?_⟩
 have key:Psk (ZhT (fun i=>[T.lst (ns.map T.int)][i]?)) (fun _=>False) (fun σ'=>σ' 0=some (scr ns)∧σ' 2=some (Zac n fun t=>ZaF ns (1+t))∧σ' 3=some (Zt n (ZbJ ns.reverse 4 n fun t=>ZaF ns (1+t)) (ZfL ns.reverse 4 n fun t=>ZaF ns (1+t)))∧σ' 4=none):=by
  unfold ZhT
  walk_at "z"
  rw[hs]
  refine Zk e0 ?_
  refine Zh3 (t:=.int n) (by omega) (by rw[Int.toNat_natCast];exact hidx) ?_
  walk_at "z"
  refine Zbs (n:=n) (a:=fun i=>.int i) (b:=fun i=>.int (ZaF ns (1+i))) (by omega) ?_ (fun t ht=>?_) ?_
  ·walk_at "z"
   rfl
  ·walk_at "z"
   refine Zk (ZdR hL (by omega) (by omega)) ?_
   rfl
  walk_at "z"
  refine Zkq ?_
  walk_at "z"
  refine⟨ns.map T.int,rfl,?_⟩
  walk_at "z"
  refine⟨63,rfl,?_⟩
  rw[List.take_of_length_le (by omega)]
  walk_at "z"
  refine ZxC ?_
  rw[hr]
  walk_at "z"
  refine Zk ht ?_
  exact⟨by walk_at "r",by walk_at "r",by walk_at "r",by simp[ZR]⟩
 obtain⟨o,σ',e1,k1,k2⟩:=key
 cases o with
 | some t=>exact absurd (k1 t rfl) id
 | none=>
  obtain⟨f0,f2,f3,f4⟩:=k2 rfl
  have r:=fun t (h:t<n)=>ZjC (ns:=ns.reverse) (k:=4+(n+1:Nat)*(n+1:Nat)+t) ((bx t h).mono (show 134≤420 by decide))
  refine⟨σ',h0,hn,e1,f4,_,_,_,_,f0,f2,f3,⟨ZhJ (R:=ZfL ns.reverse 4 n fun t=>ZaF ns (1+t)) (fun t h=>(r t h).2.2) n (Zz10 n),(ZhW (k:=134) (by decide) (fun t h=>(r t h).1) n (Zz10 n)).mono (by omega),ZrA,fun i j hi hj y h=>(Zrz (by decide) bx i j hi hj y h).mono (by decide),fun t h=>⟨(r t h).2.2,ZhK n t h,(r t h).2.1⟩,ZpU _ _ _ _⟩,bx⟩
theorem Zyl{σ:TL}(hlen:ns.length≤63)(e0:σ 0=some (scr ns)): ∃N:Nat,N≤7∧ZhV σ=some (tab N fun i=>.int i):=by
 have ln:(ns.map T.int).length=ns.length:=List.length_map ..
 have es:Zb8 (Zj 0) (Zb7 (ZE 7)) (Zb7 (ZE 63)) σ=some (.lst (Za4 (ns.map T.int) (some 7) (some 63))):=by
  simp only[Zb8,Zj,Zb7,ZE,e0,Option.bind_some,Option.map_some,scr]
 have ep:(Za4 (ns.map T.int) (some 7) (some 63)).length≤56:=by
  rw[ZhZ (a:=min 7 ns.length) (b:=ns.length) _ _ _ (by unfold sliceBounds;simp;omega) (by unfold sliceBounds;simp;omega) (by omega)]
  rw[List.length_take,List.length_drop]
  omega
 generalize Za4 (ns.map T.int) (some 7) (some 63)=ps at *
 have hd:(ps.length:Int).fdiv 11=((ps.length / 11:Nat):Int):=by rw[Int.fdiv_eq_ediv_of_nonneg _ (by decide)];omega
 refine⟨2+ps.length / 11,by omega,?_⟩
 have key:Pl (ZhV σ) fun ts=>ts=tab (2+ps.length / 11) fun i=>.int i:=by
  unfold ZhV
  walk_at "z"
  refine Zk es ?_
  walk_at "z"
  refine Zcn (by decide) (Zfj (by decide) (by decide)) ?_
  rw[hd]
  walk_at "z"
  exact ZfJ (2+ps.length / 11) (by omega) (by omega) rfl
 obtain⟨ts,e1,rfl⟩:=key
 exact e1
theorem ZtM(hlen:ns.length≤63)(hL:PyData.layable0 (.list (ns.map .int))=true): ∃H',Zmt [.ref 0] [ns.map V.int]=some (.bool true,H'):=by
 obtain⟨n,σA,h0,hn,eA,h4,hP⟩:=Zyk hlen hL
 obtain⟨M,G,R,x,e0,e2,e3,z,bx⟩:=id hP
 obtain⟨N,hN,eG⟩:=Zyl hlen e0
 exact ZvE (P:=P58 ns n) eA h4 e3 (Zq7 (by omega)) Zqf hP (by omega) eG fun i σ hi hp q=>ZzH hL h0 hn (by omega) hp q
end L
end
section
open PySem PySem.W PyProof.Rows
namespace PySem.W.Fast
theorem tw5105673956185107153:True:=⟨⟩
theorem tw16968176118458789586:True:=⟨⟩
theorem tw1454219785156648487:True:=⟨⟩
theorem tw9497945907656264259:True:=⟨⟩
theorem tw316514102143019080:True:=⟨⟩
theorem tw1176975735165151067:True:=⟨⟩
theorem tw9515242367644423802:True:=⟨⟩
theorem tw13698048360955963301:True:=⟨⟩
theorem tw906997338810173357:True:=⟨⟩
theorem tw3528903376305711396:True:=⟨⟩
theorem tw14442895186254868694:True:=⟨⟩
theorem tw550859730669387710:True:=⟨⟩
theorem tw4621932581444047675:True:=⟨⟩
theorem tw13402640891724300857:True:=⟨⟩
theorem tw14869557710840242666:True:=⟨⟩
theorem tw8629223137936558018:True:=⟨⟩
theorem tw17643754061406199020:True:=⟨⟩
theorem tw11187973929812520656:True:=⟨⟩
theorem tw4584130408075211490:True:=⟨⟩
theorem tw3018384756792678836:True:=⟨⟩
theorem tw3285859953031059425:True:=⟨⟩
theorem tw10667965978278278033:True:=⟨⟩
theorem tw15452572443179084588:True:=⟨⟩
theorem tw9156678896304099913:True:=⟨⟩
theorem tw15886500619415505586:True:=⟨⟩
theorem tw3520363519792060846:True:=⟨⟩
theorem tw1099786997935966427:True:=⟨⟩
theorem tw4419873286371483742:True:=⟨⟩
theorem tw4491058772748593153:True:=⟨⟩
theorem tw13436231055378572716:True:=⟨⟩
theorem tw11930311979851757478:True:=⟨⟩
theorem tw5055051069096525434:True:=⟨⟩
theorem tw15221209806709932071:True:=⟨⟩
theorem tw12798869161161681673:True:=⟨⟩
theorem tw10209164474934016114:True:=⟨⟩
theorem tw9774394379856643515:True:=⟨⟩
theorem tw2257529940240947247:True:=⟨⟩
theorem tw5891177449180782854:True:=⟨⟩
theorem tw12533650973541477374:True:=⟨⟩
theorem tw9840342860782594374:True:=⟨⟩
theorem tw3101917741504857134:True:=⟨⟩
theorem tw4359589691058243886:True:=⟨⟩
theorem tw14048895322960730393:True:=⟨⟩
theorem tw16002967266952078866:True:=⟨⟩
theorem tw17704188385166749297:True:=⟨⟩
theorem tw7523194637212750777:True:=⟨⟩
theorem tw4361700775904427359:True:=⟨⟩
theorem tw7498633149979677338:True:=⟨⟩
theorem tw15335523830956845186:True:=⟨⟩
theorem tw10299302589577801163:True:=⟨⟩
theorem tw9991952250452883065:True:=⟨⟩
theorem tw15086273200082318195:True:=⟨⟩
theorem tw18188441679654595828:True:=⟨⟩
theorem tw15515405784836723652:True:=⟨⟩
theorem tw9563574807059059695:True:=⟨⟩
theorem tw15348117752812372481:True:=⟨⟩
theorem tw9292651643026975300:True:=⟨⟩
theorem tw17624731456758155189:True:=⟨⟩
theorem tw11519117686961666697:True:=⟨⟩
theorem tw16932301668260661676:True:=⟨⟩
theorem tw4157206338815638501:True:=⟨⟩
theorem tw11630328935867623959:True:=⟨⟩
theorem tw5587826856885255690:True:=⟨⟩
theorem tw1349388230604553621:True:=⟨⟩
theorem tw6822529714786804032:True:=⟨⟩
theorem tw16915470645016011554:True:=⟨⟩
theorem tw16472409268878238316:True:=⟨⟩
theorem tw10700183255674453818:True:=⟨⟩
theorem tw8164005668110941744:True:=⟨⟩
theorem tw4961949625528378942:True:=⟨⟩
theorem tw4770949888891906500:True:=⟨⟩
theorem tw8981913638643619018:True:=⟨⟩
theorem tw3764688243253525356:True:=⟨⟩
theorem tw3139815972381352843:True:=⟨⟩
theorem tw13426244417702134072:True:=⟨⟩
theorem tw1462193419119380569:True:=⟨⟩
theorem tw5681066748535004433:True:=⟨⟩
theorem tw18145098415874279589:True:=⟨⟩
theorem tw529536973988259948:True:=⟨⟩
theorem tw5958337225494893492:True:=⟨⟩
theorem tw1191315250883676292:True:=⟨⟩
theorem tw1906743188756502811:True:=⟨⟩
theorem tw7875376050956498882:True:=⟨⟩
theorem tw8426798971799828003:True:=⟨⟩
theorem tw10335527622381539264:True:=⟨⟩
theorem tw2215426274937266770:True:=⟨⟩
theorem tw14501001857826371202:True:=⟨⟩
theorem tw17925384258215065573:True:=⟨⟩
theorem tw4026151001005817321:True:=⟨⟩
theorem tw5030944203280556702:True:=⟨⟩
theorem tw13517250619966689955:True:=⟨⟩
theorem tw16539199913488330184:True:=⟨⟩
theorem tw9435018134839604537:True:=⟨⟩
theorem tw16131593051203169754:True:=⟨⟩
theorem tw8933567498414919238:True:=⟨⟩
theorem tw7492102371377302679:True:=⟨⟩
theorem tw5623994078177797194:True:=⟨⟩
theorem tw14191745827877185554:True:=⟨⟩
theorem tw5312734613080425828:True:=⟨⟩
theorem tw10155365746132046468:True:=⟨⟩
theorem tw16364373167927100580:True:=⟨⟩
theorem tw6548945272714408661:True:=⟨⟩
theorem tw14613296582639449008:True:=⟨⟩
theorem tw12018387782679925087:True:=⟨⟩
theorem tw16745343075639119971:True:=⟨⟩
theorem tw16749348522385944071:True:=⟨⟩
theorem tw10561106145012299093:True:=⟨⟩
theorem tw12027893231959348502:True:=⟨⟩
theorem tw140247042037892190:True:=⟨⟩
theorem tw12996339429388188178:True:=⟨⟩
theorem tw2283480497557504744:True:=⟨⟩
theorem tw69414778264802052:True:=⟨⟩
theorem tw16550838102048051623:True:=⟨⟩
theorem tw7537285074954141530:True:=⟨⟩
theorem tw7215932318001415403:True:=⟨⟩
theorem tw12300527617525357084:True:=⟨⟩
theorem tw6285040191614719466:True:=⟨⟩
theorem tw734138898119960010:True:=⟨⟩
theorem tw3172541193896328996:True:=⟨⟩
theorem tw4843473975253519250:True:=⟨⟩
theorem tw16172578528114110199:True:=⟨⟩
theorem tw6012122021747098740:True:=⟨⟩
theorem tw16459021049253542911:True:=⟨⟩
theorem tw3307598998989760257:True:=⟨⟩
theorem tw11309342325655673037:True:=⟨⟩
theorem tw1541540961381408409:True:=⟨⟩
theorem tw15248526436251307398:True:=⟨⟩
theorem tw8789256864460932259:True:=⟨⟩
theorem tw15622835117965313283:True:=⟨⟩
theorem tw5388663596951873645:True:=⟨⟩
theorem tw11849525312028181438:True:=⟨⟩
theorem tw10785849952161257653:True:=⟨⟩
theorem tw8018341471551460276:True:=⟨⟩
theorem tw569269584081339442:True:=⟨⟩
theorem tw15943592676296772274:True:=⟨⟩
theorem tw7317576523658780031:True:=⟨⟩
theorem tw16317983856663788926:True:=⟨⟩
theorem tw8621301723031713458:True:=⟨⟩
theorem tw10635065575864489283:True:=⟨⟩
theorem tw17312996333117680517:True:=⟨⟩
theorem tw4248988804066548162:True:=⟨⟩
theorem tw12068798485007620914:True:=⟨⟩
theorem tw7363425622247834253:True:=⟨⟩
theorem tw17287205074728517176:True:=⟨⟩
theorem tw12941643214049860704:True:=⟨⟩
theorem tw13056512690104125533:True:=⟨⟩
theorem tw12618230951984991388:True:=⟨⟩
theorem tw11418939547134857076:True:=⟨⟩
theorem tw3638187344944282256:True:=⟨⟩
theorem tw3094701115853657799:True:=⟨⟩
theorem tw13197444509695450237:True:=⟨⟩
theorem tw1385777081429181588:True:=⟨⟩
theorem tw16279701975793424917:True:=⟨⟩
theorem tw4179031660912777645:True:=⟨⟩
theorem tw9597476570122768466:True:=⟨⟩
theorem tw305048472116853797:True:=⟨⟩
theorem tw371976131940695897:True:=⟨⟩
theorem tw3857615796733700780:True:=⟨⟩
theorem tw15508019666092448443:True:=⟨⟩
theorem tw804092199982636349:True:=⟨⟩
theorem tw2944391684731814369:True:=⟨⟩
theorem tw14326666937008165477:True:=⟨⟩
theorem tw13829591483307370896:True:=⟨⟩
theorem tw2133357390318303931:True:=⟨⟩
theorem tw17969941481158815411:True:=⟨⟩
theorem tw16469568281967520401:True:=⟨⟩
theorem tw15213048550514571353:True:=⟨⟩
theorem tw16525585646549488262:True:=⟨⟩
theorem tw2451202640524662777:True:=⟨⟩
theorem tw17427895641331663283:True:=⟨⟩
theorem tw6459200953577825518:True:=⟨⟩
theorem tw4033379813872489195:True:=⟨⟩
theorem tw14712817762504950641:True:=⟨⟩
theorem tw8903238766108814736:True:=⟨⟩
theorem tw8181798732573668865:True:=⟨⟩
theorem tw539595736760451978:True:=⟨⟩
theorem tw11622863634709415212:True:=⟨⟩
theorem tw11636702290074901078:True:=⟨⟩
theorem tw7610715734942229976:True:=⟨⟩
theorem tw4290539585013091505:True:=⟨⟩
theorem tw13478877428745155630:True:=⟨⟩
theorem tw1820406046763328738:True:=⟨⟩
theorem tw3103751414666246812:True:=⟨⟩
theorem tw6708892414054319099:True:=⟨⟩
theorem tw6807009207803952845:True:=⟨⟩
theorem tw13319170342346483122:True:=⟨⟩
theorem tw15382044423783582273:True:=⟨⟩
theorem tw10097012582147076362:True:=⟨⟩
theorem tw1147522009701800784:True:=⟨⟩
theorem tw17721039672839981703:True:=⟨⟩
theorem tw112567504061534027:True:=⟨⟩
theorem tw9192171586001469603:True:=⟨⟩
theorem tw9359623039629485964:True:=⟨⟩
theorem tw14846608996346228861:True:=⟨⟩
theorem tw9455475090630465045:True:=⟨⟩
theorem tw8646929664414959583:True:=⟨⟩
theorem tw2766794811542550618:True:=⟨⟩
theorem tw17004574920194074796:True:=⟨⟩
theorem tw7825248364748044718:True:=⟨⟩
theorem tw358491328311820773:True:=⟨⟩
theorem tw1880258362356491002:True:=⟨⟩
theorem tw17845374550828520631:True:=⟨⟩
theorem tw17619882183920601743:True:=⟨⟩
theorem tw14439765378166140033:True:=⟨⟩
theorem tw8454840944936950519:True:=⟨⟩
theorem tw10752687858943698738:True:=⟨⟩
theorem tw9629638568524466495:True:=⟨⟩
theorem tw7470021291188754609:True:=⟨⟩
theorem tw16629561534657121264:True:=⟨⟩
theorem tw13884827974113296321:True:=⟨⟩
theorem tw7586693836618795562:True:=⟨⟩
theorem tw4074981978428682757:True:=⟨⟩
theorem tw12059592832596718669:True:=⟨⟩
theorem tw5420646709462680085:True:=⟨⟩
theorem tw7249538410202319208:True:=⟨⟩
theorem tw16118103595353321548:True:=⟨⟩
theorem tw11712190458185945011:True:=⟨⟩
theorem tw10746989603658154836:True:=⟨⟩
theorem tw15210816241431372910:True:=⟨⟩
theorem tw11905978938385298303:True:=⟨⟩
theorem tw10762484250532422250:True:=⟨⟩
theorem tw13231743877010270464:True:=⟨⟩
theorem tw4733640183689119296:True:=⟨⟩
theorem tw15734334760007649912:True:=⟨⟩
theorem tw15069716523494295500:True:=⟨⟩
theorem tw14678158920106854735:True:=⟨⟩
theorem tw14790834132378566595:True:=⟨⟩
theorem tw8839083969933755074:True:=⟨⟩
theorem tw627122724971583521:True:=⟨⟩
theorem tw13148303815899264127:True:=⟨⟩
theorem tw5047655472420816975:True:=⟨⟩
theorem tw8369868683130302868:True:=⟨⟩
theorem tw802917404587063742:True:=⟨⟩
theorem tw11764051201032110199:True:=⟨⟩
theorem tw5488966160659634681:True:=⟨⟩
theorem tw12221415409051222339:True:=⟨⟩
theorem tw9685044298169568939:True:=⟨⟩
theorem tw17714833071000019117:True:=⟨⟩
theorem tw15845117809764550140:True:=⟨⟩
theorem tw6664951462986138201:True:=⟨⟩
theorem tw12532165626772418067:True:=⟨⟩
theorem tw6638926791290424541:True:=⟨⟩
theorem tw3241244739717862871:True:=⟨⟩
theorem tw11769617611247221923:True:=⟨⟩
theorem tw15679247252792206210:True:=⟨⟩
theorem tw8160871880118814707:True:=⟨⟩
theorem tw6951939212644042833:True:=⟨⟩
theorem tw9715166753854553471:True:=⟨⟩
theorem tw17100184641858439841:True:=⟨⟩
theorem tw5613845454599061817:True:=⟨⟩
theorem tw7160180452043601882:True:=⟨⟩
theorem tw14827384380277173613:True:=⟨⟩
theorem tw15431134087688302020:True:=⟨⟩
theorem tw9897558803702562313:True:=⟨⟩
theorem tw12978678129208030876:True:=⟨⟩
theorem tw8008005557923197168:True:=⟨⟩
theorem tw9508736203920968164:True:=⟨⟩
theorem tw10543178825980762907:True:=⟨⟩
theorem tw5759927347364260171:True:=⟨⟩
theorem tw7900839787485558254:True:=⟨⟩
theorem tw10884089432341657690:True:=⟨⟩
theorem tw6585068141940680455:True:=⟨⟩
theorem tw11990459337992974956:True:=⟨⟩
theorem tw6582134788679801411:True:=⟨⟩
theorem tw4952506757814975653:True:=⟨⟩
theorem tw8085317222854131807:True:=⟨⟩
theorem tw17548501875881557423:True:=⟨⟩
theorem tw5036445103931068615:True:=⟨⟩
theorem tw10780761586765376359:True:=⟨⟩
theorem tw11732214188671553305:True:=⟨⟩
theorem tw13792483299354683862:True:=⟨⟩
theorem tw6834397320308548248:True:=⟨⟩
theorem tw3482820431698744051:True:=⟨⟩
theorem tw6511239469406747073:True:=⟨⟩
theorem tw11002848052431835627:True:=⟨⟩
theorem tw6737687440995333003:True:=⟨⟩
theorem tw11973505968982382900:True:=⟨⟩
theorem tw11289143093466461953:True:=⟨⟩
theorem tw2478928736998500339:True:=⟨⟩
theorem tw16919330064296535691:True:=⟨⟩
theorem tw8086373703447589959:True:=⟨⟩
theorem tw9516800180062724845:True:=⟨⟩
theorem tw1712973634487312807:True:=⟨⟩
theorem tw1948689806639624469:True:=⟨⟩
theorem tw2852278927748849453:True:=⟨⟩
theorem tw5427499738942290107:True:=⟨⟩
theorem tw425938344300624212:True:=⟨⟩
theorem tw10042499479572932358:True:=⟨⟩
theorem tw13305670439411429421:True:=⟨⟩
theorem tw14015890951069844909:True:=⟨⟩
theorem tw17996964024917085871:True:=⟨⟩
theorem tw7254989234349611870:True:=⟨⟩
theorem tw15726315211890062517:True:=⟨⟩
theorem tw3992908553847606798:True:=⟨⟩
theorem tw7042659310547366237:True:=⟨⟩
theorem tw10015853644003576960:True:=⟨⟩
theorem tw931956834028986255:True:=⟨⟩
theorem tw17857563459279650048:True:=⟨⟩
theorem tw4211952112222678748:True:=⟨⟩
theorem tw8864380892348041232:True:=⟨⟩
theorem tw1322031339247656150:True:=⟨⟩
theorem tw7388713464098733815:True:=⟨⟩
theorem tw12434779806091606683:True:=⟨⟩
theorem tw12380031433413146341:True:=⟨⟩
theorem tw1201823643857629683:True:=⟨⟩
theorem tw4268201051430804902:True:=⟨⟩
theorem tw13218621648322568166:True:=⟨⟩
theorem tw14495299557687959983:True:=⟨⟩
theorem tw5353813085845620550:True:=⟨⟩
theorem tw5107255825281412738:True:=⟨⟩
theorem tw6192104577313164617:True:=⟨⟩
theorem tw12184380411685104690:True:=⟨⟩
theorem tw4475145619620083286:True:=⟨⟩
theorem tw6108208118871286908:True:=⟨⟩
theorem tw10693841506766600124:True:=⟨⟩
theorem tw15724745641170818534:True:=⟨⟩
theorem tw3555141088238359772:True:=⟨⟩
theorem tw5485572742587201778:True:=⟨⟩
theorem tw11081772624950168284:True:=⟨⟩
theorem tw17093224777342109595:True:=⟨⟩
theorem tw13419329186978087958:True:=⟨⟩
theorem tw8237626310708396552:True:=⟨⟩
theorem tw4211700434839312001:True:=⟨⟩
theorem tw9585978970863474492:True:=⟨⟩
theorem tw4982327473614321822:True:=⟨⟩
theorem tw4674102799890499726:True:=⟨⟩
theorem tw14207915657524821833:True:=⟨⟩
theorem tw17974404532321089622:True:=⟨⟩
theorem tw9218752888244210615:True:=⟨⟩
theorem tw5552461122284547459:True:=⟨⟩
theorem tw15862806813707239167:True:=⟨⟩
theorem tw6315216371427503177:True:=⟨⟩
theorem tw5260856337621036202:True:=⟨⟩
theorem tw17545862747986772839:True:=⟨⟩
theorem tw6390373612929051886:True:=⟨⟩
theorem tw7877236402650122457:True:=⟨⟩
theorem tw1611551182742943237:True:=⟨⟩
theorem tw14199714164133228370:True:=⟨⟩
theorem tw14805814515597417852:True:=⟨⟩
theorem tw726985913927333873:True:=⟨⟩
theorem tw15718574390098580149:True:=⟨⟩
theorem tw2385268686561707046:True:=⟨⟩
theorem tw2335157872551914648:True:=⟨⟩
theorem tw11717690317537128808:True:=⟨⟩
theorem tw15137687247720179910:True:=⟨⟩
theorem tw8445716188487379795:True:=⟨⟩
theorem tw8605165415444627158:True:=⟨⟩
theorem tw13553050674002434610:True:=⟨⟩
theorem tw1840282097412291383:True:=⟨⟩
theorem tw14987661418082201831:True:=⟨⟩
theorem tw7097827964152542560:True:=⟨⟩
theorem tw1722802803701587481:True:=⟨⟩
theorem tw15632992782082381434:True:=⟨⟩
theorem tw2754692670688779762:True:=⟨⟩
theorem tw2923001932562327482:True:=⟨⟩
theorem tw5426448371682200115:True:=⟨⟩
theorem tw5661640270340304354:True:=⟨⟩
theorem tw17094580856887593759:True:=⟨⟩
theorem tw3904583755211930517:True:=⟨⟩
theorem tw838488071084229480:True:=⟨⟩
theorem tw14788362278542820120:True:=⟨⟩
theorem tw14124935244785052151:True:=⟨⟩
theorem tw2648174423076098445:True:=⟨⟩
theorem tw5266450434754204200:True:=⟨⟩
theorem tw10069975712529536831:True:=⟨⟩
theorem tw7317234293075219:True:=⟨⟩
theorem tw4425046354534653865:True:=⟨⟩
theorem tw14722794537435163219:True:=⟨⟩
theorem tw11069628954808310989:True:=⟨⟩
theorem tw2912592304959361012:True:=⟨⟩
theorem tw2337977823195543630:True:=⟨⟩
theorem tw7942853410682446962:True:=⟨⟩
theorem tw17698735102306075112:True:=⟨⟩
theorem tw317932667124481529:True:=⟨⟩
theorem tw15078095837771203109:True:=⟨⟩
theorem tw11118301316682269745:True:=⟨⟩
theorem tw16186510892431351131:True:=⟨⟩
theorem tw4227517698962585424:True:=⟨⟩
theorem tw14749253800190834908:True:=⟨⟩
theorem tw9466130334346563993:True:=⟨⟩
theorem tw11763852733077360975:True:=⟨⟩
theorem tw143782271200020318:True:=⟨⟩
theorem tw8526028360262338249:True:=⟨⟩
theorem tw10052001805573714066:True:=⟨⟩
theorem tw17398146341500462573:True:=⟨⟩
theorem tw1877378965866140348:True:=⟨⟩
theorem tw306725001281121169:True:=⟨⟩
theorem tw17882641709403210578:True:=⟨⟩
theorem tw12694589447371642155:True:=⟨⟩
theorem tw4153491320931672185:True:=⟨⟩
theorem tw15545184769064153574:True:=⟨⟩
theorem tw7979783701870024959:True:=⟨⟩
theorem tw16396790404030501481:True:=⟨⟩
theorem tw12067549021546063074:True:=⟨⟩
theorem tw15755044616229629136:True:=⟨⟩
theorem tw17401831432661337422:True:=⟨⟩
theorem tw4916127144345927284:True:=⟨⟩
theorem tw1647960591809683682:True:=⟨⟩
theorem tw17878424488110687958:True:=⟨⟩
theorem tw5835942142707902020:True:=⟨⟩
theorem tw4185518321428705831:True:=⟨⟩
theorem tw10015450608781386451:True:=⟨⟩
theorem tw3345597093286824917:True:=⟨⟩
theorem tw5680315236850328200:True:=⟨⟩
theorem tw8174591469460913490:True:=⟨⟩
theorem tw11786325122171474085:True:=⟨⟩
theorem tw15325311475551686242:True:=⟨⟩
theorem tw1349615225243010270:True:=⟨⟩
theorem tw15223397061033166810:True:=⟨⟩
theorem tw7343611390307366373:True:=⟨⟩
theorem tw4543556514994620149:True:=⟨⟩
theorem tw7089793799200125183:True:=⟨⟩
theorem tw5916140570258018564:True:=⟨⟩
theorem tw18208996565591813656:True:=⟨⟩
theorem tw8159976661246289121:True:=⟨⟩
theorem tw3121739546393284973:True:=⟨⟩
theorem tw14323227155912201964:True:=⟨⟩
theorem tw14734032772098568817:True:=⟨⟩
theorem tw12815670308626618822:True:=⟨⟩
theorem tw8553059368797141306:True:=⟨⟩
theorem tw14900259974334564751:True:=⟨⟩
theorem tw5769997320742902227:True:=⟨⟩
theorem tw2962324470309885386:True:=⟨⟩
theorem tw16266442582153907279:True:=⟨⟩
theorem tw2747774915501398362:True:=⟨⟩
theorem tw11320351676317602388:True:=⟨⟩
theorem tw11329467641453361123:True:=⟨⟩
theorem tw7020395562169822392:True:=⟨⟩
theorem tw6793172497655745189:True:=⟨⟩
theorem tw6905212232875527693:True:=⟨⟩
theorem tw13952158723898717365:True:=⟨⟩
theorem tw18012574323051992567:True:=⟨⟩
theorem tw5310652868755799522:True:=⟨⟩
theorem tw10378583025934500588:True:=⟨⟩
theorem tw7524379617451308511:True:=⟨⟩
theorem tw18167724695441219349:True:=⟨⟩
theorem tw12392129776423771058:True:=⟨⟩
theorem tw6880125886219600808:True:=⟨⟩
theorem tw4968929673044707356:True:=⟨⟩
theorem tw13887902116395311400:True:=⟨⟩
theorem tw12712400820596877648:True:=⟨⟩
theorem tw1391549112126926301:True:=⟨⟩
theorem tw10846345724684618374:True:=⟨⟩
theorem tw3934833063311361131:True:=⟨⟩
theorem tw7076977106511060911:True:=⟨⟩
theorem tw274189353798237994:True:=⟨⟩
theorem tw16655083059833703075:True:=⟨⟩
theorem tw3664731896753646195:True:=⟨⟩
theorem tw14029171239946634462:True:=⟨⟩
theorem tw8891557043749499067:True:=⟨⟩
theorem tw6999419289813526679:True:=⟨⟩
theorem tw4340971767527515617:True:=⟨⟩
theorem tw10497823618577955822:True:=⟨⟩
theorem tw13508602156133886167:True:=⟨⟩
theorem tw897888412878121761:True:=⟨⟩
theorem tw14279065940840616024:True:=⟨⟩
theorem tw10131873952172028942:True:=⟨⟩
theorem tw1267704075650749254:True:=⟨⟩
theorem tw7950223703418521501:True:=⟨⟩
theorem tw16463793508043411602:True:=⟨⟩
theorem tw5587484289544270231:True:=⟨⟩
theorem tw12356241338228022558:True:=⟨⟩
theorem tw8131721106225051767:True:=⟨⟩
theorem tw3808584094389355786:True:=⟨⟩
theorem tw15261137711255440680:True:=⟨⟩
theorem tw10800367221633172730:True:=⟨⟩
theorem tw10134030333460990790:True:=⟨⟩
theorem tw4177351759533223642:True:=⟨⟩
theorem tw2202087279664922802:True:=⟨⟩
theorem tw3471986238504059686:True:=⟨⟩
theorem tw16925118299729312639:True:=⟨⟩
theorem tw4799189423077775474:True:=⟨⟩
theorem tw16699019767340423185:True:=⟨⟩
theorem tw16034362830870596112:True:=⟨⟩
theorem tw17084317755948004794:True:=⟨⟩
theorem tw5363195699714531557:True:=⟨⟩
theorem tw1567247161763788871:True:=⟨⟩
theorem tw18182889222666715495:True:=⟨⟩
theorem tw7894344252036594922:True:=⟨⟩
theorem tw8060744490709563079:True:=⟨⟩
theorem tw11224361182253327997:True:=⟨⟩
theorem tw12111957463147405440:True:=⟨⟩
theorem tw4188684199736651882:True:=⟨⟩
theorem tw1826987945724244988:True:=⟨⟩
theorem tw17338234738716814015:True:=⟨⟩
theorem tw12325562205625792791:True:=⟨⟩
theorem tw704147369595269066:True:=⟨⟩
theorem tw6623812351622530092:True:=⟨⟩
theorem tw1998032249293215463:True:=⟨⟩
theorem tw9161490523856799436:True:=⟨⟩
theorem tw6760056911573607715:True:=⟨⟩
theorem tw7618804249908900691:True:=⟨⟩
theorem tw6089177832033215386:True:=⟨⟩
theorem tw13922928251641797143:True:=⟨⟩
theorem tw11300376045408061371:True:=⟨⟩
theorem tw12011070553636201877:True:=⟨⟩
theorem tw3369663099759083609:True:=⟨⟩
theorem tw18277388166739348960:True:=⟨⟩
theorem tw3133745999044795564:True:=⟨⟩
theorem tw1061639710858884176:True:=⟨⟩
theorem tw671769174312181376:True:=⟨⟩
theorem tw17570062618377817894:True:=⟨⟩
theorem tw10232147439284725336:True:=⟨⟩
theorem tw670427922429333600:True:=⟨⟩
theorem tw2374466318677132124:True:=⟨⟩
theorem tw3083371992184736890:True:=⟨⟩
theorem tw2516369078629260681:True:=⟨⟩
theorem tw7395645310213146516:True:=⟨⟩
theorem tw10661956449011590994:True:=⟨⟩
theorem tw6252695792229605141:True:=⟨⟩
theorem tw714049069090440106:True:=⟨⟩
theorem tw12487779173672901959:True:=⟨⟩
theorem tw10393078302967963895:True:=⟨⟩
theorem tw6205024481829086969:True:=⟨⟩
theorem tw16884622931589843948:True:=⟨⟩
theorem tw5015507407206683207:True:=⟨⟩
theorem tw8621336744817483243:True:=⟨⟩
theorem tw16408362238061914836:True:=⟨⟩
theorem tw10412780308102683651:True:=⟨⟩
theorem tw14064692534454641163:True:=⟨⟩
theorem tw15155859288707382567:True:=⟨⟩
theorem tw5425125011635884837:True:=⟨⟩
theorem tw11347631108264317165:True:=⟨⟩
theorem tw8886442042033028919:True:=⟨⟩
theorem tw10728712052571211117:True:=⟨⟩
theorem tw5805183375971660199:True:=⟨⟩
theorem tw17590088832654516399:True:=⟨⟩
theorem tw4842887358765978389:True:=⟨⟩
theorem tw6606014719576569030:True:=⟨⟩
theorem tw8396962428940809896:True:=⟨⟩
theorem tw6999941293234460784:True:=⟨⟩
theorem tw17179431292420308709:True:=⟨⟩
theorem tw10241233070082051121:True:=⟨⟩
theorem tw3321576952164483024:True:=⟨⟩
theorem tw17960406059949683352:True:=⟨⟩
theorem tw14112606434462084385:True:=⟨⟩
theorem tw14593252181223967585:True:=⟨⟩
theorem tw1173414789623836638:True:=⟨⟩
theorem tw3488647797146898431:True:=⟨⟩
theorem tw3903891618737965568:True:=⟨⟩
theorem tw12319047049370110589:True:=⟨⟩
theorem tw7158441374720773216:True:=⟨⟩
theorem tw7834740603555865465:True:=⟨⟩
theorem tw16286715671046524454:True:=⟨⟩
theorem tw133755455108545178:True:=⟨⟩
theorem tw6788773261714906821:True:=⟨⟩
theorem tw7945405709010385892:True:=⟨⟩
theorem tw12694112234171929671:True:=⟨⟩
theorem tw6147076586173037292:True:=⟨⟩
theorem tw7717702957765121957:True:=⟨⟩
theorem tw13350131943787299761:True:=⟨⟩
theorem tw1354003750591732747:True:=⟨⟩
theorem tw14731147920152588799:True:=⟨⟩
theorem tw11887224372650548316:True:=⟨⟩
theorem tw8078195926588453703:True:=⟨⟩
theorem tw2730965030003752832:True:=⟨⟩
theorem tw3822784309164373692:True:=⟨⟩
theorem tw5674458297940323589:True:=⟨⟩
theorem tw11269825475406603969:True:=⟨⟩
theorem tw5011889884212318148:True:=⟨⟩
theorem tw10184835648761350555:True:=⟨⟩
theorem tw11970942820725077907:True:=⟨⟩
theorem tw16717272659965454103:True:=⟨⟩
theorem tw14245618210516037357:True:=⟨⟩
theorem tw6381902497316938245:True:=⟨⟩
theorem tw6784790241324674965:True:=⟨⟩
theorem tw2456577590951144490:True:=⟨⟩
theorem tw8697654515486363317:True:=⟨⟩
theorem tw12661032092557703082:True:=⟨⟩
theorem tw8426828688652509912:True:=⟨⟩
theorem tw4636031889025220839:True:=⟨⟩
theorem tw12737541344736672974:True:=⟨⟩
theorem tw16607927582987124570:True:=⟨⟩
theorem tw13949155002146243131:True:=⟨⟩
theorem tw16970792351503237766:True:=⟨⟩
theorem tw14949513074056673275:True:=⟨⟩
theorem tw13708279966662545973:True:=⟨⟩
theorem tw1620389302784492585:True:=⟨⟩
theorem tw13323373534744806615:True:=⟨⟩
theorem tw15854262060937163188:True:=⟨⟩
theorem tw1096354831752916523:True:=⟨⟩
theorem tw7910172739516966087:True:=⟨⟩
theorem tw17802128708061929859:True:=⟨⟩
theorem tw9835382159548102362:True:=⟨⟩
theorem tw19751972998642308:True:=⟨⟩
theorem tw5185991453625059868:True:=⟨⟩
theorem tw14650769484350525481:True:=⟨⟩
theorem tw18042889414512086050:True:=⟨⟩
theorem tw1833547357909804662:True:=⟨⟩
theorem tw3016012700857477809:True:=⟨⟩
theorem tw3942624392001961204:True:=⟨⟩
theorem tw3259544426188881078:True:=⟨⟩
theorem tw6728313399510405491:True:=⟨⟩
theorem tw16338214745046372782:True:=⟨⟩
theorem tw11526203479690249398:True:=⟨⟩
theorem tw6662249597110656733:True:=⟨⟩
theorem tw11654023200298843171:True:=⟨⟩
theorem tw16803143847538834185:True:=⟨⟩
theorem tw15536387163757344236:True:=⟨⟩
theorem tw17108046237660401759:True:=⟨⟩
theorem tw16504757533647375273:True:=⟨⟩
end PySem.W.Fast
set_option maxRecDepth 100000 in
set_option maxHeartbeats 8000000 in
open_top head for PySem.Challenge.rw_seer_k58_whole_outcomes_keep_boxes
end
section
open PySem PySem.W PySem.Calls PyProof.Rows PM
seal PM.J PM.Js PM.JT PM.JA PM.JF PM.JI PM.JI2 PM.JP PM.S1 PM.Ss PM.Sto PM.Rd PM.Nm PM.OpN PM.Op2 PM.Def
namespace L
noncomputable abbrev DD(w:World)(s₀:Shared)(mg mb:Str→Option Value)(f:Addr)(r:Nat)(F:List V→Hp→Option (V×Hp)): Prop:=Def PySem.Challenge.rw_seer_k58_whole_outcomes_keep_boxes.row.prog w (head.heap_39 w.params) head.view_39 (looseW head.view_39 []) (ExcName.means s₀.heap) mg mb f r F
section
variable {w:World} {s₀:Shared} {mg mb:Str→Option Value}
theorem Zo8: DD w s₀ mg mb 528 1 ZoQ:=by
 unfold DD;k_fill
 refine ZX (names:=["_law_script","_law_k","_law_number_here"]) (g:=(TM.XS.g ZgH)) ?_
 exact fun _ _ _ _ _ _ _ c _ _=>(Zp (ZN sL (Zv (Zv (Zv vL vL Za9) jI Za9) jI Z0)) (Zp (S1.ife (ZI (Zah (nB c) (jc vL Zf) ZaC) jI ZdC) (Zq (ZN sL (Zv vL (Zm vL (Zv vL (Zah (nB c) (jc vL Zf) ZaC) ZaB)) Z0))) ZO) (Zq (Zx vL))))
theorem law_pick_d: DD w s₀ mg mb 535 2 Zda:=by
 unfold DD;k_fill
 refine ZX (names:=["_law_script","_law_k","_law_many"]) (g:=(TM.XS.g Zg2)) ?_
 exact fun _ _ _ _ _ _ _ c _ _=>(Zq (Zx (Zv (Zv (Zv (cF c Zo8 (jc vL (jc vL Zf))) jI Za9) jI ZaB) vL ZaB)))
theorem ZcU: DD w s₀ mg mb 542 2 Zgx:=by
 unfold DD;k_fill
 refine ZX (names:=["_law_script","_law_k","_law_number_here","_law_reach"]) (g:=(TM.XS.g Zgw)) ?_
 exact fun _ _ _ _ _ _ _ c _ _=>(Zp (ZN sL (cF c Zo8 (jc vL (jc vL Zf)))) (Zp (ZN sL (Zm (J.list (jc jI (jc jI (jc (Zv jI jI Zia) (jc (Zv jI jI Zia) Zf))))) (Zv (Zv (Zv vL jI Za9) jI ZaB) jI ZaB))) (Zq (Zx (Zv (Zv (Zv vL (Zv jI jI Zia) Za9) (Zv (Zv jI vL Za9) jI Z0) ZaB) vL Za2)))))
theorem Zlu: DD w s₀ mg mb 549 3 ZoS:=by
 unfold DD;k_fill
 refine ZX (names:=["_law_script","_law_k","_law_way"]) (g:=(TM.XS.g ZgI)) ?_
 exact fun _ _ _ _ _ _ _ c _ _=>(Zp (ZN sL (cF c law_pick_d (jc vL (jc vL (jc jI Zf))))) (Zp (S1.ife (ZI (Zv vL jI ZaB) jI ZcA) (Zq (Zx jN)) ZO) (Zp (S1.ife (ZI (Zv vL jI ZaB) jI ZcA) (Zq (Zx jI)) ZO) (Zp (S1.ife (ZI (Zv vL jI ZaB) jI Zae) (Zq (Zx (Zv vL jI Zck))) ZO) (Zq (Zx (Zah (nB c) (jc (cF c ZcU (jc vL (jc vL Zf))) Zf) ZcY)))))))
theorem ZoC: DD w s₀ mg mb 556 1 Zoq:=by
 unfold DD;k_fill
 refine ZX (names:=["_law_m","_law_r"]) (g:=(TM.XS.g Zgg)) ?_
 exact fun _ _ _ _ _ _ _ c _ _=>(Zp (S1.ife (ZI vL jI Zae) (Zq (Zx (J.tup (jc jI (jc vL Zf))))) ZO) (Zq (Zx (J.tup (jc vL (jc (Zv vL vL ZaB) Zf))))))
theorem ZuT: DD w s₀ mg mb 563 3 Zph:=by
 unfold DD;k_fill
 refine ZX (names:=["_law_script","_law_k","_law_number_here","_law_way"]) (g:=(TM.XS.g Zg3)) ?_
 exact fun _ _ _ _ _ _ _ c _ _=>(Zp (ZN sL (cF c law_pick_d (jc vL (jc vL (jc jI Zf))))) (Zp (S1.ife (ZI (Zv vL jI ZaB) jI ZcA) (Zq (Zx (J.tup (jc jI (jc jI Zf))))) ZO) (Zp (S1.ife (ZI (Zv vL jI ZaB) jI Zae) (Zq (Zx (J.tup (jc jI (jc vL Zf))))) ZO) (Zp (S1.ife (ZI (Zv vL jI ZaB) jI Zae) (Zq (Zx (cF c ZoC (jc (Zv (Zv vL jI Zck) jI Z0) (jc vL Zf))))) ZO) (Zq (Zx (cF c ZoC (jc (Zah (nB c) (jc (cF c ZcU (jc vL (jc vL Zf))) Zf) ZcY) (jc vL Zf)))))))))
theorem ZpD: DD w s₀ mg mb 568 4 Zi3:=by
 unfold DD;k_fill
 refine ZX (names:=["_law_script","_law_k","_law_boxes","_law_full","_law_size","_law_bounds","_law_i","_law_row","_law_j","_law_top"]) (g:=(TM.XS.g Zg4)) ?_
 exact fun _ _ _ _ _ _ _ c _ _=>(Zp (ZN sL (Zv (J.list (jc jI Zf)) vC Z0)) (Zp (ZN sC (Zah (nB c) (jc vL Zf) ZaC)) (Zp (ZN sL (J.list Zf)) (Zp (ZbR sL (JI.range (nB c) (jc vC Zf)) (Zp (ZN sL (J.list Zf)) (Zp (ZbR sL (JI.range (nB c) (jc vC Zf)) (Zp (ZN sL (cF c Zlu (jc vC (jc (Zv (Zv vC (Zv vL vC Za9) Z0) vL Z0) Zf)))) (Zp (S1.ife (ZI vL jN ZbF) (Zq (ZN sL (Zv (Zv (Zm vL vL) (Zm vL vL) Za2) vL Z0))) ZO) (Zq (ZcZ (J.append vL vL)))))) (Zp (S1.put jI vL vL) (Zq (ZcZ (J.append vL vL))))))) (Zq (Zx (J.tup (jc vL (jc (by refine cO ?_ ?_ ?_;(exact(JI.range (nB c) (jc (Zv vC jI Za2) Zf)));(exact fun _ _=>(cF (Zbd c) ZuT (jc vD (jc (Zv (Zv vD (Zv vD vD Za9) Z0) vO Z0) (jc (Zm vD vO) Zf)))));(exact fun _ _=>JF.nil)) Zf)))))))))
theorem Zmg: DD w s₀ mg mb 608 3 ZpQ:=by
 unfold DD;k_fill
 refine ZX (names:=["_law_script","_law_k","_law_many","_law_one","_law_way","_law_at","_law_to","_law_i"]) (g:=Zl3) ?_
 exact fun _ _ _ _ _ _ _ c _ _=>(Zp (ZN sL (Zv (J.list (jc (cF c ZcU (jc vL (jc vL Zf))) Zf)) (Zv (J.list (jc jI Zf)) vL Za9) Z0)) (Zp (ZN sL (cF c law_pick_d (jc vL (jc vL (jc jI Zf))))) (Zp (S1.ife (ZaV (ZaN (ZI vL jI Zae) (ZaN (ZI vL jI Zae) Zch))) (Zq (Zx vL)) ZO) (Zp (ZN sL (Zv jI (cF c law_pick_d (jc vL (jc (Zv vL jI Z0) (jc vL Zf)))) Z0)) (Zp (S1.ife (ZI vL jI Zae) (Zq (S1.put (Zv (cF c law_pick_d (jc vL (jc (Zv vL jI Z0) (jc jI Zf)))) jI Za2) vL vL)) ZO) (Zp (S1.ife (ZaV (ZaN (ZI vL jI Zae) (ZaN (ZI vL jI Zae) Zch))) (Zp (ZN sL (Zv jI (cF c law_pick_d (jc vL (jc (Zv vL jI Z0) (jc vL Zf)))) Z0)) (Zp (S1.put jI vL vL) (Zq (S1.put (Zv (Zm vL vL) jI Za2) vL vL)))) ZO) (Zp (S1.ife (ZI vL jI Zae) (Zq (ZbR sL (JI.range (nB c) (jc vL Zf)) (Zq (S1.put (Zv (cF c law_pick_d (jc vL (jc (Zv (Zv vL jI Z0) vL Z0) (jc jI Zf)))) jI Za2) vL (Zv vL jI Z0))))) ZO) (Zp (S1.ife (ZI vL jI Zae) (Zq (ZbR sL (JI.range (nB c) (jc vL Zf)) (Zq (S1.put (Zv (cF c law_pick_d (jc vL (jc (Zv (Zv vL jI Z0) vL Z0) (jc jI Zf)))) jI Za2) vL (Zv vL jI Z0))))) ZO) (Zq (Zx vL))))))))))
theorem ZgY: DD w s₀ mg mb 613 1 ZoY:=by
 unfold DD;k_fill
 refine ZX (names:=["_law_one","_law_boxes"]) (g:=(TM.XS.g ZgR)) ?_
 exact fun _ _ _ _ _ _ _ c _ _=>(Zq (Zx (Zv (Zm vC jI) (Zah (nB c) (jc (by refine cO ?_ ?_ ?_;(exact(JI.range (nB c) (jc (Zah (nB c) (jc vC Zf) ZaC) Zf)));(exact fun _ _=>(Zv (Zm vD (Zv vO jI Z0)) (Zm vD vO) Za9));(exact fun _ _=>JF.nil)) Zf) Zym) Z0)))
theorem ZsN: DD w s₀ mg mb 620 4 Zof:=by
 unfold DD;k_fill
 refine ZX (names:=["_law_script","_law_k","_law_boxes","_law_one","_law_way"]) (g:=(TM.XS.g Zf9)) ?_
 exact fun _ _ _ _ _ _ _ c _ _=>(Zp (ZN sL (cF c Zmg (jc vL (jc vL (jc (Zah (nB c) (jc vL Zf) ZaC) Zf))))) (Zp (ZN sL (cF c law_pick_d (jc vL (jc (Zv vL jI Z0) (jc jI Zf))))) (Zp (S1.ife (ZaV (ZaZ (ZI (Zv vL jI ZaB) jI ZdC) (ZaZ (ZI (Zah (nB c) (jc (cF c ZgY (jc vL (jc vL Zf))) Zf) ZcY) (Zv (Zv jI jI Zia) (Zv jI jI Zia) Za9) ZcA) Zcv))) (Zq (S1.put (Zv (Zv (Zv (Zm vL jI) (cF c ZgY (jc vL (jc vL Zf))) Za2) (Zv vL jI ZaB) Z0) jI Za2) vL jI)) ZO) (Zp (S1.ife (ZI (Zv (Zv vL jI Zck) jI ZaB) jI Zae) (Zq (Zx (J.tup (jc jS (jc vL Zf))))) ZO) (Zp (S1.ife (ZI (Zv (Zv vL jI Zck) jI ZaB) jI Zae) (Zq (Zx (J.tup (jc jS (jc vL Zf))))) ZO) (Zq (Zx (J.tup (jc jS (jc vL (jc (Zv jI (Zv vL jI Zck) Z0) Zf)))))))))))
theorem ZuU: DD w s₀ mg mb 641 4 Zpu:=by
 unfold DD;k_fill
 refine ZX (names:=["_law_script","_law_k","_law_number_here","_law_lo","_law_hi"]) (g:=(TM.XS.g Zhn)) ?_
 exact fun _ _ _ _ _ _ _ c _ _=>(Zp (ZN sL (cF c Zlu (jc vL (jc vL Zf)))) (Zp (ZN sL (cF c Zlu (jc vL (jc (Zv vL jI Z0) Zf)))) (Zp (S1.ife (ZI vL jN ZbF) (Zq (ZN sL (Zv vL vL Za2))) ZO) (Zp (S1.ife (ZI vL jN ZbF) (Zq (ZN sL (Zv vL vL Z0))) ZO) (Zq (Zx (J.tup (jc vL (jc vL Zf)))))))))
theorem ZhM: DD w s₀ mg mb 634 1 ZpS:=by
 unfold DD;k_fill
 refine ZX (names:=["_law_boxes","_law_x","_law_number_here"]) (g:=(TM.XS.g ZhF)) ?_
 exact fun _ _ _ _ _ _ _ c _ _=>(Zq (Zx (Zv (Zv (Zew vL JP.none (JP.some (Zv vL jI Za2))) (J.list (jc vL Zf)) Z0) (Zew vL (JP.some vL) JP.none) Z0)))
theorem Ztn: DD w s₀ mg mb 648 3 ZoA:=by
 unfold DD;k_fill
 refine ZX (names:=["_law_script","_law_k","_law_span_here"]) (g:=(TM.XS.g Zgv)) ?_
 exact fun _ _ _ _ _ _ _ c _ _=>(Zp (S1.ife (ZaV (ZaZ (ZI (Zm vL jI) jN ZbF) (ZaZ (ZI (Zm vL jI) jN ZbF) Zcv))) (Zq (Zx (Zv (Zm vL jI) (Zv (Zah (nB c) (jc (cF c ZcU (jc vL (jc vL Zf))) Zf) ZcY) (Zv (Zv (Zm vL jI) (Zm vL jI) Za2) jI Z0) ZaB) Z0))) ZO) (Zp (S1.ife (ZI (Zm vL jI) jN ZbF) (Zq (Zx (Zv (Zm vL jI) (Zah (nB c) (jc (cF c ZcU (jc vL (jc vL Zf))) Zf) ZcY) Z0))) ZO) (Zp (S1.ife (ZI (Zm vL jI) jN ZbF) (Zq (Zx (Zv (Zm vL jI) (Zah (nB c) (jc (cF c ZcU (jc vL (jc vL Zf))) Zf) ZcY) Za2))) ZO) (Zq (Zx (cF c ZcU (jc vL (jc vL Zf))))))))
theorem Zsy: DD w s₀ mg mb 655 5 Zn4:=by
 unfold DD;k_fill
 refine ZX (names:=["_law_script","_law_k","_law_boxes","_law_x","_law_one","_law_number_here","_law_d","_law_way","_law_span_here"]) (g:=(TM.XS.g Zf1)) ?_
 exact fun _ _ _ _ _ _ _ c _ _=>(Zp (ZN sL (cF c Zmg (jc vL (jc (Zv vL jI Z0) (jc (Zah (nB c) (jc vL Zf) ZaC) Zf))))) (Zp (ZN sL (cF c ZgY (jc vL (jc vL Zf)))) (Zp (ZN sL (Zv jI (cF c law_pick_d (jc vL (jc (Zv vL jI Z0) (jc jI Zf)))) Z0)) (Zp (S1.ife (ZI (cF c law_pick_d (jc vL (jc (Zv vL jI Z0) (jc jI Zf)))) jI Zae) (Zq (ZN sL (Zah (nB c) (jc jI (jc (Zah (nB c) (jc (cF c ZcU (jc vL (jc (Zv vL jI Z0) Zf))) Zf) ZcY) Zf)) ZwR))) ZO) (Zp (ZN sL (cF c law_pick_d (jc vL (jc (Zv vL jI Z0) (jc jI Zf))))) (Zp (S1.ife (ZI vL jI Zae) (Zp (ZN sL (cF c ZuU (jc vL (jc (Zv vL jI Z0) (jc (cF c ZcU (jc vL (jc (Zv vL jI Z0) Zf))) Zf))))) (Zq (Zx (J.tup (jc (J.tup (jc jS (jc vL (jc (Zm vL jI) (jc (Zm vL jI) Zf))))) (jc (cF c ZhM (jc vL (jc vL (jc (cF c Ztn (jc vL (jc (Zv vL jI Z0) (jc vL Zf)))) Zf)))) Zf)))))) ZO) (Zp (S1.ife (ZI vL jI Zae) (Zq (Zx (J.tup (jc (J.tup (jc jS (jc vL (jc vL (jc vL Zf))))) (jc (cF c ZhM (jc vL (jc vL (jc (Zv vL vL Zck) Zf)))) Zf))))) ZO) (Zp (S1.ife (ZI vL jI Zae) (Zq (Zx (J.tup (jc (J.tup (jc jS (jc vL (jc vL (jc vL Zf))))) (jc (cF c ZhM (jc vL (jc vL (jc (Zv vL vL ZaB) Zf)))) Zf))))) ZO) (Zq (Zx (J.tup (jc (J.tup (jc jS (jc vL (jc vL Zf)))) (jc (cF c ZhM (jc vL (jc vL (jc vL Zf)))) Zf)))))))))))))
theorem Zs6: DD w s₀ mg mb 660 5 Zom:=by
 unfold DD;k_fill
 refine ZX (names:=["_law_script","_law_k","_law_boxes","_law_x","_law_row","_law_some","_law_answer"]) (g:=(TM.XS.g Zgf)) ?_
 exact fun _ _ _ _ _ _ _ c _ _=>(Zp (by refine sO sL ?_ ?_ ?_;(exact(JI.range (nB c) (jc (Zm (J.list (jc jI (jc jI (jc jI (jc jI Zf))))) (cF c law_pick_d (jc vC (jc (Zv vC jI Z0) (jc jI Zf))))) Zf)));(exact fun _ _=>(cF (Zbd c) Zmg (jc vD (jc (Zv vD vO Z0) (jc (Zah (nB (Zbd c)) (jc vD Zf) ZaC) Zf)))));(exact fun _ _=>JF.nil)) (Zp (by refine sO sL ?_ ?_ ?_;(exact(JI.seq vL));(exact fun _ _=>(cF (Zbd c) ZgY (jc vO (jc vD Zf))));(exact fun _ _=>JF.nil)) (Zp (ZN sL (cF c ZcU (jc vC (jc (Zv vC jI Z0) Zf)))) (Zp (S1.ife (ZaV (ZaZ (ZI (Zah (nB c) (jc vL Zf) ZaC) jI ZdC) (ZaZ (ZI (cF c law_pick_d (jc vC (jc (Zv vC jI Z0) (jc jI Zf)))) jI Zae) Zcv))) (Zq (ZN sL (Zv (Zv (Zm vL (ZbY jI ZbQ)) (cF c law_pick_d (jc vC (jc (Zv vC jI Z0) (jc jI Zf)))) Z0) jI Za2))) ZO) (Zq (Zx (J.tup (jc (J.tup (jc jS (jc vL (jc jI (jc vL Zf))))) (jc (cF c ZhM (jc vC (jc vL (jc vL Zf)))) (jc (J.list (jc jN (jc (cF c ZpD (jc vC (jc (Zv vC jI Z0) (jc (Zv vL (J.list (jc vL Zf)) Z0) Zf)))) Zf))) Zf))))))))))
theorem Zud: DD w s₀ mg mb 627 2 Zo4:=by
 unfold DD;k_fill
 refine ZX (names:=["_law_claim_here","_law_boxes","_law_number_here"]) (g:=(TM.XS.g Zei)) ?_
 exact fun _ _ _ _ _ _ _ c _ _=>(Zp (ZN sL (cF c ZgY (jc (Zm vL jI) (jc vL Zf)))) (Zp (S1.ife (ZI (Zm vL jI) jS Zae) (Zq (Zx (Zcd vL jI ZcA))) ZO) (Zp (S1.ife (ZI (Zm vL jI) jS Zae) (Zq (Zx (Zcd vL jI Zae))) ZO) (Zq (Zx (Zcd (Zv vL (Zm vL jI) ZaB) jI Zae))))))
theorem ZuV: DD w s₀ mg mb 667 6 Zjd:=by
 unfold DD;k_fill
 refine ZX (names:=["_law_script","_law_k","_law_boxes","_law_x","_law_way","_law_claim_here","_law_turn_here"]) (g:=(TM.XS.g Zho)) ?_
 exact fun _ _ _ _ _ _ _ c _ _=>(Zp (ZN sL (Zv jI (cF c law_pick_d (jc vL (jc (Zv vL jI Z0) (jc (Zah (nB c) (jc vL Zf) ZaC) Zf)))) Z0)) (Zp (ZN sL (cF c law_pick_d (jc vL (jc vL (jc jI Zf))))) (Zp (S1.ife (ZI vL jI Zae) (Zq (Zx (J.tup (jc (J.tup (jc jS Zf)) (jc vL (jc (J.list Zf) Zf)))))) ZO) (Zp (ZN sL (cF c ZsN (jc vL (jc (Zv vL jI Z0) (jc vL Zf))))) (Zp (S1.ife (ZI vL jI Zae) (Zq (Zx (J.tup (jc (J.tup (jc jS (jc vL Zf))) (jc vL (jc (J.list Zf) Zf)))))) ZO) (Zp (S1.ife (ZI vL jI ZcA) (Zq (Zx (J.tup (jc (J.tup (jc jS (jc vL (jc (cF c Zud (jc vL (jc vL Zf))) Zf)))) (jc vL (jc (J.list Zf) Zf)))))) ZO) (Zp (S1.ife (ZI vL jI ZcA) (Zq (Zx (cF c Zs6 (jc vL (jc vL (jc vL (jc vL Zf))))))) ZO) (Zp (ZN sL (cF c Zsy (jc vL (jc vL (jc vL (jc vL Zf)))))) (Zq (Zx (J.tup (jc (Zm vL jI) (jc (Zm vL jI) (jc (J.list Zf) Zf))))))))))))))
theorem ZoD: DD w s₀ mg mb 313 1 Zgk:=by
 unfold DD;k_fill
 refine ZX (names:=["rests"]) (g:=(TM.XS.g Zgj)) ?_
 exact fun _ _ _ _ _ _ _ c _ _=>(Zq (Zx (Zv (J.list (jc (J.tup (jc jI (jc jI Zf))) Zf)) vL Z0)))
theorem Zjr: DD w s₀ mg mb 162 1 ZpL:=by
 unfold DD;k_fill
 refine ZX (names:=["one","other","left","right","over"]) (g:=(TM.XS.g Zhv)) ?_
 exact fun _ _ _ _ _ _ _ c _ _=>(Zp (ZN sL (Zah (nB c) (jc vL Zf) ZcY)) (Zp (ZN sL (Zah (nB c) (jc vL Zf) ZcY)) (Zp (Zp7 1000000 (ZI vL jI Zcq) (Zp (ZN sL (Zv vL vL ZaB)) (Zp (ZN sL vL) (Zq (ZN sL vL))))) (Zq (Zx vL)))))
theorem ZfH: DD w s₀ mg mb 176 1 ZrL:=by
 unfold DD;k_fill
 refine ZX (names:=["m","r"]) (g:=(TM.XS.g Zie)) ?_
 exact fun _ _ _ _ _ _ _ c _ _=>(Zp (S1.ife (ZI vL jI ZcA) (Zq (ZAa)) ZO) (Zp (S1.ife (ZI vL jI Zae) (Zq (Zx (J.tup (jc jI (jc vL Zf))))) ZO) (Zq (Zx (J.tup (jc vL (jc (Zv vL vL ZaB) Zf)))))))
theorem ZvF: DD w s₀ mg mb 169 1 ZpM:=by
 unfold DD;k_fill
 refine ZX (names:=["one","by","left","right","left_turns","right_turns","part","over","over_turns"]) (g:=(TM.XS.g Zhw)) ?_
 exact fun _ _ _ _ _ _ _ c _ _=>(Zp (ZN sL (Zv vL vL ZaB)) (Zp (ZN sL vL) (Zp (ZN sL jI) (Zp (ZN sL jI) (Zp (Zp7 1000000 (ZI vL jI Zcq) (Zp (ZN sL (Zv vL vL Zck)) (Zp (ZN sL (Zv vL (Zv vL vL Za9) Za2)) (Zp (ZN sL (Zv vL (Zv vL vL Za9) Za2)) (Zp (ZN sL vL) (Zp (ZN sL vL) (Zp (ZN sL vL) (Zq (ZN sL vL))))))))) (Zq (Zx (Zv vL vL ZaB))))))))
theorem Zhs: DD w s₀ mg mb 183 1 Zpj:=by
 unfold DD;k_fill
 refine ZX (names:=["one","number"]) (g:=(TM.XS.g Zg6)) ?_
 exact fun _ _ _ _ _ _ _ c _ _=>(Zp (S1.ife (ZI (Zm vL jI) jI Zae) (Zq (Zx (Zcd vL (Zm vL jI) Zae))) ZO) (Zq (Zx (Zcd (Zv vL (Zm vL jI) ZaB) (Zm vL jI) Zae))))
theorem ZlU: DD w s₀ mg mb 197 2 Zpk:=by
 unfold DD;k_fill
 refine ZX (names:=["one","other","common","apart","width","turns"]) (g:=(TM.XS.g Zg8)) ?_
 exact fun _ _ _ _ _ _ _ c _ _=>(Zp (S1.ife (ZI (Zm vL jI) jI Zae) (Zq (Zx (J.ife (Za1 (cF c Zhs (jc vL (jc (Zm vL jI) Zf)))) vL jN))) ZO) (Zp (S1.ife (ZI (Zm vL jI) jI Zae) (Zq (Zx (J.ife (Za1 (cF c Zhs (jc vL (jc (Zm vL jI) Zf)))) vL jN))) ZO) (Zp (ZN sL (cF c Zjr (jc (Zm vL jI) (jc (Zm vL jI) Zf)))) (Zp (ZN sL (Zv (Zm vL jI) (Zm vL jI) Za2)) (Zp (S1.ife (ZI (Zv vL vL ZaB) jI Zcq) (Zq (Zx jN)) ZO) (Zp (ZN sL (Zv (Zm vL jI) vL Zck)) (Zp (ZN sL (Zv (Zv vL vL Zck) (cF c ZvF (jc (Zv (Zm vL jI) vL Zck) (jc vL Zf))) Za9)) (Zq (Zx (cF c ZfH (jc (Zv (Zm vL jI) vL Za9) (jc (Zv (Zm vL jI) (Zv (Zm vL jI) vL Za9) Z0) Zf))))))))))))
theorem Zfb: DD w s₀ mg mb 72 1 Zpl:=by
 unfold DD;k_fill
 refine ZX (names:=["one","other"]) (g:=(TM.XS.g Zg9)) ?_
 exact fun _ _ _ _ _ _ _ c _ _=>(Zp (S1.ife (ZaV (ZaN (ZI vL jN Zbl) (ZaN (ZI vL jN Zbl) Zch))) (Zq (Zx jN)) ZO) (Zq (Zx (Zv vL vL Z0))))
theorem Zlv: DD w s₀ mg mb 204 2 Zlk:=by
 unfold DD;k_fill
 refine ZX (names:=["one","other"]) (g:=(TM.XS.g ZgK)) ?_
 exact fun _ _ _ _ _ _ _ c _ _=>(Zq (Zx (cF c ZfH (jc (cF c Zjr (jc (Zm vL jI) (jc (Zm vL jI) Zf))) (jc (Zv (Zm vL jI) (Zm vL jI) Z0) Zf)))))
theorem Zs7: DD w s₀ mg mb 320 3 Zgd:=by
 unfold DD;k_fill
 refine ZX (names:=["bounds","rests","i","met","j","other"]) (g:=(TM.XS.g Zgc)) ?_
 exact fun _ _ _ _ _ _ _ c _ _=>(Zp (ZN sL (Zm vL vL)) (Zp (Zez sL sL (Zv6 (nB c) vL) (Zq (S1.ife (ZaV (ZaZ (ZI vL jN ZbF) (ZaZ (ZI (cF c Zfb (jc (Zm (Zm vL vL) vL) (jc (Zm (Zm vL vL) vL) Zf))) jI Zae) Zcv))) (Zq (ZN sL (cF c ZlU (jc vL (jc (cF c Zlv (jc vL (jc (J.tup (jc jI (jc (Zm (Zm vL vL) vL) Zf))) Zf))) Zf))))) ZO))) (Zq (Zx vL))))
theorem Zto: DD w s₀ mg mb 306 4 ZdO:=by
 unfold DD;k_fill
 refine ZX (names:=["told","rests","met"]) (g:=Zgm) ?_
 exact fun _ _ _ _ _ _ _ c _ _=>(Zp (S1.ife (ZI vC jN Zbl) (Zq (Zx jN)) ZO) (Zp (ZN sC (cF c ZoD (jc (Zm vC jI) Zf))) (Zp (by refine sO sL ?_ ?_ ?_;(exact(JI.range (nB c) (jc jI (jc (Zah (nB c) (jc vC Zf) ZaC) Zf))));(exact fun _ _=>(cF (Zbd c) Zs7 (jc (Zm vD jI) (jc vD (jc vO Zf)))));(exact fun _ _=>JF.nil)) (Zp (S1.ife (ZI jN vL Zir) (Zq (Zx jN)) ZO) (Zq (Zx (J.tup (jc (Zm vC jI) (jc vL Zf)))))))))
theorem Zo9: DD w s₀ mg mb 114 1 ZoT:=by
 unfold DD;k_fill
 refine ZX (names:=["one","other"]) (g:=(TM.XS.g ZgJ)) ?_
 exact fun _ _ _ _ _ _ _ c _ _=>(Zq (Zx (ZAD (Zcd vL jN Zbl) (Zkk (Zcd vL jN ZbF) (Zcd vL vL ZnA)))))
theorem ZqK: DD w s₀ mg mb 121 2 Zmp:=by
 unfold DD;k_fill
 refine ZX (names:=["one","other"]) (g:=(TM.XS.g ZhO)) ?_
 exact fun _ _ _ _ _ _ _ c _ _=>(Zq (Zx (J.ife (Za1 (cF c Zo9 (jc vL (jc vL Zf)))) vL vL)))
theorem ZsO: DD w s₀ mg mb 150 3 Zn8:=by
 unfold DD;k_fill
 refine ZX (names:=["row","there","further"]) (g:=(TM.XS.g Zf2)) ?_
 exact fun _ _ _ _ _ _ _ c _ _=>(Zq (Zx (by refine cT ?_ ?_;(exact(JI2.zip (nB c) vL vL));(exact fun _ _=>(cF (Zbd c) ZqK (jc vO (jc (cF (Zbd c) Zfb (jc vD (jc vO Zf))) Zf)))))))
theorem Zue: DD w s₀ mg mb 145 4 ZoV:=by
 unfold DD;k_fill
 refine ZX (names:=["bounds","mid"]) (g:=(TM.XS.g ZgL)) ?_
 exact fun _ _ _ _ _ _ _ c _ _=>(Zq (Zx (by refine cO ?_ ?_ ?_;(exact(JI.seq vC));(exact fun _ _=>(cF (Zbd c) ZsO (jc vO (jc (Zm vO vD) (jc (Zm vD vD) Zf)))));(exact fun _ _=>JF.nil))))
theorem Zs8: DD w s₀ mg mb 155 1 Zoh:=by
 unfold DD;k_fill
 refine ZX (names:=["bounds"]) (g:=(TM.XS.g Zga)) ?_
 exact fun _ _ _ _ _ _ _ c _ _=>(Zq (Zx (Zah (nB c) (jc (by refine cO ?_ ?_ ?_;(exact(JI.range (nB c) (jc (Zah (nB c) (jc vC Zf) ZaC) Zf)));(exact fun _ _=>(Zcd (Zm (Zm vD vO) vO) jI ZcA));(exact fun _ _=>JF.nil)) Zf) Zys)))
theorem ZwO: DD w s₀ mg mb 140 5 Zfl:=by
 unfold DD;k_fill
 refine ZX (names:=["bounds","near","mid"]) (g:=(TM.XS.g ZhP)) ?_
 exact fun _ _ _ _ _ _ _ c _ _=>(Zp (ZN sL vL) (Zp (ZbR sL (JI.range (nB c) (jc (Zah (nB c) (jc vL Zf) ZaC) Zf)) (Zp (ZN sL (cF c Zue (jc vL (jc vL Zf)))) (Zq (S1.ife (Za1 (cF c Zs8 (jc vL Zf))) (Zq (Zx jN)) ZO)))) (Zq (Zx vL))))
theorem ZzI: DD w s₀ mg mb 301 6 Zd2:=by
 unfold DD;k_fill
 refine ZX (names:=["told","bounds"]) (g:=Zkb) ?_
 exact fun _ _ _ _ _ _ _ c _ _=>(Zp (S1.ife (ZI vL jN Zbl) (Zq (Zx jN)) ZO) (Zp (ZN sL (cF c ZwO (jc (Zm vL jI) Zf))) (Zp (S1.ife (ZI vL jN Zbl) (Zq (Zx jN)) ZO) (Zq (Zx (J.tup (jc vL (jc (Zm vL jI) Zf))))))))
theorem Zsc: DD w s₀ mg mb 294 7 Zkd:=by
 unfold DD;k_fill
 refine ZX (names:=["told"]) (g:=Znm) ?_
 exact fun _ _ _ _ _ _ _ c _ _=>(Zq (Zx (cF c Zto (jc (cF c ZzI (jc vL Zf)) Zf))))
theorem ZtN: DD w s₀ mg mb 239 1 ZoF:=by
 unfold DD;k_fill
 refine ZX (names:=["one","top"]) (g:=(TM.XS.g ZgA)) ?_
 exact fun _ _ _ _ _ _ _ c _ _=>(Zp (S1.ife (ZI (Zm vL jI) jI Zae) (Zq (Zx (J.ife (ZI (Zm vL jI) vL ZnA) (Zm vL jI) jN))) ZO) (Zq (Zx (Zv vL (Zv (Zv vL (Zm vL jI) Za2) (Zm vL jI) ZaB) Za2))))
theorem ZsP: DD w s₀ mg mb 339 2 ZkL:=by
 unfold DD;k_fill
 refine ZX (names:=["bound","left"]) (g:=(TM.XS.g Zf4)) ?_
 exact fun _ _ _ _ _ _ _ c _ _=>(Zp (S1.ife (ZI vL jN ZbF) (Zq (Zx (cF c ZtN (jc vL (jc vL Zf))))) ZO) (Zp (S1.ife (ZI (Zm vL jI) jI Zae) (Zq (Zx (Zm vL jI))) ZO) (Zq (Zx jN))))
theorem Zlf: DD w s₀ mg mb 211 2 Zk8:=by
 unfold DD;k_fill
 refine ZX (names:=["one","k"]) (g:=(TM.XS.g Zgz)) ?_
 exact fun _ _ _ _ _ _ _ c _ _=>(Zq (Zx (cF c ZfH (jc (Zv (Zm vL jI) (Zah (nB c) (jc vL Zf) ZcY) Za9) (jc (Zv (Zm vL jI) vL Za9) Zf)))))
theorem Ztp: DD w s₀ mg mb 332 3 Zou:=by
 unfold DD;k_fill
 refine ZX (names:=["row","left","rests","new","bound","other","low"]) (g:=ZkY) ?_
 exact fun _ _ _ _ _ _ _ c _ _=>(Zp (ZN sL (J.list Zf)) (Zp (Zez sL sL (JI2.zip (nB c) vL vL) (Zp (ZN sL (cF c ZsP (jc vL (jc (cF c Zlv (jc vL (jc (cF c Zlf (jc vL (jc (ZbY jI ZbQ) Zf))) Zf))) Zf)))) (Zp (S1.ife (ZaV (ZaZ (ZI vL jN Zbl) (ZaZ (ZI vL jN ZbF) Zcv))) (Zq (Zx jN)) ZO) (Zq (ZcZ (J.append vL vL)))))) (Zq (Zx vL))))
theorem ZvG: DD w s₀ mg mb 325 4 ZpP:=by
 unfold DD;k_fill
 refine ZX (names:=["told","rests","bounds"]) (g:=(TM.XS.g Zff)) ?_
 exact fun _ _ _ _ _ _ _ c _ _=>(Zp (S1.ife (ZI vL jN Zbl) (Zq (Zx jN)) ZO) (Zp (ZN sC (cF c ZoD (jc (Zm vL jI) Zf))) (Zp (by refine sT sL ?_ ?_;(exact(JI2.zip (nB c) (Zm vL jI) vC));(exact fun _ _=>(cF (Zbd c) Ztp (jc vO (jc vO (jc vD Zf)))))) (Zp (S1.ife (ZI jN vL Zir) (Zq (Zx jN)) ZO) (Zq (Zx (J.tup (jc vL (jc (Zm vL jI) Zf)))))))))
theorem ZeG: DD w s₀ mg mb 287 8 ZjL:=by
 unfold DD;k_fill
 refine ZX (names:=["told"]) (g:=(TM.XS.g Zh6)) ?_
 exact fun _ _ _ _ _ _ _ c _ _=>(Zq (Zx (cF c Zsc (jc (cF c ZvG (jc (cF c Zsc (jc vL Zf)) Zf)) Zf))))
theorem Zfc: DD w s₀ mg mb 280 3 ZlH:=by
 unfold DD;k_fill
 refine ZX (names:=["one","rests","whole","k","part"]) (g:=(TM.XS.g Zhb)) ?_
 exact fun _ _ _ _ _ _ _ c _ _=>(Zp (ZN sL (J.tup (jc jI (jc (Zm vL jI) Zf)))) (Zp (Zez sL sL (JI2.zip (nB c) (ZjY vL jI) vL) (Zq (ZN sL (cF c Zlv (jc vL (jc (cF c Zlf (jc vL (jc vL Zf))) Zf)))))) (Zq (Zx vL))))
theorem ZoE: DD w s₀ mg mb 133 1 Zov:=by
 unfold DD;k_fill
 refine ZX (names:=["i","n"]) (g:=(TM.XS.g Zgo)) ?_
 exact fun _ _ _ _ _ _ _ c _ _=>(Zq (Zx (by refine cO ?_ ?_ ?_;(exact(JI.range (nB c) (jc (Zv vL jI Z0) Zf)));(exact fun _ _=>(J.ife (ZI vD vO Zae) jI jN));(exact fun _ _=>JF.nil))))
theorem Zki: DD w s₀ mg mb 26 1 Zig:=by
 unfold DD;k_fill
 refine ZX (names:=["row","x","thing"]) (g:=Zkf) ?_
 exact fun _ _ _ _ _ _ _ c _ _=>(Zq (Zx (Zv (Zv (Zew vL JP.none (JP.some (Zv vL jI Za2))) (J.list (jc vL Zf)) Z0) (Zew vL (JP.some vL) JP.none) Z0)))
theorem ZuW: DD w s₀ mg mb 392 2 Zpo:=by
 unfold DD;k_fill
 refine ZX (names:=["bounds","x","loose"]) (g:=(TM.XS.g Zhd)) ?_
 exact fun _ _ _ _ _ _ _ c _ _=>(Zp (by refine sO sL ?_ ?_ ?_;(exact(JI.seq vL));(exact fun _ _=>(cF (Zbd c) Zki (jc vO (jc (Zv vD jI Z0) (jc jN Zf)))));(exact fun _ _=>JF.nil)) (Zp (S1.put (cF c ZoE (jc vC (jc (Zv (Zah (nB c) (jc vL Zf) ZaC) jI Za2) Zf))) vL vC) (Zq (Zx vL))))
theorem ZgZ: DD w s₀ mg mb 86 1 Zlp:=by
 unfold DD;k_fill
 refine ZX (names:=["end","k"]) (g:=(TM.XS.g ZgN)) ?_
 exact fun _ _ _ _ _ _ _ c _ _=>(Zp (S1.ife (ZI vL jN Zbl) (Zq (Zx jN)) ZO) (Zq (Zx (Zv vL vL Za9))))
theorem ZuX: DD w s₀ mg mb 346 2 Zpp:=by
 unfold DD;k_fill
 refine ZX (names:=["bounds","i","one"]) (g:=Zi7) ?_
 exact fun _ _ _ _ _ _ _ c _ _=>(Zp (S1.put (Zm vL jI) (Zm vL vL) jI) (Zq (S1.put (cF c ZgZ (jc (Zm vL jI) (jc (ZbY jI ZbQ) Zf))) (Zm vL jI) vL)))
theorem Znz: DD w s₀ mg mb 387 9 Zii:=by
 unfold DD;k_fill
 refine ZX (names:=["told","x","span","left","bounds"]) (g:=(TM.XS.g Zih)) ?_
 exact fun _ _ _ _ _ _ _ c _ _=>(Zp (S1.ife (ZI vL jN Zbl) (Zq (Zx jN)) ZO) (Zp (ZN sL (cF c ZuW (jc (Zm vL jI) (jc vL Zf)))) (Zp (ZcZ (cF c ZuX (jc vL (jc vL (jc vL Zf))))) (Zq (Zx (cF c ZeG (jc (J.tup (jc vL (jc (cF c Zki (jc (Zm vL jI) (jc vL (jc vL Zf)))) Zf))) Zf)))))))
theorem ZsQ: DD w s₀ mg mb 363 1 Zoa:=by
 unfold DD;k_fill
 refine ZX (names:=["one"]) (g:=(TM.XS.g Zf5)) ?_
 exact fun _ _ _ _ _ _ _ c _ _=>(Zq (Zx (Zcd (Zah (nB c) (jc (by refine cO ?_ ?_ ?_;(exact(JI.seq (ZjY vL jI)));(exact fun _ _=>vO);(exact fun _ _=>JF.one (ZI vO jI Zcq))) Zf) Zve) (J.list (jc (ZbY jI ZbQ) (jc jI Zf))) Zae)))
theorem Zs9: DD w s₀ mg mb 65 2 Zoj:=by
 unfold DD;k_fill
 refine ZX (names:=["one","other"]) (g:=(TM.XS.g Zgb)) ?_
 exact fun _ _ _ _ _ _ _ c _ _=>(Zq (Zx (J.tup (jc (cF c Zfb (jc (Zm vL jI) (jc (Zm vL jI) Zf))) (jc (cF c Zfb (jc (Zm vL jI) (jc (Zm vL jI) Zf))) Zf)))))
theorem ZsR: DD w s₀ mg mb 79 2 Zn9:=by
 unfold DD;k_fill
 refine ZX (names:=["one","k","lo","hi"]) (g:=(TM.XS.g Zf3)) ?_
 exact fun _ _ _ _ _ _ _ c _ _=>(Zp (S1.ife (ZI vL jI Zae) (Zq (Zx (J.tup (jc jI (jc jI Zf))))) ZO) (Zp (ZN sL (cF c ZgZ (jc (Zm vL jI) (jc vL Zf)))) (Zp (ZN sL (cF c ZgZ (jc (Zm vL jI) (jc vL Zf)))) (Zp (S1.ife (ZI vL jI ZcA) (Zq (Zx (J.tup (jc vL (jc vL Zf))))) ZO) (Zq (Zx (J.tup (jc vL (jc vL Zf)))))))))
theorem Ztq: DD w s₀ mg mb 273 3 Zot:=by
 unfold DD;k_fill
 refine ZX (names:=["one","stretches","whole","k","part"]) (g:=(TM.XS.g Zgi)) ?_
 exact fun _ _ _ _ _ _ _ c _ _=>(Zp (ZN sL (J.tup (jc (Zm vL jI) (jc (Zm vL jI) Zf)))) (Zp (Zez sL sL (JI2.zip (nB c) (ZjY vL jI) vL) (Zq (ZN sL (cF c Zs9 (jc vL (jc (cF c ZsR (jc vL (jc vL Zf))) Zf)))))) (Zq (Zx vL))))
theorem Zta: DD w s₀ mg mb 351 2 Zol:=by
 unfold DD;k_fill
 refine ZX (names:=["told","bounds"]) (g:=(TM.XS.g Zge)) ?_
 exact fun _ _ _ _ _ _ _ c _ _=>(Zp (ZN sC (Zm vL jI)) (Zq (Zx (by refine cO ?_ ?_ ?_;(exact(JI.range (nB c) (jc jI (jc (Zah (nB c) (jc vC Zf) ZaC) Zf))));(exact fun _ _=>(J.tup (jc (cF (Zbd c) ZgZ (jc (Zm (Zm vD jI) vO) (jc (ZbY jI ZbQ) Zf))) (jc (Zm (Zm vD vO) jI) Zf))));(exact fun _ _=>JF.nil)))))
theorem Zht: DD w s₀ mg mb 358 4 ZlM:=by
 unfold DD;k_fill
 refine ZX (names:=["told","one"]) (g:=(TM.XS.g Zhf)) ?_
 exact fun _ _ _ _ _ _ _ c _ _=>(Zp (S1.ife (Za1 (cF c ZsQ (jc vL Zf))) (Zq (Zx (cF c Zfb (jc (Zm (Zm (Zm vL jI) (J.index vL jI jI)) (J.index vL (ZbY jI ZbQ) jI)) (jc (Zm vL jI) Zf))))) ZO) (Zq (Zx (Zm (cF c Ztq (jc vL (jc (cF c Zta (jc vL Zf)) Zf))) jI))))
theorem ZuY: DD w s₀ mg mb 254 1 Zpq:=by
 unfold DD;k_fill
 refine ZX (names:=["one","other"]) (g:=(TM.XS.g Zhi)) ?_
 exact fun _ _ _ _ _ _ _ c _ _=>(Zq (Zx (by refine cT ?_ ?_;(exact(JI2.zip (nB c) vL vL));(exact fun _ _=>(Zv vO vO Z0)))))
theorem Zej: DD w s₀ mg mb 259 1 Zlq:=by
 unfold DD;k_fill
 refine ZX (names:=["one","k"]) (g:=(TM.XS.g ZgQ)) ?_
 exact fun _ _ _ _ _ _ _ c _ _=>(Zq (Zx (by refine cO ?_ ?_ ?_;(exact(JI.seq vL));(exact fun _ _=>(Zv vO vD Za9));(exact fun _ _=>JF.nil))))
theorem Zji: DD w s₀ mg mb 266 2 ZlO:=by
 unfold DD;k_fill
 refine ZX (names:=["one","other"]) (g:=(TM.XS.g Zhj)) ?_
 exact fun _ _ _ _ _ _ _ c _ _=>(Zq (Zx (cF c ZuY (jc vL (jc (cF c Zej (jc vL (jc (ZbY jI ZbQ) Zf))) Zf)))))
theorem ZtO: DD w s₀ mg mb 380 5 ZoG:=by
 unfold DD;k_fill
 refine ZX (names:=["told","one","others"]) (g:=(TM.XS.g ZgB)) ?_
 exact fun _ _ _ _ _ _ _ c _ _=>(Zq (Zx (by refine cO ?_ ?_ ?_;(exact(JI.seq vL));(exact fun _ _=>(cF (Zbd c) Zht (jc vD (jc (cF (Zbd c) Zji (jc vD (jc vO Zf))) Zf))));(exact fun _ _=>JF.nil))))
theorem Zeq: DD w s₀ mg mb 244 1 Zfh:=by
 unfold DD;k_fill
 refine ZX (names:=["i","n"]) (g:=(TM.XS.g ZhC)) ?_
 exact fun _ _ _ _ _ _ _ c _ _=>(Zq (Zx (by refine cO ?_ ?_ ?_;(exact(JI.range (nB c) (jc (Zv vL jI Z0) Zf)));(exact fun _ _=>(J.ife (ZaV (ZaZ (ZI vD jI ZdC) (ZaZ (ZI vO vD Zae) Zcv))) jI jI));(exact fun _ _=>JF.nil))))
theorem ZmH: DD w s₀ mg mb 375 9 ZhS:=by
 unfold DD;k_fill
 refine ZX (names:=["told","sums","all_sums","bounds","rests"]) (g:=(TM.XS.g ZhR)) ?_
 exact fun _ _ _ _ _ _ _ c _ _=>(Zp (S1.ife (ZI vC jN Zbl) (Zq (Zx jN)) ZO) (Zp (ZN sC (Zv (J.list (jc (cF c Zeq (jc jI (jc (Zah (nB c) (jc (Zm vC jI) Zf) ZaC) Zf))) Zf)) vL Z0)) (Zp (by refine sO sL ?_ ?_ ?_;(exact(JI.seq vC));(exact fun _ _=>(cF (Zbd c) ZtO (jc vD (jc vO (jc vD Zf)))));(exact fun _ _=>JF.nil)) (Zp (by refine sO sL ?_ ?_ ?_;(exact(JI.seq vL));(exact fun _ _=>(cF (Zbd c) Zfc (jc vO (jc (Zm vD jI) Zf))));(exact fun _ _=>JF.nil)) (Zq (Zx (cF c ZeG (jc (J.tup (jc vL (jc vL Zf))) Zf))))))))
theorem ZrB: DD w s₀ mg mb 370 5 ZmX:=by
 unfold DD;k_fill
 refine ZX (names:=["told","one"]) (g:=(TM.XS.g Zh7)) ?_
 exact fun _ _ _ _ _ _ _ c _ _=>(Zq (Zx (cF c ZgZ (jc (cF c Zht (jc vL (jc (cF c Zej (jc vL (jc (ZbY jI ZbQ) Zf))) Zf))) (jc (ZbY jI ZbQ) Zf)))))
theorem ZiS: DD w s₀ mg mb 100 1 ZiQ:=by
 unfold DD;k_fill
 refine ZX (names:=["end","k"]) (g:=(TM.XS.g ZgE)) ?_
 exact fun _ _ _ _ _ _ _ c _ _=>(Zp (S1.ife (ZI vL jN Zbl) (Zq (Zx jN)) ZO) (Zq (Zx (Zv vL vL Zck))))
theorem Zn7: DD w s₀ mg mb 93 2 ZkG:=by
 unfold DD;k_fill
 refine ZX (names:=["one","k"]) (g:=(TM.XS.g ZfX)) ?_
 exact fun _ _ _ _ _ _ _ c _ _=>(Zq (Zx (J.tup (jc (cF c ZiS (jc (Zm vL jI) (jc vL Zf))) (jc (cF c ZiS (jc (Zm vL jI) (jc vL Zf))) Zf)))))
theorem Zsz: DD w s₀ mg mb 107 3 ZkH:=by
 unfold DD;k_fill
 refine ZX (names:=["one","k","parts"]) (g:=(TM.XS.g ZfZ)) ?_
 exact fun _ _ _ _ _ _ _ c _ _=>(Zp (ZN sL (cF c Zn7 (jc vL (jc vL Zf)))) (Zp (S1.ife (ZaV (ZaZ (ZI (Zm vL jI) jN ZbF) (ZaZ (ZI (Zm vL jI) (Zm vL jI) Zae) Zcv))) (Zq (Zx (J.tup (jc (Zv (Zm vL jI) vL ZaB) (jc (Zv (Zm vL jI) vL ZaB) Zf))))) ZO) (Zq (Zx (J.tup (jc jI (jc (Zv vL jI Za2) Zf)))))))
theorem Ztr: DD w s₀ mg mb 225 2 Zk5:=by
 unfold DD;k_fill
 refine ZX (names:=["one","k","common"]) (g:=(TM.XS.g Zgr)) ?_
 exact fun _ _ _ _ _ _ _ c _ _=>(Zp (ZN sL (cF c Zjr (jc (Zm vL jI) (jc vL Zf)))) (Zp (S1.ife (ZI vL vL Zae) (Zq (Zx (J.tup (jc jI (jc (Zv (Zm vL jI) vL ZaB) Zf))))) ZO) (Zq (Zx (cF c ZfH (jc vL (jc (Zm vL jI) Zf)))))))
theorem Zts: DD w s₀ mg mb 218 2 Zk6:=by
 unfold DD;k_fill
 refine ZX (names:=["one","k"]) (g:=(TM.XS.g Zgt)) ?_
 exact fun _ _ _ _ _ _ _ c _ _=>(Zp (S1.ife (ZI (Zv (Zm vL jI) vL ZaB) jI Zae) (Zq (Zx (cF c ZfH (jc (Zv (Zm vL jI) vL Zck) (jc (Zv (Zm vL jI) vL Zck) Zf))))) ZO) (Zq (Zx (J.tup (jc jI (jc jI Zf))))))
theorem ZlV: DD w s₀ mg mb 249 2 Zhl:=by
 unfold DD;k_fill
 refine ZX (names:=["many","n"]) (g:=(TM.XS.g Zhk)) ?_
 exact fun _ _ _ _ _ _ _ c _ _=>(Zq (Zx (by refine cO ?_ ?_ ?_;(exact(JI.range (nB c) (jc jI (jc (Zv vL jI Z0) Zf))));(exact fun _ _=>(cF (Zbd c) Zeq (jc vO (jc vD Zf))));(exact fun _ _=>JF.nil))))
theorem ZvH: DD w s₀ mg mb 521 10 ZpT:=by
 unfold DD;k_fill
 refine ZX (names:=["told","act","n","span","left"]) (g:=Zl7) ?_
 exact fun _ _ _ _ _ _ _ c _ _=>(Zp (S1.ife (ZI (Zm vL jI) jS Zae) (Zp (ZN sL (Zah (nB c) (jc (Zm vL jI) Zf) ZaC)) (Zq (Zx (cF c ZmH (jc vL (jc (cF c Zki (jc (cF c ZlV (jc vL (jc vL Zf))) (jc (Zm vL jI) (jc (Zm vL jI) Zf)))) Zf)))))) ZO) (Zp (S1.ife (ZI (Zm vL jI) jS Zae) (Zq (Zx (cF c Znz (jc vL (jc (Zm vL jI) (jc (J.tup (jc (Zm vL jI) (jc (Zm vL jI) Zf))) (jc (J.tup (jc jI (jc jI Zf))) Zf))))))) ZO) (Zp (ZN sL (J.tup (jc (cF c ZrB (jc vL (jc (Zm vL jI) Zf))) (jc (cF c Zht (jc vL (jc (Zm vL jI) Zf))) Zf)))) (Zp (ZN sL (cF c Zfc (jc (Zm vL jI) (jc (Zm vL jI) Zf)))) (Zp (S1.ife (ZI (Zm vL jI) jS Zae) (Zq (Zx (cF c Znz (jc vL (jc (Zm vL jI) (jc (cF c Zn7 (jc vL (jc (Zm vL jI) Zf))) (jc (cF c Zts (jc vL (jc (Zm vL jI) Zf))) Zf))))))) ZO) (Zq (Zx (cF c Znz (jc vL (jc (Zm vL jI) (jc (cF c Zsz (jc vL (jc (Zm vL jI) Zf))) (jc (cF c Ztr (jc vL (jc (Zm vL jI) Zf))) Zf))))))))))))
theorem ZqL: ∀n:Nat,Def PySem.Challenge.rw_seer_k58_whole_outcomes_keep_boxes.row.prog w (head.heap_39 w.params) head.view_39 (looseW head.view_39 []) (ExcName.means s₀.heap) mg mb 19 (n) (Zfm n)
 | 0=>Zwg
 | n+1=>by
  have ih:=ZqL n
  k_fill
  refine' ZrD (names:=["thing"]) (n:=1) (room:=n) (g:=ZmW (Zfm n)) (ho:=?ho) (hcd:=?hcd) (nd:=by decide) (hn:=by decide) (hbind:=?hb) (hkinds:=?hk) (hone:=?h1) (hco:=?z1) (hgen:=?z2) (hk:=?z3) (hbody:=?hbody)
  case ho=>k_is
  case z1=>rfl
  case z2=>rfl
  case z3=>rfl
  case hcd=>k_is
  case hb=>intro s xs hx;match xs,hx with | [x0],_=>exact BindsTo.of_eq rfl
  case hk=>decide
  case h1=>decide +kernel
  case hbody=>
   intro dp un gd L outer h₀ hu clr hd1 hu1
   exact(Zp (S1.ife (Za1 (Zdw (nB clr) (nB clr) (.inr (.inr (.inl rfl))) vL)) (Zq (Zx (by refine cO ?_ ?_ ?_;(exact(JI.seq vL));(exact fun _ _=>(cF (Zbd clr) ih (jc vO Zf)));(exact fun _ _=>JF.nil)))) ZO) (Zp (S1.ife (Za1 (Zdw (nB clr) (nB clr) (.inr (.inr (.inr rfl))) vL)) (Zq (Zx (ZjD (nB clr) (jc (by refine cO ?_ ?_ ?_;(exact(JI.seq vL));(exact fun _ _=>(cF (Zbd clr) ih (jc vO Zf)));(exact fun _ _=>JF.nil)) Zf) Zu8))) ZO) (Zq (Zx vL))))
theorem ZjX: Def PySem.Challenge.rw_seer_k58_whole_outcomes_keep_boxes.row.prog w (head.heap_39 w.params) head.view_39 (looseW head.view_39 []) (ExcName.means s₀.heap) mg mb 19 9 Zq3:=ZqL 9
theorem Zjj: DD w s₀ mg mb 128 3 Zhe:=by
 unfold DD;k_fill
 refine ZX (names:=["bounds","i","j","bound"]) (g:=Zi8) ?_
 exact fun _ _ _ _ _ _ _ c _ _=>(Zq (S1.put (cF c ZqK (jc (Zm (Zm vL vL) vL) (jc vL Zf))) (Zm vL vL) vL))
theorem ZoM: DD w s₀ mg mb 446 5 ZiO:=by
 unfold DD;k_fill
 refine ZX (names:=["told","part","one","top"]) (g:=(TM.XS.g ZgC)) ?_
 exact fun _ _ _ _ _ _ _ c _ _=>(Zq (Zx (cF c Zfb (jc (cF c Zht (jc vL (jc (cF c Zji (jc vL (jc vL Zf))) Zf))) (jc vL Zf)))))
theorem Ztt: DD w s₀ mg mb 432 6 Zox:=by
 unfold DD;k_fill
 refine ZX (names:=["bounds","told","one","top","n","i","j","apart"]) (g:=ZiI) ?_
 exact fun _ _ _ _ _ _ _ c _ _=>(Zp (ZN sL (Zah (nB c) (jc (Zm vL jI) Zf) ZaC)) (Zq (ZbR sL (JI.range (nB c) (jc (Zv vL jI Z0) Zf)) (Zq (ZbR sL (JI.range (nB c) (jc (Zv vL jI Z0) Zf)) (Zp (ZN sL (cF c Zji (jc (cF c Zeq (jc vL (jc vL Zf))) (jc (cF c Zeq (jc vL (jc vL Zf))) Zf)))) (Zq (ZcZ (cF c Zjj (jc vL (jc vL (jc vL (jc (cF c ZoM (jc vL (jc vL (jc vL (jc vL Zf))))) Zf)))))))))))))
theorem Ztu: DD w s₀ mg mb 439 6 Zoy:=by
 unfold DD;k_fill
 refine ZX (names:=["bounds","told","one","top","n","i","k","bound"]) (g:=ZiJ) ?_
 exact fun _ _ _ _ _ _ _ c _ _=>(Zp (ZN sL (Zah (nB c) (jc (Zm vL jI) Zf) ZaC)) (Zq (ZbR sL (JI.range (nB c) (jc jI (jc (Zv vL jI Z0) Zf))) (Zp (ZN sL (Zm vL vL)) (Zp (ZN sL (cF c ZoM (jc vL (jc (cF c Zej (jc (cF c Zeq (jc vL (jc vL Zf))) (jc vL Zf))) (jc vL (jc vL Zf)))))) (Zp (S1.ife (ZI vL jI ZdC) (Zq (ZcZ (cF c Zjj (jc vL (jc vL (jc jI (jc (cF c ZiS (jc vL (jc vL Zf))) Zf))))))) ZO) (Zq (S1.ife (ZI vL jI ZcA) (Zq (ZcZ (cF c Zjj (jc vL (jc jI (jc vL (jc (cF c ZiS (jc vL (jc (ZbY vL ZbQ) Zf))) Zf))))))) ZO))))))))
theorem ZvI: DD w s₀ mg mb 58 1 ZpN:=by
 unfold DD;k_fill
 refine ZX (names:=["lo","hi"]) (g:=(TM.XS.g Zhx)) ?_
 exact fun _ _ _ _ _ _ _ c _ _=>(Zq (Zx (Zy4 (Zcd vL jN ZbF) (Zkk (Zcd vL jN ZbF) (Zcd vL vL ZdC)))))
theorem ZhN: DD w s₀ mg mb 425 10 ZpR:=by
 unfold DD;k_fill
 refine ZX (names:=["told","one","top","bounds"]) (g:=(TM.XS.g ZhD)) ?_
 exact fun _ _ _ _ _ _ _ c _ _=>(Zp (S1.ife (ZaV (ZaN (ZI vL jN Zbl) (ZaN (Za1 (cF c ZvI (jc (cF c ZrB (jc vL (jc vL Zf))) (jc vL Zf)))) Zch))) (Zq (Zx jN)) ZO) (Zp (ZN sL (cF c ZjX (jc (Zm vL jI) Zf))) (Zp (ZcZ (cF c Ztt (jc vL (jc vL (jc vL (jc vL Zf)))))) (Zp (ZcZ (cF c Ztu (jc vL (jc vL (jc vL (jc vL Zf)))))) (Zq (Zx (cF c ZeG (jc (J.tup (jc vL (jc (Zm vL jI) Zf))) Zf))))))))
theorem ZtP: DD w s₀ mg mb 460 11 ZoI:=by
 unfold DD;k_fill
 refine ZX (names:=["told","one","truth"]) (g:=(TM.XS.g Ze2)) ?_
 exact fun _ _ _ _ _ _ _ c _ _=>(Zp (S1.ife (Za1 vL) (Zq (Zx (cF c ZhN (jc vL (jc vL (jc (ZbY jI ZbQ) Zf)))))) ZO) (Zq (Zx (cF c ZhN (jc vL (jc (cF c Zej (jc vL (jc (ZbY jI ZbQ) Zf))) (jc jI Zf)))))))
theorem Zog: DD w s₀ mg mb 232 2 Zob:=by
 unfold DD;k_fill
 refine ZX (names:=["one","k"]) (g:=(TM.XS.g Zf6)) ?_
 exact fun _ _ _ _ _ _ _ c _ _=>(Zq (Zx (cF c ZfH (jc (cF c Zjr (jc (Zm vL jI) (jc vL Zf))) (jc (Zm vL jI) Zf)))))
theorem Ztv: DD w s₀ mg mb 507 4 Zoz:=by
 unfold DD;k_fill
 refine ZX (names:=["rests","one","d","i","k","left","others"]) (g:=(TM.XS.g Zgq)) ?_
 exact fun _ _ _ _ _ _ _ c _ _=>(Zp (ZN sL (Zm vL vL)) (Zp (ZN sL (Zm vL (Zv vL jI Za2))) (Zp (S1.ife (ZI (Zah (nB c) (jc vL Zf) ZcY) jI Zcq) (Zq (Zx vL)) ZO) (Zp (ZN sL (cF c Zji (jc vL (jc (cF c Zej (jc (cF c Zeq (jc vL (jc (Zah (nB c) (jc vL Zf) ZaC) Zf))) (jc vL Zf))) Zf)))) (Zq (Zx (cF c ZlU (jc vL (jc (cF c Zog (jc (cF c Zlf (jc (cF c Zfc (jc vL (jc vL Zf))) (jc (ZbY vL ZbQ) Zf))) (jc vL Zf))) Zf)))))))))
theorem Zpa: DD w s₀ mg mb 500 9 ZoZ:=by
 unfold DD;k_fill
 refine ZX (names:=["told","one","d","rests"]) (g:=(TM.XS.g ZgT)) ?_
 exact fun _ _ _ _ _ _ _ c _ _=>(Zp (S1.ife (ZI vC jN Zbl) (Zq (Zx jN)) ZO) (Zp (by refine sO sL ?_ ?_ ?_;(exact(JI.range (nB c) (jc jI (jc (Zah (nB c) (jc vC Zf) ZaC) Zf))));(exact fun _ _=>(cF (Zbd c) Ztv (jc (Zm vD jI) (jc vD (jc vD (jc vO Zf))))));(exact fun _ _=>JF.nil)) (Zp (S1.ife (ZI jN vL Zir) (Zq (Zx jN)) ZO) (Zq (Zx (cF c ZeG (jc (J.tup (jc (Zm vC jI) (jc vL Zf))) Zf)))))))
theorem Zpb: DD w s₀ mg mb 488 10 Zo1:=by
 unfold DD;k_fill
 refine ZX (names:=["told","one","d"]) (g:=(TM.XS.g ZgU)) ?_
 exact fun _ _ _ _ _ _ _ c _ _=>(Zp (S1.ife (Zcj (Za1 (cF c Zhs (jc (cF c Zog (jc (cF c Zfc (jc vL (jc (Zm vL jI) Zf))) (jc vL Zf))) (jc jI Zf))))) (Zq (Zx jN)) ZO) (Zq (Zx (cF c Zpa (jc vL (jc vL (jc vL Zf)))))))
theorem Ztw: DD w s₀ mg mb 190 2 Zos:=by
 unfold DD;k_fill
 refine ZX (names:=["one","other"]) (g:=(TM.XS.g Zgh)) ?_
 exact fun _ _ _ _ _ _ _ c _ _=>(Zp (S1.ife (ZI (Zm vL jI) jI Zae) (Zq (Zx (Zcd vL vL Zae))) ZO) (Zq (Zx (Zkk (Zcd (Zv (Zm vL jI) (Zm vL jI) ZaB) jI Zae) (cF c Zhs (jc vL (jc (Zm vL jI) Zf)))))))
theorem ZsS: DD w s₀ mg mb 495 11 Zod:=by
 unfold DD;k_fill
 refine ZX (names:=["told","one","d"]) (g:=(TM.XS.g Ze1)) ?_
 exact fun _ _ _ _ _ _ _ c _ _=>(Zp (S1.ife (Za1 (cF c Ztw (jc (cF c Zfc (jc vL (jc (Zm vL jI) Zf))) (jc (J.tup (jc vL (jc jI Zf))) Zf)))) (Zq (Zx jN)) ZO) (Zp (S1.ife (ZI vL jI Zae) (Zq (Zx (cF c Zpb (jc vL (jc (Zv (J.list (jc (Zv (Zm vL jI) jI Z0) Zf)) (ZjY vL jI) Z0) (jc jI Zf)))))) ZO) (Zq (Zx (cF c ZjX (jc vL Zf))))))
theorem Zuf: DD w s₀ mg mb 467 11 Zo3:=by
 unfold DD;k_fill
 refine ZX (names:=["told","one","held"]) (g:=(TM.XS.g ZgV)) ?_
 exact fun _ _ _ _ _ _ _ c _ _=>(Zp (S1.ife (Zcj (Za1 (cF c Zhs (jc (cF c Zfc (jc vL (jc (Zm vL jI) Zf))) (jc jI Zf))))) (Zq (Zx jN)) ZO) (Zp (ZN sL (cF c ZhN (jc (cF c ZhN (jc vL (jc vL (jc jI Zf)))) (jc (cF c Zej (jc vL (jc (ZbY jI ZbQ) Zf))) (jc jI Zf))))) (Zq (Zx (cF c Zpa (jc vL (jc vL (jc jI Zf))))))))
theorem ZpE: DD w s₀ mg mb 481 11 Zpr:=by
 unfold DD;k_fill
 refine ZX (names:=["told","one"]) (g:=(TM.XS.g Zfa)) ?_
 exact fun _ _ _ _ _ _ _ c _ _=>(Zp (S1.ife (ZaV (ZaZ (ZI vL jN ZbF) (ZaZ (Za1 (cF c Zo9 (jc (cF c Zht (jc vL (jc vL Zf))) (jc jI Zf)))) Zcv))) (Zq (Zx (cF c ZhN (jc vL (jc vL (jc (ZbY jI ZbQ) Zf)))))) ZO) (Zq (Zx vL)))
theorem ZsT: DD w s₀ mg mb 474 12 Zoe:=by
 unfold DD;k_fill
 refine ZX (names:=["told","one"]) (g:=(TM.XS.g Zf8)) ?_
 exact fun _ _ _ _ _ _ _ c _ _=>(Zq (Zx (cF c ZjX (jc (cF c ZpE (jc (cF c ZpE (jc vL (jc vL Zf))) (jc (cF c Zej (jc vL (jc (ZbY jI ZbQ) Zf))) Zf))) Zf))))
theorem ZzJ: DD w s₀ mg mb 453 13 ZrP:=by
 unfold DD;k_fill
 refine ZX (names:=["told","claim","truth"]) (g:=(TM.XS.g ZeM)) ?_
 exact fun _ _ _ _ _ _ _ c _ _=>(Zp (S1.ife (ZI vL jN Zbl) (Zq (Zx jN)) ZO) (Zp (S1.ife (ZI (Zm vL jI) jS Zae) (Zq (Zx (cF c ZtP (jc vL (jc (Zm vL jI) (jc vL Zf)))))) ZO) (Zp (S1.ife (ZI (Zm vL jI) jS Zae) (Zq (Zx (J.ife (Za1 vL) (cF c Zuf (jc vL (jc (Zm vL jI) Zf))) (cF c ZsT (jc vL (jc (Zm vL jI) Zf)))))) ZO) (Zq (Zx (J.ife (Za1 vL) (cF c Zpb (jc vL (jc (Zm vL jI) (jc (Zm vL jI) Zf)))) (cF c ZsS (jc vL (jc (Zm vL jI) (jc (Zm vL jI) Zf))))))))))
theorem ZsA: DD w s₀ mg mb 411 10 Zn2:=by
 unfold DD;k_fill
 refine ZX (names:=["bounds","at","other","new","i","row","j","bound"]) (g:=(TM.XS.g ZfW)) ?_
 exact fun _ _ _ _ _ _ _ c _ _=>(Zp (ZN sL (cF c ZjX (jc vL Zf))) (Zp (Zez sL sL (JI2.zip (nB c) vL vL) (Zq (Zez sL sL (JI2.zip (nB c) vL vL) (Zq (ZcZ (cF c Zjj (jc vL (jc vL (jc vL (jc vL Zf)))))))))) (Zq (Zx vL))))
theorem ZvJ: DD w s₀ mg mb 404 11 Zl2:=by
 unfold DD;k_fill
 refine ZX (names:=["told","at","other","rests","i","left"]) (g:=(TM.XS.g ZhB)) ?_
 exact fun _ _ _ _ _ _ _ c _ _=>(Zp (ZN sL (ZjD (nB c) (jc (Zm vL jI) Zf) Zmh)) (Zp (Zez sL sL (JI2.zip (nB c) vL (Zm vL jI)) (Zq (S1.put (cF c ZlU (jc (Zm vL (Zv vL jI Za2)) (jc vL Zf))) vL (Zv vL jI Za2)))) (Zp (S1.ife (ZI jN vL Zir) (Zq (Zx jN)) ZO) (Zq (Zx (J.tup (jc (cF c ZsA (jc (Zm vL jI) (jc (Zv (J.list (jc jI Zf)) vL Z0) (jc (Zm vL jI) Zf)))) (jc vL Zf))))))))
theorem ZvK: DD w s₀ mg mb 397 2 Zl1:=by
 unfold DD;k_fill
 refine ZX (names:=["told","more","n","bounds","new"]) (g:=(TM.XS.g Zhz)) ?_
 exact fun _ _ _ _ _ _ _ c _ _=>(Zp (ZN sC (Zah (nB c) (jc (Zm vL jI) Zf) ZaC)) (Zp (by refine sO sL ?_ ?_ ?_;(exact(JI.seq (Zm vL jI)));(exact fun _ _=>(Zv vO (Zv (J.list (jc jN Zf)) vD Za9) Z0));(exact fun _ _=>JF.nil)) (Zp (by refine sO sL ?_ ?_ ?_;(exact(JI.range (nB c) (jc (Zv vC jI Z0) (jc (Zv (Zv vC vC Z0) jI Z0) Zf))));(exact fun _ _=>(cF (Zbd c) ZoE (jc vO (jc (Zv vD vD Z0) Zf))));(exact fun _ _=>JF.nil)) (Zq (Zx (J.tup (jc (Zv vL vL Z0) (jc (Zv (Zm vL jI) (Zv (J.list (jc (J.tup (jc jI (jc jI Zf))) Zf)) vC Za9) Z0) Zf))))))))
theorem ZuZ: DD w s₀ mg mb 418 12 Zpt:=by
 unfold DD;k_fill
 refine ZX (names:=["told","x","row","summary","sharpened","n","answer","given","both"]) (g:=ZlQ) ?_
 exact fun _ _ _ _ _ _ _ c _ _=>(Zp (ZN sL (cF c ZeG (jc vL Zf))) (Zp (S1.ife (ZaV (ZaN (ZI vL jN Zbl) (ZaN (ZI vL jN Zbl) Zch))) (Zq (Zx jN)) ZO) (Zp (ZN sL (Zah (nB c) (jc (Zm vL jI) Zf) ZaC)) (Zp (ZN sL (Zv (Zv vL (Zah (nB c) (jc vL Zf) ZaC) Z0) jI Z0)) (Zp (ZN sL (cF c ZmH (jc vL (jc (Zv (cF c ZlV (jc vL (jc vL Zf))) vL Z0) Zf)))) (Zp (S1.ife (ZI vL jN Zbl) (Zq (Zx jN)) ZO) (Zp (ZN sL (cF c ZeG (jc (cF c ZvJ (jc (cF c ZvK (jc vL (jc jI Zf))) (jc (ZxA (nB c) (nB c) (jc (Zv vL jI Z0) (jc (Zv vL jI Z0) Zf))) (jc vL Zf)))) Zf))) (Zq (Zx (cF c ZmH (jc vL (jc (cF c Zki (jc (cF c ZlV (jc vL (jc vL Zf))) (jc vL (jc (cF c Zeq (jc vL (jc vL Zf))) Zf)))) Zf))))))))))))
theorem ZvL: DD w s₀ mg mb 514 14 Zjo:=by
 unfold DD;k_fill
 refine ZX (names:=["told","act","summaries","sharpened"]) (g:=(TM.XS.g ZcM)) ?_
 exact fun _ _ _ _ _ _ _ c _ _=>(Zp (ZN sL (cF c ZeG (jc vL Zf))) (Zp (S1.ife (ZaV (ZaN (ZI vL jN Zbl) (ZaN (ZI (Zm vL jI) (J.tup (jc jS (jc jS Zf))) Zir) Zch))) (Zq (Zx vL)) ZO) (Zp (S1.ife (ZI (Zm vL jI) jS Zae) (Zq (Zx (cF c ZzJ (jc vL (jc (Zm vL jI) (jc (Zm vL jI) Zf)))))) ZO) (Zp (S1.ife (ZI (Zm vL jI) jS Zae) (Zq (Zx (cF c ZuZ (jc vL (jc (Zm vL jI) (jc (Zm vL jI) (jc (Zm vL (Zm vL jI)) Zf))))))) ZO) (Zq (Zx (cF c ZvH (jc vL (jc vL Zf)))))))))
theorem ZpF: DD w s₀ mg mb 573 1 Zg5:=by
 unfold DD;k_fill
 refine ZX (names:=["_law_told_here"]) (g:=ZlA) ?_
 exact fun _ _ _ _ _ _ _ c _ _=>(Zp (S1.ife (ZI vL jN Zbl) (Zq (Zx jN)) ZO) (Zq (Zx (J.tup (jc (by refine cO ?_ ?_ ?_;(exact(JI.seq (Zm vL jI)));(exact fun _ _=>(ZjD (nB (Zbd c)) (jc vO Zf) Zmh));(exact fun _ _=>JF.nil)) (jc (ZjD (nB c) (jc (Zm vL jI) Zf) Zmh) Zf))))))
theorem Zlw: DD w s₀ mg mb 587 1 ZoX:=by
 unfold DD;k_fill
 refine ZX (names:=["_law_thing"]) (g:=(TM.XS.g ZgM)) ?_
 exact fun _ _ _ _ _ _ _ c _ _=>(Zq (Zx (Zkk (Zdw (nB c) (nB c) (.inl rfl) vL) (ZzK (Zdw (nB c) (nB c) (.inr (.inl rfl)) vL)))))
theorem Zu0: DD w s₀ mg mb 594 2 Zpm:=by
 unfold DD;k_fill
 refine ZX (names:=["_law_thing","_law_size","_law_i","_law_top"]) (g:=(TM.XS.g Zha)) ?_
 exact fun _ _ _ _ _ _ _ c _ _=>(Zp (S1.ife (ZaV (ZaN (Zcj (Za1 (Zdw (nB c) (nB c) (.inr (.inr (.inl rfl))) vL))) (ZaN (ZI (Zah (nB c) (jc vL Zf) ZaC) vL Zcq) Zch))) (Zq (Zx jB)) ZO) (Zp (ZbR sL (JI.range (nB c) (jc vL Zf)) (Zp (S1.ife (ZaV (ZaN (Zcj (Za1 (Zdw (nB c) (nB c) (.inr (.inr (.inl rfl))) (Zm vL vL)))) (ZaN (ZI (Zah (nB c) (jc (Zm vL vL) Zf) ZaC) vL Zcq) Zch))) (Zq (Zx jB)) ZO) (Zp (ZbR sL (JI.seq (Zm vL vL)) (Zq (S1.ife (ZaV (ZaZ (ZI vL jN ZbF) (ZaZ (Zcj (Za1 (cF c Zlw (jc vL Zf)))) Zcv))) (Zq (Zx jB)) ZO))) (Zq (S1.ife (ZI (Zm (Zm vL vL) vL) jI Zcq) (Zq (Zx jB)) ZO))))) (Zq (Zx jB))))
theorem Zug: DD w s₀ mg mb 601 3 ZiV:=by
 unfold DD;k_fill
 refine ZX (names:=["_law_thing","_law_many","_law_pair"]) (g:=(TM.XS.g ZgP)) ?_
 exact fun _ _ _ _ _ _ _ c _ _=>(Zp (S1.ife (ZaV (ZaN (Zcj (Za1 (Zdw (nB c) (nB c) (.inr (.inr (.inr rfl))) vL))) (ZaN (ZI (Zah (nB c) (jc vL Zf) ZaC) jI Zcq) (ZaN (Zcj (Za1 (cF c Zu0 (jc (Zm vL jI) (jc (Zv vL jI Z0) Zf))))) Zch)))) (Zq (Zx jB)) ZO) (Zp (S1.ife (ZaV (ZaN (Zcj (Za1 (Zdw (nB c) (nB c) (.inr (.inr (.inl rfl))) (Zm vL jI)))) (ZaN (ZI (Zah (nB c) (jc (Zm vL jI) Zf) ZaC) vL Zcq) Zch))) (Zq (Zx jB)) ZO) (Zp (ZbR sL (JI.seq (Zm vL jI)) (Zp (S1.ife (ZaV (ZaN (Zcj (Za1 (Zdw (nB c) (nB c) (.inr (.inr (.inr rfl))) vL))) (ZaN (ZI (Zah (nB c) (jc vL Zf) ZaC) jI Zcq) Zch))) (Zq (Zx jB)) ZO) (Zp (S1.ife (ZaV (ZaN (Zcj (Za1 (cF c Zlw (jc (Zm vL jI) Zf)))) (ZaN (Zcj (Za1 (cF c Zlw (jc (Zm vL jI) Zf)))) Zch))) (Zq (Zx jB)) ZO) (Zq (S1.ife (ZaV (ZaN (ZI (Zm vL jI) jI ZcA) (ZaN (ZaV (ZaZ (ZI (Zm vL jI) jI ZdC) (ZaZ (Zcj (Zv9 jI (Zm vL jI) (Zm vL jI) ZnA ZcA)) Zcv))) Zch))) (Zq (Zx jB)) ZO))))) (Zq (Zx jB)))))
theorem Zu1: DD w s₀ mg mb 580 1 Zi5:=by
 unfold DD;k_fill
 refine ZX (names:=["_law_told_here","_law_boxes","_law_full","_law_i","_law_j","_law_t","_law_apart"]) (g:=(TM.XS.g Zhc)) ?_
 exact fun _ _ _ _ _ _ _ c _ _=>(Zp (S1.ife (ZI vL jN Zbl) (Zq (Zx jB)) ZO) (Zp (ZN sL (Zv (J.list (jc jI Zf)) vL Z0)) (Zp (ZbR sL (JI.range (nB c) (jc (Zah (nB c) (jc vL Zf) ZaC) Zf)) (Zq (ZbR sL (JI.range (nB c) (jc (Zah (nB c) (jc vL Zf) ZaC) Zf)) (Zq (S1.ife (ZaV (ZaZ (ZI (Zm (Zm (Zm vL jI) vL) vL) jN ZbF) (ZaZ (ZI (Zm vL vL) (Zv (Zm vL vL) (Zm (Zm (Zm vL jI) vL) vL) Z0) ZdC) Zcv))) (Zq (Zx jB)) ZO))))) (Zp (ZbR sL (JI.range (nB c) (jc (Zah (nB c) (jc vL Zf) ZaC) Zf)) (Zp (ZN sL (Zv (Zm vL vL) (Zm (Zm (Zm vL jI) vL) jI) Za2)) (Zp (S1.ife (ZaV (ZaZ (ZI (Zm (Zm (Zm vL jI) vL) jI) jI Zae) (ZaZ (ZI vL jI Zcq) Zcv))) (Zq (Zx jB)) ZO) (Zq (S1.ife (ZaV (ZaZ (ZI (Zm (Zm (Zm vL jI) vL) jI) jI ZdC) (ZaZ (ZI (Zv vL (Zm (Zm (Zm vL jI) vL) jI) ZaB) jI Zcq) Zcv))) (Zq (Zx jB)) ZO))))) (Zq (Zx jB))))))
end
end L
end
section
open PySem PySem.W PySem.Calls PyProof.Rows PM
open L
seal PySem.wpAny PM.J PM.Js PM.JT PM.JA PM.JF PM.JI PM.JI2 PM.JP PM.S1 PM.Ss PM.Sto PM.Rd PM.Nm PM.OpN PM.Op2 PM.Def
theorem PySem.Challenge.cw_seer_k58_whole_outcomes_keep_boxes_holds : PySem.Challenge.rw_seer_k58_whole_outcomes_keep_boxes.Holds :=
 head (by
  w_strict (k_go0;(rename Well _ _ _ _=>w9);(rename Frag.In _ _=>kx9);(rename Top _ _ _ _ _ _=>t9);(rename Fr _ _ _ _=>f9);(rename News _ _ _ _=>n9);(rename CellsAre _ _ _=>x9);(rename (PyData.layable0 _=true)=>hl9);(obtain⟨H9,e9⟩:=L.ZtM (by omega) hl9);(refine' PM.ZwX (names:=["_law_script","_law_many","_law_boxes","_law_told_here","_law_held","_law_turn_here","_law_act","_law_found","_law_pair"]) (g:=Zms) (room:=14) ?hb ?h1 ?h2 ?h3 ?h4 kx9 t9 w9 ?len f9 n9 x9 e9 ?post);(case h1=>decide);(case h2=>decide);(case h3=>rfl);(case h4=>rfl);(case len=>(rw[PM.ZaO];omega));(case hb=>(intro dp un gd L a ccd outer h₀ hu clr hd1 hu1;exact(Zp (ZN sL (Zm (J.list (jc jI (jc jI (jc jI (jc jI (jc jI (jc jI (jc jI (jc jI (jc jI Zf)))))))))) (cF clr law_pick_d (jc vC (jc jI (jc jI Zf)))))) (Zp (by refine sO sL ?_ ?_ ?_;(exact(JI.range (nB clr) (jc vL Zf)));(exact fun _ _=>(cF (Zbd clr) ZcU (jc vD (jc (Zv jI vO Z0) Zf))));(exact fun _ _=>JF.nil)) (Zp (ZN sL (cF clr ZpD (jc (J.listRev (nB clr) (nB clr) (jc (Zew vC JP.none (JP.some jI)) Zf)) (jc jI (jc vL Zf))))) (Zp (ZN sL (J.list (jc (J.tup (jc vL (jc (cF clr ZpF (jc vL Zf)) Zf))) Zf))) (Zp (ZbR sL (JI.range (nB clr) (jc (Zv jI (Zv (Zah (nB clr) (jc (Zew vC (JP.some jI) (JP.some jI)) Zf) ZaC) jI Zck) Z0) Zf)) (Zp (ZN sL (cF clr ZuV (jc vC (jc (Zv jI (Zv jI vL Za9) Z0) (jc vL Zf))))) (Zp (ZN sL (cF clr ZvL (jc vL (jc (Zm vL jI) (jc (Zm vL jI) Zf))))) (Zp (S1.ife (ZaV (ZaN (Zcj (Za1 (cF clr Zug (jc vL (jc (Zah (nB clr) (jc vL Zf) ZaC) Zf))))) (ZaN (Zcj (Za1 (cF clr Zu1 (jc vL (jc (Zm vL jI) Zf))))) Zch))) (Zq (Zx jB)) ZO) (Zp (ZN sL (Zm vL jI)) (Zp (ZN sL vL) (Zq (ZcZ (J.append vL (J.tup (jc vL (jc (cF clr ZpF (jc vL Zf)) Zf)))))))))))) (Zp (ZbR sL (JI.seq vL) (Zq (S1.ife (ZI (Zm vL jI) (Zm vL jI) Zcq) (Zq (Zx jB)) ZO))) (Zq (Zx jB))))))))));(case post=>(intro h' tk' m' F';k_steps)))
  )
end
