import PyProof.Rows.All
import Wide.All
import OpenK.AllK
import Wide.FinOn
import PySem.Challenge.RW_seer_k52_answers_keep_boxes
import PyProof.Rows.News
import PyProof.Rows.Nodes
import PyProof.Rows.Chain
import PyProof.Rows.TupSub
import PyProof.PureInt
import PyProof.Rules2
import PyProof.Rules3
import PyProof.Rows.Globals
import PyProof.Rows.RuleB_mod
import PyProof.Rows.RuleB_floordiv
import PyProof.Rows.RuleB_small
import PyProof.NoPylong
import PyProof.Rows.RuleB_pow
import PyProof.Rows.EqDataRows
import PyProof.Rows.StrTemp
import PyProof.Rows.TupAdd
import PyProof.Rows.ListMul
import PyProof.ListIndexNeg
import PyProof.SliceList
import PyProof.Methods
import PyProof.Rows.Tup
import PyProof.IsiPairs
import PyProof.IsiHeapPairs
import PyProof.IsiNone
import PyProof.Rows.RuleN_abs
import PyProof.Rows.SumAny
import PyProof.WalkInts
import PyProof.PvWalk
import PyProof.RulesRaise
import PyProof.Raises
import PyProof.Dict
import PyProof.Seq
import PyProof.Rows.ListAppend
import PyProof.ForAppend
import PyProof.ForAny
import PyProof.Walks
import PyProof.WalksT
import KE.KItem
import PyProof.WalksMore
import PyProof.RangeFor
import PyProof.Rows.Range3
import OpenK.KCell
import KE.KTree
import KE.RegLcTurns
import KE.KCompFold
import KE.KLcPair
import KE.LcTurns
import PyProof.CompUse
import PyProof.Rows.ZipGen
import OpenK.KLine
import KE.KState
import Wide.Well
import PyProof.ListCopy
import PyProof.Rows.TupleOfSeqD
import KE.LcSums
import KE.KCellOne
import PyProof.FitsBits
import KE.KEqDeep
import PyProof.Rows.TupMore
import PyProof.Rows.NestLooks
import PyProof.EnumMake
import PyProof.WalksEnum
import PyProof.Rows.SortWalk
import PyProof.DictStraight
import PyProof.EqAt
import PyProof.Rows.SeqMore2
import PyProof.ListRange
import PyProof.LongRange
import KE.KAnyBase
import PyProof.Rows.SeqSlice
set_option linter.all false
set_option maxRecDepth 100000
set_option maxHeartbeats 8000000
abbrev Zz0:=@Option.bind_eq_some_iff
abbrev Zz1:=@Option.map_eq_some_iff
abbrev Zz2:=@List.mem_cons_of_mem
abbrev Zz3:=@List.mem_append_right
abbrev Zz4:=@List.mem_append_left
abbrev Zz5:=@List.mem_cons_self
abbrev Zz6:=@List.getElem?_eq_some_iff
abbrev Zz7:=@List.mem_cons
abbrev Zz8:=@List.mem_append
abbrev Zz9:=@List.mem_singleton
abbrev Zz10:=@Nat.le_refl
abbrev Zz11:=@List.mem_map
set_option Elab.async false
set_option compiler.extract_closed false
section
set_option autoImplicit false
/-! The plain machine: values as trees, lists as places; and how it stands for the model's heap. -/
namespace PM
open PySem PyProof.Rows
inductive V where
 | none
 | bool (b:Bool)
 | int (i:Int)
 | str (s:Str)
 | tup (vs:List V)
 | ref (a:Nat)
noncomputable abbrev Hp:=List (List V)
noncomputable abbrev Lc:=Nat→Option V
noncomputable def LEN: Nat:=100000
theorem Za5: LEN=100000:=rfl
theorem ZcM{n:Nat}(h:n≤LEN): n≤sizeLine:=by
 have:sizeLine=2 ^ 24:=rfl
 rw[this];rw[Za5]at h;omega
noncomputable abbrev Zeu(xs:List Value)(k:Nat): Obj:={ cls:=.type "tuple",data:=.seq xs.toArray k }
noncomputable abbrev ZbO(xs:List Value)(k:Nat): Obj:={ cls:=.type "list",data:=.seq xs.toArray k }
structure Wd where
 pi:List Addr
 tups:List (Addr×Obj)
 sc:Addr×Obj
structure Wd.Le(W W':Wd): Prop where
 pi:W.pi <+: W'.pi
 tups:∀q∈W.tups,q∈W'.tups
 sc:W'.sc=W.sc
theorem Wd.Le.refl(W:Wd): W.Le W:=⟨List.prefix_refl _,fun _ h=>h,rfl⟩
theorem Wd.Le.trans{W W' W'':Wd}(a:W.Le W')(b:W'.Le W''): W.Le W'':=⟨a.pi.trans b.pi,fun q h=>b.tups q (a.tups q h),b.sc.trans a.sc⟩
theorem Wd.Le.at{W W':Wd}(h:W.Le W'){i:Nat}{a:Addr}(e:W.pi[i]?=some a): W'.pi[i]?=some a:=by
 obtain⟨t,ht⟩:=h.pi
 have hi:i<W.pi.length:=(Zz6.mp e).1
 rw[←ht,List.getElem?_append_left hi]
 exact e
mutual
inductive VR(W:Wd): V→Value→Prop where
 | none:VR W .none .none
 | bool (b:Bool):VR W (.bool b) (.bool b)
 | int (i:Int) (t:Tok):VR W (.int i) (.int i t)
 | str (s:Str) (t:Tok):VR W (.str s) (.str s t)
 | tup {vs:List V} {a:Addr} {xs:List Value} {k:Nat}:(a,Zeu xs k)∈W.tups→vs.length≤LEN→VRs W vs xs→VR W (.tup vs) (.ref a)
 | ref {i:Nat} {a:Addr}:W.pi[i]?=some a→VR W (.ref i) (.ref a)
inductive VRs(W:Wd): List V→List Value→Prop where
 | nil:VRs W [] []
 | cons {v:V} {x:Value} {vs:List V} {xs:List Value}:VR W v x→VRs W vs xs→VRs W (v::vs) (x::xs)
end
mutual
theorem VR.mono{W W':Wd}(h:W.Le W'){v:V}{x:Value}(r:VR W v x): VR W' v x:=by
 cases r with
 | none=>exact .none
 | bool b=>exact .bool b
 | int i t=>exact .int i t
 | str s t=>exact .str s t
 | tup hm hl hs=>exact .tup (h.tups _ hm) hl (VRs.mono h hs)
 | ref e=>exact .ref (h.at e)
theorem VRs.mono{W W':Wd}(h:W.Le W'){vs:List V}{xs:List Value}(r:VRs W vs xs): VRs W' vs xs:=by
 cases r with
 | nil=>exact .nil
 | cons a b=>exact .cons (VR.mono h a) (VRs.mono h b)
end
theorem VRs.length{W:Wd}: ∀{vs:List V} {xs:List Value},VRs W vs xs→xs.length=vs.length
 | _,_,.nil=>rfl
 | _,_,.cons _ r=>by rw[List.length_cons,List.length_cons,r.length]
theorem VRs.at{W:Wd}: ∀{vs:List V} {xs:List Value} {i:Nat} {v:V},VRs W vs xs→vs[i]?=some v→∃x,xs[i]?=some x∧VR W v x
 | _,_,_,_,.nil,e=>by simp at e
 | _,_,0,_,.cons a _,e=>by
  simp at e
  exact⟨_,by simp,e▸a⟩
 | _,_,i+1,_,.cons _ r,e=>by
  simp at e
  obtain⟨x,hx,hr⟩:=r.at e
  exact⟨x,by simpa using hx,hr⟩
theorem VRs.append{W:Wd}: ∀{vs us:List V} {xs ys:List Value},VRs W vs xs→VRs W us ys→VRs W (vs++us) (xs++ys)
 | _,_,_,_,.nil,h=>h
 | _,_,_,_,.cons a r,h=>.cons a (r.append h)
theorem VRs.snoc{W:Wd}{vs:List V}{xs:List Value}{v:V}{x:Value}(h:VRs W vs xs)(r:VR W v x): VRs W (vs++[v]) (xs++[x]):=h.append (.cons r .nil)
theorem VRs.set{W:Wd}: ∀{vs:List V} {xs:List Value} {v:V} {x:Value} (i:Nat),VRs W vs xs→VR W v x→VRs W (vs.set i v) (xs.set i x)
 | _,_,_,_,_,.nil,_=>.nil
 | _,_,_,_,0,.cons _ r,h=>.cons h r
 | _,_,_,_,i+1,.cons a r,h=>.cons a (r.set i h)
theorem VRs.drop{W:Wd}: ∀{vs:List V} {xs:List Value} (i:Nat),VRs W vs xs→VRs W (vs.drop i) (xs.drop i)
 | _,_,0,h=>h
 | _,_,_+1,.nil=>.nil
 | _,_,i+1,.cons _ r=>r.drop i
structure HR(W:Wd)(H:Hp)(led:List (Addr×Obj)): Prop where
 len:W.pi.length=H.length
 nd:W.pi.Nodup
 lists:∀(i:Nat) (vs:List V),H[i]?=some vs→vs.length≤LEN∧∃a xs k,W.pi[i]?=some a∧(a,ZbO xs k)∈led∧VRs W vs xs
 tups:∀q∈W.tups,q∈led
 kind:∀q∈W.tups,∃xs k,q.2=Zeu xs k
theorem HR.mono{W:Wd}{H:Hp}{led led':List (Addr×Obj)}(R:HR W H led)(h:∀q∈led,q∈led'): HR W H led':=
 ⟨R.len,R.nd,fun i vs e=>by
  obtain⟨l,a,xs,k,h1,h2,h3⟩:=R.lists i vs e
  exact⟨l,a,xs,k,h1,h _ h2,h3⟩,fun q hq=>h q (R.tups q hq),R.kind⟩
structure Cx where
 A:Around
 env:Env
 h₀:Heap
 L:Addr
 hh:A.handled=none
 hu:A.units+200<cLine
 Own:Wd→Lc→(Str→Option Value)→List (Addr×Obj)→Prop
 mono:∀{W W':Wd} {ρ:Lc} {m:Str→Option Value} {c:List (Addr×Obj)},W.Le W'→Own W ρ m c→Own W' ρ m c
structure Rep'(Γ:Cx)(W:Wd)(ρ:Lc)(H:Hp)(fr:List (Addr×Obj))(h:Heap)(m:Str→Option Value)(cells led:List (Addr×Obj)): Prop where
 F:Fr Γ.h₀ Γ.L h m
 N:News Γ.h₀ Γ.L h led
 R:HR W H (W.sc::led)
 sc:Γ.h₀.get? W.sc.1=some W.sc.2
 sc0:W.pi[0]?=some W.sc.1
 frIn:∀q∈fr,q∈led
 frOff:∀q∈fr,q.1∉W.pi
 clIn:∀q∈cells,q∈led
 clOff:∀q∈cells,q.1∉W.pi
 apart:∀q∈cells,∀r∈fr,q.1≠r.1
 frTup:∀q∈fr,∀t∈W.tups,q.1≠t.1
 clTup:∀q∈cells,∀t∈W.tups,q.1≠t.1
 own:Γ.Own W ρ m cells
noncomputable def Rep(Γ:Cx)(W:Wd)(ρ:Lc)(H:Hp)(fr:List (Addr×Obj))(h:Heap): Prop:=∃m cells led,Rep' Γ W ρ H fr h m cells led
theorem Rep.grown{Γ:Cx}{W:Wd}{ρ:Lc}{H:Hp}{fr:List (Addr×Obj)}{h h':Heap}(r:Rep Γ W ρ H fr h)(up:∀b o,h.get? b=some o→h'.get? b=some o): Rep Γ W ρ H fr h':=by
 obtain⟨m,c,led,r⟩:=r
 refine⟨m,c,led,⟨⟨?_,fun b o e=>up b o (r.F.keep b o e),r.F.above⟩,fun q hq=>⟨up _ _ (r.N q hq).1,(r.N q hq).2⟩,r.R,r.sc,r.sc0,r.frIn,r.frOff,r.clIn,r.clOff,r.apart,r.frTup,r.clTup,r.own⟩⟩
 obtain⟨o,es,ep,h1,h2⟩:=r.F.ns
 exact⟨o,es,ep,up _ _ h1,h2⟩
theorem Rep.push{Γ:Cx}{W:Wd}{ρ:Lc}{H:Hp}{fr:List (Addr×Obj)}{h:Heap}(r:Rep Γ W ρ H fr h)(o:Obj): Rep Γ W ρ H fr (h.push o):=r.grown fun _ _ e=>Heap.get?_push_of_some _ e
theorem Zd3{q s:Addr×Obj}{l l':List (Addr×Obj)}(h:q∈s::l)(m:q∈l→q∈l'): q∈s::l':=by
 rcases Zz7.mp h with e | h
 ·exact e▸List.mem_cons_self
 ·exact Zz2 _ (m h)
theorem Ze9{q s:Addr×Obj}{l l':List (Addr×Obj)}(h:q∈s::l)(m:∀x∈l,x∈l'): q∈s::l':=by
 rcases Zz7.mp h with e | h
 ·exact e▸List.mem_cons_self
 ·exact Zz2 _ (m q h)
theorem Rep'.get{Γ:Cx}{W:Wd}{ρ:Lc}{H:Hp}{fr:List (Addr×Obj)}{h:Heap}{m:Str→Option Value}{c led:List (Addr×Obj)}(r:Rep' Γ W ρ H fr h m c led){q:Addr×Obj}(hq:q∈W.sc::led): h.get? q.1=some q.2:=by
 rcases Zz7.mp hq with e | hq
 ·rw[e]
  exact r.F.keep _ _ r.sc
 ·exact(r.N q hq).1
theorem Rep'.off{Γ:Cx}{W:Wd}{ρ:Lc}{H:Hp}{fr:List (Addr×Obj)}{h:Heap}{m:Str→Option Value}{c led:List (Addr×Obj)}(r:Rep' Γ W ρ H fr h m c led): ∀q∈W.sc::led,q.1≠h.objs.size:=fun q hq=>Nat.ne_of_lt (Heap.lt_size (r.get hq))
theorem Rep'.same{Γ:Cx}{W:Wd}{ρ:Lc}{H:Hp}{fr:List (Addr×Obj)}{h h':Heap}{m:Str→Option Value}{c led:List (Addr×Obj)}(r:Rep' Γ W ρ H fr h m c led)(F':Fr Γ.h₀ Γ.L h' m)(N':News Γ.h₀ Γ.L h' led): Rep Γ W ρ H fr h':=
 ⟨m,c,led,F',N',r.R,r.sc,r.sc0,r.frIn,r.frOff,r.clIn,r.clOff,r.apart,r.frTup,r.clTup,r.own⟩
theorem Rep'.piIn{Γ:Cx}{W:Wd}{ρ:Lc}{H:Hp}{fr:List (Addr×Obj)}{h:Heap}{m:Str→Option Value}{c led:List (Addr×Obj)}(r:Rep' Γ W ρ H fr h m c led): ∀a∈W.pi,∃o,(a,o)∈W.sc::led:=by
 intro a ha
 obtain⟨i,hi,e⟩:=List.getElem_of_mem ha
 have hi':i<H.length:=r.R.len▸hi
 obtain⟨_,b,xs,k,h1,h2,_⟩:=r.R.lists i H[i] (List.getElem?_eq_getElem hi')
 have:b=a:=by rw[List.getElem?_eq_getElem hi,e]at h1;exact(Option.some.inj h1).symm
 exact⟨_,this▸h2⟩
theorem Rep'.inLed{Γ:Cx}{W:Wd}{ρ:Lc}{H:Hp}{fr:List (Addr×Obj)}{h:Heap}{m:Str→Option Value}{c led:List (Addr×Obj)}(r:Rep' Γ W ρ H fr h m c led){i:Nat}{a:Addr}{o:Obj}(hi:i≠0)(ea:W.pi[i]?=some a)(hm:(a,o)∈W.sc::led): (a,o)∈led:=by
 rcases Zz7.mp hm with e | hm
 ·have e1:a=W.sc.1:=congrArg (·.1) e
  have hl:i<W.pi.length:=(Zz6.mp ea).1
  have:i=0:=(List.getElem?_inj hl r.R.nd).mp (by rw[ea,r.sc0,e1])
  exact absurd this hi
 ·exact hm
theorem Rep'.notSc{Γ:Cx}{W:Wd}{ρ:Lc}{H:Hp}{fr:List (Addr×Obj)}{h:Heap}{m:Str→Option Value}{c led:List (Addr×Obj)}(r:Rep' Γ W ρ H fr h m c led): ∀q∈led,q.1≠W.sc.1:=fun q hq e=>by
 have:=(r.N q hq).2.2
 rw[e,r.sc]at this
 cases this
theorem Rep'.newTup{Γ:Cx}{W:Wd}{ρ:Lc}{H:Hp}{fr:List (Addr×Obj)}{h h':Heap}{m:Str→Option Value}{c led:List (Addr×Obj)}{vs:List V}{xs:List Value}{k:Nat}{n:Addr}(r:Rep' Γ W ρ H fr h m c led)(F':Fr Γ.h₀ Γ.L h' m)(N':News Γ.h₀ Γ.L h' ((n,Zeu xs k)::led))(hn:∀q∈W.sc::led,q.1≠n)(hv:VRs W vs xs)(hl:vs.length≤LEN):
  ∃W',W.Le W'∧Rep Γ W' ρ H fr h'∧VR W' (.tup vs) (.ref n):=by
 have le:W.Le ⟨W.pi,(n,Zeu xs k)::W.tups,W.sc⟩:=⟨List.prefix_refl _,fun q hq=>List.mem_cons_of_mem _ hq,rfl⟩
 refine⟨⟨W.pi,(n,Zeu xs k)::W.tups,W.sc⟩,le,⟨m,c,(n,Zeu xs k)::led,⟨F',N',?_,r.sc,r.sc0,fun q hq=>List.mem_cons_of_mem _ (r.frIn q hq),r.frOff,fun q hq=>List.mem_cons_of_mem _ (r.clIn q hq),r.clOff,r.apart,fun q hq t ht=>?_,fun q hq t ht=>?_,Γ.mono le r.own⟩⟩,.tup Zz5 hl (hv.mono le)⟩
 ·refine⟨r.R.len,r.R.nd,fun i us e=>?_,fun q hq=>?_,fun q hq=>?_⟩
  ·obtain⟨l,a,ys,j,h1,h2,h3⟩:=r.R.lists i us e
   exact⟨l,a,ys,j,h1,Ze9 h2 fun x hx=>List.mem_cons_of_mem _ hx,h3.mono le⟩
  ·rcases Zz7.mp hq with e | hq
   ·exact e▸List.mem_cons_of_mem _ Zz5
   ·exact Ze9 (r.R.tups q hq) fun x hx=>List.mem_cons_of_mem _ hx
  ·rcases Zz7.mp hq with e | hq
   ·exact⟨xs,k,by rw[e]⟩
   ·exact r.R.kind q hq
 ·rcases Zz7.mp ht with e | ht
  ·rw[e]
   exact hn q (Zz2 _ (r.frIn q hq))
  ·exact r.frTup q hq t ht
 ·rcases Zz7.mp ht with e | ht
  ·rw[e]
   exact hn q (Zz2 _ (r.clIn q hq))
  ·exact r.clTup q hq t ht
theorem Rep.tuple{Γ:Cx}{W:Wd}{ρ:Lc}{H:Hp}{fr:List (Addr×Obj)}{h:Heap}{vs:List V}{xs:List Value}{k:Nat}(r:Rep Γ W ρ H fr h)(hv:VRs W vs xs)(hl:vs.length≤LEN):
  ∃W',W.Le W'∧Rep Γ W' ρ H fr (h.push (Zeu xs k))∧VR W' (.tup vs) (.ref h.objs.size):=by
 obtain⟨m,c,led,r⟩:=r
 exact r.newTup (r.F.push _) (News.push r.F r.N _) r.off hv hl
theorem Rep'.newList{Γ:Cx}{W:Wd}{ρ:Lc}{H:Hp}{fr:List (Addr×Obj)}{h h':Heap}{m:Str→Option Value}{c led:List (Addr×Obj)}{vs:List V}{xs:List Value}{k:Nat}{n:Addr}(r:Rep' Γ W ρ H fr h m c led)(F':Fr Γ.h₀ Γ.L h' m)(N':News Γ.h₀ Γ.L h' ((n,ZbO xs k)::led))(hn:∀q∈W.sc::led,q.1≠n)(hv:VRs W vs xs)(hl:vs.length≤LEN):
  ∃W',W.Le W'∧Rep Γ W' ρ (H++[vs]) fr h'∧VR W' (.ref H.length) (.ref n):=by
 have le:W.Le ⟨W.pi++[n],W.tups,W.sc⟩:=⟨List.prefix_append _ _,fun q hq=>hq,rfl⟩
 have h0:0<W.pi.length:=(Zz6.mp r.sc0).1
 have at_n:(W.pi++[n])[H.length]?=some n:=by rw[←r.R.len];simp
 refine⟨⟨W.pi++[n],W.tups,W.sc⟩,le,⟨m,c,(n,ZbO xs k)::led,⟨F',N',?_,r.sc,(List.getElem?_append_left h0).trans r.sc0,fun q hq=>List.mem_cons_of_mem _ (r.frIn q hq),fun q hq=>?_,fun q hq=>List.mem_cons_of_mem _ (r.clIn q hq),fun q hq=>?_,r.apart,r.frTup,r.clTup,Γ.mono le r.own⟩⟩,.ref at_n⟩
 ·refine⟨by simp[r.R.len],?_,fun i us e=>?_,fun q hq=>Ze9 (r.R.tups q hq) fun x hx=>List.mem_cons_of_mem _ hx,r.R.kind⟩
  ·show(W.pi++[n]).Nodup
   rw[List.nodup_append]
   refine⟨r.R.nd,by simp,fun a ha b hb=>?_⟩
   rw[List.mem_singleton.mp hb]
   obtain⟨o,ho⟩:=r.piIn a ha
   exact hn _ ho
  ·by_cases hi:i<H.length
   ·rw[List.getElem?_append_left hi]at e
    obtain⟨l,a,ys,j,h1,h2,h3⟩:=r.R.lists i us e
    exact⟨l,a,ys,j,le.at h1,Ze9 h2 fun x hx=>List.mem_cons_of_mem _ hx,h3.mono le⟩
   ·have:i=H.length:=by
     have:=(Zz6.mp e).1
     simp at this
     omega
    subst this
    simp at e
    subst e
    exact⟨hl,n,xs,k,at_n,List.mem_cons_of_mem _ Zz5,hv.mono le⟩
 ·intro hm
  rcases Zz8.mp hm with hm | hm
  ·exact r.frOff q hq hm
  ·exact hn q (Zz2 _ (r.frIn q hq)) (Zz9.mp hm)
 ·intro hm
  rcases Zz8.mp hm with hm | hm
  ·exact r.clOff q hq hm
  ·exact hn q (Zz2 _ (r.clIn q hq)) (Zz9.mp hm)
theorem Rep.list{Γ:Cx}{W:Wd}{ρ:Lc}{H:Hp}{fr:List (Addr×Obj)}{h:Heap}{vs:List V}{xs:List Value}{k:Nat}(r:Rep Γ W ρ H fr h)(hv:VRs W vs xs)(hl:vs.length≤LEN):
  ∃W',W.Le W'∧Rep Γ W' ρ (H++[vs]) fr (h.push (ZbO xs k))∧VR W' (.ref H.length) (.ref h.objs.size):=by
 obtain⟨m,c,led,r⟩:=r
 exact r.newList (r.F.push _) (News.push r.F r.N _) r.off hv hl
theorem Rep.at{Γ:Cx}{W:Wd}{ρ:Lc}{H:Hp}{fr:List (Addr×Obj)}{h:Heap}{i:Nat}{a:Addr}{vs:List V}(r:Rep Γ W ρ H fr h)(e:H[i]?=some vs)(ea:W.pi[i]?=some a): vs.length≤LEN∧∃xs k,h.get? a=some (ZbO xs k)∧VRs W vs xs:=by
 obtain⟨m,c,led,r⟩:=r
 obtain⟨l,b,xs,k,h1,h2,h3⟩:=r.R.lists i vs e
 rw[ea]at h1
 cases h1
 exact⟨l,xs,k,r.get h2,h3⟩
theorem Rep.tupAt{Γ:Cx}{W:Wd}{ρ:Lc}{H:Hp}{fr:List (Addr×Obj)}{h:Heap}{q:Addr×Obj}(r:Rep Γ W ρ H fr h)(e:q∈W.tups): h.get? q.1=some q.2:=by
 obtain⟨m,c,led,r⟩:=r
 exact r.get (r.R.tups _ e)
theorem Rep'.changed{Γ:Cx}{W:Wd}{ρ:Lc}{H:Hp}{fr:List (Addr×Obj)}{h h':Heap}{m:Str→Option Value}{c led:List (Addr×Obj)}{i:Nat}{a:Addr}{vs us:List V}{ys:List Value}{k:Nat}(r:Rep' Γ W ρ H fr h m c led)(i0:i≠0)(e:H[i]?=some vs)(ea:W.pi[i]?=some a)(F':Fr Γ.h₀ Γ.L h' m)(N':News Γ.h₀ Γ.L h' ((a,ZbO ys k)::led.filter (fun q=>decide (q.1≠a))))(hv:VRs W us ys)(hl:us.length≤LEN):
  Rep Γ W ρ (H.set i us) fr h':=by
 obtain⟨_,b,xs,j,h1,h2,h3⟩:=r.R.lists i vs e
 rw[ea]at h1
 cases h1
 have h2:=r.inLed i0 ea h2
 have hN:=r.N _ h2
 have hm:a∈W.pi:=List.mem_of_getElem? ea
 have hi:i<H.length:=(Zz6.mp e).1
 refine⟨m,c,(a,ZbO ys k)::led.filter (fun q=>decide (q.1≠a)),⟨F',N',?_,r.sc,r.sc0,fun q hq=>?_,r.frOff,fun q hq=>?_,r.clOff,r.apart,r.frTup,r.clTup,r.own⟩⟩
 ·refine⟨by simp[r.R.len],r.R.nd,fun n ws en=>?_,fun q hq=>?_,r.R.kind⟩
  ·by_cases hn:n=i
   ·subst hn
    rw[List.getElem?_set_self hi]at en
    cases en
    exact⟨hl,a,ys,k,ea,List.mem_cons_of_mem _ Zz5,hv⟩
   ·rw[List.getElem?_set_ne (Ne.symm hn)]at en
    obtain⟨l,d,zs,j',g1,g2,g3⟩:=r.R.lists n ws en
    refine⟨l,d,zs,j',g1,Zd3 g2 fun g2=>List.mem_cons_of_mem _ (List.mem_filter.mpr ⟨g2,?_⟩),g3⟩
    have:d≠a:=fun e=>by
     subst e
     exact hn ((List.getElem?_inj (Zz6.mp g1).1 r.R.nd).mp (g1.trans ea.symm))
    simpa using this
  ·refine Zd3 (r.R.tups q hq) fun g2=>List.mem_cons_of_mem _ (List.mem_filter.mpr ⟨g2,?_⟩)
   have:q.1≠a:=fun e=>by
    obtain⟨zs,j',hk⟩:=r.R.kind q hq
    have g:=r.get (r.R.tups q hq)
    rw[e,hN.1,hk]at g
    have c:=congrArg Obj.cls (Option.some.inj g)
    exact absurd c (by simp)
   simpa using this
 ·refine Zz2 _ (List.mem_filter.mpr ⟨r.frIn q hq,?_⟩)
  have:q.1≠a:=fun e=>r.frOff q hq (e▸hm)
  simpa using this
 ·refine Zz2 _ (List.mem_filter.mpr ⟨r.clIn q hq,?_⟩)
  have:q.1≠a:=fun e=>r.clOff q hq (e▸hm)
  simpa using this
theorem Rep.change{Γ:Cx}{W:Wd}{ρ:Lc}{H:Hp}{fr:List (Addr×Obj)}{h h':Heap}{i:Nat}{a:Addr}{vs us:List V}{ys:List Value}{k:Nat}(r:Rep Γ W ρ H fr h)(i0:i≠0)(e:H[i]?=some vs)(ea:W.pi[i]?=some a)(sb:Heap.SameBut a h h')(ha:h'.get? a=some (ZbO ys k))(hv:VRs W us ys)(hl:us.length≤LEN):
  Rep Γ W ρ (H.set i us) fr h':=by
 obtain⟨m,c,led,r⟩:=r
 obtain⟨_,b,xs,j,h1,h2,h3⟩:=r.R.lists i vs e
 rw[ea]at h1
 cases h1
 have h2:=r.inLed i0 ea h2
 have hN:=r.N _ h2
 have keep:∀q∈led,q.1≠a→h'.get? q.1=some q.2:=fun q hq hn=>sb.extBut _ _ hn (r.N q hq).1
 refine r.changed (k:=k) i0 e ea ⟨r.F.ns.sameBut sb (Ne.symm hN.2.1),fun b o eb=>sb.extBut b o (fun q=>?_) (r.F.keep b o eb),r.F.above⟩ (fun q hq=>?_) hv hl
 ·subst q
  rw[hN.2.2]at eb
  cases eb
 ·rcases Zz7.mp hq with e | hq
  ·subst e
   exact⟨ha,hN.2⟩
  ·obtain⟨h1,h2⟩:=List.mem_filter.mp hq
   exact⟨keep q h1 (by simpa using h2),(r.N q h1).2⟩
theorem Rep.swap{Γ:Cx}{W:Wd}{ρ:Lc}{H:Hp}{fs fs' fr:List (Addr×Obj)}{h h':Heap}(r:Rep Γ W ρ H (fs++fr) h)(ap:∀q∈fs,∀t∈fr,q.1≠t.1)(keep:∀b o,b∉fs.map (·.1)→h.get? b=some o→h'.get? b=some o)(new:∀q∈fs',h'.get? q.1=some q.2∧q.1∈fs.map (·.1)): Rep Γ W ρ H (fs'++fr) h':=by
 obtain⟨m,c,led,r⟩:=r
 have inF:∀q∈fs,q∈fs++fr:=fun q hq=>List.mem_append_left _ hq
 have nL:∀a∈fs.map (·.1),a≠Γ.L∧Γ.h₀.get? a=none:=fun a ha=>by
  obtain⟨q,hq,e⟩:=Zz11.mp ha
  exact e▸(r.N q (r.frIn q (inF q hq))).2
 have kp:∀q∈led,q.1∉fs.map (·.1)→h'.get? q.1=some q.2:=fun q hq hn=>keep _ _ hn (r.N q hq).1
 refine⟨m,c,fs'++led.filter (fun q=>decide (q.1∉fs.map (·.1))),⟨⟨?_,fun b o e=>?_,r.F.above⟩,fun q hq=>?_,⟨r.R.len,r.R.nd,fun i vs e=>?_,fun q hq=>?_,r.R.kind⟩,r.sc,r.sc0,fun q hq=>?_,fun q hq=>?_,fun q hq=>?_,r.clOff,fun q hq t ht=>?_,fun q hq t ht=>?_,r.clTup,r.own⟩⟩
 ·obtain⟨o,es,ep,h1,h2⟩:=r.F.ns
  exact⟨o,es,ep,keep _ _ (fun q=>(nL _ q).1 rfl) h1,h2⟩
 ·refine keep b o (fun q=>?_) (r.F.keep b o e)
  rw[(nL b q).2]at e
  cases e
 ·rcases Zz8.mp hq with hq | hq
  ·obtain⟨h1,h2⟩:=new q hq
   exact⟨h1,nL _ h2⟩
  ·obtain⟨h1,h2⟩:=List.mem_filter.mp hq
   exact⟨kp q h1 (by simpa using h2),(r.N q h1).2⟩
 ·obtain⟨l,a,xs,k,h1,h2,h3⟩:=r.R.lists i vs e
  refine⟨l,a,xs,k,h1,Zd3 h2 fun h2=>List.mem_append_right _ (List.mem_filter.mpr ⟨h2,?_⟩),h3⟩
  have:a∉fs.map (·.1):=fun q=>by
   obtain⟨t,ht,e⟩:=Zz11.mp q
   exact r.frOff t (inF t ht) (e▸List.mem_of_getElem? h1)
  simpa using this
 ·refine Zd3 (r.R.tups q hq) fun h2=>List.mem_append_right _ (List.mem_filter.mpr ⟨h2,?_⟩)
  have:q.1∉fs.map (·.1):=fun z=>by
   obtain⟨t,ht,e⟩:=Zz11.mp z
   exact r.frTup t (inF t ht) q hq e
  simpa using this
 ·rcases Zz8.mp hq with hq | hq
  ·exact Zz4 _ hq
  ·refine Zz3 _ (List.mem_filter.mpr ⟨r.frIn q (Zz3 _ hq),?_⟩)
   have:q.1∉fs.map (·.1):=fun z=>by
    obtain⟨t,ht,e⟩:=Zz11.mp z
    exact ap t ht q hq e
   simpa using this
 ·rcases Zz8.mp hq with hq | hq
  ·obtain⟨t,ht,e⟩:=Zz11.mp (new q hq).2
   exact e▸r.frOff t (inF t ht)
  ·exact r.frOff q (Zz3 _ hq)
 ·refine Zz3 _ (List.mem_filter.mpr ⟨r.clIn q hq,?_⟩)
  have:q.1∉fs.map (·.1):=fun z=>by
   obtain⟨t,ht,e⟩:=Zz11.mp z
   exact r.apart q hq t (inF t ht) e.symm
  simpa using this
 ·rcases Zz8.mp ht with ht | ht
  ·obtain⟨u,hu,e⟩:=Zz11.mp (new t ht).2
   exact e▸r.apart q hq u (inF u hu)
  ·exact r.apart q hq t (Zz3 _ ht)
 ·rcases Zz8.mp hq with hq | hq
  ·obtain⟨u,hu,e⟩:=Zz11.mp (new q hq).2
   exact e▸r.frTup u (inF u hu) t ht
  ·exact r.frTup q (Zz3 _ hq) t ht
theorem Rep.more{Γ:Cx}{W:Wd}{ρ:Lc}{H:Hp}{fs fr:List (Addr×Obj)}{h h':Heap}(r:Rep Γ W ρ H fr h)(up:∀b o,h.get? b=some o→h'.get? b=some o)(new:∀q∈fs,h'.get? q.1=some q.2∧h.objs.size≤q.1): Rep Γ W ρ H (fs++fr) h'∧∀q∈fs,∀t∈fr,q.1≠t.1:=by
 have r':=r.grown up
 obtain⟨m,c,led,r⟩:=r
 have lt:∀q∈W.sc::led,q.1<h.objs.size:=fun q hq=>Heap.lt_size (r.get hq)
 have ne:∀q∈fs,∀t∈W.sc::led,q.1≠t.1:=fun q hq t ht=>Nat.ne_of_gt (Nat.lt_of_lt_of_le (lt t ht) (new q hq).2)
 refine⟨⟨m,c,fs++led,⟨⟨?_,fun b o e=>up b o (r.F.keep b o e),r.F.above⟩,fun q hq=>?_,r.R.mono fun q hq=>Ze9 hq fun x hx=>List.mem_append_right _ hx,r.sc,r.sc0,fun q hq=>?_,fun q hq=>?_,fun q hq=>List.mem_append_right _ (r.clIn q hq),r.clOff,fun q hq t ht=>?_,fun q hq t ht=>?_,r.clTup,r.own⟩⟩,fun q hq t ht=>ne q hq t (Zz2 _ (r.frIn t ht))⟩
 ·obtain⟨o,es,ep,h1,h2⟩:=r.F.ns
  exact⟨o,es,ep,up _ _ h1,h2⟩
 ·rcases Zz8.mp hq with hq | hq
  ·obtain⟨h1,h2⟩:=new q hq
   refine⟨h1,fun e=>?_,?_⟩
   ·exact absurd (e▸r.F.ns.lt) (Nat.not_lt.mpr h2)
   ·cases e:Γ.h₀.get? q.1 with
    | none=>rfl
    | some o=>exact absurd (Heap.lt_size (r.F.keep _ _ e)) (Nat.not_lt.mpr h2)
  ·exact⟨up _ _ (r.N q hq).1,(r.N q hq).2⟩
 ·rcases Zz8.mp hq with hq | hq
  ·exact Zz4 _ hq
  ·exact Zz3 _ (r.frIn q hq)
 ·rcases Zz8.mp hq with hq | hq
  ·intro hm
   obtain⟨o,ho⟩:=r.piIn _ hm
   exact ne q hq _ ho rfl
  ·exact r.frOff q hq
 ·rcases Zz8.mp ht with ht | ht
  ·exact(ne t ht q (Zz2 _ (r.clIn q hq))).symm
  ·exact r.apart q hq t ht
 ·rcases Zz8.mp hq with hq | hq
  ·exact ne q hq t (r.R.tups t ht)
  ·exact r.frTup q hq t ht
theorem Rep.less{Γ:Cx}{W:Wd}{ρ:Lc}{H:Hp}{fs fr:List (Addr×Obj)}{h:Heap}(r:Rep Γ W ρ H fs h)(sub:∀q∈fr,q∈fs): Rep Γ W ρ H fr h:=by
 obtain⟨m,c,led,r⟩:=r
 exact⟨m,c,led,⟨r.F,r.N,r.R,r.sc,r.sc0,fun q hq=>r.frIn q (sub q hq),fun q hq=>r.frOff q (sub q hq),r.clIn,r.clOff,fun q hq t ht=>r.apart q hq t (sub t ht),fun q hq=>r.frTup q (sub q hq),r.clTup,r.own⟩⟩
theorem Rep.frAt{Γ:Cx}{W:Wd}{ρ:Lc}{H:Hp}{fr:List (Addr×Obj)}{h:Heap}{q:Addr×Obj}(r:Rep Γ W ρ H fr h)(hq:q∈fr): h.get? q.1=some q.2:=by
 obtain⟨m,c,led,r⟩:=r
 exact(r.N q (r.frIn q hq)).1
end PM
end
section
set_option autoImplicit false
namespace PM
open PySem PyProof.Rows PyProof
noncomputable abbrev Ex:=Lc→Hp→Option (V×Hp)
noncomputable abbrev Exs:=Lc→Hp→Option (List V×Hp)
noncomputable abbrev Ts:=Lc→Hp→Option (Bool×Hp)
noncomputable abbrev ZgE(Γ:Cx)(W:Wd)(ρ:Lc)(H:Hp)(fr:List (Addr×Obj))(s:Shared)(Q:Value→Shared→Prop)(v:V): Prop:=
 ∀(W':Wd) (h':Heap) (tk':Nat) (x:Value),W.Le W'→Rep Γ W' ρ H fr h'→VR W' v x→Q x { s with heap:=h',toks:=tk' }
noncomputable abbrev Zij(Γ:Cx)(W:Wd)(ρ:Lc)(H:Hp)(fr:List (Addr×Obj))(s:Shared)(Q:Bool→Shared→Prop)(b:Bool): Prop:=
 ∀(W':Wd) (h':Heap) (tk':Nat),W.Le W'→Rep Γ W' ρ H fr h'→Q b { s with heap:=h',toks:=tk' }
section
variable (prog:Program) (w:World)
noncomputable def J(Γ:Cx)(e:Expr)(f:Ex): Prop:=∀(W:Wd) (ρ:Lc) (H:Hp) (fr:List (Addr×Obj)) (s:Shared) (Q E:Value→Shared→Prop) (v:V) (H':Hp),
 Rep Γ W ρ H fr s.heap→f ρ H=some (v,H')→ZgE Γ W ρ H' fr s Q v→wpAny (model prog w) Γ.A (eval e Γ.env) Q E s
noncomputable def Js(Γ:Cx)(es:List Expr)(f:Exs): Prop:=∀(pos:Pos) (W:Wd) (ρ:Lc) (H:Hp) (fr:List (Addr×Obj)) (s:Shared) (Q:List Value→Shared→Prop) (E:Value→Shared→Prop) (vs:List V) (H':Hp),
 Rep Γ W ρ H fr s.heap→f ρ H=some (vs,H')→(∀(W':Wd) (h':Heap) (tk':Nat) (xs:List Value),W.Le W'→Rep Γ W' ρ H' fr h'→VRs W' vs xs→Q xs { s with heap:=h',toks:=tk' })→wpAny (model prog w) Γ.A (spliced (backTo pos (starEach es Γ.env))) Q E s
noncomputable def JT(Γ:Cx)(e:Expr)(f:Ts): Prop:=∀(W:Wd) (ρ:Lc) (H:Hp) (fr:List (Addr×Obj)) (s:Shared) (Q:Bool→Shared→Prop) (E:Value→Shared→Prop) (b:Bool) (H':Hp),
 Rep Γ W ρ H fr s.heap→f ρ H=some (b,H')→Zij Γ W ρ H' fr s Q b→wpAny (model prog w) Γ.A (isTrue e Γ.env (eval e Γ.env)) Q E s
noncomputable def Op2(m:Value→Value→Sem Value)(o:V→V→Hp→Option (V×Hp)): Prop:=∀(Γ:Cx) (W:Wd) (ρ:Lc) (H:Hp) (fr:List (Addr×Obj)) (s:Shared) (Q E:Value→Shared→Prop) (a b:V) (x y:Value) (v:V) (H':Hp),
 Rep Γ W ρ H fr s.heap→VR W a x→VR W b y→o a b H=some (v,H')→ZgE Γ W ρ H' fr s Q v→wpAny (model prog w) Γ.A (m x y) Q E s
noncomputable def Op1(m:Value→Sem Value)(o:V→Hp→Option (V×Hp)): Prop:=∀(Γ:Cx) (W:Wd) (ρ:Lc) (H:Hp) (fr:List (Addr×Obj)) (s:Shared) (Q E:Value→Shared→Prop) (a:V) (x:Value) (v:V) (H':Hp),
 Rep Γ W ρ H fr s.heap→VR W a x→o a H=some (v,H')→ZgE Γ W ρ H' fr s Q v→wpAny (model prog w) Γ.A (m x) Q E s
noncomputable def OpT(m:Value→Sem Bool)(o:V→Hp→Option Bool): Prop:=∀(Γ:Cx) (W:Wd) (ρ:Lc) (H:Hp) (fr:List (Addr×Obj)) (s:Shared) (Q:Bool→Shared→Prop) (E:Value→Shared→Prop) (a:V) (x:Value) (b:Bool),
 Rep Γ W ρ H fr s.heap→VR W a x→o a H=some b→Zij Γ W ρ H fr s Q b→wpAny (model prog w) Γ.A (m x) Q E s
end
noncomputable def Zm(k:Int): Ex:=fun _ H=>some (.int k,H)
noncomputable def Z9: Ex:=fun _ H=>some (.none,H)
noncomputable def Za4(b:Bool): Ex:=fun _ H=>some (.bool b,H)
noncomputable def Zb(i:Nat): Ex:=fun ρ H=>(ρ i).map fun v=>(v,H)
noncomputable def Zh(o:V→V→Hp→Option (V×Hp))(f g:Ex): Ex:=fun ρ H=>(f ρ H).bind fun p=>(g ρ p.2).bind fun q=>o p.1 q.1 q.2
noncomputable def eUn(o:V→Hp→Option (V×Hp))(f:Ex): Ex:=fun ρ H=>(f ρ H).bind fun p=>o p.1 p.2
noncomputable def eIf(t:Ts)(f g:Ex): Ex:=fun ρ H=>(t ρ H).bind fun p=>if p.1 then f ρ p.2 else g ρ p.2
noncomputable def Zo: Exs:=fun _ H=>some ([],H)
noncomputable def Zf(f:Ex)(g:Exs): Exs:=fun ρ H=>(f ρ H).bind fun p=>(g ρ p.2).bind fun q=>some (p.1::q.1,q.2)
noncomputable def ZaG(g:Exs): Ex:=fun ρ H=>(g ρ H).bind fun p=>if p.1.length≤LEN then some (.tup p.1,p.2)else none
noncomputable def Zbh(g:Exs): Ex:=fun ρ H=>(g ρ H).bind fun p=>if p.1.length≤LEN then some (.ref p.2.length,p.2++[p.1])else none
noncomputable def ZcD: V→Hp→Option Bool
 | .bool b,_=>some b
 | .int i,_=>some (i != 0)
 | .none,_=>some false
 | _,_=>none
noncomputable def ZM(f:Ex): Ts:=fun ρ H=>(f ρ H).bind fun p=>(ZcD p.1 p.2).map fun b=>(b,p.2)
noncomputable def Zb2(t:Ts): Ts:=fun ρ H=>(t ρ H).map fun p=>(!p.1,p.2)
noncomputable def Zaw: Ts:=fun _ H=>some (true,H)
noncomputable def Zca: Ts:=fun _ H=>some (false,H)
noncomputable def Zbj(t u:Ts): Ts:=fun ρ H=>(t ρ H).bind fun p=>if p.1 then u ρ p.2 else some (false,p.2)
noncomputable def tOr(t u:Ts): Ts:=fun ρ H=>(t ρ H).bind fun p=>if p.1 then some (true,p.2)else u ρ p.2
noncomputable def tIf(t u v:Ts): Ts:=fun ρ H=>(t ρ H).bind fun p=>if p.1 then u ρ p.2 else v ρ p.2
noncomputable def Zir(f:Ex): Ex:=fun ρ H=>(f ρ H).bind fun p=>(ZcD p.1 p.2).map fun b=>(.bool (!b),p.2)
noncomputable def ZdJ(f g:Ex): Ex:=fun ρ H=>(f ρ H).bind fun p=>(ZcD p.1 p.2).bind fun b=>if b then g ρ p.2 else some p
noncomputable def eOr(f g:Ex): Ex:=fun ρ H=>(f ρ H).bind fun p=>(ZcD p.1 p.2).bind fun b=>if b then some p else g ρ p.2
section
variable {prog:Program} {w:World} {Γ:Cx}
theorem J.int(k:Int)(n:Nat)(pos:Pos): J prog w Γ (.Constant (.int k) n pos) (Zm k):=fun W ρ H fr s Q E v H' r e post=>by
 cases e
 exact wpAny_Constant_int (post W s.heap _ _ (.refl W) r (.int k _))
theorem J.none(n:Nat)(pos:Pos): J prog w Γ (.Constant .none n pos) Z9:=fun W ρ H fr s Q E v H' r e post=>by
 cases e
 exact wpAny_Constant_none (post W s.heap s.toks _ (.refl W) r .none)
theorem J.bool(b:Bool)(n:Nat)(pos:Pos): J prog w Γ (.Constant (.bool b) n pos) (Za4 b):=fun W ρ H fr s Q E v H' r e post=>by
 cases e
 exact wpAny_Constant_bool (post W s.heap s.toks _ (.refl W) r (.bool b))
theorem ZI{e1 e2:Expr}{op:Operator}{pos:Pos}{f g:Ex}{o:V→V→Hp→Option (V×Hp)}(h1:J prog w Γ e1 f)(h2:J prog w Γ e2 g)(ho:Op2 prog w (binaryOp op) o): J prog w Γ (.BinOp e1 op e2 pos) (Zh o f g):=by
 intro W ρ H fr s Q E v H' r hf post
 obtain⟨p,e1,hf⟩:=Zz0.mp hf
 obtain⟨q,e2,e3⟩:=Zz0.mp hf
 refine wpAny_BinOp (h1 W ρ H fr s _ E _ _ r e1 fun W1 k1 t1 x l1 r1 x1=>?_)
 refine h2 W1 ρ _ fr _ _ E _ _ r1 e2 fun W2 k2 t2 y l2 r2 y2=>?_
 exact ho Γ W2 ρ _ fr _ Q E _ _ x y v H' r2 (x1.mono l2) y2 e3 fun W3 k3 t3 z l3 r3 z3=>post W3 k3 t3 z ((l1.trans l2).trans l3) r3 z3
theorem Zcp{e1 e2:Expr}{op:CmpOp}{pos:Pos}{f g:Ex}{o:V→V→Hp→Option (V×Hp)}(h1:J prog w Γ e1 f)(h2:J prog w Γ e2 g)(ho:Op2 prog w (compareOp op) o)(hm:behindInMarks op e2=false:=by with_unfolding_all rfl): J prog w Γ (.Compare e1 [op] [e2] pos) (Zh o f g):=by
 intro W ρ H fr s Q E v H' r hf post
 obtain⟨p,e1,hf⟩:=Zz0.mp hf
 obtain⟨q,e2,e3⟩:=Zz0.mp hf
 refine wpAny_Compare1 (h1 W ρ H fr s _ E _ _ r e1 fun W1 k1 t1 x l1 r1 x1=>?_) hm
 refine h2 W1 ρ _ fr _ _ E _ _ r1 e2 fun W2 k2 t2 y l2 r2 y2=>?_
 exact ho Γ W2 ρ _ fr _ Q E _ _ x y v H' r2 (x1.mono l2) y2 e3 fun W3 k3 t3 z l3 r3 z3=>post W3 k3 t3 z ((l1.trans l2).trans l3) r3 z3
theorem Zfi{e1:Expr}{op:UnaryOp}{pos:Pos}{f:Ex}{o:V→Hp→Option (V×Hp)}(h1:J prog w Γ e1 f)(ho:Op1 prog w (unaryOp op) o): J prog w Γ (.UnaryOp op e1 pos) (eUn o f):=by
 intro W ρ H fr s Q E v H' r hf post
 obtain⟨p,e1,hf⟩:=Zz0.mp hf
 refine wpAny_UnaryOp (h1 W ρ H fr s _ E _ _ r e1 fun W1 k1 t1 x l1 r1 x1=>?_)
 exact ho Γ W1 ρ _ fr _ Q E _ x v H' r1 x1 hf fun W3 k3 t3 z l3 r3 z3=>post W3 k3 t3 z (l1.trans l3) r3 z3
theorem Zeq: OpT prog w truthy ZcD:=by
 intro Γ W ρ H fr s Q E a x b r hx ho post
 cases hx with
 | none=>cases ho;exact truthy_none (post W s.heap s.toks (.refl W) r)
 | bool c=>cases ho;exact fun _ _ _=>post W s.heap s.toks (.refl W) r
 | int i t=>cases ho;exact P.truthy_int (post W s.heap s.toks (.refl W) r)
 | str _ _=>cases ho
 | tup _ _ _=>cases ho
 | ref _=>cases ho
theorem Zwy{e1:Expr}{pos:Pos}{f:Ex}(h1:J prog w Γ e1 f): J prog w Γ (.UnaryOp .Not e1 pos) (Zir f):=by
 intro W ρ H fr s Q E v H' r hf post
 obtain⟨p,e1,hf⟩:=Zz0.mp hf
 obtain⟨b,e2,e3⟩:=Zz1.mp hf
 cases e3
 refine wpAny_UnaryOp (h1 W ρ H fr s _ E _ _ r e1 fun W1 k1 t1 x l1 r1 x1=>?_)
 exact not_of (Zeq Γ W1 ρ _ fr _ _ E _ x b r1 x1 e2 fun W2 k2 t2 l2 r2=>post W2 k2 t2 _ (l1.trans l2) r2 (.bool _))
theorem Zgu{e1 e2:Expr}{pos:Pos}{f g:Ex}(h1:J prog w Γ e1 f)(h2:J prog w Γ e2 g): J prog w Γ (.BoolOp .And [e1,e2] pos) (ZdJ f g):=by
 intro W ρ H fr s Q E v H' r hf post
 obtain⟨p,e1,hf⟩:=Zz0.mp hf
 obtain⟨b,e2,e3⟩:=Zz0.mp hf
 refine wpAny_And2 (h1 W ρ H fr s _ E _ _ r e1 fun W1 k1 t1 x l1 r1 x1=>?_)
 refine Zeq Γ W1 ρ _ fr _ _ E _ x b r1 x1 e2 fun W2 k2 t2 l2 r2=>?_
 cases b with
 | true=>exact h2 W2 ρ _ fr _ Q E v H' r2 e3 fun W3 k3 t3 z l3 r3 z3=>post W3 k3 t3 z ((l1.trans l2).trans l3) r3 z3
 | false=>
  cases e3
  exact post W2 k2 t2 x (l1.trans l2) r2 (x1.mono l2)
theorem ZwY{e1 e2:Expr}{pos:Pos}{f g:Ex}(h1:J prog w Γ e1 f)(h2:J prog w Γ e2 g): J prog w Γ (.BoolOp .Or [e1,e2] pos) (eOr f g):=by
 intro W ρ H fr s Q E v H' r hf post
 obtain⟨p,e1,hf⟩:=Zz0.mp hf
 obtain⟨b,e2,e3⟩:=Zz0.mp hf
 refine wpAny_Or2 (h1 W ρ H fr s _ E _ _ r e1 fun W1 k1 t1 x l1 r1 x1=>?_)
 refine Zeq Γ W1 ρ _ fr _ _ E _ x b r1 x1 e2 fun W2 k2 t2 l2 r2=>?_
 cases b with
 | false=>exact h2 W2 ρ _ fr _ Q E v H' r2 e3 fun W3 k3 t3 z l3 r3 z3=>post W3 k3 t3 z ((l1.trans l2).trans l3) r3 z3
 | true=>
  cases e3
  exact post W2 k2 t2 x (l1.trans l2) r2 (x1.mono l2)
theorem Zfa{t e1 e2:Expr}{pos:Pos}{u:Ts}{f g:Ex}(ht:JT prog w Γ t u)(h1:J prog w Γ e1 f)(h2:J prog w Γ e2 g): J prog w Γ (.IfExp t e1 e2 pos) (eIf u f g):=by
 intro W ρ H fr s Q E v H' r hf post
 obtain⟨p,e1,hf⟩:=Zz0.mp hf
 refine wpAny_IfExp (ht W ρ H fr s _ E _ _ r e1 fun W1 k1 t1 l1 r1=>?_)
 obtain⟨b,H1⟩:=p
 cases b with
 | true=>exact h1 W1 ρ _ fr _ Q E v H' r1 hf fun W3 k3 t3 z l3 r3 z3=>post W3 k3 t3 z (l1.trans l3) r3 z3
 | false=>exact h2 W1 ρ _ fr _ Q E v H' r1 hf fun W3 k3 t3 z l3 r3 z3=>post W3 k3 t3 z (l1.trans l3) r3 z3
theorem Zr: Js prog w Γ [] Zo:=fun pos W ρ H fr s Q E vs H' r hf post=>by
 cases hf
 exact wpAny_items_nil (post W s.heap s.toks [] (.refl W) r .nil)
theorem Zuk{e:Expr}{es:List Expr}{f:Ex}{g:Exs}(h1:J prog w Γ e f)(h2:Js prog w Γ es g)(he:starEach (e::es) Γ.env=(false,eval e Γ.env)::starEach es Γ.env:=by rfl): Js prog w Γ (e::es) (Zf f g):=by
 intro pos W ρ H fr s Q E vs H' r hf post
 obtain⟨p,e1,hf⟩:=Zz0.mp hf
 obtain⟨q,e2,e3⟩:=Zz0.mp hf
 cases e3
 refine wpAny_items_cons (h1 W ρ H fr s _ E _ _ r e1 fun W1 k1 t1 x l1 r1 x1=>?_) he
 exact h2 pos W1 ρ _ fr _ _ E _ _ r1 e2 fun W2 k2 t2 ys l2 r2 y2=>post W2 k2 t2 _ (l1.trans l2) r2 (.cons (x1.mono l2) y2)
theorem J.tup{es:List Expr}{k:Nat}{pos:Pos}{g:Exs}(h:Js prog w Γ es g): J prog w Γ (.Tuple es k pos) (ZaG g):=by
 intro W ρ H fr s Q E v H' r hf post
 obtain⟨p,e1,hf⟩:=Zz0.mp hf
 by_cases hl:p.1.length≤LEN
 ·rw[if_pos hl]at hf
  cases hf
  refine wpAny_Tuple (h pos W ρ H fr s _ E _ _ r e1 fun W1 k1 t1 xs l1 r1 x1=>⟨ZcM (by rw[x1.length];exact hl),?_⟩)
  obtain⟨W2,l2,r2,v2⟩:=r1.tuple (k:=0) x1 hl
  exact post W2 _ _ _ (l1.trans l2) r2 v2
 ·rw[if_neg hl]at hf
  cases hf
theorem J.list{es:List Expr}{pos:Pos}{g:Exs}(h:Js prog w Γ es g): J prog w Γ (.List es pos) (Zbh g):=by
 intro W ρ H fr s Q E v H' r hf post
 obtain⟨p,e1,hf⟩:=Zz0.mp hf
 by_cases hl:p.1.length≤LEN
 ·rw[if_pos hl]at hf
  cases hf
  refine wpAny_List (h pos W ρ H fr s _ E _ _ r e1 fun W1 k1 t1 xs l1 r1 x1=>⟨ZcM (by rw[x1.length];exact hl),?_⟩)
  obtain⟨W2,l2,r2,v2⟩:=r1.list (k:=0) x1 hl
  exact post W2 _ _ _ (l1.trans l2) r2 v2
 ·rw[if_neg hl]at hf
  cases hf
theorem Zcb{e:Expr}{pos:Pos}{t:Ts}(h:JT prog w Γ e t): JT prog w Γ (.UnaryOp .Not e pos) (Zb2 t):=by
 intro W ρ H fr s Q E b H' r hf post
 obtain⟨p,e1,e2⟩:=Zz1.mp hf
 cases e2
 exact isTrue_not (h W ρ H fr s _ E _ _ r e1 post)
noncomputable def JA(prog:Program)(w:World)(Γ:Cx)(op:BoolOp)(es:List Expr)(f:Ts): Prop:=∀(W:Wd) (ρ:Lc) (H:Hp) (fr:List (Addr×Obj)) (s:Shared) (Q:Bool→Shared→Prop) (E:Value→Shared→Prop) (b:Bool) (H':Hp),
 Rep Γ W ρ H fr s.heap→f ρ H=some (b,H')→Zij Γ W ρ H' fr s Q b→wpAny (model prog w) Γ.A (allTrue op es Γ.env) Q E s
theorem Zdj: JA prog w Γ .And [] Zaw:=fun W ρ H fr s Q E b H' r hf post=>by
 cases hf
 exact wpAny_allTrue_And_nil (post W s.heap s.toks (.refl W) r)
theorem Zcs: JA prog w Γ .Or [] Zca:=fun W ρ H fr s Q E b H' r hf post=>by
 cases hf
 exact wpAny_allTrue_Or_nil (post W s.heap s.toks (.refl W) r)
theorem ZbJ{e:Expr}{es:List Expr}{t u:Ts}(h1:JT prog w Γ e t)(h2:JA prog w Γ .And es u): JA prog w Γ .And (e::es) (Zbj t u):=by
 intro W ρ H fr s Q E b H' r hf post
 obtain⟨p,e1,hf⟩:=Zz0.mp hf
 refine wpAny_allTrue_And_cons (h1 W ρ H fr s _ E _ _ r e1 fun W1 k1 t1 l1 r1=>?_)
 obtain⟨c,H1⟩:=p
 cases c with
 | true=>exact h2 W1 ρ _ fr _ Q E b H' r1 hf fun W3 k3 t3 l3 r3=>post W3 k3 t3 (l1.trans l3) r3
 | false=>
  cases hf
  exact post W1 k1 t1 l1 r1
theorem ZaW{e:Expr}{es:List Expr}{t u:Ts}(h1:JT prog w Γ e t)(h2:JA prog w Γ .Or es u): JA prog w Γ .Or (e::es) (tOr t u):=by
 intro W ρ H fr s Q E b H' r hf post
 obtain⟨p,e1,hf⟩:=Zz0.mp hf
 refine wpAny_allTrue_Or_cons (h1 W ρ H fr s _ E _ _ r e1 fun W1 k1 t1 l1 r1=>?_)
 obtain⟨c,H1⟩:=p
 cases c with
 | false=>exact h2 W1 ρ _ fr _ Q E b H' r1 hf fun W3 k3 t3 l3 r3=>post W3 k3 t3 (l1.trans l3) r3
 | true=>
  cases hf
  exact post W1 k1 t1 l1 r1
theorem Zbf{op:BoolOp}{es:List Expr}{pos:Pos}{t:Ts}(h:JA prog w Γ op es t): JT prog w Γ (.BoolOp op es pos) t:=fun W ρ H fr s Q E b H' r hf post=>wpAny_isTrue_BoolOp (h W ρ H fr s Q E b H' r hf post)
theorem Zbk{e:Expr}{f:Ex}(h:J prog w Γ e f)(he:isTrue e Γ.env (eval e Γ.env)=(do let v ←eval e Γ.env;standAt e.pos;holding [v] (truthy v)):=by rfl): JT prog w Γ e (ZM f):=by
 intro W ρ H fr s Q E b H' r hf post
 obtain⟨p,e1,hf⟩:=Zz0.mp hf
 obtain⟨c,e2,e3⟩:=Zz1.mp hf
 cases e3
 refine isTrue_plain (h W ρ H fr s _ E _ _ r e1 fun W1 k1 t1 x l1 r1 x1=>?_) he
 exact Zeq Γ W1 ρ _ fr _ _ E _ x b r1 x1 e2 fun W2 k2 t2 l2 r2=>post W2 k2 t2 (l1.trans l2) r2
theorem Z5{e1 e2:Expr}{op:CmpOp}{pos:Pos}{f g:Ex}{o:V→V→Hp→Option (V×Hp)}(h1:J prog w Γ e1 f)(h2:J prog w Γ e2 g)(ho:Op2 prog w (compareOp op) o)(hm:behindInMarks op e2=false:=by with_unfolding_all rfl): JT prog w Γ (.Compare e1 [op] [e2] pos) (ZM (Zh o f g)):=by
 intro W ρ H fr s Q E b H' r hf post
 obtain⟨pp,e0,hf0⟩:=Zz0.mp hf
 obtain⟨c,e4,e5⟩:=Zz1.mp hf0
 cases e5
 obtain⟨p,e1,hf⟩:=Zz0.mp e0
 obtain⟨q,e2,e3⟩:=Zz0.mp hf
 refine wpAny_isTrue_Compare1 (h1 W ρ H fr s _ E _ _ r e1 fun W1 k1 t1 x l1 r1 x1=>?_) hm
 refine h2 W1 ρ _ fr _ _ E _ _ r1 e2 fun W2 k2 t2 y l2 r2 y2=>?_
 refine ho Γ W2 ρ _ fr _ _ E _ _ x y _ _ r2 (x1.mono l2) y2 e3 fun W3 k3 t3 z l3 r3 z3=>?_
 exact Zeq Γ W3 ρ _ fr _ _ E _ z b r3 z3 e4 fun W4 k4 t4 l4 r4=>post W4 k4 t4 (((l1.trans l2).trans l3).trans l4) r4
theorem Zw7{t e1 e2:Expr}{pos:Pos}{u f g:Ts}(ht:JT prog w Γ t u)(h1:JT prog w Γ e1 f)(h2:JT prog w Γ e2 g): JT prog w Γ (.IfExp t e1 e2 pos) (tIf u f g):=by
 intro W ρ H fr s Q E v H' r hf post
 obtain⟨p,e1,hf⟩:=Zz0.mp hf
 refine isTrue_IfExp (ht W ρ H fr s _ E _ _ r e1 fun W1 k1 t1 l1 r1=>?_)
 obtain⟨b,H1⟩:=p
 cases b with
 | true=>exact h1 W1 ρ _ fr _ Q E v H' r1 hf fun W3 k3 t3 l3 r3=>post W3 k3 t3 (l1.trans l3) r3
 | false=>exact h2 W1 ρ _ fr _ Q E v H' r1 hf fun W3 k3 t3 l3 r3=>post W3 k3 t3 (l1.trans l3) r3
end
end PM
end
section
set_option autoImplicit false
namespace PM
open PySem PyProof.Rows PyProof
noncomputable def mulOk(a b:Int): Bool:=!(decide (Builtin.Int.intBits a>shortFactorBits) && decide (Builtin.Int.intBits b>shortFactorBits) && Builtin.Int.intTooBig (Builtin.Int.intBits a+Builtin.Int.intBits b))
theorem Zts{a b:Int}(h:mulOk a b=true): IntMulOk a b:=by
 unfold mulOk at h
 unfold IntMulOk
 intro c
 rw[c]at h
 cases h
noncomputable def Zbo: V→V→Hp→Option (V×Hp)
 | .int a,.int b,H=>some (.int (a-b),H)
 | _,_,_=>none
noncomputable def oDiv: V→V→Hp→Option (V×Hp)
 | .int a,.int b,H=>if b≠0∧Builtin.divisionGoesByPylong a b=false then some (.int (a.fdiv b),H)else none
 | _,_,_=>none
noncomputable def oMod: V→V→Hp→Option (V×Hp)
 | .int a,.int b,H=>if b≠0 then some (.int (a.fmod b),H)else none
 | _,_,_=>none
noncomputable def oPow: V→V→Hp→Option (V×Hp)
 | .int a,.int b,H=>if 0≤b∧(Builtin.Int.intBits a:Int)*b≤2 ^ 27 then some (.int (a ^ b.toNat),H)else none
 | _,_,_=>none
noncomputable def Zd4: V→Hp→Option (V×Hp)
 | .int a,H=>some (.int (-a),H)
 | _,_=>none
noncomputable def Zis(p:Int→Int→Bool): V→V→Hp→Option (V×Hp)
 | .int a,.int b,H=>some (.bool (p a b),H)
 | _,_,_=>none
noncomputable def oLt:=Zis fun a b=>decide (a<b)
noncomputable def oLe:=Zis fun a b=>decide (a≤b)
noncomputable def oGt:=Zis fun a b=>decide (b<a)
section
variable {prog:Program} {w:World}
theorem Zbz: Op2 prog w (binaryOp .Sub) Zbo:=by
 intro Γ W ρ H fr s Q E a b x y v H' r hx hy ho post
 cases hx <;> first | (cases ho;done) | skip
 cases hy <;> first | (cases ho;done) | skip
 cases ho
 exact PySem.P.sub_int (post W s.heap _ _ (.refl W) r (.int _ _))
theorem Zbl: Op2 prog w (binaryOp .Mod) oMod:=by
 intro Γ W ρ H fr s Q E a b x y v H' r hx hy ho post
 cases hx <;> first | (cases ho;done) | skip
 cases hy <;> first | (cases ho;done) | skip
 rename_i i t j u
 simp only[oMod]at ho
 by_cases hb:j≠0
 ·rw[if_pos hb]at ho
  cases ho
  exact mod_int' hb (post W s.heap _ _ (.refl W) r (.int _ _))
 ·rw[if_neg hb]at ho
  cases ho
theorem ZeZ: Op2 prog w (binaryOp .FloorDiv) oDiv:=by
 intro Γ W ρ H fr s Q E a b x y v H' r hx hy ho post
 cases hx <;> first | (cases ho;done) | skip
 cases hy <;> first | (cases ho;done) | skip
 rename_i i t j u
 simp only[oDiv]at ho
 by_cases hb:j≠0∧Builtin.divisionGoesByPylong i j=false
 ·rw[if_pos hb]at ho
  cases ho
  exact floordiv_int hb.1 (post W s.heap _ _ (.refl W) r (.int _ _)) (.inl hb.2)
 ·rw[if_neg hb]at ho
  cases ho
theorem Zmp: Op2 prog w (binaryOp .Pow) oPow:=by
 intro Γ W ρ H fr s Q E a b x y v H' r hx hy ho post
 cases hx <;> first | (cases ho;done) | skip
 cases hy <;> first | (cases ho;done) | skip
 rename_i i t j u
 simp only[oPow]at ho
 by_cases hb:0≤j∧(Builtin.Int.intBits i:Int)*j≤2 ^ 27
 ·rw[if_pos hb]at ho
  cases ho
  exact pow_int hb.1 hb.2 (post W s.heap _ _ (.refl W) r (.int _ _))
 ·rw[if_neg hb]at ho
  cases ho
theorem Ze0: Op1 prog w (unaryOp .USub) Zd4:=by
 intro Γ W ρ H fr s Q E a x v H' r hx ho post
 cases hx <;> first | (cases ho;done) | skip
 cases ho
 exact PySem.P.neg_int (post W s.heap _ _ (.refl W) r (.int _ _))
theorem Zd0: Op2 prog w (compareOp .Lt) oLt:=by
 intro Γ W ρ H fr s Q E a b x y v H' r hx hy ho post
 cases hx <;> first | (cases ho;done) | skip
 cases hy <;> first | (cases ho;done) | skip
 cases ho
 exact PySem.P.lt_int (post W s.heap s.toks _ (.refl W) r (.bool _))
theorem Zik: Op2 prog w (compareOp .LtE) oLe:=by
 intro Γ W ρ H fr s Q E a b x y v H' r hx hy ho post
 cases hx <;> first | (cases ho;done) | skip
 cases hy <;> first | (cases ho;done) | skip
 cases ho
 exact PySem.P.le_int (post W s.heap s.toks _ (.refl W) r (.bool _))
theorem Zfb: Op2 prog w (compareOp .Gt) oGt:=by
 intro Γ W ρ H fr s Q E a b x y v H' r hx hy ho post
 cases hx <;> first | (cases ho;done) | skip
 cases hy <;> first | (cases ho;done) | skip
 cases ho
 exact PySem.P.gt_int (post W s.heap s.toks _ (.refl W) r (.bool _))
end
end PM
end
section
set_option autoImplicit false
namespace PM
open PySem PyProof.Rows PyProof
noncomputable def Zfj(f:V→Option PyData): List V→Option (List PyData)
 | []=>some []
 | v::vs=>(f v).bind fun d=>(Zfj f vs).bind fun ds=>some (d::ds)
noncomputable def toD(H:Hp): Nat→V→Option PyData
 | _,.none=>some .none
 | _,.bool b=>some (.bool b)
 | _,.int i=>some (.int i)
 | _,.str x=>some (.str x)
 | n+1,.tup vs=>(Zfj (toD H n) vs).map .tuple
 | n+1,.ref a=>H[a]?.bind fun vs=>(Zfj (toD H n) vs).map .list
 | 0,.tup _=>none
 | 0,.ref _=>none
theorem Zkm{W:Wd}{h:Heap}{f:V→Option PyData}(ih:∀v x d,VR W v x→f v=some d→∃as,Reads h x d as): ∀{vs:List V} {xs:List Value} {ds:List PyData},VRs W vs xs→Zfj f vs=some ds→∃as,ReadsAll h xs ds as
 | _,_,_,.nil,e=>by
  cases e
  exact⟨_,.nil⟩
 | _,_,_,.cons a r,e=>by
  obtain⟨d,e1,e⟩:=Zz0.mp e
  obtain⟨ds,e2,e3⟩:=Zz0.mp e
  cases e3
  obtain⟨as,h1⟩:=ih _ _ _ a e1
  obtain⟨bs,h2⟩:=Zkm ih r e2
  exact⟨_,.cons h1 h2⟩
theorem ZeH{Γ:Cx}{W:Wd}{ρ:Lc}{H:Hp}{fr:List (Addr×Obj)}{h:Heap}(r:Rep Γ W ρ H fr h): ∀(n:Nat) (v:V) (x:Value) (d:PyData),VR W v x→toD H n v=some d→∃as,Reads h x d as:=by
 intro n
 induction n with
 | zero=>
  intro v x d hv e
  cases hv with
  | none=>cases e;exact⟨_,.none⟩
  | bool b=>cases e;exact⟨_,.bool b⟩
  | int i t=>cases e;exact⟨_,.int i t⟩
  | str y t=>cases e;exact⟨_,.str y t⟩
  | tup _ _ _=>cases e
  | ref _=>cases e
 | succ n ih=>
  intro v x d hv e
  cases hv with
  | none=>cases e;exact⟨_,.none⟩
  | bool b=>cases e;exact⟨_,.bool b⟩
  | int i t=>cases e;exact⟨_,.int i t⟩
  | str y t=>cases e;exact⟨_,.str y t⟩
  | @tup vs a xs k hm hl hs=>
   obtain⟨ds,e1,e2⟩:=Zz1.mp e
   subst e2
   obtain⟨as,h1⟩:=Zkm ih hs e1
   exact⟨_,.tuple (r.tupAt hm) rfl rfl (by simpa using h1)⟩
  | @ref i a ea=>
   obtain⟨vs,e0,e⟩:=Zz0.mp e
   obtain⟨ds,e1,e2⟩:=Zz1.mp e
   subst e2
   obtain⟨hl,xs,k,hg,hs⟩:=r.at e0 ea
   obtain⟨as,h1⟩:=Zkm ih hs e1
   exact⟨_,.list hg rfl rfl (by simpa using h1)⟩
noncomputable def ZbP: Nat:=8
noncomputable def Zit(a b:V)(H:Hp): Option Bool:=(toD H ZbP a).bind fun d=>(toD H ZbP b).bind fun e=>if SeqAt.shaped d=true∧SeqAt.shaped e=true then some (PyData.eqv d e)else none
noncomputable def oEq(a b:V)(H:Hp): Option (V×Hp):=(Zit a b H).map fun c=>(.bool c,H)
noncomputable def oNe(a b:V)(H:Hp): Option (V×Hp):=(Zit a b H).map fun c=>(.bool (!c),H)
noncomputable def oIs: V→V→Hp→Option (V×Hp)
 | .none,.none,H=>some (.bool true,H)
 | .bool _,.none,H=>some (.bool false,H)
 | .int _,.none,H=>some (.bool false,H)
 | .str _,.none,H=>some (.bool false,H)
 | .tup _,.none,H=>some (.bool false,H)
 | .ref _,.none,H=>some (.bool false,H)
 | _,_,_=>none
noncomputable def Zdn(a b:V)(H:Hp): Option (V×Hp):=(oIs a b H).bind fun p=>match p.1 with | .bool c=>some (.bool (!c),p.2) | _=>none
section
variable {prog:Program} {w:World}
theorem ZaU: Op2 prog w (compareOp .Eq) oEq:=by
 intro Γ W ρ H fr s Q E a b x y v H' r hx hy ho post
 obtain⟨c,e1,e2⟩:=Zz1.mp ho
 cases e2
 obtain⟨d,h1,e1⟩:=Zz0.mp e1
 obtain⟨e,h2,e1⟩:=Zz0.mp e1
 by_cases hs:SeqAt.shaped d=true∧SeqAt.shaped e=true
 ·rw[if_pos hs]at e1
  cases e1
  obtain⟨as,R1⟩:=ZeH r ZbP a x d hx h1
  obtain⟨bs,R2⟩:=ZeH r ZbP b y e hy h2
  exact eq_dataH R1 R2 hs.1 hs.2 (by have:=Γ.hu;omega) (post W s.heap s.toks _ (.refl W) r (.bool _))
 ·rw[if_neg hs]at e1
  cases e1
theorem Zce: Op2 prog w (compareOp .NotEq) oNe:=by
 intro Γ W ρ H fr s Q E a b x y v H' r hx hy ho post
 obtain⟨c,e1,e2⟩:=Zz1.mp ho
 cases e2
 obtain⟨d,h1,e1⟩:=Zz0.mp e1
 obtain⟨e,h2,e1⟩:=Zz0.mp e1
 by_cases hs:SeqAt.shaped d=true∧SeqAt.shaped e=true
 ·rw[if_pos hs]at e1
  cases e1
  obtain⟨as,R1⟩:=ZeH r ZbP a x d hx h1
  obtain⟨bs,R2⟩:=ZeH r ZbP b y e hy h2
  exact ne_dataH R1 R2 hs.1 hs.2 (by have:=Γ.hu;omega) (post W s.heap s.toks _ (.refl W) r (.bool _))
 ·rw[if_neg hs]at e1
  cases e1
theorem ZbA: Op2 prog w (compareOp .Is) oIs:=by
 intro Γ W ρ H fr s Q E a b x y v H' r hx hy ho post
 cases hy <;> first | (cases hx <;> cases ho;done) | skip
 refine PySem.is_none ?_
 cases hx <;> (cases ho;exact post W s.heap s.toks _ (.refl W) r (.bool _))
theorem ZdT: Op2 prog w (compareOp .IsNot) Zdn:=by
 intro Γ W ρ H fr s Q E a b x y v H' r hx hy ho post
 cases hy <;> first | (cases hx <;> cases ho;done) | skip
 refine PySem.isNot_none ?_
 cases hx <;> (cases ho;exact post W s.heap s.toks _ (.refl W) r (.bool _))
end
end PM
end
section
set_option autoImplicit false
namespace PM
open PySem PyProof.Rows PyProof
noncomputable def Zt: V→V→Hp→Option (V×Hp)
 | .ref a,.int k,H=>H[a]?.bind fun vs=>(seqIndex? k vs.length).bind fun j=>vs[j]?.map fun v=>(v,H)
 | .tup vs,.int k,H=>(seqIndex? k vs.length).bind fun j=>vs[j]?.map fun v=>(v,H)
 | _,_,_=>none
theorem Znr{k:Int}{n j:Nat}(h:seqIndex? k n=some j): j<n∧(k:Int)<n∧-(n:Int)≤k∧(0≤k→k.toNat=j)∧(k<0→(k+n).toNat=j):=by
 unfold seqIndex? at h
 by_cases c:k<0
 ·simp only[c,if_true]at h
  split at h
  ·rename_i d
   simp at d h
   omega
  ·cases h
 ·simp only[c,if_false]at h
  split at h
  ·rename_i d
   simp at d h
   omega
  ·cases h
section
variable {prog:Program} {w:World} {Γ:Cx}
theorem ZA{e1 e2:Expr}{pos:Pos}{f g:Ex}(h1:J prog w Γ e1 f)(h2:J prog w Γ e2 g)(hs:∀a k u,subscripted e2 false (.ref a) (.int k u)=operate [.ref a,.int k u] (getItem (.ref a) (.int k u)):=by intros;with_unfolding_all rfl): J prog w Γ (.Subscript e1 e2 pos) (Zh Zt f g):=by
 intro W ρ H fr s Q E v H' r hf post
 obtain⟨p,e1,hf⟩:=Zz0.mp hf
 obtain⟨q,e2,e3⟩:=Zz0.mp hf
 refine Subscript_ (h1 W ρ H fr s _ E _ _ r e1 fun W1 k1 t1 x l1 r1 x1=>?_)
 refine h2 W1 ρ _ fr _ _ E _ _ r1 e2 fun W2 k2 t2 y l2 r2 y2=>?_
 have x2:=x1.mono l2
 obtain⟨v1,H1⟩:=p
 obtain⟨v2,H2⟩:=q
 simp only at e3 r2 x2 y2
 cases y2 <;> first | (cases x2 <;> cases e3;done) | skip
 rename_i k u
 cases x2 <;> first | (cases e3;done) | skip
 ·rename_i vs a xs kk hm hl hv
  obtain⟨j,hj,e4⟩:=Zz0.mp e3
  obtain⟨z,hz,e5⟩:=Zz1.mp e4
  cases e5
  obtain⟨z',hz',rz⟩:=hv.at hz
  have hx:xs.length=vs.length:=hv.length
  have hb:=Znr hj
  rw[Za5]at hl
  have it:IsTup k2 a xs.toArray:=⟨_,r2.tupAt hm,rfl,kk,rfl⟩
  exact item_tupleT it (by omega) (by omega) (by rw[hx];exact hj) hz' (post W2 k2 t2 z' (l1.trans l2) r2 rz) (hs _ _ _)
 ·rename_i i a ea
  obtain⟨vs,hvs,e3⟩:=Zz0.mp e3
  obtain⟨j,hj,e4⟩:=Zz0.mp e3
  obtain⟨z,hz,e5⟩:=Zz1.mp e4
  cases e5
  obtain⟨hl,xs,kk,hg,hv⟩:=r2.at hvs ea
  obtain⟨z',hz',rz⟩:=hv.at hz
  have hx:xs.length=vs.length:=hv.length
  have hb:=Znr hj
  rw[Za5]at hl
  have isl:k2.IsList a xs.toArray:=⟨_,hg,rfl,kk,rfl⟩
  refine tail_any (s:={ s with heap:=k2,toks:=t2 }) isl.typeIs slot_list_getitem.lookup ?_ (hs _ _ _)
  by_cases hk:0≤k
  ·exact wpAny_getItem_list isl hk (by omega) (by rw[hb.2.2.2.1 hk];simpa using hz') (post W2 k2 t2 z' (l1.trans l2) r2 rz)
  ·refine wpAny_getItem_list_neg isl (by omega) (by simp;omega) (by omega) ?_ (post W2 k2 t2 z' (l1.trans l2) r2 rz)
   have:=hb.2.2.2.2 (by omega)
   rw[←hx]at this
   simpa [this]using hz'
end
noncomputable def Zbu{α:Type}(vs:List α)(lo hi:Option Int): List α:=(sliceRange (sliceBounds lo hi none vs.length).1 (sliceBounds lo hi none vs.length).2.1 (sliceBounds lo hi none vs.length).2.2).filterMap fun i=>vs[i]?
theorem VRs.pick{W:Wd}{vs:List V}{xs:List Value}(h:VRs W vs xs)(l:List Nat): VRs W (l.filterMap fun i=>vs[i]?) (l.filterMap fun i=>xs[i]?):=by
 induction l with
 | nil=>exact .nil
 | cons i l ih=>
  simp only[List.filterMap_cons]
  have hl:=h.length
  cases e:vs[i]? with
  | none=>
   have:xs[i]?=none:=by rw[List.getElem?_eq_none_iff]at e ⊢;omega
   rw[this]
   exact ih
  | some v=>
   obtain⟨x,hx,hr⟩:=h.at e
   rw[hx]
   exact .cons hr ih
theorem Zoo{α:Type}(vs:List α)(lo hi:Option Int): (Zbu vs lo hi).length≤vs.length:=by
 unfold Zbu
 refine Nat.le_trans (List.length_filterMap_le _ _) ?_
 refine sliceRange_length_le _ _ _ _ (fun _=>?_) fun c=>?_
 ·unfold sliceBounds
  cases lo <;> cases hi <;> simp <;> omega
 ·exact absurd (by unfold sliceBounds;simp) c
theorem Ztt{α:Type}(vs:List α)(a:Nat): ∀m:Nat,a+m≤vs.length→((List.range m).map fun k=>a+k).filterMap (fun i=>vs[i]?)=(vs.drop a).take m:=by
 intro m
 induction m with
 | zero=>intro _;simp
 | succ m ih=>
  intro h
  rw[List.range_succ,List.map_append,List.filterMap_append,ih (by omega),List.take_add_one]
  congr 1
  simp only[List.map_cons,List.map_nil,List.filterMap_cons,List.filterMap_nil,List.getElem?_drop]
  cases e:vs[a+m]? with
  | none=>rw[List.getElem?_eq_none_iff]at e;omega
  | some v=>rfl
theorem ZhP{α:Type}(vs:List α)(lo hi:Option Int){a b:Nat}(ha:(sliceBounds lo hi none vs.length).1=(a:Int))(hb:(sliceBounds lo hi none vs.length).2.1=(b:Int))(h:b≤vs.length): Zbu vs lo hi=(vs.drop a).take (b-a):=by
 have hc:(sliceBounds lo hi none vs.length).2.2=1:=by unfold sliceBounds;rfl
 unfold Zbu
 rw[ha,hb,hc]
 have e:sliceRange (a:Int) (b:Int) 1=(List.range (b-a)).map fun k=>a+k:=by
  unfold sliceRange
  simp only[show(1:Int)>0 from by decide,if_true]
  by_cases c:(a:Int)<b
  ·rw[if_pos c]
   have:((b:Int)-a+1-1) / 1=((b-a:Nat):Int):=by omega
   rw[this]
   simp only[Int.toNat_natCast]
   refine List.map_congr_left fun k _=>?_
   omega
  ·rw[if_neg c]
   have:b-a=0:=by omega
   rw[this]
   rfl
 rw[e]
 by_cases c:a≤b
 ·exact Ztt vs a (b-a) (by omega)
 ·have:b-a=0:=by omega
  rw[this]
  simp
theorem Zn0{α:Type}(vs:List α){k:Int}{a:Nat}(e:k=(a:Int)): Zbu vs (some k) none=vs.drop a:=by
 by_cases h:a≤vs.length
 ·rw[ZhP vs (some k) none (a:=a) (b:=vs.length) (by unfold sliceBounds;simp;omega) (by unfold sliceBounds;simp) (Zz10 _)]
  rw[List.take_of_length_le (by simp)]
 ·rw[ZhP vs (some k) none (a:=vs.length) (b:=vs.length) (by unfold sliceBounds;simp;omega) (by unfold sliceBounds;simp) (Zz10 _)]
  simp
  omega
theorem Zul{α:Type}(vs:List α){k:Int}{a:Nat}(e:k=(a:Int)): Zbu vs none (some k)=vs.take a:=by
 by_cases h:a≤vs.length
 ·rw[ZhP vs none (some k) (a:=0) (b:=a) (by unfold sliceBounds;simp) (by unfold sliceBounds;simp;omega) h]
  simp
 ·rw[ZhP vs none (some k) (a:=0) (b:=vs.length) (by unfold sliceBounds;simp) (by unfold sliceBounds;simp;omega) (Zz10 _)]
  rw[List.drop_zero,Nat.sub_zero,List.take_of_length_le (Zz10 _),List.take_of_length_le (by omega)]
noncomputable def Zgv: Option V→Option (Option Int)
 | none=>some none
 | some (.int k)=>some (some k)
 | _=>none
noncomputable abbrev Pt:=Lc→Hp→Option (Option V×Hp)
noncomputable def Zdd: Pt:=fun _ H=>some (none,H)
noncomputable def Zde(f:Ex): Pt:=fun ρ H=>(f ρ H).map fun p=>(some p.1,p.2)
noncomputable def ZcE(f:Ex)(lo hi:Pt): Ex:=fun ρ H=>(f ρ H).bind fun p=>(lo ρ p.2).bind fun q=>(hi ρ q.2).bind fun u=>(Zgv q.1).bind fun a=>(Zgv u.1).bind fun b=>match p.1 with
 | .ref i=>u.2[i]?.bind fun vs=>some (.ref u.2.length,u.2++[Zbu vs a b])
 | _=>none
inductive VP(W:Wd): Option V→Value→Prop where
 | none:VP W none .none
 | some {v:V} {x:Value}:VR W v x→VP W (some v) x
theorem VP.mono{W W':Wd}{v:Option V}{x:Value}(l:W.Le W')(h:VP W v x): VP W' v x:=by
 cases h with
 | none=>exact .none
 | some h=>exact .some (h.mono l)
theorem VP.part{W:Wd}{v:Option V}{x:Value}{k:Option Int}(h:VP W v x)(e:Zgv v=Option.some k): IsPart x k:=by
 cases h with
 | none=>cases e;exact .none
 | some h=>cases h <;> cases e;exact .int _ _
noncomputable def JP(prog:Program)(w:World)(Γ:Cx)(e:Option Expr)(f:Pt): Prop:=∀(W:Wd) (ρ:Lc) (H:Hp) (fr:List (Addr×Obj)) (s:Shared) (Q E:Value→Shared→Prop) (v:Option V) (H':Hp),
 Rep Γ W ρ H fr s.heap→f ρ H=some (v,H')→(∀(W':Wd) (h':Heap) (tk':Nat) (x:Value),W.Le W'→Rep Γ W' ρ H' fr h'→VP W' v x→Q x { s with heap:=h',toks:=tk' })→wpAny (model prog w) Γ.A (evalPart e Γ.env) Q E s
section
variable {prog:Program} {w:World} {Γ:Cx}
theorem JP.none: JP prog w Γ none Zdd:=fun W ρ H fr s Q E v H' r hf post=>by
 cases hf
 exact wpAny_evalPart_none (post W s.heap s.toks _ (.refl W) r .none)
theorem JP.some{e:Expr}{f:Ex}(h:J prog w Γ e f): JP prog w Γ (some e) (Zde f):=fun W ρ H fr s Q E v H' r hf post=>by
 obtain⟨p,e1,e2⟩:=Zz1.mp hf
 cases e2
 exact wpAny_evalPart_some (h W ρ H fr s _ E _ _ r e1 fun W1 k1 t1 x l1 r1 x1=>post W1 k1 t1 x l1 r1 (.some x1))
theorem Zf3{e:Expr}{lo hi:Option Expr}{p pos:Pos}{f:Ex}{a b:Pt}(h:J prog w Γ e f)(hlo:JP prog w Γ lo a)(hhi:JP prog w Γ hi b)(ht:∀o r,letTemporaryGo e o r=pure ():=by intro _ _;rfl): J prog w Γ (.Subscript e (.Slice lo hi Option.none p) pos) (ZcE f a b):=by
 intro W ρ H fr s Q E v H' r hf post
 obtain⟨p,e1,hf⟩:=Zz0.mp hf
 obtain⟨q,e2,hf⟩:=Zz0.mp hf
 obtain⟨u,e3,hf⟩:=Zz0.mp hf
 obtain⟨ka,e4,hf⟩:=Zz0.mp hf
 obtain⟨kb,e5,hf⟩:=Zz0.mp hf
 refine wpAny_Subscript_list_slice (h W ρ H fr s _ E _ _ r e1 fun W1 k1 t1 x l1 r1 x1=>?_) ht
 refine hlo W1 ρ _ fr _ _ E _ _ r1 e2 fun W2 k2 t2 y l2 r2 y2=>?_
 refine hhi W2 ρ _ fr _ _ E _ _ r2 e3 fun W3 k3 t3 z l3 r3 z3=>?_
 have x3:=x1.mono (l2.trans l3)
 obtain⟨v1,H1⟩:=p
 simp only at hf x3
 cases x3 with
 | none=>cases hf
 | bool _=>cases hf
 | int _ _=>cases hf
 | str _ _=>cases hf
 | tup _ _ _=>cases hf
 | @ref i a ea=>
  obtain⟨vs,hvs,e6⟩:=Zz0.mp hf
  cases e6
  obtain⟨hl,xs,kk,hg,hv⟩:=r3.at hvs ea
  have isl:k3.IsList a xs.toArray:=⟨_,hg,rfl,kk,rfl⟩
  refine⟨a,xs.toArray,ka,kb,rfl,isl,ZcM (by simp[hv.length];exact hl),(y2.mono l3).part e4,z3.part e5,?_⟩
  have hp:VRs W3 (Zbu vs ka kb) (Zbu xs ka kb):=by
   unfold Zbu
   rw[hv.length]
   exact hv.pick _
  have hx:slicePick xs.toArray ka kb Option.none=(Zbu xs ka kb).toArray:=by
   unfold slicePick Zbu
   simp
  obtain⟨W4,l4,r4,v4⟩:=(r3.push { cls:=.type "slice",data:=.fields #[y,z,.none] }).list (k:=0) hp (Nat.le_trans (Zoo vs ka kb) hl)
  rw[hx]
  have:=post W4 _ t3 _ (((l1.trans l2).trans l3).trans l4) r4 v4
  rw[Heap.size_push]at this
  exact this
end
end PM
end
section
set_option autoImplicit false
namespace PM
open PySem PyProof.Rows PyProof
noncomputable def Nm(prog:Program)(w:World)(Γ:Cx)(x:Str)(v:Value): Prop:=∀(pos:Pos) (m:Str→Option Value) (s:Shared) (Q E:Value→Shared→Prop),Fr Γ.h₀ Γ.L s.heap m→Q v s→wpAny (model prog w) Γ.A (eval (.Name x pos) Γ.env) Q E s
theorem Nm.use{prog:Program}{w:World}{Γ:Cx}{x:Str}{y:Value}(h:Nm prog w Γ x y){pos:Pos}{W:Wd}{ρ:Lc}{H:Hp}{fr:List (Addr×Obj)}{s:Shared}{Q E:Value→Shared→Prop}(r:Rep Γ W ρ H fr s.heap)(q:Q y s): wpAny (model prog w) Γ.A (eval (.Name x pos) Γ.env) Q E s:=by
 obtain⟨m,c,led,r⟩:=r
 exact h pos m s Q E r.F q
noncomputable def OpN(prog:Program)(w:World)(m:List Value→Sem Value)(o:List V→Hp→Option (V×Hp)): Prop:=∀(Γ:Cx) (W:Wd) (ρ:Lc) (H:Hp) (fr:List (Addr×Obj)) (s:Shared) (Q E:Value→Shared→Prop) (as:List V) (xs:List Value) (v:V) (H':Hp),
 Rep Γ W ρ H fr s.heap→VRs W as xs→o as H=some (v,H')→ZgE Γ W ρ H' fr s Q v→wpAny (model prog w) Γ.A (m xs) Q E s
noncomputable def Zu(o:List V→Hp→Option (V×Hp))(g:Exs): Ex:=fun ρ H=>(g ρ H).bind fun p=>o p.1 p.2
section
variable {prog:Program} {w:World} {Γ:Cx}
theorem ZaN{x:Str}{np pos:Pos}{id:String}{e:Expr}{es:List Expr}{g:Exs}{o:List V→Hp→Option (V×Hp)}(hn:Nm prog w Γ x (.builtin id))(h:Js prog w Γ (e::es) g)(ho:OpN prog w (fun xs=>call (.builtin id) xs) o)
  (he:starEach (e::es) Γ.env=(false,eval e Γ.env)::starEach es Γ.env:=by rfl) (hp:∀pos,(backTo pos (starEach es Γ.env)).any (·.1)=false:=by intro _;rfl):J prog w Γ (.Call (.Name x np) (e::es) [] pos) (Zu o g):=by
 intro W ρ H fr s Q E v H' r hf post
 obtain⟨p,e1,hf⟩:=Zz0.mp hf
 refine wpAny_Call_ofName (hn.use r ?_)
 refine callWith_builtin1 (h pos W ρ H fr s _ E _ _ r e1 fun W1 k1 t1 xs l1 r1 x1=>?_) he (hp pos)
 exact ho Γ W1 ρ _ fr _ Q E _ xs v H' r1 x1 hf fun W2 k2 t2 y l2 r2 y2=>post W2 k2 t2 y (l1.trans l2) r2 y2
theorem Zf4{x:Str}{np pos:Pos}{T:String}{e:Expr}{es:List Expr}{g:Exs}{o:List V→Hp→Option (V×Hp)}(hn:Nm prog w Γ x (.type T))(h:Js prog w Γ (e::es) g)(ho:OpN prog w (fun xs=>call (.type T) xs) o)
  (he:starEach (e::es) Γ.env=(false,eval e Γ.env)::starEach es Γ.env:=by rfl) (hp:∀pos,(backTo pos (starEach es Γ.env)).any (·.1)=false:=by intro _;rfl):J prog w Γ (.Call (.Name x np) (e::es) [] pos) (Zu o g):=by
 intro W ρ H fr s Q E v H' r hf post
 obtain⟨p,e1,hf⟩:=Zz0.mp hf
 refine wpAny_Call_ofName (hn.use r ?_)
 refine PySem.Pv.callWith_type1 (h pos W ρ H fr s _ E _ _ r e1 fun W1 k1 t1 xs l1 r1 x1=>?_) he (hp pos)
 exact ho Γ W1 ρ _ fr _ Q E _ xs v H' r1 x1 hf fun W2 k2 t2 y l2 r2 y2=>post W2 k2 t2 y (l1.trans l2) r2 y2
end
noncomputable def Zl3: V→String
 | .none=>"NoneType"
 | .bool _=>"bool"
 | .int _=>"int"
 | .str _=>"str"
 | .tup _=>"tuple"
 | .ref _=>"list"
noncomputable def Zmq(T:String)(v:V): Bool:=Zl3 v == T || (T == "int" && Zl3 v == "bool")
noncomputable def eIs(T:String)(f:Ex): Ex:=fun ρ H=>(f ρ H).map fun p=>(.bool (Zmq T p.1),p.2)
section
variable {prog:Program} {w:World} {Γ:Cx}
theorem isinst{T:String}(hT:T="int"∨T="bool"∨T="list"∨T="tuple"){W:Wd}{ρ:Lc}{H:Hp}{fr:List (Addr×Obj)}{s:Shared}{Q E:Value→Shared→Prop}{a:V}{x:Value}(r:Rep Γ W ρ H fr s.heap)(hx:VR W a x)(hin:∀i,a=.ref i→i<H.length)
  (post:∀tk,Q (.bool (Zmq T a)) { s with toks:=tk }):wpAny (model prog w) Γ.A (call (.builtin "isinstance") [x,.type T]) Q E s:=by
 cases hx with
 | none=>
      rcases hT with e | e | e | e <;> subst e
      ·exact call_isinstance (isinstance_false_none (by decide +kernel) F.isi_meta_int (by rw[isSubtype_type];kernel_rfl)) (post _)
      ·exact call_isinstance (isinstance_false_none (by decide +kernel) F.isi_meta_bool (by rw[isSubtype_type];kernel_rfl)) (post _)
      ·exact call_isinstance (isinstance_false_none (by decide +kernel) F.isi_meta_list (by rw[isSubtype_type];kernel_rfl)) (post _)
      ·exact call_isinstance (isinstance_false_none (by decide +kernel) F.isi_meta_tuple (by rw[isSubtype_type];kernel_rfl)) (post _)
 | bool b=>
       rcases hT with e | e | e | e <;> subst e
       ·exact IsiPair.bool_int (post s.toks)
       ·exact IsiPair.bool_bool (post s.toks)
       ·exact IsiPair.bool_list (post _)
       ·exact IsiPair.bool_tuple (post _)
 | int i t=>
       rcases hT with e | e | e | e <;> subst e
       ·exact IsiPair.int_int (post s.toks)
       ·exact IsiPair.int_bool (post _)
       ·exact IsiPair.int_list (post _)
       ·exact IsiPair.int_tuple (post _)
 | str y t=>
       rcases hT with e | e | e | e <;> subst e
       ·exact IsiPair.str_int (post _)
       ·exact IsiPair.str_bool (post _)
       ·exact IsiPair.str_list (post _)
       ·exact IsiPair.str_tuple (post _)
 | tup hm hl hs=>
  have hg:=r.tupAt hm
  rcases hT with e | e | e | e <;> subst e
  ·exact IsiPair.tuple_int hg rfl (post _)
  ·exact IsiPair.tuple_bool hg rfl (post _)
  ·exact IsiPair.tuple_list hg rfl (post _)
  ·exact IsiPair.tuple_tuple hg rfl (post s.toks)
 | @ref i a ea=>
  obtain⟨hl,xs,k,hg,hv⟩:=r.at (List.getElem?_eq_getElem (hin i rfl)) ea
  rcases hT with e | e | e | e <;> subst e
  ·exact IsiPair.list_int hg rfl (post _)
  ·exact IsiPair.list_bool hg rfl (post _)
  ·exact IsiPair.list_list hg rfl (post s.toks)
  ·exact IsiPair.list_tuple hg rfl (post _)
end
theorem Rep.refIn{Γ:Cx}{W:Wd}{ρ:Lc}{H:Hp}{fr:List (Addr×Obj)}{h:Heap}{i:Nat}{x:Value}(r:Rep Γ W ρ H fr h)(hx:VR W (.ref i) x): i<H.length:=by
 obtain⟨m,c,led,r⟩:=r
 cases hx with
 | ref e=>rw[←r.R.len];exact(Zz6.mp e).1
section
variable {prog:Program} {w:World} {Γ:Cx}
theorem ZdA{np tp pos:Pos}{x y:Str}{T:String}{e:Expr}{f:Ex}(hn:Nm prog w Γ x (.builtin "isinstance"))(hy:Nm prog w Γ y (.type T))(hT:T="int"∨T="bool"∨T="list"∨T="tuple")(h:J prog w Γ e f)
  (he:starEach [e,.Name y tp] Γ.env=(false,eval e Γ.env)::starEach [.Name y tp] Γ.env:=by rfl) (hp:∀pos,(backTo pos (starEach [.Name y tp] Γ.env)).any (·.1)=false:=by intro _;rfl):J prog w Γ (.Call (.Name x np) [e,.Name y tp] [] pos) (eIs T f):=by
 intro W ρ H fr s Q E v H' r hf post
 obtain⟨p,e1,e2⟩:=Zz1.mp hf
 cases e2
 refine wpAny_Call_ofName (hn.use r ?_)
 refine callWith_builtin1 (wpAny_items_cons (h W ρ H fr s _ E _ _ r e1 fun W1 k1 t1 z l1 r1 z1=>?_) he) he (hp pos)
 refine wpAny_items_cons (hy.use (s:={ s with heap:=k1,toks:=t1 }) r1 ?_)
 refine wpAny_items_nil ?_
 exact PM.isinst hT r1 z1 (fun i e=>by rw[e]at z1;exact r1.refIn z1) fun tk=>post W1 k1 tk _ l1 r1 (.bool _)
end
noncomputable def ZaS: List V→Hp→Option (V×Hp)
 | [.ref a],H=>H[a]?.map fun vs=>(.int vs.length,H)
 | [.tup vs],H=>some (.int vs.length,H)
 | _,_=>none
noncomputable def Zd5: List V→Hp→Option (V×Hp)
 | [.int a],H=>some (.int (if a<0 then -a else a),H)
 | _,_=>none
noncomputable def Zdo: List V→Option (List Int)
 | []=>some []
 | .int k::vs=>(Zdo vs).map fun ks=>k::ks
 | _::_=>none
noncomputable def ZgF: List V→Hp→Option (V×Hp)
 | [.ref a],H=>H[a]?.bind fun vs=>(Zdo vs).map fun ks=>(.int ks.sum,H)
 | _,_=>none
theorem VRs.one{W:Wd}{v:V}{xs:List Value}(h:VRs W [v] xs): ∃x,xs=[x]∧VR W v x:=by
 cases h with
 | cons a b=>cases b;exact⟨_,rfl,a⟩
theorem VRs.two{W:Wd}{v u:V}{xs:List Value}(h:VRs W [v,u] xs): ∃x y,xs=[x,y]∧VR W v x∧VR W u y:=by
 cases h with
 | cons a b=>obtain⟨y,e,r⟩:=b.one;subst e;exact⟨_,_,rfl,a,r⟩
theorem Zrb{W:Wd}: ∀{vs:List V} {xs:List Value} {ks:List Int},VRs W vs xs→Zdo vs=some ks→∃ts:Array (Int×Tok),xs.toArray=intItems ts∧preSum (numAt ts) ts.size=ks.sum:=by
 have key:∀{vs:List V} {xs:List Value} {ks:List Int},VRs W vs xs→Zdo vs=some ks→∃ts:List (Int×Tok),xs=ts.map (fun p=>Value.int p.1 p.2)∧ts.map (·.1)=ks:=by
  intro vs
  induction vs with
  | nil=>intro xs ks h e;cases h;cases e;exact⟨[],rfl,rfl⟩
  | cons v vs ih=>
   intro xs ks h e
   cases h with
   | cons a b=>
    cases v with
    | int i=>
     obtain⟨js,e1,e2⟩:=Zz1.mp e
     subst e2
     cases a with
     | int _ t=>
      obtain⟨ts,h1,h2⟩:=ih b e1
      exact⟨(i,t)::ts,by rw[h1];rfl,by rw[List.map_cons,h2]⟩
    | none=>cases e
    | bool _=>cases e
    | str _=>cases e
    | tup _=>cases e
    | ref _=>cases e
 intro vs xs ks h e
 obtain⟨ts,h1,h2⟩:=key h e
 refine⟨ts.toArray,by rw[h1];simp[intItems],?_⟩
 rw[preSum_eq,List.take_of_length_le (by simp),←h2]
noncomputable def Zab: V→V→Hp→Option (V×Hp)
 | .int a,.int b,H=>some (.int (a+b),H)
 | .ref a,.ref b,H=>H[a]?.bind fun vs=>H[b]?.bind fun us=>if(vs++us).length≤LEN then some (.ref H.length,H++[vs++us])else none
 | .tup vs,.tup us,H=>if(vs++us).length≤LEN then some (.tup (vs++us),H)else none
 | _,_,_=>none
noncomputable def Zev(vs:List V): Nat→List V
 | 0=>[]
 | n+1=>Zev vs n++vs
noncomputable def Za7: V→V→Hp→Option (V×Hp)
 | .int a,.int b,H=>if mulOk a b=true then some (.int (a*b),H)else none
 | .ref a,.int k,H=>H[a]?.bind fun vs=>if vs.length*k.toNat≤LEN∧-(2 ^ 63:Int)≤k∧k<2 ^ 63 then some (.ref H.length,H++[Zev vs k.toNat])else none
 | _,_,_=>none
section
variable {prog:Program} {w:World}
theorem Zbc: OpN prog w (fun xs=>call (.builtin "len") xs) ZaS:=by
 intro Γ W ρ H fr s Q E as xs v H' r hx ho post
 unfold ZaS at ho
 split at ho
 ·rename_i a
  obtain⟨vs,e1,e2⟩:=Zz1.mp ho
  cases e2
  obtain⟨x,ex,rx⟩:=hx.one
  subst ex
  cases rx with
  | ref ea=>
   obtain⟨hl,ys,k,hg,hv⟩:=r.at e1 ea
   have isl:s.heap.IsList _ ys.toArray:=⟨_,hg,rfl,k,rfl⟩
   have e3:(ys.toArray.size:Int)=vs.length:=by simp[hv.length]
   rw[Za5]at hl
   refine Calls.call_len_list isl (by rw[e3];omega) ?_
   rw[e3]
   exact post W s.heap _ _ (.refl W) r (.int _ _)
 ·rename_i vs
  cases ho
  obtain⟨x,ex,rx⟩:=hx.one
  subst ex
  cases rx with
  | @tup _ a ys k hm hl hs=>
   have it:IsTup s.heap a ys.toArray:=⟨_,r.tupAt hm,rfl,k,rfl⟩
   have e3:(ys.toArray.size:Int)=vs.length:=by simp[hs.length]
   rw[Za5]at hl
   refine len_tuple it (by rw[e3];omega) ?_
   rw[e3]
   exact post W s.heap _ _ (.refl W) r (.int _ _)
 ·cases ho
theorem Zgg: OpN prog w (fun xs=>call (.builtin "abs") xs) Zd5:=by
 intro Γ W ρ H fr s Q E as xs v H' r hx ho post
 unfold Zd5 at ho
 split at ho
 ·cases ho
  obtain⟨x,ex,rx⟩:=hx.one
  subst ex
  cases rx with
  | int i t=>exact call_abs_int fun u tk=>post W s.heap tk _ (.refl W) r (.int _ _)
 ·cases ho
theorem ZvC: OpN prog w (fun xs=>call (.builtin "sum") xs) ZgF:=by
 intro Γ W ρ H fr s Q E as xs v H' r hx ho post
 unfold ZgF at ho
 split at ho
 ·obtain⟨vs,e1,e2⟩:=Zz0.mp ho
  obtain⟨ks,e3,e4⟩:=Zz1.mp e2
  cases e4
  obtain⟨x,ex,rx⟩:=hx.one
  subst ex
  cases rx with
  | ref ea=>
   obtain⟨hl,ys,k,hg,hv⟩:=r.at e1 ea
   obtain⟨ts,h1,h2⟩:=Zrb hv e3
   have isl:s.heap.IsList _ (intItems ts):=⟨_,hg,rfl,k,by rw[←h1]⟩
   refine sum_intListG Γ.hh isl fun h' tk t' up=>?_
   rw[h2]
   exact post W h' tk _ (.refl W) (r.grown up) (.int _ _)
 ·cases ho
theorem Zak: Op2 prog w (binaryOp .Add) Zab:=by
 intro Γ W ρ H fr s Q E a b x y v H' r hx hy ho post
 unfold Zab at ho
 split at ho
 ·cases ho
  cases hx;cases hy
  exact PySem.P.add_int (post W s.heap _ _ (.refl W) r (.int _ _))
 ·obtain⟨vs,e1,ho⟩:=Zz0.mp ho
  obtain⟨us,e2,ho⟩:=Zz0.mp ho
  by_cases hl:(vs++us).length≤LEN
  ·rw[if_pos hl]at ho
   cases ho
   cases hx with
   | ref ea=>
   cases hy with
   | ref eb=>
   obtain⟨l1,ys,k,hg,hv⟩:=r.at e1 ea
   obtain⟨l2,zs,k2,hg2,hv2⟩:=r.at e2 eb
   obtain⟨m,c,led,r'⟩:=r
   have i1:s.heap.IsList _ ys.toArray:=⟨_,hg,rfl,k,rfl⟩
   have i2:s.heap.IsList _ zs.toArray:=⟨_,hg2,rfl,k2,rfl⟩
   refine add_lists (hsz:=ZcM (by rw[hv.length,hv2.length,←List.length_append];exact hl)) r'.F r'.N i1 i2 fun h' F' N'=>?_
   obtain⟨W2,le2,r2,v2⟩:=r'.newList F' N' r'.off (hv.append hv2) hl
   exact post W2 h' s.toks _ le2 r2 v2
  ·rw[if_neg hl]at ho
   cases ho
 ·rename_i vs us
  by_cases hl:(vs++us).length≤LEN
  ·rw[if_pos hl]at ho
   cases ho
   cases hx with
   | @tup _ a ys k hm h1 hv=>
   cases hy with
   | @tup _ b zs k2 hm2 h2 hv2=>
   have t1:IsTup s.heap a ys.toArray:=⟨_,r.tupAt hm,rfl,k,rfl⟩
   have t2:IsTup s.heap b zs.toArray:=⟨_,r.tupAt hm2,rfl,k2,rfl⟩
   have r0:=r
   obtain⟨m,c,led,r'⟩:=r
   refine add_tuples (hsz:=ZcM (by rw[hv.length,hv2.length,←List.length_append];exact hl)) r'.F r'.N t1 t2 (fun e=>?_) (fun _ e=>?_) fun _ _ h' F' N'=>?_
   ·have:vs=[]:=List.length_eq_zero_iff.mp (by rw[←hv.length,e];rfl)
    subst this
    exact post W s.heap s.toks _ (.refl W) r0 (.tup hm2 h2 hv2)
   ·have:us=[]:=List.length_eq_zero_iff.mp (by rw[←hv2.length,e];rfl)
    subst this
    rw[List.append_nil]at post
    exact post W s.heap s.toks _ (.refl W) r0 (.tup hm h1 hv)
   ·obtain⟨W2,le2,r2,v2⟩:=r'.newTup F' N' r'.off (hv.append hv2) hl
    exact post W2 h' s.toks _ le2 r2 v2
  ·rw[if_neg hl]at ho
   cases ho
 ·cases ho
theorem Zop(vs:List V): ∀n,(Zev vs n).length=vs.length*n
 | 0=>rfl
 | n+1=>by rw[Zev,List.length_append,Zop vs n,Nat.mul_succ]
theorem ZsH(xs:List Value)(n:Nat): ∀acc:Array Value,(List.foldl (fun x1 x2=>x1++x2) acc (List.replicate n xs.toArray))=acc++(List.replicate n xs).flatten.toArray:=by
 induction n with
 | zero=>intro acc;simp
 | succ n ih=>
  intro acc
  rw[List.replicate_succ,List.foldl_cons,ih,List.replicate_succ,List.flatten_cons]
  simp[Array.append_assoc]
theorem Zo4{W:Wd}{vs:List V}{xs:List Value}(h:VRs W vs xs): ∀n,VRs W (Zev vs n) (List.replicate n xs).flatten
 | 0=>.nil
 | n+1=>by
  rw[Zev,List.replicate_succ',List.flatten_append]
  simp only[List.flatten_cons,List.flatten_nil,List.append_nil]
  exact(Zo4 h n).append h
theorem Zbr: Op2 prog w (binaryOp .Mult) Za7:=by
 intro Γ W ρ H fr s Q E a b x y v H' r hx hy ho post
 unfold Za7 at ho
 split at ho
 ·rename_i i j
  by_cases hm:mulOk i j=true
  ·rw[if_pos hm]at ho
   cases ho
   cases hx;cases hy
   exact PySem.P.mul_int (post W s.heap _ _ (.refl W) r (.int _ _)) (Zts hm)
  ·rw[if_neg hm]at ho
   cases ho
 ·rename_i i k
  obtain⟨vs,e1,ho⟩:=Zz0.mp ho
  by_cases hc:vs.length*k.toNat≤LEN∧-(2 ^ 63:Int)≤k∧k<2 ^ 63
  ·rw[if_pos hc]at ho
   cases ho
   cases hx with
   | ref ea=>
   cases hy with
   | int _ u=>
   obtain⟨l1,ys,kk,hg,hv⟩:=r.at e1 ea
   obtain⟨m,c,led,r'⟩:=r
   have hl:=hc.1
   rw[Za5]at hl
   refine mul_list r'.F r'.N hg hc.2.1 hc.2.2 (by rw[List.size_toArray,hv.length];omega) fun h' F' N'=>?_
   have e2:(List.foldl (fun x1 x2=>x1++x2) #[] (List.replicate (if ys.toArray.isEmpty=true then 0 else k.toNat) ys.toArray))=(List.replicate k.toNat ys).flatten.toArray:=by
    cases ys with
    | nil=>
     simp
    | cons y0 ys0=>
     have:((y0::ys0).toArray.isEmpty=true)=False:=by simp
     simp only[this,if_false]
     rw[ZsH]
     simp
   rw[e2]at N'
   obtain⟨W2,le2,r2,v2⟩:=r'.newList F' N' r'.off (Zo4 hv k.toNat) (by rw[Zop];exact hc.1)
   exact post W2 h' s.toks _ le2 r2 v2
  ·rw[if_neg hc]at ho
   cases ho
 ·cases ho
end
end PM
end
section
set_option autoImplicit false
namespace PM
open PySem PyProof.Rows PyProof
noncomputable def upd(ρ:Lc)(i:Nat)(v:V): Lc:=fun j=>if j=i then some v else ρ j
noncomputable abbrev Sm:=Lc→Hp→Option (Option V×Lc×Hp)
noncomputable def Z8: Sm:=fun ρ H=>some (none,ρ,H)
noncomputable def Zv(a b:Sm): Sm:=fun ρ H=>(a ρ H).bind fun p=>match p.1 with
 | some _=>some p
 | none=>b p.2.1 p.2.2
noncomputable def ZH(f:Ex): Sm:=fun ρ H=>(f ρ H).map fun p=>(some p.1,ρ,p.2)
noncomputable def ZU(i:Nat)(f:Ex): Sm:=fun ρ H=>(f ρ H).map fun p=>(none,upd ρ i p.1,p.2)
noncomputable def Z1(t:Ts)(a b:Sm): Sm:=fun ρ H=>(t ρ H).bind fun p=>if p.1 then a ρ p.2 else b ρ p.2
noncomputable def Zcz(f:Ex): Sm:=fun ρ H=>(f ρ H).map fun p=>(none,ρ,p.2)
noncomputable def Zm0: V→V→V→Hp→Option Hp
 | .ref a,.int k,v,H=>H[a]?.bind fun vs=>if a≠0∧0≤k∧k<vs.length then some (H.set a (vs.set k.toNat v))else none
 | _,_,_,_=>none
noncomputable def ZcZ(f o i:Ex): Sm:=fun ρ H=>(f ρ H).bind fun p=>(o ρ p.2).bind fun q=>(i ρ q.2).bind fun u=>(Zm0 q.1 u.1 p.1 u.2).map fun K=>(none,ρ,K)
noncomputable def ZdD(t:Ts)(b:Sm): Nat→Sm
 | 0=>fun _ _=>none
 | n+1=>fun ρ H=>(t ρ H).bind fun p=>if p.1 then(b ρ p.2).bind fun q=>(match q.1 with
   | some _=>some q
   | none=>ZdD t b n q.2.1 q.2.2)else some (none,ρ,p.2)
noncomputable def PostS(Γ:Cx)(W:Wd)(fr:List (Addr×Obj))(s:Shared)(Q:Flow→Shared→Prop): Option V×Lc×Hp→Prop
 | (none,ρ',H')=>∀(W':Wd) (h':Heap) (tk':Nat),W.Le W'→Rep Γ W' ρ' H' fr h'→Q .next { s with heap:=h',toks:=tk' }
 | (some v,ρ',H')=>∀(W':Wd) (h':Heap) (tk':Nat) (x:Value),W.Le W'→Rep Γ W' ρ' H' fr h'→VR W' v x→Q (.ret x) { s with heap:=h',toks:=tk' }
theorem PostS.le{Γ:Cx}{W W':Wd}{fr:List (Addr×Obj)}{s:Shared}{h:Heap}{tk:Nat}{Q:Flow→Shared→Prop}{r:Option V×Lc×Hp}(l:W.Le W')(p:PostS Γ W fr s Q r): PostS Γ W' fr { s with heap:=h,toks:=tk } Q r:=by
 obtain⟨o,ρ',H'⟩:=r
 cases o with
 | none=>exact fun W2 h2 t2 l2 r2=>p W2 h2 t2 (l.trans l2) r2
 | some v=>exact fun W2 h2 t2 x l2 r2 x2=>p W2 h2 t2 x (l.trans l2) r2 x2
section
variable (prog:Program) (w:World)
noncomputable def S1(Γ:Cx)(st:Stmt)(g:Sm): Prop:=∀(W:Wd) (ρ:Lc) (H:Hp) (fr:List (Addr×Obj)) (s:Shared) (Q:Flow→Shared→Prop) (E:Value→Shared→Prop) (r:Option V×Lc×Hp),
 Rep Γ W ρ H fr s.heap→g ρ H=some r→PostS Γ W fr s Q r→wpAny (model prog w) Γ.A (exec st Γ.env) Q E s
noncomputable def Ss(Γ:Cx)(ss:List Stmt)(g:Sm): Prop:=∀(W:Wd) (ρ:Lc) (H:Hp) (fr:List (Addr×Obj)) (s:Shared) (Q:Flow→Shared→Prop) (E:Value→Shared→Prop) (r:Option V×Lc×Hp),
 Rep Γ W ρ H fr s.heap→g ρ H=some r→PostS Γ W fr s Q r→wpAny (model prog w) Γ.A (execs ss Γ.env) Q E s
noncomputable def Sto(Γ:Cx)(x:Str)(i:Nat): Prop:=∀(W:Wd) (ρ:Lc) (H:Hp) (fr:List (Addr×Obj)) (s:Shared) (Q:Unit→Shared→Prop) (E:Value→Shared→Prop) (v:V) (y:Value),
 Rep Γ W ρ H fr s.heap→VR W v y→(∀(h':Heap) (tk':Nat),Rep Γ W (upd ρ i v) H fr h'→Q () { s with heap:=h',toks:=tk' })→wpAny (model prog w) Γ.A (storeName Γ.env x y) Q E s
noncomputable def Rd(Γ:Cx)(x:Str)(i:Nat): Prop:=∀(W:Wd) (ρ:Lc) (H:Hp) (fr:List (Addr×Obj)) (s:Shared) (Q E:Value→Shared→Prop) (v:V) (pos:Pos),
 Rep Γ W ρ H fr s.heap→ρ i=some v→(∀y,VR W v y→Q y s)→wpAny (model prog w) Γ.A (eval (.Name x pos) Γ.env) Q E s
end
section
variable {prog:Program} {w:World} {Γ:Cx}
theorem Zil{x:Str}{i:Nat}{pos:Pos}(h:Rd prog w Γ x i): J prog w Γ (.Name x pos) (Zb i):=by
 intro W ρ H fr s Q E v H' r hf post
 obtain⟨u,e1,e2⟩:=Zz1.mp hf
 cases e2
 exact h W ρ H fr s Q E v pos r e1 fun y hy=>post W s.heap s.toks y (.refl W) r hy
theorem Zad: Ss prog w Γ [] Z8:=fun W ρ H fr s Q E r rp hf post=>by
 cases hf
 exact wpAny_execs_nil (post W s.heap s.toks (.refl W) rp)
theorem ZC{st:Stmt}{ss:List Stmt}{a b:Sm}(h1:S1 prog w Γ st a)(h2:Ss prog w Γ ss b): Ss prog w Γ (st::ss) (Zv a b):=by
 intro W ρ H fr s Q E r rp hf post
 obtain⟨p,e1,hf⟩:=Zz0.mp hf
 refine wpAny_execs_cons (h1 W ρ H fr s _ E p rp e1 ?_)
 obtain⟨o,ρ1,H1⟩:=p
 cases o with
 | some v=>
  cases hf
  exact fun W1 k1 t1 x l1 r1 x1=>post W1 k1 t1 x l1 r1 x1
 | none=>exact fun W1 k1 t1 l1 r1=>h2 W1 ρ1 H1 fr _ Q E r r1 hf (post.le l1)
theorem ZB{st:Stmt}{a:Sm}(h1:S1 prog w Γ st a): Ss prog w Γ [st] a:=by
 intro W ρ H fr s Q E r rp hf post
 refine wpAny_execs_cons (h1 W ρ H fr s _ E r rp hf ?_)
 obtain⟨o,ρ1,H1⟩:=r
 cases o with
 | some v=>exact fun W1 k1 t1 x l1 r1 x1=>post W1 k1 t1 x l1 r1 x1
 | none=>exact fun W1 k1 t1 l1 r1=>wpAny_execs_nil (post W1 k1 t1 l1 r1)
theorem ZL{e:Expr}{pos:Pos}{f:Ex}(h:J prog w Γ e f): S1 prog w Γ (.Return (some e) pos) (ZH f):=by
 intro W ρ H fr s Q E r rp hf post
 obtain⟨p,e1,e2⟩:=Zz1.mp hf
 cases e2
 exact wpAny_Return_some (h W ρ H fr s _ E _ _ rp e1 post)
theorem Zae{t:Expr}{a b:List Stmt}{pos:Pos}{u:Ts}{f g:Sm}(ht:JT prog w Γ t u)(h1:Ss prog w Γ a f)(h2:Ss prog w Γ b g): S1 prog w Γ (.If t a b pos) (Z1 u f g):=by
 intro W ρ H fr s Q E r rp hf post
 obtain⟨p,e1,hf⟩:=Zz0.mp hf
 refine wpAny_If (ht W ρ H fr s _ E _ _ rp e1 fun W1 k1 t1 l1 r1=>?_)
 obtain⟨c,H1⟩:=p
 cases c with
 | true=>exact h1 W1 ρ H1 fr _ Q E r r1 hf (post.le l1)
 | false=>exact h2 W1 ρ H1 fr _ Q E r r1 hf (post.le l1)
theorem Zgh{e:Expr}{pos:Pos}{f:Ex}(h:J prog w Γ e f)(hi:interactive Γ.env=false:=by rfl)(hs:swapsWith e none pos.line Γ.env=pure false:=by rfl): S1 prog w Γ (.Expr e pos) (Zcz f):=by
 intro W ρ H fr s Q E r rp hf post
 obtain⟨p,e1,e2⟩:=Zz1.mp hf
 cases e2
 exact wpAny_Expr_any (h W ρ H fr s _ E _ _ rp e1 fun W1 k1 t1 x l1 r1 x1=>post W1 k1 t1 l1 r1) hi hs
theorem Z7{x:Str}{i:Nat}{e:Expr}{pos' pos:Pos}{f:Ex}(hx:Sto prog w Γ x i)(h:J prog w Γ e f)(hs:swapsWith e (some (.Name x pos')) pos.line Γ.env=pure false:=by rfl): S1 prog w Γ (.Assign [.Name x pos'] e pos) (ZU i f):=by
 intro W ρ H fr s Q E r rp hf post
 obtain⟨p,e1,e2⟩:=Zz1.mp hf
 cases e2
 refine wpAny_Assign_Name (h W ρ H fr s _ E _ _ rp e1 fun W1 k1 t1 y l1 r1 y1=>?_) hs
 exact hx W1 ρ _ fr _ _ E _ y r1 y1 fun h' tk' r2=>post W1 h' tk' l1 r2
theorem Zoq{t:Expr}{a:List Stmt}{pos:Pos}{u:Ts}{f:Sm}(n:Nat)(ht:JT prog w Γ t u)(h1:Ss prog w Γ a f): S1 prog w Γ (.While t a [] pos) (ZdD u f n):=by
 intro W ρ H fr s Q E r rp hf post
 refine wpAny_While ?_
 refine codeAny_whileLoop (fun k s'=>∃W' ρ' H' h' tk',s' = { s with heap:=h',toks:=tk' }∧W.Le W'∧Rep Γ W' ρ' H' fr h'∧ZdD u f k ρ' H'=some r) ?_ n ⟨W,ρ,H,s.heap,s.toks,rfl,.refl W,rp,hf⟩
 rintro k s' ⟨W1,ρ1,H1,k1,t1,rfl,l1,r1,e⟩
 cases k with
 | zero=>cases e
 | succ k=>
  obtain⟨p,e1,e⟩:=Zz0.mp e
  refine ht W1 ρ1 H1 fr _ _ _ _ _ r1 e1 fun W2 k2 t2 l2 r2=>?_
  obtain⟨c,H2⟩:=p
  cases c with
  | false=>
   cases e
   exact wpAny_execs_nil (post W2 k2 t2 (l1.trans l2) r2)
  | true=>
   obtain⟨q,e2,e⟩:=Zz0.mp e
   refine h1 W2 ρ1 H2 fr _ _ _ q r2 e2 ?_
   obtain⟨o,ρ3,H3⟩:=q
   cases o with
   | some v=>
    cases e
    exact fun W3 k3 t3 x l3 r3 x3=>post W3 k3 t3 x ((l1.trans l2).trans l3) r3 x3
   | none=>exact fun W3 k3 t3 l3 r3=>⟨k,Nat.lt_succ_self k,W3,ρ3,H3,k3,t3,rfl,(l1.trans l2).trans l3,r3,e⟩
end
noncomputable def Zf5: List V→Hp→Option (V×Hp)
 | [.ref a,v],H=>H[a]?.bind fun vs=>if a≠0∧vs.length<LEN then some (.none,H.set a (vs++[v]))else none
 | _,_=>none
section
variable {prog:Program} {w:World} {Γ:Cx}
theorem ZsI: OpN prog w (fun xs=>call (.builtin "list.append") xs) Zf5:=by
 intro Γ W ρ H fr s Q E as xs v H' r hx ho post
 unfold Zf5 at ho
 split at ho
 ·obtain⟨vs,e1,e2⟩:=Zz0.mp ho
  obtain⟨x,y,ex,rx,ry⟩:=hx.two
  subst ex
  split at e2
  ·rename_i hl
   cases e2
   cases rx with
   | @ref _ a0 ea=>
    obtain⟨_,ys,k,hg,hv⟩:=r.at e1 ea
    refine append_at (hsz:=ZcM (by rw[List.size_toArray,hv.length];omega)) hg fun h' sb hg'=>?_
    have hg2:h'.get? a0=some (ZbO (ys++[y]) (k+1)):=by rw[hg'];simp
    exact post W h' s.toks _ (.refl W) (r.change hl.1 e1 ea sb hg2 (hv.snoc ry) (by simp;omega)) .none
  ·cases e2
 ·cases ho
end
end PM
end
section
set_option autoImplicit false
namespace PM
open PySem PySem.W PyProof.Rows PyProof
theorem Zo5: ∀{l:List Value} {k:Nat} {v:Value},k<l.length→ki_setL l k v=some (l.set k v)
 | [],_,_,h=>by simp at h
 | x::r,0,v,_=>by simp[ki_setL]
 | x::r,k+1,v,h=>by
  have:=Zo5 (l:=r) (k:=k) (v:=v) (by simpa using h)
  simp[ki_setL,this]
theorem ZsJ{a k v:V}{H K:Hp}(h:Zm0 a k v H=some K): ∃i j vs,a=.ref i∧k=.int j∧H[i]?=some vs∧(i≠0∧0≤j∧j<vs.length)∧K=H.set i (vs.set j.toNat v):=by
 cases a <;> first | (cases h;done) | skip
 cases k <;> first | (cases h;done) | skip
 obtain⟨vs,e1,e2⟩:=Zz0.mp h
 split at e2
 ·rename_i c
  cases e2
  exact⟨_,_,vs,rfl,rfl,e1,c,rfl⟩
 ·cases e2
theorem Zrc{a v x:V}{H K:Hp}(h:Zf5 [a,v] H=some (x,K)): ∃i,a=.ref i:=by
 cases a <;> first | (cases h;done) | skip
 exact⟨_,rfl⟩
noncomputable def Zeg(o f:Ex): Ex:=fun ρ H=>(o ρ H).bind fun p=>(f ρ p.2).bind fun q=>Zf5 [p.1,q.1] q.2
section
variable {prog:Program} {w:World} {Γ:Cx}
theorem S1.put{o i value:Expr}{pos' pos:Pos}{f g k:Ex}(hf:J prog w Γ value f)(ho:J prog w Γ o g)(hi:J prog w Γ i k)(hs:swapsWith value (some (.Subscript o i pos')) pos.line Γ.env=pure false:=by rfl): S1 prog w Γ (.Assign [.Subscript o i pos'] value pos) (ZcZ f g k):=by
 intro W ρ H fr s Q E r rp hx post
 obtain⟨p,e1,hx⟩:=Zz0.mp hx
 obtain⟨q,e2,hx⟩:=Zz0.mp hx
 obtain⟨u,e3,hx⟩:=Zz0.mp hx
 obtain⟨K,e4,e5⟩:=Zz1.mp hx
 cases e5
 refine wpAny_Assign_Subscript (hf W ρ H fr s _ E _ _ rp e1 fun W1 k1 t1 x l1 r1 x1=>?_) hs
 refine ho W1 ρ _ fr _ _ E _ _ r1 e2 fun W2 k2 t2 y l2 r2 y2=>?_
 refine hi W2 ρ _ fr _ _ E _ _ r2 e3 fun W3 k3 t3 z l3 r3 z3=>?_
 have x3:=x1.mono (l2.trans l3)
 have y3:=y2.mono l3
 obtain⟨b,kk,vs,eb,ek,hvs,hc,e6⟩:=ZsJ e4
 subst e6
 rw[eb]at y3
 rw[ek]at z3
 cases y3 with
 | @ref _ a ea=>
 cases z3 with
 | int _ tz=>
 obtain⟨hl,xs,n,hg,hv⟩:=r3.at hvs ea
 obtain⟨m,c,led,r'⟩:=r3
 have hll:=hl
 rw[Za5]at hll
 have hk:kk.toNat<xs.length:=by rw[hv.length];omega
 obtain⟨_,a',xs',n',h1,h2,h3⟩:=r'.R.lists b vs hvs
 rw[ea]at h1
 cases h1
 have h2:=r'.inLed hc.1 ea h2
 have N2:News Γ.h₀ Γ.L k3 ((a,ZbO xs n)::led.filter (fun q=>decide (q.1≠a))):=by
  intro q hq
  rcases Zz7.mp hq with e | hq
  ·subst e
   exact⟨hg,(r'.N _ h2).2⟩
  ·exact r'.N q (List.mem_filter.mp hq).1
 refine ki_set (its:=xs.toArray) (n:=n) (q:=xs.set kk.toNat x) r'.F N2 hc.2.1 (by omega) (by simpa using Zo5 hk) (Upd.head fun q hq=>by simpa using (List.mem_filter.mp hq).2) fun h' F' N'=>?_
 exact post W3 h' t3 ((l1.trans l2).trans l3) (r'.changed hc.1 hvs ea F' N' (hv.set _ x3) (by simpa using hl))
theorem J.append{o e:Expr}{apos pos:Pos}{f g:Ex}(ho:J prog w Γ o f)(he:J prog w Γ e g)(hbase:attributeBase o "append" Γ.env (eval o Γ.env)=eval o Γ.env:=by rfl)
  (hfew:((backTo pos (starEach [e] Γ.env)).all (fun x=>!x.1) && (backToKw pos (keywordEach [] Γ.env)).all (fun x=>x.1.isSome) && decide (([e]:List Expr).length+([]:List Keyword).length+(if([]:List Keyword).isEmpty then 0 else 1)<30))=true:=by rfl)
  (hline:(apos.endLine == pos.line)=true:=by rfl) (htrees:backTo pos (starEach [e] Γ.env)=[(false,eval e Γ.env)]:=by rfl):J prog w Γ (.Call (.Attribute o "append" apos) [e] [] pos) (Zeg f g):=by
 intro W ρ H fr s Q E v H' r hx post
 obtain⟨p,e1,hx⟩:=Zz0.mp hx
 obtain⟨q,e2,e3⟩:=Zz0.mp hx
 refine wpAny_Call_append hbase hfew hline htrees (ho W ρ H fr s _ E _ _ r e1 fun W1 k1 t1 x l1 r1 x1=>?_)
 obtain⟨v1,H1⟩:=p
 obtain⟨b,hb⟩:=Zrc e3
 subst hb
 have hb:=r1.refIn x1
 cases x1 with
 | @ref _ a ea=>
 obtain⟨_,xs,n,hg,hv⟩:=r1.at (List.getElem?_eq_getElem hb) ea
 refine⟨a,xs.toArray,rfl,⟨_,n,hg,rfl,rfl,rfl⟩,?_⟩
 refine he W1 ρ _ fr _ _ E _ _ r1 e2 fun W2 k2 t2 y l2 r2 y2=>?_
 exact ZsI Γ W2 ρ _ fr _ Q E _ [.ref a,y] v H' r2 (.cons (.ref (l2.at ea)) (.cons y2 .nil)) e3 fun W3 k3 t3 z l3 r3 z3=>post W3 k3 t3 z ((l1.trans l2).trans l3) r3 z3
end
end PM
end
section
set_option autoImplicit false
namespace PM
open PySem PySem.W PyProof.Rows PyProof
noncomputable abbrev Nx:=Nat→Hp→Option (Option V)
noncomputable def Zwz(Γ:Cx)(W:Wd)(ρ:Lc)(H:Hp)(fr:List (Addr×Obj))(s:Shared)(It:Nat→List (Addr×Obj)→Prop)(i:Nat)(Q:Option Value→Shared→Prop): Option V→Prop
 | none=>∀(h':Heap) (tk':Nat),Rep Γ W ρ H fr h'→Q none { s with heap:=h',toks:=tk' }
 | some v=>∀(fs':List (Addr×Obj)) (h':Heap) (tk':Nat) (x:Value),It (i+1) fs'→Rep Γ W ρ H (fs'++fr) h'→VR W v x→Q (some x) { s with heap:=h',toks:=tk' }
structure Itr(prog:Program)(w:World)(Γ:Cx)(W0:Wd)(it:Value)(as:List Addr)(It:Nat→List (Addr×Obj)→Prop)(nx:Nx): Prop where
 adr:∀i fs,It i fs→fs.map (·.1)=as
 next:∀(i:Nat) (W:Wd) (ρ:Lc) (H:Hp) (fr fs:List (Addr×Obj)) (s:Shared) (Q:Option Value→Shared→Prop) (E:Value→Shared→Prop) (o:Option V),W0.Le W→Rep Γ W ρ H (fs++fr) s.heap→(∀a∈as,∀t∈fr,a≠t.1)→It i fs→nx i H=some o →
  Zwz Γ W ρ H fr s It i Q o→wpAny (model prog w) Γ.A (pyNext it) Q E s
 self:∀(i:Nat) (W:Wd) (ρ:Lc) (H:Hp) (fr fs:List (Addr×Obj)) (s:Shared) (Q E:Value→Shared→Prop),W0.Le W→Rep Γ W ρ H (fs++fr) s.heap→It i fs→Q it s→wpAny (model prog w) Γ.A (pyIter it) Q E s
noncomputable abbrev Src:=Lc→Hp→Option (Nx×Nat×Hp)
noncomputable def JI(prog:Program)(w:World)(Γ:Cx)(e:Expr)(g:Src): Prop:=∀(W:Wd) (ρ:Lc) (H:Hp) (fr:List (Addr×Obj)) (s:Shared) (Q E:Value→Shared→Prop) (nx:Nx) (n:Nat) (H':Hp),
 Rep Γ W ρ H fr s.heap→g ρ H=some (nx,n,H') →
 (∀(W':Wd) (h':Heap) (tk':Nat) (it:Value) (as:List Addr) (It:Nat→List (Addr×Obj)→Prop) (fs:List (Addr×Obj)),W.Le W'→It 0 fs→Rep Γ W' ρ H' (fs++fr) h'→(∀a∈as,∀t∈fr,a≠t.1)→Itr prog w Γ W' it as It nx→Q it { s with heap:=h',toks:=tk' }) →
 wpAny (model prog w) Γ.A (eval e Γ.env) (fun xv s₁=>wpAny (model prog w) Γ.A (pyIter xv) Q E s₁) E s
noncomputable def Zmr(a:Nat): Nx:=fun i H=>H[a]?.map fun vs=>vs[i]?
noncomputable def ZpJ(vs:List V): Nx:=fun i _=>some vs[i]?
noncomputable def Zeh(a c:Int)(n:Nat): Nx:=fun i _=>some (if i<n then some (.int (a+i*c))else none)
noncomputable def ZbQ(f:Ex): Src:=fun ρ H=>(f ρ H).bind fun p=>match p.1 with
 | .ref a=>p.2[a]?.map fun vs=>(Zmr a,vs.length+1,p.2)
 | .tup vs=>some (ZpJ vs,vs.length+1,p.2)
 | _=>none
noncomputable def rngN(a b c:Int): Nat:=(Builtin.Range.rangeSize a b c).toNat
noncomputable def Zcm(a b c:Int)(H:Hp): Option (Nx×Nat×Hp):=if c≠0∧Builtin.Range.small a b c=true∧0≤Builtin.Range.rangeSize a b c∧rngN a b c≤LEN∧Builtin.divisionGoesByPylong (b-a) c=false then some (Zeh a c (rngN a b c),rngN a b c+1,H)else none
noncomputable def ZaT(g:Exs): Src:=fun ρ H=>(g ρ H).bind fun p=>match p.1 with
 | [.int b]=>Zcm 0 b 1 p.2
 | [.int a,.int b]=>Zcm a b 1 p.2
 | [.int a,.int b,.int c]=>Zcm a b c p.2
 | _=>none
section
variable {prog:Program} {w:World} {Γ:Cx}
theorem Zms{W0:Wd}{I:Addr}{nx:Nx}(P:Nat→Obj→Prop)
  (next:∀(i:Nat) (W:Wd) (ρ:Lc) (H:Hp) (fr:List (Addr×Obj)) (ob:Obj) (s:Shared) (Q:Option Value→Shared→Prop) (E:Value→Shared→Prop) (o:Option V),W0.Le W→Rep Γ W ρ H ((I,ob)::fr) s.heap→P i ob→nx i H=some o →
   (match o with
    | none=>∀(h':Heap) (tk':Nat),(∀b o,b≠I→s.heap.get? b=some o→h'.get? b=some o)→Q none { s with heap:=h',toks:=tk' }
    | some v=>∀(ob':Obj) (h':Heap) (tk':Nat) (x:Value),P (i+1) ob'→h'.get? I=some ob'→(∀b o,b≠I→s.heap.get? b=some o→h'.get? b=some o)→VR W v x→Q (some x) { s with heap:=h',toks:=tk' })→wpAny (model prog w) Γ.A (pyNext (.ref I)) Q E s)
  (self:∀(i:Nat) (W:Wd) (ρ:Lc) (H:Hp) (fr:List (Addr×Obj)) (ob:Obj) (s:Shared) (Q E:Value→Shared→Prop),W0.Le W→Rep Γ W ρ H ((I,ob)::fr) s.heap→P i ob→Q (.ref I) s→wpAny (model prog w) Γ.A (pyIter (.ref I)) Q E s):
  Itr prog w Γ W0 (.ref I) [I] (fun i fs=>∃ob,fs=[(I,ob)]∧P i ob) nx:=by
 refine⟨?_,?_,?_⟩
 ·rintro i fs ⟨ob,e,_⟩
  rw[e]
  rfl
 ·rintro i W ρ H fr fs s Q E o le r ap ⟨ob,e,hp⟩ hn post
  subst e
  refine next i W ρ H fr ob s Q E o le r hp hn ?_
  have ap':∀q∈[(I,ob)],∀t∈fr,q.1≠t.1:=fun q hq t ht=>by rw[List.mem_singleton.mp hq];exact ap I Zz5 t ht
  cases o with
  | none=>
   intro h' tk' keep
   have:=Rep.swap (fs:=[(I,ob)]) (fs':=[]) r ap' (fun b o hb e=>keep b o (fun q=>hb (by simp[q])) e) (fun q hq=>nomatch hq)
   exact post h' tk' this
  | some v=>
   intro ob' h' tk' x hp' hg keep hx
   have:=Rep.swap (fs:=[(I,ob)]) (fs':=[(I,ob')]) r ap' (fun b o hb e=>keep b o (fun q=>hb (by simp[q])) e) (fun q hq=>by rw[List.mem_singleton.mp hq];exact⟨hg,by simp⟩)
   exact post [(I,ob')] h' tk' x ⟨ob',rfl,hp'⟩ this hx
 ·rintro i W ρ H fr fs s Q E le r ⟨ob,e,hp⟩ q
  subst e
  exact self i W ρ H fr ob s Q E le r hp q
theorem JI.seq{e:Expr}{f:Ex}(h:J prog w Γ e f): JI prog w Γ e (ZbQ f):=by
 intro W ρ H fr s Q E nx n H' r hf post
 obtain⟨p,e1,hf⟩:=Zz0.mp hf
 refine h W ρ H fr s _ E _ _ r e1 fun W1 k1 t1 x l1 r1 x1=>?_
 obtain⟨v,H1⟩:=p
 cases x1 with
 | none=>cases hf
 | bool _=>cases hf
 | int _ _=>cases hf
 | str _ _=>cases hf
 | @tup vs a xs k hm hl hs=>
  cases hf
  have it:k1.IsTuple a xs.toArray:=⟨_,r1.tupAt hm,rfl,k,rfl⟩
  refine wpAny_pyIter_tuple it ?_
  obtain⟨r2,ap⟩:=r1.more (fs:=[(k1.objs.size,{ cls:=.type "tuple_iterator",data:=.fields #[.ref a,.int 0 0] })]) (fun b o e=>Heap.get?_push_of_some { cls:=.type "tuple_iterator",data:=.fields #[.ref a,.int 0 0] } e) (fun q hq=>by rw[List.mem_singleton.mp hq];exact⟨Heap.get?_push_size _ rfl,Nat.le_refl _⟩)
  refine post W1 _ t1 _ [k1.objs.size] _ _ l1 ⟨_,rfl,?_⟩ r2 (fun b hb t ht=>by rw[List.mem_singleton.mp hb];exact ap _ Zz5 t ht)
   (Zms (fun i ob=>ob.cls=.type "tuple_iterator"∧ob.data=.fields #[.ref a,.int i 0]) ?_ ?_)
  ·intro i W ρ H fr ob s Q E o le r hp hn post
   have g1:s.heap.IsTupleIter k1.objs.size a i:=⟨ob,r.frAt Zz5,hp.1,hp.2⟩
   have g2:s.heap.IsTuple a xs.toArray:=⟨_,r.tupAt (le.tups _ hm),rfl,k,rfl⟩
   have ne:a≠k1.objs.size:=Nat.ne_of_lt (Heap.lt_size (r1.tupAt hm))
   have Wk:=Walks.tuple (prog:=prog) (w:=w) Γ.hh k1.objs.size a ne xs.toArray
   cases hn
   cases ev:vs[i]? with
   | none=>
    rw[ev]at post
    have hi:xs.toArray[i]?=none:=by have:=List.getElem?_eq_none_iff.mp ev;rw[←hs.length]at this;simpa using this
    exact wpAny_pyNext_tuple_end Γ.hh g1 g2 hi fun h' he'=>post h' s.toks fun b o hb e=>he' b o hb e
   | some v=>
    rw[ev]at post
    obtain⟨y,hy,ry⟩:=hs.at ev
    refine wpAny_pyNext_tuple_item g1 g2 (x:=y) (by simpa using hy) fun h' hit' hs'=>?_
    obtain⟨ob',h1,h2,h3⟩:=hit'
    exact post ob' h' s.toks y ⟨h2,h3⟩ h1 (fun b o hb e=>hs'.extBut b o hb e) (ry.mono le)
  ·intro i W ρ H fr ob s Q E le r hp q
   exact wpAny_pyIter_tupleiter (⟨ob,r.frAt Zz5,hp.1,hp.2⟩:s.heap.IsTupleIter k1.objs.size a i) q
  ·exact⟨rfl,rfl⟩
 | @ref i0 a ea=>
  obtain⟨vs,e2,e3⟩:=Zz1.mp hf
  cases e3
  obtain⟨hl,xs,k,hg,hv⟩:=r1.at e2 ea
  have isl:k1.IsList a xs.toArray:=⟨_,hg,rfl,k,rfl⟩
  refine wpAny_pyIter_list isl ?_
  obtain⟨r2,ap⟩:=r1.more (fs:=[(k1.objs.size,{ cls:=.type "list_iterator",data:=.fields #[.ref a,.int 0 0] })]) (fun b o e=>Heap.get?_push_of_some { cls:=.type "list_iterator",data:=.fields #[.ref a,.int 0 0] } e) (fun q hq=>by rw[List.mem_singleton.mp hq];exact⟨Heap.get?_push_size _ rfl,Nat.le_refl _⟩)
  refine post W1 _ t1 _ [k1.objs.size] _ _ l1 ⟨_,rfl,?_⟩ r2 (fun b hb t ht=>by rw[List.mem_singleton.mp hb];exact ap _ Zz5 t ht)
   (Zms (fun i ob=>ob.cls=.type "list_iterator"∧ob.data=.fields #[.ref a,.int i 0]) ?_ ?_)
  ·intro i W ρ H fr ob s Q E o le r hp hn post
   obtain⟨us,eu,e4⟩:=Zz1.mp hn
   subst e4
   obtain⟨hl2,ys,k2,hg2,hv2⟩:=r.at eu (le.at ea)
   have g1:s.heap.IsListIter k1.objs.size a i:=⟨ob,r.frAt Zz5,hp.1,hp.2⟩
   have g2:s.heap.IsList a ys.toArray:=⟨_,hg2,rfl,k2,rfl⟩
   cases ev:us[i]? with
   | none=>
    rw[ev]at post
    have hi:ys.toArray[i]?=none:=by have:=List.getElem?_eq_none_iff.mp ev;rw[←hv2.length]at this;simpa using this
    exact wpAny_pyNext_list_end Γ.hh g1 g2 hi fun h' he'=>post h' s.toks fun b o hb e=>he' b o hb e
   | some v=>
    rw[ev]at post
    obtain⟨y,hy,ry⟩:=hv2.at ev
    refine wpAny_pyNext_list_item g1 g2 (x:=y) (by simpa using hy) fun h' hit' hs'=>?_
    obtain⟨ob',h1,h2,h3⟩:=hit'
    exact post ob' h' s.toks y ⟨h2,h3⟩ h1 (fun b o hb e=>hs'.extBut b o hb e) ry
  ·intro i W ρ H fr ob s Q E le r hp q
   exact wpAny_pyIter_listiter (⟨ob,r.frAt Zz5,hp.1,hp.2⟩:s.heap.IsListIter k1.objs.size a i) q
  ·exact⟨rfl,rfl⟩
theorem Zrd{a b c:Int}{H:Hp}{z:Nx×Nat×Hp}(h:Zcm a b c H=some z): c≠0∧Builtin.divisionGoesByPylong (b-a) c=false:=by
 unfold Zcm at h
 split at h
 ·rename_i hc
  exact⟨hc.1,hc.2.2.2.2⟩
 ·cases h
theorem Ztu{W0:Wd}{I:Addr}{a c:Int}{n:Nat}: Itr prog w Γ W0 (.ref I) [I] (fun i fs=>∃ob,fs=[(I,ob)]∧(i≤n∧ob = { cls:=.type "range_iterator",dict:=none,data:=.fields #[rawInt (a+(i:Nat)*c),rawInt ((n:Int)-(i:Nat)),rawInt c],slots:=#[] })) (Zeh a c n):=by
 have Wk:=Walks.range (prog:=prog) (w:=w) Γ.hh I a c n
 refine Zms (fun i ob=>i≤n∧ob = { cls:=.type "range_iterator",dict:=none,data:=.fields #[rawInt (a+(i:Nat)*c),rawInt ((n:Int)-(i:Nat)),rawInt c],slots:=#[] }) ?_ ?_
 ·intro i W ρ H fr ob s Q E o le r hp hn post
  have g:IsRangeIter s.heap I (a+(i:Nat)*c) ((n:Int)-(i:Nat)) c:=(r.frAt Zz5).trans (congrArg some hp.2)
  cases hn
  by_cases hi:i<n
  ·rw[if_pos hi]at post
   refine Wk.item i s Q E hi g fun v h' tk hv st keep=>?_
   obtain⟨t,e⟩:=hv
   subst e
   exact post _ h' tk _ ⟨hi,rfl⟩ st (fun b o hb e=>keep b o (by simpa using hb) e) (.int _ _)
  ·rw[if_neg hi]at post
   have e:i=n:=by have:=hp.1;omega
   subst e
   exact Wk.done s Q E g fun h' tk keep=>post h' tk fun b o hb e=>keep b o (by simpa using hb) e
 ·intro i W ρ H fr ob s Q E le r hp q
  have g:IsRangeIter s.heap I (a+(i:Nat)*c) ((n:Int)-(i:Nat)) c:=(r.frAt Zz5).trans (congrArg some hp.2)
  exact Wk.self i s Q E g q
theorem Zkn{a b c:Int}{t u v:Tok}{W:Wd}{ρ:Lc}{H:Hp}{fr:List (Addr×Obj)}{s:Shared}{k:Heap}{tk:Nat}{Q E:Value→Shared→Prop}{nx:Nx}{n:Nat}{H':Hp}(r:Rep Γ W ρ H fr k)(hm:Zcm a b c H=some (nx,n,H'))
  (post:∀(W':Wd) (h':Heap) (tk':Nat) (it:Value) (as:List Addr) (It:Nat→List (Addr×Obj)→Prop) (fs:List (Addr×Obj)),W.Le W'→It 0 fs→Rep Γ W' ρ H' (fs++fr) h'→(∀a∈as,∀t∈fr,a≠t.1)→Itr prog w Γ W' it as It nx→Q it { s with heap:=h',toks:=tk' }):
  wpAny (model prog w) Γ.A (pyIter (.ref k.objs.size)) Q E { s with heap:=k.push { cls:=.type "range",data:=.fields #[.int a t,.int b u,.int c v] },toks:=tk }:=by
 unfold Zcm at hm
 split at hm
 ·rename_i hc
  cases hm
  have hr:IsRange (k.push { cls:=.type "range",data:=.fields #[.int a t,.int b u,.int c v] }) k.objs.size a b c t u v:=IsRange.new ..
  refine wpAny_pyIter_range hr hc.2.1 ?_
  have rp:=r.push { cls:=.type "range",data:=.fields #[.int a t,.int b u,.int c v] }
  have en:Builtin.Range.rangeSize a b c=((rngN a b c:Nat):Int):=(Int.toNat_of_nonneg hc.2.2.1).symm
  dsimp only
  generalize hk:k.push { cls:=.type "range",data:=.fields #[.int a t,.int b u,.int c v] } = k2 at rp ⊢
  obtain⟨r2,ap⟩:=rp.more (fs:=[(k2.objs.size,{ cls:=.type "range_iterator",data:=.fields #[rawInt a,rawInt (Builtin.Range.rangeSize a b c),rawInt c] })]) (fun b' o e=>Heap.get?_push_of_some { cls:=.type "range_iterator",data:=.fields #[rawInt a,rawInt (Builtin.Range.rangeSize a b c),rawInt c] } e) (fun q hq=>by rw[List.mem_singleton.mp hq];exact⟨Heap.get?_push_size _ rfl,Nat.le_refl _⟩)
  refine post W _ tk _ [k2.objs.size] _ _ (.refl W) ⟨_,rfl,Nat.zero_le _,?_⟩ r2 (fun b hb t ht=>by rw[List.mem_singleton.mp hb];exact ap _ Zz5 t ht) (Ztu (a:=a) (c:=c) (n:=rngN a b c))
  rw[en]
  simp
 ·cases hm
theorem JI.range{x:Str}{np pos:Pos}{e:Expr}{es:List Expr}{g:Exs}(hn:Nm prog w Γ x (.type "range"))(h:Js prog w Γ (e::es) g)
  (he:starEach (e::es) Γ.env=(false,eval e Γ.env)::starEach es Γ.env:=by rfl) (hp:∀pos,(backTo pos (starEach es Γ.env)).any (·.1)=false:=by intro _;rfl):JI prog w Γ (.Call (.Name x np) (e::es) [] pos) (ZaT g):=by
 intro W ρ H fr s Q E nx n H' r hf post
 obtain⟨p,e1,hf⟩:=Zz0.mp hf
 refine wpAny_Call_ofName (hn.use r ?_)
 refine PySem.Pv.callWith_type1 (h pos W ρ H fr s _ E _ _ r e1 fun W1 k1 t1 xs l1 r1 x1=>?_) he (hp pos)
 obtain⟨vs,H1⟩:=p
 dsimp only at hf x1 r1
 have post1:=fun W' h' tk' it as It fs (l:W1.Le W')=>post W' h' tk' it as It fs (l1.trans l)
 split at hf
 ·obtain⟨y,ex,ry⟩:=x1.one
  subst ex
  cases ry
  exact call_range_1 (Zkn r1 hf post1)
 ·obtain⟨y,z,ex,ry,rz⟩:=x1.two
  subst ex
  cases ry
  cases rz
  exact call_range_2 (Zkn r1 hf post1)
 ·cases x1 with
  | cons ry x1=>
  obtain⟨y,z,ex,rz,ru⟩:=x1.two
  subst ex
  cases ry
  cases rz
  cases ru
  have hc:=Zrd hf
  exact call_range_3 hc.1 (Zkn r1 hf post1) (.inl hc.2)
 ·cases hf
end
noncomputable def Zdq(nx:Nx)(put:V→Lc→Option Lc)(b:Sm): Nat→Nat→Sm
 | 0,_=>fun _ _=>none
 | n+1,i=>fun ρ H=>(nx i H).bind fun o=>match o with
  | none=>some (none,ρ,H)
  | some v=>(put v ρ).bind fun ρ1=>(b ρ1 H).bind fun q=>match q.1 with
   | some _=>some q
   | none=>Zdq nx put b n (i+1) q.2.1 q.2.2
noncomputable def ZaZ(g:Src)(put:V→Lc→Option Lc)(b:Sm): Sm:=fun ρ H=>(g ρ H).bind fun z=>Zdq z.1 put b z.2.1 0 ρ z.2.2
noncomputable def Zas(i:Nat): V→Lc→Option Lc:=fun v ρ=>some (upd ρ i v)
section
variable {prog:Program} {w:World} {Γ:Cx}
theorem Zcn{x:Str}{i:Nat}{px pos:Pos}{it:Expr}{body:List Stmt}{g:Src}{b:Sm}(hx:Sto prog w Γ x i)(hg:JI prog w Γ it g)(hb:Ss prog w Γ body b)(hs:∀x,foldedSetIterable it Γ.env x=pure x:=by intro _;rfl): S1 prog w Γ (.For (.Name x px) it body [] pos) (ZaZ g (Zas i) b):=by
 intro W ρ H fr s Q E r rp hf post
 obtain⟨z,e1,hf⟩:=Zz0.mp hf
 obtain⟨nx,n,H0⟩:=z
 refine wpAny_For (hg W ρ H fr s _ E nx n H0 rp e1 fun W1 k1 t1 itv as It fs l1 i1 r1 ap I1=>?_) hs
 refine codeAny_forLoop (fun k s'=>∃W' ρ' H' h' tk' j fs',s' = { s with heap:=h',toks:=tk' }∧W1.Le W'∧It j fs'∧Rep Γ W' ρ' H' (fs'++fr) h'∧Zdq nx (Zas i) b k j ρ' H'=some r) ?_ n ⟨W1,ρ,H0,k1,t1,0,fs,rfl,.refl _,i1,r1,hf⟩
 rintro k s' ⟨W2,ρ2,H2,k2,t2,j,fs2,rfl,l2,i2,r2,e⟩
 cases k with
 | zero=>cases e
 | succ k=>
  obtain⟨o,e2,e⟩:=Zz0.mp e
  refine I1.next j W2 ρ2 H2 fr fs2 _ _ _ o l2 r2 ap i2 e2 ?_
  cases o with
  | none=>
   cases e
   intro h' tk' r3
   exact wpAny_execs_nil (post W2 h' tk' (l1.trans l2) r3)
  | some v=>
   intro fs3 k3 t3 y i3 r3 y3
   obtain⟨ρ3,e3,e⟩:=Zz0.mp e
   cases e3
   obtain⟨q,e4,e⟩:=Zz0.mp e
   refine wpAny_assign_Name (hx W2 ρ2 H2 (fs3++fr) _ _ _ v y r3 y3 fun k4 t4 r4=>?_)
   refine hb W2 _ H2 (fs3++fr) _ _ _ q r4 e4 ?_
   obtain⟨u,ρ5,H5⟩:=q
   cases u with
   | some u=>
    cases e
    exact fun W5 k5 t5 x5 l5 r5 v5=>post W5 k5 t5 x5 ((l1.trans l2).trans l5) (r5.less fun q hq=>List.mem_append_right _ hq) v5
   | none=>exact fun W5 k5 t5 l5 r5=>⟨k,Nat.lt_succ_self k,W5,ρ5,H5,k5,t5,j+1,fs3,rfl,l2.trans l5,i3,r5,e⟩
end
end PM
end
section
set_option autoImplicit false
namespace PM
open PySem PySem.W PySem.Calls PyProof.Rows PyProof
structure OwnF(names:List Str)(cs:Scope)(cl:List (Str×Addr))(W:Wd)(ρ:Lc)(m:Str→Option Value)(cells:List (Addr×Obj)): Prop where
 loc:∀(i:Nat) (x:Str) (v:V),names[i]?=some x→cs.names.lookup x=some .local→ρ i=some v→∃y,m x=some y∧VR W v y
 cel:∀(i:Nat) (x:Str) (v:V),names[i]?=some x→cs.names.lookup x=some .cell→ρ i=some v→∃c o y,cl.lookup x=some c∧(c,o)∈cells∧o.data=.cell (some y)∧VR W v y
 all:∀(x:Str) (c:Addr),cl.lookup x=some c→∃o v₀,(c,o)∈cells∧o.data=.cell v₀
 one:∀(x y:Str) (c:Addr),cl.lookup x=some c→cl.lookup y=some c→x=y
theorem OwnF.mono{names:List Str}{cs:Scope}{cl:List (Str×Addr)}{W W':Wd}{ρ:Lc}{m:Str→Option Value}{cells:List (Addr×Obj)}(l:W.Le W')(h:OwnF names cs cl W ρ m cells): OwnF names cs cl W' ρ m cells:=
 ⟨fun i x v a b c=>by
  obtain⟨y,h1,h2⟩:=h.loc i x v a b c
  exact⟨y,h1,h2.mono l⟩,fun i x v a b c=>by
  obtain⟨d,o,y,h1,h2,h3,h4⟩:=h.cel i x v a b c
  exact⟨d,o,y,h1,h2,h3,h4.mono l⟩,h.all,h.one⟩
noncomputable def ZbF(dp un:Nat)(gd:Option (List Code))(cn:Str)(cs:Scope)(L a:Addr)(ccd:Value)(cl:List (Str×Addr))(outer:List Env)(h₀:Heap)(hu:un+200<cLine)(names:List Str): Cx where
 A:=ktrTop dp un gd cn cs L a ccd cl outer
 env:=envX cn cs L a ccd cl
 h₀:=h₀
 L:=L
 hh:=rfl
 hu:=hu
 Own:=OwnF names cs cl
 mono:=OwnF.mono
section
variable {prog:Program} {w:World} {dp un:Nat} {gd:Option (List Code)} {cn:Str} {cs:Scope} {L a:Addr} {ccd:Value} {cl:List (Str×Addr)} {outer:List Env} {h₀:Heap} {hu:un+200<cLine} {names:List Str}
theorem ZvD{x:Str}{i:Nat}(hi:names[i]?=some x)(hx:cs.names.lookup x=some .local)(hk:cs.kind=.function)(hd:(x == ("__debug__":Str))=false): Rd prog w (ZbF dp un gd cn cs L a ccd cl outer h₀ hu names) x i:=by
 intro W ρ H fr s Q E v pos r e q
 obtain⟨m,c,led,r⟩:=r
 obtain⟨y,h1,h2⟩:=r.own.loc i x v hi hx e
 exact nameX_L r.F h1 (q y h2) hk hx hd
theorem ZvE{x:Str}{i:Nat}(hi:names[i]?=some x)(hx:cs.names.lookup x=some .cell)(hk:cs.kind=.function)(hd:(x == ("__debug__":Str))=false): Rd prog w (ZbF dp un gd cn cs L a ccd cl outer h₀ hu names) x i:=by
 intro W ρ H fr s Q E v pos r e q
 obtain⟨m,c,led,r⟩:=r
 obtain⟨d,o,y,h1,h2,h3,h4⟩:=r.own.cel i x v hi hx e
 exact nameX_C r.N h1 (r.clIn _ h2) h3 (q y h4) hk hx hd
theorem Zum{x:Str}{i:Nat}(nd:names.Nodup)(hi:names[i]?=some x)(hx:cs.names.lookup x=some .local)(hk:cs.kind=.function): Sto prog w (ZbF dp un gd cn cs L a ccd cl outer h₀ hu names) x i:=by
 intro W ρ H fr s Q E v y r vy q
 obtain⟨m,c,led,r⟩:=r
 have hi':i<names.length:=(Zz6.mp hi).1
 refine storeX_L r.F r.N (fun h' F' N'=>q h' _ ⟨_,c,led,⟨F',N',r.R,r.sc,r.sc0,r.frIn,r.frOff,r.clIn,r.clOff,r.apart,r.frTup,r.clTup,⟨fun j z u hj hz hu=>?_,fun j z u hj hz hu=>?_,r.own.all,r.own.one⟩⟩⟩) hk hx
 ·by_cases e:j=i
  ·subst e
   rw[hi]at hj
   cases hj
   simp only[upd,if_true]at hu
   cases hu
   exact⟨y,by simp,vy⟩
  ·have hzx:z≠x:=fun e'=>by
    subst e'
    exact e ((List.getElem?_inj (Zz6.mp hj).1 nd).mp (hj.trans hi.symm))
   simp only[upd,if_neg e]at hu
   obtain⟨y',h1,h2⟩:=r.own.loc j z u hj hz hu
   exact⟨y',by simp[hzx,h1],h2⟩
 ·by_cases e:j=i
  ·subst e
   rw[hi]at hj
   cases hj
   rw[hx]at hz
   cases hz
  ·simp only[upd,if_neg e]at hu
   exact r.own.cel j z u hj hz hu
theorem Zun{x:Str}{i:Nat}(nd:names.Nodup)(hi:names[i]?=some x)(hx:cs.names.lookup x=some .cell)(hk:cs.kind=.function)(hcl:(cl.lookup x).isSome=true): Sto prog w (ZbF dp un gd cn cs L a ccd cl outer h₀ hu names) x i:=by
 intro W ρ H fr s Q E v y r vy q
 obtain⟨m,c,led,r⟩:=r
 obtain⟨d,hd⟩:=Option.isSome_iff_exists.mp hcl
 obtain⟨o,v₀,ho,hv₀⟩:=r.own.all x d hd
 have inl:=r.clIn _ ho
 have N2:News h₀ L s.heap ((d,o)::led.filter (fun q=>decide (q.1≠d))):=by
  intro q hq
  rcases Zz7.mp hq with e | hq
  ·subst e
   exact r.N _ inl
  ·exact r.N q (List.mem_filter.mp hq).1
 refine storeX_C r.F N2 hd (UpdF.head fun q hq=>by simpa using (List.mem_filter.mp hq).2) hv₀ (fun h' o' F' N' ho'=>?_) hk hx
 have keep:∀q∈led,q.1≠d→q∈(d,o')::led.filter (fun q=>decide (q.1≠d)):=fun q hq hn=>List.mem_cons_of_mem _ (List.mem_filter.mpr ⟨hq,by simpa using hn⟩)
 refine q h' s.toks ⟨m,(d,o')::c.filter (fun q=>decide (q.1≠d)),_,⟨F',N',⟨r.R.len,r.R.nd,fun j vs e=>?_,fun q hq=>Zd3 (r.R.tups q hq) fun z=>keep q z (r.clTup _ ho q hq).symm,r.R.kind⟩,r.sc,r.sc0,fun q hq=>keep q (r.frIn q hq) (r.apart _ ho q hq).symm,r.frOff,fun q hq=>?_,fun q hq=>?_,fun q hq t ht=>?_,r.frTup,fun q hq t ht=>?_,⟨fun j z u hj hz hu=>?_,fun j z u hj hz hu=>?_,fun z e hz=>?_,r.own.one⟩⟩⟩
 ·obtain⟨l,b,xs,k,h1,h2,h3⟩:=r.R.lists j vs e
  exact⟨l,b,xs,k,h1,Zd3 h2 fun z=>keep _ z fun e=>r.clOff _ ho (e▸List.mem_of_getElem? h1),h3⟩
 ·rcases Zz7.mp hq with e | hq
  ·exact e▸List.mem_cons_self
  ·obtain⟨h1,h2⟩:=List.mem_filter.mp hq
   exact keep q (r.clIn q h1) (by simpa using h2)
 ·rcases Zz7.mp hq with e | hq
  ·rw[e]
   exact(r.clOff _ ho:d∉W.pi)
  ·exact r.clOff q (List.mem_filter.mp hq).1
 ·rcases Zz7.mp hq with e | hq
  ·rw[e]
   exact(r.apart _ ho t ht:d≠t.1)
  ·exact r.apart q (List.mem_filter.mp hq).1 t ht
 ·rcases Zz7.mp hq with e | hq
  ·rw[e]
   exact(r.clTup _ ho t ht:d≠t.1)
  ·exact r.clTup q (List.mem_filter.mp hq).1 t ht
 ·by_cases e:j=i
  ·subst e
   rw[hi]at hj
   cases hj
   rw[hx]at hz
   cases hz
  ·simp only[upd,if_neg e]at hu
   exact r.own.loc j z u hj hz hu
 ·by_cases e:j=i
  ·subst e
   rw[hi]at hj
   cases hj
   simp only[upd,if_true]at hu
   cases hu
   exact⟨d,o',y,hd,List.mem_cons_self,ho',vy⟩
  ·have hzx:z≠x:=fun e'=>by
    subst e'
    exact e ((List.getElem?_inj (Zz6.mp hj).1 nd).mp (hj.trans hi.symm))
   simp only[upd,if_neg e]at hu
   obtain⟨b,ob,y',h1,h2,h3,h4⟩:=r.own.cel j z u hj hz hu
   have:b≠d:=fun e'=>by
    subst e'
    exact hzx (r.own.one z x b h1 hd)
   exact⟨b,ob,y',h1,List.mem_cons_of_mem _ (List.mem_filter.mpr ⟨h2,by simpa using this⟩),h3,h4⟩
 ·by_cases e':e=d
  ·subst e'
   exact⟨o',_,List.mem_cons_self,ho'⟩
  ·obtain⟨ob,v1,h1,h2⟩:=r.own.all z e hz
   exact⟨ob,v1,List.mem_cons_of_mem _ (List.mem_filter.mpr ⟨h1,by simpa using e'⟩),h2⟩
end
end PM
end
section
set_option autoImplicit false
namespace PM
open PySem PySem.W PySem.Calls PyProof.Rows PyProof PyProof.Rows.LCg
theorem ZfQ{Γ:Cx}{W:Wd}{ρ:Lc}{H:Hp}{fr:List (Addr×Obj)}{h:Heap}{D:Addr}{ys:List Value}{k:Nat}{vs:List V}(r:Rep Γ W ρ H ((D,ZbO ys k)::fr) h)(ap:∀t∈fr,D≠t.1)(hv:VRs W vs ys)(hl:vs.length≤LEN):
  ∃W',W.Le W'∧Rep Γ W' ρ (H++[vs]) fr h∧VR W' (.ref H.length) (.ref D):=by
 obtain⟨m,c,led,r⟩:=r
 have le:W.Le ⟨W.pi++[D],W.tups,W.sc⟩:=⟨List.prefix_append _ _,fun q hq=>hq,rfl⟩
 have h0:0<W.pi.length:=(Zz6.mp r.sc0).1
 have at_n:(W.pi++[D])[H.length]?=some D:=by rw[←r.R.len];simp
 have off:=r.frOff _ Zz5
 refine⟨⟨W.pi++[D],W.tups,W.sc⟩,le,⟨m,c,led,⟨r.F,r.N,⟨by simp[r.R.len],?_,fun i us e=>?_,r.R.tups,r.R.kind⟩,r.sc,(List.getElem?_append_left h0).trans r.sc0,fun q hq=>r.frIn q (Zz2 _ hq),fun q hq=>?_,r.clIn,fun q hq=>?_,fun q hq t ht=>r.apart q hq t (Zz2 _ ht),fun q hq=>r.frTup q (Zz2 _ hq),r.clTup,Γ.mono le r.own⟩⟩,.ref at_n⟩
 ·show(W.pi++[D]).Nodup
  rw[List.nodup_append]
  refine⟨r.R.nd,by simp,fun a ha b hb=>?_⟩
  rw[List.mem_singleton.mp hb]
  exact fun e=>off (e▸ha)
 ·by_cases hi:i<H.length
  ·rw[List.getElem?_append_left hi]at e
   obtain⟨l,a,zs,j,h1,h2,h3⟩:=r.R.lists i us e
   exact⟨l,a,zs,j,le.at h1,h2,h3.mono le⟩
  ·have:i=H.length:=by
    have:=(Zz6.mp e).1
    simp at this
    omega
   subst this
   simp at e
   subst e
   exact⟨hl,D,ys,k,at_n,List.mem_cons_of_mem _ (r.frIn _ Zz5),hv.mono le⟩
 ·intro hm
  rcases Zz8.mp hm with hm | hm
  ·exact r.frOff q (Zz2 _ hq) hm
  ·exact ap q hq (Zz9.mp hm).symm
 ·intro hm
  rcases Zz8.mp hm with hm | hm
  ·exact r.clOff q hq hm
  ·exact r.apart q hq _ Zz5 (Zz9.mp hm)
noncomputable def ZwZ(Γ:Cx)(C:Addr)(ts:List (Str×Nat))(ρ0:Lc)(W:Wd)(ρ:Lc)(m:Str→Option Value)(cells:List (Addr×Obj)): Prop:=
 ∃oC m₂ cs,cells=(C,oC)::cs∧(∀q∈cs,q.1≠C)∧NsObj oC m₂∧(∀p∈ts,∃v y,ρ p.2=some v∧m₂ p.1=some y∧VR W v y)∧(∀j,(∀p∈ts,p.2≠j)→ρ j=ρ0 j)∧Γ.Own W ρ0 m cs
noncomputable def Za9(Γ:Cx)(scope:Scope)(cl:List (Str×Addr))(C:Addr)(ts:List (Str×Nat))(ρ0:Lc): Cx where
 A:=Γ.A
 env:=compEnvC scope cl C Γ.env
 h₀:=Γ.h₀
 L:=Γ.L
 hh:=Γ.hh
 hu:=Γ.hu
 Own:=ZwZ Γ C ts ρ0
 mono:=fun l h=>by
  obtain⟨oC,m₂,cs,e,h0,h1,h2,h3,h4⟩:=h
  exact⟨oC,m₂,cs,e,h0,h1,fun p hp=>by
   obtain⟨v,y,a,b,c⟩:=h2 p hp
   exact⟨v,y,a,b,c.mono l⟩,h3,Γ.mono l h4⟩
section
variable {Γ:Cx} {scope:Scope} {cl:List (Str×Addr)} {C:Addr} {ts:List (Str×Nat)} {ρ0:Lc} {W:Wd} {ρ:Lc} {H:Hp} {fr:List (Addr×Obj)} {h:Heap}
theorem Zo6{oC:Obj}{m₂:Str→Option Value}(r:Rep Γ W ρ0 H ((C,oC)::fr) h)(ap:∀t∈fr,C≠t.1)(hC:NsObj oC m₂)(ht:∀p∈ts,∃v y,ρ p.2=some v∧m₂ p.1=some y∧VR W v y)(hj:∀j,(∀p∈ts,p.2≠j)→ρ j=ρ0 j): Rep (Za9 Γ scope cl C ts ρ0) W ρ H fr h:=by
 obtain⟨m,c,led,r⟩:=r
 refine⟨m,(C,oC)::c,led,⟨r.F,r.N,r.R,r.sc,r.sc0,fun q hq=>r.frIn q (Zz2 _ hq),fun q hq=>r.frOff q (Zz2 _ hq),fun q hq=>?_,fun q hq=>?_,fun q hq t ht=>?_,fun q hq=>r.frTup q (Zz2 _ hq),fun q hq t ht=>?_,⟨oC,m₂,c,rfl,fun q hq=>r.apart q hq _ Zz5,hC,ht,hj,r.own⟩⟩⟩
 ·rcases Zz7.mp hq with e | hq
  ·exact e▸r.frIn _ Zz5
  ·exact r.clIn q hq
 ·rcases Zz7.mp hq with e | hq
  ·exact e▸r.frOff _ Zz5
  ·exact r.clOff q hq
 ·rcases Zz7.mp hq with e | hq
  ·exact e▸ap t ht
  ·exact r.apart q hq t (Zz2 _ ht)
 ·rcases Zz7.mp hq with e | hq
  ·exact e▸r.frTup _ Zz5 t ht
  ·exact r.clTup q hq t ht
theorem Rep.fromC(r:Rep (Za9 Γ scope cl C ts ρ0) W ρ H fr h): ∃oC m₂,NsObj oC m₂∧Rep Γ W ρ0 H ((C,oC)::fr) h:=by
 obtain⟨m,c,led,r⟩:=r
 obtain⟨oC,m₂,cs,e,h0,h1,h2,h3,h4⟩:=r.own
 subst e
 refine⟨oC,m₂,h1,m,cs,led,⟨r.F,r.N,r.R,r.sc,r.sc0,fun q hq=>?_,fun q hq=>?_,fun q hq=>r.clIn q (Zz2 _ hq),fun q hq=>r.clOff q (Zz2 _ hq),fun q hq t ht=>?_,fun q hq t ht=>?_,fun q hq=>r.clTup q (Zz2 _ hq),h4⟩⟩
 ·rcases Zz7.mp hq with e | hq
  ·exact e▸r.clIn _ Zz5
  ·exact r.frIn q hq
 ·rcases Zz7.mp hq with e | hq
  ·exact e▸r.clOff _ Zz5
  ·exact r.frOff q hq
 ·rcases Zz7.mp ht with e | ht
  ·rw[e]
   exact h0 q hq
  ·exact r.apart q (Zz2 _ hq) t ht
 ·rcases Zz7.mp hq with e | hq
  ·exact e▸r.clTup _ Zz5 t ht
  ·exact r.frTup q hq t ht
end
noncomputable def JF(prog:Program)(w:World)(Γ:Cx)(ifs:List Expr)(f:Ts): Prop:=∀(W:Wd) (ρ:Lc) (H:Hp) (fr:List (Addr×Obj)) (s:Shared) (Q:Bool→Shared→Prop) (E:Value→Shared→Prop) (b:Bool) (H':Hp),
 Rep Γ W ρ H fr s.heap→f ρ H=some (b,H')→Zij Γ W ρ H' fr s Q b →
 wpAny (model prog w) Γ.A (forIn ifs true fun c r=>if r=true then do let ok ←isTrue c Γ.env (eval c Γ.env);pure (ForInStep.yield ok)else pure (ForInStep.yield r)) Q E s
section
variable {prog:Program} {w:World} {Γ:Cx}
theorem JF.nil: JF prog w Γ [] Zaw:=fun W ρ H fr s Q E b H' r hf post=>by
 cases hf
 exact wpAny_pure (post W s.heap s.toks (.refl W) r)
theorem JF.one{e:Expr}{t:Ts}(h:JT prog w Γ e t): JF prog w Γ [e] t:=fun W ρ H fr s Q E b H' r hf post=>by
 rw[List.forIn_cons]
 simp only[if_true,List.forIn_nil]
 refine wpAny_bind (wpAny_bind (h W ρ H fr s _ E b H' r hf fun W1 k1 t1 l1 r1=>wpAny_pure ?_))
 exact wpAny_pure (post W1 k1 t1 l1 r1)
end
end PM
end
section
set_option autoImplicit false
namespace PM
open PySem PySem.W PySem.Calls PyProof.Rows PyProof PyProof.Rows.LCg
noncomputable def ZcF(nx:Nx)(put:V→Lc→Option Lc)(c:Ts)(f:Ex)(ρ:Lc): Nat→Nat→List V→Hp→Option (List V×Hp)
 | 0,_,_,_=>none
 | n+1,i,acc,H=>(nx i H).bind fun o=>match o with
  | none=>some (acc,H)
  | some v=>(put v ρ).bind fun ρ1=>(c ρ1 H).bind fun b=>if b.1 then(f ρ1 b.2).bind fun p=>(if acc.length<LEN then ZcF nx put c f ρ n (i+1) (acc++[p.1]) p.2 else none)else ZcF nx put c f ρ n (i+1) acc b.2
noncomputable def ZaH(g:Src)(put:V→Lc→Option Lc)(c:Ts)(f:Ex): Ex:=fun ρ H=>(g ρ H).bind fun z=>(ZcF z.1 put c f ρ z.2.1 0 [] z.2.2).map fun q=>(.ref q.2.length,q.2++[q.1])
noncomputable def ZgG(Γ:Cx)(W0:Wd)(ρ:Lc)(fr:List (Addr×Obj))(C D:Addr)(It:Nat→List (Addr×Obj)→Prop)(nx:Nx)(put:V→Lc→Option Lc)(c:Ts)(f:Ex)(q:List V×Hp)(s:Shared)(k:Nat)(s':Shared): Prop:=
 ∃W' H' h' tk' j fs acc ys oC m₂,s' = { s with heap:=h',toks:=tk' }∧W0.Le W'∧It j fs∧NsObj oC m₂∧VRs W' acc ys∧acc.length≤LEN∧Rep Γ W' ρ H' ((C,oC)::(D,lst ys)::(fs++fr)) h'∧ZcF nx put c f ρ k j acc H'=some q
section
variable {prog:Program} {w:World} {Γ:Cx}
theorem Zn1{scope:Scope}{cl:List (Str×Addr)}{elt:Expr}{ts:List (Str×Nat)}{W0 W:Wd}{ρ ρ1:Lc}{H:Hp}{fr fs:List (Addr×Obj)}{C D:Addr}{It:Nat→List (Addr×Obj)→Prop}{nx:Nx}{put:V→Lc→Option Lc}{c:Ts}{f:Ex}{q:List V×Hp}{s:Shared}{h:Heap}{tk:Nat}{k j:Nat}{acc:List V}{ys:List Value}{E:Value→Shared→Prop}
  (hel:J prog w (Za9 Γ scope cl C ts ρ) elt f) (aD:∀t∈fs++fr,D≠t.1) (cd:C≠D) (l0:W0.Le W) (hit:It (j+1) fs) (hv:VRs W acc ys) (r:Rep (Za9 Γ scope cl C ts ρ) W ρ1 H ((D,lst ys)::(fs++fr)) h)
  (e:((f ρ1 H).bind fun p=>(if acc.length<LEN then ZcF nx put c f ρ k (j+1) (acc++[p.1]) p.2 else none))=some q):
  wpAny (model prog w) Γ.A (eval elt (compEnvC scope cl C Γ.env)) (fun x s₄=>wpAny (model prog w) Γ.A (call (.builtin "list.append") [.ref D,x]) (fun _ s₅=>∃m,m<k+1∧ZgG Γ W0 ρ fr C D It nx put c f q s m s₅) E s₄) E { s with heap:=h,toks:=tk }:=by
 obtain⟨p,e2,e⟩:=Zz0.mp e
 by_cases hlt:acc.length<LEN
 ·rw[if_pos hlt]at e
  refine hel W ρ1 H _ _ _ E _ _ r e2 fun W2 k2 t2 x l2 r2 x2=>?_
  obtain⟨oC',m₃,hC',r3⟩:=r2.fromC
  have hD:k2.get? D=some (lst ys):=r3.frAt (q:=(D,lst ys)) (Zz2 _ Zz5)
  refine append_at (hsz:=ZcM (by rw[List.size_toArray,hv.length];omega)) hD fun h' sb hg=>?_
  have hg':h'.get? D=some (lst (ys++[x])):=hg.trans (congrArg some (lst_snoc ys x))
  have r4:Rep Γ W2 ρ p.2 ([(D,lst ys)]++((C,oC')::(fs++fr))) k2:=r3.less fun q hq=>by
   rcases Zz8.mp hq with hq | hq
   ·rw[List.mem_singleton.mp hq]
    exact Zz2 _ Zz5
   ·rcases Zz7.mp hq with e | hq
    ·exact e▸List.mem_cons_self
    ·exact Zz2 _ (Zz2 _ hq)
  have r5:Rep Γ W2 ρ p.2 ([(D,lst (ys++[x]))]++((C,oC')::(fs++fr))) h':=by
   refine r4.swap (fun q hq t ht=>?_) (fun b o hb e=>sb.extBut b o (fun z=>hb (by simp[z])) e) fun q hq=>?_
   ·rw[List.mem_singleton.mp hq]
    rcases Zz7.mp ht with e | ht
    ·rw[e]
     exact cd.symm
    ·exact aD t ht
   ·rw[List.mem_singleton.mp hq]
    exact⟨hg',by simp⟩
  have r6:Rep Γ W2 ρ p.2 ((C,oC')::(D,lst (ys++[x]))::(fs++fr)) h':=r5.less fun q hq=>by
   rcases Zz7.mp hq with e | hq
   ·exact e▸List.mem_append_right _ Zz5
   ·rcases Zz7.mp hq with e | hq
    ·exact e▸List.mem_append_left _ Zz5
    ·exact Zz3 _ (Zz2 _ hq)
  exact⟨k,Nat.lt_succ_self k,W2,p.2,h',t2,j+1,fs,acc++[p.1],ys++[x],oC',m₃,rfl,l0.trans l2,hit,hC',(hv.mono l2).snoc x2,by simp;omega,r6,e⟩
 ·rw[if_neg hlt]at e
  cases e
theorem Ztv{scope:Scope}{cl:List (Str×Addr)}{elt:Expr}{ifs:List Expr}{ts:List (Str×Nat)}{W0 W:Wd}{ρ ρ1:Lc}{H:Hp}{fr fs:List (Addr×Obj)}{C D:Addr}{It:Nat→List (Addr×Obj)→Prop}{nx:Nx}{put:V→Lc→Option Lc}{c:Ts}{f:Ex}{q:List V×Hp}{s s1:Shared}{k j:Nat}{acc:List V}{ys:List Value}{oC:Obj}{m₂:Str→Option Value}{E:Value→Shared→Prop}
  (hel:J prog w (Za9 Γ scope cl C ts ρ) elt f) (hif:JF prog w (Za9 Γ scope cl C ts ρ) ifs c) (hs:∃h tk,s1 = { s with heap:=h,toks:=tk })
  (aC:∀t∈(D,lst ys)::(fs++fr),C≠t.1) (aD:∀t∈fs++fr,D≠t.1) (l0:W0.Le W) (hit:It (j+1) fs) (hC:NsObj oC m₂) (hv:VRs W acc ys) (hl:acc.length≤LEN) (r:Rep Γ W ρ H ((C,oC)::(D,lst ys)::(fs++fr)) s1.heap)
  (ht:∀p∈ts,∃v y,ρ1 p.2=some v∧m₂ p.1=some y∧VR W v y) (hj:∀i,(∀p∈ts,p.2≠i)→ρ1 i=ρ i)
  (e:((c ρ1 H).bind fun b=>if b.1 then(f ρ1 b.2).bind fun p=>(if acc.length<LEN then ZcF nx put c f ρ k (j+1) (acc++[p.1]) p.2 else none)else ZcF nx put c f ρ k (j+1) acc b.2)=some q):
  wpAny (model prog w) Γ.A (forIn ifs true fun c r=>if r=true then do let ok ←isTrue c (compEnvC scope cl C Γ.env) (eval c (compEnvC scope cl C Γ.env));pure (ForInStep.yield ok)else pure (ForInStep.yield r)) (fun ok s₃=>
   if ok=true then wpAny (model prog w) Γ.A (eval elt (compEnvC scope cl C Γ.env)) (fun x s₄=>wpAny (model prog w) Γ.A (call (.builtin "list.append") [.ref D,x]) (fun _ s₅=>∃m,m<k+1∧ZgG Γ W0 ρ fr C D It nx put c f q s m s₅) E s₄) E s₃
   else ∃m,m<k+1∧ZgG Γ W0 ρ fr C D It nx put c f q s m s₃) E s1:=by
 obtain⟨h,tk,rfl⟩:=hs
 obtain⟨b,e1,e⟩:=Zz0.mp e
 obtain⟨b,H1⟩:=b
 have rc:=Zo6 (scope:=scope) (cl:=cl) r aC hC ht hj
 refine hif W ρ1 H _ _ _ E b H1 rc e1 fun W1 k1 t1 l1 r1=>?_
 cases b with
 | false=>
  obtain⟨oC',m₃,hC',r2⟩:=r1.fromC
  exact⟨k,Nat.lt_succ_self k,W1,H1,k1,t1,j+1,fs,acc,ys,oC',m₃,rfl,l0.trans l1,hit,hC',hv.mono l1,hl,r2,e⟩
 | true=>exact Zn1 hel aD (aC (D,lst ys) Zz5) (l0.trans l1) hit (hv.mono l1) r1 e
theorem comp_core{elt iter:Expr}{x:Str}{px:Pos}{ifs:List Expr}{scope:Scope}{pos:Pos}{cl:List (Str×Addr)}{t:Nat}{g:Src}{c:Ts}{f:Ex}(hg:JI prog w Γ iter g)(hel:∀C ρ,J prog w (Za9 Γ scope cl C [(x,t)] ρ) elt f)(hif:∀C ρ,JF prog w (Za9 Γ scope cl C [(x,t)] ρ) ifs c)
  (hcell:∀y∈scope.names,y.2≠.cell) (hkind:scope.kind=.function) (hx:scope.names.lookup x=some .local)
  {W:Wd} {ρ:Lc} {H:Hp} {fr:List (Addr×Obj)} {s:Shared} {E:Value→Shared→Prop} {q:List V×Hp} {RR:Value→Addr→Result→Shared→Prop} (r:Rep Γ W ρ H fr s.heap) (hf:((g ρ H).bind fun z=>ZcF z.1 (Zas t) c f ρ z.2.1 0 [] z.2.2)=some q)
  (hR:∀(W':Wd) (h':Heap) (tk':Nat) (C D:Addr) (oC:Obj) (m₂:Str→Option Value) (ys:List Value),W.Le W'→NsObj oC m₂→VRs W' q.1 ys→q.1.length≤LEN→(∀t∈fr,D≠t.1)→(∀t∈fr,C≠t.1)→C≠D→Rep Γ W' ρ q.2 ((C,oC)::(D,lst ys)::fr) h'→RR (.ref D) C (.ok .next) { s with heap:=h',toks:=tk' }):
  wpAny (model prog w) Γ.A (eval iter Γ.env) (fun xv s₁=>wpAny (model prog w) Γ.A (pyIter xv) (fun it s₂=>wpAny (model prog w) Γ.A (newList []) (fun acc s₃=>wpAny (model prog w) Γ.A (newFunctionEnv scope Γ.env.globals cl [] Γ.env.qual none .none (some Γ.env)) (fun cenv s₄=>
   codeAny (model prog w) Γ.A (.compStart (.ListComp elt [⟨.Name x px,iter,ifs,0⟩] scope pos) 0 it acc { cenv with scope:=relabel scope Γ.env }) (RR acc cenv.locals) s₄) E s₃) E s₂) E s₁) E s:=by
 obtain⟨z,e1,e2⟩:=Zz0.mp hf
 obtain⟨nx,n,H0⟩:=z
 refine hg W ρ H fr s _ E nx n H0 r e1 fun W1 k1 t1 itv as It fs l1 i1 r1 ap I1=>?_
 refine wpAny_newObj_type (wpAny_newFunctionEnv hcell (fun y hy=>by simp at hy) (fun h₂ hns hsb=>?_) hkind)
 dsimp only at hns hsb ⊢
 obtain⟨rD,aD⟩:=r1.more (fs:=[(k1.objs.size,lst [])]) (fun b o e=>Heap.get?_push_of_some (lst []) e) (fun q hq=>by rw[List.mem_singleton.mp hq];exact⟨Heap.get?_push_size _ rfl,Nat.le_refl _⟩)
 generalize eH:k1.push { cls:=.type "list",dict:=none,data:=.seq ([]:List Value).toArray } = K at hns hsb ⊢
 have eK:k1.push (lst [])=K:=eH
 rw[eK]at rD
 obtain⟨oC,gC,nC⟩:=ns_obj hns
 have up:∀b o,K.get? b=some o→h₂.get? b=some o:=fun b o e=>hsb.extBut b o (Nat.ne_of_lt (Heap.lt_size e)) (Heap.get?_push_of_some _ e)
 obtain⟨rC,aC⟩:=rD.more (fs:=[(K.objs.size,oC)]) up (fun q hq=>by rw[List.mem_singleton.mp hq];exact⟨gC,Nat.le_refl _⟩)
 have adr0:=I1.adr 0 fs i1
 have offs:∀b∈as,b≠k1.objs.size∧b≠K.objs.size:=fun b hb=>by
  rw[←adr0]at hb
  obtain⟨q,hq,e⟩:=Zz11.mp hb
  exact⟨e▸(aD _ Zz5 q (Zz4 _ hq)).symm,e▸(aC _ Zz5 q (Zz3 _ (Zz4 _ hq))).symm⟩
 have cd:K.objs.size≠k1.objs.size:=aC _ Zz5 (k1.objs.size,lst []) (Zz4 _ Zz5)
 have cfr:∀t∈fr,K.objs.size≠t.1:=fun t ht=>aC _ Zz5 t (Zz3 _ (Zz3 _ ht))
 have dfr:∀t∈fr,k1.objs.size≠t.1:=fun t ht=>aD _ Zz5 t (Zz3 _ ht)
 generalize k1.objs.size=D at *
 generalize K.objs.size=C at *
 have loop:∀s₃:Shared,s₃ = { s with heap:=h₂,toks:=t1+([]:List (Str×Value)).length } →
   codeAny (model prog w) Γ.A (.compLoop (.ListComp elt [⟨.Name x px,iter,ifs,0⟩] scope pos) 0 itv (.ref D) (compEnvC scope cl C Γ.env)) (RR (.ref D) C) s₃:=by
  intro s₃ hs₃
  subst hs₃
  refine codeAny_compLoop_tests (ZgG Γ W1 ρ fr C D It nx (Zas t) c f q s) ?_ n ⟨W1,H0,h₂,_,0,fs,[],[],oC,_,rfl,.refl _,i1,nC,.nil,Nat.zero_le _,rC,e2⟩
  rintro k s' ⟨W2,H2,k2,t2,j,fs2,acc,ys,oC2,m₂,rfl,l2,i2,hC2,hv2,hl2,r2,e⟩
  cases k with
  | zero=>cases e
  | succ k=>
   obtain⟨o,e4,e⟩:=Zz0.mp e
   have r2':Rep Γ W2 ρ H2 (fs2++((C,oC2)::(D,lst ys)::fr)) k2:=r2.less fun q hq=>by
    rcases Zz8.mp hq with hq | hq
    ·exact Zz2 _ (Zz2 _ (Zz4 _ hq))
    ·rcases Zz7.mp hq with e | hq
     ·exact e▸List.mem_cons_self
     ·rcases Zz7.mp hq with e | hq
      ·exact e▸List.mem_cons_of_mem _ Zz5
      ·exact Zz2 _ (Zz2 _ (Zz3 _ hq))
   have ap2:∀b∈as,∀t∈(C,oC2)::(D,lst ys)::fr,b≠t.1:=fun b hb t ht=>by
    rcases Zz7.mp ht with e | ht
    ·rw[e]
     exact(offs b hb).2
    ·rcases Zz7.mp ht with e | ht
     ·rw[e]
      exact(offs b hb).1
     ·exact ap b hb t ht
   refine I1.next j W2 ρ H2 _ fs2 _ _ _ o l2 r2' ap2 i2 e4 ?_
   cases o with
   | none=>
    cases e
    intro h' tk' r3
    exact hR W2 h' tk' C D oC2 m₂ ys (l1.trans l2) hC2 hv2 hl2 dfr cfr cd r3
   | some v=>
    intro fs3 k3 t3 y i3 r3 y3
    obtain⟨ρ3,e5,e⟩:=Zz0.mp e
    cases e5
    have a3:∀t∈fs3,t.1∈as:=fun t ht=>by
     rw[←I1.adr _ _ i3]
     exact List.mem_map_of_mem ht
    have gC3:k3.get? C=some oC2:=r3.frAt (q:=(C,oC2)) (Zz3 _ Zz5)
    have nC3:k3.Ns C m₂:=hC2.ns gC3
    refine wpAny_assign_Name (wpAny_storeName_local (lookup_relabel_local hx) nC3 (fun h4 hn4 sb4=>?_) (by simp[compEnvC,relabel,hkind]))
    obtain⟨oC4,gC4,nC4⟩:=ns_obj hn4
    have r3':Rep Γ W2 ρ H2 ([(C,oC2)]++((D,lst ys)::(fs3++fr))) k3:=r3.less fun q hq=>by
     rcases Zz8.mp hq with hq | hq
     ·rw[List.mem_singleton.mp hq]
      exact Zz3 _ Zz5
     ·rcases Zz7.mp hq with e | hq
      ·exact e▸List.mem_append_right _ (Zz2 _ Zz5)
      ·rcases Zz8.mp hq with hq | hq
       ·exact Zz4 _ hq
       ·exact Zz3 _ (Zz2 _ (Zz2 _ hq))
    have aC3:∀t∈(D,lst ys)::(fs3++fr),C≠t.1:=fun t ht=>by
     rcases Zz7.mp ht with e | ht
     ·rw[e]
      exact cd
     ·rcases Zz8.mp ht with ht | ht
      ·exact(offs _ (a3 t ht)).2.symm
      ·exact cfr t ht
    have aD3:∀t∈fs3++fr,D≠t.1:=fun t ht=>by
     rcases Zz8.mp ht with ht | ht
     ·exact(offs _ (a3 t ht)).1.symm
     ·exact dfr t ht
    have r4:Rep Γ W2 ρ H2 ([(C,oC4)]++((D,lst ys)::(fs3++fr))) h4:=by
     refine r3'.swap (fun q hq t ht=>?_) (fun b o hb e=>sb4.extBut b o (fun z=>hb (by simp[z,compEnvC])) e) fun q hq=>?_
     ·rw[List.mem_singleton.mp hq]
      exact aC3 t ht
     ·rw[List.mem_singleton.mp hq]
      exact⟨gC4,by simp⟩
    refine Ztv (hel C ρ) (hif C ρ) ⟨h4,_,rfl⟩ aC3 aD3 l2 i3 nC4 hv2 hl2 r4 (fun p hp=>?_) (fun i hi=>?_) e
    ·rw[List.mem_singleton.mp hp]
     exact⟨v,y,by simp[upd],by simp,y3⟩
    ·have:i≠t:=fun e=>hi (x,t) Zz5 e.symm
     simp[upd,this]
 refine codeAny_compStart_list (loop _ rfl) ?_
 exact I1.self 0 W1 ρ H0 (([(C,oC)]++[(D,lst [])])++fr) fs _ _ _ (.refl _) (rC.less fun q hq=>by
  rcases Zz8.mp hq with hq | hq
  ·exact Zz3 _ (Zz3 _ (Zz4 _ hq))
  ·rcases Zz8.mp hq with hq | hq
   ·rcases Zz8.mp hq with hq | hq
    ·exact Zz4 _ hq
    ·exact Zz3 _ (Zz4 _ hq)
   ·exact Zz3 _ (Zz3 _ (Zz3 _ hq))) i1 (loop _ rfl)
theorem Zor{W:Wd}{ρ:Lc}{q:List V×Hp}{fr:List (Addr×Obj)}{C D:Addr}{oC:Obj}{ys:List Value}{h' h'':Heap}(hv:VRs W q.1 ys)(hl:q.1.length≤LEN)(aD:∀t∈fr,D≠t.1)(aC:∀t∈fr,C≠t.1)(cd:C≠D)(r:Rep Γ W ρ q.2 ((C,oC)::(D,lst ys)::fr) h')(sb:Heap.SameBut C h' h''):
  ∃W',W.Le W'∧Rep Γ W' ρ (q.2++[q.1]) fr h''∧VR W' (.ref q.2.length) (.ref D):=by
 have r4:Rep Γ W ρ q.2 ([]++((D,lst ys)::fr)) h'':=by
  refine Rep.swap (fs:=[(C,oC)]) (fs':=[]) r (fun q hq t ht=>?_) (fun b o hb e=>sb.extBut b o (fun z=>hb (by simp[z])) e) fun q hq=>nomatch hq
  rw[List.mem_singleton.mp hq]
  rcases Zz7.mp ht with e | ht
  ·rw[e]
   exact cd
  ·exact aC t ht
 exact ZfQ r4 aD hv hl
theorem ZvF{elt iter:Expr}{x:Str}{px:Pos}{ifs:List Expr}{scope:Scope}{pos:Pos}{cl:List (Str×Addr)}{t:Nat}{g:Src}{c:Ts}{f:Ex}(hg:JI prog w Γ iter g)(hel:∀C ρ,J prog w (Za9 Γ scope cl C [(x,t)] ρ) elt f)(hif:∀C ρ,JF prog w (Za9 Γ scope cl C [(x,t)] ρ) ifs c)
  (hclos:closureFor scope Γ.env=pure cl) (hcell:∀y∈scope.names,y.2≠.cell) (hkind:scope.kind=.function) (hnames:∀y∈scope.names,y.2=.local→scope.names.lookup y.1=some .local) (hx:scope.names.lookup x=some .local) (hs:∀x,foldedSetIterable iter Γ.env x=pure x:=by intro _;rfl):
  J prog w Γ (.ListComp elt [⟨.Name x px,iter,ifs,0⟩] scope pos) (ZaH g (Zas t) c f):=by
 intro W ρ H fr s Q E v H' r hf post
 obtain⟨z,e1,hf⟩:=Zz0.mp hf
 obtain⟨q,e2,e3⟩:=Zz1.mp hf
 cases e3
 rw[eval_ListComp]
 refine wpAny_comprehension_free (use:=Option.none) rfl hs hclos hkind hnames ?_
 refine comp_core (RR:=fun acc C=>compPost (model prog w) Γ.A E Option.none Q acc C) hg hel hif hcell hkind hx r (q:=q) (by rw[e1];exact e2) fun W2 h' tk' C D oC m₂ ys l2 hC hv hl aD aC cd r3=>?_
 refine⟨m₂,hC.ns (r3.frAt (q:=(C,oC)) Zz5),fun h'' sb=>?_⟩
 obtain⟨W5,l5,r5,v5⟩:=Zor hv hl aD aC cd r3 sb
 exact post W5 h'' tk' _ (l2.trans l5) r5 v5
theorem ZrZ{elt iter:Expr}{x y:Str}{px py pos spos:Pos}{ifs:List Expr}{scope:Scope}{cl:List (Str×Addr)}{t i:Nat}{g:Src}{c:Ts}{f:Ex}(hy:Sto prog w Γ y i)(hg:JI prog w Γ iter g)(hel:∀C ρ,J prog w (Za9 Γ scope cl C [(x,t)] ρ) elt f)(hif:∀C ρ,JF prog w (Za9 Γ scope cl C [(x,t)] ρ) ifs c)
  (hsw:swapsWith (.ListComp elt [⟨.Name x px,iter,ifs,0⟩] scope pos) (some (.Name y py)) spos.line Γ.env=pure true)
  (hclos:closureFor scope Γ.env=pure cl) (hcell:∀y∈scope.names,y.2≠.cell) (hkind:scope.kind=.function) (hnames:∀y∈scope.names,y.2=.local→scope.names.lookup y.1=some .local) (hx:scope.names.lookup x=some .local) (hs:∀x,foldedSetIterable iter Γ.env x=pure x:=by intro _;rfl):
  S1 prog w Γ (.Assign [.Name y py] (.ListComp elt [⟨.Name x px,iter,ifs,0⟩] scope pos) spos) (ZU i (ZaH g (Zas t) c f)):=by
 intro W ρ H fr s Q E r rp hf post
 obtain⟨p,e0,e9⟩:=Zz1.mp hf
 cases e9
 obtain⟨z,e1,hf⟩:=Zz0.mp e0
 obtain⟨q,e2,e3⟩:=Zz1.mp hf
 cases e3
 rw[exec_Assign_Name_used _ _ _ _ hsw]
 refine wpAny_bind (wpAny_standAt (wpAny_bind ?_))
 show wpAny _ Γ.A (do let _ ←comprehension (.ListComp elt [⟨.Name x px,iter,ifs,0⟩] scope pos) scope Γ.env _ (newList []) false (eval iter Γ.env) (some (assign (.Name y py) Γ.env))) _ _ s
 refine wpAny_bind (wpAny_mono (wpAny_comprehension_free (use:=some (assign (.Name y py) Γ.env)) (Q:=fun _ s'=>Q .next s') rfl hs hclos hkind hnames ?_) (fun _ s' h'=>wpAny_pure (wpAny_pure h')) fun _ _ e=>e)
 refine comp_core (RR:=fun acc C=>compPost (model prog w) Γ.A E (some (assign (.Name y py) Γ.env)) (fun _ s'=>Q .next s') acc C) hg hel hif hcell hkind hx rp (q:=q) (by rw[e1];exact e2) fun W2 h' tk' C D oC m₂ ys l2 hC hv hl aD aC cd r3=>?_
 have r4:Rep Γ W2 ρ q.2 ((D,lst ys)::(C,oC)::fr) h':=r3.less fun t ht=>by
  rcases Zz7.mp ht with e | ht
  ·exact e▸List.mem_cons_of_mem _ Zz5
  ·rcases Zz7.mp ht with e | ht
   ·exact e▸List.mem_cons_self
   ·exact Zz2 _ (Zz2 _ ht)
 obtain⟨W5,l5,r5,v5⟩:=ZfQ r4 (fun t ht=>by
  rcases Zz7.mp ht with e | ht
  ·rw[e]
   exact cd.symm
  ·exact aD t ht) hv hl
 refine wpAny_assign_Name (hy W5 ρ _ _ _ _ _ _ _ r5 v5 fun h6 t6 r6=>?_)
 refine⟨m₂,hC.ns (r6.frAt (q:=(C,oC)) Zz5),fun h'' sb=>?_⟩
 have r7:Rep Γ W5 (upd ρ i (.ref q.2.length)) (q.2++[q.1]) ([]++fr) h'':=
  Rep.swap (fs:=[(C,oC)]) (fs':=[]) r6 (fun q hq t ht=>by rw[List.mem_singleton.mp hq];exact aC t ht) (fun b o hb e=>sb.extBut b o (fun z=>hb (by simp[z])) e) fun q hq=>nomatch hq
 exact post W5 h'' t6 (l2.trans l5) r7
end
end PM
end
section
set_option autoImplicit false
namespace PM
open PySem PySem.W PySem.Calls PyProof.Rows PyProof PyProof.Rows.LCg PyProof.Rows.LCp
theorem Zm1(h:Heap): ∀as:List Addr,(∀a∈as,∃o,h.get? a=some o)→∃fs:List (Addr×Obj),fs.map (·.1)=as∧∀q∈fs,h.get? q.1=some q.2
 | [],_=>⟨[],rfl,fun q hq=>nomatch hq⟩
 | a::as,d=>by
  obtain⟨o,ho⟩:=d a Zz5
  obtain⟨fs,h1,h2⟩:=Zm1 h as fun b hb=>d b (Zz2 _ hb)
  refine⟨(a,o)::fs,by rw[List.map_cons,h1],fun q hq=>?_⟩
  rcases Zz7.mp hq with e | hq
  ·rw[e]
   exact ho
  ·exact h2 q hq
structure Itr2(prog:Program)(w:World)(Γ:Cx)(W0:Wd)(it:Value)(as:List Addr)(It:Nat→List (Addr×Obj)→Prop)(nx:Nx): Prop where
 adr:∀i fs,It i fs→fs.map (·.1)=as
 pair:∀i H v,nx i H=some (some v)→∃a b,v=.tup [a,b]
 item:∀(i:Nat) (W:Wd) (ρ:Lc) (H:Hp) (fr fs:List (Addr×Obj)) (s:Shared) (Q:Option Value→Shared→Prop) (E:Value→Shared→Prop) (a b:V),W0.Le W→Rep Γ W ρ H (fs++fr) s.heap→(∀a∈as,∀t∈fr,a≠t.1)→It i fs→nx i H=some (some (.tup [a,b])) →
  (∀(T:Addr) (h1:Heap) (t1:Nat),(∀(elts:List Expr) (k:Nat) (pos:Pos) (s1:Shared) (Q1:Unit→Shared→Prop) (E1:Value→Shared→Prop),s1 = { s with heap:=h1,toks:=t1 } →
    (∀(fs':List (Addr×Obj)) (h':Heap) (x y:Value),It (i+1) fs'→Rep Γ W ρ H (fs'++fr) h'→IsTup h' T #[x,y]→VR W a x→VR W b y→Q1 () { s with heap:=h',toks:=t1 })→wpAny (model prog w) Γ.A (letOwnedTupleGo (.Tuple elts k pos) it (.ref T)) Q1 E1 s1)→Q (some (.ref T)) { s with heap:=h1,toks:=t1 })→wpAny (model prog w) Γ.A (pyNext it) Q E s
 done:∀(i:Nat) (W:Wd) (ρ:Lc) (H:Hp) (fr fs:List (Addr×Obj)) (s:Shared) (Q:Option Value→Shared→Prop) (E:Value→Shared→Prop),W0.Le W→Rep Γ W ρ H (fs++fr) s.heap→(∀a∈as,∀t∈fr,a≠t.1)→It i fs→nx i H=some none →
  (∀(h':Heap) (tk':Nat),Rep Γ W ρ H fr h'→Q none { s with heap:=h',toks:=tk' })→wpAny (model prog w) Γ.A (pyNext it) Q E s
 self:∀(i:Nat) (W:Wd) (ρ:Lc) (H:Hp) (fr fs:List (Addr×Obj)) (s:Shared) (Q E:Value→Shared→Prop) (o:Option V),W0.Le W→Rep Γ W ρ H (fs++fr) s.heap→It i fs→nx i H=some o→Q it s→wpAny (model prog w) Γ.A (pyIter it) Q E s
noncomputable def JI2(prog:Program)(w:World)(Γ:Cx)(e:Expr)(g:Src): Prop:=∀(W:Wd) (ρ:Lc) (H:Hp) (fr:List (Addr×Obj)) (s:Shared) (Q E:Value→Shared→Prop) (nx:Nx) (n:Nat) (H':Hp),
 Rep Γ W ρ H fr s.heap→g ρ H=some (nx,n,H') →
 (∀(W':Wd) (h':Heap) (tk':Nat) (it:Value) (as:List Addr) (It:Nat→List (Addr×Obj)→Prop) (fs:List (Addr×Obj)),W.Le W'→It 0 fs→Rep Γ W' ρ H' (fs++fr) h'→(∀a∈as,∀t∈fr,a≠t.1)→Itr2 prog w Γ W' it as It nx→(∃o,nx 0 H'=some o)→Q it { s with heap:=h',toks:=tk' }) →
 wpAny (model prog w) Γ.A (eval e Γ.env) (fun xv s₁=>wpAny (model prog w) Γ.A (pyIter xv) Q E s₁) E s
noncomputable def Zgw(a b:Nat): Nx:=fun i H=>H[a]?.bind fun vs=>H[b]?.bind fun us=>match vs[i]?,us[i]? with
 | some x,some y=>some (some (.tup [x,y]))
 | _,_=>if i=min vs.length us.length then some none else none
noncomputable def Zc0(f g:Ex): Src:=fun ρ H=>(f ρ H).bind fun p=>(g ρ p.2).bind fun q=>match p.1,q.1 with
 | .ref a,.ref b=>q.2[a]?.bind fun vs=>q.2[b]?.map fun us=>(Zgw a b,min vs.length us.length+1,q.2)
 | _,_=>none
noncomputable def Zb3(i j:Nat): V→Lc→Option Lc
 | .tup [a,b],ρ=>some (upd (upd ρ i a) j b)
 | _,_=>none
noncomputable def ZS(z TI TO i1 i2 l1 l2:Addr)(i:Nat)(h:Heap): Prop:=IsZip h z TI TO .none∧PySem.IsPair h TI (.ref i1) (.ref i2)∧(∃a b,PySem.IsPair h TO a b)∧h.IsListIter i1 l1 i∧h.IsListIter i2 l2 i
theorem ZS.at{z TI TO i1 i2 l1 l2:Addr}{i:Nat}{h h':Heap}(x:ZS z TI TO i1 i2 l1 l2 i h)(e:∀a∈[z,TI,TO,i1,i2],∀o,h.get? a=some o→h'.get? a=some o): ZS z TI TO i1 i2 l1 l2 i h':=by
 obtain⟨h1,h2,⟨a,b,h3⟩,h4,h5⟩:=x
 exact⟨e z (by simp) _ h1,e TI (by simp) _ h2,⟨a,b,e TO (by simp) _ h3⟩,h4.at fun o x=>e i1 (by simp) o x,h5.at fun o x=>e i2 (by simp) o x⟩
theorem ZS.have{z TI TO i1 i2 l1 l2:Addr}{i:Nat}{h:Heap}(x:ZS z TI TO i1 i2 l1 l2 i h): ∀a∈[z,TI,TO,i1,i2],∃o,h.get? a=some o:=by
 obtain⟨h1,h2,⟨a,b,h3⟩,⟨o4,h4,_⟩,⟨o5,h5,_⟩⟩:=x
 intro c hc
 simp only[List.mem_cons,List.not_mem_nil,or_false]at hc
 rcases hc with e | e | e | e | e <;> subst e
 ·exact⟨_,h1⟩
 ·exact⟨_,h2⟩
 ·exact⟨_,h3⟩
 ·exact⟨_,h4⟩
 ·exact⟨_,h5⟩
noncomputable def ZIt(z TI TO i1 i2 l1 l2:Addr)(i:Nat)(fs:List (Addr×Obj)): Prop:=fs.map (·.1)=[z,TI,TO,i1,i2]∧∀h:Heap,(∀q∈fs,h.get? q.1=some q.2)→ZS z TI TO i1 i2 l1 l2 i h
theorem Zo7{z TI TO i1 i2 l1 l2:Addr}{i:Nat}{h:Heap}(x:ZS z TI TO i1 i2 l1 l2 i h): ∃fs,ZIt z TI TO i1 i2 l1 l2 i fs∧∀q∈fs,h.get? q.1=some q.2:=by
 obtain⟨fs,h1,h2⟩:=Zm1 h [z,TI,TO,i1,i2] x.have
 refine⟨fs,⟨h1,fun h' e=>x.at fun a ha o ho=>?_⟩,h2⟩
 rw[←h1]at ha
 obtain⟨q,hq,eq⟩:=Zz11.mp ha
 have:=h2 q hq
 rw[eq,ho]at this
 cases this
 exact eq▸e q hq
section
variable {prog:Program} {w:World} {Γ:Cx}
theorem ZvG{W0:Wd}{z TI TO i1 i2 l1 l2:Addr}{a b:Nat}(ea:W0.pi[a]?=some l1)(eb:W0.pi[b]?=some l2)(D:ZipApart z TI TO i1 i2 l1 l2):
  Itr2 prog w Γ W0 (.ref z) [z,TI,TO,i1,i2] (ZIt z TI TO i1 i2 l1 l2) (Zgw a b):=by
 refine⟨fun i fs h=>h.1,?_,?_,?_,?_⟩
 ·intro i H v e
  obtain⟨vs,e1,e⟩:=Zz0.mp e
  obtain⟨us,e2,e⟩:=Zz0.mp e
  split at e
  ·cases e
   exact⟨_,_,rfl⟩
  ·split at e <;> cases e
 ·intro i W ρ H fr fs s Q E va vb le r ap hit hn post
  obtain⟨vs,e1,e⟩:=Zz0.mp hn
  obtain⟨us,e2,e⟩:=Zz0.mp e
  have hvu:vs[i]?=some va∧us[i]?=some vb:=by
   split at e
   ·rename_i x y h1 h2
    cases e
    exact⟨h1,h2⟩
   ·split at e <;> cases e
  obtain⟨_,xs,k1,g1,v1⟩:=r.at e1 (le.at ea)
  obtain⟨_,ys,k2,g2,v2⟩:=r.at e2 (le.at eb)
  obtain⟨x,hx,rx⟩:=v1.at hvu.1
  obtain⟨y,hy,ry⟩:=v2.at hvu.2
  have st:ZS z TI TO i1 i2 l1 l2 i s.heap:=hit.2 _ fun q hq=>r.frAt (Zz4 _ hq)
  have Wk:=WalksT.zip2 (prog:=prog) (w:=w) (A:=Γ.A) Γ.hh z TI TO i1 i2 l1 l2 D xs.toArray ys.toArray
  have isl1:s.heap.IsList l1 xs.toArray:=⟨_,g1,rfl,k1,rfl⟩
  have isl2:s.heap.IsList l2 ys.toArray:=⟨_,g2,rfl,k2,rfl⟩
  have hi:i<min xs.toArray.size ys.toArray.size:=by
   have h1:=(Zz6.mp hx).1
   have h2:=(Zz6.mp hy).1
   simp
   omega
  refine Wk.item i s Q E hi ⟨st.1,st.2.1,st.2.2.1,st.2.2.2.1,st.2.2.2.2,isl1,isl2⟩ fun T vals h1 t1 hp hT hTup hmid keep1=>post T h1 t1 ?_
  intro elts k pos s1 Q1 E1 es1 q1
  subst es1
  have hTw:=Wk.apart i T _ hmid
  refine Wk.go elts k pos i T _ Q1 E1 hmid fun h2 st2 keep2=>?_
  obtain⟨x',y',hx',hy',ev⟩:=hp
  have ex:x'=x:=by
   have:xs[i]?=some x':=by simpa using hx'
   rw[hx]at this
   exact(Option.some.inj this).symm
  have ey:y'=y:=by
   have:ys[i]?=some y':=by simpa using hy'
   rw[hy]at this
   exact(Option.some.inj this).symm
  subst ex ey ev
  obtain⟨fs',hit',at'⟩:=Zo7 (h:=h2) (⟨st2.1,st2.2.1,st2.2.2.1,st2.2.2.2.1,st2.2.2.2.2.1⟩:ZS z TI TO i1 i2 l1 l2 (i+1) h2)
  obtain⟨oT,gT,cT,nT,dT⟩:=hTup
  refine q1 fs' h2 x' y' hit' ?_ ⟨oT,keep2 T oT hTw gT,cT,nT,dT⟩ rx ry
  refine r.swap (fs':=fs') (fun q hq t ht=>?_) (fun c o hc e=>?_) fun q hq=>⟨at' q hq,?_⟩
  ·exact ap _ (hit.1▸List.mem_map_of_mem hq) t ht
  ·rw[hit.1]at hc
   have hcw:c∉[z,TO,i1,i2]:=fun h=>hc (by simp at h ⊢;rcases h with h | h | h | h <;> simp[h])
   exact keep2 c o hcw (keep1 c o hcw e)
  ·rw[hit.1,←hit'.1]
   exact List.mem_map_of_mem hq
 ·intro i W ρ H fr fs s Q E le r ap hit hn post
  obtain⟨vs,e1,e⟩:=Zz0.mp hn
  obtain⟨us,e2,e⟩:=Zz0.mp e
  obtain⟨_,xs,k1,g1,v1⟩:=r.at e1 (le.at ea)
  obtain⟨_,ys,k2,g2,v2⟩:=r.at e2 (le.at eb)
  have hi:i=min vs.length us.length:=by
   split at e
   ·cases e
   ·split at e
    ·assumption
    ·cases e
  have st:ZS z TI TO i1 i2 l1 l2 i s.heap:=hit.2 _ fun q hq=>r.frAt (Zz4 _ hq)
  have Wk:=WalksT.zip2 (prog:=prog) (w:=w) (A:=Γ.A) Γ.hh z TI TO i1 i2 l1 l2 D xs.toArray ys.toArray
  have hm:min xs.toArray.size ys.toArray.size=i:=by simp[v1.length,v2.length,hi]
  refine Wk.done s Q E (by rw[hm];exact⟨st.1,st.2.1,st.2.2.1,st.2.2.2.1,st.2.2.2.2,⟨_,g1,rfl,k1,rfl⟩,⟨_,g2,rfl,k2,rfl⟩⟩) fun h' tk keep=>post h' tk ?_
  have:=r.swap (fs':=[]) (fun q hq t ht=>ap _ (hit.1▸List.mem_map_of_mem hq) t ht) (fun c o hc e=>keep c o (fun h=>hc (by rw[hit.1];simp at h ⊢;rcases h with h | h | h | h <;> simp[h])) e) (fun q hq=>nomatch hq)
  exact this
 ·intro i W ρ H fr fs s Q E o le r hit hn q
  obtain⟨vs,e1,e⟩:=Zz0.mp hn
  obtain⟨us,e2,e⟩:=Zz0.mp e
  obtain⟨_,xs,k1,g1,v1⟩:=r.at e1 (le.at ea)
  obtain⟨_,ys,k2,g2,v2⟩:=r.at e2 (le.at eb)
  have st:ZS z TI TO i1 i2 l1 l2 i s.heap:=hit.2 _ fun q hq=>r.frAt (Zz4 _ hq)
  have Wk:=WalksT.zip2 (prog:=prog) (w:=w) (A:=Γ.A) Γ.hh z TI TO i1 i2 l1 l2 D xs.toArray ys.toArray
  exact Wk.self i s Q E ⟨st.1,st.2.1,st.2.2.1,st.2.2.2.1,st.2.2.2.2,⟨_,g1,rfl,k1,rfl⟩,⟨_,g2,rfl,k2,rfl⟩⟩ q
theorem JI2.zip{x:Str}{np pos:Pos}{e1 e2:Expr}{f g:Ex}(hn:Nm prog w Γ x (.type "zip"))(h1:J prog w Γ e1 f)(h2:J prog w Γ e2 g)
  (he:starEach [e1,e2] Γ.env=(false,eval e1 Γ.env)::starEach [e2] Γ.env:=by rfl) (he2:starEach [e2] Γ.env=(false,eval e2 Γ.env)::starEach [] Γ.env:=by rfl) (hp:∀pos,(backTo pos (starEach [e2] Γ.env)).any (·.1)=false:=by intro _;rfl):JI2 prog w Γ (.Call (.Name x np) [e1,e2] [] pos) (Zc0 f g):=by
 intro W ρ H fr s Q E nx n H' r hf post
 obtain⟨p,a1,hf⟩:=Zz0.mp hf
 obtain⟨q,a2,hf⟩:=Zz0.mp hf
 refine wpAny_Call_ofName (hn.use r ?_)
 refine PySem.Pv.callWith_type1 (wpAny_items_cons (h1 W ρ H fr s _ E _ _ r a1 fun W1 k1 t1 y1 l1 r1 v1=>?_) he) he (hp pos)
 refine wpAny_items_cons (h2 W1 ρ _ fr _ _ E _ _ r1 a2 fun W2 k2 t2 y2 l2 r2 v2=>wpAny_items_nil ?_) he2
 have v1':=v1.mono l2
 obtain⟨u1,H1⟩:=p
 obtain⟨u2,H2⟩:=q
 simp only at hf v1' v2 r2
 cases u1 <;> first | (cases hf;done) | skip
 rename_i b1
 cases u2 <;> first | (cases hf;done) | skip
 rename_i b2
 obtain⟨vs,c1,hf⟩:=Zz0.mp hf
 obtain⟨us,c2,c3⟩:=Zz1.mp hf
 cases c3
 cases v1' with
 | @ref _ m1 ea=>
 cases v2 with
 | @ref _ m2 eb=>
 obtain⟨_,xs,n1,g1,w1⟩:=r2.at c1 ea
 obtain⟨_,ys,n2,g2,w2⟩:=r2.at c2 eb
 have isl1:k2.IsList m1 xs.toArray:=⟨_,g1,rfl,n1,rfl⟩
 have isl2:k2.IsList m2 ys.toArray:=⟨_,g2,rfl,n2,rfl⟩
 refine call_zip_2 (s:={ s with heap:=k2,toks:=t2 }) isl1 isl2 fun h₁ hz hTI hTO hi1 hi2 hsz up=>?_
 have ap:=zipApart_new (n:=k2.objs.size) (Heap.lt_size g1) (Heap.lt_size g2)
 have Wk:=WalksT.zip2 (prog:=prog) (w:=w) (A:=Γ.A) Γ.hh _ _ _ _ _ m1 m2 ap xs.toArray ys.toArray
 have zs:ZS (k2.objs.size+4) (k2.objs.size+2) (k2.objs.size+3) k2.objs.size (k2.objs.size+1) m1 m2 0 h₁:=⟨hz,hTI,⟨_,_,hTO⟩,hi1,hi2⟩
 refine Wk.self 0 _ _ _ ⟨hz,hTI,⟨_,_,hTO⟩,hi1,hi2,isl1.at fun o e=>up _ o e,isl2.at fun o e=>up _ o e⟩ ?_
 obtain⟨fs,hit,at'⟩:=Zo7 zs
 obtain⟨r3,ap3⟩:=r2.more (fs:=fs) (h':=h₁) (fun b o e=>up b o e) (fun q hq=>⟨at' q hq,by
  have:q.1∈fs.map (·.1):=List.mem_map_of_mem hq
  rw[hit.1]at this
  simp at this
  rcases this with e | e | e | e | e <;> rw[e] <;> omega⟩)
 refine post W2 h₁ t2 _ _ _ fs (l1.trans l2) hit r3 (fun b hb t ht=>?_) (ZvG ea eb ap) ?_
 ·rw[←hit.1]at hb
  obtain⟨q,hq,e⟩:=Zz11.mp hb
  exact e▸ap3 q hq t ht
 ·simp only[Zgw,c1,c2,Option.bind_some]
  split
  ·exact⟨_,rfl⟩
  ·rename_i hno
   have:0=min vs.length us.length:=by
    rcases Nat.eq_zero_or_pos vs.length with z | z
    ·rw[z];simp
    ·rcases Nat.eq_zero_or_pos us.length with z' | z'
     ·rw[z'];simp
     ·exact(hno vs[0] us[0] (by simp[z]) (by simp[z'])).elim
   rw[if_pos this]
   exact⟨_,rfl⟩
theorem Zuo{x1 x2:Str}{i1 i2 kt:Nat}{p1 p2 tp:Pos}(h1:Sto prog w Γ x1 i1)(h2:Sto prog w Γ x2 i2){W:Wd}{ρ:Lc}{H:Hp}{fr:List (Addr×Obj)}{s:Shared}{Q:Unit→Shared→Prop}{E:Value→Shared→Prop}{T:Addr}{y1 y2:Value}{a b:V}(r:Rep Γ W ρ H fr s.heap)(ht:IsTup s.heap T #[y1,y2])(v1:VR W a y1)(v2:VR W b y2)
  (post:∀(h':Heap) (tk':Nat),Rep Γ W (upd (upd ρ i1 a) i2 b) H fr h'→Q () { s with heap:=h',toks:=tk' }):wpAny (model prog w) Γ.A (assign (.Tuple [.Name x1 p1,.Name x2 p2] kt tp) Γ.env (.ref T)) Q E s:=by
 refine assign_Tuple_tuple Γ.hh ht rfl rfl fun g₄ he=>?_
 have r4:=r.grown (h':=g₄) fun b o e=>he b o (Nat.ne_of_lt (Heap.lt_size e)) e
 refine assignInOrder_cons (wpAny_assign_Name (h1 W ρ H fr _ _ _ a y1 r4 v1 fun k5 t5 r5=>?_))
 refine assignInOrder_cons (wpAny_assign_Name (h2 W _ H fr _ _ _ b y2 r5 v2 fun k6 t6 r6=>?_))
 exact assignInOrder_nil (post k6 t6 r6)
theorem Zei{x1 x2:Str}{i1 i2 kt:Nat}{p1 p2 tp pos:Pos}{it:Expr}{body:List Stmt}{g:Src}{b:Sm}(h1:Sto prog w Γ x1 i1)(h2:Sto prog w Γ x2 i2)(hg:JI2 prog w Γ it g)(hb:Ss prog w Γ body b)(hs:∀x,foldedSetIterable it Γ.env x=pure x:=by intro _;rfl):
  S1 prog w Γ (.For (.Tuple [.Name x1 p1,.Name x2 p2] kt tp) it body [] pos) (ZaZ g (Zb3 i1 i2) b):=by
 intro W ρ H fr s Q E r rp hf post
 obtain⟨z,e1,hf⟩:=Zz0.mp hf
 obtain⟨nx,n,H0⟩:=z
 refine wpAny_For (hg W ρ H fr s _ E nx n H0 rp e1 fun W1 k1 t1 itv as It fs l1 j1 r1 ap I1 _=>?_) hs
 refine codeAny_forLoop_any (fun k s'=>∃W' ρ' H' h' tk' j fs',s' = { s with heap:=h',toks:=tk' }∧W1.Le W'∧It j fs'∧Rep Γ W' ρ' H' (fs'++fr) h'∧Zdq nx (Zb3 i1 i2) b k j ρ' H'=some r) ?_ n ⟨W1,ρ,H0,k1,t1,0,fs,rfl,.refl _,j1,r1,hf⟩
 rintro k s' ⟨W2,ρ2,H2,k2,t2,j,fs2,rfl,l2,j2,r2,e⟩
 cases k with
 | zero=>cases e
 | succ k=>
  obtain⟨o,e2,e⟩:=Zz0.mp e
  cases o with
  | none=>
   cases e
   exact I1.done j W2 ρ2 H2 fr fs2 _ _ _ l2 r2 ap j2 e2 fun h' tk' r3=>wpAny_execs_nil (post W2 h' tk' (l1.trans l2) r3)
  | some v=>
   obtain⟨va,vb,ev⟩:=I1.pair j H2 v e2
   subst ev
   refine I1.item j W2 ρ2 H2 fr fs2 _ _ _ va vb l2 r2 ap j2 e2 fun T h3 t3 go=>?_
   obtain⟨ρ3,e3,e⟩:=Zz0.mp e
   cases e3
   obtain⟨q,e4,e⟩:=Zz0.mp e
   refine go _ _ _ _ _ _ rfl fun fs3 k3 y1 y2 j3 r3 ht w1 w2=>?_
   refine Zuo h1 h2 (s:={ s with heap:=k3,toks:=t3 }) r3 ht w1 w2 fun k4 t4 r4=>?_
   refine hb W2 _ H2 (fs3++fr) _ _ _ q r4 e4 ?_
   obtain⟨u,ρ5,H5⟩:=q
   cases u with
   | some u=>
    cases e
    exact fun W5 k5 t5 x5 l5 r5 v5=>post W5 k5 t5 x5 ((l1.trans l2).trans l5) (r5.less fun q hq=>List.mem_append_right _ hq) v5
   | none=>exact fun W5 k5 t5 l5 r5=>⟨k,Nat.lt_succ_self k,W5,ρ5,H5,k5,t5,j+1,fs3,rfl,l2.trans l5,j3,r5,e⟩
theorem ZnC{elt iter:Expr}{x x₂:Str}{px px₂ tp:Pos}{kt:Nat}{scope:Scope}{pos:Pos}{cl:List (Str×Addr)}{t t₂:Nat}{g:Src}{f:Ex}(hg:JI2 prog w Γ iter g)(hel:∀C ρ,J prog w (Za9 Γ scope cl C [(x,t),(x₂,t₂)] ρ) elt f)
  (hcell:∀y∈scope.names,y.2≠.cell) (hkind:scope.kind=.function) (hx:scope.names.lookup x=some .local) (hx₂:scope.names.lookup x₂=some .local) (hxx:x≠x₂) (htt:t≠t₂)
  {W:Wd} {ρ:Lc} {H:Hp} {fr:List (Addr×Obj)} {s:Shared} {E:Value→Shared→Prop} {q:List V×Hp} {RR:Value→Addr→Result→Shared→Prop} (r:Rep Γ W ρ H fr s.heap) (hf:((g ρ H).bind fun z=>ZcF z.1 (Zb3 t t₂) Zaw f ρ z.2.1 0 [] z.2.2)=some q)
  (hR:∀(W':Wd) (h':Heap) (tk':Nat) (C D:Addr) (oC:Obj) (m₂:Str→Option Value) (ys:List Value),W.Le W'→NsObj oC m₂→VRs W' q.1 ys→q.1.length≤LEN→(∀t∈fr,D≠t.1)→(∀t∈fr,C≠t.1)→C≠D→Rep Γ W' ρ q.2 ((C,oC)::(D,lst ys)::fr) h'→RR (.ref D) C (.ok .next) { s with heap:=h',toks:=tk' }):
  wpAny (model prog w) Γ.A (eval iter Γ.env) (fun xv s₁=>wpAny (model prog w) Γ.A (pyIter xv) (fun it s₂=>wpAny (model prog w) Γ.A (newList []) (fun acc s₃=>wpAny (model prog w) Γ.A (newFunctionEnv scope Γ.env.globals cl [] Γ.env.qual none .none (some Γ.env)) (fun cenv s₄=>
   codeAny (model prog w) Γ.A (.compStart (.ListComp elt [⟨.Tuple [.Name x px,.Name x₂ px₂] kt tp,iter,[],0⟩] scope pos) 0 it acc { cenv with scope:=relabel scope Γ.env }) (RR acc cenv.locals) s₄) E s₃) E s₂) E s₁) E s:=by
 obtain⟨z,e1,e2⟩:=Zz0.mp hf
 obtain⟨nx,n,H0⟩:=z
 refine hg W ρ H fr s _ E nx n H0 r e1 fun W1 k1 t1 itv as It fs l1 i1 r1 ap I1 hstart=>?_
 refine wpAny_newObj_type (wpAny_newFunctionEnv hcell (fun y hy=>by simp at hy) (fun h₂ hns hsb=>?_) hkind)
 dsimp only at hns hsb ⊢
 obtain⟨rD,aD⟩:=r1.more (fs:=[(k1.objs.size,lst [])]) (fun b o e=>Heap.get?_push_of_some (lst []) e) (fun q hq=>by rw[List.mem_singleton.mp hq];exact⟨Heap.get?_push_size _ rfl,Nat.le_refl _⟩)
 generalize eH:k1.push { cls:=.type "list",dict:=none,data:=.seq ([]:List Value).toArray } = K at hns hsb ⊢
 have eK:k1.push (lst [])=K:=eH
 rw[eK]at rD
 obtain⟨oC,gC,nC⟩:=ns_obj hns
 have up:∀b o,K.get? b=some o→h₂.get? b=some o:=fun b o e=>hsb.extBut b o (Nat.ne_of_lt (Heap.lt_size e)) (Heap.get?_push_of_some _ e)
 obtain⟨rC,aC⟩:=rD.more (fs:=[(K.objs.size,oC)]) up (fun q hq=>by rw[List.mem_singleton.mp hq];exact⟨gC,Nat.le_refl _⟩)
 have adr0:=I1.adr 0 fs i1
 have offs:∀b∈as,b≠k1.objs.size∧b≠K.objs.size:=fun b hb=>by
  rw[←adr0]at hb
  obtain⟨q,hq,e⟩:=Zz11.mp hb
  exact⟨e▸(aD _ Zz5 q (Zz4 _ hq)).symm,e▸(aC _ Zz5 q (Zz3 _ (Zz4 _ hq))).symm⟩
 have cd:K.objs.size≠k1.objs.size:=aC _ Zz5 (k1.objs.size,lst []) (Zz4 _ Zz5)
 have cfr:∀t∈fr,K.objs.size≠t.1:=fun t ht=>aC _ Zz5 t (Zz3 _ (Zz3 _ ht))
 have dfr:∀t∈fr,k1.objs.size≠t.1:=fun t ht=>aD _ Zz5 t (Zz3 _ ht)
 generalize k1.objs.size=D at *
 generalize K.objs.size=C at *
 have loop:∀s₃:Shared,s₃ = { s with heap:=h₂,toks:=t1+([]:List (Str×Value)).length } →
   codeAny (model prog w) Γ.A (.compLoop (.ListComp elt [⟨.Tuple [.Name x px,.Name x₂ px₂] kt tp,iter,[],0⟩] scope pos) 0 itv (.ref D) (compEnvC scope cl C Γ.env)) (RR (.ref D) C) s₃:=by
  intro s₃ hs₃
  subst hs₃
  refine codeAny_compLoop_pair (ZgG Γ W1 ρ fr C D It nx (Zb3 t t₂) Zaw f q s) ?_ n ⟨W1,H0,h₂,_,0,fs,[],[],oC,_,rfl,.refl _,i1,nC,.nil,Nat.zero_le _,rC,e2⟩
  rintro k s' ⟨W2,H2,k2,t2,j,fs2,acc,ys,oC2,m₂,rfl,l2,i2,hC2,hv2,hl2,r2,e⟩
  cases k with
  | zero=>cases e
  | succ k=>
   obtain⟨o,e4,e⟩:=Zz0.mp e
   have r2':Rep Γ W2 ρ H2 (fs2++((C,oC2)::(D,lst ys)::fr)) k2:=r2.less fun q hq=>by
    rcases Zz8.mp hq with hq | hq
    ·exact Zz2 _ (Zz2 _ (Zz4 _ hq))
    ·rcases Zz7.mp hq with e | hq
     ·exact e▸List.mem_cons_self
     ·rcases Zz7.mp hq with e | hq
      ·exact e▸List.mem_cons_of_mem _ Zz5
      ·exact Zz2 _ (Zz2 _ (Zz3 _ hq))
   have ap2:∀b∈as,∀t∈(C,oC2)::(D,lst ys)::fr,b≠t.1:=fun b hb t ht=>by
    rcases Zz7.mp ht with e | ht
    ·rw[e]
     exact(offs b hb).2
    ·rcases Zz7.mp ht with e | ht
     ·rw[e]
      exact(offs b hb).1
     ·exact ap b hb t ht
   cases o with
   | none=>
    cases e
    exact I1.done j W2 ρ H2 _ fs2 _ _ _ l2 r2' ap2 i2 e4 fun h' tk' r3=>hR W2 h' tk' C D oC2 m₂ ys (l1.trans l2) hC2 hv2 hl2 dfr cfr cd r3
   | some v=>
    obtain⟨va,vb,ev⟩:=I1.pair j H2 v e4
    subst ev
    refine I1.item j W2 ρ H2 _ fs2 _ _ _ va vb l2 r2' ap2 i2 e4 fun T h3 t3 go=>?_
    obtain⟨ρ3,e5,e⟩:=Zz0.mp e
    cases e5
    refine go _ _ _ _ _ _ rfl fun fs3 k3 y1 y2 i3 r3 htup w1 w2=>?_
    have a3:∀t∈fs3,t.1∈as:=fun t ht=>by
     rw[←I1.adr _ _ i3]
     exact List.mem_map_of_mem ht
    refine assign_Tuple_tuple (s:={ s with heap:=k3,toks:=t3 }) Γ.hh htup rfl rfl fun g₄ he=>?_
    have r3g:=r3.grown (h':=g₄) fun b o e=>he b o (Nat.ne_of_lt (Heap.lt_size e)) e
    have gC3:g₄.get? C=some oC2:=r3g.frAt (q:=(C,oC2)) (Zz3 _ Zz5)
    have nC3:g₄.Ns C m₂:=hC2.ns gC3
    refine assignInOrder_cons (wpAny_assign_Name (wpAny_storeName_local (lookup_relabel_local hx) nC3 (fun h5 hn5 sb5=>?_) (by simp[compEnvC,relabel,hkind])))
    refine assignInOrder_cons (wpAny_assign_Name (wpAny_storeName_local (lookup_relabel_local hx₂) hn5 (fun h4 hn4 sb4=>?_) (by simp[compEnvC,relabel,hkind])))
    refine assignInOrder_nil ?_
    obtain⟨oC4,gC4,nC4⟩:=ns_obj hn4
    have r3':Rep Γ W2 ρ H2 ([(C,oC2)]++((D,lst ys)::(fs3++fr))) g₄:=r3g.less fun q hq=>by
     rcases Zz8.mp hq with hq | hq
     ·rw[List.mem_singleton.mp hq]
      exact Zz3 _ Zz5
     ·rcases Zz7.mp hq with e | hq
      ·exact e▸List.mem_append_right _ (Zz2 _ Zz5)
      ·rcases Zz8.mp hq with hq | hq
       ·exact Zz4 _ hq
       ·exact Zz3 _ (Zz2 _ (Zz2 _ hq))
    have aC3:∀t∈(D,lst ys)::(fs3++fr),C≠t.1:=fun t ht=>by
     rcases Zz7.mp ht with e | ht
     ·rw[e]
      exact cd
     ·rcases Zz8.mp ht with ht | ht
      ·exact(offs _ (a3 t ht)).2.symm
      ·exact cfr t ht
    have aD3:∀t∈fs3++fr,D≠t.1:=fun t ht=>by
     rcases Zz8.mp ht with ht | ht
     ·exact(offs _ (a3 t ht)).1.symm
     ·exact dfr t ht
    have r4:Rep Γ W2 ρ H2 ([(C,oC4)]++((D,lst ys)::(fs3++fr))) h4:=by
     refine r3'.swap (fun q hq t ht=>?_) (fun b o hb e=>sb4.extBut b o (fun z=>hb (by simp[z,compEnvC])) (sb5.extBut b o (fun z=>hb (by simp[z,compEnvC])) e)) fun q hq=>?_
     ·rw[List.mem_singleton.mp hq]
      exact aC3 t ht
     ·rw[List.mem_singleton.mp hq]
      exact⟨gC4,by simp⟩
    have rc:=Zo6 (scope:=scope) (cl:=cl) (ts:=[(x,t),(x₂,t₂)]) (ρ:=upd (upd ρ t va) t₂ vb) r4 aC3 nC4 (fun p hp=>by
     rcases Zz7.mp hp with e | hp
     ·rw[e]
      exact⟨va,y1,by simp[upd,htt],by simp[hxx],w1⟩
     ·rw[List.mem_singleton.mp hp]
      exact⟨vb,y2,by simp[upd],by simp,w2⟩) (fun i hi=>by
     have h1:i≠t:=fun e=>hi (x,t) Zz5 e.symm
     have h2:i≠t₂:=fun e=>hi (x₂,t₂) (Zz2 _ Zz5) e.symm
     simp[upd,h1,h2])
    exact Zn1 (hel C ρ) aD3 cd l2 i3 hv2 rc e
 refine codeAny_compStart_list (loop _ rfl) ?_
 obtain⟨o0,ho0⟩:=hstart
 exact I1.self 0 W1 ρ H0 (([(C,oC)]++[(D,lst [])])++fr) fs _ _ _ o0 (.refl _) (rC.less fun q hq=>by
  rcases Zz8.mp hq with hq | hq
  ·exact Zz3 _ (Zz3 _ (Zz4 _ hq))
  ·rcases Zz8.mp hq with hq | hq
   ·rcases Zz8.mp hq with hq | hq
    ·exact Zz4 _ hq
    ·exact Zz3 _ (Zz4 _ hq)
   ·exact Zz3 _ (Zz3 _ (Zz3 _ hq))) i1 ho0 (loop _ rfl)
theorem Zup{elt iter:Expr}{x x₂:Str}{px px₂ tp:Pos}{kt:Nat}{scope:Scope}{pos:Pos}{cl:List (Str×Addr)}{t t₂:Nat}{g:Src}{f:Ex}(hg:JI2 prog w Γ iter g)(hel:∀C ρ,J prog w (Za9 Γ scope cl C [(x,t),(x₂,t₂)] ρ) elt f)
  (hclos:closureFor scope Γ.env=pure cl) (hcell:∀y∈scope.names,y.2≠.cell) (hkind:scope.kind=.function) (hnames:∀y∈scope.names,y.2=.local→scope.names.lookup y.1=some .local) (hx:scope.names.lookup x=some .local) (hx₂:scope.names.lookup x₂=some .local) (hxx:x≠x₂) (htt:t≠t₂) (hs:∀x,foldedSetIterable iter Γ.env x=pure x:=by intro _;rfl):
  J prog w Γ (.ListComp elt [⟨.Tuple [.Name x px,.Name x₂ px₂] kt tp,iter,[],0⟩] scope pos) (ZaH g (Zb3 t t₂) Zaw f):=by
 intro W ρ H fr s Q E v H' r hf post
 obtain⟨z,e1,hf⟩:=Zz0.mp hf
 obtain⟨q,e2,e3⟩:=Zz1.mp hf
 cases e3
 rw[eval_ListComp]
 refine wpAny_comprehension_free (use:=Option.none) rfl hs hclos hkind hnames ?_
 refine ZnC (RR:=fun acc C=>compPost (model prog w) Γ.A E Option.none Q acc C) hg hel hcell hkind hx hx₂ hxx htt r (q:=q) (by rw[e1];exact e2) fun W2 h' tk' C D oC m₂ ys l2 hC hv hl aD aC cd r3=>?_
 refine⟨m₂,hC.ns (r3.frAt (q:=(C,oC)) Zz5),fun h'' sb=>?_⟩
 obtain⟨W5,l5,r5,v5⟩:=Zor hv hl aD aC cd r3 sb
 exact post W5 h'' tk' _ (l2.trans l5) r5 v5
end
end PM
end
section
set_option autoImplicit false
namespace PM
open PySem PySem.W PySem.Calls PyProof.Rows PyProof PySem.Spec
theorem ZvH{prog:Program}{w:World}{A A₀:Around}{s:Shared}{base h₀:Heap}{L:Addr}{m:Str→Option Value}{lent:List (Addr×Obj)}{K:Frag}{p:Program}{loose:List Str}{mean:ExcName→Option Value}{mg mb:Str→Option Value}
  {env:Env} {outer:List Env} {R:Result→Shared→Prop} {name qual:Str} {params:Arguments} {body:List Stmt} {scope:Scope} {dV kV doc pm cdv ct oc:Value} {an od:Option Addr} {osl:Array (Option Value)} {f:Addr} {args:Args} {binds:List (Str×Value)}
  (B:Below A₀ base outer h₀) (F:Fr h₀ L s.heap m) (X₀:K.In h₀) (N:News h₀ L s.heap lent) (T:Top p loose mean mg mb h₀) (hA:A.frames=some (env::outer)) (hf:env.frame=some L) (hke:env.scope.kind=.function)
  (ho:K.lookup f=some ⟨oc,od,.func (fnOf name qual params body scope dV kV doc pm an cdv ct),osl⟩) (hcd:codeIn K cdv qual=true) (hroom:A.depth<recursionLimit)
  (hbind:BindsTo s (fnOf name qual params body scope dV kV doc pm an cdv ct) args binds) (hall:(binds.all fun y=>scope.names.lookup y.1 == some .local || scope.names.lookup y.1 == some .cell)=true) (hone:((cellsFrom 0 scope.names []).map (·.1)).Nodup)
  (h:∀g L' h₁ tk cells,(∀b o,s.heap.get? b=some o→b∉lent.map (·.1)→g.get? b=some o)→Fr g L' h₁ (bindL (envOfC qual scope L' f cdv).kindOf binds fun _=>none)→News g L' h₁ (cells++lent)→CellsAre (bindC (envOfC qual scope L' f cdv).kindOf binds fun _=>none) (cellsFrom (L'+1) scope.names []) cells →
   (cellsFrom (L'+1) scope.names []).Pairwise (fun x y=>x.2≠y.2)→(∀n c,(n,c)∈cellsFrom (L'+1) scope.names []→L'<c)→Below A base (env::outer) g→K.In g→Top p loose mean mg mb g→(∀q∈lent,q.1<L')→s.heap.objs.size≤L' →
   wpAny (model prog w) (A.deeper (envOfC qual scope L' f cdv)) (execs body (envOfC qual scope L' f cdv)) (fun fl s'=>LeaveK h₀ L m g R (match fl with | .ret v=>v | _=>.none) s')
    (fun e s'=>wpAny (model prog w) (A.deeper (envOfC qual scope L' f cdv)) (leaving (envOfC qual scope L' f cdv) e) (fun _ s''=>R (.error e) s'') (fun e' s''=>R (.error e') s'') s') { s with heap:=h₁,toks:=tk })
  (hco:scope.isCoroutine=false) (hgen:scope.isGenerator=false) (hk:scope.kind=.function):codeAny (model prog w) A (.call (.ref f) args) R s:=by
 obtain⟨FG,BG,st,lv⟩:=groundX (R:=R) B F N hA hf hke
 have X:=X₀.keeps F.keep
 refine codeAny_call_function (fd:=fnOf name qual params body scope dV kV doc pm an cdv ct) hroom (X _ _ ho) rfl hco hgen rfl (codeRec_of X hcd) (hbind _ _ _ _ ?_)
 refine wpAny_newFunctionEnv_cells hk (kindsX hall _) fun fresh hfr s' inC=>?_
 subst hfr
 have up:=inC.toInCall.keep
 refine⟨(T.nolimit.keeps F.keep).keeps up,codeAny_func ?_⟩
 obtain⟨h₁,tk,hs',_⟩:=inC.done
 subst hs'
 have nod:=cellsFrom_names scope.names 0 (s.heap.objs.size+1) [] [] rfl▸hone
 obtain⟨cells,NC,Y⟩:=Cl.news (h₀:=s.heap) (L:=s.heap.objs.size) (Zz10 _) fun n c hm=>⟨inC.cell n c (lookup_of_mem_nodup nod hm),inC.above n c hm⟩
 have old:∀q∈lent,q.1<s.heap.objs.size:=fun q hq=>Heap.lt_size (N q hq).1
 refine wpAny_mono (h _ s.heap.objs.size h₁ tk cells (fun b o e nb=>hideAll_get _ e nb) ⟨inC.toInCall.ns,fun b o e=>up b o (of_hideAll _ e),Nat.le_of_eq (hideAll_size _ _)⟩ (fun q hq=>?_) Y inC.apart inC.above BG (X₀.keeps st) (T.keeps st) old (Zz10 _)) (fun fl s' hl=>lv _ _ hl) fun _ _ y=>y
 rcases Zz8.mp hq with hq | hq
 ·obtain⟨c1,c2,c3⟩:=NC q hq
  refine⟨c1,c2,?_⟩
  cases e:(hideAll s.heap (lent.map (·.1))).get? q.1 with
  | none=>rfl
  | some o=>
   have z:=of_hideAll _ e
   rw[c3]at z
   cases z
 ·exact⟨up _ _ (N q hq).1,Nat.ne_of_lt (old q hq),hideAll_none _ (List.mem_map_of_mem hq)⟩
section
variable (prog:Program) (w:World) (K:Frag) (p:Program) (loose:List Str) (mean:ExcName→Option Value) (mg mb:Str→Option Value)
noncomputable def Clr(Γ:Cx)(dp un:Nat): Prop:=∃(gd:Option (List Code)) (cn:Str) (cs:Scope) (a:Addr) (ccd:Value) (cl:List (Str×Addr)) (outer:List Env) (A₀:Around) (base:Heap),
 Γ.A=ktrTop dp un gd cn cs Γ.L a ccd cl outer∧Below A₀ base outer Γ.h₀∧K.In Γ.h₀∧Top p loose mean mg mb Γ.h₀∧cs.kind=.function
noncomputable def Def(f:Addr)(room:Nat)(F:List V→Hp→Option (V×Hp)): Prop:=∀(Γ:Cx) (dp un:Nat),Clr K p loose mean mg mb Γ dp un→dp+room<recursionLimit→un+10*room+300<cLine →
 ∀(W:Wd) (ρ:Lc) (H:Hp) (fr:List (Addr×Obj)) (s:Shared) (Q E:Value→Shared→Prop) (as:List V) (xs:List Value) (v:V) (H':Hp),
  Rep Γ W ρ H fr s.heap→VRs W as xs→F as H=some (v,H')→ZgE Γ W ρ H' fr s Q v→wpAny (model prog w) Γ.A (call (.ref f) xs) Q E s
end
noncomputable def Z3(n:Nat)(g:Sm): List V→Hp→Option (V×Hp):=fun as H=>if as.length=n then(g (fun i=>as[i]?) H).map fun r=>((r.1.getD .none),r.2.2)else none
theorem ZsK{kindOf:Str→Option NameKind}: ∀{ps:List Str} {xs:List Value} {m:Str→Option Value} {x:Str} {i:Nat} {y:Value},ps.Nodup→ps[i]?=some x→xs[i]?=some y→kindOf x=some .local→bindL kindOf (ps.zip xs) m x=some y:=by
 have skip:∀{ps:List Str} {xs:List Value} {m:Str→Option Value} {x:Str},x∉ps→bindL kindOf (ps.zip xs) m x=m x:=by
  intro ps
  induction ps with
  | nil=>intro xs m x _;rfl
  | cons p ps ih=>
   intro xs m x hx
   cases xs with
   | nil=>rfl
   | cons z xs=>
    simp only[List.zip_cons_cons,bindL]
    rw[ih (fun h=>hx (Zz2 _ h))]
    have:x≠p:=fun e=>hx (e▸List.mem_cons_self)
    split <;> simp[this]
 intro ps
 induction ps with
 | nil=>intro xs m x i y _ h;simp at h
 | cons p ps ih=>
  intro xs m x i y nd hp hx hk
  cases xs with
  | nil=>simp at hx
  | cons z xs=>
   obtain⟨n1,n2⟩:=List.nodup_cons.mp nd
   cases i with
   | zero=>
    simp at hp hx
    subst hp hx
    simp only[List.zip_cons_cons,bindL]
    rw[skip n1,if_pos hk]
    simp
   | succ i=>
    simp at hp hx
    simp only[List.zip_cons_cons,bindL]
    exact ih n2 hp hx hk
theorem ZsL{kindOf:Str→Option NameKind}: ∀{ps:List Str} {xs:List Value} {m:Str→Option Value} {x:Str} {i:Nat} {y:Value},ps.Nodup→ps[i]?=some x→xs[i]?=some y→kindOf x=some .cell→bindC kindOf (ps.zip xs) m x=some y:=by
 have skip:∀{ps:List Str} {xs:List Value} {m:Str→Option Value} {x:Str},x∉ps→bindC kindOf (ps.zip xs) m x=m x:=by
  intro ps
  induction ps with
  | nil=>intro xs m x _;rfl
  | cons p ps ih=>
   intro xs m x hx
   cases xs with
   | nil=>rfl
   | cons z xs=>
    simp only[List.zip_cons_cons,bindC]
    rw[ih (fun h=>hx (Zz2 _ h))]
    have:x≠p:=fun e=>hx (e▸List.mem_cons_self)
    split <;> simp[this]
 intro ps
 induction ps with
 | nil=>intro xs m x i y _ h;simp at h
 | cons p ps ih=>
  intro xs m x i y nd hp hx hk
  cases xs with
  | nil=>simp at hx
  | cons z xs=>
   obtain⟨n1,n2⟩:=List.nodup_cons.mp nd
   cases i with
   | zero=>
    simp at hp hx
    subst hp hx
    simp only[List.zip_cons_cons,bindC]
    rw[skip n1,if_neg (by rw[hk];simp)]
    simp
   | succ i=>
    simp at hp hx
    simp only[List.zip_cons_cons,bindC]
    exact ih n2 hp hx hk
theorem Zf6{cm:Str→Option Value}: ∀{cs:List (Str×Addr)} {cells:List (Addr×Obj)} {x:Str} {c:Addr},CellsAre cm cs cells→(x,c)∈cs→∃o,(c,o)∈cells∧o.data=.cell (cm x)
 | _,_,_,_,.nil,h=>nomatch h
 | _,_,_,_,.cons hd r,h=>by
  rcases Zz7.mp h with e | h
  ·cases e
   exact⟨_,List.mem_cons_self,hd⟩
  ·obtain⟨o,h1,h2⟩:=Zf6 r h
   exact⟨o,List.mem_cons_of_mem _ h1,h2⟩
theorem Zo8{cm:Str→Option Value}: ∀{cs:List (Str×Addr)} {cells:List (Addr×Obj)} {q:Addr×Obj},CellsAre cm cs cells→q∈cells→∃x,(x,q.1)∈cs
 | _,_,_,.nil,h=>nomatch h
 | _,_,_,.cons hd r,h=>by
  rcases Zz7.mp h with e | h
  ·cases e
   exact⟨_,List.mem_cons_self⟩
  ·obtain⟨x,h1⟩:=Zo8 r h
   exact⟨x,List.mem_cons_of_mem _ h1⟩
theorem Zdy{α β:Type}[BEq α][LawfulBEq α]: ∀{l:List (α×β)} {x:α} {y:β},l.lookup x=some y→(x,y)∈l
 | [],_,_,h=>by simp at h
 | (a,b)::r,x,y,h=>by
  rw[List.lookup_cons]at h
  split at h
  ·rename_i e
   cases h
   have:=eq_of_beq e
   subst this
   exact Zz5
  ·exact Zz2 _ (Zdy h)
end PM
end
section
set_option autoImplicit false
namespace PM
open PySem PySem.W PySem.Calls PyProof.Rows PyProof PySem.Spec
section
variable {prog:Program} {w:World} {K:Frag} {p:Program} {loose:List Str} {mean:ExcName→Option Value} {mg mb:Str→Option Value}
theorem ZpK{name qual:Str}{params:Arguments}{body:List Stmt}{scope:Scope}{dV kV doc pm cdv ct oc:Value}{an od:Option Addr}{osl:Array (Option Value)}{f:Addr}{names:List Str}{n room:Nat}{g:Sm}
  (ho:K.lookup f=some ⟨oc,od,.func (fnOf name qual params body scope dV kV doc pm an cdv ct),osl⟩) (hcd:codeIn K cdv qual=true) (nd:names.Nodup) (hn:n≤names.length)
  (hbind:∀s xs,xs.length=n→BindsTo s (fnOf name qual params body scope dV kV doc pm an cdv ct) ⟨xs,[]⟩ ((names.take n).zip xs)) (hkinds:∀x∈names.take n,scope.names.lookup x=some .local∨scope.names.lookup x=some .cell) (hone:((cellsFrom 0 scope.names []).map (·.1)).Nodup)
  (hco:scope.isCoroutine=false) (hgen:scope.isGenerator=false) (hk:scope.kind=.function)
  (hbody:∀(dp un:Nat) (gd:Option (List Code)) (L:Addr) (outer:List Env) (h₀:Heap) (hu:un+200<cLine),Clr K p loose mean mg mb (ZbF dp un gd qual scope L f cdv (cellsFrom (L+1) scope.names []) outer h₀ hu names) dp un→dp+room<recursionLimit→un+10*room+300<cLine →
   Ss prog w (ZbF dp un gd qual scope L f cdv (cellsFrom (L+1) scope.names []) outer h₀ hu names) body g):
  Def prog w K p loose mean mg mb f (room+1) (Z3 n g):=by
 intro Γ dp un clr hd hu W ρ H fr s Q E as xs v H' r hx hF post
 obtain⟨gd,cn,cs,a,ccd,cl,outer,A₀,base,eA,B,X,T,hke⟩:=clr
 unfold Z3 at hF
 split at hF
 ·rename_i hlen
  obtain⟨res,e1,e2⟩:=Zz1.mp hF
  obtain⟨o,ρ',K'⟩:=res
  cases e2
  obtain⟨m,c,led,r⟩:=r
  have hxl:xs.length=n:=by rw[hx.length,hlen]
  have inn:∀q∈led,(q.1∈W.pi∨q.1∈W.tups.map (·.1))↔q∈led.filter (fun q=>decide (q.1∈W.pi∨q.1∈W.tups.map (·.1))):=fun q hq=>⟨fun h=>List.mem_filter.mpr ⟨hq,by simpa using h⟩,fun h=>by simpa using (List.mem_filter.mp h).2⟩
  have isub:∀q∈led.filter (fun q=>decide (q.1∈W.pi∨q.1∈W.tups.map (·.1))),q∈led:=fun q hq=>(List.mem_filter.mp hq).1
  generalize hlent:led.filter (fun q=>decide (q.1∈W.pi∨q.1∈W.tups.map (·.1)))=lent at inn isub
  have notin:∀q∈led,q.1∉W.pi→(∀t∈W.tups,q.1≠t.1)→q.1∉lent.map (·.1):=fun q hq h1 h2 h3=>by
   obtain⟨t,ht,e⟩:=Zz11.mp h3
   rcases(inn t (isub t ht)).mpr ht with z | z
   ·exact h1 (e▸z)
   ·obtain⟨u,hu,e'⟩:=Zz11.mp z
    exact h2 u hu (e▸e'.symm)
  rw[eA]
  refine wpAny_call ?_
  refine ZvH (env:=envX cn cs Γ.L a ccd cl) (lent:=lent) B r.F X (fun q hq=>r.N q (isub q hq)) T rfl rfl hke ho hcd (by show dp<recursionLimit;omega) (hbind s xs hxl) ?_ hone ?_ hco hgen hk
  ·refine List.all_eq_true.mpr fun y hy=>?_
   rcases hkinds y.1 (List.of_mem_zip hy).1 with h | h <;> simp[h]
  intro g0 L' h₁ tk cells stay F' N' Y ap ab B' X' T' old szL
  have hu':(un+3)+200<cLine:=by omega
  have clr':Clr K p loose mean mg mb (ZbF (dp+1) (un+3) gd qual scope L' f cdv (cellsFrom (L'+1) scope.names []) (envX cn cs Γ.L a ccd cl::outer) g0 hu' names) (dp+1) (un+3):=
   ⟨gd,qual,scope,f,cdv,cellsFrom (L'+1) scope.names [],envX cn cs Γ.L a ccd cl::outer,_,base,rfl,B',X',T',hk⟩
  have below:∀q∈cells,L'<q.1:=fun q hq=>by
   obtain⟨x,hx⟩:=Zo8 Y hq
   exact ab x _ hx
  have piLt:∀b∈W.pi,b<L':=fun b hb=>by
   obtain⟨o,ho⟩:=r.piIn b hb
   exact Nat.lt_of_lt_of_le (Heap.lt_size (r.get ho)) szL
  have tuLt:∀t∈W.tups,t.1<L':=fun t ht=>Nat.lt_of_lt_of_le (Heap.lt_size (r.get (r.R.tups t ht))) szL
  have scN:W.sc.1∉lent.map (·.1):=fun z=>by
   obtain⟨t,ht,e⟩:=Zz11.mp z
   exact r.notSc t (isub t ht) e
  have tkn:∀{i:Nat} {x:Str} {u:V},names[i]?=some x→as[i]?=some u→(names.take n)[i]?=some x∧∃y,xs[i]?=some y∧VR W u y:=fun {i x u} h1 h2=>by
   have hi:i<n:=by rw[←hlen];exact(Zz6.mp h2).1
   exact⟨by rw[List.getElem?_take_of_lt hi];exact h1,hx.at h2⟩
  have ndt:(names.take n).Nodup:=nd.sublist (List.take_sublist _ _)
  have rep:Rep (ZbF (dp+1) (un+3) gd qual scope L' f cdv (cellsFrom (L'+1) scope.names []) (envX cn cs Γ.L a ccd cl::outer) g0 hu' names) W (fun i=>as[i]?) H [] h₁:=by
   refine⟨_,cells,cells++lent,⟨F',N',⟨r.R.len,r.R.nd,fun i vs e=>?_,fun q hq=>?_,r.R.kind⟩,stay _ _ (r.F.keep _ _ r.sc) scN,r.sc0,fun q hq=>(nomatch hq),fun q hq=>(nomatch hq),fun q hq=>List.mem_append_left _ hq,fun q hq z=>?_,fun q _ t ht=>(nomatch ht),fun q hq=>(nomatch hq),fun q hq t ht=>?_,⟨fun i x u hi hk1 hu1=>?_,fun i x u hi hk1 hu1=>?_,fun x c1 hc=>?_,fun x y c1 h1 h2=>?_⟩⟩⟩
   ·obtain⟨l,b,ys,k,h1,h2,h3⟩:=r.R.lists i vs e
    exact⟨l,b,ys,k,h1,Zd3 h2 fun z=>List.mem_append_right _ ((inn _ z).mp (.inl (List.mem_of_getElem? h1))),h3⟩
   ·exact Zd3 (r.R.tups q hq) fun z=>List.mem_append_right _ ((inn _ z).mp (.inr (List.mem_map_of_mem hq)))
   ·exact absurd (Nat.lt_trans (piLt _ z) (below q hq)) (Nat.lt_irrefl _)
   ·exact Nat.ne_of_gt (Nat.lt_trans (tuLt t ht) (below q hq))
   ·obtain⟨h1,y,h2,h3⟩:=tkn hi hu1
    exact⟨y,ZsK ndt h1 h2 hk1,h3⟩
   ·obtain⟨h1,y,h2,h3⟩:=tkn hi hu1
    have hs:=cellsFrom_some scope.names (L'+1) [] (.inl hk1)
    obtain⟨c1,hc1⟩:=Option.isSome_iff_exists.mp hs
    obtain⟨o1,ho1,hd1⟩:=Zf6 Y (Zdy hc1)
    refine⟨c1,o1,y,hc1,ho1,?_,h3⟩
    rw[hd1,ZsL ndt h1 h2 hk1]
   ·obtain⟨o1,ho1,hd1⟩:=Zf6 Y (Zdy hc)
    exact⟨o1,_,ho1,hd1⟩
   ·exact name_of_addr ap (Zdy h1) (Zdy h2)
  have hb:=hbody (dp+1) (un+3) gd L' (envX cn cs Γ.L a ccd cl::outer) g0 hu' clr' (by omega) (by omega)
  have back:∀(W':Wd) (h':Heap) (tk':Nat) (x:Value),W.Le W'→Rep (ZbF (dp+1) (un+3) gd qual scope L' f cdv (cellsFrom (L'+1) scope.names []) (envX cn cs Γ.L a ccd cl::outer) g0 hu' names) W' ρ' K' [] h'→VR W' (o.getD .none) x →
    LeaveK Γ.h₀ Γ.L m g0 (fun r s'=>match r with | .ok (.ret v)=>Q v s' | .ok _=>False | .error e=>E e s') x { s with heap:=h',toks:=tk' }:=by
   intro W' h' tk' x l' r' x'
   obtain⟨m',c',led',r'⟩:=r'
   refine⟨L',m',led',r'.F,r'.N,fun FG NG=>post W' h' tk' x l' ?_ x'⟩
   have g0at:∀q∈led,q.1∉lent.map (·.1)→g0.get? q.1=some q.2:=fun q hq hn=>stay _ _ (r.N q hq).1 hn
   have frN:∀q∈fr,q.1∉lent.map (·.1):=fun q hq=>notin q (r.frIn q hq) (r.frOff q hq) (r.frTup q hq)
   have clN:∀q∈c,q.1∉lent.map (·.1):=fun q hq=>notin q (r.clIn q hq) (r.clOff q hq) (r.clTup q hq)
   have newN:∀t∈led',g0.get? t.1=none:=fun t ht=>(r'.N t ht).2.2
   have far:∀q∈led,q.1∉lent.map (·.1)→∀t∈W'.sc::led',q.1≠t.1:=fun q hq hn t ht e=>by
    rcases Zz7.mp ht with e2 | ht
    ·rw[e2,l'.sc]at e
     exact r.notSc q hq e
    ·have:=g0at q hq hn
     rw[e,newN t ht]at this
     cases this
   have farPi:∀q∈led,q.1∉lent.map (·.1)→q.1∉W'.pi:=fun q hq hn z=>by
    obtain⟨o2,h2⟩:=r'.piIn _ z
    exact far q hq hn _ h2 rfl
   have keep:∀q∈led,q.1∉lent.map (·.1)→q∈led'++led.filter (fun q=>decide (q.1∉lent.map (·.1))):=fun q hq hn=>List.mem_append_right _ (List.mem_filter.mpr ⟨hq,by simpa using hn⟩)
   refine⟨m,c,led'++led.filter (fun q=>decide (q.1∉lent.map (·.1))),⟨FG,fun q hq=>?_,r'.R.mono fun q hq=>Ze9 hq fun x hx=>List.mem_append_left _ hx,l'.sc▸r.sc,r'.sc0,fun q hq=>keep q (r.frIn q hq) (frN q hq),fun q hq=>farPi q (r.frIn q hq) (frN q hq),fun q hq=>keep q (r.clIn q hq) (clN q hq),fun q hq=>farPi q (r.clIn q hq) (clN q hq),r.apart,fun q hq t ht=>far q (r.frIn q hq) (frN q hq) t (r'.R.tups t ht),fun q hq t ht=>far q (r.clIn q hq) (clN q hq) t (r'.R.tups t ht),Γ.mono l' r.own⟩⟩
   rcases Zz8.mp hq with hq | hq
   ·exact NG q hq
   ·obtain⟨h1,h2⟩:=List.mem_filter.mp hq
    exact⟨r'.F.keep _ _ (g0at q h1 (by simpa using h2)),(r.N q h1).2⟩
  refine hb W _ H [] _ _ _ (o,ρ',K') rep e1 ?_
  cases o with
  | none=>exact fun W' h' tk' l' r'=>back W' h' tk' .none l' r' .none
  | some v0=>exact fun W' h' tk' x l' r' x'=>back W' h' tk' x l' r' x'
 ·cases hF
theorem Zuq{Γ:Cx}{dp un:Nat}{x:Str}{np pos:Pos}{f:Addr}{room:Nat}{e:Expr}{es:List Expr}{g:Exs}{o:List V→Hp→Option (V×Hp)}(clr:Clr K p loose mean mg mb Γ dp un)(hn:Nm prog w Γ x (.ref f))(hkeep:keepIn K (.ref f)=true)(D:Def prog w K p loose mean mg mb f room o)(hd:dp+room<recursionLimit)(hu:un+10*room+300<cLine)
  (h:Js prog w Γ (e::es) g) (he:starEach (e::es) Γ.env=(false,eval e Γ.env)::starEach es Γ.env:=by rfl) (hp:∀pos,(backTo pos (starEach es Γ.env)).any (·.1)=false:=by intro _;rfl):J prog w Γ (.Call (.Name x np) (e::es) [] pos) (Zu o g):=by
 intro W ρ H fr s Q E v H' r hf post
 obtain⟨q,e1,hf⟩:=Zz0.mp hf
 have X:K.In Γ.h₀:=by
  obtain⟨_,_,_,_,_,_,_,_,_,_,_,X,_⟩:=clr
  exact X
 refine wpAny_Call_ofName (hn.use r ?_)
 refine callWith_K (first:=[]) X hkeep (h pos W ρ H fr s _ E _ _ r e1 fun W1 k1 t1 xs l1 r1 x1=>⟨?_,?_⟩) he (hp pos)
 ·obtain⟨m,c,led,r1⟩:=r1
  exact X.keeps r1.F.keep
 ·exact D Γ dp un clr hd hu W1 ρ _ fr _ Q E _ xs v H' r1 x1 hf fun W2 k2 t2 y l2 r2 y2=>post W2 k2 t2 y (l1.trans l2) r2 y2
theorem ZbK{Γ:Cx}{dp un:Nat}{scope:Scope}{cl:List (Str×Addr)}{C:Addr}{ts:List (Str×Nat)}{ρ0:Lc}(h:Clr K p loose mean mg mb Γ dp un): Clr K p loose mean mg mb (Za9 Γ scope cl C ts ρ0) dp un:=h
end
end PM
end
section
set_option autoImplicit false
namespace PM
open PySem PySem.W PySem.Calls PyProof.Rows PyProof PySem.Spec
theorem Zi6{lo:Nat}: ∀(names:List (Str×NameKind)) (n:Nat) (acc:List (Str×Addr)),acc.Pairwise (fun x y=>x.2≠y.2)→(∀q∈acc,lo<q.2∧q.2<n)→lo<n→(cellsFrom n names acc).Pairwise (fun x y=>x.2≠y.2)∧∀q∈cellsFrom n names acc,lo<q.2
 | [],n,acc,h1,h2,_=>⟨h1,fun q hq=>(h2 q hq).1⟩
 | (y,k)::r,n,acc,h1,h2,h3=>by
  unfold cellsFrom
  by_cases hk:(k == .cell)=true
  ·rw[if_pos hk]
   refine Zi6 r (n+1) ((y,n)::acc) (List.pairwise_cons.mpr ⟨fun q hq=>Nat.ne_of_gt (h2 q hq).2,h1⟩) (fun q hq=>?_) (Nat.lt_succ_of_lt h3)
   rcases Zz7.mp hq with e | hq
   ·rw[e]
    exact⟨h3,Nat.lt_succ_self n⟩
   ·exact⟨(h2 q hq).1,Nat.lt_succ_of_lt (h2 q hq).2⟩
  ·rw[if_neg hk]
   exact Zi6 r n acc h1 h2 h3
theorem ZsM{P:Params}{h:Heap}{a:Addr}{ns:List Int}(w1:Well P h (.ref a) (ofPy (.list (ns.map PyData.int))))(W:Wd): ∃vs,h.get? a=some (ZbO vs 0)∧VRs W (ns.map V.int) vs:=by
 have key:∀{ns:List Int} {vs:List Value} {xs:List WData},xs=(ns.map PyData.int).map ofPy→WellAll P h vs xs→VRs W (ns.map V.int) vs:=by
  intro ns
  induction ns with
  | nil=>intro vs xs e h;subst e;cases h;exact .nil
  | cons n ns ih=>
   intro vs xs e h
   subst e
   cases h with
   | cons h1 h2=>
    cases h1 with
    | int i t=>exact .cons (.int _ _) (ih rfl h2)
 have e:ofPy (.list (ns.map PyData.int))=.list ((ns.map PyData.int).map ofPy):=by rw[ofPy,ofPys_eq]
 rw[e]at w1
 cases w1 with
 | list hg ha=>exact⟨_,hg,key rfl ha⟩
section
variable {prog:Program} {w:World} {K:Frag} {p:Program} {loose:List Str} {mean:ExcName→Option Value} {mg mb:Str→Option Value}
theorem Zur{P:Params}{h₀:Heap}{s:Shared}{sa fa:Addr}{cd:Value}{ns:List Int}{qual pname:Str}{scope:Scope}{body:List Stmt}{names:List Str}{g:Sm}{cells:List (Addr×Obj)}{Q:Flow→Shared→Prop}{E:Value→Shared→Prop}{room:Nat}{H':Hp}
  (hbody:∀(dp un:Nat) (gd:Option (List Code)) (L a:Addr) (ccd:Value) (outer:List Env) (h₀:Heap) (hu:un+200<cLine),Clr K p loose mean mg mb (ZbF dp un gd qual scope L a ccd (cellsFrom (L+1) scope.names []) outer h₀ hu names) dp un→dp+room<recursionLimit→un+10*room+300<cLine →
   Ss prog w (ZbF dp un gd qual scope L a ccd (cellsFrom (L+1) scope.names []) outer h₀ hu names) body g)
  (hd:callerA.depth+1+room<recursionLimit) (hun:callerA.units+3+10*room+300<cLine) (hk:scope.kind=.function) (h0:names[0]?=some pname)
  (KX:K.In h₀) (T:Top p loose mean mg mb h₀) (w1:Well P h₀ (.ref sa) (ofPy (.list (ns.map PyData.int)))) (hlen:ns.length≤LEN)
  (F:Fr h₀ h₀.objs.size s.heap (bindL (envOfC qual scope h₀.objs.size fa cd).kindOf [(pname,.ref sa)] fun _=>none)) (N:News h₀ h₀.objs.size s.heap cells) (X0:CellsAre (bindC (envOfC qual scope h₀.objs.size fa cd).kindOf [(pname,.ref sa)] fun _=>none) (cellsFrom (h₀.objs.size+1) scope.names []) cells)
  (hg:Z3 1 g [.ref 0] [ns.map V.int]=some (.bool true,H')) (post:∀h' tk' m',Fr h₀ h₀.objs.size h' m'→Q (.ret (.bool true)) { s with heap:=h',toks:=tk' }):
  wpAny (model prog w) (callerA.deeper (envOfC qual scope h₀.objs.size fa cd)) (execs body (envOfC qual scope h₀.objs.size fa cd)) Q E s:=by
 have hu':(callerA.units+3)+200<cLine:=by omega
 have clr:Clr K p loose mean mg mb (ZbF (callerA.depth+1) (callerA.units+3) callerA.guards qual scope h₀.objs.size fa cd (cellsFrom (h₀.objs.size+1) scope.names []) [] h₀ hu' names) (callerA.depth+1) (callerA.units+3):=
  ⟨callerA.guards,qual,scope,fa,cd,cellsFrom (h₀.objs.size+1) scope.names [],[],_,_,rfl,below_caller h₀,KX,T,hk⟩
 have hb:=hbody (callerA.depth+1) (callerA.units+3) callerA.guards h₀.objs.size fa cd [] h₀ hu' clr hd hun
 obtain⟨vs,hsc,hv⟩:=ZsM w1 ⟨[sa],[],(sa,ZbO [] 0)⟩
 have hv':VRs ⟨[sa],[],(sa,ZbO vs 0)⟩ (ns.map V.int) vs:=by
  clear hg post w1 hlen hsc
  generalize ns.map V.int=us at hv
  have key:∀{us:List V} {xs:List Value},VRs ⟨[sa],[],(sa,ZbO [] 0)⟩ us xs→VRs ⟨[sa],[],(sa,ZbO vs 0)⟩ us xs:=by
   intro us
   induction us with
   | nil=>intro xs h;cases h;exact .nil
   | cons u us ih=>
    intro xs h
    cases h with
    | cons a b=>
     refine .cons ?_ (ih b)
     cases a with
     | none=>exact .none
     | bool b=>exact .bool b
     | int i t=>exact .int i t
     | str s t=>exact .str s t
     | tup hm _ _=>exact nomatch hm
     | ref e=>exact .ref e
  exact key hv
 have far:=Zi6 (lo:=h₀.objs.size) scope.names (h₀.objs.size+1) [] .nil (fun q hq=>nomatch hq) (Nat.lt_succ_self _)
 unfold Z3 at hg
 rw[if_pos (show([V.ref 0]:List V).length=1 from rfl)]at hg
 obtain⟨res,e1,e2⟩:=Zz1.mp hg
 obtain⟨o,ρ',K'⟩:=res
 have eo:o=some (.bool true):=by
  cases o with
  | none=>simp at e2
  | some v=>simp at e2;rw[e2.1]
 subst eo
 have pick:∀{i:Nat} {x:Str} {u:V},names[i]?=some x→([V.ref 0]:List V)[i]?=some u→x=pname∧u=.ref 0:=fun {i x u} h1 h2=>by
  have hi:i<1:=(Zz6.mp h2).1
  have:i=0:=by omega
  subst this
  rw[h0]at h1
  simp at h1 h2
  exact⟨h1.symm,h2.symm⟩
 have rep:Rep (ZbF (callerA.depth+1) (callerA.units+3) callerA.guards qual scope h₀.objs.size fa cd (cellsFrom (h₀.objs.size+1) scope.names []) [] h₀ hu' names) ⟨[sa],[],(sa,ZbO vs 0)⟩ (fun i=>[V.ref 0][i]?) [ns.map V.int] [] s.heap:=by
  refine⟨_,cells,cells,⟨F,N,⟨rfl,by simp,fun i us e=>?_,fun q hq=>(nomatch hq),fun q hq=>(nomatch hq)⟩,hsc,rfl,fun q hq=>(nomatch hq),fun q hq=>(nomatch hq),fun q hq=>hq,fun q hq z=>?_,fun q _ t ht=>(nomatch ht),fun q hq=>(nomatch hq),fun q hq t ht=>(nomatch ht),⟨fun i x u hi hk1 hu1=>?_,fun i x u hi hk1 hu1=>?_,fun x c1 hc=>?_,fun x y c1 h1 h2=>?_⟩⟩⟩
  ·have hi:i<1:=(Zz6.mp e).1
   have:i=0:=by omega
   subst this
   simp at e
   subst e
   exact⟨by simpa using hlen,sa,vs,0,rfl,List.mem_cons_self,hv'⟩
  ·have:=(N q hq).2.2
   rw[List.mem_singleton.mp z,hsc]at this
   cases this
  ·obtain⟨e3,e4⟩:=pick hi hu1
   subst e3 e4
   refine⟨.ref sa,?_,.ref rfl⟩
   show bindL _ _ _ _=_
   unfold bindL bindL
   rw[if_pos (show(envOfC qual scope h₀.objs.size fa cd).kindOf x=some .local from hk1)]
   simp
  ·obtain⟨e3,e4⟩:=pick hi hu1
   subst e3 e4
   have hs:=cellsFrom_some scope.names (h₀.objs.size+1) [] (.inl hk1)
   obtain⟨c1,hc1⟩:=Option.isSome_iff_exists.mp hs
   obtain⟨o1,ho1,hd1⟩:=Zf6 X0 (Zdy hc1)
   refine⟨c1,o1,.ref sa,hc1,ho1,?_,.ref rfl⟩
   rw[hd1]
   unfold bindC bindC
   rw[if_neg (show ¬(envOfC qual scope h₀.objs.size fa cd).kindOf x=some .local by show ¬scope.names.lookup x=some .local;rw[hk1];simp)]
   simp
  ·obtain⟨o1,ho1,hd1⟩:=Zf6 X0 (Zdy hc)
   exact⟨o1,_,ho1,hd1⟩
  ·exact name_of_addr far.1 (Zdy h1) (Zdy h2)
 refine hb _ _ _ [] s Q E _ rep e1 ?_
 intro W' h' tk' x l' r' x'
 cases x' with
 | bool _=>
  obtain⟨m',c',led',r'⟩:=r'
  exact post h' tk' m' r'.F
end
end PM
end
section
set_option autoImplicit false
namespace PM
open PySem PySem.W PySem.Calls PyProof.Rows PyProof PyProof.Rows.LCg PyProof.Rows.LSm
theorem Rep.listAt{Γ:Cx}{W:Wd}{ρ:Lc}{H:Hp}{fr:List (Addr×Obj)}{h h':Heap}{vs:List V}{xs:List Value}{k:Nat}(r:Rep Γ W ρ H fr h)(up:∀b o,h.get? b=some o→h'.get? b=some o)(hg:h'.get? h.objs.size=some (ZbO xs k))(hv:VRs W vs xs)(hl:vs.length≤LEN):
  ∃W',W.Le W'∧Rep Γ W' ρ (H++[vs]) fr h'∧VR W' (.ref H.length) (.ref h.objs.size):=by
 obtain⟨r2,ap⟩:=r.more (fs:=[(h.objs.size,ZbO xs k)]) up (fun q hq=>by rw[List.mem_singleton.mp hq];exact⟨hg,Nat.le_refl _⟩)
 exact ZfQ r2 (fun t ht=>ap _ Zz5 t ht) hv hl
noncomputable def ZdE: List V→Hp→Option (V×Hp)
 | [.ref a],H=>H[a]?.map fun vs=>(.ref H.length,H++[vs])
 | [.tup vs],H=>some (.ref H.length,H++[vs])
 | _,_=>none
noncomputable def ZeS: List V→Hp→Option (V×Hp)
 | [.ref a],H=>H[a]?.map fun vs=>(.tup vs,H)
 | [.tup vs],H=>some (.tup vs,H)
 | _,_=>none
noncomputable def ZeT: List V→Option (List Bool)
 | []=>some []
 | .bool b::vs=>(ZeT vs).map fun bs=>b::bs
 | _::_=>none
noncomputable def Zxa: List V→Hp→Option (V×Hp)
 | [.ref a],H=>H[a]?.bind fun vs=>(ZeT vs).map fun bs=>(.bool (bs.all id),H)
 | _,_=>none
noncomputable def ZgH: List V→Hp→Option (V×Hp)
 | [.ref a],H=>H[a]?.bind fun vs=>(ZeT vs).map fun bs=>(.bool (bs.any id),H)
 | _,_=>none
theorem Zrx{W:Wd}: ∀{vs:List V} {xs:List Value} {bs:List Bool},VRs W vs xs→ZeT vs=some bs→BoolsAre xs bs:=by
 intro vs
 induction vs with
 | nil=>intro xs bs h e;cases h;cases e;exact .nil
 | cons v vs ih=>
  intro xs bs h e
  cases h with
  | cons a b=>
   cases v with
   | bool c=>
    obtain⟨cs,e1,e2⟩:=Zz1.mp e
    subst e2
    cases a
    exact .cons _ (ih b e1)
   | none=>cases e
   | int _=>cases e
   | str _=>cases e
   | tup _=>cases e
   | ref _=>cases e
section
variable {prog:Program} {w:World}
theorem ZhE: OpN prog w (fun xs=>call (.type "list") xs) ZdE:=by
 intro Γ W ρ H fr s Q E as xs v H' r hx ho post
 unfold ZdE at ho
 split at ho
 ·obtain⟨vs,e1,e2⟩:=Zz1.mp ho
  cases e2
  obtain⟨x,ex,rx⟩:=hx.one
  subst ex
  cases rx with
  | @ref _ a ea=>
   obtain⟨hl,ys,k,hg,hv⟩:=r.at e1 ea
   refine call_list_seq (hsz:=ZcM (by rw[List.size_toArray,hv.length];exact hl)) a (.inl rfl) hg rfl rfl fun h' c' up hg'=>?_
   obtain⟨W2,l2,r2,v2⟩:=r.listAt up hg' hv hl
   exact post W2 h' s.toks _ l2 r2 v2
 ·cases ho
  obtain⟨x,ex,rx⟩:=hx.one
  subst ex
  cases rx with
  | @tup _ a ys k hm hl hv=>
   refine call_list_seq (hsz:=ZcM (by rw[List.size_toArray,hv.length];exact hl)) a (.inr rfl) (r.tupAt hm) rfl rfl fun h' c' up hg'=>?_
   obtain⟨W2,l2,r2,v2⟩:=r.listAt up hg' hv hl
   exact post W2 h' s.toks _ l2 r2 v2
 ·cases ho
theorem ZsN: OpN prog w (fun xs=>call (.type "tuple") xs) ZeS:=by
 intro Γ W ρ H fr s Q E as xs v H' r hx ho post
 unfold ZeS at ho
 split at ho
 ·obtain⟨vs,e1,e2⟩:=Zz1.mp ho
  cases e2
  obtain⟨x,ex,rx⟩:=hx.one
  subst ex
  cases rx with
  | @ref _ a ea=>
   obtain⟨hl,ys,k,hg,hv⟩:=r.at e1 ea
   have isl:s.heap.IsList a ys.toArray:=⟨_,hg,rfl,k,rfl⟩
   refine call_tuple_list isl (fun h' up=>?_) (ZcM (by rw[List.size_toArray,hv.length];exact hl))
   obtain⟨W2,l2,r2,v2⟩:=(r.grown up).tuple (k:=0) hv hl
   exact post W2 _ s.toks _ l2 r2 v2
 ·cases ho
  obtain⟨x,ex,rx⟩:=hx.one
  subst ex
  cases rx with
  | @tup _ a ys k hm hl hv=>
   have it:IsTup s.heap a ys.toArray:=⟨_,r.tupAt hm,rfl,k,rfl⟩
   exact call_tuple_tup it (post W s.heap s.toks _ (.refl W) r (.tup hm hl hv))
 ·cases ho
theorem ZvI: OpN prog w (fun xs=>call (.builtin "any") xs) ZgH:=by
 intro Γ W ρ H fr s Q E as xs v H' r hx ho post
 unfold ZgH at ho
 split at ho
 ·obtain⟨vs,e1,e2⟩:=Zz0.mp ho
  obtain⟨bs,e3,e4⟩:=Zz1.mp e2
  cases e4
  obtain⟨x,ex,rx⟩:=hx.one
  subst ex
  cases rx with
  | @ref _ a ea=>
   obtain⟨hl,ys,k,hg,hv⟩:=r.at e1 ea
   have isl:s.heap.IsList a ys.toArray:=⟨_,hg,rfl,k,rfl⟩
   obtain⟨m,c,led,r'⟩:=r
   exact any_bools r'.F r'.N Γ.hh isl (Zrx hv e3) fun h' tk F' N'=>post W h' tk _ (.refl W) (r'.same F' N') (.bool _)
 ·cases ho
end
section
variable {prog:Program} {w:World} {K:Frag} {p:Program} {loose:List Str} {mean:ExcName→Option Value} {mg mb:Str→Option Value} {Γ:Cx} {dp un:Nat}
theorem ZvJ{x:Str}{v:Value}(clr:Clr K p loose mean mg mb Γ dp un)(e:nsIn K mainGlobals x=some (some v))(hg:Γ.env.globals=mainGlobals)(hk:Γ.env.scope.kind=.function)(hx:Γ.env.kindOf x=some .globalImplicit)(hd:(x == ("__debug__":Str))=false): Nm prog w Γ x v:=by
 obtain⟨_,_,_,_,_,_,_,_,_,_,_,X,T,_⟩:=clr
 intro pos m s Q E F q
 exact Name_function_global hk hx (loadGlobal_global (env:=Γ.env) (by rw[hg];exact T.g.keeps F.keep) (mg_of X T.g e) q) hd
theorem Ztw{x:Str}{v:Value}(clr:Clr K p loose mean mg mb Γ dp un)(e:nsIn K mainGlobals x=some none)(hv:bootBuiltins x=some v)(hn:x≠"__name__")(hg:Γ.env.globals=mainGlobals)(hb:Γ.env.builtins=builtinsNs)(hk:Γ.env.scope.kind=.function)(hx:Γ.env.kindOf x=some .globalImplicit)(hd:(x == ("__debug__":Str))=false): Nm prog w Γ x v:=by
 obtain⟨_,_,_,_,_,_,_,_,_,_,_,X,T,_⟩:=clr
 intro pos m s Q E F q
 exact Name_function_global hk hx (loadGlobal_builtin (env:=Γ.env) (by rw[hg];exact T.g.keeps F.keep) (mg_none_of X T.g e) (by rw[hb];exact T.b.keeps F.keep) ((T.builtins x hn).trans hv) q) hd
end
section
variable {prog:Program} {w:World} {Γ:Cx} {scope:Scope} {cl:List (Str×Addr)} {C:Addr} {ts:List (Str×Nat)} {ρ0:Lc}
theorem Zus{x:Str}{t:Nat}(hm:(x,t)∈ts)(hk:scope.kind=.function)(hl:(compEnvC scope cl C Γ.env).kindOf x=some .local)(hd:(x == ("__debug__":Str))=false): Rd prog w (Za9 Γ scope cl C ts ρ0) x t:=by
 intro W ρ H fr s Q E v pos r e q
 obtain⟨m,c,led,r⟩:=r
 obtain⟨oC,m₂,cs,ec,h0,h1,h2,h3,h4⟩:=r.own
 obtain⟨v',y,e1,e2,e3⟩:=h2 _ hm
 rw[e]at e1
 cases e1
 exact LCgL.ld_own r.N (r.clIn _ (by rw[ec];exact Zz5)) h1 e2 (q y e3) hk hl hd
end
section
variable {prog:Program} {w:World} {dp un:Nat} {gd:Option (List Code)} {cn:Str} {cs:Scope} {L a:Addr} {ccd:Value} {clf:List (Str×Addr)} {outer:List Env} {h₀:Heap} {hu:un+200<cLine} {names:List Str} {scope:Scope} {cl:List (Str×Addr)} {C:Addr} {ts:List (Str×Nat)} {ρ0:Lc}
theorem Zut{x:Str}{i:Nat}(hi:names[i]?=some x)(hx:cs.names.lookup x=some .cell)(hne:∀p∈ts,p.2≠i)(hcl:cl.lookup x=clf.lookup x)(hk:scope.kind=.function)(hl:(compEnvC scope cl C (envX cn cs L a ccd clf)).kindOf x=some .cell)(hd:(x == ("__debug__":Str))=false):
  Rd prog w (Za9 (ZbF dp un gd cn cs L a ccd clf outer h₀ hu names) scope cl C ts ρ0) x i:=by
 intro W ρ H fr s Q E v pos r e q
 obtain⟨m,c,led,r⟩:=r
 obtain⟨oC,m₂,cs',ec,h0,h1,h2,h3,h4⟩:=r.own
 rw[h3 i hne]at e
 obtain⟨d,o,y,g1,g2,g3,g4⟩:=h4.cel i x v hi hx e
 exact kcf_cell r.N (hcl.trans g1) (r.clIn _ (by rw[ec];exact Zz2 _ g2)) g3 (q y g4) hk hl hd
end
end PM
end
section
namespace My
open PySem PySem.W PySem.Calls PyProof.Rows PySem.Spec
structure Cell(v:Int): Prop where
 bits:Builtin.Int.intBits v≤2 ^ 20
theorem bits_zero: Builtin.Int.intBits 0≤2 ^ 20:=by unfold Builtin.Int.intBits;simp
theorem cell_at{ns:List Int}(h:PyData.layable0 (.list (ns.map .int))=true)(i:Int): Cell (cellAt ns i 0):=by
 refine⟨?_⟩
 rw[cellAt_def,List.getD_eq_getElem?_getD]
 cases e:ns[i.toNat]? with
 | none=>exact bits_zero
 | some v=>exact PyData.bits_item_of_ints h (List.mem_of_getElem? e)
section
variable {prog:Program} {w:World} {A:Around} {E:Value→Shared→Prop} {s:Shared} {x y:Int} {t u:Tok} {Q:Value→Shared→Prop}
@[irreducible] noncomputable def T9: Int:=10 ^ 9
theorem T9_eq: T9=1000000000:=by unfold T9;decide +kernel
end
end My
end
section
set_option autoImplicit false
/-! Reckoning with the plain machine. -/
namespace PM
open PySem PySem.W PyProof.Rows
section
variable (ρ:Lc) (H:Hp)
@[simp] theorem Ztx: Zdd ρ H=some (none,H):=rfl
@[simp] theorem Zty(f:Ex): Zde f ρ H=(f ρ H).map fun p=>(some p.1,p.2):=rfl
end
section
variable (a b:Int) (H:Hp)
end
noncomputable def Ext(H H':Hp): Prop:=∃X,H'=H++X
theorem Ext.trans{H H' H'':Hp}(a:Ext H H')(b:Ext H' H''): Ext H H'':=by
 obtain⟨X,rfl⟩:=a
 obtain⟨Y,rfl⟩:=b
 exact⟨X++Y,by simp⟩
theorem Zp9{b:Int}(hb:0≤b): Builtin.Range.rangeSize 0 b 1=b:=by
 unfold Builtin.Range.rangeSize
 rw[if_pos (by decide)]
 by_cases h:(0:Int)<b
 ·rw[if_pos h]
  omega
 ·rw[if_neg h]
  omega
theorem ZvK{b:Int}{H:Hp}(hb:0≤b)(hb9:b≤1000): Zcm 0 b 1 H=some (Zeh 0 1 b.toNat,b.toNat+1,H):=by
 unfold Zcm rngN
 rw[Zp9 hb,if_pos]
 refine⟨by decide,?_,hb,by rw[Za5];omega,?_⟩
 ·unfold Builtin.Range.small
  rw[Zp9 hb]
  simp only[Builtin.Range.rangeFitsLong,Bool.and_eq_true,Bool.or_eq_true,decide_eq_true_eq,beq_iff_eq]
  rw[if_pos (by decide)]
  simp only[Bool.and_eq_true,decide_eq_true_eq]
  by_cases h:(0:Int)<b
  ·refine⟨⟨⟨⟨?_,?_⟩,?_⟩,?_⟩,Or.inr ?_⟩ <;> omega
  ·refine⟨⟨⟨⟨?_,?_⟩,?_⟩,?_⟩,?_⟩ <;> first | omega | (left;omega)
 ·exact PyProof.noPylong_small (by omega)
end PM
end
section
set_option autoImplicit false
namespace PM
open PySem PySem.W PyProof.Rows My
theorem Zos{a b:Int}(h:IntMulOk a b): mulOk a b=true:=by
 unfold IntMulOk at h
 unfold mulOk
 cases e:(decide (Builtin.Int.intBits a>shortFactorBits) && decide (Builtin.Int.intBits b>shortFactorBits) && Builtin.Int.intTooBig (Builtin.Int.intBits a+Builtin.Int.intBits b))with
 | true=>exact absurd e h
 | false=>rfl
theorem ZmQ{a b:Int}{H:Hp}(h:0≤b∧(Builtin.Int.intBits a:Int)*b≤2 ^ 27): oPow (.int a) (.int b) H=some (.int (a ^ b.toNat),H):=by simp only[oPow];rw[if_pos h]
theorem ZwA(H:Hp): oPow (.int 10) (.int 9) H=some (.int T9,H):=by rw[ZmQ (by decide +kernel)];unfold T9;rfl
end PM
end
section
set_option autoImplicit false
namespace PM
open PySem PySem.W PyProof.Rows My
section
variable {ρ ρ1 ρ2:Lc} {H H1 H2 H3:Hp}
theorem ZvL{k:Int}: Zm k ρ H=some (.int k,H):=rfl
theorem Zuu{f g:Ex}{a:Nat}{k:Int}{n:Nat}{vs:List V}(h1:f ρ H=some (.ref a,H1))(h2:g ρ H1=some (.int k,H2))(e:H2[a]?=some vs)(hk:k=(n:Int)): ZcE f (Zde g) Zdd ρ H=some (.ref H2.length,H2++[vs.drop n]):=by
 simp only[ZcE,h1,Option.bind_some,Zty,h2,Option.map_some,Ztx,Zgv,e]
 rw[Zn0 vs hk]
end
end PM
end
section
set_option autoImplicit false
/-! Forward reckoning: what comes, told by a claim. -/
namespace PM
open PySem PySem.W PyProof.Rows My
noncomputable def Rg(xs:List V)(H:Hp)(G:Nx→Nat→Hp→Prop): Prop:=∃n:Nat,xs=[.int n]∧n≤1000∧G (Zeh 0 1 n) (n+1) H
section
variable {ρ:Lc} {H:Hp} {Q:V→Hp→Prop} {L:List V→Hp→Prop} {T:Bool→Hp→Prop} {R:V→Hp→Prop} {N:Lc→Hp→Prop}
variable {a b:Int}
end
end PM
end
section
set_option autoImplicit false
namespace PM
open PySem PySem.W PyProof.Rows PyProof
noncomputable def Zd1(f:Ex)(k:Nat): Ex:=fun ρ H=>(f ρ H).bind fun p=>match p.1 with
 | .ref i=>p.2[i]?.bind fun vs=>some (.ref p.2.length,p.2++[vs.drop k])
 | .tup vs=>if 1≤k∧k≤vs.length then some (.tup (vs.drop k),p.2)else none
 | _=>none
section
variable {prog:Program} {w:World} {Γ:Cx}
theorem Zmt{e lo:Expr}{p pos:Pos}{f:Ex}{k:Nat}(h:J prog w Γ e f)(hlo:J prog w Γ lo (Zm k))(ht:∀o r,letTemporaryGo e o r=pure ():=by intro _ _;rfl): J prog w Γ (.Subscript e (.Slice (Option.some lo) Option.none Option.none p) pos) (Zd1 f k):=by
 intro W ρ H fr s Q E v H' r hf post
 obtain⟨⟨v1,H1⟩,e1,hf⟩:=Zz0.mp hf
 cases v1 with
 | none=>cases hf
 | bool _=>cases hf
 | int _=>cases hf
 | str _=>cases hf
 | ref i=>
  obtain⟨vs,e2,e3⟩:=Zz0.mp hf
  refine Zf3 h (JP.some hlo) JP.none ht W ρ H fr s Q E v H' r ?_ post
  rw[Zuu (n:=k) e1 ZvL e2 rfl]
  exact e3
 | tup vs=>
  simp only at hf
  by_cases c:1≤k∧k≤vs.length
  ·rw[if_pos c]at hf
   cases hf
   refine wpAny_Subscript_Slice (T:="tuple") slot_tuple_getitem.lookup (h W ρ H fr s _ E _ _ r e1 fun W1 k1 t1 x l1 r1 x1=>?_) ht
   refine wpAny_Slice ?_
   refine wpAny_evalPart_some (hlo W1 ρ _ fr _ _ E _ _ r1 rfl fun W2 k2 t2 y l2 r2 y2=>?_)
   refine wpAny_evalPart_none ?_
   refine wpAny_evalPart_none ?_
   cases y2 with
   | int _ u=>
    have x2:=x1.mono l2
    cases x2 with
    | @tup _ a ys kk hm hl hs=>
     have it:IsTup k2 a ys.toArray:=⟨_,r2.tupAt hm,rfl,kk,rfl⟩
     have it':IsTup (k2.push { cls:=.type "slice",data:=.fields #[.int k u,.none,.none] }) a ys.toArray:=it.keeps fun _ _ e=>Heap.get?_push_of_some _ e
     have hlen:=hs.length
     rw[Za5]at hl
     refine⟨it'.typeIs,getItem_tuple_from it' (Heap.IsSliceOf.new ..) c.1 (by simp[hlen];exact c.2) ?_ (ZcM (by simp[hlen];rw[Za5];exact hl))⟩
     obtain⟨W4,l4,r4,v4⟩:=(r2.push { cls:=.type "slice",data:=.fields #[.int k u,.none,.none] }).tuple (k:=0) (hs.drop k) (by rw[Za5];simp;omega)
     have:=post W4 _ t2 _ ((l1.trans l2).trans l4) r4 v4
     simpa using this
  ·rw[if_neg c]at hf
   cases hf
end
section
variable {ρ:Lc} {H:Hp} {Q:V→Hp→Prop}
theorem Zqa{a b c:Int}(hc:0<c)(hb:a<b): Builtin.Range.rangeSize a b c=(b-a-1) / c+1:=by
 unfold Builtin.Range.rangeSize
 rw[if_pos hc,if_pos hb]
theorem ZvM{a b c:Int}{H:Hp}(ha:0≤a)(hb:a<b)(hb9:b≤1000)(hc:0<c)(hc9:c≤1000): Zcm a b c H=some (Zeh a c (rngN a b c),rngN a b c+1,H):=by
 have e:=Zqa hc hb
 have h0:0≤(b-a-1) / c:=Int.ediv_nonneg (by omega) (by omega)
 have h2:(b-a-1) / c≤b-a-1:=Int.ediv_le_self _ (by omega)
 unfold Zcm
 rw[if_pos]
 refine⟨by omega,?_,by omega,by unfold rngN;rw[Za5];omega,PyProof.noPylong_small (by omega)⟩
 unfold Builtin.Range.small
 rw[e]
 simp only[Builtin.Range.rangeFitsLong,Bool.and_eq_true,Bool.or_eq_true,decide_eq_true_eq,beq_iff_eq]
 rw[if_pos hc]
 simp only[Bool.and_eq_true,decide_eq_true_eq]
 refine⟨⟨⟨⟨?_,?_⟩,?_⟩,?_⟩,?_⟩ <;> first | omega | (left;omega) | (right;omega)
end
end PM
end
section
set_option autoImplicit false
namespace PM
open PySem PySem.W PyProof.Rows PyProof My
section
variable {ρ:Lc} {H:Hp} {Q:V→Hp→Prop} {L:List V→Hp→Prop}
end
noncomputable def od: Option Int→PyData
 | none=>.none
 | some k=>.int k
theorem Zns{a:Int}{k:Nat}(h:Builtin.Int.intBits a≤k): a.natAbs<2 ^ k:=by
 unfold Builtin.Int.intBits at h
 by_cases z:a=0
 ·subst z
  exact Nat.two_pow_pos k
 ·rw[if_neg (by simpa using z)]at h
  exact Nat.lt_of_lt_of_le Nat.lt_log2_self (Nat.pow_le_pow_right (by decide) h)
theorem Ztz{a b:Int}{k:Nat}(ha:Builtin.Int.intBits a≤k)(hb:Builtin.Int.intBits b≤k): Builtin.Int.intBits (a+b)≤k+1:=by
 refine PyProof.Rows.intBits_le ?_
 have h1:=Zns ha
 have h2:=Zns hb
 rw[Nat.pow_succ]
 omega
theorem Zot{a b:Int}(ha:Builtin.Int.intBits a≤2 ^ 21)(hb:Builtin.Int.intBits b≤2 ^ 21): mulOk a b=true:=by
 have e:(2:Nat) ^ 21=2097152:=by decide
 have h:Builtin.Int.intTooBig (Builtin.Int.intBits a+Builtin.Int.intBits b)=false:=by
  unfold Builtin.Int.intTooBig bitsLine
  exact decide_eq_false (by omega)
 unfold mulOk
 rw[h]
 simp
theorem ZsO{a b:Int}(h1:-(2 ^ 64)<b)(h2:b<2 ^ 64): mulOk a b=true:=Zos (IntMulOk.of_right (intBits_le_64 h1 h2))
theorem Zr0{a b:Int}(h1:-(2 ^ 64)<a)(h2:a<2 ^ 64): mulOk a b=true:=Zos (IntMulOk.of_left (intBits_le_64 h1 h2))
@[irreducible] noncomputable def M9: Int:=48271 ^ Int.toNat 9
@[irreducible] noncomputable def T40: Int:=10 ^ Int.toNat 40
theorem ZvN(H:Hp): oPow (.int 48271) (.int 9) H=some (.int M9,H):=by rw[ZmQ (by decide +kernel)];unfold M9;rfl
theorem ZvO(H:Hp): oPow (.int 10) (.int 40) H=some (.int T40,H):=by rw[ZmQ (by decide +kernel)];unfold T40;rfl
theorem Zgi: T40=10000000000000000000000000000000000000000:=by unfold T40;decide +kernel
theorem Zuv: Builtin.Int.intBits M9≤2 ^ 21:=by
 unfold M9
 exact Nat.le_trans (PyProof.Rows.intBits_le (k:=256) (by decide +kernel)) (by decide)
section
variable {H:Hp} {Q:V→Hp→Prop} {a b:Int}
end
end PM
end
section
set_option autoImplicit false
/-! The tree machine: values without places; lists that nobody else holds may be changed. -/
namespace TM
open PySem PM
inductive T where
 | none
 | bool (b:Bool)
 | int (i:Int)
 | str (s:Str)
 | tup (ts:List T)
 | lst (ts:List T)
mutual
inductive RF(H:Hp): V→T→List Nat→Prop where
 | none:RF H .none .none []
 | bool (b:Bool):RF H (.bool b) (.bool b) []
 | int (i:Int):RF H (.int i) (.int i) []
 | str (s:Str):RF H (.str s) (.str s) []
 | tup {vs:List V} {ts:List T} {F:List Nat}:RFs H vs ts F→RF H (.tup vs) (.tup ts) F
 | ref {a:Nat} {vs:List V} {ts:List T} {F:List Nat}:H[a]?=some vs→RFs H vs ts F→RF H (.ref a) (.lst ts) (a::F)
inductive RFs(H:Hp): List V→List T→List Nat→Prop where
 | nil:RFs H [] [] []
 | cons {v:V} {t:T} {F:List Nat} {vs:List V} {ts:List T} {G:List Nat}:RF H v t F→RFs H vs ts G→RFs H (v::vs) (t::ts) (F++G)
end
mutual
theorem RF.frame{H H':Hp}{v:V}{t:T}{F:List Nat}(r:RF H v t F)(h:∀a∈F,H'[a]?=H[a]?): RF H' v t F:=by
 cases r with
 | none=>exact .none
 | bool b=>exact .bool b
 | int i=>exact .int i
 | str s=>exact .str s
 | tup hs=>exact .tup (RFs.frame hs h)
 | ref e hs=>exact .ref ((h _ Zz5).trans e) (RFs.frame hs fun a m=>h a (Zz2 _ m))
theorem RFs.frame{H H':Hp}{vs:List V}{ts:List T}{F:List Nat}(r:RFs H vs ts F)(h:∀a∈F,H'[a]?=H[a]?): RFs H' vs ts F:=by
 cases r with
 | nil=>exact .nil
 | cons a b=>exact .cons (RF.frame a fun x m=>h x (Zz4 _ m)) (RFs.frame b fun x m=>h x (Zz3 _ m))
end
mutual
theorem RF.lt{H:Hp}{v:V}{t:T}{F:List Nat}(r:RF H v t F): ∀a∈F,a<H.length:=by
 cases r with
 | none=>intro a m;cases m
 | bool b=>intro a m;cases m
 | int i=>intro a m;cases m
 | str s=>intro a m;cases m
 | tup hs=>exact RFs.lt hs
 | ref e hs=>
  intro x m
  rcases Zz7.mp m with rfl | m
  ·exact(Zz6.mp e).1
  ·exact RFs.lt hs x m
theorem RFs.lt{H:Hp}{vs:List V}{ts:List T}{F:List Nat}(r:RFs H vs ts F): ∀a∈F,a<H.length:=by
 cases r with
 | nil=>intro a m;cases m
 | cons a b=>
  intro x m
  rcases Zz8.mp m with m | m
  ·exact RF.lt a x m
  ·exact RFs.lt b x m
end
theorem RF.ext{H:Hp}{v:V}{t:T}{F:List Nat}(r:RF H v t F)(X:Hp): RF (H++X) v t F:=r.frame fun a m=>List.getElem?_append_left (r.lt a m)
theorem RFs.ext{H:Hp}{vs:List V}{ts:List T}{F:List Nat}(r:RFs H vs ts F)(X:Hp): RFs (H++X) vs ts F:=r.frame fun a m=>List.getElem?_append_left (r.lt a m)
theorem RFs.length{H:Hp}: ∀{vs:List V} {ts:List T} {F:List Nat},RFs H vs ts F→vs.length=ts.length
 | _,_,_,.nil=>rfl
 | _,_,_,.cons _ r=>by rw[List.length_cons,List.length_cons,r.length]
theorem RFs.append{H:Hp}: ∀{vs us:List V} {ts ss:List T} {F G:List Nat},RFs H vs ts F→RFs H us ss G→RFs H (vs++us) (ts++ss) (F++G)
 | _,_,_,_,_,_,.nil,h=>h
 | _,_,_,_,_,_,.cons a r,h=>by rw[List.append_assoc];exact .cons a (r.append h)
theorem RFs.one{H:Hp}{v:V}{t:T}{F:List Nat}(r:RF H v t F): RFs H [v] [t] F:=by
 have:=RFs.cons r RFs.nil
 rwa [List.append_nil]at this
theorem RFs.snoc{H:Hp}{vs:List V}{ts:List T}{F G:List Nat}{v:V}{t:T}(r:RFs H vs ts F)(x:RF H v t G): RFs H (vs++[v]) (ts++[t]) (F++G):=r.append (.one x)
theorem RFs.at{H:Hp}: ∀{vs:List V} {ts:List T} {F:List Nat} {i:Nat} {t:T},RFs H vs ts F→ts[i]?=some t→∃v G,vs[i]?=some v∧RF H v t G∧G.Sublist F
 | _,_,_,_,_,.nil,e=>by simp at e
 | _,_,_,0,_,.cons a _,e=>by
  simp at e
  exact⟨_,_,by simp,e▸a,List.sublist_append_left _ _⟩
 | _,_,_,i+1,_,.cons _ r,e=>by
  simp at e
  obtain⟨x,G,hx,hr,hs⟩:=r.at e
  exact⟨x,G,by simpa using hx,hr,hs.trans (List.sublist_append_right _ _)⟩
theorem RFs.drop{H:Hp}: ∀{vs:List V} {ts:List T} {F:List Nat} (i:Nat),RFs H vs ts F→∃G,RFs H (vs.drop i) (ts.drop i) G∧G.Sublist F
 | _,_,_,0,h=>⟨_,h,List.Sublist.refl _⟩
 | _,_,_,_+1,.nil=>⟨_,.nil,List.Sublist.refl _⟩
 | _,_,_,i+1,.cons _ r=>by
  obtain⟨G,h1,h2⟩:=r.drop i
  exact⟨G,h1,h2.trans (List.sublist_append_right _ _)⟩
theorem RFs.split{H:Hp}: ∀{vs:List V} {ts:List T} {F:List Nat} {i:Nat} {t:T},RFs H vs ts F→ts[i]?=some t →
  ∃v G F1 F2,vs[i]?=some v∧RF H v t G∧F=F1++(G++F2)∧∀(H':Hp) (w:V) (t':T) (G':List Nat),RF H' w t' G'→(∀a∈F1,H'[a]?=H[a]?)→(∀a∈F2,H'[a]?=H[a]?)→RFs H' (vs.set i w) (ts.set i t') (F1++(G'++F2))
 | _,_,_,_,_,.nil,e=>by simp at e
 | _,_,_,0,_,.cons (G:=G1) a r,e=>by
  simp at e
  subst e
  exact⟨_,_,[],G1,by simp,a,by simp,fun H' w t' G' x _ h2=>by simpa using RFs.cons x (r.frame h2)⟩
 | _,_,_,i+1,_,.cons (F:=F0) a r,e=>by
  simp at e
  obtain⟨v,G,F1,F2,h1,h2,h3,h4⟩:=r.split e
  refine⟨v,G,F0++F1,F2,by simpa using h1,h2,by rw[h3];simp,fun H' w t' G' x k1 k2=>?_⟩
  have:=RFs.cons (a.frame fun b m=>k1 b (Zz4 _ m)) (h4 H' w t' G' x (fun b m=>k1 b (Zz3 _ m)) k2)
  simpa using this
theorem Zou{α:Type}{xs:List α}{i:Nat}{x:α}(h:xs[i]?=some x): xs.set i x=xs:=by
 obtain⟨hi,e⟩:=Zz6.mp h
 rw[←e]
 exact List.set_getElem_self hi
theorem nd3{F1 G F2 G' Gn:List Nat}(nd:(F1++(G++F2)).Nodup)(n':G'.Nodup)(sub:∀a∈G',a∈G∨a∈Gn)(ds:∀a∈Gn,a∉F1++(G++F2)): (F1++(G'++F2)).Nodup:=by
 rw[List.nodup_append,List.nodup_append]at nd ⊢
 obtain⟨a1,⟨a2,a3,a4⟩,a5⟩:=nd
 refine⟨a1,⟨n',a3,fun x hx y hy e=>?_⟩,fun x hx y hy e=>?_⟩
 ·rcases sub x hx with m | m
  ·exact a4 x m y hy e
  ·exact ds x m (Zz3 _ (Zz3 _ (e▸hy)))
 ·rcases Zz8.mp hy with m | m
  ·rcases sub y m with q | q
   ·exact a5 x hx y (Zz4 _ q) e
   ·exact ds y q (Zz4 _ (e▸hx))
  ·exact a5 x hx y (Zz3 _ m) e
theorem in3{F1 G F2 G' Gn:List Nat}(sub:∀a∈G',a∈G∨a∈Gn): ∀a∈F1++(G'++F2),a∈F1++(G++F2)∨a∈Gn:=by
 intro a m
 rcases Zz8.mp m with m | m
 ·exact .inl (Zz4 _ m)
 ·rcases Zz8.mp m with m | m
  ·exact(sub a m).imp (fun q=>List.mem_append_right _ (Zz4 _ q)) id
  ·exact .inl (Zz3 _ (Zz3 _ m))
mutual
noncomputable def T.flat: T→Bool
 | .lst _=>false
 | .tup ts=>T.flats ts
 | .none=>true
 | .bool _=>true
 | .int _=>true
 | .str _=>true
noncomputable def T.flats: List T→Bool
 | []=>true
 | t::ts=>t.flat && T.flats ts
end
mutual
theorem RF.flat{H:Hp}{v:V}{t:T}{F:List Nat}(r:RF H v t F)(h:t.flat=true): F=[]:=by
 cases r with
 | none=>rfl
 | bool b=>rfl
 | int i=>rfl
 | str s=>rfl
 | tup hs=>exact RFs.flats hs (by simpa [T.flat]using h)
 | ref e hs=>simp[T.flat]at h
theorem RFs.flats{H:Hp}{vs:List V}{ts:List T}{F:List Nat}(r:RFs H vs ts F)(h:T.flats ts=true): F=[]:=by
 cases r with
 | nil=>rfl
 | cons a b=>
  simp only[T.flats,Bool.and_eq_true]at h
  rw[RF.flat a h.1,RFs.flats b h.2]
  rfl
end
noncomputable def T.flatIn: T→Bool
 | .lst ts=>T.flats ts
 | t=>t.flat
noncomputable def ZdK(f:List T→Option (List T)): List Int→T→Option T
 | [],.lst ts=>(f ts).map .lst
 | k::ks,.lst ts=>(seqIndex? k ts.length).bind fun j=>ts[j]?.bind fun t=>(ZdK f ks t).map fun u=>.lst (ts.set j u)
 | k::ks,.tup ts=>(seqIndex? k ts.length).bind fun j=>ts[j]?.bind fun t=>(ZdK f ks t).map fun u=>.tup (ts.set j u)
 | _,_=>none
inductive Lead(H:Hp): List Int→V→Nat→Prop where
 | nil {a:Nat}:Lead H [] (.ref a) a
 | ref {k:Int} {ks:List Int} {b:Nat} {vs:List V} {j:Nat} {v:V} {a:Nat}:H[b]?=some vs→seqIndex? k vs.length=some j→vs[j]?=some v→Lead H ks v a→Lead H (k::ks) (.ref b) a
 | tup {k:Int} {ks:List Int} {vs:List V} {j:Nat} {v:V} {a:Nat}:seqIndex? k vs.length=some j→vs[j]?=some v→Lead H ks v a→Lead H (k::ks) (.tup vs) a
theorem Ze1{H:Hp}{Gn:List Nat}{f:List T→Option (List T)}: ∀(ks:List Int) {v:V} {t t':T} {F:List Nat},RF H v t F→F.Nodup→(∀a∈Gn,a∉F)→ZdK f ks t=some t' →
  ∃a vs ts ts' G,Lead H ks v a∧a∈F∧H[a]?=some vs∧RFs H vs ts G∧f ts=some ts'∧G.Nodup∧a∉G∧(∀x∈G,x∈F) ∧
   ∀vs' G',RFs H vs' ts' G'→G'.Nodup→a∉G'→(∀x∈G',x∈G∨x∈Gn)→∃F',RF (H.set a vs') v t' F'∧F'.Nodup∧∀x∈F',x∈F∨x∈Gn
 | [],v,t,t',F,r,nd,ds,e=>by
  cases r with
  | @ref a vs ts G e1 hs=>
   obtain⟨ts',h1,h2⟩:=Zz1.mp e
   subst h2
   rw[List.nodup_cons]at nd
   refine⟨a,vs,ts,ts',G,.nil,List.mem_cons_self,e1,hs,h1,nd.2,nd.1,fun x m=>List.mem_cons_of_mem _ m,fun vs' G' r' n' na sub=>⟨a::G',?_,?_,?_⟩⟩
   ·have ha:=(Zz6.mp e1).1
    refine .ref (List.getElem?_set_self ha) (r'.frame fun b m=>List.getElem?_set_ne ?_)
    intro q
    subst q
    exact na m
   ·exact List.nodup_cons.mpr ⟨na,n'⟩
   ·intro x m
    rcases Zz7.mp m with rfl | m
    ·exact .inl Zz5
    ·exact(sub x m).imp (Zz2 _) id
  | none=>cases e
  | bool _=>cases e
  | int _=>cases e
  | str _=>cases e
  | tup _=>cases e
 | k::ks,v,t,t',F,r,nd,ds,e=>by
  cases r with
  | none=>cases e
  | bool _=>cases e
  | int _=>cases e
  | str _=>cases e
  | @tup vs ts _ hs=>
   obtain⟨j,e1,e⟩:=Zz0.mp e
   obtain⟨u,e2,e⟩:=Zz0.mp e
   obtain⟨u',e3,e⟩:=Zz1.mp e
   subst e
   obtain⟨w,G1,F1,F2,e4,g1,eF,rb⟩:=hs.split e2
   subst eF
   have nd1:G1.Nodup:=(List.nodup_append.mp (List.nodup_append.mp nd).2.1).1
   have hin:∀x∈G1,x∈F1++(G1++F2):=fun x m=>List.mem_append_right _ (Zz4 _ m)
   obtain⟨a,us,qs,qs',G,l,am,ea,hq,hf,gn,na,gs,go⟩:=Ze1 ks g1 nd1 (fun b m q=>ds b m (hin b q)) e3
   refine⟨a,us,qs,qs',G,.tup (by rw[hs.length];exact e1) e4 l,hin a am,ea,hq,hf,gn,na,fun x m=>hin x (gs x m),fun vs' G' r' n' na' sub=>?_⟩
   obtain⟨G2,f1,f2,f3⟩:=go vs' G' r' n' na' sub
   obtain⟨a1,a2,a5⟩:=List.nodup_append.mp nd
   obtain⟨_,a3,a4⟩:=List.nodup_append.mp a2
   have:=rb (H.set a vs') w u' G2 f1 (fun b m=>List.getElem?_set_ne fun q=>a5 b m a (Zz4 _ am) q.symm) (fun b m=>List.getElem?_set_ne fun q=>a4 a am b m q)
   rw[Zou e4]at this
   exact⟨_,.tup this,nd3 nd f2 f3 ds,in3 f3⟩
  | @ref b vs ts F' e0 hs=>
   obtain⟨j,e1,e⟩:=Zz0.mp e
   obtain⟨u,e2,e⟩:=Zz0.mp e
   obtain⟨u',e3,e⟩:=Zz1.mp e
   subst e
   obtain⟨w,G1,F1,F2,e4,g1,eF,rb⟩:=hs.split e2
   subst eF
   rw[List.nodup_cons]at nd
   obtain⟨nb,nd⟩:=nd
   have nd1:G1.Nodup:=(List.nodup_append.mp (List.nodup_append.mp nd).2.1).1
   have hin:∀x∈G1,x∈F1++(G1++F2):=fun x m=>List.mem_append_right _ (Zz4 _ m)
   have ds':∀a∈Gn,a∉F1++(G1++F2):=fun a m q=>ds a m (Zz2 _ q)
   obtain⟨a,us,qs,qs',G,l,am,ea,hq,hf,gn,na,gs,go⟩:=Ze1 ks g1 nd1 (fun b m q=>ds' b m (hin b q)) e3
   refine⟨a,us,qs,qs',G,.ref e0 (by rw[hs.length];exact e1) e4 l,List.mem_cons_of_mem _ (hin a am),ea,hq,hf,gn,na,fun x m=>List.mem_cons_of_mem _ (hin x (gs x m)),fun vs' G' r' n' na' sub=>?_⟩
   obtain⟨G2,f1,f2,f3⟩:=go vs' G' r' n' na' sub
   obtain⟨a1,a2,a5⟩:=List.nodup_append.mp nd
   obtain⟨_,a3,a4⟩:=List.nodup_append.mp a2
   have:=rb (H.set a vs') w u' G2 f1 (fun b m=>List.getElem?_set_ne fun q=>a5 b m a (Zz4 _ am) q.symm) (fun b m=>List.getElem?_set_ne fun q=>a4 a am b m q)
   rw[Zou e4]at this
   have hab:a≠b:=fun q=>nb (hin b (q▸am))
   refine⟨_,.ref ((List.getElem?_set_ne hab).trans e0) this,List.nodup_cons.mpr ⟨fun q=>?_,nd3 nd f2 f3 ds'⟩,fun x m=>?_⟩
   ·rcases in3 f3 b q with m | m
    ·exact nb m
    ·exact ds b m Zz5
   ·rcases Zz7.mp m with rfl | m
    ·exact .inl Zz5
    ·exact(in3 f3 x m).imp (Zz2 _) id
end TM
end
section
set_option autoImplicit false
namespace TM
open PySem PM
noncomputable abbrev TL:=Nat→Option T
noncomputable abbrev PE:=TL→Option T
noncomputable abbrev PEs:=TL→Option (List T)
noncomputable abbrev PB:=TL→Option Bool
noncomputable abbrev PG:=TL→Option (List T)
noncomputable def ZY(σ:TL)(i:Nat)(t:T): TL:=fun j=>if j=i then some t else σ j
structure Ctx where
 H0:Hp
 F0:List Nat
 P:Nat→Prop
structure St(c:Ctx)(O:List Nat)(ρ:Lc)(σ:TL)(H:Hp)(Φ:Nat→List Nat): Prop where
 slot:∀i t,σ i=some t→∃v,ρ i=some v∧RF H v t (Φ i)
 src:∀i t,σ i=some t→∀a∈Φ i,c.H0.length≤a∨c.P a
 own:∀i∈O,∀t,σ i=some t→(Φ i).Nodup∧(∀a∈Φ i,c.H0.length≤a∨a∈c.F0)∧∀j u,j≠i→σ j=some u→∀a∈Φ i,a∉Φ j
 len:c.H0.length≤H.length
 keep:∀a,a<c.H0.length→a∉c.F0→H[a]?=c.H0[a]?
 pos:0<c.H0.length
 f0:0∉c.F0
theorem St.ext{c:Ctx}{O:List Nat}{ρ:Lc}{σ:TL}{H:Hp}{Φ:Nat→List Nat}(s:St c O ρ σ H Φ)(X:Hp): St c O ρ σ (H++X) Φ:=
 ⟨fun i t e=>by obtain⟨v,h1,h2⟩:=s.slot i t e;exact⟨v,h1,h2.ext X⟩,s.src,s.own,by have:=s.len;rw[List.length_append];omega,fun a ha hn=>by
  rw[List.getElem?_append_left (Nat.lt_of_lt_of_le ha s.len)];exact s.keep a ha hn,s.pos,s.f0⟩
theorem St.less{c:Ctx}{O O':List Nat}{ρ:Lc}{σ:TL}{H:Hp}{Φ:Nat→List Nat}(s:St c O ρ σ H Φ)(h:∀i∈O',i∈O): St c O' ρ σ H Φ:=⟨s.slot,s.src,fun i hi=>s.own i (h i hi),s.len,s.keep,s.pos,s.f0⟩
noncomputable def From(H:Hp)(N:List Nat)(σ:TL)(Φ:Nat→List Nat)(a:Nat): Prop:=H.length≤a∨∃i∈N,(∃t,σ i=some t)∧a∈Φ i
theorem From.mono{H:Hp}{N N':List Nat}{σ:TL}{Φ:Nat→List Nat}{a:Nat}(f:From H N σ Φ a)(h:∀i∈N,i∈N'): From H N' σ Φ a:=f.imp id fun⟨i,hi,q⟩=>⟨i,h i hi,q⟩
theorem From.back{H X:Hp}{N:List Nat}{σ:TL}{Φ:Nat→List Nat}{a:Nat}(f:From (H++X) N σ Φ a): From H N σ Φ a:=f.imp (fun h=>by rw[List.length_append]at h;omega) id
theorem From.nil{H:Hp}{σ:TL}{Φ:Nat→List Nat}{a:Nat}(f:From H [] σ Φ a): H.length≤a:=f.elim id fun⟨_,hi,_⟩=>by cases hi
noncomputable def E(O N:List Nat)(u:Bool)(e:Ex)(p:PE): Prop:=∀(c:Ctx) (ρ:Lc) (σ:TL) (H:Hp) (Φ:Nat→List Nat) (t:T),St c O ρ σ H Φ→p σ=some t →
 ∃v X F,e ρ H=some (v,H++X)∧RF (H++X) v t F∧(∀a∈F,From H N σ Φ a)∧(u=true→F.Nodup)
noncomputable def Es(O N:List Nat)(u:Bool)(n:Nat)(e:Exs)(p:PEs): Prop:=∀(c:Ctx) (ρ:Lc) (σ:TL) (H:Hp) (Φ:Nat→List Nat) (ts:List T),St c O ρ σ H Φ→p σ=some ts →
 ts.length=n∧∃vs X F,e ρ H=some (vs,H++X)∧RFs (H++X) vs ts F∧(∀a∈F,From H N σ Φ a)∧(u=true→F.Nodup)
noncomputable def Bt(O:List Nat)(e:Ts)(p:PB): Prop:=∀(c:Ctx) (ρ:Lc) (σ:TL) (H:Hp) (Φ:Nat→List Nat) (b:Bool),St c O ρ σ H Φ→p σ=some b→∃X,e ρ H=some (b,H++X)
section
variable {O N:List Nat} {u:Bool}
theorem Zcf{O':List Nat}{e:Ex}{p:PE}(x:E O' N u e p)(h:∀i∈O',i∈O:=by decide): E O N u e p:=fun c ρ σ H Φ t s=>x c ρ σ H Φ t (s.less h)
theorem E.sh{e:Ex}{p:PE}(x:E O N u e p): E O N false e p:=fun c ρ σ H Φ t s q=>by
 obtain⟨v,X,F,a1,a2,a3,a4⟩:=x c ρ σ H Φ t s q
 exact⟨v,X,F,a1,a2,a3,by simp⟩
noncomputable def Zg(k:Int): PE:=fun _=>some (.int k)
noncomputable def ZN: PE:=fun _=>some .none
noncomputable def ZaX(b:Bool): PE:=fun _=>some (.bool b)
noncomputable def Za(i:Nat): PE:=fun σ=>σ i
theorem Zn(k:Int): E O [] true (Zm k) (Zg k):=fun c ρ σ H Φ t s q=>by
 cases q;exact⟨_,[],[],by simp[Zm],.int k,by simp,by simp⟩
theorem Zap: E O [] true Z9 ZN:=fun c ρ σ H Φ t s q=>by
 cases q;exact⟨_,[],[],by simp[Z9],.none,by simp,by simp⟩
theorem E.bool(k:Bool): E O [] true (Za4 k) (ZaX k):=fun c ρ σ H Φ t s q=>by
 cases q;exact⟨_,[],[],by simp[Za4],.bool k,by simp,by simp⟩
theorem Zd(i:Nat): E O [i] false (Zb i) (Za i):=fun c ρ σ H Φ t s q=>by
 obtain⟨v,h1,h2⟩:=s.slot i t q
 exact⟨v,[],Φ i,by simp[Zb,h1],by simpa using h2,fun a m=>.inr ⟨i,List.mem_cons_self,⟨t,q⟩,m⟩,by simp⟩
theorem E.own{i:Nat}(hi:i∈O): E O [i] true (Zb i) (Za i):=fun c ρ σ H Φ t s q=>by
 obtain⟨v,h1,h2⟩:=s.slot i t q
 exact⟨v,[],Φ i,by simp[Zb,h1],by simpa using h2,fun a m=>.inr ⟨i,List.mem_cons_self,⟨t,q⟩,m⟩,fun _=>(s.own i hi t q).1⟩
noncomputable def Zb1(p:PE): PE:=fun σ=>(p σ).bind fun t=>if t.flat then some t else none
theorem E.flat{e:Ex}{p:PE}(x:E O N u e p): E O [] true e (Zb1 p):=fun c ρ σ H Φ t s q=>by
 obtain⟨t',e1,e2⟩:=Zz0.mp q
 by_cases h:t'.flat=true
 ·rw[if_pos h]at e2
  cases e2
  obtain⟨v,X,F,a1,a2,a3,a4⟩:=x c ρ σ H Φ t s e1
  have:=a2.flat h
  subst this
  exact⟨v,X,[],a1,a2,by simp,by simp⟩
 ·rw[if_neg h]at e2;cases e2
noncomputable def Zk: PEs:=fun _=>some []
noncomputable def Ze(p:PE)(q:PEs): PEs:=fun σ=>(p σ).bind fun t=>(q σ).bind fun ts=>some (t::ts)
theorem Zq: Es O [] true 0 Zo Zk:=fun c ρ σ H Φ ts s q=>by
 cases q;exact⟨rfl,[],[],[],by simp[Zo],.nil,by simp,by simp⟩
theorem Zj{M:List Nat}{u':Bool}{n:Nat}{e:Ex}{p:PE}{es:Exs}{ps:PEs}(x:E O N u e p)(y:Es O M u' n es ps): Es O (N++M) false (n+1) (Zf e es) (Ze p ps):=fun c ρ σ H Φ ts s q=>by
 obtain⟨t,e1,q⟩:=Zz0.mp q
 obtain⟨rs,e2,q⟩:=Zz0.mp q
 cases q
 obtain⟨v,X,F,a1,a2,a3,a4⟩:=x c ρ σ H Φ t s e1
 obtain⟨hl,vs,Y,G,b1,b2,b3,b4⟩:=y c ρ σ (H++X) Φ rs (s.ext X) e2
 refine⟨by simp[hl],v::vs,X++Y,F++G,by simp[Zf,a1,b1],?_,fun a m=>?_,by simp⟩
 ·rw[←List.append_assoc];exact .cons (a2.ext Y) b2
 ·rcases Zz8.mp m with m | m
  ·exact(a3 a m).mono fun i hi=>List.mem_append_left _ hi
  ·exact(b3 a m).back.mono fun i hi=>List.mem_append_right _ hi
theorem Zed{M:List Nat}{n:Nat}{e:Ex}{p:PE}{es:Exs}{ps:PEs}(x:E O N true e p)(y:Es O M true n es ps)(hN:∀i∈N,i∈O)(hM:∀i∈N,i∉M): Es O (N++M) true (n+1) (Zf e es) (Ze p ps):=fun c ρ σ H Φ ts s q=>by
 obtain⟨t,e1,q⟩:=Zz0.mp q
 obtain⟨rs,e2,q⟩:=Zz0.mp q
 cases q
 obtain⟨v,X,F,a1,a2,a3,a4⟩:=x c ρ σ H Φ t s e1
 obtain⟨hl,vs,Y,G,b1,b2,b3,b4⟩:=y c ρ σ (H++X) Φ rs (s.ext X) e2
 refine⟨by simp[hl],v::vs,X++Y,F++G,by simp[Zf,a1,b1],?_,fun a m=>?_,fun _=>?_⟩
 ·rw[←List.append_assoc];exact .cons (a2.ext Y) b2
 ·rcases Zz8.mp m with m | m
  ·exact(a3 a m).mono fun i hi=>List.mem_append_left _ hi
  ·exact(b3 a m).back.mono fun i hi=>List.mem_append_right _ hi
 ·rw[List.nodup_append]
  refine⟨a4 rfl,b4 rfl,fun a ha b hb e=>?_⟩
  subst e
  have hlt:=a2.lt a ha
  rcases b3 a hb with h | ⟨j,hj,⟨tj,ej⟩,mj⟩
  ·omega
  ·obtain⟨vj,_,rj⟩:=s.slot j tj ej
   have:=rj.lt a mj
   rcases a3 a ha with h | ⟨i,hi,⟨ti,ei⟩,mi⟩
   ·omega
   ·exact(s.own i (hN i hi) ti ei).2.2 j tj (fun q=>hM i hi (q▸hj)) ej a mi mj
noncomputable def ZaD(p:PEs): PE:=fun σ=>(p σ).map .tup
noncomputable def ZaQ(p:PEs): PE:=fun σ=>(p σ).map .lst
theorem E.tup{n:Nat}{e:Exs}{p:PEs}(x:Es O N u n e p)(hn:n≤LEN:=by decide): E O N u (ZaG e) (ZaD p):=fun c ρ σ H Φ t s q=>by
 obtain⟨ts,e1,e2⟩:=Zz1.mp q
 subst e2
 obtain⟨hl,vs,Y,G,b1,b2,b3,b4⟩:=x c ρ σ H Φ ts s e1
 have:=b2.length
 refine⟨.tup vs,Y,G,?_,.tup b2,b3,b4⟩
 simp only[ZaG,b1,Option.bind_some]
 rw[if_pos (by omega)]
theorem E.list{n:Nat}{e:Exs}{p:PEs}(x:Es O N u n e p)(hn:n≤LEN:=by decide): E O N u (Zbh e) (ZaQ p):=fun c ρ σ H Φ t s q=>by
 obtain⟨ts,e1,e2⟩:=Zz1.mp q
 subst e2
 obtain⟨hl,vs,Y,G,b1,b2,b3,b4⟩:=x c ρ σ H Φ ts s e1
 have:=b2.length
 refine⟨.ref (H++Y).length,Y++[vs],(H++Y).length::G,?_,?_,fun a m=>?_,fun hu=>?_⟩
 ·simp only[Zbh,b1,Option.bind_some]
  rw[if_pos (by omega),List.append_assoc]
 ·rw[←List.append_assoc];exact .ref (by simp) (b2.ext _)
 ·rcases Zz7.mp m with rfl | m
  ·exact .inl (by simp)
  ·exact b3 a m
 ·rw[List.nodup_cons]
  exact⟨fun m=>Nat.lt_irrefl _ (b2.lt _ m),b4 hu⟩
noncomputable def OA2(o:V→V→Hp→Option (V×Hp))(q:T→T→Option T): Prop:=∀(H:Hp) (v1 v2:V) (t1 t2 t:T) (F1 F2:List Nat),RF H v1 t1 F1→RF H v2 t2 F2→q t1 t2=some t→∃v,o v1 v2 H=some (v,H)∧RF H v t []
noncomputable def OI2(o:V→V→Hp→Option (V×Hp))(q:T→T→Option T): Prop:=∀(H:Hp) (v1 v2:V) (t1 t2 t:T) (F1 F2:List Nat),RF H v1 t1 F1→RF H v2 t2 F2→q t1 t2=some t→∃v F,o v1 v2 H=some (v,H)∧RF H v t F∧F.Sublist F1
noncomputable def OC2(o:V→V→Hp→Option (V×Hp))(q:T→T→Option T): Prop:=∀(H:Hp) (v1 v2:V) (t1 t2 t:T) (F1 F2:List Nat),RF H v1 t1 F1→RF H v2 t2 F2→q t1 t2=some t→∃v X F,o v1 v2 H=some (v,H++X)∧RF (H++X) v t F∧(∀a∈F,H.length≤a∨a∈F1∨a∈F2)∧(t.flatIn=true→F.Nodup∧∀a∈F,H.length≤a)
noncomputable def OA1(o:V→Hp→Option (V×Hp))(q:T→Option T): Prop:=∀(H:Hp) (v1:V) (t1 t:T) (F1:List Nat),RF H v1 t1 F1→q t1=some t→∃v,o v1 H=some (v,H)∧RF H v t []
noncomputable def OAn(o:List V→Hp→Option (V×Hp))(q:List T→Option T): Prop:=∀(H:Hp) (vs:List V) (ts:List T) (t:T) (F:List Nat),RFs H vs ts F→q ts=some t→∃v,o vs H=some (v,H)∧RF H v t []
noncomputable def OCn(o:List V→Hp→Option (V×Hp))(q:List T→Option T): Prop:=∀(H:Hp) (vs:List V) (ts:List T) (t:T) (F1:List Nat),0<H.length→RFs H vs ts F1→q ts=some t→∃v X F,o vs H=some (v,H++X)∧RF (H++X) v t F∧(∀a∈F,H.length≤a∨a∈F1)∧(t.flatIn=true→F.Nodup∧∀a∈F,H.length≤a)
noncomputable def Zc(q:T→T→Option T)(p1 p2:PE): PE:=fun σ=>(p1 σ).bind fun x=>(p2 σ).bind fun y=>q x y
noncomputable def pUn(q:T→Option T)(p1:PE): PE:=fun σ=>(p1 σ).bind fun x=>q x
noncomputable def Zs(q:List T→Option T)(ps:PEs): PE:=fun σ=>(ps σ).bind fun xs=>q xs
noncomputable def pFl(p:PE): PE:=fun σ=>(p σ).bind fun t=>if t.flatIn then some t else none
theorem Zhr{M:List Nat}{u':Bool}{e1 e2:Ex}{p1 p2:PE}{q:T→T→Option T}{o:V→V→Hp→Option (V×Hp)}{c:Ctx}{ρ:Lc}{σ:TL}{H:Hp}{Φ:Nat→List Nat}{t:T}(x:E O N u e1 p1)(y:E O M u' e2 p2)(s:St c O ρ σ H Φ)(h:Zc q p1 p2 σ=some t):
  ∃t1 t2 v1 v2 X F1 F2,q t1 t2=some t∧RF (H++X) v1 t1 F1∧RF (H++X) v2 t2 F2∧(∀a∈F1,From H N σ Φ a)∧(∀a∈F2,From H M σ Φ a)∧(u=true→F1.Nodup)∧Zh o e1 e2 ρ H=o v1 v2 (H++X):=by
 obtain⟨t1,h1,h⟩:=Zz0.mp h
 obtain⟨t2,h2,h⟩:=Zz0.mp h
 obtain⟨v,X,F,a1,a2,a3,a4⟩:=x c ρ σ H Φ t1 s h1
 obtain⟨w,Y,G,b1,b2,b3,b4⟩:=y c ρ σ (H++X) Φ t2 (s.ext X) h2
 rw[List.append_assoc]at b1 b2
 refine⟨t1,t2,v,w,X++Y,F,G,h,?_,b2,a3,fun a m=>(b3 a m).back,a4,by simp only[Zh,a1,b1,Option.bind_some]⟩
 rw[←List.append_assoc];exact a2.ext Y
theorem ZG{M:List Nat}{u':Bool}{e1 e2:Ex}{p1 p2:PE}{q:T→T→Option T}{o:V→V→Hp→Option (V×Hp)}(k:OA2 o q)(x:E O N u e1 p1)(y:E O M u' e2 p2): E O [] true (Zh o e1 e2) (Zc q p1 p2):=fun c ρ σ H Φ t s h=>by
 obtain⟨t1,t2,v1,v2,X,F1,F2,hq,r1,r2,_,_,_,e⟩:=Zhr (o:=o) x y s h
 obtain⟨v,h1,h2⟩:=k _ v1 v2 t1 t2 t F1 F2 r1 r2 hq
 exact⟨v,X,[],e.trans h1,h2,by simp,by simp⟩
theorem Zz{M:List Nat}{u':Bool}{e1 e2:Ex}{p1 p2:PE}{q:T→T→Option T}{o:V→V→Hp→Option (V×Hp)}(k:OI2 o q)(x:E O N u e1 p1)(y:E O M u' e2 p2): E O N u (Zh o e1 e2) (Zc q p1 p2):=fun c ρ σ H Φ t s h=>by
 obtain⟨t1,t2,v1,v2,X,F1,F2,hq,r1,r2,h1,_,hu,e⟩:=Zhr (o:=o) x y s h
 obtain⟨v,F,k1,k2,k3⟩:=k _ v1 v2 t1 t2 t F1 F2 r1 r2 hq
 exact⟨v,X,F,e.trans k1,k2,fun a m=>h1 a (k3.subset m),fun h=>(hu h).sublist k3⟩
theorem Z6{M:List Nat}{u':Bool}{e1 e2:Ex}{p1 p2:PE}{q:T→T→Option T}{o:V→V→Hp→Option (V×Hp)}(k:OC2 o q)(x:E O N u e1 p1)(y:E O M u' e2 p2): E O (N++M) false (Zh o e1 e2) (Zc q p1 p2):=fun c ρ σ H Φ t s h=>by
 obtain⟨t1,t2,v1,v2,X,F1,F2,hq,r1,r2,h1,h2,hu,e⟩:=Zhr (o:=o) x y s h
 obtain⟨v,Y,F,k1,k2,k3,k4⟩:=k _ v1 v2 t1 t2 t F1 F2 r1 r2 hq
 rw[List.append_assoc]at k1 k2
 refine⟨v,X++Y,F,e.trans k1,k2,fun a m=>?_,by simp⟩
 rcases k3 a m with h | h | h
 ·exact .inl (by rw[List.length_append]at h;omega)
 ·exact(h1 a h).mono fun i hi=>List.mem_append_left _ hi
 ·exact(h2 a h).mono fun i hi=>List.mem_append_right _ hi
theorem Zmu{M:List Nat}{u':Bool}{e1 e2:Ex}{p1 p2:PE}{q:T→T→Option T}{o:V→V→Hp→Option (V×Hp)}(k:OC2 o q)(x:E O N u e1 p1)(y:E O M u' e2 p2): E O [] true (Zh o e1 e2) (pFl (Zc q p1 p2)):=fun c ρ σ H Φ t s h=>by
 obtain⟨t',h,hf⟩:=Zz0.mp h
 by_cases fl:t'.flatIn=true
 ·rw[if_pos fl]at hf
  cases hf
  obtain⟨t1,t2,v1,v2,X,F1,F2,hq,r1,r2,h1,h2,hu,e⟩:=Zhr (o:=o) x y s h
  obtain⟨v,Y,F,k1,k2,k3,k4⟩:=k _ v1 v2 t1 t2 t F1 F2 r1 r2 hq
  rw[List.append_assoc]at k1 k2
  exact⟨v,X++Y,F,e.trans k1,k2,fun a m=>.inl (by have:=(k4 fl).2 a m;rw[List.length_append]at this;omega),fun _=>(k4 fl).1⟩
 ·rw[if_neg fl]at hf;cases hf
theorem Zfc{e1:Ex}{p1:PE}{q:T→Option T}{o:V→Hp→Option (V×Hp)}(k:OA1 o q)(x:E O N u e1 p1): E O [] true (eUn o e1) (pUn q p1):=fun c ρ σ H Φ t s h=>by
 obtain⟨t1,h1,h⟩:=Zz0.mp h
 obtain⟨v,X,F,a1,a2,a3,a4⟩:=x c ρ σ H Φ t1 s h1
 obtain⟨w,b1,b2⟩:=k _ v t1 t F a2 h
 exact⟨w,X,[],by simp only[eUn,a1,Option.bind_some,b1],b2,by simp,by simp⟩
theorem ZaO{n:Nat}{es:Exs}{ps:PEs}{q:List T→Option T}{o:List V→Hp→Option (V×Hp)}(k:OAn o q)(x:Es O N u n es ps): E O [] true (Zu o es) (Zs q ps):=fun c ρ σ H Φ t s h=>by
 obtain⟨ts,h1,h⟩:=Zz0.mp h
 obtain⟨_,vs,X,F,a1,a2,a3,a4⟩:=x c ρ σ H Φ ts s h1
 obtain⟨w,b1,b2⟩:=k _ vs ts t F a2 h
 exact⟨w,X,[],by simp only[Zu,a1,Option.bind_some,b1],b2,by simp,by simp⟩
theorem Zf7{n:Nat}{es:Exs}{ps:PEs}{q:List T→Option T}{o:List V→Hp→Option (V×Hp)}(k:OCn o q)(x:Es O N u n es ps): E O N false (Zu o es) (Zs q ps):=fun c ρ σ H Φ t s h=>by
 obtain⟨ts,h1,h⟩:=Zz0.mp h
 obtain⟨_,vs,X,F,a1,a2,a3,a4⟩:=x c ρ σ H Φ ts s h1
 have hp:0<(H++X).length:=by have:=s.pos;have:=s.len;rw[List.length_append];omega
 obtain⟨w,Y,G,b1,b2,b3,b4⟩:=k _ vs ts t F hp a2 h
 rw[List.append_assoc]at b1 b2
 refine⟨w,X++Y,G,by simp only[Zu,a1,Option.bind_some,b1],b2,fun a m=>?_,by simp⟩
 rcases b3 a m with h | h
 ·exact .inl (by rw[List.length_append]at h;omega)
 ·exact a3 a h
theorem Zuw{n:Nat}{es:Exs}{ps:PEs}{q:List T→Option T}{o:List V→Hp→Option (V×Hp)}(k:OCn o q)(x:Es O N u n es ps): E O [] true (Zu o es) (pFl (Zs q ps)):=fun c ρ σ H Φ t s h=>by
 obtain⟨t',h,hf⟩:=Zz0.mp h
 by_cases fl:t'.flatIn=true
 ·rw[if_pos fl]at hf
  cases hf
  obtain⟨ts,h1,h⟩:=Zz0.mp h
  obtain⟨_,vs,X,F,a1,a2,a3,a4⟩:=x c ρ σ H Φ ts s h1
  have hp:0<(H++X).length:=by have:=s.pos;have:=s.len;rw[List.length_append];omega
  obtain⟨w,Y,G,b1,b2,b3,b4⟩:=k _ vs ts t F hp a2 h
  rw[List.append_assoc]at b1 b2
  exact⟨w,X++Y,G,by simp only[Zu,a1,Option.bind_some,b1],b2,fun a m=>.inl (by have:=(b4 fl).2 a m;rw[List.length_append]at this;omega),fun _=>(b4 fl).1⟩
 ·rw[if_neg fl]at hf;cases hf
noncomputable def SimF(fr:Bool)(f:List V→Hp→Option (V×Hp))(p:List T→Option T): Prop:=∀(H:Hp) (vs:List V) (ts:List T) (t:T) (F1:List Nat),0<H.length→RFs H vs ts F1→p ts=some t→∃v X F,f vs H=some (v,H++X)∧RF (H++X) v t F∧(∀a∈F,H.length≤a∨a∈F1)∧(fr=true→F.Nodup∧∀a∈F,H.length≤a)
theorem ZP{fr:Bool}{n:Nat}{es:Exs}{ps:PEs}{q:List T→Option T}{o:List V→Hp→Option (V×Hp)}(k:SimF fr o q)(x:Es O N u n es ps): E O N false (Zu o es) (Zs q ps):=fun c ρ σ H Φ t s h=>by
 obtain⟨ts,h1,h⟩:=Zz0.mp h
 obtain⟨_,vs,X,F,a1,a2,a3,a4⟩:=x c ρ σ H Φ ts s h1
 have hp:0<(H++X).length:=by have:=s.pos;have:=s.len;rw[List.length_append];omega
 obtain⟨w,Y,G,b1,b2,b3,b4⟩:=k _ vs ts t F hp a2 h
 rw[List.append_assoc]at b1 b2
 refine⟨w,X++Y,G,by simp only[Zu,a1,Option.bind_some,b1],b2,fun a m=>?_,by simp⟩
 rcases b3 a m with h | h
 ·exact .inl (by rw[List.length_append]at h;omega)
 ·exact a3 a h
theorem ZcW{n:Nat}{es:Exs}{ps:PEs}{q:List T→Option T}{o:List V→Hp→Option (V×Hp)}(k:SimF true o q)(x:Es O N u n es ps): E O [] true (Zu o es) (Zs q ps):=fun c ρ σ H Φ t s h=>by
 obtain⟨ts,h1,h⟩:=Zz0.mp h
 obtain⟨_,vs,X,F,a1,a2,a3,a4⟩:=x c ρ σ H Φ ts s h1
 have hp:0<(H++X).length:=by have:=s.pos;have:=s.len;rw[List.length_append];omega
 obtain⟨w,Y,G,b1,b2,b3,b4⟩:=k _ vs ts t F hp a2 h
 rw[List.append_assoc]at b1 b2
 exact⟨w,X++Y,G,by simp only[Zu,a1,Option.bind_some,b1],b2,fun a m=>.inl (by have:=(b4 rfl).2 a m;rw[List.length_append]at this;omega),fun _=>(b4 rfl).1⟩
noncomputable def ZbM: T→Option Bool
 | .bool b=>some b
 | .none=>some false
 | .int i=>some (i != 0)
 | _=>none
theorem ZdU{H:Hp}{v:V}{t:T}{F:List Nat}{b:Bool}(r:RF H v t F)(h:ZbM t=some b): ZcD v H=some b:=by
 cases r <;> first | (cases h;rfl) | cases h
noncomputable def Zx(p:PE): PB:=fun σ=>(p σ).bind ZbM
noncomputable def Zbp(p:PB): PB:=fun σ=>(p σ).map fun b=>!b
noncomputable def Z4: PB:=fun _=>some true
noncomputable def Zb0: PB:=fun _=>some false
noncomputable def ZaB(p q:PB): PB:=fun σ=>(p σ).bind fun b=>if b then q σ else some false
noncomputable def bOr(p q:PB): PB:=fun σ=>(p σ).bind fun b=>if b then some true else q σ
noncomputable def bIf(p q r:PB): PB:=fun σ=>(p σ).bind fun b=>if b then q σ else r σ
theorem ZT{e:Ex}{p:PE}(x:E O N u e p): Bt O (ZM e) (Zx p):=fun c ρ σ H Φ b s h=>by
 obtain⟨t,h1,h⟩:=Zz0.mp h
 obtain⟨v,X,F,a1,a2,a3,a4⟩:=x c ρ σ H Φ t s h1
 exact⟨X,by simp only[ZM,a1,Option.bind_some,ZdU a2 h,Option.map_some]⟩
theorem Zcc{e:Ts}{p:PB}(x:Bt O e p): Bt O (Zb2 e) (Zbp p):=fun c ρ σ H Φ b s h=>by
 obtain⟨t,h1,h⟩:=Zz1.mp h
 subst h
 obtain⟨X,a1⟩:=x c ρ σ H Φ t s h1
 exact⟨X,by simp only[Zb2,a1,Option.map_some]⟩
theorem ZaL: Bt O Zaw Z4:=fun c ρ σ H Φ b s h=>by
 cases h;exact⟨[],by simp[Zaw]⟩
theorem Zct: Bt O Zca Zb0:=fun c ρ σ H Φ b s h=>by
 cases h;exact⟨[],by simp[Zca]⟩
theorem ZbN{e f:Ts}{p q:PB}(x:Bt O e p)(y:Bt O f q): Bt O (Zbj e f) (ZaB p q):=fun c ρ σ H Φ b s h=>by
 obtain⟨t,h1,h⟩:=Zz0.mp h
 obtain⟨X,a1⟩:=x c ρ σ H Φ t s h1
 cases t with
 | true=>
  obtain⟨Y,b1⟩:=y c ρ σ (H++X) Φ b (s.ext X) (by simpa using h)
  exact⟨X++Y,by simp[Zbj,a1,b1]⟩
 | false=>cases h;exact⟨X,by simp[Zbj,a1]⟩
theorem ZaY{e f:Ts}{p q:PB}(x:Bt O e p)(y:Bt O f q): Bt O (tOr e f) (bOr p q):=fun c ρ σ H Φ b s h=>by
 obtain⟨t,h1,h⟩:=Zz0.mp h
 obtain⟨X,a1⟩:=x c ρ σ H Φ t s h1
 cases t with
 | false=>
  obtain⟨Y,b1⟩:=y c ρ σ (H++X) Φ b (s.ext X) (by simpa using h)
  exact⟨X++Y,by simp[tOr,a1,b1]⟩
 | true=>cases h;exact⟨X,by simp[tOr,a1]⟩
theorem Zw8{e f g:Ts}{p q r:PB}(x:Bt O e p)(y:Bt O f q)(z:Bt O g r): Bt O (tIf e f g) (bIf p q r):=fun c ρ σ H Φ b s h=>by
 obtain⟨t,h1,h⟩:=Zz0.mp h
 obtain⟨X,a1⟩:=x c ρ σ H Φ t s h1
 cases t with
 | true=>
  obtain⟨Y,b1⟩:=y c ρ σ (H++X) Φ b (s.ext X) (by simpa using h)
  exact⟨X++Y,by simp[tIf,a1,b1]⟩
 | false=>
  obtain⟨Y,b1⟩:=z c ρ σ (H++X) Φ b (s.ext X) (by simpa using h)
  exact⟨X++Y,by simp[tIf,a1,b1]⟩
noncomputable def pIf(b:PB)(p q:PE): PE:=fun σ=>(b σ).bind fun x=>if x then p σ else q σ
noncomputable def Ziu(p:PE): PE:=fun σ=>(p σ).bind fun t=>(ZbM t).map fun b=>.bool !b
noncomputable def Zdt(p q:PE): PE:=fun σ=>(p σ).bind fun t=>(ZbM t).bind fun b=>if b then q σ else some t
noncomputable def pOr(p q:PE): PE:=fun σ=>(p σ).bind fun t=>(ZbM t).bind fun b=>if b then some t else q σ
theorem Zfd{M:List Nat}{b:Ts}{pb:PB}{e f:Ex}{p q:PE}(z:Bt O b pb)(x:E O N u e p)(y:E O M u f q): E O (N++M) u (eIf b e f) (pIf pb p q):=fun c ρ σ H Φ t s h=>by
 obtain⟨b',h1,h⟩:=Zz0.mp h
 obtain⟨X,a1⟩:=z c ρ σ H Φ b' s h1
 cases b' with
 | true=>
  obtain⟨v,Y,F,b1,b2,b3,b4⟩:=x c ρ σ (H++X) Φ t (s.ext X) (by simpa using h)
  exact⟨v,X++Y,F,by simp[eIf,a1,b1],by rw[←List.append_assoc];exact b2,fun a m=>(b3 a m).back.mono fun i hi=>List.mem_append_left _ hi,b4⟩
 | false=>
  obtain⟨v,Y,F,b1,b2,b3,b4⟩:=y c ρ σ (H++X) Φ t (s.ext X) (by simpa using h)
  exact⟨v,X++Y,F,by simp[eIf,a1,b1],by rw[←List.append_assoc];exact b2,fun a m=>(b3 a m).back.mono fun i hi=>List.mem_append_right _ hi,b4⟩
theorem ZwB{e:Ex}{p:PE}(x:E O N u e p): E O [] true (Zir e) (Ziu p):=fun c ρ σ H Φ t s h=>by
 obtain⟨t1,h1,h⟩:=Zz0.mp h
 obtain⟨b,h2,h⟩:=Zz1.mp h
 subst h
 obtain⟨v,X,F,a1,a2,a3,a4⟩:=x c ρ σ H Φ t1 s h1
 exact⟨.bool !b,X,[],by simp only[Zir,a1,Option.bind_some,ZdU a2 h2,Option.map_some],.bool _,by simp,by simp⟩
theorem Zgx{M:List Nat}{e f:Ex}{p q:PE}(x:E O N u e p)(y:E O M u f q): E O (N++M) u (ZdJ e f) (Zdt p q):=fun c ρ σ H Φ t s h=>by
 obtain⟨t1,h1,h⟩:=Zz0.mp h
 obtain⟨b,h2,h⟩:=Zz0.mp h
 obtain⟨v,X,F,a1,a2,a3,a4⟩:=x c ρ σ H Φ t1 s h1
 cases b with
 | true=>
  obtain⟨w,Y,F',b1,b2,b3,b4⟩:=y c ρ σ (H++X) Φ t (s.ext X) (by simpa using h)
  exact⟨w,X++Y,F',by simp[ZdJ,a1,ZdU a2 h2,b1],by rw[←List.append_assoc];exact b2,fun a m=>(b3 a m).back.mono fun i hi=>List.mem_append_right _ hi,b4⟩
 | false=>
  cases h
  exact⟨v,X,F,by simp[ZdJ,a1,ZdU a2 h2],a2,fun a m=>(a3 a m).mono fun i hi=>List.mem_append_left _ hi,a4⟩
theorem Zw0{M:List Nat}{e f:Ex}{p q:PE}(x:E O N u e p)(y:E O M u f q): E O (N++M) u (eOr e f) (pOr p q):=fun c ρ σ H Φ t s h=>by
 obtain⟨t1,h1,h⟩:=Zz0.mp h
 obtain⟨b,h2,h⟩:=Zz0.mp h
 obtain⟨v,X,F,a1,a2,a3,a4⟩:=x c ρ σ H Φ t1 s h1
 cases b with
 | false=>
  obtain⟨w,Y,F',b1,b2,b3,b4⟩:=y c ρ σ (H++X) Φ t (s.ext X) (by simpa using h)
  exact⟨w,X++Y,F',by simp[eOr,a1,ZdU a2 h2,b1],by rw[←List.append_assoc];exact b2,fun a m=>(b3 a m).back.mono fun i hi=>List.mem_append_right _ hi,b4⟩
 | true=>
  cases h
  exact⟨v,X,F,by simp[eOr,a1,ZdU a2 h2],a2,fun a m=>(a3 a m).mono fun i hi=>List.mem_append_left _ hi,a4⟩
noncomputable def Zl4: T→String
 | .none=>"NoneType"
 | .bool _=>"bool"
 | .int _=>"int"
 | .str _=>"str"
 | .tup _=>"tuple"
 | .lst _=>"list"
end
end TM
end
section
set_option autoImplicit false
namespace TM
open PySem PM
section
variable {O N:List Nat} {u:Bool}
noncomputable def ZhQ(K:String)(t:T): Bool:=Zl4 t == K || (K == "int" && Zl4 t == "bool")
noncomputable def pIs(K:String)(p:PE): PE:=fun σ=>(p σ).map fun t=>.bool (ZhQ K t)
theorem Zux{H:Hp}{v:V}{t:T}{F:List Nat}(r:RF H v t F): Zl3 v=Zl4 t:=by cases r <;> rfl
theorem ZdL{K:String}{e:Ex}{p:PE}(x:E O N u e p): E O [] true (eIs K e) (pIs K p):=fun c ρ σ H Φ t s h=>by
 obtain⟨t1,h1,h⟩:=Zz1.mp h
 subst h
 obtain⟨v,X,F,a1,a2,a3,a4⟩:=x c ρ σ H Φ t1 s h1
 exact⟨.bool (ZhQ K t1),X,[],by simp only[eIs,a1,Option.map_some,Zmq,ZhQ,Zux a2],.bool _,by simp,by simp⟩
noncomputable def ZaM: T→T→Option T
 | .int a,.int b=>some (.int (a-b))
 | _,_=>none
noncomputable def ZcH: T→T→Option T
 | .int a,.int b=>if b≠0∧Builtin.divisionGoesByPylong a b=false then some (.int (a.fdiv b))else none
 | _,_=>none
noncomputable def Za0: T→T→Option T
 | .int a,.int b=>if b≠0 then some (.int (a.fmod b))else none
 | _,_=>none
noncomputable def Zdh: T→T→Option T
 | .int a,.int b=>if 0≤b∧(Builtin.Int.intBits a:Int)*b≤2 ^ 27 then some (.int (a ^ b.toNat))else none
 | _,_=>none
noncomputable def Zc1: T→Option T
 | .int a=>some (.int (-a))
 | _=>none
noncomputable def Ziv(p:Int→Int→Bool): T→T→Option T
 | .int a,.int b=>some (.bool (p a b))
 | _,_=>none
noncomputable def qLt:=Ziv fun a b=>decide (a<b)
noncomputable def qLe:=Ziv fun a b=>decide (a≤b)
noncomputable def qGt:=Ziv fun a b=>decide (b<a)
theorem ZbB: OA2 Zbo ZaM:=fun H v1 v2 t1 t2 t F1 F2 r1 r2 h=>by
 cases r1 <;> first | (cases h;done) | (cases r2 <;> first | (cases h;done) | (cases h;exact⟨_,rfl,.int _⟩))
theorem Zfe: OA2 oDiv ZcH:=fun H v1 v2 t1 t2 t F1 F2 r1 r2 h=>by
 cases r1 <;> first | (cases h;done) | skip
 cases r2 <;> first | (cases h;done) | skip
 simp only[ZcH]at h
 split at h
 ·rename_i hc;cases h;exact⟨_,by simp only[oDiv];rw[if_pos hc],.int _⟩
 ·cases h
theorem Zbm: OA2 oMod Za0:=fun H v1 v2 t1 t2 t F1 F2 r1 r2 h=>by
 cases r1 <;> first | (cases h;done) | skip
 cases r2 <;> first | (cases h;done) | skip
 simp only[Za0]at h
 split at h
 ·rename_i hc;cases h;exact⟨_,by simp only[oMod];rw[if_pos hc],.int _⟩
 ·cases h
theorem ZmR: OA2 oPow Zdh:=fun H v1 v2 t1 t2 t F1 F2 r1 r2 h=>by
 cases r1 <;> first | (cases h;done) | skip
 cases r2 <;> first | (cases h;done) | skip
 simp only[Zdh]at h
 split at h
 ·rename_i hc;cases h;exact⟨_,by simp only[oPow];rw[if_pos hc],.int _⟩
 ·cases h
theorem Zff: OA1 Zd4 Zc1:=fun H v1 t1 t F1 r1 h=>by
 cases r1 <;> first | (cases h;done) | (cases h;exact⟨_,rfl,.int _⟩)
theorem ZmS(p:Int→Int→Bool): OA2 (Zis p) (Ziv p):=fun H v1 v2 t1 t2 t F1 F2 r1 r2 h=>by
 cases r1 <;> first | (cases h;done) | (cases r2 <;> first | (cases h;done) | (cases h;exact⟨_,rfl,.bool _⟩))
theorem Zd6: OA2 oLt qLt:=ZmS _
theorem Ziw: OA2 oLe qLe:=ZmS _
theorem Zfk: OA2 oGt qGt:=ZmS _
noncomputable def Zer(f:T→Option PyData): List T→Option (List PyData)
 | []=>some []
 | v::vs=>(f v).bind fun d=>(Zer f vs).bind fun ds=>some (d::ds)
noncomputable def ZcI: Nat→T→Option PyData
 | _,.none=>some .none
 | _,.bool b=>some (.bool b)
 | _,.int i=>some (.int i)
 | _,.str x=>some (.str x)
 | n+1,.tup vs=>(Zer (ZcI n) vs).map .tuple
 | n+1,.lst vs=>(Zer (ZcI n) vs).map .list
 | 0,.tup _=>none
 | 0,.lst _=>none
theorem Zl5{H:Hp}{f:V→Option PyData}{g:T→Option PyData}(h:∀v t F,RF H v t F→f v=g t): ∀{vs:List V} {ts:List T} {F:List Nat},RFs H vs ts F→Zfj f vs=Zer g ts
 | _,_,_,.nil=>rfl
 | _,_,_,.cons a b=>by simp only[Zfj,Zer,h _ _ _ a,Zl5 h b]
theorem Zh8{H:Hp}: ∀(n:Nat) (v:V) (t:T) (F:List Nat),RF H v t F→toD H n v=ZcI n t:=by
 intro n
 induction n with
 | zero=>intro v t F r;cases r <;> rfl
 | succ n ih=>
  intro v t F r
  cases r with
  | none=>rfl
  | bool=>rfl
  | int=>rfl
  | str=>rfl
  | tup hs=>simp only[toD,ZcI,Zl5 ih hs]
  | ref e hs=>simp only[toD,ZcI,e,Option.bind_some,Zl5 ih hs]
noncomputable def Zd7(a b:T): Option Bool:=(ZcI ZbP a).bind fun d=>(ZcI ZbP b).bind fun e=>if SeqAt.shaped d=true∧SeqAt.shaped e=true then some (PyData.eqv d e)else none
noncomputable def qEq(a b:T): Option T:=(Zd7 a b).map .bool
noncomputable def qNe(a b:T): Option T:=(Zd7 a b).map fun c=>.bool !c
theorem ZpL{H:Hp}{v1 v2:V}{t1 t2:T}{F1 F2:List Nat}(r1:RF H v1 t1 F1)(r2:RF H v2 t2 F2): Zit v1 v2 H=Zd7 t1 t2:=by
 simp only[Zit,Zd7,Zh8 ZbP _ _ _ r1,Zh8 ZbP _ _ _ r2]
theorem ZaV: OA2 oEq qEq:=fun H v1 v2 t1 t2 t F1 F2 r1 r2 h=>by
 obtain⟨c,h1,h⟩:=Zz1.mp h
 subst h
 exact⟨_,by simp only[oEq,ZpL r1 r2,h1,Option.map_some],.bool _⟩
theorem Zci: OA2 oNe qNe:=fun H v1 v2 t1 t2 t F1 F2 r1 r2 h=>by
 obtain⟨c,h1,h⟩:=Zz1.mp h
 subst h
 exact⟨_,by simp only[oNe,ZpL r1 r2,h1,Option.map_some],.bool _⟩
noncomputable def qIs: T→T→Option T
 | .none,.none=>some (.bool true)
 | _,.none=>some (.bool false)
 | _,_=>none
noncomputable def Zb5: T→T→Option T
 | .none,.none=>some (.bool false)
 | _,.none=>some (.bool true)
 | _,_=>none
theorem Zb4: OA2 oIs qIs:=fun H v1 v2 t1 t2 t F1 F2 r1 r2 h=>by
 cases r1 <;> cases r2 <;> first | (cases h;done) | (cases h;exact⟨_,rfl,.bool _⟩)
theorem ZdV: OA2 Zdn Zb5:=fun H v1 v2 t1 t2 t F1 F2 r1 r2 h=>by
 cases r1 <;> cases r2 <;> first | (cases h;done) | (cases h;exact⟨_,rfl,.bool _⟩)
noncomputable def Zl: T→T→Option T
 | .lst ts,.int k=>(seqIndex? k ts.length).bind fun j=>ts[j]?
 | .tup ts,.int k=>(seqIndex? k ts.length).bind fun j=>ts[j]?
 | _,_=>none
theorem Zy: OI2 Zt Zl:=fun H v1 v2 t1 t2 t F1 F2 r1 r2 h=>by
 cases r1 with
 | none=>cases h
 | bool=>cases h
 | int=>cases h
 | str=>cases h
 | tup hs=>
  cases r2 <;> first | (cases h;done) | skip
  obtain⟨j,h1,h2⟩:=Zz0.mp h
  obtain⟨v,G,e1,e2,e3⟩:=hs.at h2
  exact⟨v,G,by simp only[Zt,hs.length,h1,Option.bind_some,e1,Option.map_some],e2,e3⟩
 | ref e hs=>
  cases r2 <;> first | (cases h;done) | skip
  obtain⟨j,h1,h2⟩:=Zz0.mp h
  obtain⟨v,G,e1,e2,e3⟩:=hs.at h2
  exact⟨v,G,by simp only[Zt,e,Option.bind_some,hs.length,h1,e1,Option.map_some],e2,e3.trans (List.sublist_cons_self _ _)⟩
noncomputable def Zat: List T→Option T
 | [.lst ts]=>some (.int ts.length)
 | [.tup ts]=>some (.int ts.length)
 | _=>none
theorem RFs.one_inv{H:Hp}{vs:List V}{t:T}{F:List Nat}(r:RFs H vs [t] F): ∃v,vs=[v]∧RF H v t F:=by
 cases r with
 | cons a b=>cases b;rw[List.append_nil];exact⟨_,rfl,a⟩
theorem RFs.two_inv{H:Hp}{vs:List V}{t t':T}{F:List Nat}(r:RFs H vs [t,t'] F): ∃v v' F1 F2,vs=[v,v']∧RF H v t F1∧RF H v' t' F2∧F=F1++F2:=by
 cases r with
 | cons a b=>obtain⟨v',h1,h2⟩:=b.one_inv;subst h1;exact⟨_,_,_,_,rfl,a,h2,rfl⟩
theorem Za8: OAn ZaS Zat:=fun H vs ts t F r h=>by
 unfold Zat at h
 split at h
 ·obtain⟨v,rfl,r'⟩:=r.one_inv
  cases r' with
  | ref e hs=>cases h;exact⟨_,by simp only[ZaS,e,Option.map_some,hs.length],.int _⟩
 ·obtain⟨v,rfl,r'⟩:=r.one_inv
  cases r' with
  | tup hs=>cases h;exact⟨_,by simp only[ZaS,hs.length],.int _⟩
 ·cases h
noncomputable def Zdu: List T→Option T
 | [.int a]=>some (.int (if a<0 then -a else a))
 | _=>none
theorem Zgy: OAn Zd5 Zdu:=fun H vs ts t F r h=>by
 unfold Zdu at h
 split at h
 ·obtain⟨v,rfl,r'⟩:=r.one_inv
  cases r';cases h;exact⟨_,rfl,.int _⟩
 ·cases h
noncomputable def Zdf: List T→Option (List Int)
 | []=>some []
 | .int k::vs=>(Zdf vs).map fun ks=>k::ks
 | _::_=>none
noncomputable def Ze2: List T→Option (List Bool)
 | []=>some []
 | .bool k::vs=>(Ze2 vs).map fun ks=>k::ks
 | _::_=>none
theorem ZhR{H:Hp}: ∀{vs:List V} {ts:List T} {F:List Nat} {ks:List Int},RFs H vs ts F→Zdf ts=some ks→Zdo vs=some ks
 | _,_,_,_,.nil,h=>h
 | _,_,_,_,.cons a b,h=>by
  cases a <;> first | (cases h;done) | skip
  obtain⟨js,h1,h2⟩:=Zz1.mp h
  subst h2
  simp only[Zdo,ZhR b h1,Option.map_some]
theorem Zov{H:Hp}: ∀{vs:List V} {ts:List T} {F:List Nat} {ks:List Bool},RFs H vs ts F→Ze2 ts=some ks→ZeT vs=some ks
 | _,_,_,_,.nil,h=>h
 | _,_,_,_,.cons a b,h=>by
  cases a <;> first | (cases h;done) | skip
  obtain⟨js,h1,h2⟩:=Zz1.mp h
  subst h2
  simp only[ZeT,Zov b h1,Option.map_some]
noncomputable def Zix: List T→Option T
 | [.lst ts]=>(Zdf ts).map fun ks=>.int ks.sum
 | _=>none
noncomputable def ZgI: List T→Option T
 | [.lst ts]=>(Ze2 ts).map fun bs=>.bool (bs.any id)
 | _=>none
theorem ZwC: OAn ZgF Zix:=fun H vs ts t F r h=>by
 unfold Zix at h
 split at h
 ·obtain⟨v,rfl,r'⟩:=r.one_inv
  cases r' with
  | ref e hs=>
   obtain⟨ks,h1,h2⟩:=Zz1.mp h
   subst h2
   exact⟨_,by simp only[ZgF,e,Option.bind_some,ZhR hs h1,Option.map_some],.int _⟩
 ·cases h
theorem ZwD: OAn ZgH ZgI:=fun H vs ts t F r h=>by
 unfold ZgI at h
 split at h
 ·obtain⟨v,rfl,r'⟩:=r.one_inv
  cases r' with
  | ref e hs=>
   obtain⟨ks,h1,h2⟩:=Zz1.mp h
   subst h2
   exact⟨_,by simp only[ZgH,e,Option.bind_some,Zov hs h1,Option.map_some],.bool _⟩
 ·cases h
theorem ZdM{H:Hp}{vs:List V}{ts:List T}{F:List Nat}(r:RFs H vs ts F): RF (H++[vs]) (.ref H.length) (.lst ts) (H.length::F):=.ref (by simp) (r.ext _)
theorem ZeI{H:Hp}{vs:List V}{ts:List T}{F:List Nat}(r:RFs H vs ts F)(h:T.flatIn (.lst ts)=true): (H.length::F).Nodup∧∀a∈H.length::F,H.length≤a:=by
 rw[r.flats (by simpa [T.flatIn]using h)]
 simp
theorem ZtA{H:Hp}{v:V}{t:T}{F:List Nat}(r:RF H v t F)(h:F=[]): F.Nodup∧∀a∈F,H.length≤a:=by subst h;simp
noncomputable def ZgJ(ts:List T): Nat→List T
 | 0=>[]
 | n+1=>ZgJ ts n++ts
noncomputable def ZV: T→T→Option T
 | .int a,.int b=>some (.int (a+b))
 | .lst a,.lst b=>if(a++b).length≤LEN then some (.lst (a++b))else none
 | .tup a,.tup b=>if(a++b).length≤LEN then some (.tup (a++b))else none
 | _,_=>none
noncomputable def ZaC: T→T→Option T
 | .int a,.int b=>if mulOk a b=true then some (.int (a*b))else none
 | .lst a,.int k=>if a.length*k.toNat≤LEN∧-(2 ^ 63:Int)≤k∧k<2 ^ 63 then some (.lst (ZgJ a k.toNat))else none
 | _,_=>none
theorem ZpM{H:Hp}{vs:List V}{ts:List T}{F:List Nat}(r:RFs H vs ts F): ∀n,∃G,RFs H (Zev vs n) (ZgJ ts n) G∧∀a∈G,a∈F
 | 0=>⟨_,.nil,by simp⟩
 | n+1=>by
  obtain⟨G,h1,h2⟩:=ZpM r n
  exact⟨_,h1.append r,fun a m=>(Zz8.mp m).elim (h2 a) id⟩
theorem Zal: OC2 Zab ZV:=fun H v1 v2 t1 t2 t F1 F2 r1 r2 h=>by
 cases r1 with
 | none=>cases h
 | bool=>cases h
 | str=>cases h
 | int a=>
  cases r2 <;> first | (cases h;done) | skip
  cases h;exact⟨_,[],[],by simp[Zab],.int _,by simp,by simp⟩
 | tup hs1=>
  cases r2 with
  | none=>cases h
  | bool=>cases h
  | str=>cases h
  | int=>cases h
  | ref=>cases h
  | tup hs2=>
   simp only[ZV]at h
   split at h
   ·rename_i hl
    cases h
    refine⟨_,[],_,?_,.tup (by simpa using hs1.append hs2),fun a m=>.inr (Zz8.mp m),fun hf=>ZtA (H:=H) (.tup (hs1.append hs2)) ((RF.tup (hs1.append hs2)).flat (by simpa [T.flatIn]using hf))⟩
    simp only[Zab,List.append_nil]
    rw[if_pos (by rw[List.length_append]at hl ⊢;rw[hs1.length,hs2.length];exact hl)]
   ·cases h
 | ref e1 hs1=>
  cases r2 with
  | none=>cases h
  | bool=>cases h
  | str=>cases h
  | int=>cases h
  | tup=>cases h
  | ref e2 hs2=>
   simp only[ZV]at h
   split at h
   ·rename_i hl
    cases h
    refine⟨_,_,_,?_,ZdM (hs1.append hs2),fun a m=>?_,ZeI (hs1.append hs2)⟩
    ·simp only[Zab,e1,e2,Option.bind_some]
     rw[if_pos (by rw[List.length_append]at hl ⊢;rw[hs1.length,hs2.length];exact hl)]
    ·rcases Zz7.mp m with rfl | m
     ·exact .inl (Zz10 _)
     ·rcases Zz8.mp m with m | m
      ·exact .inr (.inl (Zz2 _ m))
      ·exact .inr (.inr (Zz2 _ m))
   ·cases h
theorem Zbv: OC2 Za7 ZaC:=fun H v1 v2 t1 t2 t F1 F2 r1 r2 h=>by
 cases r1 with
 | none=>cases h
 | bool=>cases h
 | str=>cases h
 | tup=>cases h
 | int a=>
  cases r2 <;> first | (cases h;done) | skip
  simp only[ZaC]at h
  split at h
  ·rename_i hm
   cases h;exact⟨_,[],[],by simp only[Za7];rw[if_pos hm];simp,.int _,by simp,by simp⟩
  ·cases h
 | ref e1 hs1=>
  cases r2 with
  | none=>cases h
  | bool=>cases h
  | str=>cases h
  | tup=>cases h
  | ref=>cases h
  | int k=>
   simp only[ZaC]at h
   split at h
   ·rename_i hl
    cases h
    obtain⟨G,h1,h2⟩:=ZpM hs1 k.toNat
    refine⟨_,_,_,?_,ZdM h1,fun a m=>?_,ZeI h1⟩
    ·simp only[Za7,e1,Option.bind_some]
     rw[if_pos (by rw[hs1.length];exact hl)]
    ·rcases Zz7.mp m with rfl | m
     ·exact .inl (Zz10 _)
     ·exact .inr (.inl (Zz2 _ (h2 a m)))
   ·cases h
noncomputable def Zcx: List T→Option T
 | [.lst ts]=>some (.lst ts)
 | [.tup ts]=>some (.lst ts)
 | _=>none
noncomputable def ZhS: List T→Option T
 | [.lst ts]=>some (.tup ts)
 | [.tup ts]=>some (.tup ts)
 | _=>none
theorem ZhT: OCn ZdE Zcx:=fun H vs ts t F hp r h=>by
 unfold Zcx at h
 split at h
 ·obtain⟨v,rfl,r'⟩:=r.one_inv
  cases r' with
  | ref e hs=>cases h;exact⟨_,_,_,by simp only[ZdE,e,Option.map_some],ZdM hs,fun a m=>(Zz7.mp m).imp (fun q=>Nat.le_of_eq q.symm) (Zz2 _),ZeI hs⟩
 ·obtain⟨v,rfl,r'⟩:=r.one_inv
  cases r' with
  | tup hs=>cases h;exact⟨_,_,_,by simp only[ZdE],ZdM hs,fun a m=>(Zz7.mp m).imp (fun q=>Nat.le_of_eq q.symm) id,ZeI hs⟩
 ·cases h
end
end TM
end
section
set_option autoImplicit false
namespace TM
open PySem PM
theorem St.from_src{c:Ctx}{O N:List Nat}{ρ:Lc}{σ:TL}{H:Hp}{Φ:Nat→List Nat}(s:St c O ρ σ H Φ){a:Nat}(f:From H N σ Φ a): c.H0.length≤a∨c.P a:=by
 rcases f with h | ⟨i,hi,⟨t,e⟩,m⟩
 ·exact .inl (Nat.le_trans s.len h)
 ·exact s.src i t e a m
theorem St.from_off{c:Ctx}{O N:List Nat}{ρ:Lc}{σ:TL}{H:Hp}{Φ:Nat→List Nat}(s:St c O ρ σ H Φ)(hN:∀i∈N,i∉O){a:Nat}(f:From H N σ Φ a){i:Nat}(hi:i∈O){t:T}(e:σ i=some t): a∉Φ i:=by
 intro m
 obtain⟨v,_,r⟩:=s.slot i t e
 have hl:=r.lt a m
 rcases f with h | ⟨j,hj,⟨t',e'⟩,m'⟩
 ·omega
 ·exact(s.own i hi t e).2.2 j t' (fun q=>hN j hj (q▸hi)) e' a m m'
noncomputable abbrev PPt:=TL→Option (Option Int)
noncomputable def Zc8: PPt:=fun _=>some none
noncomputable def Zc9(p:PE): PPt:=fun σ=>(p σ).bind fun t=>match t with
 | .int k=>some (some k)
 | _=>none
noncomputable def Pe(O:List Nat)(f:Pt)(p:PPt): Prop:=∀(c:Ctx) (ρ:Lc) (σ:TL) (H:Hp) (Φ:Nat→List Nat) (k:Option Int),St c O ρ σ H Φ→p σ=some k→∃o X,f ρ H=some (o,H++X)∧Zgv o=some k
section
variable {O N:List Nat} {u:Bool}
theorem Pe.none: Pe O PM.Zdd Zc8:=fun c ρ σ H Φ k s h=>by
 cases h;exact⟨Option.none,[],by simp[PM.Zdd],rfl⟩
theorem Pe.some{e:Ex}{p:PE}(x:E O N u e p): Pe O (Zde e) (Zc9 p):=fun c ρ σ H Φ k s h=>by
 obtain⟨t,h1,h⟩:=Zz0.mp h
 obtain⟨v,X,F,a1,a2,a3,a4⟩:=x c ρ σ H Φ t s h1
 cases a2 <;> first | (cases h;done) | skip
 rename_i k'
 cases h
 exact⟨Option.some (.int k'),X,by simp only[Zde,a1,Option.map_some],rfl⟩
noncomputable def ZcS(p:PE)(lo hi:PPt): PE:=fun σ=>(p σ).bind fun t=>(lo σ).bind fun a=>(hi σ).bind fun b=>match t with
 | .lst ts=>Option.some (.lst (Zbu ts a b))
 | _=>Option.none
theorem RFs.pick{H:Hp}{vs:List V}{ts:List T}{F:List Nat}(h:RFs H vs ts F)(l:List Nat): ∃G,RFs H (l.filterMap fun i=>vs[i]?) (l.filterMap fun i=>ts[i]?) G∧∀a∈G,a∈F:=by
 induction l with
 | nil=>exact⟨_,.nil,by simp⟩
 | cons i l ih=>
  obtain⟨G,h1,h2⟩:=ih
  simp only[List.filterMap_cons]
  have hl:=h.length
  cases e:ts[i]? with
  | none=>
   have:vs[i]?=none:=by rw[List.getElem?_eq_none_iff]at e ⊢;omega
   rw[this]
   exact⟨G,h1,h2⟩
  | some t=>
   obtain⟨x,G',hx,hr,hs⟩:=h.at e
   rw[hx]
   exact⟨_,.cons hr h1,fun a m=>(Zz8.mp m).elim (fun q=>hs.subset q) (h2 a)⟩
theorem Zr1{c:Ctx}{ρ:Lc}{σ:TL}{H:Hp}{Φ:Nat→List Nat}{t:T}{e:Ex}{p:PE}{lo hi:Pt}{plo phi:PPt}(x:E O N u e p)(y:Pe O lo plo)(z:Pe O hi phi)(s:St c O ρ σ H Φ)(h:ZcS p plo phi σ=Option.some t):
  ∃v X F,ZcE e lo hi ρ H=Option.some (v,H++X)∧RF (H++X) v t F∧(∀a∈F,From H N σ Φ a)∧(t.flatIn=true→F.Nodup∧∀a∈F,H.length≤a):=by
 obtain⟨t1,h1,h⟩:=Zz0.mp h
 obtain⟨a,h2,h⟩:=Zz0.mp h
 obtain⟨b,h3,h⟩:=Zz0.mp h
 obtain⟨v,X,F,a1,a2,a3,a4⟩:=x c ρ σ H Φ t1 s h1
 obtain⟨o1,Y,b1,b2⟩:=y c ρ σ (H++X) Φ a (s.ext X) h2
 obtain⟨o2,Z,c1,c2⟩:=z c ρ σ (H++X++Y) Φ b ((s.ext X).ext Y) h3
 cases a2 with
 | none=>cases h
 | bool=>cases h
 | int=>cases h
 | str=>cases h
 | tup=>cases h
 | @ref i vs ts F e1 hs=>
 cases h
 have e3:((H++X)++(Y++Z))[i]?=Option.some vs:=by rw[List.getElem?_append_left (Zz6.mp e1).1];exact e1
 have hs':=hs.ext (Y++Z)
 have hlen:=hs.length
 obtain⟨G,g1,g2⟩:=hs'.pick (sliceRange (sliceBounds a b none vs.length).1 (sliceBounds a b none vs.length).2.1 (sliceBounds a b none vs.length).2.2)
 have g1':RFs (H++X++(Y++Z)) (Zbu vs a b) (Zbu ts a b) G:=by unfold Zbu;rw[←hlen];exact g1
 refine⟨.ref (H++X++(Y++Z)).length,X++(Y++Z)++[Zbu vs a b],(H++X++(Y++Z)).length::G,?_,?_,fun q m=>?_,fun hf=>?_⟩
 ·simp only[ZcE,a1,Option.bind_some,b1,c1,b2,c2]
  rw[List.append_assoc (H++X),e3]
  simp
 ·have:=ZdM g1'
  simpa using this
 ·rcases Zz7.mp m with rfl | m
  ·exact .inl (by simp)
  ·exact a3 q (Zz2 _ (g2 q m))
 ·have:=ZeI g1' hf
  exact⟨this.1,fun q m=>by have:=this.2 q m;simp at this;omega⟩
theorem ZeU{e:Ex}{p:PE}{lo hi:Pt}{plo phi:PPt}(x:E O N u e p)(y:Pe O lo plo)(z:Pe O hi phi): E O N false (ZcE e lo hi) (ZcS p plo phi):=fun c ρ σ H Φ t s h=>by
 obtain⟨v,X,F,a1,a2,a3,a4⟩:=Zr1 x y z s h
 exact⟨v,X,F,a1,a2,a3,by simp⟩
noncomputable def Zdr(p:PE)(k:Nat): PE:=fun σ=>(p σ).bind fun t=>match t with
 | .lst ts=>Option.some (.lst (ts.drop k))
 | .tup ts=>if 1≤k∧k≤ts.length then Option.some (.tup (ts.drop k))else Option.none
 | _=>Option.none
theorem ZsP{c:Ctx}{ρ:Lc}{σ:TL}{H:Hp}{Φ:Nat→List Nat}{t:T}{e:Ex}{p:PE}{k:Nat}(x:E O N u e p)(s:St c O ρ σ H Φ)(h:Zdr p k σ=Option.some t):
  ∃v X F,Zd1 e k ρ H=Option.some (v,H++X)∧RF (H++X) v t F∧(∀a∈F,From H N σ Φ a)∧(t.flatIn=true→F.Nodup∧∀a∈F,H.length≤a):=by
 obtain⟨t1,h1,h⟩:=Zz0.mp h
 obtain⟨v,X,F,a1,a2,a3,a4⟩:=x c ρ σ H Φ t1 s h1
 cases a2 with
 | none=>cases h
 | bool=>cases h
 | int=>cases h
 | str=>cases h
 | tup hs=>
  simp only at h
  split at h
  ·rename_i hc
   cases h
   obtain⟨G,g1,g2⟩:=hs.drop k
   refine⟨_,X,G,?_,.tup g1,fun a m=>a3 a (g2.subset m),fun hf=>?_⟩
   ·simp only[Zd1,a1,Option.bind_some]
    rw[if_pos (by rw[hs.length];exact hc)]
   ·rw[g1.flats (by simpa [T.flatIn,T.flat]using hf)]
    simp
  ·cases h
 | @ref b vs1 ts1 F1 e1 hs=>
  cases h
  obtain⟨G,g1,g2⟩:=hs.drop k
  refine⟨.ref (H++X).length,X++[vs1.drop k],(H++X).length::G,?_,?_,fun a m=>?_,fun hf=>?_⟩
  ·simp only[Zd1,a1,Option.bind_some,e1,List.append_assoc]
  ·rw[←List.append_assoc];exact ZdM g1
  ·rcases Zz7.mp m with rfl | m
   ·exact .inl (by simp)
   ·exact a3 a (Zz2 _ (g2.subset m))
  ·have:=ZeI g1 hf
   exact⟨this.1,fun q m=>by have:=this.2 q m;simp at this;omega⟩
theorem Zmv{e:Ex}{p:PE}{k:Nat}(x:E O N u e p): E O N false (Zd1 e k) (Zdr p k):=fun c ρ σ H Φ t s h=>by
 obtain⟨v,X,F,a1,a2,a3,a4⟩:=ZsP x s h
 exact⟨v,X,F,a1,a2,a3,by simp⟩
end
noncomputable def Gs(O N:List Nat)(g:Src)(q:PG): Prop:=∀(c:Ctx) (ρ:Lc) (σ:TL) (H:Hp) (Φ:Nat→List Nat) (ts:List T),St c O ρ σ H Φ→q σ=some ts →
 ∃(nx:Nx) (X:Hp) (vs:List V) (F G:List Nat),g ρ H=some (nx,ts.length+1,H++X)∧RFs (H++X) vs ts F∧(∀a∈F,a∈G)∧(∀a∈G,a<(H++X).length∧From H N σ Φ a)∧∀K:Hp,(∀a∈G,K[a]?=(H++X)[a]?)→∀i,i≤vs.length→nx i K=some vs[i]?
section
variable {O N M:List Nat} {u u':Bool}
noncomputable def Zaz(p:PE): PG:=fun σ=>(p σ).bind fun t=>match t with
 | .lst ts=>some ts
 | .tup ts=>some ts
 | _=>none
theorem Gs.seq{e:Ex}{p:PE}(x:E O N u e p): Gs O N (ZbQ e) (Zaz p):=fun c ρ σ H Φ ts s h=>by
 obtain⟨t1,h1,h⟩:=Zz0.mp h
 obtain⟨v,X,F,a1,a2,a3,a4⟩:=x c ρ σ H Φ t1 s h1
 have hlt:=a2.lt
 cases a2 with
 | none=>cases h
 | bool=>cases h
 | int=>cases h
 | str=>cases h
 | @tup vs _ _ hs=>
  cases h
  exact⟨ZpJ vs,X,vs,F,F,by simp only[ZbQ,a1,Option.bind_some,hs.length],hs,fun _ m=>m,fun a m=>⟨hlt a m,a3 a m⟩,fun K _ i hi=>rfl⟩
 | @ref b vs _ F' e1 hs=>
  cases h
  refine⟨Zmr b,X,vs,F',b::F',by simp only[ZbQ,a1,Option.bind_some,e1,Option.map_some,hs.length],hs,fun _ m=>List.mem_cons_of_mem _ m,fun a m=>⟨hlt a m,a3 a m⟩,fun K hK i hi=>?_⟩
  simp only[Zmr,hK b Zz5,e1,Option.map_some]
noncomputable def Zcj(a b c:Int): Option (List T):=if c≠0∧Builtin.Range.small a b c=true∧0≤Builtin.Range.rangeSize a b c∧rngN a b c≤LEN∧Builtin.divisionGoesByPylong (b-a) c=false then some ((List.range (rngN a b c)).map fun(i:Nat)=>.int (a+(i:Int)*c))else none
noncomputable def Zav(p:PEs): PG:=fun σ=>(p σ).bind fun ts=>match ts with
 | [.int b]=>Zcj 0 b 1
 | [.int a,.int b]=>Zcj a b 1
 | [.int a,.int b,.int c]=>Zcj a b c
 | _=>none
theorem Zow(H:Hp)(a c:Int): ∀(l:List Nat),RFs H (l.map fun(i:Nat)=>.int (a+(i:Int)*c)) (l.map fun(i:Nat)=>.int (a+(i:Int)*c)) []
 | []=>.nil
 | i::l=>by have:=RFs.cons (RF.int (H:=H) (a+i*c)) (Zow H a c l);exact this
theorem ZlI{a b c:Int}{H:Hp}{ts:List T}(h:Zcj a b c=some ts): ∃(nx:Nx) (vs:List V),Zcm a b c H=some (nx,ts.length+1,H)∧RFs H vs ts []∧∀K:Hp,∀i,i≤vs.length→nx i K=some vs[i]?:=by
 unfold Zcj at h
 split at h
 ·rename_i hc
  cases h
  refine⟨Zeh a c (rngN a b c),(List.range (rngN a b c)).map fun(i:Nat)=>.int (a+(i:Int)*c),?_,Zow H a c _,fun K i hi=>?_⟩
  ·unfold Zcm
   rw[if_pos hc]
   simp
  ·simp only[Zeh,List.getElem?_map]
   by_cases q:i<rngN a b c
   ·rw[if_pos q,List.getElem?_range q];rfl
   ·rw[if_neg q,List.getElem?_eq_none (by simpa using Nat.le_of_not_lt q)];rfl
 ·cases h
theorem RFs.three_inv{H:Hp}{vs:List V}{t t' t'':T}{F:List Nat}(r:RFs H vs [t,t',t''] F): ∃v v' v'' F1 F2 F3,vs=[v,v',v'']∧RF H v t F1∧RF H v' t' F2∧RF H v'' t'' F3:=by
 cases r with
 | cons a b=>obtain⟨v',v'',F2,F3,h1,h2,h3,_⟩:=b.two_inv;subst h1;exact⟨_,_,_,_,_,_,rfl,a,h2,h3⟩
theorem Gs.range{n:Nat}{e:Exs}{p:PEs}(x:Es O N u n e p): Gs O [] (ZaT e) (Zav p):=fun c ρ σ H Φ ts s h=>by
 obtain⟨t1,h1,h⟩:=Zz0.mp h
 obtain⟨_,vs,X,F,a1,a2,a3,a4⟩:=x c ρ σ H Φ t1 s h1
 split at h
 ·obtain⟨v,rfl,r⟩:=a2.one_inv
  cases r
  obtain⟨nx,us,q1,q2,q3⟩:=ZlI (H:=H++X) h
  exact⟨nx,X,us,[],[],by simp only[ZaT,a1,Option.bind_some,q1],q2,by simp,by simp,fun K _=>q3 K⟩
 ·obtain⟨v,v',F1,F2,rfl,r,r',_⟩:=a2.two_inv
  cases r;cases r'
  obtain⟨nx,us,q1,q2,q3⟩:=ZlI (H:=H++X) h
  exact⟨nx,X,us,[],[],by simp only[ZaT,a1,Option.bind_some,q1],q2,by simp,by simp,fun K _=>q3 K⟩
 ·obtain⟨v,v',v'',F1,F2,F3,rfl,r,r',r''⟩:=a2.three_inv
  cases r;cases r';cases r''
  obtain⟨nx,us,q1,q2,q3⟩:=ZlI (H:=H++X) h
  exact⟨nx,X,us,[],[],by simp only[ZaT,a1,Option.bind_some,q1],q2,by simp,by simp,fun K _=>q3 K⟩
 ·cases h
noncomputable def Zc2(p q:PE): PG:=fun σ=>(p σ).bind fun t=>(q σ).bind fun s=>match t,s with
 | .lst ts,.lst ss=>some (List.zipWith (fun x y=>.tup [x,y]) ts ss)
 | _,_=>none
theorem RFs.zip{H:Hp}: ∀{vs us:List V} {ts ss:List T} {F G:List Nat},RFs H vs ts F→RFs H us ss G→∃D,RFs H (List.zipWith (fun x y=>.tup [x,y]) vs us) (List.zipWith (fun x y=>.tup [x,y]) ts ss) D∧∀a∈D,a∈F∨a∈G
 | _,_,_,_,_,_,.nil,_=>⟨_,.nil,by simp⟩
 | _,_,_,_,_,_,.cons _ _,.nil=>⟨_,.nil,by simp⟩
 | _,_,_,_,_,_,.cons a b,.cons a' b'=>by
  obtain⟨D,h1,h2⟩:=b.zip b'
  refine⟨_,.cons (.tup (.cons a (.one a'))) h1,fun x m=>?_⟩
  rcases Zz8.mp m with m | m
  ·rcases Zz8.mp m with m | m
   ·exact .inl (Zz4 _ m)
   ·exact .inr (Zz4 _ m)
  ·exact(h2 x m).imp (Zz3 _) (Zz3 _)
theorem Gs.zip{e1 e2:Ex}{p1 p2:PE}(x:E O N u e1 p1)(y:E O M u' e2 p2): Gs O (N++M) (Zc0 e1 e2) (Zc2 p1 p2):=fun c ρ σ H Φ ts s h=>by
 obtain⟨t1,h1,h⟩:=Zz0.mp h
 obtain⟨t2,h2,h⟩:=Zz0.mp h
 obtain⟨v,X,F,a1,a2,a3,a4⟩:=x c ρ σ H Φ t1 s h1
 obtain⟨w,Y,G,b1,b2,b3,b4⟩:=y c ρ σ (H++X) Φ t2 (s.ext X) h2
 have a2:=a2.ext Y
 have l1:=a2.lt
 have l2:=b2.lt
 rw[List.append_assoc]at a2 b2 l1 l2 b1
 cases a2 with
 | none=>cases h
 | bool=>cases h
 | int=>cases h
 | str=>cases h
 | tup=>cases b2 <;> cases h
 | @ref a vs _ F' e1 hs=>
  cases b2 with
  | none=>cases h
  | bool=>cases h
  | int=>cases h
  | str=>cases h
  | tup=>cases h
  | @ref b us _ G' e2 hs2=>
   cases h
   obtain⟨D,d1,d2⟩:=hs.zip hs2
   refine⟨Zgw a b,X++Y,_,D,a::b::D,?_,d1,fun q m=>List.mem_cons_of_mem _ (Zz2 _ m),fun q m=>?_,fun K hK i hi=>?_⟩
   ·simp only[Zc0,a1,Option.bind_some,b1,e1,e2,Option.map_some,List.length_zipWith,hs.length,hs2.length]
   ·rcases Zz7.mp m with rfl | m
    ·exact⟨l1 _ Zz5,(a3 _ Zz5).mono fun i hi=>List.mem_append_left _ hi⟩
    ·rcases Zz7.mp m with rfl | m
     ·exact⟨l2 _ Zz5,(b3 _ Zz5).back.mono fun i hi=>List.mem_append_right _ hi⟩
     ·rcases d2 q m with m | m
      ·exact⟨l1 _ (Zz2 _ m),(a3 _ (Zz2 _ m)).mono fun i hi=>List.mem_append_left _ hi⟩
      ·exact⟨l2 _ (Zz2 _ m),(b3 _ (Zz2 _ m)).back.mono fun i hi=>List.mem_append_right _ hi⟩
   ·simp only[Zgw,hK a Zz5,hK b (Zz2 _ Zz5),e1,e2,Option.bind_some,List.getElem?_zipWith]
    rw[List.length_zipWith]at hi
    by_cases q:i<min vs.length us.length
    ·rw[List.getElem?_eq_getElem (show i<vs.length by omega),List.getElem?_eq_getElem (show i<us.length by omega)]
    ·have q':i=min vs.length us.length:=by omega
     by_cases q2:i<vs.length
     ·rw[List.getElem?_eq_getElem q2,List.getElem?_eq_none (show us.length≤i by omega)]
      simp[q']
     ·rw[List.getElem?_eq_none (show vs.length≤i by omega)]
      simp[q']
end
noncomputable def PutOk(O J:List Nat)(put:V→Lc→Option Lc)(q:T→TL→Option TL): Prop:=∀(c:Ctx) (ρ:Lc) (σ:TL) (H:Hp) (Φ:Nat→List Nat) (v:V) (t:T) (F:List Nat) (σ1:TL),St c O ρ σ H Φ→RF H v t F→(∀a∈F,c.H0.length≤a∨c.P a)→(∀i∈O,∀t',σ i=some t'→∀a∈Φ i,a∉F)→q t σ=some σ1 →
 ∃ρ1 Φ1,put v ρ=some ρ1∧St c O ρ1 σ1 H Φ1∧(∀i,i∉J→σ1 i=σ i∧Φ1 i=Φ i)∧∀i∈J,∀a∈Φ1 i,a∈F
noncomputable def Zam(Φ:Nat→List Nat)(j:Nat)(F:List Nat): Nat→List Nat:=fun i=>if i=j then F else Φ i
theorem St.put{c:Ctx}{O:List Nat}{ρ:Lc}{σ:TL}{H:Hp}{Φ:Nat→List Nat}{v:V}{t:T}{F:List Nat}{j:Nat}(s:St c O ρ σ H Φ)(hj:j∉O)(r:RF H v t F)(hs:∀a∈F,c.H0.length≤a∨c.P a)(ho:∀i∈O,∀t',σ i=some t'→∀a∈Φ i,a∉F): St c O (upd ρ j v) (ZY σ j t) H (Zam Φ j F):=by
 refine⟨fun i u e=>?_,fun i u e=>?_,fun i hi u e=>?_,s.len,s.keep,s.pos,s.f0⟩
 ·by_cases q:i=j
  ·subst q
   simp[ZY]at e
   subst e
   exact⟨v,by simp[upd],by simpa [Zam]using r⟩
  ·simp[ZY,q]at e
   simpa [upd,Zam,q]using s.slot i u e
 ·by_cases q:i=j
  ·subst q;simpa [Zam]using hs
  ·simp[ZY,q]at e
   simpa [Zam,q]using s.src i u e
 ·have q:i≠j:=fun q=>hj (q▸hi)
  simp[ZY,q]at e
  obtain⟨h1,h2,h3⟩:=s.own i hi u e
  refine⟨by simpa [Zam,q]using h1,by simpa [Zam,q]using h2,fun k w hk ek=>?_⟩
  by_cases q2:k=j
  ·subst q2
   simpa [Zam,q]using ho i hi u e
  ·simp[ZY,q2]at ek
   simpa [Zam,q,q2]using h3 k w hk ek
noncomputable def ZX(j:Nat): T→TL→Option TL:=fun t σ=>some (ZY σ j t)
noncomputable def Zcg(i j:Nat): T→TL→Option TL
 | .tup [a,b],σ=>some (ZY (ZY σ i a) j b)
 | _,_=>none
theorem PutOk.one{O:List Nat}{j:Nat}(hj:j∉O:=by decide): PutOk O [j] (Zas j) (ZX j):=fun c ρ σ H Φ v t F σ1 s r hs ho h=>by
 cases h
 refine⟨_,_,rfl,s.put hj r hs ho,fun i hi=>?_,fun i hi a m=>?_⟩
 ·have:i≠j:=fun q=>hi (by simp[q])
  simp[ZY,Zam,this]
 ·simp at hi;subst hi;simpa [Zam]using m
theorem PutOk.two{O:List Nat}{i j:Nat}(hi:i∉O:=by decide)(hj:j∉O:=by decide)(hij:i≠j:=by decide): PutOk O [i,j] (Zb3 i j) (Zcg i j):=fun c ρ σ H Φ v t F σ1 s r hs ho h=>by
 unfold Zcg at h
 split at h
 ·cases h
  cases r with
  | tup hh=>
   obtain⟨v1,v2,F1,F2,rfl,r1,r2,rfl⟩:=hh.two_inv
   have s1:=s.put hi r1 (fun a m=>hs a (Zz4 _ m)) (fun k hk t' e a m q=>ho k hk t' e a m (Zz4 _ q))
   have s2:=s1.put hj r2 (fun a m=>hs a (Zz3 _ m)) (fun k hk t' e a m q=>by
    have:k≠i:=fun q=>hi (q▸hk)
    simp[ZY,Zam,this]at e m
    exact ho k hk t' e a m (Zz3 _ q))
   refine⟨_,_,rfl,s2,fun k hk=>?_,fun k hk a m=>?_⟩
   ·simp at hk
    simp[ZY,Zam,hk.1,hk.2]
   ·simp at hk
    rcases hk with rfl | rfl
    ·simp[Zam,hij]at m
     exact Zz4 _ m
    ·simp[Zam]at m
     exact Zz3 _ m
 ·cases h
noncomputable def Zch(put:T→TL→Option TL)(c:PB)(f:PE)(σ:TL): List T→Option (List T)
 | []=>some []
 | t::ts=>(put t σ).bind fun σ1=>(c σ1).bind fun b=>if b then(f σ1).bind fun x=>(Zch put c f σ ts).map fun xs=>x::xs else Zch put c f σ ts
noncomputable def Zai(g:PG)(put:T→TL→Option TL)(c:PB)(f:PE): PE:=fun σ=>(g σ).bind fun ts=>if ts.length≤LEN then(Zch put c f σ ts).map .lst else none
section
variable {O Ns Ne J:List Nat} {u:Bool}
theorem comp_core{put:V→Lc→Option Lc}{pput:T→TL→Option TL}{tc:Ts}{pc:PB}{f:Ex}{pf:PE}(hj:PutOk O J put pput)(hN:∀i∈Ns,i∉O)(hc:Bt O tc pc)(hf:E O Ne u f pf)(hu:u=true→Ne=[])
  {c:Ctx} {ρ:Lc} {σ:TL} {Φ:Nat→List Nat} {H0 H1:Hp} {nx:Nx} {vs:List V} {G:List Nat} (h0:H0.length≤H1.length)
  (hG:∀a∈G,a<H1.length∧From H0 Ns σ Φ a) (hoff:∀a∈G,∀i∈O,∀t,σ i=some t→a∉Φ i) (hsrc:∀a∈G,c.H0.length≤a∨c.P a) (hnx:∀K:Hp,(∀a∈G,K[a]?=H1[a]?)→∀i,i≤vs.length→nx i K=some vs[i]?):
  ∀(rs:List T) (ws:List V) (i:Nat) (acc:List V) (K:Hp) (Fr:List Nat) (out:List T),(∀j,vs[i+j]?=ws[j]?)→i+ws.length=vs.length→St c O ρ σ K Φ→H1.length≤K.length→(∀a∈G,K[a]?=H1[a]?)→RFs K ws rs Fr→(∀a∈Fr,a∈G)→acc.length+rs.length≤LEN→Zch pput pc pf σ rs=some out →
   ∃xs X F,ZcF nx put tc f ρ (rs.length+1) i acc K=some (acc++xs,K++X)∧RFs (K++X) xs out F∧(∀a∈F,(u=true→K.length≤a)∧From H0 (Ns++Ne) σ Φ a)∧(u=true→F.Nodup)
 | [],ws,i,acc,K,Fr,out,hat,hlen,s,hl,hk,r,hfr,hacc,h=>by
  cases r
  cases h
  have e:=hnx K hk i (by simp at hlen;omega)
  have e2:vs[i]?=none:=by have:=hat 0;simpa using this
  refine⟨[],[],[],?_,.nil,by simp,by simp⟩
  simp[ZcF,e,e2]
 | t::rs,ws0,i,acc,K,Fr0,out,hat,hlen,s,hl,hk,r,hfr,hacc,h=>by
  cases r with
  | @cons v _ F1 ws _ F2 a b=>
  simp only[List.length_cons]at hlen hacc
  obtain⟨σ1,h1,h⟩:=Zz0.mp h
  obtain⟨bb,h2,h⟩:=Zz0.mp h
  have e:=hnx K hk i (by omega)
  have e2:vs[i]?=some v:=by have:=hat 0;simpa using this
  have hat':∀j,vs[i+1+j]?=ws[j]?:=fun j=>by have:=hat (j+1);rw[show i+1+j=i+(j+1)by omega,this];simp
  obtain⟨ρ1,Φ1,p1,s1,p3,p4⟩:=hj c ρ σ K Φ v t F1 σ1 s a (fun x m=>hsrc x (hfr x (Zz4 _ m))) (fun k hk t' e x m q=>hoff x (hfr x (Zz4 _ q)) k hk t' e m) h1
  obtain⟨X1,c1⟩:=hc c ρ1 σ1 K Φ1 bb s1 h2
  cases bb with
  | true=>
   obtain⟨y,h3,h⟩:=Zz0.mp h
   obtain⟨ys,h4,h⟩:=Zz1.mp h
   subst h
   obtain⟨w,X2,Fw,d1,d2,d3,d4⟩:=hf c ρ1 σ1 (K++X1) Φ1 y (s1.ext X1) h3
   have hext:∀a∈G,(K++X1++X2)[a]?=H1[a]?:=fun a m=>by
    have:=(hG a m).1
    rw[List.append_assoc,List.getElem?_append_left (by omega)];exact hk a m
   obtain⟨xs,X3,F3,f1,f2,f3,f4⟩:=comp_core hj hN hc hf hu h0 hG hoff hsrc hnx rs ws (i+1) (acc++[w]) (K++X1++X2) F2 ys hat' (by omega) ((s.ext X1).ext X2) (by simp;omega) hext (by rw[List.append_assoc];exact b.ext _) (fun x m=>hfr x (Zz3 _ m)) (by simp;omega) h4
   refine⟨w::xs,X1++X2++X3,Fw++F3,?_,?_,fun x m=>?_,fun hu'=>?_⟩
   ·rw[List.length_cons,ZcF,e,e2]
    simp only[Option.bind_some,p1,c1,d1,if_true]
    rw[if_pos (by omega)]
    simpa using f1
   ·have:=RFs.cons (d2.ext X3) f2
    simpa using this
   ·rcases Zz8.mp m with m | m
    ·refine⟨fun hu'=>?_,?_⟩
     ·have hne:=hu hu'
      subst hne
      have:=(d3 x m).nil
      simp at this;omega
     ·rcases d3 x m with q | ⟨k,hk1,⟨tk,ek⟩,mk⟩
      ·exact .inl (by simp at q;omega)
      ·by_cases hkJ:k∈J
       ·exact(hG x (hfr x (Zz4 _ (p4 k hkJ x mk)))).2.mono fun i hi=>List.mem_append_left _ hi
       ·obtain⟨q1,q2⟩:=p3 k hkJ
        exact .inr ⟨k,List.mem_append_right _ hk1,⟨tk,q1▸ek⟩,q2▸mk⟩
    ·obtain⟨g1,g2⟩:=f3 x m
     exact⟨fun hu'=>by have:=g1 hu';simp at this;omega,g2⟩
   ·rw[List.nodup_append]
    refine⟨d4 hu',f4 hu',fun x hx y hy e=>?_⟩
    have l1:=d2.lt x hx
    have l2:=(f3 y hy).1 hu'
    omega
  | false=>
   have hext:∀a∈G,(K++X1)[a]?=H1[a]?:=fun a m=>by
    have:=(hG a m).1
    rw[List.getElem?_append_left (by omega)];exact hk a m
   obtain⟨xs,X3,F3,f1,f2,f3,f4⟩:=comp_core hj hN hc hf hu h0 hG hoff hsrc hnx rs ws (i+1) acc (K++X1) F2 out hat' (by omega) (s.ext X1) (by simp;omega) hext (b.ext _) (fun x m=>hfr x (Zz3 _ m)) (by omega) (by simpa using h)
   refine⟨xs,X1++X3,F3,?_,by simpa using f2,fun x m=>?_,f4⟩
   ·rw[List.length_cons,ZcF,e,e2]
    simp only[Option.bind_some,p1,c1]
    simpa using f1
   ·obtain⟨g1,g2⟩:=f3 x m
    exact⟨fun hu'=>by have:=g1 hu';simp at this;omega,g2⟩
theorem ZpN{g:Src}{q:PG}{put:V→Lc→Option Lc}{pput:T→TL→Option TL}{tc:Ts}{pc:PB}{f:Ex}{pf:PE}(hg:Gs O Ns g q)(hj:PutOk O J put pput)(hN:∀i∈Ns,i∉O)(hc:Bt O tc pc)(hf:E O Ne u f pf)(hu:u=true→Ne=[]): E O (if u then []else Ns++Ne) u (ZaH g put tc f) (Zai q pput pc pf):=fun c ρ σ H Φ t s h=>by
 obtain⟨ts,h1,h⟩:=Zz0.mp h
 split at h
 ·rename_i hl
  obtain⟨out,h2,h⟩:=Zz1.mp h
  subst h
  obtain⟨nx,X,vs,F,G,g1,g2,g3,g4,g5⟩:=hg c ρ σ H Φ ts s h1
  obtain⟨xs,Y,F',d1,d2,d3,d4⟩:=comp_core hj hN hc hf hu (H0:=H) (H1:=H++X) (by simp) g4 (fun a m i hi t e=>s.from_off hN (g4 a m).2 hi e) (fun a m=>s.from_src (g4 a m).2) g5 ts vs 0 [] (H++X) F out (by simp) (by simp) (s.ext X) (Zz10 _) (fun _ _=>rfl) g2 g3 (by simpa using hl) h2
  refine⟨.ref (H++X++Y).length,X++Y++[xs],(H++X++Y).length::F',?_,?_,fun a m=>?_,fun hu'=>?_⟩
  ·simp only[ZaH,g1,Option.bind_some,d1,Option.map_some,List.nil_append,List.append_assoc]
  ·have:=ZdM d2
   simpa using this
  ·rcases Zz7.mp m with rfl | m
   ·exact .inl (by simp)
   ·obtain⟨q1,q2⟩:=d3 a m
    cases u with
    | true=>exact .inl (by have:=q1 rfl;simp at this;omega)
    | false=>exact q2
  ·rw[List.nodup_cons]
   exact⟨fun m=>Nat.lt_irrefl _ (d2.lt _ m),d4 hu'⟩
 ·cases h
end
end TM
end
section
set_option autoImplicit false
namespace TM
open PySem PM
noncomputable abbrev PS:=TL→Option (Option T×TL)
noncomputable def Zcy(σ:TL)(N:List Nat): TL:=fun j=>if j∈N then none else σ j
noncomputable def ZcJ(O:List Nat)(σ:TL)(Φ:Nat→List Nat)(a:Nat): Prop:=∃j∈O,(∃t,σ j=some t)∧a∈Φ j
noncomputable def Aft(c:Ctx)(O O' R:List Nat)(fr:Bool)(σ:TL)(H:Hp)(Φ:Nat→List Nat)(g:Option (Option V×Lc×Hp))(r:Option T×TL): Prop:=
 ∃ρ' H' Φ',H.length≤H'.length∧(∀a,a<H.length→¬ZcJ O σ Φ a→H'[a]?=H[a]?) ∧
  ((r.1=none∧g=some (none,ρ',H')∧St c O' ρ' r.2 H' Φ'∧∀a,ZcJ O' r.2 Φ' a→H.length≤a∨ZcJ O σ Φ a) ∨
  ∃t v F,r.1=some t∧g=some (some v,ρ',H')∧RF H' v t F∧St c R ρ' r.2 H' Φ'∧(∀a∈F,c.H0.length≤a∨c.P a)∧(fr=true→F.Nodup∧∀a∈F,c.H0.length≤a∨a∈c.F0))
noncomputable def S(O O' R:List Nat)(fr:Bool)(g:Sm)(q:PS): Prop:=∀(c:Ctx) (ρ:Lc) (σ:TL) (H:Hp) (Φ:Nat→List Nat) (r:Option T×TL),St c O ρ σ H Φ→q σ=some r→Aft c O O' R fr σ H Φ (g ρ H) r
section
variable {O O' R:List Nat} {fr:Bool}
noncomputable def ZR: PS:=fun σ=>some (none,σ)
theorem Zag: S O O R fr Z8 ZR:=fun c ρ σ H Φ r s e=>by
 cases e
 exact⟨ρ,H,Φ,Nat.le_refl _,fun _ _ _=>rfl,.inl ⟨rfl,rfl,s,fun a m=>.inr m⟩⟩
noncomputable def Zp(a b:PS): PS:=fun σ=>(a σ).bind fun r=>match r.1 with
 | some _=>some r
 | none=>b r.2
theorem ZD{O1:List Nat}{a b:Sm}{p q:PS}(x:S O O1 R fr a p)(y:S O1 O' R fr b q): S O O' R fr (Zv a b) (Zp p q):=fun c ρ σ H Φ r s e=>by
 obtain⟨r1,e1,e⟩:=Zz0.mp e
 obtain⟨ρ1,H1,Φ1,h1,h2,h3⟩:=x c ρ σ H Φ r1 s e1
 rcases h3 with⟨k1,k2,k3,k4⟩ | ⟨t,v,F,k1,k2,k3⟩
 ·rw[k1]at e
  obtain⟨ρ2,H2,Φ2,g1,g2,g3⟩:=y c ρ1 r1.2 H1 Φ1 r k3 e
  refine⟨ρ2,H2,Φ2,Nat.le_trans h1 g1,fun a ha hn=>?_,?_⟩
  ·rw[g2 a (by omega) fun q=>(k4 a q).elim (fun q=>by omega) hn,h2 a ha hn]
  ·have eg:Zv a b ρ H=b ρ1 H1:=by simp only[Zv,k2,Option.bind_some]
   rw[eg]
   rcases g3 with⟨l1,l2,l3,l4⟩ | l
   ·refine .inl ⟨l1,l2,l3,fun a m=>?_⟩
    rcases l4 a m with q | q
    ·exact .inl (by omega)
    ·exact k4 a q
   ·exact .inr l
 ·rw[k1]at e
  cases e
  exact⟨ρ1,H1,Φ1,h1,h2,.inr ⟨t,v,F,k1,by simp only[Zv,k2,Option.bind_some],k3⟩⟩
noncomputable def Zw(p:PE): PS:=fun σ=>(p σ).map fun t=>(some t,σ)
theorem ZW{N:List Nat}{u:Bool}{e:Ex}{p:PE}(x:E O N u e p)(hR:∀i∈R,i∈O:=by decide): S O O' R false (ZH e) (Zw p):=fun c ρ σ H Φ r s q=>by
 obtain⟨t,h1,h⟩:=Zz1.mp q
 subst h
 obtain⟨v,X,F,a1,a2,a3,a4⟩:=x c ρ σ H Φ t s h1
 refine⟨ρ,H++X,Φ,by simp,fun a ha _=>List.getElem?_append_left ha,.inr ⟨t,v,F,rfl,by simp only[ZH,a1,Option.map_some],a2,(s.ext X).less hR,fun a m=>s.from_src (a3 a m),by simp⟩⟩
theorem Zbs{N:List Nat}{e:Ex}{p:PE}(x:E O N true e p)(hN:∀i∈N,i∈O:=by decide)(hR:∀i∈R,i∈O:=by decide): S O O' R fr (ZH e) (Zw p):=fun c ρ σ H Φ r s q=>by
 obtain⟨t,h1,h⟩:=Zz1.mp q
 subst h
 obtain⟨v,X,F,a1,a2,a3,a4⟩:=x c ρ σ H Φ t s h1
 refine⟨ρ,H++X,Φ,by simp,fun a ha _=>List.getElem?_append_left ha,.inr ⟨t,v,F,rfl,by simp only[ZH,a1,Option.map_some],a2,(s.ext X).less hR,fun a m=>s.from_src (a3 a m),fun _=>⟨a4 rfl,fun a m=>?_⟩⟩⟩
 rcases a3 a m with q | ⟨i,hi,⟨t',e'⟩,m'⟩
 ·exact .inl (Nat.le_trans s.len q)
 ·exact(s.own i (hN i hi) t' e').2.1 a m'
noncomputable def ZF(i:Nat)(p:PE): PS:=fun σ=>(p σ).map fun t=>(none,ZY σ i t)
theorem Zaa{N:List Nat}{u:Bool}{i:Nat}{e:Ex}{p:PE}(x:E O N u e p)(hi:i∉O':=by decide)(hN:∀j∈N,j∉O':=by decide)(hO:∀j∈O',j∈O:=by decide): S O O' R fr (ZU i e) (ZF i p):=fun c ρ σ H Φ r s q=>by
 obtain⟨t,h1,h⟩:=Zz1.mp q
 subst h
 obtain⟨v,X,F,a1,a2,a3,a4⟩:=x c ρ σ H Φ t s h1
 have s':=s.less hO
 refine⟨upd ρ i v,H++X,Zam Φ i F,by simp,fun a ha _=>List.getElem?_append_left ha,.inl ⟨rfl,by simp only[ZU,a1,Option.map_some],(s'.ext X).put hi a2 (fun a m=>s.from_src (a3 a m)) (fun k hk t' e' a m q=>?_),fun a m=>?_⟩⟩
 ·exact s'.from_off hN (a3 a q) hk e' m
 ·obtain⟨k,hk,⟨t',e'⟩,m⟩:=m
  have:k≠i:=fun q=>hi (q▸hk)
  simp[ZY,this]at e'
  simp[Zam,this]at m
  exact .inr ⟨k,hO k hk,⟨t',e'⟩,m⟩
theorem Zda{i:Nat}{e:Ex}{p:PE}(x:E O [] true e p)(hO:∀j∈O',j∈O∨j=i:=by decide): S O O' R fr (ZU i e) (ZF i p):=fun c ρ σ H Φ r s q=>by
 obtain⟨t,h1,h⟩:=Zz1.mp q
 subst h
 obtain⟨v,X,F,a1,a2,a3,a4⟩:=x c ρ σ H Φ t s h1
 have hnew:∀a∈F,H.length≤a:=fun a m=>(a3 a m).nil
 have hold:∀k t',σ k=some t'→∀a∈Φ k,a<H.length:=fun k t' e a m=>by
  obtain⟨_,_,r⟩:=s.slot k t' e
  exact r.lt a m
 refine⟨upd ρ i v,H++X,Zam Φ i F,by simp,fun a ha _=>List.getElem?_append_left ha,.inl ⟨rfl,by simp only[ZU,a1,Option.map_some],⟨fun k t' e'=>?_,fun k t' e'=>?_,fun k hk t' e'=>?_,(s.ext X).len,(s.ext X).keep,s.pos,s.f0⟩,fun a m=>?_⟩⟩
 ·by_cases q:k=i
  ·subst q
   simp[ZY]at e'
   subst e'
   exact⟨v,by simp[upd],by simpa [Zam]using a2⟩
  ·simp[ZY,q]at e'
   simpa [upd,Zam,q]using (s.ext X).slot k t' e'
 ·by_cases q:k=i
  ·subst q;simpa [Zam]using fun a m=>s.from_src (a3 a m)
  ·simp[ZY,q]at e'
   simpa [Zam,q]using s.src k t' e'
 ·by_cases q:k=i
  ·subst q
   simp only[Zam,if_true]
   refine⟨a4 rfl,fun a m=>.inl (Nat.le_trans s.len (hnew a m)),fun j w hj ej a m q=>?_⟩
   simp[ZY,hj]at ej
   rw[if_neg hj]at q
   have:=hold j w ej a q
   have:=hnew a m
   omega
  ·have hk':=(hO k hk).resolve_right q
   simp[ZY,q]at e'
   obtain⟨o1,o2,o3⟩:=s.own k hk' t' e'
   refine⟨by simpa [Zam,q]using o1,by simpa [Zam,q]using o2,fun j w hj ej a m=>?_⟩
   simp[Zam,q]at m
   by_cases q2:j=i
   ·subst q2
    simp only[Zam,if_true]
    intro m2
    have:=hold k t' e' a m
    have:=hnew a m2
    omega
   ·simp[ZY,q2]at ej
    simpa [Zam,q2]using o3 j w hj ej a m
 ·obtain⟨k,hk,⟨t',e'⟩,m⟩:=m
  by_cases q:k=i
  ·subst q
   simp[Zam]at m
   exact .inl (hnew a m)
  ·simp[ZY,q]at e'
   simp[Zam,q]at m
   exact .inr ⟨k,(hO k hk).resolve_right q,⟨t',e'⟩,m⟩
noncomputable def ZO(b:PB)(p q:PS): PS:=fun σ=>(b σ).bind fun x=>if x then p σ else q σ
theorem Aft.grow{c:Ctx}{σ:TL}{H X:Hp}{Φ:Nat→List Nat}{g:Option (Option V×Lc×Hp)}{r:Option T×TL}(h:Aft c O O' R fr σ (H++X) Φ g r): Aft c O O' R fr σ H Φ g r:=by
 obtain⟨ρ',H',Φ',h1,h2,h3⟩:=h
 rw[List.length_append]at h1
 refine⟨ρ',H',Φ',by omega,fun a ha hn=>?_,?_⟩
 ·rw[h2 a (by rw[List.length_append];omega) hn,List.getElem?_append_left ha]
 ·rcases h3 with⟨k1,k2,k3,k4⟩ | k
  ·exact .inl ⟨k1,k2,k3,fun a m=>(k4 a m).imp (fun q=>by rw[List.length_append]at q;omega) id⟩
  ·exact .inr k
theorem Zah{t:Ts}{pb:PB}{a b:Sm}{p q:PS}(z:Bt O t pb)(x:S O O' R fr a p)(y:S O O' R fr b q): S O O' R fr (Z1 t a b) (ZO pb p q):=fun c ρ σ H Φ r s e=>by
 obtain⟨bb,e1,e⟩:=Zz0.mp e
 obtain⟨X,h1⟩:=z c ρ σ H Φ bb s e1
 cases bb with
 | true=>
  have:=x c ρ σ (H++X) Φ r (s.ext X) (by simpa using e)
  have eg:Z1 t a b ρ H=a ρ (H++X):=by simp[Z1,h1]
  rw[eg]
  exact this.grow
 | false=>
  have:=y c ρ σ (H++X) Φ r (s.ext X) (by simpa using e)
  have eg:Z1 t a b ρ H=b ρ (H++X):=by simp[Z1,h1]
  rw[eg]
  exact this.grow
noncomputable def Zw1(p:PE): PS:=fun σ=>(p σ).map fun _=>(none,σ)
theorem Zw9{N:List Nat}{u:Bool}{e:Ex}{p:PE}(x:E O N u e p): S O O R fr (Zcz e) (Zw1 p):=fun c ρ σ H Φ r s q=>by
 obtain⟨t,h1,h⟩:=Zz1.mp q
 subst h
 obtain⟨v,X,F,a1,a2,a3,a4⟩:=x c ρ σ H Φ t s h1
 exact⟨ρ,H++X,Φ,by simp,fun a ha _=>List.getElem?_append_left ha,.inl ⟨rfl,by simp only[Zcz,a1,Option.map_some],s.ext X,fun a m=>.inr m⟩⟩
noncomputable def qNo: PS:=fun _=>none
noncomputable def sNo: Sm:=fun _ _=>none
theorem Zw2{g:Sm}: S O O' R fr g qNo:=fun c ρ σ H Φ r s q=>by cases q
noncomputable def follow(H:Hp): List Int→V→Option V
 | [],v=>some v
 | k::ks,v=>(Zt v (.int k) H).bind fun q=>follow H ks q.1
theorem Lead.follow{H:Hp}{ks:List Int}{v:V}{a:Nat}(l:Lead H ks v a): follow H ks v=some (.ref a):=by
 induction l with
 | nil=>rfl
 | ref h1 h2 h3 _ ih=>simp only[TM.follow,Zt,h1,Option.bind_some,h2,h3,Option.map_some,ih]
 | tup h2 h3 _ ih=>simp only[TM.follow,Zt,Option.bind_some,h2,h3,Option.map_some,ih]
theorem Zk9{H:Hp}{v w z:V}{K:Hp}(h:Zt v z H=some (w,K))(X:Hp): K=H∧Zt v z (H++X)=some (w,H++X):=by
 unfold Zt at h
 split at h
 ·obtain⟨vs,e1,h⟩:=Zz0.mp h
  obtain⟨j,e2,h⟩:=Zz0.mp h
  obtain⟨x,e3,h⟩:=Zz1.mp h
  cases h
  exact⟨rfl,by simp only[Zt,List.getElem?_append_left (Zz6.mp e1).1,e1,Option.bind_some,e2,e3,Option.map_some]⟩
 ·obtain⟨j,e2,h⟩:=Zz0.mp h
  obtain⟨x,e3,h⟩:=Zz1.mp h
  cases h
  exact⟨rfl,by simp only[Zt,Option.bind_some,e2,e3,Option.map_some]⟩
 ·cases h
theorem Znt{H:Hp}{k:Int}: ∀{ks:List Int} {v:V},follow H (ks++[k]) v=(follow H ks v).bind fun w=>(Zt w (.int k) H).map (·.1)
 | [],v=>by
  simp only[List.nil_append,follow,Option.bind_some]
  cases Zt v (.int k) H <;> rfl
 | j::ks,v=>by
  simp only[List.cons_append,follow]
  cases Zt v (.int j) H with
  | none=>rfl
  | some q=>simp only[Option.bind_some];exact Znt
noncomputable abbrev PPa:=TL→Option (List Int)
noncomputable def Za1: PPa:=fun _=>some []
noncomputable def Zem(p:PPa)(i:PE): PPa:=fun σ=>(p σ).bind fun ks=>(i σ).bind fun t=>match t with
 | .int k=>some (ks++[k])
 | _=>none
noncomputable def Pa(O:List Nat)(x:Nat)(e:Ex)(p:PPa): Prop:=∀(c:Ctx) (ρ:Lc) (σ:TL) (H:Hp) (Φ:Nat→List Nat) (ks:List Int) (v w:V),St c O ρ σ H Φ→p σ=some ks→ρ x=some v→follow H ks v=some w→∃X,e ρ H=some (w,H++X)
theorem ZcT{x:Nat}: Pa O x (Zb x) Za1:=fun c ρ σ H Φ ks v w s h e f=>by
 cases h;cases f
 exact⟨[],by simp[Zb,e]⟩
theorem ZvP{x:Nat}{N:List Nat}{u:Bool}{e i:Ex}{p:PPa}{pi:PE}(y:Pa O x e p)(z:E O N u i pi): Pa O x (Zh Zt e i) (Zem p pi):=fun c ρ σ H Φ ks v w s h ev f=>by
 obtain⟨ks0,h1,h⟩:=Zz0.mp h
 obtain⟨t,h2,h⟩:=Zz0.mp h
 cases t <;> first | (cases h;done) | skip
 rename_i k
 cases h
 rw[Znt]at f
 obtain⟨w0,f1,f⟩:=Zz0.mp f
 obtain⟨⟨w1,K⟩,f2,f⟩:=Zz1.mp f
 cases f
 obtain⟨X,a1⟩:=y c ρ σ H Φ ks0 v w0 s h1 ev f1
 obtain⟨vi,Y,F,b1,b2,b3,b4⟩:=z c ρ σ (H++X) Φ _ (s.ext X) h2
 cases b2
 refine⟨X++Y,?_⟩
 simp only[Zh,a1,Option.bind_some,b1]
 have:=(Zk9 f2 (X++Y)).2
 rw[List.append_assoc]
 exact this
theorem ZpO{c:Ctx}{ρ:Lc}{σ:TL}{H:Hp}{Φ:Nat→List Nat}{N:List Nat}{x a b:Nat}{t t':T}{v:V}{Fw F':List Nat}{vs':List V}(s:St c O ρ σ H Φ)(hx:x∈O)(ex:σ x=some t)(ev:ρ x=some v)(hb:c.H0.length≤b)(hlow:∀k t,σ k=some t→∀a∈Φ k,a<b)
  (hFw:∀a∈Fw,b≤a∨∃j∈N,(∃t,σ j=some t)∧a∈Φ j) (hN:∀j∈N,j∈O∧j≠x) (ha:a∈Φ x) (r:RF (H.set a vs') v t' F') (nd:F'.Nodup) (sub:∀y∈F',y∈Φ x∨y∈Fw) (hO:∀j∈O',j∈O∧j∉N):
  St c O' ρ (Zcy (ZY σ x t') N) (H.set a vs') (Zam Φ x F')∧(∀y,ZcJ O' (Zcy (ZY σ x t') N) (Zam Φ x F') y→b≤y∨ZcJ O σ Φ y):=by
 obtain⟨o1,o2,o3⟩:=s.own x hx t ex
 have old:∀k u,k≠x→Zcy (ZY σ x t') N k=some u→σ k=some u∧k∉N:=fun k u hk e=>by
  unfold Zcy at e
  split at e
  ·cases e
  ·rename_i hn
   simp[ZY,hk]at e
   exact⟨e,hn⟩
 have self:∀u,Zcy (ZY σ x t') N x=some u→u=t':=fun u e=>by
  unfold Zcy at e
  split at e
  ·cases e
  ·simp[ZY]at e;exact e.symm
 have foff:∀y∈F',∀k u,k≠x→σ k=some u→k∉N→y∉Φ k:=fun y hy k u hk e hkn m=>by
  rcases sub y hy with q | q
  ·exact o3 k u hk e y q m
  ·rcases hFw y q with q | ⟨j,hj,⟨tj,ej⟩,mj⟩
   ·have:=hlow k u e y m;omega
   ·exact(s.own j (hN j hj).1 tj ej).2.2 k u (fun q=>hkn (q▸hj)) e y mj m
 refine⟨⟨fun k u e=>?_,fun k u e=>?_,fun k hk u e=>?_,by simpa using s.len,fun y hy hn=>?_,s.pos,s.f0⟩,fun y hy=>?_⟩
 ·by_cases q:k=x
  ·subst q
   have:=self u e
   subst this
   exact⟨v,ev,by simpa [Zam]using r⟩
  ·obtain⟨e1,e2⟩:=old k u q e
   obtain⟨w,h1,h2⟩:=s.slot k u e1
   refine⟨w,h1,?_⟩
   simp only[Zam,q,if_false]
   refine h2.frame fun y hy=>List.getElem?_set_ne fun q'=>?_
   exact o3 k u q e1 a ha (q'▸hy)
 ·by_cases q:k=x
  ·subst q
   simp only[Zam,if_true]
   intro y hy
   rcases sub y hy with q | q
   ·exact s.src k t ex y q
   ·rcases hFw y q with q | ⟨j,hj,⟨tj,ej⟩,mj⟩
    ·exact .inl (by omega)
    ·exact s.src j tj ej y mj
  ·obtain⟨e1,e2⟩:=old k u q e
   simpa [Zam,q]using s.src k u e1
 ·by_cases q:k=x
  ·subst q
   simp only[Zam,if_true]
   refine⟨nd,fun y hy=>?_,fun j w hj ej y hy=>?_⟩
   ·rcases sub y hy with q | q
    ·exact o2 y q
    ·rcases hFw y q with q | ⟨j,hj,⟨tj,ej⟩,mj⟩
     ·exact .inl (by omega)
     ·exact(s.own j (hN j hj).1 tj ej).2.1 y mj
   ·obtain⟨e1,e2⟩:=old j w hj ej
    simpa [hj]using foff y hy j w hj e1 e2
  ·obtain⟨e1,e2⟩:=old k u q e
   obtain⟨p1,p2,p3⟩:=s.own k (hO k hk).1 u e1
   simp only[Zam,q,if_false]
   refine⟨p1,p2,fun j w hj ej y hy=>?_⟩
   by_cases q2:j=x
   ·subst q2
    simp only[if_true]
    exact fun m=>foff y m k u q e1 e2 hy
   ·obtain⟨f1,f2⟩:=old j w q2 ej
    simpa [q2]using p3 j w hj f1 y hy
 ·have:a≠y:=fun q=>by
   subst q
   rcases o2 a ha with q | q
   ·omega
   ·exact hn q
  rw[List.getElem?_set_ne this]
  exact s.keep y hy hn
 ·obtain⟨k,hk,⟨u,e⟩,m⟩:=hy
  by_cases q:k=x
  ·subst q
   simp only[Zam,if_true]at m
   rcases sub y m with q | q
   ·exact .inr ⟨k,hx,⟨t,ex⟩,q⟩
   ·rcases hFw y q with q | ⟨j,hj,q⟩
    ·exact .inl q
    ·exact .inr ⟨j,(hN j hj).1,q⟩
  ·obtain⟨e1,e2⟩:=old k u q e
   simp only[Zam,q,if_false]at m
   exact .inr ⟨k,(hO k hk).1,⟨u,e1⟩,m⟩
theorem Zl6{c:Ctx}{ρ:Lc}{σ:TL}{H:Hp}{Φ:Nat→List Nat}{x a:Nat}{t:T}(s:St c O ρ σ H Φ)(hx:x∈O)(ex:σ x=some t)(ha:a∈Φ x): a≠0:=by
 have:=s.pos
 rcases(s.own x hx t ex).2.1 a ha with q | q
 ·omega
 ·exact fun e=>s.f0 (e▸q)
noncomputable def Ziy(w:T)(ts:List T): Option (List T):=if ts.length<LEN then some (ts++[w])else none
noncomputable def Ziz(k:Int)(w:T)(ts:List T): Option (List T):=if 0≤k∧k<ts.length then some (ts.set k.toNat w)else none
noncomputable def Zdv(x:Nat)(N:List Nat)(po:PPa)(p:PE): PS:=fun σ=>(po σ).bind fun ks=>(p σ).bind fun w=>(σ x).bind fun t=>(ZdK (Ziy w) ks t).map fun t'=>(none,Zcy (ZY σ x t') N)
noncomputable def ZbR(x:Nat)(N:List Nat)(p:PE)(po:PPa)(pi:PE): PS:=fun σ=>(p σ).bind fun w=>(po σ).bind fun ks=>(pi σ).bind fun k=>match k with
 | .int k=>(σ x).bind fun t=>(ZdK (Ziz k w) ks t).map fun t'=>(none,Zcy (ZY σ x t') N)
 | _=>none
theorem ZfE{H:Hp}(X:Hp): ∀{ks:List Int} {v w:V},follow H ks v=some w→follow (H++X) ks v=some w
 | [],_,_,h=>h
 | k::ks,v,w,h=>by
  obtain⟨⟨w1,K⟩,h1,h2⟩:=Zz0.mp h
  simp only[follow,(Zk9 h1 X).2,Option.bind_some]
  exact ZfE X h2
theorem Zim{x:Nat}{N:List Nat}{o e:Ex}{po:PPa}{p:PE}(hx:x∈O)(y:Pa O x o po)(z:E O N true e p)(hN:∀j∈N,j∈O∧j≠x)(hO:∀j∈O',j∈O∧j∉N): S O O' R fr (Zcz (Zeg o e)) (Zdv x N po p):=fun c ρ σ H Φ r s q=>by
 obtain⟨ks,h1,q⟩:=Zz0.mp q
 obtain⟨w,h2,q⟩:=Zz0.mp q
 obtain⟨t,h3,q⟩:=Zz0.mp q
 obtain⟨t',h4,q⟩:=Zz1.mp q
 subst q
 obtain⟨v,ev,rv⟩:=s.slot x t h3
 have hlow:∀k t,σ k=some t→∀a∈Φ k,a<H.length:=fun k t e a m=>by
  obtain⟨_,_,r⟩:=s.slot k t e
  exact r.lt a m
 obtain⟨o1,o2,o3⟩:=s.own x hx t h3
 obtain⟨a,vs0,ts0,ts0',G0,l0,_⟩:=Ze1 (Gn:=[]) ks rv o1 (by simp) h4
 obtain⟨X,a1⟩:=y c ρ σ H Φ ks v (.ref a) s h1 ev l0.follow
 obtain⟨vw,Y,Fw,b1,b2,b3,b4⟩:=z c ρ σ (H++X) Φ w (s.ext X) h2
 have s2:=(s.ext X).ext Y
 have rv2:RF (H++X++Y) v t (Φ x):=(rv.ext X).ext Y
 have hFw:∀a∈Fw,H.length≤a∨∃j∈N,(∃t,σ j=some t)∧a∈Φ j:=fun a m=>(b3 a m).back
 have dsj:∀a∈Fw,a∉Φ x:=fun a m q=>by
  rcases hFw a m with h | ⟨j,hj,⟨tj,ej⟩,mj⟩
  ·have:=hlow x t h3 a q;omega
  ·exact o3 j tj (hN j hj).2 ej a q mj
 obtain⟨a',vs,ts,ts',G,l,am,ea,hs,hf,gn,na,gs,go⟩:=Ze1 (Gn:=Fw) ks rv2 o1 dsj h4
 have haa:a'=a:=by
  have f2:=ZfE Y (ZfE X l0.follow)
  rw[l.follow]at f2
  cases f2
  rfl
 subst haa
 unfold Ziy at hf
 split at hf
 ·rename_i hl
  cases hf
  obtain⟨F',r',n',sub'⟩:=go (vs++[vw]) (G++Fw) (hs.snoc b2) (by
   rw[List.nodup_append]
   exact⟨gn,b4 rfl,fun y hy z hz e=>dsj z hz (e▸gs y hy)⟩) (fun m=>(Zz8.mp m).elim na fun m=>dsj _ m am) (fun y m=>List.mem_append.mp m)
  obtain⟨st,com⟩:=ZpO (O':=O') (b:=H.length) s2 hx h3 ev s.len hlow hFw hN am r' n' sub' hO
  refine⟨ρ,(H++X++Y).set a' (vs++[vw]),Zam Φ x F',by simp,fun y hy hn=>?_,.inl ⟨rfl,?_,st,com⟩⟩
  ·have:a'≠y:=fun q=>hn ⟨x,hx,⟨t,h3⟩,q▸am⟩
   rw[List.getElem?_set_ne this,List.append_assoc,List.getElem?_append_left hy]
  ·simp only[Zcz,Zeg,a1,Option.bind_some,b1,Zf5,ea]
   rw[if_pos ⟨Zl6 s hx h3 am,by rw[hs.length];exact hl⟩]
   rfl
 ·cases hf
theorem S.put{x:Nat}{N M:List Nat}{u:Bool}{o e i:Ex}{po:PPa}{p pi:PE}(hx:x∈O)(z:E O N true e p)(y:Pa O x o po)(zi:E O M u i pi)(hN:∀j∈N,j∈O∧j≠x)(hO:∀j∈O',j∈O∧j∉N): S O O' R fr (ZcZ e o i) (ZbR x N p po pi):=fun c ρ σ H Φ r s q=>by
 obtain⟨w,h2,q⟩:=Zz0.mp q
 obtain⟨ks,h1,q⟩:=Zz0.mp q
 obtain⟨tk,h5,q⟩:=Zz0.mp q
 cases tk <;> first | (cases q;done) | skip
 rename_i k
 obtain⟨t,h3,q⟩:=Zz0.mp q
 obtain⟨t',h4,q⟩:=Zz1.mp q
 subst q
 obtain⟨v,ev,rv⟩:=s.slot x t h3
 have hlow:∀k t,σ k=some t→∀a∈Φ k,a<H.length:=fun k t e a m=>by
  obtain⟨_,_,r⟩:=s.slot k t e
  exact r.lt a m
 obtain⟨o1,o2,o3⟩:=s.own x hx t h3
 obtain⟨vw,X,Fw,b1,b2,b3,b4⟩:=z c ρ σ H Φ w s h2
 obtain⟨a,vs0,ts0,ts0',G0,l0,_⟩:=Ze1 (Gn:=[]) ks (rv.ext X) o1 (by simp) h4
 obtain⟨Y,a1⟩:=y c ρ σ (H++X) Φ ks v (.ref a) (s.ext X) h1 ev l0.follow
 obtain⟨vk,Z,Fk,d1,d2,d3,d4⟩:=zi c ρ σ (H++X++Y) Φ _ ((s.ext X).ext Y) h5
 cases d2
 have s2:=((s.ext X).ext Y).ext Z
 have rv2:RF (H++X++Y++Z) v t (Φ x):=((rv.ext X).ext Y).ext Z
 have hFw:∀a∈Fw,H.length≤a∨∃j∈N,(∃t,σ j=some t)∧a∈Φ j:=b3
 have dsj:∀a∈Fw,a∉Φ x:=fun a m q=>by
  rcases hFw a m with h | ⟨j,hj,⟨tj,ej⟩,mj⟩
  ·have:=hlow x t h3 a q;omega
  ·exact o3 j tj (hN j hj).2 ej a q mj
 obtain⟨a',vs,ts,ts',G,l,am,ea,hs,hf,gn,na,gs,go⟩:=Ze1 (Gn:=Fw) ks rv2 o1 dsj h4
 have haa:a'=a:=by
  have f2:=ZfE Z (ZfE Y l0.follow)
  rw[l.follow]at f2
  cases f2
  rfl
 subst haa
 unfold Ziz at hf
 split at hf
 ·rename_i hl
  cases hf
  have hk:k.toNat<ts.length:=by omega
  obtain⟨v0,Gk,F1,F2,e0,r0,eG,rb⟩:=hs.split (List.getElem?_eq_getElem hk)
  have b2':RF (H++X++Y++Z) vw w Fw:=(b2.ext Y).ext Z
  have rs:=rb (H++X++Y++Z) vw w Fw b2' (fun _ _=>rfl) (fun _ _=>rfl)
  have sub0:∀a∈Fw,a∈Gk∨a∈Fw:=fun a m=>.inr m
  subst eG
  obtain⟨F',r',n',sub'⟩:=go _ _ rs (nd3 gn (b4 rfl) sub0 fun a m q=>dsj a m (gs a q)) (fun m=>by
   rcases in3 (G:=Gk) sub0 _ m with m | m
   ·exact na m
   ·exact dsj _ m am) (in3 sub0)
  obtain⟨st,com⟩:=ZpO (O':=O') (b:=H.length) s2 hx h3 ev s.len hlow hFw hN am r' n' sub' hO
  refine⟨ρ,(H++X++Y++Z).set a' (vs.set k.toNat vw),Zam Φ x F',by simp,fun y hy hn=>?_,.inl ⟨rfl,?_,st,com⟩⟩
  ·have:a'≠y:=fun q=>hn ⟨x,hx,⟨t,h3⟩,q▸am⟩
   rw[List.getElem?_set_ne this,List.append_assoc,List.append_assoc,List.getElem?_append_left hy]
  ·simp only[ZcZ,b1,Option.bind_some,a1,d1,Zm0,ea]
   rw[if_pos ⟨Zl6 s hx h3 am,by rw[hs.length];exact hl⟩]
   rfl
 ·cases hf
noncomputable def Zew(put:T→TL→Option TL)(b:PS): TL→List T→Option (Option T×TL)
 | σ,[]=>some (none,σ)
 | σ,t::ts=>(put t σ).bind fun σ1=>(b σ1).bind fun r=>match r.1 with
  | some _=>some r
  | none=>Zew put b r.2 ts
noncomputable def ZaA(g:PG)(put:T→TL→Option TL)(b:PS): PS:=fun σ=>(g σ).bind fun ts=>Zew put b σ ts
theorem ZlJ{J:List Nat}{put:V→Lc→Option Lc}{pput:T→TL→Option TL}{b:Sm}{qb:PS}(hj:PutOk O J put pput)(hJ:∀i∈J,i∉O)(hb:S O O R fr b qb){c:Ctx}{nx:Nx}{vs:List V}{G:List Nat}{H1:Hp}(hG:∀a∈G,a<H1.length)(hsrc:∀a∈G,c.H0.length≤a∨c.P a)(hnx:∀K:Hp,(∀a∈G,K[a]?=H1[a]?)→∀i,i≤vs.length→nx i K=some vs[i]?):
  ∀(rs:List T) (ws:List V) (i:Nat) (ρ:Lc) (σ:TL) (K:Hp) (Φ:Nat→List Nat) (Fr:List Nat) (r:Option T×TL),(∀j,vs[i+j]?=ws[j]?)→i+ws.length=vs.length→St c O ρ σ K Φ→H1.length≤K.length→(∀a∈G,K[a]?=H1[a]?)→(∀a∈G,¬ZcJ O σ Φ a)→RFs K ws rs Fr→(∀a∈Fr,a∈G)→Zew pput qb σ rs=some r →
   Aft c O O R fr σ K Φ (Zdq nx put b (rs.length+1) i ρ K) r
 | [],ws,i,ρ,σ,K,Φ,Fr,r,hat,hlen,s,hl,hk,hoff,rr,hfr,h=>by
  cases rr
  cases h
  have e:=hnx K hk i (by simp at hlen;omega)
  have e2:vs[i]?=none:=by have:=hat 0;simpa using this
  exact⟨ρ,K,Φ,Nat.le_refl _,fun _ _ _=>rfl,.inl ⟨rfl,by simp[Zdq,e,e2],s,fun a m=>.inr m⟩⟩
 | t::rs,ws0,i,ρ,σ,K,Φ,Fr0,r,hat,hlen,s,hl,hk,hoff,rr,hfr,h=>by
  cases rr with
  | @cons v _ F1 ws _ F2 a b'=>
  simp only[List.length_cons]at hlen
  obtain⟨σ1,h1,h⟩:=Zz0.mp h
  obtain⟨r1,h2,h⟩:=Zz0.mp h
  have e:=hnx K hk i (by omega)
  have e2:vs[i]?=some v:=by have:=hat 0;simpa using this
  have hat':∀j,vs[i+1+j]?=ws[j]?:=fun j=>by have:=hat (j+1);rw[show i+1+j=i+(j+1)by omega,this];simp
  obtain⟨ρ1,Φ1,p1,s1,p3,p4⟩:=hj c ρ σ K Φ v t F1 σ1 s a (fun x m=>hsrc x (hfr x (Zz4 _ m))) (fun k hk t' e x m q=>hoff x (hfr x (Zz4 _ q)) ⟨k,hk,⟨t',e⟩,m⟩) h1
  have hh:∀x,ZcJ O σ1 Φ1 x→ZcJ O σ Φ x:=fun x ⟨k,hk,⟨t',e⟩,m⟩=>by
   obtain⟨q1,q2⟩:=p3 k fun q=>hJ k q hk
   exact⟨k,hk,⟨t',q1▸e⟩,q2▸m⟩
  obtain⟨ρ2,K2,Φ2,g1,g2,g3⟩:=hb c ρ1 σ1 K Φ1 r1 s1 h2
  have estep:Zdq nx put b ((t::rs).length+1) i ρ K=(b ρ1 K).bind fun q=>match q.1 with
    | some _=>some q
    | none=>Zdq nx put b (rs.length+1) (i+1) q.2.1 q.2.2:=by
   rw[List.length_cons]
   show(nx i K).bind _=_
   rw[e,e2]
   first | (simp only[Option.bind_some,p1];done) | (simp only[Option.bind_some,p1];rfl)
  rcases g3 with⟨k1,k2,k3,k4⟩ | ⟨t',v',F',k1,k2,k3⟩
  ·rw[k1]at h
   have hG2:∀a∈G,K2[a]?=K[a]?:=fun x m=>g2 x (by have:=hG x m;omega) fun q=>hoff x m (hh x q)
   have hoff2:∀a∈G,¬ZcJ O r1.2 Φ2 a:=fun x m q=>by
    rcases k4 x q with q | q
    ·have:=hG x m;omega
    ·exact hoff x m (hh x q)
   have ih:=ZlJ hj hJ hb hG hsrc hnx rs ws (i+1) ρ2 r1.2 K2 Φ2 F2 r hat' (by omega) k3 (by omega) (fun x m=>(hG2 x m).trans (hk x m)) hoff2 (b'.frame fun x m=>hG2 x (hfr x (Zz3 _ m))) (fun x m=>hfr x (Zz3 _ m)) h
   rw[estep,k2]
   simp only[Option.bind_some]
   obtain⟨ρ3,K3,Φ3,l1,l2,l3⟩:=ih
   refine⟨ρ3,K3,Φ3,by omega,fun x hx hn=>?_,?_⟩
   ·rw[l2 x (by omega) fun q=>(k4 x q).elim (fun q=>by omega) fun q=>hn (hh x q),g2 x hx fun q=>hn (hh x q)]
   ·rcases l3 with⟨m1,m2,m3,m4⟩ | l
    ·refine .inl ⟨m1,m2,m3,fun x q=>?_⟩
     rcases m4 x q with q | q
     ·exact .inl (by omega)
     ·exact(k4 x q).imp id (hh x)
    ·exact .inr l
  ·rw[k1]at h
   cases h
   refine⟨ρ2,K2,Φ2,g1,fun x hx hn=>g2 x hx fun q=>hn (hh x q),.inr ⟨t',v',F',k1,?_,k3⟩⟩
   rw[estep,k2]
   rfl
theorem ZbC{J Ns:List Nat}{g:Src}{q:PG}{put:V→Lc→Option Lc}{pput:T→TL→Option TL}{b:Sm}{qb:PS}(hg:Gs O Ns g q)(hj:PutOk O J put pput)(hJ:∀i∈J,i∉O)(hN:∀i∈Ns,i∉O)(hb:S O O R fr b qb): S O O R fr (ZaZ g put b) (ZaA q pput qb):=fun c ρ σ H Φ r s h=>by
 obtain⟨ts,h1,h⟩:=Zz0.mp h
 obtain⟨nx,X,vs,F,G,g1,g2,g3,g4,g5⟩:=hg c ρ σ H Φ ts s h1
 have:=ZlJ hj hJ hb (H1:=H++X) (fun a m=>(g4 a m).1) (fun a m=>s.from_src (g4 a m).2) g5 ts vs 0 ρ σ (H++X) Φ F r (by simp) (by simp) (s.ext X) (Zz10 _) (fun _ _=>rfl) (fun a m ⟨k,hk,⟨t,e⟩,q⟩=>s.from_off hN (g4 a m).2 hk e q) g2 g3 h
 have eg:ZaZ g put b ρ H=Zdq nx put b (ts.length+1) 0 ρ (H++X):=by simp only[ZaZ,g1,Option.bind_some]
 rw[eg]
 exact this.grow
noncomputable def Zdb(t:PB)(b:PS): Nat→PS
 | 0=>fun _=>none
 | n+1=>fun σ=>(t σ).bind fun p=>if p then(b σ).bind fun q=>(match q.1 with
   | some _=>some q
   | none=>Zdb t b n q.2)else some (none,σ)
theorem Zl7{t:Ts}{pt:PB}{b:Sm}{qb:PS}(z:Bt O t pt)(y:S O O R fr b qb): ∀n,S O O R fr (ZdD t b n) (Zdb pt qb n)
 | 0=>fun c ρ σ H Φ r s h=>by cases h
 | n+1=>fun c ρ σ H Φ r s h=>by
  obtain⟨p,h1,h⟩:=Zz0.mp h
  obtain⟨X,a1⟩:=z c ρ σ H Φ p s h1
  cases p with
  | false=>
   cases h
   exact⟨ρ,H++X,Φ,by simp,fun a ha _=>List.getElem?_append_left ha,.inl ⟨rfl,by simp[ZdD,a1],s.ext X,fun a m=>.inr m⟩⟩
  | true=>
   simp only[if_true]at h
   obtain⟨r1,h2,h⟩:=Zz0.mp h
   have b1:=(y c ρ σ (H++X) Φ r1 (s.ext X) h2).grow
   have eg:ZdD t b (n+1) ρ H=(b ρ (H++X)).bind fun q=>(match q.1 with
    | some _=>some q
    | none=>ZdD t b n q.2.1 q.2.2):=by
    show(t ρ H).bind _=_
    rw[a1]
    rfl
   rw[eg]
   obtain⟨ρ1,H1,Φ1,g1,g2,g3⟩:=b1
   rcases g3 with⟨k1,k2,k3,k4⟩ | ⟨t',v',F',k1,k2,k3⟩
   ·rw[k1]at h
    obtain⟨ρ3,K3,Φ3,l1,l2,l3⟩:=Zl7 z y n c ρ1 r1.2 H1 Φ1 r k3 h
    rw[k2]
    simp only[Option.bind_some]
    refine⟨ρ3,K3,Φ3,by omega,fun x hx hn=>?_,?_⟩
    ·rw[l2 x (by omega) fun q=>(k4 x q).elim (fun q=>by omega) hn,g2 x hx hn]
    ·rcases l3 with⟨m1,m2,m3,m4⟩ | l
     ·refine .inl ⟨m1,m2,m3,fun x q=>?_⟩
      rcases m4 x q with q | q
      ·exact .inl (by omega)
      ·exact k4 x q
     ·exact .inr l
   ·rw[k1]at h
    cases h
    exact⟨ρ1,H1,Φ1,g1,g2,.inr ⟨t',v',F',k1,by rw[k2];rfl,k3⟩⟩
end
noncomputable def Z0(n:Nat)(q:PS): List T→Option T:=fun ts=>if ts.length=n then(q fun i=>ts[i]?).map fun r=>r.1.getD .none else none
theorem RFs.slots{H:Hp}: ∀{vs:List V} {ts:List T} {F:List Nat},RFs H vs ts F→∃Φ:Nat→List Nat,∀i t,ts[i]?=some t→∃v,vs[i]?=some v∧RF H v t (Φ i)∧∀a∈Φ i,a∈F
 | _,_,_,.nil=>⟨fun _=>[],fun i t e=>by simp at e⟩
 | _,_,_,.cons (F:=F1) a b=>by
  obtain⟨Φ,h⟩:=b.slots
  refine⟨fun i=>match i with | 0=>F1 | i+1=>Φ i,fun i t e=>?_⟩
  cases i with
  | zero=>simp at e;subst e;exact⟨_,by simp,a,fun x m=>List.mem_append_left _ m⟩
  | succ i=>
   simp at e
   obtain⟨v,h1,h2,h3⟩:=h i t e
   exact⟨v,by simpa using h1,h2,fun x m=>List.mem_append_right _ (h3 x m)⟩
theorem ZnD{H H':Hp}(hl:H.length≤H'.length)(h:∀a,a<H.length→H'[a]?=H[a]?): H'=H++H'.drop H.length:=by
 conv=>lhs;rw[←List.take_append_drop H.length H']
 congr 1
 refine List.ext_getElem? fun i=>?_
 by_cases q:i<H.length
 ·rw[List.getElem?_take_of_lt q,h i q]
 ·rw[List.getElem?_eq_none (by simp;omega),List.getElem?_eq_none (by omega)]
theorem Zaj{O':List Nat}{fr:Bool}{n:Nat}{g:Sm}{q:PS}(h:S [] O' [] fr g q): SimF fr (Z3 n g) (Z0 n q):=fun H vs ts t F1 hp r e=>by
 unfold Z0 at e
 split at e
 ·rename_i hl
  obtain⟨r1,e1,e2⟩:=Zz1.mp e
  obtain⟨Φ,hΦ⟩:=r.slots
  have st:St ⟨H,[],fun a=>a∈F1⟩ [] (fun i=>vs[i]?) (fun i=>ts[i]?) H Φ:=
   ⟨(fun i t e=>by obtain⟨v,h1,h2,_⟩:=hΦ i t e;exact⟨v,h1,h2⟩),fun i t e a m=>(by obtain⟨v,h1,h2,h3⟩:=hΦ i t e;exact .inr (h3 a m)),(fun i hi=>nomatch hi),Nat.le_refl _,fun a _ _=>rfl,hp,by simp⟩
  obtain⟨ρ',H',Φ',h1,h2,h3⟩:=h _ _ _ _ _ _ st e1
  rcases h3 with⟨k1,k2,k3,k4⟩ | ⟨t',v',F',k1,k2,k3,k4,k5,k6⟩
  ·have eh:=ZnD k3.len fun a ha=>k3.keep a ha (by simp)
   refine⟨.none,H'.drop H.length,[],?_,?_,by simp,by simp⟩
   ·have hv:vs.length=n:=r.length.trans hl
    simp only[Z3,hv,if_true,k2,Option.map_some,Option.getD_none]
    rw[←eh]
   ·rw[k1]at e2
    subst e2
    exact .none
  ·have eh:=ZnD k4.len fun a ha=>k4.keep a ha (by simp)
   refine⟨v',H'.drop H.length,F',?_,?_,k5,fun hf=>⟨(k6 hf).1,fun a m=>((k6 hf).2 a m).elim id fun q=>by cases q⟩⟩
   ·have hv:vs.length=n:=r.length.trans hl
    simp only[Z3,hv,if_true,k2,Option.map_some,Option.getD_some]
    rw[←eh]
   ·rw[k1]at e2
    subst e2
    rw[←eh]
    exact k3
 ·cases e
theorem ZsQ{f:List V→Hp→Option (V×Hp)}{p:List T→Option T}{fr:Bool}(h:SimF fr f p)(ns:List Int)(e:p [.lst (ns.map T.int)]=some (.bool true)): ∃H',f [.ref 0] [ns.map V.int]=some (.bool true,H'):=by
 have intsAre:∀l:List Int,RFs [ns.map V.int] (l.map V.int) (l.map T.int) []:=fun l=>by
  induction l with
  | nil=>exact .nil
  | cons a l ih=>exact .cons (.int a) ih
 obtain⟨v,X,F,h1,h2,_⟩:=h [ns.map V.int] [.ref 0] [.lst (ns.map T.int)] _ _ (by simp) (.one (.ref rfl (intsAre ns))) e
 cases h2
 exact⟨_,h1⟩
end TM
end
section
set_option autoImplicit false
namespace TM
open PySem PM
section
variable {O Ns Ne J:List Nat}
theorem ZbZ{u:Bool}{g:Src}{q:PG}{put:V→Lc→Option Lc}{pput:T→TL→Option TL}{tc:Ts}{pc:PB}{f:Ex}{pf:PE}(hg:Gs O Ns g q)(hj:PutOk O J put pput)(hN:∀i∈Ns,i∉O)(hc:Bt O tc pc)(hf:E O Ne u f pf): E O (Ns++Ne) false (ZaH g put tc f) (Zai q pput pc pf):=
 ZpN hg hj hN hc hf.sh (by simp)
theorem Zdk{g:Src}{q:PG}{put:V→Lc→Option Lc}{pput:T→TL→Option TL}{tc:Ts}{pc:PB}{f:Ex}{pf:PE}(hg:Gs O Ns g q)(hj:PutOk O J put pput)(hN:∀i∈Ns,i∉O)(hc:Bt O tc pc)(hf:E O [] true f pf): E O [] true (ZaH g put tc f) (Zai q pput pc pf):=
 ZpN hg hj hN hc hf (by simp)
end
end TM
end
section
set_option autoImplicit false
/-! Forward reckoning over trees. -/
namespace TM
open PySem PM
noncomputable def dec(P:Prop): Bool:=@decide P (Classical.propDecidable P)
theorem dec_iff{P:Prop}: dec P=true↔P:=by unfold dec;exact @decide_eq_true_iff P (Classical.propDecidable P)
theorem ZaR{P:Prop}(h:P): dec P=true:=dec_iff.mpr h
theorem Zbw{P:Prop}(h:¬P): dec P=false:=by
 cases e:dec P with
 | true=>exact absurd (dec_iff.mp e) h
 | false=>rfl
theorem ZeJ{P Q:Prop}(h:P↔Q): dec P=dec Q:=by
 by_cases p:P
 ·rw[ZaR p,ZaR (h.mp p)]
 ·rw[Zbw p,Zbw fun q=>p (h.mpr q)]
theorem Zmw{P:Prop}{b:Bool}(h:b=true↔P): dec P=b:=by
 cases b with
 | true=>exact ZaR (h.mp rfl)
 | false=>exact Zbw fun p=>by simpa using h.mpr p
theorem ZeD{P:Prop}[i:Decidable P]: decide P=dec P:=by
 unfold dec;congr
noncomputable def tab{α:Type}(n:Nat)(f:Nat→α): List α:=(List.range n).map f
theorem Zan{α:Type}{n:Nat}{f:Nat→α}: (tab n f).length=n:=by simp[tab]
theorem ZaP{α:Type}{n:Nat}{f:Nat→α}{i:Nat}(h:i<n): (tab n f)[i]?=some (f i):=by simp[tab,h]
theorem Zgj{α:Type}{n:Nat}{f:Nat→α}{i:Nat}(h:n≤i): (tab n f)[i]?=none:=by simp[tab,h]
theorem Zcu{α:Type}{n:Nat}{f:Nat→α}: tab n f++[f n]=tab (n+1) f:=by simp[tab,List.range_succ]
theorem Zf8{α:Type}{n:Nat}{xs:List α}{f:Nat→α}(hl:xs.length=n)(h:∀i,i<n→xs[i]?=some (f i)): xs=tab n f:=by
 refine List.ext_getElem? fun i=>?_
 by_cases q:i<n
 ·rw[h i q,ZaP q]
 ·rw[List.getElem?_eq_none (by omega),Zgj (by omega)]
theorem Za2{α:Type}{n:Nat}{f g:Nat→α}(h:∀i,i<n→f i=g i): tab n f=tab n g:=by
 refine Zf8 Zan fun i hi=>?_
 rw[ZaP hi,h i hi]
theorem ZeV{α:Type}{n k:Nat}{f:Nat→α}{v:α}: (tab n f).set k v=tab n fun i=>if i=k then v else f i:=by
 refine Zf8 (by rw[List.length_set,Zan]) fun i hi=>?_
 by_cases q:i=k
 ·subst q
  rw[List.getElem?_set_self (by rw[Zan];exact hi),if_pos rfl]
 ·rw[List.getElem?_set_ne (Ne.symm q),ZaP hi,if_neg q]
theorem tab_map{α β:Type}{n:Nat}{f:Nat→α}{g:α→β}: (tab n f).map g=tab n fun i=>g (f i):=by simp[tab]
noncomputable def cn{α:Type}(a:α)(f:Nat→α): Nat→α
 | 0=>a
 | i+1=>f i
theorem ZtB{α:Type}{n:Nat}{a:α}{f:Nat→α}: a::tab n f=tab (n+1) (cn a f):=by
 refine Zf8 (by rw[List.length_cons,Zan]) fun i hi=>?_
 cases i with
 | zero=>rfl
 | succ i=>rw[List.getElem?_cons_succ,ZaP (by omega)];rfl
theorem Zo9{α β γ:Type}{n m:Nat}{f:Nat→α}{g:Nat→β}{h:α→β→γ}: List.zipWith h (tab n f) (tab m g)=tab (min n m) fun i=>h (f i) (g i):=by
 refine Zf8 (by rw[List.length_zipWith,Zan,Zan]) fun i hi=>?_
 rw[List.getElem?_zipWith,ZaP (show i<n by omega),ZaP (show i<m by omega)]
theorem Zuy{α:Type}{n m:Nat}{f g:Nat→α}: tab n f++tab m g=tab (n+m) fun i=>if i<n then f i else g (i-n):=by
 refine Zf8 (by rw[List.length_append,Zan,Zan]) fun i hi=>?_
 by_cases q:i<n
 ·rw[List.getElem?_append_left (by rw[Zan];exact q),ZaP q,if_pos q]
 ·rw[List.getElem?_append_right (by rw[Zan];omega),Zan,ZaP (by omega),if_neg q]
noncomputable def Pk(c:Option T)(Q:T→Prop): Prop:=∃t,c=some t∧Q t
noncomputable def Pl(c:Option (List T))(Q:List T→Prop): Prop:=∃t,c=some t∧Q t
noncomputable def Pb(c:Option Bool)(Q:Bool→Prop): Prop:=∃t,c=some t∧Q t
noncomputable def Psk(c:Option (Option T×TL))(R:T→Prop)(N:TL→Prop): Prop:=∃o σ,c=some (o,σ)∧(∀t,o=some t→R t)∧(o=none→N σ)
theorem ZJ{c:Option T}{Q:T→Prop}{t:T}(h:c=some t)(k:Q t): Pk c Q:=⟨t,h,k⟩
theorem Pk.eq{c:Option T}{t:T}(h:Pk c fun v=>v=t): c=some t:=by obtain⟨v,e,rfl⟩:=h;exact e
theorem Pk.mono{c:Option T}{Q Q':T→Prop}(h:Pk c Q)(k:∀t,Q t→Q' t): Pk c Q':=by obtain⟨v,e,q⟩:=h;exact⟨v,e,k v q⟩
section
variable {σ:TL} {Q:T→Prop} {L:List T→Prop} {B:Bool→Prop} {R:T→Prop} {N:TL→Prop}
theorem ZvQ{k:Int}(h:Q (.int k)): Pk (Zg k σ) Q:=⟨_,rfl,h⟩
theorem ZvR(h:Q .none): Pk (ZN σ) Q:=⟨_,rfl,h⟩
theorem Zuz{k:Bool}(h:Q (.bool k)): Pk (ZaX k σ) Q:=⟨_,rfl,h⟩
theorem ZvS{i:Nat}{t:T}(e:σ i=some t)(h:Q t): Pk (Za i σ) Q:=⟨_,e,h⟩
theorem ZvT{q:T→T→Option T}{f g:PE}(h:Pk (f σ) fun x=>Pk (g σ) fun y=>Pk (q x y) Q): Pk (Zc q f g σ) Q:=by
 obtain⟨x,a,y,b,z,c,k⟩:=h
 exact⟨z,by simp only[Zc,a,b,Option.bind_some,c],k⟩
theorem ZwE{q:T→Option T}{f:PE}(h:Pk (f σ) fun x=>Pk (q x) Q): Pk (pUn q f σ) Q:=by
 obtain⟨x,a,z,c,k⟩:=h
 exact⟨z,by simp only[pUn,a,Option.bind_some,c],k⟩
theorem ZuA{q:List T→Option T}{f:PEs}(h:Pl (f σ) fun x=>Pk (q x) Q): Pk (Zs q f σ) Q:=by
 obtain⟨x,a,z,c,k⟩:=h
 exact⟨z,by simp only[Zs,a,Option.bind_some,c],k⟩
theorem ZvU(h:L []): Pl (Zk σ) L:=⟨_,rfl,h⟩
theorem ZuB{f:PE}{g:PEs}(h:Pk (f σ) fun x=>Pl (g σ) fun xs=>L (x::xs)): Pl (Ze f g σ) L:=by
 obtain⟨x,a,y,b,k⟩:=h
 exact⟨_,by simp only[Ze,a,b,Option.bind_some],k⟩
theorem ZvV{g:PEs}(h:Pl (g σ) fun xs=>Q (.tup xs)): Pk (ZaD g σ) Q:=by
 obtain⟨x,a,k⟩:=h;exact⟨_,by simp only[ZaD,a,Option.map_some],k⟩
theorem ZuC{g:PEs}(h:Pl (g σ) fun xs=>Q (.lst xs)): Pk (ZaQ g σ) Q:=by
 obtain⟨x,a,k⟩:=h;exact⟨_,by simp only[ZaQ,a,Option.map_some],k⟩
theorem ZuD{f:PE}(h:Pk (f σ) fun t=>t.flat=true∧Q t): Pk (Zb1 f σ) Q:=by
 obtain⟨x,a,b,k⟩:=h;exact⟨_,by simp only[Zb1,a,Option.bind_some,b,if_true],k⟩
theorem ZwF{f:PE}(h:Pk (f σ) fun t=>t.flatIn=true∧Q t): Pk (pFl f σ) Q:=by
 obtain⟨x,a,b,k⟩:=h;exact⟨_,by simp only[pFl,a,Option.bind_some,b,if_true],k⟩
theorem ZwG{b:PB}{f g:PE}(h:Pb (b σ) fun x=>(x=true→Pk (f σ) Q)∧(x=false→Pk (g σ) Q)): Pk (pIf b f g σ) Q:=by
 obtain⟨x,a,h1,h2⟩:=h
 cases x with
 | true=>obtain⟨t,c,q⟩:=h1 rfl;exact⟨t,by simp[pIf,a,c],q⟩
 | false=>obtain⟨t,c,q⟩:=h2 rfl;exact⟨t,by simp[pIf,a,c],q⟩
theorem ZvW{f:PE}(h:Pk (f σ) fun x=>Pb (ZbM x) fun b=>Q (.bool (!b))): Pk (Ziu f σ) Q:=by
 obtain⟨x,a,b,e,q⟩:=h;exact⟨_,by simp only[Ziu,a,Option.bind_some,e,Option.map_some],q⟩
theorem ZvX{f g:PE}(h:Pk (f σ) fun x=>Pb (ZbM x) fun b=>(b=true→Pk (g σ) Q)∧(b=false→Q x)): Pk (Zdt f g σ) Q:=by
 obtain⟨x,a,b,e,h1,h2⟩:=h
 cases b with
 | true=>obtain⟨t,c,q⟩:=h1 rfl;exact⟨t,by simp[Zdt,a,e,c],q⟩
 | false=>exact⟨x,by simp[Zdt,a,e],h2 rfl⟩
theorem ZwH{f g:PE}(h:Pk (f σ) fun x=>Pb (ZbM x) fun b=>(b=true→Q x)∧(b=false→Pk (g σ) Q)): Pk (pOr f g σ) Q:=by
 obtain⟨x,a,b,e,h1,h2⟩:=h
 cases b with
 | false=>obtain⟨t,c,q⟩:=h2 rfl;exact⟨t,by simp[pOr,a,e,c],q⟩
 | true=>exact⟨x,by simp[pOr,a,e],h1 rfl⟩
theorem ZwI{K:String}{f:PE}(h:Pk (f σ) fun x=>Q (.bool (ZhQ K x))): Pk (pIs K f σ) Q:=by
 obtain⟨x,a,q⟩:=h;exact⟨_,by simp only[pIs,a,Option.map_some],q⟩
theorem ZvY{f:PE}(h:Pk (f σ) fun x=>Pb (ZbM x) B): Pb (Zx f σ) B:=by
 obtain⟨x,a,b,e,q⟩:=h;exact⟨_,by simp only[Zx,a,Option.bind_some,e],q⟩
theorem ZuE{f:PB}(h:Pb (f σ) fun b=>B (!b)): Pb (Zbp f σ) B:=by
 obtain⟨x,a,q⟩:=h;exact⟨_,by simp only[Zbp,a,Option.map_some],q⟩
theorem ZuF(h:B true): Pb (Z4 σ) B:=⟨_,rfl,h⟩
theorem ZtC(h:B false): Pb (Zb0 σ) B:=⟨_,rfl,h⟩
theorem ZuG{f g:PB}(h:Pb (f σ) fun b=>(b=true→Pb (g σ) B)∧(b=false→B false)): Pb (ZaB f g σ) B:=by
 obtain⟨x,a,h1,h2⟩:=h
 cases x with
 | true=>obtain⟨t,c,q⟩:=h1 rfl;exact⟨t,by simp[ZaB,a,c],q⟩
 | false=>exact⟨_,by simp[ZaB,a],h2 rfl⟩
theorem ZvZ{f g:PB}(h:Pb (f σ) fun b=>(b=true→B true)∧(b=false→Pb (g σ) B)): Pb (bOr f g σ) B:=by
 obtain⟨x,a,h1,h2⟩:=h
 cases x with
 | false=>obtain⟨t,c,q⟩:=h2 rfl;exact⟨t,by simp[bOr,a,c],q⟩
 | true=>exact⟨_,by simp[bOr,a],h1 rfl⟩
theorem Zr2{b:Bool}(h:B b): Pb (ZbM (.bool b)) B:=⟨_,rfl,h⟩
theorem ZuH(h:N σ): Psk (ZR σ) R N:=⟨_,_,rfl,by simp,fun _=>h⟩
theorem Zv0{f:PE}(h:Pk (f σ) R): Psk (Zw f σ) R N:=by
 obtain⟨x,a,q⟩:=h;exact⟨some x,σ,by simp only[Zw,a,Option.map_some],fun t e=>by cases e;exact q,by simp⟩
theorem Zmx{i:Nat}{f:PE}(h:Pk (f σ) fun t=>N (ZY σ i t)): Psk (ZF i f σ) R N:=by
 obtain⟨x,a,q⟩:=h;exact⟨none,ZY σ i x,by simp only[ZF,a,Option.map_some],by simp,fun _=>q⟩
theorem Zgk{a b:PS}(h:Psk (a σ) R fun σ1=>Psk (b σ1) R N): Psk (Zp a b σ) R N:=by
 obtain⟨o,σ1,e,h1,h2⟩:=h
 cases o with
 | some t=>exact⟨some t,σ1,by simp only[Zp,e,Option.bind_some],h1,by simp⟩
 | none=>
  obtain⟨o2,σ2,e2,k1,k2⟩:=h2 rfl
  exact⟨o2,σ2,by simp only[Zp,e,Option.bind_some,e2],k1,k2⟩
theorem Zmy{b:PB}{f g:PS}(h:Pb (b σ) fun x=>(x=true→Psk (f σ) R N)∧(x=false→Psk (g σ) R N)): Psk (ZO b f g σ) R N:=by
 obtain⟨x,a,h1,h2⟩:=h
 cases x with
 | true=>obtain⟨o,s,c,q⟩:=h1 rfl;exact⟨o,s,by simp[ZO,a,c],q⟩
 | false=>obtain⟨o,s,c,q⟩:=h2 rfl;exact⟨o,s,by simp[ZO,a,c],q⟩
theorem Zmz{n:Nat}{q:PS}{ts:List T}(hn:ts.length=n)(h:Psk (q fun i=>ts[i]?) Q fun _=>Q .none): Pk (Z0 n q ts) Q:=by
 obtain⟨o,s,e,h1,h2⟩:=h
 cases o with
 | some t=>exact⟨t,by simp only[Z0,hn,if_true,e,Option.map_some,Option.getD_some],h1 t rfl⟩
 | none=>exact⟨.none,by simp only[Z0,hn,if_true,e,Option.map_some,Option.getD_none],h2 rfl⟩
theorem Zv1{b:Bool}{A C:Prop}(h:b=true)(k:A): (b=true→A)∧(b=false→C):=⟨fun _=>k,fun e=>(by rw[h]at e;cases e)⟩
theorem Zv2{b:Bool}{A C:Prop}(h:b=false)(k:C): (b=true→A)∧(b=false→C):=⟨fun e=>(by rw[h]at e;cases e),fun _=>k⟩
theorem ZmA{a b:Int}(h:Q (.int (a+b))): Pk (ZV (.int a) (.int b)) Q:=⟨_,rfl,h⟩
theorem Zv3{a b:Int}(h:Q (.int (a-b))): Pk (ZaM (.int a) (.int b)) Q:=⟨_,rfl,h⟩
theorem Zv4{a:Int}(h:Q (.int (-a))): Pk (Zc1 (.int a)) Q:=⟨_,rfl,h⟩
theorem ZwJ{a b:Int}(h:Q (.bool (decide (a<b)))): Pk (qLt (.int a) (.int b)) Q:=⟨_,rfl,h⟩
theorem ZwK{a b:Int}(h:Q (.bool (decide (a≤b)))): Pk (qLe (.int a) (.int b)) Q:=⟨_,rfl,h⟩
theorem ZwL{a b:Int}(h:Q (.bool (decide (b<a)))): Pk (qGt (.int a) (.int b)) Q:=⟨_,rfl,h⟩
theorem Zv5{a b:Int}(hb:b≠0)(h:Q (.int (a.fmod b))): Pk (Za0 (.int a) (.int b)) Q:=⟨_,by simp only[Za0];rw[if_pos hb],h⟩
theorem ZdF{a b:Int}(hb:b≠0)(hd:Builtin.divisionGoesByPylong a b=false)(h:Q (.int (a.fdiv b))): Pk (ZcH (.int a) (.int b)) Q:=⟨_,by simp only[ZcH];rw[if_pos ⟨hb,hd⟩],h⟩
theorem Zbt{a b:Int}(hm:mulOk a b=true)(h:Q (.int (a*b))): Pk (ZaC (.int a) (.int b)) Q:=⟨_,by simp only[ZaC];rw[if_pos hm],h⟩
theorem Zv6{a:Int}(h:Q (.int (if a<0 then -a else a))): Pk (Zdu [.int a]) Q:=⟨_,rfl,h⟩
theorem ZhU(a b:Int): Zd7 (.int a) (.int b)=some (decide (a=b)):=by
 simp[Zd7,ZcI,SeqAt.shaped,PyData.canLay0,PyData.depth,PyData.eqv]
 by_cases h:a=b <;> simp[h]
theorem ZwM{a b:Int}(h:Q (.bool (decide (a=b)))): Pk (qEq (.int a) (.int b)) Q:=⟨_,by simp only[qEq,ZhU,Option.map_some],h⟩
theorem ZwN{a b:Int}(h:Q (.bool (decide (a≠b)))): Pk (qNe (.int a) (.int b)) Q:=⟨.bool (decide (a≠b)),by simp only[qNe,ZhU,Option.map_some];simp,h⟩
theorem Zv7(h:Q (.bool true)): Pk (qIs .none .none) Q:=⟨_,rfl,h⟩
theorem Zv8{a:Int}(h:Q (.bool false)): Pk (qIs (.int a) .none) Q:=⟨_,rfl,h⟩
theorem Zv9{a:List T}(h:Q (.bool false)): Pk (qIs (.lst a) .none) Q:=⟨_,rfl,h⟩
theorem Zwa{a:List T}(h:Q (.bool false)): Pk (qIs (.tup a) .none) Q:=⟨_,rfl,h⟩
theorem ZuI(h:Q (.bool false)): Pk (Zb5 .none .none) Q:=⟨_,rfl,h⟩
theorem ZuJ{a:Int}(h:Q (.bool true)): Pk (Zb5 (.int a) .none) Q:=⟨_,rfl,h⟩
theorem ZuK{a:List T}(h:Q (.bool true)): Pk (Zb5 (.tup a) .none) Q:=⟨_,rfl,h⟩
theorem ZuL{n:Nat}{f:Nat→T}(h:Q (.int n)): Pk (Zat [.lst (tab n f)]) Q:=⟨_,by simp only[Zat,Zan],h⟩
theorem Zwb{ts:List T}(h:Q (.int ts.length)): Pk (Zat [.lst ts]) Q:=⟨_,rfl,h⟩
theorem ZuM{ts:List T}(h:Q (.int ts.length)): Pk (Zat [.tup ts]) Q:=⟨_,rfl,h⟩
theorem Zgz{k:Int}{n:Nat}(h0:0≤k)(h1:k<n): seqIndex? k n=some k.toNat:=by
 unfold seqIndex?
 have:¬k<0:=by omega
 simp[this]
 omega
theorem ZuN{n i:Nat}{f:Nat→T}(hi:i<n)(h:Q (f i)): Pk (Zl (.lst (tab n f)) (.int (i:Nat))) Q:=⟨_,by
 simp only[Zl,Zan,Zgz (show(0:Int)≤(i:Int)by omega) (show(i:Int)<(n:Int)by omega),Option.bind_some,Int.toNat_natCast]
 exact ZaP hi,h⟩
theorem ZuO{n:Nat}{k:Int}{f:Nat→T}(h0:0≤k)(h1:k<n)(h:Q (f k.toNat)): Pk (Zl (.lst (tab n f)) (.int k)) Q:=⟨_,by
 simp only[Zl,Zan,Zgz h0 h1,Option.bind_some]
 exact ZaP (by omega),h⟩
theorem ZhV{ts:List T}{k:Int}{t:T}(h0:0≤k)(e:ts[k.toNat]?=some t)(h:Q t): Pk (Zl (.lst ts) (.int k)) Q:=⟨_,by
 simp only[Zl]
 rw[Zgz h0 (by have:=(Zz6.mp e).1;omega)]
 exact e,h⟩
theorem ZuP{ts:List T}{k:Int}{t:T}(h0:0≤k)(e:ts[k.toNat]?=some t)(h:Q t): Pk (Zl (.tup ts) (.int k)) Q:=⟨_,by
 simp only[Zl]
 rw[Zgz h0 (by have:=(Zz6.mp e).1;omega)]
 exact e,h⟩
theorem Zpa{n:Nat}{a:T}{f:Nat→T}(hn:n<10000)(h:Q (.lst (tab (n+1) (cn a f)))): Pk (ZV (.lst [a]) (.lst (tab n f))) Q:=⟨_,by
 simp only[ZV]
 rw[if_pos (by rw[Za5,List.length_append,Zan];simp;omega),List.singleton_append,ZtB],h⟩
theorem ZlK{n m:Nat}{f g:Nat→T}(hn:n+m<10000)(h:Q (.lst (tab (n+m) fun i=>if i<n then f i else g (i-n)))): Pk (ZV (.lst (tab n f)) (.lst (tab m g))) Q:=⟨_,by
 simp only[ZV]
 rw[if_pos (by rw[Za5,List.length_append,Zan,Zan];omega),Zuy],h⟩
theorem ZtD{ts:List T}(h:Q (.lst ts)): Pk (Zcx [.lst ts]) Q:=⟨_,rfl,h⟩
theorem ZuQ{ts:List T}(h:Q (.tup ts)): Pk (ZhS [.lst ts]) Q:=⟨_,rfl,h⟩
theorem ZsR{n:Nat}{f:Nat→Bool}: Ze2 (tab n fun i=>.bool (f i))=some (tab n f):=by
 have:∀l:List Bool,Ze2 (l.map T.bool)=some l:=fun l=>by
  induction l with
  | nil=>rfl
  | cons a l ih=>simp only[List.map_cons,Ze2,ih,Option.map_some]
 rw[show(tab n fun i=>T.bool (f i))=(tab n f).map T.bool from tab_map.symm]
 exact this _
theorem ZtE{n:Nat}{f:Nat→Int}: Zdf (tab n fun i=>.int (f i))=some (tab n f):=by
 have:∀l:List Int,Zdf (l.map T.int)=some l:=fun l=>by
  induction l with
  | nil=>rfl
  | cons a l ih=>simp only[List.map_cons,Zdf,ih,Option.map_some]
 rw[show(tab n fun i=>T.int (f i))=(tab n f).map T.int from tab_map.symm]
 exact this _
theorem Zwc{n:Nat}{P:Nat→Prop}(h:Q (.bool (dec (∃i,i<n∧P i)))): Pk (ZgI [.lst (tab n fun i=>.bool (dec (P i)))]) Q:=⟨_,by
 simp only[ZgI,ZsR,Option.map_some]
 congr 2
 symm
 apply Zmw
 rw[List.any_eq_true]
 constructor
 ·rintro⟨x,hx,h⟩
  obtain⟨i,hi,e⟩:=List.getElem_of_mem hx
  rw[Zan]at hi
  have:=ZaP (f:=fun i=>dec (P i)) hi
  rw[List.getElem?_eq_getElem (by rw[Zan];exact hi)]at this
  rw[←e,Option.some.inj this]at h
  exact⟨i,hi,dec_iff.mp h⟩
 ·rintro⟨i,hi,h⟩
  exact⟨_,List.mem_of_getElem? (ZaP hi),ZaR h⟩,h⟩
noncomputable def SqP(x:T)(L:List T→Prop): Prop:=∃ts,(x=.lst ts∨x=.tup ts)∧L ts
theorem ZhW{f:PE}(h:Pk (f σ) fun t=>SqP t L): Pl (Zaz f σ) L:=by
 obtain⟨t,a,ts,rfl | rfl,q⟩:=h <;> exact⟨_,by simp only[Zaz,a,Option.bind_some],q⟩
theorem Sq.lst{ts:List T}(h:L ts): SqP (.lst ts) L:=⟨ts,.inl rfl,h⟩
theorem ZpP{a b c:Int}{H:Hp}{z:Nx×Nat×Hp}(h:Zcm a b c H=some z): Zcj a b c=some ((List.range (rngN a b c)).map fun(i:Nat)=>.int (a+(i:Int)*c)):=by
 unfold Zcm at h
 split at h
 ·rename_i hc
  unfold Zcj
  rw[if_pos hc]
 ·cases h
theorem ZtF{n:Nat}(hn:n≤1000): Zcj 0 n 1=some (tab n fun i=>.int i):=by
 rw[ZpP (ZvK (H:=[]) (b:=n) (by omega) (by omega))]
 have e:rngN 0 n 1=n:=by
  unfold rngN Builtin.Range.rangeSize
  by_cases q:(0:Int)<n
  ·rw[if_pos (by decide),if_pos (by omega)];omega
  ·rw[if_pos (by decide),if_neg (by omega)];omega
 rw[e]
 simp[tab]
theorem Zl8{a n:Nat}(ha:0<n)(hn:a+n≤1000): Zcj a (a+n) 1=some (tab n fun i=>.int (a+i)):=by
 rw[ZpP (ZvM (H:=[]) (a:=a) (b:=a+n) (c:=1) (by omega) (by omega) (by omega) (by omega) (by omega))]
 have e:rngN a (a+n) 1=n:=by
  unfold rngN
  rw[Zqa (by omega) (by omega)]
  omega
 rw[e]
 simp[tab]
theorem ZuR{g:PEs}{b:Int}{o:Option (List T)}(e:g σ=some [.int b])(h:Zcj 0 b 1=o): Zav g σ=o:=by
 subst h;unfold Zav;rw[e];rfl
theorem ZeW{g:PEs}{a b:Int}{o:Option (List T)}(e:g σ=some [.int a,.int b])(h:Zcj a b 1=o): Zav g σ=o:=by
 subst h;unfold Zav;rw[e];rfl
noncomputable def RnP(xs:List T)(L:List T→Prop): Prop:=(∃n:Nat,xs=[.int n]∧n≤1000∧L (tab n fun i=>.int i))∨∃(a:Nat) (n:Nat),xs=[.int a,.int (a+n)]∧0<n∧a+n≤1000∧L (tab n fun i=>.int (a+i))
theorem ZtG{g:PEs}(h:Pl (g σ) fun xs=>RnP xs L): Pl (Zav g σ) L:=by
 obtain⟨xs,e,h⟩:=h
 rcases h with⟨n,h0,h1,q⟩ | ⟨a,n,h0,h1,h2,q⟩
 ·subst h0;exact⟨_,ZuR e (ZtF h1),q⟩
 ·subst h0;exact⟨_,ZeW e (Zl8 h1 h2),q⟩
theorem Rn.one{n:Nat}(hn:n≤1000)(h:L (tab n fun i=>.int i)): RnP [.int n] L:=.inl ⟨n,rfl,hn,h⟩
theorem ZmT{k:Int}(n:Nat)(e:k=n)(hn:n≤1000)(h:L (tab n fun i=>.int i)): RnP [.int k] L:=.inl ⟨n,by rw[e],hn,h⟩
theorem Rn.two{k l:Int}(a n:Nat)(e0:l=a)(e:k=a+n)(ha:0<n)(hn:a+n≤1000)(h:L (tab n fun i=>.int (a+i))): RnP [.int l,.int k] L:=.inr ⟨a,n,by rw[e,e0],ha,hn,h⟩
noncomputable def ZiP(x y:T)(L:List T→Prop): Prop:=∃xs ys,x=.lst xs∧y=.lst ys∧L (List.zipWith (fun a b=>.tup [a,b]) xs ys)
theorem ZmB{f g:PE}(h:Pk (f σ) fun x=>Pk (g σ) fun y=>ZiP x y L): Pl (Zc2 f g σ) L:=by
 obtain⟨x,a,y,b,xs,ys,rfl,rfl,q⟩:=h;exact⟨_,by simp only[Zc2,a,b,Option.bind_some],q⟩
theorem Zi.eq{n:Nat}{f g:Nat→T}(h:L (tab n fun i=>.tup [f i,g i])): ZiP (.lst (tab n f)) (.lst (tab n g)) L:=⟨_,_,rfl,rfl,by rw[Zo9,Nat.min_self];exact h⟩
theorem Zn2{j:Nat}{f:PE}{h:T→T}: ∀{ts:List T},(∀t∈ts,f (ZY σ j t)=some (h t))→Zch (ZX j) Z4 f σ ts=some (ts.map h)
 | [],_=>rfl
 | t::ts,k=>by
  simp only[Zch,ZX,Z4,Option.bind_some,if_true,k t Zz5,Zn2 fun t m=>k t (Zz2 _ m),Option.map_some,List.map_cons]
theorem Zl9{put:T→TL→Option TL}{f:PE}: ∀{ts us:List T},us.length=ts.length→(∀(i:Nat) t u,ts[i]?=some t→us[i]?=some u→∃σ1,put t σ=some σ1∧f σ1=some u)→Zch put Z4 f σ ts=some us
 | [],us,hl,_=>by cases us with
  | nil=>rfl
  | cons _ _=>simp at hl
 | t::ts,us,hl,k=>by
  cases us with
  | nil=>simp at hl
  | cons u us=>
   obtain⟨σ1,h1,h2⟩:=k 0 t u (by simp) (by simp)
   have:=Zl9 (ts:=ts) (us:=us) (f:=f) (put:=put) (by simpa using hl) fun i t' u' h3 h4=>k (i+1) t' u' (by simpa using h3) (by simpa using h4)
   simp only[Zch,h1,Z4,Option.bind_some,if_true,h2,this,Option.map_some]
theorem Zbg{g:PG}{j n:Nat}{a b:Nat→T}{f:PE}(hn:n<10000)(hg:Pl (g σ) fun ts=>ts=tab n a)(hf:∀i,i<n→Pk (f (ZY σ j (a i))) fun t=>t=b i)(h:Q (.lst (tab n b))): Pk (Zai g (ZX j) Z4 f σ) Q:=by
 obtain⟨ts,e,rfl⟩:=hg
 refine⟨_,?_,h⟩
 simp only[Zai,e,Option.bind_some,Zan]
 rw[if_pos (by rw[Za5];omega),Zl9 (us:=tab n b) (by rw[Zan,Zan]) fun i t u h1 h2=>?_]
 ·rfl
 ·have hi:i<n:=by have:=(Zz6.mp h1).1;rwa [Zan]at this
  rw[ZaP hi]at h1 h2
  cases h1;cases h2
  exact⟨_,rfl,(hf i hi).eq⟩
theorem ZlL{g:PG}{j k n:Nat}{a b c:Nat→T}{f:PE}(hn:n<10000)(hg:Pl (g σ) fun ts=>ts=tab n fun i=>.tup [a i,b i])(hf:∀i,i<n→Pk (f (ZY (ZY σ j (a i)) k (b i))) fun t=>t=c i)(h:Q (.lst (tab n c))): Pk (Zai g (Zcg j k) Z4 f σ) Q:=by
 obtain⟨ts,e,rfl⟩:=hg
 refine⟨_,?_,h⟩
 simp only[Zai,e,Option.bind_some,Zan]
 rw[if_pos (by rw[Za5];omega),Zl9 (us:=tab n c) (by rw[Zan,Zan]) fun i t u h1 h2=>?_]
 ·rfl
 ·have hi:i<n:=by have:=(Zz6.mp h1).1;rwa [Zan]at this
  rw[ZaP hi]at h1 h2
  cases h1;cases h2
  exact⟨_,rfl,(hf i hi).eq⟩
theorem Zh9{put:T→TL→Option TL}{b:PS}: ∀{ts:List T} (P:Nat→TL→Prop) {σ:TL},P 0 σ→(∀(i:Nat) t σ,ts[i]?=some t→P i σ→∃σ1,put t σ=some σ1∧Psk (b σ1) R (P (i+1)))→(∀σ,P ts.length σ→N σ)→Psk (Zew put b σ ts) R N
 | [],P,σ,h0,_,h2=>⟨_,_,rfl,by simp,fun _=>h2 _ h0⟩
 | t::ts,P,σ,h0,h1,h2=>by
  obtain⟨σ1,e1,o,σ2,e2,k1,k2⟩:=h1 0 t σ (by simp) h0
  cases o with
  | some v=>exact⟨some v,σ2,by simp only[Zew,e1,Option.bind_some,e2],k1,by simp⟩
  | none=>
   obtain⟨o3,σ3,e3,l1,l2⟩:=Zh9 (ts:=ts) (fun i=>P (i+1)) (k2 rfl) (fun i t' σ' h3 h4=>h1 (i+1) t' σ' (by simpa using h3) h4) (fun σ' h=>h2 σ' (by simpa using h))
   exact⟨o3,σ3,by simp only[Zew,e1,Option.bind_some,e2,e3],l1,l2⟩
theorem Za6{g:PG}{j n:Nat}{a:Nat→T}{b:PS}(hg:Pl (g σ) fun ts=>ts=tab n a)(P:Nat→TL→Prop)(h0:P 0 σ)(h1:∀i σ,i<n→P i σ→Psk (b (ZY σ j (a i))) R (P (i+1)))(h2:∀σ,P n σ→N σ): Psk (ZaA g (ZX j) b σ) R N:=by
 obtain⟨ts,e,rfl⟩:=hg
 have:=Zh9 (R:=R) (N:=N) (put:=ZX j) (b:=b) (ts:=tab n a) P h0 (fun i t σ' h3 h4=>by
  have hi:i<n:=by have:=(Zz6.mp h3).1;rwa [Zan]at this
  rw[ZaP hi]at h3
  cases h3
  exact⟨_,rfl,h1 i σ' hi h4⟩) (by rw[Zan];exact h2)
 obtain⟨o,s,e2,q⟩:=this
 exact⟨o,s,by simp only[ZaA,e,Option.bind_some,e2],q⟩
theorem Zej{g:PG}{j k n:Nat}{a c:Nat→T}{b:PS}(hg:Pl (g σ) fun ts=>ts=tab n fun i=>.tup [a i,c i])(P:Nat→TL→Prop)(h0:P 0 σ)(h1:∀i σ,i<n→P i σ→Psk (b (ZY (ZY σ j (a i)) k (c i))) R (P (i+1)))(h2:∀σ,P n σ→N σ): Psk (ZaA g (Zcg j k) b σ) R N:=by
 obtain⟨ts,e,rfl⟩:=hg
 have:=Zh9 (R:=R) (N:=N) (put:=Zcg j k) (b:=b) (ts:=tab n fun i=>.tup [a i,c i]) P h0 (fun i t σ' h3 h4=>by
  have hi:i<n:=by have:=(Zz6.mp h3).1;rwa [Zan]at this
  rw[ZaP hi]at h3
  cases h3
  exact⟨_,rfl,h1 i σ' hi h4⟩) (by rw[Zan];exact h2)
 obtain⟨o,s,e2,q⟩:=this
 exact⟨o,s,by simp only[ZaA,e,Option.bind_some,e2],q⟩
theorem ZuS{g:PG}{j:Nat}{ts:List T}{b:PS}(hg:Pl (g σ) fun us=>us=ts)(P:Nat→TL→Prop)(h0:P 0 σ)(h1:∀(i:Nat) t σ,ts[i]?=some t→P i σ→Psk (b (ZY σ j t)) R (P (i+1)))(h2:∀σ,P ts.length σ→N σ): Psk (ZaA g (ZX j) b σ) R N:=by
 obtain⟨us,e,rfl⟩:=hg
 obtain⟨o,s,e2,q⟩:=Zh9 (R:=R) (N:=N) (put:=ZX j) (b:=b) (ts:=us) P h0 (fun i t σ' h3 h4=>⟨_,rfl,h1 i t σ' h3 h4⟩) h2
 exact⟨o,s,by simp only[ZaA,e,Option.bind_some,e2],q⟩
theorem ZeO{t:PB}{b:PS}(P:Nat→TL→Prop)(R:T→Prop)(N:TL→Prop)(h:∀m σ,P m σ→Pb (t σ) fun x=>(x=true→Psk (b σ) R fun σ1=>∃m',m'<m∧P m' σ1)∧(x=false→N σ)): ∀(n:Nat) {m:Nat} {σ:TL},P m σ→m<n→Psk (Zdb t b n σ) R N
 | 0,_,_,_,hm=>by omega
 | n+1,m,σ,hp,hm=>by
  obtain⟨x,e,h1,h2⟩:=h m σ hp
  cases x with
  | false=>exact⟨none,σ,by simp[Zdb,e],by simp,fun _=>h2 rfl⟩
  | true=>
   obtain⟨o,σ1,e1,k1,k2⟩:=h1 rfl
   cases o with
   | some v=>exact⟨some v,σ1,by simp[Zdb,e,e1],k1,by simp⟩
   | none=>
    obtain⟨m',hm',hp'⟩:=k2 rfl
    obtain⟨o2,σ2,e2,l1,l2⟩:=ZeO P R N h n hp' (by omega)
    exact⟨o2,σ2,by simp[Zdb,e,e1,e2],l1,l2⟩
theorem Zla: Zcy σ []=σ:=by funext i;simp[Zcy]
noncomputable def AppP(σ:TL)(x:Nat)(w:T)(N:TL→Prop): Prop:=∃ts,σ x=some (.lst ts)∧ts.length<10000∧N (ZY σ x (.lst (ts++[w])))
theorem ZuT{x:Nat}{w:T}{ts:List T}(e:σ x=some (.lst ts))(hl:ts.length<10000)(h:N (ZY σ x (.lst (ts++[w])))): AppP σ x w N:=⟨ts,e,hl,h⟩
theorem Zwd{x:Nat}{f:PE}(h:Pk (f σ) fun w=>AppP σ x w N): Psk (Zdv x [] Za1 f σ) R N:=by
 obtain⟨w,e,ts,h1,h2,q⟩:=h
 refine⟨none,_,?_,by simp,fun _=>q⟩
 simp only[Zdv,Za1,Option.bind_some,e,h1,ZdK,Ziy]
 rw[if_pos (by rw[Za5];omega)]
 simp only[Option.map_some,Zla]
noncomputable def AppQ(σ:TL)(x y:Nat)(w:T)(N:TL→Prop): Prop:=∃ts,σ x=some (.lst ts)∧ts.length<10000∧N (Zcy (ZY σ x (.lst (ts++[w]))) [y])
theorem ZuU{x y:Nat}{w:T}{ts:List T}(e:σ x=some (.lst ts))(hl:ts.length<10000)(h:N (Zcy (ZY σ x (.lst (ts++[w]))) [y])): AppQ σ x y w N:=⟨ts,e,hl,h⟩
theorem ZuV{x y:Nat}{f:PE}(h:Pk (f σ) fun w=>AppQ σ x y w N): Psk (Zdv x [y] Za1 f σ) R N:=by
 obtain⟨w,e,ts,h1,h2,q⟩:=h
 refine⟨none,_,?_,by simp,fun _=>q⟩
 simp only[Zdv,Za1,Option.bind_some,e,h1,ZdK,Ziy]
 rw[if_pos (by rw[Za5];omega)]
 simp only[Option.map_some]
noncomputable def PutP(σ:TL)(x:Nat)(w k:T)(N:TL→Prop): Prop:=∃ts m,k=.int m∧σ x=some (.lst ts)∧0≤m∧m<ts.length∧N (ZY σ x (.lst (ts.set m.toNat w)))
theorem ZtH{x n i:Nat}{w:T}{f:Nat→T}(e:σ x=some (.lst (TM.tab n f)))(hi:i<n)(h:N (ZY σ x (.lst (TM.tab n fun k=>if k=i then w else f k)))): PutP σ x w (.int i) N:=⟨_,_,rfl,e,by omega,by rw[Zan];omega,by rw[Int.toNat_natCast,ZeV];exact h⟩
theorem Zn3{x n:Nat}{k:Int}{w:T}{f:Nat→T}(e:σ x=some (.lst (TM.tab n f)))(h0:0≤k)(hi:k<n)(h:N (ZY σ x (.lst (TM.tab n fun i=>if i=k.toNat then w else f i)))): PutP σ x w (.int k) N:=⟨_,_,rfl,e,h0,by rw[Zan];omega,by rw[ZeV];exact h⟩
theorem Zwe{x:Nat}{f i:PE}(h:Pk (f σ) fun w=>Pk (i σ) fun k=>PutP σ x w k N): Psk (ZbR x [] f Za1 i σ) R N:=by
 obtain⟨w,e,k,e2,ts,m,rfl,h1,h2,h3,q⟩:=h
 refine⟨none,_,?_,by simp,fun _=>q⟩
 simp only[ZbR,Za1,Option.bind_some,e,e2,h1,ZdK,Ziz]
 rw[if_pos ⟨h2,h3⟩]
 simp only[Option.map_some,Zla]
noncomputable def Put2(σ:TL)(x:Nat)(w a k:T)(N:TL→Prop): Prop:=∃ts us l m,a=.int l∧k=.int m∧σ x=some (.lst ts)∧0≤l∧ts[l.toNat]?=some (.lst us)∧0≤m∧m<us.length∧N (ZY σ x (.lst (ts.set l.toNat (.lst (us.set m.toNat w)))))
theorem ZtI{x n m i j:Nat}{w:T}{f:Nat→Nat→T}(e:σ x=some (.lst (TM.tab n fun a=>.lst (TM.tab m (f a)))))(hi:i<n)(hj:j<m)(h:N (ZY σ x (.lst (TM.tab n fun a=>.lst (TM.tab m fun b=>if a=i∧b=j then w else f a b))))): Put2 σ x w (.int i) (.int j) N:=by
 refine⟨_,TM.tab m (f i),i,j,rfl,rfl,e,by omega,?_,by omega,by rw[Zan];omega,?_⟩
 ·rw[Int.toNat_natCast,ZaP hi]
 ·rw[Int.toNat_natCast,Int.toNat_natCast,ZeV,ZeV]
  have:(TM.tab n fun a=>if a=i then T.lst (TM.tab m fun b=>if b=j then w else f i b)else T.lst (TM.tab m (f a)))=TM.tab n fun a=>.lst (TM.tab m fun b=>if a=i∧b=j then w else f a b):=Za2 fun a _=>by
   by_cases q:a=i
   ·subst q;simp
   ·simp[q]
  rw[this];exact h
theorem ZuW{x:Nat}{f i j:PE}(h:Pk (f σ) fun w=>Pk (i σ) fun a=>Pk (j σ) fun k=>Put2 σ x w a k N): Psk (ZbR x [] f (Zem Za1 i) j σ) R N:=by
 obtain⟨w,e,a,e1,k,e2,ts,us,l,m,rfl,rfl,h1,h0,h4,h2,h3,q⟩:=h
 refine⟨none,_,?_,by simp,fun _=>q⟩
 have hl:=(Zz6.mp h4).1
 simp only[ZbR,Za1,Zem,Option.bind_some,e,e1,e2,h1,List.nil_append,ZdK,Ziz,Zgz h0 (show l<ts.length by omega),h4]
 rw[if_pos ⟨h2,h3⟩]
 simp only[Option.map_some,Zla]
theorem ZuX{i j:Nat}{t:T}{o:Option T}(h:j≠i)(e:σ j=o): ZY σ i t j=o:=by simp[ZY,h,e]
theorem ZtJ{j:Nat}{J:List Nat}{o:Option T}(h:j∉J)(e:σ j=o): Zcy σ J j=o:=by simp[Zcy,h,e]
end
end TM
end
section
set_option autoImplicit false
namespace TM
open PySem PM
inductive Pln: Nat→T→Prop where
 | none {n:Nat}:Pln n .none
 | int {n:Nat} {i:Int}:Pln n (.int i)
 | str {n:Nat} {x:Str}:PyData.strOk x=true→Pln n (.str x)
 | tup {n:Nat} {ts:List T}:(∀t∈ts,Pln n t)→Pln (n+1) (.tup ts)
 | lst {n:Nat} {ts:List T}:(∀t∈ts,Pln n t)→Pln (n+1) (.lst ts)
mutual
noncomputable def dd: T→PyData
 | .none=>.none
 | .bool b=>.bool b
 | .int i=>.int i
 | .str x=>.str x
 | .tup ts=>.tuple (dds ts)
 | .lst ts=>.list (dds ts)
noncomputable def dds: List T→List PyData
 | []=>[]
 | t::ts=>dd t::dds ts
end
theorem ZlM{f:T→Option PyData}: ∀{ts:List T},(∀t∈ts,f t=some (dd t))→Zer f ts=some (dds ts)
 | [],_=>rfl
 | t::ts,h=>by simp only[Zer,h t Zz5,ZlM fun t m=>h t (Zz2 _ m),Option.bind_some,dds]
theorem Zma: ∀{ts:List T},(∀t∈ts,PyData.canLay0 (dd t)=true)→PyData.canLayAll0 (dds ts)=true
 | [],_=>rfl
 | t::ts,h=>by simp only[dds,PyData.canLayAll0,h t Zz5,Zma fun t m=>h t (Zz2 _ m),Bool.and_self]
theorem Zmb{n:Nat}: ∀{ts:List T},(∀t∈ts,PyData.depth (dd t)≤n)→PyData.depthAll (dds ts)≤n
 | [],_=>by simp[dds,PyData.depthAll]
 | t::ts,h=>by
  have h1:=h t Zz5
  have h2:=Zmb fun t m=>h t (Zz2 _ m)
  simp only[dds,PyData.depthAll]
  omega
theorem Pln.dat{n:Nat}{t:T}(h:Pln n t): ZcI n t=some (dd t)∧PyData.canLay0 (dd t)=true∧PyData.depth (dd t)≤n:=by
 induction h with
 | @none n=>cases n <;> exact⟨rfl,rfl,by simp[dd,PyData.depth]⟩
 | @int n i=>cases n <;> exact⟨rfl,rfl,by simp[dd,PyData.depth]⟩
 | @str n x h=>cases n <;> exact⟨rfl,by simpa [dd,PyData.canLay0]using h,by simp[dd,PyData.depth]⟩
 | @tup n ts _ ih=>
  refine⟨?_,?_,?_⟩
  ·simp only[ZcI,ZlM fun t m=>(ih t m).1,Option.map_some,dd]
  ·simp only[dd,PyData.canLay0];exact Zma fun t m=>(ih t m).2.1
  ·simp only[dd,PyData.depth]
   have:=Zmb fun t m=>(ih t m).2.2
   omega
 | @lst n ts _ ih=>
  refine⟨?_,?_,?_⟩
  ·simp only[ZcI,ZlM fun t m=>(ih t m).1,Option.map_some,dd]
  ·simp only[dd,PyData.canLay0];exact Zma fun t m=>(ih t m).2.1
  ·simp only[dd,PyData.depth]
   have:=Zmb fun t m=>(ih t m).2.2
   omega
theorem Zmc: ∀{ts us:List T},(∀t∈ts,∀u∈us,(PyData.eqv (dd t) (dd u)=true↔t=u))→(PyData.eqvAll (dds ts) (dds us)=true↔ts=us)
 | [],[],_=>by simp[dds,PyData.eqvAll]
 | [],_::_,_=>by simp[dds,PyData.eqvAll]
 | _::_,[],_=>by simp[dds,PyData.eqvAll]
 | t::ts,u::us,h=>by
  simp only[dds,PyData.eqvAll,Bool.and_eq_true,h t Zz5 u Zz5,Zmc fun t m u n=>h t (Zz2 _ m) u (Zz2 _ n),List.cons.injEq]
theorem Pln.eqv{n:Nat}{t:T}(h:Pln n t): ∀{m:Nat} {u:T},Pln m u→(PyData.eqv (dd t) (dd u)=true↔t=u):=by
 induction h with
 | none=>intro m u h;cases h <;> simp[dd,PyData.eqv]
 | int=>intro m u h;cases h <;> simp[dd,PyData.eqv]
 | str _=>intro m u h;cases h <;> simp[dd,PyData.eqv]
 | tup hs ih=>
  intro m u h
  cases h with
  | tup hu=>simp only[dd,PyData.eqv,T.tup.injEq];exact Zmc fun t a u b=>ih t a (hu u b)
  | none=>simp[dd,PyData.eqv]
  | int=>simp[dd,PyData.eqv]
  | str=>simp[dd,PyData.eqv]
  | lst=>simp[dd,PyData.eqv]
 | lst hs ih=>
  intro m u h
  cases h with
  | lst hu=>simp only[dd,PyData.eqv,T.lst.injEq];exact Zmc fun t a u b=>ih t a (hu u b)
  | none=>simp[dd,PyData.eqv]
  | int=>simp[dd,PyData.eqv]
  | str=>simp[dd,PyData.eqv]
  | tup=>simp[dd,PyData.eqv]
theorem Pln.mono{n:Nat}{t:T}(h:Pln n t): ∀{m:Nat},n≤m→Pln m t:=by
 induction h with
 | none=>intro m _;exact .none
 | int=>intro m _;exact .int
 | str h=>intro m _;exact .str h
 | tup hs ih=>
  intro m hm
  cases m with
  | zero=>omega
  | succ m=>exact .tup fun t a=>ih t a (by omega)
 | lst hs ih=>
  intro m hm
  cases m with
  | zero=>omega
  | succ m=>exact .lst fun t a=>ih t a (by omega)
theorem Zpb{n m:Nat}{a b:T}(ha:Pln n a)(hb:Pln m b)(hn:n≤8:=by decide)(hm:m≤8:=by decide): Zd7 a b=some (dec (a=b)):=by
 have ha:=ha.mono hn
 have hb:=hb.mono hm
 obtain⟨a1,a2,a3⟩:=ha.dat
 obtain⟨b1,b2,b3⟩:=hb.dat
 unfold Zd7 ZbP
 rw[a1,b1]
 simp only[Option.bind_some]
 rw[if_pos ⟨by simp only[SeqAt.shaped,a2,Bool.true_and,decide_eq_true_eq];omega,by simp only[SeqAt.shaped,b2,Bool.true_and,decide_eq_true_eq];omega⟩,Zmw (ha.eqv hb)]
section
variable {Q:T→Prop}
theorem Zia{n m:Nat}{a b:T}(ha:Pln n a)(hb:Pln m b)(h:Q (.bool (dec (a=b))))(hn:n≤8:=by decide)(hm:m≤8:=by decide): Pk (qEq a b) Q:=⟨_,by simp only[qEq,Zpb ha hb hn hm,Option.map_some],h⟩
theorem ZmC{n m:Nat}{a b:T}(ha:Pln n a)(hb:Pln m b)(h:Q (.bool (!dec (a=b))))(hn:n≤8:=by decide)(hm:m≤8:=by decide): Pk (qNe a b) Q:=⟨_,by simp only[qNe,Zpb ha hb hn hm,Option.map_some],h⟩
end
theorem ZcO{α:Type}{n:Nat}{f:Nat→α}{x:α}(h:x∈tab n f): ∃i,i<n∧x=f i:=by
 obtain⟨i,hi,e⟩:=Zz11.mp h
 exact⟨i,List.mem_range.mp hi,e.symm⟩
theorem Zn4{n:Nat}{f:Nat→T}(h:∀i,i<n→(f i).flat=true): T.flats (tab n f)=true:=by
 have key:∀l:List T,(∀t∈l,t.flat=true)→T.flats l=true:=fun l=>by
  induction l with
  | nil=>intro _;rfl
  | cons t l ih=>intro h;simp only[T.flats,h t Zz5,ih fun t m=>h t (Zz2 _ m),Bool.and_self]
 exact key _ fun t m=>by obtain⟨i,hi,rfl⟩:=ZcO m;exact h i hi
theorem Zhb{n:Nat}{f:Nat→T}(h:∀i,i<n→(f i).flat=true): T.flatIn (.lst (tab n f))=true:=Zn4 h
noncomputable def oT: Option Int→T
 | none=>.none
 | some x=>.int x
noncomputable def ZQ(q:Int×Int): T:=.tup [.int q.1,.int q.2]
noncomputable def ZbG(n:Nat)(x:Nat→Int): T:=.lst (tab n fun i=>.int (x i))
noncomputable def Zaf(n:Nat)(b:Nat→Option Int): T:=.lst (tab n fun j=>oT (b j))
noncomputable def ZZ(n:Nat)(G:Nat→Nat→Option Int): T:=.lst (tab n fun i=>Zaf n (G i))
noncomputable def ZaI(n:Nat)(R:Nat→Int×Int): T:=.lst (tab n fun i=>ZQ (R i))
noncomputable def ZE(n:Nat)(G:Nat→Nat→Option Int)(R:Nat→Int×Int): T:=.tup [ZZ (n+1) G,ZaI n R]
theorem Zbq: oT none=.none:=rfl
theorem ZaE{c:Int}: oT (some c)=.int c:=rfl
theorem ZeX{b:Option Int}: (oT b).flat=true:=by cases b <;> rfl
theorem ZfX{q:Int×Int}: (ZQ q).flat=true:=rfl
theorem oT_inj{a b:Option Int}: oT a=oT b↔a=b:=by cases a <;> cases b <;> simp[oT]
theorem ZuY{a b:Int×Int}: ZQ a=ZQ b↔a=b:=by cases a;cases b;simp[ZQ]
theorem Zen{n k:Nat}{f:Nat→T}(h:∀i,i<k→Pln n (f i)): Pln (n+1) (.lst (tab k f)):=.lst fun t m=>by obtain⟨i,hi,rfl⟩:=ZcO m;exact h i hi
theorem ZgA{n:Nat}{b:Option Int}: Pln n (oT b):=by cases b;exact .none;exact .int
theorem Zib{n:Nat}{q:Int×Int}: Pln (n+1) (ZQ q):=.tup fun t m=>by
 simp at m;rcases m with rfl | rfl <;> exact .int
theorem Zpc{n:Nat}{b:Nat→Option Int}: Pln 1 (Zaf n b):=Zen fun _ _=>ZgA
theorem ZtK{n:Nat}{G:Nat→Nat→Option Int}: Pln 2 (ZZ n G):=Zen fun _ _=>Zpc
theorem ZtL{n:Nat}{R:Nat→Int×Int}: Pln 2 (ZaI n R):=Zen fun _ _=>Zib
theorem Zox{n:Nat}{G:Nat→Nat→Option Int}{R:Nat→Int×Int}: Pln 3 (ZE n G R):=.tup fun t m=>by
 simp at m;rcases m with rfl | rfl
 ·exact ZtK
 ·exact ZtL
theorem ZbX{σ:TL}{i:Nat}{t:T}: ZY σ i t i=some t:=by simp[ZY]
end TM
end
section
set_option autoImplicit false
namespace PM
open PySem PySem.W PySem.Calls PyProof.Rows PyProof PyProof.Rows.LCg PyProof.Rows.LCp
noncomputable def sNo: Sm:=fun _ _=>none
noncomputable def inD(d:PyData): PyData→Option Bool
 | .list xs=>if PyData.canLayAll0 xs=true∧d.canLay0=true∧d.depth≤64 then some (xs.any fun y=>PyData.eqv y d)else none
 | .tuple xs=>if PyData.canLayAll0 xs=true∧d.canLay0=true∧d.depth≤64 then some (xs.any fun y=>PyData.eqv y d)else none
 | _=>none
noncomputable def Zm2(a b:V)(H:Hp): Option Bool:=(toD H ZbP a).bind fun d=>(toD H ZbP b).bind fun e=>inD d e
noncomputable def oIn(a b:V)(H:Hp): Option (V×Hp):=(Zm2 a b H).map fun c=>(.bool c,H)
noncomputable def Zgl(a:Nat): Nx:=fun i H=>H[a]?.bind fun vs=>match vs[i]? with
 | some x=>some (some (.tup [.int i,x]))
 | none=>if i=vs.length then some none else none
noncomputable def Zin(f:Ex): Src:=fun ρ H=>(f ρ H).bind fun p=>match p.1 with
 | .ref a=>p.2[a]?.map fun vs=>(Zgl a,vs.length+1,p.2)
 | _=>none
section
variable {prog:Program} {w:World} {Γ:Cx}
theorem ZwO{st:Stmt}: S1 prog w Γ st sNo:=fun W ρ H fr s Q E r rp hf post=>by cases hf
theorem ZmU: Op2 prog w (compareOp .In) oIn:=by
 intro Γ W ρ H fr s Q E a b x y v H' r hx hy ho post
 obtain⟨c,e1,e2⟩:=Zz1.mp ho
 cases e2
 obtain⟨d,h1,e1⟩:=Zz0.mp e1
 obtain⟨e,h2,e1⟩:=Zz0.mp e1
 obtain⟨as,R1⟩:=ZeH r ZbP a x d hx h1
 obtain⟨bs,R2⟩:=ZeH r ZbP b y e hy h2
 have hu:=Γ.hu
 unfold inD at e1
 split at e1
 ·split at e1
  ·rename_i hs
   cases e1
   exact SeqAt.in_list_reads R2 R1 hs.1 hs.2.1 (by omega) (post W s.heap s.toks _ (.refl W) r (.bool _))
  ·cases e1
 ·split at e1
  ·rename_i hs
   cases e1
   exact SeqAt.in_tuple_reads R2 R1 hs.1 hs.2.1 (by omega) (post W s.heap s.toks _ (.refl W) r (.bool _))
  ·cases e1
 ·cases e1
noncomputable def ES(e it l:Addr)(i:Nat)(h:Heap): Prop:=(∃old,IsEnum h e it i old)∧h.IsListIter it l i
theorem ES.at{e it l:Addr}{i:Nat}{h h':Heap}(x:ES e it l i h)(k:∀a∈[e,it],∀o,h.get? a=some o→h'.get? a=some o): ES e it l i h':=by
 obtain⟨⟨old,h1⟩,h2⟩:=x
 exact⟨⟨old,k e (by simp) _ h1⟩,h2.at fun o x=>k it (by simp) o x⟩
theorem ES.have{e it l:Addr}{i:Nat}{h:Heap}(x:ES e it l i h): ∀a∈[e,it],∃o,h.get? a=some o:=by
 obtain⟨⟨old,h1⟩,o,h2,_⟩:=x
 intro a ha
 simp at ha
 rcases ha with rfl | rfl
 ·exact⟨_,h1⟩
 ·exact⟨_,h2⟩
noncomputable def EIt(e it l:Addr)(i:Nat)(fs:List (Addr×Obj)): Prop:=fs.map (·.1)=[e,it]∧∀h:Heap,(∀q∈fs,h.get? q.1=some q.2)→ES e it l i h
theorem Zpd{e it l:Addr}{i:Nat}{h:Heap}(x:ES e it l i h): ∃fs,EIt e it l i fs∧∀q∈fs,h.get? q.1=some q.2:=by
 obtain⟨fs,h1,h2⟩:=Zm1 h [e,it] x.have
 refine⟨fs,⟨h1,fun h' k=>x.at fun a ha o ho=>?_⟩,h2⟩
 rw[←h1]at ha
 obtain⟨q,hq,eq⟩:=Zz11.mp ha
 have:=h2 q hq
 rw[eq,ho]at this
 cases this
 exact eq▸k q hq
theorem ZuZ{W0:Wd}{e it l:Addr}{a:Nat}(ea:W0.pi[a]?=some l)(hei:e≠it)(hle:l≠e)(hli:l≠it):
  Itr2 prog w Γ W0 (.ref e) [e,it] (EIt e it l) (Zgl a):=by
 refine⟨fun i fs h=>h.1,?_,?_,?_,?_⟩
 ·intro i H v hh
  obtain⟨vs,e1,hh⟩:=Zz0.mp hh
  split at hh
  ·cases hh
   exact⟨_,_,rfl⟩
  ·split at hh <;> cases hh
 ·intro i W ρ H fr fs s Q E va vb le r ap hit hn post
  obtain⟨vs,e1,hh⟩:=Zz0.mp hn
  have hv:va=.int i∧vs[i]?=some vb:=by
   split at hh
   ·rename_i x h1
    cases hh
    exact⟨rfl,h1⟩
   ·split at hh <;> cases hh
  obtain⟨_,xs,k1,g1,v1⟩:=r.at e1 (le.at ea)
  obtain⟨x,hx,rx⟩:=v1.at hv.2
  have st:ES e it l i s.heap:=hit.2 _ fun q hq=>r.frAt (Zz4 _ hq)
  have Wk:=WalksT.enumerate (prog:=prog) (w:=w) (A:=Γ.A) Γ.hh e it l hei hle hli xs.toArray
  have isl1:s.heap.IsList l xs.toArray:=⟨_,g1,rfl,k1,rfl⟩
  have hi:i<xs.toArray.size:=by
   have h1:=(Zz6.mp hx).1
   simpa using h1
  refine Wk.item i s Q E hi ⟨st.1,st.2,isl1⟩ fun T vals h1 t1 hp hT hTup hmid keep1=>post T h1 t1 ?_
  intro elts k pos s1 Q1 E1 es1 q1
  subst es1
  have hTw:=Wk.apart i T _ hmid
  refine Wk.go elts k pos i T _ Q1 E1 hmid fun h2 st2 keep2=>?_
  obtain⟨tk,x',hx',ev⟩:=hp
  have ex:x'=x:=by
   have:xs[i]?=some x':=by simpa using hx'
   rw[hx]at this
   exact(Option.some.inj this).symm
  subst ex ev
  obtain⟨fs',hit',at'⟩:=Zpd (h:=h2) (⟨st2.1,st2.2.1⟩:ES e it l (i+1) h2)
  obtain⟨oT,gT,cT,nT,dT⟩:=hTup
  refine q1 fs' h2 (.int i tk) x' hit' ?_ ⟨oT,keep2 T oT hTw gT,cT,nT,dT⟩ (by rw[hv.1];exact .int _ _) rx
  refine r.swap (fs':=fs') (fun q hq t ht=>?_) (fun c o hc e=>?_) fun q hq=>⟨at' q hq,?_⟩
  ·exact ap _ (hit.1▸List.mem_map_of_mem hq) t ht
  ·rw[hit.1]at hc
   exact keep2 c o hc (keep1 c o hc e)
  ·rw[hit.1,←hit'.1]
   exact List.mem_map_of_mem hq
 ·intro i W ρ H fr fs s Q E le r ap hit hn post
  obtain⟨vs,e1,hh⟩:=Zz0.mp hn
  obtain⟨_,xs,k1,g1,v1⟩:=r.at e1 (le.at ea)
  have hi:i=vs.length:=by
   split at hh
   ·cases hh
   ·split at hh
    ·assumption
    ·cases hh
  have st:ES e it l i s.heap:=hit.2 _ fun q hq=>r.frAt (Zz4 _ hq)
  have Wk:=WalksT.enumerate (prog:=prog) (w:=w) (A:=Γ.A) Γ.hh e it l hei hle hli xs.toArray
  have hm:xs.toArray.size=i:=by simp[v1.length,hi]
  refine Wk.done s Q E (by rw[hm];exact⟨st.1,st.2,⟨_,g1,rfl,k1,rfl⟩⟩) fun h' tk keep=>post h' tk ?_
  have:=r.swap (fs':=[]) (fun q hq t ht=>ap _ (hit.1▸List.mem_map_of_mem hq) t ht) (fun c o hc e=>keep c o (by rw[hit.1]at hc;exact hc) e) (fun q hq=>nomatch hq)
  exact this
 ·intro i W ρ H fr fs s Q E o le r hit hn q
  obtain⟨vs,e1,hh⟩:=Zz0.mp hn
  obtain⟨_,xs,k1,g1,v1⟩:=r.at e1 (le.at ea)
  have st:ES e it l i s.heap:=hit.2 _ fun q hq=>r.frAt (Zz4 _ hq)
  have Wk:=WalksT.enumerate (prog:=prog) (w:=w) (A:=Γ.A) Γ.hh e it l hei hle hli xs.toArray
  exact Wk.self i s Q E ⟨st.1,st.2,⟨_,g1,rfl,k1,rfl⟩⟩ q
theorem ZtM{x:Str}{np pos:Pos}{e1:Expr}{f:Ex}(hn:Nm prog w Γ x (.type "enumerate"))(h1:J prog w Γ e1 f)
  (he:starEach [e1] Γ.env=(false,eval e1 Γ.env)::starEach [] Γ.env:=by rfl) (hp:∀pos,(backTo pos (starEach [] Γ.env)).any (·.1)=false:=by intro _;rfl):JI2 prog w Γ (.Call (.Name x np) [e1] [] pos) (Zin f):=by
 intro W ρ H fr s Q E nx n H' r hf post
 obtain⟨p,a1,hf⟩:=Zz0.mp hf
 refine wpAny_Call_ofName (hn.use r ?_)
 refine PySem.Pv.callWith_type1 (wpAny_items_cons (h1 W ρ H fr s _ E _ _ r a1 fun W1 k1 t1 y1 l1 r1 v1=>wpAny_items_nil ?_) he) he (hp pos)
 obtain⟨u1,H1⟩:=p
 simp only at hf v1 r1
 cases u1 <;> first | (cases hf;done) | skip
 rename_i b1
 obtain⟨vs,c1,c3⟩:=Zz1.mp hf
 cases c3
 cases v1 with
 | @ref _ m1 ea=>
 obtain⟨_,xs,n1,g1,w1⟩:=r1.at c1 ea
 have isl1:k1.IsList m1 xs.toArray:=⟨_,g1,rfl,n1,rfl⟩
 refine call_enumerate_list (s:={ s with heap:=k1,toks:=t1 }) isl1 fun h₁ hE hI hsz up=>?_
 have hlt:m1<k1.objs.size:=Heap.lt_size g1
 have Wk:=WalksT.enumerate (prog:=prog) (w:=w) (A:=Γ.A) Γ.hh (k1.objs.size+1) k1.objs.size m1 (Nat.succ_ne_self _) (Nat.ne_of_lt (Nat.lt_succ_of_lt hlt)) (Nat.ne_of_lt hlt) xs.toArray
 have zs:ES (k1.objs.size+1) k1.objs.size m1 0 h₁:=⟨⟨_,hE⟩,hI⟩
 refine Wk.self 0 _ _ _ ⟨⟨_,hE⟩,hI,isl1.at fun o e=>up _ o e⟩ ?_
 obtain⟨fs,hit,at'⟩:=Zpd zs
 obtain⟨r3,ap3⟩:=r1.more (fs:=fs) (h':=h₁) (fun b o e=>up b o e) (fun q hq=>⟨at' q hq,by
  have:q.1∈fs.map (·.1):=List.mem_map_of_mem hq
  rw[hit.1]at this
  simp at this
  rcases this with e | e <;> rw[e] <;> omega⟩)
 refine post W1 h₁ t1 _ _ _ fs l1 hit r3 (fun b hb t ht=>?_) (ZuZ ea (Nat.succ_ne_self _) (Nat.ne_of_lt (Nat.lt_succ_of_lt hlt)) (Nat.ne_of_lt hlt)) ?_
 ·rw[←hit.1]at hb
  obtain⟨q,hq,e⟩:=Zz11.mp hb
  exact e▸ap3 q hq t ht
 ·simp only[Zgl,c1,Option.bind_some]
  cases q:vs[0]? with
  | some x=>exact⟨_,rfl⟩
  | none=>
   have:vs.length=0:=by simpa using q
   simp[this]
end
end PM
end
section
set_option autoImplicit false
namespace TM
open PySem PM
noncomputable def ZgK(a b:T): Option Bool:=(ZcI ZbP a).bind fun d=>(ZcI ZbP b).bind fun e=>inD d e
noncomputable def qIn(a b:T): Option T:=(ZgK a b).map .bool
theorem Zwf{H:Hp}{v1 v2:V}{t1 t2:T}{F1 F2:List Nat}(r1:RF H v1 t1 F1)(r2:RF H v2 t2 F2): Zm2 v1 v2 H=ZgK t1 t2:=by
 simp only[Zm2,ZgK,Zh8 ZbP _ _ _ r1,Zh8 ZbP _ _ _ r2]
theorem ZiA: OA2 oIn qIn:=fun H v1 v2 t1 t2 t F1 F2 r1 r2 h=>by
 obtain⟨c,h1,h⟩:=Zz1.mp h
 subst h
 exact⟨_,by simp only[oIn,Zwf r1 r2,h1,Option.map_some],.bool _⟩
theorem ZpQ{d:T}: ∀{ts:List T},(∀t∈ts,(PyData.eqv (dd t) (dd d)=true↔t=d))→((dds ts).any fun y=>PyData.eqv y (dd d))=dec (d∈ts)
 | [],_=>by simp[dds,Zbw]
 | t::ts,h=>by
  have ih:=ZpQ (d:=d) (ts:=ts) fun t m=>h t (Zz2 _ m)
  simp only[dds,List.any_cons,ih]
  symm
  apply Zmw
  rw[Bool.or_eq_true,h t Zz5,dec_iff]
  simp[eq_comm]
theorem Zwg{n m:Nat}{a:T}{ts:List T}(ha:Pln n a)(hb:Pln m (.lst ts))(hn:n≤8:=by decide)(hm:m≤8:=by decide): ZgK a (.lst ts)=some (dec (a∈ts)):=by
 have ha:=ha.mono hn
 have hb:=hb.mono hm
 obtain⟨a1,a2,a3⟩:=ha.dat
 obtain⟨b1,b2,b3⟩:=hb.dat
 unfold ZgK ZbP
 rw[a1,b1]
 simp only[Option.bind_some,dd,inD]
 simp only[dd,PyData.canLay0]at b2
 rw[if_pos ⟨b2,a2,by omega⟩,ZpQ]
 intro t m
 cases hb with
 | lst hs=>exact(hs t m).eqv ha
section
variable {Q:T→Prop}
theorem ZgB{n m:Nat}{a:T}{ts:List T}(ha:Pln n a)(hb:Pln m (.lst ts))(h:Q (.bool (dec (a∈ts))))(hn:n≤8:=by decide)(hm:m≤8:=by decide): Pk (qIn a (.lst ts)) Q:=⟨_,by simp only[qIn,Zwg ha hb hn hm,Option.map_some],h⟩
end
noncomputable def Zes(ts:List T): List T:=List.zipWith (fun i t=>.tup [.int (i:Nat),t]) (List.range ts.length) ts
noncomputable def Zio(p:PE): PG:=fun σ=>(p σ).bind fun t=>match t with
 | .lst ts=>some (Zes ts)
 | _=>none
theorem ZtN{ts:List T}: (Zes ts).length=ts.length:=by simp[Zes]
theorem Zoy{H:Hp}: ∀{vs:List V} {ts:List T} {F:List Nat} (k:Nat),RFs H vs ts F→RFs H (List.zipWith (fun i v=>V.tup [.int (i:Nat),v]) (List.range' k ts.length) vs) (List.zipWith (fun i t=>T.tup [.int (i:Nat),t]) (List.range' k ts.length) ts) F
 | _,_,_,_,.nil=>.nil
 | _,_,_,k,.cons a b=>by
  rw[List.length_cons,List.range'_succ]
  have h1:RF H (V.tup [.int (k:Nat),_]) (T.tup [.int (k:Nat),_]) _:=.tup (.cons (.int _) (.one a))
  simpa using RFs.cons h1 (Zoy (k+1) b)
theorem Zu0{O N:List Nat}{u:Bool}{e:Ex}{p:PE}(x:E O N u e p): Gs O N (Zin e) (Zio p):=fun c ρ σ H Φ ts s h=>by
 obtain⟨t1,h1,h⟩:=Zz0.mp h
 obtain⟨v,X,F,a1,a2,a3,a4⟩:=x c ρ σ H Φ t1 s h1
 have hlt:=a2.lt
 cases a2 with
 | none=>cases h
 | bool=>cases h
 | int=>cases h
 | str=>cases h
 | tup=>cases h
 | @ref b vs us F' e1 hs=>
  cases h
  have hl:=hs.length
  refine⟨Zgl b,X,List.zipWith (fun i v=>V.tup [.int (i:Nat),v]) (List.range us.length) vs,F',b::F',by simp only[Zin,a1,Option.bind_some,e1,Option.map_some,ZtN,hl],?_,fun _ m=>List.mem_cons_of_mem _ m,fun a m=>⟨hlt a m,a3 a m⟩,fun K hK i hi=>?_⟩
  ·have:=Zoy 0 hs
   unfold Zes
   rw[List.range_eq_range']
   exact this
  ·simp only[Zgl,hK b Zz5,e1,Option.bind_some,List.getElem?_zipWith]
   simp only[List.length_zipWith,List.length_range]at hi
   by_cases q:i<vs.length
   ·rw[List.getElem?_eq_getElem q,List.getElem?_range (by omega)]
   ·rw[List.getElem?_eq_none (by omega),List.getElem?_eq_none (by simp;omega)]
    simp
    omega
theorem ZtO{n:Nat}{f:Nat→T}: Zes (tab n f)=tab n fun i=>.tup [.int (i:Nat),f i]:=by
 unfold Zes
 rw[Zan]
 have:List.range n=tab n fun i=>i:=by simp[tab]
 rw[this,Zo9,Nat.min_self]
section
variable {σ:TL} {L:List T→Prop}
noncomputable def EnP(x:T)(L:List T→Prop): Prop:=∃ts,x=.lst ts∧L (Zes ts)
theorem Zu1{f:PE}(h:Pk (f σ) fun t=>EnP t L): Pl (Zio f σ) L:=by
 obtain⟨t,a,ts,rfl,q⟩:=h;exact⟨_,by simp only[Zio,a,Option.bind_some],q⟩
theorem Zu2{n:Nat}{f:Nat→T}(h:L (TM.tab n fun i=>.tup [.int (i:Nat),f i])): EnP (.lst (TM.tab n f)) L:=⟨_,rfl,by rw[ZtO];exact h⟩
end
noncomputable def Zip(g:PG)(put:T→TL→Option TL)(b:PS): PS:=fun σ=>(g σ).bind fun ts=>if ts=[]then none else Zew put b σ ts
end TM
end
section
set_option autoImplicit false
namespace PM
open PySem PySem.W PySem.Calls PyProof.Rows PyProof
noncomputable def Zgm(o1 o2:V→V→Hp→Option (V×Hp))(f g h:Ex): Ts:=fun ρ H=>(f ρ H).bind fun p=>(g ρ p.2).bind fun q=>(o1 p.1 q.1 q.2).bind fun u=>(ZcD u.1 u.2).bind fun b=>if b then(h ρ u.2).bind fun x=>(o2 q.1 x.1 x.2).bind fun y=>(ZcD y.1 y.2).map fun c=>(c,y.2)else some (false,u.2)
section
variable {prog:Program} {w:World} {Γ:Cx}
theorem ZtP{e1 e2 e3:Expr}{op1 op2:CmpOp}{pos:Pos}{f g h:Ex}{o1 o2:V→V→Hp→Option (V×Hp)}(h1:J prog w Γ e1 f)(h2:J prog w Γ e2 g)(h3:J prog w Γ e3 h)(k1:Op2 prog w (compareOp op1) o1)(k2:Op2 prog w (compareOp op2) o2)(hm:lastMarks [op1,op2] [e2,e3]=false:=by with_unfolding_all rfl): JT prog w Γ (.Compare e1 [op1,op2] [e2,e3] pos) (Zgm o1 o2 f g h):=by
 intro W ρ H fr s Q E b H' r hf post
 obtain⟨p,a1,hf⟩:=Zz0.mp hf
 obtain⟨q,a2,hf⟩:=Zz0.mp hf
 obtain⟨u,a3,hf⟩:=Zz0.mp hf
 obtain⟨c,a4,hf⟩:=Zz0.mp hf
 refine isTrue_chain (h1 W ρ H fr s _ E _ _ r a1 fun W1 n1 t1 x l1 r1 x1=>?_) hm
 refine test_link (h2 W1 ρ _ fr _ _ E _ _ r1 a2 fun W2 n2 t2 y l2 r2 y2=>?_)
 refine k1 Γ W2 ρ _ fr _ _ E _ _ x y _ _ r2 (x1.mono l2) y2 a3 fun W3 n3 t3 z l3 r3 z3=>?_
 refine Zeq Γ W3 ρ _ fr _ _ E _ z c r3 z3 a4 fun W4 n4 t4 l4 r4=>?_
 cases c with
 | false=>
  cases hf
  exact post W4 n4 t4 (((l1.trans l2).trans l3).trans l4) r4
 | true=>
  simp only[if_true]at hf
  obtain⟨v,a5,hf⟩:=Zz0.mp hf
  obtain⟨v2,a6,hf⟩:=Zz0.mp hf
  obtain⟨d,a7,a8⟩:=Zz1.mp hf
  cases a8
  refine test_last (h3 W4 ρ _ fr _ _ E _ _ r4 a5 fun W5 n5 t5 y5 l5 r5 x5=>?_)
  refine k2 Γ W5 ρ _ fr _ _ E _ _ y y5 _ _ r5 (((y2.mono l3).mono l4).mono l5) x5 a6 fun W6 n6 t6 z6 l6 r6 x6=>?_
  exact Zeq Γ W6 ρ _ fr _ _ E _ z6 b r6 x6 a7 fun W7 n7 t7 l7 r7=>post W7 n7 t7 ((((((l1.trans l2).trans l3).trans l4).trans l5).trans l6).trans l7) r7
end
end PM
end
section
set_option autoImplicit false
namespace TM
open PySem PM
section
variable {O N M K:List Nat} {u u' u'':Bool}
noncomputable def Zgn(q1 q2:T→T→Option T)(p1 p2 p3:PE): PB:=fun σ=>(p1 σ).bind fun x=>(p2 σ).bind fun y=>(q1 x y).bind fun z=>(ZbM z).bind fun b=>if b then(p3 σ).bind fun v=>(q2 y v).bind ZbM else some false
theorem ZtQ{e1 e2 e3:Ex}{p1 p2 p3:PE}{q1 q2:T→T→Option T}{o1 o2:V→V→Hp→Option (V×Hp)}(k1:OA2 o1 q1)(k2:OA2 o2 q2)(x:E O N u e1 p1)(y:E O M u' e2 p2)(z:E O K u'' e3 p3): Bt O (Zgm o1 o2 e1 e2 e3) (Zgn q1 q2 p1 p2 p3):=fun c ρ σ H Φ b s h=>by
 obtain⟨t1,h1,h⟩:=Zz0.mp h
 obtain⟨t2,h2,h⟩:=Zz0.mp h
 obtain⟨t3,h3,h⟩:=Zz0.mp h
 obtain⟨b0,h4,h⟩:=Zz0.mp h
 obtain⟨v1,X,F,a1,a2,_,_⟩:=x c ρ σ H Φ t1 s h1
 obtain⟨v2,Y,G,b1,b2,_,_⟩:=y c ρ σ (H++X) Φ t2 (s.ext X) h2
 obtain⟨v3,c1,c2⟩:=k1 _ v1 v2 t1 t2 t3 F G (a2.ext Y) b2 h3
 have d1:=ZdU c2 h4
 cases b0 with
 | false=>
  cases h
  exact⟨X++Y,by simp only[Zgm,a1,b1,Option.bind_some,c1,d1];simp⟩
 | true=>
  simp only[if_true]at h
  obtain⟨t5,h5,h⟩:=Zz0.mp h
  obtain⟨t6,h6,h⟩:=Zz0.mp h
  obtain⟨v5,Z,F5,e1,e2,_,_⟩:=z c ρ σ (H++X++Y) Φ t5 ((s.ext X).ext Y) h5
  obtain⟨v6,f1,f2⟩:=k2 _ v2 v5 t2 t5 t6 G F5 (b2.ext Z) e2 h6
  have g1:=ZdU f2 h
  exact⟨X++Y++Z,by simp only[Zgm,a1,b1,Option.bind_some,c1,d1,if_true,e1,f1,g1,Option.map_some];simp⟩
noncomputable def OIn(o:List V→Hp→Option (V×Hp))(q:List T→Option T): Prop:=∀(H:Hp) (vs:List V) (ts:List T) (t:T) (F1:List Nat),RFs H vs ts F1→q ts=some t→∃v F,o vs H=some (v,H)∧RF H v t F∧F.Sublist F1
theorem Zu3{n:Nat}{es:Exs}{ps:PEs}{q:List T→Option T}{o:List V→Hp→Option (V×Hp)}(k:OIn o q)(x:Es O N u n es ps): E O N u (Zu o es) (Zs q ps):=fun c ρ σ H Φ t s h=>by
 obtain⟨ts,h1,h⟩:=Zz0.mp h
 obtain⟨_,vs,X,F,a1,a2,a3,a4⟩:=x c ρ σ H Φ ts s h1
 obtain⟨w,G,b1,b2,b3⟩:=k _ vs ts t F a2 h
 exact⟨w,X,G,by simp only[Zu,a1,Option.bind_some,b1],b2,fun a m=>a3 a (b3.subset m),fun hu=>(a4 hu).sublist b3⟩
theorem ZtR: OIn ZeS ZhS:=fun H vs ts t F r h=>by
 unfold ZhS at h
 split at h
 ·obtain⟨v,rfl,r'⟩:=r.one_inv
  cases r' with
  | @ref a vs1 _ F1 e hs=>cases h;exact⟨.tup vs1,F1,by simp only[ZeS,e,Option.map_some],.tup hs,List.sublist_cons_self _ _⟩
 ·obtain⟨v,rfl,r'⟩:=r.one_inv
  cases r' with
  | @tup vs1 _ _ hs=>cases h;exact⟨.tup vs1,_,by simp only[ZeS],.tup hs,List.Sublist.refl _⟩
 ·cases h
end
theorem Zwh{O O1 R J Ns:List Nat}{fr:Bool}{g:Src}{q:PG}{put:V→Lc→Option Lc}{pput:T→TL→Option TL}{b:Sm}{qb:PS}(hg:Gs O Ns g q)(hj:PutOk O J put pput)(hj1:PutOk O1 J put pput)(hJ:∀i∈J,i∉O)(hJ1:∀i∈J,i∉O1)(hN:∀i∈Ns,i∉O)(hb:S O O1 R fr b qb)(hb1:S O1 O1 R fr b qb): S O O1 R fr (ZaZ g put b) (Zip q pput qb):=fun c ρ σ H Φ r s h=>by
 obtain⟨ts,h1,h⟩:=Zz0.mp h
 obtain⟨nx,X,vs,F,G,g1,g2,g3,g4,g5⟩:=hg c ρ σ H Φ ts s h1
 split at h
 ·cases h
 ·rename_i hne
  cases ts with
  | nil=>exact absurd rfl hne
  | cons t rs=>
   cases g2 with
   | @cons v _ F1 ws _ F2 a b'=>
   have sx:=s.ext X
   have hsrc:∀a∈G,c.H0.length≤a∨c.P a:=fun a m=>s.from_src (g4 a m).2
   have hoff:∀a∈G,¬ZcJ O σ Φ a:=fun a m ⟨k,hk,⟨t,e⟩,q⟩=>s.from_off hN (g4 a m).2 hk e q
   obtain⟨σ1,p0,h⟩:=Zz0.mp h
   obtain⟨r1,h2,h⟩:=Zz0.mp h
   obtain⟨ρ1,Φ1,p1,s1,p3,p4⟩:=hj c ρ σ (H++X) Φ v t F1 σ1 sx a (fun x m=>hsrc x (g3 x (Zz4 _ m))) (fun k hk t' e x m q=>hoff x (g3 x (Zz4 _ q)) ⟨k,hk,⟨t',e⟩,m⟩) p0
   have hh:∀x,ZcJ O σ1 Φ1 x→ZcJ O σ Φ x:=fun x ⟨k,hk,⟨t',e⟩,m⟩=>by
    obtain⟨q1,q2⟩:=p3 k fun q=>hJ k q hk
    exact⟨k,hk,⟨t',q1▸e⟩,q2▸m⟩
   obtain⟨ρ2,K2,Φ2,w1,w2,w3⟩:=hb c ρ1 σ1 (H++X) Φ1 r1 s1 h2
   have e0:nx 0 (H++X)=some (some v):=by have:=g5 (H++X) (fun _ _=>rfl) 0 (Nat.zero_le _);simpa using this
   have estep:ZaZ g put b ρ H=(b ρ1 (H++X)).bind fun q=>match q.1 with
     | some _=>some q
     | none=>Zdq nx put b (rs.length+1) 1 q.2.1 q.2.2:=by
    simp only[ZaZ,g1,Option.bind_some,List.length_cons]
    show(nx 0 (H++X)).bind _=_
    rw[e0]
    first | (simp only[Option.bind_some,p1];done) | (simp only[Option.bind_some,p1];rfl)
   rw[estep]
   refine Aft.grow (X:=X) ?_
   rcases w3 with⟨k1,k2,k3,k4⟩ | ⟨t',v',F',k1,k2,k3⟩
   ·rw[k1]at h
    have hG2:∀a∈G,K2[a]?=(H++X)[a]?:=fun x m=>w2 x (g4 x m).1 fun q=>hoff x m (hh x q)
    have hoff2:∀a∈G,¬ZcJ O1 r1.2 Φ2 a:=fun x m q=>by
     rcases k4 x q with q | q
     ·have:=(g4 x m).1;omega
     ·exact hoff x m (hh x q)
    have ih:=ZlJ hj1 hJ1 hb1 (H1:=H++X) (fun a m=>(g4 a m).1) hsrc g5 rs ws 1 ρ2 r1.2 K2 Φ2 F2 r (fun j=>by rw[Nat.add_comm];simp) (by simp;omega) k3 w1 hG2 hoff2 (b'.frame fun x m=>hG2 x (g3 x (Zz3 _ m))) (fun x m=>g3 x (Zz3 _ m)) h
    rw[k2]
    simp only[Option.bind_some]
    obtain⟨ρ3,K3,Φ3,l1,l2,l3⟩:=ih
    refine⟨ρ3,K3,Φ3,by omega,fun x hx hn=>?_,?_⟩
    ·rw[l2 x (by omega) fun q=>(k4 x q).elim (fun q=>by omega) fun q=>hn (hh x q),w2 x hx fun q=>hn (hh x q)]
    ·rcases l3 with⟨m1,m2,m3,m4⟩ | l
     ·refine .inl ⟨m1,m2,m3,fun x q=>?_⟩
      rcases m4 x q with q | q
      ·exact .inl (by omega)
      ·exact(k4 x q).imp id (hh x)
     ·exact .inr l
   ·rw[k1]at h
    cases h
    refine⟨ρ2,K2,Φ2,w1,fun x hx hn=>w2 x hx fun q=>hn (hh x q),.inr ⟨t',v',F',k1,?_,k3⟩⟩
    rw[k2]
    rfl
section
variable {σ:TL} {Q:T→Prop} {B:Bool→Prop} {R:T→Prop} {N:TL→Prop}
theorem ZtS{q1 q2:T→T→Option T}{f g h:PE}(k:Pk (f σ) fun x=>Pk (g σ) fun y=>Pk (q1 x y) fun z=>Pb (ZbM z) fun b=>(b=true→Pk (h σ) fun v=>Pk (q2 y v) fun w=>Pb (ZbM w) B)∧(b=false→B false)): Pb (Zgn q1 q2 f g h σ) B:=by
 obtain⟨x,a1,y,a2,z,a3,b,a4,k1,k2⟩:=k
 cases b with
 | false=>exact⟨false,by simp[Zgn,a1,a2,a3,a4],k2 rfl⟩
 | true=>
  obtain⟨v,b1,w,b2,c,b3,q⟩:=k1 rfl
  exact⟨c,by simp[Zgn,a1,a2,a3,a4,b1,b2,b3],q⟩
theorem Zu4{g:PG}{j n:Nat}{a:Nat→T}{b:PS}(hn:0<n)(hg:Pl (g σ) fun ts=>ts=tab n a)(P:Nat→TL→Prop)(h0:P 0 σ)(h1:∀i σ,i<n→P i σ→Psk (b (ZY σ j (a i))) R (P (i+1)))(h2:∀σ,P n σ→N σ): Psk (Zip g (ZX j) b σ) R N:=by
 obtain⟨o,s,e,q⟩:=Za6 (R:=R) (N:=N) (b:=b) (j:=j) hg P h0 h1 h2
 obtain⟨ts,e1,rfl⟩:=hg
 refine⟨o,s,?_,q⟩
 have hne:tab n a≠[]:=fun h=>by have:=congrArg List.length h;rw[Zan]at this;simp at this;omega
 simp only[Zip,e1,Option.bind_some,hne,if_false]
 simpa only[ZaA,e1,Option.bind_some]using e
end
end TM
end
section
set_option autoImplicit false
namespace TM
open PySem PM
theorem ZsS{fr:Bool}: SimF fr (fun _ _=>none) (fun _=>none):=by
 intro H vs ts t F1 hp r h
 cases h
end TM
end
section
set_option autoImplicit false
namespace TM
open PySem PM
noncomputable def Keep0(g:Sm): Prop:=∀ρ H r,g ρ H=some r→r.2.1 0=ρ 0
theorem Keep0.next: Keep0 Z8:=fun ρ H r h=>by cases h;rfl
theorem ZsT{e:Ex}: Keep0 (Zcz e):=fun ρ H r h=>by
 obtain⟨_,_,q⟩:=Zz1.mp h
 subst q;rfl
theorem Keep0.ret{e:Ex}: Keep0 (ZH e):=fun ρ H r h=>by
 obtain⟨_,_,q⟩:=Zz1.mp h
 subst q;rfl
theorem Keep0.put{f o i:Ex}: Keep0 (ZcZ f o i):=fun ρ H r h=>by
 obtain⟨_,_,h⟩:=Zz0.mp h
 obtain⟨_,_,h⟩:=Zz0.mp h
 obtain⟨_,_,h⟩:=Zz0.mp h
 obtain⟨_,_,q⟩:=Zz1.mp h
 subst q;rfl
theorem Keep0.seq{a b:Sm}(x:Keep0 a)(y:Keep0 b): Keep0 (Zv a b):=fun ρ H r h=>by
 obtain⟨r1,e1,h⟩:=Zz0.mp h
 have h1:=x ρ H r1 e1
 split at h
 ·cases h;exact h1
 ·exact(y _ _ _ h).trans h1
theorem ZsU{t:Ts}{a b:Sm}(x:Keep0 a)(y:Keep0 b): Keep0 (Z1 t a b):=fun ρ H r h=>by
 obtain⟨p,_,h⟩:=Zz0.mp h
 split at h
 ·exact x _ _ _ h
 ·exact y _ _ _ h
theorem Keep0.set{i:Nat}{e:Ex}(hi:0≠i): Keep0 (ZU i e):=fun ρ H r h=>by
 obtain⟨_,_,q⟩:=Zz1.mp h
 subst q
 simp[upd,hi]
noncomputable def SimM(f:List V→Hp→Option (V×Hp))(p:List T→Option T): Prop:=∀(H:Hp) (v:V) (vs:List V) (t:T) (ts:List T) (t':T) (F0 F1:List Nat),0<H.length→RF H v t F0→F0.Nodup→0∉F0→RFs H vs ts F1→(∀a∈F0,a∉F1)→p (t::ts)=some t' →
 ∃w H' F',f (v::vs) H=some (w,H')∧H.length≤H'.length∧(∀a,a<H.length→a∉F0→H'[a]?=H[a]?)∧RF H' v t' F'∧F'.Nodup∧∀a∈F',H.length≤a∨a∈F0
noncomputable def ZgL(n:Nat)(q:PS): List T→Option T:=fun ts=>if ts.length=n then(q fun i=>ts[i]?).bind fun r=>r.2 0 else none
theorem Zu5{O':List Nat}{n:Nat}{g:Sm}{q:PS}(h:S [0] O' [0] false g q)(h0:0∈O')(hk:Keep0 g): SimM (Z3 n g) (ZgL n q):=fun H v vs t ts t' F0 F1 hp r0 nd n0 rs dj e=>by
 unfold ZgL at e
 split at e
 ·rename_i hl
  obtain⟨r1,e1,e2⟩:=Zz0.mp e
  obtain⟨Φ,hΦ⟩:=rs.slots
  have st:St ⟨H,F0,fun a=>a∈F0∨a∈F1⟩ [0] (fun i=>(v::vs)[i]?) (fun i=>(t::ts)[i]?) H (fun i=>match i with | 0=>F0 | i+1=>Φ i):=by
   refine⟨fun i u e=>?_,fun i u e a m=>?_,fun i hi u e=>?_,Nat.le_refl _,fun a _ _=>rfl,hp,n0⟩
   ·cases i with
    | zero=>simp at e;subst e;exact⟨v,rfl,r0⟩
    | succ i=>
     simp at e
     obtain⟨w,h1,h2,_⟩:=hΦ i u e
     exact⟨w,by simpa using h1,h2⟩
   ·cases i with
    | zero=>exact .inr (.inl m)
    | succ i=>
     simp at e
     obtain⟨w,h1,h2,h3⟩:=hΦ i u e
     exact .inr (.inr (h3 a m))
   ·have:i=0:=by simpa using hi
    subst this
    refine⟨nd,fun a m=>.inr m,fun j u' hj ej a m=>?_⟩
    cases j with
    | zero=>exact absurd rfl hj
    | succ j=>
     simp at ej
     obtain⟨w,h1,h2,h3⟩:=hΦ j u' ej
     exact fun q=>dj a m (h3 a q)
  obtain⟨ρ',H',Φ',h1,h2,h3⟩:=h _ _ _ _ _ _ st e1
  have hv:(v::vs).length=n:=by rw[←hl];simp[rs.length]
  have go:∀(o:Option V) (O2:List Nat),0∈O2→g (fun i=>(v::vs)[i]?) H=some (o,ρ',H')→St ⟨H,F0,fun a=>a∈F0∨a∈F1⟩ O2 ρ' r1.2 H' Φ'→∃w H' F',Z3 n g (v::vs) H=some (w,H')∧H.length≤H'.length∧(∀a,a<H.length→a∉F0→H'[a]?=H[a]?)∧RF H' v t' F'∧F'.Nodup∧∀a∈F',H.length≤a∨a∈F0:=by
   intro o O2 hO eg s2
   obtain⟨v',ev,rv⟩:=s2.slot 0 t' e2
   have kk:=hk _ _ _ eg
   have:v'=v:=by
    have k2:ρ' 0=some v:=kk
    rw[ev]at k2
    cases k2
    rfl
   subst this
   obtain⟨o1,o2,_⟩:=s2.own 0 hO t' e2
   exact⟨o.getD .none,H',Φ' 0,by simp only[Z3,hv,if_true,eg,Option.map_some],h1,s2.keep,rv,o1,o2⟩
  rcases h3 with⟨k1,k2,k3,k4⟩ | ⟨u,v',F',k1,k2,k3,k4,k5,k6⟩
  ·exact go none O' h0 k2 k3
  ·exact go (some v') [0] List.mem_cons_self k2 k4
 ·cases e
noncomputable def ZiB(x:Nat)(p:List T→Option T)(ps:PEs): PS:=fun σ=>(ps σ).bind fun ts=>(σ x).bind fun t=>(p (t::ts)).map fun t'=>(none,ZY σ x t')
section
variable {O O' R N:List Nat} {fr u:Bool}
theorem Zwi{x n:Nat}{f:List V→Hp→Option (V×Hp)}{p:List T→Option T}{es:Exs}{ps:PEs}(hx:x∈O)(k:SimM f p)(y:Es O N u n es ps)(hN:x∉N)(hO:∀j∈O',j∈O): S O O' R fr (Zcz (Zu f (Zf (Zb x) es))) (ZiB x p ps):=fun c ρ σ H Φ r s q=>by
 obtain⟨ts,h1,q⟩:=Zz0.mp q
 obtain⟨t,h2,q⟩:=Zz0.mp q
 obtain⟨t',h3,q⟩:=Zz1.mp q
 subst q
 obtain⟨v,ev,rv⟩:=s.slot x t h2
 obtain⟨o1,o2,o3⟩:=s.own x hx t h2
 have hlow:∀k t,σ k=some t→∀a∈Φ k,a<H.length:=fun k t e a m=>by
  obtain⟨_,_,r⟩:=s.slot k t e
  exact r.lt a m
 obtain⟨_,vs,X,F,a1,a2,a3,_⟩:=y c ρ σ H Φ ts s h1
 have hp:0<(H++X).length:=by have:=s.pos;have:=s.len;rw[List.length_append];omega
 have hlen:(H++X).length=H.length+X.length:=List.length_append
 have dj:∀a∈Φ x,a∉F:=fun a m q=>by
  rcases a3 a q with h | ⟨j,hj,⟨tj,ej⟩,mj⟩
  ·have:=hlow x t h2 a m;omega
  ·exact o3 j tj (fun e=>hN (e▸hj)) ej a m mj
 obtain⟨w,H',F',b1,b2,b3,b4,b5,b6⟩:=k (H++X) v vs t ts t' (Φ x) F hp (rv.ext X) o1 (fun m=>Zl6 s hx h2 m rfl) a2 dj h3
 have same:∀a,a<H.length→a∉Φ x→H'[a]?=H[a]?:=fun a ha hn=>by
  rw[b3 a (by omega) hn,List.getElem?_append_left ha]
 have eg:Zcz (Zu f (Zf (Zb x) es)) ρ H=some (none,ρ,H'):=by
  simp only[Zcz,Zu,Zf,Zb,ev,Option.map_some,Option.bind_some,a1,b1]
 refine⟨ρ,H',Zam Φ x F',by omega,fun a ha hn=>same a ha fun m=>hn ⟨x,hx,⟨t,h2⟩,m⟩,.inl ⟨rfl,eg,⟨fun i u' e=>?_,fun i u' e a m=>?_,fun i hi u' e=>?_,by have:=s.len;omega,fun a ha hn=>?_,s.pos,s.f0⟩,fun a hh=>?_⟩⟩
 ·by_cases c1:i=x
  ·subst c1
   simp only[ZY,if_true,Option.some.injEq]at e
   subst e
   exact⟨v,ev,by simpa [Zam]using b4⟩
  ·simp only[ZY,c1,if_false]at e
   obtain⟨v2,e2,r2⟩:=s.slot i u' e
   refine⟨v2,e2,?_⟩
   simp only[Zam,c1,if_false]
   exact r2.frame fun a m=>same a (hlow i u' e a m) fun q=>o3 i u' c1 e a q m
 ·by_cases c1:i=x
  ·subst c1
   simp only[Zam,if_true]at m
   rcases b6 a m with h | h
   ·exact .inl (by have:=s.len;omega)
   ·exact s.src i t h2 a h
  ·simp only[ZY,c1,if_false]at e
   simp only[Zam,c1,if_false]at m
   exact s.src i u' e a m
 ·by_cases c1:i=x
  ·subst c1
   refine⟨by simpa [Zam]using b5,fun a m=>?_,fun j u2 hj ej a m=>?_⟩
   ·simp only[Zam,if_true]at m
    rcases b6 a m with h | h
    ·exact .inl (by have:=s.len;omega)
    ·exact o2 a h
   ·simp only[Zam,if_true]at m
    simp only[ZY,hj,if_false]at ej
    simp only[Zam,hj,if_false]
    intro q
    have hq:=hlow j u2 ej a q
    rcases b6 a m with h | h
    ·omega
    ·exact o3 j u2 hj ej a h q
  ·simp only[ZY,c1,if_false]at e
   obtain⟨q1,q2,q3⟩:=s.own i (hO i hi) u' e
   refine⟨by simpa [Zam,c1]using q1,fun a m=>?_,fun j u2 hj ej a m=>?_⟩
   ·simp only[Zam,c1,if_false]at m
    exact q2 a m
   ·simp only[Zam,c1,if_false]at m
    by_cases c2:j=x
    ·subst c2
     simp only[Zam,if_true]
     intro q
     have hm:=hlow i u' e a m
     rcases b6 a q with h | h
     ·omega
     ·exact q3 j t hj h2 a m h
    ·simp only[ZY,c2,if_false]at ej
     simp only[Zam,c2,if_false]
     exact q3 j u2 hj ej a m
 ·have hs:=s.keep a ha hn
  rw[same a (by have:=s.len;omega) fun m=>?_]
  ·exact hs
  ·rcases o2 a m with h | h
   ·omega
   ·exact hn h
 ·obtain⟨j,hj,⟨u',e⟩,m⟩:=hh
  by_cases c1:j=x
  ·subst c1
   simp only[Zam,if_true]at m
   rcases b6 a m with h | h
   ·exact .inl (by omega)
   ·exact .inr ⟨j,hx,⟨t,h2⟩,h⟩
  ·simp only[ZY,c1,if_false]at e
   simp only[Zam,c1,if_false]at m
   exact .inr ⟨j,hO j hj,⟨u',e⟩,m⟩
end
section
variable {σ:TL} {R:T→Prop} {N:TL→Prop}
theorem Zwj{x:Nat}{p:List T→Option T}{ps:PEs}{t:T}(e:σ x=some t)(h:Pl (ps σ) fun ts=>Pk (p (t::ts)) fun t'=>N (ZY σ x t')): Psk (ZiB x p ps σ) R N:=by
 obtain⟨ts,e1,t',e2,q⟩:=h
 exact⟨none,ZY σ x t',by simp only[ZiB,e1,e,Option.bind_some,e2,Option.map_some],by simp,fun _=>q⟩
theorem Zu6{n:Nat}{q:PS}{ts:List T}{Q:T→Prop}(hn:ts.length=n)(h:Psk (q fun i=>ts[i]?) (fun _=>False) fun σ=>∃t,σ 0=some t∧Q t): Pk (ZgL n q ts) Q:=by
 obtain⟨o,s,e,h1,h2⟩:=h
 cases o with
 | none=>
  obtain⟨t,e2,q2⟩:=h2 rfl
  exact⟨t,by simp only[ZgL,hn,if_true,e,Option.bind_some,e2],q2⟩
 | some u=>exact absurd (h1 u rfl) (by simp)
end
end TM
end
section
set_option autoImplicit false
namespace TM
open PySem PM
section
variable {O N M:List Nat}
theorem Zwk{e1 e2:Ex}{p1 p2:PE}(x:E O N true e1 p1)(y:E O M true e2 p2)(hN:∀i∈N,i∈O)(hM:∀i∈N,i∉M): E O (N++M) true (Zh Zab e1 e2) (Zc ZV p1 p2):=fun c ρ σ H Φ t s h=>by
 obtain⟨t1,h1,h⟩:=Zz0.mp h
 obtain⟨t2,h2,h⟩:=Zz0.mp h
 obtain⟨v1,X,F1,a1,a2,a3,a4⟩:=x c ρ σ H Φ t1 s h1
 obtain⟨v2,Y,F2,b1,b2,b3,b4⟩:=y c ρ σ (H++X) Φ t2 (s.ext X) h2
 have a2':=a2.ext Y
 have dj:∀a∈F1,a∉F2:=fun a ha hb=>by
  have hlt:=a2.lt a ha
  rcases b3 a hb with h | ⟨j,hj,⟨tj,ej⟩,mj⟩
  ·omega
  ·obtain⟨vj,_,rj⟩:=s.slot j tj ej
   have:=rj.lt a mj
   rcases a3 a ha with h | ⟨i,hi,⟨ti,ei⟩,mi⟩
   ·omega
   ·exact(s.own i (hN i hi) ti ei).2.2 j tj (fun q=>hM i hi (q▸hj)) ej a mi mj
 have nd1:=a4 rfl
 have nd2:=b4 rfl
 have f1:∀a∈F1,From H (N++M) σ Φ a:=fun a m=>(a3 a m).mono fun i hi=>List.mem_append_left _ hi
 have f2:∀a∈F2,From H (N++M) σ Φ a:=fun a m=>(b3 a m).back.mono fun i hi=>List.mem_append_right _ hi
 have ev:∀r,Zab v1 v2 (H++X++Y)=some r→Zh Zab e1 e2 ρ H=some r:=fun r hr=>by simp only[Zh,a1,b1,Option.bind_some,hr]
 have ndA:∀{A B:List Nat},A.Nodup→B.Nodup→(∀a∈A,a∉B)→(A++B).Nodup:=fun ha hb hd=>by
  rw[List.nodup_append]
  exact⟨ha,hb,fun a m b m' e=>hd a m (e▸m')⟩
 cases a2' with
 | none=>cases h
 | bool=>cases h
 | str=>cases h
 | int a=>
  cases b2 <;> first | (cases h;done) | skip
  cases h
  exact⟨_,X++Y,[],ev _ (by simp[Zab]),.int _,by simp,by simp⟩
 | tup hs1=>
  cases b2 with
  | none=>cases h
  | bool=>cases h
  | str=>cases h
  | int=>cases h
  | ref=>cases h
  | tup hs2=>
   simp only[ZV]at h
   split at h
   ·rename_i hl
    cases h
    refine⟨_,X++Y,_,ev _ ?_,.tup (by rw[←List.append_assoc];exact hs1.append hs2),fun a m=>?_,fun _=>ndA nd1 nd2 dj⟩
    ·simp only[Zab]
     rw[if_pos (by rw[List.length_append]at hl ⊢;rw[hs1.length,hs2.length];exact hl),List.append_assoc]
    ·rcases Zz8.mp m with m | m
     ·exact f1 a m
     ·exact f2 a m
   ·cases h
 | @ref r1 vs1 _ G1 e1' hs1=>
  cases b2 with
  | none=>cases h
  | bool=>cases h
  | str=>cases h
  | int=>cases h
  | tup=>cases h
  | @ref r2 vs2 _ G2 e2' hs2=>
   simp only[ZV]at h
   split at h
   ·rename_i hl
    cases h
    have hR:=hs1.append hs2
    refine⟨.ref (H++X++Y).length,X++Y++[vs1++vs2],(H++X++Y).length::(G1++G2),ev _ ?_,?_,fun a m=>?_,fun _=>?_⟩
    ·simp only[Zab,e1',e2',Option.bind_some]
     rw[if_pos (by rw[List.length_append]at hl ⊢;rw[hs1.length,hs2.length];exact hl)]
     simp
    ·rw[show H++(X++Y++[vs1++vs2])=H++X++Y++[vs1++vs2]by simp]
     exact .ref (by simp) (hR.ext _)
    ·rcases Zz7.mp m with rfl | m
     ·exact .inl (by simp)
     ·rcases Zz8.mp m with m | m
      ·exact f1 a (Zz2 _ m)
      ·exact f2 a (Zz2 _ m)
    ·refine List.nodup_cons.mpr ⟨fun m=>?_,ndA (List.nodup_cons.mp nd1).2 (List.nodup_cons.mp nd2).2 fun a m m'=>dj a (Zz2 _ m) (Zz2 _ m')⟩
     have:=hR.lt _ m
     omega
   ·cases h
end
end TM
end
section
set_option autoImplicit false
namespace PM
open PySem PySem.W PySem.Calls PyProof.Rows PyProof PyProof.Rows.LCg PyProof.Rows.LCp
section
variable {prog:Program} {w:World} {Γ:Cx}
theorem Zry{elt iter:Expr}{x x₂ y:Str}{px px₂ tp py pos spos:Pos}{kt:Nat}{scope:Scope}{cl:List (Str×Addr)}{t t₂ i:Nat}{g:Src}{f:Ex}(hy:Sto prog w Γ y i)(hg:JI2 prog w Γ iter g)(hel:∀C ρ,J prog w (Za9 Γ scope cl C [(x,t),(x₂,t₂)] ρ) elt f)
  (hsw:swapsWith (.ListComp elt [⟨.Tuple [.Name x px,.Name x₂ px₂] kt tp,iter,[],0⟩] scope pos) (some (.Name y py)) spos.line Γ.env=pure true)
  (hclos:closureFor scope Γ.env=pure cl) (hcell:∀y∈scope.names,y.2≠.cell) (hkind:scope.kind=.function) (hnames:∀y∈scope.names,y.2=.local→scope.names.lookup y.1=some .local) (hx:scope.names.lookup x=some .local) (hx₂:scope.names.lookup x₂=some .local) (hxx:x≠x₂) (htt:t≠t₂) (hs:∀x,foldedSetIterable iter Γ.env x=pure x:=by intro _;rfl):
  S1 prog w Γ (.Assign [.Name y py] (.ListComp elt [⟨.Tuple [.Name x px,.Name x₂ px₂] kt tp,iter,[],0⟩] scope pos) spos) (ZU i (ZaH g (Zb3 t t₂) Zaw f)):=by
 intro W ρ H fr s Q E r rp hf post
 obtain⟨p,e0,e9⟩:=Zz1.mp hf
 cases e9
 obtain⟨z,e1,hf⟩:=Zz0.mp e0
 obtain⟨q,e2,e3⟩:=Zz1.mp hf
 cases e3
 rw[exec_Assign_Name_used _ _ _ _ hsw]
 refine wpAny_bind (wpAny_standAt (wpAny_bind ?_))
 show wpAny _ Γ.A (do let _ ←comprehension (.ListComp elt [⟨.Tuple [.Name x px,.Name x₂ px₂] kt tp,iter,[],0⟩] scope pos) scope Γ.env _ (newList []) false (eval iter Γ.env) (some (assign (.Name y py) Γ.env))) _ _ s
 refine wpAny_bind (wpAny_mono (wpAny_comprehension_free (use:=some (assign (.Name y py) Γ.env)) (Q:=fun _ s'=>Q .next s') rfl hs hclos hkind hnames ?_) (fun _ s' h'=>wpAny_pure (wpAny_pure h')) fun _ _ e=>e)
 refine ZnC (RR:=fun acc C=>compPost (model prog w) Γ.A E (some (assign (.Name y py) Γ.env)) (fun _ s'=>Q .next s') acc C) hg hel hcell hkind hx hx₂ hxx htt rp (q:=q) (by rw[e1];exact e2) fun W2 h' tk' C D oC m₂ ys l2 hC hv hl aD aC cd r3=>?_
 have r4:Rep Γ W2 ρ q.2 ((D,lst ys)::(C,oC)::fr) h':=r3.less fun t ht=>by
  rcases Zz7.mp ht with e | ht
  ·exact e▸List.mem_cons_of_mem _ Zz5
  ·rcases Zz7.mp ht with e | ht
   ·exact e▸List.mem_cons_self
   ·exact Zz2 _ (Zz2 _ ht)
 obtain⟨W5,l5,r5,v5⟩:=ZfQ r4 (fun t ht=>by
  rcases Zz7.mp ht with e | ht
  ·rw[e]
   exact cd.symm
  ·exact aD t ht) hv hl
 refine wpAny_assign_Name (hy W5 ρ _ _ _ _ _ _ _ r5 v5 fun h6 t6 r6=>?_)
 refine⟨m₂,hC.ns (r6.frAt (q:=(C,oC)) Zz5),fun h'' sb=>?_⟩
 have r7:Rep Γ W5 (upd ρ i (.ref q.2.length)) (q.2++[q.1]) ([]++fr) h'':=
  Rep.swap (fs:=[(C,oC)]) (fs':=[]) r6 (fun q hq t ht=>by rw[List.mem_singleton.mp hq];exact aC t ht) (fun b o hb e=>sb.extBut b o (fun z=>hb (by simp[z])) e) fun q hq=>nomatch hq
 exact post W5 h'' t6 (l2.trans l5) r7
end
end PM
end
section
set_option autoImplicit false
namespace PM
open PySem PySem.W PySem.Calls PyProof.Rows PyProof
noncomputable def Zdg(ns:List Int): List Int:=ns.mergeSort fun a b=>decide (a≤b)
theorem Zoz{ns ms:List Int}(h1:ms.Perm ns)(h2:ms.Pairwise (·≤·)): ms=Zdg ns:=by
 refine List.Perm.eq_of_pairwise (le:=fun a b:Int=>a≤b) (fun a b _ _ h h'=>Int.le_antisymm h h') h2 ?_ (h1.trans (List.mergeSort_perm ns _).symm)
 have:=List.pairwise_mergeSort (le:=fun a b:Int=>decide (a≤b)) (fun a b c h h'=>by simp at *;omega) (fun a b=>by simp;omega) ns
 unfold Zdg
 simpa using this
theorem ZsV{ns:List Int}: (Zdg ns).length=ns.length:=(List.mergeSort_perm ns _).length_eq
theorem Zmd{W:Wd}: ∀{vs:List V} {xs:List Value} {ks:List Int},VRs W vs xs→Zdo vs=some ks→IntsAre xs ks:=by
 intro vs
 induction vs with
 | nil=>intro xs ks h e;cases h;cases e;exact .nil
 | cons v vs ih=>
  intro xs ks h e
  cases h with
  | cons a b=>
   cases v with
   | int i=>
    obtain⟨js,e1,e2⟩:=Zz1.mp e
    subst e2
    cases a with
    | int _ t=>exact .cons i t (ih b e1)
   | none=>cases e
   | bool=>cases e
   | str=>cases e
   | tup=>cases e
   | ref=>cases e
theorem Zpe{W:Wd}: ∀{xs:List Value} {ks:List Int},IntsAre xs ks→VRs W (ks.map V.int) xs
 | _,_,.nil=>.nil
 | _,_,.cons n t r=>.cons (.int n t) (Zpe r)
noncomputable def Zf9: List V→Hp→Option (V×Hp)
 | [.ref a],H=>H[a]?.bind fun vs=>(Zdo vs).bind fun ns=>if vs.length<64 then some (.ref H.length,H++[(Zdg ns).map V.int])else none
 | _,_=>none
section
variable {prog:Program} {w:World}
theorem ZsW: OpN prog w (fun xs=>call (.builtin "sorted") xs) Zf9:=by
 intro Γ W ρ H fr s Q E as xs v H' r hx ho post
 unfold Zf9 at ho
 split at ho
 ·obtain⟨vs,e1,ho⟩:=Zz0.mp ho
  obtain⟨ks,e3,ho⟩:=Zz0.mp ho
  split at ho
  ·rename_i h64
   cases ho
   obtain⟨x,ex,rx⟩:=hx.one
   subst ex
   cases rx with
   | @ref _ a ea=>
    obtain⟨hl,ys,k,hg,hv⟩:=r.at e1 ea
    have isl:s.heap.IsList a ys.toArray:=⟨_,hg,rfl,k,rfl⟩
    refine sorted_ints isl (Zmd hv e3) (by rw[hv.length];exact h64) fun out ms a1 a2 a3=>?_
    have em:=Zoz a2 a3
    subst em
    obtain⟨q,hq⟩:=sortedAll_at s.heap ys out
    have hlen:ks.length=vs.length:=by rw[←hv.length];exact(Zmd hv e3).length.symm
    obtain⟨r2,ap⟩:=r.more (h':=sortedAll s.heap ys out) (fs:=[(s.heap.objs.size+1,ZbO out.toList q)]) (fun b o hb=>sortedAll_old hb) (fun u hu=>by
     rw[List.mem_singleton.mp hu]
     refine⟨?_,Nat.le_succ _⟩
     rw[hq])
    obtain⟨W2,l2,r3,v3⟩:=ZfQ r2 (fun t ht=>ap _ Zz5 t ht) (Zpe a1) (by rw[List.length_map,ZsV,hlen];exact hl)
    exact post W2 _ s.toks _ l2 r3 v3
  ·cases ho
 ·cases ho
end
end PM
namespace PM
open PySem PySem.W PySem.Calls PyProof.Rows PyProof PySem.SeqAt
open SeqRoads2 MeetsSeq3 MeetsSeq2 MeetsSeq AutoSeq1
theorem Zr3(l:Addr)(its:Array Value)(n:Nat)(dd:Option Addr)(sl:Array (Option Value))(x:Value)(tk:Tok)(e:Value→Bool)(j:Nat)(hj:j<its.size)(h1:1≤j)(small:(j:Int)<2 ^ 63-1)
  (hit:e its[j]=true) (no:∀m (hm:m<its.size),1≤m→m<j→e its[m]=false):
  Meets (Builtin.«list.index» ⟨[.ref l,x,.int 1 tk],[]⟩) fun A R s=>s.heap.get? l=some { cls:=.type "list",dict:=dd,data:=.seq its n,slots:=sl }∧(∀y,y∈its→EqAt A.in1 s y x (e y))∧R (.ok (.ret (.int j s.toks))) { s with toks:=s.toks+1 }:=by
 intro prog w A R s h
 obtain⟨hp,g,d,tk',os⟩:=s
 obtain⟨hq0,he,h⟩:=h
 wp_walk using wpAny_loadPart' hq0
 have b1:((fun i:Int=>if i<0 then max 0 (i+(its.size:Int))else i) ((some (1:Int)).getD 0))=((1:Nat):Int):=by simp
 have b2:((fun i:Int=>if i<0 then max 0 (i+(its.size:Int))else i) ((Option.none:Option Int).getD (2 ^ 63-1)))=2 ^ 63-1:=by simp
 rw[b1,b2]
 refine⟨plainId_quiet plain_index_loop _,codeAny_builtin entry_index_loop ?_⟩
 rw[Around.under_plainId plain_index_loop _];exact index_loopAt l its n dd sl x e (2 ^ 63-1) j hj small hit _ 1 rfl h1 no prog w A R _ ⟨hq0,he,h⟩
section
variable {prog:Program} {w:World} {A:Around} {E:Value→Shared→Prop} {s:Shared}
theorem Zrz{l:Addr}{vs:List Value}{ns:List Int}{k:Int}{t t':Tok}{Q:Value→Shared→Prop}(hl:s.heap.IsList l vs.toArray)(hi:IntsAre vs ns)(hn:ns.length≤100000)(hk:k∈ns.drop 1)
  (h:Q (.int ((1+(ns.drop 1).idxOf k:Nat)) s.toks) { s with toks:=s.toks+1 }):wpAny (model prog w) A (call (.builtin "list.index") [.ref l,.int k t,.int 1 t']) Q E s:=by
 obtain⟨⟨c0,dd,da,sl⟩,ho,ec,n,ed⟩:=id hl
 simp only at ec ed
 subst ec ed
 have hlen:=hi.length
 have hj:(ns.drop 1).idxOf k<(ns.drop 1).length:=List.idxOf_lt_length_iff.mpr hk
 have hj':1+(ns.drop 1).idxOf k<ns.length:=by rw[List.length_drop]at hj;omega
 refine call_meets PySem.F.slot_list_index ⟨_,ho,rfl⟩ PySem.F.entry_list_index (PySem.F.args_list_index_3 _ _ _) (Zr3 l vs.toArray n dd sl (.int k t) t' (isInt k) (1+(ns.drop 1).idxOf k) (by simpa [hlen]using hj') (by omega) (by omega) ?_ ?_) ⟨ho,fun y hy=>(eq_isInt k t hi y (by simpa using hy)).at _ _,h⟩
 ·show isInt k vs[1+(ns.drop 1).idxOf k]=true
  rw[isInt_at k hi _ (by omega) hj']
  have:=List.getElem_idxOf hj
  rw[List.getElem_drop]at this
  simpa using this
 ·intro m hm h1 h2
  show isInt k vs[m]=false
  rw[isInt_at k hi m (by simpa using hm) (by have:=hm;simp[hlen]at this;omega)]
  have hm':m-1<(ns.drop 1).length:=by rw[List.length_drop];omega
  have:=ne_of_lt_idxOf (k:=k) (ns:=ns.drop 1) (j:=m-1) (by omega) hm'
  rw[List.getElem_drop]at this
  simpa [show 1+(m-1)=m by omega]using this
end
noncomputable def Zic: V→V→V→Hp→Option (V×Hp)
 | .ref a,.int k,.int b,H=>H[a]?.bind fun vs=>(Zdo vs).bind fun ns=>if b=1∧k∈ns.drop 1 then some (.int ((1+(ns.drop 1).idxOf k:Nat):Int),H)else none
 | _,_,_,_=>none
noncomputable def Zgo(f g h:Ex): Ex:=fun ρ H=>(f ρ H).bind fun p=>(g ρ p.2).bind fun q=>(h ρ q.2).bind fun u=>Zic p.1 q.1 u.1 u.2
section
variable {prog:Program} {w:World} {Γ:Cx}
theorem ZrA{a b c:V}{H:Hp}{r:V×Hp}(h:Zic a b c H=some r): ∃i k vs ns,a=.ref i∧b=.int k∧c=.int 1∧H[i]?=some vs∧Zdo vs=some ns∧k∈ns.drop 1∧r=(.int ((1+(ns.drop 1).idxOf k:Nat):Int),H):=by
 unfold Zic at h
 split at h
 ·obtain⟨vs,e1,h⟩:=Zz0.mp h
  obtain⟨ns,e2,h⟩:=Zz0.mp h
  split at h
  ·rename_i q
   cases h
   obtain⟨rfl,q⟩:=q
   exact⟨_,_,vs,ns,rfl,rfl,rfl,e1,e2,q,rfl⟩
  ·cases h
 ·cases h
theorem J.index{o e1 e2:Expr}{apos pos:Pos}{f g k:Ex}(ho:J prog w Γ o f)(h1:J prog w Γ e1 g)(h2:J prog w Γ e2 k)(hbase:attributeBase o "index" Γ.env (eval o Γ.env)=eval o Γ.env:=by rfl)
  (hline:(apos.endLine == pos.line)=true:=by rfl) (htrees:backTo pos (starEach [e1,e2] Γ.env)=[(false,eval e1 Γ.env),(false,eval e2 Γ.env)]:=by rfl) (hstay:∀ρ H p,f ρ H=some p→∀q,g ρ p.2=some q→p.2=q.2:=by intro _ _ _ _ _ h;cases h;rfl) (hstay2:∀ρ H p,g ρ H=some p→∀q,k ρ p.2=some q→p.2=q.2:=by intro _ _ _ _ _ h;cases h;rfl):J prog w Γ (.Call (.Attribute o "index" apos) [e1,e2] [] pos) (Zgo f g k):=by
 intro W ρ H fr s Q E v H' r hx post
 obtain⟨p,x1,hx⟩:=Zz0.mp hx
 obtain⟨q,x2,hx⟩:=Zz0.mp hx
 obtain⟨u,x3,x4⟩:=Zz0.mp hx
 obtain⟨i,kk,vs,ns,ea,eb,ec,hvs,hns,hmem,er⟩:=ZrA x4
 refine wpAny_Call_method2_late hbase hline htrees (ho W ρ H fr s _ E _ _ r x1 fun W1 k1 t1 x l1 r1 y1=>?_)
 rw[ea]at y1
 have s1:=hstay ρ H p x1 q x2
 have s2:=hstay2 ρ p.2 q x2 u x3
 cases y1 with
 | @ref _ a aa=>
 obtain⟨hl,xs,n,hg,hv⟩:=r1.at (by rw[s1,s2];exact hvs) aa
 refine⟨"list","list.index",PySem.F.plainAttrs_list,PySem.F.slot_list_index,PySem.F.type_list_index,(show k1.IsList a xs.toArray from⟨_,hg,rfl,n,rfl⟩).typeIs,fun b eb=>by cases eb;exact⟨_,hg,rfl⟩,?_⟩
 refine Calls.callWith_builtin rfl (Calls.evalArgs_plain (Calls.spliced_cons ?_))
 refine h1 W1 ρ _ fr _ _ E _ _ r1 x2 fun W2 k2 t2 y l2 r2 y2=>Calls.spliced_cons ?_
 refine h2 W2 ρ _ fr _ _ E _ _ r2 x3 fun W3 k3 t3 z l3 r3 z3=>Calls.spliced_nil ?_
 rw[eb]at y2
 rw[ec]at z3
 cases y2 with
 | int _ ty=>
 cases z3 with
 | int _ tz=>
 obtain⟨hl3,xs3,n3,hg3,hv3⟩:=r3.at hvs (l3.at (l2.at aa))
 rw[Za5]at hl3
 have hI:=Zmd hv3 hns
 refine Zrz ⟨_,hg3,rfl,n3,rfl⟩ hI (by rw[←hI.length,hv3.length];omega) hmem ?_
 have:=post W3 k3 (t3+1) (.int ((1+(ns.drop 1).idxOf kk:Nat):Int) t3) ((l1.trans l2).trans l3)
 cases er
 exact this r3 (.int _ _)
end
end PM
end
section
set_option autoImplicit false
namespace TM
open PySem PM
theorem ZlN{H:Hp}: ∀ks:List Int,RFs H (ks.map V.int) (ks.map T.int) []
 | []=>.nil
 | k::ks=>.cons (.int k) (ZlN ks)
noncomputable def ZhX: List T→Option T
 | [.lst ts]=>(Zdf ts).bind fun ns=>if ts.length<64 then some (.lst ((Zdg ns).map T.int))else none
 | _=>none
theorem ZtT: OCn Zf9 ZhX:=fun H vs ts t F hp r h=>by
 unfold ZhX at h
 split at h
 ·obtain⟨v,rfl,r'⟩:=r.one_inv
  cases r' with
  | ref e hs=>
   obtain⟨ks,h1,h⟩:=Zz0.mp h
   split at h
   ·rename_i h64
    cases h
    refine⟨_,[(Zdg ks).map V.int],_,?_,ZdM (ZlN (Zdg ks)),fun a m=>?_,fun _=>?_⟩
    ·simp only[Zf9,e,Option.bind_some,ZhR hs h1]
     rw[if_pos (by rw[hs.length];exact h64)]
    ·rcases Zz7.mp m with rfl | m
     ·exact .inl (Zz10 _)
     ·cases m
    ·simp
   ·cases h
 ·cases h
noncomputable def Zgp(p q r:PE): PE:=fun σ=>(p σ).bind fun t=>(q σ).bind fun k=>(r σ).bind fun b=>match t,k,b with
 | .lst ts,.int k,.int b=>(Zdf ts).bind fun ns=>if b=1∧k∈ns.drop 1 then some (.int ((1+(ns.drop 1).idxOf k:Nat):Int))else none
 | _,_,_=>none
section
variable {O N M K:List Nat} {u u' u'':Bool}
theorem E.index{e1 e2 e3:Ex}{p1 p2 p3:PE}(x:E O N u e1 p1)(y:E O M u' e2 p2)(z:E O K u'' e3 p3): E O [] true (Zgo e1 e2 e3) (Zgp p1 p2 p3):=fun c ρ σ H Φ t s h=>by
 obtain⟨t1,h1,h⟩:=Zz0.mp h
 obtain⟨t2,h2,h⟩:=Zz0.mp h
 obtain⟨t3,h3,h⟩:=Zz0.mp h
 obtain⟨v1,X,F1,a1,a2,_,_⟩:=x c ρ σ H Φ t1 s h1
 obtain⟨v2,Y,F2,b1,b2,_,_⟩:=y c ρ σ (H++X) Φ t2 (s.ext X) h2
 obtain⟨v3,Z,F3,c1,c2,_,_⟩:=z c ρ σ (H++X++Y) Φ t3 ((s.ext X).ext Y) h3
 have a3:=(a2.ext Y).ext Z
 split at h
 ·obtain⟨ns,e1,h⟩:=Zz0.mp h
  split at h
  ·rename_i hc
   cases h
   cases b2
   cases c2
   cases a3 with
   | ref e hs=>
    refine⟨_,X++Y++Z,[],?_,.int _,by simp,by simp⟩
    have e':=e
    simp only[Zgo,a1,b1,c1,Option.bind_some,Zic,e',ZhR hs e1]
    rw[if_pos hc]
    simp
  ·cases h
 ·cases h
end
section
variable {σ:TL} {Q:T→Prop}
end
end TM
end
section
namespace My
open PySem
section
variable {prog:Program} {w:World} {A:Around} {E:Value→Shared→Prop} {s:Shared}
theorem fill_range{R:Result→Shared→Prop}{r:Addr}{a b c:Int}{t u v:Tok}{n:Nat}(hr:IsRange s.heap r a b c t u v)(hn:Builtin.Range.rangeSize a b c=n)(hlen:n≤2 ^ 24)(S:Addr)(res:Value)(c₀:Nat)
  (at_S:s.heap.get? S=some { cls:=.type "list",data:=.seq #[] c₀ }) (ito:Obj) {St:Nat→Heap→Prop} (W:Walks prog w A.in1 s.heap.objs.size [s.heap.objs.size] [s.heap.objs.size] n (fun i v=>∃t,v=.int (a+i*c) t) St)
  (st:∀g:Heap,g.get? s.heap.objs.size=some ito→St 0 g)
  (iter:∀(Q:Value→Shared→Prop) (E':Value→Shared→Prop),Q (.ref s.heap.objs.size) { s with heap:=s.heap.push ito }→wpAny (model prog w) A.in1 (pyIter (.ref r)) Q E' s) (hito:(s.heap.push ito).get? s.heap.objs.size=some ito)
  (out:∀g tk acc k,(∀b o,b≠S→s.heap.get? b=some o→g.get? b=some o)→g.get? S=some { cls:=.type "list",dict:=none,data:=.seq acc k,slots:=#[] }→ItemsOf (fun i v=>∃t,v=.int (a+i*c) t) acc n→R (.ok (.ret res)) { s with heap:=g,toks:=tk }):
  wpAny (model prog w) A.in1 (Builtin.List.listExtendWith (.ref S) (.ref r) res)
   (fun fin s'=>match fin with
    | .done f=>R (.ok f) s'
    | .again c'=>c'.quiet=true∧codeAny (model prog w) A c' R s') (fun e s'=>R (.error e) s') s:=by
 have ne_r:S≠r:=fun e=>by rw[e,hr]at at_S;simp at at_S
 have ne_I:S≠s.heap.objs.size:=Nat.ne_of_lt (Heap.lt_size at_S)
 have off:S∉[s.heap.objs.size]:=fun q=>ne_I (Zz9.mp q)
 have loop:∀(g:Heap) (k tk:Nat),g.get? s.heap.objs.size=some ito→(∀b o,b≠S→s.heap.get? b=some o→g.get? b=some o)→g.get? S=some { cls:=.type "list",data:=.seq #[] k } →
   codeAny (model prog w) A (.builtin "list.extend.loop" ⟨[.ref S,.ref s.heap.objs.size,res],[]⟩) R { s with heap:=g,toks:=tk }:=by
  intro g k tk at_I keeps at_S'
  refine codeAny_extend_loopS W.toS (by rw[sizeLine_eq];omega) S off res n 0 _ #[] k rfl (Nat.zero_le _) (st _ at_I) at_S' (ItemsOf.nil _) fun s' acc k' mv at_S'' its=>?_
  rw[Moved.eq_with mv]
  refine out s'.heap s'.toks acc k' (fun b o bS e=>mv.heap b o (fun q=>?_) (keeps b o bS e)) at_S'' its
  rcases Zz7.mp q with q | q
  ·exact bS q
  ·exact absurd (Heap.lt_size e) (by rw[List.mem_singleton.mp q];exact Nat.lt_irrefl _)
 unfold Builtin.List.listExtendWith
 refine wpAny_bind (wpAny_typeOf (T:="range") ⟨_,hr,rfl⟩ ?_)
 have z1:Builtin.List.listSameRef (.ref S) (.ref r)=false:=by simp[Builtin.List.listSameRef,ne_r]
 have z2:(Value.type "range" == Value.type "list")=false:=by decide
 have z3:(Value.type "range" == Value.type "tuple")=false:=by decide
 simp only[z1,z2,z3,Bool.or_false,Bool.false_eq_true,if_false]
 refine wpAny_bind (iter _ _ ?_)
 refine wpAny_bind (wpAny_holding (wpAny_hint_range (n:=n) (Heap.get?_push_of_some _ hr) hn hlen ?_))
 have at_S1:=Heap.get?_push_of_some ito at_S
 refine wpAny_ite_split (fun _=>?_) (fun _=>wpAny_pure ⟨plainId_quiet F.plain_extend_loop _,loop _ c₀ _ hito (fun b o _ e=>Heap.get?_push_of_some _ e) at_S1⟩)
 refine wpAny_bind (wpAny_rule ?_);refine wpAny_bind ?_
 show wpAny _ _ (updateSeq S (·.push .none) >>= fun _=>updateSeq S (·.pop)) _ _ _;refine wpAny_bind (wpAny_updateSeq at_S1 rfl ?_)
 have at_S2:=Heap.get?_update_self (Obj.mapSeq (·.push Value.none)) at_S1 rfl
 refine wpAny_updateSeq (hz:=by seq_fits) at_S2 rfl ?_
 have at_S3:=Heap.get?_update_self (Obj.mapSeq (·.pop)) at_S2 rfl
 refine wpAny_pure ⟨plainId_quiet F.plain_extend_loop _,loop _ _ _ ?_ (fun b o bS e=>?_) at_S3⟩
 ·exact(Heap.get?_update_other _ _ ne_I).trans ((Heap.get?_update_other _ _ ne_I).trans hito)
 ·exact(Heap.get?_update_other _ _ (Ne.symm bS)).trans ((Heap.get?_update_other _ _ (Ne.symm bS)).trans (Heap.get?_push_of_some _ e))
theorem fill_any{R:Result→Shared→Prop}{r:Addr}{a b c:Int}{t u v:Tok}{n:Nat}(hh:A.handled=none)(hr:IsRange s.heap r a b c t u v)(hn:Builtin.Range.rangeSize a b c=n)(hlen:n≤2 ^ 24)(S:Addr)(res:Value)(c₀:Nat)
  (at_S:s.heap.get? S=some { cls:=.type "list",data:=.seq #[] c₀ })
  (out:∀g tk acc k,(∀b o,b≠S→s.heap.get? b=some o→g.get? b=some o)→g.get? S=some { cls:=.type "list",dict:=none,data:=.seq acc k,slots:=#[] }→ItemsOf (fun i v=>∃t,v=.int (a+i*c) t) acc n→R (.ok (.ret res)) { s with heap:=g,toks:=tk }):
  wpAny (model prog w) A.in1 (Builtin.List.listExtendWith (.ref S) (.ref r) res)
   (fun fin s'=>match fin with
    | .done f=>R (.ok f) s'
    | .again c'=>c'.quiet=true∧codeAny (model prog w) A c' R s') (fun e s'=>R (.error e) s') s:=by
 by_cases sm:Builtin.Range.small a b c=true
 ·refine fill_range hr hn hlen S res c₀ at_S _ (Walks.range (prog:=prog) (w:=w) (A:=A.in1) hh s.heap.objs.size a c n) (fun g at_g=>?_) (fun Q' E' q=>wpAny_pyIter_range hr sm q) (Heap.get?_push_size _ rfl) out
  show IsRangeIter _ _ _ _ _
  rw[hn]at at_g
  simpa using at_g
 ·refine fill_range hr hn hlen S res c₀ at_S _ (Walks.longrange (prog:=prog) (w:=w) (A:=A.in1) hh s.heap.objs.size a c n) (fun g at_g=>?_) (fun Q' E' q=>wpAny_pyIter_longrange hr (by simpa using sm) q) (Heap.get?_push_size _ rfl) out
  show IsLongIter _ _ _ _ _
  rw[hn]at at_g
  simpa using at_g
theorem list_any{Q:Value→Shared→Prop}{r:Addr}{a b c:Int}{t u v:Tok}{n:Nat}(hh:A.handled=none)(hr:IsRange s.heap r a b c t u v)(hn:Builtin.Range.rangeSize a b c=n)(hlen:n≤2 ^ 24)
  (out:∀g tk acc k,(∀b o,s.heap.get? b=some o→g.get? b=some o)→g.get? s.heap.objs.size=some { cls:=.type "list",dict:=none,data:=.seq acc k,slots:=#[] }→ItemsOf (fun i v=>∃t,v=.int (a+i*c) t) acc n →
   Q (.ref s.heap.objs.size) { s with heap:=g,toks:=tk }):
  wpAny (model prog w) A (call (.type "list") [.ref r]) Q E s:=by
 refine callType_codes (Q₁:=fun obj s₁=>obj=.ref s.heap.objs.size∧s₁ = { s with heap:=s.heap.push { cls:=.type "list",data:=.seq #[] } }) F.called_list (F.typeCall_list_1 _) F.entry_list_init (code_list_new _ ⟨rfl,rfl⟩) fun obj s₁ h₁=>?_
 obtain⟨rfl,rfl⟩:=h₁
 have at_S:(s.heap.push { cls:=.type "list",data:=.seq #[] }).get? s.heap.objs.size=some { cls:=.type "list",data:=.seq #[] }:=Heap.get?_push_size _ rfl
 refine⟨⟨_,at_S,rfl⟩,F.args_list_init_2 _ _,?_⟩
 have hr':=Heap.get?_push_of_some { cls:=.type "list",data:=.seq #[] } hr
 have ne_r:s.heap.objs.size≠r:=fun e=>absurd (Heap.lt_size hr) (by rw[←e];exact Nat.lt_irrefl _)
 show wpAny _ _ (do let old ←Builtin.List.listItems (.ref s.heap.objs.size);Builtin.List.listUpdate (.ref s.heap.objs.size) (fun _=>#[]);letGo old.toList.reverse;Builtin.List.listExtendWith (.ref s.heap.objs.size) (.ref r) .none) _ _ _
 refine wpAny_bind ?_;unfold Builtin.List.listItems;refine wpAny_bind (wpAny_seqItems at_S rfl (wpAny_pure ?_))
 show wpAny _ _ (updateSeq s.heap.objs.size (fun _=>#[]) >>= fun _=>letGo (#[]:Array Value).toList.reverse >>= fun _=>Builtin.List.listExtendWith (.ref s.heap.objs.size) (.ref r) .none) _ _ _
 refine wpAny_bind (wpAny_updateSeq at_S rfl ?_)
 have at_S2:=Heap.get?_update_self (Obj.mapSeq (fun _=>(#[]:Array Value))) at_S rfl
 have oth:∀b o,b≠s.heap.objs.size→s.heap.get? b=some o→((s.heap.push { cls:=.type "list",data:=.seq #[] }).update s.heap.objs.size (Obj.mapSeq (fun _=>(#[]:Array Value)))).get? b=some o:=fun b o hb e=>(Heap.get?_update_other _ _ (Ne.symm hb)).trans (Heap.get?_push_of_some _ e)
 have hr2:=oth r _ (Ne.symm ne_r) hr
 refine wpAny_bind (wpAny_letGo ?_)
 refine' fill_any (t:=t) (u:=u) (v:=v) (A:=A.in1) (R:=wants (fun r s₂=>r=Value.none∧Q (Value.ref s.heap.objs.size) s₂) E) hh ?_ hn hlen s.heap.objs.size .none ?k0 ?k2 fun g tk acc k keeps at_g its=>?k3
 case k2=>exact at_S2
 ·exact hr2
 case k3=>exact⟨rfl,out g tk acc k (fun b o e=>keeps b o (Nat.ne_of_lt (Heap.lt_size e)) (oth b o (Nat.ne_of_lt (Heap.lt_size e)) e)) at_g its⟩
end
end My
end
section
set_option autoImplicit false
namespace PM
open PySem PySem.W PySem.Calls PyProof.Rows PyProof
noncomputable def ZdH(a:Int)(n:Nat): List V:=(List.range n).map fun(i:Nat)=>V.int (a+i)
noncomputable def Zgq: List V→Hp→Option (V×Hp)
 | [.int a,.int b],H=>if 0≤b-a∧b-a≤1000 then some (.ref H.length,H++[ZdH a (b-a).toNat])else none
 | _,_=>none
theorem ZtU{W:Wd}{a:Int}: ∀{n:Nat} {xs:List Value},xs.length=n→(∀(j:Nat) (v:Value),xs[j]?=some v→∃t:Tok,v=Value.int (a+(j:Int)*1) t)→VRs W (ZdH a n) xs:=by
 intro n
 induction n generalizing a with
 | zero=>
  intro xs hl _
  have:xs=[]:=List.length_eq_zero_iff.mp hl
  subst this
  exact .nil
 | succ n ih=>
  intro xs hl hv
  cases xs with
  | nil=>cases hl
  | cons v xs=>
   obtain⟨t,e⟩:=hv 0 v rfl
   subst e
   have r:ZdH a (n+1)=V.int (a+((0:Nat):Int)*1)::ZdH (a+1) n:=by
    simp only[ZdH,List.range_succ_eq_map,List.map_cons,List.map_map]
    refine congr (congrArg _ (congrArg _ (by omega))) ?_
    apply List.map_congr_left
    intro i _
    show V.int _=V.int _
    congr 1
    simp only[Nat.succ_eq_add_one]
    omega
   rw[r]
   refine .cons (.int _ t) (ih (by simpa using hl) fun j u hu=>?_)
   obtain⟨t',e'⟩:=hv (j+1) u (by simpa using hu)
   refine⟨t',?_⟩
   rw[e']
   congr 1
   omega
section
variable {prog:Program} {w:World} {Γ:Cx}
theorem Zu7{x x2:Str}{np pos np2 pos2:Pos}{e:Expr}{es:List Expr}{g:Exs}(hn:Nm prog w Γ x (.type "list"))(hr:Nm prog w Γ x2 (.type "range"))(h:Js prog w Γ (e::es) g)
  (he:starEach (e::es) Γ.env=(false,eval e Γ.env)::starEach es Γ.env:=by rfl) (hp:∀pos,(backTo pos (starEach es Γ.env)).any (·.1)=false:=by intro _;rfl):J prog w Γ (.Call (.Name x np) [.Call (.Name x2 np2) (e::es) [] pos2] [] pos) (Zu Zgq g):=by
 intro W ρ H fr s Q E v H' r hf post
 obtain⟨p,e1,hf⟩:=Zz0.mp hf
 refine wpAny_Call_ofName (hn.use r ?_)
 refine PySem.Pv.callWith_type1 (wpAny_items_cons (wpAny_Call_ofName (hr.use r (PySem.Pv.callWith_type1 (h pos2 W ρ H fr s _ E _ _ r e1 fun W1 k1 t1 xs l1 r1 x1=>?_) he (hp pos2)))) rfl) rfl rfl
 obtain⟨vs,H1⟩:=p
 dsimp only at hf x1 r1
 unfold Zgq at hf
 split at hf
 ·obtain⟨y,z,ex,ry,rz⟩:=x1.two
  subst ex
  cases ry
  cases rz
  split at hf
  ·rename_i _ _ a b _ _ hc
   cases hf
   refine call_range_2 (wpAny_items_nil ?_)
   refine My.list_any (n:=(b-a).toNat) Γ.hh (IsRange.new ..) ?_ (by omega) fun g tk acc k up hg its=>?_
   ·unfold Builtin.Range.rangeSize
    rw[if_pos (by decide)]
    split
    ·omega
    ·omega
   have e:acc=acc.toList.toArray:=by simp
   obtain⟨W2,l2,r2,v2⟩:=(r1.push _).listAt (xs:=acc.toList) up (by rw[hg]) (ZtU (a:=a) (n:=(b-a).toNat) (by have:=its.1;simpa using this) fun j v hv=>its.2 j v (by simpa using hv)) (by simp[ZdH,LEN];omega)
   exact post W2 g tk _ (l1.trans l2) r2 v2
  ·cases hf
 ·cases hf
end
end PM
end
section
set_option autoImplicit false
namespace TM
open PySem PM
noncomputable def Zgr: List T→Option T
 | [.int a,.int b]=>if 0≤b-a∧b-a≤1000 then some (.lst (tab (b-a).toNat fun i=>.int (a+i)))else none
 | _=>none
theorem Zu8: OCn Zgq Zgr:=fun H vs ts t F hp r h=>by
 unfold Zgr at h
 split at h
 ·split at h
  ·rename_i a b hc
   cases h
   cases r with
   | cons r1 r2=>
   obtain⟨v,rfl,r'⟩:=r2.one_inv
   cases r1
   cases r'
   have e1:ZdH a (b-a).toNat=((List.range (b-a).toNat).map fun(i:Nat)=>a+(i:Int)).map V.int:=by rw[ZdH,List.map_map];rfl
   have e2:(tab (b-a).toNat fun i=>T.int (a+i))=((List.range (b-a).toNat).map fun(i:Nat)=>a+(i:Int)).map T.int:=by rw[tab,List.map_map];rfl
   refine⟨_,[ZdH a (b-a).toNat],_,by simp only[Zgq];rw[if_pos hc],by rw[e1,e2];exact ZdM (ZlN _),fun q m=>?_,fun _=>?_⟩
   ·rcases Zz7.mp m with rfl | m
    ·exact .inl (Zz10 _)
    ·cases m
   ·simp
  ·cases h
 ·cases h
section
variable {Q:T→Prop}
theorem ZtV{a b:Int}{n:Nat}(h:b=a+n)(hn:n≤1000)(q:Q (.lst (tab n fun i=>.int (a+i)))): Pk (Zgr [.int a,.int b]) Q:=by
 refine⟨_,?_,q⟩
 simp only[Zgr]
 rw[if_pos (by omega),show(b-a).toNat=n by omega]
end
end TM
end
section
set_option autoImplicit false
open PySem PySem.W PySem.Calls PyProof.Rows
namespace PM
section
variable {prog:Program} {w:World} {Γ:Cx}
theorem ZoA{e:Expr}{lo hi:Option Expr}{p pos:Pos}{f:Ex}{a b:Pt}(h:J prog w Γ e f)(hlo:JP prog w Γ lo a)(hhi:JP prog w Γ hi b)(hs:∀a c,subscripted (.Slice lo hi Option.none p) false (.ref a) (.ref c)=operate [.ref c,.ref a] (getItem (.ref a) (.ref c)):=by intros;with_unfolding_all rfl): J prog w Γ (.Subscript e (.Slice lo hi Option.none p) pos) (ZcE f a b):=by
 intro W ρ H fr s Q E v H' r hf post
 obtain⟨p,e1,hf⟩:=Zz0.mp hf
 obtain⟨q,e2,hf⟩:=Zz0.mp hf
 obtain⟨u,e3,hf⟩:=Zz0.mp hf
 obtain⟨ka,e4,hf⟩:=Zz0.mp hf
 obtain⟨kb,e5,hf⟩:=Zz0.mp hf
 refine Subscript_ (h W ρ H fr s _ E _ _ r e1 fun W1 k1 t1 x l1 r1 x1=>?_)
 refine wpAny_Slice (hlo W1 ρ _ fr _ _ E _ _ r1 e2 fun W2 k2 t2 y l2 r2 y2=>?_)
 refine hhi W2 ρ _ fr _ _ E _ _ r2 e3 fun W3 k3 t3 z l3 r3 z3=>?_
 have x3:=x1.mono (l2.trans l3)
 obtain⟨v1,H1⟩:=p
 simp only at hf x3
 cases x3 with
 | none=>cases hf
 | bool _=>cases hf
 | int _ _=>cases hf
 | str _ _=>cases hf
 | tup _ _ _=>cases hf
 | @ref i a ea=>
  obtain⟨vs,hvs,e6⟩:=Zz0.mp hf
  cases e6
  obtain⟨hl,xs,kk,hg,hv⟩:=r3.at hvs ea
  have isl:k3.IsList a xs.toArray:=⟨_,hg,rfl,kk,rfl⟩
  have hp:VRs W3 (Zbu vs ka kb) (Zbu xs ka kb):=by
   unfold Zbu
   rw[hv.length]
   exact hv.pick _
  have hx:slicePick xs.toArray ka kb Option.none=(Zbu xs ka kb).toArray:=by
   unfold slicePick Zbu
   simp
  obtain⟨W4,l4,r4,v4⟩:=(r3.push { cls:=.type "slice",data:=.fields #[y,z,.none] }).list (k:=0) hp (Nat.le_trans (Zoo vs ka kb) hl)
  have hQ:=post W4 _ t3 _ (((l1.trans l2).trans l3).trans l4) r4 v4
  rw[evalPart_none]
  refine wpAny_pure (kba_turn (value':=.Name (Str.ofString "_") ⟨0,0,0,0⟩) (fun _=>rfl) ?_)
  refine subscriptTail_ops (T:="list") ((isl.push _).typeIs) list_getitem_lookup ?_ (hs _ _) (fun _=>rfl)
  refine wpAny_getItem_list_slice (isl.push _) (Heap.IsSliceOf.new ..) ((y2.mono l3).part e4) (z3.part e5) .none (by simp) ?_ (ZcM (by simp[hv.length];exact hl))
  rw[hx]
  exact hQ
end
end PM
end
section
set_option autoImplicit false
namespace PM
open PySem PySem.W PySem.Calls PyProof.Rows PyProof PySem.Spec
noncomputable def Zid: Expr→Bool
 | .Starred _ _=>true
 | _=>false
theorem ZmV{e:Expr}{es:List Expr}{env:Env}(h:Zid e=false): starEach (e::es) env=(false,eval e env)::starEach es env:=by
 cases e <;> first | rfl | cases h
noncomputable def Zie: List Expr→Bool
 | []=>true
 | e::es=>!Zid e && Zie es
theorem Zqb{env:Env}: ∀{es:List Expr} (pos:Pos),Zie es=true→(backTo pos (starEach es env)).any (·.1)=false
 | [],pos,_=>by rfl
 | e::es,pos,h=>by
  simp only[Zie,Bool.and_eq_true,Bool.not_eq_true']at h
  have ih:=Zqb (env:=env) (es:=es) pos h.2
  rw[ZmV h.1]
  unfold backTo at ih ⊢
  simp only[List.map_cons,List.any_cons,Bool.false_or]
  exact ih
section
variable {prog:Program} {w:World} {Γ:Cx}
theorem jc{e:Expr}{es:List Expr}{f:Ex}{g:Exs}(h1:J prog w Γ e f)(h2:Js prog w Γ es g)(hs:Zid e=false:=by exact rfl): Js prog w Γ (e::es) (Zf f g):=Zuk h1 h2 (ZmV hs)
end
section
variable {prog:Program} {w:World} {K:Frag} {p:Program} {loose:List Str} {mean:ExcName→Option Value} {mg mb:Str→Option Value}
theorem ZtW{f:Addr}{room:Nat}: Def prog w K p loose mean mg mb f room (fun _ _=>none):=by
 intro Γ dp un clr hd hu W ρ H fr s Q E as xs v H' r hx hF post
 cases hF
end
end PM
end
section
set_option autoImplicit false
namespace PM
open PySem PySem.W PySem.Calls PyProof.Rows PyProof PySem.Spec
section
variable {prog:Program} {w:World} {Γ:Cx}
theorem ln1{α:Type _}: ∀{xs:List α},xs.length=1→∃x0,xs=[x0]
 | [x0],_=>⟨x0,rfl⟩
theorem ln2{α:Type _}: ∀{xs:List α},xs.length=2→∃x0 x1,xs=[x0,x1]
 | [x0,x1],_=>⟨x0,x1,rfl⟩
theorem ln3{α:Type _}: ∀{xs:List α},xs.length=3→∃x0 x1 x2,xs=[x0,x1,x2]
 | [x0,x1,x2],_=>⟨x0,x1,x2,rfl⟩
theorem ln4{α:Type _}: ∀{xs:List α},xs.length=4→∃x0 x1 x2 x3,xs=[x0,x1,x2,x3]
 | [x0,x1,x2,x3],_=>⟨x0,x1,x2,x3,rfl⟩
theorem ln5{α:Type _}: ∀{xs:List α},xs.length=5→∃x0 x1 x2 x3 x4,xs=[x0,x1,x2,x3,x4]
 | [x0,x1,x2,x3,x4],_=>⟨x0,x1,x2,x3,x4,rfl⟩
theorem ln6{α:Type _}: ∀{xs:List α},xs.length=6→∃x0 x1 x2 x3 x4 x5,xs=[x0,x1,x2,x3,x4,x5]
 | [x0,x1,x2,x3,x4,x5],_=>⟨x0,x1,x2,x3,x4,x5,rfl⟩
theorem ln7{α:Type _}: ∀{xs:List α},xs.length=7→∃x0 x1 x2 x3 x4 x5 x6,xs=[x0,x1,x2,x3,x4,x5,x6]
 | [x0,x1,x2,x3,x4,x5,x6],_=>⟨x0,x1,x2,x3,x4,x5,x6,rfl⟩
theorem jI{k:Int}{n:Nat}{pos:Pos}: J prog w Γ (.Constant (.int k) n pos) (Zm k):=J.int _ _ _
theorem jN{n:Nat}{pos:Pos}: J prog w Γ (.Constant .none n pos) Z9:=J.none _ _
theorem jB{b:Bool}{n:Nat}{pos:Pos}: J prog w Γ (.Constant (.bool b) n pos) (Za4 b):=J.bool _ _ _
theorem cO{elt iter:Expr}{x:Str}{px:Pos}{ifs:List Expr}{scope:Scope}{pos:Pos}{cl:List (Str×Addr)}{t:Nat}{g:Src}{c:Ts}{f:Ex}(hg:JI prog w Γ iter g)(hel:∀C ρ,J prog w (Za9 Γ scope cl C [(x,t)] ρ) elt f)(hif:∀C ρ,JF prog w (Za9 Γ scope cl C [(x,t)] ρ) ifs c)
  (hclos:closureFor scope Γ.env=pure cl:=by with_unfolding_all rfl) (hcell:∀y∈scope.names,y.2≠.cell:=by decide) (hkind:scope.kind=.function:=by exact rfl) (hnames:∀y∈scope.names,y.2=.local→scope.names.lookup y.1=some .local:=by decide) (hx:scope.names.lookup x=some .local:=by exact rfl) (hs:∀x,foldedSetIterable iter Γ.env x=pure x:=by intro _;rfl):
  J prog w Γ (.ListComp elt [⟨.Name x px,iter,ifs,0⟩] scope pos) (ZaH g (Zas t) c f):=ZvF hg hel hif hclos hcell hkind hnames hx hs
theorem cT{elt iter:Expr}{x x₂:Str}{px px₂ tp:Pos}{kt:Nat}{scope:Scope}{pos:Pos}{cl:List (Str×Addr)}{t t₂:Nat}{g:Src}{f:Ex}(hg:JI2 prog w Γ iter g)(hel:∀C ρ,J prog w (Za9 Γ scope cl C [(x,t),(x₂,t₂)] ρ) elt f)
  (hclos:closureFor scope Γ.env=pure cl:=by with_unfolding_all rfl) (hcell:∀y∈scope.names,y.2≠.cell:=by decide) (hkind:scope.kind=.function:=by exact rfl) (hnames:∀y∈scope.names,y.2=.local→scope.names.lookup y.1=some .local:=by decide) (hx:scope.names.lookup x=some .local:=by exact rfl) (hx₂:scope.names.lookup x₂=some .local:=by exact rfl) (hxx:x≠x₂:=by decide) (htt:t≠t₂:=by decide) (hs:∀x,foldedSetIterable iter Γ.env x=pure x:=by intro _;rfl):
  J prog w Γ (.ListComp elt [⟨.Tuple [.Name x px,.Name x₂ px₂] kt tp,iter,[],0⟩] scope pos) (ZaH g (Zb3 t t₂) Zaw f):=Zup hg hel hclos hcell hkind hnames hx hx₂ hxx htt hs
theorem sO{elt iter:Expr}{x y:Str}{px py pos spos:Pos}{ifs:List Expr}{scope:Scope}{cl:List (Str×Addr)}{t i:Nat}{g:Src}{c:Ts}{f:Ex}(hy:Sto prog w Γ y i)(hg:JI prog w Γ iter g)(hel:∀C ρ,J prog w (Za9 Γ scope cl C [(x,t)] ρ) elt f)(hif:∀C ρ,JF prog w (Za9 Γ scope cl C [(x,t)] ρ) ifs c)
  (hsw:swapsWith (.ListComp elt [⟨.Name x px,iter,ifs,0⟩] scope pos) (some (.Name y py)) spos.line Γ.env=pure true:=by rfl)
  (hclos:closureFor scope Γ.env=pure cl:=by with_unfolding_all rfl) (hcell:∀y∈scope.names,y.2≠.cell:=by decide) (hkind:scope.kind=.function:=by exact rfl) (hnames:∀y∈scope.names,y.2=.local→scope.names.lookup y.1=some .local:=by decide) (hx:scope.names.lookup x=some .local:=by exact rfl) (hs:∀x,foldedSetIterable iter Γ.env x=pure x:=by intro _;rfl):
  S1 prog w Γ (.Assign [.Name y py] (.ListComp elt [⟨.Name x px,iter,ifs,0⟩] scope pos) spos) (ZU i (ZaH g (Zas t) c f)):=ZrZ hy hg hel hif hsw hclos hcell hkind hnames hx hs
theorem sT{elt iter:Expr}{x x₂ y:Str}{px px₂ tp py pos spos:Pos}{kt:Nat}{scope:Scope}{cl:List (Str×Addr)}{t t₂ i:Nat}{g:Src}{f:Ex}(hy:Sto prog w Γ y i)(hg:JI2 prog w Γ iter g)(hel:∀C ρ,J prog w (Za9 Γ scope cl C [(x,t),(x₂,t₂)] ρ) elt f)
  (hsw:swapsWith (.ListComp elt [⟨.Tuple [.Name x px,.Name x₂ px₂] kt tp,iter,[],0⟩] scope pos) (some (.Name y py)) spos.line Γ.env=pure true:=by rfl)
  (hclos:closureFor scope Γ.env=pure cl:=by with_unfolding_all rfl) (hcell:∀y∈scope.names,y.2≠.cell:=by decide) (hkind:scope.kind=.function:=by exact rfl) (hnames:∀y∈scope.names,y.2=.local→scope.names.lookup y.1=some .local:=by decide) (hx:scope.names.lookup x=some .local:=by exact rfl) (hx₂:scope.names.lookup x₂=some .local:=by exact rfl) (hxx:x≠x₂:=by decide) (htt:t≠t₂:=by decide) (hs:∀x,foldedSetIterable iter Γ.env x=pure x:=by intro _;rfl):
  S1 prog w Γ (.Assign [.Name y py] (.ListComp elt [⟨.Tuple [.Name x px,.Name x₂ px₂] kt tp,iter,[],0⟩] scope pos) spos) (ZU i (ZaH g (Zb3 t t₂) Zaw f)):=Zry hy hg hel hsw hclos hcell hkind hnames hx hx₂ hxx htt hs
end
section
variable {prog:Program} {w:World} {dp un:Nat} {gd:Option (List Code)} {cn:Str} {cs:Scope} {L a:Addr} {ccd:Value} {cl:List (Str×Addr)} {outer:List Env} {h₀:Heap} {hu:un+200<cLine} {names:List Str}
theorem vL{x:Str}{i:Nat}{pos:Pos}(hi:names[i]?=some x:=by rfl)(hx:cs.names.lookup x=some .local:=by exact rfl)(hk:cs.kind=.function:=by exact rfl)(hd:(x == ("__debug__":Str))=false:=by exact rfl): J prog w (ZbF dp un gd cn cs L a ccd cl outer h₀ hu names) (.Name x pos) (Zb i):=Zil (ZvD hi hx hk hd)
theorem vC{x:Str}{i:Nat}{pos:Pos}(hi:names[i]?=some x:=by rfl)(hx:cs.names.lookup x=some .cell:=by exact rfl)(hk:cs.kind=.function:=by exact rfl)(hd:(x == ("__debug__":Str))=false:=by exact rfl): J prog w (ZbF dp un gd cn cs L a ccd cl outer h₀ hu names) (.Name x pos) (Zb i):=Zil (ZvE hi hx hk hd)
theorem sL{x:Str}{i:Nat}(nd:names.Nodup:=by decide)(hi:names[i]?=some x:=by rfl)(hx:cs.names.lookup x=some .local:=by exact rfl)(hk:cs.kind=.function:=by exact rfl): Sto prog w (ZbF dp un gd cn cs L a ccd cl outer h₀ hu names) x i:=Zum nd hi hx hk
theorem sC{x:Str}{i:Nat}(nd:names.Nodup:=by decide)(hi:names[i]?=some x:=by rfl)(hx:cs.names.lookup x=some .cell:=by exact rfl)(hk:cs.kind=.function:=by exact rfl)(hcl:(cl.lookup x).isSome=true:=by exact rfl): Sto prog w (ZbF dp un gd cn cs L a ccd cl outer h₀ hu names) x i:=Zun nd hi hx hk hcl
end
section
variable {prog:Program} {w:World} {K:Frag} {p:Program} {loose:List Str} {mean:ExcName→Option Value} {mg mb:Str→Option Value} {Γ:Cx} {dp un:Nat}
theorem nB{x:Str}{v:Value}(clr:Clr K p loose mean mg mb Γ dp un)(e:nsIn K mainGlobals x=some Option.none:=by k_is)(hv:bootBuiltins x=some v:=by boot_by_name)(hn:x≠"__name__":=by decide)(hg:Γ.env.globals=mainGlobals:=by exact rfl)(hb:Γ.env.builtins=builtinsNs:=by exact rfl)(hk:Γ.env.scope.kind=.function:=by exact rfl)(hx:Γ.env.kindOf x=some .globalImplicit:=by exact rfl)(hd:(x == ("__debug__":Str))=false:=by exact rfl): Nm prog w Γ x v:=Ztw clr e hv hn hg hb hk hx hd
theorem cF{x:Str}{np pos:Pos}{f:Addr}{room:Nat}{e:Expr}{es:List Expr}{g:Exs}{o:List V→Hp→Option (V×Hp)}(clr:Clr K p loose mean mg mb Γ dp un)(D:Def prog w K p loose mean mg mb f room o)(h:Js prog w Γ (e::es) g)
  (en:nsIn K mainGlobals x=some (some (.ref f)):=by k_is) (hg:Γ.env.globals=mainGlobals:=by exact rfl) (hk:Γ.env.scope.kind=.function:=by exact rfl) (hx:Γ.env.kindOf x=some .globalImplicit:=by exact rfl) (hd0:(x == ("__debug__":Str))=false:=by exact rfl)
  (hkeep:keepIn K (.ref f)=true:=by k_is) (hd:dp+room<recursionLimit:=by omega) (hu:un+10*room+300<cLine:=by omega)
  (he:Zid e=false:=by exact rfl) (hp:Zie es=true:=by exact rfl):J prog w Γ (.Call (.Name x np) (e::es) [] pos) (Zu o g):=Zuq clr (ZvJ clr en hg hk hx hd0) hkeep D hd hu h (ZmV he) (fun pos=>Zqb pos hp)
theorem Dof{name qual:Str}{params:Arguments}{body:List Stmt}{scope:Scope}{dV kV doc pm cdv ct oc:Value}{an od:Option Addr}{osl:Array (Option Value)}{f:Addr}{names:List Str}{n room:Nat}{g:Sm}
  (hbody:∀(dp un:Nat) (gd:Option (List Code)) (L:Addr) (outer:List Env) (h₀:Heap) (hu:un+200<cLine),Clr K p loose mean mg mb (ZbF dp un gd qual scope L f cdv (cellsFrom (L+1) scope.names []) outer h₀ hu names) dp un→dp+room<recursionLimit→un+10*room+300<cLine →
   Ss prog w (ZbF dp un gd qual scope L f cdv (cellsFrom (L+1) scope.names []) outer h₀ hu names) body g)
  (ho:K.lookup f=some ⟨oc,od,.func (fnOf name qual params body scope dV kV doc pm an cdv ct),osl⟩:=by k_is) (hcd:codeIn K cdv qual=true:=by k_is) (nd:names.Nodup:=by decide) (hn:n≤names.length:=by decide)
  (hbind:∀s xs,xs.length=n→BindsTo s (fnOf name qual params body scope dV kV doc pm an cdv ct) ⟨xs,[]⟩ ((names.take n).zip xs):=by
   intro s xs hx
   first
   | (obtain⟨x0,rfl⟩:=ln1 hx;exact BindsTo.of_eq rfl)
   | (obtain⟨x0,x1,rfl⟩:=ln2 hx;exact BindsTo.of_eq rfl)
   | (obtain⟨x0,x1,x2,rfl⟩:=ln3 hx;exact BindsTo.of_eq rfl)
   | (obtain⟨x0,x1,x2,x3,rfl⟩:=ln4 hx;exact BindsTo.of_eq rfl)
   | (obtain⟨x0,x1,x2,x3,x4,rfl⟩:=ln5 hx;exact BindsTo.of_eq rfl)
   | (obtain⟨x0,x1,x2,x3,x4,x5,rfl⟩:=ln6 hx;exact BindsTo.of_eq rfl)
   | (obtain⟨x0,x1,x2,x3,x4,x5,x6,rfl⟩:=ln7 hx;exact BindsTo.of_eq rfl)) (hkinds:∀x∈names.take n,scope.names.lookup x=some .local∨scope.names.lookup x=some .cell:=by decide) (hone:((cellsFrom 0 scope.names []).map (·.1)).Nodup:=by decide +kernel)
  (hco:scope.isCoroutine=false:=by exact rfl) (hgen:scope.isGenerator=false:=by exact rfl) (hk:scope.kind=.function:=by exact rfl):
  Def prog w K p loose mean mg mb f (room+1) (Z3 n g):=ZpK ho hcd nd hn hbind hkinds hone hco hgen hk hbody
end
section
variable {prog:Program} {w:World} {Γ:Cx} {scope:Scope} {cl:List (Str×Addr)} {C:Addr} {ts:List (Str×Nat)} {ρ0:Lc}
theorem vO{x:Str}{t:Nat}{pos:Pos}(hm:(x,t)∈ts:=by first | exact Zz5 | exact Zz2 _ Zz5)(hk:scope.kind=.function:=by exact rfl)(hl:(compEnvC scope cl C Γ.env).kindOf x=some .local:=by exact rfl)(hd:(x == ("__debug__":Str))=false:=by exact rfl): J prog w (Za9 Γ scope cl C ts ρ0) (.Name x pos) (Zb t):=Zil (Zus hm hk hl hd)
end
section
variable {prog:Program} {w:World} {dp un:Nat} {gd:Option (List Code)} {cn:Str} {cs:Scope} {L a:Addr} {ccd:Value} {clf:List (Str×Addr)} {outer:List Env} {h₀:Heap} {hu:un+200<cLine} {names:List Str} {scope:Scope} {cl:List (Str×Addr)} {C:Addr} {ts:List (Str×Nat)} {ρ0:Lc}
theorem vD{x:Str}{i:Nat}{pos:Pos}(hi:names[i]?=some x:=by rfl)(hx:cs.names.lookup x=some .cell:=by exact rfl)(hne:∀p∈ts,p.2≠i:=by decide)(hcl:cl.lookup x=clf.lookup x:=by exact rfl)(hk:scope.kind=.function:=by exact rfl)(hl:(compEnvC scope cl C (envX cn cs L a ccd clf)).kindOf x=some .cell:=by exact rfl)(hd:(x == ("__debug__":Str))=false:=by exact rfl):
  J prog w (Za9 (ZbF dp un gd cn cs L a ccd clf outer h₀ hu names) scope cl C ts ρ0) (.Name x pos) (Zb i):=Zil (Zut hi hx hne hcl hk hl hd)
end
end PM
end
section
open PySem PM TM
namespace L
variable {H:Hp} {a:V} {t:T} {F:List Nat} {ρ:Lc} {σ:TL}
noncomputable def ZjJ: Sm:=Zv (ZU 2 (Zh Zab (Zh Za7 (Zh Za7 (Zb 1) (Zb 1)) (Zm 7919)) (Zm 11))) (Zv (Z1 (ZM (Zh oGt (Zu ZaS (Zf (Zb 0) Zo)) (Zm 0))) (ZU 2 (Zh Zab (Zb 2) (Zh Zt (Zb 0) (Zh oMod (Zb 1) (Zu ZaS (Zf (Zb 0) Zo)))))) Z8) (ZH (Zb 2)))
noncomputable def Zg4:=Z3 2 ZjJ
noncomputable def ZjK: PS:=(Zp (ZF 2 (Zc ZV (Zc ZaC (Zc ZaC (Za 1) (Za 1)) (Zg 7919)) (Zg 11))) (Zp (ZO (Zx (Zc qGt (Zs Zat (Ze (Za 0) Zk)) (Zg 0))) (ZF 2 (Zc ZV (Za 2) (Zc Zl (Za 0) (Zc Za0 (Za 1) (Zs Zat (Ze (Za 0) Zk)))))) ZR) (Zw (Za 2))))
noncomputable def Zfx:=Z0 2 ZjK
theorem Znu: SimF false Zg4 Zfx:=Zaj (show S [] [] [] false ZjJ ZjK from(ZD (Zaa (O':=[]) (Z6 Zal (Z6 Zbv (Z6 Zbv (Zd 1) (Zd 1)) (Zn _)) (Zn _))) (ZD (Zah (ZT (ZG Zfk (ZaO Za8 (Zj (Zd 0) Zq)) (Zn _))) (Zaa (O':=[]) (Z6 Zal (Zd 2) (Zz Zy (Zd 0) (ZG Zbm (Zd 1) (ZaO Za8 (Zj (Zd 0) Zq)))))) Zag) (ZW (Zd 2)))))
noncomputable def Zko: Sm:=ZH (Zh oMod (Zh oMod (Zh Za7 (Zu Zg4 (Zf (Zb 0) (Zf (Zb 1) Zo))) (Zm 48271)) (Zm 2147483647)) (Zb 2))
noncomputable def Zcl:=Z3 3 Zko
noncomputable def Zkp: PS:=(Zw (Zc Za0 (Zc Za0 (Zc ZaC (Zs Zfx (Ze (Za 0) (Ze (Za 1) Zk))) (Zg 48271)) (Zg 2147483647)) (Za 2)))
noncomputable def ZbV:=Z0 3 Zkp
theorem ZcB: SimF false Zcl ZbV:=Zaj (show S [] [] [] false Zko Zkp from(ZW (ZG Zbm (ZG Zbm (Z6 Zbv (ZP Znu (Zj (Zd 0) (Zj (Zd 1) Zq))) (Zn _)) (Zn _)) (Zd 2))))
noncomputable def Zjr: Sm:=Zv (ZU 2 (Zu Zg4 (Zf (Zb 0) (Zf (Zb 1) Zo)))) (Zv (ZU 3 (Zh Zt (Zbh (Zf (Zm 3) (Zf (Zm 9) (Zf (Zh oPow (Zm 10) (Zm 9)) (Zf (Zh oPow (Zm 10) (Zm 40)) Zo))))) (Zh oMod (Zh oMod (Zh Za7 (Zb 2) (Zm 69621)) (Zm 2147483629)) (Zm 4)))) (ZH (Zh Zbo (Zh oMod (Zh Za7 (Zb 2) (Zh oPow (Zm 48271) (Zm 9))) (Zh Zab (Zh Za7 (Zm 2) (Zb 3)) (Zm 1))) (Zb 3))))
noncomputable def Zea:=Z3 2 Zjr
noncomputable def Zjs: PS:=(Zp (ZF 2 (Zs Zfx (Ze (Za 0) (Ze (Za 1) Zk)))) (Zp (ZF 3 (Zc Zl (ZaQ (Ze (Zg 3) (Ze (Zg 9) (Ze (Zc Zdh (Zg 10) (Zg 9)) (Ze (Zc Zdh (Zg 10) (Zg 40)) Zk))))) (Zc Za0 (Zc Za0 (Zc ZaC (Za 2) (Zg 69621)) (Zg 2147483629)) (Zg 4)))) (Zw (Zc ZaM (Zc Za0 (Zc ZaC (Za 2) (Zc Zdh (Zg 48271) (Zg 9))) (Zc ZV (Zc ZaC (Zg 2) (Za 3)) (Zg 1))) (Za 3)))))
noncomputable def ZdQ:=Z0 2 Zjs
theorem Zfs: SimF false Zea ZdQ:=Zaj (show S [] [] [] false Zjr Zjs from(ZD (Zaa (O':=[]) (ZP Znu (Zj (Zd 0) (Zj (Zd 1) Zq)))) (ZD (Zaa (O':=[]) (Zz Zy (E.list (Zj (Zn _) (Zj (Zn _) (Zj (ZG ZmR (Zn _) (Zn _)) (Zj (ZG ZmR (Zn _) (Zn _)) Zq))))) (ZG Zbm (ZG Zbm (Z6 Zbv (Zd 2) (Zn _)) (Zn _)) (Zn _)))) (ZW (ZG ZbB (ZG Zbm (Z6 Zbv (Zd 2) (ZG ZmR (Zn _) (Zn _))) (Z6 Zal (Z6 Zbv (Zn _) (Zd 3)) (Zn _))) (Zd 3))))))
noncomputable def ZjL: Sm:=Zv (ZU 2 (Zu Zcl (Zf (Zb 0) (Zf (Zb 1) (Zf (Zm 42) Zo))))) (Zv (Z1 (ZM (Zh oLt (Zh oMod (Zb 2) (Zm 6)) (Zm 2))) (ZH (Z9)) Z8) (Zv (Z1 (ZM (Zh oLt (Zh oMod (Zb 2) (Zm 6)) (Zm 4))) (ZH (Zm 0)) Z8) (Zv (Z1 (ZM (Zh oEq (Zh oMod (Zb 2) (Zm 6)) (Zm 4))) (ZH (Zh oDiv (Zb 2) (Zm 6))) Z8) (ZH (Zu Zd5 (Zf (Zu Zea (Zf (Zb 0) (Zf (Zb 1) Zo))) Zo))))))
noncomputable def ZjM:=Z3 2 ZjL
noncomputable def ZjN: PS:=(Zp (ZF 2 (Zs ZbV (Ze (Za 0) (Ze (Za 1) (Ze (Zg 42) Zk))))) (Zp (ZO (Zx (Zc qLt (Zc Za0 (Za 2) (Zg 6)) (Zg 2))) (Zw (ZN)) ZR) (Zp (ZO (Zx (Zc qLt (Zc Za0 (Za 2) (Zg 6)) (Zg 4))) (Zw (Zg 0)) ZR) (Zp (ZO (Zx (Zc qEq (Zc Za0 (Za 2) (Zg 6)) (Zg 4))) (Zw (Zc ZcH (Za 2) (Zg 6))) ZR) (Zw (Zs Zdu (Ze (Zs ZdQ (Ze (Za 0) (Ze (Za 1) Zk))) Zk)))))))
noncomputable def Zg5:=Z0 2 ZjN
theorem ZrB: SimF false ZjM Zg5:=Zaj (show S [] [] [] false ZjL ZjN from(ZD (Zaa (O':=[]) (ZP ZcB (Zj (Zd 0) (Zj (Zd 1) (Zj (Zn _) Zq))))) (ZD (Zah (ZT (ZG Zd6 (ZG Zbm (Zd 2) (Zn _)) (Zn _))) (ZW (Zap)) Zag) (ZD (Zah (ZT (ZG Zd6 (ZG Zbm (Zd 2) (Zn _)) (Zn _))) (ZW (Zn _)) Zag) (ZD (Zah (ZT (ZG ZaV (ZG Zbm (Zd 2) (Zn _)) (Zn _))) (ZW (ZG Zfe (Zd 2) (Zn _))) Zag) (ZW (ZaO Zgy (Zj (ZP Zfs (Zj (Zd 0) (Zj (Zd 1) Zq))) Zq))))))))
noncomputable def Zi7: Sm:=Zv (Z1 (ZM (Zh oEq (Zb 0) (Zm 0))) (ZH (ZaG (Zf (Zm 0) (Zf (Zb 1) Zo)))) Z8) (ZH (ZaG (Zf (Zb 0) (Zf (Zh oMod (Zb 1) (Zb 0)) Zo))))
noncomputable def ZgV:=Z3 2 Zi7
noncomputable def Zi8: PS:=(Zp (ZO (Zx (Zc qEq (Za 0) (Zg 0))) (Zw (ZaD (Ze (Zg 0) (Ze (Za 1) Zk)))) ZR) (Zw (ZaD (Ze (Za 0) (Ze (Zc Za0 (Za 1) (Za 0)) Zk)))))
noncomputable def ZdO:=Z0 2 Zi8
theorem Znf: SimF false ZgV ZdO:=Zaj (show S [] [] [] false Zi7 Zi8 from(ZD (Zah (ZT (ZG ZaV (Zd 0) (Zn _))) (ZW (E.tup (Zj (Zn _) (Zj (Zd 1) Zq)))) Zag) (ZW (E.tup (Zj (Zd 0) (Zj (ZG Zbm (Zd 1) (Zd 0)) Zq))))))
noncomputable def Zkq: Sm:=Zv (ZU 3 (Zu Zcl (Zf (Zb 0) (Zf (Zb 1) (Zf (Zm 60) Zo))))) (Zv (Z1 (ZM (Zh oLt (Zh oMod (Zb 3) (Zm 5)) (Zm 2))) (ZH (ZaG (Zf (Zm 1) (Zf (Zm 0) Zo)))) Z8) (Zv (Z1 (ZM (Zh oEq (Zh oMod (Zb 3) (Zm 5)) (Zm 2))) (ZH (ZaG (Zf (Zm 0) (Zf (Zb 2) Zo)))) Z8) (Zv (Z1 (ZM (Zh oEq (Zh oMod (Zb 3) (Zm 5)) (Zm 3))) (ZH (Zu ZgV (Zf (Zh Zab (Zh oDiv (Zb 3) (Zm 5)) (Zm 1)) (Zf (Zb 2) Zo)))) Z8) (ZH (Zu ZgV (Zf (Zu Zd5 (Zf (Zu Zea (Zf (Zb 0) (Zf (Zb 1) Zo))) Zo)) (Zf (Zb 2) Zo)))))))
noncomputable def Zkr:=Z3 3 Zkq
noncomputable def Zks: PS:=(Zp (ZF 3 (Zs ZbV (Ze (Za 0) (Ze (Za 1) (Ze (Zg 60) Zk))))) (Zp (ZO (Zx (Zc qLt (Zc Za0 (Za 3) (Zg 5)) (Zg 2))) (Zw (ZaD (Ze (Zg 1) (Ze (Zg 0) Zk)))) ZR) (Zp (ZO (Zx (Zc qEq (Zc Za0 (Za 3) (Zg 5)) (Zg 2))) (Zw (ZaD (Ze (Zg 0) (Ze (Za 2) Zk)))) ZR) (Zp (ZO (Zx (Zc qEq (Zc Za0 (Za 3) (Zg 5)) (Zg 3))) (Zw (Zs ZdO (Ze (Zc ZV (Zc ZcH (Za 3) (Zg 5)) (Zg 1)) (Ze (Za 2) Zk)))) ZR) (Zw (Zs ZdO (Ze (Zs Zdu (Ze (Zs ZdQ (Ze (Za 0) (Ze (Za 1) Zk))) Zk)) (Ze (Za 2) Zk))))))))
noncomputable def Zhc:=Z0 3 Zks
theorem Zr4: SimF false Zkr Zhc:=Zaj (show S [] [] [] false Zkq Zks from(ZD (Zaa (O':=[]) (ZP ZcB (Zj (Zd 0) (Zj (Zd 1) (Zj (Zn _) Zq))))) (ZD (Zah (ZT (ZG Zd6 (ZG Zbm (Zd 3) (Zn _)) (Zn _))) (ZW (E.tup (Zj (Zn _) (Zj (Zn _) Zq)))) Zag) (ZD (Zah (ZT (ZG ZaV (ZG Zbm (Zd 3) (Zn _)) (Zn _))) (ZW (E.tup (Zj (Zn _) (Zj (Zd 2) Zq)))) Zag) (ZD (Zah (ZT (ZG ZaV (ZG Zbm (Zd 3) (Zn _)) (Zn _))) (ZW (ZP Znf (Zj (Z6 Zal (ZG Zfe (Zd 3) (Zn _)) (Zn _)) (Zj (Zd 2) Zq)))) Zag) (ZW (ZP Znf (Zj (ZaO Zgy (Zj (ZP Zfs (Zj (Zd 0) (Zj (Zd 1) Zq))) Zq)) (Zj (Zd 2) Zq)))))))))
noncomputable def Zkt: Sm:=Zv (ZU 3 (Zh Zab (Zbh (Zf (Zm 0) Zo)) (Zb 2))) (Zv (ZU 4 (Zu ZaS (Zf (Zb 3) Zo))) (Zv (ZU 5 (Zbh Zo)) (Zv (ZaZ (ZaT (Zf (Zb 4) Zo)) (Zas 6) (Zv (ZU 7 (Zbh Zo)) (Zv (ZaZ (ZaT (Zf (Zb 4) Zo)) (Zas 8) (Zv (ZU 9 (Zu ZjM (Zf (Zb 0) (Zf (Zh Zab (Zh Zab (Zb 1) (Zh Za7 (Zb 6) (Zb 4))) (Zb 8)) Zo)))) (Zv (Z1 (ZM (Zh Zdn (Zb 9) (Z9))) (ZU 9 (Zh Zab (Zh Zbo (Zh Zt (Zb 3) (Zb 6)) (Zh Zt (Zb 3) (Zb 8))) (Zb 9))) Z8) (Zcz (Zeg (Zb 7) (Zb 9)))))) (Zv (ZcZ (Zm 0) (Zb 7) (Zb 6)) (Zcz (Zeg (Zb 5) (Zb 7))))))) (ZH (ZaG (Zf (Zb 5) (Zf (ZaH (ZaT (Zf (Zh Zbo (Zb 4) (Zm 1)) Zo)) (Zas 100) Zaw (Zu Zkr (Zf (Zb 0) (Zf (Zh Zab (Zh Zab (Zb 1) (Zh Za7 (Zb 4) (Zb 4))) (Zb 100)) (Zf (Zh Zt (Zb 2) (Zb 100)) Zo))))) Zo)))))))
noncomputable def Zhd:=Z3 3 Zkt
noncomputable def Zku: PS:=(Zp (ZF 3 (Zc ZV (ZaQ (Ze (Zg 0) Zk)) (Za 2))) (Zp (ZF 4 (Zs Zat (Ze (Za 3) Zk))) (Zp (ZF 5 (ZaQ Zk)) (Zp (ZaA (Zav (Ze (Za 4) Zk)) (ZX 6) (Zp (ZF 7 (ZaQ Zk)) (Zp (ZaA (Zav (Ze (Za 4) Zk)) (ZX 8) (Zp (ZF 9 (Zs Zg5 (Ze (Za 0) (Ze (Zc ZV (Zc ZV (Za 1) (Zc ZaC (Za 6) (Za 4))) (Za 8)) Zk)))) (Zp (ZO (Zx (Zc Zb5 (Za 9) (ZN))) (ZF 9 (Zc ZV (Zc ZaM (Zc Zl (Za 3) (Za 6)) (Zc Zl (Za 3) (Za 8))) (Za 9))) ZR) (Zdv 7 [] Za1 (Zb1 (Za 9)))))) (Zp (ZbR 7 [] (Zg 0) Za1 (Za 6)) (Zdv 5 [7] Za1 (Za 7)))))) (Zw (ZaD (Ze (Za 5) (Ze (Zai (Zav (Ze (Zc ZaM (Za 4) (Zg 1)) Zk)) (ZX 100) Z4 (Zb1 (Zs Zhc (Ze (Za 0) (Ze (Zc ZV (Zc ZV (Za 1) (Zc ZaC (Za 4) (Za 4))) (Za 100)) (Ze (Zc Zl (Za 2) (Za 100)) Zk)))))) Zk))))))))
noncomputable def ZfF:=Z0 3 Zku
theorem ZnE: SimF true Zhd ZfF:=Zaj (show S [] [5] [] true Zkt Zku from(ZD (Zaa (O':=[]) (Z6 Zal (E.list (Zj (Zn _) Zq)) (Zd 2))) (ZD (Zaa (O':=[]) (ZaO Za8 (Zj (Zd 3) Zq))) (ZD (Zda (O':=[5]) (E.list Zq)) (ZD (ZbC (Gs.range (Zj (Zd 4) Zq)) PutOk.one (by decide) (by decide) (ZD (Zda (O':=[5,7]) (Zcf (O':=[]) (E.list Zq))) (ZD (ZbC (Gs.range (Zj (Zd 4) Zq)) PutOk.one (by decide) (by decide) (ZD (Zaa (O':=[5,7]) (ZP ZrB (Zj (Zd 0) (Zj (Z6 Zal (Z6 Zal (Zd 1) (Z6 Zbv (Zd 6) (Zd 4))) (Zd 8)) Zq)))) (ZD (Zah (ZT (ZG ZdV (Zd 9) (Zap))) (Zaa (O':=[5,7]) (Z6 Zal (ZG ZbB (Zz Zy (Zd 3) (Zd 6)) (Zz Zy (Zd 3) (Zd 8))) (Zd 9))) Zag) (Zim (O':=[5,7]) (by decide) ZcT (Zcf (O':=[5]) (E.flat (Zd 9))) (by decide) (by decide))))) (ZD (S.put (O':=[5,7]) (by decide) (Zcf (O':=[5]) (Zn _)) ZcT (Zd 6) (by decide) (by decide)) (Zim (O':=[5]) (by decide) ZcT (Zcf (O':=[7]) (E.own (by decide))) (by decide) (by decide)))))) (Zbs (E.tup (Zed (E.own (by decide)) (Zed (Zdk (Gs.range (Zj (ZG ZbB (Zd 4) (Zn _)) Zq)) PutOk.one (by decide) ZaL (Zcf (O':=[]) (E.flat (ZP Zr4 (Zj (Zd 0) (Zj (Z6 Zal (Z6 Zal (Zd 1) (Z6 Zbv (Zd 4) (Zd 4))) (Zd 100)) (Zj (Zz Zy (Zd 2) (Zd 100)) Zq))))))) Zq (by decide) (by decide)) (by decide) (by decide)))))))))
noncomputable def Zkv: Sm:=Zv (Z1 (ZM (Zh oIs (Zb 0) (Z9))) (ZH (Z9)) Z8) (ZH (ZaG (Zf (ZaH (ZbQ (Zh Zt (Zb 0) (Zm 0))) (Zas 100) Zaw (Zu ZdE (Zf (Zb 100) Zo))) (Zf (Zu ZdE (Zf (Zh Zt (Zb 0) (Zm 1)) Zo)) Zo))))
noncomputable def Zhe:=Z3 1 Zkv
noncomputable def Zkw: PS:=(Zp (ZO (Zx (Zc qIs (Za 0) (ZN))) (Zw (ZN)) ZR) (Zw (ZaD (Ze (Zai (Zaz (Zc Zl (Za 0) (Zg 0))) (ZX 100) Z4 (Zs Zcx (Ze (Za 100) Zk))) (Ze (Zs Zcx (Ze (Zc Zl (Za 0) (Zg 1)) Zk)) Zk)))))
noncomputable def Zdz:=Z0 1 Zkw
theorem ZnF: SimF false Zhe Zdz:=Zaj (show S [] [] [] false Zkv Zkw from(ZD (Zah (ZT (ZG Zb4 (Zd 0) (Zap))) (ZW (Zap)) Zag) (ZW (E.tup (Zj (ZbZ (Gs.seq (Zz Zy (Zd 0) (Zn _))) PutOk.one (by decide) ZaL (Zf7 ZhT (Zj (Zd 100) Zq))) (Zj (Zf7 ZhT (Zj (Zz Zy (Zd 0) (Zn _)) Zq)) Zq))))))
noncomputable def ZjO: Sm:=ZH (eOr (Zh oIs (Zb 1) (Z9)) (ZdJ (Zh Zdn (Zb 0) (Z9)) (Zh oLe (Zb 0) (Zb 1))))
noncomputable def ZjP:=Z3 2 ZjO
noncomputable def ZjQ: PS:=(Zw ((pOr (Zc qIs (Za 1) (ZN)) ((Zdt (Zc Zb5 (Za 0) (ZN)) (Zc qLe (Za 0) (Za 1)))))))
noncomputable def Zg6:=Z0 2 ZjQ
theorem ZrC: SimF false ZjP Zg6:=Zaj (show S [] [] [] false ZjO ZjQ from(ZW ((Zw0 (E.sh (ZG Zb4 (Zd 1) (Zap))) (E.sh ((Zgx (E.sh (ZG ZdV (Zd 0) (Zap))) (E.sh (ZG Ziw (Zd 0) (Zd 1))))))))))
noncomputable def Zkx: Sm:=Zv (Z1 (ZM (Zh oEq (Zh Zt (Zb 0) (Zm 0)) (Zm 0))) (ZH (Zh oEq (Zb 1) (Zh Zt (Zb 0) (Zm 1)))) Z8) (ZH (Zh oEq (Zh oMod (Zb 1) (Zh Zt (Zb 0) (Zm 0))) (Zh Zt (Zb 0) (Zm 1))))
noncomputable def Zhf:=Z3 2 Zkx
noncomputable def Zky: PS:=(Zp (ZO (Zx (Zc qEq (Zc Zl (Za 0) (Zg 0)) (Zg 0))) (Zw (Zc qEq (Za 1) (Zc Zl (Za 0) (Zg 1)))) ZR) (Zw (Zc qEq (Zc Za0 (Za 1) (Zc Zl (Za 0) (Zg 0))) (Zc Zl (Za 0) (Zg 1)))))
noncomputable def ZfG:=Z0 2 Zky
theorem ZnG: SimF false Zhf ZfG:=Zaj (show S [] [] [] false Zkx Zky from(ZD (Zah (ZT (ZG ZaV (Zz Zy (Zd 0) (Zn _)) (Zn _))) (ZW (ZG ZaV (Zd 1) (Zz Zy (Zd 0) (Zn _)))) Zag) (ZW (ZG ZaV (ZG Zbm (Zd 1) (Zz Zy (Zd 0) (Zn _))) (Zz Zy (Zd 0) (Zn _))))))
noncomputable def Zi9: Sm:=Zv (Z1 (ZM (Zh oEq (Zh Zt (Zb 1) (Zm 0)) (Zm 0))) (ZH (Zh oEq (Zb 0) (Zb 1))) Z8) (ZH (ZdJ (Zh oEq (Zh oMod (Zh Zt (Zb 0) (Zm 0)) (Zh Zt (Zb 1) (Zm 0))) (Zm 0)) (Zh oEq (Zh oMod (Zh Zbo (Zh Zt (Zb 0) (Zm 1)) (Zh Zt (Zb 1) (Zm 1))) (Zh Zt (Zb 1) (Zm 0))) (Zm 0))))
noncomputable def Zja:=Z3 2 Zi9
noncomputable def Zjb: PS:=(Zp (ZO (Zx (Zc qEq (Zc Zl (Za 1) (Zg 0)) (Zg 0))) (Zw (Zc qEq (Za 0) (Za 1))) ZR) (Zw ((Zdt (Zc qEq (Zc Za0 (Zc Zl (Za 0) (Zg 0)) (Zc Zl (Za 1) (Zg 0))) (Zg 0)) (Zc qEq (Zc Za0 (Zc ZaM (Zc Zl (Za 0) (Zg 1)) (Zc Zl (Za 1) (Zg 1))) (Zc Zl (Za 1) (Zg 0))) (Zg 0))))))
noncomputable def ZgW:=Z0 2 Zjb
theorem ZqY: SimF false Zja ZgW:=Zaj (show S [] [] [] false Zi9 Zjb from(ZD (Zah (ZT (ZG ZaV (Zz Zy (Zd 1) (Zn _)) (Zn _))) (ZW (ZG ZaV (Zd 0) (Zd 1))) Zag) (ZW ((Zgx (E.sh (ZG ZaV (ZG Zbm (Zz Zy (Zd 0) (Zn _)) (Zz Zy (Zd 1) (Zn _))) (Zn _))) (E.sh (ZG ZaV (ZG Zbm (ZG ZbB (Zz Zy (Zd 0) (Zn _)) (Zz Zy (Zd 1) (Zn _))) (Zz Zy (Zd 1) (Zn _))) (Zn _))))))))
noncomputable def ZjR: Sm:=Zv (Z1 (ZM (Zh oIs (Zb 1) (Z9))) (ZH (Za4 true)) Z8) (ZH (ZdJ (Zh Zdn (Zb 0) (Z9)) (Zh oLe (Zb 0) (Zb 1))))
noncomputable def ZjS:=Z3 2 ZjR
noncomputable def ZjT: PS:=(Zp (ZO (Zx (Zc qIs (Za 1) (ZN))) (Zw (ZaX true)) ZR) (Zw ((Zdt (Zc Zb5 (Za 0) (ZN)) (Zc qLe (Za 0) (Za 1))))))
noncomputable def Zg7:=Z0 2 ZjT
theorem ZrD: SimF false ZjS Zg7:=Zaj (show S [] [] [] false ZjR ZjT from(ZD (Zah (ZT (ZG Zb4 (Zd 1) (Zap))) (ZW (E.bool _)) Zag) (ZW ((Zgx (E.sh (ZG ZdV (Zd 0) (Zap))) (E.sh (ZG Ziw (Zd 0) (Zd 1))))))))
noncomputable def Zjt: Sm:=Zv (Z1 (tOr (ZM (Zh oIs (Zb 0) (Z9))) (tOr (ZM (Zh oIs (Zb 1) (Z9))) Zca)) (ZH (Zh oIs (Zb 0) (Z9))) Z8) (Zv (ZaZ (ZaT (Zf (Zu ZaS (Zf (Zh Zt (Zb 0) (Zm 0)) Zo)) Zo)) (Zas 2) (ZaZ (ZaT (Zf (Zu ZaS (Zf (Zh Zt (Zb 0) (Zm 0)) Zo)) Zo)) (Zas 3) (Z1 (Zb2 (ZM (Zu ZjS (Zf (Zh Zt (Zh Zt (Zh Zt (Zb 0) (Zm 0)) (Zb 2)) (Zb 3)) (Zf (Zh Zt (Zh Zt (Zh Zt (Zb 1) (Zm 0)) (Zb 2)) (Zb 3)) Zo))))) (ZH (Za4 false)) Z8))) (Zv (ZaZ (ZaT (Zf (Zu ZaS (Zf (Zh Zt (Zb 0) (Zm 1)) Zo)) Zo)) (Zas 4) (Z1 (Zb2 (ZM (Zu Zja (Zf (Zh Zt (Zh Zt (Zb 0) (Zm 1)) (Zb 4)) (Zf (Zh Zt (Zh Zt (Zb 1) (Zm 1)) (Zb 4)) Zo))))) (ZH (Za4 false)) Z8)) (ZH (Za4 true))))
noncomputable def Zju:=Z3 2 Zjt
noncomputable def Zjv: PS:=(Zp (ZO (bOr (Zx (Zc qIs (Za 0) (ZN))) (bOr (Zx (Zc qIs (Za 1) (ZN))) Zb0)) (Zw (Zc qIs (Za 0) (ZN))) ZR) (Zp (ZaA (Zav (Ze (Zs Zat (Ze (Zc Zl (Za 0) (Zg 0)) Zk)) Zk)) (ZX 2) (ZaA (Zav (Ze (Zs Zat (Ze (Zc Zl (Za 0) (Zg 0)) Zk)) Zk)) (ZX 3) (ZO (Zbp (Zx (Zs Zg7 (Ze (Zc Zl (Zc Zl (Zc Zl (Za 0) (Zg 0)) (Za 2)) (Za 3)) (Ze (Zc Zl (Zc Zl (Zc Zl (Za 1) (Zg 0)) (Za 2)) (Za 3)) Zk))))) (Zw (ZaX false)) ZR))) (Zp (ZaA (Zav (Ze (Zs Zat (Ze (Zc Zl (Za 0) (Zg 1)) Zk)) Zk)) (ZX 4) (ZO (Zbp (Zx (Zs ZgW (Ze (Zc Zl (Zc Zl (Za 0) (Zg 1)) (Za 4)) (Ze (Zc Zl (Zc Zl (Za 1) (Zg 1)) (Za 4)) Zk))))) (Zw (ZaX false)) ZR)) (Zw (ZaX true)))))
noncomputable def Zft:=Z0 2 Zjv
theorem Zre: SimF false Zju Zft:=Zaj (show S [] [] [] false Zjt Zjv from(ZD (Zah (ZaY (ZT (ZG Zb4 (Zd 0) (Zap))) (ZaY (ZT (ZG Zb4 (Zd 1) (Zap))) Zct)) (ZW (ZG Zb4 (Zd 0) (Zap))) Zag) (ZD (ZbC (Gs.range (Zj (ZaO Za8 (Zj (Zz Zy (Zd 0) (Zn _)) Zq)) Zq)) PutOk.one (by decide) (by decide) (ZbC (Gs.range (Zj (ZaO Za8 (Zj (Zz Zy (Zd 0) (Zn _)) Zq)) Zq)) PutOk.one (by decide) (by decide) (Zah (Zcc (ZT (ZP ZrD (Zj (Zz Zy (Zz Zy (Zz Zy (Zd 0) (Zn _)) (Zd 2)) (Zd 3)) (Zj (Zz Zy (Zz Zy (Zz Zy (Zd 1) (Zn _)) (Zd 2)) (Zd 3)) Zq))))) (ZW (E.bool _)) Zag))) (ZD (ZbC (Gs.range (Zj (ZaO Za8 (Zj (Zz Zy (Zd 0) (Zn _)) Zq)) Zq)) PutOk.one (by decide) (by decide) (Zah (Zcc (ZT (ZP ZqY (Zj (Zz Zy (Zz Zy (Zd 0) (Zn _)) (Zd 4)) (Zj (Zz Zy (Zz Zy (Zd 1) (Zn _)) (Zd 4)) Zq))))) (ZW (E.bool _)) Zag)) (ZW (E.bool _))))))
noncomputable def Zn5: PS:=(Zp (ZF 0 (Zs Zdu (Ze (Za 0) Zk))) (Zp (ZF 1 (Zs Zdu (Ze (Za 1) Zk))) (Zp (Zdb (Zx (Zc qNe (Za 1) (Zg 0))) (Zp (ZF 2 (Zc Za0 (Za 0) (Za 1))) (Zp (ZF 0 (Za 1)) (ZF 1 (Za 2)))) 1000000) (Zw (Za 0)))))
noncomputable def Zhs:=Z0 2 Zn5
noncomputable def Zlb: Sm:=Zv (ZU 2 (Zu Zd5 (Zf (Zb 0) Zo))) (Zv (ZU 3 (Zu Zd5 (Zf (Zb 1) Zo))) (Zv (ZdD (ZM (Zh oNe (Zb 3) (Zm 0))) (Zv (ZU 4 (Zh oMod (Zb 2) (Zb 3))) (Zv (ZU 2 (Zb 3)) (ZU 3 (Zb 4)))) 1000000) (ZH (Zb 2))))
noncomputable def Zht:=Z3 2 Zlb
noncomputable def Zlc: PS:=(Zp (ZF 2 (Zs Zdu (Ze (Za 0) Zk))) (Zp (ZF 3 (Zs Zdu (Ze (Za 1) Zk))) (Zp (Zdb (Zx (Zc qNe (Za 3) (Zg 0))) (Zp (ZF 4 (Zc Za0 (Za 2) (Za 3))) (Zp (ZF 2 (Za 3)) (ZF 3 (Za 4)))) 1000000) (Zw (Za 2)))))
noncomputable def ZfR:=Z0 2 Zlc
theorem Zn6: SimF false Zht ZfR:=Zaj (show S [] [] [] false Zlb Zlc from(ZD (Zaa (O':=[]) (ZaO Zgy (Zj (Zd 0) Zq))) (ZD (Zaa (O':=[]) (ZaO Zgy (Zj (Zd 1) Zq))) (ZD (Zl7 (ZT (ZG Zci (Zd 3) (Zn _))) (ZD (Zaa (O':=[]) (ZG Zbm (Zd 2) (Zd 3))) (ZD (Zaa (O':=[]) (Zd 3)) (Zaa (O':=[]) (Zd 4)))) 1000000) (ZW (Zd 2))))))
noncomputable def ZmD: Sm:=Zv (Z1 (ZM (Zh oLt (Zb 0) (Zm 0))) (PM.sNo) Z8) (Zv (Z1 (ZM (Zh oEq (Zb 0) (Zm 0))) (ZH (ZaG (Zf (Zm 0) (Zf (Zb 1) Zo)))) Z8) (ZH (ZaG (Zf (Zb 0) (Zf (Zh oMod (Zb 1) (Zb 0)) Zo)))))
noncomputable def Zgs:=Z3 2 ZmD
noncomputable def ZmE: PS:=(Zp (ZO (Zx (Zc qLt (Za 0) (Zg 0))) (qNo) ZR) (Zp (ZO (Zx (Zc qEq (Za 0) (Zg 0))) (Zw (ZaD (Ze (Zg 0) (Ze (Za 1) Zk)))) ZR) (Zw (ZaD (Ze (Za 0) (Ze (Zc Za0 (Za 1) (Za 0)) Zk))))))
noncomputable def Ze3:=Z0 2 ZmE
theorem ZmF: SimF false Zgs Ze3:=Zaj (show S [] [] [] false ZmD ZmE from(ZD (Zah (ZT (ZG Zd6 (Zd 0) (Zn _))) (Zw2 (O':=[])) Zag) (ZD (Zah (ZT (ZG ZaV (Zd 0) (Zn _))) (ZW (E.tup (Zj (Zn _) (Zj (Zd 1) Zq)))) Zag) (ZW (E.tup (Zj (Zd 0) (Zj (ZG Zbm (Zd 1) (Zd 0)) Zq)))))))
noncomputable def Zld: Sm:=Zv (ZU 2 (Zh oMod (Zb 0) (Zb 1))) (Zv (ZU 3 (Zb 1)) (Zv (ZU 4 (Zm 1)) (Zv (ZU 5 (Zm 0)) (Zv (ZdD (ZM (Zh oNe (Zb 3) (Zm 0))) (Zv (ZU 6 (Zh oDiv (Zb 2) (Zb 3))) (Zv (ZU 7 (Zh Zbo (Zb 2) (Zh Za7 (Zb 6) (Zb 3)))) (Zv (ZU 8 (Zh Zbo (Zb 4) (Zh Za7 (Zb 6) (Zb 5)))) (Zv (ZU 2 (Zb 3)) (Zv (ZU 4 (Zb 5)) (Zv (ZU 3 (Zb 7)) (ZU 5 (Zb 8)))))))) 1000000) (ZH (Zh oMod (Zb 4) (Zb 1)))))))
noncomputable def Zle:=Z3 2 Zld
noncomputable def Zlf: PS:=(Zp (ZF 2 (Zc Za0 (Za 0) (Za 1))) (Zp (ZF 3 (Za 1)) (Zp (ZF 4 (Zg 1)) (Zp (ZF 5 (Zg 0)) (Zp (Zdb (Zx (Zc qNe (Za 3) (Zg 0))) (Zp (ZF 6 (Zc ZcH (Za 2) (Za 3))) (Zp (ZF 7 (Zc ZaM (Za 2) (Zc ZaC (Za 6) (Za 3)))) (Zp (ZF 8 (Zc ZaM (Za 4) (Zc ZaC (Za 6) (Za 5)))) (Zp (ZF 2 (Za 3)) (Zp (ZF 4 (Za 5)) (Zp (ZF 3 (Za 7)) (ZF 5 (Za 8)))))))) 1000000) (Zw (Zc Za0 (Za 4) (Za 1))))))))
noncomputable def Zhu:=Z0 2 Zlf
theorem ZsX: SimF false Zle Zhu:=Zaj (show S [] [] [] false Zld Zlf from(ZD (Zaa (O':=[]) (ZG Zbm (Zd 0) (Zd 1))) (ZD (Zaa (O':=[]) (Zd 1)) (ZD (Zaa (O':=[]) (Zn _)) (ZD (Zaa (O':=[]) (Zn _)) (ZD (Zl7 (ZT (ZG Zci (Zd 3) (Zn _))) (ZD (Zaa (O':=[]) (ZG Zfe (Zd 2) (Zd 3))) (ZD (Zaa (O':=[]) (ZG ZbB (Zd 2) (Z6 Zbv (Zd 6) (Zd 3)))) (ZD (Zaa (O':=[]) (ZG ZbB (Zd 4) (Z6 Zbv (Zd 6) (Zd 5)))) (ZD (Zaa (O':=[]) (Zd 3)) (ZD (Zaa (O':=[]) (Zd 5)) (ZD (Zaa (O':=[]) (Zd 7)) (Zaa (O':=[]) (Zd 8)))))))) 1000000) (ZW (ZG Zbm (Zd 4) (Zd 1)))))))))
noncomputable def Zkz: Sm:=Zv (Z1 (ZM (Zh oEq (Zh Zt (Zb 0) (Zm 0)) (Zm 0))) (ZH (eIf (ZM (Zu Zhf (Zf (Zb 1) (Zf (Zh Zt (Zb 0) (Zm 1)) Zo)))) (Zb 0) (Z9))) Z8) (Zv (Z1 (ZM (Zh oEq (Zh Zt (Zb 1) (Zm 0)) (Zm 0))) (ZH (eIf (ZM (Zu Zhf (Zf (Zb 0) (Zf (Zh Zt (Zb 1) (Zm 1)) Zo)))) (Zb 1) (Z9))) Z8) (Zv (ZU 2 (Zu Zht (Zf (Zh Zt (Zb 0) (Zm 0)) (Zf (Zh Zt (Zb 1) (Zm 0)) Zo)))) (Zv (ZU 3 (Zh Zbo (Zh Zt (Zb 1) (Zm 1)) (Zh Zt (Zb 0) (Zm 1)))) (Zv (Z1 (ZM (Zh oNe (Zh oMod (Zb 3) (Zb 2)) (Zm 0))) (ZH (Z9)) Z8) (Zv (ZU 4 (Zh oDiv (Zh Zt (Zb 1) (Zm 0)) (Zb 2))) (Zv (ZU 5 (Zh Za7 (Zh oDiv (Zb 3) (Zb 2)) (Zu Zle (Zf (Zh oDiv (Zh Zt (Zb 0) (Zm 0)) (Zb 2)) (Zf (Zb 4) Zo))))) (ZH (Zu Zgs (Zf (Zh Za7 (Zh Zt (Zb 0) (Zm 0)) (Zb 4)) (Zf (Zh Zab (Zh Zt (Zb 0) (Zm 1)) (Zh Za7 (Zh Zt (Zb 0) (Zm 0)) (Zb 5))) Zo))))))))))
noncomputable def Zhg:=Z3 2 Zkz
noncomputable def ZkA: PS:=(Zp (ZO (Zx (Zc qEq (Zc Zl (Za 0) (Zg 0)) (Zg 0))) (Zw (pIf (Zx (Zs ZfG (Ze (Za 1) (Ze (Zc Zl (Za 0) (Zg 1)) Zk)))) (Za 0) (ZN))) ZR) (Zp (ZO (Zx (Zc qEq (Zc Zl (Za 1) (Zg 0)) (Zg 0))) (Zw (pIf (Zx (Zs ZfG (Ze (Za 0) (Ze (Zc Zl (Za 1) (Zg 1)) Zk)))) (Za 1) (ZN))) ZR) (Zp (ZF 2 (Zs ZfR (Ze (Zc Zl (Za 0) (Zg 0)) (Ze (Zc Zl (Za 1) (Zg 0)) Zk)))) (Zp (ZF 3 (Zc ZaM (Zc Zl (Za 1) (Zg 1)) (Zc Zl (Za 0) (Zg 1)))) (Zp (ZO (Zx (Zc qNe (Zc Za0 (Za 3) (Za 2)) (Zg 0))) (Zw (ZN)) ZR) (Zp (ZF 4 (Zc ZcH (Zc Zl (Za 1) (Zg 0)) (Za 2))) (Zp (ZF 5 (Zc ZaC (Zc ZcH (Za 3) (Za 2)) (Zs Zhu (Ze (Zc ZcH (Zc Zl (Za 0) (Zg 0)) (Za 2)) (Ze (Za 4) Zk))))) (Zw (Zs Ze3 (Ze (Zc ZaC (Zc Zl (Za 0) (Zg 0)) (Za 4)) (Ze (Zc ZV (Zc Zl (Za 0) (Zg 1)) (Zc ZaC (Zc Zl (Za 0) (Zg 0)) (Za 5))) Zk)))))))))))
noncomputable def ZfH:=Z0 2 ZkA
theorem ZnH: SimF false Zhg ZfH:=Zaj (show S [] [] [] false Zkz ZkA from(ZD (Zah (ZT (ZG ZaV (Zz Zy (Zd 0) (Zn _)) (Zn _))) (ZW (Zfd (ZT (ZP ZnG (Zj (Zd 1) (Zj (Zz Zy (Zd 0) (Zn _)) Zq)))) (E.sh (Zd 0)) (E.sh (Zap)))) Zag) (ZD (Zah (ZT (ZG ZaV (Zz Zy (Zd 1) (Zn _)) (Zn _))) (ZW (Zfd (ZT (ZP ZnG (Zj (Zd 0) (Zj (Zz Zy (Zd 1) (Zn _)) Zq)))) (E.sh (Zd 1)) (E.sh (Zap)))) Zag) (ZD (Zaa (O':=[]) (ZP Zn6 (Zj (Zz Zy (Zd 0) (Zn _)) (Zj (Zz Zy (Zd 1) (Zn _)) Zq)))) (ZD (Zaa (O':=[]) (ZG ZbB (Zz Zy (Zd 1) (Zn _)) (Zz Zy (Zd 0) (Zn _)))) (ZD (Zah (ZT (ZG Zci (ZG Zbm (Zd 3) (Zd 2)) (Zn _))) (ZW (Zap)) Zag) (ZD (Zaa (O':=[]) (ZG Zfe (Zz Zy (Zd 1) (Zn _)) (Zd 2))) (ZD (Zaa (O':=[]) (Z6 Zbv (ZG Zfe (Zd 3) (Zd 2)) (ZP ZsX (Zj (ZG Zfe (Zz Zy (Zd 0) (Zn _)) (Zd 2)) (Zj (Zd 4) Zq))))) (ZW (ZP ZmF (Zj (Z6 Zbv (Zz Zy (Zd 0) (Zn _)) (Zd 4)) (Zj (Z6 Zal (Zz Zy (Zd 0) (Zn _)) (Z6 Zbv (Zz Zy (Zd 0) (Zn _)) (Zd 5))) Zq))))))))))))
noncomputable def ZjU: Sm:=ZH (Zu Zgs (Zf (Zu Zht (Zf (Zh Zt (Zb 0) (Zm 0)) (Zf (Zh Zt (Zb 1) (Zm 0)) Zo))) (Zf (Zh Zab (Zh Zt (Zb 0) (Zm 1)) (Zh Zt (Zb 1) (Zm 1))) Zo)))
noncomputable def Zfy:=Z3 2 ZjU
noncomputable def ZjV: PS:=(Zw (Zs Ze3 (Ze (Zs ZfR (Ze (Zc Zl (Za 0) (Zg 0)) (Ze (Zc Zl (Za 1) (Zg 0)) Zk))) (Ze (Zc ZV (Zc Zl (Za 0) (Zg 1)) (Zc Zl (Za 1) (Zg 1))) Zk))))
noncomputable def ZeA:=Z0 2 ZjV
theorem ZjW: SimF false Zfy ZeA:=Zaj (show S [] [] [] false ZjU ZjV from(ZW (ZP ZmF (Zj (ZP Zn6 (Zj (Zz Zy (Zd 0) (Zn _)) (Zj (Zz Zy (Zd 1) (Zn _)) Zq))) (Zj (Z6 Zal (Zz Zy (Zd 0) (Zn _)) (Zz Zy (Zd 1) (Zn _))) Zq)))))
noncomputable def Zjw: Sm:=ZH (Zu Zgs (Zf (Zh Za7 (Zh Zt (Zb 0) (Zm 0)) (Zu Zd5 (Zf (Zb 1) Zo))) (Zf (Zh Za7 (Zh Zt (Zb 0) (Zm 1)) (Zb 1)) Zo)))
noncomputable def Zg0:=Z3 2 Zjw
noncomputable def Zjx: PS:=(Zw (Zs Ze3 (Ze (Zc ZaC (Zc Zl (Za 0) (Zg 0)) (Zs Zdu (Ze (Za 1) Zk))) (Ze (Zc ZaC (Zc Zl (Za 0) (Zg 1)) (Za 1)) Zk))))
noncomputable def Zfu:=Z0 2 Zjx
theorem Znn: SimF false Zg0 Zfu:=Zaj (show S [] [] [] false Zjw Zjx from(ZW (ZP ZmF (Zj (Z6 Zbv (Zz Zy (Zd 0) (Zn _)) (ZaO Zgy (Zj (Zd 1) Zq))) (Zj (Z6 Zbv (Zz Zy (Zd 0) (Zn _)) (Zd 1)) Zq)))))
noncomputable def Zjy: Sm:=Zv (Z1 (ZM (Zh oEq (Zh Zt (Zb 0) (Zm 0)) (Zm 0))) (ZH (eIf (ZM (Zh oLe (Zh Zt (Zb 0) (Zm 1)) (Zb 1))) (Zh Zt (Zb 0) (Zm 1)) (Z9))) Z8) (ZH (Zh Zbo (Zb 1) (Zh oMod (Zh Zbo (Zb 1) (Zh Zt (Zb 0) (Zm 1))) (Zh Zt (Zb 0) (Zm 0)))))
noncomputable def Zjz:=Z3 2 Zjy
noncomputable def ZjA: PS:=(Zp (ZO (Zx (Zc qEq (Zc Zl (Za 0) (Zg 0)) (Zg 0))) (Zw (pIf (Zx (Zc qLe (Zc Zl (Za 0) (Zg 1)) (Za 1))) (Zc Zl (Za 0) (Zg 1)) (ZN))) ZR) (Zw (Zc ZaM (Za 1) (Zc Za0 (Zc ZaM (Za 1) (Zc Zl (Za 0) (Zg 1))) (Zc Zl (Za 0) (Zg 0))))))
noncomputable def Zg1:=Z0 2 ZjA
theorem Zrf: SimF false Zjz Zg1:=Zaj (show S [] [] [] false Zjy ZjA from(ZD (Zah (ZT (ZG ZaV (Zz Zy (Zd 0) (Zn _)) (Zn _))) (ZW (Zfd (ZT (ZG Ziw (Zz Zy (Zd 0) (Zn _)) (Zd 1))) (E.sh (Zz Zy (Zd 0) (Zn _))) (E.sh (Zap)))) Zag) (ZW (ZG ZbB (Zd 1) (ZG Zbm (ZG ZbB (Zd 1) (Zz Zy (Zd 0) (Zn _))) (Zz Zy (Zd 0) (Zn _)))))))
noncomputable def ZlO: Sm:=ZH (eIf (ZM (Zu ZjP (Zf (Zb 0) (Zf (Zb 1) Zo)))) (Zb 0) (Zb 1))
noncomputable def ZhF:=Z3 2 ZlO
noncomputable def ZlP: PS:=(Zw (pIf (Zx (Zs Zg6 (Ze (Za 0) (Ze (Za 1) Zk)))) (Za 0) (Za 1)))
noncomputable def ZfY:=Z0 2 ZlP
theorem ZoB: SimF false ZhF ZfY:=Zaj (show S [] [] [] false ZlO ZlP from(ZW (Zfd (ZT (ZP ZrC (Zj (Zd 0) (Zj (Zd 1) Zq)))) (E.sh (Zd 0)) (E.sh (Zd 1)))))
noncomputable def ZkB: Sm:=Zv (Z1 (tOr (ZM (Zh oIs (Zb 0) (Z9))) (tOr (ZM (Zh oIs (Zb 1) (Z9))) Zca)) (ZH (Z9)) Z8) (ZH (Zh Zab (Zb 0) (Zb 1)))
noncomputable def Zeb:=Z3 2 ZkB
noncomputable def ZkC: PS:=(Zp (ZO (bOr (Zx (Zc qIs (Za 0) (ZN))) (bOr (Zx (Zc qIs (Za 1) (ZN))) Zb0)) (Zw (ZN)) ZR) (Zw (Zc ZV (Za 0) (Za 1))))
noncomputable def ZdR:=Z0 2 ZkC
theorem ZfI: SimF false Zeb ZdR:=Zaj (show S [] [] [] false ZkB ZkC from(ZD (Zah (ZaY (ZT (ZG Zb4 (Zd 0) (Zap))) (ZaY (ZT (ZG Zb4 (Zd 1) (Zap))) Zct)) (ZW (Zap)) Zag) (ZW (Z6 Zal (Zd 0) (Zd 1)))))
noncomputable def ZiF: Sm:=ZH (ZaH (Zc0 (Zb 0) (Zb 2)) (Zb3 100 101) Zaw (Zu ZhF (Zf (Zb 100) (Zf (Zu Zeb (Zf (Zb 1) (Zf (Zb 101) Zo))) Zo))))
noncomputable def ZiG:=Z3 3 ZiF
noncomputable def ZiH: PS:=(Zw (Zai (Zc2 (Za 0) (Za 2)) (Zcg 100 101) Z4 (Zb1 (Zs ZfY (Ze (Za 100) (Ze (Zs ZdR (Ze (Za 1) (Ze (Za 101) Zk))) Zk))))))
noncomputable def ZgO:=Z0 3 ZiH
theorem Zqv: SimF true ZiG ZgO:=Zaj (show S [] [] [] true ZiF ZiH from(Zbs (Zdk (Gs.zip (Zd 0) (Zd 2)) PutOk.two (by decide) ZaL (E.flat (ZP ZoB (Zj (Zd 100) (Zj (ZP ZfI (Zj (Zd 1) (Zj (Zd 101) Zq))) Zq)))))))
noncomputable def ZjX: Sm:=ZH (ZaH (ZbQ (Zb 0)) (Zas 100) Zaw (Zu ZiG (Zf (Zb 100) (Zf (Zh Zt (Zb 100) (Zb 1)) (Zf (Zh Zt (Zb 0) (Zb 1)) Zo)))))
noncomputable def ZjY:=Z3 2 ZjX
noncomputable def ZjZ: PS:=(Zw (Zai (Zaz (Za 0)) (ZX 100) Z4 (Zs ZgO (Ze (Za 100) (Ze (Zc Zl (Za 100) (Za 1)) (Ze (Zc Zl (Za 0) (Za 1)) Zk))))))
noncomputable def Zg8:=Z0 2 ZjZ
theorem Znv: SimF true ZjY Zg8:=Zaj (show S [] [] [] true ZjX ZjZ from(Zbs (Zdk (Gs.seq (Zd 0)) PutOk.one (by decide) ZaL (ZcW Zqv (Zj (Zd 100) (Zj (Zz Zy (Zd 100) (Zd 1)) (Zj (Zz Zy (Zd 0) (Zd 1)) Zq)))))))
noncomputable def ZiS: Sm:=ZH (Zu ZgH (Zf (ZaH (ZaT (Zf (Zu ZaS (Zf (Zb 0) Zo)) Zo)) (Zas 100) Zaw (Zh oLt (Zh Zt (Zh Zt (Zb 0) (Zb 100)) (Zb 100)) (Zm 0))) Zo))
noncomputable def ZiT:=Z3 1 ZiS
noncomputable def ZiU: PS:=(Zw (Zs ZgI (Ze (Zai (Zav (Ze (Zs Zat (Ze (Za 0) Zk)) Zk)) (ZX 100) Z4 (Zc qLt (Zc Zl (Zc Zl (Za 0) (Za 100)) (Za 100)) (Zg 0))) Zk)))
noncomputable def ZgS:=Z0 1 ZiU
theorem Zna: SimF false ZiT ZgS:=Zaj (show S [] [] [] false ZiS ZiU from(ZW (ZaO ZwD (Zj (ZbZ (Gs.range (Zj (ZaO Za8 (Zj (Zd 0) Zq)) Zq)) PutOk.one (by decide) ZaL (ZG Zd6 (Zz Zy (Zz Zy (Zd 0) (Zd 100)) (Zd 100)) (Zn _))) Zq))))
noncomputable def ZlQ: Sm:=Zv (ZU 1 (Zb 0)) (Zv (ZaZ (ZaT (Zf (Zu ZaS (Zf (Zb 0) Zo)) Zo)) (Zas 2) (Zv (ZU 1 (Zu ZjY (Zf (Zb 1) (Zf (Zb 2) Zo)))) (Z1 (ZM (Zu ZiT (Zf (Zb 1) Zo))) (ZH (Z9)) Z8))) (ZH (Zb 1)))
noncomputable def ZeP:=Z3 1 ZlQ
noncomputable def ZlR: PS:=(Zp (ZF 1 (Za 0)) (Zp (Zip (Zav (Ze (Zs Zat (Ze (Za 0) Zk)) Zk)) (ZX 2) (Zp (ZF 1 (Zs Zg8 (Ze (Za 1) (Ze (Za 2) Zk)))) (ZO (Zx (Zs ZgS (Ze (Za 1) Zk))) (Zw (ZN)) ZR))) (Zw (Za 1))))
noncomputable def ZfZ:=Z0 1 ZlR
theorem ZtX: SimF true ZeP ZfZ:=Zaj (show S [] [1] [] true ZlQ ZlR from(ZD (Zaa (O':=[]) (Zd 0)) (ZD (Zwh (Gs.range (Zj (ZaO Za8 (Zj (Zd 0) Zq)) Zq)) PutOk.one PutOk.one (by decide) (by decide) (by decide) (ZD (Zda (O':=[1]) (ZcW Znv (Zj (Zd 1) (Zj (Zd 2) Zq)))) (Zah (ZT (ZP Zna (Zj (Zd 1) Zq))) (Zbs (Zap)) Zag)) (ZD (Zda (O':=[1]) (Zcf (O':=[]) (ZcW Znv (Zj (Zd 1) (Zj (Zd 2) Zq))))) (Zah (ZT (ZP Zna (Zj (Zd 1) Zq))) (Zbs (Zap)) Zag))) (Zbs (E.own (by decide))))))
noncomputable def Zj0: Sm:=ZH (ZdJ (eIs "int" (Zb 0)) (Zir (eIs "bool" (Zb 0))))
noncomputable def Zfz:=Z3 1 Zj0
noncomputable def Zj1: PS:=(Zw ((Zdt (pIs "int" (Za 0)) (Ziu (pIs "bool" (Za 0))))))
noncomputable def ZeB:=Z0 1 Zj1
theorem Zj2: SimF false Zfz ZeB:=Zaj (show S [] [] [] false Zj0 Zj1 from(ZW ((Zgx (E.sh (ZdL (Zd 0))) (E.sh (ZwB (ZdL (Zd 0))))))))
noncomputable def ZkD: Sm:=Zv (Z1 (tOr (Zb2 (ZM (eIs "list" (Zb 0)))) (tOr (ZM (Zh oNe (Zu ZaS (Zf (Zb 0) Zo)) (Zb 1))) Zca)) (ZH (Za4 false)) Z8) (Zv (ZaZ (ZaT (Zf (Zb 1) Zo)) (Zas 2) (Zv (Z1 (tOr (Zb2 (ZM (eIs "list" (Zh Zt (Zb 0) (Zb 2))))) (tOr (ZM (Zh oNe (Zu ZaS (Zf (Zh Zt (Zb 0) (Zb 2)) Zo)) (Zb 1))) Zca)) (ZH (Za4 false)) Z8) (Zv (ZaZ (ZbQ (Zh Zt (Zb 0) (Zb 2))) (Zas 3) (Z1 (Zbj (ZM (Zh Zdn (Zb 3) (Z9))) (Zbj (Zb2 (ZM (Zu Zfz (Zf (Zb 3) Zo)))) Zaw)) (ZH (Za4 false)) Z8)) (Z1 (ZM (Zh oNe (Zh Zt (Zh Zt (Zb 0) (Zb 2)) (Zb 2)) (Zm 0))) (ZH (Za4 false)) Z8)))) (ZH (Za4 true)))
noncomputable def ZkE:=Z3 2 ZkD
noncomputable def ZkF: PS:=(Zp (ZO (bOr (Zbp (Zx (pIs "list" (Za 0)))) (bOr (Zx (Zc qNe (Zs Zat (Ze (Za 0) Zk)) (Za 1))) Zb0)) (Zw (ZaX false)) ZR) (Zp (ZaA (Zav (Ze (Za 1) Zk)) (ZX 2) (Zp (ZO (bOr (Zbp (Zx (pIs "list" (Zc Zl (Za 0) (Za 2))))) (bOr (Zx (Zc qNe (Zs Zat (Ze (Zc Zl (Za 0) (Za 2)) Zk)) (Za 1))) Zb0)) (Zw (ZaX false)) ZR) (Zp (ZaA (Zaz (Zc Zl (Za 0) (Za 2))) (ZX 3) (ZO (ZaB (Zx (Zc Zb5 (Za 3) (ZN))) (ZaB (Zbp (Zx (Zs ZeB (Ze (Za 3) Zk)))) Z4)) (Zw (ZaX false)) ZR)) (ZO (Zx (Zc qNe (Zc Zl (Zc Zl (Za 0) (Za 2)) (Za 2)) (Zg 0))) (Zw (ZaX false)) ZR)))) (Zw (ZaX true))))
noncomputable def Zhh:=Z0 2 ZkF
theorem Zr5: SimF false ZkE Zhh:=Zaj (show S [] [] [] false ZkD ZkF from(ZD (Zah (ZaY (Zcc (ZT (ZdL (Zd 0)))) (ZaY (ZT (ZG Zci (ZaO Za8 (Zj (Zd 0) Zq)) (Zd 1))) Zct)) (ZW (E.bool _)) Zag) (ZD (ZbC (Gs.range (Zj (Zd 1) Zq)) PutOk.one (by decide) (by decide) (ZD (Zah (ZaY (Zcc (ZT (ZdL (Zz Zy (Zd 0) (Zd 2))))) (ZaY (ZT (ZG Zci (ZaO Za8 (Zj (Zz Zy (Zd 0) (Zd 2)) Zq)) (Zd 1))) Zct)) (ZW (E.bool _)) Zag) (ZD (ZbC (Gs.seq (Zz Zy (Zd 0) (Zd 2))) PutOk.one (by decide) (by decide) (Zah (ZbN (ZT (ZG ZdV (Zd 3) (Zap))) (ZbN (Zcc (ZT (ZP Zj2 (Zj (Zd 3) Zq)))) ZaL)) (ZW (E.bool _)) Zag)) (Zah (ZT (ZG Zci (Zz Zy (Zz Zy (Zd 0) (Zd 2)) (Zd 2)) (Zn _))) (ZW (E.bool _)) Zag)))) (ZW (E.bool _)))))
noncomputable def ZiV: Sm:=ZH (ZaG (Zf (Zu Zeb (Zf (Zh Zt (Zb 0) (Zm 0)) (Zf (Zh Zt (Zb 1) (Zm 0)) Zo))) (Zf (Zu Zeb (Zf (Zh Zt (Zb 0) (Zm 1)) (Zf (Zh Zt (Zb 1) (Zm 1)) Zo))) Zo)))
noncomputable def ZiW:=Z3 2 ZiV
noncomputable def ZiX: PS:=(Zw (ZaD (Ze (Zs ZdR (Ze (Zc Zl (Za 0) (Zg 0)) (Ze (Zc Zl (Za 1) (Zg 0)) Zk))) (Ze (Zs ZdR (Ze (Zc Zl (Za 0) (Zg 1)) (Ze (Zc Zl (Za 1) (Zg 1)) Zk))) Zk))))
noncomputable def ZgT:=Z0 2 ZiX
theorem ZqH: SimF false ZiW ZgT:=Zaj (show S [] [] [] false ZiV ZiX from(ZW (E.tup (Zj (ZP ZfI (Zj (Zz Zy (Zd 0) (Zn _)) (Zj (Zz Zy (Zd 1) (Zn _)) Zq))) (Zj (ZP ZfI (Zj (Zz Zy (Zd 0) (Zn _)) (Zj (Zz Zy (Zd 1) (Zn _)) Zq))) Zq)))))
noncomputable def Zj3: Sm:=Zv (Z1 (ZM (Zh oIs (Zb 0) (Z9))) (ZH (Z9)) Z8) (ZH (Zh Za7 (Zb 0) (Zb 1)))
noncomputable def ZfA:=Z3 2 Zj3
noncomputable def Zj4: PS:=(Zp (ZO (Zx (Zc qIs (Za 0) (ZN))) (Zw (ZN)) ZR) (Zw (Zc ZaC (Za 0) (Za 1))))
noncomputable def ZeC:=Z0 2 Zj4
theorem Zj5: SimF false ZfA ZeC:=Zaj (show S [] [] [] false Zj3 Zj4 from(ZD (Zah (ZT (ZG Zb4 (Zd 0) (Zap))) (ZW (Zap)) Zag) (ZW (Z6 Zbv (Zd 0) (Zd 1)))))
noncomputable def ZiI: Sm:=Zv (Z1 (ZM (Zh oEq (Zb 1) (Zm 0))) (ZH (ZaG (Zf (Zm 0) (Zf (Zm 0) Zo)))) Z8) (Zv (ZU 2 (Zu ZfA (Zf (Zh Zt (Zb 0) (Zm 0)) (Zf (Zb 1) Zo)))) (Zv (ZU 3 (Zu ZfA (Zf (Zh Zt (Zb 0) (Zm 1)) (Zf (Zb 1) Zo)))) (Zv (Z1 (ZM (Zh oLt (Zb 1) (Zm 0))) (ZH (ZaG (Zf (Zb 3) (Zf (Zb 2) Zo)))) Z8) (ZH (ZaG (Zf (Zb 2) (Zf (Zb 3) Zo)))))))
noncomputable def ZiJ:=Z3 2 ZiI
noncomputable def ZiK: PS:=(Zp (ZO (Zx (Zc qEq (Za 1) (Zg 0))) (Zw (ZaD (Ze (Zg 0) (Ze (Zg 0) Zk)))) ZR) (Zp (ZF 2 (Zs ZeC (Ze (Zc Zl (Za 0) (Zg 0)) (Ze (Za 1) Zk)))) (Zp (ZF 3 (Zs ZeC (Ze (Zc Zl (Za 0) (Zg 1)) (Ze (Za 1) Zk)))) (Zp (ZO (Zx (Zc qLt (Za 1) (Zg 0))) (Zw (ZaD (Ze (Za 3) (Ze (Za 2) Zk)))) ZR) (Zw (ZaD (Ze (Za 2) (Ze (Za 3) Zk))))))))
noncomputable def ZgP:=Z0 2 ZiK
theorem Zqw: SimF false ZiJ ZgP:=Zaj (show S [] [] [] false ZiI ZiK from(ZD (Zah (ZT (ZG ZaV (Zd 1) (Zn _))) (ZW (E.tup (Zj (Zn _) (Zj (Zn _) Zq)))) Zag) (ZD (Zaa (O':=[]) (ZP Zj5 (Zj (Zz Zy (Zd 0) (Zn _)) (Zj (Zd 1) Zq)))) (ZD (Zaa (O':=[]) (ZP Zj5 (Zj (Zz Zy (Zd 0) (Zn _)) (Zj (Zd 1) Zq)))) (ZD (Zah (ZT (ZG Zd6 (Zd 1) (Zn _))) (ZW (E.tup (Zj (Zd 3) (Zj (Zd 2) Zq)))) Zag) (ZW (E.tup (Zj (Zd 2) (Zj (Zd 3) Zq)))))))))
noncomputable def Zjc: Sm:=Zv (ZU 2 (ZaG (Zf (Zh Zt (Zb 0) (Zm 0)) (Zf (Zh Zt (Zb 0) (Zm 0)) Zo)))) (Zv (ZaZ (Zc0 (Zd1 (Zb 0) 1) (Zb 1)) (Zb3 3 4) (ZU 2 (Zu ZiW (Zf (Zb 2) (Zf (Zu ZiJ (Zf (Zb 4) (Zf (Zb 3) Zo))) Zo))))) (ZH (Zb 2)))
noncomputable def Zjd:=Z3 2 Zjc
noncomputable def Zje: PS:=(Zp (ZF 2 (ZaD (Ze (Zc Zl (Za 0) (Zg 0)) (Ze (Zc Zl (Za 0) (Zg 0)) Zk)))) (Zp (ZaA (Zc2 (Zdr (Za 0) 1) (Za 1)) (Zcg 3 4) (ZF 2 (Zs ZgT (Ze (Za 2) (Ze (Zs ZgP (Ze (Za 4) (Ze (Za 3) Zk))) Zk))))) (Zw (Za 2))))
noncomputable def ZgX:=Z0 2 Zje
theorem ZqZ: SimF false Zjd ZgX:=Zaj (show S [] [] [] false Zjc Zje from(ZD (Zaa (O':=[]) (E.tup (Zj (Zz Zy (Zd 0) (Zn _)) (Zj (Zz Zy (Zd 0) (Zn _)) Zq)))) (ZD (ZbC (Gs.zip (Zmv (Zd 0)) (Zd 1)) PutOk.two (by decide) (by decide) (Zaa (O':=[]) (ZP ZqH (Zj (Zd 2) (Zj (ZP Zqw (Zj (Zd 4) (Zj (Zd 3) Zq))) Zq))))) (ZW (Zd 2)))))
noncomputable def ZkG: Sm:=Zv (ZU 2 (ZaG (Zf (Zm 0) (Zf (Zh Zt (Zb 0) (Zm 0)) Zo)))) (Zv (ZaZ (Zc0 (Zd1 (Zb 0) 1) (Zb 1)) (Zb3 3 4) (ZU 2 (Zu Zfy (Zf (Zb 2) (Zf (Zu Zg0 (Zf (Zb 4) (Zf (Zb 3) Zo))) Zo))))) (ZH (Zb 2)))
noncomputable def ZkH:=Z3 2 ZkG
noncomputable def ZkI: PS:=(Zp (ZF 2 (ZaD (Ze (Zg 0) (Ze (Zc Zl (Za 0) (Zg 0)) Zk)))) (Zp (ZaA (Zc2 (Zdr (Za 0) 1) (Za 1)) (Zcg 3 4) (ZF 2 (Zs ZeA (Ze (Za 2) (Ze (Zs Zfu (Ze (Za 4) (Ze (Za 3) Zk))) Zk))))) (Zw (Za 2))))
noncomputable def Zhi:=Z0 2 ZkI
theorem Zr6: SimF false ZkH Zhi:=Zaj (show S [] [] [] false ZkG ZkI from(ZD (Zaa (O':=[]) (E.tup (Zj (Zn _) (Zj (Zz Zy (Zd 0) (Zn _)) Zq)))) (ZD (ZbC (Gs.zip (Zmv (Zd 0)) (Zd 1)) PutOk.two (by decide) (by decide) (Zaa (O':=[]) (ZP ZjW (Zj (Zd 2) (Zj (ZP Znn (Zj (Zd 4) (Zj (Zd 3) Zq))) Zq))))) (ZW (Zd 2)))))
noncomputable def Zjf: Sm:=ZH (Zh Zab (Zbh (Zf (ZaG (Zf (Zm 0) (Zf (Zm 0) Zo))) Zo)) (Zb 0))
noncomputable def Zey:=Z3 1 Zjf
noncomputable def Zjg: PS:=(Zw (Zc ZV (ZaQ (Ze (ZaD (Ze (Zg 0) (Ze (Zg 0) Zk))) Zk)) (Za 0)))
noncomputable def Zez:=Z0 1 Zjg
theorem Zjh: SimF false Zey Zez:=Zaj (show S [] [] [] false Zjf Zjg from(ZW (Z6 Zal (E.list (Zj (E.tup (Zj (Zn _) (Zj (Zn _) Zq))) Zq)) (Zd 0))))
noncomputable def ZiY: Sm:=Zv (ZU 3 (Zh Zt (Zb 1) (Zb 2))) (Zv (ZaZ (Zin (Zb 1)) (Zb3 4 5) (Z1 (Zbj (ZM (Zh Zdn (Zb 3) (Z9))) (Zbj (ZM (Zh oEq (Zu Zeb (Zf (Zh Zt (Zh Zt (Zb 0) (Zb 2)) (Zb 4)) (Zf (Zh Zt (Zh Zt (Zb 0) (Zb 4)) (Zb 2)) Zo))) (Zm 0))) Zaw)) (ZU 3 (Zu Zhg (Zf (Zb 3) (Zf (Zu Zfy (Zf (Zb 5) (Zf (ZaG (Zf (Zm 0) (Zf (Zh Zt (Zh Zt (Zb 0) (Zb 2)) (Zb 4)) Zo))) Zo))) Zo)))) Z8)) (ZH (Zb 3)))
noncomputable def Zfo:=Z3 3 ZiY
noncomputable def ZiZ: PS:=(Zp (ZF 3 (Zc Zl (Za 1) (Za 2))) (Zp (ZaA (Zio (Za 1)) (Zcg 4 5) (ZO (ZaB (Zx (Zc Zb5 (Za 3) (ZN))) (ZaB (Zx (Zc qEq (Zs ZdR (Ze (Zc Zl (Zc Zl (Za 0) (Za 2)) (Za 4)) (Ze (Zc Zl (Zc Zl (Za 0) (Za 4)) (Za 2)) Zk))) (Zg 0))) Z4)) (ZF 3 (Zs ZfH (Ze (Za 3) (Ze (Zs ZeA (Ze (Za 5) (Ze (ZaD (Ze (Zg 0) (Ze (Zc Zl (Zc Zl (Za 0) (Za 2)) (Za 4)) Zk))) Zk))) Zk)))) ZR)) (Zw (Za 3))))
noncomputable def Zd8:=Z0 3 ZiZ
theorem Znb: SimF false Zfo Zd8:=Zaj (show S [] [] [] false ZiY ZiZ from(ZD (Zaa (O':=[]) (Zz Zy (Zd 1) (Zd 2))) (ZD (ZbC (Zu0 (Zd 1)) PutOk.two (by decide) (by decide) (Zah (ZbN (ZT (ZG ZdV (Zd 3) (Zap))) (ZbN (ZT (ZG ZaV (ZP ZfI (Zj (Zz Zy (Zz Zy (Zd 0) (Zd 2)) (Zd 4)) (Zj (Zz Zy (Zz Zy (Zd 0) (Zd 4)) (Zd 2)) Zq))) (Zn _))) ZaL)) (Zaa (O':=[]) (ZP ZnH (Zj (Zd 3) (Zj (ZP ZjW (Zj (Zd 5) (Zj (E.tup (Zj (Zn _) (Zj (Zz Zy (Zz Zy (Zd 0) (Zd 2)) (Zd 4)) Zq))) Zq))) Zq)))) Zag)) (ZW (Zd 3)))))
noncomputable def Zfp: Sm:=Zv (Z1 (ZM (Zh oIs (Zb 0) (Z9))) (ZH (Z9)) Z8) (Zv (ZU 1 (Zu Zey (Zf (Zh Zt (Zb 0) (Zm 1)) Zo))) (Zv (ZU 2 (ZaH (ZaT (Zf (Zm 1) (Zf (Zu ZaS (Zf (Zb 1) Zo)) Zo))) (Zas 100) Zaw (Zu Zfo (Zf (Zh Zt (Zb 0) (Zm 0)) (Zf (Zb 1) (Zf (Zb 100) Zo)))))) (Zv (Z1 (ZM (Zh oIn (Z9) (Zb 2))) (ZH (Z9)) Z8) (ZH (ZaG (Zf (Zh Zt (Zb 0) (Zm 0)) (Zf (Zb 2) Zo)))))))
noncomputable def ZdP:=Z3 1 Zfp
noncomputable def Zfq: PS:=(Zp (ZO (Zx (Zc qIs (Za 0) (ZN))) (Zw (ZN)) ZR) (Zp (ZF 1 (Zs Zez (Ze (Zc Zl (Za 0) (Zg 1)) Zk))) (Zp (ZF 2 (Zai (Zav (Ze (Zg 1) (Ze (Zs Zat (Ze (Za 1) Zk)) Zk))) (ZX 100) Z4 (Zs Zd8 (Ze (Zc Zl (Za 0) (Zg 0)) (Ze (Za 1) (Ze (Za 100) Zk)))))) (Zp (ZO (Zx (Zc qIn (ZN) (Za 2))) (Zw (ZN)) ZR) (Zw (ZaD (Ze (Zc Zl (Za 0) (Zg 0)) (Ze (Za 2) Zk))))))))
noncomputable def Zdx:=Z0 1 Zfq
theorem Zq0: SimF false ZdP Zdx:=Zaj (show S [] [] [] false Zfp Zfq from(ZD (Zah (ZT (ZG Zb4 (Zd 0) (Zap))) (ZW (Zap)) Zag) (ZD (Zaa (O':=[]) (ZP Zjh (Zj (Zz Zy (Zd 0) (Zn _)) Zq))) (ZD (Zaa (O':=[]) (ZbZ (Gs.range (Zj (Zn _) (Zj (ZaO Za8 (Zj (Zd 1) Zq)) Zq))) PutOk.one (by decide) ZaL (ZP Znb (Zj (Zz Zy (Zd 0) (Zn _)) (Zj (Zd 1) (Zj (Zd 100) Zq)))))) (ZD (Zah (ZT (ZG ZiA (Zap) (Zd 2))) (ZW (Zap)) Zag) (ZW (E.tup (Zj (Zz Zy (Zd 0) (Zn _)) (Zj (Zd 2) Zq)))))))))
noncomputable def Zif: Sm:=Zv (Z1 (ZM (Zh oIs (Zb 0) (Z9))) (ZH (Z9)) Z8) (Zv (ZU 1 (Zu ZeP (Zf (Zh Zt (Zb 0) (Zm 0)) Zo))) (Zv (Z1 (ZM (Zh oIs (Zb 1) (Z9))) (ZH (Z9)) Z8) (ZH (ZaG (Zf (Zb 1) (Zf (Zh Zt (Zb 0) (Zm 1)) Zo))))))
noncomputable def ZdX:=Z3 1 Zif
noncomputable def Zig: PS:=(Zp (ZO (Zx (Zc qIs (Za 0) (ZN))) (Zw (ZN)) ZR) (Zp (ZF 1 (Zs ZfZ (Ze (Zc Zl (Za 0) (Zg 0)) Zk))) (Zp (ZO (Zx (Zc qIs (Za 1) (ZN))) (Zw (ZN)) ZR) (Zw (ZaD (Ze (Za 1) (Ze (Zc Zl (Za 0) (Zg 1)) Zk)))))))
noncomputable def ZdY:=Z0 1 Zig
noncomputable def ZmG: Sm:=ZH (Zu ZdP (Zf (Zu ZdX (Zf (Zb 0) Zo)) Zo))
noncomputable def Ze4:=Z3 1 ZmG
noncomputable def Zih: PS:=(Zw (Zs Zdx (Ze (Zs ZdY (Ze (Za 0) Zk)) Zk)))
noncomputable def Zga: T→Bool
 | .none=>true
 | .tup [_,.lst ts]=>T.flats ts
 | _=>false
noncomputable def Zeo: List T→Option T:=fun ts=>(Z0 1 Zih ts).bind fun t=>if Zga t then some t else none
theorem ZpR(hp:0<H.length)(r:RF H a t F): St ⟨H,[],fun x=>x∈F⟩ [] (fun i=>[a][i]?) (fun i=>[t][i]?) H (fun _=>F):=by
 refine⟨fun i u e=>?_,fun i u e x m=>.inr m,fun i hi=>(nomatch hi),Nat.le_refl _,fun x _ _=>rfl,hp,by simp⟩
 cases i with
 | zero=>cases e;exact⟨a,rfl,r⟩
 | succ i=>simp at e
theorem Zpf(e:ρ 0=some a)(r:RF H a t F)(ht:t≠.none): Z1 (ZM (Zh oIs (Zb 0) (Z9))) (ZH (Z9)) Z8 ρ H=some (none,ρ,H):=by
 cases r <;> first | exact absurd rfl ht | simp[Z1,ZM,Zh,Zb,e,Z9,oIs,ZcD,Z8]
theorem Zpg(e:σ 0=some t)(ht:t≠.none): ZO (Zx (Zc qIs (Za 0) (ZN))) (Zw (ZN)) ZR σ=some (none,σ):=by
 cases t <;> first | exact absurd rfl ht | simp[ZO,Zx,Zc,Za,e,ZN,qIs,ZbM,ZR]
theorem Zph(e:σ 0=some .none): ZO (Zx (Zc qIs (Za 0) (ZN))) (Zw (ZN)) ZR σ=some (some .none,σ):=by
 simp[ZO,Zx,Zc,Za,e,ZN,qIs,ZbM,Zw]
theorem Zm3{a b:PS}{σ1:TL}(h:a σ=some (none,σ1)): Zp a b σ=b σ1:=by simp only[Zp,h,Option.bind_some]
theorem Zqj{a b:PS}{σ1:TL}(h:a σ=some (some t,σ1)): Zp a b σ=some (some t,σ1):=by simp only[Zp,h,Option.bind_some]
theorem Zet{a b:Sm}{ρ1:Lc}{H1:Hp}(h:a ρ H=some (none,ρ1,H1)): Zv a b ρ H=b ρ1 H1:=by simp only[Zv,h,Option.bind_some]
theorem ZwP{a b:Sm}{ρ1:Lc}{H1:Hp}{v:V}(h:a ρ H=some (some v,ρ1,H1)): Zv a b ρ H=some (some v,ρ1,H1):=by simp only[Zv,h,Option.bind_some]
theorem Zr7{u:T}(hp:0<H.length)(r:RF H a t F)(h:ZdY [t]=some u):
  (u=.none∧∃X,ZdX [a] H=some (.none,H++X))∨∃w0 v1 u0 u1 X F0 F1,u=.tup [u0,u1]∧ZdX [a] H=some (.tup [w0,v1],H++X)∧RF (H++X) w0 u0 F0∧F0.Nodup∧(∀x∈F0,H.length≤x)∧RF (H++X) v1 u1 F1:=by
 have st:=ZpR hp r
 unfold ZdY Z0 at h
 simp only[List.length_cons,List.length_nil,Nat.zero_add,if_true]at h
 obtain⟨r1,h,h0⟩:=Zz1.mp h
 unfold Zig at h
 by_cases hn:t=.none
 ·subst hn
  rw[Zqj (Zph rfl)]at h
  cases h
  cases h0
  cases r
  exact .inl ⟨rfl,[],by simp[ZdX,Z3,Zif,Zv,Z1,ZM,Zh,Zb,Z9,oIs,ZcD,ZH]⟩
 ·rw[Zm3 (Zpg (σ:=fun i=>[t][i]?) rfl hn)]at h
  have ev:∀b:Sm,Zv (Z1 (ZM (Zh oIs (Zb 0) (Z9))) (ZH (Z9)) Z8) b (fun i=>[a][i]?) H=b (fun i=>[a][i]?) H:=fun b=>Zet (Zpf rfl r hn)
  obtain⟨r2,h1',h⟩:=Zz0.mp h
  obtain⟨u0,h1,e1⟩:=Zz1.mp h1'
  subst e1
  have x1:E [] [] true (Zu ZeP (Zf (Zh Zt (Zb 0) (Zm 0)) Zo)) (Zs ZfZ (Ze (Zc Zl (Za 0) (Zg 0)) Zk)):=ZcW ZtX (Zj (Zz Zy (Zd 0) (Zn _)) Zq)
  obtain⟨w0,X,F0,a1,a2,a3,a4⟩:=x1 _ _ _ _ _ _ st h1
  have new:∀x∈F0,H.length≤x:=fun x m=>(a3 x m).nil
  have e2:ZU 1 (Zu ZeP (Zf (Zh Zt (Zb 0) (Zm 0)) Zo)) (fun i=>[a][i]?) H=some (none,upd (fun i=>[a][i]?) 1 w0,H++X):=by simp only[ZU,a1,Option.map_some]
  simp only at h
  have ev2:∀b:Sm,Zv (ZU 1 (Zu ZeP (Zf (Zh Zt (Zb 0) (Zm 0)) Zo))) b (fun i=>[a][i]?) H=b (upd (fun i=>[a][i]?) 1 w0) (H++X):=fun b=>Zet e2
  have fin:∀o,Zv (Z1 (ZM (Zh oIs (Zb 1) (Z9))) (ZH (Z9)) Z8) (ZH (ZaG (Zf (Zb 1) (Zf (Zh Zt (Zb 0) (Zm 1)) Zo)))) (upd (fun i=>[a][i]?) 1 w0) (H++X)=some o→ZdX [a] H=some (o.1.getD .none,o.2.2):=fun o ho=>by
   unfold ZdX Z3 Zif
   simp only[List.length_cons,List.length_nil,Nat.zero_add,if_true]
   rw[ev,ev2,ho]
   rfl
  by_cases hu:u0=.none
  ·subst hu
   cases a2
   obtain⟨r3,h2,h⟩:=Zz0.mp h
   have:r3=(some .none,ZY (fun i=>[t][i]?) 1 .none):=by
    have:=h2
    simp[ZO,Zx,Zc,Za,ZY,ZN,qIs,ZbM,Zw]at this
    exact this.symm
   subst this
   cases h
   cases h0
   refine .inl ⟨rfl,X,fin (some .none,upd (fun i=>[a][i]?) 1 .none,H++X) ?_⟩
   exact ZwP (by simp[Z1,ZM,Zh,Zb,upd,Z9,oIs,ZcD,ZH])
  ·have e3:Z1 (ZM (Zh oIs (Zb 1) (Z9))) (ZH (Z9)) Z8 (upd (fun i=>[a][i]?) 1 w0) (H++X)=some (none,upd (fun i=>[a][i]?) 1 w0,H++X):=by
    cases a2 <;> first | exact(hu rfl).elim | simp[Z1,ZM,Zh,Zb,upd,Z9,oIs,ZcD,Z8]
   have e4:ZO (Zx (Zc qIs (Za 1) (ZN))) (Zw (ZN)) ZR (ZY (fun i=>[t][i]?) 1 u0)=some (none,ZY (fun i=>[t][i]?) 1 u0):=by
    cases u0 <;> first | exact(hu rfl).elim | simp[ZO,Zx,Zc,Za,ZY,ZN,qIs,ZbM,ZR]
   rw[Zm3 e4]at h
   obtain⟨u',h5,h6⟩:=Zz1.mp h
   subst h6
   obtain⟨us,h7,h8⟩:=Zz1.mp h5
   subst h8
   obtain⟨q0,g1,h9⟩:=Zz0.mp h7
   obtain⟨qs,g2,h10⟩:=Zz0.mp h9
   cases h10
   obtain⟨q1,g3,g6⟩:=Zz0.mp g2
   obtain⟨qs',g4,g7⟩:=Zz0.mp g6
   cases g7
   cases g4
   have eq0:q0=u0:=by
    have:ZY (fun i=>[t][i]?) 1 u0 1=some q0:=g1
    simp[ZY]at this
    exact this.symm
   subst eq0
   have g5:Zl t (.int 1)=some q1:=by
    have:=g3
    simpa [Zc,Za,ZY,Zg]using this
   obtain⟨v1,F1,b1,b2,b3⟩:=Zy _ _ _ _ _ _ _ _ (r.ext X) (RF.int (H:=H++X) 1) g5
   cases h0
   refine .inr ⟨w0,v1,q0,q1,X,F0,F1,rfl,fin (some (.tup [w0,v1]),upd (fun i=>[a][i]?) 1 w0,H++X) ?_,a2,a4 rfl,new,b2⟩
   rw[Zet e3]
   simp[ZH,ZaG,Zf,Zb,upd,Zh,Zm,b1,Zo,Za5]
theorem Zn7{put:T→TL→Option TL}{f:PE}{σ:TL}: ∀{ts us:List T},Zch put Z4 f σ ts=some us→T.flats us=true→Zch put Z4 (Zb1 f) σ ts=some us
 | [],_,h,_=>h
 | t::ts,us,h,hf=>by
  obtain⟨σ1,h1,h⟩:=Zz0.mp h
  simp only[Z4,Option.bind_some,if_true]at h
  obtain⟨x,h2,h⟩:=Zz0.mp h
  obtain⟨xs,h3,h⟩:=Zz1.mp h
  subst h
  simp only[T.flats,Bool.and_eq_true]at hf
  simp only[Zch,h1,Option.bind_some,Z4,if_true,Zb1,h2,hf.1,Zn7 h3 hf.2,Option.map_some]
theorem ZnI{u:T}(hp:0<H.length)(r:RF H a t F)(h:Zdx [t]=some u)(ok:Zga u=true):
  (u=.none∧∃X,ZdP [a] H=some (.none,H++X))∨∃w0 w1 u0 u1 X F1,u=.tup [u0,u1]∧Zt a (.int 0) H=some (w0,H)∧Zl t (.int 0)=some u0∧ZdP [a] H=some (.tup [w0,w1],H++X)∧RF (H++X) w1 u1 F1∧F1.Nodup∧(∀x∈F1,H.length≤x):=by
 have st:=ZpR hp r
 have hfull:=h
 unfold Zdx Z0 at h
 simp only[List.length_cons,List.length_nil,Nat.zero_add,if_true]at h
 obtain⟨r1,h,h0⟩:=Zz1.mp h
 unfold Zfq at h
 by_cases hn:t=.none
 ·subst hn
  rw[Zqj (Zph rfl)]at h
  cases h
  cases h0
  cases r
  exact .inl ⟨rfl,[],by simp[ZdP,Z3,Zfp,Zv,Z1,ZM,Zh,Zb,Z9,oIs,ZcD,ZH]⟩
 ·rw[Zm3 (Zpg (σ:=fun i=>[t][i]?) rfl hn)]at h
  have ev:∀b:Sm,Zv (Z1 (ZM (Zh oIs (Zb 0) (Z9))) (ZH (Z9)) Z8) b (fun i=>[a][i]?) H=b (fun i=>[a][i]?) H:=fun b=>Zet (Zpf rfl r hn)
  obtain⟨r2,h1',h⟩:=Zz0.mp h
  obtain⟨t1,h1,e1⟩:=Zz1.mp h1'
  subst e1
  have x1:E [] ([0]++[]) false (Zu Zey (Zf (Zh Zt (Zb 0) (Zm 1)) Zo)) (Zs Zez (Ze (Zc Zl (Za 0) (Zg 1)) Zk)):=ZP Zjh (Zj (Zz Zy (Zd 0) (Zn _)) Zq)
  obtain⟨v1,X1,Fr,a1,a2,a3,_⟩:=x1 _ _ _ _ _ _ st h1
  have st1:=(st.ext X1).put (j:=1) (by simp) a2 (fun x m=>st.from_src (a3 x m)) (fun i hi=>(nomatch hi))
  have ev1:∀b:Sm,Zv (ZU 1 (Zu Zey (Zf (Zh Zt (Zb 0) (Zm 1)) Zo))) b (fun i=>[a][i]?) H=b (upd (fun i=>[a][i]?) 1 v1) (H++X1):=fun b=>Zet (by simp only[ZU,a1,Option.map_some])
  simp only at h
  obtain⟨r3,h2',h⟩:=Zz0.mp h
  obtain⟨t2,h2,e2⟩:=Zz1.mp h2'
  subst e2
  simp only at h
  generalize hσ:ZY (fun i=>[t][i]?) 1 t1=σ1 at *
  generalize hρ:upd (fun i=>[a][i]?) 1 v1=ρ1 at *
  have hρ0:ρ1 0=some a:=by rw[←hρ];simp[upd]
  have hσ0:σ1 0=some t:=by rw[←hσ];simp[ZY]
  have x2:∀ts,T.flats ts=true→Zai (Zav (Ze (Zg 1) (Ze (Zs Zat (Ze (Za 1) Zk)) Zk))) (ZX 100) Z4 (Zs Zd8 (Ze (Zc Zl (Za 0) (Zg 0)) (Ze (Za 1) (Ze (Za 100) Zk)))) σ1=some (.lst ts)→∃w X G,ZaH (ZaT (Zf (Zm 1) (Zf (Zu ZaS (Zf (Zb 1) Zo)) Zo))) (Zas 100) Zaw (Zu Zfo (Zf (Zh Zt (Zb 0) (Zm 0)) (Zf (Zb 1) (Zf (Zb 100) Zo)))) ρ1 (H++X1)=some (w,H++X1++X)∧RF (H++X1++X) w (.lst ts) G∧G.Nodup∧∀x∈G,(H++X1).length≤x:=fun ts hf he=>by
   have y:E [] [] true (ZaH (ZaT (Zf (Zm 1) (Zf (Zu ZaS (Zf (Zb 1) Zo)) Zo))) (Zas 100) Zaw (Zu Zfo (Zf (Zh Zt (Zb 0) (Zm 0)) (Zf (Zb 1) (Zf (Zb 100) Zo))))) (Zai (Zav (Ze (Zg 1) (Ze (Zs Zat (Ze (Za 1) Zk)) Zk))) (ZX 100) Z4 (Zb1 (Zs Zd8 (Ze (Zc Zl (Za 0) (Zg 0)) (Ze (Za 1) (Ze (Za 100) Zk)))))):=Zdk (Gs.range (Zj (Zn _) (Zj (ZaO Za8 (Zj (Zd 1) Zq)) Zq))) PutOk.one (by decide) ZaL (E.flat (ZP Znb (Zj (Zz Zy (Zd 0) (Zn _)) (Zj (Zd 1) (Zj (Zd 100) Zq)))))
   have he2:Zai (Zav (Ze (Zg 1) (Ze (Zs Zat (Ze (Za 1) Zk)) Zk))) (ZX 100) Z4 (Zb1 (Zs Zd8 (Ze (Zc Zl (Za 0) (Zg 0)) (Ze (Za 1) (Ze (Za 100) Zk))))) σ1=some (.lst ts):=by
    obtain⟨zs,g1,g2⟩:=Zz0.mp he
    split at g2
    ·rename_i hl
     obtain⟨us,g3,g4⟩:=Zz1.mp g2
     cases g4
     simp only[Zai,g1,Option.bind_some]
     rw[if_pos hl,Zn7 g3 hf]
     rfl
    ·cases g2
   obtain⟨w,X,G,b1,b2,b3,b4⟩:=y _ _ _ _ _ _ st1 he2
   exact⟨w,X,G,b1,b2,b4 rfl,fun x m=>(b3 x m).nil⟩
  obtain⟨ts,rfl⟩:∃ts,t2=.lst ts:=by
   obtain⟨zs,g1,g2⟩:=Zz0.mp h2
   split at g2
   ·obtain⟨us,g3,g4⟩:=Zz1.mp g2
    exact⟨us,g4.symm⟩
   ·cases g2
  by_cases hu:u=.none
  ·subst hu
   obtain⟨v,X,G,c1,c2,_⟩:=Zq0 H [a] [t] .none F hp (RFs.one r) hfull
   cases c2
   exact .inl ⟨rfl,X,c1⟩
  ·obtain⟨r4,h3,h⟩:=Zz0.mp h
   obtain⟨b,h4,h5⟩:=Zz0.mp h3
   cases b with
   | true=>
    simp only[if_true]at h5
    cases h5
    cases h
    cases h0
    exact absurd rfl hu
   | false=>
    cases h5
    simp only at h
    obtain⟨u',h6,h7⟩:=Zz1.mp h
    subst h7
    obtain⟨us,h8,h9⟩:=Zz1.mp h6
    subst h9
    obtain⟨q0,g1,h10⟩:=Zz0.mp h8
    obtain⟨qs,g2,h11⟩:=Zz0.mp h10
    cases h11
    obtain⟨q1,g3,g6⟩:=Zz0.mp g2
    obtain⟨qs',g4,g7⟩:=Zz0.mp g6
    cases g7
    cases g4
    have eq1:q1=.lst ts:=by
     have:ZY σ1 2 (.lst ts) 2=some q1:=g3
     simp[ZY]at this
     exact this.symm
    subst eq1
    have g5:Zl t (.int 0)=some q0:=by
     have:=g1
     simpa [Zc,Za,ZY,Zg,hσ0]using this
    cases h0
    obtain⟨w,X,G,b1,b2,b3,b4⟩:=x2 ts ok h2
    obtain⟨w0,F0,i1,i2,i3⟩:=Zy _ _ _ _ _ _ _ _ r (RF.int (H:=H) 0) g5
    have st2:=(st1.ext X).put (j:=2) (by simp) b2 (fun x m=>.inl (by have:=b4 x m;simp at this;show H.length≤x;omega)) (fun i hi=>(nomatch hi))
    have bt:Bt [] (ZM (Zh oIn (Z9) (Zb 2))) (Zx (Zc qIn (ZN) (Za 2))):=ZT (ZG ZiA Zap (Zd 2))
    obtain⟨Y,k1⟩:=bt _ _ _ _ _ _ st2 h4
    refine .inr ⟨w0,w,q0,.lst ts,X1++X++Y,G,rfl,i1,g5,?_,by rw[←List.append_assoc,←List.append_assoc];exact b2.ext Y,b3,fun x m=>by have:=b4 x m;simp at this;omega⟩
    unfold ZdP Z3 Zfp
    simp only[List.length_cons,List.length_nil,Nat.zero_add,if_true]
    rw[ev,ev1,Zet (ρ1:=upd ρ1 2 w) (H1:=H++X1++X) (by simp only[ZU,b1,Option.map_some]),Zet (ρ1:=upd ρ1 2 w) (H1:=H++X1++X++Y) (by simp only[Z1,k1,Option.bind_some];rfl)]
    have hidx:=(Zk9 i1 (X1++X++Y)).2
    have hr:(upd ρ1 2 w) 0=some a:=by simp[upd,hρ0]
    have h2w:(upd ρ1 2 w) 2=some w:=by simp[upd]
    simp only[←List.append_assoc]at hidx ⊢
    generalize H++X1++X++Y=K at *
    have e5:ZaG (Zf (Zh Zt (Zb 0) (Zm 0)) (Zf (Zb 2) Zo)) (upd ρ1 2 w) K=some (.tup [w0,w],K):=by
     simp only[ZaG,Zf,Zh,Zb,hr,h2w,Zm,Zo,Option.map_some,Option.bind_some,hidx]
     rw[if_pos (by rw[Za5];simp)]
    simp only[ZH,e5,Option.map_some]
    rfl
theorem ZpS: SimF true Ze4 Zeo:=fun H vs ts t F1 hp r h=>by
 obtain⟨t',h1,h2⟩:=Zz0.mp h
 by_cases ok:Zga t'=true
 ·rw[if_pos ok]at h2
  cases h2
  unfold Z0 at h1
  split at h1
  ·rename_i hl
   obtain⟨t0,rfl⟩:∃t0,ts=[t0]:=List.length_eq_one_iff.mp hl
   obtain⟨a,rfl,r0⟩:=r.one_inv
   obtain⟨r1,h3,h4⟩:=Zz1.mp h1
   obtain⟨u,h5,h6⟩:=Zz1.mp h3
   subst h6
   cases h4
   obtain⟨us,h7,h8⟩:=Zz0.mp h5
   obtain⟨q0,g1,h9⟩:=Zz0.mp h7
   obtain⟨qs,g2,h10⟩:=Zz0.mp h9
   cases h10
   cases g2
   have g3:ZdY [t0]=some q0:=by
    have:=g1
    simpa [Zs,Ze,Za,Zk]using this
   have g4:Zdx [q0]=some u:=h8
   have run:∀v1 X1 v2 X2,ZdX [a] H=some (v1,H++X1)→ZdP [v1] (H++X1)=some (v2,H++X1++X2)→Ze4 [a] H=some (v2,H++(X1++X2)):=fun v1 X1 v2 X2 e1 e2=>by
    simp[Ze4,Z3,ZmG,ZH,Zu,Zf,Zb,Zo,e1,e2]
   rcases Zr7 hp r0 g3 with⟨rfl,X,e1⟩ | ⟨w0,v1,u0,u1,X,F0,F2,rfl,e1,a1,a2,a3,a4⟩
   ·have hp2:0<(H++X).length:=by rw[List.length_append];omega
    rcases ZnI hp2 (.none (H:=H++X)) g4 ok with⟨rfl,Y,e2⟩ | ⟨_,_,_,_,_,_,_,e2,_⟩
    ·exact⟨.none,X++Y,[],run _ _ _ _ e1 e2,.none,by simp,by simp⟩
    ·cases e2
   ·have hp2:0<(H++X).length:=by rw[List.length_append];omega
    rcases ZnI hp2 (.tup (.cons a1 (.one a4))) g4 ok with⟨rfl,Y,e2⟩ | ⟨x0,w1,y0,y1,Y,F1',rfl,e3,e4,e2,b1,b2,b3⟩
    ·exact⟨.none,X++Y,[],run _ _ _ _ e1 e2,.none,by simp,by simp⟩
    ·have ex:x0=w0:=by
      have:Zt (.tup [w0,v1]) (.int 0) (H++X)=some (w0,H++X):=by simp[Zt,seqIndex?]
      rw[this]at e3
      cases e3
      rfl
     have ey:y0=u0:=by
      have:Zl (.tup [u0,u1]) (.int 0)=some u0:=by simp[Zl,seqIndex?]
      rw[this]at e4
      cases e4
      rfl
     subst ex ey
     have nd:(F0++F1').Nodup:=by
      rw[List.nodup_append]
      refine⟨a2,b2,fun x hx y hy e=>?_⟩
      have:=a1.lt x hx
      have:=b3 y hy
      omega
     have nw:∀x∈F0++F1',H.length≤x:=fun x m=>by
      rcases Zz8.mp m with m | m
      ·exact a3 x m
      ·have:=b3 x m;rw[List.length_append]at this;omega
     exact⟨.tup [x0,w1],X++Y,F0++F1',run _ _ _ _ e1 e2,by rw[←List.append_assoc];exact .tup (.cons (a1.ext Y) (.one b1)),fun x m=>.inl (nw x m),fun _=>⟨nd,nw⟩⟩
  ·cases h1
 ·rw[if_neg ok]at h2
  cases h2
noncomputable def ZiL: Sm:=Zv (Z1 (ZM (Zh Zdn (Zb 0) (Z9))) (ZH (Zu Zjz (Zf (Zb 1) (Zf (Zb 0) Zo)))) Z8) (Zv (Z1 (ZM (Zh oEq (Zh Zt (Zb 1) (Zm 0)) (Zm 0))) (ZH (Zh Zt (Zb 1) (Zm 1))) Z8) (ZH (Z9)))
noncomputable def ZiM:=Z3 2 ZiL
noncomputable def ZiN: PS:=(Zp (ZO (Zx (Zc Zb5 (Za 0) (ZN))) (Zw (Zs Zg1 (Ze (Za 1) (Ze (Za 0) Zk)))) ZR) (Zp (ZO (Zx (Zc qEq (Zc Zl (Za 1) (Zg 0)) (Zg 0))) (Zw (Zc Zl (Za 1) (Zg 1))) ZR) (Zw (ZN))))
noncomputable def ZgQ:=Z0 2 ZiN
theorem Zqx: SimF false ZiM ZgQ:=Zaj (show S [] [] [] false ZiL ZiN from(ZD (Zah (ZT (ZG ZdV (Zd 0) (Zap))) (ZW (ZP Zrf (Zj (Zd 1) (Zj (Zd 0) Zq)))) Zag) (ZD (Zah (ZT (ZG ZaV (Zz Zy (Zd 1) (Zn _)) (Zn _))) (ZW (Zz Zy (Zd 1) (Zn _))) Zag) (ZW (Zap)))))
noncomputable def Zji: Sm:=Zv (ZU 3 (Zbh Zo)) (Zv (ZaZ (Zc0 (Zb 0) (Zb 2)) (Zb3 4 5) (Zv (ZU 6 (Zu ZiM (Zf (Zb 4) (Zf (Zu Zfy (Zf (Zb 1) (Zf (Zu Zg0 (Zf (Zb 5) (Zf (eUn Zd4 (Zm 1)) Zo))) Zo))) Zo)))) (Zv (Z1 (Zbj (ZM (Zh oIs (Zb 6) (Z9))) (Zbj (ZM (Zh Zdn (Zb 4) (Z9))) Zaw)) (ZH (Z9)) Z8) (Zcz (Zeg (Zb 3) (Zb 6)))))) (ZH (Zb 3)))
noncomputable def Zjj:=Z3 3 Zji
noncomputable def Zjk: PS:=(Zp (ZF 3 (ZaQ Zk)) (Zp (ZaA (Zc2 (Za 0) (Za 2)) (Zcg 4 5) (Zp (ZF 6 (Zs ZgQ (Ze (Za 4) (Ze (Zs ZeA (Ze (Za 1) (Ze (Zs Zfu (Ze (Za 5) (Ze (pUn Zc1 (Zg 1)) Zk))) Zk))) Zk)))) (Zp (ZO (ZaB (Zx (Zc qIs (Za 6) (ZN))) (ZaB (Zx (Zc Zb5 (Za 4) (ZN))) Z4)) (Zw (ZN)) ZR) (Zdv 3 [] Za1 (Zb1 (Za 6)))))) (Zw (Za 3))))
noncomputable def ZgY:=Z0 3 Zjk
theorem Zq1: SimF false Zjj ZgY:=Zaj (show S [] [3] [] false Zji Zjk from(ZD (Zda (O':=[3]) (E.list Zq)) (ZD (ZbC (Gs.zip (Zd 0) (Zd 2)) PutOk.two (by decide) (by decide) (ZD (Zaa (O':=[3]) (ZP Zqx (Zj (Zd 4) (Zj (ZP ZjW (Zj (Zd 1) (Zj (ZP Znn (Zj (Zd 5) (Zj (Zfc Zff (Zn _)) Zq))) Zq))) Zq)))) (ZD (Zah (ZbN (ZT (ZG Zb4 (Zd 6) (Zap))) (ZbN (ZT (ZG ZdV (Zd 4) (Zap))) ZaL)) (ZW (Zap)) Zag) (Zim (O':=[3]) (by decide) ZcT (Zcf (O':=[]) (E.flat (Zd 6))) (by decide) (by decide))))) (ZW (Zd 3)))))
noncomputable def Zlg: Sm:=Zv (Z1 (ZM (Zh oIs (Zb 0) (Z9))) (ZH (Z9)) Z8) (Zv (ZU 1 (Zu Zey (Zf (Zh Zt (Zb 0) (Zm 1)) Zo))) (Zv (ZU 2 (ZaH (Zc0 (Zh Zt (Zb 0) (Zm 0)) (Zb 1)) (Zb3 100 101) Zaw (Zu Zjj (Zf (Zb 100) (Zf (Zb 101) (Zf (Zb 1) Zo)))))) (Zv (Z1 (ZM (Zh oIn (Z9) (Zb 2))) (ZH (Z9)) Z8) (ZH (ZaG (Zf (Zb 2) (Zf (Zh Zt (Zb 0) (Zm 1)) Zo)))))))
noncomputable def Zlh:=Z3 1 Zlg
noncomputable def Zhv: PS:=(Zp (ZO (Zx (Zc qIs (Za 0) (ZN))) (Zw (ZN)) ZR) (Zp (ZF 1 (Zs Zez (Ze (Zc Zl (Za 0) (Zg 1)) Zk))) (Zp (ZF 2 (Zai (Zc2 (Zc Zl (Za 0) (Zg 0)) (Za 1)) (Zcg 100 101) Z4 (Zs ZgY (Ze (Za 100) (Ze (Za 101) (Ze (Za 1) Zk)))))) (Zp (ZO (Zx (Zc qIn (ZN) (Za 2))) (Zw (ZN)) ZR) (Zw (ZaD (Ze (Za 2) (Ze (Zc Zl (Za 0) (Zg 1)) Zk))))))))
noncomputable def ZeK:=Z0 1 Zhv
theorem ZsY: SimF false Zlh ZeK:=Zaj (show S [] [] [] false Zlg Zhv from(ZD (Zah (ZT (ZG Zb4 (Zd 0) (Zap))) (ZW (Zap)) Zag) (ZD (Zaa (O':=[]) (ZP Zjh (Zj (Zz Zy (Zd 0) (Zn _)) Zq))) (ZD (Zaa (O':=[]) (ZbZ (Gs.zip (Zz Zy (Zd 0) (Zn _)) (Zd 1)) PutOk.two (by decide) ZaL (ZP Zq1 (Zj (Zd 100) (Zj (Zd 101) (Zj (Zd 1) Zq)))))) (ZD (Zah (ZT (ZG ZiA (Zap) (Zd 2))) (ZW (Zap)) Zag) (ZW (E.tup (Zj (Zd 2) (Zj (Zz Zy (Zd 0) (Zn _)) Zq)))))))))
noncomputable def Zme: Sm:=ZH (Zu Ze4 (Zf (Zu Zlh (Zf (Zu Ze4 (Zf (Zb 0) Zo)) Zo)) Zo))
noncomputable def Zgb:=Z3 1 Zme
noncomputable def ZhY: PS:=(Zw (Zs Zeo (Ze (Zs ZeK (Ze (Zs Zeo (Ze (Za 0) Zk)) Zk)) Zk)))
noncomputable def Zb9:=Z0 1 ZhY
theorem Zmf: SimF true Zgb Zb9:=Zaj (show S [] [] [] true Zme ZhY from(Zbs (ZcW ZpS (Zj (ZP ZsY (Zj (ZP ZpS (Zj (Zd 0) Zq)) Zq)) Zq))))
noncomputable def Zm7: PS:=(Zp (ZF 1 (Zs Zat (Ze (Za 0) Zk))) (Zp (ZF 2 (Zai (Zaz (Za 0)) (ZX 100) Z4 (pFl (Zs Zcx (Ze (Za 100) Zk))))) (Zp (ZF 3 (Zg 1)) (Zp (Zdb (Zx (Zc qLt (Za 3) (Za 1))) (Zp (ZF 4 (Zai (Zaz (Za 2)) (ZX 102) Z4 (pFl (Zs Zcx (Ze (Za 102) Zk))))) (Zp (ZaA (Zav (Ze (Za 1) Zk)) (ZX 5) (ZaA (Zav (Ze (Za 1) Zk)) (ZX 6) (ZaA (Zav (Ze (Za 1) Zk)) (ZX 7) (ZO (ZaB (Zx (Zc Zb5 (Zc Zl (Zc Zl (Za 4) (Za 5)) (Za 7)) (ZN))) (ZaB (Zx (Zc Zb5 (Zc Zl (Zc Zl (Za 4) (Za 7)) (Za 6)) (ZN))) Z4)) (Zp (ZF 8 (Zc ZV (Zc Zl (Zc Zl (Za 4) (Za 5)) (Za 7)) (Zc Zl (Zc Zl (Za 4) (Za 7)) (Za 6)))) (ZO (bOr (Zx (Zc qIs (Zc Zl (Zc Zl (Za 2) (Za 5)) (Za 6)) (ZN))) (bOr (Zx (Zc qLt (Za 8) (Zc Zl (Zc Zl (Za 2) (Za 5)) (Za 6)))) Zb0)) (ZbR 2 [] (Zb1 (Za 8)) (Zem Za1 (Za 5)) (Za 6)) ZR)) ZR)))) (ZF 3 (Zc ZaC (Zg 2) (Za 3))))) 1000000) (Zp (ZaA (Zav (Ze (Za 1) Zk)) (ZX 5) (ZO (Zx (Zc qLt (Zc Zl (Zc Zl (Za 2) (Za 5)) (Za 5)) (Zg 0))) (Zw (ZN)) ZR)) (Zw (Za 2)))))))
noncomputable def Zfn:=Z0 1 Zm7
noncomputable def Zn8: PS:=(Zp (ZF 2 (Zc Zl (Za 0) (Zg 0))) (Zp (ZF 3 (Zc Zl (Za 1) (Zg 0))) (Zp (ZF 4 (Zg 1)) (Zp (ZF 5 (Zg 0)) (Zp (Zdb (Zx (Zc qNe (Za 3) (Zg 0))) (Zp (ZF 6 (Zc ZcH (Za 2) (Za 3))) (Zp (ZF 7 (Zc ZaM (Za 2) (Zc ZaC (Za 6) (Za 3)))) (Zp (ZF 2 (Za 3)) (Zp (ZF 3 (Za 7)) (Zp (ZF 7 (Zc ZaM (Za 4) (Zc ZaC (Za 6) (Za 5)))) (Zp (ZF 4 (Za 5)) (ZF 5 (Za 7)))))))) 1000000) (Zp (ZF 8 (Zc ZaM (Zc Zl (Za 1) (Zg 1)) (Zc Zl (Za 0) (Zg 1)))) (Zp (ZO (Zx (Zc qEq (Za 2) (Zg 0))) (Zp (ZO (Zx (Zc qNe (Za 8) (Zg 0))) (Zw (ZN)) ZR) (Zw (Za 0))) ZR) (Zp (ZO (Zx (Zc qNe (Zc Za0 (Za 8) (Za 2)) (Zg 0))) (Zw (ZN)) ZR) (Zw (Zs ZdO (Ze (Zc ZaC (Zc ZcH (Zc Zl (Za 0) (Zg 0)) (Za 2)) (Zc Zl (Za 1) (Zg 0))) (Ze (Zc ZV (Zc Zl (Za 0) (Zg 1)) (Zc ZaC (Zc ZaC (Zc Zl (Za 0) (Zg 0)) (Za 4)) (Zc ZcH (Za 8) (Za 2)))) Zk))))))))))))
noncomputable def Zli:=Z0 2 Zn8
noncomputable def Zno: PS:=(Zp (ZF 2 (Zc ZV (ZaQ (Ze (ZaD (Ze (Zg 0) (Ze (Zg 0) Zk))) Zk)) (Za 1))) (Zp (ZF 3 (pFl (Zc ZV (ZaQ (Ze (ZaD (Ze (Zg 0) (Ze (Zg 0) Zk))) Zk)) (Za 1)))) (Zp (ZaA (Zav (Ze (Zg 1) (Ze (Zs Zat (Ze (Za 2) Zk)) Zk))) (ZX 4) (ZaA (Zav (Ze (Zs Zat (Ze (Za 2) Zk)) Zk)) (ZX 5) (Zp (ZF 6 (Zc Zl (Zc Zl (Za 0) (Za 4)) (Za 5))) (ZO (ZaB (Zx (Zc qNe (Za 4) (Za 5))) (ZaB (Zx (Zc Zb5 (Za 6) (ZN))) (ZaB (Zx (Zc qEq (Zc Zl (Zc Zl (Za 0) (Za 5)) (Za 4)) (pUn Zc1 (Za 6)))) (ZaB (Zx (Zc Zb5 (Zc Zl (Za 3) (Za 4)) (ZN))) Z4)))) (ZbR 3 [] (Zb1 (Zs Zli (Ze (Zc Zl (Za 3) (Za 4)) (Ze (Zs ZdO (Ze (Zc Zl (Zc Zl (Za 2) (Za 5)) (Zg 0)) (Ze (Zc ZV (Zc Zl (Zc Zl (Za 2) (Za 5)) (Zg 1)) (Za 6)) Zk))) Zk)))) Za1 (Za 4)) ZR)))) (Zp (ZO (Zx (Zc qIn (ZN) (Za 3))) (Zw (ZN)) ZR) (Zw (Zdr (Za 3) 1))))))
noncomputable def Zg2:=Z0 2 Zno
noncomputable def Zng: PS:=(Zp (ZF 2 (Zc ZV (ZaQ (Ze (ZaD (Ze (Zg 0) (Ze (Zg 0) Zk))) Zk)) (Za 1))) (Zp (ZF 3 (Zai (Zaz (Za 0)) (ZX 100) Z4 (pFl (Zs Zcx (Ze (Za 100) Zk))))) (Zp (ZaA (Zav (Ze (Zs Zat (Ze (Za 2) Zk)) Zk)) (ZX 4) (ZaA (Zav (Ze (Zs Zat (Ze (Za 2) Zk)) Zk)) (ZX 5) (Zp (ZF 6 (Zs Zhs (Ze (Zc Zl (Zc Zl (Za 2) (Za 4)) (Zg 0)) (Ze (Zc Zl (Zc Zl (Za 2) (Za 5)) (Zg 0)) Zk)))) (Zp (ZF 7 (Zc ZaM (Zc Zl (Zc Zl (Za 2) (Za 4)) (Zg 1)) (Zc Zl (Zc Zl (Za 2) (Za 5)) (Zg 1)))) (Zp (ZF 8 (Zc Zl (Zc Zl (Za 0) (Za 4)) (Za 5))) (ZO (ZaB (Zx (Zc qNe (Za 4) (Za 5))) (ZaB (Zx (Zc qEq (Za 6) (Zg 0))) Z4)) (Zp (ZO (ZaB (Zx (Zc Zb5 (Za 8) (ZN))) (ZaB (Zx (Zc qLt (Za 8) (Za 7))) Z4)) (Zw (ZN)) ZR) (ZbR 3 [] (Zb1 (Za 7)) (Zem Za1 (Za 4)) (Za 5))) (ZO (ZaB (Zx (Zc qNe (Za 4) (Za 5))) (ZaB (Zx (Zc Zb5 (Za 8) (ZN))) Z4)) (ZbR 3 [] (Zc ZaM (Za 8) (Zc Za0 (Zc ZaM (Za 8) (Za 7)) (Za 6))) (Zem Za1 (Za 4)) (Za 5)) ZR))))))) (Zw (Za 3)))))
noncomputable def Zjl:=Z0 2 Zng
noncomputable def Zj6: PS:=(Zp (ZO (Zx (Zc qIs (Za 0) (ZN))) (Zw (ZN)) ZR) (Zp (ZF 1 (Zs Zfn (Ze (Zc Zl (Za 0) (Zg 0)) Zk))) (Zp (ZO (Zx (Zc qIs (Za 1) (ZN))) (Zw (ZN)) ZR) (Zp (ZF 2 (Zs Zg2 (Ze (Za 1) (Ze (Zc Zl (Za 0) (Zg 1)) Zk)))) (Zp (ZO (Zx (Zc qIs (Za 2) (ZN))) (Zw (ZN)) ZR) (Zp (ZF 1 (Zs Zjl (Ze (Za 1) (Ze (Za 2) Zk)))) (Zp (ZO (Zx (Zc qIs (Za 1) (ZN))) (Zw (ZN)) ZR) (Zp (ZF 1 (Zs Zfn (Ze (Za 1) Zk))) (Zp (ZO (Zx (Zc qIs (Za 1) (ZN))) (Zw (ZN)) ZR) (Zp (ZF 2 (Zs Zg2 (Ze (Za 1) (Ze (Za 2) Zk)))) (Zp (ZO (Zx (Zc qIs (Za 2) (ZN))) (Zw (ZN)) ZR) (Zw (ZaD (Ze (Za 1) (Ze (Za 2) Zk)))))))))))))))
noncomputable def ZcK:=Z0 1 Zj6
noncomputable def Zj7: Sm:=Zv (Z1 (tOr (Zb2 (ZM (eIs "tuple" (Zb 0)))) (tOr (ZM (Zh oNe (Zu ZaS (Zf (Zb 0) Zo)) (Zm 2))) (tOr (Zb2 (ZM (Zu ZkE (Zf (Zh Zt (Zb 0) (Zm 0)) (Zf (Zh Zab (Zb 1) (Zm 1)) Zo))))) Zca))) (ZH (Za4 false)) Z8) (Zv (Z1 (tOr (Zb2 (ZM (eIs "list" (Zh Zt (Zb 0) (Zm 1))))) (tOr (ZM (Zh oNe (Zu ZaS (Zf (Zh Zt (Zb 0) (Zm 1)) Zo)) (Zb 1))) Zca)) (ZH (Za4 false)) Z8) (Zv (ZaZ (ZbQ (Zh Zt (Zb 0) (Zm 1))) (Zas 2) (Zv (Z1 (tOr (Zb2 (ZM (eIs "tuple" (Zb 2)))) (tOr (ZM (Zh oNe (Zu ZaS (Zf (Zb 2) Zo)) (Zm 2))) Zca)) (ZH (Za4 false)) Z8) (Zv (Z1 (tOr (Zb2 (ZM (Zu Zfz (Zf (Zh Zt (Zb 2) (Zm 0)) Zo)))) (tOr (Zb2 (ZM (Zu Zfz (Zf (Zh Zt (Zb 2) (Zm 1)) Zo)))) Zca)) (ZH (Za4 false)) Z8) (Z1 (tOr (ZM (Zh oLt (Zh Zt (Zb 2) (Zm 0)) (Zm 0))) (tOr (Zbj (ZM (Zh oGt (Zh Zt (Zb 2) (Zm 0)) (Zm 0))) (Zbj (Zb2 (Zgm oLe oLt (Zm 0) (Zh Zt (Zb 2) (Zm 1)) (Zh Zt (Zb 2) (Zm 0)))) Zaw)) Zca)) (ZH (Za4 false)) Z8)))) (ZH (Za4 true))))
noncomputable def Zj8:=Z3 2 Zj7
noncomputable def Zj9: PS:=(Zp (ZO (bOr (Zbp (Zx (pIs "tuple" (Za 0)))) (bOr (Zx (Zc qNe (Zs Zat (Ze (Za 0) Zk)) (Zg 2))) (bOr (Zbp (Zx (Zs Zhh (Ze (Zc Zl (Za 0) (Zg 0)) (Ze (Zc ZV (Za 1) (Zg 1)) Zk))))) Zb0))) (Zw (ZaX false)) ZR) (Zp (ZO (bOr (Zbp (Zx (pIs "list" (Zc Zl (Za 0) (Zg 1))))) (bOr (Zx (Zc qNe (Zs Zat (Ze (Zc Zl (Za 0) (Zg 1)) Zk)) (Za 1))) Zb0)) (Zw (ZaX false)) ZR) (Zp (ZaA (Zaz (Zc Zl (Za 0) (Zg 1))) (ZX 2) (Zp (ZO (bOr (Zbp (Zx (pIs "tuple" (Za 2)))) (bOr (Zx (Zc qNe (Zs Zat (Ze (Za 2) Zk)) (Zg 2))) Zb0)) (Zw (ZaX false)) ZR) (Zp (ZO (bOr (Zbp (Zx (Zs ZeB (Ze (Zc Zl (Za 2) (Zg 0)) Zk)))) (bOr (Zbp (Zx (Zs ZeB (Ze (Zc Zl (Za 2) (Zg 1)) Zk)))) Zb0)) (Zw (ZaX false)) ZR) (ZO (bOr (Zx (Zc qLt (Zc Zl (Za 2) (Zg 0)) (Zg 0))) (bOr (ZaB (Zx (Zc qGt (Zc Zl (Za 2) (Zg 0)) (Zg 0))) (ZaB (Zbp (Zgn qLe qLt (Zg 0) (Zc Zl (Za 2) (Zg 1)) (Zc Zl (Za 2) (Zg 0)))) Z4)) Zb0)) (Zw (ZaX false)) ZR)))) (Zw (ZaX true)))))
noncomputable def ZfB:=Z0 2 Zj9
theorem ZrE: SimF false Zj8 ZfB:=Zaj (show S [] [] [] false Zj7 Zj9 from(ZD (Zah (ZaY (Zcc (ZT (ZdL (Zd 0)))) (ZaY (ZT (ZG Zci (ZaO Za8 (Zj (Zd 0) Zq)) (Zn _))) (ZaY (Zcc (ZT (ZP Zr5 (Zj (Zz Zy (Zd 0) (Zn _)) (Zj (Z6 Zal (Zd 1) (Zn _)) Zq))))) Zct))) (ZW (E.bool _)) Zag) (ZD (Zah (ZaY (Zcc (ZT (ZdL (Zz Zy (Zd 0) (Zn _))))) (ZaY (ZT (ZG Zci (ZaO Za8 (Zj (Zz Zy (Zd 0) (Zn _)) Zq)) (Zd 1))) Zct)) (ZW (E.bool _)) Zag) (ZD (ZbC (Gs.seq (Zz Zy (Zd 0) (Zn _))) PutOk.one (by decide) (by decide) (ZD (Zah (ZaY (Zcc (ZT (ZdL (Zd 2)))) (ZaY (ZT (ZG Zci (ZaO Za8 (Zj (Zd 2) Zq)) (Zn _))) Zct)) (ZW (E.bool _)) Zag) (ZD (Zah (ZaY (Zcc (ZT (ZP Zj2 (Zj (Zz Zy (Zd 2) (Zn _)) Zq)))) (ZaY (Zcc (ZT (ZP Zj2 (Zj (Zz Zy (Zd 2) (Zn _)) Zq)))) Zct)) (ZW (E.bool _)) Zag) (Zah (ZaY (ZT (ZG Zd6 (Zz Zy (Zd 2) (Zn _)) (Zn _))) (ZaY (ZbN (ZT (ZG Zfk (Zz Zy (Zd 2) (Zn _)) (Zn _))) (ZbN (Zcc (ZtQ Ziw Zd6 (Zn _) (Zz Zy (Zd 2) (Zn _)) (Zz Zy (Zd 2) (Zn _)))) ZaL)) Zct)) (ZW (E.bool _)) Zag)))) (ZW (E.bool _))))))
noncomputable def Zmg(F:List V→Hp→Option (V×Hp)): Sm:=Zv (Z1 (ZM (eIs "list" (Zb 0))) (ZH (ZaH (ZbQ (Zb 0)) (Zas 100) Zaw (Zu F (Zf (Zb 100) Zo)))) Z8) (Zv (Z1 (ZM (eIs "tuple" (Zb 0))) (ZH (Zu ZeS (Zf (ZaH (ZbQ (Zb 0)) (Zas 102) Zaw (Zu F (Zf (Zb 102) Zo))) Zo))) Z8) (ZH (Zb 0)))
noncomputable def ZeQ: Nat→List V→Hp→Option (V×Hp)
 | 0=>fun _ _=>none
 | n+1=>Z3 1 (Zmg (ZeQ n))
noncomputable def Zmh: List V→Hp→Option (V×Hp):=ZeQ 9
noncomputable def ZeY(F:List T→Option T): PS:=(Zp (ZO (Zx (pIs "list" (Za 0))) (Zw (Zai (Zaz (Za 0)) (ZX 100) Z4 (Zs F (Ze (Za 100) Zk)))) ZR) (Zp (ZO (Zx (pIs "tuple" (Za 0))) (Zw (Zs ZhS (Ze (Zai (Zaz (Za 0)) (ZX 102) Z4 (Zs F (Ze (Za 102) Zk))) Zk))) ZR) (Zw (Zb1 (Za 0)))))
noncomputable def Zee: Nat→List T→Option T
 | 0=>fun _=>none
 | n+1=>Z0 1 (ZeY (Zee n))
noncomputable def Zmi: List T→Option T:=Zee 9
theorem ZlS: ∀n:Nat,SimF true (ZeQ n) (Zee n)
 | 0=>ZsS
 | n+1=>Zaj (show S [] [] [] true (Zmg (ZeQ n)) (ZeY (Zee n))from(ZD (Zah (ZT (ZdL (Zd 0))) (Zbs (Zdk (Gs.seq (Zd 0)) PutOk.one (by decide) ZaL (ZcW (ZlS n) (Zj (Zd 100) Zq)))) Zag) (ZD (Zah (ZT (ZdL (Zd 0))) (Zbs (Zu3 ZtR (Zed (Zdk (Gs.seq (Zd 0)) PutOk.one (by decide) ZaL (ZcW (ZlS n) (Zj (Zd 102) Zq))) Zq (by decide) (by decide)))) Zag) (Zbs (E.flat (Zd 0))))))
theorem Zu9: SimF true Zmh Zmi:=ZlS 9
noncomputable def ZkJ: Sm:=Zv (Z1 (ZM (Zh oIs (Zb 0) (Z9))) (ZH (Za4 false)) Z8) (Zv (ZU 2 (Zh Zab (Zbh (Zf (Zm 0) Zo)) (Zb 1))) (Zv (ZaZ (ZaT (Zf (Zu ZaS (Zf (Zb 2) Zo)) Zo)) (Zas 3) (ZaZ (ZaT (Zf (Zu ZaS (Zf (Zb 2) Zo)) Zo)) (Zas 4) (Z1 (Zbj (ZM (Zh Zdn (Zh Zt (Zh Zt (Zh Zt (Zb 0) (Zm 0)) (Zb 3)) (Zb 4)) (Z9))) (Zbj (ZM (Zh oGt (Zh Zt (Zb 2) (Zb 3)) (Zh Zab (Zh Zt (Zb 2) (Zb 4)) (Zh Zt (Zh Zt (Zh Zt (Zb 0) (Zm 0)) (Zb 3)) (Zb 4))))) Zaw)) (ZH (Za4 false)) Z8))) (Zv (ZaZ (ZaT (Zf (Zu ZaS (Zf (Zb 1) Zo)) Zo)) (Zas 5) (Zv (ZU 6 (Zh Zbo (Zh Zt (Zb 1) (Zb 5)) (Zh Zt (Zh Zt (Zh Zt (Zb 0) (Zm 1)) (Zb 5)) (Zm 1)))) (Zv (Z1 (Zbj (ZM (Zh oEq (Zh Zt (Zh Zt (Zh Zt (Zb 0) (Zm 1)) (Zb 5)) (Zm 0)) (Zm 0))) (Zbj (ZM (Zh oNe (Zb 6) (Zm 0))) Zaw)) (ZH (Za4 false)) Z8) (Z1 (Zbj (ZM (Zh oGt (Zh Zt (Zh Zt (Zh Zt (Zb 0) (Zm 1)) (Zb 5)) (Zm 0)) (Zm 0))) (Zbj (ZM (Zh oNe (Zh oMod (Zb 6) (Zh Zt (Zh Zt (Zh Zt (Zb 0) (Zm 1)) (Zb 5)) (Zm 0))) (Zm 0))) Zaw)) (ZH (Za4 false)) Z8)))) (ZH (Za4 true)))))
noncomputable def ZfJ:=Z3 2 ZkJ
noncomputable def Zhj: PS:=(Zp (ZO (Zx (Zc qIs (Za 0) (ZN))) (Zw (ZaX false)) ZR) (Zp (ZF 2 (Zc ZV (ZaQ (Ze (Zg 0) Zk)) (Za 1))) (Zp (ZaA (Zav (Ze (Zs Zat (Ze (Za 2) Zk)) Zk)) (ZX 3) (ZaA (Zav (Ze (Zs Zat (Ze (Za 2) Zk)) Zk)) (ZX 4) (ZO (ZaB (Zx (Zc Zb5 (Zc Zl (Zc Zl (Zc Zl (Za 0) (Zg 0)) (Za 3)) (Za 4)) (ZN))) (ZaB (Zx (Zc qGt (Zc Zl (Za 2) (Za 3)) (Zc ZV (Zc Zl (Za 2) (Za 4)) (Zc Zl (Zc Zl (Zc Zl (Za 0) (Zg 0)) (Za 3)) (Za 4))))) Z4)) (Zw (ZaX false)) ZR))) (Zp (ZaA (Zav (Ze (Zs Zat (Ze (Za 1) Zk)) Zk)) (ZX 5) (Zp (ZF 6 (Zc ZaM (Zc Zl (Za 1) (Za 5)) (Zc Zl (Zc Zl (Zc Zl (Za 0) (Zg 1)) (Za 5)) (Zg 1)))) (Zp (ZO (ZaB (Zx (Zc qEq (Zc Zl (Zc Zl (Zc Zl (Za 0) (Zg 1)) (Za 5)) (Zg 0)) (Zg 0))) (ZaB (Zx (Zc qNe (Za 6) (Zg 0))) Z4)) (Zw (ZaX false)) ZR) (ZO (ZaB (Zx (Zc qGt (Zc Zl (Zc Zl (Zc Zl (Za 0) (Zg 1)) (Za 5)) (Zg 0)) (Zg 0))) (ZaB (Zx (Zc qNe (Zc Za0 (Za 6) (Zc Zl (Zc Zl (Zc Zl (Za 0) (Zg 1)) (Za 5)) (Zg 0))) (Zg 0))) Z4)) (Zw (ZaX false)) ZR)))) (Zw (ZaX true))))))
noncomputable def Zcr:=Z0 2 Zhj
theorem ZkK: SimF false ZfJ Zcr:=Zaj (show S [] [] [] false ZkJ Zhj from(ZD (Zah (ZT (ZG Zb4 (Zd 0) (Zap))) (ZW (E.bool _)) Zag) (ZD (Zaa (O':=[]) (Z6 Zal (E.list (Zj (Zn _) Zq)) (Zd 1))) (ZD (ZbC (Gs.range (Zj (ZaO Za8 (Zj (Zd 2) Zq)) Zq)) PutOk.one (by decide) (by decide) (ZbC (Gs.range (Zj (ZaO Za8 (Zj (Zd 2) Zq)) Zq)) PutOk.one (by decide) (by decide) (Zah (ZbN (ZT (ZG ZdV (Zz Zy (Zz Zy (Zz Zy (Zd 0) (Zn _)) (Zd 3)) (Zd 4)) (Zap))) (ZbN (ZT (ZG Zfk (Zz Zy (Zd 2) (Zd 3)) (Z6 Zal (Zz Zy (Zd 2) (Zd 4)) (Zz Zy (Zz Zy (Zz Zy (Zd 0) (Zn _)) (Zd 3)) (Zd 4))))) ZaL)) (ZW (E.bool _)) Zag))) (ZD (ZbC (Gs.range (Zj (ZaO Za8 (Zj (Zd 1) Zq)) Zq)) PutOk.one (by decide) (by decide) (ZD (Zaa (O':=[]) (ZG ZbB (Zz Zy (Zd 1) (Zd 5)) (Zz Zy (Zz Zy (Zz Zy (Zd 0) (Zn _)) (Zd 5)) (Zn _)))) (ZD (Zah (ZbN (ZT (ZG ZaV (Zz Zy (Zz Zy (Zz Zy (Zd 0) (Zn _)) (Zd 5)) (Zn _)) (Zn _))) (ZbN (ZT (ZG Zci (Zd 6) (Zn _))) ZaL)) (ZW (E.bool _)) Zag) (Zah (ZbN (ZT (ZG Zfk (Zz Zy (Zz Zy (Zz Zy (Zd 0) (Zn _)) (Zd 5)) (Zn _)) (Zn _))) (ZbN (ZT (ZG Zci (ZG Zbm (Zd 6) (Zz Zy (Zz Zy (Zz Zy (Zd 0) (Zn _)) (Zd 5)) (Zn _))) (Zn _))) ZaL)) (ZW (E.bool _)) Zag)))) (ZW (E.bool _)))))))
noncomputable def Zjm: Sm:=ZH (ZaH (ZaT (Zf (Zh Zab (Zb 1) (Zm 1)) Zo)) (Zas 100) Zaw (eIf (ZM (Zh oEq (Zb 0) (Zb 100))) (Zm 0) (Z9)))
noncomputable def Zjn:=Z3 2 Zjm
noncomputable def Zjo: PS:=(Zw (Zai (Zav (Ze (Zc ZV (Za 1) (Zg 1)) Zk)) (ZX 100) Z4 (pIf (Zx (Zc qEq (Za 0) (Za 100))) (Zg 0) (ZN))))
noncomputable def Zfr:=Z0 2 Zjo
theorem Zq2: SimF true Zjn Zfr:=Zaj (show S [] [] [] true Zjm Zjo from(Zbs (Zdk (Gs.range (Zj (Z6 Zal (Zd 1) (Zn _)) Zq)) PutOk.one (by decide) ZaL (Zfd (ZT (ZG ZaV (Zd 0) (Zd 100))) (Zn _) (Zap)))))
noncomputable def ZmH: Sm:=ZH (Zh Zab (Zh Zab (ZcE (Zb 0) Zdd (Zde (Zh Zbo (Zb 1) (Zm 1)))) (Zbh (Zf (Zb 2) Zo))) (ZcE (Zb 0) (Zde (Zb 1)) Zdd))
noncomputable def ZmI:=Z3 3 ZmH
noncomputable def Zlj: Sm:=Zv (ZU 2 (Zu ZaS (Zf (Zh Zt (Zb 0) (Zm 1)) Zo))) (Zv (ZU 3 (ZaH (ZbQ (Zh Zt (Zb 0) (Zm 0))) (Zas 100) Zaw (Zh Zab (Zb 100) (Zh Za7 (Zbh (Zf (Z9) Zo)) (Zb 1))))) (Zv (ZU 4 (ZaH (ZaT (Zf (Zh Zab (Zb 2) (Zm 1)) (Zf (Zh Zab (Zh Zab (Zb 2) (Zb 1)) (Zm 1)) Zo))) (Zas 102) Zaw (Zu Zjn (Zf (Zb 102) (Zf (Zh Zab (Zb 2) (Zb 1)) Zo))))) (ZH (ZaG (Zf (Zh Zab (Zb 3) (Zb 4)) (Zf (Zh Zab (Zh Zt (Zb 0) (Zm 1)) (Zh Za7 (Zbh (Zf (ZaG (Zf (Zm 1) (Zf (Zm 0) Zo))) Zo)) (Zb 1))) Zo))))))
noncomputable def Zlk:=Z3 2 Zlj
noncomputable def Zll: PS:=(Zp (ZF 2 (Zs Zat (Ze (Zc Zl (Za 0) (Zg 1)) Zk))) (Zp (ZF 3 (Zai (Zaz (Zc Zl (Za 0) (Zg 0))) (ZX 100) Z4 (pFl (Zc ZV (Za 100) (Zc ZaC (ZaQ (Ze (ZN) Zk)) (Za 1)))))) (Zp (ZF 4 (Zai (Zav (Ze (Zc ZV (Za 2) (Zg 1)) (Ze (Zc ZV (Zc ZV (Za 2) (Za 1)) (Zg 1)) Zk))) (ZX 102) Z4 (Zs Zfr (Ze (Za 102) (Ze (Zc ZV (Za 2) (Za 1)) Zk))))) (Zw (ZaD (Ze (Zc ZV (Za 3) (Za 4)) (Ze (pFl (Zc ZV (Zc Zl (Za 0) (Zg 1)) (Zc ZaC (ZaQ (Ze (ZaD (Ze (Zg 1) (Ze (Zg 0) Zk))) Zk)) (Za 1)))) Zk)))))))
noncomputable def ZfS:=Z0 2 Zll
theorem ZsZ: SimF true Zlk ZfS:=Zaj (show S [] [3,4] [] true Zlj Zll from(ZD (Zaa (O':=[]) (ZaO Za8 (Zj (Zz Zy (Zd 0) (Zn _)) Zq))) (ZD (Zda (O':=[3]) (Zdk (Gs.seq (Zz Zy (Zd 0) (Zn _))) PutOk.one (by decide) ZaL (Zmu Zal (Zd 100) (Z6 Zbv (E.list (Zj (Zap) Zq)) (Zd 1))))) (ZD (Zda (O':=[3,4]) (Zcf (O':=[]) (Zdk (Gs.range (Zj (Z6 Zal (Zd 2) (Zn _)) (Zj (Z6 Zal (Z6 Zal (Zd 2) (Zd 1)) (Zn _)) Zq))) PutOk.one (by decide) ZaL (ZcW Zq2 (Zj (Zd 102) (Zj (Z6 Zal (Zd 2) (Zd 1)) Zq)))))) (Zbs (E.tup (Zed (Zwk (E.own (by decide)) (E.own (by decide)) (by decide) (by decide)) (Zed (Zmu Zal (Zz Zy (Zd 0) (Zn _)) (Z6 Zbv (E.list (Zj (E.tup (Zj (Zn _) (Zj (Zn _) Zq))) Zq)) (Zd 1))) Zq (by decide) (by decide)) (by decide) (by decide))))))))
noncomputable def Zhk: Sm:=ZcZ (Zu ZhF (Zf (Zh Zt (Zh Zt (Zb 0) (Zb 1)) (Zb 2)) (Zf (Zb 3) Zo))) (Zh Zt (Zb 0) (Zb 1)) (Zb 2)
noncomputable def ZkL:=Z3 4 Zhk
noncomputable def ZkM: PS:=(ZbR 0 [] (Zb1 (Zs ZfY (Ze (Zc Zl (Zc Zl (Za 0) (Za 1)) (Za 2)) (Ze (Za 3) Zk)))) (Zem Za1 (Za 1)) (Za 2))
noncomputable def Zhl:=ZgL 4 ZkM
theorem Zr8: SimM ZkL Zhl:=Zu5 (show S [0] [0] [0] false Zhk ZkM from(S.put (O':=[0]) (by decide) (Zcf (O':=[]) (E.flat (ZP ZoB (Zj (Zz Zy (Zz Zy (Zd 0) (Zd 1)) (Zd 2)) (Zj (Zd 3) Zq))))) (ZvP ZcT (Zd 1)) (Zd 2) (by decide) (by decide))) (by decide) (by unfold Zhk;repeat' first | exact Keep0.next | exact ZsT | exact Keep0.ret | exact Keep0.put | apply Keep0.seq | apply ZsU | exact Keep0.set (by decide))
noncomputable def ZiC: Sm:=Zv (ZU 3 (Zu Zmh (Zf (Zb 0) Zo))) (Zv (ZaZ (Zc0 (Zb 1) (Zb 2)) (Zb3 4 5) (ZaZ (Zc0 (Zb 1) (Zb 5)) (Zb3 6 7) (Zcz (Zu ZkL (Zf (Zb 3) (Zf (Zb 4) (Zf (Zb 6) (Zf (Zb 7) Zo)))))))) (ZH (Zb 3)))
noncomputable def ZiD:=Z3 3 ZiC
noncomputable def ZiE: PS:=(Zp (ZF 3 (Zs Zmi (Ze (Za 0) Zk))) (Zp (ZaA (Zc2 (Za 1) (Za 2)) (Zcg 4 5) (ZaA (Zc2 (Za 1) (Za 5)) (Zcg 6 7) (ZiB 3 Zhl (Ze (Za 4) (Ze (Za 6) (Ze (Za 7) Zk)))))) (Zw (Za 3))))
noncomputable def ZgN:=Z0 3 ZiE
theorem Zqo: SimF true ZiD ZgN:=Zaj (show S [] [3] [] true ZiC ZiE from(ZD (Zda (O':=[3]) (ZcW Zu9 (Zj (Zd 0) Zq))) (ZD (ZbC (Gs.zip (Zd 1) (Zd 2)) PutOk.two (by decide) (by decide) (ZbC (Gs.zip (Zd 1) (Zd 5)) PutOk.two (by decide) (by decide) (Zwi (O':=[3]) (by decide) Zr8 (Zj (Zd 4) (Zj (Zd 6) (Zj (Zd 7) Zq))) (by decide) (by decide)))) (Zbs (E.own (by decide))))))
noncomputable def Zlm: Sm:=Zv (ZU 3 (Zu ZdE (Zf (Zh Zt (Zb 0) (Zm 1)) Zo))) (Zv (ZaZ (Zc0 (Zb 1) (Zh Zt (Zb 2) (Zm 1))) (Zb3 4 5) (ZcZ (Zu Zhg (Zf (Zh Zt (Zb 3) (Zh Zbo (Zb 4) (Zm 1))) (Zf (Zb 5) Zo))) (Zb 3) (Zh Zbo (Zb 4) (Zm 1)))) (Zv (Z1 (ZM (Zh oIn (Z9) (Zb 3))) (ZH (Z9)) Z8) (ZH (ZaG (Zf (Zu ZiD (Zf (Zh Zt (Zb 0) (Zm 0)) (Zf (Zh Zab (Zbh (Zf (Zm 0) Zo)) (Zb 1)) (Zf (Zh Zt (Zb 2) (Zm 0)) Zo)))) (Zf (Zb 3) Zo))))))
noncomputable def Zln:=Z3 3 Zlm
noncomputable def Zlo: PS:=(Zp (ZF 3 (pFl (Zs Zcx (Ze (Zc Zl (Za 0) (Zg 1)) Zk)))) (Zp (ZaA (Zc2 (Za 1) (Zc Zl (Za 2) (Zg 1))) (Zcg 4 5) (ZbR 3 [] (Zb1 (Zs ZfH (Ze (Zc Zl (Za 3) (Zc ZaM (Za 4) (Zg 1))) (Ze (Za 5) Zk)))) Za1 (Zc ZaM (Za 4) (Zg 1)))) (Zp (ZO (Zx (Zc qIn (ZN) (Za 3))) (Zw (ZN)) ZR) (Zw (ZaD (Ze (Zs ZgN (Ze (Zc Zl (Za 0) (Zg 0)) (Ze (Zc ZV (ZaQ (Ze (Zg 0) Zk)) (Za 1)) (Ze (Zc Zl (Za 2) (Zg 0)) Zk)))) (Ze (Za 3) Zk)))))))
noncomputable def ZeL:=Z0 3 Zlo
theorem Zs0: SimF true Zln ZeL:=Zaj (show S [] [3] [] true Zlm Zlo from(ZD (Zda (O':=[3]) (Zuw ZhT (Zj (Zz Zy (Zd 0) (Zn _)) Zq))) (ZD (ZbC (Gs.zip (Zd 1) (Zz Zy (Zd 2) (Zn _))) PutOk.two (by decide) (by decide) (S.put (O':=[3]) (by decide) (Zcf (O':=[]) (E.flat (ZP ZnH (Zj (Zz Zy (Zd 3) (ZG ZbB (Zd 4) (Zn _))) (Zj (Zd 5) Zq))))) ZcT (ZG ZbB (Zd 4) (Zn _)) (by decide) (by decide))) (ZD (Zah (ZT (ZG ZiA (Zap) (Zd 3))) (Zbs (Zap)) Zag) (Zbs (E.tup (Zed (ZcW Zqo (Zj (Zz Zy (Zd 0) (Zn _)) (Zj (Z6 Zal (E.list (Zj (Zn _) Zq)) (Zd 1)) (Zj (Zz Zy (Zd 2) (Zn _)) Zq)))) (Zed (E.own (by decide)) Zq (by decide) (by decide)) (by decide) (by decide))))))))
noncomputable def Zlp: Sm:=Zv (ZU 3 (Zh Zab (Zbh (Zf (Zu Zea (Zf (Zb 0) (Zf (Zb 1) Zo))) Zo)) (Zh Za7 (Zbh (Zf (Zm 0) Zo)) (Zb 2)))) (Zv (ZU 4 (Zu Zcl (Zf (Zb 0) (Zf (Zb 1) (Zf (Zm 6) Zo))))) (Zv (Z1 (tOr (ZM (Zh oEq (Zb 4) (Zm 0))) (tOr (ZM (Zh oEq (Zb 2) (Zm 0))) Zca)) (ZH (Zb 3)) Z8) (Zv (ZU 5 (Zh Zab (Zm 1) (Zu Zcl (Zf (Zb 0) (Zf (Zh Zab (Zb 1) (Zm 1)) (Zf (Zb 2) Zo)))))) (Zv (Z1 (ZM (Zh oEq (Zb 4) (Zm 1))) (ZcZ (Zh Zbo (Zu Zcl (Zf (Zb 0) (Zf (Zh Zab (Zb 1) (Zm 2)) (Zf (Zm 13) Zo)))) (Zm 6)) (Zb 3) (Zb 5)) Z8) (Zv (Z1 (tOr (ZM (Zh oEq (Zb 4) (Zm 2))) (tOr (ZM (Zh oEq (Zb 4) (Zm 3))) Zca)) (Zv (ZU 6 (Zh Zab (Zm 1) (Zu Zcl (Zf (Zb 0) (Zf (Zh Zab (Zb 1) (Zm 2)) (Zf (Zb 2) Zo)))))) (Zv (ZcZ (Zm 1) (Zb 3) (Zb 5)) (ZcZ (Zh Zbo (Zh Zt (Zb 3) (Zb 6)) (Zm 1)) (Zb 3) (Zb 6)))) Z8) (Zv (Z1 (ZM (Zh oEq (Zb 4) (Zm 4))) (ZaZ (ZaT (Zf (Zb 2) Zo)) (Zas 7) (ZcZ (Zh Zbo (Zu Zcl (Zf (Zb 0) (Zf (Zh Zab (Zh Zab (Zb 1) (Zm 1)) (Zb 7)) (Zf (Zm 7) Zo)))) (Zm 3)) (Zb 3) (Zh Zab (Zb 7) (Zm 1)))) Z8) (Zv (Z1 (ZM (Zh oEq (Zb 4) (Zm 5))) (ZaZ (ZaT (Zf (Zb 2) Zo)) (Zas 7) (ZcZ (Zh Zbo (Zu Zcl (Zf (Zb 0) (Zf (Zh Zab (Zh Zab (Zb 1) (Zm 1)) (Zb 7)) (Zf (Zm 2000000001) Zo)))) (Zm 1000000000)) (Zb 3) (Zh Zab (Zb 7) (Zm 1)))) Z8) (ZH (Zb 3)))))))))
noncomputable def Zlq:=Z3 3 Zlp
noncomputable def Zlr: PS:=(Zp (ZF 3 (pFl (Zc ZV (ZaQ (Ze (Zs ZdQ (Ze (Za 0) (Ze (Za 1) Zk))) Zk)) (Zc ZaC (ZaQ (Ze (Zg 0) Zk)) (Za 2))))) (Zp (ZF 4 (Zs ZbV (Ze (Za 0) (Ze (Za 1) (Ze (Zg 6) Zk))))) (Zp (ZO (bOr (Zx (Zc qEq (Za 4) (Zg 0))) (bOr (Zx (Zc qEq (Za 2) (Zg 0))) Zb0)) (Zw (Za 3)) ZR) (Zp (ZF 5 (Zc ZV (Zg 1) (Zs ZbV (Ze (Za 0) (Ze (Zc ZV (Za 1) (Zg 1)) (Ze (Za 2) Zk)))))) (Zp (ZO (Zx (Zc qEq (Za 4) (Zg 1))) (ZbR 3 [] (Zc ZaM (Zs ZbV (Ze (Za 0) (Ze (Zc ZV (Za 1) (Zg 2)) (Ze (Zg 13) Zk)))) (Zg 6)) Za1 (Za 5)) ZR) (Zp (ZO (bOr (Zx (Zc qEq (Za 4) (Zg 2))) (bOr (Zx (Zc qEq (Za 4) (Zg 3))) Zb0)) (Zp (ZF 6 (Zc ZV (Zg 1) (Zs ZbV (Ze (Za 0) (Ze (Zc ZV (Za 1) (Zg 2)) (Ze (Za 2) Zk)))))) (Zp (ZbR 3 [] (Zg 1) Za1 (Za 5)) (ZbR 3 [] (Zc ZaM (Zc Zl (Za 3) (Za 6)) (Zg 1)) Za1 (Za 6)))) ZR) (Zp (ZO (Zx (Zc qEq (Za 4) (Zg 4))) (ZaA (Zav (Ze (Za 2) Zk)) (ZX 7) (ZbR 3 [] (Zc ZaM (Zs ZbV (Ze (Za 0) (Ze (Zc ZV (Zc ZV (Za 1) (Zg 1)) (Za 7)) (Ze (Zg 7) Zk)))) (Zg 3)) Za1 (Zc ZV (Za 7) (Zg 1)))) ZR) (Zp (ZO (Zx (Zc qEq (Za 4) (Zg 5))) (ZaA (Zav (Ze (Za 2) Zk)) (ZX 7) (ZbR 3 [] (Zc ZaM (Zs ZbV (Ze (Za 0) (Ze (Zc ZV (Zc ZV (Za 1) (Zg 1)) (Za 7)) (Ze (Zg 2000000001) Zk)))) (Zg 1000000000)) Za1 (Zc ZV (Za 7) (Zg 1)))) ZR) (Zw (Za 3))))))))))
noncomputable def Zhw:=Z0 3 Zlr
theorem Zs1: SimF true Zlq Zhw:=Zaj (show S [] [3] [] true Zlp Zlr from(ZD (Zda (O':=[3]) (Zmu Zal (E.list (Zj (ZP Zfs (Zj (Zd 0) (Zj (Zd 1) Zq))) Zq)) (Z6 Zbv (E.list (Zj (Zn _) Zq)) (Zd 2)))) (ZD (Zaa (O':=[3]) (ZP ZcB (Zj (Zd 0) (Zj (Zd 1) (Zj (Zn _) Zq))))) (ZD (Zah (ZaY (ZT (ZG ZaV (Zd 4) (Zn _))) (ZaY (ZT (ZG ZaV (Zd 2) (Zn _))) Zct)) (Zbs (E.own (by decide))) Zag) (ZD (Zaa (O':=[3]) (Z6 Zal (Zn _) (ZP ZcB (Zj (Zd 0) (Zj (Z6 Zal (Zd 1) (Zn _)) (Zj (Zd 2) Zq)))))) (ZD (Zah (ZT (ZG ZaV (Zd 4) (Zn _))) (S.put (O':=[3]) (by decide) (Zcf (O':=[]) (ZG ZbB (ZP ZcB (Zj (Zd 0) (Zj (Z6 Zal (Zd 1) (Zn _)) (Zj (Zn _) Zq)))) (Zn _))) ZcT (Zd 5) (by decide) (by decide)) Zag) (ZD (Zah (ZaY (ZT (ZG ZaV (Zd 4) (Zn _))) (ZaY (ZT (ZG ZaV (Zd 4) (Zn _))) Zct)) (ZD (Zaa (O':=[3]) (Z6 Zal (Zn _) (ZP ZcB (Zj (Zd 0) (Zj (Z6 Zal (Zd 1) (Zn _)) (Zj (Zd 2) Zq)))))) (ZD (S.put (O':=[3]) (by decide) (Zcf (O':=[]) (Zn _)) ZcT (Zd 5) (by decide) (by decide)) (S.put (O':=[3]) (by decide) (Zcf (O':=[]) (ZG ZbB (Zz Zy (Zd 3) (Zd 6)) (Zn _))) ZcT (Zd 6) (by decide) (by decide)))) Zag) (ZD (Zah (ZT (ZG ZaV (Zd 4) (Zn _))) (ZbC (Gs.range (Zj (Zd 2) Zq)) PutOk.one (by decide) (by decide) (S.put (O':=[3]) (by decide) (Zcf (O':=[]) (ZG ZbB (ZP ZcB (Zj (Zd 0) (Zj (Z6 Zal (Z6 Zal (Zd 1) (Zn _)) (Zd 7)) (Zj (Zn _) Zq)))) (Zn _))) ZcT (Z6 Zal (Zd 7) (Zn _)) (by decide) (by decide))) Zag) (ZD (Zah (ZT (ZG ZaV (Zd 4) (Zn _))) (ZbC (Gs.range (Zj (Zd 2) Zq)) PutOk.one (by decide) (by decide) (S.put (O':=[3]) (by decide) (Zcf (O':=[]) (ZG ZbB (ZP ZcB (Zj (Zd 0) (Zj (Z6 Zal (Z6 Zal (Zd 1) (Zn _)) (Zd 7)) (Zj (Zn _) Zq)))) (Zn _))) ZcT (Z6 Zal (Zd 7) (Zn _)) (by decide) (by decide))) Zag) (Zbs (E.own (by decide))))))))))))
noncomputable def Znc: PS:=(Zp (ZF 2 (Zai (Zav (Ze (Zg 1) (Ze (Zs Zat (Ze (Za 1) Zk)) Zk))) (ZX 100) (Zx (Zc qGt (Zc Zl (Za 1) (Za 100)) (Zg 0))) (Za 100))) (Zp (ZF 3 (Zai (Zav (Ze (Zg 1) (Ze (Zs Zat (Ze (Za 1) Zk)) Zk))) (ZX 102) (Zx (Zc qLt (Zc Zl (Za 1) (Za 102)) (Zg 0))) (Za 102))) (Zp (ZO (ZaB (Zx (Zc qEq (Zs Zat (Ze (Za 2) Zk)) (Zg 1))) (ZaB (Zx (Zc qEq (Zs Zat (Ze (Za 3) Zk)) (Zg 1))) (ZaB (Zx (Zc qEq (Zc Zl (Za 1) (Zc Zl (Za 2) (Zg 0))) (Zg 1))) (ZaB (Zx (Zc qEq (Zc Zl (Za 1) (Zc Zl (Za 3) (Zg 0))) (pUn Zc1 (Zg 1)))) Z4)))) (Zp (ZO (Zx (Zc qIs (Zc Zl (Zc Zl (Zc Zl (Za 0) (Zg 0)) (Zc Zl (Za 2) (Zg 0))) (Zc Zl (Za 3) (Zg 0))) (ZN))) (Zw (ZN)) ZR) (Zw (Zc ZV (Zc Zl (Zc Zl (Zc Zl (Za 0) (Zg 0)) (Zc Zl (Za 2) (Zg 0))) (Zc Zl (Za 3) (Zg 0))) (Zc Zl (Za 1) (Zg 0))))) ZR) (Zp (ZF 4 (Zc ZV (Zai (Zaz (Za 2)) (ZX 104) Z4 (Zc Zl (Zc Zl (Zc Zl (Za 0) (Zg 0)) (Za 104)) (Zg 0))) (Zai (Zaz (Za 3)) (ZX 106) Z4 (Zc Zl (Zc Zl (Zc Zl (Za 0) (Zg 0)) (Zg 0)) (Za 106))))) (Zp (ZO (Zx (Zc qIn (ZN) (Za 4))) (Zw (ZN)) ZR) (Zp (ZF 5 (Zc Zl (Za 1) (Zg 0))) (Zp (ZaA (Zaz (Za 2)) (ZX 6) (ZF 5 (Zc ZV (Za 5) (Zc ZaC (Zc Zl (Za 1) (Za 6)) (Zc Zl (Zc Zl (Zc Zl (Za 0) (Zg 0)) (Za 6)) (Zg 0)))))) (Zp (ZaA (Zaz (Za 3)) (ZX 6) (ZF 5 (Zc ZaM (Za 5) (Zc ZaC (Zc Zl (Za 1) (Za 6)) (Zc Zl (Zc Zl (Zc Zl (Za 0) (Zg 0)) (Zg 0)) (Za 6)))))) (Zw (Za 5))))))))))
noncomputable def Zi0:=Z0 2 Znc
noncomputable def ZiO: Sm:=ZH (Zh oEq (Zu Zf9 (Zf (ZaH (ZbQ (Zd1 (Zb 0) 1)) (Zas 100) (ZM (Zh oNe (Zb 100) (Zm 0))) (Zb 100)) Zo)) (Zbh (Zf (eUn Zd4 (Zm 1)) (Zf (Zm 1) Zo))))
noncomputable def ZiQ:=Z3 1 ZiO
noncomputable def ZiR: PS:=(Zw (Zc qEq (Zs ZhX (Ze (Zai (Zaz (Zdr (Za 0) 1)) (ZX 100) (Zx (Zc qNe (Za 100) (Zg 0))) (Za 100)) Zk)) (ZaQ (Ze (pUn Zc1 (Zg 1)) (Ze (Zg 1) Zk)))))
noncomputable def ZgR:=Z0 1 ZiR
theorem Zqy: SimF false ZiQ ZgR:=Zaj (show S [] [] [] false ZiO ZiR from(ZW (ZG ZaV (Zf7 ZtT (Zj (ZbZ (Gs.seq (Zmv (Zd 0))) PutOk.one (by decide) (ZT (ZG Zci (Zd 100) (Zn _))) (Zd 100)) Zq)) (E.list (Zj (Zfc Zff (Zn _)) (Zj (Zn _) Zq))))))
noncomputable def Zi1: Sm:=Zv (ZU 1 (Zh Zt (Zb 0) (Zm 0))) (ZH (ZaH (ZaT (Zf (Zm 1) (Zf (Zu ZaS (Zf (Zb 1) Zo)) Zo))) (Zas 100) Zaw (ZaG (Zf (Zu ZfA (Zf (Zh Zt (Zh Zt (Zb 1) (Zm 0)) (Zb 100)) (Zf (eUn Zd4 (Zm 1)) Zo))) (Zf (Zh Zt (Zh Zt (Zb 1) (Zb 100)) (Zm 0)) Zo)))))
noncomputable def Zi2:=Z3 1 Zi1
noncomputable def Zi3: PS:=(Zp (ZF 1 (Zc Zl (Za 0) (Zg 0))) (Zw (Zai (Zav (Ze (Zg 1) (Ze (Zs Zat (Ze (Za 1) Zk)) Zk))) (ZX 100) Z4 (ZaD (Ze (Zs ZeC (Ze (Zc Zl (Zc Zl (Za 1) (Zg 0)) (Za 100)) (Ze (pUn Zc1 (Zg 1)) Zk))) (Ze (Zc Zl (Zc Zl (Za 1) (Za 100)) (Zg 0)) Zk))))))
noncomputable def ZgU:=Z0 1 Zi3
theorem ZqI: SimF false Zi2 ZgU:=Zaj (show S [] [] [] false Zi1 Zi3 from(ZD (Zaa (O':=[]) (Zz Zy (Zd 0) (Zn _))) (ZW (ZbZ (Gs.range (Zj (Zn _) (Zj (ZaO Za8 (Zj (Zd 1) Zq)) Zq))) PutOk.one (by decide) ZaL (E.tup (Zj (ZP Zj5 (Zj (Zz Zy (Zz Zy (Zd 1) (Zn _)) (Zd 100)) (Zj (Zfc Zff (Zn _)) Zq))) (Zj (Zz Zy (Zz Zy (Zd 1) (Zd 100)) (Zn _)) Zq)))))))
noncomputable def ZkN: Sm:=Zv (Z1 (ZM (Zu ZiQ (Zf (Zb 1) Zo))) (ZH (Zu Zeb (Zf (Zh Zt (Zh Zt (Zh Zt (Zb 0) (Zm 0)) (Zgo (Zb 1) (Zm 1) (Zm 1))) (Zgo (Zb 1) (eUn Zd4 (Zm 1)) (Zm 1))) (Zf (Zh Zt (Zb 1) (Zm 0)) Zo)))) Z8) (ZH (Zh Zt (Zu Zjd (Zf (Zb 1) (Zf (Zu Zi2 (Zf (Zb 0) Zo)) Zo))) (Zm 1)))
noncomputable def ZkO:=Z3 2 ZkN
noncomputable def ZkP: PS:=(Zp (ZO (Zx (Zs ZgR (Ze (Za 1) Zk))) (Zw (Zs ZdR (Ze (Zc Zl (Zc Zl (Zc Zl (Za 0) (Zg 0)) (Zgp (Za 1) (Zg 1) (Zg 1))) (Zgp (Za 1) (pUn Zc1 (Zg 1)) (Zg 1))) (Ze (Zc Zl (Za 1) (Zg 0)) Zk)))) ZR) (Zw (Zc Zl (Zs ZgX (Ze (Za 1) (Ze (Zs ZgU (Ze (Za 0) Zk)) Zk))) (Zg 1))))
noncomputable def Zhm:=Z0 2 ZkP
theorem Zr9: SimF false ZkO Zhm:=Zaj (show S [] [] [] false ZkN ZkP from(ZD (Zah (ZT (ZP Zqy (Zj (Zd 1) Zq))) (ZW (ZP ZfI (Zj (Zz Zy (Zz Zy (Zz Zy (Zd 0) (Zn _)) (E.index (Zd 1) (Zn _) (Zn _))) (E.index (Zd 1) (Zfc Zff (Zn _)) (Zn _))) (Zj (Zz Zy (Zd 1) (Zn _)) Zq)))) Zag) (ZW (Zz Zy (ZP ZqZ (Zj (Zd 1) (Zj (ZP ZqI (Zj (Zd 0) Zq)) Zq))) (Zn _)))))
noncomputable def Zka: Sm:=ZH (ZaH (ZbQ (Zb 0)) (Zas 100) Zaw (Zh Za7 (Zb 100) (Zb 1)))
noncomputable def Zkb:=Z3 2 Zka
noncomputable def Zkc: PS:=(Zw (Zai (Zaz (Za 0)) (ZX 100) Z4 (Zc ZaC (Za 100) (Za 1))))
noncomputable def Zg9:=Z0 2 Zkc
theorem ZrF: SimF false Zkb Zg9:=Zaj (show S [] [] [] false Zka Zkc from(ZW (ZbZ (Gs.seq (Zd 0)) PutOk.one (by decide) ZaL (Z6 Zbv (Zd 100) (Zd 1)))))
noncomputable def Zkd: Sm:=ZH (Zh Zab (Zh Zt (Zb 0) (Zm 0)) (Zu ZgF (Zf (ZaH (ZaT (Zf (Zu ZaS (Zf (Zb 1) Zo)) Zo)) (Zas 100) Zaw (Zh Za7 (Zh Zt (Zb 0) (Zh Zab (Zb 100) (Zm 1))) (Zh Zt (Zb 1) (Zb 100)))) Zo)))
noncomputable def Zke:=Z3 2 Zkd
noncomputable def Zkf: PS:=(Zw (Zc ZV (Zc Zl (Za 0) (Zg 0)) (Zs Zix (Ze (Zai (Zav (Ze (Zs Zat (Ze (Za 1) Zk)) Zk)) (ZX 100) Z4 (Zc ZaC (Zc Zl (Za 0) (Zc ZV (Za 100) (Zg 1))) (Zc Zl (Za 1) (Za 100)))) Zk))))
noncomputable def Zha:=Z0 2 Zkf
theorem ZrG: SimF false Zke Zha:=Zaj (show S [] [] [] false Zkd Zkf from(ZW (Z6 Zal (Zz Zy (Zd 0) (Zn _)) (ZaO ZwC (Zj (ZbZ (Gs.range (Zj (ZaO Za8 (Zj (Zd 1) Zq)) Zq)) PutOk.one (by decide) ZaL (Z6 Zbv (Zz Zy (Zd 0) (Z6 Zal (Zd 100) (Zn _))) (Zz Zy (Zd 1) (Zd 100)))) Zq)))))
noncomputable def ZkQ: Sm:=ZH (ZaH (Zc0 (Zb 0) (Zb 1)) (Zb3 100 101) Zaw (Zh Zab (Zb 100) (Zb 101)))
noncomputable def ZkR:=Z3 2 ZkQ
noncomputable def ZkS: PS:=(Zw (Zai (Zc2 (Za 0) (Za 1)) (Zcg 100 101) Z4 (Zc ZV (Za 100) (Za 101))))
noncomputable def Zhn:=Z0 2 ZkS
theorem Zsa: SimF false ZkR Zhn:=Zaj (show S [] [] [] false ZkQ ZkS from(ZW (ZbZ (Gs.zip (Zd 0) (Zd 1)) PutOk.two (by decide) ZaL (Z6 Zal (Zd 100) (Zd 101)))))
noncomputable def ZkT: Sm:=ZH (Zu ZkR (Zf (Zb 0) (Zf (Zu Zkb (Zf (Zb 1) (Zf (eUn Zd4 (Zm 1)) Zo))) Zo)))
noncomputable def ZkU:=Z3 2 ZkT
noncomputable def ZkV: PS:=(Zw (Zs Zhn (Ze (Za 0) (Ze (Zs Zg9 (Ze (Za 1) (Ze (pUn Zc1 (Zg 1)) Zk))) Zk))))
noncomputable def Zho:=Z0 2 ZkV
theorem Zsb: SimF false ZkU Zho:=Zaj (show S [] [] [] false ZkT ZkV from(ZW (ZP Zsa (Zj (Zd 0) (Zj (ZP ZrF (Zj (Zd 1) (Zj (Zfc Zff (Zn _)) Zq))) Zq)))))
noncomputable def ZjB: Sm:=ZH (ZaH (ZbQ (Zb 2)) (Zas 100) Zaw (Zu ZkO (Zf (Zb 0) (Zf (Zu ZkU (Zf (Zb 1) (Zf (Zb 100) Zo))) Zo))))
noncomputable def ZjC:=Z3 3 ZjB
noncomputable def ZjD: PS:=(Zw (Zai (Zaz (Za 2)) (ZX 100) Z4 (Zs Zhm (Ze (Za 0) (Ze (Zs Zho (Ze (Za 1) (Ze (Za 100) Zk))) Zk)))))
noncomputable def Zg3:=Z0 3 ZjD
theorem Zrg: SimF false ZjC Zg3:=Zaj (show S [] [] [] false ZjB ZjD from(ZW (ZbZ (Gs.seq (Zd 2)) PutOk.one (by decide) ZaL (ZP Zr9 (Zj (Zd 0) (Zj (ZP Zsb (Zj (Zd 1) (Zj (Zd 100) Zq))) Zq))))))
noncomputable def Zls: Sm:=ZH (ZaH (ZaT (Zf (Zh Zab (Zb 1) (Zm 1)) Zo)) (Zas 100) Zaw (eIf (Zbj (ZM (Zh oGt (Zb 0) (Zm 0))) (Zbj (ZM (Zh oEq (Zb 100) (Zb 0))) Zaw)) (Zm 1) (Zm 0)))
noncomputable def ZfT:=Z3 2 Zls
noncomputable def Zlt: PS:=(Zw (Zai (Zav (Ze (Zc ZV (Za 1) (Zg 1)) Zk)) (ZX 100) Z4 (pIf (ZaB (Zx (Zc qGt (Za 0) (Zg 0))) (ZaB (Zx (Zc qEq (Za 100) (Za 0))) Z4)) (Zg 1) (Zg 0))))
noncomputable def Zec:=Z0 2 Zlt
theorem Zlu: SimF false ZfT Zec:=Zaj (show S [] [] [] false Zls Zlt from(ZW (ZbZ (Gs.range (Zj (Z6 Zal (Zd 1) (Zn _)) Zq)) PutOk.one (by decide) ZaL (Zfd (ZbN (ZT (ZG Zfk (Zd 0) (Zn _))) (ZbN (ZT (ZG ZaV (Zd 100) (Zd 0))) ZaL)) (E.sh (Zn _)) (E.sh (Zn _))))))
noncomputable def ZlT: Sm:=Zv (Z1 (ZM (Zh oIs (Zb 0) (Z9))) (ZH (Z9)) Z8) (Zv (ZU 2 (Zh Zab (Zbh (Zf (Zu ZfT (Zf (Zm 0) (Zf (Zu ZaS (Zf (Zh Zt (Zb 0) (Zm 1)) Zo)) Zo))) Zo)) (Zb 1))) (Zv (ZU 3 (ZaH (ZbQ (Zb 2)) (Zas 100) Zaw (Zu ZjC (Zf (Zb 0) (Zf (Zb 100) (Zf (Zb 2) Zo)))))) (Zv (ZU 4 (ZaH (ZbQ (Zb 1)) (Zas 102) Zaw (Zu ZkH (Zf (Zb 102) (Zf (Zh Zt (Zb 0) (Zm 1)) Zo))))) (ZH (Zu Zgb (Zf (ZaG (Zf (Zb 3) (Zf (Zb 4) Zo))) Zo))))))
noncomputable def ZhG:=Z3 2 ZlT
noncomputable def ZhH: PS:=(Zp (ZO (Zx (Zc qIs (Za 0) (ZN))) (Zw (ZN)) ZR) (Zp (ZF 2 (Zc ZV (ZaQ (Ze (Zs Zec (Ze (Zg 0) (Ze (Zs Zat (Ze (Zc Zl (Za 0) (Zg 1)) Zk)) Zk))) Zk)) (Za 1))) (Zp (ZF 3 (Zai (Zaz (Za 2)) (ZX 100) Z4 (Zs Zg3 (Ze (Za 0) (Ze (Za 100) (Ze (Za 2) Zk)))))) (Zp (ZF 4 (Zai (Zaz (Za 1)) (ZX 102) Z4 (Zs Zhi (Ze (Za 102) (Ze (Zc Zl (Za 0) (Zg 1)) Zk))))) (Zw (Zs Zb9 (Ze (ZaD (Ze (Za 3) (Ze (Za 4) Zk))) Zk)))))))
noncomputable def Zcv:=Z0 2 ZhH
theorem ZoC: SimF true ZhG Zcv:=Zaj (show S [] [] [] true ZlT ZhH from(ZD (Zah (ZT (ZG Zb4 (Zd 0) (Zap))) (Zbs (Zap)) Zag) (ZD (Zaa (O':=[]) (Z6 Zal (E.list (Zj (ZP Zlu (Zj (Zn _) (Zj (ZaO Za8 (Zj (Zz Zy (Zd 0) (Zn _)) Zq)) Zq))) Zq)) (Zd 1))) (ZD (Zaa (O':=[]) (ZbZ (Gs.seq (Zd 2)) PutOk.one (by decide) ZaL (ZP Zrg (Zj (Zd 0) (Zj (Zd 100) (Zj (Zd 2) Zq)))))) (ZD (Zaa (O':=[]) (ZbZ (Gs.seq (Zd 1)) PutOk.one (by decide) ZaL (ZP Zr6 (Zj (Zd 102) (Zj (Zz Zy (Zd 0) (Zn _)) Zq))))) (Zbs (ZcW Zmf (Zj (E.tup (Zj (Zd 3) (Zj (Zd 4) Zq))) Zq))))))))
noncomputable def Znd: PS:=(Zp (ZF 2 (Zg 0)) (Zp (ZF 3 (Zc Zl (Za 0) (Zg 0))) (Zp (ZaA (Zav (Ze (Zs Zat (Ze (Za 1) Zk)) Zk)) (ZX 4) (Zp (ZF 2 (Zs Zhs (Ze (Za 2) (Ze (Zc ZaC (Zc Zl (Za 0) (Zc ZV (Za 4) (Zg 1))) (Zc Zl (Zc Zl (Za 1) (Za 4)) (Zg 0))) Zk)))) (ZF 3 (Zc ZV (Za 3) (Zc ZaC (Zc Zl (Za 0) (Zc ZV (Za 4) (Zg 1))) (Zc Zl (Zc Zl (Za 1) (Za 4)) (Zg 1))))))) (Zw (Zs ZdO (Ze (Za 2) (Ze (Za 3) Zk)))))))
noncomputable def Zi4:=Z0 2 Znd
noncomputable def ZnJ: PS:=(Zw (Zai (Zav (Ze (Zs Zat (Ze (Za 0) Zk)) Zk)) (ZX 100) Z4 (Zc ZaM (Zc Zl (Za 0) (Za 100)) (Zc Zl (Za 1) (Za 100)))))
noncomputable def ZkW:=Z0 2 ZnJ
noncomputable def ZjE: PS:=(Zp (ZO (Zx (Zc qIs (Za 0) (ZN))) (Zw (ZN)) ZR) (Zp (ZF 2 (Zc ZV (ZaQ (Ze (Zc ZaC (ZaQ (Ze (Zg 0) Zk)) (Zc ZV (Zs Zat (Ze (Zc Zl (Za 0) (Zg 1)) Zk)) (Zg 1))) Zk)) (Za 1))) (Zp (ZF 3 (ZaQ Zk)) (Zp (ZaA (Zaz (Za 2)) (ZX 4) (Zdv 3 [] Za1 (Zai (Zaz (Za 2)) (ZX 100) Z4 (Zb1 (Zs Zi0 (Ze (Za 0) (Ze (Zs ZkW (Ze (Za 4) (Ze (Za 100) Zk))) Zk))))))) (Zw (Zs ZcK (Ze (ZaD (Ze (Za 3) (Ze (Zai (Zaz (Za 1)) (ZX 102) Z4 (Zs Zi4 (Ze (Za 102) (Ze (Zc Zl (Za 0) (Zg 1)) Zk)))) Zk))) Zk)))))))
noncomputable def Zc4:=Z0 2 ZjE
noncomputable def Zmj: PS:=(Zw (Zc ZV (Zc ZV (ZcS (Za 0) Zc8 (Zc9 (Zc ZaM (Za 1) (Zg 1)))) (ZaQ (Ze (Za 2) Zk))) (ZcS (Za 0) (Zc9 (Za 1)) Zc8)))
noncomputable def Zgc:=Z0 3 Zmj
theorem Zva: SimF false ZmI Zgc:=Zaj (show S [] [] [] false ZmH Zmj from(ZW (Z6 Zal (Z6 Zal (ZeU (Zd 0) Pe.none (Pe.some (ZG ZbB (Zd 1) (Zn _)))) (E.list (Zj (Zd 2) Zq))) (ZeU (Zd 0) (Pe.some (Zd 1)) Pe.none))))
noncomputable def ZkX: Sm:=ZH (ZaH (ZaT (Zf (Zm 1) (Zf (Zh Zab (Zb 0) (Zm 1)) Zo))) (Zas 100) Zaw (Zu ZfT (Zf (Zb 100) (Zf (Zb 1) Zo))))
noncomputable def Zhp:=Z3 2 ZkX
noncomputable def ZkY: PS:=(Zw (Zai (Zav (Ze (Zg 1) (Ze (Zc ZV (Za 0) (Zg 1)) Zk))) (ZX 100) Z4 (Zs Zec (Ze (Za 100) (Ze (Za 1) Zk)))))
noncomputable def ZeE:=Z0 2 ZkY
theorem ZnK: SimF false Zhp ZeE:=Zaj (show S [] [] [] false ZkX ZkY from(ZW (ZbZ (Gs.range (Zj (Zn _) (Zj (Z6 Zal (Zd 0) (Zn _)) Zq))) PutOk.one (by decide) ZaL (ZP Zlu (Zj (Zd 100) (Zj (Zd 1) Zq))))))
noncomputable def ZkZ: Sm:=Zv (ZU 4 (Zu Zgb (Zf (Zb 0) Zo))) (Zv (Z1 (tOr (ZM (Zh oIs (Zb 4) (Z9))) (tOr (ZM (Zh oIs (Zb 3) (Z9))) Zca)) (ZH (Z9)) Z8) (Zv (ZU 5 (Zu ZaS (Zf (Zh Zt (Zb 4) (Zm 1)) Zo))) (Zv (ZU 6 (Zh Zab (Zh Zab (Zb 5) (Zu ZaS (Zf (Zb 2) Zo))) (Zm 1))) (Zv (ZU 7 (Zu ZhG (Zf (Zb 4) (Zf (Zh Zab (Zu Zhp (Zf (Zb 5) (Zf (Zb 5) Zo))) (Zb 2)) Zo)))) (Zv (Z1 (ZM (Zh oIs (Zb 7) (Z9))) (ZH (Z9)) Z8) (Zv (ZU 8 (Zu Zgb (Zf (Zu Zln (Zf (Zu Zlk (Zf (Zb 7) (Zf (Zm 1) Zo))) (Zf (Zu Zgq (Zf (Zh Zab (Zb 5) (Zm 1)) (Zf (Zh Zab (Zb 6) (Zm 1)) Zo))) (Zf (Zb 3) Zo)))) Zo))) (ZH (Zu ZhG (Zf (Zb 8) (Zf (Zu ZmI (Zf (Zu Zhp (Zf (Zb 5) (Zf (Zb 6) Zo))) (Zf (Zb 1) (Zf (Zu ZfT (Zf (Zb 6) (Zf (Zb 6) Zo))) Zo)))) Zo))))))))))
noncomputable def ZfK:=Z3 4 ZkZ
noncomputable def ZeF: PS:=(Zp (ZF 4 (Zs Zb9 (Ze (Za 0) Zk))) (Zp (ZO (bOr (Zx (Zc qIs (Za 4) (ZN))) (bOr (Zx (Zc qIs (Za 3) (ZN))) Zb0)) (Zw (ZN)) ZR) (Zp (ZF 5 (Zs Zat (Ze (Zc Zl (Za 4) (Zg 1)) Zk))) (Zp (ZF 6 (Zc ZV (Zc ZV (Za 5) (Zs Zat (Ze (Za 2) Zk))) (Zg 1))) (Zp (ZF 7 (Zs Zcv (Ze (Za 4) (Ze (Zc ZV (Zs ZeE (Ze (Za 5) (Ze (Za 5) Zk))) (Za 2)) Zk)))) (Zp (ZO (Zx (Zc qIs (Za 7) (ZN))) (Zw (ZN)) ZR) (Zp (ZF 8 (Zs Zb9 (Ze (Zs ZeL (Ze (Zs ZfS (Ze (Za 7) (Ze (Zg 1) Zk))) (Ze (Zs Zgr (Ze (Zc ZV (Za 5) (Zg 1)) (Ze (Zc ZV (Za 6) (Zg 1)) Zk))) (Ze (Za 3) Zk)))) Zk))) (Zw (Zs Zcv (Ze (Za 8) (Ze (Zs Zgc (Ze (Zs ZeE (Ze (Za 5) (Ze (Za 6) Zk))) (Ze (Za 1) (Ze (Zs Zec (Ze (Za 6) (Ze (Za 6) Zk))) Zk)))) Zk)))))))))))
noncomputable def ZbW:=Z0 4 ZeF
theorem Zk0: SimF true ZfK ZbW:=Zaj (show S [] [] [] true ZkZ ZeF from(ZD (Zaa (O':=[]) (ZP Zmf (Zj (Zd 0) Zq))) (ZD (Zah (ZaY (ZT (ZG Zb4 (Zd 4) (Zap))) (ZaY (ZT (ZG Zb4 (Zd 3) (Zap))) Zct)) (Zbs (Zap)) Zag) (ZD (Zaa (O':=[]) (ZaO Za8 (Zj (Zz Zy (Zd 4) (Zn _)) Zq))) (ZD (Zaa (O':=[]) (Z6 Zal (Z6 Zal (Zd 5) (ZaO Za8 (Zj (Zd 2) Zq))) (Zn _))) (ZD (Zaa (O':=[]) (ZP ZoC (Zj (Zd 4) (Zj (Z6 Zal (ZP ZnK (Zj (Zd 5) (Zj (Zd 5) Zq))) (Zd 2)) Zq)))) (ZD (Zah (ZT (ZG Zb4 (Zd 7) (Zap))) (Zbs (Zap)) Zag) (ZD (Zaa (O':=[]) (ZP Zmf (Zj (ZP Zs0 (Zj (ZP ZsZ (Zj (Zd 7) (Zj (Zn _) Zq))) (Zj (Zf7 Zu8 (Zj (Z6 Zal (Zd 5) (Zn _)) (Zj (Z6 Zal (Zd 6) (Zn _)) Zq))) (Zj (Zd 3) Zq)))) Zq))) (Zbs (ZcW ZoC (Zj (Zd 8) (Zj (ZP Zva (Zj (ZP ZnK (Zj (Zd 5) (Zj (Zd 6) Zq))) (Zj (Zd 1) (Zj (ZP Zlu (Zj (Zd 6) (Zj (Zd 6) Zq))) Zq)))) Zq))))))))))))
noncomputable def Zjp: Sm:=Zv (ZU 2 (ZaH (ZaT (Zf (Zu ZaS (Zf (Zh Zt (Zb 0) (Zm 0)) Zo)) Zo)) (Zas 100) (ZM (Zh oNe (Zb 100) (Zb 1))) (Zb 100))) (Zv (ZU 3 (Zbh Zo)) (Zv (ZaZ (ZbQ (Zb 2)) (Zas 4) (Zcz (Zeg (Zb 3) (ZaH (ZbQ (Zb 2)) (Zas 102) Zaw (Zh Zt (Zh Zt (Zh Zt (Zb 0) (Zm 0)) (Zb 4)) (Zb 102)))))) (ZH (ZaG (Zf (Zb 3) (Zf (Zh Zab (ZcE (Zh Zt (Zb 0) (Zm 1)) Zdd (Zde (Zh Zbo (Zb 1) (Zm 1)))) (ZcE (Zh Zt (Zb 0) (Zm 1)) (Zde (Zb 1)) Zdd)) Zo))))))
noncomputable def ZgZ:=Z3 2 Zjp
noncomputable def Zjq: PS:=(Zp (ZF 2 (Zai (Zav (Ze (Zs Zat (Ze (Zc Zl (Za 0) (Zg 0)) Zk)) Zk)) (ZX 100) (Zx (Zc qNe (Za 100) (Za 1))) (Za 100))) (Zp (ZF 3 (ZaQ Zk)) (Zp (ZaA (Zaz (Za 2)) (ZX 4) (Zdv 3 [] Za1 (Zai (Zaz (Za 2)) (ZX 102) Z4 (Zb1 (Zc Zl (Zc Zl (Zc Zl (Za 0) (Zg 0)) (Za 4)) (Za 102)))))) (Zw (ZaD (Ze (Za 3) (Ze (Zc ZV (ZcS (Zc Zl (Za 0) (Zg 1)) Zc8 (Zc9 (Zc ZaM (Za 1) (Zg 1)))) (ZcS (Zc Zl (Za 0) (Zg 1)) (Zc9 (Za 1)) Zc8)) Zk)))))))
noncomputable def Zd9:=Z0 2 Zjq
theorem Znh: SimF false ZgZ Zd9:=Zaj (show S [] [3] [] false Zjp Zjq from(ZD (Zaa (O':=[]) (ZbZ (Gs.range (Zj (ZaO Za8 (Zj (Zz Zy (Zd 0) (Zn _)) Zq)) Zq)) PutOk.one (by decide) (ZT (ZG Zci (Zd 100) (Zd 1))) (Zd 100))) (ZD (Zda (O':=[3]) (E.list Zq)) (ZD (ZbC (Gs.seq (Zd 2)) PutOk.one (by decide) (by decide) (Zim (O':=[3]) (by decide) ZcT (Zcf (O':=[]) (Zdk (Gs.seq (Zd 2)) PutOk.one (by decide) ZaL (E.flat (Zz Zy (Zz Zy (Zz Zy (Zd 0) (Zn _)) (Zd 4)) (Zd 102))))) (by decide) (by decide))) (ZW (E.tup (Zj (Zd 3) (Zj (Z6 Zal (ZeU (Zz Zy (Zd 0) (Zn _)) Pe.none (Pe.some (ZG ZbB (Zd 1) (Zn _)))) (ZeU (Zz Zy (Zd 0) (Zn _)) (Pe.some (Zd 1)) Pe.none)) Zq))))))))
noncomputable def Zlv: Sm:=ZH (Zh Zab (Zh Zab (ZcE (Zb 0) Zdd (Zde (Zh Zbo (Zb 1) (Zm 1)))) (Zbh (Zf (Zb 2) Zo))) (ZcE (Zb 0) (Zde (Zb 1)) Zdd))
noncomputable def Zhx:=Z3 3 Zlv
noncomputable def Zlw: PS:=(Zw (Zc ZV (Zc ZV (ZcS (Za 0) Zc8 (Zc9 (Zc ZaM (Za 1) (Zg 1)))) (ZaQ (Ze (Za 2) Zk))) (ZcS (Za 0) (Zc9 (Za 1)) Zc8)))
noncomputable def ZdS:=Z0 3 Zlw
theorem Zn9: SimF false Zhx ZdS:=Zaj (show S [] [] [] false Zlv Zlw from(ZW (Z6 Zal (Z6 Zal (ZeU (Zd 0) Pe.none (Pe.some (ZG ZbB (Zd 1) (Zn _)))) (E.list (Zj (Zd 2) Zq))) (ZeU (Zd 0) (Pe.some (Zd 1)) Pe.none))))
noncomputable def ZlU: Sm:=Zv (ZU 1 (Zbh (Zf (ZaG (Zf (Zm 1) (Zf (Zm 0) Zo))) (Zf (ZaG (Zf (Zm 1) (Zf (Zm 1) Zo))) (Zf (ZaG (Zf (Zm 2) (Zf (Zm 1) Zo))) (Zf (ZaG (Zf (Zm 1) (Zf (Zm 2) Zo))) (Zf (ZaG (Zf (Zm 2) (Zf (Zm 2) Zo))) (Zf (ZaG (Zf (Zm 2) (Zf (Zm 0) Zo))) (Zf (ZaG (Zf (Zm 1) (Zf (Zm 1) Zo))) (Zf (ZaG (Zf (Zm 3) (Zf (Zm 1) Zo))) (Zf (ZaG (Zf (Zm 1) (Zf (Zm 3) Zo))) (Zf (ZaG (Zf (Zm 2) (Zf (Zm 4) Zo))) (Zf (ZaG (Zf (Zm 4) (Zf (Zm 4) Zo))) Zo))))))))))))) (Zv (ZU 2 (Zh Zt (Zb 1) (Zu Zcl (Zf (Zb 0) (Zf (Zm 0) (Zf (Zm 11) Zo)))))) (Zv (ZU 3 (Zh Zt (Zb 2) (Zm 0))) (Zv (ZU 4 (ZaH (ZaT (Zf (Zb 3) Zo)) (Zas 100) Zaw (Zu Zea (Zf (Zb 0) (Zf (Zh Zab (Zm 2) (Zb 100)) Zo))))) (Zv (ZU 5 (Zu Zhd (Zf (Zb 0) (Zf (Zm 30) (Zf (Zb 4) Zo))))) (Zv (ZU 6 (ZaH (ZaT (Zf (Zh Zt (Zb 2) (Zm 1)) Zo)) (Zas 102) Zaw (Zu Zlq (Zf (Zb 0) (Zf (Zh Zab (Zm 8) (Zh Za7 (Zm 5) (Zb 102))) (Zf (Zb 3) Zo)))))) (Zv (ZU 7 (ZaH (ZbQ (Zb 6)) (Zas 104) Zaw (Zu Zke (Zf (Zb 104) (Zf (Zb 4) Zo))))) (Zv (ZU 8 (Zu Zea (Zf (Zb 0) (Zf (Zm 6) Zo)))) (Zv (Z1 (Zbj (ZM (Zh oGt (Zu ZaS (Zf (Zb 6) Zo)) (Zm 0))) (Zbj (ZM (Zh oEq (Zu Zcl (Zf (Zb 0) (Zf (Zm 7) (Zf (Zm 2) Zo)))) (Zm 1))) Zaw)) (ZU 8 (Zh Zbo (Zh Zab (Zh Zt (Zb 7) (Zm 0)) (Zu Zcl (Zf (Zb 0) (Zf (Zm 6) (Zf (Zm 7) Zo))))) (Zm 3))) Z8) (Zv (ZU 9 (Zu Zhd (Zf (Zb 0) (Zf (Zm 60) (Zf (Zh Zab (Zb 7) (Zbh (Zf (Zb 8) Zo))) Zo))))) (Zv (ZU 10 (Zh Zab (Zm 1) (Zu Zcl (Zf (Zb 0) (Zf (Zm 1) (Zf (Zb 3) Zo)))))) (Zv (ZU 11 (Zbh (Zf (Zu Zhe (Zf (Zb 5) Zo)) (Zf (Zu Zhe (Zf (Zb 9) Zo)) (Zf (ZaH (ZbQ (Zb 6)) (Zas 106) Zaw (Zu ZdE (Zf (Zb 106) Zo))) Zo))))) (Zv (ZU 12 (Zu ZfK (Zf (Zb 5) (Zf (Zb 10) (Zf (Zb 6) (Zf (Zb 9) Zo)))))) (Zv (Z1 (tOr (ZM (Zh oNe (Zb 5) (Zh Zt (Zb 11) (Zm 0)))) (tOr (ZM (Zh oNe (Zb 9) (Zh Zt (Zb 11) (Zm 1)))) (tOr (ZM (Zh oNe (Zb 6) (Zh Zt (Zb 11) (Zm 2)))) Zca))) (ZH (Za4 false)) Z8) (Zv (Z1 (tOr (Zb2 (ZM (Zu Zj8 (Zf (Zb 12) (Zf (Zb 3) Zo))))) (tOr (Zb2 (ZM (Zu ZfJ (Zf (Zb 12) (Zf (Zu Zhx (Zf (Zb 4) (Zf (Zb 10) (Zf (Zb 8) Zo)))) Zo))))) Zca)) (ZH (Za4 false)) Z8) (Zv (Z1 (Zb2 (ZM (Zu Zju (Zf (Zu ZgZ (Zf (Zb 12) (Zf (Zb 10) Zo))) (Zf (Zu ZgZ (Zf (Zb 5) (Zf (Zb 10) Zo))) Zo))))) (ZH (Za4 false)) Z8) (Zv (ZU 13 (Zu Zcl (Zf (Zb 0) (Zf (Zm 29) (Zf (Zm 6) Zo))))) (Zv (ZU 14 (Zh Zbo (Zh Zab (Zb 8) (Zb 13)) (Zm 2))) (Zv (Z1 (ZM (Zh oEq (Zb 13) (Zm 5))) (ZU 14 (Zh Zab (Zb 8) (Zh Zt (Zh Zt (Zh Zt (Zb 9) (Zm 1)) (eUn Zd4 (Zm 1))) (Zm 0)))) Z8) (Zv (Z1 (Zbj (ZM (Zu ZfJ (Zf (Zb 9) (Zf (Zh Zab (Zb 7) (Zbh (Zf (Zb 14) Zo))) Zo)))) (Zbj (Zb2 (ZM (Zu ZfJ (Zf (Zb 12) (Zf (Zu Zhx (Zf (Zb 4) (Zf (Zb 10) (Zf (Zb 14) Zo)))) Zo))))) Zaw)) (ZH (Za4 false)) Z8) (ZH (ZdJ (Zh oIs (Zu ZfK (Zf (Z9) (Zf (Zb 10) (Zf (Zb 6) (Zf (Zb 9) Zo))))) (Z9)) (Zh oIs (Zu ZfK (Zf (Zb 5) (Zf (Zb 10) (Zf (Zb 6) (Zf (Z9) Zo))))) (Z9)))))))))))))))))))))))
noncomputable def ZoD:=Z3 1 ZlU
noncomputable def ZlV: PS:=(Zp (ZF 1 (ZaQ (Ze (ZaD (Ze (Zg 1) (Ze (Zg 0) Zk))) (Ze (ZaD (Ze (Zg 1) (Ze (Zg 1) Zk))) (Ze (ZaD (Ze (Zg 2) (Ze (Zg 1) Zk))) (Ze (ZaD (Ze (Zg 1) (Ze (Zg 2) Zk))) (Ze (ZaD (Ze (Zg 2) (Ze (Zg 2) Zk))) (Ze (ZaD (Ze (Zg 2) (Ze (Zg 0) Zk))) (Ze (ZaD (Ze (Zg 1) (Ze (Zg 1) Zk))) (Ze (ZaD (Ze (Zg 3) (Ze (Zg 1) Zk))) (Ze (ZaD (Ze (Zg 1) (Ze (Zg 3) Zk))) (Ze (ZaD (Ze (Zg 2) (Ze (Zg 4) Zk))) (Ze (ZaD (Ze (Zg 4) (Ze (Zg 4) Zk))) Zk))))))))))))) (Zp (ZF 2 (Zc Zl (Za 1) (Zs ZbV (Ze (Za 0) (Ze (Zg 0) (Ze (Zg 11) Zk)))))) (Zp (ZF 3 (Zc Zl (Za 2) (Zg 0))) (Zp (ZF 4 (Zai (Zav (Ze (Za 3) Zk)) (ZX 100) Z4 (Zs ZdQ (Ze (Za 0) (Ze (Zc ZV (Zg 2) (Za 100)) Zk))))) (Zp (ZF 5 (Zs ZfF (Ze (Za 0) (Ze (Zg 30) (Ze (Za 4) Zk))))) (Zp (ZF 6 (Zai (Zav (Ze (Zc Zl (Za 2) (Zg 1)) Zk)) (ZX 102) Z4 (Zs Zhw (Ze (Za 0) (Ze (Zc ZV (Zg 8) (Zc ZaC (Zg 5) (Za 102))) (Ze (Za 3) Zk)))))) (Zp (ZF 7 (Zai (Zaz (Za 6)) (ZX 104) Z4 (Zs Zha (Ze (Za 104) (Ze (Za 4) Zk))))) (Zp (ZF 8 (Zs ZdQ (Ze (Za 0) (Ze (Zg 6) Zk)))) (Zp (ZO (ZaB (Zx (Zc qGt (Zs Zat (Ze (Za 6) Zk)) (Zg 0))) (ZaB (Zx (Zc qEq (Zs ZbV (Ze (Za 0) (Ze (Zg 7) (Ze (Zg 2) Zk)))) (Zg 1))) Z4)) (ZF 8 (Zc ZaM (Zc ZV (Zc Zl (Za 7) (Zg 0)) (Zs ZbV (Ze (Za 0) (Ze (Zg 6) (Ze (Zg 7) Zk))))) (Zg 3))) ZR) (Zp (ZF 9 (Zs ZfF (Ze (Za 0) (Ze (Zg 60) (Ze (Zc ZV (Za 7) (ZaQ (Ze (Za 8) Zk))) Zk))))) (Zp (ZF 10 (Zc ZV (Zg 1) (Zs ZbV (Ze (Za 0) (Ze (Zg 1) (Ze (Za 3) Zk)))))) (Zp (ZF 11 (ZaQ (Ze (Zs Zdz (Ze (Za 5) Zk)) (Ze (Zs Zdz (Ze (Za 9) Zk)) (Ze (Zai (Zaz (Za 6)) (ZX 106) Z4 (Zs Zcx (Ze (Za 106) Zk))) Zk))))) (Zp (ZF 12 (Zs ZbW (Ze (Za 5) (Ze (Za 10) (Ze (Za 6) (Ze (Za 9) Zk)))))) (Zp (ZO (bOr (Zx (Zc qNe (Za 5) (Zc Zl (Za 11) (Zg 0)))) (bOr (Zx (Zc qNe (Za 9) (Zc Zl (Za 11) (Zg 1)))) (bOr (Zx (Zc qNe (Za 6) (Zc Zl (Za 11) (Zg 2)))) Zb0))) (Zw (ZaX false)) ZR) (Zp (ZO (bOr (Zbp (Zx (Zs ZfB (Ze (Za 12) (Ze (Za 3) Zk))))) (bOr (Zbp (Zx (Zs Zcr (Ze (Za 12) (Ze (Zs ZdS (Ze (Za 4) (Ze (Za 10) (Ze (Za 8) Zk)))) Zk))))) Zb0)) (Zw (ZaX false)) ZR) (Zp (ZO (Zbp (Zx (Zs Zft (Ze (Zs Zd9 (Ze (Za 12) (Ze (Za 10) Zk))) (Ze (Zs Zd9 (Ze (Za 5) (Ze (Za 10) Zk))) Zk))))) (Zw (ZaX false)) ZR) (Zp (ZF 13 (Zs ZbV (Ze (Za 0) (Ze (Zg 29) (Ze (Zg 6) Zk))))) (Zp (ZF 14 (Zc ZaM (Zc ZV (Za 8) (Za 13)) (Zg 2))) (Zp (ZO (Zx (Zc qEq (Za 13) (Zg 5))) (ZF 14 (Zc ZV (Za 8) (Zc Zl (Zc Zl (Zc Zl (Za 9) (Zg 1)) (pUn Zc1 (Zg 1))) (Zg 0)))) ZR) (Zp (ZO (ZaB (Zx (Zs Zcr (Ze (Za 9) (Ze (Zc ZV (Za 7) (ZaQ (Ze (Za 14) Zk))) Zk)))) (ZaB (Zbp (Zx (Zs Zcr (Ze (Za 12) (Ze (Zs ZdS (Ze (Za 4) (Ze (Za 10) (Ze (Za 14) Zk)))) Zk))))) Z4)) (Zw (ZaX false)) ZR) (Zw ((Zdt (Zc qIs (Zs ZbW (Ze (ZN) (Ze (Za 10) (Ze (Za 6) (Ze (Za 9) Zk))))) (ZN)) (Zc qIs (Zs ZbW (Ze (Za 5) (Ze (Za 10) (Ze (Za 6) (Ze (ZN) Zk))))) (ZN)))))))))))))))))))))))))
noncomputable def ZlW:=Z0 1 ZlV
theorem ZtY: SimF false ZoD ZlW:=Zaj (show S [] [] [] false ZlU ZlV from(ZD (Zaa (O':=[]) (E.list (Zj (E.tup (Zj (Zn _) (Zj (Zn _) Zq))) (Zj (E.tup (Zj (Zn _) (Zj (Zn _) Zq))) (Zj (E.tup (Zj (Zn _) (Zj (Zn _) Zq))) (Zj (E.tup (Zj (Zn _) (Zj (Zn _) Zq))) (Zj (E.tup (Zj (Zn _) (Zj (Zn _) Zq))) (Zj (E.tup (Zj (Zn _) (Zj (Zn _) Zq))) (Zj (E.tup (Zj (Zn _) (Zj (Zn _) Zq))) (Zj (E.tup (Zj (Zn _) (Zj (Zn _) Zq))) (Zj (E.tup (Zj (Zn _) (Zj (Zn _) Zq))) (Zj (E.tup (Zj (Zn _) (Zj (Zn _) Zq))) (Zj (E.tup (Zj (Zn _) (Zj (Zn _) Zq))) Zq))))))))))))) (ZD (Zaa (O':=[]) (Zz Zy (Zd 1) (ZP ZcB (Zj (Zd 0) (Zj (Zn _) (Zj (Zn _) Zq)))))) (ZD (Zaa (O':=[]) (Zz Zy (Zd 2) (Zn _))) (ZD (Zaa (O':=[]) (ZbZ (Gs.range (Zj (Zd 3) Zq)) PutOk.one (by decide) ZaL (ZP Zfs (Zj (Zd 0) (Zj (Z6 Zal (Zn _) (Zd 100)) Zq))))) (ZD (Zaa (O':=[]) (ZP ZnE (Zj (Zd 0) (Zj (Zn _) (Zj (Zd 4) Zq))))) (ZD (Zaa (O':=[]) (ZbZ (Gs.range (Zj (Zz Zy (Zd 2) (Zn _)) Zq)) PutOk.one (by decide) ZaL (ZP Zs1 (Zj (Zd 0) (Zj (Z6 Zal (Zn _) (Z6 Zbv (Zn _) (Zd 102))) (Zj (Zd 3) Zq)))))) (ZD (Zaa (O':=[]) (ZbZ (Gs.seq (Zd 6)) PutOk.one (by decide) ZaL (ZP ZrG (Zj (Zd 104) (Zj (Zd 4) Zq))))) (ZD (Zaa (O':=[]) (ZP Zfs (Zj (Zd 0) (Zj (Zn _) Zq)))) (ZD (Zah (ZbN (ZT (ZG Zfk (ZaO Za8 (Zj (Zd 6) Zq)) (Zn _))) (ZbN (ZT (ZG ZaV (ZP ZcB (Zj (Zd 0) (Zj (Zn _) (Zj (Zn _) Zq)))) (Zn _))) ZaL)) (Zaa (O':=[]) (ZG ZbB (Z6 Zal (Zz Zy (Zd 7) (Zn _)) (ZP ZcB (Zj (Zd 0) (Zj (Zn _) (Zj (Zn _) Zq))))) (Zn _))) Zag) (ZD (Zaa (O':=[]) (ZP ZnE (Zj (Zd 0) (Zj (Zn _) (Zj (Z6 Zal (Zd 7) (E.list (Zj (Zd 8) Zq))) Zq))))) (ZD (Zaa (O':=[]) (Z6 Zal (Zn _) (ZP ZcB (Zj (Zd 0) (Zj (Zn _) (Zj (Zd 3) Zq)))))) (ZD (Zaa (O':=[]) (E.list (Zj (ZP ZnF (Zj (Zd 5) Zq)) (Zj (ZP ZnF (Zj (Zd 9) Zq)) (Zj (ZbZ (Gs.seq (Zd 6)) PutOk.one (by decide) ZaL (Zf7 ZhT (Zj (Zd 106) Zq))) Zq))))) (ZD (Zaa (O':=[]) (ZP Zk0 (Zj (Zd 5) (Zj (Zd 10) (Zj (Zd 6) (Zj (Zd 9) Zq)))))) (ZD (Zah (ZaY (ZT (ZG Zci (Zd 5) (Zz Zy (Zd 11) (Zn _)))) (ZaY (ZT (ZG Zci (Zd 9) (Zz Zy (Zd 11) (Zn _)))) (ZaY (ZT (ZG Zci (Zd 6) (Zz Zy (Zd 11) (Zn _)))) Zct))) (ZW (E.bool _)) Zag) (ZD (Zah (ZaY (Zcc (ZT (ZP ZrE (Zj (Zd 12) (Zj (Zd 3) Zq))))) (ZaY (Zcc (ZT (ZP ZkK (Zj (Zd 12) (Zj (ZP Zn9 (Zj (Zd 4) (Zj (Zd 10) (Zj (Zd 8) Zq)))) Zq))))) Zct)) (ZW (E.bool _)) Zag) (ZD (Zah (Zcc (ZT (ZP Zre (Zj (ZP Znh (Zj (Zd 12) (Zj (Zd 10) Zq))) (Zj (ZP Znh (Zj (Zd 5) (Zj (Zd 10) Zq))) Zq))))) (ZW (E.bool _)) Zag) (ZD (Zaa (O':=[]) (ZP ZcB (Zj (Zd 0) (Zj (Zn _) (Zj (Zn _) Zq))))) (ZD (Zaa (O':=[]) (ZG ZbB (Z6 Zal (Zd 8) (Zd 13)) (Zn _))) (ZD (Zah (ZT (ZG ZaV (Zd 13) (Zn _))) (Zaa (O':=[]) (Z6 Zal (Zd 8) (Zz Zy (Zz Zy (Zz Zy (Zd 9) (Zn _)) (Zfc Zff (Zn _))) (Zn _)))) Zag) (ZD (Zah (ZbN (ZT (ZP ZkK (Zj (Zd 9) (Zj (Z6 Zal (Zd 7) (E.list (Zj (Zd 14) Zq))) Zq)))) (ZbN (Zcc (ZT (ZP ZkK (Zj (Zd 12) (Zj (ZP Zn9 (Zj (Zd 4) (Zj (Zd 10) (Zj (Zd 14) Zq)))) Zq))))) ZaL)) (ZW (E.bool _)) Zag) (ZW ((Zgx (E.sh (ZG Zb4 (ZP Zk0 (Zj (Zap) (Zj (Zd 10) (Zj (Zd 6) (Zj (Zd 9) Zq))))) (Zap))) (E.sh (ZG Zb4 (ZP Zk0 (Zj (Zd 5) (Zj (Zd 10) (Zj (Zd 6) (Zj (Zap) Zq))))) (Zap)))))))))))))))))))))))))))
end L
end
section
set_option autoImplicit false
open PySem PySem.W PyProof.Rows PM TM My
local macro_rules | `(tactic| walk_at "tkrd") => `(tactic| first | with_reducible assumption | with_reducible exact ZbX | ((with_reducible apply ZuX); decide; walk_at "tkrd") | ((with_reducible apply ZtJ); decide; walk_at "tkrd") | exact rfl | assumption)
local macro_rules | `(tactic| walk_at "tkyes") => `(tactic| first | rfl | (with_reducible assumption) | (simp only [Bool.not_eq_true', Bool.not_eq_false', decide_eq_true_eq, decide_eq_false_iff_not, beq_iff_eq, beq_eq_false_iff_ne, ne_eq, Bool.not_true, Bool.not_false, not_false_eq_true, not_true_eq_false, bne_iff_ne, Decidable.not_not, List.length_map] <;> first | done | omega | assumption))
local macro_rules | `(tactic| walk_at "tkflat") => `(tactic| first | rfl | exact ZeX | exact ZfX | exact Zhb fun i hi => by first | rfl | exact ZeX | exact ZfX)
local macro_rules | `(tactic| walk_at "tkop") => `(tactic| first | with_reducible refine ZmA ?_ | with_reducible refine Zv3 ?_ | with_reducible refine Zv4 ?_ | with_reducible refine ZwJ ?_ | with_reducible refine ZwK ?_ | with_reducible refine ZwL ?_ | with_reducible refine tk_ge ?_ | with_reducible refine Zv6 ?_ | with_reducible refine tk_max ?_ | with_reducible refine tk_min ?_ | with_reducible refine ZwM ?_ | with_reducible refine ZwN ?_ | with_reducible refine tk_eqb ?_ | with_reducible refine tk_neb ?_ | with_reducible refine Zv7 ?_ | with_reducible refine Zv8 ?_ | with_reducible refine Zv9 ?_ | with_reducible refine Zwa ?_ | with_reducible refine ZuI ?_ | with_reducible refine ZuJ ?_ | with_reducible refine tk_notl ?_ | with_reducible refine ZuK ?_ | with_reducible refine ZuL ?_ | with_reducible refine Zwb ?_ | with_reducible refine ZuM ?_ | ((with_reducible apply ZuN); (first | assumption | omega)) | ((with_reducible apply ZuO); (first | decide | omega); (first | decide | omega)) | ((with_reducible apply ZuP); (first | decide | omega); rfl) | ((with_reducible apply ZhV); (first | decide | omega); rfl) | ((with_reducible apply Zpa); omega) | with_reducible refine ZtD ?_ | with_reducible refine tk_list1t ?_ | with_reducible refine ZuQ ?_ | with_reducible refine tk_all ?_ | with_reducible refine Zwc ?_ | ((with_reducible apply Zv5); (first | decide | omega)))
local macro_rules | `(tactic| walk_at "tk1") => `(tactic| first | with_reducible refine ZvT ?_ | with_reducible refine ZwE ?_ | with_reducible refine ZuB ?_ | with_reducible refine ZvU ?_ | with_reducible refine ZvV ?_ | with_reducible refine ZuC ?_ | with_reducible refine ZuA ?_ | with_reducible refine ZuD ?_ | with_reducible refine ZwF ?_ | with_reducible refine ZwG ?_ | with_reducible refine ZvW ?_ | with_reducible refine ZvX ?_ | with_reducible refine ZwH ?_ | with_reducible refine ZwI ?_ | with_reducible refine ZvY ?_ | with_reducible refine ZuE ?_ | with_reducible refine ZuF ?_ | with_reducible refine ZtC ?_ | with_reducible refine ZuG ?_ | with_reducible refine ZvZ ?_ | with_reducible refine Zr2 ?_ | with_reducible refine tk_truth_n ?_ | with_reducible refine ZuH ?_ | with_reducible refine Zv0 ?_ | with_reducible refine Zmx ?_ | with_reducible refine tk_exp ?_ | with_reducible refine Zgk ?_ | with_reducible refine Zmy ?_ | with_reducible refine ZvQ ?_ | with_reducible refine ZvR ?_ | with_reducible refine Zuz ?_ | with_reducible refine tk_str ?_ | ((with_reducible apply ZvS); walk_at "tkrd") | ((with_reducible apply Zv1); walk_at "tkyes") | ((with_reducible apply Zv2); walk_at "tkyes") | ((with_reducible apply Zmz); rfl) | (refine And.intro (show T.flat _ = true by walk_at "tkflat") ?_) | (refine And.intro (show T.flatIn _ = true by walk_at "tkflat") ?_) | with_reducible refine ZhW ?_ | with_reducible refine Sq.lst ?_ | with_reducible refine Sq.tup ?_ | with_reducible refine ZtG ?_ | ((with_reducible apply Rn.one); omega) | with_reducible refine ZmB ?_ | with_reducible refine Zu1 ?_ | with_reducible refine Zu2 ?_ | with_reducible refine ZtS ?_ | with_reducible refine Zi.eq ?_ | with_reducible refine Zi.mn ?_ | with_reducible refine Zwd ?_ | with_reducible refine ZuV ?_ | with_reducible refine Zwe ?_ | with_reducible refine ZuW ?_ | ((with_reducible apply ZuT); walk_at "tkrd"; (first | (rw [Zan]; omega) | (simp; done))) | ((with_reducible apply ZuU); walk_at "tkrd"; (first | (rw [Zan]; omega) | (simp; done))) | ((with_reducible apply ZtH); walk_at "tkrd"; (first | assumption | omega)) | ((with_reducible apply ZtI); walk_at "tkrd"; (first | assumption | omega); (first | assumption | omega)) | walk_at "tkop")
local macro_rules | `(tactic| walk_at "zz") => `(tactic| repeat' walk_at "tk1")
local macro_rules | `(tactic| walk_at "zr") => `(tactic| walk_at "tkrd")
namespace L
open PySem PySem.W PyProof.Rows PM TM My
variable {a v:Option Int} {L N X b i j k k' m n r t:Nat} {ns:List Int} {c d x:Nat→Int} {A B D F G G' G2 Γ:Nat→Nat→Option Int} {σ:TL} {g:PE} {Q:T→Prop} {R R' R2 S:Nat→Int×Int} {K K' M M' y:Int} {p q:Int×Int} {f:Nat→T} {β:Type} {o:Option (Int×Int)} {ts:List T} {done done':Nat→Nat→Nat→Prop} {l:List Nat} {C:Nat→Nat→Int} {ρ:Nat→Option (Int×Int)}
section
variable {Q:T→Prop}
theorem Zw3(h:Q (.int T9)): Pk (Zdh (.int 10) (.int 9)) Q:=by
 have:=ZwA []
 simp only[oPow]at this
 split at this
 ·rename_i hc
  refine⟨_,by simp only[Zdh];rw[if_pos hc],?_⟩
  simp only[Option.some.injEq,Prod.mk.injEq,V.int.injEq,and_true]at this
  rw[this];exact h
 ·cases this
theorem ZwQ(h:Q (.int T40)): Pk (Zdh (.int 10) (.int 40)) Q:=by
 have:=ZvO []
 simp only[oPow]at this
 split at this
 ·rename_i hc
  refine⟨_,by simp only[Zdh];rw[if_pos hc],?_⟩
  simp only[Option.some.injEq,Prod.mk.injEq,V.int.injEq,and_true]at this
  rw[this];exact h
 ·cases this
theorem ZwR(h:Q (.int M9)): Pk (Zdh (.int 48271) (.int 9)) Q:=by
 have:=ZvN []
 simp only[oPow]at this
 split at this
 ·rename_i hc
  refine⟨_,by simp only[Zdh];rw[if_pos hc],?_⟩
  simp only[Option.some.injEq,Prod.mk.injEq,V.int.injEq,and_true]at this
  rw[this];exact h
 ·cases this
theorem ZdB{a b:Int}(h1:-(2 ^ 64)<b)(h2:b<2 ^ 64)(h:Q (.int (a*b))): Pk (ZaC (.int a) (.int b)) Q:=Zbt (ZsO h1 h2) h
theorem Zpi{a b:Int}(h1:-(2 ^ 64)<a)(h2:a<2 ^ 64)(h:Q (.int (a*b))): Pk (ZaC (.int a) (.int b)) Q:=Zbt (Zr0 h1 h2) h
end
noncomputable def scr(ns:List Int): T:=.lst (ns.map T.int)
noncomputable def Lay(ns:List Int): Prop:=PyData.layable0 (.list (ns.map .int))=true
noncomputable def Zcd(ns:List Int)(k:Int): Int:=k*k*7919+11+(if 0<ns.length then cellAt ns (k.fmod ns.length) 0 else 0)
theorem ZoE{k:Int}(h0:0≤k)(h9:k≤10000): Zfx [scr ns,.int k]=some (.int (Zcd ns k)):=by
 apply Pk.eq
 unfold Zfx ZjK Zcd scr
 by_cases hl:0<ns.length
 ·have a:=Int.fmod_nonneg_of_pos k (show(0:Int)<ns.length by omega)
  have b:=Int.fmod_lt_of_pos k (show(0:Int)<ns.length by omega)
  have e:(ns.map T.int).length=ns.length:=by simp
  walk_at "zz"
  refine ZdB (by omega) (by omega) ?_
  walk_at "zz"
  refine ZdB (by omega) (by omega) ?_
  walk_at "zz"
  refine ZhV (t:=.int (cellAt ns (k.fmod ns.length) 0)) (by rw[e];omega) ?_ ?_
  ·rw[e,List.getElem?_map,List.getElem?_eq_getElem (by omega),cellAt_def]
   simp only[Option.map_some,T.int.injEq,Option.some.injEq]
   rw[List.getD_eq_getElem?_getD,List.getElem?_eq_getElem (by omega)]
   rfl
  walk_at "zz"
  rw[if_pos hl]
 ·walk_at "zz"
  refine ZdB (by omega) (by omega) ?_
  walk_at "zz"
  refine ZdB (by omega) (by omega) ?_
  walk_at "zz"
  rw[if_neg hl]
  simp
theorem Zsc{k:Int}(hL:Lay ns)(h0:0≤k)(h9:k≤10000): Builtin.Int.intBits (Zcd ns k)≤2 ^ 21:=by
 unfold Zcd
 have h1:0≤k*k:=Int.mul_nonneg h0 h0
 have h2:k*k≤10000*10000:=Int.mul_le_mul h9 h9 h0 (by decide)
 have hb:Builtin.Int.intBits (k*k*7919+11)≤2 ^ 20:=Nat.le_trans (intBits_le_64 (by omega) (by omega)) (by decide)
 have hc:Builtin.Int.intBits (if 0<ns.length then cellAt ns (k.fmod ns.length) 0 else 0)≤2 ^ 20:=by
  split
  ·exact(cell_at hL _).bits
  ·exact bits_zero
 exact Nat.le_trans (PM.Ztz hb hc) (by decide)
noncomputable def Zbn(ns:List Int)(k many:Int): Int:=((Zcd ns k*48271).fmod 2147483647).fmod many
theorem ZcP(ns:List Int)(k:Int){many:Int}(h:0<many): 0≤Zbn ns k many∧Zbn ns k many<many:=⟨Int.fmod_nonneg_of_pos _ h,Int.fmod_lt_of_pos _ h⟩
theorem ZcQ{k many:Int}(h0:0≤k)(h9:k≤10000)(hm:0<many): ZbV [scr ns,.int k,.int many]=some (.int (Zbn ns k many)):=by
 apply Pk.eq
 unfold ZbV Zkp
 walk_at "zz"
 refine ZJ (ZoE h0 h9) ?_
 walk_at "zz"
 refine ZdB (by decide) (by decide) ?_
 walk_at "zz"
 rfl
noncomputable def ZdG(ns:List Int)(k:Int): Int:=[3,9,T9,T40].getD (((Zcd ns k*69621).fmod 2147483629).fmod 4).toNat 0
theorem ZoF(ns:List Int)(k:Int): 0<ZdG ns k∧ZdG ns k≤T40:=by
 unfold ZdG
 have a:=Int.fmod_nonneg_of_pos ((Zcd ns k*69621).fmod 2147483629) (show(0:Int)<4 by decide)
 have b:=Int.fmod_lt_of_pos ((Zcd ns k*69621).fmod 2147483629) (show(0:Int)<4 by decide)
 generalize ((Zcd ns k*69621).fmod 2147483629).fmod 4=i at a b
 have h9:=T9_eq
 have h40:=Zgi
 have:i=0∨i=1∨i=2∨i=3:=by omega
 obtain rfl | rfl | rfl | rfl:=this
 ·show 0<3∧3≤T40;omega
 ·show 0<9∧9≤T40;omega
 ·show 0<T9∧T9≤T40;omega
 ·show 0<T40∧T40≤T40;omega
noncomputable def Zck(ns:List Int)(k:Int): Int:=(Zcd ns k*M9).fmod (2*ZdG ns k+1)-ZdG ns k
theorem ZpT(ns:List Int)(k:Int): -T40≤Zck ns k∧Zck ns k≤T40:=by
 obtain⟨a,b⟩:=ZoF ns k
 have h1:=Int.fmod_nonneg_of_pos (Zcd ns k*M9) (show 0<2*ZdG ns k+1 by omega)
 have h2:=Int.fmod_lt_of_pos (Zcd ns k*M9) (show 0<2*ZdG ns k+1 by omega)
 unfold Zck
 omega
theorem ZfU{k:Int}(hL:Lay ns)(h0:0≤k)(h9:k≤10000): ZdQ [scr ns,.int k]=some (.int (Zck ns k)):=by
 apply Pk.eq
 unfold ZdQ Zjs
 have hb:=Zot (Zsc hL h0 h9) Zuv
 obtain⟨r0,r1⟩:=ZoF ns k
 have a:=Int.fmod_nonneg_of_pos ((Zcd ns k*69621).fmod 2147483629) (show(0:Int)<4 by decide)
 have b:=Int.fmod_lt_of_pos ((Zcd ns k*69621).fmod 2147483629) (show(0:Int)<4 by decide)
 walk_at "zz"
 refine ZJ (ZoE h0 h9) ?_
 walk_at "zz"
 refine Zw3 ?_
 walk_at "zz"
 refine ZwQ ?_
 walk_at "zz"
 refine ZdB (by decide) (by decide) ?_
 walk_at "zz"
 refine ZhV (t:=.int (ZdG ns k)) (by omega) ?_ ?_
 ·unfold ZdG
  have:(((Zcd ns k*69621).fmod 2147483629).fmod 4).toNat<4:=by omega
  generalize (((Zcd ns k*69621).fmod 2147483629).fmod 4).toNat=i at this
  match i,this with
  | 0,_=>rfl
  | 1,_=>rfl
  | 2,_=>rfl
  | 3,_=>rfl
 walk_at "zz"
 refine ZwR ?_
 walk_at "zz"
 refine Zbt hb ?_
 walk_at "zz"
 refine Zpi (by decide) (by decide) ?_
 walk_at "zz"
 rfl
noncomputable def Zba(a:Int): Int:=if a<0 then -a else a
theorem ZcR(a:Int): 0≤Zba a:=by unfold Zba;split <;> omega
noncomputable def Zdc(ns:List Int)(k:Int): Option Int:=
 if(Zbn ns k 42).fmod 6<2 then none else if(Zbn ns k 42).fmod 6<4 then some 0 else if(Zbn ns k 42).fmod 6=4 then some ((Zbn ns k 42).fdiv 6)else some (Zba (Zck ns k))
theorem ZlX(ns:List Int)(k:Int){c:Int}(h:Zdc ns k=some c): 0≤c∧c≤T40:=by
 have h40:=Zgi
 unfold Zdc at h
 split at h
 ·cases h
 ·split at h
  ·cases h;omega
  ·split at h
   ·cases h
    obtain⟨p0,p1⟩:=ZcP ns k (show(0:Int)<42 by decide)
    rw[Int.fdiv_eq_ediv_of_nonneg _ (by decide)]
    omega
   ·cases h
    have:=ZpT ns k
    have:=ZcR (Zck ns k)
    unfold Zba at *
    split at * <;> omega
theorem Zoa{a b:Int}(h0:0≤b)(h1:b<2 ^ 30): Builtin.divisionGoesByPylong a b=false:=PyProof.noPylong_small (by omega)
theorem ZtZ{k:Int}(hL:Lay ns)(h0:0≤k)(h9:k≤10000): Zg5 [scr ns,.int k]=some (oT (Zdc ns k)):=by
 apply Pk.eq
 unfold Zg5 ZjN Zdc
 obtain⟨p0,p1⟩:=ZcP ns k (show(0:Int)<42 by decide)
 walk_at "zz"
 refine ZJ (ZcQ h0 h9 (by decide)) ?_
 walk_at "zz"
 refine⟨fun c=>?_,fun c=>?_⟩
 ·walk_at "zz"
  rw[if_pos (by simpa using c)];rfl
 rw[if_neg (by simpa using c)]
 walk_at "zz"
 refine⟨fun c=>?_,fun c=>?_⟩
 ·walk_at "zz"
  rw[if_pos (by simpa using c)];rfl
 rw[if_neg (by simpa using c)]
 walk_at "zz"
 refine⟨fun c=>?_,fun c=>?_⟩
 ·walk_at "zz"
  refine ZdF (by decide) (Zoa (by decide) (by decide)) ?_
  rw[if_pos (by simpa using c)];rfl
 rw[if_neg (by simpa using c)]
 walk_at "zz"
 refine ZJ (ZfU hL h0 h9) ?_
 walk_at "zz"
 rfl
noncomputable def RestOk(q:Int×Int): Prop:=q.1=0∨(0<q.1∧0≤q.2∧q.2<q.1)
noncomputable def ZaJ(m r:Int): Int×Int:=if m=0 then(0,r)else(m,r.fmod m)
theorem ZcL{m:Int}(h:0≤m)(r:Int): RestOk (ZaJ m r):=by
 unfold RestOk ZaJ
 split
 ·exact .inl rfl
 ·exact .inr ⟨by show 0<m;omega,Int.fmod_nonneg_of_pos _ (by omega),Int.fmod_lt_of_pos _ (by omega)⟩
theorem ZfL{m r:Int}: ZdO [.int m,.int r]=some (ZQ (ZaJ m r)):=by
 apply Pk.eq
 unfold ZdO Zi8 ZaJ
 by_cases c:m=0
 ·walk_at "zz"
  rw[if_pos c];rfl
 ·walk_at "zz"
  rw[if_neg c];rfl
noncomputable def ZcG(ns:List Int)(k x:Int): Int×Int:=
 if(Zbn ns k 60).fmod 5<2 then(1,0)else if(Zbn ns k 60).fmod 5=2 then(0,x)else if(Zbn ns k 60).fmod 5=3 then ZaJ ((Zbn ns k 60).fdiv 5+1) x else ZaJ (Zba (Zck ns k)) x
noncomputable def Zao(q:Int×Int)(x:Int): Prop:=(q.1=0→x=q.2)∧(0<q.1→(x-q.2).emod q.1=0)
theorem ZnL{m:Int}(h:0≤m)(r:Int): Zao (ZaJ m r) r:=by
 unfold Zao ZaJ
 split
 ·exact⟨fun _=>rfl,fun q=>absurd q (by simp)⟩
 ·refine⟨fun q=>absurd q (by simpa using ‹¬m=0›),fun q=>?_⟩
  show(r-r.fmod m) % m=0
  rw[Int.fmod_eq_emod_of_nonneg _ h,Int.sub_emod,Int.emod_emod,Int.sub_self]
  simp
theorem ZhI(ns:List Int)(k:Int): 0≤(Zbn ns k 60).fdiv 5∧(Zbn ns k 60).fdiv 5<12:=by
 obtain⟨p0,p1⟩:=ZcP ns k (show(0:Int)<60 by decide)
 rw[Int.fdiv_eq_ediv_of_nonneg _ (by decide)]
 omega
theorem Zt0(ns:List Int)(k x:Int): RestOk (ZcG ns k x):=by
 have:=ZhI ns k
 unfold ZcG
 split
 ·exact .inr ⟨by decide,by decide,by decide⟩
 ·split
  ·exact .inl rfl
  ·split
   ·exact ZcL (by omega) x
   ·exact ZcL (ZcR _) x
theorem Zs2(ns:List Int)(k x:Int): Zao (ZcG ns k x) x:=by
 have:=ZhI ns k
 unfold ZcG
 split
 ·exact⟨fun q=>absurd q (by decide),fun _=>by show(x-0) % 1=0;omega⟩
 ·split
  ·exact⟨fun _=>rfl,fun q=>absurd q (by simp)⟩
  ·split
   ·exact ZnL (by omega) x
   ·exact ZnL (ZcR _) x
theorem Zvb{k x:Int}(hL:Lay ns)(h0:0≤k)(h9:k≤10000): Zhc [scr ns,.int k,.int x]=some (ZQ (ZcG ns k x)):=by
 apply Pk.eq
 unfold Zhc Zks ZcG
 obtain⟨p0,p1⟩:=ZcP ns k (show(0:Int)<60 by decide)
 walk_at "zz"
 refine ZJ (ZcQ h0 h9 (by decide)) ?_
 walk_at "zz"
 refine⟨fun c=>?_,fun c=>?_⟩
 ·walk_at "zz"
  rw[if_pos (by simpa using c)];rfl
 rw[if_neg (by simpa using c)]
 walk_at "zz"
 refine⟨fun c=>?_,fun c=>?_⟩
 ·walk_at "zz"
  rw[if_pos (by simpa using c)];rfl
 rw[if_neg (by simpa using c)]
 walk_at "zz"
 refine⟨fun c=>?_,fun c=>?_⟩
 ·walk_at "zz"
  refine ZdF (by decide) (Zoa (by decide) (by decide)) ?_
  walk_at "zz"
  refine ZJ ZfL ?_
  rw[if_pos (by simpa using c)]
 rw[if_neg (by simpa using c)]
 walk_at "zz"
 refine ZJ (ZfU hL h0 h9) ?_
 walk_at "zz"
 exact ZJ ZfL rfl
noncomputable def Zaq(x:Nat→Int): Nat→Int:=cn 0 x
theorem ZmJ(x:Nat→Int): cn (T.int 0) (fun i=>T.int (x i))=fun i=>T.int (Zaq x i):=by
 funext i;cases i <;> rfl
noncomputable def ZbD(ns:List Int)(k:Int)(n:Nat)(x:Nat→Int)(i j:Nat): Option Int:=if j=i then some 0 else(Zdc ns (k+i*(n+1:Nat)+j)).map fun c=>Zaq x i-Zaq x j+c
noncomputable def ZdI(ns:List Int)(k:Int)(n:Nat)(x:Nat→Int)(t:Nat): Int×Int:=ZcG ns (k+(n+1:Nat)*(n+1:Nat)+t) (x t)
theorem Zsd(ns:List Int)(k:Int)(n:Nat)(x:Nat→Int)(i:Nat): ZbD ns k n x i i=some 0:=by simp[ZbD]
theorem Zt1(ns:List Int)(k:Int)(n:Nat)(x:Nat→Int)(i:Nat): (fun j=>if j=i then T.int 0 else oT ((Zdc ns (k+i*(n+1:Nat)+j)).map fun c=>Zaq x i-Zaq x j+c))=fun j=>oT (ZbD ns k n x i j):=by
 funext j
 unfold ZbD
 split <;> rfl
theorem Zpj{k:Int}(hL:Lay ns)(h0:0≤k)(h9:k≤1000)(hn:n≤9): ZfF [scr ns,.int k,ZbG n x]=some (ZE n (ZbD ns k n x) (ZdI ns k n x)):=by
 apply Pk.eq
 unfold ZfF Zku ZbG
 have hq:((n+1:Nat):Int)*((n+1:Nat):Int)≤10*10:=Int.mul_le_mul (by omega) (by omega) (by omega) (by decide)
 have hq0:(0:Int)≤((n+1:Nat):Int)*((n+1:Nat):Int):=Int.mul_nonneg (by omega) (by omega)
 walk_at "zz"
 rw[ZmJ]
 refine Za6 (n:=n+1) (a:=fun i=>.int i) (P:=fun i σ=>σ 0=some (scr ns)∧σ 1=some (.int k)∧σ 2=some (.lst (tab n fun i=>.int (x i)))∧σ 3=some (.lst (tab (n+1) fun i=>.int (Zaq x i)))∧σ 4=some (.int (n+1:Nat))∧σ 5=some (.lst (tab i fun i=>Zaf (n+1) (ZbD ns k n x i)))) ?_ ⟨rfl,rfl,rfl,rfl,rfl,rfl⟩ ?_ ?_
 ·walk_at "zz"
  rfl
 ·rintro i σ hi ⟨e0,e1,e2,e3,e4,e5⟩
  walk_at "zz"
  refine Za6 (n:=n+1) (a:=fun i=>.int i) (P:=fun j σ=>σ 0=some (scr ns)∧σ 1=some (.int k)∧σ 2=some (.lst (tab n fun i=>.int (x i)))∧σ 3=some (.lst (tab (n+1) fun i=>.int (Zaq x i)))∧σ 4=some (.int (n+1:Nat))∧σ 5=some (.lst (tab i fun i=>Zaf (n+1) (ZbD ns k n x i)))∧σ 6=some (.int i)∧σ 7=some (.lst (tab j fun j=>oT ((Zdc ns (k+i*(n+1:Nat)+j)).map fun c=>Zaq x i-Zaq x j+c)))) ?_ ⟨?_,?_,?_,?_,?_,?_,?_,?_⟩ ?_ ?_
  ·walk_at "zz"
   rfl
  all_goals first | walk_at "zr" | skip
  ·rintro j σ hj ⟨e0,e1,e2,e3,e4,e5,e6,e7⟩
   have hb1:(0:Int)≤i*((n+1:Nat):Int):=Int.mul_nonneg (by omega) (by omega)
   have hb2:(i:Int)*((n+1:Nat):Int)≤10*10:=Int.mul_le_mul (by omega) (by omega) (by omega) (by decide)
   walk_at "zz"
   refine ZdB (by omega) (by omega) ?_
   walk_at "zz"
   refine ZJ (ZtZ hL (by omega) (by omega)) ?_
   have key:∀w,w=oT ((Zdc ns (k+i*(n+1:Nat)+j)).map fun c=>Zaq x i-Zaq x j+c)→tab j (fun j=>oT ((Zdc ns (k+i*(n+1:Nat)+j)).map fun c=>Zaq x i-Zaq x j+c))++[w]=tab (j+1) fun j=>oT ((Zdc ns (k+i*(n+1:Nat)+j)).map fun c=>Zaq x i-Zaq x j+c):=fun w e=>by
    rw[e];exact Zcu
   cases hs:Zdc ns (k + ↑i * ↑(n+1) + ↑j)with
   | none=>
    simp only[Zbq,ZaE]
    walk_at "zz"
    rw[key _ (by rw[hs];rfl)]
    refine⟨?_,?_,?_,?_,?_,?_,?_,?_⟩ <;> walk_at "zr"
   | some c=>
    simp only[Zbq,ZaE]
    walk_at "zz"
    rw[key _ (by rw[hs];rfl)]
    refine⟨?_,?_,?_,?_,?_,?_,?_,?_⟩ <;> walk_at "zr"
  ·rintro σ ⟨e0,e1,e2,e3,e4,e5,e6,e7⟩
   walk_at "zz"
   rw[Zt1,show tab i (fun i=>Zaf (n+1) (ZbD ns k n x i))++[T.lst (tab (n+1) fun j=>oT (ZbD ns k n x i j))]=tab (i+1) fun i=>Zaf (n+1) (ZbD ns k n x i)from Zcu (f:=fun i=>Zaf (n+1) (ZbD ns k n x i))]
   refine⟨?_,?_,?_,?_,?_,?_⟩ <;> walk_at "zr"
 ·rintro σ ⟨e0,e1,e2,e3,e4,e5⟩
  walk_at "zz"
  refine Zbg (n:=n) (a:=fun i=>.int i) (b:=fun t=>ZQ (ZdI ns k n x t)) (by omega) ?_ (fun t ht=>?_) ?_
  ·walk_at "zz"
   refine ZmT n (by omega) (by omega) rfl
  ·walk_at "zz"
   refine ZdB (by omega) (by omega) ?_
   walk_at "zz"
   exact ZJ (Zvb hL (by omega) (by omega)) ⟨ZfX,rfl⟩
  walk_at "zz"
  rfl
noncomputable def Zax(n:Nat)(G:Nat→Nat→Option Int)(R:Nat→Int×Int)(x:Nat→Int): Prop:=(∀i j,i<n+1→j<n+1→∀b,G i j=some b→Zaq x i-Zaq x j≤b)∧∀t,t<n→Zao (R t) (x t)
theorem Zob(ns:List Int)(k:Int)(n:Nat)(x:Nat→Int): Zax n (ZbD ns k n x) (ZdI ns k n x) x:=by
 refine⟨fun i j _ _ b h=>?_,fun t _=>Zs2 ns _ _⟩
 unfold ZbD at h
 split at h
 ·rename_i e;subst e;cases h;omega
 ·obtain⟨c,h1,h2⟩:=Zz1.mp h
  have:=(ZlX ns _ h1).1
  omega
noncomputable def Zw4(n:Nat)(G:Nat→Nat→Option Int)(R:Nat→Int×Int): Prop:=(∀i,i<n+1→G i i=some 0)∧∀t,t<n→RestOk (R t)
theorem Zoc(ns:List Int)(k:Int)(n:Nat)(x:Nat→Int): Zw4 n (ZbD ns k n x) (ZdI ns k n x):=⟨fun i _=>Zsd ns k n x i,fun t _=>Zt0 ns _ _⟩
theorem Zs3(hn:n<10000)(e:Pk (g σ) fun t=>t=ZZ n G)(h:Q (ZZ n G)): Pk (Zai (Zaz g) (ZX j) Z4 (Zs Zcx (Ze (Za j) Zk)) σ) Q:=by
 refine Zbg (n:=n) (a:=fun i=>Zaf n (G i)) (b:=fun i=>Zaf n (G i)) hn ?_ (fun i hi=>?_) h
 ·refine ZhW (e.mono ?_)
  rintro _ rfl
  exact Sq.lst rfl
 ·unfold Zaf
  walk_at "zz"
  rfl
theorem Zpk(hn:n≤100): Zdz [ZE n G R]=some (ZE n G R):=by
 apply Pk.eq
 unfold Zdz Zkw ZE ZaI
 walk_at "zz"
 refine Zs3 (n:=n+1) (G:=G) (by omega) ?_ ?_
 ·walk_at "zz"
  rfl
 walk_at "zz"
 rfl
noncomputable def leO(a b:Option Int): Prop:=∀y,b=some y→∃x,a=some x∧x≤y
theorem Zef: leO a none:=fun _ e=>by cases e
theorem leO_some{x:Int}: leO (some x) (some y)↔x≤y:=⟨fun h=>by obtain⟨z,e,q⟩:=h y rfl;cases e;exact q,fun h z e=>by cases e;exact⟨x,rfl,h⟩⟩
theorem ZhZ: ¬leO none (some y):=fun h=>by obtain⟨z,e,_⟩:=h y rfl;cases e
theorem Zrh{b:Option Int}: Zg6 [oT a,oT b]=some (.bool (dec (leO a b))):=by
 apply Pk.eq
 unfold Zg6 ZjQ
 cases b with
 | none=>
  simp only[Zbq]
  walk_at "zz"
  rw[ZaR Zef]
 | some y=>
  cases a with
  | none=>
   simp only[Zbq,ZaE]
   walk_at "zz"
   rw[Zbw ZhZ]
  | some x=>
   simp only[ZaE]
   walk_at "zz"
   rw[ZeJ leO_some,ZeD]
noncomputable def RIn(p q:Int×Int): Prop:=if q.1=0 then p=q else p.1 % q.1=0∧(p.2-q.2) % q.1=0
theorem Zvc(h:0<q.1∧0≤q.2∧q.2<q.1)(x:Int): x.fmod q.1=q.2↔(x-q.2) % q.1=0:=by
 rw[Int.fmod_eq_emod_of_nonneg _ (by omega)]
 constructor
 ·intro e
  rw[←e,Int.sub_emod,Int.emod_emod,Int.sub_self]
  simp
 ·intro e
  have:x % q.1=q.2 % q.1:=Int.emod_eq_emod_iff_emod_sub_eq_zero.mpr e
  rw[this,Int.emod_eq_of_lt h.2.1 h.2.2]
theorem Zvd(h:RestOk q)(x:Int): (if q.1=0 then x=q.2 else x.fmod q.1=q.2)↔Zao q x:=by
 unfold Zao
 rcases h with h | h
 ·rw[if_pos h];simp[h]
 ·rw[if_neg (by omega),Zvc h]
  have h1:¬q.1=0:=by omega
  simp only[h1,false_implies,true_and,h.1,true_implies]
  rfl
theorem Znw{x:Int}(h:RestOk q): ZfG [ZQ q,.int x]=some (.bool (dec (Zao q x))):=by
 apply Pk.eq
 unfold ZfG Zky ZQ
 rw[←ZeJ (Zvd h x)]
 by_cases c:q.1=0
 ·walk_at "zz"
  rw[if_pos c,ZeD]
 ·walk_at "zz"
  rw[if_neg c,ZeD]
theorem ZqJ(h:RestOk q): ZgW [ZQ p,ZQ q]=some (.bool (dec (RIn p q))):=by
 apply Pk.eq
 unfold ZgW Zjb
 have hp:ZQ p=.tup [.int p.1,.int p.2]:=rfl
 have hq:ZQ q=.tup [.int q.1,.int q.2]:=rfl
 by_cases c:q.1=0
 ·rw[hp,hq]
  walk_at "zz"
  rw[←hp,←hq]
  refine Zia (Zib (n:=0)) (Zib (n:=0)) ?_
  rw[ZeJ (show ZQ p=ZQ q↔RIn p q by unfold RIn;rw[if_pos c,ZuY])]
 ·have hq0:0<q.1:=by rcases h with h | h <;> omega
  rw[hp,hq]
  walk_at "zz"
  refine⟨fun e=>?_,fun e=>?_⟩
  ·walk_at "zz"
   congr 1
   rw[ZeD]
   refine ZeJ ?_
   unfold RIn
   rw[if_neg c]
   simp only[decide_eq_true_eq]at e
   rw[Int.fmod_eq_emod_of_nonneg _ (by omega)]at e ⊢
   simp[e]
  ·rw[e]
   simp only[decide_eq_false_iff_not]at e
   rw[Int.fmod_eq_emod_of_nonneg _ (by omega)]at e
   rw[Zbw]
   unfold RIn
   rw[if_neg c]
   exact fun q=>e q.1
noncomputable def Ze5(n:Nat)(G:Nat→Nat→Option Int)(R:Nat→Int×Int)(G':Nat→Nat→Option Int)(R':Nat→Int×Int): Prop:=(∀i,i<n+1→∀j,j<n+1→leO (G i j) (G' i j))∧∀t,t<n→RIn (R t) (R' t)
theorem Zri{b:Option Int}: Zg7 [oT a,oT b]=some (.bool (dec (leO a b))):=by
 apply Pk.eq
 unfold Zg7 ZjT
 cases b with
 | none=>
  simp only[Zbq]
  walk_at "zz"
  rw[ZaR Zef]
 | some y=>
  cases a with
  | none=>
   simp only[Zbq,ZaE]
   walk_at "zz"
   rw[Zbw ZhZ]
  | some x=>
   simp only[ZaE]
   walk_at "zz"
   rw[ZeJ leO_some,ZeD]
theorem Zq3(hn:n<900)(h:∀t,t<n→RestOk (R' t)): Zft [ZE n G R,ZE n G' R']=some (.bool (dec (Ze5 n G R G' R'))):=by
 apply Pk.eq
 unfold Zft Zjv ZE ZZ Zaf ZaI
 walk_at "zz"
 refine Za6 (n:=n+1) (a:=fun i=>.int i) (P:=fun i σ=>σ 0=some (ZE n G R)∧σ 1=some (ZE n G' R')∧∀a,a<i→∀b,b<n+1→leO (G a b) (G' a b)) ?_ ⟨rfl,rfl,by omega⟩ ?_ ?_
 ·walk_at "zz"
  rfl
 ·rintro i σ hi ⟨e0,e1,e2⟩
  unfold ZE ZZ Zaf ZaI at e0 e1
  refine Za6 (n:=n+1) (a:=fun i=>.int i) (P:=fun j σ=>σ 0=some (ZE n G R)∧σ 1=some (ZE n G' R')∧σ 2=some (.int i)∧∀b,b<j→leO (G i b) (G' i b)) ?_ ⟨?_,?_,?_,by omega⟩ ?_ ?_
  ·walk_at "zz"
   rfl
  ·walk_at "zr"
  ·walk_at "zr"
  ·walk_at "zr"
  ·rintro j σ hj ⟨f0,f1,f2,f3⟩
   unfold ZE ZZ Zaf ZaI at f0 f1
   walk_at "zz"
   refine ZJ Zri ?_
   walk_at "zz"
   refine⟨fun e=>?_,fun e=>?_⟩
   ·walk_at "zz"
    simp only[Bool.not_eq_true']at e
    rw[Zbw]
    rintro⟨h1,_⟩
    have:=ZaR (h1 i hi j hj)
    rw[this]at e
    cases e
   ·walk_at "zz"
    refine⟨by walk_at "zr",by walk_at "zr",by walk_at "zr",fun b hb=>?_⟩
    by_cases q:b=j
    ·subst q
     simp only[Bool.not_eq_false']at e
     exact dec_iff.mp e
    ·exact f3 b (by omega)
  ·rintro σ ⟨f0,f1,f2,f3⟩
   refine⟨f0,f1,fun a ha=>?_⟩
   by_cases q:a=i
   ·subst q;exact f3
   ·exact e2 a (by omega)
 ·rintro σ ⟨e0,e1,e2⟩
  unfold ZE ZZ Zaf ZaI at e0 e1
  walk_at "zz"
  refine Za6 (n:=n) (a:=fun i=>.int i) (P:=fun j σ=>σ 0=some (ZE n G R)∧σ 1=some (ZE n G' R')∧∀b,b<j→RIn (R b) (R' b)) ?_ ⟨e0,e1,by omega⟩ ?_ ?_
  ·walk_at "zz"
   rfl
  ·rintro j σ hj ⟨f0,f1,f3⟩
   unfold ZE ZZ Zaf ZaI at f0 f1
   walk_at "zz"
   refine ZJ (ZqJ (h j hj)) ?_
   walk_at "zz"
   refine⟨fun e=>?_,fun e=>?_⟩
   ·walk_at "zz"
    simp only[Bool.not_eq_true']at e
    rw[Zbw]
    rintro⟨_,h1⟩
    have:=ZaR (h1 j hj)
    rw[this]at e
    cases e
   ·walk_at "zz"
    refine⟨by walk_at "zr",by walk_at "zr",fun b hb=>?_⟩
    by_cases q:b=j
    ·subst q
     simp only[Bool.not_eq_false']at e
     exact dec_iff.mp e
    ·exact f3 b (by omega)
  ·rintro σ ⟨f0,f1,f3⟩
   walk_at "zz"
   rw[ZaR]
   exact⟨e2,f3⟩
noncomputable def Eu(m:Nat)(a b:Int): Prop:=0≤a∧0≤b∧∃k:Nat,a*b<2 ^ k∧m=2*k+if a<b then 1 else 0
theorem Eu.step{a b:Int}(h:Eu m a b)(hb:b≠0): ∃m',m'<m∧Eu m' b (a % b):=by
 obtain⟨h0,h1,k,h2,h3⟩:=h
 have hb':0<b:=by omega
 have r0:=Int.emod_nonneg a hb
 have r1:=Int.emod_lt_of_pos a hb'
 by_cases q:a<b
 ·rw[if_pos q]at h3
  have e:a % b=a:=Int.emod_eq_of_lt h0 q
  rw[e]
  exact⟨2*k,by omega,h1,h0,k,by rw[Int.mul_comm];exact h2,by rw[if_neg (by omega)];omega⟩
 ·rw[if_neg q]at h3
  have hd:=Int.emod_add_mul_ediv a b
  have hq:1≤a / b:=Int.le_ediv_of_mul_le hb' (by omega)
  have hm:b*1≤b*(a / b):=Int.mul_le_mul_of_nonneg_left hq h1
  have h2r:2*(a % b)<a:=by omega
  have hp:b*(2*(a % b))<b*a:=Int.mul_lt_mul_of_pos_left h2r hb'
  have hk:k≠0:=by
   rintro rfl
   have:0<a*b:=Int.mul_pos (by omega) hb'
   simp at h2
   omega
  obtain⟨k',rfl⟩:∃k',k=k'+1:=⟨k-1,by omega⟩
  refine⟨2*k',by omega,h1,r0,k',?_,by rw[if_neg (by omega)];omega⟩
  have e1:b*(2*(a % b))=2*(b*(a % b)):=by rw[←Int.mul_assoc,Int.mul_comm b 2,Int.mul_assoc]
  have e2:a*b=b*a:=Int.mul_comm _ _
  rw[Int.pow_succ]at h2
  omega
theorem ZhJ{a b:Int}(ha:0≤a)(hb:0≤b)(ha2:a<2 ^ 200000)(hb2:b<2 ^ 200000): ∃m,m<1000000∧Eu m a b:=by
 refine⟨_,?_,ha,hb,400000,?_,rfl⟩
 ·split <;> omega
 ·have h1:a*b≤a*2 ^ 200000:=Int.mul_le_mul_of_nonneg_left (by omega) ha
  have h2:a*2 ^ 200000<2 ^ 200000*2 ^ 200000:=Int.mul_lt_mul_of_pos_right ha2 (Int.pow_pos (by decide))
  have h3:(2:Int) ^ 200000*2 ^ 200000=2 ^ 400000:=by rw[←Int.pow_add]
  omega
theorem Zf0{a b:Int}(hb:0<b): Int.gcd b (a % b)=Int.gcd a b:=by
 rw[Int.gcd_comm a b,Int.emod_def,Int.gcd_sub_mul_left_right]
theorem Zpl{a b:Int}: Int.gcd (Zba a) (Zba b)=Int.gcd a b:=by
 unfold Zba Int.gcd
 split <;> split <;> simp
theorem Zh0{a:Int}(h:a.natAbs<2 ^ k): Zba a<2 ^ k:=by
 have:((a.natAbs:Nat):Int)<2 ^ k:=by exact_mod_cast h
 unfold Zba
 split <;> omega
theorem ZnM{a b:Int}(ha:a.natAbs<2 ^ 200000)(hb:b.natAbs<2 ^ 200000): Zhs [.int a,.int b]=some (.int (Int.gcd a b)):=by
 apply Pk.eq
 unfold Zhs Zn5
 walk_at "zz"
 obtain⟨m,hm,eu⟩:=ZhJ (ZcR a) (ZcR b) (Zh0 ha) (Zh0 hb)
 refine ZeO (fun m σ=>∃c d:Int,σ 0=some (.int c)∧σ 1=some (.int d)∧Eu m c d∧Int.gcd c d=Int.gcd a b) _ _ ?_ 1000000 (m:=m) ⟨Zba a,Zba b,by walk_at "zr",by walk_at "zr",eu,Zpl⟩ hm
 rintro m σ ⟨c,d,e0,e1,eu,eg⟩
 walk_at "zz"
 refine⟨fun h=>?_,fun h=>?_⟩
 ·have hd:d≠0:=by simpa using h
  have hd0:0≤d:=eu.2.1
  walk_at "zz"
  rw[Int.fmod_eq_emod_of_nonneg _ hd0]
  obtain⟨m',h1,h2⟩:=eu.step hd
  exact⟨m',h1,d,c % d,by walk_at "zr",by walk_at "zr",h2,by rw[Zf0 (by omega)];exact eg⟩
 ·have hd:d=0:=by simpa using h
  subst hd
  walk_at "zz"
  rw[←eg,Int.gcd_zero_right]
  have:=eu.1
  congr 1
  omega
theorem Zgd(ns:List Int)(k:Int): (Zck ns k).natAbs<2 ^ 134:=by
 have h:=ZpT ns k
 have h2:=Zgi
 have:(2:Nat) ^ 134=21778071482940061661655974875633165533184:=by decide
 omega
theorem ZbL{a:Nat}(h:a<2 ^ i)(hij:i≤j): a<2 ^ j:=Nat.lt_of_lt_of_le h (Nat.pow_le_pow_right (by decide) hij)
noncomputable def SmG(k n:Nat)(G:Nat→Nat→Option Int): Prop:=∀i j,i<n+1→j<n+1→∀b,G i j=some b→b.natAbs<2 ^ k
noncomputable def SmR(k n:Nat)(R:Nat→Int×Int): Prop:=∀t,t<n→(R t).1.natAbs<2 ^ k∧(R t).2.natAbs<2 ^ k
theorem Zfv{m r:Int}(h0:0≤m)(hm:m.natAbs<2 ^ k)(hr:r.natAbs<2 ^ k): (ZaJ m r).1.natAbs<2 ^ k∧(ZaJ m r).2.natAbs<2 ^ k:=by
 unfold ZaJ
 split
 ·exact⟨Nat.two_pow_pos k,hr⟩
 ·have h1:=Int.fmod_nonneg_of_pos r (show 0<m by omega)
  have h2:=Int.fmod_lt_of_pos r (show 0<m by omega)
  exact⟨hm,by show(r.fmod m).natAbs<_;omega⟩
theorem ZhK(a:Int): (Zba a).natAbs=a.natAbs:=by unfold Zba;split <;> omega
theorem ZrH{k x:Int}(hx:x.natAbs<2 ^ 134): (ZcG ns k x).1.natAbs<2 ^ 134∧(ZcG ns k x).2.natAbs<2 ^ 134:=by
 have h:=ZhI ns k
 have h2:=Zgd ns k
 have e:(2:Nat) ^ 134=21778071482940061661655974875633165533184:=by decide
 unfold ZcG
 split
 ·exact⟨by show(1:Nat)<_;omega,by show(0:Nat)<_;omega⟩
 ·split
  ·exact⟨by show(0:Nat)<_;omega,hx⟩
  ·split
   ·exact Zfv (by omega) (by omega) hx
   ·exact Zfv (ZcR _) (by rw[ZhK];exact h2) hx
theorem Zhq(hx:∀i,i<n→(x i).natAbs<2 ^ k)(i:Nat)(hi:i<n+1): (Zaq x i).natAbs<2 ^ k:=by
 cases i with
 | zero=>exact Nat.two_pow_pos k
 | succ i=>exact hx i (by omega)
theorem Zt2{k:Int}(hx:∀i,i<n→(x i).natAbs<2 ^ 134): SmG 136 n (ZbD ns k n x):=by
 intro i j hi hj b h
 have e:(2:Nat) ^ 134=21778071482940061661655974875633165533184:=by decide
 have e2:(2:Nat) ^ 136=4*21778071482940061661655974875633165533184:=by decide
 have h40:=Zgi
 have h1:=Zhq hx i hi
 have h2:=Zhq hx j hj
 unfold ZbD at h
 split at h
 ·cases h;exact Nat.two_pow_pos _
 ·obtain⟨c,h3,h4⟩:=Zz1.mp h
  have:=ZlX ns _ h3
  subst h4
  omega
theorem ZoG{k:Int}(hx:∀i,i<n→(x i).natAbs<2 ^ 134): SmR 134 n (ZdI ns k n x):=fun t ht=>ZrH (hx t ht)
theorem Zt3: RIn q q:=by
 unfold RIn
 split
 ·rfl
 ·simp
theorem Zod{g:PG}{a:Nat→T}{f:PE}(e:β→T)(P:Nat→β→Prop)(hn:n<10000)(hg:Pl (g σ) fun ts=>ts=tab n a)(hf:∀i,i<n→Pk (f (ZY σ j (a i))) fun t=>∃y,t=e y∧P i y)(d:β)(h:∀y:Nat→β,(∀i,i<n→P i (y i))→Q (.lst (tab n fun i=>e (y i)))): Pk (Zai g (ZX j) Z4 f σ) Q:=by
 have hc:∃y:Nat→β,∀i,i<n→Pk (f (ZY σ j (a i))) (fun t=>t=e (y i))∧P i (y i):=by
  have hx:∀i,∃y:β,i<n→Pk (f (ZY σ j (a i))) (fun t=>t=e y)∧P i y:=fun i=>by
   by_cases q:i<n
   ·obtain⟨t,e1,y,e2,p⟩:=hf i q
    exact⟨y,fun _=>⟨⟨t,e1,e2⟩,p⟩⟩
   ·exact⟨d,fun h=>absurd h q⟩
  exact⟨fun i=>Classical.choose (hx i),fun i=>Classical.choose_spec (hx i)⟩
 obtain⟨y,hy⟩:=hc
 exact Zbg hn hg (fun i hi=>(hy i hi).1) (h y fun i hi=>(hy i hi).2)
theorem Zk1(hn:n<10000)(e:Pk (g σ) fun t=>t=ZZ n G)(h:Q (ZZ n G)): Pk (Zai (Zaz g) (ZX j) Z4 (pFl (Zs Zcx (Ze (Za j) Zk))) σ) Q:=by
 refine Zbg (n:=n) (a:=fun i=>Zaf n (G i)) (b:=fun i=>Zaf n (G i)) hn ?_ (fun i hi=>?_) h
 ·refine ZhW (e.mono ?_)
  rintro _ rfl
  exact Sq.lst rfl
 ·unfold Zaf
  walk_at "zz"
  rfl
noncomputable def ZcA(G:Nat→Nat→Option Int)(i j:Nat)(v:Option Int): Nat→Nat→Option Int:=fun a b=>if a=i∧b=j then v else G a b
theorem Ze6: T.lst (tab n fun a=>T.lst (tab n fun b=>if a=i∧b=j then oT v else oT (G a b)))=ZZ n (ZcA G i j v):=by
 unfold ZZ Zaf ZcA
 congr 2
 funext a
 congr 2
 funext b
 split <;> rfl
theorem Zh1: ZcA G i j v i j=v:=by simp[ZcA]
theorem Zh2{a:Nat}(h:¬(a=i∧b=j)): ZcA G i j v a b=G a b:=by simp[ZcA,h]
theorem Zcw: leO a a:=fun y e=>⟨y,e,Int.le_refl y⟩
theorem Zb8{b c:Option Int}(h:leO a b)(k:leO b c): leO a c:=fun y e=>by
 obtain⟨x,e1,l1⟩:=k y e
 obtain⟨w,e2,l2⟩:=h x e1
 exact⟨w,e2,by omega⟩
theorem ZpU{k:Int}(h0:0≤k)(h1:k<n): ∃i:Nat,k=i∧i<n:=⟨k.toNat,by omega,by omega⟩
theorem ZnN{a b:Int}(ha:a.natAbs<2 ^ 200000)(hb:b.natAbs<2 ^ 200000): ZfR [.int a,.int b]=some (.int (Int.gcd a b)):=by
 apply Pk.eq
 unfold ZfR Zlc
 walk_at "zz"
 obtain⟨m,hm,eu⟩:=ZhJ (ZcR a) (ZcR b) (Zh0 ha) (Zh0 hb)
 refine ZeO (fun m σ=>∃c d:Int,σ 2=some (.int c)∧σ 3=some (.int d)∧Eu m c d∧Int.gcd c d=Int.gcd a b) _ _ ?_ 1000000 (m:=m) ⟨Zba a,Zba b,by walk_at "zr",by walk_at "zr",eu,Zpl⟩ hm
 rintro m σ ⟨c,d,e0,e1,eu,eg⟩
 walk_at "zz"
 refine⟨fun h=>?_,fun h=>?_⟩
 ·have hd:d≠0:=by simpa using h
  have hd0:0≤d:=eu.2.1
  walk_at "zz"
  rw[Int.fmod_eq_emod_of_nonneg _ hd0]
  obtain⟨m',h1,h2⟩:=eu.step hd
  exact⟨m',h1,d,c % d,by walk_at "zr",by walk_at "zr",h2,by rw[Zf0 (by omega)];exact eg⟩
 ·have hd:d=0:=by simpa using h
  subst hd
  walk_at "zz"
  rw[←eg,Int.gcd_zero_right]
  have:=eu.1
  congr 1
  omega
noncomputable def Bd(k:Nat)(x:Int): Prop:=x.natAbs<2 ^ k
theorem Bd.mono{x:Int}(h:Bd i x)(hij:i≤j): Bd j x:=ZbL h hij
theorem ZbY{x:Int}(h:Bd i x)(k:Bd j y)(hi:i≤1000000)(hj:j≤1000000): mulOk x y=true:=Zot (Nat.le_trans (PyProof.Rows.intBits_le h) (Nat.le_trans hi (by decide))) (Nat.le_trans (PyProof.Rows.intBits_le k) (Nat.le_trans hj (by decide)))
theorem Bd.mul{x:Int}(h:Bd i x)(k:Bd j y): Bd (i+j) (x*y):=by
 unfold Bd at *
 rw[Int.natAbs_mul,Nat.pow_add]
 exact Nat.mul_lt_mul'' h k
theorem Bd.add{x:Int}(h:Bd i x)(k:Bd i y): Bd (i+1) (x+y):=by
 unfold Bd at *
 rw[Nat.pow_succ]
 omega
theorem Bd.sub{x:Int}(h:Bd i x)(k:Bd i y): Bd (i+1) (x-y):=by
 unfold Bd at *
 rw[Nat.pow_succ]
 omega
theorem Zep{x:Int}(h:Bd i y)(hi:i≤9000): Builtin.divisionGoesByPylong x y=false:=by
 refine PyProof.noPylong_of_log2 ?_
 by_cases h0:y.natAbs=0
 ·rw[h0];decide +kernel
 ·exact Nat.lt_of_lt_of_le ((Nat.log2_lt h0).mpr h) hi
theorem ZcX{x:Int}(h:Bd i y)(h0:0≤x)(h1:x≤y): Bd i x:=by unfold Bd at *;omega
theorem ZgM(h:1≤i): Bd i 1:=ZbL (i:=1) (by decide) h
theorem Zdi: Bd i 0:=Nat.two_pow_pos i
theorem Zse{a b:Int}(hb:0<b)(kb:Bd k b)(hk:k≤8000)(ha:0≤a)(hg:Int.gcd a b=1): Pk (Zhu [.int a,.int b]) fun t=>∃x:Int,t=.int x∧0≤x∧x<b∧∃q,a*x=1+b*q:=by
 unfold Zhu Zlf
 walk_at "zz"
 rw[Int.fmod_eq_emod_of_nonneg _ (by omega)]
 have r0:=Int.emod_nonneg a (show b≠0 by omega)
 have r1:=Int.emod_lt_of_pos a hb
 have hlt:∀x:Int,0≤x→x≤b→x<2 ^ 200000:=fun x h0 h1=>by
  have h2:b.natAbs<2 ^ 200000:=ZbL kb (by omega)
  have h3:((b.natAbs:Nat):Int)<2 ^ 200000:=by exact_mod_cast h2
  omega
 obtain⟨m,hm,eu⟩:=ZhJ r0 (show 0≤b by omega) (hlt _ r0 (by omega)) (hlt b (by omega) (by omega))
 have hg0:Int.gcd (a % b) b=1:=by
  rw[Int.gcd_comm,Zf0 hb];exact hg
 refine ZeO (fun m σ=>∃l r s t:Int,σ 1=some (.int b)∧σ 2=some (.int l)∧σ 3=some (.int r)∧σ 4=some (.int s)∧σ 5=some (.int t)∧Eu m l r∧Int.gcd l r=1∧l≤b∧r≤b∧(∃q,s*a=l+b*q)∧(∃q,t*a=r+b*q)∧(s.natAbs:Int)*r+(t.natAbs:Int)*l≤b∧(1≤l∨t=0)) _ _ ?_ 1000000 (m:=m) ⟨a % b,b,1,0,by walk_at "zr",by walk_at "zr",by walk_at "zr",by walk_at "zr",by walk_at "zr",eu,hg0,by omega,by omega,⟨a / b,?_⟩,⟨-1,by omega⟩,by simp,.inr rfl⟩ hm
 ·rintro m σ ⟨l,r,s,t,e1,e2,e3,e4,e5,eu,gl,lb,rb,⟨q1,h1⟩,⟨q2,h2⟩,hb1,hl⟩
  walk_at "zz"
  refine⟨fun h=>?_,fun h=>?_⟩
  ·have hr:r≠0:=by simpa using h
   have hr0:0≤r:=eu.2.1
   have hl0:0≤l:=eu.1
   have hrp:0<r:=by omega
   have kr:Bd k r:=ZcX kb hr0 rb
   have kl:Bd k l:=ZcX kb hl0 lb
   have hdiv0:0≤l / r:=Int.ediv_nonneg hl0 hr0
   have hdiv1:l / r≤l:=Int.ediv_le_self _ hl0
   have ks:(s.natAbs:Int)≤b:=by
    have:(s.natAbs:Int)*1≤(s.natAbs:Int)*r:=Int.mul_le_mul_of_nonneg_left (by omega) (by omega)
    have:0≤(t.natAbs:Int)*l:=Int.mul_nonneg (by omega) hl0
    omega
   have kt:(t.natAbs:Int)≤b:=by
    rcases hl with hl | hl
    ·have:(t.natAbs:Int)*1≤(t.natAbs:Int)*l:=Int.mul_le_mul_of_nonneg_left (by omega) (by omega)
     have:0≤(s.natAbs:Int)*r:=Int.mul_nonneg (by omega) hr0
     omega
    ·rw[hl];simp;omega
   have kt':Bd k t:=by unfold Bd at *;omega
   have kd:Bd k (l / r):=ZcX kl hdiv0 hdiv1
   walk_at "zz"
   refine ZdF hr (Zep kr (by omega)) ?_
   rw[Int.fdiv_eq_ediv_of_nonneg _ hr0]
   walk_at "zz"
   refine Zbt (ZbY kd kr (by omega) (by omega)) ?_
   walk_at "zz"
   refine Zbt (ZbY kd kt' (by omega) (by omega)) ?_
   walk_at "zz"
   have hover:l-l / r*r=l % r:=by
    have:=Int.emod_add_mul_ediv l r
    rw[Int.mul_comm r (l / r)]at this
    omega
   rw[hover]
   obtain⟨m',hm1,hm2⟩:=eu.step hr
   have o0:=Int.emod_nonneg l hr
   have o1:=Int.emod_lt_of_pos l hrp
   refine⟨m',hm1,r,l % r,t,s-l / r*t,by walk_at "zr",by walk_at "zr",by walk_at "zr",by walk_at "zr",by walk_at "zr",hm2,by rw[Zf0 hrp];exact gl,rb,by omega,⟨q2,h2⟩,⟨q1-l / r*q2,?_⟩,?_,.inl (by omega)⟩
   ·rw[Int.sub_mul,h1,Int.mul_assoc,h2,Int.mul_add,Int.mul_sub,←hover]
    have e1:b*(l / r*q2)=l / r*(b*q2):=by rw[←Int.mul_assoc,Int.mul_comm b,Int.mul_assoc]
    rw[e1]
    omega
   ·have ht:((s-l / r*t).natAbs:Int)≤(s.natAbs:Int)+l / r*(t.natAbs:Int):=by
     have h3:(s-l / r*t).natAbs≤s.natAbs+(l / r*t).natAbs:=by omega
     have h4:(l / r*t).natAbs=(l / r).natAbs*t.natAbs:=Int.natAbs_mul ..
     have h5:(((l / r).natAbs*t.natAbs:Nat):Int)=l / r*(t.natAbs:Int):=by
      rw[Int.natCast_mul,Int.natAbs_of_nonneg hdiv0]
     rw[h4]at h3
     omega
    have h6:((s-l / r*t).natAbs:Int)*r≤((s.natAbs:Int)+l / r*(t.natAbs:Int))*r:=Int.mul_le_mul_of_nonneg_right ht hr0
    have h7:((s.natAbs:Int)+l / r*(t.natAbs:Int))*r=(s.natAbs:Int)*r+(t.natAbs:Int)*(l / r*r):=by
     rw[Int.add_mul,Int.mul_comm (l / r) (t.natAbs:Int),Int.mul_assoc]
    have h8:(t.natAbs:Int)*(l % r)+(t.natAbs:Int)*(l / r*r)=(t.natAbs:Int)*l:=by
     rw[←Int.mul_add,←hover]
     congr 1
     omega
    omega
  ·have hr:r=0:=by simpa using h
   subst hr
   rw[Int.gcd_zero_right]at gl
   have hl1:l=1:=by have:=eu.1;omega
   subst hl1
   walk_at "zz"
   rw[Int.fmod_eq_emod_of_nonneg _ (by omega)]
   refine⟨s % b,rfl,Int.emod_nonneg _ (by omega),Int.emod_lt_of_pos _ hb,q1-s / b*a,?_⟩
   have h3:=Int.emod_add_mul_ediv s b
   have h4:s % b=s-b*(s / b):=by omega
   rw[h4,Int.mul_sub,Int.mul_comm a s,h1,Int.mul_sub]
   have e1:a*(b*(s / b))=b*(s / b*a):=by rw[Int.mul_comm a,Int.mul_assoc]
   rw[e1]
   omega
 ·have h3:=Int.emod_add_mul_ediv a b
  rw[Int.one_mul]
  omega
theorem ZjF{m r:Int}(h:0≤m): Ze3 [.int m,.int r]=some (ZQ (ZaJ m r)):=by
 apply Pk.eq
 unfold Ze3 ZmE ZaJ
 by_cases c:m=0
 ·walk_at "zz"
  rw[if_pos c];rfl
 ·walk_at "zz"
  rw[if_neg c];rfl
theorem Za3(h:0≤q.1)(x:Int): Zao q x↔q.1 ∣ x-q.2:=by
 unfold Zao
 by_cases c:q.1=0
 ·rw[c]
  simp
  omega
 ·have:0<q.1:=by omega
  simp only[c,false_implies,true_and,this,true_implies]
  exact(Int.dvd_iff_emod_eq_zero).symm
theorem Zs4{m r:Int}(h:0≤m): 0≤(ZaJ m r).1:=by unfold ZaJ;split <;> simp[h]
theorem Zc5{m r:Int}(h:0≤m)(x:Int): Zao (ZaJ m r) x↔m ∣ x-r:=by
 rw[Za3 (Zs4 h)]
 unfold ZaJ
 split
 ·rename_i c;subst c;rfl
 ·show m ∣ x-r.fmod m↔_
  rw[Int.fmod_eq_emod_of_nonneg _ h]
  have h1:x-r % m=(x-r)+m*(r / m):=by have:=Int.emod_add_mul_ediv r m;omega
  rw[h1]
  constructor
  ·intro q
   have:=Int.dvd_sub q (Int.dvd_mul_right m (r / m))
   rwa [Int.add_sub_cancel]at this
  ·intro q
   exact Int.dvd_add q (Int.dvd_mul_right m (r / m))
theorem RestOk.nn(h:RestOk q): 0≤q.1:=by rcases h with h | h <;> omega
theorem RestOk.self(h:RestOk q): Zao q q.2:=by rw[Za3 h.nn];simp
theorem ZfC(hp:RestOk p)(hq:RestOk q)(h:∀x,Zao p x↔Zao q x): p=q:=by
 have e1:∀x,p.1 ∣ x-p.2↔q.1 ∣ x-q.2:=fun x=>by rw[←Za3 hp.nn,←Za3 hq.nn];exact h x
 have a1:q.1 ∣ p.2-q.2:=(e1 p.2).mp (by simp)
 have a2:q.1 ∣ p.2+p.1-q.2:=(e1 (p.2+p.1)).mp (by rw[show p.2+p.1-p.2=p.1 by omega];exact Int.dvd_refl _)
 have b1:p.1 ∣ q.2-p.2:=(e1 q.2).mpr (by simp)
 have b2:p.1 ∣ q.2+q.1-p.2:=(e1 (q.2+q.1)).mpr (by rw[show q.2+q.1-q.2=q.1 by omega];exact Int.dvd_refl _)
 have c1:q.1 ∣ p.1:=by have:=Int.dvd_sub a2 a1;rwa [show p.2+p.1-q.2-(p.2-q.2)=p.1 by omega]at this
 have c2:p.1 ∣ q.1:=by have:=Int.dvd_sub b2 b1;rwa [show q.2+q.1-p.2-(q.2-p.2)=q.1 by omega]at this
 have em:p.1=q.1:=Int.dvd_antisymm hp.nn hq.nn c2 c1
 have er:p.2=q.2:=by
  rcases hp with hp | hp
  ·rw[hp]at em
   rw[←em]at a1
   have:=Int.zero_dvd.mp a1
   omega
  ·rcases hq with hq | hq
   ·omega
   ·rw[←em]at a1 hq
    obtain⟨k,hk⟩:=a1
    have:k=0:=by
     rcases Int.lt_trichotomy k 0 with h | h | h
     ·have:p.1*k≤p.1*(-1):=Int.mul_le_mul_of_nonneg_left (by omega) (by omega)
      omega
     ·exact h
     ·have:p.1*1≤p.1*k:=Int.mul_le_mul_of_nonneg_left (by omega) (by omega)
      omega
    subst this
    simp at hk
    omega
 exact Prod.ext em er
noncomputable def RBd(k:Nat)(q:Int×Int): Prop:=Bd k q.1∧Bd k q.2
theorem Zhy{m r:Int}(h0:0≤m)(hm:Bd k m)(hr:Bd k r): RBd k (ZaJ m r):=Zfv h0 hm hr
noncomputable def Zbd(p q:Int×Int): Int×Int:=ZaJ (Int.gcd p.1 q.1) (p.2+q.2)
theorem ZhL(p q:Int×Int): RestOk (Zbd p q):=ZcL (by omega) _
theorem ZjG(hk:k≤200000)(hp:Bd k p.1)(hq:Bd k q.1): ZeA [ZQ p,ZQ q]=some (ZQ (Zbd p q)):=by
 apply Pk.eq
 unfold ZeA ZjV ZQ Zbd
 walk_at "zz"
 refine ZJ (ZnN (ZbL hp hk) (ZbL hq hk)) ?_
 walk_at "zz"
 exact ZJ (ZjF (by omega)) rfl
noncomputable def ZcU(p:Int×Int)(k:Int): Int×Int:=ZaJ (p.1*Zba k) (p.2*k)
theorem Zni{c:Int}(hk:k≤200000)(hp0:0≤p.1)(hp:RBd k p)(hc:Bd k c): Zfu [ZQ p,.int c]=some (ZQ (ZcU p c)):=by
 apply Pk.eq
 unfold Zfu Zjx ZQ ZcU
 have ha:Bd k (Zba c):=by unfold Bd at *;rw[ZhK];exact hc
 walk_at "zz"
 refine Zbt (ZbY hp.1 ha (by omega) (by omega)) ?_
 walk_at "zz"
 refine Zbt (ZbY hp.2 hc (by omega) (by omega)) ?_
 walk_at "zz"
 exact ZJ (ZjF (Int.mul_nonneg hp0 (ZcR c))) rfl
noncomputable def Zdp(p:Int×Int)(top:Int): Option Int:=if p.1=0 then(if p.2≤top then some p.2 else none)else some (top-(top-p.2) % p.1)
theorem Zq4{top:Int}(hp:0≤p.1): Zg1 [ZQ p,.int top]=some (oT (Zdp p top)):=by
 apply Pk.eq
 unfold Zg1 ZjA ZQ Zdp
 by_cases c:p.1=0
 ·rw[if_pos c]
  by_cases d:p.2≤top
  ·walk_at "zz"
   rw[if_pos d];rfl
  ·walk_at "zz"
   rw[if_neg d];rfl
 ·rw[if_neg c]
  walk_at "zz"
  rw[Int.fmod_eq_emod_of_nonneg _ hp]
  rfl
noncomputable def oR: Option (Int×Int)→T
 | none=>.none
 | some q=>ZQ q
noncomputable def Met(p q:Int×Int)(o:Option (Int×Int)): Prop:=match o with
 | none=>∀x,¬(Zao p x∧Zao q x)
 | some r=>RestOk r∧(∀x,Zao r x↔Zao p x∧Zao q x)
theorem Zsf{a b:Option (Int×Int)}(ha:Met p q a)(hb:Met p q b): a=b:=by
 cases a with
 | none=>
  cases b with
  | none=>rfl
  | some r=>exact absurd ((hb.2 r.2).mp hb.1.self) (ha r.2)
 | some s=>
  cases b with
  | none=>exact absurd ((ha.2 s.2).mp ha.1.self) (hb s.2)
  | some r=>rw[ZfC ha.1 hb.1 fun x=>(ha.2 x).trans (hb.2 x).symm]
theorem Zkg(hk:k≤8000)(op:RestOk p)(oq:RestOk q)(bp:RBd k p)(bq:RBd k q): Pk (ZfH [ZQ p,ZQ q]) fun t=>∃o,t=oR o∧Met p q o∧∀r,o=some r→(r=p∨r=q∨(p.1≠0∧q.1≠0∧r.1=Int.lcm p.1 q.1)):=by
 unfold ZfH ZkA
 have ep:ZQ p=.tup [.int p.1,.int p.2]:=rfl
 have eq:ZQ q=.tup [.int q.1,.int q.2]:=rfl
 have np:=op.nn
 have nq:=oq.nn
 by_cases c1:p.1=0
 ·rw[ep]
  walk_at "zz"
  refine ZJ (Znw oq) ?_
  walk_at "zz"
  have hone:∀x,Zao p x↔x=p.2:=fun x=>by rw[Za3 np,c1,Int.zero_dvd];omega
  refine⟨fun e=>?_,fun e=>?_⟩
  ·walk_at "zz"
   refine⟨some p,rfl,⟨op,fun x=>⟨fun h=>⟨h,?_⟩,fun h=>h.1⟩⟩,fun r e=>by cases e;exact .inl rfl⟩
   rw[(hone x).mp h];exact dec_iff.mp e
  ·walk_at "zz"
   refine⟨none,rfl,fun x h=>?_,by simp⟩
   have:=(hone x).mp h.1
   subst this
   have h2:=ZaR h.2
   rw[h2]at e
   cases e
 by_cases c2:q.1=0
 ·have hone:∀x,Zao q x↔x=q.2:=fun x=>by rw[Za3 nq,c2,Int.zero_dvd];omega
  rw[ep,eq]
  walk_at "zz"
  rw[←ep]
  refine ZJ (Znw op) ?_
  walk_at "zz"
  refine⟨fun e=>?_,fun e=>?_⟩
  ·walk_at "zz"
   refine⟨some q,rfl,⟨oq,fun x=>⟨fun h=>⟨?_,h⟩,fun h=>h.2⟩⟩,fun r e=>by cases e;exact .inr (.inl rfl)⟩
   rw[(hone x).mp h];exact dec_iff.mp e
  ·walk_at "zz"
   refine⟨none,rfl,fun x h=>?_,by simp⟩
   have:=(hone x).mp h.2
   subst this
   have h2:=ZaR h.1
   rw[h2]at e
   cases e
 ·have pp:0<p.1:=by omega
  have pq:0<q.1:=by omega
  obtain⟨g,hg⟩:∃g:Nat,Int.gcd p.1 q.1=g:=⟨_,rfl⟩
  have hg0:0<(g:Int):=by
   have:Int.gcd p.1 q.1≠0:=fun h=>c1 (Int.gcd_eq_zero_iff.mp h).1
   omega
  have gp:(g:Int) ∣ p.1:=by rw[←hg];exact Int.gcd_dvd_left ..
  have gq:(g:Int) ∣ q.1:=by rw[←hg];exact Int.gcd_dvd_right ..
  obtain⟨a,ea⟩:=gp
  obtain⟨b,eb⟩:=gq
  have ha:0<a:=by
   rcases Int.lt_trichotomy a 0 with h | h | h
   ·have:=Int.mul_neg_of_pos_of_neg hg0 h;omega
   ·subst h;simp at ea;omega
   ·exact h
  have hb:0<b:=by
   rcases Int.lt_trichotomy b 0 with h | h | h
   ·have:=Int.mul_neg_of_pos_of_neg hg0 h;omega
   ·subst h;simp at eb;omega
   ·exact h
  have da:p.1 / g=a:=by rw[ea];exact Int.mul_ediv_cancel_left _ (by omega)
  have db:q.1 / g=b:=by rw[eb];exact Int.mul_ediv_cancel_left _ (by omega)
  have kg:Bd k (g:Int):=ZcX bp.1 (by omega) (by
   rw[ea]
   have:(g:Int)*1≤g*a:=Int.mul_le_mul_of_nonneg_left (by omega) (by omega)
   omega)
  have kb:Bd k b:=ZcX bq.1 (by omega) (by
   rw[eb]
   have:1*b≤g*b:=Int.mul_le_mul_of_nonneg_right (by omega) (by omega)
   omega)
  have cop:Int.gcd a b=1:=by
   have h1:=Int.gcd_mul_left (g:Int) a b
   rw[←ea,←eb,hg,Int.natAbs_natCast]at h1
   have h2:g*1=g*Int.gcd a b:=by omega
   exact(Nat.eq_of_mul_eq_mul_left (by omega) h2).symm
  rw[ep,eq]
  walk_at "zz"
  refine ZJ (ZnN (ZbL bp.1 (by omega)) (ZbL bq.1 (by omega))) ?_
  rw[hg]
  walk_at "zz"
  rw[Int.fmod_eq_emod_of_nonneg _ (by omega)]
  by_cases c3:(q.2-p.2) % (g:Int)=0
  ·obtain⟨d,ed⟩:=Int.dvd_of_emod_eq_zero c3
   have dd:(q.2-p.2) / g=d:=by rw[ed];exact Int.mul_ediv_cancel_left _ (by omega)
   have kd:Bd (k+1) d:=by
    have h1:Bd (k+1) (q.2-p.2):=Bd.sub bq.2 bp.2
    unfold Bd at *
    rw[ed,Int.natAbs_mul]at h1
    have:1*d.natAbs≤(g:Int).natAbs*d.natAbs:=Nat.mul_le_mul_right _ (by omega)
    omega
   walk_at "zz"
   refine ZdF (by omega) (Zep kg (by omega)) ?_
   rw[Int.fdiv_eq_ediv_of_nonneg _ (by omega),db]
   walk_at "zz"
   refine ZdF (by omega) (Zep kg (by omega)) ?_
   rw[Int.fdiv_eq_ediv_of_nonneg _ (by omega),dd]
   walk_at "zz"
   refine ZdF (by omega) (Zep kg (by omega)) ?_
   rw[Int.fdiv_eq_ediv_of_nonneg _ (by omega),da]
   walk_at "zz"
   refine(Zse hb kb hk (by omega) cop).mono ?_
   rintro _ ⟨y,rfl,y0,y1,z,hz⟩
   have ky:Bd k y:=ZcX kb y0 (by omega)
   walk_at "zz"
   refine Zbt (ZbY kd ky (by omega) (by omega)) ?_
   walk_at "zz"
   refine Zbt (ZbY bp.1 kb (by omega) (by omega)) ?_
   walk_at "zz"
   refine Zbt (ZbY bp.1 (Bd.mul kd ky) (by omega) (by omega)) ?_
   walk_at "zz"
   have hL:(p.1*b).natAbs=Int.lcm p.1 q.1:=by
    have h1:=Int.gcd_mul_lcm p.1 q.1
    rw[hg]at h1
    have h2:p.1.natAbs*q.1.natAbs=g*(p.1*b).natAbs:=by
     rw[Int.natAbs_mul]
     conv=>lhs;rw[show q.1.natAbs=g*b.natAbs by rw[eb,Int.natAbs_mul,Int.natAbs_natCast]]
     rw[←Nat.mul_assoc,Nat.mul_comm p.1.natAbs g,Nat.mul_assoc]
    have h3:g*Int.lcm p.1 q.1=g*(p.1*b).natAbs:=by omega
    exact(Nat.eq_of_mul_eq_mul_left (by omega) h3).symm
   have hpb:0<p.1*b:=Int.mul_pos pp hb
   refine ZJ (ZjF (by omega)) ⟨some _,rfl,⟨ZcL (by omega) _,fun x=>?_⟩,fun r e=>?_⟩
   ·rw[Zc5 (by omega),Za3 np,Za3 nq]
    have hx0:p.1*(d*y)=(q.2-p.2)+q.1*(d*z):=by
     rw[ed,ea,eb]
     have:(g:Int)*a*(d*y)=g*d*(a*y):=by
      rw[Int.mul_assoc,Int.mul_assoc,Int.mul_left_comm a d y]
     rw[this,hz,Int.mul_add,Int.mul_one]
     congr 1
     rw[Int.mul_assoc,Int.mul_assoc,Int.mul_left_comm d b z]
    constructor
    ·intro h
     have h1:p.1 ∣ x-(p.2+p.1*(d*y)):=Int.dvd_trans (Int.dvd_mul_right _ _) h
     have h2:q.1 ∣ x-(p.2+p.1*(d*y)):=Int.dvd_trans ⟨a,by rw[ea,eb];rw[Int.mul_assoc,Int.mul_assoc,Int.mul_comm a b]⟩ h
     refine⟨?_,?_⟩
     ·have:=Int.dvd_add h1 (Int.dvd_mul_right p.1 (d*y))
      rwa [show x-(p.2+p.1*(d*y))+p.1*(d*y)=x-p.2 by omega]at this
     ·have:=Int.dvd_add h2 (Int.dvd_mul_right q.1 (d*z))
      rwa [show x-(p.2+p.1*(d*y))+q.1*(d*z)=x-q.2 by omega]at this
    ·rintro⟨h1,h2⟩
     have h3:p.1 ∣ x-(p.2+p.1*(d*y)):=by
      have:=Int.dvd_sub h1 (Int.dvd_mul_right p.1 (d*y))
      rwa [show x-p.2-p.1*(d*y)=x-(p.2+p.1*(d*y))by omega]at this
     have h4:q.1 ∣ x-(p.2+p.1*(d*y)):=by
      have:=Int.dvd_sub h2 (Int.dvd_mul_right q.1 (d*z))
      rwa [show x-q.2-q.1*(d*z)=x-(p.2+p.1*(d*y))by omega]at this
     have h5:=Int.lcm_dvd (Int.dvd_natAbs.mpr h3) (Int.dvd_natAbs.mpr h4)
     rw[←hL]at h5
     have h6:(((p.1*b).natAbs:Nat):Int) ∣ (((x-(p.2+p.1*(d*y))).natAbs:Nat):Int):=Int.natCast_dvd_natCast.mpr h5
     exact Int.natAbs_dvd.mp (Int.dvd_natAbs.mp h6)
   ·cases e
    refine .inr (.inr ⟨c1,c2,?_⟩)
    unfold ZaJ
    rw[if_neg (by omega)]
    show p.1*b=_
    rw[←hL]
    omega
  ·walk_at "zz"
   refine⟨none,rfl,fun x h=>c3 ?_,by simp⟩
   rw[Za3 np,Za3 nq]at h
   have h1:(g:Int) ∣ x-p.2:=Int.dvd_trans ⟨a,ea⟩ h.1
   have h2:(g:Int) ∣ x-q.2:=Int.dvd_trans ⟨b,eb⟩ h.2
   have h3:=Int.dvd_sub h1 h2
   rw[show x-p.2-(x-q.2)=q.2-p.2 by omega]at h3
   exact Int.emod_eq_zero_of_dvd h3
theorem ZpV{a b:Int}(ha:Bd k a)(hb:Bd k b): Bd k ((Int.gcd a b:Nat):Int):=by
 unfold Bd at *
 rw[Int.natAbs_natCast]
 by_cases z:a=0
 ·rw[z,Int.gcd_zero_left];exact hb
 ·exact Nat.lt_of_le_of_lt (Nat.gcd_le_left _ (by omega)) ha
noncomputable def Zbx(a b:Option Int): Option Int:=if dec (leO a b)then a else b
noncomputable def addO: Option Int→Option Int→Option Int
 | some a,some b=>some (a+b)
 | _,_=>none
theorem addO_some{b:Option Int}{c:Int}: addO a b=some c↔∃x y,a=some x∧b=some y∧x+y=c:=by
 cases a <;> cases b <;> simp[addO]
theorem leO_total{b:Option Int}(h:¬leO a b): leO b a:=by
 cases a with
 | none=>exact Zef
 | some x=>
  cases b with
  | none=>exact absurd Zef h
  | some y=>rw[leO_some]at h ⊢;omega
theorem Zii{b:Option Int}: leO (Zbx a b) a:=by
 unfold Zbx
 split
 ·exact Zcw
 ·rename_i h;exact leO_total fun q=>h (ZaR q)
theorem ZpW{b:Option Int}: leO (Zbx a b) b:=by
 unfold Zbx
 split
 ·rename_i h;exact dec_iff.mp h
 ·exact Zcw
theorem Zek(a b:Option Int): Zbx a b=a∨Zbx a b=b:=by
 unfold Zbx;split <;> simp
theorem Zrj{b:Option Int}(h:leO a b)(k:leO b a): a=b:=by
 cases a with
 | none=>
  cases b with
  | none=>rfl
  | some y=>exact absurd h ZhZ
 | some x=>
  cases b with
  | none=>exact absurd k ZhZ
  | some y=>rw[leO_some]at h k;rw[show x=y by omega]
theorem Zmk{b:Option Int}(h:leO a b): Zbx a b=a:=by unfold Zbx;rw[ZaR h];rfl
theorem ZeM{b c d:Option Int}(h:leO a c)(k:leO b d): leO (addO a b) (addO c d):=by
 intro y e
 obtain⟨p,q,rfl,rfl,rfl⟩:=addO_some.mp e
 obtain⟨p',rfl,l1⟩:=h p rfl
 obtain⟨q',rfl,l2⟩:=k q rfl
 exact⟨p'+q',rfl,by omega⟩
theorem ZpX: addO a (some 0)=a:=by cases a <;> simp[addO]
theorem ZpY: addO (some 0) a=a:=by cases a <;> simp[addO]
theorem ZfM{b c:Option Int}: addO (addO a b) c=addO a (addO b c):=by cases a <;> cases b <;> cases c <;> simp[addO,Int.add_assoc]
theorem ZfD{b:Option Int}: ZdR [oT a,oT b]=some (oT (addO a b)):=by
 apply Pk.eq
 unfold ZdR ZkC
 cases a with
 | none=>
  rw[Zbq]
  walk_at "zz"
  rfl
 | some x=>
  cases b with
  | none=>
   rw[Zbq,ZaE]
   walk_at "zz"
   rfl
  | some y=>
   rw[ZaE,ZaE]
   walk_at "zz"
   rfl
theorem Zoe{b:Option Int}: ZfY [oT a,oT b]=some (oT (Zbx a b)):=by
 apply Pk.eq
 unfold ZfY ZlP Zbx
 walk_at "zz"
 refine ZJ Zrh ?_
 walk_at "zz"
 refine⟨fun e=>?_,fun e=>?_⟩
 ·walk_at "zz"
  rw[e];rfl
 ·walk_at "zz"
  rw[e];rfl
noncomputable def ZbH(G:Nat→Nat→Option Int)(m:Nat): Nat→Nat→Option Int:=fun i j=>Zbx (G i j) (addO (G i m) (G m j))
theorem Zqp{a b:Nat→Option Int}{c:Option Int}(hn:n<10000): ZgO [Zaf n a,oT c,Zaf n b]=some (Zaf n fun j=>Zbx (a j) (addO c (b j))):=by
 apply Pk.eq
 unfold ZgO ZiH Zaf
 walk_at "zz"
 refine ZlL (n:=n) (a:=fun j=>oT (a j)) (b:=fun j=>oT (b j)) (c:=fun j=>oT (Zbx (a j) (addO c (b j)))) hn ?_ (fun j hj=>?_) ?_
 ·walk_at "zz"
  rfl
 ·walk_at "zz"
  refine ZJ ZfD ?_
  walk_at "zz"
  exact ZJ Zoe ⟨ZeX,rfl⟩
 rfl
theorem Zrk(hn:n<10000)(hm:m<n): Zg8 [ZZ n G,.int m]=some (ZZ n (ZbH G m)):=by
 apply Pk.eq
 unfold Zg8 ZjZ ZZ
 walk_at "zz"
 refine Zbg (n:=n) (a:=fun i=>Zaf n (G i)) (b:=fun i=>Zaf n (ZbH G m i)) hn ?_ (fun i hi=>?_) ?_
 ·walk_at "zz"
  rfl
 ·have h:Zaf n (G i)=.lst (tab n fun j=>oT (G i j)):=rfl
  rw[h]
  walk_at "zz"
  rw[←h]
  exact ZJ (Zqp hn) rfl
 rfl
noncomputable def Neg(n:Nat)(G:Nat→Nat→Option Int): Prop:=∃i,i<n∧∃b,G i i=some b∧b<0
theorem Zt4(hn:n≤1000)(hd:∀i,i<n→∃b,G i i=some b): ZgS [ZZ n G]=some (.bool (dec (Neg n G))):=by
 apply Pk.eq
 unfold ZgS ZiU ZZ Zaf
 walk_at "zz"
 refine Zbg (n:=n) (a:=fun i=>.int i) (b:=fun i=>.bool (dec (∃b,G i i=some b∧b<0))) (by omega) ?_ (fun i hi=>?_) ?_
 ·walk_at "zz"
  rfl
 ·walk_at "zz"
  obtain⟨b,e⟩:=hd i hi
  rw[e,ZaE]
  walk_at "zz"
  rw[ZeD]
  congr 1
  refine ZeJ ⟨fun h=>⟨b,rfl,h⟩,?_⟩
  rintro⟨c,e,h⟩
  cases e
  exact h
 walk_at "zz"
 rfl
noncomputable def Z2(G:Nat→Nat→Option Int): Nat→Nat→Nat→Option Int
 | 0=>G
 | m+1=>ZbH (Z2 G m) m
theorem ZoH(h:∃b,G i i=some b): ∃b,ZbH G m i i=some b:=by
 obtain⟨b,e⟩:=h
 have:=Zii (a:=G i i) (b:=addO (G i m) (G m i))
 rw[e]at this
 obtain⟨c,e2,_⟩:=this b rfl
 exact⟨c,by unfold ZbH;rw[e];exact e2⟩
theorem Zml{n:Nat}{G:Nat→Nat→Option Int}(hd:∀i,i<n→∃b,G i i=some b): ∀m i,i<n→∃b,Z2 G m i i=some b
 | 0=>hd
 | m+1=>fun i hi=>ZoH (Zml hd m i hi)
theorem Zs5(h0:0<n)(hn:n≤1000)(hd:∀i,i<n→∃b,G i i=some b): Pk (ZfZ [ZZ n G]) fun t=>(t=ZZ n (Z2 G n)∧∀m,m<n→¬Neg n (Z2 G (m+1)))∨(t=.none∧∃m,m<n∧Neg n (Z2 G (m+1))):=by
 unfold ZfZ ZlR
 have hg:ZZ n G=.lst (tab n fun i=>Zaf n (G i)):=rfl
 walk_at "zz"
 refine Zu4 (n:=n) (a:=fun i=>.int i) h0 ?_ (P:=fun i σ=>σ 1=some (ZZ n (Z2 G i))∧∀m,m<i→¬Neg n (Z2 G (m+1))) ⟨rfl,by omega⟩ ?_ ?_
 ·walk_at "zz"
  rw[hg]
  walk_at "zz"
  rfl
 ·rintro i σ hi ⟨e1,e2⟩
  walk_at "zz"
  refine ZJ (Zrk (by omega) hi) ?_
  walk_at "zz"
  refine ZJ (Zt4 hn fun a ha=>ZoH (Zml hd i a ha)) ?_
  walk_at "zz"
  refine⟨fun e=>?_,fun e=>?_⟩
  ·walk_at "zz"
   exact .inr ⟨rfl,i,hi,dec_iff.mp e⟩
  ·walk_at "zz"
   refine⟨by walk_at "zr",fun m hm=>?_⟩
   by_cases q:m=i
   ·subst q
    intro h
    have h2:dec (Neg n (ZbH (Z2 G m) m))=true:=ZaR h
    rw[h2]at e
    cases e
   ·exact e2 m (by omega)
 ·rintro σ ⟨e1,e2⟩
  walk_at "zz"
  exact .inl ⟨rfl,e2⟩
theorem ZgC{G:Nat→Nat→Option Int}: ∀m i j,leO (Z2 G m i j) (G i j)
 | 0=>fun _ _=>Zcw
 | m+1=>fun i j=>Zb8 Zii (ZgC m i j)
theorem Zel(hd:∀i,i<n→G i i=some 0)(hn:∀k,k<m→¬Neg n (Z2 G (k+1))): ∀i,i<n→Z2 G m i i=some 0:=by
 intro i hi
 obtain⟨b,e⟩:=Zml (fun i hi=>⟨0,hd i hi⟩) m i hi
 have h:=ZgC m i i (G:=G)
 rw[hd i hi,e]at h
 have h1:=leO_some.mp h
 have h2:¬b<0:=fun q=>by
  cases m with
  | zero=>have:=hd i hi;rw[show Z2 G 0 i i=G i i from rfl,this]at e;cases e;omega
  | succ m=>exact hn m (by omega) ⟨i,hi,b,e,q⟩
 rw[e,show b=0 by omega]
theorem ZmK{n:Nat}{G:Nat→Nat→Option Int}(hd:∀i,i<n→G i i=some 0): ∀m,m≤n→(∀k,k<m→¬Neg n (Z2 G (k+1)))→∀k,k<m→∀i j,i<n→j<n→leO (Z2 G m i j) (addO (Z2 G m i k) (Z2 G m k j))
 | 0,_,_,k,hk=>by omega
 | m+1,hm,hn,k,hk=>by
  intro i j hi hj
  have z:=Zel hd (fun k hk=>hn k (by omega):∀k,k<m→_)
  have ih:=ZmK hd m (by omega) (fun k hk=>hn k (by omega))
  generalize hD:Z2 G m=D at z ih
  have hs:Z2 G (m+1)=ZbH D m:=by rw[←hD];rfl
  rw[hs]
  have zm:=z m (by omega)
  have cm:∀a,ZbH D m a m=D a m:=fun a=>by unfold ZbH;rw[zm,ZpX];exact Zmk Zcw
  have rm:∀b,ZbH D m m b=D m b:=fun b=>by unfold ZbH;rw[zm,ZpY];exact Zmk Zcw
  by_cases q:k=m
  ·subst q
   rw[cm,rm]
   exact ZpW
  ·have hk':k<m:=by omega
   have t1:=ih k hk' i j hi hj
   have t2:=ih k hk' i m hi (by omega)
   have t3:=ih k hk' m j (by omega) hj
   have t4:=ih k hk' m m (by omega) (by omega)
   rw[zm]at t4
   have dn:leO (ZbH D m i j) (addO (D i m) (D m j)):=ZpW
   have d0:leO (ZbH D m i j) (D i j):=Zii
   rcases Zek (D i k) (addO (D i m) (D m k))with e1 | e1 <;> rcases Zek (D k j) (addO (D k m) (D m j))with e2 | e2
   ·rw[show ZbH D m i k=_ from e1,show ZbH D m k j=_ from e2]
    exact Zb8 d0 t1
   ·rw[show ZbH D m i k=_ from e1,show ZbH D m k j=_ from e2,←ZfM]
    exact Zb8 dn (ZeM t2 Zcw)
   ·rw[show ZbH D m i k=_ from e1,show ZbH D m k j=_ from e2,ZfM]
    exact Zb8 dn (ZeM Zcw t3)
   ·rw[show ZbH D m i k=_ from e1,show ZbH D m k j=_ from e2,ZfM,←ZfM (a:=D m k)]
    refine Zb8 dn (ZeM Zcw ?_)
    have:=ZeM t4 (Zcw (a:=D m j))
    rwa [ZpY]at this
noncomputable def ZgD(n:Nat)(G:Nat→Nat→Option Int)(y:Nat→Int): Prop:=∀i j,i<n→j<n→∀b,G i j=some b→y i-y j≤b
theorem ZlY{n:Nat}{G:Nat→Nat→Option Int}{y:Nat→Int}(h:ZgD n G y): ∀m,m≤n→ZgD n (Z2 G m) y
 | 0,_=>h
 | m+1,hm=>by
  have ih:=ZlY h m (by omega)
  intro i j hi hj b e
  rcases Zek (Z2 G m i j) (addO (Z2 G m i m) (Z2 G m m j))with e1 | e1
  ·rw[show Z2 G (m+1) i j=_ from e1]at e;exact ih i j hi hj b e
  ·rw[show Z2 G (m+1) i j=_ from e1]at e
   obtain⟨p,q,h1,h2,h3⟩:=addO_some.mp e
   have:=ih i m hi (by omega) p h1
   have:=ih m j (by omega) hj q h2
   omega
theorem Zs6{y:Nat→Int}(h:ZgD n G y): ¬Neg n G:=by
 rintro⟨i,hi,b,e,hb⟩
 have:=h i i hi hi b e
 omega
theorem ZnO(h:Zax n G R x): ZgD (n+1) G (Zaq x):=fun i j hi hj b e=>h.1 i j hi hj b e
theorem Zlx{k:Int}: ZeB [.int k]=some (.bool true):=by
 apply Pk.eq
 unfold ZeB Zj1
 walk_at "zz"
 rfl
theorem Zve(hn:n≤1000)(hd:∀i,i<n→G i i=some 0): Zhh [ZZ n G,.int n]=some (.bool true):=by
 apply Pk.eq
 unfold Zhh ZkF ZZ Zaf
 walk_at "zz"
 refine Za6 (n:=n) (a:=fun i=>.int i) (P:=fun i σ=>σ 0=some (ZZ n G)∧σ 1=some (.int n)) ?_ ⟨rfl,rfl⟩ ?_ ?_
 ·walk_at "zz"
  rfl
 ·rintro i σ hi ⟨e0,e1⟩
  unfold ZZ Zaf at e0
  walk_at "zz"
  refine Za6 (n:=n) (a:=fun j=>oT (G i j)) (P:=fun j σ=>σ 0=some (ZZ n G)∧σ 1=some (.int n)∧σ 2=some (.int i)) ?_ ⟨by walk_at "zr",by walk_at "zr",by walk_at "zr"⟩ ?_ ?_
  ·walk_at "zz"
   rfl
  ·rintro j σ hj ⟨f0,f1,f2⟩
   cases G i j with
   | none=>
    rw[Zbq]
    walk_at "zz"
    exact⟨by walk_at "zr",by walk_at "zr",by walk_at "zr"⟩
   | some b=>
    rw[ZaE]
    walk_at "zz"
    refine ZJ Zlx ?_
    walk_at "zz"
    exact⟨by walk_at "zr",by walk_at "zr",by walk_at "zr"⟩
  ·rintro σ ⟨f0,f1,f2⟩
   unfold ZZ Zaf at f0
   walk_at "zz"
   rw[hd i hi,ZaE]
   walk_at "zz"
   exact⟨by walk_at "zr",by walk_at "zr"⟩
 ·rintro σ ⟨e0,e1⟩
  walk_at "zz"
  rfl
section
variable {Q:T→Prop}
theorem Zly{p:PE}(h:Pk (p σ) fun t=>∃ts,t=.lst ts∧Q (.lst (ts.drop k))): Pk (Zdr p k σ) Q:=by
 obtain⟨_,e,ts,rfl,q⟩:=h
 exact⟨_,by simp only[Zdr,e,Option.bind_some],q⟩
end
noncomputable abbrev Sp:=Option Int×Option Int
noncomputable def spT(s:Sp): T:=.tup [oT s.1,oT s.2]
noncomputable def SBd(k:Nat)(s:Sp): Prop:=(∀x,s.1=some x→Bd k x)∧∀x,s.2=some x→Bd k x
theorem Zvf{x:Int}(h:Bd k x): Bd k (Zba x):=by unfold Zba;unfold Bd at *;split <;> omega
noncomputable def InS(s:Sp)(x:Int): Prop:=(∀l,s.1=some l→l≤x)∧∀h,s.2=some h→x≤h
theorem ZjH{k:Int}(hi:i≤100000)(ha:∀x,a=some x→Bd i x)(hk:Bd i k): ZeC [oT a,.int k]=some (oT (a.map fun x=>x*k)):=by
 apply Pk.eq
 unfold ZeC Zj4
 cases a with
 | none=>
  simp only[Zbq,Option.map_none]
  walk_at "zz"
  rfl
 | some x=>
  simp only[ZaE,Option.map_some]
  walk_at "zz"
  refine Zbt (ZbY (ha x rfl) hk (by omega) (by omega)) ?_
  rfl
noncomputable def Zco(s:Sp)(k:Int): Sp:=if k=0 then(some 0,some 0)else if k<0 then(s.2.map fun x=>x*k,s.1.map fun x=>x*k)else(s.1.map fun x=>x*k,s.2.map fun x=>x*k)
theorem Zqq{s:Sp}{k:Int}(hi:i≤100000)(hs:SBd i s)(hk:Bd i k): ZgP [spT s,.int k]=some (spT (Zco s k)):=by
 apply Pk.eq
 unfold ZgP ZiK Zco spT
 by_cases c:k=0
 ·walk_at "zz"
  rw[if_pos c]
  rfl
 ·rw[if_neg c]
  walk_at "zz"
  refine ZJ (ZjH hi hs.1 hk) ?_
  walk_at "zz"
  refine ZJ (ZjH hi hs.2 hk) ?_
  by_cases d:k<0
  ·walk_at "zz"
   rw[if_pos d]
  ·walk_at "zz"
   rw[if_neg d]
noncomputable def Ziq(s u:Sp): Sp:=(addO s.1 u.1,addO s.2 u.2)
theorem Zqz{s u:Sp}: ZgT [spT s,spT u]=some (spT (Ziq s u)):=by
 apply Pk.eq
 unfold ZgT ZiX spT
 walk_at "zz"
 refine ZJ ZfD ?_
 walk_at "zz"
 refine ZJ ZfD ?_
 walk_at "zz"
 rfl
noncomputable def ZbS(c:Nat→Int)(S:Nat→Sp): Nat→Sp
 | 0=>(some (c 0),some (c 0))
 | j+1=>Ziq (ZbS c S j) (Zco (S j) (c (j+1)))
theorem ZlZ: (tab (n+1) f).drop 1=tab n fun i=>f (i+1):=by
 apply List.ext_getElem
 ·simp[tab]
 ·intro i h1 h2
  simp[tab]
theorem ZqK{S:Nat→Sp}(hn:n≤100)(hi:i≤100000)(bc:∀j,j<n+1→Bd i (c j))(bS:∀j,j<n→SBd i (S j)): ZgX [.lst (tab (n+1) fun j=>.int (c j)),.lst (tab n fun j=>spT (S j))]=some (spT (ZbS c S n)):=by
 apply Pk.eq
 unfold ZgX Zje
 walk_at "zz"
 refine Zej (n:=n) (a:=fun j=>.int (c (j+1))) (c:=fun j=>spT (S j)) (P:=fun j σ=>σ 2=some (spT (ZbS c S j))) ?_ rfl ?_ ?_
 ·refine ZmB ?_
  refine Zly ?_
  walk_at "zz"
  refine⟨_,rfl,?_⟩
  rw[ZlZ]
  walk_at "zz"
  rfl
 ·rintro j σ hj e2
  walk_at "zz"
  refine ZJ (Zqq hi (bS j hj) (bc (j+1) (by omega))) ?_
  walk_at "zz"
  refine ZJ Zqz ?_
  walk_at "zz"
  exact ZbX
 ·rintro σ e2
  walk_at "zz"
  rfl
noncomputable def ZdN(c:Nat→Int)(R:Nat→Int×Int): Nat→Int×Int
 | 0=>(0,c 0)
 | j+1=>Zbd (ZdN c R j) (ZcU (R j) (c (j+1)))
noncomputable def ZbT(c:Nat→Int)(R:Nat→Int×Int): Nat→Int
 | 0=>0
 | j+1=>Int.gcd (ZbT c R j) (c (j+1)*(R j).1)
noncomputable def Zb6(c:Nat→Int)(R:Nat→Int×Int): Nat→Int
 | 0=>c 0
 | j+1=>Zb6 c R j+c (j+1)*(R j).2
theorem Zge(c:Nat→Int)(R:Nat→Int×Int): ∀j,0≤ZbT c R j
 | 0=>by show(0:Int)≤0;decide
 | j+1=>by show(0:Int)≤((Int.gcd _ _:Nat):Int);omega
theorem Zh3{c:Nat→Int}{R:Nat→Int×Int}{n i:Nat}(bc:∀j,j<n+1→Bd i (c j))(bR:∀j,j<n→RBd i (R j)): ∀j,j≤n→Bd (i+i) (ZbT c R j)
 | 0,_=>Zdi
 | j+1,h=>ZpV (Zh3 bc bR j (by omega)) ((bc (j+1) (by omega)).mul (bR j (by omega)).1)
theorem Zpm{c:Nat→Int}{R:Nat→Int×Int}{n i:Nat}(bc:∀j,j<n+1→Bd i (c j))(bR:∀j,j<n→RBd i (R j)): ∀j,j≤n→Bd (i+i+j) (Zb6 c R j)
 | 0,_=>(bc 0 (by omega)).mono (by omega)
 | j+1,h=>(Zpm bc bR j (by omega)).add (((bc (j+1) (by omega)).mul (bR j (by omega)).2).mono (by omega))
theorem Zrl{m a b:Int}(h:0≤m)(hd:m ∣ a-b): ZaJ m a=ZaJ m b:=by
 refine ZfC (ZcL h _) (ZcL h _) fun x=>?_
 rw[Zc5 h,Zc5 h]
 constructor
 ·intro q
  have:=Int.dvd_add q hd
  rwa [show x-a+(a-b)=x-b by omega]at this
 ·intro q
  have:=Int.dvd_sub q hd
  rwa [show x-b-(a-b)=x-a by omega]at this
theorem ZnP{m r:Int}(h:0≤m): m ∣ (ZaJ m r).2-r:=by
 have:=(Zc5 (r:=r) h (ZaJ m r).2).mp (ZcL h r).self
 exact this
theorem ZfN{m r:Int}: (ZaJ m r).1=m:=by
 unfold ZaJ
 split
 ·rename_i h;exact h.symm
 ·rfl
theorem ZdW{c:Nat→Int}{R:Nat→Int×Int}{n:Nat}(ok:∀j,j<n→RestOk (R j)): ∀j,j≤n→ZdN c R j=ZaJ (ZbT c R j) (Zb6 c R j)
 | 0,_=>rfl
 | j+1,h=>by
  have ih:=ZdW (c:=c) ok j (by omega)
  have h0:=Zge c R j
  have hr:=(ok j (by omega)).nn
  show Zbd (ZdN c R j) (ZcU (R j) (c (j+1)))=_
  rw[ih]
  unfold Zbd ZcU
  rw[ZfN,ZfN]
  have hab:0≤(R j).1*Zba (c (j+1)):=Int.mul_nonneg hr (ZcR _)
  have eg:((Int.gcd (ZbT c R j) ((R j).1*Zba (c (j+1))):Nat):Int)=ZbT c R (j+1):=by
   show _=((Int.gcd (ZbT c R j) (c (j+1)*(R j).1):Nat):Int)
   congr 1
   unfold Int.gcd
   rw[Int.natAbs_mul,Int.natAbs_mul,ZhK,Nat.mul_comm]
  rw[eg]
  have h1:ZbT c R (j+1) ∣ ZbT c R j:=Int.gcd_dvd_left ..
  have h2:ZbT c R (j+1) ∣ (R j).1*Zba (c (j+1)):=by rw[←eg];exact Int.gcd_dvd_right ..
  refine Zrl (Zge _ _ _) ?_
  have a1:=Int.dvd_trans h1 (ZnP (r:=Zb6 c R j) h0)
  have a2:=Int.dvd_trans h2 (ZnP (r:=(R j).2*c (j+1)) hab)
  have:=Int.dvd_add a1 a2
  rw[show Zb6 c R (j+1)=Zb6 c R j+c (j+1)*(R j).2 from rfl,Int.mul_comm (c (j+1))]
  generalize (ZaJ (ZbT c R j) (Zb6 c R j)).2=u at *
  generalize (ZaJ ((R j).1*Zba (c (j+1))) ((R j).2*c (j+1))).2=v at *
  generalize (R j).2*c (j+1)=z at *
  rwa [show u-Zb6 c R j+(v-z)=u+v-(Zb6 c R j+z)by omega]at this
theorem Zs7{s:Sp}{x k:Int}(h:InS s x): InS (Zco s k) (k*x):=by
 unfold Zco
 obtain⟨a,b⟩:=s
 by_cases c:k=0
 ·rw[if_pos c,c,Int.zero_mul]
  exact⟨fun l e=>by cases e;omega,fun l e=>by cases e;omega⟩
 ·rw[if_neg c]
  by_cases d:k<0
  ·rw[if_pos d]
   refine⟨fun l e=>?_,fun l e=>?_⟩
   ·cases b with
    | none=>cases e
    | some y=>
     cases e
     have:=h.2 y rfl
     show y*k≤k*x
     rw[Int.mul_comm]
     exact Int.mul_le_mul_of_nonpos_left (a:=k) (by omega) this
   ·cases a with
    | none=>cases e
    | some y=>
     cases e
     have:=h.1 y rfl
     show k*x≤y*k
     rw[Int.mul_comm y]
     exact Int.mul_le_mul_of_nonpos_left (a:=k) (by omega) this
  ·rw[if_neg d]
   refine⟨fun l e=>?_,fun l e=>?_⟩
   ·cases a with
    | none=>cases e
    | some y=>
     cases e
     have:=h.1 y rfl
     show y*k≤k*x
     rw[Int.mul_comm]
     exact Int.mul_le_mul_of_nonneg_left this (show 0≤k by omega)
   ·cases b with
    | none=>cases e
    | some y=>
     cases e
     have:=h.2 y rfl
     show k*x≤y*k
     rw[Int.mul_comm y]
     exact Int.mul_le_mul_of_nonneg_left this (show 0≤k by omega)
theorem Zt5{s u:Sp}{x:Int}(h:InS s x)(k:InS u y): InS (Ziq s u) (x+y):=by
 refine⟨fun l e=>?_,fun l e=>?_⟩
 ·obtain⟨a,b,h1,h2,rfl⟩:=addO_some.mp e
  have:=h.1 a h1
  have:=k.1 b h2
  omega
 ·obtain⟨a,b,h1,h2,rfl⟩:=addO_some.mp e
  have:=h.2 a h1
  have:=k.2 b h2
  omega
noncomputable def ZK(R:Nat→Int×Int): Nat→Int×Int:=cn (0,0) R
theorem ZmW(R:Nat→Int×Int): cn (T.tup [.int 0,.int 0]) (fun i=>ZQ (R i))=fun i=>ZQ (ZK R i):=by
 funext i;cases i <;> rfl
theorem Zne(hn:n<9000): Zez [ZaI n R]=some (ZaI (n+1) (ZK R)):=by
 apply Pk.eq
 unfold Zez Zjg ZaI
 walk_at "zz"
 rw[ZmW]
noncomputable def RB(M:Int)(k:Nat)(q:Int×Int): Prop:=RestOk q∧(q.1=0∨q.1 ∣ M)∧Bd k q.2
theorem RB.mono(h:RB M i q)(hij:i≤j): RB M j q:=⟨h.1,h.2.1,h.2.2.mono hij⟩
theorem RB.bd(hM:0<M)(bM:Bd k M)(h:RB M k q): RBd k q:=by
 refine⟨?_,h.2.2⟩
 rcases h.2.1 with e | e
 ·rw[e];exact Zdi
 ·exact ZcX bM h.1.nn (Int.le_of_dvd hM e)
theorem Zc6(h:∀t,t<n→RB M k (R t)): ∀i,i<n+1→RB M k (ZK R i)
 | 0,_=>⟨.inl rfl,.inl rfl,Zdi⟩
 | i+1,hi=>h i (by omega)
noncomputable def ZcC(n:Nat)(G:Nat→Nat→Option Int)(R:Nat→Int×Int)(i:Nat)(m:Nat)(x:Int): Prop:=Zao (ZK R i) x∧∀j,j<m→∀a b,G i j=some a→G j i=some b→a+b=0→Zao (ZK R j) (x-a)
noncomputable def ZcV(n:Nat)(G:Nat→Nat→Option Int)(R:Nat→Int×Int)(M:Int)(k:Nat)(i m:Nat)(o:Option (Int×Int)): Prop:=match o with
 | none=>∀x,¬ZcC n G R i m x
 | some q=>RB M k q∧∀x,Zao q x↔ZcC n G R i m x
theorem Znx(h:RestOk q)(a x:Int): Zao (Zbd q (0,a)) x↔Zao q (x-a):=by
 unfold Zbd
 rw[Zc5 (by omega),Za3 h.nn]
 simp only[Int.gcd_zero_right]
 rw[Int.natAbs_of_nonneg h.nn,show x-(q.2+a)=x-a-q.2 by omega]
theorem ZqA(hn:n≤100)(hi:i<n+1)(hk:k≤7000)(hM:0<M)(bM:Bd k M)(bG:∀a b c,a<n+1→b<n+1→G a b=some c→Bd k c)(hR:∀t,t<n→RB M k (R t)): Pk (Zd8 [ZZ (n+1) G,ZaI (n+1) (ZK R),.int i]) fun t=>∃o,t=oR o∧ZcV n G R M (k+1) i (n+1) o:=by
 unfold Zd8 ZiZ
 have hF:=Zc6 hR
 have bM1:Bd (k+1) M:=bM.mono (by omega)
 have hr:ZaI (n+1) (ZK R)=.lst (tab (n+1) fun i=>ZQ (ZK R i)):=rfl
 rw[hr]
 walk_at "zz"
 refine Zej (n:=n+1) (a:=fun j=>.int j) (c:=fun j=>ZQ (ZK R j)) (P:=fun m σ=>∃o,σ 0=some (ZZ (n+1) G)∧σ 1=some (.lst (tab (n+1) fun i=>ZQ (ZK R i)))∧σ 2=some (.int i)∧σ 3=some (oR o)∧ZcV n G R M (k+1) i m o) ?_ ⟨some (ZK R i),by walk_at "zr",by walk_at "zr",by walk_at "zr",by walk_at "zr",(hF i hi).mono (by omega),fun x=>⟨fun h=>⟨h,by omega⟩,fun h=>h.1⟩⟩ ?_ ?_
 ·walk_at "zz"
  rfl
 ·rintro j σ hj ⟨o,e0,e1,e2,e3,ho⟩
  unfold ZZ Zaf at e0
  cases o with
  | none=>
   have e3':σ 3=some .none:=e3
   clear e3
   walk_at "zz"
   refine⟨none,by walk_at "zr",by walk_at "zr",by walk_at "zr",by walk_at "zr",fun x h=>ho x ⟨h.1,fun j' hj'=>h.2 j' (by omega)⟩⟩
  | some q=>
   have e3':σ 3=some (.tup [.int q.1,.int q.2]):=e3
   clear e3
   walk_at "zz"
   refine ZJ ZfD ?_
   walk_at "zz"
   refine Zia (ZgA (n:=0)) (.int (n:=0)) ?_
   walk_at "zz"
   have stay:(∀a b,G i j=some a→G j i=some b→¬a+b=0)→ZcV n G R M (k+1) i (j+1) (some q):=fun h=>⟨ho.1,fun x=>(ho.2 x).trans ⟨fun hx=>⟨hx.1,fun j' hj' a b ha hb hab=>by
     by_cases q':j'=j
     ·subst q';exact absurd hab (h a b ha hb)
     ·exact hx.2 j' (by omega) a b ha hb hab⟩,fun hx=>⟨hx.1,fun j' hj'=>hx.2 j' (by omega)⟩⟩⟩
   refine⟨fun e=>?_,fun e=>?_⟩
   ·have e':=dec_iff.mp e
    rw[←ZaE,oT_inj]at e'
    obtain⟨a,b,ha,hb,hab⟩:=addO_some.mp e'
    walk_at "zz"
    rw[ha,ZaE]
    have hj2:=hF j hj
    have ba:=bG i j a hi hj ha
    refine ZJ (ZjG (p:=ZK R j) (q:=(0,a)) (k:=k) (by omega) (hj2.bd hM bM).1 Zdi) ?_
    have hpl:RB M (k+1) (Zbd (ZK R j) (0,a)):=by
     refine⟨ZhL _ _,?_,?_⟩
     ·unfold Zbd ZaJ
      simp only[Int.gcd_zero_right]
      rw[Int.natAbs_of_nonneg hj2.1.nn]
      split
      ·exact .inl rfl
      ·exact hj2.2.1
     ·have hm:=(hj2.bd hM bM).1
      refine(Zhy (k:=k+1) (by omega) ?_ (Bd.add hj2.2.2 ba)).2
      simp only[Int.gcd_zero_right]
      rw[Int.natAbs_of_nonneg hj2.1.nn]
      exact hm.mono (by omega)
    walk_at "zz"
    refine(Zkg (p:=q) (q:=Zbd (ZK R j) (0,a)) (k:=k+1) (by omega) ho.1.1 hpl.1 (ho.1.bd hM bM1) (hpl.bd hM bM1)).mono ?_
    rintro _ ⟨o',rfl,mt,wh⟩
    refine⟨o',by walk_at "zr",by walk_at "zr",by walk_at "zr",by walk_at "zr",?_⟩
    have hset:∀x,(Zao q x∧Zao (Zbd (ZK R j) (0,a)) x)↔ZcC n G R i (j+1) x:=fun x=>by
     rw[ho.2 x,Znx hj2.1]
     constructor
     ·rintro⟨h1,h2⟩
      refine⟨h1.1,fun j' hj' c d hc hd hcd=>?_⟩
      by_cases q':j'=j
      ·subst q';rw[ha]at hc;cases hc;exact h2
      ·exact h1.2 j' (by omega) c d hc hd hcd
     ·intro h
      exact⟨⟨h.1,fun j' hj'=>h.2 j' (by omega)⟩,h.2 j (by omega) a b ha hb hab⟩
    cases o' with
    | none=>exact fun x hx=>mt x ((hset x).mpr hx)
    | some r=>
     refine⟨⟨mt.1,?_,?_⟩,fun x=>(mt.2 x).trans (hset x)⟩
     ·rcases wh r rfl with h | h | ⟨h1,h2,h3⟩
      ·rw[h];exact ho.1.2.1
      ·rw[h];exact hpl.2.1
      ·right
       rw[h3]
       exact Int.coe_lcm_dvd (ho.1.2.1.resolve_left h1) (hpl.2.1.resolve_left h2)
     ·rcases wh r rfl with h | h | ⟨h1,h2,h3⟩
      ·rw[h];exact ho.1.2.2
      ·rw[h];exact hpl.2.2
      ·rcases mt.1 with z | z
       ·have:(Int.lcm q.1 (Zbd (ZK R j) (0,a)).1)≠0:=Int.lcm_ne_zero h1 h2
        omega
       ·have hd:r.1 ∣ M:=by
         rw[h3]
         exact Int.coe_lcm_dvd (ho.1.2.1.resolve_left h1) (hpl.2.1.resolve_left h2)
        exact ZcX bM1 z.2.1 (by have:=Int.le_of_dvd hM hd;omega)
   ·walk_at "zz"
    refine⟨some q,by walk_at "zr",by walk_at "zr",by walk_at "zr",by walk_at "zr",stay fun a b ha hb hab=>?_⟩
    have:dec (oT (addO (G i j) (G j i))=.int 0)=true:=ZaR (by rw[ha,hb];simp[addO,oT,hab])
    rw[this]at e
    cases e
 ·rintro σ ⟨o,e0,e1,e2,e3,ho⟩
  walk_at "zz"
  exact⟨o,rfl,ho⟩
theorem ZpZ: Zcj 1 1 1=some []:=by
 unfold Zcj
 rw[if_pos (by decide +kernel)]
 rfl
theorem ZmX: Pln 1 (oR o):=by
 cases o with
 | none=>exact .none
 | some q=>exact Zib
theorem oR_none: oR o=.none↔o=none:=by cases o <;> simp[oR,ZQ]
noncomputable def Hand(n:Nat)(G:Nat→Nat→Option Int)(R R':Nat→Int×Int)(M:Int)(k:Nat): Prop:=∀t,t<n→RB M k (R' t)∧∀x,Zao (R' t) x↔ZcC n G R (t+1) (n+1) x
theorem ZqL(hn:n≤100)(hk:k≤7000)(hM:0<M)(bM:Bd k M)(bG:∀a b c,a<n+1→b<n+1→G a b=some c→Bd k c)(hR:∀t,t<n→RB M k (R t)): Pk (Zdx [ZE n G R]) fun t=>(∃R',t=ZE n G R'∧Hand n G R R' M (k+1))∨(t=.none∧∃i,i<n∧∀x,¬ZcC n G R (i+1) (n+1) x):=by
 unfold Zdx Zfq
 have ht:ZE n G R=.tup [ZZ (n+1) G,ZaI n R]:=rfl
 rw[ht]
 walk_at "zz"
 refine ZJ (Zne (by omega)) ?_
 have hr:ZaI (n+1) (ZK R)=.lst (tab (n+1) fun i=>ZQ (ZK R i)):=rfl
 walk_at "zz"
 refine Zod oR (fun t o=>ZcV n G R M (k+1) (t+1) (n+1) o) (n:=n) (a:=fun i=>.int (i+1)) (by omega) ?_ (fun t ht=>?_) none (fun y hy=>?_)
 ·by_cases h0:n=0
  ·subst h0
   exact⟨[],ZeW (a:=1) (b:=1) rfl ZpZ,rfl⟩
  ·rw[hr]
   walk_at "zz"
   refine Rn.two 1 n (by decide) (by omega) (by omega) (by omega) ?_
   refine Za2 fun i _=>?_
   congr 1
   omega
 ·walk_at "zz"
  refine(ZqA (i:=t+1) hn (by omega) hk hM bM bG hR).mono ?_
  rintro _ ⟨o,rfl,ho⟩
  exact⟨o,rfl,ho⟩
 ·walk_at "zz"
  refine ZgB (.none (n:=0)) (Zen (n:=1) fun i _=>ZmX) ?_
  by_cases hc:∃i,i<n∧y i=none
  ·obtain⟨i,hi,ei⟩:=hc
   rw[ZaR (show T.none∈tab n fun i=>oR (y i)from List.mem_of_getElem? (i:=i) (by rw[ZaP hi,ei];rfl))]
   walk_at "zz"
   refine .inr ⟨rfl,i,hi,?_⟩
   have:=hy i hi
   rw[ei]at this
   exact this
  ·rw[Zbw (show ¬T.none∈tab n fun i=>oR (y i)from fun h=>by
    obtain⟨i,hi,e⟩:=ZcO h
    exact hc ⟨i,hi,oR_none.mp e.symm⟩)]
   walk_at "zz"
   have hs:∀i,i<n→y i=some ((y i).getD (1,0)):=fun i hi=>by
    cases e:y i with
    | none=>exact absurd ⟨i,hi,e⟩ hc
    | some q=>rfl
   refine .inl ⟨fun i=>(y i).getD (1,0),?_,fun t ht=>?_⟩
   ·unfold ZE ZaI
    congr 4
    refine Za2 fun i hi=>?_
    conv=>lhs;rw[hs i hi]
    rfl
   ·have:=hy t ht
    rw[hs t ht]at this
    exact this
theorem Zm8: Zdx [.none]=some .none:=by
 apply Pk.eq
 unfold Zdx Zfq
 walk_at "zz"
 rfl
noncomputable def Zbe(R:Nat→Int×Int)(i j:Nat): Int×Int:=Zbd (ZK R i) (ZcU (ZK R j) (-1))
noncomputable def ZbI(b:Option Int)(q:Int×Int): Option Int:=match b with
 | some b=>Zdp q b
 | none=>if q.1=0 then some q.2 else none
noncomputable def ZaK(G:Nat→Nat→Option Int)(R:Nat→Int×Int): Nat→Nat→Option Int:=fun i j=>ZbI (G i j) (Zbe R i j)
noncomputable def Zdl(n:Nat)(G:Nat→Nat→Option Int)(R:Nat→Int×Int): Prop:=∃i j,i<n+1∧j<n+1∧∃b,G i j=some b∧ZaK G R i j=none
theorem Zqr{b:Option Int}(hq:0≤q.1): ZgQ [oT b,ZQ q]=some (oT (ZbI b q)):=by
 apply Pk.eq
 unfold ZgQ ZiN ZbI
 cases b with
 | none=>
  have ep:ZQ q=.tup [.int q.1,.int q.2]:=rfl
  rw[Zbq,ep]
  by_cases c:q.1=0
  ·walk_at "zz"
   simp[c,oT]
  ·walk_at "zz"
   simp[c,oT]
 | some b=>
  rw[ZaE]
  walk_at "zz"
  exact ZJ (Zq4 hq) rfl
theorem ZqM{b:Nat→Option Int}(hn:n≤100)(hi:i<n+1)(hk:k≤7000)(hM:0<M)(bM:Bd k M)(hR:∀t,t<n→RB M k (R t)): Pk (ZgY [Zaf (n+1) b,ZQ (ZK R i),ZaI (n+1) (ZK R)]) fun t=>(t=Zaf (n+1) (fun j=>ZbI (b j) (Zbe R i j))∧∀j,j<n+1→∀c,b j=some c→ZbI (b j) (Zbe R i j)≠none)∨(t=.none∧∃j,j<n+1∧∃c,b j=some c∧ZbI (b j) (Zbe R i j)=none):=by
 unfold ZgY Zjk
 have hF:=Zc6 hR
 have hb:Zaf (n+1) b=.lst (tab (n+1) fun j=>oT (b j)):=rfl
 have hr:ZaI (n+1) (ZK R)=.lst (tab (n+1) fun i=>ZQ (ZK R i)):=rfl
 rw[hb,hr]
 walk_at "zz"
 refine Zej (n:=n+1) (a:=fun j=>oT (b j)) (c:=fun j=>ZQ (ZK R j)) (P:=fun m σ=>σ 1=some (ZQ (ZK R i))∧σ 3=some (.lst (tab m fun j=>oT (ZbI (b j) (Zbe R i j))))∧∀j,j<m→∀c,b j=some c→ZbI (b j) (Zbe R i j)≠none) ?_ ⟨by walk_at "zr",by walk_at "zr",by omega⟩ ?_ ?_
 ·walk_at "zz"
  rfl
 ·rintro j σ hj ⟨e1,e3,st⟩
  have h1:=hF i hi
  have h2:=hF j hj
  have b1:=h1.bd hM bM
  have b2:=h2.bd hM bM
  have bt:Bd (k+1) (ZcU (ZK R j) (-1)).1:=by
   refine(Zhy (k:=k+1) (Int.mul_nonneg h2.1.nn (ZcR _)) ?_ ?_).1
   ·have:=Bd.mul b2.1 (show Bd 1 (Zba (-1))by unfold Bd;decide);exact this
   ·have:=Bd.mul b2.2 (show Bd 1 (-1)by unfold Bd;decide);exact this
  walk_at "zz"
  refine ZJ (Zni (p:=ZK R j) (c:=-1) (k:=k+1) (by omega) h2.1.nn ⟨b2.1.mono (by omega),b2.2.mono (by omega)⟩ (show Bd (k+1) (-1)from(show Bd 1 (-1)by unfold Bd;decide).mono (by omega))) ?_
  walk_at "zz"
  refine ZJ (ZjG (k:=k+1) (by omega) (b1.1.mono (by omega)) bt) ?_
  walk_at "zz"
  refine ZJ (Zqr (ZhL _ _).nn) ?_
  have hd:Zbd (ZK R i) (ZcU (ZK R j) (-1))=Zbe R i j:=rfl
  rw[hd]
  walk_at "zz"
  have app:∀w,w=oT (ZbI (b j) (Zbe R i j))→tab j (fun j=>oT (ZbI (b j) (Zbe R i j)))++[w]=tab (j+1) fun j=>oT (ZbI (b j) (Zbe R i j)):=fun w e=>by rw[e];exact Zcu
  cases hl:ZbI (b j) (Zbe R i j)with
  | none=>
   rw[Zbq]
   walk_at "zz"
   cases hbj:b j with
   | none=>
    rw[Zbq]
    walk_at "zz"
    rw[app _ (by rw[hl];rfl)]
    refine⟨by walk_at "zr",by walk_at "zr",fun j' hj' c hc=>?_⟩
    by_cases q:j'=j
    ·subst q;rw[hbj]at hc;cases hc
    ·exact st j' (by omega) c hc
   | some c=>
    rw[ZaE]
    walk_at "zz"
    exact .inr ⟨rfl,j,hj,c,hbj,hl⟩
  | some v=>
   rw[ZaE]
   walk_at "zz"
   rw[app _ (by rw[hl];rfl)]
   refine⟨by walk_at "zr",by walk_at "zr",fun j' hj' c hc=>?_⟩
   by_cases q:j'=j
   ·subst q;rw[hl];simp
   ·exact st j' (by omega) c hc
 ·rintro σ ⟨e1,e3,st⟩
  walk_at "zz"
  exact .inl ⟨rfl,st⟩
noncomputable def Zfl(n:Nat): Option (Nat→Option Int)→T
 | none=>.none
 | some b=>Zaf n b
theorem Zvg{o:Option (Nat→Option Int)}: Pln 1 (Zfl n o):=by
 cases o with
 | none=>exact .none
 | some q=>exact Zpc
theorem Zsg{g:PG}{a b:Nat→T}{f:PE}(e:β→T)(P:Nat→β→Prop)(hn:n<10000)(hg:Pl (g σ) fun ts=>ts=tab n fun i=>.tup [a i,b i])(hf:∀i,i<n→Pk (f (ZY (ZY σ j (a i)) k (b i))) fun t=>∃y,t=e y∧P i y)(d:β)(h:∀y:Nat→β,(∀i,i<n→P i (y i))→Q (.lst (tab n fun i=>e (y i)))): Pk (Zai g (Zcg j k) Z4 f σ) Q:=by
 have hc:∃y:Nat→β,∀i,i<n→Pk (f (ZY (ZY σ j (a i)) k (b i))) (fun t=>t=e (y i))∧P i (y i):=by
  have hx:∀i,∃y:β,i<n→Pk (f (ZY (ZY σ j (a i)) k (b i))) (fun t=>t=e y)∧P i y:=fun i=>by
   by_cases q:i<n
   ·obtain⟨t,e1,y,e2,p⟩:=hf i q
    exact⟨y,fun _=>⟨⟨t,e1,e2⟩,p⟩⟩
   ·exact⟨d,fun h=>absurd h q⟩
  exact⟨fun i=>Classical.choose (hx i),fun i=>Classical.choose_spec (hx i)⟩
 obtain⟨y,hy⟩:=hc
 exact ZlL hn hg (fun i hi=>(hy i hi).1) (h y fun i hi=>(hy i hi).2)
theorem oRow_none{o:Option (Nat→Option Int)}: Zfl n o=.none↔o=none:=by cases o <;> simp[Zfl,Zaf]
theorem Zsh(hn:n≤100)(hk:k≤7000)(hM:0<M)(bM:Bd k M)(hR:∀t,t<n→RB M k (R t)): Pk (ZeK [ZE n G R]) fun t=>(t=ZE n (ZaK G R) R∧¬Zdl n G R)∨(t=.none∧Zdl n G R):=by
 unfold ZeK Zhv
 have ht:ZE n G R=.tup [.lst (tab (n+1) fun i=>Zaf (n+1) (G i)),ZaI n R]:=rfl
 rw[ht]
 walk_at "zz"
 refine ZJ (Zne (by omega)) ?_
 have hr:ZaI (n+1) (ZK R)=.lst (tab (n+1) fun i=>ZQ (ZK R i)):=rfl
 walk_at "zz"
 refine Zsg (Zfl (n+1)) (fun i o=>match o with
  | none=>∃j,j<n+1∧∃c,G i j=some c∧ZaK G R i j=none
  | some b=>b=ZaK G R i∧∀j,j<n+1→∀c,G i j=some c→ZaK G R i j≠none) (n:=n+1) (a:=fun i=>Zaf (n+1) (G i)) (b:=fun i=>ZQ (ZK R i)) (by omega) ?_ (fun i hi=>?_) none (fun y hy=>?_)
 ·rw[hr]
  walk_at "zz"
  rfl
 ·walk_at "zz"
  refine(ZqM hn hi hk hM bM hR).mono ?_
  rintro t (⟨rfl,h⟩ | ⟨rfl,h⟩)
  ·exact⟨some (ZaK G R i),rfl,rfl,h⟩
  ·exact⟨none,rfl,h⟩
 ·walk_at "zz"
  refine ZgB (.none (n:=0)) (Zen (n:=1) fun i _=>Zvg) ?_
  by_cases hc:∃i,i<n+1∧y i=none
  ·obtain⟨i,hi,ei⟩:=hc
   rw[ZaR (show T.none∈tab (n+1) fun i=>Zfl (n+1) (y i)from List.mem_of_getElem? (i:=i) (by rw[ZaP hi,ei];rfl))]
   walk_at "zz"
   have:=hy i hi
   rw[ei]at this
   obtain⟨j,hj,c,h1,h2⟩:=this
   exact .inr ⟨rfl,i,j,hi,hj,c,h1,h2⟩
  ·rw[Zbw (show ¬T.none∈tab (n+1) fun i=>Zfl (n+1) (y i)from fun h=>by
    obtain⟨i,hi,e⟩:=ZcO h
    exact hc ⟨i,hi,oRow_none.mp e.symm⟩)]
   walk_at "zz"
   have hs:∀i,i<n+1→y i=some (ZaK G R i)∧∀j,j<n+1→∀c,G i j=some c→ZaK G R i j≠none:=fun i hi=>by
    have:=hy i hi
    cases e:y i with
    | none=>exact absurd ⟨i,hi,e⟩ hc
    | some b=>rw[e]at this;exact⟨by rw[this.1],this.2⟩
   refine .inl ⟨?_,?_⟩
   ·unfold ZE ZZ
    congr 3
    refine Za2 fun i hi=>?_
    rw[(hs i hi).1]
    rfl
   ·rintro⟨i,j,hi,hj,c,h1,h2⟩
    exact(hs i hi).2 j hj c h1 h2
theorem Znp: ZeK [.none]=some .none:=by
 apply Pk.eq
 unfold ZeK Zhv
 walk_at "zz"
 rfl
theorem Zs8: ZdY [.none]=some .none:=by
 apply Pk.eq
 unfold ZdY Zig
 walk_at "zz"
 rfl
noncomputable def Zb7(n:Nat)(G:Nat→Nat→Option Int): Prop:=∃m,m<n∧Neg n (Z2 G (m+1))
theorem Zvh(hn:n≤100)(hd:∀i,i<n+1→G i i=some 0): Pk (ZdY [ZE n G R]) fun t=>(t=ZE n (Z2 G (n+1)) R∧¬Zb7 (n+1) G)∨(t=.none∧Zb7 (n+1) G):=by
 unfold ZdY Zig
 have ht:ZE n G R=.tup [ZZ (n+1) G,ZaI n R]:=rfl
 rw[ht]
 walk_at "zz"
 refine(Zs5 (n:=n+1) (by omega) (by omega) fun i hi=>⟨0,hd i hi⟩).mono ?_
 rintro t (⟨rfl,h⟩ | ⟨rfl,h⟩)
 ·have hg:ZZ (n+1) (Z2 G (n+1))=.lst (tab (n+1) fun i=>Zaf (n+1) (Z2 G (n+1) i)):=rfl
  rw[hg]
  walk_at "zz"
  exact .inl ⟨rfl,fun⟨m,hm,q⟩=>h m hm q⟩
 ·walk_at "zz"
  exact .inr ⟨rfl,h⟩
noncomputable def BdG(n k:Nat)(G:Nat→Nat→Option Int): Prop:=∀a b c,a<n→b<n→G a b=some c→Bd k c
theorem Zd2{n k:Nat}{G:Nat→Nat→Option Int}(h:BdG n k G): ∀m,m≤n→BdG n (k+m) (Z2 G m)
 | 0,_=>h
 | m+1,hm=>fun a b c ha hb e=>by
  have ih:=Zd2 h m (by omega)
  rcases Zek (Z2 G m a b) (addO (Z2 G m a m) (Z2 G m m b))with e1 | e1
  ·rw[show Z2 G (m+1) a b=_ from e1]at e
   exact(ih a b c ha hb e).mono (by omega)
  ·rw[show Z2 G (m+1) a b=_ from e1]at e
   obtain⟨p,q,h1,h2,rfl⟩:=addO_some.mp e
   exact Bd.add (ih a m p ha (by omega) h1) (ih m b q (by omega) hb h2)
theorem ZnQ(h:RestOk q): ZcU q (-1)=ZaJ q.1 (-q.2):=by
 unfold ZcU
 rw[show Zba (-1)=1 from rfl,Int.mul_one,Int.mul_neg,Int.mul_one]
theorem Zk2{m r:Int}: (ZaJ m r).1=m:=by
 unfold ZaJ;split
 ·rename_i c;exact c.symm
 ·rfl
theorem Zf1(hi:RestOk (ZK R i))(hj:RestOk (ZK R j))(x:Int): Zao (Zbe R i j) x↔((Int.gcd (ZK R i).1 (ZK R j).1:Nat):Int) ∣ x-((ZK R i).2-(ZK R j).2):=by
 unfold Zbe Zbd
 rw[Zc5 (by omega),ZnQ hj,Zk2]
 have hr:=Zc5 hj.nn (r:=-(ZK R j).2) (ZaJ (ZK R j).1 (-(ZK R j).2)).2
 have hs:=(hr.mp (ZcL hj.nn _).self)
 generalize (ZaJ (ZK R j).1 (-(ZK R j).2)).2=s at *
 have hg:((Int.gcd (ZK R i).1 (ZK R j).1:Nat):Int) ∣ s - -(ZK R j).2:=Int.dvd_trans (Int.gcd_dvd_right ..) hs
 constructor
 ·intro h
  have:=Int.dvd_add h hg
  rwa [show x-((ZK R i).2+s)+(s - -(ZK R j).2)=x-((ZK R i).2-(ZK R j).2)by omega]at this
 ·intro h
  have:=Int.dvd_sub h hg
  rwa [show x-((ZK R i).2-(ZK R j).2)-(s - -(ZK R j).2)=x-((ZK R i).2+s)by omega]at this
theorem Zlz{b c:Int}(h0:RestOk q)(h:Zdp q b=some c): c≤b∧Zao q c∧(q.1=0∨b-c<q.1):=by
 unfold Zdp at h
 split at h
 ·rename_i z
  split at h
  ·cases h
   exact⟨by assumption,h0.self,.inl z⟩
  ·cases h
 ·rename_i z
  cases h
  have hp:0<q.1:=by have:=h0.nn;omega
  have h1:=Int.emod_nonneg (b-q.2) z
  have h2:=Int.emod_lt_of_pos (b-q.2) hp
  refine⟨by omega,?_,.inr (by omega)⟩
  rw[Za3 h0.nn]
  have h3:=Int.emod_add_mul_ediv (b-q.2) q.1
  exact⟨(b-q.2) / q.1,by omega⟩
theorem Zk3{b x:Int}(h0:RestOk q)(hx:Zao q x)(hb:x≤b): ∃c,Zdp q b=some c∧x≤c:=by
 unfold Zdp
 rw[Za3 h0.nn]at hx
 split
 ·rename_i z
  rw[z,Int.zero_dvd]at hx
  rw[if_pos (by omega)]
  exact⟨_,rfl,by omega⟩
 ·rename_i z
  have hp:0<q.1:=by have:=h0.nn;omega
  refine⟨_,rfl,?_⟩
  obtain⟨t,ht⟩:=hx
  have h3:=Int.emod_add_mul_ediv (b-q.2) q.1
  have h2:=Int.emod_lt_of_pos (b-q.2) hp
  have h4:t≤(b-q.2) / q.1:=Int.le_ediv_of_mul_le hp (by rw[Int.mul_comm];omega)
  have h5:q.1*t≤q.1*((b-q.2) / q.1):=Int.mul_le_mul_of_nonneg_left h4 (by omega)
  omega
theorem ZdC(R:Nat→Int×Int)(i j:Nat): RestOk (Zbe R i j):=ZhL _ _
theorem Zvi(h:∀b,G i j=some b→ZaK G R i j≠none): leO (ZaK G R i j) (G i j):=by
 intro b e
 have hn:=h b e
 unfold ZaK at hn ⊢
 rw[e]at hn ⊢
 cases hc:ZbI (some b) (Zbe R i j)with
 | none=>exact absurd hc hn
 | some c=>exact⟨c,rfl,(Zlz (ZdC R i j) hc).1⟩
theorem ZmL(hM:0<M)(bM:Bd k M)(hG:BdG (n+1) k G)(hR:∀t,t<n→RB M k (R t)): BdG (n+1) (k+1) (ZaK G R):=by
 intro i j c hi hj e
 have h1:=Zc6 hR i hi
 have h2:=Zc6 hR j hj
 have hd1:(Zbe R i j).1=((Int.gcd (ZK R i).1 (ZK R j).1:Nat):Int):=by
  unfold Zbe Zbd
  rw[Zk2,ZnQ h2.1,Zk2]
 have hb1:=(h1.bd hM bM).1
 have hb2:=(h2.bd hM bM).1
 have hm:Bd k (Zbe R i j).1:=by
  rw[hd1]
  by_cases z:(ZK R i).1=0
  ·rw[z,Int.gcd_zero_left]
   unfold Bd at *
   simpa using hb2
  ·have:=Int.gcd_le_natAbs_left (b:=(ZK R j).1) z
   unfold Bd at *
   simp only[Int.natAbs_natCast]
   omega
 unfold ZaK ZbI at e
 cases hg:G i j with
 | some b=>
  rw[hg]at e
  obtain⟨u1,u2,u3⟩:=Zlz (ZdC R i j) e
  have hbb:=hG i j b hi hj hg
  rcases u3 with z | z
  ·have hx:=(Zf1 h1.1 h2.1 c).mp u2
   rw[hd1]at z
   rw[z,Int.zero_dvd]at hx
   have:c=(ZK R i).2-(ZK R j).2:=by omega
   rw[this]
   exact Bd.sub h1.2.2 h2.2.2
  ·unfold Bd at *
   rw[Nat.pow_succ]
   omega
 | none=>
  rw[hg]at e
  simp only at e
  split at e
  ·rename_i z
   cases e
   have hx:=(Zf1 h1.1 h2.1 (Zbe R i j).2).mp (ZdC R i j).self
   rw[hd1]at z
   rw[z,Int.zero_dvd]at hx
   have:(Zbe R i j).2=(ZK R i).2-(ZK R j).2:=by omega
   rw[this]
   exact Bd.sub h1.2.2 h2.2.2
  ·cases e
noncomputable def ZeR(n:Nat)(C:Nat→Nat→Option Int)(R:Nat→Int×Int): Prop:=∃i,i<n∧∀x,¬ZcC n C R (i+1) (n+1) x
theorem Zpn(h:Pk (Z0 1 Zih ts) fun t=>Zga t=true∧Q t): Pk (Zeo ts) Q:=by
 obtain⟨t,e,o,q⟩:=h
 exact⟨t,by simp only[Zeo,e,Option.bind_some,o,if_true],q⟩
theorem Zvj: Zga (ZE n G R)=true:=Zn4 fun _ _=>ZfX
theorem Zpo(hn:n≤100)(hk:k+n+1≤7000)(hM:0<M)(bM:Bd k M)(hd:∀i,i<n+1→G i i=some 0)(bG:BdG (n+1) k G)(hR:∀t,t<n→RB M k (R t)): Pk (Zeo [ZE n G R]) fun t=>(∃R',t=ZE n (Z2 G (n+1)) R'∧¬Zb7 (n+1) G∧Hand n (Z2 G (n+1)) R R' M (k+n+2))∨(t=.none∧(Zb7 (n+1) G∨(¬Zb7 (n+1) G∧ZeR n (Z2 G (n+1)) R))):=by
 refine Zpn ?_
 unfold Zih
 walk_at "zz"
 refine(Zvh hn hd).mono ?_
 rintro t (⟨rfl,h⟩ | ⟨rfl,h⟩)
 ·walk_at "zz"
  refine(ZqL (k:=k+n+1) hn hk hM (bM.mono (by omega)) (Zd2 bG (n+1) (by omega)) (fun t ht=>(hR t ht).mono (by omega))).mono ?_
  rintro t (⟨R',rfl,h2⟩ | ⟨rfl,h2⟩)
  ·exact⟨Zvj,.inl ⟨R',rfl,h,h2⟩⟩
  ·exact⟨rfl,.inr ⟨rfl,.inr ⟨h,h2⟩⟩⟩
 ·walk_at "zz"
  exact ZJ Zm8 ⟨rfl,.inr ⟨rfl,.inl h⟩⟩
theorem Zhz: Zeo [.none]=some .none:=by
 apply Pk.eq
 refine Zpn ?_
 unfold Zih
 walk_at "zz"
 refine ZJ Zs8 ?_
 walk_at "zz"
 exact ZJ Zm8 ⟨rfl,rfl⟩
theorem ZhM(hR:∀i,i<n+1→RestOk (ZK R i))(hd:∀i,i<n+1→G i i=some 0): ∀i,i<n+1→ZaK G R i i=some 0:=by
 intro i hi
 unfold ZaK ZbI
 rw[hd i hi]
 have h0:Zao (Zbe R i i) 0:=(Zf1 (hR i hi) (hR i hi) 0).mpr (by simp)
 obtain⟨c,e,hc⟩:=Zk3 (ZdC R i i) h0 (Int.le_refl 0)
 have:=(Zlz (ZdC R i i) e).1
 show Zdp (Zbe R i i) 0=some 0
 rw[e,show c=0 by omega]
structure Sharp(n:Nat)(G:Nat→Nat→Option Int)(R:Nat→Int×Int)(G2:Nat→Nat→Option Int)(R2:Nat→Int×Int)(M:Int)(k:Nat): Prop where
 go:∃R1,¬Zb7 (n+1) G∧Hand n (Z2 G (n+1)) R R1 M k∧¬Zdl n (Z2 G (n+1)) R1∧¬Zb7 (n+1) (ZaK (Z2 G (n+1)) R1)∧G2=Z2 (ZaK (Z2 G (n+1)) R1) (n+1)∧Hand n G2 R1 R2 M k
noncomputable def ZeN(n:Nat)(G:Nat→Nat→Option Int)(R:Nat→Int×Int)(M:Int)(k:Nat): Prop:=Zb7 (n+1) G∨(¬Zb7 (n+1) G∧ZeR n (Z2 G (n+1)) R)∨∃R1,¬Zb7 (n+1) G∧Hand n (Z2 G (n+1)) R R1 M k∧(Zdl n (Z2 G (n+1)) R1∨(¬Zdl n (Z2 G (n+1)) R1∧(Zb7 (n+1) (ZaK (Z2 G (n+1)) R1)∨(¬Zb7 (n+1) (ZaK (Z2 G (n+1)) R1)∧ZeR n (Z2 (ZaK (Z2 G (n+1)) R1) (n+1)) R1))))
theorem Hand.mono(h:Hand n G R R' M i)(hij:i≤j): Hand n G R R' M j:=fun t ht=>⟨(h t ht).1.mono hij,(h t ht).2⟩
theorem Zt6(hn:n≤100)(hk:k+2*n+4≤7000)(hM:0<M)(bM:Bd k M)(hd:∀i,i<n+1→G i i=some 0)(bG:BdG (n+1) k G)(hR:∀t,t<n→RB M k (R t)): Pk (Zb9 [ZE n G R]) fun t=>(∃G2 R2,t=ZE n G2 R2∧Sharp n G R G2 R2 M (k+2*n+5))∨(t=.none∧ZeN n G R M (k+n+2)):=by
 unfold Zb9 ZhY
 walk_at "zz"
 refine(Zpo hn (by omega) hM bM hd bG hR).mono ?_
 rintro t (⟨R1,rfl,nr,h1⟩ | ⟨rfl,h⟩)
 ·have hR1:∀t,t<n→RB M (k+n+2) (R1 t):=fun t ht=>(h1 t ht).1
  have hF1:=Zc6 hR1
  have z1:=Zel hd (m:=n+1) fun m hm q=>nr ⟨m,hm,q⟩
  walk_at "zz"
  refine(Zsh hn (by omega) hM (bM.mono (by omega)) hR1).mono ?_
  rintro t (⟨rfl,nl⟩ | ⟨rfl,fl⟩)
  ·walk_at "zz"
   have bG1:BdG (n+1) (k+n+3) (ZaK (Z2 G (n+1)) R1):=ZmL hM (bM.mono (by omega)) (fun a b c ha hb e=>(Zd2 bG (n+1) (by omega) a b c ha hb e).mono (by omega)) hR1
   refine(Zpo (k:=k+n+3) hn (by omega) hM (bM.mono (by omega)) (ZhM (fun i hi=>(hF1 i hi).1) z1) bG1 (fun t ht=>(hR1 t ht).mono (by omega))).mono ?_
   rintro t (⟨R2,rfl,nr2,h2⟩ | ⟨rfl,h2⟩)
   ·exact .inl ⟨_,R2,rfl,⟨R1,nr,h1.mono (by omega),nl,nr2,rfl,h2.mono (by omega)⟩⟩
   ·exact .inr ⟨rfl,.inr (.inr ⟨R1,nr,h1,.inr ⟨nl,h2⟩⟩)⟩
  ·walk_at "zz"
   exact ZJ Zhz (.inr ⟨rfl,.inr (.inr ⟨R1,nr,h1,.inl fl⟩)⟩)
 ·walk_at "zz"
  refine ZJ Znp ?_
  walk_at "zz"
  refine ZJ Zhz (.inr ⟨rfl,?_⟩)
  rcases h with h | h
  ·exact .inl h
  ·exact .inr (.inl h)
theorem ZnR: Zb9 [.none]=some .none:=by
 apply Pk.eq
 unfold Zb9 ZhY
 walk_at "zz"
 refine ZJ Zhz ?_
 walk_at "zz"
 refine ZJ Znp ?_
 walk_at "zz"
 exact ZJ Zhz rfl
theorem ZfO(h:Zax n G R x): Zax n (Z2 G (n+1)) R x:=⟨fun i j hi hj b e=>ZlY (ZnO h) (n+1) (by omega) i j hi hj b e,h.2⟩
theorem Zny(h:Zax n G R x): ¬Zb7 (n+1) G:=fun⟨m,hm,q⟩=>Zs6 (ZlY (ZnO h) (m+1) (by omega)) q
theorem ZlA(h:Zax n G R x): ∀i,i<n+1→Zao (ZK R i) (Zaq x i)
 | 0,_=>⟨fun _=>rfl,fun q=>absurd q (show ¬(0:Int)<0 by decide)⟩
 | i+1,hi=>h.2 i (by omega)
theorem Zof(h:Zax n G R x)(ht:t<n): ZcC n G R (t+1) (n+1) (x t):=by
 refine⟨h.2 t ht,fun j hj a b ha hb hab=>?_⟩
 have h1:=h.1 (t+1) j (by omega) hj a ha
 have h2:=h.1 j (t+1) hj (by omega) b hb
 have h3:Zaq x (t+1)=x t:=rfl
 rw[h3]at h1 h2
 rw[show x t-a=Zaq x j by omega]
 exact ZlA h j hj
theorem Zkh(h:Zax n G R x)(q:Hand n G R R' M k): Zax n G R' x:=⟨h.1,fun t ht=>((q t ht).2 _).mpr (Zof h ht)⟩
theorem ZoI(hR:∀i,i<n+1→RestOk (ZK R i))(h:Zax n G R x)(hi:i<n+1)(hj:j<n+1): Zao (Zbe R i j) (Zaq x i-Zaq x j):=by
 rw[Zf1 (hR i hi) (hR j hj)]
 have h1:=(Za3 (hR i hi).nn _).mp (ZlA h i hi)
 have h2:=(Za3 (hR j hj).nn _).mp (ZlA h j hj)
 have h3:=Int.dvd_sub (Int.dvd_trans (Int.gcd_dvd_left (b:=(ZK R j).1) ..) h1) (Int.dvd_trans (Int.gcd_dvd_right (a:=(ZK R i).1) ..) h2)
 rwa [show Zaq x i-(ZK R i).2-(Zaq x j-(ZK R j).2)=Zaq x i-Zaq x j-((ZK R i).2-(ZK R j).2)by omega]at h3
theorem Zsi(hR:∀i,i<n+1→RestOk (ZK R i))(h:Zax n G R x): ¬Zdl n G R:=by
 rintro⟨i,j,hi,hj,b,e,hn⟩
 obtain⟨c,e2,_⟩:=Zk3 (ZdC R i j) (ZoI hR h hi hj) (h.1 i j hi hj b e)
 unfold ZaK ZbI at hn
 rw[e]at hn
 simp only at hn
 rw[e2]at hn
 cases hn
theorem ZoJ(hR:∀i,i<n+1→RestOk (ZK R i))(h:Zax n G R x): Zax n (ZaK G R) R x:=by
 refine⟨fun i j hi hj b e=>?_,h.2⟩
 have hd:=ZoI hR h hi hj
 unfold ZaK ZbI at e
 cases hg:G i j with
 | some c=>
  rw[hg]at e
  simp only at e
  obtain⟨d,e2,hle⟩:=Zk3 (ZdC R i j) hd (h.1 i j hi hj c hg)
  rw[e2]at e
  cases e
  exact hle
 | none=>
  rw[hg]at e
  simp only at e
  split at e
  ·rename_i z
   cases e
   rw[Za3 (ZdC R i j).nn,z,Int.zero_dvd]at hd
   omega
  ·cases e
theorem Zsj(h:Zax n G R x)(s:Sharp n G R G2 R2 M k): Zax n G2 R2 x:=by
 obtain⟨R1,h1,h2,h3,h4,rfl,h6⟩:=s.go
 have l1:=Zkh (ZfO h) h2
 have hF:=Zc6 fun t ht=>(h2 t ht).1
 exact Zkh (ZfO (ZoJ (fun i hi=>(hF i hi).1) l1)) h6
theorem ZrI(h:Zax n G R x): ¬ZeN n G R M k:=by
 have hf:∀{G:Nat→Nat→Option Int} {R:Nat→Int×Int},Zax n G R x→¬ZeR n G R:=fun h ⟨i,hi,q⟩=>q _ (Zof h hi)
 rintro(q | ⟨_,q⟩ | ⟨R1,_,h2,q⟩)
 ·exact Zny h q
 ·exact hf (ZfO h) q
 ·have l1:=Zkh (ZfO h) h2
  have hF:=Zc6 fun t ht=>(h2 t ht).1
  have l2:=ZoJ (fun i hi=>(hF i hi).1) l1
  rcases q with q | ⟨_,q | ⟨_,q⟩⟩
  ·exact Zsi (fun i hi=>(hF i hi).1) l1 q
  ·exact Zny l2 q
  ·exact hf (ZfO l2) q
theorem Zsk(hk:k≤8000)(op:RestOk p)(oq:RestOk q)(bp:RBd k p)(bq:RBd k q): Pk (Zli [ZQ p,ZQ q]) fun t=>∃o,t=oR o∧Met p q o:=by
 unfold Zli Zn8
 have ep:ZQ p=.tup [.int p.1,.int p.2]:=rfl
 have eq:ZQ q=.tup [.int q.1,.int q.2]:=rfl
 have np:=op.nn
 have nq:=oq.nn
 rw[ep,eq]
 walk_at "zz"
 have hlt:∀x:Int,0≤x→Bd k x→x<2 ^ 200000:=fun x h0 h1=>by
  have h2:x.natAbs<2 ^ 200000:=ZbL h1 (by omega)
  have h3:((x.natAbs:Nat):Int)<2 ^ 200000:=by exact_mod_cast h2
  omega
 obtain⟨m,hm,eu⟩:=ZhJ np nq (hlt _ np bp.1) (hlt _ nq bq.1)
 refine ZeO (fun m σ=>∃l r s t:Int,σ 0=some (.tup [.int p.1,.int p.2])∧σ 1=some (.tup [.int q.1,.int q.2])∧σ 2=some (.int l)∧σ 3=some (.int r)∧σ 4=some (.int s)∧σ 5=some (.int t)∧Eu m l r∧Int.gcd l r=Int.gcd p.1 q.1∧Bd k l∧Bd k r∧(∃z,s*p.1=l+q.1*z)∧(∃z,t*p.1=r+q.1*z)∧Bd (k+1) s∧Bd (k+1) t∧(s.natAbs:Int)*r+(t.natAbs:Int)*l≤q.1∧(1≤l∨t=0)) _ _ ?_ 1000000 (m:=m) ⟨p.1,q.1,1,0,by walk_at "zr",by walk_at "zr",by walk_at "zr",by walk_at "zr",by walk_at "zr",by walk_at "zr",eu,rfl,bp.1,bq.1,⟨0,by omega⟩,⟨-1,by omega⟩,ZgM (by omega),Zdi,by simp,.inr rfl⟩ hm
 rintro m σ ⟨l,r,s,t,e0,e1,e2,e3,e4,e5,eu,gl,kl,kr,⟨z1,h1⟩,⟨z2,h2⟩,ks,kt,hb1,hl⟩
 walk_at "zz"
 refine⟨fun h=>?_,fun h=>?_⟩
 ·have hr:r≠0:=by simpa using h
  have hr0:0≤r:=eu.2.1
  have hl0:0≤l:=eu.1
  have hrp:0<r:=by omega
  have hdiv0:0≤l / r:=Int.ediv_nonneg hl0 hr0
  have hdiv1:l / r≤l:=Int.ediv_le_self _ hl0
  have kd:Bd k (l / r):=ZcX kl hdiv0 hdiv1
  walk_at "zz"
  refine ZdF hr (Zep kr (by omega)) ?_
  rw[Int.fdiv_eq_ediv_of_nonneg _ hr0]
  walk_at "zz"
  refine Zbt (ZbY kd kr (by omega) (by omega)) ?_
  walk_at "zz"
  refine Zbt (ZbY kd kt (by omega) (by omega)) ?_
  walk_at "zz"
  have hover:l-l / r*r=l % r:=by
   have:=Int.emod_add_mul_ediv l r
   rw[Int.mul_comm r (l / r)]at this
   omega
  rw[hover]
  obtain⟨m',hm1,hm2⟩:=eu.step hr
  have o0:=Int.emod_nonneg l hr
  have o1:=Int.emod_lt_of_pos l hrp
  have ht:((s-l / r*t).natAbs:Int)≤(s.natAbs:Int)+l / r*(t.natAbs:Int):=by
   have h3:(s-l / r*t).natAbs≤s.natAbs+(l / r*t).natAbs:=by omega
   have h4:(l / r*t).natAbs=(l / r).natAbs*t.natAbs:=Int.natAbs_mul ..
   have h5:(((l / r).natAbs*t.natAbs:Nat):Int)=l / r*(t.natAbs:Int):=by
    rw[Int.natCast_mul,Int.natAbs_of_nonneg hdiv0]
   rw[h4]at h3
   omega
  have h6:((s-l / r*t).natAbs:Int)*r≤((s.natAbs:Int)+l / r*(t.natAbs:Int))*r:=Int.mul_le_mul_of_nonneg_right ht hr0
  have h7:((s.natAbs:Int)+l / r*(t.natAbs:Int))*r=(s.natAbs:Int)*r+(t.natAbs:Int)*(l / r*r):=by
   rw[Int.add_mul,Int.mul_comm (l / r) (t.natAbs:Int),Int.mul_assoc]
  have h8:(t.natAbs:Int)*(l % r)+(t.natAbs:Int)*(l / r*r)=(t.natAbs:Int)*l:=by
   rw[←Int.mul_add,←hover]
   congr 1
   omega
  have h9:(t.natAbs:Int)*(l % r)+((s-l / r*t).natAbs:Int)*r≤q.1:=by omega
  have hpos:0≤(t.natAbs:Int)*(l % r):=Int.mul_nonneg (by omega) o0
  have kn:Bd (k+1) (s-l / r*t):=by
   have h10:((s-l / r*t).natAbs:Int)*1≤((s-l / r*t).natAbs:Int)*r:=Int.mul_le_mul_of_nonneg_left (by omega) (by omega)
   have h11:((s-l / r*t).natAbs:Int)≤q.1:=by omega
   have h12:=bq.1
   unfold Bd at *
   rw[Nat.pow_succ]
   omega
  refine⟨m',hm1,r,l % r,t,s-l / r*t,by walk_at "zr",by walk_at "zr",by walk_at "zr",by walk_at "zr",by walk_at "zr",by walk_at "zr",hm2,by rw[Zf0 hrp];exact gl,kr,ZcX kr o0 (by omega),⟨z2,h2⟩,⟨z1-l / r*z2,?_⟩,kt,kn,h9,.inl (by omega)⟩
  rw[Int.sub_mul,h1,Int.mul_assoc,h2,Int.mul_add,Int.mul_sub,←hover]
  have e1:q.1*(l / r*z2)=l / r*(q.1*z2):=by rw[←Int.mul_assoc,Int.mul_comm q.1,Int.mul_assoc]
  rw[e1]
  omega
 ·have hr:r=0:=by simpa using h
  subst hr
  rw[Int.gcd_zero_right]at gl
  have hl0:=eu.1
  have hlg:l=(Int.gcd p.1 q.1:Nat):=by omega
  walk_at "zz"
  by_cases c:l=0
  ·have hz:p.1=0∧q.1=0:=Int.gcd_eq_zero_iff.mp (by omega)
   have hp1:∀x,Zao p x↔x=p.2:=fun x=>by rw[Za3 np,hz.1,Int.zero_dvd];omega
   have hq1:∀x,Zao q x↔x=q.2:=fun x=>by rw[Za3 nq,hz.2,Int.zero_dvd];omega
   walk_at "zz"
   by_cases d:q.2-p.2=0
   ·walk_at "zz"
    refine⟨some p,rfl,op,fun x=>?_⟩
    rw[hp1,hq1]
    omega
   ·walk_at "zz"
    refine⟨none,rfl,fun x hx=>?_⟩
    rw[hp1,hq1]at hx
    omega
  ·have hlp:0<l:=by omega
   obtain⟨a,ea⟩:l ∣ p.1:=by rw[hlg];exact Int.gcd_dvd_left ..
   obtain⟨b,eb⟩:l ∣ q.1:=by rw[hlg];exact Int.gcd_dvd_right ..
   walk_at "zz"
   rw[Int.fmod_eq_emod_of_nonneg _ (by omega)]
   by_cases c3:(q.2-p.2) % l=0
   ·obtain⟨d,ed⟩:=Int.dvd_of_emod_eq_zero c3
    have da:p.1 / l=a:=by rw[ea];exact Int.mul_ediv_cancel_left _ (by omega)
    have dd:(q.2-p.2) / l=d:=by rw[ed];exact Int.mul_ediv_cancel_left _ (by omega)
    have ha0:0≤a:=by rw[←da];exact Int.ediv_nonneg np (by omega)
    have ka:Bd k a:=ZcX bp.1 ha0 (by rw[←da];exact Int.ediv_le_self _ np)
    have kdd:Bd (k+1) d:=by
     have h1:Bd (k+1) (q.2-p.2):=Bd.sub bq.2 bp.2
     unfold Bd at *
     rw[ed,Int.natAbs_mul]at h1
     have:1*d.natAbs≤l.natAbs*d.natAbs:=Nat.mul_le_mul_right _ (by omega)
     omega
    walk_at "zz"
    refine ZdF (by omega) (Zep kl (by omega)) ?_
    rw[Int.fdiv_eq_ediv_of_nonneg _ (by omega),da]
    walk_at "zz"
    refine Zbt (ZbY ka bq.1 (by omega) (by omega)) ?_
    walk_at "zz"
    refine Zbt (ZbY bp.1 ks (by omega) (by omega)) ?_
    walk_at "zz"
    refine ZdF (by omega) (Zep kl (by omega)) ?_
    rw[Int.fdiv_eq_ediv_of_nonneg _ (by omega),dd]
    walk_at "zz"
    refine Zbt (ZbY (Bd.mul bp.1 ks) kdd (by omega) (by omega)) ?_
    walk_at "zz"
    have hm0:0≤a*q.1:=Int.mul_nonneg ha0 nq
    refine ZJ ZfL ⟨some _,rfl,ZcL hm0 _,fun x=>?_⟩
    rw[Zc5 hm0,Za3 np,Za3 nq]
    have hx0:p.1*s*d=(q.2-p.2)+q.1*(z1*d):=by
     rw[Int.mul_comm p.1 s,h1,Int.add_mul,ed,Int.mul_assoc]
    have hpm:p.1 ∣ a*q.1:=⟨b,by rw[ea,eb];rw[Int.mul_left_comm,Int.mul_assoc]⟩
    have hqm:q.1 ∣ a*q.1:=Int.dvd_mul_left _ _
    constructor
    ·intro hx
     have g1:=Int.dvd_trans hpm hx
     have g2:=Int.dvd_trans hqm hx
     refine⟨?_,?_⟩
     ·have:=Int.dvd_add g1 (show p.1 ∣ p.1*s*d from⟨s*d,by rw[Int.mul_assoc]⟩)
      rwa [show x-(p.2+p.1*s*d)+p.1*s*d=x-p.2 by omega]at this
     ·have:=Int.dvd_add g2 (Int.dvd_mul_right q.1 (z1*d))
      rwa [show x-(p.2+p.1*s*d)+q.1*(z1*d)=x-q.2 by omega]at this
    ·rintro⟨g1,g2⟩
     have g3:p.1 ∣ x-(p.2+p.1*s*d):=by
      have:=Int.dvd_sub g1 (show p.1 ∣ p.1*s*d from⟨s*d,by rw[Int.mul_assoc]⟩)
      rwa [show x-p.2-p.1*s*d=x-(p.2+p.1*s*d)by omega]at this
     have g4:q.1 ∣ x-(p.2+p.1*s*d):=by
      have:=Int.dvd_sub g2 (Int.dvd_mul_right q.1 (z1*d))
      rwa [show x-q.2-q.1*(z1*d)=x-(p.2+p.1*s*d)by omega]at this
     have g5:=Int.coe_lcm_dvd g3 g4
     have g6:(a*q.1).natAbs=Int.lcm p.1 q.1:=by
      have k1:=Int.gcd_mul_lcm p.1 q.1
      have k2:(l.natAbs)*(a*q.1).natAbs=p.1.natAbs*q.1.natAbs:=by
       rw[Int.natAbs_mul,←Nat.mul_assoc]
       congr 1
       rw[←Int.natAbs_mul,←ea]
      have k3:Int.gcd p.1 q.1=l.natAbs:=by omega
      rw[k3]at k1
      exact Nat.eq_of_mul_eq_mul_left (show 0<l.natAbs by omega) (by omega)
     rw[←g6]at g5
     exact Int.natAbs_dvd.mp g5
   ·walk_at "zz"
    refine⟨none,rfl,fun x hx=>c3 ?_⟩
    rw[Za3 np,Za3 nq]at hx
    have g1:l ∣ x-p.2:=Int.dvd_trans ⟨a,ea⟩ hx.1
    have g2:l ∣ x-q.2:=Int.dvd_trans ⟨b,eb⟩ hx.2
    have g3:=Int.dvd_sub g1 g2
    rw[show x-p.2-(x-q.2)=q.2-p.2 by omega]at g3
    exact Int.emod_eq_zero_of_dvd g3
theorem Zp0(hk:k≤8000)(op:RestOk p)(oq:RestOk q)(bp:RBd k p)(bq:RBd k q)(h:Met p q o): ∀r,o=some r→(r=p∨r=q∨(p.1≠0∧q.1≠0∧r.1=Int.lcm p.1 q.1)):=by
 obtain⟨t,_,o',rfl,h',wh⟩:=Zkg hk op oq bp bq
 rw[Zsf h h']
 exact wh
theorem Zs9(q:Int×Int)(h:0≤q.1)(a:Int): ZaJ q.1 (q.2+a)=Zbd q (0,a):=by
 unfold Zbd
 simp only[Int.gcd_zero_right]
 rw[Int.natAbs_of_nonneg h]
theorem ZlB(ho:ZcV n G R M k i j o)(h:∀a b x,G i j=some a→G j i=some b→a+b=0→ZcC n G R i j x→Zao (ZK R j) (x-a)): ZcV n G R M k i (j+1) o:=by
 have hs:∀x,ZcC n G R i j x↔ZcC n G R i (j+1) x:=fun x=>⟨fun hx=>⟨hx.1,fun j' hj' a b ha hb hab=>by
     by_cases q':j'=j
     ·subst q';exact h a b x ha hb hab hx
     ·exact hx.2 j' (by omega) a b ha hb hab⟩,fun hx=>⟨hx.1,fun j' hj'=>hx.2 j' (by omega)⟩⟩
 cases o with
 | none=>exact fun x hx=>ho x ((hs x).mpr hx)
 | some q=>exact⟨ho.1,fun x=>(ho.2 x).trans (hs x)⟩
theorem Zpp{a:Int}(hM:0<M)(bM:Bd k M)(h:RB M k q)(ba:Bd k a): RB M (k+1) (Zbd q (0,a)):=by
 refine⟨ZhL _ _,?_,?_⟩
 ·unfold Zbd ZaJ
  simp only[Int.gcd_zero_right]
  rw[Int.natAbs_of_nonneg h.1.nn]
  split
  ·exact .inl rfl
  ·exact h.2.1
 ·have hm:=(h.bd hM bM).1
  refine(Zhy (k:=k+1) (by omega) ?_ (Bd.add h.2.2 ba)).2
  simp only[Int.gcd_zero_right]
  rw[Int.natAbs_of_nonneg h.1.nn]
  exact hm.mono (by omega)
theorem Zta{o':Option (Int×Int)}{a b:Int}(hk:k≤7000)(hM:0<M)(bM:Bd k M)(ha:G i j=some a)(hb:G j i=some b)(hab:a+b=0)(ba:Bd k a)(hj2:RB M k (ZK R j))(ho:ZcV n G R M (k+1) i j (some q))(mt:Met q (Zbd (ZK R j) (0,a)) o'): ZcV n G R M (k+1) i (j+1) o':=by
 have bM1:Bd (k+1) M:=bM.mono (by omega)
 have hpl:=Zpp hM bM hj2 ba
 have wh:=Zp0 (k:=k+1) (by omega) ho.1.1 hpl.1 (ho.1.bd hM bM1) (hpl.bd hM bM1) mt
 have hset:∀x,(Zao q x∧Zao (Zbd (ZK R j) (0,a)) x)↔ZcC n G R i (j+1) x:=fun x=>by
  rw[ho.2 x,Znx hj2.1]
  constructor
  ·rintro⟨h1,h2⟩
   refine⟨h1.1,fun j' hj' c d hc hd hcd=>?_⟩
   by_cases q':j'=j
   ·subst q';rw[ha]at hc;cases hc;exact h2
   ·exact h1.2 j' (by omega) c d hc hd hcd
  ·intro h
   exact⟨⟨h.1,fun j' hj'=>h.2 j' (by omega)⟩,h.2 j (by omega) a b ha hb hab⟩
 cases o' with
 | none=>exact fun x hx=>mt x ((hset x).mpr hx)
 | some r=>
  refine⟨⟨mt.1,?_,?_⟩,fun x=>(mt.2 x).trans (hset x)⟩
  ·rcases wh r rfl with h | h | ⟨h1,h2,h3⟩
   ·rw[h];exact ho.1.2.1
   ·rw[h];exact hpl.2.1
   ·right
    rw[h3]
    exact Int.coe_lcm_dvd (ho.1.2.1.resolve_left h1) (hpl.2.1.resolve_left h2)
  ·rcases wh r rfl with h | h | ⟨h1,h2,h3⟩
   ·rw[h];exact ho.1.2.2
   ·rw[h];exact hpl.2.2
   ·rcases mt.1 with z | z
    ·have:(Int.lcm q.1 (Zbd (ZK R j) (0,a)).1)≠0:=Int.lcm_ne_zero h1 h2
     omega
    ·have hd:r.1 ∣ M:=by
      rw[h3]
      exact Int.coe_lcm_dvd (ho.1.2.1.resolve_left h1) (hpl.2.1.resolve_left h2)
     exact ZcX bM1 z.2.1 (by have:=Int.le_of_dvd hM hd;omega)
theorem Zvk{p:PE}(h:Pk (p σ) fun t=>∃ts,t=.lst ts∧Q (.lst (ts.drop k))): Pk (Zdr p k σ) Q:=by
 obtain⟨t,e,ts,rfl,q⟩:=h
 exact⟨_,by simp only[Zdr,e,Option.bind_some],q⟩
theorem Ztb: (tab (n+1) f).drop 1=tab n fun i=>f (i+1):=by
 apply List.ext_getElem?
 intro i
 rw[List.getElem?_drop]
 by_cases h:i<n
 ·rw[ZaP h,Nat.add_comm 1 i,ZaP (by omega)]
 ·rw[List.getElem?_eq_none (by rw[Zan];omega),List.getElem?_eq_none (by rw[Zan];omega)]
theorem Znj(hn:n≤100)(hk:k≤7000)(hM:0<M)(bM:Bd k M)(bG:∀a b c,a<n+1→b<n+1→G a b=some c→Bd k c)(hR:∀t,t<n→RB M k (R t)): Pk (Zg2 [ZZ (n+1) G,ZaI n R]) fun t=>(∃R',t=ZaI n R'∧Hand n G R R' M (k+1))∨(t=.none∧ZeR n G R):=by
 unfold Zg2 Zno
 have hF:=Zc6 hR
 have bM1:Bd (k+1) M:=bM.mono (by omega)
 have hr:ZaI n R=.lst (tab n fun i=>ZQ (R i)):=rfl
 rw[hr]
 walk_at "zz"
 rw[ZmW]
 walk_at "zz"
 refine Za6 (n:=n) (a:=fun i=>.int ((i+1:Nat):Int)) (P:=fun m σ=>∃F:Nat→Option (Int×Int),σ 0=some (ZZ (n+1) G)∧σ 2=some (.lst (tab (n+1) fun i=>ZQ (ZK R i)))∧σ 3=some (.lst (tab (n+1) fun i=>oR (F i)))∧F 0=some (0,0)∧(∀a,a<m→ZcV n G R M (k+1) (a+1) (n+1) (F (a+1)))∧∀a,m≤a→a<n→F (a+1)=some (R a)) ?_ ⟨fun i=>some (ZK R i),by walk_at "zr",by walk_at "zr",by walk_at "zr",rfl,by omega,fun _ _ _=>rfl⟩ ?_ ?_
 ·by_cases h0:n=0
  ·subst h0
   exact⟨[],ZeW (a:=1) (b:=1) rfl ZpZ,rfl⟩
  ·walk_at "zz"
   refine Rn.two 1 n (by decide) (by omega) (by omega) (by omega) ?_
   refine Za2 fun i _=>?_
   congr 1
   omega
 ·rintro i σ hi ⟨F,e0,e2,e3,z0,h1,h2⟩
  have hself:(fun a=>oR (F a))=fun a=>oR (if a=i+1 then F (i+1)else F a):=funext fun a=>by split <;> simp_all
  rw[hself]at e3
  refine Za6 (n:=n+1) (a:=fun j=>.int j) (P:=fun j σ=>∃o,σ 0=some (ZZ (n+1) G)∧σ 2=some (.lst (tab (n+1) fun i=>ZQ (ZK R i)))∧σ 3=some (.lst (tab (n+1) fun a=>oR (if a=i+1 then o else F a)))∧σ 4=some (.int ((i+1:Nat):Int))∧ZcV n G R M (k+1) (i+1) j o) ?_ ⟨F (i+1),by walk_at "zr",by walk_at "zr",by walk_at "zr",by walk_at "zr",?_⟩ ?_ ?_
  ·walk_at "zz"
   rfl
  ·rw[h2 i (by omega) hi]
   exact⟨(hF (i+1) (by omega)).mono (by omega),fun x=>⟨fun h=>⟨h,by omega⟩,fun h=>h.1⟩⟩
  ·rintro j σ hj ⟨o,f0,f2,f3,f4,ho⟩
   unfold ZZ Zaf at f0
   walk_at "zz"
   have fin:∀σ':TL,σ' 0=σ 0→σ' 2=σ 2→σ' 3=σ 3→σ' 4=σ 4→ZcV n G R M (k+1) (i+1) (j+1) o→∃o,σ' 0=some (ZZ (n+1) G)∧σ' 2=some (.lst (tab (n+1) fun i=>ZQ (ZK R i)))∧σ' 3=some (.lst (tab (n+1) fun a=>oR (if a=i+1 then o else F a)))∧σ' 4=some (.int ((i+1:Nat):Int))∧ZcV n G R M (k+1) (i+1) (j+1) o:=fun σ' g0 g2 g3 g4 h=>⟨o,g0.trans f0,g2.trans f2,g3.trans f3,g4.trans f4,h⟩
   refine⟨fun c=>?_,fun c=>⟨fun h=>(nomatch h),fun _=>?_⟩⟩
   ·have cne:i+1≠j:=fun q=>of_decide_eq_true c (by omega)
    cases hg:G (i+1) j with
    | none=>
     rw[Zbq]
     walk_at "zz"
     exact fin _ rfl rfl rfl rfl (ZlB ho fun a b x ha=>by rw[hg]at ha;cases ha)
    | some a=>
     rw[ZaE]
     walk_at "zz"
     refine Zia (ZgA (n:=0)) (.int (n:=0)) ?_
     walk_at "zz"
     refine⟨fun e=>?_,fun e=>?_⟩
     ·have e':=dec_iff.mp e
      rw[←ZaE,oT_inj]at e'
      cases o with
      | none=>
       walk_at "zz"
       rw[if_pos rfl,show oR none=T.none from rfl]
       walk_at "zz"
       exact fin _ rfl rfl rfl rfl fun x hx=>ho x ⟨hx.1,fun j' hj'=>hx.2 j' (by omega)⟩
      | some q=>
       walk_at "zz"
       rw[if_pos rfl,show oR (some q)=T.tup [.int q.1,.int q.2]from rfl]
       walk_at "zz"
       rw[if_pos rfl]
       have hj2:=hF j hj
       have ba:=bG (i+1) j a (by omega) hj hg
       have hpl:=Zpp hM bM hj2 ba
       have eq:ZQ (ZK R j)=.tup [.int (ZK R j).1,.int (ZK R j).2]:=rfl
       rw[eq]
       walk_at "zz"
       rw[eq]
       walk_at "zz"
       refine ZJ ZfL ?_
       rw[Zs9 _ hj2.1.nn]
       walk_at "zz"
       refine(Zsk (p:=q) (q:=Zbd (ZK R j) (0,a)) (k:=k+1) (by omega) ho.1.1 hpl.1 (ho.1.bd hM bM1) (hpl.bd hM bM1)).mono ?_
       rintro _ ⟨o',rfl,mt⟩
       refine⟨by cases o' <;> rfl,?_⟩
       walk_at "zz"
       refine⟨o',by walk_at "zr",by walk_at "zr",?_,by walk_at "zr",Zta hk hM bM hg e' (by omega) ba hj2 ho mt⟩
       refine(show _=_ from ZbX).trans ?_
       congr 2
       refine Za2 fun a _=>?_
       split <;> rfl
     ·walk_at "zz"
      refine fin _ rfl rfl rfl rfl (ZlB ho fun a' b x ha hb hab hx=>?_)
      rw[hg]at ha
      cases ha
      have:dec (oT (G j (i+1))=.int (-a))=true:=ZaR (by rw[hb,ZaE];congr 1;omega)
      rw[this]at e
      cases e
   ·walk_at "zz"
    refine fin _ rfl rfl rfl rfl (ZlB ho fun a b x ha hb hab hx=>?_)
    have cj:i+1=j:=by
     have:=of_decide_eq_false c
     omega
    subst cj
    rw[ha]at hb
    cases hb
    rw[show x-a=x by omega]
    exact hx.1
  ·rintro σ ⟨o,f0,f2,f3,f4,ho⟩
   refine⟨fun a=>if a=i+1 then o else F a,f0,f2,f3,by simp[z0],fun a ha=>?_,fun a ha hb=>?_⟩
   ·by_cases q:a=i
    ·subst q;simpa using ho
    ·simpa [q]using h1 a (by omega)
   ·simpa [show a≠i by omega]using h2 a (by omega) hb
 ·rintro σ ⟨F,e0,e2,e3,z0,h1,-⟩
  walk_at "zz"
  refine ZgB (.none (n:=0)) (Zen (n:=1) fun i _=>ZmX) ?_
  by_cases hc:∃i,i<n∧F (i+1)=none
  ·obtain⟨i,hi,ei⟩:=hc
   rw[ZaR (show T.none∈tab (n+1) fun i=>oR (F i)from List.mem_of_getElem? (i:=i+1) (by rw[ZaP (by omega),ei];rfl))]
   walk_at "zz"
   refine .inr ⟨rfl,i,hi,?_⟩
   have:=h1 i hi
   rw[ei]at this
   exact this
  ·rw[Zbw (show ¬T.none∈tab (n+1) fun i=>oR (F i)from fun h=>by
    obtain⟨i,hi,e⟩:=ZcO h
    have e':=oR_none.mp e.symm
    cases i with
    | zero=>rw[z0]at e';cases e'
    | succ i=>exact hc ⟨i,by omega,e'⟩)]
   walk_at "zz"
   refine Zvk ?_
   walk_at "zz"
   refine⟨_,rfl,?_⟩
   rw[Ztb]
   have hs:∀i,i<n→F (i+1)=some ((F (i+1)).getD (1,0)):=fun i hi=>by
    cases e:F (i+1)with
    | none=>exact absurd ⟨i,hi,e⟩ hc
    | some q=>rfl
   refine .inl ⟨fun i=>(F (i+1)).getD (1,0),?_,fun t ht=>?_⟩
   ·unfold ZaI
    congr 1
    refine Za2 fun i hi=>?_
    conv=>lhs;rw[hs i hi]
    rfl
   ·have:=h1 t ht
    rw[hs t ht]at this
    exact this
theorem Zvl(hi:RestOk (ZK R i))(hj:RestOk (ZK R j)): Zbe R i j=ZaJ (Int.gcd (ZK R i).1 (ZK R j).1:Nat) ((ZK R i).2-(ZK R j).2):=
 ZfC (ZdC R i j) (ZcL (by omega) _) fun x=>(Zf1 hi hj x).trans (Zc5 (by omega) x).symm
theorem Zvm(hi:RestOk (ZK R i))(hj:RestOk (ZK R j)): ZaK G R i j=if((Int.gcd (ZK R i).1 (ZK R j).1:Nat):Int)=0 then(match G i j with | none=>some ((ZK R i).2-(ZK R j).2) | some b=>if(ZK R i).2-(ZK R j).2≤b then some ((ZK R i).2-(ZK R j).2)else none)else(match G i j with | none=>none | some b=>some (b-(b-((ZK R i).2-(ZK R j).2)) % (Int.gcd (ZK R i).1 (ZK R j).1:Nat))):=by
 unfold ZaK
 rw[Zvl hi hj]
 generalize ((Int.gcd (ZK R i).1 (ZK R j).1:Nat):Int)=m at *
 generalize (ZK R i).2-(ZK R j).2=r
 unfold ZaJ
 by_cases c:m=0
 ·rw[if_pos c,if_pos c]
  cases G i j with
  | none=>simp[ZbI]
  | some b=>simp[ZbI,Zdp]
 ·rw[if_neg c,if_neg c]
  cases G i j with
  | none=>simp[ZbI,c]
  | some b=>
   have:(b-r.fmod m) % m=(b-r) % m:=by
    have h1:m ∣ (b-r.fmod m)-(b-r):=by
     have:=Int.mul_fdiv_add_fmod r m
     exact⟨r.fdiv m,by omega⟩
    exact Int.emod_eq_emod_iff_emod_sub_eq_zero.mpr (Int.emod_eq_zero_of_dvd h1)
   simp[ZbI,Zdp,c,this]
noncomputable def Zfg(n:Nat)(G:Nat→Nat→Option Int)(R:Nat→Int×Int)(F:Nat→Nat→Option Int)(i j:Nat): Prop:=∀a b,a<n+1→b<n+1→((a<i∨(a=i∧b<j))→F a b=ZaK G R a b∧∀c,G a b=some c→ZaK G R a b≠none)∧(¬(a<i∨(a=i∧b<j))→F a b=G a b)
theorem ZnS(h:Zfg n G R F i j)(e:G i j=ZaK G R i j): Zfg n G R F i (j+1):=fun a b ha hb=>by
 obtain⟨h1,h2⟩:=h a b ha hb
 refine⟨fun q=>?_,fun q=>h2 (by omega)⟩
 by_cases q':a=i∧b=j
 ·obtain⟨rfl,rfl⟩:=q'
  rw[h2 (by omega)]
  exact⟨e,fun c hc=>by rw[←e,hc];simp⟩
 ·exact h1 (by omega)
theorem ZlC{v:Int}(h:Zfg n G R F i j)(e:ZaK G R i j=some v): Zfg n G R (ZcA F i j (some v)) i (j+1):=fun a b ha hb=>by
 obtain⟨h1,h2⟩:=h a b ha hb
 by_cases q':a=i∧b=j
 ·obtain⟨rfl,rfl⟩:=q'
  rw[Zh1]
  exact⟨fun _=>⟨e.symm,fun c _=>by rw[e];simp⟩,fun q=>by omega⟩
 ·rw[Zh2 q']
  exact⟨fun q=>h1 (by omega),fun q=>h2 (by omega)⟩
theorem ZqN(hn:n≤100)(hk:k≤7000)(hM:0<M)(bM:Bd k M)(hR:∀t,t<n→RB M k (R t))(hd:∀i,i<n+1→G i i=some 0): Pk (Zjl [ZZ (n+1) G,ZaI n R]) fun t=>(t=ZZ (n+1) (ZaK G R)∧¬Zdl n G R)∨(t=.none∧Zdl n G R):=by
 unfold Zjl Zng
 have hF:=Zc6 hR
 have hlz:=ZhM (fun i hi=>(hF i hi).1) hd
 have hr:ZaI n R=.lst (tab n fun i=>ZQ (R i)):=rfl
 rw[hr]
 walk_at "zz"
 rw[ZmW]
 refine Zk1 (n:=n+1) (G:=G) (by omega) ?_ ?_
 ·walk_at "zz"
  rfl
 walk_at "zz"
 refine Za6 (n:=n+1) (a:=fun i=>.int i) (P:=fun i σ=>∃F,σ 0=some (ZZ (n+1) G)∧σ 2=some (.lst (tab (n+1) fun i=>ZQ (ZK R i)))∧σ 3=some (ZZ (n+1) F)∧Zfg n G R F i 0) ?_ ⟨G,by walk_at "zr",by walk_at "zr",by walk_at "zr",fun a b _ _=>⟨fun q=>by omega,fun _=>rfl⟩⟩ ?_ ?_
 ·walk_at "zz"
  rfl
 ·rintro i σ hi ⟨F,e0,e2,e3,lt⟩
  refine Za6 (n:=n+1) (a:=fun i=>.int i) (P:=fun j σ=>∃F,σ 0=some (ZZ (n+1) G)∧σ 2=some (.lst (tab (n+1) fun i=>ZQ (ZK R i)))∧σ 3=some (ZZ (n+1) F)∧σ 4=some (.int i)∧Zfg n G R F i j) ?_ ⟨F,by walk_at "zr",by walk_at "zr",by walk_at "zr",by walk_at "zr",lt⟩ ?_ ?_
  ·walk_at "zz"
   rfl
  ·rintro j σ hj ⟨F,e0,e2,e3,e4,lt⟩
   have hi1:=hF i hi
   have hj1:=hF j hj
   have lw:=Zvm (G:=G) hi1.1 hj1.1
   have f0:σ 0=some (.lst (tab (n+1) fun i=>.lst (tab (n+1) fun j=>oT (G i j)))):=e0
   have f3:σ 3=some (.lst (tab (n+1) fun i=>.lst (tab (n+1) fun j=>oT (F i j)))):=e3
   have eqi:ZQ (ZK R i)=.tup [.int (ZK R i).1,.int (ZK R i).2]:=rfl
   have eqj:ZQ (ZK R j)=.tup [.int (ZK R j).1,.int (ZK R j).2]:=rfl
   clear e0 e3
   walk_at "zz"
   rw[eqi]
   walk_at "zz"
   rw[eqj]
   walk_at "zz"
   refine ZJ (ZnM (ZbL (hi1.bd hM bM).1 (by omega)) (ZbL (hj1.bd hM bM).1 (by omega))) ?_
   walk_at "zz"
   rw[eqi]
   walk_at "zz"
   rw[eqj]
   walk_at "zz"
   have hm0:(0:Int)≤((Int.gcd (ZK R i).1 (ZK R j).1:Nat):Int):=by omega
   generalize ((Int.gcd (ZK R i).1 (ZK R j).1:Nat):Int)=m at *
   generalize (ZK R i).2-(ZK R j).2=r at *
   refine⟨fun c=>?_,fun c=>⟨fun h=>(nomatch h),fun _=>?_⟩⟩
   ·have cne:(i:Int)≠j:=of_decide_eq_true c
    by_cases cm:m=0
    ·rw[if_pos cm]at lw
     walk_at "zz"
     cases hg:G i j with
     | none=>
      rw[hg]at lw
      rw[Zbq]
      walk_at "zz"
      rw[←ZaE (c:=r),Ze6]
      exact⟨_,by walk_at "zr",by walk_at "zr",by walk_at "zr",by walk_at "zr",ZlC lt lw⟩
     | some b=>
      rw[hg]at lw
      rw[ZaE]
      walk_at "zz"
      by_cases cb:b<r
      ·walk_at "zz"
       refine .inr ⟨rfl,i,j,hi,hj,b,hg,?_⟩
       rw[lw]
       exact if_neg (by omega)
      ·walk_at "zz"
       rw[←ZaE (c:=r),Ze6]
       exact⟨_,by walk_at "zr",by walk_at "zr",by walk_at "zr",by walk_at "zr",ZlC lt (by rw[lw];exact if_pos (by omega))⟩
    ·rw[if_neg cm]at lw
     walk_at "zz"
     cases hg:G i j with
     | none=>
      rw[hg]at lw
      rw[Zbq]
      walk_at "zz"
      exact⟨F,by walk_at "zr",by walk_at "zr",by walk_at "zr",by walk_at "zr",ZnS lt (by rw[hg,lw])⟩
     | some b=>
      rw[hg]at lw
      rw[ZaE]
      walk_at "zz"
      rw[Int.fmod_eq_emod_of_nonneg _ hm0]
      walk_at "zz"
      rw[←ZaE (c:=b-(b-r) % m),Ze6]
      exact⟨_,by walk_at "zr",by walk_at "zr",by walk_at "zr",by walk_at "zr",ZlC lt lw⟩
   ·have ceq:i=j:=by
     have:=of_decide_eq_false c
     omega
    walk_at "zz"
    subst ceq
    exact⟨F,by walk_at "zr",by walk_at "zr",by walk_at "zr",by walk_at "zr",ZnS lt (by rw[hd _ hi,hlz _ hi])⟩
  ·rintro σ ⟨F,e0,e2,e3,e4,lt⟩
   exact⟨F,e0,e2,e3,fun a b ha hb=>⟨fun q=>(lt a b ha hb).1 (by omega),fun q=>(lt a b ha hb).2 (by omega)⟩⟩
 ·rintro σ ⟨F,e0,e2,e3,lt⟩
  walk_at "zz"
  refine .inl ⟨?_,?_⟩
  ·unfold ZZ Zaf
   congr 1
   refine Za2 fun a ha=>?_
   congr 1
   refine Za2 fun b hb=>?_
   rw[((lt a b ha hb).1 (by omega)).1]
  ·rintro⟨a,b,ha,hb,c,hc,e⟩
   exact((lt a b ha hb).1 (by omega)).2 c hc e
noncomputable def ZbU(G:Nat→Nat→Option Int): Nat→List Nat→Nat→Option Int
 | i,[],j=>G i j
 | i,k::l,j=>addO (G i k) (ZbU G k l j)
theorem ZcN(G:Nat→Nat→Option Int): ∀(i:Nat) (l1:List Nat) (k:Nat) (l2:List Nat) (j:Nat),ZbU G i (l1++k::l2) j=addO (ZbU G i l1 k) (ZbU G k l2 j)
 | i,[],k,l2,j=>rfl
 | i,a::l1,k,l2,j=>by
  show addO (G i a) (ZbU G a (l1++k::l2) j)=addO (addO (G i a) (ZbU G a l1 k)) (ZbU G k l2 j)
  rw[ZcN G a l1 k l2 j,ZfM]
theorem ZoK{n:Nat}{G C:Nat→Nat→Option Int}(hle:∀i j,i<n→j<n→leO (C i j) (G i j))(tri:∀k i j,k<n→i<n→j<n→leO (C i j) (addO (C i k) (C k j))): ∀(l:List Nat) (i j:Nat),(∀a∈l,a<n)→i<n→j<n→leO (C i j) (ZbU G i l j)
 | [],i,j,_,hi,hj=>hle i j hi hj
 | k::l,i,j,hl,hi,hj=>by
  have hk:=hl k Zz5
  exact Zb8 (tri k i j hk hi hj) (ZeM (hle i k hi hk) (ZoK hle tri l k j (fun a m=>hl a (Zz2 _ m)) hk hj))
theorem Zgt{n:Nat}{G:Nat→Nat→Option Int}: ∀(m:Nat),m≤n→∀i j c,Z2 G m i j=some c→∃l:List Nat,(∀a∈l,a<n)∧ZbU G i l j=some c
 | 0,_,i,j,c,h=>⟨[],by simp,h⟩
 | m+1,hm,i,j,c,h=>by
  rcases Zek (Z2 G m i j) (addO (Z2 G m i m) (Z2 G m m j))with e | e
  ·rw[show Z2 G (m+1) i j=_ from e]at h
   exact Zgt (n:=n) m (by omega) i j c h
  ·rw[show Z2 G (m+1) i j=_ from e]at h
   obtain⟨p,q,h1,h2,h3⟩:=addO_some.mp h
   obtain⟨l1,a1,b1⟩:=Zgt (n:=n) m (by omega) i m p h1
   obtain⟨l2,a2,b2⟩:=Zgt (n:=n) m (by omega) m j q h2
   refine⟨l1++m::l2,fun a ha=>?_,by rw[ZcN,b1,b2];simp[addO,h3]⟩
   rcases Zz8.mp ha with ha | ha
   ·exact a1 a ha
   ·rcases Zz7.mp ha with rfl | ha
    ·omega
    ·exact a2 a ha
theorem ZlD: ∀(n:Nat) (l:List Nat),l.Nodup→(∀a∈l,a<n)→l.length≤n
 | 0,l,_,h=>by
  cases l with
  | nil=>simp
  | cons a l=>exact absurd (h a Zz5) (by omega)
 | n+1,l,hn,h=>by
  have h1:=ZlD n (l.erase n) (hn.erase n) fun a ha=>by
   have ha':=List.mem_of_mem_erase ha
   have:=h a ha'
   have hne:a≠n:=fun q=>by
    subst q
    exact(List.Nodup.not_mem_erase hn) ha
   omega
  have h2:=List.length_erase_of_mem (a:=n) (l:=l)
  by_cases q:n∈l
  ·have:=h2 q;have:0<l.length:=List.length_pos_of_mem q;omega
  ·rw[List.erase_of_not_mem q]at h1;omega
theorem ZlE: ∀(l:List Nat),¬l.Nodup→∃k l1 l2 l3,l=l1++k::(l2++k::l3)
 | [],h=>absurd List.nodup_nil h
 | a::l,h=>by
  by_cases q:a∈l
  ·obtain⟨l2,l3,e⟩:=List.append_of_mem q
   exact⟨a,[],l2,l3,by rw[e];rfl⟩
  ·have:¬l.Nodup:=fun n=>h (List.nodup_cons.mpr ⟨q,n⟩)
   obtain⟨k,l1,l2,l3,e⟩:=ZlE l this
   exact⟨k,a::l1,l2,l3,by rw[e];rfl⟩
theorem Zvn(pos:∀k l s,k<n→(∀a∈l,a<n)→ZbU G k l k=some s→0≤s)(hi:i<n)(hj:j<n): ∀(L:Nat) (l:List Nat) (s:Int),l.length=L→(∀a∈l,a<n)→ZbU G i l j=some s→∃l' s',l'.length+1≤n∧(∀a∈l',a<n)∧ZbU G i l' j=some s'∧s'≤s:=by
 intro L
 induction L using Nat.strongRecOn with
 | _ L ih=>
  intro l s hL hl h
  by_cases q:i∈l
  ·obtain⟨l1,l2,e⟩:=List.append_of_mem q
   subst e
   rw[ZcN]at h
   obtain⟨p,r,h1,h2,h3⟩:=addO_some.mp h
   have hp:=pos i l1 p hi (fun a ha=>hl a (Zz4 _ ha)) h1
   obtain⟨l',s',k1,k2,k3,k4⟩:=ih l2.length (by rw[←hL];simp;omega) l2 r rfl (fun a ha=>hl a (Zz3 _ (Zz2 _ ha))) h2
   exact⟨l',s',k1,k2,k3,by omega⟩
  ·by_cases nd:l.Nodup
   ·have:=ZlD n (i::l) (List.nodup_cons.mpr ⟨q,nd⟩) (fun a ha=>by
     rcases Zz7.mp ha with rfl | ha
     ·exact hi
     ·exact hl a ha)
    exact⟨l,s,by simpa using this,hl,h,by omega⟩
   ·obtain⟨k,l1,l2,l3,e⟩:=ZlE l nd
    subst e
    rw[ZcN]at h
    obtain⟨p,r,h1,h2,h3⟩:=addO_some.mp h
    rw[ZcN]at h2
    obtain⟨p2,r2,h4,h5,h6⟩:=addO_some.mp h2
    have hk:k<n:=hl k (by simp)
    have hp:=pos k l2 p2 hk (fun a ha=>hl a (by simp[ha])) h4
    have h7:ZbU G i (l1++k::l3) j=some (p+r2):=by rw[ZcN,h1,h5];rfl
    obtain⟨l',s',k1,k2,k3,k4⟩:=ih (l1++k::l3).length (by rw[←hL];simp;omega) (l1++k::l3) (p+r2) rfl (fun a ha=>hl a (by simp at ha ⊢;rcases ha with h | h | h <;> simp[h])) h7
    exact⟨l',s',k1,k2,k3,by omega⟩
theorem Zsl: ∀(L:Nat) (i:Nat) (l:List Nat) (s:Int),l.length=L→i<n→(∀a∈l,a<n)→ZbU G i l i=some s→s<0→∃i' l' s',l'.length+1≤n∧i'<n∧(∀a∈l',a<n)∧ZbU G i' l' i'=some s'∧s'<0:=by
 intro L
 induction L using Nat.strongRecOn with
 | _ L ih=>
  intro i l s hL hi hl h hs
  by_cases q:i∈l
  ·obtain⟨l1,l2,e⟩:=List.append_of_mem q
   subst e
   rw[ZcN]at h
   obtain⟨p,r,h1,h2,h3⟩:=addO_some.mp h
   by_cases hp:p<0
   ·exact ih l1.length (by rw[←hL];simp) i l1 p rfl hi (fun a ha=>hl a (Zz4 _ ha)) h1 hp
   ·exact ih l2.length (by rw[←hL];simp;omega) i l2 r rfl hi (fun a ha=>hl a (Zz3 _ (Zz2 _ ha))) h2 (by omega)
  ·by_cases nd:l.Nodup
   ·have:=ZlD n (i::l) (List.nodup_cons.mpr ⟨q,nd⟩) (fun a ha=>by
     rcases Zz7.mp ha with rfl | ha
     ·exact hi
     ·exact hl a ha)
    exact⟨i,l,s,by simpa using this,hi,hl,h,hs⟩
   ·obtain⟨k,l1,l2,l3,e⟩:=ZlE l nd
    subst e
    rw[ZcN]at h
    obtain⟨p,r,h1,h2,h3⟩:=addO_some.mp h
    rw[ZcN]at h2
    obtain⟨p2,r2,h4,h5,h6⟩:=addO_some.mp h2
    have hk:k<n:=hl k (by simp)
    by_cases hp:p2<0
    ·exact ih l2.length (by rw[←hL];simp;omega) k l2 p2 rfl hk (fun a ha=>hl a (by simp[ha])) h4 hp
    ·have h7:ZbU G i (l1++k::l3) i=some (p+r2):=by rw[ZcN,h1,h5];rfl
     exact ih (l1++k::l3).length (by rw[←hL];simp;omega) i (l1++k::l3) (p+r2) rfl hi (fun a ha=>hl a (by simp at ha ⊢;rcases ha with h | h | h <;> simp[h])) h7 (by omega)
noncomputable def Zex(n r:Nat)(G D:Nat→Nat→Option Int): Prop:=(∀i j,i<n→j<n→∀c,D i j=some c→∃l:List Nat,(∀a∈l,a<n)∧ZbU G i l j=some c)∧∀(l:List Nat) i j,l.length+1≤r→(∀a∈l,a<n)→i<n→j<n→leO (D i j) (ZbU G i l j)
theorem Zt7: Zex n 1 G G:=⟨fun i j _ _ c h=>⟨[],by simp,h⟩,fun l i j h _ _ _=>by
 have:l=[]:=List.length_eq_zero_iff.mp (by omega)
 subst this
 exact Zcw⟩
noncomputable def Zqc(n:Nat)(D D':Nat→Nat→Option Int): Prop:=∀i j,i<n→j<n→leO (D' i j) (D i j)∧(∀k,k<n→leO (D' i j) (addO (D i k) (D k j)))∧(D' i j=D i j∨∃k,k<n∧D' i j=addO (D i k) (D k j))
theorem Zsm{D':Nat→Nat→Option Int}(h:Zex n r G D)(t:Zqc n D D'): Zex n (2*r) G D':=by
 refine⟨fun i j hi hj c e=>?_,fun l i j hl ha hi hj=>?_⟩
 ·obtain⟨_,_,e1 | ⟨k,hk,e1⟩⟩:=t i j hi hj
  ·rw[e1]at e;exact h.1 i j hi hj c e
  ·rw[e1]at e
   obtain⟨p,q,h1,h2,h3⟩:=addO_some.mp e
   obtain⟨l1,a1,b1⟩:=h.1 i k hi hk p h1
   obtain⟨l2,a2,b2⟩:=h.1 k j hk hj q h2
   refine⟨l1++k::l2,fun a ha=>?_,by rw[ZcN,b1,b2];simp[addO,h3]⟩
   rcases Zz8.mp ha with ha | ha
   ·exact a1 a ha
   ·rcases Zz7.mp ha with rfl | ha
    ·exact hk
    ·exact a2 a ha
 ·obtain⟨t1,t2,_⟩:=t i j hi hj
  by_cases q:l.length+1≤r
  ·exact Zb8 t1 (h.2 l i j q ha hi hj)
  ·have hr:1≤r:=by omega
   have hlt:r-1<l.length:=by omega
   obtain⟨k,l1,l2,e,hl1⟩:∃k l1 l2,l=l1++k::l2∧l1.length=r-1:=⟨l[r-1],l.take (r-1),l.drop r,by
    have e1:=(List.take_append_drop (r-1) l).symm
    rw[List.drop_eq_getElem_cons hlt,show r-1+1=r by omega]at e1
    exact e1,by simp;omega⟩
   subst e
   have hk:k<n:=ha k (by simp)
   rw[ZcN]
   refine Zb8 (t2 k hk) (ZeM (h.2 l1 i k (by omega) (fun a m=>ha a (Zz4 _ m)) hi hk) (h.2 l2 k j ?_ (fun a m=>ha a (Zz3 _ (Zz2 _ m))) hk hj))
   simp at hl
   omega
theorem Zsn(hd:∀i,i<n→G i i=some 0)(hr:n≤r)(b:Zex n r G D)(nn:∀m,m<n→¬Neg n (Z2 G (m+1))): ∀i j,i<n→j<n→D i j=Z2 G n i j:=by
 intro i j hi hj
 have low:=ZoK (n:=n) (G:=G) (C:=Z2 G n) (fun i j _ _=>ZgC n i j) (fun k i j hk hi hj=>ZmK hd n (by omega) nn k hk i j hi hj)
 have zero:=Zel hd (m:=n) nn
 have pos:∀k l s,k<n→(∀a∈l,a<n)→ZbU G k l k=some s→0≤s:=fun k l s hk hl e=>by
  have:=low l k k hl hk hk
  rw[zero k hk,e]at this
  exact leO_some.mp this
 refine Zrj ?_ ?_
 ·intro c e
  obtain⟨l,h1,h2⟩:=Zgt n (Zz10 n) i j c e
  obtain⟨l',s',k1,k2,k3,k4⟩:=Zvn pos hi hj _ l c rfl h1 h2
  have:=b.2 l' i j (by omega) k2 hi hj
  rw[k3]at this
  obtain⟨x,e1,e2⟩:=this s' rfl
  exact⟨x,e1,by omega⟩
 ·intro c e
  obtain⟨l,h1,h2⟩:=b.1 i j hi hj c e
  have:=low l i j h1 hi hj
  rw[h2]at this
  exact this c rfl
theorem Ztc(hr:n≤r)(b:Zex n r G D)(hm:m<n)(ng:Neg n (Z2 G (m+1))): Neg n D:=by
 obtain⟨i,hi,c,e,hc⟩:=ng
 obtain⟨l,h1,h2⟩:=Zgt (n:=n) (m+1) (by omega) i i c e
 obtain⟨i',l',s',k1,k2,k3,k4,k5⟩:=Zsl _ i l c rfl hi h1 h2 hc
 have:=b.2 l' i' i' (by omega) k3 k2 k2
 rw[k4]at this
 obtain⟨x,e1,e2⟩:=this s' rfl
 exact⟨i',k2,x,e1,by omega⟩
noncomputable def Zdw(n:Nat)(D F:Nat→Nat→Option Int)(done:Nat→Nat→Nat→Prop): Prop:=∀a b,a<n→b<n→leO (F a b) (D a b)∧(F a b=D a b∨∃k,k<n∧F a b=addO (D a k) (D k b))∧∀k,k<n→done a b k→leO (F a b) (addO (D a k) (D k b))
theorem ZlF(h:Zdw n D F done)(hd:∀a b c,c<n→done' a b c→done a b c∨(a=i∧b=j∧c=k))(hl:leO (F i j) (addO (D i k) (D k j))): Zdw n D F done':=fun a b ha hb=>by
 obtain⟨h1,h2,h3⟩:=h a b ha hb
 refine⟨h1,h2,fun c hc q=>?_⟩
 rcases hd a b c hc q with q | ⟨rfl,rfl,rfl⟩
 ·exact h3 c hc q
 ·exact hl
theorem Zt8(h:Zdw n D F done)(hi:i<n)(hj:j<n)(hk:k<n)(hd:∀a b c,c<n→done' a b c→done a b c∨(a=i∧b=j∧c=k))(hl:leO (addO (D i k) (D k j)) (F i j)): Zdw n D (ZcA F i j (addO (D i k) (D k j))) done':=fun a b ha hb=>by
 by_cases q:a=i∧b=j
 ·obtain⟨rfl,rfl⟩:=q
  obtain⟨h1,h2,h3⟩:=h a b ha hb
  rw[Zh1]
  refine⟨Zb8 hl h1,.inr ⟨k,hk,rfl⟩,fun c hc q=>?_⟩
  rcases hd a b c hc q with q | ⟨_,_,rfl⟩
  ·exact Zb8 hl (h3 c hc q)
  ·exact Zcw
 ·rw[Zh2 q]
  obtain⟨h1,h2,h3⟩:=h a b ha hb
  refine⟨h1,h2,fun c hc q'=>?_⟩
  rcases hd a b c hc q' with q' | ⟨rfl,rfl,_⟩
  ·exact h3 c hc q'
  ·exact absurd ⟨rfl,rfl⟩ q
theorem ZfV(h:Zdw n D F done)(hd:∀a b c,a<n→b<n→c<n→done' a b c→done a b c): Zdw n D F done':=fun a b ha hb=>by
 obtain⟨h1,h2,h3⟩:=h a b ha hb
 exact⟨h1,h2,fun c hc q=>h3 c hc (hd a b c ha hb hc q)⟩
theorem Zso(h:Zdw n D F fun _ _ _=>True): Zqc n D F:=fun a b ha hb=>by
 obtain⟨h1,h2,h3⟩:=h a b ha hb
 exact⟨h1,fun k hk=>h3 k hk trivial,h2⟩
theorem Zq5(h0:0<n)(hn:n≤100)(hd:∀i,i<n→G i i=some 0): Pk (Zfn [ZZ n G]) fun t=>∃r D,n≤r∧Zex n r G D∧((t=ZZ n D∧¬Neg n D)∨(t=.none∧Neg n D)):=by
 unfold Zfn Zm7
 have hg:ZZ n G=.lst (tab n fun i=>Zaf n (G i)):=rfl
 walk_at "zz"
 rw[hg]
 walk_at "zz"
 refine Zk1 (n:=n) (G:=G) (by omega) ?_ ?_
 ·walk_at "zz"
  rfl
 walk_at "zz"
 refine ZeO (fun m σ=>∃(r:Nat) (D:Nat→Nat→Option Int),σ 1=some (.int n)∧σ 2=some (ZZ n D)∧σ 3=some (.int r)∧Zex n r G D∧1≤r∧r≤2*n∧m=2*n-r) _ _ ?_ 1000000 (m:=2*n-1) ⟨1,G,by walk_at "zr",by walk_at "zr",by walk_at "zr",Zt7,by omega,by omega,rfl⟩ (by omega)
 rintro m σ ⟨r,D,e1,e2,e3,bs,r1,r2,rfl⟩
 have hdD:∀i,i<n→∃b,D i i=some b:=fun i hi=>by
  have:=bs.2 [] i i (by simpa using r1) (by simp) hi hi
  rw[show ZbU G i [] i=some 0 from hd i hi]at this
  obtain⟨x,e,_⟩:=this 0 rfl
  exact⟨x,e⟩
 walk_at "zz"
 refine⟨fun c=>?_,fun c=>?_⟩
 ·have hrn:r<n:=by simpa using c
  walk_at "zz"
  refine Zk1 (n:=n) (G:=D) (by omega) ?_ ?_
  ·walk_at "zz"
   rfl
  walk_at "zz"
  refine Za6 (n:=n) (a:=fun i=>.int i) (P:=fun i σ=>∃F,σ 1=some (.int n)∧σ 2=some (ZZ n F)∧σ 3=some (.int r)∧σ 4=some (ZZ n D)∧Zdw n D F fun a _ _=>a<i) ?_ ⟨D,by walk_at "zr",by walk_at "zr",by walk_at "zr",by walk_at "zr",fun a b _ _=>⟨Zcw,.inl rfl,fun k _ q=>by omega⟩⟩ ?_ ?_
  ·walk_at "zz"
   rfl
  ·rintro i σ hi ⟨F0,f1,f2,f3,f4,pt⟩
   refine Za6 (n:=n) (a:=fun i=>.int i) (P:=fun j σ=>∃F,σ 1=some (.int n)∧σ 2=some (ZZ n F)∧σ 3=some (.int r)∧σ 4=some (ZZ n D)∧σ 5=some (.int i)∧Zdw n D F fun a b _=>a<i∨(a=i∧b<j)) ?_ ⟨F0,by walk_at "zr",by walk_at "zr",by walk_at "zr",by walk_at "zr",by walk_at "zr",ZfV pt fun a b c _ _ _ q=>by omega⟩ ?_ ?_
   ·walk_at "zz"
    rfl
   ·rintro j σ hj ⟨F1,f1,f2,f3,f4,f5,pt⟩
    refine Za6 (n:=n) (a:=fun i=>.int i) (P:=fun k σ=>∃F,σ 1=some (.int n)∧σ 2=some (ZZ n F)∧σ 3=some (.int r)∧σ 4=some (ZZ n D)∧σ 5=some (.int i)∧σ 6=some (.int j)∧Zdw n D F fun a b c=>a<i∨(a=i∧(b<j∨(b=j∧c<k)))) ?_ ⟨F1,by walk_at "zr",by walk_at "zr",by walk_at "zr",by walk_at "zr",by walk_at "zr",by walk_at "zr",ZfV pt fun a b c _ _ _ q=>by omega⟩ ?_ ?_
    ·walk_at "zz"
     rfl
    ·rintro k σ hk ⟨F,f1,f2,f3,f4,f5,f6,pt⟩
     have hdn:∀a b c,c<n→(a<i∨(a=i∧(b<j∨(b=j∧c<k+1))))→(a<i∨(a=i∧(b<j∨(b=j∧c<k))))∨(a=i∧b=j∧c=k):=fun a b c _ q=>by omega
     have f2':=f2
     unfold ZZ Zaf at f2 f4
     walk_at "zz"
     cases hik:D i k with
     | none=>
      rw[Zbq]
      walk_at "zz"
      exact⟨F,by walk_at "zr",by walk_at "zr",by walk_at "zr",by walk_at "zr",by walk_at "zr",by walk_at "zr",ZlF pt hdn (by rw[hik];exact Zef)⟩
     | some p=>
      rw[ZaE]
      walk_at "zz"
      cases hkj:D k j with
      | none=>
       rw[Zbq]
       walk_at "zz"
       exact⟨F,by walk_at "zr",by walk_at "zr",by walk_at "zr",by walk_at "zr",by walk_at "zr",by walk_at "zr",ZlF pt hdn (by rw[hik,hkj];exact Zef)⟩
      | some q=>
       rw[ZaE]
       walk_at "zz"
       rw[hik,hkj,ZaE,ZaE]
       have hs:addO (D i k) (D k j)=some (p+q):=by rw[hik,hkj];rfl
       have hset:=Zt8 pt hi hj hk hdn
       have hkeep:=ZlF pt hdn
       rw[hs]at hset hkeep
       clear f2'
       walk_at "zz"
       cases hij:F i j with
       | none=>
        rw[Zbq]
        walk_at "zz"
        rw[←ZaE (c:=p+q),Ze6]
        exact⟨_,by walk_at "zr",by walk_at "zr",by walk_at "zr",by walk_at "zr",by walk_at "zr",by walk_at "zr",hset (by rw[hij];exact Zef)⟩
       | some g=>
        rw[ZaE]
        walk_at "zz"
        rw[hij,ZaE]
        walk_at "zz"
        by_cases hlt:p+q<g
        ·walk_at "zz"
         rw[←ZaE (c:=p+q),Ze6]
         exact⟨_,by walk_at "zr",by walk_at "zr",by walk_at "zr",by walk_at "zr",by walk_at "zr",by walk_at "zr",hset (by rw[hij];exact leO_some.mpr (by omega))⟩
        ·walk_at "zz"
         exact⟨F,by walk_at "zr",by walk_at "zr",by walk_at "zr",by walk_at "zr",by walk_at "zr",by walk_at "zr",hkeep (by rw[hij];exact leO_some.mpr (by omega))⟩
    ·rintro σ ⟨F,f1,f2,f3,f4,f5,f6,pt⟩
     exact⟨F,f1,f2,f3,f4,f5,ZfV pt fun a b c _ _ hc q=>by omega⟩
   ·rintro σ ⟨F,f1,f2,f3,f4,f5,pt⟩
    exact⟨F,f1,f2,f3,f4,ZfV pt fun a b c _ hb _ q=>by omega⟩
  ·rintro σ ⟨F,f1,f2,f3,f4,pt⟩
   walk_at "zz"
   refine Zpi (by decide) (by decide) ?_
   walk_at "zz"
   exact⟨2*n-2*r,by omega,2*r,F,by walk_at "zr",by walk_at "zr",by rw[show((2*r:Nat):Int)=2*(r:Int)by omega];walk_at "zr",Zsm bs (Zso (ZfV pt fun a b c ha _ _ _=>ha)),by omega,by omega,rfl⟩
 ·have hrn:n≤r:=by simp at c;omega
  refine Zgk ?_
  refine Za6 (n:=n) (a:=fun i=>.int i) (P:=fun i σ=>σ 2=some (ZZ n D)∧∀a,a<i→∀b,D a a=some b→0≤b) ?_ ⟨e2,by omega⟩ ?_ ?_
  ·walk_at "zz"
   rfl
  ·rintro i σ hi ⟨f2,f3⟩
   unfold ZZ Zaf at f2
   obtain⟨b,eb⟩:=hdD i hi
   walk_at "zz"
   rw[eb,ZaE]
   walk_at "zz"
   by_cases hb:b<0
   ·walk_at "zz"
    exact⟨r,D,hrn,bs,.inr ⟨rfl,i,hi,b,eb,hb⟩⟩
   ·walk_at "zz"
    refine⟨by walk_at "zr",fun a ha c hc=>?_⟩
    by_cases q:a=i
    ·subst q;rw[eb]at hc;cases hc;omega
    ·exact f3 a (by omega) c hc
  ·rintro σ ⟨f2,f3⟩
   walk_at "zz"
   refine⟨r,D,hrn,bs,.inl ⟨rfl,?_⟩⟩
   rintro⟨i,hi,b,eb,hb⟩
   have:=f3 i hi b eb
   omega
theorem Zpq(hn:n≤99)(hd:∀i,i<n+1→G i i=some 0): Pk (Zfn [ZZ (n+1) G]) fun t=>(t=ZZ (n+1) (Z2 G (n+1))∧¬Zb7 (n+1) G)∨(t=.none∧Zb7 (n+1) G):=by
 refine(Zq5 (by omega) (by omega) hd).mono ?_
 rintro t ⟨r,D,hr,bs,h⟩
 by_cases hc:Zb7 (n+1) G
 ·obtain⟨m,hm,ng⟩:=hc
  have ng2:=Ztc hr bs hm ng
  rcases h with⟨_,h⟩ | ⟨h,_⟩
  ·exact absurd ng2 h
  ·exact .inr ⟨h,m,hm,ng⟩
 ·have nn:∀m,m<n+1→¬Neg (n+1) (Z2 G (m+1)):=fun m hm q=>hc ⟨m,hm,q⟩
  have same:=Zsn hd hr bs nn
  have hz:=Zel hd nn
  rcases h with⟨h,_⟩ | ⟨_,i,hi,b,e,hb⟩
  ·refine .inl ⟨?_,hc⟩
   rw[h]
   unfold ZZ Zaf
   congr 1
   refine Za2 fun i hi=>?_
   congr 1
   refine Za2 fun j hj=>?_
   rw[same i j hi hj]
  ·rw[same i i hi hi,hz i hi]at e
   cases e
   omega
theorem Zrm(hn:n≤99)(hk:k+2*n+4≤7000)(hM:0<M)(bM:Bd k M)(hd:∀i,i<n+1→G i i=some 0)(bG:BdG (n+1) k G)(hR:∀t,t<n→RB M k (R t)): Pk (ZcK [ZE n G R]) fun t=>(∃G2 R2,t=ZE n G2 R2∧Sharp n G R G2 R2 M (k+2*n+5))∨(t=.none∧ZeN n G R M (k+n+2)):=by
 unfold ZcK Zj6
 have ht:ZE n G R=.tup [ZZ (n+1) G,ZaI n R]:=rfl
 have hg:∀G,ZZ (n+1) G=.lst (tab (n+1) fun i=>Zaf (n+1) (G i)):=fun _=>rfl
 have hr:∀R,ZaI n R=.lst (tab n fun i=>ZQ (R i)):=fun _=>rfl
 rw[ht]
 walk_at "zz"
 refine(Zpq hn hd).mono ?_
 rintro t (⟨rfl,nr⟩ | ⟨rfl,h⟩)
 ·rw[hg (Z2 G (n+1))]
  walk_at "zz"
  rw[←hg (Z2 G (n+1))]
  refine(Znj (k:=k+n+1) (by omega) (by omega) hM (bM.mono (by omega)) (Zd2 bG (n+1) (by omega)) (fun t ht=>(hR t ht).mono (by omega))).mono ?_
  rintro t (⟨R1,rfl,h1⟩ | ⟨rfl,h⟩)
  ·have hR1:∀t,t<n→RB M (k+n+2) (R1 t):=fun t ht=>(h1 t ht).1
   have hF1:=Zc6 hR1
   have z1:=Zel hd (m:=n+1) fun m hm q=>nr ⟨m,hm,q⟩
   rw[hr R1]
   walk_at "zz"
   rw[←hr R1]
   refine(ZqN (k:=k+n+2) (by omega) (by omega) hM (bM.mono (by omega)) hR1 z1).mono ?_
   rintro t (⟨rfl,nl⟩ | ⟨rfl,fl⟩)
   ·have bG1:BdG (n+1) (k+n+3) (ZaK (Z2 G (n+1)) R1):=ZmL hM (bM.mono (by omega)) (fun a b c ha hb e=>(Zd2 bG (n+1) (by omega) a b c ha hb e).mono (by omega)) hR1
    have z2:=ZhM (fun i hi=>(hF1 i hi).1) z1
    rw[hg (ZaK (Z2 G (n+1)) R1)]
    walk_at "zz"
    rw[←hg (ZaK (Z2 G (n+1)) R1)]
    refine(Zpq hn z2).mono ?_
    rintro t (⟨rfl,nr2⟩ | ⟨rfl,h2⟩)
    ·rw[hg (Z2 (ZaK (Z2 G (n+1)) R1) (n+1))]
     walk_at "zz"
     rw[←hg (Z2 (ZaK (Z2 G (n+1)) R1) (n+1))]
     refine(Znj (k:=k+n+3+n+1) (by omega) (by omega) hM (bM.mono (by omega)) (fun a b c ha hb e=>Zd2 bG1 (n+1) (by omega) a b c ha hb e) (fun t ht=>(hR1 t ht).mono (by omega))).mono ?_
     rintro t (⟨R2,rfl,h2⟩ | ⟨rfl,h2⟩)
     ·rw[hr R2]
      walk_at "zz"
      exact .inl ⟨_,R2,rfl,⟨R1,nr,h1.mono (by omega),nl,nr2,rfl,h2.mono (by omega)⟩⟩
     ·walk_at "zz"
      exact .inr ⟨rfl,.inr (.inr ⟨R1,nr,h1,.inr ⟨nl,.inr ⟨nr2,h2⟩⟩⟩)⟩
    ·walk_at "zz"
     exact .inr ⟨rfl,.inr (.inr ⟨R1,nr,h1,.inr ⟨nl,.inl h2⟩⟩)⟩
   ·walk_at "zz"
    exact .inr ⟨rfl,.inr (.inr ⟨R1,nr,h1,.inl fl⟩)⟩
  ·walk_at "zz"
   exact .inr ⟨rfl,.inr (.inl ⟨nr,h⟩)⟩
 ·walk_at "zz"
  exact .inr ⟨rfl,.inl h⟩
theorem ZqO: ZcK [.none]=some .none:=by
 apply Pk.eq
 unfold ZcK Zj6
 walk_at "zz"
 rfl
noncomputable def SameG(n:Nat)(A B:Nat→Nat→Option Int): Prop:=∀i j,i<n→j<n→A i j=B i j
theorem Zh4{n:Nat}{A B:Nat→Nat→Option Int}(h:SameG n A B): ∀m,m≤n→SameG n (Z2 A m) (Z2 B m)
 | 0,_=>h
 | m+1,hm=>fun i j hi hj=>by
  have ih:=Zh4 h m (by omega)
  show Zbx (Z2 A m i j) (addO (Z2 A m i m) (Z2 A m m j))=Zbx (Z2 B m i j) (addO (Z2 B m i m) (Z2 B m m j))
  rw[ih i j hi hj,ih i m hi (by omega),ih m j (by omega) hj]
theorem Ztd(h:SameG n A B)(r:Zb7 n A): Zb7 n B:=by
 obtain⟨m,hm,i,hi,b,e,hb⟩:=r
 exact⟨m,hm,i,hi,b,by rw[←Zh4 h (m+1) (by omega) i i hi hi];exact e,hb⟩
noncomputable def SameR(n:Nat)(R S:Nat→Int×Int): Prop:=∀t,t<n→R t=S t
theorem ZhA(h:SameR n R S): ∀i,i<n+1→ZK R i=ZK S i
 | 0,_=>rfl
 | i+1,hi=>h i (by omega)
theorem Zl0(h:SameG (n+1) A B)(hr:SameR n R S): SameG (n+1) (ZaK A R) (ZaK B S):=fun i j hi hj=>by
 unfold ZaK Zbe
 rw[h i j hi hj,ZhA hr i hi,ZhA hr j hj]
theorem Zrn(h:SameG (n+1) A B)(hr:SameR n R S)(q:Zdl n A R): Zdl n B S:=by
 obtain⟨i,j,hi,hj,b,e,l⟩:=q
 exact⟨i,j,hi,hj,b,by rw[←h i j hi hj];exact e,by rw[←Zl0 h hr i j hi hj];exact l⟩
theorem ZjI(h:SameG (n+1) A B)(hr:SameR n R S)(hi:i<n+1){x:Int}(q:ZcC n A R i (n+1) x): ZcC n B S i (n+1) x:=by
 refine⟨by rw[←ZhA hr i hi];exact q.1,fun j hj a b ha hb hab=>?_⟩
 rw[←ZhA hr j hj]
 exact q.2 j hj a b (by rw[h i j hi hj];exact ha) (by rw[h j i hj hi];exact hb) hab
theorem SameG.symm(h:SameG n A B): SameG n B A:=fun i j hi hj=>(h i j hi hj).symm
theorem SameR.symm{A B:Nat→Int×Int}(h:SameR n A B): SameR n B A:=fun i hi=>(h i hi).symm
theorem ZlG{S':Nat→Int×Int}(h:SameG (n+1) A B)(hr:SameR n R S)(a:Hand n A R R' M k)(b:Hand n B S S' M' k'): SameR n R' S':=fun t ht=>
 ZfC (a t ht).1.1 (b t ht).1.1 fun x=>((a t ht).2 x).trans (Iff.trans ⟨ZjI h hr (by omega),ZjI h.symm hr.symm (by omega)⟩ ((b t ht).2 x).symm)
theorem Zog(h:SameG (n+1) A B)(hr:SameR n R S)(a:Hand n A R R' M k): ¬ZeR n B S:=by
 rintro⟨i,hi,q⟩
 exact q _ (ZjI h hr (by omega) (((a i hi).2 _).mp (a i hi).1.1.self))
theorem ZeG: SameG n A A:=fun _ _ _ _=>rfl
theorem Zk4{A:Nat→Int×Int}: SameR n A A:=fun _ _=>rfl
theorem Zte(h:SameG (n+1) A B)(hr:SameR n R S): ZE n A R=ZE n B S:=by
 unfold ZE ZZ ZaI Zaf
 have e1:(tab (n+1) fun i=>T.lst (tab (n+1) fun j=>oT (A i j)))=tab (n+1) fun i=>T.lst (tab (n+1) fun j=>oT (B i j)):=Za2 fun i hi=>by
  congr 1
  exact Za2 fun j hj=>by rw[h i j hi hj]
 have e2:(tab n fun i=>ZQ (R i))=tab n fun i=>ZQ (S i):=Za2 fun i hi=>by rw[hr i hi]
 rw[e1,e2]
theorem Zsp{G2':Nat→Nat→Option Int}{R2':Nat→Int×Int}(a:Sharp n G R G2 R2 M k)(b:Sharp n G R G2' R2' M' k'): ZE n G2 R2=ZE n G2' R2':=by
 obtain⟨R1,a1,a2,a3,a4,rfl,a6⟩:=a.go
 obtain⟨S1,b1,b2,b3,b4,rfl,b6⟩:=b.go
 have r1:=ZlG ZeG Zk4 a2 b2
 have g2:=Zh4 (Zl0 (A:=Z2 G (n+1)) ZeG r1) (n+1) (by omega)
 exact Zte g2 (ZlG g2 r1 a6 b6)
theorem Zoh(a:Sharp n G R G2 R2 M k)(b:ZeN n G R M' k'): False:=by
 obtain⟨R1,a1,a2,a3,a4,rfl,a6⟩:=a.go
 rcases b with b | ⟨_,b⟩ | ⟨S1,b1,b2,b⟩
 ·exact a1 b
 ·exact Zog ZeG Zk4 a2 b
 ·have r1:=ZlG ZeG Zk4 a2 b2
  have g1:=Zl0 (A:=Z2 G (n+1)) ZeG r1
  rcases b with b | ⟨_,b | ⟨_,b⟩⟩
  ·exact a3 (Zrn ZeG r1.symm b)
  ·exact a4 (Ztd g1.symm b)
  ·exact Zog (Zh4 g1 (n+1) (by omega)) r1 a6 b
theorem Zsq{t u:T}(h:(∃G2 R2,t=ZE n G2 R2∧Sharp n G R G2 R2 M (k+2*n+5))∨(t=.none∧ZeN n G R M (k+n+2)))(h':(∃G2 R2,u=ZE n G2 R2∧Sharp n G R G2 R2 M (k+2*n+5))∨(u=.none∧ZeN n G R M (k+n+2))): t=u:=by
 rcases h with⟨A,B,rfl,h⟩ | ⟨rfl,h⟩
 ·rcases h' with⟨C,D,rfl,h'⟩ | ⟨rfl,h'⟩
  ·exact Zsp h h'
  ·exact absurd h' fun q=>Zoh h q
 ·rcases h' with⟨C,D,rfl,h'⟩ | ⟨rfl,h'⟩
  ·exact absurd h fun q=>Zoh h' q
  ·rfl
theorem Zsr(hn:n≤100)(hd:∀i,i<n+1→G i i=some 0)(ok:∀t,t<n→RestOk (R t)): ZfB [ZE n G R,.int n]=some (.bool true):=by
 apply Pk.eq
 unfold ZfB Zj9 ZE ZaI
 walk_at "zz"
 rw[show(n:Int)+1=((n+1:Nat):Int)by omega]
 refine ZJ (Zve (by omega) hd) ?_
 walk_at "zz"
 refine Za6 (n:=n) (a:=fun i=>ZQ (R i)) (P:=fun _ _=>True) ?_ trivial ?_ ?_
 ·walk_at "zz"
  rfl
 ·rintro t σ ht _
  have ho:=ok t ht
  unfold ZQ
  walk_at "zz"
  refine ZJ Zlx ?_
  walk_at "zz"
  refine ZJ Zlx ?_
  walk_at "zz"
  have h0:=ho.nn
  walk_at "zz"
  rcases ho with h | h
  ·walk_at "zz"
   trivial
  ·walk_at "zz"
   trivial
 ·rintro σ _
  walk_at "zz"
  rfl
theorem Zss(hd:∀i,i<n+1→G i i=some 0)(s:Sharp n G R G2 R2 M k): (∀i,i<n+1→G2 i i=some 0)∧∀k,k<n+1→∀i j,i<n+1→j<n+1→leO (G2 i j) (addO (G2 i k) (G2 k j)):=by
 obtain⟨R1,h1,h2,h3,h4,rfl,h6⟩:=s.go
 have hF:=Zc6 fun t ht=>(h2 t ht).1
 have z1:=Zel hd (m:=n+1) fun m hm q=>h1 ⟨m,hm,q⟩
 have z2:=ZhM (fun i hi=>(hF i hi).1) z1
 exact⟨Zel z2 fun m hm q=>h4 ⟨m,hm,q⟩,ZmK z2 (n+1) (by omega) fun m hm q=>h4 ⟨m,hm,q⟩⟩
noncomputable def ZcY(R:Nat→Int×Int): Nat→Int
 | 0=>1
 | t+1=>ZcY R t*(if(R t).1=0 then 1 else(R t).1)
theorem ZhB{n:Nat}{R:Nat→Int×Int}(h:∀t,t<n→RestOk (R t)): ∀m,m≤n→0<ZcY R m
 | 0,_=>by show(0:Int)<1;decide
 | m+1,hm=>by
  have ih:=ZhB h m (by omega)
  have:=(h m (by omega)).nn
  unfold ZcY
  refine Int.mul_pos ih ?_
  split
  ·decide
  ·omega
theorem ZhC{R:Nat→Int×Int}: ∀m t,t<m→(R t).1=0∨(R t).1 ∣ ZcY R m
 | m+1,t,ht=>by
  by_cases z:(R t).1=0
  ·exact .inl z
  ·right
   unfold ZcY
   by_cases q:t=m
   ·subst q
    rw[if_neg z]
    exact Int.dvd_mul_left _ _
   ·exact Int.dvd_trans ((ZhC m t (by omega)).resolve_left z) (Int.dvd_mul_right _ _)
theorem ZhN{n k:Nat}{R:Nat→Int×Int}(hk:1≤k)(h:∀t,t<n→Bd k (R t).1): ∀m,m≤n→Bd (k*m+1) (ZcY R m)
 | 0,_=>by rw[Nat.mul_zero];exact ZgM (by omega)
 | m+1,hm=>by
  have ih:=ZhN hk h m (by omega)
  unfold ZcY
  have h2:Bd k (if(R m).1=0 then 1 else(R m).1):=by
   split
   ·exact ZgM hk
   ·exact h m (by omega)
  have:=Bd.mul ih h2
  rw[Nat.mul_succ]
  exact this.mono (by omega)
inductive Dp: Nat→T→Prop where
 | none {n:Nat}:Dp n .none
 | int {n:Nat} {i:Int}:Dp n (.int i)
 | tup {n:Nat} {ts:List T}:(∀t∈ts,Dp n t)→ts.length≤10000→Dp (n+1) (.tup ts)
 | lst {n:Nat} {ts:List T}:(∀t∈ts,Dp n t)→ts.length≤10000→Dp (n+1) (.lst ts)
theorem Dp.mono{t:T}(h:Dp n t): ∀{m:Nat},n≤m→Dp m t:=by
 induction h with
 | none=>intro m _;exact .none
 | int=>intro m _;exact .int
 | tup hs hl ih=>
  intro m hm
  cases m with
  | zero=>omega
  | succ m=>exact .tup (fun t a=>ih t a (by omega)) hl
 | lst hs hl ih=>
  intro m hm
  cases m with
  | zero=>omega
  | succ m=>exact .lst (fun t a=>ih t a (by omega)) hl
theorem Zpr{F:List T→Option T}(hg:Zaz g σ=some ts)(hl:ts.length≤10000)(h:∀t∈ts,F [t]=some t)(q:Q (.lst ts)): Pk (Zai (Zaz g) (ZX j) Z4 (Zs F (Ze (Za j) Zk)) σ) Q:=by
 refine⟨.lst ts,?_,q⟩
 have:=Zn2 (σ:=σ) (j:=j) (f:=Zs F (Ze (Za j) Zk)) (h:=fun t=>t) (ts:=ts) fun t m=>by
  simp only[Zs,Ze,Za,Zk,ZbX,Option.bind_some,Option.map_some]
  exact h t m
 simp only[Zai,hg,Option.bind_some,this]
 rw[if_pos (by rw[Za5];omega)]
 simp
theorem Zt9{t:T}(h:Dp n t): Zee (n+1) [t]=some t:=by
 induction h with
 | none=>rfl
 | int=>rfl
 | @tup n ts hs hl ih=>
  apply Pk.eq
  show Pk (Z0 1 (ZeY (Zee (n+1))) [.tup ts]) _
  unfold ZeY
  walk_at "zz"
  refine Zpr (ts:=ts) rfl hl ih ?_
  walk_at "zz"
  rfl
 | @lst n ts hs hl ih=>
  apply Pk.eq
  show Pk (Z0 1 (ZeY (Zee (n+1))) [.lst ts]) _
  unfold ZeY
  walk_at "zz"
  exact Zpr (ts:=ts) rfl hl ih rfl
theorem Zua{t:T}(h:Dp 8 t): Zmi [t]=some t:=Zt9 h
theorem ZwS: Dp n (oT a):=by cases a;exact .none;exact .int
theorem Ztf(hn:n≤100)(h:Zax n G R x)(ok:∀t,t<n→RestOk (R t)): Zcr [ZE n G R,ZbG n x]=some (.bool true):=by
 apply Pk.eq
 unfold Zcr Zhj ZE ZZ Zaf ZaI ZbG
 walk_at "zz"
 rw[ZmJ]
 refine Za6 (n:=n+1) (a:=fun i=>.int i) (P:=fun i σ=>σ 0=some (ZE n G R)∧σ 1=some (.lst (tab n fun i=>.int (x i)))∧σ 2=some (.lst (tab (n+1) fun i=>.int (Zaq x i)))) ?_ ⟨by walk_at "zr",by walk_at "zr",by walk_at "zr"⟩ ?_ ?_
 ·walk_at "zz"
  rfl
 ·rintro i σ hi ⟨e0,e1,e2⟩
  refine Za6 (n:=n+1) (a:=fun i=>.int i) (P:=fun j σ=>σ 0=some (ZE n G R)∧σ 1=some (.lst (tab n fun i=>.int (x i)))∧σ 2=some (.lst (tab (n+1) fun i=>.int (Zaq x i)))∧σ 3=some (.int i)) ?_ ⟨by walk_at "zr",by walk_at "zr",by walk_at "zr",by walk_at "zr"⟩ ?_ ?_
  ·walk_at "zz"
   rfl
  ·rintro j σ hj ⟨f0,f1,f2,f3⟩
   unfold ZE ZZ Zaf ZaI at f0
   walk_at "zz"
   cases hg:G i j with
   | none=>
    rw[Zbq]
    walk_at "zz"
    exact⟨by walk_at "zr",by walk_at "zr",by walk_at "zr",by walk_at "zr"⟩
   | some b=>
    have:=h.1 i j hi hj b hg
    rw[ZaE]
    walk_at "zz"
    rw[hg,ZaE]
    walk_at "zz"
    exact⟨by walk_at "zr",by walk_at "zr",by walk_at "zr",by walk_at "zr"⟩
  ·rintro σ ⟨f0,f1,f2,f3⟩
   exact⟨f0,f1,f2⟩
 ·rintro σ ⟨e0,e1,e2⟩
  refine Zgk ?_
  refine Za6 (n:=n) (a:=fun i=>.int i) (P:=fun j σ=>σ 0=some (ZE n G R)∧σ 1=some (.lst (tab n fun i=>.int (x i)))) ?_ ⟨e0,e1⟩ ?_ ?_
  ·walk_at "zz"
   rfl
  ·rintro t σ ht ⟨f0,f1⟩
   unfold ZE ZZ Zaf ZaI ZQ at f0
   have ho:=ok t ht
   have hh:=h.2 t ht
   unfold Zao at hh
   walk_at "zz"
   by_cases c:(R t).1=0
   ·have:=hh.1 c
    walk_at "zz"
    exact⟨by walk_at "zr",by walk_at "zr"⟩
   ·have hp:0<(R t).1:=by have:=ho.nn;omega
    have h2:(x t-(R t).2) % (R t).1=0:=hh.2 hp
    walk_at "zz"
    rw[Int.fmod_eq_emod_of_nonneg _ (by omega),h2]
    walk_at "zz"
    exact⟨by walk_at "zr",by walk_at "zr"⟩
  ·rintro σ _
   walk_at "zz"
   rfl
section
variable {σ:TL} {Q:T→Prop}
theorem ZmY{p e:PE}(h:Pk (p σ) fun t=>∃ts,t=.lst ts∧Pk (e σ) fun u=>∃a:Nat,u=.int a∧Q (.lst (ts.take a))): Pk (ZcS p Zc8 (Zc9 e) σ) Q:=by
 obtain⟨_,e1,ts,rfl,_,e2,a,rfl,q⟩:=h
 refine⟨_,?_,q⟩
 simp only[ZcS,e1,Zc8,Zc9,e2,Option.bind_some,Zul ts rfl]
theorem ZmZ{p e:PE}(h:Pk (p σ) fun t=>∃ts,t=.lst ts∧Pk (e σ) fun u=>∃a:Nat,u=.int a∧Q (.lst (ts.drop a))): Pk (ZcS p (Zc9 e) Zc8 σ) Q:=by
 obtain⟨_,e1,ts,rfl,_,e2,a,rfl,q⟩:=h
 refine⟨_,?_,q⟩
 simp only[ZcS,e1,Zc8,Zc9,e2,Option.bind_some,Zn0 ts rfl]
theorem Zdm{a b:List T}(hl:a.length+b.length≤10000)(h:Q (.lst (a++b))): Pk (ZV (.lst a) (.lst b)) Q:=by
 refine⟨_,?_,h⟩
 simp only[ZV]
 rw[if_pos (by rw[Za5,List.length_append];omega)]
theorem Zh5{a:T}(hn:n≤1000)(h:Q (.lst (tab n fun _=>a))): Pk (ZaC (.lst [a]) (.int n)) Q:=by
 have e:∀n,ZgJ [a] n=tab n fun _=>a:=fun n=>by
  induction n with
  | zero=>rfl
  | succ n ih=>show ZgJ [a] n++[a]=_;rw[ih];exact Zcu (f:=fun _=>a)
 refine⟨_,?_,h⟩
 simp only[ZaC,List.length_cons,List.length_nil,Int.toNat_natCast,e]
 rw[if_pos ⟨by rw[Za5];omega,by omega,by omega⟩]
end
theorem Zps{l:List T}{x:Nat}{w:T}(h:x<l.length): l.take x++[w]++l.drop (x+1)=l.set x w:=by
 rw[List.set_eq_take_append_cons_drop,if_pos h]
 simp
theorem ZqP(hn:n≤900): Zfr [.int i,.int n]=some (Zaf (n+1) fun j=>if j=i then some 0 else none):=by
 apply Pk.eq
 unfold Zfr Zjo
 walk_at "zz"
 refine Zbg (n:=n+1) (a:=fun j=>.int j) (b:=fun j=>oT (if j=i then some 0 else none)) (by omega) ?_ (fun j hj=>?_) rfl
 ·walk_at "zz"
  exact ZmT (n+1) (by omega) (by omega) rfl
 ·by_cases c:j=i
  ·have hc:(i:Int)=(j:Int):=by omega
   walk_at "zz"
   rw[if_pos c]
   rfl
  ·have hc:(i:Int)≠(j:Int):=by omega
   walk_at "zz"
   rw[if_neg c]
   rfl
theorem Zc7{a b:PS}{R:T→Prop}{N:TL→Prop}(M:TL→Prop)(h1:Psk (a σ) R M)(h2:∀σ,M σ→Psk (b σ) R N): Psk (Zp a b σ) R N:=by
 obtain⟨o,s,e,p,q⟩:=h1
 exact Zgk ⟨o,s,e,p,fun h=>h2 s (q h)⟩
noncomputable def Zbi(n:Nat)(G:Nat→Nat→Option Int): Nat→Nat→Option Int:=fun i j=>if i<n+1∧j<n+1 then G i j else if j=i then some 0 else none
noncomputable def ZbE(n:Nat)(R:Nat→Int×Int): Nat→Int×Int:=fun t=>if t<n then R t else(1,0)
theorem Zvo{a:Nat}(h:a≤4): Zcj a a 1=some []:=by
 have:a=0∨a=1∨a=2∨a=3∨a=4:=by omega
 obtain rfl | rfl | rfl | rfl | rfl:=this <;> (unfold Zcj;rw[if_pos (by decide +kernel)];rfl)
theorem Zl1{g:PEs}{a:Nat}{L:List T→Prop}(ha:a≤4)(hm:m≤100)(e:g σ=some [.int a,.int (a+m)])(h:L (tab m fun i=>.int ((a+i:Nat):Int))): Pl (Zav g σ) L:=by
 cases m with
 | zero=>
  have e2:Zcj (a:Int) ((a:Int)+((0:Nat):Int)) 1=some []:=by simpa using Zvo ha
  exact⟨[],ZeW e e2,h⟩
 | succ m=>
  refine⟨_,ZeW e (by have:=Zl8 (a:=a) (n:=m+1) (by omega) (by omega);simpa using this),?_⟩
  rw[show(tab (m+1) fun i=>T.int ((a:Int)+i))=tab (m+1) fun i=>.int ((a+i:Nat):Int)from Za2 fun i _=>by congr 1]
  exact h
theorem Zub(hi:i<n+1): (tab (n+1+m) fun j=>if j<n+1 then oT (G i j)else T.none)=tab (n+m+1) fun j=>oT (Zbi n G i j):=by
 rw[show n+1+m=n+m+1 by omega]
 refine Za2 fun j hj=>?_
 unfold Zbi
 by_cases c:j<n+1
 ·rw[if_pos c,if_pos ⟨hi,c⟩]
 ·rw[if_neg c,if_neg (by omega),if_neg (by omega)]
  rfl
theorem Zst{b:Nat→Option Int}: T.flatIn (.lst (tab n fun j=>oT (b j)))=true:=Zhb fun _ _=>ZeX
theorem Zsu: (T.lst (tab (n+m) fun i=>if i<n then T.tup [.int (R i).1,.int (R i).2]else T.tup [.int 1,.int 0]))=ZaI (n+m) (ZbE n R):=by
 unfold ZaI ZbE
 congr 1
 refine Za2 fun i _=>?_
 by_cases c:i<n
 ·rw[if_pos c,if_pos c];rfl
 ·rw[if_neg c,if_neg c];rfl
noncomputable def Zfh(q:Nat→Nat)(G':Nat→Nat→Option Int)(i:Nat)(Γ:Nat→Nat→Option Int): Nat→Nat→Nat→Option Int
 | 0=>Γ
 | j+1=>ZcA (Zfh q G' i Γ j) (q i) (q j) (Zbx (Zfh q G' i Γ j (q i) (q j)) (G' i j))
noncomputable def Zds(q:Nat→Nat)(G':Nat→Nat→Option Int)(k:Nat)(Γ:Nat→Nat→Option Int): Nat→Nat→Nat→Option Int
 | 0=>Γ
 | i+1=>Zfh q G' i (Zds q G' k Γ i) k
theorem ZrJ{a:Nat}(ha:a<N)(hb:b<N): Zhl [ZZ N Γ,.int a,.int b,oT v]=some (ZZ N (ZcA Γ a b (Zbx (Γ a b) v))):=by
 apply Pk.eq
 unfold Zhl ZkM
 refine Zu6 rfl ?_
 unfold ZZ Zaf
 walk_at "zz"
 refine ZJ Zoe ?_
 refine⟨ZeX,?_⟩
 walk_at "zz"
 refine⟨_,ZbX,?_⟩
 exact Ze6
theorem Zqn{q:Nat→Nat}(hN:N≤100)(hk:k≤100)(hq:∀i,i<k→q i<N): ZgN [ZZ N Γ,.lst (tab k fun i=>.int (q i)),ZZ k G']=some (ZZ N (Zds q G' k Γ k)):=by
 apply Pk.eq
 unfold ZgN ZiE
 have dp:Dp 8 (ZZ N Γ):=by
  refine Dp.mono (n:=2) (.lst (fun t m=>?_) (by rw[Zan];omega)) (by decide)
  obtain⟨i,hi,rfl⟩:=ZcO m
  refine .lst (fun t m=>?_) (by rw[Zan];omega)
  obtain⟨j,hj,rfl⟩:=ZcO m
  exact ZwS
 have eg:ZZ k G'=.lst (tab k fun i=>.lst (tab k fun j=>oT (G' i j))):=rfl
 rw[eg]
 walk_at "zz"
 refine ZJ (Zua dp) ?_
 walk_at "zz"
 refine Zej (n:=k) (a:=fun i=>.int (q i)) (c:=fun i=>.lst (tab k fun j=>oT (G' i j))) (P:=fun i σ=>σ 1=some (.lst (tab k fun i=>.int (q i)))∧σ 3=some (ZZ N (Zds q G' k Γ i))) ?_ ⟨by walk_at "zr",by walk_at "zr"⟩ ?_ ?_
 ·walk_at "zz"
  rfl
 ·rintro i σ hi ⟨e1,e3⟩
  refine Zej (n:=k) (a:=fun j=>.int (q j)) (c:=fun j=>oT (G' i j)) (P:=fun j σ=>σ 1=some (.lst (tab k fun i=>.int (q i)))∧σ 4=some (.int (q i))∧σ 3=some (ZZ N (Zfh q G' i (Zds q G' k Γ i) j))) ?_ ⟨by walk_at "zr",by walk_at "zr",by walk_at "zr"⟩ ?_ ?_
  ·walk_at "zz"
   rfl
  ·rintro j σ hj ⟨e1,e4,e3⟩
   refine Zwj (t:=ZZ N (Zfh q G' i (Zds q G' k Γ i) j)) (by walk_at "zr") ?_
   walk_at "zz"
   refine ZJ (ZrJ (hq i hi) (hq j hj)) ?_
   exact⟨by walk_at "zr",by walk_at "zr",ZbX⟩
  ·rintro σ ⟨e1,e4,e3⟩
   exact⟨e1,e3⟩
 ·rintro σ ⟨e1,e3⟩
  walk_at "zz"
  rfl
noncomputable def Zac(n:Nat)(c:Nat→Int): T:=.lst (tab (n+1) fun i=>.int (c i))
theorem Zro{k:Int}(hn:n≤1000)(hb:b≤100000)(bc:∀i,i<n+1→Bd b (c i))(bk:Bd b k): Zg9 [Zac n c,.int k]=some (Zac n fun i=>c i*k):=by
 apply Pk.eq
 unfold Zg9 Zkc Zac
 walk_at "zz"
 refine Zbg (n:=n+1) (a:=fun i=>.int (c i)) (b:=fun i=>.int (c i*k)) (by omega) ?_ (fun i hi=>?_) rfl
 ·walk_at "zz"
  rfl
 ·walk_at "zz"
  exact Zbt (ZbY (bc i hi) bk (by omega) (by omega)) rfl
noncomputable def S40(G:Nat→Nat→Option Int)(i:Nat): Sp:=((G 0 (i+1)).map fun y=>y*(-1),G (i+1) 0)
theorem ZqB(hn:n≤90)(hb:b≤100000)(hb1:1≤b)(bG:∀i j,i<n+1→j<n+1→∀y,G i j=some y→Bd b y): ZgU [ZE n G R]=some (.lst (tab n fun i=>spT (S40 G i))):=by
 apply Pk.eq
 unfold ZgU Zi3
 have ht:ZE n G R=.tup [.lst (tab (n+1) fun i=>.lst (tab (n+1) fun j=>oT (G i j))),.lst (tab n fun i=>ZQ (R i))]:=rfl
 rw[ht]
 walk_at "zz"
 refine Zbg (n:=n) (a:=fun i=>.int ((1+i:Nat):Int)) (b:=fun i=>spT (S40 G i)) (by omega) ?_ (fun i hi=>?_) rfl
 ·refine Zl1 (a:=1) (m:=n) (by omega) (by omega) ?_ rfl
  simp only[Ze,Zg,Zk,Zs,Za,ZY,Option.bind_some,if_true,Zat,Zan]
  congr 3
  congr 1
  omega
 ·have h1:1+i<n+1:=by omega
  have h0:0<n+1:=by omega
  walk_at "zz"
  refine ZJ (ZjH hb (fun y e=>bG 0 (1+i) h0 h1 y e) (show Bd b (-1)by unfold Bd;have:=ZgM hb1;unfold Bd at this;simpa using this)) ?_
  walk_at "zz"
  unfold spT S40
  rw[show 1+i=i+1 by omega]
  rfl
theorem Znz{σ:TL}{j:Nat}{cnd:PB}{P:T→Bool}: ∀{ts:List T},(∀t∈ts,cnd (ZY σ j t)=some (P t))→Zch (ZX j) cnd (Za j) σ ts=some (ts.filter P)
 | [],_=>rfl
 | t::ts,h=>by
  have ih:=Znz fun t m=>h t (Zz2 _ m)
  have h0:=h t Zz5
  simp only[Zch,ZX,Option.bind_some,h0,Za,ZbX,ih,Option.map_some,List.filter_cons]
  cases P t <;> rfl
theorem ZhD{g:PG}{cnd:PB}{P:T→Bool}(hl:ts.length≤10000)(hg:Pl (g σ) fun us=>us=ts)(hc:∀t∈ts,Pb (cnd (ZY σ j t)) fun b=>b=P t)(h:Q (.lst (ts.filter P))): Pk (Zai g (ZX j) cnd (Za j) σ) Q:=by
 obtain⟨us,e,rfl⟩:=hg
 refine⟨_,?_,h⟩
 have:=Znz (σ:=σ) (j:=j) (cnd:=cnd) (P:=P) (ts:=us) fun t m=>by
  obtain⟨b,e1,rfl⟩:=hc t m
  exact e1
 simp only[Zai,e,Option.bind_some,this,Option.map_some]
 rw[if_pos (by rw[Za5];omega)]
noncomputable def xsI(n:Nat)(c:Nat→Int): List Int:=tab n fun i=>c (i+1)
noncomputable def nzI(n:Nat)(c:Nat→Int): List Int:=(xsI n c).filter fun x=>decide (x≠0)
noncomputable def Df(n:Nat)(c:Nat→Int): Prop:=PM.Zdg (nzI n c)=[-1,1]
theorem ZhO(ks:List Int): Zdf (ks.map T.int)=some ks:=by
 induction ks with
 | nil=>rfl
 | cons k ks ih=>simp[Zdf,ih]
theorem ZrK{a b:List Int}(h:a.map T.int=b.map T.int): a=b:=by
 have:=congrArg Zdf h
 rw[ZhO,ZhO]at this
 simpa using this
theorem Zmm(ks:List Int): Pln 1 (.lst (ks.map T.int)):=.lst fun t m=>by
 obtain⟨k,_,rfl⟩:=Zz11.mp m
 exact .int
theorem tab_map{α:Type}{f:Nat→α}{g:α→β}: (tab n f).map g=tab n fun i=>g (f i):=by simp[tab]
theorem Zqs(hn:n≤60): ZgR [Zac n c]=some (.bool (dec (Df n c))):=by
 apply Pk.eq
 unfold ZgR ZiR Zac
 walk_at "zz"
 refine ZhD (ts:=(xsI n c).map T.int) (P:=fun t=>match t with | .int x=>decide (x≠0) | _=>false) (by simp[xsI,Zan];omega) ?_ (fun t m=>?_) ?_
 ·refine ZhW ?_
  refine Zly ?_
  walk_at "zz"
  refine⟨_,rfl,?_⟩
  rw[ZlZ]
  refine Sq.lst ?_
  unfold xsI
  rw[tab_map]
 ·obtain⟨x,_,rfl⟩:=Zz11.mp m
  walk_at "zz"
  rfl
 have ef:((xsI n c).map T.int).filter (fun t=>match t with | .int x=>decide (x≠0) | _=>false)=(nzI n c).map T.int:=by
  unfold nzI
  rw[List.filter_map]
  rfl
 rw[ef]
 have hl:(nzI n c).length≤n:=by
  unfold nzI
  refine Nat.le_trans (List.length_filter_le _ _) ?_
  simp[xsI,Zan]
 walk_at "zz"
 refine⟨.lst ((PM.Zdg (nzI n c)).map T.int),?_,?_⟩
 ·simp only[ZhX,ZhO,Option.bind_some,List.length_map]
  rw[if_pos (by omega)]
 walk_at "zz"
 refine Zia (n:=1) (m:=1) (Zmm _) (Zmm [-1,1]) ?_
 by_cases h:Df n c
 ·rw[ZaR h,ZaR]
  show T.lst ((PM.Zdg (nzI n c)).map T.int)=_
  rw[show PM.Zdg (nzI n c)=[-1,1]from h]
  rfl
 ·rw[Zbw h,Zbw]
  intro q
  refine h (ZrK ?_)
  simpa using q
noncomputable def Zau(c:Nat→Int): Nat→List Nat
 | 0=>[]
 | n+1=>Zau c n++(if 0<c (n+1)then [n+1]else [])
noncomputable def Zay(c:Nat→Int): Nat→List Nat
 | 0=>[]
 | n+1=>Zay c n++(if c (n+1)<0 then [n+1]else [])
theorem ups_mem{c:Nat→Int}: ∀{n i:Nat},i∈Zau c n↔1≤i∧i≤n∧0<c i
 | 0,i=>by simp[Zau];omega
 | n+1,i=>by
  simp only[Zau,List.mem_append,ups_mem (n:=n)]
  by_cases h:0<c (n+1)
  ·simp only[h,if_true,List.mem_singleton]
   constructor
   ·rintro(⟨a,b,d⟩ | rfl)
    ·exact⟨a,by omega,d⟩
    ·exact⟨by omega,by omega,h⟩
   ·rintro⟨a,b,d⟩
    by_cases q:i=n+1
    ·exact .inr q
    ·exact .inl ⟨a,by omega,d⟩
  ·simp only[h,if_false,List.not_mem_nil,or_false]
   constructor
   ·rintro⟨a,b,d⟩;exact⟨a,by omega,d⟩
   ·rintro⟨a,b,d⟩
    have:i≠n+1:=fun q=>h (q▸d)
    exact⟨a,by omega,d⟩
theorem dns_mem{c:Nat→Int}: ∀{n i:Nat},i∈Zay c n↔1≤i∧i≤n∧c i<0
 | 0,i=>by simp[Zay];omega
 | n+1,i=>by
  simp only[Zay,List.mem_append,dns_mem (n:=n)]
  by_cases h:c (n+1)<0
  ·simp only[h,if_true,List.mem_singleton]
   constructor
   ·rintro(⟨a,b,d⟩ | rfl)
    ·exact⟨a,by omega,d⟩
    ·exact⟨by omega,by omega,h⟩
   ·rintro⟨a,b,d⟩
    by_cases q:i=n+1
    ·exact .inr q
    ·exact .inl ⟨a,by omega,d⟩
  ·simp only[h,if_false,List.not_mem_nil,or_false]
   constructor
   ·rintro⟨a,b,d⟩;exact⟨a,by omega,d⟩
   ·rintro⟨a,b,d⟩
    have:i≠n+1:=fun q=>h (q▸d)
    exact⟨a,by omega,d⟩
theorem Zpt{c:Nat→Int}: ∀n,(Zau c n).length≤n
 | 0=>Nat.le_refl 0
 | n+1=>by
  have:=Zpt (c:=c) n
  simp only[Zau,List.length_append]
  split <;> simp <;> omega
theorem Zpu{c:Nat→Int}: ∀n,(Zay c n).length≤n
 | 0=>Nat.le_refl 0
 | n+1=>by
  have:=Zpu (c:=c) n
  simp only[Zay,List.length_append]
  split <;> simp <;> omega
theorem ZoL{c:Nat→Int}: ∀n,(Zau c n).map c=(xsI n c).filter fun x=>decide (0<x)
 | 0=>rfl
 | n+1=>by
  have e:xsI (n+1) c=xsI n c++[c (n+1)]:=(Zcu (n:=n) (f:=fun i=>c (i+1))).symm
  rw[e,List.filter_append,←ZoL n]
  simp only[Zau,List.map_append]
  by_cases h:0<c (n+1) <;> simp[h]
theorem ZoM{c:Nat→Int}: ∀n,(Zay c n).map c=(xsI n c).filter fun x=>decide (x<0)
 | 0=>rfl
 | n+1=>by
  have e:xsI (n+1) c=xsI n c++[c (n+1)]:=(Zcu (n:=n) (f:=fun i=>c (i+1))).symm
  rw[e,List.filter_append,←ZoM n]
  simp only[Zay,List.map_append]
  by_cases h:c (n+1)<0 <;> simp[h]
theorem df_iff: Df n c↔(Zau c n).map c=[1]∧(Zay c n).map c=[-1]:=by
 rw[ZoL,ZoM]
 have hp:(nzI n c).Perm ((xsI n c).filter (fun x=>decide (0<x))++(xsI n c).filter (fun x=>decide (x<0))):=by
  unfold nzI
  generalize xsI n c=xs
  induction xs with
  | nil=>exact List.Perm.refl _
  | cons x xs ih=>
   by_cases h1:0<x
   ·have:x≠0:=by omega
    have h2:¬x<0:=by omega
    simp only[List.filter_cons,h1,h2,this,decide_true,decide_false,ne_eq,not_false_eq_true,if_true,Bool.false_eq_true,if_false,List.cons_append]
    exact List.Perm.cons _ ih
   ·by_cases h2:x<0
    ·have:x≠0:=by omega
     simp only[List.filter_cons,h1,h2,this,decide_true,decide_false,ne_eq,not_false_eq_true,if_true,Bool.false_eq_true,if_false]
     exact(List.Perm.cons _ ih).trans List.perm_middle.symm
    ·have:x=0:=by omega
     subst this
     simpa using ih
 constructor
 ·intro h
  have hq:(nzI n c).Perm [-1,1]:=by
   have:=List.mergeSort_perm (nzI n c) fun a b=>decide (a≤b)
   rw[show(nzI n c).mergeSort (fun a b=>decide (a≤b))=[-1,1]from h]at this
   exact this.symm
  have hf:∀q:Int→Bool,(∀x,q x=true→x≠0)→(xsI n c).filter q=(nzI n c).filter q:=fun q hq=>by
   unfold nzI
   rw[List.filter_filter]
   refine List.filter_congr fun x _=>?_
   cases e:q x with
   | false=>simp
   | true=>simp[hq x e]
  rw[hf _ (fun x h=>by simp at h;omega),hf _ (fun x h=>by simp at h;omega)]
  have p1:=hq.filter fun x=>decide (0<x)
  have p2:=hq.filter fun x=>decide (x<0)
  exact⟨List.perm_singleton.mp (by simpa using p1),List.perm_singleton.mp (by simpa using p2)⟩
 ·rintro⟨h1,h2⟩
  rw[h1,h2]at hp
  unfold Df
  refine(PM.Zoz ?_ ?_).symm
  ·exact(hp.trans (List.Perm.swap (-1) 1 [])).symm
  ·simp
theorem ZoN{p q r:PE}(h:Pk (p σ) fun t=>∃ks:List Int,t=.lst (ks.map T.int)∧Pk (q σ) fun u=>∃k,u=.int k∧Pk (r σ) fun v=>v=.int 1∧k∈ks.drop 1∧Q (.int ((1+(ks.drop 1).idxOf k:Nat):Int))): Pk (Zgp p q r σ) Q:=by
 obtain⟨_,e1,ks,rfl,_,e2,k,rfl,_,e3,rfl,hm,h⟩:=h
 refine⟨_,?_,h⟩
 simp only[Zgp,e1,e2,e3,Option.bind_some,ZhO]
 rw[if_pos ⟨trivial,hm⟩]
theorem Zh6: (tab (n+1) c).drop 1=xsI n c:=by
 unfold xsI
 apply List.ext_getElem
 ·simp[tab]
 ·intro i h1 h2
  simp[tab]
theorem Zp1{k:Int}(h:l.map c=[k]): ∃u,l=[u]∧c u=k:=by
 cases l with
 | nil=>simp at h
 | cons a l=>
  cases l with
  | nil=>exact⟨a,rfl,by simpa using h⟩
  | cons b l=>simp at h
theorem Zqd(hi:i<n): (xsI n c)[i]?=some (c (i+1)):=ZaP (f:=fun i=>c (i+1)) hi
theorem Zp2{u:Nat}{k:Int}(h1:1≤u)(h2:u≤n)(hu:c u=k)(ho:∀i,1≤i→i≤n→c i=k→i=u): 1+(xsI n c).idxOf k=u∧k∈xsI n c:=by
 have hm:k∈xsI n c:=List.mem_of_getElem? (i:=u-1) (by rw[Zqd (by omega),show u-1+1=u by omega,hu])
 have hl:(xsI n c).idxOf k<(xsI n c).length:=List.idxOf_lt_length_iff.mpr hm
 have hn:(xsI n c).length=n:=Zan
 have hk:=List.getElem_idxOf hl
 have hx:(xsI n c)[(xsI n c).idxOf k]?=some k:=by rw[List.getElem?_eq_getElem hl,hk]
 rw[Zqd (by omega)]at hx
 have:=ho ((xsI n c).idxOf k+1) (by omega) (by omega) (by simpa using hx)
 exact⟨by omega,hm⟩
theorem ZfW(h:Df n c): ∃u d,Zau c n=[u]∧Zay c n=[d]∧c u=1∧c d = -1∧u<n+1∧d<n+1∧1≤u∧1≤d∧1+(xsI n c).idxOf 1=u∧1+(xsI n c).idxOf (-1)=d∧1∈xsI n c∧-1∈xsI n c:=by
 obtain⟨h1,h2⟩:=df_iff.mp h
 obtain⟨u,eu,hu⟩:=Zp1 h1
 obtain⟨d,ed,hd⟩:=Zp1 h2
 have mu:=ups_mem.mp (show u∈Zau c n by rw[eu];simp)
 have md:=dns_mem.mp (show d∈Zay c n by rw[ed];simp)
 have a1:=Zp2 mu.1 mu.2.1 hu fun i q1 q2 q3=>by
  have:i∈Zau c n:=ups_mem.mpr ⟨q1,q2,by omega⟩
  rw[eu]at this
  simpa using this
 have a2:=Zp2 md.1 md.2.1 hd fun i q1 q2 q3=>by
  have:i∈Zay c n:=dns_mem.mpr ⟨q1,q2,by omega⟩
  rw[ed]at this
  simpa using this
 exact⟨u,d,eu,ed,hu,hd,by omega,by omega,mu.1,md.1,a1.1,a2.1,a1.2,a2.2⟩
noncomputable def grt(n:Nat)(G:Nat→Nat→Option Int)(c:Nat→Int): Option Int:=if dec (Df n c)then addO (G (1+(xsI n c).idxOf 1) (1+(xsI n c).idxOf (-1))) (some (c 0))else(ZbS c (S40 G) n).2
noncomputable def GB(b n:Nat)(G:Nat→Nat→Option Int): Prop:=∀i j,i<n+1→j<n+1→∀y,G i j=some y→Bd b y
theorem Zp3(hG:GB b n G): ∀i,i<n→SBd b (S40 G i):=fun i hi=>⟨fun x e=>by
 obtain⟨y,e1,e2⟩:=Zz1.mp e
 have:=hG 0 (i+1) (by omega) (by omega) y e1
 subst e2
 unfold Bd at *
 omega,fun x e=>hG (i+1) 0 (by omega) (by omega) x e⟩
theorem ZrL(hn:n≤60)(hb:b≤100000)(hb1:1≤b)(hG:GB b n G)(bc:∀i,i<n+1→Bd b (c i)): Zhm [ZE n G R,Zac n c]=some (oT (grt n G c)):=by
 apply Pk.eq
 unfold Zhm ZkP grt
 have ht:ZE n G R=.tup [.lst (tab (n+1) fun i=>.lst (tab (n+1) fun j=>oT (G i j))),.lst (tab n fun i=>ZQ (R i))]:=rfl
 have hs:Zac n c=.lst ((tab (n+1) c).map T.int):=by unfold Zac;rw[tab_map]
 walk_at "zz"
 refine ZJ (Zqs hn) ?_
 by_cases h:Df n c
 ·obtain⟨u,d,_,_,_,_,hu,hd,_,_,eu,ed,mu,md⟩:=ZfW h
  rw[ZaR h]
  rw[ht]
  walk_at "zz"
  refine ZoN ?_
  walk_at "zz"
  refine⟨tab (n+1) c,hs,?_⟩
  walk_at "zz"
  refine⟨1,rfl,?_⟩
  walk_at "zz"
  refine⟨rfl,by rw[Zh6];exact mu,?_⟩
  rw[Zh6,eu]
  walk_at "zz"
  refine ZoN ?_
  walk_at "zz"
  refine⟨tab (n+1) c,hs,?_⟩
  walk_at "zz"
  refine⟨-1,rfl,?_⟩
  walk_at "zz"
  refine⟨rfl,by rw[Zh6];exact md,?_⟩
  rw[Zh6,ed]
  unfold Zac
  walk_at "zz"
  exact ZJ (ZfD (b:=some (c (Int.toNat 0)))) rfl
 ·rw[Zbw h]
  walk_at "zz"
  refine ZJ (ZqB (by omega) hb hb1 hG) ?_
  walk_at "zz"
  refine ZJ (ZqK (by omega) hb bc (Zp3 hG)) ?_
  unfold spT
  walk_at "zz"
  rfl
noncomputable def Zm4(c:Nat→Int): T→Bool
 | .int i=>decide (0<c i.toNat)
 | _=>false
noncomputable def Zm5(c:Nat→Int): T→Bool
 | .int i=>decide (c i.toNat<0)
 | _=>false
theorem ZoO{c:Nat→Int}: ∀n,((tab n fun i=>T.int ((1+i:Nat):Int)).filter (Zm4 c))=(Zau c n).map fun i=>T.int (i:Nat)
 | 0=>rfl
 | n+1=>by
  rw[←Zcu (n:=n) (f:=fun i=>T.int ((1+i:Nat):Int)),List.filter_append,ZoO n]
  simp only[Zau,List.map_append]
  congr 1
  rw[show 1+n=n+1 by omega]
  by_cases h:0<c (n+1) <;> simp[Zm4,h]
theorem ZoP{c:Nat→Int}: ∀n,((tab n fun i=>T.int ((1+i:Nat):Int)).filter (Zm5 c))=(Zay c n).map fun i=>T.int (i:Nat)
 | 0=>rfl
 | n+1=>by
  rw[←Zcu (n:=n) (f:=fun i=>T.int ((1+i:Nat):Int)),List.filter_append,ZoP n]
  simp only[Zay,List.map_append]
  congr 1
  rw[show 1+n=n+1 by omega]
  by_cases h:c (n+1)<0 <;> simp[Zm5,h]
theorem ZoQ{f:PE}{us:List Nat}{h:Nat→T}(hl:us.length≤1000)(hg:Pk (g σ) fun t=>t=.lst (us.map fun i=>T.int (i:Nat)))(hf:∀i∈us,Pk (f (ZY σ j (.int (i:Nat)))) fun t=>t=h i)(q:Q (.lst (us.map h))): Pk (Zai (Zaz g) (ZX j) Z4 f σ) Q:=by
 obtain⟨_,e,rfl⟩:=hg
 refine⟨_,?_,q⟩
 have hc:Zch (ZX j) Z4 f σ (us.map fun i=>T.int (i:Nat))=some (us.map h):=by
  have key:∀l:List Nat,(∀i∈l,i∈us)→Zch (ZX j) Z4 f σ (l.map fun i=>T.int (i:Nat))=some (l.map h):=by
   intro l
   induction l with
   | nil=>intro _;rfl
   | cons a l ih=>
    intro hm
    obtain⟨_,e1,rfl⟩:=hf a (hm a Zz5)
    simp only[List.map_cons,Zch,ZX,Option.bind_some,Z4,if_true,e1,ih fun i m=>hm i (Zz2 _ m),Option.map_some]
  exact key us fun i m=>m
 simp only[Zai,Zaz,e,Option.bind_some,hc,Option.map_some,List.length_map]
 rw[if_pos (by rw[Za5];omega)]
theorem Zpv{b:PS}{us:List Nat}{R:T→Prop}{N:TL→Prop}(hg:Pk (g σ) fun t=>t=.lst (us.map fun i=>T.int (i:Nat)))(P:List Nat→TL→Prop)(h0:P [] σ)(h1:∀pre i σ,i∈us→P pre σ→Psk (b (ZY σ j (.int (i:Nat)))) R (P (pre++[i])))(h2:∀σ,P us σ→N σ): Psk (ZaA (Zaz g) (ZX j) b σ) R N:=by
 refine ZuS (ts:=us.map fun i=>T.int (i:Nat)) (P:=fun k σ=>P (us.take k) σ) ?_ (by simpa using h0) (fun k t σ hk hP=>?_) (fun σ h=>h2 σ (by simpa using h))
 ·obtain⟨_,e,rfl⟩:=hg
  exact⟨_,by simp only[Zaz,e,Option.bind_some],rfl⟩
 ·rw[List.getElem?_map]at hk
  obtain⟨i,ei,rfl⟩:=Zz1.mp hk
  rw[List.take_add_one,ei]
  exact h1 _ i σ (List.mem_of_getElem? ei) hP
noncomputable def sU(G:Nat→Nat→Option Int)(c:Nat→Int)(l:List Nat): Int:=(l.map fun i=>c i*(G i 0).getD 0).sum
noncomputable def sD(G:Nat→Nat→Option Int)(c:Nat→Int)(l:List Nat): Int:=(l.map fun i=>c i*(G 0 i).getD 0).sum
noncomputable def Zc3(G:Nat→Nat→Option Int)(c:Nat→Int)(n:Nat): Prop:=(∃i∈Zau c n,G i 0=none)∨∃i∈Zay c n,G 0 i=none
theorem Zpw: sU G c (l++[i])=sU G c l+c i*(G i 0).getD 0:=by simp[sU]
theorem Zpx: sD G c (l++[i])=sD G c l+c i*(G 0 i).getD 0:=by simp[sD]
theorem tot{G:Nat→Nat→Option Int}{c:Nat→Int}: ∀n,(Zc3 G c n→(ZbS c (S40 G) n).2=none)∧(¬Zc3 G c n→(ZbS c (S40 G) n).2=some (c 0+sU G c (Zau c n)-sD G c (Zay c n)))
 | 0=>⟨fun h=>(by rcases h with⟨i,m,_⟩ | ⟨i,m,_⟩ <;> cases m),fun _=>by simp[ZbS,sU,sD,Zau,Zay]⟩
 | n+1=>by
  obtain⟨ih1,ih2⟩:=tot (G:=G) (c:=c) n
  have step:(ZbS c (S40 G) (n+1)).2=addO (ZbS c (S40 G) n).2 (Zco (S40 G n) (c (n+1))).2:=rfl
  rw[step]
  have mono:Zc3 G c n→Zc3 G c (n+1):=fun h=>h.imp (fun⟨i,m,e⟩=>⟨i,by simp only[Zau,List.mem_append];exact .inl m,e⟩) fun⟨i,m,e⟩=>⟨i,by simp only[Zay,List.mem_append];exact .inl m,e⟩
  rcases Int.lt_trichotomy (c (n+1)) 0 with h | h | h
  ·have h0:¬0<c (n+1):=by omega
   have hz:¬c (n+1)=0:=by omega
   have eu:Zau c (n+1)=Zau c n:=by simp[Zau,h0]
   have ed:Zay c (n+1)=Zay c n++[n+1]:=by simp[Zay,h]
   have et:(Zco (S40 G n) (c (n+1))).2=(G 0 (n+1)).map fun y=>y*(-1)*c (n+1):=by
    unfold Zco S40
    rw[if_neg hz,if_pos h]
    cases G 0 (n+1) <;> rfl
   rw[et]
   cases hg:G 0 (n+1)with
   | none=>
    refine⟨fun _=>?_,fun q=>absurd (.inr ⟨n+1,by rw[ed];simp,hg⟩) q⟩
    cases (ZbS c (S40 G) n).2 <;> rfl
   | some y=>
    have hl:Zc3 G c (n+1)→Zc3 G c n:=by
     rintro(⟨i,m,e⟩ | ⟨i,m,e⟩)
     ·rw[eu]at m;exact .inl ⟨i,m,e⟩
     ·rw[ed]at m
      rcases Zz8.mp m with m | m
      ·exact .inr ⟨i,m,e⟩
      ·rw[List.mem_singleton.mp m,hg]at e;cases e
    refine⟨fun q=>by rw[ih1 (hl q)];rfl,fun q=>?_⟩
    rw[ih2 fun r=>q (mono r),eu,ed,Zpx,hg]
    simp only[addO,Option.map_some,Option.getD_some]
    congr 1
    have:y*(-1)*c (n+1) = -(c (n+1)*y):=by rw[Int.mul_neg,Int.mul_one,Int.neg_mul,Int.mul_comm]
    omega
  ·have h0:¬0<c (n+1):=by omega
   have h1:¬c (n+1)<0:=by omega
   have eu:Zau c (n+1)=Zau c n:=by simp[Zau,h0]
   have ed:Zay c (n+1)=Zay c n:=by simp[Zay,h1]
   have et:(Zco (S40 G n) (c (n+1))).2=some 0:=by unfold Zco;rw[if_pos h]
   have el:Zc3 G c (n+1)↔Zc3 G c n:=by unfold Zc3;rw[eu,ed]
   rw[et,ZpX,el,eu,ed]
   exact⟨ih1,ih2⟩
  ·have h1:¬c (n+1)<0:=by omega
   have hz:¬c (n+1)=0:=by omega
   have eu:Zau c (n+1)=Zau c n++[n+1]:=by simp[Zau,h]
   have ed:Zay c (n+1)=Zay c n:=by simp[Zay,h1]
   have et:(Zco (S40 G n) (c (n+1))).2=(G (n+1) 0).map fun y=>y*c (n+1):=by
    unfold Zco S40
    rw[if_neg hz,if_neg h1]
   rw[et]
   cases hg:G (n+1) 0 with
   | none=>
    refine⟨fun _=>?_,fun q=>absurd (.inl ⟨n+1,by rw[eu];simp,hg⟩) q⟩
    cases (ZbS c (S40 G) n).2 <;> rfl
   | some y=>
    have hl:Zc3 G c (n+1)→Zc3 G c n:=by
     rintro(⟨i,m,e⟩ | ⟨i,m,e⟩)
     ·rw[eu]at m
      rcases Zz8.mp m with m | m
      ·exact .inl ⟨i,m,e⟩
      ·rw[List.mem_singleton.mp m,hg]at e;cases e
     ·rw[ed]at m;exact .inr ⟨i,m,e⟩
    refine⟨fun q=>by rw[ih1 (hl q)];rfl,fun q=>?_⟩
    rw[ih2 fun r=>q (mono r),eu,ed,Zpw,hg]
    simp only[addO,Option.map_some,Option.getD_some]
    congr 1
    have:y*c (n+1)=c (n+1)*y:=Int.mul_comm _ _
    omega
theorem ZqQ{N:TL→Prop}(hn:n≤60)(hb:b≤100000)(hG:GB b n G)(bc:∀i,i<n+1→Bd b (c i))(e0:σ 0=some (.tup [.lst (tab (n+1) fun i=>.lst (tab (n+1) fun j=>oT (G i j))),.lst (tab n fun i=>ZQ (R i))]))(e1:σ 1=some (.lst (tab (n+1) fun i=>.int (c i))))(e2:σ 2=some (.lst ((Zau c n).map fun i=>T.int (i:Nat))))(e3:σ 3=some (.lst ((Zay c n).map fun i=>T.int (i:Nat)))): Psk ((Zp (ZF 4 (Zc ZV (Zai (Zaz (Za 2)) (ZX 104) Z4 (Zc Zl (Zc Zl (Zc Zl (Za 0) (Zg 0)) (Za 104)) (Zg 0))) (Zai (Zaz (Za 3)) (ZX 106) Z4 (Zc Zl (Zc Zl (Zc Zl (Za 0) (Zg 0)) (Zg 0)) (Za 106))))) (Zp (ZO (Zx (Zc qIn (ZN) (Za 4))) (Zw (ZN)) ZR) (Zp (ZF 5 (Zc Zl (Za 1) (Zg 0))) (Zp (ZaA (Zaz (Za 2)) (ZX 6) (ZF 5 (Zc ZV (Za 5) (Zc ZaC (Zc Zl (Za 1) (Za 6)) (Zc Zl (Zc Zl (Zc Zl (Za 0) (Zg 0)) (Za 6)) (Zg 0)))))) (Zp (ZaA (Zaz (Za 3)) (ZX 6) (ZF 5 (Zc ZaM (Za 5) (Zc ZaC (Zc Zl (Za 1) (Za 6)) (Zc Zl (Zc Zl (Zc Zl (Za 0) (Zg 0)) (Zg 0)) (Za 6)))))) (Zw (Za 5))))))) σ) (fun t=>t=oT (ZbS c (S40 G) n).2) N:=by
 have lu:=Zpt (c:=c) n
 have ld:=Zpu (c:=c) n
 have hu:∀i∈Zau c n,i<n+1:=fun i m=>by have:=ups_mem.mp m;omega
 have hd:∀i∈Zay c n,i<n+1:=fun i m=>by have:=dns_mem.mp m;omega
 have h0:0<n+1:=by omega
 walk_at "zz"
 refine ZoQ (us:=Zau c n) (h:=fun i=>oT (G i 0)) (by omega) ?_ (fun i m=>?_) ?_
 ·walk_at "zz"
  rfl
 ·have:=hu i m
  walk_at "zz"
  rfl
 refine ZoQ (us:=Zay c n) (h:=fun i=>oT (G 0 i)) (by omega) ?_ (fun i m=>?_) ?_
 ·walk_at "zz"
  rfl
 ·have:=hd i m
  walk_at "zz"
  rfl
 refine Zdm (by simp;omega) ?_
 walk_at "zz"
 refine ZgB (n:=0) (m:=1) .none (.lst fun t m=>?_) ?_
 ·rcases Zz8.mp m with m | m
  ·obtain⟨i,_,rfl⟩:=Zz11.mp m;exact ZgA
  ·obtain⟨i,_,rfl⟩:=Zz11.mp m;exact ZgA
 by_cases hl:Zc3 G c n
 ·have hm:T.none∈(Zau c n).map (fun i=>oT (G i 0))++(Zay c n).map fun i=>oT (G 0 i):=by
   rcases hl with⟨i,m,e⟩ | ⟨i,m,e⟩
   ·exact Zz4 _ (Zz11.mpr ⟨i,m,by rw[e];rfl⟩)
   ·exact Zz3 _ (Zz11.mpr ⟨i,m,by rw[e];rfl⟩)
  rw[ZaR hm]
  walk_at "zz"
  rw[(tot n).1 hl]
  rfl
 ·have hm:¬T.none∈(Zau c n).map (fun i=>oT (G i 0))++(Zay c n).map fun i=>oT (G 0 i):=fun m=>hl (by
   rcases Zz8.mp m with m | m
   ·obtain⟨i,m,e⟩:=Zz11.mp m
    exact .inl ⟨i,m,oT_inj.mp (by rw[e];rfl)⟩
   ·obtain⟨i,m,e⟩:=Zz11.mp m
    exact .inr ⟨i,m,oT_inj.mp (by rw[e];rfl)⟩)
  have gu:∀i∈Zau c n,∃y,G i 0=some y:=fun i m=>by
   cases e:G i 0 with
   | none=>exact absurd (.inl ⟨i,m,e⟩) hl
   | some y=>exact⟨y,rfl⟩
  have gd:∀i∈Zay c n,∃y,G 0 i=some y:=fun i m=>by
   cases e:G 0 i with
   | none=>exact absurd (.inr ⟨i,m,e⟩) hl
   | some y=>exact⟨y,rfl⟩
  rw[Zbw hm]
  walk_at "zz"
  refine Zpv (us:=Zau c n) (P:=fun pre σ'=>σ' 0=some (.tup [.lst (tab (n+1) fun i=>.lst (tab (n+1) fun j=>oT (G i j))),.lst (tab n fun i=>ZQ (R i))])∧σ' 1=some (.lst (tab (n+1) fun i=>.int (c i)))∧σ' 3=some (.lst ((Zay c n).map fun i=>T.int (i:Nat)))∧σ' 5=some (.int (c 0+sU G c pre))) ?_ ⟨by walk_at "zr",by walk_at "zr",by walk_at "zr",by simp[sU,ZY]⟩ ?_ ?_
  ·walk_at "zz"
   rfl
  ·rintro pre i σ' m ⟨f0,f1,f3,f5⟩
   have hi:=hu i m
   obtain⟨y,ey⟩:=gu i m
   have by_:Bd b y:=hG i 0 hi h0 y ey
   walk_at "zz"
   rw[show(Int.toNat 0)=0 from rfl,ey,ZaE]
   refine Zbt (ZbY (bc i hi) by_ (by omega) (by omega)) ?_
   walk_at "zz"
   refine⟨by walk_at "zr",by walk_at "zr",by walk_at "zr",?_⟩
   rw[ZbX,Zpw,ey]
   simp only[Option.getD_some]
   congr 2
   omega
  rintro σ1 ⟨f0,f1,f3,f5⟩
  walk_at "zz"
  refine Zpv (us:=Zay c n) (P:=fun pre σ'=>σ' 0=some (.tup [.lst (tab (n+1) fun i=>.lst (tab (n+1) fun j=>oT (G i j))),.lst (tab n fun i=>ZQ (R i))])∧σ' 1=some (.lst (tab (n+1) fun i=>.int (c i)))∧σ' 5=some (.int (c 0+sU G c (Zau c n)-sD G c pre))) ?_ ⟨by walk_at "zr",by walk_at "zr",by simpa [sD]using f5⟩ ?_ ?_
  ·walk_at "zz"
   rfl
  ·rintro pre i σ' m ⟨g0,g1,g5⟩
   have hi:=hd i m
   obtain⟨y,ey⟩:=gd i m
   have by_:Bd b y:=hG 0 i h0 hi y ey
   walk_at "zz"
   rw[show(Int.toNat 0)=0 from rfl,ey,ZaE]
   refine Zbt (ZbY (bc i hi) by_ (by omega) (by omega)) ?_
   walk_at "zz"
   refine⟨by walk_at "zr",by walk_at "zr",?_⟩
   rw[ZbX,Zpx,ey]
   simp only[Option.getD_some]
   congr 2
   omega
  rintro σ2 ⟨g0,g1,g5⟩
  walk_at "zz"
  rw[(tot n).2 hl]
  rfl
theorem Zrp{N:TL→Prop}(hn:n≤60)(hb:b≤100000)(hG:GB b n G)(bc:∀i,i<n+1→Bd b (c i))(e0:σ 0=some (.tup [.lst (tab (n+1) fun i=>.lst (tab (n+1) fun j=>oT (G i j))),.lst (tab n fun i=>ZQ (R i))]))(e1:σ 1=some (.lst (tab (n+1) fun i=>.int (c i))))(e2:σ 2=some (.lst ((Zau c n).map fun i=>T.int (i:Nat))))(e3:σ 3=some (.lst ((Zay c n).map fun i=>T.int (i:Nat)))): Psk ((Zp (ZO (ZaB (Zx (Zc qEq (Zs Zat (Ze (Za 2) Zk)) (Zg 1))) (ZaB (Zx (Zc qEq (Zs Zat (Ze (Za 3) Zk)) (Zg 1))) (ZaB (Zx (Zc qEq (Zc Zl (Za 1) (Zc Zl (Za 2) (Zg 0))) (Zg 1))) (ZaB (Zx (Zc qEq (Zc Zl (Za 1) (Zc Zl (Za 3) (Zg 0))) (pUn Zc1 (Zg 1)))) Z4)))) (Zp (ZO (Zx (Zc qIs (Zc Zl (Zc Zl (Zc Zl (Za 0) (Zg 0)) (Zc Zl (Za 2) (Zg 0))) (Zc Zl (Za 3) (Zg 0))) (ZN))) (Zw (ZN)) ZR) (Zw (Zc ZV (Zc Zl (Zc Zl (Zc Zl (Za 0) (Zg 0)) (Zc Zl (Za 2) (Zg 0))) (Zc Zl (Za 3) (Zg 0))) (Zc Zl (Za 1) (Zg 0))))) ZR) (Zp (ZF 4 (Zc ZV (Zai (Zaz (Za 2)) (ZX 104) Z4 (Zc Zl (Zc Zl (Zc Zl (Za 0) (Zg 0)) (Za 104)) (Zg 0))) (Zai (Zaz (Za 3)) (ZX 106) Z4 (Zc Zl (Zc Zl (Zc Zl (Za 0) (Zg 0)) (Zg 0)) (Za 106))))) (Zp (ZO (Zx (Zc qIn (ZN) (Za 4))) (Zw (ZN)) ZR) (Zp (ZF 5 (Zc Zl (Za 1) (Zg 0))) (Zp (ZaA (Zaz (Za 2)) (ZX 6) (ZF 5 (Zc ZV (Za 5) (Zc ZaC (Zc Zl (Za 1) (Za 6)) (Zc Zl (Zc Zl (Zc Zl (Za 0) (Zg 0)) (Za 6)) (Zg 0)))))) (Zp (ZaA (Zaz (Za 3)) (ZX 6) (ZF 5 (Zc ZaM (Za 5) (Zc ZaC (Zc Zl (Za 1) (Za 6)) (Zc Zl (Zc Zl (Zc Zl (Za 0) (Zg 0)) (Zg 0)) (Za 6)))))) (Zw (Za 5)))))))) σ) (fun t=>t=oT (grt n G c)) N:=by
 by_cases h:Df n c
 ·obtain⟨u,d,eu,ed,hcu,hcd,hu,hd,_,_,iu,id_,_,_⟩:=ZfW h
  have hg:grt n G c=addO (G u d) (some (c 0)):=by unfold grt;rw[ZaR h,iu,id_];rfl
  rw[hg]
  rw[eu]at e2
  rw[ed]at e3
  simp only[List.map_cons,List.map_nil]at e2 e3
  walk_at "zz"
  cases hx:G u d with
  | none=>
   rw[Zbq]
   walk_at "zz"
   rfl
  | some y=>
   rw[ZaE]
   walk_at "zz"
   rw[hx,ZaE]
   walk_at "zz"
   rfl
 ·have hg:grt n G c=(ZbS c (S40 G) n).2:=by unfold grt;rw[Zbw h];rfl
  rw[hg]
  refine Zc7 (fun σ'=>σ'=σ) ?_ ?_
  ·by_cases l1:(Zau c n).length=1
   ·obtain⟨u,eu⟩:=List.length_eq_one_iff.mp l1
    have hu:u<n+1:=by have:=ups_mem.mp (show u∈Zau c n by rw[eu];simp);omega
    by_cases l2:(Zay c n).length=1
    ·obtain⟨d,ed⟩:=List.length_eq_one_iff.mp l2
     have hd:d<n+1:=by have:=dns_mem.mp (show d∈Zay c n by rw[ed];simp);omega
     have hno:¬(c u=1∧c d = -1):=fun q=>h (df_iff.mpr ⟨by rw[eu];simp[q.1],by rw[ed];simp[q.2]⟩)
     rw[eu]at e2
     rw[ed]at e3
     simp only[List.map_cons,List.map_nil]at e2 e3
     by_cases q1:c u=1
     ·have q2:c d≠-1:=fun q=>hno ⟨q1,q⟩
      walk_at "zz"
      rfl
     ·walk_at "zz"
      rfl
    ·rw[eu]at e2
     simp only[List.map_cons,List.map_nil]at e2
     have l3:((((Zay c n).map fun i=>T.int (i:Nat)).length:Nat):Int)≠1:=by rw[List.length_map];omega
     walk_at "zz"
     rfl
   ·have l3:((((Zau c n).map fun i=>T.int (i:Nat)).length:Nat):Int)≠1:=by rw[List.length_map];omega
    walk_at "zz"
    rfl
  ·rintro _ rfl
   exact ZqQ hn hb hG bc e0 e1 e2 e3
theorem ZqC(hn:n≤60)(hb:b≤100000)(hG:GB b n G)(bc:∀i,i<n+1→Bd b (c i)): Zi0 [ZE n G R,Zac n c]=some (oT (grt n G c)):=by
 apply Pk.eq
 unfold Zi0 Znc
 have ht:ZE n G R=.tup [.lst (tab (n+1) fun i=>.lst (tab (n+1) fun j=>oT (G i j))),.lst (tab n fun i=>ZQ (R i))]:=rfl
 rw[ht]
 unfold Zac
 refine Zmz rfl ?_
 have rg:∀{σ:TL} {j:Nat},σ 1=some (.lst (tab (n+1) fun i=>.int (c i)))→Pl (Zav (Ze (Zg 1) (Ze (Zs Zat (Ze (Za 1) Zk)) Zk)) σ) fun us=>us=tab n fun i=>T.int ((1+i:Nat):Int):=fun {σ} {j} e=>by
  refine Zl1 (a:=1) (m:=n) (by omega) (by omega) ?_ rfl
  simp only[Ze,Zg,Zk,Zs,Za,e,Option.bind_some,Zat,Zan]
  congr 3
  congr 1
  omega
 refine Zc7 (fun σ'=>σ' 0=some (.tup [.lst (tab (n+1) fun i=>.lst (tab (n+1) fun j=>oT (G i j))),.lst (tab n fun i=>ZQ (R i))])∧σ' 1=some (.lst (tab (n+1) fun i=>.int (c i)))∧σ' 2=some (.lst ((Zau c n).map fun i=>T.int (i:Nat)))) ?_ ?_
 ·refine Zmx ?_
  refine ZhD (ts:=tab n fun i=>T.int ((1+i:Nat):Int)) (P:=Zm4 c) (by rw[Zan];omega) (rg (j:=0) rfl) (fun t m=>?_) ?_
  ·obtain⟨i,hi,rfl⟩:=ZcO m
   have h1:1+i<n+1:=by omega
   walk_at "zz"
   show decide (0<c (1+i))=decide (0<c ((1+i:Nat):Int).toNat)
   rw[Int.toNat_natCast]
  ·rw[ZoO]
   exact⟨rfl,rfl,ZbX⟩
 rintro σ1 ⟨f0,f1,f2⟩
 refine Zc7 (fun σ'=>σ' 0=some (.tup [.lst (tab (n+1) fun i=>.lst (tab (n+1) fun j=>oT (G i j))),.lst (tab n fun i=>ZQ (R i))])∧σ' 1=some (.lst (tab (n+1) fun i=>.int (c i)))∧σ' 2=some (.lst ((Zau c n).map fun i=>T.int (i:Nat)))∧σ' 3=some (.lst ((Zay c n).map fun i=>T.int (i:Nat)))) ?_ ?_
 ·refine Zmx ?_
  refine ZhD (ts:=tab n fun i=>T.int ((1+i:Nat):Int)) (P:=Zm5 c) (by rw[Zan];omega) (rg (j:=0) f1) (fun t m=>?_) ?_
  ·obtain⟨i,hi,rfl⟩:=ZcO m
   have h1:1+i<n+1:=by omega
   walk_at "zz"
   show decide (c (1+i)<0)=decide (c ((1+i:Nat):Int).toNat<0)
   rw[Int.toNat_natCast]
  ·rw[ZoP]
   exact⟨by walk_at "zr",by walk_at "zr",by walk_at "zr",ZbX⟩
 rintro σ2 ⟨g0,g1,g2,g3⟩
 exact Zrp hn hb hG bc g0 g1 g2 g3
theorem Zpy{b n:Nat}{c:Nat→Int}{S:Nat→Sp}(bc:∀i,i<n+1→Bd b (c i))(bS:∀i,i<n→SBd b (S i)): ∀j,j≤n→∀y,(ZbS c S j).2=some y→Bd (b+b+j+1) y
 | 0,_,y,e=>by cases e;exact(bc 0 (by omega)).mono (by omega)
 | j+1,h,y,e=>by
  obtain⟨p,q,h1,h2,rfl⟩:=addO_some.mp (show addO (ZbS c S j).2 (Zco (S j) (c (j+1))).2=some y from e)
  have ih:=Zpy bc bS j (by omega) p h1
  have hq:Bd (b+b) q:=by
   unfold Zco at h2
   split at h2
   ·cases h2;exact Zdi
   ·split at h2
    ·obtain⟨z,e1,rfl⟩:=Zz1.mp h2
     exact((bS j (by omega)).1 z e1).mul (bc (j+1) (by omega))
    ·obtain⟨z,e1,rfl⟩:=Zz1.mp h2
     exact((bS j (by omega)).2 z e1).mul (bc (j+1) (by omega))
  exact(ih.add (hq.mono (by omega))).mono (by omega)
noncomputable def Zar(c:Nat→Int)(x:Nat→Int): Nat→Int
 | 0=>c 0
 | j+1=>Zar c x j+c (j+1)*x j
theorem Zpz{c x:Nat→Int}: ∀n,c 0+(tab n fun i=>c (i+1)*x i).sum=Zar c x n
 | 0=>by simp[tab,Zar]
 | n+1=>by
  rw[←Zcu (n:=n) (f:=fun i=>c (i+1)*x i),List.sum_append]
  have:=Zpz (c:=c) (x:=x) n
  simp only[List.sum_cons,List.sum_nil,Zar]
  omega
theorem Zp4{c x:Nat→Int}{S:Nat→Sp}{n:Nat}(h:∀i,i<n→InS (S i) (x i)): ∀j,j≤n→InS (ZbS c S j) (Zar c x j)
 | 0,_=>⟨fun l e=>by cases e;exact Int.le_refl _,fun l e=>by cases e;exact Int.le_refl _⟩
 | j+1,hj=>Zt5 (Zp4 h j (by omega)) (Zs7 (h j (by omega)))
noncomputable def sV(c x:Nat→Int)(l:List Nat): Int:=(l.map fun i=>c i*x (i-1)).sum
theorem Zoi{c x:Nat→Int}: ∀n,Zar c x n=c 0+sV c x (Zau c n)+sV c x (Zay c n)
 | 0=>by simp[Zar,sV,Zau,Zay]
 | n+1=>by
  have ih:=Zoi (c:=c) (x:=x) n
  have sn:∀l,sV c x (l++[n+1])=sV c x l+c (n+1)*x n:=fun l=>by simp[sV]
  simp only[Zar,Zau,Zay,ih]
  rcases Int.lt_trichotomy (c (n+1)) 0 with h | h | h
  ·rw[if_neg (by omega),if_pos h,List.append_nil,sn]
   omega
  ·rw[if_neg (by omega),if_neg (by omega),List.append_nil,List.append_nil,h]
   omega
  ·rw[if_pos h,if_neg (by omega),List.append_nil,sn]
   omega
theorem Zwl(h:Zax n G R x)(e:grt n G c=some y): Zar c x n≤y:=by
 unfold grt at e
 by_cases hd:Df n c
 ·rw[ZaR hd]at e
  obtain⟨u,d,eu,ed,hcu,hcd,hu,hdn,hu1,hd1,iu,id_,_,_⟩:=ZfW hd
  rw[iu,id_]at e
  obtain⟨p,q,h1,h2,rfl⟩:=addO_some.mp (show addO (G u d) (some (c 0))=some y from e)
  cases h2
  have hb:=h.1 u d hu hdn p h1
  rw[Zoi,eu,ed]
  have f:∀i,1≤i→Zaq x i=x (i-1):=fun i hi=>by
   cases i with
   | zero=>omega
   | succ i=>rfl
  rw[f u hu1,f d hd1]at hb
  simp only[sV,List.map_cons,List.map_nil,List.sum_cons,List.sum_nil,hcu,hcd]
  omega
 ·rw[Zbw hd]at e
  refine(Zp4 (S:=S40 G) (n:=n) (fun i hi=>⟨fun l el=>?_,fun r er=>?_⟩) n (Zz10 n)).2 y e
  ·obtain⟨z,e1,rfl⟩:=Zz1.mp el
   have:=h.1 0 (i+1) (by omega) (by omega) z e1
   have f0:Zaq x 0=0:=rfl
   have f1:Zaq x (i+1)=x i:=rfl
   show z*(-1)≤x i
   omega
  ·have:=h.1 (i+1) 0 (by omega) (by omega) r er
   have f0:Zaq x 0=0:=rfl
   have f1:Zaq x (i+1)=x i:=rfl
   omega
theorem Zuc(hn:n≤60)(hb:b≤100000)(bc:∀i,i<n+1→Bd b (c i))(bx:∀i,i<n→Bd b (x i)): Zha [Zac n c,ZbG n x]=some (.int (Zar c x n)):=by
 apply Pk.eq
 unfold Zha Zkf Zac ZbG
 have h0:0<n+1:=by omega
 walk_at "zz"
 refine Zbg (n:=n) (a:=fun i=>.int i) (b:=fun i=>.int (c (i+1)*x i)) (by omega) ?_ (fun i hi=>?_) ?_
 ·walk_at "zz"
  rfl
 ·walk_at "zz"
  rw[show((i:Int)+1).toNat=i+1 by omega]
  exact Zbt (ZbY (bc (i+1) (by omega)) (bx i hi) (by omega) (by omega)) rfl
 walk_at "zz"
 refine⟨.int (tab n fun i=>c (i+1)*x i).sum,by simp only[Zix,ZtE,Option.map_some],?_⟩
 walk_at "zz"
 rw[show(Int.toNat 0)=0 from rfl,Zpz]
noncomputable def SumB(n:Nat)(c:Nat→Int)(K:Int): Prop:=Bd 140 (c 0)∧∀i,1≤i→i<n+1→-K≤c i∧c i≤K
theorem SumB.bd(h:SumB n c K)(hK:K≤4000000000): ∀i,i<n+1→Bd 140 (c i):=fun i hi=>by
 by_cases q:i=0
 ·subst q;exact h.1
 ·have:=h.2 i (by omega) hi
  exact ZbL (i:=33) (by omega) (by decide)
theorem SumB.mono(h:SumB n c K)(hK:K≤K'): SumB n c K':=⟨h.1,fun i h1 h2=>by have:=h.2 i h1 h2;omega⟩
theorem Zh7{x:Nat}{v k:Int}{N:TL→Prop}(e:σ x=some (.lst (tab (n+1) fun i=>.int (c i))))(h0:1≤k)(h1:k<(n+1:Nat))(bc:SumB n c K)(hK:K≤K')(v0:-K'≤v)(v1:v≤K')(h:∀c',SumB n c' K'→N (ZY σ x (.lst (tab (n+1) fun i=>.int (c' i))))): PutP σ x (.int v) (.int k) N:=by
 refine Zn3 (n:=n+1) (f:=fun i=>.int (c i)) e (by omega) h1 ?_
 have:=h (fun i=>if i=k.toNat then v else c i) ⟨by show Bd 140 (if 0=k.toNat then v else c 0);rw[if_neg (by omega)];exact bc.1,fun i hi1 hi2=>by
  by_cases q:i=k.toNat
  ·simp only[q,if_true];exact⟨v0,v1⟩
  ·simp only[q,if_false];have:=bc.2 i hi1 hi2;omega⟩
 rw[show(tab (n+1) fun i=>if i=k.toNat then T.int v else T.int (c i))=tab (n+1) fun i=>T.int (if i=k.toNat then v else c i)from Za2 fun i _=>by split <;> rfl]
 exact this
noncomputable def unC(i:Nat): Nat→Int:=fun k=>if 0<i∧k=i then 1 else 0
theorem Zk5(hn:n≤900): Zec [.int i,.int n]=some (Zac n (unC i)):=by
 apply Pk.eq
 unfold Zec Zlt Zac
 walk_at "zz"
 refine Zbg (n:=n+1) (a:=fun k=>.int (k:Nat)) (b:=fun k=>.int (unC i k)) (by omega) ?_ (fun k hk=>?_) rfl
 ·walk_at "zz"
  exact ZmT (n+1) (by omega) (by omega) rfl
 ·walk_at "zz"
  by_cases h:0<i
  ·refine⟨fun _=>?_,fun c=>absurd c (by simp;omega)⟩
   walk_at "zz"
   by_cases q:k=i
   ·refine⟨fun _=>?_,fun c=>absurd c (by simp[q])⟩
    walk_at "zz"
    show _=T.int (unC i k)
    unfold unC
    rw[if_pos ⟨h,q⟩]
   ·refine⟨fun c=>absurd c (by simp;omega),fun _=>?_⟩
    walk_at "zz"
    show _=T.int (unC i k)
    unfold unC
    rw[if_neg (fun c=>q c.2)]
  ·refine⟨fun c=>absurd c (by simp;omega),fun _=>⟨fun c=>absurd c (by decide),fun _=>?_⟩⟩
   walk_at "zz"
   show _=T.int (unC i k)
   unfold unC
   rw[if_neg (fun c=>h c.1)]
theorem ZrM(hn:n≤900): Zhn [Zac n c,Zac n d]=some (Zac n fun k=>c k+d k):=by
 apply Pk.eq
 unfold Zhn ZkS Zac
 walk_at "zz"
 refine ZlL (n:=n+1) (a:=fun i=>.int (c i)) (b:=fun i=>.int (d i)) (c:=fun i=>.int (c i+d i)) (by omega) ?_ (fun i hi=>?_) rfl
 ·walk_at "zz"
  rfl
 ·walk_at "zz"
  rfl
theorem ZrN(hn:n≤900)(hb1:1≤b)(hb:b≤100000)(bd:∀i,i<n+1→Bd b (d i)): Zho [Zac n c,Zac n d]=some (Zac n fun k=>c k-d k):=by
 apply Pk.eq
 unfold Zho ZkV
 walk_at "zz"
 refine ZJ (Zro (by omega) hb bd (show Bd b (-1)by unfold Bd;have:=ZgM hb1;unfold Bd at this;simpa using this)) ?_
 walk_at "zz"
 refine ZJ (ZrM hn) ?_
 walk_at "zz"
 have:(fun k=>c k+d k * -1)=fun k=>c k-d k:=by funext k;omega
 rw[this]
noncomputable def Zcq(C:Nat→Nat→Int): Nat→Nat→Int
 | 0=>fun _=>0
 | i+1=>C i
noncomputable def dC(C:Nat→Nat→Int)(i j:Nat): Nat→Int:=fun k=>Zcq C i k-Zcq C j k
noncomputable def rcG(n:Nat)(G:Nat→Nat→Option Int)(C:Nat→Nat→Int)(i j:Nat): Option Int:=grt n G (dC C i j)
noncomputable def rcR(n:Nat)(R:Nat→Int×Int)(C:Nat→Nat→Int)(i:Nat): Int×Int:=ZdN (C i) R n
noncomputable def ZaF(n m:Nat)(C:Nat→Nat→Int): T:=.lst (tab m fun i=>Zac n (C i))
noncomputable def CB(b n m:Nat)(C:Nat→Nat→Int): Prop:=∀i,i<m→∀k,k<n+1→Bd b (C i k)
theorem CB.full(h:CB b n m C): ∀i,i<m+1→∀k,k<n+1→Bd b (Zcq C i k)
 | 0,_,_,_=>Zdi
 | i+1,hi,k,hk=>h i (by omega) k hk
theorem CB.dif(h:CB b n m C)(hi:i<m+1)(hj:j<m+1): ∀k,k<n+1→Bd (b+1) (dC C i j k):=fun k hk=>by
 have h1:=h.full i hi k hk
 have h2:=h.full j hj k hk
 unfold Bd dC at *
 rw[Nat.pow_succ]
 omega
theorem unC_0: unC 0=fun _=>0:=by funext k;unfold unC;rw[if_neg (by omega)]
theorem Zvp(hG:GB b n G)(bc:∀i,i<n+1→Bd b (c i)): ∀y,grt n G c=some y→Bd (b+b+n+1) y:=fun y e=>by
 unfold grt at e
 by_cases h:Df n c
 ·rw[ZaR h]at e
  obtain⟨u,d,_,_,_,_,hu,hd,_,_,iu,id_,_,_⟩:=ZfW h
  rw[iu,id_]at e
  obtain⟨p,q,h1,h2,rfl⟩:=addO_some.mp (show addO (G u d) (some (c 0))=some y from e)
  cases h2
  exact((hG u d hu hd p h1).add (bc 0 (by omega))).mono (by omega)
 ·rw[Zbw h]at e
  exact(Zpy bc (Zp3 hG) n (Zz10 n) y e).mono (by omega)
theorem Zwm{B:Nat}(hG:GB b n G)(hC:CB b n m C)(hB:b+b+n+3≤B): SmG B m (rcG n G C):=fun i j hi hj y e=>(Zvp (b:=b+1) (fun u v hu hv z e=>(hG u v hu hv z e).mono (by omega)) (hC.dif hi hj) y e).mono (by omega)
theorem Zqe(ok:∀t,t<n→RestOk (R t)): ∀t,t<m→RestOk (rcR n R C t):=fun t _=>by
 unfold rcR
 rw[ZdW ok n (Zz10 n)]
 exact ZcL (Zge _ _ _) _
theorem Zwn{B:Nat}(ok:∀t,t<n→RestOk (R t))(hR:∀t,t<n→RBd b (R t))(hC:CB b n m C)(hB:b+b+n≤B): SmR B m (rcR n R C):=fun t ht=>by
 unfold rcR
 rw[ZdW ok n (Zz10 n)]
 exact Zhy (Zge _ _ _) ((Zh3 (fun k hk=>hC t ht k hk) hR n (Zz10 n)).mono (by omega)) ((Zpm (fun k hk=>hC t ht k hk) hR n (Zz10 n)).mono (by omega))
theorem ZwT(h:∀k,c k=0): ∀n,Zau c n=[]
 | n=>List.eq_nil_iff_forall_not_mem.mpr fun i hi=>by have:=(ups_mem.mp hi).2.2;rw[h]at this;omega
theorem Zqf(h:∀k,c k=0): grt n G c=some 0:=by
 unfold grt
 have hd:¬Df n c:=fun q=>by have:=(df_iff.mp q).1;rw[ZwT h]at this;cases this
 rw[Zbw hd]
 have:∀j,ZbS c (S40 G) j=(some 0,some 0):=fun j=>by
  induction j with
  | zero=>show(some (c 0),some (c 0))=_;rw[h]
  | succ j ih=>
   show Ziq (ZbS c (S40 G) j) (Zco (S40 G j) (c (j+1)))=_
   rw[ih,h]
   rfl
 show(ZbS c (S40 G) n).2=some 0
 rw[this]
theorem Zw5: ∀i,i<m+1→rcG n G C i i=some 0:=fun i _=>Zqf fun k=>by unfold dC;omega
theorem ZpA{c d x:Nat→Int}: ∀n,Zar (fun k=>c k-d k) x n=Zar c x n-Zar d x n
 | 0=>rfl
 | n+1=>by
  simp only[Zar,ZpA n,Int.sub_mul]
  omega
theorem ZoR{x:Nat→Int}: ∀n,Zar (fun _=>0) x n=0
 | 0=>rfl
 | n+1=>by simp only[Zar,ZoR n,Int.zero_mul];omega
theorem ZoS: ∀i,Zar (Zcq C i) x n=Zaq (fun t=>Zar (C t) x n) i
 | 0=>ZoR n
 | i+1=>rfl
theorem ZpB{c:Nat→Int}{R:Nat→Int×Int}{x:Nat→Int}{n:Nat}(ok:∀t,t<n→RestOk (R t))(h:∀t,t<n→Zao (R t) (x t)): ∀j,j≤n→ZbT c R j ∣ Zar c x j-Zb6 c R j
 | 0,_=>by show(0:Int) ∣ c 0-c 0;rw[Int.sub_self];exact Int.dvd_zero _
 | j+1,hj=>by
  have h1:ZbT c R (j+1) ∣ ZbT c R j:=Int.gcd_dvd_left ..
  have h2:ZbT c R (j+1) ∣ c (j+1)*(R j).1:=Int.gcd_dvd_right ..
  obtain⟨z,hz⟩:=(Za3 (ok j (by omega)).nn (x j)).mp (h j (by omega))
  have h3:=Int.dvd_add (Int.dvd_trans h1 (ZpB ok h j (by omega))) (Int.dvd_trans h2 (Int.dvd_mul_right _ z))
  rw[show Zar c x (j+1)=Zar c x j+c (j+1)*x j from rfl,show Zb6 c R (j+1)=Zb6 c R j+c (j+1)*(R j).2 from rfl,show x j=(R j).2+(R j).1*z by omega,Int.mul_add,←Int.mul_assoc]
  generalize c (j+1)*(R j).1*z=u at *
  generalize c (j+1)*(R j).2=v at *
  rwa [show Zar c x j+(v+u)-(Zb6 c R j+v)=Zar c x j-Zb6 c R j+u by omega]
theorem ZpC(ok:∀t,t<n→RestOk (R t))(h:Zax n G R x): Zax m (rcG n G C) (rcR n R C) fun t=>Zar (C t) x n:=by
 refine⟨fun i j hi hj b e=>?_,fun t ht=>?_⟩
 ·rw[←ZoS,←ZoS,←ZpA]
  exact Zwl h e
 ·unfold rcR
  rw[ZdW ok n (Zz10 n)]
  exact(Zc5 (Zge _ _ _) _).mpr (ZpB ok h.2 n (Zz10 n))
theorem Zoj{kk:Int}{w at_ m lo:Int}{N:TL→Prop}(hk0:0≤kk)(hk9:kk≤1000)(hm:0<m)(hn:n≤9)(hK:K≤K')(hlo:-K'≤-lo)(hhi:m-1-lo≤K')(e0:σ 0=some (scr ns))(e1:σ 1=some (.int kk))(e2:σ 2=some (.int n))(e4:σ 4=some (.int w))(e5:σ 5=some (.int (1+at_)))(e3:σ 3=some (.lst (tab (n+1) fun i=>.int (c i))))(bc:SumB n c K)(h:∀σ' c',σ' 0=some (scr ns)→σ' 1=some (.int kk)→σ' 2=some (.int n)→σ' 4=some (.int w)→σ' 5=some (.int (1+at_))→σ' 3=some (.lst (tab (n+1) fun i=>.int (c' i)))→SumB n c' K'→N σ')(pm plo:PE)(epm:∀σ,pm σ=some (.int m))(eplo:∀σ,plo σ=some (.int lo)): Psk (ZaA (Zav (Ze (Za 2) Zk)) (ZX 7) (ZbR 3 [] (Zc ZaM (Zs ZbV (Ze (Za 0) (Ze (Zc ZV (Zc ZV (Za 1) (Zg 1)) (Za 7)) (Ze pm Zk)))) plo) Za1 (Zc ZV (Za 7) (Zg 1))) σ) Q N:=by
 refine Za6 (n:=n) (a:=fun i=>.int i) (P:=fun _ σ'=>σ' 0=some (scr ns)∧σ' 1=some (.int kk)∧σ' 2=some (.int n)∧σ' 4=some (.int w)∧σ' 5=some (.int (1+at_))∧∃c',σ' 3=some (.lst (tab (n+1) fun i=>.int (c' i)))∧SumB n c' K') ?_ ⟨e0,e1,e2,e4,e5,c,e3,bc.mono hK⟩ ?_ ?_
 ·walk_at "zz"
  rfl
 ·rintro i σ' hi ⟨f0,f1,f2,f4,f5,c',f3,bc'⟩
  obtain⟨k0,k1⟩:=ZcP ns (kk+1+(i:Int)) hm
  walk_at "zz"
  refine⟨_,epm _,?_⟩
  walk_at "zz"
  refine ZJ (ZcQ (by omega) (by omega) hm) ?_
  refine⟨_,eplo _,?_⟩
  walk_at "zz"
  refine Zh7 (n:=n) (c:=c') (K:=K') (K':=K') (by walk_at "zr") (by omega) (by omega) bc' (Int.le_refl _) (by omega) (by omega) fun c2 bc2=>?_
  exact⟨by walk_at "zr",by walk_at "zr",by walk_at "zr",by walk_at "zr",by walk_at "zr",c2,ZbX,bc2⟩
 ·rintro σ' ⟨f0,f1,f2,f4,f5,c',f3,bc'⟩
  exact h σ' c' f0 f1 f2 f4 f5 f3 bc'
theorem ZwU{kk:Int}(hk0:0≤kk)(hk9:kk≤1000)(hL:Lay ns)(hn:n≤9): Pk (Zhw [scr ns,.int kk,.int n]) fun t=>∃c,t=Zac n c∧SumB n c 1000000000:=by
 unfold Zhw Zlr
 have bn:Bd 140 (Zck ns kk):=ZbL (Zgd ns kk) (by decide)
 obtain⟨p0,p1⟩:=ZcP ns kk (show(0:Int)<6 by decide)
 refine Zmz rfl ?_
 refine Zc7 (fun σ'=>σ' 0=some (scr ns)∧σ' 1=some (.int kk)∧σ' 2=some (.int n)∧∃c,σ' 3=some (.lst (tab (n+1) fun i=>.int (c i)))∧SumB n c 0) ?_ ?_
 ·walk_at "zz"
  refine ZJ (ZfU hL (by omega) (by omega)) ?_
  walk_at "zz"
  refine Zh5 (by omega) ?_
  refine Zpa (by omega) ?_
  rw[show cn (T.int (Zck ns kk)) (fun _=>T.int 0)=fun i=>T.int (cn (Zck ns kk) (fun _=>0) i)from by funext i;cases i <;> rfl]
  refine⟨Zhb fun _ _=>rfl,?_⟩
  refine⟨rfl,rfl,rfl,_,ZbX,bn,fun i h1 h2=>?_⟩
  cases i with
  | zero=>omega
  | succ i=>exact⟨Int.le_refl 0,Int.le_refl 0⟩
 rintro σ1 ⟨e0,e1,e2,c,e3,bc⟩
 walk_at "zz"
 refine ZJ (ZcQ (by omega) (by omega) (by decide)) ?_
 by_cases hz:Zbn ns kk 6=0∨n=0
 ·rcases hz with hz | hz
  ·walk_at "zz"
   exact⟨c,rfl,bc.mono (by decide)⟩
  ·by_cases q:Zbn ns kk 6=0
   ·walk_at "zz"
    exact⟨c,rfl,bc.mono (by decide)⟩
   ·have:(n:Int)=0:=by omega
    walk_at "zz"
    exact⟨c,rfl,bc.mono (by decide)⟩
 have hz1:Zbn ns kk 6≠0:=fun q=>hz (.inl q)
 have hn0:(n:Int)≠0:=fun q=>hz (.inr (by omega))
 obtain⟨a0,a1⟩:=ZcP ns (kk+1) (show(0:Int)<n by omega)
 walk_at "zz"
 refine ZJ (ZcQ (by omega) (by omega) (by omega)) ?_
 refine ZmA ?_
 generalize Zbn ns kk 6=w at *
 generalize Zbn ns (kk+1) n=at_ at *
 let M:Int→TL→Prop:=fun K σ'=>σ' 0=some (scr ns)∧σ' 1=some (.int kk)∧σ' 2=some (.int n)∧σ' 4=some (.int w)∧σ' 5=some (.int (1+at_))∧∃c,σ' 3=some (.lst (tab (n+1) fun i=>.int (c i)))∧SumB n c K
 refine Zc7 (M 6) ?_ ?_
 ·walk_at "zz"
  refine⟨fun q=>?_,fun q=>?_⟩
  ·obtain⟨k0,k1⟩:=ZcP ns (kk+2) (show(0:Int)<13 by decide)
   walk_at "zz"
   refine ZJ (ZcQ (by omega) (by omega) (by decide)) ?_
   walk_at "zz"
   refine Zh7 (n:=n) (c:=c) (K:=0) (K':=6) (by walk_at "zr") (by omega) (by omega) bc (by decide) (by omega) (by omega) fun c' bc'=>?_
   exact⟨by walk_at "zr",by walk_at "zr",by walk_at "zr",by walk_at "zr",by walk_at "zr",c',ZbX,bc'⟩
  ·walk_at "zz"
   exact⟨by walk_at "zr",by walk_at "zr",by walk_at "zr",by walk_at "zr",by walk_at "zr",c,by walk_at "zr",bc.mono (by decide)⟩
 clear bc e3 c
 rintro σ2 ⟨f0,f1,f2,f4,f5,c1,f3,bc1⟩
 refine Zc7 (M 7) ?_ ?_
 ·have go:Psk ((Zp (ZF 6 (Zc ZV (Zg 1) (Zs ZbV (Ze (Za 0) (Ze (Zc ZV (Za 1) (Zg 2)) (Ze (Za 2) Zk)))))) (Zp (ZbR 3 [] (Zg 1) Za1 (Za 5)) (ZbR 3 [] (Zc ZaM (Zc Zl (Za 3) (Za 6)) (Zg 1)) Za1 (Za 6)))) σ2) (fun t=>∃c,t=Zac n c∧SumB n c 1000000000) (M 7):=by
   obtain⟨k0,k1⟩:=ZcP ns (kk+2) (show(0:Int)<n by omega)
   walk_at "zz"
   refine ZJ (ZcQ (by omega) (by omega) (by omega)) ?_
   generalize Zbn ns (kk+2) n=to_ at *
   walk_at "zz"
   refine Zh7 (n:=n) (c:=c1) (K:=6) (K':=6) (by walk_at "zr") (by omega) (by omega) bc1 (by decide) (by decide) (by decide) fun c' bc'=>?_
   have hto:=bc'.2 (1+to_).toNat (by omega) (by omega)
   walk_at "zz"
   refine Zh7 (n:=n) (c:=c') (K:=6) (K':=7) (by walk_at "zr") (by omega) (by omega) bc' (by decide) (by omega) (by omega) fun c2 bc2=>?_
   exact⟨by walk_at "zr",by walk_at "zr",by walk_at "zr",by walk_at "zr",by walk_at "zr",c2,ZbX,bc2⟩
  have no:M 7 σ2:=⟨f0,f1,f2,f4,f5,c1,f3,bc1.mono (by decide)⟩
  by_cases q2:w=2
  ·refine Zmy ?_
   refine⟨true,?_,fun _=>go,fun e=>by cases e⟩
   simp[bOr,Zx,Zc,Za,f4,Zg,qEq,ZhU,ZbM,q2]
  ·by_cases q3:w=3
   ·refine Zmy ?_
    refine⟨true,?_,fun _=>go,fun e=>by cases e⟩
    simp[bOr,Zx,Zc,Za,f4,Zg,qEq,ZhU,ZbM,q3]
   ·walk_at "zz"
    exact no
 clear bc1 f3 c1
 clear f0 f1 f2 f4 f5
 rintro σ3 ⟨f0,f1,f2,f4,f5,c1,f3,bc1⟩
 refine Zc7 (M 7) ?_ ?_
 ·walk_at "zz"
  refine⟨fun q=>?_,fun q=>?_⟩
  ·exact Zoj hk0 hk9 (m:=7) (lo:=3) (K:=7) (K':=7) (by decide) hn (by decide) (by decide) (by decide) f0 f1 f2 f4 f5 f3 bc1 (fun σ' c' g0 g1 g2 g4 g5 g3 bc'=>⟨g0,g1,g2,g4,g5,c',g3,bc'⟩) _ _ (fun _=>rfl) (fun _=>rfl)
  ·walk_at "zz"
   exact⟨f0,f1,f2,f4,f5,c1,f3,bc1⟩
 clear bc1 f3 c1
 clear f0 f1 f2 f4 f5
 rintro σ4 ⟨f0,f1,f2,f4,f5,c1,f3,bc1⟩
 refine Zc7 (M 1000000000) ?_ ?_
 ·walk_at "zz"
  refine⟨fun q=>?_,fun q=>?_⟩
  ·exact Zoj hk0 hk9 (m:=2000000001) (lo:=1000000000) (K:=7) (K':=1000000000) (by decide) hn (by decide) (by decide) (by decide) f0 f1 f2 f4 f5 f3 bc1 (fun σ' c' g0 g1 g2 g4 g5 g3 bc'=>⟨g0,g1,g2,g4,g5,c',g3,bc'⟩) _ _ (fun _=>rfl) (fun _=>rfl)
  ·walk_at "zz"
   exact⟨f0,f1,f2,f4,f5,c1,f3,bc1.mono (by decide)⟩
 rintro σ5 ⟨g0,g1,g2,g4,g5,c2,g3,bc2⟩
 walk_at "zz"
 exact⟨c2,rfl,bc2⟩
theorem ZoT: ∀{n:Nat},(∀i,1≤i→i≤n→¬0<c i)→Zau c n=[]
 | n,h=>List.eq_nil_iff_forall_not_mem.mpr fun i hi=>h i (ups_mem.mp hi).1 (ups_mem.mp hi).2.1 (ups_mem.mp hi).2.2
theorem ZoU: ∀{n:Nat},(∀i,1≤i→i≤n→¬c i<0)→Zay c n=[]
 | n,h=>List.eq_nil_iff_forall_not_mem.mpr fun i hi=>h i (dns_mem.mp hi).1 (dns_mem.mp hi).2.1 (dns_mem.mp hi).2.2
theorem ZpD{c:Nat→Int}{a:Nat}: ∀{n:Nat},(∀i,1≤i→i≤n→(0<c i↔i=a))→1≤a→a≤n→Zau c n=[a]
 | 0,_,h1,h2=>by omega
 | n+1,h,h1,h2=>by
  have hn:=h (n+1) (by omega) (by omega)
  show Zau c n++(if 0<c (n+1)then [n+1]else [])=[a]
  by_cases q:n+1=a
  ·rw[if_pos (hn.mpr q),ZoT (fun i g1 g2 g=>by have:=(h i g1 (by omega)).mp g;omega),q];rfl
  ·rw[if_neg (fun g=>q (hn.mp g)),ZpD (fun i g1 g2=>h i g1 (by omega)) h1 (by omega)];rfl
theorem ZpE{c:Nat→Int}{a:Nat}: ∀{n:Nat},(∀i,1≤i→i≤n→(c i<0↔i=a))→1≤a→a≤n→Zay c n=[a]
 | 0,_,h1,h2=>by omega
 | n+1,h,h1,h2=>by
  have hn:=h (n+1) (by omega) (by omega)
  show Zay c n++(if c (n+1)<0 then [n+1]else [])=[a]
  by_cases q:n+1=a
  ·rw[if_pos (hn.mpr q),ZoU (fun i g1 g2 g=>by have:=(h i g1 (by omega)).mp g;omega),q];rfl
  ·rw[if_neg (fun g=>q (hn.mp g)),ZpE (fun i g1 g2=>h i g1 (by omega)) h1 (by omega)];rfl
theorem Ze7{a:Nat}(h:1≤a): unC a a=1:=by unfold unC;rw[if_pos ⟨by omega,rfl⟩]
theorem ZdZ{a:Nat}(h:k≠a): unC a k=0:=by unfold unC;rw[if_neg (fun q=>h q.2)]
theorem Zp5{a:Nat}(ha:a<n+1)(hb:b<n+1)(hd:∀i,i<n+1→G i i=some 0): grt n G (fun k=>unC a k-unC b k)=G a b:=by
 by_cases hab:a=b
 ·subst hab
  rw[Zqf (fun k=>by omega),hd a ha]
 have c0:(fun k=>unC a k-unC b k) 0=0:=by
  show unC a 0-unC b 0=0
  unfold unC
  rw[if_neg (by omega),if_neg (by omega)];rfl
 generalize hc:(fun k=>unC a k-unC b k)=c at *
 have hk:∀k,c k=unC a k-unC b k:=fun k=>by rw[←hc]
 have hu:∀k,(unC a k=1∧1≤a∧k=a)∨(unC a k=0∧(a=0∨k≠a)):=fun k=>by
  unfold unC
  split
  ·rename_i q;exact .inl ⟨rfl,q.1,q.2⟩
  ·rename_i q;exact .inr ⟨rfl,by omega⟩
 have hv:∀k,(unC b k=1∧1≤b∧k=b)∨(unC b k=0∧(b=0∨k≠b)):=fun k=>by
  unfold unC
  split
  ·rename_i q;exact .inl ⟨rfl,q.1,q.2⟩
  ·rename_i q;exact .inr ⟨rfl,by omega⟩
 have up:1≤a→Zau c n=[a]:=fun h1=>ZpD (fun i g1 g2=>by rw[hk];have:=hu i;have:=hv i;omega) h1 (by omega)
 have up0:a=0→Zau c n=[]:=fun h1=>ZoT fun i g1 g2=>by rw[hk];have:=hu i;have:=hv i;omega
 have dn:1≤b→Zay c n=[b]:=fun h1=>ZpE (fun i g1 g2=>by rw[hk];have:=hu i;have:=hv i;omega) h1 (by omega)
 have dn0:b=0→Zay c n=[]:=fun h1=>ZoU fun i g1 g2=>by rw[hk];have:=hu i;have:=hv i;omega
 unfold grt
 by_cases h:1≤a∧1≤b
 ·have ca:c a=1:=by rw[hk,Ze7 h.1,ZdZ (by omega)];rfl
  have cb:c b = -1:=by rw[hk,Ze7 h.2,ZdZ (by omega)];rfl
  have hD:Df n c:=df_iff.mpr ⟨by rw[up h.1,List.map_cons,ca];rfl,by rw[dn h.2,List.map_cons,cb];rfl⟩
  rw[ZaR hD]
  obtain⟨u,d,e1,e2,_,_,_,_,_,_,i1,i2,_,_⟩:=ZfW hD
  rw[up h.1]at e1
  rw[dn h.2]at e2
  cases e1;cases e2
  show addO (G (1+(xsI n c).idxOf 1) (1+(xsI n c).idxOf (-1))) (some (c 0))=_
  rw[i1,i2,c0]
  cases G a b with
  | none=>rfl
  | some y=>show some (y+0)=some y;rw[Int.add_zero]
 ·have hD:¬Df n c:=fun q=>by
   obtain⟨h1,h2⟩:=df_iff.mp q
   by_cases g:1≤a
   ·rw[dn0 (by omega)]at h2;cases h2
   ·rw[up0 (by omega)]at h1;cases h1
  rw[Zbw hD]
  show(ZbS c (S40 G) n).2=_
  obtain⟨t1,t2⟩:=tot (G:=G) (c:=c) n
  by_cases g:1≤a
  ·have hb0:b=0:=by omega
   have ca:c a=1:=by rw[hk,Ze7 g,ZdZ (by omega)];rfl
   subst hb0
   cases e:G a 0 with
   | none=>exact t1 (.inl ⟨a,by rw[up g];exact Zz9.mpr rfl,e⟩)
   | some y=>
    rw[t2 (fun q=>by
     rcases q with⟨i,hi,q⟩ | ⟨i,hi,q⟩
     ·rw[up g]at hi;rw[List.mem_singleton.mp hi,e]at q;cases q
     ·rw[dn0 rfl]at hi;cases hi),up g,dn0 rfl,c0]
    simp[sU,sD,ca,e]
  ·have ha0:a=0:=by omega
   have hb1:1≤b:=by omega
   have cb:c b = -1:=by rw[hk,Ze7 hb1,ZdZ (by omega)];rfl
   subst ha0
   cases e:G 0 b with
   | none=>exact t1 (.inr ⟨b,by rw[dn hb1];exact Zz9.mpr rfl,e⟩)
   | some y=>
    rw[t2 (fun q=>by
     rcases q with⟨i,hi,q⟩ | ⟨i,hi,q⟩
     ·rw[up0 rfl]at hi;cases hi
     ·rw[dn hb1]at hi;rw[List.mem_singleton.mp hi,e]at q;cases q),up0 rfl,dn hb1,c0]
    simp[sU,sD,cb,e]
theorem ZmM{a:Nat}{R:Nat→Int×Int}(h1:1≤a)(nn:0≤(R (a-1)).1): ∀j,ZbT (unC a) R j=(if a≤j then(R (a-1)).1 else 0)∧Zb6 (unC a) R j=if a≤j then(R (a-1)).2 else 0
 | 0=>by
  rw[if_neg (by omega),if_neg (by omega)]
  exact⟨rfl,ZdZ (by omega)⟩
 | j+1=>by
  obtain⟨i1,i2⟩:=ZmM h1 nn j
  show((Int.gcd (ZbT (unC a) R j) (unC a (j+1)*(R j).1):Nat):Int)=_∧Zb6 (unC a) R j+unC a (j+1)*(R j).2=_
  rw[i1,i2]
  by_cases q:j+1=a
  ·subst q
   rw[Ze7 h1,if_neg (by omega),if_pos (by omega),if_neg (by omega),if_pos (by omega),Nat.add_sub_cancel]
   rw[Nat.add_sub_cancel]at nn
   constructor
   ·rw[Int.one_mul,Int.gcd_zero_left];omega
   ·omega
  ·rw[ZdZ q,Int.zero_mul,Int.zero_mul,Int.gcd_zero_right]
   by_cases g:a≤j
   ·rw[if_pos g,if_pos (by omega),if_pos g,if_pos (by omega)]
    exact⟨by omega,by omega⟩
   ·rw[if_neg g,if_neg (by omega),if_neg g,if_neg (by omega)]
    exact⟨rfl,rfl⟩
theorem ZpF{a:Nat}(ok:∀t,t<n→RestOk (R t))(h1:1≤a)(h2:a≤n): ZdN (unC a) R n=R (a-1):=by
 have oa:=ok (a-1) (by omega)
 rw[ZdW ok n (Zz10 n),(ZmM h1 oa.nn n).1,(ZmM h1 oa.nn n).2,if_pos h2,if_pos h2]
 exact ZfC (ZcL oa.nn _) oa fun x=>by rw[Zc5 oa.nn,Za3 oa.nn]
noncomputable def fO(o:Nat→Nat): Nat→Nat
 | 0=>0
 | t+1=>o t
noncomputable def trG(G:Nat→Nat→Option Int)(o:Nat→Nat)(i j:Nat): Option Int:=G (fO o i) (fO o j)
noncomputable def trR(R:Nat→Int×Int)(o:Nat→Nat)(t:Nat): Int×Int:=R (o t-1)
noncomputable def Ord(n m:Nat)(o:Nat→Nat): Prop:=∀t,t<m→1≤o t∧o t≤n
theorem Ord.lt{o:Nat→Nat}(h:Ord n m o): ∀i,i<m+1→fO o i<n+1
 | 0,_=>by show 0<n+1;omega
 | t+1,ht=>by have:=h t (by omega);show o t<n+1;omega
theorem ZpG{o:Nat→Nat}: ∀i,Zcq (fun t=>unC (o t)) i=unC (fO o i)
 | 0=>unC_0.symm
 | t+1=>rfl
theorem ZwV{o:Nat→Nat}(hd:∀i,i<n+1→G i i=some 0)(ho:Ord n m o): ∀i j,i<m+1→j<m+1→rcG n G (fun t=>unC (o t)) i j=trG G o i j:=fun i j hi hj=>by
 unfold rcG dC trG
 rw[ZpG,ZpG]
 exact Zp5 (ho.lt i hi) (ho.lt j hj) hd
theorem Zwo{o:Nat→Nat}(ok:∀t,t<n→RestOk (R t))(ho:Ord n m o): ∀t,t<m→rcR n R (fun t=>unC (o t)) t=trR R o t:=fun t ht=>ZpF ok (ho t ht).1 (ho t ht).2
theorem ZrO(hn:n≤900): ZkW [Zac n c,Zac n d]=some (Zac n fun k=>c k-d k):=by
 apply Pk.eq
 unfold ZkW ZnJ Zac
 walk_at "zz"
 refine Zbg (n:=n+1) (a:=fun i=>.int i) (b:=fun i=>.int (c i-d i)) (by omega) ?_ (fun i hi=>?_) rfl
 ·walk_at "zz"
  rfl
 ·walk_at "zz"
  rfl
theorem ZmN(hp:RestOk p)(hq:RestOk q)(h:∀x,Zao p x→Zao q x): RIn p q:=by
 have e:∀x,p.1 ∣ x-p.2→q.1 ∣ x-q.2:=fun x hx=>(Za3 hq.nn x).mp (h x ((Za3 hp.nn x).mpr hx))
 have a1:q.1 ∣ p.2-q.2:=e p.2 (by simp)
 have a2:q.1 ∣ p.2+p.1-q.2:=e (p.2+p.1) (by rw[show p.2+p.1-p.2=p.1 by omega];exact Int.dvd_refl _)
 have c1:q.1 ∣ p.1:=by have:=Int.dvd_sub a2 a1;rwa [show p.2+p.1-q.2-(p.2-q.2)=p.1 by omega]at this
 unfold RIn
 split
 ·rename_i z
  rw[z,Int.zero_dvd]at a1 c1
  exact Prod.ext (by rw[c1,z]) (by omega)
 ·exact⟨Int.emod_eq_zero_of_dvd c1,Int.emod_eq_zero_of_dvd a1⟩
theorem Zrq(hR:∀t,t<n→RestOk (R t))(s:Sharp n G R G2 R2 M k): Ze5 n G2 R2 G R:=by
 obtain⟨R1,h1,h2,h3,h4,rfl,h6⟩:=s.go
 refine⟨fun i hi j hj=>?_,fun t ht=>?_⟩
 ·refine Zb8 (ZgC (n+1) i j) (Zb8 (Zvi fun b e q=>h3 ⟨i,j,hi,hj,b,e,q⟩) (ZgC (n+1) i j))
 ·refine ZmN (h6 t ht).1.1 (hR t ht) fun x hx=>?_
  have a:=((h6 t ht).2 x).mp hx
  have b:=((h2 t ht).2 x).mp a.1
  exact b.1
theorem ZmO{a:Nat}{x:Nat→Int}(h1:1≤a): ∀n,Zar (unC a) x n=if a≤n then x (a-1)else 0
 | 0=>by rw[if_neg (by omega)];exact ZdZ (by omega)
 | n+1=>by
  show Zar (unC a) x n+unC a (n+1)*x n=_
  rw[ZmO h1 n]
  by_cases q:n+1=a
  ·subst q
   rw[Ze7 h1,if_neg (by omega),if_pos (by omega),Nat.add_sub_cancel];omega
  ·rw[ZdZ q,Int.zero_mul]
   by_cases g:a≤n
   ·rw[if_pos g,if_pos (by omega)];omega
   ·rw[if_neg g,if_neg (by omega)];rfl
theorem Zvq: Pln 2 (ZaF n m C):=.lst fun t h=>by
 obtain⟨i,hi,rfl⟩:=ZcO h
 have:=Zmm (tab (n+1) (C i))
 rw[tab_map]at this
 exact this
theorem ZnA{S:T}: Zcv [.none,S]=some .none:=by
 apply Pk.eq
 unfold Zcv ZhH
 walk_at "zz"
 rfl
theorem Zm9{S:T}: Zc4 [.none,S]=some .none:=by
 apply Pk.eq
 unfold Zc4 ZjE
 walk_at "zz"
 rfl
theorem Zsv{K:Nat}(hM:0<M)(bM:Bd K M)(bG:BdG (n+1) k G)(hk:k+n+1≤K)(s:Sharp n G R G2 R2 M K): BdG (n+1) (K+n+2) G2∧∀t,t<n→RBd K (R2 t):=by
 obtain⟨R1,_,h1,_,_,rfl,h2⟩:=s.go
 refine⟨?_,fun t ht=>(h2 t ht).1.bd hM bM⟩
 have b1:BdG (n+1) K (Z2 G (n+1)):=fun a b c ha hb e=>(Zd2 bG (n+1) (Zz10 _) a b c ha hb e).mono (by omega)
 have b2:=ZmL hM bM b1 fun t ht=>(h1 t ht).1
 exact fun a b c ha hb e=>(Zd2 b2 (n+1) (Zz10 _) a b c ha hb e).mono (by omega)
theorem Zk6{y:Nat→Int}(h:Zax n G R x)(e:∀t,t<n→y t=x t): Zax n G R y:=by
 have f:∀i,i<n+1→Zaq y i=Zaq x i:=fun i hi=>by
  cases i with
  | zero=>rfl
  | succ i=>exact e i (by omega)
 exact⟨fun i j hi hj b q=>by rw[f i hi,f j hj];exact h.1 i j hi hj b q,fun t ht=>by rw[e t ht];exact h.2 t ht⟩
noncomputable def Zfm(N:Nat)(R:Nat→Int×Int)(p:Nat→Nat)(R':Nat→Int×Int)(L:Nat)(ρ:Nat→Option (Int×Int)): Prop:=(∀t,t<N→(∀j,j<L→p j≠t)→ρ t=some (R t))∧∀j,j<L→Met (R (p j)) (R' j) (ρ (p j))
theorem Ztg{p:Nat→Nat}(hp:∀i,i<L+1→p i<N)(inj:∀i j,i<L+1→j<L+1→p i=p j→i=j)(h:Zfm N R p R' L ρ)(hm:Met (R (p L)) (R' L) o): Zfm N R p R' (L+1) (fun t=>if t=p L then o else ρ t):=by
 refine⟨fun t ht hn=>?_,fun j hj=>?_⟩
 ·have:t≠p L:=fun e=>hn L (by omega) e.symm
  simp only[this,if_false]
  exact h.1 t ht fun j hj=>hn j (by omega)
 ·by_cases c:j=L
  ·subst c
   simp only[if_true]
   exact hm
  ·have:p j≠p L:=fun e=>c (inj j L hj (by omega) e)
   simp only[this,if_false]
   exact h.2 j (by omega)
theorem Zvr: (oR o).flat=true:=by cases o <;> rfl
theorem Zwp: (tab N fun t=>if t=k then oR o else oR (ρ t))=tab N fun t=>oR (if t=k then o else ρ t):=Za2 fun t _=>by
 by_cases c:t=k
 ·rw[if_pos c,if_pos c]
 ·rw[if_neg c,if_neg c]
noncomputable def Zqg(N:Nat)(G:Nat→Nat→Option Int)(ρ:Nat→Option (Int×Int))(t:T): Prop:=(t=.none∧∃i,i<N∧ρ i=none)∨(t=ZE N G (fun i=>(ρ i).getD (1,0))∧∀i,i<N→ρ i≠none)
noncomputable def qOf(p:Nat→Nat): Nat→Nat
 | 0=>0
 | i+1=>p i+1
theorem Zw6(p:Nat→Nat): cn (T.int 0) (fun i=>T.int ((p i:Int)+1))=fun i=>T.int (qOf p i:Nat):=by
 funext i
 cases i with
 | zero=>rfl
 | succ i=>show T.int ((p i:Int)+1)=T.int ((p i+1:Nat):Int);congr 1
theorem Zud(h:∀i,i<N→ρ i≠none): T.tup [ZZ (N+1) G,.lst (tab N fun t=>oR (ρ t))]=ZE N G (fun i=>(ρ i).getD (1,0)):=by
 unfold ZE ZaI
 congr 4
 refine Za2 fun i hi=>?_
 show oR (ρ i)=ZQ ((ρ i).getD (1,0))
 cases e:ρ i with
 | none=>exact absurd e (h i hi)
 | some q=>rfl
theorem Zsw{p:Nat→Nat}(hN:N≤90)(hL:L≤90)(hb:b≤8000)(hp:∀i,i<L→p i<N)(inj:∀i j,i<L→j<L→p i=p j→i=j)(ok:∀t,t<N→RestOk (R t))(ok':∀t,t<L→RestOk (R' t))(bR:∀t,t<N→RBd b (R t))(bR':∀t,t<L→RBd b (R' t)): Pk (ZeL [ZE N Γ R,.lst (tab L fun i=>.int ((p i:Int)+1)),ZE L G' R']) fun t=>∃ρ,Zfm N R p R' L ρ∧Zqg N (Zds (qOf p) G' (L+1) Γ (L+1)) ρ t:=by
 unfold ZeL Zlo
 have ht:∀{n:Nat} {G:Nat→Nat→Option Int} {R:Nat→Int×Int},ZE n G R=.tup [ZZ (n+1) G,.lst (tab n fun i=>ZQ (R i))]:=rfl
 rw[ht,ht]
 walk_at "zz"
 refine Zej (n:=L) (a:=fun i=>.int ((p i:Int)+1)) (c:=fun i=>ZQ (R' i)) (P:=fun i σ=>∃ρ,σ 0=some (.tup [ZZ (N+1) Γ,.lst (tab N fun i=>ZQ (R i))])∧σ 1=some (.lst (tab L fun i=>.int ((p i:Int)+1)))∧σ 2=some (.tup [ZZ (L+1) G',.lst (tab L fun i=>ZQ (R' i))])∧σ 3=some (.lst (tab N fun t=>oR (ρ t)))∧Zfm N R p R' i ρ) ?_ ⟨fun t=>some (R t),by walk_at "zr",by walk_at "zr",by walk_at "zr",by walk_at "zr",fun t _ _=>rfl,fun j hj=>by omega⟩ ?_ ?_
 ·walk_at "zz"
  rfl
 ·rintro i σ hi ⟨ρ,e0,e1,e2,e3,hl⟩
  have hpi:=hp i hi
  have hidx:((p i:Int)+1-1).toNat=p i:=by omega
  have hr:ρ (p i)=some (R (p i)):=hl.1 (p i) hpi fun j hj e=>by have:=inj j i (by omega) hi e;omega
  walk_at "zz"
  rw[hidx,hr]
  refine(Zkg (k:=b) hb (ok _ hpi) (ok' i hi) (bR _ hpi) (bR' i hi)).mono ?_
  rintro _ ⟨o,rfl,hm,_⟩
  refine⟨Zvr,?_⟩
  walk_at "zz"
  refine Zn3 (n:=N) (f:=fun t=>oR (ρ t)) (by walk_at "zr") (by omega) (by omega) ?_
  rw[hidx,Zwp]
  exact⟨_,by walk_at "zr",by walk_at "zr",by walk_at "zr",by walk_at "zr",Ztg (fun j hj=>hp j (by omega)) (fun i' j' h1 h2=>inj i' j' (by omega) (by omega)) hl hm⟩
 ·rintro σ ⟨ρ,e0,e1,e2,e3,hl⟩
  have hq:∀i,i<L+1→qOf p i<N+1:=fun i hi=>by
   cases i with
   | zero=>exact Nat.succ_pos N
   | succ i=>show p i+1<N+1;have:=hp i (by omega);omega
  walk_at "zz"
  refine ZgB (.none (n:=0)) (Zen (n:=1) fun i _=>ZmX) ?_
  by_cases hc:∃i,i<N∧ρ i=none
  ·obtain⟨i,hi,ei⟩:=hc
   rw[ZaR (show T.none∈tab N fun i=>oR (ρ i)from List.mem_of_getElem? (i:=i) (by rw[ZaP hi,ei];rfl))]
   walk_at "zz"
   exact⟨ρ,hl,.inl ⟨rfl,i,hi,ei⟩⟩
  ·rw[Zbw (show ¬T.none∈tab N fun i=>oR (ρ i)from fun h=>by
    obtain⟨i,hi,e⟩:=ZcO h
    exact hc ⟨i,hi,oR_none.mp e.symm⟩)]
   have hne:∀i,i<N→ρ i≠none:=fun i hi e=>hc ⟨i,hi,e⟩
   walk_at "zz"
   rw[Zw6]
   refine ZJ (Zqn (by omega) (by omega) hq) ?_
   walk_at "zz"
   exact⟨ρ,hl,.inr ⟨Zud hne,hne⟩⟩
noncomputable def gT(N:Nat)(Γ:Nat→Nat→Option Int): T:=.lst (tab N fun a=>.lst (tab N fun b=>oT (Γ a b)))
theorem Zvs{b:Option Int}(ha:∀y,a=some y→Bd k y)(hb:∀y,b=some y→Bd k y): ∀y,Zbx a b=some y→Bd k y:=fun y e=>by
 rcases Zek a b with q | q
 ·exact ha y (q▸e)
 ·exact hb y (q▸e)
theorem Zp6{n b:Nat}{c x:Nat→Int}(bc:∀i,i<n+1→Bd b (c i))(bx:∀i,i<n→Bd b (x i)): ∀j,j≤n→Bd (b+b+j) (Zar c x j)
 | 0,_=>(bc 0 (by omega)).mono (by omega)
 | j+1,hj=>by
  have h1:=Zp6 bc bx j (by omega)
  have h2:=((bc (j+1) (by omega)).mul (bx j (by omega))).mono (show b+b≤b+b+j by omega)
  exact h1.add h2
noncomputable def Tm(n K:Nat)(M:Int)(P:(Nat→Int)→Prop)(I:(Nat→Nat→Option Int)→(Nat→Int×Int)→Prop)(D:T): Prop:=(D=.none∧∀x,¬P x)∨∃G R,D=ZE n G R∧(∀i,i<n+1→G i i=some 0)∧(∀t,t<n→RB M K (R t))∧GB K n G∧(∀x,P x→Zax n G R x)∧I G R
theorem Zmn(hn:n≤20)(hk:k+2*n+4≤7000)(hM:0<M)(bM:Bd k M)(hd:∀i,i<n+1→G i i=some 0)(bG:GB k n G)(hR:∀t,t<n→RB M k (R t)): ∃D,Zb9 [ZE n G R]=some D∧ZcK [ZE n G R]=some D∧Tm n (k+3*n+7) M (Zax n G R) (fun G2 R2=>Ze5 n G2 R2 G R) D:=by
 have bG2:BdG (n+1) k G:=fun a b c ha hb e=>bG a b ha hb c e
 obtain⟨D,et,hD⟩:=Zt6 (k:=k) (by omega) (by omega) hM bM hd bG2 hR
 obtain⟨u,eu,hu⟩:=Zrm (k:=k) (by omega) (by omega) hM bM hd bG2 hR
 have:=Zsq hD hu
 subst this
 refine⟨D,et,eu,?_⟩
 rcases hD with⟨G2,R2,rfl,s⟩ | ⟨rfl,f⟩
 ·obtain⟨z1,z2⟩:=Zsv hM (bM.mono (by omega)) bG2 (by omega) s
  obtain⟨_,_,_,_,_,_,h6⟩:=s.go
  exact .inr ⟨G2,R2,rfl,(Zss hd s).1,fun t ht=>(h6 t ht).1.mono (by omega),fun i j hi hj b e=>(z1 i j b hi hj e).mono (by omega),fun x li=>Zsj li s,Zrq (fun t ht=>(hR t ht).1) s⟩
 ·exact .inl ⟨rfl,fun x li=>absurd f (ZrI li)⟩
theorem Zrr(hn:n≤100)(hi:1≤i)(hi2:i≤9000)(bc:∀j,j<n+1→Bd i (c j))(bR:∀j,j<n→RBd i (R j))(ok:∀j,j<n→RestOk (R j)): Zhi [Zac n c,.lst (tab n fun j=>ZQ (R j))]=some (ZQ (ZdN c R n)):=by
 apply Pk.eq
 unfold Zhi ZkI Zac
 walk_at "zz"
 refine Zej (n:=n) (a:=fun j=>.int (c (j+1))) (c:=fun j=>ZQ (R j)) (P:=fun j σ=>σ 2=some (ZQ (ZdN c R j))) ?_ rfl ?_ ?_
 ·refine ZmB ?_
  refine Zly ?_
  walk_at "zz"
  refine⟨_,rfl,?_⟩
  rw[ZlZ]
  walk_at "zz"
  rfl
 ·rintro j σ hj e2
  have hr:=(ok j hj).nn
  have bt:Bd (i+i) (ZcU (R j) (c (j+1))).1:=by
   unfold ZcU
   rw[ZfN]
   exact(bR j hj).1.mul (Zvf (bc (j+1) (by omega)))
  have bv:Bd (i+i) (ZdN c R j).1:=by
   rw[ZdW ok j (by omega),ZfN]
   exact Zh3 bc bR j (by omega)
  walk_at "zz"
  refine ZJ (Zni (k:=i) (by omega) hr (bR j hj) (bc (j+1) (by omega))) ?_
  walk_at "zz"
  refine ZJ (ZjG (k:=i+i) (by omega) bv bt) ?_
  walk_at "zz"
  exact ZbX
 ·rintro σ e2
  walk_at "zz"
  rfl
theorem Zqt(hn:n≤100)(hb:b≤9000)(bc:∀j,j<n+1→Bd b (c j))(bR:∀j,j<n→RBd b (R j))(ok:∀j,j<n→RestOk (R j)): Zi4 [Zac n c,.lst (tab n fun j=>ZQ (R j))]=some (ZQ (ZdN c R n)):=by
 apply Pk.eq
 unfold Zi4 Znd Zac
 rw[ZdW ok n (Zz10 n)]
 walk_at "zz"
 refine Za6 (n:=n) (a:=fun i=>.int i) (P:=fun j σ=>σ 0=some (.lst (tab (n+1) fun i=>.int (c i)))∧σ 1=some (.lst (tab n fun j=>ZQ (R j)))∧σ 2=some (.int (ZbT c R j))∧σ 3=some (.int (Zb6 c R j))) ?_ ⟨by walk_at "zr",by walk_at "zr",by walk_at "zr",by walk_at "zr"⟩ ?_ ?_
 ·walk_at "zz"
  rfl
 ·rintro j σ hj ⟨e0,e1,e2,e3⟩
  have bj:=bR j hj
  have cj:=bc (j+1) (by omega)
  have h1:j+1<n+1:=by omega
  have e1':ZY (ZY (ZY σ 4 (.int (j:Nat))) 2 (.int (ZbT c R (j+1)))) 3 (.int (Zb6 c R (j+1))) 1=some (.lst (tab n fun j=>ZQ (R j))):=e1
  unfold ZQ at e1
  have e':((j:Int)+1).toNat=j+1:=by omega
  walk_at "zz"
  rw[e']
  refine Zbt (ZbY cj bj.1 (by omega) (by omega)) ?_
  walk_at "zz"
  refine ZJ (ZnM ((Zh3 bc bR j (by omega)).mono (by omega)) ((cj.mul bj.1).mono (by omega))) ?_
  walk_at "zz"
  rw[e']
  refine Zbt (ZbY cj bj.2 (by omega) (by omega)) ?_
  walk_at "zz"
  exact⟨by walk_at "zr",e1',by walk_at "zr",by walk_at "zr"⟩
 ·rintro σ ⟨e0,e1,e2,e3⟩
  walk_at "zz"
  exact ZJ ZfL rfl
theorem ZoV{c:Nat→Int}{R:Nat→Int×Int}{n i m:Nat}(bc:∀j,j<n+1→Bd i (c j))(bm:∀j,j<n→Bd m (R j).1): ∀j,j≤n→Bd (i+m) (ZbT c R j)
 | 0,_=>Zdi
 | j+1,h=>ZpV (ZoV bc bm j (by omega)) ((bc (j+1) (by omega)).mul (bm j (by omega)))
theorem Zwq{a b:Int}(ha:Bd i a)(hb:Bd j b): Bd (i+j) ((Int.lcm a b:Nat):Int):=by
 unfold Bd at *
 by_cases h:a=0∨b=0
 ·rcases h with e | e <;> subst e
  ·rw[Int.lcm_zero_left];exact Nat.pow_pos (by decide)
  ·rw[Int.lcm_zero_right];exact Nat.pow_pos (by decide)
 ·have:Int.lcm a b≤a.natAbs*b.natAbs:=Nat.le_of_dvd (Nat.mul_pos (by omega) (by omega)) (Nat.lcm_dvd_mul _ _)
  rw[Int.natAbs_natCast,Nat.pow_add]
  exact Nat.lt_of_le_of_lt this (Nat.mul_lt_mul'' ha hb)
noncomputable def Tf(n:Nat)(P:(Nat→Int)→Prop)(I:(Nat→Nat→Option Int)→(Nat→Int×Int)→Prop)(D:T): Prop:=(D=.none∧∀x,¬P x)∨∃G R,D=ZE n G R∧(∀i,i<n+1→G i i=some 0)∧(∀t,t<n→RestOk (R t))∧(∀x,P x→Zax n G R x)∧I G R
theorem Tm.tf{K:Nat}{P:(Nat→Int)→Prop}{I:(Nat→Nat→Option Int)→(Nat→Int×Int)→Prop}{D:T}(h:Tm n K M P I D): Tf n P I D:=by
 rcases h with h | ⟨G,R,rfl,h1,h2,h3,h4,h5⟩
 ·exact .inl h
 ·exact .inr ⟨G,R,rfl,h1,fun t ht=>(h2 t ht).1,h4,h5⟩
theorem Zgf{x:Int}(op:RestOk p)(oq:RestOk q)(h:RIn p q)(hx:Zao p x): Zao q x:=by
 unfold RIn at h
 split at h
 ·rw[←h];exact hx
 ·refine(Za3 oq.nn x).mpr ?_
  have a:=(Za3 op.nn x).mp hx
  have b:=Int.dvd_trans (Int.dvd_of_emod_eq_zero h.1) a
  have:=Int.dvd_add b (Int.dvd_of_emod_eq_zero h.2)
  rwa [show x-p.2+(p.2-q.2)=x-q.2 by omega]at this
theorem Zp7(hM:0<M)(bM:Bd m M)(h:RB M k q): Bd m q.1:=by
 rcases h.2.1 with e | e
 ·rw[e];exact Zdi
 ·have:=Nat.le_of_dvd (by omega) (Int.natAbs_dvd_natAbs.mpr e)
  unfold Bd at *
  omega
theorem Zwr(h:∀i,i<n+1→G i i=some 0): ∀i,i<n+m+1→Zbi n G i i=some 0:=fun i hi=>by
 unfold Zbi
 by_cases c:i<n+1
 ·rw[if_pos ⟨c,c⟩,h i c]
 ·rw[if_neg (by omega),if_pos rfl]
theorem Zth{y:Nat→Int}(h:Zax n G R x)(hy:∀i,i<n→y i=x i): Zax (n+m) (Zbi n G) (ZbE n R) y:=by
 have hf:∀i,i<n+1→Zaq y i=Zaq x i:=fun i hi=>by
  cases i with
  | zero=>rfl
  | succ i=>exact hy i (by omega)
 refine⟨fun i j hi hj b e=>?_,fun t ht=>?_⟩
 ·unfold Zbi at e
  split at e
  ·rename_i c
   rw[hf i c.1,hf j c.2]
   exact h.1 i j c.1 c.2 b e
  ·split at e
   ·rename_i c
    cases e
    rw[c]
    omega
   ·cases e
 ·unfold ZbE
  by_cases c:t<n
  ·rw[if_pos c,hy t c];exact h.2 t c
  ·rw[if_neg c]
   exact⟨fun q=>absurd q (by decide),fun _=>Int.emod_one _⟩
theorem ZoW{q:Nat→Nat}{G':Nat→Nat→Option Int}{i k:Nat}(Iv:(Nat→Nat→Option Int)→Prop)(h:∀Δ j,j<k→Iv Δ→Iv (ZcA Δ (q i) (q j) (Zbx (Δ (q i) (q j)) (G' i j)))){Γ:Nat→Nat→Option Int}(h0:Iv Γ): ∀j,j≤k→Iv (Zfh q G' i Γ j)
 | 0,_=>h0
 | j+1,hj=>h _ j (by omega) (ZoW Iv h h0 j (by omega))
theorem Zf2{q:Nat→Nat}{G':Nat→Nat→Option Int}{k:Nat}(Iv:(Nat→Nat→Option Int)→Prop)(h:∀Δ i j,i<k→j<k→Iv Δ→Iv (ZcA Δ (q i) (q j) (Zbx (Δ (q i) (q j)) (G' i j)))){Γ:Nat→Nat→Option Int}(h0:Iv Γ): ∀i,i≤k→Iv (Zds q G' k Γ i)
 | 0,_=>h0
 | i+1,hi=>ZoW Iv (fun Δ j hj hΔ=>h Δ i j (by omega) hj hΔ) (Zf2 Iv h h0 i (by omega)) k (Zz10 k)
theorem Zvt{p:Nat→Nat}(inj:∀i j,i<L→j<L→p i=p j→i=j): ∀i j,i<L+1→j<L+1→qOf p i=qOf p j→i=j
 | 0,0,_,_,_=>rfl
 | 0,j+1,_,_,h=>by simp only[qOf]at h;omega
 | i+1,0,_,_,h=>by simp only[qOf]at h;omega
 | i+1,j+1,hi,hj,h=>by
  simp only[qOf]at h
  rw[inj i j (by omega) (by omega) (by omega)]
theorem Zvu: Zbx (some 0) (some 0)=some 0:=Zmk Zcw
theorem Zvv{p:Nat→Nat}(inj:∀i j,i<L→j<L→p i=p j→i=j)(hp:∀i,i<L→p i<N)(h:∀i,i<N+1→Γ i i=some 0)(h':∀i,i<L+1→G' i i=some 0): ∀i,i<N+1→Zds (qOf p) G' (L+1) Γ (L+1) i i=some 0:=by
 refine Zf2 (fun Δ=>∀i,i<N+1→Δ i i=some 0) (fun Δ i j hi hj hΔ a ha=>?_) h (L+1) (Zz10 _)
 by_cases c:a=qOf p i∧a=qOf p j
 ·have hij:=Zvt inj i j hi hj (c.1.symm.trans c.2)
  subst hij
  obtain⟨rfl,_⟩:=c
  rw[Zh1,hΔ _ ha,h' i hi,Zvu]
 ·rw[Zh2 c];exact hΔ a ha
theorem Zsx{p:Nat→Nat}{y z:Nat→Int}(hz:∀i,i<L→z i=y (p i))(h:Zax N Γ R y)(h':Zax L G' R' z): ∀i j,i<N+1→j<N+1→∀b,Zds (qOf p) G' (L+1) Γ (L+1) i j=some b→Zaq y i-Zaq y j≤b:=by
 have hf:∀i,i<L+1→Zaq y (qOf p i)=Zaq z i:=fun i hi=>by
  cases i with
  | zero=>rfl
  | succ i=>exact(hz i (by omega)).symm
 refine Zf2 (fun Δ=>∀i j,i<N+1→j<N+1→∀b,Δ i j=some b→Zaq y i-Zaq y j≤b) (fun Δ i j hi hj hΔ a b ha hb c e=>?_) h.1 (L+1) (Zz10 _)
 by_cases d:a=qOf p i∧b=qOf p j
 ·obtain⟨rfl,rfl⟩:=d
  rw[Zh1]at e
  rcases Zek (Δ (qOf p i) (qOf p j)) (G' i j)with q | q
  ·rw[q]at e;exact hΔ _ _ ha hb c e
  ·rw[q]at e
   rw[hf i hi,hf j hj]
   exact h'.1 i j hi hj c e
 ·rw[Zh2 d]at e;exact hΔ a b ha hb c e
theorem ZoX{p:Nat→Nat}{y z:Nat→Int}(h:Zfm N R p R' L ρ)(hz:∀i,i<L→z i=y (p i))(hp:∀i,i<L→p i<N)(hy:∀t,t<N→Zao (R t) (y t))(hz':∀t,t<L→Zao (R' t) (z t)): ∀t,t<N→∃r,ρ t=some r∧Zao r (y t):=fun t ht=>by
 by_cases c:∃j,j<L∧p j=t
 ·obtain⟨j,hj,rfl⟩:=c
  have hm:=h.2 j hj
  have hb:Zao (R (p j)) (y (p j))∧Zao (R' j) (y (p j)):=⟨hy _ ht,hz j hj▸hz' j hj⟩
  cases e:ρ (p j)with
  | none=>rw[e]at hm;exact absurd hb (hm _)
  | some r=>rw[e]at hm;exact⟨r,rfl,(hm.2 _).mpr hb⟩
 ·exact⟨R t,h.1 t ht fun j hj e=>c ⟨j,hj,e⟩,hy t ht⟩
theorem ZqR(hn:n≤60)(hm:m≤60)(hb:b≤9000)(hb1:1≤b)(hG:GB b n G)(hC:CB b n m C)(hi:i<m+1): Zg3 [ZE n G R,Zac n (Zcq C i),.lst (tab (m+1) fun j=>Zac n (Zcq C j))]=some (Zaf (m+1) fun j=>rcG n G C i j):=by
 apply Pk.eq
 unfold Zg3 ZjD Zaf
 walk_at "zz"
 refine Zbg (n:=m+1) (a:=fun j=>Zac n (Zcq C j)) (b:=fun j=>oT (rcG n G C i j)) (by omega) ?_ (fun j hj=>?_) rfl
 ·walk_at "zz"
  rfl
 ·walk_at "zz"
  refine ZJ (ZrN (b:=b) (by omega) hb1 (by omega) (hC.full j hj)) ?_
  walk_at "zz"
  exact ZJ (ZrL (b:=b+1) (c:=dC C i j) hn (by omega) (by omega) (fun a b ha hb y e=>(hG a b ha hb y e).mono (by omega)) (hC.dif hi hj)) rfl
theorem Zsy(hn:n≤60)(hm:m≤60)(hb:b≤9000)(hb1:1≤b)(hG:GB b n G)(hR:∀t,t<n→RBd b (R t))(ok:∀t,t<n→RestOk (R t))(hC:CB b n m C)(h:Pk (Zb9 [ZE m (rcG n G C) (rcR n R C)]) Q): Pk (Zcv [ZE n G R,ZaF n m C]) Q:=by
 obtain⟨t,et,qt⟩:=h
 refine⟨t,?_,qt⟩
 apply Pk.eq
 unfold Zcv ZhH
 have ht:ZE n G R=.tup [.lst (tab (n+1) fun i=>.lst (tab (n+1) fun j=>oT (G i j))),.lst (tab n fun i=>ZQ (R i))]:=rfl
 have hc:cn (Zac n (unC 0)) (fun i=>Zac n (C i))=fun i=>Zac n (Zcq C i):=by
  funext i
  cases i with
  | zero=>rw[unC_0];rfl
  | succ i=>rfl
 have hs:ZaF n m C=.lst (tab m fun i=>Zac n (C i)):=rfl
 rw[ht,hs]
 walk_at "zz"
 refine ZJ (Zk5 (i:=0) (n:=n) (by omega)) ?_
 walk_at "zz"
 rw[hc]
 refine Zbg (n:=m+1) (a:=fun j=>Zac n (Zcq C j)) (b:=fun i=>Zaf (m+1) fun j=>rcG n G C i j) (by omega) ?_ (fun j hj=>?_) ?_
 ·walk_at "zz"
  rfl
 ·walk_at "zz"
  rw[←ht]
  exact ZJ (ZqR (b:=b) hn hm hb hb1 hG hC hj) rfl
 walk_at "zz"
 refine Zbg (n:=m) (a:=fun j=>Zac n (C j)) (b:=fun i=>ZQ (rcR n R C i)) (by omega) ?_ (fun j hj=>?_) ?_
 ·walk_at "zz"
  rfl
 ·walk_at "zz"
  exact ZJ (Zrr (i:=b) (by omega) hb1 hb (fun k hk=>hC j hj k hk) hR ok) rfl
 walk_at "zz"
 exact ZJ et rfl
theorem ZqS(hn:n≤60)(hm:m≤60)(hb:b≤9000)(hb1:1≤b)(hG:GB b n G)(hR:∀t,t<n→RBd b (R t))(ok:∀t,t<n→RestOk (R t))(hC:CB b n m C)(h:Pk (ZcK [ZE m (rcG n G C) (rcR n R C)]) Q): Pk (Zc4 [ZE n G R,ZaF n m C]) Q:=by
 obtain⟨t,et,qt⟩:=h
 refine⟨t,?_,qt⟩
 apply Pk.eq
 unfold Zc4 ZjE
 have ht:ZE n G R=.tup [.lst (tab (n+1) fun i=>.lst (tab (n+1) fun j=>oT (G i j))),.lst (tab n fun i=>ZQ (R i))]:=rfl
 have hc:cn (Zac n fun _=>0) (fun i=>Zac n (C i))=fun i=>Zac n (Zcq C i):=by
  funext i
  cases i with
  | zero=>rfl
  | succ i=>rfl
 have hs:ZaF n m C=.lst (tab m fun i=>Zac n (C i)):=rfl
 rw[ht,hs]
 walk_at "zz"
 rw[show(n:Int)+1=((n+1:Nat):Int)by omega]
 refine Zh5 (by omega) ?_
 walk_at "zz"
 rw[show(T.lst (tab (n+1) fun _=>T.int 0))=Zac n fun _=>0 from rfl,hc]
 refine Za6 (n:=m+1) (a:=fun i=>Zac n (Zcq C i)) (P:=fun i σ=>σ 0=some (ZE n G R)∧σ 1=some (.lst (tab m fun i=>Zac n (C i)))∧σ 2=some (.lst (tab (m+1) fun i=>Zac n (Zcq C i)))∧σ 3=some (.lst (tab i fun i=>Zaf (m+1) (rcG n G C i)))) ?_ ⟨by walk_at "zr",by walk_at "zr",by walk_at "zr",by walk_at "zr"⟩ ?_ ?_
 ·walk_at "zz"
  rfl
 ·rintro i σ hi ⟨e0,e1,e2,e3⟩
  walk_at "zz"
  refine Zbg (n:=m+1) (a:=fun j=>Zac n (Zcq C j)) (b:=fun j=>oT (rcG n G C i j)) (by omega) ?_ (fun j hj=>?_) ?_
  ·walk_at "zz"
   rfl
  ·walk_at "zz"
   refine ZJ (ZrO (by omega)) ?_
   walk_at "zz"
   refine ZJ (ZqC (b:=b+1) (c:=dC C i j) hn (by omega) (fun a b ha hb y e=>(hG a b ha hb y e).mono (by omega)) (hC.dif hi hj)) ?_
   exact⟨ZeX,rfl⟩
  walk_at "zz"
  rw[show tab i (fun i=>Zaf (m+1) (rcG n G C i))++[T.lst (tab (m+1) fun j=>oT (rcG n G C i j))]=tab (i+1) fun i=>Zaf (m+1) (rcG n G C i)from Zcu (f:=fun i=>Zaf (m+1) (rcG n G C i))]
  exact⟨by walk_at "zr",by walk_at "zr",by walk_at "zr",by walk_at "zr"⟩
 ·rintro σ ⟨e0,e1,e2,e3⟩
  rw[ht]at e0
  walk_at "zz"
  refine Zbg (n:=m) (a:=fun j=>Zac n (C j)) (b:=fun i=>ZQ (rcR n R C i)) (by omega) ?_ (fun j hj=>?_) ?_
  ·walk_at "zz"
   rfl
  ·walk_at "zz"
   exact ZJ (Zqt (b:=b) (by omega) hb (fun k hk=>hC j hj k hk) hR ok) rfl
  walk_at "zz"
  exact ZJ et rfl
theorem Zti{g:PEs}{a:Nat}{L:List T→Prop}(h0:0<m)(hm:a+m≤1000)(e:g σ=some [.int a,.int (a+m)])(h:L (tab m fun i=>.int ((a+i:Nat):Int))): Pl (Zav g σ) L:=by
 refine⟨_,ZeW e (by have:=Zl8 (a:=a) (n:=m) (by omega) (by omega);simpa using this),?_⟩
 rw[show(tab m fun i=>T.int ((a:Int)+i))=tab m fun i=>.int ((a+i:Nat):Int)from Za2 fun i _=>by congr 1]
 exact h
theorem ZrP(hn:n≤20)(hm0:0<m)(hm:m≤100): ZfS [ZE n G R,.int m]=some (ZE (n+m) (Zbi n G) (ZbE n R)):=by
 apply Pk.eq
 unfold ZfS Zll
 have ht:∀{n:Nat} {G:Nat→Nat→Option Int} {R:Nat→Int×Int},ZE n G R=.tup [.lst (tab (n+1) fun i=>.lst (tab (n+1) fun j=>oT (G i j))),.lst (tab n fun i=>.tup [.int (R i).1,.int (R i).2])]:=rfl
 rw[ht]
 walk_at "zz"
 refine Zbg (n:=n+1) (a:=fun i=>.lst (tab (n+1) fun j=>oT (G i j))) (b:=fun i=>.lst (tab (n+m+1) fun j=>oT (Zbi n G i j))) (by omega) ?_ (fun i hi=>?_) ?_
 ·walk_at "zz"
  rfl
 ·walk_at "zz"
  refine Zh5 (by omega) ?_
  refine ZlK (by omega) ?_
  rw[Zub hi]
  exact⟨Zst,rfl⟩
 walk_at "zz"
 refine Zbg (n:=m) (a:=fun i=>.int ((n+1+i:Nat):Int)) (b:=fun i=>.lst (tab (n+m+1) fun j=>oT (Zbi n G (n+1+i) j))) (by omega) ?_ (fun i hi=>?_) ?_
 ·refine Zti (a:=n+1) (m:=m) hm0 (by omega) ?_ rfl
  simp only[Ze,Zc,Za,Zg,Zk,ZY,Option.bind_some]
  simp[ZV]
  omega
 ·walk_at "zz"
  refine ZJ (show Zfr [.int ((n+1+i:Nat):Int),.int ((n:Int)+m)]=some (Zaf (n+m+1) fun j=>if j=n+1+i then some 0 else none)from ZqP (by omega)) ?_
  show T.lst _=T.lst _
  congr 1
  refine Za2 fun j hj=>?_
  unfold Zbi
  rw[if_neg (by omega)]
 walk_at "zz"
 refine ZlK (by omega) ?_
 walk_at "zz"
 refine Zh5 (by omega) ?_
 refine ZlK (by omega) ?_
 rw[Zsu]
 refine⟨Zhb fun _ _=>ZfX,?_⟩
 walk_at "zz"
 rw[show(ZE (n+m) (Zbi n G) (ZbE n R))=.tup [.lst (tab (n+m+1) fun i=>.lst (tab (n+m+1) fun j=>oT (Zbi n G i j))),ZaI (n+m) (ZbE n R)]from rfl,show n+1+m=n+m+1 by omega]
 congr 3
 refine Za2 fun i hi=>?_
 by_cases c:i<n+1
 ·rw[if_pos c]
 ·rw[if_neg c,show n+1+(i-(n+1))=i by omega]
theorem Zki(hm:m≤90)(hn:n≤900): ZeE [.int m,.int n]=some (ZaF n m fun t=>unC (t+1)):=by
 apply Pk.eq
 unfold ZeE ZkY
 walk_at "zz"
 refine Zbg (n:=m) (a:=fun i=>.int ((1+i:Nat):Int)) (b:=fun t=>Zac n (unC (t+1))) (by omega) ?_ (fun i hi=>?_) rfl
 ·refine Zl1 (a:=1) (m:=m) (by omega) (by omega) ?_ rfl
  show some [T.int 1,T.int ((m:Int)+1)]=_
  rw[show(m:Int)+1=((1:Nat):Int)+m by omega]
  rfl
 ·walk_at "zz"
  rw[Nat.add_comm 1 i]
  exact ZJ (Zk5 (i:=i+1) (n:=n) hn) rfl
theorem ZoY{K:Nat}(hn:n≤20)(hm:m≤20)(hb1:1≤b)(hb:b≤9000)(hK:K+2*m+4≤7000)(hG:GB b n G)(hR:∀t,t<n→RBd b (R t))(ok:∀t,t<n→RestOk (R t))(hC:CB b n m C)(hM:0<M)(bM:Bd K M)(bG:GB K m (rcG n G C))(hR':∀t,t<m→RB M K (rcR n R C t)): ∃D,Zcv [ZE n G R,ZaF n m C]=some D∧Zc4 [ZE n G R,ZaF n m C]=some D∧Tm m (K+3*m+7) M (fun v=>∃x,Zax n G R x∧∀t,t<m→v t=Zar (C t) x n) (fun G2 R2=>Ze5 m G2 R2 (rcG n G C) (rcR n R C)) D:=by
 obtain⟨D,et,eu,hD⟩:=Zmn (k:=K) hm hK hM bM (Zw5 (G:=G) (C:=C)) bG hR'
 refine⟨D,Pk.eq (Zsy (b:=b) (by omega) (by omega) hb hb1 hG hR ok hC (ZJ et rfl)),Pk.eq (ZqS (b:=b) (by omega) (by omega) hb hb1 hG hR ok hC (ZJ eu rfl)),?_⟩
 rcases hD with⟨rfl,no⟩ | ⟨G2,R2,rfl,h1,h2,h3,h4,h5⟩
 ·exact .inl ⟨rfl,fun v h=>by
   obtain⟨x,li,e⟩:=h
   exact no v (Zk6 (ZpC (m:=m) (C:=C) ok li) e)⟩
 ·exact .inr ⟨G2,R2,rfl,h1,h2,h3,fun v h=>by
   obtain⟨x,li,e⟩:=h
   exact h4 v (Zk6 (ZpC (m:=m) (C:=C) ok li) e),h5⟩
theorem Zue{x:Nat}{w:T}(hx:x<n)(hn:n≤1000): Zgc [.lst (tab n f),.int ((x:Int)+1),w]=some (.lst (tab n fun i=>if i=x then w else f i)):=by
 apply Pk.eq
 unfold Zgc Zmj
 have hlen:(tab n f).length=n:=Zan
 walk_at "zz"
 refine ZmY ?_
 walk_at "zz"
 refine⟨_,rfl,?_⟩
 walk_at "zz"
 refine⟨x,by congr 1;omega,?_⟩
 walk_at "zz"
 refine Zdm (by simp[hlen];omega) ?_
 refine ZmZ ?_
 walk_at "zz"
 refine⟨_,rfl,?_⟩
 walk_at "zz"
 refine⟨x+1,rfl,?_⟩
 refine Zdm (by simp[hlen];omega) ?_
 rw[Zps (by omega),ZeV]
theorem Tm.sub{K K':Nat}{P P':(Nat→Int)→Prop}{I I':(Nat→Nat→Option Int)→(Nat→Int×Int)→Prop}{D:T}(h:Tm n K M P I D)(hK:K≤K')(hP:∀x,P' x→P x)(hI:∀G R,(∀t,t<n→RestOk (R t))→I G R→I' G R): Tm n K' M P' I' D:=by
 rcases h with⟨rfl,no⟩ | ⟨G,R,rfl,h1,h2,h3,h4,h5⟩
 ·exact .inl ⟨rfl,fun x p=>no x (hP x p)⟩
 ·exact .inr ⟨G,R,rfl,h1,fun t ht=>(h2 t ht).mono hK,fun i j hi hj y e=>(h3 i j hi hj y e).mono hK,fun x p=>h4 x (hP x p),hI G R (fun t ht=>(h2 t ht).1) h5⟩
theorem RB.bd2(hM:0<M)(bM:Bd m M)(hm:m≤k)(h:RB M k q): RBd k q:=⟨(Zp7 hM bM h).mono hm,h.2.2⟩
theorem ZpH(hn:n≤4)(hd:∀i,i<n+1→G i i=some 0)(ok:∀t,t<n→RestOk (R t))(sG:SmG 137 n G)(sR:SmR 137 n R): ∃D,Zb9 [ZE n G R]=some D∧ZcK [ZE n G R]=some D∧∃M,0<M∧Bd 560 M∧Tm n 580 M (Zax n G R) (fun G2 R2=>Ze5 n G2 R2 G R) D:=by
 have hp:=ZhB ok n (Zz10 n)
 have hb:Bd 560 (ZcY R n):=(ZhN (k:=137) (by decide) (fun t ht=>(sR t ht).1) n (Zz10 n)).mono (by omega)
 obtain⟨D,e1,e2,h⟩:=Zmn (k:=560) (by omega) (by omega) hp hb hd (fun i j hi hj y e=>(show Bd 137 y from sG i j hi hj y e).mono (by decide)) (fun t ht=>⟨ok t ht,ZhC n t ht,(show Bd 137 _ from(sR t ht).2).mono (by decide)⟩)
 exact⟨D,e1,e2,_,hp,hb,h.sub (by omega) (fun _ p=>p) (fun _ _ _ i=>i)⟩
noncomputable def Zbb(n:Nat)(C:Nat→Nat→Int): Nat→Nat→Int:=fun t=>if t<n then unC (t+1)else C (t-n)
theorem ZoZ(hi:i<n+1): Zcq (Zbb n C) i=unC i:=by
 cases i with
 | zero=>rw[unC_0];rfl
 | succ i=>show(if i<n then unC (i+1)else _)=_;rw[if_pos (by omega)]
theorem ZwW(hd:∀i,i<n+1→G i i=some 0)(hi:i<n+1)(hj:j<n+1): rcG n G (Zbb n C) i j=G i j:=by
 unfold rcG
 rw[show dC (Zbb n C) i j=fun k=>unC i k-unC j k by unfold dC;rw[ZoZ hi,ZoZ hj]]
 exact Zp5 hi hj hd
theorem Zqh(ok:∀t,t<n→RestOk (R t))(ht:t<n): rcR n R (Zbb n C) t=R t:=by
 unfold rcR Zbb
 rw[if_pos ht,ZpF ok (by omega) (by omega),Nat.add_sub_cancel]
theorem Zws: rcR n R (Zbb n C) (n+t)=rcR n R C t:=by
 unfold rcR Zbb
 rw[if_neg (by omega),Nat.add_sub_cancel_left]
theorem Zvw(ht:t<n): Zar (Zbb n C t) x n=x t:=by
 unfold Zbb
 rw[if_pos ht,ZmO (by omega),if_pos (by omega),Nat.add_sub_cancel]
theorem Zuf: Zar (Zbb n C (n+t)) x n=Zar (C t) x n:=by
 unfold Zbb
 rw[if_neg (by omega),Nat.add_sub_cancel_left]
theorem bd_un: Bd 1 (unC i k):=by
 unfold unC Bd
 split <;> decide
theorem Zwt(hC:CB 140 n r C): CB 580 n (n+r) (Zbb n C):=fun i hi k hk=>by
 unfold Zbb
 split
 ·exact bd_un.mono (by decide)
 ·exact(hC (i-n) (by omega) k hk).mono (by decide)
theorem Zug(hn:n≤4)(hr:r≤4)(hM:0<M)(bM:Bd 560 M)(hd:∀i,i<n+1→G i i=some 0)(hG:GB 580 n G)(hR:∀t,t<n→RB M 580 (R t))(hC:CB 140 n r C): ∃D,Zcv [ZE n G R,ZaF n (n+r) (Zbb n C)]=some D∧Zc4 [ZE n G R,ZaF n (n+r) (Zbb n C)]=some D∧∃M',0<M'∧Bd 3400 M'∧Tm (n+r) 3440 M' (fun v=>∃x,Zax n G R x∧(∀t,t<n→v t=x t)∧∀t,t<r→v (n+t)=Zar (C t) x n) (fun G2 R2=>(∀i,i<n+1→∀j,j<n+1→leO (G2 i j) (G i j))∧∀t,t<n→RIn (R2 t) (R t)) D:=by
 have ok:∀t,t<n→RestOk (R t):=fun t ht=>(hR t ht).1
 have bR:∀t,t<n→RBd 580 (R t):=fun t ht=>(hR t ht).bd2 hM bM (by decide)
 have ok2:∀t,t<r→RestOk (rcR n R C t):=Zqe ok
 have hp:=ZhB ok2 r (Zz10 r)
 have bm:∀t,t<r→Bd 700 (rcR n R C t).1:=fun t ht=>by
  unfold rcR
  rw[ZdW ok n (Zz10 n),ZfN]
  exact ZoV (i:=140) (m:=560) (hC t ht) (fun j hj=>Zp7 hM bM (hR j hj)) n (Zz10 n)
 have hb:=ZhN (k:=700) (by decide) bm r (Zz10 r)
 have hM':0<M*ZcY (rcR n R C) r:=Int.mul_pos hM hp
 have bM':Bd 3400 (M*ZcY (rcR n R C) r):=(bM.mul hb).mono (by omega)
 have cb:=Zwt hC
 obtain⟨D,e1,e2,h⟩:=ZoY (b:=580) (K:=3400) (M:=M*ZcY (rcR n R C) r) (by omega) (by omega) (by decide) (by decide) (by omega) hG bR ok cb hM' bM' (fun i j hi hj y e=>(show Bd 1200 y from Zwm (B:=1200) hG cb (by omega) i j hi hj y e).mono (by decide)) (fun t ht=>⟨Zqe (m:=n+r) ok t ht,by
  by_cases c:t<n
  ·rw[Zqh ok c]
   exact(hR t c).2.1.imp id fun d=>Int.dvd_trans d (Int.dvd_mul_right _ _)
  ·obtain⟨u,rfl⟩:∃u,t=n+u:=⟨t-n,by omega⟩
   rw[Zws]
   exact(ZhC r u (by omega)).imp id fun d=>Int.dvd_trans d (Int.dvd_mul_left _ _),(show Bd 1200 _ from(Zwn (B:=1200) ok bR cb (by omega) t ht).2).mono (by decide)⟩)
 refine⟨D,e1,e2,_,hM',bM',h.sub (by omega) ?_ ?_⟩
 ·rintro v ⟨x,li,a,b⟩
  refine⟨x,li,fun t ht=>?_⟩
  by_cases c:t<n
  ·rw[Zvw c];exact a t c
  ·obtain⟨u,rfl⟩:∃u,t=n+u:=⟨t-n,by omega⟩
   rw[Zuf];exact b u (by omega)
 ·rintro G2 R2 _ ⟨a,b⟩
  exact⟨fun i hi j hj=>by have:=a i (by omega) j (by omega);rw[ZwW hd hi hj]at this;exact this,fun t ht=>by have:=b t (by omega);rw[Zqh ok ht]at this;exact this⟩
theorem RB.up(h:RB M k q)(hd:M ∣ M')(hk:k≤k'): RB M' k' q:=⟨h.1,h.2.1.imp id fun d=>Int.dvd_trans d hd,h.2.2.mono hk⟩
theorem Zwu{r:Int×Int}(hp:RB M 3440 p)(hq:RB M' 3440 q)(bp:RBd 3440 p)(bq:Bd 300 q.1)(bq2:Bd 300 q.2)(h:Met p q (some r)): RB (M*M') 4060 r:=by
 have b1:=bp.1
 rcases Zp0 (k:=3440) (by decide) hp.1 hq.1 bp ⟨bq.mono (by decide),bq2.mono (by decide)⟩ h r rfl with rfl | rfl | ⟨z1,z2,e⟩
 ·exact hp.up (Int.dvd_mul_right _ _) (by decide)
 ·exact hq.up (Int.dvd_mul_left _ _) (by decide)
 ·refine⟨h.1,.inr ?_,?_⟩
  ·rw[e]
   have d1:p.1 ∣ M:=hp.2.1.resolve_left z1
   have d2:q.1 ∣ M':=hq.2.1.resolve_left z2
   exact Int.coe_lcm_dvd (Int.dvd_trans d1 (Int.dvd_mul_right _ _)) (Int.dvd_trans d2 (Int.dvd_mul_left _ _))
  ·have b2:Bd 4060 r.1:=by rw[e];exact(Zwq b1 bq).mono (by decide)
   have n0:r.1≠0:=by rw[e];intro h;exact(Int.lcm_ne_zero z1 z2) (by omega)
   rcases h.1 with q | ⟨_,q2,q3⟩
   ·exact absurd q n0
   ·unfold Bd at *;omega
theorem Zvx(hk:1≤k)(h:∀t,t<m→RB M k (R t))(t:Nat): RB M k (ZbE m R t):=by
 unfold ZbE
 split
 ·exact h t (by assumption)
 ·exact⟨.inr ⟨by decide,by decide,by decide⟩,.inr (Int.one_dvd _),Zdi⟩
theorem wide_GB(h:GB k m G): GB k N (Zbi m G):=fun i j hi hj y e=>by
 unfold Zbi at e
 split at e
 ·rename_i c;exact h i j c.1 c.2 y e
 ·split at e
  ·cases e;exact Zdi
  ·cases e
noncomputable def Zqi(n r m:Nat)(G:Nat→Nat→Option Int)(R:Nat→Int×Int)(G':Nat→Nat→Option Int)(R':Nat→Int×Int)(D:T): Prop:=∃ρ,Zfm (m+1) (ZbE m R) (fun i=>n+i) R' (r+1) ρ∧Zqg (m+1) (Zds (qOf fun i=>n+i) G' (r+1+1) (Zbi m G) (r+1+1)) ρ D
theorem Zwv(hm:m=n+r)(hn:n≤4)(hr:r≤4)(hM:0<M)(bM:Bd 3400 M)(hd:∀i,i<m+1→G i i=some 0)(hG:GB 3440 m G)(hR:∀t,t<m→RB M 3440 (R t))(hd':∀i,i<r+1+1→G' i i=some 0)(ok':∀t,t<r+1→RestOk (R' t))(sG':SmG 300 (r+1) G')(sR':SmR 300 (r+1) R'): ∃D,ZeL [ZE (m+1) (Zbi m G) (ZbE m R),.lst (tab (r+1) fun i=>.int (((n+i:Nat):Int)+1)),ZE (r+1) G' R']=some D∧Zqi n r m G R G' R' D∧∃M',0<M'∧Bd 4950 M'∧Tm (m+1) 4060 M' (fun y=>Zax m G R y∧Zax (r+1) G' R' fun i=>y (n+i)) (fun G3 R3=>(∀i,i<m+1→∀j,j<m+1→leO (G3 i j) (G i j))∧∀t,t<m→RIn (R3 t) (R t)) D:=by
 have hp:∀i,i<r+1→n+i<m+1:=fun i hi=>by omega
 have inj:∀i j,i<r+1→j<r+1→n+i=n+j→i=j:=fun i j _ _ h=>by omega
 have bR':∀t,t<r+1→RBd 3440 (R' t):=fun t ht=>⟨(show Bd 300 _ from(sR' t ht).1).mono (by decide),(show Bd 300 _ from(sR' t ht).2).mono (by decide)⟩
 have wRB:=Zvx (k:=3440) (by decide) hR
 have wok:∀t,t<m+1→RestOk (ZbE m R t):=fun t _=>(wRB t).1
 have wb:∀t,t<m+1→RBd 3440 (ZbE m R t):=fun t _=>(wRB t).bd2 hM bM (by decide)
 obtain⟨D,e1,ρ,hl,hT⟩:=Zsw (N:=m+1) (L:=r+1) (b:=3440) (p:=fun i=>n+i) (Γ:=Zbi m G) (G':=G') (by omega) (by omega) (by decide) hp inj wok ok' wb bR'
 have hpm:=ZhB ok' (r+1) (Zz10 _)
 have hpb:=ZhN (k:=300) (by decide) (fun t ht=>(sR' t ht).1) (r+1) (Zz10 _)
 refine⟨D,e1,⟨ρ,hl,hT⟩,M*ZcY R' (r+1),Int.mul_pos hM hpm,(bM.mul hpb).mono (by omega),?_⟩
 have key:∀y,Zax m G R y→(Zax (r+1) G' R' fun i=>y (n+i))→Zax (m+1) (Zbi m G) (ZbE m R) y:=fun y h _=>Zth h fun _ _=>rfl
 rcases hT with⟨rfl,i,hi,hnone⟩ | ⟨rfl,hsome⟩
 ·refine .inl ⟨rfl,fun y h=>?_⟩
  obtain⟨q,eq,_⟩:=ZoX (y:=y) (z:=fun i=>y (n+i)) hl (fun i _=>rfl) hp (key y h.1 h.2).2 h.2.2 i hi
  rw[hnone]at eq
  cases eq
 ·have hs:∀t,t<m+1→ρ t=some ((ρ t).getD (1,0)):=fun t ht=>by
   cases e:ρ t with
   | none=>exact absurd e (hsome t ht)
   | some q=>rfl
  have cases:∀t,t<m+1→(ρ t).getD (1,0)=ZbE m R t∨∃j,j<r+1∧t=n+j∧Met (ZbE m R t) (R' j) (some ((ρ t).getD (1,0))):=fun t ht=>by
   by_cases c:∃j,j<r+1∧n+j=t
   ·obtain⟨j,hj,rfl⟩:=c
    have:=hl.2 j hj
    rw[hs (n+j) ht]at this
    exact .inr ⟨j,hj,rfl,this⟩
   ·have:=hl.1 t ht fun j hj e=>c ⟨j,hj,e⟩
    rw[this]
    exact .inl rfl
  refine .inr ⟨_,_,rfl,Zvv inj hp (Zwr hd) hd',fun t ht=>?_,?_,fun y h=>⟨Zsx (z:=fun i=>y (n+i)) (fun i _=>rfl) (key y h.1 h.2) h.2,fun t ht=>?_⟩,fun i hi j hj=>?_,fun t ht=>?_⟩
  ·rcases cases t ht with e | ⟨j,hj,_,hm⟩
   ·rw[e];exact(wRB t).up (Int.dvd_mul_right _ _) (by decide)
   ·exact Zwu (wRB t) ⟨ok' j hj,ZhC (r+1) j hj,(bR' j hj).2⟩ (wb t ht) (sR' j hj).1 (sR' j hj).2 hm
  ·refine Zf2 (fun Δ=>GB 4060 (m+1) Δ) (fun Δ i j hi hj hΔ a b ha hb y e=>?_) (fun i j hi hj y e=>((wide_GB hG:GB 3440 (m+1) _) i j hi hj y e).mono (by decide)) (r+1+1) (Zz10 _)
   unfold ZcA at e
   split at e
   ·rename_i c
    refine Zvs (hΔ _ _ (c.1▸ha) (c.2▸hb)) (fun z ez=>?_) y e
    exact(show Bd 300 z from sG' i j hi hj z ez).mono (by decide)
   ·exact hΔ a b ha hb y e
  ·obtain⟨q,eq,hq⟩:=ZoX (y:=y) (z:=fun i=>y (n+i)) hl (fun i _=>rfl) hp (key y h.1 h.2).2 h.2.2 t ht
   show Zao ((ρ t).getD (1,0)) (y t)
   rw[eq]
   exact hq
  ·have:=Zf2 (q:=qOf fun i=>n+i) (G':=G') (k:=r+1+1) (fun Δ=>∀i j,leO (Δ i j) (Zbi m G i j)) (fun Δ i j hi hj hΔ a b=>by
    unfold ZcA
    split
    ·rename_i c
     obtain⟨c1,c2⟩:=c
     subst c1 c2
     exact Zb8 Zii (hΔ _ _)
    ·exact hΔ a b) (Γ:=Zbi m G) (fun i j=>Zcw) (r+1+1) (Zz10 _) i j
   unfold Zbi at this
   rw[if_pos ⟨hi,hj⟩]at this
   exact this
  ·have wt:ZbE m R t=R t:=by unfold ZbE;rw[if_pos ht]
   show RIn ((ρ t).getD (1,0)) (R t)
   rcases cases t (by omega)with e | ⟨j,hj,_,hm⟩
   ·rw[e,wt];exact Zt3
   ·rw[wt]at hm
    exact ZmN hm.1 (hR t ht).1 fun x hx=>((hm.2 x).mp hx).1
noncomputable def Zby(n m x:Nat): Nat→Nat:=fun t=>if t=x then m+1 else t+1
theorem ZwX{x:Nat}(hn:n≤m): Ord (m+1) n (Zby n m x):=fun t ht=>by
 unfold Zby
 split <;> omega
theorem Zuh{x:Nat}(hnm:n≤m)(hm:m≤8)(hM:0<M)(bM:Bd 4950 M)(hd:∀i,i<m+1+1→G i i=some 0)(hG:GB 5000 (m+1) G)(hR:∀t,t<m+1→RB M 5000 (R t)): ∃D,Zcv [ZE (m+1) G R,ZaF (m+1) n fun t=>unC (Zby n m x t)]=some D∧Zc4 [ZE (m+1) G R,ZaF (m+1) n fun t=>unC (Zby n m x t)]=some D∧Tm n 5100 M (fun v=>∃y,Zax (m+1) G R y∧∀t,t<n→v t=y (Zby n m x t-1)) (fun G2 R2=>(∀i,i<n+1→∀j,j<n+1→leO (G2 i j) (G (fO (Zby n m x) i) (fO (Zby n m x) j)))∧∀t,t<n→RIn (R2 t) (R (Zby n m x t-1))) D:=by
 have ho:=ZwX (x:=x) hnm
 have ok:∀t,t<m+1→RestOk (R t):=fun t ht=>(hR t ht).1
 have bR:∀t,t<m+1→RBd 5000 (R t):=fun t ht=>(hR t ht).bd2 hM bM (by decide)
 have eG:=ZwV hd ho
 have eR:=Zwo ok ho
 obtain⟨D,e1,e2,h⟩:=ZoY (n:=m+1) (m:=n) (b:=5000) (K:=5000) (M:=M) (C:=fun t=>unC (Zby n m x t)) (by omega) (by omega) (by decide) (by decide) (by omega) hG bR ok (fun i hi k hk=>bd_un.mono (by decide)) hM (bM.mono (by decide)) (fun i j hi hj y e=>by rw[eG i j hi hj]at e;exact hG _ _ (ho.lt i hi) (ho.lt j hj) y e) (fun t ht=>by rw[eR t ht];have:=ho t ht;exact hR _ (by omega))
 refine⟨D,e1,e2,h.sub (by omega) ?_ ?_⟩
 ·rintro v ⟨y,li,e⟩
  refine⟨y,li,fun t ht=>?_⟩
  have:=ho t ht
  rw[ZmO this.1,if_pos this.2]
  exact e t ht
 ·rintro G2 R2 _ ⟨a,b⟩
  exact⟨fun i hi j hj=>by have:=a i hi j hj;rw[eG i j hi hj]at this;exact this,fun t ht=>by have:=b t ht;rw[eR t ht]at this;exact this⟩
theorem Zi5{x row s:T}(h:Zb9 [s]=some .none){s2:T}: ZbW [s,x,row,s2]=some .none:=by
 apply Pk.eq
 unfold ZbW ZeF
 walk_at "zz"
 refine ZJ h ?_
 walk_at "zz"
 rfl
theorem ZqT{x row s:T}(h:Zb9 [s]=some (ZE n G R)): ZbW [s,x,row,.none]=some .none:=by
 have ht:ZE n G R=.tup [ZZ (n+1) G,.lst (tab n fun i=>ZQ (R i))]:=rfl
 have hne:∀{Q:T→Prop},Q (.bool false)→Pk (qIs (ZE n G R) .none) Q:=fun h=>⟨_,by rw[ht];rfl,h⟩
 apply Pk.eq
 unfold ZbW ZeF
 walk_at "zz"
 refine ZJ h ?_
 walk_at "zz"
 refine hne ?_
 walk_at "zz"
 rfl
theorem Zo0: (tab n fun t=>Zac n (unC (t+1)))++(tab r fun t=>Zac n (C t))=tab (n+r) fun t=>Zac n (Zbb n C t):=by
 refine List.ext_getElem? fun i=>?_
 rw[List.getElem?_append]
 rw[Zan]
 split
 ·rename_i h
  rw[ZaP h,ZaP (by omega)]
  unfold Zbb
  rw[if_pos h]
 ·rename_i h
  by_cases c:i-n<r
  ·rw[ZaP c,ZaP (by omega)]
   unfold Zbb
   rw[if_neg h]
  ·rw[Zgj (by omega),Zgj (by omega)]
theorem Ztj{x:Nat}: (T.lst (tab n fun i=>if i=x then Zac (m+1) (unC (m+1))else Zac (m+1) (unC (i+1))))=ZaF (m+1) n fun t=>unC (Zby n m x t):=by
 unfold ZaF
 congr 1
 refine Za2 fun i _=>?_
 by_cases q:i=x
 ·rw[if_pos q];show _=Zac (m+1) (unC (if i=x then m+1 else i+1));rw[if_pos q]
 ·rw[if_neg q];show _=Zac (m+1) (unC (if i=x then m+1 else i+1));rw[if_neg q]
theorem Zrs{Gs:Nat→Nat→Option Int}{Rs:Nat→Int×Int}{T0 S0:T}{xv:T}(hn:n≤20)(hr:r≤20)(hS:∃m G R,S0=ZE m G R)(h1:Zb9 [T0]=some (ZE n Gs Rs))(h2:Zcv [ZE n Gs Rs,ZaF n (n+r) (Zbb n C)]=some .none): ZbW [T0,xv,ZaF n r C,S0]=some .none:=by
 have ht:ZE n Gs Rs=.tup [ZZ (n+1) Gs,.lst (tab n fun i=>ZQ (Rs i))]:=rfl
 have hne:∀{Q:T→Prop},Q (.bool false)→Pk (qIs (ZE n Gs Rs) .none) Q:=fun h=>⟨_,by rw[ht];rfl,h⟩
 have hg:∀{Q:T→Prop},Q (.lst (tab n fun i=>ZQ (Rs i)))→Pk (Zl (ZE n Gs Rs) (.int 1)) Q:=fun h=>⟨_,by rw[ht];rfl,h⟩
 have hne2:∀{Q:T→Prop},Q (.bool false)→Pk (qIs S0 .none) Q:=fun h=>by obtain⟨m,G,R,rfl⟩:=hS;exact⟨_,rfl,h⟩
 have hs:ZaF n r C=.lst (tab r fun i=>Zac n (C i)):=rfl
 apply Pk.eq
 unfold ZbW ZeF
 rw[hs]
 clear ht
 generalize hD:ZE n Gs Rs=T1 at *
 walk_at "zz"
 refine ZJ h1 ?_
 walk_at "zz"
 refine hne ?_
 walk_at "zz"
 refine hne2 ?_
 walk_at "zz"
 refine hg ?_
 walk_at "zz"
 refine ZJ (Zki (m:=n) (n:=n) (by omega) (by omega)) ?_
 unfold ZaF
 walk_at "zz"
 refine Zdm (by simp[tab];omega) ?_
 rw[Zo0,show T.lst (tab (n+r) fun t=>Zac n (Zbb n C t))=ZaF n (n+r) (Zbb n C)from rfl]
 walk_at "zz"
 refine ZJ h2 ?_
 walk_at "zz"
 rfl
theorem ZrQ{x:Nat}{Gs Gg:Nat→Nat→Option Int}{Rs Rg:Nat→Int×Int}{T0 S0 L0 B0 D:T}(hm:m=n+r)(hx:x<n)(hn:n≤10)(hr:r≤10)(hS:∃m G R,S0=ZE m G R)(h1:Zb9 [T0]=some (ZE n Gs Rs))(h2:Zcv [ZE n Gs Rs,ZaF n (n+r) (Zbb n C)]=some (ZE m Gg Rg))(h3:ZeL [ZE (m+1) (Zbi m Gg) (ZbE m Rg),.lst (tab (r+1) fun i=>.int (((n+i:Nat):Int)+1)),S0]=some L0)(h4:Zb9 [L0]=some B0)(h5:Zcv [B0,ZaF (m+1) n fun t=>unC (Zby n m x t)]=some D): ZbW [T0,.int ((x:Int)+1),ZaF n r C,S0]=some D:=by
 have ht:ZE n Gs Rs=.tup [ZZ (n+1) Gs,.lst (tab n fun i=>ZQ (Rs i))]:=rfl
 have hne:∀{Q:T→Prop},Q (.bool false)→Pk (qIs (ZE n Gs Rs) .none) Q:=fun h=>⟨_,by rw[ht];rfl,h⟩
 have hne3:∀{Q:T→Prop},Q (.bool false)→Pk (qIs (ZE m Gg Rg) .none) Q:=fun h=>⟨_,rfl,h⟩
 have hg:∀{Q:T→Prop},Q (.lst (tab n fun i=>ZQ (Rs i)))→Pk (Zl (ZE n Gs Rs) (.int 1)) Q:=fun h=>⟨_,by rw[ht];rfl,h⟩
 have hne2:∀{Q:T→Prop},Q (.bool false)→Pk (qIs S0 .none) Q:=fun h=>by obtain⟨m,G,R,rfl⟩:=hS;exact⟨_,rfl,h⟩
 have hs:ZaF n r C=.lst (tab r fun i=>Zac n (C i)):=rfl
 have hw:ZfS [ZE m Gg Rg,.int ((1:Nat):Int)]=some (ZE (m+1) (Zbi m Gg) (ZbE m Rg)):=ZrP (by omega) (by decide) (by decide)
 have hb1:ZeE [.int n,.int (m+1:Nat)]=some (ZaF (m+1) n fun t=>unC (t+1)):=Zki (by omega) (by omega)
 have hb2:Zec [.int (m+1:Nat),.int (m+1:Nat)]=some (Zac (m+1) (unC (m+1))):=Zk5 (by omega)
 have hl:Zgc [.lst (tab n fun t=>Zac (m+1) (unC (t+1))),.int ((x:Int)+1),Zac (m+1) (unC (m+1))]=some (ZaF (m+1) n fun t=>unC (Zby n m x t)):=by rw[Zue hx (by omega),Ztj]
 apply Pk.eq
 unfold ZbW ZeF
 rw[hs]
 clear ht
 generalize ZE n Gs Rs=T1 at *
 generalize ZE m Gg Rg=T2 at *
 generalize ZE (m+1) (Zbi m Gg) (ZbE m Rg)=T3 at *
 walk_at "zz"
 refine ZJ h1 ?_
 walk_at "zz"
 refine hne ?_
 walk_at "zz"
 refine hne2 ?_
 walk_at "zz"
 refine hg ?_
 walk_at "zz"
 refine ZJ (Zki (m:=n) (n:=n) (by omega) (by omega)) ?_
 unfold ZaF
 walk_at "zz"
 refine Zdm (by simp[tab];omega) ?_
 rw[Zo0,show T.lst (tab (n+r) fun t=>Zac n (Zbb n C t))=ZaF n (n+r) (Zbb n C)from rfl]
 walk_at "zz"
 refine ZJ h2 ?_
 walk_at "zz"
 refine hne3 ?_
 walk_at "zz"
 refine ZJ hw ?_
 walk_at "zz"
 rw[show(n:Int)+r+1=((m+1:Nat):Int)by omega]
 refine ZtV (n:=r+1) (by omega) (by omega) ?_
 have et:(tab (r+1) fun i=>T.int ((n:Int)+1+i))=tab (r+1) fun i=>.int (((n+i:Nat):Int)+1):=Za2 fun i _=>congrArg T.int (by omega)
 rw[et]
 walk_at "zz"
 refine ZJ h3 ?_
 walk_at "zz"
 refine ZJ h4 ?_
 walk_at "zz"
 refine ZJ hb1 ?_
 unfold ZaF
 walk_at "zz"
 refine ZJ hb2 ?_
 walk_at "zz"
 refine ZJ hl ?_
 walk_at "zz"
 exact ZJ h5 rfl
noncomputable def Zm6(n r x:Nat)(G:Nat→Nat→Option Int)(R:Nat→Int×Int)(C:Nat→Nat→Int)(G':Nat→Nat→Option Int)(R':Nat→Int×Int)(v:Nat→Int): Prop:=∃z a,Zax n G R z∧Zax (r+1) G' R' (fun i=>if i<r then Zar (C i) z n else a)∧∀t,t<n→v t=if t=x then a else z t
noncomputable def Zqk(n x:Nat)(G2:Nat→Nat→Option Int)(R2:Nat→Int×Int)(G:Nat→Nat→Option Int)(R:Nat→Int×Int): Prop:=(∀i,i<n+1→i≠x+1→∀j,j<n+1→j≠x+1→leO (G2 i j) (G i j))∧∀t,t<n→t≠x→RIn (R2 t) (R t)
noncomputable def Zql(n r x:Nat)(T0:T)(C:Nat→Nat→Int)(G':Nat→Nat→Option Int)(R':Nat→Int×Int)(D:T): Prop:=(ZcK [T0]=some .none∧D=.none)∨∃Gs Rs,ZcK [T0]=some (ZE n Gs Rs)∧((Zc4 [ZE n Gs Rs,ZaF n (n+r) (Zbb n C)]=some .none∧D=.none)∨∃Gg Rg L0 B0,Zc4 [ZE n Gs Rs,ZaF n (n+r) (Zbb n C)]=some (ZE (n+r) Gg Rg)∧(∀t,t<n+r→RestOk (Rg t))∧(∀t,t<n+r→RBd 3440 (Rg t))∧Zqi n r (n+r) Gg Rg G' R' L0∧ZcK [L0]=some B0∧Zc4 [B0,ZaF (n+r+1) n fun t=>unC (Zby n (n+r) x t)]=some D)
theorem Zqm{x:Nat}(hi:i≠x+1): fO (Zby n m x) i=i:=by
 cases i with
 | zero=>rfl
 | succ i=>show Zby n m x i=_;unfold Zby;rw[if_neg (by omega)]
theorem Zsz{x:Nat}(hx:x<n)(hn:n≤4)(hr:r≤4)(hd:∀i,i<n+1→G i i=some 0)(ok:∀t,t<n→RestOk (R t))(sG:SmG 137 n G)(sR:SmR 137 n R)(hC:CB 140 n r C)(hd':∀i,i<r+1+1→G' i i=some 0)(ok':∀t,t<r+1→RestOk (R' t))(sG':SmG 300 (r+1) G')(sR':SmR 300 (r+1) R'): ∃D,ZbW [ZE n G R,.int ((x:Int)+1),ZaF n r C,ZE (r+1) G' R']=some D∧Zql n r x (ZE n G R) C G' R' D∧Tf n (Zm6 n r x G R C G' R') (fun G2 R2=>Zqk n x G2 R2 G R) D:=by
 obtain⟨D1,p1,l1,M1,m1,b1,h1⟩:=ZpH hn hd ok sG sR
 rcases h1 with⟨rfl,no⟩ | ⟨G1,R1,rfl,d1,r1,g1,li1,in1⟩
 ·exact⟨.none,Zi5 p1,.inl ⟨l1,rfl⟩,.inl ⟨rfl,fun v ⟨z,a,hz,_⟩=>no z hz⟩⟩
 obtain⟨D2,p2,l2,M2,m2,b2,h2⟩:=Zug hn hr m1 b1 d1 g1 r1 hC
 rcases h2 with⟨rfl,no⟩ | ⟨G2,R2,rfl,d2,r2,g2,li2,in2⟩
 ·refine⟨.none,Zrs (by omega) (by omega) ⟨_,_,_,rfl⟩ p1 p2,.inr ⟨_,_,l1,.inl ⟨l2,rfl⟩⟩,.inl ⟨rfl,fun v ⟨z,a,hz,_⟩=>no (fun t=>if t<n then z t else Zar (C (t-n)) z n) ⟨z,li1 z hz,fun t ht=>if_pos ht,fun t ht=>?_⟩⟩⟩
  show(if n+t<n then _ else _)=_
  rw[if_neg (by omega),Nat.add_sub_cancel_left]
 obtain⟨L0,p3,la,M3,m3,b3,h3⟩:=Zwv (m:=n+r) rfl hn hr m2 b2 d2 g2 r2 hd' ok' sG' sR'
 have key:∀v,Zm6 n r x G R C G' R' v→∃y,(Zax (n+r) G2 R2 y∧Zax (r+1) G' R' fun i=>y (n+i))∧∀t,t<n→v t=y (Zby n (n+r) x t-1):=fun v ⟨z,a,hz,hs,hv⟩=>by
  refine⟨fun t=>if t<n then z t else if t<n+r then Zar (C (t-n)) z n else a,⟨li2 _ ⟨z,li1 z hz,fun t ht=>if_pos ht,fun t ht=>?_⟩,Zk6 hs fun i hi=>?_⟩,fun t ht=>?_⟩
  ·show(if n+t<n then _ else if n+t<n+r then _ else _)=_
   rw[if_neg (by omega),if_pos (by omega),Nat.add_sub_cancel_left]
  ·show(if n+i<n then _ else if n+i<n+r then _ else _)=_
   rw[if_neg (by omega),Nat.add_sub_cancel_left]
   by_cases c:i<r
   ·rw[if_pos (by omega),if_pos c]
   ·rw[if_neg (by omega),if_neg c]
  ·rw[hv t ht]
   unfold Zby
   by_cases c:t=x
   ·rw[if_pos c,if_pos c]
    show _=(if n+r+1-1<n then _ else if n+r+1-1<n+r then _ else _)
    rw[if_neg (by omega),if_neg (by omega)]
   ·rw[if_neg c,if_neg c]
    show _=(if t+1-1<n then _ else _)
    rw[if_pos (by omega),Nat.add_sub_cancel]
 have bR2:∀t,t<n+r→RBd 3440 (R2 t):=fun t ht=>(r2 t ht).bd2 m2 b2 (by decide)
 have fin:∀B0 D,Zb9 [L0]=some B0→ZcK [L0]=some B0→Zcv [B0,ZaF (n+r+1) n fun t=>unC (Zby n (n+r) x t)]=some D→Zc4 [B0,ZaF (n+r+1) n fun t=>unC (Zby n (n+r) x t)]=some D→ZbW [ZE n G R,.int ((x:Int)+1),ZaF n r C,ZE (r+1) G' R']=some D∧Zql n r x (ZE n G R) C G' R' D:=fun B0 D q1 q2 q3 q4=>⟨ZrQ (m:=n+r) rfl hx (by omega) (by omega) ⟨_,_,_,rfl⟩ p1 p2 p3 q1 q3,.inr ⟨_,_,l1,.inr ⟨_,_,L0,B0,l2,fun t ht=>(r2 t ht).1,bR2,la,q2,q4⟩⟩⟩
 rcases h3 with⟨rfl,no⟩ | ⟨G3,R3,rfl,d3,r3,g3,li3,in3⟩
 ·obtain⟨a,b⟩:=fin .none .none ZnR ZqO ZnA Zm9
  exact⟨.none,a,b,.inl ⟨rfl,fun v h=>by obtain⟨y,hy,_⟩:=key v h;exact no y hy⟩⟩
 obtain⟨B0,p4,l4,h4⟩:=Zmn (k:=4950) (by omega) (by omega) m3 b3 d3 (fun i j hi hj y e=>(g3 i j hi hj y e).mono (by decide)) (fun t ht=>(r3 t ht).mono (by decide))
 rcases h4 with⟨rfl,no⟩ | ⟨G4,R4,rfl,d4,r4,g4,li4,in4⟩
 ·obtain⟨a,b⟩:=fin .none .none p4 l4 ZnA Zm9
  exact⟨.none,a,b,.inl ⟨rfl,fun v h=>by obtain⟨y,hy,_⟩:=key v h;exact no y (li3 y hy)⟩⟩
 obtain⟨D,p5,l5,h5⟩:=Zuh (n:=n) (m:=n+r) (x:=x) (by omega) (by omega) m3 b3 d4 (fun i j hi hj y e=>(g4 i j hi hj y e).mono (by omega)) (fun t ht=>(r4 t ht).mono (by omega))
 obtain⟨a,b⟩:=fin _ D p4 l4 p5 l5
 refine⟨D,a,b,?_⟩
 rcases h5.tf with⟨rfl,no⟩ | ⟨G5,R5,rfl,d5,o5,li5,in5⟩
 ·exact .inl ⟨rfl,fun v h=>by obtain⟨y,hy,e⟩:=key v h;exact no v ⟨y,li4 y (li3 y hy),e⟩⟩
 ·refine .inr ⟨G5,R5,rfl,d5,o5,fun v h=>by obtain⟨y,hy,e⟩:=key v h;exact li5 v ⟨y,li4 y (li3 y hy),e⟩,fun i hi hix j hj hjx=>?_,fun t ht htx=>?_⟩
  ·have:=in5.1 i hi j hj
   rw[Zqm hix,Zqm hjx]at this
   exact Zb8 this (Zb8 (in4.1 i (by omega) j (by omega)) (Zb8 (in3.1 i (by omega) j (by omega)) (Zb8 (in2.1 i hi j hj) (in1.1 i hi j hj))))
  ·have q5:=in5.2 t ht
   rw[show Zby n (n+r) x t-1=t by unfold Zby;rw[if_neg htx];omega]at q5
   have o1:=(r1 t ht).1
   have o2:=(r2 t (by omega)).1
   have o3:=(r3 t (by omega)).1
   have o4:=(r4 t (by omega)).1
   exact ZmN (o5 t ht) (ok t ht) fun y hy=>Zgf o1 (ok t ht) (in1.2 t ht) (Zgf o2 o1 (in2.2 t ht) (Zgf o3 o2 (in3.2 t (by omega)) (Zgf o4 o3 (in4.2 t (by omega)) (Zgf (o5 t ht) o4 q5 hy))))
theorem Zvy(hn:n≤100)(ok:∀t,t<n→RestOk (R t)): Pk (Zcr [ZE n G R,ZbG n x]) fun t=>t=.bool false∨(t=.bool true∧Zax n G R x):=by
 unfold Zcr Zhj ZE ZZ Zaf ZaI ZbG
 walk_at "zz"
 rw[ZmJ]
 refine Za6 (n:=n+1) (a:=fun i=>.int i) (P:=fun m σ=>σ 0=some (ZE n G R)∧σ 1=some (.lst (tab n fun i=>.int (x i)))∧σ 2=some (.lst (tab (n+1) fun i=>.int (Zaq x i)))∧∀i j,i<m→j<n+1→∀b,G i j=some b→Zaq x i-Zaq x j≤b) ?_ ⟨by walk_at "zr",by walk_at "zr",by walk_at "zr",fun i j hi=>by omega⟩ ?_ ?_
 ·walk_at "zz"
  rfl
 ·rintro i σ hi ⟨e0,e1,e2,hm⟩
  refine Za6 (n:=n+1) (a:=fun i=>.int i) (P:=fun m σ=>σ 0=some (ZE n G R)∧σ 1=some (.lst (tab n fun i=>.int (x i)))∧σ 2=some (.lst (tab (n+1) fun i=>.int (Zaq x i)))∧σ 3=some (.int i)∧∀j,j<m→∀b,G i j=some b→Zaq x i-Zaq x j≤b) ?_ ⟨by walk_at "zr",by walk_at "zr",by walk_at "zr",by walk_at "zr",fun j hj=>by omega⟩ ?_ ?_
  ·walk_at "zz"
   rfl
  ·rintro j σ hj ⟨f0,f1,f2,f3,hj2⟩
   unfold ZE ZZ Zaf ZaI at f0
   walk_at "zz"
   cases hg:G i j with
   | none=>
    rw[Zbq]
    walk_at "zz"
    refine⟨by walk_at "zr",by walk_at "zr",by walk_at "zr",by walk_at "zr",fun j' h' b e=>?_⟩
    by_cases z:j'=j
    ·rw[z,hg]at e;cases e
    ·exact hj2 j' (by omega) b e
   | some b=>
    rw[ZaE]
    walk_at "zz"
    rw[hg,ZaE]
    walk_at "zz"
    refine⟨fun q=>?_,fun q=>?_⟩
    ·walk_at "zz"
     exact .inl rfl
    ·walk_at "zz"
     refine⟨by walk_at "zr",by walk_at "zr",by walk_at "zr",by walk_at "zr",fun j' h' b' e=>?_⟩
     by_cases z:j'=j
     ·rw[z,hg]at e
      cases e
      have:=of_decide_eq_false q
      rw[z]
      omega
     ·exact hj2 j' (by omega) b' e
  ·rintro σ ⟨f0,f1,f2,f3,f4⟩
   refine⟨f0,f1,f2,fun i' j hi' hj b e=>?_⟩
   by_cases z:i'=i
   ·rw[z]at e ⊢;exact f4 j hj b e
   ·exact hm i' j (by omega) hj b e
 ·rintro σ ⟨e0,e1,e2,hm⟩
  refine Zgk ?_
  refine Za6 (n:=n) (a:=fun i=>.int i) (P:=fun m σ=>σ 0=some (ZE n G R)∧σ 1=some (.lst (tab n fun i=>.int (x i)))∧∀t,t<m→Zao (R t) (x t)) ?_ ⟨e0,e1,fun t h=>by omega⟩ ?_ ?_
  ·walk_at "zz"
   rfl
  ·rintro t σ ht ⟨f0,f1,hr⟩
   unfold ZE ZZ Zaf ZaI ZQ at f0
   have ho:=ok t ht
   have step:Zao (R t) (x t)→∀t',t'<t+1→Zao (R t') (x t'):=fun h t' ht'=>by
    by_cases z:t'=t
    ·rw[z];exact h
    ·exact hr t' (by omega)
   walk_at "zz"
   by_cases c:(R t).1=0
   ·by_cases d:x t-(R t).2=0
    ·walk_at "zz"
     refine⟨by walk_at "zr",by walk_at "zr",step ?_⟩
     unfold Zao
     exact⟨fun _=>by omega,fun q=>by omega⟩
    ·walk_at "zz"
     exact .inl rfl
   ·have hp:0<(R t).1:=by have:=ho.nn;omega
    walk_at "zz"
    rw[Int.fmod_eq_emod_of_nonneg _ (by omega)]
    refine⟨fun q=>?_,fun q=>?_⟩
    ·walk_at "zz"
     exact .inl rfl
    ·walk_at "zz"
     refine⟨by walk_at "zr",by walk_at "zr",step ?_⟩
     unfold Zao
     refine⟨fun z=>absurd z c,fun _=>?_⟩
     have:=of_decide_eq_false q
     exact Classical.byContradiction fun h=>this h
  ·rintro σ ⟨f0,f1,hr⟩
   walk_at "zz"
   exact .inr ⟨rfl,hm,hr⟩
theorem Zl2(hn:n≤100)(ok:∀t,t<n→RestOk (R t)): ∃b,Zcr [ZE n G R,ZbG n x]=some (.bool b)∧(b=true↔Zax n G R x):=by
 obtain⟨t,e,h⟩:=Zvy (x:=x) (G:=G) hn ok
 rcases h with rfl | ⟨rfl,h⟩
 ·refine⟨false,e,⟨fun q=>(by cases q),fun h=>?_⟩⟩
  have:=Ztf hn h ok
  rw[e]at this
  cases this
 ·exact⟨true,e,⟨fun _=>h,fun _=>rfl⟩⟩
theorem Zok{k x:Int}(hx:Bd 290 x): Bd 290 (ZcG ns k x).1∧Bd 290 (ZcG ns k x).2:=by
 have h:=ZhI ns k
 have h2:Bd 290 (Zck ns k):=ZbL (Zgd ns k) (by decide)
 have e:(20:Nat)<2 ^ 290:=by decide
 unfold Bd at *
 unfold ZcG
 split
 ·exact⟨by show(1:Nat)<_;omega,by show(0:Nat)<_;omega⟩
 ·split
  ·exact⟨by show(0:Nat)<_;omega,hx⟩
  ·split
   ·exact Zfv (by omega) (by omega) hx
   ·exact Zfv (ZcR _) (by rw[ZhK];exact h2) hx
theorem Ztk{k:Int}(hx:∀i,i<n→Bd 290 (x i)): SmR 300 n (ZdI ns k n x):=fun t ht=>⟨ZbL (Zok (hx t ht)).1 (by decide),ZbL (Zok (hx t ht)).2 (by decide)⟩
theorem Ztl{k:Int}(hx:∀i,i<n→Bd 290 (x i)): SmG 300 n (ZbD ns k n x):=by
 intro i j hi hj b h
 have h40:=Zgi
 have h1:Bd 290 (Zaq x i):=Zhq (k:=290) hx i hi
 have h2:Bd 290 (Zaq x j):=Zhq (k:=290) hx j hj
 unfold ZbD at h
 split at h
 ·cases h;exact Nat.two_pow_pos _
 ·obtain⟨c,h3,h4⟩:=Zz1.mp h
  have:=ZlX ns _ h3
  subst h4
  have e:(2:Nat) ^ 140=1393796574908163946345982392040522594123776:=by decide
  have hc0:Bd 140 c:=by unfold Bd;omega
  have hc:Bd 291 c:=hc0.mono (by decide)
  exact((h1.sub h2).add hc).mono (by decide)
theorem ZnT{v:Int}(hX:X<n)(hn:n≤1000): ZdS [ZbG n x,.int ((X:Int)+1),.int v]=some (ZbG n fun i=>if i=X then v else x i):=by
 apply Pk.eq
 unfold ZdS Zlw ZbG
 have hlen:(tab n fun i=>T.int (x i)).length=n:=Zan
 walk_at "zz"
 refine ZmY ?_
 walk_at "zz"
 refine⟨_,rfl,?_⟩
 walk_at "zz"
 refine⟨X,by congr 1;omega,?_⟩
 walk_at "zz"
 refine Zdm (by simp[hlen];omega) ?_
 refine ZmZ ?_
 walk_at "zz"
 refine⟨_,rfl,?_⟩
 walk_at "zz"
 refine⟨X+1,rfl,?_⟩
 refine Zdm (by simp[hlen];omega) ?_
 rw[Zps (by omega),ZeV]
 show T.lst _=T.lst _
 congr 1
 refine Za2 fun i _=>?_
 show _=T.int (if i=X then v else x i)
 by_cases q:i=X
 ·rw[if_pos q,if_pos q]
 ·rw[if_neg q,if_neg q]
noncomputable def skX(X i:Nat): Nat:=if i<X then i else i+1
noncomputable def neT(X:Nat): T→Bool
 | .int i=>decide (i≠X)
 | _=>true
theorem ZpI{X:Nat}: ∀k,((tab k fun i=>T.int (i:Nat)).filter (neT X))=if k≤X then tab k fun i=>T.int (i:Nat)else tab (k-1) fun i=>T.int (skX X i:Nat)
 | 0=>by rw[if_pos (by omega)];rfl
 | k+1=>by
  rw[←Zcu (n:=k) (f:=fun i=>T.int (i:Nat)),List.filter_append,ZpI k]
  by_cases c:k+1≤X
  ·rw[if_pos (by omega),if_pos c]
   congr 1
   rw[List.filter_cons,if_pos (by show decide ((k:Int)≠X)=true;rw[decide_eq_true_eq];omega)]
   rfl
  ·rw[if_neg c]
   by_cases c2:k≤X
   ·have:k=X:=by omega
    subst this
    rw[if_pos c2,List.filter_cons,if_neg (by show ¬decide ((k:Int)≠k)=true;simp),Nat.add_sub_cancel]
    simp only[List.filter_nil,List.append_nil]
    refine Za2 fun i hi=>?_
    unfold skX
    rw[if_pos hi]
   ·rw[if_neg c2,List.filter_cons,if_pos (by show decide ((k:Int)≠X)=true;rw[decide_eq_true_eq];omega),Nat.add_sub_cancel]
    obtain⟨j,rfl⟩:∃j,k=j+1:=⟨k-1,by omega⟩
    rw[Nat.add_sub_cancel,←Zcu (n:=j) (f:=fun i=>T.int (skX X i:Nat))]
    congr 1
    show [T.int ((j+1:Nat):Int)]=[T.int (skX X j:Nat)]
    unfold skX
    rw[if_neg (by omega)]
theorem Zui{l:Nat→T}(h:X<m+1): (tab (m+1) l).take X++(tab (m+1) l).drop (X+1)=tab m fun i=>l (skX X i):=by
 refine List.ext_getElem? fun i=>?_
 have hl:((tab (m+1) l).take X).length=X:=by simp[tab];omega
 rw[List.getElem?_append,hl,List.getElem?_take,List.getElem?_drop]
 unfold skX
 by_cases c:i<X
 ·rw[if_pos c,if_pos c,ZaP (by omega),ZaP (by omega),if_pos c]
 ·rw[if_neg c]
  by_cases d:i<m
  ·rw[ZaP (by omega),ZaP d,if_neg c]
   congr 2
   omega
  ·rw[Zgj (by omega),Zgj (by omega)]
noncomputable def skG(X:Nat)(G:Nat→Nat→Option Int): Nat→Nat→Option Int:=fun i j=>G (skX (X+1) i) (skX (X+1) j)
noncomputable def skR(X:Nat)(R:Nat→Int×Int): Nat→Int×Int:=fun t=>R (skX X t)
theorem Ze8(h:i<m): skX X i<m+1:=by unfold skX;split <;> omega
theorem ZnU(hX:X<m+1)(hm:m≤90): Zd9 [ZE (m+1) G R,.int ((X:Int)+1)]=some (ZE m (skG X G) (skR X R)):=by
 have ht:ZE (m+1) G R=.tup [.lst (tab (m+2) fun i=>.lst (tab (m+2) fun j=>oT (G i j))),.lst (tab (m+1) fun i=>ZQ (R i))]:=rfl
 have hlen:(tab (m+1) fun i=>ZQ (R i)).length=m+1:=Zan
 have hlen2:(tab (m+2) fun i=>T.lst (tab (m+2) fun j=>oT (G i j))).length=m+2:=Zan
 apply Pk.eq
 unfold Zd9 Zjq
 rw[ht]
 walk_at "zz"
 refine ZhD (ts:=tab (m+2) fun i=>.int (i:Nat)) (P:=neT (X+1)) (by rw[Zan];omega) ?_ (fun t ht=>?_) ?_
 ·walk_at "zz"
  rfl
 ·obtain⟨i,hi,e⟩:=ZcO ht
  subst e
  walk_at "zz"
  show decide ((i:Int)≠(X:Int)+1)=decide ((i:Int)≠((X+1:Nat):Int))
  rfl
 rw[ZpI,if_neg (by omega),show m+2-1=m+1 by omega]
 walk_at "zz"
 refine Za6 (n:=m+1) (a:=fun i=>.int (skX (X+1) i:Nat)) (P:=fun k σ=>σ 0=some (.tup [.lst (tab (m+2) fun i=>.lst (tab (m+2) fun j=>oT (G i j))),.lst (tab (m+1) fun i=>ZQ (R i))])∧σ 1=some (.int ((X:Int)+1))∧σ 2=some (.lst (tab (m+1) fun i=>.int (skX (X+1) i:Nat)))∧σ 3=some (.lst (tab k fun i=>Zaf (m+1) (skG X G i)))) ?_ ⟨by walk_at "zr",by walk_at "zr",by walk_at "zr",by walk_at "zr"⟩ ?_ ?_
 ·walk_at "zz"
  rfl
 ·rintro k σ hk ⟨e0,e1,e2,e3⟩
  have hk2:=Ze8 (X:=X+1) hk
  walk_at "zz"
  refine Zbg (n:=m+1) (a:=fun i=>.int (skX (X+1) i:Nat)) (b:=fun j=>oT (skG X G k j)) (by omega) ?_ (fun j hj=>?_) ?_
  ·walk_at "zz"
   rfl
  ·have hj2:=Ze8 (X:=X+1) hj
   walk_at "zz"
   rfl
  walk_at "zz"
  rw[show tab k (fun i=>Zaf (m+1) (skG X G i))++[T.lst (tab (m+1) fun j=>oT (skG X G k j))]=tab (k+1) fun i=>Zaf (m+1) (skG X G i)from Zcu (f:=fun i=>Zaf (m+1) (skG X G i))]
  exact⟨by walk_at "zr",by walk_at "zr",by walk_at "zr",by walk_at "zr"⟩
 ·rintro σ ⟨e0,e1,e2,e3⟩
  walk_at "zz"
  refine ZmY ?_
  walk_at "zz"
  refine⟨_,rfl,?_⟩
  walk_at "zz"
  refine⟨X,by congr 1;omega,?_⟩
  refine ZmZ ?_
  walk_at "zz"
  refine⟨_,rfl,?_⟩
  walk_at "zz"
  refine⟨X+1,rfl,?_⟩
  refine Zdm (by simp[hlen];omega) ?_
  rw[Zui hX]
  walk_at "zz"
  rfl
theorem Ztm(h:Zqk (m+1) X G2 R2 G R): Ze5 m (skG X G2) (skR X R2) (skG X G) (skR X R):=by
 have ne:∀i,skX (X+1) i≠X+1:=fun i=>by unfold skX;split <;> omega
 have ne2:∀i,skX X i≠X:=fun i=>by unfold skX;split <;> omega
 exact⟨fun i hi j hj=>h.1 _ (Ze8 hi) (ne i) _ (Ze8 hj) (ne j),fun t ht=>h.2 _ (Ze8 ht) (ne2 t)⟩
theorem Zvz(h:Q (f n)): Pk (Zl (.lst (tab (n+1) f)) (.int (-1))) Q:=⟨f n,by
 simp only[Zl,Zan]
 rw[show seqIndex? (-1) (n+1)=some n by unfold seqIndex?;simp;omega]
 simp only[Option.bind_some]
 exact ZaP (by omega),h⟩
theorem Zol{f:Nat→Int}{a:Int}: (tab r fun i=>T.int (f i))++[T.int a]=tab (r+1) fun i=>T.int (if i<r then f i else a):=by
 rw[←Zcu (n:=r) (f:=fun i=>T.int (if i<r then f i else a))]
 congr 1
 ·exact Za2 fun i hi=>by rw[if_pos hi]
 ·rw[if_neg (by omega)]
theorem ZvA{a:Int}{N:TL→Prop}(hL:Lay ns)(hX:X<n)(hn:n≤4)(hr:r≤4)(hd:∀i,i<n+1→G i i=some 0)(ok:∀t,t<n→RestOk (R t))(sG:SmG 137 n G)(sR:SmR 137 n R)(hC:CB 140 n r C)(hd':∀i,i<r+1+1→G' i i=some 0)(ok':∀t,t<r+1→RestOk (R' t))(sG':SmG 300 (r+1) G')(sR':SmR 300 (r+1) R')(li:Zax n G R x)(li':Zax (r+1) G' R' fun i=>if i<r then Zar (C i) x n else a)(e0:σ 0=some (scr ns))(e3:σ 3=some (.int n))(e4:σ 4=some (ZbG n x))(e5:σ 5=some (ZE n G R))(e6:σ 6=some (ZaF n r C))(e7:σ 7=some (.lst (tab r fun i=>.int (Zar (C i) x n))))(e8:σ 8=some (.int a))(e9:σ 9=some (ZE (r+1) G' R'))(e10:σ 10=some (.int ((X:Int)+1))): Psk ((Zp (ZF 11 (ZaQ (Ze (Zs Zdz (Ze (Za 5) Zk)) (Ze (Zs Zdz (Ze (Za 9) Zk)) (Ze (Zai (Zaz (Za 6)) (ZX 106) Z4 (Zs Zcx (Ze (Za 106) Zk))) Zk))))) (Zp (ZF 12 (Zs ZbW (Ze (Za 5) (Ze (Za 10) (Ze (Za 6) (Ze (Za 9) Zk)))))) (Zp (ZO (bOr (Zx (Zc qNe (Za 5) (Zc Zl (Za 11) (Zg 0)))) (bOr (Zx (Zc qNe (Za 9) (Zc Zl (Za 11) (Zg 1)))) (bOr (Zx (Zc qNe (Za 6) (Zc Zl (Za 11) (Zg 2)))) Zb0))) (Zw (ZaX false)) ZR) (Zp (ZO (bOr (Zbp (Zx (Zs ZfB (Ze (Za 12) (Ze (Za 3) Zk))))) (bOr (Zbp (Zx (Zs Zcr (Ze (Za 12) (Ze (Zs ZdS (Ze (Za 4) (Ze (Za 10) (Ze (Za 8) Zk)))) Zk))))) Zb0)) (Zw (ZaX false)) ZR) (Zp (ZO (Zbp (Zx (Zs Zft (Ze (Zs Zd9 (Ze (Za 12) (Ze (Za 10) Zk))) (Ze (Zs Zd9 (Ze (Za 5) (Ze (Za 10) Zk))) Zk))))) (Zw (ZaX false)) ZR) (Zp (ZF 13 (Zs ZbV (Ze (Za 0) (Ze (Zg 29) (Ze (Zg 6) Zk))))) (Zp (ZF 14 (Zc ZaM (Zc ZV (Za 8) (Za 13)) (Zg 2))) (Zp (ZO (Zx (Zc qEq (Za 13) (Zg 5))) (ZF 14 (Zc ZV (Za 8) (Zc Zl (Zc Zl (Zc Zl (Za 9) (Zg 1)) (pUn Zc1 (Zg 1))) (Zg 0)))) ZR) (Zp (ZO (ZaB (Zx (Zs Zcr (Ze (Za 9) (Ze (Zc ZV (Za 7) (ZaQ (Ze (Za 14) Zk))) Zk)))) (ZaB (Zbp (Zx (Zs Zcr (Ze (Za 12) (Ze (Zs ZdS (Ze (Za 4) (Ze (Za 10) (Ze (Za 14) Zk)))) Zk))))) Z4)) (Zw (ZaX false)) ZR) (Zw ((Zdt (Zc qIs (Zs ZbW (Ze (ZN) (Ze (Za 10) (Ze (Za 6) (Ze (Za 9) Zk))))) (ZN)) (Zc qIs (Zs ZbW (Ze (Za 5) (Ze (Za 10) (Ze (Za 6) (Ze (ZN) Zk))))) (ZN)))))))))))))) σ) (fun t=>t=.bool true) N:=by
 obtain⟨D,ea,_,hD⟩:=Zsz hX hn hr hd ok sG sR hC hd' ok' sG' sR'
 have ansP:∀b,(Zax (r+1) G' R' fun i=>if i<r then Zar (C i) x n else b)→Zm6 n r X G R C G' R' fun t=>if t=X then b else x t:=fun b h=>⟨x,b,li,h,fun t _=>rfl⟩
 rcases hD with⟨rfl,no⟩ | ⟨G2,R2,rfl,d2,o2,l2,in2⟩
 ·exact absurd (ansP a li') (no _)
 have cp0:Zdz [ZE n G R]=some (ZE n G R):=Zpk (by omega)
 have cp1:Zdz [ZE (r+1) G' R']=some (ZE (r+1) G' R'):=Zpk (by omega)
 have p0:Pln 3 (ZE n G R):=Zox
 have p1:Pln 3 (ZE (r+1) G' R'):=Zox
 have ps:=Zvq (C:=C) (n:=n) (m:=r)
 have hsh:=Zsr (n:=n) (G:=G2) (R:=R2) (by omega) d2 o2
 have hpa:=ZnT (x:=x) (v:=a) hX (by omega)
 obtain⟨m,rfl⟩:∃m,n=m+1:=⟨n-1,by omega⟩
 have w2:=ZnU (G:=G2) (R:=R2) hX (by omega)
 have w0:=ZnU (G:=G) (R:=R) hX (by omega)
 have hin:=Zq3 (n:=m) (G:=skG X G2) (R:=skR X R2) (G':=skG X G) (R':=skR X R) (by omega) (fun t ht=>ok _ (Ze8 ht))
 rw[ZaR (Ztm in2)]at hin
 obtain⟨b1,la1,hb1⟩:=Zl2 (n:=m+1) (G:=G2) (R:=R2) (x:=fun i=>if i=X then a else x i) (by omega) o2
 rw[hb1.mpr (l2 _ (ansP a li'))]at la1
 have an1:ZbW [.none,.int ((X:Int)+1),ZaF (m+1) r C,ZE (r+1) G' R']=some .none:=Zi5 ZnR
 have an2:ZbW [ZE (m+1) G R,.int ((X:Int)+1),ZaF (m+1) r C,.none]=some .none:=by
  obtain⟨D1,q1,_,M,_,_,h1⟩:=ZpH hn hd ok sG sR
  rcases h1 with⟨rfl,_⟩ | ⟨_,_,rfl,_⟩
  ·exact Zi5 q1
  ·exact ZqT q1
 have hmv:∀mv:Int,∃c1 c2,Zcr [ZE (r+1) G' R',.lst (tab (r+1) fun i=>T.int (if i<r then Zar (C i) x (m+1)else mv))]=some (.bool c1)∧ZdS [ZbG (m+1) x,.int ((X:Int)+1),.int mv]=some (ZbG (m+1) fun i=>if i=X then mv else x i)∧Zcr [ZE (m+1) G2 R2,ZbG (m+1) fun i=>if i=X then mv else x i]=some (.bool c2)∧(c1=true→c2=true):=fun mv=>by
  obtain⟨c1,h1,k1⟩:=Zl2 (n:=r+1) (G:=G') (R:=R') (x:=fun i=>if i<r then Zar (C i) x (m+1)else mv) (by omega) ok'
  obtain⟨c2,h2,k2⟩:=Zl2 (n:=m+1) (G:=G2) (R:=R2) (x:=fun i=>if i=X then mv else x i) (by omega) o2
  exact⟨c1,c2,h1,ZnT hX (by omega),h2,fun h=>k2.mpr (l2 _ (ansP mv (k1.mp h)))⟩
 have hS1:∀{Q:T→Prop},Q (.lst (tab (r+1) fun i=>ZQ (R' i)))→Pk (Zl (ZE (r+1) G' R') (.int 1)) Q:=fun h=>⟨_,rfl,h⟩
 have hl:∀{σ:TL},σ 6=some (ZaF (m+1) r C)→Pk (Zai (Zaz (Za 6)) (ZX 106) Z4 (Zs Zcx (Ze (Za 106) Zk)) σ) fun t=>t=ZaF (m+1) r C:=fun e=>by
  unfold ZaF at e
  refine Zbg (n:=r) (a:=fun t=>Zac (m+1) (C t)) (b:=fun t=>Zac (m+1) (C t)) (by omega) ?_ (fun t ht=>?_) rfl
  ·walk_at "zz"
   rfl
  ·unfold Zac
   walk_at "zz"
   rfl
 clear in2 l2 d2 o2 li li' hd ok sG sR hd' ok' sG' sR' hC ansP hb1
 generalize ZE (m+1) G R=T0 at *
 generalize ZE (r+1) G' R'=S0 at *
 generalize ZE (m+1) G2 R2=D0 at *
 generalize ZaF (m+1) r C=C0 at *
 generalize ZE m (skG X G2) (skR X R2)=W2 at *
 generalize ZE m (skG X G) (skR X R)=W0 at *
 generalize (ZbG (m+1) fun i=>if i=X then a else x i)=B1 at *
 generalize ZbG (m+1) x=B0 at *
 walk_at "zz"
 refine ZJ cp0 ?_
 walk_at "zz"
 refine ZJ cp1 ?_
 walk_at "zz"
 refine(hl (by walk_at "zr")).mono ?_
 intro t0 et0
 rw[et0]
 clear et0 t0 hl
 walk_at "zz"
 refine ZJ ea ?_
 walk_at "zz"
 refine ZmC p0 p0 ?_
 rw[ZaR rfl]
 walk_at "zz"
 refine ZmC p1 p1 ?_
 rw[ZaR rfl]
 walk_at "zz"
 refine ZmC ps ps ?_
 rw[ZaR rfl]
 walk_at "zz"
 refine ZJ hsh ?_
 walk_at "zz"
 refine ZJ hpa ?_
 walk_at "zz"
 refine ZJ la1 ?_
 walk_at "zz"
 refine ZJ w2 ?_
 walk_at "zz"
 refine ZJ w0 ?_
 walk_at "zz"
 refine ZJ hin ?_
 walk_at "zz"
 refine ZJ (ZcQ (by decide) (by decide) (by decide)) ?_
 generalize Zbn ns 29 6=wy at *
 refine Zc7 (fun σ'=>σ' 0=some (scr ns)∧σ' 4=some B0∧σ' 5=some T0∧σ' 6=some C0∧σ' 7=some (.lst (tab r fun i=>.int (Zar (C i) x (m+1))))∧σ' 8=some (.int a)∧σ' 9=some S0∧σ' 10=some (.int ((X:Int)+1))∧σ' 12=some D0∧σ' 13=some (.int wy)∧∃mv:Int,σ' 14=some (.int mv)) ?_ ?_
 ·walk_at "zz"
  exact⟨by walk_at "zr",by walk_at "zr",by walk_at "zr",by walk_at "zr",by walk_at "zr",by walk_at "zr",by walk_at "zr",by walk_at "zr",by walk_at "zr",by walk_at "zr",_,ZbX⟩
 clear e0 e3 e4 e5 e6 e7 e8 e9 e10
 rintro σ1 ⟨e0,e4,e5,e6,e7,e8,e9,e10,e12,e13,mv0,e14⟩
 refine Zc7 (fun σ'=>σ' 4=some B0∧σ' 5=some T0∧σ' 6=some C0∧σ' 7=some (.lst (tab r fun i=>.int (Zar (C i) x (m+1))))∧σ' 9=some S0∧σ' 10=some (.int ((X:Int)+1))∧σ' 12=some D0∧∃mv:Int,σ' 14=some (.int mv)) ?_ ?_
 ·walk_at "zz"
  refine⟨fun q=>?_,fun q=>?_⟩
  ·walk_at "zz"
   refine hS1 ?_
   walk_at "zz"
   refine Zvz ?_
   have ep:ZQ (R' r)=.tup [.int (R' r).1,.int (R' r).2]:=rfl
   rw[ep]
   walk_at "zz"
   exact⟨by walk_at "zr",by walk_at "zr",by walk_at "zr",by walk_at "zr",by walk_at "zr",by walk_at "zr",by walk_at "zr",_,ZbX⟩
  ·walk_at "zz"
   exact⟨by walk_at "zr",by walk_at "zr",by walk_at "zr",by walk_at "zr",by walk_at "zr",by walk_at "zr",by walk_at "zr",_,e14⟩
 clear e0 e4 e5 e6 e7 e8 e9 e10 e12 e13 e14
 rintro σ2 ⟨e4,e5,e6,e7,e9,e10,e12,mv,e14⟩
 obtain⟨c1,c2,h1,h2,h3,h4⟩:=hmv mv
 clear hmv
 walk_at "zz"
 refine Zdm (by simp[tab];omega) ?_
 rw[Zol]
 walk_at "zz"
 refine ZJ h1 ?_
 generalize (ZbG (m+1) fun i=>if i=X then mv else x i)=B2 at *
 cases c1 with
 | true=>
  rw[h4 rfl]at h3
  walk_at "zz"
  refine ZJ h2 ?_
  walk_at "zz"
  refine ZJ h3 ?_
  walk_at "zz"
  refine ZJ an1 ?_
  walk_at "zz"
  refine ZJ an2 ?_
  walk_at "zz"
  rfl
 | false=>
  walk_at "zz"
  refine ZJ an1 ?_
  walk_at "zz"
  refine ZJ an2 ?_
  walk_at "zz"
  rfl
theorem ZrR(hL:Lay ns): ZlW [scr ns]=some (.bool true):=by
 apply Pk.eq
 unfold ZlW ZlV
 obtain⟨p0,p1⟩:=ZcP ns 0 (show(0:Int)<11 by decide)
 obtain⟨w,ew,hw⟩:=ZpU p0 (show Zbn ns 0 11<(11:Nat)by omega)
 walk_at "zz"
 refine ZJ (ZcQ (by decide) (by decide) (by decide)) ?_
 rw[ew]
 obtain⟨n,r,h0,hn,hr,hidx⟩:∃n r:Nat,0<n∧n≤4∧r≤4∧[T.tup [.int 1,.int 0],.tup [.int 1,.int 1],.tup [.int 2,.int 1],.tup [.int 1,.int 2],.tup [.int 2,.int 2],.tup [.int 2,.int 0],.tup [.int 1,.int 1],.tup [.int 3,.int 1],.tup [.int 1,.int 3],.tup [.int 2,.int 4],.tup [.int 4,.int 4]][w]?=some (.tup [.int n,.int r]):=by
  match w,hw with
  | 0,_=>exact⟨1,0,by decide,by decide,by decide,rfl⟩
  | 1,_=>exact⟨1,1,by decide,by decide,by decide,rfl⟩
  | 2,_=>exact⟨2,1,by decide,by decide,by decide,rfl⟩
  | 3,_=>exact⟨1,2,by decide,by decide,by decide,rfl⟩
  | 4,_=>exact⟨2,2,by decide,by decide,by decide,rfl⟩
  | 5,_=>exact⟨2,0,by decide,by decide,by decide,rfl⟩
  | 6,_=>exact⟨1,1,by decide,by decide,by decide,rfl⟩
  | 7,_=>exact⟨3,1,by decide,by decide,by decide,rfl⟩
  | 8,_=>exact⟨1,3,by decide,by decide,by decide,rfl⟩
  | 9,_=>exact⟨2,4,by decide,by decide,by decide,rfl⟩
  | 10,_=>exact⟨4,4,by decide,by decide,by decide,rfl⟩
 refine ZhV (t:=.tup [.int n,.int r]) (by omega) (by rw[Int.toNat_natCast];exact hidx) ?_
 walk_at "zz"
 refine Zbg (n:=n) (a:=fun i=>.int i) (b:=fun i=>.int (Zck ns (2+i))) (by omega) ?_ (fun t ht=>?_) ?_
 ·walk_at "zz"
  rfl
 ·walk_at "zz"
  exact ZJ (ZfU hL (by omega) (by omega)) rfl
 generalize hx:(fun i:Nat=>Zck ns (2+i))=x
 have sx:∀i,i<n→(x i).natAbs<2 ^ 134:=fun i _=>by rw[←hx];exact Zgd ns _
 rw[show(fun i:Nat=>T.int (Zck ns (2+i)))=fun i=>T.int (x i)by rw[←hx]]
 walk_at "zz"
 refine ZJ (Zpj (x:=x) hL (by decide) (by decide) (by omega)) ?_
 have gd:=Zoc ns 30 n x
 have li:=Zob ns 30 n x
 have smG:SmG 137 n (ZbD ns 30 n x):=fun i j hi hj b e=>ZbL (Zt2 sx i j hi hj b e) (by decide)
 have smR:SmR 137 n (ZdI ns 30 n x):=fun t ht=>⟨ZbL (ZoG (ns:=ns) (k:=30) sx t ht).1 (by decide),ZbL (ZoG (ns:=ns) (k:=30) sx t ht).2 (by decide)⟩
 generalize ZbD ns 30 n x=G at *
 generalize ZdI ns 30 n x=R at *
 walk_at "zz"
 refine Zod (n:=r) (a:=fun i=>.int i) (Zac n) (fun _ c=>SumB n c 1000000000) (by omega) ?_ (fun t ht=>?_) (fun _=>0) fun C hC=>?_
 ·walk_at "zz"
  rfl
 ·walk_at "zz"
  refine ZdB (by omega) (by omega) ?_
  walk_at "zz"
  exact ZwU (by omega) (by omega) hL (by omega)
 have hCB:CB 140 n r C:=fun i hi k hk=>(hC i hi).bd (by decide) k hk
 have bx:∀i,i<n→Bd 140 (x i):=fun i hi=>ZbL (sx i hi) (by decide)
 have bv:∀i,i<r→Bd 285 (Zar (C i) x n):=fun i hi=>(Zp6 (hCB i hi) bx n (Zz10 n)).mono (by omega)
 walk_at "zz"
 refine Zbg (n:=r) (a:=fun i=>Zac n (C i)) (b:=fun i=>.int (Zar (C i) x n)) (by omega) ?_ (fun i hi=>?_) ?_
 ·walk_at "zz"
  rfl
 ·walk_at "zz"
  exact ZJ (Zuc (b:=140) (by omega) (by decide) (hCB i hi) bx) rfl
 walk_at "zz"
 refine ZJ (ZfU hL (by omega) (by omega)) ?_
 have bn:Bd 290 (Zck ns 6):=ZbL (Zgd ns 6) (by decide)
 refine Zc7 (fun σ'=>σ' 0=some (scr ns)∧σ' 3=some (.int n)∧σ' 4=some (ZbG n x)∧σ' 5=some (ZE n G R)∧σ' 6=some (ZaF n r C)∧σ' 7=some (.lst (tab r fun i=>.int (Zar (C i) x n)))∧∃a:Int,σ' 8=some (.int a)∧Bd 290 a) ?_ ?_
 ·by_cases hr0:r=0
  ·walk_at "zz"
   exact⟨by walk_at "zr",by walk_at "zr",by walk_at "zr",by walk_at "zr",by walk_at "zr",by walk_at "zr",_,by walk_at "zr",bn⟩
  ·walk_at "zz"
   refine ZJ (ZcQ (by decide) (by decide) (by decide)) ?_
   walk_at "zz"
   refine⟨fun q=>?_,fun q=>?_⟩
   ·walk_at "zz"
    refine ZJ (ZcQ (by decide) (by decide) (by decide)) ?_
    obtain⟨z0,z1⟩:=ZcP ns 6 (show(0:Int)<7 by decide)
    generalize Zbn ns 6 7=pp at *
    walk_at "zz"
    refine⟨by walk_at "zr",by walk_at "zr",by walk_at "zr",by walk_at "zr",by walk_at "zr",by walk_at "zr",_,ZbX,?_⟩
    rw[show ∀u:Int,u+pp-3=u+(pp-3)from fun u=>by omega]
    exact((bv _ (by omega)).add ((show Bd 4 (pp-3)by unfold Bd;omega).mono (by decide))).mono (by decide)
   ·walk_at "zz"
    exact⟨by walk_at "zr",by walk_at "zr",by walk_at "zr",by walk_at "zr",by walk_at "zr",by walk_at "zr",_,by walk_at "zr",bn⟩
 rintro σ1 ⟨e0,e3,e4,e5,e6,e7,a,e8,ba⟩
 walk_at "zz"
 refine Zdm (by simp[tab];omega) ?_
 rw[Zol,show T.lst (tab (r+1) fun i=>T.int (if i<r then Zar (C i) x n else a))=ZbG (r+1) fun i=>if i<r then Zar (C i) x n else a from rfl]
 walk_at "zz"
 refine ZJ (Zpj hL (by decide) (by decide) (by omega)) ?_
 have hv:∀i,i<r+1→Bd 290 (if i<r then Zar (C i) x n else a):=fun i hi=>by
  split
  ·exact(bv i (by assumption)).mono (by decide)
  ·exact ba
 have gd':=Zoc ns 60 (r+1) fun i=>if i<r then Zar (C i) x n else a
 have li':=Zob ns 60 (r+1) fun i=>if i<r then Zar (C i) x n else a
 have sG':=Ztl (ns:=ns) (k:=60) hv
 have sR':=Ztk (ns:=ns) (k:=60) hv
 generalize (ZbD ns 60 (r+1) fun i=>if i<r then Zar (C i) x n else a)=G' at *
 generalize (ZdI ns 60 (r+1) fun i=>if i<r then Zar (C i) x n else a)=R' at *
 obtain⟨x0,x1⟩:=ZcP ns 1 (show(0:Int)<(n:Int)by omega)
 obtain⟨X,eX,hX⟩:=ZpU x0 (show Zbn ns 1 n<(n:Nat)by omega)
 walk_at "zz"
 refine ZJ (ZcQ (by decide) (by decide) (by omega)) ?_
 rw[eX]
 refine ZmA ?_
 rw[Int.add_comm 1 (X:Int)]
 exact ZvA hL hX hn hr gd.1 gd.2 smG smR hCB gd'.1 gd'.2 sG' sR' li li' (by walk_at "zr") (by walk_at "zr") (by walk_at "zr") (by walk_at "zr") (by walk_at "zr") (by walk_at "zr") (by walk_at "zr") (by walk_at "zr") (by walk_at "zr")
theorem Zrt(hlen:ns.length≤63)(hL:PyData.layable0 (.list (ns.map .int))=true): ∃H',ZoD [.ref 0] [ns.map V.int]=some (.bool true,H'):=ZsQ ZtY ns (ZrR hL)
end L
end
section
open PySem PySem.W PyProof.Rows
namespace PySem.W.Fast
def tw5105673956185107153:=0
def tw13698048360955963301:=0
def tw14869557710840242666:=0
def tw11187973929812520656:=0
def tw9601000219436670146:=0
def tw15886500619415505586:=0
def tw13436231055378572716:=0
def tw12533650973541477374:=0
def tw9991952250452883065:=0
def tw13840814423707232359:=0
def tw2947586027576077979:=0
def tw5681066748535004433:=0
def tw529536973988259948:=0
def tw7875376050956498882:=0
def tw8426798971799828003:=0
def tw2215426274937266770:=0
def tw17925384258215065573:=0
def tw16798657068305975370:=0
def tw16131593051203169754:=0
def tw5060031037277445611:=0
def tw12018387782679925087:=0
def tw12996339429388188178:=0
def tw12336147652794031108:=0
def tw734138898119960010:=0
def tw6012122021747098740:=0
def tw8789256864460932259:=0
def tw4248988804066548162:=0
def tw12068798485007620914:=0
def tw8934421753687110507:=0
def tw3094701115853657799:=0
def tw16469568281967520401:=0
def tw4033379813872489195:=0
def tw14712817762504950641:=0
def tw539595736760451978:=0
def tw13478877428745155630:=0
def tw17721039672839981703:=0
def tw8646929664414959583:=0
def tw14439765378166140033:=0
def tw13782183185952864739:=0
def tw16118103595353321548:=0
def tw5603574739699854544:=0
def tw11712190458185945011:=0
def tw10746989603658154836:=0
def tw4733640183689119296:=0
def tw8839083969933755074:=0
def tw5488966160659634681:=0
def tw15845117809764550140:=0
def tw15679247252792206210:=0
def tw6771114647407755230:=0
def tw5613845454599061817:=0
def tw15431134087688302020:=0
def tw10780761586765376359:=0
def tw13792483299354683862:=0
def tw6511239469406747073:=0
def tw12434779806091606683:=0
def tw9404314122001034194:=0
def tw3114646368290301540:=0
def tw15724745641170818534:=0
def tw17093224777342109595:=0
def tw726985913927333873:=0
def tw13553050674002434610:=0
def tw14987661418082201831:=0
def tw7097827964152542560:=0
def tw5266450434754204200:=0
def tw7942853410682446962:=0
def tw15078095837771203109:=0
def tw17882641709403210578:=0
def tw12067549021546063074:=0
def tw16396790404030501481:=0
def tw1647960591809683682:=0
def tw4185518321428705831:=0
def tw3345597093286824917:=0
def tw5680315236850328200:=0
def tw8174591469460913490:=0
def tw6905212232875527693:=0
def tw13887902116395311400:=0
def tw16655083059833703075:=0
def tw6771182271545134960:=0
def tw3664731896753646195:=0
def tw12356241338228022558:=0
def tw10134030333460990790:=0
def tw16925118299729312639:=0
def tw17456480263006714056:=0
def tw18182889222666715495:=0
def tw5845538515087863352:=0
def tw11300376045408061371:=0
def tw3839540949395841721:=0
def tw12487779173672901959:=0
def tw8621336744817483243:=0
def tw8396962428940809896:=0
def tw12694112234171929671:=0
def tw14731147920152588799:=0
def tw5674458297940323589:=0
def tw4636031889025220839:=0
def tw16607927582987124570:=0
def tw16970792351503237766:=0
def tw18042889414512086050:=0
def tw3016012700857477809:=0
def tw3259544426188881078:=0
def tw15536387163757344236:=0
end PySem.W.Fast
set_option maxRecDepth 100000 in
set_option maxHeartbeats 8000000 in
open_top head for PySem.Challenge.rw_seer_k52_answers_keep_boxes
end
section
open PySem PySem.W PySem.Calls PyProof.Rows PM
seal PM.J PM.Js PM.JT PM.JA PM.JF PM.JI PM.JI2 PM.JP PM.S1 PM.Ss PM.Sto PM.Rd PM.Nm PM.OpN PM.Op2 PM.Def
namespace L
noncomputable abbrev DD(w:World)(s₀:Shared)(mg mb:Str→Option Value)(f:Addr)(r:Nat)(F:List V→Hp→Option (V×Hp)): Prop:=Def PySem.Challenge.rw_seer_k52_answers_keep_boxes.row.prog w (head.heap_39 w.params) head.view_39 (looseW head.view_39 []) (ExcName.means s₀.heap) mg mb f r F
section
variable {w:World} {s₀:Shared} {mg mb:Str→Option Value}
theorem ZnB: DD w s₀ mg mb 343 1 Zg4:=by
 unfold DD;k_fill
 refine Dof (names:=["_law_script","_law_k","_law_number_here"]) (g:=ZjJ) ?_
 exact fun _ _ _ _ _ _ _ c _ _=>(ZC (Z7 sL (ZI (ZI (ZI vL vL Zbr) jI Zbr) jI Zak)) (ZC (Zae (Z5 (ZaN (nB c) (jc vL Zr) Zbc) jI Zfb) (ZB (Z7 sL (ZI vL (ZA vL (ZI vL (ZaN (nB c) (jc vL Zr) Zbc) Zbl)) Zak))) Zad) (ZB (ZL vL))))
theorem law_pick_d: DD w s₀ mg mb 350 2 Zcl:=by
 unfold DD;k_fill
 refine Dof (names:=["_law_script","_law_k","_law_many"]) (g:=Zko) ?_
 exact fun _ _ _ _ _ _ _ c _ _=>(ZB (ZL (ZI (ZI (ZI (cF c ZnB (jc vL (jc vL Zr))) jI Zbr) jI Zbl) vL Zbl)))
theorem Zfw: DD w s₀ mg mb 357 2 Zea:=by
 unfold DD;k_fill
 refine Dof (names:=["_law_script","_law_k","_law_number_here","_law_reach"]) (g:=Zjr) ?_
 exact fun _ _ _ _ _ _ _ c _ _=>(ZC (Z7 sL (cF c ZnB (jc vL (jc vL Zr)))) (ZC (Z7 sL (ZA (J.list (jc jI (jc jI (jc (ZI jI jI Zmp) (jc (ZI jI jI Zmp) Zr))))) (ZI (ZI (ZI vL jI Zbr) jI Zbl) jI Zbl))) (ZB (ZL (ZI (ZI (ZI vL (ZI jI jI Zmp) Zbr) (ZI (ZI jI vL Zbr) jI Zak) Zbl) vL Zbz)))))
theorem ZrS: DD w s₀ mg mb 364 3 ZjM:=by
 unfold DD;k_fill
 refine Dof (names:=["_law_script","_law_k","_law_way"]) (g:=ZjL) ?_
 exact fun _ _ _ _ _ _ _ c _ _=>(ZC (Z7 sL (cF c law_pick_d (jc vL (jc vL (jc jI Zr))))) (ZC (Zae (Z5 (ZI vL jI Zbl) jI Zd0) (ZB (ZL jN)) Zad) (ZC (Zae (Z5 (ZI vL jI Zbl) jI Zd0) (ZB (ZL jI)) Zad) (ZC (Zae (Z5 (ZI vL jI Zbl) jI ZaU) (ZB (ZL (ZI vL jI ZeZ))) Zad) (ZB (ZL (ZaN (nB c) (jc (cF c Zfw (jc vL (jc vL Zr))) Zr) Zgg)))))))
theorem Znk: DD w s₀ mg mb 371 1 ZgV:=by
 unfold DD;k_fill
 refine Dof (names:=["_law_m","_law_r"]) (g:=Zi7) ?_
 exact fun _ _ _ _ _ _ _ c _ _=>(ZC (Zae (Z5 vL jI ZaU) (ZB (ZL (J.tup (jc jI (jc vL Zr))))) Zad) (ZB (ZL (J.tup (jc vL (jc (ZI vL vL Zbl) Zr))))))
theorem ZsA: DD w s₀ mg mb 378 3 Zkr:=by
 unfold DD;k_fill
 refine Dof (names:=["_law_script","_law_k","_law_number_here","_law_way"]) (g:=Zkq) ?_
 exact fun _ _ _ _ _ _ _ c _ _=>(ZC (Z7 sL (cF c law_pick_d (jc vL (jc vL (jc jI Zr))))) (ZC (Zae (Z5 (ZI vL jI Zbl) jI Zd0) (ZB (ZL (J.tup (jc jI (jc jI Zr))))) Zad) (ZC (Zae (Z5 (ZI vL jI Zbl) jI ZaU) (ZB (ZL (J.tup (jc jI (jc vL Zr))))) Zad) (ZC (Zae (Z5 (ZI vL jI Zbl) jI ZaU) (ZB (ZL (cF c Znk (jc (ZI (ZI vL jI ZeZ) jI Zak) (jc vL Zr))))) Zad) (ZB (ZL (cF c Znk (jc (ZaN (nB c) (jc (cF c Zfw (jc vL (jc vL Zr))) Zr) Zgg) (jc vL Zr)))))))))
theorem ZnV: DD w s₀ mg mb 383 4 Zhd:=by
 unfold DD;k_fill
 refine Dof (names:=["_law_script","_law_k","_law_boxes","_law_full","_law_size","_law_bounds","_law_i","_law_row","_law_j","_law_top"]) (g:=Zkt) ?_
 exact fun _ _ _ _ _ _ _ c _ _=>(ZC (Z7 sL (ZI (J.list (jc jI Zr)) vC Zak)) (ZC (Z7 sC (ZaN (nB c) (jc vL Zr) Zbc)) (ZC (Z7 sL (J.list Zr)) (ZC (Zcn sL (JI.range (nB c) (jc vC Zr)) (ZC (Z7 sL (J.list Zr)) (ZC (Zcn sL (JI.range (nB c) (jc vC Zr)) (ZC (Z7 sL (cF c ZrS (jc vC (jc (ZI (ZI vC (ZI vL vC Zbr) Zak) vL Zak) Zr)))) (ZC (Zae (Z5 vL jN ZdT) (ZB (Z7 sL (ZI (ZI (ZA vL vL) (ZA vL vL) Zbz) vL Zak))) Zad) (ZB (Zgh (J.append vL vL)))))) (ZC (S1.put jI vL vL) (ZB (Zgh (J.append vL vL))))))) (ZB (ZL (J.tup (jc vL (jc (by refine cO ?_ ?_ ?_;(exact(JI.range (nB c) (jc (ZI vC jI Zbz) Zr)));(exact fun _ _=>(cF (ZbK c) ZsA (jc vD (jc (ZI (ZI vD (ZI vD vD Zbr) Zak) vO Zak) (jc (ZA vD vO) Zr)))));(exact fun _ _=>JF.nil)) Zr)))))))))
theorem Znl: DD w s₀ mg mb 257 1 Zey:=by
 unfold DD;k_fill
 refine Dof (names:=["rests"]) (g:=Zjf) ?_
 exact fun _ _ _ _ _ _ _ c _ _=>(ZB (ZL (ZI (J.list (jc (J.tup (jc jI (jc jI Zr))) Zr)) vL Zak)))
theorem Zom: DD w s₀ mg mb 134 1 Zht:=by
 unfold DD;k_fill
 refine Dof (names:=["one","other","left","right","over"]) (g:=Zlb) ?_
 exact fun _ _ _ _ _ _ _ c _ _=>(ZC (Z7 sL (ZaN (nB c) (jc vL Zr) Zgg)) (ZC (Z7 sL (ZaN (nB c) (jc vL Zr) Zgg)) (ZC (Zoq 1000000 (Z5 vL jI Zce) (ZC (Z7 sL (ZI vL vL Zbl)) (ZC (Z7 sL vL) (ZB (Z7 sL vL))))) (ZB (ZL vL)))))
theorem ZmP: DD w s₀ mg mb 148 1 Zgs:=by
 unfold DD;k_fill
 refine Dof (names:=["m","r"]) (g:=ZmD) ?_
 exact fun _ _ _ _ _ _ _ c _ _=>(ZC (Zae (Z5 vL jI Zd0) (ZB (ZwO)) Zad) (ZC (Zae (Z5 vL jI ZaU) (ZB (ZL (J.tup (jc jI (jc vL Zr))))) Zad) (ZB (ZL (J.tup (jc vL (jc (ZI vL vL Zbl) Zr)))))))
theorem Ztn: DD w s₀ mg mb 141 1 Zle:=by
 unfold DD;k_fill
 refine Dof (names:=["one","by","left","right","left_turns","right_turns","part","over","over_turns"]) (g:=Zld) ?_
 exact fun _ _ _ _ _ _ _ c _ _=>(ZC (Z7 sL (ZI vL vL Zbl)) (ZC (Z7 sL vL) (ZC (Z7 sL jI) (ZC (Z7 sL jI) (ZC (Zoq 1000000 (Z5 vL jI Zce) (ZC (Z7 sL (ZI vL vL ZeZ)) (ZC (Z7 sL (ZI vL (ZI vL vL Zbr) Zbz)) (ZC (Z7 sL (ZI vL (ZI vL vL Zbr) Zbz)) (ZC (Z7 sL vL) (ZC (Z7 sL vL) (ZC (Z7 sL vL) (ZB (Z7 sL vL))))))))) (ZB (ZL (ZI vL vL Zbl))))))))
theorem ZnW: DD w s₀ mg mb 155 1 Zhf:=by
 unfold DD;k_fill
 refine Dof (names:=["one","number"]) (g:=Zkx) ?_
 exact fun _ _ _ _ _ _ _ c _ _=>(ZC (Zae (Z5 (ZA vL jI) jI ZaU) (ZB (ZL (Zcp vL (ZA vL jI) ZaU))) Zad) (ZB (ZL (Zcp (ZI vL (ZA vL jI) Zbl) (ZA vL jI) ZaU))))
theorem ZnX: DD w s₀ mg mb 162 2 Zhg:=by
 unfold DD;k_fill
 refine Dof (names:=["one","other","common","apart","width","turns"]) (g:=Zkz) ?_
 exact fun _ _ _ _ _ _ _ c _ _=>(ZC (Zae (Z5 (ZA vL jI) jI ZaU) (ZB (ZL (Zfa (Zbk (cF c ZnW (jc vL (jc (ZA vL jI) Zr)))) vL jN))) Zad) (ZC (Zae (Z5 (ZA vL jI) jI ZaU) (ZB (ZL (Zfa (Zbk (cF c ZnW (jc vL (jc (ZA vL jI) Zr)))) vL jN))) Zad) (ZC (Z7 sL (cF c Zom (jc (ZA vL jI) (jc (ZA vL jI) Zr)))) (ZC (Z7 sL (ZI (ZA vL jI) (ZA vL jI) Zbz)) (ZC (Zae (Z5 (ZI vL vL Zbl) jI Zce) (ZB (ZL jN)) Zad) (ZC (Z7 sL (ZI (ZA vL jI) vL ZeZ)) (ZC (Z7 sL (ZI (ZI vL vL ZeZ) (cF c Ztn (jc (ZI (ZA vL jI) vL ZeZ) (jc vL Zr))) Zbr)) (ZB (ZL (cF c ZmP (jc (ZI (ZA vL jI) vL Zbr) (jc (ZI (ZA vL jI) (ZI (ZA vL jI) vL Zbr) Zak) Zr))))))))))))
theorem ZfP: DD w s₀ mg mb 65 1 Zeb:=by
 unfold DD;k_fill
 refine Dof (names:=["one","other"]) (g:=ZkB) ?_
 exact fun _ _ _ _ _ _ _ c _ _=>(ZC (Zae (Zbf (ZaW (Z5 vL jN ZbA) (ZaW (Z5 vL jN ZbA) Zcs))) (ZB (ZL jN)) Zad) (ZB (ZL (ZI vL vL Zak))))
theorem Zkj: DD w s₀ mg mb 169 2 Zfy:=by
 unfold DD;k_fill
 refine Dof (names:=["one","other"]) (g:=ZjU) ?_
 exact fun _ _ _ _ _ _ _ c _ _=>(ZB (ZL (cF c ZmP (jc (cF c Zom (jc (ZA vL jI) (jc (ZA vL jI) Zr))) (jc (ZI (ZA vL jI) (ZA vL jI) Zak) Zr)))))
theorem ZqU: DD w s₀ mg mb 264 3 Zfo:=by
 unfold DD;k_fill
 refine Dof (names:=["bounds","rests","i","met","j","other"]) (g:=ZiY) ?_
 exact fun _ _ _ _ _ _ _ c _ _=>(ZC (Z7 sL (ZA vL vL)) (ZC (Zei sL sL (ZtM (nB c) vL) (ZB (Zae (Zbf (ZbJ (Z5 vL jN ZdT) (ZbJ (Z5 (cF c ZfP (jc (ZA (ZA vL vL) vL) (jc (ZA (ZA vL vL) vL) Zr))) jI ZaU) Zdj))) (ZB (Z7 sL (cF c ZnX (jc vL (jc (cF c Zkj (jc vL (jc (J.tup (jc jI (jc (ZA (ZA vL vL) vL) Zr))) Zr))) Zr))))) Zad))) (ZB (ZL vL))))
theorem Zq6: DD w s₀ mg mb 250 4 ZdP:=by
 unfold DD;k_fill
 refine Dof (names:=["told","rests","met"]) (g:=Zfp) ?_
 exact fun _ _ _ _ _ _ _ c _ _=>(ZC (Zae (Z5 vC jN ZbA) (ZB (ZL jN)) Zad) (ZC (Z7 sC (cF c Znl (jc (ZA vC jI) Zr))) (ZC (by refine sO sL ?_ ?_ ?_;(exact(JI.range (nB c) (jc jI (jc (ZaN (nB c) (jc vC Zr) Zbc) Zr))));(exact fun _ _=>(cF (ZbK c) ZqU (jc (ZA vD jI) (jc vD (jc vO Zr)))));(exact fun _ _=>JF.nil)) (ZC (Zae (Z5 jN vL ZmU) (ZB (ZL jN)) Zad) (ZB (ZL (J.tup (jc (ZA vC jI) (jc vL Zr)))))))))
theorem ZrT: DD w s₀ mg mb 86 1 ZjP:=by
 unfold DD;k_fill
 refine Dof (names:=["one","other"]) (g:=ZjO) ?_
 exact fun _ _ _ _ _ _ _ c _ _=>(ZB (ZL (ZwY (Zcp vL jN ZbA) (Zgu (Zcp vL jN ZdT) (Zcp vL vL Zik)))))
theorem Zo1: DD w s₀ mg mb 93 2 ZhF:=by
 unfold DD;k_fill
 refine Dof (names:=["one","other"]) (g:=ZlO) ?_
 exact fun _ _ _ _ _ _ _ c _ _=>(ZB (ZL (Zfa (Zbk (cF c ZrT (jc vL (jc vL Zr)))) vL vL)))
theorem ZqD: DD w s₀ mg mb 122 3 ZiG:=by
 unfold DD;k_fill
 refine Dof (names:=["row","there","further"]) (g:=ZiF) ?_
 exact fun _ _ _ _ _ _ _ c _ _=>(ZB (ZL (by refine cT ?_ ?_;(exact(JI2.zip (nB c) vL vL));(exact fun _ _=>(cF (ZbK c) Zo1 (jc vO (jc (cF (ZbK c) ZfP (jc vD (jc vO Zr))) Zr)))))))
theorem ZrU: DD w s₀ mg mb 117 4 ZjY:=by
 unfold DD;k_fill
 refine Dof (names:=["bounds","mid"]) (g:=ZjX) ?_
 exact fun _ _ _ _ _ _ _ c _ _=>(ZB (ZL (by refine cO ?_ ?_ ?_;(exact(JI.seq vC));(exact fun _ _=>(cF (ZbK c) ZqD (jc vO (jc (ZA vO vD) (jc (ZA vD vD) Zr)))));(exact fun _ _=>JF.nil))))
theorem ZqV: DD w s₀ mg mb 127 1 ZiT:=by
 unfold DD;k_fill
 refine Dof (names:=["bounds"]) (g:=ZiS) ?_
 exact fun _ _ _ _ _ _ _ c _ _=>(ZB (ZL (ZaN (nB c) (jc (by refine cO ?_ ?_ ?_;(exact(JI.range (nB c) (jc (ZaN (nB c) (jc vC Zr) Zbc) Zr)));(exact fun _ _=>(Zcp (ZA (ZA vD vO) vO) jI Zd0));(exact fun _ _=>JF.nil)) Zr) ZvI)))
theorem Zuj: DD w s₀ mg mb 112 5 ZeP:=by
 unfold DD;k_fill
 refine Dof (names:=["bounds","near","mid"]) (g:=ZlQ) ?_
 exact fun _ _ _ _ _ _ _ c _ _=>(ZC (Z7 sL vL) (ZC (Zcn sL (JI.range (nB c) (jc (ZaN (nB c) (jc vL Zr) Zbc) Zr)) (ZC (Z7 sL (cF c ZrU (jc vL (jc vL Zr)))) (ZB (Zae (Zbk (cF c ZqV (jc vL Zr))) (ZB (ZL jN)) Zad)))) (ZB (ZL vL))))
theorem Zww: DD w s₀ mg mb 245 6 ZdX:=by
 unfold DD;k_fill
 refine Dof (names:=["told","bounds"]) (g:=Zif) ?_
 exact fun _ _ _ _ _ _ _ c _ _=>(ZC (Zae (Z5 vL jN ZbA) (ZB (ZL jN)) Zad) (ZC (Z7 sL (cF c Zuj (jc (ZA vL jI) Zr))) (ZC (Zae (Z5 vL jN ZbA) (ZB (ZL jN)) Zad) (ZB (ZL (J.tup (jc vL (jc (ZA vL jI) Zr))))))))
theorem Zp8: DD w s₀ mg mb 238 7 Ze4:=by
 unfold DD;k_fill
 refine Dof (names:=["told"]) (g:=ZmG) ?_
 exact fun _ _ _ _ _ _ _ c _ _=>(ZB (ZL (cF c Zq6 (jc (cF c Zww (jc vL Zr)) Zr))))
theorem Zru: DD w s₀ mg mb 183 1 Zjz:=by
 unfold DD;k_fill
 refine Dof (names:=["one","top"]) (g:=Zjy) ?_
 exact fun _ _ _ _ _ _ _ c _ _=>(ZC (Zae (Z5 (ZA vL jI) jI ZaU) (ZB (ZL (Zfa (Z5 (ZA vL jI) vL Zik) (ZA vL jI) jN))) Zad) (ZB (ZL (ZI vL (ZI (ZI vL (ZA vL jI) Zbz) (ZA vL jI) Zbl) Zbz))))
theorem ZqE: DD w s₀ mg mb 283 2 ZiM:=by
 unfold DD;k_fill
 refine Dof (names:=["bound","left"]) (g:=ZiL) ?_
 exact fun _ _ _ _ _ _ _ c _ _=>(ZC (Zae (Z5 vL jN ZdT) (ZB (ZL (cF c Zru (jc vL (jc vL Zr))))) Zad) (ZC (Zae (Z5 (ZA vL jI) jI ZaU) (ZB (ZL (ZA vL jI))) Zad) (ZB (ZL jN))))
theorem Znq: DD w s₀ mg mb 176 2 Zg0:=by
 unfold DD;k_fill
 refine Dof (names:=["one","k"]) (g:=Zjw) ?_
 exact fun _ _ _ _ _ _ _ c _ _=>(ZB (ZL (cF c ZmP (jc (ZI (ZA vL jI) (ZaN (nB c) (jc vL Zr) Zgg) Zbr) (jc (ZI (ZA vL jI) vL Zbr) Zr)))))
theorem Zq7: DD w s₀ mg mb 276 3 Zjj:=by
 unfold DD;k_fill
 refine Dof (names:=["row","left","rests","new","bound","other","low"]) (g:=Zji) ?_
 exact fun _ _ _ _ _ _ _ c _ _=>(ZC (Z7 sL (J.list Zr)) (ZC (Zei sL sL (JI2.zip (nB c) vL vL) (ZC (Z7 sL (cF c ZqE (jc vL (jc (cF c Zkj (jc vL (jc (cF c Znq (jc vL (jc (Zfi jI Ze0) Zr))) Zr))) Zr)))) (ZC (Zae (Zbf (ZbJ (Z5 vL jN ZbA) (ZbJ (Z5 vL jN ZdT) Zdj))) (ZB (ZL jN)) Zad) (ZB (Zgh (J.append vL vL)))))) (ZB (ZL vL))))
theorem Zto: DD w s₀ mg mb 269 4 Zlh:=by
 unfold DD;k_fill
 refine Dof (names:=["told","rests","bounds"]) (g:=Zlg) ?_
 exact fun _ _ _ _ _ _ _ c _ _=>(ZC (Zae (Z5 vL jN ZbA) (ZB (ZL jN)) Zad) (ZC (Z7 sC (cF c Znl (jc (ZA vL jI) Zr))) (ZC (by refine sT sL ?_ ?_;(exact(JI2.zip (nB c) (ZA vL jI) vC));(exact fun _ _=>(cF (ZbK c) Zq7 (jc vO (jc vO (jc vD Zr)))))) (ZC (Zae (Z5 jN vL ZmU) (ZB (ZL jN)) Zad) (ZB (ZL (J.tup (jc vL (jc (ZA vL jI) Zr)))))))))
theorem Zmo: DD w s₀ mg mb 231 8 Zgb:=by
 unfold DD;k_fill
 refine Dof (names:=["told"]) (g:=Zme) ?_
 exact fun _ _ _ _ _ _ _ c _ _=>(ZB (ZL (cF c Zp8 (jc (cF c Zto (jc (cF c Zp8 (jc vL Zr)) Zr)) Zr))))
theorem ZqF: DD w s₀ mg mb 300 1 ZiQ:=by
 unfold DD;k_fill
 refine Dof (names:=["one"]) (g:=ZiO) ?_
 exact fun _ _ _ _ _ _ _ c _ _=>(ZB (ZL (Zcp (ZaN (nB c) (jc (by refine cO ?_ ?_ ?_;(exact(JI.seq (Zmt vL jI)));(exact fun _ _=>vO);(exact fun _ _=>JF.one (Z5 vO jI Zce))) Zr) ZsW) (J.list (jc (Zfi jI Ze0) (jc jI Zr))) ZaU)))
theorem ZqW: DD w s₀ mg mb 58 2 ZiW:=by
 unfold DD;k_fill
 refine Dof (names:=["one","other"]) (g:=ZiV) ?_
 exact fun _ _ _ _ _ _ _ c _ _=>(ZB (ZL (J.tup (jc (cF c ZfP (jc (ZA vL jI) (jc (ZA vL jI) Zr))) (jc (cF c ZfP (jc (ZA vL jI) (jc (ZA vL jI) Zr))) Zr)))))
theorem Zkk: DD w s₀ mg mb 79 1 ZfA:=by
 unfold DD;k_fill
 refine Dof (names:=["end","k"]) (g:=Zj3) ?_
 exact fun _ _ _ _ _ _ _ c _ _=>(ZC (Zae (Z5 vL jN ZbA) (ZB (ZL jN)) Zad) (ZB (ZL (ZI vL vL Zbr))))
theorem ZqG: DD w s₀ mg mb 72 2 ZiJ:=by
 unfold DD;k_fill
 refine Dof (names:=["one","k","lo","hi"]) (g:=ZiI) ?_
 exact fun _ _ _ _ _ _ _ c _ _=>(ZC (Zae (Z5 vL jI ZaU) (ZB (ZL (J.tup (jc jI (jc jI Zr))))) Zad) (ZC (Z7 sL (cF c Zkk (jc (ZA vL jI) (jc vL Zr)))) (ZC (Z7 sL (cF c Zkk (jc (ZA vL jI) (jc vL Zr)))) (ZC (Zae (Z5 vL jI Zd0) (ZB (ZL (J.tup (jc vL (jc vL Zr))))) Zad) (ZB (ZL (J.tup (jc vL (jc vL Zr)))))))))
theorem Zq8: DD w s₀ mg mb 217 3 Zjd:=by
 unfold DD;k_fill
 refine Dof (names:=["one","stretches","whole","k","part"]) (g:=Zjc) ?_
 exact fun _ _ _ _ _ _ _ c _ _=>(ZC (Z7 sL (J.tup (jc (ZA vL jI) (jc (ZA vL jI) Zr)))) (ZC (Zei sL sL (JI2.zip (nB c) (Zmt vL jI) vL) (ZB (Z7 sL (cF c ZqW (jc vL (jc (cF c ZqG (jc vL (jc vL Zr))) Zr)))))) (ZB (ZL vL))))
theorem ZqX: DD w s₀ mg mb 288 2 Zi2:=by
 unfold DD;k_fill
 refine Dof (names:=["told","bounds"]) (g:=Zi1) ?_
 exact fun _ _ _ _ _ _ _ c _ _=>(ZC (Z7 sC (ZA vL jI)) (ZB (ZL (by refine cO ?_ ?_ ?_;(exact(JI.range (nB c) (jc jI (jc (ZaN (nB c) (jc vC Zr) Zbc) Zr))));(exact fun _ _=>(J.tup (jc (cF (ZbK c) Zkk (jc (ZA (ZA vD jI) vO) (jc (Zfi jI Ze0) Zr))) (jc (ZA (ZA vD vO) jI) Zr))));(exact fun _ _=>JF.nil)))))
theorem ZsB: DD w s₀ mg mb 295 4 ZkO:=by
 unfold DD;k_fill
 refine Dof (names:=["told","one"]) (g:=ZkN) ?_
 exact fun _ _ _ _ _ _ _ c _ _=>(ZC (Zae (Zbk (cF c ZqF (jc vL Zr))) (ZB (ZL (cF c ZfP (jc (ZA (ZA (ZA vL jI) (J.index vL jI jI)) (J.index vL (Zfi jI Ze0) jI)) (jc (ZA vL jI) Zr))))) Zad) (ZB (ZL (ZA (cF c Zq8 (jc vL (jc (cF c ZqX (jc vL Zr)) Zr))) jI))))
theorem ZsC: DD w s₀ mg mb 198 1 ZkR:=by
 unfold DD;k_fill
 refine Dof (names:=["one","other"]) (g:=ZkQ) ?_
 exact fun _ _ _ _ _ _ _ c _ _=>(ZB (ZL (by refine cT ?_ ?_;(exact(JI2.zip (nB c) vL vL));(exact fun _ _=>(ZI vO vO Zak)))))
theorem ZrV: DD w s₀ mg mb 203 1 Zkb:=by
 unfold DD;k_fill
 refine Dof (names:=["one","k"]) (g:=Zka) ?_
 exact fun _ _ _ _ _ _ _ c _ _=>(ZB (ZL (by refine cO ?_ ?_ ?_;(exact(JI.seq vL));(exact fun _ _=>(ZI vO vD Zbr));(exact fun _ _=>JF.nil))))
theorem ZsD: DD w s₀ mg mb 210 2 ZkU:=by
 unfold DD;k_fill
 refine Dof (names:=["one","other"]) (g:=ZkT) ?_
 exact fun _ _ _ _ _ _ _ c _ _=>(ZB (ZL (cF c ZsC (jc vL (jc (cF c ZrV (jc vL (jc (Zfi jI Ze0) Zr))) Zr)))))
theorem Zrv: DD w s₀ mg mb 310 5 ZjC:=by
 unfold DD;k_fill
 refine Dof (names:=["told","one","others"]) (g:=ZjB) ?_
 exact fun _ _ _ _ _ _ _ c _ _=>(ZB (ZL (by refine cO ?_ ?_ ?_;(exact(JI.seq vL));(exact fun _ _=>(cF (ZbK c) ZsB (jc vD (jc (cF (ZbK c) ZsD (jc vD (jc vO Zr))) Zr))));(exact fun _ _=>JF.nil))))
theorem ZsE: DD w s₀ mg mb 224 3 ZkH:=by
 unfold DD;k_fill
 refine Dof (names:=["one","rests","whole","k","part"]) (g:=ZkG) ?_
 exact fun _ _ _ _ _ _ _ c _ _=>(ZC (Z7 sL (J.tup (jc jI (jc (ZA vL jI) Zr)))) (ZC (Zei sL sL (JI2.zip (nB c) (Zmt vL jI) vL) (ZB (Z7 sL (cF c Zkj (jc vL (jc (cF c Znq (jc vL (jc vL Zr))) Zr)))))) (ZB (ZL vL))))
theorem ZlH: DD w s₀ mg mb 188 1 ZfT:=by
 unfold DD;k_fill
 refine Dof (names:=["i","n"]) (g:=Zls) ?_
 exact fun _ _ _ _ _ _ _ c _ _=>(ZB (ZL (by refine cO ?_ ?_ ?_;(exact(JI.range (nB c) (jc (ZI vL jI Zak) Zr)));(exact fun _ _=>(Zfa (Zbf (ZbJ (Z5 vD jI Zfb) (ZbJ (Z5 vO vD ZaU) Zdj))) jI jI));(exact fun _ _=>JF.nil))))
theorem Zo2: DD w s₀ mg mb 305 9 ZhG:=by
 unfold DD;k_fill
 refine Dof (names:=["told","sums","all_sums","bounds","rests"]) (g:=ZlT) ?_
 exact fun _ _ _ _ _ _ _ c _ _=>(ZC (Zae (Z5 vC jN ZbA) (ZB (ZL jN)) Zad) (ZC (Z7 sC (ZI (J.list (jc (cF c ZlH (jc jI (jc (ZaN (nB c) (jc (ZA vC jI) Zr) Zbc) Zr))) Zr)) vL Zak)) (ZC (by refine sO sL ?_ ?_ ?_;(exact(JI.seq vC));(exact fun _ _=>(cF (ZbK c) Zrv (jc vD (jc vO (jc vD Zr)))));(exact fun _ _=>JF.nil)) (ZC (by refine sO sL ?_ ?_ ?_;(exact(JI.seq vL));(exact fun _ _=>(cF (ZbK c) ZsE (jc vO (jc (ZA vD jI) Zr))));(exact fun _ _=>JF.nil)) (ZB (ZL (cF c Zmo (jc (J.tup (jc vL (jc vL Zr))) Zr))))))))
theorem Zo3: ∀n:Nat,Def PySem.Challenge.rw_seer_k52_answers_keep_boxes.row.prog w (head.heap_39 w.params) head.view_39 (looseW head.view_39 []) (ExcName.means s₀.heap) mg mb 19 (n) (ZeQ n)
 | 0=>ZtW
 | n+1=>by
  have ih:=Zo3 n
  k_fill
  refine' ZpK (names:=["thing"]) (n:=1) (room:=n) (g:=Zmg (ZeQ n)) (ho:=?ho) (hcd:=?hcd) (nd:=by decide) (hn:=by decide) (hbind:=?hb) (hkinds:=?hk) (hone:=?h1) (hco:=?z1) (hgen:=?z2) (hk:=?z3) (hbody:=?hbody)
  case ho=>k_is
  case z1=>rfl
  case z2=>rfl
  case z3=>rfl
  case hcd=>k_is
  case hb=>intro s xs hx;match xs,hx with | [x0],_=>exact BindsTo.of_eq rfl
  case hk=>decide
  case h1=>decide +kernel
  case hbody=>
   intro dp un gd L outer h₀ hu clr hd1 hu1
   exact(ZC (Zae (Zbk (ZdA (nB clr) (nB clr) (.inr (.inr (.inl rfl))) vL)) (ZB (ZL (by refine cO ?_ ?_ ?_;(exact(JI.seq vL));(exact fun _ _=>(cF (ZbK clr) ih (jc vO Zr)));(exact fun _ _=>JF.nil)))) Zad) (ZC (Zae (Zbk (ZdA (nB clr) (nB clr) (.inr (.inr (.inr rfl))) vL)) (ZB (ZL (Zf4 (nB clr) (jc (by refine cO ?_ ?_ ?_;(exact(JI.seq vL));(exact fun _ _=>(cF (ZbK clr) ih (jc vO Zr)));(exact fun _ _=>JF.nil)) Zr) ZsN))) Zad) (ZB (ZL vL))))
theorem ZvB: Def PySem.Challenge.rw_seer_k52_answers_keep_boxes.row.prog w (head.heap_39 w.params) head.view_39 (looseW head.view_39 []) (ExcName.means s₀.heap) mg mb 19 9 Zmh:=Zo3 9
theorem ZsF: DD w s₀ mg mb 100 3 ZkL:=by
 unfold DD;k_fill
 refine Dof (names:=["bounds","i","j","bound"]) (g:=Zhk) ?_
 exact fun _ _ _ _ _ _ _ c _ _=>(ZB (S1.put (cF c Zo1 (jc (ZA (ZA vL vL) vL) (jc vL Zr))) (ZA vL vL) vL))
theorem Zqu: DD w s₀ mg mb 329 10 ZiD:=by
 unfold DD;k_fill
 refine Dof (names:=["bounds","at","other","new","i","row","j","bound"]) (g:=ZiC) ?_
 exact fun _ _ _ _ _ _ _ c _ _=>(ZC (Z7 sL (cF c ZvB (jc vL Zr))) (ZC (Zei sL sL (JI2.zip (nB c) vL vL) (ZB (Zei sL sL (JI2.zip (nB c) vL vL) (ZB (Zgh (cF c ZsF (jc vL (jc vL (jc vL (jc vL Zr)))))))))) (ZB (ZL vL))))
theorem Ztp: DD w s₀ mg mb 322 11 Zln:=by
 unfold DD;k_fill
 refine Dof (names:=["told","at","other","rests","i","left"]) (g:=Zlm) ?_
 exact fun _ _ _ _ _ _ _ c _ _=>(ZC (Z7 sL (Zf4 (nB c) (jc (ZA vL jI) Zr) ZhE)) (ZC (Zei sL sL (JI2.zip (nB c) vL (ZA vL jI)) (ZB (S1.put (cF c ZnX (jc (ZA vL (ZI vL jI Zbz)) (jc vL Zr))) vL (ZI vL jI Zbz)))) (ZC (Zae (Z5 jN vL ZmU) (ZB (ZL jN)) Zad) (ZB (ZL (J.tup (jc (cF c Zqu (jc (ZA vL jI) (jc (ZI (J.list (jc jI Zr)) vL Zak) (jc (ZA vL jI) Zr)))) (jc vL Zr))))))))
theorem Zwx: DD w s₀ mg mb 26 1 ZmI:=by
 unfold DD;k_fill
 refine Dof (names:=["row","x","thing"]) (g:=ZmH) ?_
 exact fun _ _ _ _ _ _ _ c _ _=>(ZB (ZL (ZI (ZI (Zf3 vL JP.none (JP.some (ZI vL jI Zbz))) (J.list (jc vL Zr)) Zak) (Zf3 vL (JP.some vL) JP.none) Zak)))
theorem ZnY: DD w s₀ mg mb 193 2 Zhp:=by
 unfold DD;k_fill
 refine Dof (names:=["many","n"]) (g:=ZkX) ?_
 exact fun _ _ _ _ _ _ _ c _ _=>(ZB (ZL (by refine cO ?_ ?_ ?_;(exact(JI.range (nB c) (jc jI (jc (ZI vL jI Zak) Zr))));(exact fun _ _=>(cF (ZbK c) ZlH (jc vO (jc vD Zr))));(exact fun _ _=>JF.nil))))
theorem Zq9: DD w s₀ mg mb 105 1 Zjn:=by
 unfold DD;k_fill
 refine Dof (names:=["i","n"]) (g:=Zjm) ?_
 exact fun _ _ _ _ _ _ _ c _ _=>(ZB (ZL (by refine cO ?_ ?_ ?_;(exact(JI.range (nB c) (jc (ZI vL jI Zak) Zr)));(exact fun _ _=>(Zfa (Z5 vD vO ZaU) jI jN));(exact fun _ _=>JF.nil))))
theorem Ztq: DD w s₀ mg mb 315 2 Zlk:=by
 unfold DD;k_fill
 refine Dof (names:=["told","more","n","bounds","new"]) (g:=Zlj) ?_
 exact fun _ _ _ _ _ _ _ c _ _=>(ZC (Z7 sC (ZaN (nB c) (jc (ZA vL jI) Zr) Zbc)) (ZC (by refine sO sL ?_ ?_ ?_;(exact(JI.seq (ZA vL jI)));(exact fun _ _=>(ZI vO (ZI (J.list (jc jN Zr)) vD Zbr) Zak));(exact fun _ _=>JF.nil)) (ZC (by refine sO sL ?_ ?_ ?_;(exact(JI.range (nB c) (jc (ZI vC jI Zak) (jc (ZI (ZI vC vC Zak) jI Zak) Zr))));(exact fun _ _=>(cF (ZbK c) Zq9 (jc vO (jc (ZI vD vD Zak) Zr))));(exact fun _ _=>JF.nil)) (ZB (ZL (J.tup (jc (ZI vL vL Zak) (jc (ZI (ZA vL jI) (ZI (J.list (jc (J.tup (jc jI (jc jI Zr))) Zr)) vC Zbr) Zak) Zr))))))))
theorem Zk7: DD w s₀ mg mb 336 12 ZfK:=by
 unfold DD;k_fill
 refine Dof (names:=["told","x","row","summary","sharpened","n","answer","given","both"]) (g:=ZkZ) ?_
 exact fun _ _ _ _ _ _ _ c _ _=>(ZC (Z7 sL (cF c Zmo (jc vL Zr))) (ZC (Zae (Zbf (ZaW (Z5 vL jN ZbA) (ZaW (Z5 vL jN ZbA) Zcs))) (ZB (ZL jN)) Zad) (ZC (Z7 sL (ZaN (nB c) (jc (ZA vL jI) Zr) Zbc)) (ZC (Z7 sL (ZI (ZI vL (ZaN (nB c) (jc vL Zr) Zbc) Zak) jI Zak)) (ZC (Z7 sL (cF c Zo2 (jc vL (jc (ZI (cF c ZnY (jc vL (jc vL Zr))) vL Zak) Zr)))) (ZC (Zae (Z5 vL jN ZbA) (ZB (ZL jN)) Zad) (ZC (Z7 sL (cF c Zmo (jc (cF c Ztp (jc (cF c Ztq (jc vL (jc jI Zr))) (jc (Zu7 (nB c) (nB c) (jc (ZI vL jI Zak) (jc (ZI vL jI Zak) Zr))) (jc vL Zr)))) Zr))) (ZB (ZL (cF c Zo2 (jc vL (jc (cF c Zwx (jc (cF c ZnY (jc vL (jc vL Zr))) (jc vL (jc (cF c ZlH (jc vL (jc vL Zr))) Zr)))) Zr))))))))))))
theorem Ztr: DD w s₀ mg mb 444 3 Zlq:=by
 unfold DD;k_fill
 refine Dof (names:=["_law_script","_law_k","_law_many","_law_one","_law_way","_law_at","_law_to","_law_i"]) (g:=Zlp) ?_
 exact fun _ _ _ _ _ _ _ c _ _=>(ZC (Z7 sL (ZI (J.list (jc (cF c Zfw (jc vL (jc vL Zr))) Zr)) (ZI (J.list (jc jI Zr)) vL Zbr) Zak)) (ZC (Z7 sL (cF c law_pick_d (jc vL (jc vL (jc jI Zr))))) (ZC (Zae (Zbf (ZaW (Z5 vL jI ZaU) (ZaW (Z5 vL jI ZaU) Zcs))) (ZB (ZL vL)) Zad) (ZC (Z7 sL (ZI jI (cF c law_pick_d (jc vL (jc (ZI vL jI Zak) (jc vL Zr)))) Zak)) (ZC (Zae (Z5 vL jI ZaU) (ZB (S1.put (ZI (cF c law_pick_d (jc vL (jc (ZI vL jI Zak) (jc jI Zr)))) jI Zbz) vL vL)) Zad) (ZC (Zae (Zbf (ZaW (Z5 vL jI ZaU) (ZaW (Z5 vL jI ZaU) Zcs))) (ZC (Z7 sL (ZI jI (cF c law_pick_d (jc vL (jc (ZI vL jI Zak) (jc vL Zr)))) Zak)) (ZC (S1.put jI vL vL) (ZB (S1.put (ZI (ZA vL vL) jI Zbz) vL vL)))) Zad) (ZC (Zae (Z5 vL jI ZaU) (ZB (Zcn sL (JI.range (nB c) (jc vL Zr)) (ZB (S1.put (ZI (cF c law_pick_d (jc vL (jc (ZI (ZI vL jI Zak) vL Zak) (jc jI Zr)))) jI Zbz) vL (ZI vL jI Zak))))) Zad) (ZC (Zae (Z5 vL jI ZaU) (ZB (Zcn sL (JI.range (nB c) (jc vL Zr)) (ZB (S1.put (ZI (cF c law_pick_d (jc vL (jc (ZI (ZI vL jI Zak) vL Zak) (jc jI Zr)))) jI Zbz) vL (ZI vL jI Zak))))) Zad) (ZB (ZL vL))))))))))
theorem ZrW: DD w s₀ mg mb 449 1 Zke:=by
 unfold DD;k_fill
 refine Dof (names:=["_law_one","_law_boxes"]) (g:=Zkd) ?_
 exact fun _ _ _ _ _ _ _ c _ _=>(ZB (ZL (ZI (ZA vC jI) (ZaN (nB c) (jc (by refine cO ?_ ?_ ?_;(exact(JI.range (nB c) (jc (ZaN (nB c) (jc vC Zr) Zbc) Zr)));(exact fun _ _=>(ZI (ZA vD (ZI vO jI Zak)) (ZA vD vO) Zbr));(exact fun _ _=>JF.nil)) Zr) ZvC) Zak)))
theorem ZnZ: DD w s₀ mg mb 388 1 Zhe:=by
 unfold DD;k_fill
 refine Dof (names:=["_law_told_here"]) (g:=Zkv) ?_
 exact fun _ _ _ _ _ _ _ c _ _=>(ZC (Zae (Z5 vL jN ZbA) (ZB (ZL jN)) Zad) (ZB (ZL (J.tup (jc (by refine cO ?_ ?_ ?_;(exact(JI.seq (ZA vL jI)));(exact fun _ _=>(Zf4 (nB (ZbK c)) (jc vO Zr) ZhE));(exact fun _ _=>JF.nil)) (jc (Zf4 (nB c) (jc (ZA vL jI) Zr) ZhE) Zr))))))
theorem Zra: DD w s₀ mg mb 430 1 Zja:=by
 unfold DD;k_fill
 refine Dof (names:=["_law_one","_law_other"]) (g:=Zi9) ?_
 exact fun _ _ _ _ _ _ _ c _ _=>(ZC (Zae (Z5 (ZA vL jI) jI ZaU) (ZB (ZL (Zcp vL vL ZaU))) Zad) (ZB (ZL (Zgu (Zcp (ZI (ZA vL jI) (ZA vL jI) Zbl) jI ZaU) (Zcp (ZI (ZI (ZA vL jI) (ZA vL jI) Zbz) (ZA vL jI) Zbl) jI ZaU)))))
theorem ZrX: DD w s₀ mg mb 423 1 ZjS:=by
 unfold DD;k_fill
 refine Dof (names:=["_law_one","_law_other"]) (g:=ZjR) ?_
 exact fun _ _ _ _ _ _ _ c _ _=>(ZC (Zae (Z5 vL jN ZbA) (ZB (ZL jB)) Zad) (ZB (ZL (Zgu (Zcp vL jN ZdT) (Zcp vL vL Zik)))))
theorem Zrw: DD w s₀ mg mb 437 2 Zju:=by
 unfold DD;k_fill
 refine Dof (names:=["_law_one","_law_other","_law_i","_law_j","_law_t"]) (g:=Zjt) ?_
 exact fun _ _ _ _ _ _ _ c _ _=>(ZC (Zae (Zbf (ZaW (Z5 vL jN ZbA) (ZaW (Z5 vL jN ZbA) Zcs))) (ZB (ZL (Zcp vL jN ZbA))) Zad) (ZC (Zcn sL (JI.range (nB c) (jc (ZaN (nB c) (jc (ZA vL jI) Zr) Zbc) Zr)) (ZB (Zcn sL (JI.range (nB c) (jc (ZaN (nB c) (jc (ZA vL jI) Zr) Zbc) Zr)) (ZB (Zae (Zcb (Zbk (cF c ZrX (jc (ZA (ZA (ZA vL jI) vL) vL) (jc (ZA (ZA (ZA vL jI) vL) vL) Zr))))) (ZB (ZL jB)) Zad))))) (ZC (Zcn sL (JI.range (nB c) (jc (ZaN (nB c) (jc (ZA vL jI) Zr) Zbc) Zr)) (ZB (Zae (Zcb (Zbk (cF c Zra (jc (ZA (ZA vL jI) vL) (jc (ZA (ZA vL jI) vL) Zr))))) (ZB (ZL jB)) Zad))) (ZB (ZL jB)))))
theorem Zk8: DD w s₀ mg mb 395 1 ZfJ:=by
 unfold DD;k_fill
 refine Dof (names:=["_law_told_here","_law_boxes","_law_full","_law_i","_law_j","_law_t","_law_apart"]) (g:=ZkJ) ?_
 exact fun _ _ _ _ _ _ _ c _ _=>(ZC (Zae (Z5 vL jN ZbA) (ZB (ZL jB)) Zad) (ZC (Z7 sL (ZI (J.list (jc jI Zr)) vL Zak)) (ZC (Zcn sL (JI.range (nB c) (jc (ZaN (nB c) (jc vL Zr) Zbc) Zr)) (ZB (Zcn sL (JI.range (nB c) (jc (ZaN (nB c) (jc vL Zr) Zbc) Zr)) (ZB (Zae (Zbf (ZbJ (Z5 (ZA (ZA (ZA vL jI) vL) vL) jN ZdT) (ZbJ (Z5 (ZA vL vL) (ZI (ZA vL vL) (ZA (ZA (ZA vL jI) vL) vL) Zak) Zfb) Zdj))) (ZB (ZL jB)) Zad))))) (ZC (Zcn sL (JI.range (nB c) (jc (ZaN (nB c) (jc vL Zr) Zbc) Zr)) (ZC (Z7 sL (ZI (ZA vL vL) (ZA (ZA (ZA vL jI) vL) jI) Zbz)) (ZC (Zae (Zbf (ZbJ (Z5 (ZA (ZA (ZA vL jI) vL) jI) jI ZaU) (ZbJ (Z5 vL jI Zce) Zdj))) (ZB (ZL jB)) Zad) (ZB (Zae (Zbf (ZbJ (Z5 (ZA (ZA (ZA vL jI) vL) jI) jI Zfb) (ZbJ (Z5 (ZI vL (ZA (ZA (ZA vL jI) vL) jI) Zbl) jI Zce) Zdj))) (ZB (ZL jB)) Zad))))) (ZB (ZL jB))))))
theorem Zkl: DD w s₀ mg mb 402 1 Zfz:=by
 unfold DD;k_fill
 refine Dof (names:=["_law_thing"]) (g:=Zj0) ?_
 exact fun _ _ _ _ _ _ _ c _ _=>(ZB (ZL (Zgu (ZdA (nB c) (nB c) (.inl rfl) vL) (Zwy (ZdA (nB c) (nB c) (.inr (.inl rfl)) vL)))))
theorem ZsG: DD w s₀ mg mb 409 2 ZkE:=by
 unfold DD;k_fill
 refine Dof (names:=["_law_thing","_law_size","_law_i","_law_top"]) (g:=ZkD) ?_
 exact fun _ _ _ _ _ _ _ c _ _=>(ZC (Zae (Zbf (ZaW (Zcb (Zbk (ZdA (nB c) (nB c) (.inr (.inr (.inl rfl))) vL))) (ZaW (Z5 (ZaN (nB c) (jc vL Zr) Zbc) vL Zce) Zcs))) (ZB (ZL jB)) Zad) (ZC (Zcn sL (JI.range (nB c) (jc vL Zr)) (ZC (Zae (Zbf (ZaW (Zcb (Zbk (ZdA (nB c) (nB c) (.inr (.inr (.inl rfl))) (ZA vL vL)))) (ZaW (Z5 (ZaN (nB c) (jc (ZA vL vL) Zr) Zbc) vL Zce) Zcs))) (ZB (ZL jB)) Zad) (ZC (Zcn sL (JI.seq (ZA vL vL)) (ZB (Zae (Zbf (ZbJ (Z5 vL jN ZdT) (ZbJ (Zcb (Zbk (cF c Zkl (jc vL Zr)))) Zdj))) (ZB (ZL jB)) Zad))) (ZB (Zae (Z5 (ZA (ZA vL vL) vL) jI Zce) (ZB (ZL jB)) Zad))))) (ZB (ZL jB))))
theorem ZrY: DD w s₀ mg mb 416 3 Zj8:=by
 unfold DD;k_fill
 refine Dof (names:=["_law_thing","_law_many","_law_pair"]) (g:=Zj7) ?_
 exact fun _ _ _ _ _ _ _ c _ _=>(ZC (Zae (Zbf (ZaW (Zcb (Zbk (ZdA (nB c) (nB c) (.inr (.inr (.inr rfl))) vL))) (ZaW (Z5 (ZaN (nB c) (jc vL Zr) Zbc) jI Zce) (ZaW (Zcb (Zbk (cF c ZsG (jc (ZA vL jI) (jc (ZI vL jI Zak) Zr))))) Zcs)))) (ZB (ZL jB)) Zad) (ZC (Zae (Zbf (ZaW (Zcb (Zbk (ZdA (nB c) (nB c) (.inr (.inr (.inl rfl))) (ZA vL jI)))) (ZaW (Z5 (ZaN (nB c) (jc (ZA vL jI) Zr) Zbc) vL Zce) Zcs))) (ZB (ZL jB)) Zad) (ZC (Zcn sL (JI.seq (ZA vL jI)) (ZC (Zae (Zbf (ZaW (Zcb (Zbk (ZdA (nB c) (nB c) (.inr (.inr (.inr rfl))) vL))) (ZaW (Z5 (ZaN (nB c) (jc vL Zr) Zbc) jI Zce) Zcs))) (ZB (ZL jB)) Zad) (ZC (Zae (Zbf (ZaW (Zcb (Zbk (cF c Zkl (jc (ZA vL jI) Zr)))) (ZaW (Zcb (Zbk (cF c Zkl (jc (ZA vL jI) Zr)))) Zcs))) (ZB (ZL jB)) Zad) (ZB (Zae (Zbf (ZaW (Z5 (ZA vL jI) jI Zd0) (ZaW (Zbf (ZbJ (Z5 (ZA vL jI) jI Zfb) (ZbJ (Zcb (ZtP jI (ZA vL jI) (ZA vL jI) Zik Zd0)) Zdj))) Zcs))) (ZB (ZL jB)) Zad))))) (ZB (ZL jB)))))
theorem Znm: DD w s₀ mg mb 454 1 ZgZ:=by
 unfold DD;k_fill
 refine Dof (names:=["_law_told_here","_law_x","_law_full","_law_bounds","_law_i"]) (g:=Zjp) ?_
 exact fun _ _ _ _ _ _ _ c _ _=>(ZC (by refine sO sL ?_ ?_ ?_;(exact(JI.range (nB c) (jc (ZaN (nB c) (jc (ZA vC jI) Zr) Zbc) Zr)));(exact fun _ _=>vO);(exact fun _ _=>JF.one (Z5 vO vD Zce))) (ZC (Z7 sL (J.list Zr)) (ZC (Zcn sC (JI.seq vL) (ZB (Zgh (J.append vL (by refine cO ?_ ?_ ?_;(exact(JI.seq vL));(exact fun _ _=>(ZA (ZA (ZA vD jI) vD) vO));(exact fun _ _=>JF.nil)))))) (ZB (ZL (J.tup (jc vL (jc (ZI (ZoA (ZA vC jI) JP.none (JP.some (ZI vC jI Zbz))) (ZoA (ZA vC jI) (JP.some vC) JP.none) Zak) Zr))))))))
theorem Zon: DD w s₀ mg mb 461 1 Zhx:=by
 unfold DD;k_fill
 refine Dof (names:=["_law_boxes","_law_x","_law_number_here"]) (g:=Zlv) ?_
 exact fun _ _ _ _ _ _ _ c _ _=>(ZB (ZL (ZI (ZI (Zf3 vL JP.none (JP.some (ZI vL jI Zbz))) (J.list (jc vL Zr)) Zak) (Zf3 vL (JP.some vL) JP.none) Zak)))
end
end L
end
section
open PySem PySem.W PySem.Calls PyProof.Rows PM
open L
seal PySem.wpAny PM.J PM.Js PM.JT PM.JA PM.JF PM.JI PM.JI2 PM.JP PM.S1 PM.Ss PM.Sto PM.Rd PM.Nm PM.OpN PM.Op2 PM.Def
theorem PySem.Challenge.cw_seer_k52_answers_keep_boxes_holds : PySem.Challenge.rw_seer_k52_answers_keep_boxes.Holds :=
 head (by
  w_strict (k_go0;(rename Well _ _ _ _=>w9);(rename Frag.In _ _=>kx9);(rename Top _ _ _ _ _ _=>t9);(rename Fr _ _ _ _=>f9);(rename News _ _ _ _=>n9);(rename CellsAre _ _ _=>x9);(rename (PyData.layable0 _=true)=>hl9);(obtain⟨H9,e9⟩:=L.Zrt (by omega) hl9);(refine' PM.Zur (names:=["_law_script","_law_shapes","_law_shape_here","_law_many","_law_boxes","_law_told_here","_law_row","_law_some","_law_answer","_law_summary","_law_x","_law_kept","_law_found","_law_way","_law_moved"]) (g:=ZlU) (room:=12) ?hb ?h1 ?h2 ?h3 ?h4 kx9 t9 w9 ?len f9 n9 x9 e9 ?post);(case h1=>decide);(case h2=>decide);(case h3=>rfl);(case h4=>rfl);(case len=>(rw[PM.Za5];omega));(case hb=>(intro dp un gd L a ccd outer h₀ hu clr hd1 hu1;exact(ZC (Z7 sL (J.list (jc (J.tup (jc jI (jc jI Zr))) (jc (J.tup (jc jI (jc jI Zr))) (jc (J.tup (jc jI (jc jI Zr))) (jc (J.tup (jc jI (jc jI Zr))) (jc (J.tup (jc jI (jc jI Zr))) (jc (J.tup (jc jI (jc jI Zr))) (jc (J.tup (jc jI (jc jI Zr))) (jc (J.tup (jc jI (jc jI Zr))) (jc (J.tup (jc jI (jc jI Zr))) (jc (J.tup (jc jI (jc jI Zr))) (jc (J.tup (jc jI (jc jI Zr))) Zr))))))))))))) (ZC (Z7 sL (ZA vL (cF clr law_pick_d (jc vC (jc jI (jc jI Zr)))))) (ZC (Z7 sC (ZA vL jI)) (ZC (Z7 sC (by refine cO ?_ ?_ ?_;(exact(JI.range (nB clr) (jc vC Zr)));(exact fun _ _=>(cF (ZbK clr) Zfw (jc vD (jc (ZI jI vO Zak) Zr))));(exact fun _ _=>JF.nil))) (ZC (Z7 sL (cF clr ZnV (jc vC (jc jI (jc vC Zr))))) (ZC (by refine sO sL ?_ ?_ ?_;(exact(JI.range (nB clr) (jc (ZA vL jI) Zr)));(exact fun _ _=>(cF (ZbK clr) Ztr (jc vD (jc (ZI jI (ZI jI vO Zbr) Zak) (jc vD Zr)))));(exact fun _ _=>JF.nil)) (ZC (by refine sO sL ?_ ?_ ?_;(exact(JI.seq vL));(exact fun _ _=>(cF (ZbK clr) ZrW (jc vO (jc vD Zr))));(exact fun _ _=>JF.nil)) (ZC (Z7 sL (cF clr Zfw (jc vC (jc jI Zr)))) (ZC (Zae (Zbf (ZbJ (Z5 (ZaN (nB clr) (jc vL Zr) Zbc) jI Zfb) (ZbJ (Z5 (cF clr law_pick_d (jc vC (jc jI (jc jI Zr)))) jI ZaU) Zdj))) (ZB (Z7 sL (ZI (ZI (ZA vL jI) (cF clr law_pick_d (jc vC (jc jI (jc jI Zr)))) Zak) jI Zbz))) Zad) (ZC (Z7 sL (cF clr ZnV (jc vC (jc jI (jc (ZI vL (J.list (jc vL Zr)) Zak) Zr))))) (ZC (Z7 sL (ZI jI (cF clr law_pick_d (jc vC (jc jI (jc vC Zr)))) Zak)) (ZC (Z7 sL (J.list (jc (cF clr ZnZ (jc vL Zr)) (jc (cF clr ZnZ (jc vL Zr)) (jc (by refine cO ?_ ?_ ?_;(exact(JI.seq vL));(exact fun _ _=>(Zf4 (nB (ZbK clr)) (jc vO Zr) ZhE));(exact fun _ _=>JF.nil)) Zr))))) (ZC (Z7 sL (cF clr Zk7 (jc vL (jc vL (jc vL (jc vL Zr)))))) (ZC (Zae (Zbf (ZaW (Z5 vL (ZA vL jI) Zce) (ZaW (Z5 vL (ZA vL jI) Zce) (ZaW (Z5 vL (ZA vL jI) Zce) Zcs)))) (ZB (ZL jB)) Zad) (ZC (Zae (Zbf (ZaW (Zcb (Zbk (cF clr ZrY (jc vL (jc vC Zr))))) (ZaW (Zcb (Zbk (cF clr Zk8 (jc vL (jc (cF clr Zon (jc vC (jc vL (jc vL Zr)))) Zr))))) Zcs))) (ZB (ZL jB)) Zad) (ZC (Zae (Zcb (Zbk (cF clr Zrw (jc (cF clr Znm (jc vL (jc vL Zr))) (jc (cF clr Znm (jc vL (jc vL Zr))) Zr))))) (ZB (ZL jB)) Zad) (ZC (Z7 sL (cF clr law_pick_d (jc vC (jc jI (jc jI Zr))))) (ZC (Z7 sL (ZI (ZI vL vL Zak) jI Zbz)) (ZC (Zae (Z5 vL jI ZaU) (ZB (Z7 sL (ZI vL (ZA (ZA (ZA vL jI) (Zfi jI Ze0)) jI) Zak))) Zad) (ZC (Zae (Zbf (ZbJ (Zbk (cF clr Zk8 (jc vL (jc (ZI vL (J.list (jc vL Zr)) Zak) Zr)))) (ZbJ (Zcb (Zbk (cF clr Zk8 (jc vL (jc (cF clr Zon (jc vC (jc vL (jc vL Zr)))) Zr))))) Zdj))) (ZB (ZL jB)) Zad) (ZB (ZL (Zgu (Zcp (cF clr Zk7 (jc jN (jc vL (jc vL (jc vL Zr))))) jN ZbA) (Zcp (cF clr Zk7 (jc vL (jc vL (jc vL (jc jN Zr))))) jN ZbA))))))))))))))))))))))))));(case post=>(intro h' tk' m' F';k_steps)))
  )
end
