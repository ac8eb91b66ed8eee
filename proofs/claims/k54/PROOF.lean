import PyProof.Rows.All
import Wide.All
import OpenK.AllK
import Wide.FinOn
import PySem.Challenge.RW_seer_k54_acts_by_steps
import PyProof.Rows.News
import PyProof.Rows.Nodes
import PyProof.Rows.Chain
import PyProof.Rows.TupSub
import PyProof.PureInt
import PyProof.Rules2
import PyProof.Rules3
import PyProof.Rows.Globals
import PyProof.Rows.RuleB_mod
import PyProof.Rows.RuleB_floordiv
import PyProof.Rows.RuleB_small
import PyProof.NoPylong
import PyProof.Rows.RuleB_pow
import PyProof.Rows.EqDataRows
import PyProof.Rows.StrTemp
import PyProof.Rows.TupAdd
import PyProof.Rows.ListMul
import PyProof.ListIndexNeg
import PyProof.SliceList
import PyProof.Methods
import PyProof.Rows.Tup
import PyProof.IsiPairs
import PyProof.IsiHeapPairs
import PyProof.IsiNone
import PyProof.Rows.RuleN_abs
import PyProof.Rows.SumAny
import PyProof.WalkInts
import PyProof.PvWalk
import PyProof.RulesRaise
import PyProof.Raises
import PyProof.Dict
import PyProof.Seq
import PyProof.Rows.ListAppend
import PyProof.ForAppend
import PyProof.ForAny
import PyProof.Walks
import PyProof.WalksT
import KE.KItem
import PyProof.WalksMore
import PyProof.RangeFor
import PyProof.Rows.Range3
import OpenK.KCell
import KE.KTree
import KE.RegLcTurns
import KE.KCompFold
import KE.KLcPair
import KE.LcTurns
import PyProof.CompUse
import PyProof.Rows.ZipGen
import OpenK.KLine
import KE.KState
import Wide.Well
import PyProof.ListCopy
import PyProof.Rows.TupleOfSeqD
import KE.LcSums
import KE.KCellOne
import PyProof.FitsBits
import KE.KEqDeep
import PyProof.Rows.TupMore
import PyProof.Rows.NestLooks
import PyProof.EnumMake
import PyProof.WalksEnum
import PyProof.Rows.SortWalk
import PyProof.DictStraight
import PyProof.EqAt
import PyProof.Rows.SeqMore2
import PyProof.ListRange
import PyProof.LongRange
import KE.KAnyBase
import PyProof.Rows.SeqSlice
set_option linter.all false
set_option maxRecDepth 100000
set_option maxHeartbeats 8000000
abbrev Zz0:=@Option.bind_eq_some_iff
abbrev Zz1:=@Option.map_eq_some_iff
abbrev Zz2:=@List.mem_cons_of_mem
abbrev Zz3:=@List.mem_append_right
abbrev Zz4:=@List.mem_append_left
abbrev Zz5:=@List.mem_cons_self
abbrev Zz6:=@List.getElem?_eq_some_iff
abbrev Zz7:=@List.mem_cons
abbrev Zz8:=@List.mem_append
abbrev Zz9:=@List.mem_singleton
abbrev Zz10:=@Nat.le_refl
abbrev Zz11:=@List.mem_map
set_option Elab.async false
set_option compiler.extract_closed false
section
/-! The plain machine: values as trees, lists as places; and how it stands for the model's heap. -/
namespace PM
open PySem PyProof.Rows
inductive V where
 | none
 | bool (b:Bool)
 | int (i:Int)
 | str (s:Str)
 | tup (vs:List V)
 | ref (a:Nat)
noncomputable abbrev Hp:=List (List V)
noncomputable abbrev Lc:=Nat→Option V
noncomputable def LEN: Nat:=100000
theorem Zbr: LEN=100000:=rfl
theorem Zdc{n:Nat}(h:n≤LEN): n≤sizeLine:=by
 have:sizeLine=2 ^ 24:=rfl
 rw[this];rw[Zbr]at h;omega
noncomputable abbrev Zfl(xs:List Value)(k:Nat): Obj:={ cls:=.type "tuple",data:=.seq xs.toArray k }
noncomputable abbrev Zb7(xs:List Value)(k:Nat): Obj:={ cls:=.type "list",data:=.seq xs.toArray k }
structure Wd where
 pi:List Addr
 tups:List (Addr×Obj)
 sc:Addr×Obj
structure Wd.Le(W W':Wd): Prop where
 pi:W.pi <+: W'.pi
 tups:∀q∈W.tups,q∈W'.tups
 sc:W'.sc=W.sc
theorem Wd.Le.refl(W:Wd): W.Le W:=⟨List.prefix_refl _,fun _ h=>h,rfl⟩
theorem Wd.Le.trans{W W' W'':Wd}(a:W.Le W')(b:W'.Le W''): W.Le W'':=⟨a.pi.trans b.pi,fun q h=>b.tups q (a.tups q h),b.sc.trans a.sc⟩
theorem Wd.Le.at{W W':Wd}(h:W.Le W'){i:Nat}{a:Addr}(e:W.pi[i]?=some a): W'.pi[i]?=some a:=by
 obtain⟨t,ht⟩:=h.pi
 have hi:i<W.pi.length:=(Zz6.mp e).1
 rw[←ht,List.getElem?_append_left hi]
 exact e
mutual
inductive VR(W:Wd): V→Value→Prop where
 | none:VR W .none .none
 | bool (b:Bool):VR W (.bool b) (.bool b)
 | int (i:Int) (t:Tok):VR W (.int i) (.int i t)
 | str (s:Str) (t:Tok):VR W (.str s) (.str s t)
 | tup {vs:List V} {a:Addr} {xs:List Value} {k:Nat}:(a,Zfl xs k)∈W.tups→vs.length≤LEN→VRs W vs xs→VR W (.tup vs) (.ref a)
 | ref {i:Nat} {a:Addr}:W.pi[i]?=some a→VR W (.ref i) (.ref a)
inductive VRs(W:Wd): List V→List Value→Prop where
 | nil:VRs W [] []
 | cons {v:V} {x:Value} {vs:List V} {xs:List Value}:VR W v x→VRs W vs xs→VRs W (v::vs) (x::xs)
end
mutual
theorem VR.mono{W W':Wd}(h:W.Le W'){v:V}{x:Value}(r:VR W v x): VR W' v x:=by
 cases r with
 | none=>exact .none
 | bool b=>exact .bool b
 | int i t=>exact .int i t
 | str s t=>exact .str s t
 | tup hm hl hs=>exact .tup (h.tups _ hm) hl (VRs.mono h hs)
 | ref e=>exact .ref (h.at e)
theorem VRs.mono{W W':Wd}(h:W.Le W'){vs:List V}{xs:List Value}(r:VRs W vs xs): VRs W' vs xs:=by
 cases r with
 | nil=>exact .nil
 | cons a b=>exact .cons (VR.mono h a) (VRs.mono h b)
end
theorem VRs.length{W:Wd}: ∀{vs:List V} {xs:List Value},VRs W vs xs→xs.length=vs.length
 | _,_,.nil=>rfl
 | _,_,.cons _ r=>by rw[List.length_cons,List.length_cons,r.length]
theorem VRs.at{W:Wd}: ∀{vs:List V} {xs:List Value} {i:Nat} {v:V},VRs W vs xs→vs[i]?=some v→∃x,xs[i]?=some x∧VR W v x
 | _,_,_,_,.nil,e=>by simp at e
 | _,_,0,_,.cons a _,e=>by
  simp at e
  exact⟨_,by simp,e▸a⟩
 | _,_,i+1,_,.cons _ r,e=>by
  simp at e
  obtain⟨x,hx,hr⟩:=r.at e
  exact⟨x,by simpa using hx,hr⟩
theorem VRs.append{W:Wd}: ∀{vs us:List V} {xs ys:List Value},VRs W vs xs→VRs W us ys→VRs W (vs++us) (xs++ys)
 | _,_,_,_,.nil,h=>h
 | _,_,_,_,.cons a r,h=>.cons a (r.append h)
theorem VRs.snoc{W:Wd}{vs:List V}{xs:List Value}{v:V}{x:Value}(h:VRs W vs xs)(r:VR W v x): VRs W (vs++[v]) (xs++[x]):=h.append (.cons r .nil)
theorem VRs.set{W:Wd}: ∀{vs:List V} {xs:List Value} {v:V} {x:Value} (i:Nat),VRs W vs xs→VR W v x→VRs W (vs.set i v) (xs.set i x)
 | _,_,_,_,_,.nil,_=>.nil
 | _,_,_,_,0,.cons _ r,h=>.cons h r
 | _,_,_,_,i+1,.cons a r,h=>.cons a (r.set i h)
theorem VRs.drop{W:Wd}: ∀{vs:List V} {xs:List Value} (i:Nat),VRs W vs xs→VRs W (vs.drop i) (xs.drop i)
 | _,_,0,h=>h
 | _,_,_+1,.nil=>.nil
 | _,_,i+1,.cons _ r=>r.drop i
structure HR(W:Wd)(H:Hp)(led:List (Addr×Obj)): Prop where
 len:W.pi.length=H.length
 nd:W.pi.Nodup
 lists:∀(i:Nat) (vs:List V),H[i]?=some vs→vs.length≤LEN∧∃a xs k,W.pi[i]?=some a∧(a,Zb7 xs k)∈led∧VRs W vs xs
 tups:∀q∈W.tups,q∈led
 kind:∀q∈W.tups,∃xs k,q.2=Zfl xs k
theorem HR.mono{W:Wd}{H:Hp}{led led':List (Addr×Obj)}(R:HR W H led)(h:∀q∈led,q∈led'): HR W H led':=
 ⟨R.len,R.nd,fun i vs e=>by
  obtain⟨l,a,xs,k,h1,h2,h3⟩:=R.lists i vs e
  exact⟨l,a,xs,k,h1,h _ h2,h3⟩,fun q hq=>h q (R.tups q hq),R.kind⟩
structure Cx where
 A:Around
 env:Env
 h₀:Heap
 L:Addr
 hh:A.handled=none
 hu:A.units+200<cLine
 Own:Wd→Lc→(Str→Option Value)→List (Addr×Obj)→Prop
 mono:∀{W W':Wd} {ρ:Lc} {m:Str→Option Value} {c:List (Addr×Obj)},W.Le W'→Own W ρ m c→Own W' ρ m c
structure Rep'(Γ:Cx)(W:Wd)(ρ:Lc)(H:Hp)(fr:List (Addr×Obj))(h:Heap)(m:Str→Option Value)(cells led:List (Addr×Obj)): Prop where
 F:Fr Γ.h₀ Γ.L h m
 N:News Γ.h₀ Γ.L h led
 R:HR W H (W.sc::led)
 sc:Γ.h₀.get? W.sc.1=some W.sc.2
 sc0:W.pi[0]?=some W.sc.1
 frIn:∀q∈fr,q∈led
 frOff:∀q∈fr,q.1∉W.pi
 clIn:∀q∈cells,q∈led
 clOff:∀q∈cells,q.1∉W.pi
 apart:∀q∈cells,∀r∈fr,q.1≠r.1
 frTup:∀q∈fr,∀t∈W.tups,q.1≠t.1
 clTup:∀q∈cells,∀t∈W.tups,q.1≠t.1
 own:Γ.Own W ρ m cells
def Rep(Γ:Cx)(W:Wd)(ρ:Lc)(H:Hp)(fr:List (Addr×Obj))(h:Heap): Prop:=∃m cells led,Rep' Γ W ρ H fr h m cells led
theorem Rep.grown{Γ:Cx}{W:Wd}{ρ:Lc}{H:Hp}{fr:List (Addr×Obj)}{h h':Heap}(r:Rep Γ W ρ H fr h)(up:∀b o,h.get? b=some o→h'.get? b=some o): Rep Γ W ρ H fr h':=by
 obtain⟨m,c,led,r⟩:=r
 refine⟨m,c,led,⟨⟨?_,fun b o e=>up b o (r.F.keep b o e),r.F.above⟩,fun q hq=>⟨up _ _ (r.N q hq).1,(r.N q hq).2⟩,r.R,r.sc,r.sc0,r.frIn,r.frOff,r.clIn,r.clOff,r.apart,r.frTup,r.clTup,r.own⟩⟩
 obtain⟨o,es,ep,h1,h2⟩:=r.F.ns
 exact⟨o,es,ep,up _ _ h1,h2⟩
theorem Rep.push{Γ:Cx}{W:Wd}{ρ:Lc}{H:Hp}{fr:List (Addr×Obj)}{h:Heap}(r:Rep Γ W ρ H fr h)(o:Obj): Rep Γ W ρ H fr (h.push o):=r.grown fun _ _ e=>Heap.get?_push_of_some _ e
theorem ZeJ{q s:Addr×Obj}{l l':List (Addr×Obj)}(h:q∈s::l)(m:q∈l→q∈l'): q∈s::l':=by
 rcases Zz7.mp h with e | h
 ·exact e▸List.mem_cons_self
 ·exact Zz2 _ (m h)
theorem Zgo{q s:Addr×Obj}{l l':List (Addr×Obj)}(h:q∈s::l)(m:∀x∈l,x∈l'): q∈s::l':=by
 rcases Zz7.mp h with e | h
 ·exact e▸List.mem_cons_self
 ·exact Zz2 _ (m q h)
theorem Rep'.get{Γ:Cx}{W:Wd}{ρ:Lc}{H:Hp}{fr:List (Addr×Obj)}{h:Heap}{m:Str→Option Value}{c led:List (Addr×Obj)}(r:Rep' Γ W ρ H fr h m c led){q:Addr×Obj}(hq:q∈W.sc::led): h.get? q.1=some q.2:=by
 rcases Zz7.mp hq with e | hq
 ·rw[e]
  exact r.F.keep _ _ r.sc
 ·exact(r.N q hq).1
theorem Rep'.off{Γ:Cx}{W:Wd}{ρ:Lc}{H:Hp}{fr:List (Addr×Obj)}{h:Heap}{m:Str→Option Value}{c led:List (Addr×Obj)}(r:Rep' Γ W ρ H fr h m c led): ∀q∈W.sc::led,q.1≠h.objs.size:=fun q hq=>Nat.ne_of_lt (Heap.lt_size (r.get hq))
theorem Rep'.same{Γ:Cx}{W:Wd}{ρ:Lc}{H:Hp}{fr:List (Addr×Obj)}{h h':Heap}{m:Str→Option Value}{c led:List (Addr×Obj)}(r:Rep' Γ W ρ H fr h m c led)(F':Fr Γ.h₀ Γ.L h' m)(N':News Γ.h₀ Γ.L h' led): Rep Γ W ρ H fr h':=
 ⟨m,c,led,F',N',r.R,r.sc,r.sc0,r.frIn,r.frOff,r.clIn,r.clOff,r.apart,r.frTup,r.clTup,r.own⟩
theorem Rep'.piIn{Γ:Cx}{W:Wd}{ρ:Lc}{H:Hp}{fr:List (Addr×Obj)}{h:Heap}{m:Str→Option Value}{c led:List (Addr×Obj)}(r:Rep' Γ W ρ H fr h m c led): ∀a∈W.pi,∃o,(a,o)∈W.sc::led:=by
 intro a ha
 obtain⟨i,hi,e⟩:=List.getElem_of_mem ha
 have hi':i<H.length:=r.R.len▸hi
 obtain⟨_,b,xs,k,h1,h2,_⟩:=r.R.lists i H[i] (List.getElem?_eq_getElem hi')
 have:b=a:=by rw[List.getElem?_eq_getElem hi,e]at h1;exact(Option.some.inj h1).symm
 exact⟨_,this▸h2⟩
theorem Rep'.inLed{Γ:Cx}{W:Wd}{ρ:Lc}{H:Hp}{fr:List (Addr×Obj)}{h:Heap}{m:Str→Option Value}{c led:List (Addr×Obj)}(r:Rep' Γ W ρ H fr h m c led){i:Nat}{a:Addr}{o:Obj}(hi:i≠0)(ea:W.pi[i]?=some a)(hm:(a,o)∈W.sc::led): (a,o)∈led:=by
 rcases Zz7.mp hm with e | hm
 ·have e1:a=W.sc.1:=congrArg (·.1) e
  have hl:i<W.pi.length:=(Zz6.mp ea).1
  have:i=0:=(List.getElem?_inj hl r.R.nd).mp (by rw[ea,r.sc0,e1])
  exact absurd this hi
 ·exact hm
theorem Rep'.notSc{Γ:Cx}{W:Wd}{ρ:Lc}{H:Hp}{fr:List (Addr×Obj)}{h:Heap}{m:Str→Option Value}{c led:List (Addr×Obj)}(r:Rep' Γ W ρ H fr h m c led): ∀q∈led,q.1≠W.sc.1:=fun q hq e=>by
 have:=(r.N q hq).2.2
 rw[e,r.sc]at this
 cases this
theorem Rep'.newTup{Γ:Cx}{W:Wd}{ρ:Lc}{H:Hp}{fr:List (Addr×Obj)}{h h':Heap}{m:Str→Option Value}{c led:List (Addr×Obj)}{vs:List V}{xs:List Value}{k:Nat}{n:Addr}(r:Rep' Γ W ρ H fr h m c led)(F':Fr Γ.h₀ Γ.L h' m)(N':News Γ.h₀ Γ.L h' ((n,Zfl xs k)::led))(hn:∀q∈W.sc::led,q.1≠n)(hv:VRs W vs xs)(hl:vs.length≤LEN):
  ∃W',W.Le W'∧Rep Γ W' ρ H fr h'∧VR W' (.tup vs) (.ref n):=by
 have le:W.Le ⟨W.pi,(n,Zfl xs k)::W.tups,W.sc⟩:=⟨List.prefix_refl _,fun q hq=>List.mem_cons_of_mem _ hq,rfl⟩
 refine⟨⟨W.pi,(n,Zfl xs k)::W.tups,W.sc⟩,le,⟨m,c,(n,Zfl xs k)::led,⟨F',N',?_,r.sc,r.sc0,fun q hq=>List.mem_cons_of_mem _ (r.frIn q hq),r.frOff,fun q hq=>List.mem_cons_of_mem _ (r.clIn q hq),r.clOff,r.apart,fun q hq t ht=>?_,fun q hq t ht=>?_,Γ.mono le r.own⟩⟩,.tup Zz5 hl (hv.mono le)⟩
 ·refine⟨r.R.len,r.R.nd,fun i us e=>?_,fun q hq=>?_,fun q hq=>?_⟩
  ·obtain⟨l,a,ys,j,h1,h2,h3⟩:=r.R.lists i us e
   exact⟨l,a,ys,j,h1,Zgo h2 fun x hx=>List.mem_cons_of_mem _ hx,h3.mono le⟩
  ·rcases Zz7.mp hq with e | hq
   ·exact e▸List.mem_cons_of_mem _ Zz5
   ·exact Zgo (r.R.tups q hq) fun x hx=>List.mem_cons_of_mem _ hx
  ·rcases Zz7.mp hq with e | hq
   ·exact⟨xs,k,by rw[e]⟩
   ·exact r.R.kind q hq
 ·rcases Zz7.mp ht with e | ht
  ·rw[e]
   exact hn q (Zz2 _ (r.frIn q hq))
  ·exact r.frTup q hq t ht
 ·rcases Zz7.mp ht with e | ht
  ·rw[e]
   exact hn q (Zz2 _ (r.clIn q hq))
  ·exact r.clTup q hq t ht
theorem Rep.tuple{Γ:Cx}{W:Wd}{ρ:Lc}{H:Hp}{fr:List (Addr×Obj)}{h:Heap}{vs:List V}{xs:List Value}{k:Nat}(r:Rep Γ W ρ H fr h)(hv:VRs W vs xs)(hl:vs.length≤LEN):
  ∃W',W.Le W'∧Rep Γ W' ρ H fr (h.push (Zfl xs k))∧VR W' (.tup vs) (.ref h.objs.size):=by
 obtain⟨m,c,led,r⟩:=r
 exact r.newTup (r.F.push _) (News.push r.F r.N _) r.off hv hl
theorem Rep'.newList{Γ:Cx}{W:Wd}{ρ:Lc}{H:Hp}{fr:List (Addr×Obj)}{h h':Heap}{m:Str→Option Value}{c led:List (Addr×Obj)}{vs:List V}{xs:List Value}{k:Nat}{n:Addr}(r:Rep' Γ W ρ H fr h m c led)(F':Fr Γ.h₀ Γ.L h' m)(N':News Γ.h₀ Γ.L h' ((n,Zb7 xs k)::led))(hn:∀q∈W.sc::led,q.1≠n)(hv:VRs W vs xs)(hl:vs.length≤LEN):
  ∃W',W.Le W'∧Rep Γ W' ρ (H++[vs]) fr h'∧VR W' (.ref H.length) (.ref n):=by
 have le:W.Le ⟨W.pi++[n],W.tups,W.sc⟩:=⟨List.prefix_append _ _,fun q hq=>hq,rfl⟩
 have h0:0<W.pi.length:=(Zz6.mp r.sc0).1
 have at_n:(W.pi++[n])[H.length]?=some n:=by rw[←r.R.len];simp
 refine⟨⟨W.pi++[n],W.tups,W.sc⟩,le,⟨m,c,(n,Zb7 xs k)::led,⟨F',N',?_,r.sc,(List.getElem?_append_left h0).trans r.sc0,fun q hq=>List.mem_cons_of_mem _ (r.frIn q hq),fun q hq=>?_,fun q hq=>List.mem_cons_of_mem _ (r.clIn q hq),fun q hq=>?_,r.apart,r.frTup,r.clTup,Γ.mono le r.own⟩⟩,.ref at_n⟩
 ·refine⟨by simp[r.R.len],?_,fun i us e=>?_,fun q hq=>Zgo (r.R.tups q hq) fun x hx=>List.mem_cons_of_mem _ hx,r.R.kind⟩
  ·show(W.pi++[n]).Nodup
   rw[List.nodup_append]
   refine⟨r.R.nd,by simp,fun a ha b hb=>?_⟩
   rw[List.mem_singleton.mp hb]
   obtain⟨o,ho⟩:=r.piIn a ha
   exact hn _ ho
  ·by_cases hi:i<H.length
   ·rw[List.getElem?_append_left hi]at e
    obtain⟨l,a,ys,j,h1,h2,h3⟩:=r.R.lists i us e
    exact⟨l,a,ys,j,le.at h1,Zgo h2 fun x hx=>List.mem_cons_of_mem _ hx,h3.mono le⟩
   ·have:i=H.length:=by
     have:=(Zz6.mp e).1
     simp at this
     omega
    subst this
    simp at e
    subst e
    exact⟨hl,n,xs,k,at_n,List.mem_cons_of_mem _ Zz5,hv.mono le⟩
 ·intro hm
  rcases Zz8.mp hm with hm | hm
  ·exact r.frOff q hq hm
  ·exact hn q (Zz2 _ (r.frIn q hq)) (Zz9.mp hm)
 ·intro hm
  rcases Zz8.mp hm with hm | hm
  ·exact r.clOff q hq hm
  ·exact hn q (Zz2 _ (r.clIn q hq)) (Zz9.mp hm)
theorem Rep.list{Γ:Cx}{W:Wd}{ρ:Lc}{H:Hp}{fr:List (Addr×Obj)}{h:Heap}{vs:List V}{xs:List Value}{k:Nat}(r:Rep Γ W ρ H fr h)(hv:VRs W vs xs)(hl:vs.length≤LEN):
  ∃W',W.Le W'∧Rep Γ W' ρ (H++[vs]) fr (h.push (Zb7 xs k))∧VR W' (.ref H.length) (.ref h.objs.size):=by
 obtain⟨m,c,led,r⟩:=r
 exact r.newList (r.F.push _) (News.push r.F r.N _) r.off hv hl
theorem Rep.at{Γ:Cx}{W:Wd}{ρ:Lc}{H:Hp}{fr:List (Addr×Obj)}{h:Heap}{i:Nat}{a:Addr}{vs:List V}(r:Rep Γ W ρ H fr h)(e:H[i]?=some vs)(ea:W.pi[i]?=some a): vs.length≤LEN∧∃xs k,h.get? a=some (Zb7 xs k)∧VRs W vs xs:=by
 obtain⟨m,c,led,r⟩:=r
 obtain⟨l,b,xs,k,h1,h2,h3⟩:=r.R.lists i vs e
 rw[ea]at h1
 cases h1
 exact⟨l,xs,k,r.get h2,h3⟩
theorem Rep.tupAt{Γ:Cx}{W:Wd}{ρ:Lc}{H:Hp}{fr:List (Addr×Obj)}{h:Heap}{q:Addr×Obj}(r:Rep Γ W ρ H fr h)(e:q∈W.tups): h.get? q.1=some q.2:=by
 obtain⟨m,c,led,r⟩:=r
 exact r.get (r.R.tups _ e)
theorem Rep'.changed{Γ:Cx}{W:Wd}{ρ:Lc}{H:Hp}{fr:List (Addr×Obj)}{h h':Heap}{m:Str→Option Value}{c led:List (Addr×Obj)}{i:Nat}{a:Addr}{vs us:List V}{ys:List Value}{k:Nat}(r:Rep' Γ W ρ H fr h m c led)(i0:i≠0)(e:H[i]?=some vs)(ea:W.pi[i]?=some a)(F':Fr Γ.h₀ Γ.L h' m)(N':News Γ.h₀ Γ.L h' ((a,Zb7 ys k)::led.filter (fun q=>decide (q.1≠a))))(hv:VRs W us ys)(hl:us.length≤LEN):
  Rep Γ W ρ (H.set i us) fr h':=by
 obtain⟨_,b,xs,j,h1,h2,h3⟩:=r.R.lists i vs e
 rw[ea]at h1
 cases h1
 have h2:=r.inLed i0 ea h2
 have hN:=r.N _ h2
 have hm:a∈W.pi:=List.mem_of_getElem? ea
 have hi:i<H.length:=(Zz6.mp e).1
 refine⟨m,c,(a,Zb7 ys k)::led.filter (fun q=>decide (q.1≠a)),⟨F',N',?_,r.sc,r.sc0,fun q hq=>?_,r.frOff,fun q hq=>?_,r.clOff,r.apart,r.frTup,r.clTup,r.own⟩⟩
 ·refine⟨by simp[r.R.len],r.R.nd,fun n ws en=>?_,fun q hq=>?_,r.R.kind⟩
  ·by_cases hn:n=i
   ·subst hn
    rw[List.getElem?_set_self hi]at en
    cases en
    exact⟨hl,a,ys,k,ea,List.mem_cons_of_mem _ Zz5,hv⟩
   ·rw[List.getElem?_set_ne (Ne.symm hn)]at en
    obtain⟨l,d,zs,j',g1,g2,g3⟩:=r.R.lists n ws en
    refine⟨l,d,zs,j',g1,ZeJ g2 fun g2=>List.mem_cons_of_mem _ (List.mem_filter.mpr ⟨g2,?_⟩),g3⟩
    have:d≠a:=fun e=>by
     subst e
     exact hn ((List.getElem?_inj (Zz6.mp g1).1 r.R.nd).mp (g1.trans ea.symm))
    simpa using this
  ·refine ZeJ (r.R.tups q hq) fun g2=>List.mem_cons_of_mem _ (List.mem_filter.mpr ⟨g2,?_⟩)
   have:q.1≠a:=fun e=>by
    obtain⟨zs,j',hk⟩:=r.R.kind q hq
    have g:=r.get (r.R.tups q hq)
    rw[e,hN.1,hk]at g
    have c:=congrArg Obj.cls (Option.some.inj g)
    exact absurd c (by simp)
   simpa using this
 ·refine Zz2 _ (List.mem_filter.mpr ⟨r.frIn q hq,?_⟩)
  have:q.1≠a:=fun e=>r.frOff q hq (e▸hm)
  simpa using this
 ·refine Zz2 _ (List.mem_filter.mpr ⟨r.clIn q hq,?_⟩)
  have:q.1≠a:=fun e=>r.clOff q hq (e▸hm)
  simpa using this
theorem Rep.change{Γ:Cx}{W:Wd}{ρ:Lc}{H:Hp}{fr:List (Addr×Obj)}{h h':Heap}{i:Nat}{a:Addr}{vs us:List V}{ys:List Value}{k:Nat}(r:Rep Γ W ρ H fr h)(i0:i≠0)(e:H[i]?=some vs)(ea:W.pi[i]?=some a)(sb:Heap.SameBut a h h')(ha:h'.get? a=some (Zb7 ys k))(hv:VRs W us ys)(hl:us.length≤LEN):
  Rep Γ W ρ (H.set i us) fr h':=by
 obtain⟨m,c,led,r⟩:=r
 obtain⟨_,b,xs,j,h1,h2,h3⟩:=r.R.lists i vs e
 rw[ea]at h1
 cases h1
 have h2:=r.inLed i0 ea h2
 have hN:=r.N _ h2
 have keep:∀q∈led,q.1≠a→h'.get? q.1=some q.2:=fun q hq hn=>sb.extBut _ _ hn (r.N q hq).1
 refine r.changed (k:=k) i0 e ea ⟨r.F.ns.sameBut sb (Ne.symm hN.2.1),fun b o eb=>sb.extBut b o (fun q=>?_) (r.F.keep b o eb),r.F.above⟩ (fun q hq=>?_) hv hl
 ·subst q
  rw[hN.2.2]at eb
  cases eb
 ·rcases Zz7.mp hq with e | hq
  ·subst e
   exact⟨ha,hN.2⟩
  ·obtain⟨h1,h2⟩:=List.mem_filter.mp hq
   exact⟨keep q h1 (by simpa using h2),(r.N q h1).2⟩
theorem Rep.swap{Γ:Cx}{W:Wd}{ρ:Lc}{H:Hp}{fs fs' fr:List (Addr×Obj)}{h h':Heap}(r:Rep Γ W ρ H (fs++fr) h)(ap:∀q∈fs,∀t∈fr,q.1≠t.1)(keep:∀b o,b∉fs.map (·.1)→h.get? b=some o→h'.get? b=some o)(new:∀q∈fs',h'.get? q.1=some q.2∧q.1∈fs.map (·.1)): Rep Γ W ρ H (fs'++fr) h':=by
 obtain⟨m,c,led,r⟩:=r
 have inF:∀q∈fs,q∈fs++fr:=fun q hq=>List.mem_append_left _ hq
 have nL:∀a∈fs.map (·.1),a≠Γ.L∧Γ.h₀.get? a=none:=fun a ha=>by
  obtain⟨q,hq,e⟩:=Zz11.mp ha
  exact e▸(r.N q (r.frIn q (inF q hq))).2
 have kp:∀q∈led,q.1∉fs.map (·.1)→h'.get? q.1=some q.2:=fun q hq hn=>keep _ _ hn (r.N q hq).1
 refine⟨m,c,fs'++led.filter (fun q=>decide (q.1∉fs.map (·.1))),⟨⟨?_,fun b o e=>?_,r.F.above⟩,fun q hq=>?_,⟨r.R.len,r.R.nd,fun i vs e=>?_,fun q hq=>?_,r.R.kind⟩,r.sc,r.sc0,fun q hq=>?_,fun q hq=>?_,fun q hq=>?_,r.clOff,fun q hq t ht=>?_,fun q hq t ht=>?_,r.clTup,r.own⟩⟩
 ·obtain⟨o,es,ep,h1,h2⟩:=r.F.ns
  exact⟨o,es,ep,keep _ _ (fun q=>(nL _ q).1 rfl) h1,h2⟩
 ·refine keep b o (fun q=>?_) (r.F.keep b o e)
  rw[(nL b q).2]at e
  cases e
 ·rcases Zz8.mp hq with hq | hq
  ·obtain⟨h1,h2⟩:=new q hq
   exact⟨h1,nL _ h2⟩
  ·obtain⟨h1,h2⟩:=List.mem_filter.mp hq
   exact⟨kp q h1 (by simpa using h2),(r.N q h1).2⟩
 ·obtain⟨l,a,xs,k,h1,h2,h3⟩:=r.R.lists i vs e
  refine⟨l,a,xs,k,h1,ZeJ h2 fun h2=>List.mem_append_right _ (List.mem_filter.mpr ⟨h2,?_⟩),h3⟩
  have:a∉fs.map (·.1):=fun q=>by
   obtain⟨t,ht,e⟩:=Zz11.mp q
   exact r.frOff t (inF t ht) (e▸List.mem_of_getElem? h1)
  simpa using this
 ·refine ZeJ (r.R.tups q hq) fun h2=>List.mem_append_right _ (List.mem_filter.mpr ⟨h2,?_⟩)
  have:q.1∉fs.map (·.1):=fun z=>by
   obtain⟨t,ht,e⟩:=Zz11.mp z
   exact r.frTup t (inF t ht) q hq e
  simpa using this
 ·rcases Zz8.mp hq with hq | hq
  ·exact Zz4 _ hq
  ·refine Zz3 _ (List.mem_filter.mpr ⟨r.frIn q (Zz3 _ hq),?_⟩)
   have:q.1∉fs.map (·.1):=fun z=>by
    obtain⟨t,ht,e⟩:=Zz11.mp z
    exact ap t ht q hq e
   simpa using this
 ·rcases Zz8.mp hq with hq | hq
  ·obtain⟨t,ht,e⟩:=Zz11.mp (new q hq).2
   exact e▸r.frOff t (inF t ht)
  ·exact r.frOff q (Zz3 _ hq)
 ·refine Zz3 _ (List.mem_filter.mpr ⟨r.clIn q hq,?_⟩)
  have:q.1∉fs.map (·.1):=fun z=>by
   obtain⟨t,ht,e⟩:=Zz11.mp z
   exact r.apart q hq t (inF t ht) e.symm
  simpa using this
 ·rcases Zz8.mp ht with ht | ht
  ·obtain⟨u,hu,e⟩:=Zz11.mp (new t ht).2
   exact e▸r.apart q hq u (inF u hu)
  ·exact r.apart q hq t (Zz3 _ ht)
 ·rcases Zz8.mp hq with hq | hq
  ·obtain⟨u,hu,e⟩:=Zz11.mp (new q hq).2
   exact e▸r.frTup u (inF u hu) t ht
  ·exact r.frTup q (Zz3 _ hq) t ht
theorem Rep.more{Γ:Cx}{W:Wd}{ρ:Lc}{H:Hp}{fs fr:List (Addr×Obj)}{h h':Heap}(r:Rep Γ W ρ H fr h)(up:∀b o,h.get? b=some o→h'.get? b=some o)(new:∀q∈fs,h'.get? q.1=some q.2∧h.objs.size≤q.1): Rep Γ W ρ H (fs++fr) h'∧∀q∈fs,∀t∈fr,q.1≠t.1:=by
 have r':=r.grown up
 obtain⟨m,c,led,r⟩:=r
 have lt:∀q∈W.sc::led,q.1<h.objs.size:=fun q hq=>Heap.lt_size (r.get hq)
 have ne:∀q∈fs,∀t∈W.sc::led,q.1≠t.1:=fun q hq t ht=>Nat.ne_of_gt (Nat.lt_of_lt_of_le (lt t ht) (new q hq).2)
 refine⟨⟨m,c,fs++led,⟨⟨?_,fun b o e=>up b o (r.F.keep b o e),r.F.above⟩,fun q hq=>?_,r.R.mono fun q hq=>Zgo hq fun x hx=>List.mem_append_right _ hx,r.sc,r.sc0,fun q hq=>?_,fun q hq=>?_,fun q hq=>List.mem_append_right _ (r.clIn q hq),r.clOff,fun q hq t ht=>?_,fun q hq t ht=>?_,r.clTup,r.own⟩⟩,fun q hq t ht=>ne q hq t (Zz2 _ (r.frIn t ht))⟩
 ·obtain⟨o,es,ep,h1,h2⟩:=r.F.ns
  exact⟨o,es,ep,up _ _ h1,h2⟩
 ·rcases Zz8.mp hq with hq | hq
  ·obtain⟨h1,h2⟩:=new q hq
   refine⟨h1,fun e=>?_,?_⟩
   ·exact absurd (e▸r.F.ns.lt) (Nat.not_lt.mpr h2)
   ·cases e:Γ.h₀.get? q.1 with
    | none=>rfl
    | some o=>exact absurd (Heap.lt_size (r.F.keep _ _ e)) (Nat.not_lt.mpr h2)
  ·exact⟨up _ _ (r.N q hq).1,(r.N q hq).2⟩
 ·rcases Zz8.mp hq with hq | hq
  ·exact Zz4 _ hq
  ·exact Zz3 _ (r.frIn q hq)
 ·rcases Zz8.mp hq with hq | hq
  ·intro hm
   obtain⟨o,ho⟩:=r.piIn _ hm
   exact ne q hq _ ho rfl
  ·exact r.frOff q hq
 ·rcases Zz8.mp ht with ht | ht
  ·exact(ne t ht q (Zz2 _ (r.clIn q hq))).symm
  ·exact r.apart q hq t ht
 ·rcases Zz8.mp hq with hq | hq
  ·exact ne q hq t (r.R.tups t ht)
  ·exact r.frTup q hq t ht
theorem Rep.less{Γ:Cx}{W:Wd}{ρ:Lc}{H:Hp}{fs fr:List (Addr×Obj)}{h:Heap}(r:Rep Γ W ρ H fs h)(sub:∀q∈fr,q∈fs): Rep Γ W ρ H fr h:=by
 obtain⟨m,c,led,r⟩:=r
 exact⟨m,c,led,⟨r.F,r.N,r.R,r.sc,r.sc0,fun q hq=>r.frIn q (sub q hq),fun q hq=>r.frOff q (sub q hq),r.clIn,r.clOff,fun q hq t ht=>r.apart q hq t (sub t ht),fun q hq=>r.frTup q (sub q hq),r.clTup,r.own⟩⟩
theorem Rep.frAt{Γ:Cx}{W:Wd}{ρ:Lc}{H:Hp}{fr:List (Addr×Obj)}{h:Heap}{q:Addr×Obj}(r:Rep Γ W ρ H fr h)(hq:q∈fr): h.get? q.1=some q.2:=by
 obtain⟨m,c,led,r⟩:=r
 exact(r.N q (r.frIn q hq)).1
end PM
end
section
namespace PM
open PySem PyProof.Rows PyProof
noncomputable abbrev Ex:=Lc→Hp→Option (V×Hp)
noncomputable abbrev Exs:=Lc→Hp→Option (List V×Hp)
noncomputable abbrev Ts:=Lc→Hp→Option (Bool×Hp)
noncomputable abbrev ZhL(Γ:Cx)(W:Wd)(ρ:Lc)(H:Hp)(fr:List (Addr×Obj))(s:Shared)(Q:Value→Shared→Prop)(v:V): Prop:=
 ∀(W':Wd) (h':Heap) (tk':Nat) (x:Value),W.Le W'→Rep Γ W' ρ H fr h'→VR W' v x→Q x { s with heap:=h',toks:=tk' }
noncomputable abbrev ZjG(Γ:Cx)(W:Wd)(ρ:Lc)(H:Hp)(fr:List (Addr×Obj))(s:Shared)(Q:Bool→Shared→Prop)(b:Bool): Prop:=
 ∀(W':Wd) (h':Heap) (tk':Nat),W.Le W'→Rep Γ W' ρ H fr h'→Q b { s with heap:=h',toks:=tk' }
section
variable (prog:Program) (w:World)
def J(Γ:Cx)(e:Expr)(f:Ex): Prop:=∀(W:Wd) (ρ:Lc) (H:Hp) (fr:List (Addr×Obj)) (s:Shared) (Q E:Value→Shared→Prop) (v:V) (H':Hp),
 Rep Γ W ρ H fr s.heap→f ρ H=some (v,H')→ZhL Γ W ρ H' fr s Q v→wpAny (model prog w) Γ.A (eval e Γ.env) Q E s
def Js(Γ:Cx)(es:List Expr)(f:Exs): Prop:=∀(pos:Pos) (W:Wd) (ρ:Lc) (H:Hp) (fr:List (Addr×Obj)) (s:Shared) (Q:List Value→Shared→Prop) (E:Value→Shared→Prop) (vs:List V) (H':Hp),
 Rep Γ W ρ H fr s.heap→f ρ H=some (vs,H')→(∀(W':Wd) (h':Heap) (tk':Nat) (xs:List Value),W.Le W'→Rep Γ W' ρ H' fr h'→VRs W' vs xs→Q xs { s with heap:=h',toks:=tk' })→wpAny (model prog w) Γ.A (spliced (backTo pos (starEach es Γ.env))) Q E s
def JT(Γ:Cx)(e:Expr)(f:Ts): Prop:=∀(W:Wd) (ρ:Lc) (H:Hp) (fr:List (Addr×Obj)) (s:Shared) (Q:Bool→Shared→Prop) (E:Value→Shared→Prop) (b:Bool) (H':Hp),
 Rep Γ W ρ H fr s.heap→f ρ H=some (b,H')→ZjG Γ W ρ H' fr s Q b→wpAny (model prog w) Γ.A (isTrue e Γ.env (eval e Γ.env)) Q E s
def Op2(m:Value→Value→Sem Value)(o:V→V→Hp→Option (V×Hp)): Prop:=∀(Γ:Cx) (W:Wd) (ρ:Lc) (H:Hp) (fr:List (Addr×Obj)) (s:Shared) (Q E:Value→Shared→Prop) (a b:V) (x y:Value) (v:V) (H':Hp),
 Rep Γ W ρ H fr s.heap→VR W a x→VR W b y→o a b H=some (v,H')→ZhL Γ W ρ H' fr s Q v→wpAny (model prog w) Γ.A (m x y) Q E s
def Op1(m:Value→Sem Value)(o:V→Hp→Option (V×Hp)): Prop:=∀(Γ:Cx) (W:Wd) (ρ:Lc) (H:Hp) (fr:List (Addr×Obj)) (s:Shared) (Q E:Value→Shared→Prop) (a:V) (x:Value) (v:V) (H':Hp),
 Rep Γ W ρ H fr s.heap→VR W a x→o a H=some (v,H')→ZhL Γ W ρ H' fr s Q v→wpAny (model prog w) Γ.A (m x) Q E s
def OpT(m:Value→Sem Bool)(o:V→Hp→Option Bool): Prop:=∀(Γ:Cx) (W:Wd) (ρ:Lc) (H:Hp) (fr:List (Addr×Obj)) (s:Shared) (Q:Bool→Shared→Prop) (E:Value→Shared→Prop) (a:V) (x:Value) (b:Bool),
 Rep Γ W ρ H fr s.heap→VR W a x→o a H=some b→ZjG Γ W ρ H fr s Q b→wpAny (model prog w) Γ.A (m x) Q E s
end
noncomputable def Zk(k:Int): Ex:=fun _ H=>some (.int k,H)
noncomputable def ZY: Ex:=fun _ H=>some (.none,H)
noncomputable def Zco(b:Bool): Ex:=fun _ H=>some (.bool b,H)
noncomputable def Za4(x:Str): Ex:=fun _ H=>some (.str x,H)
noncomputable def Zb(i:Nat): Ex:=fun ρ H=>(ρ i).map fun v=>(v,H)
noncomputable def Zh(o:V→V→Hp→Option (V×Hp))(f g:Ex): Ex:=fun ρ H=>(f ρ H).bind fun p=>(g ρ p.2).bind fun q=>o p.1 q.1 q.2
noncomputable def eUn(o:V→Hp→Option (V×Hp))(f:Ex): Ex:=fun ρ H=>(f ρ H).bind fun p=>o p.1 p.2
noncomputable def eIf(t:Ts)(f g:Ex): Ex:=fun ρ H=>(t ρ H).bind fun p=>if p.1 then f ρ p.2 else g ρ p.2
noncomputable def Zn: Exs:=fun _ H=>some ([],H)
noncomputable def Ze(f:Ex)(g:Exs): Exs:=fun ρ H=>(f ρ H).bind fun p=>(g ρ p.2).bind fun q=>some (p.1::q.1,q.2)
noncomputable def Zal(g:Exs): Ex:=fun ρ H=>(g ρ H).bind fun p=>if p.1.length≤LEN then some (.tup p.1,p.2)else none
noncomputable def Zbc(g:Exs): Ex:=fun ρ H=>(g ρ H).bind fun p=>if p.1.length≤LEN then some (.ref p.2.length,p.2++[p.1])else none
noncomputable def Zc0: V→Hp→Option Bool
 | .bool b,_=>some b
 | .int i,_=>some (i != 0)
 | .none,_=>some false
 | _,_=>none
noncomputable def ZK(f:Ex): Ts:=fun ρ H=>(f ρ H).bind fun p=>(Zc0 p.1 p.2).map fun b=>(b,p.2)
noncomputable def ZcE(t:Ts): Ts:=fun ρ H=>(t ρ H).map fun p=>(!p.1,p.2)
noncomputable def Zao: Ts:=fun _ H=>some (true,H)
noncomputable def Zb0: Ts:=fun _ H=>some (false,H)
noncomputable def Za5(t u:Ts): Ts:=fun ρ H=>(t ρ H).bind fun p=>if p.1 then u ρ p.2 else some (false,p.2)
noncomputable def tOr(t u:Ts): Ts:=fun ρ H=>(t ρ H).bind fun p=>if p.1 then some (true,p.2)else u ρ p.2
noncomputable def ZjQ(f:Ex): Ex:=fun ρ H=>(f ρ H).bind fun p=>(Zc0 p.1 p.2).map fun b=>(.bool (!b),p.2)
noncomputable def ZdD(f g:Ex): Ex:=fun ρ H=>(f ρ H).bind fun p=>(Zc0 p.1 p.2).bind fun b=>if b then g ρ p.2 else some p
noncomputable def eOr(f g:Ex): Ex:=fun ρ H=>(f ρ H).bind fun p=>(Zc0 p.1 p.2).bind fun b=>if b then some p else g ρ p.2
section
variable {prog:Program} {w:World} {Γ:Cx}
theorem J.int(k:Int)(n:Nat)(pos:Pos): J prog w Γ (.Constant (.int k) n pos) (Zk k):=fun W ρ H fr s Q E v H' r e post=>by
 cases e
 exact wpAny_Constant_int (post W s.heap _ _ (.refl W) r (.int k _))
theorem J.none(n:Nat)(pos:Pos): J prog w Γ (.Constant .none n pos) ZY:=fun W ρ H fr s Q E v H' r e post=>by
 cases e
 exact wpAny_Constant_none (post W s.heap s.toks _ (.refl W) r .none)
theorem J.bool(b:Bool)(n:Nat)(pos:Pos): J prog w Γ (.Constant (.bool b) n pos) (Zco b):=fun W ρ H fr s Q E v H' r e post=>by
 cases e
 exact wpAny_Constant_bool (post W s.heap s.toks _ (.refl W) r (.bool b))
theorem J.str(x:Str)(n:Nat)(pos:Pos): J prog w Γ (.Constant (.str x) n pos) (Za4 x):=fun W ρ H fr s Q E v H' r e post=>by
 cases e
 exact wpAny_Constant_str (post W s.heap _ _ (.refl W) r (.str x _))
theorem ZJ{e1 e2:Expr}{op:Operator}{pos:Pos}{f g:Ex}{o:V→V→Hp→Option (V×Hp)}(h1:J prog w Γ e1 f)(h2:J prog w Γ e2 g)(ho:Op2 prog w (binaryOp op) o): J prog w Γ (.BinOp e1 op e2 pos) (Zh o f g):=by
 intro W ρ H fr s Q E v H' r hf post
 obtain⟨p,e1,hf⟩:=Zz0.mp hf
 obtain⟨q,e2,e3⟩:=Zz0.mp hf
 refine wpAny_BinOp (h1 W ρ H fr s _ E _ _ r e1 fun W1 k1 t1 x l1 r1 x1=>?_)
 refine h2 W1 ρ _ fr _ _ E _ _ r1 e2 fun W2 k2 t2 y l2 r2 y2=>?_
 exact ho Γ W2 ρ _ fr _ Q E _ _ x y v H' r2 (x1.mono l2) y2 e3 fun W3 k3 t3 z l3 r3 z3=>post W3 k3 t3 z ((l1.trans l2).trans l3) r3 z3
theorem ZcQ{e1 e2:Expr}{op:CmpOp}{pos:Pos}{f g:Ex}{o:V→V→Hp→Option (V×Hp)}(h1:J prog w Γ e1 f)(h2:J prog w Γ e2 g)(ho:Op2 prog w (compareOp op) o)(hm:behindInMarks op e2=false:=by with_unfolding_all rfl): J prog w Γ (.Compare e1 [op] [e2] pos) (Zh o f g):=by
 intro W ρ H fr s Q E v H' r hf post
 obtain⟨p,e1,hf⟩:=Zz0.mp hf
 obtain⟨q,e2,e3⟩:=Zz0.mp hf
 refine wpAny_Compare1 (h1 W ρ H fr s _ E _ _ r e1 fun W1 k1 t1 x l1 r1 x1=>?_) hm
 refine h2 W1 ρ _ fr _ _ E _ _ r1 e2 fun W2 k2 t2 y l2 r2 y2=>?_
 exact ho Γ W2 ρ _ fr _ Q E _ _ x y v H' r2 (x1.mono l2) y2 e3 fun W3 k3 t3 z l3 r3 z3=>post W3 k3 t3 z ((l1.trans l2).trans l3) r3 z3
theorem Zb8{e1:Expr}{op:UnaryOp}{pos:Pos}{f:Ex}{o:V→Hp→Option (V×Hp)}(h1:J prog w Γ e1 f)(ho:Op1 prog w (unaryOp op) o): J prog w Γ (.UnaryOp op e1 pos) (eUn o f):=by
 intro W ρ H fr s Q E v H' r hf post
 obtain⟨p,e1,hf⟩:=Zz0.mp hf
 refine wpAny_UnaryOp (h1 W ρ H fr s _ E _ _ r e1 fun W1 k1 t1 x l1 r1 x1=>?_)
 exact ho Γ W1 ρ _ fr _ Q E _ x v H' r1 x1 hf fun W3 k3 t3 z l3 r3 z3=>post W3 k3 t3 z (l1.trans l3) r3 z3
theorem truth: OpT prog w truthy Zc0:=by
 intro Γ W ρ H fr s Q E a x b r hx ho post
 cases hx with
 | none=>cases ho;exact truthy_none (post W s.heap s.toks (.refl W) r)
 | bool c=>cases ho;exact fun _ _ _=>post W s.heap s.toks (.refl W) r
 | int i t=>cases ho;exact P.truthy_int (post W s.heap s.toks (.refl W) r)
 | str _ _=>cases ho
 | tup _ _ _=>cases ho
 | ref _=>cases ho
theorem Zzw{e1:Expr}{pos:Pos}{f:Ex}(h1:J prog w Γ e1 f): J prog w Γ (.UnaryOp .Not e1 pos) (ZjQ f):=by
 intro W ρ H fr s Q E v H' r hf post
 obtain⟨p,e1,hf⟩:=Zz0.mp hf
 obtain⟨b,e2,e3⟩:=Zz1.mp hf
 cases e3
 refine wpAny_UnaryOp (h1 W ρ H fr s _ E _ _ r e1 fun W1 k1 t1 x l1 r1 x1=>?_)
 exact not_of (truth Γ W1 ρ _ fr _ _ E _ x b r1 x1 e2 fun W2 k2 t2 l2 r2=>post W2 k2 t2 _ (l1.trans l2) r2 (.bool _))
theorem ZhF{e1 e2:Expr}{pos:Pos}{f g:Ex}(h1:J prog w Γ e1 f)(h2:J prog w Γ e2 g): J prog w Γ (.BoolOp .And [e1,e2] pos) (ZdD f g):=by
 intro W ρ H fr s Q E v H' r hf post
 obtain⟨p,e1,hf⟩:=Zz0.mp hf
 obtain⟨b,e2,e3⟩:=Zz0.mp hf
 refine wpAny_And2 (h1 W ρ H fr s _ E _ _ r e1 fun W1 k1 t1 x l1 r1 x1=>?_)
 refine truth Γ W1 ρ _ fr _ _ E _ x b r1 x1 e2 fun W2 k2 t2 l2 r2=>?_
 cases b with
 | true=>exact h2 W2 ρ _ fr _ Q E v H' r2 e3 fun W3 k3 t3 z l3 r3 z3=>post W3 k3 t3 z ((l1.trans l2).trans l3) r3 z3
 | false=>
  cases e3
  exact post W2 k2 t2 x (l1.trans l2) r2 (x1.mono l2)
theorem ZzX{e1 e2:Expr}{pos:Pos}{f g:Ex}(h1:J prog w Γ e1 f)(h2:J prog w Γ e2 g): J prog w Γ (.BoolOp .Or [e1,e2] pos) (eOr f g):=by
 intro W ρ H fr s Q E v H' r hf post
 obtain⟨p,e1,hf⟩:=Zz0.mp hf
 obtain⟨b,e2,e3⟩:=Zz0.mp hf
 refine wpAny_Or2 (h1 W ρ H fr s _ E _ _ r e1 fun W1 k1 t1 x l1 r1 x1=>?_)
 refine truth Γ W1 ρ _ fr _ _ E _ x b r1 x1 e2 fun W2 k2 t2 l2 r2=>?_
 cases b with
 | false=>exact h2 W2 ρ _ fr _ Q E v H' r2 e3 fun W3 k3 t3 z l3 r3 z3=>post W3 k3 t3 z ((l1.trans l2).trans l3) r3 z3
 | true=>
  cases e3
  exact post W2 k2 t2 x (l1.trans l2) r2 (x1.mono l2)
theorem ZeD{t e1 e2:Expr}{pos:Pos}{u:Ts}{f g:Ex}(ht:JT prog w Γ t u)(h1:J prog w Γ e1 f)(h2:J prog w Γ e2 g): J prog w Γ (.IfExp t e1 e2 pos) (eIf u f g):=by
 intro W ρ H fr s Q E v H' r hf post
 obtain⟨p,e1,hf⟩:=Zz0.mp hf
 refine wpAny_IfExp (ht W ρ H fr s _ E _ _ r e1 fun W1 k1 t1 l1 r1=>?_)
 obtain⟨b,H1⟩:=p
 cases b with
 | true=>exact h1 W1 ρ _ fr _ Q E v H' r1 hf fun W3 k3 t3 z l3 r3 z3=>post W3 k3 t3 z (l1.trans l3) r3 z3
 | false=>exact h2 W1 ρ _ fr _ Q E v H' r1 hf fun W3 k3 t3 z l3 r3 z3=>post W3 k3 t3 z (l1.trans l3) r3 z3
theorem Zp: Js prog w Γ [] Zn:=fun pos W ρ H fr s Q E vs H' r hf post=>by
 cases hf
 exact wpAny_items_nil (post W s.heap s.toks [] (.refl W) r .nil)
theorem Zxl{e:Expr}{es:List Expr}{f:Ex}{g:Exs}(h1:J prog w Γ e f)(h2:Js prog w Γ es g)(he:starEach (e::es) Γ.env=(false,eval e Γ.env)::starEach es Γ.env:=by rfl): Js prog w Γ (e::es) (Ze f g):=by
 intro pos W ρ H fr s Q E vs H' r hf post
 obtain⟨p,e1,hf⟩:=Zz0.mp hf
 obtain⟨q,e2,e3⟩:=Zz0.mp hf
 cases e3
 refine wpAny_items_cons (h1 W ρ H fr s _ E _ _ r e1 fun W1 k1 t1 x l1 r1 x1=>?_) he
 exact h2 pos W1 ρ _ fr _ _ E _ _ r1 e2 fun W2 k2 t2 ys l2 r2 y2=>post W2 k2 t2 _ (l1.trans l2) r2 (.cons (x1.mono l2) y2)
theorem J.tup{es:List Expr}{k:Nat}{pos:Pos}{g:Exs}(h:Js prog w Γ es g): J prog w Γ (.Tuple es k pos) (Zal g):=by
 intro W ρ H fr s Q E v H' r hf post
 obtain⟨p,e1,hf⟩:=Zz0.mp hf
 by_cases hl:p.1.length≤LEN
 ·rw[if_pos hl]at hf
  cases hf
  refine wpAny_Tuple (h pos W ρ H fr s _ E _ _ r e1 fun W1 k1 t1 xs l1 r1 x1=>⟨Zdc (by rw[x1.length];exact hl),?_⟩)
  obtain⟨W2,l2,r2,v2⟩:=r1.tuple (k:=0) x1 hl
  exact post W2 _ _ _ (l1.trans l2) r2 v2
 ·rw[if_neg hl]at hf
  cases hf
theorem J.list{es:List Expr}{pos:Pos}{g:Exs}(h:Js prog w Γ es g): J prog w Γ (.List es pos) (Zbc g):=by
 intro W ρ H fr s Q E v H' r hf post
 obtain⟨p,e1,hf⟩:=Zz0.mp hf
 by_cases hl:p.1.length≤LEN
 ·rw[if_pos hl]at hf
  cases hf
  refine wpAny_List (h pos W ρ H fr s _ E _ _ r e1 fun W1 k1 t1 xs l1 r1 x1=>⟨Zdc (by rw[x1.length];exact hl),?_⟩)
  obtain⟨W2,l2,r2,v2⟩:=r1.list (k:=0) x1 hl
  exact post W2 _ _ _ (l1.trans l2) r2 v2
 ·rw[if_neg hl]at hf
  cases hf
theorem Zc1{e:Expr}{pos:Pos}{t:Ts}(h:JT prog w Γ e t): JT prog w Γ (.UnaryOp .Not e pos) (ZcE t):=by
 intro W ρ H fr s Q E b H' r hf post
 obtain⟨p,e1,e2⟩:=Zz1.mp hf
 cases e2
 exact isTrue_not (h W ρ H fr s _ E _ _ r e1 post)
def JA(prog:Program)(w:World)(Γ:Cx)(op:BoolOp)(es:List Expr)(f:Ts): Prop:=∀(W:Wd) (ρ:Lc) (H:Hp) (fr:List (Addr×Obj)) (s:Shared) (Q:Bool→Shared→Prop) (E:Value→Shared→Prop) (b:Bool) (H':Hp),
 Rep Γ W ρ H fr s.heap→f ρ H=some (b,H')→ZjG Γ W ρ H' fr s Q b→wpAny (model prog w) Γ.A (allTrue op es Γ.env) Q E s
theorem ZcY: JA prog w Γ .And [] Zao:=fun W ρ H fr s Q E b H' r hf post=>by
 cases hf
 exact wpAny_allTrue_And_nil (post W s.heap s.toks (.refl W) r)
theorem Zct: JA prog w Γ .Or [] Zb0:=fun W ρ H fr s Q E b H' r hf post=>by
 cases hf
 exact wpAny_allTrue_Or_nil (post W s.heap s.toks (.refl W) r)
theorem Zbf{e:Expr}{es:List Expr}{t u:Ts}(h1:JT prog w Γ e t)(h2:JA prog w Γ .And es u): JA prog w Γ .And (e::es) (Za5 t u):=by
 intro W ρ H fr s Q E b H' r hf post
 obtain⟨p,e1,hf⟩:=Zz0.mp hf
 refine wpAny_allTrue_And_cons (h1 W ρ H fr s _ E _ _ r e1 fun W1 k1 t1 l1 r1=>?_)
 obtain⟨c,H1⟩:=p
 cases c with
 | true=>exact h2 W1 ρ _ fr _ Q E b H' r1 hf fun W3 k3 t3 l3 r3=>post W3 k3 t3 (l1.trans l3) r3
 | false=>
  cases hf
  exact post W1 k1 t1 l1 r1
theorem ZaW{e:Expr}{es:List Expr}{t u:Ts}(h1:JT prog w Γ e t)(h2:JA prog w Γ .Or es u): JA prog w Γ .Or (e::es) (tOr t u):=by
 intro W ρ H fr s Q E b H' r hf post
 obtain⟨p,e1,hf⟩:=Zz0.mp hf
 refine wpAny_allTrue_Or_cons (h1 W ρ H fr s _ E _ _ r e1 fun W1 k1 t1 l1 r1=>?_)
 obtain⟨c,H1⟩:=p
 cases c with
 | false=>exact h2 W1 ρ _ fr _ Q E b H' r1 hf fun W3 k3 t3 l3 r3=>post W3 k3 t3 (l1.trans l3) r3
 | true=>
  cases hf
  exact post W1 k1 t1 l1 r1
theorem Zbg{op:BoolOp}{es:List Expr}{pos:Pos}{t:Ts}(h:JA prog w Γ op es t): JT prog w Γ (.BoolOp op es pos) t:=fun W ρ H fr s Q E b H' r hf post=>wpAny_isTrue_BoolOp (h W ρ H fr s Q E b H' r hf post)
theorem Zby{e:Expr}{f:Ex}(h:J prog w Γ e f)(he:isTrue e Γ.env (eval e Γ.env)=(do let v ←eval e Γ.env;standAt e.pos;holding [v] (truthy v)):=by rfl): JT prog w Γ e (ZK f):=by
 intro W ρ H fr s Q E b H' r hf post
 obtain⟨p,e1,hf⟩:=Zz0.mp hf
 obtain⟨c,e2,e3⟩:=Zz1.mp hf
 cases e3
 refine isTrue_plain (h W ρ H fr s _ E _ _ r e1 fun W1 k1 t1 x l1 r1 x1=>?_) he
 exact truth Γ W1 ρ _ fr _ _ E _ x b r1 x1 e2 fun W2 k2 t2 l2 r2=>post W2 k2 t2 (l1.trans l2) r2
theorem ZQ{e1 e2:Expr}{op:CmpOp}{pos:Pos}{f g:Ex}{o:V→V→Hp→Option (V×Hp)}(h1:J prog w Γ e1 f)(h2:J prog w Γ e2 g)(ho:Op2 prog w (compareOp op) o)(hm:behindInMarks op e2=false:=by with_unfolding_all rfl): JT prog w Γ (.Compare e1 [op] [e2] pos) (ZK (Zh o f g)):=by
 intro W ρ H fr s Q E b H' r hf post
 obtain⟨pp,e0,hf0⟩:=Zz0.mp hf
 obtain⟨c,e4,e5⟩:=Zz1.mp hf0
 cases e5
 obtain⟨p,e1,hf⟩:=Zz0.mp e0
 obtain⟨q,e2,e3⟩:=Zz0.mp hf
 refine wpAny_isTrue_Compare1 (h1 W ρ H fr s _ E _ _ r e1 fun W1 k1 t1 x l1 r1 x1=>?_) hm
 refine h2 W1 ρ _ fr _ _ E _ _ r1 e2 fun W2 k2 t2 y l2 r2 y2=>?_
 refine ho Γ W2 ρ _ fr _ _ E _ _ x y _ _ r2 (x1.mono l2) y2 e3 fun W3 k3 t3 z l3 r3 z3=>?_
 exact truth Γ W3 ρ _ fr _ _ E _ z b r3 z3 e4 fun W4 k4 t4 l4 r4=>post W4 k4 t4 (((l1.trans l2).trans l3).trans l4) r4
end
end PM
end
section
namespace PM
open PySem PyProof.Rows PyProof
noncomputable def mulOk(a b:Int): Bool:=!(decide (Builtin.Int.intBits a>shortFactorBits) && decide (Builtin.Int.intBits b>shortFactorBits) && Builtin.Int.intTooBig (Builtin.Int.intBits a+Builtin.Int.intBits b))
theorem Zwz{a b:Int}(h:mulOk a b=true): IntMulOk a b:=by
 unfold mulOk at h
 unfold IntMulOk
 intro c
 rw[c]at h
 cases h
noncomputable def Zbe: V→V→Hp→Option (V×Hp)
 | .int a,.int b,H=>some (.int (a-b),H)
 | _,_,_=>none
noncomputable def oDiv: V→V→Hp→Option (V×Hp)
 | .int a,.int b,H=>if b≠0∧Builtin.divisionGoesByPylong a b=false then some (.int (a.fdiv b),H)else none
 | _,_,_=>none
noncomputable def oMod: V→V→Hp→Option (V×Hp)
 | .int a,.int b,H=>if b≠0 then some (.int (a.fmod b),H)else none
 | _,_,_=>none
noncomputable def oPow: V→V→Hp→Option (V×Hp)
 | .int a,.int b,H=>if 0≤b∧(Builtin.Int.intBits a:Int)*b≤2 ^ 27 then some (.int (a ^ b.toNat),H)else none
 | _,_,_=>none
noncomputable def ZbJ: V→Hp→Option (V×Hp)
 | .int a,H=>some (.int (-a),H)
 | _,_=>none
noncomputable def ZjR(p:Int→Int→Bool): V→V→Hp→Option (V×Hp)
 | .int a,.int b,H=>some (.bool (p a b),H)
 | _,_,_=>none
noncomputable def oLt:=ZjR fun a b=>decide (a<b)
noncomputable def oLe:=ZjR fun a b=>decide (a≤b)
noncomputable def oGt:=ZjR fun a b=>decide (b<a)
section
variable {prog:Program} {w:World}
theorem Zbk: Op2 prog w (binaryOp .Sub) Zbe:=by
 intro Γ W ρ H fr s Q E a b x y v H' r hx hy ho post
 cases hx <;> first | (cases ho;done) | skip
 cases hy <;> first | (cases ho;done) | skip
 cases ho
 exact PySem.P.sub_int (post W s.heap _ _ (.refl W) r (.int _ _))
theorem Za7: Op2 prog w (binaryOp .Mod) oMod:=by
 intro Γ W ρ H fr s Q E a b x y v H' r hx hy ho post
 cases hx <;> first | (cases ho;done) | skip
 cases hy <;> first | (cases ho;done) | skip
 rename_i i t j u
 simp only[oMod]at ho
 by_cases hb:j≠0
 ·rw[if_pos hb]at ho
  cases ho
  exact mod_int' hb (post W s.heap _ _ (.refl W) r (.int _ _))
 ·rw[if_neg hb]at ho
  cases ho
theorem Zcx: Op2 prog w (binaryOp .FloorDiv) oDiv:=by
 intro Γ W ρ H fr s Q E a b x y v H' r hx hy ho post
 cases hx <;> first | (cases ho;done) | skip
 cases hy <;> first | (cases ho;done) | skip
 rename_i i t j u
 simp only[oDiv]at ho
 by_cases hb:j≠0∧Builtin.divisionGoesByPylong i j=false
 ·rw[if_pos hb]at ho
  cases ho
  exact floordiv_int hb.1 (post W s.heap _ _ (.refl W) r (.int _ _)) (.inl hb.2)
 ·rw[if_neg hb]at ho
  cases ho
theorem ZoK: Op2 prog w (binaryOp .Pow) oPow:=by
 intro Γ W ρ H fr s Q E a b x y v H' r hx hy ho post
 cases hx <;> first | (cases ho;done) | skip
 cases hy <;> first | (cases ho;done) | skip
 rename_i i t j u
 simp only[oPow]at ho
 by_cases hb:0≤j∧(Builtin.Int.intBits i:Int)*j≤2 ^ 27
 ·rw[if_pos hb]at ho
  cases ho
  exact pow_int hb.1 hb.2 (post W s.heap _ _ (.refl W) r (.int _ _))
 ·rw[if_neg hb]at ho
  cases ho
theorem Zb1: Op1 prog w (unaryOp .USub) ZbJ:=by
 intro Γ W ρ H fr s Q E a x v H' r hx ho post
 cases hx <;> first | (cases ho;done) | skip
 cases ho
 exact PySem.P.neg_int (post W s.heap _ _ (.refl W) r (.int _ _))
theorem ZcR: Op2 prog w (compareOp .Lt) oLt:=by
 intro Γ W ρ H fr s Q E a b x y v H' r hx hy ho post
 cases hx <;> first | (cases ho;done) | skip
 cases hy <;> first | (cases ho;done) | skip
 cases ho
 exact PySem.P.lt_int (post W s.heap s.toks _ (.refl W) r (.bool _))
theorem Zpb: Op2 prog w (compareOp .LtE) oLe:=by
 intro Γ W ρ H fr s Q E a b x y v H' r hx hy ho post
 cases hx <;> first | (cases ho;done) | skip
 cases hy <;> first | (cases ho;done) | skip
 cases ho
 exact PySem.P.le_int (post W s.heap s.toks _ (.refl W) r (.bool _))
theorem Zgp: Op2 prog w (compareOp .Gt) oGt:=by
 intro Γ W ρ H fr s Q E a b x y v H' r hx hy ho post
 cases hx <;> first | (cases ho;done) | skip
 cases hy <;> first | (cases ho;done) | skip
 cases ho
 exact PySem.P.gt_int (post W s.heap s.toks _ (.refl W) r (.bool _))
end
end PM
end
section
namespace PM
open PySem PyProof.Rows PyProof
noncomputable def Zgu(f:V→Option PyData): List V→Option (List PyData)
 | []=>some []
 | v::vs=>(f v).bind fun d=>(Zgu f vs).bind fun ds=>some (d::ds)
noncomputable def toD(H:Hp): Nat→V→Option PyData
 | _,.none=>some .none
 | _,.bool b=>some (.bool b)
 | _,.int i=>some (.int i)
 | _,.str x=>some (.str x)
 | n+1,.tup vs=>(Zgu (toD H n) vs).map .tuple
 | n+1,.ref a=>H[a]?.bind fun vs=>(Zgu (toD H n) vs).map .list
 | 0,.tup _=>none
 | 0,.ref _=>none
theorem Zmj{W:Wd}{h:Heap}{f:V→Option PyData}(ih:∀v x d,VR W v x→f v=some d→∃as,Reads h x d as): ∀{vs:List V} {xs:List Value} {ds:List PyData},VRs W vs xs→Zgu f vs=some ds→∃as,ReadsAll h xs ds as
 | _,_,_,.nil,e=>by
  cases e
  exact⟨_,.nil⟩
 | _,_,_,.cons a r,e=>by
  obtain⟨d,e1,e⟩:=Zz0.mp e
  obtain⟨ds,e2,e3⟩:=Zz0.mp e
  cases e3
  obtain⟨as,h1⟩:=ih _ _ _ a e1
  obtain⟨bs,h2⟩:=Zmj ih r e2
  exact⟨_,.cons h1 h2⟩
theorem ZfP{Γ:Cx}{W:Wd}{ρ:Lc}{H:Hp}{fr:List (Addr×Obj)}{h:Heap}(r:Rep Γ W ρ H fr h): ∀(n:Nat) (v:V) (x:Value) (d:PyData),VR W v x→toD H n v=some d→∃as,Reads h x d as:=by
 intro n
 induction n with
 | zero=>
  intro v x d hv e
  cases hv with
  | none=>cases e;exact⟨_,.none⟩
  | bool b=>cases e;exact⟨_,.bool b⟩
  | int i t=>cases e;exact⟨_,.int i t⟩
  | str y t=>cases e;exact⟨_,.str y t⟩
  | tup _ _ _=>cases e
  | ref _=>cases e
 | succ n ih=>
  intro v x d hv e
  cases hv with
  | none=>cases e;exact⟨_,.none⟩
  | bool b=>cases e;exact⟨_,.bool b⟩
  | int i t=>cases e;exact⟨_,.int i t⟩
  | str y t=>cases e;exact⟨_,.str y t⟩
  | @tup vs a xs k hm hl hs=>
   obtain⟨ds,e1,e2⟩:=Zz1.mp e
   subst e2
   obtain⟨as,h1⟩:=Zmj ih hs e1
   exact⟨_,.tuple (r.tupAt hm) rfl rfl (by simpa using h1)⟩
  | @ref i a ea=>
   obtain⟨vs,e0,e⟩:=Zz0.mp e
   obtain⟨ds,e1,e2⟩:=Zz1.mp e
   subst e2
   obtain⟨hl,xs,k,hg,hs⟩:=r.at e0 ea
   obtain⟨as,h1⟩:=Zmj ih hs e1
   exact⟨_,.list hg rfl rfl (by simpa using h1)⟩
noncomputable def ZbS: Nat:=8
noncomputable def ZjS(a b:V)(H:Hp): Option Bool:=(toD H ZbS a).bind fun d=>(toD H ZbS b).bind fun e=>if SeqAt.shaped d=true∧SeqAt.shaped e=true then some (PyData.eqv d e)else none
noncomputable def oEq(a b:V)(H:Hp): Option (V×Hp):=(ZjS a b H).map fun c=>(.bool c,H)
noncomputable def oNe(a b:V)(H:Hp): Option (V×Hp):=(ZjS a b H).map fun c=>(.bool (!c),H)
noncomputable def oIs: V→V→Hp→Option (V×Hp)
 | .none,.none,H=>some (.bool true,H)
 | .bool _,.none,H=>some (.bool false,H)
 | .int _,.none,H=>some (.bool false,H)
 | .str _,.none,H=>some (.bool false,H)
 | .tup _,.none,H=>some (.bool false,H)
 | .ref _,.none,H=>some (.bool false,H)
 | _,_,_=>none
noncomputable def ZbN(a b:V)(H:Hp): Option (V×Hp):=(oIs a b H).bind fun p=>match p.1 with | .bool c=>some (.bool (!c),p.2) | _=>none
section
variable {prog:Program} {w:World}
theorem Zap: Op2 prog w (compareOp .Eq) oEq:=by
 intro Γ W ρ H fr s Q E a b x y v H' r hx hy ho post
 obtain⟨c,e1,e2⟩:=Zz1.mp ho
 cases e2
 obtain⟨d,h1,e1⟩:=Zz0.mp e1
 obtain⟨e,h2,e1⟩:=Zz0.mp e1
 by_cases hs:SeqAt.shaped d=true∧SeqAt.shaped e=true
 ·rw[if_pos hs]at e1
  cases e1
  obtain⟨as,R1⟩:=ZfP r ZbS a x d hx h1
  obtain⟨bs,R2⟩:=ZfP r ZbS b y e hy h2
  exact eq_dataH R1 R2 hs.1 hs.2 (by have:=Γ.hu;omega) (post W s.heap s.toks _ (.refl W) r (.bool _))
 ·rw[if_neg hs]at e1
  cases e1
theorem ZbQ: Op2 prog w (compareOp .NotEq) oNe:=by
 intro Γ W ρ H fr s Q E a b x y v H' r hx hy ho post
 obtain⟨c,e1,e2⟩:=Zz1.mp ho
 cases e2
 obtain⟨d,h1,e1⟩:=Zz0.mp e1
 obtain⟨e,h2,e1⟩:=Zz0.mp e1
 by_cases hs:SeqAt.shaped d=true∧SeqAt.shaped e=true
 ·rw[if_pos hs]at e1
  cases e1
  obtain⟨as,R1⟩:=ZfP r ZbS a x d hx h1
  obtain⟨bs,R2⟩:=ZfP r ZbS b y e hy h2
  exact ne_dataH R1 R2 hs.1 hs.2 (by have:=Γ.hu;omega) (post W s.heap s.toks _ (.refl W) r (.bool _))
 ·rw[if_neg hs]at e1
  cases e1
theorem ZaX: Op2 prog w (compareOp .Is) oIs:=by
 intro Γ W ρ H fr s Q E a b x y v H' r hx hy ho post
 cases hy <;> first | (cases hx <;> cases ho;done) | skip
 refine PySem.is_none ?_
 cases hx <;> (cases ho;exact post W s.heap s.toks _ (.refl W) r (.bool _))
theorem Zce: Op2 prog w (compareOp .IsNot) ZbN:=by
 intro Γ W ρ H fr s Q E a b x y v H' r hx hy ho post
 cases hy <;> first | (cases hx <;> cases ho;done) | skip
 refine PySem.isNot_none ?_
 cases hx <;> (cases ho;exact post W s.heap s.toks _ (.refl W) r (.bool _))
end
end PM
end
section
namespace PM
open PySem PyProof.Rows PyProof
noncomputable def Zr: V→V→Hp→Option (V×Hp)
 | .ref a,.int k,H=>H[a]?.bind fun vs=>(seqIndex? k vs.length).bind fun j=>vs[j]?.map fun v=>(v,H)
 | .tup vs,.int k,H=>(seqIndex? k vs.length).bind fun j=>vs[j]?.map fun v=>(v,H)
 | _,_,_=>none
theorem Zqb{k:Int}{n j:Nat}(h:seqIndex? k n=some j): j<n∧(k:Int)<n∧-(n:Int)≤k∧(0≤k→k.toNat=j)∧(k<0→(k+n).toNat=j):=by
 unfold seqIndex? at h
 by_cases c:k<0
 ·simp only[c,if_true]at h
  split at h
  ·rename_i d
   simp at d h
   omega
  ·cases h
 ·simp only[c,if_false]at h
  split at h
  ·rename_i d
   simp at d h
   omega
  ·cases h
section
variable {prog:Program} {w:World} {Γ:Cx}
theorem Zw{e1 e2:Expr}{pos:Pos}{f g:Ex}(h1:J prog w Γ e1 f)(h2:J prog w Γ e2 g)(hs:∀a k u,subscripted e2 false (.ref a) (.int k u)=operate [.ref a,.int k u] (getItem (.ref a) (.int k u)):=by intros;with_unfolding_all rfl): J prog w Γ (.Subscript e1 e2 pos) (Zh Zr f g):=by
 intro W ρ H fr s Q E v H' r hf post
 obtain⟨p,e1,hf⟩:=Zz0.mp hf
 obtain⟨q,e2,e3⟩:=Zz0.mp hf
 refine Subscript_ (h1 W ρ H fr s _ E _ _ r e1 fun W1 k1 t1 x l1 r1 x1=>?_)
 refine h2 W1 ρ _ fr _ _ E _ _ r1 e2 fun W2 k2 t2 y l2 r2 y2=>?_
 have x2:=x1.mono l2
 obtain⟨v1,H1⟩:=p
 obtain⟨v2,H2⟩:=q
 simp only at e3 r2 x2 y2
 cases y2 <;> first | (cases x2 <;> cases e3;done) | skip
 rename_i k u
 cases x2 <;> first | (cases e3;done) | skip
 ·rename_i vs a xs kk hm hl hv
  obtain⟨j,hj,e4⟩:=Zz0.mp e3
  obtain⟨z,hz,e5⟩:=Zz1.mp e4
  cases e5
  obtain⟨z',hz',rz⟩:=hv.at hz
  have hx:xs.length=vs.length:=hv.length
  have hb:=Zqb hj
  rw[Zbr]at hl
  have it:IsTup k2 a xs.toArray:=⟨_,r2.tupAt hm,rfl,kk,rfl⟩
  exact item_tupleT it (by omega) (by omega) (by rw[hx];exact hj) hz' (post W2 k2 t2 z' (l1.trans l2) r2 rz) (hs _ _ _)
 ·rename_i i a ea
  obtain⟨vs,hvs,e3⟩:=Zz0.mp e3
  obtain⟨j,hj,e4⟩:=Zz0.mp e3
  obtain⟨z,hz,e5⟩:=Zz1.mp e4
  cases e5
  obtain⟨hl,xs,kk,hg,hv⟩:=r2.at hvs ea
  obtain⟨z',hz',rz⟩:=hv.at hz
  have hx:xs.length=vs.length:=hv.length
  have hb:=Zqb hj
  rw[Zbr]at hl
  have isl:k2.IsList a xs.toArray:=⟨_,hg,rfl,kk,rfl⟩
  refine tail_any (s:={ s with heap:=k2,toks:=t2 }) isl.typeIs slot_list_getitem.lookup ?_ (hs _ _ _)
  by_cases hk:0≤k
  ·exact wpAny_getItem_list isl hk (by omega) (by rw[hb.2.2.2.1 hk];simpa using hz') (post W2 k2 t2 z' (l1.trans l2) r2 rz)
  ·refine wpAny_getItem_list_neg isl (by omega) (by simp;omega) (by omega) ?_ (post W2 k2 t2 z' (l1.trans l2) r2 rz)
   have:=hb.2.2.2.2 (by omega)
   rw[←hx]at this
   simpa [this]using hz'
end
noncomputable def ZbI{α:Type}(vs:List α)(lo hi:Option Int): List α:=(sliceRange (sliceBounds lo hi none vs.length).1 (sliceBounds lo hi none vs.length).2.1 (sliceBounds lo hi none vs.length).2.2).filterMap fun i=>vs[i]?
theorem VRs.pick{W:Wd}{vs:List V}{xs:List Value}(h:VRs W vs xs)(l:List Nat): VRs W (l.filterMap fun i=>vs[i]?) (l.filterMap fun i=>xs[i]?):=by
 induction l with
 | nil=>exact .nil
 | cons i l ih=>
  simp only[List.filterMap_cons]
  have hl:=h.length
  cases e:vs[i]? with
  | none=>
   have:xs[i]?=none:=by rw[List.getElem?_eq_none_iff]at e ⊢;omega
   rw[this]
   exact ih
  | some v=>
   obtain⟨x,hx,hr⟩:=h.at e
   rw[hx]
   exact .cons hr ih
theorem Zrb{α:Type}(vs:List α)(lo hi:Option Int): (ZbI vs lo hi).length≤vs.length:=by
 unfold ZbI
 refine Nat.le_trans (List.length_filterMap_le _ _) ?_
 refine sliceRange_length_le _ _ _ _ (fun _=>?_) fun c=>?_
 ·unfold sliceBounds
  cases lo <;> cases hi <;> simp <;> omega
 ·exact absurd (by unfold sliceBounds;simp) c
theorem ZwA{α:Type}(vs:List α)(a:Nat): ∀m:Nat,a+m≤vs.length→((List.range m).map fun k=>a+k).filterMap (fun i=>vs[i]?)=(vs.drop a).take m:=by
 intro m
 induction m with
 | zero=>intro _;simp
 | succ m ih=>
  intro h
  rw[List.range_succ,List.map_append,List.filterMap_append,ih (by omega),List.take_add_one]
  congr 1
  simp only[List.map_cons,List.map_nil,List.filterMap_cons,List.filterMap_nil,List.getElem?_drop]
  cases e:vs[a+m]? with
  | none=>rw[List.getElem?_eq_none_iff]at e;omega
  | some v=>rfl
theorem Zi4{α:Type}(vs:List α)(lo hi:Option Int){a b:Nat}(ha:(sliceBounds lo hi none vs.length).1=(a:Int))(hb:(sliceBounds lo hi none vs.length).2.1=(b:Int))(h:b≤vs.length): ZbI vs lo hi=(vs.drop a).take (b-a):=by
 have hc:(sliceBounds lo hi none vs.length).2.2=1:=by unfold sliceBounds;rfl
 unfold ZbI
 rw[ha,hb,hc]
 have e:sliceRange (a:Int) (b:Int) 1=(List.range (b-a)).map fun k=>a+k:=by
  unfold sliceRange
  simp only[show(1:Int)>0 from by decide,if_true]
  by_cases c:(a:Int)<b
  ·rw[if_pos c]
   have:((b:Int)-a+1-1) / 1=((b-a:Nat):Int):=by omega
   rw[this]
   simp only[Int.toNat_natCast]
   refine List.map_congr_left fun k _=>?_
   omega
  ·rw[if_neg c]
   have:b-a=0:=by omega
   rw[this]
   rfl
 rw[e]
 by_cases c:a≤b
 ·exact ZwA vs a (b-a) (by omega)
 ·have:b-a=0:=by omega
  rw[this]
  simp
theorem ZqQ{α:Type}(vs:List α){k:Int}{a:Nat}(e:k=(a:Int)): ZbI vs (some k) none=vs.drop a:=by
 by_cases h:a≤vs.length
 ·rw[Zi4 vs (some k) none (a:=a) (b:=vs.length) (by unfold sliceBounds;simp;omega) (by unfold sliceBounds;simp) (Zz10 _)]
  rw[List.take_of_length_le (by simp)]
 ·rw[Zi4 vs (some k) none (a:=vs.length) (b:=vs.length) (by unfold sliceBounds;simp;omega) (by unfold sliceBounds;simp) (Zz10 _)]
  simp
  omega
theorem Zxm{α:Type}(vs:List α){k:Int}{a:Nat}(e:k=(a:Int)): ZbI vs none (some k)=vs.take a:=by
 by_cases h:a≤vs.length
 ·rw[Zi4 vs none (some k) (a:=0) (b:=a) (by unfold sliceBounds;simp) (by unfold sliceBounds;simp;omega) h]
  simp
 ·rw[Zi4 vs none (some k) (a:=0) (b:=vs.length) (by unfold sliceBounds;simp) (by unfold sliceBounds;simp;omega) (Zz10 _)]
  rw[List.drop_zero,Nat.sub_zero,List.take_of_length_le (Zz10 _),List.take_of_length_le (by omega)]
noncomputable def ZhG: Option V→Option (Option Int)
 | none=>some none
 | some (.int k)=>some (some k)
 | _=>none
noncomputable abbrev Pt:=Lc→Hp→Option (Option V×Hp)
noncomputable def Zec: Pt:=fun _ H=>some (none,H)
noncomputable def Zed(f:Ex): Pt:=fun ρ H=>(f ρ H).map fun p=>(some p.1,p.2)
noncomputable def Zdv(f:Ex)(lo hi:Pt): Ex:=fun ρ H=>(f ρ H).bind fun p=>(lo ρ p.2).bind fun q=>(hi ρ q.2).bind fun u=>(ZhG q.1).bind fun a=>(ZhG u.1).bind fun b=>match p.1 with
 | .ref i=>u.2[i]?.bind fun vs=>some (.ref u.2.length,u.2++[ZbI vs a b])
 | _=>none
inductive VP(W:Wd): Option V→Value→Prop where
 | none:VP W none .none
 | some {v:V} {x:Value}:VR W v x→VP W (some v) x
theorem VP.mono{W W':Wd}{v:Option V}{x:Value}(l:W.Le W')(h:VP W v x): VP W' v x:=by
 cases h with
 | none=>exact .none
 | some h=>exact .some (h.mono l)
theorem VP.part{W:Wd}{v:Option V}{x:Value}{k:Option Int}(h:VP W v x)(e:ZhG v=Option.some k): IsPart x k:=by
 cases h with
 | none=>cases e;exact .none
 | some h=>cases h <;> cases e;exact .int _ _
def JP(prog:Program)(w:World)(Γ:Cx)(e:Option Expr)(f:Pt): Prop:=∀(W:Wd) (ρ:Lc) (H:Hp) (fr:List (Addr×Obj)) (s:Shared) (Q E:Value→Shared→Prop) (v:Option V) (H':Hp),
 Rep Γ W ρ H fr s.heap→f ρ H=some (v,H')→(∀(W':Wd) (h':Heap) (tk':Nat) (x:Value),W.Le W'→Rep Γ W' ρ H' fr h'→VP W' v x→Q x { s with heap:=h',toks:=tk' })→wpAny (model prog w) Γ.A (evalPart e Γ.env) Q E s
section
variable {prog:Program} {w:World} {Γ:Cx}
theorem JP.none: JP prog w Γ none Zec:=fun W ρ H fr s Q E v H' r hf post=>by
 cases hf
 exact wpAny_evalPart_none (post W s.heap s.toks _ (.refl W) r .none)
theorem JP.some{e:Expr}{f:Ex}(h:J prog w Γ e f): JP prog w Γ (some e) (Zed f):=fun W ρ H fr s Q E v H' r hf post=>by
 obtain⟨p,e1,e2⟩:=Zz1.mp hf
 cases e2
 exact wpAny_evalPart_some (h W ρ H fr s _ E _ _ r e1 fun W1 k1 t1 x l1 r1 x1=>post W1 k1 t1 x l1 r1 (.some x1))
theorem Zoo{e:Expr}{lo hi:Option Expr}{p pos:Pos}{f:Ex}{a b:Pt}(h:J prog w Γ e f)(hlo:JP prog w Γ lo a)(hhi:JP prog w Γ hi b)(ht:∀o r,letTemporaryGo e o r=pure ():=by intro _ _;rfl): J prog w Γ (.Subscript e (.Slice lo hi Option.none p) pos) (Zdv f a b):=by
 intro W ρ H fr s Q E v H' r hf post
 obtain⟨p,e1,hf⟩:=Zz0.mp hf
 obtain⟨q,e2,hf⟩:=Zz0.mp hf
 obtain⟨u,e3,hf⟩:=Zz0.mp hf
 obtain⟨ka,e4,hf⟩:=Zz0.mp hf
 obtain⟨kb,e5,hf⟩:=Zz0.mp hf
 refine wpAny_Subscript_list_slice (h W ρ H fr s _ E _ _ r e1 fun W1 k1 t1 x l1 r1 x1=>?_) ht
 refine hlo W1 ρ _ fr _ _ E _ _ r1 e2 fun W2 k2 t2 y l2 r2 y2=>?_
 refine hhi W2 ρ _ fr _ _ E _ _ r2 e3 fun W3 k3 t3 z l3 r3 z3=>?_
 have x3:=x1.mono (l2.trans l3)
 obtain⟨v1,H1⟩:=p
 simp only at hf x3
 cases x3 with
 | none=>cases hf
 | bool _=>cases hf
 | int _ _=>cases hf
 | str _ _=>cases hf
 | tup _ _ _=>cases hf
 | @ref i a ea=>
  obtain⟨vs,hvs,e6⟩:=Zz0.mp hf
  cases e6
  obtain⟨hl,xs,kk,hg,hv⟩:=r3.at hvs ea
  have isl:k3.IsList a xs.toArray:=⟨_,hg,rfl,kk,rfl⟩
  refine⟨a,xs.toArray,ka,kb,rfl,isl,Zdc (by simp[hv.length];exact hl),(y2.mono l3).part e4,z3.part e5,?_⟩
  have hp:VRs W3 (ZbI vs ka kb) (ZbI xs ka kb):=by
   unfold ZbI
   rw[hv.length]
   exact hv.pick _
  have hx:slicePick xs.toArray ka kb Option.none=(ZbI xs ka kb).toArray:=by
   unfold slicePick ZbI
   simp
  obtain⟨W4,l4,r4,v4⟩:=(r3.push { cls:=.type "slice",data:=.fields #[y,z,.none] }).list (k:=0) hp (Nat.le_trans (Zrb vs ka kb) hl)
  rw[hx]
  have:=post W4 _ t3 _ (((l1.trans l2).trans l3).trans l4) r4 v4
  rw[Heap.size_push]at this
  exact this
end
end PM
end
section
namespace PM
open PySem PyProof.Rows PyProof
def Nm(prog:Program)(w:World)(Γ:Cx)(x:Str)(v:Value): Prop:=∀(pos:Pos) (m:Str→Option Value) (s:Shared) (Q E:Value→Shared→Prop),Fr Γ.h₀ Γ.L s.heap m→Q v s→wpAny (model prog w) Γ.A (eval (.Name x pos) Γ.env) Q E s
theorem Nm.use{prog:Program}{w:World}{Γ:Cx}{x:Str}{y:Value}(h:Nm prog w Γ x y){pos:Pos}{W:Wd}{ρ:Lc}{H:Hp}{fr:List (Addr×Obj)}{s:Shared}{Q E:Value→Shared→Prop}(r:Rep Γ W ρ H fr s.heap)(q:Q y s): wpAny (model prog w) Γ.A (eval (.Name x pos) Γ.env) Q E s:=by
 obtain⟨m,c,led,r⟩:=r
 exact h pos m s Q E r.F q
def OpN(prog:Program)(w:World)(m:List Value→Sem Value)(o:List V→Hp→Option (V×Hp)): Prop:=∀(Γ:Cx) (W:Wd) (ρ:Lc) (H:Hp) (fr:List (Addr×Obj)) (s:Shared) (Q E:Value→Shared→Prop) (as:List V) (xs:List Value) (v:V) (H':Hp),
 Rep Γ W ρ H fr s.heap→VRs W as xs→o as H=some (v,H')→ZhL Γ W ρ H' fr s Q v→wpAny (model prog w) Γ.A (m xs) Q E s
noncomputable def Zs(o:List V→Hp→Option (V×Hp))(g:Exs): Ex:=fun ρ H=>(g ρ H).bind fun p=>o p.1 p.2
section
variable {prog:Program} {w:World} {Γ:Cx}
theorem Zau{x:Str}{np pos:Pos}{id:String}{e:Expr}{es:List Expr}{g:Exs}{o:List V→Hp→Option (V×Hp)}(hn:Nm prog w Γ x (.builtin id))(h:Js prog w Γ (e::es) g)(ho:OpN prog w (fun xs=>call (.builtin id) xs) o)
  (he:starEach (e::es) Γ.env=(false,eval e Γ.env)::starEach es Γ.env:=by rfl) (hp:∀pos,(backTo pos (starEach es Γ.env)).any (·.1)=false:=by intro _;rfl):J prog w Γ (.Call (.Name x np) (e::es) [] pos) (Zs o g):=by
 intro W ρ H fr s Q E v H' r hf post
 obtain⟨p,e1,hf⟩:=Zz0.mp hf
 refine wpAny_Call_ofName (hn.use r ?_)
 refine callWith_builtin1 (h pos W ρ H fr s _ E _ _ r e1 fun W1 k1 t1 xs l1 r1 x1=>?_) he (hp pos)
 exact ho Γ W1 ρ _ fr _ Q E _ xs v H' r1 x1 hf fun W2 k2 t2 y l2 r2 y2=>post W2 k2 t2 y (l1.trans l2) r2 y2
theorem Zev{x:Str}{np pos:Pos}{T:String}{e:Expr}{es:List Expr}{g:Exs}{o:List V→Hp→Option (V×Hp)}(hn:Nm prog w Γ x (.type T))(h:Js prog w Γ (e::es) g)(ho:OpN prog w (fun xs=>call (.type T) xs) o)
  (he:starEach (e::es) Γ.env=(false,eval e Γ.env)::starEach es Γ.env:=by rfl) (hp:∀pos,(backTo pos (starEach es Γ.env)).any (·.1)=false:=by intro _;rfl):J prog w Γ (.Call (.Name x np) (e::es) [] pos) (Zs o g):=by
 intro W ρ H fr s Q E v H' r hf post
 obtain⟨p,e1,hf⟩:=Zz0.mp hf
 refine wpAny_Call_ofName (hn.use r ?_)
 refine PySem.Pv.callWith_type1 (h pos W ρ H fr s _ E _ _ r e1 fun W1 k1 t1 xs l1 r1 x1=>?_) he (hp pos)
 exact ho Γ W1 ρ _ fr _ Q E _ xs v H' r1 x1 hf fun W2 k2 t2 y l2 r2 y2=>post W2 k2 t2 y (l1.trans l2) r2 y2
end
noncomputable def Zop: V→String
 | .none=>"NoneType"
 | .bool _=>"bool"
 | .int _=>"int"
 | .str _=>"str"
 | .tup _=>"tuple"
 | .ref _=>"list"
noncomputable def ZoL(T:String)(v:V): Bool:=Zop v == T || (T == "int" && Zop v == "bool")
noncomputable def eIs(T:String)(f:Ex): Ex:=fun ρ H=>(f ρ H).map fun p=>(.bool (ZoL T p.1),p.2)
section
variable {prog:Program} {w:World} {Γ:Cx}
theorem isinst{T:String}(hT:T="int"∨T="bool"∨T="list"∨T="tuple"){W:Wd}{ρ:Lc}{H:Hp}{fr:List (Addr×Obj)}{s:Shared}{Q E:Value→Shared→Prop}{a:V}{x:Value}(r:Rep Γ W ρ H fr s.heap)(hx:VR W a x)(hin:∀i,a=.ref i→i<H.length)
  (post:∀tk,Q (.bool (ZoL T a)) { s with toks:=tk }):wpAny (model prog w) Γ.A (call (.builtin "isinstance") [x,.type T]) Q E s:=by
 cases hx with
 | none=>
      rcases hT with e | e | e | e <;> subst e
      ·exact call_isinstance (isinstance_false_none (by decide +kernel) F.isi_meta_int (by rw[isSubtype_type];kernel_rfl)) (post _)
      ·exact call_isinstance (isinstance_false_none (by decide +kernel) F.isi_meta_bool (by rw[isSubtype_type];kernel_rfl)) (post _)
      ·exact call_isinstance (isinstance_false_none (by decide +kernel) F.isi_meta_list (by rw[isSubtype_type];kernel_rfl)) (post _)
      ·exact call_isinstance (isinstance_false_none (by decide +kernel) F.isi_meta_tuple (by rw[isSubtype_type];kernel_rfl)) (post _)
 | bool b=>
       rcases hT with e | e | e | e <;> subst e
       ·exact IsiPair.bool_int (post s.toks)
       ·exact IsiPair.bool_bool (post s.toks)
       ·exact IsiPair.bool_list (post _)
       ·exact IsiPair.bool_tuple (post _)
 | int i t=>
       rcases hT with e | e | e | e <;> subst e
       ·exact IsiPair.int_int (post s.toks)
       ·exact IsiPair.int_bool (post _)
       ·exact IsiPair.int_list (post _)
       ·exact IsiPair.int_tuple (post _)
 | str y t=>
       rcases hT with e | e | e | e <;> subst e
       ·exact IsiPair.str_int (post _)
       ·exact IsiPair.str_bool (post _)
       ·exact IsiPair.str_list (post _)
       ·exact IsiPair.str_tuple (post _)
 | tup hm hl hs=>
  have hg:=r.tupAt hm
  rcases hT with e | e | e | e <;> subst e
  ·exact IsiPair.tuple_int hg rfl (post _)
  ·exact IsiPair.tuple_bool hg rfl (post _)
  ·exact IsiPair.tuple_list hg rfl (post _)
  ·exact IsiPair.tuple_tuple hg rfl (post s.toks)
 | @ref i a ea=>
  obtain⟨hl,xs,k,hg,hv⟩:=r.at (List.getElem?_eq_getElem (hin i rfl)) ea
  rcases hT with e | e | e | e <;> subst e
  ·exact IsiPair.list_int hg rfl (post _)
  ·exact IsiPair.list_bool hg rfl (post _)
  ·exact IsiPair.list_list hg rfl (post s.toks)
  ·exact IsiPair.list_tuple hg rfl (post _)
end
theorem Rep.refIn{Γ:Cx}{W:Wd}{ρ:Lc}{H:Hp}{fr:List (Addr×Obj)}{h:Heap}{i:Nat}{x:Value}(r:Rep Γ W ρ H fr h)(hx:VR W (.ref i) x): i<H.length:=by
 obtain⟨m,c,led,r⟩:=r
 cases hx with
 | ref e=>rw[←r.R.len];exact(Zz6.mp e).1
section
variable {prog:Program} {w:World} {Γ:Cx}
theorem Zd1{np tp pos:Pos}{x y:Str}{T:String}{e:Expr}{f:Ex}(hn:Nm prog w Γ x (.builtin "isinstance"))(hy:Nm prog w Γ y (.type T))(hT:T="int"∨T="bool"∨T="list"∨T="tuple")(h:J prog w Γ e f)
  (he:starEach [e,.Name y tp] Γ.env=(false,eval e Γ.env)::starEach [.Name y tp] Γ.env:=by rfl) (hp:∀pos,(backTo pos (starEach [.Name y tp] Γ.env)).any (·.1)=false:=by intro _;rfl):J prog w Γ (.Call (.Name x np) [e,.Name y tp] [] pos) (eIs T f):=by
 intro W ρ H fr s Q E v H' r hf post
 obtain⟨p,e1,e2⟩:=Zz1.mp hf
 cases e2
 refine wpAny_Call_ofName (hn.use r ?_)
 refine callWith_builtin1 (wpAny_items_cons (h W ρ H fr s _ E _ _ r e1 fun W1 k1 t1 z l1 r1 z1=>?_) he) he (hp pos)
 refine wpAny_items_cons (hy.use (s:={ s with heap:=k1,toks:=t1 }) r1 ?_)
 refine wpAny_items_nil ?_
 exact PM.isinst hT r1 z1 (fun i e=>by rw[e]at z1;exact r1.refIn z1) fun tk=>post W1 k1 tk _ l1 r1 (.bool _)
end
noncomputable def ZaF: List V→Hp→Option (V×Hp)
 | [.ref a],H=>H[a]?.map fun vs=>(.int vs.length,H)
 | [.tup vs],H=>some (.int vs.length,H)
 | _,_=>none
noncomputable def Zdn: List V→Hp→Option (V×Hp)
 | [.int a],H=>some (.int (if a<0 then -a else a),H)
 | _,_=>none
noncomputable def ZjH: List V→Hp→Option (V×Hp)
 | [.int a,.int b],H=>some (.int (if b>a then b else a),H)
 | _,_=>none
noncomputable def Zez: List V→Option (List Int)
 | []=>some []
 | .int k::vs=>(Zez vs).map fun ks=>k::ks
 | _::_=>none
noncomputable def ZAg: List V→Hp→Option (V×Hp)
 | [.ref a],H=>H[a]?.bind fun vs=>(Zez vs).map fun ks=>(.int ks.sum,H)
 | _,_=>none
theorem VRs.one{W:Wd}{v:V}{xs:List Value}(h:VRs W [v] xs): ∃x,xs=[x]∧VR W v x:=by
 cases h with
 | cons a b=>cases b;exact⟨_,rfl,a⟩
theorem VRs.two{W:Wd}{v u:V}{xs:List Value}(h:VRs W [v,u] xs): ∃x y,xs=[x,y]∧VR W v x∧VR W u y:=by
 cases h with
 | cons a b=>obtain⟨y,e,r⟩:=b.one;subst e;exact⟨_,_,rfl,a,r⟩
noncomputable def Zaf: V→V→Hp→Option (V×Hp)
 | .int a,.int b,H=>some (.int (a+b),H)
 | .ref a,.ref b,H=>H[a]?.bind fun vs=>H[b]?.bind fun us=>if(vs++us).length≤LEN then some (.ref H.length,H++[vs++us])else none
 | .tup vs,.tup us,H=>if(vs++us).length≤LEN then some (.tup (vs++us),H)else none
 | _,_,_=>none
noncomputable def Zfm(vs:List V): Nat→List V
 | 0=>[]
 | n+1=>Zfm vs n++vs
noncomputable def ZaT: V→V→Hp→Option (V×Hp)
 | .int a,.int b,H=>if mulOk a b=true then some (.int (a*b),H)else none
 | .ref a,.int k,H=>H[a]?.bind fun vs=>if vs.length*k.toNat≤LEN∧-(2 ^ 63:Int)≤k∧k<2 ^ 63 then some (.ref H.length,H++[Zfm vs k.toNat])else none
 | _,_,_=>none
section
variable {prog:Program} {w:World}
theorem ZaS: OpN prog w (fun xs=>call (.builtin "len") xs) ZaF:=by
 intro Γ W ρ H fr s Q E as xs v H' r hx ho post
 unfold ZaF at ho
 split at ho
 ·rename_i a
  obtain⟨vs,e1,e2⟩:=Zz1.mp ho
  cases e2
  obtain⟨x,ex,rx⟩:=hx.one
  subst ex
  cases rx with
  | ref ea=>
   obtain⟨hl,ys,k,hg,hv⟩:=r.at e1 ea
   have isl:s.heap.IsList _ ys.toArray:=⟨_,hg,rfl,k,rfl⟩
   have e3:(ys.toArray.size:Int)=vs.length:=by simp[hv.length]
   rw[Zbr]at hl
   refine Calls.call_len_list isl (by rw[e3];omega) ?_
   rw[e3]
   exact post W s.heap _ _ (.refl W) r (.int _ _)
 ·rename_i vs
  cases ho
  obtain⟨x,ex,rx⟩:=hx.one
  subst ex
  cases rx with
  | @tup _ a ys k hm hl hs=>
   have it:IsTup s.heap a ys.toArray:=⟨_,r.tupAt hm,rfl,k,rfl⟩
   have e3:(ys.toArray.size:Int)=vs.length:=by simp[hs.length]
   rw[Zbr]at hl
   refine len_tuple it (by rw[e3];omega) ?_
   rw[e3]
   exact post W s.heap _ _ (.refl W) r (.int _ _)
 ·cases ho
theorem Zd8: OpN prog w (fun xs=>call (.builtin "abs") xs) Zdn:=by
 intro Γ W ρ H fr s Q E as xs v H' r hx ho post
 unfold Zdn at ho
 split at ho
 ·cases ho
  obtain⟨x,ex,rx⟩:=hx.one
  subst ex
  cases rx with
  | int i t=>exact call_abs_int fun u tk=>post W s.heap tk _ (.refl W) r (.int _ _)
 ·cases ho
theorem Zxn: OpN prog w (fun xs=>call (.builtin "max") xs) ZjH:=by
 intro Γ W ρ H fr s Q E as xs v H' r hx ho post
 unfold ZjH at ho
 split at ho
 ·cases ho
  obtain⟨x,y,ex,rx,ry⟩:=hx.two
  subst ex
  cases rx with
  | int i t=>
   cases ry with
   | int j u=>
    refine max_two_ints Γ.hh fun h' tk up=>?_
    split
    ·rename_i c
     rw[if_pos c]at post
     exact post W h' tk _ (.refl W) (r.grown up) (.int _ _)
    ·rename_i c
     rw[if_neg c]at post
     exact post W h' tk _ (.refl W) (r.grown up) (.int _ _)
 ·cases ho
theorem Zah: Op2 prog w (binaryOp .Add) Zaf:=by
 intro Γ W ρ H fr s Q E a b x y v H' r hx hy ho post
 unfold Zaf at ho
 split at ho
 ·cases ho
  cases hx;cases hy
  exact PySem.P.add_int (post W s.heap _ _ (.refl W) r (.int _ _))
 ·obtain⟨vs,e1,ho⟩:=Zz0.mp ho
  obtain⟨us,e2,ho⟩:=Zz0.mp ho
  by_cases hl:(vs++us).length≤LEN
  ·rw[if_pos hl]at ho
   cases ho
   cases hx with
   | ref ea=>
   cases hy with
   | ref eb=>
   obtain⟨l1,ys,k,hg,hv⟩:=r.at e1 ea
   obtain⟨l2,zs,k2,hg2,hv2⟩:=r.at e2 eb
   obtain⟨m,c,led,r'⟩:=r
   have i1:s.heap.IsList _ ys.toArray:=⟨_,hg,rfl,k,rfl⟩
   have i2:s.heap.IsList _ zs.toArray:=⟨_,hg2,rfl,k2,rfl⟩
   refine add_lists (hsz:=Zdc (by rw[hv.length,hv2.length,←List.length_append];exact hl)) r'.F r'.N i1 i2 fun h' F' N'=>?_
   obtain⟨W2,le2,r2,v2⟩:=r'.newList F' N' r'.off (hv.append hv2) hl
   exact post W2 h' s.toks _ le2 r2 v2
  ·rw[if_neg hl]at ho
   cases ho
 ·rename_i vs us
  by_cases hl:(vs++us).length≤LEN
  ·rw[if_pos hl]at ho
   cases ho
   cases hx with
   | @tup _ a ys k hm h1 hv=>
   cases hy with
   | @tup _ b zs k2 hm2 h2 hv2=>
   have t1:IsTup s.heap a ys.toArray:=⟨_,r.tupAt hm,rfl,k,rfl⟩
   have t2:IsTup s.heap b zs.toArray:=⟨_,r.tupAt hm2,rfl,k2,rfl⟩
   have r0:=r
   obtain⟨m,c,led,r'⟩:=r
   refine add_tuples (hsz:=Zdc (by rw[hv.length,hv2.length,←List.length_append];exact hl)) r'.F r'.N t1 t2 (fun e=>?_) (fun _ e=>?_) fun _ _ h' F' N'=>?_
   ·have:vs=[]:=List.length_eq_zero_iff.mp (by rw[←hv.length,e];rfl)
    subst this
    exact post W s.heap s.toks _ (.refl W) r0 (.tup hm2 h2 hv2)
   ·have:us=[]:=List.length_eq_zero_iff.mp (by rw[←hv2.length,e];rfl)
    subst this
    rw[List.append_nil]at post
    exact post W s.heap s.toks _ (.refl W) r0 (.tup hm h1 hv)
   ·obtain⟨W2,le2,r2,v2⟩:=r'.newTup F' N' r'.off (hv.append hv2) hl
    exact post W2 h' s.toks _ le2 r2 v2
  ·rw[if_neg hl]at ho
   cases ho
 ·cases ho
theorem Zrc(vs:List V): ∀n,(Zfm vs n).length=vs.length*n
 | 0=>rfl
 | n+1=>by rw[Zfm,List.length_append,Zrc vs n,Nat.mul_succ]
theorem ZvJ(xs:List Value)(n:Nat): ∀acc:Array Value,(List.foldl (fun x1 x2=>x1++x2) acc (List.replicate n xs.toArray))=acc++(List.replicate n xs).flatten.toArray:=by
 induction n with
 | zero=>intro acc;simp
 | succ n ih=>
  intro acc
  rw[List.replicate_succ,List.foldl_cons,ih,List.replicate_succ,List.flatten_cons]
  simp[Array.append_assoc]
theorem ZrL{W:Wd}{vs:List V}{xs:List Value}(h:VRs W vs xs): ∀n,VRs W (Zfm vs n) (List.replicate n xs).flatten
 | 0=>.nil
 | n+1=>by
  rw[Zfm,List.replicate_succ',List.flatten_append]
  simp only[List.flatten_cons,List.flatten_nil,List.append_nil]
  exact(ZrL h n).append h
theorem Za8: Op2 prog w (binaryOp .Mult) ZaT:=by
 intro Γ W ρ H fr s Q E a b x y v H' r hx hy ho post
 unfold ZaT at ho
 split at ho
 ·rename_i i j
  by_cases hm:mulOk i j=true
  ·rw[if_pos hm]at ho
   cases ho
   cases hx;cases hy
   exact PySem.P.mul_int (post W s.heap _ _ (.refl W) r (.int _ _)) (Zwz hm)
  ·rw[if_neg hm]at ho
   cases ho
 ·rename_i i k
  obtain⟨vs,e1,ho⟩:=Zz0.mp ho
  by_cases hc:vs.length*k.toNat≤LEN∧-(2 ^ 63:Int)≤k∧k<2 ^ 63
  ·rw[if_pos hc]at ho
   cases ho
   cases hx with
   | ref ea=>
   cases hy with
   | int _ u=>
   obtain⟨l1,ys,kk,hg,hv⟩:=r.at e1 ea
   obtain⟨m,c,led,r'⟩:=r
   have hl:=hc.1
   rw[Zbr]at hl
   refine mul_list r'.F r'.N hg hc.2.1 hc.2.2 (by rw[List.size_toArray,hv.length];omega) fun h' F' N'=>?_
   have e2:(List.foldl (fun x1 x2=>x1++x2) #[] (List.replicate (if ys.toArray.isEmpty=true then 0 else k.toNat) ys.toArray))=(List.replicate k.toNat ys).flatten.toArray:=by
    cases ys with
    | nil=>
     simp
    | cons y0 ys0=>
     have:((y0::ys0).toArray.isEmpty=true)=False:=by simp
     simp only[this,if_false]
     rw[ZvJ]
     simp
   rw[e2]at N'
   obtain⟨W2,le2,r2,v2⟩:=r'.newList F' N' r'.off (ZrL hv k.toNat) (by rw[Zrc];exact hc.1)
   exact post W2 h' s.toks _ le2 r2 v2
  ·rw[if_neg hc]at ho
   cases ho
 ·cases ho
end
end PM
end
section
namespace PM
open PySem PyProof.Rows PyProof
noncomputable def upd(ρ:Lc)(i:Nat)(v:V): Lc:=fun j=>if j=i then some v else ρ j
noncomputable abbrev Sm:=Lc→Hp→Option (Option V×Lc×Hp)
noncomputable def Z0: Sm:=fun ρ H=>some (none,ρ,H)
noncomputable def Zu(a b:Sm): Sm:=fun ρ H=>(a ρ H).bind fun p=>match p.1 with
 | some _=>some p
 | none=>b p.2.1 p.2.2
noncomputable def ZE(f:Ex): Sm:=fun ρ H=>(f ρ H).map fun p=>(some p.1,ρ,p.2)
noncomputable def ZL(i:Nat)(f:Ex): Sm:=fun ρ H=>(f ρ H).map fun p=>(none,upd ρ i p.1,p.2)
noncomputable def ZW(t:Ts)(a b:Sm): Sm:=fun ρ H=>(t ρ H).bind fun p=>if p.1 then a ρ p.2 else b ρ p.2
noncomputable def Zb9(f:Ex): Sm:=fun ρ H=>(f ρ H).map fun p=>(none,ρ,p.2)
noncomputable def ZjT: V→V→V→Hp→Option Hp
 | .ref a,.int k,v,H=>H[a]?.bind fun vs=>if a≠0∧0≤k∧k<vs.length then some (H.set a (vs.set k.toNat v))else none
 | _,_,_,_=>none
noncomputable def Zbl(f o i:Ex): Sm:=fun ρ H=>(f ρ H).bind fun p=>(o ρ p.2).bind fun q=>(i ρ q.2).bind fun u=>(ZjT q.1 u.1 p.1 u.2).map fun K=>(none,ρ,K)
noncomputable def Zdg(t:Ts)(b:Sm): Nat→Sm
 | 0=>fun _ _=>none
 | n+1=>fun ρ H=>(t ρ H).bind fun p=>if p.1 then(b ρ p.2).bind fun q=>(match q.1 with
   | some _=>some q
   | none=>Zdg t b n q.2.1 q.2.2)else some (none,ρ,p.2)
noncomputable def PostS(Γ:Cx)(W:Wd)(fr:List (Addr×Obj))(s:Shared)(Q:Flow→Shared→Prop): Option V×Lc×Hp→Prop
 | (none,ρ',H')=>∀(W':Wd) (h':Heap) (tk':Nat),W.Le W'→Rep Γ W' ρ' H' fr h'→Q .next { s with heap:=h',toks:=tk' }
 | (some v,ρ',H')=>∀(W':Wd) (h':Heap) (tk':Nat) (x:Value),W.Le W'→Rep Γ W' ρ' H' fr h'→VR W' v x→Q (.ret x) { s with heap:=h',toks:=tk' }
theorem PostS.le{Γ:Cx}{W W':Wd}{fr:List (Addr×Obj)}{s:Shared}{h:Heap}{tk:Nat}{Q:Flow→Shared→Prop}{r:Option V×Lc×Hp}(l:W.Le W')(p:PostS Γ W fr s Q r): PostS Γ W' fr { s with heap:=h,toks:=tk } Q r:=by
 obtain⟨o,ρ',H'⟩:=r
 cases o with
 | none=>exact fun W2 h2 t2 l2 r2=>p W2 h2 t2 (l.trans l2) r2
 | some v=>exact fun W2 h2 t2 x l2 r2 x2=>p W2 h2 t2 x (l.trans l2) r2 x2
section
variable (prog:Program) (w:World)
def S1(Γ:Cx)(st:Stmt)(g:Sm): Prop:=∀(W:Wd) (ρ:Lc) (H:Hp) (fr:List (Addr×Obj)) (s:Shared) (Q:Flow→Shared→Prop) (E:Value→Shared→Prop) (r:Option V×Lc×Hp),
 Rep Γ W ρ H fr s.heap→g ρ H=some r→PostS Γ W fr s Q r→wpAny (model prog w) Γ.A (exec st Γ.env) Q E s
def Ss(Γ:Cx)(ss:List Stmt)(g:Sm): Prop:=∀(W:Wd) (ρ:Lc) (H:Hp) (fr:List (Addr×Obj)) (s:Shared) (Q:Flow→Shared→Prop) (E:Value→Shared→Prop) (r:Option V×Lc×Hp),
 Rep Γ W ρ H fr s.heap→g ρ H=some r→PostS Γ W fr s Q r→wpAny (model prog w) Γ.A (execs ss Γ.env) Q E s
def Sto(Γ:Cx)(x:Str)(i:Nat): Prop:=∀(W:Wd) (ρ:Lc) (H:Hp) (fr:List (Addr×Obj)) (s:Shared) (Q:Unit→Shared→Prop) (E:Value→Shared→Prop) (v:V) (y:Value),
 Rep Γ W ρ H fr s.heap→VR W v y→(∀(h':Heap) (tk':Nat),Rep Γ W (upd ρ i v) H fr h'→Q () { s with heap:=h',toks:=tk' })→wpAny (model prog w) Γ.A (storeName Γ.env x y) Q E s
def Rd(Γ:Cx)(x:Str)(i:Nat): Prop:=∀(W:Wd) (ρ:Lc) (H:Hp) (fr:List (Addr×Obj)) (s:Shared) (Q E:Value→Shared→Prop) (v:V) (pos:Pos),
 Rep Γ W ρ H fr s.heap→ρ i=some v→(∀y,VR W v y→Q y s)→wpAny (model prog w) Γ.A (eval (.Name x pos) Γ.env) Q E s
end
section
variable {prog:Program} {w:World} {Γ:Cx}
theorem ZjI{x:Str}{i:Nat}{pos:Pos}(h:Rd prog w Γ x i): J prog w Γ (.Name x pos) (Zb i):=by
 intro W ρ H fr s Q E v H' r hf post
 obtain⟨u,e1,e2⟩:=Zz1.mp hf
 cases e2
 exact h W ρ H fr s Q E v pos r e1 fun y hy=>post W s.heap s.toks y (.refl W) r hy
theorem Z4: Ss prog w Γ [] Z0:=fun W ρ H fr s Q E r rp hf post=>by
 cases hf
 exact wpAny_execs_nil (post W s.heap s.toks (.refl W) rp)
theorem Zz{st:Stmt}{ss:List Stmt}{a b:Sm}(h1:S1 prog w Γ st a)(h2:Ss prog w Γ ss b): Ss prog w Γ (st::ss) (Zu a b):=by
 intro W ρ H fr s Q E r rp hf post
 obtain⟨p,e1,hf⟩:=Zz0.mp hf
 refine wpAny_execs_cons (h1 W ρ H fr s _ E p rp e1 ?_)
 obtain⟨o,ρ1,H1⟩:=p
 cases o with
 | some v=>
  cases hf
  exact fun W1 k1 t1 x l1 r1 x1=>post W1 k1 t1 x l1 r1 x1
 | none=>exact fun W1 k1 t1 l1 r1=>h2 W1 ρ1 H1 fr _ Q E r r1 hf (post.le l1)
theorem ZB{st:Stmt}{a:Sm}(h1:S1 prog w Γ st a): Ss prog w Γ [st] a:=by
 intro W ρ H fr s Q E r rp hf post
 refine wpAny_execs_cons (h1 W ρ H fr s _ E r rp hf ?_)
 obtain⟨o,ρ1,H1⟩:=r
 cases o with
 | some v=>exact fun W1 k1 t1 x l1 r1 x1=>post W1 k1 t1 x l1 r1 x1
 | none=>exact fun W1 k1 t1 l1 r1=>wpAny_execs_nil (post W1 k1 t1 l1 r1)
theorem ZH{e:Expr}{pos:Pos}{f:Ex}(h:J prog w Γ e f): S1 prog w Γ (.Return (some e) pos) (ZE f):=by
 intro W ρ H fr s Q E r rp hf post
 obtain⟨p,e1,e2⟩:=Zz1.mp hf
 cases e2
 exact wpAny_Return_some (h W ρ H fr s _ E _ _ rp e1 post)
theorem Z2{t:Expr}{a b:List Stmt}{pos:Pos}{u:Ts}{f g:Sm}(ht:JT prog w Γ t u)(h1:Ss prog w Γ a f)(h2:Ss prog w Γ b g): S1 prog w Γ (.If t a b pos) (ZW u f g):=by
 intro W ρ H fr s Q E r rp hf post
 obtain⟨p,e1,hf⟩:=Zz0.mp hf
 refine wpAny_If (ht W ρ H fr s _ E _ _ rp e1 fun W1 k1 t1 l1 r1=>?_)
 obtain⟨c,H1⟩:=p
 cases c with
 | true=>exact h1 W1 ρ H1 fr _ Q E r r1 hf (post.le l1)
 | false=>exact h2 W1 ρ H1 fr _ Q E r r1 hf (post.le l1)
theorem Zc2{e:Expr}{pos:Pos}{f:Ex}(h:J prog w Γ e f)(hi:interactive Γ.env=false:=by rfl)(hs:swapsWith e none pos.line Γ.env=pure false:=by rfl): S1 prog w Γ (.Expr e pos) (Zb9 f):=by
 intro W ρ H fr s Q E r rp hf post
 obtain⟨p,e1,e2⟩:=Zz1.mp hf
 cases e2
 exact wpAny_Expr_any (h W ρ H fr s _ E _ _ rp e1 fun W1 k1 t1 x l1 r1 x1=>post W1 k1 t1 l1 r1) hi hs
theorem ZP{x:Str}{i:Nat}{e:Expr}{pos' pos:Pos}{f:Ex}(hx:Sto prog w Γ x i)(h:J prog w Γ e f)(hs:swapsWith e (some (.Name x pos')) pos.line Γ.env=pure false:=by rfl): S1 prog w Γ (.Assign [.Name x pos'] e pos) (ZL i f):=by
 intro W ρ H fr s Q E r rp hf post
 obtain⟨p,e1,e2⟩:=Zz1.mp hf
 cases e2
 refine wpAny_Assign_Name (h W ρ H fr s _ E _ _ rp e1 fun W1 k1 t1 y l1 r1 y1=>?_) hs
 exact hx W1 ρ _ fr _ _ E _ y r1 y1 fun h' tk' r2=>post W1 h' tk' l1 r2
theorem Zhd{t:Expr}{a:List Stmt}{pos:Pos}{u:Ts}{f:Sm}(n:Nat)(ht:JT prog w Γ t u)(h1:Ss prog w Γ a f): S1 prog w Γ (.While t a [] pos) (Zdg u f n):=by
 intro W ρ H fr s Q E r rp hf post
 refine wpAny_While ?_
 refine codeAny_whileLoop (fun k s'=>∃W' ρ' H' h' tk',s' = { s with heap:=h',toks:=tk' }∧W.Le W'∧Rep Γ W' ρ' H' fr h'∧Zdg u f k ρ' H'=some r) ?_ n ⟨W,ρ,H,s.heap,s.toks,rfl,.refl W,rp,hf⟩
 rintro k s' ⟨W1,ρ1,H1,k1,t1,rfl,l1,r1,e⟩
 cases k with
 | zero=>cases e
 | succ k=>
  obtain⟨p,e1,e⟩:=Zz0.mp e
  refine ht W1 ρ1 H1 fr _ _ _ _ _ r1 e1 fun W2 k2 t2 l2 r2=>?_
  obtain⟨c,H2⟩:=p
  cases c with
  | false=>
   cases e
   exact wpAny_execs_nil (post W2 k2 t2 (l1.trans l2) r2)
  | true=>
   obtain⟨q,e2,e⟩:=Zz0.mp e
   refine h1 W2 ρ1 H2 fr _ _ _ q r2 e2 ?_
   obtain⟨o,ρ3,H3⟩:=q
   cases o with
   | some v=>
    cases e
    exact fun W3 k3 t3 x l3 r3 x3=>post W3 k3 t3 x ((l1.trans l2).trans l3) r3 x3
   | none=>exact fun W3 k3 t3 l3 r3=>⟨k,Nat.lt_succ_self k,W3,ρ3,H3,k3,t3,rfl,(l1.trans l2).trans l3,r3,e⟩
end
noncomputable def Zhj: List V→Hp→Option (V×Hp)
 | [.ref a,v],H=>H[a]?.bind fun vs=>if a≠0∧vs.length<LEN then some (.none,H.set a (vs++[v]))else none
 | _,_=>none
section
variable {prog:Program} {w:World} {Γ:Cx}
theorem ZvK: OpN prog w (fun xs=>call (.builtin "list.append") xs) Zhj:=by
 intro Γ W ρ H fr s Q E as xs v H' r hx ho post
 unfold Zhj at ho
 split at ho
 ·obtain⟨vs,e1,e2⟩:=Zz0.mp ho
  obtain⟨x,y,ex,rx,ry⟩:=hx.two
  subst ex
  split at e2
  ·rename_i hl
   cases e2
   cases rx with
   | @ref _ a0 ea=>
    obtain⟨_,ys,k,hg,hv⟩:=r.at e1 ea
    refine append_at (hsz:=Zdc (by rw[List.size_toArray,hv.length];omega)) hg fun h' sb hg'=>?_
    have hg2:h'.get? a0=some (Zb7 (ys++[y]) (k+1)):=by rw[hg'];simp
    exact post W h' s.toks _ (.refl W) (r.change hl.1 e1 ea sb hg2 (hv.snoc ry) (by simp;omega)) .none
  ·cases e2
 ·cases ho
end
end PM
end
section
namespace PM
open PySem PySem.W PyProof.Rows PyProof
theorem ZrM: ∀{l:List Value} {k:Nat} {v:Value},k<l.length→ki_setL l k v=some (l.set k v)
 | [],_,_,h=>by simp at h
 | x::r,0,v,_=>by simp[ki_setL]
 | x::r,k+1,v,h=>by
  have:=ZrM (l:=r) (k:=k) (v:=v) (by simpa using h)
  simp[ki_setL,this]
theorem ZvL{a k v:V}{H K:Hp}(h:ZjT a k v H=some K): ∃i j vs,a=.ref i∧k=.int j∧H[i]?=some vs∧(i≠0∧0≤j∧j<vs.length)∧K=H.set i (vs.set j.toNat v):=by
 cases a <;> first | (cases h;done) | skip
 cases k <;> first | (cases h;done) | skip
 obtain⟨vs,e1,e2⟩:=Zz0.mp h
 split at e2
 ·rename_i c
  cases e2
  exact⟨_,_,vs,rfl,rfl,e1,c,rfl⟩
 ·cases e2
theorem Zt9{a v x:V}{H K:Hp}(h:Zhj [a,v] H=some (x,K)): ∃i,a=.ref i:=by
 cases a <;> first | (cases h;done) | skip
 exact⟨_,rfl⟩
noncomputable def Zd4(o f:Ex): Ex:=fun ρ H=>(o ρ H).bind fun p=>(f ρ p.2).bind fun q=>Zhj [p.1,q.1] q.2
section
variable {prog:Program} {w:World} {Γ:Cx}
theorem S1.put{o i value:Expr}{pos' pos:Pos}{f g k:Ex}(hf:J prog w Γ value f)(ho:J prog w Γ o g)(hi:J prog w Γ i k)(hs:swapsWith value (some (.Subscript o i pos')) pos.line Γ.env=pure false:=by rfl): S1 prog w Γ (.Assign [.Subscript o i pos'] value pos) (Zbl f g k):=by
 intro W ρ H fr s Q E r rp hx post
 obtain⟨p,e1,hx⟩:=Zz0.mp hx
 obtain⟨q,e2,hx⟩:=Zz0.mp hx
 obtain⟨u,e3,hx⟩:=Zz0.mp hx
 obtain⟨K,e4,e5⟩:=Zz1.mp hx
 cases e5
 refine wpAny_Assign_Subscript (hf W ρ H fr s _ E _ _ rp e1 fun W1 k1 t1 x l1 r1 x1=>?_) hs
 refine ho W1 ρ _ fr _ _ E _ _ r1 e2 fun W2 k2 t2 y l2 r2 y2=>?_
 refine hi W2 ρ _ fr _ _ E _ _ r2 e3 fun W3 k3 t3 z l3 r3 z3=>?_
 have x3:=x1.mono (l2.trans l3)
 have y3:=y2.mono l3
 obtain⟨b,kk,vs,eb,ek,hvs,hc,e6⟩:=ZvL e4
 subst e6
 rw[eb]at y3
 rw[ek]at z3
 cases y3 with
 | @ref _ a ea=>
 cases z3 with
 | int _ tz=>
 obtain⟨hl,xs,n,hg,hv⟩:=r3.at hvs ea
 obtain⟨m,c,led,r'⟩:=r3
 have hll:=hl
 rw[Zbr]at hll
 have hk:kk.toNat<xs.length:=by rw[hv.length];omega
 obtain⟨_,a',xs',n',h1,h2,h3⟩:=r'.R.lists b vs hvs
 rw[ea]at h1
 cases h1
 have h2:=r'.inLed hc.1 ea h2
 have N2:News Γ.h₀ Γ.L k3 ((a,Zb7 xs n)::led.filter (fun q=>decide (q.1≠a))):=by
  intro q hq
  rcases Zz7.mp hq with e | hq
  ·subst e
   exact⟨hg,(r'.N _ h2).2⟩
  ·exact r'.N q (List.mem_filter.mp hq).1
 refine ki_set (its:=xs.toArray) (n:=n) (q:=xs.set kk.toNat x) r'.F N2 hc.2.1 (by omega) (by simpa using ZrM hk) (Upd.head fun q hq=>by simpa using (List.mem_filter.mp hq).2) fun h' F' N'=>?_
 exact post W3 h' t3 ((l1.trans l2).trans l3) (r'.changed hc.1 hvs ea F' N' (hv.set _ x3) (by simpa using hl))
theorem J.append{o e:Expr}{apos pos:Pos}{f g:Ex}(ho:J prog w Γ o f)(he:J prog w Γ e g)(hbase:attributeBase o "append" Γ.env (eval o Γ.env)=eval o Γ.env:=by rfl)
  (hfew:((backTo pos (starEach [e] Γ.env)).all (fun x=>!x.1) && (backToKw pos (keywordEach [] Γ.env)).all (fun x=>x.1.isSome) && decide (([e]:List Expr).length+([]:List Keyword).length+(if([]:List Keyword).isEmpty then 0 else 1)<30))=true:=by rfl)
  (hline:(apos.endLine == pos.line)=true:=by rfl) (htrees:backTo pos (starEach [e] Γ.env)=[(false,eval e Γ.env)]:=by rfl):J prog w Γ (.Call (.Attribute o "append" apos) [e] [] pos) (Zd4 f g):=by
 intro W ρ H fr s Q E v H' r hx post
 obtain⟨p,e1,hx⟩:=Zz0.mp hx
 obtain⟨q,e2,e3⟩:=Zz0.mp hx
 refine wpAny_Call_append hbase hfew hline htrees (ho W ρ H fr s _ E _ _ r e1 fun W1 k1 t1 x l1 r1 x1=>?_)
 obtain⟨v1,H1⟩:=p
 obtain⟨b,hb⟩:=Zt9 e3
 subst hb
 have hb:=r1.refIn x1
 cases x1 with
 | @ref _ a ea=>
 obtain⟨_,xs,n,hg,hv⟩:=r1.at (List.getElem?_eq_getElem hb) ea
 refine⟨a,xs.toArray,rfl,⟨_,n,hg,rfl,rfl,rfl⟩,?_⟩
 refine he W1 ρ _ fr _ _ E _ _ r1 e2 fun W2 k2 t2 y l2 r2 y2=>?_
 exact ZvK Γ W2 ρ _ fr _ Q E _ [.ref a,y] v H' r2 (.cons (.ref (l2.at ea)) (.cons y2 .nil)) e3 fun W3 k3 t3 z l3 r3 z3=>post W3 k3 t3 z ((l1.trans l2).trans l3) r3 z3
end
end PM
end
section
namespace PM
open PySem PySem.W PyProof.Rows PyProof
noncomputable abbrev Nx:=Nat→Hp→Option (Option V)
noncomputable def Zzx(Γ:Cx)(W:Wd)(ρ:Lc)(H:Hp)(fr:List (Addr×Obj))(s:Shared)(It:Nat→List (Addr×Obj)→Prop)(i:Nat)(Q:Option Value→Shared→Prop): Option V→Prop
 | none=>∀(h':Heap) (tk':Nat),Rep Γ W ρ H fr h'→Q none { s with heap:=h',toks:=tk' }
 | some v=>∀(fs':List (Addr×Obj)) (h':Heap) (tk':Nat) (x:Value),It (i+1) fs'→Rep Γ W ρ H (fs'++fr) h'→VR W v x→Q (some x) { s with heap:=h',toks:=tk' }
structure Itr(prog:Program)(w:World)(Γ:Cx)(W0:Wd)(it:Value)(as:List Addr)(It:Nat→List (Addr×Obj)→Prop)(nx:Nx): Prop where
 adr:∀i fs,It i fs→fs.map (·.1)=as
 next:∀(i:Nat) (W:Wd) (ρ:Lc) (H:Hp) (fr fs:List (Addr×Obj)) (s:Shared) (Q:Option Value→Shared→Prop) (E:Value→Shared→Prop) (o:Option V),W0.Le W→Rep Γ W ρ H (fs++fr) s.heap→(∀a∈as,∀t∈fr,a≠t.1)→It i fs→nx i H=some o →
  Zzx Γ W ρ H fr s It i Q o→wpAny (model prog w) Γ.A (pyNext it) Q E s
 self:∀(i:Nat) (W:Wd) (ρ:Lc) (H:Hp) (fr fs:List (Addr×Obj)) (s:Shared) (Q E:Value→Shared→Prop),W0.Le W→Rep Γ W ρ H (fs++fr) s.heap→It i fs→Q it s→wpAny (model prog w) Γ.A (pyIter it) Q E s
noncomputable abbrev Src:=Lc→Hp→Option (Nx×Nat×Hp)
def JI(prog:Program)(w:World)(Γ:Cx)(e:Expr)(g:Src): Prop:=∀(W:Wd) (ρ:Lc) (H:Hp) (fr:List (Addr×Obj)) (s:Shared) (Q E:Value→Shared→Prop) (nx:Nx) (n:Nat) (H':Hp),
 Rep Γ W ρ H fr s.heap→g ρ H=some (nx,n,H') →
 (∀(W':Wd) (h':Heap) (tk':Nat) (it:Value) (as:List Addr) (It:Nat→List (Addr×Obj)→Prop) (fs:List (Addr×Obj)),W.Le W'→It 0 fs→Rep Γ W' ρ H' (fs++fr) h'→(∀a∈as,∀t∈fr,a≠t.1)→Itr prog w Γ W' it as It nx→Q it { s with heap:=h',toks:=tk' }) →
 wpAny (model prog w) Γ.A (eval e Γ.env) (fun xv s₁=>wpAny (model prog w) Γ.A (pyIter xv) Q E s₁) E s
noncomputable def ZoM(a:Nat): Nx:=fun i H=>H[a]?.map fun vs=>vs[i]?
noncomputable def Zsn(vs:List V): Nx:=fun i _=>some vs[i]?
noncomputable def Zf5(a c:Int)(n:Nat): Nx:=fun i _=>some (if i<n then some (.int (a+i*c))else none)
noncomputable def Zbm(f:Ex): Src:=fun ρ H=>(f ρ H).bind fun p=>match p.1 with
 | .ref a=>p.2[a]?.map fun vs=>(ZoM a,vs.length+1,p.2)
 | .tup vs=>some (Zsn vs,vs.length+1,p.2)
 | _=>none
noncomputable def rngN(a b c:Int): Nat:=(Builtin.Range.rangeSize a b c).toNat
noncomputable def ZcH(a b c:Int)(H:Hp): Option (Nx×Nat×Hp):=if c≠0∧Builtin.Range.small a b c=true∧0≤Builtin.Range.rangeSize a b c∧rngN a b c≤LEN∧Builtin.divisionGoesByPylong (b-a) c=false then some (Zf5 a c (rngN a b c),rngN a b c+1,H)else none
noncomputable def ZaL(g:Exs): Src:=fun ρ H=>(g ρ H).bind fun p=>match p.1 with
 | [.int b]=>ZcH 0 b 1 p.2
 | [.int a,.int b]=>ZcH a b 1 p.2
 | [.int a,.int b,.int c]=>ZcH a b c p.2
 | _=>none
section
variable {prog:Program} {w:World} {Γ:Cx}
theorem ZoN{W0:Wd}{I:Addr}{nx:Nx}(P:Nat→Obj→Prop)
  (next:∀(i:Nat) (W:Wd) (ρ:Lc) (H:Hp) (fr:List (Addr×Obj)) (ob:Obj) (s:Shared) (Q:Option Value→Shared→Prop) (E:Value→Shared→Prop) (o:Option V),W0.Le W→Rep Γ W ρ H ((I,ob)::fr) s.heap→P i ob→nx i H=some o →
   (match o with
    | none=>∀(h':Heap) (tk':Nat),(∀b o,b≠I→s.heap.get? b=some o→h'.get? b=some o)→Q none { s with heap:=h',toks:=tk' }
    | some v=>∀(ob':Obj) (h':Heap) (tk':Nat) (x:Value),P (i+1) ob'→h'.get? I=some ob'→(∀b o,b≠I→s.heap.get? b=some o→h'.get? b=some o)→VR W v x→Q (some x) { s with heap:=h',toks:=tk' })→wpAny (model prog w) Γ.A (pyNext (.ref I)) Q E s)
  (self:∀(i:Nat) (W:Wd) (ρ:Lc) (H:Hp) (fr:List (Addr×Obj)) (ob:Obj) (s:Shared) (Q E:Value→Shared→Prop),W0.Le W→Rep Γ W ρ H ((I,ob)::fr) s.heap→P i ob→Q (.ref I) s→wpAny (model prog w) Γ.A (pyIter (.ref I)) Q E s):
  Itr prog w Γ W0 (.ref I) [I] (fun i fs=>∃ob,fs=[(I,ob)]∧P i ob) nx:=by
 refine⟨?_,?_,?_⟩
 ·rintro i fs ⟨ob,e,_⟩
  rw[e]
  rfl
 ·rintro i W ρ H fr fs s Q E o le r ap ⟨ob,e,hp⟩ hn post
  subst e
  refine next i W ρ H fr ob s Q E o le r hp hn ?_
  have ap':∀q∈[(I,ob)],∀t∈fr,q.1≠t.1:=fun q hq t ht=>by rw[List.mem_singleton.mp hq];exact ap I Zz5 t ht
  cases o with
  | none=>
   intro h' tk' keep
   have:=Rep.swap (fs:=[(I,ob)]) (fs':=[]) r ap' (fun b o hb e=>keep b o (fun q=>hb (by simp[q])) e) (fun q hq=>nomatch hq)
   exact post h' tk' this
  | some v=>
   intro ob' h' tk' x hp' hg keep hx
   have:=Rep.swap (fs:=[(I,ob)]) (fs':=[(I,ob')]) r ap' (fun b o hb e=>keep b o (fun q=>hb (by simp[q])) e) (fun q hq=>by rw[List.mem_singleton.mp hq];exact⟨hg,by simp⟩)
   exact post [(I,ob')] h' tk' x ⟨ob',rfl,hp'⟩ this hx
 ·rintro i W ρ H fr fs s Q E le r ⟨ob,e,hp⟩ q
  subst e
  exact self i W ρ H fr ob s Q E le r hp q
theorem JI.seq{e:Expr}{f:Ex}(h:J prog w Γ e f): JI prog w Γ e (Zbm f):=by
 intro W ρ H fr s Q E nx n H' r hf post
 obtain⟨p,e1,hf⟩:=Zz0.mp hf
 refine h W ρ H fr s _ E _ _ r e1 fun W1 k1 t1 x l1 r1 x1=>?_
 obtain⟨v,H1⟩:=p
 cases x1 with
 | none=>cases hf
 | bool _=>cases hf
 | int _ _=>cases hf
 | str _ _=>cases hf
 | @tup vs a xs k hm hl hs=>
  cases hf
  have it:k1.IsTuple a xs.toArray:=⟨_,r1.tupAt hm,rfl,k,rfl⟩
  refine wpAny_pyIter_tuple it ?_
  obtain⟨r2,ap⟩:=r1.more (fs:=[(k1.objs.size,{ cls:=.type "tuple_iterator",data:=.fields #[.ref a,.int 0 0] })]) (fun b o e=>Heap.get?_push_of_some { cls:=.type "tuple_iterator",data:=.fields #[.ref a,.int 0 0] } e) (fun q hq=>by rw[List.mem_singleton.mp hq];exact⟨Heap.get?_push_size _ rfl,Nat.le_refl _⟩)
  refine post W1 _ t1 _ [k1.objs.size] _ _ l1 ⟨_,rfl,?_⟩ r2 (fun b hb t ht=>by rw[List.mem_singleton.mp hb];exact ap _ Zz5 t ht)
   (ZoN (fun i ob=>ob.cls=.type "tuple_iterator"∧ob.data=.fields #[.ref a,.int i 0]) ?_ ?_)
  ·intro i W ρ H fr ob s Q E o le r hp hn post
   have g1:s.heap.IsTupleIter k1.objs.size a i:=⟨ob,r.frAt Zz5,hp.1,hp.2⟩
   have g2:s.heap.IsTuple a xs.toArray:=⟨_,r.tupAt (le.tups _ hm),rfl,k,rfl⟩
   have ne:a≠k1.objs.size:=Nat.ne_of_lt (Heap.lt_size (r1.tupAt hm))
   have Wk:=Walks.tuple (prog:=prog) (w:=w) Γ.hh k1.objs.size a ne xs.toArray
   cases hn
   cases ev:vs[i]? with
   | none=>
    rw[ev]at post
    have hi:xs.toArray[i]?=none:=by have:=List.getElem?_eq_none_iff.mp ev;rw[←hs.length]at this;simpa using this
    exact wpAny_pyNext_tuple_end Γ.hh g1 g2 hi fun h' he'=>post h' s.toks fun b o hb e=>he' b o hb e
   | some v=>
    rw[ev]at post
    obtain⟨y,hy,ry⟩:=hs.at ev
    refine wpAny_pyNext_tuple_item g1 g2 (x:=y) (by simpa using hy) fun h' hit' hs'=>?_
    obtain⟨ob',h1,h2,h3⟩:=hit'
    exact post ob' h' s.toks y ⟨h2,h3⟩ h1 (fun b o hb e=>hs'.extBut b o hb e) (ry.mono le)
  ·intro i W ρ H fr ob s Q E le r hp q
   exact wpAny_pyIter_tupleiter (⟨ob,r.frAt Zz5,hp.1,hp.2⟩:s.heap.IsTupleIter k1.objs.size a i) q
  ·exact⟨rfl,rfl⟩
 | @ref i0 a ea=>
  obtain⟨vs,e2,e3⟩:=Zz1.mp hf
  cases e3
  obtain⟨hl,xs,k,hg,hv⟩:=r1.at e2 ea
  have isl:k1.IsList a xs.toArray:=⟨_,hg,rfl,k,rfl⟩
  refine wpAny_pyIter_list isl ?_
  obtain⟨r2,ap⟩:=r1.more (fs:=[(k1.objs.size,{ cls:=.type "list_iterator",data:=.fields #[.ref a,.int 0 0] })]) (fun b o e=>Heap.get?_push_of_some { cls:=.type "list_iterator",data:=.fields #[.ref a,.int 0 0] } e) (fun q hq=>by rw[List.mem_singleton.mp hq];exact⟨Heap.get?_push_size _ rfl,Nat.le_refl _⟩)
  refine post W1 _ t1 _ [k1.objs.size] _ _ l1 ⟨_,rfl,?_⟩ r2 (fun b hb t ht=>by rw[List.mem_singleton.mp hb];exact ap _ Zz5 t ht)
   (ZoN (fun i ob=>ob.cls=.type "list_iterator"∧ob.data=.fields #[.ref a,.int i 0]) ?_ ?_)
  ·intro i W ρ H fr ob s Q E o le r hp hn post
   obtain⟨us,eu,e4⟩:=Zz1.mp hn
   subst e4
   obtain⟨hl2,ys,k2,hg2,hv2⟩:=r.at eu (le.at ea)
   have g1:s.heap.IsListIter k1.objs.size a i:=⟨ob,r.frAt Zz5,hp.1,hp.2⟩
   have g2:s.heap.IsList a ys.toArray:=⟨_,hg2,rfl,k2,rfl⟩
   cases ev:us[i]? with
   | none=>
    rw[ev]at post
    have hi:ys.toArray[i]?=none:=by have:=List.getElem?_eq_none_iff.mp ev;rw[←hv2.length]at this;simpa using this
    exact wpAny_pyNext_list_end Γ.hh g1 g2 hi fun h' he'=>post h' s.toks fun b o hb e=>he' b o hb e
   | some v=>
    rw[ev]at post
    obtain⟨y,hy,ry⟩:=hv2.at ev
    refine wpAny_pyNext_list_item g1 g2 (x:=y) (by simpa using hy) fun h' hit' hs'=>?_
    obtain⟨ob',h1,h2,h3⟩:=hit'
    exact post ob' h' s.toks y ⟨h2,h3⟩ h1 (fun b o hb e=>hs'.extBut b o hb e) ry
  ·intro i W ρ H fr ob s Q E le r hp q
   exact wpAny_pyIter_listiter (⟨ob,r.frAt Zz5,hp.1,hp.2⟩:s.heap.IsListIter k1.objs.size a i) q
  ·exact⟨rfl,rfl⟩
theorem Zua{a b c:Int}{H:Hp}{z:Nx×Nat×Hp}(h:ZcH a b c H=some z): c≠0∧Builtin.divisionGoesByPylong (b-a) c=false:=by
 unfold ZcH at h
 split at h
 ·rename_i hc
  exact⟨hc.1,hc.2.2.2.2⟩
 ·cases h
theorem ZwB{W0:Wd}{I:Addr}{a c:Int}{n:Nat}: Itr prog w Γ W0 (.ref I) [I] (fun i fs=>∃ob,fs=[(I,ob)]∧(i≤n∧ob = { cls:=.type "range_iterator",dict:=none,data:=.fields #[rawInt (a+(i:Nat)*c),rawInt ((n:Int)-(i:Nat)),rawInt c],slots:=#[] })) (Zf5 a c n):=by
 have Wk:=Walks.range (prog:=prog) (w:=w) Γ.hh I a c n
 refine ZoN (fun i ob=>i≤n∧ob = { cls:=.type "range_iterator",dict:=none,data:=.fields #[rawInt (a+(i:Nat)*c),rawInt ((n:Int)-(i:Nat)),rawInt c],slots:=#[] }) ?_ ?_
 ·intro i W ρ H fr ob s Q E o le r hp hn post
  have g:IsRangeIter s.heap I (a+(i:Nat)*c) ((n:Int)-(i:Nat)) c:=(r.frAt Zz5).trans (congrArg some hp.2)
  cases hn
  by_cases hi:i<n
  ·rw[if_pos hi]at post
   refine Wk.item i s Q E hi g fun v h' tk hv st keep=>?_
   obtain⟨t,e⟩:=hv
   subst e
   exact post _ h' tk _ ⟨hi,rfl⟩ st (fun b o hb e=>keep b o (by simpa using hb) e) (.int _ _)
  ·rw[if_neg hi]at post
   have e:i=n:=by have:=hp.1;omega
   subst e
   exact Wk.done s Q E g fun h' tk keep=>post h' tk fun b o hb e=>keep b o (by simpa using hb) e
 ·intro i W ρ H fr ob s Q E le r hp q
  have g:IsRangeIter s.heap I (a+(i:Nat)*c) ((n:Int)-(i:Nat)) c:=(r.frAt Zz5).trans (congrArg some hp.2)
  exact Wk.self i s Q E g q
theorem Zmk{a b c:Int}{t u v:Tok}{W:Wd}{ρ:Lc}{H:Hp}{fr:List (Addr×Obj)}{s:Shared}{k:Heap}{tk:Nat}{Q E:Value→Shared→Prop}{nx:Nx}{n:Nat}{H':Hp}(r:Rep Γ W ρ H fr k)(hm:ZcH a b c H=some (nx,n,H'))
  (post:∀(W':Wd) (h':Heap) (tk':Nat) (it:Value) (as:List Addr) (It:Nat→List (Addr×Obj)→Prop) (fs:List (Addr×Obj)),W.Le W'→It 0 fs→Rep Γ W' ρ H' (fs++fr) h'→(∀a∈as,∀t∈fr,a≠t.1)→Itr prog w Γ W' it as It nx→Q it { s with heap:=h',toks:=tk' }):
  wpAny (model prog w) Γ.A (pyIter (.ref k.objs.size)) Q E { s with heap:=k.push { cls:=.type "range",data:=.fields #[.int a t,.int b u,.int c v] },toks:=tk }:=by
 unfold ZcH at hm
 split at hm
 ·rename_i hc
  cases hm
  have hr:IsRange (k.push { cls:=.type "range",data:=.fields #[.int a t,.int b u,.int c v] }) k.objs.size a b c t u v:=IsRange.new ..
  refine wpAny_pyIter_range hr hc.2.1 ?_
  have rp:=r.push { cls:=.type "range",data:=.fields #[.int a t,.int b u,.int c v] }
  have en:Builtin.Range.rangeSize a b c=((rngN a b c:Nat):Int):=(Int.toNat_of_nonneg hc.2.2.1).symm
  dsimp only
  generalize hk:k.push { cls:=.type "range",data:=.fields #[.int a t,.int b u,.int c v] } = k2 at rp ⊢
  obtain⟨r2,ap⟩:=rp.more (fs:=[(k2.objs.size,{ cls:=.type "range_iterator",data:=.fields #[rawInt a,rawInt (Builtin.Range.rangeSize a b c),rawInt c] })]) (fun b' o e=>Heap.get?_push_of_some { cls:=.type "range_iterator",data:=.fields #[rawInt a,rawInt (Builtin.Range.rangeSize a b c),rawInt c] } e) (fun q hq=>by rw[List.mem_singleton.mp hq];exact⟨Heap.get?_push_size _ rfl,Nat.le_refl _⟩)
  refine post W _ tk _ [k2.objs.size] _ _ (.refl W) ⟨_,rfl,Nat.zero_le _,?_⟩ r2 (fun b hb t ht=>by rw[List.mem_singleton.mp hb];exact ap _ Zz5 t ht) (ZwB (a:=a) (c:=c) (n:=rngN a b c))
  rw[en]
  simp
 ·cases hm
theorem JI.range{x:Str}{np pos:Pos}{e:Expr}{es:List Expr}{g:Exs}(hn:Nm prog w Γ x (.type "range"))(h:Js prog w Γ (e::es) g)
  (he:starEach (e::es) Γ.env=(false,eval e Γ.env)::starEach es Γ.env:=by rfl) (hp:∀pos,(backTo pos (starEach es Γ.env)).any (·.1)=false:=by intro _;rfl):JI prog w Γ (.Call (.Name x np) (e::es) [] pos) (ZaL g):=by
 intro W ρ H fr s Q E nx n H' r hf post
 obtain⟨p,e1,hf⟩:=Zz0.mp hf
 refine wpAny_Call_ofName (hn.use r ?_)
 refine PySem.Pv.callWith_type1 (h pos W ρ H fr s _ E _ _ r e1 fun W1 k1 t1 xs l1 r1 x1=>?_) he (hp pos)
 obtain⟨vs,H1⟩:=p
 dsimp only at hf x1 r1
 have post1:=fun W' h' tk' it as It fs (l:W1.Le W')=>post W' h' tk' it as It fs (l1.trans l)
 split at hf
 ·obtain⟨y,ex,ry⟩:=x1.one
  subst ex
  cases ry
  exact call_range_1 (Zmk r1 hf post1)
 ·obtain⟨y,z,ex,ry,rz⟩:=x1.two
  subst ex
  cases ry
  cases rz
  exact call_range_2 (Zmk r1 hf post1)
 ·cases x1 with
  | cons ry x1=>
  obtain⟨y,z,ex,rz,ru⟩:=x1.two
  subst ex
  cases ry
  cases rz
  cases ru
  have hc:=Zua hf
  exact call_range_3 hc.1 (Zmk r1 hf post1) (.inl hc.2)
 ·cases hf
end
noncomputable def ZdA(nx:Nx)(put:V→Lc→Option Lc)(b:Sm): Nat→Nat→Sm
 | 0,_=>fun _ _=>none
 | n+1,i=>fun ρ H=>(nx i H).bind fun o=>match o with
  | none=>some (none,ρ,H)
  | some v=>(put v ρ).bind fun ρ1=>(b ρ1 H).bind fun q=>match q.1 with
   | some _=>some q
   | none=>ZdA nx put b n (i+1) q.2.1 q.2.2
noncomputable def ZaK(g:Src)(put:V→Lc→Option Lc)(b:Sm): Sm:=fun ρ H=>(g ρ H).bind fun z=>ZdA z.1 put b z.2.1 0 ρ z.2.2
noncomputable def put1(i:Nat): V→Lc→Option Lc:=fun v ρ=>some (upd ρ i v)
section
variable {prog:Program} {w:World} {Γ:Cx}
theorem Zbs{x:Str}{i:Nat}{px pos:Pos}{it:Expr}{body:List Stmt}{g:Src}{b:Sm}(hx:Sto prog w Γ x i)(hg:JI prog w Γ it g)(hb:Ss prog w Γ body b)(hs:∀x,foldedSetIterable it Γ.env x=pure x:=by intro _;rfl): S1 prog w Γ (.For (.Name x px) it body [] pos) (ZaK g (put1 i) b):=by
 intro W ρ H fr s Q E r rp hf post
 obtain⟨z,e1,hf⟩:=Zz0.mp hf
 obtain⟨nx,n,H0⟩:=z
 refine wpAny_For (hg W ρ H fr s _ E nx n H0 rp e1 fun W1 k1 t1 itv as It fs l1 i1 r1 ap I1=>?_) hs
 refine codeAny_forLoop (fun k s'=>∃W' ρ' H' h' tk' j fs',s' = { s with heap:=h',toks:=tk' }∧W1.Le W'∧It j fs'∧Rep Γ W' ρ' H' (fs'++fr) h'∧ZdA nx (put1 i) b k j ρ' H'=some r) ?_ n ⟨W1,ρ,H0,k1,t1,0,fs,rfl,.refl _,i1,r1,hf⟩
 rintro k s' ⟨W2,ρ2,H2,k2,t2,j,fs2,rfl,l2,i2,r2,e⟩
 cases k with
 | zero=>cases e
 | succ k=>
  obtain⟨o,e2,e⟩:=Zz0.mp e
  refine I1.next j W2 ρ2 H2 fr fs2 _ _ _ o l2 r2 ap i2 e2 ?_
  cases o with
  | none=>
   cases e
   intro h' tk' r3
   exact wpAny_execs_nil (post W2 h' tk' (l1.trans l2) r3)
  | some v=>
   intro fs3 k3 t3 y i3 r3 y3
   obtain⟨ρ3,e3,e⟩:=Zz0.mp e
   cases e3
   obtain⟨q,e4,e⟩:=Zz0.mp e
   refine wpAny_assign_Name (hx W2 ρ2 H2 (fs3++fr) _ _ _ v y r3 y3 fun k4 t4 r4=>?_)
   refine hb W2 _ H2 (fs3++fr) _ _ _ q r4 e4 ?_
   obtain⟨u,ρ5,H5⟩:=q
   cases u with
   | some u=>
    cases e
    exact fun W5 k5 t5 x5 l5 r5 v5=>post W5 k5 t5 x5 ((l1.trans l2).trans l5) (r5.less fun q hq=>List.mem_append_right _ hq) v5
   | none=>exact fun W5 k5 t5 l5 r5=>⟨k,Nat.lt_succ_self k,W5,ρ5,H5,k5,t5,j+1,fs3,rfl,l2.trans l5,i3,r5,e⟩
end
end PM
end
section
namespace PM
open PySem PySem.W PySem.Calls PyProof.Rows PyProof
structure OwnF(names:List Str)(cs:Scope)(cl:List (Str×Addr))(W:Wd)(ρ:Lc)(m:Str→Option Value)(cells:List (Addr×Obj)): Prop where
 loc:∀(i:Nat) (x:Str) (v:V),names[i]?=some x→cs.names.lookup x=some .local→ρ i=some v→∃y,m x=some y∧VR W v y
 cel:∀(i:Nat) (x:Str) (v:V),names[i]?=some x→cs.names.lookup x=some .cell→ρ i=some v→∃c o y,cl.lookup x=some c∧(c,o)∈cells∧o.data=.cell (some y)∧VR W v y
 all:∀(x:Str) (c:Addr),cl.lookup x=some c→∃o v₀,(c,o)∈cells∧o.data=.cell v₀
 one:∀(x y:Str) (c:Addr),cl.lookup x=some c→cl.lookup y=some c→x=y
theorem OwnF.mono{names:List Str}{cs:Scope}{cl:List (Str×Addr)}{W W':Wd}{ρ:Lc}{m:Str→Option Value}{cells:List (Addr×Obj)}(l:W.Le W')(h:OwnF names cs cl W ρ m cells): OwnF names cs cl W' ρ m cells:=
 ⟨fun i x v a b c=>by
  obtain⟨y,h1,h2⟩:=h.loc i x v a b c
  exact⟨y,h1,h2.mono l⟩,fun i x v a b c=>by
  obtain⟨d,o,y,h1,h2,h3,h4⟩:=h.cel i x v a b c
  exact⟨d,o,y,h1,h2,h3,h4.mono l⟩,h.all,h.one⟩
noncomputable def ZbT(dp un:Nat)(gd:Option (List Code))(cn:Str)(cs:Scope)(L a:Addr)(ccd:Value)(cl:List (Str×Addr))(outer:List Env)(h₀:Heap)(hu:un+200<cLine)(names:List Str): Cx where
 A:=ktrTop dp un gd cn cs L a ccd cl outer
 env:=envX cn cs L a ccd cl
 h₀:=h₀
 L:=L
 hh:=rfl
 hu:=hu
 Own:=OwnF names cs cl
 mono:=OwnF.mono
section
variable {prog:Program} {w:World} {dp un:Nat} {gd:Option (List Code)} {cn:Str} {cs:Scope} {L a:Addr} {ccd:Value} {cl:List (Str×Addr)} {outer:List Env} {h₀:Heap} {hu:un+200<cLine} {names:List Str}
theorem Zyw{x:Str}{i:Nat}(hi:names[i]?=some x)(hx:cs.names.lookup x=some .local)(hk:cs.kind=.function)(hd:(x == ("__debug__":Str))=false): Rd prog w (ZbT dp un gd cn cs L a ccd cl outer h₀ hu names) x i:=by
 intro W ρ H fr s Q E v pos r e q
 obtain⟨m,c,led,r⟩:=r
 obtain⟨y,h1,h2⟩:=r.own.loc i x v hi hx e
 exact nameX_L r.F h1 (q y h2) hk hx hd
theorem Zyx{x:Str}{i:Nat}(hi:names[i]?=some x)(hx:cs.names.lookup x=some .cell)(hk:cs.kind=.function)(hd:(x == ("__debug__":Str))=false): Rd prog w (ZbT dp un gd cn cs L a ccd cl outer h₀ hu names) x i:=by
 intro W ρ H fr s Q E v pos r e q
 obtain⟨m,c,led,r⟩:=r
 obtain⟨d,o,y,h1,h2,h3,h4⟩:=r.own.cel i x v hi hx e
 exact nameX_C r.N h1 (r.clIn _ h2) h3 (q y h4) hk hx hd
theorem Zxo{x:Str}{i:Nat}(nd:names.Nodup)(hi:names[i]?=some x)(hx:cs.names.lookup x=some .local)(hk:cs.kind=.function): Sto prog w (ZbT dp un gd cn cs L a ccd cl outer h₀ hu names) x i:=by
 intro W ρ H fr s Q E v y r vy q
 obtain⟨m,c,led,r⟩:=r
 have hi':i<names.length:=(Zz6.mp hi).1
 refine storeX_L r.F r.N (fun h' F' N'=>q h' _ ⟨_,c,led,⟨F',N',r.R,r.sc,r.sc0,r.frIn,r.frOff,r.clIn,r.clOff,r.apart,r.frTup,r.clTup,⟨fun j z u hj hz hu=>?_,fun j z u hj hz hu=>?_,r.own.all,r.own.one⟩⟩⟩) hk hx
 ·by_cases e:j=i
  ·subst e
   rw[hi]at hj
   cases hj
   simp only[upd,if_true]at hu
   cases hu
   exact⟨y,by simp,vy⟩
  ·have hzx:z≠x:=fun e'=>by
    subst e'
    exact e ((List.getElem?_inj (Zz6.mp hj).1 nd).mp (hj.trans hi.symm))
   simp only[upd,if_neg e]at hu
   obtain⟨y',h1,h2⟩:=r.own.loc j z u hj hz hu
   exact⟨y',by simp[hzx,h1],h2⟩
 ·by_cases e:j=i
  ·subst e
   rw[hi]at hj
   cases hj
   rw[hx]at hz
   cases hz
  ·simp only[upd,if_neg e]at hu
   exact r.own.cel j z u hj hz hu
theorem Zxp{x:Str}{i:Nat}(nd:names.Nodup)(hi:names[i]?=some x)(hx:cs.names.lookup x=some .cell)(hk:cs.kind=.function)(hcl:(cl.lookup x).isSome=true): Sto prog w (ZbT dp un gd cn cs L a ccd cl outer h₀ hu names) x i:=by
 intro W ρ H fr s Q E v y r vy q
 obtain⟨m,c,led,r⟩:=r
 obtain⟨d,hd⟩:=Option.isSome_iff_exists.mp hcl
 obtain⟨o,v₀,ho,hv₀⟩:=r.own.all x d hd
 have inl:=r.clIn _ ho
 have N2:News h₀ L s.heap ((d,o)::led.filter (fun q=>decide (q.1≠d))):=by
  intro q hq
  rcases Zz7.mp hq with e | hq
  ·subst e
   exact r.N _ inl
  ·exact r.N q (List.mem_filter.mp hq).1
 refine storeX_C r.F N2 hd (UpdF.head fun q hq=>by simpa using (List.mem_filter.mp hq).2) hv₀ (fun h' o' F' N' ho'=>?_) hk hx
 have keep:∀q∈led,q.1≠d→q∈(d,o')::led.filter (fun q=>decide (q.1≠d)):=fun q hq hn=>List.mem_cons_of_mem _ (List.mem_filter.mpr ⟨hq,by simpa using hn⟩)
 refine q h' s.toks ⟨m,(d,o')::c.filter (fun q=>decide (q.1≠d)),_,⟨F',N',⟨r.R.len,r.R.nd,fun j vs e=>?_,fun q hq=>ZeJ (r.R.tups q hq) fun z=>keep q z (r.clTup _ ho q hq).symm,r.R.kind⟩,r.sc,r.sc0,fun q hq=>keep q (r.frIn q hq) (r.apart _ ho q hq).symm,r.frOff,fun q hq=>?_,fun q hq=>?_,fun q hq t ht=>?_,r.frTup,fun q hq t ht=>?_,⟨fun j z u hj hz hu=>?_,fun j z u hj hz hu=>?_,fun z e hz=>?_,r.own.one⟩⟩⟩
 ·obtain⟨l,b,xs,k,h1,h2,h3⟩:=r.R.lists j vs e
  exact⟨l,b,xs,k,h1,ZeJ h2 fun z=>keep _ z fun e=>r.clOff _ ho (e▸List.mem_of_getElem? h1),h3⟩
 ·rcases Zz7.mp hq with e | hq
  ·exact e▸List.mem_cons_self
  ·obtain⟨h1,h2⟩:=List.mem_filter.mp hq
   exact keep q (r.clIn q h1) (by simpa using h2)
 ·rcases Zz7.mp hq with e | hq
  ·rw[e]
   exact(r.clOff _ ho:d∉W.pi)
  ·exact r.clOff q (List.mem_filter.mp hq).1
 ·rcases Zz7.mp hq with e | hq
  ·rw[e]
   exact(r.apart _ ho t ht:d≠t.1)
  ·exact r.apart q (List.mem_filter.mp hq).1 t ht
 ·rcases Zz7.mp hq with e | hq
  ·rw[e]
   exact(r.clTup _ ho t ht:d≠t.1)
  ·exact r.clTup q (List.mem_filter.mp hq).1 t ht
 ·by_cases e:j=i
  ·subst e
   rw[hi]at hj
   cases hj
   rw[hx]at hz
   cases hz
  ·simp only[upd,if_neg e]at hu
   exact r.own.loc j z u hj hz hu
 ·by_cases e:j=i
  ·subst e
   rw[hi]at hj
   cases hj
   simp only[upd,if_true]at hu
   cases hu
   exact⟨d,o',y,hd,List.mem_cons_self,ho',vy⟩
  ·have hzx:z≠x:=fun e'=>by
    subst e'
    exact e ((List.getElem?_inj (Zz6.mp hj).1 nd).mp (hj.trans hi.symm))
   simp only[upd,if_neg e]at hu
   obtain⟨b,ob,y',h1,h2,h3,h4⟩:=r.own.cel j z u hj hz hu
   have:b≠d:=fun e'=>by
    subst e'
    exact hzx (r.own.one z x b h1 hd)
   exact⟨b,ob,y',h1,List.mem_cons_of_mem _ (List.mem_filter.mpr ⟨h2,by simpa using this⟩),h3,h4⟩
 ·by_cases e':e=d
  ·subst e'
   exact⟨o',_,List.mem_cons_self,ho'⟩
  ·obtain⟨ob,v1,h1,h2⟩:=r.own.all z e hz
   exact⟨ob,v1,List.mem_cons_of_mem _ (List.mem_filter.mpr ⟨h1,by simpa using e'⟩),h2⟩
end
end PM
end
section
namespace PM
open PySem PySem.W PySem.Calls PyProof.Rows PyProof PyProof.Rows.LCg
theorem Zg6{Γ:Cx}{W:Wd}{ρ:Lc}{H:Hp}{fr:List (Addr×Obj)}{h:Heap}{D:Addr}{ys:List Value}{k:Nat}{vs:List V}(r:Rep Γ W ρ H ((D,Zb7 ys k)::fr) h)(ap:∀t∈fr,D≠t.1)(hv:VRs W vs ys)(hl:vs.length≤LEN):
  ∃W',W.Le W'∧Rep Γ W' ρ (H++[vs]) fr h∧VR W' (.ref H.length) (.ref D):=by
 obtain⟨m,c,led,r⟩:=r
 have le:W.Le ⟨W.pi++[D],W.tups,W.sc⟩:=⟨List.prefix_append _ _,fun q hq=>hq,rfl⟩
 have h0:0<W.pi.length:=(Zz6.mp r.sc0).1
 have at_n:(W.pi++[D])[H.length]?=some D:=by rw[←r.R.len];simp
 have off:=r.frOff _ Zz5
 refine⟨⟨W.pi++[D],W.tups,W.sc⟩,le,⟨m,c,led,⟨r.F,r.N,⟨by simp[r.R.len],?_,fun i us e=>?_,r.R.tups,r.R.kind⟩,r.sc,(List.getElem?_append_left h0).trans r.sc0,fun q hq=>r.frIn q (Zz2 _ hq),fun q hq=>?_,r.clIn,fun q hq=>?_,fun q hq t ht=>r.apart q hq t (Zz2 _ ht),fun q hq=>r.frTup q (Zz2 _ hq),r.clTup,Γ.mono le r.own⟩⟩,.ref at_n⟩
 ·show(W.pi++[D]).Nodup
  rw[List.nodup_append]
  refine⟨r.R.nd,by simp,fun a ha b hb=>?_⟩
  rw[List.mem_singleton.mp hb]
  exact fun e=>off (e▸ha)
 ·by_cases hi:i<H.length
  ·rw[List.getElem?_append_left hi]at e
   obtain⟨l,a,zs,j,h1,h2,h3⟩:=r.R.lists i us e
   exact⟨l,a,zs,j,le.at h1,h2,h3.mono le⟩
  ·have:i=H.length:=by
    have:=(Zz6.mp e).1
    simp at this
    omega
   subst this
   simp at e
   subst e
   exact⟨hl,D,ys,k,at_n,List.mem_cons_of_mem _ (r.frIn _ Zz5),hv.mono le⟩
 ·intro hm
  rcases Zz8.mp hm with hm | hm
  ·exact r.frOff q (Zz2 _ hq) hm
  ·exact ap q hq (Zz9.mp hm).symm
 ·intro hm
  rcases Zz8.mp hm with hm | hm
  ·exact r.clOff q hq hm
  ·exact r.apart q hq _ Zz5 (Zz9.mp hm)
def ZzY(Γ:Cx)(C:Addr)(ts:List (Str×Nat))(ρ0:Lc)(W:Wd)(ρ:Lc)(m:Str→Option Value)(cells:List (Addr×Obj)): Prop:=
 ∃oC m₂ cs,cells=(C,oC)::cs∧(∀q∈cs,q.1≠C)∧NsObj oC m₂∧(∀p∈ts,∃v y,ρ p.2=some v∧m₂ p.1=some y∧VR W v y)∧(∀j,(∀p∈ts,p.2≠j)→ρ j=ρ0 j)∧Γ.Own W ρ0 m cs
noncomputable def Zbu(Γ:Cx)(scope:Scope)(cl:List (Str×Addr))(C:Addr)(ts:List (Str×Nat))(ρ0:Lc): Cx where
 A:=Γ.A
 env:=compEnvC scope cl C Γ.env
 h₀:=Γ.h₀
 L:=Γ.L
 hh:=Γ.hh
 hu:=Γ.hu
 Own:=ZzY Γ C ts ρ0
 mono:=fun l h=>by
  obtain⟨oC,m₂,cs,e,h0,h1,h2,h3,h4⟩:=h
  exact⟨oC,m₂,cs,e,h0,h1,fun p hp=>by
   obtain⟨v,y,a,b,c⟩:=h2 p hp
   exact⟨v,y,a,b,c.mono l⟩,h3,Γ.mono l h4⟩
section
variable {Γ:Cx} {scope:Scope} {cl:List (Str×Addr)} {C:Addr} {ts:List (Str×Nat)} {ρ0:Lc} {W:Wd} {ρ:Lc} {H:Hp} {fr:List (Addr×Obj)} {h:Heap}
theorem ZrN{oC:Obj}{m₂:Str→Option Value}(r:Rep Γ W ρ0 H ((C,oC)::fr) h)(ap:∀t∈fr,C≠t.1)(hC:NsObj oC m₂)(ht:∀p∈ts,∃v y,ρ p.2=some v∧m₂ p.1=some y∧VR W v y)(hj:∀j,(∀p∈ts,p.2≠j)→ρ j=ρ0 j): Rep (Zbu Γ scope cl C ts ρ0) W ρ H fr h:=by
 obtain⟨m,c,led,r⟩:=r
 refine⟨m,(C,oC)::c,led,⟨r.F,r.N,r.R,r.sc,r.sc0,fun q hq=>r.frIn q (Zz2 _ hq),fun q hq=>r.frOff q (Zz2 _ hq),fun q hq=>?_,fun q hq=>?_,fun q hq t ht=>?_,fun q hq=>r.frTup q (Zz2 _ hq),fun q hq t ht=>?_,⟨oC,m₂,c,rfl,fun q hq=>r.apart q hq _ Zz5,hC,ht,hj,r.own⟩⟩⟩
 ·rcases Zz7.mp hq with e | hq
  ·exact e▸r.frIn _ Zz5
  ·exact r.clIn q hq
 ·rcases Zz7.mp hq with e | hq
  ·exact e▸r.frOff _ Zz5
  ·exact r.clOff q hq
 ·rcases Zz7.mp hq with e | hq
  ·exact e▸ap t ht
  ·exact r.apart q hq t (Zz2 _ ht)
 ·rcases Zz7.mp hq with e | hq
  ·exact e▸r.frTup _ Zz5 t ht
  ·exact r.clTup q hq t ht
theorem Rep.fromC(r:Rep (Zbu Γ scope cl C ts ρ0) W ρ H fr h): ∃oC m₂,NsObj oC m₂∧Rep Γ W ρ0 H ((C,oC)::fr) h:=by
 obtain⟨m,c,led,r⟩:=r
 obtain⟨oC,m₂,cs,e,h0,h1,h2,h3,h4⟩:=r.own
 subst e
 refine⟨oC,m₂,h1,m,cs,led,⟨r.F,r.N,r.R,r.sc,r.sc0,fun q hq=>?_,fun q hq=>?_,fun q hq=>r.clIn q (Zz2 _ hq),fun q hq=>r.clOff q (Zz2 _ hq),fun q hq t ht=>?_,fun q hq t ht=>?_,fun q hq=>r.clTup q (Zz2 _ hq),h4⟩⟩
 ·rcases Zz7.mp hq with e | hq
  ·exact e▸r.clIn _ Zz5
  ·exact r.frIn q hq
 ·rcases Zz7.mp hq with e | hq
  ·exact e▸r.clOff _ Zz5
  ·exact r.frOff q hq
 ·rcases Zz7.mp ht with e | ht
  ·rw[e]
   exact h0 q hq
  ·exact r.apart q (Zz2 _ hq) t ht
 ·rcases Zz7.mp hq with e | hq
  ·exact e▸r.clTup _ Zz5 t ht
  ·exact r.frTup q hq t ht
end
def JF(prog:Program)(w:World)(Γ:Cx)(ifs:List Expr)(f:Ts): Prop:=∀(W:Wd) (ρ:Lc) (H:Hp) (fr:List (Addr×Obj)) (s:Shared) (Q:Bool→Shared→Prop) (E:Value→Shared→Prop) (b:Bool) (H':Hp),
 Rep Γ W ρ H fr s.heap→f ρ H=some (b,H')→ZjG Γ W ρ H' fr s Q b →
 wpAny (model prog w) Γ.A (forIn ifs true fun c r=>if r=true then do let ok ←isTrue c Γ.env (eval c Γ.env);pure (ForInStep.yield ok)else pure (ForInStep.yield r)) Q E s
section
variable {prog:Program} {w:World} {Γ:Cx}
theorem JF.nil: JF prog w Γ [] Zao:=fun W ρ H fr s Q E b H' r hf post=>by
 cases hf
 exact wpAny_pure (post W s.heap s.toks (.refl W) r)
theorem JF.one{e:Expr}{t:Ts}(h:JT prog w Γ e t): JF prog w Γ [e] t:=fun W ρ H fr s Q E b H' r hf post=>by
 rw[List.forIn_cons]
 simp only[if_true,List.forIn_nil]
 refine wpAny_bind (wpAny_bind (h W ρ H fr s _ E b H' r hf fun W1 k1 t1 l1 r1=>wpAny_pure ?_))
 exact wpAny_pure (post W1 k1 t1 l1 r1)
end
end PM
end
section
namespace PM
open PySem PySem.W PySem.Calls PyProof.Rows PyProof PyProof.Rows.LCg
noncomputable def Zc6(nx:Nx)(put:V→Lc→Option Lc)(c:Ts)(f:Ex)(ρ:Lc): Nat→Nat→List V→Hp→Option (List V×Hp)
 | 0,_,_,_=>none
 | n+1,i,acc,H=>(nx i H).bind fun o=>match o with
  | none=>some (acc,H)
  | some v=>(put v ρ).bind fun ρ1=>(c ρ1 H).bind fun b=>if b.1 then(f ρ1 b.2).bind fun p=>(if acc.length<LEN then Zc6 nx put c f ρ n (i+1) (acc++[p.1]) p.2 else none)else Zc6 nx put c f ρ n (i+1) acc b.2
noncomputable def Zaw(g:Src)(put:V→Lc→Option Lc)(c:Ts)(f:Ex): Ex:=fun ρ H=>(g ρ H).bind fun z=>(Zc6 z.1 put c f ρ z.2.1 0 [] z.2.2).map fun q=>(.ref q.2.length,q.2++[q.1])
def ZhM(Γ:Cx)(W0:Wd)(ρ:Lc)(fr:List (Addr×Obj))(C D:Addr)(It:Nat→List (Addr×Obj)→Prop)(nx:Nx)(put:V→Lc→Option Lc)(c:Ts)(f:Ex)(q:List V×Hp)(s:Shared)(k:Nat)(s':Shared): Prop:=
 ∃W' H' h' tk' j fs acc ys oC m₂,s' = { s with heap:=h',toks:=tk' }∧W0.Le W'∧It j fs∧NsObj oC m₂∧VRs W' acc ys∧acc.length≤LEN∧Rep Γ W' ρ H' ((C,oC)::(D,lst ys)::(fs++fr)) h'∧Zc6 nx put c f ρ k j acc H'=some q
section
variable {prog:Program} {w:World} {Γ:Cx}
theorem ZqR{scope:Scope}{cl:List (Str×Addr)}{elt:Expr}{ts:List (Str×Nat)}{W0 W:Wd}{ρ ρ1:Lc}{H:Hp}{fr fs:List (Addr×Obj)}{C D:Addr}{It:Nat→List (Addr×Obj)→Prop}{nx:Nx}{put:V→Lc→Option Lc}{c:Ts}{f:Ex}{q:List V×Hp}{s:Shared}{h:Heap}{tk:Nat}{k j:Nat}{acc:List V}{ys:List Value}{E:Value→Shared→Prop}
  (hel:J prog w (Zbu Γ scope cl C ts ρ) elt f) (aD:∀t∈fs++fr,D≠t.1) (cd:C≠D) (l0:W0.Le W) (hit:It (j+1) fs) (hv:VRs W acc ys) (r:Rep (Zbu Γ scope cl C ts ρ) W ρ1 H ((D,lst ys)::(fs++fr)) h)
  (e:((f ρ1 H).bind fun p=>(if acc.length<LEN then Zc6 nx put c f ρ k (j+1) (acc++[p.1]) p.2 else none))=some q):
  wpAny (model prog w) Γ.A (eval elt (compEnvC scope cl C Γ.env)) (fun x s₄=>wpAny (model prog w) Γ.A (call (.builtin "list.append") [.ref D,x]) (fun _ s₅=>∃m,m<k+1∧ZhM Γ W0 ρ fr C D It nx put c f q s m s₅) E s₄) E { s with heap:=h,toks:=tk }:=by
 obtain⟨p,e2,e⟩:=Zz0.mp e
 by_cases hlt:acc.length<LEN
 ·rw[if_pos hlt]at e
  refine hel W ρ1 H _ _ _ E _ _ r e2 fun W2 k2 t2 x l2 r2 x2=>?_
  obtain⟨oC',m₃,hC',r3⟩:=r2.fromC
  have hD:k2.get? D=some (lst ys):=r3.frAt (q:=(D,lst ys)) (Zz2 _ Zz5)
  refine append_at (hsz:=Zdc (by rw[List.size_toArray,hv.length];omega)) hD fun h' sb hg=>?_
  have hg':h'.get? D=some (lst (ys++[x])):=hg.trans (congrArg some (lst_snoc ys x))
  have r4:Rep Γ W2 ρ p.2 ([(D,lst ys)]++((C,oC')::(fs++fr))) k2:=r3.less fun q hq=>by
   rcases Zz8.mp hq with hq | hq
   ·rw[List.mem_singleton.mp hq]
    exact Zz2 _ Zz5
   ·rcases Zz7.mp hq with e | hq
    ·exact e▸List.mem_cons_self
    ·exact Zz2 _ (Zz2 _ hq)
  have r5:Rep Γ W2 ρ p.2 ([(D,lst (ys++[x]))]++((C,oC')::(fs++fr))) h':=by
   refine r4.swap (fun q hq t ht=>?_) (fun b o hb e=>sb.extBut b o (fun z=>hb (by simp[z])) e) fun q hq=>?_
   ·rw[List.mem_singleton.mp hq]
    rcases Zz7.mp ht with e | ht
    ·rw[e]
     exact cd.symm
    ·exact aD t ht
   ·rw[List.mem_singleton.mp hq]
    exact⟨hg',by simp⟩
  have r6:Rep Γ W2 ρ p.2 ((C,oC')::(D,lst (ys++[x]))::(fs++fr)) h':=r5.less fun q hq=>by
   rcases Zz7.mp hq with e | hq
   ·exact e▸List.mem_append_right _ Zz5
   ·rcases Zz7.mp hq with e | hq
    ·exact e▸List.mem_append_left _ Zz5
    ·exact Zz3 _ (Zz2 _ hq)
  exact⟨k,Nat.lt_succ_self k,W2,p.2,h',t2,j+1,fs,acc++[p.1],ys++[x],oC',m₃,rfl,l0.trans l2,hit,hC',(hv.mono l2).snoc x2,by simp;omega,r6,e⟩
 ·rw[if_neg hlt]at e
  cases e
theorem ZwC{scope:Scope}{cl:List (Str×Addr)}{elt:Expr}{ifs:List Expr}{ts:List (Str×Nat)}{W0 W:Wd}{ρ ρ1:Lc}{H:Hp}{fr fs:List (Addr×Obj)}{C D:Addr}{It:Nat→List (Addr×Obj)→Prop}{nx:Nx}{put:V→Lc→Option Lc}{c:Ts}{f:Ex}{q:List V×Hp}{s s1:Shared}{k j:Nat}{acc:List V}{ys:List Value}{oC:Obj}{m₂:Str→Option Value}{E:Value→Shared→Prop}
  (hel:J prog w (Zbu Γ scope cl C ts ρ) elt f) (hif:JF prog w (Zbu Γ scope cl C ts ρ) ifs c) (hs:∃h tk,s1 = { s with heap:=h,toks:=tk })
  (aC:∀t∈(D,lst ys)::(fs++fr),C≠t.1) (aD:∀t∈fs++fr,D≠t.1) (l0:W0.Le W) (hit:It (j+1) fs) (hC:NsObj oC m₂) (hv:VRs W acc ys) (hl:acc.length≤LEN) (r:Rep Γ W ρ H ((C,oC)::(D,lst ys)::(fs++fr)) s1.heap)
  (ht:∀p∈ts,∃v y,ρ1 p.2=some v∧m₂ p.1=some y∧VR W v y) (hj:∀i,(∀p∈ts,p.2≠i)→ρ1 i=ρ i)
  (e:((c ρ1 H).bind fun b=>if b.1 then(f ρ1 b.2).bind fun p=>(if acc.length<LEN then Zc6 nx put c f ρ k (j+1) (acc++[p.1]) p.2 else none)else Zc6 nx put c f ρ k (j+1) acc b.2)=some q):
  wpAny (model prog w) Γ.A (forIn ifs true fun c r=>if r=true then do let ok ←isTrue c (compEnvC scope cl C Γ.env) (eval c (compEnvC scope cl C Γ.env));pure (ForInStep.yield ok)else pure (ForInStep.yield r)) (fun ok s₃=>
   if ok=true then wpAny (model prog w) Γ.A (eval elt (compEnvC scope cl C Γ.env)) (fun x s₄=>wpAny (model prog w) Γ.A (call (.builtin "list.append") [.ref D,x]) (fun _ s₅=>∃m,m<k+1∧ZhM Γ W0 ρ fr C D It nx put c f q s m s₅) E s₄) E s₃
   else ∃m,m<k+1∧ZhM Γ W0 ρ fr C D It nx put c f q s m s₃) E s1:=by
 obtain⟨h,tk,rfl⟩:=hs
 obtain⟨b,e1,e⟩:=Zz0.mp e
 obtain⟨b,H1⟩:=b
 have rc:=ZrN (scope:=scope) (cl:=cl) r aC hC ht hj
 refine hif W ρ1 H _ _ _ E b H1 rc e1 fun W1 k1 t1 l1 r1=>?_
 cases b with
 | false=>
  obtain⟨oC',m₃,hC',r2⟩:=r1.fromC
  exact⟨k,Nat.lt_succ_self k,W1,H1,k1,t1,j+1,fs,acc,ys,oC',m₃,rfl,l0.trans l1,hit,hC',hv.mono l1,hl,r2,e⟩
 | true=>exact ZqR hel aD (aC (D,lst ys) Zz5) (l0.trans l1) hit (hv.mono l1) r1 e
theorem comp_core{elt iter:Expr}{x:Str}{px:Pos}{ifs:List Expr}{scope:Scope}{pos:Pos}{cl:List (Str×Addr)}{t:Nat}{g:Src}{c:Ts}{f:Ex}(hg:JI prog w Γ iter g)(hel:∀C ρ,J prog w (Zbu Γ scope cl C [(x,t)] ρ) elt f)(hif:∀C ρ,JF prog w (Zbu Γ scope cl C [(x,t)] ρ) ifs c)
  (hcell:∀y∈scope.names,y.2≠.cell) (hkind:scope.kind=.function) (hx:scope.names.lookup x=some .local)
  {W:Wd} {ρ:Lc} {H:Hp} {fr:List (Addr×Obj)} {s:Shared} {E:Value→Shared→Prop} {q:List V×Hp} {RR:Value→Addr→Result→Shared→Prop} (r:Rep Γ W ρ H fr s.heap) (hf:((g ρ H).bind fun z=>Zc6 z.1 (put1 t) c f ρ z.2.1 0 [] z.2.2)=some q)
  (hR:∀(W':Wd) (h':Heap) (tk':Nat) (C D:Addr) (oC:Obj) (m₂:Str→Option Value) (ys:List Value),W.Le W'→NsObj oC m₂→VRs W' q.1 ys→q.1.length≤LEN→(∀t∈fr,D≠t.1)→(∀t∈fr,C≠t.1)→C≠D→Rep Γ W' ρ q.2 ((C,oC)::(D,lst ys)::fr) h'→RR (.ref D) C (.ok .next) { s with heap:=h',toks:=tk' }):
  wpAny (model prog w) Γ.A (eval iter Γ.env) (fun xv s₁=>wpAny (model prog w) Γ.A (pyIter xv) (fun it s₂=>wpAny (model prog w) Γ.A (newList []) (fun acc s₃=>wpAny (model prog w) Γ.A (newFunctionEnv scope Γ.env.globals cl [] Γ.env.qual none .none (some Γ.env)) (fun cenv s₄=>
   codeAny (model prog w) Γ.A (.compStart (.ListComp elt [⟨.Name x px,iter,ifs,0⟩] scope pos) 0 it acc { cenv with scope:=relabel scope Γ.env }) (RR acc cenv.locals) s₄) E s₃) E s₂) E s₁) E s:=by
 obtain⟨z,e1,e2⟩:=Zz0.mp hf
 obtain⟨nx,n,H0⟩:=z
 refine hg W ρ H fr s _ E nx n H0 r e1 fun W1 k1 t1 itv as It fs l1 i1 r1 ap I1=>?_
 refine wpAny_newObj_type (wpAny_newFunctionEnv hcell (fun y hy=>by simp at hy) (fun h₂ hns hsb=>?_) hkind)
 dsimp only at hns hsb ⊢
 obtain⟨rD,aD⟩:=r1.more (fs:=[(k1.objs.size,lst [])]) (fun b o e=>Heap.get?_push_of_some (lst []) e) (fun q hq=>by rw[List.mem_singleton.mp hq];exact⟨Heap.get?_push_size _ rfl,Nat.le_refl _⟩)
 generalize eH:k1.push { cls:=.type "list",dict:=none,data:=.seq ([]:List Value).toArray } = K at hns hsb ⊢
 have eK:k1.push (lst [])=K:=eH
 rw[eK]at rD
 obtain⟨oC,gC,nC⟩:=ns_obj hns
 have up:∀b o,K.get? b=some o→h₂.get? b=some o:=fun b o e=>hsb.extBut b o (Nat.ne_of_lt (Heap.lt_size e)) (Heap.get?_push_of_some _ e)
 obtain⟨rC,aC⟩:=rD.more (fs:=[(K.objs.size,oC)]) up (fun q hq=>by rw[List.mem_singleton.mp hq];exact⟨gC,Nat.le_refl _⟩)
 have adr0:=I1.adr 0 fs i1
 have offs:∀b∈as,b≠k1.objs.size∧b≠K.objs.size:=fun b hb=>by
  rw[←adr0]at hb
  obtain⟨q,hq,e⟩:=Zz11.mp hb
  exact⟨e▸(aD _ Zz5 q (Zz4 _ hq)).symm,e▸(aC _ Zz5 q (Zz3 _ (Zz4 _ hq))).symm⟩
 have cd:K.objs.size≠k1.objs.size:=aC _ Zz5 (k1.objs.size,lst []) (Zz4 _ Zz5)
 have cfr:∀t∈fr,K.objs.size≠t.1:=fun t ht=>aC _ Zz5 t (Zz3 _ (Zz3 _ ht))
 have dfr:∀t∈fr,k1.objs.size≠t.1:=fun t ht=>aD _ Zz5 t (Zz3 _ ht)
 generalize k1.objs.size=D at *
 generalize K.objs.size=C at *
 have loop:∀s₃:Shared,s₃ = { s with heap:=h₂,toks:=t1+([]:List (Str×Value)).length } →
   codeAny (model prog w) Γ.A (.compLoop (.ListComp elt [⟨.Name x px,iter,ifs,0⟩] scope pos) 0 itv (.ref D) (compEnvC scope cl C Γ.env)) (RR (.ref D) C) s₃:=by
  intro s₃ hs₃
  subst hs₃
  refine codeAny_compLoop_tests (ZhM Γ W1 ρ fr C D It nx (put1 t) c f q s) ?_ n ⟨W1,H0,h₂,_,0,fs,[],[],oC,_,rfl,.refl _,i1,nC,.nil,Nat.zero_le _,rC,e2⟩
  rintro k s' ⟨W2,H2,k2,t2,j,fs2,acc,ys,oC2,m₂,rfl,l2,i2,hC2,hv2,hl2,r2,e⟩
  cases k with
  | zero=>cases e
  | succ k=>
   obtain⟨o,e4,e⟩:=Zz0.mp e
   have r2':Rep Γ W2 ρ H2 (fs2++((C,oC2)::(D,lst ys)::fr)) k2:=r2.less fun q hq=>by
    rcases Zz8.mp hq with hq | hq
    ·exact Zz2 _ (Zz2 _ (Zz4 _ hq))
    ·rcases Zz7.mp hq with e | hq
     ·exact e▸List.mem_cons_self
     ·rcases Zz7.mp hq with e | hq
      ·exact e▸List.mem_cons_of_mem _ Zz5
      ·exact Zz2 _ (Zz2 _ (Zz3 _ hq))
   have ap2:∀b∈as,∀t∈(C,oC2)::(D,lst ys)::fr,b≠t.1:=fun b hb t ht=>by
    rcases Zz7.mp ht with e | ht
    ·rw[e]
     exact(offs b hb).2
    ·rcases Zz7.mp ht with e | ht
     ·rw[e]
      exact(offs b hb).1
     ·exact ap b hb t ht
   refine I1.next j W2 ρ H2 _ fs2 _ _ _ o l2 r2' ap2 i2 e4 ?_
   cases o with
   | none=>
    cases e
    intro h' tk' r3
    exact hR W2 h' tk' C D oC2 m₂ ys (l1.trans l2) hC2 hv2 hl2 dfr cfr cd r3
   | some v=>
    intro fs3 k3 t3 y i3 r3 y3
    obtain⟨ρ3,e5,e⟩:=Zz0.mp e
    cases e5
    have a3:∀t∈fs3,t.1∈as:=fun t ht=>by
     rw[←I1.adr _ _ i3]
     exact List.mem_map_of_mem ht
    have gC3:k3.get? C=some oC2:=r3.frAt (q:=(C,oC2)) (Zz3 _ Zz5)
    have nC3:k3.Ns C m₂:=hC2.ns gC3
    refine wpAny_assign_Name (wpAny_storeName_local (lookup_relabel_local hx) nC3 (fun h4 hn4 sb4=>?_) (by simp[compEnvC,relabel,hkind]))
    obtain⟨oC4,gC4,nC4⟩:=ns_obj hn4
    have r3':Rep Γ W2 ρ H2 ([(C,oC2)]++((D,lst ys)::(fs3++fr))) k3:=r3.less fun q hq=>by
     rcases Zz8.mp hq with hq | hq
     ·rw[List.mem_singleton.mp hq]
      exact Zz3 _ Zz5
     ·rcases Zz7.mp hq with e | hq
      ·exact e▸List.mem_append_right _ (Zz2 _ Zz5)
      ·rcases Zz8.mp hq with hq | hq
       ·exact Zz4 _ hq
       ·exact Zz3 _ (Zz2 _ (Zz2 _ hq))
    have aC3:∀t∈(D,lst ys)::(fs3++fr),C≠t.1:=fun t ht=>by
     rcases Zz7.mp ht with e | ht
     ·rw[e]
      exact cd
     ·rcases Zz8.mp ht with ht | ht
      ·exact(offs _ (a3 t ht)).2.symm
      ·exact cfr t ht
    have aD3:∀t∈fs3++fr,D≠t.1:=fun t ht=>by
     rcases Zz8.mp ht with ht | ht
     ·exact(offs _ (a3 t ht)).1.symm
     ·exact dfr t ht
    have r4:Rep Γ W2 ρ H2 ([(C,oC4)]++((D,lst ys)::(fs3++fr))) h4:=by
     refine r3'.swap (fun q hq t ht=>?_) (fun b o hb e=>sb4.extBut b o (fun z=>hb (by simp[z,compEnvC])) e) fun q hq=>?_
     ·rw[List.mem_singleton.mp hq]
      exact aC3 t ht
     ·rw[List.mem_singleton.mp hq]
      exact⟨gC4,by simp⟩
    refine ZwC (hel C ρ) (hif C ρ) ⟨h4,_,rfl⟩ aC3 aD3 l2 i3 nC4 hv2 hl2 r4 (fun p hp=>?_) (fun i hi=>?_) e
    ·rw[List.mem_singleton.mp hp]
     exact⟨v,y,by simp[upd],by simp,y3⟩
    ·have:i≠t:=fun e=>hi (x,t) Zz5 e.symm
     simp[upd,this]
 refine codeAny_compStart_list (loop _ rfl) ?_
 exact I1.self 0 W1 ρ H0 (([(C,oC)]++[(D,lst [])])++fr) fs _ _ _ (.refl _) (rC.less fun q hq=>by
  rcases Zz8.mp hq with hq | hq
  ·exact Zz3 _ (Zz3 _ (Zz4 _ hq))
  ·rcases Zz8.mp hq with hq | hq
   ·rcases Zz8.mp hq with hq | hq
    ·exact Zz4 _ hq
    ·exact Zz3 _ (Zz4 _ hq)
   ·exact Zz3 _ (Zz3 _ (Zz3 _ hq))) i1 (loop _ rfl)
theorem Zrd{W:Wd}{ρ:Lc}{q:List V×Hp}{fr:List (Addr×Obj)}{C D:Addr}{oC:Obj}{ys:List Value}{h' h'':Heap}(hv:VRs W q.1 ys)(hl:q.1.length≤LEN)(aD:∀t∈fr,D≠t.1)(aC:∀t∈fr,C≠t.1)(cd:C≠D)(r:Rep Γ W ρ q.2 ((C,oC)::(D,lst ys)::fr) h')(sb:Heap.SameBut C h' h''):
  ∃W',W.Le W'∧Rep Γ W' ρ (q.2++[q.1]) fr h''∧VR W' (.ref q.2.length) (.ref D):=by
 have r4:Rep Γ W ρ q.2 ([]++((D,lst ys)::fr)) h'':=by
  refine Rep.swap (fs:=[(C,oC)]) (fs':=[]) r (fun q hq t ht=>?_) (fun b o hb e=>sb.extBut b o (fun z=>hb (by simp[z])) e) fun q hq=>nomatch hq
  rw[List.mem_singleton.mp hq]
  rcases Zz7.mp ht with e | ht
  ·rw[e]
   exact cd
  ·exact aC t ht
 exact Zg6 r4 aD hv hl
theorem Zyy{elt iter:Expr}{x:Str}{px:Pos}{ifs:List Expr}{scope:Scope}{pos:Pos}{cl:List (Str×Addr)}{t:Nat}{g:Src}{c:Ts}{f:Ex}(hg:JI prog w Γ iter g)(hel:∀C ρ,J prog w (Zbu Γ scope cl C [(x,t)] ρ) elt f)(hif:∀C ρ,JF prog w (Zbu Γ scope cl C [(x,t)] ρ) ifs c)
  (hclos:closureFor scope Γ.env=pure cl) (hcell:∀y∈scope.names,y.2≠.cell) (hkind:scope.kind=.function) (hnames:∀y∈scope.names,y.2=.local→scope.names.lookup y.1=some .local) (hx:scope.names.lookup x=some .local) (hs:∀x,foldedSetIterable iter Γ.env x=pure x:=by intro _;rfl):
  J prog w Γ (.ListComp elt [⟨.Name x px,iter,ifs,0⟩] scope pos) (Zaw g (put1 t) c f):=by
 intro W ρ H fr s Q E v H' r hf post
 obtain⟨z,e1,hf⟩:=Zz0.mp hf
 obtain⟨q,e2,e3⟩:=Zz1.mp hf
 cases e3
 rw[eval_ListComp]
 refine wpAny_comprehension_free (use:=Option.none) rfl hs hclos hkind hnames ?_
 refine comp_core (RR:=fun acc C=>compPost (model prog w) Γ.A E Option.none Q acc C) hg hel hif hcell hkind hx r (q:=q) (by rw[e1];exact e2) fun W2 h' tk' C D oC m₂ ys l2 hC hv hl aD aC cd r3=>?_
 refine⟨m₂,hC.ns (r3.frAt (q:=(C,oC)) Zz5),fun h'' sb=>?_⟩
 obtain⟨W5,l5,r5,v5⟩:=Zrd hv hl aD aC cd r3 sb
 exact post W5 h'' tk' _ (l2.trans l5) r5 v5
theorem ZuY{elt iter:Expr}{x y:Str}{px py pos spos:Pos}{ifs:List Expr}{scope:Scope}{cl:List (Str×Addr)}{t i:Nat}{g:Src}{c:Ts}{f:Ex}(hy:Sto prog w Γ y i)(hg:JI prog w Γ iter g)(hel:∀C ρ,J prog w (Zbu Γ scope cl C [(x,t)] ρ) elt f)(hif:∀C ρ,JF prog w (Zbu Γ scope cl C [(x,t)] ρ) ifs c)
  (hsw:swapsWith (.ListComp elt [⟨.Name x px,iter,ifs,0⟩] scope pos) (some (.Name y py)) spos.line Γ.env=pure true)
  (hclos:closureFor scope Γ.env=pure cl) (hcell:∀y∈scope.names,y.2≠.cell) (hkind:scope.kind=.function) (hnames:∀y∈scope.names,y.2=.local→scope.names.lookup y.1=some .local) (hx:scope.names.lookup x=some .local) (hs:∀x,foldedSetIterable iter Γ.env x=pure x:=by intro _;rfl):
  S1 prog w Γ (.Assign [.Name y py] (.ListComp elt [⟨.Name x px,iter,ifs,0⟩] scope pos) spos) (ZL i (Zaw g (put1 t) c f)):=by
 intro W ρ H fr s Q E r rp hf post
 obtain⟨p,e0,e9⟩:=Zz1.mp hf
 cases e9
 obtain⟨z,e1,hf⟩:=Zz0.mp e0
 obtain⟨q,e2,e3⟩:=Zz1.mp hf
 cases e3
 rw[exec_Assign_Name_used _ _ _ _ hsw]
 refine wpAny_bind (wpAny_standAt (wpAny_bind ?_))
 show wpAny _ Γ.A (do let _ ←comprehension (.ListComp elt [⟨.Name x px,iter,ifs,0⟩] scope pos) scope Γ.env _ (newList []) false (eval iter Γ.env) (some (assign (.Name y py) Γ.env))) _ _ s
 refine wpAny_bind (wpAny_mono (wpAny_comprehension_free (use:=some (assign (.Name y py) Γ.env)) (Q:=fun _ s'=>Q .next s') rfl hs hclos hkind hnames ?_) (fun _ s' h'=>wpAny_pure (wpAny_pure h')) fun _ _ e=>e)
 refine comp_core (RR:=fun acc C=>compPost (model prog w) Γ.A E (some (assign (.Name y py) Γ.env)) (fun _ s'=>Q .next s') acc C) hg hel hif hcell hkind hx rp (q:=q) (by rw[e1];exact e2) fun W2 h' tk' C D oC m₂ ys l2 hC hv hl aD aC cd r3=>?_
 have r4:Rep Γ W2 ρ q.2 ((D,lst ys)::(C,oC)::fr) h':=r3.less fun t ht=>by
  rcases Zz7.mp ht with e | ht
  ·exact e▸List.mem_cons_of_mem _ Zz5
  ·rcases Zz7.mp ht with e | ht
   ·exact e▸List.mem_cons_self
   ·exact Zz2 _ (Zz2 _ ht)
 obtain⟨W5,l5,r5,v5⟩:=Zg6 r4 (fun t ht=>by
  rcases Zz7.mp ht with e | ht
  ·rw[e]
   exact cd.symm
  ·exact aD t ht) hv hl
 refine wpAny_assign_Name (hy W5 ρ _ _ _ _ _ _ _ r5 v5 fun h6 t6 r6=>?_)
 refine⟨m₂,hC.ns (r6.frAt (q:=(C,oC)) Zz5),fun h'' sb=>?_⟩
 have r7:Rep Γ W5 (upd ρ i (.ref q.2.length)) (q.2++[q.1]) ([]++fr) h'':=
  Rep.swap (fs:=[(C,oC)]) (fs':=[]) r6 (fun q hq t ht=>by rw[List.mem_singleton.mp hq];exact aC t ht) (fun b o hb e=>sb.extBut b o (fun z=>hb (by simp[z])) e) fun q hq=>nomatch hq
 exact post W5 h'' t6 (l2.trans l5) r7
end
end PM
end
section
namespace PM
open PySem PySem.W PySem.Calls PyProof.Rows PyProof PyProof.Rows.LCg PyProof.Rows.LCp
theorem Zpk(h:Heap): ∀as:List Addr,(∀a∈as,∃o,h.get? a=some o)→∃fs:List (Addr×Obj),fs.map (·.1)=as∧∀q∈fs,h.get? q.1=some q.2
 | [],_=>⟨[],rfl,fun q hq=>nomatch hq⟩
 | a::as,d=>by
  obtain⟨o,ho⟩:=d a Zz5
  obtain⟨fs,h1,h2⟩:=Zpk h as fun b hb=>d b (Zz2 _ hb)
  refine⟨(a,o)::fs,by rw[List.map_cons,h1],fun q hq=>?_⟩
  rcases Zz7.mp hq with e | hq
  ·rw[e]
   exact ho
  ·exact h2 q hq
structure Itr2(prog:Program)(w:World)(Γ:Cx)(W0:Wd)(it:Value)(as:List Addr)(It:Nat→List (Addr×Obj)→Prop)(nx:Nx): Prop where
 adr:∀i fs,It i fs→fs.map (·.1)=as
 pair:∀i H v,nx i H=some (some v)→∃a b,v=.tup [a,b]
 item:∀(i:Nat) (W:Wd) (ρ:Lc) (H:Hp) (fr fs:List (Addr×Obj)) (s:Shared) (Q:Option Value→Shared→Prop) (E:Value→Shared→Prop) (a b:V),W0.Le W→Rep Γ W ρ H (fs++fr) s.heap→(∀a∈as,∀t∈fr,a≠t.1)→It i fs→nx i H=some (some (.tup [a,b])) →
  (∀(T:Addr) (h1:Heap) (t1:Nat),(∀(elts:List Expr) (k:Nat) (pos:Pos) (s1:Shared) (Q1:Unit→Shared→Prop) (E1:Value→Shared→Prop),s1 = { s with heap:=h1,toks:=t1 } →
    (∀(fs':List (Addr×Obj)) (h':Heap) (x y:Value),It (i+1) fs'→Rep Γ W ρ H (fs'++fr) h'→IsTup h' T #[x,y]→VR W a x→VR W b y→Q1 () { s with heap:=h',toks:=t1 })→wpAny (model prog w) Γ.A (letOwnedTupleGo (.Tuple elts k pos) it (.ref T)) Q1 E1 s1)→Q (some (.ref T)) { s with heap:=h1,toks:=t1 })→wpAny (model prog w) Γ.A (pyNext it) Q E s
 done:∀(i:Nat) (W:Wd) (ρ:Lc) (H:Hp) (fr fs:List (Addr×Obj)) (s:Shared) (Q:Option Value→Shared→Prop) (E:Value→Shared→Prop),W0.Le W→Rep Γ W ρ H (fs++fr) s.heap→(∀a∈as,∀t∈fr,a≠t.1)→It i fs→nx i H=some none →
  (∀(h':Heap) (tk':Nat),Rep Γ W ρ H fr h'→Q none { s with heap:=h',toks:=tk' })→wpAny (model prog w) Γ.A (pyNext it) Q E s
 self:∀(i:Nat) (W:Wd) (ρ:Lc) (H:Hp) (fr fs:List (Addr×Obj)) (s:Shared) (Q E:Value→Shared→Prop) (o:Option V),W0.Le W→Rep Γ W ρ H (fs++fr) s.heap→It i fs→nx i H=some o→Q it s→wpAny (model prog w) Γ.A (pyIter it) Q E s
def JI2(prog:Program)(w:World)(Γ:Cx)(e:Expr)(g:Src): Prop:=∀(W:Wd) (ρ:Lc) (H:Hp) (fr:List (Addr×Obj)) (s:Shared) (Q E:Value→Shared→Prop) (nx:Nx) (n:Nat) (H':Hp),
 Rep Γ W ρ H fr s.heap→g ρ H=some (nx,n,H') →
 (∀(W':Wd) (h':Heap) (tk':Nat) (it:Value) (as:List Addr) (It:Nat→List (Addr×Obj)→Prop) (fs:List (Addr×Obj)),W.Le W'→It 0 fs→Rep Γ W' ρ H' (fs++fr) h'→(∀a∈as,∀t∈fr,a≠t.1)→Itr2 prog w Γ W' it as It nx→(∃o,nx 0 H'=some o)→Q it { s with heap:=h',toks:=tk' }) →
 wpAny (model prog w) Γ.A (eval e Γ.env) (fun xv s₁=>wpAny (model prog w) Γ.A (pyIter xv) Q E s₁) E s
noncomputable def ZhH(a b:Nat): Nx:=fun i H=>H[a]?.bind fun vs=>H[b]?.bind fun us=>match vs[i]?,us[i]? with
 | some x,some y=>some (some (.tup [x,y]))
 | _,_=>if i=min vs.length us.length then some none else none
noncomputable def Zdo(f g:Ex): Src:=fun ρ H=>(f ρ H).bind fun p=>(g ρ p.2).bind fun q=>match p.1,q.1 with
 | .ref a,.ref b=>q.2[a]?.bind fun vs=>q.2[b]?.map fun us=>(ZhH a b,min vs.length us.length+1,q.2)
 | _,_=>none
noncomputable def Zci(i j:Nat): V→Lc→Option Lc
 | .tup [a,b],ρ=>some (upd (upd ρ i a) j b)
 | _,_=>none
def ZS(z TI TO i1 i2 l1 l2:Addr)(i:Nat)(h:Heap): Prop:=IsZip h z TI TO .none∧PySem.IsPair h TI (.ref i1) (.ref i2)∧(∃a b,PySem.IsPair h TO a b)∧h.IsListIter i1 l1 i∧h.IsListIter i2 l2 i
theorem ZS.at{z TI TO i1 i2 l1 l2:Addr}{i:Nat}{h h':Heap}(x:ZS z TI TO i1 i2 l1 l2 i h)(e:∀a∈[z,TI,TO,i1,i2],∀o,h.get? a=some o→h'.get? a=some o): ZS z TI TO i1 i2 l1 l2 i h':=by
 obtain⟨h1,h2,⟨a,b,h3⟩,h4,h5⟩:=x
 exact⟨e z (by simp) _ h1,e TI (by simp) _ h2,⟨a,b,e TO (by simp) _ h3⟩,h4.at fun o x=>e i1 (by simp) o x,h5.at fun o x=>e i2 (by simp) o x⟩
theorem ZS.have{z TI TO i1 i2 l1 l2:Addr}{i:Nat}{h:Heap}(x:ZS z TI TO i1 i2 l1 l2 i h): ∀a∈[z,TI,TO,i1,i2],∃o,h.get? a=some o:=by
 obtain⟨h1,h2,⟨a,b,h3⟩,⟨o4,h4,_⟩,⟨o5,h5,_⟩⟩:=x
 intro c hc
 simp only[List.mem_cons,List.not_mem_nil,or_false]at hc
 rcases hc with e | e | e | e | e <;> subst e
 ·exact⟨_,h1⟩
 ·exact⟨_,h2⟩
 ·exact⟨_,h3⟩
 ·exact⟨_,h4⟩
 ·exact⟨_,h5⟩
def ZIt(z TI TO i1 i2 l1 l2:Addr)(i:Nat)(fs:List (Addr×Obj)): Prop:=fs.map (·.1)=[z,TI,TO,i1,i2]∧∀h:Heap,(∀q∈fs,h.get? q.1=some q.2)→ZS z TI TO i1 i2 l1 l2 i h
theorem ZrO{z TI TO i1 i2 l1 l2:Addr}{i:Nat}{h:Heap}(x:ZS z TI TO i1 i2 l1 l2 i h): ∃fs,ZIt z TI TO i1 i2 l1 l2 i fs∧∀q∈fs,h.get? q.1=some q.2:=by
 obtain⟨fs,h1,h2⟩:=Zpk h [z,TI,TO,i1,i2] x.have
 refine⟨fs,⟨h1,fun h' e=>x.at fun a ha o ho=>?_⟩,h2⟩
 rw[←h1]at ha
 obtain⟨q,hq,eq⟩:=Zz11.mp ha
 have:=h2 q hq
 rw[eq,ho]at this
 cases this
 exact eq▸e q hq
section
variable {prog:Program} {w:World} {Γ:Cx}
theorem Zyz{W0:Wd}{z TI TO i1 i2 l1 l2:Addr}{a b:Nat}(ea:W0.pi[a]?=some l1)(eb:W0.pi[b]?=some l2)(D:ZipApart z TI TO i1 i2 l1 l2):
  Itr2 prog w Γ W0 (.ref z) [z,TI,TO,i1,i2] (ZIt z TI TO i1 i2 l1 l2) (ZhH a b):=by
 refine⟨fun i fs h=>h.1,?_,?_,?_,?_⟩
 ·intro i H v e
  obtain⟨vs,e1,e⟩:=Zz0.mp e
  obtain⟨us,e2,e⟩:=Zz0.mp e
  split at e
  ·cases e
   exact⟨_,_,rfl⟩
  ·split at e <;> cases e
 ·intro i W ρ H fr fs s Q E va vb le r ap hit hn post
  obtain⟨vs,e1,e⟩:=Zz0.mp hn
  obtain⟨us,e2,e⟩:=Zz0.mp e
  have hvu:vs[i]?=some va∧us[i]?=some vb:=by
   split at e
   ·rename_i x y h1 h2
    cases e
    exact⟨h1,h2⟩
   ·split at e <;> cases e
  obtain⟨_,xs,k1,g1,v1⟩:=r.at e1 (le.at ea)
  obtain⟨_,ys,k2,g2,v2⟩:=r.at e2 (le.at eb)
  obtain⟨x,hx,rx⟩:=v1.at hvu.1
  obtain⟨y,hy,ry⟩:=v2.at hvu.2
  have st:ZS z TI TO i1 i2 l1 l2 i s.heap:=hit.2 _ fun q hq=>r.frAt (Zz4 _ hq)
  have Wk:=WalksT.zip2 (prog:=prog) (w:=w) (A:=Γ.A) Γ.hh z TI TO i1 i2 l1 l2 D xs.toArray ys.toArray
  have isl1:s.heap.IsList l1 xs.toArray:=⟨_,g1,rfl,k1,rfl⟩
  have isl2:s.heap.IsList l2 ys.toArray:=⟨_,g2,rfl,k2,rfl⟩
  have hi:i<min xs.toArray.size ys.toArray.size:=by
   have h1:=(Zz6.mp hx).1
   have h2:=(Zz6.mp hy).1
   simp
   omega
  refine Wk.item i s Q E hi ⟨st.1,st.2.1,st.2.2.1,st.2.2.2.1,st.2.2.2.2,isl1,isl2⟩ fun T vals h1 t1 hp hT hTup hmid keep1=>post T h1 t1 ?_
  intro elts k pos s1 Q1 E1 es1 q1
  subst es1
  have hTw:=Wk.apart i T _ hmid
  refine Wk.go elts k pos i T _ Q1 E1 hmid fun h2 st2 keep2=>?_
  obtain⟨x',y',hx',hy',ev⟩:=hp
  have ex:x'=x:=by
   have:xs[i]?=some x':=by simpa using hx'
   rw[hx]at this
   exact(Option.some.inj this).symm
  have ey:y'=y:=by
   have:ys[i]?=some y':=by simpa using hy'
   rw[hy]at this
   exact(Option.some.inj this).symm
  subst ex ey ev
  obtain⟨fs',hit',at'⟩:=ZrO (h:=h2) (⟨st2.1,st2.2.1,st2.2.2.1,st2.2.2.2.1,st2.2.2.2.2.1⟩:ZS z TI TO i1 i2 l1 l2 (i+1) h2)
  obtain⟨oT,gT,cT,nT,dT⟩:=hTup
  refine q1 fs' h2 x' y' hit' ?_ ⟨oT,keep2 T oT hTw gT,cT,nT,dT⟩ rx ry
  refine r.swap (fs':=fs') (fun q hq t ht=>?_) (fun c o hc e=>?_) fun q hq=>⟨at' q hq,?_⟩
  ·exact ap _ (hit.1▸List.mem_map_of_mem hq) t ht
  ·rw[hit.1]at hc
   have hcw:c∉[z,TO,i1,i2]:=fun h=>hc (by simp at h ⊢;rcases h with h | h | h | h <;> simp[h])
   exact keep2 c o hcw (keep1 c o hcw e)
  ·rw[hit.1,←hit'.1]
   exact List.mem_map_of_mem hq
 ·intro i W ρ H fr fs s Q E le r ap hit hn post
  obtain⟨vs,e1,e⟩:=Zz0.mp hn
  obtain⟨us,e2,e⟩:=Zz0.mp e
  obtain⟨_,xs,k1,g1,v1⟩:=r.at e1 (le.at ea)
  obtain⟨_,ys,k2,g2,v2⟩:=r.at e2 (le.at eb)
  have hi:i=min vs.length us.length:=by
   split at e
   ·cases e
   ·split at e
    ·assumption
    ·cases e
  have st:ZS z TI TO i1 i2 l1 l2 i s.heap:=hit.2 _ fun q hq=>r.frAt (Zz4 _ hq)
  have Wk:=WalksT.zip2 (prog:=prog) (w:=w) (A:=Γ.A) Γ.hh z TI TO i1 i2 l1 l2 D xs.toArray ys.toArray
  have hm:min xs.toArray.size ys.toArray.size=i:=by simp[v1.length,v2.length,hi]
  refine Wk.done s Q E (by rw[hm];exact⟨st.1,st.2.1,st.2.2.1,st.2.2.2.1,st.2.2.2.2,⟨_,g1,rfl,k1,rfl⟩,⟨_,g2,rfl,k2,rfl⟩⟩) fun h' tk keep=>post h' tk ?_
  have:=r.swap (fs':=[]) (fun q hq t ht=>ap _ (hit.1▸List.mem_map_of_mem hq) t ht) (fun c o hc e=>keep c o (fun h=>hc (by rw[hit.1];simp at h ⊢;rcases h with h | h | h | h <;> simp[h])) e) (fun q hq=>nomatch hq)
  exact this
 ·intro i W ρ H fr fs s Q E o le r hit hn q
  obtain⟨vs,e1,e⟩:=Zz0.mp hn
  obtain⟨us,e2,e⟩:=Zz0.mp e
  obtain⟨_,xs,k1,g1,v1⟩:=r.at e1 (le.at ea)
  obtain⟨_,ys,k2,g2,v2⟩:=r.at e2 (le.at eb)
  have st:ZS z TI TO i1 i2 l1 l2 i s.heap:=hit.2 _ fun q hq=>r.frAt (Zz4 _ hq)
  have Wk:=WalksT.zip2 (prog:=prog) (w:=w) (A:=Γ.A) Γ.hh z TI TO i1 i2 l1 l2 D xs.toArray ys.toArray
  exact Wk.self i s Q E ⟨st.1,st.2.1,st.2.2.1,st.2.2.2.1,st.2.2.2.2,⟨_,g1,rfl,k1,rfl⟩,⟨_,g2,rfl,k2,rfl⟩⟩ q
theorem JI2.zip{x:Str}{np pos:Pos}{e1 e2:Expr}{f g:Ex}(hn:Nm prog w Γ x (.type "zip"))(h1:J prog w Γ e1 f)(h2:J prog w Γ e2 g)
  (he:starEach [e1,e2] Γ.env=(false,eval e1 Γ.env)::starEach [e2] Γ.env:=by rfl) (he2:starEach [e2] Γ.env=(false,eval e2 Γ.env)::starEach [] Γ.env:=by rfl) (hp:∀pos,(backTo pos (starEach [e2] Γ.env)).any (·.1)=false:=by intro _;rfl):JI2 prog w Γ (.Call (.Name x np) [e1,e2] [] pos) (Zdo f g):=by
 intro W ρ H fr s Q E nx n H' r hf post
 obtain⟨p,a1,hf⟩:=Zz0.mp hf
 obtain⟨q,a2,hf⟩:=Zz0.mp hf
 refine wpAny_Call_ofName (hn.use r ?_)
 refine PySem.Pv.callWith_type1 (wpAny_items_cons (h1 W ρ H fr s _ E _ _ r a1 fun W1 k1 t1 y1 l1 r1 v1=>?_) he) he (hp pos)
 refine wpAny_items_cons (h2 W1 ρ _ fr _ _ E _ _ r1 a2 fun W2 k2 t2 y2 l2 r2 v2=>wpAny_items_nil ?_) he2
 have v1':=v1.mono l2
 obtain⟨u1,H1⟩:=p
 obtain⟨u2,H2⟩:=q
 simp only at hf v1' v2 r2
 cases u1 <;> first | (cases hf;done) | skip
 rename_i b1
 cases u2 <;> first | (cases hf;done) | skip
 rename_i b2
 obtain⟨vs,c1,hf⟩:=Zz0.mp hf
 obtain⟨us,c2,c3⟩:=Zz1.mp hf
 cases c3
 cases v1' with
 | @ref _ m1 ea=>
 cases v2 with
 | @ref _ m2 eb=>
 obtain⟨_,xs,n1,g1,w1⟩:=r2.at c1 ea
 obtain⟨_,ys,n2,g2,w2⟩:=r2.at c2 eb
 have isl1:k2.IsList m1 xs.toArray:=⟨_,g1,rfl,n1,rfl⟩
 have isl2:k2.IsList m2 ys.toArray:=⟨_,g2,rfl,n2,rfl⟩
 refine call_zip_2 (s:={ s with heap:=k2,toks:=t2 }) isl1 isl2 fun h₁ hz hTI hTO hi1 hi2 hsz up=>?_
 have ap:=zipApart_new (n:=k2.objs.size) (Heap.lt_size g1) (Heap.lt_size g2)
 have Wk:=WalksT.zip2 (prog:=prog) (w:=w) (A:=Γ.A) Γ.hh _ _ _ _ _ m1 m2 ap xs.toArray ys.toArray
 have zs:ZS (k2.objs.size+4) (k2.objs.size+2) (k2.objs.size+3) k2.objs.size (k2.objs.size+1) m1 m2 0 h₁:=⟨hz,hTI,⟨_,_,hTO⟩,hi1,hi2⟩
 refine Wk.self 0 _ _ _ ⟨hz,hTI,⟨_,_,hTO⟩,hi1,hi2,isl1.at fun o e=>up _ o e,isl2.at fun o e=>up _ o e⟩ ?_
 obtain⟨fs,hit,at'⟩:=ZrO zs
 obtain⟨r3,ap3⟩:=r2.more (fs:=fs) (h':=h₁) (fun b o e=>up b o e) (fun q hq=>⟨at' q hq,by
  have:q.1∈fs.map (·.1):=List.mem_map_of_mem hq
  rw[hit.1]at this
  simp at this
  rcases this with e | e | e | e | e <;> rw[e] <;> omega⟩)
 refine post W2 h₁ t2 _ _ _ fs (l1.trans l2) hit r3 (fun b hb t ht=>?_) (Zyz ea eb ap) ?_
 ·rw[←hit.1]at hb
  obtain⟨q,hq,e⟩:=Zz11.mp hb
  exact e▸ap3 q hq t ht
 ·simp only[ZhH,c1,c2,Option.bind_some]
  split
  ·exact⟨_,rfl⟩
  ·rename_i hno
   have:0=min vs.length us.length:=by
    rcases Nat.eq_zero_or_pos vs.length with z | z
    ·rw[z];simp
    ·rcases Nat.eq_zero_or_pos us.length with z' | z'
     ·rw[z'];simp
     ·exact(hno vs[0] us[0] (by simp[z]) (by simp[z'])).elim
   rw[if_pos this]
   exact⟨_,rfl⟩
theorem Zxq{x1 x2:Str}{i1 i2 kt:Nat}{p1 p2 tp:Pos}(h1:Sto prog w Γ x1 i1)(h2:Sto prog w Γ x2 i2){W:Wd}{ρ:Lc}{H:Hp}{fr:List (Addr×Obj)}{s:Shared}{Q:Unit→Shared→Prop}{E:Value→Shared→Prop}{T:Addr}{y1 y2:Value}{a b:V}(r:Rep Γ W ρ H fr s.heap)(ht:IsTup s.heap T #[y1,y2])(v1:VR W a y1)(v2:VR W b y2)
  (post:∀(h':Heap) (tk':Nat),Rep Γ W (upd (upd ρ i1 a) i2 b) H fr h'→Q () { s with heap:=h',toks:=tk' }):wpAny (model prog w) Γ.A (assign (.Tuple [.Name x1 p1,.Name x2 p2] kt tp) Γ.env (.ref T)) Q E s:=by
 refine assign_Tuple_tuple Γ.hh ht rfl rfl fun g₄ he=>?_
 have r4:=r.grown (h':=g₄) fun b o e=>he b o (Nat.ne_of_lt (Heap.lt_size e)) e
 refine assignInOrder_cons (wpAny_assign_Name (h1 W ρ H fr _ _ _ a y1 r4 v1 fun k5 t5 r5=>?_))
 refine assignInOrder_cons (wpAny_assign_Name (h2 W _ H fr _ _ _ b y2 r5 v2 fun k6 t6 r6=>?_))
 exact assignInOrder_nil (post k6 t6 r6)
theorem Ze3{x1 x2:Str}{i1 i2 kt:Nat}{p1 p2 tp pos:Pos}{it:Expr}{body:List Stmt}{g:Src}{b:Sm}(h1:Sto prog w Γ x1 i1)(h2:Sto prog w Γ x2 i2)(hg:JI2 prog w Γ it g)(hb:Ss prog w Γ body b)(hs:∀x,foldedSetIterable it Γ.env x=pure x:=by intro _;rfl):
  S1 prog w Γ (.For (.Tuple [.Name x1 p1,.Name x2 p2] kt tp) it body [] pos) (ZaK g (Zci i1 i2) b):=by
 intro W ρ H fr s Q E r rp hf post
 obtain⟨z,e1,hf⟩:=Zz0.mp hf
 obtain⟨nx,n,H0⟩:=z
 refine wpAny_For (hg W ρ H fr s _ E nx n H0 rp e1 fun W1 k1 t1 itv as It fs l1 j1 r1 ap I1 _=>?_) hs
 refine codeAny_forLoop_any (fun k s'=>∃W' ρ' H' h' tk' j fs',s' = { s with heap:=h',toks:=tk' }∧W1.Le W'∧It j fs'∧Rep Γ W' ρ' H' (fs'++fr) h'∧ZdA nx (Zci i1 i2) b k j ρ' H'=some r) ?_ n ⟨W1,ρ,H0,k1,t1,0,fs,rfl,.refl _,j1,r1,hf⟩
 rintro k s' ⟨W2,ρ2,H2,k2,t2,j,fs2,rfl,l2,j2,r2,e⟩
 cases k with
 | zero=>cases e
 | succ k=>
  obtain⟨o,e2,e⟩:=Zz0.mp e
  cases o with
  | none=>
   cases e
   exact I1.done j W2 ρ2 H2 fr fs2 _ _ _ l2 r2 ap j2 e2 fun h' tk' r3=>wpAny_execs_nil (post W2 h' tk' (l1.trans l2) r3)
  | some v=>
   obtain⟨va,vb,ev⟩:=I1.pair j H2 v e2
   subst ev
   refine I1.item j W2 ρ2 H2 fr fs2 _ _ _ va vb l2 r2 ap j2 e2 fun T h3 t3 go=>?_
   obtain⟨ρ3,e3,e⟩:=Zz0.mp e
   cases e3
   obtain⟨q,e4,e⟩:=Zz0.mp e
   refine go _ _ _ _ _ _ rfl fun fs3 k3 y1 y2 j3 r3 ht w1 w2=>?_
   refine Zxq h1 h2 (s:={ s with heap:=k3,toks:=t3 }) r3 ht w1 w2 fun k4 t4 r4=>?_
   refine hb W2 _ H2 (fs3++fr) _ _ _ q r4 e4 ?_
   obtain⟨u,ρ5,H5⟩:=q
   cases u with
   | some u=>
    cases e
    exact fun W5 k5 t5 x5 l5 r5 v5=>post W5 k5 t5 x5 ((l1.trans l2).trans l5) (r5.less fun q hq=>List.mem_append_right _ hq) v5
   | none=>exact fun W5 k5 t5 l5 r5=>⟨k,Nat.lt_succ_self k,W5,ρ5,H5,k5,t5,j+1,fs3,rfl,l2.trans l5,j3,r5,e⟩
theorem Zqx{elt iter:Expr}{x x₂:Str}{px px₂ tp:Pos}{kt:Nat}{scope:Scope}{pos:Pos}{cl:List (Str×Addr)}{t t₂:Nat}{g:Src}{f:Ex}(hg:JI2 prog w Γ iter g)(hel:∀C ρ,J prog w (Zbu Γ scope cl C [(x,t),(x₂,t₂)] ρ) elt f)
  (hcell:∀y∈scope.names,y.2≠.cell) (hkind:scope.kind=.function) (hx:scope.names.lookup x=some .local) (hx₂:scope.names.lookup x₂=some .local) (hxx:x≠x₂) (htt:t≠t₂)
  {W:Wd} {ρ:Lc} {H:Hp} {fr:List (Addr×Obj)} {s:Shared} {E:Value→Shared→Prop} {q:List V×Hp} {RR:Value→Addr→Result→Shared→Prop} (r:Rep Γ W ρ H fr s.heap) (hf:((g ρ H).bind fun z=>Zc6 z.1 (Zci t t₂) Zao f ρ z.2.1 0 [] z.2.2)=some q)
  (hR:∀(W':Wd) (h':Heap) (tk':Nat) (C D:Addr) (oC:Obj) (m₂:Str→Option Value) (ys:List Value),W.Le W'→NsObj oC m₂→VRs W' q.1 ys→q.1.length≤LEN→(∀t∈fr,D≠t.1)→(∀t∈fr,C≠t.1)→C≠D→Rep Γ W' ρ q.2 ((C,oC)::(D,lst ys)::fr) h'→RR (.ref D) C (.ok .next) { s with heap:=h',toks:=tk' }):
  wpAny (model prog w) Γ.A (eval iter Γ.env) (fun xv s₁=>wpAny (model prog w) Γ.A (pyIter xv) (fun it s₂=>wpAny (model prog w) Γ.A (newList []) (fun acc s₃=>wpAny (model prog w) Γ.A (newFunctionEnv scope Γ.env.globals cl [] Γ.env.qual none .none (some Γ.env)) (fun cenv s₄=>
   codeAny (model prog w) Γ.A (.compStart (.ListComp elt [⟨.Tuple [.Name x px,.Name x₂ px₂] kt tp,iter,[],0⟩] scope pos) 0 it acc { cenv with scope:=relabel scope Γ.env }) (RR acc cenv.locals) s₄) E s₃) E s₂) E s₁) E s:=by
 obtain⟨z,e1,e2⟩:=Zz0.mp hf
 obtain⟨nx,n,H0⟩:=z
 refine hg W ρ H fr s _ E nx n H0 r e1 fun W1 k1 t1 itv as It fs l1 i1 r1 ap I1 hstart=>?_
 refine wpAny_newObj_type (wpAny_newFunctionEnv hcell (fun y hy=>by simp at hy) (fun h₂ hns hsb=>?_) hkind)
 dsimp only at hns hsb ⊢
 obtain⟨rD,aD⟩:=r1.more (fs:=[(k1.objs.size,lst [])]) (fun b o e=>Heap.get?_push_of_some (lst []) e) (fun q hq=>by rw[List.mem_singleton.mp hq];exact⟨Heap.get?_push_size _ rfl,Nat.le_refl _⟩)
 generalize eH:k1.push { cls:=.type "list",dict:=none,data:=.seq ([]:List Value).toArray } = K at hns hsb ⊢
 have eK:k1.push (lst [])=K:=eH
 rw[eK]at rD
 obtain⟨oC,gC,nC⟩:=ns_obj hns
 have up:∀b o,K.get? b=some o→h₂.get? b=some o:=fun b o e=>hsb.extBut b o (Nat.ne_of_lt (Heap.lt_size e)) (Heap.get?_push_of_some _ e)
 obtain⟨rC,aC⟩:=rD.more (fs:=[(K.objs.size,oC)]) up (fun q hq=>by rw[List.mem_singleton.mp hq];exact⟨gC,Nat.le_refl _⟩)
 have adr0:=I1.adr 0 fs i1
 have offs:∀b∈as,b≠k1.objs.size∧b≠K.objs.size:=fun b hb=>by
  rw[←adr0]at hb
  obtain⟨q,hq,e⟩:=Zz11.mp hb
  exact⟨e▸(aD _ Zz5 q (Zz4 _ hq)).symm,e▸(aC _ Zz5 q (Zz3 _ (Zz4 _ hq))).symm⟩
 have cd:K.objs.size≠k1.objs.size:=aC _ Zz5 (k1.objs.size,lst []) (Zz4 _ Zz5)
 have cfr:∀t∈fr,K.objs.size≠t.1:=fun t ht=>aC _ Zz5 t (Zz3 _ (Zz3 _ ht))
 have dfr:∀t∈fr,k1.objs.size≠t.1:=fun t ht=>aD _ Zz5 t (Zz3 _ ht)
 generalize k1.objs.size=D at *
 generalize K.objs.size=C at *
 have loop:∀s₃:Shared,s₃ = { s with heap:=h₂,toks:=t1+([]:List (Str×Value)).length } →
   codeAny (model prog w) Γ.A (.compLoop (.ListComp elt [⟨.Tuple [.Name x px,.Name x₂ px₂] kt tp,iter,[],0⟩] scope pos) 0 itv (.ref D) (compEnvC scope cl C Γ.env)) (RR (.ref D) C) s₃:=by
  intro s₃ hs₃
  subst hs₃
  refine codeAny_compLoop_pair (ZhM Γ W1 ρ fr C D It nx (Zci t t₂) Zao f q s) ?_ n ⟨W1,H0,h₂,_,0,fs,[],[],oC,_,rfl,.refl _,i1,nC,.nil,Nat.zero_le _,rC,e2⟩
  rintro k s' ⟨W2,H2,k2,t2,j,fs2,acc,ys,oC2,m₂,rfl,l2,i2,hC2,hv2,hl2,r2,e⟩
  cases k with
  | zero=>cases e
  | succ k=>
   obtain⟨o,e4,e⟩:=Zz0.mp e
   have r2':Rep Γ W2 ρ H2 (fs2++((C,oC2)::(D,lst ys)::fr)) k2:=r2.less fun q hq=>by
    rcases Zz8.mp hq with hq | hq
    ·exact Zz2 _ (Zz2 _ (Zz4 _ hq))
    ·rcases Zz7.mp hq with e | hq
     ·exact e▸List.mem_cons_self
     ·rcases Zz7.mp hq with e | hq
      ·exact e▸List.mem_cons_of_mem _ Zz5
      ·exact Zz2 _ (Zz2 _ (Zz3 _ hq))
   have ap2:∀b∈as,∀t∈(C,oC2)::(D,lst ys)::fr,b≠t.1:=fun b hb t ht=>by
    rcases Zz7.mp ht with e | ht
    ·rw[e]
     exact(offs b hb).2
    ·rcases Zz7.mp ht with e | ht
     ·rw[e]
      exact(offs b hb).1
     ·exact ap b hb t ht
   cases o with
   | none=>
    cases e
    exact I1.done j W2 ρ H2 _ fs2 _ _ _ l2 r2' ap2 i2 e4 fun h' tk' r3=>hR W2 h' tk' C D oC2 m₂ ys (l1.trans l2) hC2 hv2 hl2 dfr cfr cd r3
   | some v=>
    obtain⟨va,vb,ev⟩:=I1.pair j H2 v e4
    subst ev
    refine I1.item j W2 ρ H2 _ fs2 _ _ _ va vb l2 r2' ap2 i2 e4 fun T h3 t3 go=>?_
    obtain⟨ρ3,e5,e⟩:=Zz0.mp e
    cases e5
    refine go _ _ _ _ _ _ rfl fun fs3 k3 y1 y2 i3 r3 htup w1 w2=>?_
    have a3:∀t∈fs3,t.1∈as:=fun t ht=>by
     rw[←I1.adr _ _ i3]
     exact List.mem_map_of_mem ht
    refine assign_Tuple_tuple (s:={ s with heap:=k3,toks:=t3 }) Γ.hh htup rfl rfl fun g₄ he=>?_
    have r3g:=r3.grown (h':=g₄) fun b o e=>he b o (Nat.ne_of_lt (Heap.lt_size e)) e
    have gC3:g₄.get? C=some oC2:=r3g.frAt (q:=(C,oC2)) (Zz3 _ Zz5)
    have nC3:g₄.Ns C m₂:=hC2.ns gC3
    refine assignInOrder_cons (wpAny_assign_Name (wpAny_storeName_local (lookup_relabel_local hx) nC3 (fun h5 hn5 sb5=>?_) (by simp[compEnvC,relabel,hkind])))
    refine assignInOrder_cons (wpAny_assign_Name (wpAny_storeName_local (lookup_relabel_local hx₂) hn5 (fun h4 hn4 sb4=>?_) (by simp[compEnvC,relabel,hkind])))
    refine assignInOrder_nil ?_
    obtain⟨oC4,gC4,nC4⟩:=ns_obj hn4
    have r3':Rep Γ W2 ρ H2 ([(C,oC2)]++((D,lst ys)::(fs3++fr))) g₄:=r3g.less fun q hq=>by
     rcases Zz8.mp hq with hq | hq
     ·rw[List.mem_singleton.mp hq]
      exact Zz3 _ Zz5
     ·rcases Zz7.mp hq with e | hq
      ·exact e▸List.mem_append_right _ (Zz2 _ Zz5)
      ·rcases Zz8.mp hq with hq | hq
       ·exact Zz4 _ hq
       ·exact Zz3 _ (Zz2 _ (Zz2 _ hq))
    have aC3:∀t∈(D,lst ys)::(fs3++fr),C≠t.1:=fun t ht=>by
     rcases Zz7.mp ht with e | ht
     ·rw[e]
      exact cd
     ·rcases Zz8.mp ht with ht | ht
      ·exact(offs _ (a3 t ht)).2.symm
      ·exact cfr t ht
    have aD3:∀t∈fs3++fr,D≠t.1:=fun t ht=>by
     rcases Zz8.mp ht with ht | ht
     ·exact(offs _ (a3 t ht)).1.symm
     ·exact dfr t ht
    have r4:Rep Γ W2 ρ H2 ([(C,oC4)]++((D,lst ys)::(fs3++fr))) h4:=by
     refine r3'.swap (fun q hq t ht=>?_) (fun b o hb e=>sb4.extBut b o (fun z=>hb (by simp[z,compEnvC])) (sb5.extBut b o (fun z=>hb (by simp[z,compEnvC])) e)) fun q hq=>?_
     ·rw[List.mem_singleton.mp hq]
      exact aC3 t ht
     ·rw[List.mem_singleton.mp hq]
      exact⟨gC4,by simp⟩
    have rc:=ZrN (scope:=scope) (cl:=cl) (ts:=[(x,t),(x₂,t₂)]) (ρ:=upd (upd ρ t va) t₂ vb) r4 aC3 nC4 (fun p hp=>by
     rcases Zz7.mp hp with e | hp
     ·rw[e]
      exact⟨va,y1,by simp[upd,htt],by simp[hxx],w1⟩
     ·rw[List.mem_singleton.mp hp]
      exact⟨vb,y2,by simp[upd],by simp,w2⟩) (fun i hi=>by
     have h1:i≠t:=fun e=>hi (x,t) Zz5 e.symm
     have h2:i≠t₂:=fun e=>hi (x₂,t₂) (Zz2 _ Zz5) e.symm
     simp[upd,h1,h2])
    exact ZqR (hel C ρ) aD3 cd l2 i3 hv2 rc e
 refine codeAny_compStart_list (loop _ rfl) ?_
 obtain⟨o0,ho0⟩:=hstart
 exact I1.self 0 W1 ρ H0 (([(C,oC)]++[(D,lst [])])++fr) fs _ _ _ o0 (.refl _) (rC.less fun q hq=>by
  rcases Zz8.mp hq with hq | hq
  ·exact Zz3 _ (Zz3 _ (Zz4 _ hq))
  ·rcases Zz8.mp hq with hq | hq
   ·rcases Zz8.mp hq with hq | hq
    ·exact Zz4 _ hq
    ·exact Zz3 _ (Zz4 _ hq)
   ·exact Zz3 _ (Zz3 _ (Zz3 _ hq))) i1 ho0 (loop _ rfl)
theorem Zxr{elt iter:Expr}{x x₂:Str}{px px₂ tp:Pos}{kt:Nat}{scope:Scope}{pos:Pos}{cl:List (Str×Addr)}{t t₂:Nat}{g:Src}{f:Ex}(hg:JI2 prog w Γ iter g)(hel:∀C ρ,J prog w (Zbu Γ scope cl C [(x,t),(x₂,t₂)] ρ) elt f)
  (hclos:closureFor scope Γ.env=pure cl) (hcell:∀y∈scope.names,y.2≠.cell) (hkind:scope.kind=.function) (hnames:∀y∈scope.names,y.2=.local→scope.names.lookup y.1=some .local) (hx:scope.names.lookup x=some .local) (hx₂:scope.names.lookup x₂=some .local) (hxx:x≠x₂) (htt:t≠t₂) (hs:∀x,foldedSetIterable iter Γ.env x=pure x:=by intro _;rfl):
  J prog w Γ (.ListComp elt [⟨.Tuple [.Name x px,.Name x₂ px₂] kt tp,iter,[],0⟩] scope pos) (Zaw g (Zci t t₂) Zao f):=by
 intro W ρ H fr s Q E v H' r hf post
 obtain⟨z,e1,hf⟩:=Zz0.mp hf
 obtain⟨q,e2,e3⟩:=Zz1.mp hf
 cases e3
 rw[eval_ListComp]
 refine wpAny_comprehension_free (use:=Option.none) rfl hs hclos hkind hnames ?_
 refine Zqx (RR:=fun acc C=>compPost (model prog w) Γ.A E Option.none Q acc C) hg hel hcell hkind hx hx₂ hxx htt r (q:=q) (by rw[e1];exact e2) fun W2 h' tk' C D oC m₂ ys l2 hC hv hl aD aC cd r3=>?_
 refine⟨m₂,hC.ns (r3.frAt (q:=(C,oC)) Zz5),fun h'' sb=>?_⟩
 obtain⟨W5,l5,r5,v5⟩:=Zrd hv hl aD aC cd r3 sb
 exact post W5 h'' tk' _ (l2.trans l5) r5 v5
end
end PM
end
section
namespace PM
open PySem PySem.W PySem.Calls PyProof.Rows PyProof PySem.Spec
theorem ZyA{prog:Program}{w:World}{A A₀:Around}{s:Shared}{base h₀:Heap}{L:Addr}{m:Str→Option Value}{lent:List (Addr×Obj)}{K:Frag}{p:Program}{loose:List Str}{mean:ExcName→Option Value}{mg mb:Str→Option Value}
  {env:Env} {outer:List Env} {R:Result→Shared→Prop} {name qual:Str} {params:Arguments} {body:List Stmt} {scope:Scope} {dV kV doc pm cdv ct oc:Value} {an od:Option Addr} {osl:Array (Option Value)} {f:Addr} {args:Args} {binds:List (Str×Value)}
  (B:Below A₀ base outer h₀) (F:Fr h₀ L s.heap m) (X₀:K.In h₀) (N:News h₀ L s.heap lent) (T:Top p loose mean mg mb h₀) (hA:A.frames=some (env::outer)) (hf:env.frame=some L) (hke:env.scope.kind=.function)
  (ho:K.lookup f=some ⟨oc,od,.func (fnOf name qual params body scope dV kV doc pm an cdv ct),osl⟩) (hcd:codeIn K cdv qual=true) (hroom:A.depth<recursionLimit)
  (hbind:BindsTo s (fnOf name qual params body scope dV kV doc pm an cdv ct) args binds) (hall:(binds.all fun y=>scope.names.lookup y.1 == some .local || scope.names.lookup y.1 == some .cell)=true) (hone:((cellsFrom 0 scope.names []).map (·.1)).Nodup)
  (h:∀g L' h₁ tk cells,(∀b o,s.heap.get? b=some o→b∉lent.map (·.1)→g.get? b=some o)→Fr g L' h₁ (bindL (envOfC qual scope L' f cdv).kindOf binds fun _=>none)→News g L' h₁ (cells++lent)→CellsAre (bindC (envOfC qual scope L' f cdv).kindOf binds fun _=>none) (cellsFrom (L'+1) scope.names []) cells →
   (cellsFrom (L'+1) scope.names []).Pairwise (fun x y=>x.2≠y.2)→(∀n c,(n,c)∈cellsFrom (L'+1) scope.names []→L'<c)→Below A base (env::outer) g→K.In g→Top p loose mean mg mb g→(∀q∈lent,q.1<L')→s.heap.objs.size≤L' →
   wpAny (model prog w) (A.deeper (envOfC qual scope L' f cdv)) (execs body (envOfC qual scope L' f cdv)) (fun fl s'=>LeaveK h₀ L m g R (match fl with | .ret v=>v | _=>.none) s')
    (fun e s'=>wpAny (model prog w) (A.deeper (envOfC qual scope L' f cdv)) (leaving (envOfC qual scope L' f cdv) e) (fun _ s''=>R (.error e) s'') (fun e' s''=>R (.error e') s'') s') { s with heap:=h₁,toks:=tk })
  (hco:scope.isCoroutine=false) (hgen:scope.isGenerator=false) (hk:scope.kind=.function):codeAny (model prog w) A (.call (.ref f) args) R s:=by
 obtain⟨FG,BG,st,lv⟩:=groundX (R:=R) B F N hA hf hke
 have X:=X₀.keeps F.keep
 refine codeAny_call_function (fd:=fnOf name qual params body scope dV kV doc pm an cdv ct) hroom (X _ _ ho) rfl hco hgen rfl (codeRec_of X hcd) (hbind _ _ _ _ ?_)
 refine wpAny_newFunctionEnv_cells hk (kindsX hall _) fun fresh hfr s' inC=>?_
 subst hfr
 have up:=inC.toInCall.keep
 refine⟨(T.nolimit.keeps F.keep).keeps up,codeAny_func ?_⟩
 obtain⟨h₁,tk,hs',_⟩:=inC.done
 subst hs'
 have nod:=cellsFrom_names scope.names 0 (s.heap.objs.size+1) [] [] rfl▸hone
 obtain⟨cells,NC,Y⟩:=Cl.news (h₀:=s.heap) (L:=s.heap.objs.size) (Zz10 _) fun n c hm=>⟨inC.cell n c (lookup_of_mem_nodup nod hm),inC.above n c hm⟩
 have old:∀q∈lent,q.1<s.heap.objs.size:=fun q hq=>Heap.lt_size (N q hq).1
 refine wpAny_mono (h _ s.heap.objs.size h₁ tk cells (fun b o e nb=>hideAll_get _ e nb) ⟨inC.toInCall.ns,fun b o e=>up b o (of_hideAll _ e),Nat.le_of_eq (hideAll_size _ _)⟩ (fun q hq=>?_) Y inC.apart inC.above BG (X₀.keeps st) (T.keeps st) old (Zz10 _)) (fun fl s' hl=>lv _ _ hl) fun _ _ y=>y
 rcases Zz8.mp hq with hq | hq
 ·obtain⟨c1,c2,c3⟩:=NC q hq
  refine⟨c1,c2,?_⟩
  cases e:(hideAll s.heap (lent.map (·.1))).get? q.1 with
  | none=>rfl
  | some o=>
   have z:=of_hideAll _ e
   rw[c3]at z
   cases z
 ·exact⟨up _ _ (N q hq).1,Nat.ne_of_lt (old q hq),hideAll_none _ (List.mem_map_of_mem hq)⟩
section
variable (prog:Program) (w:World) (K:Frag) (p:Program) (loose:List Str) (mean:ExcName→Option Value) (mg mb:Str→Option Value)
def Clr(Γ:Cx)(dp un:Nat): Prop:=∃(gd:Option (List Code)) (cn:Str) (cs:Scope) (a:Addr) (ccd:Value) (cl:List (Str×Addr)) (outer:List Env) (A₀:Around) (base:Heap),
 Γ.A=ktrTop dp un gd cn cs Γ.L a ccd cl outer∧Below A₀ base outer Γ.h₀∧K.In Γ.h₀∧Top p loose mean mg mb Γ.h₀∧cs.kind=.function
def Def(f:Addr)(room:Nat)(F:List V→Hp→Option (V×Hp)): Prop:=∀(Γ:Cx) (dp un:Nat),Clr K p loose mean mg mb Γ dp un→dp+room<recursionLimit→un+10*room+300<cLine →
 ∀(W:Wd) (ρ:Lc) (H:Hp) (fr:List (Addr×Obj)) (s:Shared) (Q E:Value→Shared→Prop) (as:List V) (xs:List Value) (v:V) (H':Hp),
  Rep Γ W ρ H fr s.heap→VRs W as xs→F as H=some (v,H')→ZhL Γ W ρ H' fr s Q v→wpAny (model prog w) Γ.A (call (.ref f) xs) Q E s
end
noncomputable def Z5(n:Nat)(g:Sm): List V→Hp→Option (V×Hp):=fun as H=>if as.length=n then(g (fun i=>as[i]?) H).map fun r=>((r.1.getD .none),r.2.2)else none
theorem ZvM{kindOf:Str→Option NameKind}: ∀{ps:List Str} {xs:List Value} {m:Str→Option Value} {x:Str} {i:Nat} {y:Value},ps.Nodup→ps[i]?=some x→xs[i]?=some y→kindOf x=some .local→bindL kindOf (ps.zip xs) m x=some y:=by
 have skip:∀{ps:List Str} {xs:List Value} {m:Str→Option Value} {x:Str},x∉ps→bindL kindOf (ps.zip xs) m x=m x:=by
  intro ps
  induction ps with
  | nil=>intro xs m x _;rfl
  | cons p ps ih=>
   intro xs m x hx
   cases xs with
   | nil=>rfl
   | cons z xs=>
    simp only[List.zip_cons_cons,bindL]
    rw[ih (fun h=>hx (Zz2 _ h))]
    have:x≠p:=fun e=>hx (e▸List.mem_cons_self)
    split <;> simp[this]
 intro ps
 induction ps with
 | nil=>intro xs m x i y _ h;simp at h
 | cons p ps ih=>
  intro xs m x i y nd hp hx hk
  cases xs with
  | nil=>simp at hx
  | cons z xs=>
   obtain⟨n1,n2⟩:=List.nodup_cons.mp nd
   cases i with
   | zero=>
    simp at hp hx
    subst hp hx
    simp only[List.zip_cons_cons,bindL]
    rw[skip n1,if_pos hk]
    simp
   | succ i=>
    simp at hp hx
    simp only[List.zip_cons_cons,bindL]
    exact ih n2 hp hx hk
theorem ZvN{kindOf:Str→Option NameKind}: ∀{ps:List Str} {xs:List Value} {m:Str→Option Value} {x:Str} {i:Nat} {y:Value},ps.Nodup→ps[i]?=some x→xs[i]?=some y→kindOf x=some .cell→bindC kindOf (ps.zip xs) m x=some y:=by
 have skip:∀{ps:List Str} {xs:List Value} {m:Str→Option Value} {x:Str},x∉ps→bindC kindOf (ps.zip xs) m x=m x:=by
  intro ps
  induction ps with
  | nil=>intro xs m x _;rfl
  | cons p ps ih=>
   intro xs m x hx
   cases xs with
   | nil=>rfl
   | cons z xs=>
    simp only[List.zip_cons_cons,bindC]
    rw[ih (fun h=>hx (Zz2 _ h))]
    have:x≠p:=fun e=>hx (e▸List.mem_cons_self)
    split <;> simp[this]
 intro ps
 induction ps with
 | nil=>intro xs m x i y _ h;simp at h
 | cons p ps ih=>
  intro xs m x i y nd hp hx hk
  cases xs with
  | nil=>simp at hx
  | cons z xs=>
   obtain⟨n1,n2⟩:=List.nodup_cons.mp nd
   cases i with
   | zero=>
    simp at hp hx
    subst hp hx
    simp only[List.zip_cons_cons,bindC]
    rw[skip n1,if_neg (by rw[hk];simp)]
    simp
   | succ i=>
    simp at hp hx
    simp only[List.zip_cons_cons,bindC]
    exact ih n2 hp hx hk
theorem Zhk{cm:Str→Option Value}: ∀{cs:List (Str×Addr)} {cells:List (Addr×Obj)} {x:Str} {c:Addr},CellsAre cm cs cells→(x,c)∈cs→∃o,(c,o)∈cells∧o.data=.cell (cm x)
 | _,_,_,_,.nil,h=>nomatch h
 | _,_,_,_,.cons hd r,h=>by
  rcases Zz7.mp h with e | h
  ·cases e
   exact⟨_,List.mem_cons_self,hd⟩
  ·obtain⟨o,h1,h2⟩:=Zhk r h
   exact⟨o,List.mem_cons_of_mem _ h1,h2⟩
theorem ZrP{cm:Str→Option Value}: ∀{cs:List (Str×Addr)} {cells:List (Addr×Obj)} {q:Addr×Obj},CellsAre cm cs cells→q∈cells→∃x,(x,q.1)∈cs
 | _,_,_,.nil,h=>nomatch h
 | _,_,_,.cons hd r,h=>by
  rcases Zz7.mp h with e | h
  ·cases e
   exact⟨_,List.mem_cons_self⟩
  ·obtain⟨x,h1⟩:=ZrP r h
   exact⟨x,List.mem_cons_of_mem _ h1⟩
theorem ZdW{α β:Type}[BEq α][LawfulBEq α]: ∀{l:List (α×β)} {x:α} {y:β},l.lookup x=some y→(x,y)∈l
 | [],_,_,h=>by simp at h
 | (a,b)::r,x,y,h=>by
  rw[List.lookup_cons]at h
  split at h
  ·rename_i e
   cases h
   have:=eq_of_beq e
   subst this
   exact Zz5
  ·exact Zz2 _ (ZdW h)
end PM
end
section
namespace PM
open PySem PySem.W PySem.Calls PyProof.Rows PyProof PySem.Spec
section
variable {prog:Program} {w:World} {K:Frag} {p:Program} {loose:List Str} {mean:ExcName→Option Value} {mg mb:Str→Option Value}
theorem Zso{name qual:Str}{params:Arguments}{body:List Stmt}{scope:Scope}{dV kV doc pm cdv ct oc:Value}{an od:Option Addr}{osl:Array (Option Value)}{f:Addr}{names:List Str}{n room:Nat}{g:Sm}
  (ho:K.lookup f=some ⟨oc,od,.func (fnOf name qual params body scope dV kV doc pm an cdv ct),osl⟩) (hcd:codeIn K cdv qual=true) (nd:names.Nodup) (hn:n≤names.length)
  (hbind:∀s xs,xs.length=n→BindsTo s (fnOf name qual params body scope dV kV doc pm an cdv ct) ⟨xs,[]⟩ ((names.take n).zip xs)) (hkinds:∀x∈names.take n,scope.names.lookup x=some .local∨scope.names.lookup x=some .cell) (hone:((cellsFrom 0 scope.names []).map (·.1)).Nodup)
  (hco:scope.isCoroutine=false) (hgen:scope.isGenerator=false) (hk:scope.kind=.function)
  (hbody:∀(dp un:Nat) (gd:Option (List Code)) (L:Addr) (outer:List Env) (h₀:Heap) (hu:un+200<cLine),Clr K p loose mean mg mb (ZbT dp un gd qual scope L f cdv (cellsFrom (L+1) scope.names []) outer h₀ hu names) dp un→dp+room<recursionLimit→un+10*room+300<cLine →
   Ss prog w (ZbT dp un gd qual scope L f cdv (cellsFrom (L+1) scope.names []) outer h₀ hu names) body g):
  Def prog w K p loose mean mg mb f (room+1) (Z5 n g):=by
 intro Γ dp un clr hd hu W ρ H fr s Q E as xs v H' r hx hF post
 obtain⟨gd,cn,cs,a,ccd,cl,outer,A₀,base,eA,B,X,T,hke⟩:=clr
 unfold Z5 at hF
 split at hF
 ·rename_i hlen
  obtain⟨res,e1,e2⟩:=Zz1.mp hF
  obtain⟨o,ρ',K'⟩:=res
  cases e2
  obtain⟨m,c,led,r⟩:=r
  have hxl:xs.length=n:=by rw[hx.length,hlen]
  have inn:∀q∈led,(q.1∈W.pi∨q.1∈W.tups.map (·.1))↔q∈led.filter (fun q=>decide (q.1∈W.pi∨q.1∈W.tups.map (·.1))):=fun q hq=>⟨fun h=>List.mem_filter.mpr ⟨hq,by simpa using h⟩,fun h=>by simpa using (List.mem_filter.mp h).2⟩
  have isub:∀q∈led.filter (fun q=>decide (q.1∈W.pi∨q.1∈W.tups.map (·.1))),q∈led:=fun q hq=>(List.mem_filter.mp hq).1
  generalize hlent:led.filter (fun q=>decide (q.1∈W.pi∨q.1∈W.tups.map (·.1)))=lent at inn isub
  have notin:∀q∈led,q.1∉W.pi→(∀t∈W.tups,q.1≠t.1)→q.1∉lent.map (·.1):=fun q hq h1 h2 h3=>by
   obtain⟨t,ht,e⟩:=Zz11.mp h3
   rcases(inn t (isub t ht)).mpr ht with z | z
   ·exact h1 (e▸z)
   ·obtain⟨u,hu,e'⟩:=Zz11.mp z
    exact h2 u hu (e▸e'.symm)
  rw[eA]
  refine wpAny_call ?_
  refine ZyA (env:=envX cn cs Γ.L a ccd cl) (lent:=lent) B r.F X (fun q hq=>r.N q (isub q hq)) T rfl rfl hke ho hcd (by show dp<recursionLimit;omega) (hbind s xs hxl) ?_ hone ?_ hco hgen hk
  ·refine List.all_eq_true.mpr fun y hy=>?_
   rcases hkinds y.1 (List.of_mem_zip hy).1 with h | h <;> simp[h]
  intro g0 L' h₁ tk cells stay F' N' Y ap ab B' X' T' old szL
  have hu':(un+3)+200<cLine:=by omega
  have clr':Clr K p loose mean mg mb (ZbT (dp+1) (un+3) gd qual scope L' f cdv (cellsFrom (L'+1) scope.names []) (envX cn cs Γ.L a ccd cl::outer) g0 hu' names) (dp+1) (un+3):=
   ⟨gd,qual,scope,f,cdv,cellsFrom (L'+1) scope.names [],envX cn cs Γ.L a ccd cl::outer,_,base,rfl,B',X',T',hk⟩
  have below:∀q∈cells,L'<q.1:=fun q hq=>by
   obtain⟨x,hx⟩:=ZrP Y hq
   exact ab x _ hx
  have piLt:∀b∈W.pi,b<L':=fun b hb=>by
   obtain⟨o,ho⟩:=r.piIn b hb
   exact Nat.lt_of_lt_of_le (Heap.lt_size (r.get ho)) szL
  have tuLt:∀t∈W.tups,t.1<L':=fun t ht=>Nat.lt_of_lt_of_le (Heap.lt_size (r.get (r.R.tups t ht))) szL
  have scN:W.sc.1∉lent.map (·.1):=fun z=>by
   obtain⟨t,ht,e⟩:=Zz11.mp z
   exact r.notSc t (isub t ht) e
  have tkn:∀{i:Nat} {x:Str} {u:V},names[i]?=some x→as[i]?=some u→(names.take n)[i]?=some x∧∃y,xs[i]?=some y∧VR W u y:=fun {i x u} h1 h2=>by
   have hi:i<n:=by rw[←hlen];exact(Zz6.mp h2).1
   exact⟨by rw[List.getElem?_take_of_lt hi];exact h1,hx.at h2⟩
  have ndt:(names.take n).Nodup:=nd.sublist (List.take_sublist _ _)
  have rep:Rep (ZbT (dp+1) (un+3) gd qual scope L' f cdv (cellsFrom (L'+1) scope.names []) (envX cn cs Γ.L a ccd cl::outer) g0 hu' names) W (fun i=>as[i]?) H [] h₁:=by
   refine⟨_,cells,cells++lent,⟨F',N',⟨r.R.len,r.R.nd,fun i vs e=>?_,fun q hq=>?_,r.R.kind⟩,stay _ _ (r.F.keep _ _ r.sc) scN,r.sc0,fun q hq=>(nomatch hq),fun q hq=>(nomatch hq),fun q hq=>List.mem_append_left _ hq,fun q hq z=>?_,fun q _ t ht=>(nomatch ht),fun q hq=>(nomatch hq),fun q hq t ht=>?_,⟨fun i x u hi hk1 hu1=>?_,fun i x u hi hk1 hu1=>?_,fun x c1 hc=>?_,fun x y c1 h1 h2=>?_⟩⟩⟩
   ·obtain⟨l,b,ys,k,h1,h2,h3⟩:=r.R.lists i vs e
    exact⟨l,b,ys,k,h1,ZeJ h2 fun z=>List.mem_append_right _ ((inn _ z).mp (.inl (List.mem_of_getElem? h1))),h3⟩
   ·exact ZeJ (r.R.tups q hq) fun z=>List.mem_append_right _ ((inn _ z).mp (.inr (List.mem_map_of_mem hq)))
   ·exact absurd (Nat.lt_trans (piLt _ z) (below q hq)) (Nat.lt_irrefl _)
   ·exact Nat.ne_of_gt (Nat.lt_trans (tuLt t ht) (below q hq))
   ·obtain⟨h1,y,h2,h3⟩:=tkn hi hu1
    exact⟨y,ZvM ndt h1 h2 hk1,h3⟩
   ·obtain⟨h1,y,h2,h3⟩:=tkn hi hu1
    have hs:=cellsFrom_some scope.names (L'+1) [] (.inl hk1)
    obtain⟨c1,hc1⟩:=Option.isSome_iff_exists.mp hs
    obtain⟨o1,ho1,hd1⟩:=Zhk Y (ZdW hc1)
    refine⟨c1,o1,y,hc1,ho1,?_,h3⟩
    rw[hd1,ZvN ndt h1 h2 hk1]
   ·obtain⟨o1,ho1,hd1⟩:=Zhk Y (ZdW hc)
    exact⟨o1,_,ho1,hd1⟩
   ·exact name_of_addr ap (ZdW h1) (ZdW h2)
  have hb:=hbody (dp+1) (un+3) gd L' (envX cn cs Γ.L a ccd cl::outer) g0 hu' clr' (by omega) (by omega)
  have back:∀(W':Wd) (h':Heap) (tk':Nat) (x:Value),W.Le W'→Rep (ZbT (dp+1) (un+3) gd qual scope L' f cdv (cellsFrom (L'+1) scope.names []) (envX cn cs Γ.L a ccd cl::outer) g0 hu' names) W' ρ' K' [] h'→VR W' (o.getD .none) x →
    LeaveK Γ.h₀ Γ.L m g0 (fun r s'=>match r with | .ok (.ret v)=>Q v s' | .ok _=>False | .error e=>E e s') x { s with heap:=h',toks:=tk' }:=by
   intro W' h' tk' x l' r' x'
   obtain⟨m',c',led',r'⟩:=r'
   refine⟨L',m',led',r'.F,r'.N,fun FG NG=>post W' h' tk' x l' ?_ x'⟩
   have g0at:∀q∈led,q.1∉lent.map (·.1)→g0.get? q.1=some q.2:=fun q hq hn=>stay _ _ (r.N q hq).1 hn
   have frN:∀q∈fr,q.1∉lent.map (·.1):=fun q hq=>notin q (r.frIn q hq) (r.frOff q hq) (r.frTup q hq)
   have clN:∀q∈c,q.1∉lent.map (·.1):=fun q hq=>notin q (r.clIn q hq) (r.clOff q hq) (r.clTup q hq)
   have newN:∀t∈led',g0.get? t.1=none:=fun t ht=>(r'.N t ht).2.2
   have far:∀q∈led,q.1∉lent.map (·.1)→∀t∈W'.sc::led',q.1≠t.1:=fun q hq hn t ht e=>by
    rcases Zz7.mp ht with e2 | ht
    ·rw[e2,l'.sc]at e
     exact r.notSc q hq e
    ·have:=g0at q hq hn
     rw[e,newN t ht]at this
     cases this
   have farPi:∀q∈led,q.1∉lent.map (·.1)→q.1∉W'.pi:=fun q hq hn z=>by
    obtain⟨o2,h2⟩:=r'.piIn _ z
    exact far q hq hn _ h2 rfl
   have keep:∀q∈led,q.1∉lent.map (·.1)→q∈led'++led.filter (fun q=>decide (q.1∉lent.map (·.1))):=fun q hq hn=>List.mem_append_right _ (List.mem_filter.mpr ⟨hq,by simpa using hn⟩)
   refine⟨m,c,led'++led.filter (fun q=>decide (q.1∉lent.map (·.1))),⟨FG,fun q hq=>?_,r'.R.mono fun q hq=>Zgo hq fun x hx=>List.mem_append_left _ hx,l'.sc▸r.sc,r'.sc0,fun q hq=>keep q (r.frIn q hq) (frN q hq),fun q hq=>farPi q (r.frIn q hq) (frN q hq),fun q hq=>keep q (r.clIn q hq) (clN q hq),fun q hq=>farPi q (r.clIn q hq) (clN q hq),r.apart,fun q hq t ht=>far q (r.frIn q hq) (frN q hq) t (r'.R.tups t ht),fun q hq t ht=>far q (r.clIn q hq) (clN q hq) t (r'.R.tups t ht),Γ.mono l' r.own⟩⟩
   rcases Zz8.mp hq with hq | hq
   ·exact NG q hq
   ·obtain⟨h1,h2⟩:=List.mem_filter.mp hq
    exact⟨r'.F.keep _ _ (g0at q h1 (by simpa using h2)),(r.N q h1).2⟩
  refine hb W _ H [] _ _ _ (o,ρ',K') rep e1 ?_
  cases o with
  | none=>exact fun W' h' tk' l' r'=>back W' h' tk' .none l' r' .none
  | some v0=>exact fun W' h' tk' x l' r' x'=>back W' h' tk' x l' r' x'
 ·cases hF
theorem Zxs{Γ:Cx}{dp un:Nat}{x:Str}{np pos:Pos}{f:Addr}{room:Nat}{e:Expr}{es:List Expr}{g:Exs}{o:List V→Hp→Option (V×Hp)}(clr:Clr K p loose mean mg mb Γ dp un)(hn:Nm prog w Γ x (.ref f))(hkeep:keepIn K (.ref f)=true)(D:Def prog w K p loose mean mg mb f room o)(hd:dp+room<recursionLimit)(hu:un+10*room+300<cLine)
  (h:Js prog w Γ (e::es) g) (he:starEach (e::es) Γ.env=(false,eval e Γ.env)::starEach es Γ.env:=by rfl) (hp:∀pos,(backTo pos (starEach es Γ.env)).any (·.1)=false:=by intro _;rfl):J prog w Γ (.Call (.Name x np) (e::es) [] pos) (Zs o g):=by
 intro W ρ H fr s Q E v H' r hf post
 obtain⟨q,e1,hf⟩:=Zz0.mp hf
 have X:K.In Γ.h₀:=by
  obtain⟨_,_,_,_,_,_,_,_,_,_,_,X,_⟩:=clr
  exact X
 refine wpAny_Call_ofName (hn.use r ?_)
 refine callWith_K (first:=[]) X hkeep (h pos W ρ H fr s _ E _ _ r e1 fun W1 k1 t1 xs l1 r1 x1=>⟨?_,?_⟩) he (hp pos)
 ·obtain⟨m,c,led,r1⟩:=r1
  exact X.keeps r1.F.keep
 ·exact D Γ dp un clr hd hu W1 ρ _ fr _ Q E _ xs v H' r1 x1 hf fun W2 k2 t2 y l2 r2 y2=>post W2 k2 t2 y (l1.trans l2) r2 y2
theorem Zbp{Γ:Cx}{dp un:Nat}{scope:Scope}{cl:List (Str×Addr)}{C:Addr}{ts:List (Str×Nat)}{ρ0:Lc}(h:Clr K p loose mean mg mb Γ dp un): Clr K p loose mean mg mb (Zbu Γ scope cl C ts ρ0) dp un:=h
end
end PM
end
section
namespace PM
open PySem PySem.W PySem.Calls PyProof.Rows PyProof PySem.Spec
theorem ZkK{lo:Nat}: ∀(names:List (Str×NameKind)) (n:Nat) (acc:List (Str×Addr)),acc.Pairwise (fun x y=>x.2≠y.2)→(∀q∈acc,lo<q.2∧q.2<n)→lo<n→(cellsFrom n names acc).Pairwise (fun x y=>x.2≠y.2)∧∀q∈cellsFrom n names acc,lo<q.2
 | [],n,acc,h1,h2,_=>⟨h1,fun q hq=>(h2 q hq).1⟩
 | (y,k)::r,n,acc,h1,h2,h3=>by
  unfold cellsFrom
  by_cases hk:(k == .cell)=true
  ·rw[if_pos hk]
   refine ZkK r (n+1) ((y,n)::acc) (List.pairwise_cons.mpr ⟨fun q hq=>Nat.ne_of_gt (h2 q hq).2,h1⟩) (fun q hq=>?_) (Nat.lt_succ_of_lt h3)
   rcases Zz7.mp hq with e | hq
   ·rw[e]
    exact⟨h3,Nat.lt_succ_self n⟩
   ·exact⟨(h2 q hq).1,Nat.lt_succ_of_lt (h2 q hq).2⟩
  ·rw[if_neg hk]
   exact ZkK r n acc h1 h2 h3
theorem ZvO{P:Params}{h:Heap}{a:Addr}{ns:List Int}(w1:Well P h (.ref a) (ofPy (.list (ns.map PyData.int))))(W:Wd): ∃vs,h.get? a=some (Zb7 vs 0)∧VRs W (ns.map V.int) vs:=by
 have key:∀{ns:List Int} {vs:List Value} {xs:List WData},xs=(ns.map PyData.int).map ofPy→WellAll P h vs xs→VRs W (ns.map V.int) vs:=by
  intro ns
  induction ns with
  | nil=>intro vs xs e h;subst e;cases h;exact .nil
  | cons n ns ih=>
   intro vs xs e h
   subst e
   cases h with
   | cons h1 h2=>
    cases h1 with
    | int i t=>exact .cons (.int _ _) (ih rfl h2)
 have e:ofPy (.list (ns.map PyData.int))=.list ((ns.map PyData.int).map ofPy):=by rw[ofPy,ofPys_eq]
 rw[e]at w1
 cases w1 with
 | list hg ha=>exact⟨_,hg,key rfl ha⟩
section
variable {prog:Program} {w:World} {K:Frag} {p:Program} {loose:List Str} {mean:ExcName→Option Value} {mg mb:Str→Option Value}
theorem Zxt{P:Params}{h₀:Heap}{s:Shared}{sa fa:Addr}{cd:Value}{ns:List Int}{qual pname:Str}{scope:Scope}{body:List Stmt}{names:List Str}{g:Sm}{cells:List (Addr×Obj)}{Q:Flow→Shared→Prop}{E:Value→Shared→Prop}{room:Nat}{H':Hp}
  (hbody:∀(dp un:Nat) (gd:Option (List Code)) (L a:Addr) (ccd:Value) (outer:List Env) (h₀:Heap) (hu:un+200<cLine),Clr K p loose mean mg mb (ZbT dp un gd qual scope L a ccd (cellsFrom (L+1) scope.names []) outer h₀ hu names) dp un→dp+room<recursionLimit→un+10*room+300<cLine →
   Ss prog w (ZbT dp un gd qual scope L a ccd (cellsFrom (L+1) scope.names []) outer h₀ hu names) body g)
  (hd:callerA.depth+1+room<recursionLimit) (hun:callerA.units+3+10*room+300<cLine) (hk:scope.kind=.function) (h0:names[0]?=some pname)
  (KX:K.In h₀) (T:Top p loose mean mg mb h₀) (w1:Well P h₀ (.ref sa) (ofPy (.list (ns.map PyData.int)))) (hlen:ns.length≤LEN)
  (F:Fr h₀ h₀.objs.size s.heap (bindL (envOfC qual scope h₀.objs.size fa cd).kindOf [(pname,.ref sa)] fun _=>none)) (N:News h₀ h₀.objs.size s.heap cells) (X0:CellsAre (bindC (envOfC qual scope h₀.objs.size fa cd).kindOf [(pname,.ref sa)] fun _=>none) (cellsFrom (h₀.objs.size+1) scope.names []) cells)
  (hg:Z5 1 g [.ref 0] [ns.map V.int]=some (.bool true,H')) (post:∀h' tk' m',Fr h₀ h₀.objs.size h' m'→Q (.ret (.bool true)) { s with heap:=h',toks:=tk' }):
  wpAny (model prog w) (callerA.deeper (envOfC qual scope h₀.objs.size fa cd)) (execs body (envOfC qual scope h₀.objs.size fa cd)) Q E s:=by
 have hu':(callerA.units+3)+200<cLine:=by omega
 have clr:Clr K p loose mean mg mb (ZbT (callerA.depth+1) (callerA.units+3) callerA.guards qual scope h₀.objs.size fa cd (cellsFrom (h₀.objs.size+1) scope.names []) [] h₀ hu' names) (callerA.depth+1) (callerA.units+3):=
  ⟨callerA.guards,qual,scope,fa,cd,cellsFrom (h₀.objs.size+1) scope.names [],[],_,_,rfl,below_caller h₀,KX,T,hk⟩
 have hb:=hbody (callerA.depth+1) (callerA.units+3) callerA.guards h₀.objs.size fa cd [] h₀ hu' clr hd hun
 obtain⟨vs,hsc,hv⟩:=ZvO w1 ⟨[sa],[],(sa,Zb7 [] 0)⟩
 have hv':VRs ⟨[sa],[],(sa,Zb7 vs 0)⟩ (ns.map V.int) vs:=by
  clear hg post w1 hlen hsc
  generalize ns.map V.int=us at hv
  have key:∀{us:List V} {xs:List Value},VRs ⟨[sa],[],(sa,Zb7 [] 0)⟩ us xs→VRs ⟨[sa],[],(sa,Zb7 vs 0)⟩ us xs:=by
   intro us
   induction us with
   | nil=>intro xs h;cases h;exact .nil
   | cons u us ih=>
    intro xs h
    cases h with
    | cons a b=>
     refine .cons ?_ (ih b)
     cases a with
     | none=>exact .none
     | bool b=>exact .bool b
     | int i t=>exact .int i t
     | str s t=>exact .str s t
     | tup hm _ _=>exact nomatch hm
     | ref e=>exact .ref e
  exact key hv
 have far:=ZkK (lo:=h₀.objs.size) scope.names (h₀.objs.size+1) [] .nil (fun q hq=>nomatch hq) (Nat.lt_succ_self _)
 unfold Z5 at hg
 rw[if_pos (show([V.ref 0]:List V).length=1 from rfl)]at hg
 obtain⟨res,e1,e2⟩:=Zz1.mp hg
 obtain⟨o,ρ',K'⟩:=res
 have eo:o=some (.bool true):=by
  cases o with
  | none=>simp at e2
  | some v=>simp at e2;rw[e2.1]
 subst eo
 have pick:∀{i:Nat} {x:Str} {u:V},names[i]?=some x→([V.ref 0]:List V)[i]?=some u→x=pname∧u=.ref 0:=fun {i x u} h1 h2=>by
  have hi:i<1:=(Zz6.mp h2).1
  have:i=0:=by omega
  subst this
  rw[h0]at h1
  simp at h1 h2
  exact⟨h1.symm,h2.symm⟩
 have rep:Rep (ZbT (callerA.depth+1) (callerA.units+3) callerA.guards qual scope h₀.objs.size fa cd (cellsFrom (h₀.objs.size+1) scope.names []) [] h₀ hu' names) ⟨[sa],[],(sa,Zb7 vs 0)⟩ (fun i=>[V.ref 0][i]?) [ns.map V.int] [] s.heap:=by
  refine⟨_,cells,cells,⟨F,N,⟨rfl,by simp,fun i us e=>?_,fun q hq=>(nomatch hq),fun q hq=>(nomatch hq)⟩,hsc,rfl,fun q hq=>(nomatch hq),fun q hq=>(nomatch hq),fun q hq=>hq,fun q hq z=>?_,fun q _ t ht=>(nomatch ht),fun q hq=>(nomatch hq),fun q hq t ht=>(nomatch ht),⟨fun i x u hi hk1 hu1=>?_,fun i x u hi hk1 hu1=>?_,fun x c1 hc=>?_,fun x y c1 h1 h2=>?_⟩⟩⟩
  ·have hi:i<1:=(Zz6.mp e).1
   have:i=0:=by omega
   subst this
   simp at e
   subst e
   exact⟨by simpa using hlen,sa,vs,0,rfl,List.mem_cons_self,hv'⟩
  ·have:=(N q hq).2.2
   rw[List.mem_singleton.mp z,hsc]at this
   cases this
  ·obtain⟨e3,e4⟩:=pick hi hu1
   subst e3 e4
   refine⟨.ref sa,?_,.ref rfl⟩
   show bindL _ _ _ _=_
   unfold bindL bindL
   rw[if_pos (show(envOfC qual scope h₀.objs.size fa cd).kindOf x=some .local from hk1)]
   simp
  ·obtain⟨e3,e4⟩:=pick hi hu1
   subst e3 e4
   have hs:=cellsFrom_some scope.names (h₀.objs.size+1) [] (.inl hk1)
   obtain⟨c1,hc1⟩:=Option.isSome_iff_exists.mp hs
   obtain⟨o1,ho1,hd1⟩:=Zhk X0 (ZdW hc1)
   refine⟨c1,o1,.ref sa,hc1,ho1,?_,.ref rfl⟩
   rw[hd1]
   unfold bindC bindC
   rw[if_neg (show ¬(envOfC qual scope h₀.objs.size fa cd).kindOf x=some .local by show ¬scope.names.lookup x=some .local;rw[hk1];simp)]
   simp
  ·obtain⟨o1,ho1,hd1⟩:=Zhk X0 (ZdW hc)
   exact⟨o1,_,ho1,hd1⟩
  ·exact name_of_addr far.1 (ZdW h1) (ZdW h2)
 refine hb _ _ _ [] s Q E _ rep e1 ?_
 intro W' h' tk' x l' r' x'
 cases x' with
 | bool _=>
  obtain⟨m',c',led',r'⟩:=r'
  exact post h' tk' m' r'.F
end
end PM
end
section
namespace PM
open PySem PySem.W PySem.Calls PyProof.Rows PyProof PyProof.Rows.LCg PyProof.Rows.LSm
theorem Rep.listAt{Γ:Cx}{W:Wd}{ρ:Lc}{H:Hp}{fr:List (Addr×Obj)}{h h':Heap}{vs:List V}{xs:List Value}{k:Nat}(r:Rep Γ W ρ H fr h)(up:∀b o,h.get? b=some o→h'.get? b=some o)(hg:h'.get? h.objs.size=some (Zb7 xs k))(hv:VRs W vs xs)(hl:vs.length≤LEN):
  ∃W',W.Le W'∧Rep Γ W' ρ (H++[vs]) fr h'∧VR W' (.ref H.length) (.ref h.objs.size):=by
 obtain⟨r2,ap⟩:=r.more (fs:=[(h.objs.size,Zb7 xs k)]) up (fun q hq=>by rw[List.mem_singleton.mp hq];exact⟨hg,Nat.le_refl _⟩)
 exact Zg6 r2 (fun t ht=>ap _ Zz5 t ht) hv hl
noncomputable def Zdh: List V→Hp→Option (V×Hp)
 | [.ref a],H=>H[a]?.map fun vs=>(.ref H.length,H++[vs])
 | [.tup vs],H=>some (.ref H.length,H++[vs])
 | _,_=>none
noncomputable def Zf6: List V→Hp→Option (V×Hp)
 | [.ref a],H=>H[a]?.map fun vs=>(.tup vs,H)
 | [.tup vs],H=>some (.tup vs,H)
 | _,_=>none
noncomputable def Zf7: List V→Option (List Bool)
 | []=>some []
 | .bool b::vs=>(Zf7 vs).map fun bs=>b::bs
 | _::_=>none
noncomputable def ZAh: List V→Hp→Option (V×Hp)
 | [.ref a],H=>H[a]?.bind fun vs=>(Zf7 vs).map fun bs=>(.bool (bs.all id),H)
 | _,_=>none
noncomputable def ZhN: List V→Hp→Option (V×Hp)
 | [.ref a],H=>H[a]?.bind fun vs=>(Zf7 vs).map fun bs=>(.bool (bs.any id),H)
 | _,_=>none
theorem Zuw{W:Wd}: ∀{vs:List V} {xs:List Value} {bs:List Bool},VRs W vs xs→Zf7 vs=some bs→BoolsAre xs bs:=by
 intro vs
 induction vs with
 | nil=>intro xs bs h e;cases h;cases e;exact .nil
 | cons v vs ih=>
  intro xs bs h e
  cases h with
  | cons a b=>
   cases v with
   | bool c=>
    obtain⟨cs,e1,e2⟩:=Zz1.mp e
    subst e2
    cases a
    exact .cons _ (ih b e1)
   | none=>cases e
   | int _=>cases e
   | str _=>cases e
   | tup _=>cases e
   | ref _=>cases e
section
variable {prog:Program} {w:World}
theorem Ze2: OpN prog w (fun xs=>call (.type "list") xs) Zdh:=by
 intro Γ W ρ H fr s Q E as xs v H' r hx ho post
 unfold Zdh at ho
 split at ho
 ·obtain⟨vs,e1,e2⟩:=Zz1.mp ho
  cases e2
  obtain⟨x,ex,rx⟩:=hx.one
  subst ex
  cases rx with
  | @ref _ a ea=>
   obtain⟨hl,ys,k,hg,hv⟩:=r.at e1 ea
   refine call_list_seq (hsz:=Zdc (by rw[List.size_toArray,hv.length];exact hl)) a (.inl rfl) hg rfl rfl fun h' c' up hg'=>?_
   obtain⟨W2,l2,r2,v2⟩:=r.listAt up hg' hv hl
   exact post W2 h' s.toks _ l2 r2 v2
 ·cases ho
  obtain⟨x,ex,rx⟩:=hx.one
  subst ex
  cases rx with
  | @tup _ a ys k hm hl hv=>
   refine call_list_seq (hsz:=Zdc (by rw[List.size_toArray,hv.length];exact hl)) a (.inr rfl) (r.tupAt hm) rfl rfl fun h' c' up hg'=>?_
   obtain⟨W2,l2,r2,v2⟩:=r.listAt up hg' hv hl
   exact post W2 h' s.toks _ l2 r2 v2
 ·cases ho
theorem ZvP: OpN prog w (fun xs=>call (.type "tuple") xs) Zf6:=by
 intro Γ W ρ H fr s Q E as xs v H' r hx ho post
 unfold Zf6 at ho
 split at ho
 ·obtain⟨vs,e1,e2⟩:=Zz1.mp ho
  cases e2
  obtain⟨x,ex,rx⟩:=hx.one
  subst ex
  cases rx with
  | @ref _ a ea=>
   obtain⟨hl,ys,k,hg,hv⟩:=r.at e1 ea
   have isl:s.heap.IsList a ys.toArray:=⟨_,hg,rfl,k,rfl⟩
   refine call_tuple_list isl (fun h' up=>?_) (Zdc (by rw[List.size_toArray,hv.length];exact hl))
   obtain⟨W2,l2,r2,v2⟩:=(r.grown up).tuple (k:=0) hv hl
   exact post W2 _ s.toks _ l2 r2 v2
 ·cases ho
  obtain⟨x,ex,rx⟩:=hx.one
  subst ex
  cases rx with
  | @tup _ a ys k hm hl hv=>
   have it:IsTup s.heap a ys.toArray:=⟨_,r.tupAt hm,rfl,k,rfl⟩
   exact call_tuple_tup it (post W s.heap s.toks _ (.refl W) r (.tup hm hl hv))
 ·cases ho
theorem ZyB: OpN prog w (fun xs=>call (.builtin "any") xs) ZhN:=by
 intro Γ W ρ H fr s Q E as xs v H' r hx ho post
 unfold ZhN at ho
 split at ho
 ·obtain⟨vs,e1,e2⟩:=Zz0.mp ho
  obtain⟨bs,e3,e4⟩:=Zz1.mp e2
  cases e4
  obtain⟨x,ex,rx⟩:=hx.one
  subst ex
  cases rx with
  | @ref _ a ea=>
   obtain⟨hl,ys,k,hg,hv⟩:=r.at e1 ea
   have isl:s.heap.IsList a ys.toArray:=⟨_,hg,rfl,k,rfl⟩
   obtain⟨m,c,led,r'⟩:=r
   exact any_bools r'.F r'.N Γ.hh isl (Zuw hv e3) fun h' tk F' N'=>post W h' tk _ (.refl W) (r'.same F' N') (.bool _)
 ·cases ho
end
section
variable {prog:Program} {w:World} {K:Frag} {p:Program} {loose:List Str} {mean:ExcName→Option Value} {mg mb:Str→Option Value} {Γ:Cx} {dp un:Nat}
theorem ZyC{x:Str}{v:Value}(clr:Clr K p loose mean mg mb Γ dp un)(e:nsIn K mainGlobals x=some (some v))(hg:Γ.env.globals=mainGlobals)(hk:Γ.env.scope.kind=.function)(hx:Γ.env.kindOf x=some .globalImplicit)(hd:(x == ("__debug__":Str))=false): Nm prog w Γ x v:=by
 obtain⟨_,_,_,_,_,_,_,_,_,_,_,X,T,_⟩:=clr
 intro pos m s Q E F q
 exact Name_function_global hk hx (loadGlobal_global (env:=Γ.env) (by rw[hg];exact T.g.keeps F.keep) (mg_of X T.g e) q) hd
theorem ZwD{x:Str}{v:Value}(clr:Clr K p loose mean mg mb Γ dp un)(e:nsIn K mainGlobals x=some none)(hv:bootBuiltins x=some v)(hn:x≠"__name__")(hg:Γ.env.globals=mainGlobals)(hb:Γ.env.builtins=builtinsNs)(hk:Γ.env.scope.kind=.function)(hx:Γ.env.kindOf x=some .globalImplicit)(hd:(x == ("__debug__":Str))=false): Nm prog w Γ x v:=by
 obtain⟨_,_,_,_,_,_,_,_,_,_,_,X,T,_⟩:=clr
 intro pos m s Q E F q
 exact Name_function_global hk hx (loadGlobal_builtin (env:=Γ.env) (by rw[hg];exact T.g.keeps F.keep) (mg_none_of X T.g e) (by rw[hb];exact T.b.keeps F.keep) ((T.builtins x hn).trans hv) q) hd
end
section
variable {prog:Program} {w:World} {Γ:Cx} {scope:Scope} {cl:List (Str×Addr)} {C:Addr} {ts:List (Str×Nat)} {ρ0:Lc}
theorem Zxu{x:Str}{t:Nat}(hm:(x,t)∈ts)(hk:scope.kind=.function)(hl:(compEnvC scope cl C Γ.env).kindOf x=some .local)(hd:(x == ("__debug__":Str))=false): Rd prog w (Zbu Γ scope cl C ts ρ0) x t:=by
 intro W ρ H fr s Q E v pos r e q
 obtain⟨m,c,led,r⟩:=r
 obtain⟨oC,m₂,cs,ec,h0,h1,h2,h3,h4⟩:=r.own
 obtain⟨v',y,e1,e2,e3⟩:=h2 _ hm
 rw[e]at e1
 cases e1
 exact LCgL.ld_own r.N (r.clIn _ (by rw[ec];exact Zz5)) h1 e2 (q y e3) hk hl hd
end
section
variable {prog:Program} {w:World} {dp un:Nat} {gd:Option (List Code)} {cn:Str} {cs:Scope} {L a:Addr} {ccd:Value} {clf:List (Str×Addr)} {outer:List Env} {h₀:Heap} {hu:un+200<cLine} {names:List Str} {scope:Scope} {cl:List (Str×Addr)} {C:Addr} {ts:List (Str×Nat)} {ρ0:Lc}
theorem Zxv{x:Str}{i:Nat}(hi:names[i]?=some x)(hx:cs.names.lookup x=some .cell)(hne:∀p∈ts,p.2≠i)(hcl:cl.lookup x=clf.lookup x)(hk:scope.kind=.function)(hl:(compEnvC scope cl C (envX cn cs L a ccd clf)).kindOf x=some .cell)(hd:(x == ("__debug__":Str))=false):
  Rd prog w (Zbu (ZbT dp un gd cn cs L a ccd clf outer h₀ hu names) scope cl C ts ρ0) x i:=by
 intro W ρ H fr s Q E v pos r e q
 obtain⟨m,c,led,r⟩:=r
 obtain⟨oC,m₂,cs',ec,h0,h1,h2,h3,h4⟩:=r.own
 rw[h3 i hne]at e
 obtain⟨d,o,y,g1,g2,g3,g4⟩:=h4.cel i x v hi hx e
 exact kcf_cell r.N (hcl.trans g1) (r.clIn _ (by rw[ec];exact Zz2 _ g2)) g3 (q y g4) hk hl hd
end
end PM
end
section
namespace My
open PySem PySem.W PySem.Calls PyProof.Rows PySem.Spec
structure Cell(v:Int): Prop where
 bits:Builtin.Int.intBits v≤2 ^ 20
theorem bits_zero: Builtin.Int.intBits 0≤2 ^ 20:=by unfold Builtin.Int.intBits;simp
theorem cell_at{ns:List Int}(h:PyData.layable0 (.list (ns.map .int))=true)(i:Int): Cell (cellAt ns i 0):=by
 refine⟨?_⟩
 rw[cellAt_def,List.getD_eq_getElem?_getD]
 cases e:ns[i.toNat]? with
 | none=>exact bits_zero
 | some v=>exact PyData.bits_item_of_ints h (List.mem_of_getElem? e)
section
variable {prog:Program} {w:World} {A:Around} {E:Value→Shared→Prop} {s:Shared} {x y:Int} {t u:Tok} {Q:Value→Shared→Prop}
@[irreducible] noncomputable def T9: Int:=10 ^ 9
theorem T9_eq: T9=1000000000:=by unfold T9;decide +kernel
end
end My
end
section
/-! Reckoning with the plain machine. -/
namespace PM
open PySem PySem.W PyProof.Rows
section
variable (ρ:Lc) (H:Hp)
@[simp] theorem ZwE: Zec ρ H=some (none,H):=rfl
@[simp] theorem ZwF(f:Ex): Zed f ρ H=(f ρ H).map fun p=>(some p.1,p.2):=rfl
end
section
variable (a b:Int) (H:Hp)
end
theorem ZsO{b:Int}(hb:0≤b): Builtin.Range.rangeSize 0 b 1=b:=by
 unfold Builtin.Range.rangeSize
 rw[if_pos (by decide)]
 by_cases h:(0:Int)<b
 ·rw[if_pos h]
  omega
 ·rw[if_neg h]
  omega
theorem ZyD{b:Int}{H:Hp}(hb:0≤b)(hb9:b≤1000): ZcH 0 b 1 H=some (Zf5 0 1 b.toNat,b.toNat+1,H):=by
 unfold ZcH rngN
 rw[ZsO hb,if_pos]
 refine⟨by decide,?_,hb,by rw[Zbr];omega,?_⟩
 ·unfold Builtin.Range.small
  rw[ZsO hb]
  simp only[Builtin.Range.rangeFitsLong,Bool.and_eq_true,Bool.or_eq_true,decide_eq_true_eq,beq_iff_eq]
  rw[if_pos (by decide)]
  simp only[Bool.and_eq_true,decide_eq_true_eq]
  by_cases h:(0:Int)<b
  ·refine⟨⟨⟨⟨?_,?_⟩,?_⟩,?_⟩,Or.inr ?_⟩ <;> omega
  ·refine⟨⟨⟨⟨?_,?_⟩,?_⟩,?_⟩,?_⟩ <;> first | omega | (left;omega)
 ·exact PyProof.noPylong_small (by omega)
end PM
end
section
namespace PM
open PySem PySem.W PyProof.Rows My
theorem Zre{a b:Int}(h:IntMulOk a b): mulOk a b=true:=by
 unfold IntMulOk at h
 unfold mulOk
 cases e:(decide (Builtin.Int.intBits a>shortFactorBits) && decide (Builtin.Int.intBits b>shortFactorBits) && Builtin.Int.intTooBig (Builtin.Int.intBits a+Builtin.Int.intBits b))with
 | true=>exact absurd e h
 | false=>rfl
theorem Zpc{a b:Int}{H:Hp}(h:0≤b∧(Builtin.Int.intBits a:Int)*b≤2 ^ 27): oPow (.int a) (.int b) H=some (.int (a ^ b.toNat),H):=by simp only[oPow];rw[if_pos h]
theorem Zzy(H:Hp): oPow (.int 10) (.int 9) H=some (.int T9,H):=by rw[Zpc (by decide +kernel)];unfold T9;rfl
end PM
end
section
namespace PM
open PySem PySem.W PyProof.Rows My
section
variable {ρ ρ1 ρ2:Lc} {H H1 H2 H3:Hp}
theorem ZyE{k:Int}: Zk k ρ H=some (.int k,H):=rfl
theorem Zxw{f g:Ex}{a:Nat}{k:Int}{n:Nat}{vs:List V}(h1:f ρ H=some (.ref a,H1))(h2:g ρ H1=some (.int k,H2))(e:H2[a]?=some vs)(hk:k=(n:Int)): Zdv f (Zed g) Zec ρ H=some (.ref H2.length,H2++[vs.drop n]):=by
 simp only[Zdv,h1,Option.bind_some,ZwF,h2,Option.map_some,ZwE,ZhG,e]
 rw[ZqQ vs hk]
end
end PM
end
section
namespace PM
open PySem PySem.W PyProof.Rows PyProof
noncomputable def ZdO(f:Ex)(k:Nat): Ex:=fun ρ H=>(f ρ H).bind fun p=>match p.1 with
 | .ref i=>p.2[i]?.bind fun vs=>some (.ref p.2.length,p.2++[vs.drop k])
 | .tup vs=>if 1≤k∧k≤vs.length then some (.tup (vs.drop k),p.2)else none
 | _=>none
section
variable {prog:Program} {w:World} {Γ:Cx}
theorem Zhv{e lo:Expr}{p pos:Pos}{f:Ex}{k:Nat}(h:J prog w Γ e f)(hlo:J prog w Γ lo (Zk k))(ht:∀o r,letTemporaryGo e o r=pure ():=by intro _ _;rfl): J prog w Γ (.Subscript e (.Slice (Option.some lo) Option.none Option.none p) pos) (ZdO f k):=by
 intro W ρ H fr s Q E v H' r hf post
 obtain⟨⟨v1,H1⟩,e1,hf⟩:=Zz0.mp hf
 cases v1 with
 | none=>cases hf
 | bool _=>cases hf
 | int _=>cases hf
 | str _=>cases hf
 | ref i=>
  obtain⟨vs,e2,e3⟩:=Zz0.mp hf
  refine Zoo h (JP.some hlo) JP.none ht W ρ H fr s Q E v H' r ?_ post
  rw[Zxw (n:=k) e1 ZyE e2 rfl]
  exact e3
 | tup vs=>
  simp only at hf
  by_cases c:1≤k∧k≤vs.length
  ·rw[if_pos c]at hf
   cases hf
   refine wpAny_Subscript_Slice (T:="tuple") slot_tuple_getitem.lookup (h W ρ H fr s _ E _ _ r e1 fun W1 k1 t1 x l1 r1 x1=>?_) ht
   refine wpAny_Slice ?_
   refine wpAny_evalPart_some (hlo W1 ρ _ fr _ _ E _ _ r1 rfl fun W2 k2 t2 y l2 r2 y2=>?_)
   refine wpAny_evalPart_none ?_
   refine wpAny_evalPart_none ?_
   cases y2 with
   | int _ u=>
    have x2:=x1.mono l2
    cases x2 with
    | @tup _ a ys kk hm hl hs=>
     have it:IsTup k2 a ys.toArray:=⟨_,r2.tupAt hm,rfl,kk,rfl⟩
     have it':IsTup (k2.push { cls:=.type "slice",data:=.fields #[.int k u,.none,.none] }) a ys.toArray:=it.keeps fun _ _ e=>Heap.get?_push_of_some _ e
     have hlen:=hs.length
     rw[Zbr]at hl
     refine⟨it'.typeIs,getItem_tuple_from it' (Heap.IsSliceOf.new ..) c.1 (by simp[hlen];exact c.2) ?_ (Zdc (by simp[hlen];rw[Zbr];exact hl))⟩
     obtain⟨W4,l4,r4,v4⟩:=(r2.push { cls:=.type "slice",data:=.fields #[.int k u,.none,.none] }).tuple (k:=0) (hs.drop k) (by rw[Zbr];simp;omega)
     have:=post W4 _ t2 _ ((l1.trans l2).trans l4) r4 v4
     simpa using this
  ·rw[if_neg c]at hf
   cases hf
end
section
variable {ρ:Lc} {H:Hp} {Q:V→Hp→Prop}
theorem ZsP{a b c:Int}(hc:0<c)(hb:a<b): Builtin.Range.rangeSize a b c=(b-a-1) / c+1:=by
 unfold Builtin.Range.rangeSize
 rw[if_pos hc,if_pos hb]
theorem ZyF{a b c:Int}{H:Hp}(ha:0≤a)(hb:a<b)(hb9:b≤1000)(hc:0<c)(hc9:c≤1000): ZcH a b c H=some (Zf5 a c (rngN a b c),rngN a b c+1,H):=by
 have e:=ZsP hc hb
 have h0:0≤(b-a-1) / c:=Int.ediv_nonneg (by omega) (by omega)
 have h2:(b-a-1) / c≤b-a-1:=Int.ediv_le_self _ (by omega)
 unfold ZcH
 rw[if_pos]
 refine⟨by omega,?_,by omega,by unfold rngN;rw[Zbr];omega,PyProof.noPylong_small (by omega)⟩
 unfold Builtin.Range.small
 rw[e]
 simp only[Builtin.Range.rangeFitsLong,Bool.and_eq_true,Bool.or_eq_true,decide_eq_true_eq,beq_iff_eq]
 rw[if_pos hc]
 simp only[Bool.and_eq_true,decide_eq_true_eq]
 refine⟨⟨⟨⟨?_,?_⟩,?_⟩,?_⟩,?_⟩ <;> first | omega | (left;omega) | (right;omega)
end
end PM
end
section
namespace PM
open PySem PySem.W PyProof.Rows PyProof My
section
variable {ρ:Lc} {H:Hp} {Q:V→Hp→Prop} {L:List V→Hp→Prop}
end
noncomputable def od: Option Int→PyData
 | none=>.none
 | some k=>.int k
theorem Zqc{a:Int}{k:Nat}(h:Builtin.Int.intBits a≤k): a.natAbs<2 ^ k:=by
 unfold Builtin.Int.intBits at h
 by_cases z:a=0
 ·subst z
  exact Nat.two_pow_pos k
 ·rw[if_neg (by simpa using z)]at h
  exact Nat.lt_of_lt_of_le Nat.lt_log2_self (Nat.pow_le_pow_right (by decide) h)
theorem ZwG{a b:Int}{k:Nat}(ha:Builtin.Int.intBits a≤k)(hb:Builtin.Int.intBits b≤k): Builtin.Int.intBits (a+b)≤k+1:=by
 refine PyProof.Rows.intBits_le ?_
 have h1:=Zqc ha
 have h2:=Zqc hb
 rw[Nat.pow_succ]
 omega
theorem Zrf{a b:Int}(ha:Builtin.Int.intBits a≤2 ^ 21)(hb:Builtin.Int.intBits b≤2 ^ 21): mulOk a b=true:=by
 have e:(2:Nat) ^ 21=2097152:=by decide
 have h:Builtin.Int.intTooBig (Builtin.Int.intBits a+Builtin.Int.intBits b)=false:=by
  unfold Builtin.Int.intTooBig bitsLine
  exact decide_eq_false (by omega)
 unfold mulOk
 rw[h]
 simp
theorem ZvQ{a b:Int}(h1:-(2 ^ 64)<b)(h2:b<2 ^ 64): mulOk a b=true:=Zre (IntMulOk.of_right (intBits_le_64 h1 h2))
theorem ZuZ{a b:Int}(h1:-(2 ^ 64)<a)(h2:a<2 ^ 64): mulOk a b=true:=Zre (IntMulOk.of_left (intBits_le_64 h1 h2))
@[irreducible] noncomputable def M9: Int:=48271 ^ Int.toNat 9
@[irreducible] noncomputable def T40: Int:=10 ^ Int.toNat 40
theorem ZyG(H:Hp): oPow (.int 48271) (.int 9) H=some (.int M9,H):=by rw[Zpc (by decide +kernel)];unfold M9;rfl
theorem ZyH(H:Hp): oPow (.int 10) (.int 40) H=some (.int T40,H):=by rw[Zpc (by decide +kernel)];unfold T40;rfl
theorem Zjp: T40=10000000000000000000000000000000000000000:=by unfold T40;decide +kernel
theorem Zxx: Builtin.Int.intBits M9≤2 ^ 21:=by
 unfold M9
 exact Nat.le_trans (PyProof.Rows.intBits_le (k:=256) (by decide +kernel)) (by decide)
section
variable {H:Hp} {Q:V→Hp→Prop} {a b:Int}
end
end PM
end
section
/-! The tree machine: values without places; lists that nobody else holds may be changed. -/
namespace TM
open PySem PM
inductive T where
 | none
 | bool (b:Bool)
 | int (i:Int)
 | str (s:Str)
 | tup (ts:List T)
 | lst (ts:List T)
mutual
inductive RF(H:Hp): V→T→List Nat→Prop where
 | none:RF H .none .none []
 | bool (b:Bool):RF H (.bool b) (.bool b) []
 | int (i:Int):RF H (.int i) (.int i) []
 | str (s:Str):RF H (.str s) (.str s) []
 | tup {vs:List V} {ts:List T} {F:List Nat}:RFs H vs ts F→RF H (.tup vs) (.tup ts) F
 | ref {a:Nat} {vs:List V} {ts:List T} {F:List Nat}:H[a]?=some vs→RFs H vs ts F→RF H (.ref a) (.lst ts) (a::F)
inductive RFs(H:Hp): List V→List T→List Nat→Prop where
 | nil:RFs H [] [] []
 | cons {v:V} {t:T} {F:List Nat} {vs:List V} {ts:List T} {G:List Nat}:RF H v t F→RFs H vs ts G→RFs H (v::vs) (t::ts) (F++G)
end
mutual
theorem RF.frame{H H':Hp}{v:V}{t:T}{F:List Nat}(r:RF H v t F)(h:∀a∈F,H'[a]?=H[a]?): RF H' v t F:=by
 cases r with
 | none=>exact .none
 | bool b=>exact .bool b
 | int i=>exact .int i
 | str s=>exact .str s
 | tup hs=>exact .tup (RFs.frame hs h)
 | ref e hs=>exact .ref ((h _ Zz5).trans e) (RFs.frame hs fun a m=>h a (Zz2 _ m))
theorem RFs.frame{H H':Hp}{vs:List V}{ts:List T}{F:List Nat}(r:RFs H vs ts F)(h:∀a∈F,H'[a]?=H[a]?): RFs H' vs ts F:=by
 cases r with
 | nil=>exact .nil
 | cons a b=>exact .cons (RF.frame a fun x m=>h x (Zz4 _ m)) (RFs.frame b fun x m=>h x (Zz3 _ m))
end
mutual
theorem RF.lt{H:Hp}{v:V}{t:T}{F:List Nat}(r:RF H v t F): ∀a∈F,a<H.length:=by
 cases r with
 | none=>intro a m;cases m
 | bool b=>intro a m;cases m
 | int i=>intro a m;cases m
 | str s=>intro a m;cases m
 | tup hs=>exact RFs.lt hs
 | ref e hs=>
  intro x m
  rcases Zz7.mp m with rfl | m
  ·exact(Zz6.mp e).1
  ·exact RFs.lt hs x m
theorem RFs.lt{H:Hp}{vs:List V}{ts:List T}{F:List Nat}(r:RFs H vs ts F): ∀a∈F,a<H.length:=by
 cases r with
 | nil=>intro a m;cases m
 | cons a b=>
  intro x m
  rcases Zz8.mp m with m | m
  ·exact RF.lt a x m
  ·exact RFs.lt b x m
end
theorem RF.ext{H:Hp}{v:V}{t:T}{F:List Nat}(r:RF H v t F)(X:Hp): RF (H++X) v t F:=r.frame fun a m=>List.getElem?_append_left (r.lt a m)
theorem RFs.ext{H:Hp}{vs:List V}{ts:List T}{F:List Nat}(r:RFs H vs ts F)(X:Hp): RFs (H++X) vs ts F:=r.frame fun a m=>List.getElem?_append_left (r.lt a m)
theorem RFs.length{H:Hp}: ∀{vs:List V} {ts:List T} {F:List Nat},RFs H vs ts F→vs.length=ts.length
 | _,_,_,.nil=>rfl
 | _,_,_,.cons _ r=>by rw[List.length_cons,List.length_cons,r.length]
theorem RFs.append{H:Hp}: ∀{vs us:List V} {ts ss:List T} {F G:List Nat},RFs H vs ts F→RFs H us ss G→RFs H (vs++us) (ts++ss) (F++G)
 | _,_,_,_,_,_,.nil,h=>h
 | _,_,_,_,_,_,.cons a r,h=>by rw[List.append_assoc];exact .cons a (r.append h)
theorem RFs.one{H:Hp}{v:V}{t:T}{F:List Nat}(r:RF H v t F): RFs H [v] [t] F:=by
 have:=RFs.cons r RFs.nil
 rwa [List.append_nil]at this
theorem RFs.snoc{H:Hp}{vs:List V}{ts:List T}{F G:List Nat}{v:V}{t:T}(r:RFs H vs ts F)(x:RF H v t G): RFs H (vs++[v]) (ts++[t]) (F++G):=r.append (.one x)
theorem RFs.at{H:Hp}: ∀{vs:List V} {ts:List T} {F:List Nat} {i:Nat} {t:T},RFs H vs ts F→ts[i]?=some t→∃v G,vs[i]?=some v∧RF H v t G∧G.Sublist F
 | _,_,_,_,_,.nil,e=>by simp at e
 | _,_,_,0,_,.cons a _,e=>by
  simp at e
  exact⟨_,_,by simp,e▸a,List.sublist_append_left _ _⟩
 | _,_,_,i+1,_,.cons _ r,e=>by
  simp at e
  obtain⟨x,G,hx,hr,hs⟩:=r.at e
  exact⟨x,G,by simpa using hx,hr,hs.trans (List.sublist_append_right _ _)⟩
theorem RFs.drop{H:Hp}: ∀{vs:List V} {ts:List T} {F:List Nat} (i:Nat),RFs H vs ts F→∃G,RFs H (vs.drop i) (ts.drop i) G∧G.Sublist F
 | _,_,_,0,h=>⟨_,h,List.Sublist.refl _⟩
 | _,_,_,_+1,.nil=>⟨_,.nil,List.Sublist.refl _⟩
 | _,_,_,i+1,.cons _ r=>by
  obtain⟨G,h1,h2⟩:=r.drop i
  exact⟨G,h1,h2.trans (List.sublist_append_right _ _)⟩
theorem RFs.split{H:Hp}: ∀{vs:List V} {ts:List T} {F:List Nat} {i:Nat} {t:T},RFs H vs ts F→ts[i]?=some t →
  ∃v G F1 F2,vs[i]?=some v∧RF H v t G∧F=F1++(G++F2)∧∀(H':Hp) (w:V) (t':T) (G':List Nat),RF H' w t' G'→(∀a∈F1,H'[a]?=H[a]?)→(∀a∈F2,H'[a]?=H[a]?)→RFs H' (vs.set i w) (ts.set i t') (F1++(G'++F2))
 | _,_,_,_,_,.nil,e=>by simp at e
 | _,_,_,0,_,.cons (G:=G1) a r,e=>by
  simp at e
  subst e
  exact⟨_,_,[],G1,by simp,a,by simp,fun H' w t' G' x _ h2=>by simpa using RFs.cons x (r.frame h2)⟩
 | _,_,_,i+1,_,.cons (F:=F0) a r,e=>by
  simp at e
  obtain⟨v,G,F1,F2,h1,h2,h3,h4⟩:=r.split e
  refine⟨v,G,F0++F1,F2,by simpa using h1,h2,by rw[h3];simp,fun H' w t' G' x k1 k2=>?_⟩
  have:=RFs.cons (a.frame fun b m=>k1 b (Zz4 _ m)) (h4 H' w t' G' x (fun b m=>k1 b (Zz3 _ m)) k2)
  simpa using this
theorem Zrg{α:Type}{xs:List α}{i:Nat}{x:α}(h:xs[i]?=some x): xs.set i x=xs:=by
 obtain⟨hi,e⟩:=Zz6.mp h
 rw[←e]
 exact List.set_getElem_self hi
theorem nd3{F1 G F2 G' Gn:List Nat}(nd:(F1++(G++F2)).Nodup)(n':G'.Nodup)(sub:∀a∈G',a∈G∨a∈Gn)(ds:∀a∈Gn,a∉F1++(G++F2)): (F1++(G'++F2)).Nodup:=by
 rw[List.nodup_append,List.nodup_append]at nd ⊢
 obtain⟨a1,⟨a2,a3,a4⟩,a5⟩:=nd
 refine⟨a1,⟨n',a3,fun x hx y hy e=>?_⟩,fun x hx y hy e=>?_⟩
 ·rcases sub x hx with m | m
  ·exact a4 x m y hy e
  ·exact ds x m (Zz3 _ (Zz3 _ (e▸hy)))
 ·rcases Zz8.mp hy with m | m
  ·rcases sub y m with q | q
   ·exact a5 x hx y (Zz4 _ q) e
   ·exact ds y q (Zz4 _ (e▸hx))
  ·exact a5 x hx y (Zz3 _ m) e
theorem in3{F1 G F2 G' Gn:List Nat}(sub:∀a∈G',a∈G∨a∈Gn): ∀a∈F1++(G'++F2),a∈F1++(G++F2)∨a∈Gn:=by
 intro a m
 rcases Zz8.mp m with m | m
 ·exact .inl (Zz4 _ m)
 ·rcases Zz8.mp m with m | m
  ·exact(sub a m).imp (fun q=>List.mem_append_right _ (Zz4 _ q)) id
  ·exact .inl (Zz3 _ (Zz3 _ m))
mutual
noncomputable def T.flat: T→Bool
 | .lst _=>false
 | .tup ts=>T.flats ts
 | .none=>true
 | .bool _=>true
 | .int _=>true
 | .str _=>true
noncomputable def T.flats: List T→Bool
 | []=>true
 | t::ts=>t.flat && T.flats ts
end
mutual
theorem RF.flat{H:Hp}{v:V}{t:T}{F:List Nat}(r:RF H v t F)(h:t.flat=true): F=[]:=by
 cases r with
 | none=>rfl
 | bool b=>rfl
 | int i=>rfl
 | str s=>rfl
 | tup hs=>exact RFs.flats hs (by simpa [T.flat]using h)
 | ref e hs=>simp[T.flat]at h
theorem RFs.flats{H:Hp}{vs:List V}{ts:List T}{F:List Nat}(r:RFs H vs ts F)(h:T.flats ts=true): F=[]:=by
 cases r with
 | nil=>rfl
 | cons a b=>
  simp only[T.flats,Bool.and_eq_true]at h
  rw[RF.flat a h.1,RFs.flats b h.2]
  rfl
end
noncomputable def T.flatIn: T→Bool
 | .lst ts=>T.flats ts
 | t=>t.flat
noncomputable def Zc8(f:List T→Option (List T)): List Int→T→Option T
 | [],.lst ts=>(f ts).map .lst
 | k::ks,.lst ts=>(seqIndex? k ts.length).bind fun j=>ts[j]?.bind fun t=>(Zc8 f ks t).map fun u=>.lst (ts.set j u)
 | k::ks,.tup ts=>(seqIndex? k ts.length).bind fun j=>ts[j]?.bind fun t=>(Zc8 f ks t).map fun u=>.tup (ts.set j u)
 | _,_=>none
inductive Lead(H:Hp): List Int→V→Nat→Prop where
 | nil {a:Nat}:Lead H [] (.ref a) a
 | ref {k:Int} {ks:List Int} {b:Nat} {vs:List V} {j:Nat} {v:V} {a:Nat}:H[b]?=some vs→seqIndex? k vs.length=some j→vs[j]?=some v→Lead H ks v a→Lead H (k::ks) (.ref b) a
 | tup {k:Int} {ks:List Int} {vs:List V} {j:Nat} {v:V} {a:Nat}:seqIndex? k vs.length=some j→vs[j]?=some v→Lead H ks v a→Lead H (k::ks) (.tup vs) a
theorem Zgf{H:Hp}{Gn:List Nat}{f:List T→Option (List T)}: ∀(ks:List Int) {v:V} {t t':T} {F:List Nat},RF H v t F→F.Nodup→(∀a∈Gn,a∉F)→Zc8 f ks t=some t' →
  ∃a vs ts ts' G,Lead H ks v a∧a∈F∧H[a]?=some vs∧RFs H vs ts G∧f ts=some ts'∧G.Nodup∧a∉G∧(∀x∈G,x∈F) ∧
   ∀vs' G',RFs H vs' ts' G'→G'.Nodup→a∉G'→(∀x∈G',x∈G∨x∈Gn)→∃F',RF (H.set a vs') v t' F'∧F'.Nodup∧∀x∈F',x∈F∨x∈Gn
 | [],v,t,t',F,r,nd,ds,e=>by
  cases r with
  | @ref a vs ts G e1 hs=>
   obtain⟨ts',h1,h2⟩:=Zz1.mp e
   subst h2
   rw[List.nodup_cons]at nd
   refine⟨a,vs,ts,ts',G,.nil,List.mem_cons_self,e1,hs,h1,nd.2,nd.1,fun x m=>List.mem_cons_of_mem _ m,fun vs' G' r' n' na sub=>⟨a::G',?_,?_,?_⟩⟩
   ·have ha:=(Zz6.mp e1).1
    refine .ref (List.getElem?_set_self ha) (r'.frame fun b m=>List.getElem?_set_ne ?_)
    intro q
    subst q
    exact na m
   ·exact List.nodup_cons.mpr ⟨na,n'⟩
   ·intro x m
    rcases Zz7.mp m with rfl | m
    ·exact .inl Zz5
    ·exact(sub x m).imp (Zz2 _) id
  | none=>cases e
  | bool _=>cases e
  | int _=>cases e
  | str _=>cases e
  | tup _=>cases e
 | k::ks,v,t,t',F,r,nd,ds,e=>by
  cases r with
  | none=>cases e
  | bool _=>cases e
  | int _=>cases e
  | str _=>cases e
  | @tup vs ts _ hs=>
   obtain⟨j,e1,e⟩:=Zz0.mp e
   obtain⟨u,e2,e⟩:=Zz0.mp e
   obtain⟨u',e3,e⟩:=Zz1.mp e
   subst e
   obtain⟨w,G1,F1,F2,e4,g1,eF,rb⟩:=hs.split e2
   subst eF
   have nd1:G1.Nodup:=(List.nodup_append.mp (List.nodup_append.mp nd).2.1).1
   have hin:∀x∈G1,x∈F1++(G1++F2):=fun x m=>List.mem_append_right _ (Zz4 _ m)
   obtain⟨a,us,qs,qs',G,l,am,ea,hq,hf,gn,na,gs,go⟩:=Zgf ks g1 nd1 (fun b m q=>ds b m (hin b q)) e3
   refine⟨a,us,qs,qs',G,.tup (by rw[hs.length];exact e1) e4 l,hin a am,ea,hq,hf,gn,na,fun x m=>hin x (gs x m),fun vs' G' r' n' na' sub=>?_⟩
   obtain⟨G2,f1,f2,f3⟩:=go vs' G' r' n' na' sub
   obtain⟨a1,a2,a5⟩:=List.nodup_append.mp nd
   obtain⟨_,a3,a4⟩:=List.nodup_append.mp a2
   have:=rb (H.set a vs') w u' G2 f1 (fun b m=>List.getElem?_set_ne fun q=>a5 b m a (Zz4 _ am) q.symm) (fun b m=>List.getElem?_set_ne fun q=>a4 a am b m q)
   rw[Zrg e4]at this
   exact⟨_,.tup this,nd3 nd f2 f3 ds,in3 f3⟩
  | @ref b vs ts F' e0 hs=>
   obtain⟨j,e1,e⟩:=Zz0.mp e
   obtain⟨u,e2,e⟩:=Zz0.mp e
   obtain⟨u',e3,e⟩:=Zz1.mp e
   subst e
   obtain⟨w,G1,F1,F2,e4,g1,eF,rb⟩:=hs.split e2
   subst eF
   rw[List.nodup_cons]at nd
   obtain⟨nb,nd⟩:=nd
   have nd1:G1.Nodup:=(List.nodup_append.mp (List.nodup_append.mp nd).2.1).1
   have hin:∀x∈G1,x∈F1++(G1++F2):=fun x m=>List.mem_append_right _ (Zz4 _ m)
   have ds':∀a∈Gn,a∉F1++(G1++F2):=fun a m q=>ds a m (Zz2 _ q)
   obtain⟨a,us,qs,qs',G,l,am,ea,hq,hf,gn,na,gs,go⟩:=Zgf ks g1 nd1 (fun b m q=>ds' b m (hin b q)) e3
   refine⟨a,us,qs,qs',G,.ref e0 (by rw[hs.length];exact e1) e4 l,List.mem_cons_of_mem _ (hin a am),ea,hq,hf,gn,na,fun x m=>List.mem_cons_of_mem _ (hin x (gs x m)),fun vs' G' r' n' na' sub=>?_⟩
   obtain⟨G2,f1,f2,f3⟩:=go vs' G' r' n' na' sub
   obtain⟨a1,a2,a5⟩:=List.nodup_append.mp nd
   obtain⟨_,a3,a4⟩:=List.nodup_append.mp a2
   have:=rb (H.set a vs') w u' G2 f1 (fun b m=>List.getElem?_set_ne fun q=>a5 b m a (Zz4 _ am) q.symm) (fun b m=>List.getElem?_set_ne fun q=>a4 a am b m q)
   rw[Zrg e4]at this
   have hab:a≠b:=fun q=>nb (hin b (q▸am))
   refine⟨_,.ref ((List.getElem?_set_ne hab).trans e0) this,List.nodup_cons.mpr ⟨fun q=>?_,nd3 nd f2 f3 ds'⟩,fun x m=>?_⟩
   ·rcases in3 f3 b q with m | m
    ·exact nb m
    ·exact ds b m Zz5
   ·rcases Zz7.mp m with rfl | m
    ·exact .inl Zz5
    ·exact(in3 f3 x m).imp (Zz2 _) id
end TM
end
section
namespace TM
open PySem PM
noncomputable abbrev TL:=Nat→Option T
noncomputable abbrev PE:=TL→Option T
noncomputable abbrev PEs:=TL→Option (List T)
noncomputable abbrev PB:=TL→Option Bool
noncomputable abbrev PG:=TL→Option (List T)
noncomputable def Z8(σ:TL)(i:Nat)(t:T): TL:=fun j=>if j=i then some t else σ j
structure Ctx where
 H0:Hp
 F0:List Nat
 P:Nat→Prop
structure St(c:Ctx)(O:List Nat)(ρ:Lc)(σ:TL)(H:Hp)(Φ:Nat→List Nat): Prop where
 slot:∀i t,σ i=some t→∃v,ρ i=some v∧RF H v t (Φ i)
 src:∀i t,σ i=some t→∀a∈Φ i,c.H0.length≤a∨c.P a
 own:∀i∈O,∀t,σ i=some t→(Φ i).Nodup∧(∀a∈Φ i,c.H0.length≤a∨a∈c.F0)∧∀j u,j≠i→σ j=some u→∀a∈Φ i,a∉Φ j
 len:c.H0.length≤H.length
 keep:∀a,a<c.H0.length→a∉c.F0→H[a]?=c.H0[a]?
 pos:0<c.H0.length
 f0:0∉c.F0
theorem St.ext{c:Ctx}{O:List Nat}{ρ:Lc}{σ:TL}{H:Hp}{Φ:Nat→List Nat}(s:St c O ρ σ H Φ)(X:Hp): St c O ρ σ (H++X) Φ:=
 ⟨fun i t e=>by obtain⟨v,h1,h2⟩:=s.slot i t e;exact⟨v,h1,h2.ext X⟩,s.src,s.own,by have:=s.len;rw[List.length_append];omega,fun a ha hn=>by
  rw[List.getElem?_append_left (Nat.lt_of_lt_of_le ha s.len)];exact s.keep a ha hn,s.pos,s.f0⟩
theorem St.less{c:Ctx}{O O':List Nat}{ρ:Lc}{σ:TL}{H:Hp}{Φ:Nat→List Nat}(s:St c O ρ σ H Φ)(h:∀i∈O',i∈O): St c O' ρ σ H Φ:=⟨s.slot,s.src,fun i hi=>s.own i (h i hi),s.len,s.keep,s.pos,s.f0⟩
def From(H:Hp)(N:List Nat)(σ:TL)(Φ:Nat→List Nat)(a:Nat): Prop:=H.length≤a∨∃i∈N,(∃t,σ i=some t)∧a∈Φ i
theorem From.mono{H:Hp}{N N':List Nat}{σ:TL}{Φ:Nat→List Nat}{a:Nat}(f:From H N σ Φ a)(h:∀i∈N,i∈N'): From H N' σ Φ a:=f.imp id fun⟨i,hi,q⟩=>⟨i,h i hi,q⟩
theorem From.back{H X:Hp}{N:List Nat}{σ:TL}{Φ:Nat→List Nat}{a:Nat}(f:From (H++X) N σ Φ a): From H N σ Φ a:=f.imp (fun h=>by rw[List.length_append]at h;omega) id
theorem From.nil{H:Hp}{σ:TL}{Φ:Nat→List Nat}{a:Nat}(f:From H [] σ Φ a): H.length≤a:=f.elim id fun⟨_,hi,_⟩=>by cases hi
def E(O N:List Nat)(u:Bool)(e:Ex)(p:PE): Prop:=∀(c:Ctx) (ρ:Lc) (σ:TL) (H:Hp) (Φ:Nat→List Nat) (t:T),St c O ρ σ H Φ→p σ=some t →
 ∃v X F,e ρ H=some (v,H++X)∧RF (H++X) v t F∧(∀a∈F,From H N σ Φ a)∧(u=true→F.Nodup)
def Es(O N:List Nat)(u:Bool)(n:Nat)(e:Exs)(p:PEs): Prop:=∀(c:Ctx) (ρ:Lc) (σ:TL) (H:Hp) (Φ:Nat→List Nat) (ts:List T),St c O ρ σ H Φ→p σ=some ts →
 ts.length=n∧∃vs X F,e ρ H=some (vs,H++X)∧RFs (H++X) vs ts F∧(∀a∈F,From H N σ Φ a)∧(u=true→F.Nodup)
def Bt(O:List Nat)(e:Ts)(p:PB): Prop:=∀(c:Ctx) (ρ:Lc) (σ:TL) (H:Hp) (Φ:Nat→List Nat) (b:Bool),St c O ρ σ H Φ→p σ=some b→∃X,e ρ H=some (b,H++X)
section
variable {O N:List Nat} {u:Bool}
theorem Za1{O':List Nat}{e:Ex}{p:PE}(x:E O' N u e p)(h:∀i∈O',i∈O:=by decide): E O N u e p:=fun c ρ σ H Φ t s=>x c ρ σ H Φ t (s.less h)
theorem E.sh{e:Ex}{p:PE}(x:E O N u e p): E O N false e p:=fun c ρ σ H Φ t s q=>by
 obtain⟨v,X,F,a1,a2,a3,a4⟩:=x c ρ σ H Φ t s q
 exact⟨v,X,F,a1,a2,a3,by simp⟩
noncomputable def Zj(k:Int): PE:=fun _=>some (.int k)
noncomputable def ZV: PE:=fun _=>some .none
noncomputable def Zcp(b:Bool): PE:=fun _=>some (.bool b)
noncomputable def ZaN(x:Str): PE:=fun _=>some (.str x)
noncomputable def Za(i:Nat): PE:=fun σ=>σ i
theorem Zl(k:Int): E O [] true (Zk k) (Zj k):=fun c ρ σ H Φ t s q=>by
 cases q;exact⟨_,[],[],by simp[Zk],.int k,by simp,by simp⟩
theorem Z7: E O [] true ZY ZV:=fun c ρ σ H Φ t s q=>by
 cases q;exact⟨_,[],[],by simp[ZY],.none,by simp,by simp⟩
theorem E.bool(k:Bool): E O [] true (Zco k) (Zcp k):=fun c ρ σ H Φ t s q=>by
 cases q;exact⟨_,[],[],by simp[Zco],.bool k,by simp,by simp⟩
theorem E.str(k:Str): E O [] true (Za4 k) (ZaN k):=fun c ρ σ H Φ t s q=>by
 cases q;exact⟨_,[],[],by simp[Za4],.str k,by simp,by simp⟩
theorem Zc(i:Nat): E O [i] false (Zb i) (Za i):=fun c ρ σ H Φ t s q=>by
 obtain⟨v,h1,h2⟩:=s.slot i t q
 exact⟨v,[],Φ i,by simp[Zb,h1],by simpa using h2,fun a m=>.inr ⟨i,List.mem_cons_self,⟨t,q⟩,m⟩,by simp⟩
theorem E.own{i:Nat}(hi:i∈O): E O [i] true (Zb i) (Za i):=fun c ρ σ H Φ t s q=>by
 obtain⟨v,h1,h2⟩:=s.slot i t q
 exact⟨v,[],Φ i,by simp[Zb,h1],by simpa using h2,fun a m=>.inr ⟨i,List.mem_cons_self,⟨t,q⟩,m⟩,fun _=>(s.own i hi t q).1⟩
noncomputable def ZbR(p:PE): PE:=fun σ=>(p σ).bind fun t=>if t.flat then some t else none
theorem E.flat{e:Ex}{p:PE}(x:E O N u e p): E O [] true e (ZbR p):=fun c ρ σ H Φ t s q=>by
 obtain⟨t',e1,e2⟩:=Zz0.mp q
 by_cases h:t'.flat=true
 ·rw[if_pos h]at e2
  cases e2
  obtain⟨v,X,F,a1,a2,a3,a4⟩:=x c ρ σ H Φ t s e1
  have:=a2.flat h
  subst this
  exact⟨v,X,[],a1,a2,by simp,by simp⟩
 ·rw[if_neg h]at e2;cases e2
noncomputable def Zm: PEs:=fun _=>some []
noncomputable def Zd(p:PE)(q:PEs): PEs:=fun σ=>(p σ).bind fun t=>(q σ).bind fun ts=>some (t::ts)
theorem Zo: Es O [] true 0 Zn Zm:=fun c ρ σ H Φ ts s q=>by
 cases q;exact⟨rfl,[],[],[],by simp[Zn],.nil,by simp,by simp⟩
theorem Zf{M:List Nat}{u':Bool}{n:Nat}{e:Ex}{p:PE}{es:Exs}{ps:PEs}(x:E O N u e p)(y:Es O M u' n es ps): Es O (N++M) false (n+1) (Ze e es) (Zd p ps):=fun c ρ σ H Φ ts s q=>by
 obtain⟨t,e1,q⟩:=Zz0.mp q
 obtain⟨rs,e2,q⟩:=Zz0.mp q
 cases q
 obtain⟨v,X,F,a1,a2,a3,a4⟩:=x c ρ σ H Φ t s e1
 obtain⟨hl,vs,Y,G,b1,b2,b3,b4⟩:=y c ρ σ (H++X) Φ rs (s.ext X) e2
 refine⟨by simp[hl],v::vs,X++Y,F++G,by simp[Ze,a1,b1],?_,fun a m=>?_,by simp⟩
 ·rw[←List.append_assoc];exact .cons (a2.ext Y) b2
 ·rcases Zz8.mp m with m | m
  ·exact(a3 a m).mono fun i hi=>List.mem_append_left _ hi
  ·exact(b3 a m).back.mono fun i hi=>List.mem_append_right _ hi
theorem Zd2{M:List Nat}{n:Nat}{e:Ex}{p:PE}{es:Exs}{ps:PEs}(x:E O N true e p)(y:Es O M true n es ps)(hN:∀i∈N,i∈O)(hM:∀i∈N,i∉M): Es O (N++M) true (n+1) (Ze e es) (Zd p ps):=fun c ρ σ H Φ ts s q=>by
 obtain⟨t,e1,q⟩:=Zz0.mp q
 obtain⟨rs,e2,q⟩:=Zz0.mp q
 cases q
 obtain⟨v,X,F,a1,a2,a3,a4⟩:=x c ρ σ H Φ t s e1
 obtain⟨hl,vs,Y,G,b1,b2,b3,b4⟩:=y c ρ σ (H++X) Φ rs (s.ext X) e2
 refine⟨by simp[hl],v::vs,X++Y,F++G,by simp[Ze,a1,b1],?_,fun a m=>?_,fun _=>?_⟩
 ·rw[←List.append_assoc];exact .cons (a2.ext Y) b2
 ·rcases Zz8.mp m with m | m
  ·exact(a3 a m).mono fun i hi=>List.mem_append_left _ hi
  ·exact(b3 a m).back.mono fun i hi=>List.mem_append_right _ hi
 ·rw[List.nodup_append]
  refine⟨a4 rfl,b4 rfl,fun a ha b hb e=>?_⟩
  subst e
  have hlt:=a2.lt a ha
  rcases b3 a hb with h | ⟨j,hj,⟨tj,ej⟩,mj⟩
  ·omega
  ·obtain⟨vj,_,rj⟩:=s.slot j tj ej
   have:=rj.lt a mj
   rcases a3 a ha with h | ⟨i,hi,⟨ti,ei⟩,mi⟩
   ·omega
   ·exact(s.own i (hN i hi) ti ei).2.2 j tj (fun q=>hM i hi (q▸hj)) ej a mi mj
noncomputable def Zak(p:PEs): PE:=fun σ=>(p σ).map .tup
noncomputable def Za2(p:PEs): PE:=fun σ=>(p σ).map .lst
theorem E.tup{n:Nat}{e:Exs}{p:PEs}(x:Es O N u n e p)(hn:n≤LEN:=by decide): E O N u (Zal e) (Zak p):=fun c ρ σ H Φ t s q=>by
 obtain⟨ts,e1,e2⟩:=Zz1.mp q
 subst e2
 obtain⟨hl,vs,Y,G,b1,b2,b3,b4⟩:=x c ρ σ H Φ ts s e1
 have:=b2.length
 refine⟨.tup vs,Y,G,?_,.tup b2,b3,b4⟩
 simp only[Zal,b1,Option.bind_some]
 rw[if_pos (by omega)]
theorem E.list{n:Nat}{e:Exs}{p:PEs}(x:Es O N u n e p)(hn:n≤LEN:=by decide): E O N u (Zbc e) (Za2 p):=fun c ρ σ H Φ t s q=>by
 obtain⟨ts,e1,e2⟩:=Zz1.mp q
 subst e2
 obtain⟨hl,vs,Y,G,b1,b2,b3,b4⟩:=x c ρ σ H Φ ts s e1
 have:=b2.length
 refine⟨.ref (H++Y).length,Y++[vs],(H++Y).length::G,?_,?_,fun a m=>?_,fun hu=>?_⟩
 ·simp only[Zbc,b1,Option.bind_some]
  rw[if_pos (by omega),List.append_assoc]
 ·rw[←List.append_assoc];exact .ref (by simp) (b2.ext _)
 ·rcases Zz7.mp m with rfl | m
  ·exact .inl (by simp)
  ·exact b3 a m
 ·rw[List.nodup_cons]
  exact⟨fun m=>Nat.lt_irrefl _ (b2.lt _ m),b4 hu⟩
def OA2(o:V→V→Hp→Option (V×Hp))(q:T→T→Option T): Prop:=∀(H:Hp) (v1 v2:V) (t1 t2 t:T) (F1 F2:List Nat),RF H v1 t1 F1→RF H v2 t2 F2→q t1 t2=some t→∃v,o v1 v2 H=some (v,H)∧RF H v t []
def OI2(o:V→V→Hp→Option (V×Hp))(q:T→T→Option T): Prop:=∀(H:Hp) (v1 v2:V) (t1 t2 t:T) (F1 F2:List Nat),RF H v1 t1 F1→RF H v2 t2 F2→q t1 t2=some t→∃v F,o v1 v2 H=some (v,H)∧RF H v t F∧F.Sublist F1
def OC2(o:V→V→Hp→Option (V×Hp))(q:T→T→Option T): Prop:=∀(H:Hp) (v1 v2:V) (t1 t2 t:T) (F1 F2:List Nat),RF H v1 t1 F1→RF H v2 t2 F2→q t1 t2=some t→∃v X F,o v1 v2 H=some (v,H++X)∧RF (H++X) v t F∧(∀a∈F,H.length≤a∨a∈F1∨a∈F2)∧(t.flatIn=true→F.Nodup∧∀a∈F,H.length≤a)
def OA1(o:V→Hp→Option (V×Hp))(q:T→Option T): Prop:=∀(H:Hp) (v1:V) (t1 t:T) (F1:List Nat),RF H v1 t1 F1→q t1=some t→∃v,o v1 H=some (v,H)∧RF H v t []
def OAn(o:List V→Hp→Option (V×Hp))(q:List T→Option T): Prop:=∀(H:Hp) (vs:List V) (ts:List T) (t:T) (F:List Nat),RFs H vs ts F→q ts=some t→∃v,o vs H=some (v,H)∧RF H v t []
def OCn(o:List V→Hp→Option (V×Hp))(q:List T→Option T): Prop:=∀(H:Hp) (vs:List V) (ts:List T) (t:T) (F1:List Nat),0<H.length→RFs H vs ts F1→q ts=some t→∃v X F,o vs H=some (v,H++X)∧RF (H++X) v t F∧(∀a∈F,H.length≤a∨a∈F1)∧(t.flatIn=true→F.Nodup∧∀a∈F,H.length≤a)
noncomputable def Zg(q:T→T→Option T)(p1 p2:PE): PE:=fun σ=>(p1 σ).bind fun x=>(p2 σ).bind fun y=>q x y
noncomputable def pUn(q:T→Option T)(p1:PE): PE:=fun σ=>(p1 σ).bind fun x=>q x
noncomputable def Zv(q:List T→Option T)(ps:PEs): PE:=fun σ=>(ps σ).bind fun xs=>q xs
noncomputable def pFl(p:PE): PE:=fun σ=>(p σ).bind fun t=>if t.flatIn then some t else none
theorem ZiJ{M:List Nat}{u':Bool}{e1 e2:Ex}{p1 p2:PE}{q:T→T→Option T}{o:V→V→Hp→Option (V×Hp)}{c:Ctx}{ρ:Lc}{σ:TL}{H:Hp}{Φ:Nat→List Nat}{t:T}(x:E O N u e1 p1)(y:E O M u' e2 p2)(s:St c O ρ σ H Φ)(h:Zg q p1 p2 σ=some t):
  ∃t1 t2 v1 v2 X F1 F2,q t1 t2=some t∧RF (H++X) v1 t1 F1∧RF (H++X) v2 t2 F2∧(∀a∈F1,From H N σ Φ a)∧(∀a∈F2,From H M σ Φ a)∧(u=true→F1.Nodup)∧Zh o e1 e2 ρ H=o v1 v2 (H++X):=by
 obtain⟨t1,h1,h⟩:=Zz0.mp h
 obtain⟨t2,h2,h⟩:=Zz0.mp h
 obtain⟨v,X,F,a1,a2,a3,a4⟩:=x c ρ σ H Φ t1 s h1
 obtain⟨w,Y,G,b1,b2,b3,b4⟩:=y c ρ σ (H++X) Φ t2 (s.ext X) h2
 rw[List.append_assoc]at b1 b2
 refine⟨t1,t2,v,w,X++Y,F,G,h,?_,b2,a3,fun a m=>(b3 a m).back,a4,by simp only[Zh,a1,b1,Option.bind_some]⟩
 rw[←List.append_assoc];exact a2.ext Y
theorem ZC{M:List Nat}{u':Bool}{e1 e2:Ex}{p1 p2:PE}{q:T→T→Option T}{o:V→V→Hp→Option (V×Hp)}(k:OA2 o q)(x:E O N u e1 p1)(y:E O M u' e2 p2): E O [] true (Zh o e1 e2) (Zg q p1 p2):=fun c ρ σ H Φ t s h=>by
 obtain⟨t1,t2,v1,v2,X,F1,F2,hq,r1,r2,_,_,_,e⟩:=ZiJ (o:=o) x y s h
 obtain⟨v,h1,h2⟩:=k _ v1 v2 t1 t2 t F1 F2 r1 r2 hq
 exact⟨v,X,[],e.trans h1,h2,by simp,by simp⟩
theorem Zy{M:List Nat}{u':Bool}{e1 e2:Ex}{p1 p2:PE}{q:T→T→Option T}{o:V→V→Hp→Option (V×Hp)}(k:OI2 o q)(x:E O N u e1 p1)(y:E O M u' e2 p2): E O N u (Zh o e1 e2) (Zg q p1 p2):=fun c ρ σ H Φ t s h=>by
 obtain⟨t1,t2,v1,v2,X,F1,F2,hq,r1,r2,h1,_,hu,e⟩:=ZiJ (o:=o) x y s h
 obtain⟨v,F,k1,k2,k3⟩:=k _ v1 v2 t1 t2 t F1 F2 r1 r2 hq
 exact⟨v,X,F,e.trans k1,k2,fun a m=>h1 a (k3.subset m),fun h=>(hu h).sublist k3⟩
theorem Zab{M:List Nat}{u':Bool}{e1 e2:Ex}{p1 p2:PE}{q:T→T→Option T}{o:V→V→Hp→Option (V×Hp)}(k:OC2 o q)(x:E O N u e1 p1)(y:E O M u' e2 p2): E O (N++M) false (Zh o e1 e2) (Zg q p1 p2):=fun c ρ σ H Φ t s h=>by
 obtain⟨t1,t2,v1,v2,X,F1,F2,hq,r1,r2,h1,h2,hu,e⟩:=ZiJ (o:=o) x y s h
 obtain⟨v,Y,F,k1,k2,k3,k4⟩:=k _ v1 v2 t1 t2 t F1 F2 r1 r2 hq
 rw[List.append_assoc]at k1 k2
 refine⟨v,X++Y,F,e.trans k1,k2,fun a m=>?_,by simp⟩
 rcases k3 a m with h | h | h
 ·exact .inl (by rw[List.length_append]at h;omega)
 ·exact(h1 a h).mono fun i hi=>List.mem_append_left _ hi
 ·exact(h2 a h).mono fun i hi=>List.mem_append_right _ hi
theorem Zfb{M:List Nat}{u':Bool}{e1 e2:Ex}{p1 p2:PE}{q:T→T→Option T}{o:V→V→Hp→Option (V×Hp)}(k:OC2 o q)(x:E O N u e1 p1)(y:E O M u' e2 p2): E O [] true (Zh o e1 e2) (pFl (Zg q p1 p2)):=fun c ρ σ H Φ t s h=>by
 obtain⟨t',h,hf⟩:=Zz0.mp h
 by_cases fl:t'.flatIn=true
 ·rw[if_pos fl]at hf
  cases hf
  obtain⟨t1,t2,v1,v2,X,F1,F2,hq,r1,r2,h1,h2,hu,e⟩:=ZiJ (o:=o) x y s h
  obtain⟨v,Y,F,k1,k2,k3,k4⟩:=k _ v1 v2 t1 t2 t F1 F2 r1 r2 hq
  rw[List.append_assoc]at k1 k2
  exact⟨v,X++Y,F,e.trans k1,k2,fun a m=>.inl (by have:=(k4 fl).2 a m;rw[List.length_append]at this;omega),fun _=>(k4 fl).1⟩
 ·rw[if_neg fl]at hf;cases hf
theorem Zb5{e1:Ex}{p1:PE}{q:T→Option T}{o:V→Hp→Option (V×Hp)}(k:OA1 o q)(x:E O N u e1 p1): E O [] true (eUn o e1) (pUn q p1):=fun c ρ σ H Φ t s h=>by
 obtain⟨t1,h1,h⟩:=Zz0.mp h
 obtain⟨v,X,F,a1,a2,a3,a4⟩:=x c ρ σ H Φ t1 s h1
 obtain⟨w,b1,b2⟩:=k _ v t1 t F a2 h
 exact⟨w,X,[],by simp only[eUn,a1,Option.bind_some,b1],b2,by simp,by simp⟩
theorem Zav{n:Nat}{es:Exs}{ps:PEs}{q:List T→Option T}{o:List V→Hp→Option (V×Hp)}(k:OAn o q)(x:Es O N u n es ps): E O [] true (Zs o es) (Zv q ps):=fun c ρ σ H Φ t s h=>by
 obtain⟨ts,h1,h⟩:=Zz0.mp h
 obtain⟨_,vs,X,F,a1,a2,a3,a4⟩:=x c ρ σ H Φ ts s h1
 obtain⟨w,b1,b2⟩:=k _ vs ts t F a2 h
 exact⟨w,X,[],by simp only[Zs,a1,Option.bind_some,b1],b2,by simp,by simp⟩
theorem Zi5{n:Nat}{es:Exs}{ps:PEs}{q:List T→Option T}{o:List V→Hp→Option (V×Hp)}(k:OCn o q)(x:Es O N u n es ps): E O N false (Zs o es) (Zv q ps):=fun c ρ σ H Φ t s h=>by
 obtain⟨ts,h1,h⟩:=Zz0.mp h
 obtain⟨_,vs,X,F,a1,a2,a3,a4⟩:=x c ρ σ H Φ ts s h1
 have hp:0<(H++X).length:=by have:=s.pos;have:=s.len;rw[List.length_append];omega
 obtain⟨w,Y,G,b1,b2,b3,b4⟩:=k _ vs ts t F hp a2 h
 rw[List.append_assoc]at b1 b2
 refine⟨w,X++Y,G,by simp only[Zs,a1,Option.bind_some,b1],b2,fun a m=>?_,by simp⟩
 rcases b3 a m with h | h
 ·exact .inl (by rw[List.length_append]at h;omega)
 ·exact a3 a h
theorem Zhl{n:Nat}{es:Exs}{ps:PEs}{q:List T→Option T}{o:List V→Hp→Option (V×Hp)}(k:OCn o q)(x:Es O N u n es ps): E O [] true (Zs o es) (pFl (Zv q ps)):=fun c ρ σ H Φ t s h=>by
 obtain⟨t',h,hf⟩:=Zz0.mp h
 by_cases fl:t'.flatIn=true
 ·rw[if_pos fl]at hf
  cases hf
  obtain⟨ts,h1,h⟩:=Zz0.mp h
  obtain⟨_,vs,X,F,a1,a2,a3,a4⟩:=x c ρ σ H Φ ts s h1
  have hp:0<(H++X).length:=by have:=s.pos;have:=s.len;rw[List.length_append];omega
  obtain⟨w,Y,G,b1,b2,b3,b4⟩:=k _ vs ts t F hp a2 h
  rw[List.append_assoc]at b1 b2
  exact⟨w,X++Y,G,by simp only[Zs,a1,Option.bind_some,b1],b2,fun a m=>.inl (by have:=(b4 fl).2 a m;rw[List.length_append]at this;omega),fun _=>(b4 fl).1⟩
 ·rw[if_neg fl]at hf;cases hf
def SimF(fr:Bool)(f:List V→Hp→Option (V×Hp))(p:List T→Option T): Prop:=∀(H:Hp) (vs:List V) (ts:List T) (t:T) (F1:List Nat),0<H.length→RFs H vs ts F1→p ts=some t→∃v X F,f vs H=some (v,H++X)∧RF (H++X) v t F∧(∀a∈F,H.length≤a∨a∈F1)∧(fr=true→F.Nodup∧∀a∈F,H.length≤a)
theorem ZI{fr:Bool}{n:Nat}{es:Exs}{ps:PEs}{q:List T→Option T}{o:List V→Hp→Option (V×Hp)}(k:SimF fr o q)(x:Es O N u n es ps): E O N false (Zs o es) (Zv q ps):=fun c ρ σ H Φ t s h=>by
 obtain⟨ts,h1,h⟩:=Zz0.mp h
 obtain⟨_,vs,X,F,a1,a2,a3,a4⟩:=x c ρ σ H Φ ts s h1
 have hp:0<(H++X).length:=by have:=s.pos;have:=s.len;rw[List.length_append];omega
 obtain⟨w,Y,G,b1,b2,b3,b4⟩:=k _ vs ts t F hp a2 h
 rw[List.append_assoc]at b1 b2
 refine⟨w,X++Y,G,by simp only[Zs,a1,Option.bind_some,b1],b2,fun a m=>?_,by simp⟩
 rcases b3 a m with h | h
 ·exact .inl (by rw[List.length_append]at h;omega)
 ·exact a3 a h
theorem ZaM{n:Nat}{es:Exs}{ps:PEs}{q:List T→Option T}{o:List V→Hp→Option (V×Hp)}(k:SimF true o q)(x:Es O N u n es ps): E O [] true (Zs o es) (Zv q ps):=fun c ρ σ H Φ t s h=>by
 obtain⟨ts,h1,h⟩:=Zz0.mp h
 obtain⟨_,vs,X,F,a1,a2,a3,a4⟩:=x c ρ σ H Φ ts s h1
 have hp:0<(H++X).length:=by have:=s.pos;have:=s.len;rw[List.length_append];omega
 obtain⟨w,Y,G,b1,b2,b3,b4⟩:=k _ vs ts t F hp a2 h
 rw[List.append_assoc]at b1 b2
 exact⟨w,X++Y,G,by simp only[Zs,a1,Option.bind_some,b1],b2,fun a m=>.inl (by have:=(b4 rfl).2 a m;rw[List.length_append]at this;omega),fun _=>(b4 rfl).1⟩
noncomputable def Zb2: T→Option Bool
 | .bool b=>some b
 | .none=>some false
 | .int i=>some (i != 0)
 | _=>none
theorem Zeu{H:Hp}{v:V}{t:T}{F:List Nat}{b:Bool}(r:RF H v t F)(h:Zb2 t=some b): Zc0 v H=some b:=by
 cases r <;> first | (cases h;rfl) | cases h
noncomputable def ZG(p:PE): PB:=fun σ=>(p σ).bind Zb2
noncomputable def Zcz(p:PB): PB:=fun σ=>(p σ).map fun b=>!b
noncomputable def Zai: PB:=fun _=>some true
noncomputable def Zb3: PB:=fun _=>some false
noncomputable def ZaU(p q:PB): PB:=fun σ=>(p σ).bind fun b=>if b then q σ else some false
noncomputable def bOr(p q:PB): PB:=fun σ=>(p σ).bind fun b=>if b then some true else q σ
theorem ZN{e:Ex}{p:PE}(x:E O N u e p): Bt O (ZK e) (ZG p):=fun c ρ σ H Φ b s h=>by
 obtain⟨t,h1,h⟩:=Zz0.mp h
 obtain⟨v,X,F,a1,a2,a3,a4⟩:=x c ρ σ H Φ t s h1
 exact⟨X,by simp only[ZK,a1,Option.bind_some,Zeu a2 h,Option.map_some]⟩
theorem Zc3{e:Ts}{p:PB}(x:Bt O e p): Bt O (ZcE e) (Zcz p):=fun c ρ σ H Φ b s h=>by
 obtain⟨t,h1,h⟩:=Zz1.mp h
 subst h
 obtain⟨X,a1⟩:=x c ρ σ H Φ t s h1
 exact⟨X,by simp only[ZcE,a1,Option.map_some]⟩
theorem Zax: Bt O Zao Zai:=fun c ρ σ H Φ b s h=>by
 cases h;exact⟨[],by simp[Zao]⟩
theorem Zcu: Bt O Zb0 Zb3:=fun c ρ σ H Φ b s h=>by
 cases h;exact⟨[],by simp[Zb0]⟩
theorem Zbh{e f:Ts}{p q:PB}(x:Bt O e p)(y:Bt O f q): Bt O (Za5 e f) (ZaU p q):=fun c ρ σ H Φ b s h=>by
 obtain⟨t,h1,h⟩:=Zz0.mp h
 obtain⟨X,a1⟩:=x c ρ σ H Φ t s h1
 cases t with
 | true=>
  obtain⟨Y,b1⟩:=y c ρ σ (H++X) Φ b (s.ext X) (by simpa using h)
  exact⟨X++Y,by simp[Za5,a1,b1]⟩
 | false=>cases h;exact⟨X,by simp[Za5,a1]⟩
theorem ZaY{e f:Ts}{p q:PB}(x:Bt O e p)(y:Bt O f q): Bt O (tOr e f) (bOr p q):=fun c ρ σ H Φ b s h=>by
 obtain⟨t,h1,h⟩:=Zz0.mp h
 obtain⟨X,a1⟩:=x c ρ σ H Φ t s h1
 cases t with
 | false=>
  obtain⟨Y,b1⟩:=y c ρ σ (H++X) Φ b (s.ext X) (by simpa using h)
  exact⟨X++Y,by simp[tOr,a1,b1]⟩
 | true=>cases h;exact⟨X,by simp[tOr,a1]⟩
noncomputable def pIf(b:PB)(p q:PE): PE:=fun σ=>(b σ).bind fun x=>if x then p σ else q σ
noncomputable def ZjU(p:PE): PE:=fun σ=>(p σ).bind fun t=>(Zb2 t).map fun b=>.bool !b
noncomputable def ZdE(p q:PE): PE:=fun σ=>(p σ).bind fun t=>(Zb2 t).bind fun b=>if b then q σ else some t
noncomputable def pOr(p q:PE): PE:=fun σ=>(p σ).bind fun t=>(Zb2 t).bind fun b=>if b then some t else q σ
theorem ZeE{M:List Nat}{b:Ts}{pb:PB}{e f:Ex}{p q:PE}(z:Bt O b pb)(x:E O N u e p)(y:E O M u f q): E O (N++M) u (eIf b e f) (pIf pb p q):=fun c ρ σ H Φ t s h=>by
 obtain⟨b',h1,h⟩:=Zz0.mp h
 obtain⟨X,a1⟩:=z c ρ σ H Φ b' s h1
 cases b' with
 | true=>
  obtain⟨v,Y,F,b1,b2,b3,b4⟩:=x c ρ σ (H++X) Φ t (s.ext X) (by simpa using h)
  exact⟨v,X++Y,F,by simp[eIf,a1,b1],by rw[←List.append_assoc];exact b2,fun a m=>(b3 a m).back.mono fun i hi=>List.mem_append_left _ hi,b4⟩
 | false=>
  obtain⟨v,Y,F,b1,b2,b3,b4⟩:=y c ρ σ (H++X) Φ t (s.ext X) (by simpa using h)
  exact⟨v,X++Y,F,by simp[eIf,a1,b1],by rw[←List.append_assoc];exact b2,fun a m=>(b3 a m).back.mono fun i hi=>List.mem_append_right _ hi,b4⟩
theorem Zzz{e:Ex}{p:PE}(x:E O N u e p): E O [] true (ZjQ e) (ZjU p):=fun c ρ σ H Φ t s h=>by
 obtain⟨t1,h1,h⟩:=Zz0.mp h
 obtain⟨b,h2,h⟩:=Zz1.mp h
 subst h
 obtain⟨v,X,F,a1,a2,a3,a4⟩:=x c ρ σ H Φ t1 s h1
 exact⟨.bool !b,X,[],by simp only[ZjQ,a1,Option.bind_some,Zeu a2 h2,Option.map_some],.bool _,by simp,by simp⟩
theorem Zgq{M:List Nat}{e f:Ex}{p q:PE}(x:E O N u e p)(y:E O M u f q): E O (N++M) u (ZdD e f) (ZdE p q):=fun c ρ σ H Φ t s h=>by
 obtain⟨t1,h1,h⟩:=Zz0.mp h
 obtain⟨b,h2,h⟩:=Zz0.mp h
 obtain⟨v,X,F,a1,a2,a3,a4⟩:=x c ρ σ H Φ t1 s h1
 cases b with
 | true=>
  obtain⟨w,Y,F',b1,b2,b3,b4⟩:=y c ρ σ (H++X) Φ t (s.ext X) (by simpa using h)
  exact⟨w,X++Y,F',by simp[ZdD,a1,Zeu a2 h2,b1],by rw[←List.append_assoc];exact b2,fun a m=>(b3 a m).back.mono fun i hi=>List.mem_append_right _ hi,b4⟩
 | false=>
  cases h
  exact⟨v,X,F,by simp[ZdD,a1,Zeu a2 h2],a2,fun a m=>(a3 a m).mono fun i hi=>List.mem_append_left _ hi,a4⟩
theorem ZzZ{M:List Nat}{e f:Ex}{p q:PE}(x:E O N u e p)(y:E O M u f q): E O (N++M) u (eOr e f) (pOr p q):=fun c ρ σ H Φ t s h=>by
 obtain⟨t1,h1,h⟩:=Zz0.mp h
 obtain⟨b,h2,h⟩:=Zz0.mp h
 obtain⟨v,X,F,a1,a2,a3,a4⟩:=x c ρ σ H Φ t1 s h1
 cases b with
 | false=>
  obtain⟨w,Y,F',b1,b2,b3,b4⟩:=y c ρ σ (H++X) Φ t (s.ext X) (by simpa using h)
  exact⟨w,X++Y,F',by simp[eOr,a1,Zeu a2 h2,b1],by rw[←List.append_assoc];exact b2,fun a m=>(b3 a m).back.mono fun i hi=>List.mem_append_right _ hi,b4⟩
 | true=>
  cases h
  exact⟨v,X,F,by simp[eOr,a1,Zeu a2 h2],a2,fun a m=>(a3 a m).mono fun i hi=>List.mem_append_left _ hi,a4⟩
noncomputable def Zoq: T→String
 | .none=>"NoneType"
 | .bool _=>"bool"
 | .int _=>"int"
 | .str _=>"str"
 | .tup _=>"tuple"
 | .lst _=>"list"
end
end TM
end
section
namespace TM
open PySem PM
section
variable {O N:List Nat} {u:Bool}
noncomputable def Zi6(K:String)(t:T): Bool:=Zoq t == K || (K == "int" && Zoq t == "bool")
noncomputable def pIs(K:String)(p:PE): PE:=fun σ=>(p σ).map fun t=>.bool (Zi6 K t)
theorem Zxy{H:Hp}{v:V}{t:T}{F:List Nat}(r:RF H v t F): Zop v=Zoq t:=by cases r <;> rfl
theorem Zeh{K:String}{e:Ex}{p:PE}(x:E O N u e p): E O [] true (eIs K e) (pIs K p):=fun c ρ σ H Φ t s h=>by
 obtain⟨t1,h1,h⟩:=Zz1.mp h
 subst h
 obtain⟨v,X,F,a1,a2,a3,a4⟩:=x c ρ σ H Φ t1 s h1
 exact⟨.bool (Zi6 K t1),X,[],by simp only[eIs,a1,Option.map_some,ZoL,Zi6,Zxy a2],.bool _,by simp,by simp⟩
noncomputable def Za0: T→T→Option T
 | .int a,.int b=>some (.int (a-b))
 | _,_=>none
noncomputable def ZbU: T→T→Option T
 | .int a,.int b=>if b≠0∧Builtin.divisionGoesByPylong a b=false then some (.int (a.fdiv b))else none
 | _,_=>none
noncomputable def ZaV: T→T→Option T
 | .int a,.int b=>if b≠0 then some (.int (a.fmod b))else none
 | _,_=>none
noncomputable def ZdF: T→T→Option T
 | .int a,.int b=>if 0≤b∧(Builtin.Int.intBits a:Int)*b≤2 ^ 27 then some (.int (a ^ b.toNat))else none
 | _,_=>none
noncomputable def ZbB: T→Option T
 | .int a=>some (.int (-a))
 | _=>none
noncomputable def ZjV(p:Int→Int→Bool): T→T→Option T
 | .int a,.int b=>some (.bool (p a b))
 | _,_=>none
noncomputable def qLt:=ZjV fun a b=>decide (a<b)
noncomputable def qLe:=ZjV fun a b=>decide (a≤b)
noncomputable def qGt:=ZjV fun a b=>decide (b<a)
theorem Zbi: OA2 Zbe Za0:=fun H v1 v2 t1 t2 t F1 F2 r1 r2 h=>by
 cases r1 <;> first | (cases h;done) | (cases r2 <;> first | (cases h;done) | (cases h;exact⟨_,rfl,.int _⟩))
theorem Zcy: OA2 oDiv ZbU:=fun H v1 v2 t1 t2 t F1 F2 r1 r2 h=>by
 cases r1 <;> first | (cases h;done) | skip
 cases r2 <;> first | (cases h;done) | skip
 simp only[ZbU]at h
 split at h
 ·rename_i hc;cases h;exact⟨_,by simp only[oDiv];rw[if_pos hc],.int _⟩
 ·cases h
theorem Za9: OA2 oMod ZaV:=fun H v1 v2 t1 t2 t F1 F2 r1 r2 h=>by
 cases r1 <;> first | (cases h;done) | skip
 cases r2 <;> first | (cases h;done) | skip
 simp only[ZaV]at h
 split at h
 ·rename_i hc;cases h;exact⟨_,by simp only[oMod];rw[if_pos hc],.int _⟩
 ·cases h
theorem Zpd: OA2 oPow ZdF:=fun H v1 v2 t1 t2 t F1 F2 r1 r2 h=>by
 cases r1 <;> first | (cases h;done) | skip
 cases r2 <;> first | (cases h;done) | skip
 simp only[ZdF]at h
 split at h
 ·rename_i hc;cases h;exact⟨_,by simp only[oPow];rw[if_pos hc],.int _⟩
 ·cases h
theorem Zb6: OA1 ZbJ ZbB:=fun H v1 t1 t F1 r1 h=>by
 cases r1 <;> first | (cases h;done) | (cases h;exact⟨_,rfl,.int _⟩)
theorem Zpe(p:Int→Int→Bool): OA2 (ZjR p) (ZjV p):=fun H v1 v2 t1 t2 t F1 F2 r1 r2 h=>by
 cases r1 <;> first | (cases h;done) | (cases r2 <;> first | (cases h;done) | (cases h;exact⟨_,rfl,.bool _⟩))
theorem ZcW: OA2 oLt qLt:=Zpe _
theorem Zpl: OA2 oLe qLe:=Zpe _
theorem Zgv: OA2 oGt qGt:=Zpe _
noncomputable def Zfg(f:T→Option PyData): List T→Option (List PyData)
 | []=>some []
 | v::vs=>(f v).bind fun d=>(Zfg f vs).bind fun ds=>some (d::ds)
noncomputable def Zc9: Nat→T→Option PyData
 | _,.none=>some .none
 | _,.bool b=>some (.bool b)
 | _,.int i=>some (.int i)
 | _,.str x=>some (.str x)
 | n+1,.tup vs=>(Zfg (Zc9 n) vs).map .tuple
 | n+1,.lst vs=>(Zfg (Zc9 n) vs).map .list
 | 0,.tup _=>none
 | 0,.lst _=>none
theorem Zor{H:Hp}{f:V→Option PyData}{g:T→Option PyData}(h:∀v t F,RF H v t F→f v=g t): ∀{vs:List V} {ts:List T} {F:List Nat},RFs H vs ts F→Zgu f vs=Zfg g ts
 | _,_,_,.nil=>rfl
 | _,_,_,.cons a b=>by simp only[Zgu,Zfg,h _ _ _ a,Zor h b]
theorem Zjq{H:Hp}: ∀(n:Nat) (v:V) (t:T) (F:List Nat),RF H v t F→toD H n v=Zc9 n t:=by
 intro n
 induction n with
 | zero=>intro v t F r;cases r <;> rfl
 | succ n ih=>
  intro v t F r
  cases r with
  | none=>rfl
  | bool=>rfl
  | int=>rfl
  | str=>rfl
  | tup hs=>simp only[toD,Zc9,Zor ih hs]
  | ref e hs=>simp only[toD,Zc9,e,Option.bind_some,Zor ih hs]
noncomputable def ZeK(a b:T): Option Bool:=(Zc9 ZbS a).bind fun d=>(Zc9 ZbS b).bind fun e=>if SeqAt.shaped d=true∧SeqAt.shaped e=true then some (PyData.eqv d e)else none
noncomputable def qEq(a b:T): Option T:=(ZeK a b).map .bool
noncomputable def qNe(a b:T): Option T:=(ZeK a b).map fun c=>.bool !c
theorem Zsp{H:Hp}{v1 v2:V}{t1 t2:T}{F1 F2:List Nat}(r1:RF H v1 t1 F1)(r2:RF H v2 t2 F2): ZjS v1 v2 H=ZeK t1 t2:=by
 simp only[ZjS,ZeK,Zjq ZbS _ _ _ r1,Zjq ZbS _ _ _ r2]
theorem Zaq: OA2 oEq qEq:=fun H v1 v2 t1 t2 t F1 F2 r1 r2 h=>by
 obtain⟨c,h1,h⟩:=Zz1.mp h
 subst h
 exact⟨_,by simp only[oEq,Zsp r1 r2,h1,Option.map_some],.bool _⟩
theorem ZbV: OA2 oNe qNe:=fun H v1 v2 t1 t2 t F1 F2 r1 r2 h=>by
 obtain⟨c,h1,h⟩:=Zz1.mp h
 subst h
 exact⟨_,by simp only[oNe,Zsp r1 r2,h1,Option.map_some],.bool _⟩
noncomputable def qIs: T→T→Option T
 | .none,.none=>some (.bool true)
 | _,.none=>some (.bool false)
 | _,_=>none
noncomputable def Zbz: T→T→Option T
 | .none,.none=>some (.bool false)
 | _,.none=>some (.bool true)
 | _,_=>none
theorem Za6: OA2 oIs qIs:=fun H v1 v2 t1 t2 t F1 F2 r1 r2 h=>by
 cases r1 <;> cases r2 <;> first | (cases h;done) | (cases h;exact⟨_,rfl,.bool _⟩)
theorem Zcf: OA2 ZbN Zbz:=fun H v1 v2 t1 t2 t F1 F2 r1 r2 h=>by
 cases r1 <;> cases r2 <;> first | (cases h;done) | (cases h;exact⟨_,rfl,.bool _⟩)
noncomputable def Zq: T→T→Option T
 | .lst ts,.int k=>(seqIndex? k ts.length).bind fun j=>ts[j]?
 | .tup ts,.int k=>(seqIndex? k ts.length).bind fun j=>ts[j]?
 | _,_=>none
theorem Zx: OI2 Zr Zq:=fun H v1 v2 t1 t2 t F1 F2 r1 r2 h=>by
 cases r1 with
 | none=>cases h
 | bool=>cases h
 | int=>cases h
 | str=>cases h
 | tup hs=>
  cases r2 <;> first | (cases h;done) | skip
  obtain⟨j,h1,h2⟩:=Zz0.mp h
  obtain⟨v,G,e1,e2,e3⟩:=hs.at h2
  exact⟨v,G,by simp only[Zr,hs.length,h1,Option.bind_some,e1,Option.map_some],e2,e3⟩
 | ref e hs=>
  cases r2 <;> first | (cases h;done) | skip
  obtain⟨j,h1,h2⟩:=Zz0.mp h
  obtain⟨v,G,e1,e2,e3⟩:=hs.at h2
  exact⟨v,G,by simp only[Zr,e,Option.bind_some,hs.length,h1,e1,Option.map_some],e2,e3.trans (List.sublist_cons_self _ _)⟩
noncomputable def Zat: List T→Option T
 | [.lst ts]=>some (.int ts.length)
 | [.tup ts]=>some (.int ts.length)
 | _=>none
theorem RFs.one_inv{H:Hp}{vs:List V}{t:T}{F:List Nat}(r:RFs H vs [t] F): ∃v,vs=[v]∧RF H v t F:=by
 cases r with
 | cons a b=>cases b;rw[List.append_nil];exact⟨_,rfl,a⟩
theorem RFs.two_inv{H:Hp}{vs:List V}{t t':T}{F:List Nat}(r:RFs H vs [t,t'] F): ∃v v' F1 F2,vs=[v,v']∧RF H v t F1∧RF H v' t' F2∧F=F1++F2:=by
 cases r with
 | cons a b=>obtain⟨v',h1,h2⟩:=b.one_inv;subst h1;exact⟨_,_,_,_,rfl,a,h2,rfl⟩
theorem ZaO: OAn ZaF Zat:=fun H vs ts t F r h=>by
 unfold Zat at h
 split at h
 ·obtain⟨v,rfl,r'⟩:=r.one_inv
  cases r' with
  | ref e hs=>cases h;exact⟨_,by simp only[ZaF,e,Option.map_some,hs.length],.int _⟩
 ·obtain⟨v,rfl,r'⟩:=r.one_inv
  cases r' with
  | tup hs=>cases h;exact⟨_,by simp only[ZaF,hs.length],.int _⟩
 ·cases h
noncomputable def Zdp: List T→Option T
 | [.int a]=>some (.int (if a<0 then -a else a))
 | _=>none
theorem Zee: OAn Zdn Zdp:=fun H vs ts t F r h=>by
 unfold Zdp at h
 split at h
 ·obtain⟨v,rfl,r'⟩:=r.one_inv
  cases r';cases h;exact⟨_,rfl,.int _⟩
 ·cases h
noncomputable def ZjJ: List T→Option T
 | [.int a,.int b]=>some (.int (if b>a then b else a))
 | _=>none
theorem ZyI: OAn ZjH ZjJ:=fun H vs ts t F r h=>by
 unfold ZjJ at h
 split at h
 ·obtain⟨v,w,F1,F2,rfl,r1,r2,_⟩:=r.two_inv
  cases r1;cases r2;cases h;exact⟨_,rfl,.int _⟩
 ·cases h
noncomputable def ZeF: List T→Option (List Int)
 | []=>some []
 | .int k::vs=>(ZeF vs).map fun ks=>k::ks
 | _::_=>none
noncomputable def Zgg: List T→Option (List Bool)
 | []=>some []
 | .bool k::vs=>(Zgg vs).map fun ks=>k::ks
 | _::_=>none
theorem Zos{H:Hp}: ∀{vs:List V} {ts:List T} {F:List Nat} {ks:List Int},RFs H vs ts F→ZeF ts=some ks→Zez vs=some ks
 | _,_,_,_,.nil,h=>h
 | _,_,_,_,.cons a b,h=>by
  cases a <;> first | (cases h;done) | skip
  obtain⟨js,h1,h2⟩:=Zz1.mp h
  subst h2
  simp only[Zez,Zos b h1,Option.map_some]
theorem Zrh{H:Hp}: ∀{vs:List V} {ts:List T} {F:List Nat} {ks:List Bool},RFs H vs ts F→Zgg ts=some ks→Zf7 vs=some ks
 | _,_,_,_,.nil,h=>h
 | _,_,_,_,.cons a b,h=>by
  cases a <;> first | (cases h;done) | skip
  obtain⟨js,h1,h2⟩:=Zz1.mp h
  subst h2
  simp only[Zf7,Zrh b h1,Option.map_some]
noncomputable def ZAi: List T→Option T
 | [.lst ts]=>(ZeF ts).map fun ks=>.int ks.sum
 | _=>none
noncomputable def ZhO: List T→Option T
 | [.lst ts]=>(Zgg ts).map fun bs=>.bool (bs.any id)
 | _=>none
theorem ZzA: OAn ZhN ZhO:=fun H vs ts t F r h=>by
 unfold ZhO at h
 split at h
 ·obtain⟨v,rfl,r'⟩:=r.one_inv
  cases r' with
  | ref e hs=>
   obtain⟨ks,h1,h2⟩:=Zz1.mp h
   subst h2
   exact⟨_,by simp only[ZhN,e,Option.bind_some,Zrh hs h1,Option.map_some],.bool _⟩
 ·cases h
theorem Zei{H:Hp}{vs:List V}{ts:List T}{F:List Nat}(r:RFs H vs ts F): RF (H++[vs]) (.ref H.length) (.lst ts) (H.length::F):=.ref (by simp) (r.ext _)
theorem ZfQ{H:Hp}{vs:List V}{ts:List T}{F:List Nat}(r:RFs H vs ts F)(h:T.flatIn (.lst ts)=true): (H.length::F).Nodup∧∀a∈H.length::F,H.length≤a:=by
 rw[r.flats (by simpa [T.flatIn]using h)]
 simp
theorem ZwH{H:Hp}{v:V}{t:T}{F:List Nat}(r:RF H v t F)(h:F=[]): F.Nodup∧∀a∈F,H.length≤a:=by subst h;simp
noncomputable def ZhP(ts:List T): Nat→List T
 | 0=>[]
 | n+1=>ZhP ts n++ts
noncomputable def Zad: T→T→Option T
 | .int a,.int b=>some (.int (a+b))
 | .lst a,.lst b=>if(a++b).length≤LEN then some (.lst (a++b))else none
 | .tup a,.tup b=>if(a++b).length≤LEN then some (.tup (a++b))else none
 | _,_=>none
noncomputable def ZaC: T→T→Option T
 | .int a,.int b=>if mulOk a b=true then some (.int (a*b))else none
 | .lst a,.int k=>if a.length*k.toNat≤LEN∧-(2 ^ 63:Int)≤k∧k<2 ^ 63 then some (.lst (ZhP a k.toNat))else none
 | _,_=>none
theorem Zsq{H:Hp}{vs:List V}{ts:List T}{F:List Nat}(r:RFs H vs ts F): ∀n,∃G,RFs H (Zfm vs n) (ZhP ts n) G∧∀a∈G,a∈F
 | 0=>⟨_,.nil,by simp⟩
 | n+1=>by
  obtain⟨G,h1,h2⟩:=Zsq r n
  exact⟨_,h1.append r,fun a m=>(Zz8.mp m).elim (h2 a) id⟩
theorem Zag: OC2 Zaf Zad:=fun H v1 v2 t1 t2 t F1 F2 r1 r2 h=>by
 cases r1 with
 | none=>cases h
 | bool=>cases h
 | str=>cases h
 | int a=>
  cases r2 <;> first | (cases h;done) | skip
  cases h;exact⟨_,[],[],by simp[Zaf],.int _,by simp,by simp⟩
 | tup hs1=>
  cases r2 with
  | none=>cases h
  | bool=>cases h
  | str=>cases h
  | int=>cases h
  | ref=>cases h
  | tup hs2=>
   simp only[Zad]at h
   split at h
   ·rename_i hl
    cases h
    refine⟨_,[],_,?_,.tup (by simpa using hs1.append hs2),fun a m=>.inr (Zz8.mp m),fun hf=>ZwH (H:=H) (.tup (hs1.append hs2)) ((RF.tup (hs1.append hs2)).flat (by simpa [T.flatIn]using hf))⟩
    simp only[Zaf,List.append_nil]
    rw[if_pos (by rw[List.length_append]at hl ⊢;rw[hs1.length,hs2.length];exact hl)]
   ·cases h
 | ref e1 hs1=>
  cases r2 with
  | none=>cases h
  | bool=>cases h
  | str=>cases h
  | int=>cases h
  | tup=>cases h
  | ref e2 hs2=>
   simp only[Zad]at h
   split at h
   ·rename_i hl
    cases h
    refine⟨_,_,_,?_,Zei (hs1.append hs2),fun a m=>?_,ZfQ (hs1.append hs2)⟩
    ·simp only[Zaf,e1,e2,Option.bind_some]
     rw[if_pos (by rw[List.length_append]at hl ⊢;rw[hs1.length,hs2.length];exact hl)]
    ·rcases Zz7.mp m with rfl | m
     ·exact .inl (Zz10 _)
     ·rcases Zz8.mp m with m | m
      ·exact .inr (.inl (Zz2 _ m))
      ·exact .inr (.inr (Zz2 _ m))
   ·cases h
theorem Zba: OC2 ZaT ZaC:=fun H v1 v2 t1 t2 t F1 F2 r1 r2 h=>by
 cases r1 with
 | none=>cases h
 | bool=>cases h
 | str=>cases h
 | tup=>cases h
 | int a=>
  cases r2 <;> first | (cases h;done) | skip
  simp only[ZaC]at h
  split at h
  ·rename_i hm
   cases h;exact⟨_,[],[],by simp only[ZaT];rw[if_pos hm];simp,.int _,by simp,by simp⟩
  ·cases h
 | ref e1 hs1=>
  cases r2 with
  | none=>cases h
  | bool=>cases h
  | str=>cases h
  | tup=>cases h
  | ref=>cases h
  | int k=>
   simp only[ZaC]at h
   split at h
   ·rename_i hl
    cases h
    obtain⟨G,h1,h2⟩:=Zsq hs1 k.toNat
    refine⟨_,_,_,?_,Zei h1,fun a m=>?_,ZfQ h1⟩
    ·simp only[ZaT,e1,Option.bind_some]
     rw[if_pos (by rw[hs1.length];exact hl)]
    ·rcases Zz7.mp m with rfl | m
     ·exact .inl (Zz10 _)
     ·exact .inr (.inl (Zz2 _ (h2 a m)))
   ·cases h
noncomputable def Zdi: List T→Option T
 | [.lst ts]=>some (.lst ts)
 | [.tup ts]=>some (.lst ts)
 | _=>none
noncomputable def Zot: List T→Option T
 | [.lst ts]=>some (.tup ts)
 | [.tup ts]=>some (.tup ts)
 | _=>none
theorem Ze4: OCn Zdh Zdi:=fun H vs ts t F hp r h=>by
 unfold Zdi at h
 split at h
 ·obtain⟨v,rfl,r'⟩:=r.one_inv
  cases r' with
  | ref e hs=>cases h;exact⟨_,_,_,by simp only[Zdh,e,Option.map_some],Zei hs,fun a m=>(Zz7.mp m).imp (fun q=>Nat.le_of_eq q.symm) (Zz2 _),ZfQ hs⟩
 ·obtain⟨v,rfl,r'⟩:=r.one_inv
  cases r' with
  | tup hs=>cases h;exact⟨_,_,_,by simp only[Zdh],Zei hs,fun a m=>(Zz7.mp m).imp (fun q=>Nat.le_of_eq q.symm) id,ZfQ hs⟩
 ·cases h
end
end TM
end
section
namespace TM
open PySem PM
theorem St.from_src{c:Ctx}{O N:List Nat}{ρ:Lc}{σ:TL}{H:Hp}{Φ:Nat→List Nat}(s:St c O ρ σ H Φ){a:Nat}(f:From H N σ Φ a): c.H0.length≤a∨c.P a:=by
 rcases f with h | ⟨i,hi,⟨t,e⟩,m⟩
 ·exact .inl (Nat.le_trans s.len h)
 ·exact s.src i t e a m
theorem St.from_off{c:Ctx}{O N:List Nat}{ρ:Lc}{σ:TL}{H:Hp}{Φ:Nat→List Nat}(s:St c O ρ σ H Φ)(hN:∀i∈N,i∉O){a:Nat}(f:From H N σ Φ a){i:Nat}(hi:i∈O){t:T}(e:σ i=some t): a∉Φ i:=by
 intro m
 obtain⟨v,_,r⟩:=s.slot i t e
 have hl:=r.lt a m
 rcases f with h | ⟨j,hj,⟨t',e'⟩,m'⟩
 ·omega
 ·exact(s.own i hi t e).2.2 j t' (fun q=>hN j hj (q▸hi)) e' a m m'
noncomputable abbrev PPt:=TL→Option (Option Int)
noncomputable def Zdw: PPt:=fun _=>some none
noncomputable def Zdx(p:PE): PPt:=fun σ=>(p σ).bind fun t=>match t with
 | .int k=>some (some k)
 | _=>none
def Pe(O:List Nat)(f:Pt)(p:PPt): Prop:=∀(c:Ctx) (ρ:Lc) (σ:TL) (H:Hp) (Φ:Nat→List Nat) (k:Option Int),St c O ρ σ H Φ→p σ=some k→∃o X,f ρ H=some (o,H++X)∧ZhG o=some k
section
variable {O N:List Nat} {u:Bool}
theorem Pe.none: Pe O PM.Zec Zdw:=fun c ρ σ H Φ k s h=>by
 cases h;exact⟨Option.none,[],by simp[PM.Zec],rfl⟩
theorem Pe.some{e:Ex}{p:PE}(x:E O N u e p): Pe O (Zed e) (Zdx p):=fun c ρ σ H Φ k s h=>by
 obtain⟨t,h1,h⟩:=Zz0.mp h
 obtain⟨v,X,F,a1,a2,a3,a4⟩:=x c ρ σ H Φ t s h1
 cases a2 <;> first | (cases h;done) | skip
 rename_i k'
 cases h
 exact⟨Option.some (.int k'),X,by simp only[Zed,a1,Option.map_some],rfl⟩
noncomputable def Zdj(p:PE)(lo hi:PPt): PE:=fun σ=>(p σ).bind fun t=>(lo σ).bind fun a=>(hi σ).bind fun b=>match t with
 | .lst ts=>Option.some (.lst (ZbI ts a b))
 | _=>Option.none
theorem RFs.pick{H:Hp}{vs:List V}{ts:List T}{F:List Nat}(h:RFs H vs ts F)(l:List Nat): ∃G,RFs H (l.filterMap fun i=>vs[i]?) (l.filterMap fun i=>ts[i]?) G∧∀a∈G,a∈F:=by
 induction l with
 | nil=>exact⟨_,.nil,by simp⟩
 | cons i l ih=>
  obtain⟨G,h1,h2⟩:=ih
  simp only[List.filterMap_cons]
  have hl:=h.length
  cases e:ts[i]? with
  | none=>
   have:vs[i]?=none:=by rw[List.getElem?_eq_none_iff]at e ⊢;omega
   rw[this]
   exact⟨G,h1,h2⟩
  | some t=>
   obtain⟨x,G',hx,hr,hs⟩:=h.at e
   rw[hx]
   exact⟨_,.cons hr h1,fun a m=>(Zz8.mp m).elim (fun q=>hs.subset q) (h2 a)⟩
theorem Zu0{c:Ctx}{ρ:Lc}{σ:TL}{H:Hp}{Φ:Nat→List Nat}{t:T}{e:Ex}{p:PE}{lo hi:Pt}{plo phi:PPt}(x:E O N u e p)(y:Pe O lo plo)(z:Pe O hi phi)(s:St c O ρ σ H Φ)(h:Zdj p plo phi σ=Option.some t):
  ∃v X F,Zdv e lo hi ρ H=Option.some (v,H++X)∧RF (H++X) v t F∧(∀a∈F,From H N σ Φ a)∧(t.flatIn=true→F.Nodup∧∀a∈F,H.length≤a):=by
 obtain⟨t1,h1,h⟩:=Zz0.mp h
 obtain⟨a,h2,h⟩:=Zz0.mp h
 obtain⟨b,h3,h⟩:=Zz0.mp h
 obtain⟨v,X,F,a1,a2,a3,a4⟩:=x c ρ σ H Φ t1 s h1
 obtain⟨o1,Y,b1,b2⟩:=y c ρ σ (H++X) Φ a (s.ext X) h2
 obtain⟨o2,Z,c1,c2⟩:=z c ρ σ (H++X++Y) Φ b ((s.ext X).ext Y) h3
 cases a2 with
 | none=>cases h
 | bool=>cases h
 | int=>cases h
 | str=>cases h
 | tup=>cases h
 | @ref i vs ts F e1 hs=>
 cases h
 have e3:((H++X)++(Y++Z))[i]?=Option.some vs:=by rw[List.getElem?_append_left (Zz6.mp e1).1];exact e1
 have hs':=hs.ext (Y++Z)
 have hlen:=hs.length
 obtain⟨G,g1,g2⟩:=hs'.pick (sliceRange (sliceBounds a b none vs.length).1 (sliceBounds a b none vs.length).2.1 (sliceBounds a b none vs.length).2.2)
 have g1':RFs (H++X++(Y++Z)) (ZbI vs a b) (ZbI ts a b) G:=by unfold ZbI;rw[←hlen];exact g1
 refine⟨.ref (H++X++(Y++Z)).length,X++(Y++Z)++[ZbI vs a b],(H++X++(Y++Z)).length::G,?_,?_,fun q m=>?_,fun hf=>?_⟩
 ·simp only[Zdv,a1,Option.bind_some,b1,c1,b2,c2]
  rw[List.append_assoc (H++X),e3]
  simp
 ·have:=Zei g1'
  simpa using this
 ·rcases Zz7.mp m with rfl | m
  ·exact .inl (by simp)
  ·exact a3 q (Zz2 _ (g2 q m))
 ·have:=ZfQ g1' hf
  exact⟨this.1,fun q m=>by have:=this.2 q m;simp at this;omega⟩
theorem Zf8{e:Ex}{p:PE}{lo hi:Pt}{plo phi:PPt}(x:E O N u e p)(y:Pe O lo plo)(z:Pe O hi phi): E O N false (Zdv e lo hi) (Zdj p plo phi):=fun c ρ σ H Φ t s h=>by
 obtain⟨v,X,F,a1,a2,a3,a4⟩:=Zu0 x y z s h
 exact⟨v,X,F,a1,a2,a3,by simp⟩
noncomputable def ZdB(p:PE)(k:Nat): PE:=fun σ=>(p σ).bind fun t=>match t with
 | .lst ts=>Option.some (.lst (ts.drop k))
 | .tup ts=>if 1≤k∧k≤ts.length then Option.some (.tup (ts.drop k))else Option.none
 | _=>Option.none
theorem ZvR{c:Ctx}{ρ:Lc}{σ:TL}{H:Hp}{Φ:Nat→List Nat}{t:T}{e:Ex}{p:PE}{k:Nat}(x:E O N u e p)(s:St c O ρ σ H Φ)(h:ZdB p k σ=Option.some t):
  ∃v X F,ZdO e k ρ H=Option.some (v,H++X)∧RF (H++X) v t F∧(∀a∈F,From H N σ Φ a)∧(t.flatIn=true→F.Nodup∧∀a∈F,H.length≤a):=by
 obtain⟨t1,h1,h⟩:=Zz0.mp h
 obtain⟨v,X,F,a1,a2,a3,a4⟩:=x c ρ σ H Φ t1 s h1
 cases a2 with
 | none=>cases h
 | bool=>cases h
 | int=>cases h
 | str=>cases h
 | tup hs=>
  simp only at h
  split at h
  ·rename_i hc
   cases h
   obtain⟨G,g1,g2⟩:=hs.drop k
   refine⟨_,X,G,?_,.tup g1,fun a m=>a3 a (g2.subset m),fun hf=>?_⟩
   ·simp only[ZdO,a1,Option.bind_some]
    rw[if_pos (by rw[hs.length];exact hc)]
   ·rw[g1.flats (by simpa [T.flatIn,T.flat]using hf)]
    simp
  ·cases h
 | @ref b vs1 ts1 F1 e1 hs=>
  cases h
  obtain⟨G,g1,g2⟩:=hs.drop k
  refine⟨.ref (H++X).length,X++[vs1.drop k],(H++X).length::G,?_,?_,fun a m=>?_,fun hf=>?_⟩
  ·simp only[ZdO,a1,Option.bind_some,e1,List.append_assoc]
  ·rw[←List.append_assoc];exact Zei g1
  ·rcases Zz7.mp m with rfl | m
   ·exact .inl (by simp)
   ·exact a3 a (Zz2 _ (g2.subset m))
  ·have:=ZfQ g1 hf
   exact⟨this.1,fun q m=>by have:=this.2 q m;simp at this;omega⟩
theorem Zhw{e:Ex}{p:PE}{k:Nat}(x:E O N u e p): E O N false (ZdO e k) (ZdB p k):=fun c ρ σ H Φ t s h=>by
 obtain⟨v,X,F,a1,a2,a3,a4⟩:=ZvR x s h
 exact⟨v,X,F,a1,a2,a3,by simp⟩
end
def Gs(O N:List Nat)(g:Src)(q:PG): Prop:=∀(c:Ctx) (ρ:Lc) (σ:TL) (H:Hp) (Φ:Nat→List Nat) (ts:List T),St c O ρ σ H Φ→q σ=some ts →
 ∃(nx:Nx) (X:Hp) (vs:List V) (F G:List Nat),g ρ H=some (nx,ts.length+1,H++X)∧RFs (H++X) vs ts F∧(∀a∈F,a∈G)∧(∀a∈G,a<(H++X).length∧From H N σ Φ a)∧∀K:Hp,(∀a∈G,K[a]?=(H++X)[a]?)→∀i,i≤vs.length→nx i K=some vs[i]?
section
variable {O N M:List Nat} {u u':Bool}
noncomputable def ZaI(p:PE): PG:=fun σ=>(p σ).bind fun t=>match t with
 | .lst ts=>some ts
 | .tup ts=>some ts
 | _=>none
theorem Gs.seq{e:Ex}{p:PE}(x:E O N u e p): Gs O N (Zbm e) (ZaI p):=fun c ρ σ H Φ ts s h=>by
 obtain⟨t1,h1,h⟩:=Zz0.mp h
 obtain⟨v,X,F,a1,a2,a3,a4⟩:=x c ρ σ H Φ t1 s h1
 have hlt:=a2.lt
 cases a2 with
 | none=>cases h
 | bool=>cases h
 | int=>cases h
 | str=>cases h
 | @tup vs _ _ hs=>
  cases h
  exact⟨Zsn vs,X,vs,F,F,by simp only[Zbm,a1,Option.bind_some,hs.length],hs,fun _ m=>m,fun a m=>⟨hlt a m,a3 a m⟩,fun K _ i hi=>rfl⟩
 | @ref b vs _ F' e1 hs=>
  cases h
  refine⟨ZoM b,X,vs,F',b::F',by simp only[Zbm,a1,Option.bind_some,e1,Option.map_some,hs.length],hs,fun _ m=>List.mem_cons_of_mem _ m,fun a m=>⟨hlt a m,a3 a m⟩,fun K hK i hi=>?_⟩
  simp only[ZoM,hK b Zz5,e1,Option.map_some]
noncomputable def ZcF(a b c:Int): Option (List T):=if c≠0∧Builtin.Range.small a b c=true∧0≤Builtin.Range.rangeSize a b c∧rngN a b c≤LEN∧Builtin.divisionGoesByPylong (b-a) c=false then some ((List.range (rngN a b c)).map fun(i:Nat)=>.int (a+(i:Int)*c))else none
noncomputable def Zaz(p:PEs): PG:=fun σ=>(p σ).bind fun ts=>match ts with
 | [.int b]=>ZcF 0 b 1
 | [.int a,.int b]=>ZcF a b 1
 | [.int a,.int b,.int c]=>ZcF a b c
 | _=>none
theorem Zri(H:Hp)(a c:Int): ∀(l:List Nat),RFs H (l.map fun(i:Nat)=>.int (a+(i:Int)*c)) (l.map fun(i:Nat)=>.int (a+(i:Int)*c)) []
 | []=>.nil
 | i::l=>by have:=RFs.cons (RF.int (H:=H) (a+i*c)) (Zri H a c l);exact this
theorem ZnZ{a b c:Int}{H:Hp}{ts:List T}(h:ZcF a b c=some ts): ∃(nx:Nx) (vs:List V),ZcH a b c H=some (nx,ts.length+1,H)∧RFs H vs ts []∧∀K:Hp,∀i,i≤vs.length→nx i K=some vs[i]?:=by
 unfold ZcF at h
 split at h
 ·rename_i hc
  cases h
  refine⟨Zf5 a c (rngN a b c),(List.range (rngN a b c)).map fun(i:Nat)=>.int (a+(i:Int)*c),?_,Zri H a c _,fun K i hi=>?_⟩
  ·unfold ZcH
   rw[if_pos hc]
   simp
  ·simp only[Zf5,List.getElem?_map]
   by_cases q:i<rngN a b c
   ·rw[if_pos q,List.getElem?_range q];rfl
   ·rw[if_neg q,List.getElem?_eq_none (by simpa using Nat.le_of_not_lt q)];rfl
 ·cases h
theorem RFs.three_inv{H:Hp}{vs:List V}{t t' t'':T}{F:List Nat}(r:RFs H vs [t,t',t''] F): ∃v v' v'' F1 F2 F3,vs=[v,v',v'']∧RF H v t F1∧RF H v' t' F2∧RF H v'' t'' F3:=by
 cases r with
 | cons a b=>obtain⟨v',v'',F2,F3,h1,h2,h3,_⟩:=b.two_inv;subst h1;exact⟨_,_,_,_,_,_,rfl,a,h2,h3⟩
theorem Gs.range{n:Nat}{e:Exs}{p:PEs}(x:Es O N u n e p): Gs O [] (ZaL e) (Zaz p):=fun c ρ σ H Φ ts s h=>by
 obtain⟨t1,h1,h⟩:=Zz0.mp h
 obtain⟨_,vs,X,F,a1,a2,a3,a4⟩:=x c ρ σ H Φ t1 s h1
 split at h
 ·obtain⟨v,rfl,r⟩:=a2.one_inv
  cases r
  obtain⟨nx,us,q1,q2,q3⟩:=ZnZ (H:=H++X) h
  exact⟨nx,X,us,[],[],by simp only[ZaL,a1,Option.bind_some,q1],q2,by simp,by simp,fun K _=>q3 K⟩
 ·obtain⟨v,v',F1,F2,rfl,r,r',_⟩:=a2.two_inv
  cases r;cases r'
  obtain⟨nx,us,q1,q2,q3⟩:=ZnZ (H:=H++X) h
  exact⟨nx,X,us,[],[],by simp only[ZaL,a1,Option.bind_some,q1],q2,by simp,by simp,fun K _=>q3 K⟩
 ·obtain⟨v,v',v'',F1,F2,F3,rfl,r,r',r''⟩:=a2.three_inv
  cases r;cases r';cases r''
  obtain⟨nx,us,q1,q2,q3⟩:=ZnZ (H:=H++X) h
  exact⟨nx,X,us,[],[],by simp only[ZaL,a1,Option.bind_some,q1],q2,by simp,by simp,fun K _=>q3 K⟩
 ·cases h
noncomputable def Zdq(p q:PE): PG:=fun σ=>(p σ).bind fun t=>(q σ).bind fun s=>match t,s with
 | .lst ts,.lst ss=>some (List.zipWith (fun x y=>.tup [x,y]) ts ss)
 | _,_=>none
theorem RFs.zip{H:Hp}: ∀{vs us:List V} {ts ss:List T} {F G:List Nat},RFs H vs ts F→RFs H us ss G→∃D,RFs H (List.zipWith (fun x y=>.tup [x,y]) vs us) (List.zipWith (fun x y=>.tup [x,y]) ts ss) D∧∀a∈D,a∈F∨a∈G
 | _,_,_,_,_,_,.nil,_=>⟨_,.nil,by simp⟩
 | _,_,_,_,_,_,.cons _ _,.nil=>⟨_,.nil,by simp⟩
 | _,_,_,_,_,_,.cons a b,.cons a' b'=>by
  obtain⟨D,h1,h2⟩:=b.zip b'
  refine⟨_,.cons (.tup (.cons a (.one a'))) h1,fun x m=>?_⟩
  rcases Zz8.mp m with m | m
  ·rcases Zz8.mp m with m | m
   ·exact .inl (Zz4 _ m)
   ·exact .inr (Zz4 _ m)
  ·exact(h2 x m).imp (Zz3 _) (Zz3 _)
theorem Gs.zip{e1 e2:Ex}{p1 p2:PE}(x:E O N u e1 p1)(y:E O M u' e2 p2): Gs O (N++M) (Zdo e1 e2) (Zdq p1 p2):=fun c ρ σ H Φ ts s h=>by
 obtain⟨t1,h1,h⟩:=Zz0.mp h
 obtain⟨t2,h2,h⟩:=Zz0.mp h
 obtain⟨v,X,F,a1,a2,a3,a4⟩:=x c ρ σ H Φ t1 s h1
 obtain⟨w,Y,G,b1,b2,b3,b4⟩:=y c ρ σ (H++X) Φ t2 (s.ext X) h2
 have a2:=a2.ext Y
 have l1:=a2.lt
 have l2:=b2.lt
 rw[List.append_assoc]at a2 b2 l1 l2 b1
 cases a2 with
 | none=>cases h
 | bool=>cases h
 | int=>cases h
 | str=>cases h
 | tup=>cases b2 <;> cases h
 | @ref a vs _ F' e1 hs=>
  cases b2 with
  | none=>cases h
  | bool=>cases h
  | int=>cases h
  | str=>cases h
  | tup=>cases h
  | @ref b us _ G' e2 hs2=>
   cases h
   obtain⟨D,d1,d2⟩:=hs.zip hs2
   refine⟨ZhH a b,X++Y,_,D,a::b::D,?_,d1,fun q m=>List.mem_cons_of_mem _ (Zz2 _ m),fun q m=>?_,fun K hK i hi=>?_⟩
   ·simp only[Zdo,a1,Option.bind_some,b1,e1,e2,Option.map_some,List.length_zipWith,hs.length,hs2.length]
   ·rcases Zz7.mp m with rfl | m
    ·exact⟨l1 _ Zz5,(a3 _ Zz5).mono fun i hi=>List.mem_append_left _ hi⟩
    ·rcases Zz7.mp m with rfl | m
     ·exact⟨l2 _ Zz5,(b3 _ Zz5).back.mono fun i hi=>List.mem_append_right _ hi⟩
     ·rcases d2 q m with m | m
      ·exact⟨l1 _ (Zz2 _ m),(a3 _ (Zz2 _ m)).mono fun i hi=>List.mem_append_left _ hi⟩
      ·exact⟨l2 _ (Zz2 _ m),(b3 _ (Zz2 _ m)).back.mono fun i hi=>List.mem_append_right _ hi⟩
   ·simp only[ZhH,hK a Zz5,hK b (Zz2 _ Zz5),e1,e2,Option.bind_some,List.getElem?_zipWith]
    rw[List.length_zipWith]at hi
    by_cases q:i<min vs.length us.length
    ·rw[List.getElem?_eq_getElem (show i<vs.length by omega),List.getElem?_eq_getElem (show i<us.length by omega)]
    ·have q':i=min vs.length us.length:=by omega
     by_cases q2:i<vs.length
     ·rw[List.getElem?_eq_getElem q2,List.getElem?_eq_none (show us.length≤i by omega)]
      simp[q']
     ·rw[List.getElem?_eq_none (show vs.length≤i by omega)]
      simp[q']
end
def PutOk(O J:List Nat)(put:V→Lc→Option Lc)(q:T→TL→Option TL): Prop:=∀(c:Ctx) (ρ:Lc) (σ:TL) (H:Hp) (Φ:Nat→List Nat) (v:V) (t:T) (F:List Nat) (σ1:TL),St c O ρ σ H Φ→RF H v t F→(∀a∈F,c.H0.length≤a∨c.P a)→(∀i∈O,∀t',σ i=some t'→∀a∈Φ i,a∉F)→q t σ=some σ1 →
 ∃ρ1 Φ1,put v ρ=some ρ1∧St c O ρ1 σ1 H Φ1∧(∀i,i∉J→σ1 i=σ i∧Φ1 i=Φ i)∧∀i∈J,∀a∈Φ1 i,a∈F
noncomputable def Zam(Φ:Nat→List Nat)(j:Nat)(F:List Nat): Nat→List Nat:=fun i=>if i=j then F else Φ i
theorem St.put{c:Ctx}{O:List Nat}{ρ:Lc}{σ:TL}{H:Hp}{Φ:Nat→List Nat}{v:V}{t:T}{F:List Nat}{j:Nat}(s:St c O ρ σ H Φ)(hj:j∉O)(r:RF H v t F)(hs:∀a∈F,c.H0.length≤a∨c.P a)(ho:∀i∈O,∀t',σ i=some t'→∀a∈Φ i,a∉F): St c O (upd ρ j v) (Z8 σ j t) H (Zam Φ j F):=by
 refine⟨fun i u e=>?_,fun i u e=>?_,fun i hi u e=>?_,s.len,s.keep,s.pos,s.f0⟩
 ·by_cases q:i=j
  ·subst q
   simp[Z8]at e
   subst e
   exact⟨v,by simp[upd],by simpa [Zam]using r⟩
  ·simp[Z8,q]at e
   simpa [upd,Zam,q]using s.slot i u e
 ·by_cases q:i=j
  ·subst q;simpa [Zam]using hs
  ·simp[Z8,q]at e
   simpa [Zam,q]using s.src i u e
 ·have q:i≠j:=fun q=>hj (q▸hi)
  simp[Z8,q]at e
  obtain⟨h1,h2,h3⟩:=s.own i hi u e
  refine⟨by simpa [Zam,q]using h1,by simpa [Zam,q]using h2,fun k w hk ek=>?_⟩
  by_cases q2:k=j
  ·subst q2
   simpa [Zam,q]using ho i hi u e
  ·simp[Z8,q2]at ek
   simpa [Zam,q,q2]using h3 k w hk ek
noncomputable def Zae(j:Nat): T→TL→Option TL:=fun t σ=>some (Z8 σ j t)
noncomputable def ZcC(i j:Nat): T→TL→Option TL
 | .tup [a,b],σ=>some (Z8 (Z8 σ i a) j b)
 | _,_=>none
theorem PutOk.one{O:List Nat}{j:Nat}(hj:j∉O:=by decide): PutOk O [j] (put1 j) (Zae j):=fun c ρ σ H Φ v t F σ1 s r hs ho h=>by
 cases h
 refine⟨_,_,rfl,s.put hj r hs ho,fun i hi=>?_,fun i hi a m=>?_⟩
 ·have:i≠j:=fun q=>hi (by simp[q])
  simp[Z8,Zam,this]
 ·simp at hi;subst hi;simpa [Zam]using m
theorem PutOk.two{O:List Nat}{i j:Nat}(hi:i∉O:=by decide)(hj:j∉O:=by decide)(hij:i≠j:=by decide): PutOk O [i,j] (Zci i j) (ZcC i j):=fun c ρ σ H Φ v t F σ1 s r hs ho h=>by
 unfold ZcC at h
 split at h
 ·cases h
  cases r with
  | tup hh=>
   obtain⟨v1,v2,F1,F2,rfl,r1,r2,rfl⟩:=hh.two_inv
   have s1:=s.put hi r1 (fun a m=>hs a (Zz4 _ m)) (fun k hk t' e a m q=>ho k hk t' e a m (Zz4 _ q))
   have s2:=s1.put hj r2 (fun a m=>hs a (Zz3 _ m)) (fun k hk t' e a m q=>by
    have:k≠i:=fun q=>hi (q▸hk)
    simp[Z8,Zam,this]at e m
    exact ho k hk t' e a m (Zz3 _ q))
   refine⟨_,_,rfl,s2,fun k hk=>?_,fun k hk a m=>?_⟩
   ·simp at hk
    simp[Z8,Zam,hk.1,hk.2]
   ·simp at hk
    rcases hk with rfl | rfl
    ·simp[Zam,hij]at m
     exact Zz4 _ m
    ·simp[Zam]at m
     exact Zz3 _ m
 ·cases h
noncomputable def ZcS(put:T→TL→Option TL)(c:PB)(f:PE)(σ:TL): List T→Option (List T)
 | []=>some []
 | t::ts=>(put t σ).bind fun σ1=>(c σ1).bind fun b=>if b then(f σ1).bind fun x=>(ZcS put c f σ ts).map fun xs=>x::xs else ZcS put c f σ ts
noncomputable def Zan(g:PG)(put:T→TL→Option TL)(c:PB)(f:PE): PE:=fun σ=>(g σ).bind fun ts=>if ts.length≤LEN then(ZcS put c f σ ts).map .lst else none
section
variable {O Ns Ne J:List Nat} {u:Bool}
theorem comp_core{put:V→Lc→Option Lc}{pput:T→TL→Option TL}{tc:Ts}{pc:PB}{f:Ex}{pf:PE}(hj:PutOk O J put pput)(hN:∀i∈Ns,i∉O)(hc:Bt O tc pc)(hf:E O Ne u f pf)(hu:u=true→Ne=[])
  {c:Ctx} {ρ:Lc} {σ:TL} {Φ:Nat→List Nat} {H0 H1:Hp} {nx:Nx} {vs:List V} {G:List Nat} (h0:H0.length≤H1.length)
  (hG:∀a∈G,a<H1.length∧From H0 Ns σ Φ a) (hoff:∀a∈G,∀i∈O,∀t,σ i=some t→a∉Φ i) (hsrc:∀a∈G,c.H0.length≤a∨c.P a) (hnx:∀K:Hp,(∀a∈G,K[a]?=H1[a]?)→∀i,i≤vs.length→nx i K=some vs[i]?):
  ∀(rs:List T) (ws:List V) (i:Nat) (acc:List V) (K:Hp) (Fr:List Nat) (out:List T),(∀j,vs[i+j]?=ws[j]?)→i+ws.length=vs.length→St c O ρ σ K Φ→H1.length≤K.length→(∀a∈G,K[a]?=H1[a]?)→RFs K ws rs Fr→(∀a∈Fr,a∈G)→acc.length+rs.length≤LEN→ZcS pput pc pf σ rs=some out →
   ∃xs X F,Zc6 nx put tc f ρ (rs.length+1) i acc K=some (acc++xs,K++X)∧RFs (K++X) xs out F∧(∀a∈F,(u=true→K.length≤a)∧From H0 (Ns++Ne) σ Φ a)∧(u=true→F.Nodup)
 | [],ws,i,acc,K,Fr,out,hat,hlen,s,hl,hk,r,hfr,hacc,h=>by
  cases r
  cases h
  have e:=hnx K hk i (by simp at hlen;omega)
  have e2:vs[i]?=none:=by have:=hat 0;simpa using this
  refine⟨[],[],[],?_,.nil,by simp,by simp⟩
  simp[Zc6,e,e2]
 | t::rs,ws0,i,acc,K,Fr0,out,hat,hlen,s,hl,hk,r,hfr,hacc,h=>by
  cases r with
  | @cons v _ F1 ws _ F2 a b=>
  simp only[List.length_cons]at hlen hacc
  obtain⟨σ1,h1,h⟩:=Zz0.mp h
  obtain⟨bb,h2,h⟩:=Zz0.mp h
  have e:=hnx K hk i (by omega)
  have e2:vs[i]?=some v:=by have:=hat 0;simpa using this
  have hat':∀j,vs[i+1+j]?=ws[j]?:=fun j=>by have:=hat (j+1);rw[show i+1+j=i+(j+1)by omega,this];simp
  obtain⟨ρ1,Φ1,p1,s1,p3,p4⟩:=hj c ρ σ K Φ v t F1 σ1 s a (fun x m=>hsrc x (hfr x (Zz4 _ m))) (fun k hk t' e x m q=>hoff x (hfr x (Zz4 _ q)) k hk t' e m) h1
  obtain⟨X1,c1⟩:=hc c ρ1 σ1 K Φ1 bb s1 h2
  cases bb with
  | true=>
   obtain⟨y,h3,h⟩:=Zz0.mp h
   obtain⟨ys,h4,h⟩:=Zz1.mp h
   subst h
   obtain⟨w,X2,Fw,d1,d2,d3,d4⟩:=hf c ρ1 σ1 (K++X1) Φ1 y (s1.ext X1) h3
   have hext:∀a∈G,(K++X1++X2)[a]?=H1[a]?:=fun a m=>by
    have:=(hG a m).1
    rw[List.append_assoc,List.getElem?_append_left (by omega)];exact hk a m
   obtain⟨xs,X3,F3,f1,f2,f3,f4⟩:=comp_core hj hN hc hf hu h0 hG hoff hsrc hnx rs ws (i+1) (acc++[w]) (K++X1++X2) F2 ys hat' (by omega) ((s.ext X1).ext X2) (by simp;omega) hext (by rw[List.append_assoc];exact b.ext _) (fun x m=>hfr x (Zz3 _ m)) (by simp;omega) h4
   refine⟨w::xs,X1++X2++X3,Fw++F3,?_,?_,fun x m=>?_,fun hu'=>?_⟩
   ·rw[List.length_cons,Zc6,e,e2]
    simp only[Option.bind_some,p1,c1,d1,if_true]
    rw[if_pos (by omega)]
    simpa using f1
   ·have:=RFs.cons (d2.ext X3) f2
    simpa using this
   ·rcases Zz8.mp m with m | m
    ·refine⟨fun hu'=>?_,?_⟩
     ·have hne:=hu hu'
      subst hne
      have:=(d3 x m).nil
      simp at this;omega
     ·rcases d3 x m with q | ⟨k,hk1,⟨tk,ek⟩,mk⟩
      ·exact .inl (by simp at q;omega)
      ·by_cases hkJ:k∈J
       ·exact(hG x (hfr x (Zz4 _ (p4 k hkJ x mk)))).2.mono fun i hi=>List.mem_append_left _ hi
       ·obtain⟨q1,q2⟩:=p3 k hkJ
        exact .inr ⟨k,List.mem_append_right _ hk1,⟨tk,q1▸ek⟩,q2▸mk⟩
    ·obtain⟨g1,g2⟩:=f3 x m
     exact⟨fun hu'=>by have:=g1 hu';simp at this;omega,g2⟩
   ·rw[List.nodup_append]
    refine⟨d4 hu',f4 hu',fun x hx y hy e=>?_⟩
    have l1:=d2.lt x hx
    have l2:=(f3 y hy).1 hu'
    omega
  | false=>
   have hext:∀a∈G,(K++X1)[a]?=H1[a]?:=fun a m=>by
    have:=(hG a m).1
    rw[List.getElem?_append_left (by omega)];exact hk a m
   obtain⟨xs,X3,F3,f1,f2,f3,f4⟩:=comp_core hj hN hc hf hu h0 hG hoff hsrc hnx rs ws (i+1) acc (K++X1) F2 out hat' (by omega) (s.ext X1) (by simp;omega) hext (b.ext _) (fun x m=>hfr x (Zz3 _ m)) (by omega) (by simpa using h)
   refine⟨xs,X1++X3,F3,?_,by simpa using f2,fun x m=>?_,f4⟩
   ·rw[List.length_cons,Zc6,e,e2]
    simp only[Option.bind_some,p1,c1]
    simpa using f1
   ·obtain⟨g1,g2⟩:=f3 x m
    exact⟨fun hu'=>by have:=g1 hu';simp at this;omega,g2⟩
theorem Zsr{g:Src}{q:PG}{put:V→Lc→Option Lc}{pput:T→TL→Option TL}{tc:Ts}{pc:PB}{f:Ex}{pf:PE}(hg:Gs O Ns g q)(hj:PutOk O J put pput)(hN:∀i∈Ns,i∉O)(hc:Bt O tc pc)(hf:E O Ne u f pf)(hu:u=true→Ne=[]): E O (if u then []else Ns++Ne) u (Zaw g put tc f) (Zan q pput pc pf):=fun c ρ σ H Φ t s h=>by
 obtain⟨ts,h1,h⟩:=Zz0.mp h
 split at h
 ·rename_i hl
  obtain⟨out,h2,h⟩:=Zz1.mp h
  subst h
  obtain⟨nx,X,vs,F,G,g1,g2,g3,g4,g5⟩:=hg c ρ σ H Φ ts s h1
  obtain⟨xs,Y,F',d1,d2,d3,d4⟩:=comp_core hj hN hc hf hu (H0:=H) (H1:=H++X) (by simp) g4 (fun a m i hi t e=>s.from_off hN (g4 a m).2 hi e) (fun a m=>s.from_src (g4 a m).2) g5 ts vs 0 [] (H++X) F out (by simp) (by simp) (s.ext X) (Zz10 _) (fun _ _=>rfl) g2 g3 (by simpa using hl) h2
  refine⟨.ref (H++X++Y).length,X++Y++[xs],(H++X++Y).length::F',?_,?_,fun a m=>?_,fun hu'=>?_⟩
  ·simp only[Zaw,g1,Option.bind_some,d1,Option.map_some,List.nil_append,List.append_assoc]
  ·have:=Zei d2
   simpa using this
  ·rcases Zz7.mp m with rfl | m
   ·exact .inl (by simp)
   ·obtain⟨q1,q2⟩:=d3 a m
    cases u with
    | true=>exact .inl (by have:=q1 rfl;simp at this;omega)
    | false=>exact q2
  ·rw[List.nodup_cons]
   exact⟨fun m=>Nat.lt_irrefl _ (d2.lt _ m),d4 hu'⟩
 ·cases h
end
end TM
end
section
namespace TM
open PySem PM
noncomputable abbrev PS:=TL→Option (Option T×TL)
noncomputable def ZcT(σ:TL)(N:List Nat): TL:=fun j=>if j∈N then none else σ j
def Held(O:List Nat)(σ:TL)(Φ:Nat→List Nat)(a:Nat): Prop:=∃j∈O,(∃t,σ j=some t)∧a∈Φ j
def Aft(c:Ctx)(O O' R:List Nat)(fr:Bool)(σ:TL)(H:Hp)(Φ:Nat→List Nat)(g:Option (Option V×Lc×Hp))(r:Option T×TL): Prop:=
 ∃ρ' H' Φ',H.length≤H'.length∧(∀a,a<H.length→¬Held O σ Φ a→H'[a]?=H[a]?) ∧
  ((r.1=none∧g=some (none,ρ',H')∧St c O' ρ' r.2 H' Φ'∧∀a,Held O' r.2 Φ' a→H.length≤a∨Held O σ Φ a) ∨
  ∃t v F,r.1=some t∧g=some (some v,ρ',H')∧RF H' v t F∧St c R ρ' r.2 H' Φ'∧(∀a∈F,c.H0.length≤a∨c.P a)∧(fr=true→F.Nodup∧∀a∈F,c.H0.length≤a∨a∈c.F0))
def S(O O' R:List Nat)(fr:Bool)(g:Sm)(q:PS): Prop:=∀(c:Ctx) (ρ:Lc) (σ:TL) (H:Hp) (Φ:Nat→List Nat) (r:Option T×TL),St c O ρ σ H Φ→q σ=some r→Aft c O O' R fr σ H Φ (g ρ H) r
theorem Held.mono{O O':List Nat}{σ:TL}{Φ:Nat→List Nat}{a:Nat}(h:Held O σ Φ a)(s:∀i∈O,i∈O'): Held O' σ Φ a:=by
 obtain⟨j,hj,q⟩:=h;exact⟨j,s j hj,q⟩
section
variable {O O' R:List Nat} {fr:Bool}
theorem ZyJ{O1:List Nat}{g:Sm}{q:PS}(x:S O O1 R fr g q)(h:∀i∈O',i∈O1): S O O' R fr g q:=fun c ρ σ H Φ r s e=>by
 obtain⟨ρ',H',Φ',h1,h2,h3⟩:=x c ρ σ H Φ r s e
 refine⟨ρ',H',Φ',h1,h2,?_⟩
 rcases h3 with⟨k1,k2,k3,k4⟩ | k
 ·exact .inl ⟨k1,k2,k3.less h,fun a m=>k4 a (m.mono h)⟩
 ·exact .inr k
noncomputable def ZX: PS:=fun σ=>some (none,σ)
theorem Z6: S O O R fr Z0 ZX:=fun c ρ σ H Φ r s e=>by
 cases e
 exact⟨ρ,H,Φ,Nat.le_refl _,fun _ _ _=>rfl,.inl ⟨rfl,rfl,s,fun a m=>.inr m⟩⟩
noncomputable def Zt(a b:PS): PS:=fun σ=>(a σ).bind fun r=>match r.1 with
 | some _=>some r
 | none=>b r.2
theorem ZA{O1:List Nat}{a b:Sm}{p q:PS}(x:S O O1 R fr a p)(y:S O1 O' R fr b q): S O O' R fr (Zu a b) (Zt p q):=fun c ρ σ H Φ r s e=>by
 obtain⟨r1,e1,e⟩:=Zz0.mp e
 obtain⟨ρ1,H1,Φ1,h1,h2,h3⟩:=x c ρ σ H Φ r1 s e1
 rcases h3 with⟨k1,k2,k3,k4⟩ | ⟨t,v,F,k1,k2,k3⟩
 ·rw[k1]at e
  obtain⟨ρ2,H2,Φ2,g1,g2,g3⟩:=y c ρ1 r1.2 H1 Φ1 r k3 e
  refine⟨ρ2,H2,Φ2,Nat.le_trans h1 g1,fun a ha hn=>?_,?_⟩
  ·rw[g2 a (by omega) fun q=>(k4 a q).elim (fun q=>by omega) hn,h2 a ha hn]
  ·have eg:Zu a b ρ H=b ρ1 H1:=by simp only[Zu,k2,Option.bind_some]
   rw[eg]
   rcases g3 with⟨l1,l2,l3,l4⟩ | l
   ·refine .inl ⟨l1,l2,l3,fun a m=>?_⟩
    rcases l4 a m with q | q
    ·exact .inl (by omega)
    ·exact k4 a q
   ·exact .inr l
 ·rw[k1]at e
  cases e
  exact⟨ρ1,H1,Φ1,h1,h2,.inr ⟨t,v,F,k1,by simp only[Zu,k2,Option.bind_some],k3⟩⟩
noncomputable def ZD(p:PE): PS:=fun σ=>(p σ).map fun t=>(some t,σ)
theorem ZR{N:List Nat}{u:Bool}{e:Ex}{p:PE}(x:E O N u e p)(hR:∀i∈R,i∈O:=by decide): S O O' R false (ZE e) (ZD p):=fun c ρ σ H Φ r s q=>by
 obtain⟨t,h1,h⟩:=Zz1.mp q
 subst h
 obtain⟨v,X,F,a1,a2,a3,a4⟩:=x c ρ σ H Φ t s h1
 refine⟨ρ,H++X,Φ,by simp,fun a ha _=>List.getElem?_append_left ha,.inr ⟨t,v,F,rfl,by simp only[ZE,a1,Option.map_some],a2,(s.ext X).less hR,fun a m=>s.from_src (a3 a m),by simp⟩⟩
theorem Zas{N:List Nat}{e:Ex}{p:PE}(x:E O N true e p)(hN:∀i∈N,i∈O:=by decide)(hR:∀i∈R,i∈O:=by decide): S O O' R fr (ZE e) (ZD p):=fun c ρ σ H Φ r s q=>by
 obtain⟨t,h1,h⟩:=Zz1.mp q
 subst h
 obtain⟨v,X,F,a1,a2,a3,a4⟩:=x c ρ σ H Φ t s h1
 refine⟨ρ,H++X,Φ,by simp,fun a ha _=>List.getElem?_append_left ha,.inr ⟨t,v,F,rfl,by simp only[ZE,a1,Option.map_some],a2,(s.ext X).less hR,fun a m=>s.from_src (a3 a m),fun _=>⟨a4 rfl,fun a m=>?_⟩⟩⟩
 rcases a3 a m with q | ⟨i,hi,⟨t',e'⟩,m'⟩
 ·exact .inl (Nat.le_trans s.len q)
 ·exact(s.own i (hN i hi) t' e').2.1 a m'
noncomputable def ZM(i:Nat)(p:PE): PS:=fun σ=>(p σ).map fun t=>(none,Z8 σ i t)
theorem ZU{N:List Nat}{u:Bool}{i:Nat}{e:Ex}{p:PE}(x:E O N u e p)(hi:i∉O':=by decide)(hN:∀j∈N,j∉O':=by decide)(hO:∀j∈O',j∈O:=by decide): S O O' R fr (ZL i e) (ZM i p):=fun c ρ σ H Φ r s q=>by
 obtain⟨t,h1,h⟩:=Zz1.mp q
 subst h
 obtain⟨v,X,F,a1,a2,a3,a4⟩:=x c ρ σ H Φ t s h1
 have s':=s.less hO
 refine⟨upd ρ i v,H++X,Zam Φ i F,by simp,fun a ha _=>List.getElem?_append_left ha,.inl ⟨rfl,by simp only[ZL,a1,Option.map_some],(s'.ext X).put hi a2 (fun a m=>s.from_src (a3 a m)) (fun k hk t' e' a m q=>?_),fun a m=>?_⟩⟩
 ·exact s'.from_off hN (a3 a q) hk e' m
 ·obtain⟨k,hk,⟨t',e'⟩,m⟩:=m
  have:k≠i:=fun q=>hi (q▸hk)
  simp[Z8,this]at e'
  simp[Zam,this]at m
  exact .inr ⟨k,hO k hk,⟨t',e'⟩,m⟩
theorem ZbG{i:Nat}{e:Ex}{p:PE}(x:E O [] true e p)(hO:∀j∈O',j∈O∨j=i:=by decide): S O O' R fr (ZL i e) (ZM i p):=fun c ρ σ H Φ r s q=>by
 obtain⟨t,h1,h⟩:=Zz1.mp q
 subst h
 obtain⟨v,X,F,a1,a2,a3,a4⟩:=x c ρ σ H Φ t s h1
 have hnew:∀a∈F,H.length≤a:=fun a m=>(a3 a m).nil
 have hold:∀k t',σ k=some t'→∀a∈Φ k,a<H.length:=fun k t' e a m=>by
  obtain⟨_,_,r⟩:=s.slot k t' e
  exact r.lt a m
 refine⟨upd ρ i v,H++X,Zam Φ i F,by simp,fun a ha _=>List.getElem?_append_left ha,.inl ⟨rfl,by simp only[ZL,a1,Option.map_some],⟨fun k t' e'=>?_,fun k t' e'=>?_,fun k hk t' e'=>?_,(s.ext X).len,(s.ext X).keep,s.pos,s.f0⟩,fun a m=>?_⟩⟩
 ·by_cases q:k=i
  ·subst q
   simp[Z8]at e'
   subst e'
   exact⟨v,by simp[upd],by simpa [Zam]using a2⟩
  ·simp[Z8,q]at e'
   simpa [upd,Zam,q]using (s.ext X).slot k t' e'
 ·by_cases q:k=i
  ·subst q;simpa [Zam]using fun a m=>s.from_src (a3 a m)
  ·simp[Z8,q]at e'
   simpa [Zam,q]using s.src k t' e'
 ·by_cases q:k=i
  ·subst q
   simp only[Zam,if_true]
   refine⟨a4 rfl,fun a m=>.inl (Nat.le_trans s.len (hnew a m)),fun j w hj ej a m q=>?_⟩
   simp[Z8,hj]at ej
   rw[if_neg hj]at q
   have:=hold j w ej a q
   have:=hnew a m
   omega
  ·have hk':=(hO k hk).resolve_right q
   simp[Z8,q]at e'
   obtain⟨o1,o2,o3⟩:=s.own k hk' t' e'
   refine⟨by simpa [Zam,q]using o1,by simpa [Zam,q]using o2,fun j w hj ej a m=>?_⟩
   simp[Zam,q]at m
   by_cases q2:j=i
   ·subst q2
    simp only[Zam,if_true]
    intro m2
    have:=hold k t' e' a m
    have:=hnew a m2
    omega
   ·simp[Z8,q2]at ej
    simpa [Zam,q2]using o3 j w hj ej a m
 ·obtain⟨k,hk,⟨t',e'⟩,m⟩:=m
  by_cases q:k=i
  ·subst q
   simp[Zam]at m
   exact .inl (hnew a m)
  ·simp[Z8,q]at e'
   simp[Zam,q]at m
   exact .inr ⟨k,(hO k hk).resolve_right q,⟨t',e'⟩,m⟩
noncomputable def ZT(b:PB)(p q:PS): PS:=fun σ=>(b σ).bind fun x=>if x then p σ else q σ
theorem Aft.grow{c:Ctx}{σ:TL}{H X:Hp}{Φ:Nat→List Nat}{g:Option (Option V×Lc×Hp)}{r:Option T×TL}(h:Aft c O O' R fr σ (H++X) Φ g r): Aft c O O' R fr σ H Φ g r:=by
 obtain⟨ρ',H',Φ',h1,h2,h3⟩:=h
 rw[List.length_append]at h1
 refine⟨ρ',H',Φ',by omega,fun a ha hn=>?_,?_⟩
 ·rw[h2 a (by rw[List.length_append];omega) hn,List.getElem?_append_left ha]
 ·rcases h3 with⟨k1,k2,k3,k4⟩ | k
  ·exact .inl ⟨k1,k2,k3,fun a m=>(k4 a m).imp (fun q=>by rw[List.length_append]at q;omega) id⟩
  ·exact .inr k
theorem Z3{t:Ts}{pb:PB}{a b:Sm}{p q:PS}(z:Bt O t pb)(x:S O O' R fr a p)(y:S O O' R fr b q): S O O' R fr (ZW t a b) (ZT pb p q):=fun c ρ σ H Φ r s e=>by
 obtain⟨bb,e1,e⟩:=Zz0.mp e
 obtain⟨X,h1⟩:=z c ρ σ H Φ bb s e1
 cases bb with
 | true=>
  have:=x c ρ σ (H++X) Φ r (s.ext X) (by simpa using e)
  have eg:ZW t a b ρ H=a ρ (H++X):=by simp[ZW,h1]
  rw[eg]
  exact this.grow
 | false=>
  have:=y c ρ σ (H++X) Φ r (s.ext X) (by simpa using e)
  have eg:ZW t a b ρ H=b ρ (H++X):=by simp[ZW,h1]
  rw[eg]
  exact this.grow
noncomputable def qNo: PS:=fun _=>none
noncomputable def sNo: Sm:=fun _ _=>none
theorem ZAa{g:Sm}: S O O' R fr g qNo:=fun c ρ σ H Φ r s q=>by cases q
noncomputable def follow(H:Hp): List Int→V→Option V
 | [],v=>some v
 | k::ks,v=>(Zr v (.int k) H).bind fun q=>follow H ks q.1
theorem Lead.follow{H:Hp}{ks:List Int}{v:V}{a:Nat}(l:Lead H ks v a): follow H ks v=some (.ref a):=by
 induction l with
 | nil=>rfl
 | ref h1 h2 h3 _ ih=>simp only[TM.follow,Zr,h1,Option.bind_some,h2,h3,Option.map_some,ih]
 | tup h2 h3 _ ih=>simp only[TM.follow,Zr,Option.bind_some,h2,h3,Option.map_some,ih]
theorem Zne{H:Hp}{v w z:V}{K:Hp}(h:Zr v z H=some (w,K))(X:Hp): K=H∧Zr v z (H++X)=some (w,H++X):=by
 unfold Zr at h
 split at h
 ·obtain⟨vs,e1,h⟩:=Zz0.mp h
  obtain⟨j,e2,h⟩:=Zz0.mp h
  obtain⟨x,e3,h⟩:=Zz1.mp h
  cases h
  exact⟨rfl,by simp only[Zr,List.getElem?_append_left (Zz6.mp e1).1,e1,Option.bind_some,e2,e3,Option.map_some]⟩
 ·obtain⟨j,e2,h⟩:=Zz0.mp h
  obtain⟨x,e3,h⟩:=Zz1.mp h
  cases h
  exact⟨rfl,by simp only[Zr,Option.bind_some,e2,e3,Option.map_some]⟩
 ·cases h
theorem Zqd{H:Hp}{k:Int}: ∀{ks:List Int} {v:V},follow H (ks++[k]) v=(follow H ks v).bind fun w=>(Zr w (.int k) H).map (·.1)
 | [],v=>by
  simp only[List.nil_append,follow,Option.bind_some]
  cases Zr v (.int k) H <;> rfl
 | j::ks,v=>by
  simp only[List.cons_append,follow]
  cases Zr v (.int j) H with
  | none=>rfl
  | some q=>simp only[Option.bind_some];exact Zqd
noncomputable abbrev PPa:=TL→Option (List Int)
noncomputable def ZaA: PPa:=fun _=>some []
noncomputable def ZbD(p:PPa)(i:PE): PPa:=fun σ=>(p σ).bind fun ks=>(i σ).bind fun t=>match t with
 | .int k=>some (ks++[k])
 | _=>none
def Pa(O:List Nat)(x:Nat)(e:Ex)(p:PPa): Prop:=∀(c:Ctx) (ρ:Lc) (σ:TL) (H:Hp) (Φ:Nat→List Nat) (ks:List Int) (v w:V),St c O ρ σ H Φ→p σ=some ks→ρ x=some v→follow H ks v=some w→∃X,e ρ H=some (w,H++X)
theorem Zbn{x:Nat}: Pa O x (Zb x) ZaA:=fun c ρ σ H Φ ks v w s h e f=>by
 cases h;cases f
 exact⟨[],by simp[Zb,e]⟩
theorem Zc4{x:Nat}{N:List Nat}{u:Bool}{e i:Ex}{p:PPa}{pi:PE}(y:Pa O x e p)(z:E O N u i pi): Pa O x (Zh Zr e i) (ZbD p pi):=fun c ρ σ H Φ ks v w s h ev f=>by
 obtain⟨ks0,h1,h⟩:=Zz0.mp h
 obtain⟨t,h2,h⟩:=Zz0.mp h
 cases t <;> first | (cases h;done) | skip
 rename_i k
 cases h
 rw[Zqd]at f
 obtain⟨w0,f1,f⟩:=Zz0.mp f
 obtain⟨⟨w1,K⟩,f2,f⟩:=Zz1.mp f
 cases f
 obtain⟨X,a1⟩:=y c ρ σ H Φ ks0 v w0 s h1 ev f1
 obtain⟨vi,Y,F,b1,b2,b3,b4⟩:=z c ρ σ (H++X) Φ _ (s.ext X) h2
 cases b2
 refine⟨X++Y,?_⟩
 simp only[Zh,a1,Option.bind_some,b1]
 have:=(Zne f2 (X++Y)).2
 rw[List.append_assoc]
 exact this
theorem Zss{c:Ctx}{ρ:Lc}{σ:TL}{H:Hp}{Φ:Nat→List Nat}{N:List Nat}{x a b:Nat}{t t':T}{v:V}{Fw F':List Nat}{vs':List V}(s:St c O ρ σ H Φ)(hx:x∈O)(ex:σ x=some t)(ev:ρ x=some v)(hb:c.H0.length≤b)(hlow:∀k t,σ k=some t→∀a∈Φ k,a<b)
  (hFw:∀a∈Fw,b≤a∨∃j∈N,(∃t,σ j=some t)∧a∈Φ j) (hN:∀j∈N,j∈O∧j≠x) (ha:a∈Φ x) (r:RF (H.set a vs') v t' F') (nd:F'.Nodup) (sub:∀y∈F',y∈Φ x∨y∈Fw) (hO:∀j∈O',j∈O∧j∉N):
  St c O' ρ (ZcT (Z8 σ x t') N) (H.set a vs') (Zam Φ x F')∧(∀y,Held O' (ZcT (Z8 σ x t') N) (Zam Φ x F') y→b≤y∨Held O σ Φ y):=by
 obtain⟨o1,o2,o3⟩:=s.own x hx t ex
 have old:∀k u,k≠x→ZcT (Z8 σ x t') N k=some u→σ k=some u∧k∉N:=fun k u hk e=>by
  unfold ZcT at e
  split at e
  ·cases e
  ·rename_i hn
   simp[Z8,hk]at e
   exact⟨e,hn⟩
 have self:∀u,ZcT (Z8 σ x t') N x=some u→u=t':=fun u e=>by
  unfold ZcT at e
  split at e
  ·cases e
  ·simp[Z8]at e;exact e.symm
 have foff:∀y∈F',∀k u,k≠x→σ k=some u→k∉N→y∉Φ k:=fun y hy k u hk e hkn m=>by
  rcases sub y hy with q | q
  ·exact o3 k u hk e y q m
  ·rcases hFw y q with q | ⟨j,hj,⟨tj,ej⟩,mj⟩
   ·have:=hlow k u e y m;omega
   ·exact(s.own j (hN j hj).1 tj ej).2.2 k u (fun q=>hkn (q▸hj)) e y mj m
 refine⟨⟨fun k u e=>?_,fun k u e=>?_,fun k hk u e=>?_,by simpa using s.len,fun y hy hn=>?_,s.pos,s.f0⟩,fun y hy=>?_⟩
 ·by_cases q:k=x
  ·subst q
   have:=self u e
   subst this
   exact⟨v,ev,by simpa [Zam]using r⟩
  ·obtain⟨e1,e2⟩:=old k u q e
   obtain⟨w,h1,h2⟩:=s.slot k u e1
   refine⟨w,h1,?_⟩
   simp only[Zam,q,if_false]
   refine h2.frame fun y hy=>List.getElem?_set_ne fun q'=>?_
   exact o3 k u q e1 a ha (q'▸hy)
 ·by_cases q:k=x
  ·subst q
   simp only[Zam,if_true]
   intro y hy
   rcases sub y hy with q | q
   ·exact s.src k t ex y q
   ·rcases hFw y q with q | ⟨j,hj,⟨tj,ej⟩,mj⟩
    ·exact .inl (by omega)
    ·exact s.src j tj ej y mj
  ·obtain⟨e1,e2⟩:=old k u q e
   simpa [Zam,q]using s.src k u e1
 ·by_cases q:k=x
  ·subst q
   simp only[Zam,if_true]
   refine⟨nd,fun y hy=>?_,fun j w hj ej y hy=>?_⟩
   ·rcases sub y hy with q | q
    ·exact o2 y q
    ·rcases hFw y q with q | ⟨j,hj,⟨tj,ej⟩,mj⟩
     ·exact .inl (by omega)
     ·exact(s.own j (hN j hj).1 tj ej).2.1 y mj
   ·obtain⟨e1,e2⟩:=old j w hj ej
    simpa [hj]using foff y hy j w hj e1 e2
  ·obtain⟨e1,e2⟩:=old k u q e
   obtain⟨p1,p2,p3⟩:=s.own k (hO k hk).1 u e1
   simp only[Zam,q,if_false]
   refine⟨p1,p2,fun j w hj ej y hy=>?_⟩
   by_cases q2:j=x
   ·subst q2
    simp only[if_true]
    exact fun m=>foff y m k u q e1 e2 hy
   ·obtain⟨f1,f2⟩:=old j w q2 ej
    simpa [q2]using p3 j w hj f1 y hy
 ·have:a≠y:=fun q=>by
   subst q
   rcases o2 a ha with q | q
   ·omega
   ·exact hn q
  rw[List.getElem?_set_ne this]
  exact s.keep y hy hn
 ·obtain⟨k,hk,⟨u,e⟩,m⟩:=hy
  by_cases q:k=x
  ·subst q
   simp only[Zam,if_true]at m
   rcases sub y m with q | q
   ·exact .inr ⟨k,hx,⟨t,ex⟩,q⟩
   ·rcases hFw y q with q | ⟨j,hj,q⟩
    ·exact .inl q
    ·exact .inr ⟨j,(hN j hj).1,q⟩
  ·obtain⟨e1,e2⟩:=old k u q e
   simp only[Zam,q,if_false]at m
   exact .inr ⟨k,(hO k hk).1,⟨u,e1⟩,m⟩
theorem Zou{c:Ctx}{ρ:Lc}{σ:TL}{H:Hp}{Φ:Nat→List Nat}{x a:Nat}{t:T}(s:St c O ρ σ H Φ)(hx:x∈O)(ex:σ x=some t)(ha:a∈Φ x): a≠0:=by
 have:=s.pos
 rcases(s.own x hx t ex).2.1 a ha with q | q
 ·omega
 ·exact fun e=>s.f0 (e▸q)
noncomputable def Zgw(w:T)(ts:List T): Option (List T):=if ts.length<LEN then some (ts++[w])else none
noncomputable def Zgx(k:Int)(w:T)(ts:List T): Option (List T):=if 0≤k∧k<ts.length then some (ts.set k.toNat w)else none
noncomputable def ZcX(x:Nat)(N:List Nat)(po:PPa)(p:PE): PS:=fun σ=>(po σ).bind fun ks=>(p σ).bind fun w=>(σ x).bind fun t=>(Zc8 (Zgw w) ks t).map fun t'=>(none,ZcT (Z8 σ x t') N)
noncomputable def Zbb(x:Nat)(N:List Nat)(p:PE)(po:PPa)(pi:PE): PS:=fun σ=>(p σ).bind fun w=>(po σ).bind fun ks=>(pi σ).bind fun k=>match k with
 | .int k=>(σ x).bind fun t=>(Zc8 (Zgx k w) ks t).map fun t'=>(none,ZcT (Z8 σ x t') N)
 | _=>none
theorem ZgV{H:Hp}(X:Hp): ∀{ks:List Int} {v w:V},follow H ks v=some w→follow (H++X) ks v=some w
 | [],_,_,h=>h
 | k::ks,v,w,h=>by
  obtain⟨⟨w1,K⟩,h1,h2⟩:=Zz0.mp h
  simp only[follow,(Zne h1 X).2,Option.bind_some]
  exact ZgV X h2
theorem Zgr{x:Nat}{N:List Nat}{o e:Ex}{po:PPa}{p:PE}(hx:x∈O)(y:Pa O x o po)(z:E O N true e p)(hN:∀j∈N,j∈O∧j≠x)(hO:∀j∈O',j∈O∧j∉N): S O O' R fr (Zb9 (Zd4 o e)) (ZcX x N po p):=fun c ρ σ H Φ r s q=>by
 obtain⟨ks,h1,q⟩:=Zz0.mp q
 obtain⟨w,h2,q⟩:=Zz0.mp q
 obtain⟨t,h3,q⟩:=Zz0.mp q
 obtain⟨t',h4,q⟩:=Zz1.mp q
 subst q
 obtain⟨v,ev,rv⟩:=s.slot x t h3
 have hlow:∀k t,σ k=some t→∀a∈Φ k,a<H.length:=fun k t e a m=>by
  obtain⟨_,_,r⟩:=s.slot k t e
  exact r.lt a m
 obtain⟨o1,o2,o3⟩:=s.own x hx t h3
 obtain⟨a,vs0,ts0,ts0',G0,l0,_⟩:=Zgf (Gn:=[]) ks rv o1 (by simp) h4
 obtain⟨X,a1⟩:=y c ρ σ H Φ ks v (.ref a) s h1 ev l0.follow
 obtain⟨vw,Y,Fw,b1,b2,b3,b4⟩:=z c ρ σ (H++X) Φ w (s.ext X) h2
 have s2:=(s.ext X).ext Y
 have rv2:RF (H++X++Y) v t (Φ x):=(rv.ext X).ext Y
 have hFw:∀a∈Fw,H.length≤a∨∃j∈N,(∃t,σ j=some t)∧a∈Φ j:=fun a m=>(b3 a m).back
 have dsj:∀a∈Fw,a∉Φ x:=fun a m q=>by
  rcases hFw a m with h | ⟨j,hj,⟨tj,ej⟩,mj⟩
  ·have:=hlow x t h3 a q;omega
  ·exact o3 j tj (hN j hj).2 ej a q mj
 obtain⟨a',vs,ts,ts',G,l,am,ea,hs,hf,gn,na,gs,go⟩:=Zgf (Gn:=Fw) ks rv2 o1 dsj h4
 have haa:a'=a:=by
  have f2:=ZgV Y (ZgV X l0.follow)
  rw[l.follow]at f2
  cases f2
  rfl
 subst haa
 unfold Zgw at hf
 split at hf
 ·rename_i hl
  cases hf
  obtain⟨F',r',n',sub'⟩:=go (vs++[vw]) (G++Fw) (hs.snoc b2) (by
   rw[List.nodup_append]
   exact⟨gn,b4 rfl,fun y hy z hz e=>dsj z hz (e▸gs y hy)⟩) (fun m=>(Zz8.mp m).elim na fun m=>dsj _ m am) (fun y m=>List.mem_append.mp m)
  obtain⟨st,com⟩:=Zss (O':=O') (b:=H.length) s2 hx h3 ev s.len hlow hFw hN am r' n' sub' hO
  refine⟨ρ,(H++X++Y).set a' (vs++[vw]),Zam Φ x F',by simp,fun y hy hn=>?_,.inl ⟨rfl,?_,st,com⟩⟩
  ·have:a'≠y:=fun q=>hn ⟨x,hx,⟨t,h3⟩,q▸am⟩
   rw[List.getElem?_set_ne this,List.append_assoc,List.getElem?_append_left hy]
  ·simp only[Zb9,Zd4,a1,Option.bind_some,b1,Zhj,ea]
   rw[if_pos ⟨Zou s hx h3 am,by rw[hs.length];exact hl⟩]
   rfl
 ·cases hf
theorem S.put{x:Nat}{N M:List Nat}{u:Bool}{o e i:Ex}{po:PPa}{p pi:PE}(hx:x∈O)(z:E O N true e p)(y:Pa O x o po)(zi:E O M u i pi)(hN:∀j∈N,j∈O∧j≠x)(hO:∀j∈O',j∈O∧j∉N): S O O' R fr (Zbl e o i) (Zbb x N p po pi):=fun c ρ σ H Φ r s q=>by
 obtain⟨w,h2,q⟩:=Zz0.mp q
 obtain⟨ks,h1,q⟩:=Zz0.mp q
 obtain⟨tk,h5,q⟩:=Zz0.mp q
 cases tk <;> first | (cases q;done) | skip
 rename_i k
 obtain⟨t,h3,q⟩:=Zz0.mp q
 obtain⟨t',h4,q⟩:=Zz1.mp q
 subst q
 obtain⟨v,ev,rv⟩:=s.slot x t h3
 have hlow:∀k t,σ k=some t→∀a∈Φ k,a<H.length:=fun k t e a m=>by
  obtain⟨_,_,r⟩:=s.slot k t e
  exact r.lt a m
 obtain⟨o1,o2,o3⟩:=s.own x hx t h3
 obtain⟨vw,X,Fw,b1,b2,b3,b4⟩:=z c ρ σ H Φ w s h2
 obtain⟨a,vs0,ts0,ts0',G0,l0,_⟩:=Zgf (Gn:=[]) ks (rv.ext X) o1 (by simp) h4
 obtain⟨Y,a1⟩:=y c ρ σ (H++X) Φ ks v (.ref a) (s.ext X) h1 ev l0.follow
 obtain⟨vk,Z,Fk,d1,d2,d3,d4⟩:=zi c ρ σ (H++X++Y) Φ _ ((s.ext X).ext Y) h5
 cases d2
 have s2:=((s.ext X).ext Y).ext Z
 have rv2:RF (H++X++Y++Z) v t (Φ x):=((rv.ext X).ext Y).ext Z
 have hFw:∀a∈Fw,H.length≤a∨∃j∈N,(∃t,σ j=some t)∧a∈Φ j:=b3
 have dsj:∀a∈Fw,a∉Φ x:=fun a m q=>by
  rcases hFw a m with h | ⟨j,hj,⟨tj,ej⟩,mj⟩
  ·have:=hlow x t h3 a q;omega
  ·exact o3 j tj (hN j hj).2 ej a q mj
 obtain⟨a',vs,ts,ts',G,l,am,ea,hs,hf,gn,na,gs,go⟩:=Zgf (Gn:=Fw) ks rv2 o1 dsj h4
 have haa:a'=a:=by
  have f2:=ZgV Z (ZgV Y l0.follow)
  rw[l.follow]at f2
  cases f2
  rfl
 subst haa
 unfold Zgx at hf
 split at hf
 ·rename_i hl
  cases hf
  have hk:k.toNat<ts.length:=by omega
  obtain⟨v0,Gk,F1,F2,e0,r0,eG,rb⟩:=hs.split (List.getElem?_eq_getElem hk)
  have b2':RF (H++X++Y++Z) vw w Fw:=(b2.ext Y).ext Z
  have rs:=rb (H++X++Y++Z) vw w Fw b2' (fun _ _=>rfl) (fun _ _=>rfl)
  have sub0:∀a∈Fw,a∈Gk∨a∈Fw:=fun a m=>.inr m
  subst eG
  obtain⟨F',r',n',sub'⟩:=go _ _ rs (nd3 gn (b4 rfl) sub0 fun a m q=>dsj a m (gs a q)) (fun m=>by
   rcases in3 (G:=Gk) sub0 _ m with m | m
   ·exact na m
   ·exact dsj _ m am) (in3 sub0)
  obtain⟨st,com⟩:=Zss (O':=O') (b:=H.length) s2 hx h3 ev s.len hlow hFw hN am r' n' sub' hO
  refine⟨ρ,(H++X++Y++Z).set a' (vs.set k.toNat vw),Zam Φ x F',by simp,fun y hy hn=>?_,.inl ⟨rfl,?_,st,com⟩⟩
  ·have:a'≠y:=fun q=>hn ⟨x,hx,⟨t,h3⟩,q▸am⟩
   rw[List.getElem?_set_ne this,List.append_assoc,List.append_assoc,List.getElem?_append_left hy]
  ·simp only[Zbl,b1,Option.bind_some,a1,d1,ZjT,ea]
   rw[if_pos ⟨Zou s hx h3 am,by rw[hs.length];exact hl⟩]
   rfl
 ·cases hf
noncomputable def Zfn(put:T→TL→Option TL)(b:PS): TL→List T→Option (Option T×TL)
 | σ,[]=>some (none,σ)
 | σ,t::ts=>(put t σ).bind fun σ1=>(b σ1).bind fun r=>match r.1 with
  | some _=>some r
  | none=>Zfn put b r.2 ts
noncomputable def ZaD(g:PG)(put:T→TL→Option TL)(b:PS): PS:=fun σ=>(g σ).bind fun ts=>Zfn put b σ ts
theorem Zn0{J:List Nat}{put:V→Lc→Option Lc}{pput:T→TL→Option TL}{b:Sm}{qb:PS}(hj:PutOk O J put pput)(hJ:∀i∈J,i∉O)(hb:S O O R fr b qb){c:Ctx}{nx:Nx}{vs:List V}{G:List Nat}{H1:Hp}(hG:∀a∈G,a<H1.length)(hsrc:∀a∈G,c.H0.length≤a∨c.P a)(hnx:∀K:Hp,(∀a∈G,K[a]?=H1[a]?)→∀i,i≤vs.length→nx i K=some vs[i]?):
  ∀(rs:List T) (ws:List V) (i:Nat) (ρ:Lc) (σ:TL) (K:Hp) (Φ:Nat→List Nat) (Fr:List Nat) (r:Option T×TL),(∀j,vs[i+j]?=ws[j]?)→i+ws.length=vs.length→St c O ρ σ K Φ→H1.length≤K.length→(∀a∈G,K[a]?=H1[a]?)→(∀a∈G,¬Held O σ Φ a)→RFs K ws rs Fr→(∀a∈Fr,a∈G)→Zfn pput qb σ rs=some r →
   Aft c O O R fr σ K Φ (ZdA nx put b (rs.length+1) i ρ K) r
 | [],ws,i,ρ,σ,K,Φ,Fr,r,hat,hlen,s,hl,hk,hoff,rr,hfr,h=>by
  cases rr
  cases h
  have e:=hnx K hk i (by simp at hlen;omega)
  have e2:vs[i]?=none:=by have:=hat 0;simpa using this
  exact⟨ρ,K,Φ,Nat.le_refl _,fun _ _ _=>rfl,.inl ⟨rfl,by simp[ZdA,e,e2],s,fun a m=>.inr m⟩⟩
 | t::rs,ws0,i,ρ,σ,K,Φ,Fr0,r,hat,hlen,s,hl,hk,hoff,rr,hfr,h=>by
  cases rr with
  | @cons v _ F1 ws _ F2 a b'=>
  simp only[List.length_cons]at hlen
  obtain⟨σ1,h1,h⟩:=Zz0.mp h
  obtain⟨r1,h2,h⟩:=Zz0.mp h
  have e:=hnx K hk i (by omega)
  have e2:vs[i]?=some v:=by have:=hat 0;simpa using this
  have hat':∀j,vs[i+1+j]?=ws[j]?:=fun j=>by have:=hat (j+1);rw[show i+1+j=i+(j+1)by omega,this];simp
  obtain⟨ρ1,Φ1,p1,s1,p3,p4⟩:=hj c ρ σ K Φ v t F1 σ1 s a (fun x m=>hsrc x (hfr x (Zz4 _ m))) (fun k hk t' e x m q=>hoff x (hfr x (Zz4 _ q)) ⟨k,hk,⟨t',e⟩,m⟩) h1
  have hh:∀x,Held O σ1 Φ1 x→Held O σ Φ x:=fun x ⟨k,hk,⟨t',e⟩,m⟩=>by
   obtain⟨q1,q2⟩:=p3 k fun q=>hJ k q hk
   exact⟨k,hk,⟨t',q1▸e⟩,q2▸m⟩
  obtain⟨ρ2,K2,Φ2,g1,g2,g3⟩:=hb c ρ1 σ1 K Φ1 r1 s1 h2
  have estep:ZdA nx put b ((t::rs).length+1) i ρ K=(b ρ1 K).bind fun q=>match q.1 with
    | some _=>some q
    | none=>ZdA nx put b (rs.length+1) (i+1) q.2.1 q.2.2:=by
   rw[List.length_cons]
   show(nx i K).bind _=_
   rw[e,e2]
   first | (simp only[Option.bind_some,p1];done) | (simp only[Option.bind_some,p1];rfl)
  rcases g3 with⟨k1,k2,k3,k4⟩ | ⟨t',v',F',k1,k2,k3⟩
  ·rw[k1]at h
   have hG2:∀a∈G,K2[a]?=K[a]?:=fun x m=>g2 x (by have:=hG x m;omega) fun q=>hoff x m (hh x q)
   have hoff2:∀a∈G,¬Held O r1.2 Φ2 a:=fun x m q=>by
    rcases k4 x q with q | q
    ·have:=hG x m;omega
    ·exact hoff x m (hh x q)
   have ih:=Zn0 hj hJ hb hG hsrc hnx rs ws (i+1) ρ2 r1.2 K2 Φ2 F2 r hat' (by omega) k3 (by omega) (fun x m=>(hG2 x m).trans (hk x m)) hoff2 (b'.frame fun x m=>hG2 x (hfr x (Zz3 _ m))) (fun x m=>hfr x (Zz3 _ m)) h
   rw[estep,k2]
   simp only[Option.bind_some]
   obtain⟨ρ3,K3,Φ3,l1,l2,l3⟩:=ih
   refine⟨ρ3,K3,Φ3,by omega,fun x hx hn=>?_,?_⟩
   ·rw[l2 x (by omega) fun q=>(k4 x q).elim (fun q=>by omega) fun q=>hn (hh x q),g2 x hx fun q=>hn (hh x q)]
   ·rcases l3 with⟨m1,m2,m3,m4⟩ | l
    ·refine .inl ⟨m1,m2,m3,fun x q=>?_⟩
     rcases m4 x q with q | q
     ·exact .inl (by omega)
     ·exact(k4 x q).imp id (hh x)
    ·exact .inr l
  ·rw[k1]at h
   cases h
   refine⟨ρ2,K2,Φ2,g1,fun x hx hn=>g2 x hx fun q=>hn (hh x q),.inr ⟨t',v',F',k1,?_,k3⟩⟩
   rw[estep,k2]
   rfl
theorem Zbd{J Ns:List Nat}{g:Src}{q:PG}{put:V→Lc→Option Lc}{pput:T→TL→Option TL}{b:Sm}{qb:PS}(hg:Gs O Ns g q)(hj:PutOk O J put pput)(hJ:∀i∈J,i∉O)(hN:∀i∈Ns,i∉O)(hb:S O O R fr b qb): S O O R fr (ZaK g put b) (ZaD q pput qb):=fun c ρ σ H Φ r s h=>by
 obtain⟨ts,h1,h⟩:=Zz0.mp h
 obtain⟨nx,X,vs,F,G,g1,g2,g3,g4,g5⟩:=hg c ρ σ H Φ ts s h1
 have:=Zn0 hj hJ hb (H1:=H++X) (fun a m=>(g4 a m).1) (fun a m=>s.from_src (g4 a m).2) g5 ts vs 0 ρ σ (H++X) Φ F r (by simp) (by simp) (s.ext X) (Zz10 _) (fun _ _=>rfl) (fun a m ⟨k,hk,⟨t,e⟩,q⟩=>s.from_off hN (g4 a m).2 hk e q) g2 g3 h
 have eg:ZaK g put b ρ H=ZdA nx put b (ts.length+1) 0 ρ (H++X):=by simp only[ZaK,g1,Option.bind_some]
 rw[eg]
 exact this.grow
noncomputable def Zdy(t:PB)(b:PS): Nat→PS
 | 0=>fun _=>none
 | n+1=>fun σ=>(t σ).bind fun p=>if p then(b σ).bind fun q=>(match q.1 with
   | some _=>some q
   | none=>Zdy t b n q.2)else some (none,σ)
theorem Zf9{t:Ts}{pt:PB}{b:Sm}{qb:PS}(z:Bt O t pt)(y:S O O R fr b qb): ∀n,S O O R fr (Zdg t b n) (Zdy pt qb n)
 | 0=>fun c ρ σ H Φ r s h=>by cases h
 | n+1=>fun c ρ σ H Φ r s h=>by
  obtain⟨p,h1,h⟩:=Zz0.mp h
  obtain⟨X,a1⟩:=z c ρ σ H Φ p s h1
  cases p with
  | false=>
   cases h
   exact⟨ρ,H++X,Φ,by simp,fun a ha _=>List.getElem?_append_left ha,.inl ⟨rfl,by simp[Zdg,a1],s.ext X,fun a m=>.inr m⟩⟩
  | true=>
   simp only[if_true]at h
   obtain⟨r1,h2,h⟩:=Zz0.mp h
   have b1:=(y c ρ σ (H++X) Φ r1 (s.ext X) h2).grow
   have eg:Zdg t b (n+1) ρ H=(b ρ (H++X)).bind fun q=>(match q.1 with
    | some _=>some q
    | none=>Zdg t b n q.2.1 q.2.2):=by
    show(t ρ H).bind _=_
    rw[a1]
    rfl
   rw[eg]
   obtain⟨ρ1,H1,Φ1,g1,g2,g3⟩:=b1
   rcases g3 with⟨k1,k2,k3,k4⟩ | ⟨t',v',F',k1,k2,k3⟩
   ·rw[k1]at h
    obtain⟨ρ3,K3,Φ3,l1,l2,l3⟩:=Zf9 z y n c ρ1 r1.2 H1 Φ1 r k3 h
    rw[k2]
    simp only[Option.bind_some]
    refine⟨ρ3,K3,Φ3,by omega,fun x hx hn=>?_,?_⟩
    ·rw[l2 x (by omega) fun q=>(k4 x q).elim (fun q=>by omega) hn,g2 x hx hn]
    ·rcases l3 with⟨m1,m2,m3,m4⟩ | l
     ·refine .inl ⟨m1,m2,m3,fun x q=>?_⟩
      rcases m4 x q with q | q
      ·exact .inl (by omega)
      ·exact k4 x q
     ·exact .inr l
   ·rw[k1]at h
    cases h
    exact⟨ρ1,H1,Φ1,g1,g2,.inr ⟨t',v',F',k1,by rw[k2];rfl,k3⟩⟩
end
noncomputable def Z9(n:Nat)(q:PS): List T→Option T:=fun ts=>if ts.length=n then(q fun i=>ts[i]?).map fun r=>r.1.getD .none else none
theorem RFs.slots{H:Hp}: ∀{vs:List V} {ts:List T} {F:List Nat},RFs H vs ts F→∃Φ:Nat→List Nat,∀i t,ts[i]?=some t→∃v,vs[i]?=some v∧RF H v t (Φ i)∧∀a∈Φ i,a∈F
 | _,_,_,.nil=>⟨fun _=>[],fun i t e=>by simp at e⟩
 | _,_,_,.cons (F:=F1) a b=>by
  obtain⟨Φ,h⟩:=b.slots
  refine⟨fun i=>match i with | 0=>F1 | i+1=>Φ i,fun i t e=>?_⟩
  cases i with
  | zero=>simp at e;subst e;exact⟨_,by simp,a,fun x m=>List.mem_append_left _ m⟩
  | succ i=>
   simp at e
   obtain⟨v,h1,h2,h3⟩:=h i t e
   exact⟨v,by simpa using h1,h2,fun x m=>List.mem_append_right _ (h3 x m)⟩
theorem Zqy{H H':Hp}(hl:H.length≤H'.length)(h:∀a,a<H.length→H'[a]?=H[a]?): H'=H++H'.drop H.length:=by
 conv=>lhs;rw[←List.take_append_drop H.length H']
 congr 1
 refine List.ext_getElem? fun i=>?_
 by_cases q:i<H.length
 ·rw[List.getElem?_take_of_lt q,h i q]
 ·rw[List.getElem?_eq_none (by simp;omega),List.getElem?_eq_none (by omega)]
theorem Zac{O':List Nat}{fr:Bool}{n:Nat}{g:Sm}{q:PS}(h:S [] O' [] fr g q): SimF fr (Z5 n g) (Z9 n q):=fun H vs ts t F1 hp r e=>by
 unfold Z9 at e
 split at e
 ·rename_i hl
  obtain⟨r1,e1,e2⟩:=Zz1.mp e
  obtain⟨Φ,hΦ⟩:=r.slots
  have st:St ⟨H,[],fun a=>a∈F1⟩ [] (fun i=>vs[i]?) (fun i=>ts[i]?) H Φ:=
   ⟨(fun i t e=>by obtain⟨v,h1,h2,_⟩:=hΦ i t e;exact⟨v,h1,h2⟩),fun i t e a m=>(by obtain⟨v,h1,h2,h3⟩:=hΦ i t e;exact .inr (h3 a m)),(fun i hi=>nomatch hi),Nat.le_refl _,fun a _ _=>rfl,hp,by simp⟩
  obtain⟨ρ',H',Φ',h1,h2,h3⟩:=h _ _ _ _ _ _ st e1
  rcases h3 with⟨k1,k2,k3,k4⟩ | ⟨t',v',F',k1,k2,k3,k4,k5,k6⟩
  ·have eh:=Zqy k3.len fun a ha=>k3.keep a ha (by simp)
   refine⟨.none,H'.drop H.length,[],?_,?_,by simp,by simp⟩
   ·have hv:vs.length=n:=r.length.trans hl
    simp only[Z5,hv,if_true,k2,Option.map_some,Option.getD_none]
    rw[←eh]
   ·rw[k1]at e2
    subst e2
    exact .none
  ·have eh:=Zqy k4.len fun a ha=>k4.keep a ha (by simp)
   refine⟨v',H'.drop H.length,F',?_,?_,k5,fun hf=>⟨(k6 hf).1,fun a m=>((k6 hf).2 a m).elim id fun q=>by cases q⟩⟩
   ·have hv:vs.length=n:=r.length.trans hl
    simp only[Z5,hv,if_true,k2,Option.map_some,Option.getD_some]
    rw[←eh]
   ·rw[k1]at e2
    subst e2
    rw[←eh]
    exact k3
 ·cases e
theorem ZvS{f:List V→Hp→Option (V×Hp)}{p:List T→Option T}{fr:Bool}(h:SimF fr f p)(ns:List Int)(e:p [.lst (ns.map T.int)]=some (.bool true)): ∃H',f [.ref 0] [ns.map V.int]=some (.bool true,H'):=by
 have intsAre:∀l:List Int,RFs [ns.map V.int] (l.map V.int) (l.map T.int) []:=fun l=>by
  induction l with
  | nil=>exact .nil
  | cons a l ih=>exact .cons (.int a) ih
 obtain⟨v,X,F,h1,h2,_⟩:=h [ns.map V.int] [.ref 0] [.lst (ns.map T.int)] _ _ (by simp) (.one (.ref rfl (intsAre ns))) e
 cases h2
 exact⟨_,h1⟩
end TM
end
section
namespace TM
open PySem PM
section
variable {O Ns Ne J:List Nat}
theorem ZbF{u:Bool}{g:Src}{q:PG}{put:V→Lc→Option Lc}{pput:T→TL→Option TL}{tc:Ts}{pc:PB}{f:Ex}{pf:PE}(hg:Gs O Ns g q)(hj:PutOk O J put pput)(hN:∀i∈Ns,i∉O)(hc:Bt O tc pc)(hf:E O Ne u f pf): E O (Ns++Ne) false (Zaw g put tc f) (Zan q pput pc pf):=
 Zsr hg hj hN hc hf.sh (by simp)
theorem ZcI{g:Src}{q:PG}{put:V→Lc→Option Lc}{pput:T→TL→Option TL}{tc:Ts}{pc:PB}{f:Ex}{pf:PE}(hg:Gs O Ns g q)(hj:PutOk O J put pput)(hN:∀i∈Ns,i∉O)(hc:Bt O tc pc)(hf:E O [] true f pf): E O [] true (Zaw g put tc f) (Zan q pput pc pf):=
 Zsr hg hj hN hc hf (by simp)
end
end TM
end
section
/-! Forward reckoning over trees. -/
namespace TM
open PySem PM
noncomputable def dec(P:Prop): Bool:=@decide P (Classical.propDecidable P)
theorem dec_iff{P:Prop}: dec P=true↔P:=by unfold dec;exact @decide_eq_true_iff P (Classical.propDecidable P)
theorem Zbo{P:Prop}(h:P): dec P=true:=dec_iff.mpr h
theorem Zcq{P:Prop}(h:¬P): dec P=false:=by
 cases e:dec P with
 | true=>exact absurd (dec_iff.mp e) h
 | false=>rfl
theorem Znf{P Q:Prop}(h:P↔Q): dec P=dec Q:=by
 by_cases p:P
 ·rw[Zbo p,Zbo (h.mp p)]
 ·rw[Zcq p,Zcq fun q=>p (h.mpr q)]
theorem Zjr{P:Prop}{b:Bool}(h:b=true↔P): dec P=b:=by
 cases b with
 | true=>exact Zbo (h.mp rfl)
 | false=>exact Zcq fun p=>by simpa using h.mpr p
theorem Ziq{P:Prop}[i:Decidable P]: decide P=dec P:=by
 unfold dec;congr
noncomputable def tab{α:Type}(n:Nat)(f:Nat→α): List α:=(List.range n).map f
theorem Zay{α:Type}{n:Nat}{f:Nat→α}: (tab n f).length=n:=by simp[tab]
theorem ZbH{α:Type}{n:Nat}{f:Nat→α}{i:Nat}(h:i<n): (tab n f)[i]?=some (f i):=by simp[tab,h]
theorem ZyK{α:Type}{n:Nat}{f:Nat→α}{i:Nat}(h:n≤i): (tab n f)[i]?=none:=by simp[tab,h]
theorem ZdK{α:Type}{n:Nat}{f:Nat→α}: tab n f++[f n]=tab (n+1) f:=by simp[tab,List.range_succ]
theorem Zi7{α:Type}{n:Nat}{xs:List α}{f:Nat→α}(hl:xs.length=n)(h:∀i,i<n→xs[i]?=some (f i)): xs=tab n f:=by
 refine List.ext_getElem? fun i=>?_
 by_cases q:i<n
 ·rw[h i q,ZbH q]
 ·rw[List.getElem?_eq_none (by omega),ZyK (by omega)]
theorem Zbj{α:Type}{n:Nat}{f g:Nat→α}(h:∀i,i<n→f i=g i): tab n f=tab n g:=by
 refine Zi7 Zay fun i hi=>?_
 rw[ZbH hi,h i hi]
theorem Zew{α:Type}{n k:Nat}{f:Nat→α}{v:α}: (tab n f).set k v=tab n fun i=>if i=k then v else f i:=by
 refine Zi7 (by rw[List.length_set,Zay]) fun i hi=>?_
 by_cases q:i=k
 ·subst q
  rw[List.getElem?_set_self (by rw[Zay];exact hi),if_pos rfl]
 ·rw[List.getElem?_set_ne (Ne.symm q),ZbH hi,if_neg q]
theorem tab_map{α β:Type}{n:Nat}{f:Nat→α}{g:α→β}: (tab n f).map g=tab n fun i=>g (f i):=by simp[tab]
noncomputable def cn{α:Type}(a:α)(f:Nat→α): Nat→α
 | 0=>a
 | i+1=>f i
theorem ZwI{α:Type}{n:Nat}{a:α}{f:Nat→α}: a::tab n f=tab (n+1) (cn a f):=by
 refine Zi7 (by rw[List.length_cons,Zay]) fun i hi=>?_
 cases i with
 | zero=>rfl
 | succ i=>rw[List.getElem?_cons_succ,ZbH (by omega)];rfl
theorem ZrQ{α β γ:Type}{n m:Nat}{f:Nat→α}{g:Nat→β}{h:α→β→γ}: List.zipWith h (tab n f) (tab m g)=tab (min n m) fun i=>h (f i) (g i):=by
 refine Zi7 (by rw[List.length_zipWith,Zay,Zay]) fun i hi=>?_
 rw[List.getElem?_zipWith,ZbH (show i<n by omega),ZbH (show i<m by omega)]
def Pk(c:Option T)(Q:T→Prop): Prop:=∃t,c=some t∧Q t
def Pl(c:Option (List T))(Q:List T→Prop): Prop:=∃t,c=some t∧Q t
def Pb(c:Option Bool)(Q:Bool→Prop): Prop:=∃t,c=some t∧Q t
def Psk(c:Option (Option T×TL))(R:T→Prop)(N:TL→Prop): Prop:=∃o σ,c=some (o,σ)∧(∀t,o=some t→R t)∧(o=none→N σ)
theorem ZF{c:Option T}{Q:T→Prop}{t:T}(h:c=some t)(k:Q t): Pk c Q:=⟨t,h,k⟩
theorem Pk.eq{c:Option T}{t:T}(h:Pk c fun v=>v=t): c=some t:=by obtain⟨v,e,rfl⟩:=h;exact e
theorem Pk.mono{c:Option T}{Q Q':T→Prop}(h:Pk c Q)(k:∀t,Q t→Q' t): Pk c Q':=by obtain⟨v,e,q⟩:=h;exact⟨v,e,k v q⟩
section
variable {σ:TL} {Q:T→Prop} {L:List T→Prop} {B:Bool→Prop} {R:T→Prop} {N:TL→Prop}
theorem ZyL{k:Int}(h:Q (.int k)): Pk (Zj k σ) Q:=⟨_,rfl,h⟩
theorem ZyM(h:Q .none): Pk (ZV σ) Q:=⟨_,rfl,h⟩
theorem Zxz{k:Bool}(h:Q (.bool k)): Pk (Zcp k σ) Q:=⟨_,rfl,h⟩
theorem ZyN{k:Str}(h:Q (.str k)): Pk (ZaN k σ) Q:=⟨_,rfl,h⟩
theorem ZyO{i:Nat}{t:T}(e:σ i=some t)(h:Q t): Pk (Za i σ) Q:=⟨_,e,h⟩
theorem ZyP{q:T→T→Option T}{f g:PE}(h:Pk (f σ) fun x=>Pk (g σ) fun y=>Pk (q x y) Q): Pk (Zg q f g σ) Q:=by
 obtain⟨x,a,y,b,z,c,k⟩:=h
 exact⟨z,by simp only[Zg,a,b,Option.bind_some,c],k⟩
theorem ZzB{q:T→Option T}{f:PE}(h:Pk (f σ) fun x=>Pk (q x) Q): Pk (pUn q f σ) Q:=by
 obtain⟨x,a,z,c,k⟩:=h
 exact⟨z,by simp only[pUn,a,Option.bind_some,c],k⟩
theorem ZxA{q:List T→Option T}{f:PEs}(h:Pl (f σ) fun x=>Pk (q x) Q): Pk (Zv q f σ) Q:=by
 obtain⟨x,a,z,c,k⟩:=h
 exact⟨z,by simp only[Zv,a,Option.bind_some,c],k⟩
theorem ZyQ(h:L []): Pl (Zm σ) L:=⟨_,rfl,h⟩
theorem ZxB{f:PE}{g:PEs}(h:Pk (f σ) fun x=>Pl (g σ) fun xs=>L (x::xs)): Pl (Zd f g σ) L:=by
 obtain⟨x,a,y,b,k⟩:=h
 exact⟨_,by simp only[Zd,a,b,Option.bind_some],k⟩
theorem ZyR{g:PEs}(h:Pl (g σ) fun xs=>Q (.tup xs)): Pk (Zak g σ) Q:=by
 obtain⟨x,a,k⟩:=h;exact⟨_,by simp only[Zak,a,Option.map_some],k⟩
theorem ZxC{g:PEs}(h:Pl (g σ) fun xs=>Q (.lst xs)): Pk (Za2 g σ) Q:=by
 obtain⟨x,a,k⟩:=h;exact⟨_,by simp only[Za2,a,Option.map_some],k⟩
theorem ZxD{f:PE}(h:Pk (f σ) fun t=>t.flat=true∧Q t): Pk (ZbR f σ) Q:=by
 obtain⟨x,a,b,k⟩:=h;exact⟨_,by simp only[ZbR,a,Option.bind_some,b,if_true],k⟩
theorem ZzC{f:PE}(h:Pk (f σ) fun t=>t.flatIn=true∧Q t): Pk (pFl f σ) Q:=by
 obtain⟨x,a,b,k⟩:=h;exact⟨_,by simp only[pFl,a,Option.bind_some,b,if_true],k⟩
theorem ZzD{b:PB}{f g:PE}(h:Pb (b σ) fun x=>(x=true→Pk (f σ) Q)∧(x=false→Pk (g σ) Q)): Pk (pIf b f g σ) Q:=by
 obtain⟨x,a,h1,h2⟩:=h
 cases x with
 | true=>obtain⟨t,c,q⟩:=h1 rfl;exact⟨t,by simp[pIf,a,c],q⟩
 | false=>obtain⟨t,c,q⟩:=h2 rfl;exact⟨t,by simp[pIf,a,c],q⟩
theorem ZyS{f:PE}(h:Pk (f σ) fun x=>Pb (Zb2 x) fun b=>Q (.bool (!b))): Pk (ZjU f σ) Q:=by
 obtain⟨x,a,b,e,q⟩:=h;exact⟨_,by simp only[ZjU,a,Option.bind_some,e,Option.map_some],q⟩
theorem ZyT{f g:PE}(h:Pk (f σ) fun x=>Pb (Zb2 x) fun b=>(b=true→Pk (g σ) Q)∧(b=false→Q x)): Pk (ZdE f g σ) Q:=by
 obtain⟨x,a,b,e,h1,h2⟩:=h
 cases b with
 | true=>obtain⟨t,c,q⟩:=h1 rfl;exact⟨t,by simp[ZdE,a,e,c],q⟩
 | false=>exact⟨x,by simp[ZdE,a,e],h2 rfl⟩
theorem ZzE{f g:PE}(h:Pk (f σ) fun x=>Pb (Zb2 x) fun b=>(b=true→Q x)∧(b=false→Pk (g σ) Q)): Pk (pOr f g σ) Q:=by
 obtain⟨x,a,b,e,h1,h2⟩:=h
 cases b with
 | false=>obtain⟨t,c,q⟩:=h2 rfl;exact⟨t,by simp[pOr,a,e,c],q⟩
 | true=>exact⟨x,by simp[pOr,a,e],h1 rfl⟩
theorem ZzF{K:String}{f:PE}(h:Pk (f σ) fun x=>Q (.bool (Zi6 K x))): Pk (pIs K f σ) Q:=by
 obtain⟨x,a,q⟩:=h;exact⟨_,by simp only[pIs,a,Option.map_some],q⟩
theorem ZyU{f:PE}(h:Pk (f σ) fun x=>Pb (Zb2 x) B): Pb (ZG f σ) B:=by
 obtain⟨x,a,b,e,q⟩:=h;exact⟨_,by simp only[ZG,a,Option.bind_some,e],q⟩
theorem ZxE{f:PB}(h:Pb (f σ) fun b=>B (!b)): Pb (Zcz f σ) B:=by
 obtain⟨x,a,q⟩:=h;exact⟨_,by simp only[Zcz,a,Option.map_some],q⟩
theorem ZxF(h:B true): Pb (Zai σ) B:=⟨_,rfl,h⟩
theorem ZwJ(h:B false): Pb (Zb3 σ) B:=⟨_,rfl,h⟩
theorem ZxG{f g:PB}(h:Pb (f σ) fun b=>(b=true→Pb (g σ) B)∧(b=false→B false)): Pb (ZaU f g σ) B:=by
 obtain⟨x,a,h1,h2⟩:=h
 cases x with
 | true=>obtain⟨t,c,q⟩:=h1 rfl;exact⟨t,by simp[ZaU,a,c],q⟩
 | false=>exact⟨_,by simp[ZaU,a],h2 rfl⟩
theorem ZyV{f g:PB}(h:Pb (f σ) fun b=>(b=true→B true)∧(b=false→Pb (g σ) B)): Pb (bOr f g σ) B:=by
 obtain⟨x,a,h1,h2⟩:=h
 cases x with
 | false=>obtain⟨t,c,q⟩:=h2 rfl;exact⟨t,by simp[bOr,a,c],q⟩
 | true=>exact⟨_,by simp[bOr,a],h1 rfl⟩
theorem Zu1{b:Bool}(h:B b): Pb (Zb2 (.bool b)) B:=⟨_,rfl,h⟩
theorem ZxH(h:N σ): Psk (ZX σ) R N:=⟨_,_,rfl,by simp,fun _=>h⟩
theorem ZyW{f:PE}(h:Pk (f σ) R): Psk (ZD f σ) R N:=by
 obtain⟨x,a,q⟩:=h;exact⟨some x,σ,by simp only[ZD,a,Option.map_some],fun t e=>by cases e;exact q,by simp⟩
theorem ZoO{i:Nat}{f:PE}(h:Pk (f σ) fun t=>N (Z8 σ i t)): Psk (ZM i f σ) R N:=by
 obtain⟨x,a,q⟩:=h;exact⟨none,Z8 σ i x,by simp only[ZM,a,Option.map_some],by simp,fun _=>q⟩
theorem Zjs{a b:PS}(h:Psk (a σ) R fun σ1=>Psk (b σ1) R N): Psk (Zt a b σ) R N:=by
 obtain⟨o,σ1,e,h1,h2⟩:=h
 cases o with
 | some t=>exact⟨some t,σ1,by simp only[Zt,e,Option.bind_some],h1,by simp⟩
 | none=>
  obtain⟨o2,σ2,e2,k1,k2⟩:=h2 rfl
  exact⟨o2,σ2,by simp only[Zt,e,Option.bind_some,e2],k1,k2⟩
theorem ZoP{b:PB}{f g:PS}(h:Pb (b σ) fun x=>(x=true→Psk (f σ) R N)∧(x=false→Psk (g σ) R N)): Psk (ZT b f g σ) R N:=by
 obtain⟨x,a,h1,h2⟩:=h
 cases x with
 | true=>obtain⟨o,s,c,q⟩:=h1 rfl;exact⟨o,s,by simp[ZT,a,c],q⟩
 | false=>obtain⟨o,s,c,q⟩:=h2 rfl;exact⟨o,s,by simp[ZT,a,c],q⟩
theorem Zjt{n:Nat}{q:PS}{ts:List T}(hn:ts.length=n)(h:Psk (q fun i=>ts[i]?) Q fun _=>Q .none): Pk (Z9 n q ts) Q:=by
 obtain⟨o,s,e,h1,h2⟩:=h
 cases o with
 | some t=>exact⟨t,by simp only[Z9,hn,if_true,e,Option.map_some,Option.getD_some],h1 t rfl⟩
 | none=>exact⟨.none,by simp only[Z9,hn,if_true,e,Option.map_some,Option.getD_none],h2 rfl⟩
theorem ZyX{b:Bool}{A C:Prop}(h:b=true)(k:A): (b=true→A)∧(b=false→C):=⟨fun _=>k,fun e=>(by rw[h]at e;cases e)⟩
theorem ZoQ{b:Bool}{A C:Prop}(h:b=false)(k:C): (b=true→A)∧(b=false→C):=⟨fun e=>(by rw[h]at e;cases e),fun _=>k⟩
theorem Zju{a b:Int}(h:Q (.int (a+b))): Pk (Zad (.int a) (.int b)) Q:=⟨_,rfl,h⟩
theorem ZyY{a b:Int}(h:Q (.int (a-b))): Pk (Za0 (.int a) (.int b)) Q:=⟨_,rfl,h⟩
theorem ZyZ{a:Int}(h:Q (.int (-a))): Pk (ZbB (.int a)) Q:=⟨_,rfl,h⟩
theorem ZzG{a b:Int}(h:Q (.bool (decide (a<b)))): Pk (qLt (.int a) (.int b)) Q:=⟨_,rfl,h⟩
theorem ZzH{a b:Int}(h:Q (.bool (decide (a≤b)))): Pk (qLe (.int a) (.int b)) Q:=⟨_,rfl,h⟩
theorem ZzI{a b:Int}(h:Q (.bool (decide (b<a)))): Pk (qGt (.int a) (.int b)) Q:=⟨_,rfl,h⟩
theorem ZoR{a b:Int}(hb:b≠0)(h:Q (.int (a.fmod b))): Pk (ZaV (.int a) (.int b)) Q:=⟨_,by simp only[ZaV];rw[if_pos hb],h⟩
theorem ZbO{a b:Int}(hb:b≠0)(hd:Builtin.divisionGoesByPylong a b=false)(h:Q (.int (a.fdiv b))): Pk (ZbU (.int a) (.int b)) Q:=⟨_,by simp only[ZbU];rw[if_pos ⟨hb,hd⟩],h⟩
theorem ZbP{a b:Int}(hm:mulOk a b=true)(h:Q (.int (a*b))): Pk (ZaC (.int a) (.int b)) Q:=⟨_,by simp only[ZaC];rw[if_pos hm],h⟩
theorem Zy0{a:Int}(h:Q (.int (if a<0 then -a else a))): Pk (Zdp [.int a]) Q:=⟨_,rfl,h⟩
theorem Zy1{a b:Int}(h:Q (.int (if b>a then b else a))): Pk (ZjJ [.int a,.int b]) Q:=⟨_,rfl,h⟩
theorem Zi8(a b:Int): ZeK (.int a) (.int b)=some (decide (a=b)):=by
 simp[ZeK,Zc9,SeqAt.shaped,PyData.canLay0,PyData.depth,PyData.eqv]
 by_cases h:a=b <;> simp[h]
theorem ZzJ{a b:Int}(h:Q (.bool (decide (a=b)))): Pk (qEq (.int a) (.int b)) Q:=⟨_,by simp only[qEq,Zi8,Option.map_some],h⟩
theorem ZzK{a b:Int}(h:Q (.bool (decide (a≠b)))): Pk (qNe (.int a) (.int b)) Q:=⟨.bool (decide (a≠b)),by simp only[qNe,Zi8,Option.map_some];simp,h⟩
theorem Zy2(h:Q (.bool true)): Pk (qIs .none .none) Q:=⟨_,rfl,h⟩
theorem Zy3{a:Int}(h:Q (.bool false)): Pk (qIs (.int a) .none) Q:=⟨_,rfl,h⟩
theorem Zy4{a:List T}(h:Q (.bool false)): Pk (qIs (.lst a) .none) Q:=⟨_,rfl,h⟩
theorem Zy5{a:List T}(h:Q (.bool false)): Pk (qIs (.tup a) .none) Q:=⟨_,rfl,h⟩
theorem ZxI(h:Q (.bool false)): Pk (Zbz .none .none) Q:=⟨_,rfl,h⟩
theorem ZxJ{a:Int}(h:Q (.bool true)): Pk (Zbz (.int a) .none) Q:=⟨_,rfl,h⟩
theorem ZxK{a:List T}(h:Q (.bool true)): Pk (Zbz (.tup a) .none) Q:=⟨_,rfl,h⟩
theorem ZxL{n:Nat}{f:Nat→T}(h:Q (.int n)): Pk (Zat [.lst (tab n f)]) Q:=⟨_,by simp only[Zat,Zay],h⟩
theorem Zy6{ts:List T}(h:Q (.int ts.length)): Pk (Zat [.lst ts]) Q:=⟨_,rfl,h⟩
theorem ZxM{ts:List T}(h:Q (.int ts.length)): Pk (Zat [.tup ts]) Q:=⟨_,rfl,h⟩
theorem ZeG{k:Int}{n:Nat}(h0:0≤k)(h1:k<n): seqIndex? k n=some k.toNat:=by
 unfold seqIndex?
 have:¬k<0:=by omega
 simp[this]
 omega
theorem ZxN{n i:Nat}{f:Nat→T}(hi:i<n)(h:Q (f i)): Pk (Zq (.lst (tab n f)) (.int (i:Nat))) Q:=⟨_,by
 simp only[Zq,Zay,ZeG (show(0:Int)≤(i:Int)by omega) (show(i:Int)<(n:Int)by omega),Option.bind_some,Int.toNat_natCast]
 exact ZbH hi,h⟩
theorem ZxO{n:Nat}{k:Int}{f:Nat→T}(h0:0≤k)(h1:k<n)(h:Q (f k.toNat)): Pk (Zq (.lst (tab n f)) (.int k)) Q:=⟨_,by
 simp only[Zq,Zay,ZeG h0 h1,Option.bind_some]
 exact ZbH (by omega),h⟩
theorem Zga{ts:List T}{k:Int}{t:T}(h0:0≤k)(e:ts[k.toNat]?=some t)(h:Q t): Pk (Zq (.lst ts) (.int k)) Q:=⟨_,by
 simp only[Zq]
 rw[ZeG h0 (by have:=(Zz6.mp e).1;omega)]
 exact e,h⟩
theorem ZxP{ts:List T}{k:Int}{t:T}(h0:0≤k)(e:ts[k.toNat]?=some t)(h:Q t): Pk (Zq (.tup ts) (.int k)) Q:=⟨_,by
 simp only[Zq]
 rw[ZeG h0 (by have:=(Zz6.mp e).1;omega)]
 exact e,h⟩
theorem ZrR{n:Nat}{a:T}{f:Nat→T}(hn:n<10000)(h:Q (.lst (tab (n+1) (cn a f)))): Pk (Zad (.lst [a]) (.lst (tab n f))) Q:=⟨_,by
 simp only[Zad]
 rw[if_pos (by rw[Zbr,List.length_append,Zay];simp;omega),List.singleton_append,ZwI],h⟩
theorem ZwK{ts:List T}(h:Q (.lst ts)): Pk (Zdi [.lst ts]) Q:=⟨_,rfl,h⟩
theorem ZvT{n:Nat}{f:Nat→Bool}: Zgg (tab n fun i=>.bool (f i))=some (tab n f):=by
 have:∀l:List Bool,Zgg (l.map T.bool)=some l:=fun l=>by
  induction l with
  | nil=>rfl
  | cons a l ih=>simp only[List.map_cons,Zgg,ih,Option.map_some]
 rw[show(tab n fun i=>T.bool (f i))=(tab n f).map T.bool from tab_map.symm]
 exact this _
theorem Zy7{n:Nat}{P:Nat→Prop}(h:Q (.bool (dec (∃i,i<n∧P i)))): Pk (ZhO [.lst (tab n fun i=>.bool (dec (P i)))]) Q:=⟨_,by
 simp only[ZhO,ZvT,Option.map_some]
 congr 2
 symm
 apply Zjr
 rw[List.any_eq_true]
 constructor
 ·rintro⟨x,hx,h⟩
  obtain⟨i,hi,e⟩:=List.getElem_of_mem hx
  rw[Zay]at hi
  have:=ZbH (f:=fun i=>dec (P i)) hi
  rw[List.getElem?_eq_getElem (by rw[Zay];exact hi)]at this
  rw[←e,Option.some.inj this]at h
  exact⟨i,hi,dec_iff.mp h⟩
 ·rintro⟨i,hi,h⟩
  exact⟨_,List.mem_of_getElem? (ZbH hi),Zbo h⟩,h⟩
def SqP(x:T)(L:List T→Prop): Prop:=∃ts,(x=.lst ts∨x=.tup ts)∧L ts
theorem Zi9{f:PE}(h:Pk (f σ) fun t=>SqP t L): Pl (ZaI f σ) L:=by
 obtain⟨t,a,ts,rfl | rfl,q⟩:=h <;> exact⟨_,by simp only[ZaI,a,Option.bind_some],q⟩
theorem Sq.lst{ts:List T}(h:L ts): SqP (.lst ts) L:=⟨ts,.inl rfl,h⟩
theorem Zst{a b c:Int}{H:Hp}{z:Nx×Nat×Hp}(h:ZcH a b c H=some z): ZcF a b c=some ((List.range (rngN a b c)).map fun(i:Nat)=>.int (a+(i:Int)*c)):=by
 unfold ZcH at h
 split at h
 ·rename_i hc
  unfold ZcF
  rw[if_pos hc]
 ·cases h
theorem ZwL{n:Nat}(hn:n≤1000): ZcF 0 n 1=some (tab n fun i=>.int i):=by
 rw[Zst (ZyD (H:=[]) (b:=n) (by omega) (by omega))]
 have e:rngN 0 n 1=n:=by
  unfold rngN Builtin.Range.rangeSize
  by_cases q:(0:Int)<n
  ·rw[if_pos (by decide),if_pos (by omega)];omega
  ·rw[if_pos (by decide),if_neg (by omega)];omega
 rw[e]
 simp[tab]
theorem ZrS{a n:Nat}(ha:0<n)(hn:a+n≤1000): ZcF a (a+n) 1=some (tab n fun i=>.int (a+i)):=by
 rw[Zst (ZyF (H:=[]) (a:=a) (b:=a+n) (c:=1) (by omega) (by omega) (by omega) (by omega) (by omega))]
 have e:rngN a (a+n) 1=n:=by
  unfold rngN
  rw[ZsP (by omega) (by omega)]
  omega
 rw[e]
 simp[tab]
theorem ZxQ{g:PEs}{b:Int}{o:Option (List T)}(e:g σ=some [.int b])(h:ZcF 0 b 1=o): Zaz g σ=o:=by
 subst h;unfold Zaz;rw[e];rfl
theorem Zhm{g:PEs}{a b:Int}{o:Option (List T)}(e:g σ=some [.int a,.int b])(h:ZcF a b 1=o): Zaz g σ=o:=by
 subst h;unfold Zaz;rw[e];rfl
def RnP(xs:List T)(L:List T→Prop): Prop:=(∃n:Nat,xs=[.int n]∧n≤1000∧L (tab n fun i=>.int i))∨∃(a:Nat) (n:Nat),xs=[.int a,.int (a+n)]∧0<n∧a+n≤1000∧L (tab n fun i=>.int (a+i))
theorem ZwM{g:PEs}(h:Pl (g σ) fun xs=>RnP xs L): Pl (Zaz g σ) L:=by
 obtain⟨xs,e,h⟩:=h
 rcases h with⟨n,h0,h1,q⟩ | ⟨a,n,h0,h1,h2,q⟩
 ·subst h0;exact⟨_,ZxQ e (ZwL h1),q⟩
 ·subst h0;exact⟨_,Zhm e (ZrS h1 h2),q⟩
theorem Rn.one{n:Nat}(hn:n≤1000)(h:L (tab n fun i=>.int i)): RnP [.int n] L:=.inl ⟨n,rfl,hn,h⟩
theorem ZjK{k:Int}(n:Nat)(e:k=n)(hn:n≤1000)(h:L (tab n fun i=>.int i)): RnP [.int k] L:=.inl ⟨n,by rw[e],hn,h⟩
theorem Rn.two{k l:Int}(a n:Nat)(e0:l=a)(e:k=a+n)(ha:0<n)(hn:a+n≤1000)(h:L (tab n fun i=>.int (a+i))): RnP [.int l,.int k] L:=.inr ⟨a,n,by rw[e,e0],ha,hn,h⟩
def ZiP(x y:T)(L:List T→Prop): Prop:=∃xs ys,x=.lst xs∧y=.lst ys∧L (List.zipWith (fun a b=>.tup [a,b]) xs ys)
theorem ZoS{f g:PE}(h:Pk (f σ) fun x=>Pk (g σ) fun y=>ZiP x y L): Pl (Zdq f g σ) L:=by
 obtain⟨x,a,y,b,xs,ys,rfl,rfl,q⟩:=h;exact⟨_,by simp only[Zdq,a,b,Option.bind_some],q⟩
theorem Zi.eq{n:Nat}{f g:Nat→T}(h:L (tab n fun i=>.tup [f i,g i])): ZiP (.lst (tab n f)) (.lst (tab n g)) L:=⟨_,_,rfl,rfl,by rw[ZrQ,Nat.min_self];exact h⟩
theorem Zov{put:T→TL→Option TL}{f:PE}: ∀{ts us:List T},us.length=ts.length→(∀(i:Nat) t u,ts[i]?=some t→us[i]?=some u→∃σ1,put t σ=some σ1∧f σ1=some u)→ZcS put Zai f σ ts=some us
 | [],us,hl,_=>by cases us with
  | nil=>rfl
  | cons _ _=>simp at hl
 | t::ts,us,hl,k=>by
  cases us with
  | nil=>simp at hl
  | cons u us=>
   obtain⟨σ1,h1,h2⟩:=k 0 t u (by simp) (by simp)
   have:=Zov (ts:=ts) (us:=us) (f:=f) (put:=put) (by simpa using hl) fun i t' u' h3 h4=>k (i+1) t' u' (by simpa using h3) (by simpa using h4)
   simp only[ZcS,h1,Zai,Option.bind_some,if_true,h2,this,Option.map_some]
theorem ZbM{g:PG}{j n:Nat}{a b:Nat→T}{f:PE}(hn:n<10000)(hg:Pl (g σ) fun ts=>ts=tab n a)(hf:∀i,i<n→Pk (f (Z8 σ j (a i))) fun t=>t=b i)(h:Q (.lst (tab n b))): Pk (Zan g (Zae j) Zai f σ) Q:=by
 obtain⟨ts,e,rfl⟩:=hg
 refine⟨_,?_,h⟩
 simp only[Zan,e,Option.bind_some,Zay]
 rw[if_pos (by rw[Zbr];omega),Zov (us:=tab n b) (by rw[Zay,Zay]) fun i t u h1 h2=>?_]
 ·rfl
 ·have hi:i<n:=by have:=(Zz6.mp h1).1;rwa [Zay]at this
  rw[ZbH hi]at h1 h2
  cases h1;cases h2
  exact⟨_,rfl,(hf i hi).eq⟩
theorem Zn1{g:PG}{j k n:Nat}{a b c:Nat→T}{f:PE}(hn:n<10000)(hg:Pl (g σ) fun ts=>ts=tab n fun i=>.tup [a i,b i])(hf:∀i,i<n→Pk (f (Z8 (Z8 σ j (a i)) k (b i))) fun t=>t=c i)(h:Q (.lst (tab n c))): Pk (Zan g (ZcC j k) Zai f σ) Q:=by
 obtain⟨ts,e,rfl⟩:=hg
 refine⟨_,?_,h⟩
 simp only[Zan,e,Option.bind_some,Zay]
 rw[if_pos (by rw[Zbr];omega),Zov (us:=tab n c) (by rw[Zay,Zay]) fun i t u h1 h2=>?_]
 ·rfl
 ·have hi:i<n:=by have:=(Zz6.mp h1).1;rwa [Zay]at this
  rw[ZbH hi]at h1 h2
  cases h1;cases h2
  exact⟨_,rfl,(hf i hi).eq⟩
theorem Zjv{put:T→TL→Option TL}{b:PS}: ∀{ts:List T} (P:Nat→TL→Prop) {σ:TL},P 0 σ→(∀(i:Nat) t σ,ts[i]?=some t→P i σ→∃σ1,put t σ=some σ1∧Psk (b σ1) R (P (i+1)))→(∀σ,P ts.length σ→N σ)→Psk (Zfn put b σ ts) R N
 | [],P,σ,h0,_,h2=>⟨_,_,rfl,by simp,fun _=>h2 _ h0⟩
 | t::ts,P,σ,h0,h1,h2=>by
  obtain⟨σ1,e1,o,σ2,e2,k1,k2⟩:=h1 0 t σ (by simp) h0
  cases o with
  | some v=>exact⟨some v,σ2,by simp only[Zfn,e1,Option.bind_some,e2],k1,by simp⟩
  | none=>
   obtain⟨o3,σ3,e3,l1,l2⟩:=Zjv (ts:=ts) (fun i=>P (i+1)) (k2 rfl) (fun i t' σ' h3 h4=>h1 (i+1) t' σ' (by simpa using h3) h4) (fun σ' h=>h2 σ' (by simpa using h))
   exact⟨o3,σ3,by simp only[Zfn,e1,Option.bind_some,e2,e3],l1,l2⟩
theorem Zb4{g:PG}{j n:Nat}{a:Nat→T}{b:PS}(hg:Pl (g σ) fun ts=>ts=tab n a)(P:Nat→TL→Prop)(h0:P 0 σ)(h1:∀i σ,i<n→P i σ→Psk (b (Z8 σ j (a i))) R (P (i+1)))(h2:∀σ,P n σ→N σ): Psk (ZaD g (Zae j) b σ) R N:=by
 obtain⟨ts,e,rfl⟩:=hg
 have:=Zjv (R:=R) (N:=N) (put:=Zae j) (b:=b) (ts:=tab n a) P h0 (fun i t σ' h3 h4=>by
  have hi:i<n:=by have:=(Zz6.mp h3).1;rwa [Zay]at this
  rw[ZbH hi]at h3
  cases h3
  exact⟨_,rfl,h1 i σ' hi h4⟩) (by rw[Zay];exact h2)
 obtain⟨o,s,e2,q⟩:=this
 exact⟨o,s,by simp only[ZaD,e,Option.bind_some,e2],q⟩
theorem Zja{g:PG}{j k n:Nat}{a c:Nat→T}{b:PS}(hg:Pl (g σ) fun ts=>ts=tab n fun i=>.tup [a i,c i])(P:Nat→TL→Prop)(h0:P 0 σ)(h1:∀i σ,i<n→P i σ→Psk (b (Z8 (Z8 σ j (a i)) k (c i))) R (P (i+1)))(h2:∀σ,P n σ→N σ): Psk (ZaD g (ZcC j k) b σ) R N:=by
 obtain⟨ts,e,rfl⟩:=hg
 have:=Zjv (R:=R) (N:=N) (put:=ZcC j k) (b:=b) (ts:=tab n fun i=>.tup [a i,c i]) P h0 (fun i t σ' h3 h4=>by
  have hi:i<n:=by have:=(Zz6.mp h3).1;rwa [Zay]at this
  rw[ZbH hi]at h3
  cases h3
  exact⟨_,rfl,h1 i σ' hi h4⟩) (by rw[Zay];exact h2)
 obtain⟨o,s,e2,q⟩:=this
 exact⟨o,s,by simp only[ZaD,e,Option.bind_some,e2],q⟩
theorem ZxR{g:PG}{j:Nat}{ts:List T}{b:PS}(hg:Pl (g σ) fun us=>us=ts)(P:Nat→TL→Prop)(h0:P 0 σ)(h1:∀(i:Nat) t σ,ts[i]?=some t→P i σ→Psk (b (Z8 σ j t)) R (P (i+1)))(h2:∀σ,P ts.length σ→N σ): Psk (ZaD g (Zae j) b σ) R N:=by
 obtain⟨us,e,rfl⟩:=hg
 obtain⟨o,s,e2,q⟩:=Zjv (R:=R) (N:=N) (put:=Zae j) (b:=b) (ts:=us) P h0 (fun i t σ' h3 h4=>⟨_,rfl,h1 i t σ' h3 h4⟩) h2
 exact⟨o,s,by simp only[ZaD,e,Option.bind_some,e2],q⟩
theorem ZfZ{t:PB}{b:PS}(P:Nat→TL→Prop)(R:T→Prop)(N:TL→Prop)(h:∀m σ,P m σ→Pb (t σ) fun x=>(x=true→Psk (b σ) R fun σ1=>∃m',m'<m∧P m' σ1)∧(x=false→N σ)): ∀(n:Nat) {m:Nat} {σ:TL},P m σ→m<n→Psk (Zdy t b n σ) R N
 | 0,_,_,_,hm=>by omega
 | n+1,m,σ,hp,hm=>by
  obtain⟨x,e,h1,h2⟩:=h m σ hp
  cases x with
  | false=>exact⟨none,σ,by simp[Zdy,e],by simp,fun _=>h2 rfl⟩
  | true=>
   obtain⟨o,σ1,e1,k1,k2⟩:=h1 rfl
   cases o with
   | some v=>exact⟨some v,σ1,by simp[Zdy,e,e1],k1,by simp⟩
   | none=>
    obtain⟨m',hm',hp'⟩:=k2 rfl
    obtain⟨o2,σ2,e2,l1,l2⟩:=ZfZ P R N h n hp' (by omega)
    exact⟨o2,σ2,by simp[Zdy,e,e1,e2],l1,l2⟩
theorem Zg7: ZcT σ []=σ:=by funext i;simp[ZcT]
def AppP(σ:TL)(x:Nat)(w:T)(N:TL→Prop): Prop:=∃ts,σ x=some (.lst ts)∧ts.length<10000∧N (Z8 σ x (.lst (ts++[w])))
theorem ZxS{x:Nat}{w:T}{ts:List T}(e:σ x=some (.lst ts))(hl:ts.length<10000)(h:N (Z8 σ x (.lst (ts++[w])))): AppP σ x w N:=⟨ts,e,hl,h⟩
theorem Zy8{x:Nat}{f:PE}(h:Pk (f σ) fun w=>AppP σ x w N): Psk (ZcX x [] ZaA f σ) R N:=by
 obtain⟨w,e,ts,h1,h2,q⟩:=h
 refine⟨none,_,?_,by simp,fun _=>q⟩
 simp only[ZcX,ZaA,Option.bind_some,e,h1,Zc8,Zgw]
 rw[if_pos (by rw[Zbr];omega)]
 simp only[Option.map_some,Zg7]
def AppQ(σ:TL)(x y:Nat)(w:T)(N:TL→Prop): Prop:=∃ts,σ x=some (.lst ts)∧ts.length<10000∧N (ZcT (Z8 σ x (.lst (ts++[w]))) [y])
theorem ZxT{x y:Nat}{w:T}{ts:List T}(e:σ x=some (.lst ts))(hl:ts.length<10000)(h:N (ZcT (Z8 σ x (.lst (ts++[w]))) [y])): AppQ σ x y w N:=⟨ts,e,hl,h⟩
theorem ZxU{x y:Nat}{f:PE}(h:Pk (f σ) fun w=>AppQ σ x y w N): Psk (ZcX x [y] ZaA f σ) R N:=by
 obtain⟨w,e,ts,h1,h2,q⟩:=h
 refine⟨none,_,?_,by simp,fun _=>q⟩
 simp only[ZcX,ZaA,Option.bind_some,e,h1,Zc8,Zgw]
 rw[if_pos (by rw[Zbr];omega)]
 simp only[Option.map_some]
def PutP(σ:TL)(x:Nat)(w k:T)(N:TL→Prop): Prop:=∃ts m,k=.int m∧σ x=some (.lst ts)∧0≤m∧m<ts.length∧N (Z8 σ x (.lst (ts.set m.toNat w)))
theorem ZwN{x n i:Nat}{w:T}{f:Nat→T}(e:σ x=some (.lst (TM.tab n f)))(hi:i<n)(h:N (Z8 σ x (.lst (TM.tab n fun k=>if k=i then w else f k)))): PutP σ x w (.int i) N:=⟨_,_,rfl,e,by omega,by rw[Zay];omega,by rw[Int.toNat_natCast,Zew];exact h⟩
theorem ZqS{x n:Nat}{k:Int}{w:T}{f:Nat→T}(e:σ x=some (.lst (TM.tab n f)))(h0:0≤k)(hi:k<n)(h:N (Z8 σ x (.lst (TM.tab n fun i=>if i=k.toNat then w else f i)))): PutP σ x w (.int k) N:=⟨_,_,rfl,e,h0,by rw[Zay];omega,by rw[Zew];exact h⟩
theorem Zy9{x:Nat}{f i:PE}(h:Pk (f σ) fun w=>Pk (i σ) fun k=>PutP σ x w k N): Psk (Zbb x [] f ZaA i σ) R N:=by
 obtain⟨w,e,k,e2,ts,m,rfl,h1,h2,h3,q⟩:=h
 refine⟨none,_,?_,by simp,fun _=>q⟩
 simp only[Zbb,ZaA,Option.bind_some,e,e2,h1,Zc8,Zgx]
 rw[if_pos ⟨h2,h3⟩]
 simp only[Option.map_some,Zg7]
def Put2(σ:TL)(x:Nat)(w a k:T)(N:TL→Prop): Prop:=∃ts us l m,a=.int l∧k=.int m∧σ x=some (.lst ts)∧0≤l∧ts[l.toNat]?=some (.lst us)∧0≤m∧m<us.length∧N (Z8 σ x (.lst (ts.set l.toNat (.lst (us.set m.toNat w)))))
theorem Zrj{x n m i j:Nat}{w:T}{f:Nat→Nat→T}(e:σ x=some (.lst (TM.tab n fun a=>.lst (TM.tab m (f a)))))(hi:i<n)(hj:j<m)(h:N (Z8 σ x (.lst (TM.tab n fun a=>.lst (TM.tab m fun b=>if a=i∧b=j then w else f a b))))): Put2 σ x w (.int i) (.int j) N:=by
 refine⟨_,TM.tab m (f i),i,j,rfl,rfl,e,by omega,?_,by omega,by rw[Zay];omega,?_⟩
 ·rw[Int.toNat_natCast,ZbH hi]
 ·rw[Int.toNat_natCast,Int.toNat_natCast,Zew,Zew]
  have:(TM.tab n fun a=>if a=i then T.lst (TM.tab m fun b=>if b=j then w else f i b)else T.lst (TM.tab m (f a)))=TM.tab n fun a=>.lst (TM.tab m fun b=>if a=i∧b=j then w else f a b):=Zbj fun a _=>by
   by_cases q:a=i
   ·subst q;simp
   ·simp[q]
  rw[this];exact h
theorem ZxV{x:Nat}{f i j:PE}(h:Pk (f σ) fun w=>Pk (i σ) fun a=>Pk (j σ) fun k=>Put2 σ x w a k N): Psk (Zbb x [] f (ZbD ZaA i) j σ) R N:=by
 obtain⟨w,e,a,e1,k,e2,ts,us,l,m,rfl,rfl,h1,h0,h4,h2,h3,q⟩:=h
 refine⟨none,_,?_,by simp,fun _=>q⟩
 have hl:=(Zz6.mp h4).1
 simp only[Zbb,ZaA,ZbD,Option.bind_some,e,e1,e2,h1,List.nil_append,Zc8,Zgx,ZeG h0 (show l<ts.length by omega),h4]
 rw[if_pos ⟨h2,h3⟩]
 simp only[Option.map_some,Zg7]
theorem ZrT{i j:Nat}{t:T}{o:Option T}(h:j≠i)(e:σ j=o): Z8 σ i t j=o:=by simp[Z8,h,e]
theorem ZwO{j:Nat}{J:List Nat}{o:Option T}(h:j∉J)(e:σ j=o): ZcT σ J j=o:=by simp[ZcT,h,e]
end
end TM
end
section
namespace TM
open PySem PM
inductive Pln: Nat→T→Prop where
 | none {n:Nat}:Pln n .none
 | int {n:Nat} {i:Int}:Pln n (.int i)
 | str {n:Nat} {x:Str}:PyData.strOk x=true→Pln n (.str x)
 | tup {n:Nat} {ts:List T}:(∀t∈ts,Pln n t)→Pln (n+1) (.tup ts)
 | lst {n:Nat} {ts:List T}:(∀t∈ts,Pln n t)→Pln (n+1) (.lst ts)
mutual
noncomputable def dd: T→PyData
 | .none=>.none
 | .bool b=>.bool b
 | .int i=>.int i
 | .str x=>.str x
 | .tup ts=>.tuple (dds ts)
 | .lst ts=>.list (dds ts)
noncomputable def dds: List T→List PyData
 | []=>[]
 | t::ts=>dd t::dds ts
end
theorem Zn2{f:T→Option PyData}: ∀{ts:List T},(∀t∈ts,f t=some (dd t))→Zfg f ts=some (dds ts)
 | [],_=>rfl
 | t::ts,h=>by simp only[Zfg,h t Zz5,Zn2 fun t m=>h t (Zz2 _ m),Option.bind_some,dds]
theorem Zow: ∀{ts:List T},(∀t∈ts,PyData.canLay0 (dd t)=true)→PyData.canLayAll0 (dds ts)=true
 | [],_=>rfl
 | t::ts,h=>by simp only[dds,PyData.canLayAll0,h t Zz5,Zow fun t m=>h t (Zz2 _ m),Bool.and_self]
theorem Zox{n:Nat}: ∀{ts:List T},(∀t∈ts,PyData.depth (dd t)≤n)→PyData.depthAll (dds ts)≤n
 | [],_=>by simp[dds,PyData.depthAll]
 | t::ts,h=>by
  have h1:=h t Zz5
  have h2:=Zox fun t m=>h t (Zz2 _ m)
  simp only[dds,PyData.depthAll]
  omega
theorem Pln.dat{n:Nat}{t:T}(h:Pln n t): Zc9 n t=some (dd t)∧PyData.canLay0 (dd t)=true∧PyData.depth (dd t)≤n:=by
 induction h with
 | @none n=>cases n <;> exact⟨rfl,rfl,by simp[dd,PyData.depth]⟩
 | @int n i=>cases n <;> exact⟨rfl,rfl,by simp[dd,PyData.depth]⟩
 | @str n x h=>cases n <;> exact⟨rfl,by simpa [dd,PyData.canLay0]using h,by simp[dd,PyData.depth]⟩
 | @tup n ts _ ih=>
  refine⟨?_,?_,?_⟩
  ·simp only[Zc9,Zn2 fun t m=>(ih t m).1,Option.map_some,dd]
  ·simp only[dd,PyData.canLay0];exact Zow fun t m=>(ih t m).2.1
  ·simp only[dd,PyData.depth]
   have:=Zox fun t m=>(ih t m).2.2
   omega
 | @lst n ts _ ih=>
  refine⟨?_,?_,?_⟩
  ·simp only[Zc9,Zn2 fun t m=>(ih t m).1,Option.map_some,dd]
  ·simp only[dd,PyData.canLay0];exact Zow fun t m=>(ih t m).2.1
  ·simp only[dd,PyData.depth]
   have:=Zox fun t m=>(ih t m).2.2
   omega
theorem Zoy: ∀{ts us:List T},(∀t∈ts,∀u∈us,(PyData.eqv (dd t) (dd u)=true↔t=u))→(PyData.eqvAll (dds ts) (dds us)=true↔ts=us)
 | [],[],_=>by simp[dds,PyData.eqvAll]
 | [],_::_,_=>by simp[dds,PyData.eqvAll]
 | _::_,[],_=>by simp[dds,PyData.eqvAll]
 | t::ts,u::us,h=>by
  simp only[dds,PyData.eqvAll,Bool.and_eq_true,h t Zz5 u Zz5,Zoy fun t m u n=>h t (Zz2 _ m) u (Zz2 _ n),List.cons.injEq]
theorem Pln.eqv{n:Nat}{t:T}(h:Pln n t): ∀{m:Nat} {u:T},Pln m u→(PyData.eqv (dd t) (dd u)=true↔t=u):=by
 induction h with
 | none=>intro m u h;cases h <;> simp[dd,PyData.eqv]
 | int=>intro m u h;cases h <;> simp[dd,PyData.eqv]
 | str _=>intro m u h;cases h <;> simp[dd,PyData.eqv]
 | tup hs ih=>
  intro m u h
  cases h with
  | tup hu=>simp only[dd,PyData.eqv,T.tup.injEq];exact Zoy fun t a u b=>ih t a (hu u b)
  | none=>simp[dd,PyData.eqv]
  | int=>simp[dd,PyData.eqv]
  | str=>simp[dd,PyData.eqv]
  | lst=>simp[dd,PyData.eqv]
 | lst hs ih=>
  intro m u h
  cases h with
  | lst hu=>simp only[dd,PyData.eqv,T.lst.injEq];exact Zoy fun t a u b=>ih t a (hu u b)
  | none=>simp[dd,PyData.eqv]
  | int=>simp[dd,PyData.eqv]
  | str=>simp[dd,PyData.eqv]
  | tup=>simp[dd,PyData.eqv]
theorem Pln.mono{n:Nat}{t:T}(h:Pln n t): ∀{m:Nat},n≤m→Pln m t:=by
 induction h with
 | none=>intro m _;exact .none
 | int=>intro m _;exact .int
 | str h=>intro m _;exact .str h
 | tup hs ih=>
  intro m hm
  cases m with
  | zero=>omega
  | succ m=>exact .tup fun t a=>ih t a (by omega)
 | lst hs ih=>
  intro m hm
  cases m with
  | zero=>omega
  | succ m=>exact .lst fun t a=>ih t a (by omega)
theorem ZrU{n m:Nat}{a b:T}(ha:Pln n a)(hb:Pln m b)(hn:n≤8:=by decide)(hm:m≤8:=by decide): ZeK a b=some (dec (a=b)):=by
 have ha:=ha.mono hn
 have hb:=hb.mono hm
 obtain⟨a1,a2,a3⟩:=ha.dat
 obtain⟨b1,b2,b3⟩:=hb.dat
 unfold ZeK ZbS
 rw[a1,b1]
 simp only[Option.bind_some]
 rw[if_pos ⟨by simp only[SeqAt.shaped,a2,Bool.true_and,decide_eq_true_eq];omega,by simp only[SeqAt.shaped,b2,Bool.true_and,decide_eq_true_eq];omega⟩,Zjr (ha.eqv hb)]
section
variable {Q:T→Prop}
theorem Zfc{n m:Nat}{a b:T}(ha:Pln n a)(hb:Pln m b)(h:Q (.bool (dec (a=b))))(hn:n≤8:=by decide)(hm:m≤8:=by decide): Pk (qEq a b) Q:=⟨_,by simp only[qEq,ZrU ha hb hn hm,Option.map_some],h⟩
theorem ZoT{n m:Nat}{a b:T}(ha:Pln n a)(hb:Pln m b)(h:Q (.bool (!dec (a=b))))(hn:n≤8:=by decide)(hm:m≤8:=by decide): Pk (qNe a b) Q:=⟨_,by simp only[qNe,ZrU ha hb hn hm,Option.map_some],h⟩
end
theorem Ze5{α:Type}{n:Nat}{f:Nat→α}{x:α}(h:x∈tab n f): ∃i,i<n∧x=f i:=by
 obtain⟨i,hi,e⟩:=Zz11.mp h
 exact⟨i,List.mem_range.mp hi,e.symm⟩
theorem ZqT{n:Nat}{f:Nat→T}(h:∀i,i<n→(f i).flat=true): T.flats (tab n f)=true:=by
 have key:∀l:List T,(∀t∈l,t.flat=true)→T.flats l=true:=fun l=>by
  induction l with
  | nil=>intro _;rfl
  | cons t l ih=>intro h;simp only[T.flats,h t Zz5,ih fun t m=>h t (Zz2 _ m),Bool.and_self]
 exact key _ fun t m=>by obtain⟨i,hi,rfl⟩:=Ze5 m;exact h i hi
theorem Zml{n:Nat}{f:Nat→T}(h:∀i,i<n→(f i).flat=true): T.flatIn (.lst (tab n f))=true:=ZqT h
noncomputable def oT: Option Int→T
 | none=>.none
 | some x=>.int x
noncomputable def ZZ(q:Int×Int): T:=.tup [.int q.1,.int q.2]
noncomputable def ZsW(n:Nat)(x:Nat→Int): T:=.lst (tab n fun i=>.int (x i))
noncomputable def Zar(n:Nat)(b:Nat→Option Int): T:=.lst (tab n fun j=>oT (b j))
noncomputable def Zaj(n:Nat)(G:Nat→Nat→Option Int): T:=.lst (tab n fun i=>Zar n (G i))
noncomputable def Za3(n:Nat)(R:Nat→Int×Int): T:=.lst (tab n fun i=>ZZ (R i))
noncomputable def ZO(n:Nat)(G:Nat→Nat→Option Int)(R:Nat→Int×Int): T:=.tup [Zaj (n+1) G,Za3 n R]
theorem Zbx: oT none=.none:=rfl
theorem ZaH{c:Int}: oT (some c)=.int c:=rfl
theorem Zgb{b:Option Int}: (oT b).flat=true:=by cases b <;> rfl
theorem Zf0{q:Int×Int}: (ZZ q).flat=true:=rfl
theorem oT_inj{a b:Option Int}: oT a=oT b↔a=b:=by cases a <;> cases b <;> simp[oT]
theorem Zgh{n k:Nat}{f:Nat→T}(h:∀i,i<k→Pln n (f i)): Pln (n+1) (.lst (tab k f)):=.lst fun t m=>by obtain⟨i,hi,rfl⟩:=Ze5 m;exact h i hi
theorem ZhI{n:Nat}{b:Option Int}: Pln n (oT b):=by cases b;exact .none;exact .int
theorem Zsu{n:Nat}{q:Int×Int}: Pln (n+1) (ZZ q):=.tup fun t m=>by
 simp at m;rcases m with rfl | rfl <;> exact .int
theorem ZrV{n:Nat}{b:Nat→Option Int}: Pln 1 (Zar n b):=Zgh fun _ _=>ZhI
theorem ZwP{n:Nat}{G:Nat→Nat→Option Int}: Pln 2 (Zaj n G):=Zgh fun _ _=>ZrV
theorem ZwQ{n:Nat}{R:Nat→Int×Int}: Pln 2 (Za3 n R):=Zgh fun _ _=>Zsu
theorem Zn3{n:Nat}{G:Nat→Nat→Option Int}{R:Nat→Int×Int}: Pln 3 (ZO n G R):=.tup fun t m=>by
 simp at m;rcases m with rfl | rfl
 ·exact ZwP
 ·exact ZwQ
theorem ZbL{σ:TL}{i:Nat}{t:T}: Z8 σ i t i=some t:=by simp[Z8]
end TM
end
section
namespace PM
open PySem PySem.W PySem.Calls PyProof.Rows PyProof PyProof.Rows.LCg PyProof.Rows.LCp
noncomputable def sNo: Sm:=fun _ _=>none
noncomputable def inD(d:PyData): PyData→Option Bool
 | .list xs=>if PyData.canLayAll0 xs=true∧d.canLay0=true∧d.depth≤64 then some (xs.any fun y=>PyData.eqv y d)else none
 | .tuple xs=>if PyData.canLayAll0 xs=true∧d.canLay0=true∧d.depth≤64 then some (xs.any fun y=>PyData.eqv y d)else none
 | _=>none
noncomputable def Zpm(a b:V)(H:Hp): Option Bool:=(toD H ZbS a).bind fun d=>(toD H ZbS b).bind fun e=>inD d e
noncomputable def oIn(a b:V)(H:Hp): Option (V×Hp):=(Zpm a b H).map fun c=>(.bool c,H)
noncomputable def Zhx(a:Nat): Nx:=fun i H=>H[a]?.bind fun vs=>match vs[i]? with
 | some x=>some (some (.tup [.int i,x]))
 | none=>if i=vs.length then some none else none
noncomputable def ZjL(f:Ex): Src:=fun ρ H=>(f ρ H).bind fun p=>match p.1 with
 | .ref a=>p.2[a]?.map fun vs=>(Zhx a,vs.length+1,p.2)
 | _=>none
section
variable {prog:Program} {w:World} {Γ:Cx}
theorem ZzL{st:Stmt}: S1 prog w Γ st sNo:=fun W ρ H fr s Q E r rp hf post=>by cases hf
theorem Zfh: Op2 prog w (compareOp .In) oIn:=by
 intro Γ W ρ H fr s Q E a b x y v H' r hx hy ho post
 obtain⟨c,e1,e2⟩:=Zz1.mp ho
 cases e2
 obtain⟨d,h1,e1⟩:=Zz0.mp e1
 obtain⟨e,h2,e1⟩:=Zz0.mp e1
 obtain⟨as,R1⟩:=ZfP r ZbS a x d hx h1
 obtain⟨bs,R2⟩:=ZfP r ZbS b y e hy h2
 have hu:=Γ.hu
 unfold inD at e1
 split at e1
 ·split at e1
  ·rename_i hs
   cases e1
   exact SeqAt.in_list_reads R2 R1 hs.1 hs.2.1 (by omega) (post W s.heap s.toks _ (.refl W) r (.bool _))
  ·cases e1
 ·split at e1
  ·rename_i hs
   cases e1
   exact SeqAt.in_tuple_reads R2 R1 hs.1 hs.2.1 (by omega) (post W s.heap s.toks _ (.refl W) r (.bool _))
  ·cases e1
 ·cases e1
def ES(e it l:Addr)(i:Nat)(h:Heap): Prop:=(∃old,IsEnum h e it i old)∧h.IsListIter it l i
theorem ES.at{e it l:Addr}{i:Nat}{h h':Heap}(x:ES e it l i h)(k:∀a∈[e,it],∀o,h.get? a=some o→h'.get? a=some o): ES e it l i h':=by
 obtain⟨⟨old,h1⟩,h2⟩:=x
 exact⟨⟨old,k e (by simp) _ h1⟩,h2.at fun o x=>k it (by simp) o x⟩
theorem ES.have{e it l:Addr}{i:Nat}{h:Heap}(x:ES e it l i h): ∀a∈[e,it],∃o,h.get? a=some o:=by
 obtain⟨⟨old,h1⟩,o,h2,_⟩:=x
 intro a ha
 simp at ha
 rcases ha with rfl | rfl
 ·exact⟨_,h1⟩
 ·exact⟨_,h2⟩
def EIt(e it l:Addr)(i:Nat)(fs:List (Addr×Obj)): Prop:=fs.map (·.1)=[e,it]∧∀h:Heap,(∀q∈fs,h.get? q.1=some q.2)→ES e it l i h
theorem ZrW{e it l:Addr}{i:Nat}{h:Heap}(x:ES e it l i h): ∃fs,EIt e it l i fs∧∀q∈fs,h.get? q.1=some q.2:=by
 obtain⟨fs,h1,h2⟩:=Zpk h [e,it] x.have
 refine⟨fs,⟨h1,fun h' k=>x.at fun a ha o ho=>?_⟩,h2⟩
 rw[←h1]at ha
 obtain⟨q,hq,eq⟩:=Zz11.mp ha
 have:=h2 q hq
 rw[eq,ho]at this
 cases this
 exact eq▸k q hq
theorem ZxW{W0:Wd}{e it l:Addr}{a:Nat}(ea:W0.pi[a]?=some l)(hei:e≠it)(hle:l≠e)(hli:l≠it):
  Itr2 prog w Γ W0 (.ref e) [e,it] (EIt e it l) (Zhx a):=by
 refine⟨fun i fs h=>h.1,?_,?_,?_,?_⟩
 ·intro i H v hh
  obtain⟨vs,e1,hh⟩:=Zz0.mp hh
  split at hh
  ·cases hh
   exact⟨_,_,rfl⟩
  ·split at hh <;> cases hh
 ·intro i W ρ H fr fs s Q E va vb le r ap hit hn post
  obtain⟨vs,e1,hh⟩:=Zz0.mp hn
  have hv:va=.int i∧vs[i]?=some vb:=by
   split at hh
   ·rename_i x h1
    cases hh
    exact⟨rfl,h1⟩
   ·split at hh <;> cases hh
  obtain⟨_,xs,k1,g1,v1⟩:=r.at e1 (le.at ea)
  obtain⟨x,hx,rx⟩:=v1.at hv.2
  have st:ES e it l i s.heap:=hit.2 _ fun q hq=>r.frAt (Zz4 _ hq)
  have Wk:=WalksT.enumerate (prog:=prog) (w:=w) (A:=Γ.A) Γ.hh e it l hei hle hli xs.toArray
  have isl1:s.heap.IsList l xs.toArray:=⟨_,g1,rfl,k1,rfl⟩
  have hi:i<xs.toArray.size:=by
   have h1:=(Zz6.mp hx).1
   simpa using h1
  refine Wk.item i s Q E hi ⟨st.1,st.2,isl1⟩ fun T vals h1 t1 hp hT hTup hmid keep1=>post T h1 t1 ?_
  intro elts k pos s1 Q1 E1 es1 q1
  subst es1
  have hTw:=Wk.apart i T _ hmid
  refine Wk.go elts k pos i T _ Q1 E1 hmid fun h2 st2 keep2=>?_
  obtain⟨tk,x',hx',ev⟩:=hp
  have ex:x'=x:=by
   have:xs[i]?=some x':=by simpa using hx'
   rw[hx]at this
   exact(Option.some.inj this).symm
  subst ex ev
  obtain⟨fs',hit',at'⟩:=ZrW (h:=h2) (⟨st2.1,st2.2.1⟩:ES e it l (i+1) h2)
  obtain⟨oT,gT,cT,nT,dT⟩:=hTup
  refine q1 fs' h2 (.int i tk) x' hit' ?_ ⟨oT,keep2 T oT hTw gT,cT,nT,dT⟩ (by rw[hv.1];exact .int _ _) rx
  refine r.swap (fs':=fs') (fun q hq t ht=>?_) (fun c o hc e=>?_) fun q hq=>⟨at' q hq,?_⟩
  ·exact ap _ (hit.1▸List.mem_map_of_mem hq) t ht
  ·rw[hit.1]at hc
   exact keep2 c o hc (keep1 c o hc e)
  ·rw[hit.1,←hit'.1]
   exact List.mem_map_of_mem hq
 ·intro i W ρ H fr fs s Q E le r ap hit hn post
  obtain⟨vs,e1,hh⟩:=Zz0.mp hn
  obtain⟨_,xs,k1,g1,v1⟩:=r.at e1 (le.at ea)
  have hi:i=vs.length:=by
   split at hh
   ·cases hh
   ·split at hh
    ·assumption
    ·cases hh
  have st:ES e it l i s.heap:=hit.2 _ fun q hq=>r.frAt (Zz4 _ hq)
  have Wk:=WalksT.enumerate (prog:=prog) (w:=w) (A:=Γ.A) Γ.hh e it l hei hle hli xs.toArray
  have hm:xs.toArray.size=i:=by simp[v1.length,hi]
  refine Wk.done s Q E (by rw[hm];exact⟨st.1,st.2,⟨_,g1,rfl,k1,rfl⟩⟩) fun h' tk keep=>post h' tk ?_
  have:=r.swap (fs':=[]) (fun q hq t ht=>ap _ (hit.1▸List.mem_map_of_mem hq) t ht) (fun c o hc e=>keep c o (by rw[hit.1]at hc;exact hc) e) (fun q hq=>nomatch hq)
  exact this
 ·intro i W ρ H fr fs s Q E o le r hit hn q
  obtain⟨vs,e1,hh⟩:=Zz0.mp hn
  obtain⟨_,xs,k1,g1,v1⟩:=r.at e1 (le.at ea)
  have st:ES e it l i s.heap:=hit.2 _ fun q hq=>r.frAt (Zz4 _ hq)
  have Wk:=WalksT.enumerate (prog:=prog) (w:=w) (A:=Γ.A) Γ.hh e it l hei hle hli xs.toArray
  exact Wk.self i s Q E ⟨st.1,st.2,⟨_,g1,rfl,k1,rfl⟩⟩ q
theorem ZwR{x:Str}{np pos:Pos}{e1:Expr}{f:Ex}(hn:Nm prog w Γ x (.type "enumerate"))(h1:J prog w Γ e1 f)
  (he:starEach [e1] Γ.env=(false,eval e1 Γ.env)::starEach [] Γ.env:=by rfl) (hp:∀pos,(backTo pos (starEach [] Γ.env)).any (·.1)=false:=by intro _;rfl):JI2 prog w Γ (.Call (.Name x np) [e1] [] pos) (ZjL f):=by
 intro W ρ H fr s Q E nx n H' r hf post
 obtain⟨p,a1,hf⟩:=Zz0.mp hf
 refine wpAny_Call_ofName (hn.use r ?_)
 refine PySem.Pv.callWith_type1 (wpAny_items_cons (h1 W ρ H fr s _ E _ _ r a1 fun W1 k1 t1 y1 l1 r1 v1=>wpAny_items_nil ?_) he) he (hp pos)
 obtain⟨u1,H1⟩:=p
 simp only at hf v1 r1
 cases u1 <;> first | (cases hf;done) | skip
 rename_i b1
 obtain⟨vs,c1,c3⟩:=Zz1.mp hf
 cases c3
 cases v1 with
 | @ref _ m1 ea=>
 obtain⟨_,xs,n1,g1,w1⟩:=r1.at c1 ea
 have isl1:k1.IsList m1 xs.toArray:=⟨_,g1,rfl,n1,rfl⟩
 refine call_enumerate_list (s:={ s with heap:=k1,toks:=t1 }) isl1 fun h₁ hE hI hsz up=>?_
 have hlt:m1<k1.objs.size:=Heap.lt_size g1
 have Wk:=WalksT.enumerate (prog:=prog) (w:=w) (A:=Γ.A) Γ.hh (k1.objs.size+1) k1.objs.size m1 (Nat.succ_ne_self _) (Nat.ne_of_lt (Nat.lt_succ_of_lt hlt)) (Nat.ne_of_lt hlt) xs.toArray
 have zs:ES (k1.objs.size+1) k1.objs.size m1 0 h₁:=⟨⟨_,hE⟩,hI⟩
 refine Wk.self 0 _ _ _ ⟨⟨_,hE⟩,hI,isl1.at fun o e=>up _ o e⟩ ?_
 obtain⟨fs,hit,at'⟩:=ZrW zs
 obtain⟨r3,ap3⟩:=r1.more (fs:=fs) (h':=h₁) (fun b o e=>up b o e) (fun q hq=>⟨at' q hq,by
  have:q.1∈fs.map (·.1):=List.mem_map_of_mem hq
  rw[hit.1]at this
  simp at this
  rcases this with e | e <;> rw[e] <;> omega⟩)
 refine post W1 h₁ t1 _ _ _ fs l1 hit r3 (fun b hb t ht=>?_) (ZxW ea (Nat.succ_ne_self _) (Nat.ne_of_lt (Nat.lt_succ_of_lt hlt)) (Nat.ne_of_lt hlt)) ?_
 ·rw[←hit.1]at hb
  obtain⟨q,hq,e⟩:=Zz11.mp hb
  exact e▸ap3 q hq t ht
 ·simp only[Zhx,c1,Option.bind_some]
  cases q:vs[0]? with
  | some x=>exact⟨_,rfl⟩
  | none=>
   have:vs.length=0:=by simpa using q
   simp[this]
theorem Zza{e1 e2 e3:Expr}{es:List Expr}{pos:Pos}{f g:Ex}(h1:J prog w Γ e1 f)(h2:J prog w Γ (.BoolOp .And (e2::e3::es) pos) g) (he:eval (.BoolOp .And (e1::e2::e3::es) pos) Γ.env=(do
  let v ←eval e1 Γ.env
  standAt pos
  let t ←holding [v] (truthy v)
  match BoolOp.And,t with
  | .And,false | .Or,true=>pure v
  | _,_=>eval (.BoolOp .And (e2::e3::es) pos) Γ.env):=by rfl):J prog w Γ (.BoolOp .And (e1::e2::e3::es) pos) (ZdD f g):=by
 intro W ρ H fr s Q E v H' r hf post
 obtain⟨p,a1,hf⟩:=Zz0.mp hf
 obtain⟨b,a2,a3⟩:=Zz0.mp hf
 rw[he]
 refine wpAny_bind (wpAny_mono (h1 W ρ H fr s (fun x s₁=>wpAny (model prog w) Γ.A (truthy x) (fun t s₂=>if t then wpAny (model prog w) Γ.A (eval (.BoolOp .And (e2::e3::es) pos) Γ.env) Q E s₂ else Q x s₂) E s₁) E _ _ r a1 fun W1 k1 t1 x l1 r1 x1=>?_) (fun v s₁ h₁=>wpAny_bind (wpAny_standAt (wpAny_bind (wpAny_holding (wpAny_mono h₁ (fun t s₂ h₂=>?_) fun _ _ x=>x))))) fun _ _ x=>x)
 ·refine truth Γ W1 ρ _ fr _ _ E _ x b r1 x1 a2 fun W2 k2 t2 l2 r2=>?_
  cases b with
  | true=>exact h2 W2 ρ _ fr _ Q E _ H' r2 a3 fun W3 k3 t3 z l3 r3 z3=>post W3 k3 t3 z ((l1.trans l2).trans l3) r3 z3
  | false=>
   cases a3
   exact post W2 k2 t2 x (l1.trans l2) r2 (x1.mono l2)
 ·cases t with
  | false=>exact wpAny_pure h₂
  | true=>exact h₂
end
end PM
end
section
namespace TM
open PySem PM
noncomputable def Zfo(a b:T): Option Bool:=(Zc9 ZbS a).bind fun d=>(Zc9 ZbS b).bind fun e=>inD d e
noncomputable def qIn(a b:T): Option T:=(Zfo a b).map .bool
theorem Zzb{H:Hp}{v1 v2:V}{t1 t2:T}{F1 F2:List Nat}(r1:RF H v1 t1 F1)(r2:RF H v2 t2 F2): Zpm v1 v2 H=Zfo t1 t2:=by
 simp only[Zpm,Zfo,Zjq ZbS _ _ _ r1,Zjq ZbS _ _ _ r2]
theorem ZeL: OA2 oIn qIn:=fun H v1 v2 t1 t2 t F1 F2 r1 r2 h=>by
 obtain⟨c,h1,h⟩:=Zz1.mp h
 subst h
 exact⟨_,by simp only[oIn,Zzb r1 r2,h1,Option.map_some],.bool _⟩
theorem ZoU{d:T}: ∀{ts:List T},(∀t∈ts,(PyData.eqv (dd t) (dd d)=true↔t=d))→((dds ts).any fun y=>PyData.eqv y (dd d))=dec (d∈ts)
 | [],_=>by simp[dds,Zcq]
 | t::ts,h=>by
  have ih:=ZoU (d:=d) (ts:=ts) fun t m=>h t (Zz2 _ m)
  simp only[dds,List.any_cons,ih]
  symm
  apply Zjr
  rw[Bool.or_eq_true,h t Zz5,dec_iff]
  simp[eq_comm]
theorem Zzc{n m:Nat}{a:T}{ts:List T}(ha:Pln n a)(hb:Pln m (.lst ts))(hn:n≤8:=by decide)(hm:m≤8:=by decide): Zfo a (.lst ts)=some (dec (a∈ts)):=by
 have ha:=ha.mono hn
 have hb:=hb.mono hm
 obtain⟨a1,a2,a3⟩:=ha.dat
 obtain⟨b1,b2,b3⟩:=hb.dat
 unfold Zfo ZbS
 rw[a1,b1]
 simp only[Option.bind_some,dd,inD]
 simp only[dd,PyData.canLay0]at b2
 rw[if_pos ⟨b2,a2,by omega⟩,ZoU]
 intro t m
 cases hb with
 | lst hs=>exact(hs t m).eqv ha
section
variable {Q:T→Prop}
theorem ZjM{n m:Nat}{a:T}{ts:List T}(ha:Pln n a)(hb:Pln m (.lst ts))(h:Q (.bool (dec (a∈ts))))(hn:n≤8:=by decide)(hm:m≤8:=by decide): Pk (qIn a (.lst ts)) Q:=⟨_,by simp only[qIn,Zzc ha hb hn hm,Option.map_some],h⟩
end
noncomputable def Zfi(ts:List T): List T:=List.zipWith (fun i t=>.tup [.int (i:Nat),t]) (List.range ts.length) ts
noncomputable def ZjN(p:PE): PG:=fun σ=>(p σ).bind fun t=>match t with
 | .lst ts=>some (Zfi ts)
 | _=>none
theorem ZwS{ts:List T}: (Zfi ts).length=ts.length:=by simp[Zfi]
theorem Zrk{H:Hp}: ∀{vs:List V} {ts:List T} {F:List Nat} (k:Nat),RFs H vs ts F→RFs H (List.zipWith (fun i v=>V.tup [.int (i:Nat),v]) (List.range' k ts.length) vs) (List.zipWith (fun i t=>T.tup [.int (i:Nat),t]) (List.range' k ts.length) ts) F
 | _,_,_,_,.nil=>.nil
 | _,_,_,k,.cons a b=>by
  rw[List.length_cons,List.range'_succ]
  have h1:RF H (V.tup [.int (k:Nat),_]) (T.tup [.int (k:Nat),_]) _:=.tup (.cons (.int _) (.one a))
  simpa using RFs.cons h1 (Zrk (k+1) b)
theorem ZxX{O N:List Nat}{u:Bool}{e:Ex}{p:PE}(x:E O N u e p): Gs O N (ZjL e) (ZjN p):=fun c ρ σ H Φ ts s h=>by
 obtain⟨t1,h1,h⟩:=Zz0.mp h
 obtain⟨v,X,F,a1,a2,a3,a4⟩:=x c ρ σ H Φ t1 s h1
 have hlt:=a2.lt
 cases a2 with
 | none=>cases h
 | bool=>cases h
 | int=>cases h
 | str=>cases h
 | tup=>cases h
 | @ref b vs us F' e1 hs=>
  cases h
  have hl:=hs.length
  refine⟨Zhx b,X,List.zipWith (fun i v=>V.tup [.int (i:Nat),v]) (List.range us.length) vs,F',b::F',by simp only[ZjL,a1,Option.bind_some,e1,Option.map_some,ZwS,hl],?_,fun _ m=>List.mem_cons_of_mem _ m,fun a m=>⟨hlt a m,a3 a m⟩,fun K hK i hi=>?_⟩
  ·have:=Zrk 0 hs
   unfold Zfi
   rw[List.range_eq_range']
   exact this
  ·simp only[Zhx,hK b Zz5,e1,Option.bind_some,List.getElem?_zipWith]
   simp only[List.length_zipWith,List.length_range]at hi
   by_cases q:i<vs.length
   ·rw[List.getElem?_eq_getElem q,List.getElem?_range (by omega)]
   ·rw[List.getElem?_eq_none (by omega),List.getElem?_eq_none (by simp;omega)]
    simp
    omega
theorem ZwT{n:Nat}{f:Nat→T}: Zfi (tab n f)=tab n fun i=>.tup [.int (i:Nat),f i]:=by
 unfold Zfi
 rw[Zay]
 have:List.range n=tab n fun i=>i:=by simp[tab]
 rw[this,ZrQ,Nat.min_self]
section
variable {σ:TL} {L:List T→Prop}
def EnP(x:T)(L:List T→Prop): Prop:=∃ts,x=.lst ts∧L (Zfi ts)
theorem ZxY{f:PE}(h:Pk (f σ) fun t=>EnP t L): Pl (ZjN f σ) L:=by
 obtain⟨t,a,ts,rfl,q⟩:=h;exact⟨_,by simp only[ZjN,a,Option.bind_some],q⟩
theorem ZxZ{n:Nat}{f:Nat→T}(h:L (TM.tab n fun i=>.tup [.int (i:Nat),f i])): EnP (.lst (TM.tab n f)) L:=⟨_,rfl,by rw[ZwT];exact h⟩
end
noncomputable def ZjO(g:PG)(put:T→TL→Option TL)(b:PS): PS:=fun σ=>(g σ).bind fun ts=>if ts=[]then none else Zfn put b σ ts
end TM
end
section
namespace PM
open PySem PySem.W PySem.Calls PyProof.Rows PyProof
noncomputable def Zhy(o1 o2:V→V→Hp→Option (V×Hp))(f g h:Ex): Ts:=fun ρ H=>(f ρ H).bind fun p=>(g ρ p.2).bind fun q=>(o1 p.1 q.1 q.2).bind fun u=>(Zc0 u.1 u.2).bind fun b=>if b then(h ρ u.2).bind fun x=>(o2 q.1 x.1 x.2).bind fun y=>(Zc0 y.1 y.2).map fun c=>(c,y.2)else some (false,u.2)
section
variable {prog:Program} {w:World} {Γ:Cx}
theorem ZwU{e1 e2 e3:Expr}{op1 op2:CmpOp}{pos:Pos}{f g h:Ex}{o1 o2:V→V→Hp→Option (V×Hp)}(h1:J prog w Γ e1 f)(h2:J prog w Γ e2 g)(h3:J prog w Γ e3 h)(k1:Op2 prog w (compareOp op1) o1)(k2:Op2 prog w (compareOp op2) o2)(hm:lastMarks [op1,op2] [e2,e3]=false:=by with_unfolding_all rfl): JT prog w Γ (.Compare e1 [op1,op2] [e2,e3] pos) (Zhy o1 o2 f g h):=by
 intro W ρ H fr s Q E b H' r hf post
 obtain⟨p,a1,hf⟩:=Zz0.mp hf
 obtain⟨q,a2,hf⟩:=Zz0.mp hf
 obtain⟨u,a3,hf⟩:=Zz0.mp hf
 obtain⟨c,a4,hf⟩:=Zz0.mp hf
 refine isTrue_chain (h1 W ρ H fr s _ E _ _ r a1 fun W1 n1 t1 x l1 r1 x1=>?_) hm
 refine test_link (h2 W1 ρ _ fr _ _ E _ _ r1 a2 fun W2 n2 t2 y l2 r2 y2=>?_)
 refine k1 Γ W2 ρ _ fr _ _ E _ _ x y _ _ r2 (x1.mono l2) y2 a3 fun W3 n3 t3 z l3 r3 z3=>?_
 refine truth Γ W3 ρ _ fr _ _ E _ z c r3 z3 a4 fun W4 n4 t4 l4 r4=>?_
 cases c with
 | false=>
  cases hf
  exact post W4 n4 t4 (((l1.trans l2).trans l3).trans l4) r4
 | true=>
  simp only[if_true]at hf
  obtain⟨v,a5,hf⟩:=Zz0.mp hf
  obtain⟨v2,a6,hf⟩:=Zz0.mp hf
  obtain⟨d,a7,a8⟩:=Zz1.mp hf
  cases a8
  refine test_last (h3 W4 ρ _ fr _ _ E _ _ r4 a5 fun W5 n5 t5 y5 l5 r5 x5=>?_)
  refine k2 Γ W5 ρ _ fr _ _ E _ _ y y5 _ _ r5 (((y2.mono l3).mono l4).mono l5) x5 a6 fun W6 n6 t6 z6 l6 r6 x6=>?_
  exact truth Γ W6 ρ _ fr _ _ E _ z6 b r6 x6 a7 fun W7 n7 t7 l7 r7=>post W7 n7 t7 ((((((l1.trans l2).trans l3).trans l4).trans l5).trans l6).trans l7) r7
end
end PM
end
section
namespace TM
open PySem PM
section
variable {O N M K:List Nat} {u u' u'':Bool}
noncomputable def Zhz(q1 q2:T→T→Option T)(p1 p2 p3:PE): PB:=fun σ=>(p1 σ).bind fun x=>(p2 σ).bind fun y=>(q1 x y).bind fun z=>(Zb2 z).bind fun b=>if b then(p3 σ).bind fun v=>(q2 y v).bind Zb2 else some false
theorem ZwV{e1 e2 e3:Ex}{p1 p2 p3:PE}{q1 q2:T→T→Option T}{o1 o2:V→V→Hp→Option (V×Hp)}(k1:OA2 o1 q1)(k2:OA2 o2 q2)(x:E O N u e1 p1)(y:E O M u' e2 p2)(z:E O K u'' e3 p3): Bt O (Zhy o1 o2 e1 e2 e3) (Zhz q1 q2 p1 p2 p3):=fun c ρ σ H Φ b s h=>by
 obtain⟨t1,h1,h⟩:=Zz0.mp h
 obtain⟨t2,h2,h⟩:=Zz0.mp h
 obtain⟨t3,h3,h⟩:=Zz0.mp h
 obtain⟨b0,h4,h⟩:=Zz0.mp h
 obtain⟨v1,X,F,a1,a2,_,_⟩:=x c ρ σ H Φ t1 s h1
 obtain⟨v2,Y,G,b1,b2,_,_⟩:=y c ρ σ (H++X) Φ t2 (s.ext X) h2
 obtain⟨v3,c1,c2⟩:=k1 _ v1 v2 t1 t2 t3 F G (a2.ext Y) b2 h3
 have d1:=Zeu c2 h4
 cases b0 with
 | false=>
  cases h
  exact⟨X++Y,by simp only[Zhy,a1,b1,Option.bind_some,c1,d1];simp⟩
 | true=>
  simp only[if_true]at h
  obtain⟨t5,h5,h⟩:=Zz0.mp h
  obtain⟨t6,h6,h⟩:=Zz0.mp h
  obtain⟨v5,Z,F5,e1,e2,_,_⟩:=z c ρ σ (H++X++Y) Φ t5 ((s.ext X).ext Y) h5
  obtain⟨v6,f1,f2⟩:=k2 _ v2 v5 t2 t5 t6 G F5 (b2.ext Z) e2 h6
  have g1:=Zeu f2 h
  exact⟨X++Y++Z,by simp only[Zhy,a1,b1,Option.bind_some,c1,d1,if_true,e1,f1,g1,Option.map_some];simp⟩
def OIn(o:List V→Hp→Option (V×Hp))(q:List T→Option T): Prop:=∀(H:Hp) (vs:List V) (ts:List T) (t:T) (F1:List Nat),RFs H vs ts F1→q ts=some t→∃v F,o vs H=some (v,H)∧RF H v t F∧F.Sublist F1
theorem Zx0{n:Nat}{es:Exs}{ps:PEs}{q:List T→Option T}{o:List V→Hp→Option (V×Hp)}(k:OIn o q)(x:Es O N u n es ps): E O N u (Zs o es) (Zv q ps):=fun c ρ σ H Φ t s h=>by
 obtain⟨ts,h1,h⟩:=Zz0.mp h
 obtain⟨_,vs,X,F,a1,a2,a3,a4⟩:=x c ρ σ H Φ ts s h1
 obtain⟨w,G,b1,b2,b3⟩:=k _ vs ts t F a2 h
 exact⟨w,X,G,by simp only[Zs,a1,Option.bind_some,b1],b2,fun a m=>a3 a (b3.subset m),fun hu=>(a4 hu).sublist b3⟩
theorem ZwW: OIn Zf6 Zot:=fun H vs ts t F r h=>by
 unfold Zot at h
 split at h
 ·obtain⟨v,rfl,r'⟩:=r.one_inv
  cases r' with
  | @ref a vs1 _ F1 e hs=>cases h;exact⟨.tup vs1,F1,by simp only[Zf6,e,Option.map_some],.tup hs,List.sublist_cons_self _ _⟩
 ·obtain⟨v,rfl,r'⟩:=r.one_inv
  cases r' with
  | @tup vs1 _ _ hs=>cases h;exact⟨.tup vs1,_,by simp only[Zf6],.tup hs,List.Sublist.refl _⟩
 ·cases h
end
theorem Zzd{O O1 R J Ns:List Nat}{fr:Bool}{g:Src}{q:PG}{put:V→Lc→Option Lc}{pput:T→TL→Option TL}{b:Sm}{qb:PS}(hg:Gs O Ns g q)(hj:PutOk O J put pput)(hj1:PutOk O1 J put pput)(hJ:∀i∈J,i∉O)(hJ1:∀i∈J,i∉O1)(hN:∀i∈Ns,i∉O)(hb:S O O1 R fr b qb)(hb1:S O1 O1 R fr b qb): S O O1 R fr (ZaK g put b) (ZjO q pput qb):=fun c ρ σ H Φ r s h=>by
 obtain⟨ts,h1,h⟩:=Zz0.mp h
 obtain⟨nx,X,vs,F,G,g1,g2,g3,g4,g5⟩:=hg c ρ σ H Φ ts s h1
 split at h
 ·cases h
 ·rename_i hne
  cases ts with
  | nil=>exact absurd rfl hne
  | cons t rs=>
   cases g2 with
   | @cons v _ F1 ws _ F2 a b'=>
   have sx:=s.ext X
   have hsrc:∀a∈G,c.H0.length≤a∨c.P a:=fun a m=>s.from_src (g4 a m).2
   have hoff:∀a∈G,¬Held O σ Φ a:=fun a m ⟨k,hk,⟨t,e⟩,q⟩=>s.from_off hN (g4 a m).2 hk e q
   obtain⟨σ1,p0,h⟩:=Zz0.mp h
   obtain⟨r1,h2,h⟩:=Zz0.mp h
   obtain⟨ρ1,Φ1,p1,s1,p3,p4⟩:=hj c ρ σ (H++X) Φ v t F1 σ1 sx a (fun x m=>hsrc x (g3 x (Zz4 _ m))) (fun k hk t' e x m q=>hoff x (g3 x (Zz4 _ q)) ⟨k,hk,⟨t',e⟩,m⟩) p0
   have hh:∀x,Held O σ1 Φ1 x→Held O σ Φ x:=fun x ⟨k,hk,⟨t',e⟩,m⟩=>by
    obtain⟨q1,q2⟩:=p3 k fun q=>hJ k q hk
    exact⟨k,hk,⟨t',q1▸e⟩,q2▸m⟩
   obtain⟨ρ2,K2,Φ2,w1,w2,w3⟩:=hb c ρ1 σ1 (H++X) Φ1 r1 s1 h2
   have e0:nx 0 (H++X)=some (some v):=by have:=g5 (H++X) (fun _ _=>rfl) 0 (Nat.zero_le _);simpa using this
   have estep:ZaK g put b ρ H=(b ρ1 (H++X)).bind fun q=>match q.1 with
     | some _=>some q
     | none=>ZdA nx put b (rs.length+1) 1 q.2.1 q.2.2:=by
    simp only[ZaK,g1,Option.bind_some,List.length_cons]
    show(nx 0 (H++X)).bind _=_
    rw[e0]
    first | (simp only[Option.bind_some,p1];done) | (simp only[Option.bind_some,p1];rfl)
   rw[estep]
   refine Aft.grow (X:=X) ?_
   rcases w3 with⟨k1,k2,k3,k4⟩ | ⟨t',v',F',k1,k2,k3⟩
   ·rw[k1]at h
    have hG2:∀a∈G,K2[a]?=(H++X)[a]?:=fun x m=>w2 x (g4 x m).1 fun q=>hoff x m (hh x q)
    have hoff2:∀a∈G,¬Held O1 r1.2 Φ2 a:=fun x m q=>by
     rcases k4 x q with q | q
     ·have:=(g4 x m).1;omega
     ·exact hoff x m (hh x q)
    have ih:=Zn0 hj1 hJ1 hb1 (H1:=H++X) (fun a m=>(g4 a m).1) hsrc g5 rs ws 1 ρ2 r1.2 K2 Φ2 F2 r (fun j=>by rw[Nat.add_comm];simp) (by simp;omega) k3 w1 hG2 hoff2 (b'.frame fun x m=>hG2 x (g3 x (Zz3 _ m))) (fun x m=>g3 x (Zz3 _ m)) h
    rw[k2]
    simp only[Option.bind_some]
    obtain⟨ρ3,K3,Φ3,l1,l2,l3⟩:=ih
    refine⟨ρ3,K3,Φ3,by omega,fun x hx hn=>?_,?_⟩
    ·rw[l2 x (by omega) fun q=>(k4 x q).elim (fun q=>by omega) fun q=>hn (hh x q),w2 x hx fun q=>hn (hh x q)]
    ·rcases l3 with⟨m1,m2,m3,m4⟩ | l
     ·refine .inl ⟨m1,m2,m3,fun x q=>?_⟩
      rcases m4 x q with q | q
      ·exact .inl (by omega)
      ·exact(k4 x q).imp id (hh x)
     ·exact .inr l
   ·rw[k1]at h
    cases h
    refine⟨ρ2,K2,Φ2,w1,fun x hx hn=>w2 x hx fun q=>hn (hh x q),.inr ⟨t',v',F',k1,?_,k3⟩⟩
    rw[k2]
    rfl
section
variable {σ:TL} {Q:T→Prop} {B:Bool→Prop} {R:T→Prop} {N:TL→Prop}
theorem ZwX{q1 q2:T→T→Option T}{f g h:PE}(k:Pk (f σ) fun x=>Pk (g σ) fun y=>Pk (q1 x y) fun z=>Pb (Zb2 z) fun b=>(b=true→Pk (h σ) fun v=>Pk (q2 y v) fun w=>Pb (Zb2 w) B)∧(b=false→B false)): Pb (Zhz q1 q2 f g h σ) B:=by
 obtain⟨x,a1,y,a2,z,a3,b,a4,k1,k2⟩:=k
 cases b with
 | false=>exact⟨false,by simp[Zhz,a1,a2,a3,a4],k2 rfl⟩
 | true=>
  obtain⟨v,b1,w,b2,c,b3,q⟩:=k1 rfl
  exact⟨c,by simp[Zhz,a1,a2,a3,a4,b1,b2,b3],q⟩
theorem Zx1{g:PG}{j n:Nat}{a:Nat→T}{b:PS}(hn:0<n)(hg:Pl (g σ) fun ts=>ts=tab n a)(P:Nat→TL→Prop)(h0:P 0 σ)(h1:∀i σ,i<n→P i σ→Psk (b (Z8 σ j (a i))) R (P (i+1)))(h2:∀σ,P n σ→N σ): Psk (ZjO g (Zae j) b σ) R N:=by
 obtain⟨o,s,e,q⟩:=Zb4 (R:=R) (N:=N) (b:=b) (j:=j) hg P h0 h1 h2
 obtain⟨ts,e1,rfl⟩:=hg
 refine⟨o,s,?_,q⟩
 have hne:tab n a≠[]:=fun h=>by have:=congrArg List.length h;rw[Zay]at this;simp at this;omega
 simp only[ZjO,e1,Option.bind_some,hne,if_false]
 simpa only[ZaD,e1,Option.bind_some]using e
end
end TM
end
section
namespace TM
open PySem PM
theorem ZvU{fr:Bool}: SimF fr (fun _ _=>none) (fun _=>none):=by
 intro H vs ts t F1 hp r h
 cases h
end TM
end
section
namespace TM
open PySem PM
def Keep0(g:Sm): Prop:=∀ρ H r,g ρ H=some r→r.2.1 0=ρ 0
theorem Keep0.next: Keep0 Z0:=fun ρ H r h=>by cases h;rfl
theorem ZiK{e:Ex}: Keep0 (Zb9 e):=fun ρ H r h=>by
 obtain⟨_,_,q⟩:=Zz1.mp h
 subst q;rfl
theorem Keep0.ret{e:Ex}: Keep0 (ZE e):=fun ρ H r h=>by
 obtain⟨_,_,q⟩:=Zz1.mp h
 subst q;rfl
theorem Keep0.put{f o i:Ex}: Keep0 (Zbl f o i):=fun ρ H r h=>by
 obtain⟨_,_,h⟩:=Zz0.mp h
 obtain⟨_,_,h⟩:=Zz0.mp h
 obtain⟨_,_,h⟩:=Zz0.mp h
 obtain⟨_,_,q⟩:=Zz1.mp h
 subst q;rfl
theorem Keep0.seq{a b:Sm}(x:Keep0 a)(y:Keep0 b): Keep0 (Zu a b):=fun ρ H r h=>by
 obtain⟨r1,e1,h⟩:=Zz0.mp h
 have h1:=x ρ H r1 e1
 split at h
 ·cases h;exact h1
 ·exact(y _ _ _ h).trans h1
theorem ZiL{t:Ts}{a b:Sm}(x:Keep0 a)(y:Keep0 b): Keep0 (ZW t a b):=fun ρ H r h=>by
 obtain⟨p,_,h⟩:=Zz0.mp h
 split at h
 ·exact x _ _ _ h
 ·exact y _ _ _ h
theorem Keep0.set{i:Nat}{e:Ex}(hi:0≠i): Keep0 (ZL i e):=fun ρ H r h=>by
 obtain⟨_,_,q⟩:=Zz1.mp h
 subst q
 simp[upd,hi]
def SimM(f:List V→Hp→Option (V×Hp))(p:List T→Option T): Prop:=∀(H:Hp) (v:V) (vs:List V) (t:T) (ts:List T) (t':T) (F0 F1:List Nat),0<H.length→RF H v t F0→F0.Nodup→0∉F0→RFs H vs ts F1→(∀a∈F0,a∉F1)→p (t::ts)=some t' →
 ∃w H' F',f (v::vs) H=some (w,H')∧H.length≤H'.length∧(∀a,a<H.length→a∉F0→H'[a]?=H[a]?)∧RF H' v t' F'∧F'.Nodup∧∀a∈F',H.length≤a∨a∈F0
noncomputable def ZeM(n:Nat)(q:PS): List T→Option T:=fun ts=>if ts.length=n then(q fun i=>ts[i]?).bind fun r=>r.2 0 else none
theorem Zjb{O':List Nat}{n:Nat}{g:Sm}{q:PS}(h:S [0] O' [0] false g q)(h0:0∈O')(hk:Keep0 g): SimM (Z5 n g) (ZeM n q):=fun H v vs t ts t' F0 F1 hp r0 nd n0 rs dj e=>by
 unfold ZeM at e
 split at e
 ·rename_i hl
  obtain⟨r1,e1,e2⟩:=Zz0.mp e
  obtain⟨Φ,hΦ⟩:=rs.slots
  have st:St ⟨H,F0,fun a=>a∈F0∨a∈F1⟩ [0] (fun i=>(v::vs)[i]?) (fun i=>(t::ts)[i]?) H (fun i=>match i with | 0=>F0 | i+1=>Φ i):=by
   refine⟨fun i u e=>?_,fun i u e a m=>?_,fun i hi u e=>?_,Nat.le_refl _,fun a _ _=>rfl,hp,n0⟩
   ·cases i with
    | zero=>simp at e;subst e;exact⟨v,rfl,r0⟩
    | succ i=>
     simp at e
     obtain⟨w,h1,h2,_⟩:=hΦ i u e
     exact⟨w,by simpa using h1,h2⟩
   ·cases i with
    | zero=>exact .inr (.inl m)
    | succ i=>
     simp at e
     obtain⟨w,h1,h2,h3⟩:=hΦ i u e
     exact .inr (.inr (h3 a m))
   ·have:i=0:=by simpa using hi
    subst this
    refine⟨nd,fun a m=>.inr m,fun j u' hj ej a m=>?_⟩
    cases j with
    | zero=>exact absurd rfl hj
    | succ j=>
     simp at ej
     obtain⟨w,h1,h2,h3⟩:=hΦ j u' ej
     exact fun q=>dj a m (h3 a q)
  obtain⟨ρ',H',Φ',h1,h2,h3⟩:=h _ _ _ _ _ _ st e1
  have hv:(v::vs).length=n:=by rw[←hl];simp[rs.length]
  have go:∀(o:Option V) (O2:List Nat),0∈O2→g (fun i=>(v::vs)[i]?) H=some (o,ρ',H')→St ⟨H,F0,fun a=>a∈F0∨a∈F1⟩ O2 ρ' r1.2 H' Φ'→∃w H' F',Z5 n g (v::vs) H=some (w,H')∧H.length≤H'.length∧(∀a,a<H.length→a∉F0→H'[a]?=H[a]?)∧RF H' v t' F'∧F'.Nodup∧∀a∈F',H.length≤a∨a∈F0:=by
   intro o O2 hO eg s2
   obtain⟨v',ev,rv⟩:=s2.slot 0 t' e2
   have kk:=hk _ _ _ eg
   have:v'=v:=by
    have k2:ρ' 0=some v:=kk
    rw[ev]at k2
    cases k2
    rfl
   subst this
   obtain⟨o1,o2,_⟩:=s2.own 0 hO t' e2
   exact⟨o.getD .none,H',Φ' 0,by simp only[Z5,hv,if_true,eg,Option.map_some],h1,s2.keep,rv,o1,o2⟩
  rcases h3 with⟨k1,k2,k3,k4⟩ | ⟨u,v',F',k1,k2,k3,k4,k5,k6⟩
  ·exact go none O' h0 k2 k3
  ·exact go (some v') [0] List.mem_cons_self k2 k4
 ·cases e
noncomputable def ZdP(x:Nat)(p:List T→Option T)(ps:PEs): PS:=fun σ=>(ps σ).bind fun ts=>(σ x).bind fun t=>(p (t::ts)).map fun t'=>(none,Z8 σ x t')
section
variable {O O' R N:List Nat} {fr u:Bool}
theorem Zfd{x n:Nat}{f:List V→Hp→Option (V×Hp)}{p:List T→Option T}{es:Exs}{ps:PEs}(hx:x∈O)(k:SimM f p)(y:Es O N u n es ps)(hN:x∉N)(hO:∀j∈O',j∈O): S O O' R fr (Zb9 (Zs f (Ze (Zb x) es))) (ZdP x p ps):=fun c ρ σ H Φ r s q=>by
 obtain⟨ts,h1,q⟩:=Zz0.mp q
 obtain⟨t,h2,q⟩:=Zz0.mp q
 obtain⟨t',h3,q⟩:=Zz1.mp q
 subst q
 obtain⟨v,ev,rv⟩:=s.slot x t h2
 obtain⟨o1,o2,o3⟩:=s.own x hx t h2
 have hlow:∀k t,σ k=some t→∀a∈Φ k,a<H.length:=fun k t e a m=>by
  obtain⟨_,_,r⟩:=s.slot k t e
  exact r.lt a m
 obtain⟨_,vs,X,F,a1,a2,a3,_⟩:=y c ρ σ H Φ ts s h1
 have hp:0<(H++X).length:=by have:=s.pos;have:=s.len;rw[List.length_append];omega
 have hlen:(H++X).length=H.length+X.length:=List.length_append
 have dj:∀a∈Φ x,a∉F:=fun a m q=>by
  rcases a3 a q with h | ⟨j,hj,⟨tj,ej⟩,mj⟩
  ·have:=hlow x t h2 a m;omega
  ·exact o3 j tj (fun e=>hN (e▸hj)) ej a m mj
 obtain⟨w,H',F',b1,b2,b3,b4,b5,b6⟩:=k (H++X) v vs t ts t' (Φ x) F hp (rv.ext X) o1 (fun m=>Zou s hx h2 m rfl) a2 dj h3
 have same:∀a,a<H.length→a∉Φ x→H'[a]?=H[a]?:=fun a ha hn=>by
  rw[b3 a (by omega) hn,List.getElem?_append_left ha]
 have eg:Zb9 (Zs f (Ze (Zb x) es)) ρ H=some (none,ρ,H'):=by
  simp only[Zb9,Zs,Ze,Zb,ev,Option.map_some,Option.bind_some,a1,b1]
 refine⟨ρ,H',Zam Φ x F',by omega,fun a ha hn=>same a ha fun m=>hn ⟨x,hx,⟨t,h2⟩,m⟩,.inl ⟨rfl,eg,⟨fun i u' e=>?_,fun i u' e a m=>?_,fun i hi u' e=>?_,by have:=s.len;omega,fun a ha hn=>?_,s.pos,s.f0⟩,fun a hh=>?_⟩⟩
 ·by_cases c1:i=x
  ·subst c1
   simp only[Z8,if_true,Option.some.injEq]at e
   subst e
   exact⟨v,ev,by simpa [Zam]using b4⟩
  ·simp only[Z8,c1,if_false]at e
   obtain⟨v2,e2,r2⟩:=s.slot i u' e
   refine⟨v2,e2,?_⟩
   simp only[Zam,c1,if_false]
   exact r2.frame fun a m=>same a (hlow i u' e a m) fun q=>o3 i u' c1 e a q m
 ·by_cases c1:i=x
  ·subst c1
   simp only[Zam,if_true]at m
   rcases b6 a m with h | h
   ·exact .inl (by have:=s.len;omega)
   ·exact s.src i t h2 a h
  ·simp only[Z8,c1,if_false]at e
   simp only[Zam,c1,if_false]at m
   exact s.src i u' e a m
 ·by_cases c1:i=x
  ·subst c1
   refine⟨by simpa [Zam]using b5,fun a m=>?_,fun j u2 hj ej a m=>?_⟩
   ·simp only[Zam,if_true]at m
    rcases b6 a m with h | h
    ·exact .inl (by have:=s.len;omega)
    ·exact o2 a h
   ·simp only[Zam,if_true]at m
    simp only[Z8,hj,if_false]at ej
    simp only[Zam,hj,if_false]
    intro q
    have hq:=hlow j u2 ej a q
    rcases b6 a m with h | h
    ·omega
    ·exact o3 j u2 hj ej a h q
  ·simp only[Z8,c1,if_false]at e
   obtain⟨q1,q2,q3⟩:=s.own i (hO i hi) u' e
   refine⟨by simpa [Zam,c1]using q1,fun a m=>?_,fun j u2 hj ej a m=>?_⟩
   ·simp only[Zam,c1,if_false]at m
    exact q2 a m
   ·simp only[Zam,c1,if_false]at m
    by_cases c2:j=x
    ·subst c2
     simp only[Zam,if_true]
     intro q
     have hm:=hlow i u' e a m
     rcases b6 a q with h | h
     ·omega
     ·exact q3 j t hj h2 a m h
    ·simp only[Z8,c2,if_false]at ej
     simp only[Zam,c2,if_false]
     exact q3 j u2 hj ej a m
 ·have hs:=s.keep a ha hn
  rw[same a (by have:=s.len;omega) fun m=>?_]
  ·exact hs
  ·rcases o2 a m with h | h
   ·omega
   ·exact hn h
 ·obtain⟨j,hj,⟨u',e⟩,m⟩:=hh
  by_cases c1:j=x
  ·subst c1
   simp only[Zam,if_true]at m
   rcases b6 a m with h | h
   ·exact .inl (by omega)
   ·exact .inr ⟨j,hx,⟨t,h2⟩,h⟩
  ·simp only[Z8,c1,if_false]at e
   simp only[Zam,c1,if_false]at m
   exact .inr ⟨j,hO j hj,⟨u',e⟩,m⟩
end
section
variable {σ:TL} {R:T→Prop} {N:TL→Prop}
theorem Zze{x:Nat}{p:List T→Option T}{ps:PEs}{t:T}(e:σ x=some t)(h:Pl (ps σ) fun ts=>Pk (p (t::ts)) fun t'=>N (Z8 σ x t')): Psk (ZdP x p ps σ) R N:=by
 obtain⟨ts,e1,t',e2,q⟩:=h
 exact⟨none,Z8 σ x t',by simp only[ZdP,e1,e,Option.bind_some,e2,Option.map_some],by simp,fun _=>q⟩
theorem Zx2{n:Nat}{q:PS}{ts:List T}{Q:T→Prop}(hn:ts.length=n)(h:Psk (q fun i=>ts[i]?) (fun _=>False) fun σ=>∃t,σ 0=some t∧Q t): Pk (ZeM n q ts) Q:=by
 obtain⟨o,s,e,h1,h2⟩:=h
 cases o with
 | none=>
  obtain⟨t,e2,q2⟩:=h2 rfl
  exact⟨t,by simp only[ZeM,hn,if_true,e,Option.bind_some,e2],q2⟩
 | some u=>exact absurd (h1 u rfl) (by simp)
end
end TM
end
section
namespace TM
open PySem PM
section
variable {O N M:List Nat}
theorem Zzf{e1 e2:Ex}{p1 p2:PE}(x:E O N true e1 p1)(y:E O M true e2 p2)(hN:∀i∈N,i∈O)(hM:∀i∈N,i∉M): E O (N++M) true (Zh Zaf e1 e2) (Zg Zad p1 p2):=fun c ρ σ H Φ t s h=>by
 obtain⟨t1,h1,h⟩:=Zz0.mp h
 obtain⟨t2,h2,h⟩:=Zz0.mp h
 obtain⟨v1,X,F1,a1,a2,a3,a4⟩:=x c ρ σ H Φ t1 s h1
 obtain⟨v2,Y,F2,b1,b2,b3,b4⟩:=y c ρ σ (H++X) Φ t2 (s.ext X) h2
 have a2':=a2.ext Y
 have dj:∀a∈F1,a∉F2:=fun a ha hb=>by
  have hlt:=a2.lt a ha
  rcases b3 a hb with h | ⟨j,hj,⟨tj,ej⟩,mj⟩
  ·omega
  ·obtain⟨vj,_,rj⟩:=s.slot j tj ej
   have:=rj.lt a mj
   rcases a3 a ha with h | ⟨i,hi,⟨ti,ei⟩,mi⟩
   ·omega
   ·exact(s.own i (hN i hi) ti ei).2.2 j tj (fun q=>hM i hi (q▸hj)) ej a mi mj
 have nd1:=a4 rfl
 have nd2:=b4 rfl
 have f1:∀a∈F1,From H (N++M) σ Φ a:=fun a m=>(a3 a m).mono fun i hi=>List.mem_append_left _ hi
 have f2:∀a∈F2,From H (N++M) σ Φ a:=fun a m=>(b3 a m).back.mono fun i hi=>List.mem_append_right _ hi
 have ev:∀r,Zaf v1 v2 (H++X++Y)=some r→Zh Zaf e1 e2 ρ H=some r:=fun r hr=>by simp only[Zh,a1,b1,Option.bind_some,hr]
 have ndA:∀{A B:List Nat},A.Nodup→B.Nodup→(∀a∈A,a∉B)→(A++B).Nodup:=fun ha hb hd=>by
  rw[List.nodup_append]
  exact⟨ha,hb,fun a m b m' e=>hd a m (e▸m')⟩
 cases a2' with
 | none=>cases h
 | bool=>cases h
 | str=>cases h
 | int a=>
  cases b2 <;> first | (cases h;done) | skip
  cases h
  exact⟨_,X++Y,[],ev _ (by simp[Zaf]),.int _,by simp,by simp⟩
 | tup hs1=>
  cases b2 with
  | none=>cases h
  | bool=>cases h
  | str=>cases h
  | int=>cases h
  | ref=>cases h
  | tup hs2=>
   simp only[Zad]at h
   split at h
   ·rename_i hl
    cases h
    refine⟨_,X++Y,_,ev _ ?_,.tup (by rw[←List.append_assoc];exact hs1.append hs2),fun a m=>?_,fun _=>ndA nd1 nd2 dj⟩
    ·simp only[Zaf]
     rw[if_pos (by rw[List.length_append]at hl ⊢;rw[hs1.length,hs2.length];exact hl),List.append_assoc]
    ·rcases Zz8.mp m with m | m
     ·exact f1 a m
     ·exact f2 a m
   ·cases h
 | @ref r1 vs1 _ G1 e1' hs1=>
  cases b2 with
  | none=>cases h
  | bool=>cases h
  | str=>cases h
  | int=>cases h
  | tup=>cases h
  | @ref r2 vs2 _ G2 e2' hs2=>
   simp only[Zad]at h
   split at h
   ·rename_i hl
    cases h
    have hR:=hs1.append hs2
    refine⟨.ref (H++X++Y).length,X++Y++[vs1++vs2],(H++X++Y).length::(G1++G2),ev _ ?_,?_,fun a m=>?_,fun _=>?_⟩
    ·simp only[Zaf,e1',e2',Option.bind_some]
     rw[if_pos (by rw[List.length_append]at hl ⊢;rw[hs1.length,hs2.length];exact hl)]
     simp
    ·rw[show H++(X++Y++[vs1++vs2])=H++X++Y++[vs1++vs2]by simp]
     exact .ref (by simp) (hR.ext _)
    ·rcases Zz7.mp m with rfl | m
     ·exact .inl (by simp)
     ·rcases Zz8.mp m with m | m
      ·exact f1 a (Zz2 _ m)
      ·exact f2 a (Zz2 _ m)
    ·refine List.nodup_cons.mpr ⟨fun m=>?_,ndA (List.nodup_cons.mp nd1).2 (List.nodup_cons.mp nd2).2 fun a m m'=>dj a (Zz2 _ m) (Zz2 _ m')⟩
     have:=hR.lt _ m
     omega
   ·cases h
end
end TM
end
section
namespace PM
open PySem PySem.W PySem.Calls PyProof.Rows PyProof PyProof.Rows.LCg PyProof.Rows.LCp
section
variable {prog:Program} {w:World} {Γ:Cx}
theorem Zux{elt iter:Expr}{x x₂ y:Str}{px px₂ tp py pos spos:Pos}{kt:Nat}{scope:Scope}{cl:List (Str×Addr)}{t t₂ i:Nat}{g:Src}{f:Ex}(hy:Sto prog w Γ y i)(hg:JI2 prog w Γ iter g)(hel:∀C ρ,J prog w (Zbu Γ scope cl C [(x,t),(x₂,t₂)] ρ) elt f)
  (hsw:swapsWith (.ListComp elt [⟨.Tuple [.Name x px,.Name x₂ px₂] kt tp,iter,[],0⟩] scope pos) (some (.Name y py)) spos.line Γ.env=pure true)
  (hclos:closureFor scope Γ.env=pure cl) (hcell:∀y∈scope.names,y.2≠.cell) (hkind:scope.kind=.function) (hnames:∀y∈scope.names,y.2=.local→scope.names.lookup y.1=some .local) (hx:scope.names.lookup x=some .local) (hx₂:scope.names.lookup x₂=some .local) (hxx:x≠x₂) (htt:t≠t₂) (hs:∀x,foldedSetIterable iter Γ.env x=pure x:=by intro _;rfl):
  S1 prog w Γ (.Assign [.Name y py] (.ListComp elt [⟨.Tuple [.Name x px,.Name x₂ px₂] kt tp,iter,[],0⟩] scope pos) spos) (ZL i (Zaw g (Zci t t₂) Zao f)):=by
 intro W ρ H fr s Q E r rp hf post
 obtain⟨p,e0,e9⟩:=Zz1.mp hf
 cases e9
 obtain⟨z,e1,hf⟩:=Zz0.mp e0
 obtain⟨q,e2,e3⟩:=Zz1.mp hf
 cases e3
 rw[exec_Assign_Name_used _ _ _ _ hsw]
 refine wpAny_bind (wpAny_standAt (wpAny_bind ?_))
 show wpAny _ Γ.A (do let _ ←comprehension (.ListComp elt [⟨.Tuple [.Name x px,.Name x₂ px₂] kt tp,iter,[],0⟩] scope pos) scope Γ.env _ (newList []) false (eval iter Γ.env) (some (assign (.Name y py) Γ.env))) _ _ s
 refine wpAny_bind (wpAny_mono (wpAny_comprehension_free (use:=some (assign (.Name y py) Γ.env)) (Q:=fun _ s'=>Q .next s') rfl hs hclos hkind hnames ?_) (fun _ s' h'=>wpAny_pure (wpAny_pure h')) fun _ _ e=>e)
 refine Zqx (RR:=fun acc C=>compPost (model prog w) Γ.A E (some (assign (.Name y py) Γ.env)) (fun _ s'=>Q .next s') acc C) hg hel hcell hkind hx hx₂ hxx htt rp (q:=q) (by rw[e1];exact e2) fun W2 h' tk' C D oC m₂ ys l2 hC hv hl aD aC cd r3=>?_
 have r4:Rep Γ W2 ρ q.2 ((D,lst ys)::(C,oC)::fr) h':=r3.less fun t ht=>by
  rcases Zz7.mp ht with e | ht
  ·exact e▸List.mem_cons_of_mem _ Zz5
  ·rcases Zz7.mp ht with e | ht
   ·exact e▸List.mem_cons_self
   ·exact Zz2 _ (Zz2 _ ht)
 obtain⟨W5,l5,r5,v5⟩:=Zg6 r4 (fun t ht=>by
  rcases Zz7.mp ht with e | ht
  ·rw[e]
   exact cd.symm
  ·exact aD t ht) hv hl
 refine wpAny_assign_Name (hy W5 ρ _ _ _ _ _ _ _ r5 v5 fun h6 t6 r6=>?_)
 refine⟨m₂,hC.ns (r6.frAt (q:=(C,oC)) Zz5),fun h'' sb=>?_⟩
 have r7:Rep Γ W5 (upd ρ i (.ref q.2.length)) (q.2++[q.1]) ([]++fr) h'':=
  Rep.swap (fs:=[(C,oC)]) (fs':=[]) r6 (fun q hq t ht=>by rw[List.mem_singleton.mp hq];exact aC t ht) (fun b o hb e=>sb.extBut b o (fun z=>hb (by simp[z])) e) fun q hq=>nomatch hq
 exact post W5 h'' t6 (l2.trans l5) r7
end
end PM
end
section
namespace PM
open PySem PySem.W PySem.Calls PyProof.Rows PyProof
noncomputable def ZdC(ns:List Int): List Int:=ns.mergeSort fun a b=>decide (a≤b)
theorem Zrl{ns ms:List Int}(h1:ms.Perm ns)(h2:ms.Pairwise (·≤·)): ms=ZdC ns:=by
 refine List.Perm.eq_of_pairwise (le:=fun a b:Int=>a≤b) (fun a b _ _ h h'=>Int.le_antisymm h h') h2 ?_ (h1.trans (List.mergeSort_perm ns _).symm)
 have:=List.pairwise_mergeSort (le:=fun a b:Int=>decide (a≤b)) (fun a b c h h'=>by simp at *;omega) (fun a b=>by simp;omega) ns
 unfold ZdC
 simpa using this
theorem ZvV{ns:List Int}: (ZdC ns).length=ns.length:=(List.mergeSort_perm ns _).length_eq
theorem Zoz{W:Wd}: ∀{vs:List V} {xs:List Value} {ks:List Int},VRs W vs xs→Zez vs=some ks→IntsAre xs ks:=by
 intro vs
 induction vs with
 | nil=>intro xs ks h e;cases h;cases e;exact .nil
 | cons v vs ih=>
  intro xs ks h e
  cases h with
  | cons a b=>
   cases v with
   | int i=>
    obtain⟨js,e1,e2⟩:=Zz1.mp e
    subst e2
    cases a with
    | int _ t=>exact .cons i t (ih b e1)
   | none=>cases e
   | bool=>cases e
   | str=>cases e
   | tup=>cases e
   | ref=>cases e
theorem ZrX{W:Wd}: ∀{xs:List Value} {ks:List Int},IntsAre xs ks→VRs W (ks.map V.int) xs
 | _,_,.nil=>.nil
 | _,_,.cons n t r=>.cons (.int n t) (ZrX r)
noncomputable def Zhn: List V→Hp→Option (V×Hp)
 | [.ref a],H=>H[a]?.bind fun vs=>(Zez vs).bind fun ns=>if vs.length<64 then some (.ref H.length,H++[(ZdC ns).map V.int])else none
 | _,_=>none
section
variable {prog:Program} {w:World}
theorem ZvW: OpN prog w (fun xs=>call (.builtin "sorted") xs) Zhn:=by
 intro Γ W ρ H fr s Q E as xs v H' r hx ho post
 unfold Zhn at ho
 split at ho
 ·obtain⟨vs,e1,ho⟩:=Zz0.mp ho
  obtain⟨ks,e3,ho⟩:=Zz0.mp ho
  split at ho
  ·rename_i h64
   cases ho
   obtain⟨x,ex,rx⟩:=hx.one
   subst ex
   cases rx with
   | @ref _ a ea=>
    obtain⟨hl,ys,k,hg,hv⟩:=r.at e1 ea
    have isl:s.heap.IsList a ys.toArray:=⟨_,hg,rfl,k,rfl⟩
    refine sorted_ints isl (Zoz hv e3) (by rw[hv.length];exact h64) fun out ms a1 a2 a3=>?_
    have em:=Zrl a2 a3
    subst em
    obtain⟨q,hq⟩:=sortedAll_at s.heap ys out
    have hlen:ks.length=vs.length:=by rw[←hv.length];exact(Zoz hv e3).length.symm
    obtain⟨r2,ap⟩:=r.more (h':=sortedAll s.heap ys out) (fs:=[(s.heap.objs.size+1,Zb7 out.toList q)]) (fun b o hb=>sortedAll_old hb) (fun u hu=>by
     rw[List.mem_singleton.mp hu]
     refine⟨?_,Nat.le_succ _⟩
     rw[hq])
    obtain⟨W2,l2,r3,v3⟩:=Zg6 r2 (fun t ht=>ap _ Zz5 t ht) (ZrX a1) (by rw[List.length_map,ZvV,hlen];exact hl)
    exact post W2 _ s.toks _ l2 r3 v3
  ·cases ho
 ·cases ho
end
end PM
namespace PM
open PySem PySem.W PySem.Calls PyProof.Rows PyProof PySem.SeqAt
open SeqRoads2 MeetsSeq3 MeetsSeq2 MeetsSeq AutoSeq1
theorem Zu2(l:Addr)(its:Array Value)(n:Nat)(dd:Option Addr)(sl:Array (Option Value))(x:Value)(tk:Tok)(e:Value→Bool)(j:Nat)(hj:j<its.size)(h1:1≤j)(small:(j:Int)<2 ^ 63-1)
  (hit:e its[j]=true) (no:∀m (hm:m<its.size),1≤m→m<j→e its[m]=false):
  Meets (Builtin.«list.index» ⟨[.ref l,x,.int 1 tk],[]⟩) fun A R s=>s.heap.get? l=some { cls:=.type "list",dict:=dd,data:=.seq its n,slots:=sl }∧(∀y,y∈its→EqAt A.in1 s y x (e y))∧R (.ok (.ret (.int j s.toks))) { s with toks:=s.toks+1 }:=by
 intro prog w A R s h
 obtain⟨hp,g,d,tk',os⟩:=s
 obtain⟨hq0,he,h⟩:=h
 wp_walk using wpAny_loadPart' hq0
 have b1:((fun i:Int=>if i<0 then max 0 (i+(its.size:Int))else i) ((some (1:Int)).getD 0))=((1:Nat):Int):=by simp
 have b2:((fun i:Int=>if i<0 then max 0 (i+(its.size:Int))else i) ((Option.none:Option Int).getD (2 ^ 63-1)))=2 ^ 63-1:=by simp
 rw[b1,b2]
 refine⟨plainId_quiet plain_index_loop _,codeAny_builtin entry_index_loop ?_⟩
 rw[Around.under_plainId plain_index_loop _];exact index_loopAt l its n dd sl x e (2 ^ 63-1) j hj small hit _ 1 rfl h1 no prog w A R _ ⟨hq0,he,h⟩
section
variable {prog:Program} {w:World} {A:Around} {E:Value→Shared→Prop} {s:Shared}
theorem Zuy{l:Addr}{vs:List Value}{ns:List Int}{k:Int}{t t':Tok}{Q:Value→Shared→Prop}(hl:s.heap.IsList l vs.toArray)(hi:IntsAre vs ns)(hn:ns.length≤100000)(hk:k∈ns.drop 1)
  (h:Q (.int ((1+(ns.drop 1).idxOf k:Nat)) s.toks) { s with toks:=s.toks+1 }):wpAny (model prog w) A (call (.builtin "list.index") [.ref l,.int k t,.int 1 t']) Q E s:=by
 obtain⟨⟨c0,dd,da,sl⟩,ho,ec,n,ed⟩:=id hl
 simp only at ec ed
 subst ec ed
 have hlen:=hi.length
 have hj:(ns.drop 1).idxOf k<(ns.drop 1).length:=List.idxOf_lt_length_iff.mpr hk
 have hj':1+(ns.drop 1).idxOf k<ns.length:=by rw[List.length_drop]at hj;omega
 refine call_meets PySem.F.slot_list_index ⟨_,ho,rfl⟩ PySem.F.entry_list_index (PySem.F.args_list_index_3 _ _ _) (Zu2 l vs.toArray n dd sl (.int k t) t' (isInt k) (1+(ns.drop 1).idxOf k) (by simpa [hlen]using hj') (by omega) (by omega) ?_ ?_) ⟨ho,fun y hy=>(eq_isInt k t hi y (by simpa using hy)).at _ _,h⟩
 ·show isInt k vs[1+(ns.drop 1).idxOf k]=true
  rw[isInt_at k hi _ (by omega) hj']
  have:=List.getElem_idxOf hj
  rw[List.getElem_drop]at this
  simpa using this
 ·intro m hm h1 h2
  show isInt k vs[m]=false
  rw[isInt_at k hi m (by simpa using hm) (by have:=hm;simp[hlen]at this;omega)]
  have hm':m-1<(ns.drop 1).length:=by rw[List.length_drop];omega
  have:=ne_of_lt_idxOf (k:=k) (ns:=ns.drop 1) (j:=m-1) (by omega) hm'
  rw[List.getElem_drop]at this
  simpa [show 1+(m-1)=m by omega]using this
end
noncomputable def Zjw: V→V→V→Hp→Option (V×Hp)
 | .ref a,.int k,.int b,H=>H[a]?.bind fun vs=>(Zez vs).bind fun ns=>if b=1∧k∈ns.drop 1 then some (.int ((1+(ns.drop 1).idxOf k:Nat):Int),H)else none
 | _,_,_,_=>none
noncomputable def ZhA(f g h:Ex): Ex:=fun ρ H=>(f ρ H).bind fun p=>(g ρ p.2).bind fun q=>(h ρ q.2).bind fun u=>Zjw p.1 q.1 u.1 u.2
section
variable {prog:Program} {w:World} {Γ:Cx}
theorem Zuz{a b c:V}{H:Hp}{r:V×Hp}(h:Zjw a b c H=some r): ∃i k vs ns,a=.ref i∧b=.int k∧c=.int 1∧H[i]?=some vs∧Zez vs=some ns∧k∈ns.drop 1∧r=(.int ((1+(ns.drop 1).idxOf k:Nat):Int),H):=by
 unfold Zjw at h
 split at h
 ·obtain⟨vs,e1,h⟩:=Zz0.mp h
  obtain⟨ns,e2,h⟩:=Zz0.mp h
  split at h
  ·rename_i q
   cases h
   obtain⟨rfl,q⟩:=q
   exact⟨_,_,vs,ns,rfl,rfl,rfl,e1,e2,q,rfl⟩
  ·cases h
 ·cases h
theorem J.index{o e1 e2:Expr}{apos pos:Pos}{f g k:Ex}(ho:J prog w Γ o f)(h1:J prog w Γ e1 g)(h2:J prog w Γ e2 k)(hbase:attributeBase o "index" Γ.env (eval o Γ.env)=eval o Γ.env:=by rfl)
  (hline:(apos.endLine == pos.line)=true:=by rfl) (htrees:backTo pos (starEach [e1,e2] Γ.env)=[(false,eval e1 Γ.env),(false,eval e2 Γ.env)]:=by rfl) (hstay:∀ρ H p,f ρ H=some p→∀q,g ρ p.2=some q→p.2=q.2:=by intro _ _ _ _ _ h;cases h;rfl) (hstay2:∀ρ H p,g ρ H=some p→∀q,k ρ p.2=some q→p.2=q.2:=by intro _ _ _ _ _ h;cases h;rfl):J prog w Γ (.Call (.Attribute o "index" apos) [e1,e2] [] pos) (ZhA f g k):=by
 intro W ρ H fr s Q E v H' r hx post
 obtain⟨p,x1,hx⟩:=Zz0.mp hx
 obtain⟨q,x2,hx⟩:=Zz0.mp hx
 obtain⟨u,x3,x4⟩:=Zz0.mp hx
 obtain⟨i,kk,vs,ns,ea,eb,ec,hvs,hns,hmem,er⟩:=Zuz x4
 refine wpAny_Call_method2_late hbase hline htrees (ho W ρ H fr s _ E _ _ r x1 fun W1 k1 t1 x l1 r1 y1=>?_)
 rw[ea]at y1
 have s1:=hstay ρ H p x1 q x2
 have s2:=hstay2 ρ p.2 q x2 u x3
 cases y1 with
 | @ref _ a aa=>
 obtain⟨hl,xs,n,hg,hv⟩:=r1.at (by rw[s1,s2];exact hvs) aa
 refine⟨"list","list.index",PySem.F.plainAttrs_list,PySem.F.slot_list_index,PySem.F.type_list_index,(show k1.IsList a xs.toArray from⟨_,hg,rfl,n,rfl⟩).typeIs,fun b eb=>by cases eb;exact⟨_,hg,rfl⟩,?_⟩
 refine Calls.callWith_builtin rfl (Calls.evalArgs_plain (Calls.spliced_cons ?_))
 refine h1 W1 ρ _ fr _ _ E _ _ r1 x2 fun W2 k2 t2 y l2 r2 y2=>Calls.spliced_cons ?_
 refine h2 W2 ρ _ fr _ _ E _ _ r2 x3 fun W3 k3 t3 z l3 r3 z3=>Calls.spliced_nil ?_
 rw[eb]at y2
 rw[ec]at z3
 cases y2 with
 | int _ ty=>
 cases z3 with
 | int _ tz=>
 obtain⟨hl3,xs3,n3,hg3,hv3⟩:=r3.at hvs (l3.at (l2.at aa))
 rw[Zbr]at hl3
 have hI:=Zoz hv3 hns
 refine Zuy ⟨_,hg3,rfl,n3,rfl⟩ hI (by rw[←hI.length,hv3.length];omega) hmem ?_
 have:=post W3 k3 (t3+1) (.int ((1+(ns.drop 1).idxOf kk:Nat):Int) t3) ((l1.trans l2).trans l3)
 cases er
 exact this r3 (.int _ _)
end
end PM
end
section
namespace TM
open PySem PM
theorem Zn4{H:Hp}: ∀ks:List Int,RFs H (ks.map V.int) (ks.map T.int) []
 | []=>.nil
 | k::ks=>.cons (.int k) (Zn4 ks)
noncomputable def Zjc: List T→Option T
 | [.lst ts]=>(ZeF ts).bind fun ns=>if ts.length<64 then some (.lst ((ZdC ns).map T.int))else none
 | _=>none
theorem ZwY: OCn Zhn Zjc:=fun H vs ts t F hp r h=>by
 unfold Zjc at h
 split at h
 ·obtain⟨v,rfl,r'⟩:=r.one_inv
  cases r' with
  | ref e hs=>
   obtain⟨ks,h1,h⟩:=Zz0.mp h
   split at h
   ·rename_i h64
    cases h
    refine⟨_,[(ZdC ks).map V.int],_,?_,Zei (Zn4 (ZdC ks)),fun a m=>?_,fun _=>?_⟩
    ·simp only[Zhn,e,Option.bind_some,Zos hs h1]
     rw[if_pos (by rw[hs.length];exact h64)]
    ·rcases Zz7.mp m with rfl | m
     ·exact .inl (Zz10 _)
     ·cases m
    ·simp
   ·cases h
 ·cases h
noncomputable def ZhB(p q r:PE): PE:=fun σ=>(p σ).bind fun t=>(q σ).bind fun k=>(r σ).bind fun b=>match t,k,b with
 | .lst ts,.int k,.int b=>(ZeF ts).bind fun ns=>if b=1∧k∈ns.drop 1 then some (.int ((1+(ns.drop 1).idxOf k:Nat):Int))else none
 | _,_,_=>none
section
variable {O N M K:List Nat} {u u' u'':Bool}
theorem E.index{e1 e2 e3:Ex}{p1 p2 p3:PE}(x:E O N u e1 p1)(y:E O M u' e2 p2)(z:E O K u'' e3 p3): E O [] true (ZhA e1 e2 e3) (ZhB p1 p2 p3):=fun c ρ σ H Φ t s h=>by
 obtain⟨t1,h1,h⟩:=Zz0.mp h
 obtain⟨t2,h2,h⟩:=Zz0.mp h
 obtain⟨t3,h3,h⟩:=Zz0.mp h
 obtain⟨v1,X,F1,a1,a2,_,_⟩:=x c ρ σ H Φ t1 s h1
 obtain⟨v2,Y,F2,b1,b2,_,_⟩:=y c ρ σ (H++X) Φ t2 (s.ext X) h2
 obtain⟨v3,Z,F3,c1,c2,_,_⟩:=z c ρ σ (H++X++Y) Φ t3 ((s.ext X).ext Y) h3
 have a3:=(a2.ext Y).ext Z
 split at h
 ·obtain⟨ns,e1,h⟩:=Zz0.mp h
  split at h
  ·rename_i hc
   cases h
   cases b2
   cases c2
   cases a3 with
   | ref e hs=>
    refine⟨_,X++Y++Z,[],?_,.int _,by simp,by simp⟩
    have e':=e
    simp only[ZhA,a1,b1,c1,Option.bind_some,Zjw,e',Zos hs e1]
    rw[if_pos hc]
    simp
  ·cases h
 ·cases h
end
section
variable {σ:TL} {Q:T→Prop}
end
end TM
end
section
namespace TM
open PySem PM
theorem Zqz{nx:Nx}{put:V→Lc→Option Lc}{b:Sm}(hp:∀v ρ ρ',put v ρ=some ρ'→ρ' 0=ρ 0)(hb:Keep0 b): ∀n i,Keep0 (ZdA nx put b n i)
 | 0,_=>fun _ _ _ h=>by cases h
 | n+1,i=>fun ρ H r h=>by
  obtain⟨o,_,h⟩:=Zz0.mp h
  split at h
  ·cases h;rfl
  ·obtain⟨ρ1,e1,h⟩:=Zz0.mp h
   obtain⟨q,e2,h⟩:=Zz0.mp h
   have k:=(hb _ _ _ e2).trans (hp _ _ _ e1)
   split at h
   ·cases h;exact k
   ·exact(Zqz hp hb n (i+1) _ _ _ h).trans k
theorem ZqU{g:Src}{put:V→Lc→Option Lc}{b:Sm}(hp:∀v ρ ρ',put v ρ=some ρ'→ρ' 0=ρ 0)(hb:Keep0 b): Keep0 (ZaK g put b):=fun ρ H r h=>by
 obtain⟨z,_,h⟩:=Zz0.mp h
 exact Zqz hp hb _ _ _ _ _ h
theorem ZqA{i:Nat}(hi:0≠i): ∀v ρ ρ',PM.put1 i v ρ=some ρ'→ρ' 0=ρ 0:=fun v ρ ρ' h=>by
 cases h
 simp[upd,hi]
end TM
end
section
namespace My
open PySem
section
variable {prog:Program} {w:World} {A:Around} {E:Value→Shared→Prop} {s:Shared}
theorem fill_range{R:Result→Shared→Prop}{r:Addr}{a b c:Int}{t u v:Tok}{n:Nat}(hr:IsRange s.heap r a b c t u v)(hn:Builtin.Range.rangeSize a b c=n)(hlen:n≤2 ^ 24)(S:Addr)(res:Value)(c₀:Nat)
  (at_S:s.heap.get? S=some { cls:=.type "list",data:=.seq #[] c₀ }) (ito:Obj) {St:Nat→Heap→Prop} (W:Walks prog w A.in1 s.heap.objs.size [s.heap.objs.size] [s.heap.objs.size] n (fun i v=>∃t,v=.int (a+i*c) t) St)
  (st:∀g:Heap,g.get? s.heap.objs.size=some ito→St 0 g)
  (iter:∀(Q:Value→Shared→Prop) (E':Value→Shared→Prop),Q (.ref s.heap.objs.size) { s with heap:=s.heap.push ito }→wpAny (model prog w) A.in1 (pyIter (.ref r)) Q E' s) (hito:(s.heap.push ito).get? s.heap.objs.size=some ito)
  (out:∀g tk acc k,(∀b o,b≠S→s.heap.get? b=some o→g.get? b=some o)→g.get? S=some { cls:=.type "list",dict:=none,data:=.seq acc k,slots:=#[] }→ItemsOf (fun i v=>∃t,v=.int (a+i*c) t) acc n→R (.ok (.ret res)) { s with heap:=g,toks:=tk }):
  wpAny (model prog w) A.in1 (Builtin.List.listExtendWith (.ref S) (.ref r) res)
   (fun fin s'=>match fin with
    | .done f=>R (.ok f) s'
    | .again c'=>c'.quiet=true∧codeAny (model prog w) A c' R s') (fun e s'=>R (.error e) s') s:=by
 have ne_r:S≠r:=fun e=>by rw[e,hr]at at_S;simp at at_S
 have ne_I:S≠s.heap.objs.size:=Nat.ne_of_lt (Heap.lt_size at_S)
 have off:S∉[s.heap.objs.size]:=fun q=>ne_I (Zz9.mp q)
 have loop:∀(g:Heap) (k tk:Nat),g.get? s.heap.objs.size=some ito→(∀b o,b≠S→s.heap.get? b=some o→g.get? b=some o)→g.get? S=some { cls:=.type "list",data:=.seq #[] k } →
   codeAny (model prog w) A (.builtin "list.extend.loop" ⟨[.ref S,.ref s.heap.objs.size,res],[]⟩) R { s with heap:=g,toks:=tk }:=by
  intro g k tk at_I keeps at_S'
  refine codeAny_extend_loopS W.toS (by rw[sizeLine_eq];omega) S off res n 0 _ #[] k rfl (Nat.zero_le _) (st _ at_I) at_S' (ItemsOf.nil _) fun s' acc k' mv at_S'' its=>?_
  rw[Moved.eq_with mv]
  refine out s'.heap s'.toks acc k' (fun b o bS e=>mv.heap b o (fun q=>?_) (keeps b o bS e)) at_S'' its
  rcases Zz7.mp q with q | q
  ·exact bS q
  ·exact absurd (Heap.lt_size e) (by rw[List.mem_singleton.mp q];exact Nat.lt_irrefl _)
 unfold Builtin.List.listExtendWith
 refine wpAny_bind (wpAny_typeOf (T:="range") ⟨_,hr,rfl⟩ ?_)
 have z1:Builtin.List.listSameRef (.ref S) (.ref r)=false:=by simp[Builtin.List.listSameRef,ne_r]
 have z2:(Value.type "range" == Value.type "list")=false:=by decide
 have z3:(Value.type "range" == Value.type "tuple")=false:=by decide
 simp only[z1,z2,z3,Bool.or_false,Bool.false_eq_true,if_false]
 refine wpAny_bind (iter _ _ ?_)
 refine wpAny_bind (wpAny_holding (wpAny_hint_range (n:=n) (Heap.get?_push_of_some _ hr) hn hlen ?_))
 have at_S1:=Heap.get?_push_of_some ito at_S
 refine wpAny_ite_split (fun _=>?_) (fun _=>wpAny_pure ⟨plainId_quiet F.plain_extend_loop _,loop _ c₀ _ hito (fun b o _ e=>Heap.get?_push_of_some _ e) at_S1⟩)
 refine wpAny_bind (wpAny_rule ?_);refine wpAny_bind ?_
 show wpAny _ _ (updateSeq S (·.push .none) >>= fun _=>updateSeq S (·.pop)) _ _ _;refine wpAny_bind (wpAny_updateSeq at_S1 rfl ?_)
 have at_S2:=Heap.get?_update_self (Obj.mapSeq (·.push Value.none)) at_S1 rfl
 refine wpAny_updateSeq (hz:=by seq_fits) at_S2 rfl ?_
 have at_S3:=Heap.get?_update_self (Obj.mapSeq (·.pop)) at_S2 rfl
 refine wpAny_pure ⟨plainId_quiet F.plain_extend_loop _,loop _ _ _ ?_ (fun b o bS e=>?_) at_S3⟩
 ·exact(Heap.get?_update_other _ _ ne_I).trans ((Heap.get?_update_other _ _ ne_I).trans hito)
 ·exact(Heap.get?_update_other _ _ (Ne.symm bS)).trans ((Heap.get?_update_other _ _ (Ne.symm bS)).trans (Heap.get?_push_of_some _ e))
theorem fill_any{R:Result→Shared→Prop}{r:Addr}{a b c:Int}{t u v:Tok}{n:Nat}(hh:A.handled=none)(hr:IsRange s.heap r a b c t u v)(hn:Builtin.Range.rangeSize a b c=n)(hlen:n≤2 ^ 24)(S:Addr)(res:Value)(c₀:Nat)
  (at_S:s.heap.get? S=some { cls:=.type "list",data:=.seq #[] c₀ })
  (out:∀g tk acc k,(∀b o,b≠S→s.heap.get? b=some o→g.get? b=some o)→g.get? S=some { cls:=.type "list",dict:=none,data:=.seq acc k,slots:=#[] }→ItemsOf (fun i v=>∃t,v=.int (a+i*c) t) acc n→R (.ok (.ret res)) { s with heap:=g,toks:=tk }):
  wpAny (model prog w) A.in1 (Builtin.List.listExtendWith (.ref S) (.ref r) res)
   (fun fin s'=>match fin with
    | .done f=>R (.ok f) s'
    | .again c'=>c'.quiet=true∧codeAny (model prog w) A c' R s') (fun e s'=>R (.error e) s') s:=by
 by_cases sm:Builtin.Range.small a b c=true
 ·refine fill_range hr hn hlen S res c₀ at_S _ (Walks.range (prog:=prog) (w:=w) (A:=A.in1) hh s.heap.objs.size a c n) (fun g at_g=>?_) (fun Q' E' q=>wpAny_pyIter_range hr sm q) (Heap.get?_push_size _ rfl) out
  show IsRangeIter _ _ _ _ _
  rw[hn]at at_g
  simpa using at_g
 ·refine fill_range hr hn hlen S res c₀ at_S _ (Walks.longrange (prog:=prog) (w:=w) (A:=A.in1) hh s.heap.objs.size a c n) (fun g at_g=>?_) (fun Q' E' q=>wpAny_pyIter_longrange hr (by simpa using sm) q) (Heap.get?_push_size _ rfl) out
  show IsLongIter _ _ _ _ _
  rw[hn]at at_g
  simpa using at_g
theorem list_any{Q:Value→Shared→Prop}{r:Addr}{a b c:Int}{t u v:Tok}{n:Nat}(hh:A.handled=none)(hr:IsRange s.heap r a b c t u v)(hn:Builtin.Range.rangeSize a b c=n)(hlen:n≤2 ^ 24)
  (out:∀g tk acc k,(∀b o,s.heap.get? b=some o→g.get? b=some o)→g.get? s.heap.objs.size=some { cls:=.type "list",dict:=none,data:=.seq acc k,slots:=#[] }→ItemsOf (fun i v=>∃t,v=.int (a+i*c) t) acc n →
   Q (.ref s.heap.objs.size) { s with heap:=g,toks:=tk }):
  wpAny (model prog w) A (call (.type "list") [.ref r]) Q E s:=by
 refine callType_codes (Q₁:=fun obj s₁=>obj=.ref s.heap.objs.size∧s₁ = { s with heap:=s.heap.push { cls:=.type "list",data:=.seq #[] } }) F.called_list (F.typeCall_list_1 _) F.entry_list_init (code_list_new _ ⟨rfl,rfl⟩) fun obj s₁ h₁=>?_
 obtain⟨rfl,rfl⟩:=h₁
 have at_S:(s.heap.push { cls:=.type "list",data:=.seq #[] }).get? s.heap.objs.size=some { cls:=.type "list",data:=.seq #[] }:=Heap.get?_push_size _ rfl
 refine⟨⟨_,at_S,rfl⟩,F.args_list_init_2 _ _,?_⟩
 have hr':=Heap.get?_push_of_some { cls:=.type "list",data:=.seq #[] } hr
 have ne_r:s.heap.objs.size≠r:=fun e=>absurd (Heap.lt_size hr) (by rw[←e];exact Nat.lt_irrefl _)
 show wpAny _ _ (do let old ←Builtin.List.listItems (.ref s.heap.objs.size);Builtin.List.listUpdate (.ref s.heap.objs.size) (fun _=>#[]);letGo old.toList.reverse;Builtin.List.listExtendWith (.ref s.heap.objs.size) (.ref r) .none) _ _ _
 refine wpAny_bind ?_;unfold Builtin.List.listItems;refine wpAny_bind (wpAny_seqItems at_S rfl (wpAny_pure ?_))
 show wpAny _ _ (updateSeq s.heap.objs.size (fun _=>#[]) >>= fun _=>letGo (#[]:Array Value).toList.reverse >>= fun _=>Builtin.List.listExtendWith (.ref s.heap.objs.size) (.ref r) .none) _ _ _
 refine wpAny_bind (wpAny_updateSeq at_S rfl ?_)
 have at_S2:=Heap.get?_update_self (Obj.mapSeq (fun _=>(#[]:Array Value))) at_S rfl
 have oth:∀b o,b≠s.heap.objs.size→s.heap.get? b=some o→((s.heap.push { cls:=.type "list",data:=.seq #[] }).update s.heap.objs.size (Obj.mapSeq (fun _=>(#[]:Array Value)))).get? b=some o:=fun b o hb e=>(Heap.get?_update_other _ _ (Ne.symm hb)).trans (Heap.get?_push_of_some _ e)
 have hr2:=oth r _ (Ne.symm ne_r) hr
 refine wpAny_bind (wpAny_letGo ?_)
 refine' fill_any (t:=t) (u:=u) (v:=v) (A:=A.in1) (R:=wants (fun r s₂=>r=Value.none∧Q (Value.ref s.heap.objs.size) s₂) E) hh ?_ hn hlen s.heap.objs.size .none ?k0 ?k2 fun g tk acc k keeps at_g its=>?k3
 case k2=>exact at_S2
 ·exact hr2
 case k3=>exact⟨rfl,out g tk acc k (fun b o e=>keeps b o (Nat.ne_of_lt (Heap.lt_size e)) (oth b o (Nat.ne_of_lt (Heap.lt_size e)) e)) at_g its⟩
end
end My
end
section
namespace PM
open PySem PySem.W PySem.Calls PyProof.Rows PyProof
noncomputable def Zef(a:Int)(n:Nat): List V:=(List.range n).map fun(i:Nat)=>V.int (a+i)
noncomputable def ZhC: List V→Hp→Option (V×Hp)
 | [.int a,.int b],H=>if 0≤b-a∧b-a≤1000 then some (.ref H.length,H++[Zef a (b-a).toNat])else none
 | _,_=>none
theorem ZwZ{W:Wd}{a:Int}: ∀{n:Nat} {xs:List Value},xs.length=n→(∀(j:Nat) (v:Value),xs[j]?=some v→∃t:Tok,v=Value.int (a+(j:Int)*1) t)→VRs W (Zef a n) xs:=by
 intro n
 induction n generalizing a with
 | zero=>
  intro xs hl _
  have:xs=[]:=List.length_eq_zero_iff.mp hl
  subst this
  exact .nil
 | succ n ih=>
  intro xs hl hv
  cases xs with
  | nil=>cases hl
  | cons v xs=>
   obtain⟨t,e⟩:=hv 0 v rfl
   subst e
   have r:Zef a (n+1)=V.int (a+((0:Nat):Int)*1)::Zef (a+1) n:=by
    simp only[Zef,List.range_succ_eq_map,List.map_cons,List.map_map]
    refine congr (congrArg _ (congrArg _ (by omega))) ?_
    apply List.map_congr_left
    intro i _
    show V.int _=V.int _
    congr 1
    simp only[Nat.succ_eq_add_one]
    omega
   rw[r]
   refine .cons (.int _ t) (ih (by simpa using hl) fun j u hu=>?_)
   obtain⟨t',e'⟩:=hv (j+1) u (by simpa using hu)
   refine⟨t',?_⟩
   rw[e']
   congr 1
   omega
section
variable {prog:Program} {w:World} {Γ:Cx}
theorem Zx3{x x2:Str}{np pos np2 pos2:Pos}{e:Expr}{es:List Expr}{g:Exs}(hn:Nm prog w Γ x (.type "list"))(hr:Nm prog w Γ x2 (.type "range"))(h:Js prog w Γ (e::es) g)
  (he:starEach (e::es) Γ.env=(false,eval e Γ.env)::starEach es Γ.env:=by rfl) (hp:∀pos,(backTo pos (starEach es Γ.env)).any (·.1)=false:=by intro _;rfl):J prog w Γ (.Call (.Name x np) [.Call (.Name x2 np2) (e::es) [] pos2] [] pos) (Zs ZhC g):=by
 intro W ρ H fr s Q E v H' r hf post
 obtain⟨p,e1,hf⟩:=Zz0.mp hf
 refine wpAny_Call_ofName (hn.use r ?_)
 refine PySem.Pv.callWith_type1 (wpAny_items_cons (wpAny_Call_ofName (hr.use r (PySem.Pv.callWith_type1 (h pos2 W ρ H fr s _ E _ _ r e1 fun W1 k1 t1 xs l1 r1 x1=>?_) he (hp pos2)))) rfl) rfl rfl
 obtain⟨vs,H1⟩:=p
 dsimp only at hf x1 r1
 unfold ZhC at hf
 split at hf
 ·obtain⟨y,z,ex,ry,rz⟩:=x1.two
  subst ex
  cases ry
  cases rz
  split at hf
  ·rename_i _ _ a b _ _ hc
   cases hf
   refine call_range_2 (wpAny_items_nil ?_)
   refine My.list_any (n:=(b-a).toNat) Γ.hh (IsRange.new ..) ?_ (by omega) fun g tk acc k up hg its=>?_
   ·unfold Builtin.Range.rangeSize
    rw[if_pos (by decide)]
    split
    ·omega
    ·omega
   have e:acc=acc.toList.toArray:=by simp
   obtain⟨W2,l2,r2,v2⟩:=(r1.push _).listAt (xs:=acc.toList) up (by rw[hg]) (ZwZ (a:=a) (n:=(b-a).toNat) (by have:=its.1;simpa using this) fun j v hv=>its.2 j v (by simpa using hv)) (by simp[Zef,LEN];omega)
   exact post W2 g tk _ (l1.trans l2) r2 v2
  ·cases hf
 ·cases hf
end
end PM
end
section
namespace TM
open PySem PM
noncomputable def ZoV: List T→Option T
 | [.int a,.int b]=>if 0≤b-a∧b-a≤1000 then some (.lst (tab (b-a).toNat fun i=>.int (a+i)))else none
 | _=>none
theorem Zx4: OCn ZhC ZoV:=fun H vs ts t F hp r h=>by
 unfold ZoV at h
 split at h
 ·split at h
  ·rename_i a b hc
   cases h
   cases r with
   | cons r1 r2=>
   obtain⟨v,rfl,r'⟩:=r2.one_inv
   cases r1
   cases r'
   have e1:Zef a (b-a).toNat=((List.range (b-a).toNat).map fun(i:Nat)=>a+(i:Int)).map V.int:=by rw[Zef,List.map_map];rfl
   have e2:(tab (b-a).toNat fun i=>T.int (a+i))=((List.range (b-a).toNat).map fun(i:Nat)=>a+(i:Int)).map T.int:=by rw[tab,List.map_map];rfl
   refine⟨_,[Zef a (b-a).toNat],_,by simp only[ZhC];rw[if_pos hc],by rw[e1,e2];exact Zei (Zn4 _),fun q m=>?_,fun _=>?_⟩
   ·rcases Zz7.mp m with rfl | m
    ·exact .inl (Zz10 _)
    ·cases m
   ·simp
  ·cases h
 ·cases h
section
variable {Q:T→Prop}
end
end TM
end
section
namespace TM
open PySem PM
def EN(O N:List Nat)(e:Ex)(p:PE): Prop:=∀(c:Ctx) (ρ:Lc) (σ:TL) (H:Hp) (Φ:Nat→List Nat) (ts:List T),St c O ρ σ H Φ→p σ=some (.lst ts) →
 ∃a vs X F,e ρ H=some (.ref a,H++X)∧(H++X)[a]?=some vs∧RFs (H++X) vs ts F∧H.length≤a∧a∉F∧∀b∈F,From H N σ Φ b
section
variable {O N M K:List Nat} {u u':Bool}
theorem EN.own{e:Ex}{p:PE}(x:E O [] true e p): EN O [] e p:=fun c ρ σ H Φ ts s h=>by
 obtain⟨v,X,F,a1,a2,a3,a4⟩:=x c ρ σ H Φ _ s h
 cases a2 with
 | @ref a vs _ G e1 hs=>
  have nd:=a4 rfl
  rw[List.nodup_cons]at nd
  exact⟨a,vs,X,G,a1,e1,hs,(a3 a Zz5).nil,nd.1,fun b m=>a3 b (Zz2 _ m)⟩
noncomputable def Zjd(i:Nat)(p pv pk:PE): PS:=fun σ=>(p σ).bind fun t=>match t with
 | .lst ts=>(pv (Z8 σ i (.lst ts))).bind fun w=>(pk (Z8 σ i (.lst ts))).bind fun k=>match k with
  | .int k=>if 0≤k∧k<ts.length then some (none,Z8 σ i (.lst (ts.set k.toNat w)))else none
  | _=>none
 | _=>none
theorem Zw0{O1 R:List Nat}{fr:Bool}{i:Nat}{e v k:Ex}{p pv pk:PE}(x:EN O N e p)(y:E O1 M u v pv)(z:E O1 K u' k pk)(hi:i∉O1)(hN:∀j∈N,j∉O1)(hM:∀j∈M,j∉O1∧j≠i)(hO:∀j∈O1,j∈O): S O O1 R fr (Zu (ZL i e) (Zbl v (Zb i) k)) (Zjd i p pv pk):=fun c ρ σ H Φ r s q=>by
 obtain⟨t,h1,q⟩:=Zz0.mp q
 cases t <;> first | (cases q;done) | skip
 rename_i ts
 obtain⟨w,h2,q⟩:=Zz0.mp q
 obtain⟨kt,h3,q⟩:=Zz0.mp q
 cases kt <;> first | (cases q;done) | skip
 rename_i kk
 dsimp only at q
 split at q
 ·rename_i hk
  cases q
  obtain⟨a,vs,X,F,a1,a2,a3,a4,a5,a6⟩:=x c ρ σ H Φ ts s h1
  have s':=s.less hO
  have low:∀j t,σ j=some t→∀b∈Φ j,b<H.length:=fun j t e b m=>by
   obtain⟨_,_,r⟩:=s.slot j t e
   exact r.lt b m
  have ha:a<(H++X).length:=(Zz6.mp a2).1
  have s1:St c O1 (upd ρ i (.ref a)) (Z8 σ i (.lst ts)) (H++X) (Zam Φ i (a::F)):=(s'.ext X).put hi (.ref a2 a3) (fun b m=>by
   rcases Zz7.mp m with rfl | m
   ·exact .inl (Nat.le_trans s.len a4)
   ·exact s.from_src (a6 b m)) (fun j hj t' e' b m q=>by
   rcases Zz7.mp q with rfl | q
   ·have:=low j t' e' b m;omega
   ·exact s'.from_off hN (a6 b q) hj e' m)
  obtain⟨vw,Y,Fw,b1,b2,b3,b4⟩:=y c _ _ (H++X) _ w s1 h2
  obtain⟨vk,Z,Fk,c1,c2,c3,c4⟩:=z c _ _ (H++X++Y) _ _ (s1.ext Y) h3
  cases c2
  have aFw:a∉Fw:=fun m=>by
   rcases b3 a m with q | ⟨j,hj,⟨t',e'⟩,mj⟩
   ·omega
   ·have hji:=(hM j hj).2
    simp[Z8,hji]at e'
    simp[Zam,hji]at mj
    have:=low j t' e' a mj;omega
  have srcw:∀b∈Fw,c.H0.length≤b∨c.P b:=fun b m=>s1.from_src (b3 b m)
  have offw:∀b∈Fw,∀j∈O1,∀t',σ j=some t'→b∉Φ j:=fun b m j hj t' e' q=>by
   have hji:j≠i:=fun q=>hi (q▸hj)
   have:=s1.from_off (fun j hj=>(hM j hj).1) (b3 b m) hj (t:=t') (by simp[Z8,hji,e'])
   simp[Zam,hji]at this
   exact this q
  have hkt:kk.toNat<ts.length:=by omega
  have a3':RFs (H++X++Y++Z) vs ts F:=(a3.ext Y).ext Z
  obtain⟨v0,Gk,F1,F2,e0,r0,eG,rb⟩:=a3'.split (List.getElem?_eq_getElem hkt)
  subst eG
  have ha3:a<(H++X++Y++Z).length:=by simp only[List.length_append]at *;omega
  have e3:(H++X++Y++Z)[a]?=some vs:=by rw[List.getElem?_append_left (by simp only[List.length_append]at *;omega),List.getElem?_append_left ha];exact a2
  have fr1:∀b,b≠a→((H++X++Y++Z).set a (vs.set kk.toNat vw))[b]?=(H++X++Y++Z)[b]?:=fun b hb=>List.getElem?_set_ne (Ne.symm hb)
  have rw':RF ((H++X++Y++Z).set a (vs.set kk.toNat vw)) vw w Fw:=(b2.ext Z).frame fun b m=>fr1 b fun q=>aFw (q▸m)
  have rs:=rb ((H++X++Y++Z).set a (vs.set kk.toNat vw)) vw w Fw rw' (fun b m=>fr1 b fun q=>a5 (q▸List.mem_append_left _ m)) (fun b m=>fr1 b fun q=>a5 (q▸List.mem_append_right _ (Zz3 _ m)))
  have hin:∀b∈F1++(Fw++F2),b∈F1++(Gk++F2)∨b∈Fw:=fun b m=>by
   simp only[List.mem_append]at m ⊢
   rcases m with m | m | m
   ·exact .inl (.inl m)
   ·exact .inr m
   ·exact .inl (.inr (.inr m))
  have nin:a∉F1++(Fw++F2):=fun m=>(hin a m).elim a5 aFw
  refine⟨upd ρ i (.ref a),(H++X++Y++Z).set a (vs.set kk.toNat vw),Zam Φ i (a::(F1++(Fw++F2))),by simp,fun b hb _=>?_,.inl ⟨rfl,?_,⟨fun j t' e'=>?_,fun j t' e'=>?_,fun j hj t' e'=>?_,?_,fun b hb hn=>?_,s.pos,s.f0⟩,fun b m=>?_⟩⟩
  ·rw[fr1 b (by omega),List.getElem?_append_left (by simp only[List.length_append];omega),List.getElem?_append_left (by simp only[List.length_append];omega),List.getElem?_append_left hb]
  ·have e5:Zb i (upd ρ i (.ref a)) (H++X++Y)=some (.ref a,H++X++Y):=by simp[Zb,upd]
   simp only[Zu,ZL,a1,Option.map_some,Option.bind_some,Zbl,b1,e5,c1,ZjT,e3]
   rw[if_pos ⟨by have:=s.pos;have:=s.len;omega,by rw[a3'.length];exact hk⟩]
   rfl
  ·by_cases q:j=i
   ·subst q
    simp[Z8]at e'
    subst e'
    exact⟨.ref a,by simp[upd],by simp only[Zam,if_true];exact .ref (List.getElem?_set_self ha3) rs⟩
   ·simp[Z8,q]at e'
    obtain⟨w',g1,g2⟩:=s.slot j t' e'
    refine⟨w',by simp[upd,q,g1],?_⟩
    simp only[Zam,q,if_false]
    exact(((g2.ext X).ext Y).ext Z).frame fun b m=>fr1 b (by have:=low j t' e' b m;omega)
  ·by_cases q:j=i
   ·subst q
    simp only[Zam,if_true]
    intro b m
    rcases Zz7.mp m with rfl | m
    ·exact .inl (Nat.le_trans s.len a4)
    ·rcases hin b m with m | m
     ·exact s.from_src (a6 b m)
     ·exact srcw b m
   ·simp[Z8,q]at e'
    simpa [Zam,q]using s.src j t' e'
  ·have hji:j≠i:=fun q=>hi (q▸hj)
   simp[Z8,hji]at e'
   obtain⟨p1,p2,p3⟩:=s.own j (hO j hj) t' e'
   simp only[Zam,hji,if_false]
   refine⟨p1,p2,fun l w' hl el b hb=>?_⟩
   by_cases q:l=i
   ·subst q
    simp only[if_true]
    intro m
    rcases Zz7.mp m with rfl | m
    ·have:=low j t' e' b hb;omega
    ·rcases hin b m with m | m
     ·exact s'.from_off hN (a6 b m) hj e' hb
     ·exact offw b m j hj t' e' hb
   ·simp[Z8,q]at el
    simpa [q]using p3 l w' hl el b hb
  ·have:=s.len
   simp only[List.length_set,List.length_append]
   omega
  ·have:=s.len
   rw[fr1 b (by omega),List.getElem?_append_left (by simp only[List.length_append];omega),List.getElem?_append_left (by simp only[List.length_append];omega),List.getElem?_append_left (by omega)]
   exact s.keep b hb hn
  ·obtain⟨j,hj,⟨t',e'⟩,m⟩:=m
   have hji:j≠i:=fun q=>hi (q▸hj)
   simp[Z8,hji]at e'
   simp[Zam,hji]at m
   exact .inr ⟨j,hO j hj,⟨t',e'⟩,m⟩
 ·cases q
theorem ZzM{O' R:List Nat}{fr:Bool}{a b c:Sm}{q:PS}(h:S O O' R fr (Zu (Zu a b) c) q): S O O' R fr (Zu a (Zu b c)) q:=by
 have:Zu (Zu a b) c=Zu a (Zu b c):=by
  funext ρ H
  simp only[Zu]
  cases a ρ H with
  | none=>rfl
  | some r=>
   obtain⟨o,ρ1,H1⟩:=r
   cases o <;> rfl
 rw[←this]
 exact h
end
section
variable {R:T→Prop} {N:TL→Prop} {σ:TL}
theorem ZvX{i:Nat}{p pv pk:PE}(h:Pk (p σ) fun t=>∃ts,t=.lst ts∧Pk (pv (Z8 σ i (.lst ts))) fun w=>Pk (pk (Z8 σ i (.lst ts))) fun k=>∃kk:Int,k=.int kk∧0≤kk∧kk<ts.length∧N (Z8 σ i (.lst (ts.set kk.toNat w)))): Psk (Zjd i p pv pk σ) R N:=by
 obtain⟨_,e1,ts,rfl,w,e2,_,e3,kk,rfl,h0,h1,hN⟩:=h
 refine⟨none,_,?_,fun t q=>(by cases q),fun _=>hN⟩
 simp only[Zjd,e1,Option.bind_some,e2,e3]
 rw[if_pos ⟨h0,h1⟩]
end
end TM
end
section
open PySem PySem.W PySem.Calls PyProof.Rows
namespace PM
section
variable {prog:Program} {w:World} {Γ:Cx}
theorem Zrm{e:Expr}{lo hi:Option Expr}{p pos:Pos}{f:Ex}{a b:Pt}(h:J prog w Γ e f)(hlo:JP prog w Γ lo a)(hhi:JP prog w Γ hi b)(hs:∀a c,subscripted (.Slice lo hi Option.none p) false (.ref a) (.ref c)=operate [.ref c,.ref a] (getItem (.ref a) (.ref c)):=by intros;with_unfolding_all rfl): J prog w Γ (.Subscript e (.Slice lo hi Option.none p) pos) (Zdv f a b):=by
 intro W ρ H fr s Q E v H' r hf post
 obtain⟨p,e1,hf⟩:=Zz0.mp hf
 obtain⟨q,e2,hf⟩:=Zz0.mp hf
 obtain⟨u,e3,hf⟩:=Zz0.mp hf
 obtain⟨ka,e4,hf⟩:=Zz0.mp hf
 obtain⟨kb,e5,hf⟩:=Zz0.mp hf
 refine Subscript_ (h W ρ H fr s _ E _ _ r e1 fun W1 k1 t1 x l1 r1 x1=>?_)
 refine wpAny_Slice (hlo W1 ρ _ fr _ _ E _ _ r1 e2 fun W2 k2 t2 y l2 r2 y2=>?_)
 refine hhi W2 ρ _ fr _ _ E _ _ r2 e3 fun W3 k3 t3 z l3 r3 z3=>?_
 have x3:=x1.mono (l2.trans l3)
 obtain⟨v1,H1⟩:=p
 simp only at hf x3
 cases x3 with
 | none=>cases hf
 | bool _=>cases hf
 | int _ _=>cases hf
 | str _ _=>cases hf
 | tup _ _ _=>cases hf
 | @ref i a ea=>
  obtain⟨vs,hvs,e6⟩:=Zz0.mp hf
  cases e6
  obtain⟨hl,xs,kk,hg,hv⟩:=r3.at hvs ea
  have isl:k3.IsList a xs.toArray:=⟨_,hg,rfl,kk,rfl⟩
  have hp:VRs W3 (ZbI vs ka kb) (ZbI xs ka kb):=by
   unfold ZbI
   rw[hv.length]
   exact hv.pick _
  have hx:slicePick xs.toArray ka kb Option.none=(ZbI xs ka kb).toArray:=by
   unfold slicePick ZbI
   simp
  obtain⟨W4,l4,r4,v4⟩:=(r3.push { cls:=.type "slice",data:=.fields #[y,z,.none] }).list (k:=0) hp (Nat.le_trans (Zrb vs ka kb) hl)
  have hQ:=post W4 _ t3 _ (((l1.trans l2).trans l3).trans l4) r4 v4
  rw[evalPart_none]
  refine wpAny_pure (kba_turn (value':=.Name (Str.ofString "_") ⟨0,0,0,0⟩) (fun _=>rfl) ?_)
  refine subscriptTail_ops (T:="list") ((isl.push _).typeIs) list_getitem_lookup ?_ (hs _ _) (fun _=>rfl)
  refine wpAny_getItem_list_slice (isl.push _) (Heap.IsSliceOf.new ..) ((y2.mono l3).part e4) (z3.part e5) .none (by simp) ?_ (Zdc (by simp[hv.length];exact hl))
  rw[hx]
  exact hQ
end
end PM
end
section
namespace PM
open PySem PySem.W PySem.Calls PyProof.Rows PyProof PySem.Spec
noncomputable def Zjx: Expr→Bool
 | .Starred _ _=>true
 | _=>false
theorem Zpf{e:Expr}{es:List Expr}{env:Env}(h:Zjx e=false): starEach (e::es) env=(false,eval e env)::starEach es env:=by
 cases e <;> first | rfl | cases h
noncomputable def Zjy: List Expr→Bool
 | []=>true
 | e::es=>!Zjx e && Zjy es
theorem ZsQ{env:Env}: ∀{es:List Expr} (pos:Pos),Zjy es=true→(backTo pos (starEach es env)).any (·.1)=false
 | [],pos,_=>by rfl
 | e::es,pos,h=>by
  simp only[Zjy,Bool.and_eq_true,Bool.not_eq_true']at h
  have ih:=ZsQ (env:=env) (es:=es) pos h.2
  rw[Zpf h.1]
  unfold backTo at ih ⊢
  simp only[List.map_cons,List.any_cons,Bool.false_or]
  exact ih
section
variable {prog:Program} {w:World} {Γ:Cx}
theorem jc{e:Expr}{es:List Expr}{f:Ex}{g:Exs}(h1:J prog w Γ e f)(h2:Js prog w Γ es g)(hs:Zjx e=false:=by exact rfl): Js prog w Γ (e::es) (Ze f g):=Zxl h1 h2 (Zpf hs)
end
section
variable {prog:Program} {w:World} {K:Frag} {p:Program} {loose:List Str} {mean:ExcName→Option Value} {mg mb:Str→Option Value}
theorem Zw1{f:Addr}{room:Nat}: Def prog w K p loose mean mg mb f room (fun _ _=>none):=by
 intro Γ dp un clr hd hu W ρ H fr s Q E as xs v H' r hx hF post
 cases hF
end
end PM
end
section
namespace PM
open PySem PySem.W PySem.Calls PyProof.Rows PyProof PySem.Spec
section
variable {prog:Program} {w:World} {Γ:Cx}
theorem ln1{α:Type _}: ∀{xs:List α},xs.length=1→∃x0,xs=[x0]
 | [x0],_=>⟨x0,rfl⟩
theorem ln2{α:Type _}: ∀{xs:List α},xs.length=2→∃x0 x1,xs=[x0,x1]
 | [x0,x1],_=>⟨x0,x1,rfl⟩
theorem ln3{α:Type _}: ∀{xs:List α},xs.length=3→∃x0 x1 x2,xs=[x0,x1,x2]
 | [x0,x1,x2],_=>⟨x0,x1,x2,rfl⟩
theorem ln4{α:Type _}: ∀{xs:List α},xs.length=4→∃x0 x1 x2 x3,xs=[x0,x1,x2,x3]
 | [x0,x1,x2,x3],_=>⟨x0,x1,x2,x3,rfl⟩
theorem ln5{α:Type _}: ∀{xs:List α},xs.length=5→∃x0 x1 x2 x3 x4,xs=[x0,x1,x2,x3,x4]
 | [x0,x1,x2,x3,x4],_=>⟨x0,x1,x2,x3,x4,rfl⟩
theorem ln6{α:Type _}: ∀{xs:List α},xs.length=6→∃x0 x1 x2 x3 x4 x5,xs=[x0,x1,x2,x3,x4,x5]
 | [x0,x1,x2,x3,x4,x5],_=>⟨x0,x1,x2,x3,x4,x5,rfl⟩
theorem ln7{α:Type _}: ∀{xs:List α},xs.length=7→∃x0 x1 x2 x3 x4 x5 x6,xs=[x0,x1,x2,x3,x4,x5,x6]
 | [x0,x1,x2,x3,x4,x5,x6],_=>⟨x0,x1,x2,x3,x4,x5,x6,rfl⟩
theorem jI{k:Int}{n:Nat}{pos:Pos}: J prog w Γ (.Constant (.int k) n pos) (Zk k):=J.int _ _ _
theorem jN{n:Nat}{pos:Pos}: J prog w Γ (.Constant .none n pos) ZY:=J.none _ _
theorem jB{b:Bool}{n:Nat}{pos:Pos}: J prog w Γ (.Constant (.bool b) n pos) (Zco b):=J.bool _ _ _
theorem jS{x:Str}{n:Nat}{pos:Pos}: J prog w Γ (.Constant (.str x) n pos) (Za4 x):=J.str _ _ _
theorem cO{elt iter:Expr}{x:Str}{px:Pos}{ifs:List Expr}{scope:Scope}{pos:Pos}{cl:List (Str×Addr)}{t:Nat}{g:Src}{c:Ts}{f:Ex}(hg:JI prog w Γ iter g)(hel:∀C ρ,J prog w (Zbu Γ scope cl C [(x,t)] ρ) elt f)(hif:∀C ρ,JF prog w (Zbu Γ scope cl C [(x,t)] ρ) ifs c)
  (hclos:closureFor scope Γ.env=pure cl:=by with_unfolding_all rfl) (hcell:∀y∈scope.names,y.2≠.cell:=by decide) (hkind:scope.kind=.function:=by exact rfl) (hnames:∀y∈scope.names,y.2=.local→scope.names.lookup y.1=some .local:=by decide) (hx:scope.names.lookup x=some .local:=by exact rfl) (hs:∀x,foldedSetIterable iter Γ.env x=pure x:=by intro _;rfl):
  J prog w Γ (.ListComp elt [⟨.Name x px,iter,ifs,0⟩] scope pos) (Zaw g (put1 t) c f):=Zyy hg hel hif hclos hcell hkind hnames hx hs
theorem cT{elt iter:Expr}{x x₂:Str}{px px₂ tp:Pos}{kt:Nat}{scope:Scope}{pos:Pos}{cl:List (Str×Addr)}{t t₂:Nat}{g:Src}{f:Ex}(hg:JI2 prog w Γ iter g)(hel:∀C ρ,J prog w (Zbu Γ scope cl C [(x,t),(x₂,t₂)] ρ) elt f)
  (hclos:closureFor scope Γ.env=pure cl:=by with_unfolding_all rfl) (hcell:∀y∈scope.names,y.2≠.cell:=by decide) (hkind:scope.kind=.function:=by exact rfl) (hnames:∀y∈scope.names,y.2=.local→scope.names.lookup y.1=some .local:=by decide) (hx:scope.names.lookup x=some .local:=by exact rfl) (hx₂:scope.names.lookup x₂=some .local:=by exact rfl) (hxx:x≠x₂:=by decide) (htt:t≠t₂:=by decide) (hs:∀x,foldedSetIterable iter Γ.env x=pure x:=by intro _;rfl):
  J prog w Γ (.ListComp elt [⟨.Tuple [.Name x px,.Name x₂ px₂] kt tp,iter,[],0⟩] scope pos) (Zaw g (Zci t t₂) Zao f):=Zxr hg hel hclos hcell hkind hnames hx hx₂ hxx htt hs
theorem sO{elt iter:Expr}{x y:Str}{px py pos spos:Pos}{ifs:List Expr}{scope:Scope}{cl:List (Str×Addr)}{t i:Nat}{g:Src}{c:Ts}{f:Ex}(hy:Sto prog w Γ y i)(hg:JI prog w Γ iter g)(hel:∀C ρ,J prog w (Zbu Γ scope cl C [(x,t)] ρ) elt f)(hif:∀C ρ,JF prog w (Zbu Γ scope cl C [(x,t)] ρ) ifs c)
  (hsw:swapsWith (.ListComp elt [⟨.Name x px,iter,ifs,0⟩] scope pos) (some (.Name y py)) spos.line Γ.env=pure true:=by rfl)
  (hclos:closureFor scope Γ.env=pure cl:=by with_unfolding_all rfl) (hcell:∀y∈scope.names,y.2≠.cell:=by decide) (hkind:scope.kind=.function:=by exact rfl) (hnames:∀y∈scope.names,y.2=.local→scope.names.lookup y.1=some .local:=by decide) (hx:scope.names.lookup x=some .local:=by exact rfl) (hs:∀x,foldedSetIterable iter Γ.env x=pure x:=by intro _;rfl):
  S1 prog w Γ (.Assign [.Name y py] (.ListComp elt [⟨.Name x px,iter,ifs,0⟩] scope pos) spos) (ZL i (Zaw g (put1 t) c f)):=ZuY hy hg hel hif hsw hclos hcell hkind hnames hx hs
theorem sT{elt iter:Expr}{x x₂ y:Str}{px px₂ tp py pos spos:Pos}{kt:Nat}{scope:Scope}{cl:List (Str×Addr)}{t t₂ i:Nat}{g:Src}{f:Ex}(hy:Sto prog w Γ y i)(hg:JI2 prog w Γ iter g)(hel:∀C ρ,J prog w (Zbu Γ scope cl C [(x,t),(x₂,t₂)] ρ) elt f)
  (hsw:swapsWith (.ListComp elt [⟨.Tuple [.Name x px,.Name x₂ px₂] kt tp,iter,[],0⟩] scope pos) (some (.Name y py)) spos.line Γ.env=pure true:=by rfl)
  (hclos:closureFor scope Γ.env=pure cl:=by with_unfolding_all rfl) (hcell:∀y∈scope.names,y.2≠.cell:=by decide) (hkind:scope.kind=.function:=by exact rfl) (hnames:∀y∈scope.names,y.2=.local→scope.names.lookup y.1=some .local:=by decide) (hx:scope.names.lookup x=some .local:=by exact rfl) (hx₂:scope.names.lookup x₂=some .local:=by exact rfl) (hxx:x≠x₂:=by decide) (htt:t≠t₂:=by decide) (hs:∀x,foldedSetIterable iter Γ.env x=pure x:=by intro _;rfl):
  S1 prog w Γ (.Assign [.Name y py] (.ListComp elt [⟨.Tuple [.Name x px,.Name x₂ px₂] kt tp,iter,[],0⟩] scope pos) spos) (ZL i (Zaw g (Zci t t₂) Zao f)):=Zux hy hg hel hsw hclos hcell hkind hnames hx hx₂ hxx htt hs
end
section
variable {prog:Program} {w:World} {dp un:Nat} {gd:Option (List Code)} {cn:Str} {cs:Scope} {L a:Addr} {ccd:Value} {cl:List (Str×Addr)} {outer:List Env} {h₀:Heap} {hu:un+200<cLine} {names:List Str}
theorem vL{x:Str}{i:Nat}{pos:Pos}(hi:names[i]?=some x:=by rfl)(hx:cs.names.lookup x=some .local:=by exact rfl)(hk:cs.kind=.function:=by exact rfl)(hd:(x == ("__debug__":Str))=false:=by exact rfl): J prog w (ZbT dp un gd cn cs L a ccd cl outer h₀ hu names) (.Name x pos) (Zb i):=ZjI (Zyw hi hx hk hd)
theorem vC{x:Str}{i:Nat}{pos:Pos}(hi:names[i]?=some x:=by rfl)(hx:cs.names.lookup x=some .cell:=by exact rfl)(hk:cs.kind=.function:=by exact rfl)(hd:(x == ("__debug__":Str))=false:=by exact rfl): J prog w (ZbT dp un gd cn cs L a ccd cl outer h₀ hu names) (.Name x pos) (Zb i):=ZjI (Zyx hi hx hk hd)
theorem sL{x:Str}{i:Nat}(nd:names.Nodup:=by decide)(hi:names[i]?=some x:=by rfl)(hx:cs.names.lookup x=some .local:=by exact rfl)(hk:cs.kind=.function:=by exact rfl): Sto prog w (ZbT dp un gd cn cs L a ccd cl outer h₀ hu names) x i:=Zxo nd hi hx hk
theorem sC{x:Str}{i:Nat}(nd:names.Nodup:=by decide)(hi:names[i]?=some x:=by rfl)(hx:cs.names.lookup x=some .cell:=by exact rfl)(hk:cs.kind=.function:=by exact rfl)(hcl:(cl.lookup x).isSome=true:=by exact rfl): Sto prog w (ZbT dp un gd cn cs L a ccd cl outer h₀ hu names) x i:=Zxp nd hi hx hk hcl
end
section
variable {prog:Program} {w:World} {K:Frag} {p:Program} {loose:List Str} {mean:ExcName→Option Value} {mg mb:Str→Option Value} {Γ:Cx} {dp un:Nat}
theorem nB{x:Str}{v:Value}(clr:Clr K p loose mean mg mb Γ dp un)(e:nsIn K mainGlobals x=some Option.none:=by k_is)(hv:bootBuiltins x=some v:=by boot_by_name)(hn:x≠"__name__":=by decide)(hg:Γ.env.globals=mainGlobals:=by exact rfl)(hb:Γ.env.builtins=builtinsNs:=by exact rfl)(hk:Γ.env.scope.kind=.function:=by exact rfl)(hx:Γ.env.kindOf x=some .globalImplicit:=by exact rfl)(hd:(x == ("__debug__":Str))=false:=by exact rfl): Nm prog w Γ x v:=ZwD clr e hv hn hg hb hk hx hd
theorem cF{x:Str}{np pos:Pos}{f:Addr}{room:Nat}{e:Expr}{es:List Expr}{g:Exs}{o:List V→Hp→Option (V×Hp)}(clr:Clr K p loose mean mg mb Γ dp un)(D:Def prog w K p loose mean mg mb f room o)(h:Js prog w Γ (e::es) g)
  (en:nsIn K mainGlobals x=some (some (.ref f)):=by k_is) (hg:Γ.env.globals=mainGlobals:=by exact rfl) (hk:Γ.env.scope.kind=.function:=by exact rfl) (hx:Γ.env.kindOf x=some .globalImplicit:=by exact rfl) (hd0:(x == ("__debug__":Str))=false:=by exact rfl)
  (hkeep:keepIn K (.ref f)=true:=by k_is) (hd:dp+room<recursionLimit:=by omega) (hu:un+10*room+300<cLine:=by omega)
  (he:Zjx e=false:=by exact rfl) (hp:Zjy es=true:=by exact rfl):J prog w Γ (.Call (.Name x np) (e::es) [] pos) (Zs o g):=Zxs clr (ZyC clr en hg hk hx hd0) hkeep D hd hu h (Zpf he) (fun pos=>ZsQ pos hp)
theorem Dof{name qual:Str}{params:Arguments}{body:List Stmt}{scope:Scope}{dV kV doc pm cdv ct oc:Value}{an od:Option Addr}{osl:Array (Option Value)}{f:Addr}{names:List Str}{n room:Nat}{g:Sm}
  (hbody:∀(dp un:Nat) (gd:Option (List Code)) (L:Addr) (outer:List Env) (h₀:Heap) (hu:un+200<cLine),Clr K p loose mean mg mb (ZbT dp un gd qual scope L f cdv (cellsFrom (L+1) scope.names []) outer h₀ hu names) dp un→dp+room<recursionLimit→un+10*room+300<cLine →
   Ss prog w (ZbT dp un gd qual scope L f cdv (cellsFrom (L+1) scope.names []) outer h₀ hu names) body g)
  (ho:K.lookup f=some ⟨oc,od,.func (fnOf name qual params body scope dV kV doc pm an cdv ct),osl⟩:=by k_is) (hcd:codeIn K cdv qual=true:=by k_is) (nd:names.Nodup:=by decide) (hn:n≤names.length:=by decide)
  (hbind:∀s xs,xs.length=n→BindsTo s (fnOf name qual params body scope dV kV doc pm an cdv ct) ⟨xs,[]⟩ ((names.take n).zip xs):=by
   intro s xs hx
   first
   | (obtain⟨x0,rfl⟩:=ln1 hx;exact BindsTo.of_eq rfl)
   | (obtain⟨x0,x1,rfl⟩:=ln2 hx;exact BindsTo.of_eq rfl)
   | (obtain⟨x0,x1,x2,rfl⟩:=ln3 hx;exact BindsTo.of_eq rfl)
   | (obtain⟨x0,x1,x2,x3,rfl⟩:=ln4 hx;exact BindsTo.of_eq rfl)
   | (obtain⟨x0,x1,x2,x3,x4,rfl⟩:=ln5 hx;exact BindsTo.of_eq rfl)
   | (obtain⟨x0,x1,x2,x3,x4,x5,rfl⟩:=ln6 hx;exact BindsTo.of_eq rfl)
   | (obtain⟨x0,x1,x2,x3,x4,x5,x6,rfl⟩:=ln7 hx;exact BindsTo.of_eq rfl)) (hkinds:∀x∈names.take n,scope.names.lookup x=some .local∨scope.names.lookup x=some .cell:=by decide) (hone:((cellsFrom 0 scope.names []).map (·.1)).Nodup:=by decide +kernel)
  (hco:scope.isCoroutine=false:=by exact rfl) (hgen:scope.isGenerator=false:=by exact rfl) (hk:scope.kind=.function:=by exact rfl):
  Def prog w K p loose mean mg mb f (room+1) (Z5 n g):=Zso ho hcd nd hn hbind hkinds hone hco hgen hk hbody
end
section
variable {prog:Program} {w:World} {Γ:Cx} {scope:Scope} {cl:List (Str×Addr)} {C:Addr} {ts:List (Str×Nat)} {ρ0:Lc}
theorem vO{x:Str}{t:Nat}{pos:Pos}(hm:(x,t)∈ts:=by first | exact Zz5 | exact Zz2 _ Zz5)(hk:scope.kind=.function:=by exact rfl)(hl:(compEnvC scope cl C Γ.env).kindOf x=some .local:=by exact rfl)(hd:(x == ("__debug__":Str))=false:=by exact rfl): J prog w (Zbu Γ scope cl C ts ρ0) (.Name x pos) (Zb t):=ZjI (Zxu hm hk hl hd)
end
section
variable {prog:Program} {w:World} {dp un:Nat} {gd:Option (List Code)} {cn:Str} {cs:Scope} {L a:Addr} {ccd:Value} {clf:List (Str×Addr)} {outer:List Env} {h₀:Heap} {hu:un+200<cLine} {names:List Str} {scope:Scope} {cl:List (Str×Addr)} {C:Addr} {ts:List (Str×Nat)} {ρ0:Lc}
theorem vD{x:Str}{i:Nat}{pos:Pos}(hi:names[i]?=some x:=by rfl)(hx:cs.names.lookup x=some .cell:=by exact rfl)(hne:∀p∈ts,p.2≠i:=by decide)(hcl:cl.lookup x=clf.lookup x:=by exact rfl)(hk:scope.kind=.function:=by exact rfl)(hl:(compEnvC scope cl C (envX cn cs L a ccd clf)).kindOf x=some .cell:=by exact rfl)(hd:(x == ("__debug__":Str))=false:=by exact rfl):
  J prog w (Zbu (ZbT dp un gd cn cs L a ccd clf outer h₀ hu names) scope cl C ts ρ0) (.Name x pos) (Zb i):=ZjI (Zxv hi hx hne hcl hk hl hd)
end
end PM
end
noncomputable section
open PySem PM TM
namespace L
variable {H:Hp} {a:V} {t:T} {F:List Nat} {ρ:Lc} {σ:TL}
def ZlK: Sm:=Zu (ZL 2 (Zh Zaf (Zh ZaT (Zh ZaT (Zb 1) (Zb 1)) (Zk 7919)) (Zk 11))) (Zu (ZW (ZK (Zh oGt (Zs ZaF (Ze (Zb 0) Zn)) (Zk 0))) (ZL 2 (Zh Zaf (Zb 2) (Zh Zr (Zb 0) (Zh oMod (Zb 1) (Zs ZaF (Ze (Zb 0) Zn)))))) Z0) (ZE (Zb 2)))
def Zii:=Z5 2 ZlK
def ZlL: PS:=(Zt (ZM 2 (Zg Zad (Zg ZaC (Zg ZaC (Za 1) (Za 1)) (Zj 7919)) (Zj 11))) (Zt (ZT (ZG (Zg qGt (Zv Zat (Zd (Za 0) Zm)) (Zj 0))) (ZM 2 (Zg Zad (Za 2) (Zg Zq (Za 0) (Zg ZaV (Za 1) (Zv Zat (Zd (Za 0) Zm)))))) ZX) (ZD (Za 2))))
def ZgL:=Z9 2 ZlL
theorem Zqe: SimF false Zii ZgL:=Zac (show S [] [] [] false ZlK ZlL from(ZA (ZU (O':=[]) (Zab Zag (Zab Zba (Zab Zba (Zc 1) (Zc 1)) (Zl _)) (Zl _))) (ZA (Z3 (ZN (ZC Zgv (Zav ZaO (Zf (Zc 0) Zo)) (Zl _))) (ZU (O':=[]) (Zab Zag (Zc 2) (Zy Zx (Zc 0) (ZC Za9 (Zc 1) (Zav ZaO (Zf (Zc 0) Zo)))))) Z6) (ZR (Zc 2)))))
def Zmm: Sm:=ZE (Zh oMod (Zh oMod (Zh ZaT (Zs Zii (Ze (Zb 0) (Ze (Zb 1) Zn))) (Zk 48271)) (Zk 2147483647)) (Zb 2))
def Zcm:=Z5 3 Zmm
def Zmn: PS:=(ZD (Zg ZaV (Zg ZaV (Zg ZaC (Zv ZgL (Zd (Za 0) (Zd (Za 1) Zm))) (Zj 48271)) (Zj 2147483647)) (Za 2)))
def ZbK:=Z9 3 Zmn
theorem ZcA: SimF false Zcm ZbK:=Zac (show S [] [] [] false Zmm Zmn from(ZR (ZC Za9 (ZC Za9 (Zab Zba (ZI Zqe (Zf (Zc 0) (Zf (Zc 1) Zo))) (Zl _)) (Zl _)) (Zc 2))))
def Zli: Sm:=Zu (ZL 2 (Zs Zii (Ze (Zb 0) (Ze (Zb 1) Zn)))) (Zu (ZL 3 (Zh Zr (Zbc (Ze (Zk 3) (Ze (Zk 9) (Ze (Zh oPow (Zk 10) (Zk 9)) (Ze (Zh oPow (Zk 10) (Zk 40)) Zn))))) (Zh oMod (Zh oMod (Zh ZaT (Zb 2) (Zk 69621)) (Zk 2147483629)) (Zk 4)))) (ZE (Zh Zbe (Zh oMod (Zh ZaT (Zb 2) (Zh oPow (Zk 48271) (Zk 9))) (Zh Zaf (Zh ZaT (Zk 2) (Zb 3)) (Zk 1))) (Zb 3))))
def Zen:=Z5 2 Zli
def Zlj: PS:=(Zt (ZM 2 (Zv ZgL (Zd (Za 0) (Zd (Za 1) Zm)))) (Zt (ZM 3 (Zg Zq (Za2 (Zd (Zj 3) (Zd (Zj 9) (Zd (Zg ZdF (Zj 10) (Zj 9)) (Zd (Zg ZdF (Zj 10) (Zj 40)) Zm))))) (Zg ZaV (Zg ZaV (Zg ZaC (Za 2) (Zj 69621)) (Zj 2147483629)) (Zj 4)))) (ZD (Zg Za0 (Zg ZaV (Zg ZaC (Za 2) (Zg ZdF (Zj 48271) (Zj 9))) (Zg Zad (Zg ZaC (Zj 2) (Za 3)) (Zj 1))) (Za 3)))))
def ZdU:=Z9 2 Zlj
theorem Zfx: SimF false Zen ZdU:=Zac (show S [] [] [] false Zli Zlj from(ZA (ZU (O':=[]) (ZI Zqe (Zf (Zc 0) (Zf (Zc 1) Zo)))) (ZA (ZU (O':=[]) (Zy Zx (E.list (Zf (Zl _) (Zf (Zl _) (Zf (ZC Zpd (Zl _) (Zl _)) (Zf (ZC Zpd (Zl _) (Zl _)) Zo))))) (ZC Za9 (ZC Za9 (Zab Zba (Zc 2) (Zl _)) (Zl _)) (Zl _)))) (ZR (ZC Zbi (ZC Za9 (Zab Zba (Zc 2) (ZC Zpd (Zl _) (Zl _))) (Zab Zag (Zab Zba (Zl _) (Zc 3)) (Zl _))) (Zc 3))))))
def ZlM: Sm:=Zu (ZL 2 (Zs Zcm (Ze (Zb 0) (Ze (Zb 1) (Ze (Zk 42) Zn))))) (Zu (ZW (ZK (Zh oLt (Zh oMod (Zb 2) (Zk 6)) (Zk 2))) (ZE (ZY)) Z0) (Zu (ZW (ZK (Zh oLt (Zh oMod (Zb 2) (Zk 6)) (Zk 4))) (ZE (Zk 0)) Z0) (Zu (ZW (ZK (Zh oEq (Zh oMod (Zb 2) (Zk 6)) (Zk 4))) (ZE (Zh oDiv (Zb 2) (Zk 6))) Z0) (ZE (Zs Zdn (Ze (Zs Zen (Ze (Zb 0) (Ze (Zb 1) Zn))) Zn))))))
def ZlN:=Z5 2 ZlM
def ZlO: PS:=(Zt (ZM 2 (Zv ZbK (Zd (Za 0) (Zd (Za 1) (Zd (Zj 42) Zm))))) (Zt (ZT (ZG (Zg qLt (Zg ZaV (Za 2) (Zj 6)) (Zj 2))) (ZD (ZV)) ZX) (Zt (ZT (ZG (Zg qLt (Zg ZaV (Za 2) (Zj 6)) (Zj 4))) (ZD (Zj 0)) ZX) (Zt (ZT (ZG (Zg qEq (Zg ZaV (Za 2) (Zj 6)) (Zj 4))) (ZD (Zg ZbU (Za 2) (Zj 6))) ZX) (ZD (Zv Zdp (Zd (Zv ZdU (Zd (Za 0) (Zd (Za 1) Zm))) Zm)))))))
def Zij:=Z9 2 ZlO
theorem ZuA: SimF false ZlN Zij:=Zac (show S [] [] [] false ZlM ZlO from(ZA (ZU (O':=[]) (ZI ZcA (Zf (Zc 0) (Zf (Zc 1) (Zf (Zl _) Zo))))) (ZA (Z3 (ZN (ZC ZcW (ZC Za9 (Zc 2) (Zl _)) (Zl _))) (ZR (Z7)) Z6) (ZA (Z3 (ZN (ZC ZcW (ZC Za9 (Zc 2) (Zl _)) (Zl _))) (ZR (Zl _)) Z6) (ZA (Z3 (ZN (ZC Zaq (ZC Za9 (Zc 2) (Zl _)) (Zl _))) (ZR (ZC Zcy (Zc 2) (Zl _))) Z6) (ZR (Zav Zee (Zf (ZI Zfx (Zf (Zc 0) (Zf (Zc 1) Zo))) Zo))))))))
def ZkL: Sm:=Zu (ZW (ZK (Zh oEq (Zb 0) (Zk 0))) (ZE (Zal (Ze (Zk 0) (Ze (Zb 1) Zn)))) Z0) (ZE (Zal (Ze (Zb 0) (Ze (Zh oMod (Zb 1) (Zb 0)) Zn))))
def Zek:=Z5 2 ZkL
def ZkM: PS:=(Zt (ZT (ZG (Zg qEq (Za 0) (Zj 0))) (ZD (Zak (Zd (Zj 0) (Zd (Za 1) Zm)))) ZX) (ZD (Zak (Zd (Za 0) (Zd (Zg ZaV (Za 1) (Za 0)) Zm)))))
def ZdR:=Z9 2 ZkM
theorem Zfs: SimF false Zek ZdR:=Zac (show S [] [] [] false ZkL ZkM from(ZA (Z3 (ZN (ZC Zaq (Zc 0) (Zl _))) (ZR (E.tup (Zf (Zl _) (Zf (Zc 1) Zo)))) Z6) (ZR (E.tup (Zf (Zc 0) (Zf (ZC Za9 (Zc 1) (Zc 0)) Zo))))))
def Zmo: Sm:=Zu (ZL 3 (Zs Zcm (Ze (Zb 0) (Ze (Zb 1) (Ze (Zk 60) Zn))))) (Zu (ZW (ZK (Zh oLt (Zh oMod (Zb 3) (Zk 5)) (Zk 2))) (ZE (Zal (Ze (Zk 1) (Ze (Zk 0) Zn)))) Z0) (Zu (ZW (ZK (Zh oEq (Zh oMod (Zb 3) (Zk 5)) (Zk 2))) (ZE (Zal (Ze (Zk 0) (Ze (Zb 2) Zn)))) Z0) (Zu (ZW (ZK (Zh oEq (Zh oMod (Zb 3) (Zk 5)) (Zk 3))) (ZE (Zs Zek (Ze (Zh Zaf (Zh oDiv (Zb 3) (Zk 5)) (Zk 1)) (Ze (Zb 2) Zn)))) Z0) (ZE (Zs Zek (Ze (Zs Zdn (Ze (Zs Zen (Ze (Zb 0) (Ze (Zb 1) Zn))) Zn)) (Ze (Zb 2) Zn)))))))
def Zmp:=Z5 3 Zmo
def Zmq: PS:=(Zt (ZM 3 (Zv ZbK (Zd (Za 0) (Zd (Za 1) (Zd (Zj 60) Zm))))) (Zt (ZT (ZG (Zg qLt (Zg ZaV (Za 3) (Zj 5)) (Zj 2))) (ZD (Zak (Zd (Zj 1) (Zd (Zj 0) Zm)))) ZX) (Zt (ZT (ZG (Zg qEq (Zg ZaV (Za 3) (Zj 5)) (Zj 2))) (ZD (Zak (Zd (Zj 0) (Zd (Za 2) Zm)))) ZX) (Zt (ZT (ZG (Zg qEq (Zg ZaV (Za 3) (Zj 5)) (Zj 3))) (ZD (Zv ZdR (Zd (Zg Zad (Zg ZbU (Za 3) (Zj 5)) (Zj 1)) (Zd (Za 2) Zm)))) ZX) (ZD (Zv ZdR (Zd (Zv Zdp (Zd (Zv ZdU (Zd (Za 0) (Zd (Za 1) Zm))) Zm)) (Zd (Za 2) Zm))))))))
def Zir:=Z9 3 Zmq
theorem Zu3: SimF false Zmp Zir:=Zac (show S [] [] [] false Zmo Zmq from(ZA (ZU (O':=[]) (ZI ZcA (Zf (Zc 0) (Zf (Zc 1) (Zf (Zl _) Zo))))) (ZA (Z3 (ZN (ZC ZcW (ZC Za9 (Zc 3) (Zl _)) (Zl _))) (ZR (E.tup (Zf (Zl _) (Zf (Zl _) Zo)))) Z6) (ZA (Z3 (ZN (ZC Zaq (ZC Za9 (Zc 3) (Zl _)) (Zl _))) (ZR (E.tup (Zf (Zl _) (Zf (Zc 2) Zo)))) Z6) (ZA (Z3 (ZN (ZC Zaq (ZC Za9 (Zc 3) (Zl _)) (Zl _))) (ZR (ZI Zfs (Zf (Zab Zag (ZC Zcy (Zc 3) (Zl _)) (Zl _)) (Zf (Zc 2) Zo)))) Z6) (ZR (ZI Zfs (Zf (Zav Zee (Zf (ZI Zfx (Zf (Zc 0) (Zf (Zc 1) Zo))) Zo)) (Zf (Zc 2) Zo)))))))))
def Zmr: Sm:=Zu (ZL 3 (Zh Zaf (Zbc (Ze (Zk 0) Zn)) (Zb 2))) (Zu (ZL 4 (Zs ZaF (Ze (Zb 3) Zn))) (Zu (ZL 5 (Zbc Zn)) (Zu (ZaK (ZaL (Ze (Zb 4) Zn)) (put1 6) (Zu (ZL 7 (Zbc Zn)) (Zu (ZaK (ZaL (Ze (Zb 4) Zn)) (put1 8) (Zu (ZL 9 (Zs ZlN (Ze (Zb 0) (Ze (Zh Zaf (Zh Zaf (Zb 1) (Zh ZaT (Zb 6) (Zb 4))) (Zb 8)) Zn)))) (Zu (ZW (ZK (Zh ZbN (Zb 9) (ZY))) (ZL 9 (Zh Zaf (Zh Zbe (Zh Zr (Zb 3) (Zb 6)) (Zh Zr (Zb 3) (Zb 8))) (Zb 9))) Z0) (Zb9 (Zd4 (Zb 7) (Zb 9)))))) (Zu (Zbl (Zk 0) (Zb 7) (Zb 6)) (Zb9 (Zd4 (Zb 5) (Zb 7))))))) (ZE (Zal (Ze (Zb 5) (Ze (Zaw (ZaL (Ze (Zh Zbe (Zb 4) (Zk 1)) Zn)) (put1 100) Zao (Zs Zmp (Ze (Zb 0) (Ze (Zh Zaf (Zh Zaf (Zb 1) (Zh ZaT (Zb 4) (Zb 4))) (Zb 100)) (Ze (Zh Zr (Zb 2) (Zb 100)) Zn))))) Zn)))))))
def Zms:=Z5 3 Zmr
def Zmt: PS:=(Zt (ZM 3 (Zg Zad (Za2 (Zd (Zj 0) Zm)) (Za 2))) (Zt (ZM 4 (Zv Zat (Zd (Za 3) Zm))) (Zt (ZM 5 (Za2 Zm)) (Zt (ZaD (Zaz (Zd (Za 4) Zm)) (Zae 6) (Zt (ZM 7 (Za2 Zm)) (Zt (ZaD (Zaz (Zd (Za 4) Zm)) (Zae 8) (Zt (ZM 9 (Zv Zij (Zd (Za 0) (Zd (Zg Zad (Zg Zad (Za 1) (Zg ZaC (Za 6) (Za 4))) (Za 8)) Zm)))) (Zt (ZT (ZG (Zg Zbz (Za 9) (ZV))) (ZM 9 (Zg Zad (Zg Za0 (Zg Zq (Za 3) (Za 6)) (Zg Zq (Za 3) (Za 8))) (Za 9))) ZX) (ZcX 7 [] ZaA (ZbR (Za 9)))))) (Zt (Zbb 7 [] (Zj 0) ZaA (Za 6)) (ZcX 5 [7] ZaA (Za 7)))))) (ZD (Zak (Zd (Za 5) (Zd (Zan (Zaz (Zd (Zg Za0 (Za 4) (Zj 1)) Zm)) (Zae 100) Zai (ZbR (Zv Zir (Zd (Za 0) (Zd (Zg Zad (Zg Zad (Za 1) (Zg ZaC (Za 4) (Za 4))) (Za 100)) (Zd (Zg Zq (Za 2) (Za 100)) Zm)))))) Zm))))))))
def Zis:=Z9 3 Zmt
theorem Zu4: SimF true Zms Zis:=Zac (show S [] [5] [] true Zmr Zmt from(ZA (ZU (O':=[]) (Zab Zag (E.list (Zf (Zl _) Zo)) (Zc 2))) (ZA (ZU (O':=[]) (Zav ZaO (Zf (Zc 3) Zo))) (ZA (ZbG (O':=[5]) (E.list Zo)) (ZA (Zbd (Gs.range (Zf (Zc 4) Zo)) PutOk.one (by decide) (by decide) (ZA (ZbG (O':=[5,7]) (Za1 (O':=[]) (E.list Zo))) (ZA (Zbd (Gs.range (Zf (Zc 4) Zo)) PutOk.one (by decide) (by decide) (ZA (ZU (O':=[5,7]) (ZI ZuA (Zf (Zc 0) (Zf (Zab Zag (Zab Zag (Zc 1) (Zab Zba (Zc 6) (Zc 4))) (Zc 8)) Zo)))) (ZA (Z3 (ZN (ZC Zcf (Zc 9) (Z7))) (ZU (O':=[5,7]) (Zab Zag (ZC Zbi (Zy Zx (Zc 3) (Zc 6)) (Zy Zx (Zc 3) (Zc 8))) (Zc 9))) Z6) (Zgr (O':=[5,7]) (by decide) Zbn (Za1 (O':=[5]) (E.flat (Zc 9))) (by decide) (by decide))))) (ZA (S.put (O':=[5,7]) (by decide) (Za1 (O':=[5]) (Zl _)) Zbn (Zc 6) (by decide) (by decide)) (Zgr (O':=[5]) (by decide) Zbn (Za1 (O':=[7]) (E.own (by decide))) (by decide) (by decide)))))) (Zas (E.tup (Zd2 (E.own (by decide)) (Zd2 (ZcI (Gs.range (Zf (ZC Zbi (Zc 4) (Zl _)) Zo)) PutOk.one (by decide) Zax (Za1 (O':=[]) (E.flat (ZI Zu3 (Zf (Zc 0) (Zf (Zab Zag (Zab Zag (Zc 1) (Zab Zba (Zc 4) (Zc 4))) (Zc 100)) (Zf (Zy Zx (Zc 2) (Zc 100)) Zo))))))) Zo (by decide) (by decide)) (by decide) (by decide)))))))))
def Zmu: Sm:=Zu (ZW (ZK (Zh oIs (Zb 0) (ZY))) (ZE (ZY)) Z0) (ZE (Zal (Ze (Zaw (Zbm (Zh Zr (Zb 0) (Zk 0))) (put1 100) Zao (Zs Zdh (Ze (Zb 100) Zn))) (Ze (Zs Zdh (Ze (Zh Zr (Zb 0) (Zk 1)) Zn)) Zn))))
def Zmv:=Z5 1 Zmu
def Zit: PS:=(Zt (ZT (ZG (Zg qIs (Za 0) (ZV))) (ZD (ZV)) ZX) (ZD (Zak (Zd (Zan (ZaI (Zg Zq (Za 0) (Zj 0))) (Zae 100) Zai (Zv Zdi (Zd (Za 100) Zm))) (Zd (Zv Zdi (Zd (Zg Zq (Za 0) (Zj 1)) Zm)) Zm)))))
def Zeq:=Z9 1 Zit
theorem Zu5: SimF false Zmv Zeq:=Zac (show S [] [] [] false Zmu Zit from(ZA (Z3 (ZN (ZC Za6 (Zc 0) (Z7))) (ZR (Z7)) Z6) (ZR (E.tup (Zf (ZbF (Gs.seq (Zy Zx (Zc 0) (Zl _))) PutOk.one (by decide) Zax (Zi5 Ze4 (Zf (Zc 100) Zo))) (Zf (Zi5 Ze4 (Zf (Zy Zx (Zc 0) (Zl _)) Zo)) Zo))))))
def ZlP: Sm:=ZE (eOr (Zh oIs (Zb 1) (ZY)) (ZdD (Zh ZbN (Zb 0) (ZY)) (Zh oLe (Zb 0) (Zb 1))))
def Zik:=Z5 2 ZlP
def ZlQ: PS:=(ZD ((pOr (Zg qIs (Za 1) (ZV)) ((ZdE (Zg Zbz (Za 0) (ZV)) (Zg qLe (Za 0) (Za 1)))))))
def ZgM:=Z9 2 ZlQ
theorem Zqf: SimF false Zik ZgM:=Zac (show S [] [] [] false ZlP ZlQ from(ZR ((ZzZ (E.sh (ZC Za6 (Zc 1) (Z7))) (E.sh ((Zgq (E.sh (ZC Zcf (Zc 0) (Z7))) (E.sh (ZC Zpl (Zc 0) (Zc 1))))))))))
def Zmw: Sm:=Zu (ZW (ZK (Zh oEq (Zh Zr (Zb 0) (Zk 0)) (Zk 0))) (ZE (Zh oEq (Zb 1) (Zh Zr (Zb 0) (Zk 1)))) Z0) (ZE (Zh oEq (Zh oMod (Zb 1) (Zh Zr (Zb 0) (Zk 0))) (Zh Zr (Zb 0) (Zk 1))))
def ZeU:=Z5 2 Zmw
def Zmx: PS:=(Zt (ZT (ZG (Zg qEq (Zg Zq (Za 0) (Zj 0)) (Zj 0))) (ZD (Zg qEq (Za 1) (Zg Zq (Za 0) (Zj 1)))) ZX) (ZD (Zg qEq (Zg ZaV (Za 1) (Zg Zq (Za 0) (Zj 0))) (Zg Zq (Za 0) (Zj 1)))))
def Zer:=Z9 2 Zmx
theorem ZgW: SimF false ZeU Zer:=Zac (show S [] [] [] false Zmw Zmx from(ZA (Z3 (ZN (ZC Zaq (Zy Zx (Zc 0) (Zl _)) (Zl _))) (ZR (ZC Zaq (Zc 1) (Zy Zx (Zc 0) (Zl _)))) Z6) (ZR (ZC Zaq (ZC Za9 (Zc 1) (Zy Zx (Zc 0) (Zl _))) (Zy Zx (Zc 0) (Zl _))))))
def ZkN: Sm:=Zu (ZW (ZK (Zh oEq (Zh Zr (Zb 1) (Zk 0)) (Zk 0))) (ZE (Zh oEq (Zb 0) (Zb 1))) Z0) (ZE (ZdD (Zh oEq (Zh oMod (Zh Zr (Zb 0) (Zk 0)) (Zh Zr (Zb 1) (Zk 0))) (Zk 0)) (Zs ZeU (Ze (Zb 1) (Ze (Zh Zr (Zb 0) (Zk 1)) Zn)))))
def ZkO:=Z5 2 ZkN
def ZpL: PS:=(Zt (ZT (ZG (Zg qEq (Zg Zq (Za 1) (Zj 0)) (Zj 0))) (ZD (Zg qEq (Za 0) (Za 1))) ZX) (ZD ((ZdE (Zg qEq (Zg ZaV (Zg Zq (Za 0) (Zj 0)) (Zg Zq (Za 1) (Zj 0))) (Zj 0)) (Zv Zer (Zd (Za 1) (Zd (Zg Zq (Za 0) (Zj 1)) Zm)))))))
def ZpM:=Z9 2 ZpL
theorem ZtH: SimF false ZkO ZpM:=Zac (show S [] [] [] false ZkN ZpL from(ZA (Z3 (ZN (ZC Zaq (Zy Zx (Zc 1) (Zl _)) (Zl _))) (ZR (ZC Zaq (Zc 0) (Zc 1))) Z6) (ZR ((Zgq (E.sh (ZC Zaq (ZC Za9 (Zy Zx (Zc 0) (Zl _)) (Zy Zx (Zc 1) (Zl _))) (Zl _))) (E.sh (ZI ZgW (Zf (Zc 1) (Zf (Zy Zx (Zc 0) (Zl _)) Zo)))))))))
def Zng: Sm:=Zu (ZL 0 (Zs Zdn (Ze (Zb 0) Zn))) (Zu (ZL 1 (Zs Zdn (Ze (Zb 1) Zn))) (Zu (Zdg (ZK (Zh oNe (Zb 1) (Zk 0))) (Zu (ZL 2 (Zh oMod (Zb 0) (Zb 1))) (Zu (ZL 0 (Zb 1)) (ZL 1 (Zb 2)))) 1000000) (ZE (Zb 0))))
def Zg8:=Z5 2 Zng
def Znh: PS:=(Zt (ZM 0 (Zv Zdp (Zd (Za 0) Zm))) (Zt (ZM 1 (Zv Zdp (Zd (Za 1) Zm))) (Zt (Zdy (ZG (Zg qNe (Za 1) (Zj 0))) (Zt (ZM 2 (Zg ZaV (Za 0) (Za 1))) (Zt (ZM 0 (Za 1)) (ZM 1 (Za 2)))) 1000000) (ZD (Za 0)))))
def ZfR:=Z9 2 Znh
theorem Zni: SimF false Zg8 ZfR:=Zac (show S [] [] [] false Zng Znh from(ZA (ZU (O':=[]) (Zav Zee (Zf (Zc 0) Zo))) (ZA (ZU (O':=[]) (Zav Zee (Zf (Zc 1) Zo))) (ZA (Zf9 (ZN (ZC ZbV (Zc 1) (Zl _))) (ZA (ZU (O':=[]) (ZC Za9 (Zc 0) (Zc 1))) (ZA (ZU (O':=[]) (Zc 1)) (ZU (O':=[]) (Zc 2)))) 1000000) (ZR (Zc 0))))))
def Znj: Sm:=Zu (ZL 2 (Zs Zdn (Ze (Zb 0) Zn))) (Zu (ZL 3 (Zs Zdn (Ze (Zb 1) Zn))) (Zu (Zdg (ZK (Zh oNe (Zb 3) (Zk 0))) (Zu (ZL 4 (Zh oMod (Zb 2) (Zb 3))) (Zu (ZL 2 (Zb 3)) (ZL 3 (Zb 4)))) 1000000) (ZE (Zb 2))))
def ZfS:=Z5 2 Znj
def Znk: PS:=(Zt (ZM 2 (Zv Zdp (Zd (Za 0) Zm))) (Zt (ZM 3 (Zv Zdp (Zd (Za 1) Zm))) (Zt (Zdy (ZG (Zg qNe (Za 3) (Zj 0))) (Zt (ZM 4 (Zg ZaV (Za 2) (Za 3))) (Zt (ZM 2 (Za 3)) (ZM 3 (Za 4)))) 1000000) (ZD (Za 2)))))
def ZeX:=Z9 2 Znk
theorem ZiM: SimF false ZfS ZeX:=Zac (show S [] [] [] false Znj Znk from(ZA (ZU (O':=[]) (Zav Zee (Zf (Zc 0) Zo))) (ZA (ZU (O':=[]) (Zav Zee (Zf (Zc 1) Zo))) (ZA (Zf9 (ZN (ZC ZbV (Zc 3) (Zl _))) (ZA (ZU (O':=[]) (ZC Za9 (Zc 2) (Zc 3))) (ZA (ZU (O':=[]) (Zc 3)) (ZU (O':=[]) (Zc 4)))) 1000000) (ZR (Zc 2))))))
def ZoW: Sm:=Zu (ZW (ZK (Zh oLt (Zb 0) (Zk 0))) (PM.sNo) Z0) (Zu (ZW (ZK (Zh oEq (Zb 0) (Zk 0))) (ZE (Zal (Ze (Zk 0) (Ze (Zb 1) Zn)))) Z0) (ZE (Zal (Ze (Zb 0) (Ze (Zh oMod (Zb 1) (Zb 0)) Zn)))))
def ZeA:=Z5 2 ZoW
def ZoX: PS:=(Zt (ZT (ZG (Zg qLt (Za 0) (Zj 0))) (qNo) ZX) (Zt (ZT (ZG (Zg qEq (Za 0) (Zj 0))) (ZD (Zak (Zd (Zj 0) (Zd (Za 1) Zm)))) ZX) (ZD (Zak (Zd (Za 0) (Zd (Zg ZaV (Za 1) (Za 0)) Zm))))))
def Zd9:=Z9 2 ZoX
theorem Zgi: SimF false ZeA Zd9:=Zac (show S [] [] [] false ZoW ZoX from(ZA (Z3 (ZN (ZC ZcW (Zc 0) (Zl _))) (ZAa (O':=[])) Z6) (ZA (Z3 (ZN (ZC Zaq (Zc 0) (Zl _))) (ZR (E.tup (Zf (Zl _) (Zf (Zc 1) Zo)))) Z6) (ZR (E.tup (Zf (Zc 0) (Zf (ZC Za9 (Zc 1) (Zc 0)) Zo)))))))
def Znl: Sm:=Zu (ZL 2 (Zh oMod (Zb 0) (Zb 1))) (Zu (ZL 3 (Zb 1)) (Zu (ZL 4 (Zk 1)) (Zu (ZL 5 (Zk 0)) (Zu (Zdg (ZK (Zh oNe (Zb 3) (Zk 0))) (Zu (ZL 6 (Zh oDiv (Zb 2) (Zb 3))) (Zu (ZL 7 (Zh Zbe (Zb 2) (Zh ZaT (Zb 6) (Zb 3)))) (Zu (ZL 8 (Zh Zbe (Zb 4) (Zh ZaT (Zb 6) (Zb 5)))) (Zu (ZL 2 (Zb 3)) (Zu (ZL 4 (Zb 5)) (Zu (ZL 3 (Zb 7)) (ZL 5 (Zb 8)))))))) 1000000) (ZE (Zh oMod (Zb 4) (Zb 1)))))))
def Znm:=Z5 2 Znl
def Znn: PS:=(Zt (ZM 2 (Zg ZaV (Za 0) (Za 1))) (Zt (ZM 3 (Za 1)) (Zt (ZM 4 (Zj 1)) (Zt (ZM 5 (Zj 0)) (Zt (Zdy (ZG (Zg qNe (Za 3) (Zj 0))) (Zt (ZM 6 (Zg ZbU (Za 2) (Za 3))) (Zt (ZM 7 (Zg Za0 (Za 2) (Zg ZaC (Za 6) (Za 3)))) (Zt (ZM 8 (Zg Za0 (Za 4) (Zg ZaC (Za 6) (Za 5)))) (Zt (ZM 2 (Za 3)) (Zt (ZM 4 (Za 5)) (Zt (ZM 3 (Za 7)) (ZM 5 (Za 8)))))))) 1000000) (ZD (Zg ZaV (Za 4) (Za 1))))))))
def ZiN:=Z9 2 Znn
theorem ZvY: SimF false Znm ZiN:=Zac (show S [] [] [] false Znl Znn from(ZA (ZU (O':=[]) (ZC Za9 (Zc 0) (Zc 1))) (ZA (ZU (O':=[]) (Zc 1)) (ZA (ZU (O':=[]) (Zl _)) (ZA (ZU (O':=[]) (Zl _)) (ZA (Zf9 (ZN (ZC ZbV (Zc 3) (Zl _))) (ZA (ZU (O':=[]) (ZC Zcy (Zc 2) (Zc 3))) (ZA (ZU (O':=[]) (ZC Zbi (Zc 2) (Zab Zba (Zc 6) (Zc 3)))) (ZA (ZU (O':=[]) (ZC Zbi (Zc 4) (Zab Zba (Zc 6) (Zc 5)))) (ZA (ZU (O':=[]) (Zc 3)) (ZA (ZU (O':=[]) (Zc 5)) (ZA (ZU (O':=[]) (Zc 7)) (ZU (O':=[]) (Zc 8)))))))) 1000000) (ZR (ZC Za9 (Zc 4) (Zc 1)))))))))
def Zmy: Sm:=Zu (ZW (ZK (Zh oEq (Zh Zr (Zb 0) (Zk 0)) (Zk 0))) (ZE (eIf (ZK (Zs ZeU (Ze (Zb 1) (Ze (Zh Zr (Zb 0) (Zk 1)) Zn)))) (Zb 0) (ZY))) Z0) (Zu (ZW (ZK (Zh oEq (Zh Zr (Zb 1) (Zk 0)) (Zk 0))) (ZE (eIf (ZK (Zs ZeU (Ze (Zb 0) (Ze (Zh Zr (Zb 1) (Zk 1)) Zn)))) (Zb 1) (ZY))) Z0) (Zu (ZL 2 (Zs ZfS (Ze (Zh Zr (Zb 0) (Zk 0)) (Ze (Zh Zr (Zb 1) (Zk 0)) Zn)))) (Zu (ZL 3 (Zh Zbe (Zh Zr (Zb 1) (Zk 1)) (Zh Zr (Zb 0) (Zk 1)))) (Zu (ZW (ZK (Zh oNe (Zh oMod (Zb 3) (Zb 2)) (Zk 0))) (ZE (ZY)) Z0) (Zu (ZL 4 (Zh oDiv (Zh Zr (Zb 1) (Zk 0)) (Zb 2))) (Zu (ZL 5 (Zh ZaT (Zh oDiv (Zb 3) (Zb 2)) (Zs Znm (Ze (Zh oDiv (Zh Zr (Zb 0) (Zk 0)) (Zb 2)) (Ze (Zb 4) Zn))))) (ZE (Zs ZeA (Ze (Zh ZaT (Zh Zr (Zb 0) (Zk 0)) (Zb 4)) (Ze (Zh Zaf (Zh Zr (Zb 0) (Zk 1)) (Zh ZaT (Zh Zr (Zb 0) (Zk 0)) (Zb 5))) Zn))))))))))
def ZgX:=Z5 2 Zmy
def Zmz: PS:=(Zt (ZT (ZG (Zg qEq (Zg Zq (Za 0) (Zj 0)) (Zj 0))) (ZD (pIf (ZG (Zv Zer (Zd (Za 1) (Zd (Zg Zq (Za 0) (Zj 1)) Zm)))) (Za 0) (ZV))) ZX) (Zt (ZT (ZG (Zg qEq (Zg Zq (Za 1) (Zj 0)) (Zj 0))) (ZD (pIf (ZG (Zv Zer (Zd (Za 0) (Zd (Zg Zq (Za 1) (Zj 1)) Zm)))) (Za 1) (ZV))) ZX) (Zt (ZM 2 (Zv ZeX (Zd (Zg Zq (Za 0) (Zj 0)) (Zd (Zg Zq (Za 1) (Zj 0)) Zm)))) (Zt (ZM 3 (Zg Za0 (Zg Zq (Za 1) (Zj 1)) (Zg Zq (Za 0) (Zj 1)))) (Zt (ZT (ZG (Zg qNe (Zg ZaV (Za 3) (Za 2)) (Zj 0))) (ZD (ZV)) ZX) (Zt (ZM 4 (Zg ZbU (Zg Zq (Za 1) (Zj 0)) (Za 2))) (Zt (ZM 5 (Zg ZaC (Zg ZbU (Za 3) (Za 2)) (Zv ZiN (Zd (Zg ZbU (Zg Zq (Za 0) (Zj 0)) (Za 2)) (Zd (Za 4) Zm))))) (ZD (Zv Zd9 (Zd (Zg ZaC (Zg Zq (Za 0) (Zj 0)) (Za 4)) (Zd (Zg Zad (Zg Zq (Za 0) (Zj 1)) (Zg ZaC (Zg Zq (Za 0) (Zj 0)) (Za 5))) Zm)))))))))))
def ZfD:=Z9 2 Zmz
theorem ZmA: SimF false ZgX ZfD:=Zac (show S [] [] [] false Zmy Zmz from(ZA (Z3 (ZN (ZC Zaq (Zy Zx (Zc 0) (Zl _)) (Zl _))) (ZR (ZeE (ZN (ZI ZgW (Zf (Zc 1) (Zf (Zy Zx (Zc 0) (Zl _)) Zo)))) (E.sh (Zc 0)) (E.sh (Z7)))) Z6) (ZA (Z3 (ZN (ZC Zaq (Zy Zx (Zc 1) (Zl _)) (Zl _))) (ZR (ZeE (ZN (ZI ZgW (Zf (Zc 0) (Zf (Zy Zx (Zc 1) (Zl _)) Zo)))) (E.sh (Zc 1)) (E.sh (Z7)))) Z6) (ZA (ZU (O':=[]) (ZI ZiM (Zf (Zy Zx (Zc 0) (Zl _)) (Zf (Zy Zx (Zc 1) (Zl _)) Zo)))) (ZA (ZU (O':=[]) (ZC Zbi (Zy Zx (Zc 1) (Zl _)) (Zy Zx (Zc 0) (Zl _)))) (ZA (Z3 (ZN (ZC ZbV (ZC Za9 (Zc 3) (Zc 2)) (Zl _))) (ZR (Z7)) Z6) (ZA (ZU (O':=[]) (ZC Zcy (Zy Zx (Zc 1) (Zl _)) (Zc 2))) (ZA (ZU (O':=[]) (Zab Zba (ZC Zcy (Zc 3) (Zc 2)) (ZI ZvY (Zf (ZC Zcy (Zy Zx (Zc 0) (Zl _)) (Zc 2)) (Zf (Zc 4) Zo))))) (ZR (ZI Zgi (Zf (Zab Zba (Zy Zx (Zc 0) (Zl _)) (Zc 4)) (Zf (Zab Zag (Zy Zx (Zc 0) (Zl _)) (Zab Zba (Zy Zx (Zc 0) (Zl _)) (Zc 5))) Zo))))))))))))
def ZlR: Sm:=ZE (Zs ZeA (Ze (Zs ZfS (Ze (Zh Zr (Zb 0) (Zk 0)) (Ze (Zh Zr (Zb 1) (Zk 0)) Zn))) (Ze (Zh Zaf (Zh Zr (Zb 0) (Zk 1)) (Zh Zr (Zb 1) (Zk 1))) Zn)))
def ZgN:=Z5 2 ZlR
def ZlS: PS:=(ZD (Zv Zd9 (Zd (Zv ZeX (Zd (Zg Zq (Za 0) (Zj 0)) (Zd (Zg Zq (Za 1) (Zj 0)) Zm))) (Zd (Zg Zad (Zg Zq (Za 0) (Zj 1)) (Zg Zq (Za 1) (Zj 1))) Zm))))
def ZfB:=Z9 2 ZlS
theorem ZlT: SimF false ZgN ZfB:=Zac (show S [] [] [] false ZlR ZlS from(ZR (ZI Zgi (Zf (ZI ZiM (Zf (Zy Zx (Zc 0) (Zl _)) (Zf (Zy Zx (Zc 1) (Zl _)) Zo))) (Zf (Zab Zag (Zy Zx (Zc 0) (Zl _)) (Zy Zx (Zc 1) (Zl _))) Zo)))))
def Zlk: Sm:=ZE (Zs ZeA (Ze (Zh ZaT (Zh Zr (Zb 0) (Zk 0)) (Zs Zdn (Ze (Zb 1) Zn))) (Ze (Zh ZaT (Zh Zr (Zb 0) (Zk 1)) (Zb 1)) Zn)))
def ZgH:=Z5 2 Zlk
def Zll: PS:=(ZD (Zv Zd9 (Zd (Zg ZaC (Zg Zq (Za 0) (Zj 0)) (Zv Zdp (Zd (Za 1) Zm))) (Zd (Zg ZaC (Zg Zq (Za 0) (Zj 1)) (Za 1)) Zm))))
def Zfy:=Z9 2 Zll
theorem Zlm: SimF false ZgH Zfy:=Zac (show S [] [] [] false Zlk Zll from(ZR (ZI Zgi (Zf (Zab Zba (Zy Zx (Zc 0) (Zl _)) (Zav Zee (Zf (Zc 1) Zo))) (Zf (Zab Zba (Zy Zx (Zc 0) (Zl _)) (Zc 1)) Zo)))))
def Zln: Sm:=Zu (ZW (ZK (Zh oEq (Zh Zr (Zb 0) (Zk 0)) (Zk 0))) (ZE (eIf (ZK (Zh oLe (Zh Zr (Zb 0) (Zk 1)) (Zb 1))) (Zh Zr (Zb 0) (Zk 1)) (ZY))) Z0) (ZE (Zh Zbe (Zb 1) (Zh oMod (Zh Zbe (Zb 1) (Zh Zr (Zb 0) (Zk 1))) (Zh Zr (Zb 0) (Zk 0)))))
def Zlo:=Z5 2 Zln
def Zlp: PS:=(Zt (ZT (ZG (Zg qEq (Zg Zq (Za 0) (Zj 0)) (Zj 0))) (ZD (pIf (ZG (Zg qLe (Zg Zq (Za 0) (Zj 1)) (Za 1))) (Zg Zq (Za 0) (Zj 1)) (ZV))) ZX) (ZD (Zg Za0 (Za 1) (Zg ZaV (Zg Za0 (Za 1) (Zg Zq (Za 0) (Zj 1))) (Zg Zq (Za 0) (Zj 0))))))
def Zia:=Z9 2 Zlp
theorem Zub: SimF false Zlo Zia:=Zac (show S [] [] [] false Zln Zlp from(ZA (Z3 (ZN (ZC Zaq (Zy Zx (Zc 0) (Zl _)) (Zl _))) (ZR (ZeE (ZN (ZC Zpl (Zy Zx (Zc 0) (Zl _)) (Zc 1))) (E.sh (Zy Zx (Zc 0) (Zl _))) (E.sh (Z7)))) Z6) (ZR (ZC Zbi (Zc 1) (ZC Za9 (ZC Zbi (Zc 1) (Zy Zx (Zc 0) (Zl _))) (Zy Zx (Zc 0) (Zl _)))))))
def Zn5: Sm:=ZE (eIf (ZK (Zs Zik (Ze (Zb 0) (Ze (Zb 1) Zn)))) (Zb 0) (Zb 1))
def ZiY:=Z5 2 Zn5
def Zn6: PS:=(ZD (pIf (ZG (Zv ZgM (Zd (Za 0) (Zd (Za 1) Zm)))) (Za 0) (Za 1)))
def Zhe:=Z9 2 Zn6
theorem Zrn: SimF false ZiY Zhe:=Zac (show S [] [] [] false Zn5 Zn6 from(ZR (ZeE (ZN (ZI Zqf (Zf (Zc 0) (Zf (Zc 1) Zo)))) (E.sh (Zc 0)) (E.sh (Zc 1)))))
def ZmB: Sm:=Zu (ZW (tOr (ZK (Zh oIs (Zb 0) (ZY))) (tOr (ZK (Zh oIs (Zb 1) (ZY))) Zb0)) (ZE (ZY)) Z0) (ZE (Zh Zaf (Zb 0) (Zb 1)))
def Zes:=Z5 2 ZmB
def ZmC: PS:=(Zt (ZT (bOr (ZG (Zg qIs (Za 0) (ZV))) (bOr (ZG (Zg qIs (Za 1) (ZV))) Zb3)) (ZD (ZV)) ZX) (ZD (Zg Zad (Za 0) (Za 1))))
def ZdX:=Z9 2 ZmC
theorem ZfE: SimF false Zes ZdX:=Zac (show S [] [] [] false ZmB ZmC from(ZA (Z3 (ZaY (ZN (ZC Za6 (Zc 0) (Z7))) (ZaY (ZN (ZC Za6 (Zc 1) (Z7))) Zcu)) (ZR (Z7)) Z6) (ZR (Zab Zag (Zc 0) (Zc 1)))))
def Zj6: Sm:=ZE (Zaw (Zdo (Zb 0) (Zb 2)) (Zci 100 101) Zao (Zs ZiY (Ze (Zb 100) (Ze (Zs Zes (Ze (Zb 1) (Ze (Zb 101) Zn))) Zn))))
def Zj7:=Z5 3 Zj6
def Zj8: PS:=(ZD (Zan (Zdq (Za 0) (Za 2)) (ZcC 100 101) Zai (ZbR (Zv Zhe (Zd (Za 100) (Zd (Zv ZdX (Zd (Za 1) (Zd (Za 101) Zm))) Zm))))))
def ZhS:=Z9 3 Zj8
theorem Zs7: SimF true Zj7 ZhS:=Zac (show S [] [] [] true Zj6 Zj8 from(Zas (ZcI (Gs.zip (Zc 0) (Zc 2)) PutOk.two (by decide) Zax (E.flat (ZI Zrn (Zf (Zc 100) (Zf (ZI ZfE (Zf (Zc 1) (Zf (Zc 101) Zo))) Zo)))))))
def ZlU: Sm:=ZE (Zaw (Zbm (Zb 0)) (put1 100) Zao (Zs Zj7 (Ze (Zb 100) (Ze (Zh Zr (Zb 100) (Zb 1)) (Ze (Zh Zr (Zb 0) (Zb 1)) Zn)))))
def ZlV:=Z5 2 ZlU
def ZlW: PS:=(ZD (Zan (ZaI (Za 0)) (Zae 100) Zai (Zv ZhS (Zd (Za 100) (Zd (Zg Zq (Za 100) (Za 1)) (Zd (Zg Zq (Za 0) (Za 1)) Zm))))))
def Zil:=Z9 2 ZlW
theorem Zqg: SimF true ZlV Zil:=Zac (show S [] [] [] true ZlU ZlW from(Zas (ZcI (Gs.seq (Zc 0)) PutOk.one (by decide) Zax (ZaM Zs7 (Zf (Zc 100) (Zf (Zy Zx (Zc 100) (Zc 1)) (Zf (Zy Zx (Zc 0) (Zc 1)) Zo)))))))
def Zko: Sm:=ZE (Zs ZhN (Ze (Zaw (ZaL (Ze (Zs ZaF (Ze (Zb 0) Zn)) Zn)) (put1 100) Zao (Zh oLt (Zh Zr (Zh Zr (Zb 0) (Zb 100)) (Zb 100)) (Zk 0))) Zn))
def Zkp:=Z5 1 Zko
def Zkq: PS:=(ZD (Zv ZhO (Zd (Zan (Zaz (Zd (Zv Zat (Zd (Za 0) Zm)) Zm)) (Zae 100) Zai (Zg qLt (Zg Zq (Zg Zq (Za 0) (Za 100)) (Za 100)) (Zj 0))) Zm)))
def ZhX:=Z9 1 Zkq
theorem ZpF: SimF false Zkp ZhX:=Zac (show S [] [] [] false Zko Zkq from(ZR (Zav ZzA (Zf (ZbF (Gs.range (Zf (Zav ZaO (Zf (Zc 0) Zo)) Zo)) PutOk.one (by decide) Zax (ZC ZcW (Zy Zx (Zy Zx (Zc 0) (Zc 100)) (Zc 100)) (Zl _))) Zo))))
def Zn7: Sm:=Zu (ZL 1 (Zb 0)) (Zu (ZaK (ZaL (Ze (Zs ZaF (Ze (Zb 0) Zn)) Zn)) (put1 2) (Zu (ZL 1 (Zs ZlV (Ze (Zb 1) (Ze (Zb 2) Zn)))) (ZW (ZK (Zs Zkp (Ze (Zb 1) Zn))) (ZE (ZY)) Z0))) (ZE (Zb 1)))
def Zf1:=Z5 1 Zn7
def Zn8: PS:=(Zt (ZM 1 (Za 0)) (Zt (ZjO (Zaz (Zd (Zv Zat (Zd (Za 0) Zm)) Zm)) (Zae 2) (Zt (ZM 1 (Zv Zil (Zd (Za 1) (Zd (Za 2) Zm)))) (ZT (ZG (Zv ZhX (Zd (Za 1) Zm))) (ZD (ZV)) ZX))) (ZD (Za 1))))
def Zhf:=Z9 1 Zn8
theorem Zw2: SimF true Zf1 Zhf:=Zac (show S [] [1] [] true Zn7 Zn8 from(ZA (ZU (O':=[]) (Zc 0)) (ZA (Zzd (Gs.range (Zf (Zav ZaO (Zf (Zc 0) Zo)) Zo)) PutOk.one PutOk.one (by decide) (by decide) (by decide) (ZA (ZbG (O':=[1]) (ZaM Zqg (Zf (Zc 1) (Zf (Zc 2) Zo)))) (Z3 (ZN (ZI ZpF (Zf (Zc 1) Zo))) (Zas (Z7)) Z6)) (ZA (ZbG (O':=[1]) (Za1 (O':=[]) (ZaM Zqg (Zf (Zc 1) (Zf (Zc 2) Zo))))) (Z3 (ZN (ZI ZpF (Zf (Zc 1) Zo))) (Zas (Z7)) Z6))) (Zas (E.own (by decide))))))
def ZlX: Sm:=ZE (ZdD (eIs "int" (Zb 0)) (ZjQ (eIs "bool" (Zb 0))))
def ZgO:=Z5 1 ZlX
def ZlY: PS:=(ZD ((ZdE (pIs "int" (Za 0)) (ZjU (pIs "bool" (Za 0))))))
def ZfC:=Z9 1 ZlY
theorem ZlZ: SimF false ZgO ZfC:=Zac (show S [] [] [] false ZlX ZlY from(ZR ((Zgq (E.sh (Zeh (Zc 0))) (E.sh (Zzz (Zeh (Zc 0))))))))
def ZmD: Sm:=Zu (ZW (tOr (ZcE (ZK (eIs "list" (Zb 0)))) (tOr (ZK (Zh oNe (Zs ZaF (Ze (Zb 0) Zn)) (Zb 1))) Zb0)) (ZE (Zco false)) Z0) (Zu (ZaK (ZaL (Ze (Zb 1) Zn)) (put1 2) (Zu (ZW (tOr (ZcE (ZK (eIs "list" (Zh Zr (Zb 0) (Zb 2))))) (tOr (ZK (Zh oNe (Zs ZaF (Ze (Zh Zr (Zb 0) (Zb 2)) Zn)) (Zb 1))) Zb0)) (ZE (Zco false)) Z0) (Zu (ZaK (Zbm (Zh Zr (Zb 0) (Zb 2))) (put1 3) (ZW (Za5 (ZK (Zh ZbN (Zb 3) (ZY))) (Za5 (ZcE (ZK (Zs ZgO (Ze (Zb 3) Zn)))) Zao)) (ZE (Zco false)) Z0)) (ZW (ZK (Zh oNe (Zh Zr (Zh Zr (Zb 0) (Zb 2)) (Zb 2)) (Zk 0))) (ZE (Zco false)) Z0)))) (ZE (Zco true)))
def ZmE:=Z5 2 ZmD
def ZmF: PS:=(Zt (ZT (bOr (Zcz (ZG (pIs "list" (Za 0)))) (bOr (ZG (Zg qNe (Zv Zat (Zd (Za 0) Zm)) (Za 1))) Zb3)) (ZD (Zcp false)) ZX) (Zt (ZaD (Zaz (Zd (Za 1) Zm)) (Zae 2) (Zt (ZT (bOr (Zcz (ZG (pIs "list" (Zg Zq (Za 0) (Za 2))))) (bOr (ZG (Zg qNe (Zv Zat (Zd (Zg Zq (Za 0) (Za 2)) Zm)) (Za 1))) Zb3)) (ZD (Zcp false)) ZX) (Zt (ZaD (ZaI (Zg Zq (Za 0) (Za 2))) (Zae 3) (ZT (ZaU (ZG (Zg Zbz (Za 3) (ZV))) (ZaU (Zcz (ZG (Zv ZfC (Zd (Za 3) Zm)))) Zai)) (ZD (Zcp false)) ZX)) (ZT (ZG (Zg qNe (Zg Zq (Zg Zq (Za 0) (Za 2)) (Za 2)) (Zj 0))) (ZD (Zcp false)) ZX)))) (ZD (Zcp true))))
def Ziu:=Z9 2 ZmF
theorem Zu6: SimF false ZmE Ziu:=Zac (show S [] [] [] false ZmD ZmF from(ZA (Z3 (ZaY (Zc3 (ZN (Zeh (Zc 0)))) (ZaY (ZN (ZC ZbV (Zav ZaO (Zf (Zc 0) Zo)) (Zc 1))) Zcu)) (ZR (E.bool _)) Z6) (ZA (Zbd (Gs.range (Zf (Zc 1) Zo)) PutOk.one (by decide) (by decide) (ZA (Z3 (ZaY (Zc3 (ZN (Zeh (Zy Zx (Zc 0) (Zc 2))))) (ZaY (ZN (ZC ZbV (Zav ZaO (Zf (Zy Zx (Zc 0) (Zc 2)) Zo)) (Zc 1))) Zcu)) (ZR (E.bool _)) Z6) (ZA (Zbd (Gs.seq (Zy Zx (Zc 0) (Zc 2))) PutOk.one (by decide) (by decide) (Z3 (Zbh (ZN (ZC Zcf (Zc 3) (Z7))) (Zbh (Zc3 (ZN (ZI ZlZ (Zf (Zc 3) Zo)))) Zax)) (ZR (E.bool _)) Z6)) (Z3 (ZN (ZC ZbV (Zy Zx (Zy Zx (Zc 0) (Zc 2)) (Zc 2)) (Zl _))) (ZR (E.bool _)) Z6)))) (ZR (E.bool _)))))
def Zkr: Sm:=ZE (Zal (Ze (Zs Zes (Ze (Zh Zr (Zb 0) (Zk 0)) (Ze (Zh Zr (Zb 1) (Zk 0)) Zn))) (Ze (Zs Zes (Ze (Zh Zr (Zb 0) (Zk 1)) (Ze (Zh Zr (Zb 1) (Zk 1)) Zn))) Zn)))
def Zks:=Z5 2 Zkr
def Zkt: PS:=(ZD (Zak (Zd (Zv ZdX (Zd (Zg Zq (Za 0) (Zj 0)) (Zd (Zg Zq (Za 1) (Zj 0)) Zm))) (Zd (Zv ZdX (Zd (Zg Zq (Za 0) (Zj 1)) (Zd (Zg Zq (Za 1) (Zj 1)) Zm))) Zm))))
def ZhY:=Z9 2 Zkt
theorem Ztm: SimF false Zks ZhY:=Zac (show S [] [] [] false Zkr Zkt from(ZR (E.tup (Zf (ZI ZfE (Zf (Zy Zx (Zc 0) (Zl _)) (Zf (Zy Zx (Zc 1) (Zl _)) Zo))) (Zf (ZI ZfE (Zf (Zy Zx (Zc 0) (Zl _)) (Zf (Zy Zx (Zc 1) (Zl _)) Zo))) Zo)))))
def Zl0: Sm:=Zu (ZW (ZK (Zh oIs (Zb 0) (ZY))) (ZE (ZY)) Z0) (ZE (Zh ZaT (Zb 0) (Zb 1)))
def ZeR:=Z5 2 Zl0
def Zl1: PS:=(Zt (ZT (ZG (Zg qIs (Za 0) (ZV))) (ZD (ZV)) ZX) (ZD (Zg ZaC (Za 0) (Za 1))))
def Zep:=Z9 2 Zl1
theorem ZgP: SimF false ZeR Zep:=Zac (show S [] [] [] false Zl0 Zl1 from(ZA (Z3 (ZN (ZC Za6 (Zc 0) (Z7))) (ZR (Z7)) Z6) (ZR (Zab Zba (Zc 0) (Zc 1)))))
def Zj9: Sm:=Zu (ZW (ZK (Zh oEq (Zb 1) (Zk 0))) (ZE (Zal (Ze (Zk 0) (Ze (Zk 0) Zn)))) Z0) (Zu (ZL 2 (Zs ZeR (Ze (Zh Zr (Zb 0) (Zk 0)) (Ze (Zb 1) Zn)))) (Zu (ZL 3 (Zs ZeR (Ze (Zh Zr (Zb 0) (Zk 1)) (Ze (Zb 1) Zn)))) (Zu (ZW (ZK (Zh oLt (Zb 1) (Zk 0))) (ZE (Zal (Ze (Zb 3) (Ze (Zb 2) Zn)))) Z0) (ZE (Zal (Ze (Zb 2) (Ze (Zb 3) Zn)))))))
def Zka:=Z5 2 Zj9
def Zkb: PS:=(Zt (ZT (ZG (Zg qEq (Za 1) (Zj 0))) (ZD (Zak (Zd (Zj 0) (Zd (Zj 0) Zm)))) ZX) (Zt (ZM 2 (Zv Zep (Zd (Zg Zq (Za 0) (Zj 0)) (Zd (Za 1) Zm)))) (Zt (ZM 3 (Zv Zep (Zd (Zg Zq (Za 0) (Zj 1)) (Zd (Za 1) Zm)))) (Zt (ZT (ZG (Zg qLt (Za 1) (Zj 0))) (ZD (Zak (Zd (Za 3) (Zd (Za 2) Zm)))) ZX) (ZD (Zak (Zd (Za 2) (Zd (Za 3) Zm))))))))
def ZhT:=Z9 2 Zkb
theorem Zs8: SimF false Zka ZhT:=Zac (show S [] [] [] false Zj9 Zkb from(ZA (Z3 (ZN (ZC Zaq (Zc 1) (Zl _))) (ZR (E.tup (Zf (Zl _) (Zf (Zl _) Zo)))) Z6) (ZA (ZU (O':=[]) (ZI ZgP (Zf (Zy Zx (Zc 0) (Zl _)) (Zf (Zc 1) Zo)))) (ZA (ZU (O':=[]) (ZI ZgP (Zf (Zy Zx (Zc 0) (Zl _)) (Zf (Zc 1) Zo)))) (ZA (Z3 (ZN (ZC ZcW (Zc 1) (Zl _))) (ZR (E.tup (Zf (Zc 3) (Zf (Zc 2) Zo)))) Z6) (ZR (E.tup (Zf (Zc 2) (Zf (Zc 3) Zo)))))))))
def ZkP: Sm:=Zu (ZL 2 (Zal (Ze (Zh Zr (Zb 0) (Zk 0)) (Ze (Zh Zr (Zb 0) (Zk 0)) Zn)))) (Zu (ZaK (Zdo (ZdO (Zb 0) 1) (Zb 1)) (Zci 3 4) (ZL 2 (Zs Zks (Ze (Zb 2) (Ze (Zs Zka (Ze (Zb 4) (Ze (Zb 3) Zn))) Zn))))) (ZE (Zb 2)))
def ZkQ:=Z5 2 ZkP
def ZkR: PS:=(Zt (ZM 2 (Zak (Zd (Zg Zq (Za 0) (Zj 0)) (Zd (Zg Zq (Za 0) (Zj 0)) Zm)))) (Zt (ZaD (Zdq (ZdB (Za 0) 1) (Za 1)) (ZcC 3 4) (ZM 2 (Zv ZhY (Zd (Za 2) (Zd (Zv ZhT (Zd (Za 4) (Zd (Za 3) Zm))) Zm))))) (ZD (Za 2))))
def Zh3:=Z9 2 ZkR
theorem ZtI: SimF false ZkQ Zh3:=Zac (show S [] [] [] false ZkP ZkR from(ZA (ZU (O':=[]) (E.tup (Zf (Zy Zx (Zc 0) (Zl _)) (Zf (Zy Zx (Zc 0) (Zl _)) Zo)))) (ZA (Zbd (Gs.zip (Zhw (Zc 0)) (Zc 1)) PutOk.two (by decide) (by decide) (ZU (O':=[]) (ZI Ztm (Zf (Zc 2) (Zf (ZI Zs8 (Zf (Zc 4) (Zf (Zc 3) Zo))) Zo))))) (ZR (Zc 2)))))
def ZmG: Sm:=Zu (ZL 2 (Zal (Ze (Zk 0) (Ze (Zh Zr (Zb 0) (Zk 0)) Zn)))) (Zu (ZaK (Zdo (ZdO (Zb 0) 1) (Zb 1)) (Zci 3 4) (ZL 2 (Zs ZgN (Ze (Zb 2) (Ze (Zs ZgH (Ze (Zb 4) (Ze (Zb 3) Zn))) Zn))))) (ZE (Zb 2)))
def Zet:=Z5 2 ZmG
def ZmH: PS:=(Zt (ZM 2 (Zak (Zd (Zj 0) (Zd (Zg Zq (Za 0) (Zj 0)) Zm)))) (Zt (ZaD (Zdq (ZdB (Za 0) 1) (Za 1)) (ZcC 3 4) (ZM 2 (Zv ZfB (Zd (Za 2) (Zd (Zv Zfy (Zd (Za 4) (Zd (Za 3) Zm))) Zm))))) (ZD (Za 2))))
def ZdI:=Z9 2 ZmH
theorem ZfF: SimF false Zet ZdI:=Zac (show S [] [] [] false ZmG ZmH from(ZA (ZU (O':=[]) (E.tup (Zf (Zl _) (Zf (Zy Zx (Zc 0) (Zl _)) Zo)))) (ZA (Zbd (Gs.zip (Zhw (Zc 0)) (Zc 1)) PutOk.two (by decide) (by decide) (ZU (O':=[]) (ZI ZlT (Zf (Zc 2) (Zf (ZI Zlm (Zf (Zc 4) (Zf (Zc 3) Zo))) Zo))))) (ZR (Zc 2)))))
def Zno: Sm:=ZE (ZdD (Zh ZbN (Zb 0) (ZY)) (ZdD (Zh ZbN (Zb 1) (ZY)) (Zh oGt (Zb 0) (Zb 1))))
def Znp:=Z5 2 Zno
def ZqV: PS:=(ZD ((ZdE (Zg Zbz (Za 0) (ZV)) (ZdE (Zg Zbz (Za 1) (ZV)) (Zg qGt (Za 0) (Za 1))))))
def ZqW:=Z9 2 ZqV
theorem ZvZ: SimF false Znp ZqW:=Zac (show S [] [] [] false Zno ZqV from(ZR ((Zgq (E.sh (ZC Zcf (Zc 0) (Z7))) (Zgq (E.sh (ZC Zcf (Zc 1) (Z7))) (E.sh (ZC Zgv (Zc 0) (Zc 1))))))))
def ZkS: Sm:=ZE (Zh Zaf (Zbc (Ze (Zal (Ze (Zk 0) (Ze (Zk 0) Zn))) Zn)) (Zb 0))
def Zft:=Z5 1 ZkS
def ZkT: PS:=(ZD (Zg Zad (Za2 (Zd (Zak (Zd (Zj 0) (Zd (Zj 0) Zm))) Zm)) (Za 0)))
def Zfu:=Z9 1 ZkT
theorem ZkU: SimF false Zft Zfu:=Zac (show S [] [] [] false ZkS ZkT from(ZR (Zab Zag (E.list (Zf (E.tup (Zf (Zl _) (Zf (Zl _) Zo))) Zo)) (Zc 0))))
def Zku: Sm:=Zu (ZL 3 (Zh Zr (Zb 1) (Zb 2))) (Zu (ZaK (ZjL (Zb 1)) (Zci 4 5) (ZW (Za5 (ZK (Zh ZbN (Zb 3) (ZY))) (Za5 (ZK (Zh oEq (Zs Zes (Ze (Zh Zr (Zh Zr (Zb 0) (Zb 2)) (Zb 4)) (Ze (Zh Zr (Zh Zr (Zb 0) (Zb 4)) (Zb 2)) Zn))) (Zk 0))) Zao)) (ZL 3 (Zs ZgX (Ze (Zb 3) (Ze (Zs ZgN (Ze (Zb 5) (Ze (Zal (Ze (Zk 0) (Ze (Zh Zr (Zh Zr (Zb 0) (Zb 2)) (Zb 4)) Zn))) Zn))) Zn)))) Z0)) (ZE (Zb 3)))
def ZgB:=Z5 3 Zku
def Zkv: PS:=(Zt (ZM 3 (Zg Zq (Za 1) (Za 2))) (Zt (ZaD (ZjN (Za 1)) (ZcC 4 5) (ZT (ZaU (ZG (Zg Zbz (Za 3) (ZV))) (ZaU (ZG (Zg qEq (Zv ZdX (Zd (Zg Zq (Zg Zq (Za 0) (Za 2)) (Za 4)) (Zd (Zg Zq (Zg Zq (Za 0) (Za 4)) (Za 2)) Zm))) (Zj 0))) Zai)) (ZM 3 (Zv ZfD (Zd (Za 3) (Zd (Zv ZfB (Zd (Za 5) (Zd (Zak (Zd (Zj 0) (Zd (Zg Zq (Zg Zq (Za 0) (Za 2)) (Za 4)) Zm))) Zm))) Zm)))) ZX)) (ZD (Za 3))))
def ZeN:=Z9 3 Zkv
theorem ZpG: SimF false ZgB ZeN:=Zac (show S [] [] [] false Zku Zkv from(ZA (ZU (O':=[]) (Zy Zx (Zc 1) (Zc 2))) (ZA (Zbd (ZxX (Zc 1)) PutOk.two (by decide) (by decide) (Z3 (Zbh (ZN (ZC Zcf (Zc 3) (Z7))) (Zbh (ZN (ZC Zaq (ZI ZfE (Zf (Zy Zx (Zy Zx (Zc 0) (Zc 2)) (Zc 4)) (Zf (Zy Zx (Zy Zx (Zc 0) (Zc 4)) (Zc 2)) Zo))) (Zl _))) Zax)) (ZU (O':=[]) (ZI ZmA (Zf (Zc 3) (Zf (ZI ZlT (Zf (Zc 5) (Zf (E.tup (Zf (Zl _) (Zf (Zy Zx (Zy Zx (Zc 0) (Zc 2)) (Zc 4)) Zo))) Zo))) Zo)))) Z6)) (ZR (Zc 3)))))
def ZgD: Sm:=Zu (ZW (ZK (Zh oIs (Zb 0) (ZY))) (ZE (ZY)) Z0) (Zu (ZL 1 (Zs Zft (Ze (Zh Zr (Zb 0) (Zk 1)) Zn))) (Zu (ZL 2 (Zaw (ZaL (Ze (Zk 1) (Ze (Zs ZaF (Ze (Zb 1) Zn)) Zn))) (put1 100) Zao (Zs ZgB (Ze (Zh Zr (Zb 0) (Zk 0)) (Ze (Zb 1) (Ze (Zb 100) Zn)))))) (Zu (ZW (ZK (Zh oIn (ZY) (Zb 2))) (ZE (ZY)) Z0) (ZE (Zal (Ze (Zh Zr (Zb 0) (Zk 0)) (Ze (Zb 2) Zn)))))))
def Zel:=Z5 1 ZgD
def ZgE: PS:=(Zt (ZT (ZG (Zg qIs (Za 0) (ZV))) (ZD (ZV)) ZX) (Zt (ZM 1 (Zv Zfu (Zd (Zg Zq (Za 0) (Zj 1)) Zm))) (Zt (ZM 2 (Zan (Zaz (Zd (Zj 1) (Zd (Zv Zat (Zd (Za 1) Zm)) Zm))) (Zae 100) Zai (Zv ZeN (Zd (Zg Zq (Za 0) (Zj 0)) (Zd (Za 1) (Zd (Za 100) Zm)))))) (Zt (ZT (ZG (Zg qIn (ZV) (Za 2))) (ZD (ZV)) ZX) (ZD (Zak (Zd (Zg Zq (Za 0) (Zj 0)) (Zd (Za 2) Zm))))))))
def ZdS:=Z9 1 ZgE
theorem ZtJ: SimF false Zel ZdS:=Zac (show S [] [] [] false ZgD ZgE from(ZA (Z3 (ZN (ZC Za6 (Zc 0) (Z7))) (ZR (Z7)) Z6) (ZA (ZU (O':=[]) (ZI ZkU (Zf (Zy Zx (Zc 0) (Zl _)) Zo))) (ZA (ZU (O':=[]) (ZbF (Gs.range (Zf (Zl _) (Zf (Zav ZaO (Zf (Zc 1) Zo)) Zo))) PutOk.one (by decide) Zax (ZI ZpG (Zf (Zy Zx (Zc 0) (Zl _)) (Zf (Zc 1) (Zf (Zc 100) Zo)))))) (ZA (Z3 (ZN (ZC ZeL (Z7) (Zc 2))) (ZR (Z7)) Z6) (ZR (E.tup (Zf (Zy Zx (Zc 0) (Zl _)) (Zf (Zc 2) Zo)))))))))
def Zjz: Sm:=Zu (ZW (ZK (Zh oIs (Zb 0) (ZY))) (ZE (ZY)) Z0) (Zu (ZL 1 (Zs Zf1 (Ze (Zh Zr (Zb 0) (Zk 0)) Zn))) (Zu (ZW (ZK (Zh oIs (Zb 1) (ZY))) (ZE (ZY)) Z0) (ZE (Zal (Ze (Zb 1) (Ze (Zh Zr (Zb 0) (Zk 1)) Zn))))))
def ZeB:=Z5 1 Zjz
def ZjA: PS:=(Zt (ZT (ZG (Zg qIs (Za 0) (ZV))) (ZD (ZV)) ZX) (Zt (ZM 1 (Zv Zhf (Zd (Zg Zq (Za 0) (Zj 0)) Zm))) (Zt (ZT (ZG (Zg qIs (Za 1) (ZV))) (ZD (ZV)) ZX) (ZD (Zak (Zd (Za 1) (Zd (Zg Zq (Za 0) (Zj 1)) Zm)))))))
def ZeC:=Z9 1 ZjA
def ZoY: Sm:=ZE (Zs Zel (Ze (Zs ZeB (Ze (Zb 0) Zn)) Zn))
def Zgj:=Z5 1 ZoY
def ZjB: PS:=(ZD (Zv ZdS (Zd (Zv ZeC (Zd (Za 0) Zm)) Zm)))
def Zho: T→Bool
 | .none=>true
 | .tup [_,.lst ts]=>T.flats ts
 | _=>false
def Zfe: List T→Option T:=fun ts=>(Z9 1 ZjB ts).bind fun t=>if Zho t then some t else none
theorem Zsv(hp:0<H.length)(r:RF H a t F): St ⟨H,[],fun x=>x∈F⟩ [] (fun i=>[a][i]?) (fun i=>[t][i]?) H (fun _=>F):=by
 refine⟨fun i u e=>?_,fun i u e x m=>.inr m,fun i hi=>(nomatch hi),Nat.le_refl _,fun x _ _=>rfl,hp,by simp⟩
 cases i with
 | zero=>cases e;exact⟨a,rfl,r⟩
 | succ i=>simp at e
theorem ZrY(e:ρ 0=some a)(r:RF H a t F)(ht:t≠.none): ZW (ZK (Zh oIs (Zb 0) (ZY))) (ZE (ZY)) Z0 ρ H=some (none,ρ,H):=by
 cases r <;> first | exact absurd rfl ht | simp[ZW,ZK,Zh,Zb,e,ZY,oIs,Zc0,Z0]
theorem ZrZ(e:σ 0=some t)(ht:t≠.none): ZT (ZG (Zg qIs (Za 0) (ZV))) (ZD (ZV)) ZX σ=some (none,σ):=by
 cases t <;> first | exact absurd rfl ht | simp[ZT,ZG,Zg,Za,e,ZV,qIs,Zb2,ZX]
theorem Zr0(e:σ 0=some .none): ZT (ZG (Zg qIs (Za 0) (ZV))) (ZD (ZV)) ZX σ=some (some .none,σ):=by
 simp[ZT,ZG,Zg,Za,e,ZV,qIs,Zb2,ZD]
theorem Zpn{a b:PS}{σ1:TL}(h:a σ=some (none,σ1)): Zt a b σ=b σ1:=by simp only[Zt,h,Option.bind_some]
theorem ZsX{a b:PS}{σ1:TL}(h:a σ=some (some t,σ1)): Zt a b σ=some (some t,σ1):=by simp only[Zt,h,Option.bind_some]
theorem Zfj{a b:Sm}{ρ1:Lc}{H1:Hp}(h:a ρ H=some (none,ρ1,H1)): Zu a b ρ H=b ρ1 H1:=by simp only[Zu,h,Option.bind_some]
theorem ZzN{a b:Sm}{ρ1:Lc}{H1:Hp}{v:V}(h:a ρ H=some (some v,ρ1,H1)): Zu a b ρ H=some (some v,ρ1,H1):=by simp only[Zu,h,Option.bind_some]
theorem Zu7{u:T}(hp:0<H.length)(r:RF H a t F)(h:ZeC [t]=some u):
  (u=.none∧∃X,ZeB [a] H=some (.none,H++X))∨∃w0 v1 u0 u1 X F0 F1,u=.tup [u0,u1]∧ZeB [a] H=some (.tup [w0,v1],H++X)∧RF (H++X) w0 u0 F0∧F0.Nodup∧(∀x∈F0,H.length≤x)∧RF (H++X) v1 u1 F1:=by
 have st:=Zsv hp r
 unfold ZeC Z9 at h
 simp only[List.length_cons,List.length_nil,Nat.zero_add,if_true]at h
 obtain⟨r1,h,h0⟩:=Zz1.mp h
 unfold ZjA at h
 by_cases hn:t=.none
 ·subst hn
  rw[ZsX (Zr0 rfl)]at h
  cases h
  cases h0
  cases r
  exact .inl ⟨rfl,[],by simp[ZeB,Z5,Zjz,Zu,ZW,ZK,Zh,Zb,ZY,oIs,Zc0,ZE]⟩
 ·rw[Zpn (ZrZ (σ:=fun i=>[t][i]?) rfl hn)]at h
  have ev:∀b:Sm,Zu (ZW (ZK (Zh oIs (Zb 0) (ZY))) (ZE (ZY)) Z0) b (fun i=>[a][i]?) H=b (fun i=>[a][i]?) H:=fun b=>Zfj (ZrY rfl r hn)
  obtain⟨r2,h1',h⟩:=Zz0.mp h
  obtain⟨u0,h1,e1⟩:=Zz1.mp h1'
  subst e1
  have x1:E [] [] true (Zs Zf1 (Ze (Zh Zr (Zb 0) (Zk 0)) Zn)) (Zv Zhf (Zd (Zg Zq (Za 0) (Zj 0)) Zm)):=ZaM Zw2 (Zf (Zy Zx (Zc 0) (Zl _)) Zo)
  obtain⟨w0,X,F0,a1,a2,a3,a4⟩:=x1 _ _ _ _ _ _ st h1
  have new:∀x∈F0,H.length≤x:=fun x m=>(a3 x m).nil
  have e2:ZL 1 (Zs Zf1 (Ze (Zh Zr (Zb 0) (Zk 0)) Zn)) (fun i=>[a][i]?) H=some (none,upd (fun i=>[a][i]?) 1 w0,H++X):=by simp only[ZL,a1,Option.map_some]
  simp only at h
  have ev2:∀b:Sm,Zu (ZL 1 (Zs Zf1 (Ze (Zh Zr (Zb 0) (Zk 0)) Zn))) b (fun i=>[a][i]?) H=b (upd (fun i=>[a][i]?) 1 w0) (H++X):=fun b=>Zfj e2
  have fin:∀o,Zu (ZW (ZK (Zh oIs (Zb 1) (ZY))) (ZE (ZY)) Z0) (ZE (Zal (Ze (Zb 1) (Ze (Zh Zr (Zb 0) (Zk 1)) Zn)))) (upd (fun i=>[a][i]?) 1 w0) (H++X)=some o→ZeB [a] H=some (o.1.getD .none,o.2.2):=fun o ho=>by
   unfold ZeB Z5 Zjz
   simp only[List.length_cons,List.length_nil,Nat.zero_add,if_true]
   rw[ev,ev2,ho]
   rfl
  by_cases hu:u0=.none
  ·subst hu
   cases a2
   obtain⟨r3,h2,h⟩:=Zz0.mp h
   have:r3=(some .none,Z8 (fun i=>[t][i]?) 1 .none):=by
    have:=h2
    simp[ZT,ZG,Zg,Za,Z8,ZV,qIs,Zb2,ZD]at this
    exact this.symm
   subst this
   cases h
   cases h0
   refine .inl ⟨rfl,X,fin (some .none,upd (fun i=>[a][i]?) 1 .none,H++X) ?_⟩
   exact ZzN (by simp[ZW,ZK,Zh,Zb,upd,ZY,oIs,Zc0,ZE])
  ·have e3:ZW (ZK (Zh oIs (Zb 1) (ZY))) (ZE (ZY)) Z0 (upd (fun i=>[a][i]?) 1 w0) (H++X)=some (none,upd (fun i=>[a][i]?) 1 w0,H++X):=by
    cases a2 <;> first | exact(hu rfl).elim | simp[ZW,ZK,Zh,Zb,upd,ZY,oIs,Zc0,Z0]
   have e4:ZT (ZG (Zg qIs (Za 1) (ZV))) (ZD (ZV)) ZX (Z8 (fun i=>[t][i]?) 1 u0)=some (none,Z8 (fun i=>[t][i]?) 1 u0):=by
    cases u0 <;> first | exact(hu rfl).elim | simp[ZT,ZG,Zg,Za,Z8,ZV,qIs,Zb2,ZX]
   rw[Zpn e4]at h
   obtain⟨u',h5,h6⟩:=Zz1.mp h
   subst h6
   obtain⟨us,h7,h8⟩:=Zz1.mp h5
   subst h8
   obtain⟨q0,g1,h9⟩:=Zz0.mp h7
   obtain⟨qs,g2,h10⟩:=Zz0.mp h9
   cases h10
   obtain⟨q1,g3,g6⟩:=Zz0.mp g2
   obtain⟨qs',g4,g7⟩:=Zz0.mp g6
   cases g7
   cases g4
   have eq0:q0=u0:=by
    have:Z8 (fun i=>[t][i]?) 1 u0 1=some q0:=g1
    simp[Z8]at this
    exact this.symm
   subst eq0
   have g5:Zq t (.int 1)=some q1:=by
    have:=g3
    simpa [Zg,Za,Z8,Zj]using this
   obtain⟨v1,F1,b1,b2,b3⟩:=Zx _ _ _ _ _ _ _ _ (r.ext X) (RF.int (H:=H++X) 1) g5
   cases h0
   refine .inr ⟨w0,v1,q0,q1,X,F0,F1,rfl,fin (some (.tup [w0,v1]),upd (fun i=>[a][i]?) 1 w0,H++X) ?_,a2,a4 rfl,new,b2⟩
   rw[Zfj e3]
   simp[ZE,Zal,Ze,Zb,upd,Zh,Zk,b1,Zn,Zbr]
theorem ZqX{put:T→TL→Option TL}{f:PE}{σ:TL}: ∀{ts us:List T},ZcS put Zai f σ ts=some us→T.flats us=true→ZcS put Zai (ZbR f) σ ts=some us
 | [],_,h,_=>h
 | t::ts,us,h,hf=>by
  obtain⟨σ1,h1,h⟩:=Zz0.mp h
  simp only[Zai,Option.bind_some,if_true]at h
  obtain⟨x,h2,h⟩:=Zz0.mp h
  obtain⟨xs,h3,h⟩:=Zz1.mp h
  subst h
  simp only[T.flats,Bool.and_eq_true]at hf
  simp only[ZcS,h1,Option.bind_some,Zai,if_true,ZbR,h2,hf.1,ZqX h3 hf.2,Option.map_some]
theorem ZqB{u:T}(hp:0<H.length)(r:RF H a t F)(h:ZdS [t]=some u)(ok:Zho u=true):
  (u=.none∧∃X,Zel [a] H=some (.none,H++X))∨∃w0 w1 u0 u1 X F1,u=.tup [u0,u1]∧Zr a (.int 0) H=some (w0,H)∧Zq t (.int 0)=some u0∧Zel [a] H=some (.tup [w0,w1],H++X)∧RF (H++X) w1 u1 F1∧F1.Nodup∧(∀x∈F1,H.length≤x):=by
 have st:=Zsv hp r
 have hfull:=h
 unfold ZdS Z9 at h
 simp only[List.length_cons,List.length_nil,Nat.zero_add,if_true]at h
 obtain⟨r1,h,h0⟩:=Zz1.mp h
 unfold ZgE at h
 by_cases hn:t=.none
 ·subst hn
  rw[ZsX (Zr0 rfl)]at h
  cases h
  cases h0
  cases r
  exact .inl ⟨rfl,[],by simp[Zel,Z5,ZgD,Zu,ZW,ZK,Zh,Zb,ZY,oIs,Zc0,ZE]⟩
 ·rw[Zpn (ZrZ (σ:=fun i=>[t][i]?) rfl hn)]at h
  have ev:∀b:Sm,Zu (ZW (ZK (Zh oIs (Zb 0) (ZY))) (ZE (ZY)) Z0) b (fun i=>[a][i]?) H=b (fun i=>[a][i]?) H:=fun b=>Zfj (ZrY rfl r hn)
  obtain⟨r2,h1',h⟩:=Zz0.mp h
  obtain⟨t1,h1,e1⟩:=Zz1.mp h1'
  subst e1
  have x1:E [] ([0]++[]) false (Zs Zft (Ze (Zh Zr (Zb 0) (Zk 1)) Zn)) (Zv Zfu (Zd (Zg Zq (Za 0) (Zj 1)) Zm)):=ZI ZkU (Zf (Zy Zx (Zc 0) (Zl _)) Zo)
  obtain⟨v1,X1,Fr,a1,a2,a3,_⟩:=x1 _ _ _ _ _ _ st h1
  have st1:=(st.ext X1).put (j:=1) (by simp) a2 (fun x m=>st.from_src (a3 x m)) (fun i hi=>(nomatch hi))
  have ev1:∀b:Sm,Zu (ZL 1 (Zs Zft (Ze (Zh Zr (Zb 0) (Zk 1)) Zn))) b (fun i=>[a][i]?) H=b (upd (fun i=>[a][i]?) 1 v1) (H++X1):=fun b=>Zfj (by simp only[ZL,a1,Option.map_some])
  simp only at h
  obtain⟨r3,h2',h⟩:=Zz0.mp h
  obtain⟨t2,h2,e2⟩:=Zz1.mp h2'
  subst e2
  simp only at h
  generalize hσ:Z8 (fun i=>[t][i]?) 1 t1=σ1 at *
  generalize hρ:upd (fun i=>[a][i]?) 1 v1=ρ1 at *
  have hρ0:ρ1 0=some a:=by rw[←hρ];simp[upd]
  have hσ0:σ1 0=some t:=by rw[←hσ];simp[Z8]
  have x2:∀ts,T.flats ts=true→Zan (Zaz (Zd (Zj 1) (Zd (Zv Zat (Zd (Za 1) Zm)) Zm))) (Zae 100) Zai (Zv ZeN (Zd (Zg Zq (Za 0) (Zj 0)) (Zd (Za 1) (Zd (Za 100) Zm)))) σ1=some (.lst ts)→∃w X G,Zaw (ZaL (Ze (Zk 1) (Ze (Zs ZaF (Ze (Zb 1) Zn)) Zn))) (put1 100) Zao (Zs ZgB (Ze (Zh Zr (Zb 0) (Zk 0)) (Ze (Zb 1) (Ze (Zb 100) Zn)))) ρ1 (H++X1)=some (w,H++X1++X)∧RF (H++X1++X) w (.lst ts) G∧G.Nodup∧∀x∈G,(H++X1).length≤x:=fun ts hf he=>by
   have y:E [] [] true (Zaw (ZaL (Ze (Zk 1) (Ze (Zs ZaF (Ze (Zb 1) Zn)) Zn))) (put1 100) Zao (Zs ZgB (Ze (Zh Zr (Zb 0) (Zk 0)) (Ze (Zb 1) (Ze (Zb 100) Zn))))) (Zan (Zaz (Zd (Zj 1) (Zd (Zv Zat (Zd (Za 1) Zm)) Zm))) (Zae 100) Zai (ZbR (Zv ZeN (Zd (Zg Zq (Za 0) (Zj 0)) (Zd (Za 1) (Zd (Za 100) Zm)))))):=ZcI (Gs.range (Zf (Zl _) (Zf (Zav ZaO (Zf (Zc 1) Zo)) Zo))) PutOk.one (by decide) Zax (E.flat (ZI ZpG (Zf (Zy Zx (Zc 0) (Zl _)) (Zf (Zc 1) (Zf (Zc 100) Zo)))))
   have he2:Zan (Zaz (Zd (Zj 1) (Zd (Zv Zat (Zd (Za 1) Zm)) Zm))) (Zae 100) Zai (ZbR (Zv ZeN (Zd (Zg Zq (Za 0) (Zj 0)) (Zd (Za 1) (Zd (Za 100) Zm))))) σ1=some (.lst ts):=by
    obtain⟨zs,g1,g2⟩:=Zz0.mp he
    split at g2
    ·rename_i hl
     obtain⟨us,g3,g4⟩:=Zz1.mp g2
     cases g4
     simp only[Zan,g1,Option.bind_some]
     rw[if_pos hl,ZqX g3 hf]
     rfl
    ·cases g2
   obtain⟨w,X,G,b1,b2,b3,b4⟩:=y _ _ _ _ _ _ st1 he2
   exact⟨w,X,G,b1,b2,b4 rfl,fun x m=>(b3 x m).nil⟩
  obtain⟨ts,rfl⟩:∃ts,t2=.lst ts:=by
   obtain⟨zs,g1,g2⟩:=Zz0.mp h2
   split at g2
   ·obtain⟨us,g3,g4⟩:=Zz1.mp g2
    exact⟨us,g4.symm⟩
   ·cases g2
  by_cases hu:u=.none
  ·subst hu
   obtain⟨v,X,G,c1,c2,_⟩:=ZtJ H [a] [t] .none F hp (RFs.one r) hfull
   cases c2
   exact .inl ⟨rfl,X,c1⟩
  ·obtain⟨r4,h3,h⟩:=Zz0.mp h
   obtain⟨b,h4,h5⟩:=Zz0.mp h3
   cases b with
   | true=>
    simp only[if_true]at h5
    cases h5
    cases h
    cases h0
    exact absurd rfl hu
   | false=>
    cases h5
    simp only at h
    obtain⟨u',h6,h7⟩:=Zz1.mp h
    subst h7
    obtain⟨us,h8,h9⟩:=Zz1.mp h6
    subst h9
    obtain⟨q0,g1,h10⟩:=Zz0.mp h8
    obtain⟨qs,g2,h11⟩:=Zz0.mp h10
    cases h11
    obtain⟨q1,g3,g6⟩:=Zz0.mp g2
    obtain⟨qs',g4,g7⟩:=Zz0.mp g6
    cases g7
    cases g4
    have eq1:q1=.lst ts:=by
     have:Z8 σ1 2 (.lst ts) 2=some q1:=g3
     simp[Z8]at this
     exact this.symm
    subst eq1
    have g5:Zq t (.int 0)=some q0:=by
     have:=g1
     simpa [Zg,Za,Z8,Zj,hσ0]using this
    cases h0
    obtain⟨w,X,G,b1,b2,b3,b4⟩:=x2 ts ok h2
    obtain⟨w0,F0,i1,i2,i3⟩:=Zx _ _ _ _ _ _ _ _ r (RF.int (H:=H) 0) g5
    have st2:=(st1.ext X).put (j:=2) (by simp) b2 (fun x m=>.inl (by have:=b4 x m;simp at this;show H.length≤x;omega)) (fun i hi=>(nomatch hi))
    have bt:Bt [] (ZK (Zh oIn (ZY) (Zb 2))) (ZG (Zg qIn (ZV) (Za 2))):=ZN (ZC ZeL Z7 (Zc 2))
    obtain⟨Y,k1⟩:=bt _ _ _ _ _ _ st2 h4
    refine .inr ⟨w0,w,q0,.lst ts,X1++X++Y,G,rfl,i1,g5,?_,by rw[←List.append_assoc,←List.append_assoc];exact b2.ext Y,b3,fun x m=>by have:=b4 x m;simp at this;omega⟩
    unfold Zel Z5 ZgD
    simp only[List.length_cons,List.length_nil,Nat.zero_add,if_true]
    rw[ev,ev1,Zfj (ρ1:=upd ρ1 2 w) (H1:=H++X1++X) (by simp only[ZL,b1,Option.map_some]),Zfj (ρ1:=upd ρ1 2 w) (H1:=H++X1++X++Y) (by simp only[ZW,k1,Option.bind_some];rfl)]
    have hidx:=(Zne i1 (X1++X++Y)).2
    have hr:(upd ρ1 2 w) 0=some a:=by simp[upd,hρ0]
    have h2w:(upd ρ1 2 w) 2=some w:=by simp[upd]
    simp only[←List.append_assoc]at hidx ⊢
    generalize H++X1++X++Y=K at *
    have e5:Zal (Ze (Zh Zr (Zb 0) (Zk 0)) (Ze (Zb 2) Zn)) (upd ρ1 2 w) K=some (.tup [w0,w],K):=by
     simp only[Zal,Ze,Zh,Zb,hr,h2w,Zk,Zn,Option.map_some,Option.bind_some,hidx]
     rw[if_pos (by rw[Zbr];simp)]
    simp only[ZE,e5,Option.map_some]
    rfl
theorem Zsw: SimF true Zgj Zfe:=fun H vs ts t F1 hp r h=>by
 obtain⟨t',h1,h2⟩:=Zz0.mp h
 by_cases ok:Zho t'=true
 ·rw[if_pos ok]at h2
  cases h2
  unfold Z9 at h1
  split at h1
  ·rename_i hl
   obtain⟨t0,rfl⟩:∃t0,ts=[t0]:=List.length_eq_one_iff.mp hl
   obtain⟨a,rfl,r0⟩:=r.one_inv
   obtain⟨r1,h3,h4⟩:=Zz1.mp h1
   obtain⟨u,h5,h6⟩:=Zz1.mp h3
   subst h6
   cases h4
   obtain⟨us,h7,h8⟩:=Zz0.mp h5
   obtain⟨q0,g1,h9⟩:=Zz0.mp h7
   obtain⟨qs,g2,h10⟩:=Zz0.mp h9
   cases h10
   cases g2
   have g3:ZeC [t0]=some q0:=by
    have:=g1
    simpa [Zv,Zd,Za,Zm]using this
   have g4:ZdS [q0]=some u:=h8
   have run:∀v1 X1 v2 X2,ZeB [a] H=some (v1,H++X1)→Zel [v1] (H++X1)=some (v2,H++X1++X2)→Zgj [a] H=some (v2,H++(X1++X2)):=fun v1 X1 v2 X2 e1 e2=>by
    simp[Zgj,Z5,ZoY,ZE,Zs,Ze,Zb,Zn,e1,e2]
   rcases Zu7 hp r0 g3 with⟨rfl,X,e1⟩ | ⟨w0,v1,u0,u1,X,F0,F2,rfl,e1,a1,a2,a3,a4⟩
   ·have hp2:0<(H++X).length:=by rw[List.length_append];omega
    rcases ZqB hp2 (.none (H:=H++X)) g4 ok with⟨rfl,Y,e2⟩ | ⟨_,_,_,_,_,_,_,e2,_⟩
    ·exact⟨.none,X++Y,[],run _ _ _ _ e1 e2,.none,by simp,by simp⟩
    ·cases e2
   ·have hp2:0<(H++X).length:=by rw[List.length_append];omega
    rcases ZqB hp2 (.tup (.cons a1 (.one a4))) g4 ok with⟨rfl,Y,e2⟩ | ⟨x0,w1,y0,y1,Y,F1',rfl,e3,e4,e2,b1,b2,b3⟩
    ·exact⟨.none,X++Y,[],run _ _ _ _ e1 e2,.none,by simp,by simp⟩
    ·have ex:x0=w0:=by
      have:Zr (.tup [w0,v1]) (.int 0) (H++X)=some (w0,H++X):=by simp[Zr,seqIndex?]
      rw[this]at e3
      cases e3
      rfl
     have ey:y0=u0:=by
      have:Zq (.tup [u0,u1]) (.int 0)=some u0:=by simp[Zq,seqIndex?]
      rw[this]at e4
      cases e4
      rfl
     subst ex ey
     have nd:(F0++F1').Nodup:=by
      rw[List.nodup_append]
      refine⟨a2,b2,fun x hx y hy e=>?_⟩
      have:=a1.lt x hx
      have:=b3 y hy
      omega
     have nw:∀x∈F0++F1',H.length≤x:=fun x m=>by
      rcases Zz8.mp m with m | m
      ·exact a3 x m
      ·have:=b3 x m;rw[List.length_append]at this;omega
     exact⟨.tup [x0,w1],X++Y,F0++F1',run _ _ _ _ e1 e2,by rw[←List.append_assoc];exact .tup (.cons (a1.ext Y) (.one b1)),fun x m=>.inl (nw x m),fun _=>⟨nd,nw⟩⟩
  ·cases h1
 ·rw[if_neg ok]at h2
  cases h2
def Zkc: Sm:=Zu (ZW (ZK (Zh ZbN (Zb 0) (ZY))) (ZE (Zs Zlo (Ze (Zb 1) (Ze (Zb 0) Zn)))) Z0) (Zu (ZW (ZK (Zh oEq (Zh Zr (Zb 1) (Zk 0)) (Zk 0))) (ZE (Zh Zr (Zb 1) (Zk 1))) Z0) (ZE (ZY)))
def Zkd:=Z5 2 Zkc
def Zke: PS:=(Zt (ZT (ZG (Zg Zbz (Za 0) (ZV))) (ZD (Zv Zia (Zd (Za 1) (Zd (Za 0) Zm)))) ZX) (Zt (ZT (ZG (Zg qEq (Zg Zq (Za 1) (Zj 0)) (Zj 0))) (ZD (Zg Zq (Za 1) (Zj 1))) ZX) (ZD (ZV))))
def ZhU:=Z9 2 Zke
theorem Zs9: SimF false Zkd ZhU:=Zac (show S [] [] [] false Zkc Zke from(ZA (Z3 (ZN (ZC Zcf (Zc 0) (Z7))) (ZR (ZI Zub (Zf (Zc 1) (Zf (Zc 0) Zo)))) Z6) (ZA (Z3 (ZN (ZC Zaq (Zy Zx (Zc 1) (Zl _)) (Zl _))) (ZR (Zy Zx (Zc 1) (Zl _))) Z6) (ZR (Z7)))))
def ZkV: Sm:=Zu (ZL 3 (Zbc Zn)) (Zu (ZaK (Zdo (Zb 0) (Zb 2)) (Zci 4 5) (Zu (ZL 6 (Zs Zkd (Ze (Zb 4) (Ze (Zs ZgN (Ze (Zb 1) (Ze (Zs ZgH (Ze (Zb 5) (Ze (eUn ZbJ (Zk 1)) Zn))) Zn))) Zn)))) (Zu (ZW (Za5 (ZK (Zh oIs (Zb 6) (ZY))) (Za5 (ZK (Zh ZbN (Zb 4) (ZY))) Zao)) (ZE (ZY)) Z0) (Zb9 (Zd4 (Zb 3) (Zb 6)))))) (ZE (Zb 3)))
def ZkW:=Z5 3 ZkV
def ZkX: PS:=(Zt (ZM 3 (Za2 Zm)) (Zt (ZaD (Zdq (Za 0) (Za 2)) (ZcC 4 5) (Zt (ZM 6 (Zv ZhU (Zd (Za 4) (Zd (Zv ZfB (Zd (Za 1) (Zd (Zv Zfy (Zd (Za 5) (Zd (pUn ZbB (Zj 1)) Zm))) Zm))) Zm)))) (Zt (ZT (ZaU (ZG (Zg qIs (Za 6) (ZV))) (ZaU (ZG (Zg Zbz (Za 4) (ZV))) Zai)) (ZD (ZV)) ZX) (ZcX 3 [] ZaA (ZbR (Za 6)))))) (ZD (Za 3))))
def Zh4:=Z9 3 ZkX
theorem ZtK: SimF false ZkW Zh4:=Zac (show S [] [3] [] false ZkV ZkX from(ZA (ZbG (O':=[3]) (E.list Zo)) (ZA (Zbd (Gs.zip (Zc 0) (Zc 2)) PutOk.two (by decide) (by decide) (ZA (ZU (O':=[3]) (ZI Zs9 (Zf (Zc 4) (Zf (ZI ZlT (Zf (Zc 1) (Zf (ZI Zlm (Zf (Zc 5) (Zf (Zb5 Zb6 (Zl _)) Zo))) Zo))) Zo)))) (ZA (Z3 (Zbh (ZN (ZC Za6 (Zc 6) (Z7))) (Zbh (ZN (ZC Zcf (Zc 4) (Z7))) Zax)) (ZR (Z7)) Z6) (Zgr (O':=[3]) (by decide) Zbn (Za1 (O':=[]) (E.flat (Zc 6))) (by decide) (by decide))))) (ZR (Zc 3)))))
def Znq: Sm:=Zu (ZW (ZK (Zh oIs (Zb 0) (ZY))) (ZE (ZY)) Z0) (Zu (ZL 1 (Zs Zft (Ze (Zh Zr (Zb 0) (Zk 1)) Zn))) (Zu (ZL 2 (Zaw (Zdo (Zh Zr (Zb 0) (Zk 0)) (Zb 1)) (Zci 100 101) Zao (Zs ZkW (Ze (Zb 100) (Ze (Zb 101) (Ze (Zb 1) Zn)))))) (Zu (ZW (ZK (Zh oIn (ZY) (Zb 2))) (ZE (ZY)) Z0) (ZE (Zal (Ze (Zb 2) (Ze (Zh Zr (Zb 0) (Zk 1)) Zn)))))))
def Znr:=Z5 1 Znq
def ZiO: PS:=(Zt (ZT (ZG (Zg qIs (Za 0) (ZV))) (ZD (ZV)) ZX) (Zt (ZM 1 (Zv Zfu (Zd (Zg Zq (Za 0) (Zj 1)) Zm))) (Zt (ZM 2 (Zan (Zdq (Zg Zq (Za 0) (Zj 0)) (Za 1)) (ZcC 100 101) Zai (Zv Zh4 (Zd (Za 100) (Zd (Za 101) (Zd (Za 1) Zm)))))) (Zt (ZT (ZG (Zg qIn (ZV) (Za 2))) (ZD (ZV)) ZX) (ZD (Zak (Zd (Za 2) (Zd (Zg Zq (Za 0) (Zj 1)) Zm))))))))
def ZfT:=Z9 1 ZiO
theorem Zv0: SimF false Znr ZfT:=Zac (show S [] [] [] false Znq ZiO from(ZA (Z3 (ZN (ZC Za6 (Zc 0) (Z7))) (ZR (Z7)) Z6) (ZA (ZU (O':=[]) (ZI ZkU (Zf (Zy Zx (Zc 0) (Zl _)) Zo))) (ZA (ZU (O':=[]) (ZbF (Gs.zip (Zy Zx (Zc 0) (Zl _)) (Zc 1)) PutOk.two (by decide) Zax (ZI ZtK (Zf (Zc 100) (Zf (Zc 101) (Zf (Zc 1) Zo)))))) (ZA (Z3 (ZN (ZC ZeL (Z7) (Zc 2))) (ZR (Z7)) Z6) (ZR (E.tup (Zf (Zc 2) (Zf (Zy Zx (Zc 0) (Zl _)) Zo)))))))))
def ZoA: Sm:=ZE (Zs Zgj (Ze (Zs Znr (Ze (Zs Zgj (Ze (Zb 0) Zn)) Zn)) Zn))
def Zd5:=Z5 1 ZoA
def Zje: PS:=(ZD (Zv Zfe (Zd (Zv ZfT (Zd (Zv Zfe (Zd (Za 0) Zm)) Zm)) Zm)))
def ZbE:=Z9 1 Zje
theorem Ze6: SimF true Zd5 ZbE:=Zac (show S [] [] [] true ZoA Zje from(Zas (ZaM Zsw (Zf (ZI Zv0 (Zf (ZI Zsw (Zf (Zc 0) Zo)) Zo)) Zo))))
def ZjW: Sm:=Zu (ZL 1 (Zs ZaF (Ze (Zb 0) Zn))) (Zu (ZL 2 (Zaw (Zbm (Zb 0)) (put1 100) Zao (Zs Zdh (Ze (Zb 100) Zn)))) (Zu (ZL 3 (Zk 1)) (Zu (Zdg (ZK (Zh oLt (Zb 3) (Zb 1))) (Zu (ZL 4 (Zaw (Zbm (Zb 2)) (put1 102) Zao (Zs Zdh (Ze (Zb 102) Zn)))) (Zu (ZaK (ZaL (Ze (Zb 1) Zn)) (put1 5) (ZaK (ZaL (Ze (Zb 1) Zn)) (put1 6) (ZaK (ZaL (Ze (Zb 1) Zn)) (put1 7) (ZW (Za5 (ZK (Zh ZbN (Zh Zr (Zh Zr (Zb 4) (Zb 5)) (Zb 7)) (ZY))) (Za5 (ZK (Zh ZbN (Zh Zr (Zh Zr (Zb 4) (Zb 7)) (Zb 6)) (ZY))) Zao)) (Zu (ZL 8 (Zh Zaf (Zh Zr (Zh Zr (Zb 4) (Zb 5)) (Zb 7)) (Zh Zr (Zh Zr (Zb 4) (Zb 7)) (Zb 6)))) (ZW (tOr (ZK (Zh oIs (Zh Zr (Zh Zr (Zb 2) (Zb 5)) (Zb 6)) (ZY))) (tOr (ZK (Zh oLt (Zb 8) (Zh Zr (Zh Zr (Zb 2) (Zb 5)) (Zb 6)))) Zb0)) (Zbl (Zb 8) (Zh Zr (Zb 2) (Zb 5)) (Zb 6)) Z0)) Z0)))) (ZL 3 (Zh ZaT (Zk 2) (Zb 3))))) 1000000) (Zu (ZaK (ZaL (Ze (Zb 1) Zn)) (put1 5) (ZW (ZK (Zh oLt (Zh Zr (Zh Zr (Zb 2) (Zb 5)) (Zb 5)) (Zk 0))) (ZE (ZY)) Z0)) (ZE (Zb 2))))))
def ZhQ:=Z5 1 ZjW
def ZjX: PS:=(Zt (ZM 1 (Zv Zat (Zd (Za 0) Zm))) (Zt (ZM 2 (Zan (ZaI (Za 0)) (Zae 100) Zai (pFl (Zv Zdi (Zd (Za 100) Zm))))) (Zt (ZM 3 (Zj 1)) (Zt (Zdy (ZG (Zg qLt (Za 3) (Za 1))) (Zt (ZM 4 (Zan (ZaI (Za 2)) (Zae 102) Zai (pFl (Zv Zdi (Zd (Za 102) Zm))))) (Zt (ZaD (Zaz (Zd (Za 1) Zm)) (Zae 5) (ZaD (Zaz (Zd (Za 1) Zm)) (Zae 6) (ZaD (Zaz (Zd (Za 1) Zm)) (Zae 7) (ZT (ZaU (ZG (Zg Zbz (Zg Zq (Zg Zq (Za 4) (Za 5)) (Za 7)) (ZV))) (ZaU (ZG (Zg Zbz (Zg Zq (Zg Zq (Za 4) (Za 7)) (Za 6)) (ZV))) Zai)) (Zt (ZM 8 (Zg Zad (Zg Zq (Zg Zq (Za 4) (Za 5)) (Za 7)) (Zg Zq (Zg Zq (Za 4) (Za 7)) (Za 6)))) (ZT (bOr (ZG (Zg qIs (Zg Zq (Zg Zq (Za 2) (Za 5)) (Za 6)) (ZV))) (bOr (ZG (Zg qLt (Za 8) (Zg Zq (Zg Zq (Za 2) (Za 5)) (Za 6)))) Zb3)) (Zbb 2 [] (ZbR (Za 8)) (ZbD ZaA (Za 5)) (Za 6)) ZX)) ZX)))) (ZM 3 (Zg ZaC (Zj 2) (Za 3))))) 1000000) (Zt (ZaD (Zaz (Zd (Za 1) Zm)) (Zae 5) (ZT (ZG (Zg qLt (Zg Zq (Zg Zq (Za 2) (Za 5)) (Za 5)) (Zj 0))) (ZD (ZV)) ZX)) (ZD (Za 2)))))))
def Zfq:=Z9 1 ZjX
theorem Zpr: SimF false ZhQ Zfq:=Zac (show S [] [2] [] false ZjW ZjX from(ZA (ZU (O':=[]) (Zav ZaO (Zf (Zc 0) Zo))) (ZA (ZbG (O':=[2]) (ZcI (Gs.seq (Zc 0)) PutOk.one (by decide) Zax (Zhl Ze4 (Zf (Zc 100) Zo)))) (ZA (ZU (O':=[2]) (Zl _)) (ZA (Zf9 (ZN (ZC ZcW (Zc 3) (Zc 1))) (ZA (ZU (O':=[2]) (Za1 (O':=[]) (ZcI (Gs.seq (Zc 2)) PutOk.one (by decide) Zax (Zhl Ze4 (Zf (Zc 102) Zo))))) (ZA (Zbd (Gs.range (Zf (Zc 1) Zo)) PutOk.one (by decide) (by decide) (Zbd (Gs.range (Zf (Zc 1) Zo)) PutOk.one (by decide) (by decide) (Zbd (Gs.range (Zf (Zc 1) Zo)) PutOk.one (by decide) (by decide) (Z3 (Zbh (ZN (ZC Zcf (Zy Zx (Zy Zx (Zc 4) (Zc 5)) (Zc 7)) (Z7))) (Zbh (ZN (ZC Zcf (Zy Zx (Zy Zx (Zc 4) (Zc 7)) (Zc 6)) (Z7))) Zax)) (ZA (ZU (O':=[2]) (Zab Zag (Zy Zx (Zy Zx (Zc 4) (Zc 5)) (Zc 7)) (Zy Zx (Zy Zx (Zc 4) (Zc 7)) (Zc 6)))) (Z3 (ZaY (ZN (ZC Za6 (Zy Zx (Zy Zx (Zc 2) (Zc 5)) (Zc 6)) (Z7))) (ZaY (ZN (ZC ZcW (Zc 8) (Zy Zx (Zy Zx (Zc 2) (Zc 5)) (Zc 6)))) Zcu)) (S.put (O':=[2]) (by decide) (Za1 (O':=[]) (E.flat (Zc 8))) (Zc4 Zbn (Zc 5)) (Zc 6) (by decide) (by decide)) Z6)) Z6)))) (ZU (O':=[2]) (Zab Zba (Zl _) (Zc 3))))) 1000000) (ZA (Zbd (Gs.range (Zf (Zc 1) Zo)) PutOk.one (by decide) (by decide) (Z3 (ZN (ZC ZcW (Zy Zx (Zy Zx (Zc 2) (Zc 5)) (Zc 5)) (Zl _))) (ZR (Z7)) Z6)) (ZR (Zc 2))))))))
def Zns: Sm:=Zu (ZL 2 (Zh Zr (Zb 0) (Zk 0))) (Zu (ZL 3 (Zh Zr (Zb 1) (Zk 0))) (Zu (ZL 4 (Zk 1)) (Zu (ZL 5 (Zk 0)) (Zu (Zdg (ZK (Zh oNe (Zb 3) (Zk 0))) (Zu (ZL 6 (Zh oDiv (Zb 2) (Zb 3))) (Zu (ZL 7 (Zh Zbe (Zb 2) (Zh ZaT (Zb 6) (Zb 3)))) (Zu (ZL 2 (Zb 3)) (Zu (ZL 3 (Zb 7)) (Zu (ZL 7 (Zh Zbe (Zb 4) (Zh ZaT (Zb 6) (Zb 5)))) (Zu (ZL 4 (Zb 5)) (ZL 5 (Zb 7)))))))) 1000000) (Zu (ZL 8 (Zh Zbe (Zh Zr (Zb 1) (Zk 1)) (Zh Zr (Zb 0) (Zk 1)))) (Zu (ZW (ZK (Zh oEq (Zb 2) (Zk 0))) (Zu (ZW (ZK (Zh oNe (Zb 8) (Zk 0))) (ZE (ZY)) Z0) (ZE (Zb 0))) Z0) (Zu (ZW (ZK (Zh oNe (Zh oMod (Zb 8) (Zb 2)) (Zk 0))) (ZE (ZY)) Z0) (ZE (Zs Zek (Ze (Zh ZaT (Zh oDiv (Zh Zr (Zb 0) (Zk 0)) (Zb 2)) (Zh Zr (Zb 1) (Zk 0))) (Ze (Zh Zaf (Zh Zr (Zb 0) (Zk 1)) (Zh ZaT (Zh ZaT (Zh Zr (Zb 0) (Zk 0)) (Zb 4)) (Zh oDiv (Zb 8) (Zb 2)))) Zn)))))))))))
def Znt:=Z5 2 Zns
def Znu: PS:=(Zt (ZM 2 (Zg Zq (Za 0) (Zj 0))) (Zt (ZM 3 (Zg Zq (Za 1) (Zj 0))) (Zt (ZM 4 (Zj 1)) (Zt (ZM 5 (Zj 0)) (Zt (Zdy (ZG (Zg qNe (Za 3) (Zj 0))) (Zt (ZM 6 (Zg ZbU (Za 2) (Za 3))) (Zt (ZM 7 (Zg Za0 (Za 2) (Zg ZaC (Za 6) (Za 3)))) (Zt (ZM 2 (Za 3)) (Zt (ZM 3 (Za 7)) (Zt (ZM 7 (Zg Za0 (Za 4) (Zg ZaC (Za 6) (Za 5)))) (Zt (ZM 4 (Za 5)) (ZM 5 (Za 7)))))))) 1000000) (Zt (ZM 8 (Zg Za0 (Zg Zq (Za 1) (Zj 1)) (Zg Zq (Za 0) (Zj 1)))) (Zt (ZT (ZG (Zg qEq (Za 2) (Zj 0))) (Zt (ZT (ZG (Zg qNe (Za 8) (Zj 0))) (ZD (ZV)) ZX) (ZD (Za 0))) ZX) (Zt (ZT (ZG (Zg qNe (Zg ZaV (Za 8) (Za 2)) (Zj 0))) (ZD (ZV)) ZX) (ZD (Zv ZdR (Zd (Zg ZaC (Zg ZbU (Zg Zq (Za 0) (Zj 0)) (Za 2)) (Zg Zq (Za 1) (Zj 0))) (Zd (Zg Zad (Zg Zq (Za 0) (Zj 1)) (Zg ZaC (Zg ZaC (Zg Zq (Za 0) (Zj 0)) (Za 4)) (Zg ZbU (Za 8) (Za 2)))) Zm))))))))))))
def ZiQ:=Z9 2 Znu
theorem Zv1: SimF false Znt ZiQ:=Zac (show S [] [] [] false Zns Znu from(ZA (ZU (O':=[]) (Zy Zx (Zc 0) (Zl _))) (ZA (ZU (O':=[]) (Zy Zx (Zc 1) (Zl _))) (ZA (ZU (O':=[]) (Zl _)) (ZA (ZU (O':=[]) (Zl _)) (ZA (Zf9 (ZN (ZC ZbV (Zc 3) (Zl _))) (ZA (ZU (O':=[]) (ZC Zcy (Zc 2) (Zc 3))) (ZA (ZU (O':=[]) (ZC Zbi (Zc 2) (Zab Zba (Zc 6) (Zc 3)))) (ZA (ZU (O':=[]) (Zc 3)) (ZA (ZU (O':=[]) (Zc 7)) (ZA (ZU (O':=[]) (ZC Zbi (Zc 4) (Zab Zba (Zc 6) (Zc 5)))) (ZA (ZU (O':=[]) (Zc 5)) (ZU (O':=[]) (Zc 7)))))))) 1000000) (ZA (ZU (O':=[]) (ZC Zbi (Zy Zx (Zc 1) (Zl _)) (Zy Zx (Zc 0) (Zl _)))) (ZA (Z3 (ZN (ZC Zaq (Zc 2) (Zl _))) (ZA (Z3 (ZN (ZC ZbV (Zc 8) (Zl _))) (ZR (Z7)) Z6) (ZR (Zc 0))) Z6) (ZA (Z3 (ZN (ZC ZbV (ZC Za9 (Zc 8) (Zc 2)) (Zl _))) (ZR (Z7)) Z6) (ZR (ZI Zfs (Zf (Zab Zba (ZC Zcy (Zy Zx (Zc 0) (Zl _)) (Zc 2)) (Zy Zx (Zc 1) (Zl _))) (Zf (Zab Zag (Zy Zx (Zc 0) (Zl _)) (Zab Zba (Zab Zba (Zy Zx (Zc 0) (Zl _)) (Zc 4)) (ZC Zcy (Zc 8) (Zc 2)))) Zo)))))))))))))
def Zlq: Sm:=Zu (ZL 2 (Zh Zaf (Zbc (Ze (Zal (Ze (Zk 0) (Ze (Zk 0) Zn))) Zn)) (Zb 1))) (Zu (ZL 3 (Zh Zaf (Zbc (Ze (Zal (Ze (Zk 0) (Ze (Zk 0) Zn))) Zn)) (Zb 1))) (Zu (ZaK (ZaL (Ze (Zk 1) (Ze (Zs ZaF (Ze (Zb 2) Zn)) Zn))) (put1 4) (ZaK (ZaL (Ze (Zs ZaF (Ze (Zb 2) Zn)) Zn)) (put1 5) (Zu (ZL 6 (Zh Zr (Zh Zr (Zb 0) (Zb 4)) (Zb 5))) (ZW (Za5 (ZK (Zh oNe (Zb 4) (Zb 5))) (Za5 (ZK (Zh ZbN (Zb 6) (ZY))) (Za5 (ZK (Zh oEq (Zh Zr (Zh Zr (Zb 0) (Zb 5)) (Zb 4)) (eUn ZbJ (Zb 6)))) (Za5 (ZK (Zh ZbN (Zh Zr (Zb 3) (Zb 4)) (ZY))) Zao)))) (Zbl (Zs Znt (Ze (Zh Zr (Zb 3) (Zb 4)) (Ze (Zs Zek (Ze (Zh Zr (Zh Zr (Zb 2) (Zb 5)) (Zk 0)) (Ze (Zh Zaf (Zh Zr (Zh Zr (Zb 2) (Zb 5)) (Zk 1)) (Zb 6)) Zn))) Zn))) (Zb 3) (Zb 4)) Z0)))) (Zu (ZW (ZK (Zh oIn (ZY) (Zb 3))) (ZE (ZY)) Z0) (ZE (ZdO (Zb 3) 1)))))
def Zib:=Z5 2 Zlq
def Zlr: PS:=(Zt (ZM 2 (Zg Zad (Za2 (Zd (Zak (Zd (Zj 0) (Zd (Zj 0) Zm))) Zm)) (Za 1))) (Zt (ZM 3 (pFl (Zg Zad (Za2 (Zd (Zak (Zd (Zj 0) (Zd (Zj 0) Zm))) Zm)) (Za 1)))) (Zt (ZaD (Zaz (Zd (Zj 1) (Zd (Zv Zat (Zd (Za 2) Zm)) Zm))) (Zae 4) (ZaD (Zaz (Zd (Zv Zat (Zd (Za 2) Zm)) Zm)) (Zae 5) (Zt (ZM 6 (Zg Zq (Zg Zq (Za 0) (Za 4)) (Za 5))) (ZT (ZaU (ZG (Zg qNe (Za 4) (Za 5))) (ZaU (ZG (Zg Zbz (Za 6) (ZV))) (ZaU (ZG (Zg qEq (Zg Zq (Zg Zq (Za 0) (Za 5)) (Za 4)) (pUn ZbB (Za 6)))) (ZaU (ZG (Zg Zbz (Zg Zq (Za 3) (Za 4)) (ZV))) Zai)))) (Zbb 3 [] (ZbR (Zv ZiQ (Zd (Zg Zq (Za 3) (Za 4)) (Zd (Zv ZdR (Zd (Zg Zq (Zg Zq (Za 2) (Za 5)) (Zj 0)) (Zd (Zg Zad (Zg Zq (Zg Zq (Za 2) (Za 5)) (Zj 1)) (Za 6)) Zm))) Zm)))) ZaA (Za 4)) ZX)))) (Zt (ZT (ZG (Zg qIn (ZV) (Za 3))) (ZD (ZV)) ZX) (ZD (ZdB (Za 3) 1))))))
def ZgI:=Z9 2 Zlr
theorem ZpZ: SimF false Zib ZgI:=Zac (show S [] [3] [] false Zlq Zlr from(ZA (ZU (O':=[]) (Zab Zag (E.list (Zf (E.tup (Zf (Zl _) (Zf (Zl _) Zo))) Zo)) (Zc 1))) (ZA (ZbG (O':=[3]) (Zfb Zag (E.list (Zf (E.tup (Zf (Zl _) (Zf (Zl _) Zo))) Zo)) (Zc 1))) (ZA (Zbd (Gs.range (Zf (Zl _) (Zf (Zav ZaO (Zf (Zc 2) Zo)) Zo))) PutOk.one (by decide) (by decide) (Zbd (Gs.range (Zf (Zav ZaO (Zf (Zc 2) Zo)) Zo)) PutOk.one (by decide) (by decide) (ZA (ZU (O':=[3]) (Zy Zx (Zy Zx (Zc 0) (Zc 4)) (Zc 5))) (Z3 (Zbh (ZN (ZC ZbV (Zc 4) (Zc 5))) (Zbh (ZN (ZC Zcf (Zc 6) (Z7))) (Zbh (ZN (ZC Zaq (Zy Zx (Zy Zx (Zc 0) (Zc 5)) (Zc 4)) (Zb5 Zb6 (Zc 6)))) (Zbh (ZN (ZC Zcf (Zy Zx (Zc 3) (Zc 4)) (Z7))) Zax)))) (S.put (O':=[3]) (by decide) (Za1 (O':=[]) (E.flat (ZI Zv1 (Zf (Zy Zx (Zc 3) (Zc 4)) (Zf (ZI Zfs (Zf (Zy Zx (Zy Zx (Zc 2) (Zc 5)) (Zl _)) (Zf (Zab Zag (Zy Zx (Zy Zx (Zc 2) (Zc 5)) (Zl _)) (Zc 6)) Zo))) Zo))))) Zbn (Zc 4) (by decide) (by decide)) Z6)))) (ZA (Z3 (ZN (ZC ZeL (Z7) (Zc 3))) (ZR (Z7)) Z6) (ZR (Zhw (Zc 3))))))))
def ZkY: Sm:=Zu (ZL 2 (Zh Zaf (Zbc (Ze (Zal (Ze (Zk 0) (Ze (Zk 0) Zn))) Zn)) (Zb 1))) (Zu (ZL 3 (Zaw (Zbm (Zb 0)) (put1 100) Zao (Zs Zdh (Ze (Zb 100) Zn)))) (Zu (ZaK (ZaL (Ze (Zs ZaF (Ze (Zb 2) Zn)) Zn)) (put1 4) (ZaK (ZaL (Ze (Zs ZaF (Ze (Zb 2) Zn)) Zn)) (put1 5) (Zu (ZL 6 (Zs Zg8 (Ze (Zh Zr (Zh Zr (Zb 2) (Zb 4)) (Zk 0)) (Ze (Zh Zr (Zh Zr (Zb 2) (Zb 5)) (Zk 0)) Zn)))) (Zu (ZL 7 (Zh Zbe (Zh Zr (Zh Zr (Zb 2) (Zb 4)) (Zk 1)) (Zh Zr (Zh Zr (Zb 2) (Zb 5)) (Zk 1)))) (Zu (ZL 8 (Zh Zr (Zh Zr (Zb 0) (Zb 4)) (Zb 5))) (ZW (Za5 (ZK (Zh oNe (Zb 4) (Zb 5))) (Za5 (ZK (Zh oEq (Zb 6) (Zk 0))) Zao)) (Zu (ZW (Za5 (ZK (Zh ZbN (Zb 8) (ZY))) (Za5 (ZK (Zh oLt (Zb 8) (Zb 7))) Zao)) (ZE (ZY)) Z0) (Zbl (Zb 7) (Zh Zr (Zb 3) (Zb 4)) (Zb 5))) (ZW (Za5 (ZK (Zh oNe (Zb 4) (Zb 5))) (Za5 (ZK (Zh ZbN (Zb 8) (ZY))) Zao)) (Zbl (Zh Zbe (Zb 8) (Zh oMod (Zh Zbe (Zb 8) (Zb 7)) (Zb 6))) (Zh Zr (Zb 3) (Zb 4)) (Zb 5)) Z0))))))) (ZE (Zb 3))))
def ZkZ:=Z5 2 ZkY
def Zk0: PS:=(Zt (ZM 2 (Zg Zad (Za2 (Zd (Zak (Zd (Zj 0) (Zd (Zj 0) Zm))) Zm)) (Za 1))) (Zt (ZM 3 (Zan (ZaI (Za 0)) (Zae 100) Zai (pFl (Zv Zdi (Zd (Za 100) Zm))))) (Zt (ZaD (Zaz (Zd (Zv Zat (Zd (Za 2) Zm)) Zm)) (Zae 4) (ZaD (Zaz (Zd (Zv Zat (Zd (Za 2) Zm)) Zm)) (Zae 5) (Zt (ZM 6 (Zv ZfR (Zd (Zg Zq (Zg Zq (Za 2) (Za 4)) (Zj 0)) (Zd (Zg Zq (Zg Zq (Za 2) (Za 5)) (Zj 0)) Zm)))) (Zt (ZM 7 (Zg Za0 (Zg Zq (Zg Zq (Za 2) (Za 4)) (Zj 1)) (Zg Zq (Zg Zq (Za 2) (Za 5)) (Zj 1)))) (Zt (ZM 8 (Zg Zq (Zg Zq (Za 0) (Za 4)) (Za 5))) (ZT (ZaU (ZG (Zg qNe (Za 4) (Za 5))) (ZaU (ZG (Zg qEq (Za 6) (Zj 0))) Zai)) (Zt (ZT (ZaU (ZG (Zg Zbz (Za 8) (ZV))) (ZaU (ZG (Zg qLt (Za 8) (Za 7))) Zai)) (ZD (ZV)) ZX) (Zbb 3 [] (ZbR (Za 7)) (ZbD ZaA (Za 4)) (Za 5))) (ZT (ZaU (ZG (Zg qNe (Za 4) (Za 5))) (ZaU (ZG (Zg Zbz (Za 8) (ZV))) Zai)) (Zbb 3 [] (Zg Za0 (Za 8) (Zg ZaV (Zg Za0 (Za 8) (Za 7)) (Za 6))) (ZbD ZaA (Za 4)) (Za 5)) ZX))))))) (ZD (Za 3)))))
def Zh5:=Z9 2 Zk0
theorem ZtL: SimF false ZkZ Zh5:=Zac (show S [] [3] [] false ZkY Zk0 from(ZA (ZU (O':=[]) (Zab Zag (E.list (Zf (E.tup (Zf (Zl _) (Zf (Zl _) Zo))) Zo)) (Zc 1))) (ZA (ZbG (O':=[3]) (ZcI (Gs.seq (Zc 0)) PutOk.one (by decide) Zax (Zhl Ze4 (Zf (Zc 100) Zo)))) (ZA (Zbd (Gs.range (Zf (Zav ZaO (Zf (Zc 2) Zo)) Zo)) PutOk.one (by decide) (by decide) (Zbd (Gs.range (Zf (Zav ZaO (Zf (Zc 2) Zo)) Zo)) PutOk.one (by decide) (by decide) (ZA (ZU (O':=[3]) (ZI Zni (Zf (Zy Zx (Zy Zx (Zc 2) (Zc 4)) (Zl _)) (Zf (Zy Zx (Zy Zx (Zc 2) (Zc 5)) (Zl _)) Zo)))) (ZA (ZU (O':=[3]) (ZC Zbi (Zy Zx (Zy Zx (Zc 2) (Zc 4)) (Zl _)) (Zy Zx (Zy Zx (Zc 2) (Zc 5)) (Zl _)))) (ZA (ZU (O':=[3]) (Zy Zx (Zy Zx (Zc 0) (Zc 4)) (Zc 5))) (Z3 (Zbh (ZN (ZC ZbV (Zc 4) (Zc 5))) (Zbh (ZN (ZC Zaq (Zc 6) (Zl _))) Zax)) (ZA (Z3 (Zbh (ZN (ZC Zcf (Zc 8) (Z7))) (Zbh (ZN (ZC ZcW (Zc 8) (Zc 7))) Zax)) (ZR (Z7)) Z6) (S.put (O':=[3]) (by decide) (Za1 (O':=[]) (E.flat (Zc 7))) (Zc4 Zbn (Zc 4)) (Zc 5) (by decide) (by decide))) (Z3 (Zbh (ZN (ZC ZbV (Zc 4) (Zc 5))) (Zbh (ZN (ZC Zcf (Zc 8) (Z7))) Zax)) (S.put (O':=[3]) (by decide) (Za1 (O':=[]) (ZC Zbi (Zc 8) (ZC Za9 (ZC Zbi (Zc 8) (Zc 7)) (Zc 6)))) (Zc4 Zbn (Zc 4)) (Zc 5) (by decide) (by decide)) Z6))))))) (ZR (Zc 3))))))
def Zl2: Sm:=Zu (ZW (ZK (Zh oIs (Zb 0) (ZY))) (ZE (ZY)) Z0) (Zu (ZL 1 (Zs ZhQ (Ze (Zh Zr (Zb 0) (Zk 0)) Zn))) (Zu (ZW (ZK (Zh oIs (Zb 1) (ZY))) (ZE (ZY)) Z0) (Zu (ZL 2 (Zs Zib (Ze (Zb 1) (Ze (Zh Zr (Zb 0) (Zk 1)) Zn)))) (Zu (ZW (ZK (Zh oIs (Zb 2) (ZY))) (ZE (ZY)) Z0) (Zu (ZL 1 (Zs ZkZ (Ze (Zb 1) (Ze (Zb 2) Zn)))) (Zu (ZW (ZK (Zh oIs (Zb 1) (ZY))) (ZE (ZY)) Z0) (Zu (ZL 1 (Zs ZhQ (Ze (Zb 1) Zn))) (Zu (ZW (ZK (Zh oIs (Zb 1) (ZY))) (ZE (ZY)) Z0) (Zu (ZL 2 (Zs Zib (Ze (Zb 1) (Ze (Zb 2) Zn)))) (Zu (ZW (ZK (Zh oIs (Zb 2) (ZY))) (ZE (ZY)) Z0) (ZE (Zal (Ze (Zb 1) (Ze (Zb 2) Zn))))))))))))))
def ZgQ:=Z5 1 Zl2
def Zim: PS:=(Zt (ZT (ZG (Zg qIs (Za 0) (ZV))) (ZD (ZV)) ZX) (Zt (ZM 1 (Zv Zfq (Zd (Zg Zq (Za 0) (Zj 0)) Zm))) (Zt (ZT (ZG (Zg qIs (Za 1) (ZV))) (ZD (ZV)) ZX) (Zt (ZM 2 (Zv ZgI (Zd (Za 1) (Zd (Zg Zq (Za 0) (Zj 1)) Zm)))) (Zt (ZT (ZG (Zg qIs (Za 2) (ZV))) (ZD (ZV)) ZX) (Zt (ZM 1 (Zv Zh5 (Zd (Za 1) (Zd (Za 2) Zm)))) (Zt (ZT (ZG (Zg qIs (Za 1) (ZV))) (ZD (ZV)) ZX) (Zt (ZM 1 (Zv Zfq (Zd (Za 1) Zm))) (Zt (ZT (ZG (Zg qIs (Za 1) (ZV))) (ZD (ZV)) ZX) (Zt (ZM 2 (Zv ZgI (Zd (Za 1) (Zd (Za 2) Zm)))) (Zt (ZT (ZG (Zg qIs (Za 2) (ZV))) (ZD (ZV)) ZX) (ZD (Zak (Zd (Za 1) (Zd (Za 2) Zm)))))))))))))))
def Zcd:=Z9 1 Zim
theorem Zl3: SimF false ZgQ Zcd:=Zac (show S [] [] [] false Zl2 Zim from(ZA (Z3 (ZN (ZC Za6 (Zc 0) (Z7))) (ZR (Z7)) Z6) (ZA (ZU (O':=[]) (ZI Zpr (Zf (Zy Zx (Zc 0) (Zl _)) Zo))) (ZA (Z3 (ZN (ZC Za6 (Zc 1) (Z7))) (ZR (Z7)) Z6) (ZA (ZU (O':=[]) (ZI ZpZ (Zf (Zc 1) (Zf (Zy Zx (Zc 0) (Zl _)) Zo)))) (ZA (Z3 (ZN (ZC Za6 (Zc 2) (Z7))) (ZR (Z7)) Z6) (ZA (ZU (O':=[]) (ZI ZtL (Zf (Zc 1) (Zf (Zc 2) Zo)))) (ZA (Z3 (ZN (ZC Za6 (Zc 1) (Z7))) (ZR (Z7)) Z6) (ZA (ZU (O':=[]) (ZI Zpr (Zf (Zc 1) Zo))) (ZA (Z3 (ZN (ZC Za6 (Zc 1) (Z7))) (ZR (Z7)) Z6) (ZA (ZU (O':=[]) (ZI ZpZ (Zf (Zc 1) (Zf (Zc 2) Zo)))) (ZA (Z3 (ZN (ZC Za6 (Zc 2) (Z7))) (ZR (Z7)) Z6) (ZR (E.tup (Zf (Zc 1) (Zf (Zc 2) Zo))))))))))))))))
def Zl4: Sm:=Zu (ZW (tOr (ZcE (ZK (eIs "tuple" (Zb 0)))) (tOr (ZK (Zh oNe (Zs ZaF (Ze (Zb 0) Zn)) (Zk 2))) (tOr (ZcE (ZK (Zs ZmE (Ze (Zh Zr (Zb 0) (Zk 0)) (Ze (Zh Zaf (Zb 1) (Zk 1)) Zn))))) Zb0))) (ZE (Zco false)) Z0) (Zu (ZW (tOr (ZcE (ZK (eIs "list" (Zh Zr (Zb 0) (Zk 1))))) (tOr (ZK (Zh oNe (Zs ZaF (Ze (Zh Zr (Zb 0) (Zk 1)) Zn)) (Zb 1))) Zb0)) (ZE (Zco false)) Z0) (Zu (ZaK (Zbm (Zh Zr (Zb 0) (Zk 1))) (put1 2) (Zu (ZW (tOr (ZcE (ZK (eIs "tuple" (Zb 2)))) (tOr (ZK (Zh oNe (Zs ZaF (Ze (Zb 2) Zn)) (Zk 2))) Zb0)) (ZE (Zco false)) Z0) (Zu (ZW (tOr (ZcE (ZK (Zs ZgO (Ze (Zh Zr (Zb 2) (Zk 0)) Zn)))) (tOr (ZcE (ZK (Zs ZgO (Ze (Zh Zr (Zb 2) (Zk 1)) Zn)))) Zb0)) (ZE (Zco false)) Z0) (ZW (tOr (ZK (Zh oLt (Zh Zr (Zb 2) (Zk 0)) (Zk 0))) (tOr (Za5 (ZK (Zh oGt (Zh Zr (Zb 2) (Zk 0)) (Zk 0))) (Za5 (ZcE (Zhy oLe oLt (Zk 0) (Zh Zr (Zb 2) (Zk 1)) (Zh Zr (Zb 2) (Zk 0)))) Zao)) Zb0)) (ZE (Zco false)) Z0)))) (ZE (Zco true))))
def Zl5:=Z5 2 Zl4
def Zl6: PS:=(Zt (ZT (bOr (Zcz (ZG (pIs "tuple" (Za 0)))) (bOr (ZG (Zg qNe (Zv Zat (Zd (Za 0) Zm)) (Zj 2))) (bOr (Zcz (ZG (Zv Ziu (Zd (Zg Zq (Za 0) (Zj 0)) (Zd (Zg Zad (Za 1) (Zj 1)) Zm))))) Zb3))) (ZD (Zcp false)) ZX) (Zt (ZT (bOr (Zcz (ZG (pIs "list" (Zg Zq (Za 0) (Zj 1))))) (bOr (ZG (Zg qNe (Zv Zat (Zd (Zg Zq (Za 0) (Zj 1)) Zm)) (Za 1))) Zb3)) (ZD (Zcp false)) ZX) (Zt (ZaD (ZaI (Zg Zq (Za 0) (Zj 1))) (Zae 2) (Zt (ZT (bOr (Zcz (ZG (pIs "tuple" (Za 2)))) (bOr (ZG (Zg qNe (Zv Zat (Zd (Za 2) Zm)) (Zj 2))) Zb3)) (ZD (Zcp false)) ZX) (Zt (ZT (bOr (Zcz (ZG (Zv ZfC (Zd (Zg Zq (Za 2) (Zj 0)) Zm)))) (bOr (Zcz (ZG (Zv ZfC (Zd (Zg Zq (Za 2) (Zj 1)) Zm)))) Zb3)) (ZD (Zcp false)) ZX) (ZT (bOr (ZG (Zg qLt (Zg Zq (Za 2) (Zj 0)) (Zj 0))) (bOr (ZaU (ZG (Zg qGt (Zg Zq (Za 2) (Zj 0)) (Zj 0))) (ZaU (Zcz (Zhz qLe qLt (Zj 0) (Zg Zq (Za 2) (Zj 1)) (Zg Zq (Za 2) (Zj 0)))) Zai)) Zb3)) (ZD (Zcp false)) ZX)))) (ZD (Zcp true)))))
def ZgR:=Z9 2 Zl6
theorem ZuB: SimF false Zl5 ZgR:=Zac (show S [] [] [] false Zl4 Zl6 from(ZA (Z3 (ZaY (Zc3 (ZN (Zeh (Zc 0)))) (ZaY (ZN (ZC ZbV (Zav ZaO (Zf (Zc 0) Zo)) (Zl _))) (ZaY (Zc3 (ZN (ZI Zu6 (Zf (Zy Zx (Zc 0) (Zl _)) (Zf (Zab Zag (Zc 1) (Zl _)) Zo))))) Zcu))) (ZR (E.bool _)) Z6) (ZA (Z3 (ZaY (Zc3 (ZN (Zeh (Zy Zx (Zc 0) (Zl _))))) (ZaY (ZN (ZC ZbV (Zav ZaO (Zf (Zy Zx (Zc 0) (Zl _)) Zo)) (Zc 1))) Zcu)) (ZR (E.bool _)) Z6) (ZA (Zbd (Gs.seq (Zy Zx (Zc 0) (Zl _))) PutOk.one (by decide) (by decide) (ZA (Z3 (ZaY (Zc3 (ZN (Zeh (Zc 2)))) (ZaY (ZN (ZC ZbV (Zav ZaO (Zf (Zc 2) Zo)) (Zl _))) Zcu)) (ZR (E.bool _)) Z6) (ZA (Z3 (ZaY (Zc3 (ZN (ZI ZlZ (Zf (Zy Zx (Zc 2) (Zl _)) Zo)))) (ZaY (Zc3 (ZN (ZI ZlZ (Zf (Zy Zx (Zc 2) (Zl _)) Zo)))) Zcu)) (ZR (E.bool _)) Z6) (Z3 (ZaY (ZN (ZC ZcW (Zy Zx (Zc 2) (Zl _)) (Zl _))) (ZaY (Zbh (ZN (ZC Zgv (Zy Zx (Zc 2) (Zl _)) (Zl _))) (Zbh (Zc3 (ZwV Zpl ZcW (Zl _) (Zy Zx (Zc 2) (Zl _)) (Zy Zx (Zc 2) (Zl _)))) Zax)) Zcu)) (ZR (E.bool _)) Z6)))) (ZR (E.bool _))))))
def ZmI: PS:=(Zt (ZT (ZG (Zg qIs (Za 1) (ZV))) (ZD (Zg qIs (Za 0) (ZV))) ZX) (ZD ((ZdE (Zv ZgR (Zd (Za 0) (Zd (Zv Zat (Zd (Zg Zq (Za 1) (Zj 1)) Zm)) Zm))) (Zg qEq (Za 0) (Za 1))))))
def ZgY:=Z9 2 ZmI
def ZoB(F:List V→Hp→Option (V×Hp)): Sm:=Zu (ZW (ZK (eIs "list" (Zb 0))) (ZE (Zaw (Zbm (Zb 0)) (put1 100) Zao (Zs F (Ze (Zb 100) Zn)))) Z0) (Zu (ZW (ZK (eIs "tuple" (Zb 0))) (ZE (Zs Zf6 (Ze (Zaw (Zbm (Zb 0)) (put1 102) Zao (Zs F (Ze (Zb 102) Zn))) Zn))) Z0) (ZE (Zb 0)))
def Zf2: Nat→List V→Hp→Option (V×Hp)
 | 0=>fun _ _=>none
 | n+1=>Z5 1 (ZoB (Zf2 n))
def Zgc: List V→Hp→Option (V×Hp):=Zf2 9
def Zr1(F:List T→Option T): PS:=(Zt (ZT (ZG (pIs "list" (Za 0))) (ZD (Zan (ZaI (Za 0)) (Zae 100) Zai (Zv F (Zd (Za 100) Zm)))) ZX) (Zt (ZT (ZG (pIs "tuple" (Za 0))) (ZD (Zv Zot (Zd (Zan (ZaI (Za 0)) (Zae 102) Zai (Zv F (Zd (Za 102) Zm))) Zm))) ZX) (ZD (ZbR (Za 0)))))
def ZiZ: Nat→List T→Option T
 | 0=>fun _=>none
 | n+1=>Z9 1 (Zr1 (ZiZ n))
def Zhp: List T→Option T:=ZiZ 9
theorem Zn9: ∀n:Nat,SimF true (Zf2 n) (ZiZ n)
 | 0=>ZvU
 | n+1=>Zac (show S [] [] [] true (ZoB (Zf2 n)) (Zr1 (ZiZ n))from(ZA (Z3 (ZN (Zeh (Zc 0))) (Zas (ZcI (Gs.seq (Zc 0)) PutOk.one (by decide) Zax (ZaM (Zn9 n) (Zf (Zc 100) Zo)))) Z6) (ZA (Z3 (ZN (Zeh (Zc 0))) (Zas (Zx0 ZwW (Zd2 (ZcI (Gs.seq (Zc 0)) PutOk.one (by decide) Zax (ZaM (Zn9 n) (Zf (Zc 102) Zo))) Zo (by decide) (by decide)))) Z6) (Zas (E.flat (Zc 0))))))
theorem Zjf: SimF true Zgc Zhp:=Zn9 9
def Zk1: Sm:=ZE (Zaw (ZaL (Ze (Zh Zaf (Zb 1) (Zk 1)) Zn)) (put1 100) Zao (eIf (ZK (Zh oEq (Zb 0) (Zb 100))) (Zk 0) (ZY)))
def Zh6:=Z5 2 Zk1
def Zk2: PS:=(ZD (Zan (Zaz (Zd (Zg Zad (Za 1) (Zj 1)) Zm)) (Zae 100) Zai (pIf (ZG (Zg qEq (Za 0) (Za 100))) (Zj 0) (ZV))))
def Zfv:=Z9 2 Zk2
theorem ZpN: SimF true Zh6 Zfv:=Zac (show S [] [] [] true Zk1 Zk2 from(Zas (ZcI (Gs.range (Zf (Zab Zag (Zc 1) (Zl _)) Zo)) PutOk.one (by decide) Zax (ZeE (ZN (ZC Zaq (Zc 0) (Zc 100))) (Zl _) (Z7)))))
def ZjC: Sm:=ZE (Zh Zaf (Zh Zaf (Zdv (Zb 0) Zec (Zed (Zh Zbe (Zb 1) (Zk 1)))) (Zbc (Ze (Zb 2) Zn))) (Zdv (Zb 0) (Zed (Zb 1)) Zec))
def Zff:=Z5 3 ZjC
def ZoZ: PS:=(ZD (pFl (Zg Zad (Zg Zad (Zdj (Za 0) Zdw (Zdx (Zg Za0 (Za 1) (Zj 1)))) (Za2 (Zd (Za 2) Zm))) (Zdj (Za 0) (Zdx (Za 1)) Zdw))))
def Zgk:=Z9 3 ZoZ
theorem Zsx: SimF true Zff Zgk:=Zac (show S [] [] [] true ZjC ZoZ from(Zas (Zfb Zag (Zab Zag (Zf8 (Zc 0) Pe.none (Pe.some (ZC Zbi (Zc 1) (Zl _)))) (E.list (Zf (Zc 2) Zo))) (Zf8 (Zc 0) (Pe.some (Zc 1)) Pe.none))))
def ZmJ: Sm:=Zu (ZL 2 (Zaw (Zbm (Zb 0)) (put1 100) Zao (Zs Zff (Ze (Zb 100) (Ze (Zh Zaf (Zb 1) (Zk 1)) (Ze (ZY) Zn)))))) (Zu (Zbl (Zs Zh6 (Ze (Zb 1) (Ze (Zh Zbe (Zs ZaF (Ze (Zb 0) Zn)) (Zk 1)) Zn))) (Zb 2) (Zb 1)) (ZE (Zb 2)))
def ZmK:=Z5 2 ZmJ
def ZmL: PS:=(Zt (ZM 2 (Zan (ZaI (Za 0)) (Zae 100) Zai (Zv Zgk (Zd (Za 100) (Zd (Zg Zad (Za 1) (Zj 1)) (Zd (ZV) Zm)))))) (Zt (Zbb 2 [] (Zv Zfv (Zd (Za 1) (Zd (Zg Za0 (Zv Zat (Zd (Za 0) Zm)) (Zj 1)) Zm))) ZaA (Za 1)) (ZD (Za 2))))
def Ziv:=Z9 2 ZmL
theorem Zu8: SimF true ZmK Ziv:=Zac (show S [] [2] [] true ZmJ ZmL from(ZA (ZbG (O':=[2]) (ZcI (Gs.seq (Zc 0)) PutOk.one (by decide) Zax (ZaM Zsx (Zf (Zc 100) (Zf (Zab Zag (Zc 1) (Zl _)) (Zf (Z7) Zo)))))) (ZA (S.put (O':=[2]) (by decide) (Za1 (O':=[]) (ZaM ZpN (Zf (Zc 1) (Zf (ZC Zbi (Zav ZaO (Zf (Zc 0) Zo)) (Zl _)) Zo)))) Zbn (Zc 1) (by decide) (by decide)) (Zas (E.own (by decide))))))
def Ziw: Sm:=Zu (Zbl (Zh Zr (Zb 2) (Zk 1)) (Zh Zr (Zb 0) (Zb 1)) (Zk 0)) (Zbl (Zs ZeR (Ze (Zh Zr (Zb 2) (Zk 0)) (Ze (eUn ZbJ (Zk 1)) Zn))) (Zh Zr (Zb 0) (Zk 0)) (Zb 1))
def ZmM:=Z5 3 Ziw
def ZmN: PS:=(Zt (Zbb 0 [] (ZbR (Zg Zq (Za 2) (Zj 1))) (ZbD ZaA (Za 1)) (Zj 0)) (Zbb 0 [] (ZbR (Zv Zep (Zd (Zg Zq (Za 2) (Zj 0)) (Zd (pUn ZbB (Zj 1)) Zm)))) (ZbD ZaA (Zj 0)) (Za 1)))
def Zix:=ZeM 3 ZmN
theorem Zu9: SimM ZmM Zix:=Zjb (show S [0] [0] [0] false Ziw ZmN from(ZA (S.put (O':=[0]) (by decide) (Za1 (O':=[]) (E.flat (Zy Zx (Zc 2) (Zl _)))) (Zc4 Zbn (Zc 1)) (Zl _) (by decide) (by decide)) (S.put (O':=[0]) (by decide) (Za1 (O':=[]) (E.flat (ZI ZgP (Zf (Zy Zx (Zc 2) (Zl _)) (Zf (Zb5 Zb6 (Zl _)) Zo))))) (Zc4 Zbn (Zl _)) (Zc 1) (by decide) (by decide)))) (by decide) (by unfold Ziw;repeat' first | exact Keep0.next | exact ZiK | exact Keep0.ret | exact Keep0.put | apply Keep0.seq | apply ZiL | exact Keep0.set (by decide))
def Zo0: Sm:=Zu (ZW (ZK (Zh oIs (Zb 0) (ZY))) (ZE (ZY)) Z0) (Zu (ZL 4 (Zs ZmK (Ze (Zh Zr (Zb 0) (Zk 0)) (Ze (Zb 1) Zn)))) (Zu (Zb9 (Zs ZmM (Ze (Zb 4) (Ze (Zb 1) (Ze (Zb 2) Zn))))) (ZE (Zs Zd5 (Ze (Zal (Ze (Zb 4) (Ze (Zs Zff (Ze (Zh Zr (Zb 0) (Zk 1)) (Ze (Zb 1) (Ze (Zb 3) Zn)))) Zn))) Zn)))))
def ZhD:=Z5 4 Zo0
def Zo1: PS:=(Zt (ZT (ZG (Zg qIs (Za 0) (ZV))) (ZD (ZV)) ZX) (Zt (ZM 4 (Zv Ziv (Zd (Zg Zq (Za 0) (Zj 0)) (Zd (Za 1) Zm)))) (Zt (ZdP 4 Zix (Zd (Za 1) (Zd (Za 2) Zm))) (ZD (Zv ZbE (Zd (Zak (Zd (Za 4) (Zd (Zv Zgk (Zd (Zg Zq (Za 0) (Zj 1)) (Zd (Za 1) (Zd (Za 3) Zm)))) Zm))) Zm))))))
def Zea:=Z9 4 Zo1
theorem Zo2: SimF true ZhD Zea:=Zac (show S [] [4] [] true Zo0 Zo1 from(ZA (Z3 (ZN (ZC Za6 (Zc 0) (Z7))) (Zas (Z7)) Z6) (ZA (ZbG (O':=[4]) (ZaM Zu8 (Zf (Zy Zx (Zc 0) (Zl _)) (Zf (Zc 1) Zo)))) (ZA (Zfd (O':=[4]) (by decide) Zu9 (Zf (Zc 1) (Zf (Zc 2) Zo)) (by decide) (by decide)) (Zas (ZaM Ze6 (Zf (E.tup (Zf (Zc 4) (Zf (ZI Zsx (Zf (Zy Zx (Zc 0) (Zl _)) (Zf (Zc 1) (Zf (Zc 3) Zo)))) Zo))) Zo)))))))
def ZmO: Sm:=Zu (ZW (ZK (Zh oIs (Zb 0) (ZY))) (ZE (ZY)) Z0) (Zu (ZL 4 (Zaw (Zbm (Zh Zr (Zb 0) (Zk 0))) (put1 100) Zao (Zs Zdh (Ze (Zb 100) Zn)))) (Zu (ZaK (ZaL (Ze (Zs ZaF (Ze (Zb 4) Zn)) Zn)) (put1 5) (Zbl (ZY) (Zh Zr (Zb 4) (Zb 5)) (Zb 1))) (Zu (Zbl (Zh ZaT (Zbc (Ze (ZY) Zn)) (Zs ZaF (Ze (Zb 4) Zn))) (Zb 4) (Zb 1)) (Zu (Zbl (Zk 0) (Zh Zr (Zb 4) (Zb 1)) (Zb 1)) (Zu (Zbl (Zh Zr (Zb 2) (Zk 1)) (Zh Zr (Zb 4) (Zb 1)) (Zk 0)) (Zu (ZW (ZK (Zh ZbN (Zh Zr (Zb 2) (Zk 0)) (ZY))) (Zbl (eUn ZbJ (Zh Zr (Zb 2) (Zk 0))) (Zh Zr (Zb 4) (Zk 0)) (Zb 1)) Z0) (ZE (Zs ZgQ (Ze (Zal (Ze (Zb 4) (Ze (Zh Zaf (Zh Zaf (Zdv (Zh Zr (Zb 0) (Zk 1)) Zec (Zed (Zh Zbe (Zb 1) (Zk 1)))) (Zbc (Ze (Zb 3) Zn))) (Zdv (Zh Zr (Zb 0) (Zk 1)) (Zed (Zb 1)) Zec)) Zn))) Zn)))))))))
def ZfG:=Z5 4 ZmO
def ZmP: PS:=(Zt (ZT (ZG (Zg qIs (Za 0) (ZV))) (ZD (ZV)) ZX) (Zt (ZM 4 (Zan (ZaI (Zg Zq (Za 0) (Zj 0))) (Zae 100) Zai (pFl (Zv Zdi (Zd (Za 100) Zm))))) (Zt (ZaD (Zaz (Zd (Zv Zat (Zd (Za 4) Zm)) Zm)) (Zae 5) (Zbb 4 [] (ZV) (ZbD ZaA (Za 5)) (Za 1))) (Zt (Zbb 4 [] (pFl (Zg ZaC (Za2 (Zd (ZV) Zm)) (Zv Zat (Zd (Za 4) Zm)))) ZaA (Za 1)) (Zt (Zbb 4 [] (Zj 0) (ZbD ZaA (Za 1)) (Za 1)) (Zt (Zbb 4 [] (ZbR (Zg Zq (Za 2) (Zj 1))) (ZbD ZaA (Za 1)) (Zj 0)) (Zt (ZT (ZG (Zg Zbz (Zg Zq (Za 2) (Zj 0)) (ZV))) (Zbb 4 [] (pUn ZbB (Zg Zq (Za 2) (Zj 0))) (ZbD ZaA (Zj 0)) (Za 1)) ZX) (ZD (Zv Zcd (Zd (Zak (Zd (Za 4) (Zd (Zg Zad (Zg Zad (Zdj (Zg Zq (Za 0) (Zj 1)) Zdw (Zdx (Zg Za0 (Za 1) (Zj 1)))) (Za2 (Zd (Za 3) Zm))) (Zdj (Zg Zq (Za 0) (Zj 1)) (Zdx (Za 1)) Zdw)) Zm))) Zm))))))))))
def Zds:=Z9 4 ZmP
theorem Ziy: SimF false ZfG Zds:=Zac (show S [] [4] [] false ZmO ZmP from(ZA (Z3 (ZN (ZC Za6 (Zc 0) (Z7))) (ZR (Z7)) Z6) (ZA (ZbG (O':=[4]) (ZcI (Gs.seq (Zy Zx (Zc 0) (Zl _))) PutOk.one (by decide) Zax (Zhl Ze4 (Zf (Zc 100) Zo)))) (ZA (Zbd (Gs.range (Zf (Zav ZaO (Zf (Zc 4) Zo)) Zo)) PutOk.one (by decide) (by decide) (S.put (O':=[4]) (by decide) (Za1 (O':=[]) (Z7)) (Zc4 Zbn (Zc 5)) (Zc 1) (by decide) (by decide))) (ZA (S.put (O':=[4]) (by decide) (Za1 (O':=[]) (Zfb Zba (E.list (Zf (Z7) Zo)) (Zav ZaO (Zf (Zc 4) Zo)))) Zbn (Zc 1) (by decide) (by decide)) (ZA (S.put (O':=[4]) (by decide) (Za1 (O':=[]) (Zl _)) (Zc4 Zbn (Zc 1)) (Zc 1) (by decide) (by decide)) (ZA (S.put (O':=[4]) (by decide) (Za1 (O':=[]) (E.flat (Zy Zx (Zc 2) (Zl _)))) (Zc4 Zbn (Zc 1)) (Zl _) (by decide) (by decide)) (ZA (Z3 (ZN (ZC Zcf (Zy Zx (Zc 2) (Zl _)) (Z7))) (S.put (O':=[4]) (by decide) (Za1 (O':=[]) (Zb5 Zb6 (Zy Zx (Zc 2) (Zl _)))) (Zc4 Zbn (Zl _)) (Zc 1) (by decide) (by decide)) Z6) (ZR (ZI Zl3 (Zf (E.tup (Zf (Zc 4) (Zf (Zab Zag (Zab Zag (Zf8 (Zy Zx (Zc 0) (Zl _)) Pe.none (Pe.some (ZC Zbi (Zc 1) (Zl _)))) (E.list (Zf (Zc 3) Zo))) (Zf8 (Zy Zx (Zc 0) (Zl _)) (Pe.some (Zc 1)) Pe.none)) Zo))) Zo)))))))))))
def Znv: Sm:=Zu (ZL 2 (Zs ZaF (Ze (Zh Zr (Zb 0) (Zk 1)) Zn))) (Zu (ZL 3 (Zaw (Zbm (Zh Zr (Zb 0) (Zk 0))) (put1 100) Zao (Zh Zaf (Zb 100) (Zh ZaT (Zbc (Ze (ZY) Zn)) (Zb 1))))) (Zu (ZL 4 (Zaw (ZaL (Ze (Zh Zaf (Zb 2) (Zk 1)) (Ze (Zh Zaf (Zh Zaf (Zb 2) (Zb 1)) (Zk 1)) Zn))) (put1 102) Zao (Zs Zh6 (Ze (Zb 102) (Ze (Zh Zaf (Zb 2) (Zb 1)) Zn))))) (ZE (Zal (Ze (Zh Zaf (Zb 3) (Zb 4)) (Ze (Zh Zaf (Zh Zr (Zb 0) (Zk 1)) (Zh ZaT (Zbc (Ze (Zal (Ze (Zk 1) (Ze (Zk 0) Zn))) Zn)) (Zb 1))) Zn))))))
def Znw:=Z5 2 Znv
def ZqY: PS:=(Zt (ZM 2 (Zv Zat (Zd (Zg Zq (Za 0) (Zj 1)) Zm))) (Zt (ZM 3 (Zan (ZaI (Zg Zq (Za 0) (Zj 0))) (Zae 100) Zai (pFl (Zg Zad (Za 100) (Zg ZaC (Za2 (Zd (ZV) Zm)) (Za 1)))))) (Zt (ZM 4 (Zan (Zaz (Zd (Zg Zad (Za 2) (Zj 1)) (Zd (Zg Zad (Zg Zad (Za 2) (Za 1)) (Zj 1)) Zm))) (Zae 102) Zai (Zv Zfv (Zd (Za 102) (Zd (Zg Zad (Za 2) (Za 1)) Zm))))) (ZD (Zak (Zd (Zg Zad (Za 3) (Za 4)) (Zd (pFl (Zg Zad (Zg Zq (Za 0) (Zj 1)) (Zg ZaC (Za2 (Zd (Zak (Zd (Zj 1) (Zd (Zj 0) Zm))) Zm)) (Za 1)))) Zm)))))))
def ZqZ:=Z9 2 ZqY
theorem Zv2: SimF true Znw ZqZ:=Zac (show S [] [3,4] [] true Znv ZqY from(ZA (ZU (O':=[]) (Zav ZaO (Zf (Zy Zx (Zc 0) (Zl _)) Zo))) (ZA (ZbG (O':=[3]) (ZcI (Gs.seq (Zy Zx (Zc 0) (Zl _))) PutOk.one (by decide) Zax (Zfb Zag (Zc 100) (Zab Zba (E.list (Zf (Z7) Zo)) (Zc 1))))) (ZA (ZbG (O':=[3,4]) (Za1 (O':=[]) (ZcI (Gs.range (Zf (Zab Zag (Zc 2) (Zl _)) (Zf (Zab Zag (Zab Zag (Zc 2) (Zc 1)) (Zl _)) Zo))) PutOk.one (by decide) Zax (ZaM ZpN (Zf (Zc 102) (Zf (Zab Zag (Zc 2) (Zc 1)) Zo)))))) (Zas (E.tup (Zd2 (Zzf (E.own (by decide)) (E.own (by decide)) (by decide) (by decide)) (Zd2 (Zfb Zag (Zy Zx (Zc 0) (Zl _)) (Zab Zba (E.list (Zf (E.tup (Zf (Zl _) (Zf (Zl _) Zo))) Zo)) (Zc 1))) Zo (by decide) (by decide)) (by decide) (by decide))))))))
def Ziz: Sm:=Zbl (Zs ZiY (Ze (Zh Zr (Zh Zr (Zb 0) (Zb 1)) (Zb 2)) (Ze (Zb 3) Zn))) (Zh Zr (Zb 0) (Zb 1)) (Zb 2)
def ZfH:=Z5 4 Ziz
def ZqC: PS:=(Zbb 0 [] (ZbR (Zv Zhe (Zd (Zg Zq (Zg Zq (Za 0) (Za 1)) (Za 2)) (Zd (Za 3) Zm)))) (ZbD ZaA (Za 1)) (Za 2))
def ZgZ:=ZeM 4 ZqC
theorem ZiA: SimM ZfH ZgZ:=Zjb (show S [0] [0] [0] false Ziz ZqC from(S.put (O':=[0]) (by decide) (Za1 (O':=[]) (E.flat (ZI Zrn (Zf (Zy Zx (Zy Zx (Zc 0) (Zc 1)) (Zc 2)) (Zf (Zc 3) Zo))))) (Zc4 Zbn (Zc 1)) (Zc 2) (by decide) (by decide))) (by decide) (by unfold Ziz;repeat' first | exact Keep0.next | exact ZiK | exact Keep0.ret | exact Keep0.put | apply Keep0.seq | apply ZiL | exact Keep0.set (by decide))
def ZjY: Sm:=Zu (ZL 3 (Zs Zgc (Ze (Zb 0) Zn))) (Zu (ZaK (Zdo (Zb 1) (Zb 2)) (Zci 4 5) (ZaK (Zdo (Zb 1) (Zb 5)) (Zci 6 7) (Zb9 (Zs ZfH (Ze (Zb 3) (Ze (Zb 4) (Ze (Zb 6) (Ze (Zb 7) Zn)))))))) (ZE (Zb 3)))
def ZjZ:=Z5 3 ZjY
def Zps: PS:=(Zt (ZM 3 (Zv Zhp (Zd (Za 0) Zm))) (Zt (ZaD (Zdq (Za 1) (Za 2)) (ZcC 4 5) (ZaD (Zdq (Za 1) (Za 5)) (ZcC 6 7) (ZdP 3 ZgZ (Zd (Za 4) (Zd (Za 6) (Zd (Za 7) Zm)))))) (ZD (Za 3))))
def Zpt:=Z9 3 Zps
theorem ZsZ: SimF true ZjZ Zpt:=Zac (show S [] [3] [] true ZjY Zps from(ZA (ZbG (O':=[3]) (ZaM Zjf (Zf (Zc 0) Zo))) (ZA (Zbd (Gs.zip (Zc 1) (Zc 2)) PutOk.two (by decide) (by decide) (Zbd (Gs.zip (Zc 1) (Zc 5)) PutOk.two (by decide) (by decide) (Zfd (O':=[3]) (by decide) ZiA (Zf (Zc 4) (Zf (Zc 6) (Zf (Zc 7) Zo))) (by decide) (by decide)))) (Zas (E.own (by decide))))))
def Znx: Sm:=Zu (ZL 3 (Zs Zdh (Ze (Zh Zr (Zb 0) (Zk 1)) Zn))) (Zu (ZaK (Zdo (Zb 1) (Zh Zr (Zb 2) (Zk 1))) (Zci 4 5) (Zbl (Zs ZgX (Ze (Zh Zr (Zb 3) (Zh Zbe (Zb 4) (Zk 1))) (Ze (Zb 5) Zn))) (Zb 3) (Zh Zbe (Zb 4) (Zk 1)))) (Zu (ZW (ZK (Zh oIn (ZY) (Zb 3))) (ZE (ZY)) Z0) (ZE (Zal (Ze (Zs ZjZ (Ze (Zh Zr (Zb 0) (Zk 0)) (Ze (Zh Zaf (Zbc (Ze (Zk 0) Zn)) (Zb 1)) (Ze (Zh Zr (Zb 2) (Zk 0)) Zn)))) (Ze (Zb 3) Zn))))))
def Zny:=Z5 3 Znx
def Zq0: PS:=(Zt (ZM 3 (pFl (Zv Zdi (Zd (Zg Zq (Za 0) (Zj 1)) Zm)))) (Zt (ZaD (Zdq (Za 1) (Zg Zq (Za 2) (Zj 1))) (ZcC 4 5) (Zbb 3 [] (ZbR (Zv ZfD (Zd (Zg Zq (Za 3) (Zg Za0 (Za 4) (Zj 1))) (Zd (Za 5) Zm)))) ZaA (Zg Za0 (Za 4) (Zj 1)))) (Zt (ZT (ZG (Zg qIn (ZV) (Za 3))) (ZD (ZV)) ZX) (ZD (Zak (Zd (Zv Zpt (Zd (Zg Zq (Za 0) (Zj 0)) (Zd (Zg Zad (Za2 (Zd (Zj 0) Zm)) (Za 1)) (Zd (Zg Zq (Za 2) (Zj 0)) Zm)))) (Zd (Za 3) Zm)))))))
def Zq1:=Z9 3 Zq0
theorem Zv3: SimF true Zny Zq1:=Zac (show S [] [3] [] true Znx Zq0 from(ZA (ZbG (O':=[3]) (Zhl Ze4 (Zf (Zy Zx (Zc 0) (Zl _)) Zo))) (ZA (Zbd (Gs.zip (Zc 1) (Zy Zx (Zc 2) (Zl _))) PutOk.two (by decide) (by decide) (S.put (O':=[3]) (by decide) (Za1 (O':=[]) (E.flat (ZI ZmA (Zf (Zy Zx (Zc 3) (ZC Zbi (Zc 4) (Zl _))) (Zf (Zc 5) Zo))))) Zbn (ZC Zbi (Zc 4) (Zl _)) (by decide) (by decide))) (ZA (Z3 (ZN (ZC ZeL (Z7) (Zc 3))) (Zas (Z7)) Z6) (Zas (E.tup (Zd2 (ZaM ZsZ (Zf (Zy Zx (Zc 0) (Zl _)) (Zf (Zab Zag (E.list (Zf (Zl _) Zo)) (Zc 1)) (Zf (Zy Zx (Zc 2) (Zl _)) Zo)))) (Zd2 (E.own (by decide)) Zo (by decide) (by decide)) (by decide) (by decide))))))))
def Znz: Sm:=Zu (ZL 3 (Zh Zaf (Zbc (Ze (Zs Zen (Ze (Zb 0) (Ze (Zb 1) Zn))) Zn)) (Zh ZaT (Zbc (Ze (Zk 0) Zn)) (Zb 2)))) (Zu (ZL 4 (Zs Zcm (Ze (Zb 0) (Ze (Zb 1) (Ze (Zk 6) Zn))))) (Zu (ZW (tOr (ZK (Zh oEq (Zb 4) (Zk 0))) (tOr (ZK (Zh oEq (Zb 2) (Zk 0))) Zb0)) (ZE (Zb 3)) Z0) (Zu (ZL 5 (Zh Zaf (Zk 1) (Zs Zcm (Ze (Zb 0) (Ze (Zh Zaf (Zb 1) (Zk 1)) (Ze (Zb 2) Zn)))))) (Zu (ZW (ZK (Zh oEq (Zb 4) (Zk 1))) (Zbl (Zh Zbe (Zs Zcm (Ze (Zb 0) (Ze (Zh Zaf (Zb 1) (Zk 2)) (Ze (Zk 13) Zn)))) (Zk 6)) (Zb 3) (Zb 5)) Z0) (Zu (ZW (tOr (ZK (Zh oEq (Zb 4) (Zk 2))) (tOr (ZK (Zh oEq (Zb 4) (Zk 3))) Zb0)) (Zu (ZL 6 (Zh Zaf (Zk 1) (Zs Zcm (Ze (Zb 0) (Ze (Zh Zaf (Zb 1) (Zk 2)) (Ze (Zb 2) Zn)))))) (Zu (Zbl (Zk 1) (Zb 3) (Zb 5)) (Zbl (Zh Zbe (Zh Zr (Zb 3) (Zb 6)) (Zk 1)) (Zb 3) (Zb 6)))) Z0) (Zu (ZW (ZK (Zh oEq (Zb 4) (Zk 4))) (ZaK (ZaL (Ze (Zb 2) Zn)) (put1 7) (Zbl (Zh Zbe (Zs Zcm (Ze (Zb 0) (Ze (Zh Zaf (Zh Zaf (Zb 1) (Zk 1)) (Zb 7)) (Ze (Zk 7) Zn)))) (Zk 3)) (Zb 3) (Zh Zaf (Zb 7) (Zk 1)))) Z0) (Zu (ZW (ZK (Zh oEq (Zb 4) (Zk 5))) (ZaK (ZaL (Ze (Zb 2) Zn)) (put1 7) (Zbl (Zh Zbe (Zs Zcm (Ze (Zb 0) (Ze (Zh Zaf (Zh Zaf (Zb 1) (Zk 1)) (Zb 7)) (Ze (Zk 2000000001) Zn)))) (Zk 1000000000)) (Zb 3) (Zh Zaf (Zb 7) (Zk 1)))) Z0) (ZE (Zb 3)))))))))
def ZnA:=Z5 3 Znz
def ZnB: PS:=(Zt (ZM 3 (pFl (Zg Zad (Za2 (Zd (Zv ZdU (Zd (Za 0) (Zd (Za 1) Zm))) Zm)) (Zg ZaC (Za2 (Zd (Zj 0) Zm)) (Za 2))))) (Zt (ZM 4 (Zv ZbK (Zd (Za 0) (Zd (Za 1) (Zd (Zj 6) Zm))))) (Zt (ZT (bOr (ZG (Zg qEq (Za 4) (Zj 0))) (bOr (ZG (Zg qEq (Za 2) (Zj 0))) Zb3)) (ZD (Za 3)) ZX) (Zt (ZM 5 (Zg Zad (Zj 1) (Zv ZbK (Zd (Za 0) (Zd (Zg Zad (Za 1) (Zj 1)) (Zd (Za 2) Zm)))))) (Zt (ZT (ZG (Zg qEq (Za 4) (Zj 1))) (Zbb 3 [] (Zg Za0 (Zv ZbK (Zd (Za 0) (Zd (Zg Zad (Za 1) (Zj 2)) (Zd (Zj 13) Zm)))) (Zj 6)) ZaA (Za 5)) ZX) (Zt (ZT (bOr (ZG (Zg qEq (Za 4) (Zj 2))) (bOr (ZG (Zg qEq (Za 4) (Zj 3))) Zb3)) (Zt (ZM 6 (Zg Zad (Zj 1) (Zv ZbK (Zd (Za 0) (Zd (Zg Zad (Za 1) (Zj 2)) (Zd (Za 2) Zm)))))) (Zt (Zbb 3 [] (Zj 1) ZaA (Za 5)) (Zbb 3 [] (Zg Za0 (Zg Zq (Za 3) (Za 6)) (Zj 1)) ZaA (Za 6)))) ZX) (Zt (ZT (ZG (Zg qEq (Za 4) (Zj 4))) (ZaD (Zaz (Zd (Za 2) Zm)) (Zae 7) (Zbb 3 [] (Zg Za0 (Zv ZbK (Zd (Za 0) (Zd (Zg Zad (Zg Zad (Za 1) (Zj 1)) (Za 7)) (Zd (Zj 7) Zm)))) (Zj 3)) ZaA (Zg Zad (Za 7) (Zj 1)))) ZX) (Zt (ZT (ZG (Zg qEq (Za 4) (Zj 5))) (ZaD (Zaz (Zd (Za 2) Zm)) (Zae 7) (Zbb 3 [] (Zg Za0 (Zv ZbK (Zd (Za 0) (Zd (Zg Zad (Zg Zad (Za 1) (Zj 1)) (Za 7)) (Zd (Zj 2000000001) Zm)))) (Zj 1000000000)) ZaA (Zg Zad (Za 7) (Zj 1)))) ZX) (ZD (Za 3))))))))))
def ZiR:=Z9 3 ZnB
theorem Zv4: SimF true ZnA ZiR:=Zac (show S [] [3] [] true Znz ZnB from(ZA (ZbG (O':=[3]) (Zfb Zag (E.list (Zf (ZI Zfx (Zf (Zc 0) (Zf (Zc 1) Zo))) Zo)) (Zab Zba (E.list (Zf (Zl _) Zo)) (Zc 2)))) (ZA (ZU (O':=[3]) (ZI ZcA (Zf (Zc 0) (Zf (Zc 1) (Zf (Zl _) Zo))))) (ZA (Z3 (ZaY (ZN (ZC Zaq (Zc 4) (Zl _))) (ZaY (ZN (ZC Zaq (Zc 2) (Zl _))) Zcu)) (Zas (E.own (by decide))) Z6) (ZA (ZU (O':=[3]) (Zab Zag (Zl _) (ZI ZcA (Zf (Zc 0) (Zf (Zab Zag (Zc 1) (Zl _)) (Zf (Zc 2) Zo)))))) (ZA (Z3 (ZN (ZC Zaq (Zc 4) (Zl _))) (S.put (O':=[3]) (by decide) (Za1 (O':=[]) (ZC Zbi (ZI ZcA (Zf (Zc 0) (Zf (Zab Zag (Zc 1) (Zl _)) (Zf (Zl _) Zo)))) (Zl _))) Zbn (Zc 5) (by decide) (by decide)) Z6) (ZA (Z3 (ZaY (ZN (ZC Zaq (Zc 4) (Zl _))) (ZaY (ZN (ZC Zaq (Zc 4) (Zl _))) Zcu)) (ZA (ZU (O':=[3]) (Zab Zag (Zl _) (ZI ZcA (Zf (Zc 0) (Zf (Zab Zag (Zc 1) (Zl _)) (Zf (Zc 2) Zo)))))) (ZA (S.put (O':=[3]) (by decide) (Za1 (O':=[]) (Zl _)) Zbn (Zc 5) (by decide) (by decide)) (S.put (O':=[3]) (by decide) (Za1 (O':=[]) (ZC Zbi (Zy Zx (Zc 3) (Zc 6)) (Zl _))) Zbn (Zc 6) (by decide) (by decide)))) Z6) (ZA (Z3 (ZN (ZC Zaq (Zc 4) (Zl _))) (Zbd (Gs.range (Zf (Zc 2) Zo)) PutOk.one (by decide) (by decide) (S.put (O':=[3]) (by decide) (Za1 (O':=[]) (ZC Zbi (ZI ZcA (Zf (Zc 0) (Zf (Zab Zag (Zab Zag (Zc 1) (Zl _)) (Zc 7)) (Zf (Zl _) Zo)))) (Zl _))) Zbn (Zab Zag (Zc 7) (Zl _)) (by decide) (by decide))) Z6) (ZA (Z3 (ZN (ZC Zaq (Zc 4) (Zl _))) (Zbd (Gs.range (Zf (Zc 2) Zo)) PutOk.one (by decide) (by decide) (S.put (O':=[3]) (by decide) (Za1 (O':=[]) (ZC Zbi (ZI ZcA (Zf (Zc 0) (Zf (Zab Zag (Zab Zag (Zc 1) (Zl _)) (Zc 7)) (Zf (Zl _) Zo)))) (Zl _))) Zbn (Zab Zag (Zc 7) (Zl _)) (by decide) (by decide))) Z6) (Zas (E.own (by decide))))))))))))
def Zkw: Sm:=Zu (ZL 2 (Zaw (ZaL (Ze (Zk 1) (Ze (Zs ZaF (Ze (Zb 1) Zn)) Zn))) (put1 100) (ZK (Zh oGt (Zh Zr (Zb 1) (Zb 100)) (Zk 0))) (Zb 100))) (Zu (ZL 3 (Zaw (ZaL (Ze (Zk 1) (Ze (Zs ZaF (Ze (Zb 1) Zn)) Zn))) (put1 102) (ZK (Zh oLt (Zh Zr (Zb 1) (Zb 102)) (Zk 0))) (Zb 102))) (Zu (ZW (Za5 (ZK (Zh oEq (Zs ZaF (Ze (Zb 2) Zn)) (Zk 1))) (Za5 (ZK (Zh oEq (Zs ZaF (Ze (Zb 3) Zn)) (Zk 1))) (Za5 (ZK (Zh oEq (Zh Zr (Zb 1) (Zh Zr (Zb 2) (Zk 0))) (Zk 1))) (Za5 (ZK (Zh oEq (Zh Zr (Zb 1) (Zh Zr (Zb 3) (Zk 0))) (eUn ZbJ (Zk 1)))) Zao)))) (Zu (ZW (ZK (Zh oIs (Zh Zr (Zh Zr (Zh Zr (Zb 0) (Zk 0)) (Zh Zr (Zb 2) (Zk 0))) (Zh Zr (Zb 3) (Zk 0))) (ZY))) (ZE (ZY)) Z0) (ZE (Zh Zaf (Zh Zr (Zh Zr (Zh Zr (Zb 0) (Zk 0)) (Zh Zr (Zb 2) (Zk 0))) (Zh Zr (Zb 3) (Zk 0))) (Zh Zr (Zb 1) (Zk 0))))) Z0) (Zu (ZL 4 (Zh Zaf (Zaw (Zbm (Zb 2)) (put1 104) Zao (Zh Zr (Zh Zr (Zh Zr (Zb 0) (Zk 0)) (Zb 104)) (Zk 0))) (Zaw (Zbm (Zb 3)) (put1 106) Zao (Zh Zr (Zh Zr (Zh Zr (Zb 0) (Zk 0)) (Zk 0)) (Zb 106))))) (Zu (ZW (ZK (Zh oIn (ZY) (Zb 4))) (ZE (ZY)) Z0) (Zu (ZL 5 (Zh Zr (Zb 1) (Zk 0))) (Zu (ZaK (Zbm (Zb 2)) (put1 6) (ZL 5 (Zh Zaf (Zb 5) (Zh ZaT (Zh Zr (Zb 1) (Zb 6)) (Zh Zr (Zh Zr (Zh Zr (Zb 0) (Zk 0)) (Zb 6)) (Zk 0)))))) (Zu (ZaK (Zbm (Zb 3)) (put1 6) (ZL 5 (Zh Zbe (Zb 5) (Zh ZaT (Zh Zr (Zb 1) (Zb 6)) (Zh Zr (Zh Zr (Zh Zr (Zb 0) (Zk 0)) (Zk 0)) (Zb 6)))))) (ZE (Zb 5)))))))))
def ZgC:=Z5 2 Zkw
def Zkx: PS:=(Zt (ZM 2 (Zan (Zaz (Zd (Zj 1) (Zd (Zv Zat (Zd (Za 1) Zm)) Zm))) (Zae 100) (ZG (Zg qGt (Zg Zq (Za 1) (Za 100)) (Zj 0))) (Za 100))) (Zt (ZM 3 (Zan (Zaz (Zd (Zj 1) (Zd (Zv Zat (Zd (Za 1) Zm)) Zm))) (Zae 102) (ZG (Zg qLt (Zg Zq (Za 1) (Za 102)) (Zj 0))) (Za 102))) (Zt (ZT (ZaU (ZG (Zg qEq (Zv Zat (Zd (Za 2) Zm)) (Zj 1))) (ZaU (ZG (Zg qEq (Zv Zat (Zd (Za 3) Zm)) (Zj 1))) (ZaU (ZG (Zg qEq (Zg Zq (Za 1) (Zg Zq (Za 2) (Zj 0))) (Zj 1))) (ZaU (ZG (Zg qEq (Zg Zq (Za 1) (Zg Zq (Za 3) (Zj 0))) (pUn ZbB (Zj 1)))) Zai)))) (Zt (ZT (ZG (Zg qIs (Zg Zq (Zg Zq (Zg Zq (Za 0) (Zj 0)) (Zg Zq (Za 2) (Zj 0))) (Zg Zq (Za 3) (Zj 0))) (ZV))) (ZD (ZV)) ZX) (ZD (Zg Zad (Zg Zq (Zg Zq (Zg Zq (Za 0) (Zj 0)) (Zg Zq (Za 2) (Zj 0))) (Zg Zq (Za 3) (Zj 0))) (Zg Zq (Za 1) (Zj 0))))) ZX) (Zt (ZM 4 (Zg Zad (Zan (ZaI (Za 2)) (Zae 104) Zai (Zg Zq (Zg Zq (Zg Zq (Za 0) (Zj 0)) (Za 104)) (Zj 0))) (Zan (ZaI (Za 3)) (Zae 106) Zai (Zg Zq (Zg Zq (Zg Zq (Za 0) (Zj 0)) (Zj 0)) (Za 106))))) (Zt (ZT (ZG (Zg qIn (ZV) (Za 4))) (ZD (ZV)) ZX) (Zt (ZM 5 (Zg Zq (Za 1) (Zj 0))) (Zt (ZaD (ZaI (Za 2)) (Zae 6) (ZM 5 (Zg Zad (Za 5) (Zg ZaC (Zg Zq (Za 1) (Za 6)) (Zg Zq (Zg Zq (Zg Zq (Za 0) (Zj 0)) (Za 6)) (Zj 0)))))) (Zt (ZaD (ZaI (Za 3)) (Zae 6) (ZM 5 (Zg Za0 (Za 5) (Zg ZaC (Zg Zq (Za 1) (Za 6)) (Zg Zq (Zg Zq (Zg Zq (Za 0) (Zj 0)) (Zj 0)) (Za 6)))))) (ZD (Za 5))))))))))
def ZdG:=Z9 2 Zkx
theorem Zky: SimF false ZgC ZdG:=Zac (show S [] [] [] false Zkw Zkx from(ZA (ZU (O':=[]) (ZbF (Gs.range (Zf (Zl _) (Zf (Zav ZaO (Zf (Zc 1) Zo)) Zo))) PutOk.one (by decide) (ZN (ZC Zgv (Zy Zx (Zc 1) (Zc 100)) (Zl _))) (Zc 100))) (ZA (ZU (O':=[]) (ZbF (Gs.range (Zf (Zl _) (Zf (Zav ZaO (Zf (Zc 1) Zo)) Zo))) PutOk.one (by decide) (ZN (ZC ZcW (Zy Zx (Zc 1) (Zc 102)) (Zl _))) (Zc 102))) (ZA (Z3 (Zbh (ZN (ZC Zaq (Zav ZaO (Zf (Zc 2) Zo)) (Zl _))) (Zbh (ZN (ZC Zaq (Zav ZaO (Zf (Zc 3) Zo)) (Zl _))) (Zbh (ZN (ZC Zaq (Zy Zx (Zc 1) (Zy Zx (Zc 2) (Zl _))) (Zl _))) (Zbh (ZN (ZC Zaq (Zy Zx (Zc 1) (Zy Zx (Zc 3) (Zl _))) (Zb5 Zb6 (Zl _)))) Zax)))) (ZA (Z3 (ZN (ZC Za6 (Zy Zx (Zy Zx (Zy Zx (Zc 0) (Zl _)) (Zy Zx (Zc 2) (Zl _))) (Zy Zx (Zc 3) (Zl _))) (Z7))) (ZR (Z7)) Z6) (ZR (Zab Zag (Zy Zx (Zy Zx (Zy Zx (Zc 0) (Zl _)) (Zy Zx (Zc 2) (Zl _))) (Zy Zx (Zc 3) (Zl _))) (Zy Zx (Zc 1) (Zl _))))) Z6) (ZA (ZU (O':=[]) (Zab Zag (ZbF (Gs.seq (Zc 2)) PutOk.one (by decide) Zax (Zy Zx (Zy Zx (Zy Zx (Zc 0) (Zl _)) (Zc 104)) (Zl _))) (ZbF (Gs.seq (Zc 3)) PutOk.one (by decide) Zax (Zy Zx (Zy Zx (Zy Zx (Zc 0) (Zl _)) (Zl _)) (Zc 106))))) (ZA (Z3 (ZN (ZC ZeL (Z7) (Zc 4))) (ZR (Z7)) Z6) (ZA (ZU (O':=[]) (Zy Zx (Zc 1) (Zl _))) (ZA (Zbd (Gs.seq (Zc 2)) PutOk.one (by decide) (by decide) (ZU (O':=[]) (Zab Zag (Zc 5) (Zab Zba (Zy Zx (Zc 1) (Zc 6)) (Zy Zx (Zy Zx (Zy Zx (Zc 0) (Zl _)) (Zc 6)) (Zl _)))))) (ZA (Zbd (Gs.seq (Zc 3)) PutOk.one (by decide) (by decide) (ZU (O':=[]) (ZC Zbi (Zc 5) (Zab Zba (Zy Zx (Zc 1) (Zc 6)) (Zy Zx (Zy Zx (Zy Zx (Zc 0) (Zl _)) (Zl _)) (Zc 6)))))) (ZR (Zc 5)))))))))))
def Zkf: Sm:=ZE (Zh oEq (Zs Zhn (Ze (Zaw (Zbm (ZdO (Zb 0) 1)) (put1 100) (ZK (Zh oNe (Zb 100) (Zk 0))) (Zb 100)) Zn)) (Zbc (Ze (eUn ZbJ (Zk 1)) (Ze (Zk 1) Zn))))
def Zkg:=Z5 1 Zkf
def Zkh: PS:=(ZD (Zg qEq (Zv Zjc (Zd (Zan (ZaI (ZdB (Za 0) 1)) (Zae 100) (ZG (Zg qNe (Za 100) (Zj 0))) (Za 100)) Zm)) (Za2 (Zd (pUn ZbB (Zj 1)) (Zd (Zj 1) Zm)))))
def ZhV:=Z9 1 Zkh
theorem Zta: SimF false Zkg ZhV:=Zac (show S [] [] [] false Zkf Zkh from(ZR (ZC Zaq (Zi5 ZwY (Zf (ZbF (Gs.seq (Zhw (Zc 0))) PutOk.one (by decide) (ZN (ZC ZbV (Zc 100) (Zl _))) (Zc 100)) Zo)) (E.list (Zf (Zb5 Zb6 (Zl _)) (Zf (Zl _) Zo))))))
def Zkz: Sm:=Zu (ZL 1 (Zh Zr (Zb 0) (Zk 0))) (ZE (Zaw (ZaL (Ze (Zk 1) (Ze (Zs ZaF (Ze (Zb 1) Zn)) Zn))) (put1 100) Zao (Zal (Ze (Zs ZeR (Ze (Zh Zr (Zh Zr (Zb 1) (Zk 0)) (Zb 100)) (Ze (eUn ZbJ (Zk 1)) Zn))) (Ze (Zh Zr (Zh Zr (Zb 1) (Zb 100)) (Zk 0)) Zn)))))
def ZkA:=Z5 1 Zkz
def ZkB: PS:=(Zt (ZM 1 (Zg Zq (Za 0) (Zj 0))) (ZD (Zan (Zaz (Zd (Zj 1) (Zd (Zv Zat (Zd (Za 1) Zm)) Zm))) (Zae 100) Zai (Zak (Zd (Zv Zep (Zd (Zg Zq (Zg Zq (Za 1) (Zj 0)) (Za 100)) (Zd (pUn ZbB (Zj 1)) Zm))) (Zd (Zg Zq (Zg Zq (Za 1) (Za 100)) (Zj 0)) Zm))))))
def ZhZ:=Z9 1 ZkB
theorem Ztn: SimF false ZkA ZhZ:=Zac (show S [] [] [] false Zkz ZkB from(ZA (ZU (O':=[]) (Zy Zx (Zc 0) (Zl _))) (ZR (ZbF (Gs.range (Zf (Zl _) (Zf (Zav ZaO (Zf (Zc 1) Zo)) Zo))) PutOk.one (by decide) Zax (E.tup (Zf (ZI ZgP (Zf (Zy Zx (Zy Zx (Zc 1) (Zl _)) (Zc 100)) (Zf (Zb5 Zb6 (Zl _)) Zo))) (Zf (Zy Zx (Zy Zx (Zc 1) (Zc 100)) (Zl _)) Zo)))))))
def ZmQ: Sm:=Zu (ZW (ZK (Zs Zkg (Ze (Zb 1) Zn))) (ZE (Zs Zes (Ze (Zh Zr (Zh Zr (Zh Zr (Zb 0) (Zk 0)) (ZhA (Zb 1) (Zk 1) (Zk 1))) (ZhA (Zb 1) (eUn ZbJ (Zk 1)) (Zk 1))) (Ze (Zh Zr (Zb 1) (Zk 0)) Zn)))) Z0) (ZE (Zh Zr (Zs ZkQ (Ze (Zb 1) (Ze (Zs ZkA (Ze (Zb 0) Zn)) Zn))) (Zk 1)))
def ZeV:=Z5 2 ZmQ
def ZmR: PS:=(Zt (ZT (ZG (Zv ZhV (Zd (Za 1) Zm))) (ZD (Zv ZdX (Zd (Zg Zq (Zg Zq (Zg Zq (Za 0) (Zj 0)) (ZhB (Za 1) (Zj 1) (Zj 1))) (ZhB (Za 1) (pUn ZbB (Zj 1)) (Zj 1))) (Zd (Zg Zq (Za 1) (Zj 0)) Zm)))) ZX) (ZD (Zg Zq (Zv Zh3 (Zd (Za 1) (Zd (Zv ZhZ (Zd (Za 0) Zm)) Zm))) (Zj 1))))
def ZdY:=Z9 2 ZmR
theorem Zg0: SimF false ZeV ZdY:=Zac (show S [] [] [] false ZmQ ZmR from(ZA (Z3 (ZN (ZI Zta (Zf (Zc 1) Zo))) (ZR (ZI ZfE (Zf (Zy Zx (Zy Zx (Zy Zx (Zc 0) (Zl _)) (E.index (Zc 1) (Zl _) (Zl _))) (E.index (Zc 1) (Zb5 Zb6 (Zl _)) (Zl _))) (Zf (Zy Zx (Zc 1) (Zl _)) Zo)))) Z6) (ZR (Zy Zx (ZI ZtI (Zf (Zc 1) (Zf (ZI Ztn (Zf (Zc 0) Zo)) Zo))) (Zl _)))))
def Zl7: Sm:=ZE (Zaw (Zbm (Zb 0)) (put1 100) Zao (Zh ZaT (Zb 100) (Zb 1)))
def ZdV:=Z5 2 Zl7
def Zl8: PS:=(ZD (Zan (ZaI (Za 0)) (Zae 100) Zai (Zg ZaC (Za 100) (Za 1))))
def ZdH:=Z9 2 Zl8
theorem ZeS: SimF false ZdV ZdH:=Zac (show S [] [] [] false Zl7 Zl8 from(ZR (ZbF (Gs.seq (Zc 0)) PutOk.one (by decide) Zax (Zab Zba (Zc 100) (Zc 1)))))
def ZoC: Sm:=ZE (Zs ZeR (Ze (Zs ZeV (Ze (Zb 0) (Ze (Zs ZdV (Ze (Zb 1) (Ze (eUn ZbJ (Zk 1)) Zn))) Zn))) (Ze (eUn ZbJ (Zk 1)) Zn)))
def Zjg:=Z5 2 ZoC
def ZoD: PS:=(ZD (Zv Zep (Zd (Zv ZdY (Zd (Za 0) (Zd (Zv ZdH (Zd (Za 1) (Zd (pUn ZbB (Zj 1)) Zm))) Zm))) (Zd (pUn ZbB (Zj 1)) Zm))))
def Zgd:=Z9 2 ZoD
theorem Zr2: SimF false Zjg Zgd:=Zac (show S [] [] [] false ZoC ZoD from(ZR (ZI ZgP (Zf (ZI Zg0 (Zf (Zc 0) (Zf (ZI ZeS (Zf (Zc 1) (Zf (Zb5 Zb6 (Zl _)) Zo))) Zo))) (Zf (Zb5 Zb6 (Zl _)) Zo)))))
def ZmS: Sm:=ZE (Zaw (Zdo (Zb 0) (Zb 1)) (Zci 100 101) Zao (Zh Zaf (Zb 100) (Zb 101)))
def ZmT:=Z5 2 ZmS
def ZmU: PS:=(ZD (Zan (Zdq (Za 0) (Za 1)) (ZcC 100 101) Zai (Zg Zad (Za 100) (Za 101))))
def ZiB:=Z9 2 ZmU
theorem Zva: SimF false ZmT ZiB:=Zac (show S [] [] [] false ZmS ZmU from(ZR (ZbF (Gs.zip (Zc 0) (Zc 1)) PutOk.two (by decide) Zax (Zab Zag (Zc 100) (Zc 101)))))
def ZmV: Sm:=ZE (Zs ZmT (Ze (Zb 0) (Ze (Zs ZdV (Ze (Zb 1) (Ze (eUn ZbJ (Zk 1)) Zn))) Zn)))
def ZfI:=Z5 2 ZmV
def ZmW: PS:=(ZD (Zv ZiB (Zd (Za 0) (Zd (Zv ZdH (Zd (Za 1) (Zd (pUn ZbB (Zj 1)) Zm))) Zm))))
def ZeW:=Z9 2 ZmW
theorem ZiC: SimF false ZfI ZeW:=Zac (show S [] [] [] false ZmV ZmW from(ZR (ZI Zva (Zf (Zc 0) (Zf (ZI ZeS (Zf (Zc 1) (Zf (Zb5 Zb6 (Zl _)) Zo))) Zo)))))
def Zls: Sm:=ZE (Zaw (Zbm (Zb 2)) (put1 100) Zao (Zs ZeV (Ze (Zb 0) (Ze (Zs ZfI (Ze (Zb 1) (Ze (Zb 100) Zn))) Zn))))
def Zlt:=Z5 3 Zls
def Zlu: PS:=(ZD (Zan (ZaI (Za 2)) (Zae 100) Zai (Zv ZdY (Zd (Za 0) (Zd (Zv ZeW (Zd (Za 1) (Zd (Za 100) Zm))) Zm)))))
def Zic:=Z9 3 Zlu
theorem Zuc: SimF false Zlt Zic:=Zac (show S [] [] [] false Zls Zlu from(ZR (ZbF (Gs.seq (Zc 2)) PutOk.one (by decide) Zax (ZI Zg0 (Zf (Zc 0) (Zf (ZI ZiC (Zf (Zc 1) (Zf (Zc 100) Zo))) Zo))))))
def ZnC: Sm:=ZE (Zaw (ZaL (Ze (Zh Zaf (Zb 1) (Zk 1)) Zn)) (put1 100) Zao (eIf (Za5 (ZK (Zh oGt (Zb 0) (Zk 0))) (Za5 (ZK (Zh oEq (Zb 100) (Zb 0))) Zao)) (Zk 1) (Zk 0)))
def ZdZ:=Z5 2 ZnC
def ZnD: PS:=(ZD (Zan (Zaz (Zd (Zg Zad (Za 1) (Zj 1)) Zm)) (Zae 100) Zai (pIf (ZaU (ZG (Zg qGt (Za 0) (Zj 0))) (ZaU (ZG (Zg qEq (Za 100) (Za 0))) Zai)) (Zj 1) (Zj 0))))
def ZdJ:=Z9 2 ZnD
theorem ZeY: SimF false ZdZ ZdJ:=Zac (show S [] [] [] false ZnC ZnD from(ZR (ZbF (Gs.range (Zf (Zab Zag (Zc 1) (Zl _)) Zo)) PutOk.one (by decide) Zax (ZeE (Zbh (ZN (ZC Zgv (Zc 0) (Zl _))) (Zbh (ZN (ZC Zaq (Zc 100) (Zc 0))) Zax)) (E.sh (Zl _)) (E.sh (Zl _))))))
def Zoa: Sm:=Zu (ZW (ZK (Zh oIs (Zb 0) (ZY))) (ZE (ZY)) Z0) (Zu (ZL 2 (Zh Zaf (Zbc (Ze (Zs ZdZ (Ze (Zk 0) (Ze (Zs ZaF (Ze (Zh Zr (Zb 0) (Zk 1)) Zn)) Zn))) Zn)) (Zb 1))) (Zu (ZL 3 (Zaw (Zbm (Zb 2)) (put1 100) Zao (Zs Zlt (Ze (Zb 0) (Ze (Zb 100) (Ze (Zb 2) Zn)))))) (Zu (ZL 4 (Zaw (Zbm (Zb 1)) (put1 102) Zao (Zs Zet (Ze (Zb 102) (Ze (Zh Zr (Zb 0) (Zk 1)) Zn))))) (ZE (Zs Zd5 (Ze (Zal (Ze (Zb 3) (Ze (Zb 4) Zn))) Zn))))))
def Zhg:=Z5 2 Zoa
def Zob: PS:=(Zt (ZT (ZG (Zg qIs (Za 0) (ZV))) (ZD (ZV)) ZX) (Zt (ZM 2 (Zg Zad (Za2 (Zd (Zv ZdJ (Zd (Zj 0) (Zd (Zv Zat (Zd (Zg Zq (Za 0) (Zj 1)) Zm)) Zm))) Zm)) (Za 1))) (Zt (ZM 3 (Zan (ZaI (Za 2)) (Zae 100) Zai (Zv Zic (Zd (Za 0) (Zd (Za 100) (Zd (Za 2) Zm)))))) (Zt (ZM 4 (Zan (ZaI (Za 1)) (Zae 102) Zai (Zv ZdI (Zd (Za 102) (Zd (Zg Zq (Za 0) (Zj 1)) Zm))))) (ZD (Zv ZbE (Zd (Zak (Zd (Za 3) (Zd (Za 4) Zm))) Zm)))))))
def Zd3:=Z9 2 Zob
theorem Zoc: SimF true Zhg Zd3:=Zac (show S [] [] [] true Zoa Zob from(ZA (Z3 (ZN (ZC Za6 (Zc 0) (Z7))) (Zas (Z7)) Z6) (ZA (ZU (O':=[]) (Zab Zag (E.list (Zf (ZI ZeY (Zf (Zl _) (Zf (Zav ZaO (Zf (Zy Zx (Zc 0) (Zl _)) Zo)) Zo))) Zo)) (Zc 1))) (ZA (ZU (O':=[]) (ZbF (Gs.seq (Zc 2)) PutOk.one (by decide) Zax (ZI Zuc (Zf (Zc 0) (Zf (Zc 100) (Zf (Zc 2) Zo)))))) (ZA (ZU (O':=[]) (ZbF (Gs.seq (Zc 1)) PutOk.one (by decide) Zax (ZI ZfF (Zf (Zc 102) (Zf (Zy Zx (Zc 0) (Zl _)) Zo))))) (Zas (ZaM Ze6 (Zf (E.tup (Zf (Zc 3) (Zf (Zc 4) Zo))) Zo))))))))
def ZkC: Sm:=Zu (ZL 2 (Zk 0)) (Zu (ZL 3 (Zh Zr (Zb 0) (Zk 0))) (Zu (ZaK (ZaL (Ze (Zs ZaF (Ze (Zb 1) Zn)) Zn)) (put1 4) (Zu (ZL 2 (Zs Zg8 (Ze (Zb 2) (Ze (Zh ZaT (Zh Zr (Zb 0) (Zh Zaf (Zb 4) (Zk 1))) (Zh Zr (Zh Zr (Zb 1) (Zb 4)) (Zk 0))) Zn)))) (ZL 3 (Zh Zaf (Zb 3) (Zh ZaT (Zh Zr (Zb 0) (Zh Zaf (Zb 4) (Zk 1))) (Zh Zr (Zh Zr (Zb 1) (Zb 4)) (Zk 1))))))) (ZE (Zs Zek (Ze (Zb 2) (Ze (Zb 3) Zn))))))
def Zh0:=Z5 2 ZkC
def ZkD: PS:=(Zt (ZM 2 (Zj 0)) (Zt (ZM 3 (Zg Zq (Za 0) (Zj 0))) (Zt (ZaD (Zaz (Zd (Zv Zat (Zd (Za 1) Zm)) Zm)) (Zae 4) (Zt (ZM 2 (Zv ZfR (Zd (Za 2) (Zd (Zg ZaC (Zg Zq (Za 0) (Zg Zad (Za 4) (Zj 1))) (Zg Zq (Zg Zq (Za 1) (Za 4)) (Zj 0))) Zm)))) (ZM 3 (Zg Zad (Za 3) (Zg ZaC (Zg Zq (Za 0) (Zg Zad (Za 4) (Zj 1))) (Zg Zq (Zg Zq (Za 1) (Za 4)) (Zj 1))))))) (ZD (Zv ZdR (Zd (Za 2) (Zd (Za 3) Zm)))))))
def ZeO:=Z9 2 ZkD
theorem ZpH: SimF false Zh0 ZeO:=Zac (show S [] [] [] false ZkC ZkD from(ZA (ZU (O':=[]) (Zl _)) (ZA (ZU (O':=[]) (Zy Zx (Zc 0) (Zl _))) (ZA (Zbd (Gs.range (Zf (Zav ZaO (Zf (Zc 1) Zo)) Zo)) PutOk.one (by decide) (by decide) (ZA (ZU (O':=[]) (ZI Zni (Zf (Zc 2) (Zf (Zab Zba (Zy Zx (Zc 0) (Zab Zag (Zc 4) (Zl _))) (Zy Zx (Zy Zx (Zc 1) (Zc 4)) (Zl _))) Zo)))) (ZU (O':=[]) (Zab Zag (Zc 3) (Zab Zba (Zy Zx (Zc 0) (Zab Zag (Zc 4) (Zl _))) (Zy Zx (Zy Zx (Zc 1) (Zc 4)) (Zl _))))))) (ZR (ZI Zfs (Zf (Zc 2) (Zf (Zc 3) Zo))))))))
def ZmX: Sm:=ZE (Zaw (ZaL (Ze (Zs ZaF (Ze (Zb 0) Zn)) Zn)) (put1 100) Zao (Zh Zbe (Zh Zr (Zb 0) (Zb 100)) (Zh Zr (Zb 1) (Zb 100))))
def ZmY:=Z5 2 ZmX
def ZmZ: PS:=(ZD (Zan (Zaz (Zd (Zv Zat (Zd (Za 0) Zm)) Zm)) (Zae 100) Zai (Zg Za0 (Zg Zq (Za 0) (Za 100)) (Zg Zq (Za 1) (Za 100)))))
def ZiD:=Z9 2 ZmZ
theorem Zvb: SimF false ZmY ZiD:=Zac (show S [] [] [] false ZmX ZmZ from(ZR (ZbF (Gs.range (Zf (Zav ZaO (Zf (Zc 0) Zo)) Zo)) PutOk.one (by decide) Zax (ZC Zbi (Zy Zx (Zc 0) (Zc 100)) (Zy Zx (Zc 1) (Zc 100))))))
def Zlv: Sm:=Zu (ZW (ZK (Zh oIs (Zb 0) (ZY))) (ZE (ZY)) Z0) (Zu (ZL 2 (Zh Zaf (Zbc (Ze (Zh ZaT (Zbc (Ze (Zk 0) Zn)) (Zh Zaf (Zs ZaF (Ze (Zh Zr (Zb 0) (Zk 1)) Zn)) (Zk 1))) Zn)) (Zb 1))) (Zu (ZL 3 (Zbc Zn)) (Zu (ZaK (Zbm (Zb 2)) (put1 4) (Zb9 (Zd4 (Zb 3) (Zaw (Zbm (Zb 2)) (put1 100) Zao (Zs ZgC (Ze (Zb 0) (Ze (Zs ZmY (Ze (Zb 4) (Ze (Zb 100) Zn))) Zn))))))) (ZE (Zs ZgQ (Ze (Zal (Ze (Zb 3) (Ze (Zaw (Zbm (Zb 1)) (put1 102) Zao (Zs Zh0 (Ze (Zb 102) (Ze (Zh Zr (Zb 0) (Zk 1)) Zn)))) Zn))) Zn))))))
def Zlw:=Z5 2 Zlv
def Zlx: PS:=(Zt (ZT (ZG (Zg qIs (Za 0) (ZV))) (ZD (ZV)) ZX) (Zt (ZM 2 (Zg Zad (Za2 (Zd (Zg ZaC (Za2 (Zd (Zj 0) Zm)) (Zg Zad (Zv Zat (Zd (Zg Zq (Za 0) (Zj 1)) Zm)) (Zj 1))) Zm)) (Za 1))) (Zt (ZM 3 (Za2 Zm)) (Zt (ZaD (ZaI (Za 2)) (Zae 4) (ZcX 3 [] ZaA (Zan (ZaI (Za 2)) (Zae 100) Zai (ZbR (Zv ZdG (Zd (Za 0) (Zd (Zv ZiD (Zd (Za 4) (Zd (Za 100) Zm))) Zm))))))) (ZD (Zv Zcd (Zd (Zak (Zd (Za 3) (Zd (Zan (ZaI (Za 1)) (Zae 102) Zai (Zv ZeO (Zd (Za 102) (Zd (Zg Zq (Za 0) (Zj 1)) Zm)))) Zm))) Zm)))))))
def ZeP:=Z9 2 Zlx
theorem Zud: SimF false Zlw ZeP:=Zac (show S [] [3] [] false Zlv Zlx from(ZA (Z3 (ZN (ZC Za6 (Zc 0) (Z7))) (ZR (Z7)) Z6) (ZA (ZU (O':=[]) (Zab Zag (E.list (Zf (Zab Zba (E.list (Zf (Zl _) Zo)) (Zab Zag (Zav ZaO (Zf (Zy Zx (Zc 0) (Zl _)) Zo)) (Zl _))) Zo)) (Zc 1))) (ZA (ZbG (O':=[3]) (E.list Zo)) (ZA (Zbd (Gs.seq (Zc 2)) PutOk.one (by decide) (by decide) (Zgr (O':=[3]) (by decide) Zbn (Za1 (O':=[]) (ZcI (Gs.seq (Zc 2)) PutOk.one (by decide) Zax (E.flat (ZI Zky (Zf (Zc 0) (Zf (ZI Zvb (Zf (Zc 4) (Zf (Zc 100) Zo))) Zo)))))) (by decide) (by decide))) (ZR (ZI Zl3 (Zf (E.tup (Zf (Zc 3) (Zf (ZbF (Gs.seq (Zc 1)) PutOk.one (by decide) Zax (ZI ZpH (Zf (Zc 102) (Zf (Zy Zx (Zc 0) (Zl _)) Zo)))) Zo))) Zo))))))))
def Zly: Sm:=ZE (Zs Zes (Ze (Zs ZeV (Ze (Zb 0) (Ze (Zs ZfI (Ze (Zb 1) (Ze (Zb 2) Zn))) Zn))) (Ze (Zb 3) Zn)))
def Zid:=Z5 4 Zly
def Zp0: PS:=(ZD (Zv ZdX (Zd (Zv ZdY (Zd (Za 0) (Zd (Zv ZeW (Zd (Za 1) (Zd (Za 2) Zm))) Zm))) (Zd (Za 3) Zm))))
def Zlz:=Z9 4 Zp0
theorem Zp1: SimF false Zid Zlz:=Zac (show S [] [] [] false Zly Zp0 from(ZR (ZI ZfE (Zf (ZI Zg0 (Zf (Zc 0) (Zf (ZI ZiC (Zf (Zc 1) (Zf (Zc 2) Zo))) Zo))) (Zf (Zc 3) Zo)))))
def Zh7: Sm:=Zu (ZL 4 (Zs ZaF (Ze (Zh Zr (Zb 1) (Zk 1)) Zn))) (ZaK (ZaL (Ze (Zh Zaf (Zb 4) (Zk 1)) Zn)) (put1 5) (ZaK (ZaL (Ze (Zh Zaf (Zb 4) (Zk 1)) Zn)) (put1 6) (Zu (ZL 7 (Zs ZfI (Ze (Zs ZdZ (Ze (Zb 5) (Ze (Zb 4) Zn))) (Ze (Zs ZdZ (Ze (Zb 6) (Ze (Zb 4) Zn))) Zn)))) (Zb9 (Zs ZfH (Ze (Zb 0) (Ze (Zb 5) (Ze (Zb 6) (Ze (Zs Zid (Ze (Zb 1) (Ze (Zb 7) (Ze (Zb 2) (Ze (Zb 3) Zn))))) Zn)))))))))
def Zk3:=Z5 4 Zh7
def ZpO: PS:=(Zt (ZM 4 (Zv Zat (Zd (Zg Zq (Za 1) (Zj 1)) Zm))) (ZaD (Zaz (Zd (Zg Zad (Za 4) (Zj 1)) Zm)) (Zae 5) (ZaD (Zaz (Zd (Zg Zad (Za 4) (Zj 1)) Zm)) (Zae 6) (Zt (ZM 7 (Zv ZeW (Zd (Zv ZdJ (Zd (Za 5) (Zd (Za 4) Zm))) (Zd (Zv ZdJ (Zd (Za 6) (Zd (Za 4) Zm))) Zm)))) (ZdP 0 ZgZ (Zd (Za 5) (Zd (Za 6) (Zd (Zv Zlz (Zd (Za 1) (Zd (Za 7) (Zd (Za 2) (Zd (Za 3) Zm))))) Zm))))))))
def ZpP:=ZeM 4 ZpO
theorem ZtM: SimM Zk3 ZpP:=Zjb (show S [0] [0] [0] false Zh7 ZpO from(ZA (ZU (O':=[0]) (Zav ZaO (Zf (Zy Zx (Zc 1) (Zl _)) Zo))) (Zbd (Gs.range (Zf (Zab Zag (Zc 4) (Zl _)) Zo)) PutOk.one (by decide) (by decide) (Zbd (Gs.range (Zf (Zab Zag (Zc 4) (Zl _)) Zo)) PutOk.one (by decide) (by decide) (ZA (ZU (O':=[0]) (ZI ZiC (Zf (ZI ZeY (Zf (Zc 5) (Zf (Zc 4) Zo))) (Zf (ZI ZeY (Zf (Zc 6) (Zf (Zc 4) Zo))) Zo)))) (Zfd (O':=[0]) (by decide) ZiA (Zf (Zc 5) (Zf (Zc 6) (Zf (ZI Zp1 (Zf (Zc 1) (Zf (Zc 7) (Zf (Zc 2) (Zf (Zc 3) Zo))))) Zo))) (by decide) (by decide))))))) (by decide) (by unfold Zh7;repeat' first | exact Keep0.next | exact ZiK | exact Keep0.ret | exact Keep0.put | apply Keep0.seq | apply ZiL | exact Keep0.set (by decide) | apply ZqU (ZqA (by decide)))
def ZlA: Sm:=Zu (ZW (ZK (Zh oIs (Zb 0) (ZY))) (ZE (ZY)) Z0) (ZE (Zh oDiv (Zb 0) (Zb 1)))
def Zfz:=Z5 2 ZlA
def ZlB: PS:=(Zt (ZT (ZG (Zg qIs (Za 0) (ZV))) (ZD (ZV)) ZX) (ZD (Zg ZbU (Za 0) (Za 1))))
def ZeQ:=Z9 2 ZlB
theorem Zie: SimF false Zfz ZeQ:=Zac (show S [] [] [] false ZlA ZlB from(ZA (Z3 (ZN (ZC Za6 (Zc 0) (Z7))) (ZR (Z7)) Z6) (ZR (ZC Zcy (Zc 0) (Zc 1)))))
def Zh8: Sm:=Zu (ZL 4 (Zs ZaF (Ze (Zh Zr (Zb 1) (Zk 1)) Zn))) (ZaK (ZaL (Ze (Zk 1) (Ze (Zh Zaf (Zb 4) (Zk 1)) Zn))) (put1 5) (Zu (ZL 6 (Zh Zr (Zb 2) (Zb 5))) (Zu (ZL 7 (Zs Zid (Ze (Zb 1) (Ze (Zs ZdV (Ze (Zs ZdZ (Ze (Zb 5) (Ze (Zb 4) Zn))) (Ze (Zb 6) Zn))) (Ze (Zb 2) (Ze (Zb 3) Zn)))))) (Zu (ZW (ZK (Zh oGt (Zb 6) (Zk 0))) (Zb9 (Zs ZfH (Ze (Zb 0) (Ze (Zb 5) (Ze (Zk 0) (Ze (Zs Zfz (Ze (Zb 7) (Ze (Zb 6) Zn))) Zn)))))) Z0) (ZW (ZK (Zh oLt (Zb 6) (Zk 0))) (Zb9 (Zs ZfH (Ze (Zb 0) (Ze (Zk 0) (Ze (Zb 5) (Ze (Zs Zfz (Ze (Zb 7) (Ze (eUn ZbJ (Zb 6)) Zn))) Zn)))))) Z0)))))
def Zk4:=Z5 4 Zh8
def ZpQ: PS:=(Zt (ZM 4 (Zv Zat (Zd (Zg Zq (Za 1) (Zj 1)) Zm))) (ZaD (Zaz (Zd (Zj 1) (Zd (Zg Zad (Za 4) (Zj 1)) Zm))) (Zae 5) (Zt (ZM 6 (Zg Zq (Za 2) (Za 5))) (Zt (ZM 7 (Zv Zlz (Zd (Za 1) (Zd (Zv ZdH (Zd (Zv ZdJ (Zd (Za 5) (Zd (Za 4) Zm))) (Zd (Za 6) Zm))) (Zd (Za 2) (Zd (Za 3) Zm)))))) (Zt (ZT (ZG (Zg qGt (Za 6) (Zj 0))) (ZdP 0 ZgZ (Zd (Za 5) (Zd (Zj 0) (Zd (Zv ZeQ (Zd (Za 7) (Zd (Za 6) Zm))) Zm)))) ZX) (ZT (ZG (Zg qLt (Za 6) (Zj 0))) (ZdP 0 ZgZ (Zd (Zj 0) (Zd (Za 5) (Zd (Zv ZeQ (Zd (Za 7) (Zd (pUn ZbB (Za 6)) Zm))) Zm)))) ZX))))))
def ZpR:=ZeM 4 ZpQ
theorem ZtN: SimM Zk4 ZpR:=Zjb (show S [0] [0] [0] false Zh8 ZpQ from(ZA (ZU (O':=[0]) (Zav ZaO (Zf (Zy Zx (Zc 1) (Zl _)) Zo))) (Zbd (Gs.range (Zf (Zl _) (Zf (Zab Zag (Zc 4) (Zl _)) Zo))) PutOk.one (by decide) (by decide) (ZA (ZU (O':=[0]) (Zy Zx (Zc 2) (Zc 5))) (ZA (ZU (O':=[0]) (ZI Zp1 (Zf (Zc 1) (Zf (ZI ZeS (Zf (ZI ZeY (Zf (Zc 5) (Zf (Zc 4) Zo))) (Zf (Zc 6) Zo))) (Zf (Zc 2) (Zf (Zc 3) Zo)))))) (ZA (Z3 (ZN (ZC Zgv (Zc 6) (Zl _))) (Zfd (O':=[0]) (by decide) ZiA (Zf (Zc 5) (Zf (Zl _) (Zf (ZI Zie (Zf (Zc 7) (Zf (Zc 6) Zo))) Zo))) (by decide) (by decide)) Z6) (Z3 (ZN (ZC ZcW (Zc 6) (Zl _))) (Zfd (O':=[0]) (by decide) ZiA (Zf (Zl _) (Zf (Zc 5) (Zf (ZI Zie (Zf (Zc 7) (Zf (Zb5 Zb6 (Zc 6)) Zo))) Zo))) (by decide) (by decide)) Z6))))))) (by decide) (by unfold Zh8;repeat' first | exact Keep0.next | exact ZiK | exact Keep0.ret | exact Keep0.put | apply Keep0.seq | apply ZiL | exact Keep0.set (by decide) | apply ZqU (ZqA (by decide)))
def ZnE: Sm:=Zu (ZW (tOr (ZK (Zh oIs (Zb 0) (ZY))) (tOr (ZK (Zs Znp (Ze (Zs Zjg (Ze (Zb 0) (Ze (Zb 1) Zn))) (Ze (Zb 2) Zn)))) Zb0)) (ZE (ZY)) Z0) (Zu (ZL 3 (Zs Zgc (Ze (Zh Zr (Zb 0) (Zk 0)) Zn))) (Zu (Zb9 (Zs Zk3 (Ze (Zb 3) (Ze (Zb 0) (Ze (Zb 1) (Ze (Zb 2) Zn)))))) (Zu (Zb9 (Zs Zk4 (Ze (Zb 3) (Ze (Zb 0) (Ze (Zb 1) (Ze (Zb 2) Zn)))))) (ZE (Zs Zd5 (Ze (Zal (Ze (Zb 3) (Ze (Zh Zr (Zb 0) (Zk 1)) Zn))) Zn))))))
def ZeZ:=Z5 3 ZnE
def Zq2: PS:=(Zt (ZT (bOr (ZG (Zg qIs (Za 0) (ZV))) (bOr (ZG (Zv ZqW (Zd (Zv Zgd (Zd (Za 0) (Zd (Za 1) Zm))) (Zd (Za 2) Zm)))) Zb3)) (ZD (ZV)) ZX) (Zt (ZM 3 (Zv Zhp (Zd (Zg Zq (Za 0) (Zj 0)) Zm))) (Zt (ZdP 3 ZpP (Zd (Za 0) (Zd (Za 1) (Zd (Za 2) Zm)))) (Zt (ZdP 3 ZpR (Zd (Za 0) (Zd (Za 1) (Zd (Za 2) Zm)))) (ZD (Zv ZbE (Zd (Zak (Zd (Za 3) (Zd (Zg Zq (Za 0) (Zj 1)) Zm))) Zm)))))))
def ZfU:=Z9 3 Zq2
theorem Zg9: SimF true ZeZ ZfU:=Zac (show S [] [3] [] true ZnE Zq2 from(ZA (Z3 (ZaY (ZN (ZC Za6 (Zc 0) (Z7))) (ZaY (ZN (ZI ZvZ (Zf (ZI Zr2 (Zf (Zc 0) (Zf (Zc 1) Zo))) (Zf (Zc 2) Zo)))) Zcu)) (Zas (Z7)) Z6) (ZA (ZbG (O':=[3]) (ZaM Zjf (Zf (Zy Zx (Zc 0) (Zl _)) Zo))) (ZA (Zfd (O':=[3]) (by decide) ZtM (Zf (Zc 0) (Zf (Zc 1) (Zf (Zc 2) Zo))) (by decide) (by decide)) (ZA (Zfd (O':=[3]) (by decide) ZtN (Zf (Zc 0) (Zf (Zc 1) (Zf (Zc 2) Zo))) (by decide) (by decide)) (Zas (ZaM Ze6 (Zf (E.tup (Zf (Zc 3) (Zf (Zy Zx (Zc 0) (Zl _)) Zo))) Zo))))))))
def ZlC: Sm:=Zu (ZW (ZK (Zb 2)) (ZE (Zs ZeZ (Ze (Zb 0) (Ze (Zb 1) (Ze (eUn ZbJ (Zk 1)) Zn))))) Z0) (ZE (Zs ZeZ (Ze (Zb 0) (Ze (Zs ZdV (Ze (Zb 1) (Ze (eUn ZbJ (Zk 1)) Zn))) (Ze (Zk 0) Zn)))))
def ZlD:=Z5 3 ZlC
def Zp2: PS:=(Zt (ZT (ZG (Za 2)) (ZD (Zv ZfU (Zd (Za 0) (Zd (Za 1) (Zd (pUn ZbB (Zj 1)) Zm))))) ZX) (ZD (Zv ZfU (Zd (Za 0) (Zd (Zv ZdH (Zd (Za 1) (Zd (pUn ZbB (Zj 1)) Zm))) (Zd (Zj 0) Zm))))))
def Zp3:=Z9 3 Zp2
theorem Zue: SimF true ZlD Zp3:=Zac (show S [] [] [] true ZlC Zp2 from(ZA (Z3 (ZN (Zc 2)) (Zas (ZaM Zg9 (Zf (Zc 0) (Zf (Zc 1) (Zf (Zb5 Zb6 (Zl _)) Zo))))) Z6) (Zas (ZaM Zg9 (Zf (Zc 0) (Zf (ZI ZeS (Zf (Zc 1) (Zf (Zb5 Zb6 (Zl _)) Zo))) (Zf (Zl _) Zo)))))))
def Zki: Sm:=ZE (Zs ZeA (Ze (Zs ZfS (Ze (Zh Zr (Zb 0) (Zk 0)) (Ze (Zb 1) Zn))) (Ze (Zh Zr (Zb 0) (Zk 1)) Zn)))
def ZhW:=Z5 2 Zki
def Zpy: PS:=(ZD (Zv Zd9 (Zd (Zv ZeX (Zd (Zg Zq (Za 0) (Zj 0)) (Zd (Za 1) Zm))) (Zd (Zg Zq (Za 0) (Zj 1)) Zm))))
def Zkj:=Z9 2 Zpy
theorem Zpz: SimF false ZhW Zkj:=Zac (show S [] [] [] false Zki Zpy from(ZR (ZI Zgi (Zf (ZI ZiM (Zf (Zy Zx (Zc 0) (Zl _)) (Zf (Zc 1) Zo))) (Zf (Zy Zx (Zc 0) (Zl _)) Zo)))))
def Zk5: Sm:=Zu (ZL 4 (Zh Zr (Zb 1) (Zb 3))) (Zu (ZL 5 (Zh Zr (Zb 0) (Zh Zbe (Zb 3) (Zk 1)))) (Zu (ZW (ZK (Zh oNe (Zs Zdn (Ze (Zb 4) Zn)) (Zk 1))) (ZE (Zb 5)) Z0) (Zu (ZL 6 (Zs ZfI (Ze (Zb 1) (Ze (Zs ZdV (Ze (Zs ZdZ (Ze (Zb 3) (Ze (Zs ZaF (Ze (Zb 0) Zn)) Zn))) (Ze (Zb 4) Zn))) Zn)))) (ZE (Zs ZgX (Ze (Zb 5) (Ze (Zs ZhW (Ze (Zs ZgH (Ze (Zs Zet (Ze (Zb 6) (Ze (Zb 0) Zn))) (Ze (eUn ZbJ (Zb 4)) Zn))) (Ze (Zb 2) Zn))) Zn)))))))
def Zk6:=Z5 4 Zk5
def ZpS: PS:=(Zt (ZM 4 (Zg Zq (Za 1) (Za 3))) (Zt (ZM 5 (Zg Zq (Za 0) (Zg Za0 (Za 3) (Zj 1)))) (Zt (ZT (ZG (Zg qNe (Zv Zdp (Zd (Za 4) Zm)) (Zj 1))) (ZD (Za 5)) ZX) (Zt (ZM 6 (Zv ZeW (Zd (Za 1) (Zd (Zv ZdH (Zd (Zv ZdJ (Zd (Za 3) (Zd (Zv Zat (Zd (Za 0) Zm)) Zm))) (Zd (Za 4) Zm))) Zm)))) (ZD (Zv ZfD (Zd (Za 5) (Zd (Zv Zkj (Zd (Zv Zfy (Zd (Zv ZdI (Zd (Za 6) (Zd (Za 0) Zm))) (Zd (pUn ZbB (Za 4)) Zm))) (Zd (Za 2) Zm))) Zm))))))))
def ZpT:=Z9 4 ZpS
theorem ZtO: SimF false Zk6 ZpT:=Zac (show S [] [] [] false Zk5 ZpS from(ZA (ZU (O':=[]) (Zy Zx (Zc 1) (Zc 3))) (ZA (ZU (O':=[]) (Zy Zx (Zc 0) (ZC Zbi (Zc 3) (Zl _)))) (ZA (Z3 (ZN (ZC ZbV (Zav Zee (Zf (Zc 4) Zo)) (Zl _))) (ZR (Zc 5)) Z6) (ZA (ZU (O':=[]) (ZI ZiC (Zf (Zc 1) (Zf (ZI ZeS (Zf (ZI ZeY (Zf (Zc 3) (Zf (Zav ZaO (Zf (Zc 0) Zo)) Zo))) (Zf (Zc 4) Zo))) Zo)))) (ZR (ZI ZmA (Zf (Zc 5) (Zf (ZI Zpz (Zf (ZI Zlm (Zf (ZI ZfF (Zf (Zc 6) (Zf (Zc 0) Zo))) (Zf (Zb5 Zb6 (Zc 4)) Zo))) (Zf (Zc 2) Zo))) Zo)))))))))
def Zl9: Sm:=Zu (ZW (ZK (Zh oIs (Zb 0) (ZY))) (ZE (ZY)) Z0) (Zu (ZL 3 (Zaw (ZaL (Ze (Zk 1) (Ze (Zs ZaF (Ze (Zb 1) Zn)) Zn))) (put1 100) Zao (Zs Zk6 (Ze (Zh Zr (Zb 0) (Zk 1)) (Ze (Zb 1) (Ze (Zb 2) (Ze (Zb 100) Zn))))))) (Zu (ZW (ZK (Zh oIn (ZY) (Zb 3))) (ZE (ZY)) Z0) (ZE (Zs Zd5 (Ze (Zal (Ze (Zh Zr (Zb 0) (Zk 0)) (Ze (Zb 3) Zn))) Zn)))))
def Zin:=Z5 3 Zl9
def Zqh: PS:=(Zt (ZT (ZG (Zg qIs (Za 0) (ZV))) (ZD (ZV)) ZX) (Zt (ZM 3 (Zan (Zaz (Zd (Zj 1) (Zd (Zv Zat (Zd (Za 1) Zm)) Zm))) (Zae 100) Zai (Zv ZpT (Zd (Zg Zq (Za 0) (Zj 1)) (Zd (Za 1) (Zd (Za 2) (Zd (Za 100) Zm))))))) (Zt (ZT (ZG (Zg qIn (ZV) (Za 3))) (ZD (ZV)) ZX) (ZD (Zv ZbE (Zd (Zak (Zd (Zg Zq (Za 0) (Zj 0)) (Zd (Za 3) Zm))) Zm))))))
def Zma:=Z9 3 Zqh
theorem Zqi: SimF true Zin Zma:=Zac (show S [] [] [] true Zl9 Zqh from(ZA (Z3 (ZN (ZC Za6 (Zc 0) (Z7))) (Zas (Z7)) Z6) (ZA (ZU (O':=[]) (ZbF (Gs.range (Zf (Zl _) (Zf (Zav ZaO (Zf (Zc 1) Zo)) Zo))) PutOk.one (by decide) Zax (ZI ZtO (Zf (Zy Zx (Zc 0) (Zl _)) (Zf (Zc 1) (Zf (Zc 2) (Zf (Zc 100) Zo))))))) (ZA (Z3 (ZN (ZC ZeL (Z7) (Zc 3))) (Zas (Z7)) Z6) (Zas (ZaM Ze6 (Zf (E.tup (Zf (Zy Zx (Zc 0) (Zl _)) (Zf (Zc 3) Zo))) Zo)))))))
def Zmb: Sm:=Zu (ZW (ZcE (ZK (Zs ZeU (Ze (Zs ZhW (Ze (Zs Zet (Ze (Zb 1) (Ze (Zh Zr (Zb 0) (Zk 1)) Zn))) (Ze (Zb 2) Zn))) (Ze (Zk 0) Zn))))) (ZE (ZY)) Z0) (ZE (Zs Zin (Ze (Zb 0) (Ze (Zb 1) (Ze (Zb 2) Zn)))))
def Zio:=Z5 3 Zmb
def Zqj: PS:=(Zt (ZT (Zcz (ZG (Zv Zer (Zd (Zv Zkj (Zd (Zv ZdI (Zd (Za 1) (Zd (Zg Zq (Za 0) (Zj 1)) Zm))) (Zd (Za 2) Zm))) (Zd (Zj 0) Zm))))) (ZD (ZV)) ZX) (ZD (Zv Zma (Zd (Za 0) (Zd (Za 1) (Zd (Za 2) Zm))))))
def Zmc:=Z9 3 Zqj
theorem Zqk: SimF true Zio Zmc:=Zac (show S [] [] [] true Zmb Zqj from(ZA (Z3 (Zc3 (ZN (ZI ZgW (Zf (ZI Zpz (Zf (ZI ZfF (Zf (Zc 1) (Zf (Zy Zx (Zc 0) (Zl _)) Zo))) (Zf (Zc 2) Zo))) (Zf (Zl _) Zo))))) (Zas (Z7)) Z6) (Zas (ZaM Zqi (Zf (Zc 0) (Zf (Zc 1) (Zf (Zc 2) Zo)))))))
def Zkk: Sm:=Zu (ZW (ZK (Zs ZkO (Ze (Zs Zet (Ze (Zb 1) (Ze (Zh Zr (Zb 0) (Zk 1)) Zn))) (Ze (Zal (Ze (Zb 2) (Ze (Zk 0) Zn))) Zn)))) (ZE (ZY)) Z0) (Zu (ZW (ZK (Zh oEq (Zb 2) (Zk 2))) (ZE (Zs Zio (Ze (Zb 0) (Ze (Zh Zaf (Zbc (Ze (Zh Zaf (Zh Zr (Zb 1) (Zk 0)) (Zk 1)) Zn)) (ZdO (Zb 1) 1)) (Ze (Zk 2) Zn))))) Z0) (ZE (Zs Zgc (Ze (Zb 0) Zn))))
def Zkl:=Z5 3 Zkk
def ZpA: PS:=(Zt (ZT (ZG (Zv ZpM (Zd (Zv ZdI (Zd (Za 1) (Zd (Zg Zq (Za 0) (Zj 1)) Zm))) (Zd (Zak (Zd (Za 2) (Zd (Zj 0) Zm))) Zm)))) (ZD (ZV)) ZX) (Zt (ZT (ZG (Zg qEq (Za 2) (Zj 2))) (ZD (Zv Zmc (Zd (Za 0) (Zd (Zg Zad (Za2 (Zd (Zg Zad (Zg Zq (Za 1) (Zj 0)) (Zj 1)) Zm)) (ZdB (Za 1) 1)) (Zd (Zj 2) Zm))))) ZX) (ZD (Zv Zhp (Zd (Za 0) Zm)))))
def ZpB:=Z9 3 ZpA
theorem Ztb: SimF true Zkl ZpB:=Zac (show S [] [] [] true Zkk ZpA from(ZA (Z3 (ZN (ZI ZtH (Zf (ZI ZfF (Zf (Zc 1) (Zf (Zy Zx (Zc 0) (Zl _)) Zo))) (Zf (E.tup (Zf (Zc 2) (Zf (Zl _) Zo))) Zo)))) (Zas (Z7)) Z6) (ZA (Z3 (ZN (ZC Zaq (Zc 2) (Zl _))) (Zas (ZaM Zqk (Zf (Zc 0) (Zf (Zab Zag (E.list (Zf (Zab Zag (Zy Zx (Zc 1) (Zl _)) (Zl _)) Zo)) (Zhw (Zc 1))) (Zf (Zl _) Zo))))) Z6) (Zas (ZaM Zjf (Zf (Zc 0) Zo))))))
def Zmd: Sm:=Zu (ZW (ZcE (ZK (Zs ZeU (Ze (Zs Zet (Ze (Zb 1) (Ze (Zh Zr (Zb 0) (Zk 1)) Zn))) (Ze (Zk 0) Zn))))) (ZE (ZY)) Z0) (Zu (ZL 2 (Zs ZeZ (Ze (Zs ZeZ (Ze (Zb 0) (Ze (Zb 1) (Ze (Zk 0) Zn)))) (Ze (Zs ZdV (Ze (Zb 1) (Ze (eUn ZbJ (Zk 1)) Zn))) (Ze (Zk 0) Zn))))) (ZE (Zs Zin (Ze (Zb 2) (Ze (Zb 1) (Ze (Zk 0) Zn))))))
def Zme:=Z5 2 Zmd
def Zql: PS:=(Zt (ZT (Zcz (ZG (Zv Zer (Zd (Zv ZdI (Zd (Za 1) (Zd (Zg Zq (Za 0) (Zj 1)) Zm))) (Zd (Zj 0) Zm))))) (ZD (ZV)) ZX) (Zt (ZM 2 (Zv ZfU (Zd (Zv ZfU (Zd (Za 0) (Zd (Za 1) (Zd (Zj 0) Zm)))) (Zd (Zv ZdH (Zd (Za 1) (Zd (pUn ZbB (Zj 1)) Zm))) (Zd (Zj 0) Zm))))) (ZD (Zv Zma (Zd (Za 2) (Zd (Za 1) (Zd (Zj 0) Zm)))))))
def Zqm:=Z9 2 Zql
theorem ZuC: SimF true Zme Zqm:=Zac (show S [] [] [] true Zmd Zql from(ZA (Z3 (Zc3 (ZN (ZI ZgW (Zf (ZI ZfF (Zf (Zc 1) (Zf (Zy Zx (Zc 0) (Zl _)) Zo))) (Zf (Zl _) Zo))))) (Zas (Z7)) Z6) (ZA (ZU (O':=[]) (ZI Zg9 (Zf (ZI Zg9 (Zf (Zc 0) (Zf (Zc 1) (Zf (Zl _) Zo)))) (Zf (ZI ZeS (Zf (Zc 1) (Zf (Zb5 Zb6 (Zl _)) Zo))) (Zf (Zl _) Zo))))) (Zas (ZaM Zqi (Zf (Zc 2) (Zf (Zc 1) (Zf (Zl _) Zo))))))))
def Zm0: Sm:=Zu (ZW (Za5 (ZK (Zh ZbN (Zb 0) (ZY))) (Za5 (ZK (Zs Zik (Ze (Zs ZeV (Ze (Zb 0) (Ze (Zb 1) Zn))) (Ze (Zk 0) Zn)))) Zao)) (ZE (Zs ZeZ (Ze (Zb 0) (Ze (Zb 1) (Ze (eUn ZbJ (Zk 1)) Zn))))) Z0) (ZE (Zb 0))
def ZiE:=Z5 2 Zm0
def ZqD: PS:=(Zt (ZT (ZaU (ZG (Zg Zbz (Za 0) (ZV))) (ZaU (ZG (Zv ZgM (Zd (Zv ZdY (Zd (Za 0) (Zd (Za 1) Zm))) (Zd (Zj 0) Zm)))) Zai)) (ZD (Zv ZfU (Zd (Za 0) (Zd (Za 1) (Zd (pUn ZbB (Zj 1)) Zm))))) ZX) (ZD (Za 0)))
def Zm1:=Z9 2 ZqD
theorem ZqE: SimF false ZiE Zm1:=Zac (show S [] [] [] false Zm0 ZqD from(ZA (Z3 (Zbh (ZN (ZC Zcf (Zc 0) (Z7))) (Zbh (ZN (ZI Zqf (Zf (ZI Zg0 (Zf (Zc 0) (Zf (Zc 1) Zo))) (Zf (Zl _) Zo)))) Zax)) (ZR (ZI Zg9 (Zf (Zc 0) (Zf (Zc 1) (Zf (Zb5 Zb6 (Zl _)) Zo))))) Z6) (ZR (Zc 0))))
def Zkm: Sm:=ZE (Zs Zgc (Ze (Zs ZiE (Ze (Zs ZiE (Ze (Zb 0) (Ze (Zb 1) Zn))) (Ze (Zs ZdV (Ze (Zb 1) (Ze (eUn ZbJ (Zk 1)) Zn))) Zn))) Zn))
def Zkn:=Z5 2 Zkm
def ZpC: PS:=(ZD (Zv Zhp (Zd (Zv Zm1 (Zd (Zv Zm1 (Zd (Za 0) (Zd (Za 1) Zm))) (Zd (Zv ZdH (Zd (Za 1) (Zd (pUn ZbB (Zj 1)) Zm))) Zm))) Zm)))
def ZpD:=Z9 2 ZpC
theorem Ztc: SimF true Zkn ZpD:=Zac (show S [] [] [] true Zkm ZpC from(Zas (ZaM Zjf (Zf (ZI ZqE (Zf (ZI ZqE (Zf (Zc 0) (Zf (Zc 1) Zo))) (Zf (ZI ZeS (Zf (Zc 1) (Zf (Zb5 Zb6 (Zl _)) Zo))) Zo))) Zo))))
def Zo3: Sm:=Zu (ZW (ZK (Zh oIs (Zb 0) (ZY))) (ZE (ZY)) Z0) (Zu (ZW (ZK (Zh oEq (Zh Zr (Zb 1) (Zk 0)) (Za4 (Str.ofString "under")))) (ZE (Zs ZlD (Ze (Zb 0) (Ze (Zh Zr (Zb 1) (Zk 1)) (Ze (Zb 2) Zn))))) Z0) (Zu (ZW (ZK (Zh oEq (Zh Zr (Zb 1) (Zk 0)) (Za4 (Str.ofString "same")))) (ZE (eIf (ZK (Zb 2)) (Zs Zme (Ze (Zb 0) (Ze (Zh Zr (Zb 1) (Zk 1)) Zn))) (Zs Zkn (Ze (Zb 0) (Ze (Zh Zr (Zb 1) (Zk 1)) Zn))))) Z0) (ZE (eIf (ZK (Zb 2)) (Zs Zio (Ze (Zb 0) (Ze (Zh Zr (Zb 1) (Zk 1)) (Ze (Zh Zr (Zb 1) (Zk 2)) Zn)))) (Zs Zkl (Ze (Zb 0) (Ze (Zh Zr (Zb 1) (Zk 1)) (Ze (Zh Zr (Zb 1) (Zk 2)) Zn))))))))
def Zo4:=Z5 3 Zo3
def Zsy: PS:=(Zt (ZT (ZG (Zg qIs (Za 0) (ZV))) (ZD (ZV)) ZX) (Zt (ZT (ZG (Zg qEq (Zg Zq (Za 1) (Zj 0)) (ZaN (Str.ofString "under")))) (ZD (Zv Zp3 (Zd (Za 0) (Zd (Zg Zq (Za 1) (Zj 1)) (Zd (Za 2) Zm))))) ZX) (Zt (ZT (ZG (Zg qEq (Zg Zq (Za 1) (Zj 0)) (ZaN (Str.ofString "same")))) (ZD (pIf (ZG (Za 2)) (Zv Zqm (Zd (Za 0) (Zd (Zg Zq (Za 1) (Zj 1)) Zm))) (Zv ZpD (Zd (Za 0) (Zd (Zg Zq (Za 1) (Zj 1)) Zm))))) ZX) (ZD (pIf (ZG (Za 2)) (Zv Zmc (Zd (Za 0) (Zd (Zg Zq (Za 1) (Zj 1)) (Zd (Zg Zq (Za 1) (Zj 2)) Zm)))) (Zv ZpB (Zd (Za 0) (Zd (Zg Zq (Za 1) (Zj 1)) (Zd (Zg Zq (Za 1) (Zj 2)) Zm)))))))))
def Zsz:=Z9 3 Zsy
theorem Zzg: SimF true Zo4 Zsz:=Zac (show S [] [] [] true Zo3 Zsy from(ZA (Z3 (ZN (ZC Za6 (Zc 0) (Z7))) (Zas (Z7)) Z6) (ZA (Z3 (ZN (ZC Zaq (Zy Zx (Zc 1) (Zl _)) (E.str _))) (Zas (ZaM Zue (Zf (Zc 0) (Zf (Zy Zx (Zc 1) (Zl _)) (Zf (Zc 2) Zo))))) Z6) (ZA (Z3 (ZN (ZC Zaq (Zy Zx (Zc 1) (Zl _)) (E.str _))) (Zas (ZeE (ZN (Zc 2)) (ZaM ZuC (Zf (Zc 0) (Zf (Zy Zx (Zc 1) (Zl _)) Zo))) (ZaM Ztc (Zf (Zc 0) (Zf (Zy Zx (Zc 1) (Zl _)) Zo))))) Z6) (Zas (ZeE (ZN (Zc 2)) (ZaM Zqk (Zf (Zc 0) (Zf (Zy Zx (Zc 1) (Zl _)) (Zf (Zy Zx (Zc 1) (Zl _)) Zo)))) (ZaM Ztb (Zf (Zc 0) (Zf (Zy Zx (Zc 1) (Zl _)) (Zf (Zy Zx (Zc 1) (Zl _)) Zo))))))))))
def ZoE: PS:=(ZD (Zg Zad (Zg Zad (Zdj (Za 0) Zdw (Zdx (Zg Za0 (Za 1) (Zj 1)))) (Za2 (Zd (Za 2) Zm))) (Zdj (Za 0) (Zdx (Za 1)) Zdw)))
def Ze7:=Z9 3 ZoE
theorem Zr3: SimF false Zff Ze7:=Zac (show S [] [] [] false ZjC ZoE from(ZR (Zab Zag (Zab Zag (Zf8 (Zc 0) Pe.none (Pe.some (ZC Zbi (Zc 1) (Zl _)))) (E.list (Zf (Zc 2) Zo))) (Zf8 (Zc 0) (Pe.some (Zc 1)) Pe.none))))
def Zm2: Sm:=ZE (Zaw (ZaL (Ze (Zk 1) (Ze (Zh Zaf (Zb 0) (Zk 1)) Zn))) (put1 100) Zao (Zs ZdZ (Ze (Zb 100) (Ze (Zb 1) Zn))))
def Zg1:=Z5 2 Zm2
def Zm3: PS:=(ZD (Zan (Zaz (Zd (Zj 1) (Zd (Zg Zad (Za 0) (Zj 1)) Zm))) (Zae 100) Zai (Zv ZdJ (Zd (Za 100) (Zd (Za 1) Zm)))))
def ZfJ:=Z9 2 Zm3
theorem Zm4: SimF false Zg1 ZfJ:=Zac (show S [] [] [] false Zm2 Zm3 from(ZR (ZbF (Gs.range (Zf (Zl _) (Zf (Zab Zag (Zc 0) (Zl _)) Zo))) PutOk.one (by decide) Zax (ZI ZeY (Zf (Zc 100) (Zf (Zc 1) Zo))))))
def Zm5: Sm:=Zu (ZL 4 (Zs Zd5 (Ze (Zb 0) Zn))) (Zu (ZW (tOr (ZK (Zh oIs (Zb 4) (ZY))) (tOr (ZK (Zh oIs (Zb 3) (ZY))) Zb0)) (ZE (ZY)) Z0) (Zu (ZL 5 (Zs ZaF (Ze (Zh Zr (Zb 4) (Zk 1)) Zn))) (Zu (ZL 6 (Zh Zaf (Zh Zaf (Zb 5) (Zs ZaF (Ze (Zb 2) Zn))) (Zk 1))) (Zu (ZL 7 (Zs Zhg (Ze (Zb 4) (Ze (Zh Zaf (Zs Zg1 (Ze (Zb 5) (Ze (Zb 5) Zn))) (Zb 2)) Zn)))) (Zu (ZW (ZK (Zh oIs (Zb 7) (ZY))) (ZE (ZY)) Z0) (Zu (ZL 8 (Zs Zd5 (Ze (Zs Zny (Ze (Zs Znw (Ze (Zb 7) (Ze (Zk 1) Zn))) (Ze (Zs ZhC (Ze (Zh Zaf (Zb 5) (Zk 1)) (Ze (Zh Zaf (Zb 6) (Zk 1)) Zn))) (Ze (Zb 3) Zn)))) Zn))) (ZE (Zs Zhg (Ze (Zb 8) (Ze (Zs Zff (Ze (Zs Zg1 (Ze (Zb 5) (Ze (Zb 6) Zn))) (Ze (Zb 1) (Ze (Zs ZdZ (Ze (Zb 6) (Ze (Zb 6) Zn))) Zn)))) Zn))))))))))
def Zm6:=Z5 4 Zm5
def ZqF: PS:=(Zt (ZM 4 (Zv ZbE (Zd (Za 0) Zm))) (Zt (ZT (bOr (ZG (Zg qIs (Za 4) (ZV))) (bOr (ZG (Zg qIs (Za 3) (ZV))) Zb3)) (ZD (ZV)) ZX) (Zt (ZM 5 (Zv Zat (Zd (Zg Zq (Za 4) (Zj 1)) Zm))) (Zt (ZM 6 (Zg Zad (Zg Zad (Za 5) (Zv Zat (Zd (Za 2) Zm))) (Zj 1))) (Zt (ZM 7 (Zv Zd3 (Zd (Za 4) (Zd (Zg Zad (Zv ZfJ (Zd (Za 5) (Zd (Za 5) Zm))) (Za 2)) Zm)))) (Zt (ZT (ZG (Zg qIs (Za 7) (ZV))) (ZD (ZV)) ZX) (Zt (ZM 8 (Zv ZbE (Zd (Zv Zq1 (Zd (Zv ZqZ (Zd (Za 7) (Zd (Zj 1) Zm))) (Zd (Zv ZoV (Zd (Zg Zad (Za 5) (Zj 1)) (Zd (Zg Zad (Za 6) (Zj 1)) Zm))) (Zd (Za 3) Zm)))) Zm))) (ZD (Zv Zd3 (Zd (Za 8) (Zd (Zv Ze7 (Zd (Zv ZfJ (Zd (Za 5) (Zd (Za 6) Zm))) (Zd (Za 1) (Zd (Zv ZdJ (Zd (Za 6) (Zd (Za 6) Zm))) Zm)))) Zm)))))))))))
def ZqG:=Z9 4 ZqF
theorem Zvc: SimF true Zm6 ZqG:=Zac (show S [] [] [] true Zm5 ZqF from(ZA (ZU (O':=[]) (ZI Ze6 (Zf (Zc 0) Zo))) (ZA (Z3 (ZaY (ZN (ZC Za6 (Zc 4) (Z7))) (ZaY (ZN (ZC Za6 (Zc 3) (Z7))) Zcu)) (Zas (Z7)) Z6) (ZA (ZU (O':=[]) (Zav ZaO (Zf (Zy Zx (Zc 4) (Zl _)) Zo))) (ZA (ZU (O':=[]) (Zab Zag (Zab Zag (Zc 5) (Zav ZaO (Zf (Zc 2) Zo))) (Zl _))) (ZA (ZU (O':=[]) (ZI Zoc (Zf (Zc 4) (Zf (Zab Zag (ZI Zm4 (Zf (Zc 5) (Zf (Zc 5) Zo))) (Zc 2)) Zo)))) (ZA (Z3 (ZN (ZC Za6 (Zc 7) (Z7))) (Zas (Z7)) Z6) (ZA (ZU (O':=[]) (ZI Ze6 (Zf (ZI Zv3 (Zf (ZI Zv2 (Zf (Zc 7) (Zf (Zl _) Zo))) (Zf (Zi5 Zx4 (Zf (Zab Zag (Zc 5) (Zl _)) (Zf (Zab Zag (Zc 6) (Zl _)) Zo))) (Zf (Zc 3) Zo)))) Zo))) (Zas (ZaM Zoc (Zf (Zc 8) (Zf (ZI Zr3 (Zf (ZI Zm4 (Zf (Zc 5) (Zf (Zc 6) Zo))) (Zf (Zc 1) (Zf (ZI ZeY (Zf (Zc 6) (Zf (Zc 6) Zo))) Zo)))) Zo))))))))))))
def ZkE: Sm:=Zu (ZL 1 (Zbc Zn)) (Zu (ZaK (ZaL (Ze (Zb 0) Zn)) (put1 2) (Zu (ZL 3 (Zh ZaT (Zbc (Ze (Zk 0) Zn)) (Zh Zaf (Zb 0) (Zk 1)))) (Zu (Zbl (Zk 1) (Zb 3) (Zh Zaf (Zb 2) (Zk 1))) (Zb9 (Zd4 (Zb 1) (Zb 3)))))) (ZE (Zb 1)))
def ZkF:=Z5 1 ZkE
def ZkG: PS:=(Zt (ZM 1 (Za2 Zm)) (Zt (ZaD (Zaz (Zd (Za 0) Zm)) (Zae 2) (Zt (ZM 3 (pFl (Zg ZaC (Za2 (Zd (Zj 0) Zm)) (Zg Zad (Za 0) (Zj 1))))) (Zt (Zbb 3 [] (Zj 1) ZaA (Zg Zad (Za 2) (Zj 1))) (ZcX 1 [3] ZaA (Za 3))))) (ZD (Za 1))))
def Zh1:=Z9 1 ZkG
theorem Zto: SimF true ZkF Zh1:=Zac (show S [] [1] [] true ZkE ZkG from(ZA (ZbG (O':=[1]) (E.list Zo)) (ZA (Zbd (Gs.range (Zf (Zc 0) Zo)) PutOk.one (by decide) (by decide) (ZA (ZbG (O':=[1,3]) (Za1 (O':=[]) (Zfb Zba (E.list (Zf (Zl _) Zo)) (Zab Zag (Zc 0) (Zl _))))) (ZA (S.put (O':=[1,3]) (by decide) (Za1 (O':=[1]) (Zl _)) Zbn (Zab Zag (Zc 2) (Zl _)) (by decide) (by decide)) (Zgr (O':=[1]) (by decide) Zbn (Za1 (O':=[3]) (E.own (by decide))) (by decide) (by decide))))) (Zas (E.own (by decide))))))
def ZnF: Sm:=Zu (ZL 2 (Zh Zaf (Zk 1) (Zs Zcm (Ze (Zb 0) (Ze (Zk 5) (Ze (Zb 1) Zn)))))) (Zu (ZL 3 (Zs ZnA (Ze (Zb 0) (Ze (Zk 8) (Ze (Zb 1) Zn))))) (Zu (ZL 4 (Zh Zr (Zbc (Ze (Za4 (Str.ofString "go")) (Ze (Za4 (Str.ofString "say")) (Ze (Za4 (Str.ofString "set")) (Ze (Za4 (Str.ofString "set")) (Ze (Za4 (Str.ofString "part")) (Ze (Za4 (Str.ofString "rest")) (Ze (Za4 (Str.ofString "any")) Zn)))))))) (Zs Zcm (Ze (Zb 0) (Ze (Zk 6) (Ze (Zk 7) Zn)))))) (Zu (ZL 5 (Zh Zaf (Zk 1) (Zs Zcm (Ze (Zb 0) (Ze (Zk 7) (Ze (Zk 6) Zn)))))) (Zu (ZW (ZK (Zh oEq (Zs Zcm (Ze (Zb 0) (Ze (Zk 12) (Ze (Zk 3) Zn)))) (Zk 1))) (ZL 5 (Zs ZjH (Ze (Zk 1) (Ze (Zs Zdn (Ze (Zs Zen (Ze (Zb 0) (Ze (Zk 7) Zn))) Zn)) Zn)))) Z0) (Zu (ZL 6 (Zs Zen (Ze (Zb 0) (Ze (Zk 13) Zn)))) (Zu (ZL 7 (Zbc (Ze (Zal (Ze (ZY) (Ze (ZY) Zn))) (Ze (Zal (Ze (Zb 6) (Ze (ZY) Zn))) (Ze (Zal (Ze (ZY) (Ze (Zb 6) Zn))) (Ze (Zal (Ze (Zb 6) (Ze (Zh Zaf (Zb 6) (Zs Zcm (Ze (Zb 0) (Ze (Zk 41) (Ze (Zk 30) Zn))))) Zn))) Zn)))))) (Zu (ZL 8 (Zh Zr (Zb 7) (Zs Zcm (Ze (Zb 0) (Ze (Zk 40) (Ze (Zk 4) Zn)))))) (Zu (ZW (ZK (Zh oEq (Zb 4) (Za4 (Str.ofString "go")))) (ZE (Zal (Ze (Za4 (Str.ofString "go")) Zn))) Z0) (Zu (ZW (ZK (Zh oEq (Zb 4) (Za4 (Str.ofString "say")))) (ZE (Zal (Ze (Za4 (Str.ofString "say")) (Ze (Zal (Ze (Za4 (Str.ofString "even")) (Ze (Zb 3) (Ze (Zb 5) Zn)))) Zn)))) Z0) (Zu (ZW (ZK (Zh oEq (Zb 4) (Za4 (Str.ofString "set")))) (ZE (Zal (Ze (Za4 (Str.ofString "set")) (Ze (Zb 2) (Ze (Zb 3) Zn))))) Z0) (Zu (ZW (ZK (Zh oEq (Zb 4) (Za4 (Str.ofString "any")))) (ZE (Zal (Ze (Za4 (Str.ofString "any")) (Ze (Zb 2) (Ze (Zh Zr (Zb 8) (Zk 0)) (Ze (Zh Zr (Zb 8) (Zk 1)) Zn)))))) Z0) (ZE (Zal (Ze (Zb 4) (Ze (Zb 2) (Ze (Zb 3) (Ze (Zb 5) Zn)))))))))))))))))
def ZiS:=Z5 2 ZnF
def ZnG: PS:=(Zt (ZM 2 (Zg Zad (Zj 1) (Zv ZbK (Zd (Za 0) (Zd (Zj 5) (Zd (Za 1) Zm)))))) (Zt (ZM 3 (Zv ZiR (Zd (Za 0) (Zd (Zj 8) (Zd (Za 1) Zm))))) (Zt (ZM 4 (Zg Zq (Za2 (Zd (ZaN (Str.ofString "go")) (Zd (ZaN (Str.ofString "say")) (Zd (ZaN (Str.ofString "set")) (Zd (ZaN (Str.ofString "set")) (Zd (ZaN (Str.ofString "part")) (Zd (ZaN (Str.ofString "rest")) (Zd (ZaN (Str.ofString "any")) Zm)))))))) (Zv ZbK (Zd (Za 0) (Zd (Zj 6) (Zd (Zj 7) Zm)))))) (Zt (ZM 5 (Zg Zad (Zj 1) (Zv ZbK (Zd (Za 0) (Zd (Zj 7) (Zd (Zj 6) Zm)))))) (Zt (ZT (ZG (Zg qEq (Zv ZbK (Zd (Za 0) (Zd (Zj 12) (Zd (Zj 3) Zm)))) (Zj 1))) (ZM 5 (Zv ZjJ (Zd (Zj 1) (Zd (Zv Zdp (Zd (Zv ZdU (Zd (Za 0) (Zd (Zj 7) Zm))) Zm)) Zm)))) ZX) (Zt (ZM 6 (Zv ZdU (Zd (Za 0) (Zd (Zj 13) Zm)))) (Zt (ZM 7 (Za2 (Zd (Zak (Zd (ZV) (Zd (ZV) Zm))) (Zd (Zak (Zd (Za 6) (Zd (ZV) Zm))) (Zd (Zak (Zd (ZV) (Zd (Za 6) Zm))) (Zd (Zak (Zd (Za 6) (Zd (Zg Zad (Za 6) (Zv ZbK (Zd (Za 0) (Zd (Zj 41) (Zd (Zj 30) Zm))))) Zm))) Zm)))))) (Zt (ZM 8 (Zg Zq (Za 7) (Zv ZbK (Zd (Za 0) (Zd (Zj 40) (Zd (Zj 4) Zm)))))) (Zt (ZT (ZG (Zg qEq (Za 4) (ZaN (Str.ofString "go")))) (ZD (Zak (Zd (ZaN (Str.ofString "go")) Zm))) ZX) (Zt (ZT (ZG (Zg qEq (Za 4) (ZaN (Str.ofString "say")))) (ZD (Zak (Zd (ZaN (Str.ofString "say")) (Zd (Zak (Zd (ZaN (Str.ofString "even")) (Zd (Za 3) (Zd (Za 5) Zm)))) Zm)))) ZX) (Zt (ZT (ZG (Zg qEq (Za 4) (ZaN (Str.ofString "set")))) (ZD (Zak (Zd (ZaN (Str.ofString "set")) (Zd (Za 2) (Zd (Za 3) Zm))))) ZX) (Zt (ZT (ZG (Zg qEq (Za 4) (ZaN (Str.ofString "any")))) (ZD (Zak (Zd (ZaN (Str.ofString "any")) (Zd (Za 2) (Zd (Zg Zq (Za 8) (Zj 0)) (Zd (Zg Zq (Za 8) (Zj 1)) Zm)))))) ZX) (ZD (Zak (Zd (Za 4) (Zd (Za 2) (Zd (Za 3) (Zd (Za 5) Zm))))))))))))))))))
def Ze0:=Z9 2 ZnG
theorem Zq3: SimF false ZiS Ze0:=Zac (show S [] [] [] false ZnF ZnG from(ZA (ZU (O':=[]) (Zab Zag (Zl _) (ZI ZcA (Zf (Zc 0) (Zf (Zl _) (Zf (Zc 1) Zo)))))) (ZA (ZU (O':=[]) (ZI Zv4 (Zf (Zc 0) (Zf (Zl _) (Zf (Zc 1) Zo))))) (ZA (ZU (O':=[]) (Zy Zx (E.list (Zf (E.str _) (Zf (E.str _) (Zf (E.str _) (Zf (E.str _) (Zf (E.str _) (Zf (E.str _) (Zf (E.str _) Zo)))))))) (ZI ZcA (Zf (Zc 0) (Zf (Zl _) (Zf (Zl _) Zo)))))) (ZA (ZU (O':=[]) (Zab Zag (Zl _) (ZI ZcA (Zf (Zc 0) (Zf (Zl _) (Zf (Zl _) Zo)))))) (ZA (Z3 (ZN (ZC Zaq (ZI ZcA (Zf (Zc 0) (Zf (Zl _) (Zf (Zl _) Zo)))) (Zl _))) (ZU (O':=[]) (Zav ZyI (Zf (Zl _) (Zf (Zav Zee (Zf (ZI Zfx (Zf (Zc 0) (Zf (Zl _) Zo))) Zo)) Zo)))) Z6) (ZA (ZU (O':=[]) (ZI Zfx (Zf (Zc 0) (Zf (Zl _) Zo)))) (ZA (ZU (O':=[]) (E.list (Zf (E.tup (Zf (Z7) (Zf (Z7) Zo))) (Zf (E.tup (Zf (Zc 6) (Zf (Z7) Zo))) (Zf (E.tup (Zf (Z7) (Zf (Zc 6) Zo))) (Zf (E.tup (Zf (Zc 6) (Zf (Zab Zag (Zc 6) (ZI ZcA (Zf (Zc 0) (Zf (Zl _) (Zf (Zl _) Zo))))) Zo))) Zo)))))) (ZA (ZU (O':=[]) (Zy Zx (Zc 7) (ZI ZcA (Zf (Zc 0) (Zf (Zl _) (Zf (Zl _) Zo)))))) (ZA (Z3 (ZN (ZC Zaq (Zc 4) (E.str _))) (ZR (E.tup (Zf (E.str _) Zo))) Z6) (ZA (Z3 (ZN (ZC Zaq (Zc 4) (E.str _))) (ZR (E.tup (Zf (E.str _) (Zf (E.tup (Zf (E.str _) (Zf (Zc 3) (Zf (Zc 5) Zo)))) Zo)))) Z6) (ZA (Z3 (ZN (ZC Zaq (Zc 4) (E.str _))) (ZR (E.tup (Zf (E.str _) (Zf (Zc 2) (Zf (Zc 3) Zo))))) Z6) (ZA (Z3 (ZN (ZC Zaq (Zc 4) (E.str _))) (ZR (E.tup (Zf (E.str _) (Zf (Zc 2) (Zf (Zy Zx (Zc 8) (Zl _)) (Zf (Zy Zx (Zc 8) (Zl _)) Zo)))))) Z6) (ZR (E.tup (Zf (Zc 4) (Zf (Zc 2) (Zf (Zc 3) (Zf (Zc 5) Zo)))))))))))))))))))
def ZlE: Sm:=Zu (ZW (ZK (Zh oIs (Zb 0) (ZY))) (ZE (ZY)) Z0) (ZE (Zh oDiv (Zb 0) (Zb 1)))
def Zif:=Z5 2 ZlE
def ZlF: PS:=(Zt (ZT (ZG (Zg qIs (Za 0) (ZV))) (ZD (ZV)) ZX) (ZD (Zg ZbU (Za 0) (Za 1))))
def Zeo:=Z9 2 ZlF
theorem Zp4: SimF false Zif Zeo:=Zac (show S [] [] [] false ZlE ZlF from(ZA (Z3 (ZN (ZC Za6 (Zc 0) (Z7))) (ZR (Z7)) Z6) (ZR (ZC Zcy (Zc 0) (Zc 1)))))
def Zk7: Sm:=Zu (ZL 2 (Zs ZgC (Ze (Zb 0) (Ze (Zaw (Zbm (Zh Zr (Zb 1) (Zk 2))) (put1 100) Zao (eUn ZbJ (Zb 100))) Zn)))) (Zu (ZL 3 (Zs ZgC (Ze (Zb 0) (Ze (Zh Zr (Zb 1) (Zk 2)) Zn)))) (Zu (ZL 4 (Zs Zh0 (Ze (Zh Zr (Zb 1) (Zk 2)) (Ze (Zh Zr (Zb 0) (Zk 1)) Zn)))) (Zu (ZL 5 (Zh Zr (Zb 1) (Zk 3))) (Zu (ZW (ZK (Zh ZbN (Zb 2) (ZY))) (ZL 2 (eUn ZbJ (Zb 2))) Z0) (Zu (ZW (ZK (Zh oEq (Zh Zr (Zb 1) (Zk 0)) (Za4 (Str.ofString "part")))) (Zu (ZW (ZK (Zh oEq (Zh oMod (Zh Zr (Zb 4) (Zk 0)) (Zb 5)) (Zk 0))) (ZL 4 (Zal (Ze (Zh oDiv (Zh Zr (Zb 4) (Zk 0)) (Zb 5)) (Ze (Zh oDiv (Zh Zr (Zb 4) (Zk 1)) (Zb 5)) Zn)))) (ZL 4 (Zal (Ze (Zk 1) (Ze (Zk 0) Zn))))) (ZE (Zs ZfG (Ze (Zb 0) (Ze (Zh Zr (Zb 1) (Zk 1)) (Ze (Zal (Ze (Zs Zif (Ze (Zb 2) (Ze (Zb 5) Zn))) (Ze (Zs Zif (Ze (Zb 3) (Ze (Zb 5) Zn))) Zn))) (Ze (Zb 4) Zn))))))) Z0) (Zu (ZL 6 (Zs Zg8 (Ze (Zh Zr (Zb 4) (Zk 0)) (Ze (Zb 5) Zn)))) (Zu (ZL 4 (Zs Zek (Ze (Zh oMod (Zb 6) (Zb 5)) (Ze (Zh oMod (Zh Zr (Zb 4) (Zk 1)) (Zb 6)) Zn)))) (Zu (ZW (tOr (ZK (Zh oIs (Zb 2) (ZY))) (tOr (ZK (Zh oIs (Zb 3) (ZY))) (tOr (ZK (Zh oNe (Zh oDiv (Zb 2) (Zb 5)) (Zh oDiv (Zb 3) (Zb 5)))) Zb0))) (ZE (Zs ZfG (Ze (Zb 0) (Ze (Zh Zr (Zb 1) (Zk 1)) (Ze (Zal (Ze (Zk 0) (Ze (Zh Zbe (Zb 5) (Zk 1)) Zn))) (Ze (Zb 4) Zn)))))) Z0) (ZE (Zs ZfG (Ze (Zb 0) (Ze (Zh Zr (Zb 1) (Zk 1)) (Ze (Zal (Ze (Zh oMod (Zb 2) (Zb 5)) (Ze (Zh oMod (Zb 3) (Zb 5)) Zn))) (Ze (Zb 4) Zn))))))))))))))
def Zk8:=Z5 2 Zk7
def Zh9: PS:=(Zt (ZM 2 (Zv ZdG (Zd (Za 0) (Zd (Zan (ZaI (Zg Zq (Za 1) (Zj 2))) (Zae 100) Zai (pUn ZbB (Za 100))) Zm)))) (Zt (ZM 3 (Zv ZdG (Zd (Za 0) (Zd (Zg Zq (Za 1) (Zj 2)) Zm)))) (Zt (ZM 4 (Zv ZeO (Zd (Zg Zq (Za 1) (Zj 2)) (Zd (Zg Zq (Za 0) (Zj 1)) Zm)))) (Zt (ZM 5 (Zg Zq (Za 1) (Zj 3))) (Zt (ZT (ZG (Zg Zbz (Za 2) (ZV))) (ZM 2 (pUn ZbB (Za 2))) ZX) (Zt (ZT (ZG (Zg qEq (Zg Zq (Za 1) (Zj 0)) (ZaN (Str.ofString "part")))) (Zt (ZT (ZG (Zg qEq (Zg ZaV (Zg Zq (Za 4) (Zj 0)) (Za 5)) (Zj 0))) (ZM 4 (Zak (Zd (Zg ZbU (Zg Zq (Za 4) (Zj 0)) (Za 5)) (Zd (Zg ZbU (Zg Zq (Za 4) (Zj 1)) (Za 5)) Zm)))) (ZM 4 (Zak (Zd (Zj 1) (Zd (Zj 0) Zm))))) (ZD (Zv Zds (Zd (Za 0) (Zd (Zg Zq (Za 1) (Zj 1)) (Zd (Zak (Zd (Zv Zeo (Zd (Za 2) (Zd (Za 5) Zm))) (Zd (Zv Zeo (Zd (Za 3) (Zd (Za 5) Zm))) Zm))) (Zd (Za 4) Zm))))))) ZX) (Zt (ZM 6 (Zv ZfR (Zd (Zg Zq (Za 4) (Zj 0)) (Zd (Za 5) Zm)))) (Zt (ZM 4 (Zv ZdR (Zd (Zg ZaV (Za 6) (Za 5)) (Zd (Zg ZaV (Zg Zq (Za 4) (Zj 1)) (Za 6)) Zm)))) (Zt (ZT (bOr (ZG (Zg qIs (Za 2) (ZV))) (bOr (ZG (Zg qIs (Za 3) (ZV))) (bOr (ZG (Zg qNe (Zg ZbU (Za 2) (Za 5)) (Zg ZbU (Za 3) (Za 5)))) Zb3))) (ZD (Zv Zds (Zd (Za 0) (Zd (Zg Zq (Za 1) (Zj 1)) (Zd (Zak (Zd (Zj 0) (Zd (Zg Za0 (Za 5) (Zj 1)) Zm))) (Zd (Za 4) Zm)))))) ZX) (ZD (Zv Zds (Zd (Za 0) (Zd (Zg Zq (Za 1) (Zj 1)) (Zd (Zak (Zd (Zg ZaV (Za 2) (Za 5)) (Zd (Zg ZaV (Za 3) (Za 5)) Zm))) (Zd (Za 4) Zm)))))))))))))))
def Zem:=Z9 2 Zh9
theorem ZtP: SimF false Zk8 Zem:=Zac (show S [] [] [] false Zk7 Zh9 from(ZA (ZU (O':=[]) (ZI Zky (Zf (Zc 0) (Zf (ZbF (Gs.seq (Zy Zx (Zc 1) (Zl _))) PutOk.one (by decide) Zax (Zb5 Zb6 (Zc 100))) Zo)))) (ZA (ZU (O':=[]) (ZI Zky (Zf (Zc 0) (Zf (Zy Zx (Zc 1) (Zl _)) Zo)))) (ZA (ZU (O':=[]) (ZI ZpH (Zf (Zy Zx (Zc 1) (Zl _)) (Zf (Zy Zx (Zc 0) (Zl _)) Zo)))) (ZA (ZU (O':=[]) (Zy Zx (Zc 1) (Zl _))) (ZA (Z3 (ZN (ZC Zcf (Zc 2) (Z7))) (ZU (O':=[]) (Zb5 Zb6 (Zc 2))) Z6) (ZA (Z3 (ZN (ZC Zaq (Zy Zx (Zc 1) (Zl _)) (E.str _))) (ZA (Z3 (ZN (ZC Zaq (ZC Za9 (Zy Zx (Zc 4) (Zl _)) (Zc 5)) (Zl _))) (ZU (O':=[]) (E.tup (Zf (ZC Zcy (Zy Zx (Zc 4) (Zl _)) (Zc 5)) (Zf (ZC Zcy (Zy Zx (Zc 4) (Zl _)) (Zc 5)) Zo)))) (ZU (O':=[]) (E.tup (Zf (Zl _) (Zf (Zl _) Zo))))) (ZR (ZI Ziy (Zf (Zc 0) (Zf (Zy Zx (Zc 1) (Zl _)) (Zf (E.tup (Zf (ZI Zp4 (Zf (Zc 2) (Zf (Zc 5) Zo))) (Zf (ZI Zp4 (Zf (Zc 3) (Zf (Zc 5) Zo))) Zo))) (Zf (Zc 4) Zo))))))) Z6) (ZA (ZU (O':=[]) (ZI Zni (Zf (Zy Zx (Zc 4) (Zl _)) (Zf (Zc 5) Zo)))) (ZA (ZU (O':=[]) (ZI Zfs (Zf (ZC Za9 (Zc 6) (Zc 5)) (Zf (ZC Za9 (Zy Zx (Zc 4) (Zl _)) (Zc 6)) Zo)))) (ZA (Z3 (ZaY (ZN (ZC Za6 (Zc 2) (Z7))) (ZaY (ZN (ZC Za6 (Zc 3) (Z7))) (ZaY (ZN (ZC ZbV (ZC Zcy (Zc 2) (Zc 5)) (ZC Zcy (Zc 3) (Zc 5)))) Zcu))) (ZR (ZI Ziy (Zf (Zc 0) (Zf (Zy Zx (Zc 1) (Zl _)) (Zf (E.tup (Zf (Zl _) (Zf (ZC Zbi (Zc 5) (Zl _)) Zo))) (Zf (Zc 4) Zo)))))) Z6) (ZR (ZI Ziy (Zf (Zc 0) (Zf (Zy Zx (Zc 1) (Zl _)) (Zf (E.tup (Zf (ZC Za9 (Zc 2) (Zc 5)) (Zf (ZC Za9 (Zc 3) (Zc 5)) Zo))) (Zf (Zc 4) Zo))))))))))))))))
def Zk9: Sm:=Zu (ZL 0 (Zs ZgQ (Ze (Zb 0) Zn))) (Zu (ZW (ZK (Zh oIs (Zb 0) (ZY))) (ZE (ZY)) Z0) (Zu (ZW (ZK (Zh oEq (Zh Zr (Zb 1) (Zk 0)) (Za4 (Str.ofString "set")))) (Zu (ZL 2 (Zs ZkF (Ze (Zs ZaF (Ze (Zh Zr (Zb 0) (Zk 1)) Zn)) Zn))) (Zu (Zbl (Zh Zr (Zb 1) (Zk 2)) (Zb 2) (Zh Zbe (Zh Zr (Zb 1) (Zk 1)) (Zk 1))) (ZE (Zs Zlw (Ze (Zb 0) (Ze (Zb 2) Zn)))))) Z0) (Zu (ZW (tOr (ZK (Zh oEq (Zh Zr (Zb 1) (Zk 0)) (Za4 (Str.ofString "part")))) (tOr (ZK (Zh oEq (Zh Zr (Zb 1) (Zk 0)) (Za4 (Str.ofString "rest")))) Zb0)) (ZE (Zs Zk8 (Ze (Zb 0) (Ze (Zb 1) Zn)))) Z0) (Zu (ZW (ZK (Zh oEq (Zh Zr (Zb 1) (Zk 0)) (Za4 (Str.ofString "any")))) (ZE (Zs ZfG (Ze (Zb 0) (Ze (Zh Zr (Zb 1) (Zk 1)) (Ze (Zal (Ze (Zh Zr (Zb 1) (Zk 2)) (Ze (Zh Zr (Zb 1) (Zk 3)) Zn))) (Ze (Zal (Ze (Zk 1) (Ze (Zk 0) Zn))) Zn)))))) Z0) (ZE (Zb 0))))))
def Zla:=Z5 2 Zk9
def ZdT: PS:=(Zt (ZM 0 (Zv Zcd (Zd (Za 0) Zm))) (Zt (ZT (ZG (Zg qIs (Za 0) (ZV))) (ZD (ZV)) ZX) (Zt (ZT (ZG (Zg qEq (Zg Zq (Za 1) (Zj 0)) (ZaN (Str.ofString "set")))) (Zt (Zjd 2 (Zv Zh1 (Zd (Zv Zat (Zd (Zg Zq (Za 0) (Zj 1)) Zm)) Zm)) (Zg Zq (Za 1) (Zj 2)) (Zg Za0 (Zg Zq (Za 1) (Zj 1)) (Zj 1))) (ZD (Zv ZeP (Zd (Za 0) (Zd (Za 2) Zm))))) ZX) (Zt (ZT (bOr (ZG (Zg qEq (Zg Zq (Za 1) (Zj 0)) (ZaN (Str.ofString "part")))) (bOr (ZG (Zg qEq (Zg Zq (Za 1) (Zj 0)) (ZaN (Str.ofString "rest")))) Zb3)) (ZD (Zv Zem (Zd (Za 0) (Zd (Za 1) Zm)))) ZX) (Zt (ZT (ZG (Zg qEq (Zg Zq (Za 1) (Zj 0)) (ZaN (Str.ofString "any")))) (ZD (Zv Zds (Zd (Za 0) (Zd (Zg Zq (Za 1) (Zj 1)) (Zd (Zak (Zd (Zg Zq (Za 1) (Zj 2)) (Zd (Zg Zq (Za 1) (Zj 3)) Zm))) (Zd (Zak (Zd (Zj 1) (Zd (Zj 0) Zm))) Zm)))))) ZX) (ZD (Za 0)))))))
def Zcl:=Z9 2 ZdT
theorem ZtQ: SimF false Zla Zcl:=Zac (show S [] [] [] false Zk9 ZdT from(ZA (ZU (O':=[]) (ZI Zl3 (Zf (Zc 0) Zo))) (ZA (Z3 (ZN (ZC Za6 (Zc 0) (Z7))) (ZR (Z7)) Z6) (ZA (Z3 (ZN (ZC Zaq (Zy Zx (Zc 1) (Zl _)) (E.str _))) (ZzM (ZA (Zw0 (O1:=[]) (EN.own (ZaM Zto (Zf (Zav ZaO (Zf (Zy Zx (Zc 0) (Zl _)) Zo)) Zo))) (Zy Zx (Zc 1) (Zl _)) (ZC Zbi (Zy Zx (Zc 1) (Zl _)) (Zl _)) (by decide) (by decide) (by decide) (by decide)) (ZR (ZI Zud (Zf (Zc 0) (Zf (Zc 2) Zo)))))) Z6) (ZA (Z3 (ZaY (ZN (ZC Zaq (Zy Zx (Zc 1) (Zl _)) (E.str _))) (ZaY (ZN (ZC Zaq (Zy Zx (Zc 1) (Zl _)) (E.str _))) Zcu)) (ZR (ZI ZtP (Zf (Zc 0) (Zf (Zc 1) Zo)))) Z6) (ZA (Z3 (ZN (ZC Zaq (Zy Zx (Zc 1) (Zl _)) (E.str _))) (ZR (ZI Ziy (Zf (Zc 0) (Zf (Zy Zx (Zc 1) (Zl _)) (Zf (E.tup (Zf (Zy Zx (Zc 1) (Zl _)) (Zf (Zy Zx (Zc 1) (Zl _)) Zo))) (Zf (E.tup (Zf (Zl _) (Zf (Zl _) Zo))) Zo)))))) Z6) (ZR (Zc 0))))))))
def Zj0: Sm:=ZE (Zal (Ze (Zs Zfz (Ze (Zh Zr (Zb 0) (Zk 0)) (Ze (Zb 1) Zn))) (Ze (Zs Zfz (Ze (Zh Zr (Zb 0) (Zk 1)) (Ze (Zb 1) Zn))) Zn)))
def ZhR:=Z5 2 Zj0
def Zj1: PS:=(ZD (Zak (Zd (Zv ZeQ (Zd (Zg Zq (Za 0) (Zj 0)) (Zd (Za 1) Zm))) (Zd (Zv ZeQ (Zd (Zg Zq (Za 0) (Zj 1)) (Zd (Za 1) Zm))) Zm))))
def Zfr:=Z9 2 Zj1
theorem Zpu: SimF false ZhR Zfr:=Zac (show S [] [] [] false Zj0 Zj1 from(ZR (E.tup (Zf (ZI Zie (Zf (Zy Zx (Zc 0) (Zl _)) (Zf (Zc 1) Zo))) (Zf (ZI Zie (Zf (Zy Zx (Zc 0) (Zl _)) (Zf (Zc 1) Zo))) Zo)))))
def Zj2: Sm:=Zu (ZL 2 (Zs ZhR (Ze (Zb 0) (Ze (Zb 1) Zn)))) (Zu (ZW (Za5 (ZK (Zh ZbN (Zh Zr (Zb 2) (Zk 0)) (ZY))) (Za5 (ZK (Zh oEq (Zh Zr (Zb 2) (Zk 0)) (Zh Zr (Zb 2) (Zk 1)))) Zao)) (ZE (Zal (Ze (Zh oMod (Zh Zr (Zb 0) (Zk 0)) (Zb 1)) (Ze (Zh oMod (Zh Zr (Zb 0) (Zk 1)) (Zb 1)) Zn)))) Z0) (ZE (Zal (Ze (Zk 0) (Ze (Zh Zbe (Zb 1) (Zk 1)) Zn)))))
def Zj3:=Z5 2 Zj2
def Zj4: PS:=(Zt (ZM 2 (Zv Zfr (Zd (Za 0) (Zd (Za 1) Zm)))) (Zt (ZT (ZaU (ZG (Zg Zbz (Zg Zq (Za 2) (Zj 0)) (ZV))) (ZaU (ZG (Zg qEq (Zg Zq (Za 2) (Zj 0)) (Zg Zq (Za 2) (Zj 1)))) Zai)) (ZD (Zak (Zd (Zg ZaV (Zg Zq (Za 0) (Zj 0)) (Za 1)) (Zd (Zg ZaV (Zg Zq (Za 0) (Zj 1)) (Za 1)) Zm)))) ZX) (ZD (Zak (Zd (Zj 0) (Zd (Zg Za0 (Za 1) (Zj 1)) Zm))))))
def Zgz:=Z9 2 Zj4
theorem Zs0: SimF false Zj3 Zgz:=Zac (show S [] [] [] false Zj2 Zj4 from(ZA (ZU (O':=[]) (ZI Zpu (Zf (Zc 0) (Zf (Zc 1) Zo)))) (ZA (Z3 (Zbh (ZN (ZC Zcf (Zy Zx (Zc 2) (Zl _)) (Z7))) (Zbh (ZN (ZC Zaq (Zy Zx (Zc 2) (Zl _)) (Zy Zx (Zc 2) (Zl _)))) Zax)) (ZR (E.tup (Zf (ZC Za9 (Zy Zx (Zc 0) (Zl _)) (Zc 1)) (Zf (ZC Za9 (Zy Zx (Zc 0) (Zl _)) (Zc 1)) Zo)))) Z6) (ZR (E.tup (Zf (Zl _) (Zf (ZC Zbi (Zc 1) (Zl _)) Zo)))))))
def Zlb: Sm:=Zu (ZL 2 (Zs ZfS (Ze (Zh Zr (Zb 0) (Zk 0)) (Ze (Zb 1) Zn)))) (Zu (ZW (ZK (Zh oEq (Zb 2) (Zb 1))) (ZE (Zal (Ze (Zk 0) (Ze (Zh oMod (Zh Zr (Zb 0) (Zk 1)) (Zb 1)) Zn)))) Z0) (ZE (Zs ZeA (Ze (Zb 2) (Ze (Zh Zr (Zb 0) (Zk 1)) Zn)))))
def Zlc:=Z5 2 Zlb
def Zld: PS:=(Zt (ZM 2 (Zv ZeX (Zd (Zg Zq (Za 0) (Zj 0)) (Zd (Za 1) Zm)))) (Zt (ZT (ZG (Zg qEq (Za 2) (Za 1))) (ZD (Zak (Zd (Zj 0) (Zd (Zg ZaV (Zg Zq (Za 0) (Zj 1)) (Za 1)) Zm)))) ZX) (ZD (Zv Zd9 (Zd (Za 2) (Zd (Zg Zq (Za 0) (Zj 1)) Zm))))))
def ZgF:=Z9 2 Zld
theorem ZtR: SimF false Zlc ZgF:=Zac (show S [] [] [] false Zlb Zld from(ZA (ZU (O':=[]) (ZI ZiM (Zf (Zy Zx (Zc 0) (Zl _)) (Zf (Zc 1) Zo)))) (ZA (Z3 (ZN (ZC Zaq (Zc 2) (Zc 1))) (ZR (E.tup (Zf (Zl _) (Zf (ZC Za9 (Zy Zx (Zc 0) (Zl _)) (Zc 1)) Zo)))) Z6) (ZR (ZI Zgi (Zf (Zc 2) (Zf (Zy Zx (Zc 0) (Zl _)) Zo)))))))
def Zle: Sm:=Zu (ZW (ZK (Zh oEq (Zh oMod (Zh Zr (Zb 0) (Zk 0)) (Zb 1)) (Zk 0))) (ZE (Zs ZeA (Ze (Zh oDiv (Zh Zr (Zb 0) (Zk 0)) (Zb 1)) (Ze (Zh oDiv (Zh Zr (Zb 0) (Zk 1)) (Zb 1)) Zn)))) Z0) (ZE (Zal (Ze (Zk 1) (Ze (Zk 0) Zn))))
def Zlf:=Z5 2 Zle
def Zlg: PS:=(Zt (ZT (ZG (Zg qEq (Zg ZaV (Zg Zq (Za 0) (Zj 0)) (Za 1)) (Zj 0))) (ZD (Zv Zd9 (Zd (Zg ZbU (Zg Zq (Za 0) (Zj 0)) (Za 1)) (Zd (Zg ZbU (Zg Zq (Za 0) (Zj 1)) (Za 1)) Zm)))) ZX) (ZD (Zak (Zd (Zj 1) (Zd (Zj 0) Zm)))))
def ZgG:=Z9 2 Zlg
theorem ZtS: SimF false Zlf ZgG:=Zac (show S [] [] [] false Zle Zlg from(ZA (Z3 (ZN (ZC Zaq (ZC Za9 (Zy Zx (Zc 0) (Zl _)) (Zc 1)) (Zl _))) (ZR (ZI Zgi (Zf (ZC Zcy (Zy Zx (Zc 0) (Zl _)) (Zc 1)) (Zf (ZC Zcy (Zy Zx (Zc 0) (Zl _)) (Zc 1)) Zo)))) Z6) (ZR (E.tup (Zf (Zl _) (Zf (Zl _) Zo))))))
def ZnH: Sm:=Zu (ZW (ZK (Zh oEq (Zh Zr (Zb 1) (Zk 0)) (Za4 (Str.ofString "set")))) (Zu (ZL 2 (Zs ZaF (Ze (Zh Zr (Zb 0) (Zk 1)) Zn))) (ZE (Zs Zhg (Ze (Zb 0) (Ze (Zs Zff (Ze (Zs Zg1 (Ze (Zb 2) (Ze (Zb 2) Zn))) (Ze (Zh Zr (Zb 1) (Zk 1)) (Ze (Zh Zr (Zb 1) (Zk 2)) Zn)))) Zn))))) Z0) (Zu (ZW (ZK (Zh oEq (Zh Zr (Zb 1) (Zk 0)) (Za4 (Str.ofString "any")))) (ZE (Zs ZhD (Ze (Zb 0) (Ze (Zh Zr (Zb 1) (Zk 1)) (Ze (Zal (Ze (Zh Zr (Zb 1) (Zk 2)) (Ze (Zh Zr (Zb 1) (Zk 3)) Zn))) (Ze (Zal (Ze (Zk 1) (Ze (Zk 0) Zn))) Zn)))))) Z0) (Zu (ZL 3 (Zal (Ze (Zs Zjg (Ze (Zb 0) (Ze (Zh Zr (Zb 1) (Zk 2)) Zn))) (Ze (Zs ZeV (Ze (Zb 0) (Ze (Zh Zr (Zb 1) (Zk 2)) Zn))) Zn)))) (Zu (ZL 4 (Zs Zet (Ze (Zh Zr (Zb 1) (Zk 2)) (Ze (Zh Zr (Zb 0) (Zk 1)) Zn)))) (Zu (ZW (ZK (Zh oEq (Zh Zr (Zb 1) (Zk 0)) (Za4 (Str.ofString "part")))) (ZE (Zs ZhD (Ze (Zb 0) (Ze (Zh Zr (Zb 1) (Zk 1)) (Ze (Zs ZhR (Ze (Zb 3) (Ze (Zh Zr (Zb 1) (Zk 3)) Zn))) (Ze (Zs Zlf (Ze (Zb 4) (Ze (Zh Zr (Zb 1) (Zk 3)) Zn))) Zn)))))) Z0) (ZE (Zs ZhD (Ze (Zb 0) (Ze (Zh Zr (Zb 1) (Zk 1)) (Ze (Zs Zj3 (Ze (Zb 3) (Ze (Zh Zr (Zb 1) (Zk 3)) Zn))) (Ze (Zs Zlc (Ze (Zb 4) (Ze (Zh Zr (Zb 1) (Zk 3)) Zn))) Zn))))))))))
def ZnI:=Z5 2 ZnH
def Zha: PS:=(Zt (ZT (ZG (Zg qEq (Zg Zq (Za 1) (Zj 0)) (ZaN (Str.ofString "set")))) (Zt (ZM 2 (Zv Zat (Zd (Zg Zq (Za 0) (Zj 1)) Zm))) (ZD (Zv Zd3 (Zd (Za 0) (Zd (Zv Ze7 (Zd (Zv ZfJ (Zd (Za 2) (Zd (Za 2) Zm))) (Zd (Zg Zq (Za 1) (Zj 1)) (Zd (Zg Zq (Za 1) (Zj 2)) Zm)))) Zm))))) ZX) (Zt (ZT (ZG (Zg qEq (Zg Zq (Za 1) (Zj 0)) (ZaN (Str.ofString "any")))) (ZD (Zv Zea (Zd (Za 0) (Zd (Zg Zq (Za 1) (Zj 1)) (Zd (Zak (Zd (Zg Zq (Za 1) (Zj 2)) (Zd (Zg Zq (Za 1) (Zj 3)) Zm))) (Zd (Zak (Zd (Zj 1) (Zd (Zj 0) Zm))) Zm)))))) ZX) (Zt (ZM 3 (Zak (Zd (Zv Zgd (Zd (Za 0) (Zd (Zg Zq (Za 1) (Zj 2)) Zm))) (Zd (Zv ZdY (Zd (Za 0) (Zd (Zg Zq (Za 1) (Zj 2)) Zm))) Zm)))) (Zt (ZM 4 (Zv ZdI (Zd (Zg Zq (Za 1) (Zj 2)) (Zd (Zg Zq (Za 0) (Zj 1)) Zm)))) (Zt (ZT (ZG (Zg qEq (Zg Zq (Za 1) (Zj 0)) (ZaN (Str.ofString "part")))) (ZD (Zv Zea (Zd (Za 0) (Zd (Zg Zq (Za 1) (Zj 1)) (Zd (Zv Zfr (Zd (Za 3) (Zd (Zg Zq (Za 1) (Zj 3)) Zm))) (Zd (Zv ZgG (Zd (Za 4) (Zd (Zg Zq (Za 1) (Zj 3)) Zm))) Zm)))))) ZX) (ZD (Zv Zea (Zd (Za 0) (Zd (Zg Zq (Za 1) (Zj 1)) (Zd (Zv Zgz (Zd (Za 3) (Zd (Zg Zq (Za 1) (Zj 3)) Zm))) (Zd (Zv ZgF (Zd (Za 4) (Zd (Zg Zq (Za 1) (Zj 3)) Zm))) Zm)))))))))))
def Zda:=Z9 2 Zha
theorem Zv5: SimF true ZnI Zda:=Zac (show S [] [] [] true ZnH Zha from(ZA (Z3 (ZN (ZC Zaq (Zy Zx (Zc 1) (Zl _)) (E.str _))) (ZA (ZU (O':=[]) (Zav ZaO (Zf (Zy Zx (Zc 0) (Zl _)) Zo))) (Zas (ZaM Zoc (Zf (Zc 0) (Zf (ZI Zr3 (Zf (ZI Zm4 (Zf (Zc 2) (Zf (Zc 2) Zo))) (Zf (Zy Zx (Zc 1) (Zl _)) (Zf (Zy Zx (Zc 1) (Zl _)) Zo)))) Zo))))) Z6) (ZA (Z3 (ZN (ZC Zaq (Zy Zx (Zc 1) (Zl _)) (E.str _))) (Zas (ZaM Zo2 (Zf (Zc 0) (Zf (Zy Zx (Zc 1) (Zl _)) (Zf (E.tup (Zf (Zy Zx (Zc 1) (Zl _)) (Zf (Zy Zx (Zc 1) (Zl _)) Zo))) (Zf (E.tup (Zf (Zl _) (Zf (Zl _) Zo))) Zo)))))) Z6) (ZA (ZU (O':=[]) (E.tup (Zf (ZI Zr2 (Zf (Zc 0) (Zf (Zy Zx (Zc 1) (Zl _)) Zo))) (Zf (ZI Zg0 (Zf (Zc 0) (Zf (Zy Zx (Zc 1) (Zl _)) Zo))) Zo)))) (ZA (ZU (O':=[]) (ZI ZfF (Zf (Zy Zx (Zc 1) (Zl _)) (Zf (Zy Zx (Zc 0) (Zl _)) Zo)))) (ZA (Z3 (ZN (ZC Zaq (Zy Zx (Zc 1) (Zl _)) (E.str _))) (Zas (ZaM Zo2 (Zf (Zc 0) (Zf (Zy Zx (Zc 1) (Zl _)) (Zf (ZI Zpu (Zf (Zc 3) (Zf (Zy Zx (Zc 1) (Zl _)) Zo))) (Zf (ZI ZtS (Zf (Zc 4) (Zf (Zy Zx (Zc 1) (Zl _)) Zo))) Zo)))))) Z6) (Zas (ZaM Zo2 (Zf (Zc 0) (Zf (Zy Zx (Zc 1) (Zl _)) (Zf (ZI Zs0 (Zf (Zc 3) (Zf (Zy Zx (Zc 1) (Zl _)) Zo))) (Zf (ZI ZtR (Zf (Zc 4) (Zf (Zy Zx (Zc 1) (Zl _)) Zo))) Zo))))))))))))
def ZnJ: Sm:=Zu (ZL 3 (Zs Zd5 (Ze (Zb 0) Zn))) (Zu (ZW (tOr (ZK (Zh oIs (Zb 3) (ZY))) (tOr (ZK (Zh oIn (Zh Zr (Zb 1) (Zk 0)) (Zal (Ze (Za4 (Str.ofString "go")) (Ze (Za4 (Str.ofString "say")) Zn))))) Zb0)) (ZE (Zb 3)) Z0) (Zu (ZW (ZK (Zh oEq (Zh Zr (Zb 1) (Zk 0)) (Za4 (Str.ofString "when")))) (ZE (Zs Zo4 (Ze (Zb 3) (Ze (Zh Zr (Zb 1) (Zk 1)) (Ze (Zh Zr (Zb 1) (Zk 2)) Zn))))) Z0) (Zu (ZW (ZK (Zh oEq (Zh Zr (Zb 1) (Zk 0)) (Za4 (Str.ofString "call")))) (ZE (Zs Zm6 (Ze (Zb 3) (Ze (Zh Zr (Zb 1) (Zk 1)) (Ze (Zh Zr (Zb 1) (Zk 3)) (Ze (Zh Zr (Zb 2) (Zh Zr (Zb 1) (Zk 2))) Zn)))))) Z0) (ZE (Zs ZnI (Ze (Zb 3) (Ze (Zb 1) Zn)))))))
def ZnK:=Z5 3 ZnJ
def Zd0: PS:=(Zt (ZM 3 (Zv ZbE (Zd (Za 0) Zm))) (Zt (ZT (bOr (ZG (Zg qIs (Za 3) (ZV))) (bOr (ZG (Zg qIn (Zg Zq (Za 1) (Zj 0)) (Zak (Zd (ZaN (Str.ofString "go")) (Zd (ZaN (Str.ofString "say")) Zm))))) Zb3)) (ZD (Za 3)) ZX) (Zt (ZT (ZG (Zg qEq (Zg Zq (Za 1) (Zj 0)) (ZaN (Str.ofString "when")))) (ZD (Zv Zsz (Zd (Za 3) (Zd (Zg Zq (Za 1) (Zj 1)) (Zd (Zg Zq (Za 1) (Zj 2)) Zm))))) ZX) (Zt (ZT (ZG (Zg qEq (Zg Zq (Za 1) (Zj 0)) (ZaN (Str.ofString "call")))) (ZD (Zv ZqG (Zd (Za 3) (Zd (Zg Zq (Za 1) (Zj 1)) (Zd (Zg Zq (Za 1) (Zj 3)) (Zd (Zg Zq (Za 2) (Zg Zq (Za 1) (Zj 2))) Zm)))))) ZX) (ZD (Zv Zda (Zd (Za 3) (Zd (Za 1) Zm))))))))
def ZbZ:=Z9 3 Zd0
theorem Zv6: SimF true ZnK ZbZ:=Zac (show S [] [3] [] true ZnJ Zd0 from(ZA (ZbG (O':=[3]) (ZaM Ze6 (Zf (Zc 0) Zo))) (ZA (Z3 (ZaY (ZN (ZC Za6 (Zc 3) (Z7))) (ZaY (ZN (ZC ZeL (Zy Zx (Zc 1) (Zl _)) (E.tup (Zf (E.str _) (Zf (E.str _) Zo))))) Zcu)) (Zas (E.own (by decide))) Z6) (ZA (Z3 (ZN (ZC Zaq (Zy Zx (Zc 1) (Zl _)) (E.str _))) (Zas (ZaM Zzg (Zf (Zc 3) (Zf (Zy Zx (Zc 1) (Zl _)) (Zf (Zy Zx (Zc 1) (Zl _)) Zo))))) Z6) (ZA (Z3 (ZN (ZC Zaq (Zy Zx (Zc 1) (Zl _)) (E.str _))) (Zas (ZaM Zvc (Zf (Zc 3) (Zf (Zy Zx (Zc 1) (Zl _)) (Zf (Zy Zx (Zc 1) (Zl _)) (Zf (Zy Zx (Zc 2) (Zy Zx (Zc 1) (Zl _))) Zo)))))) Z6) (Zas (ZaM Zv5 (Zf (Zc 3) (Zf (Zc 1) Zo)))))))))
def ZkH: Sm:=Zu (ZW (ZK (Zh oIs (Zb 1) (ZY))) (ZE (Zh oIs (Zb 0) (ZY))) Z0) (ZE (ZdD (Zs Zl5 (Ze (Zb 0) (Ze (Zs ZaF (Ze (Zh Zr (Zb 1) (Zk 1)) Zn)) Zn))) (Zh oEq (Zb 0) (Zb 1))))
def ZkI:=Z5 2 ZkH
def ZpI: PS:=(Zt (ZT (ZG (Zg qIs (Za 1) (ZV))) (ZD (Zg qIs (Za 0) (ZV))) ZX) (ZD ((ZdE (Zv ZgR (Zd (Za 0) (Zd (Zv Zat (Zd (Zg Zq (Za 1) (Zj 1)) Zm)) Zm))) (Zg qEq (Za 0) (Za 1))))))
def Zh2:=Z9 2 ZpI
theorem Ztp: SimF false ZkI Zh2:=Zac (show S [] [] [] false ZkH ZpI from(ZA (Z3 (ZN (ZC Za6 (Zc 1) (Z7))) (ZR (ZC Za6 (Zc 0) (Z7))) Z6) (ZR ((Zgq (E.sh (ZI ZuB (Zf (Zc 0) (Zf (Zav ZaO (Zf (Zy Zx (Zc 1) (Zl _)) Zo)) Zo)))) (E.sh (ZC Zaq (Zc 0) (Zc 1))))))))
def Zod: Sm:=Zu (ZL 1 (Zh Zr (Zbc (Ze (Zk 1) (Ze (Zk 2) (Ze (Zk 1) (Ze (Zk 2) (Ze (Zk 1) (Ze (Zk 2) (Ze (Zk 1) (Ze (Zk 2) (Ze (Zk 3) Zn)))))))))) (Zs Zcm (Ze (Zb 0) (Ze (Zk 0) (Ze (Zk 9) Zn)))))) (Zu (ZL 2 (Zaw (ZaL (Ze (Zb 1) Zn)) (put1 100) Zao (Zs Zen (Ze (Zb 0) (Ze (Zh Zaf (Zk 2) (Zb 100)) Zn))))) (Zu (ZL 3 (Zs Zms (Ze (Zb 0) (Ze (Zk 14) (Ze (Zb 2) Zn))))) (Zu (ZL 4 (Zs ZiS (Ze (Zb 0) (Ze (Zb 1) Zn)))) (Zu (ZW (ZK (Zh oEq (Zs Zcm (Ze (Zb 0) (Ze (Zk 1) (Ze (Zk 11) Zn)))) (Zk 4))) (ZL 3 (ZY)) Z0) (Zu (ZL 5 (Zs Zmv (Ze (Zb 3) Zn))) (Zu (ZL 6 (Zs Zla (Ze (Zb 5) (Ze (Zb 4) Zn)))) (Zu (ZaK (ZaL (Ze (Zk 2) Zn)) (put1 7) (Zu (ZL 8 (Zs ZnK (Ze (Zb 3) (Ze (Zb 4) (Ze (Zbc Zn) Zn))))) (Zu (ZW (tOr (ZcE (ZK (Zs ZkI (Ze (Zb 8) (Ze (Zb 6) Zn))))) (tOr (ZK (Zh oNe (Zb 4) (Zs ZiS (Ze (Zb 0) (Ze (Zb 1) Zn))))) Zb0)) (ZE (Zco false)) Z0) (Zu (ZW (ZK (Zh ZbN (Zb 8) (ZY))) (Zu (Zbl (Zk 7) (Zh Zr (Zh Zr (Zb 8) (Zk 0)) (Zk 0)) (Zk 0)) (Zb9 (Zd4 (Zh Zr (Zb 8) (Zk 1)) (Zal (Ze (Zk 7) (Ze (Zk 7) Zn)))))) Z0) (ZW (ZK (Zh oNe (Zb 3) (Zb 5))) (ZE (Zco false)) Z0))))) (ZE (Zco true)))))))))
def Zro:=Z5 1 Zod
def Zoe: PS:=(Zt (ZM 1 (Zg Zq (Za2 (Zd (Zj 1) (Zd (Zj 2) (Zd (Zj 1) (Zd (Zj 2) (Zd (Zj 1) (Zd (Zj 2) (Zd (Zj 1) (Zd (Zj 2) (Zd (Zj 3) Zm)))))))))) (Zv ZbK (Zd (Za 0) (Zd (Zj 0) (Zd (Zj 9) Zm)))))) (Zt (ZM 2 (Zan (Zaz (Zd (Za 1) Zm)) (Zae 100) Zai (Zv ZdU (Zd (Za 0) (Zd (Zg Zad (Zj 2) (Za 100)) Zm))))) (Zt (ZM 3 (Zv Zis (Zd (Za 0) (Zd (Zj 14) (Zd (Za 2) Zm))))) (Zt (ZM 4 (Zv Ze0 (Zd (Za 0) (Zd (Za 1) Zm)))) (Zt (ZT (ZG (Zg qEq (Zv ZbK (Zd (Za 0) (Zd (Zj 1) (Zd (Zj 11) Zm)))) (Zj 4))) (ZM 3 (ZV)) ZX) (Zt (ZM 5 (Zv Zeq (Zd (Za 3) Zm))) (Zt (ZM 6 (Zv Zcl (Zd (Za 5) (Zd (Za 4) Zm)))) (Zt (ZaD (Zaz (Zd (Zj 2) Zm)) (Zae 7) (Zt (ZM 8 (Zv ZbZ (Zd (Za 3) (Zd (Za 4) (Zd (Za2 Zm) Zm))))) (Zt (ZT (bOr (Zcz (ZG (Zv Zh2 (Zd (Za 8) (Zd (Za 6) Zm))))) (bOr (ZG (Zg qNe (Za 4) (Zv Ze0 (Zd (Za 0) (Zd (Za 1) Zm))))) Zb3)) (ZD (Zcp false)) ZX) (Zt (ZT (ZG (Zg Zbz (Za 8) (ZV))) (Zt (Zbb 8 [] (Zj 7) (ZbD (ZbD ZaA (Zj 0)) (Zj 0)) (Zj 0)) (ZcX 8 [] (ZbD ZaA (Zj 1)) (Zak (Zd (Zj 7) (Zd (Zj 7) Zm))))) ZX) (ZT (ZG (Zg qNe (Za 3) (Za 5))) (ZD (Zcp false)) ZX))))) (ZD (Zcp true))))))))))
def Zof:=Z9 1 Zoe
theorem Zw3: SimF false Zro Zof:=Zac (show S [] [] [] false Zod Zoe from(ZA (ZU (O':=[]) (Zy Zx (E.list (Zf (Zl _) (Zf (Zl _) (Zf (Zl _) (Zf (Zl _) (Zf (Zl _) (Zf (Zl _) (Zf (Zl _) (Zf (Zl _) (Zf (Zl _) Zo)))))))))) (ZI ZcA (Zf (Zc 0) (Zf (Zl _) (Zf (Zl _) Zo)))))) (ZA (ZU (O':=[]) (ZbF (Gs.range (Zf (Zc 1) Zo)) PutOk.one (by decide) Zax (ZI Zfx (Zf (Zc 0) (Zf (Zab Zag (Zl _) (Zc 100)) Zo))))) (ZA (ZU (O':=[]) (ZI Zu4 (Zf (Zc 0) (Zf (Zl _) (Zf (Zc 2) Zo))))) (ZA (ZU (O':=[]) (ZI Zq3 (Zf (Zc 0) (Zf (Zc 1) Zo)))) (ZA (Z3 (ZN (ZC Zaq (ZI ZcA (Zf (Zc 0) (Zf (Zl _) (Zf (Zl _) Zo)))) (Zl _))) (ZU (O':=[]) (Z7)) Z6) (ZA (ZU (O':=[]) (ZI Zu5 (Zf (Zc 3) Zo))) (ZA (ZU (O':=[]) (ZI ZtQ (Zf (Zc 5) (Zf (Zc 4) Zo)))) (ZA (Zbd (Gs.range (Zf (Zl _) Zo)) PutOk.one (by decide) (by decide) (ZyJ (O1:=[8]) (ZA (ZbG (O':=[8]) (ZaM Zv6 (Zf (Zc 3) (Zf (Zc 4) (Zf (E.list Zo) Zo))))) (ZA (Z3 (ZaY (Zc3 (ZN (ZI Ztp (Zf (Zc 8) (Zf (Zc 6) Zo))))) (ZaY (ZN (ZC ZbV (Zc 4) (ZI Zq3 (Zf (Zc 0) (Zf (Zc 1) Zo))))) Zcu)) (ZR (E.bool _)) Z6) (ZA (Z3 (ZN (ZC Zcf (Zc 8) (Z7))) (ZA (S.put (O':=[8]) (by decide) (Za1 (O':=[]) (Zl _)) (Zc4 (Zc4 Zbn (Zl _)) (Zl _)) (Zl _) (by decide) (by decide)) (Zgr (O':=[8]) (by decide) (Zc4 Zbn (Zl _)) (Za1 (O':=[]) (E.tup (Zd2 (Zl _) (Zd2 (Zl _) Zo (by decide) (by decide)) (by decide) (by decide)))) (by decide) (by decide))) Z6) (Z3 (ZN (ZC ZbV (Zc 3) (Zc 5))) (ZR (E.bool _)) Z6)))) (by decide))) (ZR (E.bool _)))))))))))
end L
end
section
open PySem PySem.W PyProof.Rows PM TM My
local macro_rules | `(tactic| tm_at "r")=>`(tactic| assumption)
local macro_rules | `(tactic| tm_at "r")=>`(tactic| exact rfl)
local macro_rules | `(tactic| tm_at "r")=>`(tactic| ((with_reducible apply ZwO);decide;tm_at "r"))
local macro_rules | `(tactic| tm_at "r")=>`(tactic| ((with_reducible apply ZrT);decide;tm_at "r"))
local macro_rules | `(tactic| tm_at "r")=>`(tactic| with_reducible exact ZbL)
local macro_rules | `(tactic| tm_at "r")=>`(tactic| with_reducible assumption)
local macro_rules|`(tactic|walk_at "r")=>`(tactic|first | tm_at "r" | fail)
local macro_rules | `(tactic| tm_at "y")=>`(tactic| (simp only[Bool.not_eq_true',Bool.not_eq_false',decide_eq_true_eq,decide_eq_false_iff_not,beq_iff_eq,beq_eq_false_iff_ne,ne_eq,Bool.not_true,Bool.not_false,not_false_eq_true,not_true_eq_false,bne_iff_ne,Decidable.not_not,List.length_map] <;> first | done | omega | assumption))
local macro_rules | `(tactic| tm_at "y")=>`(tactic| (with_reducible assumption))
local macro_rules | `(tactic| tm_at "y")=>`(tactic| rfl)
local macro_rules|`(tactic|walk_at "y")=>`(tactic|first | tm_at "y" | fail)
local macro_rules | `(tactic| tm_at "f")=>`(tactic| exact Zml fun i hi=>by(first | rfl | exact Zgb | exact Zf0))
local macro_rules | `(tactic| tm_at "f")=>`(tactic| exact Zf0)
local macro_rules | `(tactic| tm_at "f")=>`(tactic| exact Zgb)
local macro_rules | `(tactic| tm_at "f")=>`(tactic| rfl)
local macro_rules|`(tactic|walk_at "f")=>`(tactic|first | tm_at "f" | fail)
local macro_rules | `(tactic| tm_at "o")=>`(tactic| ((with_reducible apply ZoR);(first | decide | omega)))
local macro_rules | `(tactic| tm_at "o")=>`(tactic| with_reducible refine Zy7 ?_)
local macro_rules | `(tactic| tm_at "o")=>`(tactic| with_reducible refine tk_all ?_)
local macro_rules | `(tactic| tm_at "o")=>`(tactic| with_reducible refine tk_tup1 ?_)
local macro_rules | `(tactic| tm_at "o")=>`(tactic| with_reducible refine tk_list1t ?_)
local macro_rules | `(tactic| tm_at "o")=>`(tactic| with_reducible refine ZwK ?_)
local macro_rules | `(tactic| tm_at "o")=>`(tactic| ((with_reducible apply ZrR);omega))
local macro_rules | `(tactic| tm_at "o")=>`(tactic| ((with_reducible apply Zga);(first | decide | omega);rfl))
local macro_rules | `(tactic| tm_at "o")=>`(tactic| ((with_reducible apply ZxP);(first | decide | omega);rfl))
local macro_rules | `(tactic| tm_at "o")=>`(tactic| ((with_reducible apply ZxO);(first | decide | omega);(first | decide | omega)))
local macro_rules | `(tactic| tm_at "o")=>`(tactic| ((with_reducible apply ZxN);(first | assumption | omega)))
local macro_rules | `(tactic| tm_at "o")=>`(tactic| with_reducible refine ZxM ?_)
local macro_rules | `(tactic| tm_at "o")=>`(tactic| with_reducible refine Zy6 ?_)
local macro_rules | `(tactic| tm_at "o")=>`(tactic| with_reducible refine ZxL ?_)
local macro_rules | `(tactic| tm_at "o")=>`(tactic| with_reducible refine ZxK ?_)
local macro_rules | `(tactic| tm_at "o")=>`(tactic| with_reducible refine tk_notl ?_)
local macro_rules | `(tactic| tm_at "o")=>`(tactic| with_reducible refine ZxJ ?_)
local macro_rules | `(tactic| tm_at "o")=>`(tactic| with_reducible refine ZxI ?_)
local macro_rules | `(tactic| tm_at "o")=>`(tactic| with_reducible refine Zy5 ?_)
local macro_rules | `(tactic| tm_at "o")=>`(tactic| with_reducible refine Zy4 ?_)
local macro_rules | `(tactic| tm_at "o")=>`(tactic| with_reducible refine Zy3 ?_)
local macro_rules | `(tactic| tm_at "o")=>`(tactic| with_reducible refine Zy2 ?_)
local macro_rules | `(tactic| tm_at "o")=>`(tactic| with_reducible refine tk_neb ?_)
local macro_rules | `(tactic| tm_at "o")=>`(tactic| with_reducible refine tk_eqb ?_)
local macro_rules | `(tactic| tm_at "o")=>`(tactic| with_reducible refine ZzK ?_)
local macro_rules | `(tactic| tm_at "o")=>`(tactic| with_reducible refine ZzJ ?_)
local macro_rules | `(tactic| tm_at "o")=>`(tactic| with_reducible refine tk_min ?_)
local macro_rules | `(tactic| tm_at "o")=>`(tactic| with_reducible refine Zy1 ?_)
local macro_rules | `(tactic| tm_at "o")=>`(tactic| with_reducible refine Zy0 ?_)
local macro_rules | `(tactic| tm_at "o")=>`(tactic| with_reducible refine tk_ge ?_)
local macro_rules | `(tactic| tm_at "o")=>`(tactic| with_reducible refine ZzI ?_)
local macro_rules | `(tactic| tm_at "o")=>`(tactic| with_reducible refine ZzH ?_)
local macro_rules | `(tactic| tm_at "o")=>`(tactic| with_reducible refine ZzG ?_)
local macro_rules | `(tactic| tm_at "o")=>`(tactic| with_reducible refine ZyZ ?_)
local macro_rules | `(tactic| tm_at "o")=>`(tactic| with_reducible refine ZyY ?_)
local macro_rules | `(tactic| tm_at "o")=>`(tactic| with_reducible refine Zju ?_)
local macro_rules|`(tactic|walk_at "o")=>`(tactic|first | tm_at "o" | fail)
local macro_rules | `(tactic| tm_at "1")=>`(tactic| tm_at "o")
local macro_rules | `(tactic| tm_at "1")=>`(tactic| ((with_reducible apply Zrj);tm_at "r";(first | assumption | omega);(first | assumption | omega)))
local macro_rules | `(tactic| tm_at "1")=>`(tactic| ((with_reducible apply ZwN);tm_at "r";(first | assumption | omega)))
local macro_rules | `(tactic| tm_at "1")=>`(tactic| ((with_reducible apply ZxT);tm_at "r";(first | (rw[Zay];omega) | (simp;done))))
local macro_rules | `(tactic| tm_at "1")=>`(tactic| ((with_reducible apply ZxS);tm_at "r";(first | (rw[Zay];omega) | (simp;done))))
local macro_rules | `(tactic| tm_at "1")=>`(tactic| with_reducible refine ZxV ?_)
local macro_rules | `(tactic| tm_at "1")=>`(tactic| with_reducible refine Zy9 ?_)
local macro_rules | `(tactic| tm_at "1")=>`(tactic| with_reducible refine ZxU ?_)
local macro_rules | `(tactic| tm_at "1")=>`(tactic| with_reducible refine Zy8 ?_)
local macro_rules | `(tactic| tm_at "1")=>`(tactic| with_reducible refine Zi.mn ?_)
local macro_rules | `(tactic| tm_at "1")=>`(tactic| with_reducible refine Zi.eq ?_)
local macro_rules | `(tactic| tm_at "1")=>`(tactic| with_reducible refine ZwX ?_)
local macro_rules | `(tactic| tm_at "1")=>`(tactic| with_reducible refine ZxZ ?_)
local macro_rules | `(tactic| tm_at "1")=>`(tactic| with_reducible refine ZxY ?_)
local macro_rules | `(tactic| tm_at "1")=>`(tactic| with_reducible refine ZoS ?_)
local macro_rules | `(tactic| tm_at "1")=>`(tactic| ((with_reducible apply Rn.one);omega))
local macro_rules | `(tactic| tm_at "1")=>`(tactic| with_reducible refine ZwM ?_)
local macro_rules | `(tactic| tm_at "1")=>`(tactic| with_reducible refine Sq.tup ?_)
local macro_rules | `(tactic| tm_at "1")=>`(tactic| with_reducible refine Sq.lst ?_)
local macro_rules | `(tactic| tm_at "1")=>`(tactic| with_reducible refine Zi9 ?_)
local macro_rules|`(tactic|tm_at "1")=>`(tactic|(refine And.intro (show T.flatIn _ = true by walk_at "f") ?_))
local macro_rules|`(tactic|tm_at "1")=>`(tactic|(refine And.intro (show T.flat _ = true by walk_at "f") ?_))
local macro_rules | `(tactic| tm_at "1")=>`(tactic| ((with_reducible apply Zjt);rfl))
local macro_rules | `(tactic| tm_at "1")=>`(tactic| ((with_reducible apply ZoQ);tm_at "y"))
local macro_rules | `(tactic| tm_at "1")=>`(tactic| ((with_reducible apply ZyX);tm_at "y"))
local macro_rules | `(tactic| tm_at "1")=>`(tactic| ((with_reducible apply ZyO);tm_at "r"))
local macro_rules | `(tactic| tm_at "1")=>`(tactic| with_reducible refine ZyN ?_)
local macro_rules | `(tactic| tm_at "1")=>`(tactic| with_reducible refine Zxz ?_)
local macro_rules | `(tactic| tm_at "1")=>`(tactic| with_reducible refine ZyM ?_)
local macro_rules | `(tactic| tm_at "1")=>`(tactic| with_reducible refine ZyL ?_)
local macro_rules | `(tactic| tm_at "1")=>`(tactic| with_reducible refine ZoP ?_)
local macro_rules | `(tactic| tm_at "1")=>`(tactic| with_reducible refine Zjs ?_)
local macro_rules | `(tactic| tm_at "1")=>`(tactic| with_reducible refine tk_exp ?_)
local macro_rules | `(tactic| tm_at "1")=>`(tactic| with_reducible refine ZoO ?_)
local macro_rules | `(tactic| tm_at "1")=>`(tactic| with_reducible refine ZyW ?_)
local macro_rules | `(tactic| tm_at "1")=>`(tactic| with_reducible refine ZxH ?_)
local macro_rules | `(tactic| tm_at "1")=>`(tactic| with_reducible refine tk_truth_n ?_)
local macro_rules | `(tactic| tm_at "1")=>`(tactic| with_reducible refine Zu1 ?_)
local macro_rules | `(tactic| tm_at "1")=>`(tactic| with_reducible refine ZyV ?_)
local macro_rules | `(tactic| tm_at "1")=>`(tactic| with_reducible refine ZxG ?_)
local macro_rules | `(tactic| tm_at "1")=>`(tactic| with_reducible refine ZwJ ?_)
local macro_rules | `(tactic| tm_at "1")=>`(tactic| with_reducible refine ZxF ?_)
local macro_rules | `(tactic| tm_at "1")=>`(tactic| with_reducible refine ZxE ?_)
local macro_rules | `(tactic| tm_at "1")=>`(tactic| with_reducible refine ZyU ?_)
local macro_rules | `(tactic| tm_at "1")=>`(tactic| with_reducible refine ZzF ?_)
local macro_rules | `(tactic| tm_at "1")=>`(tactic| with_reducible refine ZzE ?_)
local macro_rules | `(tactic| tm_at "1")=>`(tactic| with_reducible refine ZyT ?_)
local macro_rules | `(tactic| tm_at "1")=>`(tactic| with_reducible refine ZyS ?_)
local macro_rules | `(tactic| tm_at "1")=>`(tactic| with_reducible refine ZzD ?_)
local macro_rules | `(tactic| tm_at "1")=>`(tactic| with_reducible refine ZzC ?_)
local macro_rules | `(tactic| tm_at "1")=>`(tactic| with_reducible refine ZxD ?_)
local macro_rules | `(tactic| tm_at "1")=>`(tactic| with_reducible refine ZxA ?_)
local macro_rules | `(tactic| tm_at "1")=>`(tactic| with_reducible refine ZxC ?_)
local macro_rules | `(tactic| tm_at "1")=>`(tactic| with_reducible refine ZyR ?_)
local macro_rules | `(tactic| tm_at "1")=>`(tactic| with_reducible refine ZyQ ?_)
local macro_rules | `(tactic| tm_at "1")=>`(tactic| with_reducible refine ZxB ?_)
local macro_rules | `(tactic| tm_at "1")=>`(tactic| with_reducible refine ZzB ?_)
local macro_rules | `(tactic| tm_at "1")=>`(tactic| with_reducible refine ZyP ?_)
local macro_rules|`(tactic|walk_at "1")=>`(tactic|first | tm_at "1" | fail)
local macro_rules|`(tactic|walk_at "z")=>`(tactic|repeat' (first | tm_at "1" | fail))
namespace L
open PySem PySem.W PyProof.Rows PM TM My
variable {a v:Option Int} {X b i j k k' m n:Nat} {ns:List Int} {c d x:Nat→Int} {K K' M M' r y:Int} {A B D F G G2:Nat→Nat→Option Int} {σ:TL} {f g:PE} {P Q:T→Prop} {R R' R2 S:Nat→Int×Int} {p q:Int×Int} {β:Type} {o:Option (Int×Int)} {ts:List T} {done done':Nat→Nat→Nat→Prop} {w:T} {N:TL→Prop} {l:List Nat} {C:Nat→Nat→Int} {I:(Nat→Nat→Option Int)→(Nat→Int×Int)→Prop}
section
variable {Q:T→Prop}
theorem ZAb(h:Q (.int T9)): Pk (ZdF (.int 10) (.int 9)) Q:=by
 have:=Zzy []
 simp only[oPow]at this
 split at this
 ·rename_i hc
  refine⟨_,by simp only[ZdF];rw[if_pos hc],?_⟩
  simp only[Option.some.injEq,Prod.mk.injEq,V.int.injEq,and_true]at this
  rw[this];exact h
 ·cases this
theorem ZzO(h:Q (.int T40)): Pk (ZdF (.int 10) (.int 40)) Q:=by
 have:=ZyH []
 simp only[oPow]at this
 split at this
 ·rename_i hc
  refine⟨_,by simp only[ZdF];rw[if_pos hc],?_⟩
  simp only[Option.some.injEq,Prod.mk.injEq,V.int.injEq,and_true]at this
  rw[this];exact h
 ·cases this
theorem ZzP(h:Q (.int M9)): Pk (ZdF (.int 48271) (.int 9)) Q:=by
 have:=ZyG []
 simp only[oPow]at this
 split at this
 ·rename_i hc
  refine⟨_,by simp only[ZdF];rw[if_pos hc],?_⟩
  simp only[Option.some.injEq,Prod.mk.injEq,V.int.injEq,and_true]at this
  rw[this];exact h
 ·cases this
theorem Zex{a b:Int}(h1:-(2 ^ 64)<b)(h2:b<2 ^ 64)(h:Q (.int (a*b))): Pk (ZaC (.int a) (.int b)) Q:=ZbP (ZvQ h1 h2) h
theorem Zr4{a b:Int}(h1:-(2 ^ 64)<a)(h2:a<2 ^ 64)(h:Q (.int (a*b))): Pk (ZaC (.int a) (.int b)) Q:=ZbP (ZuZ h1 h2) h
end
noncomputable def scr(ns:List Int): T:=.lst (ns.map T.int)
def Lay(ns:List Int): Prop:=PyData.layable0 (.list (ns.map .int))=true
noncomputable def ZcB(ns:List Int)(k:Int): Int:=k*k*7919+11+(if 0<ns.length then cellAt ns (k.fmod ns.length) 0 else 0)
theorem Zrp{k:Int}(h0:0≤k)(h9:k≤10000): ZgL [scr ns,.int k]=some (.int (ZcB ns k)):=by
 apply Pk.eq
 unfold ZgL ZlL ZcB scr
 by_cases hl:0<ns.length
 ·have a:=Int.fmod_nonneg_of_pos k (show(0:Int)<ns.length by omega)
  have b:=Int.fmod_lt_of_pos k (show(0:Int)<ns.length by omega)
  have e:(ns.map T.int).length=ns.length:=by simp
  walk_at "z"
  refine Zex (by omega) (by omega) ?_
  walk_at "z"
  refine Zex (by omega) (by omega) ?_
  walk_at "z"
  refine Zga (t:=.int (cellAt ns (k.fmod ns.length) 0)) (by rw[e];omega) ?_ ?_
  ·rw[e,List.getElem?_map,List.getElem?_eq_getElem (by omega),cellAt_def]
   simp only[Option.map_some,T.int.injEq,Option.some.injEq]
   rw[List.getD_eq_getElem?_getD,List.getElem?_eq_getElem (by omega)]
   rfl
  walk_at "z"
  rw[if_pos hl]
 ·walk_at "z"
  refine Zex (by omega) (by omega) ?_
  walk_at "z"
  refine Zex (by omega) (by omega) ?_
  walk_at "z"
  rw[if_neg hl]
  simp
theorem Zvd{k:Int}(hL:Lay ns)(h0:0≤k)(h9:k≤10000): Builtin.Int.intBits (ZcB ns k)≤2 ^ 21:=by
 unfold ZcB
 have h1:0≤k*k:=Int.mul_nonneg h0 h0
 have h2:k*k≤10000*10000:=Int.mul_le_mul h9 h9 h0 (by decide)
 have hb:Builtin.Int.intBits (k*k*7919+11)≤2 ^ 20:=Nat.le_trans (intBits_le_64 (by omega) (by omega)) (by decide)
 have hc:Builtin.Int.intBits (if 0<ns.length then cellAt ns (k.fmod ns.length) 0 else 0)≤2 ^ 20:=by
  split
  ·exact(cell_at hL _).bits
  ·exact bits_zero
 exact Nat.le_trans (PM.ZwG hb hc) (by decide)
noncomputable def Zbt(ns:List Int)(k many:Int): Int:=((ZcB ns k*48271).fmod 2147483647).fmod many
theorem ZcJ(ns:List Int)(k:Int){many:Int}(h:0<many): 0≤Zbt ns k many∧Zbt ns k many<many:=⟨Int.fmod_nonneg_of_pos _ h,Int.fmod_lt_of_pos _ h⟩
theorem ZcK{k many:Int}(h0:0≤k)(h9:k≤10000)(hm:0<many): ZbK [scr ns,.int k,.int many]=some (.int (Zbt ns k many)):=by
 apply Pk.eq
 unfold ZbK Zmn
 walk_at "z"
 refine ZF (Zrp h0 h9) ?_
 walk_at "z"
 refine Zex (by decide) (by decide) ?_
 walk_at "z"
 rfl
noncomputable def Zeb(ns:List Int)(k:Int): Int:=[3,9,T9,T40].getD (((ZcB ns k*69621).fmod 2147483629).fmod 4).toNat 0
theorem Zrq(ns:List Int)(k:Int): 0<Zeb ns k∧Zeb ns k≤T40:=by
 unfold Zeb
 have a:=Int.fmod_nonneg_of_pos ((ZcB ns k*69621).fmod 2147483629) (show(0:Int)<4 by decide)
 have b:=Int.fmod_lt_of_pos ((ZcB ns k*69621).fmod 2147483629) (show(0:Int)<4 by decide)
 generalize ((ZcB ns k*69621).fmod 2147483629).fmod 4=i at a b
 have h9:=T9_eq
 have h40:=Zjp
 have:i=0∨i=1∨i=2∨i=3:=by omega
 obtain rfl | rfl | rfl | rfl:=this
 ·show 0<3∧3≤T40;omega
 ·show 0<9∧9≤T40;omega
 ·show 0<T9∧T9≤T40;omega
 ·show 0<T40∧T40≤T40;omega
noncomputable def Zca(ns:List Int)(k:Int): Int:=(ZcB ns k*M9).fmod (2*Zeb ns k+1)-Zeb ns k
theorem ZsA(ns:List Int)(k:Int): -T40≤Zca ns k∧Zca ns k≤T40:=by
 obtain⟨a,b⟩:=Zrq ns k
 have h1:=Int.fmod_nonneg_of_pos (ZcB ns k*M9) (show 0<2*Zeb ns k+1 by omega)
 have h2:=Int.fmod_lt_of_pos (ZcB ns k*M9) (show 0<2*Zeb ns k+1 by omega)
 unfold Zca
 omega
theorem ZfV{k:Int}(hL:Lay ns)(h0:0≤k)(h9:k≤10000): ZdU [scr ns,.int k]=some (.int (Zca ns k)):=by
 apply Pk.eq
 unfold ZdU Zlj
 have hb:=Zrf (Zvd hL h0 h9) Zxx
 obtain⟨r0,r1⟩:=Zrq ns k
 have a:=Int.fmod_nonneg_of_pos ((ZcB ns k*69621).fmod 2147483629) (show(0:Int)<4 by decide)
 have b:=Int.fmod_lt_of_pos ((ZcB ns k*69621).fmod 2147483629) (show(0:Int)<4 by decide)
 walk_at "z"
 refine ZF (Zrp h0 h9) ?_
 walk_at "z"
 refine ZAb ?_
 walk_at "z"
 refine ZzO ?_
 walk_at "z"
 refine Zex (by decide) (by decide) ?_
 walk_at "z"
 refine Zga (t:=.int (Zeb ns k)) (by omega) ?_ ?_
 ·unfold Zeb
  have:(((ZcB ns k*69621).fmod 2147483629).fmod 4).toNat<4:=by omega
  generalize (((ZcB ns k*69621).fmod 2147483629).fmod 4).toNat=i at this
  match i,this with
  | 0,_=>rfl
  | 1,_=>rfl
  | 2,_=>rfl
  | 3,_=>rfl
 walk_at "z"
 refine ZzP ?_
 walk_at "z"
 refine ZbP hb ?_
 walk_at "z"
 refine Zr4 (by decide) (by decide) ?_
 walk_at "z"
 rfl
noncomputable def Zbv(a:Int): Int:=if a<0 then -a else a
theorem ZdL(a:Int): 0≤Zbv a:=by unfold Zbv;split <;> omega
noncomputable def Zdz(ns:List Int)(k:Int): Option Int:=
 if(Zbt ns k 42).fmod 6<2 then none else if(Zbt ns k 42).fmod 6<4 then some 0 else if(Zbt ns k 42).fmod 6=4 then some ((Zbt ns k 42).fdiv 6)else some (Zbv (Zca ns k))
theorem Zw4(ns:List Int)(k:Int){c:Int}(h:Zdz ns k=some c): 0≤c∧c≤T40:=by
 have h40:=Zjp
 unfold Zdz at h
 split at h
 ·cases h
 ·split at h
  ·cases h;omega
  ·split at h
   ·cases h
    obtain⟨p0,p1⟩:=ZcJ ns k (show(0:Int)<42 by decide)
    rw[Int.fdiv_eq_ediv_of_nonneg _ (by decide)]
    omega
   ·cases h
    have:=ZsA ns k
    have:=ZdL (Zca ns k)
    unfold Zbv at *
    split at * <;> omega
theorem Zq4{a b:Int}(h0:0≤b)(h1:b<2 ^ 30): Builtin.divisionGoesByPylong a b=false:=PyProof.noPylong_small (by omega)
theorem Zw5{k:Int}(hL:Lay ns)(h0:0≤k)(h9:k≤10000): Zij [scr ns,.int k]=some (oT (Zdz ns k)):=by
 apply Pk.eq
 unfold Zij ZlO Zdz
 obtain⟨p0,p1⟩:=ZcJ ns k (show(0:Int)<42 by decide)
 walk_at "z"
 refine ZF (ZcK h0 h9 (by decide)) ?_
 walk_at "z"
 refine⟨fun c=>?_,fun c=>?_⟩
 ·walk_at "z"
  rw[if_pos (by simpa using c)];rfl
 rw[if_neg (by simpa using c)]
 walk_at "z"
 refine⟨fun c=>?_,fun c=>?_⟩
 ·walk_at "z"
  rw[if_pos (by simpa using c)];rfl
 rw[if_neg (by simpa using c)]
 walk_at "z"
 refine⟨fun c=>?_,fun c=>?_⟩
 ·walk_at "z"
  refine ZbO (by decide) (Zq4 (by decide) (by decide)) ?_
  rw[if_pos (by simpa using c)];rfl
 rw[if_neg (by simpa using c)]
 walk_at "z"
 refine ZF (ZfV hL h0 h9) ?_
 walk_at "z"
 rfl
def RestOk(q:Int×Int): Prop:=q.1=0∨(0<q.1∧0≤q.2∧q.2<q.1)
noncomputable def ZaE(m r:Int): Int×Int:=if m=0 then(0,r)else(m,r.fmod m)
theorem ZcP{m:Int}(h:0≤m)(r:Int): RestOk (ZaE m r):=by
 unfold RestOk ZaE
 split
 ·exact .inl rfl
 ·exact .inr ⟨by show 0<m;omega,Int.fmod_nonneg_of_pos _ (by omega),Int.fmod_lt_of_pos _ (by omega)⟩
theorem ZfK{m:Int}: ZdR [.int m,.int r]=some (ZZ (ZaE m r)):=by
 apply Pk.eq
 unfold ZdR ZkM ZaE
 by_cases c:m=0
 ·walk_at "z"
  rw[if_pos c];rfl
 ·walk_at "z"
  rw[if_neg c];rfl
noncomputable def ZeH(ns:List Int)(k x:Int): Int×Int:=
 if(Zbt ns k 60).fmod 5<2 then(1,0)else if(Zbt ns k 60).fmod 5=2 then(0,x)else if(Zbt ns k 60).fmod 5=3 then ZaE ((Zbt ns k 60).fdiv 5+1) x else ZaE (Zbv (Zca ns k)) x
def ZaP(q:Int×Int)(x:Int): Prop:=(q.1=0→x=q.2)∧(0<q.1→(x-q.2).emod q.1=0)
theorem Zrr(ns:List Int)(k:Int): 0≤(Zbt ns k 60).fdiv 5∧(Zbt ns k 60).fdiv 5<12:=by
 obtain⟨p0,p1⟩:=ZcJ ns k (show(0:Int)<60 by decide)
 rw[Int.fdiv_eq_ediv_of_nonneg _ (by decide)]
 omega
theorem Zw6(ns:List Int)(k x:Int): RestOk (ZeH ns k x):=by
 have:=Zrr ns k
 unfold ZeH
 split
 ·exact .inr ⟨by decide,by decide,by decide⟩
 ·split
  ·exact .inl rfl
  ·split
   ·exact ZcP (by omega) x
   ·exact ZcP (ZdL _) x
theorem Zx5{k x:Int}(hL:Lay ns)(h0:0≤k)(h9:k≤10000): Zir [scr ns,.int k,.int x]=some (ZZ (ZeH ns k x)):=by
 apply Pk.eq
 unfold Zir Zmq ZeH
 obtain⟨p0,p1⟩:=ZcJ ns k (show(0:Int)<60 by decide)
 walk_at "z"
 refine ZF (ZcK h0 h9 (by decide)) ?_
 walk_at "z"
 refine⟨fun c=>?_,fun c=>?_⟩
 ·walk_at "z"
  rw[if_pos (by simpa using c)];rfl
 rw[if_neg (by simpa using c)]
 walk_at "z"
 refine⟨fun c=>?_,fun c=>?_⟩
 ·walk_at "z"
  rw[if_pos (by simpa using c)];rfl
 rw[if_neg (by simpa using c)]
 walk_at "z"
 refine⟨fun c=>?_,fun c=>?_⟩
 ·walk_at "z"
  refine ZbO (by decide) (Zq4 (by decide) (by decide)) ?_
  walk_at "z"
  refine ZF ZfK ?_
  rw[if_pos (by simpa using c)]
 rw[if_neg (by simpa using c)]
 walk_at "z"
 refine ZF (ZfV hL h0 h9) ?_
 walk_at "z"
 exact ZF ZfK rfl
noncomputable def ZaZ(x:Nat→Int): Nat→Int:=cn 0 x
theorem Zzh(x:Nat→Int): cn (T.int 0) (fun i=>T.int (x i))=fun i=>T.int (ZaZ x i):=by
 funext i;cases i <;> rfl
noncomputable def ZcD(ns:List Int)(k:Int)(n:Nat)(x:Nat→Int)(i j:Nat): Option Int:=if j=i then some 0 else(Zdz ns (k+i*(n+1:Nat)+j)).map fun c=>ZaZ x i-ZaZ x j+c
noncomputable def Zgs(ns:List Int)(k:Int)(n:Nat)(x:Nat→Int)(t:Nat): Int×Int:=ZeH ns (k+(n+1:Nat)*(n+1:Nat)+t) (x t)
theorem Zve(ns:List Int)(k:Int)(n:Nat)(x:Nat→Int)(i:Nat): ZcD ns k n x i i=some 0:=by simp[ZcD]
theorem Zw7(ns:List Int)(k:Int)(n:Nat)(x:Nat→Int)(i:Nat): (fun j=>if j=i then T.int 0 else oT ((Zdz ns (k+i*(n+1:Nat)+j)).map fun c=>ZaZ x i-ZaZ x j+c))=fun j=>oT (ZcD ns k n x i j):=by
 funext j
 unfold ZcD
 split <;> rfl
theorem Zx6{k:Int}(hL:Lay ns)(h0:0≤k)(h9:k≤1000)(hn:n≤9): Zis [scr ns,.int k,ZsW n x]=some (ZO n (ZcD ns k n x) (Zgs ns k n x)):=by
 apply Pk.eq
 unfold Zis Zmt ZsW
 have hq:((n+1:Nat):Int)*((n+1:Nat):Int)≤10*10:=Int.mul_le_mul (by omega) (by omega) (by omega) (by decide)
 have hq0:(0:Int)≤((n+1:Nat):Int)*((n+1:Nat):Int):=Int.mul_nonneg (by omega) (by omega)
 walk_at "z"
 rw[Zzh]
 refine Zb4 (n:=n+1) (a:=fun i=>.int i) (P:=fun i σ=>σ 0=some (scr ns)∧σ 1=some (.int k)∧σ 2=some (.lst (tab n fun i=>.int (x i)))∧σ 3=some (.lst (tab (n+1) fun i=>.int (ZaZ x i)))∧σ 4=some (.int (n+1:Nat))∧σ 5=some (.lst (tab i fun i=>Zar (n+1) (ZcD ns k n x i)))) ?_ ⟨rfl,rfl,rfl,rfl,rfl,rfl⟩ ?_ ?_
 ·walk_at "z"
  rfl
 ·rintro i σ hi ⟨e0,e1,e2,e3,e4,e5⟩
  walk_at "z"
  refine Zb4 (n:=n+1) (a:=fun i=>.int i) (P:=fun j σ=>σ 0=some (scr ns)∧σ 1=some (.int k)∧σ 2=some (.lst (tab n fun i=>.int (x i)))∧σ 3=some (.lst (tab (n+1) fun i=>.int (ZaZ x i)))∧σ 4=some (.int (n+1:Nat))∧σ 5=some (.lst (tab i fun i=>Zar (n+1) (ZcD ns k n x i)))∧σ 6=some (.int i)∧σ 7=some (.lst (tab j fun j=>oT ((Zdz ns (k+i*(n+1:Nat)+j)).map fun c=>ZaZ x i-ZaZ x j+c)))) ?_ ⟨?_,?_,?_,?_,?_,?_,?_,?_⟩ ?_ ?_
  ·walk_at "z"
   rfl
  all_goals first | walk_at "r" | skip
  ·rintro j σ hj ⟨e0,e1,e2,e3,e4,e5,e6,e7⟩
   have hb1:(0:Int)≤i*((n+1:Nat):Int):=Int.mul_nonneg (by omega) (by omega)
   have hb2:(i:Int)*((n+1:Nat):Int)≤10*10:=Int.mul_le_mul (by omega) (by omega) (by omega) (by decide)
   walk_at "z"
   refine Zex (by omega) (by omega) ?_
   walk_at "z"
   refine ZF (Zw5 hL (by omega) (by omega)) ?_
   have key:∀w,w=oT ((Zdz ns (k+i*(n+1:Nat)+j)).map fun c=>ZaZ x i-ZaZ x j+c)→tab j (fun j=>oT ((Zdz ns (k+i*(n+1:Nat)+j)).map fun c=>ZaZ x i-ZaZ x j+c))++[w]=tab (j+1) fun j=>oT ((Zdz ns (k+i*(n+1:Nat)+j)).map fun c=>ZaZ x i-ZaZ x j+c):=fun w e=>by
    rw[e];exact ZdK
   cases hs:Zdz ns (k + ↑i * ↑(n+1) + ↑j)with
   | none=>
    simp only[Zbx,ZaH]
    walk_at "z"
    rw[key _ (by rw[hs];rfl)]
    refine⟨?_,?_,?_,?_,?_,?_,?_,?_⟩ <;> walk_at "r"
   | some c=>
    simp only[Zbx,ZaH]
    walk_at "z"
    rw[key _ (by rw[hs];rfl)]
    refine⟨?_,?_,?_,?_,?_,?_,?_,?_⟩ <;> walk_at "r"
  ·rintro σ ⟨e0,e1,e2,e3,e4,e5,e6,e7⟩
   walk_at "z"
   rw[Zw7,show tab i (fun i=>Zar (n+1) (ZcD ns k n x i))++[T.lst (tab (n+1) fun j=>oT (ZcD ns k n x i j))]=tab (i+1) fun i=>Zar (n+1) (ZcD ns k n x i)from ZdK (f:=fun i=>Zar (n+1) (ZcD ns k n x i))]
   refine⟨?_,?_,?_,?_,?_,?_⟩ <;> walk_at "r"
 ·rintro σ ⟨e0,e1,e2,e3,e4,e5⟩
  walk_at "z"
  refine ZbM (n:=n) (a:=fun i=>.int i) (b:=fun t=>ZZ (Zgs ns k n x t)) (by omega) ?_ (fun t ht=>?_) ?_
  ·walk_at "z"
   refine ZjK n (by omega) (by omega) rfl
  ·walk_at "z"
   refine Zex (by omega) (by omega) ?_
   walk_at "z"
   exact ZF (Zx5 hL (by omega) (by omega)) ⟨Zf0,rfl⟩
  walk_at "z"
  rfl
def Zbw(n:Nat)(G:Nat→Nat→Option Int)(R:Nat→Int×Int)(x:Nat→Int): Prop:=(∀i j,i<n+1→j<n+1→∀b,G i j=some b→ZaZ x i-ZaZ x j≤b)∧∀t,t<n→ZaP (R t) (x t)
def ZAc(n:Nat)(G:Nat→Nat→Option Int)(R:Nat→Int×Int): Prop:=(∀i,i<n+1→G i i=some 0)∧∀t,t<n→RestOk (R t)
theorem Zv7(ns:List Int)(k:Int)(n:Nat)(x:Nat→Int): ZAc n (ZcD ns k n x) (Zgs ns k n x):=⟨fun i _=>Zve ns k n x i,fun t _=>Zw6 ns _ _⟩
theorem Zv8(hn:n<10000)(e:Pk (g σ) fun t=>t=Zaj n G)(h:Q (Zaj n G)): Pk (Zan (ZaI g) (Zae j) Zai (Zv Zdi (Zd (Za j) Zm)) σ) Q:=by
 refine ZbM (n:=n) (a:=fun i=>Zar n (G i)) (b:=fun i=>Zar n (G i)) hn ?_ (fun i hi=>?_) h
 ·refine Zi9 (e.mono ?_)
  rintro _ rfl
  exact Sq.lst rfl
 ·unfold Zar
  walk_at "z"
  rfl
theorem Zx7(hn:n≤100): Zeq [ZO n G R]=some (ZO n G R):=by
 apply Pk.eq
 unfold Zeq Zit ZO Za3
 walk_at "z"
 refine Zv8 (n:=n+1) (G:=G) (by omega) ?_ ?_
 ·walk_at "z"
  rfl
 walk_at "z"
 rfl
theorem Zv9: Zeq [.none]=some .none:=by
 apply Pk.eq
 unfold Zeq Zit
 walk_at "z"
 rfl
def leO(a b:Option Int): Prop:=∀y,b=some y→∃x,a=some x∧x≤y
theorem Zf3: leO a none:=fun _ e=>by cases e
theorem leO_some{x:Int}: leO (some x) (some y)↔x≤y:=⟨fun h=>by obtain⟨z,e,q⟩:=h y rfl;cases e;exact q,fun h z e=>by cases e;exact⟨x,rfl,h⟩⟩
theorem ZoF: ¬leO none (some y):=fun h=>by obtain⟨z,e,_⟩:=h y rfl;cases e
theorem Zuf{b:Option Int}: ZgM [oT a,oT b]=some (.bool (dec (leO a b))):=by
 apply Pk.eq
 unfold ZgM ZlQ
 cases b with
 | none=>
  simp only[Zbx]
  walk_at "z"
  rw[Zbo Zf3]
 | some y=>
  cases a with
  | none=>
   simp only[Zbx,ZaH]
   walk_at "z"
   rw[Zcq ZoF]
  | some x=>
   simp only[ZaH]
   walk_at "z"
   rw[Znf leO_some,Ziq]
def RIn(p q:Int×Int): Prop:=if q.1=0 then p=q else p.1 % q.1=0∧(p.2-q.2) % q.1=0
theorem Zx8(h:0<q.1∧0≤q.2∧q.2<q.1)(x:Int): x.fmod q.1=q.2↔(x-q.2) % q.1=0:=by
 rw[Int.fmod_eq_emod_of_nonneg _ (by omega)]
 constructor
 ·intro e
  rw[←e,Int.sub_emod,Int.emod_emod,Int.sub_self]
  simp
 ·intro e
  have:x % q.1=q.2 % q.1:=Int.emod_eq_emod_iff_emod_sub_eq_zero.mpr e
  rw[this,Int.emod_eq_of_lt h.2.1 h.2.2]
theorem Zx9(h:RestOk q)(x:Int): (if q.1=0 then x=q.2 else x.fmod q.1=q.2)↔ZaP q x:=by
 unfold ZaP
 rcases h with h | h
 ·rw[if_pos h];simp[h]
 ·rw[if_neg (by omega),Zx8 h]
  have h1:¬q.1=0:=by omega
  simp only[h1,false_implies,true_and,h.1,true_implies]
  rfl
theorem Zqn{x:Int}(h:RestOk q): Zer [ZZ q,.int x]=some (.bool (dec (ZaP q x))):=by
 apply Pk.eq
 unfold Zer Zmx ZZ
 rw[←Znf (Zx9 h x)]
 by_cases c:q.1=0
 ·walk_at "z"
  rw[if_pos c,Ziq]
 ·walk_at "z"
  rw[if_neg c,Ziq]
def ZjD(n:Nat)(G:Nat→Nat→Option Int)(R:Nat→Int×Int)(G':Nat→Nat→Option Int)(R':Nat→Int×Int): Prop:=(∀i,i<n+1→∀j,j<n+1→leO (G i j) (G' i j))∧∀t,t<n→RIn (R t) (R' t)
def Eu(m:Nat)(a b:Int): Prop:=0≤a∧0≤b∧∃k:Nat,a*b<2 ^ k∧m=2*k+if a<b then 1 else 0
theorem Eu.step{a b:Int}(h:Eu m a b)(hb:b≠0): ∃m',m'<m∧Eu m' b (a % b):=by
 obtain⟨h0,h1,k,h2,h3⟩:=h
 have hb':0<b:=by omega
 have r0:=Int.emod_nonneg a hb
 have r1:=Int.emod_lt_of_pos a hb'
 by_cases q:a<b
 ·rw[if_pos q]at h3
  have e:a % b=a:=Int.emod_eq_of_lt h0 q
  rw[e]
  exact⟨2*k,by omega,h1,h0,k,by rw[Int.mul_comm];exact h2,by rw[if_neg (by omega)];omega⟩
 ·rw[if_neg q]at h3
  have hd:=Int.emod_add_mul_ediv a b
  have hq:1≤a / b:=Int.le_ediv_of_mul_le hb' (by omega)
  have hm:b*1≤b*(a / b):=Int.mul_le_mul_of_nonneg_left hq h1
  have h2r:2*(a % b)<a:=by omega
  have hp:b*(2*(a % b))<b*a:=Int.mul_lt_mul_of_pos_left h2r hb'
  have hk:k≠0:=by
   rintro rfl
   have:0<a*b:=Int.mul_pos (by omega) hb'
   simp at h2
   omega
  obtain⟨k',rfl⟩:∃k',k=k'+1:=⟨k-1,by omega⟩
  refine⟨2*k',by omega,h1,r0,k',?_,by rw[if_neg (by omega)];omega⟩
  have e1:b*(2*(a % b))=2*(b*(a % b)):=by rw[←Int.mul_assoc,Int.mul_comm b 2,Int.mul_assoc]
  have e2:a*b=b*a:=Int.mul_comm _ _
  rw[Int.pow_succ]at h2
  omega
theorem Zi0{a b:Int}(ha:0≤a)(hb:0≤b)(ha2:a<2 ^ 200000)(hb2:b<2 ^ 200000): ∃m,m<1000000∧Eu m a b:=by
 refine⟨_,?_,ha,hb,400000,?_,rfl⟩
 ·split <;> omega
 ·have h1:a*b≤a*2 ^ 200000:=Int.mul_le_mul_of_nonneg_left (by omega) ha
  have h2:a*2 ^ 200000<2 ^ 200000*2 ^ 200000:=Int.mul_lt_mul_of_pos_right ha2 (Int.pow_pos (by decide))
  have h3:(2:Int) ^ 200000*2 ^ 200000=2 ^ 400000:=by rw[←Int.pow_add]
  omega
theorem Zhh{a b:Int}(hb:0<b): Int.gcd b (a % b)=Int.gcd a b:=by
 rw[Int.gcd_comm a b,Int.emod_def,Int.gcd_sub_mul_left_right]
theorem Zr5{a b:Int}: Int.gcd (Zbv a) (Zbv b)=Int.gcd a b:=by
 unfold Zbv Int.gcd
 split <;> split <;> simp
theorem Zjh{a:Int}(h:a.natAbs<2 ^ k): Zbv a<2 ^ k:=by
 have:((a.natAbs:Nat):Int)<2 ^ k:=by exact_mod_cast h
 unfold Zbv
 split <;> omega
theorem Zm7{a b:Int}(ha:a.natAbs<2 ^ 200000)(hb:b.natAbs<2 ^ 200000): ZfR [.int a,.int b]=some (.int (Int.gcd a b)):=by
 apply Pk.eq
 unfold ZfR Znh
 walk_at "z"
 obtain⟨m,hm,eu⟩:=Zi0 (ZdL a) (ZdL b) (Zjh ha) (Zjh hb)
 refine ZfZ (fun m σ=>∃c d:Int,σ 0=some (.int c)∧σ 1=some (.int d)∧Eu m c d∧Int.gcd c d=Int.gcd a b) _ _ ?_ 1000000 (m:=m) ⟨Zbv a,Zbv b,by walk_at "r",by walk_at "r",eu,Zr5⟩ hm
 rintro m σ ⟨c,d,e0,e1,eu,eg⟩
 walk_at "z"
 refine⟨fun h=>?_,fun h=>?_⟩
 ·have hd:d≠0:=by simpa using h
  have hd0:0≤d:=eu.2.1
  walk_at "z"
  rw[Int.fmod_eq_emod_of_nonneg _ hd0]
  obtain⟨m',h1,h2⟩:=eu.step hd
  exact⟨m',h1,d,c % d,by walk_at "r",by walk_at "r",h2,by rw[Zhh (by omega)];exact eg⟩
 ·have hd:d=0:=by simpa using h
  subst hd
  walk_at "z"
  rw[←eg,Int.gcd_zero_right]
  have:=eu.1
  congr 1
  omega
theorem Zge(ns:List Int)(k:Int): (Zca ns k).natAbs<2 ^ 134:=by
 have h:=ZsA ns k
 have h2:=Zjp
 have:(2:Nat) ^ 134=21778071482940061661655974875633165533184:=by decide
 omega
theorem Zcv{a:Nat}(h:a<2 ^ i)(hij:i≤j): a<2 ^ j:=Nat.lt_of_lt_of_le h (Nat.pow_le_pow_right (by decide) hij)
def SmG(k n:Nat)(G:Nat→Nat→Option Int): Prop:=∀i j,i<n+1→j<n+1→∀b,G i j=some b→b.natAbs<2 ^ k
def SmR(k n:Nat)(R:Nat→Int×Int): Prop:=∀t,t<n→(R t).1.natAbs<2 ^ k∧(R t).2.natAbs<2 ^ k
theorem Zig{m:Int}(h0:0≤m)(hm:m.natAbs<2 ^ k)(hr:r.natAbs<2 ^ k): (ZaE m r).1.natAbs<2 ^ k∧(ZaE m r).2.natAbs<2 ^ k:=by
 unfold ZaE
 split
 ·exact⟨Nat.two_pow_pos k,hr⟩
 ·have h1:=Int.fmod_nonneg_of_pos r (show 0<m by omega)
  have h2:=Int.fmod_lt_of_pos r (show 0<m by omega)
  exact⟨hm,by show(r.fmod m).natAbs<_;omega⟩
theorem Zog(a:Int): (Zbv a).natAbs=a.natAbs:=by unfold Zbv;split <;> omega
theorem ZuD{k x:Int}(hx:x.natAbs<2 ^ 134): (ZeH ns k x).1.natAbs<2 ^ 134∧(ZeH ns k x).2.natAbs<2 ^ 134:=by
 have h:=Zrr ns k
 have h2:=Zge ns k
 have e:(2:Nat) ^ 134=21778071482940061661655974875633165533184:=by decide
 unfold ZeH
 split
 ·exact⟨by show(1:Nat)<_;omega,by show(0:Nat)<_;omega⟩
 ·split
  ·exact⟨by show(0:Nat)<_;omega,hx⟩
  ·split
   ·exact Zig (by omega) (by omega) hx
   ·exact Zig (ZdL _) (by rw[Zog];exact h2) hx
theorem ZqH(hx:∀i,i<n→(x i).natAbs<2 ^ k)(i:Nat)(hi:i<n+1): (ZaZ x i).natAbs<2 ^ k:=by
 cases i with
 | zero=>exact Nat.two_pow_pos k
 | succ i=>exact hx i (by omega)
theorem Zw8{k:Int}(hx:∀i,i<n→(x i).natAbs<2 ^ 134): SmG 136 n (ZcD ns k n x):=by
 intro i j hi hj b h
 have e:(2:Nat) ^ 134=21778071482940061661655974875633165533184:=by decide
 have e2:(2:Nat) ^ 136=4*21778071482940061661655974875633165533184:=by decide
 have h40:=Zjp
 have h1:=ZqH hx i hi
 have h2:=ZqH hx j hj
 unfold ZcD at h
 split at h
 ·cases h;exact Nat.two_pow_pos _
 ·obtain⟨c,h3,h4⟩:=Zz1.mp h
  have:=Zw4 ns _ h3
  subst h4
  omega
theorem Zrs{k:Int}(hx:∀i,i<n→(x i).natAbs<2 ^ 134): SmR 134 n (Zgs ns k n x):=fun t ht=>ZuD (hx t ht)
theorem Zwa{g:PG}{a:Nat→T}(e:β→T)(P:Nat→β→Prop)(hn:n<10000)(hg:Pl (g σ) fun ts=>ts=tab n a)(hf:∀i,i<n→Pk (f (Z8 σ j (a i))) fun t=>∃y,t=e y∧P i y)(d:β)(h:∀y:Nat→β,(∀i,i<n→P i (y i))→Q (.lst (tab n fun i=>e (y i)))): Pk (Zan g (Zae j) Zai f σ) Q:=by
 have hc:∃y:Nat→β,∀i,i<n→Pk (f (Z8 σ j (a i))) (fun t=>t=e (y i))∧P i (y i):=by
  have hx:∀i,∃y:β,i<n→Pk (f (Z8 σ j (a i))) (fun t=>t=e y)∧P i y:=fun i=>by
   by_cases q:i<n
   ·obtain⟨t,e1,y,e2,p⟩:=hf i q
    exact⟨y,fun _=>⟨⟨t,e1,e2⟩,p⟩⟩
   ·exact⟨d,fun h=>absurd h q⟩
  exact⟨fun i=>Classical.choose (hx i),fun i=>Classical.choose_spec (hx i)⟩
 obtain⟨y,hy⟩:=hc
 exact ZbM hn hg (fun i hi=>(hy i hi).1) (h y fun i hi=>(hy i hi).2)
theorem ZiF(hn:n<10000)(e:Pk (g σ) fun t=>t=Zaj n G)(h:Q (Zaj n G)): Pk (Zan (ZaI g) (Zae j) Zai (pFl (Zv Zdi (Zd (Za j) Zm))) σ) Q:=by
 refine ZbM (n:=n) (a:=fun i=>Zar n (G i)) (b:=fun i=>Zar n (G i)) hn ?_ (fun i hi=>?_) h
 ·refine Zi9 (e.mono ?_)
  rintro _ rfl
  exact Sq.lst rfl
 ·unfold Zar
  walk_at "z"
  rfl
noncomputable def Zcj(G:Nat→Nat→Option Int)(i j:Nat)(v:Option Int): Nat→Nat→Option Int:=fun a b=>if a=i∧b=j then v else G a b
theorem Zgl: T.lst (tab n fun a=>T.lst (tab n fun b=>if a=i∧b=j then oT v else oT (G a b)))=Zaj n (Zcj G i j v):=by
 unfold Zaj Zar Zcj
 congr 2
 funext a
 congr 2
 funext b
 split <;> rfl
theorem Zd6: Zcj G i j v i j=v:=by simp[Zcj]
theorem Zdf{a:Nat}(h:¬(a=i∧b=j)): Zcj G i j v a b=G a b:=by simp[Zcj,h]
theorem Zdd: leO a a:=fun y e=>⟨y,e,Int.le_refl y⟩
theorem Zdb{b c:Option Int}(h:leO a b)(k:leO b c): leO a c:=fun y e=>by
 obtain⟨x,e1,l1⟩:=k y e
 obtain⟨w,e2,l2⟩:=h x e1
 exact⟨w,e2,by omega⟩
theorem ZjE{k:Int}(h0:0≤k)(h1:k<n): ∃i:Nat,k=i∧i<n:=⟨k.toNat,by omega,by omega⟩
theorem Zm8{a b:Int}(ha:a.natAbs<2 ^ 200000)(hb:b.natAbs<2 ^ 200000): ZeX [.int a,.int b]=some (.int (Int.gcd a b)):=by
 apply Pk.eq
 unfold ZeX Znk
 walk_at "z"
 obtain⟨m,hm,eu⟩:=Zi0 (ZdL a) (ZdL b) (Zjh ha) (Zjh hb)
 refine ZfZ (fun m σ=>∃c d:Int,σ 2=some (.int c)∧σ 3=some (.int d)∧Eu m c d∧Int.gcd c d=Int.gcd a b) _ _ ?_ 1000000 (m:=m) ⟨Zbv a,Zbv b,by walk_at "r",by walk_at "r",eu,Zr5⟩ hm
 rintro m σ ⟨c,d,e0,e1,eu,eg⟩
 walk_at "z"
 refine⟨fun h=>?_,fun h=>?_⟩
 ·have hd:d≠0:=by simpa using h
  have hd0:0≤d:=eu.2.1
  walk_at "z"
  rw[Int.fmod_eq_emod_of_nonneg _ hd0]
  obtain⟨m',h1,h2⟩:=eu.step hd
  exact⟨m',h1,d,c % d,by walk_at "r",by walk_at "r",h2,by rw[Zhh (by omega)];exact eg⟩
 ·have hd:d=0:=by simpa using h
  subst hd
  walk_at "z"
  rw[←eg,Int.gcd_zero_right]
  have:=eu.1
  congr 1
  omega
def Bd(k:Nat)(x:Int): Prop:=x.natAbs<2 ^ k
theorem Bd.mono{x:Int}(h:Bd i x)(hij:i≤j): Bd j x:=Zcv h hij
theorem Zcn{x:Int}(h:Bd i x)(k:Bd j y)(hi:i≤1000000)(hj:j≤1000000): mulOk x y=true:=Zrf (Nat.le_trans (PyProof.Rows.intBits_le h) (Nat.le_trans hi (by decide))) (Nat.le_trans (PyProof.Rows.intBits_le k) (Nat.le_trans hj (by decide)))
theorem Bd.mul{x:Int}(h:Bd i x)(k:Bd j y): Bd (i+j) (x*y):=by
 unfold Bd at *
 rw[Int.natAbs_mul,Nat.pow_add]
 exact Nat.mul_lt_mul'' h k
theorem Bd.add{x:Int}(h:Bd i x)(k:Bd i y): Bd (i+1) (x+y):=by
 unfold Bd at *
 rw[Nat.pow_succ]
 omega
theorem Bd.sub{x:Int}(h:Bd i x)(k:Bd i y): Bd (i+1) (x-y):=by
 unfold Bd at *
 rw[Nat.pow_succ]
 omega
theorem Zcg{x:Int}(h:Bd i y)(hi:i≤9000): Builtin.divisionGoesByPylong x y=false:=by
 refine PyProof.noPylong_of_log2 ?_
 by_cases h0:y.natAbs=0
 ·rw[h0];decide +kernel
 ·exact Nat.lt_of_lt_of_le ((Nat.log2_lt h0).mpr h) hi
theorem Zdm{x:Int}(h:Bd i y)(h0:0≤x)(h1:x≤y): Bd i x:=by unfold Bd at *;omega
theorem Zej(h:1≤i): Bd i 1:=Zcv (i:=1) (by decide) h
theorem ZcN: Bd i 0:=Nat.two_pow_pos i
theorem Zvf{a b:Int}(hb:0<b)(kb:Bd k b)(hk:k≤8000)(ha:0≤a)(hg:Int.gcd a b=1): Pk (ZiN [.int a,.int b]) fun t=>∃x:Int,t=.int x∧0≤x∧x<b∧∃q,a*x=1+b*q:=by
 unfold ZiN Znn
 walk_at "z"
 rw[Int.fmod_eq_emod_of_nonneg _ (by omega)]
 have r0:=Int.emod_nonneg a (show b≠0 by omega)
 have r1:=Int.emod_lt_of_pos a hb
 have hlt:∀x:Int,0≤x→x≤b→x<2 ^ 200000:=fun x h0 h1=>by
  have h2:b.natAbs<2 ^ 200000:=Zcv kb (by omega)
  have h3:((b.natAbs:Nat):Int)<2 ^ 200000:=by exact_mod_cast h2
  omega
 obtain⟨m,hm,eu⟩:=Zi0 r0 (show 0≤b by omega) (hlt _ r0 (by omega)) (hlt b (by omega) (by omega))
 have hg0:Int.gcd (a % b) b=1:=by
  rw[Int.gcd_comm,Zhh hb];exact hg
 refine ZfZ (fun m σ=>∃l r s t:Int,σ 1=some (.int b)∧σ 2=some (.int l)∧σ 3=some (.int r)∧σ 4=some (.int s)∧σ 5=some (.int t)∧Eu m l r∧Int.gcd l r=1∧l≤b∧r≤b∧(∃q,s*a=l+b*q)∧(∃q,t*a=r+b*q)∧(s.natAbs:Int)*r+(t.natAbs:Int)*l≤b∧(1≤l∨t=0)) _ _ ?_ 1000000 (m:=m) ⟨a % b,b,1,0,by walk_at "r",by walk_at "r",by walk_at "r",by walk_at "r",by walk_at "r",eu,hg0,by omega,by omega,⟨a / b,?_⟩,⟨-1,by omega⟩,by simp,.inr rfl⟩ hm
 ·rintro m σ ⟨l,r,s,t,e1,e2,e3,e4,e5,eu,gl,lb,rb,⟨q1,h1⟩,⟨q2,h2⟩,hb1,hl⟩
  walk_at "z"
  refine⟨fun h=>?_,fun h=>?_⟩
  ·have hr:r≠0:=by simpa using h
   have hr0:0≤r:=eu.2.1
   have hl0:0≤l:=eu.1
   have hrp:0<r:=by omega
   have kr:Bd k r:=Zdm kb hr0 rb
   have kl:Bd k l:=Zdm kb hl0 lb
   have hdiv0:0≤l / r:=Int.ediv_nonneg hl0 hr0
   have hdiv1:l / r≤l:=Int.ediv_le_self _ hl0
   have ks:(s.natAbs:Int)≤b:=by
    have:(s.natAbs:Int)*1≤(s.natAbs:Int)*r:=Int.mul_le_mul_of_nonneg_left (by omega) (by omega)
    have:0≤(t.natAbs:Int)*l:=Int.mul_nonneg (by omega) hl0
    omega
   have kt:(t.natAbs:Int)≤b:=by
    rcases hl with hl | hl
    ·have:(t.natAbs:Int)*1≤(t.natAbs:Int)*l:=Int.mul_le_mul_of_nonneg_left (by omega) (by omega)
     have:0≤(s.natAbs:Int)*r:=Int.mul_nonneg (by omega) hr0
     omega
    ·rw[hl];simp;omega
   have kt':Bd k t:=by unfold Bd at *;omega
   have kd:Bd k (l / r):=Zdm kl hdiv0 hdiv1
   walk_at "z"
   refine ZbO hr (Zcg kr (by omega)) ?_
   rw[Int.fdiv_eq_ediv_of_nonneg _ hr0]
   walk_at "z"
   refine ZbP (Zcn kd kr (by omega) (by omega)) ?_
   walk_at "z"
   refine ZbP (Zcn kd kt' (by omega) (by omega)) ?_
   walk_at "z"
   have hover:l-l / r*r=l % r:=by
    have:=Int.emod_add_mul_ediv l r
    rw[Int.mul_comm r (l / r)]at this
    omega
   rw[hover]
   obtain⟨m',hm1,hm2⟩:=eu.step hr
   have o0:=Int.emod_nonneg l hr
   have o1:=Int.emod_lt_of_pos l hrp
   refine⟨m',hm1,r,l % r,t,s-l / r*t,by walk_at "r",by walk_at "r",by walk_at "r",by walk_at "r",by walk_at "r",hm2,by rw[Zhh hrp];exact gl,rb,by omega,⟨q2,h2⟩,⟨q1-l / r*q2,?_⟩,?_,.inl (by omega)⟩
   ·rw[Int.sub_mul,h1,Int.mul_assoc,h2,Int.mul_add,Int.mul_sub,←hover]
    have e1:b*(l / r*q2)=l / r*(b*q2):=by rw[←Int.mul_assoc,Int.mul_comm b,Int.mul_assoc]
    rw[e1]
    omega
   ·have ht:((s-l / r*t).natAbs:Int)≤(s.natAbs:Int)+l / r*(t.natAbs:Int):=by
     have h3:(s-l / r*t).natAbs≤s.natAbs+(l / r*t).natAbs:=by omega
     have h4:(l / r*t).natAbs=(l / r).natAbs*t.natAbs:=Int.natAbs_mul ..
     have h5:(((l / r).natAbs*t.natAbs:Nat):Int)=l / r*(t.natAbs:Int):=by
      rw[Int.natCast_mul,Int.natAbs_of_nonneg hdiv0]
     rw[h4]at h3
     omega
    have h6:((s-l / r*t).natAbs:Int)*r≤((s.natAbs:Int)+l / r*(t.natAbs:Int))*r:=Int.mul_le_mul_of_nonneg_right ht hr0
    have h7:((s.natAbs:Int)+l / r*(t.natAbs:Int))*r=(s.natAbs:Int)*r+(t.natAbs:Int)*(l / r*r):=by
     rw[Int.add_mul,Int.mul_comm (l / r) (t.natAbs:Int),Int.mul_assoc]
    have h8:(t.natAbs:Int)*(l % r)+(t.natAbs:Int)*(l / r*r)=(t.natAbs:Int)*l:=by
     rw[←Int.mul_add,←hover]
     congr 1
     omega
    omega
  ·have hr:r=0:=by simpa using h
   subst hr
   rw[Int.gcd_zero_right]at gl
   have hl1:l=1:=by have:=eu.1;omega
   subst hl1
   walk_at "z"
   rw[Int.fmod_eq_emod_of_nonneg _ (by omega)]
   refine⟨s % b,rfl,Int.emod_nonneg _ (by omega),Int.emod_lt_of_pos _ hb,q1-s / b*a,?_⟩
   have h3:=Int.emod_add_mul_ediv s b
   have h4:s % b=s-b*(s / b):=by omega
   rw[h4,Int.mul_sub,Int.mul_comm a s,h1,Int.mul_sub]
   have e1:a*(b*(s / b))=b*(s / b*a):=by rw[Int.mul_comm a,Int.mul_assoc]
   rw[e1]
   omega
 ·have h3:=Int.emod_add_mul_ediv a b
  rw[Int.one_mul]
  omega
theorem ZgJ{m:Int}(h:0≤m): Zd9 [.int m,.int r]=some (ZZ (ZaE m r)):=by
 apply Pk.eq
 unfold Zd9 ZoX ZaE
 by_cases c:m=0
 ·walk_at "z"
  rw[if_pos c];rfl
 ·walk_at "z"
  rw[if_neg c];rfl
theorem Zbq(h:0≤q.1)(x:Int): ZaP q x↔q.1 ∣ x-q.2:=by
 unfold ZaP
 by_cases c:q.1=0
 ·rw[c]
  simp
  omega
 ·have:0<q.1:=by omega
  simp only[c,false_implies,true_and,this,true_implies]
  exact(Int.dvd_iff_emod_eq_zero).symm
theorem Zwb{m:Int}(h:0≤m): 0≤(ZaE m r).1:=by unfold ZaE;split <;> simp[h]
theorem Zdt{m:Int}(h:0≤m)(x:Int): ZaP (ZaE m r) x↔m ∣ x-r:=by
 rw[Zbq (Zwb h)]
 unfold ZaE
 split
 ·rename_i c;subst c;rfl
 ·show m ∣ x-r.fmod m↔_
  rw[Int.fmod_eq_emod_of_nonneg _ h]
  have h1:x-r % m=(x-r)+m*(r / m):=by have:=Int.emod_add_mul_ediv r m;omega
  rw[h1]
  constructor
  ·intro q
   have:=Int.dvd_sub q (Int.dvd_mul_right m (r / m))
   rwa [Int.add_sub_cancel]at this
  ·intro q
   exact Int.dvd_add q (Int.dvd_mul_right m (r / m))
theorem RestOk.nn(h:RestOk q): 0≤q.1:=by rcases h with h | h <;> omega
theorem RestOk.self(h:RestOk q): ZaP q q.2:=by rw[Zbq h.nn];simp
theorem ZgS(hp:RestOk p)(hq:RestOk q)(h:∀x,ZaP p x↔ZaP q x): p=q:=by
 have e1:∀x,p.1 ∣ x-p.2↔q.1 ∣ x-q.2:=fun x=>by rw[←Zbq hp.nn,←Zbq hq.nn];exact h x
 have a1:q.1 ∣ p.2-q.2:=(e1 p.2).mp (by simp)
 have a2:q.1 ∣ p.2+p.1-q.2:=(e1 (p.2+p.1)).mp (by rw[show p.2+p.1-p.2=p.1 by omega];exact Int.dvd_refl _)
 have b1:p.1 ∣ q.2-p.2:=(e1 q.2).mpr (by simp)
 have b2:p.1 ∣ q.2+q.1-p.2:=(e1 (q.2+q.1)).mpr (by rw[show q.2+q.1-q.2=q.1 by omega];exact Int.dvd_refl _)
 have c1:q.1 ∣ p.1:=by have:=Int.dvd_sub a2 a1;rwa [show p.2+p.1-q.2-(p.2-q.2)=p.1 by omega]at this
 have c2:p.1 ∣ q.1:=by have:=Int.dvd_sub b2 b1;rwa [show q.2+q.1-p.2-(q.2-p.2)=q.1 by omega]at this
 have em:p.1=q.1:=Int.dvd_antisymm hp.nn hq.nn c2 c1
 have er:p.2=q.2:=by
  rcases hp with hp | hp
  ·rw[hp]at em
   rw[←em]at a1
   have:=Int.zero_dvd.mp a1
   omega
  ·rcases hq with hq | hq
   ·omega
   ·rw[←em]at a1 hq
    obtain⟨k,hk⟩:=a1
    have:k=0:=by
     rcases Int.lt_trichotomy k 0 with h | h | h
     ·have:p.1*k≤p.1*(-1):=Int.mul_le_mul_of_nonneg_left (by omega) (by omega)
      omega
     ·exact h
     ·have:p.1*1≤p.1*k:=Int.mul_le_mul_of_nonneg_left (by omega) (by omega)
      omega
    subst this
    simp at hk
    omega
 exact Prod.ext em er
def RBd(k:Nat)(q:Int×Int): Prop:=Bd k q.1∧Bd k q.2
theorem ZiT{m:Int}(h0:0≤m)(hm:Bd k m)(hr:Bd k r): RBd k (ZaE m r):=Zig h0 hm hr
noncomputable def ZbA(p q:Int×Int): Int×Int:=ZaE (Int.gcd p.1 q.1) (p.2+q.2)
theorem Zi1(p q:Int×Int): RestOk (ZbA p q):=ZcP (by omega) _
theorem ZlG(hk:k≤200000)(hp:Bd k p.1)(hq:Bd k q.1): ZfB [ZZ p,ZZ q]=some (ZZ (ZbA p q)):=by
 apply Pk.eq
 unfold ZfB ZlS ZZ ZbA
 walk_at "z"
 refine ZF (Zm8 (Zcv hp hk) (Zcv hq hk)) ?_
 walk_at "z"
 exact ZF (ZgJ (by omega)) rfl
noncomputable def Zdk(p:Int×Int)(k:Int): Int×Int:=ZaE (p.1*Zbv k) (p.2*k)
theorem ZpU{c:Int}(hk:k≤200000)(hp0:0≤p.1)(hp:RBd k p)(hc:Bd k c): Zfy [ZZ p,.int c]=some (ZZ (Zdk p c)):=by
 apply Pk.eq
 unfold Zfy Zll ZZ Zdk
 have ha:Bd k (Zbv c):=by unfold Bd at *;rw[Zog];exact hc
 walk_at "z"
 refine ZbP (Zcn hp.1 ha (by omega) (by omega)) ?_
 walk_at "z"
 refine ZbP (Zcn hp.2 hc (by omega) (by omega)) ?_
 walk_at "z"
 exact ZF (ZgJ (Int.mul_nonneg hp0 (ZdL c))) rfl
noncomputable def ZdN(p:Int×Int)(top:Int): Option Int:=if p.1=0 then(if p.2≤top then some p.2 else none)else some (top-(top-p.2) % p.1)
theorem ZtT{top:Int}(hp:0≤p.1): Zia [ZZ p,.int top]=some (oT (ZdN p top)):=by
 apply Pk.eq
 unfold Zia Zlp ZZ ZdN
 by_cases c:p.1=0
 ·rw[if_pos c]
  by_cases d:p.2≤top
  ·walk_at "z"
   rw[if_pos d];rfl
  ·walk_at "z"
   rw[if_neg d];rfl
 ·rw[if_neg c]
  walk_at "z"
  rw[Int.fmod_eq_emod_of_nonneg _ hp]
  rfl
noncomputable def oR: Option (Int×Int)→T
 | none=>.none
 | some q=>ZZ q
def Met(p q:Int×Int)(o:Option (Int×Int)): Prop:=match o with
 | none=>∀x,¬(ZaP p x∧ZaP q x)
 | some r=>RestOk r∧(∀x,ZaP r x↔ZaP p x∧ZaP q x)
theorem Zvg{a b:Option (Int×Int)}(ha:Met p q a)(hb:Met p q b): a=b:=by
 cases a with
 | none=>
  cases b with
  | none=>rfl
  | some r=>exact absurd ((hb.2 r.2).mp hb.1.self) (ha r.2)
 | some s=>
  cases b with
  | none=>exact absurd ((ha.2 s.2).mp ha.1.self) (hb s.2)
  | some r=>rw[ZgS ha.1 hb.1 fun x=>(ha.2 x).trans (hb.2 x).symm]
theorem Zqo(hk:k≤8000)(op:RestOk p)(oq:RestOk q)(bp:RBd k p)(bq:RBd k q): Pk (ZfD [ZZ p,ZZ q]) fun t=>∃o,t=oR o∧Met p q o∧∀r,o=some r→(r=p∨r=q∨(p.1≠0∧q.1≠0∧r.1=Int.lcm p.1 q.1)):=by
 unfold ZfD Zmz
 have ep:ZZ p=.tup [.int p.1,.int p.2]:=rfl
 have eq:ZZ q=.tup [.int q.1,.int q.2]:=rfl
 have np:=op.nn
 have nq:=oq.nn
 by_cases c1:p.1=0
 ·rw[ep]
  walk_at "z"
  refine ZF (Zqn oq) ?_
  walk_at "z"
  have hone:∀x,ZaP p x↔x=p.2:=fun x=>by rw[Zbq np,c1,Int.zero_dvd];omega
  refine⟨fun e=>?_,fun e=>?_⟩
  ·walk_at "z"
   refine⟨some p,rfl,⟨op,fun x=>⟨fun h=>⟨h,?_⟩,fun h=>h.1⟩⟩,fun r e=>by cases e;exact .inl rfl⟩
   rw[(hone x).mp h];exact dec_iff.mp e
  ·walk_at "z"
   refine⟨none,rfl,fun x h=>?_,by simp⟩
   have:=(hone x).mp h.1
   subst this
   have h2:=Zbo h.2
   rw[h2]at e
   cases e
 by_cases c2:q.1=0
 ·have hone:∀x,ZaP q x↔x=q.2:=fun x=>by rw[Zbq nq,c2,Int.zero_dvd];omega
  rw[ep,eq]
  walk_at "z"
  rw[←ep]
  refine ZF (Zqn op) ?_
  walk_at "z"
  refine⟨fun e=>?_,fun e=>?_⟩
  ·walk_at "z"
   refine⟨some q,rfl,⟨oq,fun x=>⟨fun h=>⟨?_,h⟩,fun h=>h.2⟩⟩,fun r e=>by cases e;exact .inr (.inl rfl)⟩
   rw[(hone x).mp h];exact dec_iff.mp e
  ·walk_at "z"
   refine⟨none,rfl,fun x h=>?_,by simp⟩
   have:=(hone x).mp h.2
   subst this
   have h2:=Zbo h.1
   rw[h2]at e
   cases e
 ·have pp:0<p.1:=by omega
  have pq:0<q.1:=by omega
  obtain⟨g,hg⟩:∃g:Nat,Int.gcd p.1 q.1=g:=⟨_,rfl⟩
  have hg0:0<(g:Int):=by
   have:Int.gcd p.1 q.1≠0:=fun h=>c1 (Int.gcd_eq_zero_iff.mp h).1
   omega
  have gp:(g:Int) ∣ p.1:=by rw[←hg];exact Int.gcd_dvd_left ..
  have gq:(g:Int) ∣ q.1:=by rw[←hg];exact Int.gcd_dvd_right ..
  obtain⟨a,ea⟩:=gp
  obtain⟨b,eb⟩:=gq
  have ha:0<a:=by
   rcases Int.lt_trichotomy a 0 with h | h | h
   ·have:=Int.mul_neg_of_pos_of_neg hg0 h;omega
   ·subst h;simp at ea;omega
   ·exact h
  have hb:0<b:=by
   rcases Int.lt_trichotomy b 0 with h | h | h
   ·have:=Int.mul_neg_of_pos_of_neg hg0 h;omega
   ·subst h;simp at eb;omega
   ·exact h
  have da:p.1 / g=a:=by rw[ea];exact Int.mul_ediv_cancel_left _ (by omega)
  have db:q.1 / g=b:=by rw[eb];exact Int.mul_ediv_cancel_left _ (by omega)
  have kg:Bd k (g:Int):=Zdm bp.1 (by omega) (by
   rw[ea]
   have:(g:Int)*1≤g*a:=Int.mul_le_mul_of_nonneg_left (by omega) (by omega)
   omega)
  have kb:Bd k b:=Zdm bq.1 (by omega) (by
   rw[eb]
   have:1*b≤g*b:=Int.mul_le_mul_of_nonneg_right (by omega) (by omega)
   omega)
  have cop:Int.gcd a b=1:=by
   have h1:=Int.gcd_mul_left (g:Int) a b
   rw[←ea,←eb,hg,Int.natAbs_natCast]at h1
   have h2:g*1=g*Int.gcd a b:=by omega
   exact(Nat.eq_of_mul_eq_mul_left (by omega) h2).symm
  rw[ep,eq]
  walk_at "z"
  refine ZF (Zm8 (Zcv bp.1 (by omega)) (Zcv bq.1 (by omega))) ?_
  rw[hg]
  walk_at "z"
  rw[Int.fmod_eq_emod_of_nonneg _ (by omega)]
  by_cases c3:(q.2-p.2) % (g:Int)=0
  ·obtain⟨d,ed⟩:=Int.dvd_of_emod_eq_zero c3
   have dd:(q.2-p.2) / g=d:=by rw[ed];exact Int.mul_ediv_cancel_left _ (by omega)
   have kd:Bd (k+1) d:=by
    have h1:Bd (k+1) (q.2-p.2):=Bd.sub bq.2 bp.2
    unfold Bd at *
    rw[ed,Int.natAbs_mul]at h1
    have:1*d.natAbs≤(g:Int).natAbs*d.natAbs:=Nat.mul_le_mul_right _ (by omega)
    omega
   walk_at "z"
   refine ZbO (by omega) (Zcg kg (by omega)) ?_
   rw[Int.fdiv_eq_ediv_of_nonneg _ (by omega),db]
   walk_at "z"
   refine ZbO (by omega) (Zcg kg (by omega)) ?_
   rw[Int.fdiv_eq_ediv_of_nonneg _ (by omega),dd]
   walk_at "z"
   refine ZbO (by omega) (Zcg kg (by omega)) ?_
   rw[Int.fdiv_eq_ediv_of_nonneg _ (by omega),da]
   walk_at "z"
   refine(Zvf hb kb hk (by omega) cop).mono ?_
   rintro _ ⟨y,rfl,y0,y1,z,hz⟩
   have ky:Bd k y:=Zdm kb y0 (by omega)
   walk_at "z"
   refine ZbP (Zcn kd ky (by omega) (by omega)) ?_
   walk_at "z"
   refine ZbP (Zcn bp.1 kb (by omega) (by omega)) ?_
   walk_at "z"
   refine ZbP (Zcn bp.1 (Bd.mul kd ky) (by omega) (by omega)) ?_
   walk_at "z"
   have hL:(p.1*b).natAbs=Int.lcm p.1 q.1:=by
    have h1:=Int.gcd_mul_lcm p.1 q.1
    rw[hg]at h1
    have h2:p.1.natAbs*q.1.natAbs=g*(p.1*b).natAbs:=by
     rw[Int.natAbs_mul]
     conv=>lhs;rw[show q.1.natAbs=g*b.natAbs by rw[eb,Int.natAbs_mul,Int.natAbs_natCast]]
     rw[←Nat.mul_assoc,Nat.mul_comm p.1.natAbs g,Nat.mul_assoc]
    have h3:g*Int.lcm p.1 q.1=g*(p.1*b).natAbs:=by omega
    exact(Nat.eq_of_mul_eq_mul_left (by omega) h3).symm
   have hpb:0<p.1*b:=Int.mul_pos pp hb
   refine ZF (ZgJ (by omega)) ⟨some _,rfl,⟨ZcP (by omega) _,fun x=>?_⟩,fun r e=>?_⟩
   ·rw[Zdt (by omega),Zbq np,Zbq nq]
    have hx0:p.1*(d*y)=(q.2-p.2)+q.1*(d*z):=by
     rw[ed,ea,eb]
     have:(g:Int)*a*(d*y)=g*d*(a*y):=by
      rw[Int.mul_assoc,Int.mul_assoc,Int.mul_left_comm a d y]
     rw[this,hz,Int.mul_add,Int.mul_one]
     congr 1
     rw[Int.mul_assoc,Int.mul_assoc,Int.mul_left_comm d b z]
    constructor
    ·intro h
     have h1:p.1 ∣ x-(p.2+p.1*(d*y)):=Int.dvd_trans (Int.dvd_mul_right _ _) h
     have h2:q.1 ∣ x-(p.2+p.1*(d*y)):=Int.dvd_trans ⟨a,by rw[ea,eb];rw[Int.mul_assoc,Int.mul_assoc,Int.mul_comm a b]⟩ h
     refine⟨?_,?_⟩
     ·have:=Int.dvd_add h1 (Int.dvd_mul_right p.1 (d*y))
      rwa [show x-(p.2+p.1*(d*y))+p.1*(d*y)=x-p.2 by omega]at this
     ·have:=Int.dvd_add h2 (Int.dvd_mul_right q.1 (d*z))
      rwa [show x-(p.2+p.1*(d*y))+q.1*(d*z)=x-q.2 by omega]at this
    ·rintro⟨h1,h2⟩
     have h3:p.1 ∣ x-(p.2+p.1*(d*y)):=by
      have:=Int.dvd_sub h1 (Int.dvd_mul_right p.1 (d*y))
      rwa [show x-p.2-p.1*(d*y)=x-(p.2+p.1*(d*y))by omega]at this
     have h4:q.1 ∣ x-(p.2+p.1*(d*y)):=by
      have:=Int.dvd_sub h2 (Int.dvd_mul_right q.1 (d*z))
      rwa [show x-q.2-q.1*(d*z)=x-(p.2+p.1*(d*y))by omega]at this
     have h5:=Int.lcm_dvd (Int.dvd_natAbs.mpr h3) (Int.dvd_natAbs.mpr h4)
     rw[←hL]at h5
     have h6:(((p.1*b).natAbs:Nat):Int) ∣ (((x-(p.2+p.1*(d*y))).natAbs:Nat):Int):=Int.natCast_dvd_natCast.mpr h5
     exact Int.natAbs_dvd.mp (Int.dvd_natAbs.mp h6)
   ·cases e
    refine .inr (.inr ⟨c1,c2,?_⟩)
    unfold ZaE
    rw[if_neg (by omega)]
    show p.1*b=_
    rw[←hL]
    omega
  ·walk_at "z"
   refine⟨none,rfl,fun x h=>c3 ?_,by simp⟩
   rw[Zbq np,Zbq nq]at h
   have h1:(g:Int) ∣ x-p.2:=Int.dvd_trans ⟨a,ea⟩ h.1
   have h2:(g:Int) ∣ x-q.2:=Int.dvd_trans ⟨b,eb⟩ h.2
   have h3:=Int.dvd_sub h1 h2
   rw[show x-p.2-(x-q.2)=q.2-p.2 by omega]at h3
   exact Int.emod_eq_zero_of_dvd h3
theorem ZsB{a b:Int}(ha:Bd k a)(hb:Bd k b): Bd k ((Int.gcd a b:Nat):Int):=by
 unfold Bd at *
 rw[Int.natAbs_natCast]
 by_cases z:a=0
 ·rw[z,Int.gcd_zero_left];exact hb
 ·exact Nat.lt_of_le_of_lt (Nat.gcd_le_left _ (by omega)) ha
noncomputable def ZcG(a b:Option Int): Option Int:=if dec (leO a b)then a else b
noncomputable def addO: Option Int→Option Int→Option Int
 | some a,some b=>some (a+b)
 | _,_=>none
theorem addO_some{b:Option Int}{c:Int}: addO a b=some c↔∃x y,a=some x∧b=some y∧x+y=c:=by
 cases a <;> cases b <;> simp[addO]
theorem leO_total{b:Option Int}(h:¬leO a b): leO b a:=by
 cases a with
 | none=>exact Zf3
 | some x=>
  cases b with
  | none=>exact absurd Zf3 h
  | some y=>rw[leO_some]at h ⊢;omega
theorem Zo5{b:Option Int}: leO (ZcG a b) a:=by
 unfold ZcG
 split
 ·exact Zdd
 ·rename_i h;exact leO_total fun q=>h (Zbo q)
theorem ZsC{b:Option Int}: leO (ZcG a b) b:=by
 unfold ZcG
 split
 ·rename_i h;exact dec_iff.mp h
 ·exact Zdd
theorem Zhq(a b:Option Int): ZcG a b=a∨ZcG a b=b:=by
 unfold ZcG;split <;> simp
theorem Zug{b:Option Int}(h:leO a b)(k:leO b a): a=b:=by
 cases a with
 | none=>
  cases b with
  | none=>rfl
  | some y=>exact absurd h ZoF
 | some x=>
  cases b with
  | none=>exact absurd k ZoF
  | some y=>rw[leO_some]at h k;rw[show x=y by omega]
theorem Zr6{b:Option Int}(h:leO a b): ZcG a b=a:=by unfold ZcG;rw[Zbo h];rfl
theorem ZfW{b c d:Option Int}(h:leO a c)(k:leO b d): leO (addO a b) (addO c d):=by
 intro y e
 obtain⟨p,q,rfl,rfl,rfl⟩:=addO_some.mp e
 obtain⟨p',rfl,l1⟩:=h p rfl
 obtain⟨q',rfl,l2⟩:=k q rfl
 exact⟨p'+q',rfl,by omega⟩
theorem ZsD: addO a (some 0)=a:=by cases a <;> simp[addO]
theorem ZsE: addO (some 0) a=a:=by cases a <;> simp[addO]
theorem Zg2{b c:Option Int}: addO (addO a b) c=addO a (addO b c):=by cases a <;> cases b <;> cases c <;> simp[addO,Int.add_assoc]
theorem ZgT{b:Option Int}: ZdX [oT a,oT b]=some (oT (addO a b)):=by
 apply Pk.eq
 unfold ZdX ZmC
 cases a with
 | none=>
  rw[Zbx]
  walk_at "z"
  rfl
 | some x=>
  cases b with
  | none=>
   rw[Zbx,ZaH]
   walk_at "z"
   rfl
  | some y=>
   rw[ZaH,ZaH]
   walk_at "z"
   rfl
theorem Zwc{b:Option Int}: Zhe [oT a,oT b]=some (oT (ZcG a b)):=by
 apply Pk.eq
 unfold Zhe Zn6 ZcG
 walk_at "z"
 refine ZF Zuf ?_
 walk_at "z"
 refine⟨fun e=>?_,fun e=>?_⟩
 ·walk_at "z"
  rw[e];rfl
 ·walk_at "z"
  rw[e];rfl
noncomputable def ZbW(G:Nat→Nat→Option Int)(m:Nat): Nat→Nat→Option Int:=fun i j=>ZcG (G i j) (addO (G i m) (G m j))
theorem Zs1{a b:Nat→Option Int}{c:Option Int}(hn:n<10000): ZhS [Zar n a,oT c,Zar n b]=some (Zar n fun j=>ZcG (a j) (addO c (b j))):=by
 apply Pk.eq
 unfold ZhS Zj8 Zar
 walk_at "z"
 refine Zn1 (n:=n) (a:=fun j=>oT (a j)) (b:=fun j=>oT (b j)) (c:=fun j=>oT (ZcG (a j) (addO c (b j)))) hn ?_ (fun j hj=>?_) ?_
 ·walk_at "z"
  rfl
 ·walk_at "z"
  refine ZF ZgT ?_
  walk_at "z"
  exact ZF Zwc ⟨Zgb,rfl⟩
 rfl
theorem Zuh(hn:n<10000)(hm:m<n): Zil [Zaj n G,.int m]=some (Zaj n (ZbW G m)):=by
 apply Pk.eq
 unfold Zil ZlW Zaj
 walk_at "z"
 refine ZbM (n:=n) (a:=fun i=>Zar n (G i)) (b:=fun i=>Zar n (ZbW G m i)) hn ?_ (fun i hi=>?_) ?_
 ·walk_at "z"
  rfl
 ·have h:Zar n (G i)=.lst (tab n fun j=>oT (G i j)):=rfl
  rw[h]
  walk_at "z"
  rw[←h]
  exact ZF (Zs1 hn) rfl
 rfl
def Neg(n:Nat)(G:Nat→Nat→Option Int): Prop:=∃i,i<n∧∃b,G i i=some b∧b<0
theorem Zw9(hn:n≤1000)(hd:∀i,i<n→∃b,G i i=some b): ZhX [Zaj n G]=some (.bool (dec (Neg n G))):=by
 apply Pk.eq
 unfold ZhX Zkq Zaj Zar
 walk_at "z"
 refine ZbM (n:=n) (a:=fun i=>.int i) (b:=fun i=>.bool (dec (∃b,G i i=some b∧b<0))) (by omega) ?_ (fun i hi=>?_) ?_
 ·walk_at "z"
  rfl
 ·walk_at "z"
  obtain⟨b,e⟩:=hd i hi
  rw[e,ZaH]
  walk_at "z"
  rw[Ziq]
  congr 1
  refine Znf ⟨fun h=>⟨b,rfl,h⟩,?_⟩
  rintro⟨c,e,h⟩
  cases e
  exact h
 walk_at "z"
 rfl
noncomputable def clG(G:Nat→Nat→Option Int): Nat→Nat→Nat→Option Int
 | 0=>G
 | m+1=>ZbW (clG G m) m
theorem Zrt(h:∃b,G i i=some b): ∃b,ZbW G m i i=some b:=by
 obtain⟨b,e⟩:=h
 have:=Zo5 (a:=G i i) (b:=addO (G i m) (G m i))
 rw[e]at this
 obtain⟨c,e2,_⟩:=this b rfl
 exact⟨c,by unfold ZbW;rw[e];exact e2⟩
theorem ZoG{n:Nat}{G:Nat→Nat→Option Int}(hd:∀i,i<n→∃b,G i i=some b): ∀m i,i<n→∃b,clG G m i i=some b
 | 0=>hd
 | m+1=>fun i hi=>Zrt (ZoG hd m i hi)
theorem Zwd(h0:0<n)(hn:n≤1000)(hd:∀i,i<n→∃b,G i i=some b): Pk (Zhf [Zaj n G]) fun t=>(t=Zaj n (clG G n)∧∀m,m<n→¬Neg n (clG G (m+1)))∨(t=.none∧∃m,m<n∧Neg n (clG G (m+1))):=by
 unfold Zhf Zn8
 have hg:Zaj n G=.lst (tab n fun i=>Zar n (G i)):=rfl
 walk_at "z"
 refine Zx1 (n:=n) (a:=fun i=>.int i) h0 ?_ (P:=fun i σ=>σ 1=some (Zaj n (clG G i))∧∀m,m<i→¬Neg n (clG G (m+1))) ⟨rfl,by omega⟩ ?_ ?_
 ·walk_at "z"
  rw[hg]
  walk_at "z"
  rfl
 ·rintro i σ hi ⟨e1,e2⟩
  walk_at "z"
  refine ZF (Zuh (by omega) hi) ?_
  walk_at "z"
  refine ZF (Zw9 hn fun a ha=>Zrt (ZoG hd i a ha)) ?_
  walk_at "z"
  refine⟨fun e=>?_,fun e=>?_⟩
  ·walk_at "z"
   exact .inr ⟨rfl,i,hi,dec_iff.mp e⟩
  ·walk_at "z"
   refine⟨by walk_at "r",fun m hm=>?_⟩
   by_cases q:m=i
   ·subst q
    intro h
    have h2:dec (Neg n (ZbW (clG G m) m))=true:=Zbo h
    rw[h2]at e
    cases e
   ·exact e2 m (by omega)
 ·rintro σ ⟨e1,e2⟩
  walk_at "z"
  exact .inl ⟨rfl,e2⟩
theorem ZhJ{G:Nat→Nat→Option Int}: ∀m i j,leO (clG G m i j) (G i j)
 | 0=>fun _ _=>Zdd
 | m+1=>fun i j=>Zdb Zo5 (ZhJ m i j)
theorem Ze8(hd:∀i,i<n→G i i=some 0)(hn:∀k,k<m→¬Neg n (clG G (k+1))): ∀i,i<n→clG G m i i=some 0:=by
 intro i hi
 obtain⟨b,e⟩:=ZoG (fun i hi=>⟨0,hd i hi⟩) m i hi
 have h:=ZhJ m i i (G:=G)
 rw[hd i hi,e]at h
 have h1:=leO_some.mp h
 have h2:¬b<0:=fun q=>by
  cases m with
  | zero=>have:=hd i hi;rw[show clG G 0 i i=G i i from rfl,this]at e;cases e;omega
  | succ m=>exact hn m (by omega) ⟨i,hi,b,e,q⟩
 rw[e,show b=0 by omega]
theorem Zo6{n:Nat}{G:Nat→Nat→Option Int}(hd:∀i,i<n→G i i=some 0): ∀m,m≤n→(∀k,k<m→¬Neg n (clG G (k+1)))→∀k,k<m→∀i j,i<n→j<n→leO (clG G m i j) (addO (clG G m i k) (clG G m k j))
 | 0,_,_,k,hk=>by omega
 | m+1,hm,hn,k,hk=>by
  intro i j hi hj
  have z:=Ze8 hd (fun k hk=>hn k (by omega):∀k,k<m→_)
  have ih:=Zo6 hd m (by omega) (fun k hk=>hn k (by omega))
  generalize hD:clG G m=D at z ih
  have hs:clG G (m+1)=ZbW D m:=by rw[←hD];rfl
  rw[hs]
  have zm:=z m (by omega)
  have cm:∀a,ZbW D m a m=D a m:=fun a=>by unfold ZbW;rw[zm,ZsD];exact Zr6 Zdd
  have rm:∀b,ZbW D m m b=D m b:=fun b=>by unfold ZbW;rw[zm,ZsE];exact Zr6 Zdd
  by_cases q:k=m
  ·subst q
   rw[cm,rm]
   exact ZsC
  ·have hk':k<m:=by omega
   have t1:=ih k hk' i j hi hj
   have t2:=ih k hk' i m hi (by omega)
   have t3:=ih k hk' m j (by omega) hj
   have t4:=ih k hk' m m (by omega) (by omega)
   rw[zm]at t4
   have dn:leO (ZbW D m i j) (addO (D i m) (D m j)):=ZsC
   have d0:leO (ZbW D m i j) (D i j):=Zo5
   rcases Zhq (D i k) (addO (D i m) (D m k))with e1 | e1 <;> rcases Zhq (D k j) (addO (D k m) (D m j))with e2 | e2
   ·rw[show ZbW D m i k=_ from e1,show ZbW D m k j=_ from e2]
    exact Zdb d0 t1
   ·rw[show ZbW D m i k=_ from e1,show ZbW D m k j=_ from e2,←Zg2]
    exact Zdb dn (ZfW t2 Zdd)
   ·rw[show ZbW D m i k=_ from e1,show ZbW D m k j=_ from e2,Zg2]
    exact Zdb dn (ZfW Zdd t3)
   ·rw[show ZbW D m i k=_ from e1,show ZbW D m k j=_ from e2,Zg2,←Zg2 (a:=D m k)]
    refine Zdb dn (ZfW Zdd ?_)
    have:=ZfW t4 (Zdd (a:=D m j))
    rwa [ZsE]at this
def ZhK(n:Nat)(G:Nat→Nat→Option Int)(y:Nat→Int): Prop:=∀i j,i<n→j<n→∀b,G i j=some b→y i-y j≤b
theorem Zoh{n:Nat}{G:Nat→Nat→Option Int}{y:Nat→Int}(h:ZhK n G y): ∀m,m≤n→ZhK n (clG G m) y
 | 0,_=>h
 | m+1,hm=>by
  have ih:=Zoh h m (by omega)
  intro i j hi hj b e
  rcases Zhq (clG G m i j) (addO (clG G m i m) (clG G m m j))with e1 | e1
  ·rw[show clG G (m+1) i j=_ from e1]at e;exact ih i j hi hj b e
  ·rw[show clG G (m+1) i j=_ from e1]at e
   obtain⟨p,q,h1,h2,h3⟩:=addO_some.mp e
   have:=ih i m hi (by omega) p h1
   have:=ih m j (by omega) hj q h2
   omega
theorem Zwe{y:Nat→Int}(h:ZhK n G y): ¬Neg n G:=by
 rintro⟨i,hi,b,e,hb⟩
 have:=h i i hi hi b e
 omega
theorem ZqI(h:Zbw n G R x): ZhK (n+1) G (ZaZ x):=fun i j hi hj b e=>h.1 i j hi hj b e
theorem ZnL{k:Int}: ZfC [.int k]=some (.bool true):=by
 apply Pk.eq
 unfold ZfC ZlY
 walk_at "z"
 rfl
theorem Zya(hn:n≤1000)(hd:∀i,i<n→G i i=some 0): Ziu [Zaj n G,.int n]=some (.bool true):=by
 apply Pk.eq
 unfold Ziu ZmF Zaj Zar
 walk_at "z"
 refine Zb4 (n:=n) (a:=fun i=>.int i) (P:=fun i σ=>σ 0=some (Zaj n G)∧σ 1=some (.int n)) ?_ ⟨rfl,rfl⟩ ?_ ?_
 ·walk_at "z"
  rfl
 ·rintro i σ hi ⟨e0,e1⟩
  unfold Zaj Zar at e0
  walk_at "z"
  refine Zb4 (n:=n) (a:=fun j=>oT (G i j)) (P:=fun j σ=>σ 0=some (Zaj n G)∧σ 1=some (.int n)∧σ 2=some (.int i)) ?_ ⟨by walk_at "r",by walk_at "r",by walk_at "r"⟩ ?_ ?_
  ·walk_at "z"
   rfl
  ·rintro j σ hj ⟨f0,f1,f2⟩
   cases G i j with
   | none=>
    rw[Zbx]
    walk_at "z"
    exact⟨by walk_at "r",by walk_at "r",by walk_at "r"⟩
   | some b=>
    rw[ZaH]
    walk_at "z"
    refine ZF ZnL ?_
    walk_at "z"
    exact⟨by walk_at "r",by walk_at "r",by walk_at "r"⟩
  ·rintro σ ⟨f0,f1,f2⟩
   unfold Zaj Zar at f0
   walk_at "z"
   rw[hd i hi,ZaH]
   walk_at "z"
   exact⟨by walk_at "r",by walk_at "r"⟩
 ·rintro σ ⟨e0,e1⟩
  walk_at "z"
  rfl
section
variable {Q:T→Prop}
theorem ZnM{p:PE}(h:Pk (p σ) fun t=>∃ts,t=.lst ts∧Q (.lst (ts.drop k))): Pk (ZdB p k σ) Q:=by
 obtain⟨_,e,ts,rfl,q⟩:=h
 exact⟨_,by simp only[ZdB,e,Option.bind_some],q⟩
end
noncomputable abbrev Sp:=Option Int×Option Int
noncomputable def spT(s:Sp): T:=.tup [oT s.1,oT s.2]
def SBd(k:Nat)(s:Sp): Prop:=(∀x,s.1=some x→Bd k x)∧∀x,s.2=some x→Bd k x
theorem Zyb{x:Int}(h:Bd k x): Bd k (Zbv x):=by unfold Zbv;unfold Bd at *;split <;> omega
def InS(s:Sp)(x:Int): Prop:=(∀l,s.1=some l→l≤x)∧∀h,s.2=some h→x≤h
theorem ZgK{k:Int}(hi:i≤100000)(ha:∀x,a=some x→Bd i x)(hk:Bd i k): Zep [oT a,.int k]=some (oT (a.map fun x=>x*k)):=by
 apply Pk.eq
 unfold Zep Zl1
 cases a with
 | none=>
  simp only[Zbx,Option.map_none]
  walk_at "z"
  rfl
 | some x=>
  simp only[ZaH,Option.map_some]
  walk_at "z"
  refine ZbP (Zcn (ha x rfl) hk (by omega) (by omega)) ?_
  rfl
noncomputable def ZcL(s:Sp)(k:Int): Sp:=if k=0 then(some 0,some 0)else if k<0 then(s.2.map fun x=>x*k,s.1.map fun x=>x*k)else(s.1.map fun x=>x*k,s.2.map fun x=>x*k)
theorem Zs2{s:Sp}{k:Int}(hi:i≤100000)(hs:SBd i s)(hk:Bd i k): ZhT [spT s,.int k]=some (spT (ZcL s k)):=by
 apply Pk.eq
 unfold ZhT Zkb ZcL spT
 by_cases c:k=0
 ·walk_at "z"
  rw[if_pos c]
  rfl
 ·rw[if_neg c]
  walk_at "z"
  refine ZF (ZgK hi hs.1 hk) ?_
  walk_at "z"
  refine ZF (ZgK hi hs.2 hk) ?_
  by_cases d:k<0
  ·walk_at "z"
   rw[if_pos d]
  ·walk_at "z"
   rw[if_neg d]
noncomputable def ZjP(s u:Sp): Sp:=(addO s.1 u.1,addO s.2 u.2)
theorem Ztd{s u:Sp}: ZhY [spT s,spT u]=some (spT (ZjP s u)):=by
 apply Pk.eq
 unfold ZhY Zkt spT
 walk_at "z"
 refine ZF ZgT ?_
 walk_at "z"
 refine ZF ZgT ?_
 walk_at "z"
 rfl
noncomputable def Zck(c:Nat→Int)(S:Nat→Sp): Nat→Sp
 | 0=>(some (c 0),some (c 0))
 | j+1=>ZjP (Zck c S j) (ZcL (S j) (c (j+1)))
theorem Zoi{f:Nat→T}: (tab (n+1) f).drop 1=tab n fun i=>f (i+1):=by
 apply List.ext_getElem
 ·simp[tab]
 ·intro i h1 h2
  simp[tab]
theorem Ztq{S:Nat→Sp}(hn:n≤100)(hi:i≤100000)(bc:∀j,j<n+1→Bd i (c j))(bS:∀j,j<n→SBd i (S j)): Zh3 [.lst (tab (n+1) fun j=>.int (c j)),.lst (tab n fun j=>spT (S j))]=some (spT (Zck c S n)):=by
 apply Pk.eq
 unfold Zh3 ZkR
 walk_at "z"
 refine Zja (n:=n) (a:=fun j=>.int (c (j+1))) (c:=fun j=>spT (S j)) (P:=fun j σ=>σ 2=some (spT (Zck c S j))) ?_ rfl ?_ ?_
 ·refine ZoS ?_
  refine ZnM ?_
  walk_at "z"
  refine⟨_,rfl,?_⟩
  rw[Zoi]
  walk_at "z"
  rfl
 ·rintro j σ hj e2
  walk_at "z"
  refine ZF (Zs2 hi (bS j hj) (bc (j+1) (by omega))) ?_
  walk_at "z"
  refine ZF Ztd ?_
  walk_at "z"
  exact ZbL
 ·rintro σ e2
  walk_at "z"
  rfl
noncomputable def ZaQ(c:Nat→Int)(R:Nat→Int×Int): Nat→Int×Int
 | 0=>(0,c 0)
 | j+1=>ZbA (ZaQ c R j) (Zdk (R j) (c (j+1)))
noncomputable def Zcb(c:Nat→Int)(R:Nat→Int×Int): Nat→Int
 | 0=>0
 | j+1=>Int.gcd (Zcb c R j) (c (j+1)*(R j).1)
noncomputable def Zcr(c:Nat→Int)(R:Nat→Int×Int): Nat→Int
 | 0=>c 0
 | j+1=>Zcr c R j+c (j+1)*(R j).2
theorem Zhr(c:Nat→Int)(R:Nat→Int×Int): ∀j,0≤Zcb c R j
 | 0=>by show(0:Int)≤0;decide
 | j+1=>by show(0:Int)≤((Int.gcd _ _:Nat):Int);omega
theorem Zji{c:Nat→Int}{R:Nat→Int×Int}{n i:Nat}(bc:∀j,j<n+1→Bd i (c j))(bR:∀j,j<n→RBd i (R j)): ∀j,j≤n→Bd (i+i) (Zcb c R j)
 | 0,_=>ZcN
 | j+1,h=>ZsB (Zji bc bR j (by omega)) ((bc (j+1) (by omega)).mul (bR j (by omega)).1)
theorem Zr7{c:Nat→Int}{R:Nat→Int×Int}{n i:Nat}(bc:∀j,j<n+1→Bd i (c j))(bR:∀j,j<n→RBd i (R j)): ∀j,j≤n→Bd (i+i+j) (Zcr c R j)
 | 0,_=>(bc 0 (by omega)).mono (by omega)
 | j+1,h=>(Zr7 bc bR j (by omega)).add (((bc (j+1) (by omega)).mul (bR j (by omega)).2).mono (by omega))
theorem Zui{m a b:Int}(h:0≤m)(hd:m ∣ a-b): ZaE m a=ZaE m b:=by
 refine ZgS (ZcP h _) (ZcP h _) fun x=>?_
 rw[Zdt h,Zdt h]
 constructor
 ·intro q
  have:=Int.dvd_add q hd
  rwa [show x-a+(a-b)=x-b by omega]at this
 ·intro q
  have:=Int.dvd_sub q hd
  rwa [show x-b-(a-b)=x-a by omega]at this
theorem ZqJ{m:Int}(h:0≤m): m ∣ (ZaE m r).2-r:=by
 have:=(Zdt (r:=r) h (ZaE m r).2).mp (ZcP h r).self
 exact this
theorem ZfL{m:Int}: (ZaE m r).1=m:=by
 unfold ZaE
 split
 ·rename_i h;exact h.symm
 ·rfl
theorem Zey{c:Nat→Int}{R:Nat→Int×Int}{n:Nat}(ok:∀j,j<n→RestOk (R j)): ∀j,j≤n→ZaQ c R j=ZaE (Zcb c R j) (Zcr c R j)
 | 0,_=>rfl
 | j+1,h=>by
  have ih:=Zey (c:=c) ok j (by omega)
  have h0:=Zhr c R j
  have hr:=(ok j (by omega)).nn
  show ZbA (ZaQ c R j) (Zdk (R j) (c (j+1)))=_
  rw[ih]
  unfold ZbA Zdk
  rw[ZfL,ZfL]
  have hab:0≤(R j).1*Zbv (c (j+1)):=Int.mul_nonneg hr (ZdL _)
  have eg:((Int.gcd (Zcb c R j) ((R j).1*Zbv (c (j+1))):Nat):Int)=Zcb c R (j+1):=by
   show _=((Int.gcd (Zcb c R j) (c (j+1)*(R j).1):Nat):Int)
   congr 1
   unfold Int.gcd
   rw[Int.natAbs_mul,Int.natAbs_mul,Zog,Nat.mul_comm]
  rw[eg]
  have h1:Zcb c R (j+1) ∣ Zcb c R j:=Int.gcd_dvd_left ..
  have h2:Zcb c R (j+1) ∣ (R j).1*Zbv (c (j+1)):=by rw[←eg];exact Int.gcd_dvd_right ..
  refine Zui (Zhr _ _ _) ?_
  have a1:=Int.dvd_trans h1 (ZqJ (r:=Zcr c R j) h0)
  have a2:=Int.dvd_trans h2 (ZqJ (r:=(R j).2*c (j+1)) hab)
  have:=Int.dvd_add a1 a2
  rw[show Zcr c R (j+1)=Zcr c R j+c (j+1)*(R j).2 from rfl,Int.mul_comm (c (j+1))]
  generalize (ZaE (Zcb c R j) (Zcr c R j)).2=u at *
  generalize (ZaE ((R j).1*Zbv (c (j+1))) ((R j).2*c (j+1))).2=v at *
  generalize (R j).2*c (j+1)=z at *
  rwa [show u-Zcr c R j+(v-z)=u+v-(Zcr c R j+z)by omega]at this
theorem Zwf{s:Sp}{x k:Int}(h:InS s x): InS (ZcL s k) (k*x):=by
 unfold ZcL
 obtain⟨a,b⟩:=s
 by_cases c:k=0
 ·rw[if_pos c,c,Int.zero_mul]
  exact⟨fun l e=>by cases e;omega,fun l e=>by cases e;omega⟩
 ·rw[if_neg c]
  by_cases d:k<0
  ·rw[if_pos d]
   refine⟨fun l e=>?_,fun l e=>?_⟩
   ·cases b with
    | none=>cases e
    | some y=>
     cases e
     have:=h.2 y rfl
     show y*k≤k*x
     rw[Int.mul_comm]
     exact Int.mul_le_mul_of_nonpos_left (a:=k) (by omega) this
   ·cases a with
    | none=>cases e
    | some y=>
     cases e
     have:=h.1 y rfl
     show k*x≤y*k
     rw[Int.mul_comm y]
     exact Int.mul_le_mul_of_nonpos_left (a:=k) (by omega) this
  ·rw[if_neg d]
   refine⟨fun l e=>?_,fun l e=>?_⟩
   ·cases a with
    | none=>cases e
    | some y=>
     cases e
     have:=h.1 y rfl
     show y*k≤k*x
     rw[Int.mul_comm]
     exact Int.mul_le_mul_of_nonneg_left this (show 0≤k by omega)
   ·cases b with
    | none=>cases e
    | some y=>
     cases e
     have:=h.2 y rfl
     show k*x≤y*k
     rw[Int.mul_comm y]
     exact Int.mul_le_mul_of_nonneg_left this (show 0≤k by omega)
theorem Zxa{s u:Sp}{x:Int}(h:InS s x)(k:InS u y): InS (ZjP s u) (x+y):=by
 refine⟨fun l e=>?_,fun l e=>?_⟩
 ·obtain⟨a,b,h1,h2,rfl⟩:=addO_some.mp e
  have:=h.1 a h1
  have:=k.1 b h2
  omega
 ·obtain⟨a,b,h1,h2,rfl⟩:=addO_some.mp e
  have:=h.2 a h1
  have:=k.2 b h2
  omega
noncomputable def Z1(R:Nat→Int×Int): Nat→Int×Int:=cn (0,0) R
theorem Zpg(R:Nat→Int×Int): cn (T.tup [.int 0,.int 0]) (fun i=>ZZ (R i))=fun i=>ZZ (Z1 R i):=by
 funext i;cases i <;> rfl
theorem ZpJ(hn:n<9000): Zfu [Za3 n R]=some (Za3 (n+1) (Z1 R)):=by
 apply Pk.eq
 unfold Zfu ZkT Za3
 walk_at "z"
 rw[Zpg]
def RB(M:Int)(k:Nat)(q:Int×Int): Prop:=RestOk q∧(q.1=0∨q.1 ∣ M)∧Bd k q.2
theorem RB.mono(h:RB M i q)(hij:i≤j): RB M j q:=⟨h.1,h.2.1,h.2.2.mono hij⟩
theorem RB.bd(hM:0<M)(bM:Bd k M)(h:RB M k q): RBd k q:=by
 refine⟨?_,h.2.2⟩
 rcases h.2.1 with e | e
 ·rw[e];exact ZcN
 ·exact Zdm bM h.1.nn (Int.le_of_dvd hM e)
theorem Zdu(h:∀t,t<n→RB M k (R t)): ∀i,i<n+1→RB M k (Z1 R i)
 | 0,_=>⟨.inl rfl,.inl rfl,ZcN⟩
 | i+1,hi=>h i (by omega)
def ZcZ(n:Nat)(G:Nat→Nat→Option Int)(R:Nat→Int×Int)(i:Nat)(m:Nat)(x:Int): Prop:=ZaP (Z1 R i) x∧∀j,j<m→∀a b,G i j=some a→G j i=some b→a+b=0→ZaP (Z1 R j) (x-a)
def Zdl(n:Nat)(G:Nat→Nat→Option Int)(R:Nat→Int×Int)(M:Int)(k:Nat)(i m:Nat)(o:Option (Int×Int)): Prop:=match o with
 | none=>∀x,¬ZcZ n G R i m x
 | some q=>RB M k q∧∀x,ZaP q x↔ZcZ n G R i m x
theorem Zqp(h:RestOk q)(a x:Int): ZaP (ZbA q (0,a)) x↔ZaP q (x-a):=by
 unfold ZbA
 rw[Zdt (by omega),Zbq h.nn]
 simp only[Int.gcd_zero_right]
 rw[Int.natAbs_of_nonneg h.nn,show x-(q.2+a)=x-a-q.2 by omega]
theorem Zte(hn:n≤100)(hi:i<n+1)(hk:k≤7000)(hM:0<M)(bM:Bd k M)(bG:∀a b c,a<n+1→b<n+1→G a b=some c→Bd k c)(hR:∀t,t<n→RB M k (R t)): Pk (ZeN [Zaj (n+1) G,Za3 (n+1) (Z1 R),.int i]) fun t=>∃o,t=oR o∧Zdl n G R M (k+1) i (n+1) o:=by
 unfold ZeN Zkv
 have hF:=Zdu hR
 have bM1:Bd (k+1) M:=bM.mono (by omega)
 have hr:Za3 (n+1) (Z1 R)=.lst (tab (n+1) fun i=>ZZ (Z1 R i)):=rfl
 rw[hr]
 walk_at "z"
 refine Zja (n:=n+1) (a:=fun j=>.int j) (c:=fun j=>ZZ (Z1 R j)) (P:=fun m σ=>∃o,σ 0=some (Zaj (n+1) G)∧σ 1=some (.lst (tab (n+1) fun i=>ZZ (Z1 R i)))∧σ 2=some (.int i)∧σ 3=some (oR o)∧Zdl n G R M (k+1) i m o) ?_ ⟨some (Z1 R i),by walk_at "r",by walk_at "r",by walk_at "r",by walk_at "r",(hF i hi).mono (by omega),fun x=>⟨fun h=>⟨h,by omega⟩,fun h=>h.1⟩⟩ ?_ ?_
 ·walk_at "z"
  rfl
 ·rintro j σ hj ⟨o,e0,e1,e2,e3,ho⟩
  unfold Zaj Zar at e0
  cases o with
  | none=>
   have e3':σ 3=some .none:=e3
   clear e3
   walk_at "z"
   refine⟨none,by walk_at "r",by walk_at "r",by walk_at "r",by walk_at "r",fun x h=>ho x ⟨h.1,fun j' hj'=>h.2 j' (by omega)⟩⟩
  | some q=>
   have e3':σ 3=some (.tup [.int q.1,.int q.2]):=e3
   clear e3
   walk_at "z"
   refine ZF ZgT ?_
   walk_at "z"
   refine Zfc (ZhI (n:=0)) (.int (n:=0)) ?_
   walk_at "z"
   have stay:(∀a b,G i j=some a→G j i=some b→¬a+b=0)→Zdl n G R M (k+1) i (j+1) (some q):=fun h=>⟨ho.1,fun x=>(ho.2 x).trans ⟨fun hx=>⟨hx.1,fun j' hj' a b ha hb hab=>by
     by_cases q':j'=j
     ·subst q';exact absurd hab (h a b ha hb)
     ·exact hx.2 j' (by omega) a b ha hb hab⟩,fun hx=>⟨hx.1,fun j' hj'=>hx.2 j' (by omega)⟩⟩⟩
   refine⟨fun e=>?_,fun e=>?_⟩
   ·have e':=dec_iff.mp e
    rw[←ZaH,oT_inj]at e'
    obtain⟨a,b,ha,hb,hab⟩:=addO_some.mp e'
    walk_at "z"
    rw[ha,ZaH]
    have hj2:=hF j hj
    have ba:=bG i j a hi hj ha
    refine ZF (ZlG (p:=Z1 R j) (q:=(0,a)) (k:=k) (by omega) (hj2.bd hM bM).1 ZcN) ?_
    have hpl:RB M (k+1) (ZbA (Z1 R j) (0,a)):=by
     refine⟨Zi1 _ _,?_,?_⟩
     ·unfold ZbA ZaE
      simp only[Int.gcd_zero_right]
      rw[Int.natAbs_of_nonneg hj2.1.nn]
      split
      ·exact .inl rfl
      ·exact hj2.2.1
     ·have hm:=(hj2.bd hM bM).1
      refine(ZiT (k:=k+1) (by omega) ?_ (Bd.add hj2.2.2 ba)).2
      simp only[Int.gcd_zero_right]
      rw[Int.natAbs_of_nonneg hj2.1.nn]
      exact hm.mono (by omega)
    walk_at "z"
    refine(Zqo (p:=q) (q:=ZbA (Z1 R j) (0,a)) (k:=k+1) (by omega) ho.1.1 hpl.1 (ho.1.bd hM bM1) (hpl.bd hM bM1)).mono ?_
    rintro _ ⟨o',rfl,mt,wh⟩
    refine⟨o',by walk_at "r",by walk_at "r",by walk_at "r",by walk_at "r",?_⟩
    have hset:∀x,(ZaP q x∧ZaP (ZbA (Z1 R j) (0,a)) x)↔ZcZ n G R i (j+1) x:=fun x=>by
     rw[ho.2 x,Zqp hj2.1]
     constructor
     ·rintro⟨h1,h2⟩
      refine⟨h1.1,fun j' hj' c d hc hd hcd=>?_⟩
      by_cases q':j'=j
      ·subst q';rw[ha]at hc;cases hc;exact h2
      ·exact h1.2 j' (by omega) c d hc hd hcd
     ·intro h
      exact⟨⟨h.1,fun j' hj'=>h.2 j' (by omega)⟩,h.2 j (by omega) a b ha hb hab⟩
    cases o' with
    | none=>exact fun x hx=>mt x ((hset x).mpr hx)
    | some r=>
     refine⟨⟨mt.1,?_,?_⟩,fun x=>(mt.2 x).trans (hset x)⟩
     ·rcases wh r rfl with h | h | ⟨h1,h2,h3⟩
      ·rw[h];exact ho.1.2.1
      ·rw[h];exact hpl.2.1
      ·right
       rw[h3]
       exact Int.coe_lcm_dvd (ho.1.2.1.resolve_left h1) (hpl.2.1.resolve_left h2)
     ·rcases wh r rfl with h | h | ⟨h1,h2,h3⟩
      ·rw[h];exact ho.1.2.2
      ·rw[h];exact hpl.2.2
      ·rcases mt.1 with z | z
       ·have:(Int.lcm q.1 (ZbA (Z1 R j) (0,a)).1)≠0:=Int.lcm_ne_zero h1 h2
        omega
       ·have hd:r.1 ∣ M:=by
         rw[h3]
         exact Int.coe_lcm_dvd (ho.1.2.1.resolve_left h1) (hpl.2.1.resolve_left h2)
        exact Zdm bM1 z.2.1 (by have:=Int.le_of_dvd hM hd;omega)
   ·walk_at "z"
    refine⟨some q,by walk_at "r",by walk_at "r",by walk_at "r",by walk_at "r",stay fun a b ha hb hab=>?_⟩
    have:dec (oT (addO (G i j) (G j i))=.int 0)=true:=Zbo (by rw[ha,hb];simp[addO,oT,hab])
    rw[this]at e
    cases e
 ·rintro σ ⟨o,e0,e1,e2,e3,ho⟩
  walk_at "z"
  exact⟨o,rfl,ho⟩
theorem ZsF: ZcF 1 1 1=some []:=by
 unfold ZcF
 rw[if_pos (by decide +kernel)]
 rfl
theorem ZsR: Pln 1 (oR o):=by
 cases o with
 | none=>exact .none
 | some q=>exact Zsu
theorem oR_none: oR o=.none↔o=none:=by cases o <;> simp[oR,ZZ]
def Hand(n:Nat)(G:Nat→Nat→Option Int)(R R':Nat→Int×Int)(M:Int)(k:Nat): Prop:=∀t,t<n→RB M k (R' t)∧∀x,ZaP (R' t) x↔ZcZ n G R (t+1) (n+1) x
theorem Ztr(hn:n≤100)(hk:k≤7000)(hM:0<M)(bM:Bd k M)(bG:∀a b c,a<n+1→b<n+1→G a b=some c→Bd k c)(hR:∀t,t<n→RB M k (R t)): Pk (ZdS [ZO n G R]) fun t=>(∃R',t=ZO n G R'∧Hand n G R R' M (k+1))∨(t=.none∧∃i,i<n∧∀x,¬ZcZ n G R (i+1) (n+1) x):=by
 unfold ZdS ZgE
 have ht:ZO n G R=.tup [Zaj (n+1) G,Za3 n R]:=rfl
 rw[ht]
 walk_at "z"
 refine ZF (ZpJ (by omega)) ?_
 have hr:Za3 (n+1) (Z1 R)=.lst (tab (n+1) fun i=>ZZ (Z1 R i)):=rfl
 walk_at "z"
 refine Zwa oR (fun t o=>Zdl n G R M (k+1) (t+1) (n+1) o) (n:=n) (a:=fun i=>.int (i+1)) (by omega) ?_ (fun t ht=>?_) none (fun y hy=>?_)
 ·by_cases h0:n=0
  ·subst h0
   exact⟨[],Zhm (a:=1) (b:=1) rfl ZsF,rfl⟩
  ·rw[hr]
   walk_at "z"
   refine Rn.two 1 n (by decide) (by omega) (by omega) (by omega) ?_
   refine Zbj fun i _=>?_
   congr 1
   omega
 ·walk_at "z"
  refine(Zte (i:=t+1) hn (by omega) hk hM bM bG hR).mono ?_
  rintro _ ⟨o,rfl,ho⟩
  exact⟨o,rfl,ho⟩
 ·walk_at "z"
  refine ZjM (.none (n:=0)) (Zgh (n:=1) fun i _=>ZsR) ?_
  by_cases hc:∃i,i<n∧y i=none
  ·obtain⟨i,hi,ei⟩:=hc
   rw[Zbo (show T.none∈tab n fun i=>oR (y i)from List.mem_of_getElem? (i:=i) (by rw[ZbH hi,ei];rfl))]
   walk_at "z"
   refine .inr ⟨rfl,i,hi,?_⟩
   have:=hy i hi
   rw[ei]at this
   exact this
  ·rw[Zcq (show ¬T.none∈tab n fun i=>oR (y i)from fun h=>by
    obtain⟨i,hi,e⟩:=Ze5 h
    exact hc ⟨i,hi,oR_none.mp e.symm⟩)]
   walk_at "z"
   have hs:∀i,i<n→y i=some ((y i).getD (1,0)):=fun i hi=>by
    cases e:y i with
    | none=>exact absurd ⟨i,hi,e⟩ hc
    | some q=>rfl
   refine .inl ⟨fun i=>(y i).getD (1,0),?_,fun t ht=>?_⟩
   ·unfold ZO Za3
    congr 4
    refine Zbj fun i hi=>?_
    conv=>lhs;rw[hs i hi]
    rfl
   ·have:=hy t ht
    rw[hs t ht]at this
    exact this
theorem Zpv: ZdS [.none]=some .none:=by
 apply Pk.eq
 unfold ZdS ZgE
 walk_at "z"
 rfl
noncomputable def ZbC(R:Nat→Int×Int)(i j:Nat): Int×Int:=ZbA (Z1 R i) (Zdk (Z1 R j) (-1))
noncomputable def ZbX(b:Option Int)(q:Int×Int): Option Int:=match b with
 | some b=>ZdN q b
 | none=>if q.1=0 then some q.2 else none
noncomputable def ZaR(G:Nat→Nat→Option Int)(R:Nat→Int×Int): Nat→Nat→Option Int:=fun i j=>ZbX (G i j) (ZbC R i j)
def ZdM(n:Nat)(G:Nat→Nat→Option Int)(R:Nat→Int×Int): Prop:=∃i j,i<n+1∧j<n+1∧∃b,G i j=some b∧ZaR G R i j=none
theorem Zs3{b:Option Int}(hq:0≤q.1): ZhU [oT b,ZZ q]=some (oT (ZbX b q)):=by
 apply Pk.eq
 unfold ZhU Zke ZbX
 cases b with
 | none=>
  have ep:ZZ q=.tup [.int q.1,.int q.2]:=rfl
  rw[Zbx,ep]
  by_cases c:q.1=0
  ·walk_at "z"
   simp[c,oT]
  ·walk_at "z"
   simp[c,oT]
 | some b=>
  rw[ZaH]
  walk_at "z"
  exact ZF (ZtT hq) rfl
theorem Zts{b:Nat→Option Int}(hn:n≤100)(hi:i<n+1)(hk:k≤7000)(hM:0<M)(bM:Bd k M)(hR:∀t,t<n→RB M k (R t)): Pk (Zh4 [Zar (n+1) b,ZZ (Z1 R i),Za3 (n+1) (Z1 R)]) fun t=>(t=Zar (n+1) (fun j=>ZbX (b j) (ZbC R i j))∧∀j,j<n+1→∀c,b j=some c→ZbX (b j) (ZbC R i j)≠none)∨(t=.none∧∃j,j<n+1∧∃c,b j=some c∧ZbX (b j) (ZbC R i j)=none):=by
 unfold Zh4 ZkX
 have hF:=Zdu hR
 have hb:Zar (n+1) b=.lst (tab (n+1) fun j=>oT (b j)):=rfl
 have hr:Za3 (n+1) (Z1 R)=.lst (tab (n+1) fun i=>ZZ (Z1 R i)):=rfl
 rw[hb,hr]
 walk_at "z"
 refine Zja (n:=n+1) (a:=fun j=>oT (b j)) (c:=fun j=>ZZ (Z1 R j)) (P:=fun m σ=>σ 1=some (ZZ (Z1 R i))∧σ 3=some (.lst (tab m fun j=>oT (ZbX (b j) (ZbC R i j))))∧∀j,j<m→∀c,b j=some c→ZbX (b j) (ZbC R i j)≠none) ?_ ⟨by walk_at "r",by walk_at "r",by omega⟩ ?_ ?_
 ·walk_at "z"
  rfl
 ·rintro j σ hj ⟨e1,e3,st⟩
  have h1:=hF i hi
  have h2:=hF j hj
  have b1:=h1.bd hM bM
  have b2:=h2.bd hM bM
  have bt:Bd (k+1) (Zdk (Z1 R j) (-1)).1:=by
   refine(ZiT (k:=k+1) (Int.mul_nonneg h2.1.nn (ZdL _)) ?_ ?_).1
   ·have:=Bd.mul b2.1 (show Bd 1 (Zbv (-1))by unfold Bd;decide);exact this
   ·have:=Bd.mul b2.2 (show Bd 1 (-1)by unfold Bd;decide);exact this
  walk_at "z"
  refine ZF (ZpU (p:=Z1 R j) (c:=-1) (k:=k+1) (by omega) h2.1.nn ⟨b2.1.mono (by omega),b2.2.mono (by omega)⟩ (show Bd (k+1) (-1)from(show Bd 1 (-1)by unfold Bd;decide).mono (by omega))) ?_
  walk_at "z"
  refine ZF (ZlG (k:=k+1) (by omega) (b1.1.mono (by omega)) bt) ?_
  walk_at "z"
  refine ZF (Zs3 (Zi1 _ _).nn) ?_
  have hd:ZbA (Z1 R i) (Zdk (Z1 R j) (-1))=ZbC R i j:=rfl
  rw[hd]
  walk_at "z"
  have app:∀w,w=oT (ZbX (b j) (ZbC R i j))→tab j (fun j=>oT (ZbX (b j) (ZbC R i j)))++[w]=tab (j+1) fun j=>oT (ZbX (b j) (ZbC R i j)):=fun w e=>by rw[e];exact ZdK
  cases hl:ZbX (b j) (ZbC R i j)with
  | none=>
   rw[Zbx]
   walk_at "z"
   cases hbj:b j with
   | none=>
    rw[Zbx]
    walk_at "z"
    rw[app _ (by rw[hl];rfl)]
    refine⟨by walk_at "r",by walk_at "r",fun j' hj' c hc=>?_⟩
    by_cases q:j'=j
    ·subst q;rw[hbj]at hc;cases hc
    ·exact st j' (by omega) c hc
   | some c=>
    rw[ZaH]
    walk_at "z"
    exact .inr ⟨rfl,j,hj,c,hbj,hl⟩
  | some v=>
   rw[ZaH]
   walk_at "z"
   rw[app _ (by rw[hl];rfl)]
   refine⟨by walk_at "r",by walk_at "r",fun j' hj' c hc=>?_⟩
   by_cases q:j'=j
   ·subst q;rw[hl];simp
   ·exact st j' (by omega) c hc
 ·rintro σ ⟨e1,e3,st⟩
  walk_at "z"
  exact .inl ⟨rfl,st⟩
noncomputable def Zgy(n:Nat): Option (Nat→Option Int)→T
 | none=>.none
 | some b=>Zar n b
theorem Zyc{o:Option (Nat→Option Int)}: Pln 1 (Zgy n o):=by
 cases o with
 | none=>exact .none
 | some q=>exact ZrV
theorem Zvh{g:PG}{a b:Nat→T}(e:β→T)(P:Nat→β→Prop)(hn:n<10000)(hg:Pl (g σ) fun ts=>ts=tab n fun i=>.tup [a i,b i])(hf:∀i,i<n→Pk (f (Z8 (Z8 σ j (a i)) k (b i))) fun t=>∃y,t=e y∧P i y)(d:β)(h:∀y:Nat→β,(∀i,i<n→P i (y i))→Q (.lst (tab n fun i=>e (y i)))): Pk (Zan g (ZcC j k) Zai f σ) Q:=by
 have hc:∃y:Nat→β,∀i,i<n→Pk (f (Z8 (Z8 σ j (a i)) k (b i))) (fun t=>t=e (y i))∧P i (y i):=by
  have hx:∀i,∃y:β,i<n→Pk (f (Z8 (Z8 σ j (a i)) k (b i))) (fun t=>t=e y)∧P i y:=fun i=>by
   by_cases q:i<n
   ·obtain⟨t,e1,y,e2,p⟩:=hf i q
    exact⟨y,fun _=>⟨⟨t,e1,e2⟩,p⟩⟩
   ·exact⟨d,fun h=>absurd h q⟩
  exact⟨fun i=>Classical.choose (hx i),fun i=>Classical.choose_spec (hx i)⟩
 obtain⟨y,hy⟩:=hc
 exact Zn1 hn hg (fun i hi=>(hy i hi).1) (h y fun i hi=>(hy i hi).2)
theorem oRow_none{o:Option (Nat→Option Int)}: Zgy n o=.none↔o=none:=by cases o <;> simp[Zgy,Zar]
theorem Zvi(hn:n≤100)(hk:k≤7000)(hM:0<M)(bM:Bd k M)(hR:∀t,t<n→RB M k (R t)): Pk (ZfT [ZO n G R]) fun t=>(t=ZO n (ZaR G R) R∧¬ZdM n G R)∨(t=.none∧ZdM n G R):=by
 unfold ZfT ZiO
 have ht:ZO n G R=.tup [.lst (tab (n+1) fun i=>Zar (n+1) (G i)),Za3 n R]:=rfl
 rw[ht]
 walk_at "z"
 refine ZF (ZpJ (by omega)) ?_
 have hr:Za3 (n+1) (Z1 R)=.lst (tab (n+1) fun i=>ZZ (Z1 R i)):=rfl
 walk_at "z"
 refine Zvh (Zgy (n+1)) (fun i o=>match o with
  | none=>∃j,j<n+1∧∃c,G i j=some c∧ZaR G R i j=none
  | some b=>b=ZaR G R i∧∀j,j<n+1→∀c,G i j=some c→ZaR G R i j≠none) (n:=n+1) (a:=fun i=>Zar (n+1) (G i)) (b:=fun i=>ZZ (Z1 R i)) (by omega) ?_ (fun i hi=>?_) none (fun y hy=>?_)
 ·rw[hr]
  walk_at "z"
  rfl
 ·walk_at "z"
  refine(Zts hn hi hk hM bM hR).mono ?_
  rintro t (⟨rfl,h⟩ | ⟨rfl,h⟩)
  ·exact⟨some (ZaR G R i),rfl,rfl,h⟩
  ·exact⟨none,rfl,h⟩
 ·walk_at "z"
  refine ZjM (.none (n:=0)) (Zgh (n:=1) fun i _=>Zyc) ?_
  by_cases hc:∃i,i<n+1∧y i=none
  ·obtain⟨i,hi,ei⟩:=hc
   rw[Zbo (show T.none∈tab (n+1) fun i=>Zgy (n+1) (y i)from List.mem_of_getElem? (i:=i) (by rw[ZbH hi,ei];rfl))]
   walk_at "z"
   have:=hy i hi
   rw[ei]at this
   obtain⟨j,hj,c,h1,h2⟩:=this
   exact .inr ⟨rfl,i,j,hi,hj,c,h1,h2⟩
  ·rw[Zcq (show ¬T.none∈tab (n+1) fun i=>Zgy (n+1) (y i)from fun h=>by
    obtain⟨i,hi,e⟩:=Ze5 h
    exact hc ⟨i,hi,oRow_none.mp e.symm⟩)]
   walk_at "z"
   have hs:∀i,i<n+1→y i=some (ZaR G R i)∧∀j,j<n+1→∀c,G i j=some c→ZaR G R i j≠none:=fun i hi=>by
    have:=hy i hi
    cases e:y i with
    | none=>exact absurd ⟨i,hi,e⟩ hc
    | some b=>rw[e]at this;exact⟨by rw[this.1],this.2⟩
   refine .inl ⟨?_,?_⟩
   ·unfold ZO Zaj
    congr 3
    refine Zbj fun i hi=>?_
    rw[(hs i hi).1]
    rfl
   ·rintro⟨i,j,hi,hj,c,h1,h2⟩
    exact(hs i hi).2 j hj c h1 h2
theorem Zp5: ZfT [.none]=some .none:=by
 apply Pk.eq
 unfold ZfT ZiO
 walk_at "z"
 rfl
theorem Zwg: ZeC [.none]=some .none:=by
 apply Pk.eq
 unfold ZeC ZjA
 walk_at "z"
 rfl
def Zcs(n:Nat)(G:Nat→Nat→Option Int): Prop:=∃m,m<n∧Neg n (clG G (m+1))
theorem Zyd(hn:n≤100)(hd:∀i,i<n+1→G i i=some 0): Pk (ZeC [ZO n G R]) fun t=>(t=ZO n (clG G (n+1)) R∧¬Zcs (n+1) G)∨(t=.none∧Zcs (n+1) G):=by
 unfold ZeC ZjA
 have ht:ZO n G R=.tup [Zaj (n+1) G,Za3 n R]:=rfl
 rw[ht]
 walk_at "z"
 refine(Zwd (n:=n+1) (by omega) (by omega) fun i hi=>⟨0,hd i hi⟩).mono ?_
 rintro t (⟨rfl,h⟩ | ⟨rfl,h⟩)
 ·have hg:Zaj (n+1) (clG G (n+1))=.lst (tab (n+1) fun i=>Zar (n+1) (clG G (n+1) i)):=rfl
  rw[hg]
  walk_at "z"
  exact .inl ⟨rfl,fun⟨m,hm,q⟩=>h m hm q⟩
 ·walk_at "z"
  exact .inr ⟨rfl,h⟩
def BdG(n k:Nat)(G:Nat→Nat→Option Int): Prop:=∀a b c,a<n→b<n→G a b=some c→Bd k c
theorem ZeI{n k:Nat}{G:Nat→Nat→Option Int}(h:BdG n k G): ∀m,m≤n→BdG n (k+m) (clG G m)
 | 0,_=>h
 | m+1,hm=>fun a b c ha hb e=>by
  have ih:=ZeI h m (by omega)
  rcases Zhq (clG G m a b) (addO (clG G m a m) (clG G m m b))with e1 | e1
  ·rw[show clG G (m+1) a b=_ from e1]at e
   exact(ih a b c ha hb e).mono (by omega)
  ·rw[show clG G (m+1) a b=_ from e1]at e
   obtain⟨p,q,h1,h2,rfl⟩:=addO_some.mp e
   exact Bd.add (ih a m p ha (by omega) h1) (ih m b q (by omega) hb h2)
theorem ZqK(h:RestOk q): Zdk q (-1)=ZaE q.1 (-q.2):=by
 unfold Zdk
 rw[show Zbv (-1)=1 from rfl,Int.mul_one,Int.mul_neg,Int.mul_one]
theorem Zm9{m:Int}: (ZaE m r).1=m:=by
 unfold ZaE;split
 ·rename_i c;exact c.symm
 ·rfl
theorem Zhi(hi:RestOk (Z1 R i))(hj:RestOk (Z1 R j))(x:Int): ZaP (ZbC R i j) x↔((Int.gcd (Z1 R i).1 (Z1 R j).1:Nat):Int) ∣ x-((Z1 R i).2-(Z1 R j).2):=by
 unfold ZbC ZbA
 rw[Zdt (by omega),ZqK hj,Zm9]
 have hr:=Zdt hj.nn (r:=-(Z1 R j).2) (ZaE (Z1 R j).1 (-(Z1 R j).2)).2
 have hs:=(hr.mp (ZcP hj.nn _).self)
 generalize (ZaE (Z1 R j).1 (-(Z1 R j).2)).2=s at *
 have hg:((Int.gcd (Z1 R i).1 (Z1 R j).1:Nat):Int) ∣ s - -(Z1 R j).2:=Int.dvd_trans (Int.gcd_dvd_right ..) hs
 constructor
 ·intro h
  have:=Int.dvd_add h hg
  rwa [show x-((Z1 R i).2+s)+(s - -(Z1 R j).2)=x-((Z1 R i).2-(Z1 R j).2)by omega]at this
 ·intro h
  have:=Int.dvd_sub h hg
  rwa [show x-((Z1 R i).2-(Z1 R j).2)-(s - -(Z1 R j).2)=x-((Z1 R i).2+s)by omega]at this
theorem ZnN{b c:Int}(h0:RestOk q)(h:ZdN q b=some c): c≤b∧ZaP q c∧(q.1=0∨b-c<q.1):=by
 unfold ZdN at h
 split at h
 ·rename_i z
  split at h
  ·cases h
   exact⟨by assumption,h0.self,.inl z⟩
  ·cases h
 ·rename_i z
  cases h
  have hp:0<q.1:=by have:=h0.nn;omega
  have h1:=Int.emod_nonneg (b-q.2) z
  have h2:=Int.emod_lt_of_pos (b-q.2) hp
  refine⟨by omega,?_,.inr (by omega)⟩
  rw[Zbq h0.nn]
  have h3:=Int.emod_add_mul_ediv (b-q.2) q.1
  exact⟨(b-q.2) / q.1,by omega⟩
theorem Zna{b x:Int}(h0:RestOk q)(hx:ZaP q x)(hb:x≤b): ∃c,ZdN q b=some c∧x≤c:=by
 unfold ZdN
 rw[Zbq h0.nn]at hx
 split
 ·rename_i z
  rw[z,Int.zero_dvd]at hx
  rw[if_pos (by omega)]
  exact⟨_,rfl,by omega⟩
 ·rename_i z
  have hp:0<q.1:=by have:=h0.nn;omega
  refine⟨_,rfl,?_⟩
  obtain⟨t,ht⟩:=hx
  have h3:=Int.emod_add_mul_ediv (b-q.2) q.1
  have h2:=Int.emod_lt_of_pos (b-q.2) hp
  have h4:t≤(b-q.2) / q.1:=Int.le_ediv_of_mul_le hp (by rw[Int.mul_comm];omega)
  have h5:q.1*t≤q.1*((b-q.2) / q.1):=Int.mul_le_mul_of_nonneg_left h4 (by omega)
  omega
theorem Zd7(R:Nat→Int×Int)(i j:Nat): RestOk (ZbC R i j):=Zi1 _ _
theorem Zye(h:∀b,G i j=some b→ZaR G R i j≠none): leO (ZaR G R i j) (G i j):=by
 intro b e
 have hn:=h b e
 unfold ZaR at hn ⊢
 rw[e]at hn ⊢
 cases hc:ZbX (some b) (ZbC R i j)with
 | none=>exact absurd hc hn
 | some c=>exact⟨c,rfl,(ZnN (Zd7 R i j) hc).1⟩
theorem Zo7(hM:0<M)(bM:Bd k M)(hG:BdG (n+1) k G)(hR:∀t,t<n→RB M k (R t)): BdG (n+1) (k+1) (ZaR G R):=by
 intro i j c hi hj e
 have h1:=Zdu hR i hi
 have h2:=Zdu hR j hj
 have hd1:(ZbC R i j).1=((Int.gcd (Z1 R i).1 (Z1 R j).1:Nat):Int):=by
  unfold ZbC ZbA
  rw[Zm9,ZqK h2.1,Zm9]
 have hb1:=(h1.bd hM bM).1
 have hb2:=(h2.bd hM bM).1
 have hm:Bd k (ZbC R i j).1:=by
  rw[hd1]
  by_cases z:(Z1 R i).1=0
  ·rw[z,Int.gcd_zero_left]
   unfold Bd at *
   simpa using hb2
  ·have:=Int.gcd_le_natAbs_left (b:=(Z1 R j).1) z
   unfold Bd at *
   simp only[Int.natAbs_natCast]
   omega
 unfold ZaR ZbX at e
 cases hg:G i j with
 | some b=>
  rw[hg]at e
  obtain⟨u1,u2,u3⟩:=ZnN (Zd7 R i j) e
  have hbb:=hG i j b hi hj hg
  rcases u3 with z | z
  ·have hx:=(Zhi h1.1 h2.1 c).mp u2
   rw[hd1]at z
   rw[z,Int.zero_dvd]at hx
   have:c=(Z1 R i).2-(Z1 R j).2:=by omega
   rw[this]
   exact Bd.sub h1.2.2 h2.2.2
  ·unfold Bd at *
   rw[Nat.pow_succ]
   omega
 | none=>
  rw[hg]at e
  simp only at e
  split at e
  ·rename_i z
   cases e
   have hx:=(Zhi h1.1 h2.1 (ZbC R i j).2).mp (Zd7 R i j).self
   rw[hd1]at z
   rw[z,Int.zero_dvd]at hx
   have:(ZbC R i j).2=(Z1 R i).2-(Z1 R j).2:=by omega
   rw[this]
   exact Bd.sub h1.2.2 h2.2.2
  ·cases e
def Zf4(n:Nat)(C:Nat→Nat→Option Int)(R:Nat→Int×Int): Prop:=∃i,i<n∧∀x,¬ZcZ n C R (i+1) (n+1) x
theorem Zr8(h:Pk (Z9 1 ZjB ts) fun t=>Zho t=true∧Q t): Pk (Zfe ts) Q:=by
 obtain⟨t,e,o,q⟩:=h
 exact⟨t,by simp only[Zfe,e,Option.bind_some,o,if_true],q⟩
theorem Zyf: Zho (ZO n G R)=true:=ZqT fun _ _=>Zf0
theorem Zr9(hn:n≤100)(hk:k+n+1≤7000)(hM:0<M)(bM:Bd k M)(hd:∀i,i<n+1→G i i=some 0)(bG:BdG (n+1) k G)(hR:∀t,t<n→RB M k (R t)): Pk (Zfe [ZO n G R]) fun t=>(∃R',t=ZO n (clG G (n+1)) R'∧¬Zcs (n+1) G∧Hand n (clG G (n+1)) R R' M (k+n+2))∨(t=.none∧(Zcs (n+1) G∨(¬Zcs (n+1) G∧Zf4 n (clG G (n+1)) R))):=by
 refine Zr8 ?_
 unfold ZjB
 walk_at "z"
 refine(Zyd hn hd).mono ?_
 rintro t (⟨rfl,h⟩ | ⟨rfl,h⟩)
 ·walk_at "z"
  refine(Ztr (k:=k+n+1) hn hk hM (bM.mono (by omega)) (ZeI bG (n+1) (by omega)) (fun t ht=>(hR t ht).mono (by omega))).mono ?_
  rintro t (⟨R',rfl,h2⟩ | ⟨rfl,h2⟩)
  ·exact⟨Zyf,.inl ⟨R',rfl,h,h2⟩⟩
  ·exact⟨rfl,.inr ⟨rfl,.inr ⟨h,h2⟩⟩⟩
 ·walk_at "z"
  exact ZF Zpv ⟨rfl,.inr ⟨rfl,.inl h⟩⟩
theorem ZiU: Zfe [.none]=some .none:=by
 apply Pk.eq
 refine Zr8 ?_
 unfold ZjB
 walk_at "z"
 refine ZF Zwg ?_
 walk_at "z"
 exact ZF Zpv ⟨rfl,rfl⟩
theorem Zi2(hR:∀i,i<n+1→RestOk (Z1 R i))(hd:∀i,i<n+1→G i i=some 0): ∀i,i<n+1→ZaR G R i i=some 0:=by
 intro i hi
 unfold ZaR ZbX
 rw[hd i hi]
 have h0:ZaP (ZbC R i i) 0:=(Zhi (hR i hi) (hR i hi) 0).mpr (by simp)
 obtain⟨c,e,hc⟩:=Zna (Zd7 R i i) h0 (Int.le_refl 0)
 have:=(ZnN (Zd7 R i i) e).1
 show ZdN (ZbC R i i) 0=some 0
 rw[e,show c=0 by omega]
structure Sharp(n:Nat)(G:Nat→Nat→Option Int)(R:Nat→Int×Int)(G2:Nat→Nat→Option Int)(R2:Nat→Int×Int)(M:Int)(k:Nat): Prop where
 go:∃R1,¬Zcs (n+1) G∧Hand n (clG G (n+1)) R R1 M k∧¬ZdM n (clG G (n+1)) R1∧¬Zcs (n+1) (ZaR (clG G (n+1)) R1)∧G2=clG (ZaR (clG G (n+1)) R1) (n+1)∧Hand n G2 R1 R2 M k
def ZfX(n:Nat)(G:Nat→Nat→Option Int)(R:Nat→Int×Int)(M:Int)(k:Nat): Prop:=Zcs (n+1) G∨(¬Zcs (n+1) G∧Zf4 n (clG G (n+1)) R)∨∃R1,¬Zcs (n+1) G∧Hand n (clG G (n+1)) R R1 M k∧(ZdM n (clG G (n+1)) R1∨(¬ZdM n (clG G (n+1)) R1∧(Zcs (n+1) (ZaR (clG G (n+1)) R1)∨(¬Zcs (n+1) (ZaR (clG G (n+1)) R1)∧Zf4 n (clG (ZaR (clG G (n+1)) R1) (n+1)) R1))))
theorem Hand.mono(h:Hand n G R R' M i)(hij:i≤j): Hand n G R R' M j:=fun t ht=>⟨(h t ht).1.mono hij,(h t ht).2⟩
theorem Zxb(hn:n≤100)(hk:k+2*n+4≤7000)(hM:0<M)(bM:Bd k M)(hd:∀i,i<n+1→G i i=some 0)(bG:BdG (n+1) k G)(hR:∀t,t<n→RB M k (R t)): Pk (ZbE [ZO n G R]) fun t=>(∃G2 R2,t=ZO n G2 R2∧Sharp n G R G2 R2 M (k+2*n+5))∨(t=.none∧ZfX n G R M (k+n+2)):=by
 unfold ZbE Zje
 walk_at "z"
 refine(Zr9 hn (by omega) hM bM hd bG hR).mono ?_
 rintro t (⟨R1,rfl,nr,h1⟩ | ⟨rfl,h⟩)
 ·have hR1:∀t,t<n→RB M (k+n+2) (R1 t):=fun t ht=>(h1 t ht).1
  have hF1:=Zdu hR1
  have z1:=Ze8 hd (m:=n+1) fun m hm q=>nr ⟨m,hm,q⟩
  walk_at "z"
  refine(Zvi hn (by omega) hM (bM.mono (by omega)) hR1).mono ?_
  rintro t (⟨rfl,nl⟩ | ⟨rfl,fl⟩)
  ·walk_at "z"
   have bG1:BdG (n+1) (k+n+3) (ZaR (clG G (n+1)) R1):=Zo7 hM (bM.mono (by omega)) (fun a b c ha hb e=>(ZeI bG (n+1) (by omega) a b c ha hb e).mono (by omega)) hR1
   refine(Zr9 (k:=k+n+3) hn (by omega) hM (bM.mono (by omega)) (Zi2 (fun i hi=>(hF1 i hi).1) z1) bG1 (fun t ht=>(hR1 t ht).mono (by omega))).mono ?_
   rintro t (⟨R2,rfl,nr2,h2⟩ | ⟨rfl,h2⟩)
   ·exact .inl ⟨_,R2,rfl,⟨R1,nr,h1.mono (by omega),nl,nr2,rfl,h2.mono (by omega)⟩⟩
   ·exact .inr ⟨rfl,.inr (.inr ⟨R1,nr,h1,.inr ⟨nl,h2⟩⟩)⟩
  ·walk_at "z"
   exact ZF ZiU (.inr ⟨rfl,.inr (.inr ⟨R1,nr,h1,.inl fl⟩)⟩)
 ·walk_at "z"
  refine ZF Zp5 ?_
  walk_at "z"
  refine ZF ZiU (.inr ⟨rfl,?_⟩)
  rcases h with h | h
  ·exact .inl h
  ·exact .inr (.inl h)
theorem Zvj: ZbE [.none]=some .none:=by
 apply Pk.eq
 unfold ZbE Zje
 walk_at "z"
 refine ZF ZiU ?_
 walk_at "z"
 refine ZF Zp5 ?_
 walk_at "z"
 exact ZF ZiU rfl
theorem Zg3(h:Zbw n G R x): Zbw n (clG G (n+1)) R x:=⟨fun i j hi hj b e=>Zoh (ZqI h) (n+1) (by omega) i j hi hj b e,h.2⟩
theorem Zqq(h:Zbw n G R x): ¬Zcs (n+1) G:=fun⟨m,hm,q⟩=>Zwe (Zoh (ZqI h) (m+1) (by omega)) q
theorem ZnO(h:Zbw n G R x): ∀i,i<n+1→ZaP (Z1 R i) (ZaZ x i)
 | 0,_=>⟨fun _=>rfl,fun q=>absurd q (show ¬(0:Int)<0 by decide)⟩
 | i+1,hi=>h.2 i (by omega)
theorem Zq5(h:Zbw n G R x){t:Nat}(ht:t<n): ZcZ n G R (t+1) (n+1) (x t):=by
 refine⟨h.2 t ht,fun j hj a b ha hb hab=>?_⟩
 have h1:=h.1 (t+1) j (by omega) hj a ha
 have h2:=h.1 j (t+1) hj (by omega) b hb
 have h3:ZaZ x (t+1)=x t:=rfl
 rw[h3]at h1 h2
 rw[show x t-a=ZaZ x j by omega]
 exact ZnO h j hj
theorem Zmf(h:Zbw n G R x)(q:Hand n G R R' M k): Zbw n G R' x:=⟨h.1,fun t ht=>((q t ht).2 _).mpr (Zq5 h ht)⟩
theorem Zru(hR:∀i,i<n+1→RestOk (Z1 R i))(h:Zbw n G R x)(hi:i<n+1)(hj:j<n+1): ZaP (ZbC R i j) (ZaZ x i-ZaZ x j):=by
 rw[Zhi (hR i hi) (hR j hj)]
 have h1:=(Zbq (hR i hi).nn _).mp (ZnO h i hi)
 have h2:=(Zbq (hR j hj).nn _).mp (ZnO h j hj)
 have h3:=Int.dvd_sub (Int.dvd_trans (Int.gcd_dvd_left (b:=(Z1 R j).1) ..) h1) (Int.dvd_trans (Int.gcd_dvd_right (a:=(Z1 R i).1) ..) h2)
 rwa [show ZaZ x i-(Z1 R i).2-(ZaZ x j-(Z1 R j).2)=ZaZ x i-ZaZ x j-((Z1 R i).2-(Z1 R j).2)by omega]at h3
theorem Zvk(hR:∀i,i<n+1→RestOk (Z1 R i))(h:Zbw n G R x): ¬ZdM n G R:=by
 rintro⟨i,j,hi,hj,b,e,hn⟩
 obtain⟨c,e2,_⟩:=Zna (Zd7 R i j) (Zru hR h hi hj) (h.1 i j hi hj b e)
 unfold ZaR ZbX at hn
 rw[e]at hn
 simp only at hn
 rw[e2]at hn
 cases hn
theorem Zrv(hR:∀i,i<n+1→RestOk (Z1 R i))(h:Zbw n G R x): Zbw n (ZaR G R) R x:=by
 refine⟨fun i j hi hj b e=>?_,h.2⟩
 have hd:=Zru hR h hi hj
 unfold ZaR ZbX at e
 cases hg:G i j with
 | some c=>
  rw[hg]at e
  simp only at e
  obtain⟨d,e2,hle⟩:=Zna (Zd7 R i j) hd (h.1 i j hi hj c hg)
  rw[e2]at e
  cases e
  exact hle
 | none=>
  rw[hg]at e
  simp only at e
  split at e
  ·rename_i z
   cases e
   rw[Zbq (Zd7 R i j).nn,z,Int.zero_dvd]at hd
   omega
  ·cases e
theorem Zvl(h:Zbw n G R x)(s:Sharp n G R G2 R2 M k): Zbw n G2 R2 x:=by
 obtain⟨R1,h1,h2,h3,h4,rfl,h6⟩:=s.go
 have l1:=Zmf (Zg3 h) h2
 have hF:=Zdu fun t ht=>(h2 t ht).1
 exact Zmf (Zg3 (Zrv (fun i hi=>(hF i hi).1) l1)) h6
theorem ZuE(h:Zbw n G R x): ¬ZfX n G R M k:=by
 have hf:∀{G:Nat→Nat→Option Int} {R:Nat→Int×Int},Zbw n G R x→¬Zf4 n G R:=fun h ⟨i,hi,q⟩=>q _ (Zq5 h hi)
 rintro(q | ⟨_,q⟩ | ⟨R1,_,h2,q⟩)
 ·exact Zqq h q
 ·exact hf (Zg3 h) q
 ·have l1:=Zmf (Zg3 h) h2
  have hF:=Zdu fun t ht=>(h2 t ht).1
  have l2:=Zrv (fun i hi=>(hF i hi).1) l1
  rcases q with q | ⟨_,q | ⟨_,q⟩⟩
  ·exact Zvk (fun i hi=>(hF i hi).1) l1 q
  ·exact Zqq l2 q
  ·exact hf (Zg3 l2) q
theorem Zvm(hk:k≤8000)(op:RestOk p)(oq:RestOk q)(bp:RBd k p)(bq:RBd k q): Pk (ZiQ [ZZ p,ZZ q]) fun t=>∃o,t=oR o∧Met p q o:=by
 unfold ZiQ Znu
 have ep:ZZ p=.tup [.int p.1,.int p.2]:=rfl
 have eq:ZZ q=.tup [.int q.1,.int q.2]:=rfl
 have np:=op.nn
 have nq:=oq.nn
 rw[ep,eq]
 walk_at "z"
 have hlt:∀x:Int,0≤x→Bd k x→x<2 ^ 200000:=fun x h0 h1=>by
  have h2:x.natAbs<2 ^ 200000:=Zcv h1 (by omega)
  have h3:((x.natAbs:Nat):Int)<2 ^ 200000:=by exact_mod_cast h2
  omega
 obtain⟨m,hm,eu⟩:=Zi0 np nq (hlt _ np bp.1) (hlt _ nq bq.1)
 refine ZfZ (fun m σ=>∃l r s t:Int,σ 0=some (.tup [.int p.1,.int p.2])∧σ 1=some (.tup [.int q.1,.int q.2])∧σ 2=some (.int l)∧σ 3=some (.int r)∧σ 4=some (.int s)∧σ 5=some (.int t)∧Eu m l r∧Int.gcd l r=Int.gcd p.1 q.1∧Bd k l∧Bd k r∧(∃z,s*p.1=l+q.1*z)∧(∃z,t*p.1=r+q.1*z)∧Bd (k+1) s∧Bd (k+1) t∧(s.natAbs:Int)*r+(t.natAbs:Int)*l≤q.1∧(1≤l∨t=0)) _ _ ?_ 1000000 (m:=m) ⟨p.1,q.1,1,0,by walk_at "r",by walk_at "r",by walk_at "r",by walk_at "r",by walk_at "r",by walk_at "r",eu,rfl,bp.1,bq.1,⟨0,by omega⟩,⟨-1,by omega⟩,Zej (by omega),ZcN,by simp,.inr rfl⟩ hm
 rintro m σ ⟨l,r,s,t,e0,e1,e2,e3,e4,e5,eu,gl,kl,kr,⟨z1,h1⟩,⟨z2,h2⟩,ks,kt,hb1,hl⟩
 walk_at "z"
 refine⟨fun h=>?_,fun h=>?_⟩
 ·have hr:r≠0:=by simpa using h
  have hr0:0≤r:=eu.2.1
  have hl0:0≤l:=eu.1
  have hrp:0<r:=by omega
  have hdiv0:0≤l / r:=Int.ediv_nonneg hl0 hr0
  have hdiv1:l / r≤l:=Int.ediv_le_self _ hl0
  have kd:Bd k (l / r):=Zdm kl hdiv0 hdiv1
  walk_at "z"
  refine ZbO hr (Zcg kr (by omega)) ?_
  rw[Int.fdiv_eq_ediv_of_nonneg _ hr0]
  walk_at "z"
  refine ZbP (Zcn kd kr (by omega) (by omega)) ?_
  walk_at "z"
  refine ZbP (Zcn kd kt (by omega) (by omega)) ?_
  walk_at "z"
  have hover:l-l / r*r=l % r:=by
   have:=Int.emod_add_mul_ediv l r
   rw[Int.mul_comm r (l / r)]at this
   omega
  rw[hover]
  obtain⟨m',hm1,hm2⟩:=eu.step hr
  have o0:=Int.emod_nonneg l hr
  have o1:=Int.emod_lt_of_pos l hrp
  have ht:((s-l / r*t).natAbs:Int)≤(s.natAbs:Int)+l / r*(t.natAbs:Int):=by
   have h3:(s-l / r*t).natAbs≤s.natAbs+(l / r*t).natAbs:=by omega
   have h4:(l / r*t).natAbs=(l / r).natAbs*t.natAbs:=Int.natAbs_mul ..
   have h5:(((l / r).natAbs*t.natAbs:Nat):Int)=l / r*(t.natAbs:Int):=by
    rw[Int.natCast_mul,Int.natAbs_of_nonneg hdiv0]
   rw[h4]at h3
   omega
  have h6:((s-l / r*t).natAbs:Int)*r≤((s.natAbs:Int)+l / r*(t.natAbs:Int))*r:=Int.mul_le_mul_of_nonneg_right ht hr0
  have h7:((s.natAbs:Int)+l / r*(t.natAbs:Int))*r=(s.natAbs:Int)*r+(t.natAbs:Int)*(l / r*r):=by
   rw[Int.add_mul,Int.mul_comm (l / r) (t.natAbs:Int),Int.mul_assoc]
  have h8:(t.natAbs:Int)*(l % r)+(t.natAbs:Int)*(l / r*r)=(t.natAbs:Int)*l:=by
   rw[←Int.mul_add,←hover]
   congr 1
   omega
  have h9:(t.natAbs:Int)*(l % r)+((s-l / r*t).natAbs:Int)*r≤q.1:=by omega
  have hpos:0≤(t.natAbs:Int)*(l % r):=Int.mul_nonneg (by omega) o0
  have kn:Bd (k+1) (s-l / r*t):=by
   have h10:((s-l / r*t).natAbs:Int)*1≤((s-l / r*t).natAbs:Int)*r:=Int.mul_le_mul_of_nonneg_left (by omega) (by omega)
   have h11:((s-l / r*t).natAbs:Int)≤q.1:=by omega
   have h12:=bq.1
   unfold Bd at *
   rw[Nat.pow_succ]
   omega
  refine⟨m',hm1,r,l % r,t,s-l / r*t,by walk_at "r",by walk_at "r",by walk_at "r",by walk_at "r",by walk_at "r",by walk_at "r",hm2,by rw[Zhh hrp];exact gl,kr,Zdm kr o0 (by omega),⟨z2,h2⟩,⟨z1-l / r*z2,?_⟩,kt,kn,h9,.inl (by omega)⟩
  rw[Int.sub_mul,h1,Int.mul_assoc,h2,Int.mul_add,Int.mul_sub,←hover]
  have e1:q.1*(l / r*z2)=l / r*(q.1*z2):=by rw[←Int.mul_assoc,Int.mul_comm q.1,Int.mul_assoc]
  rw[e1]
  omega
 ·have hr:r=0:=by simpa using h
  subst hr
  rw[Int.gcd_zero_right]at gl
  have hl0:=eu.1
  have hlg:l=(Int.gcd p.1 q.1:Nat):=by omega
  walk_at "z"
  by_cases c:l=0
  ·have hz:p.1=0∧q.1=0:=Int.gcd_eq_zero_iff.mp (by omega)
   have hp1:∀x,ZaP p x↔x=p.2:=fun x=>by rw[Zbq np,hz.1,Int.zero_dvd];omega
   have hq1:∀x,ZaP q x↔x=q.2:=fun x=>by rw[Zbq nq,hz.2,Int.zero_dvd];omega
   walk_at "z"
   by_cases d:q.2-p.2=0
   ·walk_at "z"
    refine⟨some p,rfl,op,fun x=>?_⟩
    rw[hp1,hq1]
    omega
   ·walk_at "z"
    refine⟨none,rfl,fun x hx=>?_⟩
    rw[hp1,hq1]at hx
    omega
  ·have hlp:0<l:=by omega
   obtain⟨a,ea⟩:l ∣ p.1:=by rw[hlg];exact Int.gcd_dvd_left ..
   obtain⟨b,eb⟩:l ∣ q.1:=by rw[hlg];exact Int.gcd_dvd_right ..
   walk_at "z"
   rw[Int.fmod_eq_emod_of_nonneg _ (by omega)]
   by_cases c3:(q.2-p.2) % l=0
   ·obtain⟨d,ed⟩:=Int.dvd_of_emod_eq_zero c3
    have da:p.1 / l=a:=by rw[ea];exact Int.mul_ediv_cancel_left _ (by omega)
    have dd:(q.2-p.2) / l=d:=by rw[ed];exact Int.mul_ediv_cancel_left _ (by omega)
    have ha0:0≤a:=by rw[←da];exact Int.ediv_nonneg np (by omega)
    have ka:Bd k a:=Zdm bp.1 ha0 (by rw[←da];exact Int.ediv_le_self _ np)
    have kdd:Bd (k+1) d:=by
     have h1:Bd (k+1) (q.2-p.2):=Bd.sub bq.2 bp.2
     unfold Bd at *
     rw[ed,Int.natAbs_mul]at h1
     have:1*d.natAbs≤l.natAbs*d.natAbs:=Nat.mul_le_mul_right _ (by omega)
     omega
    walk_at "z"
    refine ZbO (by omega) (Zcg kl (by omega)) ?_
    rw[Int.fdiv_eq_ediv_of_nonneg _ (by omega),da]
    walk_at "z"
    refine ZbP (Zcn ka bq.1 (by omega) (by omega)) ?_
    walk_at "z"
    refine ZbP (Zcn bp.1 ks (by omega) (by omega)) ?_
    walk_at "z"
    refine ZbO (by omega) (Zcg kl (by omega)) ?_
    rw[Int.fdiv_eq_ediv_of_nonneg _ (by omega),dd]
    walk_at "z"
    refine ZbP (Zcn (Bd.mul bp.1 ks) kdd (by omega) (by omega)) ?_
    walk_at "z"
    have hm0:0≤a*q.1:=Int.mul_nonneg ha0 nq
    refine ZF ZfK ⟨some _,rfl,ZcP hm0 _,fun x=>?_⟩
    rw[Zdt hm0,Zbq np,Zbq nq]
    have hx0:p.1*s*d=(q.2-p.2)+q.1*(z1*d):=by
     rw[Int.mul_comm p.1 s,h1,Int.add_mul,ed,Int.mul_assoc]
    have hpm:p.1 ∣ a*q.1:=⟨b,by rw[ea,eb];rw[Int.mul_left_comm,Int.mul_assoc]⟩
    have hqm:q.1 ∣ a*q.1:=Int.dvd_mul_left _ _
    constructor
    ·intro hx
     have g1:=Int.dvd_trans hpm hx
     have g2:=Int.dvd_trans hqm hx
     refine⟨?_,?_⟩
     ·have:=Int.dvd_add g1 (show p.1 ∣ p.1*s*d from⟨s*d,by rw[Int.mul_assoc]⟩)
      rwa [show x-(p.2+p.1*s*d)+p.1*s*d=x-p.2 by omega]at this
     ·have:=Int.dvd_add g2 (Int.dvd_mul_right q.1 (z1*d))
      rwa [show x-(p.2+p.1*s*d)+q.1*(z1*d)=x-q.2 by omega]at this
    ·rintro⟨g1,g2⟩
     have g3:p.1 ∣ x-(p.2+p.1*s*d):=by
      have:=Int.dvd_sub g1 (show p.1 ∣ p.1*s*d from⟨s*d,by rw[Int.mul_assoc]⟩)
      rwa [show x-p.2-p.1*s*d=x-(p.2+p.1*s*d)by omega]at this
     have g4:q.1 ∣ x-(p.2+p.1*s*d):=by
      have:=Int.dvd_sub g2 (Int.dvd_mul_right q.1 (z1*d))
      rwa [show x-q.2-q.1*(z1*d)=x-(p.2+p.1*s*d)by omega]at this
     have g5:=Int.coe_lcm_dvd g3 g4
     have g6:(a*q.1).natAbs=Int.lcm p.1 q.1:=by
      have k1:=Int.gcd_mul_lcm p.1 q.1
      have k2:(l.natAbs)*(a*q.1).natAbs=p.1.natAbs*q.1.natAbs:=by
       rw[Int.natAbs_mul,←Nat.mul_assoc]
       congr 1
       rw[←Int.natAbs_mul,←ea]
      have k3:Int.gcd p.1 q.1=l.natAbs:=by omega
      rw[k3]at k1
      exact Nat.eq_of_mul_eq_mul_left (show 0<l.natAbs by omega) (by omega)
     rw[←g6]at g5
     exact Int.natAbs_dvd.mp g5
   ·walk_at "z"
    refine⟨none,rfl,fun x hx=>c3 ?_⟩
    rw[Zbq np,Zbq nq]at hx
    have g1:l ∣ x-p.2:=Int.dvd_trans ⟨a,ea⟩ hx.1
    have g2:l ∣ x-q.2:=Int.dvd_trans ⟨b,eb⟩ hx.2
    have g3:=Int.dvd_sub g1 g2
    rw[show x-p.2-(x-q.2)=q.2-p.2 by omega]at g3
    exact Int.emod_eq_zero_of_dvd g3
theorem Zzi(hk:k≤8000)(op:RestOk p)(oq:RestOk q)(bp:RBd k p)(bq:RBd k q)(h:Met p q o): ∀r,o=some r→(r=p∨r=q∨(p.1≠0∧q.1≠0∧r.1=Int.lcm p.1 q.1)):=by
 obtain⟨t,_,o',rfl,h',wh⟩:=Zqo hk op oq bp bq
 rw[Zvg h h']
 exact wh
theorem Zwh(q:Int×Int)(h:0≤q.1)(a:Int): ZaE q.1 (q.2+a)=ZbA q (0,a):=by
 unfold ZbA
 simp only[Int.gcd_zero_right]
 rw[Int.natAbs_of_nonneg h]
theorem ZnP(ho:Zdl n G R M k i j o)(h:∀a b x,G i j=some a→G j i=some b→a+b=0→ZcZ n G R i j x→ZaP (Z1 R j) (x-a)): Zdl n G R M k i (j+1) o:=by
 have hs:∀x,ZcZ n G R i j x↔ZcZ n G R i (j+1) x:=fun x=>⟨fun hx=>⟨hx.1,fun j' hj' a b ha hb hab=>by
     by_cases q':j'=j
     ·subst q';exact h a b x ha hb hab hx
     ·exact hx.2 j' (by omega) a b ha hb hab⟩,fun hx=>⟨hx.1,fun j' hj'=>hx.2 j' (by omega)⟩⟩
 cases o with
 | none=>exact fun x hx=>ho x ((hs x).mpr hx)
 | some q=>exact⟨ho.1,fun x=>(ho.2 x).trans (hs x)⟩
theorem Zsa{a:Int}(hM:0<M)(bM:Bd k M)(h:RB M k q)(ba:Bd k a): RB M (k+1) (ZbA q (0,a)):=by
 refine⟨Zi1 _ _,?_,?_⟩
 ·unfold ZbA ZaE
  simp only[Int.gcd_zero_right]
  rw[Int.natAbs_of_nonneg h.1.nn]
  split
  ·exact .inl rfl
  ·exact h.2.1
 ·have hm:=(h.bd hM bM).1
  refine(ZiT (k:=k+1) (by omega) ?_ (Bd.add h.2.2 ba)).2
  simp only[Int.gcd_zero_right]
  rw[Int.natAbs_of_nonneg h.1.nn]
  exact hm.mono (by omega)
theorem Zwi{o':Option (Int×Int)}{a b:Int}(hk:k≤7000)(hM:0<M)(bM:Bd k M)(ha:G i j=some a)(hb:G j i=some b)(hab:a+b=0)(ba:Bd k a)(hj2:RB M k (Z1 R j))(ho:Zdl n G R M (k+1) i j (some q))(mt:Met q (ZbA (Z1 R j) (0,a)) o'): Zdl n G R M (k+1) i (j+1) o':=by
 have bM1:Bd (k+1) M:=bM.mono (by omega)
 have hpl:=Zsa hM bM hj2 ba
 have wh:=Zzi (k:=k+1) (by omega) ho.1.1 hpl.1 (ho.1.bd hM bM1) (hpl.bd hM bM1) mt
 have hset:∀x,(ZaP q x∧ZaP (ZbA (Z1 R j) (0,a)) x)↔ZcZ n G R i (j+1) x:=fun x=>by
  rw[ho.2 x,Zqp hj2.1]
  constructor
  ·rintro⟨h1,h2⟩
   refine⟨h1.1,fun j' hj' c d hc hd hcd=>?_⟩
   by_cases q':j'=j
   ·subst q';rw[ha]at hc;cases hc;exact h2
   ·exact h1.2 j' (by omega) c d hc hd hcd
  ·intro h
   exact⟨⟨h.1,fun j' hj'=>h.2 j' (by omega)⟩,h.2 j (by omega) a b ha hb hab⟩
 cases o' with
 | none=>exact fun x hx=>mt x ((hset x).mpr hx)
 | some r=>
  refine⟨⟨mt.1,?_,?_⟩,fun x=>(mt.2 x).trans (hset x)⟩
  ·rcases wh r rfl with h | h | ⟨h1,h2,h3⟩
   ·rw[h];exact ho.1.2.1
   ·rw[h];exact hpl.2.1
   ·right
    rw[h3]
    exact Int.coe_lcm_dvd (ho.1.2.1.resolve_left h1) (hpl.2.1.resolve_left h2)
  ·rcases wh r rfl with h | h | ⟨h1,h2,h3⟩
   ·rw[h];exact ho.1.2.2
   ·rw[h];exact hpl.2.2
   ·rcases mt.1 with z | z
    ·have:(Int.lcm q.1 (ZbA (Z1 R j) (0,a)).1)≠0:=Int.lcm_ne_zero h1 h2
     omega
    ·have hd:r.1 ∣ M:=by
      rw[h3]
      exact Int.coe_lcm_dvd (ho.1.2.1.resolve_left h1) (hpl.2.1.resolve_left h2)
     exact Zdm bM1 z.2.1 (by have:=Int.le_of_dvd hM hd;omega)
theorem Zyg{p:PE}(h:Pk (p σ) fun t=>∃ts,t=.lst ts∧Q (.lst (ts.drop k))): Pk (ZdB p k σ) Q:=by
 obtain⟨t,e,ts,rfl,q⟩:=h
 exact⟨_,by simp only[ZdB,e,Option.bind_some],q⟩
theorem Zwj{f:Nat→T}: (tab (n+1) f).drop 1=tab n fun i=>f (i+1):=by
 apply List.ext_getElem?
 intro i
 rw[List.getElem?_drop]
 by_cases h:i<n
 ·rw[ZbH h,Nat.add_comm 1 i,ZbH (by omega)]
 ·rw[List.getElem?_eq_none (by rw[Zay];omega),List.getElem?_eq_none (by rw[Zay];omega)]
theorem ZpV(hn:n≤100)(hk:k≤7000)(hM:0<M)(bM:Bd k M)(bG:∀a b c,a<n+1→b<n+1→G a b=some c→Bd k c)(hR:∀t,t<n→RB M k (R t)): Pk (ZgI [Zaj (n+1) G,Za3 n R]) fun t=>(∃R',t=Za3 n R'∧Hand n G R R' M (k+1))∨(t=.none∧Zf4 n G R):=by
 unfold ZgI Zlr
 have hF:=Zdu hR
 have bM1:Bd (k+1) M:=bM.mono (by omega)
 have hr:Za3 n R=.lst (tab n fun i=>ZZ (R i)):=rfl
 rw[hr]
 walk_at "z"
 rw[Zpg]
 walk_at "z"
 refine Zb4 (n:=n) (a:=fun i=>.int ((i+1:Nat):Int)) (P:=fun m σ=>∃F:Nat→Option (Int×Int),σ 0=some (Zaj (n+1) G)∧σ 2=some (.lst (tab (n+1) fun i=>ZZ (Z1 R i)))∧σ 3=some (.lst (tab (n+1) fun i=>oR (F i)))∧F 0=some (0,0)∧(∀a,a<m→Zdl n G R M (k+1) (a+1) (n+1) (F (a+1)))∧∀a,m≤a→a<n→F (a+1)=some (R a)) ?_ ⟨fun i=>some (Z1 R i),by walk_at "r",by walk_at "r",by walk_at "r",rfl,by omega,fun _ _ _=>rfl⟩ ?_ ?_
 ·by_cases h0:n=0
  ·subst h0
   exact⟨[],Zhm (a:=1) (b:=1) rfl ZsF,rfl⟩
  ·walk_at "z"
   refine Rn.two 1 n (by decide) (by omega) (by omega) (by omega) ?_
   refine Zbj fun i _=>?_
   congr 1
   omega
 ·rintro i σ hi ⟨F,e0,e2,e3,z0,h1,h2⟩
  have hself:(fun a=>oR (F a))=fun a=>oR (if a=i+1 then F (i+1)else F a):=funext fun a=>by split <;> simp_all
  rw[hself]at e3
  refine Zb4 (n:=n+1) (a:=fun j=>.int j) (P:=fun j σ=>∃o,σ 0=some (Zaj (n+1) G)∧σ 2=some (.lst (tab (n+1) fun i=>ZZ (Z1 R i)))∧σ 3=some (.lst (tab (n+1) fun a=>oR (if a=i+1 then o else F a)))∧σ 4=some (.int ((i+1:Nat):Int))∧Zdl n G R M (k+1) (i+1) j o) ?_ ⟨F (i+1),by walk_at "r",by walk_at "r",by walk_at "r",by walk_at "r",?_⟩ ?_ ?_
  ·walk_at "z"
   rfl
  ·rw[h2 i (by omega) hi]
   exact⟨(hF (i+1) (by omega)).mono (by omega),fun x=>⟨fun h=>⟨h,by omega⟩,fun h=>h.1⟩⟩
  ·rintro j σ hj ⟨o,f0,f2,f3,f4,ho⟩
   unfold Zaj Zar at f0
   walk_at "z"
   have fin:∀σ':TL,σ' 0=σ 0→σ' 2=σ 2→σ' 3=σ 3→σ' 4=σ 4→Zdl n G R M (k+1) (i+1) (j+1) o→∃o,σ' 0=some (Zaj (n+1) G)∧σ' 2=some (.lst (tab (n+1) fun i=>ZZ (Z1 R i)))∧σ' 3=some (.lst (tab (n+1) fun a=>oR (if a=i+1 then o else F a)))∧σ' 4=some (.int ((i+1:Nat):Int))∧Zdl n G R M (k+1) (i+1) (j+1) o:=fun σ' g0 g2 g3 g4 h=>⟨o,g0.trans f0,g2.trans f2,g3.trans f3,g4.trans f4,h⟩
   refine⟨fun c=>?_,fun c=>⟨fun h=>(nomatch h),fun _=>?_⟩⟩
   ·have cne:i+1≠j:=fun q=>of_decide_eq_true c (by omega)
    cases hg:G (i+1) j with
    | none=>
     rw[Zbx]
     walk_at "z"
     exact fin _ rfl rfl rfl rfl (ZnP ho fun a b x ha=>by rw[hg]at ha;cases ha)
    | some a=>
     rw[ZaH]
     walk_at "z"
     refine Zfc (ZhI (n:=0)) (.int (n:=0)) ?_
     walk_at "z"
     refine⟨fun e=>?_,fun e=>?_⟩
     ·have e':=dec_iff.mp e
      rw[←ZaH,oT_inj]at e'
      cases o with
      | none=>
       walk_at "z"
       rw[if_pos rfl,show oR none=T.none from rfl]
       walk_at "z"
       exact fin _ rfl rfl rfl rfl fun x hx=>ho x ⟨hx.1,fun j' hj'=>hx.2 j' (by omega)⟩
      | some q=>
       walk_at "z"
       rw[if_pos rfl,show oR (some q)=T.tup [.int q.1,.int q.2]from rfl]
       walk_at "z"
       rw[if_pos rfl]
       have hj2:=hF j hj
       have ba:=bG (i+1) j a (by omega) hj hg
       have hpl:=Zsa hM bM hj2 ba
       have eq:ZZ (Z1 R j)=.tup [.int (Z1 R j).1,.int (Z1 R j).2]:=rfl
       rw[eq]
       walk_at "z"
       rw[eq]
       walk_at "z"
       refine ZF ZfK ?_
       rw[Zwh _ hj2.1.nn]
       walk_at "z"
       refine(Zvm (p:=q) (q:=ZbA (Z1 R j) (0,a)) (k:=k+1) (by omega) ho.1.1 hpl.1 (ho.1.bd hM bM1) (hpl.bd hM bM1)).mono ?_
       rintro _ ⟨o',rfl,mt⟩
       refine⟨by cases o' <;> rfl,?_⟩
       walk_at "z"
       refine⟨o',by walk_at "r",by walk_at "r",?_,by walk_at "r",Zwi hk hM bM hg e' (by omega) ba hj2 ho mt⟩
       refine(show _=_ from ZbL).trans ?_
       congr 2
       refine Zbj fun a _=>?_
       split <;> rfl
     ·walk_at "z"
      refine fin _ rfl rfl rfl rfl (ZnP ho fun a' b x ha hb hab hx=>?_)
      rw[hg]at ha
      cases ha
      have:dec (oT (G j (i+1))=.int (-a))=true:=Zbo (by rw[hb,ZaH];congr 1;omega)
      rw[this]at e
      cases e
   ·walk_at "z"
    refine fin _ rfl rfl rfl rfl (ZnP ho fun a b x ha hb hab hx=>?_)
    have cj:i+1=j:=by
     have:=of_decide_eq_false c
     omega
    subst cj
    rw[ha]at hb
    cases hb
    rw[show x-a=x by omega]
    exact hx.1
  ·rintro σ ⟨o,f0,f2,f3,f4,ho⟩
   refine⟨fun a=>if a=i+1 then o else F a,f0,f2,f3,by simp[z0],fun a ha=>?_,fun a ha hb=>?_⟩
   ·by_cases q:a=i
    ·subst q;simpa using ho
    ·simpa [q]using h1 a (by omega)
   ·simpa [show a≠i by omega]using h2 a (by omega) hb
 ·rintro σ ⟨F,e0,e2,e3,z0,h1,-⟩
  walk_at "z"
  refine ZjM (.none (n:=0)) (Zgh (n:=1) fun i _=>ZsR) ?_
  by_cases hc:∃i,i<n∧F (i+1)=none
  ·obtain⟨i,hi,ei⟩:=hc
   rw[Zbo (show T.none∈tab (n+1) fun i=>oR (F i)from List.mem_of_getElem? (i:=i+1) (by rw[ZbH (by omega),ei];rfl))]
   walk_at "z"
   refine .inr ⟨rfl,i,hi,?_⟩
   have:=h1 i hi
   rw[ei]at this
   exact this
  ·rw[Zcq (show ¬T.none∈tab (n+1) fun i=>oR (F i)from fun h=>by
    obtain⟨i,hi,e⟩:=Ze5 h
    have e':=oR_none.mp e.symm
    cases i with
    | zero=>rw[z0]at e';cases e'
    | succ i=>exact hc ⟨i,by omega,e'⟩)]
   walk_at "z"
   refine Zyg ?_
   walk_at "z"
   refine⟨_,rfl,?_⟩
   rw[Zwj]
   have hs:∀i,i<n→F (i+1)=some ((F (i+1)).getD (1,0)):=fun i hi=>by
    cases e:F (i+1)with
    | none=>exact absurd ⟨i,hi,e⟩ hc
    | some q=>rfl
   refine .inl ⟨fun i=>(F (i+1)).getD (1,0),?_,fun t ht=>?_⟩
   ·unfold Za3
    congr 1
    refine Zbj fun i hi=>?_
    conv=>lhs;rw[hs i hi]
    rfl
   ·have:=h1 t ht
    rw[hs t ht]at this
    exact this
theorem Zyh(hi:RestOk (Z1 R i))(hj:RestOk (Z1 R j)): ZbC R i j=ZaE (Int.gcd (Z1 R i).1 (Z1 R j).1:Nat) ((Z1 R i).2-(Z1 R j).2):=
 ZgS (Zd7 R i j) (ZcP (by omega) _) fun x=>(Zhi hi hj x).trans (Zdt (by omega) x).symm
theorem Zyi(hi:RestOk (Z1 R i))(hj:RestOk (Z1 R j)): ZaR G R i j=if((Int.gcd (Z1 R i).1 (Z1 R j).1:Nat):Int)=0 then(match G i j with | none=>some ((Z1 R i).2-(Z1 R j).2) | some b=>if(Z1 R i).2-(Z1 R j).2≤b then some ((Z1 R i).2-(Z1 R j).2)else none)else(match G i j with | none=>none | some b=>some (b-(b-((Z1 R i).2-(Z1 R j).2)) % (Int.gcd (Z1 R i).1 (Z1 R j).1:Nat))):=by
 unfold ZaR
 rw[Zyh hi hj]
 generalize ((Int.gcd (Z1 R i).1 (Z1 R j).1:Nat):Int)=m at *
 generalize (Z1 R i).2-(Z1 R j).2=r
 unfold ZaE
 by_cases c:m=0
 ·rw[if_pos c,if_pos c]
  cases G i j with
  | none=>simp[ZbX]
  | some b=>simp[ZbX,ZdN]
 ·rw[if_neg c,if_neg c]
  cases G i j with
  | none=>simp[ZbX,c]
  | some b=>
   have:(b-r.fmod m) % m=(b-r) % m:=by
    have h1:m ∣ (b-r.fmod m)-(b-r):=by
     have:=Int.mul_fdiv_add_fmod r m
     exact⟨r.fdiv m,by omega⟩
    exact Int.emod_eq_emod_iff_emod_sub_eq_zero.mpr (Int.emod_eq_zero_of_dvd h1)
   simp[ZbX,ZdN,c,this]
def Zgt(n:Nat)(G:Nat→Nat→Option Int)(R:Nat→Int×Int)(F:Nat→Nat→Option Int)(i j:Nat): Prop:=∀a b,a<n+1→b<n+1→((a<i∨(a=i∧b<j))→F a b=ZaR G R a b∧∀c,G a b=some c→ZaR G R a b≠none)∧(¬(a<i∨(a=i∧b<j))→F a b=G a b)
theorem ZqL(h:Zgt n G R F i j)(e:G i j=ZaR G R i j): Zgt n G R F i (j+1):=fun a b ha hb=>by
 obtain⟨h1,h2⟩:=h a b ha hb
 refine⟨fun q=>?_,fun q=>h2 (by omega)⟩
 by_cases q':a=i∧b=j
 ·obtain⟨rfl,rfl⟩:=q'
  rw[h2 (by omega)]
  exact⟨e,fun c hc=>by rw[←e,hc];simp⟩
 ·exact h1 (by omega)
theorem ZnQ{v:Int}(h:Zgt n G R F i j)(e:ZaR G R i j=some v): Zgt n G R (Zcj F i j (some v)) i (j+1):=fun a b ha hb=>by
 obtain⟨h1,h2⟩:=h a b ha hb
 by_cases q':a=i∧b=j
 ·obtain⟨rfl,rfl⟩:=q'
  rw[Zd6]
  exact⟨fun _=>⟨e.symm,fun c _=>by rw[e];simp⟩,fun q=>by omega⟩
 ·rw[Zdf q']
  exact⟨fun q=>h1 (by omega),fun q=>h2 (by omega)⟩
theorem Ztt(hn:n≤100)(hk:k≤7000)(hM:0<M)(bM:Bd k M)(hR:∀t,t<n→RB M k (R t))(hd:∀i,i<n+1→G i i=some 0): Pk (Zh5 [Zaj (n+1) G,Za3 n R]) fun t=>(t=Zaj (n+1) (ZaR G R)∧¬ZdM n G R)∨(t=.none∧ZdM n G R):=by
 unfold Zh5 Zk0
 have hF:=Zdu hR
 have hlz:=Zi2 (fun i hi=>(hF i hi).1) hd
 have hr:Za3 n R=.lst (tab n fun i=>ZZ (R i)):=rfl
 rw[hr]
 walk_at "z"
 rw[Zpg]
 refine ZiF (n:=n+1) (G:=G) (by omega) ?_ ?_
 ·walk_at "z"
  rfl
 walk_at "z"
 refine Zb4 (n:=n+1) (a:=fun i=>.int i) (P:=fun i σ=>∃F,σ 0=some (Zaj (n+1) G)∧σ 2=some (.lst (tab (n+1) fun i=>ZZ (Z1 R i)))∧σ 3=some (Zaj (n+1) F)∧Zgt n G R F i 0) ?_ ⟨G,by walk_at "r",by walk_at "r",by walk_at "r",fun a b _ _=>⟨fun q=>by omega,fun _=>rfl⟩⟩ ?_ ?_
 ·walk_at "z"
  rfl
 ·rintro i σ hi ⟨F,e0,e2,e3,lt⟩
  refine Zb4 (n:=n+1) (a:=fun i=>.int i) (P:=fun j σ=>∃F,σ 0=some (Zaj (n+1) G)∧σ 2=some (.lst (tab (n+1) fun i=>ZZ (Z1 R i)))∧σ 3=some (Zaj (n+1) F)∧σ 4=some (.int i)∧Zgt n G R F i j) ?_ ⟨F,by walk_at "r",by walk_at "r",by walk_at "r",by walk_at "r",lt⟩ ?_ ?_
  ·walk_at "z"
   rfl
  ·rintro j σ hj ⟨F,e0,e2,e3,e4,lt⟩
   have hi1:=hF i hi
   have hj1:=hF j hj
   have lw:=Zyi (G:=G) hi1.1 hj1.1
   have f0:σ 0=some (.lst (tab (n+1) fun i=>.lst (tab (n+1) fun j=>oT (G i j)))):=e0
   have f3:σ 3=some (.lst (tab (n+1) fun i=>.lst (tab (n+1) fun j=>oT (F i j)))):=e3
   have eqi:ZZ (Z1 R i)=.tup [.int (Z1 R i).1,.int (Z1 R i).2]:=rfl
   have eqj:ZZ (Z1 R j)=.tup [.int (Z1 R j).1,.int (Z1 R j).2]:=rfl
   clear e0 e3
   walk_at "z"
   rw[eqi]
   walk_at "z"
   rw[eqj]
   walk_at "z"
   refine ZF (Zm7 (Zcv (hi1.bd hM bM).1 (by omega)) (Zcv (hj1.bd hM bM).1 (by omega))) ?_
   walk_at "z"
   rw[eqi]
   walk_at "z"
   rw[eqj]
   walk_at "z"
   have hm0:(0:Int)≤((Int.gcd (Z1 R i).1 (Z1 R j).1:Nat):Int):=by omega
   generalize ((Int.gcd (Z1 R i).1 (Z1 R j).1:Nat):Int)=m at *
   generalize (Z1 R i).2-(Z1 R j).2=r at *
   refine⟨fun c=>?_,fun c=>⟨fun h=>(nomatch h),fun _=>?_⟩⟩
   ·have cne:(i:Int)≠j:=of_decide_eq_true c
    by_cases cm:m=0
    ·rw[if_pos cm]at lw
     walk_at "z"
     cases hg:G i j with
     | none=>
      rw[hg]at lw
      rw[Zbx]
      walk_at "z"
      rw[←ZaH (c:=r),Zgl]
      exact⟨_,by walk_at "r",by walk_at "r",by walk_at "r",by walk_at "r",ZnQ lt lw⟩
     | some b=>
      rw[hg]at lw
      rw[ZaH]
      walk_at "z"
      by_cases cb:b<r
      ·walk_at "z"
       refine .inr ⟨rfl,i,j,hi,hj,b,hg,?_⟩
       rw[lw]
       exact if_neg (by omega)
      ·walk_at "z"
       rw[←ZaH (c:=r),Zgl]
       exact⟨_,by walk_at "r",by walk_at "r",by walk_at "r",by walk_at "r",ZnQ lt (by rw[lw];exact if_pos (by omega))⟩
    ·rw[if_neg cm]at lw
     walk_at "z"
     cases hg:G i j with
     | none=>
      rw[hg]at lw
      rw[Zbx]
      walk_at "z"
      exact⟨F,by walk_at "r",by walk_at "r",by walk_at "r",by walk_at "r",ZqL lt (by rw[hg,lw])⟩
     | some b=>
      rw[hg]at lw
      rw[ZaH]
      walk_at "z"
      rw[Int.fmod_eq_emod_of_nonneg _ hm0]
      walk_at "z"
      rw[←ZaH (c:=b-(b-r) % m),Zgl]
      exact⟨_,by walk_at "r",by walk_at "r",by walk_at "r",by walk_at "r",ZnQ lt lw⟩
   ·have ceq:i=j:=by
     have:=of_decide_eq_false c
     omega
    walk_at "z"
    subst ceq
    exact⟨F,by walk_at "r",by walk_at "r",by walk_at "r",by walk_at "r",ZqL lt (by rw[hd _ hi,hlz _ hi])⟩
  ·rintro σ ⟨F,e0,e2,e3,e4,lt⟩
   exact⟨F,e0,e2,e3,fun a b ha hb=>⟨fun q=>(lt a b ha hb).1 (by omega),fun q=>(lt a b ha hb).2 (by omega)⟩⟩
 ·rintro σ ⟨F,e0,e2,e3,lt⟩
  walk_at "z"
  refine .inl ⟨?_,?_⟩
  ·unfold Zaj Zar
   congr 1
   refine Zbj fun a ha=>?_
   congr 1
   refine Zbj fun b hb=>?_
   rw[((lt a b ha hb).1 (by omega)).1]
  ·rintro⟨a,b,ha,hb,c,hc,e⟩
   exact((lt a b ha hb).1 (by omega)).2 c hc e
noncomputable def Zcc(G:Nat→Nat→Option Int): Nat→List Nat→Nat→Option Int
 | i,[],j=>G i j
 | i,k::l,j=>addO (G i k) (Zcc G k l j)
theorem Zde(G:Nat→Nat→Option Int): ∀(i:Nat) (l1:List Nat) (k:Nat) (l2:List Nat) (j:Nat),Zcc G i (l1++k::l2) j=addO (Zcc G i l1 k) (Zcc G k l2 j)
 | i,[],k,l2,j=>rfl
 | i,a::l1,k,l2,j=>by
  show addO (G i a) (Zcc G a (l1++k::l2) j)=addO (addO (G i a) (Zcc G a l1 k)) (Zcc G k l2 j)
  rw[Zde G a l1 k l2 j,Zg2]
theorem Zrw{n:Nat}{G C:Nat→Nat→Option Int}(hle:∀i j,i<n→j<n→leO (C i j) (G i j))(tri:∀k i j,k<n→i<n→j<n→leO (C i j) (addO (C i k) (C k j))): ∀(l:List Nat) (i j:Nat),(∀a∈l,a<n)→i<n→j<n→leO (C i j) (Zcc G i l j)
 | [],i,j,_,hi,hj=>hle i j hi hj
 | k::l,i,j,hl,hi,hj=>by
  have hk:=hl k Zz5
  exact Zdb (tri k i j hk hi hj) (ZfW (hle i k hi hk) (Zrw hle tri l k j (fun a m=>hl a (Zz2 _ m)) hk hj))
theorem ZhE{n:Nat}{G:Nat→Nat→Option Int}: ∀(m:Nat),m≤n→∀i j c,clG G m i j=some c→∃l:List Nat,(∀a∈l,a<n)∧Zcc G i l j=some c
 | 0,_,i,j,c,h=>⟨[],by simp,h⟩
 | m+1,hm,i,j,c,h=>by
  rcases Zhq (clG G m i j) (addO (clG G m i m) (clG G m m j))with e | e
  ·rw[show clG G (m+1) i j=_ from e]at h
   exact ZhE (n:=n) m (by omega) i j c h
  ·rw[show clG G (m+1) i j=_ from e]at h
   obtain⟨p,q,h1,h2,h3⟩:=addO_some.mp h
   obtain⟨l1,a1,b1⟩:=ZhE (n:=n) m (by omega) i m p h1
   obtain⟨l2,a2,b2⟩:=ZhE (n:=n) m (by omega) m j q h2
   refine⟨l1++m::l2,fun a ha=>?_,by rw[Zde,b1,b2];simp[addO,h3]⟩
   rcases Zz8.mp ha with ha | ha
   ·exact a1 a ha
   ·rcases Zz7.mp ha with rfl | ha
    ·omega
    ·exact a2 a ha
theorem ZnR: ∀(n:Nat) (l:List Nat),l.Nodup→(∀a∈l,a<n)→l.length≤n
 | 0,l,_,h=>by
  cases l with
  | nil=>simp
  | cons a l=>exact absurd (h a Zz5) (by omega)
 | n+1,l,hn,h=>by
  have h1:=ZnR n (l.erase n) (hn.erase n) fun a ha=>by
   have ha':=List.mem_of_mem_erase ha
   have:=h a ha'
   have hne:a≠n:=fun q=>by
    subst q
    exact(List.Nodup.not_mem_erase hn) ha
   omega
  have h2:=List.length_erase_of_mem (a:=n) (l:=l)
  by_cases q:n∈l
  ·have:=h2 q;have:0<l.length:=List.length_pos_of_mem q;omega
  ·rw[List.erase_of_not_mem q]at h1;omega
theorem ZnS: ∀(l:List Nat),¬l.Nodup→∃k l1 l2 l3,l=l1++k::(l2++k::l3)
 | [],h=>absurd List.nodup_nil h
 | a::l,h=>by
  by_cases q:a∈l
  ·obtain⟨l2,l3,e⟩:=List.append_of_mem q
   exact⟨a,[],l2,l3,by rw[e];rfl⟩
  ·have:¬l.Nodup:=fun n=>h (List.nodup_cons.mpr ⟨q,n⟩)
   obtain⟨k,l1,l2,l3,e⟩:=ZnS l this
   exact⟨k,a::l1,l2,l3,by rw[e];rfl⟩
theorem Zyj(pos:∀k l s,k<n→(∀a∈l,a<n)→Zcc G k l k=some s→0≤s)(hi:i<n)(hj:j<n): ∀(L:Nat) (l:List Nat) (s:Int),l.length=L→(∀a∈l,a<n)→Zcc G i l j=some s→∃l' s',l'.length+1≤n∧(∀a∈l',a<n)∧Zcc G i l' j=some s'∧s'≤s:=by
 intro L
 induction L using Nat.strongRecOn with
 | _ L ih=>
  intro l s hL hl h
  by_cases q:i∈l
  ·obtain⟨l1,l2,e⟩:=List.append_of_mem q
   subst e
   rw[Zde]at h
   obtain⟨p,r,h1,h2,h3⟩:=addO_some.mp h
   have hp:=pos i l1 p hi (fun a ha=>hl a (Zz4 _ ha)) h1
   obtain⟨l',s',k1,k2,k3,k4⟩:=ih l2.length (by rw[←hL];simp;omega) l2 r rfl (fun a ha=>hl a (Zz3 _ (Zz2 _ ha))) h2
   exact⟨l',s',k1,k2,k3,by omega⟩
  ·by_cases nd:l.Nodup
   ·have:=ZnR n (i::l) (List.nodup_cons.mpr ⟨q,nd⟩) (fun a ha=>by
     rcases Zz7.mp ha with rfl | ha
     ·exact hi
     ·exact hl a ha)
    exact⟨l,s,by simpa using this,hl,h,by omega⟩
   ·obtain⟨k,l1,l2,l3,e⟩:=ZnS l nd
    subst e
    rw[Zde]at h
    obtain⟨p,r,h1,h2,h3⟩:=addO_some.mp h
    rw[Zde]at h2
    obtain⟨p2,r2,h4,h5,h6⟩:=addO_some.mp h2
    have hk:k<n:=hl k (by simp)
    have hp:=pos k l2 p2 hk (fun a ha=>hl a (by simp[ha])) h4
    have h7:Zcc G i (l1++k::l3) j=some (p+r2):=by rw[Zde,h1,h5];rfl
    obtain⟨l',s',k1,k2,k3,k4⟩:=ih (l1++k::l3).length (by rw[←hL];simp;omega) (l1++k::l3) (p+r2) rfl (fun a ha=>hl a (by simp at ha ⊢;rcases ha with h | h | h <;> simp[h])) h7
    exact⟨l',s',k1,k2,k3,by omega⟩
theorem Zvn: ∀(L:Nat) (i:Nat) (l:List Nat) (s:Int),l.length=L→i<n→(∀a∈l,a<n)→Zcc G i l i=some s→s<0→∃i' l' s',l'.length+1≤n∧i'<n∧(∀a∈l',a<n)∧Zcc G i' l' i'=some s'∧s'<0:=by
 intro L
 induction L using Nat.strongRecOn with
 | _ L ih=>
  intro i l s hL hi hl h hs
  by_cases q:i∈l
  ·obtain⟨l1,l2,e⟩:=List.append_of_mem q
   subst e
   rw[Zde]at h
   obtain⟨p,r,h1,h2,h3⟩:=addO_some.mp h
   by_cases hp:p<0
   ·exact ih l1.length (by rw[←hL];simp) i l1 p rfl hi (fun a ha=>hl a (Zz4 _ ha)) h1 hp
   ·exact ih l2.length (by rw[←hL];simp;omega) i l2 r rfl hi (fun a ha=>hl a (Zz3 _ (Zz2 _ ha))) h2 (by omega)
  ·by_cases nd:l.Nodup
   ·have:=ZnR n (i::l) (List.nodup_cons.mpr ⟨q,nd⟩) (fun a ha=>by
     rcases Zz7.mp ha with rfl | ha
     ·exact hi
     ·exact hl a ha)
    exact⟨i,l,s,by simpa using this,hi,hl,h,hs⟩
   ·obtain⟨k,l1,l2,l3,e⟩:=ZnS l nd
    subst e
    rw[Zde]at h
    obtain⟨p,r,h1,h2,h3⟩:=addO_some.mp h
    rw[Zde]at h2
    obtain⟨p2,r2,h4,h5,h6⟩:=addO_some.mp h2
    have hk:k<n:=hl k (by simp)
    by_cases hp:p2<0
    ·exact ih l2.length (by rw[←hL];simp;omega) k l2 p2 rfl hk (fun a ha=>hl a (by simp[ha])) h4 hp
    ·have h7:Zcc G i (l1++k::l3) i=some (p+r2):=by rw[Zde,h1,h5];rfl
     exact ih (l1++k::l3).length (by rw[←hL];simp;omega) i (l1++k::l3) (p+r2) rfl hi (fun a ha=>hl a (by simp at ha ⊢;rcases ha with h | h | h <;> simp[h])) h7 (by omega)
def Zfp(n r:Nat)(G D:Nat→Nat→Option Int): Prop:=(∀i j,i<n→j<n→∀c,D i j=some c→∃l:List Nat,(∀a∈l,a<n)∧Zcc G i l j=some c)∧∀(l:List Nat) i j,l.length+1≤r→(∀a∈l,a<n)→i<n→j<n→leO (D i j) (Zcc G i l j)
theorem Zxc: Zfp n 1 G G:=⟨fun i j _ _ c h=>⟨[],by simp,h⟩,fun l i j h _ _ _=>by
 have:l=[]:=List.length_eq_zero_iff.mp (by omega)
 subst this
 exact Zdd⟩
def ZsS(n:Nat)(D D':Nat→Nat→Option Int): Prop:=∀i j,i<n→j<n→leO (D' i j) (D i j)∧(∀k,k<n→leO (D' i j) (addO (D i k) (D k j)))∧(D' i j=D i j∨∃k,k<n∧D' i j=addO (D i k) (D k j))
theorem Zvo{r:Nat}{D':Nat→Nat→Option Int}(h:Zfp n r G D)(t:ZsS n D D'): Zfp n (2*r) G D':=by
 refine⟨fun i j hi hj c e=>?_,fun l i j hl ha hi hj=>?_⟩
 ·obtain⟨_,_,e1 | ⟨k,hk,e1⟩⟩:=t i j hi hj
  ·rw[e1]at e;exact h.1 i j hi hj c e
  ·rw[e1]at e
   obtain⟨p,q,h1,h2,h3⟩:=addO_some.mp e
   obtain⟨l1,a1,b1⟩:=h.1 i k hi hk p h1
   obtain⟨l2,a2,b2⟩:=h.1 k j hk hj q h2
   refine⟨l1++k::l2,fun a ha=>?_,by rw[Zde,b1,b2];simp[addO,h3]⟩
   rcases Zz8.mp ha with ha | ha
   ·exact a1 a ha
   ·rcases Zz7.mp ha with rfl | ha
    ·exact hk
    ·exact a2 a ha
 ·obtain⟨t1,t2,_⟩:=t i j hi hj
  by_cases q:l.length+1≤r
  ·exact Zdb t1 (h.2 l i j q ha hi hj)
  ·have hr:1≤r:=by omega
   have hlt:r-1<l.length:=by omega
   obtain⟨k,l1,l2,e,hl1⟩:∃k l1 l2,l=l1++k::l2∧l1.length=r-1:=⟨l[r-1],l.take (r-1),l.drop r,by
    have e1:=(List.take_append_drop (r-1) l).symm
    rw[List.drop_eq_getElem_cons hlt,show r-1+1=r by omega]at e1
    exact e1,by simp;omega⟩
   subst e
   have hk:k<n:=ha k (by simp)
   rw[Zde]
   refine Zdb (t2 k hk) (ZfW (h.2 l1 i k (by omega) (fun a m=>ha a (Zz4 _ m)) hi hk) (h.2 l2 k j ?_ (fun a m=>ha a (Zz3 _ (Zz2 _ m))) hk hj))
   simp at hl
   omega
theorem Zvp{r:Nat}(hd:∀i,i<n→G i i=some 0)(hr:n≤r)(b:Zfp n r G D)(nn:∀m,m<n→¬Neg n (clG G (m+1))): ∀i j,i<n→j<n→D i j=clG G n i j:=by
 intro i j hi hj
 have low:=Zrw (n:=n) (G:=G) (C:=clG G n) (fun i j _ _=>ZhJ n i j) (fun k i j hk hi hj=>Zo6 hd n (by omega) nn k hk i j hi hj)
 have zero:=Ze8 hd (m:=n) nn
 have pos:∀k l s,k<n→(∀a∈l,a<n)→Zcc G k l k=some s→0≤s:=fun k l s hk hl e=>by
  have:=low l k k hl hk hk
  rw[zero k hk,e]at this
  exact leO_some.mp this
 refine Zug ?_ ?_
 ·intro c e
  obtain⟨l,h1,h2⟩:=ZhE n (Zz10 n) i j c e
  obtain⟨l',s',k1,k2,k3,k4⟩:=Zyj pos hi hj _ l c rfl h1 h2
  have:=b.2 l' i j (by omega) k2 hi hj
  rw[k3]at this
  obtain⟨x,e1,e2⟩:=this s' rfl
  exact⟨x,e1,by omega⟩
 ·intro c e
  obtain⟨l,h1,h2⟩:=b.1 i j hi hj c e
  have:=low l i j h1 hi hj
  rw[h2]at this
  exact this c rfl
theorem Zwk{r:Nat}(hr:n≤r)(b:Zfp n r G D)(hm:m<n)(ng:Neg n (clG G (m+1))): Neg n D:=by
 obtain⟨i,hi,c,e,hc⟩:=ng
 obtain⟨l,h1,h2⟩:=ZhE (n:=n) (m+1) (by omega) i i c e
 obtain⟨i',l',s',k1,k2,k3,k4,k5⟩:=Zvn _ i l c rfl hi h1 h2 hc
 have:=b.2 l' i' i' (by omega) k3 k2 k2
 rw[k4]at this
 obtain⟨x,e1,e2⟩:=this s' rfl
 exact⟨i',k2,x,e1,by omega⟩
def ZdQ(n:Nat)(D F:Nat→Nat→Option Int)(done:Nat→Nat→Nat→Prop): Prop:=∀a b,a<n→b<n→leO (F a b) (D a b)∧(F a b=D a b∨∃k,k<n∧F a b=addO (D a k) (D k b))∧∀k,k<n→done a b k→leO (F a b) (addO (D a k) (D k b))
theorem ZnT(h:ZdQ n D F done)(hd:∀a b c,c<n→done' a b c→done a b c∨(a=i∧b=j∧c=k))(hl:leO (F i j) (addO (D i k) (D k j))): ZdQ n D F done':=fun a b ha hb=>by
 obtain⟨h1,h2,h3⟩:=h a b ha hb
 refine⟨h1,h2,fun c hc q=>?_⟩
 rcases hd a b c hc q with q | ⟨rfl,rfl,rfl⟩
 ·exact h3 c hc q
 ·exact hl
theorem Zxd(h:ZdQ n D F done)(hi:i<n)(hj:j<n)(hk:k<n)(hd:∀a b c,c<n→done' a b c→done a b c∨(a=i∧b=j∧c=k))(hl:leO (addO (D i k) (D k j)) (F i j)): ZdQ n D (Zcj F i j (addO (D i k) (D k j))) done':=fun a b ha hb=>by
 by_cases q:a=i∧b=j
 ·obtain⟨rfl,rfl⟩:=q
  obtain⟨h1,h2,h3⟩:=h a b ha hb
  rw[Zd6]
  refine⟨Zdb hl h1,.inr ⟨k,hk,rfl⟩,fun c hc q=>?_⟩
  rcases hd a b c hc q with q | ⟨_,_,rfl⟩
  ·exact Zdb hl (h3 c hc q)
  ·exact Zdd
 ·rw[Zdf q]
  obtain⟨h1,h2,h3⟩:=h a b ha hb
  refine⟨h1,h2,fun c hc q'=>?_⟩
  rcases hd a b c hc q' with q' | ⟨rfl,rfl,_⟩
  ·exact h3 c hc q'
  ·exact absurd ⟨rfl,rfl⟩ q
theorem Zhb(h:ZdQ n D F done)(hd:∀a b c,a<n→b<n→c<n→done' a b c→done a b c): ZdQ n D F done':=fun a b ha hb=>by
 obtain⟨h1,h2,h3⟩:=h a b ha hb
 exact⟨h1,h2,fun c hc q=>h3 c hc (hd a b c ha hb hc q)⟩
theorem Zvq(h:ZdQ n D F fun _ _ _=>True): ZsS n D F:=fun a b ha hb=>by
 obtain⟨h1,h2,h3⟩:=h a b ha hb
 exact⟨h1,fun k hk=>h3 k hk trivial,h2⟩
theorem ZtU(h0:0<n)(hn:n≤100)(hd:∀i,i<n→G i i=some 0): Pk (Zfq [Zaj n G]) fun t=>∃r D,n≤r∧Zfp n r G D∧((t=Zaj n D∧¬Neg n D)∨(t=.none∧Neg n D)):=by
 unfold Zfq ZjX
 have hg:Zaj n G=.lst (tab n fun i=>Zar n (G i)):=rfl
 walk_at "z"
 rw[hg]
 walk_at "z"
 refine ZiF (n:=n) (G:=G) (by omega) ?_ ?_
 ·walk_at "z"
  rfl
 walk_at "z"
 refine ZfZ (fun m σ=>∃(r:Nat) (D:Nat→Nat→Option Int),σ 1=some (.int n)∧σ 2=some (Zaj n D)∧σ 3=some (.int r)∧Zfp n r G D∧1≤r∧r≤2*n∧m=2*n-r) _ _ ?_ 1000000 (m:=2*n-1) ⟨1,G,by walk_at "r",by walk_at "r",by walk_at "r",Zxc,by omega,by omega,rfl⟩ (by omega)
 rintro m σ ⟨r,D,e1,e2,e3,bs,r1,r2,rfl⟩
 have hdD:∀i,i<n→∃b,D i i=some b:=fun i hi=>by
  have:=bs.2 [] i i (by simpa using r1) (by simp) hi hi
  rw[show Zcc G i [] i=some 0 from hd i hi]at this
  obtain⟨x,e,_⟩:=this 0 rfl
  exact⟨x,e⟩
 walk_at "z"
 refine⟨fun c=>?_,fun c=>?_⟩
 ·have hrn:r<n:=by simpa using c
  walk_at "z"
  refine ZiF (n:=n) (G:=D) (by omega) ?_ ?_
  ·walk_at "z"
   rfl
  walk_at "z"
  refine Zb4 (n:=n) (a:=fun i=>.int i) (P:=fun i σ=>∃F,σ 1=some (.int n)∧σ 2=some (Zaj n F)∧σ 3=some (.int r)∧σ 4=some (Zaj n D)∧ZdQ n D F fun a _ _=>a<i) ?_ ⟨D,by walk_at "r",by walk_at "r",by walk_at "r",by walk_at "r",fun a b _ _=>⟨Zdd,.inl rfl,fun k _ q=>by omega⟩⟩ ?_ ?_
  ·walk_at "z"
   rfl
  ·rintro i σ hi ⟨F0,f1,f2,f3,f4,pt⟩
   refine Zb4 (n:=n) (a:=fun i=>.int i) (P:=fun j σ=>∃F,σ 1=some (.int n)∧σ 2=some (Zaj n F)∧σ 3=some (.int r)∧σ 4=some (Zaj n D)∧σ 5=some (.int i)∧ZdQ n D F fun a b _=>a<i∨(a=i∧b<j)) ?_ ⟨F0,by walk_at "r",by walk_at "r",by walk_at "r",by walk_at "r",by walk_at "r",Zhb pt fun a b c _ _ _ q=>by omega⟩ ?_ ?_
   ·walk_at "z"
    rfl
   ·rintro j σ hj ⟨F1,f1,f2,f3,f4,f5,pt⟩
    refine Zb4 (n:=n) (a:=fun i=>.int i) (P:=fun k σ=>∃F,σ 1=some (.int n)∧σ 2=some (Zaj n F)∧σ 3=some (.int r)∧σ 4=some (Zaj n D)∧σ 5=some (.int i)∧σ 6=some (.int j)∧ZdQ n D F fun a b c=>a<i∨(a=i∧(b<j∨(b=j∧c<k)))) ?_ ⟨F1,by walk_at "r",by walk_at "r",by walk_at "r",by walk_at "r",by walk_at "r",by walk_at "r",Zhb pt fun a b c _ _ _ q=>by omega⟩ ?_ ?_
    ·walk_at "z"
     rfl
    ·rintro k σ hk ⟨F,f1,f2,f3,f4,f5,f6,pt⟩
     have hdn:∀a b c,c<n→(a<i∨(a=i∧(b<j∨(b=j∧c<k+1))))→(a<i∨(a=i∧(b<j∨(b=j∧c<k))))∨(a=i∧b=j∧c=k):=fun a b c _ q=>by omega
     have f2':=f2
     unfold Zaj Zar at f2 f4
     walk_at "z"
     cases hik:D i k with
     | none=>
      rw[Zbx]
      walk_at "z"
      exact⟨F,by walk_at "r",by walk_at "r",by walk_at "r",by walk_at "r",by walk_at "r",by walk_at "r",ZnT pt hdn (by rw[hik];exact Zf3)⟩
     | some p=>
      rw[ZaH]
      walk_at "z"
      cases hkj:D k j with
      | none=>
       rw[Zbx]
       walk_at "z"
       exact⟨F,by walk_at "r",by walk_at "r",by walk_at "r",by walk_at "r",by walk_at "r",by walk_at "r",ZnT pt hdn (by rw[hik,hkj];exact Zf3)⟩
      | some q=>
       rw[ZaH]
       walk_at "z"
       rw[hik,hkj,ZaH,ZaH]
       have hs:addO (D i k) (D k j)=some (p+q):=by rw[hik,hkj];rfl
       have hset:=Zxd pt hi hj hk hdn
       have hkeep:=ZnT pt hdn
       rw[hs]at hset hkeep
       clear f2'
       walk_at "z"
       cases hij:F i j with
       | none=>
        rw[Zbx]
        walk_at "z"
        rw[←ZaH (c:=p+q),Zgl]
        exact⟨_,by walk_at "r",by walk_at "r",by walk_at "r",by walk_at "r",by walk_at "r",by walk_at "r",hset (by rw[hij];exact Zf3)⟩
       | some g=>
        rw[ZaH]
        walk_at "z"
        rw[hij,ZaH]
        walk_at "z"
        by_cases hlt:p+q<g
        ·walk_at "z"
         rw[←ZaH (c:=p+q),Zgl]
         exact⟨_,by walk_at "r",by walk_at "r",by walk_at "r",by walk_at "r",by walk_at "r",by walk_at "r",hset (by rw[hij];exact leO_some.mpr (by omega))⟩
        ·walk_at "z"
         exact⟨F,by walk_at "r",by walk_at "r",by walk_at "r",by walk_at "r",by walk_at "r",by walk_at "r",hkeep (by rw[hij];exact leO_some.mpr (by omega))⟩
    ·rintro σ ⟨F,f1,f2,f3,f4,f5,f6,pt⟩
     exact⟨F,f1,f2,f3,f4,f5,Zhb pt fun a b c _ _ hc q=>by omega⟩
   ·rintro σ ⟨F,f1,f2,f3,f4,f5,pt⟩
    exact⟨F,f1,f2,f3,f4,Zhb pt fun a b c _ hb _ q=>by omega⟩
  ·rintro σ ⟨F,f1,f2,f3,f4,pt⟩
   walk_at "z"
   refine Zr4 (by decide) (by decide) ?_
   walk_at "z"
   exact⟨2*n-2*r,by omega,2*r,F,by walk_at "r",by walk_at "r",by rw[show((2*r:Nat):Int)=2*(r:Int)by omega];walk_at "r",Zvo bs (Zvq (Zhb pt fun a b c ha _ _ _=>ha)),by omega,by omega,rfl⟩
 ·have hrn:n≤r:=by simp at c;omega
  refine Zjs ?_
  refine Zb4 (n:=n) (a:=fun i=>.int i) (P:=fun i σ=>σ 2=some (Zaj n D)∧∀a,a<i→∀b,D a a=some b→0≤b) ?_ ⟨e2,by omega⟩ ?_ ?_
  ·walk_at "z"
   rfl
  ·rintro i σ hi ⟨f2,f3⟩
   unfold Zaj Zar at f2
   obtain⟨b,eb⟩:=hdD i hi
   walk_at "z"
   rw[eb,ZaH]
   walk_at "z"
   by_cases hb:b<0
   ·walk_at "z"
    exact⟨r,D,hrn,bs,.inr ⟨rfl,i,hi,b,eb,hb⟩⟩
   ·walk_at "z"
    refine⟨by walk_at "r",fun a ha c hc=>?_⟩
    by_cases q:a=i
    ·subst q;rw[eb]at hc;cases hc;omega
    ·exact f3 a (by omega) c hc
  ·rintro σ ⟨f2,f3⟩
   walk_at "z"
   refine⟨r,D,hrn,bs,.inl ⟨rfl,?_⟩⟩
   rintro⟨i,hi,b,eb,hb⟩
   have:=f3 i hi b eb
   omega
theorem Zsb(hn:n≤99)(hd:∀i,i<n+1→G i i=some 0): Pk (Zfq [Zaj (n+1) G]) fun t=>(t=Zaj (n+1) (clG G (n+1))∧¬Zcs (n+1) G)∨(t=.none∧Zcs (n+1) G):=by
 refine(ZtU (by omega) (by omega) hd).mono ?_
 rintro t ⟨r,D,hr,bs,h⟩
 by_cases hc:Zcs (n+1) G
 ·obtain⟨m,hm,ng⟩:=hc
  have ng2:=Zwk hr bs hm ng
  rcases h with⟨_,h⟩ | ⟨h,_⟩
  ·exact absurd ng2 h
  ·exact .inr ⟨h,m,hm,ng⟩
 ·have nn:∀m,m<n+1→¬Neg (n+1) (clG G (m+1)):=fun m hm q=>hc ⟨m,hm,q⟩
  have same:=Zvp hd hr bs nn
  have hz:=Ze8 hd nn
  rcases h with⟨h,_⟩ | ⟨_,i,hi,b,e,hb⟩
  ·refine .inl ⟨?_,hc⟩
   rw[h]
   unfold Zaj Zar
   congr 1
   refine Zbj fun i hi=>?_
   congr 1
   refine Zbj fun j hj=>?_
   rw[same i j hi hj]
  ·rw[same i i hi hi,hz i hi]at e
   cases e
   omega
theorem Zuj(hn:n≤99)(hk:k+2*n+4≤7000)(hM:0<M)(bM:Bd k M)(hd:∀i,i<n+1→G i i=some 0)(bG:BdG (n+1) k G)(hR:∀t,t<n→RB M k (R t)): Pk (Zcd [ZO n G R]) fun t=>(∃G2 R2,t=ZO n G2 R2∧Sharp n G R G2 R2 M (k+2*n+5))∨(t=.none∧ZfX n G R M (k+n+2)):=by
 unfold Zcd Zim
 have ht:ZO n G R=.tup [Zaj (n+1) G,Za3 n R]:=rfl
 have hg:∀G,Zaj (n+1) G=.lst (tab (n+1) fun i=>Zar (n+1) (G i)):=fun _=>rfl
 have hr:∀R,Za3 n R=.lst (tab n fun i=>ZZ (R i)):=fun _=>rfl
 rw[ht]
 walk_at "z"
 refine(Zsb hn hd).mono ?_
 rintro t (⟨rfl,nr⟩ | ⟨rfl,h⟩)
 ·rw[hg (clG G (n+1))]
  walk_at "z"
  rw[←hg (clG G (n+1))]
  refine(ZpV (k:=k+n+1) (by omega) (by omega) hM (bM.mono (by omega)) (ZeI bG (n+1) (by omega)) (fun t ht=>(hR t ht).mono (by omega))).mono ?_
  rintro t (⟨R1,rfl,h1⟩ | ⟨rfl,h⟩)
  ·have hR1:∀t,t<n→RB M (k+n+2) (R1 t):=fun t ht=>(h1 t ht).1
   have hF1:=Zdu hR1
   have z1:=Ze8 hd (m:=n+1) fun m hm q=>nr ⟨m,hm,q⟩
   rw[hr R1]
   walk_at "z"
   rw[←hr R1]
   refine(Ztt (k:=k+n+2) (by omega) (by omega) hM (bM.mono (by omega)) hR1 z1).mono ?_
   rintro t (⟨rfl,nl⟩ | ⟨rfl,fl⟩)
   ·have bG1:BdG (n+1) (k+n+3) (ZaR (clG G (n+1)) R1):=Zo7 hM (bM.mono (by omega)) (fun a b c ha hb e=>(ZeI bG (n+1) (by omega) a b c ha hb e).mono (by omega)) hR1
    have z2:=Zi2 (fun i hi=>(hF1 i hi).1) z1
    rw[hg (ZaR (clG G (n+1)) R1)]
    walk_at "z"
    rw[←hg (ZaR (clG G (n+1)) R1)]
    refine(Zsb hn z2).mono ?_
    rintro t (⟨rfl,nr2⟩ | ⟨rfl,h2⟩)
    ·rw[hg (clG (ZaR (clG G (n+1)) R1) (n+1))]
     walk_at "z"
     rw[←hg (clG (ZaR (clG G (n+1)) R1) (n+1))]
     refine(ZpV (k:=k+n+3+n+1) (by omega) (by omega) hM (bM.mono (by omega)) (fun a b c ha hb e=>ZeI bG1 (n+1) (by omega) a b c ha hb e) (fun t ht=>(hR1 t ht).mono (by omega))).mono ?_
     rintro t (⟨R2,rfl,h2⟩ | ⟨rfl,h2⟩)
     ·rw[hr R2]
      walk_at "z"
      exact .inl ⟨_,R2,rfl,⟨R1,nr,h1.mono (by omega),nl,nr2,rfl,h2.mono (by omega)⟩⟩
     ·walk_at "z"
      exact .inr ⟨rfl,.inr (.inr ⟨R1,nr,h1,.inr ⟨nl,.inr ⟨nr2,h2⟩⟩⟩)⟩
    ·walk_at "z"
     exact .inr ⟨rfl,.inr (.inr ⟨R1,nr,h1,.inr ⟨nl,.inl h2⟩⟩)⟩
   ·walk_at "z"
    exact .inr ⟨rfl,.inr (.inr ⟨R1,nr,h1,.inl fl⟩)⟩
  ·walk_at "z"
   exact .inr ⟨rfl,.inr (.inl ⟨nr,h⟩)⟩
 ·walk_at "z"
  exact .inr ⟨rfl,.inl h⟩
theorem Ztu: Zcd [.none]=some .none:=by
 apply Pk.eq
 unfold Zcd Zim
 walk_at "z"
 rfl
def SameG(n:Nat)(A B:Nat→Nat→Option Int): Prop:=∀i j,i<n→j<n→A i j=B i j
theorem Zjj{n:Nat}{A B:Nat→Nat→Option Int}(h:SameG n A B): ∀m,m≤n→SameG n (clG A m) (clG B m)
 | 0,_=>h
 | m+1,hm=>fun i j hi hj=>by
  have ih:=Zjj h m (by omega)
  show ZcG (clG A m i j) (addO (clG A m i m) (clG A m m j))=ZcG (clG B m i j) (addO (clG B m i m) (clG B m m j))
  rw[ih i j hi hj,ih i m hi (by omega),ih m j (by omega) hj]
theorem Zwl(h:SameG n A B)(r:Zcs n A): Zcs n B:=by
 obtain⟨m,hm,i,hi,b,e,hb⟩:=r
 exact⟨m,hm,i,hi,b,by rw[←Zjj h (m+1) (by omega) i i hi hi];exact e,hb⟩
def SameR(n:Nat)(R S:Nat→Int×Int): Prop:=∀t,t<n→R t=S t
theorem ZiV(h:SameR n R S): ∀i,i<n+1→Z1 R i=Z1 S i
 | 0,_=>rfl
 | i+1,hi=>h i (by omega)
theorem Zoj(h:SameG (n+1) A B)(hr:SameR n R S): SameG (n+1) (ZaR A R) (ZaR B S):=fun i j hi hj=>by
 unfold ZaR ZbC
 rw[h i j hi hj,ZiV hr i hi,ZiV hr j hj]
theorem Zuk(h:SameG (n+1) A B)(hr:SameR n R S)(q:ZdM n A R): ZdM n B S:=by
 obtain⟨i,j,hi,hj,b,e,l⟩:=q
 exact⟨i,j,hi,hj,b,by rw[←h i j hi hj];exact e,by rw[←Zoj h hr i j hi hj];exact l⟩
theorem ZlH(h:SameG (n+1) A B)(hr:SameR n R S)(hi:i<n+1){x:Int}(q:ZcZ n A R i (n+1) x): ZcZ n B S i (n+1) x:=by
 refine⟨by rw[←ZiV hr i hi];exact q.1,fun j hj a b ha hb hab=>?_⟩
 rw[←ZiV hr j hj]
 exact q.2 j hj a b (by rw[h i j hi hj];exact ha) (by rw[h j i hj hi];exact hb) hab
theorem SameG.symm(h:SameG n A B): SameG n B A:=fun i j hi hj=>(h i j hi hj).symm
theorem SameR.symm{A B:Nat→Int×Int}(h:SameR n A B): SameR n B A:=fun i hi=>(h i hi).symm
theorem ZnU{S':Nat→Int×Int}(h:SameG (n+1) A B)(hr:SameR n R S)(a:Hand n A R R' M k)(b:Hand n B S S' M' k'): SameR n R' S':=fun t ht=>
 ZgS (a t ht).1.1 (b t ht).1.1 fun x=>((a t ht).2 x).trans (Iff.trans ⟨ZlH h hr (by omega),ZlH h.symm hr.symm (by omega)⟩ ((b t ht).2 x).symm)
theorem Zq6(h:SameG (n+1) A B)(hr:SameR n R S)(a:Hand n A R R' M k): ¬Zf4 n B S:=by
 rintro⟨i,hi,q⟩
 exact q _ (ZlH h hr (by omega) (((a i hi).2 _).mp (a i hi).1.1.self))
theorem ZfM: SameG n A A:=fun _ _ _ _=>rfl
theorem Znb{A:Nat→Int×Int}: SameR n A A:=fun _ _=>rfl
theorem Zwm(h:SameG (n+1) A B)(hr:SameR n R S): ZO n A R=ZO n B S:=by
 unfold ZO Zaj Za3 Zar
 have e1:(tab (n+1) fun i=>T.lst (tab (n+1) fun j=>oT (A i j)))=tab (n+1) fun i=>T.lst (tab (n+1) fun j=>oT (B i j)):=Zbj fun i hi=>by
  congr 1
  exact Zbj fun j hj=>by rw[h i j hi hj]
 have e2:(tab n fun i=>ZZ (R i))=tab n fun i=>ZZ (S i):=Zbj fun i hi=>by rw[hr i hi]
 rw[e1,e2]
theorem Zvr{G2':Nat→Nat→Option Int}{R2':Nat→Int×Int}(a:Sharp n G R G2 R2 M k)(b:Sharp n G R G2' R2' M' k'): ZO n G2 R2=ZO n G2' R2':=by
 obtain⟨R1,a1,a2,a3,a4,rfl,a6⟩:=a.go
 obtain⟨S1,b1,b2,b3,b4,rfl,b6⟩:=b.go
 have r1:=ZnU ZfM Znb a2 b2
 have g2:=Zjj (Zoj (A:=clG G (n+1)) ZfM r1) (n+1) (by omega)
 exact Zwm g2 (ZnU g2 r1 a6 b6)
theorem Zq7(a:Sharp n G R G2 R2 M k)(b:ZfX n G R M' k'): False:=by
 obtain⟨R1,a1,a2,a3,a4,rfl,a6⟩:=a.go
 rcases b with b | ⟨_,b⟩ | ⟨S1,b1,b2,b⟩
 ·exact a1 b
 ·exact Zq6 ZfM Znb a2 b
 ·have r1:=ZnU ZfM Znb a2 b2
  have g1:=Zoj (A:=clG G (n+1)) ZfM r1
  rcases b with b | ⟨_,b | ⟨_,b⟩⟩
  ·exact a3 (Zuk ZfM r1.symm b)
  ·exact a4 (Zwl g1.symm b)
  ·exact Zq6 (Zjj g1 (n+1) (by omega)) r1 a6 b
theorem Zvs{t u:T}(h:(∃G2 R2,t=ZO n G2 R2∧Sharp n G R G2 R2 M (k+2*n+5))∨(t=.none∧ZfX n G R M (k+n+2)))(h':(∃G2 R2,u=ZO n G2 R2∧Sharp n G R G2 R2 M (k+2*n+5))∨(u=.none∧ZfX n G R M (k+n+2))): t=u:=by
 rcases h with⟨A,B,rfl,h⟩ | ⟨rfl,h⟩
 ·rcases h' with⟨C,D,rfl,h'⟩ | ⟨rfl,h'⟩
  ·exact Zvr h h'
  ·exact absurd h' fun q=>Zq7 h q
 ·rcases h' with⟨C,D,rfl,h'⟩ | ⟨rfl,h'⟩
  ·exact absurd h fun q=>Zq7 h' q
  ·rfl
theorem Zvt(hn:n≤100)(hd:∀i,i<n+1→G i i=some 0)(ok:∀t,t<n→RestOk (R t)): ZgR [ZO n G R,.int n]=some (.bool true):=by
 apply Pk.eq
 unfold ZgR Zl6 ZO Za3
 walk_at "z"
 rw[show(n:Int)+1=((n+1:Nat):Int)by omega]
 refine ZF (Zya (by omega) hd) ?_
 walk_at "z"
 refine Zb4 (n:=n) (a:=fun i=>ZZ (R i)) (P:=fun _ _=>True) ?_ trivial ?_ ?_
 ·walk_at "z"
  rfl
 ·rintro t σ ht _
  have ho:=ok t ht
  unfold ZZ
  walk_at "z"
  refine ZF ZnL ?_
  walk_at "z"
  refine ZF ZnL ?_
  walk_at "z"
  have h0:=ho.nn
  walk_at "z"
  rcases ho with h | h
  ·walk_at "z"
   trivial
  ·walk_at "z"
   trivial
 ·rintro σ _
  walk_at "z"
  rfl
theorem Zvu(hd:∀i,i<n+1→G i i=some 0)(s:Sharp n G R G2 R2 M k): (∀i,i<n+1→G2 i i=some 0)∧∀k,k<n+1→∀i j,i<n+1→j<n+1→leO (G2 i j) (addO (G2 i k) (G2 k j)):=by
 obtain⟨R1,h1,h2,h3,h4,rfl,h6⟩:=s.go
 have hF:=Zdu fun t ht=>(h2 t ht).1
 have z1:=Ze8 hd (m:=n+1) fun m hm q=>h1 ⟨m,hm,q⟩
 have z2:=Zi2 (fun i hi=>(hF i hi).1) z1
 exact⟨Ze8 z2 fun m hm q=>h4 ⟨m,hm,q⟩,Zo6 z2 (n+1) (by omega) fun m hm q=>h4 ⟨m,hm,q⟩⟩
noncomputable def Zeg(R:Nat→Int×Int): Nat→Int
 | 0=>1
 | t+1=>Zeg R t*(if(R t).1=0 then 1 else(R t).1)
theorem ZnV{n:Nat}{R:Nat→Int×Int}(h:∀t,t<n→RestOk (R t)): ∀m,m≤n→0<Zeg R m
 | 0,_=>by show(0:Int)<1;decide
 | m+1,hm=>by
  have ih:=ZnV h m (by omega)
  have:=(h m (by omega)).nn
  unfold Zeg
  refine Int.mul_pos ih ?_
  split
  ·decide
  ·omega
theorem ZnW{R:Nat→Int×Int}: ∀m t,t<m→(R t).1=0∨(R t).1 ∣ Zeg R m
 | m+1,t,ht=>by
  by_cases z:(R t).1=0
  ·exact .inl z
  ·right
   unfold Zeg
   by_cases q:t=m
   ·subst q
    rw[if_neg z]
    exact Int.dvd_mul_left _ _
   ·exact Int.dvd_trans ((ZnW m t (by omega)).resolve_left z) (Int.dvd_mul_right _ _)
theorem Zok{n k:Nat}{R:Nat→Int×Int}(hk:1≤k)(h:∀t,t<n→Bd k (R t).1): ∀m,m≤n→Bd (k*m+1) (Zeg R m)
 | 0,_=>by rw[Nat.mul_zero];exact Zej (by omega)
 | m+1,hm=>by
  have ih:=Zok hk h m (by omega)
  unfold Zeg
  have h2:Bd k (if(R m).1=0 then 1 else(R m).1):=by
   split
   ·exact Zej hk
   ·exact h m (by omega)
  have:=Bd.mul ih h2
  rw[Nat.mul_succ]
  exact this.mono (by omega)
theorem ZtV: ZgY [.none,.none]=some (.bool true):=by
 apply Pk.eq
 unfold ZgY ZmI
 walk_at "z"
 rfl
theorem ZtW(hn:n≤100)(hd:∀i,i<n+1→G i i=some 0)(ok:∀t,t<n→RestOk (R t)): ZgY [ZO n G R,ZO n G R]=some (.bool true):=by
 apply Pk.eq
 unfold ZgY ZmI
 have ht:ZO n G R=.tup [Zaj (n+1) G,.lst (tab n fun i=>ZZ (R i))]:=rfl
 rw[ht]
 walk_at "z"
 rw[←ht]
 refine ZF (Zvt hn hd ok) ?_
 walk_at "z"
 refine Zfc Zn3 Zn3 ?_
 rw[Zbo rfl]
theorem ZAd: ∃g,Zc8 (Zgx 0 (.int 7)) [0,0] (ZO n G R)=some (.tup [g,Za3 n R]):=by
 refine⟨.lst ((tab (n+1) fun i=>T.lst (tab (n+1) fun j=>oT (G i j))).set 0 (.lst ((tab (n+1) fun j=>oT (G 0 j)).set 0 (.int 7)))),?_⟩
 unfold ZO Zaj Zar
 simp only[Zc8,List.length_cons,List.length_nil,Zay,ZeG (show(0:Int)≤0 by decide) (show(0:Int)<((0+1+1:Nat):Int)by decide),ZeG (show(0:Int)≤0 by decide) (show(0:Int)<((n+1:Nat):Int)by omega),Option.bind_some,Int.toNat_zero,List.getElem?_cons_zero,ZbH (show 0<n+1 by omega),Zgx]
 rw[if_pos ⟨by omega,by omega⟩]
 rfl
theorem ZAe{g:T}(hn:n≤100): ∃u,Zc8 (Zgw w) [1] (.tup [g,Za3 n R])=some u:=by
 refine⟨.tup [g,.lst ((tab n fun i=>ZZ (R i))++[w])],?_⟩
 unfold Za3
 simp only[Zc8,List.length_cons,List.length_nil,ZeG (show(0:Int)≤1 by decide) (show(1:Int)<((0+1+1:Nat):Int)by decide),Option.bind_some,Zgw,Zay,show(1:Int).toNat=1 from rfl,List.getElem?_cons_succ,List.getElem?_cons_zero]
 rw[if_pos (by rw[Zbr];omega)]
 rfl
theorem Zyk{x:Nat}(e:σ x=some (ZO n G R))(h:∀g,N (Z8 σ x (.tup [g,Za3 n R]))): Psk (Zbb x [] (Zj 7) (ZbD (ZbD ZaA (Zj 0)) (Zj 0)) (Zj 0) σ) P N:=by
 obtain⟨g,hg⟩:=ZAd (n:=n) (G:=G) (R:=R)
 refine⟨none,_,?_,by simp,fun _=>h g⟩
 simp only[Zbb,ZaA,ZbD,Zj,Option.bind_some,e,List.nil_append,List.cons_append,hg,Option.map_some,Zg7]
theorem Zyl{x:Nat}{g:T}(hn:n≤100)(ef:f σ=some w)(e:σ x=some (.tup [g,Za3 n R]))(h:∀u,N (Z8 σ x u)): Psk (ZcX x [] (ZbD ZaA (Zj 1)) f σ) P N:=by
 obtain⟨u,hu⟩:=ZAe (n:=n) (g:=g) (w:=w) (R:=R) hn
 refine⟨none,_,?_,by simp,fun _=>h u⟩
 simp only[ZcX,ZaA,ZbD,Zj,Option.bind_some,e,ef,List.nil_append,hu,Option.map_some,Zg7]
section
variable {σ:TL} {Q:T→Prop}
theorem Zph{p e:PE}(h:Pk (p σ) fun t=>∃ts,t=.lst ts∧Pk (e σ) fun u=>∃a:Nat,u=.int a∧Q (.lst (ts.take a))): Pk (Zdj p Zdw (Zdx e) σ) Q:=by
 obtain⟨_,e1,ts,rfl,_,e2,a,rfl,q⟩:=h
 refine⟨_,?_,q⟩
 simp only[Zdj,e1,Zdw,Zdx,e2,Option.bind_some,Zxm ts rfl]
theorem Zpi{p e:PE}(h:Pk (p σ) fun t=>∃ts,t=.lst ts∧Pk (e σ) fun u=>∃a:Nat,u=.int a∧Q (.lst (ts.drop a))): Pk (Zdj p (Zdx e) Zdw σ) Q:=by
 obtain⟨_,e1,ts,rfl,_,e2,a,rfl,q⟩:=h
 refine⟨_,?_,q⟩
 simp only[Zdj,e1,Zdw,Zdx,e2,Option.bind_some,ZqQ ts rfl]
theorem Ze9{a b:List T}(hl:a.length+b.length≤10000)(h:Q (.lst (a++b))): Pk (Zad (.lst a) (.lst b)) Q:=by
 refine⟨_,?_,h⟩
 simp only[Zad]
 rw[if_pos (by rw[Zbr,List.length_append];omega)]
theorem Zjk{a:T}(hn:n≤1000)(h:Q (.lst (tab n fun _=>a))): Pk (ZaC (.lst [a]) (.int n)) Q:=by
 have e:∀n,ZhP [a] n=tab n fun _=>a:=fun n=>by
  induction n with
  | zero=>rfl
  | succ n ih=>show ZhP [a] n++[a]=_;rw[ih];exact ZdK (f:=fun _=>a)
 refine⟨_,?_,h⟩
 simp only[ZaC,List.length_cons,List.length_nil,Int.toNat_natCast,e]
 rw[if_pos ⟨by rw[Zbr];omega,by omega,by omega⟩]
end
theorem Zjl{x:Nat}{k l:Int}{f:Nat→Nat→T}(e:σ x=some (.lst (tab n fun a=>.lst (tab m (f a)))))(hk:k=i)(hl:l=j)(hi:i<n)(hj:j<m)(h:N (Z8 σ x (.lst (tab n fun a=>.lst (tab m fun b=>if a=i∧b=j then w else f a b))))): Put2 σ x w (.int k) (.int l) N:=by
 subst hk hl
 exact Zrj e hi hj h
theorem ZoH{l:List T}{x:Nat}(h:x<l.length): l.take x++[w]++l.drop (x+1)=l.set x w:=by
 rw[List.set_eq_take_append_cons_drop,if_pos h]
 simp
theorem Zsc{x:Nat}{f:Nat→T}(hx:x<n)(hn:n≤1000)(hf:∀i,i<n→(f i).flat=true)(hw:w.flat=true): Zgk [.lst (tab n f),.int ((x:Int)+1),w]=some (.lst (tab n fun i=>if i=x then w else f i)):=by
 apply Pk.eq
 unfold Zgk ZoZ
 have hlen:(tab n f).length=n:=Zay
 walk_at "z"
 refine Zph ?_
 walk_at "z"
 refine⟨_,rfl,?_⟩
 walk_at "z"
 refine⟨x,by congr 1;omega,?_⟩
 walk_at "z"
 refine Ze9 (by simp[hlen];omega) ?_
 refine Zpi ?_
 walk_at "z"
 refine⟨_,rfl,?_⟩
 walk_at "z"
 refine⟨x+1,rfl,?_⟩
 refine Ze9 (by simp[hlen];omega) ?_
 rw[ZoH (by omega),Zew]
 refine⟨Zml fun i hi=>?_,rfl⟩
 split
 ·exact hw
 ·exact hf i hi
theorem Ztv(hn:n≤900): Zfv [.int i,.int n]=some (Zar (n+1) fun j=>if j=i then some 0 else none):=by
 apply Pk.eq
 unfold Zfv Zk2
 walk_at "z"
 refine ZbM (n:=n+1) (a:=fun j=>.int j) (b:=fun j=>oT (if j=i then some 0 else none)) (by omega) ?_ (fun j hj=>?_) rfl
 ·walk_at "z"
  exact ZjK (n+1) (by omega) (by omega) rfl
 ·by_cases c:j=i
  ·have hc:(i:Int)=(j:Int):=by omega
   walk_at "z"
   rw[if_pos c]
   rfl
  ·have hc:(i:Int)≠(j:Int):=by omega
   walk_at "z"
   rw[if_neg c]
   rfl
noncomputable def Zc5(G:Nat→Nat→Option Int)(x:Nat): Nat→Nat→Option Int:=fun i j=>if i=x then(if j=x then some 0 else none)else if j=x then none else G i j
theorem ZuF{x:Nat}(hx:x<n+1)(hn:n≤100): Ziv [Zaj (n+1) G,.int x]=some (Zaj (n+1) (Zc5 G x)):=by
 apply Pk.eq
 unfold Ziv ZmL Zaj
 walk_at "z"
 refine ZbM (n:=n+1) (a:=fun i=>Zar (n+1) (G i)) (b:=fun i=>Zar (n+1) fun j=>if j=x then none else G i j) (by omega) ?_ (fun i hi=>?_) ?_
 ·walk_at "z"
  rfl
 ·walk_at "z"
  refine ZF (Zsc (f:=fun j=>oT (G i j)) hx (by omega) (fun _ _=>Zgb) rfl) ?_
  show T.lst _=T.lst _
  congr 1
  exact Zbj fun j _=>by
   show _=oT (if j=x then none else G i j)
   by_cases c:j=x
   ·rw[if_pos c,if_pos c];rfl
   ·rw[if_neg c,if_neg c]
 walk_at "z"
 refine ZF (show Zfv [.int x,.int (((n+1:Nat):Int)-1)]=_ by rw[show((n+1:Nat):Int)-1=(n:Int)by omega];exact Ztv (by omega)) ?_
 walk_at "z"
 show T.lst _=T.lst _
 congr 1
 refine Zbj fun i _=>?_
 unfold Zc5
 by_cases c:i=x
 ·rw[if_pos c]
  subst c
  simp
 ·rw[if_neg c]
  simp[c]
noncomputable def ZcU(G:Nat→Nat→Option Int)(x:Nat)(s:Sp): Nat→Nat→Option Int:=Zcj (Zcj G x 0 s.2) 0 x (s.1.map fun y=>y*(-1))
theorem ZfY(hw:w=oT v): T.lst (tab n fun a=>T.lst (tab n fun b=>if a=i∧b=j then w else oT (G a b)))=T.lst (tab n fun a=>T.lst (tab n fun b=>oT (Zcj G i j v a b))):=by
 subst hw
 exact Zgl
theorem Zxe{x:Int}(h:Bd k x): Bd k (-x):=by unfold Bd at *;omega
theorem ZuG{x:Nat}{s:Sp}(hx:x<n+1)(hb:b≤100000)(hb1:1≤b)(bs:SBd b s): Zix [Zaj (n+1) G,.int x,spT s]=some (Zaj (n+1) (ZcU G x s)):=by
 apply Pk.eq
 unfold Zix ZmN
 refine Zx2 rfl ?_
 unfold Zaj Zar spT
 walk_at "z"
 refine Zjl (n:=n+1) (m:=n+1) (f:=fun a b=>oT (G a b)) (i:=x) (j:=0) ?_ rfl rfl hx (by omega) ?_
 ·rfl
 rw[ZfY (v:=s.2) rfl]
 walk_at "z"
 refine ZF (ZgK hb bs.1 (Zxe (Zej hb1))) ?_
 refine⟨Zgb,?_⟩
 walk_at "z"
 refine Zjl (n:=n+1) (m:=n+1) (f:=fun a b=>oT (Zcj G x 0 s.2 a b)) (i:=0) (j:=x) (by walk_at "r") rfl rfl (by omega) hx ?_
 rw[ZfY (v:=s.1.map fun y=>y*(-1)) rfl]
 exact⟨_,ZbL,rfl⟩
noncomputable def Zfk(R:Nat→Int×Int)(x:Nat)(q:Int×Int): Nat→Int×Int:=fun t=>if t=x then q else R t
theorem ZqM{x:Nat}: (T.lst (tab n fun i=>if i=x then ZZ q else ZZ (R i)))=Za3 n (Zfk R x q):=by
 unfold Za3 Zfk
 congr 1
 exact Zbj fun i _=>by
  by_cases c:i=x
  ·rw[if_pos c,if_pos c]
  ·rw[if_neg c,if_neg c]
theorem Zym{x:Nat}{s:Sp}(hx:x<n)(hn:n≤100)(hb:b≤100000)(hb1:1≤b)(bs:SBd b s)(h:Pk (ZbE [ZO n (ZcU (Zc5 G (x+1)) (x+1) s) (Zfk R x q)]) P): Pk (Zea [ZO n G R,.int ((x:Int)+1),spT s,ZZ q]) P:=by
 unfold Zea Zo1
 have ht:∀{G:Nat→Nat→Option Int} {R:Nat→Int×Int},ZO n G R=.tup [Zaj (n+1) G,.lst (tab n fun i=>ZZ (R i))]:=rfl
 rw[ht]
 walk_at "z"
 rw[show(x:Int)+1=((x+1:Nat):Int)by omega]
 refine ZF (ZuF (by omega) hn) ?_
 walk_at "z"
 refine Zze ZbL ?_
 walk_at "z"
 refine ZF (ZuG (b:=b) (by omega) hb hb1 bs) ?_
 walk_at "z"
 refine ZF (show Zgk [.lst (tab n fun i=>ZZ (R i)),.int ((x+1:Nat):Int),ZZ q]=some (Za3 n (Zfk R x q))by rw[show((x+1:Nat):Int)=(x:Int)+1 by omega,Zsc hx (by omega) (fun _ _=>Zf0) Zf0,ZqM]) ?_
 walk_at "z"
 exact h
theorem Zcw{a b:PS}{R:T→Prop}(M:TL→Prop)(h1:Psk (a σ) R M)(h2:∀σ,M σ→Psk (b σ) R N): Psk (Zt a b σ) R N:=by
 obtain⟨o,s,e,p,q⟩:=h1
 exact Zjs ⟨o,s,e,p,fun h=>h2 s (q h)⟩
theorem ZuH{x:Nat}{s:Sp}(hx:x<n)(hn:n≤100)(h:Pk (Zcd [ZO n (ZcU (Zc5 G (x+1)) (x+1) s) (Zfk R x q)]) P): Pk (Zds [ZO n G R,.int ((x:Int)+1),spT s,ZZ q]) P:=by
 unfold Zds ZmP
 rw[show(x:Int)+1=((x+1:Nat):Int)by omega]
 let M:(Nat→Nat→Option Int)→TL→Prop:=fun Γ σ=>σ 0=some (.tup [Zaj (n+1) G,.lst (tab n fun i=>ZZ (R i))])∧σ 1=some (.int ((x+1:Nat):Int))∧σ 2=some (.tup [oT s.1,oT s.2])∧σ 3=some (ZZ q)∧σ 4=some (.lst (tab (n+1) fun a=>.lst (tab (n+1) fun b=>oT (Γ a b))))
 have ht:∀{G:Nat→Nat→Option Int} {R:Nat→Int×Int},ZO n G R=.tup [Zaj (n+1) G,.lst (tab n fun i=>ZZ (R i))]:=rfl
 rw[ht]
 refine Zjt rfl ?_
 refine Zcw (fun σ=>σ=fun i=>[T.tup [Zaj (n+1) G,.lst (tab n fun i=>ZZ (R i))],.int ((x+1:Nat):Int),spT s,ZZ q][i]?) ?_ ?_
 ·walk_at "z"
  rfl
 rintro _ rfl
 refine Zcw (M G) ?_ ?_
 ·walk_at "z"
  refine ZiF (n:=n+1) (G:=G) (by omega) ?_ ?_
  ·walk_at "z"
   rfl
  ·exact⟨rfl,rfl,rfl,rfl,rfl⟩
 rintro σ hσ
 refine Zcw (M fun a b=>if b=x+1 then none else G a b) ?_ ?_
 ·obtain⟨e0,e1,e2,e3,e4⟩:=hσ
  refine Zb4 (n:=n+1) (a:=fun i=>.int i) (P:=fun i σ=>∃Γ,M Γ σ∧∀a b,Γ a b=if a<i∧b=x+1 then none else G a b) ?_ ⟨G,⟨e0,e1,e2,e3,e4⟩,fun a b=>by rw[if_neg (by omega)]⟩ ?_ ?_
  ·walk_at "z"
   rfl
  ·rintro i σ hi ⟨Γ,⟨e0,e1,e2,e3,e4⟩,hΓ⟩
   have hx1:x+1<n+1:=by omega
   walk_at "z"
   rw[ZfY (w:=.none) (v:=none) rfl]
   refine⟨Zcj Γ i (x+1) none,⟨by walk_at "r",by walk_at "r",by walk_at "r",by walk_at "r",by walk_at "r"⟩,fun a b=>?_⟩
   by_cases c:a=i∧b=x+1
   ·obtain⟨rfl,rfl⟩:=c
    rw[Zd6,if_pos (by omega)]
   ·rw[Zdf c,hΓ]
    by_cases d:a<i∧b=x+1
    ·rw[if_pos d,if_pos (by omega)]
    ·rw[if_neg d,if_neg (by omega)]
  ·rintro σ ⟨Γ,⟨e0,e1,e2,e3,e4⟩,hΓ⟩
   refine⟨e0,e1,e2,e3,?_⟩
   rw[e4]
   congr 2
   refine Zbj fun a ha=>?_
   congr 1
   refine Zbj fun b hb=>?_
   rw[hΓ]
   show oT _=oT (if b=x+1 then none else G a b)
   by_cases c:b=x+1
   ·rw[if_pos c,if_pos ⟨ha,c⟩]
   ·rw[if_neg c,if_neg (by omega)]
 clear hσ
 rintro σ hσ
 refine Zcw (M fun a b=>if a=x+1 then none else if b=x+1 then none else G a b) ?_ ?_
 ·obtain⟨e0,e1,e2,e3,e4⟩:=hσ
  have hx1:x+1<n+1:=by omega
  walk_at "z"
  refine Zjk (by omega) ?_
  walk_at "z"
  refine⟨by walk_at "r",by walk_at "r",by walk_at "r",by walk_at "r",?_⟩
  rw[ZbL]
  congr 2
  refine Zbj fun a ha=>?_
  by_cases c:a=x+1
  ·rw[if_pos c]
   congr 1
   exact Zbj fun b hb=>by show T.none=oT (if a=x+1 then none else if b=x+1 then none else G a b);rw[if_pos c];rfl
  ·rw[if_neg c]
   congr 1
   exact Zbj fun b hb=>by show oT (if b=x+1 then none else G a b)=oT (if a=x+1 then none else if b=x+1 then none else G a b);rw[if_neg c]
 clear hσ
 rintro σ hσ
 refine Zcw (M (Zcj (fun a b=>if a=x+1 then none else if b=x+1 then none else G a b) (x+1) (x+1) (some 0))) ?_ ?_
 ·obtain⟨e0,e1,e2,e3,e4⟩:=hσ
  have hx1:x+1<n+1:=by omega
  walk_at "z"
  rw[ZfY (w:=.int 0) (v:=some 0) rfl]
  exact⟨by walk_at "r",by walk_at "r",by walk_at "r",by walk_at "r",ZbL⟩
 clear hσ
 rintro σ hσ
 refine Zcw (M (Zcj (Zcj (fun a b=>if a=x+1 then none else if b=x+1 then none else G a b) (x+1) (x+1) (some 0)) (x+1) 0 s.2)) ?_ ?_
 ·obtain⟨e0,e1,e2,e3,e4⟩:=hσ
  have hx1:x+1<n+1:=by omega
  walk_at "z"
  refine Zjl (n:=n+1) (m:=n+1) (i:=x+1) (j:=0) e4 rfl rfl hx1 (by omega) ?_
  rw[ZfY (v:=s.2) rfl]
  exact⟨by walk_at "r",by walk_at "r",by walk_at "r",by walk_at "r",ZbL⟩
 clear hσ
 rintro σ hσ
 refine Zcw (M (ZcU (Zc5 G (x+1)) (x+1) s)) ?_ ?_
 ·obtain⟨e0,e1,e2,e3,e4⟩:=hσ
  have hx1:x+1<n+1:=by omega
  have fin:∀Γ:Nat→Nat→Option Int,(∀a b,Γ a b=ZcU (Zc5 G (x+1)) (x+1) s a b)→(T.lst (tab (n+1) fun a=>T.lst (tab (n+1) fun b=>oT (Γ a b))))=T.lst (tab (n+1) fun a=>T.lst (tab (n+1) fun b=>oT (ZcU (Zc5 G (x+1)) (x+1) s a b))):=fun Γ hΓ=>by
   congr 1
   refine Zbj fun a ha=>?_
   congr 1
   exact Zbj fun b hb=>by rw[hΓ]
  have cas:∀a b,¬(a=0∧b=x+1)→Zcj (Zcj (fun a b=>if a=x+1 then none else if b=x+1 then none else G a b) (x+1) (x+1) (some 0)) (x+1) 0 s.2 a b=ZcU (Zc5 G (x+1)) (x+1) s a b:=fun a b h0=>by
   unfold ZcU
   rw[Zdf h0]
   by_cases c:a=x+1∧b=0
   ·obtain⟨rfl,rfl⟩:=c
    rw[Zd6,Zd6]
   ·rw[Zdf c,Zdf c]
    unfold Zc5
    by_cases d:a=x+1∧b=x+1
    ·obtain⟨rfl,rfl⟩:=d
     rw[Zd6,if_pos rfl,if_pos rfl]
    ·rw[Zdf d]
     by_cases e:a=x+1
     ·rw[if_pos e,if_pos e,if_neg (by omega)]
     ·rw[if_neg e,if_neg e]
  cases h1:s.1 with
  | none=>
   rw[h1,Zbx]at e2
   walk_at "z"
   refine⟨e0,e1,by rw[e2,h1,Zbx],e3,?_⟩
   rw[e4]
   congr 1
   refine fin _ fun a b=>?_
   by_cases c:a=0∧b=x+1
   ·obtain⟨rfl,rfl⟩:=c
    unfold ZcU
    rw[Zd6,Zdf (by omega),Zdf (by omega),h1,if_neg (by omega),if_pos rfl]
    rfl
   ·exact cas a b c
  | some lo=>
   rw[h1,ZaH]at e2
   walk_at "z"
   refine Zjl (n:=n+1) (m:=n+1) (i:=0) (j:=x+1) e4 rfl rfl (by omega) hx1 ?_
   rw[ZfY (w:=.int (-lo)) (v:=some (-lo)) rfl]
   refine⟨by walk_at "r",by walk_at "r",by rw[ZrT (by decide) e2,h1,ZaH],by walk_at "r",?_⟩
   rw[ZbL]
   congr 1
   refine fin _ fun a b=>?_
   by_cases c:a=0∧b=x+1
   ·obtain⟨rfl,rfl⟩:=c
    unfold ZcU
    rw[Zd6,Zd6,h1]
    simp
   ·rw[Zdf c]
    exact cas a b c
 clear hσ
 rintro σ ⟨e0,e1,e2,e3,e4⟩
 have hlen:(tab n fun i=>ZZ (R i)).length=n:=Zay
 walk_at "z"
 refine Zph ?_
 walk_at "z"
 refine⟨_,rfl,?_⟩
 walk_at "z"
 refine⟨x,by congr 1;omega,?_⟩
 walk_at "z"
 refine Ze9 (by simp[hlen];omega) ?_
 refine Zpi ?_
 walk_at "z"
 refine⟨_,rfl,?_⟩
 walk_at "z"
 refine⟨x+1,rfl,?_⟩
 refine Ze9 (by simp[hlen];omega) ?_
 rw[ZoH (by omega),Zew,ZqM]
 walk_at "z"
 exact h
theorem Zyn{a:Nat}(h:a≤4): ZcF a a 1=some []:=by
 have:a=0∨a=1∨a=2∨a=3∨a=4:=by omega
 obtain rfl | rfl | rfl | rfl | rfl:=this <;> (unfold ZcF;rw[if_pos (by decide +kernel)];rfl)
theorem Zol{g:PEs}{a:Nat}{L:List T→Prop}(ha:a≤4)(hm:m≤100)(e:g σ=some [.int a,.int (a+m)])(h:L (tab m fun i=>.int ((a+i:Nat):Int))): Pl (Zaz g σ) L:=by
 cases m with
 | zero=>
  have e2:ZcF (a:Int) ((a:Int)+((0:Nat):Int)) 1=some []:=by simpa using Zyn ha
  exact⟨[],Zhm e e2,h⟩
 | succ m=>
  refine⟨_,Zhm e (by have:=ZrS (a:=a) (n:=m+1) (by omega) (by omega);simpa using this),?_⟩
  rw[show(tab (m+1) fun i=>T.int ((a:Int)+i))=tab (m+1) fun i=>.int ((a+i:Nat):Int)from Zbj fun i _=>by congr 1]
  exact h
noncomputable def Zaa(n:Nat)(c:Nat→Int): T:=.lst (tab (n+1) fun i=>.int (c i))
theorem Zp6{k:Int}(hn:n≤1000)(hb:b≤100000)(bc:∀i,i<n+1→Bd b (c i))(bk:Bd b k): ZdH [Zaa n c,.int k]=some (Zaa n fun i=>c i*k):=by
 apply Pk.eq
 unfold ZdH Zl8 Zaa
 walk_at "z"
 refine ZbM (n:=n+1) (a:=fun i=>.int (c i)) (b:=fun i=>.int (c i*k)) (by omega) ?_ (fun i hi=>?_) rfl
 ·walk_at "z"
  rfl
 ·walk_at "z"
  exact ZbP (Zcn (bc i hi) bk (by omega) (by omega)) rfl
noncomputable def S40(G:Nat→Nat→Option Int)(i:Nat): Sp:=((G 0 (i+1)).map fun y=>y*(-1),G (i+1) 0)
theorem Ztf(hn:n≤90)(hb:b≤100000)(hb1:1≤b)(bG:∀i j,i<n+1→j<n+1→∀y,G i j=some y→Bd b y): ZhZ [ZO n G R]=some (.lst (tab n fun i=>spT (S40 G i))):=by
 apply Pk.eq
 unfold ZhZ ZkB
 have ht:ZO n G R=.tup [.lst (tab (n+1) fun i=>.lst (tab (n+1) fun j=>oT (G i j))),.lst (tab n fun i=>ZZ (R i))]:=rfl
 rw[ht]
 walk_at "z"
 refine ZbM (n:=n) (a:=fun i=>.int ((1+i:Nat):Int)) (b:=fun i=>spT (S40 G i)) (by omega) ?_ (fun i hi=>?_) rfl
 ·refine Zol (a:=1) (m:=n) (by omega) (by omega) ?_ rfl
  simp only[Zd,Zj,Zm,Zv,Za,Z8,Option.bind_some,if_true,Zat,Zay]
  congr 3
  congr 1
  omega
 ·have h1:1+i<n+1:=by omega
  have h0:0<n+1:=by omega
  walk_at "z"
  refine ZF (ZgK hb (fun y e=>bG 0 (1+i) h0 h1 y e) (show Bd b (-1)by unfold Bd;have:=Zej hb1;unfold Bd at this;simpa using this)) ?_
  walk_at "z"
  unfold spT S40
  rw[show 1+i=i+1 by omega]
  rfl
theorem Zqr{σ:TL}{j:Nat}{cnd:PB}{P:T→Bool}: ∀{ts:List T},(∀t∈ts,cnd (Z8 σ j t)=some (P t))→ZcS (Zae j) cnd (Za j) σ ts=some (ts.filter P)
 | [],_=>rfl
 | t::ts,h=>by
  have ih:=Zqr fun t m=>h t (Zz2 _ m)
  have h0:=h t Zz5
  simp only[ZcS,Zae,Option.bind_some,h0,Za,ZbL,ih,Option.map_some,List.filter_cons]
  cases P t <;> rfl
theorem ZnX{g:PG}{cnd:PB}{P:T→Bool}(hl:ts.length≤10000)(hg:Pl (g σ) fun us=>us=ts)(hc:∀t∈ts,Pb (cnd (Z8 σ j t)) fun b=>b=P t)(h:Q (.lst (ts.filter P))): Pk (Zan g (Zae j) cnd (Za j) σ) Q:=by
 obtain⟨us,e,rfl⟩:=hg
 refine⟨_,?_,h⟩
 have:=Zqr (σ:=σ) (j:=j) (cnd:=cnd) (P:=P) (ts:=us) fun t m=>by
  obtain⟨b,e1,rfl⟩:=hc t m
  exact e1
 simp only[Zan,e,Option.bind_some,this,Option.map_some]
 rw[if_pos (by rw[Zbr];omega)]
noncomputable def xsI(n:Nat)(c:Nat→Int): List Int:=tab n fun i=>c (i+1)
noncomputable def nzI(n:Nat)(c:Nat→Int): List Int:=(xsI n c).filter fun x=>decide (x≠0)
def Df(n:Nat)(c:Nat→Int): Prop:=PM.ZdC (nzI n c)=[-1,1]
theorem Zi3(ks:List Int): ZeF (ks.map T.int)=some ks:=by
 induction ks with
 | nil=>rfl
 | cons k ks ih=>simp[ZeF,ih]
theorem ZuI{a b:List Int}(h:a.map T.int=b.map T.int): a=b:=by
 have:=congrArg ZeF h
 rw[Zi3,Zi3]at this
 simpa using this
theorem ZoI(ks:List Int): Pln 1 (.lst (ks.map T.int)):=.lst fun t m=>by
 obtain⟨k,_,rfl⟩:=Zz11.mp m
 exact .int
theorem tab_map{α:Type}{f:Nat→α}{g:α→β}: (tab n f).map g=tab n fun i=>g (f i):=by simp[tab]
theorem Zs4(hn:n≤60): ZhV [Zaa n c]=some (.bool (dec (Df n c))):=by
 apply Pk.eq
 unfold ZhV Zkh Zaa
 walk_at "z"
 refine ZnX (ts:=(xsI n c).map T.int) (P:=fun t=>match t with | .int x=>decide (x≠0) | _=>false) (by simp[xsI,Zay];omega) ?_ (fun t m=>?_) ?_
 ·refine Zi9 ?_
  refine ZnM ?_
  walk_at "z"
  refine⟨_,rfl,?_⟩
  rw[Zoi]
  refine Sq.lst ?_
  unfold xsI
  rw[tab_map]
 ·obtain⟨x,_,rfl⟩:=Zz11.mp m
  walk_at "z"
  rfl
 have ef:((xsI n c).map T.int).filter (fun t=>match t with | .int x=>decide (x≠0) | _=>false)=(nzI n c).map T.int:=by
  unfold nzI
  rw[List.filter_map]
  rfl
 rw[ef]
 have hl:(nzI n c).length≤n:=by
  unfold nzI
  refine Nat.le_trans (List.length_filter_le _ _) ?_
  simp[xsI,Zay]
 walk_at "z"
 refine⟨.lst ((PM.ZdC (nzI n c)).map T.int),?_,?_⟩
 ·simp only[Zjc,Zi3,Option.bind_some,List.length_map]
  rw[if_pos (by omega)]
 walk_at "z"
 refine Zfc (n:=1) (m:=1) (ZoI _) (ZoI [-1,1]) ?_
 by_cases h:Df n c
 ·rw[Zbo h,Zbo]
  show T.lst ((PM.ZdC (nzI n c)).map T.int)=_
  rw[show PM.ZdC (nzI n c)=[-1,1]from h]
  rfl
 ·rw[Zcq h,Zcq]
  intro q
  refine h (ZuI ?_)
  simpa using q
noncomputable def ZaG(c:Nat→Int): Nat→List Nat
 | 0=>[]
 | n+1=>ZaG c n++(if 0<c (n+1)then [n+1]else [])
noncomputable def ZaJ(c:Nat→Int): Nat→List Nat
 | 0=>[]
 | n+1=>ZaJ c n++(if c (n+1)<0 then [n+1]else [])
theorem ups_mem{c:Nat→Int}: ∀{n i:Nat},i∈ZaG c n↔1≤i∧i≤n∧0<c i
 | 0,i=>by simp[ZaG];omega
 | n+1,i=>by
  simp only[ZaG,List.mem_append,ups_mem (n:=n)]
  by_cases h:0<c (n+1)
  ·simp only[h,if_true,List.mem_singleton]
   constructor
   ·rintro(⟨a,b,d⟩ | rfl)
    ·exact⟨a,by omega,d⟩
    ·exact⟨by omega,by omega,h⟩
   ·rintro⟨a,b,d⟩
    by_cases q:i=n+1
    ·exact .inr q
    ·exact .inl ⟨a,by omega,d⟩
  ·simp only[h,if_false,List.not_mem_nil,or_false]
   constructor
   ·rintro⟨a,b,d⟩;exact⟨a,by omega,d⟩
   ·rintro⟨a,b,d⟩
    have:i≠n+1:=fun q=>h (q▸d)
    exact⟨a,by omega,d⟩
theorem dns_mem{c:Nat→Int}: ∀{n i:Nat},i∈ZaJ c n↔1≤i∧i≤n∧c i<0
 | 0,i=>by simp[ZaJ];omega
 | n+1,i=>by
  simp only[ZaJ,List.mem_append,dns_mem (n:=n)]
  by_cases h:c (n+1)<0
  ·simp only[h,if_true,List.mem_singleton]
   constructor
   ·rintro(⟨a,b,d⟩ | rfl)
    ·exact⟨a,by omega,d⟩
    ·exact⟨by omega,by omega,h⟩
   ·rintro⟨a,b,d⟩
    by_cases q:i=n+1
    ·exact .inr q
    ·exact .inl ⟨a,by omega,d⟩
  ·simp only[h,if_false,List.not_mem_nil,or_false]
   constructor
   ·rintro⟨a,b,d⟩;exact⟨a,by omega,d⟩
   ·rintro⟨a,b,d⟩
    have:i≠n+1:=fun q=>h (q▸d)
    exact⟨a,by omega,d⟩
theorem Zsd{c:Nat→Int}: ∀n,(ZaG c n).length≤n
 | 0=>Nat.le_refl 0
 | n+1=>by
  have:=Zsd (c:=c) n
  simp only[ZaG,List.length_append]
  split <;> simp <;> omega
theorem Zse{c:Nat→Int}: ∀n,(ZaJ c n).length≤n
 | 0=>Nat.le_refl 0
 | n+1=>by
  have:=Zse (c:=c) n
  simp only[ZaJ,List.length_append]
  split <;> simp <;> omega
theorem Zrx{c:Nat→Int}: ∀n,(ZaG c n).map c=(xsI n c).filter fun x=>decide (0<x)
 | 0=>rfl
 | n+1=>by
  have e:xsI (n+1) c=xsI n c++[c (n+1)]:=(ZdK (n:=n) (f:=fun i=>c (i+1))).symm
  rw[e,List.filter_append,←Zrx n]
  simp only[ZaG,List.map_append]
  by_cases h:0<c (n+1) <;> simp[h]
theorem Zry{c:Nat→Int}: ∀n,(ZaJ c n).map c=(xsI n c).filter fun x=>decide (x<0)
 | 0=>rfl
 | n+1=>by
  have e:xsI (n+1) c=xsI n c++[c (n+1)]:=(ZdK (n:=n) (f:=fun i=>c (i+1))).symm
  rw[e,List.filter_append,←Zry n]
  simp only[ZaJ,List.map_append]
  by_cases h:c (n+1)<0 <;> simp[h]
theorem df_iff: Df n c↔(ZaG c n).map c=[1]∧(ZaJ c n).map c=[-1]:=by
 rw[Zrx,Zry]
 have hp:(nzI n c).Perm ((xsI n c).filter (fun x=>decide (0<x))++(xsI n c).filter (fun x=>decide (x<0))):=by
  unfold nzI
  generalize xsI n c=xs
  induction xs with
  | nil=>exact List.Perm.refl _
  | cons x xs ih=>
   by_cases h1:0<x
   ·have:x≠0:=by omega
    have h2:¬x<0:=by omega
    simp only[List.filter_cons,h1,h2,this,decide_true,decide_false,ne_eq,not_false_eq_true,if_true,Bool.false_eq_true,if_false,List.cons_append]
    exact List.Perm.cons _ ih
   ·by_cases h2:x<0
    ·have:x≠0:=by omega
     simp only[List.filter_cons,h1,h2,this,decide_true,decide_false,ne_eq,not_false_eq_true,if_true,Bool.false_eq_true,if_false]
     exact(List.Perm.cons _ ih).trans List.perm_middle.symm
    ·have:x=0:=by omega
     subst this
     simpa using ih
 constructor
 ·intro h
  have hq:(nzI n c).Perm [-1,1]:=by
   have:=List.mergeSort_perm (nzI n c) fun a b=>decide (a≤b)
   rw[show(nzI n c).mergeSort (fun a b=>decide (a≤b))=[-1,1]from h]at this
   exact this.symm
  have hf:∀q:Int→Bool,(∀x,q x=true→x≠0)→(xsI n c).filter q=(nzI n c).filter q:=fun q hq=>by
   unfold nzI
   rw[List.filter_filter]
   refine List.filter_congr fun x _=>?_
   cases e:q x with
   | false=>simp
   | true=>simp[hq x e]
  rw[hf _ (fun x h=>by simp at h;omega),hf _ (fun x h=>by simp at h;omega)]
  have p1:=hq.filter fun x=>decide (0<x)
  have p2:=hq.filter fun x=>decide (x<0)
  exact⟨List.perm_singleton.mp (by simpa using p1),List.perm_singleton.mp (by simpa using p2)⟩
 ·rintro⟨h1,h2⟩
  rw[h1,h2]at hp
  unfold Df
  refine(PM.Zrl ?_ ?_).symm
  ·exact(hp.trans (List.Perm.swap (-1) 1 [])).symm
  ·simp
theorem Zrz{p q r:PE}(h:Pk (p σ) fun t=>∃ks:List Int,t=.lst (ks.map T.int)∧Pk (q σ) fun u=>∃k,u=.int k∧Pk (r σ) fun v=>v=.int 1∧k∈ks.drop 1∧Q (.int ((1+(ks.drop 1).idxOf k:Nat):Int))): Pk (ZhB p q r σ) Q:=by
 obtain⟨_,e1,ks,rfl,_,e2,k,rfl,_,e3,rfl,hm,h⟩:=h
 refine⟨_,?_,h⟩
 simp only[ZhB,e1,e2,e3,Option.bind_some,Zi3]
 rw[if_pos ⟨trivial,hm⟩]
theorem Zjm: (tab (n+1) c).drop 1=xsI n c:=by
 unfold xsI
 apply List.ext_getElem
 ·simp[tab]
 ·intro i h1 h2
  simp[tab]
theorem ZsG{k:Int}(h:l.map c=[k]): ∃u,l=[u]∧c u=k:=by
 cases l with
 | nil=>simp at h
 | cons a l=>
  cases l with
  | nil=>exact⟨a,rfl,by simpa using h⟩
  | cons b l=>simp at h
theorem ZsT(hi:i<n): (xsI n c)[i]?=some (c (i+1)):=ZbH (f:=fun i=>c (i+1)) hi
theorem ZsH{u:Nat}{k:Int}(h1:1≤u)(h2:u≤n)(hu:c u=k)(ho:∀i,1≤i→i≤n→c i=k→i=u): 1+(xsI n c).idxOf k=u∧k∈xsI n c:=by
 have hm:k∈xsI n c:=List.mem_of_getElem? (i:=u-1) (by rw[ZsT (by omega),show u-1+1=u by omega,hu])
 have hl:(xsI n c).idxOf k<(xsI n c).length:=List.idxOf_lt_length_iff.mpr hm
 have hn:(xsI n c).length=n:=Zay
 have hk:=List.getElem_idxOf hl
 have hx:(xsI n c)[(xsI n c).idxOf k]?=some k:=by rw[List.getElem?_eq_getElem hl,hk]
 rw[ZsT (by omega)]at hx
 have:=ho ((xsI n c).idxOf k+1) (by omega) (by omega) (by simpa using hx)
 exact⟨by omega,hm⟩
theorem ZiW(h:Df n c): ∃u d,ZaG c n=[u]∧ZaJ c n=[d]∧c u=1∧c d = -1∧u<n+1∧d<n+1∧1≤u∧1≤d∧1+(xsI n c).idxOf 1=u∧1+(xsI n c).idxOf (-1)=d∧1∈xsI n c∧-1∈xsI n c:=by
 obtain⟨h1,h2⟩:=df_iff.mp h
 obtain⟨u,eu,hu⟩:=ZsG h1
 obtain⟨d,ed,hd⟩:=ZsG h2
 have mu:=ups_mem.mp (show u∈ZaG c n by rw[eu];simp)
 have md:=dns_mem.mp (show d∈ZaJ c n by rw[ed];simp)
 have a1:=ZsH mu.1 mu.2.1 hu fun i q1 q2 q3=>by
  have:i∈ZaG c n:=ups_mem.mpr ⟨q1,q2,by omega⟩
  rw[eu]at this
  simpa using this
 have a2:=ZsH md.1 md.2.1 hd fun i q1 q2 q3=>by
  have:i∈ZaJ c n:=dns_mem.mpr ⟨q1,q2,by omega⟩
  rw[ed]at this
  simpa using this
 exact⟨u,d,eu,ed,hu,hd,by omega,by omega,mu.1,md.1,a1.1,a2.1,a1.2,a2.2⟩
noncomputable def grt(n:Nat)(G:Nat→Nat→Option Int)(c:Nat→Int): Option Int:=if dec (Df n c)then addO (G (1+(xsI n c).idxOf 1) (1+(xsI n c).idxOf (-1))) (some (c 0))else(Zck c (S40 G) n).2
def GB(b n:Nat)(G:Nat→Nat→Option Int): Prop:=∀i j,i<n+1→j<n+1→∀y,G i j=some y→Bd b y
theorem ZsI(hG:GB b n G): ∀i,i<n→SBd b (S40 G i):=fun i hi=>⟨fun x e=>by
 obtain⟨y,e1,e2⟩:=Zz1.mp e
 have:=hG 0 (i+1) (by omega) (by omega) y e1
 subst e2
 unfold Bd at *
 omega,fun x e=>hG (i+1) 0 (by omega) (by omega) x e⟩
theorem Zip(hn:n≤60)(hb:b≤100000)(hb1:1≤b)(hG:GB b n G)(bc:∀i,i<n+1→Bd b (c i)): ZdY [ZO n G R,Zaa n c]=some (oT (grt n G c)):=by
 apply Pk.eq
 unfold ZdY ZmR grt
 have ht:ZO n G R=.tup [.lst (tab (n+1) fun i=>.lst (tab (n+1) fun j=>oT (G i j))),.lst (tab n fun i=>ZZ (R i))]:=rfl
 have hs:Zaa n c=.lst ((tab (n+1) c).map T.int):=by unfold Zaa;rw[tab_map]
 walk_at "z"
 refine ZF (Zs4 hn) ?_
 by_cases h:Df n c
 ·obtain⟨u,d,_,_,_,_,hu,hd,_,_,eu,ed,mu,md⟩:=ZiW h
  rw[Zbo h]
  rw[ht]
  walk_at "z"
  refine Zrz ?_
  walk_at "z"
  refine⟨tab (n+1) c,hs,?_⟩
  walk_at "z"
  refine⟨1,rfl,?_⟩
  walk_at "z"
  refine⟨rfl,by rw[Zjm];exact mu,?_⟩
  rw[Zjm,eu]
  walk_at "z"
  refine Zrz ?_
  walk_at "z"
  refine⟨tab (n+1) c,hs,?_⟩
  walk_at "z"
  refine⟨-1,rfl,?_⟩
  walk_at "z"
  refine⟨rfl,by rw[Zjm];exact md,?_⟩
  rw[Zjm,ed]
  unfold Zaa
  walk_at "z"
  exact ZF (ZgT (b:=some (c (Int.toNat 0)))) rfl
 ·rw[Zcq h]
  walk_at "z"
  refine ZF (Ztf (by omega) hb hb1 hG) ?_
  walk_at "z"
  refine ZF (Ztq (by omega) hb bc (ZsI hG)) ?_
  unfold spT
  walk_at "z"
  rfl
theorem Zyo: Zaa n (fun i=>c i * -1)=Zaa n fun i=>-(c i):=by
 unfold Zaa
 congr 1
 exact Zbj fun i _=>by show T.int (c i * -1)=T.int (-(c i));congr 1;omega
theorem ZrA(hn:n≤60)(hb:b≤1000)(hb1:1≤b)(hG:GB b n G)(bc:∀i,i<n+1→Bd b (c i))(bg:∀y,grt n G (fun i=>-(c i))=some y→Bd 100000 y): Zgd [ZO n G R,Zaa n c]=some (oT ((grt n G fun i=>-(c i)).map fun y=>y * -1)):=by
 apply Pk.eq
 unfold Zgd ZoD
 have b1:Bd b (-1):=by have:=Zej hb1;unfold Bd at *;simpa using this
 walk_at "z"
 refine ZF (Zp6 (by omega) (by omega) bc b1) ?_
 rw[Zyo]
 walk_at "z"
 refine ZF (Zip hn (by omega) hb1 hG fun i hi=>by have:=bc i hi;show Bd b (-(c i));unfold Bd at *;omega) ?_
 walk_at "z"
 exact ZF (ZgK (i:=100000) (by decide) bg (b1.mono (by omega))) rfl
noncomputable def Zpo(c:Nat→Int): T→Bool
 | .int i=>decide (0<c i.toNat)
 | _=>false
noncomputable def Zpp(c:Nat→Int): T→Bool
 | .int i=>decide (c i.toNat<0)
 | _=>false
theorem ZrB{c:Nat→Int}: ∀n,((tab n fun i=>T.int ((1+i:Nat):Int)).filter (Zpo c))=(ZaG c n).map fun i=>T.int (i:Nat)
 | 0=>rfl
 | n+1=>by
  rw[←ZdK (n:=n) (f:=fun i=>T.int ((1+i:Nat):Int)),List.filter_append,ZrB n]
  simp only[ZaG,List.map_append]
  congr 1
  rw[show 1+n=n+1 by omega]
  by_cases h:0<c (n+1) <;> simp[Zpo,h]
theorem ZrC{c:Nat→Int}: ∀n,((tab n fun i=>T.int ((1+i:Nat):Int)).filter (Zpp c))=(ZaJ c n).map fun i=>T.int (i:Nat)
 | 0=>rfl
 | n+1=>by
  rw[←ZdK (n:=n) (f:=fun i=>T.int ((1+i:Nat):Int)),List.filter_append,ZrC n]
  simp only[ZaJ,List.map_append]
  congr 1
  rw[show 1+n=n+1 by omega]
  by_cases h:c (n+1)<0 <;> simp[Zpp,h]
theorem ZrD{us:List Nat}{h:Nat→T}(hl:us.length≤1000)(hg:Pk (g σ) fun t=>t=.lst (us.map fun i=>T.int (i:Nat)))(hf:∀i∈us,Pk (f (Z8 σ j (.int (i:Nat)))) fun t=>t=h i)(q:Q (.lst (us.map h))): Pk (Zan (ZaI g) (Zae j) Zai f σ) Q:=by
 obtain⟨_,e,rfl⟩:=hg
 refine⟨_,?_,q⟩
 have hc:ZcS (Zae j) Zai f σ (us.map fun i=>T.int (i:Nat))=some (us.map h):=by
  have key:∀l:List Nat,(∀i∈l,i∈us)→ZcS (Zae j) Zai f σ (l.map fun i=>T.int (i:Nat))=some (l.map h):=by
   intro l
   induction l with
   | nil=>intro _;rfl
   | cons a l ih=>
    intro hm
    obtain⟨_,e1,rfl⟩:=hf a (hm a Zz5)
    simp only[List.map_cons,ZcS,Zae,Option.bind_some,Zai,if_true,e1,ih fun i m=>hm i (Zz2 _ m),Option.map_some]
  exact key us fun i m=>m
 simp only[Zan,ZaI,e,Option.bind_some,hc,Option.map_some,List.length_map]
 rw[if_pos (by rw[Zbr];omega)]
theorem Zsf{b:PS}{us:List Nat}{R:T→Prop}(hg:Pk (g σ) fun t=>t=.lst (us.map fun i=>T.int (i:Nat)))(P:List Nat→TL→Prop)(h0:P [] σ)(h1:∀pre i σ,i∈us→P pre σ→Psk (b (Z8 σ j (.int (i:Nat)))) R (P (pre++[i])))(h2:∀σ,P us σ→N σ): Psk (ZaD (ZaI g) (Zae j) b σ) R N:=by
 refine ZxR (ts:=us.map fun i=>T.int (i:Nat)) (P:=fun k σ=>P (us.take k) σ) ?_ (by simpa using h0) (fun k t σ hk hP=>?_) (fun σ h=>h2 σ (by simpa using h))
 ·obtain⟨_,e,rfl⟩:=hg
  exact⟨_,by simp only[ZaI,e,Option.bind_some],rfl⟩
 ·rw[List.getElem?_map]at hk
  obtain⟨i,ei,rfl⟩:=Zz1.mp hk
  rw[List.take_add_one,ei]
  exact h1 _ i σ (List.mem_of_getElem? ei) hP
noncomputable def sU(G:Nat→Nat→Option Int)(c:Nat→Int)(l:List Nat): Int:=(l.map fun i=>c i*(G i 0).getD 0).sum
noncomputable def sD(G:Nat→Nat→Option Int)(c:Nat→Int)(l:List Nat): Int:=(l.map fun i=>c i*(G 0 i).getD 0).sum
def Zdr(G:Nat→Nat→Option Int)(c:Nat→Int)(n:Nat): Prop:=(∃i∈ZaG c n,G i 0=none)∨∃i∈ZaJ c n,G 0 i=none
theorem Zsg: sU G c (l++[i])=sU G c l+c i*(G i 0).getD 0:=by simp[sU]
theorem Zsh: sD G c (l++[i])=sD G c l+c i*(G 0 i).getD 0:=by simp[sD]
theorem tot{G:Nat→Nat→Option Int}{c:Nat→Int}: ∀n,(Zdr G c n→(Zck c (S40 G) n).2=none)∧(¬Zdr G c n→(Zck c (S40 G) n).2=some (c 0+sU G c (ZaG c n)-sD G c (ZaJ c n)))
 | 0=>⟨fun h=>(by rcases h with⟨i,m,_⟩ | ⟨i,m,_⟩ <;> cases m),fun _=>by simp[Zck,sU,sD,ZaG,ZaJ]⟩
 | n+1=>by
  obtain⟨ih1,ih2⟩:=tot (G:=G) (c:=c) n
  have step:(Zck c (S40 G) (n+1)).2=addO (Zck c (S40 G) n).2 (ZcL (S40 G n) (c (n+1))).2:=rfl
  rw[step]
  have mono:Zdr G c n→Zdr G c (n+1):=fun h=>h.imp (fun⟨i,m,e⟩=>⟨i,by simp only[ZaG,List.mem_append];exact .inl m,e⟩) fun⟨i,m,e⟩=>⟨i,by simp only[ZaJ,List.mem_append];exact .inl m,e⟩
  rcases Int.lt_trichotomy (c (n+1)) 0 with h | h | h
  ·have h0:¬0<c (n+1):=by omega
   have hz:¬c (n+1)=0:=by omega
   have eu:ZaG c (n+1)=ZaG c n:=by simp[ZaG,h0]
   have ed:ZaJ c (n+1)=ZaJ c n++[n+1]:=by simp[ZaJ,h]
   have et:(ZcL (S40 G n) (c (n+1))).2=(G 0 (n+1)).map fun y=>y*(-1)*c (n+1):=by
    unfold ZcL S40
    rw[if_neg hz,if_pos h]
    cases G 0 (n+1) <;> rfl
   rw[et]
   cases hg:G 0 (n+1)with
   | none=>
    refine⟨fun _=>?_,fun q=>absurd (.inr ⟨n+1,by rw[ed];simp,hg⟩) q⟩
    cases (Zck c (S40 G) n).2 <;> rfl
   | some y=>
    have hl:Zdr G c (n+1)→Zdr G c n:=by
     rintro(⟨i,m,e⟩ | ⟨i,m,e⟩)
     ·rw[eu]at m;exact .inl ⟨i,m,e⟩
     ·rw[ed]at m
      rcases Zz8.mp m with m | m
      ·exact .inr ⟨i,m,e⟩
      ·rw[List.mem_singleton.mp m,hg]at e;cases e
    refine⟨fun q=>by rw[ih1 (hl q)];rfl,fun q=>?_⟩
    rw[ih2 fun r=>q (mono r),eu,ed,Zsh,hg]
    simp only[addO,Option.map_some,Option.getD_some]
    congr 1
    have:y*(-1)*c (n+1) = -(c (n+1)*y):=by rw[Int.mul_neg,Int.mul_one,Int.neg_mul,Int.mul_comm]
    omega
  ·have h0:¬0<c (n+1):=by omega
   have h1:¬c (n+1)<0:=by omega
   have eu:ZaG c (n+1)=ZaG c n:=by simp[ZaG,h0]
   have ed:ZaJ c (n+1)=ZaJ c n:=by simp[ZaJ,h1]
   have et:(ZcL (S40 G n) (c (n+1))).2=some 0:=by unfold ZcL;rw[if_pos h]
   have el:Zdr G c (n+1)↔Zdr G c n:=by unfold Zdr;rw[eu,ed]
   rw[et,ZsD,el,eu,ed]
   exact⟨ih1,ih2⟩
  ·have h1:¬c (n+1)<0:=by omega
   have hz:¬c (n+1)=0:=by omega
   have eu:ZaG c (n+1)=ZaG c n++[n+1]:=by simp[ZaG,h]
   have ed:ZaJ c (n+1)=ZaJ c n:=by simp[ZaJ,h1]
   have et:(ZcL (S40 G n) (c (n+1))).2=(G (n+1) 0).map fun y=>y*c (n+1):=by
    unfold ZcL S40
    rw[if_neg hz,if_neg h1]
   rw[et]
   cases hg:G (n+1) 0 with
   | none=>
    refine⟨fun _=>?_,fun q=>absurd (.inl ⟨n+1,by rw[eu];simp,hg⟩) q⟩
    cases (Zck c (S40 G) n).2 <;> rfl
   | some y=>
    have hl:Zdr G c (n+1)→Zdr G c n:=by
     rintro(⟨i,m,e⟩ | ⟨i,m,e⟩)
     ·rw[eu]at m
      rcases Zz8.mp m with m | m
      ·exact .inl ⟨i,m,e⟩
      ·rw[List.mem_singleton.mp m,hg]at e;cases e
     ·rw[ed]at m;exact .inr ⟨i,m,e⟩
    refine⟨fun q=>by rw[ih1 (hl q)];rfl,fun q=>?_⟩
    rw[ih2 fun r=>q (mono r),eu,ed,Zsg,hg]
    simp only[addO,Option.map_some,Option.getD_some]
    congr 1
    have:y*c (n+1)=c (n+1)*y:=Int.mul_comm _ _
    omega
theorem Ztw(hn:n≤60)(hb:b≤100000)(hG:GB b n G)(bc:∀i,i<n+1→Bd b (c i))(e0:σ 0=some (.tup [.lst (tab (n+1) fun i=>.lst (tab (n+1) fun j=>oT (G i j))),.lst (tab n fun i=>ZZ (R i))]))(e1:σ 1=some (.lst (tab (n+1) fun i=>.int (c i))))(e2:σ 2=some (.lst ((ZaG c n).map fun i=>T.int (i:Nat))))(e3:σ 3=some (.lst ((ZaJ c n).map fun i=>T.int (i:Nat)))): Psk ((Zt (ZM 4 (Zg Zad (Zan (ZaI (Za 2)) (Zae 104) Zai (Zg Zq (Zg Zq (Zg Zq (Za 0) (Zj 0)) (Za 104)) (Zj 0))) (Zan (ZaI (Za 3)) (Zae 106) Zai (Zg Zq (Zg Zq (Zg Zq (Za 0) (Zj 0)) (Zj 0)) (Za 106))))) (Zt (ZT (ZG (Zg qIn (ZV) (Za 4))) (ZD (ZV)) ZX) (Zt (ZM 5 (Zg Zq (Za 1) (Zj 0))) (Zt (ZaD (ZaI (Za 2)) (Zae 6) (ZM 5 (Zg Zad (Za 5) (Zg ZaC (Zg Zq (Za 1) (Za 6)) (Zg Zq (Zg Zq (Zg Zq (Za 0) (Zj 0)) (Za 6)) (Zj 0)))))) (Zt (ZaD (ZaI (Za 3)) (Zae 6) (ZM 5 (Zg Za0 (Za 5) (Zg ZaC (Zg Zq (Za 1) (Za 6)) (Zg Zq (Zg Zq (Zg Zq (Za 0) (Zj 0)) (Zj 0)) (Za 6)))))) (ZD (Za 5))))))) σ) (fun t=>t=oT (Zck c (S40 G) n).2) N:=by
 have lu:=Zsd (c:=c) n
 have ld:=Zse (c:=c) n
 have hu:∀i∈ZaG c n,i<n+1:=fun i m=>by have:=ups_mem.mp m;omega
 have hd:∀i∈ZaJ c n,i<n+1:=fun i m=>by have:=dns_mem.mp m;omega
 have h0:0<n+1:=by omega
 walk_at "z"
 refine ZrD (us:=ZaG c n) (h:=fun i=>oT (G i 0)) (by omega) ?_ (fun i m=>?_) ?_
 ·walk_at "z"
  rfl
 ·have:=hu i m
  walk_at "z"
  rfl
 refine ZrD (us:=ZaJ c n) (h:=fun i=>oT (G 0 i)) (by omega) ?_ (fun i m=>?_) ?_
 ·walk_at "z"
  rfl
 ·have:=hd i m
  walk_at "z"
  rfl
 refine Ze9 (by simp;omega) ?_
 walk_at "z"
 refine ZjM (n:=0) (m:=1) .none (.lst fun t m=>?_) ?_
 ·rcases Zz8.mp m with m | m
  ·obtain⟨i,_,rfl⟩:=Zz11.mp m;exact ZhI
  ·obtain⟨i,_,rfl⟩:=Zz11.mp m;exact ZhI
 by_cases hl:Zdr G c n
 ·have hm:T.none∈(ZaG c n).map (fun i=>oT (G i 0))++(ZaJ c n).map fun i=>oT (G 0 i):=by
   rcases hl with⟨i,m,e⟩ | ⟨i,m,e⟩
   ·exact Zz4 _ (Zz11.mpr ⟨i,m,by rw[e];rfl⟩)
   ·exact Zz3 _ (Zz11.mpr ⟨i,m,by rw[e];rfl⟩)
  rw[Zbo hm]
  walk_at "z"
  rw[(tot n).1 hl]
  rfl
 ·have hm:¬T.none∈(ZaG c n).map (fun i=>oT (G i 0))++(ZaJ c n).map fun i=>oT (G 0 i):=fun m=>hl (by
   rcases Zz8.mp m with m | m
   ·obtain⟨i,m,e⟩:=Zz11.mp m
    exact .inl ⟨i,m,oT_inj.mp (by rw[e];rfl)⟩
   ·obtain⟨i,m,e⟩:=Zz11.mp m
    exact .inr ⟨i,m,oT_inj.mp (by rw[e];rfl)⟩)
  have gu:∀i∈ZaG c n,∃y,G i 0=some y:=fun i m=>by
   cases e:G i 0 with
   | none=>exact absurd (.inl ⟨i,m,e⟩) hl
   | some y=>exact⟨y,rfl⟩
  have gd:∀i∈ZaJ c n,∃y,G 0 i=some y:=fun i m=>by
   cases e:G 0 i with
   | none=>exact absurd (.inr ⟨i,m,e⟩) hl
   | some y=>exact⟨y,rfl⟩
  rw[Zcq hm]
  walk_at "z"
  refine Zsf (us:=ZaG c n) (P:=fun pre σ'=>σ' 0=some (.tup [.lst (tab (n+1) fun i=>.lst (tab (n+1) fun j=>oT (G i j))),.lst (tab n fun i=>ZZ (R i))])∧σ' 1=some (.lst (tab (n+1) fun i=>.int (c i)))∧σ' 3=some (.lst ((ZaJ c n).map fun i=>T.int (i:Nat)))∧σ' 5=some (.int (c 0+sU G c pre))) ?_ ⟨by walk_at "r",by walk_at "r",by walk_at "r",by simp[sU,Z8]⟩ ?_ ?_
  ·walk_at "z"
   rfl
  ·rintro pre i σ' m ⟨f0,f1,f3,f5⟩
   have hi:=hu i m
   obtain⟨y,ey⟩:=gu i m
   have by_:Bd b y:=hG i 0 hi h0 y ey
   walk_at "z"
   rw[show(Int.toNat 0)=0 from rfl,ey,ZaH]
   refine ZbP (Zcn (bc i hi) by_ (by omega) (by omega)) ?_
   walk_at "z"
   refine⟨by walk_at "r",by walk_at "r",by walk_at "r",?_⟩
   rw[ZbL,Zsg,ey]
   simp only[Option.getD_some]
   congr 2
   omega
  rintro σ1 ⟨f0,f1,f3,f5⟩
  walk_at "z"
  refine Zsf (us:=ZaJ c n) (P:=fun pre σ'=>σ' 0=some (.tup [.lst (tab (n+1) fun i=>.lst (tab (n+1) fun j=>oT (G i j))),.lst (tab n fun i=>ZZ (R i))])∧σ' 1=some (.lst (tab (n+1) fun i=>.int (c i)))∧σ' 5=some (.int (c 0+sU G c (ZaG c n)-sD G c pre))) ?_ ⟨by walk_at "r",by walk_at "r",by simpa [sD]using f5⟩ ?_ ?_
  ·walk_at "z"
   rfl
  ·rintro pre i σ' m ⟨g0,g1,g5⟩
   have hi:=hd i m
   obtain⟨y,ey⟩:=gd i m
   have by_:Bd b y:=hG 0 i h0 hi y ey
   walk_at "z"
   rw[show(Int.toNat 0)=0 from rfl,ey,ZaH]
   refine ZbP (Zcn (bc i hi) by_ (by omega) (by omega)) ?_
   walk_at "z"
   refine⟨by walk_at "r",by walk_at "r",?_⟩
   rw[ZbL,Zsh,ey]
   simp only[Option.getD_some]
   congr 2
   omega
  rintro σ2 ⟨g0,g1,g5⟩
  walk_at "z"
  rw[(tot n).2 hl]
  rfl
theorem Zul(hn:n≤60)(hb:b≤100000)(hG:GB b n G)(bc:∀i,i<n+1→Bd b (c i))(e0:σ 0=some (.tup [.lst (tab (n+1) fun i=>.lst (tab (n+1) fun j=>oT (G i j))),.lst (tab n fun i=>ZZ (R i))]))(e1:σ 1=some (.lst (tab (n+1) fun i=>.int (c i))))(e2:σ 2=some (.lst ((ZaG c n).map fun i=>T.int (i:Nat))))(e3:σ 3=some (.lst ((ZaJ c n).map fun i=>T.int (i:Nat)))): Psk ((Zt (ZT (ZaU (ZG (Zg qEq (Zv Zat (Zd (Za 2) Zm)) (Zj 1))) (ZaU (ZG (Zg qEq (Zv Zat (Zd (Za 3) Zm)) (Zj 1))) (ZaU (ZG (Zg qEq (Zg Zq (Za 1) (Zg Zq (Za 2) (Zj 0))) (Zj 1))) (ZaU (ZG (Zg qEq (Zg Zq (Za 1) (Zg Zq (Za 3) (Zj 0))) (pUn ZbB (Zj 1)))) Zai)))) (Zt (ZT (ZG (Zg qIs (Zg Zq (Zg Zq (Zg Zq (Za 0) (Zj 0)) (Zg Zq (Za 2) (Zj 0))) (Zg Zq (Za 3) (Zj 0))) (ZV))) (ZD (ZV)) ZX) (ZD (Zg Zad (Zg Zq (Zg Zq (Zg Zq (Za 0) (Zj 0)) (Zg Zq (Za 2) (Zj 0))) (Zg Zq (Za 3) (Zj 0))) (Zg Zq (Za 1) (Zj 0))))) ZX) (Zt (ZM 4 (Zg Zad (Zan (ZaI (Za 2)) (Zae 104) Zai (Zg Zq (Zg Zq (Zg Zq (Za 0) (Zj 0)) (Za 104)) (Zj 0))) (Zan (ZaI (Za 3)) (Zae 106) Zai (Zg Zq (Zg Zq (Zg Zq (Za 0) (Zj 0)) (Zj 0)) (Za 106))))) (Zt (ZT (ZG (Zg qIn (ZV) (Za 4))) (ZD (ZV)) ZX) (Zt (ZM 5 (Zg Zq (Za 1) (Zj 0))) (Zt (ZaD (ZaI (Za 2)) (Zae 6) (ZM 5 (Zg Zad (Za 5) (Zg ZaC (Zg Zq (Za 1) (Za 6)) (Zg Zq (Zg Zq (Zg Zq (Za 0) (Zj 0)) (Za 6)) (Zj 0)))))) (Zt (ZaD (ZaI (Za 3)) (Zae 6) (ZM 5 (Zg Za0 (Za 5) (Zg ZaC (Zg Zq (Za 1) (Za 6)) (Zg Zq (Zg Zq (Zg Zq (Za 0) (Zj 0)) (Zj 0)) (Za 6)))))) (ZD (Za 5)))))))) σ) (fun t=>t=oT (grt n G c)) N:=by
 by_cases h:Df n c
 ·obtain⟨u,d,eu,ed,hcu,hcd,hu,hd,_,_,iu,id_,_,_⟩:=ZiW h
  have hg:grt n G c=addO (G u d) (some (c 0)):=by unfold grt;rw[Zbo h,iu,id_];rfl
  rw[hg]
  rw[eu]at e2
  rw[ed]at e3
  simp only[List.map_cons,List.map_nil]at e2 e3
  walk_at "z"
  cases hx:G u d with
  | none=>
   rw[Zbx]
   walk_at "z"
   rfl
  | some y=>
   rw[ZaH]
   walk_at "z"
   rw[hx,ZaH]
   walk_at "z"
   rfl
 ·have hg:grt n G c=(Zck c (S40 G) n).2:=by unfold grt;rw[Zcq h];rfl
  rw[hg]
  refine Zcw (fun σ'=>σ'=σ) ?_ ?_
  ·by_cases l1:(ZaG c n).length=1
   ·obtain⟨u,eu⟩:=List.length_eq_one_iff.mp l1
    have hu:u<n+1:=by have:=ups_mem.mp (show u∈ZaG c n by rw[eu];simp);omega
    by_cases l2:(ZaJ c n).length=1
    ·obtain⟨d,ed⟩:=List.length_eq_one_iff.mp l2
     have hd:d<n+1:=by have:=dns_mem.mp (show d∈ZaJ c n by rw[ed];simp);omega
     have hno:¬(c u=1∧c d = -1):=fun q=>h (df_iff.mpr ⟨by rw[eu];simp[q.1],by rw[ed];simp[q.2]⟩)
     rw[eu]at e2
     rw[ed]at e3
     simp only[List.map_cons,List.map_nil]at e2 e3
     by_cases q1:c u=1
     ·have q2:c d≠-1:=fun q=>hno ⟨q1,q⟩
      walk_at "z"
      rfl
     ·walk_at "z"
      rfl
    ·rw[eu]at e2
     simp only[List.map_cons,List.map_nil]at e2
     have l3:((((ZaJ c n).map fun i=>T.int (i:Nat)).length:Nat):Int)≠1:=by rw[List.length_map];omega
     walk_at "z"
     rfl
   ·have l3:((((ZaG c n).map fun i=>T.int (i:Nat)).length:Nat):Int)≠1:=by rw[List.length_map];omega
    walk_at "z"
    rfl
  ·rintro _ rfl
   exact Ztw hn hb hG bc e0 e1 e2 e3
theorem ZgA(hn:n≤60)(hb:b≤100000)(hG:GB b n G)(bc:∀i,i<n+1→Bd b (c i)): ZdG [ZO n G R,Zaa n c]=some (oT (grt n G c)):=by
 apply Pk.eq
 unfold ZdG Zkx
 have ht:ZO n G R=.tup [.lst (tab (n+1) fun i=>.lst (tab (n+1) fun j=>oT (G i j))),.lst (tab n fun i=>ZZ (R i))]:=rfl
 rw[ht]
 unfold Zaa
 refine Zjt rfl ?_
 have rg:∀{σ:TL} {j:Nat},σ 1=some (.lst (tab (n+1) fun i=>.int (c i)))→Pl (Zaz (Zd (Zj 1) (Zd (Zv Zat (Zd (Za 1) Zm)) Zm)) σ) fun us=>us=tab n fun i=>T.int ((1+i:Nat):Int):=fun {σ} {j} e=>by
  refine Zol (a:=1) (m:=n) (by omega) (by omega) ?_ rfl
  simp only[Zd,Zj,Zm,Zv,Za,e,Option.bind_some,Zat,Zay]
  congr 3
  congr 1
  omega
 refine Zcw (fun σ'=>σ' 0=some (.tup [.lst (tab (n+1) fun i=>.lst (tab (n+1) fun j=>oT (G i j))),.lst (tab n fun i=>ZZ (R i))])∧σ' 1=some (.lst (tab (n+1) fun i=>.int (c i)))∧σ' 2=some (.lst ((ZaG c n).map fun i=>T.int (i:Nat)))) ?_ ?_
 ·refine ZoO ?_
  refine ZnX (ts:=tab n fun i=>T.int ((1+i:Nat):Int)) (P:=Zpo c) (by rw[Zay];omega) (rg (j:=0) rfl) (fun t m=>?_) ?_
  ·obtain⟨i,hi,rfl⟩:=Ze5 m
   have h1:1+i<n+1:=by omega
   walk_at "z"
   show decide (0<c (1+i))=decide (0<c ((1+i:Nat):Int).toNat)
   rw[Int.toNat_natCast]
  ·rw[ZrB]
   exact⟨rfl,rfl,ZbL⟩
 rintro σ1 ⟨f0,f1,f2⟩
 refine Zcw (fun σ'=>σ' 0=some (.tup [.lst (tab (n+1) fun i=>.lst (tab (n+1) fun j=>oT (G i j))),.lst (tab n fun i=>ZZ (R i))])∧σ' 1=some (.lst (tab (n+1) fun i=>.int (c i)))∧σ' 2=some (.lst ((ZaG c n).map fun i=>T.int (i:Nat)))∧σ' 3=some (.lst ((ZaJ c n).map fun i=>T.int (i:Nat)))) ?_ ?_
 ·refine ZoO ?_
  refine ZnX (ts:=tab n fun i=>T.int ((1+i:Nat):Int)) (P:=Zpp c) (by rw[Zay];omega) (rg (j:=0) f1) (fun t m=>?_) ?_
  ·obtain⟨i,hi,rfl⟩:=Ze5 m
   have h1:1+i<n+1:=by omega
   walk_at "z"
   show decide (c (1+i)<0)=decide (c ((1+i:Nat):Int).toNat<0)
   rw[Int.toNat_natCast]
  ·rw[ZrC]
   exact⟨by walk_at "r",by walk_at "r",by walk_at "r",ZbL⟩
 rintro σ2 ⟨g0,g1,g2,g3⟩
 exact Zul hn hb hG bc g0 g1 g2 g3
theorem Zsi{b n:Nat}{c:Nat→Int}{S:Nat→Sp}(bc:∀i,i<n+1→Bd b (c i))(bS:∀i,i<n→SBd b (S i)): ∀j,j≤n→∀y,(Zck c S j).2=some y→Bd (b+b+j+1) y
 | 0,_,y,e=>by cases e;exact(bc 0 (by omega)).mono (by omega)
 | j+1,h,y,e=>by
  obtain⟨p,q,h1,h2,rfl⟩:=addO_some.mp (show addO (Zck c S j).2 (ZcL (S j) (c (j+1))).2=some y from e)
  have ih:=Zsi bc bS j (by omega) p h1
  have hq:Bd (b+b) q:=by
   unfold ZcL at h2
   split at h2
   ·cases h2;exact ZcN
   ·split at h2
    ·obtain⟨z,e1,rfl⟩:=Zz1.mp h2
     exact((bS j (by omega)).1 z e1).mul (bc (j+1) (by omega))
    ·obtain⟨z,e1,rfl⟩:=Zz1.mp h2
     exact((bS j (by omega)).2 z e1).mul (bc (j+1) (by omega))
  exact(ih.add (hq.mono (by omega))).mono (by omega)
theorem Zhs(bc:∀i,i<n+1→Bd b (c i)): ∀i,i<n+1→Bd b (-(c i)):=fun i hi=>by
 have:=bc i hi
 unfold Bd at *
 omega
noncomputable def ZbY(c:Nat→Int)(x:Nat→Int): Nat→Int
 | 0=>c 0
 | j+1=>ZbY c x j+c (j+1)*x j
theorem ZsJ{c x:Nat→Int}{S:Nat→Sp}{n:Nat}(h:∀i,i<n→InS (S i) (x i)): ∀j,j≤n→InS (Zck c S j) (ZbY c x j)
 | 0,_=>⟨fun l e=>by cases e;exact Int.le_refl _,fun l e=>by cases e;exact Int.le_refl _⟩
 | j+1,hj=>Zxa (ZsJ h j (by omega)) (Zwf (h j (by omega)))
noncomputable def sV(c x:Nat→Int)(l:List Nat): Int:=(l.map fun i=>c i*x (i-1)).sum
theorem Zq8{c x:Nat→Int}: ∀n,ZbY c x n=c 0+sV c x (ZaG c n)+sV c x (ZaJ c n)
 | 0=>by simp[ZbY,sV,ZaG,ZaJ]
 | n+1=>by
  have ih:=Zq8 (c:=c) (x:=x) n
  have sn:∀l,sV c x (l++[n+1])=sV c x l+c (n+1)*x n:=fun l=>by simp[sV]
  simp only[ZbY,ZaG,ZaJ,ih]
  rcases Int.lt_trichotomy (c (n+1)) 0 with h | h | h
  ·rw[if_neg (by omega),if_pos h,List.append_nil,sn]
   omega
  ·rw[if_neg (by omega),if_neg (by omega),List.append_nil,List.append_nil,h]
   omega
  ·rw[if_pos h,if_neg (by omega),List.append_nil,sn]
   omega
theorem Zzj(h:Zbw n G R x)(e:grt n G c=some y): ZbY c x n≤y:=by
 unfold grt at e
 by_cases hd:Df n c
 ·rw[Zbo hd]at e
  obtain⟨u,d,eu,ed,hcu,hcd,hu,hdn,hu1,hd1,iu,id_,_,_⟩:=ZiW hd
  rw[iu,id_]at e
  obtain⟨p,q,h1,h2,rfl⟩:=addO_some.mp (show addO (G u d) (some (c 0))=some y from e)
  cases h2
  have hb:=h.1 u d hu hdn p h1
  rw[Zq8,eu,ed]
  have f:∀i,1≤i→ZaZ x i=x (i-1):=fun i hi=>by
   cases i with
   | zero=>omega
   | succ i=>rfl
  rw[f u hu1,f d hd1]at hb
  simp only[sV,List.map_cons,List.map_nil,List.sum_cons,List.sum_nil,hcu,hcd]
  omega
 ·rw[Zcq hd]at e
  refine(ZsJ (S:=S40 G) (n:=n) (fun i hi=>⟨fun l el=>?_,fun r er=>?_⟩) n (Zz10 n)).2 y e
  ·obtain⟨z,e1,rfl⟩:=Zz1.mp el
   have:=h.1 0 (i+1) (by omega) (by omega) z e1
   have f0:ZaZ x 0=0:=rfl
   have f1:ZaZ x (i+1)=x i:=rfl
   show z*(-1)≤x i
   omega
  ·have:=h.1 (i+1) 0 (by omega) (by omega) r er
   have f0:ZaZ x 0=0:=rfl
   have f1:ZaZ x (i+1)=x i:=rfl
   omega
def SumB(n:Nat)(c:Nat→Int)(K:Int): Prop:=Bd 140 (c 0)∧∀i,1≤i→i<n+1→-K≤c i∧c i≤K
theorem SumB.bd(h:SumB n c K)(hK:K≤4000000000): ∀i,i<n+1→Bd 140 (c i):=fun i hi=>by
 by_cases q:i=0
 ·subst q;exact h.1
 ·have:=h.2 i (by omega) hi
  exact Zcv (i:=33) (by omega) (by decide)
theorem SumB.mono(h:SumB n c K)(hK:K≤K'): SumB n c K':=⟨h.1,fun i h1 h2=>by have:=h.2 i h1 h2;omega⟩
theorem Zjn{x:Nat}{v k:Int}(e:σ x=some (.lst (tab (n+1) fun i=>.int (c i))))(h0:1≤k)(h1:k<(n+1:Nat))(bc:SumB n c K)(hK:K≤K')(v0:-K'≤v)(v1:v≤K')(h:∀c',SumB n c' K'→N (Z8 σ x (.lst (tab (n+1) fun i=>.int (c' i))))): PutP σ x (.int v) (.int k) N:=by
 refine ZqS (n:=n+1) (f:=fun i=>.int (c i)) e (by omega) h1 ?_
 have:=h (fun i=>if i=k.toNat then v else c i) ⟨by show Bd 140 (if 0=k.toNat then v else c 0);rw[if_neg (by omega)];exact bc.1,fun i hi1 hi2=>by
  by_cases q:i=k.toNat
  ·simp only[q,if_true];exact⟨v0,v1⟩
  ·simp only[q,if_false];have:=bc.2 i hi1 hi2;omega⟩
 rw[show(tab (n+1) fun i=>if i=k.toNat then T.int v else T.int (c i))=tab (n+1) fun i=>T.int (if i=k.toNat then v else c i)from Zbj fun i _=>by split <;> rfl]
 exact this
noncomputable def unC(i:Nat): Nat→Int:=fun k=>if 0<i∧k=i then 1 else 0
theorem ZqN(hn:n≤900): ZdJ [.int i,.int n]=some (Zaa n (unC i)):=by
 apply Pk.eq
 unfold ZdJ ZnD Zaa
 walk_at "z"
 refine ZbM (n:=n+1) (a:=fun k=>.int (k:Nat)) (b:=fun k=>.int (unC i k)) (by omega) ?_ (fun k hk=>?_) rfl
 ·walk_at "z"
  exact ZjK (n+1) (by omega) (by omega) rfl
 ·walk_at "z"
  by_cases h:0<i
  ·refine⟨fun _=>?_,fun c=>absurd c (by simp;omega)⟩
   walk_at "z"
   by_cases q:k=i
   ·refine⟨fun _=>?_,fun c=>absurd c (by simp[q])⟩
    walk_at "z"
    show _=T.int (unC i k)
    unfold unC
    rw[if_pos ⟨h,q⟩]
   ·refine⟨fun c=>absurd c (by simp;omega),fun _=>?_⟩
    walk_at "z"
    show _=T.int (unC i k)
    unfold unC
    rw[if_neg (fun c=>q c.2)]
  ·refine⟨fun c=>absurd c (by simp;omega),fun _=>⟨fun c=>absurd c (by decide),fun _=>?_⟩⟩
   walk_at "z"
   show _=T.int (unC i k)
   unfold unC
   rw[if_neg (fun c=>h c.1)]
theorem ZuJ(hn:n≤900): ZiB [Zaa n c,Zaa n d]=some (Zaa n fun k=>c k+d k):=by
 apply Pk.eq
 unfold ZiB ZmU Zaa
 walk_at "z"
 refine Zn1 (n:=n+1) (a:=fun i=>.int (c i)) (b:=fun i=>.int (d i)) (c:=fun i=>.int (c i+d i)) (by omega) ?_ (fun i hi=>?_) rfl
 ·walk_at "z"
  rfl
 ·walk_at "z"
  rfl
theorem ZuK(hn:n≤900)(hb1:1≤b)(hb:b≤100000)(bd:∀i,i<n+1→Bd b (d i)): ZeW [Zaa n c,Zaa n d]=some (Zaa n fun k=>c k-d k):=by
 apply Pk.eq
 unfold ZeW ZmW
 walk_at "z"
 refine ZF (Zp6 (by omega) hb bd (show Bd b (-1)by unfold Bd;have:=Zej hb1;unfold Bd at this;simpa using this)) ?_
 walk_at "z"
 refine ZF (ZuJ hn) ?_
 walk_at "z"
 have:(fun k=>c k+d k * -1)=fun k=>c k-d k:=by funext k;omega
 rw[this]
noncomputable def Zc7(C:Nat→Nat→Int): Nat→Nat→Int
 | 0=>fun _=>0
 | i+1=>C i
noncomputable def dC(C:Nat→Nat→Int)(i j:Nat): Nat→Int:=fun k=>Zc7 C i k-Zc7 C j k
noncomputable def rcG(n:Nat)(G:Nat→Nat→Option Int)(C:Nat→Nat→Int)(i j:Nat): Option Int:=grt n G (dC C i j)
noncomputable def rcR(n:Nat)(R:Nat→Int×Int)(C:Nat→Nat→Int)(i:Nat): Int×Int:=ZaQ (C i) R n
noncomputable def Zch(n m:Nat)(C:Nat→Nat→Int): T:=.lst (tab m fun i=>Zaa n (C i))
def CB(b n m:Nat)(C:Nat→Nat→Int): Prop:=∀i,i<m→∀k,k<n+1→Bd b (C i k)
theorem CB.full(h:CB b n m C): ∀i,i<m+1→∀k,k<n+1→Bd b (Zc7 C i k)
 | 0,_,_,_=>ZcN
 | i+1,hi,k,hk=>h i (by omega) k hk
theorem CB.dif(h:CB b n m C)(hi:i<m+1)(hj:j<m+1): ∀k,k<n+1→Bd (b+1) (dC C i j k):=fun k hk=>by
 have h1:=h.full i hi k hk
 have h2:=h.full j hj k hk
 unfold Bd dC at *
 rw[Nat.pow_succ]
 omega
theorem ZzQ: unC 0=fun _=>0:=by funext k;unfold unC;rw[if_neg (by omega)]
theorem Zht(hG:GB b n G)(bc:∀i,i<n+1→Bd b (c i)): ∀y,grt n G c=some y→Bd (b+b+n+1) y:=fun y e=>by
 unfold grt at e
 by_cases h:Df n c
 ·rw[Zbo h]at e
  obtain⟨u,d,_,_,_,_,hu,hd,_,_,iu,id_,_,_⟩:=ZiW h
  rw[iu,id_]at e
  obtain⟨p,q,h1,h2,rfl⟩:=addO_some.mp (show addO (G u d) (some (c 0))=some y from e)
  cases h2
  exact((hG u d hu hd p h1).add (bc 0 (by omega))).mono (by omega)
 ·rw[Zcq h]at e
  exact(Zsi bc (ZsI hG) n (Zz10 n) y e).mono (by omega)
theorem Zzk{B:Nat}(hG:GB b n G)(hC:CB b n m C)(hB:b+b+n+3≤B): SmG B m (rcG n G C):=fun i j hi hj y e=>(Zht (b:=b+1) (fun u v hu hv z e=>(hG u v hu hv z e).mono (by omega)) (hC.dif hi hj) y e).mono (by omega)
theorem ZzR(h:∀k,c k=0): ∀n,ZaG c n=[]
 | n=>List.eq_nil_iff_forall_not_mem.mpr fun i hi=>by have:=(ups_mem.mp hi).2.2;rw[h]at this;omega
theorem ZzS(h:∀k,c k=0): grt n G c=some 0:=by
 unfold grt
 have hd:¬Df n c:=fun q=>by have:=(df_iff.mp q).1;rw[ZzR h]at this;cases this
 rw[Zcq hd]
 have:∀j,Zck c (S40 G) j=(some 0,some 0):=fun j=>by
  induction j with
  | zero=>show(some (c 0),some (c 0))=_;rw[h]
  | succ j ih=>
   show ZjP (Zck c (S40 G) j) (ZcL (S40 G j) (c (j+1)))=_
   rw[ih,h]
   rfl
 show(Zck c (S40 G) n).2=some 0
 rw[this]
theorem ZAf: ∀i,i<m+1→rcG n G C i i=some 0:=fun i _=>ZzS fun k=>by unfold dC;omega
theorem Zsj{c d x:Nat→Int}: ∀n,ZbY (fun k=>c k-d k) x n=ZbY c x n-ZbY d x n
 | 0=>rfl
 | n+1=>by
  simp only[ZbY,Zsj n,Int.sub_mul]
  omega
theorem ZrE{x:Nat→Int}: ∀n,ZbY (fun _=>0) x n=0
 | 0=>rfl
 | n+1=>by simp only[ZbY,ZrE n,Int.zero_mul];omega
theorem ZrF: ∀i,ZbY (Zc7 C i) x n=ZaZ (fun t=>ZbY (C t) x n) i
 | 0=>ZrE n
 | i+1=>rfl
theorem Zsk{c:Nat→Int}{R:Nat→Int×Int}{x:Nat→Int}{n:Nat}(ok:∀t,t<n→RestOk (R t))(h:∀t,t<n→ZaP (R t) (x t)): ∀j,j≤n→Zcb c R j ∣ ZbY c x j-Zcr c R j
 | 0,_=>by show(0:Int) ∣ c 0-c 0;rw[Int.sub_self];exact Int.dvd_zero _
 | j+1,hj=>by
  have h1:Zcb c R (j+1) ∣ Zcb c R j:=Int.gcd_dvd_left ..
  have h2:Zcb c R (j+1) ∣ c (j+1)*(R j).1:=Int.gcd_dvd_right ..
  obtain⟨z,hz⟩:=(Zbq (ok j (by omega)).nn (x j)).mp (h j (by omega))
  have h3:=Int.dvd_add (Int.dvd_trans h1 (Zsk ok h j (by omega))) (Int.dvd_trans h2 (Int.dvd_mul_right _ z))
  rw[show ZbY c x (j+1)=ZbY c x j+c (j+1)*x j from rfl,show Zcr c R (j+1)=Zcr c R j+c (j+1)*(R j).2 from rfl,show x j=(R j).2+(R j).1*z by omega,Int.mul_add,←Int.mul_assoc]
  generalize c (j+1)*(R j).1*z=u at *
  generalize c (j+1)*(R j).2=v at *
  rwa [show ZbY c x j+(v+u)-(Zcr c R j+v)=ZbY c x j-Zcr c R j+u by omega]
theorem Zsl(ok:∀t,t<n→RestOk (R t))(h:Zbw n G R x): Zbw m (rcG n G C) (rcR n R C) fun t=>ZbY (C t) x n:=by
 refine⟨fun i j hi hj b e=>?_,fun t ht=>?_⟩
 ·rw[←ZrF,←ZrF,←Zsj]
  exact Zzj h e
 ·unfold rcR
  rw[Zey ok n (Zz10 n)]
  exact(Zdt (Zhr _ _ _) _).mpr (Zsk ok h.2 n (Zz10 n))
theorem Zq9{kk:Int}{w at_ m lo:Int}(hk0:0≤kk)(hk9:kk≤1000)(hm:0<m)(hn:n≤9)(hK:K≤K')(hlo:-K'≤-lo)(hhi:m-1-lo≤K')(e0:σ 0=some (scr ns))(e1:σ 1=some (.int kk))(e2:σ 2=some (.int n))(e4:σ 4=some (.int w))(e5:σ 5=some (.int (1+at_)))(e3:σ 3=some (.lst (tab (n+1) fun i=>.int (c i))))(bc:SumB n c K)(h:∀σ' c',σ' 0=some (scr ns)→σ' 1=some (.int kk)→σ' 2=some (.int n)→σ' 4=some (.int w)→σ' 5=some (.int (1+at_))→σ' 3=some (.lst (tab (n+1) fun i=>.int (c' i)))→SumB n c' K'→N σ')(pm plo:PE)(epm:∀σ,pm σ=some (.int m))(eplo:∀σ,plo σ=some (.int lo)): Psk (ZaD (Zaz (Zd (Za 2) Zm)) (Zae 7) (Zbb 3 [] (Zg Za0 (Zv ZbK (Zd (Za 0) (Zd (Zg Zad (Zg Zad (Za 1) (Zj 1)) (Za 7)) (Zd pm Zm)))) plo) ZaA (Zg Zad (Za 7) (Zj 1))) σ) Q N:=by
 refine Zb4 (n:=n) (a:=fun i=>.int i) (P:=fun _ σ'=>σ' 0=some (scr ns)∧σ' 1=some (.int kk)∧σ' 2=some (.int n)∧σ' 4=some (.int w)∧σ' 5=some (.int (1+at_))∧∃c',σ' 3=some (.lst (tab (n+1) fun i=>.int (c' i)))∧SumB n c' K') ?_ ⟨e0,e1,e2,e4,e5,c,e3,bc.mono hK⟩ ?_ ?_
 ·walk_at "z"
  rfl
 ·rintro i σ' hi ⟨f0,f1,f2,f4,f5,c',f3,bc'⟩
  obtain⟨k0,k1⟩:=ZcJ ns (kk+1+(i:Int)) hm
  walk_at "z"
  refine⟨_,epm _,?_⟩
  walk_at "z"
  refine ZF (ZcK (by omega) (by omega) hm) ?_
  refine⟨_,eplo _,?_⟩
  walk_at "z"
  refine Zjn (n:=n) (c:=c') (K:=K') (K':=K') (by walk_at "r") (by omega) (by omega) bc' (Int.le_refl _) (by omega) (by omega) fun c2 bc2=>?_
  exact⟨by walk_at "r",by walk_at "r",by walk_at "r",by walk_at "r",by walk_at "r",c2,ZbL,bc2⟩
 ·rintro σ' ⟨f0,f1,f2,f4,f5,c',f3,bc'⟩
  exact h σ' c' f0 f1 f2 f4 f5 f3 bc'
theorem ZzT{kk:Int}(hk0:0≤kk)(hk9:kk≤1000)(hL:Lay ns)(hn:n≤9): Pk (ZiR [scr ns,.int kk,.int n]) fun t=>∃c,t=Zaa n c∧SumB n c 1000000000:=by
 unfold ZiR ZnB
 have bn:Bd 140 (Zca ns kk):=Zcv (Zge ns kk) (by decide)
 obtain⟨p0,p1⟩:=ZcJ ns kk (show(0:Int)<6 by decide)
 refine Zjt rfl ?_
 refine Zcw (fun σ'=>σ' 0=some (scr ns)∧σ' 1=some (.int kk)∧σ' 2=some (.int n)∧∃c,σ' 3=some (.lst (tab (n+1) fun i=>.int (c i)))∧SumB n c 0) ?_ ?_
 ·walk_at "z"
  refine ZF (ZfV hL (by omega) (by omega)) ?_
  walk_at "z"
  refine Zjk (by omega) ?_
  refine ZrR (by omega) ?_
  rw[show cn (T.int (Zca ns kk)) (fun _=>T.int 0)=fun i=>T.int (cn (Zca ns kk) (fun _=>0) i)from by funext i;cases i <;> rfl]
  refine⟨Zml fun _ _=>rfl,?_⟩
  refine⟨rfl,rfl,rfl,_,ZbL,bn,fun i h1 h2=>?_⟩
  cases i with
  | zero=>omega
  | succ i=>exact⟨Int.le_refl 0,Int.le_refl 0⟩
 rintro σ1 ⟨e0,e1,e2,c,e3,bc⟩
 walk_at "z"
 refine ZF (ZcK (by omega) (by omega) (by decide)) ?_
 by_cases hz:Zbt ns kk 6=0∨n=0
 ·rcases hz with hz | hz
  ·walk_at "z"
   exact⟨c,rfl,bc.mono (by decide)⟩
  ·by_cases q:Zbt ns kk 6=0
   ·walk_at "z"
    exact⟨c,rfl,bc.mono (by decide)⟩
   ·have:(n:Int)=0:=by omega
    walk_at "z"
    exact⟨c,rfl,bc.mono (by decide)⟩
 have hz1:Zbt ns kk 6≠0:=fun q=>hz (.inl q)
 have hn0:(n:Int)≠0:=fun q=>hz (.inr (by omega))
 obtain⟨a0,a1⟩:=ZcJ ns (kk+1) (show(0:Int)<n by omega)
 walk_at "z"
 refine ZF (ZcK (by omega) (by omega) (by omega)) ?_
 refine Zju ?_
 generalize Zbt ns kk 6=w at *
 generalize Zbt ns (kk+1) n=at_ at *
 let M:Int→TL→Prop:=fun K σ'=>σ' 0=some (scr ns)∧σ' 1=some (.int kk)∧σ' 2=some (.int n)∧σ' 4=some (.int w)∧σ' 5=some (.int (1+at_))∧∃c,σ' 3=some (.lst (tab (n+1) fun i=>.int (c i)))∧SumB n c K
 refine Zcw (M 6) ?_ ?_
 ·walk_at "z"
  refine⟨fun q=>?_,fun q=>?_⟩
  ·obtain⟨k0,k1⟩:=ZcJ ns (kk+2) (show(0:Int)<13 by decide)
   walk_at "z"
   refine ZF (ZcK (by omega) (by omega) (by decide)) ?_
   walk_at "z"
   refine Zjn (n:=n) (c:=c) (K:=0) (K':=6) (by walk_at "r") (by omega) (by omega) bc (by decide) (by omega) (by omega) fun c' bc'=>?_
   exact⟨by walk_at "r",by walk_at "r",by walk_at "r",by walk_at "r",by walk_at "r",c',ZbL,bc'⟩
  ·walk_at "z"
   exact⟨by walk_at "r",by walk_at "r",by walk_at "r",by walk_at "r",by walk_at "r",c,by walk_at "r",bc.mono (by decide)⟩
 clear bc e3 c
 rintro σ2 ⟨f0,f1,f2,f4,f5,c1,f3,bc1⟩
 refine Zcw (M 7) ?_ ?_
 ·have go:Psk ((Zt (ZM 6 (Zg Zad (Zj 1) (Zv ZbK (Zd (Za 0) (Zd (Zg Zad (Za 1) (Zj 2)) (Zd (Za 2) Zm)))))) (Zt (Zbb 3 [] (Zj 1) ZaA (Za 5)) (Zbb 3 [] (Zg Za0 (Zg Zq (Za 3) (Za 6)) (Zj 1)) ZaA (Za 6)))) σ2) (fun t=>∃c,t=Zaa n c∧SumB n c 1000000000) (M 7):=by
   obtain⟨k0,k1⟩:=ZcJ ns (kk+2) (show(0:Int)<n by omega)
   walk_at "z"
   refine ZF (ZcK (by omega) (by omega) (by omega)) ?_
   generalize Zbt ns (kk+2) n=to_ at *
   walk_at "z"
   refine Zjn (n:=n) (c:=c1) (K:=6) (K':=6) (by walk_at "r") (by omega) (by omega) bc1 (by decide) (by decide) (by decide) fun c' bc'=>?_
   have hto:=bc'.2 (1+to_).toNat (by omega) (by omega)
   walk_at "z"
   refine Zjn (n:=n) (c:=c') (K:=6) (K':=7) (by walk_at "r") (by omega) (by omega) bc' (by decide) (by omega) (by omega) fun c2 bc2=>?_
   exact⟨by walk_at "r",by walk_at "r",by walk_at "r",by walk_at "r",by walk_at "r",c2,ZbL,bc2⟩
  have no:M 7 σ2:=⟨f0,f1,f2,f4,f5,c1,f3,bc1.mono (by decide)⟩
  by_cases q2:w=2
  ·refine ZoP ?_
   refine⟨true,?_,fun _=>go,fun e=>by cases e⟩
   simp[bOr,ZG,Zg,Za,f4,Zj,qEq,Zi8,Zb2,q2]
  ·by_cases q3:w=3
   ·refine ZoP ?_
    refine⟨true,?_,fun _=>go,fun e=>by cases e⟩
    simp[bOr,ZG,Zg,Za,f4,Zj,qEq,Zi8,Zb2,q3]
   ·walk_at "z"
    exact no
 clear bc1 f3 c1
 clear f0 f1 f2 f4 f5
 rintro σ3 ⟨f0,f1,f2,f4,f5,c1,f3,bc1⟩
 refine Zcw (M 7) ?_ ?_
 ·walk_at "z"
  refine⟨fun q=>?_,fun q=>?_⟩
  ·exact Zq9 hk0 hk9 (m:=7) (lo:=3) (K:=7) (K':=7) (by decide) hn (by decide) (by decide) (by decide) f0 f1 f2 f4 f5 f3 bc1 (fun σ' c' g0 g1 g2 g4 g5 g3 bc'=>⟨g0,g1,g2,g4,g5,c',g3,bc'⟩) _ _ (fun _=>rfl) (fun _=>rfl)
  ·walk_at "z"
   exact⟨f0,f1,f2,f4,f5,c1,f3,bc1⟩
 clear bc1 f3 c1
 clear f0 f1 f2 f4 f5
 rintro σ4 ⟨f0,f1,f2,f4,f5,c1,f3,bc1⟩
 refine Zcw (M 1000000000) ?_ ?_
 ·walk_at "z"
  refine⟨fun q=>?_,fun q=>?_⟩
  ·exact Zq9 hk0 hk9 (m:=2000000001) (lo:=1000000000) (K:=7) (K':=1000000000) (by decide) hn (by decide) (by decide) (by decide) f0 f1 f2 f4 f5 f3 bc1 (fun σ' c' g0 g1 g2 g4 g5 g3 bc'=>⟨g0,g1,g2,g4,g5,c',g3,bc'⟩) _ _ (fun _=>rfl) (fun _=>rfl)
  ·walk_at "z"
   exact⟨f0,f1,f2,f4,f5,c1,f3,bc1.mono (by decide)⟩
 rintro σ5 ⟨g0,g1,g2,g4,g5,c2,g3,bc2⟩
 walk_at "z"
 exact⟨c2,rfl,bc2⟩
theorem Zzl{a:Nat}(h:1≤a): unC a a=1:=by unfold unC;rw[if_pos ⟨by omega,rfl⟩]
theorem ZsK{a:Nat}(h:k≠a): unC a k=0:=by unfold unC;rw[if_neg (fun q=>h q.2)]
theorem Zo8{a:Nat}{R:Nat→Int×Int}(h1:1≤a)(nn:0≤(R (a-1)).1): ∀j,Zcb (unC a) R j=(if a≤j then(R (a-1)).1 else 0)∧Zcr (unC a) R j=if a≤j then(R (a-1)).2 else 0
 | 0=>by
  rw[if_neg (by omega),if_neg (by omega)]
  exact⟨rfl,ZsK (by omega)⟩
 | j+1=>by
  obtain⟨i1,i2⟩:=Zo8 h1 nn j
  show((Int.gcd (Zcb (unC a) R j) (unC a (j+1)*(R j).1):Nat):Int)=_∧Zcr (unC a) R j+unC a (j+1)*(R j).2=_
  rw[i1,i2]
  by_cases q:j+1=a
  ·subst q
   rw[Zzl h1,if_neg (by omega),if_pos (by omega),if_neg (by omega),if_pos (by omega),Nat.add_sub_cancel]
   rw[Nat.add_sub_cancel]at nn
   constructor
   ·rw[Int.one_mul,Int.gcd_zero_left];omega
   ·omega
  ·rw[ZsK q,Int.zero_mul,Int.zero_mul,Int.gcd_zero_right]
   by_cases g:a≤j
   ·rw[if_pos g,if_pos (by omega),if_pos g,if_pos (by omega)]
    exact⟨by omega,by omega⟩
   ·rw[if_neg g,if_neg (by omega),if_neg g,if_neg (by omega)]
    exact⟨rfl,rfl⟩
theorem Zyp{a:Nat}(ok:∀t,t<n→RestOk (R t))(h1:1≤a)(h2:a≤n): ZaQ (unC a) R n=R (a-1):=by
 have oa:=ok (a-1) (by omega)
 rw[Zey ok n (Zz10 n),(Zo8 h1 oa.nn n).1,(Zo8 h1 oa.nn n).2,if_pos h2,if_pos h2]
 exact ZgS (ZcP oa.nn _) oa fun x=>by rw[Zdt oa.nn,Zbq oa.nn]
theorem ZuL(hn:n≤900): ZiD [Zaa n c,Zaa n d]=some (Zaa n fun k=>c k-d k):=by
 apply Pk.eq
 unfold ZiD ZmZ Zaa
 walk_at "z"
 refine ZbM (n:=n+1) (a:=fun i=>.int i) (b:=fun i=>.int (c i-d i)) (by omega) ?_ (fun i hi=>?_) rfl
 ·walk_at "z"
  rfl
 ·walk_at "z"
  rfl
theorem Zzm(hp:RestOk p)(hq:RestOk q)(h:∀x,ZaP p x→ZaP q x): RIn p q:=by
 have e:∀x,p.1 ∣ x-p.2→q.1 ∣ x-q.2:=fun x hx=>(Zbq hq.nn x).mp (h x ((Zbq hp.nn x).mpr hx))
 have a1:q.1 ∣ p.2-q.2:=e p.2 (by simp)
 have a2:q.1 ∣ p.2+p.1-q.2:=e (p.2+p.1) (by rw[show p.2+p.1-p.2=p.1 by omega];exact Int.dvd_refl _)
 have c1:q.1 ∣ p.1:=by have:=Int.dvd_sub a2 a1;rwa [show p.2+p.1-q.2-(p.2-q.2)=p.1 by omega]at this
 unfold RIn
 split
 ·rename_i z
  rw[z,Int.zero_dvd]at a1 c1
  exact Prod.ext (by rw[c1,z]) (by omega)
 ·exact⟨Int.emod_eq_zero_of_dvd c1,Int.emod_eq_zero_of_dvd a1⟩
theorem Zum(hR:∀t,t<n→RestOk (R t))(s:Sharp n G R G2 R2 M k): ZjD n G2 R2 G R:=by
 obtain⟨R1,h1,h2,h3,h4,rfl,h6⟩:=s.go
 refine⟨fun i hi j hj=>?_,fun t ht=>?_⟩
 ·refine Zdb (ZhJ (n+1) i j) (Zdb (Zye fun b e q=>h3 ⟨i,j,hi,hj,b,e,q⟩) (ZhJ (n+1) i j))
 ·refine Zzm (h6 t ht).1.1 (hR t ht) fun x hx=>?_
  have a:=((h6 t ht).2 x).mp hx
  have b:=((h2 t ht).2 x).mp a.1
  exact b.1
theorem Zzn{x:Nat}{s:Sp}(hd:∀i,i<n+1→G i i=some 0): ∀i,i<n+1→ZcU (Zc5 G (x+1)) (x+1) s i i=some 0:=fun i hi=>by
 unfold ZcU
 rw[Zdf (by omega),Zdf (by omega)]
 unfold Zc5
 by_cases c:i=x+1
 ·rw[if_pos c,if_pos c]
 ·rw[if_neg c,if_neg c,hd i hi]
def DueOk(m:Nat)(D:T): Prop:=D=.none∨∃G R,D=ZO m G R∧(∀i,i<m+1→G i i=some 0)∧∀t,t<m→RestOk (R t)
theorem DueOk.same{D:T}(hm:m≤100)(h:DueOk m D): ZgY [D,D]=some (.bool true):=by
 rcases h with rfl | ⟨G,R,rfl,hd,ok⟩
 ·exact ZtV
 ·exact ZtW hm hd ok
theorem Zvv{K:Nat}(hM:0<M)(bM:Bd K M)(bG:BdG (n+1) k G)(hk:k+n+1≤K)(s:Sharp n G R G2 R2 M K): BdG (n+1) (K+n+2) G2∧∀t,t<n→RBd K (R2 t):=by
 obtain⟨R1,_,h1,_,_,rfl,h2⟩:=s.go
 refine⟨?_,fun t ht=>(h2 t ht).1.bd hM bM⟩
 have b1:BdG (n+1) K (clG G (n+1)):=fun a b c ha hb e=>(ZeI bG (n+1) (Zz10 _) a b c ha hb e).mono (by omega)
 have b2:=Zo7 hM bM b1 fun t ht=>(h1 t ht).1
 exact fun a b c ha hb e=>(ZeI b2 (n+1) (Zz10 _) a b c ha hb e).mono (by omega)
theorem ZqO{y:Nat→Int}(h:Zbw n G R x)(e:∀t,t<n→y t=x t): Zbw n G R y:=by
 have f:∀i,i<n+1→ZaZ y i=ZaZ x i:=fun i hi=>by
  cases i with
  | zero=>rfl
  | succ i=>exact e i (by omega)
 exact⟨fun i j hi hj b q=>by rw[f i hi,f j hj];exact h.1 i j hi hj b q,fun t ht=>by rw[e t ht];exact h.2 t ht⟩
theorem ZpW{k:Int}(hi:i≤9000)(hk0:k≠0)(hk:Bd i k): ZeQ [oT a,.int k]=some (oT (a.map fun x=>x.fdiv k)):=by
 apply Pk.eq
 unfold ZeQ ZlB
 cases a with
 | none=>
  simp only[Zbx]
  walk_at "z"
  rfl
 | some x=>
  rw[ZaH]
  walk_at "z"
  refine ZbO hk0 (Zcg hk hi) ?_
  rfl
noncomputable def gT(N:Nat)(Γ:Nat→Nat→Option Int): T:=.lst (tab N fun a=>.lst (tab N fun b=>oT (Γ a b)))
def Tm(n K:Nat)(M:Int)(P:(Nat→Int)→Prop)(I:(Nat→Nat→Option Int)→(Nat→Int×Int)→Prop)(D:T): Prop:=(D=.none∧∀x,¬P x)∨∃G R,D=ZO n G R∧(∀i,i<n+1→G i i=some 0)∧(∀t,t<n→RB M K (R t))∧GB K n G∧(∀x,P x→Zbw n G R x)∧I G R
theorem ZoJ(hn:n≤20)(hk:k+2*n+4≤7000)(hM:0<M)(bM:Bd k M)(hd:∀i,i<n+1→G i i=some 0)(bG:GB k n G)(hR:∀t,t<n→RB M k (R t)): ∃D,ZbE [ZO n G R]=some D∧Zcd [ZO n G R]=some D∧Tm n (k+3*n+7) M (Zbw n G R) (fun G2 R2=>ZjD n G2 R2 G R) D:=by
 have bG2:BdG (n+1) k G:=fun a b c ha hb e=>bG a b ha hb c e
 obtain⟨D,et,hD⟩:=Zxb (k:=k) (by omega) (by omega) hM bM hd bG2 hR
 obtain⟨u,eu,hu⟩:=Zuj (k:=k) (by omega) (by omega) hM bM hd bG2 hR
 have:=Zvs hD hu
 subst this
 refine⟨D,et,eu,?_⟩
 rcases hD with⟨G2,R2,rfl,s⟩ | ⟨rfl,f⟩
 ·obtain⟨z1,z2⟩:=Zvv hM (bM.mono (by omega)) bG2 (by omega) s
  obtain⟨_,_,_,_,_,_,h6⟩:=s.go
  exact .inr ⟨G2,R2,rfl,(Zvu hd s).1,fun t ht=>(h6 t ht).1.mono (by omega),fun i j hi hj b e=>(z1 i j b hi hj e).mono (by omega),fun x li=>Zvl li s,Zum (fun t ht=>(hR t ht).1) s⟩
 ·exact .inl ⟨rfl,fun x li=>absurd f (ZuE li)⟩
theorem ZlI(hn:n≤100)(hi:1≤i)(hi2:i≤9000)(bc:∀j,j<n+1→Bd i (c j))(bR:∀j,j<n→RBd i (R j))(ok:∀j,j<n→RestOk (R j)): ZdI [Zaa n c,.lst (tab n fun j=>ZZ (R j))]=some (ZZ (ZaQ c R n)):=by
 apply Pk.eq
 unfold ZdI ZmH Zaa
 walk_at "z"
 refine Zja (n:=n) (a:=fun j=>.int (c (j+1))) (c:=fun j=>ZZ (R j)) (P:=fun j σ=>σ 2=some (ZZ (ZaQ c R j))) ?_ rfl ?_ ?_
 ·refine ZoS ?_
  refine ZnM ?_
  walk_at "z"
  refine⟨_,rfl,?_⟩
  rw[Zoi]
  walk_at "z"
  rfl
 ·rintro j σ hj e2
  have hr:=(ok j hj).nn
  have bt:Bd (i+i) (Zdk (R j) (c (j+1))).1:=by
   unfold Zdk
   rw[ZfL]
   exact(bR j hj).1.mul (Zyb (bc (j+1) (by omega)))
  have bv:Bd (i+i) (ZaQ c R j).1:=by
   rw[Zey ok j (by omega),ZfL]
   exact Zji bc bR j (by omega)
  walk_at "z"
  refine ZF (ZpU (k:=i) (by omega) hr (bR j hj) (bc (j+1) (by omega))) ?_
  walk_at "z"
  refine ZF (ZlG (k:=i+i) (by omega) bv bt) ?_
  walk_at "z"
  exact ZbL
 ·rintro σ e2
  walk_at "z"
  rfl
theorem Zj5(hn:n≤100)(hb:b≤9000)(bc:∀j,j<n+1→Bd b (c j))(bR:∀j,j<n→RBd b (R j))(ok:∀j,j<n→RestOk (R j)): ZeO [Zaa n c,.lst (tab n fun j=>ZZ (R j))]=some (ZZ (ZaQ c R n)):=by
 apply Pk.eq
 unfold ZeO ZkD Zaa
 rw[Zey ok n (Zz10 n)]
 walk_at "z"
 refine Zb4 (n:=n) (a:=fun i=>.int i) (P:=fun j σ=>σ 0=some (.lst (tab (n+1) fun i=>.int (c i)))∧σ 1=some (.lst (tab n fun j=>ZZ (R j)))∧σ 2=some (.int (Zcb c R j))∧σ 3=some (.int (Zcr c R j))) ?_ ⟨by walk_at "r",by walk_at "r",by walk_at "r",by walk_at "r"⟩ ?_ ?_
 ·walk_at "z"
  rfl
 ·rintro j σ hj ⟨e0,e1,e2,e3⟩
  have bj:=bR j hj
  have cj:=bc (j+1) (by omega)
  have h1:j+1<n+1:=by omega
  have e1':Z8 (Z8 (Z8 σ 4 (.int (j:Nat))) 2 (.int (Zcb c R (j+1)))) 3 (.int (Zcr c R (j+1))) 1=some (.lst (tab n fun j=>ZZ (R j))):=e1
  unfold ZZ at e1
  have e':((j:Int)+1).toNat=j+1:=by omega
  walk_at "z"
  rw[e']
  refine ZbP (Zcn cj bj.1 (by omega) (by omega)) ?_
  walk_at "z"
  refine ZF (Zm7 ((Zji bc bR j (by omega)).mono (by omega)) ((cj.mul bj.1).mono (by omega))) ?_
  walk_at "z"
  rw[e']
  refine ZbP (Zcn cj bj.2 (by omega) (by omega)) ?_
  walk_at "z"
  exact⟨by walk_at "r",e1',by walk_at "r",by walk_at "r"⟩
 ·rintro σ ⟨e0,e1,e2,e3⟩
  walk_at "z"
  exact ZF ZfK rfl
theorem Zyq(ok:∀t,t<n→RestOk (R t))(bm:∀t,t<n→Bd m (R t).1)(bR:∀t,t<n→RBd k (R t))(bc:∀i,i<n+1→Bd k (c i)): RBd (k+k+n) (ZaQ c R n):=by
 rw[Zey ok n (Zz10 n)]
 exact ZiT (Zhr _ _ _) ((Zji bc bR n (Zz10 n)).mono (by omega)) (Zr7 bc bR n (Zz10 n))
theorem ZrG{c:Nat→Int}{R:Nat→Int×Int}{n i m:Nat}(bc:∀j,j<n+1→Bd i (c j))(bm:∀j,j<n→Bd m (R j).1): ∀j,j≤n→Bd (i+m) (Zcb c R j)
 | 0,_=>ZcN
 | j+1,h=>ZsB (ZrG bc bm j (by omega)) ((bc (j+1) (by omega)).mul (bm j (by omega)))
def Tf(n:Nat)(P:(Nat→Int)→Prop)(I:(Nat→Nat→Option Int)→(Nat→Int×Int)→Prop)(D:T): Prop:=(D=.none∧∀x,¬P x)∨∃G R,D=ZO n G R∧(∀i,i<n+1→G i i=some 0)∧(∀t,t<n→RestOk (R t))∧(∀x,P x→Zbw n G R x)∧I G R
theorem Tm.tf{K:Nat}{P:(Nat→Int)→Prop}{D:T}(h:Tm n K M P I D): Tf n P I D:=by
 rcases h with h | ⟨G,R,rfl,h1,h2,h3,h4,h5⟩
 ·exact .inl h
 ·exact .inr ⟨G,R,rfl,h1,fun t ht=>(h2 t ht).1,h4,h5⟩
theorem Tf.due{P:(Nat→Int)→Prop}{D:T}(h:Tf n P I D): DueOk n D:=by
 rcases h with⟨rfl,_⟩ | ⟨G,R,rfl,h1,h2,h3,h4⟩
 ·exact .inl rfl
 ·exact .inr ⟨G,R,rfl,h1,h2⟩
theorem ZsL(hM:0<M)(bM:Bd m M)(h:RB M k q): Bd m q.1:=by
 rcases h.2.1 with e | e
 ·rw[e];exact ZcN
 ·have:=Nat.le_of_dvd (by omega) (Int.natAbs_dvd_natAbs.mpr e)
  unfold Bd at *
  omega
theorem Zyr(ok:∀t,t<n→RestOk (R t)): RestOk (ZaQ c R n):=by
 rw[Zey ok n (Zz10 n)]
 exact ZcP (Zhr _ _ _) _
theorem Ztx(hn:n≤60)(hm:m≤60)(hb:b≤9000)(hb1:1≤b)(hG:GB b n G)(hC:CB b n m C)(hi:i<m+1): Zic [ZO n G R,Zaa n (Zc7 C i),.lst (tab (m+1) fun j=>Zaa n (Zc7 C j))]=some (Zar (m+1) fun j=>rcG n G C i j):=by
 apply Pk.eq
 unfold Zic Zlu Zar
 walk_at "z"
 refine ZbM (n:=m+1) (a:=fun j=>Zaa n (Zc7 C j)) (b:=fun j=>oT (rcG n G C i j)) (by omega) ?_ (fun j hj=>?_) rfl
 ·walk_at "z"
  rfl
 ·walk_at "z"
  refine ZF (ZuK (b:=b) (by omega) hb1 (by omega) (hC.full j hj)) ?_
  walk_at "z"
  exact ZF (Zip (b:=b+1) (c:=dC C i j) hn (by omega) (by omega) (fun a b ha hb y e=>(hG a b ha hb y e).mono (by omega)) (hC.dif hi hj)) rfl
theorem Zvw(hn:n≤60)(hm:m≤60)(hb:b≤9000)(hb1:1≤b)(hG:GB b n G)(hR:∀t,t<n→RBd b (R t))(ok:∀t,t<n→RestOk (R t))(hC:CB b n m C)(h:Pk (ZbE [ZO m (rcG n G C) (rcR n R C)]) Q): Pk (Zd3 [ZO n G R,Zch n m C]) Q:=by
 obtain⟨t,et,qt⟩:=h
 refine⟨t,?_,qt⟩
 apply Pk.eq
 unfold Zd3 Zob
 have ht:ZO n G R=.tup [.lst (tab (n+1) fun i=>.lst (tab (n+1) fun j=>oT (G i j))),.lst (tab n fun i=>ZZ (R i))]:=rfl
 have hc:cn (Zaa n (unC 0)) (fun i=>Zaa n (C i))=fun i=>Zaa n (Zc7 C i):=by
  funext i
  cases i with
  | zero=>rw[ZzQ];rfl
  | succ i=>rfl
 have hs:Zch n m C=.lst (tab m fun i=>Zaa n (C i)):=rfl
 rw[ht,hs]
 walk_at "z"
 refine ZF (ZqN (i:=0) (n:=n) (by omega)) ?_
 walk_at "z"
 rw[hc]
 refine ZbM (n:=m+1) (a:=fun j=>Zaa n (Zc7 C j)) (b:=fun i=>Zar (m+1) fun j=>rcG n G C i j) (by omega) ?_ (fun j hj=>?_) ?_
 ·walk_at "z"
  rfl
 ·walk_at "z"
  rw[←ht]
  exact ZF (Ztx (b:=b) hn hm hb hb1 hG hC hj) rfl
 walk_at "z"
 refine ZbM (n:=m) (a:=fun j=>Zaa n (C j)) (b:=fun i=>ZZ (rcR n R C i)) (by omega) ?_ (fun j hj=>?_) ?_
 ·walk_at "z"
  rfl
 ·walk_at "z"
  exact ZF (ZlI (i:=b) (by omega) hb1 hb (fun k hk=>hC j hj k hk) hR ok) rfl
 walk_at "z"
 exact ZF et rfl
theorem Zty(hn:n≤60)(hm:m≤60)(hb:b≤9000)(hb1:1≤b)(hG:GB b n G)(hR:∀t,t<n→RBd b (R t))(ok:∀t,t<n→RestOk (R t))(hC:CB b n m C)(h:Pk (Zcd [ZO m (rcG n G C) (rcR n R C)]) Q): Pk (ZeP [ZO n G R,Zch n m C]) Q:=by
 obtain⟨t,et,qt⟩:=h
 refine⟨t,?_,qt⟩
 apply Pk.eq
 unfold ZeP Zlx
 have ht:ZO n G R=.tup [.lst (tab (n+1) fun i=>.lst (tab (n+1) fun j=>oT (G i j))),.lst (tab n fun i=>ZZ (R i))]:=rfl
 have hc:cn (Zaa n fun _=>0) (fun i=>Zaa n (C i))=fun i=>Zaa n (Zc7 C i):=by
  funext i
  cases i with
  | zero=>rfl
  | succ i=>rfl
 have hs:Zch n m C=.lst (tab m fun i=>Zaa n (C i)):=rfl
 rw[ht,hs]
 walk_at "z"
 rw[show(n:Int)+1=((n+1:Nat):Int)by omega]
 refine Zjk (by omega) ?_
 walk_at "z"
 rw[show(T.lst (tab (n+1) fun _=>T.int 0))=Zaa n fun _=>0 from rfl,hc]
 refine Zb4 (n:=m+1) (a:=fun i=>Zaa n (Zc7 C i)) (P:=fun i σ=>σ 0=some (ZO n G R)∧σ 1=some (.lst (tab m fun i=>Zaa n (C i)))∧σ 2=some (.lst (tab (m+1) fun i=>Zaa n (Zc7 C i)))∧σ 3=some (.lst (tab i fun i=>Zar (m+1) (rcG n G C i)))) ?_ ⟨by walk_at "r",by walk_at "r",by walk_at "r",by walk_at "r"⟩ ?_ ?_
 ·walk_at "z"
  rfl
 ·rintro i σ hi ⟨e0,e1,e2,e3⟩
  walk_at "z"
  refine ZbM (n:=m+1) (a:=fun j=>Zaa n (Zc7 C j)) (b:=fun j=>oT (rcG n G C i j)) (by omega) ?_ (fun j hj=>?_) ?_
  ·walk_at "z"
   rfl
  ·walk_at "z"
   refine ZF (ZuL (by omega)) ?_
   walk_at "z"
   refine ZF (ZgA (b:=b+1) (c:=dC C i j) hn (by omega) (fun a b ha hb y e=>(hG a b ha hb y e).mono (by omega)) (hC.dif hi hj)) ?_
   exact⟨Zgb,rfl⟩
  walk_at "z"
  rw[show tab i (fun i=>Zar (m+1) (rcG n G C i))++[T.lst (tab (m+1) fun j=>oT (rcG n G C i j))]=tab (i+1) fun i=>Zar (m+1) (rcG n G C i)from ZdK (f:=fun i=>Zar (m+1) (rcG n G C i))]
  exact⟨by walk_at "r",by walk_at "r",by walk_at "r",by walk_at "r"⟩
 ·rintro σ ⟨e0,e1,e2,e3⟩
  rw[ht]at e0
  walk_at "z"
  refine ZbM (n:=m) (a:=fun j=>Zaa n (C j)) (b:=fun i=>ZZ (rcR n R C i)) (by omega) ?_ (fun j hj=>?_) ?_
  ·walk_at "z"
   rfl
  ·walk_at "z"
   exact ZF (Zj5 (b:=b) (by omega) hb (fun k hk=>hC j hj k hk) hR ok) rfl
  walk_at "z"
  exact ZF et rfl
theorem ZuM(hm:m≤90)(hn:n≤900): ZfJ [.int m,.int n]=some (Zch n m fun t=>unC (t+1)):=by
 apply Pk.eq
 unfold ZfJ Zm3
 walk_at "z"
 refine ZbM (n:=m) (a:=fun i=>.int ((1+i:Nat):Int)) (b:=fun t=>Zaa n (unC (t+1))) (by omega) ?_ (fun i hi=>?_) rfl
 ·refine Zol (a:=1) (m:=m) (by omega) (by omega) ?_ rfl
  show some [T.int 1,T.int ((m:Int)+1)]=_
  rw[show(m:Int)+1=((1:Nat):Int)+m by omega]
  rfl
 ·walk_at "z"
  rw[Nat.add_comm 1 i]
  exact ZF (ZqN (i:=i+1) (n:=n) hn) rfl
theorem Zxf{K:Nat}(hn:n≤20)(hm:m≤20)(hb1:1≤b)(hb:b≤9000)(hK:K+2*m+4≤7000)(hG:GB b n G)(hR:∀t,t<n→RBd b (R t))(ok:∀t,t<n→RestOk (R t))(hC:CB b n m C)(hM:0<M)(bM:Bd K M)(bG:GB K m (rcG n G C))(hR':∀t,t<m→RB M K (rcR n R C t)): ∃D,Zd3 [ZO n G R,Zch n m C]=some D∧ZeP [ZO n G R,Zch n m C]=some D∧Tm m (K+3*m+7) M (fun v=>∃x,Zbw n G R x∧∀t,t<m→v t=ZbY (C t) x n) (fun G2 R2=>ZjD m G2 R2 (rcG n G C) (rcR n R C)) D:=by
 obtain⟨D,et,eu,hD⟩:=ZoJ (k:=K) hm hK hM bM (ZAf (G:=G) (C:=C)) bG hR'
 refine⟨D,Pk.eq (Zvw (b:=b) (by omega) (by omega) hb hb1 hG hR ok hC (ZF et rfl)),Pk.eq (Zty (b:=b) (by omega) (by omega) hb hb1 hG hR ok hC (ZF eu rfl)),?_⟩
 rcases hD with⟨rfl,no⟩ | ⟨G2,R2,rfl,h1,h2,h3,h4,h5⟩
 ·exact .inl ⟨rfl,fun v h=>by
   obtain⟨x,li,e⟩:=h
   exact no v (ZqO (Zsl (m:=m) (C:=C) ok li) e)⟩
 ·exact .inr ⟨G2,R2,rfl,h1,h2,h3,fun v h=>by
   obtain⟨x,li,e⟩:=h
   exact h4 v (ZqO (Zsl (m:=m) (C:=C) ok li) e),h5⟩
theorem Zxg{x:Nat}{f:Nat→T}(hx:x<n)(hn:n≤1000): Ze7 [.lst (tab n f),.int ((x:Int)+1),w]=some (.lst (tab n fun i=>if i=x then w else f i)):=by
 apply Pk.eq
 unfold Ze7 ZoE
 have hlen:(tab n f).length=n:=Zay
 walk_at "z"
 refine Zph ?_
 walk_at "z"
 refine⟨_,rfl,?_⟩
 walk_at "z"
 refine⟨x,by congr 1;omega,?_⟩
 walk_at "z"
 refine Ze9 (by simp[hlen];omega) ?_
 refine Zpi ?_
 walk_at "z"
 refine⟨_,rfl,?_⟩
 walk_at "z"
 refine⟨x+1,rfl,?_⟩
 refine Ze9 (by simp[hlen];omega) ?_
 rw[ZoH (by omega),Zew]
theorem Tm.sub{K K':Nat}{P P':(Nat→Int)→Prop}{I':(Nat→Nat→Option Int)→(Nat→Int×Int)→Prop}{D:T}(h:Tm n K M P I D)(hK:K≤K')(hP:∀x,P' x→P x)(hI:∀G R,(∀t,t<n→RestOk (R t))→I G R→I' G R): Tm n K' M P' I' D:=by
 rcases h with⟨rfl,no⟩ | ⟨G,R,rfl,h1,h2,h3,h4,h5⟩
 ·exact .inl ⟨rfl,fun x p=>no x (hP x p)⟩
 ·exact .inr ⟨G,R,rfl,h1,fun t ht=>(h2 t ht).mono hK,fun i j hi hj y e=>(h3 i j hi hj y e).mono hK,fun x p=>h4 x (hP x p),hI G R (fun t ht=>(h2 t ht).1) h5⟩
theorem RB.bd2(hM:0<M)(bM:Bd m M)(hm:m≤k)(h:RB M k q): RBd k q:=⟨(ZsL hM bM h).mono hm,h.2.2⟩
theorem Zys(hn:n≤4)(hd:∀i,i<n+1→G i i=some 0)(ok:∀t,t<n→RestOk (R t))(sG:SmG 137 n G)(sR:SmR 137 n R): ∃D,ZbE [ZO n G R]=some D∧Zcd [ZO n G R]=some D∧∃M,0<M∧Bd 560 M∧Tm n 580 M (Zbw n G R) (fun G2 R2=>ZjD n G2 R2 G R) D:=by
 have hp:=ZnV ok n (Zz10 n)
 have hb:Bd 560 (Zeg R n):=(Zok (k:=137) (by decide) (fun t ht=>(sR t ht).1) n (Zz10 n)).mono (by omega)
 obtain⟨D,e1,e2,h⟩:=ZoJ (k:=560) (by omega) (by omega) hp hb hd (fun i j hi hj y e=>(show Bd 137 y from sG i j hi hj y e).mono (by decide)) (fun t ht=>⟨ok t ht,ZnW n t ht,(show Bd 137 _ from(sR t ht).2).mono (by decide)⟩)
 exact⟨D,e1,e2,_,hp,hb,h.sub (by omega) (fun _ p=>p) (fun _ _ _ i=>i)⟩
theorem bd_un: Bd 1 (unC i k):=by
 unfold unC Bd
 split <;> decide
theorem RB.up(h:RB M k q)(hd:M ∣ M')(hk:k≤k'): RB M' k' q:=⟨h.1,h.2.1.imp id fun d=>Int.dvd_trans d hd,h.2.2.mono hk⟩
theorem pl_sum1: Pln 1 (Zaa n c):=by
 have:=ZoI (tab (n+1) c)
 rw[tab_map]at this
 exact this
theorem ZuN(hm:m≤60): Zh1 [.int m]=some (Zch m m fun t=>unC (t+1)):=by
 apply Pk.eq
 unfold Zh1 ZkG Zch
 walk_at "z"
 refine Zb4 (n:=m) (a:=fun i=>.int i) (P:=fun k σ=>σ 0=some (.int m)∧σ 1=some (.lst (tab k fun t=>Zaa m (unC (t+1))))) ?_ ⟨by walk_at "r",by walk_at "r"⟩ ?_ ?_
 ·walk_at "z"
  rfl
 ·rintro i σ hi ⟨e0,e1⟩
  walk_at "z"
  rw[show(m:Int)+1=((m+1:Nat):Int)by omega]
  refine Zjk (by omega) ?_
  walk_at "z"
  refine ZqS (n:=m+1) (f:=fun _=>.int 0) (by walk_at "r") (by omega) (by omega) ?_
  rw[show((i:Int)+1).toNat=i+1 by omega]
  have ev:(T.lst (tab (m+1) fun k=>if k=i+1 then T.int 1 else T.int 0))=Zaa m (unC (i+1)):=by
   show T.lst _=T.lst _
   congr 1
   refine Zbj fun k _=>?_
   unfold unC
   by_cases q:k=i+1
   ·rw[if_pos q,if_pos ⟨by omega,q⟩]
   ·rw[if_neg q,if_neg (by omega)]
  rw[ev]
  walk_at "z"
  rw[ZdK (f:=fun t=>Zaa m (unC (t+1)))]
  exact⟨by walk_at "r",by walk_at "r"⟩
 ·rintro σ ⟨e0,e1⟩
  walk_at "z"
  rfl
theorem Zzo{a b:Str}(h:a≠b): ¬(T.str a=T.str b):=fun q=>h (T.str.inj q)
noncomputable def evT(n:Nat)(c:Nat→Int)(d:Int): T:=.tup [.str (Str.ofString "even"),Zaa n c,.int d]
section
variable {Q:T→Prop}
theorem ZcM{a:Str}(ha:PyData.strOk a=true)(h:Q (.bool true)): Pk (qEq (.str a) (.str a)) Q:=Zfc (n:=1) (m:=1) (.str ha) (.str ha) (by rw[Zbo rfl];exact h)
theorem ZaB{a b:Str}(hab:(PyData.strOk a && PyData.strOk b && decide (a≠b))=true)(h:Q (.bool false)): Pk (qEq (.str a) (.str b)) Q:=by
 simp only[Bool.and_eq_true,decide_eq_true_eq]at hab
 exact Zfc (n:=1) (m:=1) (.str hab.1.1) (.str hab.1.2) (by rw[Zcq (Zzo hab.2)];exact h)
end
theorem Zpq{s:Sp}{k:Int}(hi:i≤9000)(hk0:k≠0)(hk:Bd i k): Zfr [spT s,.int k]=some (spT (s.1.map fun x=>x.fdiv k,s.2.map fun x=>x.fdiv k)):=by
 apply Pk.eq
 unfold Zfr Zj1 spT
 walk_at "z"
 refine ZF (ZpW hi hk0 hk) ?_
 walk_at "z"
 refine ZF (ZpW hi hk0 hk) ?_
 walk_at "z"
 rfl
noncomputable def srI(s:Sp)(k:Int): Sp:=match s.1,s.2 with
 | some a,some b=>if a.fdiv k=b.fdiv k then(some (a.fmod k),some (b.fmod k))else(some 0,some (k-1))
 | _,_=>(some 0,some (k-1))
theorem ZsY{s:Sp}{k:Int}(hi:i≤9000)(hk0:k≠0)(hk:Bd i k): Zgz [spT s,.int k]=some (spT (srI s k)):=by
 have hp:=Zpq (s:=s) hi hk0 hk
 apply Pk.eq
 unfold Zgz Zj4 srI
 obtain⟨a,b⟩:=s
 cases a with
 | none=>
  have e:spT ((none:Option Int).map fun x=>x.fdiv k,b.map fun x=>x.fdiv k)=.tup [.none,oT (b.map fun x=>x.fdiv k)]:=rfl
  rw[e]at hp
  walk_at "z"
  refine ZF hp ?_
  walk_at "z"
  rfl
 | some x=>
  cases b with
  | none=>
   have e:spT ((some x).map fun x=>x.fdiv k,(none:Option Int).map fun x=>x.fdiv k)=.tup [.int (x.fdiv k),.none]:=rfl
   rw[e]at hp
   walk_at "z"
   refine ZF hp ?_
   walk_at "z"
   refine Zfc (n:=1) (m:=1) .int .none ?_
   rw[Zcq (by intro h;cases h)]
   walk_at "z"
   rfl
  | some y=>
   have e:spT ((some x).map fun x=>x.fdiv k,(some y).map fun x=>x.fdiv k)=.tup [.int (x.fdiv k),.int (y.fdiv k)]:=rfl
   have e2:spT (some x,some y)=.tup [.int x,.int y]:=rfl
   rw[e]at hp
   rw[e2]at hp ⊢
   by_cases c:x.fdiv k=y.fdiv k
   ·simp only[c,if_true]
    rw[c]at hp
    walk_at "z"
    refine ZF hp ?_
    walk_at "z"
    rfl
   ·simp only[c,if_false]
    walk_at "z"
    refine ZF hp ?_
    walk_at "z"
    rfl
noncomputable def rpI(q:Int×Int)(k:Int): Int×Int:=if q.1.fmod k=0 then ZaE (q.1.fdiv k) (q.2.fdiv k)else(1,0)
theorem Ztz{k:Int}(hi:i≤9000)(hq:0≤q.1)(hk0:0<k)(hk:Bd i k): ZgG [ZZ q,.int k]=some (ZZ (rpI q k)):=by
 have hz:k≠0:=by omega
 have hd:0≤q.1.fdiv k:=by rw[Int.fdiv_eq_ediv_of_nonneg _ (by omega)];exact Int.ediv_nonneg hq (by omega)
 apply Pk.eq
 unfold ZgG Zlg rpI
 have ep:ZZ q=.tup [.int q.1,.int q.2]:=rfl
 rw[ep]
 by_cases c:q.1.fmod k=0
 ·rw[if_pos c]
  walk_at "z"
  refine ZbO hz (Zcg hk hi) ?_
  walk_at "z"
  refine ZbO hz (Zcg hk hi) ?_
  walk_at "z"
  exact ZF (ZgJ hd) rfl
 ·rw[if_neg c]
  walk_at "z"
  rfl
noncomputable def rrI(q:Int×Int)(k:Int): Int×Int:=if((Int.gcd q.1 k:Nat):Int)=k then(0,q.2.fmod k)else ZaE (Int.gcd q.1 k) q.2
theorem ZtA{k:Int}(hk0:0<k)(hq:Bd 200000 q.1)(hk:Bd 200000 k): ZgF [ZZ q,.int k]=some (ZZ (rrI q k)):=by
 have hz:k≠0:=by omega
 have hg:=Zm8 (a:=q.1) (b:=k) hq hk
 apply Pk.eq
 unfold ZgF Zld rrI
 have ep:ZZ q=.tup [.int q.1,.int q.2]:=rfl
 rw[ep]
 by_cases c:((Int.gcd q.1 k:Nat):Int)=k
 ·rw[if_pos c]
  walk_at "z"
  refine ZF hg ?_
  walk_at "z"
  rfl
 ·rw[if_neg c]
  walk_at "z"
  refine ZF hg ?_
  walk_at "z"
  exact ZF (ZgJ (by omega)) rfl
theorem Zlh{k:Int}(hi:i≤9000)(hk0:k≠0)(hk:Bd i k): Zeo [oT a,.int k]=some (oT (a.map fun x=>x.fdiv k)):=by
 apply Pk.eq
 unfold Zeo ZlF
 cases a with
 | none=>rw[Zbx];walk_at "z";rfl
 | some x=>rw[ZaH];walk_at "z";exact ZbO hk0 (Zcg hk hi) rfl
theorem Zo9{x:Nat}{s:Sp}(hn:n≤20)(hx:x<n)(hb1:1≤b)(hbk:b≤k)(hk:k+2*n+4≤7000)(hM:0<M)(bM:Bd k M)(hd:∀i,i<n+1→G i i=some 0)(bG:GB b n G)(bs:SBd b s)(hR:∀t,t<n→RB M k (R t))(hq:RB M k q): ∃D,Zea [ZO n G R,.int ((x:Int)+1),spT s,ZZ q]=some D∧Zds [ZO n G R,.int ((x:Int)+1),spT s,ZZ q]=some D∧DueOk n D:=by
 have gb:GB k n (ZcU (Zc5 G (x+1)) (x+1) s):=fun i j hi hj y e=>by
  unfold ZcU Zcj at e
  split at e
  ·obtain⟨z,hz,rfl⟩:=Zz1.mp e
   have:=(bs.1 z hz).mono hbk
   unfold Bd at *;omega
  ·split at e
   ·exact(bs.2 y e).mono hbk
   ·unfold Zc5 at e
    split at e
    ·split at e
     ·cases e;exact ZcN
     ·cases e
    ·split at e
     ·cases e
     ·exact(bG i j hi hj y e).mono hbk
 obtain⟨D,e1,e2,h⟩:=ZoJ (k:=k) hn hk hM bM (Zzn (x:=x) (s:=s) hd) gb (fun t ht=>by
  unfold Zfk
  split
  ·exact hq
  ·exact hR t ht:∀t,t<n→RB M k (Zfk R x q t))
 exact⟨D,Pk.eq (Zym hx (by omega) (by omega) hb1 bs (ZF e1 rfl)),Pk.eq (ZuH hx (by omega) (ZF e2 rfl)),h.tf.due⟩
theorem Zhu{x d:Int}(hd:0<d)(h:Bd k x): Bd k (x.fdiv d):=by
 unfold Bd at *
 rw[Int.fdiv_eq_ediv_of_nonneg _ (by omega)]
 exact Nat.lt_of_le_of_lt (Int.natAbs_ediv_le_natAbs x d) h
noncomputable def ZcO(X:Nat)(c:Nat→Int): Nat→Nat→Int:=fun t=>if t=X then c else unC (t+1)
theorem ZrH: (T.lst (tab n fun i=>if i=X then Zaa n c else Zaa n (unC (i+1))))=Zch n n (ZcO X c):=by
 unfold Zch
 congr 1
 refine Zbj fun i _=>?_
 unfold ZcO
 by_cases q:i=X
 ·rw[if_pos q,if_pos q]
 ·rw[if_neg q,if_neg q]
theorem Zzp(bc:∀i,i<n+1→Bd 140 (c i)): CB 580 n n (ZcO X c):=fun i _ k hk=>by
 unfold ZcO
 split
 ·exact(bc k hk).mono (by decide)
 ·exact bd_un.mono (by decide)
section
variable {n X:Nat} {G:Nat→Nat→Option Int} {R:Nat→Int×Int} {c:Nat→Int} {M d:Int}
theorem Zpj(hM:0<M)(bM:Bd k M)(hq:RestOk q)(bq:Bd j q.1)(hj:1≤j): ∃M',0<M'∧Bd (k+j+1) M'∧M ∣ M'∧(q.1=0∨q.1 ∣ M'):=by
 have hp:=ZnV (n:=1) (R:=fun _=>q) (fun _ _=>hq) 1 (Zz10 1)
 have hb:=Zok (n:=1) (k:=j) (R:=fun _=>q) hj (fun _ _=>bq) 1 (Zz10 1)
 refine⟨M*Zeg (fun _=>q) 1,Int.mul_pos hM hp,(bM.mul hb).mono (by omega),Int.dvd_mul_right _ _,?_⟩
 exact(ZnW (R:=fun _=>q) 1 0 (by decide)).imp id fun h=>Int.dvd_trans h (Int.dvd_mul_left _ _)
theorem Zom(hM:0<M)(bM:Bd 560 M)(hR:∀t,t<n→RB M 580 (R t))(bc:∀i,i<n+1→Bd 140 (c i)): RestOk (ZaQ c R n)∧Bd 700 (ZaQ c R n).1∧Bd (1160+n) (ZaQ c R n).2:=by
 have ok:∀t,t<n→RestOk (R t):=fun t ht=>(hR t ht).1
 have bR:∀t,t<n→RBd 580 (R t):=fun t ht=>(hR t ht).bd2 hM bM (by decide)
 refine⟨Zyr ok,?_,(Zyq (m:=580) ok (fun t ht=>(bR t ht).1) bR (fun i hi=>(bc i hi).mono (by decide))).2⟩
 rw[Zey ok n (Zz10 n),ZfL]
 exact ZrG (i:=140) (m:=560) bc (fun j hj=>ZsL hM bM (hR j hj)) n (Zz10 n)
theorem ZzU(hn:n≤4)(hX:X<n)(hM:0<M)(bM:Bd 560 M)(hd:∀i,i<n+1→G i i=some 0)(hG:GB 580 n G)(hR:∀t,t<n→RB M 580 (R t))(bc:∀i,i<n+1→Bd 140 (c i)): ∃D,Zd3 [ZO n G R,Zch n n (ZcO X c)]=some D∧ZeP [ZO n G R,Zch n n (ZcO X c)]=some D∧DueOk n D:=by
 have ok:∀t,t<n→RestOk (R t):=fun t ht=>(hR t ht).1
 have bR:∀t,t<n→RBd 580 (R t):=fun t ht=>(hR t ht).bd2 hM bM (by decide)
 obtain⟨z1,z2,z3⟩:=Zom hM bM hR bc
 obtain⟨M',hM',bM',d1,d2⟩:=Zpj hM bM z1 z2 (by decide)
 have cb:=Zzp (X:=X) bc
 have eX:rcR n R (ZcO X c) X=ZaQ c R n:=by unfold rcR ZcO;rw[if_pos rfl]
 have eO:∀t,t<n→t≠X→rcR n R (ZcO X c) t=R t:=fun t ht hx=>by
  unfold rcR ZcO
  rw[if_neg hx,Zyp ok (by omega) (by omega),Nat.add_sub_cancel]
 obtain⟨D,e1,e2,h⟩:=Zxf (b:=580) (K:=1300) (M:=M') (C:=ZcO X c) (by omega) (by omega) (by decide) (by decide) (by omega) hG bR ok cb hM' (bM'.mono (by decide)) (fun i j hi hj y e=>(show Bd 1200 y from Zzk (B:=1200) hG cb (by omega) i j hi hj y e).mono (by decide)) (fun t ht=>by
  by_cases q:t=X
  ·subst q
   rw[eX]
   exact⟨z1,d2,z3.mono (by omega)⟩
  ·rw[eO t ht q]
   exact(hR t ht).up d1 (by decide))
 exact⟨D,e1,e2,h.tf.due⟩
theorem Zyt(hG:GB 580 n G)(bc:∀i,i<n+1→Bd 140 (c i)): SBd (1161+n) ((grt n G fun i=>-(c i)).map fun y=>y * -1,grt n G c):=by
 have bc5:∀i,i<n+1→Bd 580 (c i):=fun i hi=>(bc i hi).mono (by decide)
 refine⟨fun x e=>?_,fun x e=>(Zht hG bc5 x e).mono (by omega)⟩
 obtain⟨y,hy,rfl⟩:=Zz1.mp e
 have:=(Zht hG (Zhs bc5) y hy).mono (show 580+580+n+1≤1161+n by omega)
 unfold Bd at *
 omega
theorem ZsU(hd:0<d)(hq:RestOk q): RestOk (rpI q d):=by
 unfold rpI
 split
 ·exact ZcP (by rw[Int.fdiv_eq_ediv_of_nonneg _ (by omega)];exact Int.ediv_nonneg hq.nn (by omega)) _
 ·exact .inr ⟨by decide,by decide,by decide⟩
theorem ZzV(hi:1≤i)(hd:0<d)(hq:RestOk q)(h1:Bd i q.1)(h2:Bd i q.2): Bd i (rpI q d).1∧Bd i (rpI q d).2:=by
 unfold rpI
 split
 ·exact Zig (by rw[Int.fdiv_eq_ediv_of_nonneg _ (by omega)];exact Int.ediv_nonneg hq.nn (by omega)) (Zhu hd h1) (Zhu hd h2)
 ·exact⟨Zej hi,ZcN⟩
theorem Zzq(hi:1≤i)(hd:0<d)(h1:Bd i q.1): Bd i (rpI q d).1:=by
 unfold rpI
 split
 ·rw[ZfL];exact Zhu hd h1
 ·exact Zej hi
theorem ZsV(hd:0<d): RestOk (rrI q d):=by
 unfold rrI
 split
 ·exact .inl rfl
 ·exact ZcP (by omega) _
theorem ZzW(hd:0<d)(bd:Bd 140 d): Bd 140 (rrI q d).1∧Bd 140 (rrI q d).2:=by
 unfold rrI
 have f0:=Int.fmod_nonneg_of_pos q.2 hd
 have f1:=Int.fmod_lt_of_pos q.2 hd
 split
 ·exact⟨ZcN,by show Bd 140 (q.2.fmod d);unfold Bd at *;omega⟩
 ·have g0:0<((Int.gcd q.1 d:Nat):Int):=by
   have:Int.gcd q.1 d≠0:=fun e=>by have:=Int.gcd_eq_zero_iff.mp e;omega
   omega
  have g1:((Int.gcd q.1 d:Nat):Int)≤d:=Int.le_of_dvd hd (Int.gcd_dvd_right ..)
  have m0:=Int.fmod_nonneg_of_pos q.2 g0
  have m1:=Int.fmod_lt_of_pos q.2 g0
  unfold ZaE
  rw[if_neg (by omega)]
  exact⟨by show Bd 140 ((Int.gcd q.1 d:Nat):Int);unfold Bd at *;omega,by show Bd 140 (q.2.fmod _);unfold Bd at *;omega⟩
end
section
variable {n X:Nat} {G:Nat→Nat→Option Int} {R:Nat→Int×Int} {c:Nat→Int} {d:Int} {s:Sp} {T1 D:T}
noncomputable def ZcV(n:Nat)(G:Nat→Nat→Option Int)(c:Nat→Int): Sp:=((grt n G fun i=>-(c i)).map fun y=>y * -1,grt n G c)
theorem ZuO(hn:n≤20)(hX:X<n)(h:Zd3 [ZO n G R,Zch n n (ZcO X c)]=some D): Zda [ZO n G R,.tup [.str (Str.ofString "set"),.int ((X:Int)+1),Zaa n c]]=some D:=by
 have hg:∀{Q:T→Prop},Q (.lst (tab n fun i=>ZZ (R i)))→Pk (Zq (ZO n G R) (.int 1)) Q:=fun h=>⟨_,rfl,h⟩
 have hb:=ZuM (m:=n) (n:=n) (by omega) (by omega)
 have hl:Ze7 [Zch n n fun t=>unC (t+1),.int ((X:Int)+1),Zaa n c]=some (Zch n n (ZcO X c)):=by
  show Ze7 [.lst (tab n fun t=>Zaa n (unC (t+1))),_,_]=_
  rw[Zxg hX (by omega),ZrH]
 generalize ZO n G R=T1 at *
 apply Pk.eq
 unfold Zda Zha
 walk_at "z"
 refine ZcM (by decide +kernel) ?_
 walk_at "z"
 refine hg ?_
 walk_at "z"
 refine ZF hb ?_
 walk_at "z"
 refine ZF hl ?_
 walk_at "z"
 exact ZF h rfl
theorem ZuP(h:Zea [T1,.int ((X:Int)+1),spT s,ZZ (1,0)]=some D): Zda [T1,.tup [.str (Str.ofString "any"),.int ((X:Int)+1),oT s.1,oT s.2]]=some D:=by
 have e1:spT s=.tup [oT s.1,oT s.2]:=rfl
 have e2:ZZ ((1:Int),(0:Int))=.tup [.int 1,.int 0]:=rfl
 rw[e1,e2]at h
 apply Pk.eq
 unfold Zda Zha
 walk_at "z"
 refine ZaB (by decide +kernel) ?_
 walk_at "z"
 refine ZcM (by decide +kernel) ?_
 walk_at "z"
 exact ZF h rfl
theorem Zqs{w:Str}(hw:w=Str.ofString "part"∨w=Str.ofString "rest")(hl:Zgd [ZO n G R,Zaa n c]=some (oT ((grt n G fun i=>-(c i)).map fun y=>y * -1)))(hg:ZdY [ZO n G R,Zaa n c]=some (oT (grt n G c)))(hr:ZdI [Zaa n c,.lst (tab n fun j=>ZZ (R j))]=some (ZZ (ZaQ c R n))){s':Sp}{q':Int×Int}(h1:(w=Str.ofString "part"→Zfr [spT (ZcV n G c),.int d]=some (spT s')∧ZgG [ZZ (ZaQ c R n),.int d]=some (ZZ q'))∧(w=Str.ofString "rest"→Zgz [spT (ZcV n G c),.int d]=some (spT s')∧ZgF [ZZ (ZaQ c R n),.int d]=some (ZZ q')))(h:Zea [ZO n G R,.int ((X:Int)+1),spT s',ZZ q']=some D): Zda [ZO n G R,.tup [.str w,.int ((X:Int)+1),Zaa n c,.int d]]=some D:=by
 have hi:∀{Q:T→Prop},Q (.lst (tab n fun i=>ZZ (R i)))→Pk (Zq (ZO n G R) (.int 1)) Q:=fun h=>⟨_,rfl,h⟩
 have es:spT (ZcV n G c)=.tup [oT ((grt n G fun i=>-(c i)).map fun y=>y * -1),oT (grt n G c)]:=rfl
 rw[es]at h1
 generalize ZO n G R=T1 at *
 generalize ZZ (ZaQ c R n)=P0 at *
 apply Pk.eq
 unfold Zda Zha
 rcases hw with rfl | rfl
 ·obtain⟨a,b⟩:=h1.1 rfl
  walk_at "z"
  refine ZaB (by decide +kernel) ?_
  walk_at "z"
  refine ZaB (by decide +kernel) ?_
  walk_at "z"
  refine ZF hl ?_
  walk_at "z"
  refine ZF hg ?_
  walk_at "z"
  refine hi ?_
  walk_at "z"
  refine ZF hr ?_
  walk_at "z"
  refine ZcM (by decide +kernel) ?_
  walk_at "z"
  refine ZF a ?_
  walk_at "z"
  refine ZF b ?_
  walk_at "z"
  exact ZF h rfl
 ·obtain⟨a,b⟩:=h1.2 rfl
  walk_at "z"
  refine ZaB (by decide +kernel) ?_
  walk_at "z"
  refine ZaB (by decide +kernel) ?_
  walk_at "z"
  refine ZF hl ?_
  walk_at "z"
  refine ZF hg ?_
  walk_at "z"
  refine hi ?_
  walk_at "z"
  refine ZF hr ?_
  walk_at "z"
  refine ZaB (by decide +kernel) ?_
  walk_at "z"
  refine ZF a ?_
  walk_at "z"
  refine ZF b ?_
  walk_at "z"
  exact ZF h rfl
theorem ZsM(hd:0<d)(hq:RestOk q)(h:q.1.fmod d=0): ZaE (q.1.fdiv d) (q.2.fdiv d)=(q.1.fdiv d,q.2.fdiv d):=by
 rw[Int.fmod_eq_emod_of_nonneg _ (by omega)]at h
 rw[Int.fdiv_eq_ediv_of_nonneg _ (by omega),Int.fdiv_eq_ediv_of_nonneg _ (by omega)]
 unfold ZaE
 rcases hq with z | ⟨z1,z2,z3⟩
 ·rw[z];simp
 ·obtain⟨k,hk⟩:=Int.dvd_of_emod_eq_zero h
  have e1:q.1 / d=k:=by rw[hk];exact Int.mul_ediv_cancel_left k (by omega)
  have k0:0<k:=by
   rcases Int.lt_or_le 0 k with h | h
   ·exact h
   ·have:=Int.mul_le_mul_of_nonneg_left h (show 0≤d by omega)
    rw[←hk]at this;omega
  rw[e1,if_neg (by omega)]
  have r0:0≤q.2 / d:=Int.ediv_nonneg z2 (by omega)
  have r1:q.2 / d<k:=Int.ediv_lt_of_lt_mul hd (by rw[Int.mul_comm,←hk];exact z3)
  rw[Int.fmod_eq_emod_of_nonneg _ (by omega),Int.emod_eq_of_lt r0 r1]
theorem Zzr(hd:0<d): ZaE (((Int.gcd q.1 d:Nat):Int).fmod d) (q.2.fmod (Int.gcd q.1 d))=rrI q d:=by
 have g0:0<((Int.gcd q.1 d:Nat):Int):=by
  have:Int.gcd q.1 d≠0:=fun e=>by have:=Int.gcd_eq_zero_iff.mp e;omega
  omega
 have g1:((Int.gcd q.1 d:Nat):Int)≤d:=Int.le_of_dvd hd (Int.gcd_dvd_right ..)
 unfold rrI
 generalize ((Int.gcd q.1 d:Nat):Int)=g at *
 by_cases c:g=d
 ·subst c
  rw[if_pos rfl,Int.fmod_self]
  rfl
 ·rw[if_neg c]
  have:g.fmod d=g:=by rw[Int.fmod_eq_emod_of_nonneg _ (by omega)];exact Int.emod_eq_of_lt (by omega) (by omega)
  rw[this]
  unfold ZaE
  rw[if_neg (by omega),if_neg (by omega)]
  have m0:=Int.fmod_nonneg_of_pos q.2 g0
  have m1:=Int.fmod_lt_of_pos q.2 g0
  congr 1
  rw[Int.fmod_eq_emod_of_nonneg (q.2.fmod g) (by omega)]
  exact Int.emod_eq_of_lt m0 m1
end
section
variable {n X:Nat} {G:Nat→Nat→Option Int} {R:Nat→Int×Int} {c:Nat→Int} {d:Int} {D:T}
theorem Zun(hn:n≤60)(hd:0<d)(bd:Bd 140 d)(hgl:ZdG [ZO n G R,Zaa n fun i=>-(c i)]=some (oT (grt n G fun i=>-(c i))))(hgh:ZdG [ZO n G R,Zaa n c]=some (oT (grt n G c)))(hr:ZeO [Zaa n c,.lst (tab n fun j=>ZZ (R j))]=some (ZZ (ZaQ c R n)))(ok:RestOk (ZaQ c R n))(h:Zds [ZO n G R,.int ((X:Int)+1),spT ((ZcV n G c).1.map fun x=>x.fdiv d,(ZcV n G c).2.map fun x=>x.fdiv d),ZZ (rpI (ZaQ c R n) d)]=some D): Zem [ZO n G R,.tup [.str (Str.ofString "part"),.int ((X:Int)+1),Zaa n c,.int d]]=some D:=by
 have hi:∀{Q:T→Prop},Q (.lst (tab n fun i=>ZZ (R i)))→Pk (Zq (ZO n G R) (.int 1)) Q:=fun h=>⟨_,rfl,h⟩
 have hz:d≠0:=by omega
 have hc:∀{σ:TL},σ 1=some (.tup [.str (Str.ofString "part"),.int ((X:Int)+1),Zaa n c,.int d])→Pk (Zan (ZaI (Zg Zq (Za 1) (Zj 2))) (Zae 100) Zai (pUn ZbB (Za 100)) σ) fun t=>t=Zaa n fun i=>-(c i):=fun e=>by
  unfold Zaa at e
  refine ZbM (n:=n+1) (a:=fun t=>.int (c t)) (b:=fun t=>.int (-(c t))) (by omega) ?_ (fun t ht=>?_) rfl
  ·walk_at "z"
   rfl
  ·walk_at "z"
   rfl
 have e1:spT ((ZcV n G c).1.map fun x=>x.fdiv d,(ZcV n G c).2.map fun x=>x.fdiv d)=.tup [oT (((grt n G fun i=>-(c i)).map fun y=>y * -1).map fun x=>x.fdiv d),oT ((grt n G c).map fun x=>x.fdiv d)]:=rfl
 rw[e1]at h
 have l2:∀{Q:T→Prop},Q (oT ((grt n G c).map fun x=>x.fdiv d))→Pk (Zeo [oT (grt n G c),.int d]) Q:=fun h=>ZF (Zlh (a:=grt n G c) (i:=140) (by decide) hz bd) h
 generalize ZO n G R=T1 at *
 generalize ZaQ c R n=q at *
 generalize grt n G c=g2 at *
 generalize (grt n G fun i=>-(c i))=g1 at *
 have eq:ZZ q=.tup [.int q.1,.int q.2]:=rfl
 rw[eq]at hr
 unfold rpI at h
 apply Pk.eq
 unfold Zem Zh9
 cases g1 with
 | none=>
  rw[Zbx]at hgl
  have l1:∀{Q:T→Prop},Q .none→Pk (Zeo [.none,.int d]) Q:=fun h=>ZF (Zlh (a:=none) (i:=140) (by decide) hz bd) h
  by_cases cc:q.1.fmod d=0
  ·rw[if_pos cc,ZsM hd ok cc]at h
   have e3:ZZ (q.1.fdiv d,q.2.fdiv d)=.tup [.int (q.1.fdiv d),.int (q.2.fdiv d)]:=rfl
   rw[e3]at h
   walk_at "z"
   refine(hc (by walk_at "r")).mono ?_
   intro t0 et0
   rw[et0]
   clear et0 t0
   walk_at "z"
   refine ZF hgl ?_
   walk_at "z"
   refine ZF hgh ?_
   walk_at "z"
   refine hi ?_
   walk_at "z"
   refine ZF hr ?_
   walk_at "z"
   refine ZcM (by decide +kernel) ?_
   walk_at "z"
   refine ZbO hz (Zcg bd (by decide)) ?_
   walk_at "z"
   refine ZbO hz (Zcg bd (by decide)) ?_
   walk_at "z"
   refine l1 ?_
   walk_at "z"
   refine l2 ?_
   walk_at "z"
   exact ZF h rfl
  ·rw[if_neg cc]at h
   have e3:ZZ ((1:Int),(0:Int))=.tup [.int 1,.int 0]:=rfl
   rw[e3]at h
   walk_at "z"
   refine(hc (by walk_at "r")).mono ?_
   intro t0 et0
   rw[et0]
   clear et0 t0
   walk_at "z"
   refine ZF hgl ?_
   walk_at "z"
   refine ZF hgh ?_
   walk_at "z"
   refine hi ?_
   walk_at "z"
   refine ZF hr ?_
   walk_at "z"
   refine ZcM (by decide +kernel) ?_
   have c2:decide (q.1.fmod d=0)=false:=decide_eq_false cc
   clear cc
   iterate 12 walk_at "1"
   refine ZoR hz ?_
   iterate 3 walk_at "1"
   refine ZoQ c2 ?_
   clear c2
   walk_at "z"
   refine l1 ?_
   walk_at "z"
   refine l2 ?_
   walk_at "z"
   exact ZF h rfl
 | some y=>
  rw[ZaH]at hgl
  have l1:∀{Q:T→Prop},Q (.int ((-y).fdiv d))→Pk (Zeo [.int (-y),.int d]) Q:=fun h=>ZF (Zlh (a:=some (-y)) (i:=140) (by decide) hz bd) h
  have e4:oT (((some y).map fun y=>y * -1).map fun x=>x.fdiv d)=.int ((-y).fdiv d):=by
   show T.int ((y * -1).fdiv d)=_
   rw[show y * -1 = -y by omega]
  rw[e4]at h
  by_cases cc:q.1.fmod d=0
  ·rw[if_pos cc,ZsM hd ok cc]at h
   have e3:ZZ (q.1.fdiv d,q.2.fdiv d)=.tup [.int (q.1.fdiv d),.int (q.2.fdiv d)]:=rfl
   rw[e3]at h
   walk_at "z"
   refine(hc (by walk_at "r")).mono ?_
   intro t0 et0
   rw[et0]
   clear et0 t0
   walk_at "z"
   refine ZF hgl ?_
   walk_at "z"
   refine ZF hgh ?_
   walk_at "z"
   refine hi ?_
   walk_at "z"
   refine ZF hr ?_
   walk_at "z"
   refine ZcM (by decide +kernel) ?_
   walk_at "z"
   refine ZbO hz (Zcg bd (by decide)) ?_
   walk_at "z"
   refine ZbO hz (Zcg bd (by decide)) ?_
   walk_at "z"
   refine l1 ?_
   walk_at "z"
   refine l2 ?_
   walk_at "z"
   exact ZF h rfl
  ·rw[if_neg cc]at h
   have e3:ZZ ((1:Int),(0:Int))=.tup [.int 1,.int 0]:=rfl
   rw[e3]at h
   walk_at "z"
   refine(hc (by walk_at "r")).mono ?_
   intro t0 et0
   rw[et0]
   clear et0 t0
   walk_at "z"
   refine ZF hgl ?_
   walk_at "z"
   refine ZF hgh ?_
   walk_at "z"
   refine hi ?_
   walk_at "z"
   refine ZF hr ?_
   walk_at "z"
   refine ZcM (by decide +kernel) ?_
   have c2:decide (q.1.fmod d=0)=false:=decide_eq_false cc
   clear cc
   iterate 12 walk_at "1"
   refine ZoR hz ?_
   iterate 3 walk_at "1"
   refine ZoQ c2 ?_
   clear c2
   walk_at "z"
   refine l1 ?_
   walk_at "z"
   refine l2 ?_
   walk_at "z"
   exact ZF h rfl
theorem Zuo(hn:n≤60)(hd:0<d)(bd:Bd 140 d)(hgl:ZdG [ZO n G R,Zaa n fun i=>-(c i)]=some (oT (grt n G fun i=>-(c i))))(hgh:ZdG [ZO n G R,Zaa n c]=some (oT (grt n G c)))(hr:ZeO [Zaa n c,.lst (tab n fun j=>ZZ (R j))]=some (ZZ (ZaQ c R n)))(bq:Bd 200000 (ZaQ c R n).1)(h:Zds [ZO n G R,.int ((X:Int)+1),spT (srI (ZcV n G c) d),ZZ (rrI (ZaQ c R n) d)]=some D): Zem [ZO n G R,.tup [.str (Str.ofString "rest"),.int ((X:Int)+1),Zaa n c,.int d]]=some D:=by
 have hi:∀{Q:T→Prop},Q (.lst (tab n fun i=>ZZ (R i)))→Pk (Zq (ZO n G R) (.int 1)) Q:=fun h=>⟨_,rfl,h⟩
 have hz:d≠0:=by omega
 have hc:∀{σ:TL},σ 1=some (.tup [.str (Str.ofString "rest"),.int ((X:Int)+1),Zaa n c,.int d])→Pk (Zan (ZaI (Zg Zq (Za 1) (Zj 2))) (Zae 100) Zai (pUn ZbB (Za 100)) σ) fun t=>t=Zaa n fun i=>-(c i):=fun e=>by
  unfold Zaa at e
  refine ZbM (n:=n+1) (a:=fun t=>.int (c t)) (b:=fun t=>.int (-(c t))) (by omega) ?_ (fun t ht=>?_) rfl
  ·walk_at "z"
   rfl
  ·walk_at "z"
   rfl
 have hgc:=Zm7 (a:=(ZaQ c R n).1) (b:=d) bq (bd.mono (by decide))
 have g0:((Int.gcd (ZaQ c R n).1 d:Nat):Int)≠0:=by
  have:Int.gcd (ZaQ c R n).1 d≠0:=fun e=>by have:=Int.gcd_eq_zero_iff.mp e;omega
  omega
 have hro:=ZfK (m:=((Int.gcd (ZaQ c R n).1 d:Nat):Int).fmod d) (r:=(ZaQ c R n).2.fmod (Int.gcd (ZaQ c R n).1 d))
 rw[Zzr hd]at hro
 have es:ZcV n G c=((grt n G fun i=>-(c i)).map fun y=>y * -1,grt n G c):=rfl
 rw[es]at h
 generalize ZO n G R=T1 at *
 generalize ZaQ c R n=q at *
 generalize grt n G c=g2 at *
 generalize (grt n G fun i=>-(c i))=g1 at *
 have eq:ZZ q=.tup [.int q.1,.int q.2]:=rfl
 rw[eq]at hr
 have e0:spT (some 0,some (d-1))=.tup [.int 0,.int (d-1)]:=rfl
 apply Pk.eq
 unfold Zem Zh9
 cases g1 with
 | none=>
  rw[Zbx]at hgl
  have e5:srI ((none:Option Int).map fun y=>y * -1,g2) d=(some 0,some (d-1)):=rfl
  rw[e5,e0]at h
  walk_at "z"
  refine(hc (by walk_at "r")).mono ?_
  intro t0 et0
  rw[et0]
  clear et0 t0
  walk_at "z"
  refine ZF hgl ?_
  walk_at "z"
  refine ZF hgh ?_
  walk_at "z"
  refine hi ?_
  walk_at "z"
  refine ZF hr ?_
  walk_at "z"
  refine ZaB (by decide +kernel) ?_
  walk_at "z"
  refine ZF hgc ?_
  walk_at "z"
  refine ZF hro ?_
  walk_at "z"
  exact ZF h rfl
 | some y=>
  rw[ZaH]at hgl
  cases g2 with
  | none=>
   rw[Zbx]at hgh
   have e5:srI ((some y).map fun y=>y * -1,(none:Option Int)) d=(some 0,some (d-1)):=rfl
   rw[e5,e0]at h
   walk_at "z"
   refine(hc (by walk_at "r")).mono ?_
   intro t0 et0
   rw[et0]
   clear et0 t0
   walk_at "z"
   refine ZF hgl ?_
   walk_at "z"
   refine ZF hgh ?_
   walk_at "z"
   refine hi ?_
   walk_at "z"
   refine ZF hr ?_
   walk_at "z"
   refine ZaB (by decide +kernel) ?_
   walk_at "z"
   refine ZF hgc ?_
   walk_at "z"
   refine ZF hro ?_
   walk_at "z"
   exact ZF h rfl
  | some z=>
   rw[ZaH]at hgh
   have e5:srI ((some y).map fun y=>y * -1,some z) d=if(-y).fdiv d=z.fdiv d then(some ((-y).fmod d),some (z.fmod d))else(some 0,some (d-1)):=by
    show(if(y * -1).fdiv d=z.fdiv d then(some ((y * -1).fmod d),some (z.fmod d))else _)=_
    rw[show y * -1 = -y by omega]
   rw[e5]at h
   by_cases cc:(-y).fdiv d=z.fdiv d
   ·rw[if_pos cc]at h
    have e6:spT (some ((-y).fmod d),some (z.fmod d))=.tup [.int ((-y).fmod d),.int (z.fmod d)]:=rfl
    rw[e6]at h
    walk_at "z"
    refine(hc (by walk_at "r")).mono ?_
    intro t0 et0
    rw[et0]
    clear et0 t0
    walk_at "z"
    refine ZF hgl ?_
    walk_at "z"
    refine ZF hgh ?_
    walk_at "z"
    refine hi ?_
    walk_at "z"
    refine ZF hr ?_
    walk_at "z"
    refine ZaB (by decide +kernel) ?_
    walk_at "z"
    refine ZF hgc ?_
    walk_at "z"
    refine ZF hro ?_
    walk_at "z"
    refine ZbO hz (Zcg bd (by decide)) ?_
    walk_at "z"
    refine ZbO hz (Zcg bd (by decide)) ?_
    walk_at "z"
    exact ZF h rfl
   ·rw[if_neg cc,e0]at h
    walk_at "z"
    refine(hc (by walk_at "r")).mono ?_
    intro t0 et0
    rw[et0]
    clear et0 t0
    walk_at "z"
    refine ZF hgl ?_
    walk_at "z"
    refine ZF hgh ?_
    walk_at "z"
    refine hi ?_
    walk_at "z"
    refine ZF hr ?_
    walk_at "z"
    refine ZaB (by decide +kernel) ?_
    walk_at "z"
    refine ZF hgc ?_
    walk_at "z"
    refine ZF hro ?_
    walk_at "z"
    refine ZbO hz (Zcg bd (by decide)) ?_
    walk_at "z"
    refine ZbO hz (Zcg bd (by decide)) ?_
    walk_at "z"
    exact ZF h rfl
end
theorem Zyu{a:T}(ha:Pln n a)(hb:Pln m (.tup ts))(hn:n≤8:=by decide)(hm:m≤8:=by decide): Zfo a (.tup ts)=some (dec (a∈ts)):=by
 have ha:=ha.mono hn
 have hb:=hb.mono hm
 obtain⟨a1,a2,a3⟩:=ha.dat
 obtain⟨b1,b2,b3⟩:=hb.dat
 unfold Zfo ZbS
 rw[a1,b1]
 simp only[Option.bind_some,dd,inD]
 simp only[dd,PyData.canLay0]at b2
 rw[if_pos ⟨b2,a2,by omega⟩,ZoU]
 intro t m
 cases hb with
 | tup hs=>exact(hs t m).eqv ha
section
variable {n X:Nat} {c x:Nat→Int} {d p v:Int} {s:Sp} {A:T}
end
theorem Zgm{a b c:Str}(hok:(PyData.strOk a && PyData.strOk b && PyData.strOk c)=true){r:Bool}(hr:decide (a=b∨a=c)=r)(h:Q (.bool r)): Pk (qIn (.str a) (.tup [.str b,.str c])) Q:=by
 simp only[Bool.and_eq_true]at hok
 obtain⟨⟨ha,hb⟩,hc⟩:=hok
 refine⟨.bool r,?_,h⟩
 have hp:Pln 1 (.tup [.str b,.str c]):=.tup fun t m=>by
  simp at m
  rcases m with rfl | rfl
  ·exact .str hb
  ·exact .str hc
 simp only[qIn,Zyu (.str ha:Pln 1 (.str a)) hp,Option.map_some]
 congr 2
 rw[←hr]
 exact Zjr (by rw[decide_eq_true_eq];simp)
section
variable {n X:Nat} {G:Nat→Nat→Option Int} {R:Nat→Int×Int} {c:Nat→Int} {d:Int} {s:Sp} {T0 D A S0:T}
theorem Zp7(h:ZbE [T0]=some .none): ZbZ [T0,A,S0]=some .none:=by
 apply Pk.eq
 unfold ZbZ Zd0
 walk_at "z"
 refine ZF h ?_
 walk_at "z"
 rfl
theorem ZrI(h:Zcd [T0]=some .none): Zcl [T0,A]=some .none:=by
 apply Pk.eq
 unfold Zcl ZdT
 walk_at "z"
 refine ZF h ?_
 walk_at "z"
 rfl
theorem Zvx(h:ZbE [T0]=some (ZO n G R)): ZbZ [T0,.tup [.str (Str.ofString "go")],S0]=some (ZO n G R):=by
 have hne:∀{Q:T→Prop},Q (.bool false)→Pk (qIs (ZO n G R) .none) Q:=fun h=>⟨_,rfl,h⟩
 generalize ZO n G R=T1 at *
 apply Pk.eq
 unfold ZbZ Zd0
 walk_at "z"
 refine ZF h ?_
 walk_at "z"
 refine hne ?_
 walk_at "z"
 refine Zgm (by decide +kernel) (r:=true) (by decide +kernel) ?_
 walk_at "z"
 rfl
theorem Zxh(h:Zcd [T0]=some (ZO n G R)): Zcl [T0,.tup [.str (Str.ofString "go")]]=some (ZO n G R):=by
 have hne:∀{Q:T→Prop},Q (.bool false)→Pk (qIs (ZO n G R) .none) Q:=fun h=>⟨_,rfl,h⟩
 generalize ZO n G R=T1 at *
 apply Pk.eq
 unfold Zcl ZdT
 walk_at "z"
 refine ZF h ?_
 walk_at "z"
 refine hne ?_
 walk_at "z"
 refine ZaB (by decide +kernel) ?_
 walk_at "z"
 refine ZaB (by decide +kernel) ?_
 walk_at "z"
 refine ZaB (by decide +kernel) ?_
 walk_at "z"
 refine ZaB (by decide +kernel) ?_
 walk_at "z"
 rfl
theorem ZuQ(h:ZbE [T0]=some (ZO n G R)): ZbZ [T0,.tup [.str (Str.ofString "say"),A],S0]=some (ZO n G R):=by
 have hne:∀{Q:T→Prop},Q (.bool false)→Pk (qIs (ZO n G R) .none) Q:=fun h=>⟨_,rfl,h⟩
 generalize ZO n G R=T1 at *
 apply Pk.eq
 unfold ZbZ Zd0
 walk_at "z"
 refine ZF h ?_
 walk_at "z"
 refine hne ?_
 walk_at "z"
 refine Zgm (by decide +kernel) (r:=true) (by decide +kernel) ?_
 walk_at "z"
 rfl
theorem Zwn(h:Zcd [T0]=some (ZO n G R)): Zcl [T0,.tup [.str (Str.ofString "say"),A]]=some (ZO n G R):=by
 have hne:∀{Q:T→Prop},Q (.bool false)→Pk (qIs (ZO n G R) .none) Q:=fun h=>⟨_,rfl,h⟩
 generalize ZO n G R=T1 at *
 apply Pk.eq
 unfold Zcl ZdT
 walk_at "z"
 refine ZF h ?_
 walk_at "z"
 refine hne ?_
 walk_at "z"
 refine ZaB (by decide +kernel) ?_
 walk_at "z"
 refine ZaB (by decide +kernel) ?_
 walk_at "z"
 refine ZaB (by decide +kernel) ?_
 walk_at "z"
 refine ZaB (by decide +kernel) ?_
 walk_at "z"
 rfl
theorem ZuR(h:ZbE [T0]=some (ZO n G R))(hl:Zda [ZO n G R,.tup [.str (Str.ofString "set"),.int ((X:Int)+1),Zaa n c]]=some D): ZbZ [T0,.tup [.str (Str.ofString "set"),.int ((X:Int)+1),Zaa n c],S0]=some D:=by
 have hne:∀{Q:T→Prop},Q (.bool false)→Pk (qIs (ZO n G R) .none) Q:=fun h=>⟨_,rfl,h⟩
 generalize ZO n G R=T1 at *
 apply Pk.eq
 unfold ZbZ Zd0
 walk_at "z"
 refine ZF h ?_
 walk_at "z"
 refine hne ?_
 walk_at "z"
 refine Zgm (by decide +kernel) (r:=false) (by decide +kernel) ?_
 walk_at "z"
 refine ZaB (by decide +kernel) ?_
 walk_at "z"
 refine ZaB (by decide +kernel) ?_
 walk_at "z"
 exact ZF hl rfl
theorem Zwo(hn:n≤20)(hX:X<n)(h:Zcd [T0]=some (ZO n G R))(hl:ZeP [ZO n G R,Zch n n (ZcO X c)]=some D): Zcl [T0,.tup [.str (Str.ofString "set"),.int ((X:Int)+1),Zaa n c]]=some D:=by
 have hg:∀{Q:T→Prop},Q (.lst (tab n fun i=>ZZ (R i)))→Pk (Zq (ZO n G R) (.int 1)) Q:=fun h=>⟨_,rfl,h⟩
 have hne:∀{Q:T→Prop},Q (.bool false)→Pk (qIs (ZO n G R) .none) Q:=fun h=>⟨_,rfl,h⟩
 have o1:=ZuN (m:=n) (by omega)
 have e1:Zch n n (fun t=>unC (t+1))=.lst (tab n fun t=>Zaa n (unC (t+1))):=rfl
 rw[e1]at o1
 have fin:T.lst ((tab n fun t=>Zaa n (unC (t+1))).set X (Zaa n c))=Zch n n (ZcO X c):=by rw[Zew,ZrH]
 generalize ZO n G R=T1 at *
 apply Pk.eq
 unfold Zcl ZdT
 walk_at "z"
 refine ZF h ?_
 walk_at "z"
 refine hne ?_
 walk_at "z"
 refine ZcM (by decide +kernel) ?_
 walk_at "z"
 refine ZvX ?_
 walk_at "z"
 refine hg ?_
 walk_at "z"
 refine ZF o1 ?_
 refine⟨_,rfl,?_⟩
 walk_at "z"
 refine⟨_,rfl,by omega,by rw[Zay];omega,?_⟩
 rw[show((X:Int)+1-1).toNat=X by omega,fin]
 walk_at "z"
 exact ZF hl rfl
theorem ZuS(h:ZbE [T0]=some (ZO n G R))(hl:Zda [ZO n G R,.tup [.str (Str.ofString "any"),.int ((X:Int)+1),oT s.1,oT s.2]]=some D): ZbZ [T0,.tup [.str (Str.ofString "any"),.int ((X:Int)+1),oT s.1,oT s.2],S0]=some D:=by
 have hne:∀{Q:T→Prop},Q (.bool false)→Pk (qIs (ZO n G R) .none) Q:=fun h=>⟨_,rfl,h⟩
 generalize ZO n G R=T1 at *
 apply Pk.eq
 unfold ZbZ Zd0
 walk_at "z"
 refine ZF h ?_
 walk_at "z"
 refine hne ?_
 walk_at "z"
 refine Zgm (by decide +kernel) (r:=false) (by decide +kernel) ?_
 walk_at "z"
 refine ZaB (by decide +kernel) ?_
 walk_at "z"
 refine ZaB (by decide +kernel) ?_
 walk_at "z"
 exact ZF hl rfl
theorem Zwp(h:Zcd [T0]=some (ZO n G R))(hl:Zds [ZO n G R,.int ((X:Int)+1),spT s,ZZ (1,0)]=some D): Zcl [T0,.tup [.str (Str.ofString "any"),.int ((X:Int)+1),oT s.1,oT s.2]]=some D:=by
 have hne:∀{Q:T→Prop},Q (.bool false)→Pk (qIs (ZO n G R) .none) Q:=fun h=>⟨_,rfl,h⟩
 have e1:spT s=.tup [oT s.1,oT s.2]:=rfl
 have e2:ZZ ((1:Int),(0:Int))=.tup [.int 1,.int 0]:=rfl
 rw[e1,e2]at hl
 generalize ZO n G R=T1 at *
 apply Pk.eq
 unfold Zcl ZdT
 walk_at "z"
 refine ZF h ?_
 walk_at "z"
 refine hne ?_
 walk_at "z"
 refine ZaB (by decide +kernel) ?_
 walk_at "z"
 refine ZaB (by decide +kernel) ?_
 walk_at "z"
 refine ZaB (by decide +kernel) ?_
 walk_at "z"
 refine ZcM (by decide +kernel) ?_
 walk_at "z"
 exact ZF hl rfl
theorem Zup(h:ZbE [T0]=some (ZO n G R))(hl:Zda [ZO n G R,.tup [.str (Str.ofString "part"),.int ((X:Int)+1),Zaa n c,.int d]]=some D): ZbZ [T0,.tup [.str (Str.ofString "part"),.int ((X:Int)+1),Zaa n c,.int d],S0]=some D:=by
 have hne:∀{Q:T→Prop},Q (.bool false)→Pk (qIs (ZO n G R) .none) Q:=fun h=>⟨_,rfl,h⟩
 generalize ZO n G R=T1 at *
 apply Pk.eq
 unfold ZbZ Zd0
 walk_at "z"
 refine ZF h ?_
 walk_at "z"
 refine hne ?_
 walk_at "z"
 refine Zgm (by decide +kernel) (r:=false) (by decide +kernel) ?_
 walk_at "z"
 refine ZaB (by decide +kernel) ?_
 walk_at "z"
 refine ZaB (by decide +kernel) ?_
 walk_at "z"
 exact ZF hl rfl
theorem Zvy(h:Zcd [T0]=some (ZO n G R))(hl:Zem [ZO n G R,.tup [.str (Str.ofString "part"),.int ((X:Int)+1),Zaa n c,.int d]]=some D): Zcl [T0,.tup [.str (Str.ofString "part"),.int ((X:Int)+1),Zaa n c,.int d]]=some D:=by
 have hne:∀{Q:T→Prop},Q (.bool false)→Pk (qIs (ZO n G R) .none) Q:=fun h=>⟨_,rfl,h⟩
 generalize ZO n G R=T1 at *
 apply Pk.eq
 unfold Zcl ZdT
 walk_at "z"
 refine ZF h ?_
 walk_at "z"
 refine hne ?_
 walk_at "z"
 refine ZaB (by decide +kernel) ?_
 walk_at "z"
 refine ZcM (by decide +kernel) ?_
 walk_at "z"
 exact ZF hl rfl
theorem Zuq(h:ZbE [T0]=some (ZO n G R))(hl:Zda [ZO n G R,.tup [.str (Str.ofString "rest"),.int ((X:Int)+1),Zaa n c,.int d]]=some D): ZbZ [T0,.tup [.str (Str.ofString "rest"),.int ((X:Int)+1),Zaa n c,.int d],S0]=some D:=by
 have hne:∀{Q:T→Prop},Q (.bool false)→Pk (qIs (ZO n G R) .none) Q:=fun h=>⟨_,rfl,h⟩
 generalize ZO n G R=T1 at *
 apply Pk.eq
 unfold ZbZ Zd0
 walk_at "z"
 refine ZF h ?_
 walk_at "z"
 refine hne ?_
 walk_at "z"
 refine Zgm (by decide +kernel) (r:=false) (by decide +kernel) ?_
 walk_at "z"
 refine ZaB (by decide +kernel) ?_
 walk_at "z"
 refine ZaB (by decide +kernel) ?_
 walk_at "z"
 exact ZF hl rfl
theorem Zvz(h:Zcd [T0]=some (ZO n G R))(hl:Zem [ZO n G R,.tup [.str (Str.ofString "rest"),.int ((X:Int)+1),Zaa n c,.int d]]=some D): Zcl [T0,.tup [.str (Str.ofString "rest"),.int ((X:Int)+1),Zaa n c,.int d]]=some D:=by
 have hne:∀{Q:T→Prop},Q (.bool false)→Pk (qIs (ZO n G R) .none) Q:=fun h=>⟨_,rfl,h⟩
 generalize ZO n G R=T1 at *
 apply Pk.eq
 unfold Zcl ZdT
 walk_at "z"
 refine ZF h ?_
 walk_at "z"
 refine hne ?_
 walk_at "z"
 refine ZaB (by decide +kernel) ?_
 walk_at "z"
 refine ZaB (by decide +kernel) ?_
 walk_at "z"
 refine ZcM (by decide +kernel) ?_
 walk_at "z"
 exact ZF hl rfl
end
inductive ActOk(n:Nat): T→Prop where
 | go:ActOk n (.tup [.str (Str.ofString "go")])
 | say {c:Nat→Int} {d:Int}:ActOk n (.tup [.str (Str.ofString "say"),evT n c d])
 | set {X:Nat} {c:Nat→Int}:X<n→(∀i,i<n+1→Bd 140 (c i))→ActOk n (.tup [.str (Str.ofString "set"),.int ((X:Int)+1),Zaa n c])
 | any {X:Nat} {s:Sp}:X<n→SBd 580 s→ActOk n (.tup [.str (Str.ofString "any"),.int ((X:Int)+1),oT s.1,oT s.2])
 | part {X:Nat} {c:Nat→Int} {d:Int}:X<n→(∀i,i<n+1→Bd 140 (c i))→0<d→Bd 140 d→ActOk n (.tup [.str (Str.ofString "part"),.int ((X:Int)+1),Zaa n c,.int d])
 | rest {X:Nat} {c:Nat→Int} {d:Int}:X<n→(∀i,i<n+1→Bd 140 (c i))→0<d→Bd 140 d→ActOk n (.tup [.str (Str.ofString "rest"),.int ((X:Int)+1),Zaa n c,.int d])
theorem Zxi{A S0:T}(hn:n≤4)(hd:∀i,i<n+1→G i i=some 0)(ok:∀t,t<n→RestOk (R t))(sG:SmG 137 n G)(sR:SmR 137 n R)(hA:ActOk n A): ∃D,ZbZ [ZO n G R,A,S0]=some D∧Zcl [ZO n G R,A]=some D∧DueOk n D:=by
 obtain⟨D1,p1,l1,M,hM,bM,h1⟩:=Zys hn hd ok sG sR
 rcases h1 with⟨rfl,no⟩ | ⟨G1,R1,rfl,d1,r1,g1,li1,in1⟩
 ·exact⟨.none,Zp7 p1,ZrI l1,.inl rfl⟩
 have du:DueOk n (ZO n G1 R1):=.inr ⟨G1,R1,rfl,d1,fun t ht=>(r1 t ht).1⟩
 have bR:∀t,t<n→RBd 580 (R1 t):=fun t ht=>(r1 t ht).bd2 hM bM (by decide)
 have ok1:∀t,t<n→RestOk (R1 t):=fun t ht=>(r1 t ht).1
 cases hA with
 | go=>exact⟨_,Zvx p1,Zxh l1,du⟩
 | say=>exact⟨_,ZuQ p1,Zwn l1,du⟩
 | set hX bc=>
  obtain⟨D,e1,e2,h⟩:=ZzU hn hX hM bM d1 g1 r1 bc
  exact⟨D,ZuR p1 (ZuO (by omega) hX e1),Zwo (by omega) hX l1 e2,h⟩
 | any hX bs=>
  obtain⟨D,e1,e2,h⟩:=Zo9 (b:=580) (k:=600) (q:=(1,0)) (by omega) hX (by decide) (by decide) (by omega) hM (bM.mono (by decide)) d1 g1 bs (fun t ht=>(r1 t ht).mono (by decide)) ⟨.inr ⟨by decide,by decide,by decide⟩,.inr (Int.one_dvd _),ZcN⟩
  exact⟨D,ZuS p1 (ZuP e1),Zwp l1 e2,h⟩
 | @part X c d hX bc hd0 bd=>
  have bc5:∀i,i<n+1→Bd 580 (c i):=fun i hi=>(bc i hi).mono (by decide)
  obtain⟨z1,z2,z3⟩:=Zom hM bM r1 bc
  have zb:=ZzV (d:=d) (i:=1200) (by decide) hd0 z1 (z2.mono (by decide)) (z3.mono (by omega))
  obtain⟨M',hM',bM',q1,q2⟩:=Zpj (j:=700) hM bM (ZsU hd0 z1) (Zzq (by decide) hd0 z2) (by decide)
  have sb:=Zyt (n:=n) g1 bc
  have sb2:SBd 1200 ((ZcV n G1 c).1.map fun x=>x.fdiv d,(ZcV n G1 c).2.map fun x=>x.fdiv d):=⟨fun x e=>by
   obtain⟨y,hy,rfl⟩:=Zz1.mp e
   exact Zhu hd0 ((sb.1 y hy).mono (by omega)),fun x e=>by
   obtain⟨y,hy,rfl⟩:=Zz1.mp e
   exact Zhu hd0 ((sb.2 y hy).mono (by omega))⟩
  obtain⟨D,e1,e2,h⟩:=Zo9 (b:=1200) (k:=1300) (M:=M') (q:=rpI (ZaQ c R1 n) d) (by omega) hX (by decide) (by decide) (by omega) hM' (bM'.mono (by decide)) d1 (fun i j hi hj y e=>(g1 i j hi hj y e).mono (by decide)) sb2 (fun t ht=>(r1 t ht).up q1 (by decide)) ⟨ZsU hd0 z1,q2,zb.2.mono (by decide)⟩
  have hl:=ZrA (n:=n) (b:=580) (R:=R1) (by omega) (by decide) (by decide) g1 bc5 (fun y e=>(Zht g1 (Zhs bc5) y e).mono (by omega))
  have hg:=Zip (n:=n) (b:=580) (R:=R1) (by omega) (by decide) (by decide) g1 bc5
  have hr:=ZlI (i:=580) (R:=R1) (by omega) (by decide) (by decide) bc5 bR ok1
  have sp:=Zpq (s:=ZcV n G1 c) (i:=140) (by decide) (show d≠0 by omega) bd
  have rp:=Ztz (q:=ZaQ c R1 n) (i:=140) (by decide) z1.nn hd0 bd
  refine⟨D,Zup p1 (Zqs (.inl rfl) hl hg hr ⟨fun _=>⟨sp,rp⟩,fun h=>absurd h (by decide +kernel)⟩ e1),Zvy l1 (Zun (by omega) hd0 bd (ZgA (b:=580) (by omega) (by decide) g1 (Zhs bc5)) (ZgA (b:=580) (by omega) (by decide) g1 bc5) (Zj5 (b:=580) (by omega) (by decide) bc5 bR ok1) z1 e2),h⟩
 | @rest X c d hX bc hd0 bd=>
  have bc5:∀i,i<n+1→Bd 580 (c i):=fun i hi=>(bc i hi).mono (by decide)
  obtain⟨z1,z2,z3⟩:=Zom hM bM r1 bc
  have zb:=ZzW (q:=ZaQ c R1 n) hd0 bd
  obtain⟨M',hM',bM',q1,q2⟩:=Zpj (j:=140) hM bM (ZsV (q:=ZaQ c R1 n) hd0) zb.1 (by decide)
  have sb2:SBd 580 (srI (ZcV n G1 c) d):=by
   have f:∀x:Int,Bd 580 (x.fmod d):=fun x=>by
    have f0:=Int.fmod_nonneg_of_pos x hd0
    have f1:=Int.fmod_lt_of_pos x hd0
    exact(show Bd 140 _ by unfold Bd at *;omega).mono (by decide)
   have g:Bd 580 (d-1):=(show Bd 140 _ by unfold Bd at *;omega).mono (by decide)
   unfold srI
   split
   ·split
    ·exact⟨fun x e=>by cases e;exact f _,fun x e=>by cases e;exact f _⟩
    ·exact⟨fun x e=>by cases e;exact ZcN,fun x e=>by cases e;exact g⟩
   ·exact⟨fun x e=>by cases e;exact ZcN,fun x e=>by cases e;exact g⟩
  obtain⟨D,e1,e2,h⟩:=Zo9 (b:=580) (k:=800) (M:=M') (q:=rrI (ZaQ c R1 n) d) (by omega) hX (by decide) (by decide) (by omega) hM' (bM'.mono (by decide)) d1 g1 sb2 (fun t ht=>(r1 t ht).up q1 (by decide)) ⟨ZsV hd0,q2,zb.2.mono (by decide)⟩
  have hl:=ZrA (n:=n) (b:=580) (R:=R1) (by omega) (by decide) (by decide) g1 bc5 (fun y e=>(Zht g1 (Zhs bc5) y e).mono (by omega))
  have hg:=Zip (n:=n) (b:=580) (R:=R1) (by omega) (by decide) (by decide) g1 bc5
  have hr:=ZlI (i:=580) (R:=R1) (by omega) (by decide) (by decide) bc5 bR ok1
  have sp:=ZsY (s:=ZcV n G1 c) (i:=140) (by decide) (show d≠0 by omega) bd
  have rp:=ZtA (q:=ZaQ c R1 n) hd0 (z2.mono (by decide)) (bd.mono (by decide))
  refine⟨D,Zuq p1 (Zqs (.inr rfl) hl hg hr ⟨fun h=>absurd h (by decide +kernel),fun _=>⟨sp,rp⟩⟩ e1),Zvz l1 (Zuo (by omega) hd0 bd (ZgA (b:=580) (by omega) (by decide) g1 (Zhs bc5)) (ZgA (b:=580) (by omega) (by decide) g1 bc5) (Zj5 (b:=580) (by omega) (by decide) bc5 bR ok1) (z2.mono (by decide)) e2),h⟩
theorem Zxj{d:Int}{s:Sp}{w:Str}(hX:X<n)(bc:∀i,i<n+1→Bd 140 (c i))(hd:0<d)(bd:Bd 140 d)(bs:SBd 580 s)(hw:w=Str.ofString "go"∨w=Str.ofString "say"∨w=Str.ofString "set"∨w=Str.ofString "part"∨w=Str.ofString "rest"∨w=Str.ofString "any")(e2:σ 2=some (.int ((X:Int)+1)))(e3:σ 3=some (Zaa n c))(e4:σ 4=some (.str w))(e5:σ 5=some (.int d))(e8:σ 8=some (spT s)): Psk ((Zt (ZT (ZG (Zg qEq (Za 4) (ZaN (Str.ofString "go")))) (ZD (Zak (Zd (ZaN (Str.ofString "go")) Zm))) ZX) (Zt (ZT (ZG (Zg qEq (Za 4) (ZaN (Str.ofString "say")))) (ZD (Zak (Zd (ZaN (Str.ofString "say")) (Zd (Zak (Zd (ZaN (Str.ofString "even")) (Zd (Za 3) (Zd (Za 5) Zm)))) Zm)))) ZX) (Zt (ZT (ZG (Zg qEq (Za 4) (ZaN (Str.ofString "set")))) (ZD (Zak (Zd (ZaN (Str.ofString "set")) (Zd (Za 2) (Zd (Za 3) Zm))))) ZX) (Zt (ZT (ZG (Zg qEq (Za 4) (ZaN (Str.ofString "any")))) (ZD (Zak (Zd (ZaN (Str.ofString "any")) (Zd (Za 2) (Zd (Zg Zq (Za 8) (Zj 0)) (Zd (Zg Zq (Za 8) (Zj 1)) Zm)))))) ZX) (ZD (Zak (Zd (Za 4) (Zd (Za 2) (Zd (Za 3) (Zd (Za 5) Zm)))))))))) σ) (fun t=>ActOk n t∧Pln 4 t) N:=by
 have p0:∀{k:Nat},Pln (k+1) (Zaa n c):=fun {k}=>pl_sum1.mono (by omega)
 have po:∀{k:Nat} {a:Option Int},Pln k (oT a):=fun {k a}=>by cases a;exact .none;exact .int
 have h0:∀{Q:T→Prop},Q (oT s.1)→Pk (Zq (spT s) (.int 0)) Q:=fun h=>⟨_,rfl,h⟩
 have h1:∀{Q:T→Prop},Q (oT s.2)→Pk (Zq (spT s) (.int 1)) Q:=fun h=>⟨_,rfl,h⟩
 rcases hw with rfl | rfl | rfl | rfl | rfl | rfl
 ·walk_at "z"
  refine ZcM (by decide +kernel) ?_
  walk_at "z"
  exact⟨.go,.tup fun t m=>by simp at m;rcases m with rfl;exact .str (by decide +kernel)⟩
 ·walk_at "z"
  refine ZaB (by decide +kernel) ?_
  walk_at "z"
  refine ZcM (by decide +kernel) ?_
  walk_at "z"
  refine⟨.say (c:=c) (d:=d),.tup fun t m=>?_⟩
  simp at m
  rcases m with rfl | rfl
  ·exact .str (by decide +kernel)
  ·exact .tup fun t m=>by
    simp at m
    rcases m with rfl | rfl | rfl
    ·exact .str (by decide +kernel)
    ·exact p0
    ·exact .int
 ·walk_at "z"
  refine ZaB (by decide +kernel) ?_
  walk_at "z"
  refine ZaB (by decide +kernel) ?_
  walk_at "z"
  refine ZcM (by decide +kernel) ?_
  walk_at "z"
  exact⟨.set hX bc,.tup fun t m=>by simp at m;rcases m with rfl | rfl | rfl;exact .str (by decide +kernel);exact .int;exact p0⟩
 ·walk_at "z"
  refine ZaB (by decide +kernel) ?_
  walk_at "z"
  refine ZaB (by decide +kernel) ?_
  walk_at "z"
  refine ZaB (by decide +kernel) ?_
  walk_at "z"
  refine ZaB (by decide +kernel) ?_
  walk_at "z"
  exact⟨.part hX bc hd bd,.tup fun t m=>by simp at m;rcases m with rfl | rfl | rfl | rfl;exact .str (by decide +kernel);exact .int;exact p0;exact .int⟩
 ·walk_at "z"
  refine ZaB (by decide +kernel) ?_
  walk_at "z"
  refine ZaB (by decide +kernel) ?_
  walk_at "z"
  refine ZaB (by decide +kernel) ?_
  walk_at "z"
  refine ZaB (by decide +kernel) ?_
  walk_at "z"
  exact⟨.rest hX bc hd bd,.tup fun t m=>by simp at m;rcases m with rfl | rfl | rfl | rfl;exact .str (by decide +kernel);exact .int;exact p0;exact .int⟩
 ·walk_at "z"
  refine ZaB (by decide +kernel) ?_
  walk_at "z"
  refine ZaB (by decide +kernel) ?_
  walk_at "z"
  refine ZaB (by decide +kernel) ?_
  walk_at "z"
  refine ZcM (by decide +kernel) ?_
  walk_at "z"
  refine h0 ?_
  walk_at "z"
  refine h1 ?_
  walk_at "z"
  exact⟨.any hX bs,.tup fun t m=>by simp at m;rcases m with rfl | rfl | rfl | rfl;exact .str (by decide +kernel);exact .int;exact po;exact po⟩
theorem Zzs(hL:Lay ns)(h0:0<n)(hn:n≤4): Pk (Ze0 [scr ns,.int n]) fun t=>ActOk n t∧Pln 4 t:=by
 unfold Ze0 ZnG
 obtain⟨x0,x1⟩:=ZcJ ns 5 (show(0:Int)<(n:Int)by omega)
 obtain⟨X,eX,hX⟩:=ZjE x0 (show Zbt ns 5 n<(n:Nat)by omega)
 walk_at "z"
 refine ZF (ZcK (by decide) (by decide) (by omega)) ?_
 rw[eX]
 refine Zju ?_
 rw[Int.add_comm 1 (X:Int)]
 walk_at "z"
 refine(ZzT (n:=n) (kk:=8) (by decide) (by decide) hL (by omega)).mono ?_
 rintro _ ⟨c,rfl,hc⟩
 have bc:=hc.bd (by decide)
 obtain⟨w0,w1⟩:=ZcJ ns 6 (show(0:Int)<7 by decide)
 obtain⟨w,ew,hw⟩:=ZjE w0 (show Zbt ns 6 7<(7:Nat)by omega)
 walk_at "z"
 refine ZF (ZcK (by decide) (by decide) (by decide)) ?_
 rw[ew]
 obtain⟨st,hst,hidx⟩:∃st:Str,(st=Str.ofString "go"∨st=Str.ofString "say"∨st=Str.ofString "set"∨st=Str.ofString "part"∨st=Str.ofString "rest"∨st=Str.ofString "any")∧[T.str (Str.ofString "go"),.str (Str.ofString "say"),.str (Str.ofString "set"),.str (Str.ofString "set"),.str (Str.ofString "part"),.str (Str.ofString "rest"),.str (Str.ofString "any")][w]?=some (.str st):=by
  match w,hw with
  | 0,_=>exact⟨_,.inl rfl,rfl⟩
  | 1,_=>exact⟨_,.inr (.inl rfl),rfl⟩
  | 2,_=>exact⟨_,.inr (.inr (.inl rfl)),rfl⟩
  | 3,_=>exact⟨_,.inr (.inr (.inl rfl)),rfl⟩
  | 4,_=>exact⟨_,.inr (.inr (.inr (.inl rfl))),rfl⟩
  | 5,_=>exact⟨_,.inr (.inr (.inr (.inr (.inl rfl)))),rfl⟩
  | 6,_=>exact⟨_,.inr (.inr (.inr (.inr (.inr rfl)))),rfl⟩
 refine Zga (t:=.str st) (by omega) (by rw[Int.toNat_natCast];exact hidx) ?_
 obtain⟨s0,s1⟩:=ZcJ ns 7 (show(0:Int)<6 by decide)
 have bn:=Zge ns 7
 walk_at "z"
 refine ZF (ZcK (by decide) (by decide) (by decide)) ?_
 refine Zju ?_
 refine Zcw (fun σ'=>σ' 0=some (scr ns)∧σ' 2=some (.int ((X:Int)+1))∧σ' 3=some (Zaa n c)∧σ' 4=some (.str st)∧∃d:Int,σ' 5=some (.int d)∧0<d∧Bd 140 d) ?_ ?_
 ·walk_at "z"
  refine ZF (ZcK (by decide) (by decide) (by decide)) ?_
  walk_at "z"
  refine⟨fun q=>?_,fun q=>?_⟩
  ·walk_at "z"
   refine ZF (ZfV hL (by omega) (by omega)) ?_
   walk_at "z"
   refine⟨by walk_at "r",by walk_at "r",by walk_at "r",by walk_at "r",_,ZbL,?_,?_⟩
   ·split <;> omega
   ·have b2:Bd 134 (Zca ns 7):=bn
    have b3:Bd 140 (Zca ns 7):=b2.mono (by decide)
    repeat' split
    all_goals (unfold Bd at *;omega)
  ·walk_at "z"
   exact⟨by walk_at "r",by walk_at "r",by walk_at "r",by walk_at "r",_,by walk_at "r",by omega,(show Bd 3 _ by unfold Bd;omega).mono (by decide)⟩
 rintro σ1 ⟨e0,e2,e3,e4,d,e5,hd0,bd⟩
 have b13:Bd 580 (Zca ns 13):=Zcv (Zge ns 13) (by decide)
 obtain⟨u0,u1⟩:=ZcJ ns 41 (show(0:Int)<30 by decide)
 have b41:Bd 580 (Zca ns 13+Zbt ns 41 30):=((show Bd 135 (Zca ns 13)from Zcv (Zge ns 13) (by decide)).add ((show Bd 5 (Zbt ns 41 30)by unfold Bd;omega).mono (by decide))).mono (by decide)
 obtain⟨v0,v1⟩:=ZcJ ns 40 (show(0:Int)<4 by decide)
 obtain⟨v,ev,hv⟩:=ZjE v0 (show Zbt ns 40 4<(4:Nat)by omega)
 walk_at "z"
 refine ZF (ZfV hL (by omega) (by omega)) ?_
 generalize Zca ns 13=nb at *
 walk_at "z"
 refine ZF (ZcK (by decide) (by decide) (by decide)) ?_
 generalize Zbt ns 41 30=pp at *
 walk_at "z"
 refine ZF (ZcK (by decide) (by decide) (by decide)) ?_
 rw[ev]
 obtain⟨s,bs,hidx2⟩:∃s:Sp,SBd 580 s∧[T.tup [.none,.none],.tup [.int nb,.none],.tup [.none,.int nb],.tup [.int nb,.int (nb+pp)]][v]?=some (spT s):=by
  match v,hv with
  | 0,_=>exact⟨(none,none),⟨fun x e=>(by cases e),fun x e=>(by cases e)⟩,rfl⟩
  | 1,_=>exact⟨(some nb,none),⟨fun x e=>(by cases e;exact b13),fun x e=>(by cases e)⟩,rfl⟩
  | 2,_=>exact⟨(none,some nb),⟨fun x e=>(by cases e),fun x e=>(by cases e;exact b13)⟩,rfl⟩
  | 3,_=>exact⟨(some nb,some (nb+pp)),⟨fun x e=>(by cases e;exact b13),fun x e=>(by cases e;exact b41)⟩,rfl⟩
 refine Zga (t:=spT s) (by omega) (by rw[Int.toNat_natCast];exact hidx2) ?_
 refine Zxj hX bc hd0 bd bs hst ?_ ?_ ?_ ?_ ?_
 ·walk_at "r"
 ·walk_at "r"
 ·walk_at "r"
 ·walk_at "r"
 ·walk_at "r"
theorem Zzt{D:T}(hn:n≤100)(h:DueOk n D): Zh2 [D,D]=some (.bool true):=h.same hn
theorem Zyv{T0 A D:T}(hn:n≤20)(hD:DueOk n D)(hA:Ze0 [scr ns,.int n]=some A)(pA:Pln 4 A)(p0:Pln 3 T0)(ho:ZbZ [T0,A,.lst []]=some D)(e0:σ 0=some (scr ns))(e1:σ 1=some (.int n))(e3:σ 3=some T0)(e4:σ 4=some A)(e5:σ 5=some T0)(e6:σ 6=some D)(hN:∀σ',σ' 0=some (scr ns)→σ' 1=some (.int n)→σ' 3=some T0→σ' 4=some A→σ' 5=some T0→σ' 6=some D→N σ'): Psk ((Zt (ZM 8 (Zv ZbZ (Zd (Za 3) (Zd (Za 4) (Zd (Za2 Zm) Zm))))) (Zt (ZT (bOr (Zcz (ZG (Zv Zh2 (Zd (Za 8) (Zd (Za 6) Zm))))) (bOr (ZG (Zg qNe (Za 4) (Zv Ze0 (Zd (Za 0) (Zd (Za 1) Zm))))) Zb3)) (ZD (Zcp false)) ZX) (Zt (ZT (ZG (Zg Zbz (Za 8) (ZV))) (Zt (Zbb 8 [] (Zj 7) (ZbD (ZbD ZaA (Zj 0)) (Zj 0)) (Zj 0)) (ZcX 8 [] (ZbD ZaA (Zj 1)) (Zak (Zd (Zj 7) (Zd (Zj 7) Zm))))) ZX) (ZT (ZG (Zg qNe (Za 3) (Za 5))) (ZD (Zcp false)) ZX)))) σ) (fun t=>t=.bool true) N:=by
 have hs:=Zzt (by omega) hD
 walk_at "z"
 refine ZF ho ?_
 walk_at "z"
 refine ZF hs ?_
 walk_at "z"
 refine ZF hA ?_
 walk_at "z"
 refine ZoT pA pA ?_
 rw[Zbo rfl]
 walk_at "z"
 rcases hD with z | ⟨G2,R2,z,_⟩
 ·subst z
  walk_at "z"
  refine ZoT p0 p0 ?_
  rw[Zbo rfl]
  walk_at "z"
  exact hN _ (by walk_at "r") (by walk_at "r") (by walk_at "r") (by walk_at "r") (by walk_at "r") (by walk_at "r")
 ·subst z
  have hn2:∀{Q:T→Prop},Q (.bool true)→Pk (Zbz (ZO n G2 R2) .none) Q:=fun h=>⟨_,rfl,h⟩
  refine hn2 ?_
  walk_at "z"
  refine Zyk (n:=n) (G:=G2) (R:=R2) (by walk_at "r") fun g=>?_
  refine Zyl (n:=n) (g:=g) (R:=R2) (w:=.tup [.int 7,.int 7]) (by omega) rfl (by walk_at "r") fun u=>?_
  walk_at "z"
  refine ZoT p0 p0 ?_
  rw[Zbo rfl]
  walk_at "z"
  exact hN _ (by walk_at "r") (by walk_at "r") (by walk_at "r") (by walk_at "r") (by walk_at "r") (by walk_at "r")
theorem ZuT(hL:Lay ns): Zof [scr ns]=some (.bool true):=by
 apply Pk.eq
 unfold Zof Zoe
 obtain⟨p0,p1⟩:=ZcJ ns 0 (show(0:Int)<9 by decide)
 obtain⟨w,ew,hw⟩:=ZjE p0 (show Zbt ns 0 9<(9:Nat)by omega)
 walk_at "z"
 refine ZF (ZcK (by decide) (by decide) (by decide)) ?_
 rw[ew]
 obtain⟨n,h0,hn,hidx⟩:∃n:Nat,0<n∧n≤4∧[T.int 1,.int 2,.int 1,.int 2,.int 1,.int 2,.int 1,.int 2,.int 3][w]?=some (.int n):=by
  match w,hw with
  | 0,_=>exact⟨1,by decide,by decide,rfl⟩
  | 1,_=>exact⟨2,by decide,by decide,rfl⟩
  | 2,_=>exact⟨1,by decide,by decide,rfl⟩
  | 3,_=>exact⟨2,by decide,by decide,rfl⟩
  | 4,_=>exact⟨1,by decide,by decide,rfl⟩
  | 5,_=>exact⟨2,by decide,by decide,rfl⟩
  | 6,_=>exact⟨1,by decide,by decide,rfl⟩
  | 7,_=>exact⟨2,by decide,by decide,rfl⟩
  | 8,_=>exact⟨3,by decide,by decide,rfl⟩
 refine Zga (t:=.int n) (by omega) (by rw[Int.toNat_natCast];exact hidx) ?_
 walk_at "z"
 refine ZbM (n:=n) (a:=fun i=>.int i) (b:=fun i=>.int (Zca ns (2+i))) (by omega) ?_ (fun t ht=>?_) ?_
 ·walk_at "z"
  rfl
 ·walk_at "z"
  exact ZF (ZfV hL (by omega) (by omega)) rfl
 generalize hx:(fun i:Nat=>Zca ns (2+i))=x
 have sx:∀i,i<n→(x i).natAbs<2 ^ 134:=fun i _=>by rw[←hx];exact Zge ns _
 rw[show(fun i:Nat=>T.int (Zca ns (2+i)))=fun i=>T.int (x i)by rw[←hx]]
 walk_at "z"
 refine ZF (Zx6 (x:=x) hL (by decide) (by decide) (by omega)) ?_
 have gd:=Zv7 ns 14 n x
 have smG:SmG 137 n (ZcD ns 14 n x):=fun i j hi hj b e=>Zcv (Zw8 sx i j hi hj b e) (by decide)
 have smR:SmR 137 n (Zgs ns 14 n x):=fun t ht=>⟨Zcv (Zrs (ns:=ns) (k:=14) sx t ht).1 (by decide),Zcv (Zrs (ns:=ns) (k:=14) sx t ht).2 (by decide)⟩
 generalize ZcD ns 14 n x=G at *
 generalize Zgs ns 14 n x=R at *
 obtain⟨A,hA,aA,pA⟩:=Zzs (n:=n) hL h0 hn
 walk_at "z"
 refine ZF hA ?_
 refine Zcw (fun σ'=>σ' 0=some (scr ns)∧σ' 1=some (.int n)∧σ' 4=some A∧∃T0 D,σ' 3=some T0∧Pln 3 T0∧Zeq [T0]=some T0∧ZbZ [T0,A,.lst []]=some D∧Zcl [T0,A]=some D∧DueOk n D) ?_ ?_
 ·walk_at "z"
  refine ZF (ZcK (by decide) (by decide) (by decide)) ?_
  walk_at "z"
  refine⟨fun q=>?_,fun q=>?_⟩
  ·walk_at "z"
   exact⟨by walk_at "r",by walk_at "r",by walk_at "r",.none,.none,ZbL,.none,Zv9,Zp7 Zvj,ZrI Ztu,.inl rfl⟩
  ·obtain⟨D,f1,f2,f3⟩:=Zxi (S0:=.lst []) hn gd.1 gd.2 smG smR aA
   have cp:Zeq [ZO n G R]=some (ZO n G R):=Zx7 (by omega)
   have pl:Pln 3 (ZO n G R):=Zn3
   generalize ZO n G R=T0 at *
   walk_at "z"
   exact⟨by walk_at "r",by walk_at "r",by walk_at "r",T0,D,by walk_at "r",pl,cp,f1,f2,f3⟩
 clear gd smG smR
 rintro σ1 ⟨e0,e1,e4,T0,D,e3,pl,cp,ho,hdu,hD⟩
 walk_at "z"
 refine ZF cp ?_
 walk_at "z"
 refine ZF hdu ?_
 refine Zjs ?_
 refine Zb4 (n:=2) (a:=fun i=>.int i) (P:=fun _ σ'=>σ' 0=some (scr ns)∧σ' 1=some (.int n)∧σ' 3=some T0∧σ' 4=some A∧σ' 5=some T0∧σ' 6=some D) ?_ ⟨by walk_at "r",by walk_at "r",by walk_at "r",by walk_at "r",by walk_at "r",by walk_at "r"⟩ ?_ ?_
 ·walk_at "z"
  exact ZjK 2 (by decide) (by decide) rfl
 ·rintro i σ' hi ⟨f0,f1,f3,f4,f5,f6⟩
  exact Zyv (by omega) hD hA pA pl ho (by walk_at "r") (by walk_at "r") (by walk_at "r") (by walk_at "r") (by walk_at "r") (by walk_at "r") fun σ'' g0 g1 g3 g4 g5 g6=>⟨g0,g1,g3,g4,g5,g6⟩
 ·rintro σ' ⟨f0,f1,f3,f4,f5,f6⟩
  walk_at "z"
  rfl
theorem Zur(hlen:ns.length≤63)(hL:PyData.layable0 (.list (ns.map .int))=true): ∃H',Zro [.ref 0] [ns.map V.int]=some (.bool true,H'):=ZvS Zw3 ns (ZuT hL)
end L
end
section
open PySem PySem.W PyProof.Rows
namespace PySem.W.Fast
def tw3018384756792678836:=0
def tw3520363519792060846:=0
def tw9774394379856643515:=0
def tw15335523830956845186:=0
def tw9991952250452883065:=0
def tw11483614926036402024:=0
def tw18188441679654595828:=0
def tw1913777049202361930:=0
def tw9292651643026975300:=0
def tw6822529714786804032:=0
def tw3139815972381352843:=0
def tw529536973988259948:=0
def tw5958337225494893492:=0
def tw17541053060092493725:=0
def tw1906743188756502811:=0
def tw2215426274937266770:=0
def tw9435018134839604537:=0
def tw6548945272714408661:=0
def tw16745343075639119971:=0
def tw140247042037892190:=0
def tw8621301723031713458:=0
def tw143287661451841328:=0
def tw3094701115853657799:=0
def tw1385777081429181588:=0
def tw14326666937008165477:=0
def tw16469568281967520401:=0
def tw16525585646549488262:=0
def tw7523960725538707817:=0
def tw2451202640524662777:=0
def tw3103751414666246812:=0
def tw6708892414054319099:=0
def tw7586693836618795562:=0
def tw5420646709462680085:=0
def tw7249538410202319208:=0
def tw10746989603658154836:=0
def tw10762484250532422250:=0
def tw8369868683130302868:=0
def tw802917404587063742:=0
def tw12221415409051222339:=0
def tw15845117809764550140:=0
def tw278057108609374583:=0
def tw6638926791290424541:=0
def tw11769617611247221923:=0
def tw7799292279061216081:=0
def tw5613845454599061817:=0
def tw7160180452043601882:=0
def tw6582134788679801411:=0
def tw17548501875881557423:=0
def tw13792483299354683862:=0
def tw16202804259149639690:=0
def tw15726315211890062517:=0
def tw12380031433413146341:=0
def tw14495299557687959983:=0
def tw10235731637192775877:=0
def tw13419329186978087958:=0
def tw4449657751673405704:=0
def tw7097827964152542560:=0
def tw571030836065106013:=0
def tw5661640270340304354:=0
def tw4227517698962585424:=0
def tw143782271200020318:=0
def tw4153491320931672185:=0
def tw7979783701870024959:=0
def tw17401831432661337422:=0
def tw1647960591809683682:=0
def tw11786325122171474085:=0
def tw15223397061033166810:=0
def tw18208996565591813656:=0
def tw12815670308626618822:=0
def tw14029171239946634462:=0
def tw5315833730557488597:=0
def tw4340971767527515617:=0
def tw12356241338228022558:=0
def tw18182889222666715495:=0
def tw11224361182253327997:=0
def tw15888159438429106303:=0
def tw6089177832033215386:=0
def tw17570062618377817894:=0
def tw2374466318677132124:=0
def tw10661956449011590994:=0
def tw16884622931589843948:=0
def tw10412780308102683651:=0
def tw8886442042033028919:=0
def tw9595735251909748849:=0
def tw4842887358765978389:=0
def tw17179431292420308709:=0
def tw8396962428940809896:=0
def tw14112606434462084385:=0
def tw7834740603555865465:=0
def tw7945405709010385892:=0
def tw8281825941283205851:=0
def tw2730965030003752832:=0
def tw11970942820725077907:=0
def tw16970792351503237766:=0
def tw16372584530490662585:=0
def tw1096354831752916523:=0
def tw19751972998642308:=0
def tw5185991453625059868:=0
def tw3259544426188881078:=0
def tw17108046237660401759:=0
end PySem.W.Fast
set_option maxRecDepth 100000 in
set_option maxHeartbeats 8000000 in
open_top head for PySem.Challenge.rw_seer_k54_acts_by_steps
end
section
open PySem PySem.W PySem.Calls PyProof.Rows PM
seal PM.J PM.Js PM.JT PM.JA PM.JF PM.JI PM.JI2 PM.JP PM.S1 PM.Ss PM.Sto PM.Rd PM.Nm PM.OpN PM.Op2 PM.Def
namespace L
noncomputable abbrev DD(w:World)(s₀:Shared)(mg mb:Str→Option Value)(f:Addr)(r:Nat)(F:List V→Hp→Option (V×Hp)): Prop:=Def PySem.Challenge.rw_seer_k54_acts_by_steps.row.prog w (head.heap_39 w.params) head.view_39 (looseW head.view_39 []) (ExcName.means s₀.heap) mg mb f r F
section
variable {w:World} {s₀:Shared} {mg mb:Str→Option Value}
theorem Zqt: DD w s₀ mg mb 528 1 Zii:=by
 unfold DD;k_fill
 refine Dof (names:=["_law_script","_law_k","_law_number_here"]) (g:=ZlK) ?_
 exact fun _ _ _ _ _ _ _ c _ _=>(Zz (ZP sL (ZJ (ZJ (ZJ vL vL Za8) jI Za8) jI Zah)) (Zz (Z2 (ZQ (Zau (nB c) (jc vL Zp) ZaS) jI Zgp) (ZB (ZP sL (ZJ vL (Zw vL (ZJ vL (Zau (nB c) (jc vL Zp) ZaS) Za7)) Zah))) Z4) (ZB (ZH vL))))
theorem law_pick_d: DD w s₀ mg mb 535 2 Zcm:=by
 unfold DD;k_fill
 refine Dof (names:=["_law_script","_law_k","_law_many"]) (g:=Zmm) ?_
 exact fun _ _ _ _ _ _ _ c _ _=>(ZB (ZH (ZJ (ZJ (ZJ (cF c Zqt (jc vL (jc vL Zp))) jI Za8) jI Za7) vL Za7)))
theorem ZfA: DD w s₀ mg mb 542 2 Zen:=by
 unfold DD;k_fill
 refine Dof (names:=["_law_script","_law_k","_law_number_here","_law_reach"]) (g:=Zli) ?_
 exact fun _ _ _ _ _ _ _ c _ _=>(Zz (ZP sL (cF c Zqt (jc vL (jc vL Zp)))) (Zz (ZP sL (Zw (J.list (jc jI (jc jI (jc (ZJ jI jI ZoK) (jc (ZJ jI jI ZoK) Zp))))) (ZJ (ZJ (ZJ vL jI Za8) jI Za7) jI Za7))) (ZB (ZH (ZJ (ZJ (ZJ vL (ZJ jI jI ZoK) Za8) (ZJ (ZJ jI vL Za8) jI Zah) Za7) vL Zbk)))))
theorem ZuU: DD w s₀ mg mb 549 3 ZlN:=by
 unfold DD;k_fill
 refine Dof (names:=["_law_script","_law_k","_law_way"]) (g:=ZlM) ?_
 exact fun _ _ _ _ _ _ _ c _ _=>(Zz (ZP sL (cF c law_pick_d (jc vL (jc vL (jc jI Zp))))) (Zz (Z2 (ZQ (ZJ vL jI Za7) jI ZcR) (ZB (ZH jN)) Z4) (Zz (Z2 (ZQ (ZJ vL jI Za7) jI ZcR) (ZB (ZH jI)) Z4) (Zz (Z2 (ZQ (ZJ vL jI Za7) jI Zap) (ZB (ZH (ZJ vL jI Zcx))) Z4) (ZB (ZH (Zau (nB c) (jc (cF c ZfA (jc vL (jc vL Zp))) Zp) Zd8)))))))
theorem Zfw: DD w s₀ mg mb 556 1 Zek:=by
 unfold DD;k_fill
 refine Dof (names:=["_law_m","_law_r"]) (g:=ZkL) ?_
 exact fun _ _ _ _ _ _ _ c _ _=>(Zz (Z2 (ZQ vL jI Zap) (ZB (ZH (J.tup (jc jI (jc vL Zp))))) Z4) (ZB (ZH (J.tup (jc vL (jc (ZJ vL vL Za7) Zp))))))
theorem ZvA: DD w s₀ mg mb 563 3 Zmp:=by
 unfold DD;k_fill
 refine Dof (names:=["_law_script","_law_k","_law_number_here","_law_way"]) (g:=Zmo) ?_
 exact fun _ _ _ _ _ _ _ c _ _=>(Zz (ZP sL (cF c law_pick_d (jc vL (jc vL (jc jI Zp))))) (Zz (Z2 (ZQ (ZJ vL jI Za7) jI ZcR) (ZB (ZH (J.tup (jc jI (jc jI Zp))))) Z4) (Zz (Z2 (ZQ (ZJ vL jI Za7) jI Zap) (ZB (ZH (J.tup (jc jI (jc vL Zp))))) Z4) (Zz (Z2 (ZQ (ZJ vL jI Za7) jI Zap) (ZB (ZH (cF c Zfw (jc (ZJ (ZJ vL jI Zcx) jI Zah) (jc vL Zp))))) Z4) (ZB (ZH (cF c Zfw (jc (Zau (nB c) (jc (cF c ZfA (jc vL (jc vL Zp))) Zp) Zd8) (jc vL Zp)))))))))
theorem ZvB: DD w s₀ mg mb 568 4 Zms:=by
 unfold DD;k_fill
 refine Dof (names:=["_law_script","_law_k","_law_boxes","_law_full","_law_size","_law_bounds","_law_i","_law_row","_law_j","_law_top"]) (g:=Zmr) ?_
 exact fun _ _ _ _ _ _ _ c _ _=>(Zz (ZP sL (ZJ (J.list (jc jI Zp)) vC Zah)) (Zz (ZP sC (Zau (nB c) (jc vL Zp) ZaS)) (Zz (ZP sL (J.list Zp)) (Zz (Zbs sL (JI.range (nB c) (jc vC Zp)) (Zz (ZP sL (J.list Zp)) (Zz (Zbs sL (JI.range (nB c) (jc vC Zp)) (Zz (ZP sL (cF c ZuU (jc vC (jc (ZJ (ZJ vC (ZJ vL vC Za8) Zah) vL Zah) Zp)))) (Zz (Z2 (ZQ vL jN Zce) (ZB (ZP sL (ZJ (ZJ (Zw vL vL) (Zw vL vL) Zbk) vL Zah))) Z4) (ZB (Zc2 (J.append vL vL)))))) (Zz (S1.put jI vL vL) (ZB (Zc2 (J.append vL vL))))))) (ZB (ZH (J.tup (jc vL (jc (by refine cO ?_ ?_ ?_;(exact(JI.range (nB c) (jc (ZJ vC jI Zbk) Zp)));(exact fun _ _=>(cF (Zbp c) ZvA (jc vD (jc (ZJ (ZJ vD (ZJ vD vD Za8) Zah) vO Zah) (jc (Zw vD vO) Zp)))));(exact fun _ _=>JF.nil)) Zp)))))))))
theorem Zwq: DD w s₀ mg mb 646 3 ZnA:=by
 unfold DD;k_fill
 refine Dof (names:=["_law_script","_law_k","_law_many","_law_one","_law_way","_law_at","_law_to","_law_i"]) (g:=Znz) ?_
 exact fun _ _ _ _ _ _ _ c _ _=>(Zz (ZP sL (ZJ (J.list (jc (cF c ZfA (jc vL (jc vL Zp))) Zp)) (ZJ (J.list (jc jI Zp)) vL Za8) Zah)) (Zz (ZP sL (cF c law_pick_d (jc vL (jc vL (jc jI Zp))))) (Zz (Z2 (Zbg (ZaW (ZQ vL jI Zap) (ZaW (ZQ vL jI Zap) Zct))) (ZB (ZH vL)) Z4) (Zz (ZP sL (ZJ jI (cF c law_pick_d (jc vL (jc (ZJ vL jI Zah) (jc vL Zp)))) Zah)) (Zz (Z2 (ZQ vL jI Zap) (ZB (S1.put (ZJ (cF c law_pick_d (jc vL (jc (ZJ vL jI Zah) (jc jI Zp)))) jI Zbk) vL vL)) Z4) (Zz (Z2 (Zbg (ZaW (ZQ vL jI Zap) (ZaW (ZQ vL jI Zap) Zct))) (Zz (ZP sL (ZJ jI (cF c law_pick_d (jc vL (jc (ZJ vL jI Zah) (jc vL Zp)))) Zah)) (Zz (S1.put jI vL vL) (ZB (S1.put (ZJ (Zw vL vL) jI Zbk) vL vL)))) Z4) (Zz (Z2 (ZQ vL jI Zap) (ZB (Zbs sL (JI.range (nB c) (jc vL Zp)) (ZB (S1.put (ZJ (cF c law_pick_d (jc vL (jc (ZJ (ZJ vL jI Zah) vL Zah) (jc jI Zp)))) jI Zbk) vL (ZJ vL jI Zah))))) Z4) (Zz (Z2 (ZQ vL jI Zap) (ZB (Zbs sL (JI.range (nB c) (jc vL Zp)) (ZB (S1.put (ZJ (cF c law_pick_d (jc vL (jc (ZJ (ZJ vL jI Zah) vL Zah) (jc jI Zp)))) jI Zbk) vL (ZJ vL jI Zah))))) Z4) (ZB (ZH vL))))))))))
theorem Zra: DD w s₀ mg mb 706 4 ZiS:=by
 unfold DD;k_fill
 refine Dof (names:=["_law_script","_law_many","_law_x","_law_one","_law_word","_law_d","_law_number_here","_law_spans","_law_span"]) (g:=ZnF) ?_
 exact fun _ _ _ _ _ _ _ c _ _=>(Zz (ZP sL (ZJ jI (cF c law_pick_d (jc vL (jc jI (jc vL Zp)))) Zah)) (Zz (ZP sL (cF c Zwq (jc vL (jc jI (jc vL Zp))))) (Zz (ZP sL (Zw (J.list (jc jS (jc jS (jc jS (jc jS (jc jS (jc jS (jc jS Zp)))))))) (cF c law_pick_d (jc vL (jc jI (jc jI Zp)))))) (Zz (ZP sL (ZJ jI (cF c law_pick_d (jc vL (jc jI (jc jI Zp)))) Zah)) (Zz (Z2 (ZQ (cF c law_pick_d (jc vL (jc jI (jc jI Zp)))) jI Zap) (ZB (ZP sL (Zau (nB c) (jc jI (jc (Zau (nB c) (jc (cF c ZfA (jc vL (jc jI Zp))) Zp) Zd8) Zp)) Zxn))) Z4) (Zz (ZP sL (cF c ZfA (jc vL (jc jI Zp)))) (Zz (ZP sL (J.list (jc (J.tup (jc jN (jc jN Zp))) (jc (J.tup (jc vL (jc jN Zp))) (jc (J.tup (jc jN (jc vL Zp))) (jc (J.tup (jc vL (jc (ZJ vL (cF c law_pick_d (jc vL (jc jI (jc jI Zp)))) Zah) Zp))) Zp)))))) (Zz (ZP sL (Zw vL (cF c law_pick_d (jc vL (jc jI (jc jI Zp)))))) (Zz (Z2 (ZQ vL jS Zap) (ZB (ZH (J.tup (jc jS Zp)))) Z4) (Zz (Z2 (ZQ vL jS Zap) (ZB (ZH (J.tup (jc jS (jc (J.tup (jc jS (jc vL (jc vL Zp)))) Zp))))) Z4) (Zz (Z2 (ZQ vL jS Zap) (ZB (ZH (J.tup (jc jS (jc vL (jc vL Zp)))))) Z4) (Zz (Z2 (ZQ vL jS Zap) (ZB (ZH (J.tup (jc jS (jc vL (jc (Zw vL jI) (jc (Zw vL jI) Zp))))))) Z4) (ZB (ZH (J.tup (jc vL (jc vL (jc vL (jc vL Zp)))))))))))))))))))
theorem ZvC: DD w s₀ mg mb 573 1 Zmv:=by
 unfold DD;k_fill
 refine Dof (names:=["_law_told_here"]) (g:=Zmu) ?_
 exact fun _ _ _ _ _ _ _ c _ _=>(Zz (Z2 (ZQ vL jN ZaX) (ZB (ZH jN)) Z4) (ZB (ZH (J.tup (jc (by refine cO ?_ ?_ ?_;(exact(JI.seq (Zw vL jI)));(exact fun _ _=>(Zev (nB (Zbp c)) (jc vO Zp) Ze2));(exact fun _ _=>JF.nil)) (jc (Zev (nB c) (jc (Zw vL jI) Zp) Ze2) Zp))))))
theorem Zpw: DD w s₀ mg mb 620 1 ZhQ:=by
 unfold DD;k_fill
 refine Dof (names:=["_law_bounds","_law_size","_law_found","_law_reach","_law_before","_law_i","_law_j","_law_k","_law_by"]) (g:=ZjW) ?_
 exact fun _ _ _ _ _ _ _ c _ _=>(Zz (ZP sL (Zau (nB c) (jc vL Zp) ZaS)) (Zz (by refine sO sL ?_ ?_ ?_;(exact(JI.seq vL));(exact fun _ _=>(Zev (nB (Zbp c)) (jc vO Zp) Ze2));(exact fun _ _=>JF.nil)) (Zz (ZP sL jI) (Zz (Zhd 1000000 (ZQ vL vL ZcR) (Zz (by refine sO sL ?_ ?_ ?_;(exact(JI.seq vL));(exact fun _ _=>(Zev (nB (Zbp c)) (jc vO Zp) Ze2));(exact fun _ _=>JF.nil)) (Zz (Zbs sL (JI.range (nB c) (jc vL Zp)) (ZB (Zbs sL (JI.range (nB c) (jc vL Zp)) (ZB (Zbs sL (JI.range (nB c) (jc vL Zp)) (ZB (Z2 (Zbg (Zbf (ZQ (Zw (Zw vL vL) vL) jN Zce) (Zbf (ZQ (Zw (Zw vL vL) vL) jN Zce) ZcY))) (Zz (ZP sL (ZJ (Zw (Zw vL vL) vL) (Zw (Zw vL vL) vL) Zah)) (ZB (Z2 (Zbg (ZaW (ZQ (Zw (Zw vL vL) vL) jN ZaX) (ZaW (ZQ vL (Zw (Zw vL vL) vL) ZcR) Zct))) (ZB (S1.put vL (Zw vL vL) vL)) Z4))) Z4))))))) (ZB (ZP sL (ZJ jI vL Za8)))))) (Zz (Zbs sL (JI.range (nB c) (jc vL Zp)) (ZB (Z2 (ZQ (Zw (Zw vL vL) vL) jI ZcR) (ZB (ZH jN)) Z4))) (ZB (ZH vL)))))))
theorem Zwr: DD w s₀ mg mb 615 2 Znt:=by
 unfold DD;k_fill
 refine Dof (names:=["_law_one","_law_other","_law_high","_law_low","_law_now","_law_then","_law_times","_law_over","_law_apart"]) (g:=Zns) ?_
 exact fun _ _ _ _ _ _ _ c _ _=>(Zz (ZP sL (Zw vL jI)) (Zz (ZP sL (Zw vL jI)) (Zz (ZP sL jI) (Zz (ZP sL jI) (Zz (Zhd 1000000 (ZQ vL jI ZbQ) (Zz (ZP sL (ZJ vL vL Zcx)) (Zz (ZP sL (ZJ vL (ZJ vL vL Za8) Zbk)) (Zz (ZP sL vL) (Zz (ZP sL vL) (Zz (ZP sL (ZJ vL (ZJ vL vL Za8) Zbk)) (Zz (ZP sL vL) (ZB (ZP sL vL))))))))) (Zz (ZP sL (ZJ (Zw vL jI) (Zw vL jI) Zbk)) (Zz (Z2 (ZQ vL jI Zap) (Zz (Z2 (ZQ vL jI ZbQ) (ZB (ZH jN)) Z4) (ZB (ZH vL))) Z4) (Zz (Z2 (ZQ (ZJ vL vL Za7) jI ZbQ) (ZB (ZH jN)) Z4) (ZB (ZH (cF c Zfw (jc (ZJ (ZJ (Zw vL jI) vL Zcx) (Zw vL jI) Za8) (jc (ZJ (Zw vL jI) (ZJ (ZJ (Zw vL jI) vL Za8) (ZJ vL vL Zcx) Za8) Zah) Zp)))))))))))))
theorem Zp8: DD w s₀ mg mb 627 3 Zib:=by
 unfold DD;k_fill
 refine Dof (names:=["_law_bounds","_law_rests","_law_full","_law_new","_law_i","_law_j","_law_gap"]) (g:=Zlq) ?_
 exact fun _ _ _ _ _ _ _ c _ _=>(Zz (ZP sL (ZJ (J.list (jc (J.tup (jc jI (jc jI Zp))) Zp)) vL Zah)) (Zz (ZP sL (ZJ (J.list (jc (J.tup (jc jI (jc jI Zp))) Zp)) vL Zah)) (Zz (Zbs sL (JI.range (nB c) (jc jI (jc (Zau (nB c) (jc vL Zp) ZaS) Zp))) (ZB (Zbs sL (JI.range (nB c) (jc (Zau (nB c) (jc vL Zp) ZaS) Zp)) (Zz (ZP sL (Zw (Zw vL vL) vL)) (ZB (Z2 (Zbg (Zbf (ZQ vL vL ZbQ) (Zbf (ZQ vL jN Zce) (Zbf (ZQ (Zw (Zw vL vL) vL) (Zb8 vL Zb1) Zap) (Zbf (ZQ (Zw vL vL) jN Zce) ZcY))))) (ZB (S1.put (cF c Zwr (jc (Zw vL vL) (jc (cF c Zfw (jc (Zw (Zw vL vL) jI) (jc (ZJ (Zw (Zw vL vL) jI) vL Zah) Zp))) Zp))) vL vL)) Z4)))))) (Zz (Z2 (ZQ jN vL Zfh) (ZB (ZH jN)) Z4) (ZB (ZH (Zhv vL jI)))))))
theorem ZnY: DD w s₀ mg mb 608 1 Zg8:=by
 unfold DD;k_fill
 refine Dof (names:=["_law_one","_law_other","_law_over"]) (g:=Zng) ?_
 exact fun _ _ _ _ _ _ _ c _ _=>(Zz (ZP sL (Zau (nB c) (jc vL Zp) Zd8)) (Zz (ZP sL (Zau (nB c) (jc vL Zp) Zd8)) (Zz (Zhd 1000000 (ZQ vL jI ZbQ) (Zz (ZP sL (ZJ vL vL Za7)) (Zz (ZP sL vL) (ZB (ZP sL vL))))) (ZB (ZH vL)))))
theorem ZtX: DD w s₀ mg mb 632 2 ZkZ:=by
 unfold DD;k_fill
 refine Dof (names:=["_law_bounds","_law_rests","_law_full","_law_new","_law_i","_law_j","_law_m","_law_r","_law_top"]) (g:=ZkY) ?_
 exact fun _ _ _ _ _ _ _ c _ _=>(Zz (ZP sL (ZJ (J.list (jc (J.tup (jc jI (jc jI Zp))) Zp)) vL Zah)) (Zz (by refine sO sL ?_ ?_ ?_;(exact(JI.seq vL));(exact fun _ _=>(Zev (nB (Zbp c)) (jc vO Zp) Ze2));(exact fun _ _=>JF.nil)) (Zz (Zbs sL (JI.range (nB c) (jc (Zau (nB c) (jc vL Zp) ZaS) Zp)) (ZB (Zbs sL (JI.range (nB c) (jc (Zau (nB c) (jc vL Zp) ZaS) Zp)) (Zz (ZP sL (cF c ZnY (jc (Zw (Zw vL vL) jI) (jc (Zw (Zw vL vL) jI) Zp)))) (Zz (ZP sL (ZJ (Zw (Zw vL vL) jI) (Zw (Zw vL vL) jI) Zbk)) (Zz (ZP sL (Zw (Zw vL vL) vL)) (ZB (Z2 (Zbg (Zbf (ZQ vL vL ZbQ) (Zbf (ZQ vL jI Zap) ZcY))) (Zz (Z2 (Zbg (Zbf (ZQ vL jN Zce) (Zbf (ZQ vL vL ZcR) ZcY))) (ZB (ZH jN)) Z4) (ZB (S1.put vL (Zw vL vL) vL))) (ZB (Z2 (Zbg (Zbf (ZQ vL vL ZbQ) (Zbf (ZQ vL jN Zce) ZcY))) (ZB (S1.put (ZJ vL (ZJ (ZJ vL vL Zbk) vL Za7) Zbk) (Zw vL vL) vL)) Z4)))))))))) (ZB (ZH vL)))))
theorem Zmg: DD w s₀ mg mb 639 4 ZgQ:=by
 unfold DD;k_fill
 refine Dof (names:=["_law_told_here","_law_bounds","_law_rests"]) (g:=Zl2) ?_
 exact fun _ _ _ _ _ _ _ c _ _=>(Zz (Z2 (ZQ vL jN ZaX) (ZB (ZH jN)) Z4) (Zz (ZP sL (cF c Zpw (jc (Zw vL jI) Zp))) (Zz (Z2 (ZQ vL jN ZaX) (ZB (ZH jN)) Z4) (Zz (ZP sL (cF c Zp8 (jc vL (jc (Zw vL jI) Zp)))) (Zz (Z2 (ZQ vL jN ZaX) (ZB (ZH jN)) Z4) (Zz (ZP sL (cF c ZtX (jc vL (jc vL Zp)))) (Zz (Z2 (ZQ vL jN ZaX) (ZB (ZH jN)) Z4) (Zz (ZP sL (cF c Zpw (jc vL Zp))) (Zz (Z2 (ZQ vL jN ZaX) (ZB (ZH jN)) Z4) (Zz (ZP sL (cF c Zp8 (jc vL (jc vL Zp)))) (Zz (Z2 (ZQ vL jN ZaX) (ZB (ZH jN)) Z4) (ZB (ZH (J.tup (jc vL (jc vL Zp))))))))))))))))
theorem ZtB: DD w s₀ mg mb 675 1 ZkF:=by
 unfold DD;k_fill
 refine Dof (names:=["_law_many","_law_sums","_law_i","_law_one"]) (g:=ZkE) ?_
 exact fun _ _ _ _ _ _ _ c _ _=>(Zz (ZP sL (J.list Zp)) (Zz (Zbs sL (JI.range (nB c) (jc vL Zp)) (Zz (ZP sL (ZJ (J.list (jc jI Zp)) (ZJ vL jI Zah) Za8)) (Zz (S1.put jI vL (ZJ vL jI Zah)) (ZB (Zc2 (J.append vL vL)))))) (ZB (ZH vL))))
theorem ZkJ: DD w s₀ mg mb 656 1 ZgC:=by
 unfold DD;k_fill
 refine Dof (names:=["_law_told_here","_law_one","_law_ups","_law_downs","_law_ends","_law_total","_law_i"]) (g:=Zkw) ?_
 exact fun _ _ _ _ _ _ _ c _ _=>(Zz (by refine sO sL ?_ ?_ ?_;(exact(JI.range (nB c) (jc jI (jc (Zau (nB c) (jc vC Zp) ZaS) Zp))));(exact fun _ _=>vO);(exact fun _ _=>JF.one (ZQ (Zw vD vO) jI Zgp))) (Zz (by refine sO sL ?_ ?_ ?_;(exact(JI.range (nB c) (jc jI (jc (Zau (nB c) (jc vC Zp) ZaS) Zp))));(exact fun _ _=>vO);(exact fun _ _=>JF.one (ZQ (Zw vD vO) jI ZcR))) (Zz (Z2 (Zbg (Zbf (ZQ (Zau (nB c) (jc vL Zp) ZaS) jI Zap) (Zbf (ZQ (Zau (nB c) (jc vL Zp) ZaS) jI Zap) (Zbf (ZQ (Zw vC (Zw vL jI)) jI Zap) (Zbf (ZQ (Zw vC (Zw vL jI)) (Zb8 jI Zb1) Zap) ZcY))))) (Zz (Z2 (ZQ (Zw (Zw (Zw vC jI) (Zw vL jI)) (Zw vL jI)) jN ZaX) (ZB (ZH jN)) Z4) (ZB (ZH (ZJ (Zw (Zw (Zw vC jI) (Zw vL jI)) (Zw vL jI)) (Zw vC jI) Zah)))) Z4) (Zz (ZP sL (ZJ (by refine cO ?_ ?_ ?_;(exact(JI.seq vL));(exact fun _ _=>(Zw (Zw (Zw vD jI) vO) jI));(exact fun _ _=>JF.nil)) (by refine cO ?_ ?_ ?_;(exact(JI.seq vL));(exact fun _ _=>(Zw (Zw (Zw vD jI) jI) vO));(exact fun _ _=>JF.nil)) Zah)) (Zz (Z2 (ZQ jN vL Zfh) (ZB (ZH jN)) Z4) (Zz (ZP sL (Zw vC jI)) (Zz (Zbs sL (JI.seq vL) (ZB (ZP sL (ZJ vL (ZJ (Zw vC vL) (Zw (Zw (Zw vC jI) vL) jI) Za8) Zah)))) (Zz (Zbs sL (JI.seq vL) (ZB (ZP sL (ZJ vL (ZJ (Zw vC vL) (Zw (Zw (Zw vC jI) jI) vL) Za8) Zbk)))) (ZB (ZH vL))))))))))
theorem ZpK: DD w s₀ mg mb 663 2 Zh0:=by
 unfold DD;k_fill
 refine Dof (names:=["_law_one","_law_rests","_law_m","_law_r","_law_i"]) (g:=ZkC) ?_
 exact fun _ _ _ _ _ _ _ c _ _=>(Zz (ZP sL jI) (Zz (ZP sL (Zw vL jI)) (Zz (Zbs sL (JI.range (nB c) (jc (Zau (nB c) (jc vL Zp) ZaS) Zp)) (Zz (ZP sL (cF c ZnY (jc vL (jc (ZJ (Zw vL (ZJ vL jI Zah)) (Zw (Zw vL vL) jI) Za8) Zp)))) (ZB (ZP sL (ZJ vL (ZJ (Zw vL (ZJ vL jI Zah)) (Zw (Zw vL vL) jI) Za8) Zah))))) (ZB (ZH (cF c Zfw (jc vL (jc vL Zp))))))))
theorem ZvD: DD w s₀ mg mb 651 1 ZmY:=by
 unfold DD;k_fill
 refine Dof (names:=["_law_one","_law_other"]) (g:=ZmX) ?_
 exact fun _ _ _ _ _ _ _ c _ _=>(ZB (ZH (by refine cO ?_ ?_ ?_;(exact(JI.range (nB c) (jc (Zau (nB c) (jc vC Zp) ZaS) Zp)));(exact fun _ _=>(ZJ (Zw vD vO) (Zw vD vO) Zbk));(exact fun _ _=>JF.nil))))
theorem Zus: DD w s₀ mg mb 668 5 Zlw:=by
 unfold DD;k_fill
 refine Dof (names:=["_law_told_here","_law_sums","_law_full","_law_bounds","_law_one"]) (g:=Zlv) ?_
 exact fun _ _ _ _ _ _ _ c _ _=>(Zz (Z2 (ZQ vC jN ZaX) (ZB (ZH jN)) Z4) (Zz (ZP sL (ZJ (J.list (jc (ZJ (J.list (jc jI Zp)) (ZJ (Zau (nB c) (jc (Zw vC jI) Zp) ZaS) jI Zah) Za8) Zp)) vL Zah)) (Zz (ZP sL (J.list Zp)) (Zz (Zbs sC (JI.seq vL) (ZB (Zc2 (J.append vL (by refine cO ?_ ?_ ?_;(exact(JI.seq vL));(exact fun _ _=>(cF (Zbp c) ZkJ (jc vD (jc (cF (Zbp c) ZvD (jc vD (jc vO Zp))) Zp))));(exact fun _ _=>JF.nil)))))) (ZB (ZH (cF c Zmg (jc (J.tup (jc vL (jc (by refine cO ?_ ?_ ?_;(exact(JI.seq vL));(exact fun _ _=>(cF (Zbp c) ZpK (jc vO (jc (Zw vD jI) Zp))));(exact fun _ _=>JF.nil)) Zp))) Zp))))))))
theorem ZiG: DD w s₀ mg mb 680 5 ZfG:=by
 unfold DD;k_fill
 refine Dof (names:=["_law_told_here","_law_x","_law_span","_law_pair","_law_bounds","_law_i"]) (g:=ZmO) ?_
 exact fun _ _ _ _ _ _ _ c _ _=>(Zz (Z2 (ZQ vL jN ZaX) (ZB (ZH jN)) Z4) (Zz (by refine sO sL ?_ ?_ ?_;(exact(JI.seq (Zw vL jI)));(exact fun _ _=>(Zev (nB (Zbp c)) (jc vO Zp) Ze2));(exact fun _ _=>JF.nil)) (Zz (Zbs sL (JI.range (nB c) (jc (Zau (nB c) (jc vL Zp) ZaS) Zp)) (ZB (S1.put jN (Zw vL vL) vL))) (Zz (S1.put (ZJ (J.list (jc jN Zp)) (Zau (nB c) (jc vL Zp) ZaS) Za8) vL vL) (Zz (S1.put jI (Zw vL vL) vL) (Zz (S1.put (Zw vL jI) (Zw vL vL) jI) (Zz (Z2 (ZQ (Zw vL jI) jN Zce) (ZB (S1.put (Zb8 (Zw vL jI) Zb1) (Zw vL jI) vL)) Z4) (ZB (ZH (cF c Zmg (jc (J.tup (jc vL (jc (ZJ (ZJ (Zrm (Zw vL jI) JP.none (JP.some (ZJ vL jI Zbk))) (J.list (jc vL Zp)) Zah) (Zrm (Zw vL jI) (JP.some vL) JP.none) Zah) Zp))) Zp)))))))))))
theorem Zp9: DD w s₀ mg mb 687 1 Zif:=by
 unfold DD;k_fill
 refine Dof (names:=["_law_end","_law_d"]) (g:=ZlE) ?_
 exact fun _ _ _ _ _ _ _ c _ _=>(Zz (Z2 (ZQ vL jN ZaX) (ZB (ZH jN)) Z4) (ZB (ZH (ZJ vL vL Zcx))))
theorem ZtY: DD w s₀ mg mb 692 6 Zk8:=by
 unfold DD;k_fill
 refine Dof (names:=["_law_told_here","_law_act_here","_law_lo","_law_hi","_law_pair","_law_d","_law_m"]) (g:=Zk7) ?_
 exact fun _ _ _ _ _ _ _ c _ _=>(Zz (ZP sL (cF c ZkJ (jc vL (jc (by refine cO ?_ ?_ ?_;(exact(JI.seq (Zw vL jI)));(exact fun _ _=>(Zb8 vO Zb1));(exact fun _ _=>JF.nil)) Zp)))) (Zz (ZP sL (cF c ZkJ (jc vL (jc (Zw vL jI) Zp)))) (Zz (ZP sL (cF c ZpK (jc (Zw vL jI) (jc (Zw vL jI) Zp)))) (Zz (ZP sL (Zw vL jI)) (Zz (Z2 (ZQ vL jN Zce) (ZB (ZP sL (Zb8 vL Zb1))) Z4) (Zz (Z2 (ZQ (Zw vL jI) jS Zap) (Zz (Z2 (ZQ (ZJ (Zw vL jI) vL Za7) jI Zap) (ZB (ZP sL (J.tup (jc (ZJ (Zw vL jI) vL Zcx) (jc (ZJ (Zw vL jI) vL Zcx) Zp))))) (ZB (ZP sL (J.tup (jc jI (jc jI Zp)))))) (ZB (ZH (cF c ZiG (jc vL (jc (Zw vL jI) (jc (J.tup (jc (cF c Zp9 (jc vL (jc vL Zp))) (jc (cF c Zp9 (jc vL (jc vL Zp))) Zp))) (jc vL Zp)))))))) Z4) (Zz (ZP sL (cF c ZnY (jc (Zw vL jI) (jc vL Zp)))) (Zz (ZP sL (cF c Zfw (jc (ZJ vL vL Za7) (jc (ZJ (Zw vL jI) vL Za7) Zp)))) (Zz (Z2 (Zbg (ZaW (ZQ vL jN ZaX) (ZaW (ZQ vL jN ZaX) (ZaW (ZQ (ZJ vL vL Zcx) (ZJ vL vL Zcx) ZbQ) Zct)))) (ZB (ZH (cF c ZiG (jc vL (jc (Zw vL jI) (jc (J.tup (jc jI (jc (ZJ vL jI Zbk) Zp))) (jc vL Zp))))))) Z4) (ZB (ZH (cF c ZiG (jc vL (jc (Zw vL jI) (jc (J.tup (jc (ZJ vL vL Za7) (jc (ZJ vL vL Za7) Zp))) (jc vL Zp))))))))))))))))
theorem ZtZ: DD w s₀ mg mb 699 7 Zla:=by
 unfold DD;k_fill
 refine Dof (names:=["_law_told_here","_law_act_here","_law_sums"]) (g:=Zk9) ?_
 exact fun _ _ _ _ _ _ _ c _ _=>(Zz (ZP sL (cF c Zmg (jc vL Zp))) (Zz (Z2 (ZQ vL jN ZaX) (ZB (ZH jN)) Z4) (Zz (Z2 (ZQ (Zw vL jI) jS Zap) (Zz (ZP sL (cF c ZtB (jc (Zau (nB c) (jc (Zw vL jI) Zp) ZaS) Zp))) (Zz (S1.put (Zw vL jI) vL (ZJ (Zw vL jI) jI Zbk)) (ZB (ZH (cF c Zus (jc vL (jc vL Zp))))))) Z4) (Zz (Z2 (Zbg (ZaW (ZQ (Zw vL jI) jS Zap) (ZaW (ZQ (Zw vL jI) jS Zap) Zct))) (ZB (ZH (cF c ZtY (jc vL (jc vL Zp))))) Z4) (Zz (Z2 (ZQ (Zw vL jI) jS Zap) (ZB (ZH (cF c ZiG (jc vL (jc (Zw vL jI) (jc (J.tup (jc (Zw vL jI) (jc (Zw vL jI) Zp))) (jc (J.tup (jc jI (jc jI Zp))) Zp))))))) Z4) (ZB (ZH vL)))))))
theorem ZpX: DD w s₀ mg mb 313 1 Zft:=by
 unfold DD;k_fill
 refine Dof (names:=["rests"]) (g:=ZkS) ?_
 exact fun _ _ _ _ _ _ _ c _ _=>(ZB (ZH (ZJ (J.list (jc (J.tup (jc jI (jc jI Zp))) Zp)) vL Zah)))
theorem ZiX: DD w s₀ mg mb 162 1 ZfS:=by
 unfold DD;k_fill
 refine Dof (names:=["one","other","left","right","over"]) (g:=Znj) ?_
 exact fun _ _ _ _ _ _ _ c _ _=>(Zz (ZP sL (Zau (nB c) (jc vL Zp) Zd8)) (Zz (ZP sL (Zau (nB c) (jc vL Zp) Zd8)) (Zz (Zhd 1000000 (ZQ vL jI ZbQ) (Zz (ZP sL (ZJ vL vL Za7)) (Zz (ZP sL vL) (ZB (ZP sL vL))))) (ZB (ZH vL)))))
theorem Zgn: DD w s₀ mg mb 176 1 ZeA:=by
 unfold DD;k_fill
 refine Dof (names:=["m","r"]) (g:=ZoW) ?_
 exact fun _ _ _ _ _ _ _ c _ _=>(Zz (Z2 (ZQ vL jI ZcR) (ZB (ZzL)) Z4) (Zz (Z2 (ZQ vL jI Zap) (ZB (ZH (J.tup (jc jI (jc vL Zp))))) Z4) (ZB (ZH (J.tup (jc vL (jc (ZJ vL vL Za7) Zp)))))))
theorem Zws: DD w s₀ mg mb 169 1 Znm:=by
 unfold DD;k_fill
 refine Dof (names:=["one","by","left","right","left_turns","right_turns","part","over","over_turns"]) (g:=Znl) ?_
 exact fun _ _ _ _ _ _ _ c _ _=>(Zz (ZP sL (ZJ vL vL Za7)) (Zz (ZP sL vL) (Zz (ZP sL jI) (Zz (ZP sL jI) (Zz (Zhd 1000000 (ZQ vL jI ZbQ) (Zz (ZP sL (ZJ vL vL Zcx)) (Zz (ZP sL (ZJ vL (ZJ vL vL Za8) Zbk)) (Zz (ZP sL (ZJ vL (ZJ vL vL Za8) Zbk)) (Zz (ZP sL vL) (Zz (ZP sL vL) (Zz (ZP sL vL) (ZB (ZP sL vL))))))))) (ZB (ZH (ZJ vL vL Za7))))))))
theorem Zg4: DD w s₀ mg mb 183 1 ZeU:=by
 unfold DD;k_fill
 refine Dof (names:=["one","number"]) (g:=Zmw) ?_
 exact fun _ _ _ _ _ _ _ c _ _=>(Zz (Z2 (ZQ (Zw vL jI) jI Zap) (ZB (ZH (ZcQ vL (Zw vL jI) Zap))) Z4) (ZB (ZH (ZcQ (ZJ vL (Zw vL jI) Za7) (Zw vL jI) Zap))))
theorem Znc: DD w s₀ mg mb 197 2 ZgX:=by
 unfold DD;k_fill
 refine Dof (names:=["one","other","common","apart","width","turns"]) (g:=Zmy) ?_
 exact fun _ _ _ _ _ _ _ c _ _=>(Zz (Z2 (ZQ (Zw vL jI) jI Zap) (ZB (ZH (ZeD (Zby (cF c Zg4 (jc vL (jc (Zw vL jI) Zp)))) vL jN))) Z4) (Zz (Z2 (ZQ (Zw vL jI) jI Zap) (ZB (ZH (ZeD (Zby (cF c Zg4 (jc vL (jc (Zw vL jI) Zp)))) vL jN))) Z4) (Zz (ZP sL (cF c ZiX (jc (Zw vL jI) (jc (Zw vL jI) Zp)))) (Zz (ZP sL (ZJ (Zw vL jI) (Zw vL jI) Zbk)) (Zz (Z2 (ZQ (ZJ vL vL Za7) jI ZbQ) (ZB (ZH jN)) Z4) (Zz (ZP sL (ZJ (Zw vL jI) vL Zcx)) (Zz (ZP sL (ZJ (ZJ vL vL Zcx) (cF c Zws (jc (ZJ (Zw vL jI) vL Zcx) (jc vL Zp))) Za8)) (ZB (ZH (cF c Zgn (jc (ZJ (Zw vL jI) vL Za8) (jc (ZJ (Zw vL jI) (ZJ (Zw vL jI) vL Za8) Zah) Zp))))))))))))
theorem ZfN: DD w s₀ mg mb 72 1 Zes:=by
 unfold DD;k_fill
 refine Dof (names:=["one","other"]) (g:=ZmB) ?_
 exact fun _ _ _ _ _ _ _ c _ _=>(Zz (Z2 (Zbg (ZaW (ZQ vL jN ZaX) (ZaW (ZQ vL jN ZaX) Zct))) (ZB (ZH jN)) Z4) (ZB (ZH (ZJ vL vL Zah))))
theorem Zmh: DD w s₀ mg mb 204 2 ZgN:=by
 unfold DD;k_fill
 refine Dof (names:=["one","other"]) (g:=ZlR) ?_
 exact fun _ _ _ _ _ _ _ c _ _=>(ZB (ZH (cF c Zgn (jc (cF c ZiX (jc (Zw vL jI) (jc (Zw vL jI) Zp))) (jc (ZJ (Zw vL jI) (Zw vL jI) Zah) Zp)))))
theorem ZtC: DD w s₀ mg mb 320 3 ZgB:=by
 unfold DD;k_fill
 refine Dof (names:=["bounds","rests","i","met","j","other"]) (g:=Zku) ?_
 exact fun _ _ _ _ _ _ _ c _ _=>(Zz (ZP sL (Zw vL vL)) (Zz (Ze3 sL sL (ZwR (nB c) vL) (ZB (Z2 (Zbg (Zbf (ZQ vL jN Zce) (Zbf (ZQ (cF c ZfN (jc (Zw (Zw vL vL) vL) (jc (Zw (Zw vL vL) vL) Zp))) jI Zap) ZcY))) (ZB (ZP sL (cF c Znc (jc vL (jc (cF c Zmh (jc vL (jc (J.tup (jc jI (jc (Zw (Zw vL vL) vL) Zp))) Zp))) Zp))))) Z4))) (ZB (ZH vL))))
theorem Zt0: DD w s₀ mg mb 306 4 Zel:=by
 unfold DD;k_fill
 refine Dof (names:=["told","rests","met"]) (g:=ZgD) ?_
 exact fun _ _ _ _ _ _ _ c _ _=>(Zz (Z2 (ZQ vC jN ZaX) (ZB (ZH jN)) Z4) (Zz (ZP sC (cF c ZpX (jc (Zw vC jI) Zp))) (Zz (by refine sO sL ?_ ?_ ?_;(exact(JI.range (nB c) (jc jI (jc (Zau (nB c) (jc vC Zp) ZaS) Zp))));(exact fun _ _=>(cF (Zbp c) ZtC (jc (Zw vD jI) (jc vD (jc vO Zp)))));(exact fun _ _=>JF.nil)) (Zz (Z2 (ZQ jN vL Zfh) (ZB (ZH jN)) Z4) (ZB (ZH (J.tup (jc (Zw vC jI) (jc vL Zp)))))))))
theorem Zqu: DD w s₀ mg mb 114 1 Zik:=by
 unfold DD;k_fill
 refine Dof (names:=["one","other"]) (g:=ZlP) ?_
 exact fun _ _ _ _ _ _ _ c _ _=>(ZB (ZH (ZzX (ZcQ vL jN ZaX) (ZhF (ZcQ vL jN Zce) (ZcQ vL vL Zpb)))))
theorem ZrJ: DD w s₀ mg mb 121 2 ZiY:=by
 unfold DD;k_fill
 refine Dof (names:=["one","other"]) (g:=Zn5) ?_
 exact fun _ _ _ _ _ _ _ c _ _=>(ZB (ZH (ZeD (Zby (cF c Zqu (jc vL (jc vL Zp)))) vL vL)))
theorem Ztg: DD w s₀ mg mb 150 3 Zj7:=by
 unfold DD;k_fill
 refine Dof (names:=["row","there","further"]) (g:=Zj6) ?_
 exact fun _ _ _ _ _ _ _ c _ _=>(ZB (ZH (by refine cT ?_ ?_;(exact(JI2.zip (nB c) vL vL));(exact fun _ _=>(cF (Zbp c) ZrJ (jc vO (jc (cF (Zbp c) ZfN (jc vD (jc vO Zp))) Zp)))))))
theorem ZuV: DD w s₀ mg mb 145 4 ZlV:=by
 unfold DD;k_fill
 refine Dof (names:=["bounds","mid"]) (g:=ZlU) ?_
 exact fun _ _ _ _ _ _ _ c _ _=>(ZB (ZH (by refine cO ?_ ?_ ?_;(exact(JI.seq vC));(exact fun _ _=>(cF (Zbp c) Ztg (jc vO (jc (Zw vO vD) (jc (Zw vD vD) Zp)))));(exact fun _ _=>JF.nil))))
theorem ZtD: DD w s₀ mg mb 155 1 Zkp:=by
 unfold DD;k_fill
 refine Dof (names:=["bounds"]) (g:=Zko) ?_
 exact fun _ _ _ _ _ _ _ c _ _=>(ZB (ZH (Zau (nB c) (jc (by refine cO ?_ ?_ ?_;(exact(JI.range (nB c) (jc (Zau (nB c) (jc vC Zp) ZaS) Zp)));(exact fun _ _=>(ZcQ (Zw (Zw vD vO) vO) jI ZcR));(exact fun _ _=>JF.nil)) Zp) ZyB)))
theorem Zxk: DD w s₀ mg mb 140 5 Zf1:=by
 unfold DD;k_fill
 refine Dof (names:=["bounds","near","mid"]) (g:=Zn7) ?_
 exact fun _ _ _ _ _ _ _ c _ _=>(Zz (ZP sL vL) (Zz (Zbs sL (JI.range (nB c) (jc (Zau (nB c) (jc vL Zp) ZaS) Zp)) (Zz (ZP sL (cF c ZuV (jc vL (jc vL Zp)))) (ZB (Z2 (Zby (cF c ZtD (jc vL Zp))) (ZB (ZH jN)) Z4)))) (ZB (ZH vL))))
theorem Zzu: DD w s₀ mg mb 301 6 ZeB:=by
 unfold DD;k_fill
 refine Dof (names:=["told","bounds"]) (g:=Zjz) ?_
 exact fun _ _ _ _ _ _ _ c _ _=>(Zz (Z2 (ZQ vL jN ZaX) (ZB (ZH jN)) Z4) (Zz (ZP sL (cF c Zxk (jc (Zw vL jI) Zp))) (Zz (Z2 (ZQ vL jN ZaX) (ZB (ZH jN)) Z4) (ZB (ZH (J.tup (jc vL (jc (Zw vL jI) Zp))))))))
theorem ZsN: DD w s₀ mg mb 294 7 Zgj:=by
 unfold DD;k_fill
 refine Dof (names:=["told"]) (g:=ZoY) ?_
 exact fun _ _ _ _ _ _ _ c _ _=>(ZB (ZH (cF c Zt0 (jc (cF c Zzu (jc vL Zp)) Zp))))
theorem Zut: DD w s₀ mg mb 239 1 Zlo:=by
 unfold DD;k_fill
 refine Dof (names:=["one","top"]) (g:=Zln) ?_
 exact fun _ _ _ _ _ _ _ c _ _=>(Zz (Z2 (ZQ (Zw vL jI) jI Zap) (ZB (ZH (ZeD (ZQ (Zw vL jI) vL Zpb) (Zw vL jI) jN))) Z4) (ZB (ZH (ZJ vL (ZJ (ZJ vL (Zw vL jI) Zbk) (Zw vL jI) Za7) Zbk))))
theorem Zth: DD w s₀ mg mb 339 2 Zkd:=by
 unfold DD;k_fill
 refine Dof (names:=["bound","left"]) (g:=Zkc) ?_
 exact fun _ _ _ _ _ _ _ c _ _=>(Zz (Z2 (ZQ vL jN Zce) (ZB (ZH (cF c Zut (jc vL (jc vL Zp))))) Z4) (Zz (Z2 (ZQ (Zw vL jI) jI Zap) (ZB (ZH (Zw vL jI))) Z4) (ZB (ZH jN))))
theorem ZlJ: DD w s₀ mg mb 211 2 ZgH:=by
 unfold DD;k_fill
 refine Dof (names:=["one","k"]) (g:=Zlk) ?_
 exact fun _ _ _ _ _ _ _ c _ _=>(ZB (ZH (cF c Zgn (jc (ZJ (Zw vL jI) (Zau (nB c) (jc vL Zp) Zd8) Za8) (jc (ZJ (Zw vL jI) vL Za8) Zp)))))
theorem Zt1: DD w s₀ mg mb 332 3 ZkW:=by
 unfold DD;k_fill
 refine Dof (names:=["row","left","rests","new","bound","other","low"]) (g:=ZkV) ?_
 exact fun _ _ _ _ _ _ _ c _ _=>(Zz (ZP sL (J.list Zp)) (Zz (Ze3 sL sL (JI2.zip (nB c) vL vL) (Zz (ZP sL (cF c Zth (jc vL (jc (cF c Zmh (jc vL (jc (cF c ZlJ (jc vL (jc (Zb8 jI Zb1) Zp))) Zp))) Zp)))) (Zz (Z2 (Zbg (Zbf (ZQ vL jN ZaX) (Zbf (ZQ vL jN Zce) ZcY))) (ZB (ZH jN)) Z4) (ZB (Zc2 (J.append vL vL)))))) (ZB (ZH vL))))
theorem Zwt: DD w s₀ mg mb 325 4 Znr:=by
 unfold DD;k_fill
 refine Dof (names:=["told","rests","bounds"]) (g:=Znq) ?_
 exact fun _ _ _ _ _ _ _ c _ _=>(Zz (Z2 (ZQ vL jN ZaX) (ZB (ZH jN)) Z4) (Zz (ZP sC (cF c ZpX (jc (Zw vL jI) Zp))) (Zz (by refine sT sL ?_ ?_;(exact(JI2.zip (nB c) (Zw vL jI) vC));(exact fun _ _=>(cF (Zbp c) Zt1 (jc vO (jc vO (jc vD Zp)))))) (Zz (Z2 (ZQ jN vL Zfh) (ZB (ZH jN)) Z4) (ZB (ZH (J.tup (jc vL (jc (Zw vL jI) Zp)))))))))
theorem Zfa: DD w s₀ mg mb 287 8 Zd5:=by
 unfold DD;k_fill
 refine Dof (names:=["told"]) (g:=ZoA) ?_
 exact fun _ _ _ _ _ _ _ c _ _=>(ZB (ZH (cF c ZsN (jc (cF c Zwt (jc (cF c ZsN (jc vL Zp)) Zp)) Zp))))
theorem ZfO: DD w s₀ mg mb 280 3 Zet:=by
 unfold DD;k_fill
 refine Dof (names:=["one","rests","whole","k","part"]) (g:=ZmG) ?_
 exact fun _ _ _ _ _ _ _ c _ _=>(Zz (ZP sL (J.tup (jc jI (jc (Zw vL jI) Zp)))) (Zz (Ze3 sL sL (JI2.zip (nB c) (Zhv vL jI) vL) (ZB (ZP sL (cF c Zmh (jc vL (jc (cF c ZlJ (jc vL (jc vL Zp))) Zp)))))) (ZB (ZH vL))))
theorem ZpY: DD w s₀ mg mb 133 1 Zh6:=by
 unfold DD;k_fill
 refine Dof (names:=["i","n"]) (g:=Zk1) ?_
 exact fun _ _ _ _ _ _ _ c _ _=>(ZB (ZH (by refine cO ?_ ?_ ?_;(exact(JI.range (nB c) (jc (ZJ vL jI Zah) Zp)));(exact fun _ _=>(ZeD (ZQ vD vO Zap) jI jN));(exact fun _ _=>JF.nil))))
theorem ZjF: DD w s₀ mg mb 26 1 Zff:=by
 unfold DD;k_fill
 refine Dof (names:=["row","x","thing"]) (g:=ZjC) ?_
 exact fun _ _ _ _ _ _ _ c _ _=>(ZB (ZH (ZJ (ZJ (Zoo vL JP.none (JP.some (ZJ vL jI Zbk))) (J.list (jc vL Zp)) Zah) (Zoo vL (JP.some vL) JP.none) Zah)))
theorem ZvE: DD w s₀ mg mb 392 2 ZmK:=by
 unfold DD;k_fill
 refine Dof (names:=["bounds","x","loose"]) (g:=ZmJ) ?_
 exact fun _ _ _ _ _ _ _ c _ _=>(Zz (by refine sO sL ?_ ?_ ?_;(exact(JI.seq vL));(exact fun _ _=>(cF (Zbp c) ZjF (jc vO (jc (ZJ vD jI Zah) (jc jN Zp)))));(exact fun _ _=>JF.nil)) (Zz (S1.put (cF c ZpY (jc vC (jc (ZJ (Zau (nB c) (jc vL Zp) ZaS) jI Zbk) Zp))) vL vC) (ZB (ZH vL))))
theorem ZgU: DD w s₀ mg mb 86 1 ZeR:=by
 unfold DD;k_fill
 refine Dof (names:=["end","k"]) (g:=Zl0) ?_
 exact fun _ _ _ _ _ _ _ c _ _=>(Zz (Z2 (ZQ vL jN ZaX) (ZB (ZH jN)) Z4) (ZB (ZH (ZJ vL vL Za8))))
theorem ZvF: DD w s₀ mg mb 346 2 ZmM:=by
 unfold DD;k_fill
 refine Dof (names:=["bounds","i","one"]) (g:=Ziw) ?_
 exact fun _ _ _ _ _ _ _ c _ _=>(Zz (S1.put (Zw vL jI) (Zw vL vL) jI) (ZB (S1.put (cF c ZgU (jc (Zw vL jI) (jc (Zb8 jI Zb1) Zp))) (Zw vL jI) vL)))
theorem Zpa: DD w s₀ mg mb 387 9 ZhD:=by
 unfold DD;k_fill
 refine Dof (names:=["told","x","span","left","bounds"]) (g:=Zo0) ?_
 exact fun _ _ _ _ _ _ _ c _ _=>(Zz (Z2 (ZQ vL jN ZaX) (ZB (ZH jN)) Z4) (Zz (ZP sL (cF c ZvE (jc (Zw vL jI) (jc vL Zp)))) (Zz (Zc2 (cF c ZvF (jc vL (jc vL (jc vL Zp))))) (ZB (ZH (cF c Zfa (jc (J.tup (jc vL (jc (cF c ZjF (jc (Zw vL jI) (jc vL (jc vL Zp)))) Zp))) Zp)))))))
theorem Zti: DD w s₀ mg mb 363 1 Zkg:=by
 unfold DD;k_fill
 refine Dof (names:=["one"]) (g:=Zkf) ?_
 exact fun _ _ _ _ _ _ _ c _ _=>(ZB (ZH (ZcQ (Zau (nB c) (jc (by refine cO ?_ ?_ ?_;(exact(JI.seq (Zhv vL jI)));(exact fun _ _=>vO);(exact fun _ _=>JF.one (ZQ vO jI ZbQ))) Zp) ZvW) (J.list (jc (Zb8 jI Zb1) (jc jI Zp))) Zap)))
theorem ZtE: DD w s₀ mg mb 65 2 Zks:=by
 unfold DD;k_fill
 refine Dof (names:=["one","other"]) (g:=Zkr) ?_
 exact fun _ _ _ _ _ _ _ c _ _=>(ZB (ZH (J.tup (jc (cF c ZfN (jc (Zw vL jI) (jc (Zw vL jI) Zp))) (jc (cF c ZfN (jc (Zw vL jI) (jc (Zw vL jI) Zp))) Zp)))))
theorem Ztj: DD w s₀ mg mb 79 2 Zka:=by
 unfold DD;k_fill
 refine Dof (names:=["one","k","lo","hi"]) (g:=Zj9) ?_
 exact fun _ _ _ _ _ _ _ c _ _=>(Zz (Z2 (ZQ vL jI Zap) (ZB (ZH (J.tup (jc jI (jc jI Zp))))) Z4) (Zz (ZP sL (cF c ZgU (jc (Zw vL jI) (jc vL Zp)))) (Zz (ZP sL (cF c ZgU (jc (Zw vL jI) (jc vL Zp)))) (Zz (Z2 (ZQ vL jI ZcR) (ZB (ZH (J.tup (jc vL (jc vL Zp))))) Z4) (ZB (ZH (J.tup (jc vL (jc vL Zp)))))))))
theorem Zt2: DD w s₀ mg mb 273 3 ZkQ:=by
 unfold DD;k_fill
 refine Dof (names:=["one","stretches","whole","k","part"]) (g:=ZkP) ?_
 exact fun _ _ _ _ _ _ _ c _ _=>(Zz (ZP sL (J.tup (jc (Zw vL jI) (jc (Zw vL jI) Zp)))) (Zz (Ze3 sL sL (JI2.zip (nB c) (Zhv vL jI) vL) (ZB (ZP sL (cF c ZtE (jc vL (jc (cF c Ztj (jc vL (jc vL Zp))) Zp)))))) (ZB (ZH vL))))
theorem ZtF: DD w s₀ mg mb 351 2 ZkA:=by
 unfold DD;k_fill
 refine Dof (names:=["told","bounds"]) (g:=Zkz) ?_
 exact fun _ _ _ _ _ _ _ c _ _=>(Zz (ZP sC (Zw vL jI)) (ZB (ZH (by refine cO ?_ ?_ ?_;(exact(JI.range (nB c) (jc jI (jc (Zau (nB c) (jc vC Zp) ZaS) Zp))));(exact fun _ _=>(J.tup (jc (cF (Zbp c) ZgU (jc (Zw (Zw vD jI) vO) (jc (Zb8 jI Zb1) Zp))) (jc (Zw (Zw vD vO) jI) Zp))));(exact fun _ _=>JF.nil)))))
theorem Zg5: DD w s₀ mg mb 358 4 ZeV:=by
 unfold DD;k_fill
 refine Dof (names:=["told","one"]) (g:=ZmQ) ?_
 exact fun _ _ _ _ _ _ _ c _ _=>(Zz (Z2 (Zby (cF c Zti (jc vL Zp))) (ZB (ZH (cF c ZfN (jc (Zw (Zw (Zw vL jI) (J.index vL jI jI)) (J.index vL (Zb8 jI Zb1) jI)) (jc (Zw vL jI) Zp))))) Z4) (ZB (ZH (Zw (cF c Zt2 (jc vL (jc (cF c ZtF (jc vL Zp)) Zp))) jI))))
theorem ZvG: DD w s₀ mg mb 254 1 ZmT:=by
 unfold DD;k_fill
 refine Dof (names:=["one","other"]) (g:=ZmS) ?_
 exact fun _ _ _ _ _ _ _ c _ _=>(ZB (ZH (by refine cT ?_ ?_;(exact(JI2.zip (nB c) vL vL));(exact fun _ _=>(ZJ vO vO Zah)))))
theorem ZeT: DD w s₀ mg mb 259 1 ZdV:=by
 unfold DD;k_fill
 refine Dof (names:=["one","k"]) (g:=Zl7) ?_
 exact fun _ _ _ _ _ _ _ c _ _=>(ZB (ZH (by refine cO ?_ ?_ ?_;(exact(JI.seq vL));(exact fun _ _=>(ZJ vO vD Za8));(exact fun _ _=>JF.nil))))
theorem ZiH: DD w s₀ mg mb 266 2 ZfI:=by
 unfold DD;k_fill
 refine Dof (names:=["one","other"]) (g:=ZmV) ?_
 exact fun _ _ _ _ _ _ _ c _ _=>(ZB (ZH (cF c ZvG (jc vL (jc (cF c ZeT (jc vL (jc (Zb8 jI Zb1) Zp))) Zp)))))
theorem Zuu: DD w s₀ mg mb 380 5 Zlt:=by
 unfold DD;k_fill
 refine Dof (names:=["told","one","others"]) (g:=Zls) ?_
 exact fun _ _ _ _ _ _ _ c _ _=>(ZB (ZH (by refine cO ?_ ?_ ?_;(exact(JI.seq vL));(exact fun _ _=>(cF (Zbp c) Zg5 (jc vD (jc (cF (Zbp c) ZiH (jc vD (jc vO Zp))) Zp))));(exact fun _ _=>JF.nil))))
theorem Ze1: DD w s₀ mg mb 244 1 ZdZ:=by
 unfold DD;k_fill
 refine Dof (names:=["i","n"]) (g:=ZnC) ?_
 exact fun _ _ _ _ _ _ _ c _ _=>(ZB (ZH (by refine cO ?_ ?_ ?_;(exact(JI.range (nB c) (jc (ZJ vL jI Zah) Zp)));(exact fun _ _=>(ZeD (Zbg (Zbf (ZQ vD jI Zgp) (Zbf (ZQ vO vD Zap) ZcY))) jI jI));(exact fun _ _=>JF.nil))))
theorem Zon: DD w s₀ mg mb 375 9 Zhg:=by
 unfold DD;k_fill
 refine Dof (names:=["told","sums","all_sums","bounds","rests"]) (g:=Zoa) ?_
 exact fun _ _ _ _ _ _ _ c _ _=>(Zz (Z2 (ZQ vC jN ZaX) (ZB (ZH jN)) Z4) (Zz (ZP sC (ZJ (J.list (jc (cF c Ze1 (jc jI (jc (Zau (nB c) (jc (Zw vC jI) Zp) ZaS) Zp))) Zp)) vL Zah)) (Zz (by refine sO sL ?_ ?_ ?_;(exact(JI.seq vC));(exact fun _ _=>(cF (Zbp c) Zuu (jc vD (jc vO (jc vD Zp)))));(exact fun _ _=>JF.nil)) (Zz (by refine sO sL ?_ ?_ ?_;(exact(JI.seq vL));(exact fun _ _=>(cF (Zbp c) ZfO (jc vO (jc (Zw vD jI) Zp))));(exact fun _ _=>JF.nil)) (ZB (ZH (cF c Zfa (jc (J.tup (jc vL (jc vL Zp))) Zp))))))))
theorem Zsm: DD w s₀ mg mb 370 5 Zjg:=by
 unfold DD;k_fill
 refine Dof (names:=["told","one"]) (g:=ZoC) ?_
 exact fun _ _ _ _ _ _ _ c _ _=>(ZB (ZH (cF c ZgU (jc (cF c Zg5 (jc vL (jc (cF c ZeT (jc vL (jc (Zb8 jI Zb1) Zp))) Zp))) (jc (Zb8 jI Zb1) Zp)))))
theorem Zih: DD w s₀ mg mb 100 1 Zfz:=by
 unfold DD;k_fill
 refine Dof (names:=["end","k"]) (g:=ZlA) ?_
 exact fun _ _ _ _ _ _ _ c _ _=>(Zz (Z2 (ZQ vL jN ZaX) (ZB (ZH jN)) Z4) (ZB (ZH (ZJ vL vL Zcx))))
theorem Zpx: DD w s₀ mg mb 93 2 ZhR:=by
 unfold DD;k_fill
 refine Dof (names:=["one","k"]) (g:=Zj0) ?_
 exact fun _ _ _ _ _ _ _ c _ _=>(ZB (ZH (J.tup (jc (cF c Zih (jc (Zw vL jI) (jc vL Zp))) (jc (cF c Zih (jc (Zw vL jI) (jc vL Zp))) Zp)))))
theorem Zs5: DD w s₀ mg mb 107 3 Zj3:=by
 unfold DD;k_fill
 refine Dof (names:=["one","k","parts"]) (g:=Zj2) ?_
 exact fun _ _ _ _ _ _ _ c _ _=>(Zz (ZP sL (cF c Zpx (jc vL (jc vL Zp)))) (Zz (Z2 (Zbg (Zbf (ZQ (Zw vL jI) jN Zce) (Zbf (ZQ (Zw vL jI) (Zw vL jI) Zap) ZcY))) (ZB (ZH (J.tup (jc (ZJ (Zw vL jI) vL Za7) (jc (ZJ (Zw vL jI) vL Za7) Zp))))) Z4) (ZB (ZH (J.tup (jc jI (jc (ZJ vL jI Zbk) Zp)))))))
theorem Zt3: DD w s₀ mg mb 225 2 Zlc:=by
 unfold DD;k_fill
 refine Dof (names:=["one","k","common"]) (g:=Zlb) ?_
 exact fun _ _ _ _ _ _ _ c _ _=>(Zz (ZP sL (cF c ZiX (jc (Zw vL jI) (jc vL Zp)))) (Zz (Z2 (ZQ vL vL Zap) (ZB (ZH (J.tup (jc jI (jc (ZJ (Zw vL jI) vL Za7) Zp))))) Z4) (ZB (ZH (cF c Zgn (jc vL (jc (Zw vL jI) Zp)))))))
theorem Zt4: DD w s₀ mg mb 218 2 Zlf:=by
 unfold DD;k_fill
 refine Dof (names:=["one","k"]) (g:=Zle) ?_
 exact fun _ _ _ _ _ _ _ c _ _=>(Zz (Z2 (ZQ (ZJ (Zw vL jI) vL Za7) jI Zap) (ZB (ZH (cF c Zgn (jc (ZJ (Zw vL jI) vL Zcx) (jc (ZJ (Zw vL jI) vL Zcx) Zp))))) Z4) (ZB (ZH (J.tup (jc jI (jc jI Zp))))))
theorem Znd: DD w s₀ mg mb 249 2 Zg1:=by
 unfold DD;k_fill
 refine Dof (names:=["many","n"]) (g:=Zm2) ?_
 exact fun _ _ _ _ _ _ _ c _ _=>(ZB (ZH (by refine cO ?_ ?_ ?_;(exact(JI.range (nB c) (jc jI (jc (ZJ vL jI Zah) Zp))));(exact fun _ _=>(cF (Zbp c) Ze1 (jc vO (jc vD Zp))));(exact fun _ _=>JF.nil))))
theorem Zwu: DD w s₀ mg mb 521 10 ZnI:=by
 unfold DD;k_fill
 refine Dof (names:=["told","act","n","span","left"]) (g:=ZnH) ?_
 exact fun _ _ _ _ _ _ _ c _ _=>(Zz (Z2 (ZQ (Zw vL jI) jS Zap) (Zz (ZP sL (Zau (nB c) (jc (Zw vL jI) Zp) ZaS)) (ZB (ZH (cF c Zon (jc vL (jc (cF c ZjF (jc (cF c Znd (jc vL (jc vL Zp))) (jc (Zw vL jI) (jc (Zw vL jI) Zp)))) Zp)))))) Z4) (Zz (Z2 (ZQ (Zw vL jI) jS Zap) (ZB (ZH (cF c Zpa (jc vL (jc (Zw vL jI) (jc (J.tup (jc (Zw vL jI) (jc (Zw vL jI) Zp))) (jc (J.tup (jc jI (jc jI Zp))) Zp))))))) Z4) (Zz (ZP sL (J.tup (jc (cF c Zsm (jc vL (jc (Zw vL jI) Zp))) (jc (cF c Zg5 (jc vL (jc (Zw vL jI) Zp))) Zp)))) (Zz (ZP sL (cF c ZfO (jc (Zw vL jI) (jc (Zw vL jI) Zp)))) (Zz (Z2 (ZQ (Zw vL jI) jS Zap) (ZB (ZH (cF c Zpa (jc vL (jc (Zw vL jI) (jc (cF c Zpx (jc vL (jc (Zw vL jI) Zp))) (jc (cF c Zt4 (jc vL (jc (Zw vL jI) Zp))) Zp))))))) Z4) (ZB (ZH (cF c Zpa (jc vL (jc (Zw vL jI) (jc (cF c Zs5 (jc vL (jc (Zw vL jI) Zp))) (jc (cF c Zt3 (jc vL (jc (Zw vL jI) Zp))) Zp))))))))))))
theorem ZrK: ∀n:Nat,Def PySem.Challenge.rw_seer_k54_acts_by_steps.row.prog w (head.heap_39 w.params) head.view_39 (looseW head.view_39 []) (ExcName.means s₀.heap) mg mb 19 (n) (Zf2 n)
 | 0=>Zw1
 | n+1=>by
  have ih:=ZrK n
  k_fill
  refine' Zso (names:=["thing"]) (n:=1) (room:=n) (g:=ZoB (Zf2 n)) (ho:=?ho) (hcd:=?hcd) (nd:=by decide) (hn:=by decide) (hbind:=?hb) (hkinds:=?hk) (hone:=?h1) (hco:=?z1) (hgen:=?z2) (hk:=?z3) (hbody:=?hbody)
  case ho=>k_is
  case z1=>rfl
  case z2=>rfl
  case z3=>rfl
  case hcd=>k_is
  case hb=>intro s xs hx;match xs,hx with | [x0],_=>exact BindsTo.of_eq rfl
  case hk=>decide
  case h1=>decide +kernel
  case hbody=>
   intro dp un gd L outer h₀ hu clr hd1 hu1
   exact(Zz (Z2 (Zby (Zd1 (nB clr) (nB clr) (.inr (.inr (.inl rfl))) vL)) (ZB (ZH (by refine cO ?_ ?_ ?_;(exact(JI.seq vL));(exact fun _ _=>(cF (Zbp clr) ih (jc vO Zp)));(exact fun _ _=>JF.nil)))) Z4) (Zz (Z2 (Zby (Zd1 (nB clr) (nB clr) (.inr (.inr (.inr rfl))) vL)) (ZB (ZH (Zev (nB clr) (jc (by refine cO ?_ ?_ ?_;(exact(JI.seq vL));(exact fun _ _=>(cF (Zbp clr) ih (jc vO Zp)));(exact fun _ _=>JF.nil)) Zp) ZvP))) Z4) (ZB (ZH vL))))
theorem Zjo: Def PySem.Challenge.rw_seer_k54_acts_by_steps.row.prog w (head.heap_39 w.params) head.view_39 (looseW head.view_39 []) (ExcName.means s₀.heap) mg mb 19 9 Zgc:=ZrK 9
theorem ZiI: DD w s₀ mg mb 128 3 ZfH:=by
 unfold DD;k_fill
 refine Dof (names:=["bounds","i","j","bound"]) (g:=Ziz) ?_
 exact fun _ _ _ _ _ _ _ c _ _=>(ZB (S1.put (cF c ZrJ (jc (Zw (Zw vL vL) vL) (jc vL Zp))) (Zw vL vL) vL))
theorem Zqa: DD w s₀ mg mb 446 5 Zid:=by
 unfold DD;k_fill
 refine Dof (names:=["told","part","one","top"]) (g:=Zly) ?_
 exact fun _ _ _ _ _ _ _ c _ _=>(ZB (ZH (cF c ZfN (jc (cF c Zg5 (jc vL (jc (cF c ZiH (jc vL (jc vL Zp))) Zp))) (jc vL Zp)))))
theorem Zt5: DD w s₀ mg mb 432 6 Zk3:=by
 unfold DD;k_fill
 refine Dof (names:=["bounds","told","one","top","n","i","j","apart"]) (g:=Zh7) ?_
 exact fun _ _ _ _ _ _ _ c _ _=>(Zz (ZP sL (Zau (nB c) (jc (Zw vL jI) Zp) ZaS)) (ZB (Zbs sL (JI.range (nB c) (jc (ZJ vL jI Zah) Zp)) (ZB (Zbs sL (JI.range (nB c) (jc (ZJ vL jI Zah) Zp)) (Zz (ZP sL (cF c ZiH (jc (cF c Ze1 (jc vL (jc vL Zp))) (jc (cF c Ze1 (jc vL (jc vL Zp))) Zp)))) (ZB (Zc2 (cF c ZiI (jc vL (jc vL (jc vL (jc (cF c Zqa (jc vL (jc vL (jc vL (jc vL Zp))))) Zp)))))))))))))
theorem Zt6: DD w s₀ mg mb 439 6 Zk4:=by
 unfold DD;k_fill
 refine Dof (names:=["bounds","told","one","top","n","i","k","bound"]) (g:=Zh8) ?_
 exact fun _ _ _ _ _ _ _ c _ _=>(Zz (ZP sL (Zau (nB c) (jc (Zw vL jI) Zp) ZaS)) (ZB (Zbs sL (JI.range (nB c) (jc jI (jc (ZJ vL jI Zah) Zp))) (Zz (ZP sL (Zw vL vL)) (Zz (ZP sL (cF c Zqa (jc vL (jc (cF c ZeT (jc (cF c Ze1 (jc vL (jc vL Zp))) (jc vL Zp))) (jc vL (jc vL Zp)))))) (Zz (Z2 (ZQ vL jI Zgp) (ZB (Zc2 (cF c ZiI (jc vL (jc vL (jc jI (jc (cF c Zih (jc vL (jc vL Zp))) Zp))))))) Z4) (ZB (Z2 (ZQ vL jI ZcR) (ZB (Zc2 (cF c ZiI (jc vL (jc jI (jc vL (jc (cF c Zih (jc vL (jc (Zb8 vL Zb1) Zp))) Zp))))))) Z4))))))))
theorem Zwv: DD w s₀ mg mb 58 1 Znp:=by
 unfold DD;k_fill
 refine Dof (names:=["lo","hi"]) (g:=Zno) ?_
 exact fun _ _ _ _ _ _ _ c _ _=>(ZB (ZH (Zza (ZcQ vL jN Zce) (ZhF (ZcQ vL jN Zce) (ZcQ vL vL Zgp)))))
theorem Zhc: DD w s₀ mg mb 425 10 ZeZ:=by
 unfold DD;k_fill
 refine Dof (names:=["told","one","top","bounds"]) (g:=ZnE) ?_
 exact fun _ _ _ _ _ _ _ c _ _=>(Zz (Z2 (Zbg (ZaW (ZQ vL jN ZaX) (ZaW (Zby (cF c Zwv (jc (cF c Zsm (jc vL (jc vL Zp))) (jc vL Zp)))) Zct))) (ZB (ZH jN)) Z4) (Zz (ZP sL (cF c Zjo (jc (Zw vL jI) Zp))) (Zz (Zc2 (cF c Zt5 (jc vL (jc vL (jc vL (jc vL Zp)))))) (Zz (Zc2 (cF c Zt6 (jc vL (jc vL (jc vL (jc vL Zp)))))) (ZB (ZH (cF c Zfa (jc (J.tup (jc vL (jc (Zw vL jI) Zp))) Zp))))))))
theorem Zuv: DD w s₀ mg mb 460 11 ZlD:=by
 unfold DD;k_fill
 refine Dof (names:=["told","one","truth"]) (g:=ZlC) ?_
 exact fun _ _ _ _ _ _ _ c _ _=>(Zz (Z2 (Zby vL) (ZB (ZH (cF c Zhc (jc vL (jc vL (jc (Zb8 jI Zb1) Zp)))))) Z4) (ZB (ZH (cF c Zhc (jc vL (jc (cF c ZeT (jc vL (jc (Zb8 jI Zb1) Zp))) (jc jI Zp)))))))
theorem ZpE: DD w s₀ mg mb 232 2 ZhW:=by
 unfold DD;k_fill
 refine Dof (names:=["one","k"]) (g:=Zki) ?_
 exact fun _ _ _ _ _ _ _ c _ _=>(ZB (ZH (cF c Zgn (jc (cF c ZiX (jc (Zw vL jI) (jc vL Zp))) (jc (Zw vL jI) Zp)))))
theorem Zt7: DD w s₀ mg mb 507 4 Zk6:=by
 unfold DD;k_fill
 refine Dof (names:=["rests","one","d","i","k","left","others"]) (g:=Zk5) ?_
 exact fun _ _ _ _ _ _ _ c _ _=>(Zz (ZP sL (Zw vL vL)) (Zz (ZP sL (Zw vL (ZJ vL jI Zbk))) (Zz (Z2 (ZQ (Zau (nB c) (jc vL Zp) Zd8) jI ZbQ) (ZB (ZH vL)) Z4) (Zz (ZP sL (cF c ZiH (jc vL (jc (cF c ZeT (jc (cF c Ze1 (jc vL (jc (Zau (nB c) (jc vL Zp) ZaS) Zp))) (jc vL Zp))) Zp)))) (ZB (ZH (cF c Znc (jc vL (jc (cF c ZpE (jc (cF c ZlJ (jc (cF c ZfO (jc vL (jc vL Zp))) (jc (Zb8 vL Zb1) Zp))) (jc vL Zp))) Zp)))))))))
theorem Zqv: DD w s₀ mg mb 500 9 Zin:=by
 unfold DD;k_fill
 refine Dof (names:=["told","one","d","rests"]) (g:=Zl9) ?_
 exact fun _ _ _ _ _ _ _ c _ _=>(Zz (Z2 (ZQ vC jN ZaX) (ZB (ZH jN)) Z4) (Zz (by refine sO sL ?_ ?_ ?_;(exact(JI.range (nB c) (jc jI (jc (Zau (nB c) (jc vC Zp) ZaS) Zp))));(exact fun _ _=>(cF (Zbp c) Zt7 (jc (Zw vD jI) (jc vD (jc vD (jc vO Zp))))));(exact fun _ _=>JF.nil)) (Zz (Z2 (ZQ jN vL Zfh) (ZB (ZH jN)) Z4) (ZB (ZH (cF c Zfa (jc (J.tup (jc (Zw vC jI) (jc vL Zp))) Zp)))))))
theorem Zqw: DD w s₀ mg mb 488 10 Zio:=by
 unfold DD;k_fill
 refine Dof (names:=["told","one","d"]) (g:=Zmb) ?_
 exact fun _ _ _ _ _ _ _ c _ _=>(Zz (Z2 (Zc1 (Zby (cF c Zg4 (jc (cF c ZpE (jc (cF c ZfO (jc vL (jc (Zw vL jI) Zp))) (jc vL Zp))) (jc jI Zp))))) (ZB (ZH jN)) Z4) (ZB (ZH (cF c Zqv (jc vL (jc vL (jc vL Zp)))))))
theorem Zt8: DD w s₀ mg mb 190 2 ZkO:=by
 unfold DD;k_fill
 refine Dof (names:=["one","other"]) (g:=ZkN) ?_
 exact fun _ _ _ _ _ _ _ c _ _=>(Zz (Z2 (ZQ (Zw vL jI) jI Zap) (ZB (ZH (ZcQ vL vL Zap))) Z4) (ZB (ZH (ZhF (ZcQ (ZJ (Zw vL jI) (Zw vL jI) Za7) jI Zap) (cF c Zg4 (jc vL (jc (Zw vL jI) Zp)))))))
theorem Ztk: DD w s₀ mg mb 495 11 Zkl:=by
 unfold DD;k_fill
 refine Dof (names:=["told","one","d"]) (g:=Zkk) ?_
 exact fun _ _ _ _ _ _ _ c _ _=>(Zz (Z2 (Zby (cF c Zt8 (jc (cF c ZfO (jc vL (jc (Zw vL jI) Zp))) (jc (J.tup (jc vL (jc jI Zp))) Zp)))) (ZB (ZH jN)) Z4) (Zz (Z2 (ZQ vL jI Zap) (ZB (ZH (cF c Zqw (jc vL (jc (ZJ (J.list (jc (ZJ (Zw vL jI) jI Zah) Zp)) (Zhv vL jI) Zah) (jc jI Zp)))))) Z4) (ZB (ZH (cF c Zjo (jc vL Zp))))))
theorem ZuW: DD w s₀ mg mb 467 11 Zme:=by
 unfold DD;k_fill
 refine Dof (names:=["told","one","held"]) (g:=Zmd) ?_
 exact fun _ _ _ _ _ _ _ c _ _=>(Zz (Z2 (Zc1 (Zby (cF c Zg4 (jc (cF c ZfO (jc vL (jc (Zw vL jI) Zp))) (jc jI Zp))))) (ZB (ZH jN)) Z4) (Zz (ZP sL (cF c Zhc (jc (cF c Zhc (jc vL (jc vL (jc jI Zp)))) (jc (cF c ZeT (jc vL (jc (Zb8 jI Zb1) Zp))) (jc jI Zp))))) (ZB (ZH (cF c Zqv (jc vL (jc vL (jc jI Zp))))))))
theorem ZqP: DD w s₀ mg mb 481 11 ZiE:=by
 unfold DD;k_fill
 refine Dof (names:=["told","one"]) (g:=Zm0) ?_
 exact fun _ _ _ _ _ _ _ c _ _=>(Zz (Z2 (Zbg (Zbf (ZQ vL jN Zce) (Zbf (Zby (cF c Zqu (jc (cF c Zg5 (jc vL (jc vL Zp))) (jc jI Zp)))) ZcY))) (ZB (ZH (cF c Zhc (jc vL (jc vL (jc (Zb8 jI Zb1) Zp)))))) Z4) (ZB (ZH vL)))
theorem Ztl: DD w s₀ mg mb 474 12 Zkn:=by
 unfold DD;k_fill
 refine Dof (names:=["told","one"]) (g:=Zkm) ?_
 exact fun _ _ _ _ _ _ _ c _ _=>(ZB (ZH (cF c Zjo (jc (cF c ZqP (jc (cF c ZqP (jc vL (jc vL Zp))) (jc (cF c ZeT (jc vL (jc (Zb8 jI Zb1) Zp))) Zp))) Zp))))
theorem Zzv: DD w s₀ mg mb 453 13 Zo4:=by
 unfold DD;k_fill
 refine Dof (names:=["told","claim","truth"]) (g:=Zo3) ?_
 exact fun _ _ _ _ _ _ _ c _ _=>(Zz (Z2 (ZQ vL jN ZaX) (ZB (ZH jN)) Z4) (Zz (Z2 (ZQ (Zw vL jI) jS Zap) (ZB (ZH (cF c Zuv (jc vL (jc (Zw vL jI) (jc vL Zp)))))) Z4) (Zz (Z2 (ZQ (Zw vL jI) jS Zap) (ZB (ZH (ZeD (Zby vL) (cF c ZuW (jc vL (jc (Zw vL jI) Zp))) (cF c Ztl (jc vL (jc (Zw vL jI) Zp)))))) Z4) (ZB (ZH (ZeD (Zby vL) (cF c Zqw (jc vL (jc (Zw vL jI) (jc (Zw vL jI) Zp)))) (cF c Ztk (jc vL (jc (Zw vL jI) (jc (Zw vL jI) Zp))))))))))
theorem Zs6: DD w s₀ mg mb 411 10 ZjZ:=by
 unfold DD;k_fill
 refine Dof (names:=["bounds","at","other","new","i","row","j","bound"]) (g:=ZjY) ?_
 exact fun _ _ _ _ _ _ _ c _ _=>(Zz (ZP sL (cF c Zjo (jc vL Zp))) (Zz (Ze3 sL sL (JI2.zip (nB c) vL vL) (ZB (Ze3 sL sL (JI2.zip (nB c) vL vL) (ZB (Zc2 (cF c ZiI (jc vL (jc vL (jc vL (jc vL Zp)))))))))) (ZB (ZH vL))))
theorem Zww: DD w s₀ mg mb 404 11 Zny:=by
 unfold DD;k_fill
 refine Dof (names:=["told","at","other","rests","i","left"]) (g:=Znx) ?_
 exact fun _ _ _ _ _ _ _ c _ _=>(Zz (ZP sL (Zev (nB c) (jc (Zw vL jI) Zp) Ze2)) (Zz (Ze3 sL sL (JI2.zip (nB c) vL (Zw vL jI)) (ZB (S1.put (cF c Znc (jc (Zw vL (ZJ vL jI Zbk)) (jc vL Zp))) vL (ZJ vL jI Zbk)))) (Zz (Z2 (ZQ jN vL Zfh) (ZB (ZH jN)) Z4) (ZB (ZH (J.tup (jc (cF c Zs6 (jc (Zw vL jI) (jc (ZJ (J.list (jc jI Zp)) vL Zah) (jc (Zw vL jI) Zp)))) (jc vL Zp))))))))
theorem Zwx: DD w s₀ mg mb 397 2 Znw:=by
 unfold DD;k_fill
 refine Dof (names:=["told","more","n","bounds","new"]) (g:=Znv) ?_
 exact fun _ _ _ _ _ _ _ c _ _=>(Zz (ZP sC (Zau (nB c) (jc (Zw vL jI) Zp) ZaS)) (Zz (by refine sO sL ?_ ?_ ?_;(exact(JI.seq (Zw vL jI)));(exact fun _ _=>(ZJ vO (ZJ (J.list (jc jN Zp)) vD Za8) Zah));(exact fun _ _=>JF.nil)) (Zz (by refine sO sL ?_ ?_ ?_;(exact(JI.range (nB c) (jc (ZJ vC jI Zah) (jc (ZJ (ZJ vC vC Zah) jI Zah) Zp))));(exact fun _ _=>(cF (Zbp c) ZpY (jc vO (jc (ZJ vD vD Zah) Zp))));(exact fun _ _=>JF.nil)) (ZB (ZH (J.tup (jc (ZJ vL vL Zah) (jc (ZJ (Zw vL jI) (ZJ (J.list (jc (J.tup (jc jI (jc jI Zp))) Zp)) vC Za8) Zah) Zp))))))))
theorem ZvH: DD w s₀ mg mb 418 12 Zm6:=by
 unfold DD;k_fill
 refine Dof (names:=["told","x","row","summary","sharpened","n","answer","given","both"]) (g:=Zm5) ?_
 exact fun _ _ _ _ _ _ _ c _ _=>(Zz (ZP sL (cF c Zfa (jc vL Zp))) (Zz (Z2 (Zbg (ZaW (ZQ vL jN ZaX) (ZaW (ZQ vL jN ZaX) Zct))) (ZB (ZH jN)) Z4) (Zz (ZP sL (Zau (nB c) (jc (Zw vL jI) Zp) ZaS)) (Zz (ZP sL (ZJ (ZJ vL (Zau (nB c) (jc vL Zp) ZaS) Zah) jI Zah)) (Zz (ZP sL (cF c Zon (jc vL (jc (ZJ (cF c Znd (jc vL (jc vL Zp))) vL Zah) Zp)))) (Zz (Z2 (ZQ vL jN ZaX) (ZB (ZH jN)) Z4) (Zz (ZP sL (cF c Zfa (jc (cF c Zww (jc (cF c Zwx (jc vL (jc jI Zp))) (jc (Zx3 (nB c) (nB c) (jc (ZJ vL jI Zah) (jc (ZJ vL jI Zah) Zp))) (jc vL Zp)))) Zp))) (ZB (ZH (cF c Zon (jc vL (jc (cF c ZjF (jc (cF c Znd (jc vL (jc vL Zp))) (jc vL (jc (cF c Ze1 (jc vL (jc vL Zp))) Zp)))) Zp))))))))))))
theorem Zwy: DD w s₀ mg mb 514 14 ZnK:=by
 unfold DD;k_fill
 refine Dof (names:=["told","act","summaries","sharpened"]) (g:=ZnJ) ?_
 exact fun _ _ _ _ _ _ _ c _ _=>(Zz (ZP sL (cF c Zfa (jc vL Zp))) (Zz (Z2 (Zbg (ZaW (ZQ vL jN ZaX) (ZaW (ZQ (Zw vL jI) (J.tup (jc jS (jc jS Zp))) Zfh) Zct))) (ZB (ZH vL)) Z4) (Zz (Z2 (ZQ (Zw vL jI) jS Zap) (ZB (ZH (cF c Zzv (jc vL (jc (Zw vL jI) (jc (Zw vL jI) Zp)))))) Z4) (Zz (Z2 (ZQ (Zw vL jI) jS Zap) (ZB (ZH (cF c ZvH (jc vL (jc (Zw vL jI) (jc (Zw vL jI) (jc (Zw vL (Zw vL jI)) Zp))))))) Z4) (ZB (ZH (cF c Zwu (jc vL (jc vL Zp)))))))))
theorem Zmi: DD w s₀ mg mb 580 1 ZgO:=by
 unfold DD;k_fill
 refine Dof (names:=["_law_thing"]) (g:=ZlX) ?_
 exact fun _ _ _ _ _ _ _ c _ _=>(ZB (ZH (ZhF (Zd1 (nB c) (nB c) (.inl rfl) vL) (Zzw (Zd1 (nB c) (nB c) (.inr (.inl rfl)) vL)))))
theorem ZvI: DD w s₀ mg mb 587 2 ZmE:=by
 unfold DD;k_fill
 refine Dof (names:=["_law_thing","_law_size","_law_i","_law_top"]) (g:=ZmD) ?_
 exact fun _ _ _ _ _ _ _ c _ _=>(Zz (Z2 (Zbg (ZaW (Zc1 (Zby (Zd1 (nB c) (nB c) (.inr (.inr (.inl rfl))) vL))) (ZaW (ZQ (Zau (nB c) (jc vL Zp) ZaS) vL ZbQ) Zct))) (ZB (ZH jB)) Z4) (Zz (Zbs sL (JI.range (nB c) (jc vL Zp)) (Zz (Z2 (Zbg (ZaW (Zc1 (Zby (Zd1 (nB c) (nB c) (.inr (.inr (.inl rfl))) (Zw vL vL)))) (ZaW (ZQ (Zau (nB c) (jc (Zw vL vL) Zp) ZaS) vL ZbQ) Zct))) (ZB (ZH jB)) Z4) (Zz (Zbs sL (JI.seq (Zw vL vL)) (ZB (Z2 (Zbg (Zbf (ZQ vL jN Zce) (Zbf (Zc1 (Zby (cF c Zmi (jc vL Zp)))) ZcY))) (ZB (ZH jB)) Z4))) (ZB (Z2 (ZQ (Zw (Zw vL vL) vL) jI ZbQ) (ZB (ZH jB)) Z4))))) (ZB (ZH jB))))
theorem ZuX: DD w s₀ mg mb 594 3 Zl5:=by
 unfold DD;k_fill
 refine Dof (names:=["_law_thing","_law_many","_law_pair"]) (g:=Zl4) ?_
 exact fun _ _ _ _ _ _ _ c _ _=>(Zz (Z2 (Zbg (ZaW (Zc1 (Zby (Zd1 (nB c) (nB c) (.inr (.inr (.inr rfl))) vL))) (ZaW (ZQ (Zau (nB c) (jc vL Zp) ZaS) jI ZbQ) (ZaW (Zc1 (Zby (cF c ZvI (jc (Zw vL jI) (jc (ZJ vL jI Zah) Zp))))) Zct)))) (ZB (ZH jB)) Z4) (Zz (Z2 (Zbg (ZaW (Zc1 (Zby (Zd1 (nB c) (nB c) (.inr (.inr (.inl rfl))) (Zw vL jI)))) (ZaW (ZQ (Zau (nB c) (jc (Zw vL jI) Zp) ZaS) vL ZbQ) Zct))) (ZB (ZH jB)) Z4) (Zz (Zbs sL (JI.seq (Zw vL jI)) (Zz (Z2 (Zbg (ZaW (Zc1 (Zby (Zd1 (nB c) (nB c) (.inr (.inr (.inr rfl))) vL))) (ZaW (ZQ (Zau (nB c) (jc vL Zp) ZaS) jI ZbQ) Zct))) (ZB (ZH jB)) Z4) (Zz (Z2 (Zbg (ZaW (Zc1 (Zby (cF c Zmi (jc (Zw vL jI) Zp)))) (ZaW (Zc1 (Zby (cF c Zmi (jc (Zw vL jI) Zp)))) Zct))) (ZB (ZH jB)) Z4) (ZB (Z2 (Zbg (ZaW (ZQ (Zw vL jI) jI ZcR) (ZaW (Zbg (Zbf (ZQ (Zw vL jI) jI Zgp) (Zbf (Zc1 (ZwU jI (Zw vL jI) (Zw vL jI) Zpb ZcR)) ZcY))) Zct))) (ZB (ZH jB)) Z4))))) (ZB (ZH jB)))))
theorem ZtG: DD w s₀ mg mb 601 4 ZkI:=by
 unfold DD;k_fill
 refine Dof (names:=["_law_found","_law_due_here"]) (g:=ZkH) ?_
 exact fun _ _ _ _ _ _ _ c _ _=>(Zz (Z2 (ZQ vL jN ZaX) (ZB (ZH (ZcQ vL jN ZaX))) Z4) (ZB (ZH (ZhF (cF c ZuX (jc vL (jc (Zau (nB c) (jc (Zw vL jI) Zp) ZaS) Zp))) (ZcQ vL vL Zap)))))
end
end L
end
section
open PySem PySem.W PySem.Calls PyProof.Rows PM
open L
seal PySem.wpAny PM.J PM.Js PM.JT PM.JA PM.JF PM.JI PM.JI2 PM.JP PM.S1 PM.Ss PM.Sto PM.Rd PM.Nm PM.OpN PM.Op2 PM.Def
theorem PySem.Challenge.cw_seer_k54_acts_by_steps_holds : PySem.Challenge.rw_seer_k54_acts_by_steps.Holds :=
 head (by
  w_strict (k_go0;(rename Well _ _ _ _=>w9);(rename Frag.In _ _=>kx9);(rename Top _ _ _ _ _ _=>t9);(rename Fr _ _ _ _=>f9);(rename News _ _ _ _=>n9);(rename CellsAre _ _ _=>x9);(rename (PyData.layable0 _=true)=>hl9);(obtain⟨H9,e9⟩:=L.Zur (by omega) hl9);(refine' PM.Zxt (names:=["_law_script","_law_many","_law_boxes","_law_told_here","_law_act_here","_law_kept","_law_due_here","_law_turn","_law_found"]) (g:=Zod) (room:=14) ?hb ?h1 ?h2 ?h3 ?h4 kx9 t9 w9 ?len f9 n9 x9 e9 ?post);(case h1=>decide);(case h2=>decide);(case h3=>rfl);(case h4=>rfl);(case len=>(rw[PM.Zbr];omega));(case hb=>(intro dp un gd L a ccd outer h₀ hu clr hd1 hu1;exact(Zz (ZP sL (Zw (J.list (jc jI (jc jI (jc jI (jc jI (jc jI (jc jI (jc jI (jc jI (jc jI Zp)))))))))) (cF clr law_pick_d (jc vC (jc jI (jc jI Zp)))))) (Zz (by refine sO sL ?_ ?_ ?_;(exact(JI.range (nB clr) (jc vL Zp)));(exact fun _ _=>(cF (Zbp clr) ZfA (jc vD (jc (ZJ jI vO Zah) Zp))));(exact fun _ _=>JF.nil)) (Zz (ZP sL (cF clr ZvB (jc vC (jc jI (jc vL Zp))))) (Zz (ZP sL (cF clr Zra (jc vC (jc vL Zp)))) (Zz (Z2 (ZQ (cF clr law_pick_d (jc vC (jc jI (jc jI Zp)))) jI Zap) (ZB (ZP sL jN)) Z4) (Zz (ZP sL (cF clr ZvC (jc vL Zp))) (Zz (ZP sL (cF clr ZtZ (jc vL (jc vL Zp)))) (Zz (Zbs sL (JI.range (nB clr) (jc jI Zp)) (Zz (ZP sL (cF clr Zwy (jc vL (jc vL (jc (J.list Zp) Zp))))) (Zz (Z2 (Zbg (ZaW (Zc1 (Zby (cF clr ZtG (jc vL (jc vL Zp))))) (ZaW (ZQ vL (cF clr Zra (jc vC (jc vL Zp))) ZbQ) Zct))) (ZB (ZH jB)) Z4) (Zz (Z2 (ZQ vL jN Zce) (Zz (S1.put jI (Zw (Zw vL jI) jI) jI) (ZB (Zc2 (J.append (Zw vL jI) (J.tup (jc jI (jc jI Zp))))))) Z4) (ZB (Z2 (ZQ vL vL ZbQ) (ZB (ZH jB)) Z4)))))) (ZB (ZH jB))))))))))));(case post=>(intro h' tk' m' F';k_steps)))
  )
end
