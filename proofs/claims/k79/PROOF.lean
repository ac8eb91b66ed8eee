import PyProof.Rows.All
import Wide.All
import OpenK.AllK
import Wide.FinOn
import PySem.Challenge.RW_seer_k79_the_start_that_breaks
noncomputable section
local macro_rules|`(.o)=>`((by omega))
local macro_rules|`(.d)=>`((by decide))
local macro_rules|`(.k)=>`((by k_is))
local macro_rules|`(.s)=>`((by simp))
local macro_rules|`(.D)=>`((by decide +kernel))
local macro_rules|`(.r)=>`((by rfl))
local macro_rules|`(.l)=>`((by lia))
set_option linter.all false
set_option maxRecDepth 100000
set_option maxHeartbeats 8000000
theorem Yx0{d:Type _}{a:d}{P:Prop}(h:none=some a):P:=by cases h
abbrev Yy0:=@List.getElem?_append_left
abbrev Yy1:=@List.getElem?_eq_getElem
abbrev Yy2:=@List.getElem?_set_ne
abbrev Yy3:=@List.mem_cons_of_mem
abbrev Yy4:=@List.mem_of_getElem?
abbrev Yy5:=@List.getElem?_append_right
abbrev Yy6:=@List.getElem?_set_self
abbrev Yy7:=@List.mem_append_left
abbrev Yy8:=@List.getElem?_eq_none
abbrev Yy9:=@List.mem_filter
abbrev Yy10:=@List.append_assoc
theorem Ys0{d c:Type _}(a:d)(f:d->Option c):(some a).bind f=f a:=rfl
theorem Ys1{d c:Type _}(a:d)(f:d->c):(some a).map f=some (f a):=rfl
abbrev Zz0:=@Option.bind_eq_some_iff
abbrev Zz1:=@Option.map_eq_some_iff
abbrev Zz2:=@List.mem_cons_of_mem
abbrev Zz3:=@List.mem_append_right
abbrev Zz4:=@List.mem_append_left
abbrev Zz5:=@List.mem_cons_self
abbrev Zz6:=@List.getElem?_eq_some_iff
abbrev Zz7:=@List.mem_cons
abbrev Zz8:=@List.mem_append
abbrev Zz9:=@List.mem_singleton
abbrev Zz10:=@Nat.le_refl
abbrev Zz11:=@List.mem_map
set_option Elab.async false
set_option compiler.extract_closed false
set_option bootstrap.genMatcherCode false
theorem Q02{P A B:Prop}(h:A/\B)(f:A->B->P):P:=f h.1 h.2
theorem Q11{d:Sort _}{A:d->Prop}{P:Prop}(h:∃x,A x)(f:∀x,A x->P):P:=h.elim f
theorem Q03{P A B C:Prop}(h:A/\B/\C)(f:A->B->C->P):P:=f h.1 h.2.1 h.2.2
theorem Q12{d:Sort _}{A B:d->Prop}{P:Prop}(h:∃x,A x/\B x)(f:∀x,A x->B x->P):P:=h.elim λx h=>f x h.1 h.2
theorem Q21{d c:Sort _}{A:d->c->Prop}{P:Prop}(h:∃x y,A x y)(f:∀x y,A x y->P):P:=h.elim λx h=>h.elim λy h=>f x y h
theorem Q04{P A B C D:Prop}(h:A/\B/\C/\D)(f:A->B->C->D->P):P:=f h.1 h.2.1 h.2.2.1 h.2.2.2
theorem Q13{d:Sort _}{A B C:d->Prop}{P:Prop}(h:∃x,A x/\B x/\C x)(f:∀x,A x->B x->C x->P):P:=h.elim λx h=>f x h.1 h.2.1 h.2.2
theorem Q22{d c:Sort _}{A B:d->c->Prop}{P:Prop}(h:∃x y,A x y/\B x y)(f:∀x y,A x y->B x y->P):P:=h.elim λx h=>h.elim λy h=>f x y h.1 h.2
theorem Q31{d c a:Sort _}{A:d->c->a->Prop}{P:Prop}(h:∃x y z,A x y z)(f:∀x y z,A x y z->P):P:=h.elim λx h=>h.elim λy h=>h.elim λz h=>f x y z h
theorem Q05{P A B C D E:Prop}(h:A/\B/\C/\D/\E)(f:A->B->C->D->E->P):P:=f h.1 h.2.1 h.2.2.1 h.2.2.2.1 h.2.2.2.2
theorem Q14{d:Sort _}{A B C D:d->Prop}{P:Prop}(h:∃x,A x/\B x/\C x/\D x)(f:∀x,A x->B x->C x->D x->P):P:=h.elim λx h=>f x h.1 h.2.1 h.2.2.1 h.2.2.2
theorem Q23{d c:Sort _}{A B C:d->c->Prop}{P:Prop}(h:∃x y,A x y/\B x y/\C x y)(f:∀x y,A x y->B x y->C x y->P):P:=h.elim λx h=>h.elim λy h=>f x y h.1 h.2.1 h.2.2
theorem Q32{d c a:Sort _}{A B:d->c->a->Prop}{P:Prop}(h:∃x y z,A x y z/\B x y z)(f:∀x y z,A x y z->B x y z->P):P:=h.elim λx h=>h.elim λy h=>h.elim λz h=>f x y z h.1 h.2
theorem Q41{d c a δ:Sort _}{A:d->c->a->δ->Prop}{P:Prop}(h:∃x y z u,A x y z u)(f:∀x y z u,A x y z u->P):P:=h.elim λx h=>h.elim λy h=>h.elim λz h=>h.elim λu h=>f x y z u h
theorem Q06{P A B C D E F:Prop}(h:A/\B/\C/\D/\E/\F)(f:A->B->C->D->E->F->P):P:=f h.1 h.2.1 h.2.2.1 h.2.2.2.1 h.2.2.2.2.1 h.2.2.2.2.2
theorem Q15{d:Sort _}{A B C D E:d->Prop}{P:Prop}(h:∃x,A x/\B x/\C x/\D x/\E x)(f:∀x,A x->B x->C x->D x->E x->P):P:=h.elim λx h=>f x h.1 h.2.1 h.2.2.1 h.2.2.2.1 h.2.2.2.2
theorem Q24{d c:Sort _}{A B C D:d->c->Prop}{P:Prop}(h:∃x y,A x y/\B x y/\C x y/\D x y)(f:∀x y,A x y->B x y->C x y->D x y->P):P:=h.elim λx h=>h.elim λy h=>f x y h.1 h.2.1 h.2.2.1 h.2.2.2
theorem Q33{d c a:Sort _}{A B C:d->c->a->Prop}{P:Prop}(h:∃x y z,A x y z/\B x y z/\C x y z)(f:∀x y z,A x y z->B x y z->C x y z->P):P:=h.elim λx h=>h.elim λy h=>h.elim λz h=>f x y z h.1 h.2.1 h.2.2
theorem Q42{d c a δ:Sort _}{A B:d->c->a->δ->Prop}{P:Prop}(h:∃x y z u,A x y z u/\B x y z u)(f:∀x y z u,A x y z u->B x y z u->P):P:=h.elim λx h=>h.elim λy h=>h.elim λz h=>h.elim λu h=>f x y z u h.1 h.2
theorem Q51{d c a δ ε:Sort _}{A:d->c->a->δ->ε->Prop}{P:Prop}(h:∃x y z u v,A x y z u v)(f:∀x y z u v,A x y z u v->P):P:=h.elim λx h=>h.elim λy h=>h.elim λz h=>h.elim λu h=>h.elim λv h=>f x y z u v h
theorem Q07{P A B C D E F G:Prop}(h:A/\B/\C/\D/\E/\F/\G)(f:A->B->C->D->E->F->G->P):P:=f h.1 h.2.1 h.2.2.1 h.2.2.2.1 h.2.2.2.2.1 h.2.2.2.2.2.1 h.2.2.2.2.2.2
theorem Q16{d:Sort _}{A B C D E F:d->Prop}{P:Prop}(h:∃x,A x/\B x/\C x/\D x/\E x/\F x)(f:∀x,A x->B x->C x->D x->E x->F x->P):P:=h.elim λx h=>f x h.1 h.2.1 h.2.2.1 h.2.2.2.1 h.2.2.2.2.1 h.2.2.2.2.2
theorem Q25{d c:Sort _}{A B C D E:d->c->Prop}{P:Prop}(h:∃x y,A x y/\B x y/\C x y/\D x y/\E x y)(f:∀x y,A x y->B x y->C x y->D x y->E x y->P):P:=h.elim λx h=>h.elim λy h=>f x y h.1 h.2.1 h.2.2.1 h.2.2.2.1 h.2.2.2.2
theorem Q34{d c a:Sort _}{A B C D:d->c->a->Prop}{P:Prop}(h:∃x y z,A x y z/\B x y z/\C x y z/\D x y z)(f:∀x y z,A x y z->B x y z->C x y z->D x y z->P):P:=h.elim λx h=>h.elim λy h=>h.elim λz h=>f x y z h.1 h.2.1 h.2.2.1 h.2.2.2
theorem Q43{d c a δ:Sort _}{A B C:d->c->a->δ->Prop}{P:Prop}(h:∃x y z u,A x y z u/\B x y z u/\C x y z u)(f:∀x y z u,A x y z u->B x y z u->C x y z u->P):P:=h.elim λx h=>h.elim λy h=>h.elim λz h=>h.elim λu h=>f x y z u h.1 h.2.1 h.2.2
theorem Q52{d c a δ ε:Sort _}{A B:d->c->a->δ->ε->Prop}{P:Prop}(h:∃x y z u v,A x y z u v/\B x y z u v)(f:∀x y z u v,A x y z u v->B x y z u v->P):P:=h.elim λx h=>h.elim λy h=>h.elim λz h=>h.elim λu h=>h.elim λv h=>f x y z u v h.1 h.2
theorem Q61{d c a δ ε ζ:Sort _}{A:d->c->a->δ->ε->ζ->Prop}{P:Prop}(h:∃x y z u v w,A x y z u v w)(f:∀x y z u v w,A x y z u v w->P):P:=h.elim λx h=>h.elim λy h=>h.elim λz h=>h.elim λu h=>h.elim λv h=>h.elim λw h=>f x y z u v w h
theorem Q08{P A B C D E F G H:Prop}(h:A/\B/\C/\D/\E/\F/\G/\H)(f:A->B->C->D->E->F->G->H->P):P:=f h.1 h.2.1 h.2.2.1 h.2.2.2.1 h.2.2.2.2.1 h.2.2.2.2.2.1 h.2.2.2.2.2.2.1 h.2.2.2.2.2.2.2
theorem Q17{d:Sort _}{A B C D E F G:d->Prop}{P:Prop}(h:∃x,A x/\B x/\C x/\D x/\E x/\F x/\G x)(f:∀x,A x->B x->C x->D x->E x->F x->G x->P):P:=h.elim λx h=>f x h.1 h.2.1 h.2.2.1 h.2.2.2.1 h.2.2.2.2.1 h.2.2.2.2.2.1 h.2.2.2.2.2.2
theorem Q26{d c:Sort _}{A B C D E F:d->c->Prop}{P:Prop}(h:∃x y,A x y/\B x y/\C x y/\D x y/\E x y/\F x y)(f:∀x y,A x y->B x y->C x y->D x y->E x y->F x y->P):P:=h.elim λx h=>h.elim λy h=>f x y h.1 h.2.1 h.2.2.1 h.2.2.2.1 h.2.2.2.2.1 h.2.2.2.2.2
theorem Q35{d c a:Sort _}{A B C D E:d->c->a->Prop}{P:Prop}(h:∃x y z,A x y z/\B x y z/\C x y z/\D x y z/\E x y z)(f:∀x y z,A x y z->B x y z->C x y z->D x y z->E x y z->P):P:=h.elim λx h=>h.elim λy h=>h.elim λz h=>f x y z h.1 h.2.1 h.2.2.1 h.2.2.2.1 h.2.2.2.2
theorem Q44{d c a δ:Sort _}{A B C D:d->c->a->δ->Prop}{P:Prop}(h:∃x y z u,A x y z u/\B x y z u/\C x y z u/\D x y z u)(f:∀x y z u,A x y z u->B x y z u->C x y z u->D x y z u->P):P:=h.elim λx h=>h.elim λy h=>h.elim λz h=>h.elim λu h=>f x y z u h.1 h.2.1 h.2.2.1 h.2.2.2
theorem Q53{d c a δ ε:Sort _}{A B C:d->c->a->δ->ε->Prop}{P:Prop}(h:∃x y z u v,A x y z u v/\B x y z u v/\C x y z u v)(f:∀x y z u v,A x y z u v->B x y z u v->C x y z u v->P):P:=h.elim λx h=>h.elim λy h=>h.elim λz h=>h.elim λu h=>h.elim λv h=>f x y z u v h.1 h.2.1 h.2.2
theorem Q62{d c a δ ε ζ:Sort _}{A B:d->c->a->δ->ε->ζ->Prop}{P:Prop}(h:∃x y z u v w,A x y z u v w/\B x y z u v w)(f:∀x y z u v w,A x y z u v w->B x y z u v w->P):P:=h.elim λx h=>h.elim λy h=>h.elim λz h=>h.elim λu h=>h.elim λv h=>h.elim λw h=>f x y z u v w h.1 h.2
theorem Q71{d c a δ ε ζ η:Sort _}{A:d->c->a->δ->ε->ζ->η->Prop}{P:Prop}(h:∃x y z u v w s,A x y z u v w s)(f:∀x y z u v w s,A x y z u v w s->P):P:=h.elim λx h=>h.elim λy h=>h.elim λz h=>h.elim λu h=>h.elim λv h=>h.elim λw h=>h.elim λs h=>f x y z u v w s h
theorem nope{d:Type _}{P:Prop}{z:d}(h:none=some z):P:=nomatch h
theorem nopf{P:Prop}(h:false=true):P:=nomatch h
theorem nopt{P:Prop}(h:true=false):P:=nomatch h
theorem nopl{d:Type _}{P:Prop}{x:d}{l:List d}(h:[]=x::l):P:=nomatch h
local macro_rules|`(tactic|obtain⟨$ps,*⟩:=$t)=>do
 let ps:=ps.getElems
 let n:=ps.size
 if n<2 then Lean.Macro.throwUnsupported
 let mut bs:Array Lean.Term:= #[]
 let mut qs:Array (Array (Lean.TSyntax `tactic)):= #[]
 for p in ps do
  let r:=p.raw[0]
  let c:=r[0][0]
  if r[0].getNumArgs>1 then Lean.Macro.throwUnsupported
  if c.isOfKind ``Lean.Parser.Tactic.rcasesPat.one&&c[0].getId != `rfl then
   bs:=bs.push ⟨c[0]⟩
   qs:=qs.push #[]
  else if c.isOfKind ``Lean.Parser.Tactic.rcasesPat.ignore then
   bs:=bs.push (<- `(_))
   qs:=qs.push #[]
  else
   let q:=Lean.mkIdent (<- Lean.Macro.addMacroScope (.mkSimple s!"q{bs.size}"))
   bs:=bs.push q
   qs:=qs.push #[<- `(tactic|obtain $(⟨r⟩):rcasesPatMed:= $q)]
 let g:=t.raw.isIdent
 let i:Lean.Ident:=⟨t⟩
 let v:Lean.Term<- (if g then `(q) else pure t)
 let u:Lean.TSyntax `tactic<- (if g then `(tactic|(revert $i:ident;intro q)) else `(tactic|skip))
 let c:Lean.TSyntax `tactic<- (if g then `(tactic|clear q) else `(tactic|skip))
 let mut r:Array (Lean.TSyntax `tactic):= #[]
 for d in [0:n] do
  let j:=n-d
  let mut b:Array Lean.Term:= #[]
  let mut s:Array (Lean.TSyntax `tactic):= #[]
  for i in [0:j] do
   if s.isEmpty then b:=b.push bs[i]! else s:=s.push (<- `(tactic|intro $(bs[i]!):term))
   s:=s++qs[i]!
  if j=n&&n<9 then
   for k in [0:n] do
    let f:=Lean.mkIdent (.mkSimple s!"Q{k}{n-k}")
    r:=r.push (<- `(tactic|(refine $f $v fun $b* =>?_;$c:tactic;($[$s:tactic];*))))
  if j<n&&j<8 then
   let z:=ps.extract j n
   for k in [0:j+1] do
    let f:=Lean.mkIdent (.mkSimple s!"Q{k}{j+1-k}")
    r:=r.push (<- `(tactic|(refine $f $v fun $b* =>?_;$c:tactic;($[$s:tactic];*);intro q;obtain⟨$z,*⟩:=q)))
 `(tactic|($u:tactic;first $[|$r:tactic]*))
set_option hygiene false in
local macro_rules|`(tactic|right)=>`(tactic|((show let GG:Prop:=_;GG);intro GG))
set_option hygiene false in
local macro_rules|`(tactic|left)=>`(tactic|(unfold GG;clear GG))
local macro_rules|`(tactic|cases $h:ident)=>`(tactic|first|exact nope $h|exact nopf $h|exact nopt $h|exact nopl $h|cases ($h))
set_option hygiene false in
local macro_rules|`(.y)=>`(List V->Hp->Option (V×Hp))
section
namespace PM
open PySem PyProof.Rows
variable{n a:Addr}{i k:Nat}{xs ys:List Value}{x:Value}{led fr l l' c fs:List (Addr×Obj)}{o:Obj}{h h':Heap}{q s:Addr×Obj}{m:Str->Option Value}
inductive V where
 | none
 | bool (b:Bool)
 | int (i:Int)
 | str (s:Str)
 | tup (vs:List V)
 | ref (a:Nat)
 | obj (c:Nat×List Str) (a:Nat)
 | dct (a:Nat)
variable{P:List V->List Value->Prop}{vs us:List V}{v:V}
abbrev Hp:=List (List V)
variable{H:Hp}
abbrev Lc:=Nat->Option V
variable{U:Lc}
noncomputable def ZK: Nat:=100000
theorem ZD: ZK=100000:=rfl
theorem Zcv{n:Nat}(h:n<=ZK): n<=sizeLine:=by
 have:sizeLine=2 ^ 24:=rfl
 rw[this];rw[ZD]at h;lia
noncomputable abbrev Zco(xs:List Value)(k:Nat): Obj:={ cls:=.type "tuple",data:=.seq xs.toArray k }
noncomputable abbrev Zat(xs:List Value)(k:Nat): Obj:={ cls:=.type "list",data:=.seq xs.toArray k }
structure Wd where
 pi:List Addr
 tups:List (Addr×Obj)
 sc:Addr×Obj
 ins:List (Nat×Option (List Str))
variable{W':Wd}
structure Wd.Le(W W':Wd): Prop where
 pi:W.pi <+: W'.pi
 tups:∀q∈W.tups,q∈W'.tups
 sc:W'.sc=W.sc
 ins:∀q∈W.ins,q∈W'.ins
 inew:∀q∈W'.ins,q∈W.ins∨W.pi.length<=q.1
theorem Wd.Le.refl(W:Wd): W.Le W:=⟨List.prefix_refl _,λ_ h=>h,rfl,λ_ h=>h,λ_ h=>.inl h⟩
theorem Wd.Le.trans{W W'':Wd}(a:W.Le W')(b:W'.Le W''): W.Le W'':=⟨a.pi.trans b.pi,λq h=>b.tups q (a.tups q h),b.sc.trans a.sc,λq h=>b.ins q (a.ins q h),λq h=>by
 rcases b.inew q h with z | z
 ·exact a.inew q z
 ·exact .inr (Nat.le_trans a.pi.length_le z)⟩
def Wd.At(W:Wd)(i:Nat)(a:Addr): Prop:=W.pi[i]?=some a/\∀q∈W.ins,q.1≠i
def ZgO(o:Obj)(C dx:Addr): Prop:=o = { cls:=.ref C,dict:=some dx,data:=.plain }
inductive FE: List Str->List Value->List DictEntry->Prop where
 | nil {fs:List Str}:FE fs [] []
 | cons {f:Str} {fs:List Str} {x:Value} {xs:List Value} {hs:Int} {t:Tok} {es:List DictEntry}:FE fs xs es->FE (f::fs) (x::xs) (⟨hs,.str f t,x⟩::es)
noncomputable def ZuM(x y:Int): Int:=reduceHash (Builtin.Tuple.tupleHashOf [hashInt x,hashInt y])
def FD(vs:List V)(xs:List Value)(es:List DictEntry): Prop:=(vs=[]/\xs=[]/\es=[])∨∃x y v k z,vs=[.tup [.int x,.int y],v]/\xs=[.ref k,z]/\es=[⟨ZuM x y,.ref k,z⟩]
def ZgP(o:Obj)(fo:Option (List Str))(vs:List V)(xs:List Value): Prop:=∃es n,o = { cls:=.type "dict",data:=.dict es.toArray n }/\match fo with
 | some fs=>FE fs xs es
 | none=>FD vs xs es
def Ze4(fo:Option (List Str))(vs:List V): Prop:=match fo with
 | some fs=>vs.length<=fs.length
 | none=>True
theorem Wd.Le.piAt{W:Wd}(h:W.Le W')(e:W.pi[i]?=some a): W'.pi[i]?=some a:=by
 obtain⟨t,ht⟩:=h.pi
 have hi:i<W.pi.length:=(Zz6.mp e).1
 rw[<-ht,Yy0 hi]
 exact e
theorem Wd.Le.at{W:Wd}(h:W.Le W')(e:W.At i a): W'.At i a:=⟨h.piAt e.1,λq hq z=>by
 rcases h.inew q hq with y | y
 ·exact e.2 q y z
 ·have:=(Zz6.mp e.1).1
  lia⟩
mutual
inductive VR(W:Wd): V->Value->Prop where
 | none:VR W .none .none
 | bool (b:Bool):VR W (.bool b) (.bool b)
 | int (i:Int) (t:Tok):VR W (.int i) (.int i t)
 | str (s:Str) (t:Tok):VR W (.str s) (.str s t)
 | tup {vs:List V} {a:Addr} {xs:List Value} {k:Nat}:(a,Zco xs k)∈W.tups->vs.length<=ZK->VRs W vs xs->VR W (.tup vs) (.ref a)
 | ref {i:Nat} {a:Addr}:W.At i a->VR W (.ref i) (.ref a)
 | obj {c:Nat×List Str} {i:Nat} {a x:Addr} {ox:Obj}:W.pi[i]?=some a->(i,some c.2)∈W.ins->(x,ox)∈W.tups->ZgO ox c.1 a->VR W (.obj c i) (.ref x)
 | dct {i:Nat} {a:Addr}:W.pi[i]?=some a->(i,none)∈W.ins->a≠1->VR W (.dct i) (.ref a)
inductive VRs(W:Wd): List V->List Value->Prop where
 | nil:VRs W [] []
 | cons {v:V} {x:Value} {vs:List V} {xs:List Value}:VR W v x->VRs W vs xs->VRs W (v::vs) (x::xs)
end
mutual
theorem VR.mono{W W':Wd}(h:W.Le W'){v:V}{x:Value}(r:VR W v x): VR W' v x:=by
 cases r with
 | none=>exact .none
 | bool b=>exact .bool b
 | int i t=>exact .int i t
 | str s t=>exact .str s t
 | tup hm hl hs=>exact .tup (h.tups _ hm) hl (VRs.mono h hs)
 | ref e=>exact .ref (h.at e)
 | obj h1 h2 h3 h4=>exact .obj (h.piAt h1) (h.ins _ h2) (h.tups _ h3) h4
 | dct h1 h2 h3=>exact .dct (h.piAt h1) (h.ins _ h2) h3
theorem VRs.mono{W W':Wd}(h:W.Le W'){vs:List V}{xs:List Value}(r:VRs W vs xs): VRs W' vs xs:=by
 cases r with
 | nil=>exact .nil
 | cons a b=>exact .cons (VR.mono h a) (VRs.mono h b)
end
theorem VRs.ind{W:Wd}(h0:P [] [])(h1:∀{v x vs xs},VR W v x->VRs W vs xs->P vs xs->P (v::vs) (x::xs))(r:VRs W vs xs): P vs xs:=
 @VRs.rec W (λ_ _ _=>True) (λvs xs _=>P vs xs) trivial (λ_=>trivial) (λ_ _=>trivial) (λ_ _=>trivial) (λ_ _ _ _=>trivial) (λ_=>trivial) (λ_ _ _ _=>trivial) (λ_ _ _=>trivial) h0 (λa r _ ih=>h1 a r ih) vs xs r
theorem VRs.length{W:Wd}(r:VRs W vs xs): xs.length=vs.length:=r.ind (P:=λvs xs=>xs.length=vs.length) rfl λ_ _ ih=>congrArg (· + 1) ih
theorem VRs.at{W:Wd}(r:VRs W vs xs)(e:vs[i]?=some v): ∃x,xs[i]?=some x/\VR W v x:=
 r.ind (P:=λvs xs=>∀i,vs[i]?=some v->∃x,xs[i]?=some x/\VR W v x) (λi e=>by simp at e) (λa _ ih i e=>by
  cases i with
  | zero=>
   cases e
   exact⟨_,rfl,a⟩
  | succ i=>exact ih i e) i e
theorem VRs.append{W:Wd}(r:VRs W vs xs)(h:VRs W us ys): VRs W (vs++us) (xs++ys):=r.ind (P:=λvs xs=>VRs W (vs++us) (xs++ys)) h λa _ ih=>.cons a ih
theorem VRs.snoc{W:Wd}(h:VRs W vs xs)(r:VR W v x): VRs W (vs++[v]) (xs++[x]):=h.append (.cons r .nil)
theorem VRs.set{W:Wd}(i:Nat)(r:VRs W vs xs)(h:VR W v x): VRs W (vs.set i v) (xs.set i x):=
 r.ind (P:=λvs xs=>∀i,VRs W (vs.set i v) (xs.set i x)) (λ_=>.nil) (λa r ih i=>by
  cases i with
  | zero=>exact .cons h r
  | succ i=>exact .cons a (ih i)) i
theorem VRs.take{W:Wd}(i:Nat)(r:VRs W vs xs): VRs W (vs.take i) (xs.take i):=
 r.ind (P:=λvs xs=>∀i,VRs W (vs.take i) (xs.take i)) (λi=>by rw[List.take_nil,List.take_nil];exact .nil) (λa r ih i=>by
  cases i with
  | zero=>exact .nil
  | succ i=>exact .cons a (ih i)) i
structure HR(W:Wd)(H:Hp)(led:List (Addr×Obj)): Prop where
 len:W.pi.length=H.length
 nd:W.pi.Nodup
 lists:∀(i:Nat) (vs:List V),H[i]?=some vs->(∀q∈W.ins,q.1≠i)->vs.length<=ZK/\∃a xs k,W.pi[i]?=some a/\(a,Zat xs k)∈led/\VRs W vs xs
 tups:∀q∈W.tups,q∈led
 kind:∀q∈W.tups,(∃xs k,q.2=Zco xs k)∨∃C dx,ZgO q.2 C dx
 objs:∀(i:Nat) (vs:List V) (fs:Option (List Str)),H[i]?=some vs->(i,fs)∈W.ins->Ze4 fs vs/\∃a od xs,W.pi[i]?=some a/\(a,od)∈led/\ZgP od fs vs xs/\VRs W vs xs
 inlt:∀q∈W.ins,q.1<H.length
 iuni:∀q∈W.ins,∀r∈W.ins,q.1=r.1->q=r
theorem HR.mono{W:Wd}{led':List (Addr×Obj)}(R:HR W H led)(h:∀q∈led,q∈led'): HR W H led':=
 ⟨R.len,R.nd,λi vs e ni=>by
  obtain⟨l,a,xs,k,h1,h2,h3⟩:=R.lists i vs e ni
  exact⟨l,a,xs,k,h1,h _ h2,h3⟩,λq hq=>h q (R.tups q hq),R.kind,λi vs fs e hi=>by
  obtain⟨l,a,od,xs,h1,h2,h3⟩:=R.objs i vs fs e hi
  exact⟨l,a,od,xs,h1,h _ h2,h3⟩,R.inlt,R.iuni⟩
theorem HR.any{W:Wd}(R:HR W H led)(e:H[i]?=some vs): ∃a o,W.pi[i]?=some a/\(a,o)∈led/\(o.cls=.type "list"∨o.cls=.type "dict"):=by
 by_cases ni:∀q∈W.ins,q.1≠i
 ·obtain⟨_,a,xs,k,h1,h2,_⟩:=R.lists i vs e ni
  exact⟨a,_,h1,h2,.inl rfl⟩
 ·obtain⟨⟨j,fs⟩,hq⟩:=Classical.not_forall.mp ni
  obtain⟨hq',z⟩:=Classical.not_imp.mp hq
  have z:j=i:=Classical.not_not.mp z
  rw[z]at hq'
  obtain⟨_,a,od,xs,h1,h2,h3,_⟩:=R.objs i vs fs e hq'
  obtain⟨es,n,eo,_⟩:=h3
  exact⟨a,od,h1,h2,.inr (by rw[eo])⟩
theorem ZkA(k:(∃xs k,o=Zco xs k)∨∃C dx,ZgO o C dx): o.cls≠.type "list"/\o.cls≠.type "dict":=by
 rcases k with⟨xs,k,e⟩ | ⟨C,dx,e⟩
 ·rw[e];exact⟨.s,.s⟩
 ·rw[show o=_ from e];exact⟨.s,.s⟩
structure Cx where
 A:Around
 env:Env
 h₀:Heap
 L:Addr
 hh:A.handled=none
 hu:A.units+200<cLine
 Own:Wd->Lc->(Str->Option Value)->List (Addr×Obj)->Prop
 mono:∀{W W':Wd} {U:Lc} {m:Str->Option Value} {c:List (Addr×Obj)},W.Le W'->Own W U m c->Own W' U m c
variable{M:Cx}
structure Rep'(M:Cx)(W:Wd)(U:Lc)(H:Hp)(fr:List (Addr×Obj))(h:Heap)(m:Str->Option Value)(cells led:List (Addr×Obj)): Prop where
 F:Fr M.h₀ M.L h m
 N:News M.h₀ M.L h led
 R:HR W H (W.sc::led)
 sc:M.h₀.get? W.sc.1=some W.sc.2
 sc0:W.pi[0]?=some W.sc.1
 frIn:∀q∈fr,q∈led
 frOff:∀q∈fr,q.1∉W.pi
 clIn:∀q∈cells,q∈led
 clOff:∀q∈cells,q.1∉W.pi
 apart:∀q∈cells,∀r∈fr,q.1≠r.1
 frTup:∀q∈fr,∀t∈W.tups,q.1≠t.1
 clTup:∀q∈cells,∀t∈W.tups,q.1≠t.1
 own:M.Own W U m cells
def Rep(M:Cx)(W:Wd)(U:Lc)(H:Hp)(fr:List (Addr×Obj))(h:Heap): Prop:=∃m cells led,Rep' M W U H fr h m cells led
theorem Rep.grown{W:Wd}(r:Rep M W U H fr h)(up:∀b o,h.get? b=some o->h'.get? b=some o): Rep M W U H fr h':=by
 obtain⟨m,c,led,r⟩:=r
 refine⟨m,c,led,⟨⟨?_,λb o e=>up b o (r.F.keep b o e),r.F.above⟩,λq hq=>⟨up _ _ (r.N q hq).1,(r.N q hq).2⟩,r.R,r.sc,r.sc0,r.frIn,r.frOff,r.clIn,r.clOff,r.apart,r.frTup,r.clTup,r.own⟩⟩
 obtain⟨o,es,ep,h1,h2⟩:=r.F.ns
 exact⟨o,es,ep,up _ _ h1,h2⟩
theorem Rep.push{W:Wd}(r:Rep M W U H fr h)(o:Obj): Rep M W U H fr (h.push o):=r.grown λ_ _ e=>Heap.get?_push_of_some _ e
theorem Zbw(h:q∈s::l)(m:q∈l->q∈l'): q∈s::l':=by
 rcases Zz7.mp h with e | h
 ·exact e▸List.mem_cons_self
 ·exact Zz2 _ (m h)
theorem ZcT(h:q∈s::l)(m:∀x∈l,x∈l'): q∈s::l':=by
 rcases Zz7.mp h with e | h
 ·exact e▸List.mem_cons_self
 ·exact Zz2 _ (m q h)
theorem Rep'.get{W:Wd}(r:Rep' M W U H fr h m c led)(hq:q∈W.sc::led): h.get? q.1=some q.2:=by
 rcases Zz7.mp hq with e | hq
 ·rw[e]
  exact r.F.keep _ _ r.sc
 ·exact(r.N q hq).1
theorem Rep'.off{W:Wd}(r:Rep' M W U H fr h m c led): ∀q∈W.sc::led,q.1≠h.objs.size:=λq hq=>Nat.ne_of_lt (Heap.lt_size (r.get hq))
theorem Rep'.same{W:Wd}(r:Rep' M W U H fr h m c led)(F':Fr M.h₀ M.L h' m)(N':News M.h₀ M.L h' led): Rep M W U H fr h':=
 ⟨m,c,led,F',N',r.R,r.sc,r.sc0,r.frIn,r.frOff,r.clIn,r.clOff,r.apart,r.frTup,r.clTup,r.own⟩
theorem Rep'.piIn{W:Wd}(r:Rep' M W U H fr h m c led): ∀a∈W.pi,∃o,(a,o)∈W.sc::led:=by
 intro a ha
 obtain⟨i,hi,e⟩:=List.getElem_of_mem ha
 have hi':i<H.length:=r.R.len▸hi
 obtain⟨b,o,h1,h2,_⟩:=r.R.any (Yy1 hi')
 have:b=a:=by rw[Yy1 hi,e]at h1;exact(Option.some.inj h1).symm
 exact⟨_,this▸h2⟩
theorem Rep'.inLed{W:Wd}(r:Rep' M W U H fr h m c led)(hi:i≠0)(ea:W.pi[i]?=some a)(hm:(a,o)∈W.sc::led): (a,o)∈led:=by
 rcases Zz7.mp hm with e | hm
 ·have e1:a=W.sc.1:=congrArg (·.1) e
  have hl:i<W.pi.length:=(Zz6.mp ea).1
  have:i=0:=(List.getElem?_inj hl r.R.nd).mp (by rw[ea,r.sc0,e1])
  exact absurd this hi
 ·exact hm
theorem Rep'.notSc{W:Wd}(r:Rep' M W U H fr h m c led): ∀q∈led,q.1≠W.sc.1:=λq hq e=>by
 have:=(r.N q hq).2.2
 rw[e,r.sc]at this
 cases this
theorem Rep'.newTup{W:Wd}(r:Rep' M W U H fr h m c led)(F':Fr M.h₀ M.L h' m)(N':News M.h₀ M.L h' ((n,Zco xs k)::led))(hn:∀q∈W.sc::led,q.1≠n)(hv:VRs W vs xs)(hl:vs.length<=ZK):
  ∃W',W.Le W'/\Rep M W' U H fr h'/\VR W' (.tup vs) (.ref n):=by
 have le:W.Le ⟨W.pi,(n,Zco xs k)::W.tups,W.sc,W.ins⟩:=⟨List.prefix_refl _,λq hq=>Yy3 _ hq,rfl,λ_ h=>h,λ_ h=>.inl h⟩
 refine⟨⟨W.pi,(n,Zco xs k)::W.tups,W.sc,W.ins⟩,le,⟨m,c,(n,Zco xs k)::led,⟨F',N',?_,r.sc,r.sc0,λq hq=>Yy3 _ (r.frIn q hq),r.frOff,λq hq=>Yy3 _ (r.clIn q hq),r.clOff,r.apart,λq hq t ht=>?_,λq hq t ht=>?_,M.mono le r.own⟩⟩,.tup Zz5 hl (hv.mono le)⟩
 ·refine⟨r.R.len,r.R.nd,λi us e ni=>?_,λq hq=>?_,λq hq=>?_,λi us fs e hi=>?_,r.R.inlt,r.R.iuni⟩
  ·obtain⟨l,a,ys,j,h1,h2,h3⟩:=r.R.lists i us e ni
   exact⟨l,a,ys,j,h1,ZcT h2 λx hx=>Yy3 _ hx,h3.mono le⟩
  ·rcases Zz7.mp hq with e | hq
   ·exact e▸Yy3 _ Zz5
   ·exact ZcT (r.R.tups q hq) λx hx=>Yy3 _ hx
  ·rcases Zz7.mp hq with e | hq
   ·exact .inl ⟨xs,k,by rw[e]⟩
   ·exact r.R.kind q hq
  ·obtain⟨l,a,od,ys,h1,h2,h3,h4⟩:=r.R.objs i us fs e hi
   exact⟨l,a,od,ys,h1,ZcT h2 λx hx=>Yy3 _ hx,h3,h4.mono le⟩
 ·rcases Zz7.mp ht with e | ht
  ·rw[e]
   exact hn q (Zz2 _ (r.frIn q hq))
  ·exact r.frTup q hq t ht
 ·rcases Zz7.mp ht with e | ht
  ·rw[e]
   exact hn q (Zz2 _ (r.clIn q hq))
  ·exact r.clTup q hq t ht
theorem Rep.tuple{W:Wd}(r:Rep M W U H fr h)(hv:VRs W vs xs)(hl:vs.length<=ZK):
  ∃W',W.Le W'/\Rep M W' U H fr (h.push (Zco xs k))/\VR W' (.tup vs) (.ref h.objs.size):=by
 obtain⟨m,c,led,r⟩:=r
 exact r.newTup (r.F.push _) (News.push r.F r.N _) r.off hv hl
theorem Rep'.newList{W:Wd}(r:Rep' M W U H fr h m c led)(F':Fr M.h₀ M.L h' m)(N':News M.h₀ M.L h' ((n,Zat xs k)::led))(hn:∀q∈W.sc::led,q.1≠n)(hv:VRs W vs xs)(hl:vs.length<=ZK):
  ∃W',W.Le W'/\Rep M W' U (H++[vs]) fr h'/\VR W' (.ref H.length) (.ref n):=by
 have le:W.Le ⟨W.pi++[n],W.tups,W.sc,W.ins⟩:=⟨List.prefix_append _ _,λq hq=>hq,rfl,λ_ h=>h,λ_ h=>.inl h⟩
 have h0:0<W.pi.length:=(Zz6.mp r.sc0).1
 have at_n:(W.pi++[n])[H.length]?=some n:=by rw[<-r.R.len];simp
 have nin:∀q∈W.ins,q.1≠H.length:=λq hq e=>by have:=r.R.inlt q hq;lia
 refine⟨⟨W.pi++[n],W.tups,W.sc,W.ins⟩,le,⟨m,c,(n,Zat xs k)::led,⟨F',N',?_,r.sc,(Yy0 h0).trans r.sc0,λq hq=>Yy3 _ (r.frIn q hq),λq hq=>?_,λq hq=>Yy3 _ (r.clIn q hq),λq hq=>?_,r.apart,r.frTup,r.clTup,M.mono le r.own⟩⟩,.ref ⟨at_n,nin⟩⟩
 ·refine⟨by simp[r.R.len],?_,λi us e ni=>?_,λq hq=>ZcT (r.R.tups q hq) λx hx=>Yy3 _ hx,r.R.kind,λi us fs e hi=>?_,λq hq=>by have:=r.R.inlt q hq;simp;lia,r.R.iuni⟩
  ·show(W.pi++[n]).Nodup
   rw[List.nodup_append]
   refine⟨r.R.nd,.s,λa ha b hb=>?_⟩
   rw[List.mem_singleton.mp hb]
   obtain⟨o,ho⟩:=r.piIn a ha
   exact hn _ ho
  ·by_cases hi:i<H.length
   ·rw[Yy0 hi]at e
    obtain⟨l,a,ys,j,h1,h2,h3⟩:=r.R.lists i us e ni
    exact⟨l,a,ys,j,le.piAt h1,ZcT h2 λx hx=>Yy3 _ hx,h3.mono le⟩
   ·have:i=H.length:=by
     have:=(Zz6.mp e).1
     simp at this
     lia
    subst this
    simp at e
    subst e
    exact⟨hl,n,xs,k,at_n,Yy3 _ Zz5,hv.mono le⟩
  ·have hi':i<H.length:=r.R.inlt _ hi
   rw[Yy0 hi']at e
   obtain⟨l,a,od,ys,h1,h2,h3,h4⟩:=r.R.objs i us fs e hi
   exact⟨l,a,od,ys,le.piAt h1,ZcT h2 λx hx=>Yy3 _ hx,h3,h4.mono le⟩
 ·intro hm
  rcases Zz8.mp hm with hm | hm
  ·exact r.frOff q hq hm
  ·exact hn q (Zz2 _ (r.frIn q hq)) (Zz9.mp hm)
 ·intro hm
  rcases Zz8.mp hm with hm | hm
  ·exact r.clOff q hq hm
  ·exact hn q (Zz2 _ (r.clIn q hq)) (Zz9.mp hm)
theorem Rep.list{W:Wd}(r:Rep M W U H fr h)(hv:VRs W vs xs)(hl:vs.length<=ZK):
  ∃W',W.Le W'/\Rep M W' U (H++[vs]) fr (h.push (Zat xs k))/\VR W' (.ref H.length) (.ref h.objs.size):=by
 obtain⟨m,c,led,r⟩:=r
 exact r.newList (r.F.push _) (News.push r.F r.N _) r.off hv hl
theorem Rep.at{W:Wd}(r:Rep M W U H fr h)(e:H[i]?=some vs)(ea:W.At i a): vs.length<=ZK/\∃xs k,h.get? a=some (Zat xs k)/\VRs W vs xs:=by
 obtain⟨m,c,led,r⟩:=r
 obtain⟨l,b,xs,k,h1,h2,h3⟩:=r.R.lists i vs e ea.2
 rw[ea.1]at h1
 cases h1
 exact⟨l,xs,k,r.get h2,h3⟩
theorem Rep.tupAt{W:Wd}(r:Rep M W U H fr h)(e:q∈W.tups): h.get? q.1=some q.2:=by
 obtain⟨m,c,led,r⟩:=r
 exact r.get (r.R.tups _ e)
theorem Rep'.changed{W:Wd}(r:Rep' M W U H fr h m c led)(i0:i≠0)(e:H[i]?=some vs)(ea:W.At i a)(F':Fr M.h₀ M.L h' m)(N':News M.h₀ M.L h' ((a,Zat ys k)::led.filter (λq=>decide (q.1≠a))))(hv:VRs W us ys)(hl:us.length<=ZK):
  Rep M W U (H.set i us) fr h':=by
 obtain⟨_,b,xs,j,h1,h2,h3⟩:=r.R.lists i vs e ea.2
 rw[ea.1]at h1
 cases h1
 have h2:=r.inLed i0 ea.1 h2
 have hN:=r.N _ h2
 have hm:a∈W.pi:=Yy4 ea.1
 have hi:i<H.length:=(Zz6.mp e).1
 refine⟨m,c,(a,Zat ys k)::led.filter (λq=>decide (q.1≠a)),⟨F',N',?_,r.sc,r.sc0,λq hq=>?_,r.frOff,λq hq=>?_,r.clOff,r.apart,r.frTup,r.clTup,r.own⟩⟩
 ·refine⟨by simp[r.R.len],r.R.nd,λn ws en ni=>?_,λq hq=>?_,r.R.kind,λn ws fs en hi'=>?_,λq hq=>by have:=r.R.inlt q hq;simpa using this,r.R.iuni⟩
  ·by_cases hn:n=i
   ·subst hn
    rw[Yy6 hi]at en
    cases en
    exact⟨hl,a,ys,k,ea.1,Yy3 _ Zz5,hv⟩
   ·rw[Yy2 (Ne.symm hn)]at en
    obtain⟨l,d,zs,j',g1,g2,g3⟩:=r.R.lists n ws en ni
    refine⟨l,d,zs,j',g1,Zbw g2 λg2=>Yy3 _ (Yy9.mpr ⟨g2,?_⟩),g3⟩
    have:d≠a:=λe=>by
     subst e
     exact hn ((List.getElem?_inj (Zz6.mp g1).1 r.R.nd).mp (g1.trans ea.1.symm))
    simpa using this
  ·refine Zbw (r.R.tups q hq) λg2=>Yy3 _ (Yy9.mpr ⟨g2,?_⟩)
   have:q.1≠a:=λe=>by
    have hk:=ZkA (r.R.kind q hq)
    have g:=r.get (r.R.tups q hq)
    rw[e,hN.1]at g
    have c:=congrArg Obj.cls (Option.some.inj g)
    exact hk.1 c.symm
   simpa using this
  ·have hn:n≠i:=λq=>ea.2 _ hi' q
   rw[Yy2 (Ne.symm hn)]at en
   obtain⟨l,d,od,zs,g1,g2,g3,g4⟩:=r.R.objs n ws fs en hi'
   refine⟨l,d,od,zs,g1,Zbw g2 λg2=>Yy3 _ (Yy9.mpr ⟨g2,?_⟩),g3,g4⟩
   have:d≠a:=λe=>by
    subst e
    exact hn ((List.getElem?_inj (Zz6.mp g1).1 r.R.nd).mp (g1.trans ea.1.symm))
   simpa using this
 ·refine Zz2 _ (Yy9.mpr ⟨r.frIn q hq,?_⟩)
  have:q.1≠a:=λe=>r.frOff q hq (e▸hm)
  simpa using this
 ·refine Zz2 _ (Yy9.mpr ⟨r.clIn q hq,?_⟩)
  have:q.1≠a:=λe=>r.clOff q hq (e▸hm)
  simpa using this
theorem Rep.change{W:Wd}(r:Rep M W U H fr h)(i0:i≠0)(e:H[i]?=some vs)(ea:W.At i a)(sb:Heap.SameBut a h h')(ha:h'.get? a=some (Zat ys k))(hv:VRs W us ys)(hl:us.length<=ZK):
  Rep M W U (H.set i us) fr h':=by
 obtain⟨m,c,led,r⟩:=r
 obtain⟨_,b,xs,j,h1,h2,h3⟩:=r.R.lists i vs e ea.2
 rw[ea.1]at h1
 cases h1
 have h2:=r.inLed i0 ea.1 h2
 have hN:=r.N _ h2
 have keep:∀q∈led,q.1≠a->h'.get? q.1=some q.2:=λq hq hn=>sb.extBut _ _ hn (r.N q hq).1
 refine r.changed (k:=k) i0 e ea ⟨r.F.ns.sameBut sb (Ne.symm hN.2.1),λb o eb=>sb.extBut b o (λq=>?_) (r.F.keep b o eb),r.F.above⟩ (λq hq=>?_) hv hl
 ·subst q
  rw[hN.2.2]at eb
  cases eb
 ·rcases Zz7.mp hq with e | hq
  ·subst e
   exact⟨ha,hN.2⟩
  ·obtain⟨h1,h2⟩:=List.mem_filter.mp hq
   exact⟨keep q h1 (by simpa using h2),(r.N q h1).2⟩
theorem Rep.swap{W:Wd}{fs':List (Addr×Obj)}(r:Rep M W U H (fs++fr) h)(ap:∀q∈fs,∀t∈fr,q.1≠t.1)(keep:∀b o,b∉fs.map (·.1)->h.get? b=some o->h'.get? b=some o)(new:∀q∈fs',h'.get? q.1=some q.2/\q.1∈fs.map (·.1)): Rep M W U H (fs'++fr) h':=by
 obtain⟨m,c,led,r⟩:=r
 have inF:∀q∈fs,q∈fs++fr:=λq hq=>Yy7 _ hq
 have nL:∀a∈fs.map (·.1),a≠M.L/\M.h₀.get? a=none:=λa ha=>by
  obtain⟨q,hq,e⟩:=Zz11.mp ha
  exact e▸(r.N q (r.frIn q (inF q hq))).2
 have kp:∀q∈led,q.1∉fs.map (·.1)->h'.get? q.1=some q.2:=λq hq hn=>keep _ _ hn (r.N q hq).1
 refine⟨m,c,fs'++led.filter (λq=>decide (q.1∉fs.map (·.1))),⟨⟨?_,λb o e=>?_,r.F.above⟩,λq hq=>?_,⟨r.R.len,r.R.nd,λi vs e ni=>?_,λq hq=>?_,r.R.kind,λi vs fn e hi=>?_,r.R.inlt,r.R.iuni⟩,r.sc,r.sc0,λq hq=>?_,λq hq=>?_,λq hq=>?_,r.clOff,λq hq t ht=>?_,λq hq t ht=>?_,r.clTup,r.own⟩⟩
 ·obtain⟨o,es,ep,h1,h2⟩:=r.F.ns
  exact⟨o,es,ep,keep _ _ (λq=>(nL _ q).1 rfl) h1,h2⟩
 ·refine keep b o (λq=>?_) (r.F.keep b o e)
  rw[(nL b q).2]at e
  cases e
 ·rcases Zz8.mp hq with hq | hq
  ·obtain⟨h1,h2⟩:=new q hq
   exact⟨h1,nL _ h2⟩
  ·obtain⟨h1,h2⟩:=List.mem_filter.mp hq
   exact⟨kp q h1 (by simpa using h2),(r.N q h1).2⟩
 ·obtain⟨l,a,xs,k,h1,h2,h3⟩:=r.R.lists i vs e ni
  refine⟨l,a,xs,k,h1,Zbw h2 λh2=>List.mem_append_right _ (Yy9.mpr ⟨h2,?_⟩),h3⟩
  have:a∉fs.map (·.1):=λq=>by
   obtain⟨t,ht,e⟩:=Zz11.mp q
   exact r.frOff t (inF t ht) (e▸Yy4 h1)
  simpa using this
 ·refine Zbw (r.R.tups q hq) λh2=>List.mem_append_right _ (Yy9.mpr ⟨h2,?_⟩)
  have:q.1∉fs.map (·.1):=λz=>by
   obtain⟨t,ht,e⟩:=Zz11.mp z
   exact r.frTup t (inF t ht) q hq e
  simpa using this
 ·obtain⟨l,a,od,xs,h1,h2,h3⟩:=r.R.objs i vs fn e hi
  refine⟨l,a,od,xs,h1,Zbw h2 λh2=>List.mem_append_right _ (Yy9.mpr ⟨h2,?_⟩),h3⟩
  have:a∉fs.map (·.1):=λq=>by
   obtain⟨t,ht,e⟩:=Zz11.mp q
   exact r.frOff t (inF t ht) (e▸Yy4 h1)
  simpa using this
 ·rcases Zz8.mp hq with hq | hq
  ·exact Zz4 _ hq
  ·refine Zz3 _ (Yy9.mpr ⟨r.frIn q (Zz3 _ hq),?_⟩)
   have:q.1∉fs.map (·.1):=λz=>by
    obtain⟨t,ht,e⟩:=Zz11.mp z
    exact ap t ht q hq e
   simpa using this
 ·rcases Zz8.mp hq with hq | hq
  ·obtain⟨t,ht,e⟩:=Zz11.mp (new q hq).2
   exact e▸r.frOff t (inF t ht)
  ·exact r.frOff q (Zz3 _ hq)
 ·refine Zz3 _ (Yy9.mpr ⟨r.clIn q hq,?_⟩)
  have:q.1∉fs.map (·.1):=λz=>by
   obtain⟨t,ht,e⟩:=Zz11.mp z
   exact r.apart q hq t (inF t ht) e.symm
  simpa using this
 ·rcases Zz8.mp ht with ht | ht
  ·obtain⟨u,hu,e⟩:=Zz11.mp (new t ht).2
   exact e▸r.apart q hq u (inF u hu)
  ·exact r.apart q hq t (Zz3 _ ht)
 ·rcases Zz8.mp hq with hq | hq
  ·obtain⟨u,hu,e⟩:=Zz11.mp (new q hq).2
   exact e▸r.frTup u (inF u hu) t ht
  ·exact r.frTup q (Zz3 _ hq) t ht
theorem Rep.more{W:Wd}(r:Rep M W U H fr h)(up:∀b o,h.get? b=some o->h'.get? b=some o)(new:∀q∈fs,h'.get? q.1=some q.2/\h.objs.size<=q.1): Rep M W U H (fs++fr) h'/\∀q∈fs,∀t∈fr,q.1≠t.1:=by
 have r':=r.grown up
 obtain⟨m,c,led,r⟩:=r
 have lt:∀q∈W.sc::led,q.1<h.objs.size:=λq hq=>Heap.lt_size (r.get hq)
 have ne:∀q∈fs,∀t∈W.sc::led,q.1≠t.1:=λq hq t ht=>Nat.ne_of_gt (Nat.lt_of_lt_of_le (lt t ht) (new q hq).2)
 refine⟨⟨m,c,fs++led,⟨⟨?_,λb o e=>up b o (r.F.keep b o e),r.F.above⟩,λq hq=>?_,r.R.mono λq hq=>ZcT hq λx hx=>List.mem_append_right _ hx,r.sc,r.sc0,λq hq=>?_,λq hq=>?_,λq hq=>List.mem_append_right _ (r.clIn q hq),r.clOff,λq hq t ht=>?_,λq hq t ht=>?_,r.clTup,r.own⟩⟩,λq hq t ht=>ne q hq t (Zz2 _ (r.frIn t ht))⟩
 ·obtain⟨o,es,ep,h1,h2⟩:=r.F.ns
  exact⟨o,es,ep,up _ _ h1,h2⟩
 ·rcases Zz8.mp hq with hq | hq
  ·obtain⟨h1,h2⟩:=new q hq
   refine⟨h1,λe=>?_,?_⟩
   ·exact absurd (e▸r.F.ns.lt) (Nat.not_lt.mpr h2)
   ·cases e:M.h₀.get? q.1 with
    | none=>rfl
    | some o=>exact absurd (Heap.lt_size (r.F.keep _ _ e)) (Nat.not_lt.mpr h2)
  ·exact⟨up _ _ (r.N q hq).1,(r.N q hq).2⟩
 ·rcases Zz8.mp hq with hq | hq
  ·exact Zz4 _ hq
  ·exact Zz3 _ (r.frIn q hq)
 ·rcases Zz8.mp hq with hq | hq
  ·intro hm
   obtain⟨o,ho⟩:=r.piIn _ hm
   exact ne q hq _ ho rfl
  ·exact r.frOff q hq
 ·rcases Zz8.mp ht with ht | ht
  ·exact(ne t ht q (Zz2 _ (r.clIn q hq))).symm
  ·exact r.apart q hq t ht
 ·rcases Zz8.mp hq with hq | hq
  ·exact ne q hq t (r.R.tups t ht)
  ·exact r.frTup q hq t ht
theorem Rep.less{W:Wd}(r:Rep M W U H fs h)(sub:∀q∈fr,q∈fs): Rep M W U H fr h:=by
 obtain⟨m,c,led,r⟩:=r
 exact⟨m,c,led,⟨r.F,r.N,r.R,r.sc,r.sc0,λq hq=>r.frIn q (sub q hq),λq hq=>r.frOff q (sub q hq),r.clIn,r.clOff,λq hq t ht=>r.apart q hq t (sub t ht),λq hq=>r.frTup q (sub q hq),r.clTup,r.own⟩⟩
theorem Rep.frAt{W:Wd}(r:Rep M W U H fr h)(hq:q∈fr): h.get? q.1=some q.2:=by
 obtain⟨m,c,led,r⟩:=r
 exact(r.N q (r.frIn q hq)).1
end PM
end
section
namespace PM
open PySem PyProof.Rows PyProof
variable{e1 e2 e:Expr}{op:CmpOp}{pos np:Pos}{f g: .y}{o:V->V->Hp->Option (V×Hp)}{es:List Expr}{k:Int}{a n i:Nat}{b v v1:V}{H H':Hp}{z:V×Hp}{y x:Value}{d:Type}{U:Lc}{fr:List (Addr×Obj)}{h:Heap}{vs as:List V}{r:Option V×Lc×Hp}{xs:List Value}{hi lo:Option Int}{W':Wd}{s:Shared}{Q E:Value->Shared->Prop}{id:String}{P:Prop}{st:Stmt}{ss:List Stmt}
variable{prog:Program}{w:World}{M:Cx}
abbrev Ex:=Lc->Hp->Option (V×Hp)
abbrev Exs:=Lc->Hp->Option (List V×Hp)
abbrev Ts:=Lc->Hp->Option (Bool×Hp)
variable{t u:Ts}
abbrev ZcE(M:Cx)(W:Wd)(U:Lc)(H:Hp)(fr:List (Addr×Obj))(s:Shared)(Q:Value->Shared->Prop)(v:V): Prop:=
 ∀(W':Wd) (h':Heap) (tk':Nat) (x:Value),W.Le W'->Rep M W' U H fr h'->VR W' v x->Q x { s with heap:=h',toks:=tk' }
abbrev ZgQ(M:Cx)(W:Wd)(U:Lc)(H:Hp)(fr:List (Addr×Obj))(s:Shared)(Q:Bool->Shared->Prop)(b:Bool): Prop:=
 ∀(W':Wd) (h':Heap) (tk':Nat),W.Le W'->Rep M W' U H fr h'->Q b { s with heap:=h',toks:=tk' }
section
variable (prog:Program) (w:World)
def J(M:Cx)(e:Expr)(f:Ex): Prop:=∀(W:Wd) (U:Lc) (H:Hp) (fr:List (Addr×Obj)) (s:Shared) (Q E:Value->Shared->Prop) (v:V) (H':Hp),
 Rep M W U H fr s.heap->f U H=some (v,H')->ZcE M W U H' fr s Q v->wpAny (model prog w) M.A (eval e M.env) Q E s
def Js(M:Cx)(es:List Expr)(f:Exs): Prop:=∀(pos:Pos) (W:Wd) (U:Lc) (H:Hp) (fr:List (Addr×Obj)) (s:Shared) (Q:List Value->Shared->Prop) (E:Value->Shared->Prop) (vs:List V) (H':Hp),
 Rep M W U H fr s.heap->f U H=some (vs,H')->(∀(W':Wd) (h':Heap) (tk':Nat) (xs:List Value),W.Le W'->Rep M W' U H' fr h'->VRs W' vs xs->Q xs { s with heap:=h',toks:=tk' })->wpAny (model prog w) M.A (spliced (backTo pos (starEach es M.env))) Q E s
def JT(M:Cx)(e:Expr)(f:Ts): Prop:=∀(W:Wd) (U:Lc) (H:Hp) (fr:List (Addr×Obj)) (s:Shared) (Q:Bool->Shared->Prop) (E:Value->Shared->Prop) (b:Bool) (H':Hp),
 Rep M W U H fr s.heap->f U H=some (b,H')->ZgQ M W U H' fr s Q b->wpAny (model prog w) M.A (isTrue e M.env (eval e M.env)) Q E s
def Op2(m:Value->Value->Sem Value)(o:V->V->Hp->Option (V×Hp)): Prop:=∀(M:Cx) (W:Wd) (U:Lc) (H:Hp) (fr:List (Addr×Obj)) (s:Shared) (Q E:Value->Shared->Prop) (a b:V) (x y:Value) (v:V) (H':Hp),
 Rep M W U H fr s.heap->VR W a x->VR W b y->o a b H=some (v,H')->ZcE M W U H' fr s Q v->wpAny (model prog w) M.A (m x y) Q E s
def Op1(m:Value->Sem Value)(o:V->Hp->Option (V×Hp)): Prop:=∀(M:Cx) (W:Wd) (U:Lc) (H:Hp) (fr:List (Addr×Obj)) (s:Shared) (Q E:Value->Shared->Prop) (a:V) (x:Value) (v:V) (H':Hp),
 Rep M W U H fr s.heap->VR W a x->o a H=some (v,H')->ZcE M W U H' fr s Q v->wpAny (model prog w) M.A (m x) Q E s
def OpT(m:Value->Sem Bool)(o:V->Hp->Option Bool): Prop:=∀(M:Cx) (W:Wd) (U:Lc) (H:Hp) (fr:List (Addr×Obj)) (s:Shared) (Q:Bool->Shared->Prop) (E:Value->Shared->Prop) (a:V) (x:Value) (b:Bool),
 Rep M W U H fr s.heap->VR W a x->o a H=some b->ZgQ M W U H fr s Q b->wpAny (model prog w) M.A (m x) Q E s
end
noncomputable def Zd(k:Int): Ex:=λ_ H=>some (.int k,H)
noncomputable def Z9: Ex:=λ_ H=>some (.none,H)
noncomputable def ZaT(b:Bool): Ex:=λ_ H=>some (.bool b,H)
noncomputable def ZF(x:Str): Ex:=λ_ H=>some (.str x,H)
noncomputable def Za(i:Nat): Ex:=λU H=>(U i).map λv=>(v,H)
noncomputable def Zc(o:V->V->Hp->Option (V×Hp))(f g:Ex): Ex:=λU H=>(f U H).bind λp=>(g U p.2).bind λq=>o p.1 q.1 q.2
noncomputable def ZE(o:V->Hp->Option (V×Hp))(f:Ex): Ex:=λU H=>(f U H).bind λp=>o p.1 p.2
noncomputable def eIf(t:Ts)(f g:Ex): Ex:=λU H=>(t U H).bind λp=>if p.1 then f U p.2 else g U p.2
noncomputable def Ze: Exs:=λ_ H=>some ([],H)
noncomputable def Zb(f:Ex)(g:Exs): Exs:=λU H=>(f U H).bind λp=>(g U p.2).bind λq=>some (p.1::q.1,q.2)
def ZO(g:Exs): Ex:=λU H=>(g U H).bind λp=>if p.1.length<=ZK then some (.tup p.1,p.2)else none
def ZB(g:Exs): Ex:=λU H=>(g U H).bind λp=>if p.1.length<=ZK then some (.ref p.2.length,p.2++[p.1])else none
noncomputable def Zab: V->Hp->Option Bool
 | .bool b,_=>some b
 | .int i,_=>some (i != 0)
 | .none,_=>some false
 | _,_=>none
def Zl(f:Ex): Ts:=λU H=>(f U H).bind λp=>(Zab p.1 p.2).map λb=>(b,p.2)
noncomputable def Zbx(t:Ts): Ts:=λU H=>(t U H).map λp=>(!p.1,p.2)
noncomputable def ZJ: Ts:=λ_ H=>some (true,H)
noncomputable def Zb1: Ts:=λ_ H=>some (false,H)
noncomputable def ZR(t u:Ts): Ts:=λU H=>(t U H).bind λp=>if p.1 then u U p.2 else some (false,p.2)
noncomputable def tOr(t u:Ts): Ts:=λU H=>(t U H).bind λp=>if p.1 then some (true,p.2)else u U p.2
noncomputable def tIf(t u v:Ts): Ts:=λU H=>(t U H).bind λp=>if p.1 then u U p.2 else v U p.2
def ZdC(f:Ex): Ex:=λU H=>(f U H).bind λp=>(Zab p.1 p.2).map λb=>(.bool (!b),p.2)
def Zbo(f g:Ex): Ex:=λU H=>(f U H).bind λp=>(Zab p.1 p.2).bind λb=>if b then g U p.2 else some p
def eOr(f g:Ex): Ex:=λU H=>(f U H).bind λp=>(Zab p.1 p.2).bind λb=>if b then some p else g U p.2
theorem J.int(k:Int)(n:Nat)(pos:Pos): J prog w M (.Constant (.int k) n pos) (Zd k):=λW U H fr s Q E v H' r e post=>by
 cases e
 exact wpAny_Constant_int (post W s.heap _ _ (.refl W) r (.int k _))
theorem J.none(n:Nat)(pos:Pos): J prog w M (.Constant .none n pos) Z9:=λW U H fr s Q E v H' r e post=>by
 cases e
 exact wpAny_Constant_none (post W s.heap s.toks _ (.refl W) r .none)
theorem J.bool(b:Bool)(n:Nat)(pos:Pos): J prog w M (.Constant (.bool b) n pos) (ZaT b):=λW U H fr s Q E v H' r e post=>by
 cases e
 exact wpAny_Constant_bool (post W s.heap s.toks _ (.refl W) r (.bool b))
theorem J.str(x:Str)(n:Nat)(pos:Pos): J prog w M (.Constant (.str x) n pos) (ZF x):=λW U H fr s Q E v H' r e post=>by
 cases e
 exact wpAny_Constant_str (post W s.heap _ _ (.refl W) r (.str x _))
theorem Zn{op:Operator}{f g:Ex}(h1:J prog w M e1 f)(h2:J prog w M e2 g)(ho:Op2 prog w (binaryOp op) o): J prog w M (.BinOp e1 op e2 pos) (Zc o f g):=by
 intro W U H fr s Q E v H' r hf post
 obtain⟨p,e1,hf⟩:=Zz0.mp hf
 obtain⟨q,e2,e3⟩:=Zz0.mp hf
 refine wpAny_BinOp (h1 W U H fr s _ E _ _ r e1 λW1 k1 t1 x l1 r1 x1=>?_)
 refine h2 W1 U _ fr _ _ E _ _ r1 e2 λW2 k2 t2 y l2 r2 y2=>?_
 exact ho M W2 U _ fr _ Q E _ _ x y v H' r2 (x1.mono l2) y2 e3 λW3 k3 t3 z l3 r3 z3=>post W3 k3 t3 z ((l1.trans l2).trans l3) r3 z3
theorem Za5{f g:Ex}(h1:J prog w M e1 f)(h2:J prog w M e2 g)(ho:Op2 prog w (compareOp op) o)(hm:behindInMarks op e2=false:=by with_unfolding_all rfl): J prog w M (.Compare e1 [op] [e2] pos) (Zc o f g):=by
 intro W U H fr s Q E v H' r hf post
 obtain⟨p,e1,hf⟩:=Zz0.mp hf
 obtain⟨q,e2,e3⟩:=Zz0.mp hf
 refine wpAny_Compare1 (h1 W U H fr s _ E _ _ r e1 λW1 k1 t1 x l1 r1 x1=>?_) hm
 refine h2 W1 U _ fr _ _ E _ _ r1 e2 λW2 k2 t2 y l2 r2 y2=>?_
 exact ho M W2 U _ fr _ Q E _ _ x y v H' r2 (x1.mono l2) y2 e3 λW3 k3 t3 z l3 r3 z3=>post W3 k3 t3 z ((l1.trans l2).trans l3) r3 z3
theorem J.un{op:UnaryOp}{f:Ex}{o:V->Hp->Option (V×Hp)}(h1:J prog w M e1 f)(ho:Op1 prog w (unaryOp op) o): J prog w M (.UnaryOp op e1 pos) (ZE o f):=by
 intro W U H fr s Q E v H' r hf post
 obtain⟨p,e1,hf⟩:=Zz0.mp hf
 refine wpAny_UnaryOp (h1 W U H fr s _ E _ _ r e1 λW1 k1 t1 x l1 r1 x1=>?_)
 exact ho M W1 U _ fr _ Q E _ x v H' r1 x1 hf λW3 k3 t3 z l3 r3 z3=>post W3 k3 t3 z (l1.trans l3) r3 z3
theorem truth: OpT prog w truthy Zab:=by
 intro M W U H fr s Q E a x b r hx ho post
 cases hx with
 | none=>cases ho;exact truthy_none (post W s.heap s.toks (.refl W) r)
 | bool c=>cases ho;exact λ_ _ _=>post W s.heap s.toks (.refl W) r
 | int i t=>cases ho;exact P.truthy_int (post W s.heap s.toks (.refl W) r)
 | str _ _=>cases ho
 | tup _ _ _=>cases ho
 | ref _=>cases ho
 | obj _ _ _ _=>cases ho
 | dct _ _ _=>cases ho
theorem ZgR{f:Ex}(h1:J prog w M e1 f): J prog w M (.UnaryOp .Not e1 pos) (ZdC f):=by
 intro W U H fr s Q E v H' r hf post
 obtain⟨p,e1,hf⟩:=Zz0.mp hf
 obtain⟨b,e2,e3⟩:=Zz1.mp hf
 cases e3
 refine wpAny_UnaryOp (h1 W U H fr s _ E _ _ r e1 λW1 k1 t1 x l1 r1 x1=>?_)
 exact not_of (truth M W1 U _ fr _ _ E _ x b r1 x1 e2 λW2 k2 t2 l2 r2=>post W2 k2 t2 _ (l1.trans l2) r2 (.bool _))
theorem ZeT{f g:Ex}(h1:J prog w M e1 f)(h2:J prog w M e2 g): J prog w M (.BoolOp .And [e1,e2] pos) (Zbo f g):=by
 intro W U H fr s Q E v H' r hf post
 obtain⟨p,e1,hf⟩:=Zz0.mp hf
 obtain⟨b,e2,e3⟩:=Zz0.mp hf
 refine wpAny_And2 (h1 W U H fr s _ E _ _ r e1 λW1 k1 t1 x l1 r1 x1=>?_)
 refine truth M W1 U _ fr _ _ E _ x b r1 x1 e2 λW2 k2 t2 l2 r2=>?_
 cases b with
 | true=>exact h2 W2 U _ fr _ Q E v H' r2 e3 λW3 k3 t3 z l3 r3 z3=>post W3 k3 t3 z ((l1.trans l2).trans l3) r3 z3
 | false=>
  cases e3
  exact post W2 k2 t2 x (l1.trans l2) r2 (x1.mono l2)
theorem Zbs: Js prog w M [] Ze:=λpos W U H fr s Q E vs H' r hf post=>by
 cases hf
 exact wpAny_items_nil (post W s.heap s.toks [] (.refl W) r .nil)
theorem ZqX{f:Ex}{g:Exs}(h1:J prog w M e f)(h2:Js prog w M es g)(he:starEach (e::es) M.env=(false,eval e M.env)::starEach es M.env:=by rfl): Js prog w M (e::es) (Zb f g):=by
 intro pos W U H fr s Q E vs H' r hf post
 obtain⟨p,e1,hf⟩:=Zz0.mp hf
 obtain⟨q,e2,e3⟩:=Zz0.mp hf
 cases e3
 refine wpAny_items_cons (h1 W U H fr s _ E _ _ r e1 λW1 k1 t1 x l1 r1 x1=>?_) he
 exact h2 pos W1 U _ fr _ _ E _ _ r1 e2 λW2 k2 t2 ys l2 r2 y2=>post W2 k2 t2 _ (l1.trans l2) r2 (.cons (x1.mono l2) y2)
theorem J.tup{k:Nat}{g:Exs}(h:Js prog w M es g): J prog w M (.Tuple es k pos) (ZO g):=by
 intro W U H fr s Q E v H' r hf post
 obtain⟨p,e1,hf⟩:=Zz0.mp hf
 by_cases hl:p.1.length<=ZK
 ·rw[if_pos hl]at hf
  cases hf
  refine wpAny_Tuple (h pos W U H fr s _ E _ _ r e1 λW1 k1 t1 xs l1 r1 x1=>⟨Zcv (by rw[x1.length];exact hl),?_⟩)
  obtain⟨W2,l2,r2,v2⟩:=r1.tuple (k:=0) x1 hl
  exact post W2 _ _ _ (l1.trans l2) r2 v2
 ·rw[if_neg hl]at hf
  cases hf
theorem J.list{g:Exs}(h:Js prog w M es g): J prog w M (.List es pos) (ZB g):=by
 intro W U H fr s Q E v H' r hf post
 obtain⟨p,e1,hf⟩:=Zz0.mp hf
 by_cases hl:p.1.length<=ZK
 ·rw[if_pos hl]at hf
  cases hf
  refine wpAny_List (h pos W U H fr s _ E _ _ r e1 λW1 k1 t1 xs l1 r1 x1=>⟨Zcv (by rw[x1.length];exact hl),?_⟩)
  obtain⟨W2,l2,r2,v2⟩:=r1.list (k:=0) x1 hl
  exact post W2 _ _ _ (l1.trans l2) r2 v2
 ·rw[if_neg hl]at hf
  cases hf
theorem ZdQ(h:JT prog w M e t): JT prog w M (.UnaryOp .Not e pos) (Zbx t):=by
 intro W U H fr s Q E b H' r hf post
 obtain⟨p,e1,e2⟩:=Zz1.mp hf
 cases e2
 exact isTrue_not (h W U H fr s _ E _ _ r e1 post)
def JA(prog:Program)(w:World)(M:Cx)(op:BoolOp)(es:List Expr)(f:Ts): Prop:=∀(W:Wd) (U:Lc) (H:Hp) (fr:List (Addr×Obj)) (s:Shared) (Q:Bool->Shared->Prop) (E:Value->Shared->Prop) (b:Bool) (H':Hp),
 Rep M W U H fr s.heap->f U H=some (b,H')->ZgQ M W U H' fr s Q b->wpAny (model prog w) M.A (allTrue op es M.env) Q E s
theorem Zba: JA prog w M .And [] ZJ:=λW U H fr s Q E b H' r hf post=>by
 cases hf
 exact wpAny_allTrue_And_nil (post W s.heap s.toks (.refl W) r)
theorem ZdJ: JA prog w M .Or [] Zb1:=λW U H fr s Q E b H' r hf post=>by
 cases hf
 exact wpAny_allTrue_Or_nil (post W s.heap s.toks (.refl W) r)
theorem Zad(h1:JT prog w M e t)(h2:JA prog w M .And es u): JA prog w M .And (e::es) (ZR t u):=by
 intro W U H fr s Q E b H' r hf post
 obtain⟨p,e1,hf⟩:=Zz0.mp hf
 refine wpAny_allTrue_And_cons (h1 W U H fr s _ E _ _ r e1 λW1 k1 t1 l1 r1=>?_)
 obtain⟨c,H1⟩:=p
 cases c with
 | true=>exact h2 W1 U _ fr _ Q E b H' r1 hf λW3 k3 t3 l3 r3=>post W3 k3 t3 (l1.trans l3) r3
 | false=>
  cases hf
  exact post W1 k1 t1 l1 r1
theorem ZbX(h1:JT prog w M e t)(h2:JA prog w M .Or es u): JA prog w M .Or (e::es) (tOr t u):=by
 intro W U H fr s Q E b H' r hf post
 obtain⟨p,e1,hf⟩:=Zz0.mp hf
 refine wpAny_allTrue_Or_cons (h1 W U H fr s _ E _ _ r e1 λW1 k1 t1 l1 r1=>?_)
 obtain⟨c,H1⟩:=p
 cases c with
 | false=>exact h2 W1 U _ fr _ Q E b H' r1 hf λW3 k3 t3 l3 r3=>post W3 k3 t3 (l1.trans l3) r3
 | true=>
  cases hf
  exact post W1 k1 t1 l1 r1
theorem ZaF{op:BoolOp}(h:JA prog w M op es t): JT prog w M (.BoolOp op es pos) t:=λW U H fr s Q E b H' r hf post=>wpAny_isTrue_BoolOp (h W U H fr s Q E b H' r hf post)
theorem JT.val{f:Ex}(h:J prog w M e f)(he:isTrue e M.env (eval e M.env)=(do let v <-eval e M.env;standAt e.pos;holding [v] (truthy v)):=by rfl): JT prog w M e (Zl f):=by
 intro W U H fr s Q E b H' r hf post
 obtain⟨p,e1,hf⟩:=Zz0.mp hf
 obtain⟨c,e2,e3⟩:=Zz1.mp hf
 cases e3
 refine isTrue_plain (h W U H fr s _ E _ _ r e1 λW1 k1 t1 x l1 r1 x1=>?_) he
 exact truth M W1 U _ fr _ _ E _ x b r1 x1 e2 λW2 k2 t2 l2 r2=>post W2 k2 t2 (l1.trans l2) r2
theorem Zy{f g:Ex}(h1:J prog w M e1 f)(h2:J prog w M e2 g)(ho:Op2 prog w (compareOp op) o)(hm:behindInMarks op e2=false:=by with_unfolding_all rfl): JT prog w M (.Compare e1 [op] [e2] pos) (Zl (Zc o f g)):=by
 intro W U H fr s Q E b H' r hf post
 obtain⟨pp,e0,hf0⟩:=Zz0.mp hf
 obtain⟨c,e4,e5⟩:=Zz1.mp hf0
 cases e5
 obtain⟨p,e1,hf⟩:=Zz0.mp e0
 obtain⟨q,e2,e3⟩:=Zz0.mp hf
 refine wpAny_isTrue_Compare1 (h1 W U H fr s _ E _ _ r e1 λW1 k1 t1 x l1 r1 x1=>?_) hm
 refine h2 W1 U _ fr _ _ E _ _ r1 e2 λW2 k2 t2 y l2 r2 y2=>?_
 refine ho M W2 U _ fr _ _ E _ _ x y _ _ r2 (x1.mono l2) y2 e3 λW3 k3 t3 z l3 r3 z3=>?_
 exact truth M W3 U _ fr _ _ E _ z b r3 z3 e4 λW4 k4 t4 l4 r4=>post W4 k4 t4 (((l1.trans l2).trans l3).trans l4) r4
noncomputable def ZcB(a b:Int): Bool:=!(decide (Builtin.Int.intBits a>shortFactorBits) && decide (Builtin.Int.intBits b>shortFactorBits) && Builtin.Int.intTooBig (Builtin.Int.intBits a+Builtin.Int.intBits b))
theorem ZpS{a b:Int}(h:ZcB a b=true): IntMulOk a b:=by
 unfold ZcB at h
 unfold IntMulOk
 intro c
 rw[c]at h
 cases h
noncomputable def iop(f:Int->Int->Hp->Option (V×Hp)): V->V->Hp->Option (V×Hp)
 | .int a,.int b,H=>f a b H
 | _,_,_=>none
theorem Zlq{f:Int->Int->Hp->Option (V×Hp)}{a:V}(h:iop f a b H=some z): ∃i j,a=.int i/\b=.int j/\f i j H=some z:=by
 cases a <;> first | exact nope h | skip
 cases b <;> first | exact nope h | exact⟨_,_,rfl,rfl,h⟩
noncomputable def Zai:=iop λa b H=>some (.int (a-b),H)
noncomputable def ZcV:=iop λa b H=>if b≠0/\Builtin.divisionGoesByPylong a b=false then some (.int (a.fdiv b),H)else none
noncomputable def Zcp:=iop λa b H=>if b≠0 then some (.int (a.fmod b),H)else none
noncomputable def ZbJ:=iop λa b H=>if 0<=b/\(Builtin.Int.intBits a:Int)*b<=2 ^ 27 then some (.int (a ^ b.toNat),H)else none
noncomputable def Zax: V->Hp->Option (V×Hp)
 | .int a,H=>some (.int (-a),H)
 | _,_=>none
noncomputable def Zg7(p:Int->Int->Bool):=iop λa b H=>some (.bool (p a b),H)
def oLt:=Zg7 λa b=>decide (a<b)
def oLe:=Zg7 λa b=>decide (a<=b)
def oGt:=Zg7 λa b=>decide (b<a)
def oGe:=Zg7 λa b=>decide (b<=a)
theorem VR.iint{W:Wd}(r:VR W (.int k) y): ∃t,y=.int k t:=by
 cases r
 exact⟨_,rfl⟩
theorem ZbD{c:Prop}[Decidable c]{x z:d}(h:(if c then some x else none)=some z): c/\x=z:=by
 by_cases k:c
 ·rw[if_pos k]at h
  exact⟨k,Option.some.inj h⟩
 ·rw[if_neg k]at h
  cases h
theorem Op2.ofI{m:Value->Value->Sem Value}{f:Int->Int->Hp->Option (V×Hp)}(h:∀a b H v H',f a b H=some (v,H')->H'=H/\∀(A:Around) (t u:Tok) (Q E:Value->Shared->Prop) (s:Shared),(∀tk x,(∀W,VR W v x)->Q x { s with toks:=tk })->wpAny (model prog w) A (m (.int a t) (.int b u)) Q E s): Op2 prog w m (iop f):=by
 intro M W U H fr s Q E a b x y v H' r hx hy ho post
 obtain⟨i,j,rfl,rfl,e⟩:=Zlq ho
 obtain⟨t,rfl⟩:=hx.iint
 obtain⟨u,rfl⟩:=hy.iint
 obtain⟨rfl,k⟩:=h _ _ _ _ _ e
 exact k M.A t u Q E s λtk x hx=>post W s.heap tk x (.refl W) r (hx W)
theorem Zar: Op2 prog w (binaryOp .Sub) Zai:=.ofI λa b H v H' e=>by
 cases e
 exact⟨rfl,λA t u Q E s p=>PySem.P.sub_int (p _ _ λW=>.int _ _)⟩
theorem ZcP: Op2 prog w (binaryOp .Mod) Zcp:=.ofI λa b H v H' e=>by
 obtain⟨hb,e⟩:=ZbD e
 cases e
 exact⟨rfl,λA t u Q E s p=>mod_int' hb (p _ _ λW=>.int _ _)⟩
theorem Zgs: Op2 prog w (binaryOp .FloorDiv) ZcV:=.ofI λa b H v H' e=>by
 obtain⟨hb,e⟩:=ZbD e
 cases e
 exact⟨rfl,λA t u Q E s p=>floordiv_int hb.1 (p _ _ λW=>.int _ _) (.inl hb.2)⟩
theorem Zc8: Op2 prog w (binaryOp .Pow) ZbJ:=.ofI λa b H v H' e=>by
 obtain⟨hb,e⟩:=ZbD e
 cases e
 exact⟨rfl,λA t u Q E s p=>pow_int hb.1 hb.2 (p _ _ λW=>.int _ _)⟩
theorem ok_neg: Op1 prog w (unaryOp .USub) Zax:=by
 intro M W U H fr s Q E a x v H' r hx ho post
 cases a <;> first | exact nope ho | skip
 obtain⟨t,rfl⟩:=hx.iint
 cases ho
 exact PySem.P.neg_int (post W s.heap _ _ (.refl W) r (.int _ _))
theorem ZcC: Op2 prog w (compareOp .Lt) oLt:=.ofI λa b H v H' e=>by
 cases e
 exact⟨rfl,λA t u Q E s p=>PySem.P.lt_int (p s.toks _ λW=>.bool _)⟩
theorem Zjk: Op2 prog w (compareOp .LtE) oLe:=.ofI λa b H v H' e=>by
 cases e
 exact⟨rfl,λA t u Q E s p=>PySem.P.le_int (p s.toks _ λW=>.bool _)⟩
theorem Zbh: Op2 prog w (compareOp .Gt) oGt:=.ofI λa b H v H' e=>by
 cases e
 exact⟨rfl,λA t u Q E s p=>PySem.P.gt_int (p s.toks _ λW=>.bool _)⟩
noncomputable def ZcW(f:V->Option PyData): List V->Option (List PyData)
 | []=>some []
 | v::vs=>(f v).bind λd=>(ZcW f vs).bind λds=>some (d::ds)
def toD(H:Hp): Nat->V->Option PyData
 | _,.none=>some .none
 | _,.bool b=>some (.bool b)
 | _,.int i=>some (.int i)
 | _,.str x=>some (.str x)
 | n+1,.tup vs=>(ZcW (toD H n) vs).map .tuple
 | n+1,.ref a=>H[a]?.bind λvs=>(ZcW (toD H n) vs).map .list
 | 0,.tup _=>none
 | 0,.ref _=>none
 | _,.obj _ _=>none
 | _,.dct _=>none
theorem Zh7{W:Wd}{h:Heap}{f:V->Option PyData}(ih:∀v x d,VR W v x->f v=some d->∃as,Reads h x d as): ∀{vs:List V} {xs:List Value} {ds:List PyData},VRs W vs xs->ZcW f vs=some ds->∃as,ReadsAll h xs ds as
 | _,_,_,.nil,e=>by
  cases e
  exact⟨_,.nil⟩
 | _,_,_,.cons a r,e=>by
  obtain⟨d,e1,e⟩:=Zz0.mp e
  obtain⟨ds,e2,e3⟩:=Zz0.mp e
  cases e3
  obtain⟨as,h1⟩:=ih _ _ _ a e1
  obtain⟨bs,h2⟩:=Zh7 ih r e2
  exact⟨_,.cons h1 h2⟩
theorem ZdF{W:Wd}(r:Rep M W U H fr h): ∀(n:Nat) (v:V) (x:Value) (d:PyData),VR W v x->toD H n v=some d->∃as,Reads h x d as:=by
 intro n
 induction n with
 | zero=>
  intro v x d hv e
  cases hv with
  | none=>cases e;exact⟨_,.none⟩
  | bool b=>cases e;exact⟨_,.bool b⟩
  | int i t=>cases e;exact⟨_,.int i t⟩
  | str y t=>cases e;exact⟨_,.str y t⟩
  | tup _ _ _=>cases e
  | ref _=>cases e
  | obj _ _ _ _=>cases e
  | dct _ _ _=>cases e
 | succ n ih=>
  intro v x d hv e
  cases hv with
  | none=>cases e;exact⟨_,.none⟩
  | bool b=>cases e;exact⟨_,.bool b⟩
  | int i t=>cases e;exact⟨_,.int i t⟩
  | str y t=>cases e;exact⟨_,.str y t⟩
  | @tup vs a xs k hm hl hs=>
   obtain⟨ds,e1,e2⟩:=Zz1.mp e
   subst e2
   obtain⟨as,h1⟩:=Zh7 ih hs e1
   exact⟨_,.tuple (r.tupAt hm) rfl rfl (by simpa using h1)⟩
  | @ref i a ea=>
   obtain⟨vs,e0,e⟩:=Zz0.mp e
   obtain⟨ds,e1,e2⟩:=Zz1.mp e
   subst e2
   obtain⟨hl,xs,k,hg,hs⟩:=r.at e0 ea
   obtain⟨as,h1⟩:=Zh7 ih hs e1
   exact⟨_,.list hg rfl rfl (by simpa using h1)⟩
  | obj _ _ _ _=>cases e
  | dct _ _ _=>cases e
noncomputable def ZaX: Nat:=40
def ZbT(a b:V)(H:Hp): Option Bool:=(toD H ZaX a).bind λd=>(toD H ZaX b).bind λe=>if SeqAt.shaped d=true/\SeqAt.shaped e=true then some (PyData.eqv d e)else none
def ZA(a b:V)(H:Hp): Option (V×Hp):=(ZbT a b H).map λc=>(.bool c,H)
def oNe(a b:V)(H:Hp): Option (V×Hp):=(ZbT a b H).map λc=>(.bool (!c),H)
noncomputable def isN: V->Bool
 | .none=>true
 | _=>false
noncomputable def oIs(a b:V)(H:Hp): Option (V×Hp):=if isN b=true then some (.bool (isN a),H)else none
noncomputable def ZaA(a b:V)(H:Hp): Option (V×Hp):=if isN b=true then some (.bool (!isN a),H)else none
theorem VR.isN{W:Wd}(r:VR W v x): (x == .none)=PM.isN v:=by
 cases r <;> rfl
theorem VR.noneV{W:Wd}(r:VR W v x)(h:PM.isN v=true): x=.none:=by
 rw[<-r.isN]at h
 simpa using h
theorem ZT: Op2 prog w (compareOp .Eq) ZA:=by
 intro M W U H fr s Q E a b x y v H' r hx hy ho post
 obtain⟨c,e1,e2⟩:=Zz1.mp ho
 cases e2
 obtain⟨d,h1,e1⟩:=Zz0.mp e1
 obtain⟨e,h2,e1⟩:=Zz0.mp e1
 by_cases hs:SeqAt.shaped d=true/\SeqAt.shaped e=true
 ·rw[if_pos hs]at e1
  cases e1
  obtain⟨as,R1⟩:=ZdF r ZaX a x d hx h1
  obtain⟨bs,R2⟩:=ZdF r ZaX b y e hy h2
  exact eq_dataH R1 R2 hs.1 hs.2 (by have:=M.hu;lia) (post W s.heap s.toks _ (.refl W) r (.bool _))
 ·rw[if_neg hs]at e1
  cases e1
theorem ZdW: Op2 prog w (compareOp .NotEq) oNe:=by
 intro M W U H fr s Q E a b x y v H' r hx hy ho post
 obtain⟨c,e1,e2⟩:=Zz1.mp ho
 cases e2
 obtain⟨d,h1,e1⟩:=Zz0.mp e1
 obtain⟨e,h2,e1⟩:=Zz0.mp e1
 by_cases hs:SeqAt.shaped d=true/\SeqAt.shaped e=true
 ·rw[if_pos hs]at e1
  cases e1
  obtain⟨as,R1⟩:=ZdF r ZaX a x d hx h1
  obtain⟨bs,R2⟩:=ZdF r ZaX b y e hy h2
  exact ne_dataH R1 R2 hs.1 hs.2 (by have:=M.hu;omega) (post W s.heap s.toks _ (.refl W) r (.bool _))
 ·rw[if_neg hs]at e1
  cases e1
theorem Zde: Op2 prog w (compareOp .Is) oIs:=by
 intro M W U H fr s Q E a b x y v H' r hx hy ho post
 unfold oIs at ho
 split at ho
 case isFalse=>cases ho
 rename_i hb
 cases ho
 rw[hy.noneV hb]
 exact PySem.is_none (by rw[hx.isN];exact post W s.heap s.toks _ (.refl W) r (.bool _))
theorem Zce: Op2 prog w (compareOp .IsNot) ZaA:=by
 intro M W U H fr s Q E a b x y v H' r hx hy ho post
 unfold ZaA at ho
 split at ho
 case isFalse=>cases ho
 rename_i hb
 cases ho
 rw[hy.noneV hb]
 exact PySem.isNot_none (by rw[hx.isN];exact post W s.heap s.toks _ (.refl W) r (.bool _))
noncomputable def Zf: V->V->Hp->Option (V×Hp)
 | .ref a,.int k,H=>H[a]?.bind λvs=>(seqIndex? k vs.length).bind λj=>vs[j]?.map λv=>(v,H)
 | .tup vs,.int k,H=>(seqIndex? k vs.length).bind λj=>vs[j]?.map λv=>(v,H)
 | _,_,_=>none
theorem ZjP{j:Nat}(h:seqIndex? k n=some j): j<n/\(k:Int)<n/\-(n:Int)<=k/\(0<=k->k.toNat=j)/\(k<0->(k+n).toNat=j):=by
 unfold seqIndex? at h
 by_cases c:k<0
 ·simp only[c,if_true]at h
  split at h
  ·rename_i d
   simp at d h
   lia
  ·cases h
 ·simp only[c,if_false]at h
  split at h
  ·rename_i d
   simp at d h
   lia
  ·cases h
theorem VR.itup{W:Wd}(r:VR W (.tup vs) y): ∃a xs k,y=.ref a/\(a,Zco xs k)∈W.tups/\vs.length<=ZK/\VRs W vs xs:=by
 cases r with
 | tup h1 h2 h3=>exact⟨_,_,_,rfl,h1,h2,h3⟩
theorem VR.iref{W:Wd}(r:VR W (.ref i) y): ∃a,y=.ref a/\W.At i a:=by
 cases r with
 | ref h=>exact⟨_,rfl,h⟩
theorem ZpT{v2:V}{r:V×Hp}(e:Zf v1 v2 H=some r): ∃k,v2=.int k/\((∃vs,v1=.tup vs)∨∃a,v1=.ref a):=by
 cases v1 with
 | tup vs=>
  cases v2 with
  | int k=>exact⟨k,rfl,.inl ⟨_,rfl⟩⟩
  | _=>cases e
 | ref a=>
  cases v2 with
  | int k=>exact⟨k,rfl,.inr ⟨_,rfl⟩⟩
  | _=>cases e
 | _=>cases e
theorem Zj{f g:Ex}(h1:J prog w M e1 f)(h2:J prog w M e2 g)(hs:∀a k u,subscripted e2 false (.ref a) (.int k u)=operate [.ref a,.int k u] (getItem (.ref a) (.int k u)):=by intros;with_unfolding_all rfl): J prog w M (.Subscript e1 e2 pos) (Zc Zf f g):=by
 intro W U H fr s Q E v H' r hf post
 obtain⟨p,e1,hf⟩:=Zz0.mp hf
 obtain⟨q,e2,e3⟩:=Zz0.mp hf
 refine Subscript_ (h1 W U H fr s _ E _ _ r e1 λW1 k1 t1 x l1 r1 x1=>?_)
 refine h2 W1 U _ fr _ _ E _ _ r1 e2 λW2 k2 t2 y l2 r2 y2=>?_
 right
 have x2:=x1.mono l2
 obtain⟨v1,H1⟩:=p
 obtain⟨v2,H2⟩:=q
 obtain⟨k,rfl,h⟩:=ZpT e3
 obtain⟨u,rfl⟩:=y2.iint
 left
 rcases h with⟨vs,rfl⟩ | ⟨i,rfl⟩
 ·right
  obtain⟨a,xs,kk,rfl,hm,hl,hv⟩:=x2.itup
  obtain⟨j,hj,e4⟩:=Zz0.mp e3
  obtain⟨z,hz,e5⟩:=Zz1.mp e4
  left
  cases e5
  obtain⟨z',hz',rz⟩:=hv.at hz
  have hx:xs.length=vs.length:=hv.length
  have hb:=ZjP hj
  rw[ZD]at hl
  have it:IsTup k2 a xs.toArray:=⟨_,r2.tupAt hm,rfl,kk,rfl⟩
  exact item_tupleT it .l .l (by rw[hx];exact hj) hz' (post W2 k2 t2 z' (l1.trans l2) r2 rz) (hs _ _ _)
 ·right
  obtain⟨a,rfl,ea⟩:=x2.iref
  obtain⟨vs,hvs,e3⟩:=Zz0.mp e3
  obtain⟨j,hj,e4⟩:=Zz0.mp e3
  obtain⟨z,hz,e5⟩:=Zz1.mp e4
  left
  cases e5
  obtain⟨hl,xs,kk,hg,hv⟩:=r2.at hvs ea
  obtain⟨z',hz',rz⟩:=hv.at hz
  have hx:xs.length=vs.length:=hv.length
  have hb:=ZjP hj
  rw[ZD]at hl
  have isl:k2.IsList a xs.toArray:=⟨_,hg,rfl,kk,rfl⟩
  refine tail_any (s:={ s with heap:=k2,toks:=t2 }) isl.typeIs slot_list_getitem.lookup ?_ (hs _ _ _)
  by_cases hk:0<=k
  ·exact wpAny_getItem_list isl hk .l (by rw[hb.2.2.2.1 hk];simpa using hz') (post W2 k2 t2 z' (l1.trans l2) r2 rz)
  ·refine wpAny_getItem_list_neg isl .l (by simp;lia) .l ?_ (post W2 k2 t2 z' (l1.trans l2) r2 rz)
   have:=hb.2.2.2.2 .o
   rw[<-hx]at this
   simpa [this]using hz'
noncomputable def Zbi(vs:List d)(lo hi:Option Int): List d:=(sliceRange (sliceBounds lo hi none vs.length).1 (sliceBounds lo hi none vs.length).2.1 (sliceBounds lo hi none vs.length).2.2).filterMap λi=>vs[i]?
theorem VRs.pick{W:Wd}(h:VRs W vs xs)(l:List Nat): VRs W (l.filterMap λi=>vs[i]?) (l.filterMap λi=>xs[i]?):=by
 induction l with
 | nil=>exact .nil
 | cons i l ih=>
  simp only[List.filterMap_cons]
  have hl:=h.length
  cases e:vs[i]? with
  | none=>
   have:xs[i]?=none:=by rw[List.getElem?_eq_none_iff]at e ⊢;lia
   rw[this]
   exact ih
  | some v=>
   obtain⟨x,hx,hr⟩:=h.at e
   rw[hx]
   exact .cons hr ih
theorem ZpU(vs:List d)(lo hi:Option Int): (Zbi vs lo hi).length<=vs.length:=by
 unfold Zbi
 refine Nat.le_trans (List.length_filterMap_le _ _) ?_
 refine sliceRange_length_le _ _ _ _ (λ_=>?_) λc=>?_
 ·unfold sliceBounds
  cases lo <;> cases hi <;> simp <;> omega
 ·exact absurd (by unfold sliceBounds;simp) c
theorem Ziu(vs:List d)(a:Nat): ∀m:Nat,a+m<=vs.length->((List.range m).map λk=>a+k).filterMap (λi=>vs[i]?)=(vs.drop a).take m:=by
 intro m
 induction m with
 | zero=>intro _;simp
 | succ m ih=>
  intro h
  rw[List.range_succ,List.map_append,List.filterMap_append,ih .l,List.take_add_one]
  congr 1
  simp only[List.map_cons,List.map_nil,List.filterMap_cons,List.filterMap_nil,List.getElem?_drop]
  cases e:vs[a+m]? with
  | none=>rw[List.getElem?_eq_none_iff]at e;lia
  | some v=>rfl
theorem Zf5(vs:List d)(lo hi:Option Int){b:Nat}(ha:(sliceBounds lo hi none vs.length).1=(a:Int))(hb:(sliceBounds lo hi none vs.length).2.1=(b:Int))(h:b<=vs.length): Zbi vs lo hi=(vs.drop a).take (b-a):=by
 have hc:(sliceBounds lo hi none vs.length).2.2=1:=by unfold sliceBounds;rfl
 unfold Zbi
 rw[ha,hb,hc]
 have e:sliceRange (a:Int) (b:Int) 1=(List.range (b-a)).map λk=>a+k:=by
  unfold sliceRange
  simp only[show(1:Int)>0 from by decide,if_true]
  by_cases c:(a:Int)<b
  ·rw[if_pos c]
   have:((b:Int)-a+1-1) / 1=((b-a:Nat):Int):=by lia
   rw[this]
   simp only[Int.toNat_natCast]
   refine List.map_congr_left λk _=>?_
   lia
  ·rw[if_neg c]
   have:b-a=0:=by lia
   rw[this]
   rfl
 rw[e]
 by_cases c:a<=b
 ·exact Ziu vs a (b-a) .l
 ·have:b-a=0:=by lia
  rw[this]
  simp
theorem Zlr(n a:Nat): max 0 (min (if(a:Int)<0 then(a:Int)+n else a) (n:Int))=((min a n:Nat):Int):=by
 rw[if_neg (Int.not_lt.mpr (Int.natCast_nonneg a))]
 by_cases h:a<=n
 ·rw[Nat.min_eq_left h,Int.min_eq_left (Int.ofNat_le.mpr h)]
  exact Int.max_eq_right (Int.natCast_nonneg _)
 ·have h:=Nat.le_of_not_le h
  rw[Nat.min_eq_right h,Int.min_eq_right (Int.ofNat_le.mpr h)]
  exact Int.max_eq_right (Int.natCast_nonneg _)
theorem Zna: (sliceBounds (some (a:Int)) hi none n).1=((min a n:Nat):Int):=Zlr n a
theorem Znb: (sliceBounds lo (some (a:Int)) none n).2.1=((min a n:Nat):Int):=Zlr n a
theorem ZsC: (sliceBounds none hi none n).1=((0:Nat):Int):=by
 unfold sliceBounds
 simp
theorem ZsD: (sliceBounds lo none none n).2.1=(n:Int):=by
 unfold sliceBounds
 simp
theorem Zo4(vs:List d)(e:k=(a:Int)): Zbi vs (some k) none=vs.drop a:=by
 rw[e,Zf5 vs _ none Zna ZsD (Zz10 _),List.take_of_length_le (by rw[List.length_drop];exact Zz10 _)]
 by_cases h:a<=vs.length
 ·rw[Nat.min_eq_left h]
 ·rw[Nat.min_eq_right (Nat.le_of_not_le h),List.drop_of_length_le (Zz10 _),List.drop_of_length_le (Nat.le_of_not_le h)]
theorem ZqY(vs:List d)(e:k=(a:Int)): Zbi vs none (some k)=vs.take a:=by
 rw[e,Zf5 vs none _ ZsC Znb (Nat.min_le_right _ _),List.drop_zero,Nat.sub_zero]
 by_cases h:a<=vs.length
 ·rw[Nat.min_eq_left h]
 ·rw[Nat.min_eq_right (Nat.le_of_not_le h),List.take_of_length_le (Zz10 _),List.take_of_length_le (Nat.le_of_not_le h)]
noncomputable def Zdz: Option V->Option (Option Int)
 | none=>some none
 | some (.int k)=>some (some k)
 | _=>none
abbrev Pt:=Lc->Hp->Option (Option V×Hp)
noncomputable def ZaU: Pt:=λ_ H=>some (none,H)
noncomputable def Zaw(f:Ex): Pt:=λU H=>(f U H).map λp=>(some p.1,p.2)
def ZaB(f:Ex)(lo hi:Pt): Ex:=λU H=>(f U H).bind λp=>(lo U p.2).bind λq=>(hi U q.2).bind λu=>(Zdz q.1).bind λa=>(Zdz u.1).bind λb=>match p.1 with
 | .ref i=>u.2[i]?.bind λvs=>some (.ref u.2.length,u.2++[Zbi vs a b])
 | _=>none
inductive VP(W:Wd): Option V->Value->Prop where
 | none:VP W none .none
 | some {v:V} {x:Value}:VR W v x->VP W (some v) x
theorem VP.mono{W:Wd}{v:Option V}(l:W.Le W')(h:VP W v x): VP W' v x:=by
 cases h with
 | none=>exact .none
 | some h=>exact .some (h.mono l)
theorem VP.part{W:Wd}{v:Option V}{k:Option Int}(h:VP W v x)(e:Zdz v=Option.some k): IsPart x k:=by
 cases h with
 | none=>cases e;exact .none
 | some h=>cases h <;> cases e;exact .int _ _
def JP(prog:Program)(w:World)(M:Cx)(e:Option Expr)(f:Pt): Prop:=∀(W:Wd) (U:Lc) (H:Hp) (fr:List (Addr×Obj)) (s:Shared) (Q E:Value->Shared->Prop) (v:Option V) (H':Hp),
 Rep M W U H fr s.heap->f U H=some (v,H')->(∀(W':Wd) (h':Heap) (tk':Nat) (x:Value),W.Le W'->Rep M W' U H' fr h'->VP W' v x->Q x { s with heap:=h',toks:=tk' })->wpAny (model prog w) M.A (evalPart e M.env) Q E s
theorem JP.none: JP prog w M none ZaU:=λW U H fr s Q E v H' r hf post=>by
 cases hf
 exact wpAny_evalPart_none (post W s.heap s.toks _ (.refl W) r .none)
theorem JP.some{f:Ex}(h:J prog w M e f): JP prog w M (some e) (Zaw f):=λW U H fr s Q E v H' r hf post=>by
 obtain⟨p,e1,e2⟩:=Zz1.mp hf
 cases e2
 exact wpAny_evalPart_some (h W U H fr s _ E _ _ r e1 λW1 k1 t1 x l1 r1 x1=>post W1 k1 t1 x l1 r1 (.some x1))
theorem ZoC{W:Wd}{k3:Heap}{z:Value}{ka kb:Option Int} (hf:(match v1 with
  | .ref a=>H[a]?.bind λvs=>some (V.ref H.length,H++[Zbi vs ka kb])
  | _=>none)=some (v,H')) (r3:Rep M W U H fr k3) (x3:VR W v1 x):∃a xs W4,x=.ref a/\k3.IsList a xs.toArray/\xs.length<=sizeLine/\W.Le W4/\Rep M W4 U H' fr ((k3.push { cls:=.type "slice",data:=.fields #[y,z,.none] }).push (Zat (Zbi xs ka kb) 0))/\VR W4 v (.ref (k3.push { cls:=.type "slice",data:=.fields #[y,z,.none] }).objs.size)/\slicePick xs.toArray ka kb Option.none=(Zbi xs ka kb).toArray:=by
 cases x3 with
 | none=>cases hf
 | bool _=>cases hf
 | int _ _=>cases hf
 | str _ _=>cases hf
 | tup _ _ _=>cases hf
 | obj _ _ _ _=>cases hf
 | dct _ _ _=>cases hf
 | @ref i a ea=>
  obtain⟨vs,hvs,e6⟩:=Zz0.mp hf
  cases e6
  obtain⟨hl,xs,kk,hg,hv⟩:=r3.at hvs ea
  have hp:VRs W (Zbi vs ka kb) (Zbi xs ka kb):=by
   unfold Zbi
   rw[hv.length]
   exact hv.pick _
  obtain⟨W4,l4,r4,v4⟩:=(r3.push { cls:=.type "slice",data:=.fields #[y,z,.none] }).list (k:=0) hp (Nat.le_trans (ZpU vs ka kb) hl)
  exact⟨a,xs,W4,rfl,⟨_,hg,rfl,kk,rfl⟩,Zcv (by rw[hv.length];exact hl),l4,r4,v4,by unfold slicePick Zbi;simp⟩
def Nm(prog:Program)(w:World)(M:Cx)(x:Str)(v:Value): Prop:=∀(pos:Pos) (m:Str->Option Value) (s:Shared) (Q E:Value->Shared->Prop),Fr M.h₀ M.L s.heap m->Q v s->wpAny (model prog w) M.A (eval (.Name x pos) M.env) Q E s
theorem Nm.use{x:Str}(h:Nm prog w M x y){W:Wd}(r:Rep M W U H fr s.heap)(q:Q y s): wpAny (model prog w) M.A (eval (.Name x pos) M.env) Q E s:=by
 obtain⟨m,c,led,r⟩:=r
 exact h pos m s Q E r.F q
def OpN(prog:Program)(w:World)(m:List Value->Sem Value)(o: .y): Prop:=∀(M:Cx) (W:Wd) (U:Lc) (H:Hp) (fr:List (Addr×Obj)) (s:Shared) (Q E:Value->Shared->Prop) (as:List V) (xs:List Value) (v:V) (H':Hp),
 Rep M W U H fr s.heap->VRs W as xs->o as H=some (v,H')->ZcE M W U H' fr s Q v->wpAny (model prog w) M.A (m xs) Q E s
noncomputable def Zg(o: .y)(g:Exs): Ex:=λU H=>(g U H).bind λp=>o p.1 p.2
theorem Z4{x:Str}{g:Exs}{o: .y}(hn:Nm prog w M x (.builtin id))(h:Js prog w M (e::es) g)(ho:OpN prog w (λxs=>call (.builtin id) xs) o)
  (he:starEach (e::es) M.env=(false,eval e M.env)::starEach es M.env:=by rfl) (hp:∀pos,(backTo pos (starEach es M.env)).any (·.1)=false:=by intro _;rfl):J prog w M (.Call (.Name x np) (e::es) [] pos) (Zg o g):=by
 intro W U H fr s Q E v H' r hf post
 obtain⟨p,e1,hf⟩:=Zz0.mp hf
 refine wpAny_Call_ofName (hn.use r ?_)
 refine callWith_builtin1 (h pos W U H fr s _ E _ _ r e1 λW1 k1 t1 xs l1 r1 x1=>?_) he (hp pos)
 exact ho M W1 U _ fr _ Q E _ xs v H' r1 x1 hf λW2 k2 t2 y l2 r2 y2=>post W2 k2 t2 y (l1.trans l2) r2 y2
theorem Zc7{x:Str}{T:String}{g:Exs}{o: .y}(hn:Nm prog w M x (.type T))(h:Js prog w M (e::es) g)(ho:OpN prog w (λxs=>call (.type T) xs) o)
  (he:starEach (e::es) M.env=(false,eval e M.env)::starEach es M.env:=by rfl) (hp:∀pos,(backTo pos (starEach es M.env)).any (·.1)=false:=by intro _;rfl):J prog w M (.Call (.Name x np) (e::es) [] pos) (Zg o g):=by
 intro W U H fr s Q E v H' r hf post
 obtain⟨p,e1,hf⟩:=Zz0.mp hf
 refine wpAny_Call_ofName (hn.use r ?_)
 refine PySem.Pv.callWith_type1 (h pos W U H fr s _ E _ _ r e1 λW1 k1 t1 xs l1 r1 x1=>?_) he (hp pos)
 exact ho M W1 U _ fr _ Q E _ xs v H' r1 x1 hf λW2 k2 t2 y l2 r2 y2=>post W2 k2 t2 y (l1.trans l2) r2 y2
noncomputable def Zls: V->String
 | .none=>"NoneType"
 | .bool _=>"bool"
 | .int _=>"int"
 | .str _=>"str"
 | .tup _=>"tuple"
 | .ref _=>"list"
 | .obj _ _=>"object"
 | .dct _=>"object"
def Zbt(T:String)(v:V): Bool:=Zls v == T || (T == "int" && Zls v == "bool")
noncomputable def ZdX: V->Bool
 | .obj _ _=>true
 | .dct _=>true
 | _=>false
def eIs(T:String)(f:Ex): Ex:=λU H=>(f U H).bind λp=>if ZdX p.1 then none else some (.bool (Zbt T p.1),p.2)
theorem isinst{T:String}(hT:T="int"∨T="bool"∨T="list"∨T="tuple"){W:Wd}{a:V}(r:Rep M W U H fr s.heap)(hx:VR W a x)(hin:∀i,a=.ref i->i<H.length)(hob:ZdX a=false)
  (post:∀tk,Q (.bool (Zbt T a)) { s with toks:=tk }):wpAny (model prog w) M.A (call (.builtin "isinstance") [x,.type T]) Q E s:=by
 cases hx with
 | none=>
      rcases hT with e | e | e | e <;> subst e
      ·exact call_isinstance (isinstance_false_none .D F.isi_meta_int (by rw[isSubtype_type];kernel_rfl)) (post _)
      ·exact call_isinstance (isinstance_false_none .D F.isi_meta_bool (by rw[isSubtype_type];kernel_rfl)) (post _)
      ·exact call_isinstance (isinstance_false_none .D F.isi_meta_list (by rw[isSubtype_type];kernel_rfl)) (post _)
      ·exact call_isinstance (isinstance_false_none .D F.isi_meta_tuple (by rw[isSubtype_type];kernel_rfl)) (post _)
 | bool b=>
       rcases hT with e | e | e | e <;> subst e
       ·exact IsiPair.bool_int (post s.toks)
       ·exact IsiPair.bool_bool (post s.toks)
       ·exact IsiPair.bool_list (post _)
       ·exact IsiPair.bool_tuple (post _)
 | int i t=>
       rcases hT with e | e | e | e <;> subst e
       ·exact IsiPair.int_int (post s.toks)
       ·exact IsiPair.int_bool (post _)
       ·exact IsiPair.int_list (post _)
       ·exact IsiPair.int_tuple (post _)
 | str y t=>
       rcases hT with e | e | e | e <;> subst e
       ·exact IsiPair.str_int (post _)
       ·exact IsiPair.str_bool (post _)
       ·exact IsiPair.str_list (post _)
       ·exact IsiPair.str_tuple (post _)
 | tup hm hl hs=>
  have hg:=r.tupAt hm
  rcases hT with e | e | e | e <;> subst e
  ·exact IsiPair.tuple_int hg rfl (post _)
  ·exact IsiPair.tuple_bool hg rfl (post _)
  ·exact IsiPair.tuple_list hg rfl (post _)
  ·exact IsiPair.tuple_tuple hg rfl (post s.toks)
 | @ref i a ea=>
  obtain⟨hl,xs,k,hg,hv⟩:=r.at (Yy1 (hin i rfl)) ea
  rcases hT with e | e | e | e <;> subst e
  ·exact IsiPair.list_int hg rfl (post _)
  ·exact IsiPair.list_bool hg rfl (post _)
  ·exact IsiPair.list_list hg rfl (post s.toks)
  ·exact IsiPair.list_tuple hg rfl (post _)
 | obj _ _ _ _=>cases hob
 | dct _ _ _=>cases hob
theorem Rep.refIn{W:Wd}(r:Rep M W U H fr h)(hx:VR W (.ref i) x): i<H.length:=by
 obtain⟨m,c,led,r⟩:=r
 cases hx with
 | ref e=>rw[<-r.R.len];exact(Zz6.mp e.1).1
theorem Zdp{tp:Pos}{x y:Str}{T:String}{f:Ex}(hn:Nm prog w M x (.builtin "isinstance"))(hy:Nm prog w M y (.type T))(hT:T="int"∨T="bool"∨T="list"∨T="tuple")(h:J prog w M e f)
  (he:starEach [e,.Name y tp] M.env=(false,eval e M.env)::starEach [.Name y tp] M.env:=by rfl) (hp:∀pos,(backTo pos (starEach [.Name y tp] M.env)).any (·.1)=false:=by intro _;rfl):J prog w M (.Call (.Name x np) [e,.Name y tp] [] pos) (eIs T f):=by
 intro W U H fr s Q E v H' r hf post
 obtain⟨p,e1,e2⟩:=Zz0.mp hf
 by_cases hob:ZdX p.1=true
 ·rw[if_pos hob]at e2;cases e2
 rw[if_neg hob]at e2
 cases e2
 refine wpAny_Call_ofName (hn.use r ?_)
 refine callWith_builtin1 (wpAny_items_cons (h W U H fr s _ E _ _ r e1 λW1 k1 t1 z l1 r1 z1=>?_) he) he (hp pos)
 refine wpAny_items_cons (hy.use (s:={ s with heap:=k1,toks:=t1 }) r1 ?_)
 refine wpAny_items_nil ?_
 exact PM.isinst hT r1 z1 (λi e=>by rw[e]at z1;exact r1.refIn z1) (by simpa using hob) λtk=>post W1 k1 tk _ l1 r1 (.bool _)
noncomputable def ZbK(f g: .y): .y
 | [.ref a],H=>H[a]?.bind λvs=>f vs H
 | [.tup vs],H=>g vs H
 | _,_=>none
theorem ZcQ(e:H[a]?=some vs): ZbK f g [.ref a] H=f vs H:=by
 show H[a]?.bind _=_
 rw[e]
 rfl
theorem Zlt(h:ZbK f g as H=some z): (∃a vs,as=[.ref a]/\H[a]?=some vs/\f vs H=some z)∨∃vs,as=[.tup vs]/\g vs H=some z:=by
 cases as with
 | nil=>cases h
 | cons a as=>
  cases as with
  | cons b as=>cases a <;> cases h
  | nil=>
   cases a <;> first | exact nope h | exact .inr ⟨_,rfl,h⟩ | skip
   obtain⟨vs,e,h⟩:=Zz0.mp h
   exact .inl ⟨_,vs,rfl,e,h⟩
theorem Ziv(h:ZbK f (λ_ _=>none) as H=some z): ∃a vs,as=[.ref a]/\H[a]?=some vs/\f vs H=some z:=(Zlt h).elim id λ⟨_,_,e⟩=>nope e
noncomputable def two(o:V->V->Hp->Option (V×Hp)): .y
 | [a,b],H=>o a b H
 | _,_=>none
def ZZ:=ZbK (λvs H=>some (.int vs.length,H)) λvs H=>some (.int vs.length,H)
noncomputable def one(o:V->Hp->Option (V×Hp)): .y
 | [a],H=>o a H
 | _,_=>none
noncomputable def ZuN: V->Hp->Option (V×Hp)
 | .int a,H=>some (.int (if a<0 then -a else a),H)
 | _,_=>none
def ZdD:=one ZuN
noncomputable def ZdY:=two (iop λa b H=>some (.int (if b>a then b else a),H))
noncomputable def ZdA:=two (iop λa b H=>some (.int (if b<a then b else a),H))
noncomputable def Za2: List V->Option (List Int)
 | []=>some []
 | .int k::vs=>(Za2 vs).map λks=>k::ks
 | _::_=>none
def ZcX:=ZbK (λvs H=>(Za2 vs).map λks=>(.int ks.sum,H)) λ_ _=>none
theorem VRs.one{W:Wd}(h:VRs W [v] xs): ∃x,xs=[x]/\VR W v x:=by
 cases h with
 | cons a b=>cases b;exact⟨_,rfl,a⟩
theorem VRs.two{W:Wd}{u:V}(h:VRs W [v,u] xs): ∃x y,xs=[x,y]/\VR W v x/\VR W u y:=by
 cases h with
 | cons a b=>obtain⟨y,e,r⟩:=b.one;subst e;exact⟨_,_,rfl,a,r⟩
theorem Zoc{W:Wd}: ∀{vs:List V} {xs:List Value} {ks:List Int},VRs W vs xs->Za2 vs=some ks->∃ts:Array (Int×Tok),xs.toArray=intItems ts/\preSum (numAt ts) ts.size=ks.sum:=by
 have key:∀{vs:List V} {xs:List Value} {ks:List Int},VRs W vs xs->Za2 vs=some ks->∃ts:List (Int×Tok),xs=ts.map (λp=>Value.int p.1 p.2)/\ts.map (·.1)=ks:=by
  intro vs
  induction vs with
  | nil=>intro xs ks h e;cases h;cases e;exact⟨[],rfl,rfl⟩
  | cons v vs ih=>
   intro xs ks h e
   cases h with
   | cons a b=>
    cases v with
    | int i=>
     obtain⟨js,e1,e2⟩:=Zz1.mp e
     subst e2
     cases a with
     | int _ t=>
      obtain⟨ts,h1,h2⟩:=ih b e1
      exact⟨(i,t)::ts,by rw[h1];rfl,by rw[List.map_cons,h2]⟩
    | _=>cases e
 intro vs xs ks h e
 obtain⟨ts,h1,h2⟩:=key h e
 refine⟨ts.toArray,by rw[h1];simp[intItems],?_⟩
 rw[preSum_eq,List.take_of_length_le .s,<-h2]
def ZC: V->V->Hp->Option (V×Hp)
 | .int a,.int b,H=>some (.int (a+b),H)
 | .ref a,.ref b,H=>H[a]?.bind λvs=>H[b]?.bind λus=>if(vs++us).length<=ZK then some (.ref H.length,H++[vs++us])else none
 | .tup vs,.tup us,H=>if(vs++us).length<=ZK then some (.tup (vs++us),H)else none
 | _,_,_=>none
theorem ZpV{a:V}(h:ZC a b H=some (v,H'))(h1:∀i j,a=.int i->b=.int j->v=.int (i+j)->H'=H->P)(h2:∀i j vs us,a=.ref i->b=.ref j->H[i]?=some vs->H[j]?=some us->(vs++us).length<=ZK->v=.ref H.length->H'=H++[vs++us]->P)(h3:∀vs us,a=.tup vs->b=.tup us->(vs++us).length<=ZK->v=.tup (vs++us)->H'=H->P): P:=by
 cases a <;> first | exact nope h | skip
 ·cases b <;> first | exact nope h | skip
  have e:=Prod.mk.inj (Option.some.inj h)
  exact h1 _ _ rfl rfl e.1.symm e.2.symm
 ·cases b <;> first | exact nope h | skip
  obtain⟨hl,e⟩:=ZbD h
  have e:=Prod.mk.inj e
  exact h3 _ _ rfl rfl hl e.1.symm e.2.symm
 ·cases b <;> first | exact nope h | skip
  obtain⟨vs,e1,h⟩:=Zz0.mp h
  obtain⟨us,e2,h⟩:=Zz0.mp h
  obtain⟨hl,e⟩:=ZbD h
  have e:=Prod.mk.inj e
  exact h2 _ _ _ _ rfl rfl e1 e2 hl e.1.symm e.2.symm
noncomputable def ZcY(vs:List V): Nat->List V
 | 0=>[]
 | n+1=>ZcY vs n++vs
def ZaI: V->V->Hp->Option (V×Hp)
 | .int a,.int b,H=>if ZcB a b=true then some (.int (a*b),H)else none
 | .ref a,.int k,H=>H[a]?.bind λvs=>if vs.length*k.toNat<=ZK/\-(2 ^ 63:Int)<=k/\k<2 ^ 63 then some (.ref H.length,H++[ZcY vs k.toNat])else none
 | _,_,_=>none
theorem ZpW{a:V}(h:ZaI a b H=some (v,H'))(h1:∀i j,a=.int i->b=.int j->ZcB i j=true->v=.int (i*j)->H'=H->P)(h2:∀i k vs,a=.ref i->b=.int k->H[i]?=some vs->(vs.length*k.toNat<=ZK/\-(2 ^ 63:Int)<=k/\k<2 ^ 63)->v=.ref H.length->H'=H++[ZcY vs k.toNat]->P): P:=by
 cases a <;> first | exact nope h | skip
 ·cases b <;> first | exact nope h | skip
  obtain⟨hl,e⟩:=ZbD h
  have e:=Prod.mk.inj e
  exact h1 _ _ rfl rfl hl e.1.symm e.2.symm
 ·cases b <;> first | exact nope h | skip
  obtain⟨vs,e1,h⟩:=Zz0.mp h
  obtain⟨hl,e⟩:=ZbD h
  have e:=Prod.mk.inj e
  exact h2 _ _ _ rfl rfl e1 hl e.1.symm e.2.symm
theorem OpN.seq{m:List Value->Sem Value}(h:∀(M:Cx) (W:Wd) (U:Lc) (H:Hp) (fr:List (Addr×Obj)) (s:Shared) (Q E:Value->Shared->Prop) (vs:List V) (a:Addr) (ys:List Value) (k:Nat) (v:V) (H':Hp),Rep M W U H fr s.heap->vs.length<=ZK->s.heap.get? a=some (Zat ys k)->VRs W vs ys->f vs H=some (v,H')->ZcE M W U H' fr s Q v->wpAny (model prog w) M.A (m [.ref a]) Q E s)
  (h2:∀(M:Cx) (W:Wd) (U:Lc) (H:Hp) (fr:List (Addr×Obj)) (s:Shared) (Q E:Value->Shared->Prop) (vs:List V) (a:Addr) (ys:List Value) (k:Nat) (v:V) (H':Hp),Rep M W U H fr s.heap->vs.length<=ZK->(a,Zco ys k)∈W.tups->VRs W vs ys->g vs H=some (v,H')->ZcE M W U H' fr s Q v->wpAny (model prog w) M.A (m [.ref a]) Q E s):OpN prog w m (ZbK f g):=by
 intro M W U H fr s Q E as xs v H' r hx ho post
 rcases Zlt ho with⟨i,vs,rfl,e,ho⟩ | ⟨vs,rfl,ho⟩
 ·obtain⟨x,rfl,rx⟩:=hx.one
  obtain⟨a,rfl,ea⟩:=rx.iref
  obtain⟨hl,ys,k,hg,hv⟩:=r.at e ea
  exact h M W U H fr s Q E vs a ys k v H' r hl hg hv ho post
 ·obtain⟨x,rfl,rx⟩:=hx.one
  obtain⟨a,ys,k,rfl,hm,hl,hv⟩:=rx.itup
  exact h2 M W U H fr s Q E vs a ys k v H' r hl hm hv ho post
theorem OpN.list{m:List Value->Sem Value}(h:∀(M:Cx) (W:Wd) (U:Lc) (H:Hp) (fr:List (Addr×Obj)) (s:Shared) (Q E:Value->Shared->Prop) (vs:List V) (a:Addr) (ys:List Value) (k:Nat) (v:V) (H':Hp),Rep M W U H fr s.heap->vs.length<=ZK->s.heap.get? a=some (Zat ys k)->VRs W vs ys->f vs H=some (v,H')->ZcE M W U H' fr s Q v->wpAny (model prog w) M.A (m [.ref a]) Q E s): OpN prog w m (ZbK f λ_ _=>none):=.seq h λ_ _ _ _ _ _ _ _ _ _ _ _ _ _ _ _ _ _ e _=>nope e
theorem OpN.two{m:List Value->Sem Value}(h:Op2 prog w (λx y=>m [x,y]) o): OpN prog w m (PM.two o):=by
 intro M W U H fr s Q E as xs v H' r hx ho post
 cases as with
 | nil=>cases ho
 | cons a as=>
  cases as with
  | nil=>cases ho
  | cons b as=>
   cases as with
   | cons c as=>cases ho
   | nil=>
    obtain⟨x,y,rfl,rx,ry⟩:=hx.two
    exact h M W U H fr s Q E a b x y v H' r rx ry ho post
theorem Zaj: OpN prog w (λxs=>call (.builtin "len") xs) ZZ:=by
 refine .seq (λM W U H fr s Q E vs a ys k v H' r hl hg hv ho post=>?_) λM W U H fr s Q E vs a ys k v H' r hl hm hv ho post=>?_
 ·cases ho
  have e3:(ys.toArray.size:Int)=vs.length:=by simp[hv.length]
  rw[ZD]at hl
  refine Calls.call_len_list (s:=s) ⟨_,hg,rfl,k,rfl⟩ (by rw[e3];lia) ?_
  rw[e3]
  exact post W s.heap _ _ (.refl W) r (.int _ _)
 ·cases ho
  have e3:(ys.toArray.size:Int)=vs.length:=by simp[hv.length]
  rw[ZD]at hl
  refine len_tuple (s:=s) ⟨_,r.tupAt hm,rfl,k,rfl⟩ (by rw[e3];omega) ?_
  rw[e3]
  exact post W s.heap _ _ (.refl W) r (.int _ _)
theorem OpN.one{m:List Value->Sem Value}{o:V->Hp->Option (V×Hp)}(h:Op1 prog w (λx=>m [x]) o): OpN prog w m (PM.one o):=by
 intro M W U H fr s Q E as xs v H' r hx ho post
 cases as with
 | nil=>cases ho
 | cons a as=>
  cases as with
  | cons b as=>cases ho
  | nil=>
   obtain⟨x,rfl,rx⟩:=hx.one
   exact h M W U H fr s Q E a x v H' r rx ho post
theorem Zgt: OpN prog w (λxs=>call (.builtin "abs") xs) ZdD:=.one λM W U H fr s Q E a x v H' r hx ho post=>by
 cases a <;> first | exact nope ho | skip
 obtain⟨t,rfl⟩:=hx.iint
 cases ho
 exact call_abs_int λu tk=>post W s.heap tk _ (.refl W) r (.int _ _)
theorem Op2.ofG{m:Value->Value->Sem Value}{f:Int->Int->Int}(h:∀(M:Cx) (a b:Int) (t u:Tok) (Q E:Value->Shared->Prop) (s:Shared),(∀h' tk t,(∀b o,s.heap.get? b=some o->h'.get? b=some o)->Q (.int (f a b) t) { s with heap:=h',toks:=tk })->wpAny (model prog w) M.A (m (.int a t) (.int b u)) Q E s): Op2 prog w m (iop λa b H=>some (.int (f a b),H)):=by
 intro M W U H fr s Q E a b x y v H' r hx hy ho post
 obtain⟨i,j,rfl,rfl,e⟩:=Zlq ho
 obtain⟨t,rfl⟩:=hx.iint
 obtain⟨u,rfl⟩:=hy.iint
 cases e
 exact h M i j t u Q E s λh' tk t up=>post W h' tk _ (.refl W) (r.grown up) (.int _ _)
theorem ZiM: OpN prog w (λxs=>call (.builtin "max") xs) ZdY:=.two (.ofG λM a b t u Q E s p=>max_two_ints M.hh λh' tk up=>by
 by_cases c:b>a
 ·have:=p h' tk u up
  rw[if_pos c]at this ⊢
  exact this
 ·have:=p h' tk t up
  rw[if_neg c]at this ⊢
  exact this)
theorem Zf6: OpN prog w (λxs=>call (.builtin "min") xs) ZdA:=.two (.ofG λM a b t u Q E s p=>min_two_ints M.hh λh' tk up=>by
 by_cases c:b<a
 ·have:=p h' tk u up
  rw[if_pos c]at this ⊢
  exact this
 ·have:=p h' tk t up
  rw[if_neg c]at this ⊢
  exact this)
theorem Zi6: OpN prog w (λxs=>call (.builtin "sum") xs) ZcX:=.list λM W U H fr s Q E vs a ys k v H' r hl hg hv ho post=>by
 obtain⟨ks,e3,e4⟩:=Zz1.mp ho
 cases e4
 obtain⟨ts,h1,h2⟩:=Zoc hv e3
 have isl:s.heap.IsList _ (intItems ts):=⟨_,hg,rfl,k,by rw[<-h1]⟩
 refine sum_intListG M.hh isl λh' tk t' up=>?_
 rw[h2]
 exact post W h' tk _ (.refl W) (r.grown up) (.int _ _)
theorem ZM: Op2 prog w (binaryOp .Add) ZC:=by
 intro M W U H fr s Q E a b x y v H' r hx hy ho post
 refine ZpV ho (λi j h1 h2 h3 h4=>?_) (λi j vs us h1 h2 e1 e2 hl h3 h4=>?_) λvs us h1 h2 hl h3 h4=>?_ <;> subst h1 h2 h3 h4
 ·obtain⟨t,rfl⟩:=hx.iint
  obtain⟨u,rfl⟩:=hy.iint
  exact PySem.P.add_int (post W s.heap _ _ (.refl W) r (.int _ _))
 ·obtain⟨a,rfl,ea⟩:=hx.iref
  obtain⟨b,rfl,eb⟩:=hy.iref
  obtain⟨l1,ys,k,hg,hv⟩:=r.at e1 ea
  obtain⟨l2,zs,k2,hg2,hv2⟩:=r.at e2 eb
  obtain⟨m,c,led,r'⟩:=r
  refine add_lists (hsz:=Zcv (by rw[hv.length,hv2.length,<-List.length_append];exact hl)) r'.F r'.N ⟨_,hg,rfl,k,rfl⟩ ⟨_,hg2,rfl,k2,rfl⟩ λh' F' N'=>?_
  obtain⟨W2,le2,r2,v2⟩:=r'.newList F' N' r'.off (hv.append hv2) hl
  exact post W2 h' s.toks _ le2 r2 v2
 ·obtain⟨a,ys,k,rfl,hm,h1,hv⟩:=hx.itup
  obtain⟨b,zs,k2,rfl,hm2,h2,hv2⟩:=hy.itup
  have r0:=r
  obtain⟨m,c,led,r'⟩:=r
  refine add_tuples (hsz:=Zcv (by rw[hv.length,hv2.length,<-List.length_append];exact hl)) r'.F r'.N ⟨_,r0.tupAt hm,rfl,k,rfl⟩ ⟨_,r0.tupAt hm2,rfl,k2,rfl⟩ (λe=>?_) (λ_ e=>?_) λ_ _ h' F' N'=>?_
  ·have:vs=[]:=List.length_eq_zero_iff.mp (by rw[<-hv.length,e];rfl)
   subst this
   exact post W s.heap s.toks _ (.refl W) r0 (.tup hm2 h2 hv2)
  ·have:us=[]:=List.length_eq_zero_iff.mp (by rw[<-hv2.length,e];rfl)
   subst this
   rw[List.append_nil]at post
   exact post W s.heap s.toks _ (.refl W) r0 (.tup hm h1 hv)
  ·obtain⟨W2,le2,r2,v2⟩:=r'.newTup F' N' r'.off (hv.append hv2) hl
   exact post W2 h' s.toks _ le2 r2 v2
theorem ZkB(vs:List V): ∀n,(ZcY vs n).length=vs.length*n
 | 0=>rfl
 | n+1=>by rw[ZcY,List.length_append,ZkB vs n,Nat.mul_succ]
theorem Zo5(xs:List Value)(n:Nat): ∀acc:Array Value,(List.foldl (λx1 x2=>x1++x2) acc (List.replicate n xs.toArray))=acc++(List.replicate n xs).flatten.toArray:=by
 induction n with
 | zero=>intro acc;simp
 | succ n ih=>
  intro acc
  rw[List.replicate_succ,List.foldl_cons,ih,List.replicate_succ,List.flatten_cons]
  simp[Array.append_assoc]
theorem Zlu{W:Wd}{vs:List V}{xs:List Value}(h:VRs W vs xs): ∀n,VRs W (ZcY vs n) (List.replicate n xs).flatten
 | 0=>.nil
 | n+1=>by
  rw[ZcY,List.replicate_succ',List.flatten_append]
  simp only[List.flatten_cons,List.flatten_nil,List.append_nil]
  exact(Zlu h n).append h
theorem ZqZ(ys:List Value)(n:Nat): (List.foldl (λx1 x2=>x1++x2) #[] (List.replicate (if ys.toArray.isEmpty=true then 0 else n) ys.toArray))=(List.replicate n ys).flatten.toArray:=by
 cases ys with
 | nil=>simp
 | cons y0 ys0=>
  have:((y0::ys0).toArray.isEmpty=true)=False:=by simp
  simp only[this,if_false]
  rw[Zo5]
  simp
theorem Zb2: Op2 prog w (binaryOp .Mult) ZaI:=by
 intro M W U H fr s Q E a b x y v H' r hx hy ho post
 refine ZpW ho (λi j h1 h2 hm h3 h4=>?_) λi k vs h1 h2 e1 hc h3 h4=>?_ <;> subst h1 h2 h3 h4
 ·obtain⟨t,rfl⟩:=hx.iint
  obtain⟨u,rfl⟩:=hy.iint
  exact PySem.P.mul_int (post W s.heap _ _ (.refl W) r (.int _ _)) (ZpS hm)
 ·obtain⟨a,rfl,ea⟩:=hx.iref
  obtain⟨u,rfl⟩:=hy.iint
  obtain⟨l1,ys,kk,hg,hv⟩:=r.at e1 ea
  obtain⟨m,c,led,r'⟩:=r
  have hl:=hc.1
  rw[ZD]at hl
  refine mul_list r'.F r'.N hg hc.2.1 hc.2.2 (by rw[List.size_toArray,hv.length];lia) λh' F' N'=>?_
  rw[ZqZ]at N'
  obtain⟨W2,le2,r2,v2⟩:=r'.newList F' N' r'.off (Zlu hv k.toNat) (by rw[ZkB];exact hc.1)
  exact post W2 h' s.toks _ le2 r2 v2
noncomputable def Zi(U:Lc)(i:Nat)(v:V): Lc:=λj=>if j=i then some v else U j
abbrev Sm:=Lc->Hp->Option (Option V×Lc×Hp)
noncomputable def ZG: Sm:=λU H=>some (none,U,H)
noncomputable def Zh(a b:Sm): Sm:=λU H=>(a U H).bind λp=>match p.1 with
 | some _=>some p
 | none=>b p.2.1 p.2.2
noncomputable def Zo(f:Ex): Sm:=λU H=>(f U H).map λp=>(some p.1,U,p.2)
def Zk(i:Nat)(f:Ex): Sm:=λU H=>(f U H).map λp=>(none,Zi U i p.1,p.2)
noncomputable def Zu(t:Ts)(a b:Sm): Sm:=λU H=>(t U H).bind λp=>if p.1 then a U p.2 else b U p.2
noncomputable def ZN(f:Ex): Sm:=λU H=>(f U H).map λp=>(none,U,p.2)
noncomputable def Zbp: V->V->V->Hp->Option Hp
 | .ref a,.int k,v,H=>H[a]?.bind λvs=>if a≠0/\0<=k/\k<vs.length then some (H.set a (vs.set k.toNat v))else none
 | _,_,_,_=>none
def ZaE(f o i:Ex): Sm:=λU H=>(f U H).bind λp=>(o U p.2).bind λq=>(i U q.2).bind λu=>(Zbp q.1 u.1 p.1 u.2).map λK=>(none,U,K)
noncomputable def Zbf(t:Ts)(b:Sm): Nat->Sm
 | 0=>λ_ _=>none
 | n+1=>λU H=>(t U H).bind λp=>if p.1 then(b U p.2).bind λq=>(match q.1 with
   | some _=>some q
   | none=>Zbf t b n q.2.1 q.2.2)else some (none,U,p.2)
def PostS(M:Cx)(W:Wd)(fr:List (Addr×Obj))(s:Shared)(Q:Flow->Shared->Prop): Option V×Lc×Hp->Prop
 | (none,O,H')=>∀(W':Wd) (h':Heap) (tk':Nat),W.Le W'->Rep M W' O H' fr h'->Q .next { s with heap:=h',toks:=tk' }
 | (some v,O,H')=>∀(W':Wd) (h':Heap) (tk':Nat) (x:Value),W.Le W'->Rep M W' O H' fr h'->VR W' v x->Q (.ret x) { s with heap:=h',toks:=tk' }
theorem PostS.le{W:Wd}{tk:Nat}{Q:Flow->Shared->Prop}(l:W.Le W')(p:PostS M W fr s Q r): PostS M W' fr { s with heap:=h,toks:=tk } Q r:=by
 obtain⟨o,O,H'⟩:=r
 cases o with
 | none=>exact λW2 h2 t2 l2 r2=>p W2 h2 t2 (l.trans l2) r2
 | some v=>exact λW2 h2 t2 x l2 r2 x2=>p W2 h2 t2 x (l.trans l2) r2 x2
section
variable (prog:Program) (w:World)
def S1(M:Cx)(st:Stmt)(g:Sm): Prop:=∀(W:Wd) (U:Lc) (H:Hp) (fr:List (Addr×Obj)) (s:Shared) (Q:Flow->Shared->Prop) (E:Value->Shared->Prop) (r:Option V×Lc×Hp),
 Rep M W U H fr s.heap->g U H=some r->PostS M W fr s Q r->wpAny (model prog w) M.A (exec st M.env) Q E s
def Ss(M:Cx)(ss:List Stmt)(g:Sm): Prop:=∀(W:Wd) (U:Lc) (H:Hp) (fr:List (Addr×Obj)) (s:Shared) (Q:Flow->Shared->Prop) (E:Value->Shared->Prop) (r:Option V×Lc×Hp),
 Rep M W U H fr s.heap->g U H=some r->PostS M W fr s Q r->wpAny (model prog w) M.A (execs ss M.env) Q E s
def Sto(M:Cx)(x:Str)(i:Nat): Prop:=∀(W:Wd) (U:Lc) (H:Hp) (fr:List (Addr×Obj)) (s:Shared) (Q:Unit->Shared->Prop) (E:Value->Shared->Prop) (v:V) (y:Value),
 Rep M W U H fr s.heap->VR W v y->(∀(h':Heap) (tk':Nat),Rep M W (Zi U i v) H fr h'->Q () { s with heap:=h',toks:=tk' })->wpAny (model prog w) M.A (storeName M.env x y) Q E s
def Rd(M:Cx)(x:Str)(i:Nat): Prop:=∀(W:Wd) (U:Lc) (H:Hp) (fr:List (Addr×Obj)) (s:Shared) (Q E:Value->Shared->Prop) (v:V) (pos:Pos),
 Rep M W U H fr s.heap->U i=some v->(∀y,VR W v y->Q y s)->wpAny (model prog w) M.A (eval (.Name x pos) M.env) Q E s
end
theorem ZgS{x:Str}(h:Rd prog w M x i): J prog w M (.Name x pos) (Za i):=by
 intro W U H fr s Q E v H' r hf post
 obtain⟨u,e1,e2⟩:=Zz1.mp hf
 cases e2
 exact h W U H fr s Q E v pos r e1 λy hy=>post W s.heap s.toks y (.refl W) r hy
theorem ZL: Ss prog w M [] ZG:=λW U H fr s Q E r rp hf post=>by
 cases hf
 exact wpAny_execs_nil (post W s.heap s.toks (.refl W) rp)
theorem ZdM{a b:Sm}(h1:S1 prog w M st a)(h2:Ss prog w M ss b): Ss prog w M (st::ss) (Zh a b):=by
 intro W U H fr s Q E r rp hf post
 obtain⟨p,e1,hf⟩:=Zz0.mp hf
 refine wpAny_execs_cons (h1 W U H fr s _ E p rp e1 ?_)
 obtain⟨o,B,H1⟩:=p
 cases o with
 | some v=>
  cases hf
  exact λW1 k1 t1 x l1 r1 x1=>post W1 k1 t1 x l1 r1 x1
 | none=>exact λW1 k1 t1 l1 r1=>h2 W1 B H1 fr _ Q E r r1 hf (post.le l1)
theorem Zx{a:Sm}(h1:S1 prog w M st a): Ss prog w M [st] a:=by
 intro W U H fr s Q E r rp hf post
 refine wpAny_execs_cons (h1 W U H fr s _ E r rp hf ?_)
 obtain⟨o,B,H1⟩:=r
 cases o with
 | some v=>exact λW1 k1 t1 x l1 r1 x1=>post W1 k1 t1 x l1 r1 x1
 | none=>exact λW1 k1 t1 l1 r1=>wpAny_execs_nil (post W1 k1 t1 l1 r1)
theorem Zt{f:Ex}(h:J prog w M e f): S1 prog w M (.Return (some e) pos) (Zo f):=by
 intro W U H fr s Q E r rp hf post
 obtain⟨p,e1,e2⟩:=Zz1.mp hf
 cases e2
 exact wpAny_Return_some (h W U H fr s _ E _ _ rp e1 post)
theorem ZH{t:Expr}{a b:List Stmt}{f g:Sm}(ht:JT prog w M t u)(h1:Ss prog w M a f)(h2:Ss prog w M b g): S1 prog w M (.If t a b pos) (Zu u f g):=by
 intro W U H fr s Q E r rp hf post
 obtain⟨p,e1,hf⟩:=Zz0.mp hf
 refine wpAny_If (ht W U H fr s _ E _ _ rp e1 λW1 k1 t1 l1 r1=>?_)
 obtain⟨c,H1⟩:=p
 cases c with
 | true=>exact h1 W1 U H1 fr _ Q E r r1 hf (post.le l1)
 | false=>exact h2 W1 U H1 fr _ Q E r r1 hf (post.le l1)
theorem Zao{f:Ex}(h:J prog w M e f)(hi:interactive M.env=false:=by rfl)(hs:swapsWith e none pos.line M.env=pure false:=by rfl): S1 prog w M (.Expr e pos) (ZN f):=by
 intro W U H fr s Q E r rp hf post
 obtain⟨p,e1,e2⟩:=Zz1.mp hf
 cases e2
 exact wpAny_Expr_any (h W U H fr s _ E _ _ rp e1 λW1 k1 t1 x l1 r1 x1=>post W1 k1 t1 l1 r1) hi hs
theorem Zm{x:Str}{pos':Pos}{f:Ex}(hx:Sto prog w M x i)(h:J prog w M e f)(hs:swapsWith e (some (.Name x pos')) pos.line M.env=pure false:=by rfl): S1 prog w M (.Assign [.Name x pos'] e pos) (Zk i f):=by
 intro W U H fr s Q E r rp hf post
 obtain⟨p,e1,e2⟩:=Zz1.mp hf
 cases e2
 refine wpAny_Assign_Name (h W U H fr s _ E _ _ rp e1 λW1 k1 t1 y l1 r1 y1=>?_) hs
 exact hx W1 U _ fr _ _ E _ y r1 y1 λh' tk' r2=>post W1 h' tk' l1 r2
theorem ZkC{t:Expr}{a:List Stmt}{f:Sm}(n:Nat)(ht:JT prog w M t u)(h1:Ss prog w M a f): S1 prog w M (.While t a [] pos) (Zbf u f n):=by
 intro W U H fr s Q E r rp hf post
 refine wpAny_While ?_
 refine codeAny_whileLoop (λk s'=>∃W' O H' h' tk',s' = { s with heap:=h',toks:=tk' }/\W.Le W'/\Rep M W' O H' fr h'/\Zbf u f k O H'=some r) ?_ n ⟨W,U,H,s.heap,s.toks,rfl,.refl W,rp,hf⟩
 intro k s' q9;obtain⟨W1,B,H1,k1,t1,rfl,l1,r1,e⟩:=q9
 cases k with
 | zero=>cases e
 | succ k=>
  obtain⟨p,e1,e⟩:=Zz0.mp e
  refine ht W1 B H1 fr _ _ _ _ _ r1 e1 λW2 k2 t2 l2 r2=>?_
  obtain⟨c,H2⟩:=p
  cases c with
  | false=>
   cases e
   exact wpAny_execs_nil (post W2 k2 t2 (l1.trans l2) r2)
  | true=>
   obtain⟨q,e2,e⟩:=Zz0.mp e
   refine h1 W2 B H2 fr _ _ _ q r2 e2 ?_
   obtain⟨o,ρ3,H3⟩:=q
   cases o with
   | some v=>
    cases e
    exact λW3 k3 t3 x l3 r3 x3=>post W3 k3 t3 x ((l1.trans l2).trans l3) r3 x3
   | none=>exact λW3 k3 t3 l3 r3=>⟨k,Nat.lt_succ_self k,W3,ρ3,H3,k3,t3,rfl,(l1.trans l2).trans l3,r3,e⟩
def Zbc: .y
 | [.ref a,v],H=>H[a]?.bind λvs=>if a≠0/\vs.length<ZK then some (.none,H.set a (vs++[v]))else none
 | _,_=>none
theorem Zo6: OpN prog w (λxs=>call (.builtin "list.append") xs) Zbc:=by
 intro M W U H fr s Q E as xs v H' r hx ho post
 unfold Zbc at ho
 split at ho
 ·obtain⟨vs,e1,e2⟩:=Zz0.mp ho
  obtain⟨x,y,ex,rx,ry⟩:=hx.two
  subst ex
  split at e2
  ·rename_i hl
   cases e2
   cases rx with
   | @ref _ a0 ea=>
    obtain⟨_,ys,k,hg,hv⟩:=r.at e1 ea
    refine append_at (hsz:=Zcv (by rw[List.size_toArray,hv.length];omega)) hg λh' sb hg'=>?_
    have hg2:h'.get? a0=some (Zat (ys++[y]) (k+1)):=by rw[hg'];simp
    exact post W h' s.toks _ (.refl W) (r.change hl.1 e1 ea sb hg2 (hv.snoc ry) (by simp;lia)) .none
  ·cases e2
 ·cases ho
end PM
end
section
namespace PM
open PySem PySem.W PyProof.Rows PyProof
variable{a c:Int}{v:V}{H K H':Hp}{x:Str}{op:V->V->V->Hp->Option Hp}{o value e it:Expr}{pos' pos px:Pos}{f:Ex}{W0:Wd}{I:Addr}{U:Lc}{fr:List (Addr×Obj)}{s:Shared}{vs:List V}{Q E:Value->Shared->Prop}{P:Prop}{n:Nat}{b:Sm}{es:List Expr}
variable{prog:Program}{w:World}{M:Cx}
theorem Zlv: ∀{l:List Value} {k:Nat} {v:Value},k<l.length->ki_setL l k v=some (l.set k v)
 | [],_,_,h=>by simp at h
 | x::r,0,v,_=>by simp[ki_setL]
 | x::r,k+1,v,h=>by
  have:=Zlv (l:=r) (k:=k) (v:=v) (by simpa using h)
  simp[ki_setL,this]
theorem Zo7{a k:V}(h:Zbp a k v H=some K): ∃i j vs,a=.ref i/\k=.int j/\H[i]?=some vs/\(i≠0/\0<=j/\j<vs.length)/\K=H.set i (vs.set j.toNat v):=by
 cases a <;> first|exact Yx0 h|(cases h;done)| skip
 cases k <;> first|exact Yx0 h|(cases h;done)| skip
 obtain⟨vs,e1,e2⟩:=Zz0.mp h
 split at e2
 ·rename_i c
  cases e2
  exact⟨_,_,vs,rfl,rfl,e1,c,rfl⟩
 ·cases e2
theorem Zod{a x:V}(h:Zbc [a,v] H=some (x,K)): ∃i,a=.ref i:=by
 cases a <;> first|exact Yx0 h|(cases h;done)| skip
 exact⟨_,rfl⟩
def Zag(o f:Ex): Ex:=λU H=>(o U H).bind λp=>(f U p.2).bind λq=>Zbc [p.1,q.1] q.2
def Zjl(prog:Program)(w:World)(op:V->V->V->Hp->Option Hp): Prop:=∀{M:Cx} {W:Wd} {U:Lc} {H K:Hp} {fr:List (Addr×Obj)} {s:Shared} {Q:Unit->Shared->Prop} {E:Value->Shared->Prop} {b k v:V} {x y z:Value},op b k v H=some K->Rep M W U H fr s.heap->VR W v x->VR W b y->VR W k z->(∀(h':Heap) (t':Nat),Rep M W U K fr h'->Q () { s with heap:=h',toks:=t' })->wpAny (model prog w) M.A (setItem y z x) Q E s
noncomputable def Zt4(op:V->V->V->Hp->Option Hp)(f g k:Ex): Sm:=λU H=>(f U H).bind λp=>(g U p.2).bind λq=>(k U q.2).bind λu=>(op q.1 u.1 p.1 u.2).map λK=>(none,U,K)
theorem Zlw{i:Expr}{g k:Ex}(hop:Zjl prog w op)(hf:J prog w M value f)(ho:J prog w M o g)(hi:J prog w M i k)(hs:swapsWith value (some (.Subscript o i pos')) pos.line M.env=pure false): S1 prog w M (.Assign [.Subscript o i pos'] value pos) (Zt4 op f g k):=by
 intro W U H fr s Q E r rp hx post
 obtain⟨p,e1,hx⟩:=Zz0.mp hx
 obtain⟨q,e2,hx⟩:=Zz0.mp hx
 obtain⟨u,e3,hx⟩:=Zz0.mp hx
 obtain⟨K,e4,e5⟩:=Zz1.mp hx
 cases e5
 refine wpAny_Assign_Subscript (hf W U H fr s _ E _ _ rp e1 λW1 k1 t1 x l1 r1 x1=>?_) hs
 refine ho W1 U _ fr _ _ E _ _ r1 e2 λW2 k2 t2 y l2 r2 y2=>?_
 refine hi W2 U _ fr _ _ E _ _ r2 e3 λW3 k3 t3 z l3 r3 z3=>?_
 exact hop e4 r3 (x1.mono (l2.trans l3)) (y2.mono l3) z3 λh' t' r4=>post W3 h' t' ((l1.trans l2).trans l3) r4
theorem ZpX: Zjl prog w Zbp:=by
 intro M W U H K fr s Q E v1 v2 v x y z e4 r3 x3 y3 z3 post
 obtain⟨b,kk,vs,eb,ek,hvs,hc,e6⟩:=Zo7 e4
 subst e6
 rw[eb]at y3
 rw[ek]at z3
 cases y3 with
 | @ref _ a ea=>
 cases z3 with
 | int _ tz=>
 obtain⟨hl,xs,n,hg,hv⟩:=r3.at hvs ea
 obtain⟨m,c,led,r'⟩:=r3
 have hll:=hl
 rw[ZD]at hll
 have hk:kk.toNat<xs.length:=by rw[hv.length];lia
 obtain⟨_,a',xs',n',h1,h2,h3⟩:=r'.R.lists b vs hvs ea.2
 rw[ea.1]at h1
 cases h1
 have h2:=r'.inLed hc.1 ea.1 h2
 have N2:News M.h₀ M.L s.heap ((a,Zat xs n)::led.filter (λq=>decide (q.1≠a))):=by
  intro q hq
  rcases Zz7.mp hq with e | hq
  ·subst e
   exact⟨hg,(r'.N _ h2).2⟩
  ·exact r'.N q (List.mem_filter.mp hq).1
 refine ki_set (its:=xs.toArray) (n:=n) (q:=xs.set kk.toNat x) r'.F N2 hc.2.1 .l (by simpa using Zlv hk) (Upd.head λq hq=>by simpa using (List.mem_filter.mp hq).2) λh' F' N'=>?_
 exact post h' s.toks (r'.changed hc.1 hvs ea F' N' (hv.set _ x3) (by simpa using hl))
theorem S1.put{i:Expr}{g k:Ex}(hf:J prog w M value f)(ho:J prog w M o g)(hi:J prog w M i k)(hs:swapsWith value (some (.Subscript o i pos')) pos.line M.env=pure false:=by rfl): S1 prog w M (.Assign [.Subscript o i pos'] value pos) (ZaE f g k):=Zlw ZpX hf ho hi hs
theorem J.append{apos:Pos}{g:Ex}(ho:J prog w M o f)(he:J prog w M e g)(hbase:attributeBase o "append" M.env (eval o M.env)=eval o M.env:=by rfl)
  (hfew:((backTo pos (starEach [e] M.env)).all (λx=>!x.1) && (backToKw pos (keywordEach [] M.env)).all (λx=>x.1.isSome) && decide (([e]:List Expr).length+([]:List Keyword).length+(if([]:List Keyword).isEmpty then 0 else 1)<30))=true:=by rfl)
  (hline:(apos.endLine == pos.line)=true:=by rfl) (htrees:backTo pos (starEach [e] M.env)=[(false,eval e M.env)]:=by rfl):J prog w M (.Call (.Attribute o "append" apos) [e] [] pos) (Zag f g):=by
 intro W U H fr s Q E v H' r hx post
 obtain⟨p,e1,hx⟩:=Zz0.mp hx
 obtain⟨q,e2,e3⟩:=Zz0.mp hx
 refine wpAny_Call_append hbase hfew hline htrees (ho W U H fr s _ E _ _ r e1 λW1 k1 t1 x l1 r1 x1=>?_)
 obtain⟨v1,H1⟩:=p
 obtain⟨b,hb⟩:=Zod e3
 subst hb
 have hb:=r1.refIn x1
 cases x1 with
 | @ref _ a ea=>
 obtain⟨_,xs,n,hg,hv⟩:=r1.at (Yy1 hb) ea
 refine⟨a,xs.toArray,rfl,⟨_,n,hg,rfl,rfl,rfl⟩,?_⟩
 refine he W1 U _ fr _ _ E _ _ r1 e2 λW2 k2 t2 y l2 r2 y2=>?_
 exact Zo6 M W2 U _ fr _ Q E _ [.ref a,y] v H' r2 (.cons (.ref (l2.at ea)) (.cons y2 .nil)) e3 λW3 k3 t3 z l3 r3 z3=>post W3 k3 t3 z ((l1.trans l2).trans l3) r3 z3
abbrev Nx:=Nat->Hp->Option (Option V)
variable{nx:Nx}{z:Nx×Nat×Hp}
def Zt5(M:Cx)(W:Wd)(U:Lc)(H:Hp)(fr:List (Addr×Obj))(s:Shared)(It:Nat->List (Addr×Obj)->Prop)(i:Nat)(Q:Option Value->Shared->Prop): Option V->Prop
 | none=>∀(h':Heap) (tk':Nat),Rep M W U H fr h'->Q none { s with heap:=h',toks:=tk' }
 | some v=>∀(fs':List (Addr×Obj)) (h':Heap) (tk':Nat) (x:Value),It (i+1) fs'->Rep M W U H (fs'++fr) h'->VR W v x->Q (some x) { s with heap:=h',toks:=tk' }
structure Itr(prog:Program)(w:World)(M:Cx)(W0:Wd)(it:Value)(as:List Addr)(It:Nat->List (Addr×Obj)->Prop)(nx:Nx): Prop where
 adr:∀i fs,It i fs->fs.map (·.1)=as
 next:∀(i:Nat) (W:Wd) (U:Lc) (H:Hp) (fr fs:List (Addr×Obj)) (s:Shared) (Q:Option Value->Shared->Prop) (E:Value->Shared->Prop) (o:Option V),W0.Le W->Rep M W U H (fs++fr) s.heap->(∀a∈as,∀t∈fr,a≠t.1)->It i fs->nx i H=some o ->
  Zt5 M W U H fr s It i Q o->wpAny (model prog w) M.A (pyNext it) Q E s
 self:∀(i:Nat) (W:Wd) (U:Lc) (H:Hp) (fr fs:List (Addr×Obj)) (s:Shared) (Q E:Value->Shared->Prop),W0.Le W->Rep M W U H (fs++fr) s.heap->It i fs->Q it s->wpAny (model prog w) M.A (pyIter it) Q E s
abbrev Src:=Lc->Hp->Option (Nx×Nat×Hp)
variable{g:Src}
def JI(prog:Program)(w:World)(M:Cx)(e:Expr)(g:Src): Prop:=∀(W:Wd) (U:Lc) (H:Hp) (fr:List (Addr×Obj)) (s:Shared) (Q E:Value->Shared->Prop) (nx:Nx) (n:Nat) (H':Hp),
 Rep M W U H fr s.heap->g U H=some (nx,n,H') ->
 (∀(W':Wd) (h':Heap) (tk':Nat) (it:Value) (as:List Addr) (It:Nat->List (Addr×Obj)->Prop) (fs:List (Addr×Obj)),W.Le W'->It 0 fs->Rep M W' U H' (fs++fr) h'->(∀a∈as,∀t∈fr,a≠t.1)->Itr prog w M W' it as It nx->Q it { s with heap:=h',toks:=tk' }) ->
 wpAny (model prog w) M.A (eval e M.env) (λxv s₁=>wpAny (model prog w) M.A (pyIter xv) Q E s₁) E s
noncomputable def ZI(a:Nat): Nx:=λi H=>H[a]?.map λvs=>vs[i]?
noncomputable def Zc9(vs:List V): Nx:=λi _=>some vs[i]?
noncomputable def ZaL(a c:Int)(n:Nat): Nx:=λi _=>some (if i<n then some (.int (a+i*c))else none)
def ZQ(f:Ex): Src:=λU H=>(f U H).bind λp=>match p.1 with
 | .ref a=>p.2[a]?.map λvs=>(ZI a,vs.length+1,p.2)
 | .tup vs=>some (Zc9 vs,vs.length+1,p.2)
 | _=>none
noncomputable def rngN(a b c:Int): Nat:=(Builtin.Range.rangeSize a b c).toNat
def ZbE(a b c:Int)(H:Hp): Option (Nx×Nat×Hp):=if c≠0/\Builtin.Range.small a b c=true/\0<=Builtin.Range.rangeSize a b c/\rngN a b c<=ZK/\Builtin.divisionGoesByPylong (b-a) c=false then some (ZaL a c (rngN a b c),rngN a b c+1,H)else none
def ZuO(ks:List Int)(H:Hp): Option (Nx×Nat×Hp):=match ks with
 | [b]=>ZbE 0 b 1 H
 | [a,b]=>ZbE a b 1 H
 | [a,b,c]=>ZbE a b c H
 | _=>none
def ZnB(vs:List V)(H:Hp): Option (Nx×Nat×Hp):=(Za2 vs).bind λks=>ZuO ks H
theorem Zo8: ∀{vs:List V} {ks:List Int},Za2 vs=some ks->vs=ks.map V.int:=by
 intro vs
 induction vs with
 | nil=>intro ks e;cases e;rfl
 | cons v vs ih=>
  intro ks e
  cases v <;> first | exact nope e | skip
  obtain⟨js,e1,e2⟩:=Zz1.mp e
  rw[<-e2,ih e1]
  rfl
def ZaM(g:Exs): Src:=λU H=>(g U H).bind λp=>ZnB p.1 p.2
def Zt6(prog:Program)(w:World)(M:Cx)(it:Value)(It:Nat->List (Addr×Obj)->Prop): Prop:=∀(i:Nat) (W:Wd) (U:Lc) (H:Hp) (fr fs:List (Addr×Obj)) (s:Shared) (Q:Unit->Shared->Prop) (E:Value->Shared->Prop) (elts:List Expr) (x1:Nat) (tp:Pos) (T:Addr),Rep M W U H (fs++fr) s.heap->It i fs->Q () s->wpAny (model prog w) M.A (letOwnedTupleGo (.Tuple elts x1 tp) it (.ref T)) Q E s
theorem Zgu(P:Nat->Obj->Prop)
  (next:∀(i:Nat) (W:Wd) (U:Lc) (H:Hp) (fr:List (Addr×Obj)) (ob:Obj) (s:Shared) (Q:Option Value->Shared->Prop) (E:Value->Shared->Prop) (o:Option V),W0.Le W->Rep M W U H ((I,ob)::fr) s.heap->P i ob->nx i H=some o ->
   (match o with
    | none=>∀(h':Heap) (tk':Nat),(∀b o,b≠I->s.heap.get? b=some o->h'.get? b=some o)->Q none { s with heap:=h',toks:=tk' }
    | some v=>∀(ob':Obj) (h':Heap) (tk':Nat) (x:Value),P (i+1) ob'->h'.get? I=some ob'->(∀b o,b≠I->s.heap.get? b=some o->h'.get? b=some o)->VR W v x->Q (some x) { s with heap:=h',toks:=tk' })->wpAny (model prog w) M.A (pyNext (.ref I)) Q E s)
  (self:∀(i:Nat) (W:Wd) (U:Lc) (H:Hp) (fr:List (Addr×Obj)) (ob:Obj) (s:Shared) (Q E:Value->Shared->Prop),W0.Le W->Rep M W U H ((I,ob)::fr) s.heap->P i ob->Q (.ref I) s->wpAny (model prog w) M.A (pyIter (.ref I)) Q E s):
  Itr prog w M W0 (.ref I) [I] (λi fs=>∃ob,fs=[(I,ob)]/\P i ob) nx:=by
 refine⟨?_,?_,?_⟩
 ·intro i fs q9;obtain⟨ob,e,_⟩:=q9
  rw[e]
  rfl
 ·rintro i W U H fr fs s Q E o le r ap ⟨ob,e,hp⟩ hn post
  subst e
  refine next i W U H fr ob s Q E o le r hp hn ?_
  have ap':∀q∈[(I,ob)],∀t∈fr,q.1≠t.1:=λq hq t ht=>by rw[List.mem_singleton.mp hq];exact ap I Zz5 t ht
  cases o with
  | none=>
   intro h' tk' keep
   have:=Rep.swap (fs:=[(I,ob)]) (fs':=[]) r ap' (λb o hb e=>keep b o (λq=>hb (by simp[q])) e) (λq hq=>nomatch hq)
   exact post h' tk' this
  | some v=>
   intro ob' h' tk' x hp' hg keep hx
   have:=Rep.swap (fs:=[(I,ob)]) (fs':=[(I,ob')]) r ap' (λb o hb e=>keep b o (λq=>hb (by simp[q])) e) (λq hq=>by rw[List.mem_singleton.mp hq];exact⟨hg,.s⟩)
   exact post [(I,ob')] h' tk' x ⟨ob',rfl,hp'⟩ this hx
 ·rintro i W U H fr fs s Q E le r ⟨ob,e,hp⟩ q
  subst e
  exact self i W U H fr ob s Q E le r hp q
theorem Zlx{W:Wd}{k1:Heap}{t1 i0:Nat}{a:Addr}(r1:Rep M W U H fr k1)(e2:H[i0]?=some vs)(ea:W.At i0 a)(post:∀(h':Heap) (it:Value) (as:List Addr) (It:Nat->List (Addr×Obj)->Prop) (fs:List (Addr×Obj)),It 0 fs->Rep M W U H (fs++fr) h'->(∀a∈as,∀t∈fr,a≠t.1)->Itr prog w M W it as It (ZI i0)->Zt6 prog w M it It->Q it { s with heap:=h',toks:=t1 }): wpAny (model prog w) M.A (pyIter (.ref a)) Q E { s with heap:=k1,toks:=t1 }:=by
 obtain⟨hl,xs,k,hg,hv⟩:=r1.at e2 ea
 have isl:k1.IsList a xs.toArray:=⟨_,hg,rfl,k,rfl⟩
 refine wpAny_pyIter_list isl ?_
 obtain⟨r2,ap⟩:=r1.more (fs:=[(k1.objs.size,{ cls:=.type "list_iterator",data:=.fields #[.ref a,.int 0 0] })]) (λb o e=>Heap.get?_push_of_some { cls:=.type "list_iterator",data:=.fields #[.ref a,.int 0 0] } e) (λq hq=>by rw[List.mem_singleton.mp hq];exact⟨Heap.get?_push_size _ rfl,Nat.le_refl _⟩)
 refine post _ _ [k1.objs.size] _ _ ⟨_,rfl,?_⟩ r2 (λb hb t ht=>by rw[List.mem_singleton.mp hb];exact ap _ Zz5 t ht)
  (Zgu (λi ob=>ob.cls=.type "list_iterator"/\ob.data=.fields #[.ref a,.int i 0]) ?_ ?_) ?_
 ·intro i W U H fr ob s Q E o le r hp hn post
  obtain⟨us,eu,e4⟩:=Zz1.mp hn
  subst e4
  obtain⟨hl2,ys,k2,hg2,hv2⟩:=r.at eu (le.at ea)
  have g1:s.heap.IsListIter k1.objs.size a i:=⟨ob,r.frAt Zz5,hp.1,hp.2⟩
  have g2:s.heap.IsList a ys.toArray:=⟨_,hg2,rfl,k2,rfl⟩
  cases ev:us[i]? with
  | none=>
   rw[ev]at post
   have hi:ys.toArray[i]?=none:=by have:=List.getElem?_eq_none_iff.mp ev;rw[<-hv2.length]at this;simpa using this
   exact wpAny_pyNext_list_end M.hh g1 g2 hi λh' he'=>post h' s.toks λb o hb e=>he' b o hb e
  | some v=>
   rw[ev]at post
   obtain⟨y,hy,ry⟩:=hv2.at ev
   refine wpAny_pyNext_list_item g1 g2 (x:=y) (by simpa using hy) λh' hit' hs'=>?_
   obtain⟨ob',h1,h2,h3⟩:=hit'
   exact post ob' h' s.toks y ⟨h2,h3⟩ h1 (λb o hb e=>hs'.extBut b o hb e) ry
 ·intro i W U H fr ob s Q E le r hp q
  exact wpAny_pyIter_listiter (⟨ob,r.frAt Zz5,hp.1,hp.2⟩:s.heap.IsListIter k1.objs.size a i) q
 ·intro i W U H fr fs s Q E elts x1 tp T r hp q
  obtain⟨ob,rfl,hp⟩:=hp
  exact wpAny_letOwnedTupleGo_listiter (⟨ob,r.frAt (Zz4 _ Zz5),hp.1,hp.2⟩:s.heap.IsListIter k1.objs.size a i) q
 ·exact⟨rfl,rfl⟩
theorem Zq0 (hf:(match v with
 | .ref a=>H[a]?.map λvs=>(ZI a,vs.length+1,H)
 | .tup vs=>some (Zc9 vs,vs.length+1,H)
 | _=>none)=some (nx,n,H')) (h1:∀i vs,v=.ref i->H[i]?=some vs->ZI i=nx->vs.length+1=n->H=H'->P) (h2:∀vs,v=.tup vs->Zc9 vs=nx->vs.length+1=n->H=H'->P):P:=by
 cases v <;> first | exact nope hf | skip
 ·have e:=Prod.mk.inj (Option.some.inj hf)
  have f:=Prod.mk.inj e.2
  exact h2 _ rfl e.1 f.1 f.2
 ·obtain⟨vs,e,hf⟩:=Zz1.mp hf
  have e':=Prod.mk.inj hf
  have f:=Prod.mk.inj e'.2
  exact h1 _ vs rfl e e'.1 f.1 f.2
theorem JI.seq(h:J prog w M e f): JI prog w M e (ZQ f):=by
 intro W U H fr s Q E nx n H' r hf post
 obtain⟨⟨v,H1⟩,e1,hf⟩:=Zz0.mp hf
 refine h W U H fr s _ E _ _ r e1 λW1 k1 t1 x l1 r1 x1=>?_
 refine Zq0 hf (λi0 vs h1 e2 h2 h3 h4=>?_) λvs h1 h2 h3 h4=>?_ <;> subst h1 h2 h3 h4
 ·obtain⟨a,rfl,ea⟩:=x1.iref
  exact Zlx r1 e2 ea λh' it as It fs i r ap I _=>post W1 h' t1 it as It fs l1 i r ap I
 ·obtain⟨a,xs,k,rfl,hm,hl,hs⟩:=x1.itup
  have it:k1.IsTuple a xs.toArray:=⟨_,r1.tupAt hm,rfl,k,rfl⟩
  refine wpAny_pyIter_tuple it ?_
  obtain⟨r2,ap⟩:=r1.more (fs:=[(k1.objs.size,{ cls:=.type "tuple_iterator",data:=.fields #[.ref a,.int 0 0] })]) (λb o e=>Heap.get?_push_of_some { cls:=.type "tuple_iterator",data:=.fields #[.ref a,.int 0 0] } e) (λq hq=>by rw[List.mem_singleton.mp hq];exact⟨Heap.get?_push_size _ rfl,Nat.le_refl _⟩)
  refine post W1 _ t1 _ [k1.objs.size] _ _ l1 ⟨_,rfl,?_⟩ r2 (λb hb t ht=>by rw[List.mem_singleton.mp hb];exact ap _ Zz5 t ht)
   (Zgu (λi ob=>ob.cls=.type "tuple_iterator"/\ob.data=.fields #[.ref a,.int i 0]) ?_ ?_)
  ·intro i W U H fr ob s Q E o le r hp hn post
   have g1:s.heap.IsTupleIter k1.objs.size a i:=⟨ob,r.frAt Zz5,hp.1,hp.2⟩
   have g2:s.heap.IsTuple a xs.toArray:=⟨_,r.tupAt (le.tups _ hm),rfl,k,rfl⟩
   have ne:a≠k1.objs.size:=Nat.ne_of_lt (Heap.lt_size (r1.tupAt hm))
   have Wk:=Walks.tuple (prog:=prog) (w:=w) M.hh k1.objs.size a ne xs.toArray
   cases hn
   cases ev:vs[i]? with
   | none=>
    rw[ev]at post
    have hi:xs.toArray[i]?=none:=by have:=List.getElem?_eq_none_iff.mp ev;rw[<-hs.length]at this;simpa using this
    exact wpAny_pyNext_tuple_end M.hh g1 g2 hi λh' he'=>post h' s.toks λb o hb e=>he' b o hb e
   | some v=>
    rw[ev]at post
    obtain⟨y,hy,ry⟩:=hs.at ev
    refine wpAny_pyNext_tuple_item g1 g2 (x:=y) (by simpa using hy) λh' hit' hs'=>?_
    obtain⟨ob',h1,h2,h3⟩:=hit'
    exact post ob' h' s.toks y ⟨h2,h3⟩ h1 (λb o hb e=>hs'.extBut b o hb e) (ry.mono le)
  ·intro i W U H fr ob s Q E le r hp q
   exact wpAny_pyIter_tupleiter (⟨ob,r.frAt Zz5,hp.1,hp.2⟩:s.heap.IsTupleIter k1.objs.size a i) q
  ·exact⟨rfl,rfl⟩
theorem Zoe{b:Int}(h:ZbE a b c H=some z): c≠0/\Builtin.divisionGoesByPylong (b-a) c=false:=⟨(ZbD h).1.1,(ZbD h).1.2.2.2.2⟩
theorem ZpY: Itr prog w M W0 (.ref I) [I] (λi fs=>∃ob,fs=[(I,ob)]/\(i<=n/\ob = { cls:=.type "range_iterator",dict:=none,data:=.fields #[rawInt (a+(i:Nat)*c),rawInt ((n:Int)-(i:Nat)),rawInt c],slots:=#[] })) (ZaL a c n):=by
 have Wk:=Walks.range (prog:=prog) (w:=w) M.hh I a c n
 refine Zgu (λi ob=>i<=n/\ob = { cls:=.type "range_iterator",dict:=none,data:=.fields #[rawInt (a+(i:Nat)*c),rawInt ((n:Int)-(i:Nat)),rawInt c],slots:=#[] }) ?_ ?_
 ·intro i W U H fr ob s Q E o le r hp hn post
  have g:IsRangeIter s.heap I (a+(i:Nat)*c) ((n:Int)-(i:Nat)) c:=(r.frAt Zz5).trans (congrArg some hp.2)
  cases hn
  by_cases hi:i<n
  ·rw[if_pos hi]at post
   refine Wk.item i s Q E hi g λv h' tk hv st keep=>?_
   obtain⟨t,e⟩:=hv
   subst e
   exact post _ h' tk _ ⟨hi,rfl⟩ st (λb o hb e=>keep b o (by simpa using hb) e) (.int _ _)
  ·rw[if_neg hi]at post
   have e:i=n:=by have:=hp.1;lia
   subst e
   exact Wk.done s Q E g λh' tk keep=>post h' tk λb o hb e=>keep b o (by simpa using hb) e
 ·intro i W U H fr ob s Q E le r hp q
  have g:IsRangeIter s.heap I (a+(i:Nat)*c) ((n:Int)-(i:Nat)) c:=(r.frAt Zz5).trans (congrArg some hp.2)
  exact Wk.self i s Q E g q
theorem Zh8{b:Int}{t u v:Tok}{W:Wd}{k:Heap}{tk:Nat}(r:Rep M W U H fr k)(hm:ZbE a b c H=some (nx,n,H'))
  (post:∀(W':Wd) (h':Heap) (tk':Nat) (it:Value) (as:List Addr) (It:Nat->List (Addr×Obj)->Prop) (fs:List (Addr×Obj)),W.Le W'->It 0 fs->Rep M W' U H' (fs++fr) h'->(∀a∈as,∀t∈fr,a≠t.1)->Itr prog w M W' it as It nx->Q it { s with heap:=h',toks:=tk' }):
  wpAny (model prog w) M.A (pyIter (.ref k.objs.size)) Q E { s with heap:=k.push { cls:=.type "range",data:=.fields #[.int a t,.int b u,.int c v] },toks:=tk }:=by
 obtain⟨hc,hm⟩:=ZbD hm
 cases hm
 have hr:IsRange (k.push { cls:=.type "range",data:=.fields #[.int a t,.int b u,.int c v] }) k.objs.size a b c t u v:=IsRange.new ..
 refine wpAny_pyIter_range hr hc.2.1 ?_
 have rp:=r.push { cls:=.type "range",data:=.fields #[.int a t,.int b u,.int c v] }
 have en:Builtin.Range.rangeSize a b c=((rngN a b c:Nat):Int):=(Int.toNat_of_nonneg hc.2.2.1).symm
 dsimp only
 generalize hk:k.push { cls:=.type "range",data:=.fields #[.int a t,.int b u,.int c v] } = k2 at rp ⊢
 obtain⟨r2,ap⟩:=rp.more (fs:=[(k2.objs.size,{ cls:=.type "range_iterator",data:=.fields #[rawInt a,rawInt (Builtin.Range.rangeSize a b c),rawInt c] })]) (λb' o e=>Heap.get?_push_of_some { cls:=.type "range_iterator",data:=.fields #[rawInt a,rawInt (Builtin.Range.rangeSize a b c),rawInt c] } e) (λq hq=>by rw[List.mem_singleton.mp hq];exact⟨Heap.get?_push_size _ rfl,Nat.le_refl _⟩)
 refine post W _ tk _ [k2.objs.size] _ _ (.refl W) ⟨_,rfl,Nat.zero_le _,?_⟩ r2 (λb hb t ht=>by rw[List.mem_singleton.mp hb];exact ap _ Zz5 t ht) (ZpY (a:=a) (c:=c) (n:=rngN a b c))
 rw[en]
 simp
theorem Zq1(h:ZnB vs H=some z)(h1:∀b,vs=[.int b]->ZbE 0 b 1 H=some z->P)(h2:∀a b,vs=[.int a,.int b]->ZbE a b 1 H=some z->P)(h3:∀a b c,vs=[.int a,.int b,.int c]->ZbE a b c H=some z->P): P:=by
 obtain⟨ks,e,h⟩:=Zz0.mp h
 have e:=Zo8 e
 cases ks with
 | nil=>cases h
 | cons a ks=>
 cases ks with
 | nil=>exact h1 _ e h
 | cons b ks=>
 cases ks with
 | nil=>exact h2 _ _ e h
 | cons c ks=>
 cases ks with
 | nil=>exact h3 _ _ _ e h
 | cons d ks=>cases h
theorem JI.range{np:Pos}{g:Exs}(hn:Nm prog w M x (.type "range"))(h:Js prog w M (e::es) g)
  (he:starEach (e::es) M.env=(false,eval e M.env)::starEach es M.env:=by rfl) (hp:∀pos,(backTo pos (starEach es M.env)).any (·.1)=false:=by intro _;rfl):JI prog w M (.Call (.Name x np) (e::es) [] pos) (ZaM g):=by
 intro W U H fr s Q E nx n H' r hf post
 obtain⟨p,e1,hf⟩:=Zz0.mp hf
 refine wpAny_Call_ofName (hn.use r ?_)
 refine PySem.Pv.callWith_type1 (h pos W U H fr s _ E _ _ r e1 λW1 k1 t1 xs l1 r1 x1=>?_) he (hp pos)
 obtain⟨vs,H1⟩:=p
 dsimp only at hf x1 r1
 have post1:=λW' h' tk' it as It fs (l:W1.Le W')=>post W' h' tk' it as It fs (l1.trans l)
 refine Zq1 hf (λb h1 hf=>?_) (λa b h1 hf=>?_) λa b c h1 hf=>?_ <;> subst h1
 ·obtain⟨y,rfl,ry⟩:=x1.one
  obtain⟨t,rfl⟩:=ry.iint
  exact call_range_1 (Zh8 r1 hf post1)
 ·obtain⟨y,z,rfl,ry,rz⟩:=x1.two
  obtain⟨t,rfl⟩:=ry.iint
  obtain⟨t',rfl⟩:=rz.iint
  exact call_range_2 (Zh8 r1 hf post1)
 ·cases x1 with
  | cons ry x1=>
  obtain⟨y,z,rfl,rz,ru⟩:=x1.two
  obtain⟨t,rfl⟩:=ry.iint
  obtain⟨t',rfl⟩:=rz.iint
  obtain⟨t'',rfl⟩:=ru.iint
  have hc:=Zoe hf
  exact call_range_3 hc.1 (Zh8 r1 hf post1) (.inl hc.2)
noncomputable def Za6(nx:Nx)(put:V->Lc->Option Lc)(b:Sm): Nat->Nat->Sm
 | 0,_=>λ_ _=>none
 | n+1,i=>λU H=>(nx i H).bind λo=>match o with
  | none=>some (none,U,H)
  | some v=>(put v U).bind λB=>(b B H).bind λq=>match q.1 with
   | some _=>some q
   | none=>Za6 nx put b n (i+1) q.2.1 q.2.2
def Zac(g:Src)(put:V->Lc->Option Lc)(b:Sm): Sm:=λU H=>(g U H).bind λz=>Za6 z.1 put b z.2.1 0 U z.2.2
def Zw(i:Nat): V->Lc->Option Lc:=λv U=>some (Zi U i v)
structure Tg where
 e:Expr
 G:V->Prop
 R:Heap->Wd->V->Value->Prop
noncomputable def tgN(x:Str)(px:Pos): Tg:=⟨.Name x px,λ_=>True,λ_ W v y=>VR W v y⟩
structure Pull(prog:Program)(w:World)(M:Cx)(T:Tg)(W0:Wd)(it:Value)(as:List Addr)(It:Nat->List (Addr×Obj)->Prop)(nx:Nx): Prop where
 adr:∀i fs,It i fs->fs.map (·.1)=as
 done:∀(i:Nat) (W:Wd) (U:Lc) (H:Hp) (fr fs:List (Addr×Obj)) (s:Shared) (Q:Option Value->Shared->Prop) (E:Value->Shared->Prop),W0.Le W->Rep M W U H (fs++fr) s.heap->(∀a∈as,∀t∈fr,a≠t.1)->It i fs->nx i H=some none ->
  (∀(h':Heap) (tk':Nat),Rep M W U H fr h'->Q none { s with heap:=h',toks:=tk' })->wpAny (model prog w) M.A (pyNext it) Q E s
 item:∀(i:Nat) (W:Wd) (U:Lc) (H:Hp) (fr fs:List (Addr×Obj)) (s:Shared) (Q:Option Value->Shared->Prop) (E:Value->Shared->Prop) (v:V),W0.Le W->Rep M W U H (fs++fr) s.heap->(∀a∈as,∀t∈fr,a≠t.1)->It i fs->nx i H=some (some v)->T.G v ->
  (∀(y:Value) (h1:Heap) (t1:Nat),(∀(Q1:Unit->Shared->Prop) (E1:Value->Shared->Prop),(∀(fs':List (Addr×Obj)) (h':Heap),It (i+1) fs'->Rep M W U H (fs'++fr) h'->T.R h' W v y->Q1 () { s with heap:=h',toks:=t1 })->wpAny (model prog w) M.A (letOwnedTupleGo T.e it y) Q1 E1 { s with heap:=h1,toks:=t1 })->Q (some y) { s with heap:=h1,toks:=t1 })->wpAny (model prog w) M.A (pyNext it) Q E s
def JS(prog:Program)(w:World)(M:Cx)(e:Expr)(T:Tg)(g:Src): Prop:=∀(W:Wd) (U:Lc) (H:Hp) (fr:List (Addr×Obj)) (s:Shared) (Q E:Value->Shared->Prop) (nx:Nx) (n:Nat) (H':Hp),
 Rep M W U H fr s.heap->g U H=some (nx,n,H') ->
 (∀(W':Wd) (h':Heap) (tk':Nat) (it:Value) (as:List Addr) (It:Nat->List (Addr×Obj)->Prop) (fs:List (Addr×Obj)),W.Le W'->It 0 fs->Rep M W' U H' (fs++fr) h'->(∀a∈as,∀t∈fr,a≠t.1)->Pull prog w M T W' it as It nx->(∀(U:Lc) (fr:List (Addr×Obj)) (s:Shared) (Q E:Value->Shared->Prop),Rep M W' U H' (fs++fr) s.heap->Q it s->wpAny (model prog w) M.A (pyIter it) Q E s)->Q it { s with heap:=h',toks:=tk' }) ->
 wpAny (model prog w) M.A (eval e M.env) (λxv s₁=>wpAny (model prog w) M.A (pyIter xv) Q E s₁) E s
def AsF(prog:Program)(w:World)(M:Cx)(T:Tg)(put:V->Lc->Option Lc): Prop:=∀(v:V) (U O:Lc),put v U=some O->T.G v/\∀(W:Wd) (H:Hp) (fr:List (Addr×Obj)) (s:Shared) (Q:Unit->Shared->Prop) (E:Value->Shared->Prop) (y:Value),Rep M W U H fr s.heap->T.R s.heap W v y->(∀(h':Heap) (tk':Nat),Rep M W O H fr h'->Q () { s with heap:=h',toks:=tk' })->wpAny (model prog w) M.A (assign T.e M.env y) Q E s
theorem JI.js(h:JI prog w M e g): JS prog w M e (tgN x px) g:=λW U H fr s Q E nx n H' r hf post=>h W U H fr s Q E nx n H' r hf λW' h' tk' it as It fs l i r ap I=>post W' h' tk' it as It fs l i r ap ⟨I.adr,λi W U H fr fs s Q E l r a it hn k=>I.next i W U H fr fs s Q E none l r a it hn k,λi W U H fr fs s Q E v l r a it hn _ k=>I.next i W U H fr fs s Q E (some v) l r a it hn λfs' h' tk' x it' r' vx=>k x h' tk' λQ1 E1 q=>wpAny_pure (q fs' h' it' r' vx)⟩ λU fr s Q E r q=>I.self 0 W' U H' fr fs s Q E (.refl _) r i q
theorem Zly{T:Tg}{body:List Stmt}{put:V->Lc->Option Lc}(hg:JS prog w M it T g)(ha:AsF prog w M T put)(hb:Ss prog w M body b)(hs:∀x,foldedSetIterable it M.env x=pure x): S1 prog w M (.For T.e it body [] pos) (Zac g put b):=by
 intro W U H fr s Q E r rp hf post
 obtain⟨⟨nx,n,H0⟩,e1,hf⟩:=Zz0.mp hf
 refine wpAny_For (hg W U H fr s _ E nx n H0 rp e1 λW1 k1 t1 itv as It fs l1 i1 r1 ap I1 _=>?_) hs
 refine codeAny_forLoop_any (λk s'=>∃W' O H' h' tk' j fs',s' = { s with heap:=h',toks:=tk' }/\W1.Le W'/\It j fs'/\Rep M W' O H' (fs'++fr) h'/\Za6 nx put b k j O H'=some r) ?_ n ⟨W1,U,H0,k1,t1,0,fs,rfl,.refl _,i1,r1,hf⟩
 intro k s' q9;obtain⟨W2,ρ2,H2,k2,t2,j,fs2,rfl,l2,i2,r2,e⟩:=q9
 cases k with
 | zero=>cases e
 | succ k=>
  obtain⟨o,e2,e⟩:=Zz0.mp e
  cases o with
  | none=>
   cases e
   exact I1.done j W2 ρ2 H2 fr fs2 _ _ _ l2 r2 ap i2 e2 λh' tk' r3=>wpAny_execs_nil (post W2 h' tk' (l1.trans l2) r3)
  | some v=>
   obtain⟨ρ3,e3,e⟩:=Zz0.mp e
   obtain⟨q,e4,e⟩:=Zz0.mp e
   obtain⟨hG,go⟩:=ha v ρ2 ρ3 e3
   refine I1.item j W2 ρ2 H2 fr fs2 _ _ _ v l2 r2 ap i2 e2 hG λy k3 t3 lg=>lg _ _ λfs3 k4 i3 r3 y3=>?_
   refine go W2 H2 (fs3++fr) { s with heap:=k4,toks:=t3 } _ _ y r3 y3 λk4 t4 r4=>?_
   refine hb W2 _ H2 (fs3++fr) _ _ _ q r4 e4 ?_
   obtain⟨u,ρ5,H5⟩:=q
   cases u with
   | some u=>
    cases e
    exact λW5 k5 t5 x5 l5 r5 v5=>post W5 k5 t5 x5 ((l1.trans l2).trans l5) (r5.less λq hq=>List.mem_append_right _ hq) v5
   | none=>exact λW5 k5 t5 l5 r5=>⟨k,Nat.lt_succ_self k,W5,ρ5,H5,k5,t5,j+1,fs3,rfl,l2.trans l5,i3,r5,e⟩
theorem ZaG{i:Nat}{body:List Stmt}(hx:Sto prog w M x i)(hg:JI prog w M it g)(hb:Ss prog w M body b)(hs:∀x,foldedSetIterable it M.env x=pure x:=by intro _;rfl): S1 prog w M (.For (.Name x px) it body [] pos) (Zac g (Zw i) b):=
 Zly (T:=tgN x px) hg.js (λv U O e=>⟨trivial,λW H fr s Q E y r vy post=>wpAny_assign_Name (hx W U H fr s Q E v y r vy λh' tk' r'=>post h' tk' (Option.some.inj e▸r'))⟩) hb hs
end PM
end
section
namespace PM
open PySem PySem.W PySem.Calls PyProof.Rows PyProof
variable{names:List Str}{cs:Scope}{cl:List (Str×Addr)}{m:Str->Option Value}{cells:List (Addr×Obj)}{x:Str}{i:Nat}
structure OwnF(names:List Str)(cs:Scope)(cl:List (Str×Addr))(W:Wd)(U:Lc)(m:Str->Option Value)(cells:List (Addr×Obj)): Prop where
 loc:∀(i:Nat) (x:Str) (v:V),names[i]?=some x->cs.names.lookup x=some .local->U i=some v->∃y,m x=some y/\VR W v y
 cel:∀(i:Nat) (x:Str) (v:V),names[i]?=some x->cs.names.lookup x=some .cell->U i=some v->∃c o y,cl.lookup x=some c/\(c,o)∈cells/\o.data=.cell (some y)/\VR W v y
 all:∀(x:Str) (c:Addr),cl.lookup x=some c->∃o v₀,(c,o)∈cells/\o.data=.cell v₀
 one:∀(x y:Str) (c:Addr),cl.lookup x=some c->cl.lookup y=some c->x=y
theorem OwnF.mono{W W':Wd}{U:Lc}(l:W.Le W')(h:OwnF names cs cl W U m cells): OwnF names cs cl W' U m cells:=
 ⟨λi x v a b c=>by
  obtain⟨y,h1,h2⟩:=h.loc i x v a b c
  exact⟨y,h1,h2.mono l⟩,λi x v a b c=>by
  obtain⟨d,o,y,h1,h2,h3,h4⟩:=h.cel i x v a b c
  exact⟨d,o,y,h1,h2,h3,h4.mono l⟩,h.all,h.one⟩
noncomputable def ZaY(dp un:Nat)(gd:Option (List Code))(cn:Str)(cs:Scope)(L a:Addr)(ccd:Value)(cl:List (Str×Addr))(outer:List Env)(h₀:Heap)(hu:un+200<cLine)(names:List Str): Cx where
 A:=ktrTop dp un gd cn cs L a ccd cl outer
 env:=envX cn cs L a ccd cl
 h₀:=h₀
 L:=L
 hh:=rfl
 hu:=hu
 Own:=OwnF names cs cl
 mono:=OwnF.mono
section
variable {prog:Program} {w:World} {dp un:Nat} {gd:Option (List Code)} {cn:Str} {cs:Scope} {L a:Addr} {ccd:Value} {cl:List (Str×Addr)} {outer:List Env} {h₀:Heap} {hu:un+200<cLine} {names:List Str}
theorem ZsE(hi:names[i]?=some x)(hx:cs.names.lookup x=some .local)(hk:cs.kind=.function)(hd:(x == ("__debug__":Str))=false): Rd prog w (ZaY dp un gd cn cs L a ccd cl outer h₀ hu names) x i:=by
 intro W U H fr s Q E v pos r e q
 obtain⟨m,c,led,r⟩:=r
 obtain⟨y,h1,h2⟩:=r.own.loc i x v hi hx e
 exact nameX_L r.F h1 (q y h2) hk hx hd
theorem ZsF(hi:names[i]?=some x)(hx:cs.names.lookup x=some .cell)(hk:cs.kind=.function)(hd:(x == ("__debug__":Str))=false): Rd prog w (ZaY dp un gd cn cs L a ccd cl outer h₀ hu names) x i:=by
 intro W U H fr s Q E v pos r e q
 obtain⟨m,c,led,r⟩:=r
 obtain⟨d,o,y,h1,h2,h3,h4⟩:=r.own.cel i x v hi hx e
 exact nameX_C r.N h1 (r.clIn _ h2) h3 (q y h4) hk hx hd
theorem Zq2(nd:names.Nodup)(hi:names[i]?=some x)(hx:cs.names.lookup x=some .local)(hk:cs.kind=.function): Sto prog w (ZaY dp un gd cn cs L a ccd cl outer h₀ hu names) x i:=by
 intro W U H fr s Q E v y r vy q
 obtain⟨m,c,led,r⟩:=r
 have hi':i<names.length:=(Zz6.mp hi).1
 refine storeX_L r.F r.N (λh' F' N'=>q h' _ ⟨_,c,led,⟨F',N',r.R,r.sc,r.sc0,r.frIn,r.frOff,r.clIn,r.clOff,r.apart,r.frTup,r.clTup,⟨λj z u hj hz hu=>?_,λj z u hj hz hu=>?_,r.own.all,r.own.one⟩⟩⟩) hk hx
 ·by_cases e:j=i
  ·subst e
   rw[hi]at hj
   cases hj
   simp only[Zi,if_true]at hu
   cases hu
   exact⟨y,.s,vy⟩
  ·have hzx:z≠x:=λe'=>by
    subst e'
    exact e ((List.getElem?_inj (Zz6.mp hj).1 nd).mp (hj.trans hi.symm))
   simp only[Zi,if_neg e]at hu
   obtain⟨y',h1,h2⟩:=r.own.loc j z u hj hz hu
   exact⟨y',by simp[hzx,h1],h2⟩
 ·by_cases e:j=i
  ·subst e
   rw[hi]at hj
   cases hj
   rw[hx]at hz
   cases hz
  ·simp only[Zi,if_neg e]at hu
   exact r.own.cel j z u hj hz hu
theorem Zq3(nd:names.Nodup)(hi:names[i]?=some x)(hx:cs.names.lookup x=some .cell)(hk:cs.kind=.function)(hcl:(cl.lookup x).isSome=true): Sto prog w (ZaY dp un gd cn cs L a ccd cl outer h₀ hu names) x i:=by
 intro W U H fr s Q E v y r vy q
 obtain⟨m,c,led,r⟩:=r
 obtain⟨d,hd⟩:=Option.isSome_iff_exists.mp hcl
 obtain⟨o,v₀,ho,hv₀⟩:=r.own.all x d hd
 have inl:=r.clIn _ ho
 have N2:News h₀ L s.heap ((d,o)::led.filter (λq=>decide (q.1≠d))):=by
  intro q hq
  rcases Zz7.mp hq with e | hq
  ·subst e
   exact r.N _ inl
  ·exact r.N q (List.mem_filter.mp hq).1
 refine storeX_C r.F N2 hd (UpdF.head λq hq=>by simpa using (List.mem_filter.mp hq).2) hv₀ (λh' o' F' N' ho'=>?_) hk hx
 have keep:∀q∈led,q.1≠d->q∈(d,o')::led.filter (λq=>decide (q.1≠d)):=λq hq hn=>Yy3 _ (Yy9.mpr ⟨hq,by simpa using hn⟩)
 refine q h' s.toks ⟨m,(d,o')::c.filter (λq=>decide (q.1≠d)),_,⟨F',N',⟨r.R.len,r.R.nd,λj vs e ni=>?_,λq hq=>Zbw (r.R.tups q hq) λz=>keep q z (r.clTup _ ho q hq).symm,r.R.kind,λj vs fs e hi=>?_,r.R.inlt,r.R.iuni⟩,r.sc,r.sc0,λq hq=>keep q (r.frIn q hq) (r.apart _ ho q hq).symm,r.frOff,λq hq=>?_,λq hq=>?_,λq hq t ht=>?_,r.frTup,λq hq t ht=>?_,⟨λj z u hj hz hu=>?_,λj z u hj hz hu=>?_,λz e hz=>?_,r.own.one⟩⟩⟩
 ·obtain⟨l,b,xs,k,h1,h2,h3⟩:=r.R.lists j vs e ni
  exact⟨l,b,xs,k,h1,Zbw h2 λz=>keep _ z λe=>r.clOff _ ho (e▸Yy4 h1),h3⟩
 ·obtain⟨l,b,od,xs,h1,h2,h3⟩:=r.R.objs j vs fs e hi
  exact⟨l,b,od,xs,h1,Zbw h2 λz=>keep _ z λe=>r.clOff _ ho (e▸Yy4 h1),h3⟩
 ·rcases Zz7.mp hq with e | hq
  ·exact e▸List.mem_cons_self
  ·obtain⟨h1,h2⟩:=List.mem_filter.mp hq
   exact keep q (r.clIn q h1) (by simpa using h2)
 ·rcases Zz7.mp hq with e | hq
  ·rw[e]
   exact(r.clOff _ ho:d∉W.pi)
  ·exact r.clOff q (List.mem_filter.mp hq).1
 ·rcases Zz7.mp hq with e | hq
  ·rw[e]
   exact(r.apart _ ho t ht:d≠t.1)
  ·exact r.apart q (List.mem_filter.mp hq).1 t ht
 ·rcases Zz7.mp hq with e | hq
  ·rw[e]
   exact(r.clTup _ ho t ht:d≠t.1)
  ·exact r.clTup q (List.mem_filter.mp hq).1 t ht
 ·by_cases e:j=i
  ·subst e
   rw[hi]at hj
   cases hj
   rw[hx]at hz
   cases hz
  ·simp only[Zi,if_neg e]at hu
   exact r.own.loc j z u hj hz hu
 ·by_cases e:j=i
  ·subst e
   rw[hi]at hj
   cases hj
   simp only[Zi,if_true]at hu
   cases hu
   exact⟨d,o',y,hd,List.mem_cons_self,ho',vy⟩
  ·have hzx:z≠x:=λe'=>by
    subst e'
    exact e ((List.getElem?_inj (Zz6.mp hj).1 nd).mp (hj.trans hi.symm))
   simp only[Zi,if_neg e]at hu
   obtain⟨b,ob,y',h1,h2,h3,h4⟩:=r.own.cel j z u hj hz hu
   have:b≠d:=λe'=>by
    subst e'
    exact hzx (r.own.one z x b h1 hd)
   exact⟨b,ob,y',h1,Yy3 _ (Yy9.mpr ⟨h2,by simpa using this⟩),h3,h4⟩
 ·by_cases e':e=d
  ·subst e'
   exact⟨o',_,List.mem_cons_self,ho'⟩
  ·obtain⟨ob,v1,h1,h2⟩:=r.own.all z e hz
   exact⟨ob,v1,Yy3 _ (Yy9.mpr ⟨h1,by simpa using e'⟩),h2⟩
end
end PM
end
section
namespace PM
open PySem PySem.W PySem.Calls PyProof.Rows PyProof PyProof.Rows.LCg
variable{U B:Lc}{H:Hp}{fr fs:List (Addr×Obj)}{h h':Heap}{D C:Addr}{ys:List Value}{k t j:Nat}{vs acc:List V}{oC o o':Obj}{m₂ m:Str->Option Value}{a b:Addr×Obj}{scope:Scope}{cl:List (Str×Addr)}{elt iter:Expr}{ts:List (Str×Nat)}{W0:Wd}{It:Nat->List (Addr×Obj)->Prop}{nx:Nx}{c:Ts}{f:Ex}{q:List V×Hp}{s:Shared}{E:Value->Shared->Prop}{ifs:List Expr}{as:List Addr}{P:Value->Addr->Env->Shared->Prop}{x:Str}{px pos:Pos}{y:Value}{g:Src}
variable{prog:Program}{w:World}{M:Cx}
theorem Zek{W:Wd}(r:Rep M W U H ((D,Zat ys k)::fr) h)(ap:∀t∈fr,D≠t.1)(hv:VRs W vs ys)(hl:vs.length<=ZK):
  ∃W',W.Le W'/\Rep M W' U (H++[vs]) fr h/\VR W' (.ref H.length) (.ref D):=by
 obtain⟨m,c,led,r⟩:=r
 have le:W.Le ⟨W.pi++[D],W.tups,W.sc,W.ins⟩:=⟨List.prefix_append _ _,λq hq=>hq,rfl,λ_ h=>h,λ_ h=>.inl h⟩
 have nin:∀q∈W.ins,q.1≠H.length:=λq hq e=>by have:=r.R.inlt q hq;lia
 have h0:0<W.pi.length:=(Zz6.mp r.sc0).1
 have at_n:(W.pi++[D])[H.length]?=some D:=by rw[<-r.R.len];simp
 have off:=r.frOff _ Zz5
 refine⟨⟨W.pi++[D],W.tups,W.sc,W.ins⟩,le,⟨m,c,led,⟨r.F,r.N,⟨by simp[r.R.len],?_,λi us e ni=>?_,r.R.tups,r.R.kind,λi us fs e hi=>?_,λq hq=>by have:=r.R.inlt q hq;simp;lia,r.R.iuni⟩,r.sc,(Yy0 h0).trans r.sc0,λq hq=>r.frIn q (Zz2 _ hq),λq hq=>?_,r.clIn,λq hq=>?_,λq hq t ht=>r.apart q hq t (Zz2 _ ht),λq hq=>r.frTup q (Zz2 _ hq),r.clTup,M.mono le r.own⟩⟩,.ref ⟨at_n,nin⟩⟩
 ·show(W.pi++[D]).Nodup
  rw[List.nodup_append]
  refine⟨r.R.nd,.s,λa ha b hb=>?_⟩
  rw[List.mem_singleton.mp hb]
  exact λe=>off (e▸ha)
 ·by_cases hi:i<H.length
  ·rw[Yy0 hi]at e
   obtain⟨l,a,zs,j,h1,h2,h3⟩:=r.R.lists i us e ni
   exact⟨l,a,zs,j,le.piAt h1,h2,h3.mono le⟩
  ·have:i=H.length:=by
    have:=(Zz6.mp e).1
    simp at this
    lia
   subst this
   simp at e
   subst e
   exact⟨hl,D,ys,k,at_n,Yy3 _ (r.frIn _ Zz5),hv.mono le⟩
 ·have hi':i<H.length:=r.R.inlt _ hi
  rw[Yy0 hi']at e
  obtain⟨l,a,od,zs,h1,h2,h3,h4⟩:=r.R.objs i us fs e hi
  exact⟨l,a,od,zs,le.piAt h1,h2,h3,h4.mono le⟩
 ·intro hm
  rcases Zz8.mp hm with hm | hm
  ·exact r.frOff q (Zz2 _ hq) hm
  ·exact ap q hq (Zz9.mp hm).symm
 ·intro hm
  rcases Zz8.mp hm with hm | hm
  ·exact r.clOff q hq hm
  ·exact r.apart q hq _ Zz5 (Zz9.mp hm)
def ZuP(M:Cx)(C:Addr)(ts:List (Str×Nat))(ρ0:Lc)(W:Wd)(U:Lc)(m:Str->Option Value)(cells:List (Addr×Obj)): Prop:=
 ∃oC m₂ cs,cells=(C,oC)::cs/\(∀q∈cs,q.1≠C)/\NsObj oC m₂/\(∀p∈ts,∃v y,U p.2=some v/\m₂ p.1=some y/\VR W v y)/\(∀j,(∀p∈ts,p.2≠j)->U j=ρ0 j)/\M.Own W ρ0 m cs
noncomputable def Zaz(M:Cx)(scope:Scope)(cl:List (Str×Addr))(C:Addr)(ts:List (Str×Nat))(ρ0:Lc): Cx where
 A:=M.A
 env:=compEnvC scope cl C M.env
 h₀:=M.h₀
 L:=M.L
 hh:=M.hh
 hu:=M.hu
 Own:=ZuP M C ts ρ0
 mono:=λl h=>by
  obtain⟨oC,m₂,cs,e,h0,h1,h2,h3,h4⟩:=h
  exact⟨oC,m₂,cs,e,h0,h1,λp hp=>by
   obtain⟨v,y,a,b,c⟩:=h2 p hp
   exact⟨v,y,a,b,c.mono l⟩,h3,M.mono l h4⟩
section
variable {M:Cx} {scope:Scope} {cl:List (Str×Addr)} {C:Addr} {ts:List (Str×Nat)} {ρ0:Lc} {W:Wd} {U:Lc} {H:Hp} {fr:List (Addr×Obj)} {h:Heap}
theorem Zq4(r:Rep M W ρ0 H ((C,oC)::fr) h)(ap:∀t∈fr,C≠t.1)(hC:NsObj oC m₂)(ht:∀p∈ts,∃v y,U p.2=some v/\m₂ p.1=some y/\VR W v y)(hj:∀j,(∀p∈ts,p.2≠j)->U j=ρ0 j): Rep (Zaz M scope cl C ts ρ0) W U H fr h:=by
 obtain⟨m,c,led,r⟩:=r
 refine⟨m,(C,oC)::c,led,⟨r.F,r.N,r.R,r.sc,r.sc0,λq hq=>r.frIn q (Zz2 _ hq),λq hq=>r.frOff q (Zz2 _ hq),λq hq=>?_,λq hq=>?_,λq hq t ht=>?_,λq hq=>r.frTup q (Zz2 _ hq),λq hq t ht=>?_,⟨oC,m₂,c,rfl,λq hq=>r.apart q hq _ Zz5,hC,ht,hj,r.own⟩⟩⟩
 ·rcases Zz7.mp hq with e | hq
  ·exact e▸r.frIn _ Zz5
  ·exact r.clIn q hq
 ·rcases Zz7.mp hq with e | hq
  ·exact e▸r.frOff _ Zz5
  ·exact r.clOff q hq
 ·rcases Zz7.mp hq with e | hq
  ·exact e▸ap t ht
  ·exact r.apart q hq t (Zz2 _ ht)
 ·rcases Zz7.mp hq with e | hq
  ·exact e▸r.frTup _ Zz5 t ht
  ·exact r.clTup q hq t ht
theorem Rep.fromC(r:Rep (Zaz M scope cl C ts ρ0) W U H fr h): ∃oC m₂,NsObj oC m₂/\Rep M W ρ0 H ((C,oC)::fr) h:=by
 right
 obtain⟨m,c,led,r⟩:=r
 obtain⟨oC,m₂,cs,e,h0,h1,h2,h3,h4⟩:=r.own
 subst e
 left
 refine⟨oC,m₂,h1,m,cs,led,⟨r.F,r.N,r.R,r.sc,r.sc0,λq hq=>?_,λq hq=>?_,λq hq=>r.clIn q (Zz2 _ hq),λq hq=>r.clOff q (Zz2 _ hq),λq hq t ht=>?_,λq hq t ht=>?_,λq hq=>r.clTup q (Zz2 _ hq),h4⟩⟩
 ·rcases Zz7.mp hq with e | hq
  ·exact e▸r.clIn _ Zz5
  ·exact r.frIn q hq
 ·rcases Zz7.mp hq with e | hq
  ·exact e▸r.clOff _ Zz5
  ·exact r.frOff q hq
 ·rcases Zz7.mp ht with e | ht
  ·rw[e]
   exact h0 q hq
  ·exact r.apart q (Zz2 _ hq) t ht
 ·rcases Zz7.mp hq with e | hq
  ·exact e▸r.clTup _ Zz5 t ht
  ·exact r.frTup q hq t ht
end
def JF(prog:Program)(w:World)(M:Cx)(ifs:List Expr)(f:Ts): Prop:=∀(W:Wd) (U:Lc) (H:Hp) (fr:List (Addr×Obj)) (s:Shared) (Q:Bool->Shared->Prop) (E:Value->Shared->Prop) (b:Bool) (H':Hp),
 Rep M W U H fr s.heap->f U H=some (b,H')->ZgQ M W U H' fr s Q b ->
 wpAny (model prog w) M.A (forIn ifs true λc r=>if r=true then do let ok <-isTrue c M.env (eval c M.env);pure (ForInStep.yield ok)else pure (ForInStep.yield r)) Q E s
theorem JF.nil: JF prog w M [] ZJ:=λW U H fr s Q E b H' r hf post=>by
 cases hf
 exact wpAny_pure (post W s.heap s.toks (.refl W) r)
theorem JF.one{e:Expr}{t:Ts}(h:JT prog w M e t): JF prog w M [e] t:=λW U H fr s Q E b H' r hf post=>by
 rw[List.forIn_cons]
 simp only[if_true,List.forIn_nil]
 refine wpAny_bind (wpAny_bind (h W U H fr s _ E b H' r hf λW1 k1 t1 l1 r1=>wpAny_pure ?_))
 exact wpAny_pure (post W1 k1 t1 l1 r1)
def Zah(nx:Nx)(put:V->Lc->Option Lc)(c:Ts)(f:Ex)(U:Lc): Nat->Nat->List V->Hp->Option (List V×Hp)
 | 0,_,_,_=>none
 | n+1,i,acc,H=>(nx i H).bind λo=>match o with
  | none=>some (acc,H)
  | some v=>(put v U).bind λB=>(c B H).bind λb=>if b.1 then(f B b.2).bind λp=>(if acc.length<ZK then Zah nx put c f U n (i+1) (acc++[p.1]) p.2 else none)else Zah nx put c f U n (i+1) acc b.2
def Z3(g:Src)(put:V->Lc->Option Lc)(c:Ts)(f:Ex): Ex:=λU H=>(g U H).bind λz=>(Zah z.1 put c f U z.2.1 0 [] z.2.2).map λq=>(.ref q.2.length,q.2++[q.1])
def Zg8(M:Cx)(W0:Wd)(U:Lc)(fr:List (Addr×Obj))(C D:Addr)(It:Nat->List (Addr×Obj)->Prop)(nx:Nx)(put:V->Lc->Option Lc)(c:Ts)(f:Ex)(q:List V×Hp)(s:Shared)(k:Nat)(s':Shared): Prop:=
 ∃W' H' h' tk' j fs acc ys oC m₂,s' = { s with heap:=h',toks:=tk' }/\W0.Le W'/\It j fs/\NsObj oC m₂/\VRs W' acc ys/\acc.length<=ZK/\Rep M W' U H' ((C,oC)::(D,lst ys)::(fs++fr)) h'/\Zah nx put c f U k j acc H'=some q
theorem Rep.sh1{W:Wd}(r:Rep M W U H (a::b::(fs++fr)) h): Rep M W U H (fs++(a::b::fr)) h:=r.less λq hq=>by
 simp only[List.mem_cons,List.mem_append]at hq ⊢
 rcases hq with h | h | h | h <;> simp[h]
theorem Rep.sh2{W:Wd}(r:Rep M W U H (fs++(a::b::fr)) h): Rep M W U H ([a]++(b::(fs++fr))) h:=r.less λq hq=>by
 simp only[List.mem_cons,List.mem_append,List.cons_append,List.nil_append]at hq ⊢
 rcases hq with h | h | h | h <;> simp[h]
theorem Rep.sh3{W:Wd}(r:Rep M W U H (a::b::fs) h): Rep M W U H (b::a::fs) h:=r.less λq hq=>by
 simp only[List.mem_cons]at hq ⊢
 rcases hq with h | h | h <;> simp[h]
theorem Rep.put{W:Wd}{a:Addr}(r:Rep M W U H ((a,o)::fr) h)(ap:∀t∈fr,a≠t.1)(up:∀b x,b≠a->h.get? b=some x->h'.get? b=some x)(g:h'.get? a=some o'): Rep M W U H ((a,o')::fr) h':=by
 refine Rep.swap (fs:=[(a,o)]) (fs':=[(a,o')]) r (λq hq t ht=>?_) (λb x hb e=>up b x (λz=>hb (by simp[z])) e) λq hq=>?_
 ·rw[List.mem_singleton.mp hq]
  exact ap t ht
 ·rw[List.mem_singleton.mp hq]
  exact⟨g,.s⟩
theorem Zo9{W:Wd}{put:V->Lc->Option Lc}{tk:Nat}
  (hel:J prog w (Zaz M scope cl C ts U) elt f) (aD:∀t∈fs++fr,D≠t.1) (cd:C≠D) (l0:W0.Le W) (hit:It (j+1) fs) (hv:VRs W acc ys) (r:Rep (Zaz M scope cl C ts U) W B H ((D,lst ys)::(fs++fr)) h)
  (e:((f B H).bind λp=>(if acc.length<ZK then Zah nx put c f U k (j+1) (acc++[p.1]) p.2 else none))=some q):
  wpAny (model prog w) M.A (eval elt (compEnvC scope cl C M.env)) (λx s₄=>wpAny (model prog w) M.A (call (.builtin "list.append") [.ref D,x]) (λ_ s₅=>∃m,m<k+1/\Zg8 M W0 U fr C D It nx put c f q s m s₅) E s₄) E { s with heap:=h,toks:=tk }:=by
 obtain⟨p,e2,e⟩:=Zz0.mp e
 by_cases hlt:acc.length<ZK
 ·rw[if_pos hlt]at e
  refine hel W B H _ _ _ E _ _ r e2 λW2 k2 t2 x l2 r2 x2=>?_
  obtain⟨oC',m₃,hC',r3⟩:=r2.fromC
  have hD:k2.get? D=some (lst ys):=r3.frAt (q:=(D,lst ys)) (Zz2 _ Zz5)
  refine append_at (hsz:=Zcv (by rw[List.size_toArray,hv.length];lia)) hD λh' sb hg=>?_
  have hg':h'.get? D=some (lst (ys++[x])):=hg.trans (congrArg some (lst_snoc ys x))
  have r6:=(r3.sh3.put (λt ht=>by
   rcases Zz7.mp ht with e | ht
   ·rw[e]
    exact cd.symm
   ·exact aD t ht) (λb o hb e=>sb.extBut b o hb e) hg').sh3
  exact⟨k,Nat.lt_succ_self k,W2,p.2,h',t2,j+1,fs,acc++[p.1],ys++[x],oC',m₃,rfl,l0.trans l2,hit,hC',(hv.mono l2).snoc x2,by simp;lia,r6,e⟩
 ·rw[if_neg hlt]at e
  cases e
theorem ZpZ{W:Wd}{put:V->Lc->Option Lc}{s1:Shared}
  (hel:J prog w (Zaz M scope cl C ts U) elt f) (hif:JF prog w (Zaz M scope cl C ts U) ifs c) (hs:∃h tk,s1 = { s with heap:=h,toks:=tk })
  (aC:∀t∈(D,lst ys)::(fs++fr),C≠t.1) (aD:∀t∈fs++fr,D≠t.1) (l0:W0.Le W) (hit:It (j+1) fs) (hC:NsObj oC m₂) (hv:VRs W acc ys) (hl:acc.length<=ZK) (r:Rep M W U H ((C,oC)::(D,lst ys)::(fs++fr)) s1.heap)
  (ht:∀p∈ts,∃v y,B p.2=some v/\m₂ p.1=some y/\VR W v y) (hj:∀i,(∀p∈ts,p.2≠i)->B i=U i)
  (e:((c B H).bind λb=>if b.1 then(f B b.2).bind λp=>(if acc.length<ZK then Zah nx put c f U k (j+1) (acc++[p.1]) p.2 else none)else Zah nx put c f U k (j+1) acc b.2)=some q):
  wpAny (model prog w) M.A (forIn ifs true λc r=>if r=true then do let ok <-isTrue c (compEnvC scope cl C M.env) (eval c (compEnvC scope cl C M.env));pure (ForInStep.yield ok)else pure (ForInStep.yield r)) (λok s₃=>
   if ok=true then wpAny (model prog w) M.A (eval elt (compEnvC scope cl C M.env)) (λx s₄=>wpAny (model prog w) M.A (call (.builtin "list.append") [.ref D,x]) (λ_ s₅=>∃m,m<k+1/\Zg8 M W0 U fr C D It nx put c f q s m s₅) E s₄) E s₃
   else ∃m,m<k+1/\Zg8 M W0 U fr C D It nx put c f q s m s₃) E s1:=by
 obtain⟨h,tk,rfl⟩:=hs
 obtain⟨b,e1,e⟩:=Zz0.mp e
 obtain⟨b,H1⟩:=b
 have rc:=Zq4 (scope:=scope) (cl:=cl) r aC hC ht hj
 refine hif W B H _ _ _ E b H1 rc e1 λW1 k1 t1 l1 r1=>?_
 cases b with
 | false=>
  obtain⟨oC',m₃,hC',r2⟩:=r1.fromC
  exact⟨k,Nat.lt_succ_self k,W1,H1,k1,t1,j+1,fs,acc,ys,oC',m₃,rfl,l0.trans l1,hit,hC',hv.mono l1,hl,r2,e⟩
 | true=>exact Zo9 hel aD (aC (D,lst ys) Zz5) (l0.trans l1) hit (hv.mono l1) r1 e
structure COf(as:List Addr)(fr:List (Addr×Obj))(C D:Addr): Prop where
 o:∀b∈as,b≠D/\b≠C
 cd:C≠D
 cf:∀t∈fr,C≠t.1
 df:∀t∈fr,D≠t.1
theorem COf.ap(z:COf as fr C D)(ap:∀b∈as,∀t∈fr,b≠t.1): ∀b∈as,∀t∈(C,o)::(D,o')::fr,b≠t.1:=λb hb t ht=>by
 simp only[List.mem_cons]at ht
 rcases ht with h | h | h
 ·rw[h];exact(z.o b hb).2
 ·rw[h];exact(z.o b hb).1
 ·exact ap b hb t h
theorem ZoD(hcell:∀y∈scope.names,y.2≠.cell)(hkind:scope.kind=.function){W:Wd}{k:Heap}(r1:Rep M W U H (fs++fr) k)(adr0:fs.map (·.1)=as)
  (go:∀(C D:Addr) (oC:Obj) (m:Str->Option Value) (h:Heap) (t':Nat),COf as fr C D->NsObj oC m->Rep M W U H ((C,oC)::(D,lst [])::(fs++fr)) h->P (.ref D) C (compEnvC scope cl C M.env) { s with heap:=h,toks:=t' }):
  wpAny (model prog w) M.A (newList []) (λacc s₃=>wpAny (model prog w) M.A (newFunctionEnv scope M.env.globals cl [] M.env.qual none .none (some M.env)) (λcenv s₄=>P acc cenv.locals { cenv with scope:=relabel scope M.env } s₄) E s₃) E { s with heap:=k,toks:=t }:=by
 refine wpAny_newObj_type (wpAny_newFunctionEnv hcell (λy hy=>by simp at hy) (λh₂ hns hsb=>?_) hkind)
 dsimp only at hns hsb ⊢
 obtain⟨rD,aD⟩:=r1.more (fs:=[(k.objs.size,lst [])]) (λb o e=>Heap.get?_push_of_some (lst []) e) (λq hq=>by rw[List.mem_singleton.mp hq];exact⟨Heap.get?_push_size _ rfl,Nat.le_refl _⟩)
 generalize eH:k.push { cls:=.type "list",dict:=none,data:=.seq ([]:List Value).toArray } = K at hns hsb ⊢
 have eK:k.push (lst [])=K:=eH
 rw[eK]at rD
 obtain⟨oC,gC,nC⟩:=ns_obj hns
 obtain⟨rC,aC⟩:=rD.more (fs:=[(K.objs.size,oC)]) (λb o e=>hsb.extBut b o (Nat.ne_of_lt (Heap.lt_size e)) (Heap.get?_push_of_some _ e)) (λq hq=>by rw[List.mem_singleton.mp hq];exact⟨gC,Nat.le_refl _⟩)
 refine go _ _ _ _ _ _ ⟨λb hb=>?_,aC _ Zz5 (k.objs.size,lst []) (Zz4 _ Zz5),λt ht=>aC _ Zz5 t (Zz3 _ (Zz3 _ ht)),λt ht=>aD _ Zz5 t (Zz3 _ ht)⟩ nC rC
 rw[<-adr0]at hb
 obtain⟨q,hq,e⟩:=Zz11.mp hb
 exact⟨e▸(aD _ Zz5 q (Zz4 _ hq)).symm,e▸(aC _ Zz5 q (Zz3 _ (Zz4 _ hq))).symm⟩
theorem Zp0{W:Wd}{oD:Obj}{k:Heap}(z:COf as fr C D)(a3:fs.map (·.1)=as)(r:Rep M W U H (fs++((C,oC)::(D,oD)::fr)) k)(hn:h.Ns C m)(up:∀b o,b≠C->k.get? b=some o->h.get? b=some o):
  ∃oC',NsObj oC' m/\Rep M W U H ((C,oC')::(D,oD)::(fs++fr)) h/\(∀t∈(D,oD)::(fs++fr),C≠t.1)/\∀t∈fs++fr,D≠t.1:=by
 obtain⟨oC4,gC4,nC4⟩:=ns_obj hn
 have b:∀t∈fs,t.1∈as:=λt ht=>a3▸List.mem_map_of_mem ht
 have aD:∀t∈fs++fr,D≠t.1:=λt ht=>by
  rcases Zz8.mp ht with ht | ht
  ·exact(z.o _ (b t ht)).1.symm
  ·exact z.df t ht
 have aC:∀t∈(D,oD)::(fs++fr),C≠t.1:=λt ht=>by
  simp only[List.mem_cons,List.mem_append]at ht
  rcases ht with h | h | h
  ·rw[h];exact z.cd
  ·exact(z.o _ (b t h)).2.symm
  ·exact z.cf t h
 exact⟨oC4,nC4,r.sh2.put aC up gC4,aC,aD⟩
def ZuQ(M:Cx)(W:Wd)(U:Lc)(fr:List (Addr×Obj))(s:Shared)(q:List V×Hp)(RR:Value->Addr->Result->Shared->Prop): Prop:=∀(W':Wd) (h':Heap) (tk':Nat) (C D:Addr) (oC:Obj) (m₂:Str->Option Value) (ys:List Value),W.Le W'->NsObj oC m₂->VRs W' q.1 ys->q.1.length<=ZK->(∀t∈fr,D≠t.1)->(∀t∈fr,C≠t.1)->C≠D->Rep M W' U q.2 ((C,oC)::(D,lst ys)::fr) h'->RR (.ref D) C (.ok .next) { s with heap:=h',toks:=tk' }
def AsC(prog:Program)(w:World)(M:Cx)(scope:Scope)(cl:List (Str×Addr))(T:Tg)(put:V->Lc->Option Lc)(ts:List (Str×Nat)): Prop:=∀(v:V) (U O:Lc),put v U=some O->T.G v/\(∀i,(∀p∈ts,p.2≠i)->O i=U i)/\∀(C:Addr) (W:Wd) (s:Shared) (Q:Unit->Shared->Prop) (E:Value->Shared->Prop) (y:Value) (m:Str->Option Value),T.R s.heap W v y->s.heap.Ns C m ->
 (∀(h':Heap) (tk':Nat) (m':Str->Option Value),h'.Ns C m'->(∀b o,b≠C->s.heap.get? b=some o->h'.get? b=some o)->(∀p∈ts,∃v y,O p.2=some v/\m' p.1=some y/\VR W v y)->Q () { s with heap:=h',toks:=tk' })->wpAny (model prog w) M.A (assign T.e (compEnvC scope cl C M.env) y) Q E s
theorem Zd1{Q:Unit->Shared->Prop}(hkind:scope.kind=.function)(hx:scope.names.lookup x=some .local)(hn:s.heap.Ns C m)(k:∀(h':Heap) (tk':Nat),h'.Ns C (λz=>if z=x then some y else m z)->(∀b o,b≠C->s.heap.get? b=some o->h'.get? b=some o)->Q () { s with heap:=h',toks:=tk' }): wpAny (model prog w) M.A (assign (.Name x px) (compEnvC scope cl C M.env) y) Q E s:=
 wpAny_assign_Name (wpAny_storeName_local (lookup_relabel_local hx) hn (λh5 hn5 sb5=>k h5 _ hn5 λb o hb e=>sb5.extBut b o hb e) (by simp[compEnvC,relabel,hkind]))
theorem AsC.one(hkind:scope.kind=.function)(hx:scope.names.lookup x=some .local): AsC prog w M scope cl (tgN x px) (Zw t) [(x,t)]:=by
 intro v U O e
 cases e
 refine⟨trivial,λi hi=>?_,λC W s Q E y m vy hn k=>Zd1 hkind hx hn λh' tk' hn' up=>k h' tk' _ hn' up λp hp=>?_⟩
 ·have:i≠t:=λe=>hi (x,t) Zz5 e.symm
  simp[Zi,this]
 ·rw[List.mem_singleton.mp hp]
  exact⟨v,y,by simp[Zi],.s,vy⟩
theorem Zkc{T:Tg}{put:V->Lc->Option Lc}(hg:JS prog w M iter T g)(ha:AsC prog w M scope cl T put ts)(hel:∀C U,J prog w (Zaz M scope cl C ts U) elt f)(hif:∀C U,JF prog w (Zaz M scope cl C ts U) ifs c)
  (hcell:∀y∈scope.names,y.2≠.cell) (hkind:scope.kind=.function)
  {W:Wd}       {RR:Value->Addr->Result->Shared->Prop} (r:Rep M W U H fr s.heap) (hf:((g U H).bind λz=>Zah z.1 put c f U z.2.1 0 [] z.2.2)=some q)
  (hR:ZuQ M W U fr s q RR):
  wpAny (model prog w) M.A (eval iter M.env) (λxv s₁=>wpAny (model prog w) M.A (pyIter xv) (λit s₂=>wpAny (model prog w) M.A (newList []) (λacc s₃=>wpAny (model prog w) M.A (newFunctionEnv scope M.env.globals cl [] M.env.qual none .none (some M.env)) (λcenv s₄=>
   codeAny (model prog w) M.A (.compStart (.ListComp elt [⟨T.e,iter,ifs,0⟩] scope pos) 0 it acc { cenv with scope:=relabel scope M.env }) (RR acc cenv.locals) s₄) E s₃) E s₂) E s₁) E s:=by
 obtain⟨⟨nx,n,H0⟩,e1,e2⟩:=Zz0.mp hf
 refine hg W U H fr s _ E nx n H0 r e1 λW1 k1 t1 itv as It fs l1 i1 r1 ap I1 self=>?_
 refine ZoD (P:=λacc C e s₄=>codeAny (model prog w) M.A (.compStart (.ListComp elt [⟨T.e,iter,ifs,0⟩] scope pos) 0 itv acc e) (RR acc C) s₄) hcell hkind r1 (I1.adr 0 fs i1) λC D oC m h₂ t' z nC rC=>?_
 have loop:codeAny (model prog w) M.A (.compLoop (.ListComp elt [⟨T.e,iter,ifs,0⟩] scope pos) 0 itv (.ref D) (compEnvC scope cl C M.env)) (RR (.ref D) C) { s with heap:=h₂,toks:=t' }:=by
  refine codeAny_loop rfl (Zg8 M W1 U fr C D It nx put c f q s) ?_ n ⟨W1,H0,h₂,_,0,fs,[],[],oC,_,rfl,.refl _,i1,nC,.nil,Nat.zero_le _,rC,e2⟩
  intro k s' q9;obtain⟨W2,H2,k2,t2,j,fs2,acc,ys,oC2,m₂,rfl,l2,i2,hC2,hv2,hl2,r2,e⟩:=q9
  cases k with
  | zero=>cases e
  | succ k=>
   obtain⟨o,e4,e⟩:=Zz0.mp e
   refine wpAny_noted (m:=compTurn (.ListComp elt [⟨T.e,iter,ifs,0⟩] scope pos) 0 itv (.ref D) (compEnvC scope cl C M.env)) ?_
   rw[compTurn_list]
   refine wpAny_bind (wpAny_standAt (wpAny_bind ?_))
   cases o with
   | none=>
    cases e
    exact I1.done j W2 U H2 _ fs2 _ _ _ l2 r2.sh1 (z.ap ap) i2 e4 λh' tk' r3=>wpAny_pure (hR W2 h' tk' C D oC2 m₂ ys (l1.trans l2) hC2 hv2 hl2 z.df z.cf z.cd r3)
   | some v=>
    obtain⟨ρ3,e5,e⟩:=Zz0.mp e
    obtain⟨hG,hj,go⟩:=ha v U ρ3 e5
    refine I1.item j W2 U H2 _ fs2 _ _ _ v l2 r2.sh1 (z.ap ap) i2 e4 hG λy k3 t3 lg=>wpAny_bind (lg _ _ λfs3 k4 i3 r3 y3=>wpAny_bind ?_)
    refine go C W2 { s with heap:=k4,toks:=t3 } _ _ y m₂ y3 (hC2.ns (r3.frAt (q:=(C,oC2)) (Zz3 _ Zz5))) λh4 t4 m4 hn4 up ht=>?_
    obtain⟨oC4,nC4,r4,aC3,aD3⟩:=Zp0 z (I1.adr _ _ i3) r3 hn4 up
    refine wpAny_bind (wpAny_mono (ZpZ (hel C U) (hif C U) ⟨h4,_,rfl⟩ aC3 aD3 l2 i3 nC4 hv2 hl2 r4 ht hj e) (λb s5 h5=>?_) λ_ _ q=>q)
    by_cases hb:b=true
    ·rw[if_pos hb]at h5 ⊢
     exact wpAny_bind (wpAny_bind (wpAny_mono h5 (λy s6 h6=>wpAny_bind (wpAny_mono h6 (λ_ s7 h7=>wpAny_pure (wpAny_pure ⟨rfl,h7⟩)) λ_ _ q=>q)) λ_ _ q=>q))
    ·rw[if_neg hb]at h5 ⊢
     exact wpAny_pure ⟨rfl,h5⟩
 exact codeAny_compStart_list loop (self _ _ _ _ _ rC.sh1 loop)
theorem Zp1{W:Wd}{h'':Heap}(hv:VRs W q.1 ys)(hl:q.1.length<=ZK)(aD:∀t∈fr,D≠t.1)(aC:∀t∈fr,C≠t.1)(cd:C≠D)(r:Rep M W U q.2 ((C,oC)::(D,lst ys)::fr) h')(sb:Heap.SameBut C h' h''):
  ∃W',W.Le W'/\Rep M W' U (q.2++[q.1]) fr h''/\VR W' (.ref q.2.length) (.ref D):=by
 have r4:Rep M W U q.2 ([]++((D,lst ys)::fr)) h'':=by
  refine Rep.swap (fs:=[(C,oC)]) (fs':=[]) r (λq hq t ht=>?_) (λb o hb e=>sb.extBut b o (λz=>hb (by simp[z])) e) λq hq=>nomatch hq
  rw[List.mem_singleton.mp hq]
  rcases Zz7.mp ht with e | ht
  ·rw[e]
   exact cd
  ·exact aC t ht
 exact Zek r4 aD hv hl
theorem ZiN{T:Tg}{put:V->Lc->Option Lc}(hg:JS prog w M iter T g)(ha:AsC prog w M scope cl T put ts)(hel:∀C U,J prog w (Zaz M scope cl C ts U) elt f)(hif:∀C U,JF prog w (Zaz M scope cl C ts U) ifs c)
  (hclos:closureFor scope M.env=pure cl) (hcell:∀y∈scope.names,y.2≠.cell) (hkind:scope.kind=.function) (hnames:∀y∈scope.names,y.2=.local->scope.names.lookup y.1=some .local) (hs:∀x,foldedSetIterable iter M.env x=pure x):
  J prog w M (.ListComp elt [⟨T.e,iter,ifs,0⟩] scope pos) (Z3 g put c f):=by
 intro W U H fr s Q E v H' r hf post
 obtain⟨z,e1,hf⟩:=Zz0.mp hf
 obtain⟨q,e2,e3⟩:=Zz1.mp hf
 cases e3
 rw[eval_ListComp]
 refine wpAny_comprehension_free (use:=Option.none) rfl hs hclos hkind hnames ?_
 refine Zkc (RR:=λacc C=>compPost (model prog w) M.A E Option.none Q acc C) hg ha hel hif hcell hkind r (q:=q) (by rw[e1];exact e2) λW2 h' tk' C D oC m₂ ys l2 hC hv hl aD aC cd r3=>?_
 refine⟨m₂,hC.ns (r3.frAt (q:=(C,oC)) Zz5),λh'' sb=>?_⟩
 obtain⟨W5,l5,r5,v5⟩:=Zp1 hv hl aD aC cd r3 sb
 exact post W5 h'' tk' _ (l2.trans l5) r5 v5
theorem J.comp(hg:JI prog w M iter g)(hel:∀C U,J prog w (Zaz M scope cl C [(x,t)] U) elt f)(hif:∀C U,JF prog w (Zaz M scope cl C [(x,t)] U) ifs c)
  (hclos:closureFor scope M.env=pure cl) (hcell:∀y∈scope.names,y.2≠.cell) (hkind:scope.kind=.function) (hnames:∀y∈scope.names,y.2=.local->scope.names.lookup y.1=some .local) (hx:scope.names.lookup x=some .local) (hs:∀x,foldedSetIterable iter M.env x=pure x:=by intro _;rfl):
  J prog w M (.ListComp elt [⟨.Name x px,iter,ifs,0⟩] scope pos) (Z3 g (Zw t) c f):=ZiN (T:=tgN x px) hg.js (.one hkind hx) hel hif hclos hcell hkind hnames hs
theorem ZoE{y:Str}{py spos:Pos}{i:Nat}(hy:Sto prog w M y i)(hg:JI prog w M iter g)(hel:∀C U,J prog w (Zaz M scope cl C [(x,t)] U) elt f)(hif:∀C U,JF prog w (Zaz M scope cl C [(x,t)] U) ifs c)
  (hsw:swapsWith (.ListComp elt [⟨.Name x px,iter,ifs,0⟩] scope pos) (some (.Name y py)) spos.line M.env=pure true)
  (hclos:closureFor scope M.env=pure cl) (hcell:∀y∈scope.names,y.2≠.cell) (hkind:scope.kind=.function) (hnames:∀y∈scope.names,y.2=.local->scope.names.lookup y.1=some .local) (hx:scope.names.lookup x=some .local) (hs:∀x,foldedSetIterable iter M.env x=pure x:=by intro _;rfl):
  S1 prog w M (.Assign [.Name y py] (.ListComp elt [⟨.Name x px,iter,ifs,0⟩] scope pos) spos) (Zk i (Z3 g (Zw t) c f)):=by
 intro W U H fr s Q E r rp hf post
 obtain⟨p,e0,e9⟩:=Zz1.mp hf
 cases e9
 obtain⟨z,e1,hf⟩:=Zz0.mp e0
 obtain⟨q,e2,e3⟩:=Zz1.mp hf
 cases e3
 rw[exec_Assign_Name_used _ _ _ _ hsw]
 refine wpAny_bind (wpAny_standAt (wpAny_bind ?_))
 show wpAny _ M.A (do let _ <-comprehension (.ListComp elt [⟨.Name x px,iter,ifs,0⟩] scope pos) scope M.env _ (newList []) false (eval iter M.env) (some (assign (.Name y py) M.env))) _ _ s
 refine wpAny_bind (wpAny_mono (wpAny_comprehension_free (use:=some (assign (.Name y py) M.env)) (Q:=λ_ s'=>Q .next s') rfl hs hclos hkind hnames ?_) (λ_ s' h'=>wpAny_pure (wpAny_pure h')) λ_ _ e=>e)
 refine Zkc (T:=tgN x px) (RR:=λacc C=>compPost (model prog w) M.A E (some (assign (.Name y py) M.env)) (λ_ s'=>Q .next s') acc C) hg.js (.one hkind hx) hel hif hcell hkind rp (q:=q) (by rw[e1];exact e2) λW2 h' tk' C D oC m₂ ys l2 hC hv hl aD aC cd r3=>?_
 have r4:=r3.sh3
 obtain⟨W5,l5,r5,v5⟩:=Zek r4 (λt ht=>by
  rcases Zz7.mp ht with e | ht
  ·rw[e]
   exact cd.symm
  ·exact aD t ht) hv hl
 refine wpAny_assign_Name (hy W5 U _ _ _ _ _ _ _ r5 v5 λh6 t6 r6=>?_)
 refine⟨m₂,hC.ns (r6.frAt (q:=(C,oC)) Zz5),λh'' sb=>?_⟩
 have r7:Rep M W5 (Zi U i (.ref q.2.length)) (q.2++[q.1]) ([]++fr) h'':=
  Rep.swap (fs:=[(C,oC)]) (fs':=[]) r6 (λq hq t ht=>by rw[List.mem_singleton.mp hq];exact aC t ht) (λb o hb e=>sb.extBut b o (λz=>hb (by simp[z])) e) λq hq=>nomatch hq
 exact post W5 h'' t6 (l2.trans l5) r7
end PM
end
section
namespace PM
open PySem PySem.W PySem.Calls PyProof.Rows PyProof PyProof.Rows.LCg PyProof.Rows.LCp
variable{z TI TO l1 l2 I:Addr}{i k a b kt t t₂:Nat}{h:Heap}{as:List Addr}{S:Nat->Heap->Prop}{W0:Wd}{nx:Nx}{elts:List Expr}{tp pos px px₂:Pos}{U:Lc}{H:Hp}{fr:List (Addr×Obj)}{s:Shared}{o:Option V}{P:Prop}{x d:Str}{f:Ex}{g:Src}{scope:Scope}{cl:List (Str×Addr)}
variable{prog:Program}{w:World}{M:Cx}
theorem ZnC(h:Heap): ∀as:List Addr,(∀a∈as,∃o,h.get? a=some o)->∃fs:List (Addr×Obj),fs.map (·.1)=as/\∀q∈fs,h.get? q.1=some q.2
 | [],_=>⟨[],rfl,λq hq=>nomatch hq⟩
 | a::as,d=>by
  obtain⟨o,ho⟩:=d a Zz5
  obtain⟨fs,h1,h2⟩:=ZnC h as λb hb=>d b (Zz2 _ hb)
  refine⟨(a,o)::fs,by rw[List.map_cons,h1],λq hq=>?_⟩
  rcases Zz7.mp hq with e | hq
  ·rw[e]
   exact ho
  ·exact h2 q hq
noncomputable def tgT(elts:List Expr)(k:Nat)(tp:Pos): Tg:=⟨.Tuple elts k tp,λv=>∃vs,v=.tup vs,λh W v y=>∃T ys vs,y=.ref T/\IsTup h T ys.toArray/\v=.tup vs/\VRs W vs ys⟩
def JI2(prog:Program)(w:World)(M:Cx)(e:Expr)(g:Src): Prop:=∀(elts:List Expr) (k:Nat) (tp:Pos),JS prog w M e (tgT elts k tp) g
noncomputable def ZbF(a b:Nat): Nx:=λi H=>H[a]?.bind λvs=>H[b]?.bind λus=>match vs[i]?,us[i]? with
 | some x,some y=>some (some (.tup [x,y]))
 | _,_=>if i=min vs.length us.length then some none else none
def Zjz(u v:V)(H:Hp): Option (Nx×Nat×Hp):=match u,v with
 | .ref a,.ref b=>H[a]?.bind λvs=>H[b]?.map λus=>(ZbF a b,min vs.length us.length+1,H)
 | _,_=>none
def Ze5(f g:Ex): Src:=λU H=>(f U H).bind λp=>(g U p.2).bind λq=>Zjz p.1 q.1 q.2
def ZcZ(i j:Nat): V->Lc->Option Lc
 | .tup [a,b],U=>some (Zi (Zi U i a) j b)
 | _,_=>none
def ZS(z TI TO i1 i2 l1 l2:Addr)(i:Nat)(h:Heap): Prop:=IsZip h z TI TO .none/\PySem.IsPair h TI (.ref i1) (.ref i2)/\(∃a b,PySem.IsPair h TO a b)/\h.IsListIter i1 l1 i/\h.IsListIter i2 l2 i
theorem ZS.at{i1 i2:Addr}{h':Heap}(x:ZS z TI TO i1 i2 l1 l2 i h)(e:∀a∈[z,TI,TO,i1,i2],∀o,h.get? a=some o->h'.get? a=some o): ZS z TI TO i1 i2 l1 l2 i h':=by
 obtain⟨h1,h2,⟨a,b,h3⟩,h4,h5⟩:=x
 exact⟨e z .s _ h1,e TI .s _ h2,⟨a,b,e TO .s _ h3⟩,h4.at λo x=>e i1 .s o x,h5.at λo x=>e i2 .s o x⟩
theorem ZS.have{i1 i2:Addr}(x:ZS z TI TO i1 i2 l1 l2 i h): ∀a∈[z,TI,TO,i1,i2],∃o,h.get? a=some o:=by
 obtain⟨h1,h2,⟨a,b,h3⟩,⟨o4,h4,_⟩,⟨o5,h5,_⟩⟩:=x
 intro c hc
 simp only[List.mem_cons,List.not_mem_nil,or_false]at hc
 rcases hc with e | e | e | e | e <;> subst e
 ·exact⟨_,h1⟩
 ·exact⟨_,h2⟩
 ·exact⟨_,h3⟩
 ·exact⟨_,h4⟩
 ·exact⟨_,h5⟩
def SIt(as:List Addr)(S:Nat->Heap->Prop)(i:Nat)(fs:List (Addr×Obj)): Prop:=fs.map (·.1)=as/\∀h:Heap,(∀q∈fs,h.get? q.1=some q.2)->S i h
structure WT(as:List Addr)(S:Nat->Heap->Prop): Prop where
 «at»:∀i h h',S i h->(∀a∈as,∀o,h.get? a=some o->h'.get? a=some o)->S i h'
 «have»:∀i h,S i h->∀a∈as,∃o,h.get? a=some o
theorem WT.mk'(k:WT as S)(x:S i h): ∃fs,SIt as S i fs/\∀q∈fs,h.get? q.1=some q.2:=by
 obtain⟨fs,h1,h2⟩:=ZnC h as (k.have i h x)
 refine⟨fs,⟨h1,λh' e=>k.at i h h' x λa ha o ho=>?_⟩,h2⟩
 rw[<-h1]at ha
 obtain⟨q,hq,eq⟩:=Zz11.mp ha
 have:=h2 q hq
 rw[eq,ho]at this
 cases this
 exact eq▸e q hq
def WV(prog:Program)(w:World)(M:Cx)(W:Wd)(I:Addr)(as:List Addr)(S:Nat->Heap->Prop)(i:Nat)(h:Heap)(o:Option V): Prop:=∃fp wr n P St Mid,WalksT prog w M.A I fp wr n P St Mid/\(∀a∈wr,a∈as)/\St i h/\(∀h,St (i+1) h->S (i+1) h)/\match o with
 | none=>i=n
 | some v=>i<n/\∀vals,P i vals->∃vs,v=.tup vs/\VRs W vs vals.toList
def WOk(prog:Program)(w:World)(M:Cx)(W0:Wd)(I:Addr)(as:List Addr)(S:Nat->Heap->Prop)(nx:Nx): Prop:=∀(i:Nat) (W:Wd) (U:Lc) (H:Hp) (fr:List (Addr×Obj)) (h:Heap) (o:Option V),W0.Le W->Rep M W U H fr h->S i h->nx i H=some o->WV prog w M W I as S i h o
theorem WT.pull(hk:WT as S)(hw:WOk prog w M W0 I as S nx): Pull prog w M (tgT elts k tp) W0 (.ref I) as (SIt as S) nx:=by
 refine⟨λi fs h=>h.1,?_,?_⟩
 ·intro i W U H fr fs s Q E le r ap hit hn post
  obtain⟨fp,wr,n,P,St,Mid,Wk,sub,st,_,e⟩:=hw i W U H _ s.heap _ le r (hit.2 _ λq hq=>r.frAt (Zz4 _ hq)) hn
  have e:i=n:=e
  refine Wk.done s Q E (e▸st) λh' tk keep=>post h' tk ?_
  exact r.swap (fs':=[]) (λq hq t ht=>ap _ (hit.1▸List.mem_map_of_mem hq) t ht) (λc o hc e=>keep c o (λh=>hc (by rw[hit.1];exact sub c h)) e) (λq hq=>nomatch hq)
 ·intro i W U H fr fs s Q E v le r ap hit hn _ post
  obtain⟨fp,wr,n,P,St,Mid,Wk,sub,st,st',hi,hp⟩:=hw i W U H _ s.heap _ le r (hit.2 _ λq hq=>r.frAt (Zz4 _ hq)) hn
  refine Wk.item i s Q E hi st λT vals h1 t1 pv hT hTup hmid keep1=>post (.ref T) h1 t1 λQ1 E1 q1=>?_
  refine Wk.go elts k tp i T { s with heap:=h1,toks:=t1 } Q1 E1 hmid λh2 st2 keep2=>?_
  obtain⟨fs',hit',at'⟩:=hk.mk' (st' _ st2)
  obtain⟨vs,ev,hv⟩:=hp vals pv
  obtain⟨oT,gT,cT,nT,dT⟩:=hTup
  refine q1 fs' h2 hit' ?_ ⟨T,vals.toList,vs,rfl,⟨oT,keep2 T oT (Wk.apart i T _ hmid) gT,cT,nT,dT⟩,ev,hv⟩
  refine r.swap (fs':=fs') (λq hq t ht=>ap _ (hit.1▸List.mem_map_of_mem hq) t ht) (λc o hc e=>?_) λq hq=>⟨at' q hq,?_⟩
  ·rw[hit.1]at hc
   exact keep2 c o (λh=>hc (sub c h)) (keep1 c o (λh=>hc (sub c h)) e)
  ·rw[hit.1,<-hit'.1]
   exact List.mem_map_of_mem hq
theorem WT.go{W:Wd}{k1 h₁:Heap}{t1:Nat}{Q E:Value->Shared->Prop}(hk:WT as S)(hw:WOk prog w M W I as S nx)(r1:Rep M W U H fr k1)(up:∀b o,k1.get? b=some o->h₁.get? b=some o)(new:∀a∈as,k1.objs.size<=a)(s0:S 0 h₁)(h0:nx 0 H=some o)
  (post:∀(fs:List (Addr×Obj)),SIt as S 0 fs->Rep M W U H (fs++fr) h₁->(∀a∈as,∀t∈fr,a≠t.1)->Pull prog w M (tgT elts k tp) W (.ref I) as (SIt as S) nx->(∀(U:Lc) (fr:List (Addr×Obj)) (s:Shared) (Q E:Value->Shared->Prop),Rep M W U H (fs++fr) s.heap->Q (.ref I) s->wpAny (model prog w) M.A (pyIter (.ref I)) Q E s)->Q (.ref I) { s with heap:=h₁,toks:=t1 }):
  wpAny (model prog w) M.A (pyIter (.ref I)) Q E { s with heap:=h₁,toks:=t1 }:=by
 have self:∀(U:Lc) (fr:List (Addr×Obj)) (s:Shared) (Q E:Value->Shared->Prop),Rep M W U H fr s.heap->S 0 s.heap->Q (.ref I) s->wpAny (model prog w) M.A (pyIter (.ref I)) Q E s:=λU fr s Q E r z q=>by
  obtain⟨fp,wr,n,P,St,Mid,Wk,_,st,_⟩:=hw 0 W U H fr s.heap o (.refl _) r z h0
  exact Wk.self 0 s Q E st q
 refine self U fr _ _ _ (r1.grown up) s0 ?_
 obtain⟨fs,hit,at'⟩:=hk.mk' s0
 obtain⟨r3,ap3⟩:=r1.more (fs:=fs) (h':=h₁) up (λq hq=>⟨at' q hq,new _ (hit.1▸List.mem_map_of_mem hq)⟩)
 refine post fs hit r3 (λb hb t ht=>?_) (hk.pull hw) λU fr s Q E r q=>self U _ s Q E r (hit.2 _ λq hq=>r.frAt (Zz4 _ hq)) q
 rw[<-hit.1]at hb
 obtain⟨q,hq,e⟩:=Zz11.mp hb
 exact e▸ap3 q hq t ht
theorem Zq5(h:ZbF a b i H=some o) (hp:∀vs us,H[a]?=some vs->H[b]?=some us->(match o with
  | none=>i=min vs.length us.length
  | some v=>∃x y,vs[i]?=some x/\us[i]?=some y/\v=.tup [x,y])->P):P:=by
 obtain⟨vs,e1,h⟩:=Zz0.mp h
 obtain⟨us,e2,h⟩:=Zz0.mp h
 refine hp vs us e1 e2 ?_
 split at h
 ·rename_i x y h1 h2
  cases h
  exact⟨_,_,h1,h2,rfl⟩
 ·obtain⟨hi,e⟩:=ZbD h
  cases e
  exact hi
theorem zipW{i1 i2:Addr}: WT [z,TI,TO,i1,i2] (ZS z TI TO i1 i2 l1 l2):=⟨λi h h' x e=>x.at e,λi h x=>x.have⟩
theorem Zt7{i1 i2:Addr}(ea:W0.At a l1)(eb:W0.At b l2)(D:ZipApart z TI TO i1 i2 l1 l2): WOk prog w M W0 z [z,TI,TO,i1,i2] (ZS z TI TO i1 i2 l1 l2) (ZbF a b):=by
 intro i W U H fr h o le r st hn
 refine Zq5 hn λvs us e1 e2 ho=>?_
 obtain⟨_,xs,k1,g1,v1⟩:=r.at e1 (le.at ea)
 obtain⟨_,ys,k2,g2,v2⟩:=r.at e2 (le.at eb)
 refine⟨_,_,_,_,_,_,WalksT.zip2 M.hh z TI TO i1 i2 l1 l2 D xs.toArray ys.toArray,λa ha=>by simp at ha ⊢;rcases ha with h | h | h | h <;> simp[h],⟨st.1,st.2.1,st.2.2.1,st.2.2.2.1,st.2.2.2.2,⟨_,g1,rfl,k1,rfl⟩,⟨_,g2,rfl,k2,rfl⟩⟩,λh x=>⟨x.1,x.2.1,x.2.2.1,x.2.2.2.1,x.2.2.2.2.1⟩,?_⟩
 cases o with
 | none=>simpa [v1.length,v2.length]using ho
 | some v=>
  obtain⟨x,y,h1,h2,rfl⟩:=ho
  obtain⟨x',hx,rx⟩:=v1.at h1
  obtain⟨y',hy,ry⟩:=v2.at h2
  refine⟨Nat.lt_min.mpr ⟨by simpa using (Zz6.mp hx).1,by simpa using (Zz6.mp hy).1⟩,λvals hp=>⟨_,rfl,?_⟩⟩
  obtain⟨p,q,hp,hq,rfl⟩:=hp
  have ex:x'=p:=Option.some.inj (hx.symm.trans (by simpa using hp))
  have ey:y'=q:=Option.some.inj (hy.symm.trans (by simpa using hq))
  exact .cons (ex▸rx) (.cons (ey▸ry) .nil)
theorem Zpa{vs us:List V}(c1:H[a]?=some vs)(c2:H[b]?=some us): ∃o,ZbF a b 0 H=some o:=by
 simp only[ZbF,c1,c2,Ys0]
 cases vs with
 | nil=>exact⟨none,.s⟩
 | cons x vs=>
  cases us with
  | nil=>exact⟨none,.s⟩
  | cons y us=>exact⟨_,rfl⟩
theorem ZsG{u1 u2:V}{H':Hp}{n:Nat}(h:Zjz u1 u2 H=some (nx,n,H'))(hp:∀a b vs us,u1=.ref a->u2=.ref b->H[a]?=some vs->H[b]?=some us->ZbF a b=nx->min vs.length us.length+1=n->H=H'->P): P:=by
 cases u1 <;> first | exact nope h | skip
 cases u2 <;> first | exact nope h | skip
 obtain⟨vs,c1,h⟩:=Zz0.mp h
 obtain⟨us,c2,c3⟩:=Zz1.mp h
 have e:=Prod.mk.inj c3
 have f:=Prod.mk.inj e.2
 exact hp _ _ vs us rfl rfl c1 c2 e.1 f.1 f.2
theorem JI2.zip{np:Pos}{e1 e2:Expr}{g:Ex}(hn:Nm prog w M x (.type "zip"))(h1:J prog w M e1 f)(h2:J prog w M e2 g)
  (he:starEach [e1,e2] M.env=(false,eval e1 M.env)::starEach [e2] M.env:=by rfl) (he2:starEach [e2] M.env=(false,eval e2 M.env)::starEach [] M.env:=by rfl) (hp:∀pos,(backTo pos (starEach [e2] M.env)).any (·.1)=false:=by intro _;rfl):JI2 prog w M (.Call (.Name x np) [e1,e2] [] pos) (Ze5 f g):=by
 intro elts k tp W U H fr s Q E nx n H' r hf post
 obtain⟨⟨u1,H1⟩,a1,hf⟩:=Zz0.mp hf
 obtain⟨⟨u2,H2⟩,a2,hf⟩:=Zz0.mp hf
 refine wpAny_Call_ofName (hn.use r ?_)
 refine PySem.Pv.callWith_type1 (wpAny_items_cons (h1 W U H fr s _ E _ _ r a1 λW1 k1 t1 y1 l1 r1 v1=>?_) he) he (hp pos)
 refine wpAny_items_cons (h2 W1 U _ fr _ _ E _ _ r1 a2 λW2 k2 t2 y2 l2 r2 v2=>wpAny_items_nil ?_) he2
 have v1':=v1.mono l2
 refine ZsG hf λb1 b2 vs us q1 q2 c1 c2 q3 q4 q5=>?_
 subst q1 q2 q3 q4 q5
 obtain⟨m1,rfl,ea⟩:=v1'.iref
 obtain⟨m2,rfl,eb⟩:=v2.iref
 obtain⟨_,xs,n1,g1,w1⟩:=r2.at c1 ea
 obtain⟨_,ys,n2,g2,w2⟩:=r2.at c2 eb
 refine call_zip_2 (s:={ s with heap:=k2,toks:=t2 }) ⟨_,g1,rfl,n1,rfl⟩ ⟨_,g2,rfl,n2,rfl⟩ λh₁ hz hTI hTO hi1 hi2 hsz up=>?_
 obtain⟨o,h0⟩:=Zpa c1 c2
 refine zipW.go (Zt7 ea eb (zipApart_new (n:=k2.objs.size) (Heap.lt_size g1) (Heap.lt_size g2))) r2 up (λa ha=>?_) ⟨hz,hTI,⟨_,_,hTO⟩,hi1,hi2⟩ h0 λfs hit r3 ap P self=>post W2 h₁ t2 _ _ _ fs (l1.trans l2) hit r3 ap P self
 simp only[List.mem_cons,List.not_mem_nil,or_false]at ha
 show k2.objs.size<=a
 rcases ha with h | h | h | h | h <;> rw[h] <;> show k2.objs.size<=_ <;> simp
theorem ZkD{j:Nat}{v:V}{O:Lc}(h:ZcZ i j v U=some O)(hp:∀a b,v=.tup [a,b]->Zi (Zi U i a) j b=O->P): P:=by
 cases v <;> first | exact nope h | skip
 rename_i vs
 cases vs with
 | nil=>cases h
 | cons a vs=>
 cases vs with
 | nil=>cases h
 | cons b vs=>
 cases vs with
 | nil=>exact hp a b rfl (Option.some.inj h)
 | cons c vs=>cases h
theorem Zq6{x1 x2:Str}{i1 i2:Nat}{p1 p2:Pos}{it:Expr}{body:List Stmt}{b:Sm}(h1:Sto prog w M x1 i1)(h2:Sto prog w M x2 i2)(hg:JI2 prog w M it g)(hb:Ss prog w M body b)(hs:∀x,foldedSetIterable it M.env x=pure x:=by intro _;rfl):
  S1 prog w M (.For (.Tuple [.Name x1 p1,.Name x2 p2] kt tp) it body [] pos) (Zac g (ZcZ i1 i2) b):=by
 refine Zly (T:=tgT [.Name x1 p1,.Name x2 p2] kt tp) (hg _ _ _) (λv U O e=>ZkD e λa b hv z=>⟨⟨_,hv⟩,λW H fr s Q E y r vy post=>?_⟩) hb hs
 obtain⟨T,ys,vs,rfl,ht,rfl,hs⟩:=vy
 cases hv
 obtain⟨y1,y2,rfl,v1,v2⟩:=hs.two
 subst z
 refine assign_Tuple_tuple M.hh ht rfl rfl λg₄ he=>?_
 have r4:=r.grown (h':=g₄) λb o e=>he b o (Nat.ne_of_lt (Heap.lt_size e)) e
 refine assignInOrder_cons (wpAny_assign_Name (h1 W U H fr _ _ _ a y1 r4 v1 λk5 t5 r5=>?_))
 refine assignInOrder_cons (wpAny_assign_Name (h2 W _ H fr _ _ _ b y2 r5 v2 λk6 t6 r6=>?_))
 exact assignInOrder_nil (post k6 t6 r6)
theorem AsC.two(hkind:scope.kind=.function)(hx:scope.names.lookup x=some .local)(hx₂:scope.names.lookup d=some .local)(hxx:x≠d)(htt:t≠t₂): AsC prog w M scope cl (tgT [.Name x px,.Name d px₂] kt tp) (ZcZ t t₂) [(x,t),(d,t₂)]:=by
 refine λv U O e=>ZkD e λa b hv z=>⟨⟨_,hv⟩,λi hi=>?_,λC W s Q E y m vy hn k=>?_⟩
 ·have h1:i≠t:=λe=>hi (x,t) Zz5 e.symm
  have h2:i≠t₂:=λe=>hi (d,t₂) (Zz2 _ Zz5) e.symm
  rw[<-z]
  simp[Zi,h1,h2]
 ·obtain⟨T,ys,vs,rfl,ht,rfl,hs⟩:=vy
  cases hv
  obtain⟨y1,y2,rfl,v1,v2⟩:=hs.two
  subst z
  refine assign_Tuple_tuple M.hh ht rfl rfl λg₄ he=>?_
  have hup:∀b o,s.heap.get? b=some o->g₄.get? b=some o:=λb o e=>he b o (Nat.ne_of_lt (Heap.lt_size e)) e
  refine assignInOrder_cons (Zd1 hkind hx (hn.keeps hup) λh5 t5 hn5 u5=>assignInOrder_cons (Zd1 hkind hx₂ hn5 λh6 t6 hn6 u6=>assignInOrder_nil (k h6 t6 _ hn6 (λb o hb e=>u6 b o hb (u5 b o hb (hup b o e))) λp hp=>?_)))
  rcases Zz7.mp hp with e | hp
  ·rw[e]
   exact⟨a,y1,by simp[Zi,htt],by simp[hxx],v1⟩
  ·rw[List.mem_singleton.mp hp]
   exact⟨b,y2,by simp[Zi],.s,v2⟩
theorem Zq7{elt iter:Expr}(hg:JI2 prog w M iter g)(hel:∀C U,J prog w (Zaz M scope cl C [(x,t),(d,t₂)] U) elt f)
  (hclos:closureFor scope M.env=pure cl) (hcell:∀y∈scope.names,y.2≠.cell) (hkind:scope.kind=.function) (hnames:∀y∈scope.names,y.2=.local->scope.names.lookup y.1=some .local) (hx:scope.names.lookup x=some .local) (hx₂:scope.names.lookup d=some .local) (hxx:x≠d) (htt:t≠t₂) (hs:∀x,foldedSetIterable iter M.env x=pure x:=by intro _;rfl):
  J prog w M (.ListComp elt [⟨.Tuple [.Name x px,.Name d px₂] kt tp,iter,[],0⟩] scope pos) (Z3 g (ZcZ t t₂) ZJ f):=
 ZiN (T:=tgT [.Name x px,.Name d px₂] kt tp) (hg _ _ _) (.two hkind hx hx₂ hxx htt) hel (λ_ _=>.nil) hclos hcell hkind hnames hs
end PM
end
section
namespace PM
open PySem PySem.W PySem.Calls PyProof.Rows PyProof PySem.Spec
variable{prog p:Program}{w:World}{s:Shared}{h₀:Heap}{m:Str->Option Value}{lent cells:List (Addr×Obj)}{loose names:List Str}{outer:List Env}{name qual:Str}{scope:Scope}{an:Option Addr}{f:Addr}{binds:List (Str×Value)}{g:Sm}{M:Cx}{dp:Nat}{es:List Expr}{o: .y}{cl:List (Str×Addr)}{ts:List (Str×Nat)}{P:Params}{ns:List Int}{cd:Value}{Q:Flow->Shared->Prop}{E:Value->Shared->Prop}
theorem ZsH{A A₀:Around}{base:Heap}{L:Addr}{K:Frag}{mean:ExcName->Option Value}{mg mb:Str->Option Value}
  {env:Env}  {R:Result->Shared->Prop}  {params:Arguments} {body:List Stmt}  {dV kV doc pm cdv ct oc:Value} {od:Option Addr} {osl:Array (Option Value)}  {args:Args} 
  (B:Below A₀ base outer h₀) (F:Fr h₀ L s.heap m) (X₀:K.In h₀) (N:News h₀ L s.heap lent) (T:Top p loose mean mg mb h₀) (hA:A.frames=some (env::outer)) (hf:env.frame=some L) (hke:env.scope.kind=.function)
  (ho:K.lookup f=some ⟨oc,od,.func (fnOf name qual params body scope dV kV doc pm an cdv ct),osl⟩) (hcd:codeIn K cdv qual=true) (hroom:A.depth<recursionLimit)
  (hbind:BindsTo s (fnOf name qual params body scope dV kV doc pm an cdv ct) args binds) (hall:(binds.all λy=>scope.names.lookup y.1 == some .local || scope.names.lookup y.1 == some .cell)=true) (hone:((cellsFrom 0 scope.names []).map (·.1)).Nodup)
  (h:∀g L' h₁ tk cells,(∀b o,s.heap.get? b=some o->b∉lent.map (·.1)->g.get? b=some o)->Fr g L' h₁ (bindL (envOfC qual scope L' f cdv).kindOf binds λ_=>none)->News g L' h₁ (cells++lent)->CellsAre (bindC (envOfC qual scope L' f cdv).kindOf binds λ_=>none) (cellsFrom (L'+1) scope.names []) cells ->
   (cellsFrom (L'+1) scope.names []).Pairwise (λx y=>x.2≠y.2)->(∀n c,(n,c)∈cellsFrom (L'+1) scope.names []->L'<c)->Below A base (env::outer) g->K.In g->Top p loose mean mg mb g->(∀q∈lent,q.1<L')->s.heap.objs.size<=L' ->
   wpAny (model prog w) (A.deeper (envOfC qual scope L' f cdv)) (execs body (envOfC qual scope L' f cdv)) (λfl s'=>LeaveK h₀ L m g R (match fl with | .ret v=>v | _=>.none) s')
    (λe s'=>wpAny (model prog w) (A.deeper (envOfC qual scope L' f cdv)) (leaving (envOfC qual scope L' f cdv) e) (λ_ s''=>R (.error e) s'') (λe' s''=>R (.error e') s'') s') { s with heap:=h₁,toks:=tk })
  (hco:scope.isCoroutine=false) (hgen:scope.isGenerator=false) (hk:scope.kind=.function):codeAny (model prog w) A (.call (.ref f) args) R s:=by
 obtain⟨FG,BG,st,lv⟩:=groundX (R:=R) B F N hA hf hke
 have X:=X₀.keeps F.keep
 refine codeAny_call_function (fd:=fnOf name qual params body scope dV kV doc pm an cdv ct) hroom (X _ _ ho) rfl hco hgen rfl (codeRec_of X hcd) (hbind _ _ _ _ ?_)
 refine wpAny_newFunctionEnv_cells hk (kindsX hall _) λfresh hfr s' inC=>?_
 subst hfr
 have up:=inC.toInCall.keep
 refine⟨(T.nolimit.keeps F.keep).keeps up,codeAny_func ?_⟩
 obtain⟨h₁,tk,hs',_⟩:=inC.done
 subst hs'
 have nod:=cellsFrom_names scope.names 0 (s.heap.objs.size+1) [] [] rfl▸hone
 obtain⟨cells,NC,Y⟩:=Cl.news (h₀:=s.heap) (L:=s.heap.objs.size) (Zz10 _) λn c hm=>⟨inC.cell n c (lookup_of_mem_nodup nod hm),inC.above n c hm⟩
 have old:∀q∈lent,q.1<s.heap.objs.size:=λq hq=>Heap.lt_size (N q hq).1
 refine wpAny_mono (h _ s.heap.objs.size h₁ tk cells (λb o e nb=>hideAll_get _ e nb) ⟨inC.toInCall.ns,λb o e=>up b o (of_hideAll _ e),Nat.le_of_eq (hideAll_size _ _)⟩ (λq hq=>?_) Y inC.apart inC.above BG (X₀.keeps st) (T.keeps st) old (Zz10 _)) (λfl s' hl=>lv _ _ hl) λ_ _ y=>y
 rcases Zz8.mp hq with hq | hq
 ·obtain⟨c1,c2,c3⟩:=NC q hq
  refine⟨c1,c2,?_⟩
  cases e:(hideAll s.heap (lent.map (·.1))).get? q.1 with
  | none=>rfl
  | some o=>
   have z:=of_hideAll _ e
   rw[c3]at z
   cases z
 ·exact⟨up _ _ (N q hq).1,Nat.ne_of_lt (old q hq),hideAll_none _ (List.mem_map_of_mem hq)⟩
section
variable (prog:Program) (w:World) (K:Frag) (p:Program) (loose:List Str) (mean:ExcName->Option Value) (mg mb:Str->Option Value)
def Clr(M:Cx)(dp un:Nat): Prop:=∃(gd:Option (List Code)) (cn:Str) (cs:Scope) (a:Addr) (ccd:Value) (cl:List (Str×Addr)) (outer:List Env) (A₀:Around) (base:Heap),
 M.A=ktrTop dp un gd cn cs M.L a ccd cl outer/\Below A₀ base outer M.h₀/\K.In M.h₀/\Top p loose mean mg mb M.h₀/\cs.kind=.function
def Def(f:Addr)(room:Nat)(F: .y): Prop:=∀(M:Cx) (dp un:Nat),Clr K p loose mean mg mb M dp un->dp+room<recursionLimit->un+10*room+300<cLine ->
 ∀(W:Wd) (U:Lc) (H:Hp) (fr:List (Addr×Obj)) (s:Shared) (Q E:Value->Shared->Prop) (as:List V) (xs:List Value) (v:V) (H':Hp),
  Rep M W U H fr s.heap->VRs W as xs->F as H=some (v,H')->ZcE M W U H' fr s Q v->codeAny (model prog w) M.A (.call (.ref f) ⟨xs,[]⟩) (λr s'=>match r with | .ok (.ret v)=>Q v s' | .ok _=>False | .error e=>E e s') s
end
noncomputable def Zs(n:Nat)(g:Sm): .y:=λas H=>if as.length=n then(g (λi=>as[i]?) H).map λr=>((r.1.getD .none),r.2.2)else none
theorem Zpb{kindOf:Str->Option NameKind}: ∀{ps:List Str} {xs:List Value} {m:Str->Option Value} {x:Str} {i:Nat} {y:Value},ps.Nodup->ps[i]?=some x->xs[i]?=some y->kindOf x=some .local->bindL kindOf (ps.zip xs) m x=some y:=by
 have skip:∀{ps:List Str} {xs:List Value} {m:Str->Option Value} {x:Str},x∉ps->bindL kindOf (ps.zip xs) m x=m x:=by
  intro ps
  induction ps with
  | nil=>intro xs m x _;rfl
  | cons p ps ih=>
   intro xs m x hx
   cases xs with
   | nil=>rfl
   | cons z xs=>
    simp only[List.zip_cons_cons,bindL]
    rw[ih (λh=>hx (Zz2 _ h))]
    have:x≠p:=λe=>hx (e▸List.mem_cons_self)
    split <;> simp[this]
 intro ps
 induction ps with
 | nil=>intro xs m x i y _ h;simp at h
 | cons p ps ih=>
  intro xs m x i y nd hp hx hk
  cases xs with
  | nil=>simp at hx
  | cons z xs=>
   obtain⟨n1,n2⟩:=List.nodup_cons.mp nd
   cases i with
   | zero=>
    simp at hp hx
    subst hp hx
    simp only[List.zip_cons_cons,bindL]
    rw[skip n1,if_pos hk]
    simp
   | succ i=>
    simp at hp hx
    simp only[List.zip_cons_cons,bindL]
    exact ih n2 hp hx hk
theorem Zpc{kindOf:Str->Option NameKind}: ∀{ps:List Str} {xs:List Value} {m:Str->Option Value} {x:Str} {i:Nat} {y:Value},ps.Nodup->ps[i]?=some x->xs[i]?=some y->kindOf x=some .cell->bindC kindOf (ps.zip xs) m x=some y:=by
 have skip:∀{ps:List Str} {xs:List Value} {m:Str->Option Value} {x:Str},x∉ps->bindC kindOf (ps.zip xs) m x=m x:=by
  intro ps
  induction ps with
  | nil=>intro xs m x _;rfl
  | cons p ps ih=>
   intro xs m x hx
   cases xs with
   | nil=>rfl
   | cons z xs=>
    simp only[List.zip_cons_cons,bindC]
    rw[ih (λh=>hx (Zz2 _ h))]
    have:x≠p:=λe=>hx (e▸List.mem_cons_self)
    split <;> simp[this]
 intro ps
 induction ps with
 | nil=>intro xs m x i y _ h;simp at h
 | cons p ps ih=>
  intro xs m x i y nd hp hx hk
  cases xs with
  | nil=>simp at hx
  | cons z xs=>
   obtain⟨n1,n2⟩:=List.nodup_cons.mp nd
   cases i with
   | zero=>
    simp at hp hx
    subst hp hx
    simp only[List.zip_cons_cons,bindC]
    rw[skip n1,if_neg (by rw[hk];simp)]
    simp
   | succ i=>
    simp at hp hx
    simp only[List.zip_cons_cons,bindC]
    exact ih n2 hp hx hk
theorem Zes{cm:Str->Option Value}: ∀{cs:List (Str×Addr)} {cells:List (Addr×Obj)} {x:Str} {c:Addr},CellsAre cm cs cells->(x,c)∈cs->∃o,(c,o)∈cells/\o.data=.cell (cm x)
 | _,_,_,_,.nil,h=>nomatch h
 | _,_,_,_,.cons hd r,h=>by
  rcases Zz7.mp h with e | h
  ·cases e
   exact⟨_,List.mem_cons_self,hd⟩
  ·obtain⟨o,h1,h2⟩:=Zes r h
   exact⟨o,Yy3 _ h1,h2⟩
theorem Zlz{cm:Str->Option Value}: ∀{cs:List (Str×Addr)} {cells:List (Addr×Obj)} {q:Addr×Obj},CellsAre cm cs cells->q∈cells->∃x,(x,q.1)∈cs
 | _,_,_,.nil,h=>nomatch h
 | _,_,_,.cons hd r,h=>by
  rcases Zz7.mp h with e | h
  ·cases e
   exact⟨_,List.mem_cons_self⟩
  ·obtain⟨x,h1⟩:=Zlz r h
   exact⟨x,Yy3 _ h1⟩
theorem ZcK{d c:Type}[BEq d][LawfulBEq d]: ∀{l:List (d×c)} {x:d} {y:c},l.lookup x=some y->(x,y)∈l
 | [],_,_,h=>by simp at h
 | (a,b)::r,x,y,h=>by
  rw[List.lookup_cons]at h
  split at h
  ·rename_i e
   cases h
   have:=eq_of_beq e
   subst this
   exact Zz5
  ·exact Zz2 _ (ZcK h)
section
variable {prog:Program} {w:World} {K:Frag} {p:Program} {loose:List Str} {mean:ExcName->Option Value} {mg mb:Str->Option Value}
theorem Def.of{params:Arguments}{body:List Stmt}{dV kV doc pm cdv ct oc:Value}{od:Option Addr}{osl:Array (Option Value)}{n room:Nat}
  (ho:K.lookup f=some ⟨oc,od,.func (fnOf name qual params body scope dV kV doc pm an cdv ct),osl⟩) (hcd:codeIn K cdv qual=true) (nd:names.Nodup) (hn:n<=names.length)
  (hbind:∀s xs,xs.length=n->BindsTo s (fnOf name qual params body scope dV kV doc pm an cdv ct) ⟨xs,[]⟩ ((names.take n).zip xs)) (hkinds:∀x∈names.take n,scope.names.lookup x=some .local∨scope.names.lookup x=some .cell) (hone:((cellsFrom 0 scope.names []).map (·.1)).Nodup)
  (hco:scope.isCoroutine=false) (hgen:scope.isGenerator=false) (hk:scope.kind=.function)
  (hbody:∀(dp un:Nat) (gd:Option (List Code)) (L:Addr) (outer:List Env) (h₀:Heap) (hu:un+200<cLine),Clr K p loose mean mg mb (ZaY dp un gd qual scope L f cdv (cellsFrom (L+1) scope.names []) outer h₀ hu names) dp un->dp+room<recursionLimit->un+10*room+300<cLine ->
   Ss prog w (ZaY dp un gd qual scope L f cdv (cellsFrom (L+1) scope.names []) outer h₀ hu names) body g):
  Def prog w K p loose mean mg mb f (room+1) (Zs n g):=by
 intro M dp un clr hd hu W U H fr s Q E as xs v H' r hx hF post
 obtain⟨gd,cn,cs,a,ccd,cl,outer,A₀,base,eA,B,X,T,hke⟩:=clr
 unfold Zs at hF
 split at hF
 ·rename_i hlen
  obtain⟨res,e1,e2⟩:=Zz1.mp hF
  obtain⟨o,O,K'⟩:=res
  cases e2
  obtain⟨m,c,led,r⟩:=r
  have hxl:xs.length=n:=by rw[hx.length,hlen]
  have inn:∀q∈led,(q.1∈W.pi∨q.1∈W.tups.map (·.1))↔q∈led.filter (λq=>decide (q.1∈W.pi∨q.1∈W.tups.map (·.1))):=λq hq=>⟨λh=>Yy9.mpr ⟨hq,by simpa using h⟩,λh=>by simpa using (List.mem_filter.mp h).2⟩
  have isub:∀q∈led.filter (λq=>decide (q.1∈W.pi∨q.1∈W.tups.map (·.1))),q∈led:=λq hq=>(List.mem_filter.mp hq).1
  generalize hlent:led.filter (λq=>decide (q.1∈W.pi∨q.1∈W.tups.map (·.1)))=lent at inn isub
  have notin:∀q∈led,q.1∉W.pi->(∀t∈W.tups,q.1≠t.1)->q.1∉lent.map (·.1):=λq hq h1 h2 h3=>by
   obtain⟨t,ht,e⟩:=Zz11.mp h3
   rcases(inn t (isub t ht)).mpr ht with z | z
   ·exact h1 (e▸z)
   ·obtain⟨u,hu,e'⟩:=Zz11.mp z
    exact h2 u hu (e▸e'.symm)
  rw[eA]
  refine ZsH (env:=envX cn cs M.L a ccd cl) (lent:=lent) B r.F X (λq hq=>r.N q (isub q hq)) T rfl rfl hke ho hcd (by show dp<recursionLimit;lia) (hbind s xs hxl) ?_ hone ?_ hco hgen hk
  ·refine List.all_eq_true.mpr λy hy=>?_
   rcases hkinds y.1 (List.of_mem_zip hy).1 with h | h <;> simp[h]
  intro g0 L' h₁ tk cells stay F' N' Y ap ab B' X' T' old szL
  have hu':(un+3)+200<cLine:=by lia
  have clr':Clr K p loose mean mg mb (ZaY (dp+1) (un+3) gd qual scope L' f cdv (cellsFrom (L'+1) scope.names []) (envX cn cs M.L a ccd cl::outer) g0 hu' names) (dp+1) (un+3):=
   ⟨gd,qual,scope,f,cdv,cellsFrom (L'+1) scope.names [],envX cn cs M.L a ccd cl::outer,_,base,rfl,B',X',T',hk⟩
  have below:∀q∈cells,L'<q.1:=λq hq=>by
   obtain⟨x,hx⟩:=Zlz Y hq
   exact ab x _ hx
  have piLt:∀b∈W.pi,b<L':=λb hb=>by
   obtain⟨o,ho⟩:=r.piIn b hb
   exact Nat.lt_of_lt_of_le (Heap.lt_size (r.get ho)) szL
  have tuLt:∀t∈W.tups,t.1<L':=λt ht=>Nat.lt_of_lt_of_le (Heap.lt_size (r.get (r.R.tups t ht))) szL
  have scN:W.sc.1∉lent.map (·.1):=λz=>by
   obtain⟨t,ht,e⟩:=Zz11.mp z
   exact r.notSc t (isub t ht) e
  have tkn:∀{i:Nat} {x:Str} {u:V},names[i]?=some x->as[i]?=some u->(names.take n)[i]?=some x/\∃y,xs[i]?=some y/\VR W u y:=λ{i x u} h1 h2=>by
   have hi:i<n:=by rw[<-hlen];exact(Zz6.mp h2).1
   exact⟨by rw[List.getElem?_take_of_lt hi];exact h1,hx.at h2⟩
  have ndt:(names.take n).Nodup:=nd.sublist (List.take_sublist _ _)
  have rep:Rep (ZaY (dp+1) (un+3) gd qual scope L' f cdv (cellsFrom (L'+1) scope.names []) (envX cn cs M.L a ccd cl::outer) g0 hu' names) W (λi=>as[i]?) H [] h₁:=by
   refine⟨_,cells,cells++lent,⟨F',N',⟨r.R.len,r.R.nd,λi vs e ni=>?_,λq hq=>?_,r.R.kind,λi vs fs e hi=>?_,r.R.inlt,r.R.iuni⟩,stay _ _ (r.F.keep _ _ r.sc) scN,r.sc0,λq hq=>(nomatch hq),λq hq=>(nomatch hq),λq hq=>Yy7 _ hq,λq hq z=>?_,λq _ t ht=>(nomatch ht),λq hq=>(nomatch hq),λq hq t ht=>?_,⟨λi x u hi hk1 hu1=>?_,λi x u hi hk1 hu1=>?_,λx c1 hc=>?_,λx y c1 h1 h2=>?_⟩⟩⟩
   ·obtain⟨l,b,ys,k,h1,h2,h3⟩:=r.R.lists i vs e ni
    exact⟨l,b,ys,k,h1,Zbw h2 λz=>List.mem_append_right _ ((inn _ z).mp (.inl (Yy4 h1))),h3⟩
   ·exact Zbw (r.R.tups q hq) λz=>List.mem_append_right _ ((inn _ z).mp (.inr (List.mem_map_of_mem hq)))
   ·obtain⟨l,b,od,ys,h1,h2,h3⟩:=r.R.objs i vs fs e hi
    exact⟨l,b,od,ys,h1,Zbw h2 λz=>List.mem_append_right _ ((inn _ z).mp (.inl (Yy4 h1))),h3⟩
   ·exact absurd (Nat.lt_trans (piLt _ z) (below q hq)) (Nat.lt_irrefl _)
   ·exact Nat.ne_of_gt (Nat.lt_trans (tuLt t ht) (below q hq))
   ·obtain⟨h1,y,h2,h3⟩:=tkn hi hu1
    exact⟨y,Zpb ndt h1 h2 hk1,h3⟩
   ·obtain⟨h1,y,h2,h3⟩:=tkn hi hu1
    have hs:=cellsFrom_some scope.names (L'+1) [] (.inl hk1)
    obtain⟨c1,hc1⟩:=Option.isSome_iff_exists.mp hs
    obtain⟨o1,ho1,hd1⟩:=Zes Y (ZcK hc1)
    refine⟨c1,o1,y,hc1,ho1,?_,h3⟩
    rw[hd1,Zpc ndt h1 h2 hk1]
   ·obtain⟨o1,ho1,hd1⟩:=Zes Y (ZcK hc)
    exact⟨o1,_,ho1,hd1⟩
   ·exact name_of_addr ap (ZcK h1) (ZcK h2)
  have hb:=hbody (dp+1) (un+3) gd L' (envX cn cs M.L a ccd cl::outer) g0 hu' clr' .l .l
  have back:∀(W':Wd) (h':Heap) (tk':Nat) (x:Value),W.Le W'->Rep (ZaY (dp+1) (un+3) gd qual scope L' f cdv (cellsFrom (L'+1) scope.names []) (envX cn cs M.L a ccd cl::outer) g0 hu' names) W' O K' [] h'->VR W' (o.getD .none) x ->
    LeaveK M.h₀ M.L m g0 (λr s'=>match r with | .ok (.ret v)=>Q v s' | .ok _=>False | .error e=>E e s') x { s with heap:=h',toks:=tk' }:=by
   intro W' h' tk' x l' r' x'
   obtain⟨m',c',led',r'⟩:=r'
   refine⟨L',m',led',r'.F,r'.N,λFG NG=>post W' h' tk' x l' ?_ x'⟩
   have g0at:∀q∈led,q.1∉lent.map (·.1)->g0.get? q.1=some q.2:=λq hq hn=>stay _ _ (r.N q hq).1 hn
   have frN:∀q∈fr,q.1∉lent.map (·.1):=λq hq=>notin q (r.frIn q hq) (r.frOff q hq) (r.frTup q hq)
   have clN:∀q∈c,q.1∉lent.map (·.1):=λq hq=>notin q (r.clIn q hq) (r.clOff q hq) (r.clTup q hq)
   have newN:∀t∈led',g0.get? t.1=none:=λt ht=>(r'.N t ht).2.2
   have far:∀q∈led,q.1∉lent.map (·.1)->∀t∈W'.sc::led',q.1≠t.1:=λq hq hn t ht e=>by
    rcases Zz7.mp ht with e2 | ht
    ·rw[e2,l'.sc]at e
     exact r.notSc q hq e
    ·have:=g0at q hq hn
     rw[e,newN t ht]at this
     cases this
   have farPi:∀q∈led,q.1∉lent.map (·.1)->q.1∉W'.pi:=λq hq hn z=>by
    obtain⟨o2,h2⟩:=r'.piIn _ z
    exact far q hq hn _ h2 rfl
   have keep:∀q∈led,q.1∉lent.map (·.1)->q∈led'++led.filter (λq=>decide (q.1∉lent.map (·.1))):=λq hq hn=>List.mem_append_right _ (Yy9.mpr ⟨hq,by simpa using hn⟩)
   refine⟨m,c,led'++led.filter (λq=>decide (q.1∉lent.map (·.1))),⟨FG,λq hq=>?_,r'.R.mono λq hq=>ZcT hq λx hx=>Yy7 _ hx,l'.sc▸r.sc,r'.sc0,λq hq=>keep q (r.frIn q hq) (frN q hq),λq hq=>farPi q (r.frIn q hq) (frN q hq),λq hq=>keep q (r.clIn q hq) (clN q hq),λq hq=>farPi q (r.clIn q hq) (clN q hq),r.apart,λq hq t ht=>far q (r.frIn q hq) (frN q hq) t (r'.R.tups t ht),λq hq t ht=>far q (r.clIn q hq) (clN q hq) t (r'.R.tups t ht),M.mono l' r.own⟩⟩
   rcases Zz8.mp hq with hq | hq
   ·exact NG q hq
   ·obtain⟨h1,h2⟩:=List.mem_filter.mp hq
    exact⟨r'.F.keep _ _ (g0at q h1 (by simpa using h2)),(r.N q h1).2⟩
  refine hb W _ H [] _ _ _ (o,O,K') rep e1 ?_
  cases o with
  | none=>exact λW' h' tk' l' r'=>back W' h' tk' .none l' r' .none
  | some v0=>exact λW' h' tk' x l' r' x'=>back W' h' tk' x l' r' x'
 ·cases hF
theorem ZiO{un:Nat}{x:Str}{np pos:Pos}{room:Nat}{e:Expr}{g:Exs}(clr:Clr K p loose mean mg mb M dp un)(hn:Nm prog w M x (.ref f))(hkeep:keepIn K (.ref f)=true)(D:Def prog w K p loose mean mg mb f room o)(hd:dp+room<recursionLimit)(hu:un+10*room+300<cLine)
  (h:Js prog w M (e::es) g) (he:starEach (e::es) M.env=(false,eval e M.env)::starEach es M.env:=by rfl) (hp:∀pos,(backTo pos (starEach es M.env)).any (·.1)=false:=by intro _;rfl):J prog w M (.Call (.Name x np) (e::es) [] pos) (Zg o g):=by
 intro W U H fr s Q E v H' r hf post
 obtain⟨q,e1,hf⟩:=Zz0.mp hf
 have X:K.In M.h₀:=by
  obtain⟨_,_,_,_,_,_,_,_,_,_,_,X,_⟩:=clr
  exact X
 refine wpAny_Call_ofName (hn.use r ?_)
 refine callWith_K (first:=[]) X hkeep (h pos W U H fr s _ E _ _ r e1 λW1 k1 t1 xs l1 r1 x1=>⟨?_,?_⟩) he (hp pos)
 ·obtain⟨m,c,led,r1⟩:=r1
  exact X.keeps r1.F.keep
 ·exact wpAny_call (D M dp un clr hd hu W1 U _ fr _ Q E _ xs v H' r1 x1 hf λW2 k2 t2 y l2 r2 y2=>post W2 k2 t2 y (l1.trans l2) r2 y2)
theorem Clr.comp{un:Nat}{C:Addr}{ρ0:Lc}(h:Clr K p loose mean mg mb M dp un): Clr K p loose mean mg mb (Zaz M scope cl C ts ρ0) dp un:=h
end
theorem ZhM{lo:Nat}: ∀(names:List (Str×NameKind)) (n:Nat) (acc:List (Str×Addr)),acc.Pairwise (λx y=>x.2≠y.2)->(∀q∈acc,lo<q.2/\q.2<n)->lo<n->(cellsFrom n names acc).Pairwise (λx y=>x.2≠y.2)/\∀q∈cellsFrom n names acc,lo<q.2
 | [],n,acc,h1,h2,_=>⟨h1,λq hq=>(h2 q hq).1⟩
 | (y,k)::r,n,acc,h1,h2,h3=>by
  unfold cellsFrom
  by_cases hk:(k == .cell)=true
  ·rw[if_pos hk]
   refine ZhM r (n+1) ((y,n)::acc) (List.pairwise_cons.mpr ⟨λq hq=>Nat.ne_of_gt (h2 q hq).2,h1⟩) (λq hq=>?_) (Nat.lt_succ_of_lt h3)
   rcases Zz7.mp hq with e | hq
   ·rw[e]
    exact⟨h3,Nat.lt_succ_self n⟩
   ·exact⟨(h2 q hq).1,Nat.lt_succ_of_lt (h2 q hq).2⟩
  ·rw[if_neg hk]
   exact ZhM r n acc h1 h2 h3
theorem Zpd{h:Heap}{a:Addr}(w1:Well P h (.ref a) (ofPy (.list (ns.map PyData.int))))(W:Wd): ∃vs,h.get? a=some (Zat vs 0)/\VRs W (ns.map V.int) vs:=by
 have key:∀{ns:List Int} {vs:List Value} {xs:List WData},xs=(ns.map PyData.int).map ofPy->WellAll P h vs xs->VRs W (ns.map V.int) vs:=by
  intro ns
  induction ns with
  | nil=>intro vs xs e h;subst e;cases h;exact .nil
  | cons n ns ih=>
   intro vs xs e h
   subst e
   cases h with
   | cons h1 h2=>
    cases h1 with
    | int i t=>exact .cons (.int _ _) (ih rfl h2)
 have e:ofPy (.list (ns.map PyData.int))=.list ((ns.map PyData.int).map ofPy):=by rw[ofPy,ofPys_eq]
 rw[e]at w1
 cases w1 with
 | list hg ha=>exact⟨_,hg,key rfl ha⟩
section
variable {prog:Program} {w:World} {K:Frag} {p:Program} {loose:List Str} {mean:ExcName->Option Value} {mg mb:Str->Option Value}
theorem Zq8{sa fa:Addr}{pname:Str}{body:List Stmt}{room:Nat}{H':Hp}
  (hbody:∀(dp un:Nat) (gd:Option (List Code)) (L a:Addr) (ccd:Value) (outer:List Env) (h₀:Heap) (hu:un+200<cLine),Clr K p loose mean mg mb (ZaY dp un gd qual scope L a ccd (cellsFrom (L+1) scope.names []) outer h₀ hu names) dp un->dp+room<recursionLimit->un+10*room+300<cLine ->
   Ss prog w (ZaY dp un gd qual scope L a ccd (cellsFrom (L+1) scope.names []) outer h₀ hu names) body g)
  (hd:callerA.depth+1+room<recursionLimit) (hun:callerA.units+3+10*room+300<cLine) (hk:scope.kind=.function) (h0:names[0]?=some pname)
  (KX:K.In h₀) (T:Top p loose mean mg mb h₀) (w1:Well P h₀ (.ref sa) (ofPy (.list (ns.map PyData.int)))) (hlen:ns.length<=ZK)
  (F:Fr h₀ h₀.objs.size s.heap (bindL (envOfC qual scope h₀.objs.size fa cd).kindOf [(pname,.ref sa)] λ_=>none)) (N:News h₀ h₀.objs.size s.heap cells) (X0:CellsAre (bindC (envOfC qual scope h₀.objs.size fa cd).kindOf [(pname,.ref sa)] λ_=>none) (cellsFrom (h₀.objs.size+1) scope.names []) cells)
  (hg:Zs 1 g [.ref 0] [ns.map V.int]=some (.bool true,H')) (post:∀h' tk' m',Fr h₀ h₀.objs.size h' m'->Q (.ret (.bool true)) { s with heap:=h',toks:=tk' }):
  wpAny (model prog w) (callerA.deeper (envOfC qual scope h₀.objs.size fa cd)) (execs body (envOfC qual scope h₀.objs.size fa cd)) Q E s:=by
 have hu':(callerA.units+3)+200<cLine:=by lia
 have clr:Clr K p loose mean mg mb (ZaY (callerA.depth+1) (callerA.units+3) callerA.guards qual scope h₀.objs.size fa cd (cellsFrom (h₀.objs.size+1) scope.names []) [] h₀ hu' names) (callerA.depth+1) (callerA.units+3):=
  ⟨callerA.guards,qual,scope,fa,cd,cellsFrom (h₀.objs.size+1) scope.names [],[],_,_,rfl,below_caller h₀,KX,T,hk⟩
 have hb:=hbody (callerA.depth+1) (callerA.units+3) callerA.guards h₀.objs.size fa cd [] h₀ hu' clr hd hun
 obtain⟨vs,hsc,hv⟩:=Zpd w1 ⟨[sa],[],(sa,Zat [] 0),[]⟩
 have hv':VRs ⟨[sa],[],(sa,Zat vs 0),[]⟩ (ns.map V.int) vs:=by
  clear hg post w1 hlen hsc
  generalize ns.map V.int=us at hv
  have key:∀{us:List V} {xs:List Value},VRs ⟨[sa],[],(sa,Zat [] 0),[]⟩ us xs->VRs ⟨[sa],[],(sa,Zat vs 0),[]⟩ us xs:=by
   intro us
   induction us with
   | nil=>intro xs h;cases h;exact .nil
   | cons u us ih=>
    intro xs h
    cases h with
    | cons a b=>
     refine .cons ?_ (ih b)
     cases a with
     | none=>exact .none
     | bool b=>exact .bool b
     | int i t=>exact .int i t
     | str s t=>exact .str s t
     | tup hm _ _=>exact nomatch hm
     | ref e=>exact .ref e
     | obj _ h2 _ _=>exact nomatch h2
     | dct _ h2 _=>exact nomatch h2
  exact key hv
 have far:=ZhM (lo:=h₀.objs.size) scope.names (h₀.objs.size+1) [] .nil (λq hq=>nomatch hq) (Nat.lt_succ_self _)
 unfold Zs at hg
 rw[if_pos (show([V.ref 0]:List V).length=1 from rfl)]at hg
 obtain⟨res,e1,e2⟩:=Zz1.mp hg
 obtain⟨o,O,K'⟩:=res
 have eo:o=some (.bool true):=by
  cases o with
  | none=>simp at e2
  | some v=>simp at e2;rw[e2.1]
 subst eo
 have pick:∀{i:Nat} {x:Str} {u:V},names[i]?=some x->([V.ref 0]:List V)[i]?=some u->x=pname/\u=.ref 0:=λ{i x u} h1 h2=>by
  have hi:i<1:=(Zz6.mp h2).1
  have:i=0:=by lia
  subst this
  rw[h0]at h1
  simp at h1 h2
  exact⟨h1.symm,h2.symm⟩
 have rep:Rep (ZaY (callerA.depth+1) (callerA.units+3) callerA.guards qual scope h₀.objs.size fa cd (cellsFrom (h₀.objs.size+1) scope.names []) [] h₀ hu' names) ⟨[sa],[],(sa,Zat vs 0),[]⟩ (λi=>[V.ref 0][i]?) [ns.map V.int] [] s.heap:=by
  refine⟨_,cells,cells,⟨F,N,⟨rfl,.s,λi us e _=>?_,λq hq=>(nomatch hq),λq hq=>(nomatch hq),λi us fs e hi=>(nomatch hi),λq hq=>(nomatch hq),λq hq=>(nomatch hq)⟩,hsc,rfl,λq hq=>(nomatch hq),λq hq=>(nomatch hq),λq hq=>hq,λq hq z=>?_,λq _ t ht=>(nomatch ht),λq hq=>(nomatch hq),λq hq t ht=>(nomatch ht),⟨λi x u hi hk1 hu1=>?_,λi x u hi hk1 hu1=>?_,λx c1 hc=>?_,λx y c1 h1 h2=>?_⟩⟩⟩
  ·have hi:i<1:=(Zz6.mp e).1
   have:i=0:=by omega
   subst this
   simp at e
   subst e
   exact⟨by simpa using hlen,sa,vs,0,rfl,List.mem_cons_self,hv'⟩
  ·have:=(N q hq).2.2
   rw[List.mem_singleton.mp z,hsc]at this
   cases this
  ·obtain⟨e3,e4⟩:=pick hi hu1
   subst e3 e4
   refine⟨.ref sa,?_,.ref ⟨rfl,λq hq=>nomatch hq⟩⟩
   show bindL _ _ _ _=_
   unfold bindL bindL
   rw[if_pos (show(envOfC qual scope h₀.objs.size fa cd).kindOf x=some .local from hk1)]
   simp
  ·obtain⟨e3,e4⟩:=pick hi hu1
   subst e3 e4
   have hs:=cellsFrom_some scope.names (h₀.objs.size+1) [] (.inl hk1)
   obtain⟨c1,hc1⟩:=Option.isSome_iff_exists.mp hs
   obtain⟨o1,ho1,hd1⟩:=Zes X0 (ZcK hc1)
   refine⟨c1,o1,.ref sa,hc1,ho1,?_,.ref ⟨rfl,λq hq=>nomatch hq⟩⟩
   rw[hd1]
   unfold bindC bindC
   rw[if_neg (show ¬(envOfC qual scope h₀.objs.size fa cd).kindOf x=some .local by show ¬scope.names.lookup x=some .local;rw[hk1];simp)]
   simp
  ·obtain⟨o1,ho1,hd1⟩:=Zes X0 (ZcK hc)
   exact⟨o1,_,ho1,hd1⟩
  ·exact name_of_addr far.1 (ZcK h1) (ZcK h2)
 refine hb _ _ _ [] s Q E _ rep e1 ?_
 intro W' h' tk' x l' r' x'
 cases x' with
 | bool _=>
  obtain⟨m',c',led',r'⟩:=r'
  exact post h' tk' m' r'.F
end
end PM
end
section
namespace PM
open PySem PySem.W PySem.Calls PyProof.Rows PyProof PyProof.Rows.LCg PyProof.Rows.LSm
variable{fr:List (Addr×Obj)}{vs:List V}{xs:List Value}{x:Str}{v:Value}
variable{prog:Program}{w:World}{M:Cx}
theorem Rep.listAt{W:Wd}{U:Lc}{H:Hp}{h h':Heap}{k:Nat}(r:Rep M W U H fr h)(up:∀b o,h.get? b=some o->h'.get? b=some o)(hg:h'.get? h.objs.size=some (Zat xs k))(hv:VRs W vs xs)(hl:vs.length<=ZK):
  ∃W',W.Le W'/\Rep M W' U (H++[vs]) fr h'/\VR W' (.ref H.length) (.ref h.objs.size):=by
 obtain⟨r2,ap⟩:=r.more (fs:=[(h.objs.size,Zat xs k)]) up (λq hq=>by rw[List.mem_singleton.mp hq];exact⟨hg,Nat.le_refl _⟩)
 exact Zek r2 (λt ht=>ap _ Zz5 t ht) hv hl
def ZdR:=ZbK (λvs H=>some (.ref H.length,H++[vs])) λvs H=>some (.ref H.length,H++[vs])
def ZlA:=ZbK (λvs H=>some (.tup vs,H)) λvs H=>some (.tup vs,H)
noncomputable def Zet: List V->Option (List Bool)
 | []=>some []
 | .bool b::vs=>(Zet vs).map λbs=>b::bs
 | _::_=>none
def Zg9:=ZbK (λvs H=>(Zet vs).map λbs=>(.bool (bs.any id),H)) λ_ _=>none
theorem Zop{W:Wd}: ∀{vs:List V} {xs:List Value} {bs:List Bool},VRs W vs xs->Zet vs=some bs->BoolsAre xs bs:=by
 intro vs
 induction vs with
 | nil=>intro xs bs h e;cases h;cases e;exact .nil
 | cons v vs ih=>
  intro xs bs h e
  cases h with
  | cons a b=>
   cases v with
   | bool c=>
    obtain⟨cs,e1,e2⟩:=Zz1.mp e
    subst e2
    cases a
    exact .cons _ (ih b e1)
   | _=>cases e
theorem Ziw: OpN prog w (λxs=>call (.type "list") xs) ZdR:=by
 have key:∀(M:Cx) (W:Wd) (U:Lc) (H:Hp) (fr:List (Addr×Obj)) (s:Shared) (Q E:Value->Shared->Prop) (vs:List V) (a:Addr) (ys:List Value) (k:Nat) (v:V) (H':Hp) (c:String),(c="list"∨c="tuple")->Rep M W U H fr s.heap->vs.length<=ZK->s.heap.get? a=some { cls:=.type c,data:=.seq ys.toArray k }->VRs W vs ys->some (V.ref H.length,H++[vs])=some (v,H')->ZcE M W U H' fr s Q v->wpAny (model prog w) M.A (call (.type "list") [.ref a]) Q E s:=by
  intro M W U H fr s Q E vs a ys k v H' c hc r hl hg hv ho post
  cases ho
  refine call_list_seq (hsz:=Zcv (by rw[List.size_toArray,hv.length];exact hl)) a hc hg rfl rfl λh' c' up hg'=>?_
  obtain⟨W2,l2,r2,v2⟩:=r.listAt up hg' hv hl
  exact post W2 h' s.toks _ l2 r2 v2
 exact .seq (λM W U H fr s Q E vs a ys k v H' r hl hg hv ho post=>key M W U H fr s Q E vs a ys k v H' _ (.inl rfl) r hl hg hv ho post) λM W U H fr s Q E vs a ys k v H' r hl hm hv ho post=>key M W U H fr s Q E vs a ys k v H' _ (.inr rfl) r hl (r.tupAt hm) hv ho post
theorem Zkd: OpN prog w (λxs=>call (.type "tuple") xs) ZlA:=by
 refine .seq (λM W U H fr s Q E vs a ys k v H' r hl hg hv ho post=>?_) λM W U H fr s Q E vs a ys k v H' r hl hm hv ho post=>?_
 ·cases ho
  refine call_tuple_list (s:=s) ⟨_,hg,rfl,k,rfl⟩ (λh' up=>?_) (Zcv (by rw[List.size_toArray,hv.length];exact hl))
  obtain⟨W2,l2,r2,v2⟩:=(r.grown up).tuple (k:=0) hv hl
  exact post W2 _ s.toks _ l2 r2 v2
 ·cases ho
  exact call_tuple_tup (s:=s) ⟨_,r.tupAt hm,rfl,k,rfl⟩ (post W s.heap s.toks _ (.refl W) r (.tup hm hl hv))
theorem ZsI: OpN prog w (λxs=>call (.builtin "any") xs) Zg9:=.list λM W U H fr s Q E vs a ys k v H' r hl hg hv ho post=>by
 obtain⟨bs,e3,e4⟩:=Zz1.mp ho
 cases e4
 obtain⟨m,c,led,r'⟩:=r
 exact any_bools r'.F r'.N M.hh ⟨_,hg,rfl,k,rfl⟩ (Zop hv e3) λh' tk F' N'=>post W h' tk _ (.refl W) (r'.same F' N') (.bool _)
section
variable {prog:Program} {w:World} {K:Frag} {p:Program} {loose:List Str} {mean:ExcName->Option Value} {mg mb:Str->Option Value} {M:Cx} {dp un:Nat}
theorem ZeE(clr:Clr K p loose mean mg mb M dp un)(e:nsIn K mainGlobals x=some (some v))(hg:M.env.globals=mainGlobals)(hk:M.env.scope.kind=.function)(hx:M.env.kindOf x=some .globalImplicit)(hd:(x == ("__debug__":Str))=false): Nm prog w M x v:=by
 obtain⟨_,_,_,_,_,_,_,_,_,_,_,X,T,_⟩:=clr
 intro pos m s Q E F q
 exact Name_function_global hk hx (loadGlobal_global (env:=M.env) (by rw[hg];exact T.g.keeps F.keep) (mg_of X T.g e) q) hd
theorem Zp2(clr:Clr K p loose mean mg mb M dp un)(e:nsIn K mainGlobals x=some none)(hv:bootBuiltins x=some v)(hn:x≠"__name__")(hg:M.env.globals=mainGlobals)(hb:M.env.builtins=builtinsNs)(hk:M.env.scope.kind=.function)(hx:M.env.kindOf x=some .globalImplicit)(hd:(x == ("__debug__":Str))=false): Nm prog w M x v:=by
 obtain⟨_,_,_,_,_,_,_,_,_,_,_,X,T,_⟩:=clr
 intro pos m s Q E F q
 exact Name_function_global hk hx (loadGlobal_builtin (env:=M.env) (by rw[hg];exact T.g.keeps F.keep) (mg_none_of X T.g e) (by rw[hb];exact T.b.keeps F.keep) ((T.builtins x hn).trans hv) q) hd
end
section
variable {prog:Program} {w:World} {M:Cx} {scope:Scope} {cl:List (Str×Addr)} {C:Addr} {ts:List (Str×Nat)} {ρ0:Lc}
theorem Zq9{t:Nat}(hm:(x,t)∈ts)(hk:scope.kind=.function)(hl:(compEnvC scope cl C M.env).kindOf x=some .local)(hd:(x == ("__debug__":Str))=false): Rd prog w (Zaz M scope cl C ts ρ0) x t:=by
 intro W U H fr s Q E v pos r e q
 right
 obtain⟨m,c,led,r⟩:=r
 obtain⟨oC,m₂,cs,ec,h0,h1,h2,h3,h4⟩:=r.own
 obtain⟨v',y,e1,e2,e3⟩:=h2 _ hm
 rw[e]at e1
 left
 cases e1
 exact LCgL.ld_own r.N (r.clIn _ (by rw[ec];exact Zz5)) h1 e2 (q y e3) hk hl hd
end
section
variable {prog:Program} {w:World} {dp un:Nat} {gd:Option (List Code)} {cn:Str} {cs:Scope} {L a:Addr} {ccd:Value} {clf:List (Str×Addr)} {outer:List Env} {h₀:Heap} {hu:un+200<cLine} {names:List Str} {scope:Scope} {cl:List (Str×Addr)} {C:Addr} {ts:List (Str×Nat)} {ρ0:Lc}
theorem Zra{i:Nat}(hi:names[i]?=some x)(hx:cs.names.lookup x=some .cell)(hne:∀p∈ts,p.2≠i)(hcl:cl.lookup x=clf.lookup x)(hk:scope.kind=.function)(hl:(compEnvC scope cl C (envX cn cs L a ccd clf)).kindOf x=some .cell)(hd:(x == ("__debug__":Str))=false):
  Rd prog w (Zaz (ZaY dp un gd cn cs L a ccd clf outer h₀ hu names) scope cl C ts ρ0) x i:=by
 intro W U H fr s Q E v pos r e q
 obtain⟨m,c,led,r⟩:=r
 obtain⟨oC,m₂,cs',ec,h0,h1,h2,h3,h4⟩:=r.own
 rw[h3 i hne]at e
 obtain⟨d,o,y,g1,g2,g3,g4⟩:=h4.cel i x v hi hx e
 exact kcf_cell r.N (hcl.trans g1) (r.clIn _ (by rw[ec];exact Zz2 _ g2)) g3 (q y g4) hk hl hd
end
end PM
end
section
namespace My
open PySem PySem.W PySem.Calls PyProof.Rows PySem.Spec
section
variable {prog:Program} {w:World} {A:Around} {E:Value->Shared->Prop} {s:Shared} {x y:Int} {t u:Tok} {Q:Value->Shared->Prop}
@[irreducible] noncomputable def T60: Int:=10 ^ 60
@[irreducible] noncomputable def T9: Int:=10 ^ 9
theorem T60_eq: T60=1000000000000000000000000000000000000000000000000000000000000:=by unfold T60;decide +kernel
theorem T9_eq: T9=1000000000:=by unfold T9;decide +kernel
end
end My
end
section
namespace PM
open PySem PySem.W PyProof.Rows
variable{a i:Nat}{b k:Int}{O:Lc}{H' H:Hp}{v:V}{vs us:List V}{ns:List Int}
section
variable (U:Lc) (H:Hp)
@[simp] theorem Zvj(k:Int): Zd k U H=some (.int k,H):=rfl
@[simp] theorem Zu3: Z9 U H=some (.none,H):=rfl
@[simp] theorem Zu4(b:Bool): ZaT b U H=some (.bool b,H):=rfl
@[simp] theorem Zvk(x:Str): ZF x U H=some (.str x,H):=rfl
@[simp] theorem ZsJ(i:Nat): Za i U H=(U i).map λv=>(v,H):=rfl
@[simp] theorem ZsK(o:V->V->Hp->Option (V×Hp))(f g:Ex): Zc o f g U H=(f U H).bind λp=>(g U p.2).bind λq=>o p.1 q.1 q.2:=rfl
@[simp] theorem Zt8(o:V->Hp->Option (V×Hp))(f:Ex): ZE o f U H=(f U H).bind λp=>o p.1 p.2:=rfl
@[simp] theorem Zvl(t:Ts)(f g:Ex): eIf t f g U H=(t U H).bind λp=>if p.1 then f U p.2 else g U p.2:=rfl
@[simp] theorem Zvm: Ze U H=some ([],H):=rfl
@[simp] theorem Zrb(f:Ex)(g:Exs): Zb f g U H=(f U H).bind λp=>(g U p.2).bind λq=>some (p.1::q.1,q.2):=rfl
@[simp] theorem ZsL(g:Exs): ZO g U H=(g U H).bind λp=>if p.1.length<=ZK then some (.tup p.1,p.2)else none:=rfl
@[simp] theorem Zrc(g:Exs): ZB g U H=(g U H).bind λp=>if p.1.length<=ZK then some (.ref p.2.length,p.2++[p.1])else none:=rfl
@[simp] theorem ZsM(f:Ex): Zl f U H=(f U H).bind λp=>(Zab p.1 p.2).map λb=>(b,p.2):=rfl
@[simp] theorem Zrd(t:Ts): Zbx t U H=(t U H).map λp=>(!p.1,p.2):=rfl
@[simp] theorem Zu5: ZJ U H=some (true,H):=rfl
@[simp] theorem Zu2: Zb1 U H=some (false,H):=rfl
@[simp] theorem ZlB(t u:Ts): ZR t u U H=(t U H).bind λp=>if p.1 then u U p.2 else some (false,p.2):=rfl
@[simp] theorem Zmx(t u:Ts): tOr t u U H=(t U H).bind λp=>if p.1 then some (true,p.2)else u U p.2:=rfl
@[simp] theorem Zvn(t u v:Ts): tIf t u v U H=(t U H).bind λp=>if p.1 then u U p.2 else v U p.2:=rfl
@[simp] theorem Zre(f:Ex): ZdC f U H=(f U H).bind λp=>(Zab p.1 p.2).map λb=>(.bool (!b),p.2):=rfl
@[simp] theorem ZlC(f g:Ex): Zbo f g U H=(f U H).bind λp=>(Zab p.1 p.2).bind λb=>if b then g U p.2 else some p:=rfl
@[simp] theorem Zvo(f g:Ex): eOr f g U H=(f U H).bind λp=>(Zab p.1 p.2).bind λb=>if b then some p else g U p.2:=rfl
@[simp] theorem Zrf(o: .y)(g:Exs): Zg o g U H=(g U H).bind λp=>o p.1 p.2:=rfl
@[simp] theorem Zvt(T:String)(f:Ex): eIs T f U H=(f U H).bind λp=>if ZdX p.1 then none else some (.bool (Zbt T p.1),p.2):=rfl
@[simp] theorem Zpe(o f:Ex): Zag o f U H=(o U H).bind λp=>(f U p.2).bind λq=>Zbc [p.1,q.1] q.2:=rfl
@[simp] theorem ZkE: ZaU U H=some (none,H):=rfl
@[simp] theorem ZkF(f:Ex): Zaw f U H=(f U H).map λp=>(some p.1,p.2):=rfl
@[simp] theorem Zu6: ZG U H=some (none,U,H):=rfl
@[simp] theorem ZsN(f:Ex): Zo f U H=(f U H).map λp=>(some p.1,U,p.2):=rfl
@[simp] theorem ZsO(i:Nat)(f:Ex): Zk i f U H=(f U H).map λp=>(none,Zi U i p.1,p.2):=rfl
@[simp] theorem Zmy(t:Ts)(a b:Sm): Zu t a b U H=(t U H).bind λp=>if p.1 then a U p.2 else b U p.2:=rfl
@[simp] theorem ZsP(f:Ex): ZN f U H=(f U H).map λp=>(none,U,p.2):=rfl
@[simp] theorem ZsQ(f o i:Ex): ZaE f o i U H=(f U H).bind λp=>(o U p.2).bind λq=>(i U q.2).bind λu=>(Zbp q.1 u.1 p.1 u.2).map λK=>(none,U,K):=rfl
@[simp] theorem ZsR(g:Src)(put:V->Lc->Option Lc)(b:Sm): Zac g put b U H=(g U H).bind λz=>Za6 z.1 put b z.2.1 0 U z.2.2:=rfl
@[simp] theorem Zrg(g:Src)(put:V->Lc->Option Lc)(c:Ts)(f:Ex): Z3 g put c f U H=(g U H).bind λz=>(Zah z.1 put c f U z.2.1 0 [] z.2.2).map λq=>(.ref q.2.length,q.2++[q.1]):=rfl
theorem Zmz(a b:Sm): Zh a b U H=(a U H).bind λp=>match p.1 with
 | some _=>some p
 | none=>b p.2.1 p.2.2:=rfl
theorem Zp3{a b:Sm}{U:Lc}{H:Hp}(h:a U H=some (none,O,H')): Zh a b U H=b O H':=by rw[Zmz,h];rfl
theorem seq_ret{a b:Sm}{U:Lc}{H:Hp}(h:a U H=some (some v,O,H')): Zh a b U H=some (some v,O,H'):=by rw[Zmz,h];rfl
end
@[simp] theorem ZsS(U:Lc)(i:Nat)(v:V)(j:Nat): Zi U i v j=if j=i then some v else U j:=rfl
@[simp] theorem Zbr(i:Nat)(v:V)(U:Lc): Zw i v U=some (Zi U i v):=rfl
@[simp] theorem Zrh(i j:Nat)(a b:V)(U:Lc): ZcZ i j (.tup [a,b]) U=some (Zi (Zi U i a) j b):=rfl
@[simp] theorem Zu7(b:Bool)(H:Hp): Zab (.bool b) H=some b:=rfl
@[simp] theorem Zu8(i:Int)(H:Hp): Zab (.int i) H=some (i != 0):=rfl
@[simp] theorem Zu9(H:Hp): Zab .none H=some false:=rfl
section
variable (a b:Int) (H:Hp)
@[simp] theorem Zt9: ZC (.int a) (.int b) H=some (.int (a+b),H):=rfl
@[simp] theorem Znc: Zai (.int a) (.int b) H=some (.int (a-b),H):=rfl
@[simp] theorem Zvu: Zax (.int a) H=some (.int (-a),H):=rfl
@[simp] theorem Zvz: oLt (.int a) (.int b) H=some (.bool (decide (a<b)),H):=rfl
@[simp] theorem ZvA: oLe (.int a) (.int b) H=some (.bool (decide (a<=b)),H):=rfl
@[simp] theorem ZvB: oGt (.int a) (.int b) H=some (.bool (decide (b<a)),H):=rfl
@[simp] theorem ZvC: oGe (.int a) (.int b) H=some (.bool (decide (b<=a)),H):=rfl
@[simp] theorem Zvv: ZdD [.int a] H=some (.int (if a<0 then -a else a),H):=rfl
@[simp] theorem Zvw: ZdY [.int a,.int b] H=some (.int (if b>a then b else a),H):=rfl
@[simp] theorem Zvx: ZdA [.int a,.int b] H=some (.int (if b<a then b else a),H):=rfl
theorem Zua{b:Int}(h:b≠0): Zcp (.int a) (.int b) H=some (.int (a.fmod b),H):=if_pos h
theorem Znd{a b:Int}(h:ZcB a b=true): ZaI (.int a) (.int b) H=some (.int (a*b),H):=by simp only[ZaI];rw[if_pos h]
theorem Zne{a b:Int}(h:b≠0)(h2:Builtin.divisionGoesByPylong a b=false): ZcV (.int a) (.int b) H=some (.int (a.fdiv b),H):=if_pos ⟨h,h2⟩
@[simp] theorem Zvp: oIs .none .none H=some (.bool true,H):=rfl
@[simp] theorem Zvq: oIs (.int a) .none H=some (.bool false,H):=rfl
@[simp] theorem Zvr(vs:List V): oIs (.tup vs) .none H=some (.bool false,H):=rfl
@[simp] theorem Zvs(i:Nat): oIs (.ref i) .none H=some (.bool false,H):=rfl
@[simp] theorem ZuY: ZaA .none .none H=some (.bool false,H):=rfl
@[simp] theorem ZuZ: ZaA (.int a) .none H=some (.bool true,H):=rfl
@[simp] theorem Zu0(vs:List V): ZaA (.tup vs) .none H=some (.bool true,H):=rfl
@[simp] theorem Zu1(i:Nat): ZaA (.ref i) .none H=some (.bool true,H):=rfl
@[simp] theorem Zha: ZA (.int a) (.int b) H=some (.bool (a == b),H):=by
 simp[ZA,ZbT,toD,SeqAt.shaped,PyData.canLay0,PyData.depth,PyData.eqv]
@[simp] theorem ZuR: oNe (.int a) (.int b) H=some (.bool (!(a == b)),H):=by
 simp[oNe,ZbT,toD,SeqAt.shaped,PyData.canLay0,PyData.depth,PyData.eqv]
@[simp] theorem Zvy(c d:Bool): ZA (.bool c) (.bool d) H=some (.bool (c == d),H):=by
 simp[ZA,ZbT,toD,SeqAt.shaped,PyData.canLay0,PyData.depth,PyData.eqv]
@[simp] theorem Zub(c d:Bool): oNe (.bool c) (.bool d) H=some (.bool (!(c == d)),H):=by
 simp[oNe,ZbT,toD,SeqAt.shaped,PyData.canLay0,PyData.depth,PyData.eqv]
@[simp] theorem Zva: Zbt "int" (.int a)=true:=rfl
@[simp] theorem Zvb: Zbt "bool" (.int a)=false:=rfl
@[simp] theorem Zvc(i:Nat): Zbt "list" (.ref i)=true:=rfl
@[simp] theorem Zvd(vs:List V): Zbt "tuple" (.tup vs)=true:=rfl
@[simp] theorem Zve(b:Bool): Zbt "bool" (.bool b)=true:=rfl
@[simp] theorem Zvf(b:Bool): Zbt "int" (.bool b)=true:=rfl
@[simp] theorem Zvg: Zbt "int" .none=false:=rfl
@[simp] theorem Zvh: Zbt "tuple" .none=false:=rfl
@[simp] theorem Zvi: Zbt "list" .none=false:=rfl
end
def Ext(H H':Hp): Prop:=∃X,H'=H++X
theorem Ext.at(h:Ext H H')(e:H[i]?=some vs): H'[i]?=some vs:=by
 obtain⟨X,rfl⟩:=h
 rw[Yy0 (Zz6.mp e).1]
 exact e
theorem Ext.one(H:Hp)(vs:List V): Ext H (H++[vs]):=⟨[vs],rfl⟩
@[simp] theorem Zv(H:Hp)(vs:List V): (H++[vs])[H.length]?=some vs:=by simp
theorem Zb6(e:H[a]?=some vs): ZZ [.ref a] H=some (.int vs.length,H):=ZcQ e
theorem ZmA{n:Nat}(h0:0<=k)(h1:k<n): seqIndex? k n=some k.toNat:=by
 unfold seqIndex?
 have:¬k<0:=by lia
 simp[this,h0,h1]
theorem Znf(e:H[a]?=some vs)(h0:0<=k)(hv:vs[k.toNat]?=some v): Zf (.ref a) (.int k) H=some (v,H):=by
 have hk:k.toNat<vs.length:=(Zz6.mp hv).1
 simp only[Zf,e,Ys0]
 rw[ZmA h0 .l]
 simp[hv]
theorem ZmB(h0:0<=k)(hv:vs[k.toNat]?=some v): Zf (.tup vs) (.int k) H=some (v,H):=by
 have hk:k.toNat<vs.length:=(Zz6.mp hv).1
 simp only[Zf]
 rw[ZmA h0 .o]
 simp[hv]
theorem Zng(e:H[a]?=some (ns.map V.int)): ZcX [.ref a] H=some (.int ns.sum,H):=by
 have:∀ns:List Int,Za2 (ns.map V.int)=some ns:=by
  intro ns
  induction ns with
  | nil=>rfl
  | cons n ns ih=>simp[Za2,ih]
 unfold ZcX
 rw[ZcQ e,this]
 rfl
theorem Zri(e:H[a]?=some vs): ZdR [.ref a] H=some (.ref H.length,H++[vs]):=ZcQ e
theorem Zp4(e:H[a]?=some vs)(h0:a≠0)(hl:vs.length<ZK): Zbc [.ref a,v] H=some (.none,H.set a (vs++[v])):=by simp[Zbc,e,h0,hl]
theorem Zuc(e:H[a]?=some vs)(h0:a≠0)(h1:0<=k)(h2:k<vs.length): Zbp (.ref a) (.int k) v H=some (H.set a (vs.set k.toNat v)):=by simp[Zbp,e,h0,h1,h2]
theorem ZsT{b:Nat}(e:H[a]?=some vs)(e':H[b]?=some us)(hl:vs.length+us.length<=ZK): ZC (.ref a) (.ref b) H=some (.ref H.length,H++[vs++us]):=by simp[ZC,e,e',hl]
theorem Zp5(v:V)(n:Nat): ZcY [v] n=List.replicate n v:=by
 induction n with
 | zero=>rfl
 | succ n ih=>rw[ZcY,ih,List.replicate_succ']
theorem Zud(e:H[a]?=some [v])(h0:0<=k)(hl:k<=ZK): ZaI (.ref a) (.int k) H=some (.ref H.length,H++[List.replicate k.toNat v]):=by
 rw[ZD]at hl
 have:([v]:List V).length*k.toNat<=ZK/\-(2 ^ 63:Int)<=k/\k<2 ^ 63:=⟨by rw[ZD];simp;omega,.l,.o⟩
 simp only[ZaI,e,Ys0]
 rw[if_pos this,Zp5]
@[simp] theorem ZlD(f:Ex)(U:Lc)(H:Hp): ZQ f U H=(f U H).bind λp=>match p.1 with
 | .ref a=>p.2[a]?.map λvs=>(ZI a,vs.length+1,p.2)
 | .tup vs=>some (Zc9 vs,vs.length+1,p.2)
 | _=>none:=rfl
theorem ZbB(e:H[a]?=some vs): ZI a i H=some vs[i]?:=by simp[ZI,e]
@[simp] theorem Zeh(a c:Int)(n i:Nat)(H:Hp): ZaL a c n i H=some (if i<n then some (.int (a+i*c))else none):=rfl
theorem Zp6{b:Nat}{x y:V}(e:H[a]?=some vs)(e':H[b]?=some us)(hx:vs[i]?=some x)(hy:us[i]?=some y): ZbF a b i H=some (some (.tup [x,y])):=by simp[ZbF,e,e',hx,hy]
theorem Zpf{b:Nat}(e:H[a]?=some vs)(e':H[b]?=some us): ZbF a b (min vs.length us.length) H=some none:=by
 simp only[ZbF,e,e',Ys0]
 split
 ·rename_i x y h1 h2
  have:=(Zz6.mp h1).1
  have:=(Zz6.mp h2).1
  lia
 ·simp
theorem ZgT(hb:0<=b): Builtin.Range.rangeSize 0 b 1=b:=by
 unfold Builtin.Range.rangeSize
 rw[if_pos .d]
 by_cases h:(0:Int)<b
 ·rw[if_pos h]
  lia
 ·rw[if_neg h]
  lia
theorem ZsU(hb:0<=b)(hb9:b<=1000): ZbE 0 b 1 H=some (ZaL 0 1 b.toNat,b.toNat+1,H):=by
 unfold ZbE rngN
 rw[ZgT hb,if_pos]
 refine⟨.d,?_,hb,by rw[ZD];lia,?_⟩
 ·unfold Builtin.Range.small
  rw[ZgT hb]
  simp only[Builtin.Range.rangeFitsLong,Bool.and_eq_true,Bool.or_eq_true,decide_eq_true_eq,beq_iff_eq]
  rw[if_pos .d]
  simp only[Bool.and_eq_true,decide_eq_true_eq]
  by_cases h:(0:Int)<b
  ·refine⟨⟨⟨⟨?_,?_⟩,?_⟩,?_⟩,Or.inr ?_⟩ <;> lia
  ·refine⟨⟨⟨⟨?_,?_⟩,?_⟩,?_⟩,?_⟩ <;> first | lia | (apply Or.inl;omega)
 ·exact PyProof.noPylong_small .l
end PM
end
section
namespace PM
open PySem PySem.W PyProof.Rows My
variable{a i n j m:Nat}{b:Sm}{H K:Hp}{v x y:V}{o: .y}{f:Ex}{g:Exs}{r:Option V×Lc×Hp}{xs vs us as:List V}{t u:Ts}{k:Int}{c:Option (V×Hp)}{nx:Nx}{O:Lc}{Q:V->Hp->Prop}{G:Nx->Nat->Hp->Prop}{P:Hp->Prop}{ns:List Int}{B A:Prop}
theorem Zix{a b:Int}(h:IntMulOk a b): ZcB a b=true:=by
 unfold IntMulOk at h
 unfold ZcB
 cases e:(decide (Builtin.Int.intBits a>shortFactorBits) && decide (Builtin.Int.intBits b>shortFactorBits) && Builtin.Int.intTooBig (Builtin.Int.intBits a+Builtin.Int.intBits b))with
 | true=>exact absurd e h
 | false=>rfl
theorem Znh{a b:Int}(h:0<=b/\(Builtin.Int.intBits a:Int)*b<=2 ^ 27): ZbJ (.int a) (.int b) H=some (.int (a ^ b.toNat),H):=if_pos h
theorem ZsV(H:Hp): ZbJ (.int 10) (.int 60) H=some (.int T60,H):=by rw[Znh .D];unfold T60;rfl
theorem Zue(H:Hp): ZbJ (.int 10) (.int 9) H=some (.int T9,H):=by rw[Znh .D];unfold T9;rfl
theorem ZsW{a b:Int}(h:0<b)(h2:b<2 ^ 30): ZcV (.int a) (.int b) H=some (.int (a.fdiv b),H):=Zne H .l (PyProof.noPylong_small .o)
theorem Zuf(b:Int)(H:Hp): ZaI (.int 2) (.int b) H=some (.int (2*b),H):=Znd H (Zix (PySem.IntMulOk.of_left (PySem.intBits_le_64 .d .d)))
section
variable {U B ρ2:Lc} {H H1 H2 H3:Hp}
theorem ZsX(h:U i=some v): Za i U H=some (v,H):=by rw[ZsJ,h];rfl
theorem ZsY{o:V->V->Hp->Option (V×Hp)}{g:Ex}{r:V×Hp}(h1:f U H=some (x,H1))(h2:g U H1=some (y,H2))(h3:o x y H2=some r): Zc o f g U H=some r:=by
 rw[ZsK,h1,Ys0,h2,Ys0,h3]
theorem Zug{o:V->Hp->Option (V×Hp)}{r:V×Hp}(h1:f U H=some (x,H1))(h3:o x H1=some r): ZE o f U H=some r:=by rw[Zt8,h1,Ys0,h3]
theorem Zrj(h1:f U H=some (x,H1))(h2:g U H1=some (xs,H2)): Zb f g U H=some (x::xs,H2):=by rw[Zrb,h1,Ys0,h2];rfl
theorem Zrk{r:V×Hp}(h1:g U H=some (xs,H1))(h2:o xs H1=some r): Zg o g U H=some r:=by rw[Zrf,h1,Ys0,h2]
theorem ZsZ(h1:g U H=some (xs,H1))(hl:xs.length<=1000): ZO g U H=some (.tup xs,H1):=by rw[ZsL,h1,Ys0,if_pos (by rw[ZD];show xs.length<=100000;lia)]
theorem Zrl(h1:g U H=some (xs,H1))(hl:xs.length<=1000): ZB g U H=some (.ref H1.length,H1++[xs]):=by rw[Zrc,h1,Ys0,if_pos (by rw[ZD];show xs.length<=100000;omega)]
theorem Zpg{o:Ex}{r:V×Hp}(h1:o U H=some (x,H1))(h2:f U H1=some (y,H2))(h3:Zbc [x,y] H2=some r): Zag o f U H=some r:=by rw[Zpe,h1,Ys0,h2,Ys0,h3]
theorem Zrm{b:Bool}(h1:t U H=some (b,H1)): Zbx t U H=some (!b,H1):=by rw[Zrd,h1];rfl
theorem Zph{r:Bool×Hp}(h1:t U H=some (true,H1))(h2:u U H1=some r): ZR t u U H=some r:=by rw[ZlB,h1];exact h2
theorem Zpi(h1:t U H=some (false,H1)): ZR t u U H=some (false,H1):=by rw[ZlB,h1];rfl
theorem Zp7(h1:t U H=some (true,H1)): tOr t u U H=some (true,H1):=by rw[Zmx,h1];rfl
theorem Zp8{r:Bool×Hp}(h1:t U H=some (false,H1))(h2:u U H1=some r): tOr t u U H=some r:=by rw[Zmx,h1];exact h2
theorem Zrn{g:Ex}(h1:f U H=some (.ref a,H1))(h2:g U H1=some (.int k,H2))(e:H2[a]?=some vs)(hk:k=(n:Int)): ZaB f (Zaw g) ZaU U H=some (.ref H2.length,H2++[vs.drop n]):=by
 simp only[ZaB,h1,Ys0,ZkF,h2,Ys1,ZkE,Zdz,e]
 rw[Zo4 vs hk]
theorem Zro{g:Ex}(h1:f U H=some (.ref a,H1))(h2:g U H1=some (.int k,H2))(e:H2[a]?=some vs)(hk:k=(n:Int)): ZaB f ZaU (Zaw g) U H=some (.ref H2.length,H2++[vs.take n]):=by
 simp only[ZaB,h1,Ys0,ZkF,h2,Ys1,ZkE,Zdz,e]
 rw[ZqY vs hk]
theorem Zrp{g:Src}{put:V->Lc->Option Lc}{c:Ts}(h1:g U H=some (nx,n,H1))(h2:Zah nx put c f U n 0 [] H1=some (vs,H2)): Z3 g put c f U H=some (.ref H2.length,H2++[vs]):=by
 rw[Zrg,h1,Ys0,h2];rfl
theorem Zrq(h1:f U H=some (.ref a,H1))(e:H1[a]?=some vs): ZQ f U H=some (ZI a,vs.length+1,H1):=by
 simp only[ZlD,h1,Ys0,e,Ys1]
theorem Zrr{g:Ex}{b:Nat}(h1:f U H=some (.ref a,H1))(h2:g U H1=some (.ref b,H2))(ea:H2[a]?=some vs)(eb:H2[b]?=some us): Ze5 f g U H=some (ZbF a b,min vs.length us.length+1,H2):=by
 simp only[Ze5,Zjz,h1,h2,Ys0,ea,eb,Ys1]
theorem Zpj{b:Int}(h1:g U H=some ([.int b],H1))(h0:0<=b)(h9:b<=1000): ZaM g U H=some (ZaL 0 1 b.toNat,b.toNat+1,H1):=by
 show(g U H).bind _=_
 rw[h1]
 exact ZsU h0 h9
theorem Zs0(h1:f U H=some (x,H1)): Zo f U H=some (some x,U,H1):=by rw[ZsN,h1];rfl
theorem Zs1(h1:f U H=some (x,H1)): Zk i f U H=some (none,Zi U i x,H1):=by rw[ZsO,h1];rfl
theorem Zs2(h1:f U H=some (x,H1)): ZN f U H=some (none,U,H1):=by rw[ZsP,h1];rfl
theorem Zs3{o i:Ex}{z:V}(h1:f U H=some (x,H1))(h2:o U H1=some (y,H2))(h3:i U H2=some (z,H3))(h4:Zbp y z x H3=some K): ZaE f o i U H=some (none,U,K):=by
 rw[ZsQ,h1,Ys0,h2,Ys0,h3,Ys0,h4];rfl
theorem Zs4{a:Sm}(h1:a U H=some (none,B,H1))(h2:b B H1=some r): Zh a b U H=some r:=by rw[Zp3 h1,h2]
theorem Zrs{a:Sm}(h1:t U H=some (true,H1))(h2:a U H1=some r): Zu t a b U H=some r:=by rw[Zmy,h1];exact h2
theorem Zrt{a:Sm}(h1:t U H=some (false,H1))(h2:b U H1=some r): Zu t a b U H=some r:=by rw[Zmy,h1];exact h2
theorem Zs5{g:Src}{put:V->Lc->Option Lc}(h1:g U H=some (nx,n,H1))(h2:Za6 nx put b n 0 U H1=some r): Zac g put b U H=some r:=by rw[ZsR,h1];exact h2
theorem Zru{g:Sm}(hl:as.length=n)(h:g (λi=>as[i]?) H=some (some v,O,H1)): Zs n g as H=some (v,H1):=by
 unfold Zs
 rw[if_pos hl,h]
 rfl
theorem Zp9{g:Sm}(hl:as.length=n)(h:g (λi=>as[i]?) H=some (none,O,H1)): Zs n g as H=some (.none,H1):=by
 unfold Zs
 rw[if_pos hl,h]
 rfl
end
def Ok(c:Option (V×Hp))(Q:V->Hp->Prop): Prop:=∃v H,c=some (v,H)/\Q v H
def Okl(c:Option (List V×Hp))(Q:List V->Hp->Prop): Prop:=∃v H,c=some (v,H)/\Q v H
def Okt(c:Option (Bool×Hp))(Q:Bool->Hp->Prop): Prop:=∃v H,c=some (v,H)/\Q v H
def Okb(c:Option Bool)(Q:Bool->Prop): Prop:=∃v,c=some v/\Q v
def Oks(c:Option (Option V×Lc×Hp))(R:V->Hp->Prop)(N:Lc->Hp->Prop): Prop:=∃o U H,c=some (o,U,H)/\(∀v,o=some v->R v H)/\(o=none->N U H)
def Okg(c:Option (Nx×Nat×Hp))(Q:Nx->Nat->Hp->Prop): Prop:=∃a b H,c=some (a,b,H)/\Q a b H
def Sq(x:V)(H:Hp)(G:Nx->Nat->Hp->Prop): Prop:=(∃a vs,x=.ref a/\H[a]?=some vs/\G (ZI a) (vs.length+1) H)∨∃vs,x=.tup vs/\G (Zc9 vs) (vs.length+1) H
def Zp(x y:V)(H:Hp)(G:Nx->Nat->Hp->Prop): Prop:=∃a b vs us,x=.ref a/\y=.ref b/\H[a]?=some vs/\H[b]?=some us/\G (ZbF a b) (min vs.length us.length+1) H
def Rg(xs:List V)(H:Hp)(G:Nx->Nat->Hp->Prop): Prop:=∃n:Nat,xs=[.int n]/\n<=1000/\G (ZaL 0 1 n) (n+1) H
def Frm(x y:V)(H:Hp)(Q:V->Hp->Prop): Prop:=∃(a:Nat) (n:Nat) (vs:List V),x=.ref a/\y=.int n/\H[a]?=some vs/\Q (.ref H.length) (H++[vs.drop n])
def Upt(x y:V)(H:Hp)(Q:V->Hp->Prop): Prop:=∃(a:Nat) (n:Nat) (vs:List V),x=.ref a/\y=.int n/\H[a]?=some vs/\Q (.ref H.length) (H++[vs.take n])
def Few(xs:List V)(P:Prop): Prop:=xs.length<=1000/\P
def Zgv(y z x:V)(H:Hp)(P:Hp->Prop): Prop:=∃K,Zbp y z x H=some K/\P K
theorem Ok.mono{Q':V->Hp->Prop}(h:Ok c Q)(k:∀v H,Q v H->Q' v H): Ok c Q':=by
 obtain⟨v,H,a,b⟩:=h;exact⟨v,H,a,k v H b⟩
theorem Okt.mono{c:Option (Bool×Hp)}{Q Q':Bool->Hp->Prop}(h:Okt c Q)(k:∀v H,Q v H->Q' v H): Okt c Q':=by
 obtain⟨v,H,a,b⟩:=h;exact⟨v,H,a,k v H b⟩
theorem Oks.mono{c:Option (Option V×Lc×Hp)}{R R':V->Hp->Prop}{N N':Lc->Hp->Prop}(h:Oks c R N)(k:∀v H,R v H->R' v H)(l:∀U H,N U H->N' U H): Oks c R' N':=by
 obtain⟨o,U,H,a,b,d⟩:=h;exact⟨o,U,H,a,λv e=>k v H (b v e),λe=>l U H (d e)⟩
theorem Ok.of(h:c=some (v,H))(k:Q v H): Ok c Q:=⟨v,H,h,k⟩
section
variable {U:Lc} {H:Hp} {Q:V->Hp->Prop} {L:List V->Hp->Prop} {T:Bool->Hp->Prop} {R:V->Hp->Prop} {N:Lc->Hp->Prop}
theorem Zav(h:Q (.int k) H): Ok (Zd k U H) Q:=⟨_,_,rfl,h⟩
theorem Zcw(h:Q .none H): Ok (Z9 U H) Q:=⟨_,_,rfl,h⟩
theorem Zeu{k:Bool}(h:Q (.bool k) H): Ok (ZaT k U H) Q:=⟨_,_,rfl,h⟩
theorem ZeF{k:Str}(h:Q (.str k) H): Ok (ZF k U H) Q:=⟨_,_,rfl,h⟩
theorem Zr(e:U i=some v)(h:Q v H): Ok (Za i U H) Q:=⟨_,_,ZsX e,h⟩
theorem Z6{o:V->V->Hp->Option (V×Hp)}{g:Ex}(h:Ok (f U H) λx H1=>Ok (g U H1) λy H2=>Ok (o x y H2) Q): Ok (Zc o f g U H) Q:=by
 obtain⟨x,H1,a,y,H2,b,z,H3,c,q⟩:=h
 exact⟨z,H3,ZsY a b c,q⟩
theorem Zuh{o:V->Hp->Option (V×Hp)}(h:Ok (f U H) λx H1=>Ok (o x H1) Q): Ok (ZE o f U H) Q:=by
 obtain⟨x,H1,a,z,H3,c,q⟩:=h
 exact⟨z,H3,Zug a c,q⟩
theorem Zan(h:L [] H): Okl (Ze U H) L:=⟨_,_,rfl,h⟩
theorem ZX(h:Ok (f U H) λx H1=>Okl (g U H1) λxs H2=>L (x::xs) H2): Okl (Zb f g U H) L:=by
 obtain⟨x,H1,a,y,H2,b,q⟩:=h
 exact⟨_,_,Zrj a b,q⟩
theorem Zi7(h:Okl (g U H) λxs H1=>Few xs (Q (.tup xs) H1)): Ok (ZO g U H) Q:=by
 obtain⟨x,H1,a,l,q⟩:=h
 exact⟨_,_,ZsZ a l,q⟩
theorem ZcN(h:Okl (g U H) λxs H1=>Few xs (Q (.ref H1.length) (H1++[xs]))): Ok (ZB g U H) Q:=by
 obtain⟨x,H1,a,l,q⟩:=h
 exact⟨_,_,Zrl a l,q⟩
theorem ZmC(h:Ok (f U H) λx H1=>Okb (Zab x H1) λb=>Q (.bool (!b)) H1): Ok (ZdC f U H) Q:=by
 obtain⟨x,H1,a,b,e,q⟩:=h
 exact⟨_,_,by rw[Zre,a,Ys0,e];rfl,q⟩
theorem ZmD{g:Ex}(h:Ok (f U H) λx H1=>Okb (Zab x H1) λb=>(b=true->Ok (g U H1) Q)/\(b=false->Q x H1)): Ok (Zbo f g U H) Q:=by
 obtain⟨x,H1,a,b,e,q1,q2⟩:=h
 cases b with
 | true=>obtain⟨v,K,c,q⟩:=q1 rfl;exact⟨v,K,by rw[ZlC,a,Ys0,e,Ys0,if_pos rfl];exact c,q⟩
 | false=>exact⟨x,H1,by rw[ZlC,a,Ys0,e];rfl,q2 rfl⟩
theorem Zay(h:Okl (g U H) λxs H1=>Ok (o xs H1) Q): Ok (Zg o g U H) Q:=by
 obtain⟨x,H1,a,z,H3,c,q⟩:=h
 exact⟨z,H3,Zrk a c,q⟩
theorem Zih{o:Ex}(h:Ok (o U H) λx H1=>Ok (f U H1) λy H2=>Ok (Zbc [x,y] H2) Q): Ok (Zag o f U H) Q:=by
 obtain⟨x,H1,a,y,H2,b,z,H3,c,q⟩:=h
 exact⟨z,H3,Zpg a b c,q⟩
theorem ZbY{g:Src}{put:V->Lc->Option Lc}{c:Ts}(h:Okg (g U H) λnx n H1=>Okl (Zah nx put c f U n 0 [] H1) λvs H2=>Q (.ref H2.length) (H2++[vs])): Ok (Z3 g put c f U H) Q:=by
 obtain⟨nx,n,H1,a,vs,H2,b,q⟩:=h
 exact⟨_,_,Zrp a b,q⟩
theorem ZaD(h:Ok (f U H) λx H1=>Okb (Zab x H1) λb=>T b H1): Okt (Zl f U H) T:=by
 obtain⟨x,H1,a,b,e,q⟩:=h
 exact⟨b,H1,by rw[ZsM,a,Ys0,e];rfl,q⟩
theorem ZiP(h:Okt (t U H) λb H1=>T (!b) H1): Okt (Zbx t U H) T:=by
 obtain⟨b,H1,a,q⟩:=h
 exact⟨_,H1,Zrm a,q⟩
theorem Zbl(h:T true H): Okt (ZJ U H) T:=⟨_,_,rfl,h⟩
theorem Ziy(h:T false H): Okt (Zb1 U H) T:=⟨_,_,rfl,h⟩
theorem Zcg(h:Okt (t U H) λb H1=>(b=true->Okt (u U H1) T)/\(b=false->T false H1)): Okt (ZR t u U H) T:=by
 obtain⟨b,H1,a,q1,q2⟩:=h
 cases b with
 | true=>obtain⟨v,K,c,q⟩:=q1 rfl;exact⟨v,K,Zph a c,q⟩
 | false=>exact⟨_,_,Zpi a,q2 rfl⟩
theorem ZeG(h:Okt (t U H) λb H1=>(b=true->T true H1)/\(b=false->Okt (u U H1) T)): Okt (tOr t u U H) T:=by
 obtain⟨b,H1,a,q1,q2⟩:=h
 cases b with
 | true=>exact⟨_,_,Zp7 a,q1 rfl⟩
 | false=>obtain⟨v,K,c,q⟩:=q2 rfl;exact⟨v,K,Zp8 a c,q⟩
theorem Zaq{b:Bool}{Q:Bool->Prop}(h:Q b): Okb (Zab (.bool b) H) Q:=⟨_,rfl,h⟩
theorem Zbm(h:N U H): Oks (ZG U H) R N:=⟨_,_,_,rfl,.s,λ_=>h⟩
theorem Za3(h:Ok (f U H) R): Oks (Zo f U H) R N:=by
 obtain⟨x,H1,a,q⟩:=h
 exact⟨_,_,_,Zs0 a,λv e=>by cases e;exact q,.s⟩
theorem Zbd(h:Ok (f U H) λx H1=>N (Zi U i x) H1): Oks (Zk i f U H) R N:=by
 obtain⟨x,H1,a,q⟩:=h
 exact⟨_,_,_,Zs1 a,.s,λ_=>q⟩
theorem Zgw(h:Ok (f U H) λx H1=>N U H1): Oks (ZN f U H) R N:=by
 obtain⟨x,H1,a,q⟩:=h
 exact⟨_,_,_,Zs2 a,.s,λ_=>q⟩
theorem Zae{a:Sm}(h:Oks (a U H) R λB H1=>Oks (b B H1) R N): Oks (Zh a b U H) R N:=by
 obtain⟨o,B,H1,c,q1,q2⟩:=h
 cases o with
 | some v=>exact⟨some v,B,H1,seq_ret c,q1,.s⟩
 | none=>
  obtain⟨o,ρ2,H2,d,p1,p2⟩:=q2 rfl
  exact⟨o,ρ2,H2,Zs4 c d,p1,p2⟩
theorem ZcR{a:Sm}(P:Lc->Hp->Prop)(h:Oks (a U H) R P)(k:∀B H1,P B H1->Oks (b B H1) R N): Oks (Zh a b U H) R N:=Zae (h.mono (λ_ _ q=>q) k)
theorem ZaS{a:Sm}(h:Okt (t U H) λc H1=>(c=true->Oks (a U H1) R N)/\(c=false->Oks (b U H1) R N)): Oks (Zu t a b U H) R N:=by
 obtain⟨c,H1,d,h1,h2⟩:=h
 cases c with
 | true=>obtain⟨o,B,K,e,q⟩:=h1 rfl;exact⟨o,B,K,Zrs d e,q⟩
 | false=>obtain⟨o,B,K,e,q⟩:=h2 rfl;exact⟨o,B,K,Zrt d e,q⟩
theorem ZbR{g:Src}{put:V->Lc->Option Lc}(h:Okg (g U H) λnx n H1=>Oks (Za6 nx put b n 0 U H1) R N): Oks (Zac g put b U H) R N:=by
 obtain⟨nx,n,H1,a,o,B,K,e,q⟩:=h
 exact⟨o,B,K,Zs5 a e,q⟩
theorem Zs6{o i:Ex}(h:Ok (f U H) λx H1=>Ok (o U H1) λy H2=>Ok (i U H2) λz H3=>Zgv y z x H3 (N U)): Oks (ZaE f o i U H) R N:=by
 obtain⟨x,H1,a,y,H2,b,z,H3,c,K,d,q⟩:=h
 exact⟨_,_,_,Zs3 a b c d,.s,λ_=>q⟩
theorem Z7{g:Sm}(hl:as.length=n)(h:Oks (g (λi=>as[i]?) H) R λ_ K=>R .none K): Ok (Zs n g as H) R:=by
 obtain⟨o,B,K,e,q1,q2⟩:=h
 cases o with
 | some v=>exact⟨v,K,Zru hl e,q1 v rfl⟩
 | none=>exact⟨.none,K,Zp9 hl e,q2 rfl⟩
theorem ZaR(h:Ok (f U H) λx H1=>Sq x H1 G): Okg (ZQ f U H) G:=by
 obtain⟨x,H1,a,⟨b,vs,rfl,e,q⟩ | ⟨vs,rfl,q⟩⟩:=h
 ·exact⟨_,_,_,Zrq a e,q⟩
 ·exact⟨_,_,_,by simp only[ZlD,a,Ys0],q⟩
theorem Zrv{g:Ex}(h:Ok (f U H) λx H1=>Ok (g U H1) λy H2=>Zp x y H2 G): Okg (Ze5 f g U H) G:=by
 obtain⟨x,H1,p,y,H2,r,a,b,vs,us,rfl,rfl,ea,eb,q⟩:=h
 exact⟨_,_,_,Zrr p r ea eb,q⟩
theorem Zke(h:Okl (g U H) λxs H1=>Rg xs H1 G): Okg (ZaM g U H) G:=by
 obtain⟨xs,H1,a,n,rfl,h9,q⟩:=h
 have:=Zpj a (Int.natCast_nonneg n) .l
 exact⟨_,_,_,this,by simpa using q⟩
theorem ZlE{g:Ex}(h:Ok (f U H) λx H1=>Ok (g U H1) λy H2=>Frm x y H2 Q): Ok (ZaB f (Zaw g) ZaU U H) Q:=by
 obtain⟨x,H1,p,y,H2,r,a,n,vs,rfl,rfl,e,q⟩:=h
 exact⟨_,_,Zrn p r e rfl,q⟩
theorem ZdN{g:Ex}(h:Ok (f U H) λx H1=>Ok (g U H1) λy H2=>Upt x y H2 Q): Ok (ZaB f ZaU (Zaw g) U H) Q:=by
 obtain⟨x,H1,p,y,H2,r,a,n,vs,rfl,rfl,e,q⟩:=h
 exact⟨_,_,Zro p r e rfl,q⟩
theorem ZcU(e:H[i]?=some vs)(h:G (ZI i) (vs.length+1) H): Sq (.ref i) H G:=.inl ⟨_,_,rfl,e,h⟩
theorem ZmE(h:G (Zc9 vs) (vs.length+1) H): Sq (.tup vs) H G:=.inr ⟨_,rfl,h⟩
theorem Zui(e:H[i]?=some vs)(e':H[j]?=some us)(h:G (ZbF i j) (min vs.length us.length+1) H): Zp (.ref i) (.ref j) H G:=⟨_,_,_,_,rfl,rfl,e,e',h⟩
theorem Zni(hn:n<=1000)(h:G (ZaL 0 1 n) (n+1) H): Rg [.int n] H G:=⟨n,rfl,hn,h⟩
theorem ZmF(e:H[i]?=some vs)(h:Q (.ref H.length) (H++[vs.drop n])): Frm (.ref i) (.int n) H Q:=⟨_,_,_,rfl,rfl,e,h⟩
theorem Zrw(e:H[i]?=some vs)(h:Q (.ref H.length) (H++[vs.drop 1])): Frm (.ref i) (.int 1) H Q:=⟨_,1,_,rfl,rfl,e,h⟩
theorem Zda(e:H[i]?=some vs)(h:Q (.ref H.length) (H++[vs.take n])): Upt (.ref i) (.int n) H Q:=⟨_,_,_,rfl,rfl,e,h⟩
theorem ZeH{P:Prop}(hl:xs.length<=1000)(h:P): Few xs P:=⟨hl,h⟩
theorem Zc6(e:H[i]?=some vs)(h0:i≠0)(h1:0<=k)(h2:k<vs.length)(h:P (H.set i (vs.set k.toNat v))): Zgv (.ref i) (.int k) v H P:=⟨_,Zuc e h0 h1 h2,h⟩
variable {a b:Int}
theorem ZmG(h:Q (.int (a+b)) H): Ok (ZC (.int a) (.int b) H) Q:=⟨_,_,rfl,h⟩
theorem Zi8(h:Q (.int (a-b)) H): Ok (Zai (.int a) (.int b) H) Q:=⟨_,_,rfl,h⟩
theorem Zs7(h:Q (.int (-a)) H): Ok (Zax (.int a) H) Q:=⟨_,_,rfl,h⟩
theorem ZeI(m:ZcB a b=true)(h:Q (.int (a*b)) H): Ok (ZaI (.int a) (.int b) H) Q:=⟨_,_,Znd H m,h⟩
theorem Zrx(h:Q (.int (2*b)) H): Ok (ZaI (.int 2) (.int b) H) Q:=⟨_,_,Zuf b H,h⟩
theorem ZmH(m:b≠0)(h:Q (.int (a.fmod b)) H): Ok (Zcp (.int a) (.int b) H) Q:=⟨_,_,Zua _ _ m,h⟩
theorem ZmI(m:0<b)(m2:b<2 ^ 30)(h:Q (.int (a.fdiv b)) H): Ok (ZcV (.int a) (.int b) H) Q:=⟨_,_,ZsW m m2,h⟩
theorem Znj(h:Q (.bool (decide (a<b))) H): Ok (oLt (.int a) (.int b) H) Q:=⟨_,_,rfl,h⟩
theorem Znk(h:Q (.bool (decide (a<=b))) H): Ok (oLe (.int a) (.int b) H) Q:=⟨_,_,rfl,h⟩
theorem Zuj(h:Q (.bool (decide (b<a))) H): Ok (oGt (.int a) (.int b) H) Q:=⟨_,_,rfl,h⟩
theorem Zs8(h:Q (.int (if a<0 then -a else a)) H): Ok (ZdD [.int a] H) Q:=⟨_,_,rfl,h⟩
theorem Zs9(h:Q (.int (if b>a then b else a)) H): Ok (ZdY [.int a,.int b] H) Q:=⟨_,_,rfl,h⟩
theorem ZmJ(h:Q (.int (if b<a then b else a)) H): Ok (ZdA [.int a,.int b] H) Q:=⟨_,_,rfl,h⟩
theorem ZgU(h:Q (.bool (a == b)) H): Ok (ZA (.int a) (.int b) H) Q:=⟨_,_,Zha a b H,h⟩
theorem Zuk(h:Q (.bool (!(a == b))) H): Ok (oNe (.int a) (.int b) H) Q:=⟨_,_,ZuR a b H,h⟩
theorem Zta{c d:Bool}(h:Q (.bool (!(c == d))) H): Ok (oNe (.bool c) (.bool d) H) Q:=⟨_,_,Zub H c d,h⟩
theorem Zi9(h:Q (.bool true) H): Ok (oIs .none .none H) Q:=⟨_,_,rfl,h⟩
theorem ZmK(h:Q (.bool false) H): Ok (oIs (.int a) .none H) Q:=⟨_,_,rfl,h⟩
theorem Ztb(h:Q (.bool false) H): Ok (oIs (.ref i) .none H) Q:=⟨_,_,rfl,h⟩
theorem ZmL(h:Q (.bool false) H): Ok (oIs (.tup vs) .none H) Q:=⟨_,_,rfl,h⟩
theorem ZlF(h:Q (.bool false) H): Ok (ZaA .none .none H) Q:=⟨_,_,rfl,h⟩
theorem ZlG(h:Q (.bool true) H): Ok (ZaA (.int a) .none H) Q:=⟨_,_,rfl,h⟩
theorem Ztc(e:H[i]?=some vs)(h:Q (.int vs.length) H): Ok (ZZ [.ref i] H) Q:=⟨_,_,Zb6 e,h⟩
theorem ZbS(e:H[i]?=some vs)(h0:0<=k)(hv:vs[k.toNat]?=some v)(h:Q v H): Ok (Zf (.ref i) (.int k) H) Q:=⟨_,_,Znf e h0 hv,h⟩
theorem ZuS(h0:0<=k)(h1:k<ns.length): (ns.map V.int)[k.toNat]?=some (.int (ns.getD k.toNat 0)):=by
 rw[List.getElem?_map,List.getD_eq_getElem?_getD,Yy1 .l]
 rfl
theorem Zch(e:H[i]?=some (ns.map V.int))(h0:0<=k)(h1:k<ns.length)(h:Q (.int (ns.getD k.toNat 0)) H): Ok (Zf (.ref i) (.int k) H) Q:=⟨_,_,Znf e h0 (ZuS h0 h1),h⟩
theorem Zbe(h0:0<=k)(hv:vs[k.toNat]?=some v)(h:Q v H): Ok (Zf (.tup vs) (.int k) H) Q:=⟨_,_,ZmB h0 hv,h⟩
theorem Ztd(e:H[i]?=some (ns.map V.int))(h:Q (.int ns.sum) H): Ok (ZcX [.ref i] H) Q:=⟨_,_,Zng e,h⟩
theorem Zqa(e:H[i]?=some vs)(h:Q (.ref H.length) (H++[vs])): Ok (ZdR [.ref i] H) Q:=⟨_,_,Zri e,h⟩
theorem Zcd(e:H[i]?=some vs)(h0:i≠0)(hl:vs.length<ZK)(h:Q .none (H.set i (vs++[v]))): Ok (Zbc [.ref i,v] H) Q:=⟨_,_,Zp4 e h0 hl,h⟩
theorem ZmM(e:H[i]?=some [v])(h0:0<=k)(hl:k<=1000)(h:Q (.ref H.length) (H++[List.replicate k.toNat v])): Ok (ZaI (.ref i) (.int k) H) Q:=⟨_,_,Zud e h0 (by rw[ZD];lia),h⟩
theorem ZbM(e:H[i]?=some vs)(e':H[j]?=some us)(hl:vs.length+us.length<=ZK)(h:Q (.ref H.length) (H++[vs++us])): Ok (ZC (.ref i) (.ref j) H) Q:=⟨_,_,ZsT e e' hl,h⟩
theorem ZaN{r:Option V}(h:j≠i)(k:U j=r): Zi U i v j=r:=by rw[ZsS,if_neg h];exact k
theorem Zz{x:List V}(e:H[i]?=some vs): (H++[x])[i]?=some vs:=(Ext.one H x).at e
theorem ZW{X:Hp}(e:H[i]?=some vs): (H++X)[i]?=some vs:=Ext.at ⟨X,rfl⟩ e
theorem Zbg{x:List V}(n:j≠i)(e:H[i]?=some vs): (H.set j x)[i]?=some vs:=by rw[Yy2 n];exact e
theorem Zf7(x y:List V): (H++[x]).set H.length y=H++[y]:=by simp
theorem lt_of_at(e:H[i]?=some vs): i<H.length:=(Zz6.mp e).1
theorem Zf8{put:V->Lc->Option Lc}{b:Sm}(P:Nat->Lc->Hp->Prop)(init:P 0 U H)(step:∀i U H,i<m->P i U H->∃v B,nx i H=some (some v)/\put v U=some B/\Oks (b B H) R (P (i+1)))(fin:∀U H,P m U H->nx m H=some none)(done:∀U H,P m U H->N U H): Oks (Za6 nx put b (m+1) 0 U H) R N:=by
 have key:∀(k i:Nat) (U:Lc) (H:Hp),i+k=m->P i U H->Oks (Za6 nx put b (k+1) i U H) R N:=by
  intro k
  induction k with
  | zero=>
   intro i U H e h
   have:i=m:=by omega
   subst this
   exact⟨none,U,H,by simp[Za6,fin U H h],.s,λ_=>done U H h⟩
  | succ k ih=>
   intro i U H e h
   obtain⟨v,B,h1,h2,o,ρ2,H2,h3,q1,q2⟩:=step i U H .l h
   cases o with
   | some u=>
    refine⟨some u,ρ2,H2,?_,q1,.s⟩
    show((nx i H).bind _)=_
    rw[h1]
    simp only[Ys0,h2,h3]
   | none=>
    obtain⟨o,ρ3,H3,h5,h6⟩:=ih (i+1) ρ2 H2 .l (q2 rfl)
    refine⟨o,ρ3,H3,?_,h6⟩
    show((nx i H).bind _)=_
    rw[h1]
    simp only[Ys0,h2,h3]
    exact h5
 exact key m 0 U H .l init
theorem ZdO{b:Sm}(P:Nat->Lc->Hp->Prop)(init:P 0 U H)(step:∀(i:Nat) U H,i<m->P i U H->Oks (b (Zi U j (.int i)) H) R (P (i+1)))(done:∀U H,P m U H->N U H): Oks (Za6 (ZaL 0 1 m) (Zw j) b (m+1) 0 U H) R N:=
 Zf8 P init (λi U H hi h=>⟨.int i,_,by rw[Zeh,if_pos hi];simp,Zbr _ _ _,step i U H hi h⟩) (λU H h=>by simp) done
theorem ZbZ{a:Nat}{b:Sm}(P:Nat->Lc->Hp->Prop)(init:P 0 U H)(keep:∀i U H,P i U H->H[a]?=some vs)(step:∀i x U H,vs[i]?=some x->P i U H->Oks (b (Zi U j x) H) R (P (i+1)))(done:∀U H,P vs.length U H->N U H): Oks (Za6 (ZI a) (Zw j) b (vs.length+1) 0 U H) R N:=
 Zf8 P init (λi U H hi h=>⟨vs[i],_,by rw[ZbB (keep _ _ _ h),Yy1 hi],Zbr _ _ _,step i _ U H (Yy1 hi) h⟩) (λU H h=>by rw[ZbB (keep _ _ _ h)];simp) done
theorem ZbG{put:V->Lc->Option Lc}{c:Ts}(P:Nat->List V->Hp->Prop)(hm:m<=ZK)(init:P 0 [] H)(step:∀i acc H,i<m->P i acc H->acc.length<=i/\∃v B,nx i H=some (some v)/\put v U=some B/\Okt (c B H) λb H1=>(b=true->Ok (f B H1) λu H2=>P (i+1) (acc++[u]) H2)/\(b=false->P (i+1) acc H1))(fin:∀acc H,P m acc H->nx m H=some none)(done:∀acc H,P m acc H->L acc H): Okl (Zah nx put c f U (m+1) 0 [] H) L:=by
 have key:∀(k i:Nat) (acc:List V) (H:Hp),i+k=m->P i acc H->Okl (Zah nx put c f U (k+1) i acc H) L:=by
  intro k
  induction k with
  | zero=>
   intro i acc H e h
   have:i=m:=by omega
   subst this
   exact⟨acc,H,by simp[Zah,fin acc H h],done acc H h⟩
  | succ k ih=>
   intro i acc H e h
   obtain⟨hl,v,B,h1,h2,b,H1,h3,q1,q2⟩:=step i acc H .o h
   have hl:acc.length<ZK:=by lia
   cases b with
   | true=>
    obtain⟨u,H2,h4,q⟩:=q1 rfl
    obtain⟨acc',H',h5,h6⟩:=ih (i+1) (acc++[u]) H2 .l q
    refine⟨acc',H',?_,h6⟩
    show((nx i H).bind _)=_
    rw[h1]
    simp only[Ys0,h2,h3,if_true,h4,if_pos hl]
    exact h5
   | false=>
    obtain⟨acc',H',h5,h6⟩:=ih (i+1) acc H1 .o (q2 rfl)
    refine⟨acc',H',?_,h6⟩
    show((nx i H).bind _)=_
    rw[h1]
    simp only[Ys0,h2,h3]
    exact h5
 exact key m 0 [] H .o init
theorem Zul(F:Nat->V)(hm:m<=1000)(step:∀i:Nat,i<m->Ok (f (Zi U j (.int i)) H) λu K=>u=F i/\K=H)(done:L ((List.range m).map F) H): Okl (Zah (ZaL 0 1 m) (Zw j) ZJ f U (m+1) 0 [] H) L:=by
 refine ZbG (λi acc K=>acc=(List.range i).map F/\K=H) (by rw[ZD];lia) ⟨rfl,rfl⟩ (λi acc K hi h=>?_) (λacc K h=>by simp) (λacc K h=>by rw[h.1,h.2];exact done)
 obtain⟨rfl,rfl⟩:=h
 refine⟨.s,.int i,_,by rw[Zeh,if_pos hi];simp,Zbr _ _ _,Zbl ⟨λ_=>?_,.s⟩⟩
 refine(step i hi).mono λu K h=>?_
 rw[h.1,h.2]
 exact⟨by rw[List.range_succ,List.map_append];rfl,rfl⟩
theorem ZmN(F:Nat->Int)(hm:m<=1000)(step:∀i:Nat,i<m->Ok (f (Zi U j (.int i)) H) λu K=>u=.int (F i)/\K=H)(done:L (((List.range m).map F).map V.int) H): Okl (Zah (ZaL 0 1 m) (Zw j) ZJ f U (m+1) 0 [] H) L:=
 Zul (λi=>.int (F i)) hm step (by rw[List.map_map]at done;exact done)
theorem Zum{k a b:Nat}{ws:List V}(e:H[a]?=some vs)(e':H[b]?=some ws)(hl:us.length=min vs.length ws.length)(hm:vs.length<=1000)(step:∀(i:Nat) x y u,vs[i]?=some x->ws[i]?=some y->us[i]?=some u->Ok (f (Zi (Zi U j x) k y) H) λv K=>v=u/\K=H)(done:L us H): Okl (Zah (ZbF a b) (ZcZ j k) ZJ f U (min vs.length ws.length+1) 0 [] H) L:=by
 refine ZbG (λi acc K=>acc=us.take i/\K=H) (by rw[ZD];lia) ⟨.s,rfl⟩ (λi acc K hi h=>?_) (λacc K h=>by rw[h.2];exact Zpf e e') (λacc K h=>by rw[h.1,h.2,<-hl,List.take_of_length_le (Zz10 _)];exact done)
 obtain⟨rfl,rfl⟩:=h
 have e1:vs[i]?=some (vs[i]' .l):=Yy1 .o
 have e2:ws[i]?=some (ws[i]' .l):=Yy1 .o
 have e3:us[i]?=some (us[i]' .l):=Yy1 .o
 refine⟨by simp;lia,_,_,Zp6 e e' e1 e2,Zrh _ _ _ _ _,Zbl ⟨λ_=>?_,.s⟩⟩
 refine(step i _ _ _ e1 e2 e3).mono λu K h=>?_
 rw[h.1,h.2]
 exact⟨by rw[List.take_add_one,e3];rfl,rfl⟩
end
theorem ZgV(h:Ok c λu L=>u=v/\L=K): c=some (v,K):=by
 obtain⟨u,L,a,rfl,rfl⟩:=h;exact a
theorem Zte{B Y:Hp}(h:∃X,K=B++X): ∃X,K++Y=B++X:=by
 obtain⟨X,rfl⟩:=h
 exact⟨X++Y,by rw[List.append_assoc]⟩
theorem Ztf{B:Hp}: ∃X,B=B++X:=⟨[],(List.append_nil _).symm⟩
theorem Za7{b:Bool}(h:b=true)(a:A): (b=true->A)/\(b=false->B):=⟨λ_=>a,λe=>by rw[h]at e;exact absurd e .d⟩
theorem ZaV{b:Bool}(h:b=false)(a:B): (b=true->A)/\(b=false->B):=⟨λe=>by rw[h]at e;exact absurd e .d,λ_=>a⟩
end PM
end
section
namespace PM
open PySem PySem.W PyProof.Rows PyProof
variable{g:Exs}{G:Nx->Nat->Hp->Prop}
section
variable {U:Lc} {H:Hp} {Q:V->Hp->Prop}
theorem Zgx{x y:Str}(hx:PyData.strOk x=true)(hy:PyData.strOk y=true)(h:Q (.bool (PyData.eqv (.str x) (.str y))) H): Ok (ZA (.str x) (.str y) H) Q:=⟨_,_,by simp[ZA,ZbT,toD,SeqAt.shaped,PyData.canLay0,PyData.depth,hx,hy],h⟩
theorem Zun{a b c:Int}(hc:0<c)(hb:a<b): Builtin.Range.rangeSize a b c=(b-a-1) / c+1:=by
 unfold Builtin.Range.rangeSize
 rw[if_pos hc,if_pos hb]
theorem Ztg{a b c:Int}(ha:0<=a)(hb:a<b)(hb9:b<=1000)(hc:0<c)(hc9:c<=1000): ZbE a b c H=some (ZaL a c (rngN a b c),rngN a b c+1,H):=by
 have e:=Zun hc hb
 have h0:0<=(b-a-1) / c:=Int.ediv_nonneg .l .l
 have h2:(b-a-1) / c<=b-a-1:=Int.ediv_le_self _ .o
 unfold ZbE
 rw[if_pos]
 refine⟨.l,?_,.o,by unfold rngN;rw[ZD];lia,PyProof.noPylong_small .o⟩
 unfold Builtin.Range.small
 rw[e]
 simp only[Builtin.Range.rangeFitsLong,Bool.and_eq_true,Bool.or_eq_true,decide_eq_true_eq,beq_iff_eq]
 rw[if_pos hc]
 simp only[Bool.and_eq_true,decide_eq_true_eq]
 refine⟨⟨⟨⟨?_,?_⟩,?_⟩,?_⟩,?_⟩ <;> first | lia | (apply Or.inl;omega) | (apply Or.inr;omega)
def Rg3(xs:List V)(H:Hp)(G:Nx->Nat->Hp->Prop): Prop:=∃a b c:Int,xs=[.int a,.int b,.int c]/\0<=a/\a<b/\b<=1000/\0<c/\c<=1000/\G (ZaL a c (rngN a b c)) (rngN a b c+1) H
theorem Zpk(h:Okl (g U H) λxs H1=>Rg3 xs H1 G): Okg (ZaM g U H) G:=by
 obtain⟨xs,H1,e,a,b,c,rfl,h1,h2,h3,h4,h5,q⟩:=h
 exact⟨_,_,_,by show(g U H).bind _=_;rw[e];exact Ztg h1 h2 h3 h4 h5,q⟩
def RgA(xs:List V)(H:Hp)(G:Nx->Nat->Hp->Prop): Prop:=Rg xs H G∨Rg3 xs H G
theorem Zqb(h:Okl (g U H) λxs H1=>RgA xs H1 G): Okg (ZaM g U H) G:=by
 obtain⟨xs,H1,e,q | q⟩:=h
 ·exact Zke ⟨xs,H1,e,q⟩
 ·exact Zpk ⟨xs,H1,e,q⟩
theorem Znl{n:Nat}(hn:n<=1000)(h:G (ZaL 0 1 n) (n+1) H): RgA [.int n] H G:=.inl (Zni hn h)
end
end PM
end
section
namespace PM
open PySem PySem.W PyProof.Rows PyProof My
section
variable {U:Lc} {H:Hp} {Q:V->Hp->Prop} {L:List V->Hp->Prop}
theorem Zoq(bs:List Bool): Zet (bs.map V.bool)=some bs:=by
 induction bs with
 | nil=>rfl
 | cons b bs ih=>simp[Zet,ih]
theorem ZmO{i:Nat}{bs:List Bool}(e:H[i]?=some (bs.map V.bool))(h:Q (.bool (bs.any id)) H): Ok (Zg9 [.ref i] H) Q:=⟨_,_,by unfold Zg9;rw[ZcQ e,Zoq];rfl,h⟩
end
def pr(q:Int×Int): V:=.tup [.int q.1,.int q.2]
def od: Option Int->PyData
 | none=>.none
 | some k=>.int k
theorem Zkf{a b:Int}(h1:-(2 ^ 64)<b)(h2:b<2 ^ 64): ZcB a b=true:=Zix (IntMulOk.of_right (intBits_le_64 h1 h2))
theorem Zh9{a b:Int}(h1:-(2 ^ 64)<a)(h2:a<2 ^ 64): ZcB a b=true:=Zix (IntMulOk.of_left (intBits_le_64 h1 h2))
section
variable {H:Hp} {Q:V->Hp->Prop} {a b:Int}
theorem Zuo(h:Q (.int T9) H): Ok (ZbJ (.int 10) (.int 9) H) Q:=⟨_,_,Zue H,h⟩
theorem Zth(h:Q (.int T60) H): Ok (ZbJ (.int 10) (.int 60) H) Q:=⟨_,_,ZsV H,h⟩
theorem ZlH(h1:-(2 ^ 64)<b)(h2:b<2 ^ 64)(h:Q (.int (a*b)) H): Ok (ZaI (.int a) (.int b) H) Q:=ZeI (Zkf h1 h2) h
end
end PM
end
section
namespace TM
open PySem PM
variable{H:Hp}{v:V}{F G:List Nat}{vs:List V}{d:Type}{n:Nat}
inductive T where
 | none
 | bool (b:Bool)
 | int (i:Int)
 | str (s:Str)
 | tup (ts:List T)
 | lst (ts:List T)
 | ob (c:Nat×List Str) (ts:List T)
variable{t:T}{ts:List T}{P:List V->List T->List Nat->Prop}
mutual
inductive RF(H:Hp): V->T->List Nat->Prop where
 | none:RF H .none .none []
 | bool (b:Bool):RF H (.bool b) (.bool b) []
 | int (i:Int):RF H (.int i) (.int i) []
 | str (s:Str):RF H (.str s) (.str s) []
 | tup {vs:List V} {ts:List T} {F:List Nat}:RFs H vs ts F->RF H (.tup vs) (.tup ts) F
 | ref {a:Nat} {vs:List V} {ts:List T} {F:List Nat}:H[a]?=some vs->RFs H vs ts F->RF H (.ref a) (.lst ts) (a::F)
 | obj {c:Nat×List Str} {a:Nat} {vs:List V} {ts:List T} {F:List Nat}:H[a]?=some vs->RFs H vs ts F->RF H (.obj c a) (.ob c ts) (a::F)
inductive RFs(H:Hp): List V->List T->List Nat->Prop where
 | nil:RFs H [] [] []
 | cons {v:V} {t:T} {F:List Nat} {vs:List V} {ts:List T} {G:List Nat}:RF H v t F->RFs H vs ts G->RFs H (v::vs) (t::ts) (F++G)
end
mutual
theorem RF.frame{H H':Hp}{v:V}{t:T}{F:List Nat}(r:RF H v t F)(h:∀a∈F,H'[a]?=H[a]?): RF H' v t F:=by
 cases r with
 | none=>exact .none
 | bool b=>exact .bool b
 | int i=>exact .int i
 | str s=>exact .str s
 | tup hs=>exact .tup (RFs.frame hs h)
 | ref e hs=>exact .ref ((h _ Zz5).trans e) (RFs.frame hs λa m=>h a (Zz2 _ m))
 | obj e hs=>exact .obj ((h _ Zz5).trans e) (RFs.frame hs λa m=>h a (Zz2 _ m))
theorem RFs.frame{H H':Hp}{vs:List V}{ts:List T}{F:List Nat}(r:RFs H vs ts F)(h:∀a∈F,H'[a]?=H[a]?): RFs H' vs ts F:=by
 cases r with
 | nil=>exact .nil
 | cons a b=>exact .cons (RF.frame a λx m=>h x (Zz4 _ m)) (RFs.frame b λx m=>h x (Zz3 _ m))
end
mutual
theorem RF.lt{H:Hp}{v:V}{t:T}{F:List Nat}(r:RF H v t F): ∀a∈F,a<H.length:=by
 cases r with
 | none=>intro a m;cases m
 | bool b=>intro a m;cases m
 | int i=>intro a m;cases m
 | str s=>intro a m;cases m
 | tup hs=>exact RFs.lt hs
 | ref e hs=>
  intro x m
  rcases Zz7.mp m with rfl | m
  ·exact(Zz6.mp e).1
  ·exact RFs.lt hs x m
 | obj e hs=>
  intro x m
  rcases Zz7.mp m with rfl | m
  ·exact(Zz6.mp e).1
  ·exact RFs.lt hs x m
theorem RFs.lt{H:Hp}{vs:List V}{ts:List T}{F:List Nat}(r:RFs H vs ts F): ∀a∈F,a<H.length:=by
 cases r with
 | nil=>intro a m;cases m
 | cons a b=>
  intro x m
  rcases Zz8.mp m with m | m
  ·exact RF.lt a x m
  ·exact RFs.lt b x m
end
theorem RF.ext(r:RF H v t F)(X:Hp): RF (H++X) v t F:=r.frame λa m=>Yy0 (r.lt a m)
theorem RFs.ext(r:RFs H vs ts F)(X:Hp): RFs (H++X) vs ts F:=r.frame λa m=>Yy0 (r.lt a m)
theorem RFs.ind(h0:P [] [] [])(h1:∀{v t F vs ts G},RF H v t F->RFs H vs ts G->P vs ts G->P (v::vs) (t::ts) (F++G))(r:RFs H vs ts F): P vs ts F:=
 @RFs.rec H (λ_ _ _ _=>True) (λvs ts F _=>P vs ts F) trivial (λ_=>trivial) (λ_=>trivial) (λ_=>trivial) (λ_ _=>trivial) (λ_ _ _=>trivial) (λ_ _ _=>trivial) h0 (λa r _ ih=>h1 a r ih) vs ts F r
theorem RFs.length(r:RFs H vs ts F): vs.length=ts.length:=r.ind (P:=λvs ts _=>vs.length=ts.length) rfl λ_ _ ih=>congrArg (· + 1) ih
theorem RFs.append{us:List V}{ss:List T}(r:RFs H vs ts F)(h:RFs H us ss G): RFs H (vs++us) (ts++ss) (F++G):=r.ind (P:=λvs ts F=>RFs H (vs++us) (ts++ss) (F++G)) h λa _ ih=>by rw[List.append_assoc];exact .cons a ih
theorem RFs.one(r:RF H v t F): RFs H [v] [t] F:=by
 have:=RFs.cons r RFs.nil
 rwa [List.append_nil]at this
theorem RFs.snoc(r:RFs H vs ts F)(x:RF H v t G): RFs H (vs++[v]) (ts++[t]) (F++G):=r.append (.one x)
theorem RFs.at{i:Nat}(r:RFs H vs ts F)(e:ts[i]?=some t): ∃v G,vs[i]?=some v/\RF H v t G/\G.Sublist F:=
 r.ind (P:=λvs ts F=>∀i,ts[i]?=some t->∃v G,vs[i]?=some v/\RF H v t G/\G.Sublist F) (λi e=>by simp at e) (λa _ ih i e=>by
  cases i with
  | zero=>
   cases e
   exact⟨_,_,rfl,a,List.sublist_append_left _ _⟩
  | succ i=>
   obtain⟨x,G,hx,hr,hs⟩:=ih i e
   exact⟨x,G,hx,hr,hs.trans (List.sublist_append_right _ _)⟩) i e
section
variable {O N:List Nat} {u:Bool}
def OA2(o:V->V->Hp->Option (V×Hp))(q:T->T->Option T): Prop:=∀(H:Hp) (v1 v2:V) (t1 t2 t:T) (F1 F2:List Nat),RF H v1 t1 F1->RF H v2 t2 F2->q t1 t2=some t->∃v,o v1 v2 H=some (v,H)/\RF H v t []
def ZaZ(fr:Bool)(f: .y)(p:List T->Option T): Prop:=∀(H:Hp) (vs:List V) (ts:List T) (t:T) (F1:List Nat),0<H.length->RFs H vs ts F1->p ts=some t->∃v X F,f vs H=some (v,H++X)/\RF (H++X) v t F/\(∀a∈F,H.length<=a∨a∈F1)/\(fr=true->F.Nodup/\∀a∈F,H.length<=a)
end
section
variable {O N:List Nat} {u:Bool}
noncomputable def ZvD: T->T->Option T
 | .int a,.int b=>some (.int (a-b))
 | _,_=>none
noncomputable def Zdf(f:T->Option PyData): List T->Option (List PyData)
 | []=>some []
 | v::vs=>(f v).bind λd=>(Zdf f vs).bind λds=>some (d::ds)
def ZcF: Nat->T->Option PyData
 | _,.none=>some .none
 | _,.bool b=>some (.bool b)
 | _,.int i=>some (.int i)
 | _,.str x=>some (.str x)
 | n+1,.tup vs=>(Zdf (ZcF n) vs).map .tuple
 | n+1,.lst vs=>(Zdf (ZcF n) vs).map .list
 | 0,.tup _=>none
 | 0,.lst _=>none
 | _,.ob _ _=>none
theorem ZlI{f:V->Option PyData}{g:T->Option PyData}(h:∀v t F,RF H v t F->f v=g t)(r:RFs H vs ts F): ZcW f vs=Zdf g ts:=r.ind (P:=λvs ts _=>ZcW f vs=Zdf g ts) rfl λa _ ih=>by simp only[ZcW,Zdf,h _ _ _ a,ih]
theorem ZmP: ∀(n:Nat) (v:V) (t:T) (F:List Nat),RF H v t F->toD H n v=ZcF n t:=by
 intro n
 induction n with
 | zero=>intro v t F r;cases r <;> rfl
 | succ n ih=>
  intro v t F r
  cases r with
  | none=>rfl
  | bool=>rfl
  | int=>rfl
  | str=>rfl
  | tup hs=>simp only[toD,ZcF,ZlI ih hs]
  | ref e hs=>simp only[toD,ZcF,e,Ys0,ZlI ih hs]
  | obj e hs=>rfl
def Ze6(a b:T): Option Bool:=(ZcF ZaX a).bind λd=>(ZcF ZaX b).bind λe=>if SeqAt.shaped d=true/\SeqAt.shaped e=true then some (PyData.eqv d e)else none
def qNe(a b:T): Option T:=(Ze6 a b).map λc=>.bool !c
theorem Zti{v1 v2:V}{t1 t2:T}{F1 F2:List Nat}(r1:RF H v1 t1 F1)(r2:RF H v2 t2 F2): ZbT v1 v2 H=Ze6 t1 t2:=by
 simp only[ZbT,Ze6,ZmP ZaX _ _ _ r1,ZmP ZaX _ _ _ r2]
theorem ZuT: OA2 oNe qNe:=λH v1 v2 t1 t2 t F1 F2 r1 r2 h=>by
 obtain⟨c,h1,h⟩:=Zz1.mp h
 subst h
 exact⟨_,by simp only[oNe,Zti r1 r2,h1,Ys1],.bool _⟩
theorem RFs.one_inv(r:RFs H vs [t] F): ∃v,vs=[v]/\RF H v t F:=by
 cases r with
 | cons a b=>cases b;rw[List.append_nil];exact⟨_,rfl,a⟩
theorem RFs.two_inv{t':T}(r:RFs H vs [t,t'] F): ∃v v' F1 F2,vs=[v,v']/\RF H v t F1/\RF H v' t' F2/\F=F1++F2:=by
 cases r with
 | cons a b=>obtain⟨v',h1,h2⟩:=b.one_inv;subst h1;exact⟨_,_,_,_,rfl,a,h2,rfl⟩
noncomputable def Zb7: List T->Option (List Int)
 | []=>some []
 | .int k::vs=>(Zb7 vs).map λks=>k::ks
 | _::_=>none
end
def dec(P:Prop): Bool:=@decide P (Classical.propDecidable P)
theorem dec_iff{P:Prop}: dec P=true↔P:=by unfold dec;exact @decide_eq_true_iff P (Classical.propDecidable P)
theorem Znm{P:Prop}(h:P): dec P=true:=dec_iff.mpr h
theorem Zjm{P:Prop}(h:¬P): dec P=false:=by
 cases e:dec P with
 | true=>exact absurd (dec_iff.mp e) h
 | false=>rfl
def tab(n:Nat)(f:Nat->d): List d:=(List.range n).map f
theorem Zry{f:Nat->d}: (tab n f).length=n:=by simp[tab]
theorem ZkG{f:Nat->d}: tab n f++[f n]=tab (n+1) f:=by simp[tab,List.range_succ]
def Pk(c:Option T)(Q:T->Prop): Prop:=∃t,c=some t/\Q t
mutual
def dd: T->PyData
 | .none=>.none
 | .bool b=>.bool b
 | .int i=>.int i
 | .str x=>.str x
 | .tup ts=>.tuple (dds ts)
 | .lst ts=>.list (dds ts)
 | .ob _ _=>.none
def dds: List T->List PyData
 | []=>[]
 | t::ts=>dd t::dds ts
end
theorem Ziz{f:T->Option PyData}: ∀{ts:List T},(∀t∈ts,f t=some (dd t))->Zdf f ts=some (dds ts)
 | [],_=>rfl
 | t::ts,h=>by simp only[Zdf,h t Zz5,Ziz λt m=>h t (Zz2 _ m),Ys0,dds]
theorem ZiQ: ∀{ts:List T},(∀t∈ts,PyData.canLay0 (dd t)=true)->PyData.canLayAll0 (dds ts)=true
 | [],_=>rfl
 | t::ts,h=>by simp only[dds,PyData.canLayAll0,h t Zz5,ZiQ λt m=>h t (Zz2 _ m),Bool.and_self]
theorem ZiR{n:Nat}: ∀{ts:List T},(∀t∈ts,PyData.depth (dd t)<=n)->PyData.depthAll (dds ts)<=n
 | [],_=>by simp[dds,PyData.depthAll]
 | t::ts,h=>by
  have h1:=h t Zz5
  have h2:=ZiR λt m=>h t (Zz2 _ m)
  simp only[dds,PyData.depthAll]
  lia
def oT: Option Int->T
 | none=>.none
 | some x=>.int x
theorem Zrz: oT none=.none:=rfl
theorem ZrA{c:Int}: oT (some c)=.int c:=rfl
end TM
end
section
namespace PM
open PySem PySem.W PySem.Calls PyProof.Rows PyProof PyProof.Rows.LCg PyProof.Rows.LCp
variable{e it l:Addr}{i a:Nat}{h:Heap}{P:Prop}{H:Hp}{o:Option V}{vs:List V}{pos:Pos}{e1:Expr}{f:Ex}{es:List Expr}
variable{prog:Program}{w:World}{M:Cx}
noncomputable def sNo: Sm:=λ_ _=>none
noncomputable def inD(d:PyData): PyData->Option Bool
 | .list xs=>if PyData.canLayAll0 xs=true/\d.canLay0=true/\d.depth<=64 then some (xs.any λy=>PyData.eqv y d)else none
 | .tuple xs=>if PyData.canLayAll0 xs=true/\d.canLay0=true/\d.depth<=64 then some (xs.any λy=>PyData.eqv y d)else none
 | _=>none
def ZjA(a b:V)(H:Hp): Option Bool:=(toD H ZaX a).bind λd=>(toD H ZaX b).bind λe=>inD d e
def oIn(a b:V)(H:Hp): Option (V×Hp):=(ZjA a b H).map λc=>(.bool c,H)
noncomputable def ZcS(a:Nat): Nx:=λi H=>H[a]?.bind λvs=>match vs[i]? with
 | some x=>some (some (.tup [.int i,x]))
 | none=>if i=vs.length then some none else none
def Zjn(u:V)(H:Hp): Option (Nx×Nat×Hp):=match u with
 | .ref a=>H[a]?.map λvs=>(ZcS a,vs.length+1,H)
 | _=>none
def ZgW(f:Ex): Src:=λU H=>(f U H).bind λp=>Zjn p.1 p.2
theorem S1.no{st:Stmt}: S1 prog w M st sNo:=λW U H fr s Q E r rp hf post=>by cases hf
theorem Znn: Op2 prog w (compareOp .In) oIn:=by
 intro M W U H fr s Q E a b x y v H' r hx hy ho post
 obtain⟨c,e1,e2⟩:=Zz1.mp ho
 cases e2
 obtain⟨d,h1,e1⟩:=Zz0.mp e1
 obtain⟨e,h2,e1⟩:=Zz0.mp e1
 obtain⟨as,R1⟩:=ZdF r ZaX a x d hx h1
 obtain⟨bs,R2⟩:=ZdF r ZaX b y e hy h2
 have hu:=M.hu
 unfold inD at e1
 split at e1
 ·split at e1
  ·rename_i hs
   cases e1
   exact SeqAt.in_list_reads R2 R1 hs.1 hs.2.1 .l (post W s.heap s.toks _ (.refl W) r (.bool _))
  ·cases e1
 ·split at e1
  ·rename_i hs
   cases e1
   exact SeqAt.in_tuple_reads R2 R1 hs.1 hs.2.1 .o (post W s.heap s.toks _ (.refl W) r (.bool _))
  ·cases e1
 ·cases e1
def ES(e it l:Addr)(i:Nat)(h:Heap): Prop:=(∃old,IsEnum h e it i old)/\h.IsListIter it l i
theorem ES.at{h':Heap}(x:ES e it l i h)(k:∀a∈[e,it],∀o,h.get? a=some o->h'.get? a=some o): ES e it l i h':=by
 obtain⟨⟨old,h1⟩,h2⟩:=x
 exact⟨⟨old,k e .s _ h1⟩,h2.at λo x=>k it .s o x⟩
theorem ES.have(x:ES e it l i h): ∀a∈[e,it],∃o,h.get? a=some o:=by
 obtain⟨⟨old,h1⟩,o,h2,_⟩:=x
 intro a ha
 simp at ha
 rcases ha with rfl | rfl
 ·exact⟨_,h1⟩
 ·exact⟨_,h2⟩
theorem enumW: WT [e,it] (ES e it l):=⟨λi h h' x k=>x.at k,λi h x=>x.have⟩
theorem Zqc(h:ZcS a i H=some o) (hp:∀vs,H[a]?=some vs->(match o with
  | none=>i=vs.length
  | some v=>∃x,vs[i]?=some x/\v=.tup [.int i,x])->P):P:=by
 obtain⟨vs,e1,h⟩:=Zz0.mp h
 refine hp vs e1 ?_
 split at h
 ·rename_i x h1
  cases h
  exact⟨_,h1,rfl⟩
 ·obtain⟨hi,e⟩:=ZbD h
  cases e
  exact hi
theorem Ztj{W0:Wd}(ea:W0.At a l)(hei:e≠it)(hle:l≠e)(hli:l≠it): WOk prog w M W0 e [e,it] (ES e it l) (ZcS a):=by
 intro i W U H fr h o le r st hn
 refine Zqc hn λvs e1 ho=>?_
 obtain⟨_,xs,k1,g1,v1⟩:=r.at e1 (le.at ea)
 refine⟨_,_,_,_,_,_,WalksT.enumerate M.hh e it l hei hle hli xs.toArray,λa ha=>ha,⟨st.1,st.2,⟨_,g1,rfl,k1,rfl⟩⟩,λh x=>⟨x.1,x.2.1⟩,?_⟩
 cases o with
 | none=>simpa [v1.length]using ho
 | some v=>
  obtain⟨x,h1,rfl⟩:=ho
  obtain⟨x',hx,rx⟩:=v1.at h1
  refine⟨by simpa using (Zz6.mp hx).1,λvals hp=>⟨_,rfl,?_⟩⟩
  obtain⟨t,p,hp,rfl⟩:=hp
  have ex:x'=p:=Option.some.inj (hx.symm.trans (by simpa using hp))
  exact .cons (.int _ _) (.cons (ex▸rx) .nil)
theorem ZoF(c1:H[a]?=some vs): ∃o,ZcS a 0 H=some o:=by
 simp only[ZcS,c1,Ys0]
 cases vs with
 | nil=>exact⟨none,.s⟩
 | cons x vs=>exact⟨_,rfl⟩
theorem Ztk{u:V}{H':Hp}{nx:Nx}{n:Nat}(h:Zjn u H=some (nx,n,H'))(hp:∀a vs,u=.ref a->H[a]?=some vs->ZcS a=nx->vs.length+1=n->H=H'->P): P:=by
 cases u <;> first | exact nope h | skip
 obtain⟨vs,c1,c3⟩:=Zz1.mp h
 have e:=Prod.mk.inj c3
 have f:=Prod.mk.inj e.2
 exact hp _ vs rfl c1 e.1 f.1 f.2
theorem Zqd{x:Str}{np:Pos}(hn:Nm prog w M x (.type "enumerate"))(h1:J prog w M e1 f)
  (he:starEach [e1] M.env=(false,eval e1 M.env)::starEach [] M.env:=by rfl) (hp:∀pos,(backTo pos (starEach [] M.env)).any (·.1)=false:=by intro _;rfl):JI2 prog w M (.Call (.Name x np) [e1] [] pos) (ZgW f):=by
 intro elts k tp W U H fr s Q E nx n H' r hf post
 obtain⟨⟨u1,H1⟩,a1,hf⟩:=Zz0.mp hf
 refine wpAny_Call_ofName (hn.use r ?_)
 refine PySem.Pv.callWith_type1 (wpAny_items_cons (h1 W U H fr s _ E _ _ r a1 λW1 k1 t1 y1 l1 r1 v1=>wpAny_items_nil ?_) he) he (hp pos)
 refine Ztk hf λb1 vs q1 c1 q3 q4 q5=>?_
 subst q1 q3 q4 q5
 obtain⟨m1,rfl,ea⟩:=v1.iref
 obtain⟨_,xs,n1,g1,w1⟩:=r1.at c1 ea
 refine call_enumerate_list (s:={ s with heap:=k1,toks:=t1 }) ⟨_,g1,rfl,n1,rfl⟩ λh₁ hE hI hsz up=>?_
 have hlt:m1<k1.objs.size:=Heap.lt_size g1
 obtain⟨o,h0⟩:=ZoF c1
 refine enumW.go (Ztj ea (Nat.succ_ne_self _) (Nat.ne_of_lt (Nat.lt_succ_of_lt hlt)) (Nat.ne_of_lt hlt)) r1 up (λa ha=>?_) ⟨⟨_,hE⟩,hI⟩ h0 λfs hit r3 ap P self=>post W1 h₁ t1 _ _ _ fs l1 hit r3 ap P self
 simp only[List.mem_cons,List.not_mem_nil,or_false]at ha
 rcases ha with h | h <;> rw[h] <;> show k1.objs.size<=_ <;> simp
theorem ZmQ{e2 e3:Expr}{g:Ex}(h1:J prog w M e1 f)(h2:J prog w M (.BoolOp .And (e2::e3::es) pos) g) (he:eval (.BoolOp .And (e1::e2::e3::es) pos) M.env=(do
  let v <-eval e1 M.env
  standAt pos
  let t <-holding [v] (truthy v)
  match BoolOp.And,t with
  | .And,false | .Or,true=>pure v
  | _,_=>eval (.BoolOp .And (e2::e3::es) pos) M.env):=by rfl):J prog w M (.BoolOp .And (e1::e2::e3::es) pos) (Zbo f g):=by
 intro W U H fr s Q E v H' r hf post
 obtain⟨p,a1,hf⟩:=Zz0.mp hf
 obtain⟨b,a2,a3⟩:=Zz0.mp hf
 rw[he]
 refine wpAny_bind (wpAny_mono (h1 W U H fr s (λx s₁=>wpAny (model prog w) M.A (truthy x) (λt s₂=>if t then wpAny (model prog w) M.A (eval (.BoolOp .And (e2::e3::es) pos) M.env) Q E s₂ else Q x s₂) E s₁) E _ _ r a1 λW1 k1 t1 x l1 r1 x1=>?_) (λv s₁ h₁=>wpAny_bind (wpAny_standAt (wpAny_bind (wpAny_holding (wpAny_mono h₁ (λt s₂ h₂=>?_) λ_ _ x=>x))))) λ_ _ x=>x)
 ·refine truth M W1 U _ fr _ _ E _ x b r1 x1 a2 λW2 k2 t2 l2 r2=>?_
  cases b with
  | true=>exact h2 W2 U _ fr _ Q E _ H' r2 a3 λW3 k3 t3 z l3 r3 z3=>post W3 k3 t3 z ((l1.trans l2).trans l3) r3 z3
  | false=>
   cases a3
   exact post W2 k2 t2 x (l1.trans l2) r2 (x1.mono l2)
 ·cases t with
  | false=>exact wpAny_pure h₂
  | true=>exact h₂
end PM
end
section
namespace PM
open PySem PySem.W PySem.Calls PyProof.Rows PyProof
variable{fs:List Str}{xs ys:List Value}{f name:Str}{x v:Value}{j i:Nat}{hs:Int}{t:Tok}{c:Nat×List Str}{u:V}{H H':Hp}{M:Cx}{U:Lc}{fr led cc ts:List (Addr×Obj)}{h h':Heap}{vs:List V}{o e:Expr}{pos apos np:Pos}{attr:Option Value}{E Q:Value->Shared->Prop}{s:Shared}{es:List Expr}{fa dx fI:Addr}{g:Exs}{F: .y}{m:Str->Option Value}{fo:Option (List Str)}
theorem FE.len{es:List DictEntry}(h:FE fs xs es): es.length=xs.length/\xs.length<=fs.length:=by
 induction h with
 | nil=>exact⟨rfl,Nat.zero_le _⟩
 | cons _ ih=>exact⟨by simp[ih.1],by simp[ih.2]⟩
theorem FE.noRef{es:List DictEntry}(h:FE fs xs es): es.any (·.refKey)=false:=by
 induction h with
 | nil=>rfl
 | cons _ ih=>simp only[List.any_cons,ih,Bool.or_false];rfl
theorem FE.find{es:List DictEntry}(h:FE fs xs es)(nf:f∉fs): es.find? (·.key.isStr f)=none:=by
 induction h with
 | nil=>rfl
 | @cons g fs x xs hs t es _ ih=>
  have n1:g≠f:=λe=>nf (e▸List.mem_cons_self)
  have:(Value.str g t).isStr f=false:=by simp[Value.isStr,n1]
  rw[List.find?_cons]
  simp only[this]
  exact ih λm=>nf (Zz2 _ m)
theorem FE.no{es:List DictEntry}(h:FE fs xs es)(nf:f∉fs): getL f es=some none:=by
 unfold getL
 rw[h.find nf,h.noRef]
 rfl
theorem FE.get{es:List DictEntry}(h:FE fs xs es)(nd:fs.Nodup)(hf:fs[j]?=some f)(hx:xs[j]?=some x): getL f es=some (some x):=by
 have key:∃e,es.find? (·.key.isStr f)=some e/\e.val=x:=by
  induction h generalizing j with
  | nil=>simp at hx
  | @cons g fs x' xs hs t es _ ih=>
   cases j with
   | zero=>
    simp at hf hx
    subst hf
    subst hx
    refine⟨⟨hs,.str g t,x'⟩,?_,rfl⟩
    rw[List.find?_cons]
    simp[Value.isStr]
   | succ j=>
    simp at hf hx
    have n1:g≠f:=λe=>(List.nodup_cons.mp nd).1 (e▸Yy4 hf)
    have:(Value.str g t).isStr f=false:=by simp[Value.isStr,n1]
    rw[List.find?_cons]
    simp only[this]
    exact ih (List.nodup_cons.mp nd).2 hf hx
 obtain⟨e,h1,h2⟩:=key
 unfold getL
 rw[h1]
 simp[h2]
theorem FE.isS{es:List DictEntry}(h:FE fs xs es)(f:Str): (getL f es).isSome=true:=by
 unfold getL
 split
 ·rfl
 ·rw[h.noRef];rfl
theorem FE.put{es:List DictEntry}(h:FE fs xs es)(nd:fs.Nodup)(hf:fs[j]?=some f)(hj:j<xs.length): FE fs (xs.set j v) (putL f hs (.str f t) v es):=by
 induction h generalizing j with
 | nil=>simp at hj
 | @cons g fs x xs hs' t' es h' ih=>
  cases j with
  | zero=>
   simp at hf
   subst hf
   have:(Value.str g t').isStr g=true:=by simp[Value.isStr]
   simp only[List.set_cons_zero,putL,this,if_true]
   exact .cons h'
  | succ j=>
   simp at hf hj
   have n1:g≠f:=λe=>(List.nodup_cons.mp nd).1 (e▸Yy4 hf)
   have:(Value.str g t').isStr f=false:=by simp[Value.isStr,n1]
   simp only[List.set_cons_succ,putL,this,Bool.false_eq_true,if_false]
   exact .cons (ih (List.nodup_cons.mp nd).2 hf hj)
theorem FE.app{es:List DictEntry}(h:FE fs xs es)(nd:fs.Nodup)(hf:fs[xs.length]?=some f): FE fs (xs++[v]) (putL f hs (.str f t) v es):=by
 induction h with
 | @nil fs=>
  cases fs with
  | nil=>simp at hf
  | cons g fs=>simp at hf;subst hf;exact .cons .nil
 | @cons g fs x xs hs' t' es h' ih=>
  simp at hf
  have n1:g≠f:=λe=>(List.nodup_cons.mp nd).1 (e▸Yy4 hf)
  have:(Value.str g t').isStr f=false:=by simp[Value.isStr,n1]
  simp only[List.cons_append,putL,this,Bool.false_eq_true,if_false]
  exact .cons (ih (List.nodup_cons.mp nd).2 hf)
noncomputable def Z8(c:Nat×List Str)(j:Nat): V->Hp->Option (V×Hp)
 | .obj c' a,H=>if c'=c then H[a]?.bind λvs=>vs[j]?.map λw=>(w,H)else none
 | _,_=>none
noncomputable def ZaC(c:Nat×List Str)(j:Nat): V->V->Hp->Option Hp
 | .obj c' a,w,H=>if c'=c/\a≠0 then H[a]?.bind λvs=>if j<vs.length then some (H.set a (vs.set j w))else if j=vs.length/\j<c.2.length then some (H.set a (vs++[w]))else none else none
 | _,_,_=>none
def Zap(c:Nat×List Str)(j:Nat)(f o:Ex): Sm:=λU H=>(f U H).bind λp=>(o U p.2).bind λq=>(ZaC c j q.1 p.1 q.2).map λK=>(none,U,K)
noncomputable def ZaP(c:Nat×List Str): V->Bool
 | .obj c' _=>c' == c
 | _=>false
def Z1(c:Nat×List Str)(F: .y)(f:Ex)(g:Exs): Ex:=λU H=>(f U H).bind λp=>if ZaP c p.1 then(g U p.2).bind λq=>F (p.1::q.1) q.2 else none
noncomputable def ZcG(c:Nat×List Str)(F: .y)(g:Exs): Ex:=λU H=>(g U H).bind λp=>(F (.obj c p.2.length::p.1) (p.2++[[]])).bind λq=>match q.1 with
 | .none=>some (.obj c p.2.length,q.2)
 | _=>none
theorem Zf9{d:Type}{c:Prop}[Decidable c]{X:Option d}{z:d}(h:(if c then X else none)=some z): c/\X=some z:=by
 by_cases k:c
 ·rw[if_pos k]at h
  exact⟨k,h⟩
 ·rw[if_neg k]at h
  cases h
theorem ZkH{v:V}(h:ZaP c v=true): ∃i,v=.obj c i:=by
 cases v <;> first | exact nopf h | skip
 rename_i c' a
 have e:c'=c:=by simpa [ZaP]using h
 exact⟨a,by rw[e]⟩
theorem Zqe{v:V}(h:Z8 c j u H=some (v,H')): ∃i vs,u=.obj c i/\H[i]?=some vs/\vs[j]?=some v/\H'=H:=by
 cases u <;> first | exact nope h | skip
 obtain⟨ec,h⟩:=Zf9 h
 obtain⟨vs,h1,h⟩:=Zz0.mp h
 obtain⟨w',h2,h⟩:=Zz1.mp h
 have e:=Prod.mk.inj h
 exact⟨_,vs,by rw[ec],h1,by rw[<-e.1];exact h2,e.2.symm⟩
theorem Rep.objI{W:Wd}(r:Rep M W U H fr h)(hx:VR W (.obj c i) x): ∃vs,H[i]?=some vs:=by
 obtain⟨m,cc,led,r⟩:=r
 cases hx with
 | obj h1 h2 h3 h4=>exact⟨_,Yy1 (r.R.inlt _ h2)⟩
theorem Rep.objAt{W:Wd}(r:Rep M W U H fr h)(hx:VR W (.obj c i) x)(e:H[i]?=some vs):
  ∃xa dx es n xs,x=.ref xa/\InstAt h xa ⟨.ref c.1,some dx,.plain,#[]⟩ c.1 (some (dictOf es n))/\FE c.2 xs es/\VRs W vs xs/\vs.length<=c.2.length:=by
 obtain⟨m,cc,led,r⟩:=r
 cases hx with
 | @obj _ _ a xa ox h1 h2 h3 h4=>
  obtain⟨hl,a',od,xs,g1,g2,⟨es,n,eo,fe⟩,g4⟩:=r.R.objs i vs _ e h2
  rw[h1]at g1
  cases g1
  subst eo
  have e1:ox=_:=h4
  subst e1
  exact⟨xa,a,es,n,xs,rfl,⟨r.get (r.R.tups _ h3),rfl,rfl,r.get g2⟩,fe,g4,hl⟩
section
variable {prog:Program} {w:World} {M:Cx} {K:Frag}
theorem ZaH{f:Ex}(X:K.In M.h₀)(ho:J prog w M o f)(hj:c.2[j]?=some name)(nd:c.2.Nodup)(hg:plainGet K c.1 name=true)(hh:hasDictIn K c.1=true)(ha:findIn K (.ref c.1) name=some attr)(hn:noGet K attr=true)
  (he:eval (.Attribute o name pos) M.env=(do
   let ov <-eval o M.env
   standAt pos.atName
   let r <-holding [ov] (getAttr ov name true)
   letTemporaryGo o ov r
   pure r):=by with_unfolding_all rfl):J prog w M (.Attribute o name pos) (ZE (Z8 c j) f):=by
 intro W U H fr s Q E v H' r hf post
 obtain⟨⟨v0,H1⟩,e1,hf1⟩:=Zz0.mp hf
 clear hf
 refine Attribute_any_ (ho W U H fr s _ E _ _ r e1 λW1 k1 t1 x l1 r1 x1=>?_) he
 obtain⟨i,vs,rfl,h1,h2,rfl⟩:=Zqe hf1
 obtain⟨xa,dx,es,n,xs,rfl,I,fe,hv,_⟩:=r1.objAt x1 h1
 obtain⟨y,hy,ry⟩:=hv.at h2
 obtain⟨m,cc,led,r1'⟩:=r1
 refine get_own (s:={ s with heap:=k1,toks:=t1 }) r1'.F X I hg hh ha hn (fe.get nd hj hy) (by cases ry <;> rfl) ?_
 exact post W1 k1 (t1+1) y l1 ⟨m,cc,led,r1'⟩ ry
theorem ZlJ{A:Around}{v:Env}{nm:Str}{p q:Pos}(h1:attributeBase o nm v (eval o v)=eval o v)(h2:methodCallForm es.length (backTo q (starEach es v)) (backToKw q (keywordEach [] v))=true)(h3:methodCallPos true o v p q=pure q)
  (k:wpAny (model prog w) A (eval o v) (λx t=>∀pl,wpAny (model prog w) A (getMethod x nm pl) (λr u=>wpAny (model prog w) A (callWith q r.1 r.2 (backTo q (starEach es v)) []) Q E u) E t) E s):wpAny (model prog w) A (eval (.Call (.Attribute o nm p) es [] q) v) Q E s:=by
 rw[arm_eval_Call,h1]
 refine wpAny_bind (wpAny_mono k (λx t k=>wpAny_bind (wpAny_standAt ?_)) λ_ _ z=>z)
 unfold methodCall
 rw[show methodCallForm (es.length+([]:List Keyword).length) _ _=true from h2]
 exact wpAny_bind (wpAny_holding (wpAny_mono (k _) (λr u k=>wpAny_bind (wpAny_of_eq h3 k)) λ_ _ z=>z))
end
section
variable {prog:Program} {w:World} {K:Frag} {p:Program} {loose:List Str} {mean:ExcName->Option Value} {mg mb:Str->Option Value} {M:Cx} {dp un:Nat}
theorem Clr.keep(clr:Clr K p loose mean mg mb M dp un): K.In M.h₀:=by
 obtain⟨_,_,_,_,_,_,_,_,_,_,_,X,_⟩:=clr
 exact X
theorem ZlK{W:Wd}{k:Heap}{t:Nat}{AR:List (Bool×Sem Value)}{pl:Sem Bool}(clr:Clr K p loose mean mg mb M dp un)(hm:findIn K (.ref c.1) name=some (some (.ref fa)))(ht:isFn K (.ref fa)=true)(hg:plainGet K c.1 name=true)(nf:name∉c.2)(r:Rep M W U H fr k)(x1:VR W (.obj c i) x)(go:∀xa,x=.ref xa->wpAny (model prog w) M.A (callWith pos (.ref fa) [.ref xa] AR []) Q E { s with heap:=k,toks:=t }):
  wpAny (model prog w) M.A (getMethod x name pl) (λr s₂=>wpAny (model prog w) M.A (callWith pos r.1 r.2 AR []) Q E s₂) E { s with heap:=k,toks:=t }:=by
 obtain⟨vs,hvs⟩:=r.objI x1
 obtain⟨xa,dx,es',n,xs,rfl,I,fe,hv,_⟩:=r.objAt x1 hvs
 obtain⟨m,cc,led,r1'⟩:=r
 exact method_inst (s:={ s with heap:=k,toks:=t }) r1'.F clr.keep I hg hm ht (fe.no nf) (go xa rfl)
theorem Za4{f:Ex}{room:Nat}(clr:Clr K p loose mean mg mb M dp un)(ho:J prog w M o f)(hm:findIn K (.ref c.1) name=some (some (.ref fa)))(ht:isFn K (.ref fa)=true)(hg:plainGet K c.1 name=true)(nf:name∉c.2)(hkeep:keepIn K (.ref fa)=true)(D:Def prog w K p loose mean mg mb fa room F)(hd:dp+room<recursionLimit)(hu:un+10*room+300<cLine)
  (h:Js prog w M (e::es) g) (hbase:attributeBase o name M.env (eval o M.env)=eval o M.env:=by rfl) (hfew:methodCallForm (e::es).length (backTo pos (starEach (e::es) M.env)) (backToKw pos (keywordEach [] M.env))=true:=by rfl)
  (hline:(apos.endLine == pos.line)=true:=by rfl) (he:starEach (e::es) M.env=(false,eval e M.env)::starEach es M.env:=by rfl) (hp:∀pos,(backTo pos (starEach es M.env)).any (·.1)=false:=by intro _;rfl):J prog w M (.Call (.Attribute o name apos) (e::es) [] pos) (Z1 c F f g):=by
 intro W U H fr s Q E v H' r hf post
 obtain⟨⟨v0,H1⟩,e1,hf1⟩:=Zz0.mp hf
 clear hf
 obtain⟨hcl,hf1⟩:=Zf9 hf1
 obtain⟨q,e2,hf2⟩:=Zz0.mp hf1
 clear hf1
 refine ZlJ hbase hfew (by unfold methodCallPos;simp[hline]) (ho W U H fr s _ E _ _ r e1 λW1 k1 t1 x l1 r1 x1 pl=>?_)
 obtain⟨i,rfl⟩:=ZkH hcl
 refine ZlK clr hm ht hg nf r1 x1 λxa hx=>?_
 subst hx
 refine callWith_K (first:=[.ref xa]) clr.keep hkeep (h pos W1 U _ fr _ _ E _ _ r1 e2 λW2 k2 t2 ys l2 r2 y2=>⟨?_,?_⟩) he (hp pos)
 ·obtain⟨m,c,led,r2⟩:=r2
  exact clr.keep.keeps r2.F.keep
 ·exact wpAny_call (D M dp un clr hd hu W2 U _ fr _ Q E _ (.ref xa::ys) v H' r2 (.cons (x1.mono l2) y2) hf2 λW3 k3 t3 z l3 r3 z3=>post W3 k3 t3 z ((l1.trans l2).trans l3) r3 z3)
theorem Zev{f:Ex}{room:Nat}(clr:Clr K p loose mean mg mb M dp un)(ho:J prog w M o f)(hm:findIn K (.ref c.1) name=some (some (.ref fa)))(ht:isFn K (.ref fa)=true)(hg:plainGet K c.1 name=true)(nf:name∉c.2)(hkeep:keepIn K (.ref fa)=true)(D:Def prog w K p loose mean mg mb fa room F)(hd:dp+room<recursionLimit)(hu:un+10*room+300<cLine)
  (hbase:attributeBase o name M.env (eval o M.env)=eval o M.env:=by rfl) (hline:(apos.endLine == pos.line)=true:=by rfl):J prog w M (.Call (.Attribute o name apos) [] [] pos) (Z1 c F f Ze):=by
 intro W U H fr s Q E v H' r hf post
 obtain⟨⟨v0,H1⟩,e1,hf1⟩:=Zz0.mp hf
 clear hf
 obtain⟨hcl,hf1⟩:=Zf9 hf1
 obtain⟨q,e2,hf2⟩:=Zz0.mp hf1
 clear hf1
 cases e2
 refine ZlJ hbase rfl (by unfold methodCallPos;simp[hline]) (ho W U H fr s _ E _ _ r e1 λW1 k1 t1 x l1 r1 x1 pl=>?_)
 obtain⟨i,rfl⟩:=ZkH hcl
 refine ZlK clr hm ht hg nf r1 x1 λxa hx=>?_
 subst hx
 obtain⟨m,cc,led,r1'⟩:=id r1
 refine callWith_K0 (first:=[.ref xa]) (clr.keep.keeps r1'.F.keep) hkeep ?_
 exact wpAny_call (D M dp un clr hd hu W1 U _ fr _ Q E _ [.ref xa] v H' r1 (.cons x1 .nil) hf2 λW3 k3 t3 z l3 r3 z3=>post W3 k3 t3 z (l1.trans l3) r3 z3)
end
theorem Rep'.changedO{W:Wd}{c:List (Addr×Obj)}{a:Addr}{fs:Option (List Str)}{us:List V}{od':Obj}(r:Rep' M W U H fr h m c led)(i0:i≠0)(e:H[i]?=some vs)(ea:W.pi[i]?=some a)(hi:(i,fs)∈W.ins)(F':Fr M.h₀ M.L h' m)(N':News M.h₀ M.L h' ((a,od')::led.filter (λq=>decide (q.1≠a))))(hD:ZgP od' fs us ys)(hv:VRs W us ys)(hl:Ze4 fs us):
  Rep M W U (H.set i us) fr h':=by
 obtain⟨_,b,od,xs,h1,h2,h3,_⟩:=r.R.objs i vs fs e hi
 rw[ea]at h1
 cases h1
 have h2:=r.inLed i0 ea h2
 have hN:=r.N _ h2
 have hm:a∈W.pi:=Yy4 ea
 have hil:i<H.length:=(Zz6.mp e).1
 have other:∀(n:Nat) (d:Addr),n≠i->W.pi[n]?=some d->d≠a:=λn d hn g1 e=>by
  subst e
  exact hn ((List.getElem?_inj (Zz6.mp g1).1 r.R.nd).mp (g1.trans ea.symm))
 refine⟨m,c,(a,od')::led.filter (λq=>decide (q.1≠a)),⟨F',N',?_,r.sc,r.sc0,λq hq=>?_,r.frOff,λq hq=>?_,r.clOff,r.apart,r.frTup,r.clTup,r.own⟩⟩
 ·refine⟨by simp[r.R.len],r.R.nd,λn ws en ni=>?_,λq hq=>?_,r.R.kind,λn ws gs en hi'=>?_,λq hq=>by have:=r.R.inlt q hq;simpa using this,r.R.iuni⟩
  ·have hn:n≠i:=λq=>ni _ hi q.symm
   rw[Yy2 (Ne.symm hn)]at en
   obtain⟨l,d,zs,j',g1,g2,g3⟩:=r.R.lists n ws en ni
   exact⟨l,d,zs,j',g1,Zbw g2 λg2=>Yy3 _ (Yy9.mpr ⟨g2,by simpa using other n d hn g1⟩),g3⟩
  ·refine Zbw (r.R.tups q hq) λg2=>Yy3 _ (Yy9.mpr ⟨g2,?_⟩)
   have:q.1≠a:=λe=>by
    have hk:=ZkA (r.R.kind q hq)
    have g:=r.get (r.R.tups q hq)
    rw[e,hN.1]at g
    obtain⟨es,n,eo,_⟩:=h3
    have c:=congrArg Obj.cls (Option.some.inj g)
    rw[eo]at c
    exact hk.2 c.symm
   simpa using this
  ·by_cases hn:n=i
   ·subst hn
    have:gs=fs:=congrArg (·.2) (r.R.iuni _ hi' _ hi rfl)
    subst this
    rw[Yy6 hil]at en
    cases en
    exact⟨hl,a,od',ys,ea,Yy3 _ Zz5,hD,hv⟩
   ·rw[Yy2 (Ne.symm hn)]at en
    obtain⟨l,d,od2,zs,g1,g2,g3,g4⟩:=r.R.objs n ws gs en hi'
    exact⟨l,d,od2,zs,g1,Zbw g2 λg2=>Yy3 _ (Yy9.mpr ⟨g2,by simpa using other n d hn g1⟩),g3,g4⟩
 ·refine Zz2 _ (Yy9.mpr ⟨r.frIn q hq,?_⟩)
  have:q.1≠a:=λe=>r.frOff q hq (e▸hm)
  simpa using this
 ·refine Zz2 _ (Yy9.mpr ⟨r.clIn q hq,?_⟩)
  have:q.1≠a:=λe=>r.clOff q hq (e▸hm)
  simpa using this
theorem Rep'.newIns{W:Wd}(r:Rep' M W U H fr h m cc led)(F':Fr M.h₀ M.L h' m)(N':News M.h₀ M.L h' (ts++(dx,emptyDict)::led))(ne:∀q∈W.sc::led,q.1≠dx/\∀t∈ts,q.1≠t.1)(kd:∀t∈ts,(∃xs k,t.2=Zco xs k)∨∃C d,ZgO t.2 C d)(hL:Ze4 fo [])(hD:ZgP emptyDict fo [] []):
  ∃W',W.Le W'/\Rep M W' U (H++[[]]) fr h'/\W'.pi[H.length]?=some dx/\(H.length,fo)∈W'.ins/\∀t∈ts,t∈W'.tups:=by
 have piNe:∀b∈W.pi,b≠dx:=λb hb=>by
  obtain⟨o,ho⟩:=r.piIn b hb
  exact(ne _ ho).1
 have le:W.Le ⟨W.pi++[dx],ts++W.tups,W.sc,(H.length,fo)::W.ins⟩:=⟨List.prefix_append _ _,λq hq=>List.mem_append_right _ hq,rfl,λq hq=>Yy3 _ hq,λq hq=>by
  rcases Zz7.mp hq with e | hq
  ·exact .inr (by rw[e,r.R.len];exact Zz10 _)
  ·exact .inl hq⟩
 have h0:0<W.pi.length:=(Zz6.mp r.sc0).1
 have at_n:(W.pi++[dx])[H.length]?=some dx:=by rw[<-r.R.len];simp
 have up1:∀q∈led,q∈ts++(dx,emptyDict)::led:=λq hq=>List.mem_append_right _ (Zz2 _ hq)
 have up:∀q∈W.sc::led,q∈W.sc::(ts++(dx,emptyDict)::led):=λq hq=>ZcT hq up1
 have offT:∀(l:List (Addr×Obj)),(∀q∈l,q∈led)->(∀q∈l,∀t∈W.tups,q.1≠t.1)->∀q∈l,∀t∈ts++W.tups,q.1≠t.1:=λl il ol q hq t ht=>by
  rcases Zz8.mp ht with ht | ht
  ·exact(ne q (Zz2 _ (il q hq))).2 t ht
  ·exact ol q hq t ht
 have offP:∀(l:List (Addr×Obj)),(∀q∈l,q∈led)->(∀q∈l,q.1∉W.pi)->∀q∈l,q.1∉W.pi++[dx]:=λl il ol q hq hm=>by
  rcases Zz8.mp hm with hm | hm
  ·exact ol q hq hm
  ·exact(ne q (Zz2 _ (il q hq))).1 (Zz9.mp hm)
 refine⟨⟨W.pi++[dx],ts++W.tups,W.sc,(H.length,fo)::W.ins⟩,le,⟨m,cc,ts++(dx,emptyDict)::led,⟨F',N',?_,r.sc,(Yy0 h0).trans r.sc0,λq hq=>up1 q (r.frIn q hq),offP fr r.frIn r.frOff,λq hq=>up1 q (r.clIn q hq),offP cc r.clIn r.clOff,r.apart,offT fr r.frIn r.frTup,offT cc r.clIn r.clTup,M.mono le r.own⟩⟩,at_n,List.mem_cons_self,λt ht=>Yy7 _ ht⟩
 refine⟨by simp[r.R.len],?_,λi us e ni=>?_,λq hq=>?_,λq hq=>?_,λi us fs e hi=>?_,λq hq=>?_,λq hq t ht e=>?_⟩
 ·show(W.pi++[dx]).Nodup
  rw[List.nodup_append]
  refine⟨r.R.nd,.s,λa ha b hb e=>?_⟩
  rw[List.mem_singleton.mp hb]at e
  exact piNe a ha e
 ·have hi:i≠H.length:=λq=>ni _ Zz5 q.symm
  have hi':i<H.length:=by
   have:=(Zz6.mp e).1
   simp at this
   lia
  rw[Yy0 hi']at e
  obtain⟨l,a,ys,j,h1,h2,h3⟩:=r.R.lists i us e λq hq=>ni q (Zz2 _ hq)
  exact⟨l,a,ys,j,le.piAt h1,up _ h2,h3.mono le⟩
 ·rcases Zz8.mp hq with hq | hq
  ·exact Zz2 _ (Zz4 _ hq)
  ·exact up _ (r.R.tups q hq)
 ·rcases Zz8.mp hq with hq | hq
  ·exact kd q hq
  ·exact r.R.kind q hq
 ·rcases Zz7.mp hi with e1 | hi
  ·cases e1
   simp at e
   subst e
   exact⟨hL,dx,emptyDict,[],at_n,Yy3 _ (Zz3 _ Zz5),hD,.nil⟩
  ·have hi':i<H.length:=r.R.inlt _ hi
   rw[Yy0 hi']at e
   obtain⟨l,a,od,ys,h1,h2,h3,h4⟩:=r.R.objs i us fs e hi
   exact⟨l,a,od,ys,le.piAt h1,up _ h2,h3,h4.mono le⟩
 ·rcases Zz7.mp hq with e | hq
  ·rw[e];simp
  ·have:=r.R.inlt q hq;simp;lia
 ·rcases Zz7.mp hq with e1 | hq
  ·rcases Zz7.mp ht with e2 | ht
   ·rw[e1,e2]
   ·have:=r.R.inlt t ht;rw[e1]at e;simp at e;lia
  ·rcases Zz7.mp ht with e2 | ht
   ·have:=r.R.inlt q hq;rw[e2]at e;simp at e;lia
   ·exact r.R.iuni q hq t ht e
theorem Rep'.newObj{W:Wd}{x:Addr}(r:Rep' M W U H fr h m cc led)(F':Fr M.h₀ M.L h' m)(N':News M.h₀ M.L h' ((x,instObj c.1 dx)::(dx,emptyDict)::led))(ne:∀q∈W.sc::led,q.1≠dx/\q.1≠x):
  ∃W',W.Le W'/\Rep M W' U (H++[[]]) fr h'/\VR W' (.obj c H.length) (.ref x):=by
 obtain⟨W',l,r',h1,h2,h3⟩:=r.newIns (fo:=some c.2) (ts:=[(x,instObj c.1 dx)]) F' N' (λq hq=>⟨(ne q hq).1,λt ht=>by rw[List.mem_singleton.mp ht];exact(ne q hq).2⟩) (λt ht=>by rw[List.mem_singleton.mp ht];exact .inr ⟨c.1,dx,rfl⟩) (Nat.zero_le _) ⟨[],0,rfl,FE.nil⟩
 exact⟨W',l,r',.obj h1 h2 (h3 _ Zz5) rfl⟩
theorem Zor{w:V}{K:Hp}(h:ZaC c j u w H=some K): ∃i vs,u=.obj c i/\i≠0/\H[i]?=some vs/\((j<vs.length/\K=H.set i (vs.set j w))∨j=vs.length/\j<c.2.length/\K=H.set i (vs++[w])):=by
 cases u <;> first | exact nope h | skip
 obtain⟨ec,h⟩:=Zf9 h
 obtain⟨vs,h1,h⟩:=Zz0.mp h
 refine⟨_,vs,by rw[ec.1],ec.2,h1,?_⟩
 by_cases k:j<vs.length
 ·rw[if_pos k]at h
  exact .inl ⟨k,(Option.some.inj h).symm⟩
 ·rw[if_neg k]at h
  obtain⟨hl,h⟩:=ZbD h
  exact .inr ⟨hl.1,hl.2,h.symm⟩
theorem VR.iobj{W:Wd}(h:VR W (.obj c i) x): ∃a xa,x=.ref xa/\W.pi[i]?=some a/\(i,some c.2)∈W.ins/\(xa,⟨.ref c.1,some a,.plain,#[]⟩)∈W.tups:=by
 cases h with
 | @obj _ _ a xa ox h1 h2 h3 h4=>exact⟨a,xa,rfl,h1,h2,(show ox=_ from h4)▸h3⟩
section
variable {prog:Program} {w:World} {M:Cx} {K:Frag}
theorem ZbN{value:Expr}{pos':Pos}{f g:Ex}(X:K.In M.h₀)(hv:J prog w M value f)(ho:J prog w M o g)(hj:c.2[j]?=some name)(nd:c.2.Nodup)(hc:c.2.length<=1000)(hs:findIn K (.ref c.1) "__setattr__"=some (some (.builtin "object.__setattr__")))(hp:plainOver K c.1=true)(ht:takerIn K c.1 name=some none)(hh:hasDictIn K c.1=true)
  (hsw:swapsWith value (some (.Attribute o name pos')) pos.line M.env=pure false:=by rfl):S1 prog w M (.Assign [.Attribute o name pos'] value pos) (Zap c j f g):=by
 intro W U H fr s Q E r rp hx post
 obtain⟨⟨v1,H1⟩,e1,hx1⟩:=Zz0.mp hx
 obtain⟨⟨v2,H2⟩,e2,hx2⟩:=Zz0.mp hx1
 obtain⟨H3,e3,hx3⟩:=Zz1.mp hx2
 subst hx3
 clear hx hx1 hx2
 refine plainObj_wpAny_Assign_Attribute (hv W U H fr s _ E _ _ rp e1 λW1 k1 t1 x l1 r1 x1=>?_) hsw
 refine ho W1 U _ fr _ _ E _ _ r1 e2 λW2 k2 t2 y l2 r2 y2=>?_
 obtain⟨i,vs,rfl,i0,hvs,hK⟩:=Zor e3
 obtain⟨m,cc,led,r'⟩:=r2
 obtain⟨a,xa,rfl,h1,h2,h3⟩:=y2.iobj
 obtain⟨hl,a',od,xs,g1,g2,⟨es,n,eo,fe⟩,g4⟩:=r'.R.objs i vs _ hvs h2
 rw[h1]at g1
 cases g1
 subst eo
 have hin:=r'.inLed i0 h1 g2
 have I:InstAt k2 xa ⟨.ref c.1,some a,.plain,#[]⟩ c.1 (some (dictOf es n)):=⟨r'.get (r'.R.tups _ h3),rfl,rfl,r'.get g2⟩
 have N2:News M.h₀ M.L k2 ((a,dictOf es n)::led.filter (λq=>decide (q.1≠a))):=by
  intro q hq
  rcases Zz7.mp hq with e | hq
  ·subst e
   exact⟨r'.get g2,(r'.N _ hin).2⟩
  ·exact r'.N q (List.mem_filter.mp hq).1
 have lvx:=g4.length
 have fin:∀(us:List V) (ys:List Value),H3=H2.set i us->VRs W2 us ys->us.length<=c.2.length->FE c.2 ys (putL name (PyData.keyHash w.params name) (.str name (t2+1)) x es) ->
   wpAny (model prog w) M.A (setAttr (.ref xa) name x) (λ_=>Q .next) E { s with heap:=k2,toks:=t2 }:=by
  intro us ys eH hv' hl' fe'
  refine set_dict (s:={ s with heap:=k2,toks:=t2 }) r'.F X N2 I rfl hs hp ht hh (fe.isS name) rfl (Upd.head λq hq=>by simpa using (List.mem_filter.mp hq).2) (Nat.le_trans (Nat.le_of_eq fe'.len.1) (Nat.le_trans fe'.len.2 hc)) λh' F' N'=>?_
  rw[eH]at post
  exact post W2 h' (t2+2) (l1.trans l2) (r'.changedO i0 hvs h1 h2 F' N' ⟨_,_,rfl,fe'⟩ hv' hl')
 rcases hK with⟨hjl,e4⟩ | ⟨hj1,hj2,e4⟩
 ·exact fin (vs.set j v1) (xs.set j x) e4 (g4.set j (x1.mono l2)) (by simpa [Ze4]using hl) (fe.put nd hj (by rw[lvx];exact hjl))
 ·have ej:j=xs.length:=by rw[lvx];exact hj1
  exact fin (vs++[v1]) (xs++[x]) e4 (g4.snoc (x1.mono l2)) (by simp;lia) (fe.app nd (by rw[<-ej];exact hj))
end
section
variable {prog:Program} {w:World} {K:Frag} {p:Program} {loose:List Str} {mean:ExcName->Option Value} {mg mb:Str->Option Value} {M:Cx} {dp un:Nat}
theorem ZkI{room:Nat}(clr:Clr K p loose mean mg mb M dp un)(hm:makesIn K c.1=true)(hi:findIn K (.ref c.1) "__init__"=some (some (.ref fI)))(hf:typeIn K (.ref fI)=some (.type "function"))(D:Def prog w K p loose mean mg mb fI room F)(hd:dp+(room+1)<recursionLimit)(hu:un+10*(room+1)+300<cLine)
  {W:Wd}        {v:V}  (r:Rep M W U H fr s.heap) (hx:VRs W vs xs) (hF:(F (.obj c H.length::vs) (H++[[]])).bind (λq=>match q.1 with | .none=>some (V.obj c H.length,q.2) | _=>none)=some (v,H')) (post:ZcE M W U H' fr s Q v):
  wpAny (model prog w) M.A (call (.ref c.1) xs) Q E s:=by
 obtain⟨⟨v1,H1⟩,e1,hF1⟩:=Zz0.mp hF
 simp only at hF1
 cases v1 <;> first|exact Yx0 hF1|(cases hF1;done)| skip
 cases hF1
 obtain⟨m,cc,led,r'⟩:=id r
 refine wpAny_call (make_K r'.F r'.N (clr.keep.keeps r'.F.keep) hm hi hf λx dx h' F' N' lt1 lt2=>?_)
 have scn:∀z∈(x,instObj c.1 dx)::(dx,emptyDict)::led,W.sc.1≠z.1:=λz hz e=>nope ((N' z hz).2.2.symm.trans (e▸r'.sc))
 have hne:∀q∈W.sc::led,q.1≠dx/\q.1≠x:=λq hq=>by
  rcases Zz7.mp hq with e | hq
  ·rw[e]
   exact⟨scn _ (Zz2 _ Zz5),scn _ Zz5⟩
  ·exact⟨Nat.ne_of_lt (lt1 q hq),Nat.ne_of_lt (Nat.lt_trans (lt1 q hq) lt2)⟩
 obtain⟨W1,l1,r1,x1⟩:=r'.newObj (c:=c) F' N' hne
 obtain⟨gd,cn,cs,a,ccd,cl,outer,A₀,base,eA,B,X,T,hke⟩:=clr
 let Γ':Cx:={ M with A:=ktrTop (dp+1) (un+1) gd cn cs M.L a ccd cl outer,hh:=rfl,hu:=by show un+1+200<cLine;lia }
 have clr':Clr K p loose mean mg mb Γ' (dp+1) (un+1):=⟨gd,cn,cs,a,ccd,cl,outer,A₀,base,rfl,B,X,T,hke⟩
 have to:∀{W:Wd} {U:Lc} {H:Hp} {fr:List (Addr×Obj)} {h:Heap},Rep M W U H fr h->Rep Γ' W U H fr h:=λ⟨m,c,led,r⟩=>⟨m,c,led,⟨r.F,r.N,r.R,r.sc,r.sc0,r.frIn,r.frOff,r.clIn,r.clOff,r.apart,r.frTup,r.clTup,r.own⟩⟩
 have from':∀{W:Wd} {U:Lc} {H:Hp} {fr:List (Addr×Obj)} {h:Heap},Rep Γ' W U H fr h->Rep M W U H fr h:=λ⟨m,c,led,r⟩=>⟨m,c,led,⟨r.F,r.N,r.R,r.sc,r.sc0,r.frIn,r.frOff,r.clIn,r.clOff,r.apart,r.frTup,r.clTup,r.own⟩⟩
 rw[eA]
 exact D Γ' (dp+1) (un+1) clr' .l .l W1 U _ fr { s with heap:=h' } (λv s'=>v=.none/\Q (.ref x) s') E (.obj c H.length::vs) (.ref x::xs) .none _ (to r1) (.cons x1 (hx.mono l1)) e1 λW2 h2 t2 y l2 r2 y2=>by
  cases y2
  exact⟨rfl,post W2 h2 t2 (.ref x) (l1.trans l2) (from' r2) (x1.mono l2)⟩
theorem J.new{x:Str}{room:Nat}(clr:Clr K p loose mean mg mb M dp un)(hn:Nm prog w M x (.ref c.1))(hkeep:keepIn K (.ref c.1)=true)(hm:makesIn K c.1=true)(hi:findIn K (.ref c.1) "__init__"=some (some (.ref fI)))(hf:typeIn K (.ref fI)=some (.type "function"))(D:Def prog w K p loose mean mg mb fI room F)(hd:dp+(room+1)<recursionLimit)(hu:un+10*(room+1)+300<cLine)
  (h:Js prog w M (e::es) g) (he:starEach (e::es) M.env=(false,eval e M.env)::starEach es M.env:=by rfl) (hp:∀pos,(backTo pos (starEach es M.env)).any (·.1)=false:=by intro _;rfl):J prog w M (.Call (.Name x np) (e::es) [] pos) (ZcG c F g):=by
 intro W U H fr s Q E v H' r hf' post
 obtain⟨q,e1,hf'⟩:=Zz0.mp hf'
 refine wpAny_Call_ofName (hn.use r ?_)
 refine callWith_K (first:=[]) clr.keep hkeep (h pos W U H fr s _ E _ _ r e1 λW1 k1 t1 xs l1 r1 x1=>⟨?_,?_⟩) he (hp pos)
 ·obtain⟨m,c,led,r1⟩:=r1
  exact clr.keep.keeps r1.F.keep
 ·exact ZkI (s:={ s with heap:=k1,toks:=t1 }) clr hm hi hf D hd hu r1 x1 hf' λW2 k2 t2 y l2 r2 y2=>post W2 k2 t2 y (l1.trans l2) r2 y2
theorem Ztl{x:Str}{room:Nat}(clr:Clr K p loose mean mg mb M dp un)(hn:Nm prog w M x (.ref c.1))(hkeep:keepIn K (.ref c.1)=true)(hm:makesIn K c.1=true)(hi:findIn K (.ref c.1) "__init__"=some (some (.ref fI)))(hf:typeIn K (.ref fI)=some (.type "function"))(D:Def prog w K p loose mean mg mb fI room F)(hd:dp+(room+1)<recursionLimit)(hu:un+10*(room+1)+300<cLine): J prog w M (.Call (.Name x np) [] [] pos) (ZcG c F Ze):=by
 intro W U H fr s Q E v H' r hf' post
 obtain⟨q,e1,hf'⟩:=Zz0.mp hf'
 cases e1
 refine wpAny_Call_ofName (hn.use r ?_)
 refine callWith_K0 (first:=[]) ?_ hkeep ?_
 ·obtain⟨m,c,led,r1⟩:=r
  exact clr.keep.keeps r1.F.keep
 ·exact ZkI clr hm hi hf D hd hu r .nil hf' post
end
end PM
end
section
namespace TM
open PySem PM
mutual
theorem RF.det{H:Hp}{v:V}{t t':T}{F F':List Nat}(r:RF H v t F)(r':RF H v t' F'): t=t'/\F=F':=by
 cases r with
 | none=>cases r';exact⟨rfl,rfl⟩
 | bool b=>cases r';exact⟨rfl,rfl⟩
 | int i=>cases r';exact⟨rfl,rfl⟩
 | str s=>cases r';exact⟨rfl,rfl⟩
 | tup hs=>
  cases r' with
  | tup hs'=>obtain⟨h1,h2⟩:=RFs.det hs hs';exact⟨by rw[h1],h2⟩
 | ref e hs=>
  cases r' with
  | ref e' hs'=>
   rw[e]at e'
   cases e'
   obtain⟨h1,h2⟩:=RFs.det hs hs';exact⟨by rw[h1],by rw[h2]⟩
 | obj e hs=>
  cases r' with
  | obj e' hs'=>
   rw[e]at e'
   cases e'
   obtain⟨h1,h2⟩:=RFs.det hs hs';exact⟨by rw[h1],by rw[h2]⟩
theorem RFs.det{H:Hp}{vs:List V}{ts ts':List T}{F F':List Nat}(r:RFs H vs ts F)(r':RFs H vs ts' F'): ts=ts'/\F=F':=by
 cases r with
 | nil=>cases r';exact⟨rfl,rfl⟩
 | cons a b=>
  cases r' with
  | cons a' b'=>
   obtain⟨h1,h2⟩:=RF.det a a'
   obtain⟨k1,k2⟩:=RFs.det b b'
   exact⟨by rw[h1,k1],by rw[h2,k2]⟩
end
end TM
end
section
namespace My
open PySem
variable{s:Shared}{c:Nat}{id:String}{args:List Value}{kw:List (Str×Value)}{Q:Value->Shared->Prop}
section
variable {prog:Program} {w:World} {A:Around} {R:Result->Shared->Prop} {I:Addr} {fp wr:List Addr} {n:Nat} {P:Nat->Value->Prop} {St:Nat->Heap->Prop}
theorem mx_rest(W:Walks prog w A.in1 I fp wr n P St)(bt:Nat->Nat->Bool)(cmp:CmpOf prog w A.in1 .Gt P bt)(S:Addr)(off:S∉fp)(kw:List (Str×Value)):
  ∀(k j:Nat) (s:Shared) (best:Value) (c:Nat),n-(j+1)=k->j+1<=n->St (j+1) s.heap->P (argBest bt j) best->s.heap.get? S=some { cls:=.type "list",dict:=none,data:=.seq #[best,best] c,slots:=#[] } ->
   (∀v g tk,P (argBest bt (n-1)) v->(∀b o,b∉wr->b≠S->s.heap.get? b=some o->g.get? b=some o)->R (.ok (.ret v)) { s with heap:=g,toks:=tk }) ->
   codeAny (model prog w) A (.builtin "max.loop" ⟨[.ref I,.none,.ref S],kw⟩) R s:=by
 have offw:S∉wr:=λq=>off (W.sub _ q)
 have nm:(toString "max"++toString ".loop":String)="max.loop":=by decide
 intro k
 induction k with
 | zero=>
  intro j s best c ek ej st pb at_S out
  have last:j+1=n:=by lia
  refine codeAny_builtin F.entry_max_loop ?_;rw[Around.under_plainId F.plain_max_loop _]
  show wpAny _ A.in1 (seqItems? (.ref S) >>= _) _ _ s;refine wpAny_bind (wpAny_seqItems at_S rfl ?_)
  show wpAny _ A.in1 (tryCatch (pyNext (.ref I)) _ >>= _) _ _ s;refine wpAny_bind (wpAny_tryCatch (W.done s _ _ (last▸st) λg tk keeps=>?_))
  have at_S':=keeps S _ offw at_S
  show wpAny _ A.in1 (updateSeq S (λ_=>#[]) >>= _) _ _ _
  refine wpAny_bind ?_;refine wpAny_updateSeq at_S' rfl (wpAny_bind (wpAny_letGo (wpAny_pure ?_)))
  exact out best _ tk (by rw[<-last];exact pb) λb o bw bS e=>(Heap.get?_update_other _ _ (Ne.symm bS)).trans (keeps b o bw e)
 | succ k ih=>
  intro j s best c ek ej st pb at_S out
  have more:j+1<n:=by omega
  refine codeAny_builtin F.entry_max_loop ?_;rw[Around.under_plainId F.plain_max_loop _]
  show wpAny _ A.in1 (seqItems? (.ref S) >>= _) _ _ s;refine wpAny_bind (wpAny_seqItems at_S rfl ?_)
  show wpAny _ A.in1 (tryCatch (pyNext (.ref I)) _ >>= _) _ _ s;refine wpAny_bind (wpAny_tryCatch (W.item (j+1) s _ _ more st λv g tk pv st' keeps=>?_))
  have at_S':=keeps S _ offw at_S
  show wpAny _ A.in1 (tryCatch (holding [v,v] (richCompare .Gt v best >>= _)) _ >>= _) _ _ _;refine wpAny_bind (wpAny_tryCatch (wpAny_holding (wpAny_bind (cmp (j+1) (argBest bt j) v best _ _ _ pv pb ?_))))
  refine wpAny_bind (wpAny_holding (wpAny_truthy_bool ?_));refine wpAny_bind (wpAny_letGo (wpAny_pure ?_))
  cases hb:bt (j+1) (argBest bt j)with
  | true=>
   simp only[if_true];refine wpAny_bind ?_;refine wpAny_updateSeq at_S' rfl (wpAny_bind (wpAny_letGo ?_));rw[nm]
   refine wpAny_pure ⟨plainId_quiet F.plain_max_loop _,ih (j+1) _ v _ .o more (W.frame _ _ _ st' λb bf o e=>?_) (by simp only[argBest,hb,if_true];exact pv) (Heap.get?_update_self _ at_S' rfl) λv' g' tk' pv' keeps'=>?_⟩
   ·exact(Heap.get?_update_other _ _ (λq:S=b=>off (by rw[q];exact bf))).trans e
   ·exact out v' g' tk' pv' λb o bw bS e=>keeps' b o bw bS ((Heap.get?_update_other _ _ (Ne.symm bS)).trans (keeps b o bw e))
  | false=>
   simp only[Bool.false_eq_true,if_false];refine wpAny_bind (wpAny_letGo ?_);rw[nm]
   refine wpAny_pure ⟨plainId_quiet F.plain_max_loop _,ih (j+1) _ best c .o more st' (by simp only[argBest,hb,Bool.false_eq_true,if_false];exact pb) at_S' λv' g' tk' pv' keeps'=>?_⟩
   exact out v' g' tk' pv' λb o bw bS e=>keeps' b o bw bS (keeps b o bw e)
theorem mx_first(W:Walks prog w A.in1 I fp wr n P St)(bt:Nat->Nat->Bool)(cmp:CmpOf prog w A.in1 .Gt P bt)(S:Addr)(off:S∉fp)(kw:List (Str×Value))(some_:0<n)(st:St 0 s.heap)
  (at_S:s.heap.get? S=some { cls:=.type "list",dict:=none,data:=.seq #[] c,slots:=#[] })
  (out:∀v g tk,P (argBest bt (n-1)) v->(∀b o,b∉wr->b≠S->s.heap.get? b=some o->g.get? b=some o)->R (.ok (.ret v)) { s with heap:=g,toks:=tk }):
  codeAny (model prog w) A (.builtin "max.loop" ⟨[.ref I,.none,.ref S],kw⟩) R s:=by
 have offw:S∉wr:=λq=>off (W.sub _ q)
 have nm:(toString "max"++toString ".loop":String)="max.loop":=by decide
 refine codeAny_builtin F.entry_max_loop ?_;rw[Around.under_plainId F.plain_max_loop _]
 show wpAny _ A.in1 (seqItems? (.ref S) >>= _) _ _ s;refine wpAny_bind (wpAny_seqItems at_S rfl ?_)
 show wpAny _ A.in1 (tryCatch (pyNext (.ref I)) _ >>= _) _ _ s;refine wpAny_bind (wpAny_tryCatch (W.item 0 s _ _ some_ st λv g tk pv st' keeps=>?_))
 have at_S':=keeps S _ offw at_S
 show wpAny _ A.in1 (updateSeq S (λ_=>#[v,v]) >>= _) _ _ _
 refine wpAny_bind ?_;refine wpAny_updateSeq at_S' rfl ?_;rw[nm]
 refine wpAny_pure ⟨plainId_quiet F.plain_max_loop _,mx_rest W bt cmp S off kw _ 0 _ v _ rfl some_ (W.frame _ _ _ st' λb bf o e=>?_) pv (Heap.get?_update_self _ at_S' rfl) λv' g' tk' pv' keeps'=>?_⟩
 ·exact(Heap.get?_update_other _ _ (λq:S=b=>off (by rw[q];exact bf))).trans e
 ·exact out v' g' tk' pv' λb o bw bS e=>keeps' b o bw bS ((Heap.get?_update_other _ _ (Ne.symm bS)).trans (keeps b o bw e))
theorem mx_none(W:Walks prog w A.in1 I fp wr 0 P St)(S:Addr)(x:Str)(d:Value)(kw:List (Str×Value))(st:St 0 s.heap)
  (at_S:s.heap.get? S=some { cls:=.type "list",dict:=none,data:=.seq #[] c,slots:=#[] })
  (out:∀g tk,(∀b o,b∉wr->s.heap.get? b=some o->g.get? b=some o)->R (.ok (.ret d)) { s with heap:=g,toks:=tk }):
  codeAny (model prog w) A (.builtin "max.loop" ⟨[.ref I,.none,.ref S],(x,d)::kw⟩) R s:=by
 refine codeAny_builtin F.entry_max_loop ?_;rw[Around.under_plainId F.plain_max_loop _]
 show wpAny _ A.in1 (seqItems? (.ref S) >>= _) _ _ s;refine wpAny_bind (wpAny_seqItems at_S rfl ?_)
 show wpAny _ A.in1 (tryCatch (pyNext (.ref I)) _ >>= _) _ _ s;refine wpAny_bind (wpAny_tryCatch (W.done s _ _ st λg tk keeps=>?_))
 show wpAny _ A.in1 (rule _ >>= _) _ _ _
 exact wpAny_bind (wpAny_rule (wpAny_pure (out g tk keeps)))
end
section
variable {prog:Program} {w:World} {A:Around} {E:Value->Shared->Prop} {s:Shared}
theorem kw_tree{b:Builtin}(e1:builtinKind id=none)(e2:plainId id=true)(e3:entryFor table id=some b)(e4:argsOk id ⟨args,kw⟩)
  (go:wpAny (model prog w) A.in1 (b ⟨args,kw⟩) (λfin s'=>match fin with
   | .done f=>(match (Except.ok f:Result)with
    | .ok (.ret v)=>Q v s'
    | .ok _=>False
    | .error e=>E e s')
   | .again c'=>c'.quiet=true/\codeAny (model prog w) A c' (λr s'=>match r with
    | .ok (.ret v)=>Q v s'
    | .ok _=>False
    | .error e=>E e s') s') E s):wpAny (model prog w) A (call (.builtin id) args kw) Q E s:=by
 refine wpAny_call (codeAny_call_builtin e2 e3 ?_)
 simp only[checkBuiltinCall,e1]
 cases sg:Manifest.signature? id with
 | none=>exact wpAny_pure go
 | some sig=>
  have e5:Bind.checkArgs id sig ⟨args,kw⟩=pure ():=by simpa only[argsOk,sg]using e4
  simp only[e5]
  exact wpAny_pure go
theorem mx_args(a d:Value): argsOk "max" ⟨[a],[(Str.ofString "default",d)]⟩:=by unfold argsOk;kernel_rfl
theorem mx_walk{x d:Value}
  (h:wpAny (model prog w) A.in1 (pyIter x) (λit s₂=>∃I fp wr n P St bt,it=.ref I/\Walks prog w A.in1 I fp wr n P St/\St 0 s₂.heap/\(∀b∈fp,b<s₂.heap.objs.size)/\CmpOf prog w A.in1 .Gt P bt /\
   (n=0->∀g tk,(∀b o,b∉wr->s₂.heap.get? b=some o->g.get? b=some o)->Q d { s₂ with heap:=g,toks:=tk }) /\
   (0<n->∀v g tk,P (argBest bt (n-1)) v->(∀b o,b∉wr->s₂.heap.get? b=some o->g.get? b=some o)->Q v { s₂ with heap:=g,toks:=tk })) E s):
  wpAny (model prog w) A (call (.builtin "max") [x] [(Str.ofString "default",d)]) Q E s:=by
 have nm:(toString "max"++toString ".loop":String)="max.loop":=by decide
 refine kw_tree F.kind_max F.plain_max F.entry_max (mx_args _ _) ?_
 show wpAny _ A.in1 (Builtin.Builtins.bindParams "max" ["key","default"] 0 ⟨[],[(Str.ofString "default",d)]⟩ >>= _) _ _ s
 refine wpAny_bind (wpAny_of_eq (show Builtin.Builtins.bindParams "max" ["key","default"] 0 ⟨[],[(Str.ofString "default",d)]⟩=pure [none,some d]from rfl) ?_)
 refine wpAny_bind (wpAny_pure ?_)
 refine wpAny_bind (wpAny_mono h (λit s₂ h₂=>?_) λ_ _ e=>e)
 obtain⟨I,fp,wr,n,P,St,bt,rfl,W,st,below,cmp,q0,q1⟩:=h₂
 refine wpAny_bind (wpAny_newObj_type ?_)
 have off:s₂.heap.objs.size∉fp:=λhm=>Nat.lt_irrefl _ (below _ hm)
 rw[nm]
 by_cases z:n=0
 ·subst z
  exact wpAny_pure ⟨plainId_quiet F.plain_max_loop _,mx_none W _ _ d [] (W.frame _ _ _ st λb _ o e=>Heap.get?_push_of_some _ e) (Heap.get?_push_size _ rfl) λg tk keeps=>q0 rfl g tk λb o bw e=>keeps b o bw (Heap.get?_push_of_some _ e)⟩
 ·refine wpAny_pure ⟨plainId_quiet F.plain_max_loop _,mx_first W bt cmp _ off _ (Nat.pos_of_ne_zero z) (W.frame _ _ _ st λb _ o e=>Heap.get?_push_of_some _ e) (Heap.get?_push_size _ rfl) λv g tk pv keeps=>?_⟩
  exact q1 (Nat.pos_of_ne_zero z) v g tk pv λb o bw e=>keeps b o bw (Nat.ne_of_lt (Heap.lt_size e)) (Heap.get?_push_of_some _ e)
end
section
variable {prog:Program} {w:World} {A:Around} {E:Value->Shared->Prop} {s:Shared} {l:Addr} {d:Value} {Q:Value->Shared->Prop}
theorem mx_ints(xs:Array (Int×Tok))(hh:A.handled=none)(hl:s.heap.IsList l (intItems xs))
  (q0:xs.size=0->∀g tk,(∀b o,s.heap.get? b=some o->g.get? b=some o)->Q d { s with heap:=g,toks:=tk })
  (q1:0<xs.size->∀v g tk,(intItems xs)[argBest (λi j=>decide (numAt xs i>numAt xs j)) (xs.size-1)]?=some v->(∀b o,s.heap.get? b=some o->g.get? b=some o)->Q v { s with heap:=g,toks:=tk }):
  wpAny (model prog w) A (call (.builtin "max") [.ref l] [(Str.ofString "default",d)]) Q E s:=by
 refine mx_walk (iter_intList hl λs₂ e st below ne=>?_)
 subst e
 have sz:(intItems xs).size=xs.size:=by simp[intItems]
 refine⟨_,_,_,_,_,_,_,rfl,Walks.list (A:=A.in1) hh _ l ne (intItems xs),st,below,CmpOf.ints_gt (numAt xs) (λ_ _=>intItems_at),λz g tk k=>q0 (sz▸z) g tk (old_kept k),λz v g tk pv k=>?_⟩
 rw[sz]at z pv
 exact q1 z v g tk pv (old_kept k)
end
end My
end
section
namespace PM
open PySem PySem.W PySem.Calls PyProof.Rows PyProof PyProof.Rows.LCg PyProof.Rows.LCp
variable{prog:Program}{w:World}{M:Cx}
theorem ZlL(bt:Nat->Nat->Bool): ∀j:Nat,argBest bt j<=j
 | 0=>Nat.le_refl _
 | j+1=>by
  have:=ZlL bt j
  simp only[argBest];split <;> lia
theorem ZiA{W:Wd}: ∀{vs:List V} {xs:List Value} {ks:List Int},VRs W vs xs->Za2 vs=some ks->∃ts:List (Int×Tok),xs=ts.map (λp=>Value.int p.1 p.2)/\ts.map (·.1)=ks
 | [],_,_,h,e=>by cases h;cases e;exact⟨[],rfl,rfl⟩
 | v::vs,xs,ks,h,e=>by
  cases h with
  | cons a b=>
   cases a <;> simp only[Za2]at e <;> try cases e
   obtain⟨ks',e1,e2⟩:=Zz1.mp e
   obtain⟨ts,h1,h2⟩:=ZiA b e1
   exact⟨(_,_)::ts,by rw[h1];rfl,by simp[h2,<-e2]⟩
def Zjo:=ZbK (λvs H=>(Za2 vs).map λks=>(.int (ks.max?.getD 0),H)) λ_ _=>none
theorem Zpl(f:Nat->Int)(j:Nat): ∀i:Nat,i<=j->f i<=f (argBest (λa b=>decide (f a>f b)) j):=by
 induction j with
 | zero=>
  intro i h
  have:i=0:=by lia
  subst this
  exact Int.le_refl _
 | succ j ih=>
  intro i h
  simp only[argBest]
  split
  ·rename_i c
   have c:=of_decide_eq_true c
   rcases Nat.lt_or_ge j i with h1 | h1
   ·have:i=j+1:=by lia
    subst this
    exact Int.le_refl _
   ·have:=ih i h1
    omega
  ·rename_i c
   have c:¬f (j+1)>f (argBest (λa b=>decide (f a>f b)) j):=λq=>c (decide_eq_true q)
   rcases Nat.lt_or_ge j i with h1 | h1
   ·have:i=j+1:=by omega
    subst this
    omega
   ·exact ih i h1
theorem ZkJ{ts:List (Int×Tok)}{ks:List Int}{v':Value}(g2:ts.map (·.1)=ks)(z:0<ts.length)(pv:(intItems ts.toArray)[argBest (λi j=>decide (numAt ts.toArray i>numAt ts.toArray j)) (ts.length-1)]?=some v'): ∃m t,ks.max? = some m/\v'=.int m t:=by
 have nums:∀i (hi:i<ts.length),numAt ts.toArray i=ts[i].1:=λi hi=>by simp[numAt,hi]
 have hb:=ZlL (λi j=>decide (numAt ts.toArray i>numAt ts.toArray j)) (ts.length-1)
 have hlow:=Zpl (numAt ts.toArray) (ts.length-1)
 generalize argBest (λi j=>decide (numAt ts.toArray i>numAt ts.toArray j)) (ts.length-1)=b at hb hlow pv
 have hb':b<ts.length:=by omega
 have e:(intItems ts.toArray)[b]?=some (Value.int ts[b].1 ts[b].2):=by simp[intItems,hb']
 rw[e]at pv
 refine⟨ts[b].1,ts[b].2,List.max?_eq_some_iff.mpr ⟨by rw[<-g2];exact Zz11.mpr ⟨ts[b],List.getElem_mem _,rfl⟩,λc hc=>?_⟩,(Option.some.inj pv).symm⟩
 rw[<-g2]at hc
 obtain⟨q,hq,rfl⟩:=Zz11.mp hc
 obtain⟨i,hi,rfl⟩:=List.getElem_of_mem hq
 have:=hlow i .l
 rw[nums i hi,nums b hb']at this
 exact this
theorem Ztm{x:Str}{np pos kp p2:Pos}{n2:Nat}{e1:Expr}{f:Ex}(hn:Nm prog w M x (.builtin "max"))(h1:J prog w M e1 f)
  (he:backTo pos (starEach [e1] M.env)=(false,eval e1 M.env)::backTo pos (starEach [] M.env):=by rfl) (he2:starEach [e1] M.env=(false,eval e1 M.env)::starEach [] M.env:=by rfl)
  (hp:(backTo pos (starEach [e1] M.env)).any (·.1)=false:=by rfl):
  J prog w M (.Call (.Name x np) [e1] [⟨some "default",.Constant (.int 0) n2 p2,kp⟩] pos) (Zg Zjo (Zb f Ze)):=by
 intro W U H fr s Q E v H' r hf post
 obtain⟨p,a1,hf⟩:=Zz0.mp hf
 obtain⟨p1,b1,b2⟩:=Zz0.mp a1
 obtain⟨u1,H1⟩:=p1
 cases b2
 simp only at hf
 refine wpAny_Call_ofName (hn.use r ?_)
 refine callWith_kw (wpAny_items_cons (h1 W U H fr s _ E _ _ r b1 λW1 k1 t1 y1 l1 r1 v1=>wpAny_items_nil ?_) he2) he hp rfl rfl
 refine kws_cons (wpAny_Constant_int (kws_nil ?_))
 show wpAny (model prog w) M.A (call (.builtin "max") [y1] [(Str.ofString "default",.int 0 _)]) Q E _
 obtain⟨i,vs,e0,e1,e2⟩:=Ziv hf
 cases e0
 obtain⟨ks,e3,e4⟩:=Zz1.mp e2
 cases e4
 obtain⟨a,rfl,ea⟩:=v1.iref
 obtain⟨hl,ys,k,hg,hv⟩:=r1.at e1 ea
 obtain⟨ts,g1,g2⟩:=ZiA hv e3
 have isl:k1.IsList _ (intItems ts.toArray):=⟨_,hg,rfl,k,by rw[g1];simp[intItems]⟩
 refine My.mx_ints ts.toArray M.hh isl (λz g tk up=>?_) λz v' g tk pv up=>?_
 ·have z:ts=[]:=List.length_eq_zero_iff.mp (by simpa using z)
  subst z
  subst g2
  exact post W1 g tk _ l1 (r1.grown up) (.int _ _)
 ·obtain⟨m,t,hm,rfl⟩:=ZkJ g2 (by simpa using z) (by simpa using pv)
  exact post W1 g tk _ l1 (r1.grown up) (by rw[hm];exact .int _ _)
end PM
end
section
namespace PM
open PySem PySem.W PySem.Calls PyProof.Rows PyProof
noncomputable def Zbj(ns:List Int): List Int:=ns.mergeSort λa b=>decide (a<=b)
theorem ZkK{ns ms:List Int}(h1:ms.Perm ns)(h2:ms.Pairwise (·<=·)): ms=Zbj ns:=by
 refine List.Perm.eq_of_pairwise (le:=λa b:Int=>a<=b) (λa b _ _ h h'=>Int.le_antisymm h h') h2 ?_ (h1.trans (List.mergeSort_perm ns _).symm)
 have:=List.pairwise_mergeSort (le:=λa b:Int=>decide (a<=b)) (λa b c h h'=>by simp at *;lia) (λa b=>by simp;lia) ns
 unfold Zbj
 simpa using this
theorem Zii{ns:List Int}: (Zbj ns).length=ns.length:=(List.mergeSort_perm ns _).length_eq
theorem ZrB{W:Wd}: ∀{vs:List V} {xs:List Value} {ks:List Int},VRs W vs xs->Za2 vs=some ks->IntsAre xs ks:=by
 intro vs
 induction vs with
 | nil=>intro xs ks h e;cases h;cases e;exact .nil
 | cons v vs ih=>
  intro xs ks h e
  cases h with
  | cons a b=>
   cases v with
   | int i=>
    obtain⟨js,e1,e2⟩:=Zz1.mp e
    subst e2
    cases a with
    | int _ t=>exact .cons i t (ih b e1)
   | none=>cases e
   | bool=>cases e
   | str=>cases e
   | tup=>cases e
   | ref=>cases e
   | obj=>cases e
   | dct=>cases e
theorem ZlM{W:Wd}: ∀{xs:List Value} {ks:List Int},IntsAre xs ks->VRs W (ks.map V.int) xs
 | _,_,.nil=>.nil
 | _,_,.cons n t r=>.cons (.int n t) (ZlM r)
end PM
end
section
namespace PM
open PySem PySem.W PySem.Calls PyProof.Rows PyProof PyProof.Rows.LCg PySem.SeqAt
open SeqRoads2 MeetsSeq3 MeetsSeq2 MeetsSeq AutoSeq1
variable{prog:Program}{w:World}{M:Cx}
def Zga: V->V->Hp->Option (V×Hp)
 | .ref a,.ref b,H=>H[a]?.bind λvs=>H[b]?.bind λus=>if a≠0/\a≠b/\vs.length+us.length<=ZK then some (.none,H.set a (vs++us))else none
 | _,_,_=>none
def Zgb(o f:Ex): Ex:=λU H=>(o U H).bind λp=>(f U p.2).bind λq=>Zga p.1 q.1 q.2
theorem Zof{a b x:V}{H K:Hp}(h:Zga a b H=some (x,K)): ∃i j vs us,a=.ref i/\b=.ref j/\H[i]?=some vs/\H[j]?=some us/\i≠0/\i≠j/\vs.length+us.length<=ZK/\x=.none/\K=H.set i (vs++us):=by
 unfold Zga at h
 split at h
 ·obtain⟨vs,e1,h⟩:=Zz0.mp h
  obtain⟨us,e2,h⟩:=Zz0.mp h
  split at h
  ·rename_i q
   cases h
   exact⟨_,_,vs,us,rfl,rfl,e1,e2,q.1,q.2.1,q.2.2,rfl,rfl⟩
  ·cases h
 ·cases h
theorem J.extend{o e1:Expr}{apos pos:Pos}{f g:Ex}(ho:J prog w M o f)(h1:J prog w M e1 g)(hbase:attributeBase o "extend" M.env (eval o M.env)=eval o M.env:=by rfl)
  (hline:(apos.endLine == pos.line)=true:=by rfl) (htrees:backTo pos (starEach [e1] M.env)=[(false,eval e1 M.env)]:=by rfl):J prog w M (.Call (.Attribute o "extend" apos) [e1] [] pos) (Zgb f g):=by
 intro W U H fr s Q E v H' r hx post
 obtain⟨p,x1,hx⟩:=Zz0.mp hx
 obtain⟨q,x2,x3⟩:=Zz0.mp hx
 obtain⟨i,j,vs,us,ea,eb,hvs,hus,i0,ij,hl,er,eK⟩:=Zof x3
 refine wpAny_Call_method1_late hbase hline htrees (ho W U H fr s _ E _ _ r x1 λW1 k1 t1 x l1 r1 y1=>?_)
 rw[ea]at y1
 have hin:=r1.refIn y1
 cases y1 with
 | @ref _ a aa=>
 obtain⟨_,xs,n,hg,hv⟩:=r1.at (Yy1 hin) aa
 refine⟨"list","list.extend",PySem.F.plainAttrs_list,PySem.F.slot_list_extend,PySem.F.type_list_extend,(show k1.IsList a xs.toArray from⟨_,hg,rfl,n,rfl⟩).typeIs,λb eb=>by cases eb;exact⟨_,hg,rfl⟩,?_⟩
 refine Calls.callWith_builtin rfl (Calls.evalArgs_plain (Calls.spliced_cons ?_))
 refine h1 W1 U _ fr _ _ E _ _ r1 x2 λW2 k2 t2 y l2 r2 y2=>Calls.spliced_nil ?_
 rw[eb]at y2
 cases y2 with
 | @ref _ b bb=>
 obtain⟨hl2,xs2,n2,hg2,hv2⟩:=r2.at hvs (l2.at aa)
 obtain⟨hl3,xs3,n3,hg3,hv3⟩:=r2.at hus bb
 have z2:=hv2.length
 have z3:=hv3.length
 rw[ZD]at hl hl2 hl3
 have szl:sizeLine=2 ^ 24:=rfl
 refine call_meets PySem.F.slot_list_extend ⟨_,hg2,rfl⟩ PySem.F.entry_list_extend (PySem.F.args_list_extend_2 _ _) (list_extend_list_list_0 a xs2.toArray n2 b xs3.toArray n3 ?_ (by rw[List.size_toArray,szl];lia) (by rw[List.size_toArray,List.size_toArray,szl];lia)) ⟨hg2,hg3,?_⟩
 ·simp only[Builtin.List.listTooLong,List.size_toArray]
  simp
  intro _
  lia
 ·obtain⟨c2,hc2⟩:∃c2,(k2.update a (Obj.mapSeq λx=>x++xs3.toArray)).get? a=some (Zat (xs2++xs3) c2):=⟨_,by rw[get?_update_seq hg2 λx=>x++xs3.toArray];simp[Zat];rfl⟩
  cases er
  have sb:=Heap.SameBut.update k2 a (Obj.mapSeq λx=>x++xs3.toArray)
  rw[eK]at post
  exact post W2 _ t2 .none (l1.trans l2) (r2.change i0 hvs (l2.at aa) sb hc2 (hv2.append hv3) (by rw[List.length_append,ZD];omega)) .none
end PM
end
section
namespace PM
open PySem PySem.W PySem.Calls PyProof.Rows PyProof PyProof.Rows.LCg
variable{P:Prop}{f:Ex}{scope:Scope}{cl:List (Str×Addr)}{x₃:Str}{px₂ px₃:Pos}{kt t₂ t₃:Nat}{ifs:List Expr}
variable{prog:Program}{w:World}{M:Cx}
def Zhb(i j k:Nat): V->Lc->Option Lc
 | .tup [a,b,c],U=>some (Zi (Zi (Zi U i a) j b) k c)
 | _,_=>none
theorem Zqf{i j k:Nat}{v:V}{U O:Lc}(h:Zhb i j k v U=some O)(hp:∀a b c,v=.tup [a,b,c]->Zi (Zi (Zi U i a) j b) k c=O->P): P:=by
 cases v <;> first | exact nope h | skip
 rename_i vs
 cases vs with
 | nil=>cases h
 | cons a vs=>
 cases vs with
 | nil=>cases h
 | cons b vs=>
 cases vs with
 | nil=>cases h
 | cons c vs=>
 cases vs with
 | nil=>exact hp a b c rfl (Option.some.inj h)
 | cons d vs=>cases h
def ZjB(u:V)(H:Hp): Option (Nx×Nat×Hp):=match u with
 | .ref a=>H[a]?.map λvs=>(ZI a,vs.length+1,H)
 | _=>none
def Zhc(f:Ex): Src:=λU H=>(f U H).bind λp=>ZjB p.1 p.2
theorem ZrC{u:V}{H H':Hp}{nx:Nx}{n:Nat}(h:ZjB u H=some (nx,n,H'))(hp:∀a vs,u=.ref a->H[a]?=some vs->ZI a=nx->vs.length+1=n->H=H'->P): P:=by
 cases u <;> first | exact nope h | skip
 obtain⟨vs,c1,c3⟩:=Zz1.mp h
 have e:=Prod.mk.inj c3
 have f:=Prod.mk.inj e.2
 exact hp _ vs rfl c1 e.1 f.1 f.2
theorem JIL.seq{e:Expr}(h:J prog w M e f): JI2 prog w M e (Zhc f):=by
 intro elts k tp W U H fr s Q E nx n H' r hf post
 obtain⟨⟨v,H1⟩,e1,hf⟩:=Zz0.mp hf
 refine h W U H fr s _ E _ _ r e1 λW1 k1 t1 x l1 r1 x1=>?_
 refine ZrC hf λi0 vs q1 e2 q3 q4 q5=>?_
 subst q1 q3 q4 q5
 obtain⟨a,rfl,ea⟩:=x1.iref
 refine Zlx r1 e2 ea λh' it as It fs i r ap I L=>post W1 h' t1 it as It fs l1 i r ap ⟨I.adr,λi W U H fr fs s Q E l r a it hn k=>I.next i W U H fr fs s Q E none l r a it hn k,λi W U H fr fs s Q E v l r a it hn hG q=>I.next i W U H fr fs s Q E (some v) l r a it hn λfs' h' tk' x it' r' vx=>?_⟩ λU fr s Q E r q=>I.self 0 W1 U _ fr fs s Q E (.refl _) r i q
 obtain⟨us,rfl⟩:=hG
 obtain⟨T,xs,n,rfl,hm,_,hs⟩:=vx.itup
 exact q (.ref T) h' tk' λQ1 E1 z=>L _ _ _ _ _ _ { s with heap:=h',toks:=tk' } Q1 E1 _ _ _ _ r' it' (z fs' h' it' r' ⟨T,xs,us,rfl,⟨_,r'.tupAt hm,rfl,n,rfl⟩,rfl,hs⟩)
theorem AsC.three{x d:Str}{px tp:Pos}{t:Nat}(hkind:scope.kind=.function)(hx:scope.names.lookup x=some .local)(hx₂:scope.names.lookup d=some .local)(hx₃:scope.names.lookup x₃=some .local)(hxx:x≠d/\x≠x₃/\d≠x₃)(htt:t≠t₂/\t≠t₃/\t₂≠t₃): AsC prog w M scope cl (tgT [.Name x px,.Name d px₂,.Name x₃ px₃] kt tp) (Zhb t t₂ t₃) [(x,t),(d,t₂),(x₃,t₃)]:=by
 refine λv U O e=>Zqf e λa b c hv z=>⟨⟨_,hv⟩,λi hi=>?_,λC W s Q E y m vy hn k=>?_⟩
 ·have h1:i≠t:=λe=>hi (x,t) .s e.symm
  have h2:i≠t₂:=λe=>hi (d,t₂) .s e.symm
  have h3:i≠t₃:=λe=>hi (x₃,t₃) .s e.symm
  rw[<-z]
  simp[Zi,h1,h2,h3]
 ·obtain⟨T,ys,vs,rfl,ht,rfl,hs⟩:=vy
  cases hv
  cases hs with
  | cons v1 hs=>
  obtain⟨y2,y3,rfl,v2,v3⟩:=hs.two
  subst z
  refine assign_Tuple_tuple M.hh ht rfl rfl λg₄ he=>?_
  have hup:∀b o,s.heap.get? b=some o->g₄.get? b=some o:=λb o e=>he b o (Nat.ne_of_lt (Heap.lt_size e)) e
  refine assignInOrder_cons (Zd1 hkind hx (hn.keeps hup) λh5 t5 hn5 u5=>assignInOrder_cons (Zd1 hkind hx₂ hn5 λh6 t6 hn6 u6=>assignInOrder_cons (Zd1 hkind hx₃ hn6 λh7 t7 hn7 u7=>assignInOrder_nil (k h7 t7 _ hn7 (λb o hb e=>u7 b o hb (u6 b o hb (u5 b o hb (hup b o e)))) λp hp=>?_))))
  simp only[List.mem_cons,List.not_mem_nil,or_false]at hp
  rcases hp with rfl | rfl | rfl
  ·exact⟨a,_,by simp[Zi,htt.1,htt.2.1],by simp[hxx.1,hxx.2.1],v1⟩
  ·exact⟨b,y2,by simp[Zi,htt.2.2],by simp[hxx.2.2],v2⟩
  ·exact⟨c,y3,by simp[Zi],.s,v3⟩
theorem ZrD{elt iter:Expr}{x d:Str}{px tp:Pos}{pos:Pos}{t:Nat}{g:Src}{c:Ts}(hg:JI2 prog w M iter g)(hel:∀C U,J prog w (Zaz M scope cl C [(x,t),(d,t₂),(x₃,t₃)] U) elt f)(hif:∀C U,JF prog w (Zaz M scope cl C [(x,t),(d,t₂),(x₃,t₃)] U) ifs c)
  (hclos:closureFor scope M.env=pure cl) (hcell:∀y∈scope.names,y.2≠.cell) (hkind:scope.kind=.function) (hnames:∀y∈scope.names,y.2=.local->scope.names.lookup y.1=some .local) (hx:scope.names.lookup x=some .local) (hx₂:scope.names.lookup d=some .local) (hx₃:scope.names.lookup x₃=some .local) (hxx:x≠d/\x≠x₃/\d≠x₃) (htt:t≠t₂/\t≠t₃/\t₂≠t₃) (hs:∀x,foldedSetIterable iter M.env x=pure x:=by intro _;rfl):
  J prog w M (.ListComp elt [⟨.Tuple [.Name x px,.Name d px₂,.Name x₃ px₃] kt tp,iter,ifs,0⟩] scope pos) (Z3 g (Zhb t t₂ t₃) c f):=
 ZiN (T:=tgT [.Name x px,.Name d px₂,.Name x₃ px₃] kt tp) (hg _ _ _) (.three hkind hx hx₂ hx₃ hxx htt) hel hif hclos hcell hkind hnames hs
end PM
end
section
open PySem PySem.W PySem.Calls PyProof.Rows
namespace PM
variable{prog:Program}{w:World}{M:Cx}
theorem ZbC{e:Expr}{lo hi:Option Expr}{p pos:Pos}{f:Ex}{a b:Pt}(h:J prog w M e f)(hlo:JP prog w M lo a)(hhi:JP prog w M hi b)(hs:∀a c,subscripted (.Slice lo hi Option.none p) false (.ref a) (.ref c)=operate [.ref c,.ref a] (getItem (.ref a) (.ref c)):=by intros;with_unfolding_all rfl): J prog w M (.Subscript e (.Slice lo hi Option.none p) pos) (ZaB f a b):=by
 intro W U H fr s Q E v H' r hf post
 right
 obtain⟨p,e1,hf⟩:=Zz0.mp hf
 obtain⟨q,e2,hf⟩:=Zz0.mp hf
 obtain⟨u,e3,hf⟩:=Zz0.mp hf
 obtain⟨ka,e4,hf⟩:=Zz0.mp hf
 obtain⟨kb,e5,hf⟩:=Zz0.mp hf
 left
 refine Subscript_ (h W U H fr s _ E _ _ r e1 λW1 k1 t1 x l1 r1 x1=>?_)
 refine wpAny_Slice (hlo W1 U _ fr _ _ E _ _ r1 e2 λW2 k2 t2 y l2 r2 y2=>?_)
 refine hhi W2 U _ fr _ _ E _ _ r2 e3 λW3 k3 t3 z l3 r3 z3=>?_
 have x3:=x1.mono (l2.trans l3)
 obtain⟨a,xs,W4,rfl,isl,hl,l4,r4,v4,hx⟩:=ZoC (y:=y) (z:=z) hf r3 x3
 have hQ:=post W4 _ t3 _ (((l1.trans l2).trans l3).trans l4) r4 v4
 rw[evalPart_none]
 refine wpAny_pure (kba_turn (value':=.Name "_" ⟨0,0,0,0⟩) (λ_=>rfl) ?_)
 refine subscriptTail_ops (T:="list") ((isl.push _).typeIs) list_getitem_lookup ?_ (hs _ _) (λ_=>rfl)
 refine wpAny_getItem_list_slice (isl.push _) (Heap.IsSliceOf.new ..) ((y2.mono l3).part e4) (z3.part e5) .none .s ?_ (by simpa using hl)
 rw[hx]
 exact hQ
end PM
end
section
namespace PM
open PySem PySem.W PySem.Calls PyProof.Rows PyProof
variable{j n m i slot ep:Nat}{d:Type}{h:Int}{x:Value}{q:Nat×Nat}{f:Nat->Int}{Q N:Value->Shared->Prop}{l I a:Addr}{us args:List Value}{ns ks:List Int}{o:Obj}
variable{prog:Program}{w:World}{M:Cx}
def Zby(t:SetTable): Prop:=t.place.toList.Pairwise (· < ·)/\t.dummies = #[]
theorem ZiB{xs:Array Nat}{j:Nat}(hs:xs.toList.Pairwise (· < ·)): ∀(fuel lo hi:Nat),lo<=hi->hi<=xs.size->hi-lo<=fuel->(∀i,(h:i<xs.size)->i<lo->xs[i]<j)->(∀i,(h:i<xs.size)->hi<=i->j<=xs[i]) ->
  SetTable.below.go xs j fuel lo hi<=xs.size/\(∀i,(h:i<xs.size)->i<SetTable.below.go xs j fuel lo hi->xs[i]<j)/\(∀i,(h:i<xs.size)->SetTable.below.go xs j fuel lo hi<=i->j<=xs[i])
 | 0,lo,hi,h1,h2,h3,h4,h5=>by
  have:lo=hi:=by lia
  subst this
  exact⟨h2,h4,h5⟩
 | fuel+1,lo,hi,h1,h2,h3,h4,h5=>by
  have mono:∀(a b:Nat) (ha:a<xs.size) (hb:b<xs.size),a<=b->xs[a]<=xs[b]:=λa b ha hb hab=>by
   rcases Nat.lt_or_ge a b with q | q
   ·have:=List.pairwise_iff_getElem.mp hs a b (by simpa using ha) (by simpa using hb) q
    simp at this
    omega
   ·have:a=b:=by lia
    subst this
    exact Zz10 _
  unfold SetTable.below.go
  split
  ·rename_i hlt
   dsimp only
   have hm:(lo+hi) / 2<xs.size:=by lia
   have hg:xs.getD ((lo+hi) / 2) j=xs[(lo+hi) / 2]:=by simp[Array.getD,hm]
   rw[hg]
   split
   ·rename_i hc
    exact ZiB hs fuel _ _ .l h2 .o (λi hi' hi2=>by
     have:=mono i ((lo+hi) / 2) hi' hm .l
     lia) h5
   ·rename_i hc
    exact ZiB hs fuel _ _ .l .l .o h4 (λi hi' hi2=>by
     have:=mono ((lo+hi) / 2) i hm hi' hi2
     lia)
  ·have:lo=hi:=by lia
   subst this
   exact⟨h2,h4,h5⟩
theorem ZfG{xs:Array Nat}(hs:xs.toList.Pairwise (· < ·)): SetTable.below xs j<=xs.size/\(∀i,(h:i<xs.size)->i<SetTable.below xs j->xs[i]<j)/\(∀i,(h:i<xs.size)->SetTable.below xs j<=i->j<=xs[i]):=
 ZiB hs xs.size 0 xs.size (Nat.zero_le _) (Zz10 _) .l (λi _ h=>by lia) (λi h h'=>by lia)
theorem ZjQ{xs:Array d}{p:Nat}{x:d}(hp:p<=xs.size): (SetTable.insertAt xs p x).toList=xs.toList.take p++x::xs.toList.drop p:=by
 unfold SetTable.insertAt
 rw[Array.toList_append,Array.toList_push,Array.toList_extract,Array.toList_extract]
 simp
 rw[List.take_of_length_le .s]
theorem ZrE{t:SetTable}(h:Zby t)(hn:¬t.place[SetTable.below t.place j]?=some j): Zby (t.put j).1:=by
 obtain⟨hs,hd⟩:=h
 obtain⟨b1,b2,b3⟩:=ZfG (j:=j) hs
 refine⟨?_,?_⟩
 ·show(SetTable.insertAt t.place (SetTable.below t.place j) j).toList.Pairwise (· < ·)
  rw[ZjQ b1,List.pairwise_append]
  refine⟨hs.sublist (List.take_sublist _ _),?_,?_⟩
  ·rw[List.pairwise_cons]
   refine⟨λy hy=>?_,hs.sublist (List.drop_sublist _ _)⟩
   obtain⟨i,hi,rfl⟩:=List.getElem_of_mem hy
   rw[List.length_drop]at hi
   rw[List.getElem_drop]
   have hi':SetTable.below t.place j+i<t.place.size:=by simp at hi;lia
   have h3:=b3 _ hi' .l
   simp only[Array.getElem_toList]
   rcases Nat.lt_or_ge 0 i with q | q
   ·have hb:SetTable.below t.place j<t.place.size:=by lia
    have:=List.pairwise_iff_getElem.mp hs (SetTable.below t.place j) (SetTable.below t.place j+i) (by simpa using hb) (by simpa using hi') .l
    simp at this
    have:=b3 _ hb (Zz10 _)
    omega
   ·have:i=0:=by lia
    subst this
    have ne:t.place[SetTable.below t.place j+0]≠j:=λe=>hn (by rw[Array.getElem?_eq_getElem (by simpa using hi')];simpa using e)
    lia
  ·intro y hy z hz
   obtain⟨i,hi,rfl⟩:=List.getElem_of_mem hy
   rw[List.length_take]at hi
   rw[List.getElem_take]
   have h2:=b2 i (by simp at hi;lia) .l
   simp only[Array.getElem_toList]
   rcases Zz7.mp hz with rfl | hz
   ·exact h2
   ·obtain⟨k,hk,rfl⟩:=List.getElem_of_mem hz
    rw[List.length_drop]at hk
    rw[List.getElem_drop]
    have h3:=b3 (SetTable.below t.place j+k) (by simp at hk;lia) .l
    simp only[Array.getElem_toList]
    omega
 ·show(if SetTable.has t.dummies j then SetTable.eraseAt t.dummies (SetTable.below t.dummies j)else t.dummies) = #[]
  rw[hd]
  rw[if_neg (by simp[SetTable.has])]
theorem ZfE{t:SetTable}: Zby (t.standIn n):=by
 refine⟨?_,rfl⟩
 show(Array.range n).toList.Pairwise (· < ·)
 rw[Array.toList_range]
 exact List.pairwise_lt_range
theorem Zn7{t:SetTable}(h:Zby t): Zby (t.orStandIn n):=by
 unfold SetTable.orStandIn
 split
 ·exact h
 ·exact ZfE
theorem ZiC{t:SetTable}{f:Nat->Int}{h:Int}(hd:t.dummies = #[]): ∀(fuel:Nat) (p:SetTable.Probe) (j:Nat) (d:Option Nat),p.dummy=none->SetTable.probe.go t f h fuel p=some (.empty j d)->d=none/\¬t.place[SetTable.below t.place j]?=some j
 | 0,p,j,d,_,e=>by cases e
 | fuel+1,p,j,d,hp,e=>by
  unfold SetTable.probe.go at e
  have hno:t.slot p.j≠.dummy:=by
   unfold SetTable.slot
   dsimp only
   split
   ·simp
   ·rw[hd,if_neg (by simp[SetTable.has])]
    simp
  have adv:(t.advance p).dummy=none:=by
   unfold SetTable.advance
   split
   ·exact hp
   ·exact hp
  split at e
  ·rename_i hs
   cases e
   refine⟨hp,λq=>?_⟩
   unfold SetTable.slot at hs
   dsimp only at hs
   rw[if_pos (by rw[q];simp)]at hs
   cases hs
  ·rename_i hs;exact absurd hs hno
  ·split at e
   ·cases e
   ·exact ZiC hd fuel _ j d adv e
theorem ZoG{t:SetTable}{es:Array (Int×Value)}(hi:Zby t): Zby (layNew t es h x).2.1/\(layNew t es h x).2.1.led=t.led:=by
 unfold layNew
 split
 ·rename_i slot wd e
  unfold SetTable.freeSlot at e
  split at e
  ·rename_i j d hp
   cases e
   obtain⟨rfl,hn⟩:=ZiC hi.2 _ _ _ _ rfl hp
   refine⟨Zn7 (ZrE hi hn),?_⟩
   dsimp only
   unfold SetTable.orStandIn
   split <;> rfl
  ·cases e
 ·exact⟨ZfE,rfl⟩
theorem Zqg{mask finger moves:Nat}{led plain:Bool}{hs:Array Int}{t:SetTable}{o:Array Nat}(e:SetTable.laid mask finger moves led plain hs=some (t,o)): Zby t/\t.led=led:=by
 unfold SetTable.laid at e
 obtain⟨ow,_,e⟩:=Zz0.mp e
 cases e
 refine⟨⟨?_,rfl⟩,rfl⟩
 simp only[List.map_filterMap]
 refine List.Pairwise.filterMap _ (R:=(· < ·)) (λa b hab c hc d hd=>?_) List.pairwise_lt_range
 simp only[Option.map_map,Option.map_eq_some_iff]at hc hd
 obtain⟨_,_,rfl⟩:=hc
 obtain⟨_,_,rfl⟩:=hd
 exact hab
theorem Zog{t:SetTable}{es:Array (Int×Value)}(hi:Zby t): Zby (relayAll t es n).2.1/\(relayAll t es n).2.1.led=t.led:=by
 unfold relayAll
 split
 ·rename_i t' o e
  obtain⟨h1,h2⟩:=Zqg e
  dsimp only
  split
  ·exact⟨h1,h2⟩
  ·exact⟨ZfE,rfl⟩
 ·exact⟨ZfE,rfl⟩
noncomputable def lps(m:Nat): Nat->Nat×Nat->Nat×Nat
 | 0,q=>q
 | n+1,q=>lps m n (SetTable.leap m q.1 q.2)
theorem Zgc(m:Nat): ∀(a b:Nat) (q:Nat×Nat),lps m (a+b) q=lps m b (lps m a q)
 | 0,b,q=>by rw[Nat.zero_add];rfl
 | a+1,b,q=>by rw[Nat.add_right_comm];exact Zgc m a b _
theorem ZiS(m:Nat): ∀(n:Nat) (q:Nat×Nat),(lps m n q).2=q.2 / 32 ^ n
 | 0,q=>by simp[lps]
 | n+1,q=>by
  rw[lps,ZiS m n]
  show q.2 / 32 / 32 ^ n=_
  rw[Nat.div_div_eq_div_mul,Nat.pow_succ,Nat.mul_comm]
theorem ZmR(m:Nat): ∀(n:Nat) (q:Nat×Nat),q.1<m+1->(lps m n q).1<m+1
 | 0,q,h=>h
 | n+1,q,h=>ZmR m n _ (Nat.mod_lt _ (Nat.succ_pos m))
noncomputable def rounds(m:Nat): Nat->Nat->List Nat
 | 0,_=>[]
 | n+1,i=>i::rounds m n ((i*5+1) % (m+1))
theorem ZjW(m:Nat): ∀(n i k:Nat),k<n->(rounds m n i)[k]?=some (lps m k (i,0)).1
 | 0,i,k,h=>absurd h (Nat.not_lt_zero _)
 | n+1,i,0,h=>rfl
 | n+1,i,k+1,h=>by
  rw[rounds,List.getElem?_cons_succ,ZjW m n _ k .l,lps,show SetTable.leap m (i,0).1 (i,0).2=((i*5+1) % (m+1),0)by simp[SetTable.leap]]
def Mk(m:Nat): Prop:=m=7∨m=31∨m=127
theorem ZmS: ∀m,Mk m->(∀j,j<m+1->j∈rounds m (m+1) 0)/\(lps m (m+1) (0,0)).1=0:=by
 rintro m (rfl | rfl | rfl)
 ·exact⟨.D,.D⟩
 ·exact⟨.D,.D⟩
 ·exact⟨.D,.D⟩
theorem Zno: lps m n (i,0)=((lps m n (i,0)).1,0):=Prod.ext rfl (by rw[ZiS];simp)
theorem ZmT(hm:Mk m)(hj:j<m+1): ∃k,k<m+1/\(lps m k (0,0)).1=j:=by
 obtain⟨k,hk⟩:=List.mem_iff_getElem?.mp ((ZmS m hm).1 j hj)
 have lt:k<(rounds m (m+1) 0).length:=(Zz6.mp hk).1
 have len:∀(n i:Nat),(rounds m n i).length=n:=by
  intro n
  induction n with
  | zero=>intro i;rfl
  | succ n ih=>intro i;simp[rounds,ih]
 rw[len]at lt
 rw[ZjW m _ _ k lt]at hk
 exact⟨k,lt,Option.some.inj hk⟩
theorem Zup(hm:Mk m)(hi:i<m+1)(hj:j<m+1): ∃k,k<m+1/\(lps m k (i,0)).1=j:=by
 obtain⟨a,ha,ea⟩:=ZmT hm hi
 obtain⟨b,hb,eb⟩:=ZmT hm hj
 have go:∀k,lps m k (i,0)=lps m (a+k) (0,0):=λk=>by rw[Zgc,Zno (n:=a),ea]
 by_cases c:a<=b
 ·exact⟨b-a,.l,by rw[go,show a+(b-a)=b by lia,eb]⟩
 ·refine⟨m+1-a+b,.l,?_⟩
  rw[go,show a+(m+1-a+b)=m+1+b by lia,Zgc,Zno (n:=m+1),(ZmS m hm).2,eb]
theorem ZlN(hm:Mk m)(h1:q.1<m+1)(h2:q.2<2 ^ 64)(hj:j<m+1): ∃n,n<m+15/\(lps m n q).1=j:=by
 have z:lps m 13 q=((lps m 13 q).1,0):=Prod.ext rfl (by rw[ZiS];exact Nat.div_eq_of_lt (Nat.lt_of_lt_of_le h2 .d))
 obtain⟨k,hk,e⟩:=Zup hm (ZmR m 13 q h1) hj
 exact⟨13+k,.l,by rw[Zgc,z,e]⟩
theorem ZkL: ∀(N:Nat) (L:List Nat),(∀j,j<N->j∈L)->N<=L.length
 | 0,L,_=>Nat.zero_le _
 | N+1,L,h=>by
  have hN:=h N (Nat.lt_succ_self _)
  have:=ZkL N (L.erase N) λj hj=>(List.mem_erase_of_ne (Nat.ne_of_lt hj)).mpr (h j (Nat.lt_succ_of_lt hj))
  have l:=List.length_erase_of_mem hN
  have p:=List.length_pos_of_mem hN
  lia
theorem ZrF{t:SetTable}: ∀(fuel:Nat) (p:SetTable.Probe),SetTable.probe.go t f h fuel p=none->p.more<=9->∀n,p.more+1+10*n<fuel->t.slot (lps t.mask (n+1) (p.i,p.perturb)).1≠.empty:=by
 intro fuel
 have here:∀(fuel:Nat) (p:SetTable.Probe),SetTable.probe.go t f h (fuel+1) p=none->t.slot p.j≠.empty:=by
  intro fuel p e q
  unfold SetTable.probe.go at e
  rw[q]at e
  cases e
 induction fuel with
 | zero=>intro p _ _ n q;exact absurd q (Nat.not_lt_zero _)
 | succ fuel ih=>
  intro p e hp n q
  have next:∃p',SetTable.probe.go t f h fuel (t.advance p')=none/\p'.more=p.more/\p'.i=p.i/\p'.perturb=p.perturb:=by
   unfold SetTable.probe.go at e
   split at e
   ·cases e
   ·exact⟨_,e,rfl,rfl,rfl⟩
   ·split at e
    ·cases e
    ·exact⟨_,e,rfl,rfl,rfl⟩
  obtain⟨p',next,e1,e2,e3⟩:=next
  rw[<-e1]at hp q
  rw[<-e2,<-e3]
  clear e e1 e2 e3 p
  unfold SetTable.advance at next
  by_cases c:p'.more>0
  ·rw[if_pos c]at next
   exact ih _ next (by dsimp only;lia) n (by dsimp only;lia)
  ·rw[if_neg c]at next
   have r9:∀i,SetTable.runEnd t.mask i-i<=9:=λi=>by unfold SetTable.runEnd;split <;> lia
   cases n with
   | zero=>
    cases fuel with
    | zero=>lia
    | succ fuel=>exact here fuel _ next
   | succ n=>exact ih _ next (r9 _) n (by have:=r9 (SetTable.leap t.mask p'.i p'.perturb).1;dsimp only;lia)
theorem ZiT{t:SetTable}{f:Nat->Int}{h:Int}(hf:∀i,f i≠h): ∀(fuel:Nat) (p:SetTable.Probe) (j i:Nat) (n:SetTable.Probe),SetTable.probe.go t f h fuel p≠some (.candidate j i n)
 | 0,p,j,i,n=>by intro e;cases e
 | fuel+1,p,j,i,n=>by
  intro e
  unfold SetTable.probe.go at e
  split at e
  ·cases e
  ·exact ZiT hf fuel _ j i n e
  ·rename_i k _
   rw[if_neg (by simp[hf k])]at e
   exact ZiT hf fuel _ j i n e
theorem Zuq{t:SetTable}(hd:t.dummies = #[])(h:t.slot j≠.empty): j∈t.place.toList:=by
 unfold SetTable.slot at h
 dsimp only at h
 split at h
 ·rename_i e
  have e:t.place[SetTable.below t.place j]?=some j:=by simpa using e
  rw[<-Array.getElem?_toList]at e
  exact Yy4 e
 ·rw[hd,if_neg (by simp[SetTable.has])]at h
  exact absurd rfl h
theorem Zpm{t:SetTable}(hi:Zby t)(hm:Mk t.mask)(hf:t.place.size<=t.mask)(h:Int): ∃j,t.freeSlot h=some (j,false)/\¬t.place[SetTable.below t.place j]?=some j:=by
 unfold SetTable.freeSlot
 cases e:t.probe (λ_=>h+1) h (t.probeStart h)with
 | none=>
  exfalso
  have b:SetTable.bits h<2 ^ 64:=by
   have:(h % (2 ^ 64:Int))<2 ^ 64:=Int.emod_lt_of_pos _ .d
   unfold SetTable.bits
   lia
  have m9:(t.probeStart h).more<=9:=by
   show SetTable.runEnd t.mask _-_<=9
   unfold SetTable.runEnd
   split <;> lia
  have all:=ZkL (t.mask+1) t.place.toList λj hj=>by
   obtain⟨n,hn,en⟩:=ZlN hm (q:=(SetTable.bits h % (t.mask+1),SetTable.bits h)) (Nat.mod_lt _ (Nat.succ_pos _)) b hj
   refine Zuq hi.2 ?_
   rw[<-en]
   cases n with
   | zero=>
    intro q
    unfold SetTable.probe at e
    rw[show 10*SetTable.turns t.mask=(10*SetTable.turns t.mask-1)+1 by unfold SetTable.turns;lia]at e
    unfold SetTable.probe.go at e
    rw[show t.slot (t.probeStart h).j=.empty from q]at e
    cases e
   | succ n=>exact ZrF _ _ e m9 n (by unfold SetTable.turns;lia)
  rw[Array.length_toList]at all
  lia
 | some z=>
  cases z with
  | candidate j i n=>exact absurd e (ZiT (λi=>by lia) _ _ _ _ _)
  | empty j d=>
   obtain⟨rfl,no⟩:=ZiC hi.2 _ _ _ _ rfl e
   exact⟨j,rfl,no⟩
theorem Zqh{t:SetTable}{es:Array (Int×Value)}(hi:Zby t)(hm:Mk t.mask)(hf:t.place.size<t.mask)(hn:t.place.size=es.size):
  (layNew t es h x).2.1.plain=t.plain/\(layNew t es h x).2.1.mask=t.mask/\(layNew t es h x).2.1.place.size=es.size+1/\(layNew t es h x).2.2.1=false:=by
 obtain⟨j,e,_⟩:=Zpm hi hm (Nat.le_of_lt hf) h
 have s1:∀{d:Type} (xs:Array d) (p:Nat) (y:d),p<=xs.size->(SetTable.insertAt xs p y).size=xs.size+1:=λxs p y hp=>by
  have:=congrArg List.length (ZjQ (x:=y) hp)
  simp at this
  lia
 have bl:=(ZfG (j:=j) hi.1).1
 have fits:(t.put j).1.fits (SetTable.insertAt es (t.put j).2 (h,x)).size=true:=by
  unfold SetTable.fits SetTable.fill SetTable.put
  dsimp only
  rw[hi.2,if_neg (by simp[SetTable.has]),s1 _ _ _ bl,s1 _ _ _ (hn▸bl),hn]
  simp
  lia
 unfold layNew
 rw[e]
 dsimp only
 unfold SetTable.orStandIn
 rw[if_pos fits]
 exact⟨rfl,rfl,by rw[<-hn];exact s1 _ _ _ bl,rfl⟩
theorem ZlO{m:Nat}{ow:Array (Option Nat)}: ∀(fuel i p:Nat),SetTable.layClean.free m ow fuel i p=none->∀n,n<fuel->ow.getD (lps m n (i,p)).1 (some 0)≠none
 | 0,i,p,_,n,h=>absurd h (Nat.not_lt_zero _)
 | fuel+1,i,p,e,n,h=>by
  unfold SetTable.layClean.free at e
  split at e
  ·cases e
  ·rename_i q
   cases n with
   | zero=>
    have:=List.find?_eq_none.mp q 0 (List.mem_range.mpr (by unfold SetTable.runEnd;split <;> lia))
    intro z
    exact this (by show(ow.getD (i+0) (some 0)).isNone=true;rw[Nat.add_zero];exact(congrArg Option.isNone z).trans rfl)
   | succ n=>exact ZlO fuel _ _ e n .l
theorem Zkg{m:Nat}{ow:Array (Option Nat)}: ∀(fuel i p j:Nat),SetTable.layClean.free m ow fuel i p=some j->ow.getD j (some 0)=none
 | 0,i,p,j,e=>by cases e
 | fuel+1,i,p,j,e=>by
  unfold SetTable.layClean.free at e
  split at e
  ·rename_i k q
   cases e
   have:=List.find?_some q
   simpa using this
  ·exact Zkg fuel _ _ j e
theorem ZkM: ∀(L:List (Option Nat)),(∀x∈L,x≠none)->(L.filterMap id).length=L.length
 | [],_=>rfl
 | none::L,h=>absurd rfl (h none Zz5)
 | some a::L,h=>by simp[ZkM L λx hx=>h x (Zz2 _ hx)]
theorem ZkN(k:Nat): ∀(L:List (Option Nat)) (j:Nat),L[j]?=some none->((L.set j (some k)).filterMap id).Perm (k::L.filterMap id)
 | [],j,h=>by simp at h
 | x::L,0,h=>by
  simp at h
  subst h
  simp
 | x::L,j+1,h=>by
  have:=ZkN k L j (by simpa using h)
  cases x with
  | none=>simpa using this
  | some a=>
   simp only[List.set_cons_succ,List.filterMap_cons,id]
   exact(this.cons a).trans (List.Perm.swap k a _)
def Zd2(m:Nat)(ow:Array (Option Nat))(k:Nat): Prop:=ow.size=m+1/\(ow.toList.filterMap id).Perm (List.range k)
theorem Zqi(hm:Mk m){ow:Array (Option Nat)}{k:Nat}(I:Zd2 m ow k)(hk:k<m+1)(h:Int): ∃j,SetTable.layClean.free m ow (SetTable.turns m) (SetTable.bits h % (m+1)) (SetTable.bits h)=some j/\Zd2 m (ow.setIfInBounds j (some k)) (k+1):=by
 have b:SetTable.bits h<2 ^ 64:=by
  have:(h % (2 ^ 64:Int))<2 ^ 64:=Int.emod_lt_of_pos _ .d
  unfold SetTable.bits
  lia
 cases e:SetTable.layClean.free m ow (SetTable.turns m) (SetTable.bits h % (m+1)) (SetTable.bits h)with
 | none=>
  exfalso
  have all:∀x∈ow.toList,x≠none:=λx hx=>by
   obtain⟨j,hj,ej⟩:=List.mem_iff_getElem.mp hx
   rw[Array.length_toList,I.1]at hj
   obtain⟨n,hn,en⟩:=ZlN hm (q:=(SetTable.bits h % (m+1),SetTable.bits h)) (Nat.mod_lt _ (Nat.succ_pos _)) b hj
   have:=ZlO _ _ _ e n hn
   rw[en,Array.getD_eq_getD_getElem?,Array.getElem?_eq_getElem (by rw[I.1];exact hj)]at this
   rw[<-ej]
   exact this
  have l:=ZkM _ all
  rw[I.2.length_eq,List.length_range,Array.length_toList,I.1]at l
  lia
 | some j=>
  have fn:=Zkg _ _ _ _ e
  have at_j:ow.toList[j]?=some none:=by
   rw[Array.getD_eq_getD_getElem?]at fn
   rw[Array.getElem?_toList]
   cases q:ow[j]? with
   | none=>rw[q]at fn;cases fn
   | some x=>rw[q]at fn;exact congrArg some fn
  refine⟨j,rfl,by rw[Array.size_setIfInBounds];exact I.1,?_⟩
  rw[Array.toList_setIfInBounds,List.range_succ]
  exact(ZkN k _ j at_j).trans ((I.2.cons k).trans (List.perm_append_comm (l₁:=[k])))
theorem ZkO{m:Nat}(hm:Mk m): ∀(hs:List Int) (ow:Array (Option Nat)) (k:Nat),Zd2 m ow k->k+hs.length<=m+1->∃ow',hs.foldl (λacc h=>do
  let (owner,k) <-acc
  let j <-SetTable.layClean.free m owner (SetTable.turns m) (SetTable.bits h % (m+1)) (SetTable.bits h)
  pure (owner.setIfInBounds j (some k),k+1)) (some (ow,k))=some (ow',k+hs.length)/\Zd2 m ow' (k+hs.length)
 | [],ow,k,I,_=>⟨ow,rfl,I⟩
 | h::hs,ow,k,I,l=>by
  simp only[List.length_cons]at l
  obtain⟨j,e,I'⟩:=Zqi hm I .l h
  obtain⟨ow',e',I2⟩:=ZkO hm hs _ _ I' .l
  refine⟨ow',?_,by rw[List.length_cons,show k+(hs.length+1)=k+1+hs.length by lia];exact I2⟩
  rw[List.foldl_cons,List.length_cons,show k+(hs.length+1)=k+1+hs.length by omega,<-e']
  congr 1
  show(SetTable.layClean.free m ow (SetTable.turns m) (SetTable.bits h % (m+1)) (SetTable.bits h)).bind _=_
  rw[e]
  rfl
theorem Zpn(hm:Mk m)(hs:Array Int)(l:hs.size<=m+1): ∃ow,SetTable.layClean m hs=some ow/\Zd2 m ow hs.size:=by
 have I0:Zd2 m (Array.replicate (m+1) none) 0:=⟨.s,by
  rw[show(Array.replicate (m+1) (none:Option Nat)).toList.filterMap id=[]from List.filterMap_eq_nil_iff.mpr λx hx=>by simp at hx;rw[hx];rfl]
  exact .refl _⟩
 obtain⟨ow,e,I⟩:=ZkO hm hs.toList _ 0 I0 (by simpa using l)
 refine⟨ow,?_,by simpa using I⟩
 unfold SetTable.layClean
 rw[<-Array.foldl_toList,e]
 rfl
theorem ZoH{t:SetTable}{es:Array (Int×Value)}(hm:Mk m)(hn:SetTable.sizeAbove n-1=m)(l:es.size<=m): (relayAll t es n).2.1.plain=t.plain/\(relayAll t es n).2.1.mask=m/\(relayAll t es n).2.1.place.size=es.size:=by
 obtain⟨ow,e,I⟩:=Zpn hm (es.map (·.1)) (by rw[Array.size_map];lia)
 rw[Array.size_map]at I
 unfold relayAll SetTable.relaid SetTable.laid
 rw[hn,e]
 dsimp only[Ys0,Option.pure_def,bind]
 have ord:((List.range (m+1)).filterMap λj=>(ow.getD j none).map (j,·)).map (·.2)=ow.toList.filterMap id:=by
  have:ow.toList=(List.range (m+1)).map λj=>ow.getD j none:=by
   refine List.ext_getElem (by simp[I.1]) λi h1 h2=>?_
   simp at h1
   simp[h1]
  rw[this,List.map_filterMap,List.filterMap_map]
  congr 1
  funext j
  show _=ow.getD j none
  cases ow.getD j none <;> rfl
 have len:((List.range (m+1)).filterMap λj=>(ow.getD j none).map (j,·)).length=es.size:=by
  have:=congrArg List.length ord
  rw[List.length_map,I.2.length_eq,List.length_range]at this
  exact this
 rw[ord]
 have all:coversAll (ow.toList.filterMap id).toArray es.size=true:=by
  unfold coversAll
  exact List.isPerm_iff.mpr I.2
 have size:((ow.toList.filterMap id).toArray.filterMap (es[·]?)).size=es.size:=by
  have p:=I.2.filterMap (es[·]?)
  have q:=p.length_eq
  have pick:=Ziu es.toList 0 es.size .s
  simp only[Nat.zero_add,List.map_id',List.drop_zero]at pick
  rw[List.take_of_length_le .s]at pick
  have same:(λi:Nat=>es.toList[i]?)=λi=>es[i]?:=by funext i;rw[Array.getElem?_toList]
  rw[same]at pick
  rw[pick,Array.length_toList]at q
  rw[<-Array.length_toList,Array.toList_filterMap]
  exact q
 rw[if_pos]
 ·exact⟨rfl,rfl,by simpa using len⟩
 ·rw[all,Bool.true_and,size]
  unfold SetTable.fits SetTable.fill
  rw[List.size_toArray,List.length_map,len]
  simp
  omega
structure Held(prog:Program)(w:World)(es:Array (Int×Value))(t:SetTable)(ks:List Int): Prop where
 kind:ElemsOf (intKind prog w) es.toList
 few:es.size<scanBound
 fit:t.fits es.size=true
 rise:Zby t
 led:t.led = !(w.params.followText "set-order")
 same:∃vs,(es.toList.map (·.2)).Perm vs/\IntsAre vs ks
section
variable {prog:Program} {w:World} {es:Array (Int×Value)} {t:SetTable} {ks:List Int}
theorem Held.count(h:Held prog w es t ks): es.size=ks.length:=by
 obtain⟨vs,p,i⟩:=h.same
 have:=p.length_eq
 rw[List.length_map,Array.length_toList]at this
 rw[this,i.length]
theorem Held.swap(h:Held prog w es t ks){es':Array (Int×Value)}{t':SetTable}(p:es'.toList.Perm es.toList)(f:t'.fits es'.size=true)(r:Zby t'/\t'.led=t.led): Held prog w es' t' ks:=by
 obtain⟨vs,p1,i1⟩:=h.same
 have e:es'.size=es.size:=by simpa using p.length_eq
 exact⟨h.kind.perm p,e▸h.few,f,r.1,r.2.trans h.led,vs,(p.map _).trans p1,i1⟩
theorem Held.again(h:Held prog w es t ks)(n:Nat): Held prog w (relayAll t es n).1 (relayAll t es n).2.1 ks:=
 h.swap (relayAll_perm t es n) (relayAll_fits t es n) (Zog h.rise)
theorem Held.new(h:Held prog w es t ks)(k:Int)(tk:Tok)(room:ks.length+1<scanBound): Held prog w (layNew t es ((intKind prog w).hash k) (.int k tk)).1 (layNew t es ((intKind prog w).hash k) (.int k tk)).2.1 (ks++[k]):=by
 have p:=layNew_perm t es ((intKind prog w).hash k) (.int k tk)
 have f:=layNew_fits t es ((intKind prog w).hash k) (.int k tk)
 obtain⟨r1,r2⟩:=ZoG (es:=es) (h:=(intKind prog w).hash k) (x:=.int k tk) h.rise
 generalize layNew t es ((intKind prog w).hash k) (.int k tk)=z at p f r1 r2 ⊢
 rw[Array.toList_push]at p
 obtain⟨vs,p1,i1⟩:=h.same
 have n:z.1.size=es.size+1:=by simpa using p.length_eq
 refine⟨(h.kind.push (intKind_is _ _ _ _) rfl).perm p,by rw[n,h.count];exact room,f,r1,r2.trans h.led,vs++[.int k tk],?_,i1.append (.cons k tk .nil)⟩
 exact(p.map _).trans (by rw[List.map_append];exact p1.append (.refl _))
theorem Held.has(h:Held prog w es t ks)(k:Int): (∃e∈es.toList,(intKind prog w).is k e.2=true)↔k∈ks:=by
 obtain⟨vs,p,i⟩:=h.same
 have one:∀{vs:List Value} {ks:List Int},IntsAre vs ks->((∃v∈vs,(intKind prog w).is k v=true)↔k∈ks):=by
  intro vs ks i
  induction i with
  | nil=>simp
  | cons n tk _ ih=>
   have:(intKind prog w).is k (.int n tk)=true↔k=n:=by
    show(n == k)=true↔_
    rw[beq_iff_eq];exact eq_comm
   simp only[List.mem_cons,exists_eq_or_imp,this,ih]
 rw[<-one i]
 constructor
 ·intro q9;obtain⟨e,he,q⟩:=q9
  exact⟨e.2,p.mem_iff.mp (List.mem_map_of_mem he),q⟩
 ·intro q9;obtain⟨v,hv,q⟩:=q9
  obtain⟨e,he,rfl⟩:=Zz11.mp (p.mem_iff.mpr hv)
  exact⟨e,he,q⟩
end
def Nice(t:SetTable): Prop:=t.plain=true/\Mk t.mask/\t.place.size*5<t.mask*3
def SetIn(h:Heap)(a:Addr)(es:Array (Int×Value))(t:SetTable): Prop:=∃o ep,h.get? a=some o/\o.ExactSet/\o.data=.set es ep t
def SetAt(prog:Program)(w:World)(h:Heap)(a:Addr)(ks:List Int): Prop:=∃es t,SetIn h a es t/\Held prog w es t ks/\Nice t
noncomputable def Zbz(ks:List Int)(k:Int): List Int:=if k∈ks then ks else ks++[k]
section
variable {prog:Program} {w:World} {A:Around} {E:Value->Shared->Prop} {s:Shared} {a:Addr} {ks:List Int}
theorem SetAt.keep{h h':Heap}(hS:SetAt prog w h a ks)(e:∀o,h.get? a=some o->h'.get? a=some o): SetAt prog w h' a ks:=by
 obtain⟨es,t,⟨o,ep,g,r⟩,q⟩:=hS
 exact⟨es,t,⟨o,ep,e o g,r⟩,q⟩
theorem SetIn.store{es es':Array (Int×Value)}{t t':SetTable}{Q:Unit->Shared->Prop}(hS:SetIn s.heap a es t)(few:es'.size<scanBound)
  (post:∀h',(∀b o,b≠a->s.heap.get? b=some o->h'.get? b=some o)->s.heap.objs.size=h'.objs.size->SetIn h' a es' t'->Q () { s with heap:=h' }):wpAny (model prog w) A (storeSet a es' t') Q E s:=by
 obtain⟨o,ep,g,x,d⟩:=hS
 refine wpAny_storeSet_of g d (post _ (λb o hb e=>by rw[Heap.get?_update_ne _ _ _ _ hb];exact e) (Heap.size_update _ _ _).symm ?_) (fits_of_scanBound few)
 have g':=Heap.get?_update_self (Obj.putSet es' t') g (by rw[putSet_of es' t' d];rfl)
 rw[putSet_of es' t' d]at g'
 exact⟨_,_,g',x,rfl⟩
end
section
variable {prog:Program} {w:World} {A:Around} {E:Value->Shared->Prop} {s:Shared} {a:Addr} {ks:List Int}
theorem Zpo(hm:Mk m)(h1:n*5<m*3)(h2:m*3<=(n+1)*5)(h3:n+1<=76): ∃m',Mk m'/\SetTable.sizeAbove (SetTable.grown (n+1))-1=m'/\n+1<=m'/\(n+1)*5<m'*3:=by
 rcases hm with rfl | rfl | rfl
 ·obtain rfl:n=4:=by lia
  exact⟨31,.inr (.inl rfl),.D,.l,.l⟩
 ·obtain rfl:n=18:=by lia
  exact⟨127,.inr (.inr rfl),.D,.l,.l⟩
 ·lia
theorem SetAt.put{k:Int}{tk:Tok}{Q:Bool->Shared->Prop}(hS:SetAt prog w s.heap a ks)(room:ks.length+1<=76)
  (post:∀h' b,(∀c o,c≠a->s.heap.get? c=some o->h'.get? c=some o)->s.heap.objs.size=h'.objs.size->SetAt prog w h' a (Zbz ks k)->Q b { s with heap:=h' }):
  wpAny (model prog w) A (setAddHashed a (.int k tk) ((intKind prog w).hash k)) Q E s:=by
 have hS0:=hS
 obtain⟨es,t,hin,H,ni⟩:=hS
 have hin0:=hin
 obtain⟨o,ep,g,x,d⟩:=hin
 have bound:76<scanBound:=by decide
 have mark:∀(m:Bool->Sem Unit) (b:Bool) (s:Shared) (Q:Unit->Shared->Prop),(m=λb=>match b with | true=>rule "set.scan.the-table-gave-way" | false=>pure ())->Q () s->wpAny (model prog w) A (m b) Q E s:=by
  rintro m b s Q rfl q
  cases b
  ·exact wpAny_pure q
  ·exact wpAny_rule q
 refine wpAny_holding (wpAny_bind (wpAny_setState_of g d H.fit ?_))
 dsimp only
 rw[byScan_of rfl H.few H.kind,if_pos rfl]
 refine wpAny_bind (wpAny_bind (wpAny_rule (wpAny_bind (wpAny_setScan_of (intKind_is _ _ _ _) g d H.fit H.kind ?_))))
 by_cases met:k∈ks
 ·obtain⟨e,he,q⟩:=(H.has k).mpr met
  cases f:List.findIdx? (λe=>(intKind prog w).is k e.2) es.toList with
  | none=>exact absurd q (by simp[List.findIdx?_eq_none_iff.mp f e he])
  | some j=>exact wpAny_pure (wpAny_pure (post s.heap false (λ_ _ _ e=>e) rfl (by rw[Zbz,if_pos met];exact hS0)))
 ·have f:List.findIdx? (λe=>(intKind prog w).is k e.2) es.toList=none:=List.findIdx?_eq_none_iff.mpr λe he=>by
   cases q:(intKind prog w).is k e.2 with
   | false=>rfl
   | true=>exact absurd ((H.has k).mp ⟨e,he,q⟩) met
  rw[f]
  have ps:t.place.size=es.size:=by have:=H.fit;unfold SetTable.fits at this;simp at this;exact this.1
  have N:=H.new k tk .l
  obtain⟨n1,n2,n3,n4⟩:=Zqh (es:=es) (h:=(intKind prog w).hash k) (x:=.int k tk) H.rise ni.2.1 (by have:=ni.2.2;lia) ps
  dsimp only
  generalize layNew t es ((intKind prog w).hash k) (.int k tk)=z at N n1 n2 n3 n4 ⊢
  obtain⟨es1,t1,old,gave⟩:=z
  dsimp only at N n1 n2 n3 n4 ⊢
  subst n4
  have cnt:=N.count
  rw[List.length_append,List.length_singleton]at cnt
  have cnt0:=H.count
  refine wpAny_bind (mark _ gave _ _ rfl ?_)
  have done:∀h',(∀c o,c≠a->s.heap.get? c=some o->h'.get? c=some o)->s.heap.objs.size=h'.objs.size->SetAt prog w h' a (ks++[k])->Q true { s with heap:=h' }:=λh' q1 q2 q3=>post h' true q1 q2 (by rw[Zbz,if_neg met];exact q3)
  have rest:wpAny (model prog w) A (do
    storeSet a es1 t1
    if(!false && t1.tooFull)=true then do
     let z:=relayAll t1 es1 (SetTable.grown es1.size)
     (λb=>match b with | true=>rule "set.scan.the-table-gave-way" | false=>pure ()) z.2.2
     storeSet a z.1 z.2.1
     pure (some true)
    else pure (some true)) (λr s'=>∃b h',r=some b/\s' = { s with heap:=h' }/\Q b s') E s:=by
   refine wpAny_bind (hin0.store N.few λh1 k1 z1 S1=>?_)
   have full:t1.tooFull=decide (t1.mask*3<=t1.place.size*5):=by
    unfold SetTable.tooFull SetTable.fill
    rw[N.rise.2]
    rfl
   rw[Bool.not_false,Bool.true_and,full]
   split
   ·rename_i c
    have c:=of_decide_eq_true c
    rw[n2,n3]at c
    obtain⟨m',q1,q2,q3,q4⟩:=Zpo (n:=es.size) ni.2.1 (by rw[<-ps];exact ni.2.2) c .l
    have e1:es1.size=es.size+1:=by lia
    rw[<-e1]at q2 q3 q4
    have A1:=N.again (SetTable.grown es1.size)
    obtain⟨r1,r2,r3⟩:=ZoH (t:=t1) (es:=es1) q1 q2 q3
    exact wpAny_bind (mark _ _ _ _ rfl (wpAny_bind (SetIn.store (s:={ s with heap:=h1 }) S1 A1.few λh2 k2 z2 S2=>wpAny_pure ⟨true,h2,rfl,rfl,done h2 (λc o hc e=>k2 c o hc (k1 c o hc e)) (z1.trans z2) ⟨_,_,S2,A1,r1.trans (n1.trans ni.1),by rw[r2];exact q1,by rw[r2,r3];exact q4⟩⟩)))
   ·rename_i c
    have c:¬t1.mask*3<=t1.place.size*5:=λq=>c (decide_eq_true q)
    exact wpAny_pure ⟨true,h1,rfl,rfl,done h1 k1 z1 ⟨_,_,S1,N,n1.trans ni.1,by rw[n2];exact ni.2.1,.l⟩⟩
  split
  ·rw[hashByValue_scannable 8 rfl]
   refine wpAny_bind (wpAny_pure (wpAny_mono rest (λr s' q=>?_) λ_ _ q=>q))
   obtain⟨b,h',rfl,rfl,q⟩:=q
   exact wpAny_pure q
  ·refine wpAny_bind (wpAny_pure (wpAny_mono rest (λr s' q=>?_) λ_ _ q=>q))
   obtain⟨b,h',rfl,rfl,q⟩:=q
   exact wpAny_pure q
end
theorem ZkP(ks:List Int)(k:Int): (Zbz ks k).length<=ks.length+1:=by
 unfold Zbz
 split
 ·exact Nat.le_succ _
 ·simp
section
variable {prog:Program} {w:World} {A:Around} {R:Result->Shared->Prop}
theorem fill{S:Addr}(hh:A.in1.handled=none)(hSI:S≠I)(hSl:S≠l)(hIl:l≠I)(hi:IntsAre us ns): ∀(k i:Nat) (s:Shared) (ks:List Int),us.length=i+k->s.heap.IsListIter I l i->s.heap.IsList l us.toArray->SetAt prog w s.heap S ks->ks.length+k<=76 ->
  (∀h' tk',(∀b o,b≠S->b≠I->s.heap.get? b=some o->h'.get? b=some o)->SetAt prog w h' S ((ns.drop i).foldl Zbz ks)->R (.ok (.ret .none)) { s with heap:=h',toks:=tk' }) ->
  codeAny (model prog w) A (.builtin "set.update.loop" ⟨[.ref S,.ref I],[]⟩) R s:=by
 intro k
 induction k with
 | zero=>
  intro i s ks e g1 g2 hS room post
  refine codeAny_builtin F.entry_set_update_loop ?_
  rw[Around.under_plainId F.plain_set_update_loop _]
  unfold Builtin.«set.update.loop»
  refine wpAny_bind (wpAny_pyNext_list_end hh g1 g2 (by simp[e]) λh' he=>wpAny_pure ?_)
  have:ns.drop i=[]:=List.drop_eq_nil_of_le (by rw[<-hi.length,e];simp)
  rw[this]at post
  exact post h' s.toks (λb o _ hb q=>he b o hb q) (hS.keep λo q=>he S o hSI q)
 | succ k ih=>
  intro i s ks e g1 g2 hS room post
  have lt:i<us.length:=by lia
  obtain⟨tk,ev⟩:=IntsAre.int_at hi i us[i] (Yy1 lt)
  refine codeAny_builtin F.entry_set_update_loop ?_
  rw[Around.under_plainId F.plain_set_update_loop _]
  unfold Builtin.«set.update.loop»
  refine wpAny_bind (wpAny_pyNext_list_item g1 g2 (x:=us[i]) (by simp[lt]) λh1 it1 sb1=>?_)
  rw[ev]
  have S1:SetAt prog w h1 S ks:=hS.keep λo q=>sb1.extBut S o hSI q
  refine wpAny_bind (wpAny_holding (wpAny_holding (wpAny_bind ((intKind prog w).pyHash (k:=ns.getD i 0) (intKind_is _ _ _ _) (SetAt.put (s:={ s with heap:=h1,toks:=s.toks+1 }) S1 .l λh2 b k2 z2 S2=>?_)))))
  refine wpAny_pure ⟨plainId_quiet F.plain_set_update_loop _,ih (i+1) _ _ .l ?_ ?_ S2 (by have:=ZkP ks (ns.getD i 0);lia) λh' tk' kp SS=>?_⟩
  ·obtain⟨o,q1,q2⟩:=it1
   exact⟨o,k2 I o hSI.symm q1,q2⟩
  ·obtain⟨o,q1,q2⟩:=g2
   exact⟨o,k2 l o hSl.symm (sb1.extBut l o hIl q1),q2⟩
  ·refine post h' tk' (λb o h1 h2 q=>kp b o h1 h2 (k2 b o h1 (sb1.extBut b o h2 q))) ?_
   have ln:i<ns.length:=by rw[<-hi.length];exact lt
   rw[List.drop_eq_getElem_cons ln,List.foldl_cons]
   rw[List.getD_eq_getElem?_getD,Yy1 ln]at SS
   exact SS
end
section
variable {prog:Program} {w:World} {A:Around} {E:Value->Shared->Prop} {s:Shared}
theorem Zpp{T nid iid:String}(C:TypeCalled T nid iid)(ct:checkTypeCall T ⟨args,[]⟩=pure ())
  (new:∀B:Around,B.handled=A.handled->codeAny (model prog w) B (.call (.builtin nid) ⟨.type T::args,[]⟩) (wants N E) s)
  (init:∀(B:Around) (x:Value) (s₁:Shared),B.handled=A.handled->N x s₁->s₁.TypeIs x T/\codeAny (model prog w) B (.call (.builtin iid) ⟨x::args,[]⟩) (wants (λr s₂=>r=.none/\Q x s₂) E) s₁):
  wpAny (model prog w) A (call (.type T) args) Q E s:=by
 obtain⟨no,can,⟨_,_,mro⟩,made,plain,sub,slot⟩:=C
 refine wpAny_call (codeAny_of_tree (wpAny_pure ⟨Code.quiet_builtin _ .D,codeAny_builtin F.entry_type_call ?_⟩))
 rw[Around.under_plain (weight_type_call_type T args []) rfl]
 repeat (any_goals (first | assumption | wp_step))
 refine codeAny_mono (new _ .s) λr s₁ hr=>?_
 match r,hr with
 | .ok (.ret x),hr=>
  obtain⟨ty,run⟩:=init A.in1 x s₁ .s hr
  have look:=slot.lookup
  have bind:=slot.bind x
  repeat (any_goals (first | assumption | wp_step))
  refine codeAny_mono (init _ x s₁ .s hr).2 λr₂ s₂ hr₂=>?_
  match r₂,hr₂ with
  | .ok (.ret _),⟨rfl,q⟩=>repeat (any_goals (first | assumption | wp_step))
  | .error e,q=>exact q
 | .error e,hr=>exact hr
end
section
variable {prog:Program} {w:World} {A:Around} {E:Value->Shared->Prop} {s:Shared}
noncomputable def Zcx(w:World): Obj:={ cls:=.type "set",dict:=none,data:=.set #[] 0 (.fresh 0 0 (!(w.params.followText "set-order"))) }
theorem ZrG{h:Heap}(g:h.get? a=some (Zcx w)): SetAt prog w h a []:=
 ⟨#[],_,⟨_,0,g,⟨rfl,rfl,rfl⟩,rfl⟩,⟨λe he=>by simp at he,.d,rfl,⟨List.Pairwise.nil,rfl⟩,rfl,[],.refl _,.nil⟩,rfl,.inl rfl,(by decide:0*5<7*3)⟩
theorem Zqj(x:Value){B:Around}(q:N (.ref s.heap.objs.size) { s with heap:=s.heap.push (Zcx w) }):
  codeAny (model prog w) B (.call (.builtin "set.__new__") ⟨[.type "set",x],[]⟩) (wants N E) s:=by
 refine codeAny_call_builtin F.plain_set_new F.entry_set_new (wpAny_of_eq (F.newCall_set_1 x) ?_)
 unfold Builtin.«set.__new__» Builtin.Frozenset.newClass
 have sub:=sub_set_self
 wp_walk
 refine wpAny_askSetting (wpAny_pure ?_)
 simp only[newObj]
 exact wpAny_bind (wpAny_alloc (wpAny_pure (wpAny_pure q)))
theorem Zqk(hh:A.handled=none)(hl:s.heap.IsList l us.toArray)(hi:IntsAre us ns)(room:us.length<=76)
  (post:∀h' tk',(∀b o,s.heap.get? b=some o->h'.get? b=some o)->SetAt prog w h' s.heap.objs.size (ns.foldl Zbz [])->Q (.ref s.heap.objs.size) { s with heap:=h',toks:=tk' }):
  wpAny (model prog w) A (call (.type "set") [.ref l]) Q E s:=by
 refine Zpp F.called_set (F.typeCall_set_1 _) (N:=λx s₁=>x=.ref s.heap.objs.size/\s₁ = { s with heap:=s.heap.push (Zcx w) }) (λB _=>Zqj _ ⟨rfl,rfl⟩) ?_
 intro B _ _ hB q9;obtain⟨rfl,rfl⟩:=q9
 have gS:(s.heap.push (Zcx w)).get? s.heap.objs.size=some (Zcx w):=Heap.get?_push_size _ rfl
 have ty:Shared.TypeIs { s with heap:=s.heap.push (Zcx w) } (.ref s.heap.objs.size) "set":=⟨_,gS,rfl⟩
 refine⟨ty,codeAny_call_builtin F.called_set.init.plain F.entry_set_init (check_set_init_1 ty ?_)⟩
 have gl:(s.heap.push (Zcx w)).IsList l us.toArray:=hl.push _
 have lt:l<s.heap.objs.size:=by obtain⟨o,g,_⟩:=hl;exact Heap.lt_size g
 have tl:Shared.TypeIs { s with heap:=s.heap.push (Zcx w) } (.ref l) "list":=by obtain⟨o,g,c,_⟩:=gl;exact⟨o,g,c⟩
 unfold Builtin.«set.__init__» noKeywords Builtin.Frozenset.updateFrom
 have n1:=F.sub_list_set
 have n2:=F.sub_list_frozenset
 have n3:(Value.type "list" == Value.type "dict")=false:=by decide
 obtain⟨ol,ql,cl,nl,dl⟩:=gl
 have gl:(s.heap.push (Zcx w)).IsList l us.toArray:=⟨ol,ql,cl,nl,dl⟩
 unfold Zcx at *
 generalize pI:pyIter=I
 wp_walk
 subst pI
 refine wpAny_pyIter_list gl (wpAny_bind (wpAny_runValue ?_))
 generalize hK:s.heap.push { cls:=.type "set",dict:=none,data:=.set #[] 0 (.fresh 0 0 (!(w.params.followText "set-order"))) } = K at *
 have size:K.objs.size=s.heap.objs.size+1:=by subst hK;exact size_push' _ _
 have up:∀(o:Obj) b z,s.heap.get? b=some z->(K.push o).get? b=some z:=λo b z e=>Heap.get?_push_of_some _ (by subst hK;exact Heap.get?_push_of_some _ e)
 refine fill (l:=l) (ns:=ns) (us:=us) (by simp[hB,hh]) (Nat.ne_of_lt (by dsimp only;lia)) (Nat.ne_of_gt lt) (Nat.ne_of_lt (by dsimp only;rw[size];exact Nat.lt_succ_of_lt lt)) hi us.length 0 _ [] .s ⟨_,Heap.get?_push_size _ rfl,rfl,rfl⟩ (gl.push _) (ZrG (Heap.get?_push_of_some _ gS)) (by simpa using room) λh' tk' kp SS=>?_
 refine wpAny_pure (wpAny_pure ⟨rfl,post h' tk' (λb o e=>?_) SS⟩)
 have lb:=Heap.lt_size e
 exact kp b o (Nat.ne_of_lt lb) (Nat.ne_of_lt (by dsimp only;rw[size];exact Nat.lt_succ_of_lt lb)) (up _ b o e)
end
theorem ZnV: entryFor table "set.__iter__"=some Builtin.«frozenset.__iter__»:=entryFor_alias (id':="frozenset.__iter__") (by kernel_rfl) rfl .D (by kernel_rfl)
theorem slot_setit_next: Slot "set_iterator" "__next__" "set_iterator.__next__":=
 .of (owner:="set_iterator") (n:="__next__") (by rw[typeLookup_type,builtinLookup_eq_fast];kernel_rfl) .D .D .D
  (by first | exact .inl .D | exact .inr .D) (by rw[isSubtype_type];kernel_rfl)
theorem ZnN: entryFor table "set_iterator.__next__"=some Builtin.«set_iterator.__next__»:=entryFor_of_fast (by kernel_rfl)
theorem ZnP(a:Value): argsOk "set_iterator.__next__" ⟨[a],[]⟩:=by unfold argsOk;kernel_rfl
section
variable {prog:Program} {w:World} {A:Around} {E:Value->Shared->Prop} {s:Shared}
theorem Zur{Q:d->Shared->Prop}(hh:A.handled=none)(post:∀(h':Heap) (x:Value),(∀b o,s.heap.get? b=some o->h'.get? b=some o)->Shared.TypeIs { s with heap:=h' } x "StopIteration"->E x { s with heap:=h' }):
  wpAny (model prog w) A (newExc (.type "StopIteration") [] >>= λx=>(raiseNew x:Sem d)) Q E s:=by
 refine wpAny_bind ?_
 simp only[newExc,newTuple]
 refine wpAny_bind (wpAny_newObj_type ?_ (by size_fits))
 refine wpAny_bind (m:=firstArgMember _ _) (wpAny_of_eq (a:=Value.none) (by first | rfl | (simp only[firstArgMember];rfl)) ?_)
 refine wpAny_newObj_type ?_ (by size_fits)
 simp only[raiseNew]
 refine wpAny_bind (wpAny_handled ?_)
 rw[hh]
 refine wpAny_bind (wpAny_pure (wpAny_throw ?_))
 exact(post _ (.ref _) (λb o e=>Heap.get?_push_of_some _ (Heap.get?_push_of_some _ e)) ⟨_,Heap.get?_push_size _ rfl,rfl⟩)
theorem Zql(hS:SetAt prog w s.heap a ks)
  (post:∀ep o es t,s.heap.get? a=some o->o.ExactSet->o.data=.set es ep t->Held prog w es t ks->Nice t->Q (.ref s.heap.objs.size) { s with heap:=s.heap.push { cls:=.type "set_iterator",data:=.fields #[.int 0 0,.int 0 0,.ref a,.int es.size 0,.int ep 0] } }):
  wpAny (model prog w) A (pyIter (.ref a)) Q E s:=by
 obtain⟨es,t,⟨o,ep,g,x,d⟩,H,ni⟩:=hS
 have ty:s.TypeIs (.ref a) "set":=⟨o,g,x.1⟩
 refine wpAny_pyIter_slot ty F.slot_set_iter (wpAny_call_entry F.slot_set_iter ty ZnV ?_ (F.args_set_iter_1 _))
 unfold Builtin.«frozenset.__iter__»
 refine wpAny_bind (m:=Builtin.Frozenset.slot0 _ _) (wpAny_pure ?_)
 refine wpAny_bind (m:=Builtin.Frozenset.sizeOf _) (wpAny_bind (m:=setEntries _) (wpAny_bind (wpAny_setState_of g d H.fit (wpAny_pure (wpAny_pure ?_)))))
 refine wpAny_bind (m:=setDrawn _) (wpAny_bind (wpAny_setState_of g d H.fit (wpAny_bind (m:=setsByText) (wpAny_bind (wpAny_askSetting (wpAny_pure (wpAny_pure ?_)))))))
 dsimp only
 rw[if_neg (λq=>by
  have z:(!t.plain && decide (es.size>1))=true:=((Bool.and_eq_true _ _).mp q).2
  rw[ni.1]at z
  exact absurd z .s)]
 refine wpAny_bind (wpAny_pure (wpAny_bind (m:=setEpoch a) (wpAny_bind (wpAny_setState_of g d H.fit (wpAny_pure (wpAny_bind (wpAny_newObj_type (wpAny_pure ?_))))))))
 exact⟨_,rfl,"set_iterator",_,⟨_,Heap.get?_push_size _ rfl,rfl⟩,slot_setit_next.lookup,post ep o es t g x d H ni⟩
end
theorem ZjX{d:Type}: ∀(L:List d) (i:Nat) (h:i<L.length),(L[i]::L.eraseIdx i).Perm L
 | [],i,h=>absurd h (Nat.not_lt_zero _)
 | x::L,0,h=>.refl _
 | x::L,i+1,h=>(List.Perm.swap x (L[i]'(by simpa using h)) _).trans ((ZjX L i (by simpa using h)).cons x)
theorem Zkh{d:Type}(next:Nat->Nat): ∀(fuel k:Nat) (left:List d) (out:Array d),left.length=fuel->(pickOrder.go next fuel k left out).toList.Perm (out.toList++left)
 | 0,k,left,out,h=>by
  rw[List.length_eq_zero_iff.mp h]
  simp[pickOrder.go]
 | fuel+1,k,left,out,h=>by
  have lt:next k % left.length<left.length:=Nat.mod_lt _ .l
  unfold pickOrder.go
  rw[Yy1 lt]
  dsimp only
  refine(Zkh next fuel (k+1) _ _ (by rw[List.length_eraseIdx_of_lt lt];lia)).trans ?_
  rw[Array.toList_push,List.append_assoc]
  exact List.Perm.append_left _ (ZjX left _ lt)
theorem ZoI(next:Nat->Nat)(xs:Array d): (pickOrder next xs).toList.Perm xs.toList:=by
 have:=Zkh next xs.size 0 xs.toList #[] .s
 unfold pickOrder
 simpa using this
noncomputable def wlk(w:World)(a:Addr)(ep:Nat)(es:Array (Int×Value)): Array (Int×Value):=if w.params.followText "set-order"=true then pickOrder (w.params.setOrder a ep) es else es
theorem ZkQ(w:World)(a:Addr)(ep:Nat)(es:Array (Int×Value)): (wlk w a ep es).toList.Perm es.toList:=by
 unfold wlk
 split
 ·exact ZoI _ _
 ·exact .refl _
theorem ZkR(w:World)(a:Addr)(ep:Nat)(es:Array (Int×Value)): (wlk w a ep es).size=es.size:=by simpa using (ZkQ w a ep es).length_eq
theorem ZoJ{t:SetTable}(hi:Zby t)(h:SetTable.below t.place slot=i)(hj:t.place[i]?=some j): SetTable.below t.place (j+1)=i+1:=by
 obtain⟨lt,ej⟩:=Array.getElem?_eq_some_iff.mp hj
 obtain⟨b1,b2,b3⟩:=ZfG (j:=j+1) hi.1
 have up:∀a b (ha:a<t.place.size) (hb:b<t.place.size),a<b->t.place[a]<t.place[b]:=λa b ha hb hab=>by
  have:=List.pairwise_iff_getElem.mp hi.1 a b (by simpa using ha) (by simpa using hb) hab
  simpa using this
 generalize SetTable.below t.place (j+1)=n at b1 b2 b3
 apply Nat.le_antisymm
 ·by_cases c:n<=i+1
  ·exact c
  ·have:=b2 (i+1) .l .l
   have:=up i (i+1) lt .o .l
   lia
 ·by_cases c:i+1<=n
  ·exact c
  ·have:=b3 i lt .l
   lia
section
variable {prog:Program} {w:World} {A:Around} {E:Value->Shared->Prop} {s:Shared}
def ZeJ(w:World)(t:SetTable)(slot i:Nat): Prop:=w.params.followText "set-order"=true∨SetTable.below t.place slot=i
theorem Zqm{es:Array (Int×Value)}{t:SetTable}{Q:Option (Value×Nat)->Shared->Prop}(g:s.heap.get? a=some o)(d:o.data=.set es ep t)(H:Held prog w es t ks)(ni:Nice t)(st:ZeJ w t slot i)
  (some_:∀e n,(wlk w a ep es)[i]?=some e->ZeJ w t n (i+1)->Q (some (e.2,n)) s) (none_:es.size<=i->Q none s):wpAny (model prog w) A (setNext a slot i ep) Q E s:=by
 have ps:t.place.size=es.size:=by have:=H.fit;unfold SetTable.fits at this;simp at this;exact this.1
 unfold setNext
 refine wpAny_bind (wpAny_setState_of g d H.fit (wpAny_bind (m:=setsByText) (wpAny_bind (wpAny_askSetting (wpAny_pure ?_)))))
 dsimp only
 by_cases c:w.params.followText "set-order"=true
 ·have c':(model prog w).w.params.followText "set-order"=true:=c
  rw[if_pos c',if_neg .s]
  refine wpAny_bind (m:=setWalk a) ?_
  unfold setWalk
  refine wpAny_bind (wpAny_setState_of g d H.fit (wpAny_bind (m:=setsByText) (wpAny_bind (wpAny_askSetting (wpAny_pure ?_)))))
  rw[if_pos c']
  refine wpAny_bind (wpAny_askSetting (wpAny_pure (wpAny_pure ?_)))
  have ew:wlk w a ep es=pickOrder (w.params.setOrder a ep) es:=if_pos c
  have sz:=ZkR w a ep es
  rw[ew]at some_ sz
  show Q (((pickOrder (w.params.setOrder a ep) es)[i]?).map λe=>(e.2,slot)) s
  cases e:(pickOrder (w.params.setOrder a ep) es)[i]? with
  | none=>exact none_ (by have:=Array.getElem?_eq_none_iff.mp e;lia)
  | some x=>exact some_ x slot e (.inl c)
 ·have c':¬(model prog w).w.params.followText "set-order"=true:=c
  have led:t.led=true:=by rw[H.led];simp[c]
  have at_i:SetTable.below t.place slot=i:=st.resolve_left c
  rw[if_neg c',if_neg (λq=>by
   have z:(!t.plain && decide (es.size>1))=true:=q
   rw[ni.1]at z
   exact absurd z .s)]
  refine wpAny_bind (wpAny_of_eq (a:=()) (by show(if(!t.led && !es.isEmpty)=true then _ else _)=_;rw[led];rfl) (wpAny_pure ?_))
  have ew:wlk w a ep es=es:=if_neg c
  rw[ew]at some_
  rw[at_i]
  by_cases lt:i<es.size
  ·rw[Array.getElem?_eq_getElem lt,Array.getElem?_eq_getElem (ps▸lt)]
   exact some_ es[i] _ (Array.getElem?_eq_getElem lt) (.inr (ZoJ H.rise at_i (Array.getElem?_eq_getElem (ps▸lt))))
  ·rw[Array.getElem?_eq_none .l]
   exact none_ .o
end
def Zhd(h:Heap)(I a:Addr)(slot i n ep:Nat): Prop:=∃o,h.get? I=some o/\o.cls=.type "set_iterator"/\o.data=.fields #[.int slot 0,.int i 0,.ref a,.int n 0,.int ep 0]
section
variable {prog:Program} {w:World} {A:Around} {E:Value->Shared->Prop} {s:Shared}
theorem ZjY{es:Array (Int×Value)}{t:SetTable}{Q:Option Value->Shared->Prop}(hh:A.handled=none)(it:Zhd s.heap I a slot i es.size ep)(ne:a≠I)(g:s.heap.get? a=some o)(d:o.data=.set es ep t)(H:Held prog w es t ks)(ni:Nice t)(st:ZeJ w t slot i)
  (some_:∀e n h',(wlk w a ep es)[i]?=some e->ZeJ w t n (i+1)->Zhd h' I a n (i+1) es.size ep->(∀b z,b≠I->s.heap.get? b=some z->h'.get? b=some z)->Q (some e.2) { s with heap:=h' })
  (none_:∀h',es.size<=i->(∀b z,b≠I->s.heap.get? b=some z->h'.get? b=some z)->Q none { s with heap:=h' }):wpAny (model prog w) A (pyNext (.ref I)) Q E s:=by
 obtain⟨oi,gi,ci,di⟩:=it
 have ty:s.TypeIs (.ref I) "set_iterator":=⟨oi,gi,ci⟩
 unfold pyNext
 refine wpAny_bind (wpAny_attempt (wpAny_callSpecial?_slot (name:=Str.ofString "__next__") ty slot_setit_next (wpAny_call_entry slot_setit_next ty ZnN ?_ (ZnP _))))
 unfold Builtin.«set_iterator.__next__»
 refine wpAny_bind (m:=slotArgs _ _ _) (wpAny_pure (wpAny_bind (wpAny_fieldsOf gi di ?_)))
 dsimp only
 refine wpAny_bind (m:=setEntries _) (wpAny_bind (wpAny_setState_of g d H.fit (wpAny_pure ?_)))
 dsimp only
 rw[if_neg .s]
 refine wpAny_bind (m:=setNext _ _ _ _) ?_
 rw[Int.toNat_natCast,Int.toNat_natCast,Int.toNat_natCast]
 refine Zqm g d H ni st (λe n he hn=>?_) (λle=>?_)
 ·dsimp only
  refine wpAny_bind (wpAny_setField gi di .s ?_)
  have g1:=Heap.get?_update_self (Obj.mapFields (·.setIfInBounds 0 (rawInt n))) gi (Obj.isFreed_of_fields (Obj.data_mapFields di _))
  have d1:=Obj.data_mapFields di (·.setIfInBounds 0 (rawInt n))
  refine wpAny_bind (wpAny_setField g1 d1 .s (wpAny_pure ⟨_,rfl,wpAny_pure (some_ e n _ he hn ?_ ?_)⟩))
  ·exact⟨_,Heap.get?_update_self _ g1 (Obj.isFreed_of_fields (Obj.data_mapFields d1 _)),(Obj.cls_mapFields ..).trans ((Obj.cls_mapFields ..).trans ci),by rw[Obj.data_mapFields d1];simp[rawInt]⟩
  ·intro b z hb q
   rw[Heap.get?_update_ne _ _ _ _ hb,Heap.get?_update_ne _ _ _ _ hb]
   exact q
 ·dsimp only
  refine wpAny_bind (wpAny_setField gi di .s ?_)
  refine Zur hh λh' x kp tx=>?_
  refine wpAny_bind (wpAny_isInstance (T:="StopIteration") (b:=true) tx isSubtype_stop (wpAny_pure (none_ h' le λb z hb q=>kp b z ?_)))
  rw[Heap.get?_update_ne _ _ _ _ hb]
  exact q
end
section
variable {prog:Program} {w:World} {A:Around} {R:Result->Shared->Prop}
theorem Ztn{S:Addr}{es:Array (Int×Value)}{t:SetTable}(hh:A.in1.handled=none)(h1:a≠I)(h2:S≠I)(h3:S≠a)(d:o.data=.set es ep t)(H:Held prog w es t ks)(ni:Nice t)(few:es.size<=76): ∀(k i slot:Nat) (s:Shared) (c:Nat),es.size=i+k->Zhd s.heap I a slot i es.size ep->ZeJ w t slot i->s.heap.get? a=some o->s.heap.get? S=some (seqObj "list" (((wlk w a ep es).toList.take i).map (·.2)).toArray c) ->
  (∀h',(∀b z,b≠S->b≠I->s.heap.get? b=some z->h'.get? b=some z)->(∃c',h'.get? S=some (seqObj "list" ((wlk w a ep es).toList.map (·.2)).toArray c'))->R (.ok (.ret (.ref S))) { s with heap:=h' }) ->
  codeAny (model prog w) A (.builtin "list.extend.loop" ⟨[.ref S,.ref I,.ref S],[]⟩) R s:=by
 have sz:=ZkR w a ep es
 have line:76<=sizeLine:=by rw[sizeLine_eq];lia
 intro k
 induction k with
 | zero=>
  intro i slot s c e it st g gS post
  refine codeAny_builtin F.entry_extend_loop ?_
  rw[Around.under_plainId F.plain_extend_loop _]
  unfold Builtin.«list.extend.loop»
  refine wpAny_bind (ZjY hh it h1 g d H ni st (λx n h' q _ _ _=>?_) λh' _ kp=>?_)
  ·have:=(Array.getElem?_eq_some_iff.mp q).1
   lia
  ·rw[List.take_of_length_le (by rw[Array.length_toList];lia)]at gS
   exact wpAny_pure (post h' (λb z _ hb q=>kp b z hb q) ⟨c,kp S _ h2 gS⟩)
 | succ k ih=>
  intro i slot s c e it st g gS post
  refine codeAny_builtin F.entry_extend_loop ?_
  rw[Around.under_plainId F.plain_extend_loop _]
  unfold Builtin.«list.extend.loop»
  refine wpAny_bind (ZjY hh it h1 g d H ni st (λx n h' q st' it' kp=>?_) λh' le _=>by lia)
  have gS':=kp S _ h2 gS
  have len:(((wlk w a ep es).toList.take i).map (·.2)).toArray.size<=76:=by rw[List.size_toArray,List.length_map,List.length_take];lia
  dsimp only
  refine wpAny_bind (listUpdate_at gS' rfl ?_ .l (by rw[Array.size_push];lia))
  have off:∀b z,b≠S->h'.get? b=some z->(h'.update S (Obj.mapSeq (·.push x.2))).get? b=some z:=λb z hb q=>by rw[Heap.get?_update_ne _ _ _ _ hb];exact q
  have on:=get?_update_seq gS' (·.push x.2)
  rw[show((((wlk w a ep es).toList.take i).map (·.2)).toArray.push x.2)=(((wlk w a ep es).toList.take (i+1)).map (·.2)).toArray by
   rw[<-Array.getElem?_toList]at q
   rw[List.take_succ,q]
   simp]at on
  refine wpAny_pure ⟨plainId_quiet F.plain_extend_loop _,ih (i+1) n _ _ .l ?_ st' (off a o h3.symm (kp a o h1 g)) on λh2' kp2 fin=>?_⟩
  ·obtain⟨oi,q1,q2⟩:=it'
   exact⟨oi,off I oi h2.symm q1,q2⟩
  ·exact post h2' (λb z q1 q2 q=>kp2 b z q1 q2 (off b z q1 (kp b z q2 q))) fin
end
section
variable {prog:Program} {w:World} {A:Around} {E:Value->Shared->Prop} {s:Shared}
theorem Zpq{vs:List Value}(p:us.Perm vs): ∀{ks:List Int},IntsAre vs ks->∃ms,IntsAre us ms/\ms.Perm ks:=by
 induction p with
 | nil=>intro ks h;exact⟨ks,h,.refl _⟩
 | cons x _ ih=>
  intro ks h
  cases h with
  | cons n t h=>
   obtain⟨ms,a,b⟩:=ih h
   exact⟨n::ms,.cons n t a,b.cons n⟩
 | swap x y l=>
  intro ks h
  cases h with
  | cons n t h=>
   cases h with
   | cons m u h=>exact⟨m::n::_,.cons m u (.cons n t h),.swap n m _⟩
 | trans _ _ ih1 ih2=>
  intro ks h
  obtain⟨ms,a,b⟩:=ih2 h
  obtain⟨ms',a',b'⟩:=ih1 a
  exact⟨ms',a',b'.trans b⟩
theorem Zn8: splitId "set.__len__"=some ("set","__len__"):=by kernel_rfl
theorem Zos{Q:List Value->Shared->Prop}(hh:A.handled=none)(hS:SetAt prog w s.heap a ks)(few:ks.length<=76)
  (post:∀(h':Heap) (us:List Value) (ms:List Int),(∀b o,s.heap.get? b=some o->h'.get? b=some o)->IntsAre us ms->ms.Perm ks->Q us { s with heap:=h' }):wpAny (model prog w) A (collect (.ref a)) Q E s:=by
 have hS0:=hS
 obtain⟨es,t,⟨o,ep,g,x,d⟩,H,ni⟩:=hS
 have cnt:=H.count
 have lt:=Heap.lt_size g
 have line:76<=sizeLine:=by rw[sizeLine_eq];lia
 have wb:Builtin.List.listSameRef (.ref s.heap.objs.size) (.ref a)=false:=by
  simp[Builtin.List.listSameRef]
  exact Nat.ne_of_gt lt
 unfold collect
 refine wpAny_bind (wpAny_runValue (codeAny_builtin F.entry_proto_collect ?_))
 rw[Around.under_plainId F.plain_proto_collect _]
 refine wpAny_bind (m:=newList []) (wpAny_newList (wpAny_pure ⟨plainId_quiet F.plain_list_iadd _,codeAny_builtin F.entry_list_iadd ?_⟩) (Nat.zero_le _))
 rw[Around.under_plainId F.plain_list_iadd _]
 generalize hK:s.heap.push (seqObj "list" #[] 0)=K
 have size:K.objs.size=s.heap.objs.size+1:=by subst hK;exact size_push' _ _
 have up:∀b z,s.heap.get? b=some z->K.get? b=some z:=λb z e=>by subst hK;exact Heap.get?_push_of_some _ e
 have gS:K.get? s.heap.objs.size=some (seqObj "list" #[] 0):=by subst hK;exact Heap.get?_push_size _ rfl
 have ty:∀h:Heap,h.get? a=some o->Shared.TypeIs { s with heap:=h } (.ref a) "set":=λh q=>⟨o,q,x.1⟩
 show wpAny _ _ (Builtin.List.listExtendWith (.ref s.heap.objs.size) (.ref a) (.ref s.heap.objs.size)) _ _ { s with heap:=K }
 unfold Builtin.List.listExtendWith
 refine wpAny_bind (wpAny_typeOf (ty K (up a o g)) ?_)
 rw[if_neg (by rw[wb];decide)]
 refine wpAny_bind (Zql (s:={ s with heap:=K }) (hS0.keep λz=>up a z) λep' o' es' t' g' x' d' H' ni'=>?_)
 dsimp only at g'
 rw[up a o g]at g'
 cases g'
 rw[d]at d'
 cases d'
 generalize hL:K.push { cls:=.type "set_iterator",data:=.fields #[.int 0 0,.int 0 0,.ref a,.int es.size 0,.int ep 0] } = L
 have upL:∀b z,K.get? b=some z->L.get? b=some z:=λb z e=>by subst hL;exact Heap.get?_push_of_some _ e
 have itL:Zhd L K.objs.size a 0 0 es.size ep:=⟨_,by subst hL;exact Heap.get?_push_size _ rfl,rfl,rfl⟩
 have gL:=upL a o (up a o g)
 refine wpAny_bind (wpAny_holding ?_)
 unfold Builtin.List.listLengthHint
 refine wpAny_bind (wpAny_specialOf (ty L gL) F.slot_set_len.lookup ?_)
 dsimp only
 rw[Zn8]
 dsimp only
 refine wpAny_bind (wpAny_isInstance (ty L gL) sub_set_self ?_)
 rw[if_neg .s]
 rw[if_pos .d]
 refine wpAny_bind (wpAny_typeOf (ty L gL) ?_)
 refine wpAny_pure ?_
 rw[if_pos .d]
 have ne:s.heap.objs.size≠K.objs.size:=Nat.ne_of_lt .l
 refine wpAny_bind (wpAny_rule (wpAny_bind (m:=Builtin.List.listTouch _) ?_))
 have q0:L.get? s.heap.objs.size=some (seqObj "list" #[] 0):=upL _ _ gS
 have q1:=get?_update_seq q0 (·.push Value.none)
 have q2:=get?_update_seq q1 (·.pop)
 have off:∀b z,b≠s.heap.objs.size->L.get? b=some z->((L.update s.heap.objs.size (Obj.mapSeq (·.push Value.none))).update s.heap.objs.size (Obj.mapSeq (·.pop))).get? b=some z:=λb z hb q=>by
  rw[Heap.get?_update_ne _ _ _ _ hb,Heap.get?_update_ne _ _ _ _ hb]
  exact q
 refine wpAny_bind (listUpdate_at q0 rfl (listUpdate_at q1 rfl ?_ (by simp;lia) .s) .s .s)
 obtain⟨oi,qi,ri⟩:=itL
 refine wpAny_pure ⟨plainId_quiet F.plain_extend_loop _,Ztn (by simpa using hh) (Nat.ne_of_lt (by rw[size];exact Nat.lt_succ_of_lt lt)) ne (Nat.ne_of_gt lt) d H ni .l es.size 0 0 _ _ .s ⟨oi,off _ _ ne.symm qi,ri⟩ ?_ (off a o (Nat.ne_of_lt lt) gL) q2 λh' kp fin=>?_⟩
 ·by_cases c:w.params.followText "set-order"=true
  ·exact .inl c
  ·refine .inr ?_
   obtain⟨b1,b2,b3⟩:=ZfG (j:=0) H.rise.1
   cases e:SetTable.below t.place 0 with
   | zero=>rfl
   | succ n=>
    rw[e]at b1 b2
    exact absurd (b2 0 .l .l) (Nat.not_lt_zero _)
 ·obtain⟨c',fin⟩:=fin
  refine wpAny_bind (wpAny_load fin (wpAny_pure ?_))
  obtain⟨vs,p,i1⟩:=H.same
  obtain⟨ms,i2,p2⟩:=Zpq (((ZkQ w a ep es).map (·.2)).trans p) i1
  refine post h' _ ms (λb z q=>?_) i2 p2
  have lb:=Heap.lt_size q
  exact kp b z (Nat.ne_of_lt lb) (Nat.ne_of_lt (by rw[size];exact Nat.lt_succ_of_lt lb)) (off b z (Nat.ne_of_lt lb) (upL b z (up b z q)))
end
def uniq(ns:List Int): List Int:=ns.foldl Zbz []
theorem ZiD(ns:List Int): (uniq ns).length<=ns.length:=by
 have:∀(ns ks:List Int),(ns.foldl Zbz ks).length<=ks.length+ns.length:=by
  intro ns
  induction ns with
  | nil=>intro ks;simp
  | cons n ns ih=>
   intro ks
   have:=ih (Zbz ks n)
   have:=ZkP ks n
   simp only[List.foldl_cons,List.length_cons]
   lia
 simpa [uniq]using this ns []
section
variable {prog:Program} {w:World} {A:Around} {E:Value->Shared->Prop} {s:Shared}
theorem ZoK(hh:A.handled=none)(hS:SetAt prog w s.heap a ks)(few:ks.length<64)
  (post:∀(D:Addr) (K h':Heap) (out:List Value) (j:Nat),(∀b o,s.heap.get? b=some o->K.get? b=some o)->(∀b o,K.get? b=some o->h'.get? b=some o)->K.objs.size<=D->h'.get? D=some (Zat out j)->IntsAre out (Zbj ks)->Q (.ref D) { s with heap:=h' }):wpAny (model prog w) A (call (.builtin "sorted") [.ref a]) Q E s:=by
 have line:64<=sizeLine:=by rw[sizeLine_eq];lia
 refine Calls.call_function_entry kind_sorted plain_sorted entry_sorted (args_sorted1 _) ?_
 unfold Builtin.«sorted»
 refine wpAny_bind (m:=checkCount "sorted" 1 1 _) (wpAny_pure (wpAny_bind (Zos (by simpa using hh) hS .l λK us ms up iu pm=>?_)))
 have lu:us.length<64:=by rw[iu.length,pm.length_eq];exact few
 refine wpAny_bind (wpAny_newList ?_ .l)
 have mine:(K.push (seqObj "list" us.toArray 0)).get? K.objs.size=some (seqObj "list" us.toArray 0):=Heap.get?_push_size _ rfl
 refine wpAny_bind (wpAny_holding (wpAny_call_entry slot_list_sort ⟨_,mine,rfl⟩ entry_list_sort (list_sort_tree (s:={ s with heap:=K.push (seqObj "list" us.toArray 0) }) mine iu lu λout ns' i1 p1 p2=>?_) (args_list_sort _)))
 have em:=ZkK (p1.trans pm) p2
 subst em
 obtain⟨j,at_D⟩:=sortedHeap_at (out:=out) mine
 refine⟨_,rfl,wpAny_pure ⟨_,rfl,post _ K _ out.toList j up (λb o e=>?_) (Zz10 _) at_D i1⟩⟩
 have lb:=Heap.lt_size e
 refine(sortedHeap_old (Nat.ne_of_lt lb) ?_).trans (Heap.get?_push_of_some _ e)
 rw[size_push']
 exact Nat.lt_succ_of_lt lb
end
def ZdK:=ZbK (λvs H=>(Za2 vs).bind λns=>if vs.length<64 then some (.ref H.length,H++[(Zbj (uniq ns)).map V.int])else none) λ_ _=>none
theorem Zki{x y:Str}{np np' pos pos':Pos}{e:Expr}{g:Exs}(hx:Nm prog w M x (.builtin "sorted"))(hy:Nm prog w M y (.type "set"))(h:Js prog w M [e] g)
  (he:starEach [e] M.env=(false,eval e M.env)::starEach [] M.env:=by rfl):J prog w M (.Call (.Name x np) [.Call (.Name y np') [e] [] pos'] [] pos) (Zg ZdK g):=by
 intro W U H fr s Q E v H' r hf post
 obtain⟨p,e1,hf⟩:=Zz0.mp hf
 refine wpAny_Call_ofName (hx.use r (callWith_builtin1 (wpAny_items_cons ?_ rfl) rfl rfl))
 refine wpAny_Call_ofName (hy.use r (PySem.Pv.callWith_type1 (h pos' W U H fr s _ E _ _ r e1 λW1 k1 t1 zs l1 r1 z1=>?_) he rfl))
 obtain⟨us,H1⟩:=p
 obtain⟨i,vs,e0,e2,hf⟩:=Ziv hf
 have e0:us=[.ref i]:=e0
 subst e0
 obtain⟨ns,e3,hf⟩:=Zz0.mp hf
 obtain⟨h64,hf⟩:=ZbD hf
 cases hf
 obtain⟨z,rfl,rz⟩:=z1.one
 obtain⟨a,rfl,ea⟩:=rz.iref
 obtain⟨hl,ys,k,hg,hv⟩:=r1.at e2 ea
 have ii:=ZrB hv e3
 have lv:ys.length=vs.length:=hv.length
 have ln:ns.length=vs.length:=by rw[<-lv];exact ii.length.symm
 have ul:=ZiD ns
 refine Zqk (s:={ s with heap:=k1,toks:=t1 }) M.hh ⟨_,hg,rfl,k,rfl⟩ ii .l λh2 t2 up SS=>wpAny_items_nil ?_
 refine ZoK (s:={ s with heap:=h2,toks:=t2 }) M.hh SS (by show(uniq ns).length<64;lia) λD K h3 out j u1 u2 big gD io=>?_
 have rK:=(r1.grown up).grown u1
 obtain⟨r2,ap⟩:=rK.more (h':=h3) (fs:=[(D,Zat out j)]) u2 (λq hq=>by rw[List.mem_singleton.mp hq];exact⟨gD,big⟩)
 obtain⟨W2,l2,r3,v3⟩:=Zek r2 (λt ht=>ap _ Zz5 t ht) (ZlM io) (by rw[List.length_map,Zii];exact Nat.le_trans (by show(uniq ns).length<=vs.length;lia) hl)
 exact post W2 _ t2 _ (l1.trans l2) r3 v3
noncomputable def ZuU: V->Hp->Option (V×Hp)
 | .bool b,H=>some (.int (if b then 1 else 0),H)
 | .int i,H=>some (.int i,H)
 | _,_=>none
def ZeU:=one ZuU
theorem ZiU: OpN prog w (λxs=>call (.type "int") xs) ZeU:=.one λM W U H fr s Q E a x v H' r hx ho post=>by
 cases a <;> first | exact nope ho | skip
 ·cases hx
  cases ho
  exact call_int_bool (post W s.heap _ _ (.refl W) r (.int _ _))
 ·obtain⟨t,rfl⟩:=hx.iint
  cases ho
  exact call_int_int (post W s.heap s.toks _ (.refl W) r (.int _ _))
end PM
end
section
namespace PM
open PySem PySem.W PySem.Calls PyProof.Rows PyProof PyProof.Rows.LCg PySem.SeqAt
variable{prog:Program}{w:World}{M:Cx}
noncomputable def Zhe: V->Hp->Option (V×Hp)
 | .ref a,H=>H[a]?.bind λvs=>vs.getLast?.bind λv=>if a≠0 then some (v,H.set a vs.dropLast)else none
 | _,_=>none
def ZdE(o:Ex): Ex:=λU H=>(o U H).bind λp=>Zhe p.1 p.2
section
variable {prog:Program} {w:World} {A:Around} {E:Value->Shared->Prop} {s:Shared}
theorem Zqn{a:Addr}{us:List Value}{x:Value}{k:Nat}{Q:Value->Shared->Prop}(g:s.heap.get? a=some (Zat (us++[x]) k))(hz:us.length+1<=sizeLine)
  (post:∀h' j,Heap.SameBut a s.heap h'->h'.get? a=some (Zat us j)->Q x { s with heap:=h' }):wpAny (model prog w) A (call (.builtin "list.pop") [.ref a]) Q E s:=by
 refine wpAny_call_entry PySem.F.slot_list_pop ⟨_,g,rfl⟩ PySem.F.entry_list_pop ?_ (PySem.F.args_list_pop_1 _)
 unfold Builtin.«list.pop»
 refine wpAny_bind (m:=selfAndSome _ _ _ _ _) (wpAny_pure ?_)
 dsimp only
 refine wpAny_bind (wpAny_pure ?_)
 rw[if_neg .d]
 refine wpAny_bind (listItems_at g rfl ?_)
 rw[if_neg .s]
 have at_last:(seqIndex? (-1) (us++[x]).toArray.size).bind (λk=>(us++[x]).toArray[k]?.map (k,·))=some (us.length,x):=by
  have:seqIndex? (-1) (us++[x]).toArray.size=some us.length:=by
   rw[List.size_toArray,List.length_append,List.length_singleton]
   unfold seqIndex?
   simp
   lia
  rw[this]
  simp
 rw[at_last]
 dsimp only
 have cut:((us++[x]).toArray.eraseIdxIfInBounds us.length)=us.toArray:=by
  simp
  rw[List.eraseIdx_append_of_length_le (Zz10 _)]
  simp
 have g':=get?_update_seq g (·.eraseIdxIfInBounds us.length)
 rw[cut]at g'
 refine wpAny_bind (listUpdate_at g rfl (wpAny_pure ⟨_,rfl,post _ _ (Heap.SameBut.update ..) g'⟩) ?_ ?_)
 ·rw[List.size_toArray,List.length_append];simpa using hz
 ·rw[cut,List.size_toArray]
  lia
end
theorem VRs.split_last{W:Wd}: ∀{vs:List V} {v:V} {xs:List Value},VRs W (vs++[v]) xs->∃us x,xs=us++[x]/\VRs W vs us/\VR W v x
 | [],v,xs,h=>by
  obtain⟨x,rfl,r⟩:=h.one
  exact⟨[],x,rfl,.nil,r⟩
 | a::vs,v,xs,h=>by
  cases h with
  | cons h1 h2=>
   obtain⟨us,x,rfl,r1,r2⟩:=h2.split_last
   exact⟨_::us,x,rfl,.cons h1 r1,r2⟩
theorem J.pop{o:Expr}{apos pos:Pos}{f:Ex}(ho:J prog w M o f)(hbase:attributeBase o "pop" M.env (eval o M.env)=eval o M.env:=by rfl)
  (hline:(apos.endLine == pos.line)=true:=by rfl):J prog w M (.Call (.Attribute o "pop" apos) [] [] pos) (ZdE f):=by
 intro W U H fr s Q E v H' r hx post
 obtain⟨p,x1,hx⟩:=Zz0.mp hx
 obtain⟨u,H1⟩:=p
 unfold Zhe at hx
 dsimp only at hx
 split at hx
 ·rename_i i _ _
  obtain⟨vs,hvs,hx⟩:=Zz0.mp hx
  obtain⟨l,hl,hx⟩:=Zz0.mp hx
  split at hx
  ·rename_i i0
   cases hx
   obtain⟨ws,rfl⟩:∃ws,vs=ws++[v]:=List.getLast?_eq_some_iff.mp hl
   rw[List.dropLast_concat]at post
   refine wpAny_Call_method0_late hbase hline (ho W U H fr s _ E _ _ r x1 λW1 k1 t1 x l1 r1 y1=>?_)
   cases y1 with
   | @ref _ a aa=>
    obtain⟨hlen,xs,n,hg,hv⟩:=r1.at hvs aa
    obtain⟨us,y,rfl,v1,v2⟩:=hv.split_last
    refine⟨"list","list.pop",PySem.F.plainAttrs_list,PySem.F.slot_list_pop,PySem.F.type_list_pop,(show k1.IsList a (us++[y]).toArray from⟨_,hg,rfl,n,rfl⟩).typeIs,λb eb=>by cases eb;exact⟨_,hg,rfl⟩,?_⟩
    refine Calls.callWith_builtin rfl (wpAny_of_eq (a:=⟨[],[]⟩) rfl ?_)
    have le:us.length+1<=100000:=by
     have:=v1.length
     rw[List.length_append,List.length_singleton,ZD]at hlen
     lia
    refine Zqn (s:={ s with heap:=k1,toks:=t1 }) hg (by rw[sizeLine_eq];lia) λh' j sb g'=>?_
    exact post W1 h' t1 y l1 (r1.change i0 hvs aa sb g' v1 (by rw[ZD];have:=v1.length;lia)) v2
  ·cases hx
 ·cases hx
end PM
end
section
namespace PM
open PySem PySem.W PySem.Calls PyProof.Rows PyProof PyProof.Rows.LCg PyProof.Rows.LCp
variable{prog:Program}{w:World}{M:Cx}
def ZgX:=ZbK (λvs H=>(Za2 vs).bind λks=>ks.max?.map λm=>(.int m,H)) λ_ _=>none
theorem ZrH: OpN prog w (λxs=>call (.builtin "max") xs) ZgX:=.list λM W U H fr s Q E vs a ys k v H' r hl hg hv ho post=>by
 obtain⟨ks,e3,e2⟩:=Zz0.mp ho
 obtain⟨m,e5,e4⟩:=Zz1.mp e2
 cases e4
 obtain⟨ts,g1,g2⟩:=ZiA hv e3
 have isl:s.heap.IsList _ (intItems ts.toArray):=⟨_,hg,rfl,k,by rw[g1];simp[intItems]⟩
 have z:0<ts.length:=by
  cases ts with
  | nil=>rw[<-g2]at e5;simp at e5
  | cons t ts=>simp
 have sz:(intItems ts.toArray).size=ts.length:=by simp[intItems]
 refine call_max_walk (iter_intList isl λs₂ e st below ne=>?_)
 subst e
 refine⟨_,_,_,_,_,_,_,rfl,Walks.list (A:=M.A.in1) M.hh _ _ ne (intItems ts.toArray),st,below,by rw[sz];exact z,CmpOf.ints_gt (numAt ts.toArray) (λ_ _=>intItems_at),λv' g tk pv kp=>?_⟩
 have up:=old_kept kp
 rw[sz]at pv
 obtain⟨m',t,hm,rfl⟩:=ZkJ g2 z pv
 rw[hm]at e5
 cases e5
 exact post W g tk _ (.refl W) (r.grown up) (.int _ _)
end PM
end
section
namespace PM
open PySem PySem.W PySem.Calls PyProof.Rows PyProof
variable{sl:Addr}{k:Nat}{u:Tok}{Q:Int×Int×Nat->Shared->Prop}
variable{prog:Program}{w:World}{M:Cx}
noncomputable def eTo(f:Ex)(k:Nat): Ex:=λU H=>(f U H).bind λp=>match p.1 with
 | .tup vs=>if k<vs.length then some (.tup (vs.take k),p.2)else none
 | _=>none
section
variable {prog:Program} {w:World} {A:Around} {E:Value->Shared->Prop} {s:Shared}
theorem ZmU(k n:Nat)(h:k<=n): Builtin.Slice.sliceAdjust none (some (k:Int)) 1 (n:Int)=(0,(k:Int))/\Builtin.Slice.slicePlaces 0 (k:Int) 1=k:=by
 constructor
 ·unfold Builtin.Slice.sliceAdjust
  simp
  lia
 ·unfold Builtin.Slice.slicePlaces
  simp
  lia
theorem Zto{n:Nat}(hs:s.heap.IsSliceOf sl .none (.int k u) .none)(hk:k<=n)(h:Q (0,1,k) s): wpAny (model prog w) A (Builtin.Slice.sliceApplied (.ref sl) (pure (n:Int))) Q E s:=by
 obtain⟨o,ho,_,hd⟩:=id hs
 unfold Builtin.Slice.sliceApplied Builtin.Slice.sliceFields
 have part0:∀{R:Value->Shared->Prop},R .none s->wpAny (model prog w) A (pure Value.none) R E s:=λh=>wpAny_pure h
 refine wpAny_bind (wpAny_bind ?_)
 refine wpAny_field ho hd (x:=.none) rfl (wpAny_bind ?_)
 refine wpAny_field ho hd (x:=.int k u) rfl (wpAny_bind ?_)
 refine wpAny_field ho hd (x:=.none) rfl (wpAny_pure (wpAny_bind (slicePart_none ?_)))
 show wpAny _ _ (ite (((1:Int) == 0)=true) _ _) _ _ s
 rw[if_neg .d]
 refine wpAny_bind (slicePart_none (wpAny_bind (slicePart_int (wpAny_bind (wpAny_pure ?_)))))
 show wpAny _ _ (match Builtin.Slice.sliceAdjust none (some (k:Int)) 1 (n:Int)with | (a,b)=>pure (a,(1:Int),Builtin.Slice.slicePlaces a b 1)) _ _ s
 rw[(ZmU k n hk).1]
 show wpAny _ _ (pure (0,(1:Int),Builtin.Slice.slicePlaces 0 (k:Int) 1)) _ _ s
 rw[(ZmU k n hk).2]
 exact wpAny_pure h
theorem Zpr(xs:Array Value)(k:Nat)(hk:k<=xs.size): ((List.range k).filterMap λ(j:Nat)=>xs[((0:Int)+(j:Int)*1).toNat]?).toArray=(xs.toList.take k).toArray:=by
 congr 1
 have e:(λ(j:Nat)=>xs[((0:Int)+(j:Int)*1).toNat]?)=λj=>xs.toList[j]?:=by
  funext j
  rw[show((0:Int)+(j:Int)*1).toNat=j by lia]
  simp
 rw[e]
 have:=Ziu xs.toList 0 k (by simpa using hk)
 simpa using this
theorem Zps{t:Addr}{items:Array Value}{Q:Value->Shared->Prop}(ht:IsTup s.heap t items)(hs:s.heap.IsSliceOf sl .none (.int k u) .none)(hk:k<items.size)(hz:items.size<=sizeLine)
  (h:Q (.ref s.heap.objs.size) { s with heap:=s.heap.push { cls:=.type "tuple",data:=.seq (items.toList.take k).toArray } }):wpAny (model prog w) A (getItem (.ref t) (.ref sl)) Q E s:=by
 have ok:sizeOk (.seq (items.toList.take k).toArray):=by
  show(items.toList.take k).toArray.size<=sizeLine
  rw[List.size_toArray,List.length_take,Array.length_toList]
  lia
 obtain⟨o,ho,hc,_⟩:=id hs
 have ts:s.TypeIs (.ref sl) "slice":=⟨o,ho,hc⟩
 unfold getItem
 try (refine wpAny_holding ?_)
 try (refine wpAny_bind (wpAny_pure ?_))
 apply wpAny_bind;apply wpAny_sequenceKey ht.typeIs .d
 apply wpAny_bind
 refine wpAny_callSpecial?_slot (name:=Str.ofString "__getitem__") ht.typeIs slot_tuple_getitem (wpAny_call_entry slot_tuple_getitem ht.typeIs entry_tuple_getitem ?_ (args_tuple_getitem _ _))
 show wpAny _ _ (Builtin.Tuple.tupleItemsOf (.ref t) >>= _) _ _ s
 refine wpAny_bind (tupleItemsOf_ ht (wpAny_bind (wpAny_typeOf ts ?_)))
 rw[if_pos .d]
 refine wpAny_bind (Zto hs (Nat.le_of_lt hk) ?_)
 show wpAny _ _ (ite (((0:Int) == 0 && (1:Int) == 1 && k == items.size)=true) _ _) _ _ s
 rw[if_neg (by simp;lia),Zpr items k (Nat.le_of_lt hk)]
 exact wpAny_bind (m:=Builtin.Tuple.tupleExact _) (wpAny_newObj_type (wpAny_pure ⟨_,rfl,wpAny_pure h⟩) ok)
end
theorem ZeV{e hi:Expr}{p pos:Pos}{f:Ex}(h:J prog w M e f)(hhi:J prog w M hi (Zd k))(ht:∀o r,letTemporaryGo e o r=pure ():=by intro _ _;rfl): J prog w M (.Subscript e (.Slice Option.none (Option.some hi) Option.none p) pos) (eTo f k):=by
 intro W U H fr s Q E v H' r hf post
 obtain⟨⟨v1,H1⟩,e1,hf⟩:=Zz0.mp hf
 cases v1 with
 | none=>cases hf
 | bool _=>cases hf
 | int _=>cases hf
 | str _=>cases hf
 | obj _ _=>cases hf
 | dct _=>cases hf
 | ref i=>cases hf
 | tup vs=>
  simp only at hf
  by_cases c:k<vs.length
  ·rw[if_pos c]at hf
   cases hf
   refine wpAny_Subscript_Slice (T:="tuple") slot_tuple_getitem.lookup (h W U H fr s _ E _ _ r e1 λW1 k1 t1 x l1 r1 x1=>?_) ht
   refine wpAny_Slice (wpAny_evalPart_none ?_)
   refine wpAny_evalPart_some (hhi W1 U _ fr _ _ E _ _ r1 rfl λW2 k2 t2 y l2 r2 y2=>?_)
   refine wpAny_evalPart_none ?_
   cases y2 with
   | int _ u=>
    have x2:=x1.mono l2
    cases x2 with
    | @tup _ a ys kk hm hl hs=>
     have it:IsTup k2 a ys.toArray:=⟨_,r2.tupAt hm,rfl,kk,rfl⟩
     have it':IsTup (k2.push { cls:=.type "slice",data:=.fields #[.none,.int k u,.none] }) a ys.toArray:=it.keeps λ_ _ e=>Heap.get?_push_of_some _ e
     have hlen:=hs.length
     rw[ZD]at hl
     refine⟨it'.typeIs,Zps it' (Heap.IsSliceOf.new ..) (by simp[hlen];exact c) (Zcv (by simp[hlen];rw[ZD];exact hl)) ?_⟩
     obtain⟨W4,l4,r4,v4⟩:=(r2.push { cls:=.type "slice",data:=.fields #[.none,.int k u,.none] }).tuple (k:=0) (hs.take k) (by rw[ZD];simp;lia)
     have:=post W4 _ t2 _ ((l1.trans l2).trans l4) r4 v4
     simpa using this
  ·rw[if_neg c]at hf
   cases hf
end PM
end
noncomputable section
open PySem PM TM
namespace L
def Zia: Sm:=Zh (Zk 2 (Zc Zf (Za 0) (Zd 1))) (Zh (ZaE (Zc ZC (Za 2) (Zd 1)) (Za 0) (Zd 1)) (Zh (Zu (Zl (Zc ZA (Zg ZZ (Zb (Zc Zf (Za 0) (Zd 0)) Ze)) (Zd 0))) (Zo (Zd 0)) ZG) (Zo (Zc Zcp (Zc ZC (Zc Zf (Zc Zf (Za 0) (Zd 0)) (Zc Zcp (Za 2) (Zg ZZ (Zb (Zc Zf (Za 0) (Zd 0)) Ze)))) (Zc ZcV (Za 2) (Zg ZZ (Zb (Zc Zf (Za 0) (Zd 0)) Ze)))) (Za 1)))))
def ZP:=Zs 2 Zia
def Zhq: Sm:=Zh (Zk 1 (Zg ZP (Zb (Za 0) (Zb (Zd 16) Ze)))) (Zh (Zu (Zl (Zc oLt (Za 1) (Zd 13))) (Zo (Zc Zai (Zg ZP (Zb (Za 0) (Zb (Zd 25) Ze))) (Zd 8))) ZG) (Zh (Zu (Zl (Zc ZA (Za 1) (Zd 13))) (Zo (Zc Zai (Zg ZP (Zb (Za 0) (Zb (Zc ZC (Zc ZaI (Zd 2) (Zc ZbJ (Zd 10) (Zd 60))) (Zd 1)) Ze))) (Zc ZbJ (Zd 10) (Zd 60)))) ZG) (Zo (Zc Zai (Zg ZP (Zb (Za 0) (Zb (Zc ZC (Zc ZaI (Zd 2) (Zc ZbJ (Zd 10) (Zd 9))) (Zd 1)) Ze))) (Zc ZbJ (Zd 10) (Zd 9))))))
def ZcI:=Zs 1 Zhq
def ZhN: Sm:=Zh (Zk 2 (ZB (Zb (Zg ZcI (Zb (Za 0) Ze)) Ze))) (Zh (Zac (ZaM (Zb (Za 1) Ze)) (Zw 3) (Zh (Zk 4 (Zg ZP (Zb (Za 0) (Zb (Zd 12) Ze)))) (Zh (ZN (Zag (Za 2) (Zc Zf (ZB (Zb (Zd 0) (Zb (Zd 0) (Zb (Zd 0) (Zb (Zd 0) (Zb (Zd 1) (Zb (Zd 1) (Zb (Zd 1) (Zb (ZE Zax (Zd 1)) (Zb (Zd 2) (Zb (ZE Zax (Zd 3)) (Zb (Zd 1) (Zb (Zd 0) Ze))))))))))))) (Za 4)))) (Zu (Zl (Zc ZA (Za 4) (Zd 11))) (ZaE (Zc Zai (Zg ZP (Zb (Za 0) (Zb (Zc ZC (Zc ZaI (Zd 2) (Zc ZbJ (Zd 10) (Zd 9))) (Zd 1)) Ze))) (Zc ZbJ (Zd 10) (Zd 9))) (Za 2) (Zc ZC (Za 3) (Zd 1))) ZG)))) (Zo (Za 2)))
def Zcb:=Zs 2 ZhN
def Zhz: Sm:=Zh (Zk 1 (Zg ZP (Zb (Za 0) (Zb (Zd 8) Ze)))) (Zh (Zu (Zl (Zc oLt (Za 1) (Zd 5))) (Zo (Zc Zf (ZB (Zb (Zd 2) (Zb (Zd 3) (Zb (Zd 2) (Zb (Zd 4) (Zb (Zd 1) Ze)))))) (Za 1))) ZG) (Zh (Zu (Zl (Zc ZA (Za 1) (Zd 5))) (Zo (Zc ZC (Zd 1) (Zg ZP (Zb (Za 0) (Zb (Zc ZbJ (Zd 10) (Zd 60)) Ze))))) ZG) (Zo (Zc ZC (Zd 1) (Zg ZP (Zb (Za 0) (Zb (Zd 12) Ze)))))))
def Zeb:=Zs 1 Zhz
def Zhs: Sm:=Zh (Zk 2 (Zg ZP (Zb (Za 0) (Zb (Zd 5) Ze)))) (Zh (Zk 3 (Zg Zcb (Zb (Za 0) (Zb (Za 1) Ze)))) (Zh (Zu (Zl (Zc oGt (Za 2) (Zd 2))) (Zo (ZO (Zb (ZF "even") (Zb (Za 3) (Zb (Zg Zeb (Zb (Za 0) Ze)) Ze))))) ZG) (Zo (ZO (Zb (Zc Zf (ZB (Zb (ZF "under") (Zb (ZF "under") (Zb (ZF "same") Ze)))) (Za 2)) (Zb (Za 3) Ze))))))
def Zc3:=Zs 2 Zhs
def Zij: Sm:=Zh (Zk 2 (Zg ZcI (Zb (Za 0) Ze))) (Zh (Zk 3 (Zg ZdA (Zb (Zc ZbJ (Zd 10) (Zd 60)) (Zb (Zc ZC (Za 2) (Zg ZP (Zb (Za 0) (Zb (Zd 20) Ze)))) Ze)))) (Zh (Zk 4 (Zg ZP (Zb (Za 0) (Zb (Zd 6) Ze)))) (Zo (ZO (Zb (ZF "any") (Zb (Za 1) (Zb (Zc Zf (ZB (Zb (Za 2) (Zb (Za 2) (Zb (Za 2) (Zb (Za 2) (Zb (Z9) (Zb (Z9) Ze))))))) (Za 4)) (Zb (Zc Zf (ZB (Zb (Za 3) (Zb (Za 3) (Zb (Za 3) (Zb (Z9) (Zb (Za 3) (Zb (Z9) Ze))))))) (Za 4)) Ze))))))))
def ZfO:=Zs 2 Zij
def Zib(F: .y): Sm:=Zh (Zk 5 (Zg ZP (Zb (Za 0) (Zb (Zd 3) Ze)))) (Zh (Zk 6 (Zg Zc3 (Zb (Za 0) (Zb (Zc Zf (Za 1) (Zd 1)) Ze)))) (Zh (Zk 7 (Zg F (Zb (Za 0) (Zb (Za 1) (Zb (Za 2) (Zb (Zc Zai (Za 3) (Zd 1)) (Zb (Zg ZP (Zb (Za 0) (Zb (Zd 3) Ze))) Ze))))))) (Zh (Zu (tOr (Zl (Zc ZA (Za 5) (Zd 0))) (tOr (Zl (Zc ZA (Zc Zf (Za 2) (Zd 1)) (Zd 0))) Zb1)) (Zo (ZO (Zb (ZF "if") (Zb (Za 6) (Zb (Za 7) (Zb (Zg F (Zb (Za 0) (Zb (Za 1) (Zb (Za 2) (Zb (Zc Zai (Za 3) (Zd 1)) (Zb (Zg ZP (Zb (Za 0) (Zb (Zd 3) Ze))) Ze)))))) Ze)))))) ZG) (Zh (ZaE (Zc Zai (Zc Zf (Za 2) (Zd 1)) (Zd 1)) (Za 2) (Zd 1)) (Zh (Zu (ZR (Zl (Zc ZA (Za 5) (Zd 2))) (ZR (Zl (Zc oGt (Za 4) (Zd 0))) ZJ)) (Zh (Zk 8 (Zc ZC (ZB (Zb (ZE Zax (Zg ZP (Zb (Za 0) (Zb (Zd 9) Ze)))) Ze)) (Zc ZaI (ZB (Zb (Zd 0) Ze)) (Zc Zf (Za 1) (Zd 1))))) (Zh (ZaE (Zd 1) (Za 8) (Za 4)) (Zh (Zk 9 (Zc ZC (ZB (Zb (Zc ZC (Zd 1) (Zg ZP (Zb (Za 0) (Zb (Zd 3) Ze)))) Ze)) (Zc ZaI (ZB (Zb (Zd 0) Ze)) (Zc Zf (Za 1) (Zd 1))))) (Zh (ZaE (Zd 1) (Za 9) (Za 4)) (Zo (ZO (Zb (ZF "while") (Zb (ZO (Zb (ZF "under") (Zb (Za 8) Ze))) (Zb (Zc ZC (Za 7) (ZB (Zb (ZO (Zb (ZF "set") (Zb (Za 4) (Zb (Za 9) Ze)))) Ze))) Ze))))))))) ZG) (Zo (ZO (Zb (ZF "while") (Zb (Za 6) (Zb (Za 7) Ze))))))))))
def ZfH(F: .y): .y:=Zs 5 (Zib F)
def Zht(F: .y): Sm:=Zh (Zk 4 (Zc Zf (Za 1) (Zd 1))) (Zh (Zk 5 (Zg ZP (Zb (Za 0) (Zb (Zd 11) Ze)))) (Zh (Zk 6 (Zd 0)) (Zh (Zu (Zl (Zc oLt (Zc Zf (Za 1) (Zd 0)) (Za 4))) (Zk 6 (Zc ZC (Zc ZC (Zc Zf (Za 1) (Zd 0)) (Zd 1)) (Zg ZP (Zb (Za 0) (Zb (Zc Zai (Za 4) (Zc Zf (Za 1) (Zd 0))) Ze))))) ZG) (Zh (Zu (ZR (Zl (Zc oLt (Za 5) (Zd 4))) (ZR (Zl (Zc oGt (Za 3) (Zd 0))) ZJ)) (Zo (Zg (ZfH F) (Zb (Za 0) (Zb (Za 1) (Zb (Za 2) (Zb (Za 3) (Zb (Za 6) Ze))))))) ZG) (Zh (Zu (tOr (Zl (Zc ZA (Za 5) (Zd 4))) (tOr (Zl (Zc ZA (Za 6) (Zd 0))) Zb1)) (Zo (ZO (Zb (ZF "say") (Zb (Zg Zc3 (Zb (Za 0) (Zb (Za 4) Ze))) Ze)))) ZG) (Zh (Zu (ZR (Zl (Zc ZA (Za 5) (Zd 5))) (ZR (Zl (Zc oGt (Zg ZZ (Zb (Zc Zf (Za 1) (Zd 2)) Ze)) (Zd 0))) ZJ)) (Zh (Zk 7 (Zg ZP (Zb (Za 0) (Zb (Zg ZZ (Zb (Zc Zf (Za 1) (Zd 2)) Ze)) Ze)))) (Zo (ZO (Zb (ZF "call") (Zb (Za 6) (Zb (Za 7) (Zb (Z3 (ZaM (Zb (Zc Zf (Zc Zf (Za 1) (Zd 2)) (Za 7)) Ze)) (Zw 100) ZJ (Zg Zcb (Zb (Za 0) (Zb (Za 4) Ze)))) Ze))))))) ZG) (Zh (Zu (Zl (Zc ZA (Za 5) (Zd 6))) (Zo (Zg ZfO (Zb (Za 0) (Zb (Za 6) Ze)))) ZG) (Zh (Zu (Zl (Zc oGt (Za 5) (Zd 8))) (Zo (ZO (Zb (Zc Zf (ZB (Zb (ZF "part") (Zb (ZF "rest") Ze))) (Zc Zai (Za 5) (Zd 9))) (Zb (Za 6) (Zb (Zg Zcb (Zb (Za 0) (Zb (Za 4) Ze))) (Zb (Zg Zeb (Zb (Za 0) Ze)) Ze)))))) ZG) (Zo (ZO (Zb (ZF "set") (Zb (Za 6) (Zb (Zg Zcb (Zb (Za 0) (Zb (Za 4) Ze))) Ze)))))))))))))
def Zfi(F: .y): .y:=Zs 4 (Zht F)
def ZfI(F: .y): Sm:=Zh (Zk 5 (ZB Ze)) (Zh (Zac (ZaM (Zb (Za 4) Ze)) (Zw 6) (Zu (Zl (Zc oGt (Zc Zf (Za 2) (Zd 0)) (Zd 0))) (Zh (ZaE (Zc Zai (Zc Zf (Za 2) (Zd 0)) (Zd 1)) (Za 2) (Zd 0)) (ZN (Zag (Za 5) (Zg (Zfi F) (Zb (Za 0) (Zb (Za 1) (Zb (Za 2) (Zb (Za 3) Ze)))))))) ZG)) (Zo (Za 5)))
def Zdm: Nat-> .y
 | 0=>λ_ _=>none
 | n+1=>Zs 5 (ZfI (Zdm n))
def ZfJ: .y:=Zdm 9
def ZhR: Sm:=Zh (Zk 3 (Zc Zf (ZB (Zb (Zd 0) (Zb (Zd 1) (Zb (Zd 1) (Zb (Zd 0) (Zb (Zd 1) (Zb (Zd 2) (Zb (Zd 1) (Zb (Zd 0) (Zb (Zd 3) (Zb (Zd 1) (Zb (Zd 1) (Zb (Zd 4) Ze))))))))))))) (Zg ZP (Zb (Za 0) (Zb (Zd 12) Ze))))) (Zh (Zk 4 (Zg ZdA (Zb (Zd 4) (Zb (Zg ZdY (Zb (Zd 1) (Zb (Zc ZC (Za 3) (Zg ZP (Zb (Za 0) (Zb (Zd 2) Ze)))) Ze))) Ze)))) (Zh (Zk 5 (Zg ZeU (Zb (Zbo (Zc oLt (Za 4) (Zd 3)) (Zbo (ZdC (Za 2)) (Zc ZA (Zg ZP (Zb (Za 0) (Zb (Zd 2) Ze))) (Zd 1)))) Ze))) (Zh (Zk 6 (Zg ZfJ (Zb (Za 0) (Zb (ZO (Zb (Za 3) (Zb (Za 4) (Zb (Za 1) Ze)))) (Zb (ZB (Zb (Zd 2) (Zb (Za 5) Ze))) (Zb (Zd 1) (Zb (Zg ZP (Zb (Za 0) (Zb (Zd 3) Ze))) Ze))))))) (Zh (Zu (ZR (Zl (Zc oGt (Za 4) (Za 3))) (ZR (Zl (Zc oGt (Zg ZZ (Zb (Za 1) Ze)) (Zd 0))) (ZR (Zl (Zc ZA (Zg ZP (Zb (Za 0) (Zb (Zd 3) Ze))) (Zd 2))) ZJ))) (Zh (Zk 7 (Zg ZP (Zb (Za 0) (Zb (Zg ZZ (Zb (Za 1) Ze)) Ze)))) (ZN (Zag (Za 6) (ZO (Zb (ZF "call") (Zb (Za 4) (Zb (Za 7) (Zb (Z3 (ZaM (Zb (Zc Zf (Za 1) (Za 7)) Ze)) (Zw 100) ZJ (Zg Zcb (Zb (Za 0) (Zb (Za 4) Ze)))) Ze)))))))) ZG) (Zo (ZO (Zb (Za 3) (Zb (Za 4) (Zb (Za 6) Ze)))))))))
def ZfA:=Zs 3 ZhR
def Zik: Sm:=Zh (Zk 2 (Zc Zai (Zg ZP (Zb (Za 0) (Zb (Zd 25) Ze))) (Zd 8))) (Zh (Zk 3 (Zc ZC (Zc ZC (Za 2) (Zd 1)) (Zg ZP (Zb (Za 0) (Zb (Zd 9) Ze))))) (Zh (Zk 4 (Zc ZaI (ZB (Zb (Zd 0) Ze)) (Zc Zai (Za 1) (Zd 1)))) (Zh (Zk 5 (ZB (Zb (ZO (Zb (ZF "set") (Zb (Zd 1) (Zb (Zc ZC (ZB (Zb (Zc ZC (Zd 1) (Zg ZP (Zb (Za 0) (Zb (Zd 2) Ze)))) (Zb (Zd 1) Ze))) (Za 4)) Ze)))) Ze))) (Zh (Zu (ZR (Zl (Zc oGt (Za 1) (Zd 1))) (ZR (Zl (Zc ZA (Zg ZP (Zb (Za 0) (Zb (Zd 2) Ze))) (Zd 1))) ZJ)) (Zk 5 (Zc ZC (ZB (Zb (ZO (Zb (ZF "set") (Zb (Za 1) (Zb (Zg Zcb (Zb (Za 0) (Zb (Za 1) Ze))) Ze)))) Ze)) (Za 5))) ZG) (Zh (Zk 6 (ZO (Zb (ZF "while") (Zb (ZO (Zb (ZF "under") (Zb (Zc ZC (ZB (Zb (ZE Zax (Za 3)) (Zb (Zd 1) Ze))) (Za 4)) Ze))) (Zb (Za 5) Ze))))) (Zh (Zk 7 (ZO (Zb (ZF "under") (Zb (Zc ZC (ZB (Zb (Zc ZC (Zc ZC (Za 3) (Zd 2)) (Zg ZP (Zb (Za 0) (Zb (Zd 5) Ze)))) (Zb (ZE Zax (Zd 1)) Ze))) (Za 4)) Ze)))) (Zh (Zk 8 (ZB (Zb (ZO (Zb (ZF "set") (Zb (Zd 1) (Zb (Zc ZC (ZB (Zb (Zg ZP (Zb (Za 0) (Zb (Zd 3) Ze))) (Zb (Zd 1) Ze))) (Za 4)) Ze)))) (Zb (ZO (Zb (ZF "say") (Zb (Zg Zc3 (Zb (Za 0) (Zb (Za 1) Ze))) Ze))) Ze)))) (Zo (ZB (Zb (ZO (Zb (ZF "set") (Zb (Zd 1) (Zb (Zc ZC (ZB (Zb (Za 2) (Zb (Zd 0) Ze))) (Za 4)) Ze)))) (Zb (Za 6) (Zb (ZO (Zb (ZF "if") (Zb (Za 7) (Zb (ZB (Zb (ZO (Zb (ZF "while") (Zb (Zg Zc3 (Zb (Za 0) (Zb (Za 1) Ze))) (Zb (Za 8) Ze)))) Ze)) (Zb (ZB Ze) Ze))))) Ze))))))))))))
def Zel:=Zs 2 Zik
end L
end
section
namespace PM
open PySem PySem.W PyProof.Rows My
section
variable {U:Lc} {H:Hp} {Q:V->Hp->Prop} {L:List V->Hp->Prop} {o:V->V->Hp->Option (V×Hp)} {f:Ex} {g:Exs} {i j l:Nat} {k:Int} {v w z:V}
theorem ZeK(e:U i=some v)(h:Ok (o v (.int k) H) Q): Ok (Zc o (Za i) (Zd k) U H) Q:=Z6 (Zr e (Zav h))
theorem Zgy(e:U i=some v)(e':U j=some w)(h:Ok (o v w H) Q): Ok (Zc o (Za i) (Za j) U H) Q:=Z6 (Zr e (Zr e' h))
theorem Ztp(h:Ok (f U H) λx M=>Ok (o x (.int k) M) Q): Ok (Zc o f (Zd k) U H) Q:=Z6 (h.mono λ_ _ h=>Zav h)
theorem ZmV(e:U j=some w)(h:Ok (f U H) λx M=>Ok (o x w M) Q): Ok (Zc o f (Za j) U H) Q:=Z6 (h.mono λ_ _ h=>Zr e h)
theorem Zja(e:U i=some v)(h:Ok (f U H) λy M=>Ok (o v y M) Q): Ok (Zc o (Za i) f U H) Q:=Z6 (Zr e h)
theorem Ztq(h:Ok (f U H) λy M=>Ok (o (.int k) y M) Q): Ok (Zc o (Zd k) f U H) Q:=Z6 (Zav h)
theorem ZeL(e:U i=some v)(h:L [v] H): Okl (Zb (Za i) Ze U H) L:=ZX (Zr e (Zan h))
theorem Zjb(h:L [.int k] H): Okl (Zb (Zd k) Ze U H) L:=ZX (Zav (Zan h))
theorem Zgz(h:Ok (f U H) λx M=>L [x] M): Okl (Zb f Ze U H) L:=ZX (h.mono λ_ _ h=>Zan h)
theorem ZrI(e:U i=some v)(h:L [v,.int k] H): Okl (Zb (Za i) (Zb (Zd k) Ze) U H) L:=ZX (Zr e (Zjb h))
theorem Zgd(e:U i=some v)(e':U j=some w)(h:L [v,w] H): Okl (Zb (Za i) (Zb (Za j) Ze) U H) L:=ZX (Zr e (ZeL e' h))
theorem ZrJ(e:U i=some v)(h:Ok (f U H) λx M=>L [v,x] M): Okl (Zb (Za i) (Zb f Ze) U H) L:=ZX (Zr e (Zgz h))
theorem Zqo(e:U i=some v)(e':U j=some w)(e'':U l=some z)(h:L [v,w,z] H): Okl (Zb (Za i) (Zb (Za j) (Zb (Za l) Ze)) U H) L:=ZX (Zr e (Zgd e' e'' h))
theorem Zcm(e:U i=some v)(h:Okl (g U H) λxs M=>L (v::xs) M): Okl (Zb (Za i) g U H) L:=ZX (Zr e h)
theorem Zus(h:Okl (g U H) λxs M=>L (.int k::xs) M): Okl (Zb (Zd k) g U H) L:=ZX (Zav h)
end
end PM
end
section
namespace My
open PySem
variable{l I:Addr}{Q:Value->Shared->Prop}
theorem lri_len: typeLookup (.type "list_reverseiterator") "__len__"=pure none:=by rw[typeLookup_type,builtinLookup_eq_fast];kernel_rfl
theorem lri_hint: typeLookup (.type "list_reverseiterator") "__length_hint__"=pure (some (.builtin "list_reverseiterator.__length_hint__")):=by rw[typeLookup_type,builtinLookup_eq_fast];kernel_rfl
section
variable {prog:Program} {w:World} {A:Around} {E:Value->Shared->Prop} {s:Shared}
theorem hint_rev{it:Addr}{i:Int}{Q:Bool->Shared->Prop}(hit:s.heap.IsRevIter it l i)(h:Q false s): wpAny (model prog w) A (Builtin.List.listLengthHint (.ref it)) Q E s:=by
 unfold Builtin.List.listLengthHint
 refine wpAny_bind (wpAny_specialOf hit.typeIs lri_len ?_)
 refine wpAny_ite_split (λhab=>absurd hab .d) (λ_=>?_)
 refine wpAny_ite_split (λhab=>absurd hab .d) (λ_=>?_)
 refine wpAny_bind (wpAny_specialOf hit.typeIs lri_hint ?_)
 generalize hid:("list_reverseiterator.__length_hint__":String)=id0
 wp_delta
 rw[show splitId id0=some ("list_reverseiterator","__length_hint__")from by subst hid;decide +kernel]
 subst hid
 refine wpAny_bind (wpAny_isInstance (T:="list_reverseiterator") (b:=true) hit.typeIs (by rw[isSubtype_type];kernel_rfl) ?_)
 refine wpAny_ite_split (λhab=>absurd hab .d) (λ_=>?_)
 refine wpAny_ite_split (λ_=>?_) (λhab=>absurd .D hab)
 refine wpAny_ite_split (λhab=>absurd hab .D) (λ_=>?_)
 exact wpAny_pure h
theorem fill_rev{R:Result->Shared->Prop}{items:Array Value}(hh:A.handled=none)(hit:s.heap.IsRevIter I l ((items.size:Int)-1))(hl:s.heap.IsList l items)(hne:l≠I)(hlen:items.size<=2 ^ 24)(S:Addr)(res:Value)(c₀:Nat)(nl:S≠l)
  (at_S:s.heap.get? S=some { cls:=.type "list",data:=.seq #[] c₀ })
  (out:∀g tk acc k,(∀b o,b≠S->b≠I->s.heap.get? b=some o->g.get? b=some o)->g.get? S=some { cls:=.type "list",dict:=none,data:=.seq acc k,slots:=#[] }->ItemsOf (λi v=>items[items.size-1-i]?=some v) acc items.size->R (.ok (.ret res)) { s with heap:=g,toks:=tk }):
  wpAny (model prog w) A.in1 (Builtin.List.listExtendWith (.ref S) (.ref I) res)
   (λfin s'=>match fin with
    | .done f=>R (.ok f) s'
    | .again c'=>c'.quiet=true/\codeAny (model prog w) A c' R s') (λe s'=>R (.error e) s') s:=by
 have ne_I:S≠I:=λe=>by
  obtain⟨o,ho,hc,_⟩:=hit
  rw[<-e,at_S]at ho
  cases ho
  exact absurd (show Value.type "list"=Value.type "list_reverseiterator" from hc) .d
 have off:S∉[I,l]:=λq=>by
  rcases Zz7.mp q with q | q
  ·exact ne_I q
  ·exact nl (Zz9.mp q)
 have W:=Walks.listRev (prog:=prog) (w:=w) (A:=A.in1) hh I l hne items
 unfold Builtin.List.listExtendWith
 refine wpAny_bind (wpAny_typeOf (T:="list_reverseiterator") hit.typeIs ?_)
 have z1:Builtin.List.listSameRef (.ref S) (.ref I)=false:=by simp[Builtin.List.listSameRef,ne_I]
 have z2:(Value.type "list_reverseiterator" == Value.type "list")=false:=by decide
 have z3:(Value.type "list_reverseiterator" == Value.type "tuple")=false:=by decide
 simp only[z1,z2,z3,Bool.or_false,Bool.false_eq_true,if_false]
 refine wpAny_bind (wpAny_pyIter_revIter hit ?_)
 refine wpAny_bind (wpAny_holding (hint_rev hit ?_))
 refine wpAny_ite_split (λhab=>absurd hab .D) (λ_=>?_)
 refine wpAny_pure ⟨plainId_quiet F.plain_extend_loop _,?_⟩
 refine codeAny_extend_loopS W.toS (by rw[sizeLine_eq];omega) S off res items.size 0 _ #[] c₀ rfl (Nat.zero_le _) ⟨Nat.zero_le _,by simpa using hit,hl⟩ at_S (ItemsOf.nil _) λs' acc k' mv at_S'' its=>?_
 rw[Moved.eq_with mv]
 refine out s'.heap s'.toks acc k' (λb o bS bI e=>mv.heap b o (λq=>?_) e) at_S'' its
 rcases Zz7.mp q with q | q
 ·exact bS q
 ·exact bI (Zz9.mp q)
theorem list_rev{items:Array Value}(hh:A.handled=none)(hit:s.heap.IsRevIter I l ((items.size:Int)-1))(hl:s.heap.IsList l items)(hne:l≠I)(hlen:items.size<=2 ^ 24)
  (out:∀g tk acc k,(∀b o,b≠I->s.heap.get? b=some o->g.get? b=some o)->g.get? s.heap.objs.size=some { cls:=.type "list",dict:=none,data:=.seq acc k,slots:=#[] }->ItemsOf (λi v=>items[items.size-1-i]?=some v) acc items.size ->
   Q (.ref s.heap.objs.size) { s with heap:=g,toks:=tk }):
  wpAny (model prog w) A (call (.type "list") [.ref I]) Q E s:=by
 refine callType_codes (Q₁:=λobj s₁=>obj=.ref s.heap.objs.size/\s₁ = { s with heap:=s.heap.push { cls:=.type "list",data:=.seq #[] } }) F.called_list (F.typeCall_list_1 _) F.entry_list_init (code_list_new _ ⟨rfl,rfl⟩) λobj s₁ h₁=>?_
 obtain⟨rfl,rfl⟩:=h₁
 have at_S:(s.heap.push { cls:=.type "list",data:=.seq #[] }).get? s.heap.objs.size=some { cls:=.type "list",data:=.seq #[] }:=Heap.get?_push_size _ rfl
 refine⟨⟨_,at_S,rfl⟩,F.args_list_init_2 _ _,?_⟩
 have lt:∀b o,s.heap.get? b=some o->b≠s.heap.objs.size:=λb o e=>Nat.ne_of_lt (Heap.lt_size e)
 obtain⟨oi,hi,_⟩:=id hit
 obtain⟨ol,hol,_⟩:=id hl
 show wpAny _ _ (do let old <-Builtin.List.listItems (.ref s.heap.objs.size);Builtin.List.listUpdate (.ref s.heap.objs.size) (λ_=>#[]);letGo old.toList.reverse;Builtin.List.listExtendWith (.ref s.heap.objs.size) (.ref I) .none) _ _ _
 refine wpAny_bind ?_;unfold Builtin.List.listItems;refine wpAny_bind (wpAny_seqItems at_S rfl (wpAny_pure ?_))
 show wpAny _ _ (updateSeq s.heap.objs.size (λ_=>#[]) >>= λ_=>letGo (#[]:Array Value).toList.reverse >>= λ_=>Builtin.List.listExtendWith (.ref s.heap.objs.size) (.ref I) .none) _ _ _
 refine wpAny_bind (wpAny_updateSeq at_S rfl ?_)
 have at_S2:=Heap.get?_update_self (Obj.mapSeq (λ_=>(#[]:Array Value))) at_S rfl
 have oth:∀b o,b≠s.heap.objs.size->s.heap.get? b=some o->((s.heap.push { cls:=.type "list",data:=.seq #[] }).update s.heap.objs.size (Obj.mapSeq (λ_=>(#[]:Array Value)))).get? b=some o:=λb o hb e=>(Heap.get?_update_other _ _ (Ne.symm hb)).trans (Heap.get?_push_of_some _ e)
 refine wpAny_bind (wpAny_letGo ?_)
 refine' fill_rev (A:=A.in1) (R:=wants (λr s₂=>r=Value.none/\Q (Value.ref s.heap.objs.size) s₂) E) (I:=I) (l:=l) (items:=items) hh ?_ ?_ hne hlen s.heap.objs.size .none ?k0 ?_ ?k2 λg tk acc k keeps at_g its=>?k3
 case k2=>exact at_S2
 ·exact hit.at λo e=>oth I o (lt I o e) e
 ·exact hl.at λo e=>oth l o (lt l o e) e
 ·exact Ne.symm (lt l ol hol)
 case k3=>exact⟨rfl,out g tk acc k (λb o bI e=>keeps b o (lt b o e) bI (oth b o (lt b o e) e)) at_g its⟩
end
end My
end
section
namespace PM
open PySem PySem.W PySem.Calls PyProof.Rows PyProof
variable{prog:Program}{w:World}{M:Cx}
def ZgY:=ZbK (λvs H=>some (.ref H.length,H++[vs.reverse])) λ_ _=>none
theorem Rep.listAtN{M:Cx}{W:Wd}{U:Lc}{H:Hp}{fr:List (Addr×Obj)}{h h':Heap}{vs:List V}{xs:List Value}{k:Nat}{S:Addr}(r:Rep M W U H fr h)(hS:h.objs.size<=S)(up:∀b o,h.get? b=some o->h'.get? b=some o)(hg:h'.get? S=some (Zat xs k))(hv:VRs W vs xs)(hl:vs.length<=ZK):
  ∃W',W.Le W'/\Rep M W' U (H++[vs]) fr h'/\VR W' (.ref H.length) (.ref S):=by
 obtain⟨r2,ap⟩:=r.more (fs:=[(S,Zat xs k)]) up (λq hq=>by rw[List.mem_singleton.mp hq];exact⟨hg,hS⟩)
 exact Zek r2 (λt ht=>ap _ Zz5 t ht) hv hl
theorem VRs.app{W:Wd}{ws:List V}{ys:List Value}(k:VRs W ws ys): ∀{vs:List V} {xs:List Value},VRs W vs xs->VRs W (vs++ws) (xs++ys)
 | _,_,.nil=>k
 | _,_,.cons a b=>.cons a (VRs.app k b)
theorem VRs.rev{W:Wd}: ∀{vs:List V} {xs:List Value},VRs W vs xs->VRs W vs.reverse xs.reverse
 | _,_,.nil=>.nil
 | _,_,.cons a b=>by
  rw[List.reverse_cons,List.reverse_cons]
  exact VRs.app (.cons a .nil) (VRs.rev b)
theorem J.listRev{x x2:Str}{np pos np2 pos2:Pos}{e:Expr}{es:List Expr}{g:Exs}(hn:Nm prog w M x (.type "list"))(hr:Nm prog w M x2 (.type "reversed"))(h:Js prog w M (e::es) g)
  (he:starEach (e::es) M.env=(false,eval e M.env)::starEach es M.env:=by rfl) (hp:∀pos,(backTo pos (starEach es M.env)).any (·.1)=false:=by intro _;rfl):J prog w M (.Call (.Name x np) [.Call (.Name x2 np2) (e::es) [] pos2] [] pos) (Zg ZgY g):=by
 intro W U H fr s Q E v H' r hf post
 obtain⟨p,e1,hf⟩:=Zz0.mp hf
 refine wpAny_Call_ofName (hn.use r ?_)
 refine PySem.Pv.callWith_type1 (wpAny_items_cons (wpAny_Call_ofName (hr.use r (PySem.Pv.callWith_type1 (h pos2 W U H fr s _ E _ _ r e1 λW1 k1 t1 xs l1 r1 x1=>?_) he (hp pos2)))) rfl) rfl rfl
 obtain⟨vs,H1⟩:=p
 obtain⟨i,us,e0,e2,e3⟩:=Ziv hf
 cases e3
 have e0:vs=[.ref i]:=e0
 subst e0
 obtain⟨y,rfl,ry⟩:=x1.one
 obtain⟨a,rfl,ea⟩:=ry.iref
 obtain⟨hl,ys,k,hg,hv⟩:=r1.at e2 ea
 have isl:(k1:Heap).IsList a ys.toArray:=⟨_,hg,rfl,k,rfl⟩
 have ne:a≠(k1:Heap).objs.size:=Nat.ne_of_lt (Heap.lt_size hg)
 refine call_reversed_list isl (wpAny_items_nil ?_)
 have sz:=hv.length
 refine My.list_rev (I:=(k1:Heap).objs.size) (l:=a) (items:=ys.toArray) M.hh ⟨_,Heap.get?_push_size _ rfl,rfl,rfl⟩ (isl.at λo e=>Heap.get?_push_of_some _ e) ne (by have:us.length<=ZK:=hl;rw[ZD]at this;simp;lia) λg tk acc kk up hg' its=>?_
 have ea':acc=ys.reverse.toArray:=by
  apply Array.ext
  ·simp;exact its.1
  ·intro i h1 h2
   have:=its.2 i acc[i] .s
   simp at this h2 ⊢
   rw[Yy1 .o]at this
   exact(Option.some.inj this).symm
 subst ea'
 obtain⟨W2,l2,r2,v2⟩:=r1.listAtN (S:=_) (by simp[Heap.push]) (λb o e=>up b o (Nat.ne_of_lt (Heap.lt_size e)) (Heap.get?_push_of_some _ e)) hg' hv.rev (by rw[List.length_reverse];exact hl)
 exact post W2 g tk _ (l1.trans l2) r2 v2
end PM
end
section
namespace TM
open PySem PM
theorem rfs_app{H:Hp}{ws:List V}{us:List T}{G:List Nat}(k:RFs H ws us G): ∀{vs:List V} {ts:List T} {F:List Nat},RFs H vs ts F->RFs H (vs++ws) (ts++us) (F++G)
 | _,_,_,.nil=>k
 | _,_,_,.cons a b=>by
  rw[List.cons_append,List.cons_append,List.append_assoc]
  exact .cons a (rfs_app k b)
end TM
end
section
namespace PM
open PySem PySem.W PySem.Calls PyProof.Rows PyProof
variable{b v:V}{i:Nat}{g:List V->V}{H:Hp}{x y:Int}{vs:List V}{d a:Addr}{U:Lc}{fr:List (Addr×Obj)}{h:Heap}{z:Value}{fo:Option (List Str)}{ys:List Value}{pos:Pos}{o:Expr}{f:Ex}
variable{prog:Program}{w:World}{M:Cx}
noncomputable def dI: V->Option Nat
 | .dct i=>some i
 | _=>none
theorem ZlP(h:dI b=some i): b=.dct i:=by cases b <;> cases h;rfl
noncomputable def kV(x y:Int): V:=.tup [.int x,.int y]
def DK(k:V)(vs:List V): Prop:=∃x y,k=kV x y/\(vs=[]∨∃v,vs=[k,v])
open Classical in
noncomputable def Ze7(g:List V->V)(k b:V)(H:Hp): Option (V×Hp):=(dI b).bind λi=>H[i]?.bind λvs=>if DK k vs then some (g vs,H)else none
def Znp: V->V->Hp->Option (V×Hp):=Ze7 λvs=>.bool vs.isEmpty
def Znq: V->V->Hp->Option (V×Hp):=Ze7 λvs=>vs.getD 1 .none
def ZgZ(o e:Ex): Ex:=λU H=>(o U H).bind λp=>(e U p.2).bind λq=>Znq q.1 p.1 q.2
open Classical in
noncomputable def ZeW(b k v:V)(H:Hp): Option Hp:=(dI b).bind λi=>if i≠0/\(∃x y,k=kV x y)/\H[i]?=some []then some (H.set i [k,v])else none
def Zg0(f g k:Ex): Sm:=λU H=>(f U H).bind λp=>(g U p.2).bind λq=>(k U q.2).bind λu=>(ZeW q.1 u.1 p.1 u.2).map λK=>(none,U,K)
noncomputable def ZmW: Ex:=λ_ H=>some (.dct H.length,H++[[]])
theorem Zkj{k:V}{H':Hp}(h:Ze7 g k b H=some (v,H')): ∃i vs,b=.dct i/\H[i]?=some vs/\DK k vs/\v=g vs/\H'=H:=by
 obtain⟨i,e1,h⟩:=Zz0.mp h
 obtain⟨vs,e2,h⟩:=Zz0.mp h
 split at h
 ·rename_i c
  cases h
  exact⟨i,vs,ZlP e1,e2,c,rfl,rfl⟩
 ·cases h
theorem ZiV(e:H[i]?=some vs)(h:vs=[]∨∃v,vs=[kV x y,v]): Ze7 g (kV x y) (.dct i) H=some (g vs,H):=by
 unfold Ze7
 rw[show dI (.dct i)=some i from rfl,Ys0,e,Ys0,if_pos ⟨x,y,rfl,h⟩]
theorem Zqp(i0:i≠0)(e:H[i]?=some []): ZeW (.dct i) (kV x y) v H=some (H.set i [kV x y,v]):=by
 unfold ZeW
 rw[show dI (.dct i)=some i from rfl,Ys0,if_pos ⟨i0,⟨x,y,rfl⟩,e⟩]
section
variable {prog:Program} {w:World} {A:Around} {E:Value->Shared->Prop} {s:Shared} {Q:Value->Shared->Prop}
theorem ZoL{K:Type}[DecidableEq K]{knd:HeapKind prog w K}{k:K}{xs:List (K×Addr×Value)}(hr:knd.room A.in1)(hk:knd.is s.heap k a)(hd:(d == sysModules)=false)(hD:Heap.DictOfH knd s.heap d xs)
  (h:Q (.bool !(atKey xs k).isSome) { s with toks:=s.toks+knd.draws k }):wpAny (model prog w) A (compareOp .NotIn (.ref a) (.ref d)) Q E s:=by
 show wpAny _ _ (contains (.ref d) (.ref a) >>= λc=>pure (.bool !c)) Q E s
 refine wpAny_bind ?_
 refine wpAny_holding ?_
 refine wpAny_bind (wpAny_specialOf hD.typeIs slot_dict_contains.lookup ?_)
 show wpAny _ _ (if(some (Value.builtin "dict.__contains__") == some Value.none)=true then _ else _) _ E s
 rw[if_neg (by rw[beq_builtin_none];exact Bool.false_ne_true)]
 refine wpAny_bind (wpAny_callSpecialUnlessNone?_slot hD.typeIs slot_dict_contains (wpAny_call_entry slot_dict_contains hD.typeIs entry_dict_contains ?_))
 refine wpAny_bind (m:=Builtin.Dict.keyArg _ _) (wpAny_pure ?_)
 dsimp only
 refine wpAny_bind (wpAny_dictGet_heap hr hk hD ?_)
 cases e:atKey xs k with
 | some p=>
  rw[e]at h
  exact wpAny_pure ⟨_,rfl,wpAny_truthy_bool (wpAny_pure h)⟩
 | none=>
  rw[e]at h
  exact wpAny_bind (wpAny_pendingKey_other hd (wpAny_pure ⟨_,rfl,wpAny_truthy_bool (wpAny_pure h)⟩))
end
noncomputable abbrev tK(prog:Program)(w:World): HeapKind prog w (List Int):=tupleKind (intKind prog w)
theorem Rep.key{W:Wd}(r:Rep M W U H fr h)(v:VR W (kV x y) z): ∃a,z=.ref a/\(tK prog w).is h [x,y] a:=by
 cases v with
 | @tup _ a xs k hm _ hv=>
 cases hv with
 | cons h1 hv=>
 cases hv with
 | cons h2 hv=>
 cases hv
 cases h1
 cases h2
 exact⟨a,rfl,_,_,_,r.tupAt hm,rfl,rfl,.cons (by simp[intKind,Value.isInt]) (.cons (by simp[intKind,Value.isInt]) .nil)⟩
theorem Rep.dict{W:Wd}(r:Rep M W U H fr h)(e:H[i]?=some vs)(ea:W.pi[i]?=some d)(hi:(i,none)∈W.ins)(hk:vs=[]∨∃v,vs=[kV x y,v]):
  ∃xs,Heap.DictOfH (tK prog w) h d xs/\xs.length<=1/\(vs=[]/\xs=[]∨∃v b u,vs=[kV x y,v]/\xs=[([x,y],b,u)]/\VR W v u):=by
 have r0:=r
 obtain⟨m,c,led,r⟩:=r
 obtain⟨_,a,od,xs,h1,h2,⟨es,n,eo,fd⟩,h4⟩:=r.R.objs i vs _ e hi
 rw[ea]at h1
 cases h1
 have g:=r.get h2
 rcases hk with hk | ⟨v,hk⟩
 ·rcases fd with⟨_,_,e3⟩ | ⟨_,_,_,_,_,q,_⟩
  ·exact⟨[],⟨od,_,_,g,by rw[eo];exact⟨rfl,rfl,rfl⟩,by rw[eo],by rw[e3];rfl,λ_ h=>(nomatch h),.nil⟩,Nat.zero_le _,.inl ⟨hk,rfl⟩⟩
  ·rw[hk]at q;cases q
 ·rcases fd with⟨q,_⟩ | ⟨x',y',v',b,u,q,ex,e3⟩
  ·rw[hk]at q;cases q
  ·rw[hk]at q h4
   injection q with q1 q2
   injection q1 with q1
   injection q1 with q3 q1
   injection q1 with q4 _
   injection q3 with q3
   injection q4 with q4
   injection q2 with q2 _
   subst q3 q4 q2
   rw[ex]at h4
   cases h4 with
   | cons k1 k2=>
   cases k2 with
   | cons k2 _=>
   obtain⟨a',ea',ka⟩:=r0.key (prog:=prog) (w:=w) k1
   cases ea'
   refine⟨[([x,y],b,u)],⟨od,_,_,g,by rw[eo];exact⟨rfl,rfl,rfl⟩,by rw[eo],by rw[e3];rfl,λt ht=>?_,?_⟩,Nat.le_refl _,.inr ⟨v,b,u,hk,rfl,k2⟩⟩
   ·rw[List.mem_singleton.mp ht];exact ka
   ·exact List.nodup_cons.mpr ⟨λh=>(nomatch h),.nil⟩
theorem Rep.changeD{W:Wd}{h':Heap}{us:List V}{od:Obj}(r:Rep M W U H fr h)(i0:i≠0)(e:H[i]?=some vs)(ea:W.pi[i]?=some a)(hi:(i,fo)∈W.ins)(sb:Heap.SameBut a h h')(ha:h'.get? a=some od)(hD:ZgP od fo us ys)(hv:VRs W us ys)(hl:Ze4 fo us): Rep M W U (H.set i us) fr h':=by
 obtain⟨m,c,led,r⟩:=r
 obtain⟨_,b,o2,xs,h1,h2,h3⟩:=r.R.objs i vs _ e hi
 rw[ea]at h1
 cases h1
 have h2:=r.inLed i0 ea h2
 have hN:=r.N _ h2
 refine r.changedO i0 e ea hi ⟨r.F.ns.sameBut sb (Ne.symm hN.2.1),λb o eb=>sb.extBut b o (λq=>?_) (r.F.keep b o eb),r.F.above⟩ (λq hq=>?_) hD hv hl
 ·subst q
  rw[hN.2.2]at eb
  cases eb
 ·rcases Zz7.mp hq with e | hq
  ·subst e
   exact⟨ha,hN.2⟩
  ·obtain⟨h1,h2⟩:=List.mem_filter.mp hq
   exact⟨sb.extBut _ _ (by simpa using h2) (r.N q h1).1,(r.N q h1).2⟩
theorem ZrK: J prog w M (.Dict [] [] pos) ZmW:=by
 intro W U H fr s Q E v H' r hf post
 cases hf
 obtain⟨m,c,led,r'⟩:=r
 refine wpAny_Dict_empty ?_
 obtain⟨W',l,r2,h1,h2,_⟩:=r'.newIns (fo:=Option.none) (ts:=[]) (dx:=s.heap.objs.size) (r'.F.push _) (News.push r'.F r'.N _) (λq hq=>⟨r'.off q hq,λt ht=>nomatch ht⟩) (λt ht=>nomatch ht) trivial ⟨[],0,rfl,.inl ⟨rfl,rfl,rfl⟩⟩
 have l1:0<M.h₀.objs.size:=Nat.lt_of_le_of_lt (Nat.zero_le _) (Heap.lt_size r'.sc)
 obtain⟨o,_,_,g,_⟩:=r'.F.ns
 exact post W' _ s.toks _ l r2 (.dct h1 h2 (Nat.ne_of_gt (Nat.lt_of_le_of_lt (Nat.le_trans l1 r'.F.above) (Heap.lt_size g))))
theorem ZrL: Op2 prog w (compareOp .NotIn) Znp:=by
 intro M W U H fr s Q E a b x y v H' r hx hy ho post
 obtain⟨i,vs,rfl,e,⟨m,n,rfl,hk⟩,rfl,rfl⟩:=Zkj ho
 obtain⟨z,rfl,kz⟩:=r.key (prog:=prog) (w:=w) hx
 cases hy with
 | @dct _ d h1 h2 h3=>
 obtain⟨xs,D,_,c⟩:=r.dict (prog:=prog) (w:=w) e h1 h2 hk
 have hu:=M.hu
 have hp:=post W s.heap (s.toks+(tK prog w).draws [m,n]) (.bool vs.isEmpty) (.refl W) r (.bool _)
 refine ZoL (tupleKind_room_in1 .l) kz (by simpa [sysModules]using h3) D ?_
 rcases c with⟨rfl,rfl⟩ | ⟨v,b,u,rfl,rfl,_⟩
 ·exact hp
 ·rw[show atKey [([m,n],b,u)] [m,n]=some (b,u)by simp[atKey]]
  exact hp
theorem J.getD{e:Expr}{apos:Pos}{g:Ex}(ho:J prog w M o f)(he:J prog w M e g)(hbase:attributeBase o "get" M.env (eval o M.env)=eval o M.env:=by rfl)
  (hline:(apos.endLine == pos.line)=true:=by rfl) (htrees:backTo pos (starEach [e] M.env)=[(false,eval e M.env)]:=by rfl):J prog w M (.Call (.Attribute o "get" apos) [e] [] pos) (ZgZ f g):=by
 intro W U H fr s Q E v H' r hx post
 obtain⟨⟨b,H1⟩,x1,hx⟩:=Zz0.mp hx
 obtain⟨⟨k,H2⟩,x2,hx⟩:=Zz0.mp hx
 obtain⟨i,vs,eb,e,⟨m,n,ek,hk⟩,rfl,rfl⟩:=Zkj hx
 subst eb ek
 have hu:=M.hu
 refine wpAny_Call_method1_late hbase hline htrees (ho W U H fr s _ E _ _ r x1 λW1 k1 t1 x l1 r1 y1=>?_)
 cases y1 with
 | @dct _ d h1 h2 h3=>
 have tp:(∃ob,k1.get? d=some ob/\ob.cls=.type "dict"/\ob.dict=Option.none):=by
  obtain⟨mm,c,led,r'⟩:=r1
  have hl:=r'.R.inlt _ h2
  obtain⟨_,a,od,xs,g1,g2,⟨es,nn,eo,_⟩,_⟩:=r'.R.objs i _ _ (Yy1 hl) h2
  rw[h1]at g1
  cases g1
  exact⟨od,r'.get g2,by rw[eo],by rw[eo]⟩
 obtain⟨ob,g1,g2,g3⟩:=tp
 refine⟨"dict","dict.get",PySem.F.plainAttrs_dict,PySem.F.slot_dict_get,PySem.F.type_dict_get,⟨ob,g1,g2⟩,λb eb=>by cases eb;exact⟨ob,g1,g3⟩,?_⟩
 refine wpAny_dict_get1_heap (knd:=tK prog w) (tupleKind_room_in1 .l) (by simpa [sysModules]using h3) ?_
 refine he W1 U _ fr _ _ E _ _ r1 x2 λW2 k2 t2 y l2 r2 y2=>?_
 obtain⟨z,ez,kz⟩:=r2.key (prog:=prog) (w:=w) y2
 obtain⟨xs,D,_,c⟩:=r2.dict (prog:=prog) (w:=w) e (l2.piAt h1) (l2.ins _ h2) hk
 refine⟨z,_,xs,ez,kz,D,?_⟩
 rcases c with⟨rfl,rfl⟩ | ⟨v,b,u,rfl,rfl,vu⟩
 ·exact post W2 k2 _ .none (l1.trans l2) r2 .none
 ·rw[show atKey [([m,n],b,u)] [m,n]=some (b,u)by simp[atKey]]
  exact post W2 k2 _ u (l1.trans l2) r2 vu
theorem Zqq: Zjl prog w ZeW:=by
 intro M W U H K fr s Q E v1 v2 v x y z e4 r3 x3 y3 z4 post
 obtain⟨j,dj,e4⟩:=Zz0.mp e4
 split at e4
 case isFalse=>cases e4
 rename_i hc
 obtain⟨j0,⟨m,n,ek⟩,hH⟩:=hc
 cases e4
 rw[ZlP dj]at y3
 have z3:=z4
 rw[ek]at z3
 obtain⟨a,rfl,ka⟩:=r3.key (prog:=prog) (w:=w) z3
 cases y3 with
 | @dct _ d h1 h2 h3=>
 have hu:=M.hu
 obtain⟨xs,D,lx,c⟩:=r3.dict (prog:=prog) (w:=w) (x:=m) (y:=n) hH h1 h2 (.inl rfl)
 refine wpAny_setItem_heap (tupleKind_room_in1 .l) ka D (λh' D' sb=>?_) (by have:sizeLine=2 ^ 24:=rfl;lia)
 rcases c with⟨_,rfl⟩ | ⟨_,_,_,q,_⟩
 case inr=>cases q
 obtain⟨od,es,ep,g1,g2,g3,g4,_⟩:=D'
 have eo:od = { cls:=.type "dict",data:=.dict es.toList.toArray ep }:=by
  obtain⟨c1,c2,c3,c4⟩:=od
  obtain⟨g5,g6,g7⟩:=g2
  simp only at g3 g5 g6 g7
  rw[g3,g5,g6,g7,Array.toArray_toList]
 exact post h' _ (r3.changeD j0 hH h1 h2 sb g1 ⟨es.toList,ep,eo,.inr ⟨m,n,_,a,x,by rw[ek];rfl,rfl,g4⟩⟩ (.cons z4 (.cons x3 .nil)) trivial)
theorem ZrM{i value:Expr}{pos':Pos}{g k:Ex}(hf:J prog w M value f)(ho:J prog w M o g)(hi:J prog w M i k)(hs:swapsWith value (some (.Subscript o i pos')) pos.line M.env=pure false:=by rfl): S1 prog w M (.Assign [.Subscript o i pos'] value pos) (Zg0 f g k):=Zlw Zqq hf ho hi hs
end PM
end
section
namespace PM
open PySem PySem.W PySem.Calls PyProof.Rows PyProof
variable{prog:Program}{w:World}{M:Cx}
noncomputable def rI: List V->Option Nat
 | [.ref i]=>some i
 | _=>none
theorem ZrN{vs:List V}{i:Nat}(h:rI vs=some i): vs=[.ref i]:=by
 unfold rI at h
 split at h
 ·cases h;rfl
 ·cases h
noncomputable def ZeX(a n:Nat): Nx:=λi H=>H[a]?.bind λvs=>if vs.length=n then some (if i<n then vs[n-1-i]? else none)else none
def Zhf(g:Exs): Src:=λU H=>(g U H).bind λp=>(rI p.1).bind λa=>p.2[a]?.map λvs=>(ZeX a vs.length,vs.length+1,p.2)
theorem JI.rev{x:Str}{np pos:Pos}{e:Expr}{es:List Expr}{g:Exs}(hn:Nm prog w M x (.type "reversed"))(h:Js prog w M (e::es) g)(he:starEach (e::es) M.env=(false,eval e M.env)::starEach es M.env:=by rfl)(hp:∀pos,(backTo pos (starEach es M.env)).any (·.1)=false:=by intro _;rfl): JI prog w M (.Call (.Name x np) (e::es) [] pos) (Zhf g):=by
 intro W U H fr s Q E nx n H' r hf post
 right
 obtain⟨⟨vs,H1⟩,e1,hf⟩:=Zz0.mp hf
 obtain⟨j,ej,hf⟩:=Zz0.mp hf
 obtain⟨us,e2,e3⟩:=Zz1.mp hf
 left
 cases e3
 have ej:=ZrN ej
 subst ej
 refine wpAny_Call_ofName (hn.use r (PySem.Pv.callWith_type1 (h pos W U H fr s _ E _ _ r e1 λW1 k1 t1 xs l1 r1 x1=>?_) he (hp pos)))
 obtain⟨y,ey,ry⟩:=x1.one
 subst ey
 cases ry with
 | @ref _ a ea=>
 obtain⟨hl,ys,k,hg,hv⟩:=r1.at e2 ea
 have isl:(k1:Heap).IsList a ys.toArray:=⟨_,hg,rfl,k,rfl⟩
 refine call_reversed_list isl ?_
 have ln:((ys.toArray.size:Nat):Int)=(us.length:Nat):=by simp[hv.length]
 rw[ln]
 refine wpAny_pyIter_revIter (it:=k1.objs.size) (l:=a) (i:=(us.length:Int)-1) ⟨_,Heap.get?_push_size _ rfl,rfl,rfl⟩ ?_
 obtain⟨r2,ap⟩:=r1.more (fs:=[(k1.objs.size,revObj a ((us.length:Int)-1))]) (λb o e=>Heap.get?_push_of_some (revObj a ((us.length:Int)-1)) e) (λq hq=>by rw[List.mem_singleton.mp hq];exact⟨Heap.get?_push_size _ rfl,Nat.le_refl _⟩)
 refine post W1 _ t1 _ [k1.objs.size] _ _ l1 ⟨_,rfl,?_⟩ r2 (λb hb t ht=>by rw[List.mem_singleton.mp hb];exact ap _ Zz5 t ht)
   (Zgu (λi ob=>i<=us.length/\∀h:Heap,h.get? k1.objs.size=some ob->h.IsRevIter k1.objs.size a ((us.length:Int)-1-i)) ?_ ?_)
 ·intro i W U H fr ob s Q E o le r hp hn post
  obtain⟨vs,ev,hn⟩:=Zz0.mp hn
  split at hn
  case isFalse=>cases hn
  rename_i lv
  cases hn
  obtain⟨hl2,zs,k2,hg2,hv2⟩:=r.at ev (le.at ea)
  have g1:=hp.2 s.heap (r.frAt Zz5)
  have g2:s.heap.IsList a zs.toArray:=⟨_,hg2,rfl,k2,rfl⟩
  by_cases hi:i<us.length
  ·rw[if_pos hi]at post
   obtain⟨v,hv3⟩:∃v,vs[us.length-1-i]?=some v:=⟨_,Yy1 .o⟩
   rw[hv3]at post
   obtain⟨y,hy,ry⟩:=hv2.at hv3
   rw[show(us.length:Int)-1-i=((us.length-1-i:Nat):Int)by omega]at g1
   refine wpAny_pyNext_rev_item g1 g2 (x:=y) (by simpa using hy) λh' hit' hs'=>?_
   have hit2:=hit'
   obtain⟨ob',h1,h2⟩:=hit'
   refine post ob' h' s.toks y ⟨.l,λh'' e=>?_⟩ h1 (λb o hb e=>hs'.extBut b o hb e) ry
   rw[show(us.length:Int)-1-((i+1:Nat):Int)=((us.length-1-i:Nat):Int)-1 by lia]
   exact⟨ob',e,h2⟩
  ·rw[if_neg hi]at post
   rw[show(us.length:Int)-1-i = -1 by have:=hp.1;lia]at g1
   exact wpAny_pyNext_rev_end M.hh g1 λh' he'=>post h' s.toks λb o hb e=>he' b o hb e
 ·intro i W U H fr ob s Q E le r hp q
  exact wpAny_pyIter_revIter (hp.2 s.heap (r.frAt Zz5)) q
 ·exact⟨Nat.zero_le _,λh e=>⟨_,e,rfl,by simp[revObj]⟩⟩
end PM
end
section
namespace PM
open PySem PySem.W PySem.Calls PyProof.Rows PyProof PySem.Spec
variable{e elt iter:Expr}{es ifs:List Expr}{f:Ex}{g:Src}{n t i:Nat}{pos px:Pos}{x:Str}{scope:Scope}{cl:List (Str×Addr)}{c:Ts}{v:Value}{o: .y}{names:List Str}
variable{prog:Program}{w:World}{M:Cx}
noncomputable def ZgA: Expr->Bool
 | .Starred _ _=>true
 | _=>false
theorem Zjp{env:Env}(h:ZgA e=false): starEach (e::es) env=(false,eval e env)::starEach es env:=by
 cases e <;> first | rfl | cases h
def ZgB: List Expr->Bool
 | []=>true
 | e::es=>!ZgA e && ZgB es
theorem Znr{env:Env}: ∀{es:List Expr} (pos:Pos),ZgB es=true->(backTo pos (starEach es env)).any (·.1)=false
 | [],pos,_=>by rfl
 | e::es,pos,h=>by
  simp only[ZgB,Bool.and_eq_true,Bool.not_eq_true']at h
  have ih:=Znr (env:=env) (es:=es) pos h.2
  rw[Zjp h.1]
  unfold backTo at ih ⊢
  simp only[List.map_cons,List.any_cons,Bool.false_or]
  exact ih
theorem jc{g:Exs}(h1:J prog w M e f)(h2:Js prog w M es g)(hs:ZgA e=false:=by exact rfl): Js prog w M (e::es) (Zb f g):=ZqX h1 h2 (Zjp hs)
section
variable {prog:Program} {w:World} {K:Frag} {p:Program} {loose:List Str} {mean:ExcName->Option Value} {mg mb:Str->Option Value}
theorem ZfS{f:Addr}{room:Nat}: Def prog w K p loose mean mg mb f room (λ_ _=>none):=by
 intro M dp un clr hd hu W U H fr s Q E as xs v H' r hx hF post
 cases hF
end
def Cur{d:Type _}(n:Nat)(P:List d->Prop): Prop:=∀xs:List d,xs.length=n->P xs
theorem cur_s{d:Type _}{P:List d->Prop}(h:∀x,Cur n λxs=>P (x::xs)): Cur (n+1) P
 | [],e=>nomatch e
 | x::xs,e=>h x xs (Nat.succ.inj e)
theorem ZcD{d:Type _}{P:List d->Prop}(h:P []): Cur 0 P:=λ_ e=>List.eq_nil_of_length_eq_zero e▸h
theorem jI{k:Int}: J prog w M (.Constant (.int k) n pos) (Zd k):=J.int _ _ _
theorem jN: J prog w M (.Constant .none n pos) Z9:=J.none _ _
theorem jB{b:Bool}: J prog w M (.Constant (.bool b) n pos) (ZaT b):=J.bool _ _ _
theorem jS: J prog w M (.Constant (.str x) n pos) (ZF x):=J.str _ _ _
theorem cO(hg:JI prog w M iter g)(hel:∀C U,J prog w (Zaz M scope cl C [(x,t)] U) elt f)(hif:∀C U,JF prog w (Zaz M scope cl C [(x,t)] U) ifs c)
  (hclos:closureFor scope M.env=pure cl:=by with_unfolding_all rfl) (hcell:∀y∈scope.names,y.2≠.cell:=by decide) (hkind:scope.kind=.function:=by exact rfl) (hnames:∀y∈scope.names,y.2=.local->scope.names.lookup y.1=some .local:=by decide) (hx:scope.names.lookup x=some .local:=by exact rfl) (hs:∀x,foldedSetIterable iter M.env x=pure x:=by intro _;rfl):
  J prog w M (.ListComp elt [⟨.Name x px,iter,ifs,0⟩] scope pos) (Z3 g (Zw t) c f):=J.comp hg hel hif hclos hcell hkind hnames hx hs
theorem cT{d:Str}{px₂ tp:Pos}{kt:Nat}{t₂:Nat}(hg:JI2 prog w M iter g)(hel:∀C U,J prog w (Zaz M scope cl C [(x,t),(d,t₂)] U) elt f)
  (hclos:closureFor scope M.env=pure cl:=by with_unfolding_all rfl) (hcell:∀y∈scope.names,y.2≠.cell:=by decide) (hkind:scope.kind=.function:=by exact rfl) (hnames:∀y∈scope.names,y.2=.local->scope.names.lookup y.1=some .local:=by decide) (hx:scope.names.lookup x=some .local:=by exact rfl) (hx₂:scope.names.lookup d=some .local:=by exact rfl) (hxx:x≠d:=by decide) (htt:t≠t₂:=by decide) (hs:∀x,foldedSetIterable iter M.env x=pure x:=by intro _;rfl):
  J prog w M (.ListComp elt [⟨.Tuple [.Name x px,.Name d px₂] kt tp,iter,[],0⟩] scope pos) (Z3 g (ZcZ t t₂) ZJ f):=Zq7 hg hel hclos hcell hkind hnames hx hx₂ hxx htt hs
theorem sO{y:Str}{py spos:Pos}(hy:Sto prog w M y i)(hg:JI prog w M iter g)(hel:∀C U,J prog w (Zaz M scope cl C [(x,t)] U) elt f)(hif:∀C U,JF prog w (Zaz M scope cl C [(x,t)] U) ifs c)
  (hsw:swapsWith (.ListComp elt [⟨.Name x px,iter,ifs,0⟩] scope pos) (some (.Name y py)) spos.line M.env=pure true:=by rfl)
  (hclos:closureFor scope M.env=pure cl:=by with_unfolding_all rfl) (hcell:∀y∈scope.names,y.2≠.cell:=by decide) (hkind:scope.kind=.function:=by exact rfl) (hnames:∀y∈scope.names,y.2=.local->scope.names.lookup y.1=some .local:=by decide) (hx:scope.names.lookup x=some .local:=by exact rfl) (hs:∀x,foldedSetIterable iter M.env x=pure x:=by intro _;rfl):
  S1 prog w M (.Assign [.Name y py] (.ListComp elt [⟨.Name x px,iter,ifs,0⟩] scope pos) spos) (Zk i (Z3 g (Zw t) c f)):=ZoE hy hg hel hif hsw hclos hcell hkind hnames hx hs
section
variable {prog:Program} {w:World} {dp un:Nat} {gd:Option (List Code)} {cn:Str} {cs:Scope} {L a:Addr} {ccd:Value} {cl:List (Str×Addr)} {outer:List Env} {h₀:Heap} {hu:un+200<cLine} {names:List Str}
theorem vL(hi:names[i]?=some x:=by rfl)(hx:cs.names.lookup x=some .local:=by exact rfl)(hk:cs.kind=.function:=by exact rfl)(hd:(x == ("__debug__":Str))=false:=by exact rfl): J prog w (ZaY dp un gd cn cs L a ccd cl outer h₀ hu names) (.Name x pos) (Za i):=ZgS (ZsE hi hx hk hd)
theorem vC(hi:names[i]?=some x:=by rfl)(hx:cs.names.lookup x=some .cell:=by exact rfl)(hk:cs.kind=.function:=by exact rfl)(hd:(x == ("__debug__":Str))=false:=by exact rfl): J prog w (ZaY dp un gd cn cs L a ccd cl outer h₀ hu names) (.Name x pos) (Za i):=ZgS (ZsF hi hx hk hd)
theorem sL(nd:names.Nodup:=by decide)(hi:names[i]?=some x:=by rfl)(hx:cs.names.lookup x=some .local:=by exact rfl)(hk:cs.kind=.function:=by exact rfl): Sto prog w (ZaY dp un gd cn cs L a ccd cl outer h₀ hu names) x i:=Zq2 nd hi hx hk
theorem sC(nd:names.Nodup:=by decide)(hi:names[i]?=some x:=by rfl)(hx:cs.names.lookup x=some .cell:=by exact rfl)(hk:cs.kind=.function:=by exact rfl)(hcl:(cl.lookup x).isSome=true:=by exact rfl): Sto prog w (ZaY dp un gd cn cs L a ccd cl outer h₀ hu names) x i:=Zq3 nd hi hx hk hcl
end
section
variable {prog:Program} {w:World} {K:Frag} {p:Program} {loose:List Str} {mean:ExcName->Option Value} {mg mb:Str->Option Value} {M:Cx} {dp un:Nat}
theorem nB(clr:Clr K p loose mean mg mb M dp un)(e:nsIn K mainGlobals x=some Option.none:=by k_is)(hv:bootBuiltins x=some v:=by boot_by_name)(hn:x≠"__name__":=by decide)(hg:M.env.globals=mainGlobals:=by exact rfl)(hb:M.env.builtins=builtinsNs:=by exact rfl)(hk:M.env.scope.kind=.function:=by exact rfl)(hx:M.env.kindOf x=some .globalImplicit:=by exact rfl)(hd:(x == ("__debug__":Str))=false:=by exact rfl): Nm prog w M x v:=Zp2 clr e hv hn hg hb hk hx hd
theorem cF{np:Pos}{f:Addr}{room:Nat}{g:Exs}(clr:Clr K p loose mean mg mb M dp un)(D:Def prog w K p loose mean mg mb f room o)(h:Js prog w M (e::es) g)
  (en:nsIn K mainGlobals x=some (some (.ref f)):=by k_is) (hg:M.env.globals=mainGlobals:=by exact rfl) (hk:M.env.scope.kind=.function:=by exact rfl) (hx:M.env.kindOf x=some .globalImplicit:=by exact rfl) (hd0:(x == ("__debug__":Str))=false:=by exact rfl)
  (hkeep:keepIn K (.ref f)=true:=by k_is) (hd:dp+room<recursionLimit:=by omega) (hu:un+10*room+300<cLine:=by omega)
  (he:ZgA e=false:=by exact rfl) (hp:ZgB es=true:=by exact rfl):J prog w M (.Call (.Name x np) (e::es) [] pos) (Zg o g):=ZiO clr (ZeE clr en hg hk hx hd0) hkeep D hd hu h (Zjp he) (λpos=>Znr pos hp)
theorem ZV{name qual:Str}{params:Arguments}{body:List Stmt}{dV kV doc pm cdv ct oc:Value}{an od:Option Addr}{osl:Array (Option Value)}{f:Addr}{room:Nat}{g:Sm}
  (hbody:∀(dp un:Nat) (gd:Option (List Code)) (L:Addr) (outer:List Env) (h₀:Heap) (hu:un+200<cLine),Clr K p loose mean mg mb (ZaY dp un gd qual scope L f cdv (cellsFrom (L+1) scope.names []) outer h₀ hu names) dp un->dp+room<recursionLimit->un+10*room+300<cLine ->
   Ss prog w (ZaY dp un gd qual scope L f cdv (cellsFrom (L+1) scope.names []) outer h₀ hu names) body g)
  (ho:K.lookup f=some ⟨oc,od,.func (fnOf name qual params body scope dV kV doc pm an cdv ct),osl⟩:=by k_is) (hcd:codeIn K cdv qual=true:=by k_is) (nd:names.Nodup:=by decide) (hn:n<=names.length:=by decide)
  (hbind:∀s,Cur n λxs=>BindsTo s (fnOf name qual params body scope dV kV doc pm an cdv ct) ⟨xs,[]⟩ ((names.take n).zip xs):=by intro s;(repeat refine cur_s λ_=>?_);exact ZcD (BindsTo.of_eq rfl)) (hkinds:∀x∈names.take n,scope.names.lookup x=some .local∨scope.names.lookup x=some .cell:=by decide) (hone:((cellsFrom 0 scope.names []).map (·.1)).Nodup:=by decide +kernel)
  (hco:scope.isCoroutine=false:=by exact rfl) (hgen:scope.isGenerator=false:=by exact rfl) (hk:scope.kind=.function:=by exact rfl):
  Def prog w K p loose mean mg mb f (room+1) (Zs n g):=Def.of ho hcd nd hn hbind hkinds hone hco hgen hk hbody
end
section
variable {prog:Program} {w:World} {M:Cx} {scope:Scope} {cl:List (Str×Addr)} {C:Addr} {ts:List (Str×Nat)} {ρ0:Lc}
theorem vO(hm:(x,t)∈ts:=by first | exact Zz5 | exact Zz2 _ Zz5)(hk:scope.kind=.function:=by exact rfl)(hl:(compEnvC scope cl C M.env).kindOf x=some .local:=by exact rfl)(hd:(x == ("__debug__":Str))=false:=by exact rfl): J prog w (Zaz M scope cl C ts ρ0) (.Name x pos) (Za t):=ZgS (Zq9 hm hk hl hd)
end
section
variable {prog:Program} {w:World} {dp un:Nat} {gd:Option (List Code)} {cn:Str} {cs:Scope} {L a:Addr} {ccd:Value} {clf:List (Str×Addr)} {outer:List Env} {h₀:Heap} {hu:un+200<cLine} {names:List Str} {scope:Scope} {cl:List (Str×Addr)} {C:Addr} {ts:List (Str×Nat)} {ρ0:Lc}
theorem vD(hi:names[i]?=some x:=by rfl)(hx:cs.names.lookup x=some .cell:=by exact rfl)(hne:∀p∈ts,p.2≠i:=by decide)(hcl:cl.lookup x=clf.lookup x:=by exact rfl)(hk:scope.kind=.function:=by exact rfl)(hl:(compEnvC scope cl C (envX cn cs L a ccd clf)).kindOf x=some .cell:=by exact rfl)(hd:(x == ("__debug__":Str))=false:=by exact rfl):
  J prog w (Zaz (ZaY dp un gd cn cs L a ccd clf outer h₀ hu names) scope cl C ts ρ0) (.Name x pos) (Za i):=ZgS (Zra hi hx hne hcl hk hl hd)
end
end PM
end
section
open PySem PM TM
namespace L
def Layer_c: Nat×List Str:=(136,["rows","used"])
def Runner_c: Nat×List Str:=(254,["program","ways_on","picks","used","waiting","moment"])
def Zhl: Sm:=Zo (Zc Zf (Zc Zf (ZE (Z8 (Runner_c) 1) (Za 0)) (Zc Zf (ZE (Z8 (Runner_c) 5) (Za 0)) (Zd 0))) (Zc Zf (ZE (Z8 (Runner_c) 5) (Za 0)) (Zd 1)))
def Zd6: .y:=Zs 1 Zhl
def Zhm: Sm:=Zh (Zu (Zl (Zc oNe (Zc Zf (Za 1) (Zd 0)) (ZF "any"))) (Zo (Zd 0)) ZG) (Zh (Zap (Runner_c) 3 (Zc ZC (ZE (Z8 (Runner_c) 3) (Za 0)) (Zd 1)) (Za 0)) (Zh (Zu (Zl (Zc oGt (ZE (Z8 (Runner_c) 3) (Za 0)) (Zg ZZ (Zb (ZE (Z8 (Runner_c) 2) (Za 0)) Ze)))) (Zo (Zd 0)) ZG) (Zo (Zc Zf (ZE (Z8 (Runner_c) 2) (Za 0)) (Zc Zai (ZE (Z8 (Runner_c) 3) (Za 0)) (Zd 1))))))
def Zfd: .y:=Zs 2 Zhm
def ZhA: Sm:=Zo (Zbo (Zc ZA (Zg ZZ (Zb (Z1 (Runner_c) Zd6 (Za 0) Ze) Ze)) (Zd 0)) (Zc ZA (Zg ZZ (Zb (ZE (Z8 (Runner_c) 4) (Za 0)) Ze)) (Zd 0)))
def Zec: .y:=Zs 1 ZhA
def ZhB: Sm:=Zh (Zap (Layer_c) 0 (ZB Ze) (Za 0)) (Zap (Layer_c) 1 (Zd 0) (Za 0))
def Zfm: .y:=Zs 1 ZhB
def Zh0: Sm:=ZN (Zag (ZE (Z8 (Layer_c) 0) (Za 0)) (ZO (Zb (Za 1) (Zb (Za 2) (Zb (Za 3) Ze)))))
def Zdn: .y:=Zs 4 Zh0
def Zhu: Sm:=Zh (Zap (Layer_c) 1 (Zc ZC (ZE (Z8 (Layer_c) 1) (Za 0)) (Zd 1)) (Za 0)) (Zh (ZN (Z1 (Layer_c) Zdn (Za 0) (Zb (Za 1) (Zb (Za 2) (Zb (ZE (Z8 (Layer_c) 1) (Za 0)) Ze))))) (Zo (ZE (Z8 (Layer_c) 1) (Za 0))))
def ZbW: .y:=Zs 3 Zhu
def Zic: Sm:=Zh (Zk 3 (Zc Zf (Z3 (ZQ (Zc Zf (Za 0) (Zc Zf (Za 1) (Zd 0)))) (Zw 100) (Zl (Zc ZA (Zc Zf (Za 100) (Zd 0)) (Zc Zf (Za 1) (Zd 1)))) (Za 100)) (Zd 0))) (Zh (ZaE (Za 2) (Zc Zf (Za 1) (Zd 2)) (Zc Zai (Zc Zf (Zc Zf (Za 3) (Zd 1)) (Zd 1)) (Zd 1))) (ZaE (Zc Zf (Za 3) (Zd 2)) (Za 1) (Zd 1)))
def Zei: .y:=Zs 3 Zic
def Zhv: Sm:=Zh (Zk 1 (ZB Ze)) (Zh (Zac (ZaM (Zb (Zg ZZ (Zb (Za 0) Ze)) Ze)) (Zw 2) (Zac (ZQ (Zc Zf (Za 0) (Za 2))) (Zw 3) (Zu (Zl (Zc ZA (Zc Zf (Zc Zf (Za 3) (Zd 1)) (Zd 0)) (ZF "say"))) (ZN (Zag (Za 1) (ZO (Zb (Za 2) (Zb (Zc Zf (Za 3) (Zd 0)) Ze))))) ZG))) (Zo (Za 1)))
def Zfj: .y:=Zs 1 Zhv
end L
end
section
open PySem PySem.W PyProof.Rows PM TM My
variable{A F G Fa Fp ps F1 F3 F6:List Nat}{H K M X K' H1 K1:Hp}{a m i j n pp k k' f g:Nat}{vs us rv qv cvs tvs:List V}{v va vc vp vw v1 v3 v6:V}{t c act th tq tw:T}{B U:Lc}{C vf: .y}{Q R:V->Hp->Prop}{s:Option Int×Option Int}{z x b u h p q e e' ea steps:Int}{d:Type}{P P':Nat->Prop}{ts r as l ys fs sums tas ra fns rest:List T}{y:Int×T}{w wd:Str}{bs gv ss ks bs' ms ns:List Int}{lo hi:Option Int}{o:Option (List Int)}{nx:Nx}{fn:Nat-> .y}{rs:List (List T)}{acc cs tt ls:List (List Int)}{L':T->Int->List T->Int->Prop}{sig:Nat->Nat×Nat}{qs:List (Nat×Nat)}{N:Lc->Hp->Prop}{st:List (Option Int×Option Int)}{Z:List Int->Bool}
local macro_rules|`(tactic|walk_at "rd")=>`(tactic|first | exact rfl | (with_reducible assumption) | ((with_reducible apply ZaN); decide; walk_at "rd"))
local macro_rules|`(tactic|walk_at "at")=>`(tactic|first | (with_reducible assumption) | (with_reducible exact Zv _ _) | ((with_reducible apply Zz); walk_at "at") | ((with_reducible apply ZW); walk_at "at"))
local macro_rules|`(tactic|walk_at "ext")=>`(tactic|first | (with_reducible exact Ztf) | (with_reducible exact ⟨_, rfl⟩) | ((with_reducible apply Zte); walk_at "ext"))
local macro_rules|`(tactic|walk_at "yes")=>`(tactic|first | rfl | (with_reducible assumption) | (simp only [Bool.not_eq_true', Bool.not_eq_false', decide_eq_true_eq, decide_eq_false_iff_not, beq_iff_eq, beq_eq_false_iff_ne, ne_eq, List.length_map, Bool.not_true, Bool.not_false, not_false_eq_true, not_true_eq_false, bne_iff_ne] <;> first | done | omega | assumption))
local macro_rules|`(tactic|walk_at "ok call")=>`(tactic|fail "")
def okC(c:Char):Lean.MacroM (Lean.TSyntax `tactic):= if c='A' then `(tactic|walk_at "at") else if c='D' then `(tactic|(first | decide | omega)) else if c='F' then `(tactic|(first | rfl | (with_reducible assumption))) else if c='K' then `(tactic|decide +kernel) else if c='L' then `(tactic|rfl) else if c='N' then `(tactic|exact Nat.le_of_ble_eq_true rfl) else if c='O' then `(tactic|omega) else if c='R' then `(tactic|walk_at "rd") else if c='S' then `(tactic|with_reducible assumption) else if c='Y' then `(tactic|walk_at "yes") else `(tactic|(rw [ZD]; simp; omega))
def okW(s:String):Lean.MacroM (Array (Lean.TSyntax `tactic)):=do
 let mut k:Array (Lean.TSyntax `tactic):= #[]
 let mut r:Array (Lean.TSyntax `tactic):= #[]
 for x in s.splitOn " " do
  if x.front=':' then k←(x.toList.drop 1).toArray.mapM okC else
   let i:=Lean.mkIdent (.mkSimple x)
   r:=r.push (← if k.isEmpty then `(tactic|with_reducible refine $i ?_) else `(tactic|((with_reducible apply $i);($[$k:tactic];*))))
 return r
local macro_rules|`(tactic|walk_at "ok op")=>do
 let a1←okW "ZmG Zi8 Zs7 Zrx Znj Znk Zuj Zs8 Zs9 ZmJ ZgU Zuk Zta Zi9 ZmK Ztb ZmL ZlF ZlG Zuo Zth :A Ztc :ADO Zch :ADF ZbS :DF Zbe :A Ztd Zqa :D ZmH :DD ZmI :S ZeI :DD ZlH :A ZmO :ADD ZmM :KK Zgx :AAZ ZbM"
 `(tactic|first $[|$a1:tactic]*)
local macro_rules|`(tactic|walk_at "ok")=>do
 let a1←okW ":RK wk_wt wk_wf wk_waf :R ZeK :RR Zgy : Ztp :R ZmV Zja : Ztq :R ZrI :RRR Zqo :RR Zgd :R ZeL : Zjb :R ZrJ : Zgz :R Zcm : Zus Z6 Zuh ZX Zi7 ZcN ZmC ZmD Zay Zih ZbY ZaD ZiP Zbl Ziy Zcg ZeG Zaq Zbm Za3 Zbd Zgw Zae ZaS ZbR Zs6 Zrv ZlE ZdN Zqb ZaR Zav Zcw Zeu ZeF Zan :R Zr :Y Za7 ZaV :L Z7"
 let a2←okW ":N ZeH :A ZcU : ZmE :O Znl :AA Zui :A ZmF Zrw Zda"
 `(tactic|first $[|$a1:tactic]* | walk_at "ok op" $[|$a2:tactic]*)
local macro_rules|`(tactic|walk_at "rds")=>`(tactic|repeat' (first | walk_at "rd" | (refine ⟨by walk_at "rd", ?_⟩)))
local macro_rules|`(tactic|fail)=>`(tactic|walk_at "ok")
local macro_rules|`(.w)=>`((by walk_at "rd"))
set_option hygiene false in
local macro_rules|`(tactic|walk_at "p")=>`(tactic|((show let PP:=_;Ok _ PP);intro PP))
namespace L
def Exq(A:List Nat)(H K:Hp): Prop:=H.length<=K.length/\∀a,a<H.length->a∉A->K[a]?=H[a]?
structure Tp(p q:Nat)(ns:List Int)(K:Hp): Prop where
 at_:∃k:Nat,K[p]?=some [.ref q,.int k]
 cells:K[q]?=some (ns.map V.int)
 pq:p≠q
 p0:p≠0
 hl:ns.length<=200
theorem Exq.refl: Exq A H H:=⟨Zz10 _,λ_ _ _=>rfl⟩
theorem Exq.trans(a:Exq A H K)(b:Exq A K M): Exq A H M:=⟨Nat.le_trans a.1 b.1,λx h n=>(b.2 x (Nat.lt_of_lt_of_le h a.1) n).trans (a.2 x h n)⟩
theorem Exq.app(a:Exq A H K): Exq A H (K++X):=⟨Nat.le_trans a.1 .s,λx h n=>(Yy0 (Nat.lt_of_lt_of_le h a.1)).trans (a.2 x h n)⟩
section
variable {p q:Nat} {ns:List Int} {K:Hp}
theorem Tp.lt(t:Tp p q ns K): p<K.length:=by obtain⟨k,e⟩:=t.at_;exact(Zz6.mp e).1
theorem Tp.ex(t:Tp p q ns K)(e:Exq [] K K'): Tp p q ns K':=by
 obtain⟨k,h⟩:=t.at_
 exact⟨⟨k,(e.2 p t.lt .s).trans h⟩,(e.2 q (Zz6.mp t.cells).1 .s).trans t.cells,t.pq,t.p0,t.hl⟩
structure Ws(p q:Nat)(ns:List Int)(H K:Hp): Prop where
 ex:Exq [p] H K
 tp:Tp p q ns K
 lp:p<H.length
 lq:q<H.length
theorem Tp.lq(t:Tp p q ns K): q<K.length:=(Zz6.mp t.cells).1
theorem Tp.ws(t:Tp p q ns K): Ws p q ns K K:=⟨Exq.refl,t,t.lt,t.lq⟩
theorem Ws.app(w:Ws p q ns H K): Ws p q ns H (K++X):=⟨w.ex.app,w.tp.ex Exq.refl.app,w.lp,w.lq⟩
theorem Ws.trans(w:Ws p q ns H K)(u:Ws p q ns K M): Ws p q ns H M:=⟨w.ex.trans u.ex,u.tp,w.lp,w.lq⟩
theorem Ws.set(w:Ws p q ns H K)(h:H.length<=a): Ws p q ns H (K.set a vs):=by
 obtain⟨x,⟨⟨k,e⟩,c,r1,r2,r3⟩,l1,l2⟩:=w
 exact⟨⟨by rw[List.length_set];exact x.1,λb hb n=>by rw[Yy2 .l];exact x.2 b hb n⟩,⟨⟨k,by rw[Yy2 .l];exact e⟩,by rw[Yy2 .l];exact c,r1,r2,r3⟩,l1,l2⟩
theorem Ws.at(w:Ws p q ns H K)(n:a≠p)(e:H[a]?=some vs): K[a]?=some vs:=(w.ex.2 a (lt_of_at e) (by simpa using n)).trans e
theorem Ws.rf(w:Ws p q ns H K)(r:RF H v t F)(n:p∉F): RF K v t F:=r.frame λa m=>w.ex.2 a (r.lt a m) (by simp;exact λz=>n (z▸m))
theorem _root_.PM.Ok.dr{c:Option (V×Hp)}{A:Hp->Prop}{B C:Int->Prop}(h:Ok c λv M=>A M/\∃i:Int,v=.int i/\B i/\C i)(k:∀M i,A M->B i->C i->Q (.int i) M): Ok c Q:=by
 walk_at "p"
 obtain⟨_,M,e,a,i,rfl,b,c⟩:=h
 exact⟨_,M,e,k M i a b c⟩
theorem ZU{m:Int}(t:Tp p q ns K)(hm:0<m): Ok (ZP [.ref p,.int m] K) λv K'=>Ws p q ns K K'/\∃i,v=.int i/\0<=i/\i<m:=by
 walk_at "p"
 obtain⟨⟨k,e⟩,hc,pq,p0,hl⟩:=id t
 have hp:=t.lt
 have hq:q<K.length:=(Zz6.mp hc).1
 generalize hK:K.set p [.ref q,.int (k+1:Nat)]=K1
 have e1:K1[p]?=some [.ref q,.int (k+1:Nat)]:=by rw[<-hK,Yy6 hp]
 have c1:K1[q]?=some (ns.map V.int):=by rw[<-hK,Yy2 pq];exact hc
 have x1:Ws p q ns K K1:=⟨⟨by rw[<-hK];simp,λa _ n=>by rw[<-hK];exact Yy2 (λz=>n (by simp[z]))⟩,⟨⟨_,e1⟩,c1,pq,p0,hl⟩,hp,hq⟩
 have el:(ns.map V.int).length=ns.length:=by simp
 unfold ZP Zia
 repeat' fail
 refine Zc6 e p0 .d .s ?_
 rw[show K.set p ([V.ref q,.int k].set (1:Int).toNat (.int (k+1)))=K1 from hK]
 by_cases h0:ns.length=0
 ·repeat' fail
  exact⟨x1,0,rfl,Int.le_refl 0,hm⟩
 ·have a:=Int.fmod_nonneg_of_pos (k:Int) (show(0:Int)<ns.length by lia)
  have b:=Int.fmod_lt_of_pos (k:Int) (show(0:Int)<ns.length by lia)
  have hl':=hl
  repeat' fail
  rw[el]
  refine Zch c1 a b ?_
  repeat' fail
  exact⟨x1,_,rfl,Int.fmod_nonneg_of_pos _ hm,Int.fmod_lt_of_pos _ hm⟩
def DI(p q:Nat)(ns:List Int)(K:Hp)(c:Option (V×Hp))(P:Int->Prop): Prop:=Ok c λv K'=>Ws p q ns K K'/\∃i,v=.int i/\P i
def DT(p q:Nat)(ns:List Int)(K:Hp)(c:Option (V×Hp))(P:T->Prop): Prop:=Ok c λv K'=>Ws p q ns K K'/\∃t F,P t/\RF K' v t F/\∀a∈F,K.length<=a
def C60(v:Int): Prop:=-T60<=v/\v<=T60
def C9(v:Int): Prop:=-1000000000<=v/\v<=1000000000
def SumOk(n:Nat)(s:List Int): Prop:=s.length=n+1/\(∀k∈s.take 1,C60 k)/\∀k∈s.drop 1,C9 k
def smL(s:List Int): T:=.lst (s.map T.int)
theorem ZfT(t:Tp p q ns K): DI p q ns K (ZcI [.ref p] K) C60:=by
 walk_at "p"
 have e6:=T60_eq
 have e9:=T9_eq
 unfold ZcI Zhq
 refine Z7 rfl ?_
 repeat' fail
 refine(ZU t .d).dr λK1 i x1 i0 i1=>?_
 by_cases h1:i<13
 ·repeat' fail
  refine(ZU x1.tp .d).dr λK2 j x2 j0 j1=>?_
  repeat' fail
  exact⟨x1.trans x2,_,rfl,by unfold C60;lia⟩
 ·by_cases h2:i=13
  ·repeat' fail
   refine(ZU x1.tp .l).dr λK2 j x2 j0 j1=>?_
   repeat' fail
   exact⟨x1.trans x2,_,rfl,by unfold C60;lia⟩
  ·repeat' fail
   refine(ZU x1.tp .l).dr λK2 j x2 j0 j1=>?_
   repeat' fail
   exact⟨x1.trans x2,_,rfl,by unfold C60;lia⟩
theorem ZmX(t:Tp p q ns K): DI p q ns K (Zeb [.ref p] K) λd=>1<=d/\d<=T60:=by
 walk_at "p"
 have e6:=T60_eq
 unfold Zeb Zhz
 refine Z7 rfl ?_
 repeat' fail
 refine(ZU t .d).dr λK1 i x1 i0 i1=>?_
 by_cases h1:i<5
 ·repeat' fail
  refine Zch (ns:=[2,3,2,4,1]) (Zv _ _) i0 (by simp;omega) ?_
  refine⟨x1.app,_,rfl,?_⟩
  obtain rfl | rfl | rfl | rfl | rfl:i=0∨i=1∨i=2∨i=3∨i=4:=by lia
  all_goals (exact⟨.d,by rw[e6];decide⟩)
 ·by_cases h2:i=5
  ·repeat' fail
   refine(ZU x1.tp .l).dr λK2 j x2 j0 j1=>?_
   repeat' fail
   exact⟨x1.trans x2,_,rfl,.l,.l⟩
  ·repeat' fail
   refine(ZU x1.tp .l).dr λK2 j x2 j0 j1=>?_
   repeat' fail
   exact⟨x1.trans x2,_,rfl,.l,.l⟩
end
end L
namespace L
section
variable {p q:Nat} {ns:List Int} {K:Hp}
theorem ZbO{s:List Int}(e:K[a]?=some (s.map V.int)): RF K (.ref a) (smL s) [a]:=by
 have:∀l:List Int,RFs K (l.map V.int) (l.map T.int) []:=λl=>by
  induction l with
  | nil=>exact .nil
  | cons a l ih=>exact .cons (.int a) ih
 exact .ref e (this s)
theorem ZiW(L:List Int)(i:Nat): L.getD i 0=0∨L.getD i 0∈L:=by
 rw[List.getD_eq_getElem?_getD]
 cases h:L[i]? with
 | none=>exact .inl rfl
 | some x=>exact .inr (Yy4 h)
theorem ZjC{L:List Int}(hL:∀x∈L,0<=x/\x<=(m:Int))(i:Nat): ∃z:Nat,z<=m/\L.getD i 0=z:=by
 rcases ZiW L i with h | h
 ·exact⟨0,Nat.zero_le _,h⟩
 ·obtain⟨a,b⟩:=hL _ h
  exact⟨(L.getD i 0).toNat,.l,.l⟩
theorem Ztr{v:Int}(h0:0<=v)(h1:v<12): C9 (([0,0,0,0,1,1,1,-1,2,-3,1,0]:List Int).getD v.toNat 0):=by
 unfold C9
 rcases ZiW [0,0,0,0,1,1,1,-1,2,-3,1,0] v.toNat with h | h
 ·rw[h];decide
 ·revert h
  generalize List.getD _ _ _=x
  revert x
  decide
theorem SumOk.snoc{s:List Int}(h:SumOk i s)(hz:C9 z): SumOk (i+1) (s++[z]):=by
 obtain⟨l,a,b⟩:=h
 refine⟨by simp[l],?_,λk m=>?_⟩
 ·rw[List.take_append_of_le_length .l];exact a
 ·rw[List.drop_append_of_le_length .o]at m
  rcases Zz8.mp m with m | m
  ·exact b k m
  ·rw[List.mem_singleton.mp m];exact hz
theorem SumOk.set{s:List Int}(h:SumOk i s)(hj:0<j)(hz:C9 z): SumOk i (s.set j z):=by
 obtain⟨l,a,b⟩:=h
 refine⟨by simp[l],?_,λk m=>?_⟩
 ·rw[List.take_set_of_le .l];exact a
 ·rw[List.drop_set]at m
  split at m
  ·exact b k m
  ·rcases List.mem_or_eq_of_mem_set m with m | rfl
   ·exact b k m
   ·exact hz
theorem ZeY(t:Tp p q ns K)(hn:n<=100): DT p q ns K (Zcb [.ref p,.int n] K) λt=>∃s,t=smL s/\SumOk n s:=by
 walk_at "p"
 have e9:=T9_eq
 unfold Zcb ZhN
 refine Z7 rfl ?_
 repeat' fail
 refine(ZfT t).mono ?_
 intro _ K1 q9;obtain⟨x1,i,rfl,hi⟩:=q9
 repeat' fail
 generalize hL:K1.length=a
 have ha:K.length<=a:=hL▸x1.ex.1
 have hp:=t.lt
 let QQ:Nat->Lc->Hp->Prop:=λi U M=>U 0=some (.ref p)/\U 1=some (.int n)/\U 2=some (.ref a)/\Ws p q ns K M/\∃s,M[a]?=some (s.map V.int)/\SumOk i s
 refine ZdO (m:=n) QQ ?_ ?_ ?_
 ·refine⟨.w,.w,.w,x1.app,[i],?_,rfl,λk m=>?_,λk m=>by simp at m⟩
  ·rw[<-hL];exact Zv _ _
  ·simp at m;rw[m];exact hi
 ·intro j U M hj q9;obtain⟨e0,e1,e2,w,s,es,hs⟩:=q9
  repeat' fail
  refine(ZU w.tp .d).dr λM1 c y1 c0 c1=>?_
  have es1:=y1.at (show a≠p by lia) es
  have hc:=Ztr c0 c1
  have sl:=hs.1
  repeat' fail
  refine Zch (ns:=[0,0,0,0,1,1,1,-1,2,-3,1,0]) (Zv _ _) c0 (by simp;omega) ?_
  generalize ([0,0,0,0,1,1,1,-1,2,-3,1,0]:List Int).getD c.toNat 0=z at *
  refine Zcd (Zz es1) .l (by rw[ZD];simp;lia) ?_
  have w2:=((w.trans y1).app (X:=[[V.int 0,.int 0,.int 0,.int 0,.int 1,.int 1,.int 1,.int (-1),.int 2,.int (-3),.int 1,.int 0]])).set (vs:=s.map V.int++[.int z]) ha
  have a2:=lt_of_at (Zz (x:=[V.int 0,.int 0,.int 0,.int 0,.int 1,.int 1,.int 1,.int (-1),.int 2,.int (-3),.int 1,.int 0]) es1)
  have es2:=Yy6 (a:=s.map V.int++[.int z]) a2
  generalize List.set _ a _=M2 at *
  rw[show s.map V.int++[.int z]=(s++[z]).map V.int by simp]at es2
  have hs2:=hs.snoc hc
  by_cases h11:c=11
  ·repeat' fail
   refine(ZU w2.tp .l).dr λM3 d y3 d0 d1=>?_
   have es3:=y3.at (show a≠p by lia) es2
   repeat' fail
   refine Zc6 es3 .l .l (by simp;lia) ?_
   refine⟨.w,.w,.w,(w2.trans y3).set ha,(s++[z]).set (j+1) (d-T9),?_,hs2.set .l ⟨.l,.l⟩⟩
   rw[Yy6 (lt_of_at es3),List.map_set,show((j:Int)+1).toNat=j+1 by lia]
  ·repeat' fail
   exact⟨.w,.w,.w,w2,s++[z],es2,hs2⟩
 ·intro U M q9;obtain⟨e0,e1,e2,w,s,es,hs⟩:=q9
  repeat' fail
  exact⟨w,_,[a],⟨s,rfl,hs⟩,ZbO es,λb m=>by simp at m;lia⟩
end
end L
namespace L
def wU: Str:=Str.ofString "under"
def wS: Str:=Str.ofString "same"
def wE: Str:=Str.ofString "even"
def wY: Str:=Str.ofString "say"
def ZbH(n:Nat)(c:T): Prop:=∃s,SumOk n s/\(c=.tup [.str wU,smL s]∨c=.tup [.str wS,smL s]∨∃d,1<=d/\d<=T60/\c=.tup [.str wE,smL s,.int d])
def OB(o:Option Int): Prop:=∀v,o=some v->C60 v
def oT': Option Int->T
 | none=>.none
 | some v=>.int v
section
variable {p q:Nat} {ns:List Int} {K:Hp}
theorem ZnD{x y z:d}{c:Int}(h0:0<=c)(h1:c<=2): [x,y,z][c.toNat]?=some (if c=2 then z else if c=1 then y else x):=by
 obtain rfl | rfl | rfl:c=0∨c=1∨c=2:=by lia
 all_goals rfl
theorem Zew(t:Tp p q ns K)(hn:n<=100): DT p q ns K (Zc3 [.ref p,.int n] K) (ZbH n):=by
 walk_at "p"
 have hp:=t.lt
 unfold Zc3 Zhs
 refine Z7 rfl ?_
 repeat' fail
 refine(ZU t .d).dr λK1 i x1 i0 i1=>?_
 repeat' fail
 refine(ZeY x1.tp hn).mono ?_
 intro v K2 q9;obtain⟨x2,_,F,⟨s,rfl,hs⟩,rs,hf⟩:=q9
 have l1:=x1.ex.1
 by_cases h2:i>2
 ·repeat' fail
  refine(ZmX x2.tp).dr λK3 d x3 d0 d1=>?_
  repeat' fail
  exact⟨(x1.trans x2).trans x3,_,_,⟨s,hs,.inr (.inr ⟨d,d0,d1,rfl⟩)⟩,.tup (.cons (.str _) (.cons (x3.rf rs λm=>by have:=hf p m;lia) (.cons (.int d) .nil))),λa m=>by
   have:a∈F:=by simpa using m
   have:=hf a this;lia⟩
 ·repeat' fail
  refine ZbS (Zv _ _) i0 (ZnD i0 .l) ?_
  have hw:(∃w,(if i=2 then V.str "same"else if i=1 then .str "under"else .str "under")=.str w/\(w=wU∨w=wS)):=by
   split
   ·exact⟨_,rfl,.inr rfl⟩
   ·split <;> exact⟨_,rfl,.inl rfl⟩
  obtain⟨w,ew,hw⟩:=hw
  rw[ew]
  repeat' fail
  refine⟨(x1.trans x2).app,.tup [.str w,smL s],_,⟨s,hs,?_⟩,.tup (.cons (.str _) (.cons (rs.ext _) .nil)),λa m=>by
   have:a∈F:=by simpa using m
   have:=hf a this;lia⟩
  rcases hw with rfl | rfl
  ·exact .inl rfl
  ·exact .inr (.inl rfl)
theorem Zut(t:Tp p q ns K): DT p q ns K (ZfO [.ref p,.int x] K) λt=>∃lo hi,OB lo/\OB hi/\(∀a b,lo=some a->hi=some b->a<=b)/\t=.tup [.str "any",.int x,oT' lo,oT' hi]:=by
 walk_at "p"
 have e6:=T60_eq
 unfold ZfO Zij
 refine Z7 rfl ?_
 repeat' fail
 refine(ZfT t).mono ?_
 intro _ K1 q9;obtain⟨x1,lo,rfl,hlo⟩:=q9
 repeat' fail
 refine(ZU x1.tp .d).dr λK2 i x2 i0 i1=>?_
 repeat' fail
 have hh:∃hi,(if lo+i<T60 then lo+i else T60)=hi/\C60 hi/\lo<=hi:=⟨_,rfl,by unfold C60 at *;split <;> lia,by unfold C60 at *;split <;> lia⟩
 obtain⟨hi,ehi,hhi,lh⟩:=hh
 rw[ehi]
 refine(ZU x2.tp .d).dr λK3 c x3 c0 c1=>?_
 repeat' fail
 have w:=(x1.trans x2).trans x3
 have ob:∀{v:Int},C60 v->OB (some v):=λh u e=>by cases e;exact h
 have on:OB none:=λu e=>by cases e
 have fin:∀(o1 o2:Option Int) (v1 v2:V) (X:Hp),OB o1->OB o2->(∀a b,o1=some a->o2=some b->a<=b)->RF (K3++X) v1 (oT' o1) []->RF (K3++X) v2 (oT' o2) []->Ws p q ns K (K3++X)/\∃t F,(∃lo hi,OB lo/\OB hi/\(∀a b,lo=some a->hi=some b->a<=b)/\t=.tup [.str "any",.int x,oT' lo,oT' hi])/\RF (K3++X) (.tup [.str "any",.int x,v1,v2]) t F/\∀a∈F,K.length<=a:=λo1 o2 v1 v2 X b1 b2 b3 r1 r2=>⟨w.app,_,_,⟨o1,o2,b1,b2,b3,rfl⟩,.tup (.cons (.str _) (.cons (.int x) (.cons r1 (.cons r2 .nil)))),.s⟩
 obtain rfl | rfl | rfl | rfl | rfl | rfl:c=0∨c=1∨c=2∨c=3∨c=4∨c=5:=by lia
 all_goals
  repeat' fail
  rw[List.append_assoc]
 ·exact fin (some lo) (some hi) _ _ _ (ob hlo) (ob hhi) (λa b h k=>by cases h;cases k;exact lh) (.int _) (.int _)
 ·exact fin (some lo) (some hi) _ _ _ (ob hlo) (ob hhi) (λa b h k=>by cases h;cases k;exact lh) (.int _) (.int _)
 ·exact fin (some lo) (some hi) _ _ _ (ob hlo) (ob hhi) (λa b h k=>by cases h;cases k;exact lh) (.int _) (.int _)
 ·exact fin (some lo) none _ _ _ (ob hlo) on (λa b h k=>by cases k) (.int _) .none
 ·exact fin none (some hi) _ _ _ on (ob hhi) (λa b h k=>by cases h) .none (.int _)
 ·exact fin none none _ _ _ on on (λa b h k=>by cases h) .none .none
end
end L
namespace L
noncomputable abbrev ZjD(c:T)(a b:List T): T:=.tup [.str "if",c,.lst a,.lst b]
noncomputable abbrev Ze8(c:T)(a:List T): T:=.tup [.str "while",c,.lst a]
def Pl7(p n:Nat)(ps:List Nat)(t:T): Prop:=
 (∃c,ZbH n c/\t=.tup [.str wY,c]) ∨
 (∃(x:Nat) (s:List Int),p<x/\x<=n/\SumOk n s/\t=.tup [.str "set",.int x,smL s]) ∨
 (∃(w:Str) (x:Nat) (s:List Int) (d:Int),(w=Str.ofString "part"∨w=Str.ofString "rest")/\p<x/\x<=n/\SumOk n s/\1<=d/\d<=T60/\t=.tup [.str w,.int x,smL s,.int d]) ∨
 (∃(x:Nat) (lo hi:Option Int),p<x/\x<=n/\OB lo/\OB hi/\(∀a b,lo=some a->hi=some b->a<=b)/\t=.tup [.str "any",.int x,oT' lo,oT' hi]) ∨
 (∃(x f:Nat) (ss:List (List Int)) (q:Nat),p<x/\x<=n/\ps[f]?=some q/\ss.length=q/\(∀s∈ss,SumOk n s)/\t=.tup [.str "call",.int x,.int f,.lst (ss.map smL)])
def StQ(P C:T->Prop): Nat->T->Prop
 | 0=>P
 | n+1=>λt=>P t∨(∃c a b,t=ZjD c a b/\C c/\(∀u∈a,StQ P C n u)/\(∀u∈b,StQ P C n u)/\a.length<=4/\b.length<=4)∨∃c a,t=Ze8 c a/\C c/\(∀u∈a,StQ P C n u)/\a.length<=4
theorem StQ.plain{P C:T->Prop}(h:P t): StQ P C n t:=by
 cases n with
 | zero=>exact h
 | succ n=>exact .inl h
structure Wc(p q r s:Nat)(ns:List Int)(ps:List Nat)(K:Hp): Prop where
 tp:Tp p q ns K
 rm:∃a b:Int,K[r]?=some [.int a,.int b]
 sz:K[s]?=some (ps.map λi=>V.int (i:Nat))
 rp:r≠p
 rq:r≠q
 r0:r≠0
 sp:s≠p
 sr:s≠r
structure Wr(p q r s:Nat)(ns:List Int)(ps:List Nat)(H K:Hp): Prop where
 ex:Exq [p,r] H K
 c:Wc p q r s ns ps K
 lp:p<H.length
 lq:q<H.length
 lr:r<H.length
section
variable {p q r s:Nat} {ns:List Int} {ps:List Nat} {H K M:Hp}
theorem Wc.wr(w:Wc p q r s ns ps K): Wr p q r s ns ps K K:=⟨Exq.refl,w,w.tp.lt,w.tp.lq,by obtain⟨a,b,e⟩:=w.rm;exact lt_of_at e⟩
theorem Wr.trans(w:Wr p q r s ns ps H K)(u:Wr p q r s ns ps K M): Wr p q r s ns ps H M:=⟨w.ex.trans u.ex,u.c,w.lp,w.lq,w.lr⟩
theorem Wr.draw(w:Wr p q r s ns ps H K)(u:Ws p q ns K M): Wr p q r s ns ps H M:=by
 obtain⟨⟨x1,x2⟩,⟨tp,⟨a,b,rm⟩,sz,rp,rq,r0,sp,sr⟩,lp,lq,lr⟩:=w
 exact⟨⟨Nat.le_trans x1 u.ex.1,λc h n=>(u.ex.2 c .l (by simp at n ⊢;exact n.1)).trans (x2 c h n)⟩,⟨u.tp,⟨a,b,u.at rp rm⟩,u.at sp sz,rp,rq,r0,sp,sr⟩,lp,lq,lr⟩
theorem Wr.app(w:Wr p q r s ns ps H K): Wr p q r s ns ps H (K++X):=w.draw (w.c.tp.ws.app)
theorem Wr.at(w:Wr p q r s ns ps H K)(n:a≠p)(m:a≠r)(e:H[a]?=some vs): K[a]?=some vs:=(w.ex.2 a (lt_of_at e) (by simp;exact⟨n,m⟩)).trans e
theorem Wr.rf(w:Wr p q r s ns ps H K)(rf:RF H v t F)(n:∀a∈F,a≠p/\a≠r): RF K v t F:=rf.frame λa m=>w.ex.2 a (rf.lt a m) (by simp;exact n a m)
theorem Wr.rfs(w:Wr p q r s ns ps H K)(rf:RFs H vs ts F)(n:∀a∈F,a≠p/\a≠r): RFs K vs ts F:=rf.frame λa m=>w.ex.2 a (rf.lt a m) (by simp;exact n a m)
theorem Wr.set(w:Wr p q r s ns ps H K)(h:H.length<=a)(hs:a≠s): Wr p q r s ns ps H (K.set a vs):=by
 obtain⟨⟨x1,x2⟩,⟨⟨⟨k,e⟩,c,t1,t2,t3⟩,⟨a',b,rm⟩,sz,rp,rq,r0,sp,sr⟩,lp,lq,lr⟩:=w
 exact⟨⟨by rw[List.length_set];exact x1,λb hb n=>by rw[Yy2 .l];exact x2 b hb n⟩,⟨⟨⟨k,Zbg .l e⟩,Zbg .l c,t1,t2,t3⟩,⟨a',b,Zbg .l rm⟩,Zbg hs sz,rp,rq,r0,sp,sr⟩,lp,lq,lr⟩
theorem Wr.room{a:Int}(w:Wr p q r s ns ps H K): Wr p q r s ns ps H (K.set r [.int a,.int b]):=by
 have hr:r<K.length:=Nat.lt_of_lt_of_le w.lr w.ex.1
 obtain⟨⟨x1,x2⟩,⟨⟨⟨k,e⟩,c,t1,t2,t3⟩,_,sz,rp,rq,r0,sp,sr⟩,lp,lq,lr⟩:=w
 exact⟨⟨by rw[List.length_set];exact x1,λb hb n=>by rw[Yy2 (by simp at n;lia)];exact x2 b hb n⟩,⟨⟨⟨k,Zbg rp e⟩,Zbg rq c,t1,t2,t3⟩,⟨a,b,Yy6 hr⟩,Zbg .l sz,rp,rq,r0,sp,sr⟩,lp,lq,lr⟩
abbrev szV(pp n s:Nat): V:=.tup [.int pp,.int n,.ref s]
def Zg1(p q r s:Nat)(ns:List Int)(ps:List Nat)(pp n d:Nat)(F: .y): Prop:=∀(K:Hp) (c:Nat),c<=4->Wc p q r s ns ps K->Ok (F [.ref p,szV pp n s,.ref r,.int d,.int c] K) λv K'=>Wr p q r s ns ps K K'/\∃a vs ts F,v=.ref a/\K'[a]?=some vs/\RFs K' vs ts F/\a∉F/\(∀b∈a::F,K.length<=b)/\ts.length<=c/\∀t∈ts,StQ (Pl7 pp n ps) (ZbH n) d t
def StH(p q r s:Nat)(ns:List Int)(ps:List Nat)(pp n d:Nat)(K:Hp)(c:Option (V×Hp)): Prop:=Ok c λv K'=>Wr p q r s ns ps K K'/\∃t F,RF K' v t F/\(∀b∈F,K.length<=b)/\StQ (Pl7 pp n ps) (ZbH n) d t
theorem Zkk{x:Nat}{a:Int}(h0:0<x)(hx:x<=n)(ha:C60 a): SumOk n ((a::List.replicate n 0).set x 1):=by
 refine SumOk.set ⟨.s,by simpa using ha,λk hk=>?_⟩ h0 ⟨.d,.d⟩
 rw[List.drop_succ_cons,List.drop_zero]at hk
 rw[(List.mem_replicate.mp hk).2]
 exact⟨.d,.d⟩
theorem rfs_app{ws:List V}{us:List T}(k:RFs H ws us G)(r:RFs H vs ts F): RFs H (vs++ws) (ts++us) (F++G):=r.append k
theorem ctV{x:Nat}{a:Int}: ([V.int a]++List.replicate ((n:Nat):Int).toNat (V.int 0)).set ((x:Nat):Int).toNat (.int 1)=((a::List.replicate n 0).set x 1).map V.int:=by
 rw[List.map_set];simp
theorem Zts{d x:Nat}{F: .y}(hF:Zg1 p q r s ns ps pp n d F)(w:Wc p q r s ns ps K)(hn:n<=100)(hx:x=0∨(pp<x/\x<=n)): StH p q r s ns ps pp n (d+1) K (ZfH F [.ref p,szV pp n s,.ref r,.int (d+1:Nat),.int x] K):=by
 walk_at "p"
 have e6:=T60_eq
 have hd:((d+1:Nat):Int)-1=d:=by lia
 have w0:=w.wr
 have hp:=w0.lp
 have hr:=w0.lr
 unfold ZfH Zib
 refine Z7 rfl ?_
 repeat' fail
 refine(ZU w.tp .d).dr λK1 i x1 i0 i1=>?_
 have w1:=w0.draw x1
 repeat' fail
 refine(Zew w1.c.tp hn).mono ?_
 intro vc K2 q9;obtain⟨x2,c,Fc,hc,rc,fc⟩:=q9
 have w2:=w1.draw x2
 repeat' fail
 refine(ZU w2.c.tp .d).dr λK3 j x3 j0 j1=>?_
 have w3:=w2.draw x3
 obtain⟨jn,rfl⟩:∃jn:Nat,j=jn:=⟨j.toNat,.l⟩
 repeat' fail
 rw[hd]
 refine(hF K3 jn .l w3.c).mono ?_
 intro _ K4 q9;obtain⟨y4,a,vs,ts,Fb,rfl,ea,rb,na,fb,lb,hb⟩:=q9
 have w4:=w3.trans y4
 obtain⟨r0,r1,er⟩:=w4.c.rm
 have l1:=w1.ex.1
 have l3:=w3.ex.1
 have l4:=w4.ex.1
 have fc':∀b∈Fc,K.length<=b:=λb m=>Nat.le_trans l1 (fc b m)
 have fb':∀b∈a::Fb,K.length<=b:=λb m=>Nat.le_trans l3 (fb b m)
 have rc4:RF K4 vc c Fc:=y4.rf (x3.rf rc λm=>by have:=fc' p m;lia) λb m=>by have:=fc' b m;lia
 have rl:RF K4 (.ref a) (.lst ts) (a::Fb):=.ref ea rb
 refine Zae (ZaS ?_)
 refine Okt.mono (Q:=λc H1=>c=decide (i=0∨r1=0)/\K4=H1) ?_ ?_
 ·by_cases h1:i=0
  ·repeat' fail
   exact⟨by simp[h1],rfl⟩
  ·by_cases h2:r1=0
   ·repeat' fail
    exact⟨by simp[h2],rfl⟩
   ·repeat' fail
    exact⟨by simp[h1,h2],rfl⟩
 intro _ _ q9;obtain⟨rfl,rfl⟩:=q9
 refine⟨λh=>?_,λh=>?_⟩
 ·repeat' fail
  refine(ZU w4.c.tp .d).dr λK5 k x5 k0 k1=>?_
  have w5:=w4.draw x5
  obtain⟨kn,rfl⟩:∃kn:Nat,k=kn:=⟨k.toNat,.l⟩
  repeat' fail
  rw[hd]
  refine(hF K5 kn .l w5.c).mono ?_
  intro _ K6 q9;obtain⟨y6,a',vs',ts',Fb',rfl,ea',rb',na',fb'',lb',hb'⟩:=q9
  have w6:=w5.trans y6
  have l5:=w5.ex.1
  have rc6:=y6.rf (x5.rf rc4 λm=>by have:=fc' p m;lia) λb m=>by have:=fc' b m;lia
  have rl6:=y6.rf (x5.rf rl λm=>by have:=fb' p m;omega) λb m=>by have:=fb' b m;omega
  repeat' fail
  refine⟨w6,ZjD c ts ts',_,.tup (.cons (.str _) (.cons rc6 (.cons rl6 (.cons (.ref ea' rb') .nil)))),λb m=>?_,.inr (.inl ⟨c,ts,ts',rfl,hc,hb,hb',.l,.l⟩)⟩
  simp only[List.nil_append,List.append_nil,List.mem_append]at m
  rcases m with m | m | m
  ·exact fc' b m
  ·exact fb' b m
  ·exact Nat.le_trans l5 (fb'' b m)
 ·have h2:¬(i=0∨r1=0):=of_decide_eq_false h
  repeat' fail
  refine Zc6 er w.r0 .d .s ?_
  have w5:Wr p q r s ns ps K (K4.set r [.int r0,.int (r1-1)]):=w4.room
  have rc5:RF (K4.set r [.int r0,.int (r1-1)]) vc c Fc:=rc4.frame λb m=>Yy2 (by have:=fc' b m;lia)
  have rl5:RF (K4.set r [.int r0,.int (r1-1)]) (.ref a) (.lst ts) (a::Fb):=rl.frame λb m=>Yy2 (by have:=fb' b m;omega)
  have ea5:(K4.set r [.int r0,.int (r1-1)])[a]?=some vs:=Zbg (by have:=fb' a Zz5;lia) ea
  have rb5:RFs (K4.set r [.int r0,.int (r1-1)]) vs ts Fb:=rb.frame λb m=>Yy2 (by have:=fb' b (Zz2 _ m);omega)
  rw[show [V.int r0,.int r1].set (1:Int).toNat (.int (r1-1))=[.int r0,.int (r1-1)]from rfl]
  generalize K4.set r [.int r0,.int (r1-1)]=K5 at *
  refine Zae (ZaS ?_)
  refine Okt.mono (Q:=λc H1=>c=decide (i=2/\0<x)/\K5=H1) ?_ ?_
  ·by_cases h1:i=2
   ·by_cases h3:0<x
    ·repeat' fail
     exact⟨by simp[h1,h3],rfl⟩
    ·repeat' fail
     exact⟨by simp[h3],rfl⟩
   ·repeat' fail
    exact⟨by simp[h1],rfl⟩
  intro _ _ q9;obtain⟨rfl,rfl⟩:=q9
  refine⟨λh=>?_,λh=>?_⟩
  ·obtain⟨h3,h4⟩:=of_decide_eq_true h
   repeat' fail
   refine(ZU w5.c.tp .d).dr λK6 k x6 k0 k1=>?_
   have w6:=w5.draw x6
   repeat' fail
   refine Zc6 (Zv _ _) .s .l (by simp;lia) ?_
   rw[Zf7,ctV]
   have w7:Wr p q r s ns ps K (K6++[[V.int (-k)]]++[[V.int 0]]++[List.replicate (n:Int).toNat (V.int 0)]):=w6.app.app.app
   have k7:Ws p q ns K5 (K6++[[V.int (-k)]]++[[V.int 0]]++[List.replicate (n:Int).toNat (V.int 0)]):=x6.app.app.app
   generalize K6++[[V.int (-k)]]++[[V.int 0]]++[List.replicate (n:Int).toNat (V.int 0)]=K7 at *
   have hs1:=Zkk (n:=n) (x:=x) (a:=-k) h4 .l (by unfold C60;lia)
   generalize (-k::List.replicate n 0).set x 1=s1 at *
   have w8:Wr p q r s ns ps K (K7++[s1.map V.int]):=w7.app
   have k8:Ws p q ns K5 (K7++[s1.map V.int]):=k7.app
   have e8:(K7++[s1.map V.int])[K7.length]?=some (s1.map V.int):=Zv _ _
   have l7:=k7.ex.1
   have l5:=w5.ex.1
   generalize K7++[s1.map V.int]=K8 at *
   generalize K7.length=a8 at *
   repeat' fail
   refine(ZU w8.c.tp .d).mono ?_
   intro _ K9 q9;obtain⟨x9,k',rfl,k0',k1'⟩:=q9
   have w9:=w8.draw x9
   have k9:=k8.trans x9
   have e9:=x9.at (show a8≠p by lia) e8
   repeat' fail
   refine Zc6 (Zv _ _) .s .l (by simp;lia) ?_
   rw[Zf7,ctV]
   have wA:Wr p q r s ns ps K (K9++[[V.int (1+k')]]++[[V.int 0]]++[List.replicate (n:Int).toNat (V.int 0)]):=w9.app.app.app
   have kA:Ws p q ns K5 (K9++[[V.int (1+k')]]++[[V.int 0]]++[List.replicate (n:Int).toNat (V.int 0)]):=k9.app.app.app
   have eA:(K9++[[V.int (1+k')]]++[[V.int 0]]++[List.replicate (n:Int).toNat (V.int 0)])[a8]?=some (s1.map V.int):=Zz (Zz (Zz e9))
   generalize K9++[[V.int (1+k')]]++[[V.int 0]]++[List.replicate (n:Int).toNat (V.int 0)]=KA at *
   have hs2:=Zkk (n:=n) (x:=x) (a:=1+k') h4 .l (by unfold C60;lia)
   generalize ((1+k')::List.replicate n 0).set x 1=s2 at *
   have wB:Wr p q r s ns ps K (KA++[s2.map V.int]):=wA.app
   have kB:Ws p q ns K5 (KA++[s2.map V.int]):=kA.app
   have eB:(KA++[s2.map V.int])[KA.length]?=some (s2.map V.int):=Zv _ _
   have eB':=Zz (x:=s2.map V.int) eA
   have lA:=kA.ex.1
   generalize KA++[s2.map V.int]=KB at *
   generalize KA.length=aB at *
   have eaB:=kB.at (by have:=fb' a Zz5;lia) ea5
   have rbB:RFs KB vs ts Fb:=rb5.frame λb m=>kB.ex.2 b (rb5.lt b m) (by simp;have:=fb' b (Zz2 _ m);lia)
   have lv:vs.length=ts.length:=rb5.length
   repeat' fail
   generalize hX:KB++[[V.tup [V.str "set",V.int x,V.ref aB]]]=KC
   have wC:Wr p q r s ns ps K KC:=hX▸wB.app
   have rbC:RFs KC vs ts Fb:=hX▸rbB.ext _
   have eC:=Zz (x:=[V.tup [V.str "set",V.int x,V.ref aB]]) eB
   have eC':=Zz (x:=[V.tup [V.str "set",V.int x,V.ref aB]]) eB'
   rw[hX]at eC eC'
   have lK:=wC.ex.1
   refine⟨wC.app,Ze8 (.tup [.str wU,smL s1]) (ts++[.tup [.str "set",.int x,smL s2]]),_,.tup (.cons (.str _) (.cons (.tup (.cons (.str _) (.cons (ZbO (Zz eC')) .nil))) (.cons (.ref (Zv _ _) (rfs_app (.cons (.tup (.cons (.str _) (.cons (.int x) (.cons (ZbO (Zz eC)) .nil)))) .nil) (rbC.ext _))) .nil))),λb m=>?_,.inr (.inr ⟨_,_,rfl,⟨s1,hs1,.inl rfl⟩,λu m=>?_,by simp;lia⟩)⟩
   ·simp only[List.nil_append,List.append_nil,List.mem_append,List.mem_cons,List.not_mem_nil,or_false]at m
    have fbb:b∈Fb->K.length<=b:=λm=>fb' b (Zz2 _ m)
    rcases m with m | m | m | m
    ·lia
    ·lia
    ·exact fbb m
    ·lia
   ·rcases Zz8.mp m with m | m
    ·exact hb u m
    ·rw[List.mem_singleton.mp m]
     exact StQ.plain (.inr (.inl ⟨x,s2,.l,.l,hs2,rfl⟩))
  ·repeat' fail
   refine⟨w5,Ze8 c ts,_,.tup (.cons (.str _) (.cons rc5 (.cons rl5 .nil))),λb m=>?_,.inr (.inr ⟨c,ts,rfl,hc,hb,.l⟩)⟩
   simp only[List.nil_append,List.append_nil,List.mem_append]at m
   rcases m with m | m
   ·exact fc' b m
   ·exact fb' b m
end
end L
namespace L
def Tst(t:Ts)(U:Lc)(H:Hp)(A:Bool): Prop:=Okt (t U H) λb M=>b=A/\M=H
local macro_rules|`(tactic|walk_at "tst")=>`(tactic|(unfold Tst; (repeat' fail); exact ⟨rfl, rfl⟩))
theorem Zns{t u:Ts}{A B:Bool}{T:Bool->Hp->Prop}(h1:Tst t U H A)(h2:Tst u U H B)(k:T (A && B) H): Okt (ZR t (ZR u ZJ) U H) T:=by
 show let PP:=_;Okt _ PP
 intro PP
 refine Zcg (Okt.mono h1 ?_)
 intro _ _ q9;obtain⟨rfl,rfl⟩:=q9
 refine⟨?_,?_⟩
 ·rintro rfl
  refine Zcg (Okt.mono h2 ?_)
  intro _ _ q9;obtain⟨rfl,rfl⟩:=q9
  exact⟨λe=>Zbl (by simpa [e]using k),λe=>by simpa [e]using k⟩
 ·rintro rfl
  simpa using k
theorem ZuV{t u:Ts}{A B:Bool}{T:Bool->Hp->Prop}(h1:Tst t U H A)(h2:Tst u U H B)(k:T (A || B) H): Okt (tOr t (tOr u Zb1) U H) T:=by
 show let PP:=_;Okt _ PP
 intro PP
 refine ZeG (Okt.mono h1 ?_)
 intro _ _ q9;obtain⟨rfl,rfl⟩:=q9
 refine⟨?_,?_⟩
 ·rintro rfl
  simpa using k
 ·rintro rfl
  refine ZeG (Okt.mono h2 ?_)
  intro _ _ q9;obtain⟨rfl,rfl⟩:=q9
  exact⟨λe=>by simpa [e]using k,λe=>Ziy (by simpa [e]using k)⟩
section
variable {p q r s:Nat} {ns:List Int} {ps:List Nat} {H K M:Hp}
theorem Zjc{L:List V->Hp->Prop}(t:Tp p q ns K)(hn:n<=100)(hk:k<=100)(e0:U 0=some (.ref p))(ej:U j=some (.int n))(hj:j≠100)(done:∀vs M (ss:List (List Int)) F,Ws p q ns K M->RFs M vs (ss.map smL) F->(∀b∈F,K.length<=b)->ss.length=k->(∀s∈ss,SumOk n s)->L vs M): Okl (Zah (ZaL 0 1 k) (Zw 100) ZJ (Zg Zcb (Zb (Za 0) (Zb (Za j) Ze))) U (k+1) 0 [] K) L:=by
 show let PP:=_;Okl _ PP
 intro PP
 have hp:=t.lt
 let QL:Nat->List V->Hp->Prop:=λi acc M=>∃(ss:List (List Int)) (F:List Nat),Ws p q ns K M/\RFs M acc (ss.map smL) F/\(∀b∈F,K.length<=b)/\ss.length=i/\∀s∈ss,SumOk n s
 refine ZbG QL (by rw[ZD];lia) ⟨[],[],t.ws,.nil,.s,rfl,.s⟩ ?_ (λacc K h=>by simp) (λacc M ⟨ss,F,w,rf,hf,hl,hs⟩=>done acc M ss F w rf hf hl hs)
 intro i acc M hi q9;obtain⟨ss,F,w,rf,hf,hl,hs⟩:=q9
 refine⟨by rw[rf.length];simp[hl],.int i,_,by rw[Zeh,if_pos hi];simp,Zbr _ _ _,Zbl ⟨λ_=>?_,.s⟩⟩
 refine Zay (ZX (Zr (ZaN .d e0) (ZX (Zr (ZaN hj ej) (Zan ?_)))))
 refine(ZeY w.tp hn).mono ?_
 intro v M1 q9;obtain⟨x1,_,G,⟨s,rfl,hs1⟩,r1,g1⟩:=q9
 have l1:=w.ex.1
 refine⟨ss++[s],F++G,w.trans x1,?_,?_,by simp[hl],?_⟩
 ·rw[List.map_append]
  exact List.append_nil G▸rfs_app (.cons r1 .nil) (rf.frame λa m=>x1.ex.2 a (rf.lt a m) (by simp;have:=hf a m;lia))
 ·intro b m
  rcases Zz8.mp m with m | m
  ·exact hf b m
  ·exact Nat.le_trans l1 (g1 b m)
 ·intro u m
  rcases Zz8.mp m with m | m
  ·exact hs u m
  ·rw[List.mem_singleton.mp m];exact hs1
theorem StH.up{d:Nat}{c:Option (V×Hp)}(w:Wr p q r s ns ps H K)(h:StH p q r s ns ps pp n d K c): StH p q r s ns ps pp n d H c:=h.mono λv M ⟨u,t,F,rf,hf,hs⟩=>⟨w.trans u,t,F,rf,λb m=>Nat.le_trans w.ex.1 (hf b m),hs⟩
theorem Zot{d:Nat}{F: .y}(hF:∀e,d=e+1->Zg1 p q r s ns ps pp n e F)(w:Wc p q r s ns ps K)(hn:n<=100)(hpn:pp<=n)(hps:ps.length<=100)(hq:∀q∈ps,q<=100): StH p q r s ns ps pp n d K (Zfi F [.ref p,szV pp n s,.ref r,.int d] K):=by
 walk_at "p"
 have hp:=w.tp.lt
 unfold Zfi Zht
 refine Z7 rfl ?_
 repeat' fail
 refine(ZU w.tp .d).dr λK1 i x1 i0 i1=>?_
 have w1:=w.wr.draw x1
 refine Zae (Zbd (Zav (ZcR (λU M=>∃x:Nat,(x=0∨(pp<x/\x<=n))/\Wr p q r s ns ps K M/\U 0=some (.ref p)/\U 1=some (szV pp n s)/\U 2=some (.ref r)/\U 3=some (.int d)/\U 4=some (.int n)/\U 5=some (.int i)/\U 6=some (.int x)) ?_ ?_)))
 ·by_cases h:pp<n
  ·repeat' fail
   refine(ZU w1.c.tp .l).dr λK2 j x2 j0 j1=>?_
   repeat' fail
   exact⟨((pp:Int)+1+j).toNat,.inr ⟨.l,.l⟩,w1.draw x2,.w,.w,.w,.w,.w,.w,by rw[Int.toNat_of_nonneg .l];walk_at "rd"⟩
  ·repeat' fail
   exact⟨0,.inl rfl,w1,.w,.w,.w,.w,.w,.w,.w⟩
 intro U K2 q9;obtain⟨x,hx,w2,e0,e1,e2,e3,e4,e5,e6⟩:=q9
 have l2:=w2.ex.1
 have es:=w2.c.sz
 have done:∀{M:Hp} {v:V} {t:T} {G:List Nat},Ws p q ns K2 M->RF M v t G->(∀b∈G,K2.length<=b)->Pl7 pp n ps t->Wr p q r s ns ps K M/\∃t F,RF M v t F/\(∀b∈F,K.length<=b)/\StQ (Pl7 pp n ps) (ZbH n) d t:=λ{M v t G} u rf hf h=>⟨w2.draw u,t,G,rf,λb m=>Nat.le_trans l2 (hf b m),StQ.plain h⟩
 refine Zae (ZaS (Zns (A:=decide (i<4)) (B:=decide ((0:Int)<d)) (by walk_at "tst") (by walk_at "tst") ⟨λh=>?_,λh=>?_⟩))
 ·obtain⟨e,rfl⟩:∃e,d=e+1:=⟨d-1,by simp at h;lia⟩
  repeat' fail
  exact StH.up w2 (Zts (hF e rfl) w2.c hn hx)
 refine Zbm (Zae (ZaS (ZuV (A:=(i == 4)) (B:=((x:Int) == 0)) (by walk_at "tst") (by walk_at "tst") ⟨λh=>?_,λh=>?_⟩)))
 ·repeat' fail
  refine(Zew w2.c.tp hn).mono ?_
  intro v K3 q9;obtain⟨x3,c,G,hc,rc,fc⟩:=q9
  repeat' fail
  exact done x3 (.tup (.cons (.str _) (.cons rc .nil))) (λb m=>fc b (by simpa using m)) (.inl ⟨c,hc,rfl⟩)
 simp only[Bool.or_eq_false_iff,beq_eq_false_iff_ne]at h
 have hx':pp<x/\x<=n:=by lia
 refine Zbm (Zae (ZaS (Zns (A:=(i == 5)) (B:=decide ((0:Int)<(ps.map λi=>V.int (i:Nat)).length)) (by walk_at "tst") (by walk_at "tst") ⟨λg=>?_,λg=>?_⟩)))
 ·simp at g
  repeat' fail
  refine(ZU w2.c.tp (by simp;lia)).dr λK3 j x3 j0 j1=>?_
  rw[List.length_map]at j1
  obtain⟨f,rfl⟩:∃f:Nat,j=f:=⟨j.toNat,.l⟩
  have hf:f<ps.length:=by lia
  have hk:=hq ps[f] (List.getElem_mem hf)
  have ek:ps[f]?=some ps[f]:=Yy1 hf
  generalize ps[f]=k at hk ek
  have ek':(ps.map λi=>V.int (i:Nat))[((f:Nat):Int).toNat]?=some (.int k):=by simp[ek]
  have es3:=x3.at w2.c.sp es
  repeat' fail
  refine Zjc x3.tp hn hk .w .w .d λvs M ss G u rf hG hl hs=>?_
  repeat' fail
  have l3:=x3.ex.1
  have lM:=u.ex.1
  refine done (x3.trans u).app (t:=.tup [.str "call",.int x,.int f,.lst (ss.map smL)]) (.tup (.cons (.str _) (.cons (.int _) (.cons (.int _) (.cons (.ref (Zv _ _) (rf.ext _)) .nil))))) (λb m=>?_) (.inr (.inr (.inr (.inr ⟨x,f,ss,k,.l,.l,ek,hl,hs,rfl⟩))))
  simp only[List.nil_append,List.append_nil,List.mem_cons]at m
  rcases m with m | m
  ·lia
  ·have:=hG b m;lia
 by_cases h6:i=6
 ·repeat' fail
  refine(Zut w2.c.tp).mono ?_
  intro v K3 q9;obtain⟨x3,t,G,⟨lo,hi,h1,h2,h3,rfl⟩,rf,hG⟩:=q9
  exact done x3 rf hG (.inr (.inr (.inr (.inl ⟨x,lo,hi,.l,.l,h1,h2,h3,rfl⟩))))
 by_cases h8:i>8
 ·obtain rfl | rfl:i=9∨i=10:=by lia
  all_goals
   repeat' fail
   refine(ZeY (w2.c.tp.ws.app).tp hn).mono ?_
   intro v K3 q9;obtain⟨x3,_,G,⟨s1,rfl,hs⟩,rf,hG⟩:=q9
   repeat' fail
   refine(ZmX x3.tp).dr λK4 e x4 d1 d2=>?_
   repeat' fail
   have hG':∀b∈G,K2.length<=b:=λb m=>by have:=hG b m;simp at this;lia
   refine done (((w2.c.tp.ws.app).trans x3).trans x4) (.tup (.cons (.str _) (.cons (.int _) (.cons (x4.rf rf λm=>by have:=hG' p m;lia) (.cons (.int _) .nil))))) (λb m=>hG' b (by simpa using m)) (.inr (.inr (.inl ⟨_,x,s1,e,?_,.l,.l,hs,d1,d2,rfl⟩)))
   first | exact .inl rfl | exact .inr rfl
 repeat' fail
 refine(ZeY w2.c.tp hn).mono ?_
 intro v K3 q9;obtain⟨x3,_,G,⟨s1,rfl,hs⟩,rf,hG⟩:=q9
 repeat' fail
 exact done x3 (.tup (.cons (.str _) (.cons (.int _) (.cons rf .nil)))) (λb m=>hG b (by simpa using m)) (.inr (.inl ⟨x,s1,.o,.o,hs,rfl⟩))
theorem ZgC{pp n:Nat}(hn:n<=100)(hpn:pp<=n)(hps:ps.length<=100)(hq:∀q∈ps,q<=100): ∀{m d:Nat},d<m->Zg1 p q r s ns ps pp n d (Zdm m)
 | m+1,d,hd=>by
  intro K c hc w
  have hF:∀e,d=e+1->Zg1 p q r s ns ps pp n e (Zdm m):=λe h=>ZgC hn hpn hps hq .l
  have hp:=w.wr.lp
  have hr:=w.wr.lr
  have hs:=lt_of_at w.sz
  show Ok (Zs 5 (ZfI (Zdm m)) _ K) _
  unfold ZfI
  refine Z7 rfl ?_
  repeat' fail
  generalize hL:K.length=a
  let QL:Nat->Lc->Hp->Prop:=λi U M=>U 0=some (.ref p)/\U 1=some (szV pp n s)/\U 2=some (.ref r)/\U 3=some (.int d)/\U 5=some (.ref a)/\Wr p q r s ns ps K M/\∃vs ts F,M[a]?=some vs/\RFs M vs ts F/\a∉F/\(∀b∈F,K.length<=b)/\ts.length<=i/\∀t∈ts,StQ (Pl7 pp n ps) (ZbH n) d t
  refine ZdO (m:=c) QL ?_ ?_ ?_
  ·exact⟨.w,.w,.w,.w,.w,w.wr.app,[],[],[],by rw[<-hL];exact Zv _ _,.nil,.s,.s,.s,.s⟩
  ·intro i U M hi q9;obtain⟨e0,e1,e2,e3,e5,wM,vs,ts,G,ea,rv,na,hG,hl,hS⟩:=q9
   obtain⟨r0,r1,er⟩:=wM.c.rm
   by_cases h:r0>0
   ·repeat' fail
    refine Zc6 er w.r0 .d .s ?_
    rw[show [V.int r0,.int r1].set (0:Int).toNat (.int (r0-1))=[.int (r0-1),.int r1]from rfl]
    have w1:Wr p q r s ns ps K (M.set r [.int (r0-1),.int r1]):=wM.room
    have ea1:(M.set r [.int (r0-1),.int r1])[a]?=some vs:=Zbg .l ea
    have rv1:RFs (M.set r [.int (r0-1),.int r1]) vs ts G:=rv.frame λb m=>Yy2 (by have:=hG b m;lia)
    generalize M.set r [.int (r0-1),.int r1]=M1 at *
    repeat' fail
    refine(Zot hF w1.c hn hpn hps hq).mono ?_
    intro v M2 q9;obtain⟨y2,t,F,rf,hf,hst⟩:=q9
    have ea2:=y2.at .l .l ea1
    have rv2:=y2.rfs rv1 λb m=>by have:=hG b m;lia
    have l1:=lt_of_at ea1
    have lv:=rv.length
    refine Zcd ea2 .l (by rw[ZD];lia) ?_
    have ne:∀b∈F,b≠a:=λb m=>by have:=hf b m;lia
    refine⟨.w,.w,.w,.w,.w,(w1.trans y2).set .l .l,vs++[v],ts++[t],G++F,Yy6 (lt_of_at ea2),?_,?_,?_,by simp;omega,?_⟩
    ·exact List.append_nil F▸rfs_app (.cons (rf.frame λb m=>Yy2 (Ne.symm (ne b m))) .nil) (rv2.frame λb m=>Yy2 λz=>na (by rw[z];exact m))
    ·simp only[List.mem_append,not_or]
     exact⟨na,λm=>ne a m rfl⟩
    ·intro b m
     rcases Zz8.mp m with m | m
     ·exact hG b m
     ·have:=hf b m;have:=w1.ex.1;lia
    ·intro u m
     rcases Zz8.mp m with m | m
     ·exact hS u m
     ·rw[List.mem_singleton.mp m];exact hst
   ·repeat' fail
    exact⟨.w,.w,.w,.w,.w,wM,vs,ts,G,ea,rv,na,hG,.l,hS⟩
  ·intro U M q9;obtain⟨e0,e1,e2,e3,e5,wM,vs,ts,G,ea,rv,na,hG,hl,hS⟩:=q9
   repeat' fail
   refine⟨wM,a,vs,ts,G,rfl,ea,rv,na,λb m=>?_,hl,hS⟩
   rcases Zz7.mp m with rfl | m
   ·lia
   ·rw[<-hL];exact hG b m
end
end L
namespace L
theorem Zex{b:Bool}(h:Q (.int (if b then 1 else 0)) H): Ok (ZeU [.bool b] H) Q:=⟨_,_,rfl,h⟩
section
variable {p q r s:Nat} {ns:List Int} {ps:List Nat} {H K M:Hp}
def Bd(H:Hp)(ps:List Nat)(pp n d k a:Nat)(M:Hp): Prop:=∃vs ts F,M[a]?=some vs/\RFs M vs ts F/\a∉F/\(∀b∈a::F,H.length<=b)/\ts.length<=k/\∀t∈ts,StQ (Pl7 pp n ps) (ZbH n) d t
variable {pp n d k a:Nat}
theorem Bd.keep(h:Bd H ps pp n d k a K)(e:∀b,H.length<=b->b<K.length->M[b]?=K[b]?): Bd H ps pp n d k a M:=by
 obtain⟨vs,ts,F,ea,rf,na,hf,hl,hs⟩:=h
 exact⟨vs,ts,F,(e a (hf a Zz5) (lt_of_at ea)).trans ea,rf.frame λb m=>e b (hf b (Zz2 _ m)) (rf.lt b m),na,hf,hl,hs⟩
theorem Bd.ws(h:Bd H ps pp n d k a K)(u:Ws p q ns K M)(hp:p<H.length): Bd H ps pp n d k a M:=h.keep λb hb l=>u.ex.2 b l (by simp;lia)
theorem Bd.le(h:Bd H ps pp n d k a M)(l:k<=k'): Bd H ps pp n d k' a M:=by
 obtain⟨vs,ts,F,ea,rf,na,hf,hl,hs⟩:=h
 exact⟨vs,ts,F,ea,rf,na,hf,Nat.le_trans hl l,hs⟩
theorem Bd.ne(h:Bd H ps pp n d k a M)(hp:p<H.length): a≠0:=by
 obtain⟨vs,ts,F,ea,rf,na,hf,hl,hs⟩:=h
 have:=hf a Zz5
 lia
theorem Bd.ge(h:Bd H ps pp n d k a M): H.length<=a:=by
 obtain⟨vs,ts,F,ea,rf,na,hf,hl,hs⟩:=h
 exact hf a Zz5
theorem Bd.push(h:Bd H ps pp n d k a M)(rf:RF M v t G)(hG:∀b∈G,H.length<=b/\b≠a)(ht:StQ (Pl7 pp n ps) (ZbH n) d t)(hp:p<H.length)(hk:k<=50)(done:∀vs,Bd H ps pp n d (k+1) a (M.set a vs)->Q .none (M.set a vs)): Ok (Zbc [.ref a,v] M) Q:=by
 walk_at "p"
 have h0:=h.ne hp
 obtain⟨vs,ts,F,ea,rv,na,hf,hl,hs⟩:=h
 have lv:=rv.length
 refine Zcd ea h0 (by rw[ZD];lia) (done _ ⟨vs++[v],ts++[t],F++G,Yy6 (lt_of_at ea),?_,?_,?_,by simp;omega,?_⟩)
 ·exact List.append_nil G▸rfs_app (.cons (rf.frame λb m=>Yy2 (Ne.symm (hG b m).2)) .nil) (rv.frame λb m=>Yy2 λz=>na (by rw[z];exact m))
 ·simp only[List.mem_append,not_or]
  exact⟨na,λm=>(hG a m).2 rfl⟩
 ·intro b m
  simp only[List.mem_cons,List.mem_append]at m hf
  rcases m with m | m | m
  ·exact hf b (.inl m)
  ·exact hf b (.inr m)
  ·exact(hG b m).1
 ·intro u m
  rcases Zz8.mp m with m | m
  ·exact hs u m
  ·rw[List.mem_singleton.mp m];exact ht
theorem Ws.body(w:Ws p q ns H K)(u:Wr p q r s ns ps K M)(hr:H.length<=r): Ws p q ns H M:=⟨⟨Nat.le_trans w.ex.1 u.ex.1,λb hb n=>(u.ex.2 b (Nat.lt_of_lt_of_le hb w.ex.1) (by simp at n ⊢;lia)).trans (w.ex.2 b hb n)⟩,u.c.tp,w.lp,w.lq⟩
theorem Tp.room{y:Int}(t:Tp p q ns K)(es:K[s]?=some (ps.map λi=>V.int (i:Nat)))(sp:s≠p): Wc p q K.length s ns ps (K++[[.int x,.int y]]):=by
 have h1:=t.lt
 have h2:=t.lq
 have h3:=lt_of_at es
 exact⟨t.ws.app.tp,⟨x,y,Zv _ _⟩,Zz es,.l,.l,.l,sp,.l⟩
theorem Ztt{v:Int}(h0:0<=v)(h1:v<12): ∃z:Nat,z<=4/\([0,1,1,0,1,2,1,0,3,1,1,4]:List Int).getD v.toNat 0=z:=ZjC .d _
theorem Zqr{few:Bool}(t:Tp p q ns K)(es:K[s]?=some (ps.map λi=>V.int (i:Nat)))(sp:s≠p)(hps:ps.length<=100)(hq:∀q∈ps,q<=100): Ok (ZfA [.ref p,.ref s,.bool few] K) λv M=>Ws p q ns K M/\∃pp n a:Nat,v=.tup [.int pp,.int n,.ref a]/\pp<=n/\1<=n/\n<=4/\Bd K ps pp n 1 4 a M:=by
 walk_at "p"
 have hp:=t.lt
 have hs:=lt_of_at es
 unfold ZfA ZhR
 refine Z7 rfl ?_
 repeat' fail
 refine(ZU t.ws.app.tp .d).dr λK1 i x1 i0 i1=>?_
 obtain⟨pp,hp4,epp⟩:=Ztt i0 i1
 refine Zch (ns:=[0,1,1,0,1,2,1,0,3,1,1,4]) (x1.at .l (Zv _ _)) i0 (by simp;omega) ?_
 rw[epp]
 repeat' fail
 refine(ZU x1.tp .d).dr λK2 w x2 w0 w1=>?_
 iterate 3 fail
 obtain⟨n,hn,n1,n4,pn⟩:∃n:Nat,(if(if(pp:Int)+w>1 then(pp:Int)+w else 1)<4 then if(pp:Int)+w>1 then(pp:Int)+w else 1 else 4)=n/\1<=n/\n<=4/\pp<=n:=by
  refine⟨(if(if(pp:Int)+w>1 then(pp:Int)+w else 1)<4 then if(pp:Int)+w>1 then(pp:Int)+w else 1 else 4).toNat,?_,?_,?_,?_⟩
  all_goals split <;> split <;> lia
 rw[hn]
 have z2:Ws p q ns K K2:=((t.ws.app).trans x1).trans x2
 let QQ:Lc->Hp->Prop:=λU M=>∃fl:Int,U 5=some (.int fl)/\Ws p q ns K M/\U 0=some (.ref p)/\U 1=some (.ref s)/\U 3=some (.int pp)/\U 4=some (.int n)
 refine ZcR QQ ?_ ?_
 ·by_cases h:(n:Int)<3
  ·cases few
   ·repeat' fail
    refine(ZU z2.tp .d).dr λK3 j x3 j0 j1=>?_
    repeat' fail
    refine Zex ⟨_,rfl,z2.trans x3,?_⟩
    walk_at "rds"
   ·repeat' fail
    refine Zex ⟨_,rfl,z2,?_⟩
    walk_at "rds"
  ·repeat' fail
   refine Zex ⟨_,rfl,z2,?_⟩
   walk_at "rds"
 intro U K3 q9;obtain⟨fl,e5,z3,e0,e1,e3,e4⟩:=q9
 repeat' fail
 have c4:=z3.tp.room (x:=2) (y:=fl) (z3.at sp es) sp
 have l3:=z3.ex.1
 refine(ZU c4.tp .d).dr λK4 c x4 c0 c1=>?_
 obtain⟨c,rfl⟩:∃k:Nat,c=k:=⟨c.toNat,.l⟩
 have c5:=c4.wr.draw x4
 repeat' fail
 refine(ZgC .l pn hps hq (m:=9) (d:=1) .d K4 c .l c5.c).mono ?_
 intro _ K5 q9;obtain⟨y5,a,vs,ts,Fb,rfl,ea,rb,na,fb,lb,hb⟩:=q9
 have z4:Ws p q ns K K4:=z3.app.trans x4
 have z5:Ws p q ns K K5:=z4.body y5 l3
 have bd:Bd K ps pp n 1 3 a K5:=⟨vs,ts,Fb,ea,rb,na,λb m=>Nat.le_trans z4.ex.1 (fb b m),.l,hb⟩
 clear ea rb na fb lb hb y5 c5 c4 x4 z4 z3
 let QQ:Lc->Hp->Prop:=λU M=>Ws p q ns K M/\Bd K ps pp n 1 4 a M/\U 3=some (.int pp)/\U 4=some (.int n)/\U 6=some (.ref a)
 refine ZcR QQ ?_ ?_
 ·have es5:=z5.at sp es
  by_cases h1:(n:Int)>pp
  ·by_cases h2:(ps.length:Int)>0
   ·repeat' fail
    refine(ZU z5.tp .d).dr λK6 j x6 j0 j1=>?_
    have es6:=x6.at sp es5
    by_cases h3:j=2
    ·repeat' fail
     refine(ZU x6.tp (by simp;lia)).dr λK7 j x7 j0 j1=>?_
     rw[List.length_map]at j1
     obtain⟨f,rfl⟩:∃f:Nat,j=f:=⟨j.toNat,.l⟩
     have hf:f<ps.length:=by lia
     have hk:=hq ps[f] (List.getElem_mem hf)
     have ek:ps[f]?=some ps[f]:=Yy1 hf
     generalize ps[f]=k at hk ek
     have ek':(ps.map λi=>V.int (i:Nat))[((f:Nat):Int).toNat]?=some (.int k):=by simp[ek]
     have es7:=x7.at sp es6
     repeat' fail
     refine Zjc (n:=n) x7.tp .l hk .w .w .d λvs M ss G u rf hG hl hs=>?_
     repeat' fail
     have z7:=(z5.trans x6).trans x7
     have b7:=(bd.ws x6 hp).ws x7 hp
     obtain⟨_,_,_,ea7,_⟩:=b7
     have a7:=lt_of_at ea7
     have l7:=z7.ex.1
     have lu:=u.ex.1
     refine Bd.push (((bd.ws x6 hp).ws x7 hp).ws u.app hp) (t:=.tup [.str "call",.int n,.int f,.lst (ss.map smL)]) (.tup (.cons (.str _) (.cons (.int _) (.cons (.int _) (.cons (.ref (Zv _ _) (rf.ext _)) .nil))))) (λb m=>?_) (StQ.plain (.inr (.inr (.inr (.inr ⟨n,f,ss,k,.l,.l,ek,hl,hs,rfl⟩))))) hp .d λvs' h=>⟨(z7.trans u).app.set bd.ge,h,?_⟩
     ·simp only[List.nil_append,List.append_nil,List.mem_cons]at m
      rcases m with rfl | m
      ·lia
      ·have:=hG b m;lia
     ·walk_at "rds"
    ·repeat' fail
     exact⟨z5.trans x6,(bd.ws x6 hp).le .d,by walk_at "rds"⟩
   ·repeat' fail
    exact⟨z5,bd.le .d,by walk_at "rds"⟩
  ·repeat' fail
   exact⟨z5,bd.le .d,by walk_at "rds"⟩
 intro U M q9;obtain⟨z,b,e3,e4,e6⟩:=q9
 repeat' fail
 exact⟨z,pp,n,a,rfl,pn,n1,n4,b⟩
end
end L
namespace L
def FR(H M:Hp)(v:V)(t:T): Prop:=∃F,RF M v t F/\∀b∈F,H.length<=b
def FRs(H M:Hp)(vs:List V)(ts:List T): Prop:=∃F,RFs M vs ts F/\∀b∈F,H.length<=b
section
variable {p q r s:Nat} {ns:List Int} {ps:List Nat} {H K M N:Hp} {v:V} {t:T} {vs:List V} {ts:List T} {pp n d k a:Nat}
theorem FR.int{i:Int}: FR H M (.int i) (.int i):=⟨_,.int i,.s⟩
theorem FR.str: FR H M (.str w) (.str w):=⟨_,.str w,.s⟩
theorem FRs.nil: FRs H M [] []:=⟨_,.nil,.s⟩
theorem FRs.cons(a:FR H M v t)(b:FRs H M vs ts): FRs H M (v::vs) (t::ts):=by
 obtain⟨F,r,hf⟩:=a
 obtain⟨G,r',hg⟩:=b
 exact⟨F++G,.cons r r',λb m=>(Zz8.mp m).elim (hf b) (hg b)⟩
theorem FRs.app{ws:List T}(a:FRs H M vs ts)(b:FRs H M us ws): FRs H M (vs++us) (ts++ws):=by
 obtain⟨F,r,hf⟩:=a
 obtain⟨G,r',hg⟩:=b
 exact⟨F++G,rfs_app r' r,λb m=>(Zz8.mp m).elim (hf b) (hg b)⟩
theorem FR.tup(a:FRs H M vs ts): FR H M (.tup vs) (.tup ts):=by
 obtain⟨F,r,hf⟩:=a
 exact⟨F,.tup r,hf⟩
theorem FR.lst(e:M[a]?=some vs)(h:H.length<=a)(r:FRs H M vs ts): FR H M (.ref a) (.lst ts):=by
 obtain⟨F,r,hf⟩:=r
 exact⟨_,.ref e r,λb m=>(Zz7.mp m).elim (λz=>z▸h) (hf b)⟩
theorem FR.keep(h:FR H M v t)(e:∀b,H.length<=b->b<M.length->N[b]?=M[b]?): FR H N v t:=by
 obtain⟨F,r,hf⟩:=h
 exact⟨F,r.frame λb m=>e b (hf b m) (r.lt b m),hf⟩
theorem FRs.keep(h:FRs H M vs ts)(e:∀b,H.length<=b->b<M.length->N[b]?=M[b]?): FRs H N vs ts:=by
 obtain⟨F,r,hf⟩:=h
 exact⟨F,r.frame λb m=>e b (hf b m) (r.lt b m),hf⟩
theorem Ws.kp(u:Ws p q ns K M)(hp:p<H.length): ∀b,H.length<=b->b<K.length->M[b]?=K[b]?:=λb hb l=>u.ex.2 b l (by simp;lia)
theorem ZmY: ∀b,H.length<=b->b<M.length->(M++X)[b]?=M[b]?:=λb _ l=>Yy0 l
theorem FR.ws(h:FR H K v t)(u:Ws p q ns K M)(hp:p<H.length): FR H M v t:=h.keep (u.kp hp)
theorem FRs.ws(h:FRs H K vs ts)(u:Ws p q ns K M)(hp:p<H.length): FRs H M vs ts:=h.keep (u.kp hp)
theorem FR.ext(h:FR H K v t): FR H (K++X) v t:=h.keep ZmY
theorem FRs.ext(h:FRs H K vs ts): FRs H (K++X) vs ts:=h.keep ZmY
theorem FR.ints{s:List Int}(e:M[a]?=some (s.map V.int))(h:H.length<=a): FR H M (.ref a) (smL s):=⟨_,ZbO e,λb m=>by simp at m;lia⟩
def Lf(H:Hp)(ps:List Nat)(pp n d k a:Nat)(M:Hp): Prop:=∃vs ts,M[a]?=some vs/\FRs H M vs ts/\H.length<=a/\ts.length<=k/\∀t∈ts,StQ (Pl7 pp n ps) (ZbH n) d t
theorem Bd.lf(h:Bd H ps pp n d k a M): Lf H ps pp n d k a M:=by
 obtain⟨vs,ts,F,ea,rf,na,hf,hl,hs⟩:=h
 exact⟨vs,ts,ea,⟨F,rf,λb m=>hf b (Zz2 _ m)⟩,hf a Zz5,hl,hs⟩
theorem Lf.keep(h:Lf H ps pp n d k a K)(e:∀b,H.length<=b->b<K.length->M[b]?=K[b]?): Lf H ps pp n d k a M:=by
 obtain⟨vs,ts,ea,rf,ha,hl,hs⟩:=h
 exact⟨vs,ts,(e a ha (lt_of_at ea)).trans ea,rf.keep e,ha,hl,hs⟩
theorem Lf.ws(h:Lf H ps pp n d k a K)(u:Ws p q ns K M)(hp:p<H.length): Lf H ps pp n d k a M:=h.keep (u.kp hp)
theorem Lf.le(h:Lf H ps pp n d k a M)(l:k<=k'): Lf H ps pp n d k' a M:=by
 obtain⟨vs,ts,ea,rf,ha,hl,hs⟩:=h
 exact⟨vs,ts,ea,rf,ha,Nat.le_trans hl l,hs⟩
theorem Lf.new(rf:FRs H M vs ts)(h:H.length<=M.length)(hk:ts.length<=k)(hs:∀t∈ts,StQ (Pl7 pp n ps) (ZbH n) d t): Lf H ps pp n d k M.length (M++[vs]):=⟨vs,ts,Zv _ _,rf.ext,h,hk,hs⟩
def zs(n:Nat)(a b:Int): List Int:=a::b::List.replicate (n-1) 0
theorem Zjq{a:Int}(hn:1<=n)(ha:C60 a)(hb:C9 b): SumOk n (zs n a b):=by
 refine⟨by simp[zs];lia,by simpa [zs]using ha,λk hk=>?_⟩
 simp only[zs,List.drop_succ_cons,List.drop_zero,List.mem_cons]at hk
 rcases hk with rfl | hk
 ·exact hb
 ·rw[(List.mem_replicate.mp hk).2];unfold C9;lia
theorem ZgD{A:Hp}(n:Nat)(x y:Int)(w:Ws p q ns K A): ∃C,A++[[V.int x,.int y]]++[(zs n x y).map V.int]=C/\Ws p q ns A C/\∃s,(A++[[V.int x,.int y]]).length=s/\FR K C (.ref s) (smL (zs n x y)):=⟨_,rfl,w.tp.ws.app.app,_,rfl,.ints (Zv _ _) w.app.ex.1⟩
theorem Znt(t:Tp p q ns K)(n1:1<=n)(n4:n<=4): Ok (Zel [.ref p,.int n] K) λv M=>Ws p q ns K M/\∃a,v=.ref a/\Lf K ps 0 n 2 3 a M:=by
 walk_at "p"
 have e60:=T60_eq
 have hp:=t.lt
 have zsV:∀{x y:Int},[V.int x,V.int y]++(List.replicate (n-1) (0:Int)).map V.int=(zs n x y).map V.int:=rfl
 have st:∀{x y:Int},C60 x->C9 y->Pl7 0 n ps (.tup [.str "set",.int 1,smL (zs n x y)]):=λhx hy=>.inr (.inl ⟨1,_,.l,.o,Zjq n1 hx hy,rfl⟩)
 unfold Zel Zik
 refine Z7 rfl ?_
 repeat' fail
 refine(ZU t .d).dr λK1 v x1 v0 v1=>?_
 repeat' fail
 refine(ZU x1.tp .d).dr λK2 w x2 w0 w1=>?_
 have w2:=x1.trans x2
 repeat' fail
 have w3:Ws p q ns K (K2++[[V.int 0]]++[List.replicate ((n:Int)-1).toNat (V.int 0)]):=w2.app.app
 have e4:(K2++[[V.int 0]]++[List.replicate ((n:Int)-1).toNat (V.int 0)])[(K2++[[V.int 0]]).length]?=some ((List.replicate (n-1) (0:Int)).map V.int):=by
  rw[Zv,List.map_replicate,show((n:Int)-1).toNat=n-1 by lia]
 have hz:K.length<=(K2++[[V.int 0]]).length:=w2.app.ex.1
 generalize K2++[[V.int 0]]++[List.replicate ((n:Int)-1).toNat (V.int 0)]=K3 at *
 generalize (K2++[[V.int 0]]).length=z at *
 refine(ZU w3.tp .d).dr λK4 x x4 y0 y1=>?_
 have w4:=w3.trans x4
 have e4:=x4.at .l e4
 iterate 6 fail
 rw[zsV]
 have w5:Ws p q ns K (K4++[[V.int (1+x),.int 1]]++[(zs n (1+x) 1).map V.int]):=w4.app.app
 have e5:(K4++[[V.int (1+x),.int 1]]++[(zs n (1+x) 1).map V.int])[z]?=_:=Zz (Zz e4)
 have f5:FR K (K4++[[V.int (1+x),.int 1]]++[(zs n (1+x) 1).map V.int]) (.ref (K4++[[V.int (1+x),.int 1]]).length) (smL (zs n (1+x) 1)):=.ints (Zv _ _) w4.app.ex.1
 generalize K4++[[V.int (1+x),.int 1]]++[(zs n (1+x) 1).map V.int]=K5 at *
 generalize (K4++[[V.int (1+x),.int 1]]).length=s5 at *
 have l5:Lf K ps 0 n 1 1 K5.length (K5++[[.tup [.str "set",.int 1,.ref s5]]]):=.new (.cons (.tup (.cons .str (.cons .int (.cons f5 .nil)))) .nil) w5.ex.1 .s λt m=>by rw[List.mem_singleton.mp m];exact .plain (st (by unfold C60;lia) (by unfold C9;lia))
 have w6:Ws p q ns K (K5++[[.tup [.str "set",.int 1,.ref s5]]]):=w5.app
 have e6:(K5++[[.tup [.str "set",.int 1,.ref s5]]])[z]?=_:=Zz e5
 generalize K5++[[.tup [.str "set",.int 1,.ref s5]]]=K6 at *
 generalize K5.length=a5 at *
 let QQ:Lc->Hp->Prop:=λU M=>∃a5:Nat,U 5=some (.ref a5)/\Ws p q ns K M/\M[z]?=some ((List.replicate (n-1) (0:Int)).map V.int)/\Lf K ps 0 n 1 2 a5 M/\U 0=some (.ref p)/\U 1=some (.int n)/\U 2=some (.int (v-8))/\U 3=some (.int (v-8+1+w))/\U 4=some (.ref z)
 refine ZcR QQ ?_ ?_
 ·by_cases h1:(n:Int)>1
  ·repeat' fail
   refine(ZU w6.tp .d).dr λK7 j x7 j0 j1=>?_
   have e7:=x7.at .l e6
   have l7:=l5.ws x7 hp
   by_cases h2:j=1
   ·repeat' fail
    refine(ZeY x7.tp .l).mono ?_
    intro v K8 q9;obtain⟨x8,_,F,⟨s1,rfl,hs1⟩,rs,hf⟩:=q9
    have e8:=x8.at .o e7
    obtain⟨vs,ts,ea,fs,ha,hl,hs⟩:=l7.ws x8 hp
    obtain⟨_,rfs,_⟩:=id fs
    have lv:=rfs.length
    have lK:=w6.ex.1
    have l7:=x7.ex.1
    have f8:FR K K8 v (smL s1):=⟨F,rs,λb m=>by have:=hf b m;lia⟩
    repeat' fail
    have w8:=((w6.trans x7).trans x8)
    refine⟨_,rfl,w8.app.app,Zz (Zz e8),.new (ts:=[.tup [.str "set",.int n,smL s1]]++ts) (FRs.app (.cons (.tup (.cons .str (.cons .int (.cons f8.ext .nil)))) .nil) fs.ext) w8.app.ex.1 (by simp;omega) λt m=>?_,by walk_at "rds"⟩
    rcases Zz8.mp m with m | m
    ·rw[List.mem_singleton.mp m];exact .plain (.inr (.inl ⟨n,_,.l,.l,hs1,rfl⟩))
    ·exact hs t m
   ·repeat' fail
    exact⟨a5,.w,w6.trans x7,e7,l7.le .d,by walk_at "rds"⟩
  ·repeat' fail
   exact⟨a5,.w,w6,e6,l5.le .d,by walk_at "rds"⟩
 clear l5 w6 e6 e5 w5 f5 w4 w3 x4 e4
 intro U M q9;obtain⟨a5,g5,wM,eM,lM,g0,g1,g2,g3,g4⟩:=q9
 repeat' fail
 obtain⟨A,hA,uA,s6,hs6,fA⟩:=ZgD n (-(v-8+1+w)) 1 wM
 rw[zsV,hA,hs6]
 have wA:=wM.trans uA
 refine(ZU wA.tp .d).dr λB y xB b0 b1=>?_
 have uB:=uA.trans xB
 have wB:=wM.trans uB
 have eB:=uB.at .l eM
 repeat' fail
 obtain⟨C,hC,uC,s7,hs7,fC⟩:=ZgD n (v-8+1+w+2+y) (-1) wB
 rw[zsV,hC,hs7]
 have wC:=wB.trans uC
 refine(ZU wC.tp .d).dr λD x xD d0 d1=>?_
 have uD:=uC.trans xD
 have wD:=wB.trans uD
 have eD:=uD.at .l eB
 repeat' fail
 obtain⟨E,hE,uE,s8,hs8,fE⟩:=ZgD n x 1 wD
 rw[zsV,hE,hs8]
 have wE:=wD.trans uE
 refine(Zew wE.tp .l).mono ?_
 intro v1 F q9;obtain⟨xF,c1,_,hc1,rc1,hf1⟩:=q9
 have uF:=uE.trans xF
 have wF:=wD.trans uF
 have eF:=uF.at .l eD
 have fF:FR K F v1 c1:=⟨_,rc1,λb m=>Nat.le_trans wE.ex.1 (hf1 b m)⟩
 have l8:Lf K ps 0 n 0 2 F.length (F++[[.tup [.str "set",.int 1,.ref s8],.tup [.str "say",v1]]]):=.new (.cons (.tup (.cons .str (.cons .int (.cons (fE.ws xF hp) .nil)))) (.cons (.tup (.cons .str (.cons fF .nil))) .nil)) wF.ex.1 .s λt m=>by
  simp only[List.mem_cons,List.not_mem_nil,or_false]at m
  rcases m with rfl | rfl
  ·exact .plain (st (by unfold C60;lia) (by unfold C9;lia))
  ·exact .plain (.inl ⟨c1,hc1,rfl⟩)
 repeat' fail
 obtain⟨G,hG,uG⟩:∃G,F++[[.tup [.str "set",.int 1,.ref s8],.tup [.str "say",v1]]]=G/\Ws p q ns F G:=⟨_,rfl,wF.tp.ws.app⟩
 rw[hG]at l8 ⊢
 have wG:=wF.trans uG
 obtain⟨I,hI,uI,s9,hs9,fI⟩:=ZgD n (v-8) 0 wG
 rw[zsV,hI,hs9]
 have wI:=wG.trans uI
 refine(Zew wI.tp .l).mono ?_
 intro v2 J q9;obtain⟨xJ,c2,_,hc2,rc2,hf2⟩:=q9
 repeat' fail
 have wJ:=wI.trans xJ
 have fJ:FR K J v2 c2:=⟨_,rc2,λb m=>Nat.le_trans wI.ex.1 (hf2 b m)⟩
 have u1:=uG.trans (uI.trans xJ)
 have u2:=uF.trans u1
 obtain⟨vs5,ts5,ea5,r5,ha5,hl5,hs5⟩:=lM.ws (uB.trans (uD.trans u2)) hp
 obtain⟨vs8,ts8,ea8,r8,ha8,hl8,hs8'⟩:=l8.ws (uI.trans xJ) hp
 have f6:=fA.ws (xB.trans (uD.trans u2)) hp
 have f7:=fC.ws (xD.trans u2) hp
 have f9:=fI.ws xJ hp
 refine⟨wJ.app.app.app,_,rfl,.new (ts:=[.tup [.str "set",.int 1,smL (zs n (v-8) 0)],Ze8 (.tup [.str wU,smL (zs n (-(v-8+1+w)) 1)]) ts5,ZjD (.tup [.str wU,smL (zs n (v-8+1+w+2+y) (-1))]) [Ze8 c2 ts8] []]) (.cons (.tup (.cons .str (.cons .int (.cons f9.ext.ext .nil)))) (.cons (.tup (.cons .str (.cons (.tup (.cons .str (.cons f6.ext.ext .nil))) (.cons (.lst (Zz (Zz ea5)) ha5 r5.ext.ext) .nil)))) (.cons (.tup (.cons .str (.cons (.tup (.cons .str (.cons f7.ext.ext .nil))) (.cons (.lst (Zz (Zv _ _)) wJ.ex.1 (.cons (.tup (.cons .str (.cons fJ.ext.ext (.cons (.lst (Zz (Zz ea8)) ha8 r8.ext.ext) .nil)))) .nil)) (.cons (.lst (Zv _ _) wJ.app.ex.1 .nil) .nil))))) .nil))) wJ.app.app.ex.1 .s λt m=>?_⟩
 simp only[List.mem_cons,List.not_mem_nil,or_false]at m
 rcases m with rfl | rfl | rfl
 ·exact .plain (st (by unfold C60;lia) (by unfold C9;lia))
 ·exact .inr (.inr ⟨_,_,rfl,⟨_,Zjq n1 (by unfold C60;lia) (by unfold C9;lia),.inl rfl⟩,hs5,.l⟩)
 ·refine .inr (.inl ⟨_,_,_,rfl,⟨_,Zjq n1 (by unfold C60;lia) (by unfold C9;lia),.inl rfl⟩,λt m=>?_,.s,.s,.s⟩)
  rw[List.mem_singleton.mp m]
  exact .inr (.inr ⟨_,_,rfl,hc2,hs8',.l⟩)
end
inductive Nice: Nat->T->Prop where
 | none {n:Nat}:Nice n .none
 | bool {n:Nat} (b:Bool):Nice n (.bool b)
 | int {n:Nat} (i:Int):Nice n (.int i)
 | str {n:Nat} {s:Str}:PyData.strOk s=true->Nice n (.str s)
 | tup {n:Nat} {ts:List T}:ts.length<=1000->(∀t∈ts,Nice n t)->Nice (n+1) (.tup ts)
 | lst {n:Nat} {ts:List T}:ts.length<=1000->(∀t∈ts,Nice n t)->Nice (n+1) (.lst ts)
theorem Nice.mono(h:Nice n t)(k:n<=m): Nice m t:=by
 induction h generalizing m with
 | none=>exact .none
 | bool b=>exact .bool b
 | int i=>exact .int i
 | str h=>exact .str h
 | tup h1 h2 ih=>
  match m,k with
  | m+1,k=>exact .tup h1 λt ht=>ih t ht .l
 | lst h1 h2 ih=>
  match m,k with
  | m+1,k=>exact .lst h1 λt ht=>ih t ht .o
theorem Zpt{f:Nat->T}(h:t∈tab n f): ∃i,i<n/\f i=t:=by
 simp only[tab,List.mem_map,List.mem_range]at h
 obtain⟨i,a,b⟩:=h
 exact⟨i,a,b⟩
theorem nl0: ∀t∈([]:List T),Nice n t:=λt h=>(List.not_mem_nil h).elim
theorem Z2(h:Nice n t)(k:∀t∈ts,Nice n t): ∀u∈t::ts,Nice n u:=λu m=>by
 rcases Zz7.mp m with rfl | m
 ·exact h
 ·exact k u m
def iF: Str:=Str.ofString "if"
def wH: Str:=Str.ofString "while"
def Zd3(t:T): Prop:=Nice 3 t/\∃w rest,t=.tup (.str w::rest)/\(PyData.strOk w && PyData.strOk iF && decide (w≠iF))=true/\(PyData.strOk w && PyData.strOk wH && decide (w≠wH))=true
def ifT(c:T)(a b:List T): T:=.tup [.str iF,c,.lst a,.lst b]
def whT(c:T)(a:List T): T:=.tup [.str wH,c,.lst a]
end L
namespace L
def ZiX: Sm:=Zo (Zc ZC (Zc Zf (Za 0) (Zd 0)) (Zg ZcX (Zb (Z3 (Ze5 (ZaB (Za 0) (Zaw (Zd 1)) ZaU) (Za 1)) (ZcZ 100 101) ZJ (Zc ZaI (Za 100) (Za 101))) Ze)))
def ZcO: .y:=Zs 2 ZiX
def unI: T->Option Int
 | .int k=>some k
 | _=>none
noncomputable def Zq(bs:List Int): T:=.lst (bs.map T.int)
noncomputable def ZbU(c:Nat->Int)(x:Nat->Int): Nat->Int
 | 0=>c 0
 | j+1=>ZbU c x j+c (j+1)*x j
theorem ZlQ{c x:Nat->Int}: ∀n,c 0+(tab n λi=>c (i+1)*x i).sum=ZbU c x n
 | 0=>by simp[tab,ZbU]
 | n+1=>by
  rw[<-ZkG (n:=n) (f:=λi=>c (i+1)*x i),List.sum_append]
  have:=ZlQ (c:=c) (x:=x) n
  simp only[List.sum_cons,List.sum_nil,ZbU]
  lia
theorem ZkS{c d x:Nat->Int}: ∀n,(∀i,i<=n->c i=d i)->ZbU c x n=ZbU d x n
 | 0,h=>h 0 (Zz10 0)
 | n+1,h=>by rw[ZbU,ZbU,ZkS n λi hi=>h i .l,h (n+1) (Zz10 _)]
noncomputable def Za0(n:Nat)(c:Nat->Int): T:=.lst (tab (n+1) λi=>.int (c i))
def Sh(n:Nat)(c:Nat->Int): Prop:=∀i,i<n->-(2 ^ 64)<c (i+1)/\c (i+1)<2 ^ 64
noncomputable def gd(c:List Int)(i:Nat): Int:=c.getD i 0
theorem Zjr{c:List Int}(h:(c.map V.int)[i]?=some v): v=.int (gd c i):=by
 rw[List.getElem?_map]at h
 obtain⟨k,e,rfl⟩:=Zz1.mp h
 rw[gd,List.getD_eq_getElem?_getD,e];rfl
def Zbk(c bs:List Int): Prop:=c.length=bs.length+1/\bs.length<=60/\Sh bs.length (gd c)
def ZaQ(c bs:List Int): Int:=ZbU (gd c) (gd bs) bs.length
open Classical in
noncomputable def pf(R:List T->T->Prop)(ts:List T): Option T:=if h:∃t,R ts t then some h.choose else none
theorem Zcn{R:List T->T->Prop}(h:R ts t)(d:∀u,R ts u->u=t): pf R ts=some t:=by
 have k:∃t,R ts t:=⟨t,h⟩
 rw[pf,dif_pos k,d _ k.choose_spec]
theorem Zck{R:List T->T->Prop}(e:pf R ts=some t): R ts t:=by
 unfold pf at e
 split at e
 ·rename_i k
  cases e
  exact k.choose_spec
 ·cases e
theorem Zbn{a b:List Int}(h:Zq a=Zq b): a=b:=by
 simp only[Zq,T.lst.injEq]at h
 exact List.map_inj_right (λx y e=>by cases e;rfl) |>.mp h
def Ztu(ts:List T)(t:T): Prop:=∃c bs,ts=[Zq c,Zq bs]/\Zbk c bs/\t=.int (ZaQ c bs)
noncomputable def Zds: List T->Option T:=pf Ztu
theorem ZeM: ∀ks:List Int,Zb7 (ks.map T.int)=some ks
 | []=>rfl
 | k::ks=>by simp[Zb7,ZeM ks]
theorem ZrO{c:List Int}(h:Zbk c bs): Zds [Zq c,Zq bs]=some (.int (ZaQ c bs)):=Zcn ⟨c,bs,rfl,h,rfl⟩ λu ⟨c',bs',e,_,eu⟩=>by
 simp only[List.cons.injEq,and_true]at e
 cases Zbn e.1
 cases Zbn e.2
 exact eu
theorem ZdS{c:Nat->Int}: Za0 n c=Zq (tab (n+1) c):=by simp[Za0,Zq,tab]
theorem Zjd{c:Nat->Int}(h:i<n): gd (tab n c) i=c i:=by simp[gd,tab,h]
theorem ZeN{c:Nat->Int}(hn:bs.length<=60)(hc:Sh bs.length c): Zbk (tab (bs.length+1) c) bs:=⟨Zry,hn,λi hi=>by rw[Zjd .l];exact hc i hi⟩
def ZcH(c:Nat->Int)(bs:List Int): Int:=ZbU c (gd bs) bs.length
theorem ZiY{c:Nat->Int}(hn:bs.length<=60)(hc:Sh bs.length c): Zds [Za0 bs.length c,Zq bs]=some (.int (ZcH c bs)):=by
 rw[ZdS,ZrO (ZeN hn hc),ZaQ,ZkS _ λi hi=>Zjd .l]
 rfl
theorem ZdG{K:Hp}{a b:Nat}{c bs:List Int}(ea:K[a]?=some (c.map V.int))(eb:K[b]?=some (bs.map V.int))(h:Zbk c bs): ∃X,ZcO [.ref a,.ref b] K=some (.int (ZaQ c bs),K++X):=by
 obtain⟨h1,h2,h3⟩:=h
 have key:Ok (ZcO [.ref a,.ref b] K) λv M=>v=.int (ZaQ c bs)/\∃X,M=K++X:=by
  unfold ZcO ZiX
  refine Z7 rfl ?_
  repeat' fail
  have l1:((c.map V.int).drop 1).length=bs.length:=by simp;lia
  refine Zum (us:=(tab bs.length λi=>gd c (i+1)*gd bs i).map V.int) (by walk_at "at") (by walk_at "at") (by rw[l1];simp[tab]) .l (λi x y u hx hy hu=>?_) ?_
  ·have hi:i<bs.length:=by have:=(Zz6.mp hy).1;simpa using this
   rw[List.getElem?_drop,Nat.add_comm]at hx
   have ex:=Zjr hx
   have ey:=Zjr hy
   have eu:=Zjr hu
   subst ex ey eu
   repeat' fail
   refine ZeI (Zh9 (h3 i hi).1 (h3 i hi).2) ⟨?_,rfl⟩
   rw[Zjd hi]
  repeat' fail
  refine⟨?_,by walk_at "ext"⟩
  rw[ZaQ,<-ZlQ]
  rfl
 obtain⟨_,_,e,rfl,X,rfl⟩:=key
 exact⟨X,e⟩
end L
namespace L
def Zh1: Sm:=Zh (Zk 2 (Zc ZC (ZB (Zb (Zd 1) Ze)) (Za 1))) (Zo (Zg ZcX (Zb (Z3 (ZaM (Zb (Zg ZZ (Zb (Za 2) Ze)) Ze)) (Zw 100) ZJ (Zc ZaI (Zc Zf (Za 0) (Za 100)) (Zc Zf (Za 2) (Za 100)))) Ze)))
def Zcc: .y:=Zs 2 Zh1
theorem ZlR{c x:Nat->Int}: ∀n,(tab (n+1) λi=>c i*(if i=0 then 1 else x (i-1))).sum=ZbU c x n
 | 0=>by simp[tab,ZbU]
 | n+1=>by
  rw[<-ZkG,List.sum_append,ZlR n]
  simp[ZbU]
theorem ZdH{K:Hp}{a b:Nat}{c bs:List Int}(ea:K[a]?=some (c.map V.int))(eb:K[b]?=some (bs.map V.int))(h:Zbk c bs): ∃X,Zcc [.ref a,.ref b] K=some (.int (ZaQ c bs),K++X):=by
 obtain⟨h1,h2,h3⟩:=h
 have key:Ok (Zcc [.ref a,.ref b] K) λv M=>v=.int (ZaQ c bs)/\∃X,M=K++X:=by
  unfold Zcc Zh1
  refine Z7 rfl ?_
  repeat' fail
  have ef:(K++[[V.int 1]]++[[V.int 1]++bs.map V.int])[(K++[[V.int 1]]).length]?=some ((1::bs).map V.int):=Zv _ _
  have ea2:(K++[[V.int 1]]++[[V.int 1]++bs.map V.int])[a]?=some (c.map V.int):=Zz (Zz ea)
  have hM:∃X,K++[[V.int 1]]++[[V.int 1]++bs.map V.int]=K++X:=by walk_at "ext"
  generalize K++[[V.int 1]]++[[V.int 1]++bs.map V.int]=M at *
  generalize (K++[[V.int 1]]).length=d at *
  obtain⟨X,rfl⟩:=hM
  have l1:([V.int 1]++bs.map V.int).length=bs.length+1:=by simp
  rw[l1]
  fail
  have l2:((1:Int)::bs).length=bs.length+1:=rfl
  refine ZmN (λi=>gd c i*gd (1::bs) i) .l (λi hi=>?_) ?_
  ·repeat' fail
   refine ZeI ?_ ⟨?_,rfl⟩
   ·simp only[Int.toNat_natCast]
    by_cases h0:i=0
    ·subst h0;exact Zkf (b:=1) .d .d
    ·obtain⟨j,rfl⟩:∃j,i=j+1:=⟨i-1,.l⟩
     have:=h3 j .l
     exact Zh9 this.1 this.2
   ·simp[gd]
  repeat' fail
  refine⟨?_,by walk_at "ext"⟩
  rw[ZaQ,<-ZlR]
  congr 1
  refine congrArg List.sum (List.map_congr_left λi _=>?_)
  cases i <;> simp[gd]
 obtain⟨_,_,e,rfl,X,rfl⟩:=key
 exact⟨X,e⟩
def ZdZ(vf: .y): Sm:=Zh (Zk 2 (Zg vf (Zb (Zc Zf (Za 0) (Zd 1)) (Zb (Za 1) Ze)))) (Zh (Zu (Zl (Zc ZA (Zc Zf (Za 0) (Zd 0)) (ZF "under"))) (Zo (Zc oLt (Za 2) (Zd 0))) ZG) (Zh (Zu (Zl (Zc ZA (Zc Zf (Za 0) (Zd 0)) (ZF "same"))) (Zo (Zc ZA (Za 2) (Zd 0))) ZG) (Zo (Zc ZA (Zc Zcp (Za 2) (Zc Zf (Za 0) (Zd 2))) (Zd 0)))))
def ZlS: Sm:=ZdZ ZcO
def Zge: .y:=Zs 2 ZlS
def ZjZ: Sm:=ZdZ Zcc
def ZfK: .y:=Zs 2 ZjZ
def ZjE(vf: .y): Prop:=∀{K:Hp} {a b:Nat} {c bs:List Int},K[a]?=some (c.map V.int)->K[b]?=some (bs.map V.int)->Zbk c bs->∃X,vf [.ref a,.ref b] K=some (.int (ZaQ c bs),K++X)
noncomputable def hvP(w:Str)(r:List T)(v:Int): Option Bool:=if PyData.strOk w=true then(if w=Str.ofString "under" then some (decide (v<0))else if w=Str.ofString "same" then some (v == 0)else match r with
 | [.int d]=>if 0<d then some (v.fmod d == 0)else none
 | _=>none)else none
theorem Zgf{a b:Str}(ha:PyData.strOk a=true)(hb:PyData.strOk b=true)(h:Q (.bool (decide (a=b))) H): Ok (ZA (.str a) (.str b) H) Q:=by
 refine⟨_,_,?_,h⟩
 simp[ZA,ZbT,toD,SeqAt.shaped,PyData.canLay0,PyData.depth,PyData.eqv,ha,hb]
 rfl
theorem Zjs{s:Str}(e:U i=some (.tup (.str w::rv)))(hw:(PyData.strOk w && PyData.strOk s)=true): Zl (Zc ZA (Zc Zf (Za i) (Zd 0)) (ZF s)) U H=some (decide (w=s),H):=by
 simp only[Bool.and_eq_true]at hw
 have:Okt (Zl (Zc ZA (Zc Zf (Za i) (Zd 0)) (ZF s)) U H) λb M=>b=decide (w=s)/\M=H:=ZaD (Z6 (Z6 (Zr e (Zav (Zbe .d rfl (ZeF (Zgf hw.1 hw.2 (Zaq ⟨rfl,rfl⟩))))))))
 obtain⟨b,M,e,rfl,rfl⟩:=this
 exact e
section
variable {U:Lc} {H:Hp} {i:Nat} {w s:Str} {rv:List V} {a b:Sm} {t:Ts} {R:V->Hp->Prop} {N:Lc->Hp->Prop}
theorem _root_.PM.wk_wt(e:U i=some (.tup (.str w::rv)))(hw:(PyData.strOk w && PyData.strOk s && decide (w=s))=true)(k:Oks (a U H) R N): Oks (Zu (Zl (Zc ZA (Zc Zf (Za i) (Zd 0)) (ZF s))) a b U H) R N:=by
 rw[Bool.and_eq_true]at hw
 exact ZaS ⟨_,_,Zjs e hw.1,Za7 hw.2 k⟩
theorem _root_.PM.wk_wf(e:U i=some (.tup (.str w::rv)))(hw:(PyData.strOk w && PyData.strOk s && !decide (w=s))=true)(k:Oks (b U H) R N): Oks (Zu (Zl (Zc ZA (Zc Zf (Za i) (Zd 0)) (ZF s))) a b U H) R N:=by
 rw[Bool.and_eq_true]at hw
 exact ZaS ⟨_,_,Zjs e hw.1,ZaV (by simpa using hw.2) k⟩
theorem _root_.PM.wk_waf(e:U i=some (.tup (.str w::rv)))(hw:(PyData.strOk w && PyData.strOk s && !decide (w=s))=true)(k:Oks (b U H) R N): Oks (Zu (ZR (Zl (Zc ZA (Zc Zf (Za i) (Zd 0)) (ZF s))) t) a b U H) R N:=by
 rw[Bool.and_eq_true]at hw
 exact ZaS (Zcg ⟨_,_,Zjs e hw.1,ZaV (by simpa using hw.2) (ZaV rfl k)⟩)
end
theorem ZiE(R:ZjE vf){b:Nat}{c:List Int}{h:Bool}(ea:K[a]?=some (c.map V.int))(eb:K[b]?=some (bs.map V.int))(ok:Zbk c bs)(rr:RFs K rv r F)(e:hvP w r (ZaQ c bs)=some h): ∃X,Zs 2 (ZdZ vf) [.tup (.str w::.ref a::rv),.ref b] K=some (.bool h,K++X):=by
 have key:Ok (Zs 2 (ZdZ vf) [.tup (.str w::.ref a::rv),.ref b] K) λv M=>v=.bool h/\∃X,M=K++X:=by
  obtain⟨X,eX⟩:=R ea eb ok
  unfold hvP at e
  split at e
  case isFalse=>cases e
  rename_i hw
  unfold ZdZ
  refine Z7 rfl ?_
  repeat' fail
  refine Ok.of eX ?_
  repeat' fail
  refine Zgf hw .D ?_
  split at e
  ·cases e
   rename_i h1
   repeat' fail
   exact⟨rfl,by walk_at "ext"⟩
  rename_i h1
  repeat' fail
  refine Zgf hw .D ?_
  split at e
  ·cases e
   rename_i h2
   repeat' fail
   exact⟨rfl,by walk_at "ext"⟩
  rename_i h2
  split at e
  case h_2=>cases e
  split at e
  case isFalse=>cases e
  rename_i d hd
  cases e
  obtain⟨v,rfl,r1⟩:=rr.one_inv
  cases r1
  have hd0:d≠0:=by lia
  repeat' fail
  exact⟨rfl,by walk_at "ext"⟩
 obtain⟨_,_,e,rfl,X,rfl⟩:=key
 exact⟨X,e⟩
end L
namespace L
def Zje: Sm:=Zo (Zc ZC (Zc ZC (ZaB (Za 0) ZaU (Zaw (Zc Zai (Za 1) (Zd 1)))) (ZB (Zb (Za 2) Ze))) (ZaB (Za 0) (Zaw (Za 1)) ZaU))
def Zdt: .y:=Zs 3 Zje
def ZiF: Sm:=Zh (Zu (ZR (Zl (Zc oIs (Za 0) (Z9))) (ZR (Zl (Zc oIs (Za 1) (Z9))) ZJ)) (Zo (Za 2)) ZG) (Zh (Zu (Zl (Zc oIs (Za 1) (Z9))) (Zo (Zc ZC (Za 0) (Zg ZdD (Zb (Za 2) Ze)))) ZG) (Zh (Zu (Zl (Zc oIs (Za 0) (Z9))) (Zo (Zc Zai (Za 1) (Zg ZdD (Zb (Za 2) Ze)))) ZG) (Zo (Zc ZC (Za 0) (Zc Zcp (Za 2) (Zc ZC (Zc Zai (Za 1) (Za 0)) (Zd 1)))))))
def ZfU: .y:=Zs 3 ZiF
noncomputable def ZnE(a:Int): Int:=if a<0 then -a else a
abbrev Sp2:=Option Int×Option Int
def pkd(s:Sp2)(p:Int): Int:=match s.1,s.2 with
 | none,none=>p
 | some l,none=>l+ZnE p
 | none,some h=>h-ZnE p
 | some l,some h=>l+p.fmod (h-l+1)
noncomputable def oV: Option Int->V
 | none=>.none
 | some k=>.int k
theorem ZoM(h:∀x y,lo=some x->hi=some y->x<=y): ZfU [oV lo,oV hi,.int p] K=some (.int (pkd (lo,hi) p),K):=by
 apply ZgV
 unfold ZfU ZiF
 refine Z7 rfl ?_
 cases lo with
 | none=>
  cases hi with
  | none=>
   unfold oV
   repeat' fail
   exact⟨rfl,rfl⟩
  | some y=>
   unfold oV
   repeat' fail
   exact⟨rfl,rfl⟩
 | some x=>
  cases hi with
  | none=>
   unfold oV
   repeat' fail
   exact⟨rfl,rfl⟩
  | some y=>
   have:y-x+1≠0:=by have:=h x y rfl rfl;omega
   unfold oV
   repeat' fail
   exact⟨rfl,rfl⟩
theorem ZkT{b X:Nat}{v:Int}(eb:K[b]?=some (bs.map V.int))(hX:X<bs.length)(hn:bs.length<=60): ∃Y,Zdt [.ref b,.int ((X:Int)+1),.int v] K=some (.ref (K++Y).length,K++(Y++[(bs.set X v).map V.int])):=by
 have key:Ok (Zdt [.ref b,.int ((X:Int)+1),.int v] K) λu M=>∃Y,u=.ref (K++Y).length/\M=K++(Y++[(bs.set X v).map V.int]):=by
  unfold Zdt Zje
  refine Z7 rfl ?_
  refine Za3 (Z6 (Z6 (ZdN ?_)))
  repeat' fail
  refine⟨b,X,_,rfl,congrArg V.int .l,eb,?_⟩
  repeat' fail
  refine⟨b,X+1,_,rfl,congrArg V.int .l,by walk_at "at",?_⟩
  refine ZbM (by walk_at "at") (by walk_at "at") (by rw[ZD];simp;omega) ?_
  refine⟨[(bs.map V.int).take X,[.int v],(bs.map V.int).take X++[.int v],(bs.map V.int).drop (X+1)],.s,?_⟩
  have:(bs.set X v).map V.int=(bs.map V.int).take X++[.int v]++(bs.map V.int).drop (X+1):=by
   rw[List.set_eq_take_append_cons_drop,if_pos hX]
   simp
  rw[this]
  simp
 obtain⟨_,_,e,Y,rfl,rfl⟩:=key
 exact⟨Y,e⟩
end L
namespace L
def ZhS: Sm:=Zh (Zu (Zl (Zc ZA (Zc Zf (Za 1) (Zd 0)) (ZF "any"))) (Zo (Zg ZfU (Zb (Zc Zf (Za 1) (Zd 2)) (Zb (Zc Zf (Za 1) (Zd 3)) (Zb (Za 2) Ze))))) ZG) (Zh (Zk 3 (Zg ZcO (Zb (Zc Zf (Za 1) (Zd 2)) (Zb (Za 0) Ze)))) (Zh (Zu (Zl (Zc ZA (Zc Zf (Za 1) (Zd 0)) (ZF "part"))) (Zo (Zc ZcV (Za 3) (Zc Zf (Za 1) (Zd 3)))) ZG) (Zh (Zu (Zl (Zc ZA (Zc Zf (Za 1) (Zd 0)) (ZF "rest"))) (Zo (Zc Zcp (Za 3) (Zc Zf (Za 1) (Zd 3)))) ZG) (Zo (Za 3)))))
def Zee: .y:=Zs 3 ZhS
inductive NewR(bs:List Int)(p:Int)(w:Str): T->List T->Int->Prop where
 | any {lo hi:Option Int}:w=Str.ofString "any"->(∀x y,lo=some x->hi=some y->x<=y)->NewR bs p w (oT lo) [oT hi] (pkd (lo,hi) p)
 | set {c:List Int} {q:List T}:w=Str.ofString "set"->Zbk c bs->NewR bs p w (Zq c) q (ZaQ c bs)
 | part {c:List Int} {d:Int}:w=Str.ofString "part"->Zbk c bs->0<d->d.natAbs<2 ^ 300->NewR bs p w (Zq c) [.int d] ((ZaQ c bs).fdiv d)
 | rest {c:List Int} {d:Int}:w=Str.ofString "rest"->Zbk c bs->0<d->NewR bs p w (Zq c) [.int d] ((ZaQ c bs).fmod d)
theorem ZmZ{a b:Option Int}(h:oT a=oT b): a=b:=by
 cases a <;> cases b <;> simp[oT]at h <;> simp[h]
theorem NewR.det{s:T}{q:List T}{a:Int}(h:NewR bs p w s q a)(k:NewR bs p w s q b): a=b:=by
 have ne:Str.ofString "any"≠Str.ofString "set"/\Str.ofString "any"≠Str.ofString "part"/\Str.ofString "any"≠Str.ofString "rest"/\Str.ofString "set"≠Str.ofString "part"/\Str.ofString "set"≠Str.ofString "rest"/\Str.ofString "part"≠Str.ofString "rest":=by decide +kernel
 obtain⟨n1,n2,n3,n4,n5,n6⟩:=ne
 generalize hs:s=s' at k
 generalize hq:q=q' at k
 cases h with
 | any e1 _=>
  subst e1
  cases k with
  | any _ _=>
   rw[ZmZ hs]
   have:=ZmZ (List.cons.inj hq).1
   rw[this]
  | set e=>exact absurd e n1
  | part e=>exact absurd e n2
  | rest e=>exact absurd e n3
 | set e1 _=>
  subst e1
  cases k with
  | any e _=>exact absurd e.symm n1
  | set _ _=>rw[Zbn hs]
  | part e=>exact absurd e n4
  | rest e=>exact absurd e n5
 | part e1=>
  subst e1
  cases k with
  | any e _=>exact absurd e.symm n2
  | set e _=>exact absurd e.symm n4
  | part=>rw[Zbn hs];cases hq;rfl
  | rest e=>exact absurd e n6
 | rest e1=>
  subst e1
  cases k with
  | any e _=>exact absurd e.symm n3
  | set e _=>exact absurd e.symm n5
  | part e=>exact absurd e.symm n6
  | rest=>rw[Zbn hs];cases hq;rfl
end L
namespace L
theorem ZkU{K:Hp}: ∀{c:List Int} {vs:List V} {F:List Nat},RFs K vs (c.map T.int) F->vs=c.map V.int/\F=[]
 | [],_,_,r=>by cases r;exact⟨rfl,rfl⟩
 | k::c,_,_,r=>by
  cases r with
  | cons a b=>
   cases a
   obtain⟨e,f⟩:=ZkU b
   rw[e,f]
   exact⟨rfl,rfl⟩
theorem Zbv{c:List Int}(r:RF K v (Zq c) F): ∃a,v=.ref a/\K[a]?=some (c.map V.int)/\F=[a]:=by
 unfold Zq at r
 cases r with
 | ref e hs=>
  obtain⟨e1,e2⟩:=ZkU hs
  rw[e1]at e
  rw[e2]
  exact⟨_,rfl,e,rfl⟩
theorem ZlT{a d:Int}(h0:0<d)(bd:d.natAbs<2 ^ 300)(h:Q (.int (a.fdiv d)) H): Ok (ZcV (.int a) (.int d) H) Q:=by
 refine⟨_,_,Zne H .l (PyProof.noPylong_of_log2 ?_),h⟩
 exact Nat.lt_of_lt_of_le ((Nat.log2_lt .o).mpr bd) .d
theorem Zg2{o:Option Int}(r:RF K v (oT o) F): v=oV o:=by
 cases o <;> (unfold oT at r;cases r;rfl)
theorem Zqs{v:Int}{s:T}{q:List T}{b:Nat}{x sv:V}(h:NewR bs p w s q v)(rs:RF K sv s F)(rq:RFs K qv q G)(eb:K[b]?=some (bs.map V.int)): ∃X,Zee [.ref b,.tup (.str w::x::sv::qv),.int p] K=some (.int v,K++X):=by
 have key:Ok (Zee [.ref b,.tup (.str w::x::sv::qv),.int p] K) λu M=>u=.int v/\∃X,M=K++X:=by
  unfold Zee ZhS
  refine Z7 rfl ?_
  cases h with
  | any e h=>
   subst e
   obtain⟨_,rfl,r1⟩:=rq.one_inv
   cases Zg2 rs
   cases Zg2 r1
   repeat' fail
   refine Ok.of (ZoM h) ?_
   exact⟨rfl,by walk_at "ext"⟩
  | set e h=>
   subst e
   obtain⟨a,rfl,ea,_⟩:=Zbv rs
   obtain⟨X,eX⟩:=ZdG ea eb h
   repeat' fail
   refine Ok.of eX ?_
   repeat' fail
   exact⟨rfl,by walk_at "ext"⟩
  | @part c d e h d0 d1=>
   subst e
   obtain⟨_,rfl,r1⟩:=rq.one_inv
   cases r1
   obtain⟨a,rfl,ea,_⟩:=Zbv rs
   obtain⟨X,eX⟩:=ZdG ea eb h
   repeat' fail
   refine Ok.of eX ?_
   repeat' fail
   refine ZlT d0 d1 ?_
   exact⟨rfl,by walk_at "ext"⟩
  | @rest c d e h d0=>
   subst e
   obtain⟨_,rfl,r1⟩:=rq.one_inv
   cases r1
   obtain⟨a,rfl,ea,_⟩:=Zbv rs
   obtain⟨X,eX⟩:=ZdG ea eb h
   have hd:d≠0:=by omega
   repeat' fail
   refine Ok.of eX ?_
   repeat' fail
   exact⟨rfl,by walk_at "ext"⟩
 obtain⟨_,_,e,rfl,X,rfl⟩:=key
 exact⟨X,e⟩
inductive Act(bs:List Int)(p:Int)(w:Str): List T->Option (List Int)->Prop where
 | stay {r:List T}:w=Str.ofString "go"∨w=Str.ofString "say"->Act bs p w r (some bs)
 | when {u:Str} {c:List Int} {q:List T} {b h:Bool}:w=Str.ofString "when"->Zbk c bs->hvP u q (ZaQ c bs)=some h->Act bs p w [.tup (.str u::Zq c::q),.bool b] (if h=b then some bs else none)
 | lay {X:Nat} {s:T} {q:List T} {v:Int}:X<bs.length->NewR bs p w s q v->Act bs p w (.int ((X:Int)+1)::s::q) (some (bs.set X v))
theorem NewR.word{v:Int}{s:T}{q:List T}(h:NewR bs p w s q v): PyData.strOk w=true/\w≠Str.ofString "go"/\w≠Str.ofString "say"/\w≠Str.ofString "when":=by
 cases h with
 | any e=>subst e;decide +kernel
 | set e=>subst e;decide +kernel
 | part e=>subst e;decide +kernel
 | rest e=>subst e;decide +kernel
theorem Act.det{a b:Option (List Int)}(h:Act bs p w r a)(k:Act bs p w r b): a=b:=by
 have ne:Str.ofString "go"≠Str.ofString "when"/\Str.ofString "say"≠Str.ofString "when":=by decide +kernel
 generalize hr:r=r' at k
 cases h with
 | stay e=>
  cases k with
  | stay _=>rfl
  | when f=>subst f;exact(e.elim (λz=>ne.1 z.symm) λz=>ne.2 z.symm).elim
  | lay _ n=>obtain⟨_,n1,n2,_⟩:=n.word;exact(e.elim n1 n2).elim
 | when e _ h1=>
  subst e
  cases k with
  | stay f=>exact(f.elim (λz=>ne.1 z.symm) λz=>ne.2 z.symm).elim
  | when _ _ h2=>
   simp only[List.cons.injEq,T.tup.injEq,T.str.injEq,T.bool.injEq,and_true]at hr
   obtain⟨⟨rfl,e2,rfl⟩,rfl⟩:=hr
   cases Zbn e2
   rw[h1]at h2
   cases h2
   rfl
  | lay _ n=>exact absurd rfl n.word.2.2.2
 | lay _ n=>
  cases k with
  | stay f=>obtain⟨_,n1,n2,_⟩:=n.word;exact(f.elim n1 n2).elim
  | when f=>exact absurd f n.word.2.2.2
  | lay _ m=>
   simp only[List.cons.injEq,T.int.injEq]at hr
   obtain⟨e1,rfl,rfl⟩:=hr
   rename_i X _ _ _ _ X' _ _
   have:X=X':=by lia
   subst this
   rw[n.det m]
end L
namespace TM
open PySem PM
section
variable {H:Hp} {v:V} {vs:List V} {ts:List T} {x y z:T} {F:List Nat}
theorem RF.itup(r:RF H v (.tup ts) F): ∃vs,v=.tup vs/\RFs H vs ts F:=by
 cases r with
 | tup r=>exact⟨_,rfl,r⟩
theorem RF.ilst(r:RF H v (.lst ts) F): ∃a vs G,v=.ref a/\H[a]?=some vs/\RFs H vs ts G/\F=a::G:=by
 cases r with
 | ref e r=>exact⟨_,_,_,rfl,e,r,rfl⟩
theorem RF.iint{k:Int}(r:RF H v (.int k) F): v=.int k/\F=[]:=by
 cases r
 exact⟨rfl,rfl⟩
theorem RF.istr{k:Str}(r:RF H v (.str k) F): v=.str k/\F=[]:=by
 cases r
 exact⟨rfl,rfl⟩
theorem RFs.inil(r:RFs H vs [] F): vs=[]/\F=[]:=by
 cases r
 exact⟨rfl,rfl⟩
theorem RFs.icons(r:RFs H vs (x::ts) F): ∃v us F1 F2,vs=v::us/\F=F1++F2/\RF H v x F1/\RFs H us ts F2:=by
 cases r with
 | cons r1 r=>exact⟨_,_,_,_,rfl,rfl,r1,r⟩
theorem RFs.i1(r:RFs H vs [x] F): ∃v,vs=[v]/\RF H v x F:=by
 right
 obtain⟨v,us,F1,F2,rfl,rfl,r1,r⟩:=r.icons
 obtain⟨rfl,rfl⟩:=r.inil
 left
 exact⟨v,rfl,by rw[List.append_nil];exact r1⟩
theorem RFs.i2(r:RFs H vs [x,y] F): ∃v u F1 F2,vs=[v,u]/\F=F1++F2/\RF H v x F1/\RF H u y F2:=by
 right
 obtain⟨v,us,F1,F2,rfl,rfl,r1,r⟩:=r.icons
 obtain⟨u,rfl,r2⟩:=r.i1
 left
 exact⟨v,u,F1,F2,rfl,rfl,r1,r2⟩
theorem RFs.i3(r:RFs H vs [x,y,z] F): ∃v u w F1 F2 F3,vs=[v,u,w]/\F=F1++(F2++F3)/\RF H v x F1/\RF H u y F2/\RF H w z F3:=by
 right
 obtain⟨v,us,F1,F2,rfl,rfl,r1,r⟩:=r.icons
 obtain⟨u,w,F3,F4,rfl,rfl,r2,r3⟩:=r.i2
 left
 exact⟨v,u,w,F1,F3,F4,rfl,rfl,r1,r2,r3⟩
theorem RF.i3(r:RF H v (.tup [x,y,z]) F): ∃a b c F1 F2 F3,v=.tup [a,b,c]/\F=F1++(F2++F3)/\RF H a x F1/\RF H b y F2/\RF H c z F3:=by
 right
 obtain⟨us,rfl,q⟩:=r.itup
 obtain⟨v,u,w,F1,F2,F3,rfl,h⟩:=q.i3
 left
 exact⟨v,u,w,F1,F2,F3,rfl,h⟩
theorem RF.imom{j k:Int}(r:RF H v (.tup [.int j,.int k,.lst ts]) F): ∃b us G,v=.tup [.int j,.int k,.ref b]/\F=b::G/\H[b]?=some us/\RFs H us ts G:=by
 right
 obtain⟨a,b,c,F1,F2,F3,rfl,rfl,r1,r2,r3⟩:=r.i3
 obtain⟨rfl,rfl⟩:=r1.iint
 obtain⟨rfl,rfl⟩:=r2.iint
 obtain⟨b,us,G,rfl,e,q,rfl⟩:=r3.ilst
 left
 exact⟨b,us,G,rfl,rfl,e,q⟩
end
end TM
namespace L
def Zdu: Sm:=Zh (Zu (ZR (Zl (Zc ZA (Zc Zf (Za 1) (Zd 0)) (ZF "when"))) (ZR (Zl (Zc oNe (Zg Zge (Zb (Zc Zf (Za 1) (Zd 1)) (Zb (Za 0) Ze))) (Zc Zf (Za 1) (Zd 2)))) ZJ)) (Zo (Z9)) ZG) (Zh (Zu (Zl (Zc oIn (Zc Zf (Za 1) (Zd 0)) (ZO (Zb (ZF "go") (Zb (ZF "say") (Zb (ZF "when") Ze)))))) (Zo (Zg ZdR (Zb (Za 0) Ze))) ZG) (Zo (Zg Zdt (Zb (Za 0) (Zb (Zc Zf (Za 1) (Zd 1)) (Zb (Zg Zee (Zb (Za 0) (Zb (Za 1) (Zb (Za 2) Ze)))) Ze))))))
def Zcl: .y:=Zs 3 Zdu
def Zc0(K:Hp)(o:Option (List Int))(v:V)(M:Hp): Prop:=∃X,M=K++X/\match o with
 | none=>v=.none
 | some l=>∃a,v=.ref a/\K.length<=a/\M[a]?=some (l.map V.int)
theorem ZgE(hw:PyData.strOk w=true)(h:Q (.bool (decide (w=Str.ofString "go"∨w=Str.ofString "say"∨w=Str.ofString "when"))) H): Ok (oIn (.str w) (.tup [.str "go",.str "say",.str "when"]) H) Q:=by
 refine⟨_,_,?_,h⟩
 have h1:PyData.strOk "go"=true/\PyData.strOk "say"=true/\PyData.strOk "when"=true:=by decide +kernel
 have e1:toD H ZaX (.str w)=some (.str w):=by simp[toD,hw]
 have e2:toD H ZaX (.tup [.str "go",.str "say",.str "when"])=some (.tuple [.str "go",.str "say",.str "when"]):=by rfl
 simp only[oIn,ZjA,e1,e2,Ys0]
 simp[inD,SeqAt.shaped,PyData.canLay0,PyData.canLayAll0,PyData.depth,PyData.depthAll,PyData.eqv,hw,h1.1,h1.2.1,h1.2.2]
 have c:∀a:Str,(a == w)=decide (w=a):=λa=>by
  rw[Bool.eq_iff_iff,decide_eq_true_eq,beq_iff_eq,eq_comm]
 rw[c,c,c]
theorem ZkV{u:Str}{c:List Int}{q:List T}{t:Bool}(r:RFs K rv [.tup (.str u::Zq c::q),.bool t] F): ∃a qv G,rv=[.tup (.str u::.ref a::qv),.bool t]/\K[a]?=some (c.map V.int)/\RFs K qv q G:=by
 right
 obtain⟨v1,v2,F1,F2,e,_,r1,r2⟩:=r.i2
 obtain⟨us,e1,r1⟩:=r1.itup
 obtain⟨vu,us1,_,_,e2,_,ru,r1⟩:=r1.icons
 obtain⟨vc,us2,_,G,e3,_,rc,rq⟩:=r1.icons
 obtain⟨a,e4,ea,_⟩:=Zbv rc
 left
 cases r2
 exact⟨a,us2,G,by rw[e,e1,e2,e3,e4,ru.istr.1],ea,rq⟩
theorem ZlU{k:Int}{s:T}{q:List T}(r:RFs K rv (.int k::s::q) F): ∃sv qv F1 F2,rv=.int k::sv::qv/\RF K sv s F1/\RFs K qv q F2:=by
 obtain⟨vk,us,_,_,e,_,rk,r⟩:=r.icons
 obtain⟨sv,qv,F1,F2,e1,_,rs,rq⟩:=r.icons
 exact⟨sv,qv,F1,F2,by rw[e,e1,rk.iint.1],rs,rq⟩
theorem Zqt{b:Nat}(A:Act bs p w r o)(hn:bs.length<=60)(rr:RFs K rv r F)(eb:K[b]?=some (bs.map V.int)): Ok (Zcl [.ref b,.tup (.str w::rv),.int p] K) (Zc0 K o):=by
 cases A with
 | stay e=>
  obtain rfl | rfl:=e
  ·unfold Zcl Zdu
   refine Z7 rfl ?_
   repeat' fail
   refine ZgE .D ?_
   repeat' fail
   exact⟨_,rfl,_,rfl,.l,Zv _ _⟩
  ·unfold Zcl Zdu
   refine Z7 rfl ?_
   repeat' fail
   refine ZgE .D ?_
   repeat' fail
   exact⟨_,rfl,_,rfl,.o,Zv _ _⟩
 | @when u c q t h e ok eh=>
  right
  subst e
  obtain⟨a,qv,G,rfl,ea,rq⟩:=ZkV rr
  obtain⟨X,eX⟩:=ZiE (@ZdG) ea eb ok rq eh
  left
  by_cases hb:h=t
  ·subst hb
   rw[if_pos rfl]
   unfold Zcl Zdu
   refine Z7 rfl ?_
   repeat' fail
   refine Ok.of eX ?_
   repeat' fail
   refine ZgE .D ?_
   repeat' fail
   exact⟨X++[_],(List.append_assoc ..),_,rfl,.s,Zv _ _⟩
  ·rw[if_neg hb]
   unfold Zcl Zdu
   refine Z7 rfl ?_
   repeat' fail
   refine Ok.of eX ?_
   repeat' fail
   exact⟨_,rfl,rfl⟩
 | @lay X s q v hX N=>
  right
  obtain⟨hw,n1,n2,n3⟩:=N.word
  have hin:¬(w=Str.ofString "go"∨w=Str.ofString "say"∨w=Str.ofString "when"):=by simp[n1,n2,n3]
  obtain⟨sv,qv,F1,F2,rfl,rs,rq⟩:=ZlU rr
  obtain⟨Y,eY⟩:=Zqs (x:=.int ((X:Int)+1)) N rs rq eb
  obtain⟨Z,eZ⟩:=ZkT (K:=K++Y) (v:=v) (ZW eb) hX hn
  left
  unfold Zcl Zdu
  refine Z7 rfl ?_
  repeat' fail
  refine Zgf hw .D ?_
  repeat' fail
  refine ZgE hw ?_
  repeat' fail
  refine Ok.of eY ?_
  repeat' fail
  refine Ok.of eZ ?_
  exact⟨Y++(Z++[_]),(List.append_assoc ..),_,rfl,.s,by rw[<-List.append_assoc];exact Zv _ _⟩
end L
namespace L
def Zcf: Sm:=Zh (Zk 3 (Zg ZdR (Zb (Za 0) Ze))) (Zh (Zu (ZR (Zl (Zc ZA (Zc Zf (Za 1) (Zd 0)) (ZF "when"))) (ZR (Zl (Zc oNe (Zg ZfK (Zb (Zc Zf (Za 1) (Zd 1)) (Zb (Za 0) Ze))) (Zc Zf (Za 1) (Zd 2)))) ZJ)) (Zo (Z9)) ZG) (Zh (Zu (Zl (Zc ZA (Zc Zf (Za 1) (Zd 0)) (ZF "set"))) (ZaE (Zg Zcc (Zb (Zc Zf (Za 1) (Zd 2)) (Zb (Za 0) Ze))) (Za 3) (Zc Zai (Zc Zf (Za 1) (Zd 1)) (Zd 1))) ZG) (Zh (Zu (Zl (Zc ZA (Zc Zf (Za 1) (Zd 0)) (ZF "part"))) (ZaE (Zc ZcV (Zg Zcc (Zb (Zc Zf (Za 1) (Zd 2)) (Zb (Za 0) Ze))) (Zc Zf (Za 1) (Zd 3))) (Za 3) (Zc Zai (Zc Zf (Za 1) (Zd 1)) (Zd 1))) ZG) (Zh (Zu (Zl (Zc ZA (Zc Zf (Za 1) (Zd 0)) (ZF "rest"))) (ZaE (Zc Zcp (Zg Zcc (Zb (Zc Zf (Za 1) (Zd 2)) (Zb (Za 0) Ze))) (Zc Zf (Za 1) (Zd 3))) (Za 3) (Zc Zai (Zc Zf (Za 1) (Zd 1)) (Zd 1))) ZG) (Zh (Zu (Zl (Zc ZA (Zc Zf (Za 1) (Zd 0)) (ZF "any"))) (Zh (Zk 4 (Za 2)) (Zh (Zu (ZR (Zl (Zc ZaA (Zc Zf (Za 1) (Zd 2)) (Z9))) (ZR (Zl (Zc ZaA (Zc Zf (Za 1) (Zd 3)) (Z9))) ZJ)) (Zk 4 (Zc ZC (Zc Zf (Za 1) (Zd 2)) (Zc Zcp (Za 2) (Zc ZC (Zc Zai (Zc Zf (Za 1) (Zd 3)) (Zc Zf (Za 1) (Zd 2))) (Zd 1))))) (Zu (Zl (Zc ZaA (Zc Zf (Za 1) (Zd 2)) (Z9))) (Zk 4 (Zc ZC (Zc Zf (Za 1) (Zd 2)) (Zg ZdD (Zb (Za 2) Ze)))) (Zu (Zl (Zc ZaA (Zc Zf (Za 1) (Zd 3)) (Z9))) (Zk 4 (Zc Zai (Zc Zf (Za 1) (Zd 3)) (Zg ZdD (Zb (Za 2) Ze)))) ZG))) (ZaE (Za 4) (Za 3) (Zc Zai (Zc Zf (Za 1) (Zd 1)) (Zd 1))))) ZG) (Zo (Za 3)))))))
def Zdq: .y:=Zs 3 Zcf
theorem ZrP{g:Sm}{as:List V}(hl:as.length=n)(h:∀U:Lc,(∀i v,as[i]?=some v->U i=some v)->Oks (g U H) R λ_ K=>R .none K): Ok (Zs n g as H) R:=Z7 hl (h _ λ_ _ h=>h)
theorem Ztv{b:Nat}(A:Act bs p w r o)(hn:bs.length<=60)(rr:RFs K rv r F)(eb:K[b]?=some (bs.map V.int))(h0:0<K.length): Ok (Zdq [.ref b,.tup (.str w::rv),.int p] K) (Zc0 K o):=by
 have lb:(bs.map V.int).length=bs.length:=by simp
 have pre:∀{w:Str} {rv:List V} {o:Option (List Int)},(∀U:Lc,U 0=some (.ref b)->U 1=some (.tup (.str w::rv))->U 2=some (.int p)->Oks (Zcf U K) (Zc0 K o) λ_ M=>Zc0 K o .none M)->Ok (Zdq [.ref b,.tup (.str w::rv),.int p] K) (Zc0 K o):=λh=>ZrP rfl λU z=>h U (z 0 _ rfl) (z 1 _ rfl) (z 2 _ rfl)
 cases A with
 | stay e=>
  obtain rfl | rfl:=e
  ·refine pre λU e0 e1 e2=>?_
   unfold Zcf
   repeat' fail
   exact⟨_,rfl,_,rfl,.l,Zv _ _⟩
  ·refine pre λU e0 e1 e2=>?_
   unfold Zcf
   repeat' fail
   exact⟨_,rfl,_,rfl,.o,Zv _ _⟩
 | @when u c q t h e ok eh=>
  subst e
  obtain⟨a,qv,G,rfl,ea,rq⟩:=ZkV rr
  obtain⟨X,eX⟩:=ZiE (K:=K++[bs.map V.int]) (@ZdH) (Zz ea) (Zz eb) ok (rq.ext _) eh
  by_cases hb:h=t
  ·subst hb
   rw[if_pos rfl]
   refine pre λU e0 e1 e2=>?_
   unfold Zcf
   repeat' fail
   refine Ok.of eX ?_
   repeat' fail
   exact⟨_::X,(List.append_cons ..).symm,_,rfl,Nat.le_refl _,ZW (Zv _ _)⟩
  ·rw[if_neg hb]
   refine pre λU e0 e1 e2=>?_
   unfold Zcf
   repeat' fail
   refine Ok.of eX ?_
   repeat' fail
   exact⟨_::X,(List.append_cons ..).symm,rfl⟩
 | @lay X s q v hX N=>
  obtain⟨sv,qv,F1,F2,rfl,rs,rq⟩:=ZlU rr
  have fin:∀{Y:Hp} {v:Int} {P:Hp->Prop},(∀M,Zc0 K (some (bs.set X v)) (.ref K.length) M->P M)->Zgv (.ref K.length) (.int ((X:Int)+1-1)) (.int v) (K++[bs.map V.int]++Y) P:=λ{Y v P} h=>by
   refine Zc6 (ZW (Zv _ _)) .l .l .l (h _ ⟨[bs.map V.int |>.set X (.int v)]++Y,?_,_,rfl,Nat.le_refl _,?_⟩)
   ·rw[show((X:Int)+1-1).toNat=X by lia];simp
   ·rw[show((X:Int)+1-1).toNat=X by omega,Yy6 .s,List.map_set]
  have fin0:∀{v:Int} {P:Hp->Prop},(∀M,Zc0 K (some (bs.set X v)) (.ref K.length) M->P M)->Zgv (.ref K.length) (.int ((X:Int)+1-1)) (.int v) (K++[bs.map V.int]) P:=λ{v P} h=>by
   have:=fin (Y:=[]) h
   rwa [List.append_nil]at this
  cases N with
  | @any lo hi e h=>
   subst e
   obtain⟨_,rfl,r1⟩:=rq.one_inv
   cases Zg2 rs
   cases Zg2 r1
   have hd:∀x y,lo=some x->hi=some y->y-x+1≠0:=λx y a b=>by have:=h x y a b;lia
   refine pre λU e0 e1 e2=>?_
   unfold Zcf
   repeat' fail
   cases lo <;> cases hi <;> unfold oV at e1 ⊢
   case none.none=>
    repeat' fail
    refine fin0 λM hM=>?_
    repeat' fail
    exact hM
   case none.some=>
    repeat' fail
    refine fin0 λM hM=>?_
    repeat' fail
    exact hM
   case some.none=>
    repeat' fail
    refine fin0 λM hM=>?_
    repeat' fail
    exact hM
   case some.some x y=>
    have:=hd x y rfl rfl
    repeat' fail
    refine fin0 λM hM=>?_
    repeat' fail
    exact hM
  | set e h=>
   subst e
   obtain⟨a,rfl,ea,_⟩:=Zbv rs
   obtain⟨Y,eY⟩:=ZdH (K:=K++[bs.map V.int]) (Zz ea) (Zz eb) h
   refine pre λU e0 e1 e2=>?_
   unfold Zcf
   repeat' fail
   refine Ok.of eY ?_
   repeat' fail
   refine fin λM hM=>?_
   repeat' fail
   exact hM
  | @part c d e h d0 d1=>
   subst e
   obtain⟨_,rfl,r1⟩:=rq.one_inv
   cases r1
   obtain⟨a,rfl,ea,_⟩:=Zbv rs
   obtain⟨Y,eY⟩:=ZdH (K:=K++[bs.map V.int]) (Zz ea) (Zz eb) h
   refine pre λU e0 e1 e2=>?_
   unfold Zcf
   repeat' fail
   refine Ok.of eY ?_
   repeat' fail
   refine ZlT d0 d1 ?_
   repeat' fail
   refine fin λM hM=>?_
   repeat' fail
   exact hM
  | @rest c d e h d0=>
   subst e
   obtain⟨_,rfl,r1⟩:=rq.one_inv
   cases r1
   have hd:d≠0:=by lia
   obtain⟨a,rfl,ea,_⟩:=Zbv rs
   obtain⟨Y,eY⟩:=ZdH (K:=K++[bs.map V.int]) (Zz ea) (Zz eb) h
   refine pre λU e0 e1 e2=>?_
   unfold Zcf
   repeat' fail
   refine Ok.of eY ?_
   repeat' fail
   refine fin λM hM=>?_
   repeat' fail
   exact hM
end L
namespace L
def Ztw(ts:List T)(t:T): Prop:=∃u c q bs h,ts=[.tup (.str u::Zq c::q),Zq bs]/\Zbk c bs/\hvP u q (ZaQ c bs)=some h/\t=.bool h
noncomputable def Zb0: List T->Option T:=pf Ztw
theorem ZrQ{u:Str}{c:List Int}{q:List T}{h:Bool}(ok:Zbk c bs)(e:hvP u q (ZaQ c bs)=some h): Zb0 [.tup (.str u::Zq c::q),Zq bs]=some (.bool h):=Zcn ⟨u,c,q,bs,h,rfl,ok,e,rfl⟩ λt ⟨u',c',q',bs',h',e1,_,e2,e3⟩=>by
 simp only[List.cons.injEq,and_true,T.tup.injEq,T.str.injEq]at e1
 obtain⟨⟨rfl,e4,rfl⟩,e5⟩:=e1
 cases Zbn e4
 cases Zbn e5
 rw[e]at e2
 cases e2
 exact e3
theorem Zpu(e:Zds ts=some t): ∃c bs,ts=[Zq c,Zq bs]/\Zbk c bs/\t=.int (ZaQ c bs):=Zck e
theorem Zkl(e:Zb0 ts=some t): ∃u c q bs h,ts=[.tup (.str u::Zq c::q),Zq bs]/\Zbk c bs/\hvP u q (ZaQ c bs)=some h/\t=.bool h:=Zck e
theorem ZlV(R:ZjE vf): ZaZ false vf Zds:=λH vs ts t F1 hp r e=>by
 right
 obtain⟨c,bs,rfl,ok,rfl⟩:=Zpu e
 obtain⟨_,_,_,_,rfl,r1,r2,_⟩:=r.two_inv
 obtain⟨a,rfl,ea,_⟩:=Zbv r1
 obtain⟨b,rfl,eb,_⟩:=Zbv r2
 obtain⟨X,eX⟩:=R ea eb ok
 left
 exact⟨_,X,[],eX,.int _,λ_ m=>(List.not_mem_nil m).elim,λz=>by cases z⟩
theorem ZkW(R:ZjE vf): ZaZ false (Zs 2 (ZdZ vf)) Zb0:=λH vs ts t F1 hp r e=>by
 right
 obtain⟨u,c,q,bs,h,rfl,ok,eh,rfl⟩:=Zkl e
 obtain⟨_,_,_,_,rfl,r1,r2,_⟩:=r.two_inv
 obtain⟨b,rfl,eb,_⟩:=Zbv r2
 obtain⟨_,rfl,rs⟩:=r1.itup
 obtain⟨_,_,_,_,rfl,_,ru,rs2⟩:=rs.icons
 left
 cases ru
 right
 obtain⟨_,_,_,_,rfl,_,rc,rq⟩:=rs2.icons
 obtain⟨a,rfl,ea,_⟩:=Zbv rc
 obtain⟨X,eX⟩:=ZiE R ea eb ok rq eh
 left
 exact⟨_,X,[],eX,.bool _,λ_ m=>(List.not_mem_nil m).elim,λz=>by cases z⟩
theorem ZrR: ZaZ false ZcO Zds:=ZlV @ZdG
theorem Zou: ZaZ false Zcc Zds:=ZlV @ZdH
theorem ZrS: ZaZ false Zge Zb0:=ZkW @ZdG
theorem ZoN: ZaZ false ZfK Zb0:=ZkW @ZdH
def Zuu(ts:List T)(t:T): Prop:=∃(bs:List Int) (X:Nat) (v:Int),ts=[Zq bs,.int ((X:Int)+1),.int v]/\X<bs.length/\bs.length<=60/\t=Zq (bs.set X v)
noncomputable def ZgF: List T->Option T:=pf Zuu
theorem Ztx{X:Nat}{v:Int}(hX:X<bs.length)(hn:bs.length<=60): ZgF [Zq bs,.int ((X:Int)+1),.int v]=some (Zq (bs.set X v)):=Zcn ⟨bs,X,v,rfl,hX,hn,rfl⟩ λt ⟨bs',X',v',e,_,_,et⟩=>by
 simp only[List.cons.injEq,and_true,T.int.injEq]at e
 obtain⟨e1,e2,rfl⟩:=e
 cases Zbn e1
 cases (show X=X' by lia)
 exact et
theorem ZgG{l:List Int}(e:K[a]?=some (l.map V.int)): RF K (.ref a) (Zq l) [a]:=by
 refine .ref e ?_
 clear e
 induction l with
 | nil=>exact .nil
 | cons k l ih=>exact .cons (.int k) ih
theorem Zty: ZaZ true Zdt ZgF:=λH vs ts t F1 hp r e=>by
 right
 obtain⟨bs,X,v,rfl,hX,hn,rfl⟩:=Zck e
 obtain⟨_,_,_,_,_,_,rfl,_,r1,r2,r3⟩:=r.i3
 left
 cases r2
 cases r3
 right
 obtain⟨b,rfl,eb,_⟩:=Zbv r1
 obtain⟨Y,eY⟩:=ZkT (v:=v) eb hX hn
 left
 exact⟨_,_,[(H++Y).length],eY,ZgG (by rw[<-List.append_assoc];exact Zv _ _),λa m=>by simp at m;apply Or.inl;lia,λ_=>⟨.s,λa m=>by simp at m;omega⟩⟩
def oB: Option (List Int)->T
 | none=>.none
 | some l=>Zq l
def Zuv(ts:List T)(t:T): Prop:=∃bs p w r o,ts=[Zq bs,.tup (.str w::r),.int p]/\bs.length<=60/\Act bs p w r o/\t=oB o
noncomputable def Zbu: List T->Option T:=pf Zuv
theorem Zdv(hn:bs.length<=60)(A:Act bs p w r o): Zbu [Zq bs,.tup (.str w::r),.int p]=some (oB o):=Zcn ⟨bs,p,w,r,o,rfl,hn,A,rfl⟩ λt ⟨bs',p',w',r',o',e,_,A',et⟩=>by
 simp only[List.cons.injEq,and_true,T.tup.injEq,T.str.injEq,T.int.injEq]at e
 obtain⟨e1,⟨rfl,rfl⟩,rfl⟩:=e
 cases Zbn e1
 rw[et,A'.det A]
theorem Zqu(e:Zbu ts=some t): ∃bs p w r o,ts=[Zq bs,.tup (.str w::r),.int p]/\bs.length<=60/\Act bs p w r o/\t=oB o:=Zck e
theorem ZrT(C:Zc0 K o v M): ∃X F,M=K++X/\RF M v (oB o) F/\F.Nodup/\∀a∈F,K.length<=a:=by
 obtain⟨X,e,h⟩:=C
 cases o with
 | none=>cases h;exact⟨X,[],e,.none,.s,.s⟩
 | some l=>
  obtain⟨a,rfl,ha,ea⟩:=h
  exact⟨X,[a],e,ZgG ea,.s,by simpa using ha⟩
theorem ZlW{f: .y}(R:∀{K:Hp} {bs:List Int} {p:Int} {w:Str} {r:List T} {rv:List V} {F:List Nat} {o:Option (List Int)} {b:Nat},Act bs p w r o->bs.length<=60->RFs K rv r F->K[b]?=some (bs.map V.int)->0<K.length->Ok (f [.ref b,.tup (.str w::rv),.int p] K) (Zc0 K o)): ZaZ true f Zbu:=λH vs ts t F1 hp r e=>by
 right
 obtain⟨bs,p,w,r',o,rfl,hn,A,rfl⟩:=Zqu e
 obtain⟨_,_,_,_,_,_,rfl,_,r1,r2,r3⟩:=r.i3
 left
 cases r3
 right
 obtain⟨_,rfl,rs⟩:=r2.itup
 obtain⟨_,_,_,_,rfl,_,rw_,rr⟩:=rs.icons
 left
 cases rw_
 right
 obtain⟨b,rfl,eb,_⟩:=Zbv r1
 obtain⟨v,M,eM,C⟩:=R A hn rr eb hp
 obtain⟨X,F,rfl,rf,nd,hF⟩:=ZrT C
 left
 exact⟨v,X,F,eM,rf,λa m=>.inl (hF a m),λ_=>⟨nd,hF⟩⟩
theorem Ztz: ZaZ true Zcl Zbu:=ZlW λA hn rr eb _=>Zqt A hn rr eb
theorem Zqv: ZaZ true Zdq Zbu:=ZlW Ztv
end L
namespace L
def ZhC: Sm:=Zh (Zk 3 (Zc Zf (Zc Zf (Za 0) (Za 1)) (Zd 1))) (Zo (ZO (Zb (Za 1) (Zb (Zd 0) (Zb (Zc ZC (Za 2) (Z3 (ZaM (Zb (Zc Zai (Za 3) (Zg ZZ (Zb (Za 2) Ze))) Ze)) (Zw 100) ZJ (Zd 0))) Ze)))))
def Zdk: .y:=Zs 3 ZhC
def Zh2: Sm:=Zo (ZB (Zb (Za 1) (Zb (Zd 0) (Zb (Zc ZC (Za 2) (Zc ZaI (ZB (Zb (Zd 0) Ze)) (Zc Zai (Zc Zf (Zc Zf (Za 0) (Za 1)) (Zd 1)) (Zg ZZ (Zb (Za 2) Ze))))) Ze))))
def Zcu: .y:=Zs 3 Zh2
noncomputable def full(m:Nat)(gv:List Int): List Int:=gv++List.replicate (m-gv.length) 0
theorem Zpv{b:Nat}{ys:List V}{x:V}(ea:K[a]?=some vs)(eg:vs[g]?=some (.tup (x::.int m::ys)))(eb:K[b]?=some (gv.map V.int))(h1:gv.length<=m)(h2:m<=60): ∃Y,Zdk [.ref a,.int g,.ref b] K=some (.tup [.int g,.int 0,.ref (K++Y).length],K++(Y++[(full m gv).map V.int])):=by
 have lg:(gv.map V.int).length=gv.length:=by simp
 have key:Ok (Zdk [.ref a,.int g,.ref b] K) λv M=>∃Y,v=.tup [.int g,.int 0,.ref (K++Y).length]/\M=K++(Y++[(full m gv).map V.int]):=by
  unfold Zdk ZhC
  refine Z7 rfl ?_
  repeat' fail
  refine ZbS ea .l (v:=.tup (x::.int m::ys)) (by rw[Int.toNat_natCast];exact eg) ?_
  repeat' fail
  rw[lg,show(m:Int)-(gv.length:Int)=((m-gv.length:Nat):Int)by lia]
  fail
  refine ZmN (λ_=>0) .o (λi hi=>?_) ?_
  ·repeat' fail
   exact⟨rfl,rfl⟩
  refine ZbM (by walk_at "at") (by walk_at "at") (by rw[ZD];simp;lia) ?_
  repeat' fail
  have e:gv.map V.int++((List.range (m-gv.length)).map λ_=>(0:Int)).map V.int=(full m gv).map V.int:=by simp[full,List.map_const']
  exact⟨[((List.range (m-gv.length)).map λ_=>(0:Int)).map V.int],.s,by rw[e];simp⟩
 obtain⟨_,_,e,Y,rfl,rfl⟩:=key
 exact⟨Y,e⟩
theorem ZrU{b:Nat}{ys:List V}{x:V}(ea:K[a]?=some vs)(eg:vs[g]?=some (.tup (x::.int m::ys)))(eb:K[b]?=some (gv.map V.int))(h1:gv.length<=m)(h2:m<=60): ∃Y,Zcu [.ref a,.int g,.ref b] K=some (.ref (K++Y).length.succ,K++(Y++[(full m gv).map V.int,[.int g,.int 0,.ref (K++Y).length]])):=by
 have lg:(gv.map V.int).length=gv.length:=by simp
 have key:Ok (Zcu [.ref a,.int g,.ref b] K) λv M=>∃Y,v=.ref (K++Y).length.succ/\M=K++(Y++[(full m gv).map V.int,[.int g,.int 0,.ref (K++Y).length]]):=by
  unfold Zcu Zh2
  refine Z7 rfl ?_
  repeat' fail
  refine ZbS (Zz ea) .o (v:=.tup (x::.int m::ys)) (by rw[Int.toNat_natCast];exact eg) ?_
  repeat' fail
  rw[lg,show((m:Int)-(gv.length:Int)).toNat=m-gv.length by lia]
  have e:gv.map V.int++List.replicate (m-gv.length) (V.int 0)=(full m gv).map V.int:=by simp[full]
  exact⟨[[.int 0],List.replicate (m-gv.length) (.int 0)],.s,by rw[e];simp⟩
 obtain⟨_,_,e,Y,rfl,rfl⟩:=key
 exact⟨Y,e⟩
end L
namespace L
def cpG(F: .y): Sm:=Zh (Zu (Zl (eIs "list" (Za 0))) (Zo (Z3 (ZQ (Za 0)) (Zw 100) ZJ (Zg F (Zb (Za 100) Ze)))) ZG) (Zh (Zu (Zl (eIs "tuple" (Za 0))) (Zo (Zg ZlA (Zb (Z3 (ZQ (Za 0)) (Zw 102) ZJ (Zg F (Zb (Za 102) Ze))) Ze))) ZG) (Zo (Za 0)))
def Zhg(K:Hp)(t:T)(v:V)(M:Hp): Prop:=∃X G,M=K++X/\RF M v t G/\G.Nodup/\∀a∈G,K.length<=a
def NewsT(K:Hp)(ts:List T)(vs:List V)(M:Hp): Prop:=∃X G,M=K++X/\RFs M vs ts G/\G.Nodup/\∀a∈G,K.length<=a
theorem NewsT.snoc{M':Hp}(a:NewsT K ts vs M)(b:Zhg M t v M'): NewsT K (ts++[t]) (vs++[v]) M':=by
 obtain⟨X,G,rfl,r,nd,hG⟩:=a
 obtain⟨Y,G',rfl,r',nd',hG'⟩:=b
 refine⟨X++Y,G++G',List.append_assoc ..,?_,List.nodup_append.mpr ⟨nd,nd',λa m b m' e=>?_⟩,λa m=>?_⟩
 ·have:=rfs_app (RFs.one r') (r.ext Y)
  exact this
 ·have:=r.lt a m
  have:=hG' b m'
  lia
 ·rcases Zz8.mp m with m | m
  ·exact hG a m
  ·have:=hG' a m
   simp at this
   lia
theorem ZlX{F: .y}{L:List V->Hp->Prop}(hl:ts.length<=1000)(r:RFs K vs ts G)(hnx:∀X,(∀i (h:i<vs.length),nx i (K++X)=some (some vs[i]))/\nx vs.length (K++X)=some none)(ih:∀t∈ts,∀K v F',RF K v t F'->Ok (F [v] K) (Zhg K t))(done:∀us M,NewsT K ts us M->us.length=ts.length->L us M): Okl (Zah nx (Zw j) ZJ (Zg F (Zb (Za j) Ze)) U (vs.length+1) 0 [] K) L:=by
 have lv:vs.length=ts.length:=r.length
 refine ZbG (λi acc M=>NewsT K (ts.take i) acc M/\acc.length=i) (by rw[ZD];lia) ⟨⟨[],[],.s,.nil,.s,.s⟩,rfl⟩ ?_ (λacc M h=>?_) (λacc M h=>?_)
 ·intro i acc M hi h
  obtain⟨N,hl'⟩:=h
  have N0:=N
  obtain⟨X,_,rfl,_⟩:=N0
  refine⟨.l,vs[i],_,(hnx X).1 i hi,Zbr _ _ _,Zbl ⟨λ_=>?_,.s⟩⟩
  obtain⟨v,G',e1,r1,_⟩:=r.at (Yy1 (show i<ts.length by lia))
  rw[Yy1 hi]at e1
  cases e1
  refine Zay (ZX (Zr (v:=vs[i]) (by simp[Zi]) (Zan ?_)))
  refine(ih ts[i] (List.getElem_mem _) _ _ _ (r1.ext X)).mono λu M' h=>⟨?_,by simp[hl']⟩
  rw[List.take_add_one,Yy1 .o]
  exact N.snoc h
 ·obtain⟨⟨X,_,rfl,_⟩,_⟩:=h
  exact(hnx X).2
 ·rw[lv,List.take_length]at h
  exact done acc M h.1 h.2
theorem ZeO{k:String}{f:Ex}(h:Ok (f U H) λx M=>ZdX x=false/\Q (.bool (Zbt k x)) M): Ok (eIs k f U H) Q:=by
 obtain⟨x,M,e,o,q⟩:=h
 exact⟨_,_,by simp[eIs,e,o],q⟩
theorem ZtA(hfn:∀n,fn (n+1)=Zs 1 (cpG (fn n))): ∀(n:Nat) {t:T},Nice n t->∀(K:Hp) (v:V) (F:List Nat),RF K v t F->Ok (fn (n+1) [v] K) (Zhg K t):=by
 have flat:∀{n:Nat} {K:Hp} {v:V} {t:T},ZdX v=false->Zbt "list" v=false->Zbt "tuple" v=false->RF K v t []->Ok (fn (n+1) [v] K) (Zhg K t):=λ{n K v t} h1 h2 h3 r=>by
  rw[hfn]
  refine Z7 rfl (Zae (ZaS (ZaD (ZeO (Zr rfl ⟨h1,?_⟩)))))
  rw[h2]
  refine Zaq ?_
  refine⟨λz=>(by cases z),λ_=>?_⟩
  refine Zbm ?_
  refine Zae (ZaS (ZaD (ZeO (Zr rfl ⟨h1,?_⟩))))
  rw[h3]
  refine Zaq ?_
  refine⟨λz=>(by cases z),λ_=>?_⟩
  refine Zbm ?_
  exact Za3 (Zr rfl ⟨[],[],.s,r,.s,.s⟩)
 intro n t h
 induction h with
 | none=>intro K v F r;cases r;exact flat rfl rfl rfl .none
 | bool b=>intro K v F r;cases r;exact flat rfl rfl rfl (.bool b)
 | int i=>intro K v F r;cases r;exact flat rfl rfl rfl (.int i)
 | str s=>intro K v F r;cases r;exact flat rfl rfl rfl (.str _)
 | @tup n ts hl hs ih=>
  intro K v F r
  cases r with
  | @tup vs _ _ r=>
  rw[hfn]
  refine Z7 rfl ?_
  refine Zae (ZaS (ZaD (ZeO (Zr rfl ⟨rfl,?_⟩))))
  refine Zaq ?_
  refine⟨λz=>(by cases z),λ_=>?_⟩
  refine Zbm ?_
  refine Zae (ZaS (ZaD (ZeO (Zr rfl ⟨rfl,?_⟩))))
  refine Zaq ?_
  refine⟨λ_=>?_,λz=>(by cases z)⟩
  refine Za3 (Zay (ZX (ZbY (ZaR (Zr rfl (ZmE ?_))))))
  refine ZlX hl r (λX=>⟨λi h=>by simp[Zc9,h],by simp[Zc9]⟩) ih λus M N le=>Zan ?_
  obtain⟨X,G,rfl,r',nd,hG⟩:=N
  exact⟨.tup us,_,ZcQ .s,X++[us],G,(List.append_assoc ..),.tup (r'.ext _),nd,hG⟩
 | @lst n ts hl hs ih=>
  intro K v F r
  cases r with
  | @ref a vs _ _ ea r=>
  rw[hfn]
  refine Z7 rfl ?_
  refine Zae (ZaS (ZaD (ZeO (Zr rfl ⟨rfl,?_⟩))))
  refine Zaq ?_
  refine⟨λ_=>?_,λz=>(by cases z)⟩
  refine Za3 (ZbY (ZaR (Zr rfl (ZcU ea ?_))))
  refine ZlX hl r (λX=>⟨λi h=>by rw[ZbB (ZW ea),Yy1 h],by rw[ZbB (ZW ea)];simp⟩) ih λus M N le=>?_
  obtain⟨X,G,rfl,r',nd,hG⟩:=N
  refine⟨X++[us],(K++X).length::G,List.append_assoc ..,.ref (Zv _ _) (r'.ext _),List.nodup_cons.mpr ⟨λm=>?_,nd⟩,λa m=>?_⟩
  ·have:=r'.lt _ m;lia
  ·rcases Zz7.mp m with rfl | m
   ·simp
   ·exact hG a m
end L
namespace L
def ZtB(ts:List T)(t:T): Prop:=ts=[t]/\Nice 23 t
noncomputable def Zgg: List T->Option T:=pf ZtB
theorem Zej(h:Nice 23 t): Zgg [t]=some t:=Zcn ⟨rfl,h⟩ λu ⟨e,_⟩=>by cases e;rfl
theorem ZnF(hfn:∀n,fn (n+1)=Zs 1 (cpG (fn n))): ZaZ true (fn 24) Zgg:=λH vs ts t F1 hp r e=>by
 right
 obtain⟨rfl,hN⟩:=Zck e
 obtain⟨v,rfl,r1⟩:=r.i1
 obtain⟨u,M,e,X,G,rfl,rf,nd,hG⟩:=ZtA hfn 23 hN H v _ r1
 left
 exact⟨u,X,G,e,rf,λa m=>.inl (hG a m),λ_=>⟨nd,hG⟩⟩
def ZlY(F: .y): Sm:=cpG F
def ZfV: Nat-> .y
 | 0=>λ_ _=>none
 | n+1=>Zs 1 (ZlY (ZfV n))
def Zgh: .y:=ZfV 24
theorem ZlZ: ZaZ true Zgh Zgg:=ZnF λ_=>rfl
def Zid: Sm:=Zo (ZO (Zb (ZF "when") (Zb (Zg Zgh (Zb (Za 0) Ze)) (Zb (Za 1) Ze))))
def ZcL: .y:=Zs 2 Zid
noncomputable def Zak(c:T)(b:Bool): T:=.tup [.str "when",c,.bool b]
def Zuw(ts:List T)(t:T): Prop:=∃c b,ts=[c,.bool b]/\Nice 23 c/\t=Zak c b
noncomputable def Zj0: List T->Option T:=pf Zuw
theorem ZoO: ZaZ true ZcL Zj0:=λH vs ts t F1 hp r e=>by
 right
 obtain⟨c,b,rfl,hc,rfl⟩:=Zck e
 obtain⟨v1,v2,F1',F2',rfl,_,r1,r2⟩:=r.i2
 left
 cases r2
 right
 have e1:=Zej hc
 obtain⟨u,X,G,g1,g2,g3,g4⟩:=ZlZ H [v1] _ _ _ hp (.one r1) e1
 have key:Ok (ZcL [v1,.bool b] H) λv M=>v=.tup [.str "when",u,.bool b]/\M=H++X:=by
  unfold ZcL Zid
  refine Z7 rfl ?_
  repeat' fail
  refine Ok.of g1 ?_
  repeat' fail
  exact⟨rfl,rfl⟩
 obtain⟨_,_,e,rfl,rfl⟩:=key
 left
 refine⟨_,X,G,e,?_,λa m=>.inl ((g4 rfl).2 a m),λ_=>⟨(g4 rfl).1,(g4 rfl).2⟩⟩
 have:=RF.tup (.cons (.str "when") (.cons g2 (.cons (.bool b) .nil)))
 simpa [Zak]using this
def goT: T:=.tup [.str "go"]
noncomputable def rowT(a:Int)(t:T)(b:Int): T:=.tup [.int a,t,.int b]
inductive LyB(L:T->Int->List T->Int->Prop): List T->Int->List T->Int->Prop where
 | nil {u:Int}:LyB L [] u [] u
 | cons {t:T} {ts:List T} {u e e':Int} {r r':List T}:L t u r e->LyB L ts e r' e'->LyB L (t::ts) u (r++r') e'
def LyS: Nat->T->Int->List T->Int->Prop
 | 0=>λt u r e=>Zd3 t/\r=[rowT u t (u+1)]/\e=u+1
 | n+1=>λt u r e=>(Zd3 t/\r=[rowT u t (u+1)]/\e=u+1) ∨
   (∃c a b ra ea rb eb,t=ifT c a b/\Nice 2 c/\LyB (LyS n) a (u+1) ra ea/\LyB (LyS n) b (ea+1) rb eb/\r=rowT u (Zak c true) (u+1)::(ra++rowT u (Zak c false) (ea+1)::(rb++[rowT ea goT (eb+1),rowT eb goT (eb+1)]))/\e=eb+1) ∨
   (∃c a ra ea,t=whT c a/\Nice 2 c/\LyB (LyS n) a (u+2) ra ea/\r=rowT u goT (u+1)::rowT (u+1) (Zak c true) (u+2)::(ra++[rowT ea goT (u+1),rowT (u+1) (Zak c false) (ea+1)])/\e=ea+1)
section
variable {Q:T->List T->Prop}
theorem ZrV{b:Bool}(h:Nice 2 c): Zj0 [c,.bool b]=some (Zak c b):=by
 refine Zcn ⟨c,b,rfl,h.mono .d,rfl⟩ λu ⟨c',b',e,_,eu⟩=>?_
 cases e
 exact eu
end
end L
namespace L
def ZhT: Sm:=Zo (Zg Zjo (Zb (Z3 (ZQ (Za 0)) (Zw 100) ZJ (Zg ZdY (Zb (Zc Zf (Za 100) (Zd 0)) (Zb (Zc Zf (Za 100) (Zd 2)) Ze)))) Ze))
def ZcJ: .y:=Zs 1 ZhT
def mxI: T->Int
 | .tup [.int a,_,.int b]=>if b>a then b else a
 | _=>0
theorem ZrW{a:Int}: mxI (.tup [.int a,t,.int b])=if b>a then b else a:=rfl
def ZjF(x:T): Prop:=∃h t b,x=.tup [.int h,t,.int b]
theorem Zqw(r:RF K v (.tup [.int h,t,.int b]) F): ∃u G,v=.tup [.int h,u,.int b]/\RF K u t G:=by
 obtain⟨_,u,_,_,G,_,rfl,_,r1,r2,r3⟩:=r.i3
 cases r1
 cases r3
 exact⟨u,G,rfl,r2⟩
theorem Zqx{rs:List T}(ea:K[a]?=some vs)(r:RFs K vs rs F)(hr:∀x∈rs,ZjF x)(hl:rs.length<=9000): ∃X,ZcJ [.ref a] K=some (.int ((rs.map mxI).max?.getD 0),K++X):=by
 have lv:vs.length=rs.length:=r.length
 have key:Ok (ZcJ [.ref a] K) λv M=>v=.int ((rs.map mxI).max?.getD 0)/\∃X,M=K++X:=by
  unfold ZcJ ZhT
  refine Z7 rfl ?_
  refine Za3 (Zay (ZX (ZbY (ZaR (Zr rfl (ZcU ea ?_))))))
  let QL:Nat->List V->Hp->Prop:=λi acc M=>acc=((rs.take i).map mxI).map V.int/\M=K
  refine ZbG QL (by rw[ZD];lia) ⟨rfl,rfl⟩ ?_ (λacc M h=>by rw[h.2,ZbB ea];simp) (λacc M h=>?_)
  ·intro i acc M hi h
   obtain⟨rfl,rfl⟩:=h
   have hi':i<rs.length:=by lia
   obtain⟨v,G,e1,r1,_⟩:=r.at (Yy1 hi')
   obtain⟨h0,t,b,ex⟩:=hr rs[i] (List.getElem_mem _)
   rw[ex]at r1
   obtain⟨u,_,rfl,_⟩:=Zqw r1
   refine⟨by simp;lia,.tup [.int h0,u,.int b],_,by rw[ZbB ea,e1],Zbr _ _ _,Zbl ⟨λ_=>?_,.s⟩⟩
   repeat' fail
   refine⟨?_,rfl⟩
   rw[List.take_add_one,Yy1 hi',ex]
   simp[ZrW]
  obtain⟨rfl,rfl⟩:=h
  rw[lv,List.take_length]
  refine Zan ⟨_,M++[(rs.map mxI).map V.int],?_,rfl,_,rfl⟩
  have:∀l:List Int,Za2 (l.map V.int)=some l:=λl=>by
   induction l with
   | nil=>rfl
   | cons k l ih=>simp[Za2,ih]
  unfold Zjo
  rw[ZcQ (Zv _ _),this]
  rfl
 obtain⟨_,_,e,rfl,X,rfl⟩:=key
 exact⟨X,e⟩
def Zux(ts:List T)(t:T): Prop:=∃r,ts=[.lst r]/\(∀x∈r,ZjF x)/\r.length<=9000/\t=.int ((r.map mxI).max?.getD 0)
noncomputable def ZhU: List T->Option T:=pf Zux
theorem Zoh: ZaZ false ZcJ ZhU:=λH vs ts t F1 hp r e=>by
 right
 obtain⟨rs,rfl,h1,h2,rfl⟩:=Zck e
 obtain⟨v,rfl,r1⟩:=r.i1
 obtain⟨a,vs,G,rfl,ea,rv,_⟩:=r1.ilst
 obtain⟨X,eX⟩:=Zqx ea rv h1 h2
 left
 exact⟨_,X,[],eX,.int _,λ_ m=>(List.not_mem_nil m).elim,λz=>by cases z⟩
def RowOk(e:Int)(x:T): Prop:=∃a t b,x=rowT a t b/\Nice 3 t/\0<=a/\a<=e/\0<=b/\b<=e
theorem RowOk.mono{x:T}(h:RowOk e x)(k:e<=e'): RowOk e' x:=by
 obtain⟨a,t,b,h1,h2,h3,h4,h5,h6⟩:=h
 exact⟨a,t,b,h1,h2,h3,.l,h5,.l⟩
def Zjf(u:Int)(r:List T)(e:Int): Prop:=(∀x∈r,RowOk e x)/\(u<e->∃a t,rowT a t e∈r)
theorem Zgi: Nice (n+1) goT:=.tup .s (Z2 (.str .D) nl0)
theorem ZfP{b:Bool}(h:Nice 2 c): Nice 3 (Zak c b):=.tup .s (Z2 (.str .D) (Z2 h (Z2 (.bool b) nl0)))
theorem ZfW{L:T->Int->List T->Int->Prop}(hL:∀t u r e,L t u r e->0<=u->u<e/\Zjf u r e)(h:LyB L ts u r e): 0<=u->u<=e/\Zjf u r e:=by
 induction h with
 | nil=>intro _;exact⟨.l,.s,λq=>absurd q .l⟩
 | @cons t ts u e e' r r' a _ ih=>
  intro h0
  obtain⟨h1,h2,h3⟩:=hL _ _ _ _ a h0
  obtain⟨h4,h5,h6⟩:=ih .l
  refine⟨.l,λx m=>?_,λq=>?_⟩
  ·rcases Zz8.mp m with m | m
   ·exact(h2 x m).mono h4
   ·exact h5 x m
  ·by_cases z:e<e'
   ·obtain⟨a,t,m⟩:=h6 z
    exact⟨a,t,List.mem_append_right _ m⟩
   ·have:e'=e:=by lia
    subst this
    obtain⟨a,t,m⟩:=h3 h1
    exact⟨a,t,Yy7 _ m⟩
theorem ZfX: ∀(n:Nat) (t:T) (u:Int) (r:List T) (e:Int),LyS n t u r e->0<=u->u<e/\Zjf u r e
 | 0,t,u,r,e,h,h0=>by
  obtain⟨h,rfl,rfl⟩:=h
  refine⟨.l,λx m=>?_,λ_=>⟨u,t,.s⟩⟩
  simp at m
  subst m
  exact⟨u,t,u+1,rfl,h.1,h0,.l,.l,.l⟩
 | n+1,t,u,r,e,h,h0=>by
  rcases h with⟨h1,rfl,rfl⟩ | ⟨c,a,b,ra,ea,rb,eb,rfl,hc,ha,hb,rfl,rfl⟩ | ⟨c,a,ra,ea,rfl,hc,ha,rfl,rfl⟩
  ·refine⟨.o,λx m=>?_,λ_=>⟨u,t,.s⟩⟩
   simp at m
   subst m
   exact⟨u,t,u+1,rfl,h1.1,h0,.o,.o,.o⟩
  ·obtain⟨l1,k1,_⟩:=ZfW (ZfX n) ha .o
   obtain⟨l2,k2,_⟩:=ZfW (ZfX n) hb .l
   refine⟨.l,λx m=>?_,λ_=>⟨ea,goT,.s⟩⟩
   simp only[List.mem_cons,List.mem_append,List.not_mem_nil,or_false]at m
   rcases m with rfl | m | rfl | m | rfl | rfl
   ·exact⟨_,_,_,rfl,ZfP hc,.o,.l,.l,.l⟩
   ·exact(k1 x m).mono .l
   ·exact⟨_,_,_,rfl,ZfP hc,.o,.o,.l,.l⟩
   ·exact(k2 x m).mono .l
   ·exact⟨_,_,_,rfl,Zgi,.l,.o,.l,.l⟩
   ·exact⟨_,_,_,rfl,Zgi,.l,.o,.o,.o⟩
  ·obtain⟨l1,k1,_⟩:=ZfW (ZfX n) ha .l
   refine⟨.l,λx m=>?_,λ_=>⟨u+1,Zak c false,.s⟩⟩
   simp only[List.mem_cons,List.mem_append,List.not_mem_nil,or_false]at m
   rcases m with rfl | rfl | m | rfl | rfl
   ·exact⟨_,_,_,rfl,Zgi,.o,.l,.l,.l⟩
   ·exact⟨_,_,_,rfl,ZfP hc,.o,.o,.l,.l⟩
   ·exact(k1 x m).mono .l
   ·exact⟨_,_,_,rfl,Zgi,.l,.o,.o,.o⟩
   ·exact⟨_,_,_,rfl,ZfP hc,.o,.o,.l,.l⟩
theorem ZrX(h0:0<=e)(hl:r.length<=9000)(h1:∀x∈r,RowOk e x)(h2:0<e->∃a t,rowT a t e∈r): ZhU [.lst r]=some (.int e):=by
 have key:(r.map mxI).max?.getD 0=e:=by
  by_cases q:0<e
  ·have:(r.map mxI).max? = some e:=by
    rw[List.max?_eq_some_iff]
    refine⟨?_,λc hc=>?_⟩
    ·obtain⟨a,t,m⟩:=h2 q
     obtain⟨a',t',b',e1,_,k1,k2,k3,k4⟩:=h1 _ m
     unfold rowT at e1
     cases e1
     refine Zz11.mpr ⟨_,m,?_⟩
     show(if e>a then e else a)=e
     split <;> lia
    ·obtain⟨x,m,rfl⟩:=Zz11.mp hc
     obtain⟨a,t,b,rfl,_,k1,k2,k3,k4⟩:=h1 x m
     show(if b>a then b else a)<=e
     split <;> omega
   rw[this]
   rfl
  ·have e0:e=0:=by lia
   subst e0
   cases r with
   | nil=>rfl
   | cons x r=>
    have:((x::r).map mxI).max? = some 0:=by
     rw[List.max?_eq_some_iff]
     have z:∀y∈x::r,mxI y=0:=λy m=>by
      obtain⟨a,t,b,rfl,_,k1,k2,k3,k4⟩:=h1 y m
      show(if b>a then b else a)=0
      split <;> lia
     refine⟨Zz11.mpr ⟨x,List.mem_cons_self,z x Zz5⟩,λc hc=>?_⟩
     obtain⟨y,m,rfl⟩:=Zz11.mp hc
     rw[z y m]
     exact Int.le_refl _
    rw[this]
    rfl
 have h3:∀x∈r,ZjF x:=λx m=>by
  obtain⟨a,t,b,rfl,_⟩:=h1 x m
  exact⟨a,t,b,rfl⟩
 refine Zcn ⟨r,rfl,h3,hl,by rw[key]⟩ λu ⟨r',e,_,_,eu⟩=>?_
 cases e
 rw[eu,key]
end L
open PySem PM TM
namespace L
def ZhD: Sm:=Zh (Zk 1 (Zc Zf (Zc Zf (ZE (Z8 (Runner_c) 5) (Za 0)) (Zd 2)) (ZE Zax (Zd 1)))) (Zh (Zk 2 (ZdE (ZE (Z8 (Runner_c) 4) (Za 0)))) (Zh (Zk 3 (Zc Zf (Za 2) (Zd 0))) (Zh (Zk 4 (Zc Zf (Za 2) (Zd 1))) (Zap (Runner_c) 5 (ZO (Zb (Zc Zf (Za 3) (Zd 0)) (Zb (Zc Zf (Za 4) (Zd 2)) (Zb (Zg Zdt (Zb (Zc Zf (Za 3) (Zd 2)) (Zb (Zc Zf (Zc Zf (Za 4) (Zd 1)) (Zd 1)) (Zb (Za 1) Ze)))) Ze)))) (Za 0)))))
def Zfn: .y:=Zs 1 ZhD
end L
namespace L
def BegR(ts:List T)(b:Int×List Int): Prop:=∃fs g x m ys gv,ts=[.lst fs,.int (g:Nat),Zq gv]/\fs[g]?=some (.tup (x::.int (m:Nat)::ys))/\gv.length<=m/\m<=60/\b=((g:Int),full m gv)
theorem BegR.det{b b':Int×List Int}(h:BegR ts b)(k:BegR ts b'): b=b':=by
 right
 obtain⟨fs,g,x,m,ys,gv,rfl,e,_,_,rfl⟩:=h
 obtain⟨fs',g',x',m',ys',gv',e1,e',_,_,rfl⟩:=k
 simp only[List.cons.injEq,and_true,T.lst.injEq,T.int.injEq]at e1
 obtain⟨rfl,e2,e3⟩:=e1
 left
 cases Zbn e3
 cases Int.ofNat.inj e2
 rw[e]at e'
 simp only[Option.some.injEq,T.tup.injEq,List.cons.injEq,T.int.injEq]at e'
 cases Int.ofNat.inj e'.2.1
 rfl
def Zfo: List T->Option T:=pf λts t=>∃b,BegR ts b/\t=.tup [.int b.1,.int 0,Zq b.2]
def Zh3: List T->Option T:=pf λts t=>∃b,BegR ts b/\t=.lst [.int b.1,.int 0,Zq b.2]
theorem ZrY{x:T}(e:fs[g]?=some (.tup (x::.int m::ys)))(h1:gv.length<=m)(h2:m<=60): Zfo [.lst fs,.int g,Zq gv]=some (.tup [.int g,.int 0,Zq (full m gv)]):=by
 have h:BegR [.lst fs,.int g,Zq gv] ((g:Int),full m gv):=⟨fs,g,x,m,ys,gv,rfl,e,h1,h2,rfl⟩
 exact Zcn ⟨_,h,rfl⟩ λu ⟨b,hb,eu⟩=>by rw[eu,hb.det h]
theorem ZrZ{x:T}(e:fs[g]?=some (.tup (x::.int m::ys)))(h1:gv.length<=m)(h2:m<=60): Zh3 [.lst fs,.int g,Zq gv]=some (.lst [.int g,.int 0,Zq (full m gv)]):=by
 have h:BegR [.lst fs,.int g,Zq gv] ((g:Int),full m gv):=⟨fs,g,x,m,ys,gv,rfl,e,h1,h2,rfl⟩
 exact Zcn ⟨_,h,rfl⟩ λu ⟨b,hb,eu⟩=>by rw[eu,hb.det h]
theorem Znu{x:T}(r:RFs K vs fs F)(e:fs[g]?=some (.tup (x::.int m::ys))): ∃v us,vs[g]?=some (.tup (v::.int m::us)):=by
 right
 obtain⟨v,G,e1,r1,_⟩:=r.at e
 obtain⟨_,rfl,q⟩:=r1.itup
 obtain⟨_,_,_,_,rfl,_,_,q2⟩:=q.icons
 obtain⟨_,_,_,_,rfl,_,r2,_⟩:=q2.icons
 left
 cases r2
 exact⟨_,_,e1⟩
theorem ZjK: ZaZ true Zdk Zfo:=λH vs ts t F1 hp r e=>by
 right
 obtain⟨b,⟨fs,g,x,m,ys,gv,rfl,ef,h1,h2,rfl⟩,rfl⟩:=Zck e
 obtain⟨_,_,_,_,_,_,rfl,_,r1,r2,r3⟩:=r.i3
 left
 cases r2
 right
 obtain⟨b,rfl,eb,_⟩:=Zbv r3
 obtain⟨a,vs,G,rfl,ea,rv,_⟩:=r1.ilst
 obtain⟨v,us,ev⟩:=Znu rv ef
 obtain⟨Y,eY⟩:=Zpv ea ev eb h1 h2
 left
 refine⟨_,_,[(H++Y).length],eY,?_,λa m=>by simp at m;apply Or.inl;lia,λ_=>⟨.s,λa m=>by simp at m;omega⟩⟩
 have:=RF.tup (.cons (.int (g:Int)) (.cons (.int 0) (.one (ZgG (K:=H++(Y++[(full m gv).map V.int])) (a:=(H++Y).length) (l:=full m gv) (by rw[<-List.append_assoc];exact Zv _ _)))))
 simpa using this
theorem Zov: ZaZ true Zcu Zh3:=λH vs ts t F1 hp r e=>by
 right
 obtain⟨b,⟨fs,g,x,m,ys,gv,rfl,ef,h1,h2,rfl⟩,rfl⟩:=Zck e
 obtain⟨_,_,_,_,_,_,rfl,_,r1,r2,r3⟩:=r.i3
 left
 cases r2
 right
 obtain⟨b,rfl,eb,_⟩:=Zbv r3
 obtain⟨a,vs,G,rfl,ea,rv,_⟩:=r1.ilst
 obtain⟨v,us,ev⟩:=Znu rv ef
 obtain⟨Y,eY⟩:=ZrU ea ev eb h1 h2
 have e1:(H++(Y++[(full m gv).map V.int,[.int g,.int 0,.ref (H++Y).length]]))[(H++Y).length]?=some ((full m gv).map V.int):=by
  rw[<-List.append_assoc,Yy5 (Zz10 _)];simp
 have e2:(H++(Y++[(full m gv).map V.int,[.int g,.int 0,.ref (H++Y).length]]))[(H++Y).length.succ]?=some [.int g,.int 0,.ref (H++Y).length]:=by
  rw[<-List.append_assoc,Yy5 (Nat.le_succ _)];simp
 left
 refine⟨_,_,[(H++Y).length.succ,(H++Y).length],eY,?_,λa m=>by simp at m;apply Or.inl;lia,λ_=>⟨.s,λa m=>by simp at m;omega⟩⟩
 have:=RF.ref e2 (.cons (.int (g:Int)) (.cons (.int 0) (.one (ZgG e1))))
 simpa using this
end L
namespace L
def ZhE: Sm:=Zh (Zk 2 (Zc Zf (Za 1) (Zd 1))) (Zh (Zk 3 (Z3 (ZQ (Zc Zf (Za 2) (Zd 3))) (Zw 100) ZJ (Zg ZcO (Zb (Za 100) (Zb (Zc Zf (ZE (Z8 (Runner_c) 5) (Za 0)) (Zd 2)) Ze))))) (Zh (ZN (Zag (ZE (Z8 (Runner_c) 4) (Za 0)) (ZO (Zb (ZE (Z8 (Runner_c) 5) (Za 0)) (Zb (Za 1) Ze))))) (Zap (Runner_c) 5 (Zg Zdk (Zb (ZE (Z8 (Runner_c) 0) (Za 0)) (Zb (Zc Zf (Za 2) (Zd 2)) (Zb (Za 3) Ze)))) (Za 0))))
def Zfp: .y:=Zs 2 ZhE
end L
namespace L
def Zhn: Sm:=Zh (Zk 2 (Z1 (Runner_c) Zfd (Za 0) (Zb (Zc Zf (Zc Zf (Za 1) (Zd 0)) (Zd 1)) Ze))) (Zh (Zk 3 (ZE (Z8 (Runner_c) 5) (Za 0))) (Zac (ZQ (Za 1)) (Zw 4) (Zh (Zk 5 (Zg Zcl (Zb (Zc Zf (Za 3) (Zd 2)) (Zb (Zc Zf (Za 4) (Zd 1)) (Zb (Za 2) Ze))))) (Zu (Zl (Zc ZaA (Za 5) (Z9))) (Zap (Runner_c) 5 (ZO (Zb (Zc Zf (Za 3) (Zd 0)) (Zb (Zc Zf (Za 4) (Zd 2)) (Zb (Za 5) Ze)))) (Za 0)) ZG))))
def Zfe: .y:=Zs 2 Zhn
end L
namespace L
def ZhF: Sm:=Zh (Zk 1 (Z1 (Runner_c) Zd6 (Za 0) Ze)) (Zu (Zl (Zc ZA (Zg ZZ (Zb (Za 1) Ze)) (Zd 0))) (ZN (Z1 (Runner_c) Zfn (Za 0) Ze)) (Zu (Zl (Zc ZA (Zc Zf (Zc Zf (Zc Zf (Za 1) (Zd 0)) (Zd 1)) (Zd 0)) (ZF "call"))) (ZN (Z1 (Runner_c) Zfp (Za 0) (Zb (Zc Zf (Za 1) (Zd 0)) Ze))) (ZN (Z1 (Runner_c) Zfe (Za 0) (Zb (Za 1) Ze)))))
def Zed: .y:=Zs 1 ZhF
end L
namespace L
def Zhw: Sm:=Zh (Zk 1 (Z3 (ZaM (Zb (Zc ZC (Zg ZcJ (Zb (Za 0) Ze)) (Zd 1)) Ze)) (Zw 100) ZJ (ZB Ze))) (Zh (Zac (ZQ (Za 0)) (Zw 2) (ZN (Zag (Zc Zf (Za 1) (Zc Zf (Za 2) (Zd 0))) (Za 2)))) (Zo (Za 1)))
def Zd8: .y:=Zs 1 Zhw
end L
namespace L
def ZhG(F: .y): Sm:=Zh (Zk 3 (Z1 (Layer_c) ZbW (Za 0) (Zb (Za 2) (Zb (Zg ZcL (Zb (Zc Zf (Za 1) (Zd 1)) (Zb (ZaT true) Ze))) Ze)))) (Zh (Zk 4 (Z1 (Layer_c) F (Za 0) (Zb (Zc Zf (Za 1) (Zd 2)) (Zb (Za 3) Ze)))) (Zh (Zk 5 (Z1 (Layer_c) ZbW (Za 0) (Zb (Za 2) (Zb (Zg ZcL (Zb (Zc Zf (Za 1) (Zd 1)) (Zb (ZaT false) Ze))) Ze)))) (Zh (Zk 6 (Z1 (Layer_c) F (Za 0) (Zb (Zc Zf (Za 1) (Zd 3)) (Zb (Za 5) Ze)))) (Zh (Zk 7 (Z1 (Layer_c) ZbW (Za 0) (Zb (Za 4) (Zb (ZO (Zb (ZF "go") Ze)) Ze)))) (Zh (ZN (Z1 (Layer_c) Zdn (Za 0) (Zb (Za 6) (Zb (ZO (Zb (ZF "go") Ze)) (Zb (Za 7) Ze))))) (Zo (Za 7)))))))
def Zfq(F: .y): .y:=Zs 3 (ZhG F)
end L
namespace L
def Zho(F: .y): Sm:=Zh (Zk 3 (Z1 (Layer_c) ZbW (Za 0) (Zb (Za 2) (Zb (ZO (Zb (ZF "go") Ze)) Ze)))) (Zh (Zk 4 (Z1 (Layer_c) ZbW (Za 0) (Zb (Za 3) (Zb (Zg ZcL (Zb (Zc Zf (Za 1) (Zd 1)) (Zb (ZaT true) Ze))) Ze)))) (Zh (Zk 5 (Z1 (Layer_c) F (Za 0) (Zb (Zc Zf (Za 1) (Zd 2)) (Zb (Za 4) Ze)))) (Zh (ZN (Z1 (Layer_c) Zdn (Za 0) (Zb (Za 5) (Zb (ZO (Zb (ZF "go") Ze)) (Zb (Za 3) Ze))))) (Zo (Z1 (Layer_c) ZbW (Za 0) (Zb (Za 3) (Zb (Zg ZcL (Zb (Zc Zf (Za 1) (Zd 1)) (Zb (ZaT false) Ze))) Ze)))))))
def Zff(F: .y): .y:=Zs 3 (Zho F)
end L
namespace L
def Zd5(F: .y): Sm:=Zh (Zu (Zl (Zc ZA (Zc Zf (Za 1) (Zd 0)) (ZF "if"))) (Zo (Z1 (Layer_c) (Zfq F) (Za 0) (Zb (Za 1) (Zb (Za 2) Ze)))) ZG) (Zh (Zu (Zl (Zc ZA (Zc Zf (Za 1) (Zd 0)) (ZF "while"))) (Zo (Z1 (Layer_c) (Zff F) (Za 0) (Zb (Za 1) (Zb (Za 2) Ze)))) ZG) (Zo (Z1 (Layer_c) ZbW (Za 0) (Zb (Za 2) (Zb (Zg Zgh (Zb (Za 1) Ze)) Ze)))))
def Zca(F: .y): .y:=Zs 3 (Zd5 F)
end L
namespace L
def Zfh(F: .y): Sm:=Zh (Zk 3 (Za 2)) (Zh (Zac (ZQ (Za 1)) (Zw 4) (Zk 3 (Z1 (Layer_c) (Zca F) (Za 0) (Zb (Za 4) (Zb (Za 3) Ze))))) (Zo (Za 3)))
def Zc2: Nat-> .y
 | 0=>λ_ _=>none
 | n+1=>Zs 3 (Zfh (Zc2 n))
def Zhr: .y:=Zc2 9
end L
namespace L
def Zil: Sm:=Zh (Zk 1 (ZcG (Layer_c) Zfm Ze)) (Zh (ZN (Z1 (Layer_c) Zhr (Za 1) (Zb (Za 0) (Zb (Zd 0) Ze)))) (Zo (ZE (Z8 (Layer_c) 0) (Za 1))))
def ZcM: .y:=Zs 1 Zil
end L
namespace L
def ZhH: Sm:=Zo (Z3 (ZQ (Za 0)) (Zw 100) ZJ (Zg Zd8 (Zb (Zg ZcM (Zb (Zc Zf (Za 100) (Zd 2)) Ze)) Ze)))
def Zfr: .y:=Zs 1 ZhH
end L
namespace L
def Zhx: Sm:=Zh (Zap (Runner_c) 0 (Za 1) (Za 0)) (Zh (Zap (Runner_c) 1 (Zg Zfr (Zb (Za 1) Ze)) (Za 0)) (Zh (Zap (Runner_c) 2 (Za 3) (Za 0)) (Zh (Zap (Runner_c) 3 (Zd 0) (Za 0)) (Zh (Zap (Runner_c) 4 (ZB Ze) (Za 0)) (Zap (Runner_c) 5 (Zg Zdk (Zb (Za 1) (Zb (Zc Zai (Zg ZZ (Zb (Za 1) Ze)) (Zd 1)) (Zb (Za 2) Ze)))) (Za 0))))))
def Zd9: .y:=Zs 4 Zhx
end L
namespace L
abbrev Mo:=Int×Int×List Int
noncomputable def Zdg(m:Mo): T:=.tup [.int m.1,.int m.2.1,.lst (m.2.2.map T.int)]
noncomputable def ZY(m:Mo)(b:Nat): V:=.tup [.int m.1,.int m.2.1,.ref b]
structure RS where
 n:Nat
 wt:List (Mo×T)
 m:Mo
noncomputable def Zcq(ts:List T)(k:Int): Option T:=(seqIndex? k ts.length).bind λj=>ts[j]?
def unL: T->Option (List T)
 | .lst ts=>some ts
 | _=>none
def ZaO(tw:T)(m:Mo): Option (List T):=(unL tw).bind λa=>(Zcq a m.1).bind λb=>(unL b).bind λc=>(Zcq c m.2.1).bind unL
def Zcr(t:T): Option (List Int):=(unL t).bind Zb7
noncomputable def Za9: T->Option (List T)
 | .tup ts=>some ts
 | _=>none
noncomputable def unS: T->Option Str
 | .str x=>some x
 | _=>none
def un3(t:T): Option (T×T×T):=(Za9 t).bind λts=>match ts with
 | [a,b,c]=>some (a,b,c)
 | _=>none
def un4(t:T): Option (T×T×T×T):=(Za9 t).bind λts=>match ts with
 | [a,b,c,d]=>some (a,b,c,d)
 | _=>none
theorem Zem(e:Za9 t=some ts): t=.tup ts:=by
 cases t with
 | tup us=>cases e;rfl
 | _=>cases e
theorem ZkX{x:Str}(e:unS t=some x): t=.str x:=by
 cases t with
 | str y=>cases e;rfl
 | _=>cases e
theorem ZdL{k:Int}(e:unI t=some k): t=.int k:=by
 cases t with
 | int y=>cases e;rfl
 | _=>cases e
theorem Zep{p:T×T×T}(e:un3 t=some p): t=.tup [p.1,p.2.1,p.2.2]:=by
 obtain⟨ts,e1,e⟩:=Zz0.mp e
 rw[Zem e1]
 split at e
 ·cases e;rfl
 ·cases e
theorem Zqy{p:T×T×T×T}(e:un4 t=some p): t=.tup [p.1,p.2.1,p.2.2.1,p.2.2.2]:=by
 obtain⟨ts,e1,e⟩:=Zz0.mp e
 rw[Zem e1]
 split at e
 ·cases e;rfl
 ·cases e
def Zjt(t:T): Option Mo:=(un3 t).bind λr=>(unI r.1).bind λf=>(unI r.2.1).bind λp=>(Zcr r.2.2).map λl=>(f,p,l)
def Zcy(bs:List Int): List T->Option (List Int)
 | []=>some []
 | one::ts=>((Zds [one,Zq bs]).bind unI).bind λk=>(Zcy bs ts).map (k::·)
def Zdw(tp:T)(g:Int)(given:List Int): Option Mo:=(Zfo [tp,.int g,Zq given]).bind Zjt
def Zju(bs:List Int)(x a:Int): Option (List Int):=(ZgF [Zq bs,.int x,.int a]).bind Zcr
def unD: T->Option (Option (List Int))
 | .none=>some none
 | .lst ts=>(Zb7 ts).map some
 | _=>none
def ZeZ(bs:List Int)(act:T)(pick:Int): Option (Option (List Int)):=(Zbu [Zq bs,act,.int pick]).bind unD
def ZgH(s:RS): Option RS:=s.wt.getLast?.bind λfr=>s.m.2.2.getLast?.bind λa=>(un3 fr.2).bind λr=>(Za9 r.2.1).bind λas=>(as[1]?.bind unI).bind λx=>(unI r.2.2).bind λq=>(Zju fr.1.2.2 x a).map λl=>⟨s.n,s.wt.dropLast,(fr.1.1,q,l)⟩
def ZgI(tp:T)(s:RS)(row:T): Option RS:=(un3 row).bind λr=>(un4 r.2.1).bind λa=>(unI a.2.2.1).bind λg=>(unL a.2.2.2).bind λsums=>if s.wt.length<10000/\sums.length<10000 then(Zcy s.m.2.2 sums).bind λgv=>(Zdw tp g gv).map λm=>⟨s.n,s.wt++[(s.m,row)],m⟩else none
noncomputable def Zas(ks:List Int)(n:Nat)(wd:Str): Nat×Int:=if wd=Str.ofString "any" then(n+1,ks.getD n 0)else(n,0)
def Zdh(t:T): Option (T×Int):=(un3 t).bind λr=>(unI r.2.2).map λq=>(r.2.1,q)
noncomputable def Zhh(f q:Int)(m:Option Mo): Option (List Int)->Option Mo
 | none=>m
 | some l=>some (f,q,l)
def ZdT(bs:List Int)(f pick:Int): List T->Option Mo->Option (Option Mo)
 | [],m=>some m
 | t::rs,m=>(Zdh t).bind λaq=>(ZeZ bs aq.1 pick).bind λr=>ZdT bs f pick rs (Zhh f aq.2 m r)
theorem Zkm(e:Zdh t=some (act,q)): ∃h,t=.tup [h,act,.int q]:=by
 obtain⟨r,e1,e⟩:=Zz0.mp e
 obtain⟨q',e2,e⟩:=Zz1.mp e
 cases e
 rw[Zep e1,ZdL e2]
 exact⟨_,rfl⟩
def Zb8(tp tw:T)(ks:List Int)(s:RS): Option RS:=(ZaO tw s.m).bind λrows=>match rows with
 | []=>ZgH s
 | row::rs=>(un3 row).bind λr=>(Za9 r.2.1).bind λas=>(as[0]?.bind unS).bind λwd=>if PyData.strOk wd=true then(if wd=Str.ofString "call" then ZgI tp s row else((ZdT s.m.2.2 s.m.1 (Zas ks s.n wd).2 (row::rs) none).bind id).map λm=>⟨(Zas ks s.n wd).1,s.wt,m⟩)else none
def Zb3(tw:T)(s:RS): Option Bool:=(ZaO tw s.m).map λrows=>rows.isEmpty && s.wt.isEmpty
def RFo(K:Hp)(v:V)(t:T)(P:Nat->Prop): Prop:=∃F,RF K v t F/\∀a∈F,P a
theorem RFo.keep(r:RFo K v t P)(h:∀a,P a->a<K.length->K'[a]?=K[a]?): RFo K' v t P:=by
 obtain⟨F,r,p⟩:=r
 exact⟨F,r.frame λa m=>h a (p a m) (r.lt a m),p⟩
theorem RFo.lst(r:RFo K v (.lst ts) P): ∃b vs,v=.ref b/\K[b]?=some vs/\P b/\(∃F,RFs K vs ts F/\∀a∈F,P a):=by
 obtain⟨F,r,p⟩:=r
 cases r with
 | ref e hs=>exact⟨_,_,rfl,e,p _ Zz5,_,hs,λa m=>p a (Zz2 _ m)⟩
theorem RFo.tup(r:RFo K v (.tup ts) P): ∃vs,v=.tup vs/\(∃F,RFs K vs ts F/\∀a∈F,P a):=by
 obtain⟨F,r,p⟩:=r
 cases r with
 | tup hs=>exact⟨_,rfl,_,hs,p⟩
theorem Z0(r:∃F,RFs K vs (t::ts) F/\∀a∈F,P a): ∃v us,vs=v::us/\RFo K v t P/\(∃F,RFs K us ts F/\∀a∈F,P a):=by
 obtain⟨F,r,p⟩:=r
 cases r with
 | cons a b=>exact⟨_,_,rfl,⟨_,a,λx m=>p x (Zz4 _ m)⟩,_,b,λx m=>p x (Zz3 _ m)⟩
theorem ZbP(r:∃F,RFs K vs [] F/\∀a∈F,P a): vs=[]:=by
 obtain⟨F,r,p⟩:=r
 cases r
 rfl
theorem Znv{a b:T}(r:∃F,RFs K vs [a,b,c] F/\∀a∈F,P a): ∃x y z,vs=[x,y,z]/\RFo K x a P/\RFo K y b P/\RFo K z c P:=by
 right
 obtain⟨F,r,p⟩:=r
 obtain⟨x,y,z,F1,F2,F3,rfl,rfl,r1,r2,r3⟩:=r.i3
 left
 exact⟨x,y,z,rfl,⟨_,r1,λa m=>p a (by simp[m])⟩,⟨_,r2,λa m=>p a (by simp[m])⟩,_,r3,λa m=>p a (by simp[m])⟩
theorem RFo.t3{a b:T}(r:RFo K v (.tup [a,b,c]) P): ∃x y z,v=.tup [x,y,z]/\RFo K x a P/\RFo K y b P/\RFo K z c P:=by
 right
 obtain⟨vs,rfl,q⟩:=r.tup
 obtain⟨x,y,z,rfl,h⟩:=Znv q
 left
 exact⟨x,y,z,rfl,h⟩
theorem RFo.int{k:Int}(r:RFo K v (.int k) P): v=.int k:=by
 obtain⟨F,r,_⟩:=r
 cases r
 rfl
theorem RFo.str{k:Str}(r:RFo K v (.str k) P): v=.str k:=by
 obtain⟨F,r,_⟩:=r
 cases r
 rfl
theorem Zcz(r:∃F,RFs K vs ts F/\∀a∈F,P a)(e:ts[j]?=some t): ∃v,vs[j]?=some v/\RFo K v t P:=by
 obtain⟨F,r,p⟩:=r
 obtain⟨v,G,h1,h2,h3⟩:=r.at e
 exact⟨v,h1,G,h2,λa m=>p a (h3.subset m)⟩
theorem Zeq{K:Hp}: ∀{ts:List T} {ks:List Int} {vs:List V} {F:List Nat},Zb7 ts=some ks->RFs K vs ts F->vs=ks.map V.int/\F=[]/\ts=ks.map T.int
 | [],ks,vs,F,e,r=>by cases r;cases e;exact⟨rfl,rfl,rfl⟩
 | .int k::ts,ks,vs,F,e,r=>by
  obtain⟨js,e1,e2⟩:=Zz1.mp e
  subst e2
  cases r with
  | cons a b=>
   cases a
   obtain⟨rfl,rfl,rfl⟩:=Zeq e1 b
   exact⟨rfl,rfl,rfl⟩
theorem Zb4{b:Nat}(e:K[b]?=some (bs.map V.int)): RF K (.ref b) (Zq bs) [b]:=.ref e (by
 have:∀ks:List Int,RFs K (ks.map V.int) (ks.map T.int) []:=λks=>by
  induction ks with
  | nil=>exact .nil
  | cons k ks ih=>exact .cons (.int k) ih
 exact this bs)
theorem Zgj{k:Int}(r:RFo K v (.lst ts) P)(e:Zcq ts k=some t): ∃u,Zf v (.int k) K=some (u,K)/\RFo K u t P:=by
 right
 obtain⟨b,vs,rfl,e1,pb,rs⟩:=r.lst
 obtain⟨j,e2,e3⟩:=Zz0.mp e
 obtain⟨u,h1,h2⟩:=Zcz rs e3
 have hl:vs.length=ts.length:=by obtain⟨F,r,_⟩:=rs;exact r.length
 left
 refine⟨u,?_,h2⟩
 simp[Zf,e1,hl,e2,h1]
theorem Zdr(e:unL t=some ts): t=.lst ts:=by
 cases t <;> simp[unL]at e
 rw[e]
theorem Zjg{a b:Str}(ha:PyData.strOk a=true)(hb:PyData.strOk b=true)(H:Hp): ZA (.str a) (.str b) H=some (.bool (decide (a=b)),H):=by
 simp[ZA,ZbT,toD,SeqAt.shaped,PyData.canLay0,PyData.depth,PyData.eqv,ha,hb]
 rfl
theorem ZtC{a b:Str}(ha:PyData.strOk a=true)(hb:PyData.strOk b=true)(H:Hp): oNe (.str a) (.str b) H=some (.bool (!decide (a=b)),H):=by
 simp[oNe,ZbT,toD,SeqAt.shaped,PyData.canLay0,PyData.depth,PyData.eqv,ha,hb]
 rfl
theorem Zaa{a b:Sm}(h:a U H=some (none,B,H1)): Zh a b U H=b B H1:=by simp[Zh,h]
def unT(n:Nat)(c:Nat->Int): T:=.tup [.str "under",Za0 n c]
def smT(n:Nat)(c:Nat->Int): T:=.tup [.str "same",Za0 n c]
def evT(n:Nat)(c:Nat->Int)(d:Int): T:=.tup [.str "even",Za0 n c,.int d]
theorem su: PyData.strOk "under"=true:=by decide +kernel
theorem ss_: PyData.strOk "same"=true:=by decide +kernel
end L
variable{fr:Mo×T}{frs wt:List (Mo×T)}{s':RS}
namespace L
def Off(o w m0 a:Nat): Prop:=a≠o/\a≠w/\a≠m0
def FmR(K:Hp)(P:Nat->Prop)(v:V)(fr:Mo×T): Prop:=∃c vr,v=.tup [ZY fr.1 c,vr]/\K[c]?=some (fr.1.2.2.map V.int)/\P c/\RFo K vr fr.2 P
inductive FmRs(K:Hp)(P:Nat->Prop): List V->List (Mo×T)->Prop where
 | nil:FmRs K P [] []
 | snoc {vs:List V} {frs:List (Mo×T)} {v:V} {fr:Mo×T}:FmRs K P vs frs->FmR K P v fr->FmRs K P (vs++[v]) (frs++[fr])
theorem lt_of_at{x:List V}(e:K[a]?=some x): a<K.length:=(Zz6.mp e).1
theorem FmR.keep(r:FmR K P v fr)(h:∀a,P a->a<K.length->K'[a]?=K[a]?): FmR K' P v fr:=by
 obtain⟨c,vr,e1,e2,p,r⟩:=r
 exact⟨c,vr,e1,(h c p (lt_of_at e2)).trans e2,p,r.keep h⟩
theorem FmRs.keep(r:FmRs K P vs frs)(h:∀a,P a->a<K.length->K'[a]?=K[a]?): FmRs K' P vs frs:=by
 induction r with
 | nil=>exact .nil
 | snoc _ b ih=>exact .snoc ih (b.keep h)
theorem FmRs.length(r:FmRs K P vs frs): vs.length=frs.length:=by
 induction r with
 | nil=>rfl
 | snoc _ _ ih=>simp[ih]
theorem FmRs.last(r:FmRs K P vs frs)(e:frs.getLast? = some fr): ∃us v,vs=us++[v]/\FmR K P v fr/\FmRs K P us frs.dropLast:=by
 cases r with
 | nil=>simp at e
 | snoc a b=>simp at e;subst e;exact⟨_,_,rfl,b,by simpa using a⟩
structure Rn(K:Hp)(o w b m0:Nat)(vp vw:V)(kk:Nat)(tp tw:T)(ks:List Int)(s:RS): Prop where
 ho:K[o]?=some [vp,vw,.ref kk,.int s.n,.ref w,ZY s.m b]
 hw:∃ws,K[w]?=some ws/\FmRs K (Off o w m0) ws s.wt
 hb:K[b]?=some (s.m.2.2.map V.int)
 rp:RFo K vp tp (Off o w m0)
 rw:RFo K vw tw (Off o w m0)
 rk:K[kk]?=some (ks.map V.int)
 ko:Off o w m0 kk
 bo:Off o w m0 b
 o0:o≠0
 w0:w≠0
 ow:o≠w
 mo:Off o w o m0
 ml:m0<K.length
section
variable {K:Hp} {o w b m0:Nat} {vp vw:V} {kk:Nat} {tp tw:T} {ks:List Int} {s:RS}
theorem ZkY{rows:List T}(R:Rn K o w b m0 vp vw kk tp tw ks s)(e:ZaO tw s.m=some rows): ∃v,Zd6 [.obj Runner_c o] K=some (v,K)/\RFo K v (.lst rows) (Off o w m0):=by
 right
 obtain⟨a,e1,f1⟩:=Zz0.mp e
 obtain⟨t1,e2,f2⟩:=Zz0.mp f1
 obtain⟨c,e3,f3⟩:=Zz0.mp f2
 obtain⟨d,e4,f4⟩:=Zz0.mp f3
 have:=Zdr e1;subst this
 have:=Zdr e3;subst this
 have:=Zdr f4;subst this
 obtain⟨u1,h1,r1⟩:=Zgj R.rw e2
 obtain⟨u2,h2,r2⟩:=Zgj r1 e4
 left
 refine⟨u2,?_,r2⟩
 unfold Zd6 Zhl Zs
 simp only[List.length_singleton,if_true]
 have i0:∀(x y z:V) H,Zf (.tup [x,y,z]) (.int 0) H=some (x,H):=λ_ _ _ _=>rfl
 have i1:∀(x y z:V) H,Zf (.tup [x,y,z]) (.int 1) H=some (y,H):=λ_ _ _ _=>rfl
 simp[Zo,Zc,ZE,Z8,Za,R.ho,Zd,ZY,i0,i1,h1,h2]
theorem Zgk(r:RFo K v (.lst ts) P): ZZ [v] K=some (.int ts.length,K):=by
 obtain⟨c,vs,rfl,e1,pb,F,rs,_⟩:=r.lst
 rw[Zb6 e1,rs.length]
theorem Zpw{q:Bool}(R:Rn K o w b m0 vp vw kk tp tw ks s)(e:Zb3 tw s=some q): Zec [.obj Runner_c o] K=some (.bool q,K):=by
 right
 obtain⟨rows,e9,rfl⟩:=Zz1.mp e
 obtain⟨v,h1,h2⟩:=ZkY R e9
 obtain⟨ws,h3,h4⟩:=R.hw
 have l1:=Zgk h2
 have l2:=h4.length
 left
 unfold Zec ZhA Zs
 simp only[List.length_singleton,if_true]
 have ho:=R.ho
 cases rows with
 | nil=>
  simp only[List.length_nil]at l1
  cases hwt:s.wt with
  | nil=>
   rw[hwt]at l2
   have:ws=[]:=List.length_eq_zero_iff.mp (by simpa using l2)
   subst this
   have l6:ZZ [.ref w] K=some (.int 0,K):=Zb6 h3
   simp[Zo,Zbo,Zc,Zg,Zb,Ze,Z1,Za,ZaP,h1,l1,Zd,Zab,ZE,Z8,ho,l6]
  | cons f fs=>
   have:ws.length≠0:=by rw[l2,hwt];simp
   have l3:((ws.length:Int) == 0)=false:=by simpa using this
   have l4:ws≠[]:=by rintro rfl;simp at this
   have l6:ZZ [.ref w] K=some (.int ws.length,K):=Zb6 h3
   simp[Zo,Zbo,Zc,Zg,Zb,Ze,Z1,Za,ZaP,h1,l1,Zd,Zab,ZE,Z8,ho,l6,l3,l4]
 | cons r rs=>
  have l3:(((r::rs).length:Int) == 0)=false:=by simp;lia
  simp only[Zo,Zbo,Zc,Zg,Zb,Ze,Z1,Za,ZaP,List.getElem?_cons_zero,Ys1,Ys0,beq_self_eq_true,if_true,h1,l1,Zd,Zha,l3,Zab]
  simp
def Ze9(K K':Hp)(o w m0:Nat)(vp vw:V)(kk:Nat)(tp tw:T)(ks:List Int)(s':RS): Prop:=∃b',Rn K' o w b' m0 vp vw kk tp tw ks s'/\K.length<=b'/\K.length<=K'.length/\∀a,a<K.length->a≠o->a≠w->K'[a]?=K[a]?
theorem Rn.mk'{b':Nat}(R:Rn K o w b m0 vp vw kk tp tw ks s)(kp:∀a,a<K.length->a≠o->a≠w->K'[a]?=K[a]?)(ho:K'[o]?=some [vp,vw,.ref kk,.int s'.n,.ref w,ZY s'.m b'])(hw:∃ws,K'[w]?=some ws/\FmRs K' (Off o w m0) ws s'.wt)(hb:K'[b']?=some (s'.m.2.2.map V.int))(hn:K.length<=b')(hl:K.length<=K'.length): Ze9 K K' o w m0 vp vw kk tp tw ks s':=by
 have k2:∀a,Off o w m0 a->a<K.length->K'[a]?=K[a]?:=λa p l=>kp a l p.1 p.2.1
 obtain⟨ws,w1,w2⟩:=R.hw
 have lo:=lt_of_at R.ho
 have lw:=lt_of_at w1
 have lm:=R.ml
 exact⟨b',⟨ho,hw,hb,R.rp.keep k2,R.rw.keep k2,(k2 _ R.ko (lt_of_at R.rk)).trans R.rk,R.ko,⟨.l,.l,.l⟩,R.o0,R.w0,R.ow,R.mo,.l⟩,hn,hl,kp⟩
theorem ZoP(e:ZgH s=some s'): ∃(fr:Mo×T) (a:Int) (th:T) (as:List T) (x q:Int) (ts:List T) (l:List Int),s.wt.getLast? = some fr/\s.m.2.2.getLast? = some a/\fr.2=.tup [th,.tup as,.int q]/\as[1]?=some (.int x)/\ZgF [Zq fr.1.2.2,.int x,.int a]=some (.lst ts)/\Zb7 ts=some l/\⟨s.n,s.wt.dropLast,(fr.1.1,q,l)⟩=s':=by
 right
 obtain⟨fr,e1,e⟩:=Zz0.mp e
 obtain⟨a,e2,e⟩:=Zz0.mp e
 obtain⟨r,f1,e⟩:=Zz0.mp e
 obtain⟨as,f2,e⟩:=Zz0.mp e
 obtain⟨x,f3,e⟩:=Zz0.mp e
 obtain⟨q,f4,e⟩:=Zz0.mp e
 obtain⟨l,e3,e⟩:=Zz1.mp e
 obtain⟨tx,f3,f5⟩:=Zz0.mp f3
 obtain⟨t,e3,e4⟩:=Zz0.mp e3
 obtain⟨ts,e4,e5⟩:=Zz0.mp e4
 left
 exact⟨fr,a,r.1,as,x,q,ts,l,e1,e2,by rw[Zep f1,Zem f2,ZdL f4],by rw[f3,ZdL f5],by rw[e3,Zdr e4],e5,e⟩
theorem RFo.row(r:RFo K v (.tup [th,.tup as,.int q]) P): ∃vh vas,v=.tup [vh,.tup vas,.int q]/\∃F,RFs K vas as F/\∀a∈F,P a:=by
 obtain⟨vh,va,vq,e,_,d2,d3⟩:=r.t3
 obtain⟨vas,e2,d4⟩:=d2.tup
 exact⟨vh,vas,by rw[e,e2,d3.int],d4⟩
theorem Zpx(R:Rn K o w b m0 vp vw kk tp tw ks s)(e:ZgH s=some s'): ∃K',Zfn [.obj Runner_c o] K=some (.none,K')/\Ze9 K K' o w m0 vp vw kk tp tw ks s':=by
 obtain⟨⟨⟨cf,cp,cb⟩,row⟩,a,th,as,x,q,ts,l,e1,e2,er,f3,e3,e5,rfl⟩:=ZoP e
 dsimp only at er
 right
 subst er
 obtain⟨ws,w1,w2⟩:=R.hw
 obtain⟨us,v,rfl,w3,w4⟩:=w2.last e1
 obtain⟨c,vr,rfl,c1,c2,c3⟩:=w3
 obtain⟨vh,vas,rfl,d4⟩:=c3.row
 obtain⟨vx,d6,d5⟩:=Zcz d4 f3
 rw[d5.int]at d6
 have ho:=R.ho
 have hb:=R.hb
 have lo:=lt_of_at R.ho
 have lw:=lt_of_at w1
 have an:Zf (.ref b) (.int (-1)) K=some (.int a,K):=by
  obtain⟨ys,ey⟩:=List.getLast?_eq_some_iff.mp e2
  have hne:s.m.2.2.length=ys.length+1:=by rw[ey];simp
  simp only[Zf,hb,Ys0,List.length_map]
  have:seqIndex? (-1) s.m.2.2.length=some ys.length:=by
   unfold seqIndex?
   simp
   lia
  rw[this]
  simp[ey]
 generalize hK2:K.set w us=K2
 have k2o:K2[o]?=K[o]?:=by rw[<-hK2,Yy2 (Ne.symm R.ow)]
 have k2c:K2[c]?=K[c]?:=by rw[<-hK2,Yy2 (Ne.symm c2.2.1)]
 have l2:K2.length=K.length:=by rw[<-hK2];simp
 obtain⟨v',X,F,g1,g2,g3,g4⟩:=Zty K2 [.ref c,.int x,.int a] [Zq cb,.int x,.int a] (.lst ts) _ .l (.cons (Zb4 (k2c.trans c1)) (.cons (.int x) (.one (.int a)))) e3
 obtain⟨gn,gl⟩:=g4 rfl
 left
 cases g2 with
 | @ref b' vs' _ F' gb grs=>
 obtain⟨rfl,rfl,_⟩:=Zeq e5 grs
 have hb':=gl b' List.mem_cons_self
 have lb':=lt_of_at gb
 generalize hK3:(K2++X).set o [vp,vw,.ref kk,.int s.n,.ref w,ZY (cf,q,l) b']=K3
 have kp:∀a,a<K.length->a≠o->a≠w->K3[a]?=K[a]?:=λa la ha hw=>by
  rw[<-hK3,Yy2 (Ne.symm ha),Yy0 (show a<K2.length by lia),<-hK2,Yy2 (Ne.symm hw)]
 have k3w:K3[w]?=some us:=by
  rw[<-hK3,List.getElem?_set_ne R.ow,Yy0 (show w<K2.length by lia),<-hK2,Yy6 lw]
 refine⟨K3,?_,R.mk' (b':=b') kp ?_ ⟨us,k3w,?_⟩ ?_ .l ?_⟩
 ·unfold Zfn ZhD Zs
  simp only[List.length_singleton,if_true]
  have i0:∀(x y z:V) H,Zf (.tup [x,y,z]) (.int 0) H=some (x,H):=λ_ _ _ _=>rfl
  have i2:∀(x y z:V) H,Zf (.tup [x,y,z]) (.int 2) H=some (z,H):=λ_ _ _ _=>rfl
  have i1:∀(x y z:V) H,Zf (.tup [x,y,z]) (.int 1) H=some (y,H):=λ_ _ _ _=>rfl
  have j0:∀(x y:V) H,Zf (.tup [x,y]) (.int 0) H=some (x,H):=λ_ _ _=>rfl
  have j1:∀(x y:V) H,Zf (.tup [x,y]) (.int 1) H=some (y,H):=λ_ _ _=>rfl
  have a1:∀H,Zf (.tup vas) (.int 1) H=some (.int x,H):=λH=>ZmB .d d6
  rw[Zaa (B:=Zi (λi=>[V.obj Runner_c o][i]?) 1 (.int a)) (H1:=K) (by simp[Zk,Zc,ZE,Z8,Za,ho,Zd,ZY,i2,an])]
  rw[Zaa (B:=Zi (Zi (λi=>[V.obj Runner_c o][i]?) 1 (.int a)) 2 (.tup [ZY (cf,cp,cb) c,V.tup [vh,V.tup vas,V.int q]])) (H1:=K2) (by simp[Zk,ZdE,ZE,Z8,Za,Zi,ho,Zhe,w1,R.w0,hK2])]
  rw[Zaa (B:=Zi (Zi (Zi (λi=>[V.obj Runner_c o][i]?) 1 (.int a)) 2 (.tup [ZY (cf,cp,cb) c,V.tup [vh,V.tup vas,V.int q]])) 3 (ZY (cf,cp,cb) c)) (H1:=K2) (by simp[Zk,Zc,Za,Zi,Zd,j0])]
  rw[Zaa (B:=Zi (Zi (Zi (Zi (λi=>[V.obj Runner_c o][i]?) 1 (.int a)) 2 (.tup [ZY (cf,cp,cb) c,V.tup [vh,V.tup vas,V.int q]])) 3 (ZY (cf,cp,cb) c)) 4 (V.tup [vh,V.tup vas,V.int q])) (H1:=K2) (by simp[Zk,Zc,Za,Zi,Zd,j1])]
  have kxo:(K2++X)[o]?=some [vp,vw,.ref kk,.int s.n,.ref w,ZY s.m b]:=by rw[Yy0 (show o<K2.length by lia),k2o,ho]
  have e0:ZaC Runner_c 5 (.obj Runner_c o) (.tup [.int cf,.int q,.ref b']) (K2++X)=some K3:=by
   simp[ZaC,R.o0,kxo,ZY,<-hK3]
  simp[Zap,ZO,Zb,Ze,Zc,Za,Zi,Zd,ZY,i0,i2,i1,a1,Zg,g1,ZD,e0]
 ·rw[<-hK3,Yy6 (by rw[List.length_append];lia)]
 ·exact w4.keep λa p l=>kp a l p.1 p.2.1
 ·rw[<-hK3,Yy2 .l]
  exact gb
 ·rw[<-hK3];simp;lia
end
end L
namespace L
section
variable {K:Hp} {o w b m0:Nat} {vp vw:V} {kk:Nat} {tp tw:T} {ks:List Int} {s:RS}
theorem i30(x y z:V)(H:Hp): Zf (.tup [x,y,z]) (.int 0) H=some (x,H):=rfl
theorem i31(x y z:V)(H:Hp): Zf (.tup [x,y,z]) (.int 1) H=some (y,H):=rfl
theorem i32(x y z:V)(H:Hp): Zf (.tup [x,y,z]) (.int 2) H=some (z,H):=rfl
theorem i42(x y z u:V)(H:Hp): Zf (.tup [x,y,z,u]) (.int 2) H=some (z,H):=rfl
theorem i43(x y z u:V)(H:Hp): Zf (.tup [x,y,z,u]) (.int 3) H=some (u,H):=rfl
theorem ia0(x:V)(xs:List V)(H:Hp): Zf (.tup (x::xs)) (.int 0) H=some (x,H):=by
 have:seqIndex? 0 (xs.length+1)=some 0:=by unfold seqIndex?;simp
 simp[Zf,this]
def ZeP: Ex:=Zg ZcO (Zb (Za 100) (Zb (Zc Zf (ZE (Z8 (Runner_c) 5) (Za 0)) (Zd 2)) Ze))
theorem Zj1{U:Lc}{d:Nat}{vs:List V}{P:Nat->Prop}(h0:U 0=some (.obj Runner_c o))(ho:K[o]?=some [vp,vw,.ref kk,.int s.n,.ref w,ZY s.m b])(hb:K[b]?=some (s.m.2.2.map V.int))(hd:K[d]?=some vs)(hp:0<K.length): ∀(ts:List T) (i:Nat) (acc gv:List Int) (X:Hp),(∀(j:Nat) t,ts[j]?=some t->∃v,vs[i+j]?=some v/\RFo K v t P)->vs.length=i+ts.length->Zcy s.m.2.2 ts=some gv->acc.length+ts.length<ZK->∃Y,Zah (ZI d) (Zw 100) ZJ ZeP U (ts.length+1) i (acc.map V.int) (K++X)=some ((acc++gv).map V.int,K++Y)
 | [],i,acc,gv,X,hr,hl,e,hc=>by
  cases e
  have hn:vs[i]?=none:=Yy8 (by simp at hl;lia)
  refine⟨X,?_⟩
  have hd':(K++X)[d]?=some vs:=by rw[Yy0 (lt_of_at hd)];exact hd
  simp[Zah,ZI,hd',hn]
 | one::ts,i,acc,gv,X,hr,hl,e,hc=>by
  obtain⟨k,e1,e⟩:=Zz0.mp e
  obtain⟨gv',e2,e3⟩:=Zz1.mp e
  subst e3
  obtain⟨t,e4,e5⟩:=Zz0.mp e1
  have et:t=.int k:=by
   cases t <;> simp[unI]at e5
   rw[e5]
  subst et
  obtain⟨v,v1,F1,v2,v3⟩:=hr 0 one rfl
  rw[Nat.add_zero]at v1
  have hd':(K++X)[d]?=some vs:=by rw[Yy0 (lt_of_at hd)];exact hd
  have hb':(K++X)[b]?=some (s.m.2.2.map V.int):=by rw[Yy0 (lt_of_at hb)];exact hb
  have ho':(K++X)[o]?=some [vp,vw,.ref kk,.int s.n,.ref w,ZY s.m b]:=by rw[Yy0 (lt_of_at ho)];exact ho
  obtain⟨u,Z,F,g1,g2,_⟩:=ZrR (K++X) [v,.ref b] [one,Zq s.m.2.2] (.int k) _ (by rw[List.length_append];lia) (.cons (v2.ext X) (.one (Zb4 hb'))) e4
  cases g2
  obtain⟨Y,y1⟩:=Zj1 h0 ho hb hd hp ts (i+1) (acc++[k]) gv' (X++Z) (λj t e=>by
   have:=hr (j+1) t (by simpa using e)
   rw[show i+(j+1)=i+1+j by lia]at this
   exact this) (by rw[hl];simp;lia) e2 (by simp at hc ⊢;lia)
  refine⟨Y,?_⟩
  have g3:ZeP (Zi U 100 v) (K++X)=some (.int k,K++(X++Z)):=by
   rw[List.append_assoc]at g1
   simp only[ZY]at ho'
   simp[ZeP,Zg,Zb,Ze,Za,Zi,h0,Zc,ZE,Z8,ho',Zd,i32]
   exact g1
  have hc':acc.length<ZK:=by simp at hc;lia
  rw[List.length_cons]
  have y1':Zah (ZI d) (Zw 100) ZJ ZeP U (ts.length+1) (i+1) (acc.map V.int++[V.int k]) (K++(X++Z))=some ((acc++k::gv').map V.int,K++Y):=by
   have:(acc++[k]).map V.int=acc.map V.int++[V.int k]:=by simp
   rw[<-this,y1]
   simp
  show((ZI d i (K++X)).bind _)=_
  have hx:ZI d i (K++X)=some (some v):=by simp[ZI,hd',v1]
  rw[hx]
  simp only[Ys0,Zw,ZJ,if_true,g3,List.length_map,hc']
  exact y1'
theorem Zj2{m:Mo}(e:Zjt t=some m): ∃ts,t=.tup [.int m.1,.int m.2.1,.lst ts]/\Zb7 ts=some m.2.2:=by
 right
 obtain⟨r,f1,e⟩:=Zz0.mp e
 obtain⟨f,f2,e⟩:=Zz0.mp e
 obtain⟨p,f3,e⟩:=Zz0.mp e
 obtain⟨l,f4,e⟩:=Zz1.mp e
 obtain⟨ts,f4,f5⟩:=Zz0.mp f4
 subst e
 left
 rw[Zep f1,ZdL f2,ZdL f3,Zdr f4]
 exact⟨_,rfl,f5⟩
theorem Zl0{m:Mo}(r:RF K v (.tup [.int m.1,.int m.2.1,.lst ts]) F)(e:Zb7 ts=some m.2.2): ∃b',v=ZY m b'/\K[b']?=some (m.2.2.map V.int)/\F=[b']:=by
 right
 obtain⟨b,us,G,rfl,rfl,e1,hs⟩:=r.imom
 obtain⟨h1,rfl,_⟩:=Zeq e hs
 left
 exact⟨_,rfl,h1▸e1,.s⟩
theorem ZoQ{row:T}(e:ZgI tp s row=some s'): ∃(th tw0 tx:T) (g:Int) (sums:List T) (tq:T) (gv:List Int) (m:Mo) (ts:List T),row=.tup [th,.tup [tw0,tx,.int g,.lst sums],tq]/\s.wt.length<10000/\sums.length<10000/\Zcy s.m.2.2 sums=some gv/\Zfo [tp,.int g,Zq gv]=some (.tup [.int m.1,.int m.2.1,.lst ts])/\Zb7 ts=some m.2.2/\⟨s.n,s.wt++[(s.m,row)],m⟩=s':=by
 right
 obtain⟨r3,f1,e⟩:=Zz0.mp e
 obtain⟨r4,f2,e⟩:=Zz0.mp e
 obtain⟨g,f3,e⟩:=Zz0.mp e
 obtain⟨sums,f4,e⟩:=Zz0.mp e
 left
 split at e
 case isFalse=>cases e
 rename_i hlw
 right
 obtain⟨gv,e1,e⟩:=Zz0.mp e
 obtain⟨m,e2,e⟩:=Zz1.mp e
 obtain⟨t,e2,e3⟩:=Zz0.mp e2
 obtain⟨ts,e5,e4⟩:=Zj2 e3
 left
 exact⟨r3.1,r4.1,r4.2.1,g,sums,r3.2.2,gv,m,ts,by rw[Zep f1,Zqy f2,ZdL f3,Zdr f4],hlw.1,hlw.2,e1,by rw[e2,e5],e4,e⟩
theorem RFo.row4{a:T}{g:Int}(r:RFo K v (.tup [th,.tup [a,c,.int g,.lst sums],tq]) P): ∃vh v1 v2 d vs vq,v=.tup [vh,.tup [v1,v2,.int g,.ref d],vq]/\K[d]?=some vs/\∃F,RFs K vs sums F/\∀a∈F,P a:=by
 right
 obtain⟨vh,va,vq,e,_,d2,_⟩:=r.t3
 obtain⟨vas,e2,d4⟩:=d2.tup
 obtain⟨v1,us,e3,_,d4⟩:=Z0 d4
 obtain⟨v2,v3,v4,e4,_,d5,d6⟩:=Znv d4
 obtain⟨d,vs,e5,hd,_,rs⟩:=d6.lst
 left
 exact⟨vh,v1,v2,d,vs,vq,by rw[e,e2,e3,e4,d5.int,e5],hd,rs⟩
theorem Zpy{vrow:V}{row:T}(R:Rn K o w b m0 vp vw kk tp tw ks s)(r:RFo K vrow row (Off o w m0))(e:ZgI tp s row=some s'): ∃K',Zfp [.obj Runner_c o,vrow] K=some (.none,K')/\Ze9 K K' o w m0 vp vw kk tp tw ks s':=by
 right
 have rr:=r
 obtain⟨th,tw0,tx,g,sums,tq,gv,m,ts,rfl,hlw,hls,e1,e2,e4,rfl⟩:=ZoQ e
 obtain⟨vh,v1,v2,d,vs,vq,rfl,hd,rs⟩:=r.row4
 obtain⟨ws,w1,w2⟩:=R.hw
 have ho:=R.ho
 have hb:=R.hb
 have lo:=lt_of_at R.ho
 have lw:=lt_of_at w1
 have lvs:vs.length=sums.length:=by obtain⟨F,r,_⟩:=rs;exact r.length
 obtain⟨Y,gl⟩:=Zj1 (U:=Zi (λi=>[V.obj Runner_c o,V.tup [vh,V.tup [v1,v2,V.int g,V.ref d],vq]][i]?) 2 (V.tup [v1,v2,V.int g,V.ref d])) (d:=d) (vs:=vs) (P:=Off o w m0) (by simp[Zi]) ho hb hd .l sums 0 [] gv [] (λj t e=>by rw[Nat.zero_add];exact Zcz rs e) .l e1 (by rw[ZD];simp;lia)
 simp only[List.map_nil,List.append_nil,List.nil_append]at gl
 generalize hK3:K++Y++[gv.map V.int]=K3
 have l3:K3.length=K.length+Y.length+1:=by rw[<-hK3];simp;lia
 have k3:∀a,a<K.length->K3[a]?=K[a]?:=λa l=>by
  rw[<-hK3,List.append_assoc,Yy0 l]
 have k3g:K3[(K++Y).length]?=some (gv.map V.int):=by rw[<-hK3];simp
 generalize hK4:K3.set w (ws++[.tup [ZY s.m b,V.tup [vh,V.tup [v1,v2,V.int g,V.ref d],vq]]])=K4
 have l4:K4.length=K3.length:=by rw[<-hK4];simp
 have lg:(K++Y).length<K3.length:=lt_of_at k3g
 have lky:(K++Y).length=K.length+Y.length:=by simp
 have k4:∀a,a<K3.length->a≠w->K4[a]?=K3[a]?:=λa l h=>by rw[<-hK4,Yy2 (Ne.symm h)]
 have k4w:K4[w]?=some (ws++[.tup [ZY s.m b,V.tup [vh,V.tup [v1,v2,V.int g,V.ref d],vq]]]):=by rw[<-hK4,Yy6 .l]
 have kp4:∀a,Off o w m0 a->a<K.length->K4[a]?=K[a]?:=λa p l=>(k4 a .l p.2.1).trans (k3 a l)
 obtain⟨Fp,rp,_⟩:=R.rp.keep kp4
 obtain⟨v',X,F,g1,g2,g3,g4⟩:=ZjK K4 [vp,.int g,.ref (K++Y).length] [tp,.int g,Zq gv] _ _ .l (.cons rp (.cons (.int g) (.one (Zb4 ((k4 _ lg .l).trans k3g))))) e2
 obtain⟨b',rfl,gb,rfl⟩:=Zl0 (m:=m) g2 e4
 have hb':=(g4 rfl).2 b' List.mem_cons_self
 have lb':=lt_of_at gb
 generalize hK5:(K4++X).set o [vp,vw,.ref kk,.int s.n,.ref w,ZY m b']=K5
 have l5:K5.length=K4.length+X.length:=by rw[<-hK5];simp
 have kp:∀a,a<K.length->a≠o->a≠w->K5[a]?=K[a]?:=λa la ha hw=>by
  rw[<-hK5,Yy2 (Ne.symm ha),Yy0 (show a<K4.length by lia),k4 a .l hw,k3 a la]
 have k5w:K5[w]?=K4[w]?:=by
  rw[<-hK5,List.getElem?_set_ne R.ow,Yy0 (show w<K4.length by lia)]
 have kpo:∀a,Off o w m0 a->a<K.length->K5[a]?=K[a]?:=λa p l=>kp a l p.1 p.2.1
 left
 refine⟨K5,?_,R.mk' (b':=b') kp ?_ ⟨_,k5w.trans k4w,?_⟩ ?_ .l .l⟩
 ·unfold Zfp ZhE Zs
  simp only[List.length_cons,List.length_nil,if_true]
  rw[Zaa (B:=Zi (λi=>[V.obj Runner_c o,V.tup [vh,V.tup [v1,v2,V.int g,V.ref d],vq]][i]?) 2 (V.tup [v1,v2,V.int g,V.ref d])) (H1:=K) (by simp[Zk,Zc,Za,Zd,i31])]
  rw[Zaa (B:=Zi (Zi (λi=>[V.obj Runner_c o,V.tup [vh,V.tup [v1,v2,V.int g,V.ref d],vq]][i]?) 2 (V.tup [v1,v2,V.int g,V.ref d])) 3 (.ref (K++Y).length)) (H1:=K3) (by
   have gl':=gl
   rw[<-lvs]at gl'
   simp only[ZeP]at gl'
   simp only[Zk,Z3,ZQ,Zc,Za,Zi,if_true,Ys1,Ys0,Zd,i43,hd]
   rw[gl']
   simp[<-hK3])]
  have h3o:K3[o]?=some [vp,vw,.ref kk,.int s.n,.ref w,ZY s.m b]:=(k3 o lo).trans ho
  have h3w:K3[w]?=some ws:=(k3 w lw).trans w1
  have lws:ws.length<100000:=by have:=w2.length;lia
  rw[Zaa (B:=Zi (Zi (λi=>[V.obj Runner_c o,V.tup [vh,V.tup [v1,v2,V.int g,V.ref d],vq]][i]?) 2 (V.tup [v1,v2,V.int g,V.ref d])) 3 (.ref (K++Y).length)) (H1:=K4) (by
   simp[ZN,Zag,ZE,Z8,Za,Zi,h3o,ZO,Zb,Ze,Zbc,h3w,R.w0,ZD,lws,hK4])]
  have h4o:K4[o]?=some [vp,vw,.ref kk,.int s.n,.ref w,ZY s.m b]:=(k4 o .l R.ow).trans h3o
  have kxo:(K4++X)[o]?=some [vp,vw,.ref kk,.int s.n,.ref w,ZY s.m b]:=by rw[Yy0 (show o<K4.length by lia),h4o]
  have e0:ZaC Runner_c 5 (.obj Runner_c o) (ZY m b') (K4++X)=some K5:=by
   simp[ZaC,R.o0,kxo,<-hK5]
  have u1:ZE (Z8 Runner_c 0) (Za 0) (Zi (Zi (λi=>[V.obj Runner_c o,V.tup [vh,V.tup [v1,v2,V.int g,V.ref d],vq]][i]?) 2 (V.tup [v1,v2,V.int g,V.ref d])) 3 (.ref (K++Y).length)) K4=some (vp,K4):=by
   simp[ZE,Z8,Za,Zi,h4o]
  simp only[Zap,Zg,Zb,Ze,u1,Ys0,Zc,Za,Zi,Zd,i42]
  simp only[if_true,if_false,Ys1,Ys0,i42,g1,show(2=3)=False from by simp,show(0=3)=False from by simp,show(0=2)=False from by simp,List.getElem?_cons_zero,e0]
  rfl
 ·rw[<-hK5,Yy6 (by rw[List.length_append];lia)]
 ·refine .snoc (w2.keep kpo) ⟨b,_,rfl,(kpo b R.bo (lt_of_at hb)).trans hb,R.bo,?_⟩
  exact rr.keep kpo
 ·rw[<-hK5,Yy2 .l]
  exact gb
end
end L
namespace L
section
variable {K:Hp} {o w b m0:Nat} {vp vw:V} {kk:Nat} {tp tw:T} {ks:List Int} {s:RS}
theorem Zqz{as:List V}(R:Rn K o w b m0 vp vw kk tp tw ks s)(hwd:PyData.strOk wd=true): ∃K',Zfd [.obj Runner_c o,.tup (.str wd::as)] K=some (.int (Zas ks s.n wd).2,K')/\K'.length=K.length/\K'[o]?=some [vp,vw,.ref kk,.int (Zas ks s.n wd).1,.ref w,ZY s.m b]/\∀a,a≠o->K'[a]?=K[a]?:=by
 have hn:=ZtC hwd (show PyData.strOk "any"=true by decide +kernel) K
 unfold Zfd Zhm Zs Zas
 simp only[List.length_cons,List.length_nil,if_true]
 by_cases c:wd=Str.ofString "any"
 ·rw[decide_eq_true c]at hn
  generalize hK1:K.set o [vp,vw,.ref kk,.int (s.n+1:Nat),.ref w,ZY s.m b]=K1
  have lo:=lt_of_at R.ho
  have h1o:K1[o]?=some [vp,vw,.ref kk,.int (s.n+1:Nat),.ref w,ZY s.m b]:=by rw[<-hK1,Yy6 lo]
  have h1k:K1[kk]?=some (ks.map V.int):=by rw[<-hK1,Yy2 (Ne.symm R.ko.1)];exact R.rk
  refine⟨K1,?_,by rw[<-hK1];simp,by simp[c,h1o],λa h=>by rw[<-hK1,Yy2 (Ne.symm h)]⟩
  rw[Zaa (B:=(λi=>[V.obj Runner_c o,V.tup (V.str wd::as)][i]?)) (H1:=K) (by simp[Zu,Zl,Zc,Za,Zd,ia0,ZF,hn,Zab,ZG])]
  rw[Zaa (B:=(λi=>[V.obj Runner_c o,V.tup (V.str wd::as)][i]?)) (H1:=K1) (by
   have e0:ZaC Runner_c 3 (.obj Runner_c o) (.int ((s.n:Int)+1)) K=some K1:=by
    simp[ZaC,R.o0,R.ho,<-hK1]
   simp[Zap,Zc,ZE,Z8,Za,R.ho,Zd,e0])]
  have lk:ZZ [.ref kk] K1=some (.int ks.length,K1):=by rw[Zb6 h1k,List.length_map]
  by_cases c2:ks.length<s.n+1
  ·have hg:ks.getD s.n 0=0:=by
    rw[List.getD_eq_getElem?_getD,Yy8 .l];rfl
   have c3:((ks.length:Int)<(s.n:Int)+1):=by lia
   simp[Zh,Zu,Zl,Zc,ZE,Z8,Za,h1o,Zg,Zb,Ze,lk,Zab,c3,Zo,Zd,c]
   rw[Yy8 .o]
   rfl
  ·have c3:¬((ks.length:Int)<(s.n:Int)+1):=by lia
   have hx:Zf (.ref kk) (.int ((s.n:Int)+1-1)) K1=some (.int (ks.getD s.n 0),K1):=by
    have:seqIndex? ((s.n:Int)+1-1) ks.length=some s.n:=by unfold seqIndex?;simp;lia
    simp only[Zf,h1k,Ys0,List.length_map,this]
    rw[List.getElem?_map,Yy1 .l,List.getD_eq_getElem?_getD,Yy1 .o]
    rfl
   simp only[Zh,Zu,Zl,Zc,ZE,Z8,Za,List.getElem?_cons_zero,Ys1,Ys0,if_true,h1o,Zg,Zb,Ze,List.getElem?_cons_succ]
   simp[lk,Zab,c3,ZG,Zo,Za,Zd,h1o,ZE,Zc,Z8,hx,c]
   simp only[Int.add_sub_cancel]at hx
   rw[hx]
   simp
 ·rw[decide_eq_false c]at hn
  refine⟨K,?_,rfl,by simp[c,R.ho],λ_ _=>rfl⟩
  simp[Zh,Zu,Zl,Zc,Za,Zd,ia0,ZF,hn,Zab,Zo,c]
def ZeQ: Sm:=Zh (Zk 5 (Zg Zcl (Zb (Zc Zf (Za 3) (Zd 2)) (Zb (Zc Zf (Za 4) (Zd 1)) (Zb (Za 2) Ze))))) (Zu (Zl (Zc ZaA (Za 5) (Z9))) (Zap (Runner_c) 5 (ZO (Zb (Zc Zf (Za 3) (Zd 0)) (Zb (Zc Zf (Za 4) (Zd 2)) (Zb (Za 5) Ze)))) (Za 0)) ZG)
def AlI(K:Hp)(o w:Nat)(vp vw:V)(kk n b:Nat)(s:RS)(acc:Option Mo)(K1:Hp): Prop:=K.length<=K1.length/\(∀a,a<K.length->a≠o->K1[a]?=K[a]?)/\match acc with
 | none=>K1[o]?=some [vp,vw,.ref kk,.int n,.ref w,ZY s.m b]
 | some m=>∃b',K.length<=b'/\K1[o]?=some [vp,vw,.ref kk,.int n,.ref w,ZY m b']/\K1[b']?=some (m.2.2.map V.int)
theorem AlI.at{acc:Option Mo}(h:AlI K o w vp vw kk n b s acc K1): ∃x,K1[o]?=some [vp,vw,.ref kk,.int n,.ref w,x]:=by
 obtain⟨_,_,h⟩:=h
 cases acc with
 | none=>exact⟨_,h⟩
 | some m=>obtain⟨b',_,h,_⟩:=h;exact⟨_,h⟩
theorem Zj3{P:Nat->Prop}(hPo:∀a,P a->a≠o)(o0:o≠0){n r:Nat}{pick:Int}{vs:List V}(lo:o<K.length)(hr:K[r]?=some vs)(ro:r≠o)(hb:K[b]?=some (s.m.2.2.map V.int))(bo:b≠o): ∀(ts:List T) (i:Nat) (acc fin:Option Mo) (K1:Hp) (U:Lc),(∀(j:Nat) t,ts[j]?=some t->∃v,vs[i+j]?=some v/\RFo K v t P)->vs.length=i+ts.length->U 0=some (.obj Runner_c o)->U 2=some (.int pick)->U 3=some (ZY s.m b)->AlI K o w vp vw kk n b s acc K1->ZdT s.m.2.2 s.m.1 pick ts acc=some fin->∃O K',Za6 (ZI r) (Zw 4) ZeQ (ts.length+1) i U K1=some (none,O,K')/\AlI K o w vp vw kk n b s fin K'
 | [],i,acc,fin,K1,U,hv,hl,h0,h2,h3,A,e=>by
  cases e
  have hn:vs[i]?=none:=Yy8 (by simp at hl;lia)
  have hr':K1[r]?=some vs:=(A.2.1 r (lt_of_at hr) ro).trans hr
  exact⟨U,K1,by simp[Za6,ZI,hr',hn],A⟩
 | t::ts,i,acc,fin,K1,U,hv,hl,h0,h2,h3,A,e=>by
  obtain⟨⟨act,q⟩,e0,e9⟩:=Zz0.mp e
  obtain⟨dn,e1,e2⟩:=Zz0.mp e9
  obtain⟨th,rfl⟩:=Zkm e0
  obtain⟨dt,e3,e4⟩:=Zz0.mp e1
  obtain⟨v,v1,v2⟩:=hv 0 _ rfl
  rw[Nat.add_zero]at v1
  have v2':=v2
  obtain⟨vs3,rfl,d1⟩:=v2.tup
  obtain⟨vh,_,rfl,_,d1⟩:=Z0 d1
  obtain⟨va,_,rfl,d2,d1⟩:=Z0 d1
  obtain⟨vq,_,rfl,d3,d1⟩:=Z0 d1
  have:=ZbP d1;subst this
  have:=d3.int;subst this
  have kp:∀a,P a->a<K.length->K1[a]?=K[a]?:=λa p l=>A.2.1 a l (hPo a p)
  obtain⟨Fa,ra,_⟩:=d2.keep kp
  have hr':K1[r]?=some vs:=(A.2.1 r (lt_of_at hr) ro).trans hr
  have hb':K1[b]?=some (s.m.2.2.map V.int):=(A.2.1 b (lt_of_at hb) bo).trans hb
  have l1:=A.1
  obtain⟨u,X,F,g1,g2,g3,g4⟩:=Ztz K1 [.ref b,va,.int pick] [Zq s.m.2.2,act,.int pick] dt _ .l (.cons (Zb4 hb') (.cons ra (.one (.int pick)))) e3
  have st5:∀U:Lc,U 2=some (.int pick)->U 3=some (ZY s.m b)->Zk 5 (Zg Zcl (Zb (Zc Zf (Za 3) (Zd 2)) (Zb (Zc Zf (Za 4) (Zd 1)) (Zb (Za 2) Ze)))) (Zi U 4 (V.tup [vh,va,V.int q])) K1=some (none,Zi (Zi U 4 (V.tup [vh,va,V.int q])) 5 u,K1++X):=λU h2 h3=>by
   simp[Zk,Zg,Zb,Ze,Zc,Za,Zi,h2,h3,Zd,ZY,i32,i31,g1]
  have nxt:∀j,j<=ts.length->True:=λ_ _=>trivial
  have body:∃K2,ZeQ (Zi U 4 (V.tup [vh,va,V.int q])) K1=some (none,Zi (Zi U 4 (V.tup [vh,va,V.int q])) 5 u,K2)/\AlI K o w vp vw kk n b s (Zhh s.m.1 q acc dn) K2:=by
   unfold ZeQ
   rw[Zaa (st5 U h2 h3)]
   obtain⟨A1,A2,A3⟩:=A
   have kx:∀a,a<K1.length->(K1++X)[a]?=K1[a]?:=λa l=>Yy0 l
   cases dt with
   | none=>
    cases e4
    cases g2
    refine⟨K1++X,by simp[Zu,Zl,Zc,Za,Zi,Z9,Zab,ZG],by simp;lia,λa l h=>(kx a .l).trans (A2 a l h),?_⟩
    cases acc with
    | none=>exact(kx o .l).trans A3
    | some m=>
     obtain⟨b',y1,y2,y3⟩:=A3
     exact⟨b',y1,(kx o .l).trans y2,(kx b' (lt_of_at y3)).trans y3⟩
   | lst dts=>
    obtain⟨l,e5,e6⟩:=Zz1.mp e4
    subst e6
    obtain⟨gn,gl⟩:=g4 rfl
    cases g2 with
    | @ref b' vs' _ F' gb grs=>
    obtain⟨rfl,rfl,_⟩:=Zeq e5 grs
    have hb2:=gl b' List.mem_cons_self
    have lb':=lt_of_at gb
    obtain⟨x,ox⟩:=AlI.at (K:=K) (o:=o) (w:=w) (vp:=vp) (vw:=vw) (kk:=kk) (b:=b) (s:=s) ⟨A1,A2,A3⟩
    have kxo:(K1++X)[o]?=some [vp,vw,.ref kk,.int n,.ref w,x]:=(kx o .l).trans ox
    generalize hK2:(K1++X).set o [vp,vw,.ref kk,.int n,.ref w,ZY (s.m.1,q,l) b']=K2
    have e0:ZaC Runner_c 5 (.obj Runner_c o) (.tup [.int s.m.1,.int q,.ref b']) (K1++X)=some K2:=by
     simp[ZaC,o0,kxo,ZY,<-hK2]
    refine⟨K2,?_,by rw[<-hK2];simp;lia,λa l h=>by rw[<-hK2,Yy2 (Ne.symm h)];exact(kx a .l).trans (A2 a l h),b',.l,by rw[<-hK2,Yy6 (by rw[List.length_append];lia)],by rw[<-hK2,Yy2 .l];exact gb⟩
    simp[Zu,Zl,Zc,Za,Zi,Z9,Zab,Zap,ZO,Zb,Ze,h3,ZY,Zd,i30,i32,ZD,h0,e0]
   | bool _=>cases e4
   | int _=>cases e4
   | str _=>cases e4
   | tup _=>cases e4
   | ob _ _=>cases e4
  obtain⟨K2,b1,b2⟩:=body
  obtain⟨O,K',c1,c2⟩:=Zj3 hPo o0 lo hr ro hb bo ts (i+1) _ fin K2 (Zi (Zi U 4 (V.tup [vh,va,V.int q])) 5 u) (λj t e=>by
   have:=hv (j+1) t (by simpa using e)
   rw[show i+(j+1)=i+1+j by lia]at this
   exact this) (by rw[hl];simp;lia) (by simp[Zi,h0]) (by simp[Zi,h2]) (by simp[Zi,h3]) b2 e2
  refine⟨O,K',?_,c2⟩
  rw[List.length_cons]
  show((ZI r i K1).bind _)=_
  have hx:ZI r i K1=some (some (V.tup [vh,va,V.int q])):=by simp[ZI,hr',v1]
  rw[hx]
  simp only[Ys0,Zw,b1]
  exact c1
theorem Zpz{vrows:V}{rs:List T}{m:Mo}(R:Rn K o w b m0 vp vw kk tp tw ks s)(hwd:PyData.strOk wd=true)(r:RFo K vrows (.lst (.tup [th,.tup (.str wd::tas),tq]::rs)) (Off o w m0))(e:ZdT s.m.2.2 s.m.1 (Zas ks s.n wd).2 (.tup [th,.tup (.str wd::tas),tq]::rs) none=some (some m)): ∃K',Zfe [.obj Runner_c o,vrows] K=some (.none,K')/\Ze9 K K' o w m0 vp vw kk tp tw ks ⟨(Zas ks s.n wd).1,s.wt,m⟩:=by
 right
 obtain⟨rr,vs,rfl,hr,hro,rs'⟩:=r.lst
 obtain⟨v0,h0,r0⟩:=Zcz rs' (j:=0) rfl
 obtain⟨vs3,rfl,d1⟩:=r0.tup
 obtain⟨vh,_,rfl,_,d1⟩:=Z0 d1
 obtain⟨va,_,rfl,d2,d1⟩:=Z0 d1
 obtain⟨vq,_,rfl,d3,d1⟩:=Z0 d1
 have:=ZbP d1;subst this
 obtain⟨vas,rfl,d4⟩:=d2.tup
 obtain⟨vw0,vas,rfl,d5,_⟩:=Z0 d4
 have:=d5.str;subst this
 obtain⟨K1,p1,p2,p3,p4⟩:=Zqz (as:=vas) R hwd
 have lo:=lt_of_at R.ho
 have kp:∀a,Off o w m0 a->a<K.length->K1[a]?=K[a]?:=λa p l=>p4 a p.1
 have hl:vs.length=rs.length+1:=by obtain⟨F,q,_⟩:=rs';have:=q.length;simpa using this
 have hr1:K1[rr]?=some vs:=(p4 rr hro.1).trans hr
 have hb1:K1[b]?=some (s.m.2.2.map V.int):=(p4 b R.bo.1).trans R.hb
 have lp:=Zj3 (K:=K1) (o:=o) (w:=w) (b:=b) (vp:=vp) (vw:=vw) (kk:=kk) (s:=s) (P:=Off o w m0) (λa p=>p.1) R.o0 (n:=(Zas ks s.n wd).1) (pick:=(Zas ks s.n wd).2) .l hr1 hro.1 hb1 R.bo.1 (.tup [th,.tup (.str wd::tas),tq]::rs) 0 none (some m) K1 (Zi (Zi (λi=>[V.obj Runner_c o,V.ref rr][i]?) 2 (.int (Zas ks s.n wd).2)) 3 (ZY s.m b)) (λj t e=>by
  rw[Nat.zero_add]
  obtain⟨v,z1,z2⟩:=Zcz rs' e
  exact⟨v,z1,z2.keep kp⟩) (by simp[hl]) (by simp[Zi]) (by simp[Zi]) (by simp[Zi]) ⟨Zz10 _,λ_ _ _=>rfl,p3⟩ e
 obtain⟨O,K',c1,c2,c3,b',c4,c5,c6⟩:=lp
 have lw:w<K.length:=by obtain⟨ws,w1,_⟩:=R.hw;exact lt_of_at w1
 have kq:∀a,a<K.length->a≠o->K'[a]?=K[a]?:=λa l h=>(c3 a .l h).trans (p4 a h)
 left
 refine⟨K',?_,R.mk' (b':=b') (λa l h _=>kq a l h) c5 ?_ c6 .l .l⟩
 ·unfold Zfe Zhn Zs
  simp only[List.length_cons,List.length_nil,if_true]
  have ix:Zf (.ref rr) (.int 0) K=some (V.tup [vh,V.tup (V.str wd::vas),vq],K):=by
   have:seqIndex? 0 vs.length=some 0:=by rw[hl];unfold seqIndex?;simp
   simp[Zf,hr,this,h0]
  rw[Zaa (B:=Zi (λi=>[V.obj Runner_c o,V.ref rr][i]?) 2 (.int (Zas ks s.n wd).2)) (H1:=K1) (by
   simp[Zk,Z1,Za,ZaP,Zb,Ze,Zc,Zd,ix,i31,p1])]
  rw[Zaa (B:=Zi (Zi (λi=>[V.obj Runner_c o,V.ref rr][i]?) 2 (.int (Zas ks s.n wd).2)) 3 (ZY s.m b)) (H1:=K1) (by
   simp[Zk,ZE,Z8,Za,Zi,p3])]
  have hx:Zac (ZQ (Za 1)) (Zw 4) ZeQ (Zi (Zi (λi=>[V.obj Runner_c o,V.ref rr][i]?) 2 (.int (Zas ks s.n wd).2)) 3 (ZY s.m b)) K1=some (none,O,K'):=by
   have el:vs.length+1=(T.tup [th,.tup (.str wd::tas),tq]::rs).length+1:=by simp[hl]
   have ev:ZQ (Za 1) (Zi (Zi (λi=>[V.obj Runner_c o,V.ref rr][i]?) 2 (.int (Zas ks s.n wd).2)) 3 (ZY s.m b)) K1=some (ZI rr,vs.length+1,K1):=by
    simp[ZQ,Za,Zi,hr1]
   unfold Zac
   rw[ev,el]
   exact c1
  unfold ZeQ at hx
  rw[hx]
  rfl
 ·obtain⟨ws,w1,w2⟩:=R.hw
  exact⟨ws,(kq w lw (Ne.symm R.ow)).trans w1,w2.keep λa p l=>kq a l p.1⟩
theorem ZqA{row:T}{X:Str->Option RS}(e:((un3 row).bind λr=>(Za9 r.2.1).bind λas=>(as[0]?.bind unS).bind λwd=>if PyData.strOk wd=true then X wd else none)=some s'): ∃(th:T) (wd:Str) (tas:List T) (tq:T),row=.tup [th,.tup (.str wd::tas),tq]/\PyData.strOk wd=true/\X wd=some s':=by
 right
 obtain⟨r3,f1,e⟩:=Zz0.mp e
 obtain⟨as,f2,e⟩:=Zz0.mp e
 obtain⟨wd,f3,ez⟩:=Zz0.mp e
 obtain⟨t0,f3,f4⟩:=Zz0.mp f3
 left
 split at ez
 case isFalse=>cases ez
 rename_i hwd
 cases as with
 | nil=>cases f3
 | cons x xs=>
  cases f3
  exact⟨r3.1,wd,xs,r3.2.2,by rw[Zep f1,Zem f2,ZkX f4],hwd,ez⟩
theorem ZpA(R:Rn K o w b m0 vp vw kk tp tw ks s)(e:Zb8 tp tw ks s=some s'): ∃K',Zed [.obj Runner_c o] K=some (.none,K')/\Ze9 K K' o w m0 vp vw kk tp tw ks s':=by
 obtain⟨rows,e1,e⟩:=Zz0.mp e
 obtain⟨v,h1,h2⟩:=ZkY R e1
 have l1:=Zgk h2
 unfold Zed ZhF Zs
 simp only[List.length_singleton,if_true]
 rw[Zaa (B:=Zi (λi=>[V.obj Runner_c o][i]?) 1 v) (H1:=K) (by simp[Zk,Z1,Za,ZaP,Ze,h1])]
 cases rows with
 | nil=>
  obtain⟨K',g1,g2⟩:=Zpx R e
  refine⟨K',?_,g2⟩
  simp only[List.length_nil]at l1
  simp[Zu,Zl,Zc,Zg,Zb,Ze,Za,Zi,l1,Zd,Zab,ZN,Z1,ZaP,g1]
 | cons row rs=>
  right
  obtain⟨th,wd,tas,tq,rfl,hwd,ez⟩:=ZqA e
  clear e
  have e:=ez
  clear ez
  have l3:(((T.tup [th,T.tup (T.str wd::tas),tq]::rs).length:Int) == 0)=false:=by simp;lia
  have h3:=h2
  obtain⟨rr,vs,rfl,hr,hro,rs'⟩:=h2.lst
  obtain⟨v0,h0,r0⟩:=Zcz rs' (j:=0) rfl
  have r1:=r0
  obtain⟨vh,va,vq,rfl,_,d2,_⟩:=r0.t3
  obtain⟨vas,rfl,d4⟩:=d2.tup
  obtain⟨vw0,vas,rfl,d5,_⟩:=Z0 d4
  have:=d5.str;subst this
  have hl:vs.length=rs.length+1:=by obtain⟨F,q,_⟩:=rs';have:=q.length;simpa using this
  have ix:Zf (.ref rr) (.int 0) K=some (V.tup [vh,V.tup (V.str wd::vas),vq],K):=by
   have:seqIndex? 0 vs.length=some 0:=by rw[hl];unfold seqIndex?;simp
   simp[Zf,hr,this,h0]
  have hn:=Zjg hwd (show PyData.strOk "call"=true by decide +kernel) K
  have t1:Zl (Zc ZA (Zg ZZ (Zb (Za 1) Ze)) (Zd 0)) (Zi (λi=>[V.obj Runner_c o][i]?) 1 (.ref rr)) K=some (false,K):=by
   simp only[Zl,Zc,Zg,Zb,Za,Zi,if_true,Ys1,Ys0,Ze,l1,Zd,Zha,l3,Zab]
  have t2:Zl (Zc ZA (Zc Zf (Zc Zf (Zc Zf (Za 1) (Zd 0)) (Zd 1)) (Zd 0)) (ZF "call")) (Zi (λi=>[V.obj Runner_c o][i]?) 1 (.ref rr)) K=some (decide (wd=Str.ofString "call"),K):=by
   simp only[Zl,Zc,Za,Zi,if_true,Ys1,Ys0,Zd,ix,i31,ia0,ZF,hn,Zab]
  left
  split at e
  ·rename_i hc
   obtain⟨K',g1,g2⟩:=Zpy R r1 e
   refine⟨K',?_,g2⟩
   rw[decide_eq_true hc]at t2
   simp only[Zu,t1,t2,Ys0,Bool.false_eq_true,if_false,if_true]
   simp[ZN,Z1,Za,Zi,ZaP,Zb,Ze,Zc,Zd,ix,g1]
  ·rename_i hc
   right
   obtain⟨m,e2,rfl⟩:=Zz1.mp e
   obtain⟨om,e3,e4⟩:=Zz0.mp e2
   left
   cases e4
   obtain⟨K',g1,g2⟩:=Zpz R hwd h3 e3
   refine⟨K',?_,g2⟩
   rw[decide_eq_false hc]at t2
   simp only[Zu,t1,t2,Ys0,Bool.false_eq_true,if_false,if_true]
   simp[ZN,Z1,Za,Zi,ZaP,Zb,Ze,g1]
end
end L
namespace L
theorem ZcA{x:List V}(e:K[a]?=some x): a<K.length:=(Zz6.mp e).1
structure Ly(K:Hp)(o R L0:Nat)(rows:List T)(u:Int): Prop where
 ho:K[o]?=some [.ref R,.int u]
 hr:∃vs F,K[R]?=some vs/\RFs K vs rows F/\F.Nodup/\∀a∈F,L0<=a/\a≠o/\a≠R
 lo:L0<=o
 lR:L0<=R
 oR:o≠R
 l0:0<L0
def Kl(K K':Hp)(o R:Nat): Prop:=(∀a,a<K.length->a≠o->a≠R->K'[a]?=K[a]?)/\K.length<=K'.length
section
variable {K K' K'':Hp} {o R L0:Nat} {rows:List T} {u:Int}
theorem Kl.trans(a:Kl K K' o R)(b:Kl K' K'' o R): Kl K K'' o R:=⟨λi l h1 h2=>(b.1 i (Nat.lt_of_lt_of_le l a.2) h1 h2).trans (a.1 i l h1 h2),Nat.le_trans a.2 b.2⟩
theorem Ly.ext(G:Ly K o R L0 rows u)(X:Hp): Ly (K++X) o R L0 rows u:=by
 obtain⟨vs,F,h1,h2,h3⟩:=G.hr
 exact⟨(Yy0 (ZcA G.ho)).trans G.ho,⟨vs,F,(Yy0 (ZcA h1)).trans h1,h2.ext X,h3⟩,G.lo,G.lR,G.oR,G.l0⟩
theorem RFo.kl(r:RFo K v t (· < L0))(k:Kl K K' o R)(lo:L0<=o)(lR:L0<=R): RFo K' v t (· < L0):=r.keep λa p l=>k.1 a l .l .l
theorem ZkZ(G:Ly K o R L0 rows u)(ra:RF (K++X) va act Fa)(fa:Fa.Nodup/\∀a∈Fa,K.length<=a)(hl:rows.length<10000): ∃K',Zdn [.obj Layer_c o,.int h,va,.int b] (K++X)=some (.none,K')/\Ly K' o R L0 (rows++[rowT h act b]) u/\Kl K K' o R:=by
 obtain⟨vs,F,h1,h2,h4,h3⟩:=(G.ext X).hr
 obtain⟨vs',F',h1',h2',h4',h3'⟩:=G.hr
 have lR':=ZcA h1'
 have lo':=ZcA G.ho
 have lR:=ZcA h1
 rw[Yy0 lR',h1']at h1
 cases h1
 have h1:(K++X)[R]?=some vs:=(Yy0 lR').trans h1'
 have ho:=(G.ext X).ho
 generalize hK:(K++X).set R (vs++[.tup [.int h,va,.int b]])=K2
 have k2:∀a,a≠R->K2[a]?=(K++X)[a]?:=λa h=>by rw[<-hK,Yy2 (Ne.symm h)]
 have fb:∀a∈Fa,L0<=a/\a≠o/\a≠R:=λa m=>by have:=fa.2 a m;have:=G.lo;exact⟨.l,.l,.l⟩
 have q1:RF K2 (.tup [.int h,va,.int b]) (rowT h act b) Fa:=by
  have:=RFs.cons (RF.int (H:=K2) h) (RFs.cons (ra.frame λa m=>k2 a (fb a m).2.2) (RFs.one (RF.int (H:=K2) b)))
  exact .tup (by simpa using this)
 refine⟨K2,?_,⟨(k2 o G.oR).trans ho,⟨_,F'++Fa,by rw[<-hK,Yy6 lR],((h2'.ext X).frame λa m=>k2 a (h3' a m).2.2).append (.one q1),List.nodup_append.mpr ⟨h4',fa.1,λa m b m' e=>by have:=h2'.lt a m;have:=fa.2 b m';lia⟩,λa m=>(Zz8.mp m).elim (h3' a) (fb a)⟩,G.lo,G.lR,G.oR,G.l0⟩,λa l _ h=>(k2 a h).trans (Yy0 l),by rw[<-hK];simp⟩
 have R0:R≠0:=by have:=G.lR;have:=G.l0;lia
 have lv:vs.length<100000:=by rw[h2'.length];lia
 unfold Zdn Zh0 Zs
 simp[ZN,Zag,ZE,Z8,Za,ho,ZO,Zb,Ze,Zbc,h1,R0,lv,ZD,hK]
theorem ZiG(G:Ly K o R L0 rows u)(ra:RF (K++X) va act Fa)(fa:Fa.Nodup/\∀a∈Fa,K.length<=a)(hl:rows.length<10000): ∃K',ZbW [.obj Layer_c o,.int h,va] (K++X)=some (.int (u+1),K')/\Ly K' o R L0 (rows++[rowT h act (u+1)]) (u+1)/\Kl K K' o R:=by
 obtain⟨vs,F,h1,h2,h4,h3⟩:=G.hr
 have lo:=ZcA G.ho
 have o0:o≠0:=by have:=G.lo;have:=G.l0;lia
 generalize hK:K.set o [.ref R,.int (u+1)]=K1
 have l1:K1.length=K.length:=by rw[<-hK];simp
 have hX:(K++X).set o [.ref R,.int (u+1)]=K1++X:=by rw[<-hK,List.set_append_left _ _ lo]
 have k1:∀a,a≠o->K1[a]?=K[a]?:=λa h=>by rw[<-hK,Yy2 (Ne.symm h)]
 have G1:Ly K1 o R L0 rows (u+1):=⟨by rw[<-hK,Yy6 lo],⟨vs,F,(k1 R (Ne.symm G.oR)).trans h1,h2.frame λa m=>k1 a (h3 a m).2.1,h4,h3⟩,G.lo,G.lR,G.oR,G.l0⟩
 obtain⟨K',q1,G',q2⟩:=ZkZ (h:=h) (b:=u+1) (X:=X) G1 (ra.frame λa m=>by rw[<-hX,Yy2 (by have:=fa.2 a m;lia)]) (by rw[l1];exact fa) hl
 refine⟨K',?_,G',Kl.trans ⟨λa _ h _=>k1 a h,by rw[<-hK];simp⟩ q2⟩
 have hoX:=(G.ext X).ho
 have hoX1:=(G1.ext X).ho
 have fst:Zap Layer_c 1 (Zc ZC (ZE (Z8 Layer_c 1) (Za 0)) (Zd 1)) (Za 0) (λi=>[V.obj Layer_c o,.int h,va][i]?) (K++X)=some (none,(λi=>[V.obj Layer_c o,.int h,va][i]?),K1++X):=by
  simp[Zap,Zc,ZE,Z8,Za,hoX,Zd,ZaC,o0,hX]
 unfold ZbW Zhu Zs
 rw[if_pos .r,Zaa fst]
 simp[Zh,ZN,Z1,Za,ZaP,Zb,ZE,Z8,hoX1,Ze,q1,Zo,G'.ho]
theorem Zm0: RF K (.tup [.str "go"]) goT []:=.tup (by simpa using RFs.one (RF.str (H:=K) "go"))
theorem Zl1(G:Ly K o R L0 rows u)(hl:rows.length<10000): ∃K',Zdn [.obj Layer_c o,.int h,.tup [.str "go"],.int b] K=some (.none,K')/\Ly K' o R L0 (rows++[rowT h goT b]) u/\Kl K K' o R:=by
 have:=ZkZ (X:=[]) (h:=h) (b:=b) G Zm0 ⟨.nil,λ_ m=>nomatch m⟩ hl
 rwa [List.append_nil]at this
theorem Zl2(G:Ly K o R L0 rows u)(hl:rows.length<10000): ∃K',ZbW [.obj Layer_c o,.int h,.tup [.str "go"]] K=some (.int (u+1),K')/\Ly K' o R L0 (rows++[rowT h goT (u+1)]) (u+1)/\Kl K K' o R:=by
 have:=ZiG (X:=[]) (h:=h) G Zm0 ⟨.nil,λ_ m=>nomatch m⟩ hl
 rwa [List.append_nil]at this
def LaS(C: .y)(o R L0:Nat)(t:T)(r:List T)(u e:Int): Prop:=∀(K:Hp) (rows:List T) (v:V),rows.length+r.length<=9000->Ly K o R L0 rows u->RFo K v t (· < L0)->∃K',C [.obj Layer_c o,v,.int u] K=some (.int e,K')/\Ly K' o R L0 (rows++r) e/\Kl K K' o R
theorem ZfY{b:Bool}(G:Ly K o R L0 rows u)(hc:Nice 2 c)(rc:RFo K vc c (· < L0))(hl:rows.length<10000): ∃va X K',ZcL [vc,.bool b] K=some (va,K++X)/\ZbW [.obj Layer_c o,.int h,va] (K++X)=some (.int (u+1),K')/\Ly K' o R L0 (rows++[rowT h (Zak c b) (u+1)]) (u+1)/\Kl K K' o R:=by
 right
 obtain⟨Fc,rc,_⟩:=rc
 have lo:=ZcA G.ho
 obtain⟨va,X,Fa,g1,g2,g3,g4⟩:=ZoO K [vc,.bool b] [c,.bool b] _ _ .l (.cons rc (.one (.bool b))) (ZrV hc)
 obtain⟨K',q⟩:=ZiG (h:=h) G g2 (g4 rfl) hl
 left
 exact⟨va,X,K',g1,q⟩
theorem Zr0{a b rb:List T}{eb:Int}(hc:Nice 2 c)(ha:LaS C o R L0 (.lst a) ra (u+1) ea)(hb:LaS C o R L0 (.lst b) rb (ea+1) eb): LaS (Zfq C) o R L0 (ifT c a b) (rowT u (Zak c true) (u+1)::(ra++rowT u (Zak c false) (ea+1)::(rb++[rowT ea goT (eb+1),rowT eb goT (eb+1)]))) u (eb+1):=by
 intro K rows v hl G r
 right
 simp only[List.length_cons,List.length_append,List.length_nil]at hl
 obtain⟨vs0,rfl,rs0⟩:=r.tup
 obtain⟨vw,vs1,rfl,d0,rs1⟩:=Z0 rs0
 obtain⟨vc,vs2,rfl,dc,rs2⟩:=Z0 rs1
 obtain⟨va,vs3,rfl,da,rs3⟩:=Z0 rs2
 obtain⟨vb,vs4,rfl,db,rs4⟩:=Z0 rs3
 have:=ZbP rs4;subst this
 obtain⟨w1,X1,K1,p1,p2,G1,k1⟩:=ZfY (h:=u) (b:=true) G hc dc .l
 obtain⟨K2,p3,G2,k2⟩:=ha K1 _ va (by simp;lia) G1 (da.kl k1 G.lo G.lR)
 obtain⟨w3,X3,K3,p4,p5,G3,k3⟩:=ZfY (h:=u) (b:=false) G2 hc (dc.kl (k1.trans k2) G.lo G.lR) (by simp;lia)
 obtain⟨K4,p6,G4,k4⟩:=hb K3 _ vb (by simp;lia) G3 (db.kl ((k1.trans k2).trans k3) G.lo G.lR)
 obtain⟨K5,p7,G5,k5⟩:=Zl2 (h:=ea) G4 (by simp;lia)
 obtain⟨K6,p8,G6,k6⟩:=Zl1 (h:=eb) (b:=eb+1) G5 (by simp;lia)
 left
 refine⟨K6,?_,by simpa using G6,((((k1.trans k2).trans k3).trans k4).trans k5).trans k6⟩
 unfold Zfq ZhG Zs
 have i1:∀H,Zf (.tup [vw,vc,va,vb]) (.int 1) H=some (vc,H):=λ_=>rfl
 have i2:∀H,Zf (.tup [vw,vc,va,vb]) (.int 2) H=some (va,H):=λ_=>rfl
 have i3:∀H,Zf (.tup [vw,vc,va,vb]) (.int 3) H=some (vb,H):=λ_=>rfl
 have ln:(1:Nat)<=ZK:=by rw[ZD];lia
 simp[Zh,Zk,ZN,Zo,Z1,Za,Zi,ZaP,Zb,Ze,Zg,Zc,Zd,ZaT,ZF,ZO,i1,i2,i3,p1,p2,p3,p4,p5,p6,p7,p8,ln]
theorem Zr1{a:List T}(hc:Nice 2 c)(ha:LaS C o R L0 (.lst a) ra (u+2) ea): LaS (Zff C) o R L0 (whT c a) (rowT u goT (u+1)::rowT (u+1) (Zak c true) (u+2)::(ra++[rowT ea goT (u+1),rowT (u+1) (Zak c false) (ea+1)])) u (ea+1):=by
 intro K rows v hl G r
 right
 simp only[List.length_cons,List.length_append,List.length_nil]at hl
 obtain⟨vs0,rfl,rs0⟩:=r.tup
 obtain⟨vw,vs1,rfl,d0,rs1⟩:=Z0 rs0
 obtain⟨vc,vs2,rfl,dc,rs2⟩:=Z0 rs1
 obtain⟨va,vs3,rfl,da,rs3⟩:=Z0 rs2
 have:=ZbP rs3;subst this
 obtain⟨K1,p1,G1,k1⟩:=Zl2 (h:=u) G .l
 obtain⟨w2,X2,K2,p2,p3,G2,k2⟩:=ZfY (h:=u+1) (b:=true) G1 hc (dc.kl k1 G.lo G.lR) (by simp;lia)
 rw[show u+1+1=u+2 by lia]at p3 G2
 obtain⟨K3,p4,G3,k3⟩:=ha K2 _ va (by simp;lia) G2 (da.kl (k1.trans k2) G.lo G.lR)
 obtain⟨K4,p5,G4,k4⟩:=Zl1 (h:=ea) (b:=u+1) G3 (by simp;lia)
 obtain⟨w5,X5,K5,p6,p7,G5,k5⟩:=ZfY (h:=u+1) (b:=false) G4 hc (dc.kl (((k1.trans k2).trans k3).trans k4) G.lo G.lR) (by simp;lia)
 left
 refine⟨K5,?_,by simpa using G5,(((k1.trans k2).trans k3).trans k4).trans k5⟩
 unfold Zff Zho Zs
 have i1:∀H,Zf (.tup [vw,vc,va]) (.int 1) H=some (vc,H):=λ_=>rfl
 have i2:∀H,Zf (.tup [vw,vc,va]) (.int 2) H=some (va,H):=λ_=>rfl
 have ln:(1:Nat)<=ZK:=by rw[ZD];lia
 simp[Zh,Zk,ZN,Zo,Z1,Za,Zi,ZaP,Zb,Ze,Zg,Zc,Zd,ZaT,ZF,ZO,i1,i2,p1,p2,p3,p4,p5,p6,p7,ln]
theorem Zer{as:List V}(h:U 1=some (.tup (.str wd::as)))(h1:PyData.strOk wd=true)(h2:PyData.strOk w=true): Zl (Zc ZA (Zc Zf (Za 1) (Zd 0)) (ZF w)) U K=some (decide (wd=w),K):=by
 have i0:Zf (.tup (.str wd::as)) (.int 0) K=some (.str wd,K):=by
  have:seqIndex? 0 (as.length+1)=some 0:=by unfold seqIndex?;simp
  simp[Zf,this]
 simp[Zl,Zc,Za,h,Zd,i0,ZF,Zjg h1 h2,Zab]
theorem ZqB(hC:∀m,m<n->∀ts u r e,LyB (LyS m) ts u r e->LaS C o R L0 (.lst ts) r u e)(h:LyS n t u r e): LaS (Zca C) o R L0 t r u e:=by
 have plain:Zd3 t->r=[rowT u t (u+1)]->e=u+1->LaS (Zca C) o R L0 t r u e:=by
  rintro⟨hN,w,rest,rfl,q1,q2⟩ rfl rfl K rows v hl G r
  have rr:=r
  obtain⟨Fr,r0,_⟩:=r
  have lo:=ZcA G.ho
  obtain⟨va,X,Fa,g1,g2,g3,g4⟩:=ZlZ K [v] [_] _ _ .l (.one r0) (Zej (hN.mono .d))
  obtain⟨K',p1,G',k'⟩:=ZiG (h:=u) G g2 (g4 rfl) (by simp at hl;lia)
  refine⟨K',?_,G',k'⟩
  obtain⟨vs0,rfl,rs0⟩:=rr.tup
  obtain⟨vw,vs1,rfl,d0,rs1⟩:=Z0 rs0
  have:=d0.str;subst this
  simp only[Bool.and_eq_true,decide_eq_true_eq]at q1 q2
  have t1:=Zer (K:=K) (U:=λi=>[V.obj Layer_c o,.tup (.str w::vs1),.int u][i]?) (w:="if") rfl q1.1.1 .D
  have t2:=Zer (K:=K) (U:=λi=>[V.obj Layer_c o,.tup (.str w::vs1),.int u][i]?) (w:="while") rfl q1.1.1 .D
  rw[decide_eq_false (show w≠Str.ofString "if" from q1.2)]at t1
  rw[decide_eq_false (show w≠Str.ofString "while" from q2.2)]at t2
  unfold Zca Zd5 Zs
  simp only[List.length_cons,List.length_nil,if_true,Zh,Zu,t1,t2,Ys0,Bool.false_eq_true,if_false,ZG]
  simp[Zo,Z1,Za,ZaP,Zb,Ze,Zg,g1,p1]
 match n,h with
 | 0,h=>exact plain h.1 h.2.1 h.2.2
 | n+1,h=>
  rcases h with⟨h1,h2,h3⟩ | ⟨c,a,b,ra,ea,rb,eb,rfl,hc,ha,hb,rfl,rfl⟩ | ⟨c,a,ra,ea,rfl,hc,ha,rfl,rfl⟩
  ·exact plain h1 h2 h3
  ·intro K rows v hl G r
   obtain⟨K',p1,G',k'⟩:=Zr0 hc (hC n .l _ _ _ _ ha) (hC n .o _ _ _ _ hb) K rows v hl G r
   refine⟨K',?_,G',k'⟩
   right
   obtain⟨vs0,rfl,rs0⟩:=r.tup
   obtain⟨vw,vs1,rfl,d0,rs1⟩:=Z0 rs0
   have:=d0.str;subst this
   have t1:=Zer (K:=K) (U:=λi=>[V.obj Layer_c o,.tup (.str iF::vs1),.int u][i]?) (wd:=iF) (w:="if") rfl .D .D
   rw[decide_eq_true (show iF=Str.ofString "if" from rfl)]at t1
   left
   unfold Zca Zd5 Zs
   simp only[List.length_cons,List.length_nil,if_true,Zh,Zu,t1,Ys0]
   simp[Zo,Z1,Za,ZaP,Zb,Ze,p1]
  ·intro K rows v hl G r
   obtain⟨K',p1,G',k'⟩:=Zr1 hc (hC n .l _ _ _ _ ha) K rows v hl G r
   refine⟨K',?_,G',k'⟩
   right
   obtain⟨vs0,rfl,rs0⟩:=r.tup
   obtain⟨vw,vs1,rfl,d0,rs1⟩:=Z0 rs0
   have:=d0.str;subst this
   have t1:=Zer (K:=K) (U:=λi=>[V.obj Layer_c o,.tup (.str wH::vs1),.int u][i]?) (wd:=wH) (w:="if") rfl .D .D
   rw[decide_eq_false .D]at t1
   have t2:=Zer (K:=K) (U:=λi=>[V.obj Layer_c o,.tup (.str wH::vs1),.int u][i]?) (wd:=wH) (w:="while") rfl .D .D
   rw[decide_eq_true (show wH=Str.ofString "while" from rfl)]at t2
   left
   unfold Zca Zd5 Zs
   simp only[List.length_cons,List.length_nil,if_true,Zh,Zu,t1,t2,Ys0,Bool.false_eq_true,if_false,ZG]
   simp[Zo,Z1,Za,ZaP,Zb,Ze,p1]
theorem Zj4{C: .y}{n pb:Nat}{vs:List V}(hS:∀t u r e,LyS n t u r e->LaS (Zca C) o R L0 t r u e)(hpb:pb<L0){e:Int}: ∀(ts:List T) (i:Nat) (u:Int) (r rows:List T) (K:Hp) (U:Lc),LyB (LyS n) ts u r e->rows.length+r.length<=9000->vs.length=i+ts.length->K[pb]?=some vs->(∀(j:Nat) t,ts[j]?=some t->∃v,vs[i+j]?=some v/\RFo K v t (· < L0))->Ly K o R L0 rows u->U 0=some (.obj Layer_c o)->U 3=some (.int u)->∃K' O,Za6 (ZI pb) (Zw 4) (Zk 3 (Z1 (Layer_c) (Zca C) (Za 0) (Zb (Za 4) (Zb (Za 3) Ze)))) (ts.length+1) i U K=some (none,O,K')/\O 3=some (.int e)/\Ly K' o R L0 (rows++r) e/\Kl K K' o R
 | [],i,u,r,rows,K,U,h,hl,hv,hp,hx,G,r0,r3=>by
  cases h
  have hn:vs[i]?=none:=Yy8 (by simp at hv;lia)
  exact⟨K,U,by simp[Za6,ZI,hp,hn],r3,by simpa using G,λ_ _ _ _=>rfl,Nat.le_refl _⟩
 | t::ts,i,u,r,rows,K,U,h,hl,hv,hp,hx,G,r0,r3=>by
  cases h with
  | @cons _ _ _ e1 _ ra rb hs hb=>
   simp only[List.length_append]at hl
   obtain⟨v,v1,v2⟩:=hx 0 t rfl
   rw[Nat.add_zero]at v1
   obtain⟨K1,p1,G1,k1⟩:=hS _ _ _ _ hs K rows v .l G v2
   have hpl:=ZcA hp
   have hp1:K1[pb]?=some vs:=(k1.1 pb hpl (by have:=G.lo;lia) (by have:=G.lR;omega)).trans hp
   obtain⟨K',O,q1,q2,q3,q4⟩:=Zj4 hS hpb ts (i+1) e1 rb (rows++ra) K1 (Zi (Zi U 4 v) 3 (.int e1)) hb (by simp;lia) (by rw[hv];simp;lia) hp1 (λj t' e'=>by
    obtain⟨w,w1,w2⟩:=hx (j+1) t' (by simpa using e')
    exact⟨w,by rw[show i+1+j=i+(j+1)by lia];exact w1,w2.kl k1 G.lo G.lR⟩) G1 (by simp[Zi,r0]) (by simp[Zi])
   refine⟨K',O,?_,q2,by simpa using q3,k1.trans q4⟩
   rw[List.length_cons]
   show((ZI pb i K).bind _)=_
   have hx:ZI pb i K=some (some v):=by simp[ZI,hp,v1]
   rw[hx]
   have bb:Zk 3 (Z1 (Layer_c) (Zca C) (Za 0) (Zb (Za 4) (Zb (Za 3) Ze))) (Zi U 4 v) K=some (none,Zi (Zi U 4 v) 3 (.int e1),K1):=by
    simp[Zk,Z1,Za,Zi,r0,r3,ZaP,Zb,Ze,p1]
   simp only[Ys0,Zw,bb]
   exact q1
theorem Zkn: ∀(N n:Nat),n<N->∀ts u r e,LyB (LyS n) ts u r e->LaS (Zc2 N) o R L0 (.lst ts) r u e
 | 0,n,h,ts,u,r,e,hb=>absurd h .l
 | N+1,n,h,ts,u,r,e,hb=>by
  intro K rows v hl G rv
  obtain⟨pb,vs,rfl,hp,pl,rs⟩:=rv.lst
  have hlv:vs.length=ts.length:=by obtain⟨F,r,_⟩:=rs;exact r.length
  obtain⟨K',O,q1,q2,q3,q4⟩:=Zj4 (C:=Zc2 N) (vs:=vs) (λt u r e hs=>ZqB (λm hm ts u r e hb=>Zkn N m .l ts u r e hb) hs) pl ts 0 u r rows K (Zi (λi=>[V.obj Layer_c o,.ref pb,.int u][i]?) 3 (.int u)) hb hl .l hp (λj t e=>by rw[Nat.zero_add];exact Zcz rs e) G (by simp[Zi]) (by simp[Zi])
  refine⟨K',?_,q3,q4⟩
  show((Zfh (Zc2 N) (λi=>[V.obj Layer_c o,.ref pb,.int u][i]?) K).map _)=_
  unfold Zfh
  rw[Zaa (B:=Zi (λi=>[V.obj Layer_c o,.ref pb,.int u][i]?) 3 (.int u)) (H1:=K) (by simp[Zk,Za])]
  have ev:ZQ (Za 1) (Zi (λi=>[V.obj Layer_c o,.ref pb,.int u][i]?) 3 (.int u)) K=some (ZI pb,vs.length+1,K):=by simp[ZQ,Za,Zi,hp]
  have s2:Zac (ZQ (Za 1)) (Zw 4) (Zk 3 (Z1 (Layer_c) (Zca (Zc2 N)) (Za 0) (Zb (Za 4) (Zb (Za 3) Ze)))) (Zi (λi=>[V.obj Layer_c o,.ref pb,.int u][i]?) 3 (.int u)) K=some (none,O,K'):=by
   unfold Zac
   rw[ev,hlv]
   exact q1
  rw[Zaa s2]
  simp[Zo,Za,q2]
end
open Classical in
noncomputable def ZdB: T->Option T
 | .lst ts=>if h:∃r,∃e,LyB (LyS 8) ts 0 r e/\r.length<=9000 then some (.lst (choose h))else none
 | _=>none
theorem Zko{rs:T}(hp:0<K.length)(r:RF K v t F)(e:ZdB t=some rs): ∃v' X F',ZcM [v] K=some (v',K++X)/\RF (K++X) v' rs F'/\F'.Nodup/\∀a∈F',K.length<=a:=by
 unfold ZdB at e
 split at e
 case h_2=>cases e
 rename_i ts
 split at e
 case isFalse=>cases e
 rename_i hx
 cases e
 obtain⟨e,h1,h2⟩:=Classical.choose_spec hx
 generalize Classical.choose hx=rows at *
 generalize hK1:K++[[.ref (K.length+1),.int 0],[]]=K1
 have l1:K1.length=K.length+2:=by rw[<-hK1];simp
 have k1:∀a,a<K.length->K1[a]?=K[a]?:=λa l=>by rw[<-hK1,Yy0 l]
 have G:Ly K1 K.length (K.length+1) K.length [] 0:=by
  refine⟨?_,⟨[],[],?_,.nil,.nil,λ_ m=>nomatch m⟩,Nat.le_refl _,.l,.l,hp⟩
  ·rw[<-hK1,Yy5 .l,show K.length-K.length=0 by lia];rfl
  ·rw[<-hK1,Yy5 .o,show K.length+1-K.length=1 by lia];rfl
 have rv:RFo K1 v (.lst ts) (· < K.length):=⟨F,r.frame λa m=>k1 a (r.lt a m),r.lt⟩
 obtain⟨K',p1,G',k'⟩:=Zkn 9 8 .l ts 0 rows e h1 K1 [] v (by simpa using h2) G rv
 obtain⟨vs,F',q1,q2,q4,q3⟩:=G'.hr
 have keep:∀a,a<K.length->K'[a]?=K[a]?:=λa l=>(k'.1 a .l .l .l).trans (k1 a l)
 have lK:K.length<=K'.length:=by have:=k'.2;lia
 have eK:K'=K++K'.drop K.length:=by
  apply List.ext_getElem?
  intro i
  by_cases c:i<K.length
  ·rw[Yy0 c,keep i c]
  ·rw[Yy5 .l,List.getElem?_drop];congr 1;lia
 refine⟨.ref (K.length+1),K'.drop K.length,(K.length+1)::F',?_,?_,List.nodup_cons.mpr ⟨λm=>(q3 _ m).2.2 rfl,q4⟩,λa m=>?_⟩
 ·rw[<-eK]
  unfold ZcM Zil Zs
  simp only[List.length_singleton,if_true]
  have n1:ZcG Layer_c Zfm Ze (λi=>[v][i]?) K=some (.obj Layer_c K.length,K1):=by
   unfold ZcG Zfm ZhB Zs
   have hc:Layer_c.2.length=2:=rfl
   have K0:K.length≠0:=by lia
   generalize hA:K++[[],[]]=A
   have a0:A[K.length]?=some []:=by rw[<-hA,Yy5 .l,show K.length-K.length=0 by lia];rfl
   have lA:K.length<A.length:=ZcA a0
   have b0:(A.set K.length [.ref (K.length+1)])[K.length]?=some [.ref (K.length+1)]:=by rw[Yy6 lA]
   have e1:(A.set K.length [.ref (K.length+1)]).set K.length [.ref (K.length+1),.int 0]=K1:=by rw[<-hK1,<-hA];simp
   have n0:ZB Ze (λi=>[V.obj Layer_c K.length][i]?) (K++[[]])=some (.ref (K.length+1),A):=by
    simp[ZB,Ze,<-hA]
   have s0:Zap Layer_c 0 (ZB Ze) (Za 0) (λi=>[V.obj Layer_c K.length][i]?) (K++[[]])=some (none,(λi=>[V.obj Layer_c K.length][i]?),A.set K.length [.ref (K.length+1)]):=by
    simp only[Zap,n0,Ys0,Za,List.getElem?_cons_zero,Ys1,ZaC,a0]
    simp[K0,hc]
   have s1:Zap Layer_c 1 (Zd 0) (Za 0) (λi=>[V.obj Layer_c K.length][i]?) (A.set K.length [.ref (K.length+1)])=some (none,(λi=>[V.obj Layer_c K.length][i]?),K1):=by
    simp only[Zap,Zd,Ys0,Za,List.getElem?_cons_zero,Ys1,ZaC,b0]
    simp only[List.cons_append,List.nil_append,List.length_singleton,e1]
    simp[K0,hc]
   simp only[Ze,Ys0,List.length_singleton,if_true]
   rw[Zaa s0,s1]
   rfl
  rw[Zaa (B:=Zi (λi=>[v][i]?) 1 (.obj Layer_c K.length)) (H1:=K1) (by simp[Zk,n1])]
  have p1':Zhr [.obj Layer_c K.length,v,.int 0] K1=some (.int e,K'):=p1
  simp[Zh,ZN,Z1,Za,Zi,ZaP,Zb,Ze,Zd,p1',Zo,ZE,Z8,G'.ho]
 ·rw[<-eK]
  exact .ref q1 (by simpa using q2)
 ·rcases Zz7.mp m with rfl | m
  ·lia
  ·exact(q3 a m).1
theorem Zey{L:T->Int->List T->Int->Prop}(hL:∀t u r e r' e',L t u r e->L t u r' e'->r=r'/\e=e')(h:LyB L ts u r e): ∀{r':List T} {e':Int},LyB L ts u r' e'->r=r'/\e=e':=by
 induction h with
 | nil=>intro r' e' k;cases k;exact⟨rfl,rfl⟩
 | cons a _ ih=>
  intro r' e' k
  cases k with
  | cons a' k=>
   right
   obtain⟨rfl,rfl⟩:=hL _ _ _ _ _ _ a a'
   obtain⟨rfl,rfl⟩:=ih k
   left
   exact⟨rfl,rfl⟩
theorem Zm1{a b:List T}(h:Zd3 (ifT c a b)): False:=by
 obtain⟨_,w,rest,e,q,_⟩:=h
 cases e
 exact absurd q .D
theorem Zm2{a:List T}(h:Zd3 (whT c a)): False:=by
 obtain⟨_,w,rest,e,_,q⟩:=h
 cases e
 exact absurd q .D
theorem Zez: ∀(n:Nat) (t:T) (u:Int) (r:List T) (e:Int) (r':List T) (e':Int),LyS n t u r e->LyS n t u r' e'->r=r'/\e=e'
 | 0,t,u,r,e,r',e',h,k=>by
  obtain⟨_,rfl,rfl⟩:=h
  obtain⟨_,rfl,rfl⟩:=k
  exact⟨rfl,rfl⟩
 | n+1,t,u,r,e,r',e',h,k=>by
  rcases h with⟨hp,rfl,rfl⟩ | ⟨c,a,b,ra,ea,rb,eb,rfl,hc,ha,hb,rfl,rfl⟩ | ⟨c,a,ra,ea,rfl,hc,ha,rfl,rfl⟩
  ·rcases k with⟨_,rfl,rfl⟩ | ⟨c,a,b,ra,ea,rb,eb,rfl,_⟩ | ⟨c,a,ra,ea,rfl,_⟩
   ·exact⟨rfl,rfl⟩
   ·exact(Zm1 hp).elim
   ·exact(Zm2 hp).elim
  ·rcases k with⟨hp,_⟩ | ⟨c',a',b',ra',ea',rb',eb',et,_,ha',hb',rfl,rfl⟩ | ⟨c',a',ra',ea',et,_⟩
   ·exact(Zm1 hp).elim
   ·cases et
    obtain⟨rfl,rfl⟩:=Zey (Zez n) ha ha'
    obtain⟨rfl,rfl⟩:=Zey (Zez n) hb hb'
    exact⟨rfl,rfl⟩
   ·cases et
  ·rcases k with⟨hp,_⟩ | ⟨c',a',b',ra',ea',rb',eb',et,_⟩ | ⟨c',a',ra',ea',et,_,ha',rfl,rfl⟩
   ·exact(Zm2 hp).elim
   ·cases et
   ·cases et
    obtain⟨rfl,rfl⟩:=Zey (Zez n) ha ha'
    exact⟨rfl,rfl⟩
theorem Zgl{L:T->Int->List T->Int->Prop}(hL:∀t u r e,L t u r e->L' t u r e)(h:LyB L ts u r e): LyB L' ts u r e:=by
 induction h with
 | nil=>exact .nil
 | cons a _ ih=>exact .cons (hL _ _ _ _ a) ih
theorem Zdb: ∀(n:Nat) (t:T) (u:Int) (r:List T) (e:Int),LyS n t u r e->LyS (n+1) t u r e
 | 0,t,u,r,e,h=>.inl h
 | n+1,t,u,r,e,h=>by
  rcases h with h | ⟨c,a,b,ra,ea,rb,eb,h1,hc,ha,hb,h2⟩ | ⟨c,a,ra,ea,h1,hc,ha,h2⟩
  ·exact .inl h
  ·exact .inr (.inl ⟨c,a,b,ra,ea,rb,eb,h1,hc,Zgl (Zdb n) ha,Zgl (Zdb n) hb,h2⟩)
  ·exact .inr (.inr ⟨c,a,ra,ea,h1,hc,Zgl (Zdb n) ha,h2⟩)
theorem Zk0(h:LyB (LyS 3) ts 0 r e)(hl:r.length<=9000): ZdB (.lst ts)=some (.lst r):=by
 have h8:LyB (LyS 8) ts 0 r e:=Zgl (λt u r e h=>Zdb 7 _ _ _ _ (Zdb 6 _ _ _ _ (Zdb 5 _ _ _ _ (Zdb 4 _ _ _ _ (Zdb 3 _ _ _ _ h))))) h
 have hx:∃r,∃e,LyB (LyS 8) ts 0 r e/\r.length<=9000:=⟨r,e,h8,hl⟩
 unfold ZdB
 simp only
 rw[dif_pos hx]
 obtain⟨e',k,_⟩:=Classical.choose_spec hx
 rw[(Zey (Zez 8) k h8).1]
end L
namespace L
theorem ZtD(hb:0<=b)(hb9:b<=90000): ZbE 0 b 1 H=some (ZaL 0 1 b.toNat,b.toNat+1,H):=by
 unfold ZbE rngN
 rw[ZgT hb,if_pos]
 refine⟨.d,?_,hb,by rw[ZD];lia,?_⟩
 ·unfold Builtin.Range.small
  rw[ZgT hb]
  simp only[Builtin.Range.rangeFitsLong,Bool.and_eq_true,Bool.or_eq_true,decide_eq_true_eq,beq_iff_eq]
  rw[if_pos .d]
  simp only[Bool.and_eq_true,decide_eq_true_eq]
  by_cases h:(0:Int)<b
  ·refine⟨⟨⟨⟨?_,?_⟩,?_⟩,?_⟩,Or.inr ?_⟩ <;> lia
  ·refine⟨⟨⟨⟨?_,?_⟩,?_⟩,?_⟩,?_⟩ <;> first | lia | (apply Or.inl;omega)
 ·exact PyProof.noPylong_small .l
theorem Zl3{a b:Sm}(h:a U H=some (none,B,H1)): Zh a b U H=b B H1:=by simp[Zh,h]
def src(q:Int): T->Bool
 | .tup (.int a::_)=>a == q
 | _=>false
noncomputable def ZaJ(q:Int): V->Bool
 | .tup (.int a::_)=>a == q
 | _=>false
noncomputable def Zjv(n:Nat): T->Bool
 | .tup (.int a::_)=>decide (0<=a/\a<n)
 | _=>false
def byP(n:Nat)(rows:List T): T:=.lst ((List.range n).map λ(p:Nat)=>.lst (rows.filter (src p)))
def ZeA: T->Option T
 | .lst rows=>match ZhU [.lst rows]with
  | some (.int e)=>if 0<=e/\e<=80000/\rows.length<=10000/\rows.all (Zjv (e.toNat+1))=true then some (byP (e.toNat+1) rows)else none
  | _=>none
 | _=>none
theorem Zr2(r:RF K v t F): ZaJ q v=src q t:=by
 cases r with
 | tup hs=>
  cases hs with
  | nil=>rfl
  | cons a b=>cases a <;> rfl
 | _=>rfl
theorem Zk1{K:Hp}{q:Int}: ∀{vs:List V} {ts:List T} {F:List Nat},RFs K vs ts F->∃G,RFs K (vs.filter (ZaJ q)) (ts.filter (src q)) G/\∀a∈G,a∈F
 | _,_,_,.nil=>⟨[],.nil,λa m=>m⟩
 | _,_,_,.cons (v:=v) (t:=t) a r=>by
  obtain⟨G,h1,h2⟩:=Zk1 (q:=q) r
  have e:=Zr2 (q:=q) a
  by_cases c:src q t=true
  ·rw[List.filter_cons_of_pos (by rw[e];exact c),List.filter_cons_of_pos c]
   exact⟨_,.cons a h1,λx m=>(Zz8.mp m).elim (λm=>Yy7 _ m) (λm=>List.mem_append_right _ (h2 x m))⟩
  ·rw[List.filter_cons_of_neg (by rw[e];exact c),List.filter_cons_of_neg c]
   exact⟨G,h1,λx m=>List.mem_append_right _ (h2 x m)⟩
theorem Zl4{U:Lc}{n:Nat}: ∀(m i:Nat) (acc:List V) (H:Hp),i+m=n->acc.length+m<ZK->Zah (ZaL 0 1 n) (Zw 100) ZJ (ZB Ze) U (m+1) i acc H=some (acc++(List.range m).map (λj=>V.ref (H.length+j)),H++List.replicate m [])
 | 0,i,acc,H,h,hl=>by
  have:¬i<n:=by lia
  simp[Zah,ZaL,this]
 | m+1,i,acc,H,h,hl=>by
  have c:i<n:=by lia
  have ih:=Zl4 (U:=U) (n:=n) m (i+1) (acc++[V.ref H.length]) (H++[[]]) .l (by simp;lia)
  have hl':acc.length<ZK:=by lia
  show((ZaL 0 1 n i H).bind _)=_
  simp only[ZaL,if_pos c,Ys0,Zw,ZJ,if_true,ZB,Ze,List.length_nil,Nat.zero_le,hl']
  rw[ih,List.range_succ_eq_map]
  simp[List.replicate_succ,Function.comp_def]
  intro a _
  lia
theorem Zl5{B R n:Nat}{K:Hp}{vrows:List V}{bs:List Nat}(hB:∀p,p<n->bs[p]?=some (K.length+p))(hbl:bs.length=n)(hR:R<K.length)(hK:K[R]?=some vrows)(hB':B=K.length+n)(hp:0<K.length)(hlen:vrows.length<=10000): ∀(ws us:List V) (i:Nat) (U:Lc),vrows=us++ws->us.length=i->U 1=some (.ref B)->(∀w∈ws,∃a rest,w=.tup (.int a::rest)/\0<=a/\a<n)->∃O,Za6 (ZI R) (Zw 2) (ZN (Zag (Zc Zf (Za 1) (Zc Zf (Za 2) (Zd 0))) (Za 2))) (ws.length+1) i U (K++((List.range n).map λ(p:Nat)=>us.filter (ZaJ p))++[bs.map V.ref])=some (none,O,K++((List.range n).map λ(p:Nat)=>vrows.filter (ZaJ p))++[bs.map V.ref])/\O 1=some (.ref B)
 | [],us,i,U,hv,hu,r1,hw=>by
  subst hv
  have e1:(K++((List.range n).map λ(p:Nat)=>us.filter (ZaJ p))++[bs.map V.ref])[R]?=some (us++[]):=by
   rw[List.append_assoc,Yy0 hR];exact hK
  refine⟨U,?_,r1⟩
  have:(us++([]:List V))[i]?=none:=Yy8 (by simp;lia)
  simp only[List.length_nil,Za6,ZI,e1,Ys1,this,Ys0]
  simp
 | w::ws,us,i,U,hv,hu,r1,hw=>by
  obtain⟨a,rest,rfl,a0,an⟩:=hw w Zz5
  obtain⟨O,h1,h2⟩:=Zl5 hB hbl hR hK hB' hp hlen ws (us++[V.tup (.int a::rest)]) (i+1) (Zi U 2 (V.tup (.int a::rest))) (by rw[hv];simp) (by simp[hu]) (by simp[Zi,r1]) (λw m=>hw w (Zz2 _ m))
  refine⟨O,?_,h2⟩
  generalize hH:K++((List.range n).map λ(p:Nat)=>us.filter (ZaJ p))++[bs.map V.ref]=H
  have e1:H[R]?=some vrows:=by rw[<-hH,List.append_assoc,Yy0 hR];exact hK
  have ew:vrows[i]?=some (V.tup (.int a::rest)):=by
   rw[hv,Yy5 .l,hu];simp
  have eB:H[B]?=some (bs.map V.ref):=by
   rw[<-hH,Yy5 (by simp;lia)]
   simp[hB']
  have ep:H[K.length+a.toNat]?=some (us.filter (ZaJ a)):=by
   rw[<-hH,Yy0 (by simp;lia),Yy5 .l]
   rw[show K.length+a.toNat-K.length=a.toNat by lia,List.getElem?_map,List.getElem?_range .o]
   simp only[Ys1]
   rw[show((a.toNat:Nat):Int)=a by lia]
  have ei:(bs.map V.ref)[a.toNat]?=some (.ref (K.length+a.toNat)):=by
   rw[List.getElem?_map,hB a.toNat .o];rfl
  have eset:H.set (K.length+a.toNat) (us.filter (ZaJ a)++[V.tup (.int a::rest)])=K++((List.range n).map λ(p:Nat)=>(us++[V.tup (.int a::rest)]).filter (ZaJ p))++[bs.map V.ref]:=by
   rw[<-hH,List.set_append_left _ _ (by simp;omega),List.set_append_right _ _ .o]
   congr 2
   apply List.ext_getElem
   ·simp
   ·intro j l1 l2
    simp at l1
    rw[List.getElem_set]
    by_cases c:K.length+a.toNat-K.length=j
    ·rw[if_pos c]
     have:j=a.toNat:=by lia
     subst this
     simp only[List.getElem_map,List.getElem_range]
     rw[List.filter_append,show((a.toNat:Nat):Int)=a by lia]
     simp[ZaJ]
    ·rw[if_neg c]
     simp only[List.getElem_map,List.getElem_range,List.filter_append]
     have:¬a=(j:Int):=by lia
     simp[ZaJ,this]
  have sx:ZN (Zag (Zc Zf (Za 1) (Zc Zf (Za 2) (Zd 0))) (Za 2)) (Zi U 2 (V.tup (.int a::rest))) H=some (none,Zi U 2 (V.tup (.int a::rest)),K++((List.range n).map λ(p:Nat)=>(us++[V.tup (.int a::rest)]).filter (ZaJ p))++[bs.map V.ref]):=by
   have i0:Zf (V.tup (.int a::rest)) (.int 0) H=some (.int a,H):=by
    have:seqIndex? 0 (rest.length+1)=some 0:=by unfold seqIndex?;simp
    simp[Zf,this]
   have i1:Zf (.ref B) (.int a) H=some (.ref (K.length+a.toNat),H):=by
    have:seqIndex? a (bs.map V.ref).length=some a.toNat:=by unfold seqIndex?;simp[hbl];lia
    simp only[Zf,eB,Ys0,this,ei,Ys1]
   have hl:(us.filter (ZaJ a)).length<ZK:=by
    have:=List.length_filter_le (ZaJ a) us
    have:us.length<=vrows.length:=by rw[hv];simp
    rw[ZD];lia
   have g1:Za 1 (Zi U 2 (V.tup (.int a::rest))) H=some (.ref B,H):=by simp[Za,Zi,r1]
   have g2:Za 2 (Zi U 2 (V.tup (.int a::rest))) H=some (V.tup (.int a::rest),H):=by simp[Za,Zi]
   simp only[ZN,Zag,Zc,g1,g2,Ys0,Zd,i0,i1,Zbc,ep]
   rw[if_pos ⟨.l,hl⟩]
   simp only[Ys1,eset]
  rw[List.length_cons]
  show((ZI R i H).bind _)=_
  have hx:ZI R i H=some (some (V.tup (.int a::rest))):=by simp[ZI,e1,ew]
  rw[hx]
  simp only[Ys0,Zw,sx]
  exact h1
theorem ZoR{u:T}(hp:0<K.length)(r:RF K v t F)(e:ZeA t=some u): ∃v' X F',Zd8 [v] K=some (v',K++X)/\RF (K++X) v' u F'/\∀a∈F',K.length<=a∨a∈F:=by
 unfold ZeA at e
 split at e
 case h_2=>cases e
 rename_i rows
 split at e
 case h_2=>cases e
 rename_i le hle
 split at e
 case isFalse=>cases e
 rename_i hc
 obtain⟨h0,h8,hl,hall⟩:=hc
 cases e
 have r':=r
 cases r with
 | @ref R vrows _ Fr hR rs=>
 obtain⟨w,X,G,g1,g2,_⟩:=Zoh K [.ref R] [.lst rows] _ _ hp (.one r') hle
 cases g2
 generalize hK1:K++X=K1 at *
 have lR:=(Zz6.mp hR).1
 have l1:K.length<=K1.length:=by rw[<-hK1];simp
 have hR1:K1[R]?=some vrows:=by rw[<-hK1,Yy0 lR];exact hR
 have rs1:RFs K1 vrows rows Fr:=by rw[<-hK1];exact rs.ext X
 have hlv:vrows.length=rows.length:=rs.length
 generalize hn:le.toNat+1=n at *
 have cm:=Zl4 (U:=λi=>[V.ref R][i]?) (n:=n) n 0 [] K1 .l (by rw[ZD];simp;lia)
 simp only[List.nil_append]at cm
 generalize hbs:(List.range n).map (λj=>K1.length+j)=bs
 have ebs:(List.range n).map (λj=>V.ref (K1.length+j))=bs.map V.ref:=by rw[<-hbs];simp
 have hB:∀p,p<n->bs[p]?=some (K1.length+p):=λp hp=>by rw[<-hbs,List.getElem?_map,List.getElem?_range hp];rfl
 have hbl:bs.length=n:=by rw[<-hbs];simp
 have emp:List.replicate n ([]:List V)=(List.range n).map λ(p:Nat)=>([]:List V).filter (ZaJ p):=by
  apply List.ext_getElem
  ·simp
  ·intro i _ _;simp
 obtain⟨O,lp,lr⟩:=Zl5 (B:=K1.length+n) hB hbl .l hR1 rfl .l .l vrows [] 0 (Zi (λi=>[V.ref R][i]?) 1 (.ref (K1.length+n))) rfl rfl (by simp[Zi]) (λw m=>by
  obtain⟨i,hi,ew⟩:=List.getElem_of_mem m
  have ht:rows[i]?=some rows[i]:=Yy1 .o
  obtain⟨v,G,q1,q2,_⟩:=rs.at ht
  have hi':vrows[i]?=some w:=by rw[Yy1 hi];exact congrArg some ew
  rw[hi']at q1
  cases q1
  clear hi' ew
  have ok:=List.all_eq_true.mp hall rows[i] (List.getElem_mem _)
  generalize rows[i]=t at *
  unfold Zjv at ok
  split at ok
  case h_2=>cases ok
  cases q2 with
  | tup hs=>
   cases hs with
   | cons a b=>
    cases a
    simp only[decide_eq_true_eq]at ok
    exact⟨_,_,rfl,ok.1,ok.2⟩)
 generalize hKf:K1++((List.range n).map λ(p:Nat)=>vrows.filter (ZaJ p))++[bs.map V.ref]=Kf at *
 have rsf:RFs Kf vrows rows Fr:=rs1.frame λa m=>by rw[<-hKf,List.append_assoc,Yy0 (rs1.lt a m)]
 have key:∀m,m<=n->∃G,RFs Kf (((List.range m).map λ(p:Nat)=>V.ref (K1.length+p))) ((List.range m).map λ(p:Nat)=>T.lst (rows.filter (src p))) G/\∀a∈G,K.length<=a∨a∈Fr:=by
  intro m
  induction m with
  | zero=>intro _;exact⟨[],.nil,λa m=>(List.not_mem_nil m).elim⟩
  | succ m ih=>
   intro hm
   obtain⟨G,g1,g2⟩:=ih .l
   obtain⟨G',k1,k2⟩:=Zk1 (q:=(m:Int)) rsf
   rw[List.range_succ,List.map_append,List.map_append]
   have em:Kf[K1.length+m]?=some (vrows.filter (ZaJ m)):=by
    rw[<-hKf,Yy0 (by simp;lia),Yy5 .l,show K1.length+m-K1.length=m by lia,List.getElem?_map,List.getElem?_range .o]
    rfl
   refine⟨_,g1.append (.one (.ref em k1)),λa q=>?_⟩
   rcases Zz8.mp q with q | q
   ·exact g2 a q
   ·rcases Zz7.mp q with rfl | q
    ·exact .inl .l
    ·exact .inr (k2 a q)
 obtain⟨G,G1,G2⟩:=key n (Zz10 _)
 rw[ebs]at G1
 have eB:Kf[K1.length+n]?=some (bs.map V.ref):=by
  rw[<-hKf,Yy5 .s]
  simp
 refine⟨.ref (K1.length+n),X++(((List.range n).map λ(p:Nat)=>vrows.filter (ZaJ p))++[bs.map V.ref]),(K1.length+n)::G,?_,?_,λa m=>?_⟩
 ·rw[<-List.append_assoc,hK1,<-List.append_assoc,hKf]
  unfold Zd8 Zhw Zs
  simp only[List.length_singleton,if_true]
  have s1:Zk 1 (Z3 (ZaM (Zb (Zc ZC (Zg ZcJ (Zb (Za 0) Ze)) (Zd 1)) Ze)) (Zw 100) ZJ (ZB Ze)) (λi=>[V.ref R][i]?) K=some (none,Zi (λi=>[V.ref R][i]?) 1 (.ref (K1.length+n)),K1++((List.range n).map λ(p:Nat)=>([]:List V).filter (ZaJ p))++[bs.map V.ref]):=by
   have rg:ZaM (Zb (Zc ZC (Zg ZcJ (Zb (Za 0) Ze)) (Zd 1)) Ze) (λi=>[V.ref R][i]?) K=some (ZaL 0 1 n,n+1,K1):=by
    have:=ZtD (b:=le+1) (H:=K1) .l .l
    rw[show(le+1).toNat=n by lia]at this
    have g2:Zb (Zc ZC (Zg ZcJ (Zb (Za 0) Ze)) (Zd 1)) Ze (λi=>[V.ref R][i]?) K=some ([.int (le+1)],K1):=by
     simp only[Zb,Ze,Zc,Zg,Za,List.getElem?_cons_zero,Ys1,Ys0,g1,Zd,Zt9]
    show(Zb _ _ _ K).bind _=_
    rw[g2]
    exact this
   rw[ebs]at cm
   simp only[Zk,Z3,rg,Ys0,cm,Ys1,emp]
   simp
  rw[Zl3 s1]
  have ev:ZQ (Za 0) (Zi (λi=>[V.ref R][i]?) 1 (.ref (K1.length+n))) (K1++((List.range n).map λ(p:Nat)=>([]:List V).filter (ZaJ p))++[bs.map V.ref])=some (ZI R,vrows.length+1,K1++((List.range n).map λ(p:Nat)=>([]:List V).filter (ZaJ p))++[bs.map V.ref]):=by
   have:(K1++((List.range n).map λ(p:Nat)=>([]:List V).filter (ZaJ p))++[bs.map V.ref])[R]?=some vrows:=by
    rw[List.append_assoc,Yy0 .o];exact hR1
   simp only[ZQ,Za,Zi,show(0=1)=False from by simp,if_false,List.getElem?_cons_zero,Ys1,Ys0,this]
  have s2:Zac (ZQ (Za 0)) (Zw 2) (ZN (Zag (Zc Zf (Za 1) (Zc Zf (Za 2) (Zd 0))) (Za 2))) (Zi (λi=>[V.ref R][i]?) 1 (.ref (K1.length+n))) (K1++((List.range n).map λ(p:Nat)=>([]:List V).filter (ZaJ p))++[bs.map V.ref])=some (none,O,Kf):=by
   simp only[Zac,ev,Ys0]
   exact lp
  rw[Zl3 s2]
  simp[Zo,Za,lr]
 ·rw[<-List.append_assoc,hK1,<-List.append_assoc,hKf]
  exact .ref eB G1
 ·rcases Zz7.mp m with rfl | m
  ·exact .inl .l
  ·rcases G2 a m with q | q
   ·exact .inl q
   ·exact .inr (Zz2 _ q)
noncomputable def Zjh: T->Option T
 | .tup (_::_::b::_)=>some b
 | _=>none
def Ze0: List T->Option (List T)
 | []=>some []
 | f::fs=>(Zjh f).bind λb=>(ZdB b).bind λrs=>(ZeA rs).bind λpl=>(Ze0 fs).map (pl::·)
def prE: Ex:=Zg Zd8 (Zb (Zg ZcM (Zb (Zc Zf (Za 100) (Zd 2)) Ze)) Ze)
theorem Zl6{K:Hp}{U:Lc}{d:Nat}{vs:List V}(hd:K[d]?=some vs)(hp:0<K.length): ∀(fs:List T) (i:Nat) (acc:List V) (at_ pls:List T) (X:Hp) (G:List Nat),(∀(j:Nat) t,fs[j]?=some t->∃v F,vs[i+j]?=some v/\RF K v t F)->vs.length=i+fs.length->RFs (K++X) acc at_ G->(∀a∈G,K.length<=a)->Ze0 fs=some pls->acc.length+fs.length<ZK->∃Y ws G',Zah (ZI d) (Zw 100) ZJ prE U (fs.length+1) i acc (K++X)=some (ws,K++Y)/\RFs (K++Y) ws (at_++pls) G'/\∀a∈G',K.length<=a
 | [],i,acc,at_,pls,X,G,hr,hl,ha,hg,e,hc=>by
  cases e
  have hn:vs[i]?=none:=Yy8 (by simp at hl;lia)
  have hd':(K++X)[d]?=some vs:=by rw[Yy0 (Zz6.mp hd).1];exact hd
  exact⟨X,acc,G,by simp[Zah,ZI,hd',hn],by simpa using ha,hg⟩
 | f::fs,i,acc,at_,pls,X,G,hr,hl,ha,hg,e,hc=>by
  obtain⟨b,e1,e⟩:=Zz0.mp e
  obtain⟨rs,e2,e⟩:=Zz0.mp e
  obtain⟨pl,e3,e⟩:=Zz0.mp e
  obtain⟨pls',e4,rfl⟩:=Zz1.mp e
  obtain⟨v,F,v1,v2⟩:=hr 0 f rfl
  rw[Nat.add_zero]at v1
  have hd':(K++X)[d]?=some vs:=by rw[Yy0 (Zz6.mp hd).1];exact hd
  have hv:∃x y w us,v=.tup (x::y::w::us)/\∃Fb,RF K w b Fb:=by
   unfold Zjh at e1
   split at e1
   case h_2=>cases e1
   cases e1
   cases v2 with
   | tup hs=>
    cases hs with
    | cons a hs=>
     cases hs with
     | cons a2 hs=>
      cases hs with
      | cons a3 hs=>exact⟨_,_,_,_,rfl,_,a3⟩
  obtain⟨x0,y0,w,us,rfl,Fb,rb⟩:=hv
  have hpx:0<(K++X).length:=by rw[List.length_append];lia
  obtain⟨u1,X1,F1,g1,g2,-,g5⟩:=Zko hpx (rb.ext X) e2
  obtain⟨u2,X2,F2,k1,k2,k3⟩:=ZoR (K:=K++X++X1) (by rw[List.length_append];lia) g2 e3
  have lx:K.length<=(K++X).length:=by rw[List.length_append];lia
  have new2:∀a∈F2,K.length<=a:=λa m=>by
   rcases k3 a m with q | q
   ·rw[List.length_append]at q;lia
   ·have:=g5 a q;lia
  have ee:K++X++X1++X2=K++(X++(X1++X2)):=by simp
  rw[ee]at k1 k2
  have ha2:RFs (K++(X++(X1++X2))) (acc++[u2]) (at_++[pl]) (G++F2):=by
   have:=(ha.ext (X1++X2)).append (.one (by rw[List.append_assoc];exact k2))
   rw[List.append_assoc]at this
   exact this
  obtain⟨Y,ws,G',y1,y2,y3⟩:=Zl6 hd hp fs (i+1) (acc++[u2]) (at_++[pl]) pls' (X++(X1++X2)) (G++F2) (λj t e=>by
   have:=hr (j+1) t (by simpa using e)
   rw[show i+(j+1)=i+1+j by lia]at this
   exact this) (by rw[hl];simp;lia) ha2 (λa m=>(Zz8.mp m).elim (hg a) (new2 a)) e4 (by simp at hc ⊢;lia)
  refine⟨Y,ws,G',?_,by simpa using y2,y3⟩
  have i2:∀H,Zf (.tup (x0::y0::w::us)) (.int 2) H=some (w,H):=λH=>by
   have:seqIndex? 2 (us.length+1+1+1)=some 2:=by unfold seqIndex?;simp;lia
   simp[Zf,this]
  have g6:prE (Zi U 100 (.tup (x0::y0::w::us))) (K++X)=some (u2,K++(X++(X1++X2))):=by
   simp only[prE,Zg,Zb,Ze,Zc,Za,Zi,if_true,Ys1,Ys0,Zd,i2,g1,k1]
  have hc':acc.length<ZK:=by simp at hc;lia
  rw[List.length_cons]
  show((ZI d i (K++X)).bind _)=_
  have hx:ZI d i (K++X)=some (some (.tup (x0::y0::w::us))):=by simp[ZI,hd',v1]
  rw[hx]
  simp only[Ys0,Zw,ZJ,if_true,g6,hc']
  exact y1
def Zc4: List T->Option T
 | [.lst fns]=>if fns.length<10000 then(Ze0 fns).map .lst else none
 | _=>none
theorem Zow(hp:0<K.length)(r:RF K vp (.lst fns) F)(e:Zc4 [.lst fns]=some tw): ∃v X F',Zfr [vp] K=some (v,K++X)/\RF (K++X) v tw F'/\∀a∈F',K.length<=a:=by
 unfold Zc4 at e
 dsimp only at e
 split at e
 case isFalse=>cases e
 rename_i hl
 obtain⟨pls,e1,rfl⟩:=Zz1.mp e
 cases r with
 | @ref d vs _ Fr hd rs=>
 obtain⟨Y,ws,G,y1,y2,y3⟩:=Zl6 (U:=λi=>[V.ref d][i]?) hd hp fns 0 [] [] pls [] [] (λj t e=>by
  obtain⟨v,G,q1,q2,_⟩:=rs.at e
  exact⟨v,G,by rw[Nat.zero_add];exact q1,q2⟩) (by rw[rs.length];lia) .nil (λa m=>(List.not_mem_nil m).elim) e1 (by rw[ZD];simp;lia)
 simp only[List.append_nil,List.nil_append]at y1 y2
 refine⟨.ref (K++Y).length,Y++[ws],(K++Y).length::G,?_,?_,λa m=>?_⟩
 ·unfold Zfr ZhH Zs
  simp only[List.length_singleton,if_true]
  have:=rs.length
  unfold prE at y1
  rw[<-this]at y1
  simp only[Zo,Z3,ZQ,Za,List.getElem?_cons_zero,Ys1,Ys0,hd]
  rw[y1]
  simp
 ·rw[<-List.append_assoc]
  exact .ref .s (y2.ext _)
 ·rcases Zz7.mp m with rfl | m
  ·simp
  ·exact y3 a m
end L
namespace L
def Zjw: Sm:=Zh (Zu (Zl (Zc oNe (Zg ZZ (Zb (Za 1) Ze)) (Zc Zf (Zc Zf (Za 0) (ZE Zax (Zd 1))) (Zd 0)))) (PM.sNo) ZG) (Zh (Zk 4 (ZcG (Runner_c) Zd9 (Zb (Za 0) (Zb (Za 1) (Zb (Za 2) Ze))))) (Zh (Zk 5 (ZB (Zb (ZE (Z8 (Runner_c) 5) (Za 4)) Ze))) (Zh (Zbf (ZR (Zl (Zc oLe (Zg ZZ (Zb (Za 5) Ze)) (Za 3))) (ZR (Zbx (Zl (Z1 (Runner_c) Zec (Za 4) Ze))) ZJ)) (Zh (ZN (Z1 (Runner_c) Zed (Za 4) Ze)) (ZN (Zag (Za 5) (ZE (Z8 (Runner_c) 5) (Za 4))))) 1000000) (Zo (Za 5)))))
def Zg3: .y:=Zs 4 Zjw
noncomputable def Zjx(fns:List T): Option Int:=fns.getLast?.bind λt=>match t with
 | .tup (.int p::_)=>some p
 | _=>none
def Zd0(tp tw:T)(ks:List Int): Nat->RS->Option (List Mo)
 | 0,_=>some []
 | k+1,s=>(Zb3 tw s).bind λq=>if q then some []else(Zb8 tp tw ks s).bind λs'=>(Zd0 tp tw ks k s').map (s'.m::·)
def ZuW(ts:List T)(t:T): Prop:=∃(fns:List T) (ss ks:List Int) (steps:Int) (tw:T) (m:Mo) (ms:List Mo),ts=[.lst fns,Zq ss,Zq ks,.int steps]/\Zjx fns=some (ss.length:Int)/\steps<=10000/\Zc4 [.lst fns]=some tw/\Zdw (.lst fns) ((fns.length:Int)-1) ss=some m/\Zd0 (.lst fns) tw ks steps.toNat ⟨0,[],m⟩=some ms/\t=.lst ((m::ms).map Zdg)
noncomputable def Zg4: List T->Option T:=pf ZuW
inductive MomR(K:Hp)(P:Nat->Prop): List V->List Mo->List Nat->Prop where
 | nil:MomR K P [] [] []
 | snoc {vs:List V} {ms:List Mo} {F:List Nat} {m:Mo} {b:Nat}:MomR K P vs ms F->K[b]?=some (m.2.2.map V.int)->P b->b∉F->MomR K P (vs++[ZY m b]) (ms++[m]) (F++[b])
section
variable {K K':Hp} {P:Nat->Prop} {vs:List V} {ms:List Mo} {F:List Nat}
theorem MomR.keep(r:MomR K P vs ms F)(h:∀a,P a->a<K.length->K'[a]?=K[a]?): MomR K' P vs ms F:=by
 induction r with
 | nil=>exact .nil
 | snoc _ b p n ih=>exact .snoc ih ((h _ p (lt_of_at b)).trans b) p n
theorem MomR.lt(r:MomR K P vs ms F): ∀a∈F,a<K.length/\P a:=by
 induction r with
 | nil=>intro a m;cases m
 | snoc _ b p _ ih=>
  intro a m
  rcases Zz8.mp m with m | m
  ·exact ih a m
  ·rw[List.mem_singleton]at m;subst m;exact⟨lt_of_at b,p⟩
theorem MomR.nodup(r:MomR K P vs ms F): F.Nodup:=by
 induction r with
 | nil=>exact List.nodup_nil
 | snoc _ _ _ n ih=>exact List.nodup_append.mpr ⟨ih,.s,λa h c k q=>by rw[List.mem_singleton]at k;subst k;exact n (q▸h)⟩
theorem ZtE{b:Nat}{m:Mo}(e:K[b]?=some (m.2.2.map V.int)): RF K (ZY m b) (Zdg m) [b]:=by
 have:=RFs.cons (RF.int (H:=K) m.1) (RFs.cons (RF.int (H:=K) m.2.1) (RFs.one (Zb4 e)))
 exact .tup (by simpa [Zq]using this)
theorem MomR.rfs(r:MomR K P vs ms F): RFs K vs (ms.map Zdg) F:=by
 induction r with
 | nil=>exact .nil
 | snoc _ b _ _ ih=>rw[List.map_append];exact ih.append (RFs.one (ZtE b))
end
def Zdx: Ts:=ZR (Zl (Zc oLe (Zg ZZ (Zb (Za 5) Ze)) (Za 3))) (ZR (Zbx (Zl (Z1 (Runner_c) Zec (Za 4) Ze))) ZJ)
def ZgJ: Sm:=Zh (ZN (Z1 (Runner_c) Zed (Za 4) Ze)) (ZN (Zag (Za 5) (ZE (Z8 (Runner_c) 5) (Za 4))))
section
variable {o w m0:Nat} {vp vw:V} {kk:Nat} {tp tw:T} {ks:List Int}
theorem ZpB{L0:Nat}(h3:U 3=some (.int steps))(h4:U 4=some (.obj Runner_c o))(h5:U 5=some (.ref m0))(hm:m0≠0)(hs:steps<=10000)(lo:L0<=o)(lw:L0<=w)(lm:L0<=m0): ∀(k fuel:Nat) (s:RS) (b:Nat) (K:Hp) (vs:List V) (ms ms':List Mo) (F:List Nat),Rn K o w b m0 vp vw kk tp tw ks s->K[m0]?=some vs->MomR K (λa=>Off o w m0 a/\L0<=a) vs ms F->1<=vs.length->vs.length-1+k=steps.toNat->L0<=K.length->k<fuel->Zd0 tp tw ks k s=some ms'->∃K' vs' F',Zbf Zdx ZgJ fuel U K=some (none,U,K')/\K'[m0]?=some vs'/\MomR K' (λa=>Off o w m0 a/\L0<=a) vs' (ms++ms') F'/\L0<=K'.length/\∀a,a<L0->K'[a]?=K[a]?:=by
 intro k
 induction k with
 | zero=>
  intro fuel s b K vs ms ms' F R km M l1 l2 lk hf e
  cases fuel with
  | zero=>exact absurd hf (Nat.not_lt_zero _)
  | succ fuel=>
    cases e
    refine⟨K,vs,F,?_,km,by simpa using M,lk,λ_ _=>rfl⟩
    have c:¬((vs.length:Int)<=steps):=by omega
    simp[Zbf,Zdx,ZR,Zl,Zc,Zg,Zb,Ze,Za,h5,Zb6 km,h3,c,Zab]
 | succ k ih=>
  intro fuel s b K vs ms ms' F R km M l1 l2 lk hf e
  cases fuel with
  | zero=>exact absurd hf (Nat.not_lt_zero _)
  | succ fuel=>
    obtain⟨q,e1,e⟩:=Zz0.mp e
    have c:((vs.length:Int)<=steps):=by lia
    have en:=Zpw R e1
    cases q with
    | true=>
     rw[if_pos rfl]at e
     cases e
     refine⟨K,vs,F,?_,km,by simpa using M,lk,λ_ _=>rfl⟩
     simp[Zbf,Zdx,ZR,Zl,Zc,Zg,Zb,Ze,Za,h5,Zb6 km,h3,c,Zab,Zbx,Z1,h4,ZaP,en]
    | false=>
     right
     rw[if_neg .d]at e
     obtain⟨s',e2,e⟩:=Zz0.mp e
     obtain⟨ms2,e3,rfl⟩:=Zz1.mp e
     obtain⟨K1,g1,b',R1,g2,g3,g4⟩:=ZpA R e2
     have lm0:=lt_of_at km
     have km1:K1[m0]?=some vs:=(g4 m0 lm0 R.mo.1 R.mo.2.1).trans km
     generalize hK2:K1.set m0 (vs++[ZY s'.m b'])=K2
     have kp2:∀a,a≠m0->K2[a]?=K1[a]?:=λa h=>by rw[<-hK2,Yy2 (Ne.symm h)]
     have kq:∀a,Off o w m0 a->a<K1.length->K2[a]?=K1[a]?:=λa p _=>kp2 a p.2.2
     have km2:K2[m0]?=some (vs++[ZY s'.m b']):=by rw[<-hK2,Yy6 .l]
     obtain⟨ws,w1,w2⟩:=R1.hw
     have R2:Rn K2 o w b' m0 vp vw kk tp tw ks s':=⟨(kp2 o (Ne.symm R.mo.1)).trans R1.ho,⟨ws,(kp2 w (Ne.symm R.mo.2.1)).trans w1,w2.keep kq⟩,(kq b' R1.bo (lt_of_at R1.hb)).trans R1.hb,R1.rp.keep kq,R1.rw.keep kq,(kq _ R1.ko (lt_of_at R1.rk)).trans R1.rk,R1.ko,R1.bo,R1.o0,R1.w0,R1.ow,R1.mo,by rw[<-hK2];simpa using R1.ml⟩
     have M2:MomR K2 (λa=>Off o w m0 a/\L0<=a) (vs++[ZY s'.m b']) (ms++[s'.m]) (F++[b']):=
      .snoc (M.keep λa p l=>(kq a p.1 .l).trans (g4 a l p.1.1 p.1.2.1)) R2.hb ⟨R2.bo,.l⟩ (λq=>by have:=(M.lt b' q).1;lia)
     obtain⟨K',vs',F',c1,c2,c3,c4,c5⟩:=ih fuel s' b' K2 (vs++[ZY s'.m b']) (ms++[s'.m]) ms2 (F++[b']) R2 km2 M2 .s (by simp;lia) (by rw[<-hK2];simp;lia) .l e3
     left
     refine⟨K',vs',F',?_,c2,by simpa using c3,c4,λa l=>(c5 a l).trans ((kp2 a .l).trans (g4 a .l .l .l))⟩
     have tt:Zdx U K=some (true,K):=by
      simp[Zdx,ZR,Zl,Zc,Zg,Zb,Ze,Za,h5,Zb6 km,h3,c,Zab,Zbx,Z1,h4,ZaP,en,ZJ]
     have lvs:vs.length<100000:=by lia
     have bb:ZgJ U K=some (none,U,K2):=by
      simp[ZgJ,Zh,ZN,Z1,Za,h4,ZaP,Ze,g1,Zag,h5,ZE,Z8,R1.ho,Zbc,km1,hm,ZD,lvs,hK2]
     show((Zdx U K).bind _)=_
     rw[tt]
     simp only[Ys0,if_true,bb]
     exact c1
theorem ZqC{sp:Nat}{m:Mo}(hp:0<H.length)(rp:RF H vp (.lst fns) Fp)(rs:H[sp]?=some (ss.map V.int))(rk:H[kk]?=some (ks.map V.int))(e1:Zc4 [.lst fns]=some tw)(e2:Zdw (.lst fns) ((fns.length:Int)-1) ss=some m): ∃K vw w b Fw,ZcG Runner_c Zd9 (λ_ H=>some ([vp,.ref sp,.ref kk],H)) (λ_=>none) H=some (.obj Runner_c H.length,K)/\K[H.length]?=some [vp,vw,.ref kk,.int 0,.ref w,ZY m b]/\K[w]?=some []/\K[b]?=some (m.2.2.map V.int)/\RF K vw tw Fw/\(∀a∈Fw,H.length<a/\a<w)/\H.length<w/\w<b/\b<K.length/\∀a,a<H.length->K[a]?=H[a]?:=by
 obtain⟨tm,e2,e3⟩:=Zz0.mp e2
 obtain⟨ts,rfl,e4⟩:=Zj2 e3
 have lp:∀a∈Fp,a<H.length:=rp.lt
 generalize ho:H.length=o at *
 have o0:o≠0:=by lia
 generalize hK1:H++[[vp]]=K1
 have l1:K1.length=o+1:=by rw[<-hK1];simp[ho]
 have k1:∀a,a<o->K1[a]?=H[a]?:=λa l=>by rw[<-hK1,Yy0 .l]
 have k1o:K1[o]?=some [vp]:=by rw[<-hK1,<-ho];simp
 have rp1:RF K1 vp (.lst fns) Fp:=rp.frame λa m=>k1 a (lp a m)
 obtain⟨vw,X,Fw,g1,g2,gl⟩:=Zow .l rp1 e1
 generalize hK4:(K1++X).set o [vp,vw,.ref kk,.int 0]=K4
 have l4:K4.length=o+1+X.length:=by rw[<-hK4];simp[l1]
 have k4:∀a,a<K1.length+X.length->a≠o->K4[a]?=(K1++X)[a]?:=λa l h=>by rw[<-hK4,Yy2 (Ne.symm h)]
 have k4o:K4[o]?=some [vp,vw,.ref kk,.int 0]:=by rw[<-hK4,Yy6 (by rw[List.length_append];lia)]
 generalize hw:K4.length=w at *
 generalize hK5:(K4++[[]]).set o [vp,vw,.ref kk,.int 0,.ref w]=K5
 have l5:K5.length=w+1:=by rw[<-hK5];simp[hw]
 have k5:∀a,a<w->a≠o->K5[a]?=K4[a]?:=λa l h=>by rw[<-hK5,Yy2 (Ne.symm h),Yy0 .l]
 have k5o:K5[o]?=some [vp,vw,.ref kk,.int 0,.ref w]:=by rw[<-hK5,Yy6 (by rw[List.length_append];lia)]
 have k5w:K5[w]?=some []:=by rw[<-hK5,Yy2 .l,<-hw];simp
 have k5h:∀a,a<o->K5[a]?=H[a]?:=λa l=>by
  rw[k5 a .l .l,k4 a .l .o,Yy0 .l,k1 a l]
 have rp5:RF K5 vp (.lst fns) Fp:=rp.frame λa m=>k5h a (lp a m)
 have rs5:K5[sp]?=some (ss.map V.int):=(k5h sp (by have:=lt_of_at rs;lia)).trans rs
 obtain⟨v',Y,F,y1,y2,y3,y4⟩:=ZjK K5 [vp,.int ((fns.length:Int)-1),.ref sp] [.lst fns,.int ((fns.length:Int)-1),Zq ss] _ _ .l (.cons rp5 (.cons (.int _) (.one (Zb4 rs5)))) e2
 obtain⟨b,rfl,yb,rfl⟩:=Zl0 (m:=m) y2 e4
 have hb:=(y4 rfl).2 b Zz5
 have lb:=lt_of_at yb
 rw[List.length_append]at lb
 generalize hK6:(K5++Y).set o [vp,vw,.ref kk,.int 0,.ref w,ZY m b]=K6
 have l6:K6.length=w+1+Y.length:=by rw[<-hK6];simp[l5]
 have k6:∀a,a<w+1->a≠o->K6[a]?=K5[a]?:=λa l h=>by rw[<-hK6,Yy2 (Ne.symm h),Yy0 .l]
 have lFw:∀a∈Fw,o<a/\a<w:=λa m=>by
  have p1:=gl a m
  have p2:=g2.lt a m
  rw[List.length_append]at p2
  lia
 refine⟨K6,vw,w,b,Fw,?_,?_,(k6 w .l .l).trans k5w,?_,?_,lFw,.l,.l,.l,λa l=>(k6 a .l .l).trans (k5h a l)⟩
 ·unfold ZcG Zd9 Zhx Zs
  simp only[Ys0,List.length_cons,List.length_nil,if_true,ho]
  have hl:Runner_c.2.length=6:=rfl
  have k0o:(H++[[]])[o]?=some []:=by rw[<-ho];simp
  have s1:(H++[[]]).set o [vp]=K1:=by rw[<-hK1,<-ho];simp
  rw[Zaa (B:=(λi=>[V.obj Runner_c o,vp,V.ref sp,V.ref kk][i]?)) (H1:=K1) (by
   have:ZaC Runner_c 0 (.obj Runner_c o) vp (H++[[]])=some K1:=by simp[ZaC,o0,k0o,hl,s1]
   simp[Zap,Za,this])]
  generalize hK2:(K1++X).set o [vp,vw]=K2
  have kxo:(K1++X)[o]?=some [vp]:=by rw[Yy0 .l];exact k1o
  have lkx:o<(K1++X).length:=lt_of_at kxo
  rw[Zaa (B:=(λi=>[V.obj Runner_c o,vp,V.ref sp,V.ref kk][i]?)) (H1:=K2) (by
   have:ZaC Runner_c 1 (.obj Runner_c o) vw (K1++X)=some K2:=by simp[ZaC,o0,kxo,hl,hK2]
   simp[Zap,Za,Zg,Zb,Ze,g1,this])]
  generalize hK3:(K1++X).set o [vp,vw,.ref kk]=K3
  have k2o:K2[o]?=some [vp,vw]:=by rw[<-hK2,Yy6 lkx]
  rw[Zaa (B:=(λi=>[V.obj Runner_c o,vp,V.ref sp,V.ref kk][i]?)) (H1:=K3) (by
   have:ZaC Runner_c 2 (.obj Runner_c o) (.ref kk) K2=some K3:=by simp[ZaC,o0,k2o,hl,<-hK3];rw[<-hK2];simp
   simp[Zap,Za,this])]
  have k3o:K3[o]?=some [vp,vw,.ref kk]:=by rw[<-hK3,Yy6 lkx]
  rw[Zaa (B:=(λi=>[V.obj Runner_c o,vp,V.ref sp,V.ref kk][i]?)) (H1:=K4) (by
   have:ZaC Runner_c 3 (.obj Runner_c o) (.int 0) K3=some K4:=by simp[ZaC,o0,k3o,hl,<-hK4];rw[<-hK3];simp
   simp[Zap,Za,Zd,this])]
  have k4e:(K4++[[]])[o]?=some [vp,vw,.ref kk,.int 0]:=by rw[Yy0 .l];exact k4o
  rw[Zaa (B:=(λi=>[V.obj Runner_c o,vp,V.ref sp,V.ref kk][i]?)) (H1:=K5) (by
   have:ZaC Runner_c 4 (.obj Runner_c o) (.ref w) (K4++[[]])=some K5:=by simp[ZaC,o0,k4e,hl,<-hK5]
   simp[Zap,Za,ZB,Ze,hw,this])]
  have k5e:(K5++Y)[o]?=some [vp,vw,.ref kk,.int 0,.ref w]:=by rw[Yy0 .l];exact k5o
  have e6:ZaC Runner_c 5 (.obj Runner_c o) (ZY m b) (K5++Y)=some K6:=by simp[ZaC,o0,k5e,hl,<-hK6]
  have ln:=Zgk (P:=λ_=>True) ⟨_,rp5,λ_ _=>trivial⟩
  simp[Zap,Za,Zg,Zb,Ze,Zc,Zd,ln,y1,e6]
 ·rw[<-hK6,Yy6 (by rw[List.length_append];lia)]
 ·rw[<-hK6,Yy2 .l];exact yb
 ·refine g2.frame λa m=>?_
  have:=lFw a m
  rw[k6 a .l .l,k5 a .l .o,k4 a .l .o]
end
theorem Zm3(l:H.length<=K.length)(h:∀a,a<H.length->K[a]?=H[a]?): K=H++K.drop H.length:=by
 apply List.ext_getElem?
 intro i
 by_cases c:i<H.length
 ·rw[Yy0 c,h i c]
 ·rw[Yy5 .l,List.getElem?_drop]
  congr 1
  lia
theorem ZpC(e:Zcr t=some ks): t=Zq ks:=by
 obtain⟨ts,e1,e2⟩:=Zz0.mp e
 have:=Zdr e1;subst this
 have:∀{ts:List T} {ks:List Int},Zb7 ts=some ks->ts=ks.map T.int:=by
  intro ts
  induction ts with
  | nil=>intro ks e;cases e;rfl
  | cons t ts ih=>
   intro ks e
   cases t <;> simp[Zb7]at e
   obtain⟨js,a,rfl⟩:=e
   rw[ih a]
   rfl
 rw[this e2]
 rfl
theorem Zdc(r:RF H v (Zq ks) F): ∃b,v=.ref b/\H[b]?=some (ks.map V.int):=by
 cases r with
 | ref e hs=>
  obtain⟨rfl,_,_⟩:=Zeq (ZeM ks) hs
  exact⟨_,rfl,e⟩
theorem ZtF: ZaZ true Zg3 Zg4:=λH vs ts t F1 hp r e=>by
 right
 obtain⟨fns,ss,ks,steps,tw,m,ms,rfl,e3,hst,e4,e5,e6,rfl⟩:=Zck e
 obtain⟨vp,_,Fp,_,rfl,_,rp,r⟩:=r.icons
 obtain⟨vs0,vk,v3,Fs,Fk,F3,rfl,_,rs,rk,r3⟩:=r.i3
 left
 cases r3
 right
 obtain⟨sp,rfl,hs⟩:=Zdc rs
 obtain⟨kk,rfl,hk⟩:=Zdc rk
 obtain⟨K,vw,w,b,Fw,n1,n2,n3,n4,n5,n6,n7,n8,n9,n10⟩:=ZqC hp rp hs hk e4 e5
 generalize ho:H.length=o at *
 generalize hm0:K.length=m0 at *
 generalize hK1:K++[[ZY m b]]=K1
 have l1:K1.length=m0+1:=by rw[<-hK1];simp[hm0]
 have k1:∀a,a<m0->K1[a]?=K[a]?:=λa l=>by rw[<-hK1,Yy0 .l]
 have k1m:K1[m0]?=some [ZY m b]:=by rw[<-hK1,<-hm0];simp
 have lFp:∀a∈Fp,a<o:=λa m=>by have:=rp.lt a m;lia
 have lk:=lt_of_at hk
 have R:Rn K1 o w b m0 vp vw kk (.lst fns) tw ks ⟨0,[],m⟩:=by
  refine⟨(k1 o .l).trans n2,⟨[],(k1 w .l).trans n3,.nil⟩,(k1 b .o).trans n4,⟨Fp,rp.frame λa m=>?_,λa m=>?_⟩,⟨Fw,n5.frame λa m=>?_,λa m=>?_⟩,?_,⟨.l,.l,.l⟩,⟨.l,.l,.l⟩,.l,.l,.l,⟨.l,.l,.o⟩,.l⟩
  ·have:=lFp a m;rw[k1 a .l,n10 a .o]
  ·have:=lFp a m;exact⟨.l,.l,.l⟩
  ·have:=n6 a m;rw[k1 a .l]
  ·have:=n6 a m;exact⟨.l,.l,.l⟩
  ·rw[k1 kk .l,n10 kk .l];exact hk
 have M:MomR K1 (λa=>Off o w m0 a/\o<=a) [ZY m b] [m] [b]:=MomR.snoc (vs:=[]) (ms:=[]) (F:=[]) .nil R.hb ⟨R.bo,.l⟩ .s
 generalize z:Zi (Zi (λi=>[vp,V.ref sp,V.ref kk,V.int steps][i]?) 4 (.obj Runner_c o)) 5 (.ref m0)=U
 obtain⟨K',vs',F',c1,c2,c3,c4,c5⟩:=ZpB (steps:=steps) (U:=U) (L0:=o) (by rw[<-z];simp[Zi]) (by rw[<-z];simp[Zi]) (by rw[<-z];simp[Zi]) .l hst .l .l .l steps.toNat 1000000 _ b K1 [ZY m b] [m] ms [b] R k1m M .s .s .l .l e6
 have keep:∀a,a<H.length->K'[a]?=H[a]?:=λa l=>(c5 a .l).trans ((k1 a .l).trans (n10 a .o))
 have eK:=Zm3 (H:=H) (K:=K') .l keep
 have fm:∀a∈F',a≠m0/\o<=a:=λa q=>⟨(c3.lt a q).2.1.2.2,(c3.lt a q).2.2⟩
 left
 refine⟨.ref m0,K'.drop H.length,m0::F',?_,?_,λa q=>.inl ?_,λ_=>⟨List.nodup_cons.mpr ⟨λq=>(fm m0 q).1 rfl,c3.nodup⟩,λa q=>?_⟩⟩
 ·rw[<-eK]
  unfold Zg3 Zjw Zs
  simp only[List.length_cons,List.length_nil,if_true]
  rw[Zaa (B:=(λi=>[vp,V.ref sp,V.ref kk,V.int steps][i]?)) (H1:=H) (by
   obtain⟨lt,q1,q2⟩:=Zz0.mp e3
   obtain⟨ys,ey⟩:=List.getLast?_eq_some_iff.mp q1
   split at q2
   case h_2=>cases q2
   rename_i pr2 tl
   cases q2
   right
   have ix:Zcq fns (-1)=some (T.tup (T.int (ss.length:Int)::tl)):=by
    have:seqIndex? (-1) fns.length=some ys.length:=by
     rw[ey]
     unfold seqIndex?
     simp
     lia
    simp only[Zcq,this,Ys0]
    rw[ey]
    simp
   obtain⟨u,u1,u2⟩:=Zgj (P:=λ_=>True) ⟨_,rp,λ_ _=>trivial⟩ ix
   obtain⟨us,rfl,u3⟩:=u2.tup
   obtain⟨u4,us4,rfl,u5,_⟩:=Z0 u3
   have:=u5.int;subst this
   have ln:ZZ [V.ref sp] H=some (.int ss.length,H):=by rw[Zb6 hs,List.length_map]
   left
   simp[Zu,Zl,Zc,Zg,Zb,Ze,Za,ln,ZE,Zd,u1,ia0,Zab,ZG])]
  rw[Zaa (B:=Zi (λi=>[vp,V.ref sp,V.ref kk,V.int steps][i]?) 4 (.obj Runner_c o)) (H1:=K) (by
   have:ZcG Runner_c Zd9 (Zb (Za 0) (Zb (Za 1) (Zb (Za 2) Ze))) (λi=>[vp,V.ref sp,V.ref kk,V.int steps][i]?) H=some (.obj Runner_c o,K):=by
    rw[<-n1]
    simp[ZcG,Zb,Za,Ze]
   simp[Zk,this])]
  rw[Zaa (B:=U) (H1:=K1) (by
   simp[Zk,ZB,Zb,Ze,ZE,Z8,Za,Zi,n2,ZD,hm0,hK1,<-z])]
  unfold Zdx ZgJ at c1
  rw[Zaa c1]
  simp[Zo,Za,<-z,Zi]
 ·rw[<-eK]
  exact .ref c2 (by simpa using c3.rfs)
 ·rcases Zz7.mp q with rfl | q
  ·lia
  ·have:=(fm a q).2;lia
 ·rcases Zz7.mp q with rfl | q
  ·omega
  ·have:=(fm a q).2;omega
inductive ClOk(n:Nat): T->Prop where
 | un {c:Nat->Int}:Sh n c->ClOk n (unT n c)
 | sm {c:Nat->Int}:Sh n c->ClOk n (smT n c)
 | ev {c:Nat->Int} {d:Int}:Sh n c->0<d->ClOk n (evT n c d)
theorem Zuy(h:ClOk bs.length t)(hn:bs.length<=60): ∃u c q r,t=.tup (.str u::Zq c::q)/\Zbk c bs/\hvP u q (ZaQ c bs)=some r:=by
 have k:∀{c:Nat->Int} (u:Str) (q:List T) (r:Bool),Sh bs.length c->hvP u q (ZaQ (tab (bs.length+1) c) bs)=some r->∃u' c' q' r,T.tup (.str u::Za0 bs.length c::q)=.tup (.str u'::Zq c'::q')/\Zbk c' bs/\hvP u' q' (ZaQ c' bs)=some r:=λu q r hc e=>⟨u,_,q,r,by rw[ZdS],ZeN hn hc,e⟩
 cases h with
 | un hc=>exact k _ [] _ hc (by unfold hvP;rw[if_pos .D,if_pos rfl])
 | sm hc=>exact k _ [] _ hc (by unfold hvP;rw[if_pos .D,if_neg .D,if_pos rfl])
 | ev hc hd=>exact k _ [.int _] _ hc (by unfold hvP;rw[if_pos .D,if_neg .D,if_neg .D];exact if_pos hd)
theorem Znw(h:ClOk bs.length t)(hn:bs.length<=60): ∃r,Zb0 [t,Zq bs]=some (.bool r):=by
 obtain⟨u,c,q,r,rfl,ok,e⟩:=Zuy h hn
 exact⟨r,ZrQ ok e⟩
theorem Zim{b r:Bool}(hh:Zb0 [c,Zq bs]=some (.bool r)): Zbu [Zq bs,Zak c b,.int p]=some (if r=b then Zq bs else .none):=by
 obtain⟨u,c',q,bs',h,e,ok,eh,er⟩:=Zkl hh
 simp only[List.cons.injEq,and_true]at e
 obtain⟨rfl,e⟩:=e
 cases Zbn e
 cases er
 rw[Zak,Zdv ok.2.1 (.when rfl ok eh)]
 split <;> rfl
inductive PlOk(sig:Nat->Nat×Nat)(g n:Nat): T->Prop where
 | set {X:Nat} {c:Nat->Int}:X<n->Sh n c->PlOk sig g n (.tup [.str "set",.int ((X:Int)+1),Za0 n c])
 | part {X:Nat} {c:Nat->Int} {d:Int}:X<n->Sh n c->0<d->d.natAbs<2 ^ 300->PlOk sig g n (.tup [.str "part",.int ((X:Int)+1),Za0 n c,.int d])
 | rest {X:Nat} {c:Nat->Int} {d:Int}:X<n->Sh n c->0<d->PlOk sig g n (.tup [.str "rest",.int ((X:Int)+1),Za0 n c,.int d])
 | any {X:Nat} {s:Sp2}:X<n->(∀x y,s.1=some x->s.2=some y->x<=y)->PlOk sig g n (.tup [.str "any",.int ((X:Int)+1),oT s.1,oT s.2])
 | say {c:T}:ClOk n c->PlOk sig g n (.tup [.str "say",c])
 | call {X h:Nat} {sums:List T}:X<n->h<g->sums.length=(sig h).1->(∀s∈sums,∃c,s=Za0 n c/\Sh n c)->PlOk sig g n (.tup [.str "call",.int ((X:Int)+1),.int h,.lst sums])
def ZbI(tp tw:T)(ks:List Int): Nat->RS->Option (List Mo×Nat)
 | 0,s=>some ([],s.n)
 | k+1,s=>(Zb3 tw s).bind λq=>if q then some ([],s.n)else(Zb8 tp tw ks s).bind λs'=>(ZbI tp tw ks k s').map λr=>(s'.m::r.1,r.2)
theorem ZiZ{tp tw:T}{ks:List Int}: ∀{k:Nat} {s:RS} {r:List Mo×Nat},ZbI tp tw ks k s=some r->Zd0 tp tw ks k s=some r.1
 | 0,s,r,e=>by cases e;rfl
 | k+1,s,r,e=>by
  obtain⟨q,e1,e⟩:=Zz0.mp e
  cases q with
  | true=>rw[if_pos rfl]at e;cases e;simp[Zd0,e1]
  | false=>
   rw[if_neg .d]at e
   obtain⟨s',e2,e⟩:=Zz0.mp e
   obtain⟨r',e3,rfl⟩:=Zz1.mp e
   simp[Zd0,e1,e2,ZiZ e3]
section
variable {tp tw:T} {ks:List Int} {n:Nat} {wt:List (Mo×T)} {f u:Int} {bs:List Int}
theorem Zk2{s:RS}{row:T}{rs:List T}(h:ZaO tw s.m=some (row::rs)): Zb3 tw s=some false:=by
 simp[Zb3,h]
theorem Zgm(l:List Int): Zcr (Zq l)=some l:=by
 simp[Zcr,Zq,unL,ZeM]
theorem Zm4(l:List Int): unD (Zq l)=some (some l):=by
 simp[unD,Zq,ZeM]
theorem Zk3(h:ZaO tw (f,u,bs)=some [rowT u (.tup (.str wd::as)) q])(hw:PyData.strOk wd=true)(hc:wd≠Str.ofString "call")(hd:Zbu [Zq bs,.tup (.str wd::as),.int (Zas ks n wd).2]=some (Zq bs')): Zb8 tp tw ks ⟨n,wt,(f,u,bs)⟩=some ⟨(Zas ks n wd).1,wt,(f,q,bs')⟩:=by
 have e:ZeZ bs (.tup (.str wd::as)) (Zas ks n wd).2=some (some bs'):=by simp[ZeZ,hd,Zm4]
 unfold rowT at h
 simp only[Zb8,h,Ys0,un3,Za9,unS,unI,List.getElem?_cons_zero,if_pos hw,if_neg hc,ZdT,Zdh,e,Zhh,Ys1,id]
theorem ZpD{q1 q2:Int}{r:Bool}(h:ZaO tw (f,u,bs)=some [rowT u (Zak c true) q1,rowT u (Zak c false) q2])(hh:Zb0 [c,Zq bs]=some (.bool r)): Zb8 tp tw ks ⟨n,wt,(f,u,bs)⟩=some ⟨n,wt,(f,if r then q1 else q2,bs)⟩:=by
 have hp:Zas ks n "when"=(n,0):=by
  unfold Zas;rw[if_neg .D]
 have d:∀b:Bool,ZeZ bs (Zak c b) 0=some (if r=b then some bs else none):=λb=>by
  unfold ZeZ
  rw[Zim hh]
  cases r <;> cases b <;> simp[Zm4] <;> rfl
 have d1:=d true
 have d2:=d false
 unfold rowT at h
 unfold Zak at h d1 d2
 simp only[Zb8,h,Ys0,Ys1,un3,Za9,unS,unI,List.getElem?_cons_zero,if_pos (show PyData.strOk "when"=true by decide +kernel),if_neg (show Str.ofString "when"≠Str.ofString "call" by decide +kernel),hp,ZdT,Zdh,d1,d2]
 cases r <;> simp[Zhh]
end
def SL(sig:Nat->Nat×Nat)(g n:Nat): Nat->T->Int->List T->Int->Prop
 | 0=>λt u r e=>PlOk sig g n t/\r=[rowT u t (u+1)]/\e=u+1
 | k+1=>λt u r e=>(PlOk sig g n t/\r=[rowT u t (u+1)]/\e=u+1) ∨
   (∃c a b ra ea rb eb,t=ifT c a b/\ClOk n c/\LyB (SL sig g n k) a (u+1) ra ea/\LyB (SL sig g n k) b (ea+1) rb eb/\r=rowT u (Zak c true) (u+1)::(ra++rowT u (Zak c false) (ea+1)::(rb++[rowT ea goT (eb+1),rowT eb goT (eb+1)]))/\e=eb+1) ∨
   (∃c a ra ea,t=whT c a/\ClOk n c/\LyB (SL sig g n k) a (u+2) ra ea/\r=rowT u goT (u+1)::rowT (u+1) (Zak c true) (u+2)::(ra++[rowT ea goT (u+1),rowT (u+1) (Zak c false) (ea+1)])/\e=ea+1)
def Btw(u e:Int)(r:List T): Prop:=∀x∈r,∃a t b,x=rowT a t b/\u<=a/\a<e
theorem Btw.mono{u':Int}(h:Btw u e r)(h1:u'<=u)(h2:e<=e'): Btw u' e' r:=λx m=>by
 obtain⟨a,t,b,q,l1,l2⟩:=h x m
 exact⟨a,t,b,q,.l,.l⟩
theorem Btw.app{s:List T}(h:Btw u e r)(k:Btw u e s): Btw u e (r++s):=λx m=>(Zz8.mp m).elim (h x) (k x)
theorem Btw.cons{a:Int}{s:List T}(h1:u<=a)(h2:a<e)(k:Btw u e s): Btw u e (rowT a t b::s):=λx m=>by
 rcases Zz7.mp m with rfl | m
 ·exact⟨a,t,b,rfl,h1,h2⟩
 ·exact k x m
theorem Btw.nil: Btw u e []:=λx m=>(List.not_mem_nil m).elim
theorem Zci{L:T->Int->List T->Int->Prop}(hL:∀t u r e,L t u r e->u<e/\Btw u e r)(h:LyB L ts u r e): u<=e/\Btw u e r:=by
 induction h with
 | nil=>exact⟨.l,.nil⟩
 | cons a _ ih=>
  obtain⟨h1,h2⟩:=hL _ _ _ _ a
  obtain⟨h3,h4⟩:=ih
  exact⟨.l,(h2.mono .l h3).app (h4.mono .l .l)⟩
section
variable {sig:Nat->Nat×Nat} {g n:Nat}
theorem Zb5: ∀(k:Nat) (t:T) (u:Int) (r:List T) (e:Int),SL sig g n k t u r e->u<e/\Btw u e r
 | 0,t,u,r,e,h=>by
  obtain⟨_,rfl,rfl⟩:=h
  exact⟨.l,.cons .o .o .nil⟩
 | k+1,t,u,r,e,h=>by
  rcases h with⟨_,rfl,rfl⟩ | ⟨c,a,b,ra,ea,rb,eb,rfl,hc,ha,hb,rfl,rfl⟩ | ⟨c,a,ra,ea,rfl,hc,ha,rfl,rfl⟩
  ·exact⟨.o,.cons .o .o .nil⟩
  ·obtain⟨l1,k1⟩:=Zci (Zb5 k) ha
   obtain⟨l2,k2⟩:=Zci (Zb5 k) hb
   exact⟨.l,.cons .o .o ((k1.mono .l .l).app (.cons .o .o ((k2.mono .l .l).app (.cons .l .l (.cons .l .l .nil)))))⟩
  ·obtain⟨l1,k1⟩:=Zci (Zb5 k) ha
   exact⟨.l,.cons .l .o (.cons .l .l ((k1.mono .l .l).app (.cons .l .l (.cons .o .o .nil))))⟩
end
theorem Zgn{a:Int}: src q (rowT a t b)=(a == q):=rfl
theorem ZbQ(h:Btw u e r)(hq:q<u∨e<=q): r.filter (src q)=[]:=by
 rw[List.filter_eq_nil_iff]
 intro x m
 obtain⟨a,t,b,rfl,l1,l2⟩:=h x m
 rw[Zgn]
 simp
 lia
section
variable {sig:Nat->Nat×Nat} {g n:Nat}
theorem Zl7(h:PlOk sig g n t): ∃w rest,t=.tup (.str w::rest)/\(PyData.strOk w && PyData.strOk iF && decide (w≠iF))=true/\(PyData.strOk w && PyData.strOk wH && decide (w≠wH))=true/\PyData.strOk w=true:=by
 cases h <;> exact⟨_,_,rfl,.D,.D,.D⟩
end
def callT(X:Nat)(h:Nat)(sums:List T): T:=.tup [.str "call",.int ((X:Int)+1),.int h,.lst sums]
section
variable {tp tw:T} {ks:List Int} {n:Nat} {wt:List (Mo×T)} {f u:Int} {bs:List Int}
theorem ZoS{X h:Nat}{m:Mo}(hr:ZaO tw (f,u,bs)=some [rowT u (callT X h sums) q])(hg:Zcy bs sums=some gv)(hf:Zdw tp h gv=some m)(hl:wt.length<10000)(hs:sums.length<10000): Zb8 tp tw ks ⟨n,wt,(f,u,bs)⟩=some ⟨n,wt++[((f,u,bs),rowT u (callT X h sums) q)],m⟩:=by
 unfold rowT callT at *
 simp only[Zb8,hr,Ys0,un3,un4,Za9,unS,unI,unL,List.getElem?_cons_zero,if_pos (show PyData.strOk "call"=true by decide +kernel),if_true,ZgI,if_pos (And.intro hl hs),hg,hf,Ys1]
theorem ZqD{X:Nat}{a:Int}(hX:X<bs.length)(hn:bs.length<=60): Zju bs ((X:Int)+1) a=some (bs.set X a):=by
 rw[Zju,Ztx hX hn]
 exact Zgm _
theorem ZoT{X h:Nat}{f' p' a:Int}(hr:ZaO tw (f',p',bs')=some [])(ha:bs'.getLast? = some a)(hX:X<bs.length)(hn:bs.length<=60): Zb8 tp tw ks ⟨n,wt++[((f,u,bs),rowT u (callT X h sums) q)],(f',p',bs')⟩=some ⟨n,wt,(f,q,bs.set X a)⟩:=by
 have:=ZqD (a:=a) hX hn
 unfold rowT callT
 simp[Zb8,hr,ZgH,ha,this,un3,Za9,unI]
theorem ZqE{s:RS}{rows:List T}(h:ZaO tw s.m=some rows)(hw:s.wt=wt++[fr]): Zb3 tw s=some false:=by
 simp[Zb3,h,hw]
theorem Zk4{body:List T}{h:Nat}{p:Nat}(e:fns[h]?=some (.tup [.int p,.int m,.lst body]))(hg:gv.length=p)(hm:m<=60)(hp:p<=m): Zdw (.lst fns) h gv=some ((h:Int),0,gv++List.replicate (m-p) 0):=by
 subst hg
 rw[Zdw,ZrY e hp hm]
 simp only[full,Ys0,Zq,Zjt,un3,Za9,unI,Zcr,unL,ZeM,Ys1]
end
theorem Zb9{a:Int}{s:List T}(h:a=q): (rowT a t b::s).filter (src q)=rowT a t b::s.filter (src q):=by
 rw[List.filter_cons_of_pos (by rw[Zgn];simpa using h)]
theorem ZaW{a:Int}{s:List T}(h:a≠q): (rowT a t b::s).filter (src q)=s.filter (src q):=by
 rw[List.filter_cons_of_neg (by rw[Zgn];simpa using h)]
theorem Zr3(hn:bs.length<=60): Zbu [Zq bs,goT,.int p]=some (Zq bs):=Zdv hn (.stay (.inl rfl))
theorem Zfa{t:Ts}{a b:Sm}(h:t U H=some (true,H1)): Zu t a b U H=a U H1:=by simp only[Zu,h,Ys0,if_true]
theorem Zc1{t:Ts}{a b:Sm}(h:t U H=some (false,H1)): Zu t a b U H=b U H1:=by simp only[Zu,h,Ys0,Bool.false_eq_true,if_false]
theorem Zj5{bs:List Int}(hn:bs.length<=60): ∀{sums:List T},(∀s∈sums,∃c,s=Za0 bs.length c/\Sh bs.length c)->∃gv,Zcy bs sums=some gv/\gv.length=sums.length
 | [],_=>⟨[],rfl,rfl⟩
 | s::sums,h=>by
  obtain⟨gv,e1,e3⟩:=Zj5 hn (sums:=sums) λs m=>h s (Zz2 _ m)
  obtain⟨c,rfl,hc⟩:=h s Zz5
  exact⟨ZcH c bs::gv,by simp[Zcy,ZiY hn hc,unI,e1],by simp[e3]⟩
section
variable {fns:List T} {tw:T} {ks:List Int} {g mk kk L0:Nat} {vp:V} {most:Nat} {sig:Nat->Nat×Nat} {nf:Nat}
theorem ZqF{fg:Nat}(hp:PlOk sig fg n t): (∃X h sums,t=callT X h sums/\X<n/\h<fg/\sums.length=(sig h).1/\∀s∈sums,∃c,s=Za0 n c/\Sh n c)∨∃wd rest,t=.tup (.str wd::rest)/\wd≠Str.ofString "call":=by
 cases hp with
 | call c1 c2 c3 c4=>exact .inl ⟨_,_,_,rfl,c1,c2,c3,c4⟩
 | set=>exact .inr ⟨_,_,rfl,.D⟩
 | part=>exact .inr ⟨_,_,rfl,.D⟩
 | rest=>exact .inr ⟨_,_,rfl,.D⟩
 | any=>exact .inr ⟨_,_,rfl,.D⟩
 | say=>exact .inr ⟨_,_,rfl,.D⟩
end
section
variable {sig:Nat->Nat×Nat} {g n:Nat}
theorem Zdo{c:Nat->Int}(h:m<=60): Nice (k+1) (Za0 m c):=.lst (by simp[tab];lia) (λt ht=>by
 obtain⟨i,_,rfl⟩:=Zpt ht
 exact .int _)
theorem ZeB(h:ClOk n t)(hn:n<=60): Nice 2 t:=by
 cases h with
 | un hc=>exact .tup .s (Z2 (.str su) (Z2 (Zdo hn) nl0))
 | sm hc=>exact .tup .s (Z2 (.str ss_) (Z2 (Zdo hn) nl0))
 | ev hc hd=>exact .tup .s (Z2 (.str .D) (Z2 (Zdo hn) (Z2 (.int _) nl0)))
theorem Zl8{a:Option Int}: Nice k (oT a):=by
 cases a with
 | none=>exact .none
 | some a=>exact .int a
theorem Zi0(h:PlOk sig g n t)(hn:n<=60)(hs:∀h,(sig h).1<=60): Zd3 t:=by
 refine⟨?_,?_⟩
 ·cases h with
  | set _ _=>exact .tup .s (Z2 (.str .D) (Z2 (.int _) (Z2 (Zdo hn) nl0)))
  | part _ _ _ _=>exact .tup .s (Z2 (.str .D) (Z2 (.int _) (Z2 (Zdo hn) (Z2 (.int _) nl0))))
  | rest _ _ _=>exact .tup .s (Z2 (.str .D) (Z2 (.int _) (Z2 (Zdo hn) (Z2 (.int _) nl0))))
  | any _ _=>exact .tup .s (Z2 (.str .D) (Z2 (.int _) (Z2 Zl8 (Z2 Zl8 nl0))))
  | say hc=>exact .tup .s (Z2 (.str .D) (Z2 (ZeB hc hn) nl0))
  | @call X h sums h1 h2 h3 h4=>
   refine .tup .s (Z2 (.str .D) (Z2 (.int _) (Z2 (.int _) (Z2 (.lst ?_ λt ht=>?_) nl0))))
   ·rw[h3];have:=hs h;lia
   ·obtain⟨c,rfl,_⟩:=h4 t ht
    exact Zdo hn
 ·obtain⟨w,rest,e,h1,h2,_⟩:=Zl7 h
  exact⟨w,rest,e,h1,h2⟩
theorem ZbL{L:T->Int->List T->Int->Prop}(hL:∀t u r e,L t u r e->L' t u r e)(h:LyB L ts u r e): LyB L' ts u r e:=by
 induction h with
 | nil=>exact .nil
 | cons a _ ih=>exact .cons (hL _ _ _ _ a) ih
theorem Zdy(hn:n<=60)(hs:∀h,(sig h).1<=60): ∀(k:Nat) (t:T) (u:Int) (r:List T) (e:Int),SL sig g n k t u r e->LyS k t u r e
 | 0,t,u,r,e,h=>⟨Zi0 h.1 hn hs,h.2⟩
 | k+1,t,u,r,e,h=>by
  rcases h with⟨hp,h2⟩ | ⟨c,a,b,ra,ea,rb,eb,h1,hc,ha,hb,h2⟩ | ⟨c,a,ra,ea,h1,hc,ha,h2⟩
  ·exact .inl ⟨Zi0 hp hn hs,h2⟩
  ·exact .inr (.inl ⟨c,a,b,ra,ea,rb,eb,h1,ZeB hc hn,ZbL (Zdy hn hs k) ha,ZbL (Zdy hn hs k) hb,h2⟩)
  ·exact .inr (.inr ⟨c,a,ra,ea,h1,ZeB hc hn,ZbL (Zdy hn hs k) ha,h2⟩)
theorem Zgo{L:T->Int->List T->Int->Prop}(hL:∀t u r e,L t u r e->e-u<=r.length)(h:LyB L ts u r e): e-u<=r.length:=by
 induction h with
 | nil=>simp
 | cons a _ ih=>
  have:=hL _ _ _ _ a
  simp
  lia
theorem ZgK: ∀(k:Nat) (t:T) (u:Int) (r:List T) (e:Int),SL sig g n k t u r e->e-u<=r.length
 | 0,t,u,r,e,h=>by
  obtain⟨_,rfl,rfl⟩:=h
  simp
  lia
 | k+1,t,u,r,e,h=>by
  rcases h with⟨_,rfl,rfl⟩ | ⟨c,a,b,ra,ea,rb,eb,rfl,hc,ha,hb,rfl,rfl⟩ | ⟨c,a,ra,ea,rfl,hc,ha,rfl,rfl⟩
  ·simp
   omega
  ·have:=Zgo (ZgK k) ha
   have:=Zgo (ZgK k) hb
   simp
   lia
  ·have:=Zgo (ZgK k) ha
   simp
   lia
theorem ZpE{body:List T}(hn:n<=60)(hs:∀h,(sig h).1<=60)(h:LyB (SL sig g n 3) body 0 r e)(hl:r.length<=9000): 0<=e/\ZdB (.lst body)=some (.lst r)/\ZeA (.lst r)=some (byP (e.toNat+1) r):=by
 have h':=ZbL (Zdy hn hs 3) h
 obtain⟨e0,hr1,hr2⟩:=ZfW (ZfX 3) h' .l
 have hb:=Zgo (ZgK 3) h
 obtain⟨_,bt⟩:=Zci (Zb5 3) h
 refine⟨e0,Zk0 h' hl,?_⟩
 have la:=ZrX e0 hl hr1 (λq=>hr2 q)
 simp only[ZeA,la]
 rw[if_pos]
 refine⟨e0,.l,.l,?_⟩
 rw[List.all_eq_true]
 intro x m
 obtain⟨a,t,b,rfl,l1,l2⟩:=bt x m
 simp only[Zjv,rowT,decide_eq_true_eq]
 lia
theorem Zi1{k:Int}(h0:0<=k)(h:ts[k.toNat]?=some t): Zcq ts k=some t:=by
 have hlt:k.toNat<ts.length:=(Zz6.mp h).1
 have:seqIndex? k ts.length=some k.toNat:=by unfold seqIndex?;simp;lia
 simp[Zcq,this,h]
end
structure PrOk(fns:List T)(sig:Nat->Nat×Nat): Prop where
 fn:∀h,h<fns.length->∃body r e,fns[h]?=some (.tup [.int (sig h).1,.int (sig h).2,.lst body])/\LyB (SL sig h (sig h).2 3) body 0 r e/\r.length<=9000
 sg:∀h,(sig h).1<=(sig h).2/\1<=(sig h).2/\(sig h).2<=4
theorem Zl9{sig:Nat->Nat×Nat}(hs:∀h,(sig h).1<=(sig h).2/\1<=(sig h).2/\(sig h).2<=4): ∀(fs:List T) (k:Nat),(∀j,j<fs.length->∃body r e,fs[j]?=some (.tup [.int (sig (k+j)).1,.int (sig (k+j)).2,.lst body])/\LyB (SL sig (k+j) (sig (k+j)).2 3) body 0 r e/\r.length<=9000)->∃pls,Ze0 fs=some pls/\∀j,j<fs.length->∃body r e,fs[j]?=some (.tup [.int (sig (k+j)).1,.int (sig (k+j)).2,.lst body])/\LyB (SL sig (k+j) (sig (k+j)).2 3) body 0 r e/\0<=e/\pls[j]?=some (byP (e.toNat+1) r)
 | [],k,h=>⟨[],rfl,λj hj=>by simp at hj⟩
 | f::fs,k,h=>by
  obtain⟨body,r,e,h1,h2,h3⟩:=h 0 .s
  obtain⟨pls,p1,p2⟩:=Zl9 hs fs (k+1) (λj hj=>by
   have:=h (j+1) (by simp;omega)
   rw[show k+(j+1)=k+1+j by lia]at this
   simpa using this)
  obtain⟨e0,q1,q2⟩:=ZpE (by have:=(hs (k+0)).2.2;lia) (λh=>by have:=hs h;lia) h2 h3
  simp only[List.getElem?_cons_zero,Option.some.injEq]at h1
  subst h1
  refine⟨byP (e.toNat+1) r::pls,by simp[Ze0,Zjh,q1,q2,p1],λj hj=>?_⟩
  match j,hj with
  | 0,_=>exact⟨body,r,e,rfl,h2,e0,rfl⟩
  | j+1,hj=>
   obtain⟨b',r',e',z1,z2,z3,z4⟩:=p2 j (by simp at hj;omega)
   rw[show k+(j+1)=k+1+j by lia]
   exact⟨b',r',e',by simpa using z1,z2,z3,by simpa using z4⟩
theorem ZtG: T60<2 ^ 200:=by
 unfold T60;decide
def bk: Nat->Nat
 | 0=>1
 | k+1=>4+8*bk k
section
variable {ns:List Int} {p:Nat} {r:Int} {Q:T->List T->Prop}
theorem Zk5{l:List Int}(hl:l.length=n+1): T.lst (l.map T.int)=Za0 n (λi=>l.getD i 0):=by
 rw[ZdS,Zq,<-hl]
 congr 2
 apply List.ext_getElem
 ·simp[tab]
 ·intro i h1 h2
  simp[tab]at h2 ⊢
  rw[Yy1 h2]
  rfl
end
def StD(sig:Nat->Nat×Nat)(g n k:Nat)(t:T): Prop:=(∀u,∃r e,SL sig g n k t u r e/\r.length<=bk k)/\Nice (3+2*k) t
def BodyD(sig:Nat->Nat×Nat)(g n k:Nat)(ts:List T): Prop:=ts.length<=4/\∀t∈ts,StD sig g n k t
section
variable {sig:Nat->Nat×Nat} {g n k:Nat}
theorem Zin: ∀{ts:List T},(∀t∈ts,StD sig g n k t)->∀u,∃r e,LyB (SL sig g n k) ts u r e/\r.length<=ts.length*bk k
 | [],_,u=>⟨[],u,.nil,.s⟩
 | t::ts,h,u=>by
  obtain⟨r,e,h1,h2⟩:=(h t Zz5).1 u
  obtain⟨r',e',h3,h4⟩:=Zin (λt m=>h t (Zz2 _ m)) e
  refine⟨r++r',e',.cons h1 h3,?_⟩
  rw[List.length_append,List.length_cons,Nat.add_mul]
  lia
theorem BodyD.rows(h:BodyD sig g n k ts)(u:Int): ∃r e,LyB (SL sig g n k) ts u r e/\r.length<=4*bk k:=by
 obtain⟨r,e,h1,h2⟩:=Zin h.2 u
 exact⟨r,e,h1,Nat.le_trans h2 (Nat.mul_le_mul_right _ h.1)⟩
theorem BodyD.nice(h:BodyD sig g n k ts): Nice (3+2*k+1) (.lst ts):=.lst (by have:=h.1;lia) λt m=>(h.2 t m).2
theorem StD.plain(h:PlOk sig g n t)(hn:n<=60)(hs:∀h,(sig h).1<=60): StD sig g n k t:=by
 refine⟨λu=>?_,((Zi0 h hn hs).1).mono .l⟩
 cases k with
 | zero=>exact⟨_,_,⟨h,rfl,rfl⟩,by simp[bk]⟩
 | succ k=>exact⟨_,_,.inl ⟨h,rfl,rfl⟩,by simp[bk];lia⟩
theorem Zr4{a b:List T}(hc:ClOk n c)(hn:n<=60)(ha:BodyD sig g n k a)(hb:BodyD sig g n k b): StD sig g n (k+1) (ifT c a b):=by
 refine⟨λu=>?_,?_⟩
 ·obtain⟨ra,ea,h1,h2⟩:=ha.rows (u+1)
  obtain⟨rb,eb,h3,h4⟩:=hb.rows (ea+1)
  exact⟨_,_,.inr (.inl ⟨c,a,b,ra,ea,rb,eb,rfl,hc,h1,h3,rfl,rfl⟩),by simp[bk];lia⟩
 ·rw[show 3+2*(k+1)=3+2*k+1+1 by lia]
  exact .tup .s (Z2 (.str .D) (Z2 ((ZeB hc hn).mono .l) (Z2 ha.nice (Z2 hb.nice nl0))))
theorem Zr5{a:List T}(hc:ClOk n c)(hn:n<=60)(ha:BodyD sig g n k a): StD sig g n (k+1) (whT c a):=by
 refine⟨λu=>?_,?_⟩
 ·obtain⟨ra,ea,h1,h2⟩:=ha.rows (u+2)
  exact⟨_,_,.inr (.inr ⟨c,a,ra,ea,rfl,hc,h1,rfl,rfl⟩),by simp[bk];lia⟩
 ·rw[show 3+2*(k+1)=3+2*k+1+1 by omega]
  exact .tup .s (Z2 (.str .D) (Z2 ((ZeB hc hn).mono .o) (Z2 ha.nice nl0)))
end
section
variable {sig sig':Nat->Nat×Nat} {g n:Nat}
theorem PlOk.congr(h:∀j,j<g->sig j=sig' j)(p:PlOk sig g n t): PlOk sig' g n t:=by
 cases p with
 | set a b=>exact .set a b
 | part a b c d=>exact .part a b c d
 | rest a b c=>exact .rest a b c
 | any a b=>exact .any a b
 | say a=>exact .say a
 | call a b c d=>exact .call a b (by rw[<-h _ b];exact c) d
theorem SL.congr(h:∀j,j<g->sig j=sig' j): ∀(k:Nat) (t:T) (u:Int) (r:List T) (e:Int),SL sig g n k t u r e->SL sig' g n k t u r e
 | 0,t,u,r,e,x=>⟨x.1.congr h,x.2⟩
 | k+1,t,u,r,e,x=>by
  rcases x with⟨hp,h2⟩ | ⟨c,a,b,ra,ea,rb,eb,h1,hc,ha,hb,h2⟩ | ⟨c,a,ra,ea,h1,hc,ha,h2⟩
  ·exact .inl ⟨hp.congr h,h2⟩
  ·exact .inr (.inl ⟨c,a,b,ra,ea,rb,eb,h1,hc,ZbL (SL.congr h k) ha,ZbL (SL.congr h k) hb,h2⟩)
  ·exact .inr (.inr ⟨c,a,ra,ea,h1,hc,ZbL (SL.congr h k) ha,h2⟩)
theorem SL.up: ∀(k:Nat) (t:T) (u:Int) (r:List T) (e:Int),SL sig g n k t u r e->SL sig g n (k+1) t u r e
 | 0,t,u,r,e,x=>.inl x
 | k+1,t,u,r,e,x=>by
  rcases x with⟨hp,h2⟩ | ⟨c,a,b,ra,ea,rb,eb,h1,hc,ha,hb,h2⟩ | ⟨c,a,ra,ea,h1,hc,ha,h2⟩
  ·exact .inl ⟨hp,h2⟩
  ·exact .inr (.inl ⟨c,a,b,ra,ea,rb,eb,h1,hc,ZbL (SL.up k) ha,ZbL (SL.up k) hb,h2⟩)
  ·exact .inr (.inr ⟨c,a,ra,ea,h1,hc,ZbL (SL.up k) ha,h2⟩)
theorem StD.congr(h:∀j,j<g->sig j=sig' j)(x:StD sig g n k t): StD sig' g n k t:=⟨λu=>by
 obtain⟨r,e,h1,h2⟩:=x.1 u
 exact⟨r,e,h1.congr h _ _ _ _ _,h2⟩,x.2⟩
theorem StD.up(x:StD sig g n k t): StD sig g n (k+1) t:=⟨λu=>by
 obtain⟨r,e,h1,h2⟩:=x.1 u
 exact⟨r,e,h1.up _ _ _ _ _,by simp[bk];lia⟩,x.2.mono .l⟩
end
end L
namespace L
theorem ZfZ{s:List Int}(h:SumOk n s): ∃c,smL s=Za0 n c/\Sh n c:=by
 refine⟨λi=>s.getD i 0,Zk5 h.1,λi hi=>?_⟩
 have hl:=h.1
 have hm:s.getD (i+1) 0∈s.drop 1:=by
  rw[List.getD_eq_getElem?_getD,Yy1 .l]
  simp only[Option.getD_some]
  rw[List.mem_iff_getElem]
  exact⟨i,by simp;omega,by simp[Nat.add_comm]⟩
 have:=h.2.2 _ hm
 unfold C9 at this
 dsimp only
 omega
theorem Zgp(h:ZbH n c): ClOk n c:=by
 obtain⟨s,hs,h⟩:=h
 obtain⟨f,e,hf⟩:=ZfZ hs
 rcases h with rfl | rfl | ⟨d,d0,_,rfl⟩
 ·rw[e];exact .un hf
 ·rw[e];exact .sm hf
 ·rw[e];exact .ev hf .l
theorem Zm5(o:Option Int): oT' o=oT o:=by
 cases o with
 | none=>rw[Zrz];rfl
 | some v=>rw[ZrA];rfl
theorem Zma{p:Nat}(hps:∀(f q:Nat),ps[f]?=some q->f<g/\(sig f).1=q)(h:Pl7 p n ps t): PlOk sig g n t:=by
 have t60:=ZtG
 rcases h with⟨c,hc,rfl⟩ | ⟨x,s,h1,h2,hs,rfl⟩ | ⟨w,x,s,d,hw,h1,h2,hs,d0,d1,rfl⟩ | ⟨x,lo,hi,h1,h2,_,_,hle,rfl⟩ | ⟨x,f,ss,q,h1,h2,e,hl,hs,rfl⟩
 ·exact .say (Zgp hc)
 ·obtain⟨X,rfl⟩:∃X,x=X+1:=⟨x-1,.l⟩
  obtain⟨c,e,hc⟩:=ZfZ hs
  rw[e]
  exact .set .l hc
 ·obtain⟨X,rfl⟩:∃X,x=X+1:=⟨x-1,.l⟩
  obtain⟨c,e,hc⟩:=ZfZ hs
  rw[e]
  rcases hw with rfl | rfl
  ·exact .part .l hc .l .o
  ·exact .rest .o hc .o
 ·obtain⟨X,rfl⟩:∃X,x=X+1:=⟨x-1,.o⟩
  rw[Zm5,Zm5]
  exact .any (s:=(lo,hi)) .o hle
 ·obtain⟨X,rfl⟩:∃X,x=X+1:=⟨x-1,.l⟩
  obtain⟨k1,k2⟩:=hps f q e
  refine .call .l k1 (by simp[hl,k2]) λt m=>?_
  obtain⟨s,hm,rfl⟩:=Zz11.mp m
  exact ZfZ (hs s hm)
theorem Zgq{p n g:Nat}{ps:List Nat}{sig:Nat->Nat×Nat}(hn:n<=60)(hs:∀h,(sig h).1<=60)(hps:∀(f q:Nat),ps[f]?=some q->f<g/\(sig f).1=q): ∀(d:Nat) (t:T),StQ (Pl7 p n ps) (ZbH n) d t->StD sig g n d t
 | 0,t,h=>StD.plain (Zma hps h) hn hs
 | d+1,t,h=>by
  rcases h with h | ⟨c,a,b,rfl,hc,ha,hb,la,lb⟩ | ⟨c,a,rfl,hc,ha,la⟩
  ·exact StD.plain (Zma hps h) hn hs
  ·exact Zr4 (Zgp hc) hn ⟨la,λt m=>Zgq hn hs hps d t (ha t m)⟩ ⟨lb,λt m=>Zgq hn hs hps d t (hb t m)⟩
  ·exact Zr5 (Zgp hc) hn ⟨la,λt m=>Zgq hn hs hps d t (ha t m)⟩
theorem Zk6{sig:Nat->Nat×Nat}{g n:Nat}{t:T}: ∀(j k:Nat),StD sig g n k t->StD sig g n (k+j) t
 | 0,k,h=>h
 | j+1,k,h=>by rw[show k+(j+1)=k+j+1 by lia];exact(Zk6 j k h).up
theorem StQ.up{P C:T->Prop}: ∀{d:Nat} {t:T},StQ P C d t->StQ P C (d+1) t
 | 0,t,h=>.inl h
 | d+1,t,h=>by
  rcases h with h | ⟨c,a,b,e,hc,ha,hb,q⟩ | ⟨c,a,e,hc,ha,q⟩
  ·exact .inl h
  ·exact .inr (.inl ⟨c,a,b,e,hc,λt m=>(ha t m).up,λt m=>(hb t m).up,q⟩)
  ·exact .inr (.inr ⟨c,a,e,hc,λt m=>(ha t m).up,q⟩)
structure GoodP(fs:List T)(sig:Nat->Nat×Nat): Prop where
 fn:∀j,j<fs.length->∃body,fs[j]?=some (.tup [.int (sig j).1,.int (sig j).2,.lst body])/\body.length<=8/\∀t∈body,StD sig j (sig j).2 3 t
 sg:∀h,(sig h).1<=(sig h).2/\1<=(sig h).2/\(sig h).2<=4
theorem GoodP.snoc{body:List T}{p:Nat}(G:GoodP fs sig)(h1:p<=m)(h2:1<=m)(h3:m<=4)(hl:body.length<=8)(hb:∀t∈body,StD sig fs.length m 3 t): GoodP (fs++[.tup [.int p,.int m,.lst body]]) (λj=>if j=fs.length then(p,m)else sig j):=by
 refine⟨λj hj=>?_,λh=>?_⟩
 ·have cg:∀i,i<=fs.length->∀j,j<i->sig j=(if j=fs.length then(p,m)else sig j):=λi hi j hj=>by rw[if_neg .l]
  by_cases c:j=fs.length
  ·subst c
   simp only[if_true]
   exact⟨body,.s,hl,λt m=>(hb t m).congr (cg fs.length (Zz10 _))⟩
  ·simp at hj
   obtain⟨b,q1,q2,q3⟩:=G.fn j .l
   simp only[c,if_false]
   exact⟨b,by rw[Yy0 .l];exact q1,q2,λt m=>(q3 t m).congr (cg j .l)⟩
 ·split
  ·exact⟨h1,h2,h3⟩
  ·exact G.sg h
theorem Zmb{p d:Nat}(hd:d<=3)(hn:n<=60)(hs:∀h,(sig h).1<=60)(hps:∀(f q:Nat),ps[f]?=some q->f<g/\(sig f).1=q)(h:∀t∈ts,StQ (Pl7 p n ps) (ZbH n) d t): ∀t∈ts,StD sig g n 3 t:=λt m=>by
 have:=Zk6 (3-d) d (Zgq hn hs hps d t (h t m))
 rwa [show d+(3-d)=3 by omega]at this
end L
namespace L
section
variable {p q s a:Nat} {ns:List Int} {ps:List Nat} {H K M:Hp}
theorem Lf.from{J:Hp}{d:Nat}(h:Lf H ps pp n d k a M)(l:J.length<=H.length): Lf J ps pp n d k a M:=by
 obtain⟨vs,ts,ea,⟨F,rf,hf⟩,ha,hl,hs⟩:=h
 exact⟨vs,ts,ea,⟨F,rf,λb m=>Nat.le_trans l (hf b m)⟩,Nat.le_trans l ha,hl,hs⟩
theorem FRs.length(h:FRs H M vs ts): vs.length=ts.length:=by
 obtain⟨_,r,_⟩:=h
 exact r.length
theorem ZqG(r:RFs M vs ts F): ∀k,∃G,RFs M (vs.take k) (ts.take k) G/\∀b∈G,b∈F:=
 r.ind (P:=λvs ts F=>∀k,∃G,RFs M (vs.take k) (ts.take k) G/\∀b∈G,b∈F) (λk=>by rw[List.take_nil,List.take_nil];exact⟨[],.nil,λ_ h=>h⟩) λa _ ih k=>by
  cases k with
  | zero=>exact⟨[],.nil,λ_ h=>(List.not_mem_nil h).elim⟩
  | succ k=>
   obtain⟨G,r,h⟩:=ih k
   exact⟨_,.cons a r,λc m=>(Zz8.mp m).elim (Zz4 _) λm=>List.mem_append_right _ (h c m)⟩
theorem FRs.take(h:FRs H M vs ts): FRs H M (vs.take k) (ts.take k):=by
 obtain⟨F,r,hf⟩:=h
 obtain⟨G,r',h⟩:=ZqG r k
 exact⟨G,r',λb m=>hf b (h b m)⟩
abbrev psV(ps:List Nat): List V:=ps.map λi=>V.int (i:Nat)
structure Fns(a s:Nat)(vs:List V)(fs:List T)(ps:List Nat)(sig:Nat->Nat×Nat)(M:Hp): Prop where
 ea:M[a]?=some vs
 es:M[s]?=some (psV ps)
 rf:∃F,RFs M vs fs F/\∀b∈F,s<b
 gp:GoodP fs sig
 len:ps.length=fs.length
 hps:∀(f q:Nat),ps[f]?=some q->f<fs.length/\(sig f).1=q
 h4:∀q∈ps,q<=4
theorem Fns.ws(h:Fns a s vs fs ps sig K)(u:Ws p q ns K M)(hp:p<a)(hs:a<s): Fns a s vs fs ps sig M:=by
 obtain⟨ea,es,⟨F,rf,hf⟩,k1,k2,k3,k4⟩:=h
 exact⟨u.at .l ea,u.at .l es,⟨F,rf.frame λb m=>u.ex.2 b (rf.lt b m) (by simp;have:=hf b m;lia),hf⟩,k1,k2,k3,k4⟩
theorem Fns.snoc{d:Nat}(h:Fns a s vs fs ps sig M)(hs:a<s)(h1:pp<=n)(h2:1<=n)(h3:n<=4)(hd:d<=3)(hl:ts.length<=8)(rf:RF M v (.tup [.int pp,.int n,.lst ts]) G)(hG:∀b∈G,s<b)(hS:∀t∈ts,StQ (Pl7 pp n ps) (ZbH n) d t): Fns a s (vs++[v]) (fs++[.tup [.int pp,.int n,.lst ts]]) (ps++[pp]) (λj=>if j=fs.length then(pp,n)else sig j) ((M.set a (vs++[v])).set s (psV ps++[.int pp])):=by
 obtain⟨ea,es,⟨F,rv,hf⟩,gp,hpl,hps,h4⟩:=h
 have fr:∀b,s<b->((M.set a (vs++[v])).set s (psV ps++[.int pp]))[b]?=M[b]?:=λb hb=>by rw[Yy2 .l,Yy2 .l]
 refine⟨?_,?_,⟨F++G,?_,λb m=>(Zz8.mp m).elim (hf b) (hG b)⟩,gp.snoc h1 h2 h3 hl (Zmb hd .l (λh=>by have:=gp.sg h;lia) hps hS),by simp[hpl],λf q e=>?_,λq m=>?_⟩
 ·rw[Yy2 .l,Yy6 (lt_of_at ea)]
 ·rw[Yy6 (by simp;exact lt_of_at es)]
  simp[psV]
 ·exact List.append_nil G▸rfs_app (.cons (rf.frame λb m=>fr b (hG b m)) .nil) (rv.frame λb m=>fr b (hf b m))
 ·by_cases c:f<ps.length
  ·rw[Yy0 c]at e
   obtain⟨k1,k2⟩:=hps f q e
   exact⟨by simp;lia,by rw[if_neg .l];exact k2⟩
  ·have hf:f=ps.length:=by
    have:=(Zz6.mp e).1
    simp at this
    lia
   subst hf
   simp at e
   subst e
   exact⟨by simp;lia,by simp[hpl]⟩
 ·rcases Zz8.mp m with m | m
  ·exact h4 q m
  ·rw[List.mem_singleton.mp m];lia
end
end L
namespace L
theorem ZoU(vs:List d): Zbi vs none (some (-1))=vs.dropLast:=by
 by_cases h:vs.length=0
 ·have:vs=[]:=List.length_eq_zero_iff.mp h
  subst this
  rfl
 ·rw[Zf5 vs none (some (-1)) (a:=0) (b:=vs.length-1) (by unfold sliceBounds;simp) (by unfold sliceBounds;simp;lia) .o]
  rw[List.drop_zero,Nat.sub_zero,List.dropLast_eq_take]
section
variable {p q a:Nat} {ns:List Int} {H K M:Hp}
theorem ZeC(e:K[a]?=some vs)(h:vs[vs.length-1]?=some v)(k:Q v K): Ok (Zf (.ref a) (.int (-1)) K) Q:=by
 walk_at "p"
 refine⟨v,K,?_,k⟩
 have hlt:=(Zz6.mp h).1
 have:seqIndex? (-1) vs.length=some (vs.length-1):=by
  unfold seqIndex?
  simp
  lia
 simp[Zf,e,this,h]
theorem Zk7{f:PM.Ex}(h:Ok (f U K) λx M=>x=.ref a/\M=K)(e:K[a]?=some vs)(k:Q (.ref K.length) (K++[vs.dropLast])): Ok (ZaB f ZaU (Zaw (ZE Zax (Zd 1))) U K) Q:=by
 walk_at "p"
 obtain⟨_,_,h,rfl,rfl⟩:=h
 refine⟨_,_,?_,k⟩
 have:=ZoU vs
 simp only[ZaB,h,Ys0,ZaU,Zaw,ZE,Zd,Zax,Ys1,Zdz,e]
 rw[<-this]
theorem FRs.at(h:FRs H M vs ts)(e:ts[j]?=some t): ∃v,vs[j]?=some v/\FR H M v t:=by
 obtain⟨F,r,hf⟩:=h
 obtain⟨v,G,ev,rv,sub⟩:=r.at e
 exact⟨v,ev,G,rv,λb m=>hf b (sub.subset m)⟩
theorem Zji{y:Int}(h:FR H M v (.tup [.int x,.int y,.lst ts])): ∃b us,v=.tup [.int x,.int y,.ref b]/\M[b]?=some us/\FRs H M us ts/\H.length<=b:=by
 right
 obtain⟨F,r,hf⟩:=h
 obtain⟨b,us,G,rfl,rfl,e,q⟩:=r.imom
 left
 exact⟨_,_,rfl,e,⟨_,q,λb m=>hf b (by simp[m])⟩,hf _ .s⟩
theorem GoodP.last{body:List T}(G:GoodP fs sig)(h1:1<=fs.length)(hl:body.length<=8)(hb:∀t∈body,StD sig (fs.length-1) (sig (fs.length-1)).2 3 t): GoodP (fs.dropLast++[.tup [.int (sig (fs.length-1)).1,.int (sig (fs.length-1)).2,.lst body]]) sig:=by
 refine⟨λj hj=>?_,G.sg⟩
 simp at hj
 by_cases c:j=fs.length-1
 ·subst c
  exact⟨body,by rw[Yy5 .s];simp,hl,hb⟩
 ·obtain⟨b,q1,q2,q3⟩:=G.fn j .l
  refine⟨b,?_,q2,q3⟩
  rw[Yy0 (by simp;lia),List.dropLast_eq_take,List.getElem?_take,if_pos .o]
  exact q1
end
inductive Out(sig:Nat->Nat×Nat)(g n:Nat)(q e:Int): List T->Prop where
 | one {act:T} {q':Int}:(PlOk sig g n act∨act=goT)->0<=q'->q'<=e->Out sig g n q e [rowT q act q']
 | two {c:T} {a b:Int}:ClOk n c->0<=a->a<=e->0<=b->b<=e->Out sig g n q e [rowT q (Zak c true) a,rowT q (Zak c false) b]
theorem Out.mono(h:Out sig g n q e l)(k:e<=e'): Out sig g n q e' l:=by
 cases h with
 | one a b c=>exact .one a b .l
 | two a b c d f=>exact .two a b .l d .l
section
variable {sig:Nat->Nat×Nat} {g n:Nat}
theorem ZdP(hS:∀t u r e,SL sig g n k t u r e->0<=u->∀q,u<=q->q<e->Out sig g n q e (r.filter (src q)))(h:LyB (SL sig g n k) ts u r e): 0<=u->∀q,u<=q->q<e->Out sig g n q e (r.filter (src q)):=by
 induction h with
 | nil=>intro _ q h1 h2;lia
 | @cons t ts u e1 e2 r1 r2 a b ih=>
  intro h0 q h1 h2
  obtain⟨l1,b1⟩:=Zb5 _ _ _ _ _ a
  obtain⟨l2,b2⟩:=Zci (Zb5 _) b
  rw[List.filter_append]
  by_cases c:q<e1
  ·rw[ZbQ b2 (.inl c),List.append_nil]
   exact(hS _ _ _ _ a h0 q h1 c).mono l2
  ·rw[ZbQ b1 (.inr .l),List.nil_append]
   exact ih .l q .o h2
theorem ZdU: ∀(k:Nat) (t:T) (u:Int) (r:List T) (e:Int),SL sig g n k t u r e->0<=u->∀q,u<=q->q<e->Out sig g n q e (r.filter (src q))
 | 0,t,u,r,e,h,h0,q,h1,h2=>by
  obtain⟨hp,rfl,rfl⟩:=h
  have:q=u:=by lia
  subst this
  rw[Zb9 rfl,List.filter_nil]
  exact .one (.inl hp) .l .l
 | k+1,t,u,r,e,h,h0,q,h1,h2=>by
  rcases h with⟨hp,rfl,rfl⟩ | ⟨c,a,b,ra,ea,rb,eb,rfl,hc,ha,hb,rfl,rfl⟩ | ⟨c,a,ra,ea,rfl,hc,ha,rfl,rfl⟩
  ·have:q=u:=by omega
   subst this
   rw[Zb9 rfl,List.filter_nil]
   exact .one (.inl hp) .o .o
  ·obtain⟨l1,b1⟩:=Zci (Zb5 _) ha
   obtain⟨l2,b2⟩:=Zci (Zb5 _) hb
   by_cases c1:q=u
   ·subst c1
    rw[Zb9 rfl,List.filter_append,ZbQ b1 (.inl .l),List.nil_append,Zb9 rfl,List.filter_append,ZbQ b2 (.inl .l),List.nil_append,ZaW .l,ZaW .l,List.filter_nil]
    exact .two hc .l .l .l .l
   rw[ZaW (Ne.symm c1),List.filter_append,ZaW (Ne.symm c1),List.filter_append]
   by_cases c2:q<ea
   ·rw[ZbQ b2 (.inl .l),List.nil_append,ZaW .l,ZaW .l,List.filter_nil,List.append_nil]
    exact(ZdP (ZdU k) ha .l q .l c2).mono .l
   rw[ZbQ b1 (.inr .l),List.nil_append]
   by_cases c3:q=ea
   ·subst c3
    rw[ZbQ b2 (.inl .l),List.nil_append,Zb9 rfl,ZaW .l,List.filter_nil]
    exact .one (.inr rfl) .l .l
   by_cases c4:q<eb
   ·rw[ZaW .l,ZaW .l,List.filter_nil,List.append_nil]
    exact(ZdP (ZdU k) hb .l q .l c4).mono .l
   ·have:q=eb:=by lia
    subst this
    rw[ZbQ b2 (.inr .l),List.nil_append,ZaW .l,Zb9 rfl,List.filter_nil]
    exact .one (.inr rfl) .l .l
  ·obtain⟨l1,b1⟩:=Zci (Zb5 _) ha
   by_cases c1:q=u
   ·subst c1
    rw[Zb9 rfl,ZaW .l,List.filter_append,ZbQ b1 (.inl .l),List.nil_append,ZaW .l,ZaW .o,List.filter_nil]
    exact .one (.inr rfl) .l .l
   rw[ZaW (Ne.symm c1)]
   by_cases c2:q=u+1
   ·subst c2
    rw[Zb9 rfl,List.filter_append,ZbQ b1 (.inl .l),List.nil_append,ZaW .l,Zb9 rfl,List.filter_nil]
    exact .two hc .l .l .l .l
   rw[ZaW (Ne.symm c2),List.filter_append]
   by_cases c3:q<ea
   ·rw[ZaW .l,ZaW (Ne.symm c2),List.filter_nil,List.append_nil]
    exact(ZdP (ZdU k) ha .l q .l c3).mono .l
   ·have:q=ea:=by lia
    subst this
    rw[ZbQ b1 (.inr .l),List.nil_append,Zb9 rfl,ZaW (Ne.symm c2),List.filter_nil]
    exact .one (.inr rfl) .l .o
end
structure Wp(fns:List T)(tw:T)(sig:Nat->Nat×Nat)(nf:Nat)(en:Nat->Int): Prop where
 out:∀h,h<nf->∀q bs,0<=q->q<en h->∃l,ZaO tw ((h:Int),q,bs)=some l/\Out sig h (sig h).2 q (en h) l
 fin:∀h,h<nf->∀bs,ZaO tw ((h:Int),en h,bs)=some []
 e0:∀h,h<nf->0<=en h
 sg:∀h,h<nf->(sig h).1<=(sig h).2/\1<=(sig h).2/\(sig h).2<=4
 fn:∀h,h<nf->∃body,fns[h]?=some (.tup [.int (sig h).1,.int (sig h).2,.lst body])
structure IsM(sig:Nat->Nat×Nat)(nf:Nat)(en:Nat->Int)(h:Nat)(m:Mo): Prop where
 f:m.1=h
 hn:h<nf
 p0:0<=m.2.1
 pe:m.2.1<=en h
 bl:m.2.2.length=(sig h).2
def IsW(tw:T)(sig:Nat->Nat×Nat)(nf:Nat)(en:Nat->Int)(h:Nat)(fr:Mo×T): Prop:=IsM sig nf en h fr.1/\ZaO tw fr.1=some [fr.2]/\∃X g sums q,fr.2=rowT fr.1.2.1 (callT X g sums) q/\X<(sig h).2/\0<=q/\q<=en h
structure Inv(tw:T)(sig:Nat->Nat×Nat)(nf:Nat)(en:Nat->Int)(s:RS): Prop where
 m:∃h,IsM sig nf en h s.m/\s.wt.length+h<nf
 w:∀(i:Nat) fr,s.wt[i]?=some fr->∃h,IsW tw sig nf en h fr/\i+h<nf
inductive Stp(fns:List T)(tw:T)(sig:Nat->Nat×Nat)(ks:List Int)(s:RS): RS->Prop where
 | leave {wt:List (Mo×T)} {m:Mo} {X g:Nat} {sums:List T} {q a:Int}:s.wt=wt++[(m,rowT m.2.1 (callT X g sums) q)]->ZaO tw s.m=some []->s.m.2.2.getLast? = some a->X<m.2.2.length->ZaO tw m=some [rowT m.2.1 (callT X g sums) q]->Stp fns tw sig ks s ⟨s.n,wt,(m.1,q,m.2.2.set X a)⟩
 | enter {X g:Nat} {sums:List T} {q:Int} {gv:List Int} {body:List T}:ZaO tw s.m=some [rowT s.m.2.1 (callT X g sums) q]->Zcy s.m.2.2 sums=some gv->gv.length=(sig g).1->fns[g]?=some (.tup [.int (sig g).1,.int (sig g).2,.lst body])->(∀t∈sums,∃c,t=Za0 s.m.2.2.length c/\Sh s.m.2.2.length c)->sums.length=(sig g).1->Stp fns tw sig ks s ⟨s.n,s.wt++[(s.m,rowT s.m.2.1 (callT X g sums) q)],((g:Int),0,gv++List.replicate ((sig g).2-(sig g).1) 0)⟩
 | act {wd:Str} {as:List T} {q:Int} {bs:List Int} {h:Nat}:ZaO tw s.m=some [rowT s.m.2.1 (.tup (.str wd::as)) q]->(PlOk sig h s.m.2.2.length (.tup (.str wd::as))∨T.tup (.str wd::as)=goT)->PyData.strOk wd=true->wd≠Str.ofString "call"->Zbu [Zq s.m.2.2,.tup (.str wd::as),.int (Zas ks s.n wd).2]=some (Zq bs)->Stp fns tw sig ks s ⟨(Zas ks s.n wd).1,s.wt,(s.m.1,q,bs)⟩
 | when {c:T} {a b:Int} {r:Bool}:ZaO tw s.m=some [rowT s.m.2.1 (Zak c true) a,rowT s.m.2.1 (Zak c false) b]->ClOk s.m.2.2.length c->Zb0 [c,Zq s.m.2.2]=some (.bool r)->Stp fns tw sig ks s ⟨s.n,s.wt,(s.m.1,if r then a else b,s.m.2.2)⟩
section
variable {fns:List T} {tw:T} {sig:Nat->Nat×Nat} {nf:Nat} {en:Nat->Int} {ks:List Int}
theorem Zr6{pick:Int}(hl:bs.length=n)(hn:n<=60)(hc:wd≠Str.ofString "call")(P:PlOk sig g n (.tup (.str wd::as))): PyData.strOk wd=true/\∃bs',Zbu [Zq bs,.tup (.str wd::as),.int pick]=some (Zq bs')/\bs'.length=n:=by
 subst hl
 obtain⟨w,rest,ew,_,_,ok⟩:=Zl7 P
 cases ew
 refine⟨ok,?_⟩
 cases P with
 | @set X c hX hc'=>rw[ZdS];exact⟨_,Zdv hn (.lay hX (.set rfl (ZeN hn hc'))),.s⟩
 | @part X c d hX hc' hd bd=>rw[ZdS];exact⟨_,Zdv hn (.lay hX (.part rfl (ZeN hn hc') hd bd)),.s⟩
 | @rest X c d hX hc' hd=>rw[ZdS];exact⟨_,Zdv hn (.lay hX (.rest rfl (ZeN hn hc') hd)),.s⟩
 | @any X s hX hs=>exact⟨_,Zdv hn (.lay hX (.any rfl hs)),.s⟩
 | @say c hcl=>exact⟨bs,Zdv hn (.stay (.inr rfl)),rfl⟩
 | call=>exact absurd rfl hc
theorem Zi2(W:Wp fns tw sig nf en)(hnf:nf<=100){s:RS}(I:Inv tw sig nf en s): Zb3 tw s=some true∨(Zb3 tw s=some false/\∃s',Stp fns tw sig ks s s'/\Zb8 (.lst fns) tw ks s=some s'/\Inv tw sig nf en s'):=by
 obtain⟨n,wt,f,p,bs⟩:=s
 obtain⟨⟨h,M,hwt⟩,Iw⟩:=I
 obtain⟨ff,hn,p0,pe,bl⟩:=M
 dsimp only at ff p0 pe bl hwt Iw
 subst ff
 obtain⟨s1,s2,s3⟩:=W.sg h hn
 have hb60:bs.length<=60:=by lia
 by_cases c:p<en h
 ·apply Or.inr
  obtain⟨l,l1,l2⟩:=W.out h hn p bs p0 c
  have inv:∀(q:Int) (bs':List Int) (n':Nat),0<=q->q<=en h->bs'.length=(sig h).2->Inv tw sig nf en ⟨n',wt,((h:Int),q,bs')⟩:=λq bs' n' a b d=>⟨⟨h,⟨rfl,hn,a,b,d⟩,hwt⟩,Iw⟩
  cases l2 with
  | @one act q' ha q0 q1=>
   refine⟨Zk2 (s:=⟨n,wt,((h:Int),p,bs)⟩) l1,?_⟩
   rcases ha with ha | rfl
   ·rcases ZqF ha with⟨X,g,sums,rfl,c1,c2,c3,c4⟩ | ⟨wd,rest,rfl,hc⟩
    ·obtain⟨gv,g1,g3⟩:=Zj5 (bs:=bs) (sums:=sums) hb60 (by rw[bl];exact c4)
     obtain⟨body,hbd⟩:=W.fn g .l
     obtain⟨t1,t2,t3⟩:=W.sg g .o
     have hf:=Zk4 (fns:=fns) (h:=g) (gv:=gv) hbd .l .l t1
     refine⟨_,.enter l1 g1 .o hbd (by dsimp only;rw[bl];exact c4) c3,ZoS l1 g1 hf .l .l,⟨⟨g,⟨rfl,.o,Int.le_refl _,W.e0 g .o,by simp;lia⟩,by simp;lia⟩,λi fr e=>?_⟩⟩
     by_cases ci:i<wt.length
     ·rw[Yy0 ci]at e
      exact Iw i fr e
     ·rw[Yy5 (show wt.length<=i by lia)]at e
      have hi:i-wt.length=0:=by
       by_cases z:i-wt.length=0
       ·exact z
       ·rw[Yy8 (show([(((h:Int),p,bs),rowT p (callT X g sums) q')]:List (Mo×T)).length<=i-wt.length by simp;lia)]at e;cases e
      rw[hi]at e
      cases e
      exact⟨h,⟨⟨rfl,hn,p0,pe,bl⟩,l1,X,g,sums,q',rfl,c1,q0,q1⟩,.l⟩
    ·obtain⟨ok,bs',d1,d2⟩:=Zr6 (pick:=(Zas ks n wd).2) bl .l hc ha
     exact⟨_,.act (h:=h) l1 (.inl (by dsimp only;rw[bl];exact ha)) ok hc d1,Zk3 l1 ok hc d1,inv q' bs' _ q0 q1 d2⟩
   ·have hd:Zbu [Zq bs,goT,.int (Zas ks n "go").2]=some (Zq bs):=Zr3 hb60
    exact⟨_,.act (h:=h) (wd:="go") (as:=[]) l1 (.inr rfl) .D .D hd,Zk3 (wd:="go") (as:=[]) l1 .D .D hd,inv q' bs _ q0 q1 bl⟩
  | @two cl a b hc a0 a1 b0 b1=>
   refine⟨Zk2 (s:=⟨n,wt,((h:Int),p,bs)⟩) l1,?_⟩
   have hc':ClOk bs.length cl:=by rw[bl];exact hc
   obtain⟨r,p1⟩:=Znw hc' hb60
   exact⟨_,.when l1 hc' p1,ZpD l1 p1,inv _ bs n (by split <;> omega) (by split <;> omega) bl⟩
 ·have:p=en h:=by lia
  subst this
  have l1:=W.fin h hn bs
  rcases List.eq_nil_or_concat wt with rfl | ⟨wt0,fr,rfl⟩
  ·apply Or.inl
   simp[Zb3,l1]
  ·apply Or.inr
   rw[List.concat_eq_append]at *
   obtain⟨h',⟨M',r',X,g,sums,q,er,hX,q0,q1⟩,hi⟩:=Iw wt0.length fr .s
   obtain⟨m',row⟩:=fr
   dsimp only at er r' M'
   subst er
   obtain⟨f',p',bs'⟩:=m'
   obtain⟨ff',hn',p0',pe',bl'⟩:=M'
   dsimp only at ff' p0' pe' bl'
   subst ff'
   obtain⟨t1,t2,t3⟩:=W.sg h' hn'
   have ne:bs≠[]:=by intro z;rw[z]at bl;simp at bl;lia
   have ha:bs.getLast? = some (bs.getLast ne):=List.getLast?_eq_some_getLast ne
   refine⟨ZqE l1 rfl,_,.leave (m:=((h':Int),p',bs')) rfl l1 ha (by dsimp only;lia) r',ZoT l1 ha .o .l,⟨⟨h',⟨rfl,hn',q0,q1,by simpa using bl'⟩,by dsimp only;omega⟩,λi fr e=>Iw i fr ?_⟩⟩
   rw[Yy0 (Zz6.mp e).1]
   exact e
theorem Zj6(W:Wp fns tw sig nf en)(hnf:nf<=100): ∀(k:Nat) {s:RS},Inv tw sig nf en s->∃r,ZbI (.lst fns) tw ks k s=some r/\∀m∈r.1,m.2.2.length<=4
 | 0,s,I=>⟨_,rfl,λm hm=>(List.not_mem_nil hm).elim⟩
 | k+1,s,I=>by
  rcases Zi2 (ks:=ks) W hnf I with e | ⟨e,s',_,e2,I'⟩
  ·exact⟨([],s.n),by simp[ZbI,e],λm hm=>(List.not_mem_nil hm).elim⟩
  ·obtain⟨r,hr,hb⟩:=Zj6 W hnf k I'
   refine⟨(s'.m::r.1,r.2),by simp[ZbI,e,e2,hr],λm hm=>?_⟩
   rcases Zz7.mp hm with rfl | hm
   ·obtain⟨⟨h,M,_⟩,_⟩:=I'
    have:=W.sg h M.hn
    rw[M.bl];lia
   ·exact hb m hm
end
end L
namespace L
def ZhV: Sm:=Zh (Zac (ZQ (Za 1)) (Zw 3) (Zh (Zk 4 (Zg Zdq (Zb (Zc Zf (Za 0) (Zd 2)) (Zb (Zc Zf (Za 3) (Zd 1)) (Zb (Za 2) Ze))))) (Zu (Zl (Zc ZaA (Za 4) (Z9))) (Zh (ZaE (Zc Zf (Za 3) (Zd 2)) (Za 0) (Zd 1)) (Zh (ZaE (Za 4) (Za 0) (Zd 2)) (Zo (ZaT true)))) ZG))) (Zo (ZaT false))
def Zc5: .y:=Zs 3 ZhV
end L
namespace L
def ZjL(F: .y): Sm:=cpG F
def Zfk: Nat-> .y
 | 0=>λ_ _=>none
 | n+1=>Zs 1 (ZjL (Zfk n))
def Zct: .y:=Zfk 24
theorem ZhI: ZaZ true Zct Zgg:=ZnF λ_=>rfl
end L
namespace L
def ZbA(m:Mo): T:=.lst [.int m.1,.int m.2.1,Zq m.2.2]
def Fm(K:Hp)(p:Nat×Nat)(m:Mo): Prop:=K[p.1]?=some [.int m.1,.int m.2.1,.ref p.2]/\K[p.2]?=some (m.2.2.map V.int)
section
variable {K:Hp} {p:Nat×Nat} {m:Mo} {P:Nat->Prop}
theorem Fm.rf(h:Fm K p m): RF K (.ref p.1) (ZbA m) [p.1,p.2]:=by
 have:=RFs.cons (RF.int (H:=K) m.1) (RFs.cons (RF.int (H:=K) m.2.1) (RFs.one (Zb4 h.2)))
 exact .ref h.1 (by simpa [Zq]using this)
theorem Zjj(r:RF K v (ZbA m) F): ∃p:Nat×Nat,v=.ref p.1/\Fm K p m/\F=[p.1,p.2]:=by
 unfold ZbA at r
 cases r with
 | @ref a vs ts F e hs=>
  right
  obtain⟨v1,u1,rfl,r1,hs1⟩:=Z0 (P:=λ_=>True) ⟨_,hs,λ_ _=>trivial⟩
  have:=r1.int;subst this
  obtain⟨v2,u2,rfl,r2,hs2⟩:=Z0 hs1
  have:=r2.int;subst this
  obtain⟨v3,u3,rfl,r3,hs3⟩:=Z0 hs2
  have:=ZbP hs3;subst this
  obtain⟨G,r3,_⟩:=r3
  obtain⟨b,rfl,hb⟩:=Zdc r3
  left
  refine⟨(a,b),rfl,⟨e,hb⟩,?_⟩
  have h1:RF K (.ref a) (ZbA m) [a,b]:=Fm.rf (p:=(a,b)) ⟨e,hb⟩
  have h2:RF K (.ref a) (ZbA m) (a::F):=.ref e hs
  exact(h2.det h1).2
theorem Fm.keep(h:Fm K p m)(h1:K'[p.1]?=K[p.1]?)(h2:K'[p.2]?=K[p.2]?): Fm K' p m:=⟨h1.trans h.1,h2.trans h.2⟩
theorem Fm.ext(h:Fm K p m)(X:Hp): Fm (K++X) p m:=h.keep (Yy0 (lt_of_at h.1)) (Yy0 (lt_of_at h.2))
theorem ZpF(h:m.2.2.length<=60): Nice (n+2) (ZbA m):=.lst .s (Z2 (.int _) (Z2 (.int _) (Z2 (.lst (by simp;lia) λt q=>by obtain⟨k,_,rfl⟩:=Zz11.mp q;exact .int _) nl0)))
theorem Zk8(h:Fm K p m)(hl:m.2.2.length<=60): ∃X q,Zct [.ref p.1] K=some (.ref q.1,K++X)/\Fm (K++X) q m/\K.length<=q.1/\K.length<=q.2/\q.1≠q.2:=by
 right
 have hp:0<K.length:=Nat.lt_of_le_of_lt (Nat.zero_le _) (lt_of_at h.1)
 obtain⟨v,X,F,g1,g2,g3,g4⟩:=ZhI K [.ref p.1] [ZbA m] (ZbA m) _ hp (.one h.rf) (Zej ((ZpF (n:=0) hl).mono .d))
 obtain⟨gn,gl⟩:=g4 rfl
 obtain⟨q,rfl,fm,rfl⟩:=Zjj g2
 left
 refine⟨X,q,g1,fm,gl _ .s,gl _ .s,λe=>?_⟩
 rw[e]at gn
 simp at gn
def Zfb(i j:Nat): Ex:=Z3 (ZQ (Zc Zf (Za i) (Zc Zf (Za j) (Zd 0)))) (Zw 100) (Zl (Zc ZA (Zc Zf (Za 100) (Zd 0)) (Zc Zf (Za j) (Zd 1)))) (Za 100)
theorem Zuz(h:Fm K p m): Zf (.ref p.1) (.int 0) K=some (.int m.1,K):=by simp only[Zf,h.1];rfl
theorem ZuA(h:Fm K p m): Zf (.ref p.1) (.int 1) K=some (.int m.2.1,K):=by simp only[Zf,h.1];rfl
theorem Zg5(h:Fm K p m): Zf (.ref p.1) (.int 2) K=some (.ref p.2,K):=by simp only[Zf,h.1];rfl
theorem Zk9{U:Lc}{j d:Nat}{vs:List V}(hj:U j=some (.ref p.1))(hj0:j≠100)(fm:Fm K p m)(hd:K[d]?=some vs): ∀(ts:List T) (i:Nat) (acc:List V),(∀(k:Nat) t,ts[k]?=some t->∃v,vs[i+k]?=some v/\RFo K v t P)->vs.length=i+ts.length->(∀x∈ts,∃a t b,x=rowT a t b)->acc.length+ts.length<ZK->∃us,Zah (ZI d) (Zw 100) (Zl (Zc ZA (Zc Zf (Za 100) (Zd 0)) (Zc Zf (Za j) (Zd 1)))) (Za 100) U (ts.length+1) i acc K=some (acc++us,K)/\∃F,RFs K us (ts.filter (src m.2.1)) F/\∀a∈F,P a
 | [],i,acc,hr,hl,hrow,hc=>by
  have hn:vs[i]?=none:=Yy8 (by simp at hl;lia)
  exact⟨[],by simp[Zah,ZI,hd,hn],[],.nil,λa q=>(List.not_mem_nil q).elim⟩
 | t::ts,i,acc,hr,hl,hrow,hc=>by
  obtain⟨v,v1,v2⟩:=hr 0 t rfl
  rw[Nat.add_zero]at v1
  obtain⟨a,act,b,rfl⟩:=hrow t Zz5
  have v2':=v2
  unfold rowT at v2
  obtain⟨vs3,rfl,d1⟩:=v2.tup
  obtain⟨va,vr,rfl,d2,d1⟩:=Z0 d1
  have:=d2.int;subst this
  have rc:=λacc' (hc':acc'.length+ts.length<ZK)=>Zk9 hj hj0 fm hd ts (i+1) acc' (λk t e=>by
   have:=hr (k+1) t (by simpa using e)
   rw[show i+(k+1)=i+1+k by lia]at this
   exact this) (by rw[hl];simp;lia) (λx q=>hrow x (Zz2 _ q)) hc'
  have hx:ZI d i K=some (some (V.tup (V.int a::vr))):=by simp[ZI,hd,v1]
  have tt:Zl (Zc ZA (Zc Zf (Za 100) (Zd 0)) (Zc Zf (Za j) (Zd 1))) (Zi U 100 (V.tup (V.int a::vr))) K=some (a == m.2.1,K):=by
   simp[Zl,Zc,Za,Zi,Zd,ia0,hj0,hj,ZuA fm,Zab]
  rw[List.length_cons]
  by_cases c:a=m.2.1
  ·have hc0:acc.length<ZK:=by simp at hc;lia
   obtain⟨us,e1,F,e2,e3⟩:=rc (acc++[V.tup (V.int a::vr)]) (by simp at hc ⊢;lia)
   obtain⟨G,g1,g2⟩:=v2'
   refine⟨V.tup (V.int a::vr)::us,?_,G++F,?_,λx q=>(Zz8.mp q).elim (g2 x) (e3 x)⟩
   ·show((ZI d i K).bind _)=_
    rw[hx]
    simp only[Ys0,Zw,tt,show(a == m.2.1)=true by simp[c],if_true,Za,Zi,Ys1,hc0]
    rw[e1]
    simp
   ·rw[Zb9 c]
    exact .cons g1 e2
  ·obtain⟨us,e1,F,e2,e3⟩:=rc acc (by simp at hc;lia)
   refine⟨us,?_,F,?_,e3⟩
   ·show((ZI d i K).bind _)=_
    rw[hx]
    simp only[Ys0,Zw,tt,show(a == m.2.1)=false by simp[c],Bool.false_eq_true,if_false]
    exact e1
   ·rw[ZaW c]
    exact e2
theorem Zmc{rs:List T}(hi:U i=some vw)(hj:U j=some (.ref p.1))(hj0:j≠100)(r:RFo K vw (.lst rs) P)(e1:Zcq rs m.1=some (.lst l))(hrow:∀x∈l,∃a t b,x=rowT a t b)(fm:Fm K p m)(hl:l.length<=9000): ∃us,Zfb i j U K=some (.ref K.length,K++[us])/\∃F,RFs K us (l.filter (src m.2.1)) F/\∀a∈F,P a:=by
 right
 obtain⟨u1,h1,r1⟩:=Zgj r e1
 obtain⟨d,vs,rfl,hd,_,rs'⟩:=r1.lst
 have lvs:vs.length=l.length:=by obtain⟨F,r,_⟩:=rs';exact r.length
 obtain⟨us,g1,g2⟩:=Zk9 (P:=P) (U:=U) hj hj0 fm hd l 0 [] (λk t e=>by rw[Nat.zero_add];exact Zcz rs' e) .l hrow (by rw[ZD];simp;lia)
 left
 refine⟨us,?_,g2⟩
 have ev:ZQ (Zc Zf (Za i) (Zc Zf (Za j) (Zd 0))) U K=some (ZI d,vs.length+1,K):=by
  simp[ZQ,Zc,Za,hi,hj,Zd,Zuz fm,h1,hd]
 unfold Zfb Z3
 rw[ev,lvs]
 simp only[Ys0]
 rw[g1]
 simp
end
end L
namespace L
theorem seq_ret{a b:Sm}(h:a U H=some (some v,B,H1)): Zh a b U H=some (some v,B,H1):=by simp[Zh,h]
def goL(bs:List Int)(pick:Int): List T->Option (Int×List Int)
 | []=>none
 | t::ts=>(Zdh t).bind λaq=>match Zbu [Zq bs,aq.1,.int pick]with
  | some .none=>goL bs pick ts
  | some u=>(Zcr u).map λl=>(aq.2,l)
  | none=>none
section
variable {K:Hp} {p:Nat×Nat} {m:Mo} {P:Nat->Prop}
def Zdd: Sm:=Zh (Zk 4 (Zg Zdq (Zb (Zc Zf (Za 0) (Zd 2)) (Zb (Zc Zf (Za 3) (Zd 1)) (Zb (Za 2) Ze))))) (Zu (Zl (Zc ZaA (Za 4) (Z9))) (Zh (ZaE (Zc Zf (Za 3) (Zd 2)) (Za 0) (Zd 1)) (Zh (ZaE (Za 4) (Za 0) (Zd 2)) (Zo (ZaT true)))) ZG)
theorem Zmd{c:Nat}{pick q:Int}{vs:List V}{bs':List Int}(fm:Fm K p m)(p0:p.1≠0)(hc:K[c]?=some vs): ∀(ts:List T) (i:Nat) (U:Lc) (X:Hp),(∀(k:Nat) t,ts[k]?=some t->∃v,vs[i+k]?=some v/\RFo K v t P)->vs.length=i+ts.length->U 0=some (.ref p.1)->U 2=some (.int pick)->goL m.2.2 pick ts=some (q,bs')->∃O Y b,Za6 (ZI c) (Zw 3) Zdd (ts.length+1) i U (K++X)=some (some (.bool true),O,(K++Y).set p.1 [.int m.1,.int q,.ref b])/\(K++Y)[b]?=some (bs'.map V.int)/\K.length<=b
 | [],i,U,X,hr,hl,h0,h2,e=>by cases e
 | t::ts,i,U,X,hr,hl,h0,h2,e=>by
  obtain⟨⟨act,q0⟩,e0,e9⟩:=Zz0.mp e
  clear e
  obtain⟨th,rfl⟩:=Zkm e0
  have e:=e9
  clear e9
  dsimp only at e
  obtain⟨v,v1,v2⟩:=hr 0 _ rfl
  rw[Nat.add_zero]at v1
  obtain⟨vs3,rfl,d1⟩:=v2.tup
  obtain⟨vh,_,rfl,_,d1⟩:=Z0 d1
  obtain⟨va,_,rfl,d2,d1⟩:=Z0 d1
  obtain⟨vq,_,rfl,d3,d1⟩:=Z0 d1
  have:=ZbP d1;subst this
  have:=d3.int;subst this
  have kx:∀a,a<K.length->(K++X)[a]?=K[a]?:=λa l=>Yy0 l
  have fmX:=fm.ext X
  have hcX:(K++X)[c]?=some vs:=(kx c (lt_of_at hc)).trans hc
  obtain⟨Fa,ra,_⟩:=d2.keep (K':=K++X) λa _ l=>kx a l
  have hx:ZI c i (K++X)=some (some (V.tup [vh,va,V.int q0])):=by simp[ZI,hcX,v1]
  have hp:0<(K++X).length:=Nat.lt_of_le_of_lt (Nat.zero_le _) (lt_of_at fmX.1)
  cases eg:Zbu [Zq m.2.2,act,.int pick]with
  | none=>rw[eg]at e;cases e
  | some u=>
   rw[eg]at e
   obtain⟨w,Z,F,g1,g2,g3,g4⟩:=Zqv (K++X) [.ref p.2,va,.int pick] [Zq m.2.2,act,.int pick] u _ hp (.cons (Zb4 fmX.2) (.cons ra (.one (.int pick)))) eg
   have st4:Zk 4 (Zg Zdq (Zb (Zc Zf (Za 0) (Zd 2)) (Zb (Zc Zf (Za 3) (Zd 1)) (Zb (Za 2) Ze)))) (Zi U 3 (V.tup [vh,va,V.int q0])) (K++X)=some (none,Zi (Zi U 3 (V.tup [vh,va,V.int q0])) 4 w,K++X++Z):=by
    simp[Zk,Zg,Zb,Ze,Zc,Za,Zi,h0,h2,Zd,Zg5 fmX,i31,g1]
   rw[List.length_cons]
   have go:∀l,Zcr u=some l->u≠.none->some (q0,l)=some (q,bs')->∃O Y b,Za6 (ZI c) (Zw 3) Zdd (ts.length+1+1) i U (K++X)=some (some (.bool true),O,(K++Y).set p.1 [.int m.1,.int q,.ref b])/\(K++Y)[b]?=some (bs'.map V.int)/\K.length<=b:=λl hl2 hne e9=>by
    have h1:q0=q:=congrArg Prod.fst (Option.some.inj e9)
    have h2:l=bs':=congrArg Prod.snd (Option.some.inj e9)
    rw[<-h1,<-h2]
    have:=ZpC hl2;subst this
    obtain⟨b,rfl,hb⟩:=Zdc g2
    have hb2:(K++X).length<=b:=by
     have:=(g4 rfl).2 b (by obtain⟨_,e⟩:=g2.det (Zb4 hb);rw[e];simp)
     exact this
    have lp:p.1<(K++X++Z).length:=by have:=lt_of_at fm.1;simp;lia
    have f1:(K++X++Z)[p.1]?=some [.int m.1,.int m.2.1,.ref p.2]:=(fmX.ext Z).1
    refine⟨Zi (Zi U 3 (V.tup [vh,va,V.int q0])) 4 (.ref b),X++Z,b,?_,by rw[<-List.append_assoc];exact hb,by rw[List.length_append]at hb2;lia⟩
    show((ZI c i (K++X)).bind _)=_
    rw[hx]
    simp only[Ys0,Zw]
    have bd:Zdd (Zi U 3 (V.tup [vh,va,V.int q0])) (K++X)=some (some (.bool true),Zi (Zi U 3 (V.tup [vh,va,V.int q0])) 4 (.ref b),(K++(X++Z)).set p.1 [.int m.1,.int q0,.ref b]):=by
     unfold Zdd
     rw[Zaa st4,<-List.append_assoc]
     generalize K++X++Z=KZ at *
     have o1:Zbp (.ref p.1) (.int 1) (.int q0) KZ=some (KZ.set p.1 [.int m.1,.int q0,.ref p.2]):=by
      simp only[Zbp,f1,Ys0]
      rw[if_pos ⟨p0,.d,.s⟩]
      rfl
     have f2:(KZ.set p.1 [.int m.1,.int q0,.ref p.2])[p.1]?=some [.int m.1,.int q0,.ref p.2]:=Yy6 lp
     have o2:Zbp (.ref p.1) (.int 2) (.ref b) (KZ.set p.1 [.int m.1,.int q0,.ref p.2])=some (KZ.set p.1 [.int m.1,.int q0,.ref b]):=by
      simp only[Zbp,f2,Ys0]
      rw[if_pos ⟨p0,.d,.s⟩,List.set_set]
      rfl
     rw[Zfa (H1:=KZ) (by simp[Zl,Zc,Za,Zi,Z9,Zab])]
     rw[Zaa (B:=Zi (Zi U 3 (V.tup [vh,va,V.int q0])) 4 (.ref b)) (H1:=KZ.set p.1 [.int m.1,.int q0,.ref p.2]) (by simp[ZaE,Zc,Za,Zi,Zd,i32,h0,o1])]
     rw[Zaa (B:=Zi (Zi U 3 (V.tup [vh,va,V.int q0])) 4 (.ref b)) (H1:=KZ.set p.1 [.int m.1,.int q0,.ref b]) (by simp[ZaE,Za,Zi,Zd,h0,o2])]
     simp[Zo,ZaT]
    rw[bd]
    rfl
   cases u with
   | none=>
    cases g2
    obtain⟨O,Y,b,c1,c2⟩:=Zmd fm p0 hc ts (i+1) (Zi (Zi U 3 (V.tup [vh,va,V.int q0])) 4 .none) (X++Z) (λk t e=>by
     have:=hr (k+1) t (by simpa using e)
     rw[show i+(k+1)=i+1+k by lia]at this
     exact this) (by rw[hl];simp;lia) (by simp[Zi,h0]) (by simp[Zi,h2]) e
    refine⟨O,Y,b,?_,c2⟩
    show((ZI c i (K++X)).bind _)=_
    rw[hx]
    simp only[Ys0,Zw]
    have bd:Zdd (Zi U 3 (V.tup [vh,va,V.int q0])) (K++X)=some (none,Zi (Zi U 3 (V.tup [vh,va,V.int q0])) 4 .none,K++(X++Z)):=by
     unfold Zdd
     rw[Zaa st4]
     rw[Zc1 (H1:=K++X++Z) (by simp[Zl,Zc,Za,Zi,Z9,Zab])]
     simp[ZG,List.append_assoc]
    rw[bd]
    exact c1
   | lst ts'=>
    obtain⟨l,e1,e2⟩:=Zz1.mp e
    exact go l e1 .s (by rw[<-e2])
   | bool _=>obtain⟨l,e1,_⟩:=Zz1.mp e;cases e1
   | int _=>obtain⟨l,e1,_⟩:=Zz1.mp e;cases e1
   | str _=>obtain⟨l,e1,_⟩:=Zz1.mp e;cases e1
   | tup _=>obtain⟨l,e1,_⟩:=Zz1.mp e;cases e1
   | ob _ _=>obtain⟨l,e1,_⟩:=Zz1.mp e;cases e1
theorem ZtH{c:Nat}{pick:Int}(fm:Fm K p m)(p0:p.1≠0)(hc:K[c]?=some vs)(r:∃F,RFs K vs l F/\∀a∈F,P a)(e:goL m.2.2 pick l=some (q,bs')): ∃Y b,Zc5 [.ref p.1,.ref c,.int pick] K=some (.bool true,(K++Y).set p.1 [.int m.1,.int q,.ref b])/\(K++Y)[b]?=some (bs'.map V.int)/\K.length<=b:=by
 have lvs:vs.length=l.length:=by obtain⟨F,r,_⟩:=r;exact r.length
 obtain⟨O,Y,b,g1,g2⟩:=Zmd (P:=P) (pick:=pick) fm p0 hc l 0 (λi=>[V.ref p.1,.ref c,.int pick][i]?) [] (λk t e=>by rw[Nat.zero_add];exact Zcz r e) .l rfl rfl e
 refine⟨Y,b,?_,g2⟩
 rw[List.append_nil]at g1
 have ev:ZQ (Za 1) (λi=>[V.ref p.1,.ref c,.int pick][i]?) K=some (ZI c,vs.length+1,K):=by simp[ZQ,Za,hc]
 have hx:Zac (ZQ (Za 1)) (Zw 3) Zdd (λi=>[V.ref p.1,.ref c,.int pick][i]?) K=some (some (.bool true),O,(K++Y).set p.1 [.int m.1,.int q,.ref b]):=by
  unfold Zac
  rw[ev,lvs]
  exact g1
 unfold Zdd at hx
 unfold Zc5 ZhV Zs
 simp only[List.length_cons,List.length_nil,if_true]
 rw[seq_ret hx]
 rfl
theorem ZqH{rs:List T}{X:Nat}{ans:Int}(fm:Fm K p m)(p0:p.1≠0)(p1:p.2≠0)(pp:p.1≠p.2)(r:RFo K vw (.lst rs) P)(e1:Zcq rs m.1=some (.lst l))(hrow:∀x∈l,∃a t b,x=rowT a t b)(hl:l.length<=9000)(hf:l.filter (src m.2.1)=[rowT m.2.1 (callT X g sums) q])(hX:X<m.2.2.length): ∃us,Zei [vw,.ref p.1,.int ans] K=some (.none,((K++[us]).set p.2 ((m.2.2.set X ans).map V.int)).set p.1 [.int m.1,.int q,.ref p.2]):=by
 obtain⟨us,g1,F,g2,g3⟩:=Zmc (U:=λi=>[vw,V.ref p.1,.int ans][i]?) (i:=0) (j:=1) rfl rfl .d r e1 hrow fm hl
 rw[hf]at g2
 refine⟨us,?_⟩
 obtain⟨v,_,rfl,d0,d1⟩:=Z0 (P:=P) ⟨_,g2,g3⟩
 have:=ZbP d1;subst this
 unfold rowT callT at d0
 obtain⟨vs3,rfl,d1⟩:=d0.tup
 obtain⟨vh,_,rfl,_,d1⟩:=Z0 d1
 obtain⟨va,_,rfl,d2,d1⟩:=Z0 d1
 obtain⟨vq,_,rfl,d3,d1⟩:=Z0 d1
 have:=ZbP d1;subst this
 have:=d3.int;subst this
 obtain⟨vas,rfl,d4⟩:=d2.tup
 obtain⟨w0,_,rfl,_,d4⟩:=Z0 d4
 obtain⟨w1,wr,rfl,d5,d4⟩:=Z0 d4
 have:=d5.int;subst this
 have fm1:=fm.ext [[V.tup [vh,V.tup (w0::V.int ((X:Int)+1)::wr),V.int q]]]
 generalize hK1:K++[[V.tup [vh,V.tup (w0::V.int ((X:Int)+1)::wr),V.int q]]]=K1 at *
 have hz:K1[K.length]?=some [V.tup [vh,V.tup (w0::V.int ((X:Int)+1)::wr),V.int q]]:=by rw[<-hK1];simp
 have l1:=lt_of_at fm1.1
 have l2:=lt_of_at fm1.2
 unfold Zei Zic Zs
 simp only[List.length_cons,List.length_nil,if_true]
 have s3:Zk 3 (Zc Zf (Zfb 0 1) (Zd 0)) (λi=>[vw,V.ref p.1,.int ans][i]?) K=some (none,Zi (λi=>[vw,V.ref p.1,.int ans][i]?) 3 (V.tup [vh,V.tup (w0::V.int ((X:Int)+1)::wr),V.int q]),K1):=by
  have i0:Zf (.ref K.length) (.int 0) K1=some (V.tup [vh,V.tup (w0::V.int ((X:Int)+1)::wr),V.int q],K1):=by simp only[Zf,hz];rfl
  simp only[Zk,Zc,g1,Ys0,Zd,i0,Ys1]
 unfold Zfb at s3
 rw[Zaa s3]
 have a1:∀(x y:V) (ys:List V) H,Zf (.tup (x::y::ys)) (.int 1) H=some (y,H):=λx y ys H=>by
  have:seqIndex? 1 (ys.length+1+1)=some 1:=by unfold seqIndex?;simp;lia
  simp[Zf,this]
 have o1:Zbp (.ref p.2) (.int ((X:Int)+1-1)) (.int ans) K1=some (K1.set p.2 ((m.2.2.set X ans).map V.int)):=by
  simp only[Zbp,fm1.2,Ys0]
  rw[if_pos ⟨p1,.l,by simp;omega⟩,show((X:Int)+1-1).toNat=X by omega,List.map_set]
 rw[Zaa (B:=Zi (λi=>[vw,V.ref p.1,.int ans][i]?) 3 (V.tup [vh,V.tup (w0::V.int ((X:Int)+1)::wr),V.int q])) (H1:=K1.set p.2 ((m.2.2.set X ans).map V.int)) (by
  simp only[ZaE,Zc,Za,Zi,Zd,Ys1,Ys0,List.getElem?_cons_zero,List.getElem?_cons_succ,if_true,if_false,show(1=3)=False from by simp,show(2=3)=False from by simp,Zg5 fm1,i31,a1,Znc,o1])]
 have f2:(K1.set p.2 ((m.2.2.set X ans).map V.int))[p.1]?=some [.int m.1,.int m.2.1,.ref p.2]:=by
  rw[Yy2 (Ne.symm pp)];exact fm1.1
 have o2:Zbp (.ref p.1) (.int 1) (.int q) (K1.set p.2 ((m.2.2.set X ans).map V.int))=some ((K1.set p.2 ((m.2.2.set X ans).map V.int)).set p.1 [.int m.1,.int q,.ref p.2]):=by
  simp only[Zbp,f2,Ys0]
  rw[if_pos ⟨p0,.d,.s⟩]
  rfl
 rw[List.map_set]at o2
 simp[ZaE,Zc,Za,Zi,Zd,i32,o2]
end
end L
namespace L
theorem ZqI{body:List T}{p:Nat}(e:fns[g]?=some (.tup [.int p,.int m,.lst body]))(hg:gv.length=p)(hm:m<=60)(hp:p<=m): Zh3 [.lst fns,.int g,Zq gv]=some (ZbA ((g:Int),0,gv++List.replicate (m-p) 0)):=by
 subst hg
 rw[ZrZ e hp hm]
 rfl
section
variable {K:Hp} {p:Nat×Nat} {m:Mo} {P:Nat->Prop}
theorem Zkp{body:List T}{pr mm z:Nat}(rp:RFo K vp (.lst fns) P)(hz:K[z]?=some (gv.map V.int))(e:fns[g]?=some (.tup [.int pr,.int mm,.lst body]))(hg:gv.length=pr)(hm:mm<=60)(hp:pr<=mm): ∃X q,Zcu [vp,.int g,.ref z] K=some (.ref q.1,K++X)/\Fm (K++X) q ((g:Int),0,gv++List.replicate (mm-pr) 0)/\K.length<=q.1/\K.length<=q.2/\q.1≠q.2:=by
 right
 have h0:0<K.length:=Nat.lt_of_le_of_lt (Nat.zero_le _) (lt_of_at hz)
 obtain⟨Fp,rp,_⟩:=rp
 obtain⟨v,X,F,g1,g2,g3,g4⟩:=Zov K [vp,.int g,.ref z] [.lst fns,.int g,Zq gv] _ _ h0 (.cons rp (.cons (.int _) (.one (Zb4 hz)))) (ZqI e hg hm hp)
 obtain⟨gn,gl⟩:=g4 rfl
 obtain⟨q,rfl,fm,rfl⟩:=Zjj g2
 left
 refine⟨X,q,g1,fm,gl _ .s,gl _ .s,λe=>?_⟩
 rw[e]at gn
 simp at gn
def wlE: Ex:=Zg Zcc (Zb (Za 102) (Zb (Zc Zf (Za 8) (Zd 2)) Ze))
theorem Zme{U:Lc}{d:Nat}{vs:List V}(h8:U 8=some (.ref p.1))(fm:Fm K p m)(hn:m.2.2.length<=60)(hd:K[d]?=some vs): ∀(ts:List T) (i:Nat) (acc gv:List Int) (X:Hp),(∀(j:Nat) t,ts[j]?=some t->∃v,vs[i+j]?=some v/\RFo K v t P)->vs.length=i+ts.length->Zcy m.2.2 ts=some gv->(∀t∈ts,∃c,t=Za0 m.2.2.length c/\Sh m.2.2.length c)->acc.length+ts.length<ZK->∃Y,Zah (ZI d) (Zw 102) ZJ wlE U (ts.length+1) i (acc.map V.int) (K++X)=some ((acc++gv).map V.int,K++Y)
 | [],i,acc,gv,X,hr,hl,e,hs,hc=>by
  cases e
  have hn:vs[i]?=none:=Yy8 (by simp at hl;lia)
  refine⟨X,?_⟩
  have hd':(K++X)[d]?=some vs:=by rw[Yy0 (lt_of_at hd)];exact hd
  simp[Zah,ZI,hd',hn]
 | one::ts,i,acc,gv,X,hr,hl,e,hs,hc=>by
  obtain⟨k,e1,e⟩:=Zz0.mp e
  obtain⟨gv',e2,e3⟩:=Zz1.mp e
  subst e3
  obtain⟨c,hone,hsh⟩:=hs one Zz5
  subst hone
  rw[ZiY hn hsh]at e1
  have ek:ZcH c m.2.2=k:=by simpa [unI]using e1
  subst ek
  obtain⟨v,v1,F1,v2,v3⟩:=hr 0 _ rfl
  rw[Nat.add_zero]at v1
  have fmX:=fm.ext X
  have hd':(K++X)[d]?=some vs:=by rw[Yy0 (lt_of_at hd)];exact hd
  have hp:0<(K++X).length:=Nat.lt_of_le_of_lt (Nat.zero_le _) (lt_of_at fmX.1)
  obtain⟨u,Z,F,g1,g2,_⟩:=Zou (K++X) [v,.ref p.2] [Za0 m.2.2.length c,Zq m.2.2] (.int (ZcH c m.2.2)) _ hp (.cons (v2.ext X) (.one (Zb4 fmX.2))) (ZiY hn hsh)
  cases g2
  obtain⟨Y,y1⟩:=Zme h8 fm hn hd ts (i+1) (acc++[ZcH c m.2.2]) gv' (X++Z) (λj t e=>by
   have:=hr (j+1) t (by simpa using e)
   rw[show i+(j+1)=i+1+j by lia]at this
   exact this) (by rw[hl];simp;lia) e2 (λt q=>hs t (Zz2 _ q)) (by simp at hc ⊢;lia)
  refine⟨Y,?_⟩
  have g3:wlE (Zi U 102 v) (K++X)=some (.int (ZcH c m.2.2),K++(X++Z)):=by
   rw[List.append_assoc]at g1
   simp[wlE,Zg,Zb,Ze,Za,Zi,h8,Zc,Zd,Zg5 fmX]
   exact g1
  have hc':acc.length<ZK:=by simp at hc;lia
  rw[List.length_cons]
  have y1':Zah (ZI d) (Zw 102) ZJ wlE U (ts.length+1) (i+1) (acc.map V.int++[V.int (ZcH c m.2.2)]) (K++(X++Z))=some ((acc++ZcH c m.2.2::gv').map V.int,K++Y):=by
   have:(acc++[ZcH c m.2.2]).map V.int=acc.map V.int++[V.int (ZcH c m.2.2)]:=by simp
   rw[<-this,y1]
   simp
  show((ZI d i (K++X)).bind _)=_
  have hx:ZI d i (K++X)=some (some v):=by simp[ZI,hd',v1]
  rw[hx]
  simp only[Ys0,Zw,ZJ,if_true,g3,List.length_map,hc']
  exact y1'
theorem ZqJ(ks:List Int)(n:Nat): ∃l:List Int,Zbi (ks.map V.int) (some (n:Int)) (some ((n:Int)+1))=l.map V.int/\l.sum=ks.getD n 0:=by
 have e:Zbi (ks.map V.int) (some (n:Int)) (some ((n:Int)+1))=_:=Zf5 (ks.map V.int) (some (n:Int)) (some ((n+1:Nat):Int)) Zna Znb (Nat.min_le_right _ _)
 rw[e,List.length_map]
 by_cases c:n<ks.length
 ·refine⟨[ks.getD n 0],?_,.s⟩
  rw[Nat.min_eq_left (Nat.le_of_lt c),Nat.min_eq_left (show n+1<=ks.length from c),Nat.add_sub_cancel_left,List.drop_eq_getElem_cons (by simpa using c)]
  simp[Yy1 c]
 ·have c:=Nat.le_of_not_lt c
  refine⟨[],?_,by rw[List.getD_eq_getElem?_getD,Yy8 c];rfl⟩
  rw[Nat.min_eq_right c,Nat.min_eq_right (Nat.le_succ_of_le c),Nat.sub_self]
  rfl
end
end L
namespace L
inductive Fms(K:Hp): List (Nat×Nat)->List Mo->Prop where
 | nil:Fms K [] []
 | snoc {ps:List (Nat×Nat)} {ms:List Mo} {p:Nat×Nat} {m:Mo}:Fms K ps ms->Fm K p m->Fms K (ps++[p]) (ms++[m])
def adr(ps:List (Nat×Nat)): List Nat:=ps.flatMap λp=>[p.1,p.2]
theorem Zbb(ps:List (Nat×Nat))(p:Nat×Nat): adr (ps++[p])=adr ps++[p.1,p.2]:=by simp[adr]
section
variable {K K':Hp} {ps qs:List (Nat×Nat)} {ms hist:List Mo} {p:Nat×Nat} {m:Mo}
theorem Fms.keep(h:Fms K ps ms)(k:∀a∈adr ps,K'[a]?=K[a]?): Fms K' ps ms:=by
 induction h with
 | nil=>exact .nil
 | snoc _ b ih=>
  rw[Zbb]at k
  exact .snoc (ih λa q=>k a (Zz4 _ q)) (b.keep (k _ .s) (k _ .s))
theorem Fms.length(h:Fms K ps ms): ps.length=ms.length:=by
 induction h with
 | nil=>rfl
 | snoc _ _ ih=>simp[ih]
theorem Fms.lt(h:Fms K ps ms): ∀a∈adr ps,a<K.length:=by
 induction h with
 | nil=>intro a q;simp[adr]at q
 | snoc _ b ih=>
  intro a q
  rw[Zbb]at q
  rcases Zz8.mp q with q | q
  ·exact ih a q
  ·simp at q
   rcases q with rfl | rfl
   ·exact lt_of_at b.1
   ·exact lt_of_at b.2
theorem Fms.last(h:Fms K ps (ms++[m])): ∃ps0 p,ps=ps0++[p]/\Fms K ps0 ms/\Fm K p m:=by
 generalize e:ms++[m]=l at h
 cases h with
 | nil=>simp at e
 | snoc a b=>
  obtain⟨h1,h2⟩:=List.append_inj' e rfl
  cases h2
  subst h1
  exact⟨_,_,rfl,a,b⟩
theorem Fms.rfs(h:Fms K ps ms): RFs K (ps.map λp=>V.ref p.1) (ms.map ZbA) (adr ps):=by
 induction h with
 | nil=>exact .nil
 | snoc _ b ih=>
  rw[List.map_append,List.map_append,Zbb]
  exact ih.append (RFs.one b.rf)
end
structure Gm(K:Hp)(fr mk L0:Nat)(ps:List (Nat×Nat))(ms:List Mo)(qs:List (Nat×Nat))(hist:List Mo): Prop where
 hf:K[fr]?=some (ps.map λp=>V.ref p.1)
 fm:Fms K ps ms
 hm:K[mk]?=some (qs.map λp=>V.ref p.1)
 hs:Fms K qs hist
 nd:(fr::mk::(adr ps++adr qs)).Nodup
 lo:∀a∈fr::mk::(adr ps++adr qs),L0<=a
 l0:0<L0
section
variable {K K':Hp} {fr mk L0:Nat} {ps qs:List (Nat×Nat)} {ms hist:List Mo} {p p':Nat×Nat} {m m':Mo}
theorem Gm.lt(G:Gm K fr mk L0 ps ms qs hist): ∀a∈fr::mk::(adr ps++adr qs),a<K.length:=λa q=>by
 simp only[List.mem_cons,List.mem_append]at q
 rcases q with rfl | rfl | q | q
 ·exact lt_of_at G.hf
 ·exact lt_of_at G.hm
 ·exact G.fm.lt a q
 ·exact G.hs.lt a q
theorem Gm.same(G:Gm K fr mk L0 ps ms qs hist)(k:∀a∈fr::mk::(adr ps++adr qs),K'[a]?=K[a]?): Gm K' fr mk L0 ps ms qs hist:=
 ⟨(k fr .s).trans G.hf,G.fm.keep λa q=>k a (by simp[q]),(k mk .s).trans G.hm,G.hs.keep λa q=>k a (by simp[q]),G.nd,G.lo,G.l0⟩
theorem Gm.ext(G:Gm K fr mk L0 ps ms qs hist)(X:Hp): Gm (K++X) fr mk L0 ps ms qs hist:=G.same λa q=>Yy0 (G.lt a q)
theorem Gm.turn(G:Gm K fr mk L0 (ps++[p]) (ms++[m]) qs hist)(k:∀a,a<K.length->a≠p.1->a≠p.2->K'[a]?=K[a]?)(h1:p'.1=p.1)(h2:p'.2=p.2∨K.length<=p'.2)(fm':Fm K' p' m'): Gm K' fr mk L0 (ps++[p']) (ms++[m']) qs hist:=by
 right
 obtain⟨hf,fm,hm,hs,nd,lo,l0⟩:=G
 have lt:=Gm.lt ⟨hf,fm,hm,hs,nd,lo,l0⟩
 rw[Zbb]at nd lo lt
 have ndf:=nd
 simp only[List.nodup_cons,List.mem_cons,List.mem_append,List.nodup_append,not_or,List.not_mem_nil,or_false]at ndf
 obtain⟨⟨f1,⟨f2,f3,f4⟩,f5⟩,⟨⟨m1,m2,m3⟩,m4⟩,⟨n1,n2,n3⟩,n4,n5⟩:=ndf
 have kk:∀a,a∈fr::mk::(adr ps++adr qs)->K'[a]?=K[a]?:=λa q=>by
  simp only[List.mem_cons,List.mem_append]at q
  refine k a (lt a (by simp only[List.mem_cons,List.mem_append];rcases q with q | q | q | q <;> simp[q])) ?_ ?_
  ·rintro rfl
   rcases q with q | q | q | q
   ·exact f3 q.symm
   ·exact m2 q.symm
   ·exact n3 _ q _ (.inl rfl) rfl
   ·exact n5 _ (.inr (.inl rfl)) _ q rfl
  ·rintro rfl
   rcases q with q | q | q | q
   ·exact f4 q.symm
   ·exact m3 q.symm
   ·exact n3 _ q _ (.inr rfl) rfl
   ·exact n5 _ (.inr (.inr rfl)) _ q rfl
 obtain⟨ps0,pz,e,fm0,_⟩:=fm.last
 obtain⟨e1,e2⟩:=List.append_inj' e rfl
 left
 cases e1
 cases e2
 have pa:∀a∈fr::mk::(adr ps++adr qs),a≠p'.1/\a≠p'.2:=λa q=>by
  have la:a<K.length:=lt a (by simp only[List.mem_cons,List.mem_append]at q ⊢;rcases q with q | q | q | q <;> simp[q])
  simp only[List.mem_cons,List.mem_append]at q
  rw[h1]
  refine⟨?_,?_⟩
  ·rintro rfl
   rcases q with q | q | q | q
   ·exact f3 q.symm
   ·exact m2 q.symm
   ·exact n3 _ q _ (.inl rfl) rfl
   ·exact n5 _ (.inr (.inl rfl)) _ q rfl
  ·rcases h2 with h2 | h2
   ·rw[h2]
    rintro rfl
    rcases q with q | q | q | q
    ·exact f4 q.symm
    ·exact m3 q.symm
    ·exact n3 _ q _ (.inr rfl) rfl
    ·exact n5 _ (.inr (.inr rfl)) _ q rfl
   ·lia
 have ppne:p'.1≠p'.2:=by
  rw[h1]
  rcases h2 with h2 | h2
  ·rw[h2];exact n2.1
  ·have:=lt p.1 .s;lia
 refine⟨(kk fr .s).trans (by simpa [h1]using hf),.snoc (fm0.keep λa q=>kk a (by simp[q])) fm',(kk mk .s).trans hm,hs.keep λa q=>kk a (by simp[q]),?_,?_,l0⟩
 ·rw[Zbb]
  simp only[List.nodup_cons,List.mem_cons,List.mem_append,List.nodup_append,not_or,List.not_mem_nil,or_false]
  have q1:=pa fr .s
  have q2:=pa mk .s
  refine⟨⟨f1,⟨f2,q1.1,q1.2⟩,f5⟩,⟨⟨m1,q2.1,q2.2⟩,m4⟩,⟨n1,⟨ppne,not_false,List.nodup_nil⟩,λa ha b hb=>?_⟩,n4,λa ha b hb=>?_⟩
  ·rcases hb with rfl | rfl
   ·exact(pa a (by simp[ha])).1
   ·exact(pa a (by simp[ha])).2
  ·rcases ha with ha | rfl | rfl
   ·exact n5 a (.inl ha) b hb
   ·exact λq=>(pa b (by simp[hb])).1 q.symm
   ·exact λq=>(pa b (by simp[hb])).2 q.symm
 ·intro a q
  rw[Zbb]at q
  simp only[List.mem_cons,List.mem_append,List.not_mem_nil,or_false]at q
  have lK:L0<=K.length:=by have:=lo fr .s;have:=lt fr .s;lia
  rcases q with q | q | (q | q | q) | q
  ·exact lo a (by simp[q])
  ·exact lo a (by simp[q])
  ·exact lo a (by simp[q])
  ·rw[q,h1];exact lo _ .s
  ·rcases h2 with h2 | h2
   ·rw[q,h2];exact lo _ .s
   ·lia
  ·exact lo a (by simp[q])
theorem Gm.pop(G:Gm K fr mk L0 (ps++[p]) (ms++[m]) qs hist): Gm (K.set fr (ps.map λp=>V.ref p.1)) fr mk L0 ps ms qs hist:=by
 right
 obtain⟨hf,fm,hm,hs,nd,lo,l0⟩:=G
 have lf:=lt_of_at hf
 rw[Zbb]at nd lo
 simp only[List.nodup_cons,List.mem_cons,List.mem_append,List.nodup_append,not_or,List.not_mem_nil,or_false]at nd
 obtain⟨⟨f1,⟨f2,f3,f4⟩,f5⟩,⟨⟨m1,m2,m3⟩,m4⟩,⟨n1,n2,n3⟩,n4,n5⟩:=nd
 obtain⟨ps0,pz,e,fm0,_⟩:=fm.last
 obtain⟨e1,e2⟩:=List.append_inj' e rfl
 left
 cases e1
 have kk:∀a,a≠fr->(K.set fr (ps.map λp=>V.ref p.1))[a]?=K[a]?:=λa h=>Yy2 (Ne.symm h)
 refine⟨Yy6 lf,fm0.keep λa q=>kk a (λh=>f2 (h▸q)),(kk mk (Ne.symm f1)).trans hm,hs.keep λa q=>kk a (λh=>f5 (h▸q)),?_,λa q=>lo a ?_,l0⟩
 ·simp only[List.nodup_cons,List.mem_cons,List.mem_append,List.nodup_append,not_or]
  exact⟨⟨f1,f2,f5⟩,⟨m1,m4⟩,n1,n4,λa ha b hb=>n5 a (.inl ha) b hb⟩
 ·simp only[List.mem_cons,List.mem_append]at q ⊢
  rcases q with q | q | q | q <;> simp[q]
theorem Gm.push(G:Gm K fr mk L0 ps ms qs hist)(X:Hp)(h1:K.length<=p.1)(h2:K.length<=p.2)(h3:p.1≠p.2)(fm':Fm (K++X) p m): Gm ((K++X).set fr ((ps++[p]).map λp=>V.ref p.1)) fr mk L0 (ps++[p]) (ms++[m]) qs hist:=by
 have lt:=G.lt
 have GX:=G.ext X
 obtain⟨hf,fm,hm,hs,nd,lo,l0⟩:=GX
 have lf:=lt_of_at hf
 have nd0:=nd
 simp only[List.nodup_cons,List.mem_cons,List.mem_append,List.nodup_append,not_or]at nd
 obtain⟨⟨f1,f2,f5⟩,⟨m1,m4⟩,n1,n4,n5⟩:=nd
 have lfr:=lt fr .s
 have lmk:=lt mk .s
 have kk:∀a,a≠fr->((K++X).set fr ((ps++[p]).map λp=>V.ref p.1))[a]?=(K++X)[a]?:=λa h=>Yy2 (Ne.symm h)
 refine⟨Yy6 lf,.snoc (fm.keep λa q=>kk a (λh=>f2 (h▸q))) (fm'.keep (kk _ .l) (kk _ .l)),(kk mk (Ne.symm f1)).trans hm,hs.keep λa q=>kk a (λh=>f5 (h▸q)),?_,λa q=>?_,l0⟩
 ·rw[Zbb]
  have far:∀a∈fr::mk::(adr ps++adr qs),a≠p.1/\a≠p.2:=λa q=>by have:=lt a q;lia
  simp only[List.nodup_cons,List.mem_cons,List.mem_append,List.nodup_append,not_or,List.not_mem_nil,or_false]
  have q1:=far fr .s
  have q2:=far mk .s
  refine⟨⟨f1,⟨f2,q1.1,q1.2⟩,f5⟩,⟨⟨m1,q2.1,q2.2⟩,m4⟩,⟨n1,⟨h3,not_false,List.nodup_nil⟩,λa ha b hb=>?_⟩,n4,λa ha b hb=>?_⟩
  ·rcases hb with rfl | rfl
   ·exact(far a (by simp[ha])).1
   ·exact(far a (by simp[ha])).2
  ·rcases ha with ha | rfl | rfl
   ·exact n5 a ha b hb
   ·exact λq=>(far b (by simp[hb])).1 q.symm
   ·exact λq=>(far b (by simp[hb])).2 q.symm
 ·rw[Zbb]at q
  have lK:L0<=K.length:=by have:=lo fr .s;lia
  simp only[List.mem_cons,List.mem_append,List.not_mem_nil,or_false]at q
  rcases q with q | q | (q | q | q) | q
  ·exact lo a (by simp[q])
  ·exact lo a (by simp[q])
  ·exact lo a (by simp[q])
  ·lia
  ·lia
  ·exact lo a (by simp[q])
theorem Gm.mark(G:Gm K fr mk L0 ps ms qs hist)(X:Hp)(h1:K.length<=p.1)(h2:K.length<=p.2)(h3:p.1≠p.2)(fm':Fm (K++X) p m): Gm ((K++X).set mk ((qs++[p]).map λp=>V.ref p.1)) fr mk L0 ps ms (qs++[p]) (hist++[m]):=by
 have lt:=G.lt
 have GX:=G.ext X
 obtain⟨hf,fm,hm,hs,nd,lo,l0⟩:=GX
 have lf:=lt_of_at hm
 have nd0:=nd
 simp only[List.nodup_cons,List.mem_cons,List.mem_append,List.nodup_append,not_or]at nd
 obtain⟨⟨f1,f2,f5⟩,⟨m1,m4⟩,n1,n4,n5⟩:=nd
 have lfr:=lt fr .s
 have lmk:=lt mk .s
 have kk:∀a,a≠mk->((K++X).set mk ((qs++[p]).map λp=>V.ref p.1))[a]?=(K++X)[a]?:=λa h=>Yy2 (Ne.symm h)
 refine⟨(kk fr f1).trans hf,fm.keep λa q=>kk a (λh=>m1 (h▸q)),Yy6 lf,.snoc (hs.keep λa q=>kk a (λh=>m4 (h▸q))) (fm'.keep (kk _ .l) (kk _ .l)),?_,λa q=>?_,l0⟩
 ·rw[Zbb]
  have far:∀a∈fr::mk::(adr ps++adr qs),a≠p.1/\a≠p.2:=λa q=>by have:=lt a q;omega
  simp only[List.nodup_cons,List.mem_cons,List.mem_append,List.nodup_append,not_or,List.not_mem_nil,or_false]
  have q1:=far fr .s
  have q2:=far mk .s
  refine⟨⟨f1,f2,f5,q1.1,q1.2⟩,⟨m1,m4,q2.1,q2.2⟩,n1,⟨n4,⟨h3,not_false,List.nodup_nil⟩,λa ha b hb=>?_⟩,λa ha b hb=>?_⟩
  ·rcases hb with rfl | rfl
   ·exact(far a (by simp[ha])).1
   ·exact(far a (by simp[ha])).2
  ·rcases hb with hb | rfl | rfl
   ·exact n5 a ha b hb
   ·exact(far a (by simp[ha])).1
   ·exact(far a (by simp[ha])).2
 ·rw[Zbb]at q
  have lK:L0<=K.length:=by have:=lo fr .s;omega
  simp only[List.mem_cons,List.mem_append,List.not_mem_nil,or_false]at q
  rcases q with q | q | q | (q | q | q)
  ·exact lo a (by simp[q])
  ·exact lo a (by simp[q])
  ·exact lo a (by simp[q])
  ·exact lo a (by simp[q])
  ·omega
  ·omega
end
end L
namespace L
structure Wl(rs:List T)(tw:T)(nf:Nat)(en:Nat->Int): Prop where
 r:∀h,h<nf->∃r,rs[h]?=some (.lst r)/\(∀x∈r,∃a t b,x=rowT a t b)/\r.length<=9000/\∀q bs,0<=q->q<=en h->ZaO tw ((h:Int),q,bs)=some (r.filter (src q))
def Znx: Sm:=Zh (ZN (Zg Zc5 (Zb (Za 8) (Zb (Za 9) (Zb (Zg ZcX (Zb (ZaB (Za 3) (Zaw (Za 7)) (Zaw (Zc ZC (Za 7) (Zd 1)))) Ze)) Ze))))) (Zk 7 (Zc ZC (Za 7) (Zd 1)))
def ZjG: Sm:=ZN (Zg Zc5 (Zb (Za 8) (Zb (Za 9) (Zb (Zd 0) Ze))))
def Zm6: Sm:=Zh (Zk 10 (Zc Zf (Zc Zf (Za 9) (Zd 0)) (Zd 1))) (ZN (Zag (Za 5) (Zg Zcu (Zb (Za 0) (Zb (Zc Zf (Za 10) (Zd 2)) (Zb (Z3 (ZQ (Zc Zf (Za 10) (Zd 3))) (Zw 102) ZJ wlE) Ze))))))
def Zny: Sm:=Zh (ZN (ZdE (Za 5))) (ZN (Zg Zei (Zb (Za 1) (Zb (Zc Zf (Za 5) (ZE Zax (Zd 1))) (Zb (Zc Zf (Zc Zf (Za 8) (Zd 2)) (ZE Zax (Zd 1))) Ze)))))
def ZgL(w:Str): Ts:=Zl (Zc ZA (Zc Zf (Zc Zf (Zc Zf (Za 9) (Zd 0)) (Zd 1)) (Zd 0)) (ZF w))
def Zcs: Sm:=Zu (Zl (Zc ZA (Zg ZZ (Zb (Za 9) Ze)) (Zd 0))) Zny (Zu (ZgL "call") Zm6 (Zu (ZgL "any") Znx ZjG))
def Ze1: Sm:=Zu (ZR (Zl (Zc ZA (Zg ZZ (Zb (Za 9) Ze)) (Zd 0))) (ZR (Zl (Zc ZA (Zg ZZ (Zb (Za 5) Ze)) (Zd 1))) ZJ)) (Zo (Za 6)) ZG
def Zg6: Sm:=ZN (Zag (Za 6) (Zg Zct (Zb (Zc Zf (Za 5) (ZE Zax (Zd 1))) Ze)))
def ZdV: Sm:=Zh (Zk 8 (Zc Zf (Za 5) (ZE Zax (Zd 1)))) (Zh (Zk 9 (Zfb 1 8)) (Zh Ze1 (Zh Zcs Zg6)))
section
variable {K:Hp} {fr mk L0:Nat} {ps qs:List (Nat×Nat)} {ms hist:List Mo} {p:Nat×Nat} {m:Mo} {U:Lc}
theorem Zla(h:K[a]?=some (us++[v])): Zf (.ref a) (.int (-1)) K=some (v,K):=by
 have:seqIndex? (-1) (us++[v]).length=some us.length:=by unfold seqIndex?;simp;lia
 simp only[Zf,h,Ys0,this]
 simp
theorem ZqK{v:Int}(h:K[a]?=some (bs.map V.int))(e:bs.getLast? = some v): Zf (.ref a) (.int (-1)) K=some (.int v,K):=by
 obtain⟨ys,ey⟩:=List.getLast?_eq_some_iff.mp e
 rw[ey,List.map_append]at h
 exact Zla h
theorem Gm.lastF(G:Gm K fr mk L0 (ps++[p]) (ms++[m]) qs hist): Fm K p m/\Zf (.ref fr) (.int (-1)) K=some (.ref p.1,K):=by
 obtain⟨ps0,pz,e,_,f⟩:=G.fm.last
 obtain⟨e1,e2⟩:=List.append_inj' e rfl
 cases e2
 refine⟨f,Zla (us:=ps.map λp=>V.ref p.1) ?_⟩
 rw[G.hf]
 simp
theorem Zr7(G:Gm K fr mk L0 (ps++[p]) (ms++[m]) qs hist)(h5:U 5=some (.ref fr))(h6:U 6=some (.ref mk))(hl:m.2.2.length<=60)(hq:hist.length<10000): ∃K' q,Zg6 U K=some (none,U,K')/\Gm K' fr mk L0 (ps++[p]) (ms++[m]) (qs++[q]) (hist++[m])/\K.length<=K'.length/\∀a,a<L0->K'[a]?=K[a]?:=by
 obtain⟨f,il⟩:=G.lastF
 obtain⟨X,q,c1,c2,c3,c4,c5⟩:=Zk8 f hl
 have GX:=G.ext X
 have lq:=G.hs.length
 refine⟨_,q,?_,G.mark X c3 c4 c5 c2,.s,λa la=>?_⟩
 ·have hm:=GX.hm
  have m0:mk≠0:=by have:=G.lo mk .s;have:=G.l0;lia
  have:qs.length<100000:=by lia
  simp[Zg6,ZN,Zag,Za,h6,Zg,Zb,Ze,Zc,h5,ZE,Zd,il,c1,Zbc,hm,m0,ZD,this]
 ·have l1:=G.lo mk .s
  have l2:=G.lt mk .s
  rw[Yy2 .l,Yy0 .l]
end
end L
namespace L
section
variable {K:Hp} {fr mk L0:Nat} {ps qs:List (Nat×Nat)} {ms hist:List Mo} {p:Nat×Nat} {m:Mo} {U:Lc} {z:Nat} {us:List V}
theorem Zfc(h9:U 9=some (.ref z))(hz:K[z]?=some us): Zl (Zc ZA (Zg ZZ (Zb (Za 9) Ze)) (Zd 0)) U K=some (us.isEmpty,K):=by
 have:((us.length:Int) == 0)=us.isEmpty:=by cases us <;> simp;lia
 simp[Zl,Zc,Zg,Zb,Ze,Za,h9,Zb6 hz,Zd,Zab]
 cases us <;> simp
 omega
theorem Ze2{vh vq:V}{vas vr:List V}(h9:U 9=some (.ref z))(hz:K[z]?=some (V.tup [vh,V.tup (V.str wd::vas),vq]::vr))(hw:PyData.strOk wd=true)(hw':PyData.strOk w=true): ZgL w U K=some (decide (wd=w),K):=by
 have i0:Zf (.ref z) (.int 0) K=some (V.tup [vh,V.tup (V.str wd::vas),vq],K):=by
  have:seqIndex? 0 (vr.length+1)=some 0:=by unfold seqIndex?;simp
  simp[Zf,hz,this]
 simp[ZgL,Zl,Zc,Za,h9,Zd,i0,i31,ia0,ZF,Zjg hw hw',Zab]
theorem Zmf{a:Int}(r:∃F,RFs K us (rowT a (.tup (.str wd::tas)) q::l) F/\∀x∈F,P x): ∃vh vas vr,us=V.tup [vh,V.tup (V.str wd::vas),V.int q]::vr:=by
 obtain⟨v,vr,rfl,d0,d1⟩:=Z0 r
 unfold rowT at d0
 obtain⟨vs3,rfl,d1⟩:=d0.tup
 obtain⟨vh,_,rfl,_,d1⟩:=Z0 d1
 obtain⟨va,_,rfl,d2,d1⟩:=Z0 d1
 obtain⟨vq,_,rfl,d3,d1⟩:=Z0 d1
 have:=ZbP d1;subst this
 have:=d3.int;subst this
 obtain⟨vas,rfl,d4⟩:=d2.tup
 obtain⟨w0,wr,rfl,d5,_⟩:=Z0 d4
 have:=d5.str;subst this
 exact⟨vh,wr,vr,rfl⟩
def Aft(K:Hp)(fr mk L0:Nat)(qs:List (Nat×Nat))(hist:List Mo)(U:Lc)(s':RS)(r:Option (Option V×Lc×Hp)): Prop:=∃O K' ps p,r=some (none,O,K')/\Gm K' fr mk L0 (ps++[p]) (s'.wt.map (·.1)++[s'.m]) qs hist/\K.length<=K'.length/\(∀a,a<L0->K'[a]?=K[a]?)/\(∀i,i≠7->i≠10->O i=U i)/\O 7=some (.int s'.n)
theorem Zi3{n n':Nat}{pick:Int}(G:Gm K fr mk L0 (ps++[p]) (wt.map (·.1)++[m]) qs hist)(hz:K[z]?=some us)(r:∃F,RFs K us l F/\∀a∈F,a<L0)(e:goL m.2.2 pick l=some (q,bs')): ∃K' p',Zc5 [.ref p.1,.ref z,.int pick] K=some (.bool true,K')/\Gm K' fr mk L0 (ps++[p']) (wt.map (·.1)++[(m.1,q,bs')]) qs hist/\K.length<=K'.length/\∀a,a<L0->K'[a]?=K[a]?:=by
 obtain⟨f,_⟩:=G.lastF
 have lo1:=G.lo p.1 (by rw[Zbb];simp)
 have l0:=G.l0
 have lt1:=lt_of_at f.1
 have lt2:=lt_of_at f.2
 obtain⟨Y,b,g1,g2,g3⟩:=ZtH f .l hz r e
 refine⟨_,(p.1,b),g1,G.turn (λa la h1 h2=>?_) rfl (.inr g3) ⟨?_,?_⟩,.s,λa la=>?_⟩
 ·rw[Yy2 (Ne.symm h1),Yy0 la]
 ·exact Yy6 (by simp;lia)
 ·rw[Yy2 (by simp;lia)];exact g2
 ·rw[Yy2 .l,Yy0 .l]
theorem ZtI{fns:List T}{tw:T}{sig:Nat->Nat×Nat}{s:RS}{kk:Nat}(G:Gm K fr mk L0 (ps++[p]) (s.wt.map (·.1)++[s.m]) qs hist)(hz:K[z]?=some us)(r:∃F,RFs K us [rowT s.m.2.1 (.tup (.str wd::as)) q] F/\∀a∈F,a<L0)(rk:K[kk]?=some (ks.map V.int))(h3:U 3=some (.ref kk))(h7:U 7=some (.int s.n))(h8:U 8=some (.ref p.1))(h9:U 9=some (.ref z))(hw:PyData.strOk wd=true)(hc:wd≠Str.ofString "call")(hg:Zbu [Zq s.m.2.2,.tup (.str wd::as),.int (Zas ks s.n wd).2]=some (Zq bs)): Aft K fr mk L0 qs hist U ⟨(Zas ks s.n wd).1,s.wt,(s.m.1,q,bs)⟩ (Zcs U K):=by
 obtain⟨vh,vas,vr,rfl⟩:=Zmf r
 have t1:=Zfc h9 hz
 have t2:=Ze2 (w:="call") h9 hz hw .D
 have t3:=Ze2 (w:="any") h9 hz hw .D
 rw[decide_eq_false hc]at t2
 have go:goL s.m.2.2 (Zas ks s.n wd).2 [rowT s.m.2.1 (.tup (.str wd::as)) q]=some (q,bs):=by
  simp only[goL,rowT,Zdh,un3,Za9,unI,Ys1,Ys0,hg]
  show(Zcr (Zq bs)).map _=_
  rw[Zgm]
  rfl
 unfold Zcs
 rw[Zc1 t1,Zc1 t2]
 by_cases c:wd=Str.ofString "any"
 ·rw[decide_eq_true c]at t3
  rw[Zfa t3]
  have np:Zas ks s.n wd=(s.n+1,ks.getD s.n 0):=by unfold Zas;rw[if_pos c]
  rw[np]at go ⊢
  obtain⟨l,pl,ps0⟩:=ZqJ ks s.n
  have GX:=G.ext [l.map V.int]
  have hzX:(K++[l.map V.int])[z]?=some (V.tup [vh,V.tup (V.str wd::vas),V.int q]::vr):=(Yy0 (lt_of_at hz)).trans hz
  have rX:∃F,RFs (K++[l.map V.int]) (V.tup [vh,V.tup (V.str wd::vas),V.int q]::vr) [rowT s.m.2.1 (.tup (.str wd::as)) q] F/\∀a∈F,a<L0:=by
   obtain⟨F,r1,r2⟩:=r
   exact⟨F,r1.ext _,r2⟩
  obtain⟨K',p',g1,g2,g3,g4⟩:=Zi3 (wt:=s.wt) (n:=0) (n':=0) GX hzX rX go
  refine⟨Zi U 7 (.int (s.n+1:Nat)),K',ps,p',?_,g2,by simp at g3;lia,λa la=>?_,λi h _=>by simp[Zi,h],by simp[Zi]⟩
  ·unfold Znx
   have sl:ZaB (Za 3) (Zaw (Za 7)) (Zaw (Zc ZC (Za 7) (Zd 1))) U K=some (.ref K.length,K++[l.map V.int]):=by
    simp[ZaB,Za,h3,Zaw,h7,Zc,Zd,Zdz,rk,pl]
   have sm:ZcX [.ref K.length] (K++[l.map V.int])=some (.int (ks.getD s.n 0),K++[l.map V.int]):=by
    rw[Zng (Zv _ _),ps0]
   have ev9:∀H,Za 9 U H=some (V.ref z,H):=λH=>by simp[Za,h9]
   have ev8:∀H,Za 8 U H=some (V.ref p.1,H):=λH=>by simp[Za,h8]
   rw[Zaa (B:=U) (H1:=K') (by
    simp only[ZN,Zg,Zb,Ze,ev8,ev9,Ys0,sl,sm,g1,Ys1])]
   simp[Zk,Zc,Za,h7,Zd]
  ·have:=G.lo p.1 (by rw[Zbb];simp)
   have l1:=lt_of_at G.lastF.1.1
   rw[g4 a la,Yy0 .l]
 ·rw[decide_eq_false c]at t3
  rw[Zc1 t3]
  have np:Zas ks s.n wd=(s.n,0):=by unfold Zas;rw[if_neg c]
  rw[np]at go ⊢
  obtain⟨K',p',g1,g2,g3,g4⟩:=Zi3 (wt:=s.wt) (n:=0) (n':=0) G hz r go
  refine⟨U,K',ps,p',?_,g2,g3,g4,λi _ _=>rfl,h7⟩
  simp[ZjG,ZN,Zg,Zb,Ze,Za,h8,h9,Zd,g1]
theorem Zr8{s:RS}{a:Int}{rr:Bool}(G:Gm K fr mk L0 (ps++[p]) (s.wt.map (·.1)++[s.m]) qs hist)(hz:K[z]?=some us)(r:∃F,RFs K us [rowT s.m.2.1 (Zak c true) a,rowT s.m.2.1 (Zak c false) b] F/\∀a∈F,a<L0)(h7:U 7=some (.int s.n))(h8:U 8=some (.ref p.1))(h9:U 9=some (.ref z))(hn:s.m.2.2.length<=60)(hc:ClOk s.m.2.2.length c)(hr:Zb0 [c,Zq s.m.2.2]=some (.bool rr)): Aft K fr mk L0 qs hist U ⟨s.n,s.wt,(s.m.1,if rr then a else b,s.m.2.2)⟩ (Zcs U K):=by
 have g1:=Zim (b:=true) (p:=0) hr
 have g2:=Zim (b:=false) (p:=0) hr
 have go:goL s.m.2.2 0 [rowT s.m.2.1 (Zak c true) a,rowT s.m.2.1 (Zak c false) b]=some (if rr then a else b,s.m.2.2):=by
  cases rr with
  | true=>
   rw[if_pos rfl]at g1
   simp only[goL,rowT,Zdh,un3,Za9,unI,Ys1,Ys0,g1]
   show(Zcr (Zq s.m.2.2)).map _=_
   rw[Zgm]
   rfl
  | false=>
   rw[if_neg .d]at g1
   rw[if_pos rfl]at g2
   simp only[goL,rowT,Zdh,un3,Za9,unI,Ys1,Ys0,g1,g2]
   show(Zcr (Zq s.m.2.2)).map _=_
   rw[Zgm]
   rfl
 obtain⟨vh,vas,vr,hus⟩:=Zmf (wd:="when") (tas:=[c,.bool true]) r
 rw[hus]at hz
 have hw:PyData.strOk "when"=true:=by decide +kernel
 have t1:=Zfc h9 hz
 have t2:=Ze2 (w:="call") h9 hz hw .D
 have t3:=Ze2 (w:="any") h9 hz hw .D
 rw[decide_eq_false .D]at t2 t3
 rw[<-hus]at hz
 unfold Zcs
 rw[Zc1 t1,Zc1 t2,Zc1 t3]
 obtain⟨K',p',g1,g2,g3,g4⟩:=Zi3 (wt:=s.wt) (n:=0) (n':=0) G hz r go
 refine⟨U,K',ps,p',?_,g2,g3,g4,λi _ _=>rfl,h7⟩
 simp[ZjG,ZN,Zg,Zb,Ze,Za,h8,h9,Zd,g1]
end
end L
namespace L
section
variable {K:Hp} {fr mk L0:Nat} {ps qs:List (Nat×Nat)} {ms hist:List Mo} {p:Nat×Nat} {m:Mo} {U:Lc} {z:Nat} {us:List V}
theorem ZqL{s:RS}{X:Nat}{body:List T}(G:Gm K fr mk L0 (ps++[p]) (s.wt.map (·.1)++[s.m]) qs hist)(hz:K[z]?=some us)(r:∃F,RFs K us [rowT s.m.2.1 (callT X g sums) q] F/\∀a∈F,a<L0)(rp:RFo K vp (.lst fns) (· < L0))(h0:U 0=some vp)(h5:U 5=some (.ref fr))(h7:U 7=some (.int s.n))(h8:U 8=some (.ref p.1))(h9:U 9=some (.ref z))(hn:s.m.2.2.length<=60)(hgv:Zcy s.m.2.2 sums=some gv)(hgl:gv.length=(sig g).1)(hf:fns[g]?=some (.tup [.int (sig g).1,.int (sig g).2,.lst body]))(hs:∀t∈sums,∃c,t=Za0 s.m.2.2.length c/\Sh s.m.2.2.length c)(hsl:sums.length=(sig g).1)(sg:(sig g).1<=(sig g).2/\(sig g).2<=4)(hwt:s.wt.length<1000): Aft K fr mk L0 qs hist U ⟨s.n,s.wt++[(s.m,rowT s.m.2.1 (callT X g sums) q)],((g:Int),0,gv++List.replicate ((sig g).2-(sig g).1) 0)⟩ (Zcs U K):=by
 obtain⟨v,vr,hus,d0,d1⟩:=Z0 r
 have:=ZbP d1;subst this
 unfold rowT callT at d0
 right
 obtain⟨vs3,rfl,d1⟩:=d0.tup
 obtain⟨vh,_,rfl,_,d1⟩:=Z0 d1
 obtain⟨va,_,rfl,d2,d1⟩:=Z0 d1
 obtain⟨vq,_,rfl,d3,d1⟩:=Z0 d1
 have:=ZbP d1;subst this
 obtain⟨vas,rfl,d4⟩:=d2.tup
 obtain⟨v1,_,rfl,e1,d41⟩:=Z0 d4
 obtain⟨v2,_,rfl,_,d42⟩:=Z0 d41
 obtain⟨v3,_,rfl,d5,d43⟩:=Z0 d42
 obtain⟨v4,_,rfl,d6,d44⟩:=Z0 d43
 have:=ZbP d44;subst this
 have:=e1.str;subst this
 have:=d5.int;subst this
 obtain⟨d,vs,rfl,hd,_,rs⟩:=d6.lst
 rw[hus]at hz
 have hw:PyData.strOk "call"=true:=by decide +kernel
 have t1:=Zfc h9 hz
 have t2:=Ze2 (w:="call") h9 hz hw hw
 rw[decide_eq_true rfl]at t2
 obtain⟨f,_⟩:=G.lastF
 have lvs:vs.length=sums.length:=by obtain⟨F,r,_⟩:=rs;exact r.length
 generalize hact:V.tup [V.str "call",v2,V.int (g:Int),V.ref d]=act at *
 obtain⟨Y,gl⟩:=Zme (P:=(· < L0)) (U:=Zi U 10 act) (d:=d) (by simp[Zi,h8]) f hn hd sums 0 [] gv [] (λj t e=>by rw[Nat.zero_add];exact Zcz rs e) .l hgv hs (by rw[ZD];simp;lia)
 simp only[List.map_nil,List.append_nil,List.nil_append]at gl
 have G1:=(G.ext Y).ext [gv.map V.int]
 have hz1:(K++Y++[gv.map V.int])[(K++Y).length]?=some (gv.map V.int):=by simp
 have l0K:L0<=K.length:=by have:=G.lo fr .s;have:=G.lt fr .s;lia
 have rp1:RFo (K++Y++[gv.map V.int]) vp (.lst fns) (· < L0):=rp.keep λa la _=>by rw[List.append_assoc,Yy0 .o]
 obtain⟨X2,p',b1,b2,b3,b4,b5⟩:=Zkp rp1 hz1 hf hgl .l sg.1
 have G2:=G1.push X2 b3 b4 b5 b2
 have lps:=G.fm.length
 have hff:=(G1.ext X2).hf
 have k9:∀a,a<K.length->(K++Y++[gv.map V.int]++X2)[a]?=K[a]?:=λa la=>by
  rw[List.append_assoc,List.append_assoc,Yy0 la]
 have l9:K.length<=(K++Y++[gv.map V.int]++X2).length:=by simp
 generalize hK9:K++Y++[gv.map V.int]++X2=K9 at *
 have ems:(s.wt++[(s.m,rowT s.m.2.1 (callT X g sums) q)]).map (·.1)=s.wt.map (·.1)++[s.m]:=by simp
 left
 refine⟨Zi U 10 act,K9.set fr ((ps++[p]++[p']).map λp=>V.ref p.1),ps++[p],p',?_,by dsimp only;rw[ems];exact G2,by simpa using l9,λa la=>?_,λi _ h=>by simp[Zi,h],by simp[Zi,h7]⟩
 ·unfold Zcs
  rw[Zc1 t1,Zfa t2]
  unfold Zm6
  have i0:Zf (.ref z) (.int 0) K=some (V.tup [vh,act,vq],K):=by
   simp only[Zf,hz];rfl
  rw[Zaa (B:=Zi U 10 act) (H1:=K) (by simp[Zk,Zc,Za,h9,Zd,i0,i31])]
  have j2:∀H,Zf act (.int 2) H=some (.int (g:Int),H):=λH=>by rw[<-hact];rfl
  have j3:∀H,Zf act (.int 3) H=some (.ref d,H):=λH=>by rw[<-hact];rfl
  have cmp:Z3 (ZQ (Zc Zf (Za 10) (Zd 3))) (Zw 102) ZJ wlE (Zi U 10 act) K=some (.ref (K++Y).length,K++Y++[gv.map V.int]):=by
   have ev:ZQ (Zc Zf (Za 10) (Zd 3)) (Zi U 10 act) K=some (ZI d,vs.length+1,K):=by
    simp[ZQ,Zc,Za,Zi,Zd,j3,hd]
   unfold Z3
   rw[ev,lvs]
   simp only[Ys0]
   rw[gl]
   rfl
  have ev0:∀H,Za 0 (Zi U 10 act) H=some (vp,H):=λH=>by simp[Za,Zi,h0]
  have ev5:∀H,Za 5 (Zi U 10 act) H=some (.ref fr,H):=λH=>by simp[Za,Zi,h5]
  have e2:∀H,Zc Zf (Za 10) (Zd 2) (Zi U 10 act) H=some (.int (g:Int),H):=λH=>by simp[Zc,Za,Zi,Zd,j2]
  have f0:fr≠0:=by have:=G.lo fr .s;have:=G.l0;lia
  have lpp:(ps++[p]).length<100000:=by rw[lps];simp;lia
  have ap:Zbc [.ref fr,.ref p'.1] K9=some (.none,K9.set fr ((ps++[p]++[p']).map λp=>V.ref p.1)):=by
   simp only[Zbc,hff,Ys0]
   rw[if_pos ⟨f0,by rw[ZD,List.length_map];exact lpp⟩,List.map_append (l₂:=[p'])]
   rfl
  simp only[ZN,Zag,Zg,Zb,Ze,ev0,ev5,e2,cmp,Ys0,b1,Ys1,ap]
 ·have:=G.lo fr .s
  rw[Yy2 .l,k9 a .l]
theorem ZqM{s:RS}{X:Nat}{rs:List T}{a:Int}(hwt:s.wt=wt++[(m,rowT m.2.1 (callT X g sums) q)])(G:Gm K fr mk L0 ps (s.wt.map (·.1)++[s.m]) qs hist)(hz:K[z]?=some [])(r:RFo K vw (.lst rs) (· < L0))(e1:Zcq rs m.1=some (.lst l))(hrow:∀x∈l,∃a t b,x=rowT a t b)(hl:l.length<=9000)(hf:l.filter (src m.2.1)=[rowT m.2.1 (callT X g sums) q])(ha:s.m.2.2.getLast? = some a)(hX:X<m.2.2.length)(h1:U 1=some vw)(h5:U 5=some (.ref fr))(h7:U 7=some (.int s.n))(h8:∀p0 p,ps=p0++[p]->U 8=some (.ref p.1))(h9:U 9=some (.ref z)): Aft K fr mk L0 qs hist U ⟨s.n,wt,(m.1,q,m.2.2.set X a)⟩ (Zcs U K):=by
 right
 rw[hwt,List.map_append]at G
 simp only[List.map_cons,List.map_nil]at G
 obtain⟨ps1,p,rfl,fms,fp⟩:=G.fm.last
 obtain⟨ps0,p',rfl,_,fp'⟩:=fms.last
 have h8:=h8 _ p rfl
 have t1:=Zfc h9 hz
 have G1:=G.pop
 have lf:=lt_of_at G.hf
 have lo:=G.lo
 have nd:=G.nd
 have l0:=G.l0
 have loF:=lo fr .s
 have fl:∀a,a≠fr->(K.set fr ((ps0++[p']).map λp=>V.ref p.1))[a]?=K[a]?:=λa h=>Yy2 (Ne.symm h)
 have pf:p.1≠fr/\p.2≠fr:=by
  rw[Zbb,Zbb]at nd
  simp only[List.nodup_cons,List.mem_cons,List.mem_append,not_or,List.not_mem_nil,or_false]at nd
  have:=nd.1
  exact⟨λh=>by simp[h]at this,λh=>by simp[h]at this⟩
 have fpK:=fp.keep (K':=K.set fr ((ps0++[p']).map λp=>V.ref p.1)) (fl _ pf.1) (fl _ pf.2)
 have hset:K.set fr ((ps0++[p']).map λp=>V.ref p.1)=K.set fr ((ps0++[p']).map λp=>V.ref p.1):=rfl
 have rK:RFo (K.set fr ((ps0++[p']).map λp=>V.ref p.1)) vw (.lst rs) (· < L0):=r.keep λa la _=>fl a .l
 have lenK:(K.set fr ((ps0++[p']).map λp=>V.ref p.1)).length=K.length:=by simp
 have pop:ZN (ZdE (Za 5)) U K=some (none,U,K.set fr ((ps0++[p']).map λp=>V.ref p.1)):=by
  have hff:=G.hf
  have f0:fr≠0:=by lia
  have:(ps0++[p']++[p]).map (λp=>V.ref p.1)=(ps0++[p']).map (λp=>V.ref p.1)++[V.ref p.1]:=by simp
  rw[this]at hff
  simp only[ZN,ZdE,Za,h5,Ys1,Ys0,Zhe,hff,List.getLast?_concat,List.dropLast_concat]
  rw[if_pos f0]
  rfl
 generalize hK1:K.set fr ((ps0++[p']).map λp=>V.ref p.1)=K1 at *
 obtain⟨f',il⟩:=G1.lastF
 have mem1:p'.1∈fr::mk::(adr (ps0++[p'])++adr qs):=by rw[Zbb];simp
 have mem2:p'.2∈fr::mk::(adr (ps0++[p'])++adr qs):=by rw[Zbb];simp
 have lo1:=G1.lo _ mem1
 have lo2:=G1.lo _ mem2
 have pp:p'.1≠p'.2:=by
  have nd:=G1.nd
  rw[Zbb]at nd
  intro h
  simp only[List.nodup_cons,List.nodup_append,h]at nd
  simp at nd
 obtain⟨us2,bk⟩:=ZqH (ans:=a) f' .l .l pp rK e1 hrow hl hf hX
 have lt1:=lt_of_at f'.1
 have lt2:=lt_of_at f'.2
 left
 refine⟨U,((K1++[us2]).set p'.2 ((m.2.2.set X a).map V.int)).set p'.1 [.int m.1,.int q,.ref p'.2],ps0,p',?_,(G1.ext [us2]).turn (λx lx h1 h2=>?_) rfl (.inl rfl) ⟨Yy6 (by simp;lia),?_⟩,by simp;lia,λx lx=>?_,λi _ _=>rfl,h7⟩
 ·unfold Zcs
  rw[Zfa t1]
  unfold Zny
  rw[Zaa pop]
  have la:Zf (.ref p.2) (.int (-1)) K1=some (.int a,K1):=ZqK fpK.2 ha
  simp[ZN,Zg,Zb,Ze,Za,h1,Zc,h5,ZE,Zd,il,h8,Zg5 fpK,la,bk,List.map_set]
 ·rw[Yy2 (Ne.symm h1),Yy2 (Ne.symm h2)]
 ·rw[Yy2 pp]
  exact Yy6 (by simp;lia)
 ·rw[Yy2 .l,Yy2 .l,Yy0 .l,fl x .l]
end
inductive Bl: Nat->T->Prop where
 | none {n:Nat}:Bl n .none
 | bool {n:Nat} {b:Bool}:Bl n (.bool b)
 | int {n:Nat} {i:Int}:Bl n (.int i)
 | str {n:Nat} {x:Str}:PyData.strOk x=true->Bl n (.str x)
 | tup {n:Nat} {ts:List T}:(∀t∈ts,Bl n t)->ts.length<=10000->Bl (n+1) (.tup ts)
 | lst {n:Nat} {ts:List T}:(∀t∈ts,Bl n t)->ts.length<=10000->Bl (n+1) (.lst ts)
theorem Bl.mono(h:Bl n t): ∀{m:Nat},n<=m->Bl m t:=by
 induction h with
 | none=>intro m _;exact .none
 | bool=>intro m _;exact .bool
 | int=>intro m _;exact .int
 | str h=>intro m _;exact .str h
 | tup hs hl ih=>
  intro m hm
  cases m with
  | zero=>lia
  | succ m=>exact .tup (λt a=>ih t a .l) hl
 | lst hs hl ih=>
  intro m hm
  cases m with
  | zero=>omega
  | succ m=>exact .lst (λt a=>ih t a .o) hl
theorem Bl.dat(h:Bl n t): ZcF n t=some (dd t)/\PyData.canLay0 (dd t)=true/\PyData.depth (dd t)<=n:=by
 induction h with
 | @none n=>cases n <;> exact⟨rfl,rfl,by simp[dd,PyData.depth]⟩
 | @bool n b=>cases n <;> exact⟨rfl,rfl,by simp[dd,PyData.depth]⟩
 | @int n i=>cases n <;> exact⟨rfl,rfl,by simp[dd,PyData.depth]⟩
 | @str n x h=>cases n <;> exact⟨rfl,by simpa [dd,PyData.canLay0]using h,by simp[dd,PyData.depth]⟩
 | @tup n ts _ _ ih=>
  refine⟨?_,?_,?_⟩
  ·simp only[ZcF,Ziz λt m=>(ih t m).1,Ys1,dd]
  ·simp only[dd,PyData.canLay0];exact ZiQ λt m=>(ih t m).2.1
  ·simp only[dd,PyData.depth]
   have:=ZiR λt m=>(ih t m).2.2
   lia
 | @lst n ts _ _ ih=>
  refine⟨?_,?_,?_⟩
  ·simp only[ZcF,Ziz λt m=>(ih t m).1,Ys1,dd]
  ·simp only[dd,PyData.canLay0];exact ZiQ λt m=>(ih t m).2.1
  ·simp only[dd,PyData.depth]
   have:=ZiR λt m=>(ih t m).2.2
   omega
theorem Zio: ∀{ts:List T},(∀t∈ts,PyData.eqv (dd t) (dd t)=true)->PyData.eqvAll (dds ts) (dds ts)=true
 | [],_=>by simp[dds,PyData.eqvAll]
 | t::ts,h=>by
  simp only[dds,PyData.eqvAll,Bool.and_eq_true,h t Zz5,Zio λt m=>h t (Zz2 _ m),and_self]
theorem Bl.eqv(h:Bl n t): PyData.eqv (dd t) (dd t)=true:=by
 induction h with
 | none=>simp[dd,PyData.eqv]
 | bool=>simp[dd,PyData.eqv]
 | int=>simp[dd,PyData.eqv]
 | str _=>simp[dd,PyData.eqv]
 | tup hs _ ih=>simp only[dd,PyData.eqv];exact Zio ih
 | lst hs _ ih=>simp only[dd,PyData.eqv];exact Zio ih
theorem ZqN{a:T}(ha:Bl n a)(hn:n<=40:=by decide): Ze6 a a=some true:=by
 have ha:=ha.mono hn
 obtain⟨a1,a2,a3⟩:=ha.dat
 unfold Ze6 ZaX
 rw[a1]
 simp only[Ys0]
 have hs:SeqAt.shaped (dd a)=true:=by simp only[SeqAt.shaped,a2,Bool.true_and,decide_eq_true_eq];lia
 rw[if_pos ⟨hs,hs⟩,ha.eqv]
section
variable {Q:T->Prop}
theorem ZtJ{a:T}(ha:Bl n a)(h:Q (.bool false))(hn:n<=40:=by decide): Pk (qNe a a) Q:=⟨_,by simp only[qNe,ZqN ha hn,Ys1];rfl,h⟩
end
theorem Nice.blr(h:Nice n t): Bl n t:=by
 induction h with
 | none=>exact .none
 | bool b=>exact .bool
 | int i=>exact .int
 | str h=>exact .str h
 | tup hl _ ih=>exact .tup ih .l
 | lst hl _ ih=>exact .lst ih .o
theorem Zip{l:List Int}(h:l.length<=60): Nice (n+1) (Zq l):=.lst (by simp;lia) (λt m=>by
 obtain⟨k,_,rfl⟩:=Zz11.mp m
 exact .int _)
def m0r(sig:Nat->Nat×Nat)(last:Nat)(ss:List Int): Mo:=((last:Int),0,ss++List.replicate ((sig last).2-(sig last).1) 0)
theorem Zj7{tp tw:T}{ks:List Int}: ∀{k:Nat} {s:RS} {r:List Mo×Nat},ZbI tp tw ks k s=some r->r.1.length<=k
 | 0,s,r,e=>by cases e;simp
 | k+1,s,r,e=>by
  obtain⟨q,e1,e⟩:=Zz0.mp e
  cases q with
  | true=>rw[if_pos rfl]at e;cases e;simp
  | false=>
   rw[if_neg .d]at e
   obtain⟨s',e2,e⟩:=Zz0.mp e
   obtain⟨r',e3,rfl⟩:=Zz1.mp e
   have:=Zj7 e3
   simp
   omega
theorem ZtK{r:List Mo×Nat}(P:PrOk fns sig)(h1:1<=fns.length)(hss:ss.length=(sig (fns.length-1)).1)(s9:steps<=900)(hw:Zc4 [.lst fns]=some tw)(hm:ZbI (.lst fns) tw ks steps.toNat ⟨0,[],m0r sig (fns.length-1) ss⟩=some r): Zg4 [.lst fns,Zq ss,Zq ks,.int steps]=some (.lst ((m0r sig (fns.length-1) ss::r.1).map Zdg)):=by
 obtain⟨b,r0,e,f1,_⟩:=P.fn (fns.length-1) .o
 obtain⟨q1,q2,q3⟩:=P.sg (fns.length-1)
 have hmain:Zjx fns=some ((sig (fns.length-1)).1:Int):=by
  have:fns.getLast? = some (.tup [.int (sig (fns.length-1)).1,.int (sig (fns.length-1)).2,.lst b]):=by
   rw[List.getLast?_eq_getElem?];exact f1
  simp[Zjx,this]
 have hf:Zdw (.lst fns) ((fns.length:Int)-1) ss=some (m0r sig (fns.length-1) ss):=by
  have:=Zk4 (gv:=ss) f1 hss .l q1
  rw[show((fns.length-1:Nat):Int)=(fns.length:Int)-1 by lia]at this
  rw[this]
  unfold m0r
  rw[show((fns.length-1:Nat):Int)=(fns.length:Int)-1 by omega]
 refine Zcn ⟨fns,ss,ks,steps,tw,_,_,rfl,by rw[hmain,hss],.l,hw,hf,ZiZ hm,rfl⟩ λu ⟨fns',ss',ks',steps',tw',m',ms',e,_,_,e4,e5,e6,eu⟩=>?_
 simp only[List.cons.injEq,and_true,T.lst.injEq,T.int.injEq]at e
 obtain⟨rfl,h2,h3,rfl⟩:=e
 cases Zbn h2
 cases Zbn h3
 rw[hw]at e4
 cases e4
 rw[hf]at e5
 cases e5
 rw[ZiZ hm]at e6
 cases e6
 exact eu
end L
namespace L
section
variable {K:Hp} {fr mk L0:Nat} {ps qs:List (Nat×Nat)} {hist:List Mo} {U:Lc} {fns rs:List T} {tw:T} {sig:Nat->Nat×Nat} {nf:Nat} {en:Nat->Int} {ks:List Int} {s s':RS} {vp vw:V} {kk:Nat}
theorem Wl.at(W:Wl rs tw nf en){h:Nat}{m:Mo}(M:IsM sig nf en h m): ∃r,Zcq rs m.1=some (.lst r)/\(∀x∈r,∃a t b,x=rowT a t b)/\r.length<=9000/\ZaO tw m=some (r.filter (src m.2.1)):=by
 obtain⟨r,h1,h2,h3,h4⟩:=W.r h M.hn
 obtain⟨f,q,bs⟩:=m
 have:=M.f
 dsimp only at this
 subst this
 exact⟨r,Zi1 (by dsimp only;lia) (by simpa using h1),h2,h3,h4 q bs M.p0 M.pe⟩
theorem Zmg(WL:Wl rs tw nf en)(I:Inv tw sig nf en s)(G:Gm K fr mk L0 ps (s.wt.map (·.1)++[s.m]) qs hist)(rw_:RFo K vw (.lst rs) (· < L0))(h1:U 1=some vw)(h5:U 5=some (.ref fr)): ∃l us p0 p,ZaO tw s.m=some l/\ps=p0++[p]/\(∃F,RFs K us l F/\∀a∈F,a<L0)/\ZdV U K=Zh Ze1 (Zh Zcs Zg6) (Zi (Zi U 8 (.ref p.1)) 9 (.ref K.length)) (K++[us]):=by
 right
 obtain⟨h,M,_⟩:=I.m
 obtain⟨r,e1,hrow,hl,hr⟩:=WL.at M
 obtain⟨p0,p,rfl,_,_⟩:=G.fm.last
 obtain⟨f,il⟩:=G.lastF
 obtain⟨us,g1,g2⟩:=Zmc (U:=Zi U 8 (.ref p.1)) (i:=1) (j:=8) (by simp[Zi,h1]) (by simp[Zi]) .d rw_ e1 hrow f hl
 left
 refine⟨_,us,p0,p,hr,rfl,g2,?_⟩
 unfold ZdV
 rw[Zaa (B:=Zi U 8 (.ref p.1)) (H1:=K) (by simp[Zk,Zc,Za,h5,ZE,Zd,il])]
 rw[Zaa (B:=Zi (Zi U 8 (.ref p.1)) 9 (.ref K.length)) (H1:=K++[us]) (by simp[Zk,g1])]
theorem Zlb{z:Nat}(h9:U 9=some (.ref z))(hz:K[z]?=some us)(h5:U 5=some (.ref fr))(hf:K[fr]?=some (ps.map λp=>V.ref p.1)): ZR (Zl (Zc ZA (Zg ZZ (Zb (Za 9) Ze)) (Zd 0))) (ZR (Zl (Zc ZA (Zg ZZ (Zb (Za 5) Ze)) (Zd 1))) ZJ) U K=some (us.isEmpty && decide (ps.length=1),K):=by
 have t1:=Zfc h9 hz
 have t2:Zl (Zc ZA (Zg ZZ (Zb (Za 5) Ze)) (Zd 1)) U K=some (decide (ps.length=1),K):=by
  have:((ps.length:Int) == 1)=decide (ps.length=1):=by
   by_cases c:ps.length=1
   ·simp[c]
   ·rw[decide_eq_false c];simp;lia
  simp only[Zl,Zc,Zg,Zb,Ze,Za,h5,Ys1,Ys0,Zb6 hf,Zd,List.length_map,Zha,Zab,this]
 simp only[ZR,t1,Ys0]
 cases us.isEmpty with
 | false=>simp
 | true=>simp only[if_true,t2,Ys0,ZJ,Bool.true_and];cases decide (ps.length=1) <;> simp
theorem ZqO(WL:Wl rs tw nf en)(I:Inv tw sig nf en s)(G:Gm K fr mk L0 ps (s.wt.map (·.1)++[s.m]) qs hist)(rw_:RFo K vw (.lst rs) (· < L0))(h1:U 1=some vw)(h5:U 5=some (.ref fr))(h6:U 6=some (.ref mk))(he:Zb3 tw s=some true): ∃O us,ZdV U K=some (some (.ref mk),O,K++[us]):=by
 right
 obtain⟨l,us,p0,p,hl,rfl,⟨F,r,_⟩,eb⟩:=Zmg WL I G rw_ h1 h5
 obtain⟨l',e1,e2⟩:=Zz1.mp he
 rw[hl]at e1
 left
 cases e1
 right
 simp only[Bool.and_eq_true,List.isEmpty_iff]at e2
 obtain⟨rfl,hw⟩:=e2
 have:us=[]:=by have:=r.length;simpa using this
 subst this
 have lps:=G.fm.length
 rw[hw]at lps
 simp at lps
 left
 refine⟨Zi (Zi U 8 (.ref p.1)) 9 (.ref K.length),[],?_⟩
 rw[eb]
 have t:=Zlb (U:=Zi (Zi U 8 (.ref p.1)) 9 (.ref K.length)) (K:=K++[[]]) (ps:=p0++[p]) (us:=[]) (z:=K.length) (fr:=fr) (by simp[Zi]) .s (by simp[Zi,h5]) ((G.ext [[]]).hf)
 rw[show(([]:List V).isEmpty && decide ((p0++[p]).length=1))=true by simp[lps]]at t
 refine seq_ret ?_
 unfold Ze1
 rw[Zfa t]
 simp only[Zo,Za,Zi,h6]
 rfl
theorem Zr9(W:Wp fns tw sig nf en)(hnf:nf<=100)(WL:Wl rs tw nf en)(I:Inv tw sig nf en s)(G:Gm K fr mk L0 ps (s.wt.map (·.1)++[s.m]) qs hist)(rp:RFo K vp (.lst fns) (· < L0))(rw_:RFo K vw (.lst rs) (· < L0))(rk:K[kk]?=some (ks.map V.int))(kl:kk<L0)(h0:U 0=some vp)(h1:U 1=some vw)(h3:U 3=some (.ref kk))(h5:U 5=some (.ref fr))(h6:U 6=some (.ref mk))(h7:U 7=some (.int s.n))(hq:hist.length<10000)(he:Zb3 tw s=some false)(st:Stp fns tw sig ks s s')(I':Inv tw sig nf en s'):
  ∃O K' ps' qs',ZdV U K=some (none,O,K')/\Gm K' fr mk L0 ps' (s'.wt.map (·.1)++[s'.m]) qs' (hist++[s'.m])/\K.length<=K'.length/\(∀a,a<L0->K'[a]?=K[a]?)/\(∀i,i<7->O i=U i)/\O 7=some (.int s'.n):=by
 obtain⟨l,us,p0,p,hl,rfl,r,eb⟩:=Zmg WL I G rw_ h1 h5
 generalize z:Zi (Zi U 8 (.ref p.1)) 9 (.ref K.length)=B at *
 have G1:=G.ext [us]
 have lK:L0<=K.length:=by have:=G.lo fr .s;have:=G.lt fr .s;lia
 have kx:∀a,a<L0->(K++[us])[a]?=K[a]?:=λa la=>Yy0 .l
 have q0:B 0=some vp:=by rw[<-z];simp[Zi,h0]
 have q1:B 1=some vw:=by rw[<-z];simp[Zi,h1]
 have q3:B 3=some (.ref kk):=by rw[<-z];simp[Zi,h3]
 have q5:B 5=some (.ref fr):=by rw[<-z];simp[Zi,h5]
 have q6:B 6=some (.ref mk):=by rw[<-z];simp[Zi,h6]
 have q7:B 7=some (.int s.n):=by rw[<-z];simp[Zi,h7]
 have q8:B 8=some (.ref p.1):=by rw[<-z];simp[Zi]
 have q9:B 9=some (.ref K.length):=by rw[<-z];simp[Zi]
 have old:∀i,i<8->B i=U i:=λi hi=>by rw[<-z];simp[Zi,show i≠8 by lia,show i≠9 by lia]
 have hz:(K++[us])[K.length]?=some us:=by simp
 have r1:∃F,RFs (K++[us]) us l F/\∀a∈F,a<L0:=by obtain⟨F,r,q⟩:=r;exact⟨F,r.ext _,q⟩
 have rp1:=rp.keep (K':=K++[us]) λa la _=>kx a la
 have rw1:=rw_.keep (K':=K++[us]) λa la _=>kx a la
 have rk1:(K++[us])[kk]?=some (ks.map V.int):=(kx kk kl).trans rk
 obtain⟨h,M,hwt⟩:=I.m
 have sgh:=W.sg h M.hn
 have hn:s.m.2.2.length<=60:=by rw[M.bl];lia
 have lus:us.length=l.length:=by obtain⟨F,r,_⟩:=r;exact r.length
 have lps:=G.fm.length
 have ef:Ze1 B (K++[us])=some (none,B,K++[us]):=by
  have t:=Zlb (ps:=p0++[p]) (us:=us) q9 hz q5 G1.hf
  have e0:(us.isEmpty && decide ((p0++[p]).length=1))=false:=by
   obtain⟨l',e1,e2⟩:=Zz1.mp he
   rw[hl]at e1
   cases e1
   cases us with
   | cons v vs=>rfl
   | nil=>
    have:l=[]:=by cases l with | nil=>rfl | cons _ _=>simp at lus
    subst this
    simp only[List.isEmpty_nil,Bool.true_and]at e2 ⊢
    have hne:s.wt≠[]:=λq=>by rw[q]at e2;simp at e2
    rw[lps]
    have:s.wt.length≠0:=λq=>hne (List.length_eq_zero_iff.mp q)
    simp
    omega
  rw[e0]at t
  unfold Ze1
  rw[Zc1 t]
  rfl
 have key:Aft (K++[us]) fr mk L0 qs hist B s' (Zcs B (K++[us])):=by
  cases st with
  | @leave wt m X g sums q a e1 e2 e3 e4 e5=>
   rw[hl]at e2
   cases e2
   have:us=[]:=by cases us with | nil=>rfl | cons _ _=>simp at lus
   subst this
   obtain⟨h',⟨M',_⟩,_⟩:=I.w wt.length (m,rowT m.2.1 (callT X g sums) q) (by rw[e1];simp)
   obtain⟨r',z1,z2,z3,z4⟩:=WL.at M'
   rw[e5]at z4
   exact ZqM e1 G1 hz rw1 z1 z2 z3 (Option.some.inj z4).symm e3 e4 q1 q5 q7 (λp0' p' ep=>by obtain⟨_,e⟩:=List.append_inj' ep rfl;cases e;exact q8) q9
  | @enter X g sums q gv body e1 e2 e3 e4 e5 e6=>
   rw[hl]at e1
   cases e1
   have M2:=I'.m
   obtain⟨h2,M2,hw2⟩:=M2
   have hg2:h2=g:=by have:=M2.f;dsimp only at this;lia
   subst hg2
   have sg:=W.sg h2 M2.hn
   exact ZqL G1 hz r1 rp1 q0 q5 q7 q8 q9 hn e2 e3 e4 e5 e6 ⟨sg.1,sg.2.2⟩ .l
  | @act wd as q bs h' e1 e2 e3 e4 e5=>
   rw[hl]at e1
   cases e1
   exact ZtI (fns:=fns) (tw:=tw) (sig:=sig) G1 hz r1 rk1 q3 q7 q8 q9 e3 e4 e5
  | @when c a b rr e1 e2 e3=>
   rw[hl]at e1
   cases e1
   exact Zr8 G1 hz r1 q7 q8 q9 hn e2 e3
 obtain⟨ρ2,K2,ps2,p2,k1,k2,k3,k4,k5,k6⟩:=key
 obtain⟨h',M',hwt'⟩:=I'.m
 have sg':=W.sg h' M'.hn
 obtain⟨K3,q,a1,a2,a3,a4⟩:=Zr7 k2 ((k5 5 .d .d).trans q5) ((k5 6 .d .d).trans q6) (by rw[M'.bl];lia) hq
 refine⟨ρ2,K3,ps2++[p2],qs++[q],?_,a2,by simp at k3;lia,λa la=>(a4 a la).trans ((k4 a la).trans (kx a la)),λi hi=>(k5 i .l .l).trans (old i .l),k6⟩
 rw[eb,Zaa ef,Zaa k1,a1]
end
end L
namespace L
structure PrR(fns rs:List T)(sig:Nat->Nat×Nat): Prop where
 fn:∀h,h<fns.length->∃body r e,fns[h]?=some (.tup [.int (sig h).1,.int (sig h).2,.lst body])/\LyB (SL sig h (sig h).2 3) body 0 r e/\r.length<=9000/\rs[h]?=some (.lst r)
 sg:∀h,(sig h).1<=(sig h).2/\1<=(sig h).2/\(sig h).2<=4
theorem PrR.pr{rs:List T}(P:PrR fns rs sig): PrOk fns sig:=⟨λh hh=>by
 obtain⟨b,r,e,h1,h2,h3,_⟩:=P.fn h hh
 exact⟨b,r,e,h1,h2,h3⟩,P.sg⟩
theorem Zmh: ∀(k:Nat) {ts r:List T} {u e:Int},LyB (SL sig g n k) ts u r e->∀x∈r,∃a t b,x=rowT a t b:=λk ts r u e h x m=>by
 obtain⟨_,bt⟩:=Zci (Zb5 k) h
 obtain⟨a,t,b,q,_⟩:=bt x m
 exact⟨a,t,b,q⟩
theorem Zm7{rs:List T}(P:PrR fns rs sig)(hl:fns.length<=100): ∃tw en,Zc4 [.lst fns]=some tw/\Wp fns tw sig fns.length en/\Wl rs tw fns.length en:=by
 obtain⟨pls,p1,p2⟩:=Zl9 P.sg fns 0 (λj hj=>by rw[Nat.zero_add];exact P.pr.fn j hj)
 have key:∀h,∃e:Int,h<fns.length->∃body r,fns[h]?=some (.tup [.int (sig h).1,.int (sig h).2,.lst body])/\LyB (SL sig h (sig h).2 3) body 0 r e/\0<=e/\rs[h]?=some (.lst r)/\r.length<=9000/\∀q bs,0<=q->q<=e->ZaO (.lst pls) ((h:Int),q,bs)=some (r.filter (src q)):=λh=>by
  by_cases hh:h<fns.length
  ·obtain⟨body,r,e,z1,z2,z3,z4⟩:=p2 h hh
   rw[Nat.zero_add]at z1 z2
   obtain⟨body',r',e',y1,y2,y3,y4⟩:=P.fn h hh
   rw[z1]at y1
   cases y1
   have s60:∀h,(sig h).1<=60:=λh=>by have:=P.sg h;lia
   have n60:(sig h).2<=60:=by have:=P.sg h;lia
   have dt:=Zey (Zez 3) (ZbL (Zdy n60 s60 3) z2) (ZbL (Zdy n60 s60 3) y2)
   have hrl:r.length<=9000/\r=r':=by rw[dt.1];exact⟨y3,rfl⟩
   obtain⟨rl,rfl⟩:=hrl
   refine⟨e,λ_=>⟨body,r,z1,z2,z3,y4,y3,λq bs q0 q1=>?_⟩⟩
   have i1:=Zi1 (ts:=pls) (k:=(h:Int)) .l (by simpa using z4)
   have i2:=Zi1 (ts:=(List.range (e.toNat+1)).map λ(p:Nat)=>T.lst (r.filter (src p))) (k:=q) (t:=.lst (r.filter (src q))) q0 (by
    rw[List.getElem?_map,List.getElem?_range .l]
    simp only[Ys1]
    rw[show((q.toNat:Nat):Int)=q by lia])
   simp only[ZaO,unL,Ys0,i1,byP,i2]
  ·exact⟨0,λq=>absurd q hh⟩
 refine⟨.lst pls,λh=>Classical.choose (key h),by simp only[Zc4];rw[if_pos .l,p1];rfl,⟨λh hh q bs q0 q1=>?_,λh hh bs=>?_,λh hh=>?_,λh _=>P.sg h,λh hh=>?_⟩,⟨λh hh=>?_⟩⟩
 ·obtain⟨b,r,h1,h2,h3,h4,h5,h6⟩:=Classical.choose_spec (key h) hh
  exact⟨_,h6 q bs q0 .o,ZdP (ZdU 3) h2 .l q q0 q1⟩
 ·obtain⟨b,r,h1,h2,h3,h4,h5,h6⟩:=Classical.choose_spec (key h) hh
  obtain⟨_,bt⟩:=Zci (Zb5 3) h2
  rw[h6 _ bs h3 (Int.le_refl _),ZbQ bt (.inr (Int.le_refl _))]
 ·obtain⟨b,r,h1,h2,h3,h4,h5,h6⟩:=Classical.choose_spec (key h) hh
  exact h3
 ·obtain⟨b,r,h1,_⟩:=Classical.choose_spec (key h) hh
  exact⟨b,h1⟩
 ·obtain⟨b,r,h1,h2,h3,h4,h5,h6⟩:=Classical.choose_spec (key h) hh
  exact⟨r,h4,Zmh 3 h2,h5,h6⟩
section
variable {fr mk L0:Nat} {fns rs:List T} {tw:T} {sig:Nat->Nat×Nat} {nf:Nat} {en:Nat->Int} {ks:List Int} {vp vw:V} {kk:Nat} {steps:Int}
def ZgM: Ts:=Zl (Zc oLe (Zg ZZ (Zb (Za 6) Ze)) (Za 4))
theorem ZtL{t:Ts}{b c:Sm}(ht:t U K=some (false,K)): Zh (Zbf t b (n+1)) c U K=c U K:=by
 simp[Zh,Zbf,ht]
theorem ZuB{t:Ts}{b c:Sm}(ht:t U K=some (true,K))(hb:b U K=some (none,B,K1)): Zh (Zbf t b (n+1)) c U K=Zh (Zbf t b n) c B K1:=by
 simp[Zh,Zbf,ht,hb]
theorem ZtM{t:Ts}{b c:Sm}(ht:t U K=some (true,K))(hb:b U K=some (some v,B,K1)): Zh (Zbf t b (n+1)) c U K=some (some v,B,K1):=by
 simp[Zh,Zbf,ht,hb]
theorem Zlc(hm:K[mk]?=some (qs.map λp=>V.ref p.1))(h4:U 4=some (.int steps))(h6:U 6=some (.ref mk)): ZgM U K=some (decide ((qs.length:Int)<=steps),K):=by
 simp[ZgM,Zl,Zc,Zg,Zb,Ze,Za,h6,Zb6 hm,h4,Zab]
def ZuC(K:Hp)(mk L0:Nat)(hist:List Mo)(o:Option (Option V×Lc×Hp)): Prop:=∃O K' qs,o=some (some (.ref mk),O,K')/\K'[mk]?=some (qs.map λp=>V.ref p.1)/\Fms K' qs hist/\(mk::adr qs).Nodup/\(∀a∈mk::adr qs,L0<=a)/\K.length<=K'.length/\∀a,a<L0->K'[a]?=K[a]?
theorem Gm.out{ps:List (Nat×Nat)}{ms hist:List Mo}(G:Gm K fr mk L0 ps ms qs hist): (mk::adr qs).Nodup/\∀a∈mk::adr qs,L0<=a:=by
 have nd:=G.nd
 simp only[List.nodup_cons,List.mem_cons,List.mem_append,List.nodup_append,not_or]at nd
 obtain⟨_,⟨_,m4⟩,_,n4,_⟩:=nd
 refine⟨List.nodup_cons.mpr ⟨m4,n4⟩,λa q=>G.lo a ?_⟩
 simp only[List.mem_cons,List.mem_append]at q ⊢
 rcases q with q | q <;> simp[q]
theorem Zld(W:Wp fns tw sig nf en)(hnf:nf<=100)(WL:Wl rs tw nf en)(kl:kk<L0)(hst:steps<=900): ∀(k fuel:Nat) (s:RS) (K:Hp) (U:Lc) (ps qs:List (Nat×Nat)) (hist:List Mo) (r:List Mo×Nat),Inv tw sig nf en s->Gm K fr mk L0 ps (s.wt.map (·.1)++[s.m]) qs hist->RFo K vp (.lst fns) (· < L0)->RFo K vw (.lst rs) (· < L0)->K[kk]?=some (ks.map V.int)->U 0=some vp->U 1=some vw->U 3=some (.ref kk)->U 4=some (.int steps)->U 5=some (.ref fr)->U 6=some (.ref mk)->U 7=some (.int s.n)->1<=hist.length->steps.toNat+1=hist.length+k->k<fuel->ZbI (.lst fns) tw ks k s=some r->ZuC K mk L0 (hist++r.1) (Zh (Zbf ZgM ZdV fuel) (Zo (Za 6)) U K)
 | k,0,s,K,U,ps,qs,hist,r,I,G,rp,rw_,rk,h0,h1,h3,h4,h5,h6,h7,hh,hk,hf,e=>by lia
 | 0,fuel+1,s,K,U,ps,qs,hist,r,I,G,rp,rw_,rk,h0,h1,h3,h4,h5,h6,h7,hh,hk,hf,e=>by
  cases e
  have t:=Zlc G.hm h4 h6
  have lq:=G.hs.length
  rw[decide_eq_false .l]at t
  obtain⟨o1,o2⟩:=G.out
  exact⟨U,K,qs,by rw[ZtL t];simp[Zo,Za,h6],G.hm,by simpa using G.hs,o1,o2,Nat.le_refl _,λ_ _=>rfl⟩
 | k+1,fuel+1,s,K,U,ps,qs,hist,r,I,G,rp,rw_,rk,h0,h1,h3,h4,h5,h6,h7,hh,hk,hf,e=>by
  have t:=Zlc G.hm h4 h6
  have lq:=G.hs.length
  rw[decide_eq_true .l]at t
  rcases Zi2 (ks:=ks) W hnf I with en | ⟨en,s',st,e2,I'⟩
  ·obtain⟨O,us,eb⟩:=ZqO WL I G rw_ h1 h5 h6 en
   have G1:=G.ext [us]
   obtain⟨o1,o2⟩:=G1.out
   have hr:r.1=[]:=by
    simp only[ZbI,en,Ys0,if_true]at e
    cases e
    rfl
   have lK:L0<=K.length:=by have:=G.lo fr .s;have:=G.lt fr .s;lia
   refine⟨O,K++[us],qs,ZtM t eb,G1.hm,by rw[hr,List.append_nil];exact G1.hs,o1,o2,.s,λa la=>Yy0 .l⟩
  ·obtain⟨O,K',ps',qs',b1,b2,b3,b4,b5,b6⟩:=Zr9 W hnf WL I G rp rw_ rk kl h0 h1 h3 h5 h6 h7 .l en st I'
   simp only[ZbI,en,Ys0,Bool.false_eq_true,if_false,e2]at e
   obtain⟨r',e3,e4⟩:=Zz1.mp e
   subst e4
   obtain⟨ρ2,K2,qs2,c1,c2,c3,c4,c5,c6,c7⟩:=Zld W hnf WL kl hst k fuel s' K' O ps' qs' (hist++[s'.m]) r' I' b2 (rp.keep λa la _=>b4 a la) (rw_.keep λa la _=>b4 a la) ((b4 kk kl).trans rk) ((b5 0 .d).trans h0) ((b5 1 .d).trans h1) ((b5 3 .d).trans h3) ((b5 4 .d).trans h4) ((b5 5 .d).trans h5) ((b5 6 .d).trans h6) b6 .s (by simp;lia) .l e3
   exact⟨ρ2,K2,qs2,by rw[ZuB t b1];exact c1,c2,by simpa using c3,c4,c5,.l,λa la=>(c7 a la).trans (b4 a la)⟩
end
end L
namespace L
def ZgN: List T->Option T
 | [t]=>ZdB t
 | _=>none
theorem Zmi: ZaZ true ZcM ZgN:=λH vs ts t F1 hp r e=>by
 unfold ZgN at e
 split at e
 case h_2=>cases e
 cases r with
 | cons r0 r1=>
  cases r1
  obtain⟨v,X,F,g1,g2,g3⟩:=Zko hp r0 e
  exact⟨v,X,F,g1,g2,λa m=>.inl (g3.2 a m),λ_=>g3⟩
def Za1(t:T): Option (Int×T):=(un3 t).bind λr=>(unI r.1).bind λa=>(Za9 r.2.1).bind λas=>as[1]?.bind λc=>(as[0]?.bind unS).bind λw=>if w=wY then some (a,c)else none
theorem Zmj{a:Int}(e:Za1 (rowT a t b)=some y): y.1=a/\∃as,t=.tup as/\as[0]?=some (.str wY):=by
 obtain⟨as,f1,e⟩:=Zz0.mp (show((Za9 t).bind λas=>as[1]?.bind λc=>(as[0]?.bind unS).bind λw=>if w=wY then some (a,c)else none)=some y from e)
 obtain⟨c,_,e⟩:=Zz0.mp e
 obtain⟨w,f2,e⟩:=Zz0.mp e
 obtain⟨t0,f2,f3⟩:=Zz0.mp f2
 split at e
 case isFalse=>cases e
 rename_i hw
 cases e
 exact⟨rfl,as,Zem f1,by rw[f2,ZkX f3,hw]⟩
def Zal(r:List T): List (Int×T):=r.filterMap Za1
noncomputable def ZaK(f:Nat)(x:Int×T): T:=.tup [.int f,.int x.1,x.2]
def Z5: Nat->List (List T)->List T
 | _,[]=>[]
 | i,r::rs=>(Zal r).map (ZaK i)++Z5 (i+1) rs
def Zhi(n:Nat)(x:T): Prop:=∃a w rest b,x=rowT a (.tup (.str w::rest)) b/\PyData.strOk w=true/\(w=wY->∃c,rest=[c]/\ClOk n c)
theorem Zle(h:Out sig g n q e l): (∀x∈l,Zhi n x)/\(Zal l=[]∨∃c,Zal l=[(q,c)]/\ClOk n c):=by
 cases h with
 | @one act q' ha _ _=>
  rcases ha with ha | rfl
  ·cases ha with
   | @say c hc=>
    refine⟨λx m=>?_,.inr ⟨c,?_,hc⟩⟩
    ·rw[List.mem_singleton.mp m];exact⟨q,_,_,q',rfl,.D,λ_=>⟨c,rfl,hc⟩⟩
    ·show List.filterMap Za1 [rowT q (.tup [.str "say",c]) q']=_
     simp[Za1,rowT,wY,un3,Za9,unI,unS]
   | _=>
    refine⟨λx m=>?_,.inl ?_⟩
    ·rw[List.mem_singleton.mp m];exact⟨q,_,_,q',rfl,.D,λh=>absurd h .D⟩
    ·simp only[Zal,rowT,List.filterMap_cons,List.filterMap_nil,Za1,un3,Za9,unI,unS,Ys0,List.getElem?_cons_zero,List.getElem?_cons_succ]
     rw[if_neg .D]
  ·refine⟨λx m=>?_,.inl rfl⟩
   rw[List.mem_singleton.mp m];exact⟨q,_,_,q',rfl,.D,λh=>absurd h .D⟩
 | @two c a b hc _ _ _ _=>
  refine⟨λx m=>?_,.inl ?_⟩
  ·simp only[List.mem_cons,List.not_mem_nil,or_false]at m
   rcases m with rfl | rfl
   ·exact⟨q,_,_,a,rfl,.D,λh=>absurd h .D⟩
   ·exact⟨q,_,_,b,rfl,.D,λh=>absurd h .D⟩
  ·simp only[Zal,rowT,Zak,List.filterMap_cons,List.filterMap_nil,Za1,un3,Za9,unI,unS,Ys0,List.getElem?_cons_zero,List.getElem?_cons_succ]
   rw[if_neg .D]
theorem Zlf{q:Int}: ∀{r:List T},(∀x∈r,∃a t b,x=rowT a t b)->Zal (r.filter (src q))=(Zal r).filter λx=>x.1 == q
 | [],_=>rfl
 | x::r,h=>by
  have ih:=Zlf (q:=q) (r:=r) λy m=>h y (Zz2 _ m)
  obtain⟨a,t,b,rfl⟩:=h x Zz5
  have hx:∀y,Za1 (rowT a t b)=some y->y.1=a:=λy e=>(Zmj e).1
  unfold Zal at *
  by_cases c:a=q
  ·rw[Zb9 c,List.filterMap_cons,List.filterMap_cons]
   cases e:Za1 (rowT a t b)with
   | none=>exact ih
   | some y=>
    have:=hx y e
    simp only[List.filter_cons,this,c,beq_self_eq_true,if_true,ih]
  ·rw[ZaW c,List.filterMap_cons]
   cases e:Za1 (rowT a t b)with
   | none=>exact ih
   | some y=>
    have:=hx y e
    have hne:(a == q)=false:=by simp[c]
    simp only[List.filter_cons,this,hne,Bool.false_eq_true,if_false,ih]
section
variable {sig:Nat->Nat×Nat} {g n:Nat} {body r:List T} {e:Int}
theorem ZeD(h:LyB (SL sig g n 3) body 0 r e): (∀x∈r,Zhi n x)/\∀q:Int,((Zal r).filter λx=>x.1 == q)=[]∨∃c,((Zal r).filter λx=>x.1 == q)=[(q,c)]/\ClOk n c:=by
 obtain⟨le,bt⟩:=Zci (Zb5 3) h
 have hrow:=Zmh 3 h
 refine⟨λx m=>?_,λq=>?_⟩
 ·obtain⟨a,t,b,rfl,l1,l2⟩:=bt x m
  have:=Zle (ZdP (ZdU 3) h .l a l1 l2)
  exact this.1 _ (Yy9.mpr ⟨m,by rw[Zgn];simp⟩)
 ·rw[<-Zlf hrow]
  by_cases c:0<=q/\q<e
  ·exact(Zle (ZdP (ZdU 3) h .o q c.1 c.2)).2
  ·rw[ZbQ bt .l]
   exact .inl rfl
end
theorem Zkq{r:List T}: ∀(rs:List (List T)) (i:Nat),Z5 i (rs++[r])=Z5 i rs++(Zal r).map (ZaK (i+rs.length))
 | [],i=>by simp[Z5]
 | q::rs,i=>by
  rw[List.cons_append,Z5,Z5,Zkq rs (i+1),List.append_assoc]
  rw[show i+1+rs.length=i+(q::rs).length by simp;lia]
theorem Zkr(e:rs[i]?=some r): Z5 0 (rs.take (i+1))=Z5 0 (rs.take i)++(Zal r).map (ZaK i):=by
 have hi:=(Zz6.mp e).1
 rw[List.take_add_one,e]
 have:=Zkq (r:=r) (rs.take i) 0
 rw[show 0+(rs.take i).length=i by simp;lia]at this
 exact this
theorem Zlg(r:List T): (Zal r).length<=r.length:=List.length_filterMap_le _ _
theorem Zlh{c:Nat}: ∀(rs:List (List T)) (i:Nat),(∀r∈rs,r.length<=c)->(Z5 i rs).length<=c*rs.length
 | [],i,_=>by simp[Z5]
 | r::rs,i,h=>by
  have h1:=Zlh rs (i+1) λr m=>h r (Zz2 _ m)
  have h2:=h r Zz5
  have h3:=Zlg r
  rw[Z5,List.length_append,List.length_map,List.length_cons,Nat.mul_succ]
  lia
end L
namespace L
def Ziq: Sm:=Zh (Zk 1 (ZB Ze)) (Zh (Zac (ZgW (Za 0)) (ZcZ 2 3) (Zh (Zk 4 (Zg ZcM (Zb (Zc Zf (Za 3) (Zd 2)) Ze))) (ZN (Zgb (Za 1) (Z3 (Zhc (Za 4)) (Zhb 100 101 102) (Zl (Zc ZA (Zc Zf (Za 101) (Zd 0)) (ZF "say"))) (ZO (Zb (Za 2) (Zb (Za 100) (Zb (Zc Zf (Za 101) (Zd 1)) Ze))))))))) (Zo (Za 1)))
def Zen: .y:=Zs 1 Ziq
end L
namespace L
section
variable {U:Lc} {H K M:Hp} {a b:Nat} {Q:V->Hp->Prop} {R:V->Hp->Prop} {N:Lc->Hp->Prop}
theorem Zsa{f:PM.Ex}{G:Nx->Nat->Hp->Prop}(h:Ok (f U H) λx M=>∃a vs,x=.ref a/\M[a]?=some vs/\G (ZcS a) (vs.length+1) M): Okg (ZgW f U H) G:=by
 obtain⟨x,M,e,a,vs,rfl,ea,g⟩:=h
 exact⟨_,_,_,by simp[ZgW,Zjn,e,ea],g⟩
theorem Zsb{f:PM.Ex}{G:Nx->Nat->Hp->Prop}(h:Ok (f U H) λx M=>∃a vs,x=.ref a/\M[a]?=some vs/\G (ZI a) (vs.length+1) M): Okg (Zhc f U H) G:=by
 obtain⟨x,M,e,a,vs,rfl,ea,g⟩:=h
 exact⟨_,_,_,by simp[Zhc,ZjB,e,ea],g⟩
theorem ZtN{o f:PM.Ex}(h:Ok (o U H) λx M=>Ok (f U M) λy K=>∃a b vs us,x=.ref a/\y=.ref b/\K[a]?=some vs/\K[b]?=some us/\a≠0/\a≠b/\vs.length+us.length<=ZK/\Q .none (K.set a (vs++us))): Ok (Zgb o f U H) Q:=by
 walk_at "p"
 obtain⟨_,M,e,_,K,e',a,b,vs,us,rfl,rfl,ea,eb,h0,hn,hl,q⟩:=h
 exact⟨_,_,by simp[Zgb,e,e',Zga,ea,eb,h0,hn,hl],q⟩
theorem Zsc(h:L.Exq [] H M): ∃X,M=H++X:=by
 refine⟨M.drop H.length,?_⟩
 apply List.ext_getElem?
 intro i
 by_cases c:i<H.length
 ·rw[Yy0 c];exact h.2 i c .s
 ·rw[Yy5 .l,List.getElem?_drop]
  congr 1
  omega
theorem Zf0{y:Int}(h:RF M v (rowT x (.tup (.str w::rest)) y) F): ∃vr G,v=.tup [.int x,.tup (.str w::vr),.int y]/\RFs M vr rest G/\∀c∈G,c∈F:=by
 unfold rowT at h
 right
 obtain⟨a,b,c,F1,F2,F3,rfl,rfl,r1,r2,r3⟩:=h.i3
 obtain⟨us,rfl,q⟩:=r2.itup
 obtain⟨v,vr,G1,G2,rfl,rfl,r4,r5⟩:=q.icons
 left
 rw[r1.iint.1,r3.iint.1,r4.istr.1]
 exact⟨_,_,rfl,r5,λc m=>by simp[m]⟩
theorem Zsd{x y z:T}(h:RF M v (.tup [x,y,z]) F): ∃v1 v2 v3 G,v=.tup [v1,v2,v3]/\RFs M [v3] [z] G:=by
 obtain⟨a,b,c,F1,F2,F3,rfl,_,_,_,r3⟩:=h.i3
 exact⟨_,_,_,_,rfl,.one r3⟩
structure SyOk(fs:List T)(rs:List (List T)): Prop where
 len:rs.length=fs.length
 fn:∀(i:Nat) (t:T),fs[i]?=some t->∃(x y b:T) (r:List T),t=.tup [x,y,b]/\rs[i]?=some r/\ZgN [b]=some (.lst r)/\r.length<=9000/\∀z∈r,∃n,Zhi n z
 small:∀i,(Z5 0 (rs.take i)).length<=27000
theorem Zox(h0:0<H.length)(ea:H[a]?=some vs)(rv:RFs H vs fs F1)(S:SyOk fs rs): Ok (Zen [.ref a] H) λv M=>∃X F,M=H++X/\RF M v (.lst (Z5 0 rs)) F/\∀b∈F,H.length<=b:=by
 walk_at "p"
 have lv:=rv.length
 unfold Zen Ziq
 refine Z7 rfl ?_
 refine Zae (Zbd (ZcN (Zan ⟨.s,?_⟩)))
 generalize hb:H.length=b
 refine Zae (ZbR (Zsa (Zr .w ⟨a,vs,rfl,Zz ea,?_⟩)))
 let QL:Nat->Lc->Hp->Prop:=λi U M=>U 0=some (.ref a)/\U 1=some (.ref b)/\L.Exq [] H M/\∃us F,M[b]?=some us/\RFs M us (Z5 0 (rs.take i)) F/\∀c∈F,b<c
 refine Zf8 (m:=vs.length) QL ?_ ?_ ?_ ?_
 ·exact⟨.w,.w,Exq.refl.app,[],[],by rw[<-hb];exact Zv _ _,.nil,.s⟩
 ·intro i U M hi q9;obtain⟨e0,e1,ex,us,F,eb,ru,hF⟩:=q9
  right
  have eaM:M[a]?=some vs:=(ex.2 a (lt_of_at ea) .s).trans ea
  obtain⟨t,ht⟩:∃t,fs[i]?=some t:=⟨fs[i],Yy1 .o⟩
  obtain⟨x,y,bt,r,rfl,er,hrow,hlr,hS⟩:=S.fn i t ht
  obtain⟨v,Fv,ev,rfv,_⟩:=rv.at ht
  obtain⟨v1,v2,v3,G,rfl,r3⟩:=Zsd rfv
  left
  refine⟨.tup [.int i,.tup [v1,v2,v3]],_,by simp[ZcS,eaM,ev],rfl,?_⟩
  right
  have r3M:RFs M [v3] [bt] G:=r3.frame λc m=>ex.2 c (r3.lt c m) .s
  obtain⟨vr,X,Fr,g1,g2,_,g4⟩:=Zmi M [v3] [bt] _ G (by have:=ex.1;lia) r3M hrow
  obtain⟨_,gF⟩:=g4 rfl
  obtain⟨c,ws,Gr,rfl,ec,rw',hGr⟩:∃c ws Gr,vr=.ref c/\(M++X)[c]?=some ws/\RFs (M++X) ws r Gr/\∀z∈Gr,z∈Fr:=by
   cases g2 with
   | ref e r=>exact⟨_,_,_,rfl,e,r,λz m=>Yy3 _ m⟩
  left
  refine Zae (Zbd ?_)
  refine Zay (ZX (Z6 (Zr .w (Zav (Zbe .d rfl (Zan ?_))))))
  refine Ok.of g1 ?_
  refine Zgw (ZtN (Zr .w (ZbY (Zsb (Zr .w ⟨c,ws,rfl,ec,?_⟩)))))
  have lw:=rw'.length
  have bM:=lt_of_at eb
  let QL:Nat->List V->Hp->Prop:=λj acc M'=>M'=M++X/\∃G,RFs (M++X) acc ((Zal (r.take j)).map (ZaK i)) G/\(∀z∈G,M.length<=z)/\acc.length<=j
  refine ZbG QL (by rw[ZD];lia) ⟨rfl,[],.nil,.s,.s⟩ ?_ ?_ ?_
  ·intro j acc _ hj q9;obtain⟨rfl,G',ra,hG',la⟩:=q9
   right
   obtain⟨z,hz⟩:∃z,r[j]?=some z:=⟨r[j],Yy1 .o⟩
   obtain⟨n,x',w,rest,y',rfl,hok,hsay⟩:=hS z (Yy4 hz)
   obtain⟨vz,Fz,evz,rfz,hFz⟩:=rw'.at hz
   obtain⟨vr,Gz,rfl,rz,hGz⟩:=Zf0 rfz
   left
   refine⟨la,.tup [.int x',.tup (.str w::vr),.int y'],_,by simp[ZI,ec,evz],rfl,?_⟩
   have tk:Zal (r.take (j+1))=Zal (r.take j)++(Za1 (rowT x' (.tup (.str w::rest)) y')).toList:=by
    unfold Zal
    rw[List.take_add_one,hz,List.filterMap_append]
    cases hq:Za1 (rowT x' (.tup (.str w::rest)) y') <;> simp[hq]
   have hZ:∀z∈Gz,M.length<=z:=λz m=>gF z (hGr z (hFz.subset (hGz z m)))
   refine ZaD (Z6 (Z6 (Zr .w (Zav (Zbe .d rfl (ZeF ?_))))))
   refine Zgx hok .D (Zaq ?_)
   by_cases q:w=wY
   ·right
    obtain⟨cc,rfl,_⟩:=hsay q
    subst q
    have hs:Za1 (rowT x' (.tup [.str wY,cc]) y')=some (x',cc):=by
     show(if wY=wY then some (x',cc)else none)=_
     rw[if_pos rfl]
    rw[hs]at tk
    left
    cases rz with
    | cons rc rn=>
     cases rn
     refine Za7 .D ?_
     repeat' fail
     refine⟨rfl,G'++_,?_,λz m=>(Zz8.mp m).elim (hG' z) (hZ z),by simp;omega⟩
     rw[tk,List.map_append]
     have:=rfs_app (.cons (.tup (.cons (.int (i:Nat)) (.cons (.int x') (.cons rc .nil)))) .nil) ra
     simp only[List.nil_append,List.append_nil]at this ⊢
     exact this
   ·have hs:Za1 (rowT x' (.tup (.str w::rest)) y')=none:=by
     cases rest with
     | nil=>rfl
     | cons c r=>
      show(if w=wY then some (x',c)else none)=_
      rw[if_neg q]
    rw[hs]at tk
    refine ZaV (by simp[PyData.eqv];exact q) ⟨rfl,G',?_,hG',.l⟩
    rw[tk]
    simpa using ra
  ·intro acc _ q9;obtain⟨rfl,_⟩:=q9
   simp[ZI,ec]
  ·intro acc _ q9;obtain⟨rfl,G',ra,hG',la⟩:=q9
   rw[lw,List.take_length]at ra
   have sm:=S.small i
   have lu:=ru.length
   have la':acc.length<=9000:=by lia
   have hb':b<(M++X).length:=by simp;lia
   refine⟨b,(M++X).length,us,acc,rfl,rfl,Zz (ZW eb),Zv _ _,.l,.l,by rw[ZD];lia,?_⟩
   have fr:∀z,b<z->z<(M++X).length->((M++X++[acc]).set b (us++acc))[z]?=(M++X)[z]?:=λz h1 h2=>by rw[Yy2 .l,Yy0 h2]
   refine⟨.w,.w,⟨?_,λz hz _=>?_⟩,us++acc,F++G',Yy6 (by simp;lia),?_,λz m=>(Zz8.mp m).elim (hF z) λm=>?_⟩
   ·have:=ex.1
    simp
    lia
   ·rw[Yy2 .l,List.append_assoc,Yy0 (by have:=ex.1;lia)]
    exact ex.2 z hz .s
   ·rw[Zkr er]
    have r1:=ru.ext X
    exact rfs_app (ra.frame λz m=>fr z (by have:=hG' z m;lia) (ra.lt z m)) (r1.frame λz m=>fr z (hF z m) (r1.lt z m))
   ·have:=hG' z m
    omega
 ·intro U M q9;obtain⟨e0,e1,ex,_⟩:=q9
  have eaM:M[a]?=some vs:=(ex.2 a (lt_of_at ea) .s).trans ea
  simp[ZcS,eaM]
 ·intro U M q9;obtain⟨e0,e1,ex,us,F,eb,ru,hF⟩:=q9
  refine Za3 (Zr e1 ?_)
  obtain⟨X,hX⟩:=Zsc ex
  rw[lv,<-S.len,List.take_length]at ru
  exact⟨X,b::F,hX,.ref eb ru,λc m=>by
   rcases Zz7.mp m with rfl | m
   ·lia
   ·have:=hF c m;lia⟩
end
end L
namespace L
theorem SyOk.uniq{rs':List (List T)}(S:SyOk fs rs)(S':SyOk fs rs'): rs=rs':=by
 apply List.ext_getElem?
 intro i
 have h1:=S.len
 have h2:=S'.len
 by_cases c:i<fs.length
 ·obtain⟨x,y,b,r,e1,e2,e3,_⟩:=S.fn i _ (Yy1 c)
  obtain⟨x',y',b',r',e1',e2',e3',_⟩:=S'.fn i _ (Yy1 c)
  rw[e1]at e1'
  cases e1'
  rw[e3]at e3'
  cases e3'
  rw[e2,e2']
 ·rw[Yy8 .l,Yy8 .l]
open Classical in
def ZeR: List T->Option T
 | [.lst fs]=>if h:∃rs,SyOk fs rs then some (.lst (Z5 0 h.choose))else none
 | _=>none
theorem Zse(S:SyOk fs rs): ZeR [.lst fs]=some (.lst (Z5 0 rs)):=by
 have h:∃rs,SyOk fs rs:=⟨rs,S⟩
 simp only[ZeR]
 rw[dif_pos h,h.choose_spec.uniq S]
theorem Zsf: ZaZ false Zen ZeR:=λH vs ts t F1 hp r e=>by
 unfold ZeR at e
 split at e
 case h_2=>cases e
 split at e
 case isFalse=>cases e
 rename_i fs h
 cases e
 cases r with
 | cons r0 r1=>
  cases r1
  cases r0 with
  | ref ea rv=>
   obtain⟨v,M,e,X,F,rfl,rf,hF⟩:=Zox hp ea rv h.choose_spec
   exact⟨v,X,F,e,rf,λa m=>.inl (hF a m),λz=>by cases z⟩
section
variable {p q:Nat} {ns:List Int} {K:Hp}
theorem Zks{L:List V->Hp->Prop}(t:Tp p q ns K)(hk:k<=100)(ej:U j=some (.ref p))(hj:j≠m)(done:∀(is:List Int) M,Ws p q ns K M->is.length=k->(∀i∈is,C60 i)->L (is.map V.int) M): Okl (Zah (ZaL 0 1 k) (Zw m) ZJ (Zg ZcI (Zb (Za j) Ze)) U (k+1) 0 [] K) L:=by
 let QL:Nat->List V->Hp->Prop:=λi acc M=>∃is:List Int,acc=is.map V.int/\Ws p q ns K M/\is.length=i/\∀i∈is,C60 i
 refine ZbG QL (by rw[ZD];lia) ⟨[],rfl,t.ws,rfl,.s⟩ ?_ (λacc K h=>by simp) (λacc M ⟨is,e,w,hl,hs⟩=>e▸done is M w hl hs)
 intro i _ M hi q9;obtain⟨is,rfl,w,hl,hs⟩:=q9
 refine⟨by simp[hl],.int i,_,by rw[Zeh,if_pos hi];simp,Zbr _ _ _,Zbl ⟨λ_=>?_,.s⟩⟩
 refine Zay (ZX (Zr (ZaN hj ej) (Zan ?_)))
 refine(ZfT w.tp).mono ?_
 intro _ M1 q9;obtain⟨x1,z,rfl,hz⟩:=q9
 refine⟨is++[z],.s,w.trans x1,by simp[hl],λu m=>?_⟩
 rcases Zz8.mp m with m | m
 ·exact hs u m
 ·rw[List.mem_singleton.mp m];exact hz
end
end L
namespace L
def ZhO: Sm:=Zh (Zk 5 (ZB (Zb (Zg Zcu (Zb (Za 0) (Zb (Zc Zai (Zg ZZ (Zb (Za 0) Ze)) (Zd 1)) (Zb (Za 2) Ze)))) Ze))) (Zh (Zk 6 (ZB (Zb (Zg Zct (Zb (Zc Zf (Za 5) (Zd 0)) Ze)) Ze))) (Zh (Zk 7 (Zd 0)) (Zh (Zbf (Zl (Zc oLe (Zg ZZ (Zb (Za 6) Ze)) (Za 4))) (Zh (Zk 8 (Zc Zf (Za 5) (ZE Zax (Zd 1)))) (Zh (Zk 9 (Z3 (ZQ (Zc Zf (Za 1) (Zc Zf (Za 8) (Zd 0)))) (Zw 100) (Zl (Zc ZA (Zc Zf (Za 100) (Zd 0)) (Zc Zf (Za 8) (Zd 1)))) (Za 100))) (Zh (Zu (ZR (Zl (Zc ZA (Zg ZZ (Zb (Za 9) Ze)) (Zd 0))) (ZR (Zl (Zc ZA (Zg ZZ (Zb (Za 5) Ze)) (Zd 1))) ZJ)) (Zo (Za 6)) ZG) (Zh (Zu (Zl (Zc ZA (Zg ZZ (Zb (Za 9) Ze)) (Zd 0))) (Zh (ZN (ZdE (Za 5))) (ZN (Zg Zei (Zb (Za 1) (Zb (Zc Zf (Za 5) (ZE Zax (Zd 1))) (Zb (Zc Zf (Zc Zf (Za 8) (Zd 2)) (ZE Zax (Zd 1))) Ze)))))) (Zu (Zl (Zc ZA (Zc Zf (Zc Zf (Zc Zf (Za 9) (Zd 0)) (Zd 1)) (Zd 0)) (ZF "call"))) (Zh (Zk 10 (Zc Zf (Zc Zf (Za 9) (Zd 0)) (Zd 1))) (ZN (Zag (Za 5) (Zg Zcu (Zb (Za 0) (Zb (Zc Zf (Za 10) (Zd 2)) (Zb (Z3 (ZQ (Zc Zf (Za 10) (Zd 3))) (Zw 102) ZJ (Zg Zcc (Zb (Za 102) (Zb (Zc Zf (Za 8) (Zd 2)) Ze)))) Ze))))))) (Zu (Zl (Zc ZA (Zc Zf (Zc Zf (Zc Zf (Za 9) (Zd 0)) (Zd 1)) (Zd 0)) (ZF "any"))) (Zh (ZN (Zg Zc5 (Zb (Za 8) (Zb (Za 9) (Zb (Zg ZcX (Zb (ZaB (Za 3) (Zaw (Za 7)) (Zaw (Zc ZC (Za 7) (Zd 1)))) Ze)) Ze))))) (Zk 7 (Zc ZC (Za 7) (Zd 1)))) (ZN (Zg Zc5 (Zb (Za 8) (Zb (Za 9) (Zb (Zd 0) Ze)))))))) (ZN (Zag (Za 6) (Zg Zct (Zb (Zc Zf (Za 5) (ZE Zax (Zd 1))) Ze)))))))) 1000000) (Zo (Za 6)))))
def Zfw: .y:=Zs 5 ZhO
def ZuD(ts:List T)(t:T): Prop:=∃(fns rs:List T) (ss ks:List Int) (steps:Int) (sig:Nat->Nat×Nat) (tw:T) (r:List Mo×Nat),ts=[.lst fns,.lst rs,Zq ss,Zq ks,.int steps]/\PrR fns rs sig/\1<=fns.length/\fns.length<=100/\ss.length=(sig (fns.length-1)).1/\steps<=900/\Zc4 [.lst fns]=some tw/\ZbI (.lst fns) tw ks steps.toNat ⟨0,[],m0r sig (fns.length-1) ss⟩=some r/\t=.lst ((m0r sig (fns.length-1) ss::r.1).map ZbA)
noncomputable def Zfx: List T->Option T:=pf ZuD
theorem Zsg: ZhO=Zh (Zk 5 (ZB (Zb (Zg Zcu (Zb (Za 0) (Zb (Zc Zai (Zg ZZ (Zb (Za 0) Ze)) (Zd 1)) (Zb (Za 2) Ze)))) Ze))) (Zh (Zk 6 (ZB (Zb (Zg Zct (Zb (Zc Zf (Za 5) (Zd 0)) Ze)) Ze))) (Zh (Zk 7 (Zd 0)) (Zh (Zbf ZgM ZdV 1000000) (Zo (Za 6))))):=rfl
theorem nd6{b c d:Nat}(h1:a≠b)(h2:c≠d)(ha:a<f)(hb:b<f)(hc:f<c)(hd:f<d)(hm:c<m)(hn:d<m): (f::m::(adr [(a,b)]++adr [(c,d)])).Nodup:=by
 have fm:=Nat.lt_trans hc hm
 simp only[adr,List.flatMap_cons,List.flatMap_nil,List.append_nil,List.cons_append,List.nil_append,List.nodup_cons,List.mem_cons,List.not_mem_nil,or_false,not_or,List.nodup_nil,not_false_eq_true,and_true]
 exact⟨⟨Nat.ne_of_lt fm,(Nat.ne_of_lt ha).symm,(Nat.ne_of_lt hb).symm,Nat.ne_of_lt hc,Nat.ne_of_lt hd⟩,⟨(Nat.ne_of_lt (Nat.lt_trans ha fm)).symm,(Nat.ne_of_lt (Nat.lt_trans hb fm)).symm,(Nat.ne_of_lt hm).symm,(Nat.ne_of_lt hn).symm⟩,⟨h1,Nat.ne_of_lt (Nat.lt_trans ha hc),Nat.ne_of_lt (Nat.lt_trans ha hd)⟩,⟨Nat.ne_of_lt (Nat.lt_trans hb hc),Nat.ne_of_lt (Nat.lt_trans hb hd)⟩,h2⟩
theorem lo6{b c d l:Nat}(ha:l<=a)(hb:l<=b)(hf:l<=f)(hm:l<=m)(hc:l<=c)(hd:l<=d): ∀x∈f::m::(adr [(a,b)]++adr [(c,d)]),l<=x:=λx q=>by
 simp only[adr,List.flatMap_cons,List.flatMap_nil,List.append_nil,List.cons_append,List.nil_append,List.mem_cons,List.not_mem_nil,or_false]at q
 rcases q with rfl | rfl | rfl | rfl | rfl | rfl <;> assumption
theorem ZnW: ZaZ true Zfw Zfx:=λH vs ts t F1 hp r e=>by
 obtain⟨fns,rs,ss,ks,steps,sig,tw,rr,rfl,P,f1,f100,hss,hst,e4,e6,rfl⟩:=Zck e
 obtain⟨tw',en,w1,W,WL⟩:=Zm7 P f100
 rw[e4]at w1
 cases w1
 obtain⟨vp,_,rfl,rp,r⟩:=Z0 (P:=(· < H.length)) ⟨_,r,r.lt⟩
 obtain⟨vw,_,rfl,rw_,r⟩:=Z0 r
 obtain⟨vs0,_,rfl,rs0,r⟩:=Z0 r
 obtain⟨vk,_,rfl,rk0,r⟩:=Z0 r
 obtain⟨v3,_,rfl,r3,r⟩:=Z0 r
 have:=ZbP r;subst this
 have:=r3.int;subst this
 obtain⟨Fs,rs1,_⟩:=rs0
 obtain⟨Fk,rk1,lk⟩:=rk0
 obtain⟨sp,rfl,hs⟩:=Zdc rs1
 obtain⟨kk,rfl,hk⟩:=Zdc rk1
 generalize hlast:fns.length-1=last at *
 have hfl:last<fns.length:=by omega
 obtain⟨body,_,_,q1,_⟩:=P.fn last hfl
 obtain⟨sg1,sg2,sg3⟩:=P.sg last
 obtain⟨X1,p0,b1,b2,b3,b4,b5⟩:=Zkp rp hs q1 hss .l sg1
 have em:(((last:Nat):Int),(0:Int),ss++List.replicate ((sig last).2-(sig last).1) 0)=m0r sig last ss:=rfl
 rw[em]at b2
 generalize hm0:m0r sig last ss=m0 at *
 have lm0:m0.2.2.length<=60:=by rw[<-hm0];simp[m0r,hss];omega
 generalize hH1:H++X1=H1 at *
 have l1:H.length<=H1.length:=by rw[<-hH1];simp
 have k1:∀a,a<H.length->H1[a]?=H[a]?:=λa la=>by rw[<-hH1,Yy0 la]
 have lp1:=lt_of_at b2.1
 have lp2:=lt_of_at b2.2
 have f2:Fm (H1++[[V.ref p0.1]]) p0 m0:=b2.ext _
 obtain⟨X2,q0,c1,c2,c3,c4,c5⟩:=Zk8 f2 lm0
 have lH2:(H1++[[V.ref p0.1]]).length=H1.length+1:=by simp
 generalize hH3:H1++[[V.ref p0.1]]++X2=H3 at *
 have l3:H1.length+1<=H3.length:=by rw[<-hH3];simp
 have k3:∀a,a<H1.length->H3[a]?=H1[a]?:=λa la=>by rw[<-hH3,List.append_assoc,Yy0 la]
 have k3f:H3[H1.length]?=some [V.ref p0.1]:=by rw[<-hH3,List.append_assoc];simp
 have lq1:=lt_of_at c2.1
 have lq2:=lt_of_at c2.2
 have k4:∀a,a<H3.length->(H3++[[V.ref q0.1]])[a]?=H3[a]?:=λa la=>Yy0 la
 have G:Gm (H3++[[V.ref q0.1]]) H1.length H3.length H.length [p0] ([].map (λx:Mo×T=>x.1)++[m0]) [q0] [m0]:=by
  refine⟨(k4 _ .l).trans k3f,Fms.snoc (ps:=[]) (ms:=[]) .nil (b2.keep ((k4 _ .l).trans (k3 _ .o)) ((k4 _ .l).trans (k3 _ .o))),.s,Fms.snoc (ps:=[]) (ms:=[]) .nil (c2.ext _),?_,?_,hp⟩
  ·exact nd6 b5 c5 .o .o .l .l .o .o
  ·exact lo6 .o .o .o .l .l .l
 have I0:Inv tw sig fns.length en ⟨0,[],m0⟩:=by
  refine⟨⟨last,⟨by rw[<-hm0];rfl,hfl,by rw[<-hm0];exact Int.le_refl _,by rw[<-hm0];exact W.e0 _ hfl,by rw[<-hm0];simp[m0r,hss];omega⟩,by simpa using hfl⟩,λi fr e=>by simp at e⟩
 have kH:∀a,a<H.length->(H3++[[V.ref q0.1]])[a]?=H[a]?:=λa la=>(k4 a .l).trans ((k3 a .l).trans (k1 a la))
 generalize z:Zi (Zi (Zi (λi=>[vp,vw,V.ref sp,V.ref kk,V.int steps][i]?) 5 (.ref H1.length)) 6 (.ref H3.length)) 7 (.int 0)=U
 obtain⟨O,K',qs,d1,d2,d3,d4,d5,d6,d7⟩:=Zld (fr:=H1.length) (mk:=H3.length) (L0:=H.length) (vp:=vp) (vw:=vw) (kk:=kk) (ks:=ks) (steps:=steps) W f100 WL (lt_of_at hk) hst steps.toNat 1000000 ⟨0,[],m0⟩ (H3++[[V.ref q0.1]]) U [p0] [q0] [m0] rr I0 G (rp.keep λa la _=>kH a la) (rw_.keep λa la _=>kH a la) ((kH kk (lt_of_at hk)).trans hk) (by rw[<-z];simp[Zi]) (by rw[<-z];simp[Zi]) (by rw[<-z];simp[Zi]) (by rw[<-z];simp[Zi]) (by rw[<-z];simp[Zi]) (by rw[<-z];simp[Zi]) (by rw[<-z];simp[Zi]) .s (by simp;lia) .o e6
 have d7':∀a,a<H.length->K'[a]?=H[a]?:=λa la=>(d7 a la).trans (kH a la)
 have eK:=Zm3 (H:=H) (K:=K') (by simp at d6;lia) d7'
 refine⟨.ref H3.length,K'.drop H.length,H3.length::adr qs,?_,?_,λa q=>.inl (d5 a q),λ_=>⟨d4,d5⟩⟩
 ·rw[<-eK]
  unfold Zfw Zs
  rw[Zsg]
  simp only[List.length_cons,List.length_nil,if_true]
  have ln:=Zgk rp
  have ev0:∀H,Za 0 (λi=>[vp,vw,V.ref sp,V.ref kk,V.int steps][i]?) H=some (vp,H):=λ_=>rfl
  have ev2:∀H,Za 2 (λi=>[vp,vw,V.ref sp,V.ref kk,V.int steps][i]?) H=some (.ref sp,H):=λ_=>rfl
  rw[Zaa (B:=Zi (λi=>[vp,vw,V.ref sp,V.ref kk,V.int steps][i]?) 5 (.ref H1.length)) (H1:=H1++[[V.ref p0.1]]) (by
   have hb:(fns.length:Int)-1=((last:Nat):Int):=by omega
   simp only[Zk,ZB,Zb,Ze,Zg,ev0,ev2,Ys0,Zc,ln,Zd,Znc,hb,b1,List.length_cons,List.length_nil]
   rw[if_pos (by rw[ZD];decide)]
   rfl)]
  rw[Zaa (B:=Zi (Zi (λi=>[vp,vw,V.ref sp,V.ref kk,V.int steps][i]?) 5 (.ref H1.length)) 6 (.ref H3.length)) (H1:=H3++[[V.ref q0.1]]) (by
   have i0:Zf (.ref H1.length) (.int 0) (H1++[[V.ref p0.1]])=some (.ref p0.1,H1++[[V.ref p0.1]]):=by
    have:(H1++[[V.ref p0.1]])[H1.length]?=some [V.ref p0.1]:=by simp
    simp only[Zf,this];rfl
   have ev5:∀H,Za 5 (Zi (λi=>[vp,vw,V.ref sp,V.ref kk,V.int steps][i]?) 5 (.ref H1.length)) H=some (.ref H1.length,H):=λ_=>rfl
   simp only[Zk,ZB,Zb,Ze,Zg,ev5,Ys0,Zc,Zd,i0,c1,List.length_cons,List.length_nil]
   rw[if_pos (by rw[ZD];decide)]
   rfl)]
  rw[Zaa (B:=U) (H1:=H3++[[V.ref q0.1]]) (by rw[<-z];rfl)]
  rw[d1]
  rfl
 ·rw[<-eK]
  exact .ref d2 d3.rfs
theorem GoodP.nice(G:GoodP fs sig)(hl:fs.length<=8): Nice 12 (.lst fs):=.lst .l λt m=>by
 obtain⟨i,hi,rfl⟩:=List.getElem_of_mem m
 obtain⟨b,q1,q2,q3⟩:=G.fn i hi
 rw[Yy1 hi]at q1
 rw[Option.some.inj q1]
 exact .tup .s (Z2 (.int _) (Z2 (.int _) (Z2 (.lst .l λt m=>(q3 t m).2) nl0)))
theorem GoodP.rows(G:GoodP fs sig): ∃rs:List (List T),PrR fs (rs.map T.lst) sig/\rs.length=fs.length/\∀h,h<fs.length->∃body r e,fs[h]?=some (.tup [.int (sig h).1,.int (sig h).2,.lst body])/\body.length<=8/\rs[h]?=some r/\LyB (SL sig h (sig h).2 3) body 0 r e/\r.length<=9000/\Nice 10 (.lst body):=by
 have key:∀h,∃r:List T,h<fs.length->∃body e,fs[h]?=some (.tup [.int (sig h).1,.int (sig h).2,.lst body])/\body.length<=8/\LyB (SL sig h (sig h).2 3) body 0 r e/\r.length<=9000/\Nice 10 (.lst body):=λh=>by
  by_cases hh:h<fs.length
  ·obtain⟨b,q1,q2,q3⟩:=G.fn h hh
   obtain⟨r,e,k1,k2⟩:=Zin q3 0
   refine⟨r,λ_=>⟨b,e,q1,q2,k1,?_,.lst .l λt m=>(q3 t m).2⟩⟩
   have:b.length*bk 3<=8*bk 3:=Nat.mul_le_mul_right _ q2
   have e3:bk 3=804:=by decide
   lia
  ·exact⟨[],λq=>absurd q hh⟩
 refine⟨(List.range fs.length).map λh=>Classical.choose (key h),⟨λh hh=>?_,G.sg⟩,.s,λh hh=>?_⟩
 ·obtain⟨b,e,h1,h2,h3,h4,h5⟩:=Classical.choose_spec (key h) hh
  exact⟨b,_,e,h1,h3,h4,by rw[List.getElem?_map,List.getElem?_map,List.getElem?_range hh];rfl⟩
 ·obtain⟨b,e,h1,h2,h3,h4,h5⟩:=Classical.choose_spec (key h) hh
  exact⟨b,_,e,h1,h2,by rw[List.getElem?_map,List.getElem?_range hh];rfl,h3,h4,h5⟩
structure RR(fs:List T)(rs:List (List T))(sig:Nat->Nat×Nat): Prop where
 pr:PrR fs (rs.map T.lst) sig
 len:rs.length=fs.length
 l1:1<=fs.length
 l3:fs.length<=3
 nice:Nice 12 (.lst fs)
 fn:∀h,h<fs.length->∃body r e,fs[h]?=some (.tup [.int (sig h).1,.int (sig h).2,.lst body])/\rs[h]?=some r/\LyB (SL sig h (sig h).2 3) body 0 r e/\r.length<=9000/\Nice 10 (.lst body)
theorem GoodP.rr(G:GoodP fs sig)(h1:1<=fs.length)(h3:fs.length<=3): ∃rs,RR fs rs sig:=by
 obtain⟨rs,p1,p2,p3⟩:=G.rows
 exact⟨rs,p1,p2,h1,h3,G.nice .l,λh hh=>by
  obtain⟨b,r,e,q1,_,q3,q4,q5,q6⟩:=p3 h hh
  exact⟨b,r,e,q1,q3,q4,q5,q6⟩⟩
section
variable {fs:List T} {rs:List (List T)} {sig:Nat->Nat×Nat}
theorem RR.rows(W:RR fs rs sig){h:Nat}{body:List T}(hh:h<fs.length)(h2:LyB (SL sig h (sig h).2 3) body 0 r e)(h3:r.length<=9000): ZgN [.lst body]=some (.lst r):=
 Zk0 (ZbL (Zdy (by have:=W.pr.sg h;lia) (λh=>by have:=W.pr.sg h;lia) 3) h2) h3
theorem RR.small(W:RR fs rs sig): ∀i,(Z5 0 (rs.take i)).length<=27000:=λi=>by
 have:=Zlh (c:=9000) (rs.take i) 0 λr m=>by
  obtain⟨j,hj,rfl⟩:=List.getElem_of_mem (List.mem_of_mem_take m)
  obtain⟨b,r,e,q1,q2,q3,q4,_⟩:=W.fn j (by rw[<-W.len];exact hj)
  rw[Yy1 hj]at q2
  cases q2
  exact q4
 have l2:(rs.take i).length<=3:=by have:=W.len;have:=W.l3;simp;lia
 have:9000*(rs.take i).length<=9000*3:=Nat.mul_le_mul_left _ l2
 lia
theorem RR.sy(W:RR fs rs sig): SyOk fs rs:=⟨W.len,λi t ht=>by
 have hil:=(Zz6.mp ht).1
 obtain⟨body,r,e,q1,er,q3,hr,_⟩:=W.fn i hil
 rw[ht]at q1
 cases q1
 exact⟨_,_,_,r,rfl,er,W.rows hil q3 hr,hr,λz m=>⟨_,(ZeD q3).1 z m⟩⟩,W.small⟩
theorem ZqP(W:RR fs rs sig): ZeR [.lst fs]=some (.lst (Z5 0 rs)):=Zse W.sy
def Ze3(r:List T)(q:Int): Option T:=((Zal r).filter λx=>x.1 == q).head?.map (·.2)
theorem Zmk{f:Nat}{q:Int}: ∀(rs:List (List T)) (i:Nat),(Z5 i rs).filter (λt=>dec (t=ZaK f (q,match t with | .tup [_,_,c]=>c | _=>.none)))=if i<=f then(match rs[f-i]? with | some r=>((Zal r).filter λx=>x.1 == q).map (ZaK f) | none=>[])else []
 | [],i=>by simp[Z5]
 | r::rs,i=>by
  rw[Z5,List.filter_append,Zmk rs (i+1)]
  have hm:((Zal r).map (ZaK i)).filter (λt=>dec (t=ZaK f (q,match t with | .tup [_,_,c]=>c | _=>.none)))=if i=f then((Zal r).filter λx=>x.1 == q).map (ZaK f)else []:=by
   rw[List.filter_map]
   by_cases c:i=f
   ·subst c
    rw[if_pos rfl]
    congr 1
    apply List.filter_congr
    intro x _
    simp only[Function.comp,ZaK]
    by_cases cq:x.1=q
    ·rw[Znm (by rw[cq])];simp[cq]
    ·rw[Zjm (by simp only[T.tup.injEq,List.cons.injEq,T.int.injEq];exact λh=>cq h.2.1)];simp[cq]
   ·rw[if_neg c]
    have:((Zal r).filter ((λt=>dec (t=ZaK f (q,match t with | .tup [_,_,c]=>c | _=>.none)))∘ZaK i))=[]:=by
     rw[List.filter_eq_nil_iff]
     intro x _
     simp only[Function.comp,ZaK]
     rw[Zjm (by simp only[T.tup.injEq,List.cons.injEq,T.int.injEq];exact λh=>c .l)]
     simp
    rw[this]
    rfl
  rw[hm]
  by_cases c:i=f
  ·subst c
   rw[if_pos rfl,if_neg .l,if_pos (Zz10 _)]
   simp
  ·rw[if_neg c,List.nil_append]
   by_cases c2:i<=f
   ·rw[if_pos .l,if_pos c2]
    have:f-i=(f-(i+1))+1:=by lia
    rw[this,List.getElem?_cons_succ]
   ·rw[if_neg .l,if_neg c2]
end
theorem Zml: ∀(rs:List (List T)) (i:Nat),∀t∈Z5 i rs,∃(j:Nat) (x:Int×T),t=ZaK j x
 | [],i,t,m=>(List.not_mem_nil m).elim
 | r::rs,i,t,m=>by
  rw[Z5]at m
  rcases Zz8.mp m with m | m
  ·obtain⟨x,_,rfl⟩:=Zz11.mp m
   exact⟨i,x,rfl⟩
  ·exact Zml rs (i+1) t m
section
variable {f:Nat} {q:Int}
def hv(c:T)(bs:List Int): Bool:=match Zb0 [c,Zq bs]with
 | some (.bool b)=>b
 | _=>false
theorem Znz(h:ClOk bs.length c)(hn:bs.length<=60): Zb0 [c,Zq bs]=some (.bool (hv c bs)):=by
 obtain⟨b,e⟩:=Znw h hn
 unfold hv
 rw[e]
def ZbV(f:Nat)(q:Int)(c:T)(m:Mo): Bool:=decide (m.1=f) && (decide (m.2.1=q) && !hv c m.2.2)
end
theorem Zli{fns:List T}{tw:T}{sig:Nat->Nat×Nat}{nf:Nat}{en:Nat->Int}{ks:List Int}(W:Wp fns tw sig nf en)(hnf:nf<=100): ∀(k:Nat) {s:RS} {r:List Mo×Nat},Inv tw sig nf en s->ZbI (.lst fns) tw ks k s=some r->∀m∈r.1,∃h,IsM sig nf en h m
 | 0,s,r,I,e=>by
  cases e
  exact λm hm=>(List.not_mem_nil hm).elim
 | k+1,s,r,I,e=>by
  rcases Zi2 (ks:=ks) W hnf I with en | ⟨en,s',_,e2,I'⟩
  ·simp only[ZbI,en,Ys0,if_true]at e
   cases e
   exact λm hm=>(List.not_mem_nil hm).elim
  ·simp only[ZbI,en,Ys0,Bool.false_eq_true,if_false,e2]at e
   obtain⟨r',e3,rfl⟩:=Zz1.mp e
   intro m hm
   rcases Zz7.mp hm with rfl | hm
   ·obtain⟨⟨h,M,_⟩,_⟩:=I'
    exact⟨h,M⟩
   ·exact Zli W hnf k I' e3 m hm
theorem ZpG{sig':Nat->Nat×Nat}(P:PrOk fns sig)(P':PrOk fns sig')(hj:j<fns.length): sig j=sig' j:=by
 obtain⟨b,r,e,h1,_⟩:=P.fn j hj
 obtain⟨b',r',e',h1',_⟩:=P'.fn j hj
 rw[h1]at h1'
 simp only[Option.some.injEq,T.tup.injEq,List.cons.injEq,T.int.injEq,Int.natCast_inj]at h1'
 exact Prod.ext h1'.1 h1'.2.1
section
variable {fs:List T} {rs:List (List T)} {sig:Nat->Nat×Nat} {ks ss:List Int} {steps:Int}
theorem ZnG(W:RR fs rs sig)(hss:ss.length=(sig (fs.length-1)).1)(s9:steps<=900): ∃ms:List Mo,Zg4 [.lst fs,Zq ss,Zq ks,.int steps]=some (.lst (ms.map Zdg))/\Zfx [.lst fs,.lst (rs.map T.lst),Zq ss,Zq ks,.int steps]=some (.lst (ms.map ZbA))/\ms.length<=1000/\∀m∈ms,∃h,h<fs.length/\m.1=(h:Nat)/\m.2.2.length=(sig h).2:=by
 right
 have h1:=W.l1
 have h3:=W.l3
 obtain⟨tw,en,w1,w2,w3⟩:=Zm7 W.pr .l
 obtain⟨q1,q2,q3⟩:=W.pr.sg (fs.length-1)
 have l0:(m0r sig (fs.length-1) ss).2.2.length=(sig (fs.length-1)).2:=by simp[m0r,hss];lia
 have I0:Inv tw sig fs.length en ⟨0,[],m0r sig (fs.length-1) ss⟩:=⟨⟨fs.length-1,⟨rfl,.l,Int.le_refl _,w2.e0 _ .o,l0⟩,by simp;omega⟩,λi fr e=>by simp at e⟩
 obtain⟨r,hr,_⟩:=Zj6 (ks:=ks) w2 .o steps.toNat I0
 have hM:=Zli w2 .o steps.toNat I0 hr
 have hl:=Zj7 hr
 left
 refine⟨m0r sig (fs.length-1) ss::r.1,ZtK W.pr.pr h1 hss s9 w1 hr,?_,by simp;lia,λm hm=>?_⟩
 ·refine Zcn ⟨fs,_,ss,ks,steps,sig,tw,r,rfl,W.pr,h1,.l,hss,s9,w1,hr,rfl⟩ λu ⟨fs',rs',ss',ks',steps',sig',tw',r',e,P',_,_,_,_,e4,e6,eu⟩=>?_
  simp only[List.cons.injEq,and_true,T.lst.injEq,T.int.injEq]at e
  obtain⟨rfl,rfl,k2,k3,rfl⟩:=e
  cases Zbn k2
  cases Zbn k3
  rw[w1]at e4
  cases e4
  have es:m0r sig' (fs.length-1) ss=m0r sig (fs.length-1) ss:=by
   unfold m0r
   rw[ZpG P'.pr W.pr.pr .l]
  rw[es,hr]at e6
  cases e6
  rw[eu,es]
 ·rcases Zz7.mp hm with rfl | hm
  ·exact⟨fs.length-1,.l,rfl,l0⟩
  ·obtain⟨h,M⟩:=hM m hm
   exact⟨h,M.hn,M.f,M.bl⟩
def brk(ms:List Mo)(r:List T)(f:Nat)(q:Int): Bool:=match Ze3 r q with
 | some c=>ms.any (ZbV f q c)
 | none=>false
variable {f:Nat} {q:Int} {r:List T} {ms:List Mo}
theorem Zkt(W:RR fs rs sig)(hf:f<fs.length)(hr:rs[f]?=some r): (((Zal r).filter λx=>x.1 == q)=[]/\Ze3 r q=none)∨∃c,((Zal r).filter λx=>x.1 == q)=[(q,c)]/\Ze3 r q=some c/\ClOk (sig f).2 c:=by
 obtain⟨b,r',e,q1,q2,q3,q4,_⟩:=W.fn f hf
 rw[hr]at q2
 cases q2
 rcases(ZeD q3).2 q with h | ⟨c,h,hc⟩
 ·exact .inl ⟨h,by simp[Ze3,h]⟩
 ·exact .inr ⟨c,h,by simp[Ze3,h],hc⟩
end
def Zcj(q:Int)(l:List T): T:=match ((Zal l).filter λx=>x.1 == q).getLast? with
 | some x=>x.2
 | none=>.none
theorem ZoV{x:T}(h:∀y,Za1 x=some y->y.1≠q): Zcj q (l++[x])=Zcj q l:=by
 unfold Zcj Zal
 rw[List.filterMap_append,List.filter_append]
 cases e:Za1 x with
 | none=>simp[e]
 | some y=>
  have:=h y e
  simp[e,this]
theorem Zoy{x:T}(h:Za1 x=some (q,c)): Zcj q (l++[x])=c:=by
 unfold Zcj Zal
 rw[List.filterMap_append,List.filter_append]
 simp[h]
def to2: T->T
 | .tup [a,b,_]=>.tup [a,b]
 | t=>t
theorem ZpH(h:LyB (SL sig g n 3) ts u r e): T.tup [.str wY,c]∈ts->∃a b,rowT a (.tup [.str wY,c]) b∈r:=by
 induction h with
 | nil=>intro m;exact(List.not_mem_nil m).elim
 | @cons t ts u e1 e2 r1 r2 a _ ih=>
  intro m
  rcases Zz7.mp m with rfl | m
  ·rcases a with⟨_,rfl,_⟩ | ⟨c',x,y,ra,ea,rb,eb,h1,_⟩ | ⟨c',x,ra,ea,h1,_⟩
   ·exact⟨u,u+1,.s⟩
   ·unfold ifT at h1
    simp only[T.tup.injEq,List.cons.injEq]at h1
    exact absurd h1.2.2 .s
   ·unfold whT at h1
    simp only[T.tup.injEq,List.cons.injEq]at h1
    exact absurd h1.2.2 .s
  ·obtain⟨a',b',q⟩:=ih m
   exact⟨a',b',List.mem_append_right _ q⟩
theorem ZpI{a:Int}(h:rowT a (.tup [.str wY,c]) b∈r): Zal r≠[]:=by
 intro e
 have:(a,c)∈Zal r:=List.mem_filterMap.mpr ⟨_,h,by show(if wY=wY then some (a,c)else none)=_;rw[if_pos rfl]⟩
 rw[e]at this
 exact(List.not_mem_nil this).elim
theorem Zm8: ∀(rs:List (List T)) (i:Nat) (r:List T),r∈rs->Zal r≠[]->Z5 i rs≠[]
 | [],i,r,m,_=>(List.not_mem_nil m).elim
 | x::rs,i,r,m,h=>by
  rw[Z5]
  rcases Zz7.mp m with rfl | m
  ·intro e
   exact h (by simpa using (List.append_eq_nil_iff.mp e).1)
  ·intro e
   exact Zm8 rs (i+1) r m h (List.append_eq_nil_iff.mp e).2
end L
namespace L
def Zh4: Sm:=Zo (Zg Zg9 (Zb (Z3 (ZQ (Za 1)) (Zw 100) (Zl (Zc ZA (eTo (Za 100) 2) (eTo (Za 0) 2))) (ZdC (Zg Zge (Zb (Zc Zf (Za 0) (Zd 2)) (Zb (Zc Zf (Za 100) (Zd 2)) Ze))))) Ze))
def ZfF: .y:=Zs 2 Zh4
end L
namespace L
def ZhW: Sm:=Zo (Z3 (ZQ (Zg Zen (Zb (Za 0) Ze))) (Zw 100) (Zl (Zc oIn (eTo (Za 100) 2) (Za 1))) (Za 100))
def ZfB: .y:=Zs 2 ZhW
end L
namespace L
section
variable {U:Lc} {K M:Hp} {Q:V->Hp->Prop}
theorem ZeS{f:PM.Ex}(h:Ok (f U K) λx M=>∃a b c,x=.tup [a,b,c]/\Q (.tup [a,b]) M): Ok (eTo f 2 U K) Q:=by
 walk_at "p"
 obtain⟨_,M,e,a,b,c,rfl,q⟩:=h
 exact⟨_,_,by simp[eTo,e],q⟩
theorem ZtO{a c d:Int}(h:Q (.bool (a == c && b == d)) K): Ok (ZA (.tup [.int a,.int b]) (.tup [.int c,.int d]) K) Q:=⟨_,_,by simp[ZA,ZbT,toD,ZcW,ZaX,SeqAt.shaped,PyData.eqv,PyData.eqvAll,PyData.canLay0,PyData.canLayAll0,PyData.depth,PyData.depthAll],h⟩
theorem ZtP{a c d:Int}(e:K[i]?=some [.tup [.int c,.int d]])(h:Q (.bool (c == a && d == b)) K): Ok (oIn (.tup [.int a,.int b]) (.ref i) K) Q:=by
 walk_at "p"
 have e1:toD K ZaX (.tup [.int a,.int b])=some (.tuple [.int a,.int b]):=rfl
 have e2:toD K ZaX (.ref i)=some (.list [.tuple [.int c,.int d]]):=by simp[toD,ZcW,ZaX,e]
 have e3:inD (.tuple [.int a,.int b]) (.list [.tuple [.int c,.int d]])=some (c == a && d == b):=by
  simp[inD,PyData.canLay0,PyData.canLayAll0,PyData.depth,PyData.depthAll,PyData.eqv,PyData.eqvAll]
 exact⟨_,_,by simp only[oIn,ZjA,e1,e2,e3,Ys0,Ys1],h⟩
theorem Zlj{ms:List Mo}{p:Mo->Bool}{m:Mo}(h:ms[j]?=some m): (ms.take (j+1)).any p=((ms.take j).any p || p m):=by
 rw[List.take_add_one,h,List.any_append];simp
theorem ZqQ{ms:List Mo}(h0:0<K.length)(rc:RF K vc c F)(ea:K[a]?=some vs)(rv:RFs K vs (ms.map Zdg) G)(hl:ms.length<=1000)(hm:∀m∈ms,m.1=f->ClOk m.2.2.length c/\m.2.2.length<=60): Ok (ZfF [.tup [.int f,.int q,vc],.ref a] K) λv M=>v=.bool (ms.any (ZbV f q c))/\∃X,M=K++X:=by
 walk_at "p"
 have lv:=rv.length
 rw[List.length_map]at lv
 unfold ZfF Zh4
 refine Z7 rfl (Za3 (Zay (ZX (ZbY (ZaR (Zr .w (.inl ⟨a,vs,rfl,ea,?_⟩)))))))
 refine ZbG (λj acc M=>∃X bs,M=K++X/\acc=bs.map V.bool/\bs.length<=j/\bs.any id=(ms.take j).any (ZbV f q c)) (by rw[ZD];lia) ⟨[],[],.s,rfl,.s,.s⟩ ?_ ?_ ?_
 ·intro j _ _ hj q9;obtain⟨X,bs,rfl,rfl,lb,hb⟩:=q9
  right
  obtain⟨m,hm'⟩:∃m,ms[j]?=some m:=⟨ms[j],Yy1 .o⟩
  obtain⟨v,Fv,ev,rm,_⟩:=rv.at (t:=Zdg m) (by rw[List.getElem?_map,hm'];rfl)
  obtain⟨b,us,G2,rfl,_,eb,rb⟩:=RF.imom rm
  left
  refine⟨by simpa using lb,_,_,by rw[ZbB (ZW ea),ev],Zbr _ _ _,?_⟩
  refine ZaD (Z6 (ZeS (Zr .w ⟨_,_,_,rfl,ZeS (Zr .w ⟨_,_,_,rfl,ZtO (Zaq ?_)⟩)⟩)))
  rw[Zlj hm']
  by_cases cc:m.1=f/\m.2.1=q
  ·obtain⟨k1,k2⟩:=hm m (Yy4 hm') cc.1
   refine Za7 (by simp[cc.1,cc.2]) ?_
   refine ZmC (Zay (ZX (Z6 (Zr .w (Zav (Zbe .d rfl (ZX (Z6 (Zr .w (Zav (Zbe .d rfl (Zan ?_))))))))))))
   obtain⟨v,Y,F',g1,g2,_⟩:=ZrS (K++X) [vc,.ref b] _ _ _ (by simp;lia) (.cons (rc.ext X) (.cons (.ref (ZW eb) (rb.ext X)) .nil)) (Znz k1 k2)
   cases g2
   refine Ok.of g1 (Zaq ⟨X++Y,bs++[!hv c m.2.2],.s,.s,by simp;omega,?_⟩)
   rw[List.any_append,hb]
   simp[ZbV,cc.1,cc.2]
  ·refine ZaV (by simpa using cc) ⟨X,bs,rfl,rfl,.l,?_⟩
   have:ZbV f q c m=false:=by
    unfold ZbV
    by_cases c1:m.1=(f:Int)
    ·have c2:m.2.1≠q:=λe=>cc ⟨c1,e⟩
     simp[c2]
    ·simp[c1]
   rw[this,hb,Bool.or_false]
 ·intro _ _ q9;obtain⟨X,bs,rfl,rfl,_⟩:=q9
  rw[ZbB (ZW ea)];simp
 ·intro _ _ q9;obtain⟨X,bs,rfl,rfl,lb,hb⟩:=q9
  rw[lv,List.take_length]at hb
  refine Zan (ZmO (by walk_at "at") ⟨by rw[hb],_,List.append_assoc ..⟩)
theorem Zmm{x:Int×T}(r:RF K v (ZaK f x) F): ∃vc G,v=.tup [.int f,.int x.1,vc]/\RF K vc x.2 G/\F=G:=by
 right
 obtain⟨a,b,c,F1,F2,F3,rfl,rfl,r1,r2,r3⟩:=RF.i3 r
 obtain⟨rfl,rfl⟩:=r1.iint
 obtain⟨rfl,rfl⟩:=r2.iint
 left
 exact⟨c,F3,rfl,r3,rfl⟩
def atP(f:Nat)(q:Int)(t:T): Bool:=dec (t=ZaK f (q,match t with | .tup [_,_,c]=>c | _=>.none))
theorem Zsh{a:Int}: atP f q (ZaK j (a,c))=((f:Int) == j && q == a):=by
 unfold atP ZaK
 by_cases cc:(f:Int)=j/\q=a
 ·obtain⟨h1,rfl⟩:=cc
  rw[Znm (by simp[h1])];simp[h1]
 ·rw[Zjm (by simp only[T.tup.injEq,List.cons.injEq,T.int.injEq];exact λh=>cc ⟨h.1.symm,h.2.1.symm⟩)]
  symm
  simpa using cc
theorem ZpJ{s:Nat}(W:RR fs rs sig)(h0:0<K.length)(rp:RF K v (.lst fs) F)(es:K[s]?=some [.tup [.int f,.int q]]): Ok (ZfB [v,.ref s] K) λu M=>∃X a vs G,M=K++X/\u=.ref a/\M[a]?=some vs/\RFs M vs ((Z5 0 rs).filter (atP f q)) G:=by
 walk_at "p"
 right
 have hsm:=W.small rs.length
 rw[List.take_length]at hsm
 obtain⟨u,X,G,g1,g2,_⟩:=Zsf K [v] _ _ _ h0 (.one rp) (ZqP W)
 obtain⟨a,vs,G2,rfl,ea,rv,_⟩:=g2.ilst
 have lv:=rv.length
 left
 unfold ZfB ZhW
 refine Z7 rfl (Za3 (ZbY (ZaR (Zay (ZX (Zr .w (Zan (Ok.of g1 (.inl ⟨a,vs,rfl,ea,?_⟩)))))))))
 refine ZbG (λj acc M=>M=K++X/\∃G,RFs (K++X) acc (((Z5 0 rs).take j).filter (atP f q)) G) (by rw[ZD];lia) ⟨rfl,[],.nil⟩ ?_ ?_ ?_
 ·intro j acc _ hj q9;obtain⟨rfl,G3,ra⟩:=q9
  right
  obtain⟨t,ht⟩:∃t,(Z5 0 rs)[j]?=some t:=⟨(Z5 0 rs)[j],Yy1 .o⟩
  obtain⟨i,⟨b,c⟩,rfl⟩:=Zml rs 0 t (Yy4 ht)
  obtain⟨x,Fx,ex,rx,_⟩:=rv.at ht
  obtain⟨vc,G4,rfl,rc,_⟩:=Zmm rx
  have la:=ra.length
  have lf:=List.length_filter_le (atP f q) ((Z5 0 rs).take j)
  left
  refine⟨by simp at lf;lia,_,_,by rw[ZbB ea,ex],Zbr _ _ _,?_⟩
  refine ZaD (Z6 (ZeS (Zr .w ⟨_,_,_,rfl,Zr .w (ZtP (ZW es) (Zaq ?_))⟩)))
  have tk:((Z5 0 rs).take (j+1)).filter (atP f q)=((Z5 0 rs).take j).filter (atP f q)++if(f:Int) == i && q == b then [ZaK i (b,c)]else []:=by
   rw[List.take_add_one,ht,List.filter_append]
   simp only[Option.toList,List.filter_cons,List.filter_nil,Zsh]
  rw[tk]
  refine⟨λe=>Zr .w ⟨rfl,G3++Fx,?_⟩,λe=>⟨rfl,G3,?_⟩⟩
  ·rw[e]
   exact ra.snoc rx
  ·rw[e]
   simpa using ra
 ·intro _ _ q9;obtain⟨rfl,_⟩:=q9
  rw[ZbB ea];simp
 ·intro acc _ q9;obtain⟨rfl,G3,ra⟩:=q9
  rw[lv,List.take_length]at ra
  exact⟨X++[acc],_,acc,G3,.s,rfl,by walk_at "at",ra.ext _⟩
end
end L
namespace L
def ZhX: Sm:=Zh (Zk 7 (Z9)) (Zh (Zac (ZQ (Zc Zf (Za 1) (Za 5))) (Zw 8) (Zu (ZR (Zl (Zc ZA (Zc Zf (Za 8) (Zd 0)) (Za 6))) (ZR (Zl (Zc ZA (Zc Zf (Zc Zf (Za 8) (Zd 1)) (Zd 0)) (ZF "say"))) ZJ)) (Zk 7 (Zc Zf (Zc Zf (Za 8) (Zd 1)) (Zd 1))) ZG)) (Zh (Zu (Zl (Zc oIs (Za 7) (Z9))) (Zo (ZaT false)) ZG) (Zh (Zac (ZQ (Zg Zfw (Zb (Za 0) (Zb (Za 1) (Zb (Za 2) (Zb (Za 3) (Zb (Za 4) Ze))))))) (Zw 9) (Zu (ZR (Zl (Zc ZA (Zc Zf (Za 9) (Zd 0)) (Za 5))) (ZR (Zl (Zc ZA (Zc Zf (Za 9) (Zd 1)) (Za 6))) (ZR (Zbx (Zl (Zg ZfK (Zb (Za 7) (Zb (Zc Zf (Za 9) (Zd 2)) Ze))))) ZJ))) (Zo (ZaT true)) ZG)) (Zo (ZaT false)))))
def ZfC: .y:=Zs 7 ZhX
end L
namespace L
section
variable {U:Lc} {K M:Hp} {Q:V->Hp->Prop}
theorem ZiH{a:Int}(ey:Za1 (rowT a (.tup (.str w::rest)) b)=some y): y.1=a/\w=wY:=by
 obtain⟨h,as,e,f⟩:=Zmj ey
 cases e
 cases f
 exact⟨h,rfl⟩
theorem ZoW{ms:List Mo}{v2:V}{F2:List Nat}(W:RR fs rs sig)(hf:f<fs.length)(hr:rs[f]?=some r)(hrun:Zfx [.lst fs,.lst (rs.map T.lst),Zq ss,Zq ks,.int steps]=some (.lst (ms.map ZbA)))(hl:ms.length<=1000)(hm:∀m∈ms,∃h,h<fs.length/\m.1=(h:Nat)/\m.2.2.length=(sig h).2)(h0:0<K.length)(r1:RF K v1 (.lst fs) F1)(r2:RF K v2 (Zq ss) F2)(r3:RF K v3 (Zq ks) F3)(r6:RF K v6 (.lst (rs.map T.lst)) F6): Ok (ZfC [v1,v6,v2,v3,.int steps,.int f,.int q] K) λv M=>v=.bool (brk ms r f q)/\∃X,M=K++X:=by
 right
 obtain⟨u,X,G,g1,g2,_⟩:=ZnW K _ _ _ _ h0 (.cons r1 (.cons r6 (.cons r2 (.cons r3 (.cons (.int steps) .nil))))) hrun
 obtain⟨a,vs,G2,rfl,ea,rv,_⟩:=g2.ilst
 have lv:=rv.length
 rw[List.length_map]at lv
 obtain⟨b,r',e,q1,q2,q3,q4,_⟩:=W.fn f hf
 rw[hr]at q2
 left
 cases q2
 right
 obtain⟨hw,_⟩:=ZeD q3
 obtain⟨a6,u6,G6,rfl,e6,s6,_⟩:=r6.ilst
 obtain⟨vr,Fr,er,rr,_⟩:=s6.at (t:=.lst r) (by rw[List.getElem?_map,hr];rfl)
 obtain⟨ar,ur,Gr,rfl,ear,sr,_⟩:=rr.ilst
 have lr:=sr.length
 left
 unfold ZfC ZhX
 refine Z7 rfl (Zae (Zbd (Zcw (Zae (ZbR (ZaR (Z6 (Zr .w (Zr .w (ZbS e6 .l (by rw[Int.toNat_natCast];exact er) (ZcU ear ?_)))))))))))
 refine ZbZ (λi U M=>K=M/\(∀j,j<7->U j=[v1,.ref a6,v2,v3,.int steps,.int f,.int q][j]?)/\∃w7 F7,U 7=some w7/\RF K w7 (Zcj q (r.take i)) F7) ⟨rfl,λj hj=>ZaN .l rfl,_,_,rfl,.none⟩ (by intro i U _ q9;obtain⟨rfl,_⟩:=q9;exact ear) ?_ ?_
 ·intro i x U _ hx q9;obtain⟨rfl,z,w7,F7,e7,r7⟩:=q9
  obtain⟨t,ht⟩:∃t,r[i]?=some t:=⟨r[i]'(by have:=(Zz6.mp hx).1;lia),Yy1 _⟩
  obtain⟨x',Fx,ex,rx,_⟩:=sr.at ht
  rw[hx]at ex
  cases ex
  right
  obtain⟨a,w,rest,b,rfl,hok,hsay⟩:=hw t (Yy4 ht)
  obtain⟨vr,Gx,rfl,rz,_⟩:=Zf0 rx
  have htk:r.take (i+1)=r.take i++[rowT a (.tup (.str w::rest)) b]:=by rw[List.take_add_one,ht];rfl
  left
  rw[htk]
  have k6:U 6=some (.int q):=z 6 .d
  have no:(∀y,Za1 (rowT a (.tup (.str w::rest)) b)=some y->y.1≠q)->∀M,K=M->K=M/\(∀j,j<7->Zi U 8 (.tup [.int a,.tup (.str w::vr),.int b]) j=[v1,.ref a6,v2,v3,.int steps,.int f,.int q][j]?)/\∃w7 F7,Zi U 8 (.tup [.int a,.tup (.str w::vr),.int b]) 7=some w7/\RF K w7 (Zcj q (r.take i++[rowT a (.tup (.str w::rest)) b])) F7:=λh M e=>by
   rw[ZoV h]
   exact⟨e,λj hj=>ZaN .l (z j hj),w7,F7,ZaN .d e7,r7⟩
  refine ZaS (Zcg (ZaD (Z6 (Z6 (Zr .w (Zav (Zbe .d rfl (Zr .w (ZgU (Zaq ?_))))))))))
  by_cases c:a=q
  ·subst c
   refine Za7 .s (Zcg (ZaD (Z6 (Z6 (Z6 (Zr .w (Zav (Zbe .d rfl (Zav (Zbe .d rfl (ZeF (Zgx hok .D (Zaq ?_)))))))))))))
   by_cases cw:w=wY
   ·right
    obtain⟨cl,rfl,_⟩:=hsay cw
    subst cw
    obtain⟨vc,rfl,rc⟩:=rz.i1
    left
    refine Za7 .D (Zbl (Za7 rfl ?_))
    repeat' fail
    refine⟨rfl,λj hj=>ZaN .o (ZaN .o (z j hj)),vc,Gx,rfl,?_⟩
    rw[Zoy (c:=cl) (by show(if wY=wY then some (a,cl)else none)=_;rw[if_pos rfl])]
    exact rc
   ·exact ZaV (by simp[PyData.eqv];exact cw) (ZaV rfl (Zbm (no (λy ey=>absurd (ZiH ey).2 cw) _ rfl)))
  ·exact ZaV (by simpa using c) (ZaV rfl (Zbm (no (λy ey=>by rw[(ZiH ey).1];exact c) _ rfl)))
 ·intro U _ q9;obtain⟨rfl,z,w7,F7,e7,r7⟩:=q9
  rw[lr,List.take_length]at r7
  have k0:U 0=some (v1):=z 0 .d
  have k1:U 1=some (.ref a6):=z 1 .d
  have k2:U 2=some (v2):=z 2 .d
  have k3:U 3=some (v3):=z 3 .d
  have k4:U 4=some (.int steps):=z 4 .d
  have k5:U 5=some (.int f):=z 5 .d
  have k6:U 6=some (.int q):=z 6 .d
  rcases Zkt (q:=q) W hf hr with⟨h1,h2⟩ | ⟨c,h1,h2,hc⟩
  ·rw[show Zcj q r=.none by unfold Zcj;rw[h1];rfl]at r7
   cases r7
   refine Zae (ZaS (ZaD (Z6 (Zr e7 (Zcw (Zi9 (Zaq (Za7 rfl (Za3 (Zeu ⟨?_,[],.s⟩))))))))))
   simp[brk,h2]
  ·right
   rw[show Zcj q r=c by unfold Zcj;rw[h1];rfl]at r7
   obtain⟨us,rfl⟩:∃us,c=.tup us:=by cases hc <;> exact⟨_,rfl⟩
   obtain⟨vs7,rfl,_⟩:=r7.itup
   have hbr:brk ms r f q=ms.any (ZbV f q (.tup us)):=by simp[brk,h2]
   left
   rw[hbr]
   refine Zae (ZaS (ZaD (Z6 (Zr e7 (Zcw (ZmL (Zaq (ZaV rfl (Zbm ?_)))))))))
   refine Zae (ZbR (ZaR ?_))
   repeat' fail
   refine Ok.of g1 (ZcU ea ?_)
   refine ZbZ (λi O M=>(∃Y,M=K++X++Y)/\O 5=some (.int f)/\O 6=some (.int q)/\O 7=some (.tup vs7)/\(ms.take i).any (ZbV f q (.tup us))=false) ⟨⟨[],.s⟩,k5,k6,e7,.s⟩ (by intro i U _ q9;obtain⟨⟨Y,rfl⟩,_⟩:=q9;exact ZW ea) ?_ ?_
   ·intro i x O _ hx q9;obtain⟨⟨Y,rfl⟩,d5,d6,d7,hb⟩:=q9
    obtain⟨m,hm'⟩:∃m,ms[i]?=some m:=⟨ms[i]'(by have:=(Zz6.mp hx).1;lia),Yy1 _⟩
    obtain⟨x',Fx,ex,rx,_⟩:=rv.at (t:=ZbA m) (by rw[List.getElem?_map,hm'];rfl)
    rw[hx]at ex
    cases ex
    obtain⟨p,rfl,fm,_⟩:=Zjj rx
    have fm1:=ZW (X:=Y) fm.1
    have mem:=Yy4 hm'
    rw[Zlj hm',hb,Bool.false_or]
    refine ZaS (Zcg (ZaD (Z6 (Z6 (Zr .w (Zav (ZbS fm1 .d rfl (Zr .w (ZgU (Zaq ?_))))))))))
    by_cases c1:m.1=(f:Int)
    ·refine Za7 (by simp[c1]) (Zcg (ZaD (Z6 (Z6 (Zr .w (Zav (ZbS fm1 .d rfl (Zr .w (ZgU (Zaq ?_))))))))))
     by_cases c2:m.2.1=q
     ·right
      obtain⟨h,j1,j2,j3⟩:=hm m mem
      obtain rfl:h=f:=by lia
      have sg:=W.pr.sg h
      have hcm:ClOk m.2.2.length (.tup us):=by rw[j3];exact hc
      obtain⟨v,Z,F',z1,z2,_⟩:=ZoN (K++X++Y) [.tup vs7,.ref p.2] _ _ _ (by simp;lia) (.cons ((r7.ext X).ext Y) (.cons (Zb4 (ZW (X:=Y) fm.2)) .nil)) (Znz hcm .l)
      left
      cases z2
      refine Za7 (by simp[c2]) (Zcg (ZiP (ZaD (Zay (ZX (Zr .w (ZX (Z6 (Zr .w (Zav (ZbS fm1 .d rfl (Zan (Ok.of z1 (Zaq ?_))))))))))))))
      cases hvv:hv (.tup us) m.2.2 with
      | true=>exact ZaV rfl (ZaV rfl (Zbm ⟨⟨Y++Z,.s⟩,.w,.w,.w,by simp[ZbV,hvv]⟩))
      | false=>
       refine Za7 rfl (Zbl (Za7 rfl (Za3 (Zeu ⟨?_,_,by simp only[List.append_assoc];rfl⟩))))
       rw[List.any_eq_true.mpr ⟨m,mem,by simp[ZbV,hvv,c1,c2]⟩]
     ·exact ZaV (by simpa using c2) (ZaV rfl (Zbm ⟨⟨Y,rfl⟩,.w,.w,.w,by simp[ZbV,c2]⟩))
    ·exact ZaV (by simpa using c1) (ZaV rfl (Zbm ⟨⟨Y,rfl⟩,.w,.w,.w,by simp[ZbV,c1]⟩))
   ·intro O _ q9;obtain⟨⟨Y,rfl⟩,_,_,_,hb⟩:=q9
    rw[lv,List.take_length]at hb
    exact Za3 (Zeu ⟨by rw[hb],_,by simp only[List.append_assoc];rfl⟩)
theorem ZpK(W:RR fs rs sig)(h0:0<K.length)(ea:K[a]?=some vs)(rv:RFs K vs (rs.map T.lst) F): Ok (Zfj [.ref a] K) λv M=>∃us,v=.ref K.length/\M=K++[us]/\RFs K us ((Z5 0 rs).map to2) []:=by
 walk_at "p"
 have lv:=rv.length
 rw[List.length_map]at lv
 have hr:=W.small
 have l3:=W.l3
 have ln:=W.len
 unfold Zfj Zhv
 refine Z7 rfl (Zae (Zbd (ZcN (Zan ⟨.s,Zae (ZbR (Zke ?_))⟩))))
 repeat' fail
 refine Zni .l (ZdO (λi U M=>U 0=some (.ref a)/\U 1=some (.ref K.length)/\∃us,M=K++[us]/\RFs K us ((Z5 0 (rs.take i)).map to2) []) ⟨.w,.w,[],rfl,.nil⟩ ?_ ?_)
 ·intro i U _ hi q9;obtain⟨e0,e1,us,rfl,ru⟩:=q9
  right
  obtain⟨body,r,e,q1,er,q3,hr',_⟩:=W.fn i .l
  obtain⟨hw,_⟩:=ZeD q3
  obtain⟨vr,Fr,evr,rr,_⟩:=rv.at (t:=.lst r) (by rw[List.getElem?_map,er];rfl)
  obtain⟨ar,ur,Gr,rfl,ear,sr,_⟩:=rr.ilst
  have lr:=sr.length
  left
  refine ZbR (ZaR (Z6 (Zr .w (Zr .w (ZbS (Zz ea) .l (by rw[Int.toNat_natCast];exact evr) (ZcU (Zz ear) ?_))))))
  refine ZbZ (λj U M=>U 0=some (.ref a)/\U 1=some (.ref K.length)/\U 2=some (.int i)/\∃us,M=K++[us]/\RFs K us ((Z5 0 (rs.take i)++(Zal (r.take j)).map (ZaK i)).map to2) []) ⟨.w,.w,.w,us,rfl,by rw[List.take_zero];show RFs K us ((Z5 0 (rs.take i)++[]).map to2) [];rw[List.append_nil];exact ru⟩ (by intro j U _ q9;obtain⟨_,_,_,us,rfl,_⟩:=q9;exact Zz ear) ?_ ?_
  ·intro j x U _ hx q9;obtain⟨e0,e1,e2,us,rfl,ru⟩:=q9
   obtain⟨t,ht⟩:∃t,r[j]?=some t:=⟨r[j]'(by have:=(Zz6.mp hx).1;lia),Yy1 _⟩
   obtain⟨x',Fx,ex,rx,_⟩:=sr.at ht
   rw[hx]at ex
   cases ex
   right
   obtain⟨c,w,rest,d,rfl,hok,hsay⟩:=hw t (Yy4 ht)
   obtain⟨vr,Gx,rfl,rz,_⟩:=Zf0 rx
   have htk:r.take (j+1)=r.take j++[rowT c (.tup (.str w::rest)) d]:=by rw[List.take_add_one,ht];rfl
   left
   rw[htk,Zal,List.filterMap_append]
   refine ZaS (ZaD (Z6 (Z6 (Z6 (Zr .w (Zav (Zbe .d rfl (Zav (Zbe .d rfl (ZeF (Zgx hok .D (Zaq ?_))))))))))))
   by_cases cw:w=wY
   ·right
    obtain⟨cl,rfl,_⟩:=hsay cw
    subst cw
    have hs:Za1 (rowT c (.tup [.str wY,cl]) d)=some (c,cl):=by
     show(if wY=wY then some (c,cl)else none)=_
     rw[if_pos rfl]
    have lu:=ru.length
    have ls:=Zlg (r.take j)
    have lt:=hr i
    left
    refine Za7 .D (Zgw (Zih ?_))
    repeat' fail
    refine Zcd (Zv _ _) .l (by rw[ZD,lu];simp;simp at ls;lia) ⟨.w,.w,.w,_,Zf7 _ _,?_⟩
    rw[List.filterMap_cons,hs,List.filterMap_nil]
    have:=ru.snoc (.tup (.cons (.int i) (.cons (.int c) .nil)))
    simpa [Zal,ZaK,to2]using this
   ·have hs:Za1 (rowT c (.tup (.str w::rest)) d)=none:=by
     cases h:Za1 (rowT c (.tup (.str w::rest)) d)with
     | none=>rfl
     | some y=>exact absurd (ZiH h).2 cw
    refine ZaV (by simp[PyData.eqv];exact cw) (Zbm ⟨.w,.w,.w,us,rfl,?_⟩)
    rw[List.filterMap_cons,hs,List.filterMap_nil]
    dsimp only
    rw[List.append_nil]
    exact ru
  ·intro U _ q9;obtain⟨e0,e1,e2,us,rfl,ru⟩:=q9
   rw[lr,List.take_length]at ru
   rw[Zkr er]
   exact⟨e0,e1,us,rfl,ru⟩
 ·intro U _ q9;obtain⟨e0,e1,us,rfl,ru⟩:=q9
  rw[lv,List.take_length]at ru
  exact Za3 (Zr e1 ⟨us,rfl,rfl,ru⟩)
end
end L
namespace L
def Zir: Sm:=Zo (Zbo (Zc ZaA (Za 0) (Z9)) (Zbo (Zc ZaA (Za 1) (Z9)) (Zc oGt (Za 0) (Za 1))))
def Zeo: .y:=Zs 2 Zir
def ZhP: Sm:=Zo (Zbo (ZdC (Zg Zeo (Zb (Zc Zf (Za 0) (Zd 0)) (Zb (Za 1) Ze)))) (ZdC (Zg Zeo (Zb (Za 1) (Zb (Zc Zf (Za 0) (Zd 1)) Ze)))))
def Zfy: .y:=Zs 2 ZhP
def Zi4: Sm:=Zh (Zk 2 (Z3 (ZQ (Za 0)) (Zw 100) (Zl (Zc ZaA (Za 100) (Z9))) (Za 100))) (Zo (Zg ZdK (Zb (Z3 (ZQ (Zc ZC (Zc ZC (Za 2) (ZB (Zb (Zd 0) Ze))) (Za 1))) (Zw 102) (Zl (Zg Zfy (Zb (Za 0) (Zb (Za 102) Ze)))) (Za 102)) Ze)))
def Zgr: .y:=Zs 2 Zi4
def Zie: Sm:=Zh (Zk 2 (ZB Ze)) (Zh (Zk 3 (Za 1)) (Zh (Zac (Zhf (Zb (Za 0) Ze)) (Zw 4) (Zh (ZN (Zag (Za 2) (Zc Zf (Za 4) (Zc Zcp (Za 3) (Zg ZZ (Zb (Za 4) Ze)))))) (Zk 3 (Zc ZcV (Za 3) (Zg ZZ (Zb (Za 4) Ze)))))) (Zo (Zg ZgY (Zb (Za 2) Ze)))))
def ZfL: .y:=Zs 2 Zie
def ZhJ: Sm:=Zh (Zk 3 (Z3 (ZQ (Za 0)) (Zw 100) ZJ (Zg Zgr (Zb (Za 100) (Zb (Za 1) Ze))))) (Zh (Zk 4 (Zd 1)) (Zh (Zac (ZQ (Za 3)) (Zw 5) (Zk 4 (Zc ZaI (Za 4) (Zg ZZ (Zb (Za 5) Ze))))) (Zo (Z3 (ZaM (Zb (Zg ZdA (Zb (Za 2) (Zb (Za 4) Ze))) Ze)) (Zw 102) ZJ (Zg ZfL (Zb (Za 3) (Zb (Za 102) Ze)))))))
def Zfs: .y:=Zs 3 ZhJ
def Zif: Sm:=Zh (Zk 5 (ZmW)) (Zh (Zac (ZQ (Za 1)) (Zw 6) (Zh (Zk 7 (Z3 (ZQ (Za 4)) (Zw 100) (Zl (Zc Znp (eTo (Za 100) 2) (Za 5))) (Za 100))) (Zh (Zu (Zl (Zc ZA (Zg ZZ (Zb (Za 7) Ze)) (Zd 0))) (Zo (Za 5)) ZG) (Zh (Zk 8 (Zg Zg3 (Zb (Za 0) (Zb (Za 6) (Zb (Za 2) (Zb (Za 3) Ze)))))) (Zac (ZQ (Za 7)) (Zw 9) (Zu (Zl (Zg ZfF (Zb (Za 9) (Zb (Za 8) Ze)))) (Zg0 (Za 6) (Za 5) (eTo (Za 9) 2)) ZG)))))) (Zo (Za 5)))
def ZfM: .y:=Zs 5 Zif
def Zis: Sm:=Zh (Zk 8 (Zg ZfB (Zb (Za 0) (Zb (ZB (Zb (ZO (Zb (Za 6) (Zb (Za 7) Ze))) Ze)) Ze)))) (Zo (ZgZ (Zg ZfM (Zb (Za 0) (Zb (Zg Zfs (Zb (Za 1) (Zb (Za 2) (Zb (Za 5) Ze)))) (Zb (Za 3) (Zb (Za 4) (Zb (Za 8) Ze)))))) (ZO (Zb (Za 6) (Zb (Za 7) Ze)))))
def ZfQ: .y:=Zs 8 Zis
def Zhp: Sm:=Zh (Zk 2 (ZB Ze)) (Zh (Zk 3 (ZB Ze)) (Zh (Zk 4 (Zg ZP (Zb (Za 0) (Zb (Za 1) Ze)))) (Zh (Zac (ZaM (Zb (Za 4) Ze)) (Zw 5) (Zh (ZN (Zag (Za 2) (Zg ZfA (Zb (Za 0) (Zb (Zg ZdR (Zb (Za 3) Ze)) (Zb (Zc oGt (Za 4) (Zd 1)) Ze)))))) (ZN (Zag (Za 3) (Zc Zf (Zc Zf (Za 2) (Za 5)) (Zd 0)))))) (Zh (Zk 6 (Zc Zf (ZB (Zb (Zd 0) (Zb (Zd 1) (Zb (Zd 2) (Zb (Zd 2) (Zb (Zd 1) (Zb (Zd 2) (Zb (Zd 1) (Zb (Zd 2) (Zb (Zd 1) (Zb (Zd 3) Ze))))))))))) (Zg ZP (Zb (Za 0) (Zb (Zd 10) Ze))))) (Zh (Zk 7 (Zg ZdY (Zb (Zd 1) (Zb (Za 6) Ze)))) (Zh (Zu (ZR (Zl (Zc oLt (Za 7) (Zd 3))) (ZR (Zl (Zc ZA (Zg ZP (Zb (Za 0) (Zb (Zd 5) Ze))) (Zd 4))) ZJ)) (Zk 7 (Zc ZC (Za 7) (Zd 1))) ZG) (Zh (Zk 8 (Zg ZeU (Zb (Zc oLt (Za 7) (Zd 3)) Ze))) (Zh (Zk 9 (ZO (Zb (Zd 0) (Zb (Za 7) (Zb (Za 3) Ze))))) (Zh (Zk 10 (Zg ZfJ (Zb (Za 0) (Zb (Za 9) (Zb (ZB (Zb (Zd 3) (Zb (Za 8) Ze))) (Zb (Zd 2) (Zb (Zc ZC (Zd 1) (Zg ZP (Zb (Za 0) (Zb (Zd 2) Ze)))) Ze))))))) (Zh (Zu (Zl (Zc oGt (Za 4) (Zd 0))) (Zh (Zk 5 (Zg ZP (Zb (Za 0) (Zb (Za 4) Ze)))) (Zh (Zk 11 (Z3 (ZaM (Zb (Zc Zf (Za 3) (Za 5)) Ze)) (Zw 100) ZJ (Zg Zcb (Zb (Za 0) (Zb (Za 7) Ze))))) (ZN (Zag (Za 10) (ZO (Zb (ZF "call") (Zb (Zc ZC (Zd 1) (Zg ZP (Zb (Za 0) (Zb (Za 7) Ze)))) (Zb (Za 5) (Zb (Za 11) Ze))))))))) ZG) (Zh (Zk 10 (Zc ZC (Za 10) (Zg ZfJ (Zb (Za 0) (Zb (Za 9) (Zb (ZB (Zb (Zd 1) (Zb (Zd 0) Ze))) (Zb (Zd 1) (Zb (Zg ZP (Zb (Za 0) (Zb (Zd 2) Ze))) Ze)))))))) (Zh (Zu (ZR (Zl (Zc ZA (Za 8) (Zd 1))) (ZR (Zl (Zc ZA (Zg ZP (Zb (Za 0) (Zb (Zd 8) Ze))) (Zd 7))) ZJ)) (Zk 10 (Zc ZC (Zg Zel (Zb (Za 0) (Zb (Za 7) Ze))) (ZaB (Za 10) ZaU (Zaw (Zd 2))))) ZG) (Zh (Zu (ZR (Zl (Zc ZA (Za 8) (Zd 0))) (ZR (Zl (Zc ZA (Zg ZP (Zb (Za 0) (Zb (Zd 2) Ze))) (Zd 1))) ZJ)) (Zk 10 (Zc ZC (ZaB (Zg Zel (Zb (Za 0) (Zb (Za 7) Ze))) ZaU (Zaw (Zd 2))) (ZaB (Za 10) ZaU (Zaw (Zd 2))))) ZG) (Zh (ZN (Zag (Za 2) (ZO (Zb (Za 6) (Zb (Za 7) (Zb (Za 10) Ze)))))) (Zo (Za 2))))))))))))))))
def Zfg: .y:=Zs 2 Zhp
def ZhY: Sm:=Zh (Zk 2 (ZB Ze)) (Zh (Zac (ZaM (Zb (Za 1) Ze)) (Zw 3) (Zh (Zk 4 (Zg ZcI (Zb (Za 0) Ze))) (Zh (Zk 5 (Zc ZC (Za 4) (Zg ZP (Zb (Za 0) (Zb (Zd 5) Ze))))) (Zh (Zk 6 (Zg ZP (Zb (Za 0) (Zb (Zd 8) Ze)))) (ZN (Zag (Za 2) (ZO (Zb (Zc Zf (ZB (Zb (Za 4) (Zb (Za 4) (Zb (Za 4) (Zb (Za 4) (Zb (Z9) (Zb (Za 4) (Zb (Z9) (Zb (Za 4) Ze))))))))) (Za 6)) (Zb (Zc Zf (ZB (Zb (Za 5) (Zb (Za 5) (Zb (Za 4) (Zb (Za 5) (Zb (Za 5) (Zb (Z9) (Zb (Z9) (Zb (Za 5) Ze))))))))) (Za 6)) Ze))))))))) (Zo (Za 2)))
def ZfD: .y:=Zs 2 ZhY
def ZhK: Sm:=Zh (Zk 4 (ZB (Zb (Zc Zai (Zg ZP (Zb (Za 0) (Zb (Zd 3) Ze))) (Zd 1)) Ze))) (Zh (Zac (ZaM (Zb (Za 1) Ze)) (Zw 5) (Zh (ZN (Zag (Za 4) (Zc Zf (ZB (Zb (Zd 1) (Zb (Zd 1) (Zb (ZE Zax (Zd 1)) (Zb (Zd 2) Ze))))) (Zg ZP (Zb (Za 0) (Zb (Zd 4) Ze)))))) (ZaE (Zc Zai (Zc Zf (Za 4) (Zd 0)) (Zc ZaI (Zc Zf (Za 4) (Zc ZC (Za 5) (Zd 1))) (Zc Zf (Za 3) (Za 5)))) (Za 4) (Zd 0)))) (Zh (Zk 4 (Zc ZC (Za 4) (Zc ZaI (ZB (Zb (Zd 0) Ze)) (Zc Zai (Za 2) (Za 1))))) (Zo (Zc Zf (ZB (Zb (ZO (Zb (ZF "under") (Zb (Za 4) Ze))) (Zb (ZO (Zb (ZF "even") (Zb (Za 4) (Zb (Zd 2) Ze)))) (Zb (ZO (Zb (ZF "even") (Zb (Za 4) (Zb (Zd 3) Ze)))) Ze)))) (Zg ZP (Zb (Za 0) (Zb (Zd 3) Ze)))))))
def Zft: .y:=Zs 4 ZhK
def ZhL: Sm:=Zh (Zk 3 (Zc Zf (Zc Zf (Za 1) (ZE Zax (Zd 1))) (Zd 0))) (Zh (Zk 4 (Zc Zf (Zc Zf (Za 1) (ZE Zax (Zd 1))) (Zd 1))) (Zh (Zk 5 (Zg Zc3 (Zb (Za 0) (Zb (Za 4) Ze)))) (Zh (Zu (ZR (Zl (Zc oGt (Za 3) (Zd 0))) (ZR (Zl (Zc oGt (Zg ZP (Zb (Za 0) (Zb (Zd 4) Ze))) (Zd 0))) ZJ)) (Zk 5 (Zg Zft (Zb (Za 0) (Zb (Za 3) (Zb (Za 4) (Zb (Zc Zf (Za 2) (Zg ZP (Zb (Za 0) (Zb (Zg ZZ (Zb (Za 2) Ze)) Ze)))) Ze)))))) ZG) (Zh (Zk 6 (ZB (Zb (ZO (Zb (ZF "say") (Zb (Za 5) Ze))) Ze))) (Zh (Zu (Zl (Zc oGt (Zg ZP (Zb (Za 0) (Zb (Zd 3) Ze))) (Zd 0))) (Zo (Zc ZC (ZaB (Za 1) ZaU (Zaw (ZE Zax (Zd 1)))) (ZB (Zb (ZO (Zb (Za 3) (Zb (Za 4) (Zb (Zc ZC (Zc Zf (Zc Zf (Za 1) (ZE Zax (Zd 1))) (Zd 2)) (Za 6)) Ze)))) Ze)))) ZG) (Zo (Zc ZC (ZaB (Za 1) ZaU (Zaw (ZE Zax (Zd 1)))) (ZB (Zb (ZO (Zb (Za 3) (Zb (Za 4) (Zb (Zc ZC (Za 6) (Zc Zf (Zc Zf (Za 1) (ZE Zax (Zd 1))) (Zd 2))) Ze)))) Ze)))))))))
def Zfu: .y:=Zs 3 ZhL
def Zh5: Sm:=Zh (Zk 2 (ZB (Zb (ZB Ze) Ze))) (Zh (Zac (ZQ (Za 0)) (Zw 3) (Zh (Zk 4 (ZB Ze)) (Zh (Zac (ZQ (Za 2)) (Zw 5) (Zac (ZQ (Zg ZdK (Zb (Zc ZC (Zc ZC (ZB (Zb (Zd 0) Ze)) (Z3 (ZQ (Za 3)) (Zw 100) (Zl (Zc ZaA (Za 100) (Z9))) (Za 100))) (Za 1)) Ze))) (Zw 6) (Zh (Zk 7 (Zbo (Zc ZaA (Zc Zf (Za 3) (Zd 0)) (Z9)) (Zc oLt (Za 6) (Zc Zf (Za 3) (Zd 0))))) (Zu (ZR (Zbx (Zl (Za 7))) (ZR (tOr (Zl (Zc oIs (Zc Zf (Za 3) (Zd 1)) (Z9))) (tOr (Zl (Zc oLe (Za 6) (Zc Zf (Za 3) (Zd 1)))) Zb1)) ZJ)) (ZN (Zag (Za 4) (Zc ZC (Za 5) (ZB (Zb (Za 6) Ze))))) ZG)))) (Zk 2 (Za 4))))) (Zo (Za 2)))
def Zef: .y:=Zs 2 Zh5
def ZhQ: Sm:=Zh (Zac (ZQ (ZaB (Zg Zef (Zb (Za 2) (Zb (Za 3) Ze))) ZaU (Zaw (Za 6)))) (Zw 8) (Zu (Zl (Zg ZfC (Zb (Za 0) (Zb (Za 1) (Zb (Za 8) (Zb (Za 4) (Zb (Za 5) (Zb (Zc Zf (Za 7) (Zd 0)) (Zb (Zc Zf (Za 7) (Zd 1)) Ze))))))))) (Zo (Za 8)) ZG)) (Zo (Z9))
def Zfz: .y:=Zs 8 ZhQ
def Zhy: Sm:=Zh (Zu (Zl (Zc oIs (Za 1) (Z9))) (Zo (Zc oIs (Za 0) (Z9))) ZG) (Zh (Zu (tOr (Zbx (Zl (eIs "list" (Za 0)))) (tOr (Zl (Zc oNe (Zg ZZ (Zb (Za 0) Ze)) (Zg ZZ (Zb (Za 1) Ze)))) Zb1)) (Zo (ZaT false)) ZG) (Zh (Zac (ZQ (Za 0)) (Zw 2) (Zu (tOr (Zbx (Zl (eIs "int" (Za 2)))) (tOr (Zl (eIs "bool" (Za 2))) Zb1)) (Zo (ZaT false)) ZG)) (Zo (Zc ZA (Za 0) (Za 1)))))
def Zfl: .y:=Zs 2 Zhy
def ZiI: Sm:=Zh (Zk 14 (Zg Zfz (Zb (Za 2) (Zb (Za 8) (Zb (Za 3) (Zb (Za 4) (Zb (Za 5) (Zb (Za 6) (Zb (Za 7) (Zb (Za 13) Ze)))))))))) (Zh (Zk 15 (Zg Zct (Zb (ZB (Zb (Za 2) (Zb (Za 3) (Zb (Za 4) (Zb (Za 5) Ze))))) Ze))) (Zh (Zk 16 (Zg ZfQ (Zb (Zc Zf (Za 15) (Zd 0)) (Zb (Zc Zf (Za 15) (Zd 1)) (Zb (Zc Zf (Za 15) (Zd 2)) (Zb (Zc Zf (Za 15) (Zd 3)) (Zb (Za 6) (Zb (Za 7) (Zb (Zc Zf (Za 13) (Zd 0)) (Zb (Zc Zf (Za 13) (Zd 1)) Ze)))))))))) (Zu (tOr (Zbx (Zl (Zg Zfl (Zb (Za 16) (Zb (Za 14) Ze))))) (tOr (Zl (Zc oNe (Za 15) (ZB (Zb (Za 2) (Zb (Za 3) (Zb (Za 4) (Zb (Za 5) Ze))))))) Zb1)) (Zo (ZaT false)) ZG)))
def Zf1: Sm:=Zh (Zac (ZQ (Zc ZC (ZaB (Zc ZC (ZaB (Za 9) (Zaw (Za 10)) ZaU) (ZaB (Za 9) ZaU (Zaw (Za 10)))) ZaU (Zaw (Zd 2))) (ZB (Zb (ZO (Zb (Za 11) (Zb (Zg ZP (Zb (Za 1) (Zb (Zc ZC (Za 12) (Zd 1)) Ze))) Ze))) Ze)))) (Zw 13) ZiI) (Zo (ZaT true))
def Zf2: Sm:=Zh (Zk 12 (Zg ZgX (Zb (Zc ZC (ZB (Zb (Zd 0) Ze)) (Z3 (ZQ (Zc Zf (Za 8) (Za 11))) (Zw 106) ZJ (Zc Zf (Za 106) (Zd 2)))) Ze))) (Zh (Zu (Zl (Zc oGt (Zg ZZ (Zb (Za 3) Ze)) (Zd 2))) (Zk 7 (Zg ZdA (Zb (Za 7) (Zb (Zd 30) Ze)))) ZG) Zf1)
def Zf3: Sm:=Zh (Zk 8 (Z3 (ZQ (Za 2)) (Zw 104) ZJ (Zg ZcM (Zb (Zg Zct (Zb (Zc Zf (Za 104) (Zd 2)) Ze)) Ze)))) (Zh (Zk 9 (Zg Zfj (Zb (Za 8) Ze))) (Zh (Zk 10 (Zg ZP (Zb (Za 1) (Zb (Zg ZZ (Zb (Za 9) Ze)) Ze)))) (Zh (Zk 11 (Zg ZP (Zb (Za 1) (Zb (Zg ZZ (Zb (Za 2) Ze)) Ze)))) Zf2)))
def ZiJ: Sm:=Zh (Zk 1 (ZB (Zb (ZaB (Za 0) ZaU (Zaw (Zd 84))) (Zb (Zd 0) Ze)))) (Zh (Zk 2 (Zg Zfg (Zb (Za 1) (Zb (Zd 3) Ze)))) (Zh (Zk 3 (Zg ZfD (Zb (Za 1) (Zb (Zc Zf (Zc Zf (Za 2) (ZE Zax (Zd 1))) (Zd 0)) Ze)))) (Zh (Zk 4 (Z3 (ZaM (Zb (Zg ZP (Zb (Za 1) (Zb (Zd 3) Ze))) Ze)) (Zw 100) ZJ (Zg ZcI (Zb (Za 1) Ze)))) (Zh (Zk 2 (Zg Zfu (Zb (Za 1) (Zb (Za 2) (Zb (Zg Zef (Zb (Za 3) (Zb (Za 4) Ze))) Ze))))) (Zh (Zk 5 (Z3 (ZaM (Zb (Zg ZP (Zb (Za 1) (Zb (Zd 5) Ze))) Ze)) (Zw 102) ZJ (Zg ZcI (Zb (Za 1) Ze)))) (Zh (Zk 6 (Zc Zf (ZB (Zb (Zg ZP (Zb (Za 1) (Zb (Zd 10) Ze))) (Zb (Zg ZP (Zb (Za 1) (Zb (Zd 25) Ze))) Ze))) (Zg ZeU (Zb (Zc ZA (Zg ZP (Zb (Za 1) (Zb (Zd 8) Ze))) (Zd 7)) Ze)))) (Zh (Zk 7 (Zc Zf (ZB (Zb (Zd 8) (Zb (Zd 3) (Zb (Zd 1000) (Zb (Zd 1) (Zb (Zd 0) Ze)))))) (Zg ZP (Zb (Za 1) (Zb (Zd 5) Ze))))) Zf3)))))))
def Zf4: .y:=Zs 1 ZiJ
end L
namespace L
noncomputable def crB(a b:Option Int): Bool:=match a,b with
 | some x,some y=>decide (y<x)
 | _,_=>false
noncomputable def Zbq(lo hi:Option Int)(n:Int): Bool:=!crB lo (some n) && !crB (some n) hi
noncomputable def Zau(lo hi:Option Int): List Int:=lo.toList++hi.toList
def Zhj(lo hi:Option Int)(ms:List Int): List Int:=PM.Zbj (uniq ((Zau lo hi++[0]++ms).filter (Zbq lo hi)))
theorem ZiK(lo hi:Option Int): (Zau lo hi).length<=2:=by cases lo <;> cases hi <;> simp[Zau]
theorem ZnH: ∀ns:List Int,Za2 (ns.map V.int)=some ns
 | []=>rfl
 | n::ns=>by show(Za2 (ns.map V.int)).map (n::·)=_;rw[ZnH ns];rfl
section
variable {U:Lc} {H K:Hp} {Q:V->Hp->Prop}
theorem Zjy{c:Ts}{L:List V->Hp->Prop}(p:V->Bool)(hn:∀i,nx i H=some vs[i]?)(hm:vs.length<=ZK)(step:∀x∈vs,Okt (c (Zi U j x) H) λb M=>b=p x/\M=H)(done:L (vs.filter p) H): Okl (Zah nx (Zw j) c (Za j) U (vs.length+1) 0 [] H) L:=by
 refine ZbG (λi acc M=>M=H/\acc=(vs.take i).filter p) hm ⟨rfl,rfl⟩ ?_ ?_ ?_
 ·intro i _ _ hi q9;obtain⟨rfl,rfl⟩:=q9
  have ev:=Yy1 hi
  refine⟨Nat.le_trans (List.length_filter_le _ _) (by simp;lia),_,_,by rw[hn,ev],Zbr _ _ _,(step _ (List.getElem_mem hi)).mono ?_⟩
  intro _ _ q9;obtain⟨rfl,rfl⟩:=q9
  rw[List.take_add_one,ev,List.filter_append]
  exact⟨λt=>Zr (v:=vs[i]) (by simp[Zi]) ⟨rfl,by simp[t]⟩,λt=>⟨rfl,by simp[t]⟩⟩
 ·intro _ _ q9;obtain⟨rfl,_⟩:=q9
  rw[hn];simp
 ·intro _ _ q9;obtain⟨rfl,rfl⟩:=q9
  rw[List.take_length];exact done
theorem Zj8(e:H[a]?=some (ns.map V.int))(hl:ns.length<64)(h:Q (.ref H.length) (H++[(PM.Zbj (uniq ns)).map V.int])): Ok (ZdK [.ref a] H) Q:=⟨_,_,by unfold ZdK;rw[ZcQ e];simp[ZnH,hl],h⟩
theorem Zlk(a b:Option Int): Zeo [oV a,oV b] H=some (.bool (crB a b),H):=by
 apply ZgV
 unfold Zeo Zir
 cases a with
 | none=>
  show Ok (Zs 2 _ [.none,oV b] H) _
  repeat' fail
  exact⟨rfl,rfl⟩
 | some x=>
  cases b with
  | none=>
   show Ok (Zs 2 _ [.int x,.none] H) _
   repeat' fail
   exact⟨rfl,rfl⟩
  | some y=>
   show Ok (Zs 2 _ [.int x,.int y] H) _
   repeat' fail
   exact⟨rfl,rfl⟩
theorem ZtQ(lo hi:Option Int)(n:Int): Zfy [.tup [oV lo,oV hi],.int n] H=some (.bool (Zbq lo hi n),H):=by
 apply ZgV
 unfold Zfy ZhP
 refine Z7 rfl ?_
 iterate 8 fail
 refine Ok.of (Zlk lo (some n)) ?_
 iterate 2 fail
 refine⟨λt=>?_,λf=>⟨?_,rfl⟩⟩
 ·iterate 5 fail
  refine Ok.of (Zlk (some n) hi) ?_
  fail
  unfold Zbq
  rw[t];exact⟨rfl,rfl⟩
 ·unfold Zbq
  rw[f];rfl
theorem ZpL(lo hi:Option Int): [oV lo,oV hi].filter (λv=>!isN v)=(Zau lo hi).map V.int:=by cases lo <;> cases hi <;> rfl
theorem Zsi{o:Option Int}(h:Q (.bool (!isN (oV o))) H): Ok (ZaA (oV o) .none H) Q:=by cases o <;> exact⟨_,_,rfl,h⟩
theorem Zmn(e:U i=some (.tup [oV lo,oV hi]))(h:Q (.ref H.length) (H++[(Zau lo hi).map V.int])): Ok (Z3 (ZQ (Za i)) (Zw j) (Zl (Zc ZaA (Za j) Z9)) (Za j) U H) Q:=by
 refine ZbY (ZaR (Zr e (.inr ⟨_,rfl,Zjy (λv=>!isN v) (λi=>rfl) (Nat.le_of_ble_eq_true rfl) (λx m=>?_) (ZpL lo hi▸h)⟩)))
 obtain⟨o,rfl⟩:∃o,x=oV o:=by
  rcases Zz7.mp m with e | m
  ·exact⟨_,e⟩
  ·exact⟨_,List.mem_singleton.mp m⟩
 exact ZaD (Z6 (Zr (by simp[Zi]) (Zcw (Zsi (Zaq ⟨rfl,rfl⟩)))))
theorem Zoz{p:Int->Bool}{P:V->Bool}(h:∀n,P (.int n)=p n): (ns.map V.int).filter P=(ns.filter p).map V.int:=by
 rw[List.filter_map]
 congr 1
 exact List.filter_congr λn _=>h n
def ZuX(lo hi:Option Int): V->Bool
 | .int n=>Zbq lo hi n
 | _=>false
theorem Zsj(e:K[k]?=some (ms.map V.int))(hm:ms.length<=40): Ok (Zgr [.tup [oV lo,oV hi],.ref k] K) λv M=>∃X a,M=K++X/\v=.ref a/\K.length<=a/\M[a]?=some ((Zhj lo hi ms).map V.int):=by
 walk_at "p"
 have le:=ZiK lo hi
 unfold Zgr Zi4
 refine Z7 rfl (Zae (Zbd (Zmn rfl ?_)))
 repeat' fail
 have en:(Zau lo hi).map V.int++[V.int 0]++ms.map V.int=(Zau lo hi++[0]++ms).map V.int:=by simp
 have ln:(Zau lo hi++[0]++ms).length<=43:=by simp;lia
 rw[en]
 generalize hX:K++[(Zau lo hi).map V.int]++[[V.int 0]]++[(Zau lo hi).map V.int++[V.int 0]]=X
 refine Zjy (ZuX lo hi) (λi=>ZbB (Zv _ _)) (by rw[ZD,List.length_map];lia) (λx m=>?_) ?_
 ·obtain⟨n,_,rfl⟩:=Zz11.mp m
  refine ZaD (Zay (ZX (Zr rfl (ZX (Zr rfl (Zan ?_))))))
  exact Ok.of (ZtQ lo hi n) (Zaq ⟨rfl,rfl⟩)
 ·rw[Zoz (p:=Zbq lo hi) λn=>rfl]
  refine Zj8 (Zv _ _) (Nat.lt_of_le_of_lt (List.length_filter_le _ _) .l) ?_
  rw[<-hX]
  refine⟨_,_,by simp only[List.append_assoc];rfl,rfl,.s,?_⟩
  exact Zv _ _
end
end L
namespace L
noncomputable def Za8(acc:List (List Int))(c:List Int): List (List Int):=acc.flatMap λs=>c.map λn=>s++[n]
def Zaf(cs:List (List Int)): List (List Int):=cs.foldl Za8 [[]]
noncomputable def Zdi: List (List Int)->Nat->List Int
 | [],_=>[]
 | c::r,i=>c.getD (i % c.length) 0::Zdi r (i / c.length)
theorem Zj9{s:List Int}{c:List Int}: Za8 (s::acc) c=(c.map λn=>s++[n])++Za8 acc c:=rfl
theorem ZdI{c:List Int}: ∀acc:List (List Int),(Za8 acc c).length=acc.length*c.length
 | []=>by simp[Za8]
 | s::acc=>by rw[Zj9,List.length_append,ZdI acc,List.length_map,List.length_cons,Nat.succ_mul,Nat.add_comm]
theorem Zll{c:List Int}: ∀{acc:List (List Int)} {i:Nat} {s:List Int},acc[i / c.length]?=some s->i % c.length<c.length->(Za8 acc c)[i]?=some (s++[c.getD (i % c.length) 0])
 | [],i,s,h,_=>by simp at h
 | t::acc,i,s,h,hc=>by
  have c0:0<c.length:=Nat.lt_of_le_of_lt (Nat.zero_le _) hc
  rw[Zj9]
  by_cases l:i<c.length
  ·rw[Nat.div_eq_of_lt l]at h
   rw[Nat.mod_eq_of_lt l,Yy0 (by simpa using l),List.getElem?_map,Yy1 l,List.getD_eq_getElem?_getD,Yy1 l]
   simp at h
   simp[h]
  ·obtain⟨j,rfl⟩:∃j,i=j+c.length:=⟨i-c.length,.o⟩
   rw[Nat.add_div_right _ c0]at h
   rw[Nat.add_mod_right]at hc ⊢
   rw[Yy5 .s,List.length_map,Nat.add_sub_cancel]
   exact Zll (by simpa using h) hc
theorem ZjR{c:List Int}: Zaf (cs++[c])=Za8 (Zaf cs) c:=by simp[Zaf]
theorem Zku: ∀(r:List (List Int)) (i:Nat),i<(Zaf r.reverse).length->(Zaf r.reverse)[i]?=some (Zdi r i).reverse
 | [],i,h=>by
  have:i=0:=by simp[Zaf]at h;omega
  subst this;rfl
 | c::r,i,h=>by
  rw[List.reverse_cons,ZjR,ZdI]at *
  have c0:0<c.length:=Nat.pos_of_mul_pos_left (Nat.lt_of_le_of_lt (Nat.zero_le _) h)
  rw[Zll (Zku r (i / c.length) (Nat.div_lt_of_lt_mul (by rw[Nat.mul_comm];exact h))) (Nat.mod_lt _ c0)]
  simp[Zdi]
theorem Zmo(cs:List (List Int)): ∀acc:List (List Int),(cs.foldl Za8 acc).length=cs.foldl (λm c=>m*c.length) acc.length:=by
 induction cs with
 | nil=>exact λ_=>rfl
 | cons c cs ih=>exact λacc=>by rw[List.foldl_cons,ih,ZdI];rfl
def IL(M:Hp)(P:Nat->Prop)(vs:List V)(ls:List (List Int)): Prop:=vs.length=ls.length/\∀(i:Nat) l,ls[i]?=some l->∃a,vs[i]?=some (.ref a)/\M[a]?=some (l.map V.int)/\P a
section
variable {U:Lc} {H K M X:Hp} {Q:V->Hp->Prop} {P:Nat->Prop} {vs:List V} {ls:List (List Int)}
theorem IL.ext(h:IL M P vs ls): IL (M++X) P vs ls:=⟨h.1,λi l e=>by
 obtain⟨a,h1,h2,h3⟩:=h.2 i l e
 exact⟨a,h1,ZW h2,h3⟩⟩
theorem IL.set{b:Nat}(h:IL M P vs ls)(n:¬P b): IL (M.set b us) P vs ls:=⟨h.1,λi l e=>by
 obtain⟨a,h1,h2,h3⟩:=h.2 i l e
 exact⟨a,h1,Zbg (λq=>n (q▸h3)) h2,h3⟩⟩
theorem IL.up(h:IL M P vs ls)(u:∀a,P a->P' a): IL M P' vs ls:=⟨h.1,λi l e=>by
 obtain⟨a,h1,h2,h3⟩:=h.2 i l e
 exact⟨a,h1,h2,u a h3⟩⟩
theorem IL.nil: IL M P [] []:=⟨rfl,λi l e=>by simp at e⟩
theorem IL.snoc{l:List Int}(h:IL M P vs ls)(e:M[a]?=some (l.map V.int))(ha:P a): IL M P (vs++[.ref a]) (ls++[l]):=⟨by simp[h.1],λi l' e'=>by
 by_cases c:i<ls.length
 ·rw[Yy0 c]at e'
  obtain⟨b,h1,h2,h3⟩:=h.2 i l' e'
  exact⟨b,by rw[Yy0 (by rw[h.1];exact c),h1],h2,h3⟩
 ·have hi:i=ls.length:=by have:=(Zz6.mp e').1;simp at this;lia
  subst hi
  simp at e'
  subst e'
  exact⟨a,by rw[<-h.1];simp,e,ha⟩⟩
theorem Zsk{g:Exs}{G:Nx->Nat->Hp->Prop}(h:Okl (g U H) λxs M=>∃a vs,xs=[.ref a]/\M[a]?=some vs/\G (ZeX a vs.length) (vs.length+1) M): Okg (Zhf g U H) G:=by
 obtain⟨xs,M,e,a,vs,rfl,ea,k⟩:=h
 exact⟨_,_,_,by simp[Zhf,e,rI,ea],k⟩
theorem Zsl(e:H[a]?=some vs)(h:Q (.ref H.length) (H++[vs.reverse])): Ok (ZgY [.ref a] H) Q:=⟨_,_,(by unfold ZgY;rw[ZcQ e]),h⟩
theorem Zsm{c:Nat}(ec:K[c]?=some cvs)(hc:IL K P cvs cs)(h0:0<K.length)(hl:∀c∈cs,0<c.length/\c.length<=1000)(l3:cs.length<=1000): Ok (ZfL [.ref c,.int n] K) λv M=>∃X a,M=K++X/\v=.ref a/\K.length<=a/\M[a]?=some ((Zdi cs.reverse n).reverse.map V.int):=by
 walk_at "p"
 have lc:=hc.1
 unfold ZfL Zie
 refine Z7 rfl ?_
 iterate 8 fail
 refine Zae (ZbR (Zsk ?_))
 fail
 refine⟨c,cvs,rfl,by walk_at "at",?_⟩
 let QQ:Nat->Lc->Hp->Prop:=λi U M=>∃(acc:List Int) (l:Nat),U 2=some (.ref K.length)/\U 3=some (.int l)/\M=K++[acc.map V.int]/\acc.length=i/\Zdi cs.reverse n=acc++Zdi (cs.reverse.drop i) l
 refine Zf8 QQ ⟨[],n,.w,.w,rfl,rfl,rfl⟩ ?_ ?_ ?_
 ·intro i U _ hi q9;obtain⟨acc,l,e2,e3,rfl,ha,hd⟩:=q9
  have hj:cvs.length-1-i<cs.length:=by omega
  obtain⟨d,hd'⟩:∃d,cs[cvs.length-1-i]?=some d:=⟨_,Yy1 hj⟩
  have hr:cs.reverse[i]?=some d:=by rw[List.getElem?_reverse .l,<-lc];exact hd'
  have hdr:cs.reverse.drop i=d::cs.reverse.drop (i+1):=by rw[List.drop_eq_getElem_cons (by simp;omega)];congr 1;exact Option.some.inj ((Yy1 _).symm.trans hr)
  obtain⟨b,hb,eb,_⟩:=hc.2 _ d hd'
  obtain⟨d0,d1⟩:=hl d (Yy4 hd')
  refine⟨_,_,by rw[show ZeX c cvs.length i (K++[acc.map V.int])=some (cvs[cvs.length-1-i]?)by simp[ZeX,ZW ec,hi],hb],Zbr _ _ _,?_⟩
  have m0:((l:Int).fmod (d.map V.int).length)=((l % d.length:Nat):Int):=by rw[List.length_map,Int.fmod_eq_emod_of_nonneg _ .l];rfl
  have m1:((l:Int).fdiv (d.map V.int).length)=((l / d.length:Nat):Int):=by rw[List.length_map,Int.fdiv_eq_ediv_of_nonneg _ .l];rfl
  have ml:=Nat.mod_lt l d0
  repeat' fail
  refine ZmH (by rw[List.length_map];lia) ?_
  rw[m0]
  refine Zch (ZW eb) .l .l ?_
  rw[Int.toNat_natCast]
  refine Zcd (Zv _ _) .l (by rw[ZD,List.length_map];lia) ?_
  rw[Zf7]
  repeat' fail
  refine ZmI (by rw[List.length_map];lia) (by rw[List.length_map];lia) ?_
  rw[m1]
  refine⟨acc++[d.getD (l % d.length) 0],l / d.length,.w,rfl,.s,by simp[ha],?_⟩
  rw[hd,hdr]
  simp[Zdi]
 ·intro U _ q9;obtain⟨acc,l,_,_,rfl,_⟩:=q9
  simp[ZeX,ZW ec]
 ·intro U _ q9;obtain⟨acc,l,e2,e3,rfl,ha,hd⟩:=q9
  rw[List.drop_of_length_le (by simp;lia)]at hd
  iterate 3 fail
  refine Zsl (Zv _ _) ⟨_,_,List.append_assoc ..,rfl,.s,?_⟩
  rw[hd,Zv]
  simp[Zdi]
end
end L
namespace L
theorem ZqR{k:Int}: x∈Zbz ks k↔x∈ks∨x=k:=by
 unfold Zbz
 split
 ·rename_i h
  exact⟨.inl,λq=>q.elim id λe=>e▸h⟩
 ·simp
theorem Zkv: ∀(ns ks:List Int) (x:Int),x∈ns.foldl Zbz ks↔x∈ks∨x∈ns
 | [],ks,x=>by simp
 | n::ns,ks,x=>by
  rw[List.foldl_cons,Zkv ns,ZqR,List.mem_cons,or_assoc]
theorem uniq_mem: x∈uniq ns↔x∈ns:=by
 unfold uniq
 rw[Zkv]
 simp
theorem ZjS: ∀(ns ks:List Int),ks.Nodup->(ns.foldl Zbz ks).Nodup
 | [],ks,h=>h
 | n::ns,ks,h=>by
  rw[List.foldl_cons]
  refine ZjS ns _ ?_
  unfold Zbz
  split
  ·exact h
  ·rename_i q
   exact List.nodup_append.mpr ⟨h,.s,λa ha b hb=>by rw[List.mem_singleton.mp hb];exact λe=>q (e▸ha)⟩
theorem Zka(ns:List Int): (uniq ns).Nodup:=ZjS ns [] List.nodup_nil
theorem Zkw: ∀(a b:List Int),a.Nodup->b.Nodup->(∀x,x∈a↔x∈b)->a.Perm b
 | [],b,_,_,h=>by
  cases b with
  | nil=>exact .refl _
  | cons y b=>exact absurd ((h y).mpr Zz5) .s
 | x::a,b,ha,hb,h=>by
  have hx:=(h x).mp Zz5
  obtain⟨na,ha⟩:=List.nodup_cons.mp ha
  refine((Zkw a (b.erase x) ha (hb.erase x) λy=>?_).cons x).trans (List.perm_cons_erase hx).symm
  rw[hb.mem_erase_iff]
  constructor
  ·intro hy
   exact⟨λe=>na (e▸hy),(h y).mp (Zz2 _ hy)⟩
  ·intro q9;obtain⟨ne,hy⟩:=q9
   exact(Zz7.mp ((h y).mpr hy)).resolve_left ne
theorem Zoi(ns:List Int): (PM.Zbj ns).Pairwise (·<=·):=by
 have:=List.pairwise_mergeSort (le:=λa b:Int=>decide (a<=b)) (λa b c h h'=>by simp at *;lia) (λa b=>by simp;lia) ns
 unfold PM.Zbj
 simpa using this
theorem sortI_mem: x∈PM.Zbj ns↔x∈ns:=(List.mergeSort_perm ns _).mem_iff
theorem ZoX{P:Int->Bool}{a b:List Int}(h:∀x,x∈a↔x∈b): (PM.Zbj (uniq a)).filter P=PM.Zbj (uniq (b.filter P)):=by
 refine ZkK (Zkw _ _ (((List.mergeSort_perm _ _).nodup_iff.mpr (Zka a)).filter P) (Zka _) λx=>?_) ((Zoi _).filter P)
 rw[List.mem_filter,sortI_mem,uniq_mem,uniq_mem,List.mem_filter,h]
noncomputable abbrev stV(s:Option Int×Option Int): V:=.tup [oV s.1,oV s.2]
def Zam(ms:List Int)(s:Option Int×Option Int): List Int:=Zhj s.1 s.2 ms
theorem ZiL: (Zam ms s).length<=ms.length+3:=by
 have:=ZiK s.1 s.2
 unfold Zam Zhj
 rw[Zii]
 refine Nat.le_trans (ZiD _) (Nat.le_trans (List.length_filter_le _ _) ?_)
 simp;lia
theorem Zlm: ∀(cs:List (List Int)) (k:Nat),0<cs.foldl (λm c=>m*c.length) k->0<k/\∀c∈cs,0<c.length
 | [],k,h=>⟨h,λ_ m=>nomatch m⟩
 | c::cs,k,h=>by
  obtain⟨h1,h2⟩:=Zlm cs _ h
  refine⟨Nat.pos_of_mul_pos_right h1,λd m=>?_⟩
  rcases Zz7.mp m with rfl | m
  ·exact Nat.pos_of_mul_pos_left h1
  ·exact h2 d m
section
variable {U:Lc} {H K M X:Hp} {Q:V->Hp->Prop} {st:List (Option Int×Option Int)} {ms:List Int}
theorem ZtR(h:i<n): ZaL 0 1 n i H=some (some (.int (i:Nat))):=by rw[Zeh,if_pos h];simp
theorem Zsn{s:Nat}(es:K[s]?=some (st.map stV))(em:K[m]?=some (ms.map V.int))(hm:ms.length<=40)(l3:st.length<=100)(h0:0<K.length)(hk:k<=1000): Ok (Zfs [.ref s,.ref m,.int k] K) λv M=>∃X a vs,M=K++X/\v=.ref a/\M[a]?=some vs/\IL M (K.length<=·) vs ((Zaf (st.map (Zam ms))).take k):=by
 walk_at "p"
 unfold Zfs ZhJ
 refine Z7 rfl (Zae (Zbd (ZbY (ZaR (Zr rfl (.inl ⟨s,_,rfl,es,?_⟩))))))
 let QL:Nat->List V->Hp->Prop:=λi acc M=>∃X,M=K++X/\acc.length=i/\IL M (K.length<=·) acc ((st.take i).map (Zam ms))
 refine ZbG QL (by rw[ZD,List.length_map];lia) ⟨[],.s,rfl,.nil⟩ ?_ ?_ ?_
 ·intro i acc _ hi q9;obtain⟨X,rfl,ha,il⟩:=q9
  rw[List.length_map]at hi
  have ev:=Yy1 hi
  refine⟨.l,_,_,by rw[ZbB (ZW es),List.getElem?_map,ev];rfl,Zbr _ _ _,Zbl (Za7 rfl (Zay (ZX (Zr rfl (ZX (Zr rfl (Zan ?_)))))))⟩
  refine(Zsj (ZW em) hm).mono ?_
  intro _ _ q9;obtain⟨Y,a,rfl,rfl,la,ea⟩:=q9
  refine⟨X++Y,List.append_assoc ..,by simp[ha],?_⟩
  rw[List.take_add_one,ev,List.map_append]
  exact il.ext.snoc ea (Nat.le_trans .s la)
 ·intro acc _ q9;obtain⟨X,rfl,_⟩:=q9
  rw[ZbB (ZW es)];simp
 intro cvs _ q9;obtain⟨X,rfl,lc,il⟩:=q9
 rw[List.length_map,List.take_length]at il
 generalize hcs:st.map (Zam ms)=cs at il
 have lcs:cs.length<=100:=by rw[<-hcs,List.length_map];exact l3
 have hl:∀c∈cs,c.length<=43:=λc m=>by
  rw[<-hcs]at m
  obtain⟨s,_,rfl⟩:=Zz11.mp m
  have:=ZiL (ms:=ms) (s:=s);lia
 have lv:=il.1
 have ic:=il.ext (X:=[cvs])
 generalize hK:K++X++[cvs]=K1 at ic
 have ec:K1[(K++X).length]?=some cvs:=by rw[<-hK];exact Zv _ _
 have hK1:∃Y,K1=K++Y:=⟨X++[cvs],by rw[<-hK,List.append_assoc]⟩
 generalize (K++X).length=c at ec ⊢
 iterate 5 fail
 let QQ:Nat->Lc->Hp->Prop:=λi U M=>M=K1/\U 2=some (.int k)/\U 3=some (.ref c)/\U 4=some (.int ((cs.take i).foldl (λm c=>m*c.length) 1:Nat))
 refine ZaR (Zr rfl (.inl ⟨c,cvs,rfl,ec,ZbZ QQ ⟨rfl,.w,.w,rfl⟩ ?_ ?_ ?_⟩))
 ·intro i U _ q9;obtain⟨rfl,_⟩:=q9
  exact ec
 ·intro i x U _ hx q9;obtain⟨rfl,e2,e3,e4⟩:=q9
  have hi:i<cs.length:=by have:=(Zz6.mp hx).1;lia
  have ev:=Yy1 hi
  obtain⟨b,hb,eb,_⟩:=ic.2 i _ ev
  rw[hx]at hb
  cases hb
  have ld:=hl _ (List.getElem_mem hi)
  repeat' fail
  refine ZlH (by rw[List.length_map];lia) (by rw[List.length_map];lia) ⟨rfl,.w,.w,?_⟩
  rw[List.take_add_one,ev,List.foldl_append,List.length_map]
  simp[Zi]
 ·intro U M q9;obtain⟨hM,e2,e3,e4⟩:=q9
  rw[hM]
  have hK0:0<K1.length:=by obtain⟨Z,hZ⟩:=hK1;rw[hZ];simp;lia
  rw[lv,List.take_length,show cs.foldl (λm c=>m*c.length) 1=(Zaf cs).length from(Zmo cs [[]]).symm]at e4
  have hlen:∀i,i<(Zaf cs).length->∀c∈cs,0<c.length/\c.length<=1000:=λi hi d m=>⟨(Zlm cs 1 (Nat.lt_of_lt_of_eq (Nat.lt_of_le_of_lt (Nat.zero_le _) hi) (Zmo cs [[]]))).2 d m,by have:=hl d m;lia⟩
  iterate 4 fail
  refine Zay (Zgd e2 e4 (ZmJ ?_))
  rw[show(if((Zaf cs).length:Int)<k then((Zaf cs).length:Int)else k)=((min k (Zaf cs).length:Nat):Int)by split <;> lia]
  refine Znl .l ?_
  have hmn:min k (Zaf cs).length<=(Zaf cs).length/\min k (Zaf cs).length<=1000:=⟨Nat.min_le_right _ _,.o⟩
  have tk:(Zaf cs).take k=(Zaf cs).take (min k (Zaf cs).length):=by rw[List.take_eq_take_iff];lia
  generalize min k (Zaf cs).length=n at hmn tk ⊢
  let QL:Nat->List V->Hp->Prop:=λi acc M=>∃X,M=K1++X/\acc.length=i/\IL M (K.length<=·) acc ((Zaf cs).take i)
  refine ZbG QL (by rw[ZD];lia) ⟨[],.s,rfl,.nil⟩ ?_ ?_ ?_
  ·intro i acc _ hi q9;obtain⟨X,rfl,ha,il⟩:=q9
   refine⟨.l,_,_,ZtR hi,Zbr _ _ _,Zbl (Za7 rfl (Zay (ZX (Zr .w (ZX (Zr rfl (Zan ?_)))))))⟩
   refine(Zsm (n:=i) (K:=K1++X) (ZW ec) ic.ext (by rw[List.length_append];lia) (hlen i .l) .l).mono ?_
   intro _ _ q9;obtain⟨Y,a,rfl,rfl,la,ea⟩:=q9
   have hc:=Zku cs.reverse i (by rw[List.reverse_reverse];lia)
   rw[List.reverse_reverse]at hc
   refine⟨X++Y,List.append_assoc ..,by simp[ha],?_⟩
   rw[List.take_add_one,hc]
   exact il.ext.snoc ea (Nat.le_trans (by obtain⟨Z,hZ⟩:=hK1;rw[hZ];simp) la)
  ·intro acc _ q9;obtain⟨X,rfl,_⟩:=q9
   simp
  ·intro acc _ q9;obtain⟨X,rfl,ha,il⟩:=q9
   obtain⟨Z,hZ⟩:=hK1
   refine⟨Z++X++[acc],_,acc,by rw[hZ];simp,rfl,Zv _ _,?_⟩
   rw[hcs,tk]
   exact il.ext
end
end L
namespace L
section
variable {U:Lc} {H K M X:Hp} {Q:V->Hp->Prop} {st:List (Option Int×Option Int)} {ms:List Int} {lo hi:Option Int} {n:Int}
theorem ZtS(e3:U 3=some (.tup [oV lo,oV hi]))(e6:U 6=some (.int n))(h:N (Zi U 7 (.bool (crB lo (some n)))) H): Oks (Zk 7 (Zbo (Zc ZaA (Zc Zf (Za 3) (Zd 0)) (Z9)) (Zc oLt (Za 6) (Zc Zf (Za 3) (Zd 0)))) U H) R N:=by
 refine Zbd (ZmD (Z6 (ZeK e3 (Zbe .d rfl ?_))))
 cases lo with
 | none=>exact Zcw (ZlF (Zaq (ZaV rfl h)))
 | some a=>exact Zcw (ZlG (Zaq (Za7 rfl (Zja e6 (ZeK e3 (Zbe .d rfl (Znj h)))))))
theorem Zso{T:Bool->Hp->Prop}(e3:U 3=some (.tup [oV lo,oV hi]))(e6:U 6=some (.int n))(e7:U 7=some (.bool (crB lo (some n))))(h:T (Zbq lo hi n) H): Okt (ZR (Zbx (Zl (Za 7))) (ZR (tOr (Zl (Zc oIs (Zc Zf (Za 3) (Zd 1)) (Z9))) (tOr (Zl (Zc oLe (Za 6) (Zc Zf (Za 3) (Zd 1)))) Zb1)) ZJ) U H) T:=by
 refine Zcg (ZiP (ZaD (Zr e7 (Zaq ⟨λt=>?_,λf=>?_⟩))))
 ·refine Zcg (ZeG (ZaD (Z6 (ZeK e3 (Zbe .d rfl ?_)))))
  unfold Zbq at h
  rw[t,Bool.true_and]at h
  cases hi with
  | none=>exact Zcw (Zi9 (Zaq (Za7 rfl (Za7 rfl (Zbl h)))))
  | some b=>
   refine Zcw (ZmK (Zaq (ZaV rfl (ZeG (ZaD (Zja e6 (ZeK e3 (Zbe .d rfl (Znk (Zaq ?_))))))))))
   have e:(!crB (some n) (some b))=decide (n<=b):=by
    show(!decide (b<n))=decide (n<=b)
    by_cases c:n<=b
    ·rw[decide_eq_true c,decide_eq_false .l];rfl
    ·rw[decide_eq_false c,decide_eq_true .l];rfl
   rw[e]at h
   exact⟨λt=>Za7 rfl (Zbl (t▸h)),λf=>Ziy (ZaV rfl (f▸h))⟩
 ·unfold Zbq at h
  rw[f]at h
  exact h
theorem Zmp(h:K.length<=a): (K++X).set a us=K++X.set (a-K.length) us:=List.set_append_right _ _ h
theorem ZpM(lo hi:Option Int)(ms:List Int): (PM.Zbj (uniq ([0]++Zau lo hi++ms))).filter (Zbq lo hi)=Zhj lo hi ms:=ZoX λx=>by simp[or_comm,or_assoc,or_left_comm]
end
end L
namespace L
theorem Zmq: ∀(cs:List (List Int)) (acc:List (List Int)),(∀c∈cs,c.length<=5)->(cs.foldl Za8 acc).length<=acc.length*5 ^ cs.length
 | [],acc,_=>by simp
 | c::cs,acc,h=>by
  refine Nat.le_trans (Zmq cs (Za8 acc c) λd m=>h d (Zz2 _ m)) ?_
  rw[ZdI,List.length_cons,Nat.pow_succ,Nat.mul_comm (5 ^ _) 5,<-Nat.mul_assoc]
  exact Nat.mul_le_mul_right _ (Nat.mul_le_mul_left _ (h c Zz5))
structure Tr(K:Hp)(a b m:Nat)(o:Option Int×Option Int)(vs:List V)(ls ks:List (List Int))(U:Lc)(M:Hp): Prop where
 ex:∃X,M=K++X
 e1:U 1=some (.ref m)
 e2:U 2=some (.ref a)
 e3:U 3=some (stV o)
 e4:U 4=some (.ref b)
 va:M[a]?=some vs
 il:IL M (λx=>K.length<=x/\x≠b) vs ls
 ub:∃us,M[b]?=some us/\IL M (λx=>K.length<=x/\x≠b) us ks
section
variable {U:Lc} {H K M X:Hp} {Q:V->Hp->Prop} {st:List (Option Int×Option Int)} {ms:List Int} {a b m:Nat} {o:Option Int×Option Int} {vs:List V} {ls ks:List (List Int)} {l:List Int}
theorem Tr.ext(t:Tr K a b m o vs ls ks U M): Tr K a b m o vs ls ks U (M++X):=by
 obtain⟨⟨Y,hY⟩,e1,e2,e3,e4,va,il,us,ub,iu⟩:=t
 exact⟨⟨Y++X,by rw[hY,List.append_assoc]⟩,e1,e2,e3,e4,ZW va,il.ext,us,ZW ub,iu.ext⟩
theorem Tr.on(t:Tr K a b m o vs ls ks U M)(h:5<=i): Tr K a b m o vs ls ks (Zi U i v) M:=by
 obtain⟨ex,e1,e2,e3,e4,va,il,ub⟩:=t
 exact⟨ex,ZaN .l e1,ZaN .l e2,ZaN .l e3,ZaN .l e4,va,il,ub⟩
theorem Tr.push{q:Nat}(t:Tr K a b m o vs ls ks U M)(hab:b≠a)(hb:K.length<=b)(eq:M[q]?=some (l.map V.int))(hq:K.length<=q/\q≠b): ∃us,M[b]?=some us/\us.length=ks.length/\Tr K a b m o vs ls (ks++[l]) U (M.set b (us++[.ref q])):=by
 obtain⟨⟨Y,hY⟩,e1,e2,e3,e4,va,il,us,ub,iu⟩:=t
 have nb:¬(K.length<=b/\b≠b):=λh=>h.2 rfl
 exact⟨us,ub,iu.1,⟨_,by rw[hY];exact Zmp hb⟩,e1,e2,e3,e4,Zbg hab va,il.set nb,_,Yy6 (lt_of_at ub),(iu.snoc eq hq).set nb⟩
theorem Zmr{n:Int}{P:Int->Bool}(h:ns[k]?=some n): ((ns.take (k+1)).filter P).map (λn=>l++[n])=((ns.take k).filter P).map (λn=>l++[n])++if P n=true then [l++[n]]else []:=by
 rw[List.take_add_one,h,List.filter_append,List.map_append]
 by_cases c:P n=true
 ·simp[c]
 ·simp[c]
theorem Zsp{p:Nat}(t:Tr K a b m o vs ls ks U M)(em:M[m]?=some (ms.map V.int))(hm:ms.length<=2)(hab:b≠a)(hb:K.length<=b)(h0:0<K.length)(e5:U 5=some (.ref p))(ep:M[p]?=some (l.map V.int))(pb:p≠b)(hl:l.length<=50)(hk:ks.length<=1000)(h:∀U M,Tr K a b m o vs ls (ks++(Zam ms o).map λn=>l++[n]) U M->N U M): Oks (Zac (ZQ (Zg ZdK (Zb (Zc ZC (Zc ZC (ZB (Zb (Zd 0) Ze)) (Z3 (ZQ (Za 3)) (Zw 100) (Zl (Zc ZaA (Za 100) (Z9))) (Za 100))) (Za 1)) Ze))) (Zw 6) (Zh (Zk 7 (Zbo (Zc ZaA (Zc Zf (Za 3) (Zd 0)) (Z9)) (Zc oLt (Za 6) (Zc Zf (Za 3) (Zd 0))))) (Zu (ZR (Zbx (Zl (Za 7))) (ZR (tOr (Zl (Zc oIs (Zc Zf (Za 3) (Zd 1)) (Z9))) (tOr (Zl (Zc oLe (Za 6) (Zc Zf (Za 3) (Zd 1)))) Zb1)) ZJ)) (ZN (Zag (Za 4) (Zc ZC (Za 5) (ZB (Zb (Za 6) Ze))))) ZG)) U M) R N:=by
 have le:=ZiK o.1 o.2
 refine ZbR (ZaR (Zay (Zgz (ZmV t.e1 (Z6 (ZcN (Zjb (ZeH .d (Zmn t.e3 ?_)))))))))
 refine ZbM (Zz (Zv _ _)) (Zv _ _) (by rw[ZD];simp;lia) ?_
 refine ZbM (Zv _ _) (Zz (Zz (Zz em))) (by rw[ZD];simp;lia) ?_
 rw[show [V.int 0]++(Zau o.1 o.2).map V.int++ms.map V.int=([0]++Zau o.1 o.2++ms).map V.int by simp]
 refine Zj8 (Zv _ _) (by simp;lia) ?_
 have hs:=ZpM o.1 o.2 ms
 have ln:(PM.Zbj (uniq ([0]++Zau o.1 o.2++ms))).length<=5:=by
  rw[Zii]
  refine Nat.le_trans (ZiD _) ?_
  simp;lia
 have t1:=((((t.ext (X:=[[V.int 0]])).ext (X:=[(Zau o.1 o.2).map V.int])).ext (X:=[[V.int 0]++(Zau o.1 o.2).map V.int])).ext (X:=[([0]++Zau o.1 o.2++ms).map V.int])).ext (X:=[(PM.Zbj (uniq ([0]++Zau o.1 o.2++ms))).map V.int])
 have ep1:=Zz (x:=(PM.Zbj (uniq ([0]++Zau o.1 o.2++ms))).map V.int) (Zz (x:=([0]++Zau o.1 o.2++ms).map V.int) (Zz (x:=[V.int 0]++(Zau o.1 o.2).map V.int) (Zz (x:=(Zau o.1 o.2).map V.int) (Zz (x:=[V.int 0]) ep))))
 generalize PM.Zbj (uniq ([0]++Zau o.1 o.2++ms))=ns at *
 obtain⟨_,lb,_⟩:=t.ub
 have lb:=lt_of_at lb
 generalize hM4:M++[[V.int 0]]++[(Zau o.1 o.2).map V.int]++[[V.int 0]++(Zau o.1 o.2).map V.int]++[([0]++Zau o.1 o.2++ms).map V.int]=M4 at *
 have db:M4.length≠b:=by rw[<-hM4];simp;lia
 let QQ:Nat->Lc->Hp->Prop:=λk U M'=>Tr K a b m o vs ls (ks++((ns.take k).filter (Zbq o.1 o.2)).map λn=>l++[n]) U M'/\U 5=some (.ref p)/\M'[p]?=some (l.map V.int)/\M'[M4.length]?=some (ns.map V.int)
 refine .inl ⟨_,_,rfl,Zv _ _,ZbZ QQ ⟨by simpa using t1,e5,ep1,Zv _ _⟩ ?_ ?_ ?_⟩
 ·intro i U M q9;obtain⟨_,_,_,h⟩:=q9
  exact h
 ·intro k x U M' hx q9;obtain⟨tr,e5,ep,ed⟩:=q9
  rw[List.getElem?_map]at hx
  obtain⟨n,hn,rfl⟩:=Zz1.mp hx
  have hk':k<ns.length:=(Zz6.mp hn).1
  have t6:=(tr.on (i:=6) (v:=.int n) .d).on (i:=7) (v:=.bool (crB o.1 (some n))) .d
  refine Zae (ZtS (tr.on .d).e3 rfl (ZaS (Zso t6.e3 rfl rfl ?_)))
  show _/\_
  obtain⟨X6,hX6⟩:=tr.ex
  obtain⟨_,lb6,_⟩:=tr.ub
  have lb6:=lt_of_at lb6
  have lM:K.length<=M'.length:=by rw[hX6];simp
  have e5':=ZaN (i:=7) (v:=.bool (crB o.1 (some n))) .d (ZaN (i:=6) (v:=.int n) .d e5)
  refine⟨λc=>?_,λc=>?_⟩
  ·refine Zgw (Zih (Zr t6.e4 (Z6 (Zr e5' (ZcN (ZeL rfl (ZeH (Nat.le_of_ble_eq_true rfl) (ZbM (Zz ep) (Zv _ _) (by rw[ZD];simp;lia) ?_))))))))
   rw[show l.map V.int++[V.int n]=(l++[n]).map V.int by simp]
   obtain⟨us,eu,lu,t7⟩:=((t6.ext (X:=[[V.int n]])).ext (X:=[(l++[n]).map V.int])).push hab hb (Zv _ _) (by simp;lia)
   have lf:((ns.take k).filter (Zbq o.1 o.2)).length<=5:=Nat.le_trans (List.length_filter_le _ _) (by simp;lia)
   refine Zcd eu .l (by rw[ZD,lu];simp;lia) ⟨?_,e5',Zbg (Ne.symm pb) (Zz (Zz ep)),Zbg (Ne.symm db) (Zz (Zz ed))⟩
   rw[Zmr hn,if_pos c,<-List.append_assoc]
   exact t7
  ·refine Zbm ⟨?_,e5',ep,ed⟩
   rw[Zmr hn,if_neg (by rw[c];decide),List.append_nil]
   exact t6
 ·intro U M q9;obtain⟨tr,_⟩:=q9
  rw[List.length_map,List.take_length,hs]at tr
  exact h U M tr
theorem IL.lt(h:IL M P vs ls): IL M (λx=>P x/\x≠M.length) vs ls:=⟨h.1,λi l e=>by
 obtain⟨a,h1,h2,h3⟩:=h.2 i l e
 exact⟨a,h1,h2,h3,Nat.ne_of_lt (lt_of_at h2)⟩⟩
theorem ZoY{c:List Int}(h:ls[j]?=some l): Za8 (ls.take (j+1)) c=Za8 (ls.take j) c++c.map λn=>l++[n]:=by
 rw[List.take_add_one,h]
 simp[Za8,List.flatMap_append]
theorem ZhZ: ∀(cs:List (List Int)),∀l∈Zaf cs,l.length=cs.length:=by
 have key:∀(cs acc:List (List Int)) (k:Nat),(∀l∈acc,l.length=k)->∀l∈cs.foldl Za8 acc,l.length=k+cs.length:=by
  intro cs
  induction cs with
  | nil=>exact λacc k h l m=>h l m
  | cons c cs ih=>
   intro acc k h l m
   rw[ih (Za8 acc c) (k+1) (λl m=>?_) l m,List.length_cons]
   ·lia
   ·obtain⟨s,hs,m⟩:=List.mem_flatMap.mp m
    obtain⟨n,_,rfl⟩:=Zz11.mp m
    simp[h s hs]
 intro cs l m
 have:=key cs [[]] 0 (λl m=>by rw[List.mem_singleton.mp m];rfl) l m
 lia
theorem Zms{s:Nat}(es:K[s]?=some (st.map stV))(em:K[m]?=some (ms.map V.int))(hm:ms.length<=2)(l3:st.length<=4)(h0:0<K.length): Ok (Zef [.ref s,.ref m] K) λv M=>∃X a vs,M=K++X/\v=.ref a/\K.length<=a/\M[a]?=some vs/\IL M (K.length<=·) vs (Zaf (st.map (Zam ms))):=by
 walk_at "p"
 unfold Zef Zh5
 refine Z7 rfl ?_
 repeat' fail
 let QQ:Nat->Lc->Hp->Prop:=λi U M=>∃X a vs,M=K++X/\U 1=some (.ref m)/\U 2=some (.ref a)/\K.length<=a/\M[a]?=some vs/\IL M (K.length<=·) vs (Zaf ((st.take i).map (Zam ms)))
 refine ZbZ QQ ⟨_,_,_,List.append_assoc ..,.w,.w,.s,Zv _ _,?_⟩ ?_ ?_ ?_
 ·exact IL.nil.snoc (l:=[]) (Zz (Zv _ _)) (Zz10 _)
 ·intro i U _ q9;obtain⟨X,a,vs,rfl,_⟩:=q9
  exact ZW es
 ·intro i x U M hx q9;obtain⟨X,a,vs,hM,e1,e2,ha,va,il⟩:=q9
  rw[List.getElem?_map]at hx
  obtain⟨o,ho,rfl⟩:=Zz1.mp hx
  have hi:i<st.length:=(Zz6.mp ho).1
  have hs:(st.take (i+1)).map (Zam ms)=(st.take i).map (Zam ms)++[Zam ms o]:=by rw[List.take_add_one,ho];simp
  have hsh:∀l∈Zaf ((st.take i).map (Zam ms)),l.length<=50:=λl hl=>by
   have:=ZhZ _ l hl
   simp at this
   lia
  have hle:(Zaf ((st.take i).map (Zam ms))).length<=125:=by
   have h1:=Zmq ((st.take i).map (Zam ms)) [[]] λc hc=>by
    obtain⟨o,_,rfl⟩:=Zz11.mp hc
    have:=ZiL (ms:=ms) (s:=o);lia
   have h2:(5:Nat) ^ ((st.take i).map (Zam ms)).length<=5 ^ 3:=Nat.pow_le_pow_right .d (by simp;lia)
   have h3:(Zaf ((st.take i).map (Zam ms))).length<=[([]:List Int)].length*5 ^ ((st.take i).map (Zam ms)).length:=h1
   simp only[List.length_singleton,Nat.one_mul]at h3
   exact Nat.le_trans h3 h2
  show Oks _ _ λU M=>QQ (i+1) U M
  simp only[QQ,hs,ZjR]
  generalize Zaf ((st.take i).map (Zam ms))=ls at il hsh hle ⊢
  have lc:=ZiL (ms:=ms) (s:=o)
  have lM:=lt_of_at va
  iterate 6 fail
  let Q2:Nat->Lc->Hp->Prop:=λj U M'=>Tr K a M.length m o vs ls (Za8 (ls.take j) (Zam ms o)) U M'
  refine ZbR (ZaR (Zr .w (.inl ⟨a,vs,rfl,Zz va,?_⟩)))
  refine ZbZ Q2 ⟨⟨X++[[]],by rw[hM,List.append_assoc]⟩,.w,.w,.w,.w,Zz va,il.lt.ext,[],Zv _ _,IL.nil⟩ (λj U M t=>t.va) ?_ ?_
  ·rintro j y U M' hy tr
   have hj:j<ls.length:=by have:=(Zz6.mp hy).1;have:=il.1;lia
   have ev:=Yy1 hj
   obtain⟨p,hp,ep,kp,pb⟩:=tr.il.2 j _ ev
   rw[hy]at hp
   cases hp
   obtain⟨Y,hY⟩:=tr.ex
   refine Zsp (tr.on .d) (by rw[hY];exact ZW em) hm .l (by rw[hM];simp) h0 rfl ep pb (hsh _ (List.getElem_mem hj)) ?_ λU M t=>?_
   ·rw[ZdI,List.length_take]
    exact Nat.le_trans (Nat.mul_le_mul (Nat.le_trans (Nat.min_le_right _ _) hle) (Nat.le_trans lc (by lia:ms.length+3<=5))) .d
   ·show Tr _ _ _ _ _ _ _ _ _ _
    rw[ZoY ev]
    exact t
  ·rintro U M' tr
   have tr:Tr K a M.length m o vs ls (Za8 (ls.take vs.length) (Zam ms o)) U M':=tr
   rw[il.1,List.take_length]at tr
   obtain⟨Y,hY⟩:=tr.ex
   obtain⟨us,eu,iu⟩:=tr.ub
   exact Zbd (Zr tr.e4 ⟨Y,M.length,us,hY,ZaN .d tr.e1,rfl,by rw[hM];simp,eu,iu.up λx h=>h.1⟩)
 ·intro U M q9;obtain⟨X,a,vs,hM,e1,e2,ha,va,il⟩:=q9
  rw[List.length_map,List.take_length]at il
  exact Za3 (Zr e2 ⟨X,a,vs,hM,rfl,ha,va,il⟩)
end
end L
namespace L
theorem ZtT{v:Int}(h0:0<=v)(h1:v<10): ∃z:Nat,z<=3/\([0,1,2,2,1,2,1,2,1,3]:List Int).getD v.toNat 0=z:=ZjC .d _
section
variable {p q s a:Nat} {ns:List Int} {ps:List Nat} {H K M:Hp}
theorem ZoA(t:Tp p q ns K): Ok (Zfg [.ref p,.int 3] K) λv M=>Ws p q ns K M/\∃a vs fs sig,v=.ref a/\M[a]?=some vs/\FRs K M vs fs/\K.length<=a/\GoodP fs sig/\1<=fs.length/\fs.length<=3/\∃(body:List T) (pp n:Nat),fs[fs.length-1]?=some (.tup [.int pp,.int n,.lst body])/\body.length<=7/\sig (fs.length-1)=(pp,n):=by
 walk_at "p"
 have hp:=t.lt
 unfold Zfg Zhp
 refine Z7 rfl ?_
 repeat' fail
 have w0:Ws p q ns K (K++[[]]++[[]]):=t.ws.app.app
 have ea:(K++[[]]++[[]])[K.length]?=some ([]:List V):=Zz (Zv _ _)
 have es:(K++[[]]++[[]])[(K++[[]]).length]?=some ([]:List V):=Zv _ _
 have h0:(K++[[]]++[[]]).length=(K++[([]:List V)]).length+1:=by simp
 have hs:K.length<(K++[([]:List V)]).length:=by simp
 generalize K++[[]]++[[]]=K0 at *
 generalize (K++[([]:List V)]).length=s at *
 generalize hA:K.length=a at *
 refine(ZU w0.tp .d).dr λK1 m x1 m0 m1=>?_
 obtain⟨m,rfl⟩:∃k:Nat,m=k:=⟨m.toNat,.l⟩
 have f0:Fns a s [] [] [] (λ_=>(0,1)) K0:=⟨ea,es,⟨[],.nil,.s⟩,⟨λj hj=>by simp at hj,λ_=>by decide⟩,rfl,λf q e=>by simp at e,λq hq=>(List.not_mem_nil hq).elim⟩
 repeat' fail
 let QQ:Nat->Lc->Hp->Prop:=λi U M=>∃vs fs ps sig,U 0=some (.ref p)/\U 2=some (.ref a)/\U 3=some (.ref s)/\U 4=some (.int m)/\Ws p q ns K M/\Fns a s vs fs ps sig M/\fs.length=i
 refine ZdO (m:=m) QQ ?_ ?_ ?_
 ·exact⟨_,_,_,_,.w,.w,.w,.w,w0.trans x1,f0.ws x1 .o hs,rfl⟩
 ·intro i U M hi q9;obtain⟨vs,fs,ps,sig,e0,e2,e3,e4,w,fn,hl⟩:=q9
  have es:=fn.es
  repeat' fail
  have ls:=lt_of_at es
  refine(Zqr (ps:=ps) (w.app (X:=[psV ps])).tp (Zv _ _) .l (by have:=fn.len;lia) (λq m=>by have:=fn.h4 q m;lia)).mono ?_
  intro _ M2 q9;obtain⟨x2,pp,n,a',rfl,pn,n1,n4,bd⟩:=q9
  obtain⟨us,ts,G,ea',rg,na',hg,hlt,hS⟩:=bd
  have f2:=(fn.ws (w.tp.ws.app.trans x2) .o hs)
  obtain⟨F,rv,hf⟩:=f2.rf
  have lv:=rv.length
  refine Zcd f2.ea .l (by rw[ZD];lia) ?_
  have hv:(vs++[V.tup [.int pp,.int n,.ref a']])[((i:Nat):Int).toNat]?=some (.tup [.int pp,.int n,.ref a']):=by rw[Int.toNat_natCast,<-hl,<-lv];simp
  have e3':(M2.set a (vs++[V.tup [.int pp,.int n,.ref a']]))[a]?=some (vs++[V.tup [.int pp,.int n,.ref a']]):=Yy6 (lt_of_at f2.ea)
  repeat' fail
  refine Zcd (Zbg .l f2.es) .l (by rw[ZD];have:=fn.len;simp;lia) ?_
  have w2:Ws p q ns K M2:=w.app.trans x2
  refine⟨_,_,_,_,.w,.w,.w,.w,(w2.set .l).set .l,f2.snoc hs pn n1 n4 (d:=1) .d .l (.tup (.cons (.int _) (.cons (.int _) (.cons (.ref ea' rg) .nil)))) (λb m=>?_) hS,by simp[hl]⟩
  have:M.length+1<=b:=by
   have:=hg b (by simpa using m)
   simp at this
   exact this
  lia
 intro U M q9;obtain⟨vs,fs,ps,sig,e0,e2,e3,e4,w,fn,hl⟩:=q9
 have hps:ps.length<=100:=by have:=fn.len;lia
 have hq:∀q∈ps,q<=100:=λq m=>by have:=fn.h4 q m;lia
 have hM:=w.ex.1
 have lsM:=lt_of_at fn.es
 have hp0:p<M.length:=by lia
 repeat' fail
 refine(ZU w.app.tp .d).dr λA i xA i0 i1=>?_
 obtain⟨pp,hp3,epp⟩:=ZtT i0 i1
 refine Zch (ns:=[0,1,2,2,1,2,1,2,1,3]) (xA.at .l (Zv _ _)) i0 (by simp;omega) ?_
 rw[epp]
 have uA:Ws p q ns M A:=w.tp.ws.app.trans xA
 obtain⟨n0,hn0,pn0,n10,n30⟩:∃n:Nat,(if(pp:Int)>1 then(pp:Int)else 1)=n/\pp<=n/\1<=n/\n<=3:=by
  split
  ·exact⟨pp,rfl,.l,.l,.o⟩
  ·exact⟨1,rfl,.l,.l,.l⟩
 iterate 6 fail
 rw[hn0]
 let QQ:Lc->Hp->Prop:=λU B=>∃n:Nat,U 7=some (.int n)/\pp<=n/\1<=n/\n<=3/\Ws p q ns M B/\U 0=some (.ref p)/\U 2=some (.ref a)/\U 3=some (.ref s)/\U 4=some (.int m)/\U 6=some (.int pp)
 refine ZcR QQ ?_ ?_
 ·by_cases h:(n0:Int)<3
  ·repeat' fail
   refine(ZU uA.tp .d).dr λB j xB j0 j1=>?_
   by_cases h2:j=4
   ·repeat' fail
    exact⟨n0+1,rfl,.l,.l,.l,uA.trans xB,by walk_at "rds"⟩
   ·repeat' fail
    exact⟨n0,.w,.o,.o,.o,uA.trans xB,by walk_at "rds"⟩
  ·repeat' fail
   exact⟨n0,.w,.o,.o,.o,uA,by walk_at "rds"⟩
 clear e0 e2 e3 e4 uA xA epp
 intro U B q9;obtain⟨n,e7,pn,n1,n3,uB,e0,e2,e3,e4,e6⟩:=q9
 repeat' fail
 refine Zex ?_
 generalize (if decide ((n:Int)<3)=true then(1:Int)else 0)=fl
 repeat' fail
 have c4:=uB.tp.room (x:=3) (y:=fl) (fn.ws uB .o hs).es .l
 refine(ZU c4.tp .d).dr λC c xC c0 c1=>?_
 obtain⟨c,rfl⟩:∃k:Nat,c=k:=⟨c.toNat,.l⟩
 have c5:=c4.wr.draw xC
 repeat' fail
 rw[show(1:Int)+c=((1+c:Nat):Int)by lia]
 refine(ZgC (pp:=0) (n:=n) .l .l hps hq (m:=9) (d:=2) .d C (1+c) .l c5.c).mono ?_
 intro _ D q9;obtain⟨yD,a1,vs1,ts1,F1,rfl,ea1,rb1,na1,hb1,lb1,hS1⟩:=q9
 have uC:Ws p q ns M C:=uB.app.trans xC
 have uD:Ws p q ns M D:=uC.body yD uB.ex.1
 have lC:=uC.ex.1
 have bd:Bd M ps 0 n 2 2 a1 D:=⟨vs1,ts1,F1,ea1,rb1,na1,λb m=>by have:=hb1 b m;lia,.l,hS1⟩
 clear ea1 rb1 na1 hb1 lb1 hS1 yD c5 c4 xC uC
 let QQ:Lc->Hp->Prop:=λU E=>Ws p q ns M E/\Bd M ps 0 n 2 3 a1 E/\U 0=some (.ref p)/\U 2=some (.ref a)/\U 6=some (.int pp)/\U 7=some (.int n)/\U 8=some (.int fl)/\U 9=some (szV 0 n s)/\U 10=some (.ref a1)
 refine ZcR QQ ?_ ?_
 ·by_cases h:(m:Int)>0
  ·repeat' fail
   refine(ZU uD.tp .o).dr λE j xE j0 j1=>?_
   obtain⟨f,rfl⟩:∃f:Nat,j=f:=⟨j.toNat,.l⟩
   have hf:f<ps.length:=by have:=fn.len;lia
   have hk:=hq ps[f] (List.getElem_mem hf)
   have ek:ps[f]?=some ps[f]:=Yy1 hf
   generalize ps[f]=k at hk ek
   have ek':(psV ps)[((f:Nat):Int).toNat]?=some (.int k):=by simp[psV,ek]
   have uE:=uD.trans xE
   have esE:=(fn.ws uE .o hs).es
   repeat' fail
   refine Zjc (n:=n) uE.tp .l hk .w .w .d λvs2 G ss F2 xG rf2 hf2 hl2 hs2=>?_
   repeat' fail
   refine(ZU (xG.app (X:=[vs2])).tp .l).dr λI x xI x0 x1=>?_
   obtain⟨x,rfl⟩:∃k:Nat,x=k:=⟨x.toNat,.l⟩
   repeat' fail
   rw[show(1:Int)+x=((1+x:Nat):Int)by lia]
   have lE:=uE.ex.1
   have lG:=xG.ex.1
   have bE:=bd.ws xE hp0
   obtain⟨_,_,_,eaE,_⟩:=id bE
   have laE:=lt_of_at eaE
   have hf2':∀b∈G.length::F2,E.length<=b:=λb m=>by
    rcases Zz7.mp m with rfl | m
    ·exact lG
    ·exact hf2 b m
   have rl:RF I (.ref G.length) (.lst (ss.map smL)) (G.length::F2):=xI.rf (.ref (Zv _ _) (rf2.ext _)) λm=>by have:=hf2' p m;lia
   refine Bd.push ((bE.ws xG.app hp0).ws xI hp0) (t:=.tup [.str "call",.int (1+x:Nat),.int f,.lst (ss.map smL)]) (.tup (.cons (.str _) (.cons (.int _) (.cons (.int _) (.cons rl .nil))))) (λb m=>?_) (StQ.plain (.inr (.inr (.inr (.inr ⟨1+x,f,ss,k,.l,.l,ek,hl2,hs2,rfl⟩))))) hp0 .d λvs' h=>⟨((uE.trans xG.app).trans xI).set (by have:=bd.ge;omega),h,?_⟩
   ·have:=hf2' b (by simpa using m)
    lia
   ·walk_at "rds"
  ·repeat' fail
   exact⟨uD,bd.le .d,by walk_at "rds"⟩
 clear e0 e2 e3 e4 e6 e7 bd uD uB
 intro U E q9;obtain⟨uE,bd,e0,e2,e6,e7,e8,e9,e10⟩:=q9
 repeat' fail
 have c4:=uE.tp.room (x:=1) (y:=0) (fn.ws uE .o hs).es .l
 refine(ZU c4.tp .d).dr λG c xG c0 c1=>?_
 obtain⟨c,rfl⟩:∃k:Nat,c=k:=⟨c.toNat,.l⟩
 have c5:=c4.wr.draw xG
 repeat' fail
 refine(ZgC (pp:=0) (n:=n) .l .l hps hq (m:=9) (d:=1) .d G c .l c5.c).mono ?_
 intro _ I q9;obtain⟨yI,a2,vs2,ts2,F2,rfl,ea2,rb2,na2,hb2,lb2,hS2⟩:=q9
 have uG:Ws p q ns M G:=uE.app.trans xG
 have vG:Ws p q ns E G:=uE.tp.ws.app.trans xG
 have uI:Ws p q ns M I:=uG.body yI uE.ex.1
 have vI:Ws p q ns E I:=vG.body yI (Zz10 _)
 have lG:=uG.ex.1
 obtain⟨vs1,ts1,ea1,r1,ha1,hl1,hS1⟩:=(bd.ws vI hp0).lf
 have r2:FRs M I vs2 ts2:=⟨F2,rb2,λb m=>Nat.le_trans lG (hb2 b (Zz2 _ m))⟩
 have lv2:=rb2.length
 have lv1:vs1.length=ts1.length:=by obtain⟨_,r,_⟩:=r1;exact r.length
 refine ZbM ea1 ea2 (by rw[ZD];lia) ?_
 have l3:Lf M ps 0 n 2 5 I.length (I++[vs1++vs2]):=.new (r1.app r2) uI.ex.1 (by simp;lia) λt m=>(Zz8.mp m).elim (hS1 t) λm=>(hS2 t m).up
 have u3:Ws p q ns M (I++[vs1++vs2]):=uI.app
 generalize I++[vs1++vs2]=J at *
 generalize I.length=a3 at *
 clear ea1 r1 ha1 hl1 hS1 ea2 rb2 na2 hb2 lb2 hS2 r2 lv1 lv2 uI vI yI c5 c4 bd
 let QQ:Lc->Hp->Prop:=λU E=>∃a3,U 10=some (.ref a3)/\Ws p q ns M E/\Lf M ps 0 n 2 5 a3 E/\U 0=some (.ref p)/\U 2=some (.ref a)/\U 6=some (.int pp)/\U 7=some (.int n)/\U 8=some (.int fl)
 refine ZcR QQ ?_ ?_
 ·by_cases h:fl=1
  ·repeat' fail
   refine(ZU u3.tp .d).dr λA j xA j0 j1=>?_
   have lA:=l3.ws xA hp0
   have uA:=u3.trans xA
   by_cases h2:j=7
   ·repeat' fail
    refine(Znt (ps:=ps) xA.tp n1 .l).mono ?_
    intro _ B q9;obtain⟨xB,a4,rfl,l4⟩:=q9
    obtain⟨vs1,ts1,ea1,r1,ha1,hl1,hS1⟩:=lA.ws xB hp0
    obtain⟨vs2,ts2,ea2,r2,ha2,hl2,hS2⟩:=l4.from uA.ex.1
    repeat' fail
    refine Zda (n:=2) ea1 ?_
    have lv1:vs1.length=ts1.length:=r1.length
    have lv2:vs2.length=ts2.length:=r2.length
    refine ZbM (Zz ea2) (Zv _ _) (by rw[ZD,List.length_take];lia) ?_
    exact⟨_,rfl,(uA.trans xB).app.app,.new (r2.ext.app r1.take.ext) ((uA.trans xB).app).ex.1 (by simp;lia) λt m=>(Zz8.mp m).elim (hS2 t) λm=>hS1 t (List.mem_of_mem_take m),by walk_at "rds"⟩
   ·repeat' fail
    exact⟨a3,.w,uA,lA,by walk_at "rds"⟩
  ·repeat' fail
   exact⟨a3,.w,u3,l3,by walk_at "rds"⟩
 clear e0 e2 e6 e7 e8 e9 e10 l3 u3
 clear a3
 intro U J q9;obtain⟨a3,e10,u3,l3,e0,e2,e6,e7,e8⟩:=q9
 let QQ:Lc->Hp->Prop:=λU E=>∃a3,U 10=some (.ref a3)/\Ws p q ns M E/\Lf M ps 0 n 2 5 a3 E/\U 2=some (.ref a)/\U 6=some (.int pp)/\U 7=some (.int n)
 refine ZcR QQ ?_ ?_
 ·by_cases h:fl=0
  ·repeat' fail
   refine(ZU u3.tp .d).dr λA j xA j0 j1=>?_
   have lA:=l3.ws xA hp0
   have uA:=u3.trans xA
   by_cases h2:j=1
   ·repeat' fail
    refine(Znt (ps:=ps) xA.tp n1 .o).mono ?_
    intro _ B q9;obtain⟨xB,a4,rfl,l4⟩:=q9
    obtain⟨vs1,ts1,ea1,r1,ha1,hl1,hS1⟩:=lA.ws xB hp0
    obtain⟨vs2,ts2,ea2,r2,ha2,hl2,hS2⟩:=l4.from uA.ex.1
    repeat' fail
    refine Zda (n:=2) ea2 ?_
    repeat' fail
    refine Zda (n:=2) (Zz ea1) ?_
    have lv1:vs1.length=ts1.length:=r1.length
    have lv2:vs2.length=ts2.length:=r2.length
    refine ZbM (Zz (Zv _ _)) (Zv _ _) (by rw[ZD,List.length_take,List.length_take];lia) ?_
    exact⟨_,rfl,(uA.trans xB).app.app.app,.new (r2.take.ext.ext.app r1.take.ext.ext) ((uA.trans xB).app.app).ex.1 (by simp;lia) λt m=>(Zz8.mp m).elim (λm=>hS2 t (List.mem_of_mem_take m)) λm=>hS1 t (List.mem_of_mem_take m),by walk_at "rds"⟩
   ·repeat' fail
    exact⟨a3,.w,uA,lA,by walk_at "rds"⟩
  ·repeat' fail
   exact⟨a3,.w,u3,l3,by walk_at "rds"⟩
 clear e0 e2 e6 e7 e8 e10 l3 u3
 clear a3
 intro U J q9;obtain⟨a3,e10,u3,l3,e2,e6,e7⟩:=q9
 repeat' fail
 have fJ:=fn.ws u3 .o hs
 obtain⟨F,rv,hf⟩:=fJ.rf
 obtain⟨vs1,ts1,ea1,⟨F1,r1,hf1⟩,ha1,hl1,hS1⟩:=l3
 have lv:=rv.length
 have wJ:=w.trans u3
 refine Zcd fJ.ea .l (by rw[ZD];lia) ?_
 repeat' fail
 have rn:RF J (.tup [.int pp,.int n,.ref a3]) (.tup [.int pp,.int n,.lst ts1]) (a3::F1):=by
  have:=RF.tup (.cons (.int pp) (.cons (.int n) (.cons (.ref ea1 r1) .nil)))
  simpa using this
 have hN:∀b∈a3::F1,s<b:=λb m=>by
  rcases Zz7.mp m with rfl | m
  ·lia
  ·have:=hf1 b m;lia
 refine⟨wJ.set .l,a,vs++[.tup [.int pp,.int n,.ref a3]],fs++[.tup [.int pp,.int n,.lst ts1]],_,rfl,Yy6 (lt_of_at fJ.ea),⟨F++(a3::F1),?_,λb m=>?_⟩,.o,fJ.gp.snoc pn n1 .l .l (Zmb (d:=2) .d .l (λh=>by have:=fJ.gp.sg h;lia) fJ.hps hS1),.s,by simp;lia,ts1,pp,n,.s,.l,.s⟩
 ·exact List.append_nil (a3::F1)▸rfs_app (.cons (rn.frame λb m=>Yy2 (by have:=hN b m;lia)) .nil) (rv.frame λb m=>Yy2 (by have:=hf b m;omega))
 ·rcases Zz8.mp m with m | m
  ·have:=hf b m;lia
  ·have:=hN b m;omega
end
end L
namespace L
def GS(s:Option Int×Option Int): Prop:=∀x y,s.1=some x->s.2=some y->x<=y
theorem ZuE{lo hi:Int}(h:lo<=hi): ∀{c:Nat},c<8->∃s:Option Int×Option Int,GS s/\([.int lo,.int lo,.int lo,.int lo,.none,.int lo,.none,.int lo]:List V)[c]?=some (oV s.1)/\([.int hi,.int hi,.int lo,.int hi,.int hi,.none,.none,.int hi]:List V)[c]?=some (oV s.2):=by
 have a:GS (some lo,some hi):=λx y e f=>by cases e;cases f;exact h
 intro c hc
 match c,hc with
 | 0,_=>exact⟨_,a,rfl,rfl⟩
 | 1,_=>exact⟨_,a,rfl,rfl⟩
 | 2,_=>exact⟨(some lo,some lo),λx y e f=>by cases e;cases f;exact Int.le_refl _,rfl,rfl⟩
 | 3,_=>exact⟨_,a,rfl,rfl⟩
 | 4,_=>exact⟨(none,some hi),λx y e f=>(nomatch e),rfl,rfl⟩
 | 5,_=>exact⟨(some lo,none),λx y e f=>(nomatch f),rfl,rfl⟩
 | 6,_=>exact⟨(none,none),λx y e f=>(nomatch f),rfl,rfl⟩
 | 7,_=>exact⟨_,a,rfl,rfl⟩
theorem ZuF{v:Nat}: -2<=([1,1,-1,2]:List Int).getD v 0/\([1,1,-1,2]:List Int).getD v 0<=2:=by
 rcases ZiW [1,1,-1,2] v with h | h
 ·rw[h];decide
 ·revert h
  generalize List.getD _ _ _=x
  revert x
  decide
theorem Zsq{s:List Int}(hl:s.length=n+1)(hf:∀k∈s.drop 1,C9 k): ∃c,smL s=Za0 n c/\Sh n c:=by
 refine⟨λi=>s.getD i 0,Zk5 hl,λi hi=>?_⟩
 have hm:s.getD (i+1) 0∈s.drop 1:=by
  rw[List.getD_eq_getElem?_getD,Yy1 .l]
  simp only[Option.getD_some]
  rw[List.mem_iff_getElem]
  exact⟨i,by simp;omega,by simp[Nat.add_comm]⟩
 have:=hf _ hm
 unfold C9 at this
 dsimp only
 omega
section
variable {p q a:Nat} {ns:List Int} {H K M:Hp}
theorem ZqS(t:Tp p q ns K)(hpp:pp<=100): Ok (ZfD [.ref p,.int pp] K) λv M=>Ws p q ns K M/\∃(a:Nat) (st:List (Option Int×Option Int)),v=.ref a/\K.length<=a/\M[a]?=some (st.map stV)/\st.length=pp/\∀s∈st,GS s:=by
 walk_at "p"
 have hp:=t.lt
 unfold ZfD ZhY
 refine Z7 rfl ?_
 repeat' fail
 let QQ:Nat->Lc->Hp->Prop:=λi U M=>U 0=some (.ref p)/\U 2=some (.ref K.length)/\Ws p q ns K M/\∃st:List (Option Int×Option Int),M[K.length]?=some (st.map stV)/\st.length=i/\∀s∈st,GS s
 refine ZdO (m:=pp) QQ ⟨.w,.w,t.ws.app,[],Zv _ _,rfl,λ_ m=>nomatch m⟩ ?_ ?_
 ·intro i U M hi q9;obtain⟨e0,e2,w,st,es,hl,hs⟩:=q9
  repeat' fail
  refine(ZfT w.tp).mono ?_
  intro _ A q9;obtain⟨xA,lo,rfl,_⟩:=q9
  repeat' fail
  refine(ZU xA.tp .d).dr λB x xB x0 x1=>?_
  repeat' fail
  refine(ZU xB.tp .d).dr λC c xC c0 c1=>?_
  obtain⟨s,gs,k1,k2⟩:=ZuE (lo:=lo) (hi:=lo+x) .l (c:=c.toNat) .l
  have u:=(xA.trans xB).trans xC
  have es:=u.at .l es
  repeat' fail
  refine Zcd (Zz (Zz es)) .l (by rw[ZD,List.length_map];lia) ?_
  refine⟨.w,.w,((w.trans u).app.app).set (Zz10 _),st++[s],?_,by simp[hl],λt m=>?_⟩
  ·rw[Yy6 (lt_of_at (Zz (Zz es))),List.map_append];rfl
  ·rcases Zz8.mp m with m | m
   ·exact hs t m
   ·rw[List.mem_singleton.mp m];exact gs
 ·intro U M q9;obtain⟨e0,e2,w,st,es,hl,hs⟩:=q9
  repeat' fail
  exact⟨w,_,st,rfl,Nat.le_refl _,es,hl,hs⟩
theorem ZtU{s:Nat}(t:Tp p q ns K)(es:K[s]?=some (ss.map V.int))(hs:s≠p)(hl:ss.length=pp)(pn:pp<=n)(n4:n<=4): DT p q ns K (Zft [.ref p,.int pp,.int n,.ref s] K) (ClOk n):=by
 walk_at "p"
 have hp:=t.lt
 unfold Zft ZhK
 refine Z7 rfl ?_
 repeat' fail
 refine(ZU t .d).dr λA x xA x0 x1=>?_
 repeat' fail
 have hA:=xA.ex.1
 let QQ:Nat->Lc->Hp->Prop:=λi U M=>U 0=some (.ref p)/\U 1=some (.int pp)/\U 2=some (.int n)/\U 3=some (.ref s)/\U 4=some (.ref A.length)/\Ws p q ns K M/\∃(z:Int) (fs:List Int),M[A.length]?=some ((z::fs).map V.int)/\fs.length=i/\∀f∈fs,-2<=f/\f<=2
 refine ZdO (m:=pp) QQ ⟨.w,.w,.w,.w,.w,xA.app,x-1,[],Zv _ _,rfl,λ_ m=>nomatch m⟩ ?_ ?_
 ·intro i U M hi q9;obtain⟨e0,e1,e2,e3,e4,w,z,fs,ea,hf,hfs⟩:=q9
  repeat' fail
  refine(ZU w.app.tp .d).dr λB c xB c0 c1=>?_
  have ea:=xB.at .l (Zz ea)
  have esB:=(w.trans (w.tp.ws.app.trans xB)).at hs es
  refine Zch (ns:=[1,1,-1,2]) (xB.at (by have:=w.lp;have:=w.ex.1;lia) (Zv _ _)) c0 (by simp;omega) ?_
  have fc:=ZuF (v:=c.toNat)
  generalize ([1,1,-1,2]:List Int).getD c.toNat 0=f at fc ⊢
  refine Zcd ea .l (by rw[ZD];simp;lia) ?_
  have w2:=(w.app.trans xB).set (a:=A.length) (vs:=(z::fs).map V.int++[.int f]) .o
  have ea2:=Yy6 (a:=(z::fs).map V.int++[.int f]) (lt_of_at ea)
  have es2:=Zbg (x:=(z::fs).map V.int++[.int f]) (show A.length≠s by have:=lt_of_at es;lia) esB
  generalize List.set _ A.length _=C at *
  rw[show(z::fs).map V.int++[.int f]=(z::(fs++[f])).map V.int by simp]at ea2
  repeat' fail
  refine Zch (ns:=z::(fs++[f])) ea2 .l (by simp;lia) ?_
  rw[show(z::(fs++[f])).getD ((i:Int)+1).toNat 0=f by rw[show((i:Int)+1).toNat=fs.length+1 by lia];simp]
  refine Zgy .w .w (Zch es2 .l .l ?_)
  refine ZeI (Zh9 .l .l) (Zi8 (Zr .w (Zav (Zc6 ea2 .o .d (by simp;lia) ?_))))
  refine⟨.w,.w,.w,.w,.w,w2.set .o,z-f*ss.getD (i:Int).toNat 0,fs++[f],?_,by simp[hf],λg m=>?_⟩
  ·rw[Yy6 (lt_of_at ea2)];rfl
  ·rcases Zz8.mp m with m | m
   ·exact hfs g m
   ·rw[List.mem_singleton.mp m];exact fc
 ·intro U M q9;obtain⟨e0,e1,e2,e3,e4,w,z,fs,ea,hf,hfs⟩:=q9
  iterate 7 fail
  refine Zgy e2 e1 (Zi8 (ZmM (Zv _ _) .l .l ?_))
  refine ZbM (Zz (Zz ea)) (Zv _ _) (by rw[ZD];simp;lia) ?_
  rw[show(z::fs).map V.int++List.replicate ((n:Int)-pp).toNat (V.int 0)=(z::(fs++List.replicate (n-pp) 0)).map V.int by rw[show((n:Int)-pp).toNat=n-pp by lia];simp]
  obtain⟨f,ef,hf'⟩:=Zsq (n:=n) (s:=z::(fs++List.replicate (n-pp) 0)) (by simp;lia) λk m=>by
   rcases Zz8.mp m with m | m
   ·have:=hfs k m;exact⟨.l,.l⟩
   ·rw[(List.mem_replicate.mp m).2];exact⟨.d,.d⟩
  have w3:=(w.app (X:=[[V.int 0]])).app (X:=[List.replicate ((n:Int)-pp).toNat (V.int 0)])
  have lM:=w3.ex.1
  generalize M++[[V.int 0]]++[List.replicate ((n:Int)-pp).toNat (V.int 0)]=B at *
  repeat' fail
  refine(ZU w3.app.app.tp .d).dr λC c xC c0 c1=>?_
  have hpB:p<B.length:=by lia
  refine ZbS (xC.at (by simp;lia) (Zv _ _)) c0 (ZnD c0 .l) ?_
  have rf:=ZbO (xC.at .l (Zz (Zv _ _)))
  have w4:=w3.app.app.trans xC
  have fin:∀(v:V) (t:T),ClOk n t->RF C v t [B.length]->PP v C:=λv t hc r=>⟨w4,t,_,hc,r,λb m=>by rw[List.mem_singleton.mp m];exact lM⟩
  rw[ef]at rf
  split
  ·exact fin _ _ (.ev hf' (d:=3) .d) (.tup (.cons (.str _) (.cons rf (.cons (.int 3) .nil))))
  ·split
   ·exact fin _ _ (.ev hf' (d:=2) .d) (.tup (.cons (.str _) (.cons rf (.cons (.int 2) .nil))))
   ·exact fin _ _ (.un hf') (.tup (.cons (.str _) (.cons rf .nil)))
end
end L
namespace L
section
variable {p q a:Nat} {ns:List Int} {H K M:Hp}
theorem ZqT{body:List T}(w:Ws p q ns H K)(ea:K[a]?=some vs)(ha:H.length<=a)(fr:FRs H K vs fs)(G:GoodP fs sig)(h1:1<=fs.length)(h3:fs.length<=3)(hb:fs[fs.length-1]?=some (.tup [.int pp,.int n,.lst body]))(hbl:body.length<=7)(hsg:sig (fs.length-1)=(pp,n)){tv:Nat}(et:K[tv]?=some tvs)(htv:tv≠p)(it:IL K (·≠p) tvs tt)(t0:0<tt.length)(htt:∀l∈tt,l.length=pp): Ok (Zfu [.ref p,.ref a,.ref tv] K) λv M=>Ws p q ns H M/\Ws p q ns K M/\∃a' vs' fs',v=.ref a'/\M[a']?=some vs'/\FRs H M vs' fs'/\H.length<=a'/\GoodP fs' sig/\fs'.length=fs.length/\∃b:List T,fs'[fs.length-1]?=some (.tup [.int pp,.int n,.lst b])/\∃c,ClOk n c/\T.tup [.str wY,c]∈b:=by
 walk_at "p"
 have hp:=w.lp
 have lf:=fr.length
 have sg:=G.sg (fs.length-1)
 obtain⟨b0,q1,q2,q3⟩:=G.fn (fs.length-1) .l
 rw[hsg]at q1 q3 sg
 rw[hb]at q1
 cases q1
 have key:∀b':List T,b'.length<=8->(∀t∈b',StD sig (fs.length-1) n 3 t)->GoodP (fs.dropLast++[.tup [.int pp,.int n,.lst b']]) sig:=λb' l q=>by
  have:=G.last (body:=b') h1 l (by rw[hsg];exact q)
  rwa [hsg]at this
 dsimp only at q3 sg
 right
 obtain⟨v,hv,rv⟩:=fr.at hb
 obtain⟨b,us,rfl,eb,rb,hb'⟩:=Zji rv
 rw[<-lf]at hv
 have lu:=rb.length
 left
 unfold Zfu ZhL
 refine Z7 rfl ?_
 repeat' fail
 refine ZeC ea hv ?_
 repeat' fail
 refine ZeC ea hv ?_
 repeat' fail
 refine(Zew w.tp .l).mono ?_
 intro vc A q9;obtain⟨xA,c,Fc,hc,rc,hfc⟩:=q9
 have fc:FR H A vc c:=⟨Fc,rc,λb m=>Nat.le_trans w.ex.1 (hfc b m)⟩
 have hc:=Zgp hc
 let QQ:Lc->Hp->Prop:=λU B=>∃vc c,U 5=some vc/\ClOk n c/\Ws p q ns K B/\FR H B vc c/\U 0=some (.ref p)/\U 1=some (.ref a)/\U 3=some (.int pp)/\U 4=some (.int n)
 refine ZcR QQ ?_ ?_
 ·by_cases h:(pp:Int)>0
  ·repeat' fail
   refine(ZU xA.tp .d).dr λB x xB x0 x1=>?_
   have uB:=xA.trans xB
   by_cases h2:x>0
   ·have etB:=uB.at htv et
    repeat' fail
    refine(ZU xB.tp (by have:=it.1;lia)).dr λC y xC y0 y1=>?_
    have ly:=it.1
    obtain⟨l,hl⟩:∃l,tt[y.toNat]?=some l:=⟨_,Yy1 .l⟩
    obtain⟨b,hb,eb,nb⟩:=it.2 _ l hl
    have uC:=uB.trans xC
    refine ZbS (xC.at htv etB) y0 hb ?_
    repeat' fail
    refine(ZtU (pp:=pp) (n:=n) xC.tp (uC.at nb eb) nb (htt l (Yy4 hl)) .l .l).mono ?_
    intro v D q9;obtain⟨xD,c,F,hc,r,hf⟩:=q9
    exact⟨v,c,rfl,hc,uC.trans xD,⟨F,r,λb m=>Nat.le_trans (w.trans uC).ex.1 (hf b m)⟩,by walk_at "rds"⟩
   ·repeat' fail
    exact⟨vc,c,.w,hc,uB,fc.ws xB hp,by walk_at "rds"⟩
  ·repeat' fail
   exact⟨vc,c,.w,hc,xA,fc,by walk_at "rds"⟩
 clear fc hc rc hfc xA
 intro U A q9;obtain⟨vc,c,e5,hc,xA,fc,e0,e1,e3,e4⟩:=q9
 repeat' fail
 have wB:Ws p q ns H (A++[[V.tup [.str "say",vc]]]):=(w.trans xA).app
 have eB:(A++[[V.tup [.str "say",vc]]])[A.length]?=some [V.tup [.str "say",vc]]:=Zv _ _
 have fB:FRs H (A++[[V.tup [.str "say",vc]]]) [V.tup [.str "say",vc]] [.tup [.str wY,c]]:=.cons (.tup (.cons .str (.cons fc.ext .nil))) .nil
 have uB:Ws p q ns K (A++[[V.tup [.str "say",vc]]]):=xA.app
 have hA:H.length<=A.length:=(w.trans xA).ex.1
 generalize A++[[V.tup [.str "say",vc]]]=B at *
 generalize A.length=a4 at *
 refine(ZU wB.tp .d).dr λC x xC x0 x1=>?_
 have uC:=uB.trans xC
 have wC:=wB.trans xC
 have eaC:=uC.at .l ea
 have ebC:=uC.at .l eb
 have e4C:=xC.at .l eB
 have rC:=fr.ws uC hp
 have rbC:=rb.ws uC hp
 have f4:=fB.ws xC hp
 have rd:FRs H C vs.dropLast fs.dropLast:=by rw[List.dropLast_eq_take,List.dropLast_eq_take,lf];exact rC.take
 have sc:StD sig (fs.length-1) n 3 (.tup [.str wY,c]):=StD.plain (.say (hc)) .l λh=>by have:=G.sg h;lia
 have lt:∀b':T,(fs.dropLast++[b'])[fs.length-1]?=some b':=λb'=>by rw[Yy5 .s];simp
 have hC:=wC.ex.1
 by_cases h:x>0
 ·iterate 5 fail
  refine Zk7 (Zr .w ⟨rfl,rfl⟩) eaC ?_
  repeat' fail
  refine ZeC (Zz eaC) hv ?_
  repeat' fail
  exact⟨wC.app.app.app.app,uC.app.app.app.app,_,_,fs.dropLast++[.tup [.int pp,.int n,.lst (body++[.tup [.str wY,c]])]],rfl,Zv _ _,.app rd.ext.ext.ext.ext (.cons (.tup (.cons .int (.cons .int (.cons (.lst (Zz (Zz (Zv _ _))) wC.app.ex.1 (rbC.app f4).ext.ext.ext.ext) .nil)))) .nil),wC.app.app.app.ex.1,key _ (by simp;omega) λt m=>(Zz8.mp m).elim (q3 t) λm=>by rw[List.mem_singleton.mp m];exact sc,by simp;lia,_,lt _,c,hc,.s⟩
 ·iterate 6 fail
  refine Zk7 (Zr .w ⟨rfl,rfl⟩) eaC ?_
  repeat' fail
  refine ZeC (Zz eaC) hv ?_
  repeat' fail
  exact⟨wC.app.app.app.app,uC.app.app.app.app,_,_,fs.dropLast++[.tup [.int pp,.int n,.lst ([.tup [.str wY,c]]++body)]],rfl,Zv _ _,.app rd.ext.ext.ext.ext (.cons (.tup (.cons .int (.cons .int (.cons (.lst (Zz (Zz (Zv _ _))) wC.app.ex.1 (f4.app rbC).ext.ext.ext.ext) .nil)))) .nil),wC.app.app.app.ex.1,key _ (by simp;omega) λt m=>(Zz8.mp m).elim (λm=>by rw[List.mem_singleton.mp m];exact sc) (q3 t),by simp;omega,_,lt _,c,hc,.s⟩
end
end L
namespace L
def Zd4(fs:List T)(rs:List (List T))(sig:Nat->Nat×Nat)(ks:List Int)(st:Int)(ss:List Int)(ms:List Mo): Prop:=Zg4 [.lst fs,Zq ss,Zq ks,.int st]=some (.lst (ms.map Zdg))/\Zfx [.lst fs,.lst (rs.map T.lst),Zq ss,Zq ks,.int st]=some (.lst (ms.map ZbA))/\ms.length<=1000/\∀m∈ms,∃h,h<fs.length/\m.1=(h:Nat)/\m.2.2.length=(sig h).2
theorem ZtV{st:Int}(W:RR fs rs sig)(s9:st<=900): ∃g:List Int->List Mo,∀ss,ss.length=(sig (fs.length-1)).1->Zd4 fs rs sig ks st ss (g ss):=
 ⟨λss=>if h:ss.length=(sig (fs.length-1)).1 then Classical.choose (ZnG (ks:=ks) W h s9)else [],λss h=>by show Zd4 _ _ _ _ _ _ (dite _ _ _);rw[dif_pos h];exact Classical.choose_spec (ZnG (ks:=ks) W h s9)⟩
section
variable {U:Lc} {H K M X:Hp} {Q R:V->Hp->Prop} {N:Lc->Hp->Prop}
theorem Zsr{f o i:PM.Ex}(h:Ok (f U H) λx H1=>Ok (o U H1) λy H2=>Ok (i U H2) λz H3=>∃K,ZeW y z x H3=some K/\N U K): Oks (Zg0 f o i U H) R N:=by
 obtain⟨x,H1,e1,y,H2,e2,z,H3,e3,K,e4,h⟩:=h
 exact⟨none,U,K,by simp[Zg0,e1,e2,e3,e4],.s,λ_=>h⟩
theorem Zss{o f:PM.Ex}(h:Ok (o U H) λx H1=>Ok (f U H1) λy H2=>Ok (Znq y x H2) Q): Ok (ZgZ o f U H) Q:=by
 obtain⟨x,H1,e1,y,H2,e2,v,H3,e3,h⟩:=h
 exact⟨v,H3,by simp[ZgZ,e1,e2,e3],h⟩
theorem Zkx{p:d->Bool}{ls:List d}{x:d}(h:(ls.take i).find? p=some x): ls.find? p=some x:=by
 rw[<-List.take_append_drop i ls,List.find?_append,h];rfl
theorem ZfR{p:d->Bool}{ls:List d}{x:d}(h:ls[i]?=some x)(n:(ls.take i).find? p=none): (ls.take (i+1)).find? p=if p x=true then some x else none:=by
 rw[List.take_add_one,h,List.find?_append,n]
 by_cases c:p x=true
 ·simp[c]
 ·simp[c]
def Fd(Z:List Int->Bool)(f:Nat)(q:Int)(ls:List (List Int))(vs:List V)(M:Hp): Prop:=(vs=[]/\ls.find? Z=none)∨∃l b,vs=[kV f q,.ref b]/\ls.find? Z=some l/\M[b]?=some (l.map V.int)
theorem ZoZ{st:Int}{s:Nat}{svs:List V}{g:List Int->List Mo}(hZl:∀l,brk (g l) r f q=Z l)(W:RR fs rs sig)(hf:f<fs.length)(hr:rs[f]?=some r)(h0:0<K.length)(r1:RF K v1 (.lst fs) F1)(r3:RF K v3 (Zq ks) F3)(es:K[s]?=some svs)(il:IL K P svs ls)(hg:∀l∈ls,Zd4 fs rs sig ks st l (g l))(ea:K[a]?=some us)(ru:RFs K us ((Z5 0 rs).filter (atP f q)) G)(hl:ls.length<=10000):
  Ok (ZfM [v1,.ref s,v3,.int st,.ref a] K) λv M=>∃X i vs,M=K++X/\v=.dct i/\M[i]?=some vs/\Fd Z f q ls vs M:=by
 walk_at "p"
 have hd:=Zmk (f:=f) (q:=q) rs 0
 rw[if_pos (Nat.zero_le _),Nat.sub_zero,hr]at hd
 dsimp only at hd
 rw[show(Z5 0 rs).filter (atP f q)=_ from hd]at ru
 have us1:(us=[]/\∀l,brk (g l) r f q=false)∨∃vc c G,us=[.tup [.int f,.int q,vc]]/\RF K vc c G/\ClOk (sig f).2 c/\∀l,brk (g l) r f q=(g l).any (ZbV f q c):=by
  rcases Zkt (q:=q) W hf hr with⟨e1,e2⟩ | ⟨c,e1,e2,hc⟩
  ·rw[e1]at ru
   obtain⟨h,_⟩:=ru.inil
   exact .inl ⟨h,λl=>by simp[brk,e2]⟩
  ·rw[e1]at ru
   obtain⟨vb,h,rb⟩:=ru.i1
   obtain⟨vc,G4,e,rc,_⟩:=Zmm rb
   exact .inr ⟨vc,c,G4,by rw[h,e],rc,hc,λl=>by simp[brk,e2]⟩
 have hus:∀x∈us,∃vc,x=.tup [.int f,.int q,vc]:=λx m=>by
  rcases us1 with⟨rfl,_⟩ | ⟨vc,c,G,rfl,_⟩
  ·cases m
  ·exact⟨vc,List.mem_singleton.mp m⟩
 have hul:us.length<=1:=by
  rcases us1 with⟨rfl,_⟩ | ⟨vc,c,G,rfl,_⟩
  ·decide
  ·exact Zz10 _
 simp only[hZl]at us1
 unfold ZfM Zif
 refine Z7 rfl (Zae (Zbd ⟨_,_,rfl,?_⟩))
 refine Zae (ZbR (ZaR (Zr .w (.inl ⟨s,svs,rfl,Zz es,?_⟩))))
 let QQ:Nat->Lc->Hp->Prop:=λi U M=>∃X vs,M=K++X/\U 0=some v1/\U 2=some v3/\U 3=some (.int st)/\U 4=some (.ref a)/\U 5=some (.dct K.length)/\M[K.length]?=some vs/\Fd Z f q (ls.take i) vs M
 refine ZbZ QQ ⟨_,[],rfl,.w,.w,.w,.w,.w,Zv _ _,.inl ⟨rfl,rfl⟩⟩ ?_ ?_ ?_
 ·intro i U _ q9;obtain⟨X,vs,rfl,_⟩:=q9
  exact ZW es
 ·intro i x U M hx q9;obtain⟨X,vs,hM,e0,e2,e3,e4,e5,ed,fd⟩:=q9
  have hi:i<ls.length:=by have:=(Zz6.mp hx).1;have:=il.1;lia
  have ev:=Yy1 hi
  obtain⟨b,hb,eb,_⟩:=il.2 i _ ev
  rw[hx]at hb
  cases hb
  generalize hl':ls[i]=l at ev eb
  have hgl:=hg l (Yy4 ev)
  have eaM:M[a]?=some us:=by rw[hM];exact ZW ea
  have ebM:M[b]?=some (l.map V.int):=by rw[hM];exact ZW eb
  have dk:vs=[]∨∃v,vs=[kV f q,v]:=by
   rcases fd with⟨h,_⟩ | ⟨l,b,h,_⟩
   ·exact .inl h
   ·exact .inr ⟨_,h⟩
  refine Zae (Zbd (ZbY (ZaR (Zr .w (.inl ⟨a,us,rfl,eaM,?_⟩)))))
  refine Zjy (λ_=>vs.isEmpty) (λi=>ZbB eaM) (by rw[ZD];lia) (λx m=>?_) ?_
  ·obtain⟨vc,rfl⟩:=hus x m
   refine ZaD (Z6 (ZeS (Zr rfl ⟨_,_,_,rfl,Zr .w ?_⟩)))
   exact Ok.of (ZiV (x:=(f:Int)) (y:=q) ed dk) (Zaq ⟨rfl,rfl⟩)
  have lKM:=lt_of_at ed
  rcases fd with⟨rfl,hn⟩ | ⟨l0,b0,rfl,hs,eb0⟩
  ·rw[show us.filter (λ_=>([]:List V).isEmpty)=us from List.filter_eq_self.mpr λ_ _=>rfl]
   rcases us1 with⟨rfl,hz⟩ | ⟨vc,c,G,rfl,rc,hc,hz⟩
   ·repeat' fail
    exact⟨X++[[]],_,[],by rw[hM,List.append_assoc],rfl,Zz ed,.inl ⟨rfl,List.find?_eq_none.mpr λl _=>by rw[hz];decide⟩⟩
   ·obtain⟨u,Y,G2,g1,g2,_⟩:=ZtF (M++[[V.tup [.int f,.int q,vc]]]) _ _ _ _ .s (.cons (by rw[hM];exact(r1.ext X).ext _) (.cons (ZbO (Zz ebM)) (.cons (by rw[hM];exact(r3.ext X).ext _) (.cons (.int st) .nil)))) hgl.1
    obtain⟨mb,mvs,G3,rfl,em,rm,_⟩:=g2.ilst
    repeat' fail
    refine Ok.of g1 ?_
    have hN:M++[[V.tup [.int f,.int q,vc]]]++Y=K++(X++([[V.tup [.int f,.int q,vc]]]++Y)):=by rw[hM];simp only[List.append_assoc]
    have eu:(M++[[V.tup [.int f,.int q,vc]]]++Y)[M.length]?=some [V.tup [.int f,.int q,vc]]:=ZW (Zv _ _)
    have ed1:(M++[[V.tup [.int f,.int q,vc]]]++Y)[K.length]?=some []:=ZW (Zz ed)
    generalize M++[[V.tup [.int f,.int q,vc]]]++Y=N1 at *
    have lN:=lt_of_at ed1
    refine ZbR (ZaR (Zr .w (.inl ⟨M.length,_,rfl,eu,?_⟩)))
    let Q3:Nat->Lc->Hp->Prop:=λj O M'=>M'[M.length]?=some [V.tup [.int f,.int q,vc]]/\(j=0->M'=N1/\O=Zi (Zi (Zi U 6 (.ref b)) 7 (.ref M.length)) 8 (.ref mb))/\(j≠0->QQ (i+1) O M')
    refine ZbZ Q3 ⟨eu,λ_=>⟨rfl,rfl⟩,λh=>absurd rfl h⟩ (λj U M h=>h.1) ?_ λU M h=>h.2.2 .s
    intro j x O M' hx q9;obtain⟨_,h1,_⟩:=q9
    obtain rfl:j=0:=by have:=(Zz6.mp hx).1;simp at this;exact this
    obtain⟨rfl,rfl⟩:=h1 rfl
    cases hx
    refine ZaS (ZaD (Zay (ZX (Zr rfl (ZX (Zr .w (Zan ?_)))))))
    refine(ZqQ .l (by rw[hN];exact rc.ext _) em rm hgl.2.2.1 λm hmm e=>?_).mono ?_
    ·obtain⟨h,k1,k2,k3⟩:=hgl.2.2.2 m hmm
     obtain rfl:h=f:=by lia
     have:=W.pr.sg h
     rw[k3]
     exact⟨hc,.l⟩
    intro _ _ q9;obtain⟨rfl,Y2,rfl⟩:=q9
    rw[<-hz l]
    refine Zaq ⟨λt=>?_,λt=>?_⟩
    ·refine Zsr (Zr .w (Zr .w (ZeS (Zr rfl ⟨_,_,_,rfl,_,Zqp (x:=(f:Int)) (y:=q) (Nat.ne_of_gt h0) (ZW ed1),Zbg (Nat.ne_of_lt lKM) (ZW eu),λh=>absurd h .d,λ_=>?_⟩))))
     refine⟨_,_,by rw[hN,List.append_assoc];exact Zmp (Zz10 _),.w,.w,.w,.w,.w,Yy6 (by rw[List.length_append];lia),.inr ⟨l,b,rfl,by rw[ZfR ev hn,if_pos t],Zbg ?_ ?_⟩⟩
     ·have:=lt_of_at eb;lia
     ·rw[hN];exact ZW (ZW eb)
    ·refine Zbm ⟨ZW eu,λh=>absurd h .d,λ_=>⟨_,_,by rw[hN,List.append_assoc],.w,.w,.w,.w,.w,ZW ed1,.inl ⟨rfl,by rw[ZfR ev hn,if_neg (by rw[t];decide)]⟩⟩⟩
  ·rw[show us.filter (λ_=>[kV f q,.ref b0].isEmpty)=[]from List.filter_eq_nil_iff.mpr λ_ _=>Bool.false_ne_true]
   repeat' fail
   exact⟨X++[[]],_,_,by rw[hM,List.append_assoc],rfl,Zz ed,.inr ⟨l0,b0,rfl,Zkx hs,Zz eb0⟩⟩
 ·intro U M q9;obtain⟨X,vs,hM,e0,e2,e3,e4,e5,ed,fd⟩:=q9
  rw[il.1,List.take_length]at fd
  exact Za3 (Zr e5 ⟨X,_,vs,hM,rfl,ed,fd⟩)
theorem ZpN{s:Nat}{g:List Int->List Mo}(hZl:∀l,brk (g l) r f q=Z l)(W:RR fs rs sig)(hf:f<fs.length)(hr:rs[f]?=some r)(h0:0<K.length)(r1:RF K v1 (.lst fs) F1)(r3:RF K v3 (Zq ks) F3)(es:K[s]?=some (st.map stV))(em:K[m]?=some (ms.map V.int))(hm:ms.length<=40)(l3:st.length<=100)(hk:k<=1000)(hg:∀l∈Zaf (st.map (Zam ms)),Zd4 fs rs sig ks steps l (g l)):
  Ok (ZfQ [v1,.ref s,.ref m,v3,.int steps,.int k,.int f,.int q] K) λv M=>∃X,M=K++X/\((v=.none/\((Zaf (st.map (Zam ms))).take k).find? Z=none)∨∃l b,v=.ref b/\((Zaf (st.map (Zam ms))).take k).find? Z=some l/\M[b]?=some (l.map V.int)):=by
 walk_at "p"
 unfold ZfQ Zis
 refine Z7 rfl ?_
 repeat' fail
 refine(ZpJ (f:=f) (q:=q) W .s (r1.ext _) (Zv _ _)).mono ?_
 intro _ _ q9;obtain⟨Y,b,us,G3,rfl,rfl,eb,rs'⟩:=q9
 have hN:K++[[V.tup [.int f,.int q]]]++Y=K++([[V.tup [.int f,.int q]]]++Y):=List.append_assoc ..
 generalize K++[[V.tup [.int f,.int q]]]++Y=N1 at *
 have h01:0<N1.length:=by rw[hN];simp;lia
 refine Za3 (Zss (Zay (ZX (Zr .w (ZX (Zay (ZX (Zr .w (ZX (Zr .w (ZX (Zr .w (Zan ?_)))))))))))))
 refine(Zsn (st:=st) (ms:=ms) (by rw[hN];exact ZW es) (by rw[hN];exact ZW em) hm l3 h01 hk).mono ?_
 intro _ _ q9;obtain⟨X,s',svs,rfl,rfl,es',il⟩:=q9
 refine ZX (Zr .w (ZX (Zr .w (ZX (Zr .w (Zan ?_))))))
 refine(ZoZ hZl W hf hr (by rw[List.length_append];lia) (by rw[hN,List.append_assoc];exact r1.ext _) (by rw[hN,List.append_assoc];exact r3.ext _) es' il (λl m=>hg l (List.mem_of_mem_take m)) (ZW eb) (rs'.ext _) (by simp;lia)).mono ?_
 intro _ _ q9;obtain⟨X2,i,vs,rfl,rfl,ei,fd⟩:=q9
 refine Zi7 (ZX (Zr .w (ZX (Zr .w (Zan (ZeH (Nat.le_of_ble_eq_true rfl) ?_))))))
 rcases fd with⟨rfl,hn⟩ | ⟨l,b2,rfl,hs,eb2⟩
 ·exact Ok.of (ZiV (x:=(f:Int)) (y:=q) ei (.inl rfl)) ⟨_,by rw[hN];simp only[List.append_assoc];rfl,.inl ⟨rfl,hn⟩⟩
 ·exact Ok.of (ZiV (x:=(f:Int)) (y:=q) ei (.inr ⟨_,rfl⟩)) ⟨_,by rw[hN];simp only[List.append_assoc];rfl,.inr ⟨l,b2,rfl,hs,eb2⟩⟩
end
end L
namespace L
theorem ZtW{L:List V->Hp->Prop}(W:RR fs rs sig)(h0:0<M.length)(ea:M[a]?=some vs)(fr:FRs H M vs fs)(done:∀X us,FRs M (M++X) us (rs.map T.lst)->L us (M++X)): Okl (Zah (ZI a) (Zw 104) ZJ (Zg ZcM (Zb (Zg Zct (Zb (Zc Zf (Za 104) (Zd 2)) Ze)) Ze)) U (vs.length+1) 0 [] M) L:=by
 have lf:=fr.length
 have l3:=W.l3
 have hl:=W.len
 let QL:Nat->List V->Hp->Prop:=λi acc K=>∃X,K=M++X/\FRs M K acc ((rs.take i).map T.lst)/\acc.length<=i
 refine ZbG QL (by rw[ZD];lia) ⟨[],.s,.nil,.s⟩ ?_ ?_ ?_
 ·intro i acc _ hi q9;obtain⟨X,rfl,fa,la⟩:=q9
  right
  obtain⟨body,r,e,q1,q2,q3,q4,q5⟩:=W.fn i .l
  obtain⟨v,ev,rv⟩:=fr.at q1
  obtain⟨b,us,rfl,eb,rb,hb⟩:=Zji rv
  left
  refine⟨la,.tup [.int (sig i).1,.int (sig i).2,.ref b],_,by simp[ZI,ZW ea,ev],Zbr _ _ _,Zbl ⟨λ_=>?_,.s⟩⟩
  refine Zay (ZX (Zay (ZX (Z6 (Zr rfl (Zav (Zbe .d rfl (Zan ?_))))))))
  obtain⟨F,r1,_⟩:=rb
  have rl:RFs (M++X) [.ref b] [.lst body] (b::F++[]):=.cons (.ref (ZW eb) (r1.ext X)) .nil
  obtain⟨v1,Y,F1,g1,g2,_,_⟩:=ZhI (M++X) _ _ _ _ (by simp;lia) rl (Zej (q5.mono .d))
  refine Ok.of g1 (Zan ?_)
  obtain⟨v2,Z,F2,k1,k2,_,k4⟩:=Zmi (M++X++Y) _ _ _ _ (by simp;lia) (RFs.cons g2 .nil) (W.rows .l q3 q4)
  refine Ok.of k1 ⟨X++Y++Z,.s,?_,by simp;omega⟩
  rw[List.take_add_one,q2,List.map_append]
  exact fa.ext.ext.app (.cons ⟨F2,k2,λc m=>by have:=(k4 rfl).2 c m;simp at this;lia⟩ .nil)
 ·intro acc _ q9;obtain⟨X,rfl,_⟩:=q9
  simp[ZI,ZW ea]
 ·intro acc _ q9;obtain⟨X,rfl,fa,_⟩:=q9
  rw[lf,<-hl,List.take_length]at fa
  exact done X acc fa
end L
namespace L
theorem FRs.from{J:Hp}(h:FRs H M vs ts)(l:J.length<=H.length): FRs J M vs ts:=by
 obtain⟨F,r,hf⟩:=h
 exact⟨F,r,λb m=>Nat.le_trans l (hf b m)⟩
end L
namespace L
theorem Zst{l:List Int}: ∃m:Int,0<=m/\(0::l).max? = some m:=by
 cases h:(0::l).max? with
 | none=>simp at h
 | some m=>
  refine⟨m,?_,rfl⟩
  have:=List.max?_eq_some_iff.mp h
  exact this.2 0 Zz5
theorem Zsu: ∀ns:List Int,Za2 (ns.map V.int)=some ns:=λns=>by
 induction ns with
 | nil=>rfl
 | cons n ns ih=>simp[Za2,ih]
theorem Zsv{m:Int}(e:H[a]?=some (ks.map V.int))(hm:ks.max? = some m)(h:Q (.int m) H): Ok (ZgX [.ref a] H) Q:=⟨_,_,by unfold ZgX;rw[ZcQ e];simp[Zsu,hm],h⟩
theorem ZtX{L:List V->Hp->Prop}{b:Nat}{ws:List V}(e:M[b]?=some ws)(fr:FRs H M ws r)(hr:∀x∈r,∃n,Zhi n x)(hl:r.length<=9000)(done:∀bs:List Int,bs.length=r.length->L (bs.map V.int) M): Okl (Zah (ZI b) (Zw 106) ZJ (Zc Zf (Za 106) (Zd 2)) U (ws.length+1) 0 [] M) L:=by
 have lw:=fr.length
 let QL:Nat->List V->Hp->Prop:=λi acc K=>K=M/\∃bs:List Int,acc=bs.map V.int/\bs.length=i
 refine ZbG QL (by rw[ZD];lia) ⟨rfl,[],rfl,rfl⟩ ?_ ?_ ?_
 ·intro i _ _ hi q9;obtain⟨rfl,bs,rfl,lb⟩:=q9
  right
  obtain⟨z,hz⟩:∃z,r[i]?=some z:=⟨r[i],Yy1 .o⟩
  obtain⟨n,x,w,rest,y,rfl,_⟩:=hr z (Yy4 hz)
  obtain⟨v,ev,F,rv,_⟩:=fr.at hz
  obtain⟨vr,G,rfl,_⟩:=Zf0 rv
  left
  refine⟨by simp[lb],.tup [.int x,.tup (.str w::vr),.int y],_,by simp[ZI,e,ev],Zbr _ _ _,Zbl ⟨λ_=>?_,.s⟩⟩
  refine Z6 (Zr rfl (Zav (Zbe .d rfl ⟨rfl,bs++[y],.s,by simp[lb]⟩)))
 ·intro acc _ q9;obtain⟨rfl,_⟩:=q9
  simp[ZI,e]
 ·intro acc _ q9;obtain⟨rfl,bs,rfl,lb⟩:=q9
  exact done bs .l
end L
namespace L
theorem Zln: ∀(rs:List (List T)) (i:Nat),∀t∈Z5 i rs,∃(j:Nat) (x:Int×T),j<i+rs.length/\t=ZaK j x
 | [],i,t,m=>(List.not_mem_nil m).elim
 | r::rs,i,t,m=>by
  rw[Z5]at m
  rcases Zz8.mp m with m | m
  ·obtain⟨x,_,rfl⟩:=Zz11.mp m
   exact⟨i,x,.s,rfl⟩
  ·obtain⟨j,x,h,e⟩:=Zln rs (i+1) t m
   exact⟨j,x,by simp;lia,e⟩
def Zhk(n:Nat)(x:V): Prop:=∃(f:Nat) (q:Int),f<n/\x=.tup [.int f,.int q]
theorem Zsw(fr:FRs H M us ((Z5 0 rs).map to2)): ∀x∈us,Zhk rs.length x:=λx m=>by
 right
 obtain⟨i,hi,rfl⟩:=List.getElem_of_mem m
 have hl:=fr.length
 obtain⟨t,ht⟩:∃t,((Z5 0 rs).map to2)[i]?=some t:=⟨_,Yy1 .l⟩
 obtain⟨v,ev,F,rv,_⟩:=fr.at ht
 rw[Yy1 hi]at ev
 left
 cases ev
 right
 obtain⟨y,hy,rfl⟩:=Zz11.mp (Yy4 ht)
 obtain⟨j,⟨a,c⟩,hj,rfl⟩:=Zln rs 0 y hy
 left
 generalize us[i]=v at rv
 unfold ZaK to2 at rv
 right
 obtain⟨us,rfl,q⟩:=rv.itup
 obtain⟨v,u,F1,F2,rfl,_,r1,r2⟩:=q.i2
 left
 exact⟨j,a,.l,by rw[r1.iint.1,r2.iint.1]⟩
end L
namespace L
theorem Zmt{w:V}(hb:Bl n t)(hn:n<=40)(r1:RF M v t F)(r2:RF M w t G)(h:Q (.bool false) M): Ok (oNe v w M) Q:=by
 right
 obtain⟨_,e,rfl⟩:=ZtJ (Q:=λx=>x=.bool false) hb rfl hn
 obtain⟨u,e',r⟩:=ZuT M v w t t _ F G r1 r2 e
 left
 cases r
 exact⟨_,_,e',h⟩
end L
namespace L
section
variable {U:Lc} {H K M X:Hp} {Q:V->Hp->Prop}
theorem Zmu{ls:List d}{x:d}(h:(ls.take k)[i]?=some x): ls[i]?=some x:=by
 rw[List.getElem?_take]at h
 split at h
 ·exact h
 ·cases h
theorem Zsx{w:V}(hb:Bl n t)(hn:n<=40)(r1:RF M v t F)(r2:RF M w t G)(h:Q (.bool true) M): Ok (ZA v w M) Q:=by
 obtain⟨_,_,e,rfl,rfl⟩:=Zmt (Q:=λv K=>v=.bool false/\K=M) hb hn r1 r2 ⟨rfl,rfl⟩
 obtain⟨c,e1,e2⟩:=Zz1.mp e
 have:c=true:=by
  injection e2 with e2
  injection e2 with e2
  cases c
  ·cases e2
  ·rfl
 subst this
 exact⟨_,_,by unfold ZA;rw[e1];rfl,h⟩
def Al(v w:V)(M:Hp): Prop:=(v=.none/\w=.none)∨∃l a b,v=.ref a/\w=.ref b/\M[a]?=some ((l:List Int).map V.int)/\M[b]?=some (l.map V.int)/\l.length<=60
theorem Zsy{w:V}(h:Al v w K): Zfl [v,w] K=some (.bool true,K):=by
 apply ZgV
 unfold Zfl Zhy
 rcases h with⟨rfl,rfl⟩ | ⟨l,a,b,rfl,rfl,ea,eb,hl⟩
 ·repeat' fail
  exact⟨rfl,rfl⟩
 ·repeat' fail
  refine Ok.of (v:=.bool true) (H:=K) rfl ?_
  repeat' fail
  refine ZbZ (λi U M=>M=K/\U 0=some (.ref a)/\U 1=some (.ref b)) ⟨rfl,.w,.w⟩ (λi U M h=>by rw[h.1];exact ea) ?_ ?_
  ·intro i x U M hx q9;obtain⟨rfl,e0,e1⟩:=q9
   rw[List.getElem?_map]at hx
   obtain⟨n,_,rfl⟩:=Zz1.mp hx
   repeat' fail
   refine Ok.of (v:=.bool true) (H:=M) rfl ?_
   repeat' fail
   refine Ok.of (v:=.bool false) (H:=M) rfl ?_
   repeat' fail
   exact⟨rfl,.w,.w⟩
  ·intro U _ q9;obtain⟨rfl,e0,e1⟩:=q9
   refine Za3 (Zgy e0 e1 (Zsx (Zip (n:=0) (l:=l) .o).blr .d (ZbO ea) (ZbO eb) ⟨rfl,rfl⟩))
theorem ZuG{s:Nat}{g:List Int->List Mo}(hZl:∀l,brk (g l) r f q=Z l)(W:RR fs rs sig)(hf:f<fs.length)(hr:rs[f]?=some r)(h0:0<K.length)(r1:RF K v1 (.lst fs) F1)(r3:RF K v3 (Zq ks) F3)(r6:RF K v6 (.lst (rs.map T.lst)) F6)(es:K[s]?=some (st.map stV))(em:K[m]?=some (ms.map V.int))(hm:ms.length<=2)(l3:st.length<=4)(hg:∀l∈Zaf (st.map (Zam ms)),Zd4 fs rs sig ks steps l (g l)):
  Ok (Zfz [v1,v6,.ref s,.ref m,v3,.int steps,.int k,.tup [.int f,.int q]] K) λv M=>∃X,M=K++X/\((v=.none/\((Zaf (st.map (Zam ms))).take k).find? Z=none)∨∃l b,v=.ref b/\((Zaf (st.map (Zam ms))).take k).find? Z=some l/\M[b]?=some (l.map V.int)):=by
 walk_at "p"
 unfold Zfz ZhQ
 refine Z7 rfl (Zae (ZbR (ZaR (ZdN (Zay (Zgd .w .w ?_))))))
 refine(Zms es em hm l3 h0).mono ?_
 intro _ _ q9;obtain⟨X,a,vs,rfl,rfl,_,ea,il⟩:=q9
 refine Zr .w (Zda ea (.inl ⟨_,_,rfl,Zv _ _,?_⟩))
 generalize hcs:Zaf (st.map (Zam ms))=ls at *
 have hN:K++X++[vs.take k]=K++(X++[vs.take k]):=List.append_assoc ..
 have el:(K++X++[vs.take k])[(K++X).length]?=some (vs.take k):=Zv _ _
 have up:∀{b:Nat} {w:List V},(K++X)[b]?=some w->(K++X++[vs.take k])[b]?=some w:=Zz
 generalize K++X++[vs.take k]=N1 at *
 generalize (K++X).length=c at *
 let QQ:Nat->Lc->Hp->Prop:=λi U M=>∃Y,M=N1++Y/\U 0=some v1/\U 1=some v6/\U 4=some v3/\U 5=some (.int steps)/\U 7=some (.tup [.int f,.int q])/\((ls.take k).take i).find? Z=none
 refine ZbZ QQ ⟨[],.s,.w,.w,.w,.w,.w,rfl⟩ ?_ ?_ ?_
 ·intro i U _ q9;obtain⟨Y,rfl,_⟩:=q9
  exact ZW el
 ·intro i x U _ hx q9;obtain⟨Y,rfl,e0,e1,e4,e5,e7,hn⟩:=q9
  have hi:i<(ls.take k).length:=by have:=(Zz6.mp hx).1;have:=il.1;simp at *;lia
  have ev:=Yy1 hi
  generalize (ls.take k)[i]=l at ev
  have hl0:=Zmu ev
  obtain⟨b,hb,eb,_⟩:=il.2 i l hl0
  obtain rfl:x=.ref b:=Option.some.inj ((Zmu hx).symm.trans hb)
  have hgl:=hg l (Yy4 hl0)
  have hU:∀{v:V} {t:T} {F:List Nat},RF K v t F->RF (N1++Y) v t F:=λr=>by rw[hN,List.append_assoc];exact r.ext _
  repeat' fail
  refine(ZoW (q:=q) W hf hr hgl.2.1 hgl.2.2.1 hgl.2.2.2 (by rw[hN,List.length_append,List.length_append];lia) (hU r1) (ZbO (ZW (up eb))) (hU r3) (hU r6)).mono ?_
  intro _ _ q9;obtain⟨rfl,Y2,rfl⟩:=q9
  rw[hZl]
  refine Zaq ⟨λt=>?_,λt=>?_⟩
  ·exact Za3 (Zr rfl ⟨_,by rw[hN];simp only[List.append_assoc];rfl,.inr ⟨l,b,rfl,by rw[hcs];exact Zkx (i:=i+1) (by rw[ZfR ev hn,if_pos t]),ZW (ZW (up eb))⟩⟩)
  ·exact Zbm ⟨_,List.append_assoc ..,.w,.w,.w,.w,.w,by rw[ZfR ev hn,if_neg (by rw[t];decide)]⟩
 ·intro U _ q9;obtain⟨Y,rfl,e0,e1,e4,e5,e7,hn⟩:=q9
  have:(ls.take k).take (vs.take k).length=ls.take k:=List.take_of_length_le (by have:=il.1;simp;lia)
  rw[this]at hn
  exact Za3 (Zcw ⟨_,by rw[hN,List.append_assoc],.inl ⟨rfl,by rw[hcs];exact hn⟩⟩)
end
end L
namespace L
theorem Zsz(g:GS s): 0<(Zam ms s).length:=by
 have key:∃x,x∈Zau s.1 s.2++[0]++ms/\Zbq s.1 s.2 x=true:=by
  obtain⟨lo,hi⟩:=s
  cases lo with
  | some a=>
   refine⟨a,by simp[Zau],?_⟩
   cases hi with
   | none=>simp[Zbq,crB]
   | some b=>have:=g a b rfl rfl;simp[Zbq,crB];omega
  | none=>
   cases hi with
   | some b=>exact⟨b,by simp[Zau],by simp[Zbq,crB]⟩
   | none=>exact⟨0,.s,rfl⟩
 obtain⟨x,m,h⟩:=key
 have:x∈Zam ms s:=sortI_mem.mpr (uniq_mem.mpr (Yy9.mpr ⟨m,h⟩))
 exact List.length_pos_of_mem this
theorem Zlo: ∀(cs acc:List (List Int)),0<acc.length->(∀c∈cs,0<c.length)->0<(cs.foldl Za8 acc).length
 | [],acc,h,_=>h
 | c::cs,acc,h,k=>Zlo cs (Za8 acc c) (by rw[ZdI];exact Nat.mul_pos h (k c Zz5)) λd m=>k d (Zz2 _ m)
structure Hd79(p q:Nat)(ns:List Int)(U:Lc)(H M:Hp)(fs:List T)(sig:Nat->Nat×Nat)(st:List (Option Int×Option Int))(ms ks:List Int)(sp:Int)(k:Nat): Prop where
 ws:Ws p q ns H M
 e1:U 1=some (.ref p)
 e2:∃a vs,U 2=some (.ref a)/\M[a]?=some vs/\FRs H M vs fs/\H.length<=a
 e3:∃a,U 3=some (.ref a)/\M[a]?=some (st.map stV)/\H.length<=a
 e4:∃a,U 4=some (.ref a)/\M[a]?=some (ms.map V.int)/\H.length<=a
 e5:∃a,U 5=some (.ref a)/\M[a]?=some (ks.map V.int)/\H.length<=a
 e6:U 6=some (.int sp)
 e7:U 7=some (.int k)
 gp:GoodP fs sig
 l1:1<=fs.length
 l3:fs.length<=3
 hs:st.length=(sig (fs.length-1)).1
 hm:ms.length<=2
 hk:ks.length<=6
 s9:sp<=60
 k9:k<=1000
 say:∃(b:List T) (pp n:Nat),fs[fs.length-1]?=some (.tup [.int pp,.int n,.lst b])/\∃c,ClOk n c/\T.tup [.str wY,c]∈b
theorem ZuH{v:Int}: ∃z:Nat,z<=1000/\([8,3,1000,1,0]:List Int).getD v.toNat 0=z:=ZjC .d _
theorem ZtY(h:∀p q cs U H M fs sig st ms ks sp k,Hd79 p q cs U H M fs sig st ms ks sp k->Oks (Zf3 U M) R λ_ K=>R .none K): Ok (Zf4 [.ref 0] [ns.map V.int]) R:=by
 unfold Zf4 ZiJ
 refine Z7 rfl ?_
 refine Zae (Zbd (ZcN (ZX (ZdN (Zr rfl (Zav (Zda (n:=84) (vs:=ns.map V.int) rfl ?_)))))))
 refine ZX (Zav (Zan ⟨.s,?_⟩))
 have t:Tp 2 1 (ns.take 84) ([ns.map V.int]++[(ns.map V.int).take 84]++[[V.ref 1,.int 0]]):=⟨⟨0,rfl⟩,by rw[List.map_take];rfl,.d,.d,by simp;lia⟩
 rw[show([ns.map V.int]++[(ns.map V.int).take 84]).length=2 from rfl,show [ns.map V.int].length=1 from rfl]
 generalize [ns.map V.int]++[(ns.map V.int).take 84]++[[V.ref 1,.int 0]]=H at *
 repeat' fail
 refine(ZoA t).mono ?_
 intro _ A q9;obtain⟨wA,a,vs,fs,sig,rfl,ea,fr,ha,G,l1,l3,body,pp,n,eb,hbl,hsg⟩:=q9
 have sg:=G.sg (fs.length-1)
 rw[hsg]at sg
 dsimp only at sg
 obtain⟨v,hv,rv⟩:=fr.at eb
 obtain⟨bb,us,rfl,_⟩:=Zji rv
 rw[<-fr.length]at hv
 repeat' fail
 refine ZeC ea hv ?_
 repeat' fail
 refine(ZqS wA.tp .l).mono ?_
 intro _ B q9;obtain⟨xB,a3,st,rfl,ha3,ea3,lst,gs⟩:=q9
 have wB:=wA.trans xB
 have hp:=wB.lp
 have l2:2<H.length:=hp
 repeat' fail
 refine(ZU wB.tp .d).dr λC k xC k0 k1=>?_
 obtain⟨k,rfl⟩:∃m:Nat,k=m:=⟨k.toNat,.l⟩
 have wC:=wB.trans xC
 repeat' fail
 refine Zks wC.tp .l .w .d λms D xD lms hms=>?_
 repeat' fail
 have wD:=wC.trans xD
 have hA:=wA.ex.1
 have u3:=xC.trans xD
 have e3D:=Zz (x:=ms.map V.int) (u3.at .l ea3)
 have hD:=wD.ex.1
 refine(Zms (st:=st) (ms:=ms) e3D (Zv _ _) .l .l .s).mono ?_
 intro _ _ q9;obtain⟨X,tv,tvs,rfl,rfl,htv,etv,itv⟩:=q9
 have hcs:=Zlo (st.map (Zam ms)) [[]] .d λc m=>by
  obtain⟨s,hs,rfl⟩:=Zz11.mp m
  exact Zsz (gs s hs)
 have hsh:∀l∈Zaf (st.map (Zam ms)),l.length=pp:=λl m=>by rw[ZhZ _ l m,List.length_map,lst]
 have uA:=((xB.trans u3).app (X:=[ms.map V.int])).app (X:=X)
 have wE:=(wD.app (X:=[ms.map V.int])).app (X:=X)
 have e3E:=ZW (X:=X) e3D
 have e4E:=ZW (X:=X) (Zv D (ms.map V.int))
 have lE:D.length<(D++[ms.map V.int]).length:=by simp
 generalize D++[ms.map V.int]=D1 at *
 generalize D.length=a4 at *
 repeat' fail
 refine(ZqT wE (uA.at .l ea) ha (fr.ws uA hp) G l1 l3 eb hbl hsg etv .l (itv.up λx h=>by lia) hcs hsh).mono ?_
 intro _ F q9;obtain⟨wF,xF,a2,vs2,fs2,rfl,ea2,fr2,ha2,G2,len2,b2,eb2,hc⟩:=q9
 rw[<-len2]at eb2
 have e3F:=xF.at .l e3E
 have e4F:=xF.at .l e4E
 clear itv etv hcs hsh e3E e4E uA ea fr ea3 e3D u3
 repeat' fail
 refine(ZU wF.tp .d).dr λI j xI j0 j1=>?_
 obtain⟨j,rfl⟩:∃m:Nat,j=m:=⟨j.toNat,.l⟩
 have wI:=wF.trans xI
 repeat' fail
 refine Zks wI.tp .l .w .d λks J xJ lks hks=>?_
 repeat' fail
 have wJ:=wI.trans xJ
 have hJ:=wJ.ex.1
 refine(ZU wJ.app.tp .d).dr λN x xN x0 x1=>?_
 have wN:=wJ.app.trans xN
 repeat' fail
 refine(ZU wN.tp .d).dr λO y xO y0 y1=>?_
 have wO:=wN.trans xO
 have hO:=wO.ex.1
 repeat' fail
 refine(ZU wO.app.tp .d).dr λP z xP z0 z1=>?_
 have wP:=wO.app.trans xP
 repeat' fail
 have e6:=xP.at (show O.length≠2 by lia) (Zv O [V.int x,.int y])
 refine Zex ?_
 obtain⟨sp,s9,esp⟩:∃sp:Int,sp<=60/\[V.int x,.int y][(if(z == 7)=true then(1:Int)else 0).toNat]?=some (.int sp):=by
  split
  ·exact⟨y,.l,rfl⟩
  ·exact⟨x,.l,rfl⟩
 refine ZbS e6 (by split <;> decide) esp ?_
 have hP:=wP.ex.1
 repeat' fail
 refine(ZU wP.app.tp .d).dr λS c xS c0 c1=>?_
 obtain⟨m,m9,em⟩:=ZuH (v:=c)
 refine Zch (ns:=[8,3,1000,1,0]) (xS.at .l (Zv _ _)) c0 (by simp;omega) ?_
 rw[em]
 have u5:=((xN.trans xO).app.trans xP).app.trans xS
 have uF:=(xI.trans xJ).app.trans u5
 have hsg2:sig (fs2.length-1)=(pp,n):=by rw[len2];exact hsg
 exact h 2 1 (ns.take 84) _ H S fs2 sig st ms ks sp m ⟨wF.trans uF,.w,⟨a2,vs2,.w,uF.at .l ea2,fr2.ws uF hp,ha2⟩,⟨a3,.w,uF.at .l e3F,.l⟩,⟨a4,.w,uF.at .l e4F,.o⟩,⟨J.length,.w,u5.at .l (Zv _ _),hJ⟩,.w,.w,G2,.l,.l,by rw[hsg2];exact lst,.l,.l,s9,m9,b2,pp,n,eb2,hc⟩
end L
namespace L
structure Md79(p q:Nat)(ns:List Int)(U:Lc)(H M:Hp)(fs:List T)(rs:List (List T))(sig:Nat->Nat×Nat)(st:List (Option Int×Option Int))(ms ks:List Int)(sp:Int)(k fi f:Nat): Prop where
 ws:Ws p q ns H M
 e1:U 1=some (.ref p)
 e2:∃a vs,U 2=some (.ref a)/\M[a]?=some vs/\FRs H M vs fs/\H.length<=a
 e3:∃a,U 3=some (.ref a)/\M[a]?=some (st.map stV)/\H.length<=a
 e4:∃a,U 4=some (.ref a)/\M[a]?=some (ms.map V.int)/\H.length<=a
 e5:∃a,U 5=some (.ref a)/\M[a]?=some (ks.map V.int)/\H.length<=a
 e6:U 6=some (.int sp)
 e7:U 7=some (.int k)
 e8:∃a vs,U 8=some (.ref a)/\M[a]?=some vs/\FRs H M vs (rs.map T.lst)/\H.length<=a
 e9:∃a vs,U 9=some (.ref a)/\M[a]?=some vs/\FRs H M vs ((Z5 0 rs).map to2)/\H.length<=a
 e10:U 10=some (.int fi)
 e11:U 11=some (.int f)
 rr:RR fs rs sig
 hs:st.length=(sig (fs.length-1)).1
 hm:ms.length<=2
 hk:ks.length<=6
 s9:sp<=60
 k9:k<=1000
 hfi:fi<(Z5 0 rs).length
 hf:f<fs.length
section
variable {p q:Nat} {cs:List Int} {U:Lc} {H M K:Hp} {fs:List T} {rs:List (List T)} {sig:Nat->Nat×Nat} {st:List (Option Int×Option Int)} {ms ks:List Int} {sp:Int} {k fi f:Nat}
theorem Md79.on(D:Md79 p q cs U H M fs rs sig st ms ks sp k fi f)(u:Ws p q cs M K): Md79 p q cs U H K fs rs sig st ms ks sp k fi f:=by
 have hp:=D.ws.lp
 obtain⟨ws,e1,⟨a2,vs2,e2,ea2,fr2,ha2⟩,⟨a3,e3,ea3,ha3⟩,⟨a4,e4,ea4,ha4⟩,⟨a5,e5,ea5,ha5⟩,e6,e7,⟨a8,vs8,e8,ea8,fr8,ha8⟩,⟨a9,vs9,e9,ea9,fr9,ha9⟩,e10,e11,g1,g2,g3,g4,g5,g6,g7,g8⟩:=D
 exact⟨ws.trans u,e1,⟨a2,vs2,e2,u.at .l ea2,fr2.ws u hp,ha2⟩,⟨a3,e3,u.at .l ea3,ha3⟩,⟨a4,e4,u.at .l ea4,ha4⟩,⟨a5,e5,u.at .l ea5,ha5⟩,e6,e7,⟨a8,vs8,e8,u.at .l ea8,fr8.ws u hp,ha8⟩,⟨a9,vs9,e9,u.at .l ea9,fr9.ws u hp,ha9⟩,e10,e11,g1,g2,g3,g4,g5,g6,g7,g8⟩
theorem Md79.put(D:Md79 p q cs U H M fs rs sig st ms ks sp k fi f)(hj:12<=j): Md79 p q cs (Zi U j v) H M fs rs sig st ms ks sp k fi f:=by
 have k:∀i,i<12->PM.Zi U j v i=U i:=λi hi=>ZaN .l rfl
 obtain⟨ws,e1,e2,e3,e4,e5,e6,e7,e8,e9,e10,e11,r⟩:=D
 constructor
 all_goals (first | assumption | (rw[k _ .d];assumption))
theorem Md79.most(D:Md79 p q cs U H M fs rs sig st ms ks sp k fi f)(h:k'<=1000): Md79 p q cs (Zi U 7 (.int k')) H M fs rs sig st ms ks sp k' fi f:=by
 have e:∀i,7≠i->PM.Zi U 7 (.int k') i=U i:=λi hi=>ZaN (Ne.symm hi) rfl
 obtain⟨ws,e1,e2,e3,e4,e5,e6,e7,e8,e9,e10,e11,r⟩:=D
 constructor
 all_goals (first | assumption | rfl | (rw[e _ .d];assumption))
theorem ZuI(D:Hd79 p q cs U H M fs sig st ms ks sp k)(h:∀U M rs fi f,Md79 p q cs U H M fs rs sig st ms ks sp k fi f->Oks (Zf2 U M) R N): Oks (Zf3 U M) R N:=by
 obtain⟨ws,e1,⟨a2,vs2,e2,ea2,fr2,ha2⟩,⟨a3,e3,ea3,ha3⟩,⟨a4,e4,ea4,ha4⟩,⟨a5,e5,ea5,ha5⟩,g6,g7,gp,l1,l3,hs,hms,hk,s9,k9,bd,pp,n,eb,c,hc,hm⟩:=D
 obtain⟨rs,W⟩:=gp.rr l1 l3
 have hp:=ws.lp
 have hM:=ws.ex.1
 have hne:Z5 0 rs≠[]:=by
  obtain⟨body,r,e,q1,q2,q3,_⟩:=W.fn (fs.length-1) .l
  rw[eb]at q1
  cases q1
  obtain⟨x,y,hrow⟩:=ZpH q3 hm
  exact Zm8 rs 0 r (Yy4 q2) (ZpI hrow)
 have hdl:0<(Z5 0 rs).length:=List.length_pos_iff.mpr hne
 unfold Zf3
 refine Zae (Zbd (ZbY (ZaR (Zr e2 (ZcU ea2 ?_)))))
 refine ZtW W .l ea2 fr2 λX us fu=>?_
 have w1:Ws p q cs H (M++X++[us]):=ws.app.app
 have u1:Ws p q cs M (M++X++[us]):=ws.tp.ws.app.app
 have e6:(M++X++[us])[(M++X).length]?=some us:=Zv _ _
 have f6:FRs H (M++X++[us]) us (rs.map T.lst):=(fu.from hM).ext
 have h6:H.length<=(M++X).length:=by simp;lia
 generalize M++X++[us]=A at *
 generalize (M++X).length=a6 at *
 refine Zae (Zbd (Zay (ZX (Zr .w (Zan ?_)))))
 obtain⟨F6,r6,hF6⟩:=id f6
 refine(ZpK W (by have:=w1.ex.1;lia) e6 r6).mono ?_
 intro _ _ q9;obtain⟨us7,rfl,rfl,f7⟩:=q9
 have f7:FRs H (A++[us7]) us7 ((Z5 0 rs).map to2):=⟨[],f7.ext _,.s⟩
 have h7:H.length<=A.length:=w1.ex.1
 have e7:(A++[us7])[A.length]?=some us7:=Zv _ _
 generalize A.length=a7 at e7 h7 ⊢
 generalize [us7]=Y at e7 f7 ⊢
 have w2:Ws p q cs H (A++Y):=w1.app
 have u2:Ws p q cs M (A++Y):=u1.app
 have e6':(A++Y)[a6]?=some us:=ZW e6
 have f6':FRs H (A++Y) us (rs.map T.lst):=f6.ext
 generalize A++Y=B at *
 have l7:us7.length=(Z5 0 rs).length:=by have:=f7.length;simpa using this
 repeat' fail
 rw[l7]
 refine(ZU w2.tp .l).dr λC fi xC i0 i1=>?_
 obtain⟨fi,rfl⟩:∃k:Nat,fi=k:=⟨fi.toNat,.l⟩
 have ea2C:=(u2.trans xC).at .l ea2
 have l2:=fr2.length
 repeat' fail
 rw[l2]
 refine(ZU xC.tp .l).dr λE f xE f0 f1=>?_
 obtain⟨f,rfl⟩:∃k:Nat,f=k:=⟨f.toNat,.l⟩
 have u:=xC.trans xE
 have uM:=u2.trans u
 exact h _ E rs fi f ⟨w2.trans u,.w,⟨a2,vs2,.w,uM.at .l ea2,fr2.ws uM hp,ha2⟩,⟨a3,.w,uM.at .l ea3,ha3⟩,⟨a4,.w,uM.at .l ea4,ha4⟩,⟨a5,.w,uM.at .l ea5,ha5⟩,.w,.w,⟨a6,us,.w,u.at .l e6',f6'.ws u hp,h6⟩,⟨a7,us7,.w,u.at .l e7,f7.ws u hp,h7⟩,.w,.w,W,hs,hms,hk,s9,k9,.l,.l⟩
theorem ZuJ(D:Md79 p q cs U H M fs rs sig st ms ks sp k fi f)(h:∀U M k mx,Md79 p q cs U H M fs rs sig st ms ks sp k fi f->U 12=some (.int mx)->0<=mx->Oks (Zf1 U M) R N): Oks (Zf2 U M) R N:=by
 obtain⟨a6,vs6,e6,ea6,fr6,ha6⟩:=D.e8
 have e9:=D.e11
 have W:=D.rr
 obtain⟨body,r,e,q1,q2,q3,q4,q5⟩:=W.fn f D.hf
 have hm6:(rs.map T.lst)[f]?=some (.lst r):=by rw[List.getElem?_map,q2];rfl
 obtain⟨v,ev,rv⟩:=fr6.at hm6
 obtain⟨b,ws,rfl,eb,fb⟩:∃b ws,v=.ref b/\M[b]?=some ws/\FRs H M ws r:=by
  obtain⟨F,r1,hF⟩:=rv
  obtain⟨b,us,G,rfl,e,q,rfl⟩:=r1.ilst
  exact⟨_,_,rfl,e,_,q,λc m=>hF c (Zz2 _ m)⟩
 unfold Zf2
 refine Zae (Zbd (Zay (ZX (Z6 (ZcN (ZX (Zav (Zan ⟨.s,?_⟩))))))))
 refine ZbY (ZaR (Z6 (Zr e6 (Zr e9 (ZbS (Zz ea6) .l (by rw[Int.toNat_natCast];exact ev) (ZcU (Zz eb) ?_))))))
 refine ZtX (Zz eb) fb.ext (λx m=>⟨_,(ZeD q3).1 x m⟩) q4 λbs lb=>?_
 refine ZbM (Zz (Zv _ _)) (Zv _ _) (by rw[ZD];simp;lia) (Zan ?_)
 obtain⟨mx,m0,hm⟩:=Zst (l:=bs)
 refine Zsv (ks:=0::bs) (Zv _ _) hm ?_
 have D1:=(D.on (((D.ws.tp.ws.app (X:=[[V.int 0]])).app (X:=[bs.map V.int])).app (X:=[[V.int 0]++bs.map V.int]))).put (j:=12) (v:=.int mx) .d
 have e12:PM.Zi U 12 (.int mx) 12=some (.int mx):=by walk_at "rd"
 generalize M++[[V.int 0]]++[bs.map V.int]++[[V.int 0]++bs.map V.int]=A at *
 generalize PM.Zi U 12 (.int mx)=B at *
 obtain⟨a3,e3,ea3,_⟩:=D1.e3
 have e7:=D1.e7
 repeat' fail
 refine⟨λ_=>?_,λ_=>?_⟩
 ·repeat' fail
  rw[show(if(30:Int)<k then(30:Int)else k)=((min k 30:Nat):Int)by split <;> lia]
  exact h _ _ _ mx (D1.most .l) .w m0
 ·repeat' fail
  exact h _ _ _ mx D1 e12 m0
end
end L
namespace L
noncomputable def oS: Option Int->T
 | none=>.none
 | some k=>.int k
noncomputable def sT(s:Option Int×Option Int): T:=.tup [oS s.1,oS s.2]
noncomputable def stT(st:List (Option Int×Option Int)): T:=.lst (st.map sT)
section
variable {M:Hp} {a:Nat} {st:List (Option Int×Option Int)}
theorem ZnI(o:Option Int): RF M (oV o) (oS o) []:=by
 cases o with
 | none=>exact .none
 | some k=>exact .int k
theorem ZuK: RF M (stV s) (sT s) []:=.tup (.cons (ZnI _) (.cons (ZnI _) .nil))
theorem ZtZ(e:M[a]?=some (st.map stV)): RF M (.ref a) (stT st) [a]:=by
 have:∀l:List (Option Int×Option Int),RFs M (l.map stV) (l.map sT) []:=λl=>by
  induction l with
  | nil=>exact .nil
  | cons s l ih=>exact .cons ZuK ih
 exact .ref e (this st)
theorem ZnA{o:Option Int}(r:RF M v (oS o) F): v=oV o:=by
 cases o with
 | none=>cases r;rfl
 | some k=>exact r.iint.1
theorem ZsA(r:RF M v (stT st) F): ∃b,v=.ref b/\M[b]?=some (st.map stV):=by
 obtain⟨b,us,G,rfl,e,q,_⟩:=r.ilst
 have:∀(l:List (Option Int×Option Int)) (us:List V) (G:List Nat),RFs M us (l.map sT) G->us=l.map stV:=λl=>by
  induction l with
  | nil=>exact λus G q=>q.inil.1
  | cons s l ih=>
   intro us G q
   obtain⟨v,us',F,G',rfl,_,r1,r2⟩:=q.icons
   obtain⟨ws,rfl,k0⟩:=RF.itup (ts:=[oS s.1,oS s.2]) r1
   obtain⟨x,y,F1,F2,rfl,_,k1,k2⟩:=k0.i2
   rw[ih us' G' r2,ZnA k1,ZnA k2]
   rfl
 exact⟨b,rfl,by rw[e,this st us G q]⟩
theorem ZqU(h:st.length<=60): Nice 3 (stT st):=.lst (by simp;lia) (λt m=>by
 obtain⟨s,_,rfl⟩:=Zz11.mp m
 refine .tup .s (Z2 ?_ (Z2 ?_ nl0))
 ·cases s.1 <;> constructor
 ·cases s.2 <;> constructor)
theorem Zt0{x y z w:T}(h:RF M v (.lst [x,y,z,w]) F): ∃a v1 v2 v3 v4 F1 F2 F3 F4,v=.ref a/\M[a]?=some [v1,v2,v3,v4]/\RF M v1 x F1/\RF M v2 y F2/\RF M v3 z F3/\RF M v4 w F4:=by
 right
 obtain⟨a,us,G,rfl,e,r,_⟩:=h.ilst
 obtain⟨v1,us',F1,G',rfl,_,r1,r⟩:=r.icons
 obtain⟨v2,v3,v4,F2,F3,F4,rfl,_,r2,r3,r4⟩:=r.i3
 left
 exact⟨a,v1,v2,v3,v4,F1,F2,F3,F4,rfl,e,r1,r2,r3,r4⟩
end
end L
namespace L
section
variable {p q:Nat} {cs:List Int} {U:Lc} {H M K:Hp} {fs:List T} {rs:List (List T)} {sig:Nat->Nat×Nat} {st:List (Option Int×Option Int)} {ms ks:List Int} {sp:Int} {k fi f:Nat}
theorem Zt1{x:V}(D:Md79 p q cs U H K fs rs sig st ms ks sp k fi f)(e13:U 13=some x)(hx:Zhk fs.length x)(h:∀Y u v w,N (PM.Zi (PM.Zi (PM.Zi U 14 u) 15 v) 16 w) (K++Y)): Oks (ZiI U K) R N:=by
 right
 obtain⟨f',q',hf',rfl⟩:=hx
 have W:=D.rr
 have hp:=D.ws.tp.lt
 have sg:=W.pr.sg (fs.length-1)
 have hs:=D.hs
 have hm:=D.hm
 have hk:=D.hk
 have s9:=D.s9
 have k9:=D.k9
 obtain⟨g,hg⟩:=ZtV (ks:=ks) (st:=sp) W .l
 obtain⟨body,r,e,q1,q2,q3,_⟩:=W.fn f' hf'
 have hsh:∀l∈Zaf (st.map (Zam ms)),l.length=st.length:=λl m=>by rw[ZhZ _ l m,List.length_map]
 have hgl:∀l∈Zaf (st.map (Zam ms)),Zd4 fs rs sig ks sp l (g l):=λl m=>hg l (by rw[hsh l m,hs])
 obtain⟨a2,vs2,e2,ea2,⟨G2,s2,_⟩,_⟩:=D.e2
 obtain⟨a3,e3,ea3,_⟩:=D.e3
 obtain⟨a4,e4,ea4,_⟩:=D.e4
 obtain⟨a5,e5,ea5,_⟩:=D.e5
 obtain⟨a8,vs8,e8,ea8,⟨G8,s8,_⟩,_⟩:=D.e8
 have e6:=D.e6
 have e7:=D.e7
 left
 have hZl:∀l,brk (g l) r f' q'=(λl=>brk (g l) r f' q') l:=λ_=>rfl
 generalize (λl=>brk (g l) r f' q')=Z at hZl
 unfold ZiI
 refine Zae (Zbd (Zay (Zcm e2 (Zcm e8 (Zcm e3 (Zcm e4 (Zcm e5 (Zcm e6 (Zcm e7 (ZeL e13 ?_))))))))))
 refine(ZuG (v1:=.ref a2) (v3:=.ref a5) (v6:=.ref a8) hZl W hf' q2 .l (.ref ea2 s2) (ZbO ea5) (.ref ea8 s8) ea3 ea4 hm .l hgl).mono ?_
 intro w _ q9;obtain⟨X,rfl,hw⟩:=q9
 have hN:Nice 13 (.lst [.lst fs,stT st,Zq ms,Zq ks]):=.lst .s (Z2 W.nice (Z2 ((ZqU .l).mono .d) (Z2 (Zip .l) (Z2 (Zip .l) nl0))))
 have rh:∀Y,RFs (K++Y++[[V.ref a2,.ref a3,.ref a4,.ref a5]]) [.ref (K++Y).length] [.lst [.lst fs,stT st,Zq ms,Zq ks]] _:=λY=>.cons (.ref (Zv _ _) (.cons (.ref (Zz (ZW ea2)) ((s2.ext Y).ext _)) (.cons (ZtZ (Zz (ZW ea3))) (.cons (ZbO (Zz (ZW ea4))) (.cons (ZbO (Zz (ZW ea5))) .nil))))) .nil
 refine Zae (Zbd (Zay (Zgz (ZcN (Zcm (ZaN .d e2) (Zcm (ZaN .d e3) (Zcm (ZaN .d e4) (ZeL (ZaN .d e5) (ZeH (Nat.le_of_ble_eq_true rfl) ?_)))))))))
 obtain⟨v15,Y,F,k1,k2,_,k4⟩:=ZhI (K++X++[[V.ref a2,.ref a3,.ref a4,.ref a5]]) _ _ _ _ (by simp;lia) (rh X) (Zej (hN.mono .d))
 refine Ok.of k1 ?_
 obtain⟨a15,c1,c2,c3,c4,F1,F2,F3,F4,rfl,ea15,r1,r2,r3,r4⟩:=Zt0 k2
 obtain⟨b2,rfl,eb2⟩:=ZsA r2
 obtain⟨b3,rfl,eb3⟩:=Zdc r3
 obtain⟨b4,rfl,eb4⟩:=Zdc r4
 generalize hK1:K++X++[[V.ref a2,.ref a3,.ref a4,.ref a5]]++Y=K1 at *
 have hu:∀{b:Nat} {vs:List V},(K++X)[b]?=some vs->K1[b]?=some vs:=λe=>by rw[<-hK1];exact ZW (Zz e)
 have lK1:0<K1.length:=by rw[<-hK1];simp;lia
 repeat' fail
 refine(ZpN (v3:=.ref b4) hZl W hf' q2 lK1 r1 (ZbO eb4) eb2 eb3 .l .l k9 hgl).mono ?_
 intro v _ q9;obtain⟨X2,rfl,hv⟩:=q9
 have al:Al v w (K1++X2):=by
  rcases hw with⟨rfl,z1⟩ | ⟨l,b,rfl,z1,eb⟩
  ·rcases hv with⟨rfl,z2⟩ | ⟨l2,b2,rfl,z2,eb2⟩
   ·exact .inl ⟨rfl,rfl⟩
   ·rw[z1]at z2;cases z2
  ·rcases hv with⟨rfl,z2⟩ | ⟨l2,b2,rfl,z2,eb2⟩
   ·rw[z1]at z2;cases z2
   ·rw[z1]at z2
    cases z2
    refine .inr ⟨l,b2,b,rfl,rfl,eb2,ZW (hu eb),?_⟩
    rw[hsh l (List.mem_of_mem_take (List.mem_of_find?_eq_some z1))]
    lia
 obtain⟨Y2,hY2⟩:∃Y2,K1++X2=K++Y2:=⟨_,by rw[<-hK1];simp only[List.append_assoc];rfl⟩
 have k2':=k2.ext X2
 obtain⟨_,e,rx⟩:=(rh Y2).i1
 cases e
 rw[hY2]at al k2' ⊢
 repeat' fail
 refine Ok.of (Zsy al) ?_
 repeat' fail
 refine Zmt hN.blr .d (k2'.ext _) rx ?_
 repeat' fail
 rw[List.append_assoc]
 exact h _ _ _ _
end
end L
namespace L
section
variable {p q:Nat} {cs:List Int} {U:Lc} {H M K:Hp} {fs:List T} {rs:List (List T)} {sig:Nat->Nat×Nat} {st:List (Option Int×Option Int)} {ms ks:List Int} {sp mx:Int} {k fi f:Nat}
theorem Zt2(D:Md79 p q cs U H K fs rs sig st ms ks sp k fi f)(e12:U 12=some (.int mx))(m0:0<=mx): Oks (Zf1 U K) (λv _=>v=.bool true) N:=by
 have hp:=D.ws.tp.lt
 have u0:=D.ws.tp.ws
 have hfs:=D.hf
 have hl:=D.rr.len
 have hsm:=D.rr.small rs.length
 rw[List.take_length]at hsm
 have hfi:=D.hfi
 obtain⟨a7,us7,e7,ea7,fr7,ha7⟩:=D.e9
 have hsp:=Zsw fr7
 have l7:us7.length=(Z5 0 rs).length:=by have:=fr7.length;simpa using this
 have e8:=D.e10
 have e9:=D.e11
 have e1:=D.e1
 unfold Zf1
 refine Zae (ZbR (ZaR (Z6 (ZdN (Z6 (ZlE (Zr e7 (Zr e8 (ZmF ea7 ?_)))))))))
 refine ZdN (Zr e7 (Zr e8 (Zda (Zz ea7) ?_)))
 refine ZbM (Zz (Zv _ _)) (Zv _ _) (by rw[ZD];simp;lia) ?_
 refine Zav (Zda (n:=2) (Zv _ _) ?_)
 generalize hS:(us7.drop fi++us7.take fi).take 2=S
 have hSp:∀x∈S,Zhk fs.length x:=λx m=>by
  rw[<-hS]at m
  rw[<-hl]
  rcases Zz8.mp (List.mem_of_mem_take m)with m | m
  ·exact hsp x (List.mem_of_mem_drop m)
  ·exact hsp x (List.mem_of_mem_take m)
 have lS:S.length<=2:=by rw[<-hS];simp;omega
 have w0:=((u0.app (X:=[us7.drop fi])).app (X:=[us7.take fi])).app (X:=[us7.drop fi++us7.take fi])
 have w1:=w0.app (X:=[S])
 have lK:=w0.ex.1
 have eS:(K++[us7.drop fi]++[us7.take fi]++[us7.drop fi++us7.take fi]++[S])[(K++[us7.drop fi]++[us7.take fi]++[us7.drop fi++us7.take fi]).length]?=some S:=Zv _ _
 generalize K++[us7.drop fi]++[us7.take fi]++[us7.drop fi++us7.take fi]++[S]=A at *
 generalize (K++[us7.drop fi]++[us7.take fi]++[us7.drop fi++us7.take fi]).length=aS at *
 refine ZcN (ZX (Zi7 (ZX (Zr e9 (ZX (Zay (ZX (Zr e1 (ZX (Z6 (Zr e12 (Zav (ZmG (Zan ?_))))))))))))))
 refine(ZU w1.tp .l).dr λB d xB d0 d1=>?_
 refine Zan ⟨.s,Zan ⟨.s,?_⟩⟩
 refine ZbM (Zz (xB.at .l eS)) (Zv _ _) (by rw[ZD];simp;lia) ?_
 have w2:=((w1.trans xB).app (X:=[[V.tup [.int f,.int d]]])).app (X:=[S++[V.tup [.int f,.int d]]])
 refine ZcU (Zv _ _) ?_
 have eT:(B++[[V.tup [.int f,.int d]]]++[S++[V.tup [.int f,.int d]]])[(B++[[V.tup [.int f,.int d]]]).length]?=some (S++[V.tup [.int f,.int d]]):=Zv _ _
 generalize B++[[V.tup [.int f,.int d]]]++[S++[V.tup [.int f,.int d]]]=C at *
 generalize (B++[[V.tup [.int f,.int d]]]).length=aT at *
 let QL:Nat->Lc->Hp->Prop:=λ_ U K=>Md79 p q cs U H K fs rs sig st ms ks sp k fi f/\K[aT]?=some (S++[V.tup [.int f,.int d]])
 refine ZbZ QL ⟨D.on w2,eT⟩ (λ_ _ _ h=>h.2) ?_ λU K _=>Za3 (Zeu rfl)
 intro i x O K' hx q9;obtain⟨D',eT'⟩:=q9
 have hsx:Zhk fs.length x:=by
  rcases Zz8.mp (Yy4 hx)with m | m
  ·exact hSp x m
  ·rw[List.mem_singleton.mp m];exact⟨f,d,hfs,rfl⟩
 refine Zt1 (D'.put .d) .w hsx λY u v w=>?_
 exact⟨((((D'.put .d).put .d).put .d).put .d).on D'.ws.tp.ws.app,ZW eT'⟩
end
theorem ZpO: Ok (Zf4 [.ref 0] [ns.map V.int]) λv _=>v=.bool true:=
 ZtY λp q cs U H M fs sig st ms ks sp k D=>ZuI D λU M rs fi f D=>ZuJ D λU M k mx D e12 m0=>Zt2 D e12 m0
theorem Zoj(hl:ns.length<=63)(h:PyData.layable0 (PyData.list (ns.map PyData.int))=true): ∃H',Zf4 [.ref 0] [ns.map V.int]=some (.bool true,H'):=by
 obtain⟨v,H,e,rfl⟩:=ZpO (ns:=ns)
 exact⟨H,e⟩
end L
end
section
open PySem PySem.W PyProof.Rows
inductive PySem.W.Fast:Prop|tw9923458151070639271|tw13698048360955963301|tw6397798872860733234|tw14442895186254868694|tw3285859953031059425|tw10667965978278278033|tw18021646872103668205|tw3101917741504857134|tw13840814423707232359|tw15515405784836723652|tw17624731456758155189|tw2752243678404326380|tw234749781942434899|tw4508670104709733022|tw176179052641004369|tw4026151001005817321|tw16364373167927100580|tw14613296582639449008|tw10561106145012299093|tw12300527617525357084|tw4654963303733061616|tw5388663596951873645|tw15943592676296772274|tw4248988804066548162|tw12941643214049860704|tw11418939547134857076|tw3094701115853657799|tw1385777081429181588|tw16279701975793424917|tw17334881123488906936|tw1820406046763328738|tw1147522009701800784|tw8646929664414959583|tw2766794811542550618|tw7825248364748044718|tw18221076124747093969|tw10752687858943698738|tw9629638568524466495|tw17601101962401091345|tw12059592832596718669|tw3302604538147058396|tw11905978938385298303|tw4733640183689119296|tw14374603453287560736|tw5613902570935101281|tw802917404587063742|tw5488966160659634681|tw9685044298169568939|tw17714833071000019117|tw6664951462986138201|tw12532165626772418067|tw15431134087688302020|tw6585068141940680455|tw11990459337992974956|tw4637029440665523964|tw4952506757814975653|tw10780761586765376359|tw13792483299354683862|tw3482820431698744051|tw6511239469406747073|tw5427499738942290107|tw14015890951069844909|tw931956834028986255|tw13078823862939028812|tw4211952112222678748|tw8864380892348041232|tw4268201051430804902|tw14495299557687959983|tw4475145619620083286|tw15724745641170818534|tw17093224777342109595|tw3454877250006669316|tw15862806813707239167|tw6315216371427503177|tw729466047920990731|tw15137687247720179910|tw5661640270340304354|tw17119971604622065936|tw5266450434754204200|tw3373145609055282853|tw14722794537435163219|tw17698735102306075112|tw16396790404030501481|tw1647960591809683682|tw15223397061033166810|tw7343611390307366373|tw3121739546393284973|tw8423082426473295666|tw10846345724684618374|tw14045762497377551236|tw7076977106511060911|tw10896712999787139778|tw14029171239946634462|tw644751248652905101|tw2680141511932349947|tw1267704075650749254|tw13533215798336362250|tw12356241338228022558|tw7939387602502301741|tw3369663099759083609|tw3133745999044795564|tw670427922429333600|tw7395645310213146516|tw11791377591689657633|tw10412780308102683651|tw11586196018267737339|tw4842887358765978389|tw6606014719576569030|tw17960406059949683352|tw1173414789623836638|tw16457180445979470081|tw5674458297940323589|tw10184835648761350555|tw11221810231869717597|tw4636031889025220839|tw16970792351503237766|tw1620389302784492585|tw15854262060937163188|tw14650769484350525481|tw2450569374399577549
set_option maxRecDepth 100000 in
set_option maxHeartbeats 8000000 in
open_top head for PySem.Challenge.rw_seer_k79_the_start_that_breaks
end
section
open PySem PySem.W PySem.Calls PyProof.Rows PM
variable{F: .y}
seal PM.J PM.Js PM.JT PM.JA PM.JF PM.JI PM.JI2 PM.JP PM.S1 PM.Ss PM.Sto PM.Rd PM.Nm PM.OpN PM.Op2 PM.Def
namespace L
abbrev DD(w:World)(a:Shared)(mg mb:Str->Option Value)(f:Addr)(r:Nat)(F: .y): Prop:=Def PySem.Challenge.rw_seer_k79_the_start_that_breaks.row.prog w (head.heap_39 w.params) head.view_39 (looseW head.view_39 []) (ExcName.means a.heap) mg mb f r F
section
variable {w:World} {a:Shared} {mg mb:Str->Option Value}
local macro_rules | `(#[$a])=>`(jc $a Zbs)
local macro_rules | `(#[$a,$b,$as,*])=>`(jc $a #[$b,$as,*])
local macro_rules | `(#[$a,$b])=>`(jc $a #[$b])
local macro_rules | `([$a,$b])=>if a.raw.isOfKind `str || a.raw.isIdent then Lean.Macro.throwUnsupported else `(ZdM $a (Zx $b))
local macro_rules | `([$a,$b,$c,$as,*])=>if a.raw.isOfKind `str || a.raw.isIdent then Lean.Macro.throwUnsupported else `(ZdM $a [$b,$c,$as,*])
local macro_rules | `([$a,$b,$c])=>if a.raw.isOfKind `str || a.raw.isIdent then Lean.Macro.throwUnsupported else `(ZdM $a [$b,$c])
theorem law_draw_d: DD w a mg mb 321 1 ZP:=by
 unfold DD;k_fill
 refine ZV (names:=["_law_tape","_law_many","_law_at"]) (g:=Zia) ?_
 exact λ_ _ _ _ _ _ _ c _ _=>[Zm sL (Zj vL jI),S1.put (Zn vL jI ZM) vL jI,ZH (Zy (Z4 (nB c) #[Zj vL jI] Zaj) jI ZT) (Zx (Zt jI)) ZL,Zt (Zn (Zn (Zj (Zj vL jI) (Zn vL (Z4 (nB c) #[Zj vL jI] Zaj) ZcP)) (Zn vL (Z4 (nB c) #[Zj vL jI] Zaj) Zgs) ZM) vL ZcP)]
theorem Zd7: DD w a mg mb 328 2 ZcI:=by
 unfold DD;k_fill
 refine ZV (names:=["_law_tape","_law_kind"]) (g:=Zhq) ?_
 exact λ_ _ _ _ _ _ _ c _ _=>[Zm sL (cF c law_draw_d #[vL,jI]),ZH (Zy vL jI ZcC) (Zx (Zt (Zn (cF c law_draw_d #[vL,jI]) jI Zar))) ZL,ZH (Zy vL jI ZT) (Zx (Zt (Zn (cF c law_draw_d #[vL,Zn (Zn jI (Zn jI jI Zc8) Zb2) jI ZM]) (Zn jI jI Zc8) Zar))) ZL,Zt (Zn (cF c law_draw_d #[vL,Zn (Zn jI (Zn jI jI Zc8) Zb2) jI ZM]) (Zn jI jI Zc8) Zar)]
theorem Zdl: DD w a mg mb 335 3 Zcb:=by
 unfold DD;k_fill
 refine ZV (names:=["_law_tape","_law_many","_law_one","_law_box","_law_kind"]) (g:=ZhN) ?_
 exact λ_ _ _ _ _ _ _ c _ _=>[Zm sL (J.list #[cF c Zd7 #[vL]]),ZaG sL (JI.range (nB c) #[vL]) [Zm sL (cF c law_draw_d #[vL,jI]),Zao (J.append vL (Zj (J.list #[jI,jI,jI,jI,jI,jI,jI,J.un jI ok_neg,jI,J.un jI ok_neg,jI,jI]) vL)),ZH (Zy vL jI ZT) (Zx (S1.put (Zn (cF c law_draw_d #[vL,Zn (Zn jI (Zn jI jI Zc8) Zb2) jI ZM]) (Zn jI jI Zc8) Zar) vL (Zn vL jI ZM))) ZL],Zt vL]
theorem ZjM: DD w a mg mb 342 2 Zeb:=by
 unfold DD;k_fill
 refine ZV (names:=["_law_tape","_law_kind"]) (g:=Zhz) ?_
 exact λ_ _ _ _ _ _ _ c _ _=>[Zm sL (cF c law_draw_d #[vL,jI]),ZH (Zy vL jI ZcC) (Zx (Zt (Zj (J.list #[jI,jI,jI,jI,jI]) vL))) ZL,ZH (Zy vL jI ZT) (Zx (Zt (Zn jI (cF c law_draw_d #[vL,Zn jI jI Zc8]) ZM))) ZL,Zt (Zn jI (cF c law_draw_d #[vL,jI]) ZM)]
theorem Zea: DD w a mg mb 349 4 Zc3:=by
 unfold DD;k_fill
 refine ZV (names:=["_law_tape","_law_many","_law_kind","_law_one"]) (g:=Zhs) ?_
 exact λ_ _ _ _ _ _ _ c _ _=>[Zm sL (cF c law_draw_d #[vL,jI]),Zm sL (cF c Zdl #[vL,vL]),ZH (Zy vL jI Zbh) (Zx (Zt (J.tup #[jS,vL,cF c ZjM #[vL]]))) ZL,Zt (J.tup #[Zj (J.list #[jS,jS,jS]) vL,vL])]
theorem ZnQ: DD w a mg mb 475 1 Zfj:=by
 unfold DD;k_fill
 refine ZV (names:=["_law_ways","_law_some","_law_f","_law_row"]) (g:=Zhv) ?_
 exact λ_ _ _ _ _ _ _ c _ _=>[Zm sL (J.list Zbs),ZaG sL (JI.range (nB c) #[Z4 (nB c) #[vL] Zaj]) (Zx (ZaG sL (JI.seq (Zj vL vL)) (Zx (ZH (Zy (Zj (Zj vL jI) jI) jS ZT) (Zx (Zao (J.append vL (J.tup #[vL,Zj vL jI])))) ZL)))),Zt vL]
theorem ZjJ: ∀n:Nat,DD w a mg mb 404 (1*n+0) (Zfk n)
 | 0=>ZfS
 | n+1=>by
  have ih:=ZjJ n
  k_fill
  have e0:1*(n+1)+0=(1*n+0)+1:=by omega
  rw[e0]
  refine' Def.of (names:=["_law_thing"]) (n:=1) (room:=1*n+0) (g:=ZjL (Zfk n)) (ho:=?ho) (hcd:=?hcd) (nd:=by decide) (hn:=by decide) (hbind:=?hb) (hkinds:=?hk) (hone:=?h1) (hco:=?z1) (hgen:=?z2) (hk:=?z3) (hbody:=?hbody)
  case ho=>k_is
  case z1=>rfl
  case z2=>rfl
  case z3=>rfl
  case hcd=>k_is
  case hb=>intro s;change Cur _ λxs=>BindsTo _ _ ⟨xs,[]⟩ _;(repeat refine cur_s λ_=>?_);exact ZcD (BindsTo.of_eq rfl)
  case hk=>decide
  case h1=>decide +kernel
  case hbody=>
   intro dp un gd L outer h₀ hu clr hd1 hu1
   exact [ZH (JT.val (Zdp (nB clr) (nB clr) (.inr (.inr (.inl rfl))) vL)) (Zx (Zt (by refine cO ?_ ?_ ?_;(exact(JI.seq vL));(exact λ_ _=>(cF (Clr.comp clr) ih #[vO]));(exact λ_ _=>JF.nil)))) ZL,ZH (JT.val (Zdp (nB clr) (nB clr) (.inr (.inr (.inr rfl))) vL)) (Zx (Zt (Zc7 (nB clr) #[(by refine cO ?_ ?_ ?_;(exact(JI.seq vL));(exact λ_ _=>(cF (Clr.comp clr) ih #[vO]));(exact λ_ _=>JF.nil))] Zkd))) ZL,Zt vL]
theorem Zfv: DD w a mg mb 404 24 Zct:=ZjJ 24
theorem Zok: DD w a mg mb 152 1 ZcJ:=by
 unfold DD;k_fill
 refine ZV (names:=["rows"]) (g:=ZhT) ?_
 exact λ_ _ _ _ _ _ _ c _ _=>(Zx (Zt (Ztm (nB c) (by refine cO ?_ ?_ ?_;(exact(JI.seq vL));(exact λ_ _=>(Z4 (nB (Clr.comp c)) #[Zj vO jI,Zj vO jI] ZiM));(exact λ_ _=>JF.nil)))))
theorem ZnR: DD w a mg mb 164 2 Zd8:=by
 unfold DD;k_fill
 refine ZV (names:=["rows","by_place","row"]) (g:=Zhw) ?_
 exact λ_ _ _ _ _ _ _ c _ _=>[(by refine sO sL ?_ ?_ ?_;(exact(JI.range (nB c) #[Zn (cF c Zok #[vL]) jI ZM]));(exact λ_ _=>(J.list Zbs));(exact λ_ _=>JF.nil)),ZaG sL (JI.seq vL) (Zx (Zao (J.append (Zj vL (Zj vL jI)) vL))),Zt vL]
theorem ZnX: DD w a mg mb 91 1 Zfm:=by
 unfold DD;k_fill
 refine ZV (names:=["self"]) (g:=ZhB) ?_
 exact λ_ _ _ _ _ _ _ c _ _=>[ZbN (Clr.keep c) (J.list Zbs) vL .r .d .d .k .k .k .k,ZbN (Clr.keep c) jI vL .r .d .d .k .k .k .k]
theorem Zh6: DD w a mg mb 105 1 Zdn:=by
 unfold DD;k_fill
 refine ZV (names:=["self","here","act","there"]) (g:=Zh0) ?_
 exact λ_ _ _ _ _ _ _ c _ _=>(Zx (Zao (J.append (ZaH (Clr.keep c) vL .r .d .k .k .k .k) (J.tup #[vL,vL,vL]))))
theorem Zdj: DD w a mg mb 98 2 ZbW:=by
 unfold DD;k_fill
 refine ZV (names:=["self","here","act"]) (g:=Zhu) ?_
 exact λ_ _ _ _ _ _ _ c _ _=>[ZbN (Clr.keep c) (Zn (ZaH (Clr.keep c) vL .r .d .k .k .k .k) jI ZM) vL .r .d .d .k .k .k .k,Zao (Za4 c vL .k .k .k .d .k Zh6 .o .o #[vL,vL,ZaH (Clr.keep c) vL .r .d .k .k .k .k]),Zt (ZaH (Clr.keep c) vL .r .d .k .k .k .k)]
theorem Zlp: ∀n:Nat,DD w a mg mb 19 (1*n+0) (ZfV n)
 | 0=>ZfS
 | n+1=>by
  have ih:=Zlp n
  k_fill
  have e0:1*(n+1)+0=(1*n+0)+1:=by omega
  rw[e0]
  refine' Def.of (names:=["thing"]) (n:=1) (room:=1*n+0) (g:=ZlY (ZfV n)) (ho:=?ho) (hcd:=?hcd) (nd:=by decide) (hn:=by decide) (hbind:=?hb) (hkinds:=?hk) (hone:=?h1) (hco:=?z1) (hgen:=?z2) (hk:=?z3) (hbody:=?hbody)
  case ho=>k_is
  case z1=>rfl
  case z2=>rfl
  case z3=>rfl
  case hcd=>k_is
  case hb=>intro s;change Cur _ λxs=>BindsTo _ _ ⟨xs,[]⟩ _;(repeat refine cur_s λ_=>?_);exact ZcD (BindsTo.of_eq rfl)
  case hk=>decide
  case h1=>decide +kernel
  case hbody=>
   intro dp un gd L outer h₀ hu clr hd1 hu1
   exact [ZH (JT.val (Zdp (nB clr) (nB clr) (.inr (.inr (.inl rfl))) vL)) (Zx (Zt (by refine cO ?_ ?_ ?_;(exact(JI.seq vL));(exact λ_ _=>(cF (Clr.comp clr) ih #[vO]));(exact λ_ _=>JF.nil)))) ZL,ZH (JT.val (Zdp (nB clr) (nB clr) (.inr (.inr (.inr rfl))) vL)) (Zx (Zt (Zc7 (nB clr) #[(by refine cO ?_ ?_ ?_;(exact(JI.seq vL));(exact λ_ _=>(cF (Clr.comp clr) ih #[vO]));(exact λ_ _=>JF.nil))] Zkd))) ZL,Zt vL]
theorem Zmv: DD w a mg mb 19 24 Zgh:=Zlp 24
theorem ZfN: DD w a mg mb 159 25 ZcL:=by
 unfold DD;k_fill
 refine ZV (names:=["claim","truth"]) (g:=Zid) ?_
 exact λ_ _ _ _ _ _ _ c _ _=>(Zx (Zt (J.tup #[jS,cF c Zmv #[vL],vL])))
theorem ZnY(n:Nat)(ih:DD w a mg mb 112 (3*n+25) F): DD w a mg mb 126 (3*n+26) (Zfq F):=by
  k_fill
  refine' Def.of (names:=["self","statement","here","then","then_end","other","other_end","end"]) (n:=3) (room:=3*n+25) (g:=ZhG F) (ho:=?ho) (hcd:=?hcd) (nd:=by decide) (hn:=by decide) (hbind:=?hb) (hkinds:=?hk) (hone:=?h1) (hco:=?z1) (hgen:=?z2) (hk:=?z3) (hbody:=?hbody)
  case ho=>k_is
  case z1=>rfl
  case z2=>rfl
  case z3=>rfl
  case hcd=>k_is
  case hb=>intro s;change Cur _ λxs=>BindsTo _ _ ⟨xs,[]⟩ _;(repeat refine cur_s λ_=>?_);exact ZcD (BindsTo.of_eq rfl)
  case hk=>decide
  case h1=>decide +kernel
  case hbody=>
   intro dp un gd L outer h₀ hu clr hd1 hu1
   exact [Zm sL (Za4 clr vL .k .k .k .d .k Zdj .o .o #[vL,cF clr ZfN #[Zj vL jI,jB]]),Zm sL (Za4 clr vL .k .k .k .d .k ih .o .o #[Zj vL jI,vL]),Zm sL (Za4 clr vL .k .k .k .d .k Zdj .o .o #[vL,cF clr ZfN #[Zj vL jI,jB]]),Zm sL (Za4 clr vL .k .k .k .d .k ih .o .o #[Zj vL jI,vL]),Zm sL (Za4 clr vL .k .k .k .d .k Zdj .o .o #[vL,J.tup #[jS]]),Zao (Za4 clr vL .k .k .k .d .k Zh6 .o .o #[vL,J.tup #[jS],vL]),Zt vL]
theorem ZnK(n:Nat)(ih:DD w a mg mb 112 (3*n+25) F): DD w a mg mb 133 (3*n+26) (Zff F):=by
  k_fill
  refine' Def.of (names:=["self","statement","here","head","again","again_end"]) (n:=3) (room:=3*n+25) (g:=Zho F) (ho:=?ho) (hcd:=?hcd) (nd:=by decide) (hn:=by decide) (hbind:=?hb) (hkinds:=?hk) (hone:=?h1) (hco:=?z1) (hgen:=?z2) (hk:=?z3) (hbody:=?hbody)
  case ho=>k_is
  case z1=>rfl
  case z2=>rfl
  case z3=>rfl
  case hcd=>k_is
  case hb=>intro s;change Cur _ λxs=>BindsTo _ _ ⟨xs,[]⟩ _;(repeat refine cur_s λ_=>?_);exact ZcD (BindsTo.of_eq rfl)
  case hk=>decide
  case h1=>decide +kernel
  case hbody=>
   intro dp un gd L outer h₀ hu clr hd1 hu1
   exact [Zm sL (Za4 clr vL .k .k .k .d .k Zdj .o .o #[vL,J.tup #[jS]]),Zm sL (Za4 clr vL .k .k .k .d .k Zdj .o .o #[vL,cF clr ZfN #[Zj vL jI,jB]]),Zm sL (Za4 clr vL .k .k .k .d .k ih .o .o #[Zj vL jI,vL]),Zao (Za4 clr vL .k .k .k .d .k Zh6 .o .o #[vL,J.tup #[jS],vL]),Zt (Za4 clr vL .k .k .k .d .k Zdj .o .o #[vL,cF clr ZfN #[Zj vL jI,jB]])]
theorem ZnJ(n:Nat)(ih:DD w a mg mb 112 (3*n+25) F): DD w a mg mb 119 (3*n+27) (Zca F):=by
  k_fill
  refine' Def.of (names:=["self","statement","here"]) (n:=3) (room:=3*n+26) (g:=Zd5 F) (ho:=?ho) (hcd:=?hcd) (nd:=by decide) (hn:=by decide) (hbind:=?hb) (hkinds:=?hk) (hone:=?h1) (hco:=?z1) (hgen:=?z2) (hk:=?z3) (hbody:=?hbody)
  case ho=>k_is
  case z1=>rfl
  case z2=>rfl
  case z3=>rfl
  case hcd=>k_is
  case hb=>intro s;change Cur _ λxs=>BindsTo _ _ ⟨xs,[]⟩ _;(repeat refine cur_s λ_=>?_);exact ZcD (BindsTo.of_eq rfl)
  case hk=>decide
  case h1=>decide +kernel
  case hbody=>
   intro dp un gd L outer h₀ hu clr hd1 hu1
   exact [ZH (Zy (Zj vL jI) jS ZT) (Zx (Zt (Za4 clr vL .k .k .k .d .k (ZnY n ih) .o .o #[vL,vL]))) ZL,ZH (Zy (Zj vL jI) jS ZT) (Zx (Zt (Za4 clr vL .k .k .k .d .k (ZnK n ih) .o .o #[vL,vL]))) ZL,Zt (Za4 clr vL .k .k .k .d .k Zdj .o .o #[vL,cF clr Zmv #[vL]])]
theorem ZjI: ∀n:Nat,DD w a mg mb 112 (3*n+25) (Zc2 n)
 | 0=>ZfS
 | n+1=>by
  have ih:=ZjI n
  k_fill
  have e0:3*(n+1)+25=(3*n+27)+1:=by omega
  rw[e0]
  refine' Def.of (names:=["self","body","here","place","statement"]) (n:=3) (room:=3*n+27) (g:=Zfh (Zc2 n)) (ho:=?ho) (hcd:=?hcd) (nd:=by decide) (hn:=by decide) (hbind:=?hb) (hkinds:=?hk) (hone:=?h1) (hco:=?z1) (hgen:=?z2) (hk:=?z3) (hbody:=?hbody)
  case ho=>k_is
  case z1=>rfl
  case z2=>rfl
  case z3=>rfl
  case hcd=>k_is
  case hb=>intro s;change Cur _ λxs=>BindsTo _ _ ⟨xs,[]⟩ _;(repeat refine cur_s λ_=>?_);exact ZcD (BindsTo.of_eq rfl)
  case hk=>decide
  case h1=>decide +kernel
  case hbody=>
   intro dp un gd L outer h₀ hu clr hd1 hu1
   exact [Zm sL vL,ZaG sL (JI.seq vL) (Zx (Zm sL (Za4 clr vL .k .k .k .d .k (ZnJ n ih) .o .o #[vL,vL]))),Zt vL]
theorem ZnO: DD w a mg mb 112 52 Zhr:=ZjI 9
theorem Zit: DD w a mg mb 147 54 ZcM:=by
 unfold DD;k_fill
 refine ZV (names:=["body","layer"]) (g:=Zil) ?_
 exact λ_ _ _ _ _ _ _ c _ _=>[Zm sL (Ztl c (ZeE c .k rfl rfl rfl rfl) .k .k .k .k ZnX .o .o),Zao (Za4 c vL .k .k .k .d .k ZnO .o .o #[vL,jI]),Zt (ZaH (Clr.keep c) vL .r .d .k .k .k .k)]
theorem ZnZ: DD w a mg mb 169 55 Zfr:=by
 unfold DD;k_fill
 refine ZV (names:=["program"]) (g:=ZhH) ?_
 exact λ_ _ _ _ _ _ _ c _ _=>(Zx (Zt (by refine cO ?_ ?_ ?_;(exact(JI.seq vL));(exact λ_ _=>(cF (Clr.comp c) ZnR #[cF (Clr.comp c) Zit #[Zj vO jI]]));(exact λ_ _=>JF.nil))))
theorem ZjN: DD w a mg mb 270 1 Zdk:=by
 unfold DD;k_fill
 refine ZV (names:=["program","function","given","many"]) (g:=ZhC) ?_
 exact λ_ _ _ _ _ _ _ c _ _=>[Zm sL (Zj (Zj vL vL) jI),Zt (J.tup #[vL,jI,Zn vL (by refine cO ?_ ?_ ?_;(exact(JI.range (nB c) #[Zn vL (Z4 (nB c) #[vL] Zaj) Zar]));(exact λ_ _=>jI);(exact λ_ _=>JF.nil)) ZM])]
theorem ZnS: DD w a mg mb 204 56 Zd9:=by
 unfold DD;k_fill
 refine ZV (names:=["self","program","start","picks"]) (g:=Zhx) ?_
 exact λ_ _ _ _ _ _ _ c _ _=>[ZbN (Clr.keep c) vL vL .r .d .d .k .k .k .k,ZbN (Clr.keep c) (cF c ZnZ #[vL]) vL .r .d .d .k .k .k .k,ZbN (Clr.keep c) vL vL .r .d .d .k .k .k .k,ZbN (Clr.keep c) jI vL .r .d .d .k .k .k .k,ZbN (Clr.keep c) (J.list Zbs) vL .r .d .d .k .k .k .k,ZbN (Clr.keep c) (cF c ZjN #[vL,Zn (Z4 (nB c) #[vL] Zaj) jI Zar,vL]) vL .r .d .d .k .k .k .k]
theorem ZjH: DD w a mg mb 211 1 Zd6:=by
 unfold DD;k_fill
 refine ZV (names:=["self"]) (g:=Zhl) ?_
 exact λ_ _ _ _ _ _ _ c _ _=>(Zx (Zt (Zj (Zj (ZaH (Clr.keep c) vL .r .d .k .k .k .k) (Zj (ZaH (Clr.keep c) vL .r .d .k .k .k .k) jI)) (Zj (ZaH (Clr.keep c) vL .r .d .k .k .k .k) jI))))
theorem Zm9: DD w a mg mb 26 1 Zdt:=by
 unfold DD;k_fill
 refine ZV (names:=["row","x","thing"]) (g:=Zje) ?_
 exact λ_ _ _ _ _ _ _ c _ _=>(Zx (Zt (Zn (Zn (ZbC vL JP.none (JP.some (Zn vL jI Zar))) (J.list #[vL]) ZM) (ZbC vL (JP.some vL) JP.none) ZM)))
theorem Zn0: DD w a mg mb 237 2 Zfn:=by
 unfold DD;k_fill
 refine ZV (names:=["self","answer","call","caller","row"]) (g:=ZhD) ?_
 exact λ_ _ _ _ _ _ _ c _ _=>[Zm sL (Zj (Zj (ZaH (Clr.keep c) vL .r .d .k .k .k .k) jI) (J.un jI ok_neg)),Zm sL (J.pop (ZaH (Clr.keep c) vL .r .d .k .k .k .k)),Zm sL (Zj vL jI),Zm sL (Zj vL jI),ZbN (Clr.keep c) (J.tup #[Zj vL jI,Zj vL jI,cF c Zm9 #[Zj vL jI,Zj (Zj vL jI) jI,vL]]) vL .r .d .d .k .k .k .k]
theorem Zi5: DD w a mg mb 70 1 ZcO:=by
 unfold DD;k_fill
 refine ZV (names:=["one","boxes"]) (g:=ZiX) ?_
 exact λ_ _ _ _ _ _ _ c _ _=>(Zx (Zt (Zn (Zj vL jI) (Z4 (nB c) #[(by refine cT ?_ ?_;(exact(JI2.zip (nB c) (ZbC vL (JP.some jI) JP.none) vL));(exact λ_ _=>(Zn vO vO Zb2)))] Zi6) ZM)))
theorem Zn1: DD w a mg mb 230 2 Zfp:=by
 unfold DD;k_fill
 refine ZV (names:=["self","row","act","given"]) (g:=ZhE) ?_
 exact λ_ _ _ _ _ _ _ c _ _=>[Zm sL (Zj vL jI),(by refine sO sL ?_ ?_ ?_;(exact(JI.seq (Zj vL jI)));(exact λ_ _=>(cF (Clr.comp c) Zi5 #[vO,Zj (ZaH (Clr.keep (Clr.comp c)) vD .r .d .k .k .k .k) jI]));(exact λ_ _=>JF.nil)),Zao (J.append (ZaH (Clr.keep c) vC .r .d .k .k .k .k) (J.tup #[ZaH (Clr.keep c) vC .r .d .k .k .k .k,vL])),ZbN (Clr.keep c) (cF c ZjN #[ZaH (Clr.keep c) vC .r .d .k .k .k .k,Zj vL jI,vL]) vC .r .d .d .k .k .k .k]
theorem ZnL: DD w a mg mb 251 1 Zfd:=by
 unfold DD;k_fill
 refine ZV (names:=["self","act"]) (g:=Zhm) ?_
 exact λ_ _ _ _ _ _ _ c _ _=>[ZH (Zy (Zj vL jI) jS ZdW) (Zx (Zt jI)) ZL,ZbN (Clr.keep c) (Zn (ZaH (Clr.keep c) vL .r .d .k .k .k .k) jI ZM) vL .r .d .d .k .k .k .k,ZH (Zy (ZaH (Clr.keep c) vL .r .d .k .k .k .k) (Z4 (nB c) #[ZaH (Clr.keep c) vL .r .d .k .k .k .k] Zaj) Zbh) (Zx (Zt jI)) ZL,Zt (Zj (ZaH (Clr.keep c) vL .r .d .k .k .k .k) (Zn (ZaH (Clr.keep c) vL .r .d .k .k .k .k) jI Zar))]
theorem ZqV: DD w a mg mb 190 1 ZfU:=by
 unfold DD;k_fill
 refine ZV (names:=["lo","hi","pick"]) (g:=ZiF) ?_
 exact λ_ _ _ _ _ _ _ c _ _=>[ZH (ZaF (Zad (Zy vL jN Zde) (Zad (Zy vL jN Zde) Zba))) (Zx (Zt vL)) ZL,ZH (Zy vL jN Zde) (Zx (Zt (Zn vL (Z4 (nB c) #[vL] Zgt) ZM))) ZL,ZH (Zy vL jN Zde) (Zx (Zt (Zn vL (Z4 (nB c) #[vL] Zgt) Zar))) ZL,Zt (Zn vL (Zn vL (Zn (Zn vL vL Zar) jI ZM) ZcP) ZM)]
theorem Zol: DD w a mg mb 183 2 Zee:=by
 unfold DD;k_fill
 refine ZV (names:=["boxes","act","pick","number"]) (g:=ZhS) ?_
 exact λ_ _ _ _ _ _ _ c _ _=>[ZH (Zy (Zj vL jI) jS ZT) (Zx (Zt (cF c ZqV #[Zj vL jI,Zj vL jI,vL]))) ZL,Zm sL (cF c Zi5 #[Zj vL jI,vL]),ZH (Zy (Zj vL jI) jS ZT) (Zx (Zt (Zn vL (Zj vL jI) Zgs))) ZL,ZH (Zy (Zj vL jI) jS ZT) (Zx (Zt (Zn vL (Zj vL jI) ZcP))) ZL,Zt vL]
theorem Zmw: DD w a mg mb 77 2 Zge:=by
 unfold DD;k_fill
 refine ZV (names:=["claim","boxes","told"]) (g:=ZlS) ?_
 exact λ_ _ _ _ _ _ _ c _ _=>[Zm sL (cF c Zi5 #[Zj vL jI,vL]),ZH (Zy (Zj vL jI) jS ZT) (Zx (Zt (Za5 vL jI ZcC))) ZL,ZH (Zy (Zj vL jI) jS ZT) (Zx (Zt (Za5 vL jI ZT))) ZL,Zt (Za5 (Zn vL (Zj vL jI) ZcP) jI ZT)]
theorem Zt3: DD w a mg mb 176 3 Zcl:=by
 unfold DD;k_fill
 refine ZV (names:=["boxes","act","pick"]) (g:=Zdu) ?_
 exact λ_ _ _ _ _ _ _ c _ _=>[ZH (ZaF (Zad (Zy (Zj vL jI) jS ZT) (Zad (Zy (cF c Zmw #[Zj vL jI,vL]) (Zj vL jI) ZdW) Zba))) (Zx (Zt jN)) ZL,ZH (Zy (Zj vL jI) (J.tup #[jS,jS,jS]) Znn) (Zx (Zt (Zc7 (nB c) #[vL] Ziw))) ZL,Zt (cF c Zm9 #[vL,Zj vL jI,cF c Zol #[vL,vL,vL]])]
theorem ZnM: DD w a mg mb 244 4 Zfe:=by
 unfold DD;k_fill
 refine ZV (names:=["self","rows","pick","here","row","boxes"]) (g:=Zhn) ?_
 exact λ_ _ _ _ _ _ _ c _ _=>[Zm sL (Za4 c vL .k .k .k .d .k ZnL .o .o #[Zj (Zj vL jI) jI]),Zm sL (ZaH (Clr.keep c) vL .r .d .k .k .k .k),ZaG sL (JI.seq vL) [Zm sL (cF c Zt3 #[Zj vL jI,Zj vL jI,vL]),ZH (Zy vL jN Zce) (Zx (ZbN (Clr.keep c) (J.tup #[Zj vL jI,Zj vL jI,vL]) vL .r .d .d .k .k .k .k)) ZL]]
theorem Zn2: DD w a mg mb 225 5 Zed:=by
 unfold DD;k_fill
 refine ZV (names:=["self","rows"]) (g:=ZhF) ?_
 exact λ_ _ _ _ _ _ _ c _ _=>[Zm sL (Zev c vL .k .k .k .d .k ZjH .o .o),ZH (Zy (Z4 (nB c) #[vL] Zaj) jI ZT) (Zx (Zao (Zev c vL .k .k .k .d .k Zn0 .o .o))) (Zx (ZH (Zy (Zj (Zj (Zj vL jI) jI) jI) jS ZT) (Zx (Zao (Za4 c vL .k .k .k .d .k Zn1 .o .o #[Zj vL jI]))) (Zx (Zao (Za4 c vL .k .k .k .d .k ZnM .o .o #[vL])))))]
theorem Zn3: DD w a mg mb 218 2 Zec:=by
 unfold DD;k_fill
 refine ZV (names:=["self"]) (g:=ZhA) ?_
 exact λ_ _ _ _ _ _ _ c _ _=>(Zx (Zt (ZeT (Za5 (Z4 (nB c) #[Zev c vL .k .k .k .d .k ZjH .o .o] Zaj) jI ZT) (Za5 (Z4 (nB c) #[ZaH (Clr.keep c) vL .r .d .k .k .k .k] Zaj) jI ZT))))
theorem ZuL: DD w a mg mb 265 58 Zg3:=by
 unfold DD;k_fill
 refine ZV (names:=["program","start","picks","steps","runner","moments"]) (g:=Zjw) ?_
 exact λ_ _ _ _ _ _ _ c _ _=>[ZH (Zy (Z4 (nB c) #[vL] Zaj) (Zj (Zj vL (J.un jI ok_neg)) jI) ZdW) (Zx (S1.no)) ZL,Zm sL (J.new c (ZeE c .k rfl rfl rfl rfl) .k .k .k .k ZnS .o .o #[vL,vL,vL]),Zm sL (J.list #[ZaH (Clr.keep c) vL .r .d .k .k .k .k]),ZkC 1000000 (ZaF (Zad (Zy (Z4 (nB c) #[vL] Zaj) vL Zjk) (Zad (ZdQ (JT.val (Zev c vL .k .k .k .d .k Zn3 .o .o))) Zba))) [Zao (Zev c vL .k .k .k .d .k Zn2 .o .o),Zao (J.append vL (ZaH (Clr.keep c) vL .r .d .k .k .k .k))],Zt vL]
theorem ZoB: DD w a mg mb 285 3 ZfF:=by
 unfold DD;k_fill
 refine ZV (names:=["saying","moments"]) (g:=Zh4) ?_
 exact λ_ _ _ _ _ _ _ c _ _=>(Zx (Zt (Z4 (nB c) #[(by refine cO ?_ ?_ ?_;(exact(JI.seq vL));(exact λ_ _=>(ZgR (cF (Clr.comp c) Zmw #[Zj vD jI,Zj vO jI])));(exact λ_ _=>JF.one (Zy (ZeV vO jI) (ZeV vD jI) ZT)))] ZsI)))
theorem ZpP: DD w a mg mb 275 55 Zen:=by
 unfold DD;k_fill
 refine ZV (names:=["program","found","number","function","rows"]) (g:=Ziq) ?_
 exact λ_ _ _ _ _ _ _ c _ _=>[Zm sL (J.list Zbs),Zq6 sC sL (Zqd (nB c) vL) [Zm sL (cF c Zit #[Zj vL jI]),Zao (J.extend vL (by refine ZrD (t:=100) (t₂:=101) (t₃:=102) (hclos:=by with_unfolding_all rfl) (hg:=?pg100) (hel:=?pe100) (hif:=?pi100) (hcell:=by decide) (hkind:=rfl) (hnames:=by decide) (hx:=rfl) (hx₂:=rfl) (hx₃:=rfl) (hxx:=by decide) (htt:=by decide);(exact(JIL.seq vL));(exact λ_ _=>(J.tup #[vD,vO,Zj vO jI]));(exact λ_ _=>JF.one (Zy (Zj vO jI) jS ZT))))],Zt vL]
theorem Zom: DD w a mg mb 290 56 ZfB:=by
 unfold DD;k_fill
 refine ZV (names:=["program","places"]) (g:=ZhW) ?_
 exact λ_ _ _ _ _ _ _ c _ _=>(Zx (Zt (by refine cO ?_ ?_ ?_;(exact(JI.seq (cF c ZpP #[vL])));(exact λ_ _=>vO);(exact λ_ _=>JF.one (Zy (ZeV vO jI) vD Znn)))))
theorem ZpQ: DD w a mg mb 356 3 ZfO:=by
 unfold DD;k_fill
 refine ZV (names:=["_law_tape","_law_x","_law_lo","_law_hi","_law_kind"]) (g:=Zij) ?_
 exact λ_ _ _ _ _ _ _ c _ _=>[Zm sL (cF c Zd7 #[vL]),Zm sL (Z4 (nB c) #[Zn jI jI Zc8,Zn vL (cF c law_draw_d #[vL,jI]) ZM] Zf6),Zm sL (cF c law_draw_d #[vL,jI]),Zt (J.tup #[jS,vL,Zj (J.list #[vL,vL,vL,vL,jN,jN]) vL,Zj (J.list #[vL,vL,vL,jN,vL,jN]) vL])]
theorem Zo0(n:Nat)(ih:DD w a mg mb 363 (3*n+4) F): DD w a mg mb 370 (3*n+5) (ZfH F):=by
  k_fill
  refine' Def.of (names:=["_law_tape","_law_sizes","_law_room","_law_depth","_law_x","_law_kind","_law_claim_here","_law_body_here","_law_top","_law_more"]) (n:=5) (room:=3*n+4) (g:=Zib F) (ho:=?ho) (hcd:=?hcd) (nd:=by decide) (hn:=by decide) (hbind:=?hb) (hkinds:=?hk) (hone:=?h1) (hco:=?z1) (hgen:=?z2) (hk:=?z3) (hbody:=?hbody)
  case ho=>k_is
  case z1=>rfl
  case z2=>rfl
  case z3=>rfl
  case hcd=>k_is
  case hb=>intro s;change Cur _ λxs=>BindsTo _ _ ⟨xs,[]⟩ _;(repeat refine cur_s λ_=>?_);exact ZcD (BindsTo.of_eq rfl)
  case hk=>decide
  case h1=>decide +kernel
  case hbody=>
   intro dp un gd L outer h₀ hu clr hd1 hu1
   exact [Zm sL (cF clr law_draw_d #[vL,jI]),Zm sL (cF clr Zea #[vL,Zj vL jI]),Zm sL (cF clr ih #[vL,vL,vL,Zn vL jI Zar,cF clr law_draw_d #[vL,jI]]),ZH (ZaF (ZbX (Zy vL jI ZT) (ZbX (Zy (Zj vL jI) jI ZT) ZdJ))) (Zx (Zt (J.tup #[jS,vL,vL,cF clr ih #[vL,vL,vL,Zn vL jI Zar,cF clr law_draw_d #[vL,jI]]]))) ZL,S1.put (Zn (Zj vL jI) jI Zar) vL jI,ZH (ZaF (Zad (Zy vL jI ZT) (Zad (Zy vL jI Zbh) Zba))) [Zm sL (Zn (J.list #[J.un (cF clr law_draw_d #[vL,jI]) ok_neg]) (Zn (J.list #[jI]) (Zj vL jI) Zb2) ZM),S1.put jI vL vL,Zm sL (Zn (J.list #[Zn jI (cF clr law_draw_d #[vL,jI]) ZM]) (Zn (J.list #[jI]) (Zj vL jI) Zb2) ZM),S1.put jI vL vL,Zt (J.tup #[jS,J.tup #[jS,vL],Zn vL (J.list #[J.tup #[jS,vL,vL]]) ZM])] ZL,Zt (J.tup #[jS,vL,vL])]
theorem ZnT(n:Nat)(ih:DD w a mg mb 363 (3*n+4) F): DD w a mg mb 375 (3*n+6) (Zfi F):=by
  k_fill
  refine' Def.of (names:=["_law_tape","_law_sizes","_law_room","_law_depth","_law_many","_law_kind","_law_x","_law_f"]) (n:=4) (room:=3*n+5) (g:=Zht F) (ho:=?ho) (hcd:=?hcd) (nd:=by decide) (hn:=by decide) (hbind:=?hb) (hkinds:=?hk) (hone:=?h1) (hco:=?z1) (hgen:=?z2) (hk:=?z3) (hbody:=?hbody)
  case ho=>k_is
  case z1=>rfl
  case z2=>rfl
  case z3=>rfl
  case hcd=>k_is
  case hb=>intro s;change Cur _ λxs=>BindsTo _ _ ⟨xs,[]⟩ _;(repeat refine cur_s λ_=>?_);exact ZcD (BindsTo.of_eq rfl)
  case hk=>decide
  case h1=>decide +kernel
  case hbody=>
   intro dp un gd L outer h₀ hu clr hd1 hu1
   exact [Zm sC (Zj vL jI),Zm sL (cF clr law_draw_d #[vC,jI]),Zm sL jI,ZH (Zy (Zj vL jI) vC ZcC) (Zx (Zm sL (Zn (Zn (Zj vL jI) jI ZM) (cF clr law_draw_d #[vC,Zn vC (Zj vL jI) Zar]) ZM))) ZL,ZH (ZaF (Zad (Zy vL jI ZcC) (Zad (Zy vL jI Zbh) Zba))) (Zx (Zt (ZiO clr (ZeE clr .k rfl rfl rfl rfl) .k (Zo0 n ih) .o .o #[vC,vL,vL,vL,vL]))) ZL,ZH (ZaF (ZbX (Zy vL jI ZT) (ZbX (Zy vL jI ZT) ZdJ))) (Zx (Zt (J.tup #[jS,cF clr Zea #[vC,vC]]))) ZL,ZH (ZaF (Zad (Zy vL jI ZT) (Zad (Zy (Z4 (nB clr) #[Zj vL jI] Zaj) jI Zbh) Zba))) [Zm sL (cF clr law_draw_d #[vC,Z4 (nB clr) #[Zj vL jI] Zaj]),Zt (J.tup #[jS,vL,vL,(by refine cO ?_ ?_ ?_;(exact(JI.range (nB clr) #[Zj (Zj vL jI) vL]));(exact λ_ _=>(cF (Clr.comp clr) Zdl #[vD,vD]));(exact λ_ _=>JF.nil))])] ZL,ZH (Zy vL jI ZT) (Zx (Zt (cF clr ZpQ #[vC,vL]))) ZL,ZH (Zy vL jI Zbh) (Zx (Zt (J.tup #[Zj (J.list #[jS,jS]) (Zn vL jI Zar),vL,cF clr Zdl #[vC,vC],cF clr ZjM #[vC]]))) ZL,Zt (J.tup #[jS,vL,cF clr Zdl #[vC,vC]])]
theorem ZjT: ∀n:Nat,DD w a mg mb 363 (3*n+4) (Zdm n)
 | 0=>ZfS
 | n+1=>by
  have ih:=ZjT n
  k_fill
  have e0:3*(n+1)+4=(3*n+6)+1:=by omega
  rw[e0]
  refine' Def.of (names:=["_law_tape","_law_sizes","_law_room","_law_depth","_law_count","_law_body_here","_law_k"]) (n:=5) (room:=3*n+6) (g:=ZfI (Zdm n)) (ho:=?ho) (hcd:=?hcd) (nd:=by decide) (hn:=by decide) (hbind:=?hb) (hkinds:=?hk) (hone:=?h1) (hco:=?z1) (hgen:=?z2) (hk:=?z3) (hbody:=?hbody)
  case ho=>k_is
  case z1=>rfl
  case z2=>rfl
  case z3=>rfl
  case hcd=>k_is
  case hb=>intro s;change Cur _ λxs=>BindsTo _ _ ⟨xs,[]⟩ _;(repeat refine cur_s λ_=>?_);exact ZcD (BindsTo.of_eq rfl)
  case hk=>decide
  case h1=>decide +kernel
  case hbody=>
   intro dp un gd L outer h₀ hu clr hd1 hu1
   exact [Zm sL (J.list Zbs),ZaG sL (JI.range (nB clr) #[vL]) (Zx (ZH (Zy (Zj vL jI) jI Zbh) [S1.put (Zn (Zj vL jI) jI Zar) vL jI,Zao (J.append vL (ZiO clr (ZeE clr .k rfl rfl rfl rfl) .k (ZnT n ih) .o .o #[vL,vL,vL,vL]))] ZL)),Zt vL]
theorem Zig: DD w a mg mb 363 31 ZfJ:=ZjT 9
theorem Zon: DD w a mg mb 387 32 ZfA:=by
 unfold DD;k_fill
 refine ZV (names:=["_law_tape","_law_params","_law_few","_law_p","_law_many","_law_rings","_law_body_here","_law_f"]) (g:=ZhR) ?_
 exact λ_ _ _ _ _ _ _ c _ _=>[Zm sL (Zj (J.list #[jI,jI,jI,jI,jI,jI,jI,jI,jI,jI,jI,jI]) (cF c law_draw_d #[vC,jI])),Zm sC (Z4 (nB c) #[jI,Z4 (nB c) #[jI,Zn vL (cF c law_draw_d #[vC,jI]) ZM] ZiM] Zf6),Zm sL (Zc7 (nB c) #[ZmQ (Za5 vC jI ZcC) (ZeT (ZgR vL) (Za5 (cF c law_draw_d #[vC,jI]) jI ZT))] ZiU),Zm sL (cF c Zig #[vC,J.tup #[vL,vC,vL],J.list #[jI,vL],jI,cF c law_draw_d #[vC,jI]]),ZH (ZaF (Zad (Zy vC vL Zbh) (Zad (Zy (Z4 (nB c) #[vL] Zaj) jI Zbh) (Zad (Zy (cF c law_draw_d #[vC,jI]) jI ZT) Zba)))) [Zm sL (cF c law_draw_d #[vC,Z4 (nB c) #[vL] Zaj]),Zao (J.append vL (J.tup #[jS,vC,vL,(by refine cO ?_ ?_ ?_;(exact(JI.range (nB c) #[Zj vL vL]));(exact λ_ _=>(cF (Clr.comp c) Zdl #[vD,vD]));(exact λ_ _=>JF.nil))]))] ZL,Zt (J.tup #[vL,vC,vL])]
theorem Zky: DD w a mg mb 382 5 Zel:=by
 unfold DD;k_fill
 refine ZV (names:=["_law_tape","_law_many","_law_low","_law_top","_law_zeros","_law_more","_law_ring","_law_off","_law_within"]) (g:=Zik) ?_
 exact λ_ _ _ _ _ _ _ c _ _=>[Zm sL (Zn (cF c law_draw_d #[vL,jI]) jI Zar),Zm sL (Zn (Zn vL jI ZM) (cF c law_draw_d #[vL,jI]) ZM),Zm sL (Zn (J.list #[jI]) (Zn vL jI Zar) Zb2),Zm sL (J.list #[J.tup #[jS,jI,Zn (J.list #[Zn jI (cF c law_draw_d #[vL,jI]) ZM,jI]) vL ZM]]),ZH (ZaF (Zad (Zy vL jI Zbh) (Zad (Zy (cF c law_draw_d #[vL,jI]) jI ZT) Zba))) (Zx (Zm sL (Zn (J.list #[J.tup #[jS,vL,cF c Zdl #[vL,vL]]]) vL ZM))) ZL,Zm sL (J.tup #[jS,J.tup #[jS,Zn (J.list #[J.un vL ok_neg,jI]) vL ZM],vL]),Zm sL (J.tup #[jS,Zn (J.list #[Zn (Zn vL jI ZM) (cF c law_draw_d #[vL,jI]) ZM,J.un jI ok_neg]) vL ZM]),Zm sL (J.list #[J.tup #[jS,jI,Zn (J.list #[cF c law_draw_d #[vL,jI],jI]) vL ZM],J.tup #[jS,cF c Zea #[vL,vL]]]),Zt (J.list #[J.tup #[jS,jI,Zn (J.list #[vL,jI]) vL ZM],vL,J.tup #[jS,vL,J.list #[J.tup #[jS,cF c Zea #[vL,vL],vL]],J.list Zbs]])]
theorem ZjU: DD w a mg mb 430 1 Zcu:=by
 unfold DD;k_fill
 refine ZV (names:=["_law_program_here","_law_f","_law_numbers"]) (g:=Zh2) ?_
 exact λ_ _ _ _ _ _ _ c _ _=>(Zx (Zt (J.list #[vL,jI,Zn vL (Zn (J.list #[jI]) (Zn (Zj (Zj vL vL) jI) (Z4 (nB c) #[vL] Zaj) Zar) Zb2) ZM])))
theorem Zo1: DD w a mg mb 442 1 Zei:=by
 unfold DD;k_fill
 refine ZV (names:=["_law_ways","_law_upper","_law_answer","_law_call"]) (g:=Zic) ?_
 exact λ_ _ _ _ _ _ _ c _ _=>[Zm sL (Zj (by refine cO ?_ ?_ ?_;(exact(JI.seq (Zj vL (Zj vC jI))));(exact λ_ _=>vO);(exact λ_ _=>JF.one (Zy (Zj vO jI) (Zj vD jI) ZT))) jI),S1.put vL (Zj vC jI) (Zn (Zj (Zj vL jI) jI) jI Zar),S1.put (Zj vL jI) vC jI]
theorem Zeg: DD w a mg mb 409 1 Zcc:=by
 unfold DD;k_fill
 refine ZV (names:=["_law_one","_law_boxes","_law_full"]) (g:=Zh1) ?_
 exact λ_ _ _ _ _ _ _ c _ _=>[Zm sC (Zn (J.list #[jI]) vL ZM),Zt (Z4 (nB c) #[(by refine cO ?_ ?_ ?_;(exact(JI.range (nB c) #[Z4 (nB c) #[vC] Zaj]));(exact λ_ _=>(Zn (Zj vD vO) (Zj vD vO) Zb2));(exact λ_ _=>JF.nil))] Zi6)]
theorem Zkb: DD w a mg mb 416 2 ZfK:=by
 unfold DD;k_fill
 refine ZV (names:=["_law_claim_here","_law_boxes","_law_worth_here"]) (g:=ZjZ) ?_
 exact λ_ _ _ _ _ _ _ c _ _=>[Zm sL (cF c Zeg #[Zj vL jI,vL]),ZH (Zy (Zj vL jI) jS ZT) (Zx (Zt (Za5 vL jI ZcC))) ZL,ZH (Zy (Zj vL jI) jS ZT) (Zx (Zt (Za5 vL jI ZT))) ZL,Zt (Za5 (Zn vL (Zj vL jI) ZcP) jI ZT)]
theorem ZqW: DD w a mg mb 423 3 Zdq:=by
 unfold DD;k_fill
 refine ZV (names:=["_law_boxes","_law_act","_law_pick","_law_some","_law_number_here"]) (g:=Zcf) ?_
 exact λ_ _ _ _ _ _ _ c _ _=>[Zm sL (Zc7 (nB c) #[vL] Ziw),ZH (ZaF (Zad (Zy (Zj vL jI) jS ZT) (Zad (Zy (cF c Zkb #[Zj vL jI,vL]) (Zj vL jI) ZdW) Zba))) (Zx (Zt jN)) ZL,ZH (Zy (Zj vL jI) jS ZT) (Zx (S1.put (cF c Zeg #[Zj vL jI,vL]) vL (Zn (Zj vL jI) jI Zar))) ZL,ZH (Zy (Zj vL jI) jS ZT) (Zx (S1.put (Zn (cF c Zeg #[Zj vL jI,vL]) (Zj vL jI) Zgs) vL (Zn (Zj vL jI) jI Zar))) ZL,ZH (Zy (Zj vL jI) jS ZT) (Zx (S1.put (Zn (cF c Zeg #[Zj vL jI,vL]) (Zj vL jI) ZcP) vL (Zn (Zj vL jI) jI Zar))) ZL,ZH (Zy (Zj vL jI) jS ZT) [Zm sL vL,ZH (ZaF (Zad (Zy (Zj vL jI) jN Zce) (Zad (Zy (Zj vL jI) jN Zce) Zba))) (Zx (Zm sL (Zn (Zj vL jI) (Zn vL (Zn (Zn (Zj vL jI) (Zj vL jI) Zar) jI ZM) ZcP) ZM))) (Zx (ZH (Zy (Zj vL jI) jN Zce) (Zx (Zm sL (Zn (Zj vL jI) (Z4 (nB c) #[vL] Zgt) ZM))) (Zx (ZH (Zy (Zj vL jI) jN Zce) (Zx (Zm sL (Zn (Zj vL jI) (Z4 (nB c) #[vL] Zgt) Zar))) ZL)))),S1.put vL vL (Zn (Zj vL jI) jI Zar)] ZL,Zt vL]
theorem ZjO: DD w a mg mb 437 4 Zc5:=by
 unfold DD;k_fill
 refine ZV (names:=["_law_frame","_law_out","_law_pick","_law_row","_law_after"]) (g:=ZhV) ?_
 exact λ_ _ _ _ _ _ _ c _ _=>[ZaG sL (JI.seq vL) [Zm sL (cF c ZqW #[Zj vL jI,Zj vL jI,vL]),ZH (Zy vL jN Zce) [S1.put (Zj vL jI) vL jI,S1.put vL vL jI,Zt jB] ZL],Zt jB]
theorem Zn9: DD w a mg mb 447 25 Zfw:=by
 unfold DD;k_fill
 refine ZV (names:=["_law_program_here","_law_ways","_law_start","_law_picks","_law_steps","_law_frames","_law_moments_here","_law_used","_law_frame","_law_out","_law_act"]) (g:=ZhO) ?_
 exact λ_ _ _ _ _ _ _ c _ _=>[Zm sL (J.list #[cF c ZjU #[vL,Zn (Z4 (nB c) #[vL] Zaj) jI Zar,vL]]),Zm sL (J.list #[cF c Zfv #[Zj vL jI]]),Zm sL jI,ZkC 1000000 (Zy (Z4 (nB c) #[vL] Zaj) vL Zjk) [Zm sC (Zj vL (J.un jI ok_neg)),(by refine sO sL ?_ ?_ ?_;(exact(JI.seq (Zj vL (Zj vC jI))));(exact λ_ _=>vO);(exact λ_ _=>JF.one (Zy (Zj vO jI) (Zj vD jI) ZT))),ZH (ZaF (Zad (Zy (Z4 (nB c) #[vL] Zaj) jI ZT) (Zad (Zy (Z4 (nB c) #[vL] Zaj) jI ZT) Zba))) (Zx (Zt vL)) ZL,ZH (Zy (Z4 (nB c) #[vL] Zaj) jI ZT) [Zao (J.pop vL),Zao (cF c Zo1 #[vL,Zj vL (J.un jI ok_neg),Zj (Zj vC jI) (J.un jI ok_neg)])] (Zx (ZH (Zy (Zj (Zj (Zj vL jI) jI) jI) jS ZT) [Zm sL (Zj (Zj vL jI) jI),Zao (J.append vL (cF c ZjU #[vL,Zj vL jI,(by refine cO ?_ ?_ ?_;(exact(JI.seq (Zj vL jI)));(exact λ_ _=>(cF (Clr.comp c) Zeg #[vO,Zj vD jI]));(exact λ_ _=>JF.nil))]))] (Zx (ZH (Zy (Zj (Zj (Zj vL jI) jI) jI) jS ZT) [Zao (cF c ZjO #[vC,vL,Z4 (nB c) #[ZbC vL (JP.some vL) (JP.some (Zn vL jI ZM))] Zi6]),Zm sL (Zn vL jI ZM)] (Zx (Zao (cF c ZjO #[vC,vL,jI]))))))),Zao (J.append vL (cF c Zfv #[Zj vL (J.un jI ok_neg)]))],Zt vL]
theorem Zoo: DD w a mg mb 454 26 ZfC:=by
 unfold DD;k_fill
 refine ZV (names:=["_law_program_here","_law_ways","_law_start","_law_picks","_law_steps","_law_f","_law_spot","_law_claim_here","_law_row","_law_moment"]) (g:=ZhX) ?_
 exact λ_ _ _ _ _ _ _ c _ _=>[Zm sL jN,ZaG sL (JI.seq (Zj vL vL)) (Zx (ZH (ZaF (Zad (Zy (Zj vL jI) vL ZT) (Zad (Zy (Zj (Zj vL jI) jI) jS ZT) Zba))) (Zx (Zm sL (Zj (Zj vL jI) jI))) ZL)),ZH (Zy vL jN Zde) (Zx (Zt jB)) ZL,ZaG sL (JI.seq (cF c Zn9 #[vL,vL,vL,vL,vL])) (Zx (ZH (ZaF (Zad (Zy (Zj vL jI) vL ZT) (Zad (Zy (Zj vL jI) vL ZT) (Zad (ZdQ (JT.val (cF c Zkb #[vL,Zj vL jI]))) Zba)))) (Zx (Zt jB)) ZL)),Zt jB]
theorem Zkz: DD w a mg mb 58 1 Zeo:=by
 unfold DD;k_fill
 refine ZV (names:=["lo","hi"]) (g:=Zir) ?_
 exact λ_ _ _ _ _ _ _ c _ _=>(Zx (Zt (ZmQ (Za5 vL jN Zce) (ZeT (Za5 vL jN Zce) (Za5 vL vL Zbh)))))
theorem Zoa: DD w a mg mb 65 2 Zfy:=by
 unfold DD;k_fill
 refine ZV (names:=["one","number"]) (g:=ZhP) ?_
 exact λ_ _ _ _ _ _ _ c _ _=>(Zx (Zt (ZeT (ZgR (cF c Zkz #[Zj vL jI,vL])) (ZgR (cF c Zkz #[vL,Zj vL jI])))))
theorem ZsB: DD w a mg mb 280 3 Zgr:=by
 unfold DD;k_fill
 refine ZV (names:=["one","marks","ends"]) (g:=Zi4) ?_
 exact λ_ _ _ _ _ _ _ c _ _=>[(by refine sO sL ?_ ?_ ?_;(exact(JI.seq vC));(exact λ_ _=>vO);(exact λ_ _=>JF.one (Zy vO jN Zce))),Zt (Zki (nB c) (nB c) #[(by refine cO ?_ ?_ ?_;(exact(JI.seq (Zn (Zn vL (J.list #[jI]) ZM) vL ZM)));(exact λ_ _=>vO);(exact λ_ _=>JF.one (JT.val (cF (Clr.comp c) Zoa #[vD,vO]))))])]
theorem Zo2: DD w a mg mb 314 1 ZfL:=by
 unfold DD;k_fill
 refine ZV (names:=["choices","count","backwards","left","numbers"]) (g:=Zie) ?_
 exact λ_ _ _ _ _ _ _ c _ _=>[Zm sL (J.list Zbs),Zm sL vL,ZaG sL (JI.rev (nB c) #[vL]) [Zao (J.append vL (Zj vL (Zn vL (Z4 (nB c) #[vL] Zaj) ZcP))),Zm sL (Zn vL (Z4 (nB c) #[vL] Zaj) Zgs)],Zt (J.listRev (nB c) (nB c) #[vL])]
theorem Zn4: DD w a mg mb 307 4 Zfs:=by
 unfold DD;k_fill
 refine ZV (names:=["starts","marks","most","choices","many","numbers"]) (g:=ZhJ) ?_
 exact λ_ _ _ _ _ _ _ c _ _=>[Zm sC (by refine cO ?_ ?_ ?_;(exact(JI.seq vL));(exact λ_ _=>(cF (Clr.comp c) ZsB #[vO,vD]));(exact λ_ _=>JF.nil)),Zm sL jI,ZaG sL (JI.seq vC) (Zx (Zm sL (Zn vL (Z4 (nB c) #[vL] Zaj) Zb2))),Zt (by refine cO ?_ ?_ ?_;(exact(JI.range (nB c) #[Z4 (nB c) #[vL,vL] Zf6]));(exact λ_ _=>(cF (Clr.comp c) Zo2 #[vD,vO]));(exact λ_ _=>JF.nil))]
theorem Zo3: DD w a mg mb 302 59 ZfM:=by
 unfold DD;k_fill
 refine ZV (names:=["program","some_starts","picks","steps","some","found","start","unbroken","moments","saying"]) (g:=Zif) ?_
 exact λ_ _ _ _ _ _ _ c _ _=>[Zm sC (ZrK),ZaG sL (JI.seq vL) [(by refine sO sL ?_ ?_ ?_;(exact(JI.seq vL));(exact λ_ _=>vO);(exact λ_ _=>JF.one (Zy (ZeV vO jI) vD ZrL))),ZH (Zy (Z4 (nB c) #[vL] Zaj) jI ZT) (Zx (Zt vC)) ZL,Zm sL (cF c ZuL #[vL,vL,vL,vL]),ZaG sL (JI.seq vL) (Zx (ZH (JT.val (cF c ZoB #[vL,vL])) (Zx (ZrM vL vC (ZeV vL jI))) ZL))],Zt vC]
theorem ZpR: DD w a mg mb 297 60 ZfQ:=by
 unfold DD;k_fill
 refine ZV (names:=["program","starts","marks","picks","steps","most","function","place","some"]) (g:=Zis) ?_
 exact λ_ _ _ _ _ _ _ c _ _=>[Zm sL (cF c Zom #[vL,J.list #[J.tup #[vL,vL]]]),Zt (J.getD (cF c Zo3 #[vL,cF c Zn4 #[vL,vL,vL],vL,vL,vL]) (J.tup #[vL,vL]))]
theorem law_starts_d: DD w a mg mb 399 3 ZfD:=by
 unfold DD;k_fill
 refine ZV (names:=["_law_tape","_law_p","_law_starts_here","_law_k","_law_lo","_law_hi","_law_kind"]) (g:=ZhY) ?_
 exact λ_ _ _ _ _ _ _ c _ _=>[Zm sL (J.list Zbs),ZaG sL (JI.range (nB c) #[vL]) [Zm sL (cF c Zd7 #[vL]),Zm sL (Zn vL (cF c law_draw_d #[vL,jI]) ZM),Zm sL (cF c law_draw_d #[vL,jI]),Zao (J.append vL (J.tup #[Zj (J.list #[vL,vL,vL,vL,jN,vL,jN,vL]) vL,Zj (J.list #[vL,vL,vL,vL,vL,jN,jN,vL]) vL]))],Zt vL]
theorem Zn5: DD w a mg mb 461 2 Zft:=by
 unfold DD;k_fill
 refine ZV (names:=["_law_tape","_law_p","_law_many","_law_start","_law_one","_law_k"]) (g:=ZhK) ?_
 exact λ_ _ _ _ _ _ _ c _ _=>[Zm sL (J.list #[Zn (cF c law_draw_d #[vL,jI]) jI Zar]),ZaG sL (JI.range (nB c) #[vL]) [Zao (J.append vL (Zj (J.list #[jI,jI,J.un jI ok_neg,jI]) (cF c law_draw_d #[vL,jI]))),S1.put (Zn (Zj vL jI) (Zn (Zj vL (Zn vL jI ZM)) (Zj vL vL) Zb2) Zar) vL jI],Zm sL (Zn vL (Zn (J.list #[jI]) (Zn vL vL Zar) Zb2) ZM),Zt (Zj (J.list #[J.tup #[jS,vL],J.tup #[jS,vL,jI],J.tup #[jS,vL,jI]]) (cF c law_draw_d #[vL,jI]))]
theorem Zn6: DD w a mg mb 468 5 Zfu:=by
 unfold DD;k_fill
 refine ZV (names:=["_law_tape","_law_program_here","_law_tries_here","_law_p","_law_many","_law_claim_here","_law_more"]) (g:=ZhL) ?_
 exact λ_ _ _ _ _ _ _ c _ _=>[Zm sL (Zj (Zj vL (J.un jI ok_neg)) jI),Zm sL (Zj (Zj vL (J.un jI ok_neg)) jI),Zm sL (cF c Zea #[vL,vL]),ZH (ZaF (Zad (Zy vL jI Zbh) (Zad (Zy (cF c law_draw_d #[vL,jI]) jI Zbh) Zba))) (Zx (Zm sL (cF c Zn5 #[vL,vL,vL,Zj vL (cF c law_draw_d #[vL,Z4 (nB c) #[vL] Zaj])]))) ZL,Zm sL (J.list #[J.tup #[jS,vL]]),ZH (Zy (cF c law_draw_d #[vL,jI]) jI Zbh) (Zx (Zt (Zn (ZbC vL JP.none (JP.some (J.un jI ok_neg))) (J.list #[J.tup #[vL,vL,Zn (Zj (Zj vL (J.un jI ok_neg)) jI) vL ZM]]) ZM))) ZL,Zt (Zn (ZbC vL JP.none (JP.some (J.un jI ok_neg))) (J.list #[J.tup #[vL,vL,Zn vL (Zj (Zj vL (J.un jI ok_neg)) jI) ZM]]) ZM)]
theorem ZjV: DD w a mg mb 480 1 Zef:=by
 unfold DD;k_fill
 refine ZV (names:=["_law_starts_here","_law_marks","_law_some","_law_one","_law_longer","_law_start","_law_number_here","_law_low"]) (g:=Zh5) ?_
 exact λ_ _ _ _ _ _ _ c _ _=>[Zm sL (J.list #[J.list Zbs]),ZaG sL (JI.seq vL) [Zm sL (J.list Zbs),ZaG sL (JI.seq vL) (Zx (ZaG sL (JI.seq (Zki (nB c) (nB c) #[Zn (Zn (J.list #[jI]) (by refine cO ?_ ?_ ?_;(exact(JI.seq vL));(exact λ_ _=>vO);(exact λ_ _=>JF.one (Zy vO jN Zce))) ZM) vL ZM])) [Zm sL (ZeT (Za5 (Zj vL jI) jN Zce) (Za5 vL (Zj vL jI) ZcC)),ZH (ZaF (Zad (ZdQ (JT.val vL)) (Zad (ZaF (ZbX (Zy (Zj vL jI) jN Zde) (ZbX (Zy vL (Zj vL jI) Zjk) ZdJ))) Zba))) (Zx (Zao (J.append vL (Zn vL (J.list #[vL]) ZM)))) ZL])),Zm sL vL],Zt vL]
theorem Zob: DD w a mg mb 487 27 Zfz:=by
 unfold DD;k_fill
 refine ZV (names:=["_law_program_here","_law_ways","_law_starts_here","_law_marks","_law_picks","_law_steps","_law_most","_law_spot","_law_start"]) (g:=ZhQ) ?_
 exact λ_ _ _ _ _ _ _ c _ _=>[ZaG sL (JI.seq (ZbC (cF c ZjV #[vL,vL]) JP.none (JP.some vL))) (Zx (ZH (JT.val (cF c Zoo #[vL,vL,vL,vL,vL,Zj vL jI,Zj vL jI])) (Zx (Zt vL)) ZL)),Zt jN]
theorem ZnU: DD w a mg mb 494 1 Zfl:=by
 unfold DD;k_fill
 refine ZV (names:=["_law_came","_law_due_here","_law_number_here"]) (g:=Zhy) ?_
 exact λ_ _ _ _ _ _ _ c _ _=>[ZH (Zy vL jN Zde) (Zx (Zt (Za5 vL jN Zde))) ZL,ZH (ZaF (ZbX (ZdQ (JT.val (Zdp (nB c) (nB c) (.inr (.inr (.inl rfl))) vL))) (ZbX (Zy (Z4 (nB c) #[vL] Zaj) (Z4 (nB c) #[vL] Zaj) ZdW) ZdJ))) (Zx (Zt jB)) ZL,ZaG sL (JI.seq vL) (Zx (ZH (ZaF (ZbX (ZdQ (JT.val (Zdp (nB c) (nB c) (.inl rfl) vL))) (ZbX (JT.val (Zdp (nB c) (nB c) (.inr (.inl rfl)) vL)) ZdJ))) (Zx (Zt jB)) ZL)),Zt (Za5 vL vL ZT)]
theorem law_program_v79_d: DD w a mg mb 392 33 Zfg:=by
 unfold DD;k_fill
 refine ZV (names:=["_law_tape","_law_most","_law_program_here","_law_params","_law_count","_law_f","_law_p","_law_many","_law_rings","_law_sizes","_law_body_here","_law_row"]) (g:=Zhp) ?_
 exact λ_ _ _ _ _ _ _ c _ _=>[Zm sL (J.list Zbs),Zm sL (J.list Zbs),Zm sL (cF c law_draw_d #[vC,vL]),ZaG sL (JI.range (nB c) #[vL]) [Zao (J.append vL (cF c Zon #[vC,Zc7 (nB c) #[vL] Ziw,Za5 vL jI Zbh])),Zao (J.append vL (Zj (Zj vL vL) jI))],Zm sL (Zj (J.list #[jI,jI,jI,jI,jI,jI,jI,jI,jI,jI]) (cF c law_draw_d #[vC,jI])),Zm sC (Z4 (nB c) #[jI,vL] ZiM),ZH (ZaF (Zad (Zy vC jI ZcC) (Zad (Zy (cF c law_draw_d #[vC,jI]) jI ZT) Zba))) (Zx (Zm sC (Zn vC jI ZM))) ZL,Zm sL (Zc7 (nB c) #[Za5 vC jI ZcC] ZiU),Zm sL (J.tup #[jI,vC,vL]),Zm sL (cF c Zig #[vC,vL,J.list #[jI,vL],jI,Zn jI (cF c law_draw_d #[vC,jI]) ZM]),ZH (Zy vL jI Zbh) [Zm sL (cF c law_draw_d #[vC,vL]),(by refine sO sL ?_ ?_ ?_;(exact(JI.range (nB c) #[Zj vL vL]));(exact λ_ _=>(cF (Clr.comp c) Zdl #[vD,vD]));(exact λ_ _=>JF.nil)),Zao (J.append vL (J.tup #[jS,Zn jI (cF c law_draw_d #[vC,vC]) ZM,vL,vL]))] ZL,Zm sL (Zn vL (cF c Zig #[vC,vL,J.list #[jI,jI],jI,cF c law_draw_d #[vC,jI]]) ZM),ZH (ZaF (Zad (Zy vL jI ZT) (Zad (Zy (cF c law_draw_d #[vC,jI]) jI ZT) Zba))) (Zx (Zm sL (Zn (cF c Zky #[vC,vC]) (ZbC vL JP.none (JP.some jI)) ZM))) ZL,ZH (ZaF (Zad (Zy vL jI ZT) (Zad (Zy (cF c law_draw_d #[vC,jI]) jI ZT) Zba))) (Zx (Zm sL (Zn (ZbC (cF c Zky #[vC,vC]) JP.none (JP.some jI)) (ZbC vL JP.none (JP.some jI)) ZM))) ZL,Zao (J.append vL (J.tup #[vL,vC,vL])),Zt vL]
end
end L
end
section
open PySem PySem.W PySem.Calls PyProof.Rows PM
open L
seal PySem.wpAny PM.J PM.Js PM.JT PM.JA PM.JF PM.JI PM.JI2 PM.JP PM.S1 PM.Ss PM.Sto PM.Rd PM.Nm PM.OpN PM.Op2 PM.Def
local macro_rules | `(#[$a])=>`(jc $a Zbs)
local macro_rules | `(#[$a,$b,$as,*])=>`(jc $a #[$b,$as,*])
local macro_rules | `(#[$a,$b])=>`(jc $a #[$b])
local macro_rules | `([$a,$b])=>if a.raw.isOfKind `str || a.raw.isIdent then Lean.Macro.throwUnsupported else `(ZdM $a (Zx $b))
local macro_rules | `([$a,$b,$c,$as,*])=>if a.raw.isOfKind `str || a.raw.isIdent then Lean.Macro.throwUnsupported else `(ZdM $a [$b,$c,$as,*])
local macro_rules | `([$a,$b,$c])=>if a.raw.isOfKind `str || a.raw.isIdent then Lean.Macro.throwUnsupported else `(ZdM $a [$b,$c])
theorem PySem.Challenge.cw_seer_k79_the_start_that_breaks_holds : PySem.Challenge.rw_seer_k79_the_start_that_breaks.Holds :=
 head (by
  w_strict (k_go0;(rename Well _ _ _ _=>w9);(rename Frag.In _ _=>kx9);(rename Top _ _ _ _ _ _=>t9);(rename Fr _ _ _ _=>f9);(rename News _ _ _ _=>n9);(rename CellsAre _ _ _=>x9);(rename (PyData.layable0 _=true)=>hl9);(obtain⟨H9,e9⟩:=L.Zoj .o hl9);(refine' PM.Zq8 (names:=["_law_script","_law_tape","_law_program_here","_law_starts_here","_law_marks","_law_picks","_law_steps","_law_most","_law_ways","_law_spots","_law_first","_law_f","_law_last","_law_one","_law_due_here","_law_handed","_law_came"]) (g:=ZiJ) (room:=60) ?hb ?h1 ?h2 ?h3 ?h4 kx9 t9 w9 ?len f9 n9 x9 e9 ?post);(case h1=>decide);(case h2=>decide);(case h3=>rfl);(case h4=>rfl);(case len=>(rw[PM.ZD];omega));(case hb=>(intro dp un gd L a ccd outer h₀ hu clr hd1 hu1;exact [Zm sC (J.list #[ZbC vL JP.none (JP.some jI),jI]),Zm sL (cF clr law_program_v79_d #[vC,jI]),Zm sL (cF clr law_starts_d #[vC,Zj (Zj vL (J.un jI ok_neg)) jI]),(by refine sO sL ?_ ?_ ?_;(exact(JI.range (nB clr) #[cF clr law_draw_d #[vC,jI]]));(exact λ_ _=>(cF (Clr.comp clr) Zd7 #[vD]));(exact λ_ _=>JF.nil)),Zm sL (cF clr Zn6 #[vC,vL,cF clr ZjV #[vL,vL]]),(by refine sO sL ?_ ?_ ?_;(exact(JI.range (nB clr) #[cF clr law_draw_d #[vC,jI]]));(exact λ_ _=>(cF (Clr.comp clr) Zd7 #[vD]));(exact λ_ _=>JF.nil)),Zm sL (Zj (J.list #[cF clr law_draw_d #[vC,jI],cF clr law_draw_d #[vC,jI]]) (Zc7 (nB clr) #[Za5 (cF clr law_draw_d #[vC,jI]) jI ZT] ZiU)),Zm sL (Zj (J.list #[jI,jI,jI,jI,jI]) (cF clr law_draw_d #[vC,jI])),(by refine sO sL ?_ ?_ ?_;(exact(JI.seq vL));(exact λ_ _=>(cF (Clr.comp clr) Zit #[cF (Clr.comp clr) Zfv #[Zj vO jI]]));(exact λ_ _=>JF.nil)),Zm sL (cF clr ZnQ #[vL]),Zm sL (cF clr law_draw_d #[vC,Z4 (nB clr) #[vL] Zaj]),Zm sL (cF clr law_draw_d #[vC,Z4 (nB clr) #[vL] Zaj]),Zm sL (Z4 (nB clr) #[Zn (J.list #[jI]) (by refine cO ?_ ?_ ?_;(exact(JI.seq (Zj vL vL)));(exact λ_ _=>(Zj vO jI));(exact λ_ _=>JF.nil)) ZM] ZrH),ZH (Zy (Z4 (nB clr) #[vL] Zaj) jI Zbh) (Zx (Zm sL (Z4 (nB clr) #[vL,jI] Zf6))) ZL,ZaG sL (JI.seq (Zn (ZbC (Zn (ZbC vL (JP.some vL) JP.none) (ZbC vL JP.none (JP.some vL)) ZM) JP.none (JP.some jI)) (J.list #[J.tup #[vL,cF clr law_draw_d #[vC,Zn vL jI ZM]]]) ZM)) [Zm sL (cF clr Zob #[vL,vL,vL,vL,vL,vL,vL,vL]),Zm sL (cF clr Zfv #[J.list #[vL,vL,vL,vL]]),Zm sL (cF clr ZpR #[Zj vL jI,Zj vL jI,Zj vL jI,Zj vL jI,vL,vL,Zj vL jI,Zj vL jI]),ZH (ZaF (ZbX (ZdQ (JT.val (cF clr ZnU #[vL,vL]))) (ZbX (Zy vL (J.list #[vL,vL,vL,vL]) ZdW) ZdJ))) (Zx (Zt jB)) ZL],Zt jB]));(case post=>(intro h' tk' m' F';k_steps)))
  )
end
