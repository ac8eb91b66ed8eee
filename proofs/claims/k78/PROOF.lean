import PyProof.Rows.All
import Wide.All
import OpenK.AllK
import Wide.FinOn
import PySem.Challenge.RW_seer_k78_breaking
noncomputable section
local macro_rules|`(.o)=>`((by omega))
local macro_rules|`(.d)=>`((by decide))
local macro_rules|`(.k)=>`((by k_is))
local macro_rules|`(.s)=>`((by simp))
local macro_rules|`(.D)=>`((by decide +kernel))
local macro_rules|`(.r)=>`((by rfl))
local macro_rules|`(.l)=>`((by lia))
namespace My
end My
set_option linter.all false
set_option maxRecDepth 100000
set_option maxHeartbeats 8000000
theorem Yx0{d:Type _}{a:d}{P:Prop}(h:none=some a):P:=by cases h
abbrev Yy0:=@List.getElem?_append_left
abbrev Yy1:=@List.getElem?_eq_getElem
abbrev Yy2:=@List.getElem?_set_ne
abbrev Yy3:=@List.mem_cons_of_mem
abbrev Yy4:=@List.mem_of_getElem?
abbrev Yy5:=@List.getElem?_append_right
abbrev Yy6:=@List.getElem?_set_self
abbrev Yy7:=@List.mem_append_left
abbrev Yy8:=@List.getElem?_eq_none
abbrev Yy9:=@List.mem_filter
abbrev Yy10:=@List.append_assoc
theorem Ys0{d c:Type _}(a:d)(f:d->Option c):(some a).bind f=f a:=rfl
theorem Ys1{d c:Type _}(a:d)(f:d->c):(some a).map f=some (f a):=rfl
abbrev Zz0:=@Option.bind_eq_some_iff
abbrev Zz1:=@Option.map_eq_some_iff
abbrev Zz2:=@List.mem_cons_of_mem
abbrev Zz3:=@List.mem_append_right
abbrev Zz4:=@List.mem_append_left
abbrev Zz5:=@List.mem_cons_self
abbrev Zz6:=@List.getElem?_eq_some_iff
abbrev Zz7:=@List.mem_cons
abbrev Zz8:=@List.mem_append
abbrev Zz9:=@List.mem_singleton
abbrev Zz10:=@Nat.le_refl
abbrev Zz11:=@List.mem_map
set_option Elab.async false
set_option compiler.extract_closed false
set_option bootstrap.genMatcherCode false
theorem Q02{P A B:Prop}(f:A->B->P):(A/\B)->P:=λh=>f h.1 h.2
theorem Q11{d:Sort _}{A:d->Prop}{P:Prop}(f:∀x,A x->P):(∃x,A x)->P:=λh=>h.elim f
theorem Q03{P A B C:Prop}(f:A->B->C->P):(A/\B/\C)->P:=λh=>f h.1 h.2.1 h.2.2
theorem Q12{d:Sort _}{A B:d->Prop}{P:Prop}(f:∀x,A x->B x->P):(∃x,A x/\B x)->P:=λh=>h.elim λx h=>f x h.1 h.2
theorem Q21{d c:Sort _}{A:d->c->Prop}{P:Prop}(f:∀x y,A x y->P):(∃x y,A x y)->P:=λh=>h.elim λx h=>h.elim λy h=>f x y h
theorem Q04{P A B C D:Prop}(f:A->B->C->D->P):(A/\B/\C/\D)->P:=λh=>f h.1 h.2.1 h.2.2.1 h.2.2.2
theorem Q13{d:Sort _}{A B C:d->Prop}{P:Prop}(f:∀x,A x->B x->C x->P):(∃x,A x/\B x/\C x)->P:=λh=>h.elim λx h=>f x h.1 h.2.1 h.2.2
theorem Q22{d c:Sort _}{A B:d->c->Prop}{P:Prop}(f:∀x y,A x y->B x y->P):(∃x y,A x y/\B x y)->P:=λh=>h.elim λx h=>h.elim λy h=>f x y h.1 h.2
theorem Q31{d c a:Sort _}{A:d->c->a->Prop}{P:Prop}(f:∀x y z,A x y z->P):(∃x y z,A x y z)->P:=λh=>h.elim λx h=>h.elim λy h=>h.elim λz h=>f x y z h
theorem Q05{P A B C D E:Prop}(f:A->B->C->D->E->P):(A/\B/\C/\D/\E)->P:=λh=>f h.1 h.2.1 h.2.2.1 h.2.2.2.1 h.2.2.2.2
theorem Q14{d:Sort _}{A B C D:d->Prop}{P:Prop}(f:∀x,A x->B x->C x->D x->P):(∃x,A x/\B x/\C x/\D x)->P:=λh=>h.elim λx h=>f x h.1 h.2.1 h.2.2.1 h.2.2.2
theorem Q23{d c:Sort _}{A B C:d->c->Prop}{P:Prop}(f:∀x y,A x y->B x y->C x y->P):(∃x y,A x y/\B x y/\C x y)->P:=λh=>h.elim λx h=>h.elim λy h=>f x y h.1 h.2.1 h.2.2
theorem Q32{d c a:Sort _}{A B:d->c->a->Prop}{P:Prop}(f:∀x y z,A x y z->B x y z->P):(∃x y z,A x y z/\B x y z)->P:=λh=>h.elim λx h=>h.elim λy h=>h.elim λz h=>f x y z h.1 h.2
theorem Q41{d c a δ:Sort _}{A:d->c->a->δ->Prop}{P:Prop}(f:∀x y z u,A x y z u->P):(∃x y z u,A x y z u)->P:=λh=>h.elim λx h=>h.elim λy h=>h.elim λz h=>h.elim λu h=>f x y z u h
theorem Q06{P A B C D E F:Prop}(f:A->B->C->D->E->F->P):(A/\B/\C/\D/\E/\F)->P:=λh=>f h.1 h.2.1 h.2.2.1 h.2.2.2.1 h.2.2.2.2.1 h.2.2.2.2.2
theorem Q15{d:Sort _}{A B C D E:d->Prop}{P:Prop}(f:∀x,A x->B x->C x->D x->E x->P):(∃x,A x/\B x/\C x/\D x/\E x)->P:=λh=>h.elim λx h=>f x h.1 h.2.1 h.2.2.1 h.2.2.2.1 h.2.2.2.2
theorem Q24{d c:Sort _}{A B C D:d->c->Prop}{P:Prop}(f:∀x y,A x y->B x y->C x y->D x y->P):(∃x y,A x y/\B x y/\C x y/\D x y)->P:=λh=>h.elim λx h=>h.elim λy h=>f x y h.1 h.2.1 h.2.2.1 h.2.2.2
theorem Q33{d c a:Sort _}{A B C:d->c->a->Prop}{P:Prop}(f:∀x y z,A x y z->B x y z->C x y z->P):(∃x y z,A x y z/\B x y z/\C x y z)->P:=λh=>h.elim λx h=>h.elim λy h=>h.elim λz h=>f x y z h.1 h.2.1 h.2.2
theorem Q42{d c a δ:Sort _}{A B:d->c->a->δ->Prop}{P:Prop}(f:∀x y z u,A x y z u->B x y z u->P):(∃x y z u,A x y z u/\B x y z u)->P:=λh=>h.elim λx h=>h.elim λy h=>h.elim λz h=>h.elim λu h=>f x y z u h.1 h.2
theorem Q51{d c a δ ε:Sort _}{A:d->c->a->δ->ε->Prop}{P:Prop}(f:∀x y z u v,A x y z u v->P):(∃x y z u v,A x y z u v)->P:=λh=>h.elim λx h=>h.elim λy h=>h.elim λz h=>h.elim λu h=>h.elim λv h=>f x y z u v h
theorem Q07{P A B C D E F G:Prop}(f:A->B->C->D->E->F->G->P):(A/\B/\C/\D/\E/\F/\G)->P:=λh=>f h.1 h.2.1 h.2.2.1 h.2.2.2.1 h.2.2.2.2.1 h.2.2.2.2.2.1 h.2.2.2.2.2.2
theorem Q16{d:Sort _}{A B C D E F:d->Prop}{P:Prop}(f:∀x,A x->B x->C x->D x->E x->F x->P):(∃x,A x/\B x/\C x/\D x/\E x/\F x)->P:=λh=>h.elim λx h=>f x h.1 h.2.1 h.2.2.1 h.2.2.2.1 h.2.2.2.2.1 h.2.2.2.2.2
theorem Q25{d c:Sort _}{A B C D E:d->c->Prop}{P:Prop}(f:∀x y,A x y->B x y->C x y->D x y->E x y->P):(∃x y,A x y/\B x y/\C x y/\D x y/\E x y)->P:=λh=>h.elim λx h=>h.elim λy h=>f x y h.1 h.2.1 h.2.2.1 h.2.2.2.1 h.2.2.2.2
theorem Q34{d c a:Sort _}{A B C D:d->c->a->Prop}{P:Prop}(f:∀x y z,A x y z->B x y z->C x y z->D x y z->P):(∃x y z,A x y z/\B x y z/\C x y z/\D x y z)->P:=λh=>h.elim λx h=>h.elim λy h=>h.elim λz h=>f x y z h.1 h.2.1 h.2.2.1 h.2.2.2
theorem Q43{d c a δ:Sort _}{A B C:d->c->a->δ->Prop}{P:Prop}(f:∀x y z u,A x y z u->B x y z u->C x y z u->P):(∃x y z u,A x y z u/\B x y z u/\C x y z u)->P:=λh=>h.elim λx h=>h.elim λy h=>h.elim λz h=>h.elim λu h=>f x y z u h.1 h.2.1 h.2.2
theorem Q52{d c a δ ε:Sort _}{A B:d->c->a->δ->ε->Prop}{P:Prop}(f:∀x y z u v,A x y z u v->B x y z u v->P):(∃x y z u v,A x y z u v/\B x y z u v)->P:=λh=>h.elim λx h=>h.elim λy h=>h.elim λz h=>h.elim λu h=>h.elim λv h=>f x y z u v h.1 h.2
theorem Q61{d c a δ ε ζ:Sort _}{A:d->c->a->δ->ε->ζ->Prop}{P:Prop}(f:∀x y z u v w,A x y z u v w->P):(∃x y z u v w,A x y z u v w)->P:=λh=>h.elim λx h=>h.elim λy h=>h.elim λz h=>h.elim λu h=>h.elim λv h=>h.elim λw h=>f x y z u v w h
theorem Q08{P A B C D E F G H:Prop}(f:A->B->C->D->E->F->G->H->P):(A/\B/\C/\D/\E/\F/\G/\H)->P:=λh=>f h.1 h.2.1 h.2.2.1 h.2.2.2.1 h.2.2.2.2.1 h.2.2.2.2.2.1 h.2.2.2.2.2.2.1 h.2.2.2.2.2.2.2
theorem Q17{d:Sort _}{A B C D E F G:d->Prop}{P:Prop}(f:∀x,A x->B x->C x->D x->E x->F x->G x->P):(∃x,A x/\B x/\C x/\D x/\E x/\F x/\G x)->P:=λh=>h.elim λx h=>f x h.1 h.2.1 h.2.2.1 h.2.2.2.1 h.2.2.2.2.1 h.2.2.2.2.2.1 h.2.2.2.2.2.2
theorem Q26{d c:Sort _}{A B C D E F:d->c->Prop}{P:Prop}(f:∀x y,A x y->B x y->C x y->D x y->E x y->F x y->P):(∃x y,A x y/\B x y/\C x y/\D x y/\E x y/\F x y)->P:=λh=>h.elim λx h=>h.elim λy h=>f x y h.1 h.2.1 h.2.2.1 h.2.2.2.1 h.2.2.2.2.1 h.2.2.2.2.2
theorem Q35{d c a:Sort _}{A B C D E:d->c->a->Prop}{P:Prop}(f:∀x y z,A x y z->B x y z->C x y z->D x y z->E x y z->P):(∃x y z,A x y z/\B x y z/\C x y z/\D x y z/\E x y z)->P:=λh=>h.elim λx h=>h.elim λy h=>h.elim λz h=>f x y z h.1 h.2.1 h.2.2.1 h.2.2.2.1 h.2.2.2.2
theorem Q44{d c a δ:Sort _}{A B C D:d->c->a->δ->Prop}{P:Prop}(f:∀x y z u,A x y z u->B x y z u->C x y z u->D x y z u->P):(∃x y z u,A x y z u/\B x y z u/\C x y z u/\D x y z u)->P:=λh=>h.elim λx h=>h.elim λy h=>h.elim λz h=>h.elim λu h=>f x y z u h.1 h.2.1 h.2.2.1 h.2.2.2
theorem Q53{d c a δ ε:Sort _}{A B C:d->c->a->δ->ε->Prop}{P:Prop}(f:∀x y z u v,A x y z u v->B x y z u v->C x y z u v->P):(∃x y z u v,A x y z u v/\B x y z u v/\C x y z u v)->P:=λh=>h.elim λx h=>h.elim λy h=>h.elim λz h=>h.elim λu h=>h.elim λv h=>f x y z u v h.1 h.2.1 h.2.2
theorem Q62{d c a δ ε ζ:Sort _}{A B:d->c->a->δ->ε->ζ->Prop}{P:Prop}(f:∀x y z u v w,A x y z u v w->B x y z u v w->P):(∃x y z u v w,A x y z u v w/\B x y z u v w)->P:=λh=>h.elim λx h=>h.elim λy h=>h.elim λz h=>h.elim λu h=>h.elim λv h=>h.elim λw h=>f x y z u v w h.1 h.2
theorem Q71{d c a δ ε ζ η:Sort _}{A:d->c->a->δ->ε->ζ->η->Prop}{P:Prop}(f:∀x y z u v w s,A x y z u v w s->P):(∃x y z u v w s,A x y z u v w s)->P:=λh=>h.elim λx h=>h.elim λy h=>h.elim λz h=>h.elim λu h=>h.elim λv h=>h.elim λw h=>h.elim λs h=>f x y z u v w s h
local macro_rules|`(tactic|obtain⟨$ps,*⟩:=$t)=>do
 let ps:=ps.getElems
 let n:=ps.size
 if n<2 then Lean.Macro.throwUnsupported
 let mut bs:Array Lean.Term:= #[]
 let mut qs:Array (Array (Lean.TSyntax `tactic)):= #[]
 for p in ps do
  let r:=p.raw[0]
  let c:=r[0][0]
  if r[0].getNumArgs>1 then Lean.Macro.throwUnsupported
  if c.isOfKind ``Lean.Parser.Tactic.rcasesPat.one&&c[0].getId != `rfl then
   bs:=bs.push ⟨c[0]⟩
   qs:=qs.push #[]
  else if c.isOfKind ``Lean.Parser.Tactic.rcasesPat.ignore then
   bs:=bs.push (<- `(_))
   qs:=qs.push #[]
  else
   let q:=Lean.mkIdent (<- Lean.Macro.addMacroScope (.mkSimple s!"q{bs.size}"))
   bs:=bs.push q
   qs:=qs.push #[<- `(tactic|obtain $(⟨r⟩):rcasesPatMed:= $q)]
 let mut r:Array (Lean.TSyntax `tactic):= #[]
 for d in [0:n] do
  let j:=n-d
  let mut b:Array Lean.Term:= #[]
  let mut s:Array (Lean.TSyntax `tactic):= #[]
  for i in [0:j] do
   if s.isEmpty then b:=b.push bs[i]! else s:=s.push (<- `(tactic|intro $(bs[i]!):term))
   s:=s++qs[i]!
  if j=n&&n<9 then
   for k in [0:n] do
    let f:=Lean.mkIdent (.mkSimple s!"Q{k}{n-k}")
    r:=r.push (<- `(tactic|(refine $f fun $b* =>?_;($[$s:tactic];*))))
  if j<n&&j<8 then
   let z:=ps.extract j n
   for k in [0:j+1] do
    let f:=Lean.mkIdent (.mkSimple s!"Q{k}{j+1-k}")
    r:=r.push (<- `(tactic|(refine $f fun $b* =>?_;($[$s:tactic];*);intro q;obtain⟨$z,*⟩:=q)))
 let u:Lean.TSyntax `tactic<- (if t.raw.isIdent then let i:Lean.Ident:=⟨t⟩;`(tactic|revert $i:ident) else `(tactic|(have q:= $t;revert q)))
 `(tactic|($u:tactic;first $[|$r:tactic]*))
section
namespace PM
open PySem PyProof.Rows
variable{n a:Addr}{i k:Nat}{xs ys:List Value}{x:Value}{led fr l l' c fs:List (Addr×Obj)}{o:Obj}{h h':Heap}{q s:Addr×Obj}{m:Str->Option Value}
inductive V where
 | none
 | bool (b:Bool)
 | int (i:Int)
 | str (s:Str)
 | tup (vs:List V)
 | ref (a:Nat)
 | obj (c:Nat×List Str) (a:Nat)
variable{P:List V->List Value->Prop}{vs us:List V}{v:V}
abbrev Hp:=List (List V)
variable{H:Hp}
abbrev Lc:=Nat->Option V
variable{O:Lc}
noncomputable def ZK: Nat:=100000
theorem ZC: ZK=100000:=rfl
theorem Zbr{n:Nat}(h:n<=ZK): n<=sizeLine:=by
 have:sizeLine=2 ^ 24:=rfl
 rw[this];rw[ZC]at h;lia
noncomputable abbrev Zck(xs:List Value)(k:Nat): Obj:={ cls:=.type "tuple",data:=.seq xs.toArray k }
noncomputable abbrev ZaA(xs:List Value)(k:Nat): Obj:={ cls:=.type "list",data:=.seq xs.toArray k }
structure Wd where
 pi:List Addr
 tups:List (Addr×Obj)
 sc:Addr×Obj
 ins:List (Nat×List Str)
variable{W':Wd}
structure Wd.Le(W W':Wd): Prop where
 pi:W.pi <+: W'.pi
 tups:∀q∈W.tups,q∈W'.tups
 sc:W'.sc=W.sc
 ins:∀q∈W.ins,q∈W'.ins
 inew:∀q∈W'.ins,q∈W.ins∨W.pi.length<=q.1
theorem Wd.Le.refl(W:Wd): W.Le W:=⟨List.prefix_refl _,λ_ h=>h,rfl,λ_ h=>h,λ_ h=>.inl h⟩
theorem Wd.Le.trans{W W'':Wd}(a:W.Le W')(b:W'.Le W''): W.Le W'':=⟨a.pi.trans b.pi,λq h=>b.tups q (a.tups q h),b.sc.trans a.sc,λq h=>b.ins q (a.ins q h),λq h=>by
 rcases b.inew q h with z | z
 ·exact a.inew q z
 ·exact .inr (Nat.le_trans a.pi.length_le z)⟩
def Wd.At(W:Wd)(i:Nat)(a:Addr): Prop:=W.pi[i]?=some a/\∀q∈W.ins,q.1≠i
def Zh4(o:Obj)(C dx:Addr): Prop:=o = { cls:=.ref C,dict:=some dx,data:=.plain }
inductive FE: List Str->List Value->List DictEntry->Prop where
 | nil {fs:List Str}:FE fs [] []
 | cons {f:Str} {fs:List Str} {x:Value} {xs:List Value} {hs:Int} {t:Tok} {es:List DictEntry}:FE fs xs es->FE (f::fs) (x::xs) (⟨hs,.str f t,x⟩::es)
def Zk7(o:Obj)(fs:List Str)(xs:List Value): Prop:=∃es n,o = { cls:=.type "dict",data:=.dict es.toArray n }/\FE fs xs es
theorem Wd.Le.piAt{W:Wd}(h:W.Le W')(e:W.pi[i]?=some a): W'.pi[i]?=some a:=by
 obtain⟨t,ht⟩:=h.pi
 have hi:i<W.pi.length:=(Zz6.mp e).1
 rw[<-ht,Yy0 hi]
 exact e
theorem Wd.Le.at{W:Wd}(h:W.Le W')(e:W.At i a): W'.At i a:=⟨h.piAt e.1,λq hq z=>by
 rcases h.inew q hq with y | y
 ·exact e.2 q y z
 ·have:=(Zz6.mp e.1).1
  lia⟩
mutual
inductive VR(W:Wd): V->Value->Prop where
 | none:VR W .none .none
 | bool (b:Bool):VR W (.bool b) (.bool b)
 | int (i:Int) (t:Tok):VR W (.int i) (.int i t)
 | str (s:Str) (t:Tok):VR W (.str s) (.str s t)
 | tup {vs:List V} {a:Addr} {xs:List Value} {k:Nat}:(a,Zck xs k)∈W.tups->vs.length<=ZK->VRs W vs xs->VR W (.tup vs) (.ref a)
 | ref {i:Nat} {a:Addr}:W.At i a->VR W (.ref i) (.ref a)
 | obj {c:Nat×List Str} {i:Nat} {a x:Addr} {ox:Obj}:W.pi[i]?=some a->(i,c.2)∈W.ins->(x,ox)∈W.tups->Zh4 ox c.1 a->VR W (.obj c i) (.ref x)
inductive VRs(W:Wd): List V->List Value->Prop where
 | nil:VRs W [] []
 | cons {v:V} {x:Value} {vs:List V} {xs:List Value}:VR W v x->VRs W vs xs->VRs W (v::vs) (x::xs)
end
mutual
theorem VR.mono{W W':Wd}(h:W.Le W'){v:V}{x:Value}(r:VR W v x): VR W' v x:=by
 cases r with
 | none=>exact .none
 | bool b=>exact .bool b
 | int i t=>exact .int i t
 | str s t=>exact .str s t
 | tup hm hl hs=>exact .tup (h.tups _ hm) hl (VRs.mono h hs)
 | ref e=>exact .ref (h.at e)
 | obj h1 h2 h3 h4=>exact .obj (h.piAt h1) (h.ins _ h2) (h.tups _ h3) h4
theorem VRs.mono{W W':Wd}(h:W.Le W'){vs:List V}{xs:List Value}(r:VRs W vs xs): VRs W' vs xs:=by
 cases r with
 | nil=>exact .nil
 | cons a b=>exact .cons (VR.mono h a) (VRs.mono h b)
end
theorem VRs.ind{W:Wd}(h0:P [] [])(h1:∀{v x vs xs},VR W v x->VRs W vs xs->P vs xs->P (v::vs) (x::xs))(r:VRs W vs xs): P vs xs:=
 @VRs.rec W (λ_ _ _=>True) (λvs xs _=>P vs xs) trivial (λ_=>trivial) (λ_ _=>trivial) (λ_ _=>trivial) (λ_ _ _ _=>trivial) (λ_=>trivial) (λ_ _ _ _=>trivial) h0 (λa r _ ih=>h1 a r ih) vs xs r
theorem VRs.length{W:Wd}(r:VRs W vs xs): xs.length=vs.length:=r.ind (P:=λvs xs=>xs.length=vs.length) rfl λ_ _ ih=>congrArg (· + 1) ih
theorem VRs.at{W:Wd}(r:VRs W vs xs)(e:vs[i]?=some v): ∃x,xs[i]?=some x/\VR W v x:=
 r.ind (P:=λvs xs=>∀i,vs[i]?=some v->∃x,xs[i]?=some x/\VR W v x) (λi e=>by simp at e) (λa _ ih i e=>by
  cases i with
  | zero=>
   cases e
   exact⟨_,rfl,a⟩
  | succ i=>exact ih i e) i e
theorem VRs.append{W:Wd}(r:VRs W vs xs)(h:VRs W us ys): VRs W (vs++us) (xs++ys):=r.ind (P:=λvs xs=>VRs W (vs++us) (xs++ys)) h λa _ ih=>.cons a ih
theorem VRs.snoc{W:Wd}(h:VRs W vs xs)(r:VR W v x): VRs W (vs++[v]) (xs++[x]):=h.append (.cons r .nil)
theorem VRs.set{W:Wd}(i:Nat)(r:VRs W vs xs)(h:VR W v x): VRs W (vs.set i v) (xs.set i x):=
 r.ind (P:=λvs xs=>∀i,VRs W (vs.set i v) (xs.set i x)) (λ_=>.nil) (λa r ih i=>by
  cases i with
  | zero=>exact .cons h r
  | succ i=>exact .cons a (ih i)) i
theorem VRs.drop{W:Wd}(i:Nat)(r:VRs W vs xs): VRs W (vs.drop i) (xs.drop i):=
 r.ind (P:=λvs xs=>∀i,VRs W (vs.drop i) (xs.drop i)) (λi=>by rw[List.drop_nil,List.drop_nil];exact .nil) (λa r ih i=>by
  cases i with
  | zero=>exact .cons a r
  | succ i=>exact ih i) i
theorem VRs.take{W:Wd}(i:Nat)(r:VRs W vs xs): VRs W (vs.take i) (xs.take i):=
 r.ind (P:=λvs xs=>∀i,VRs W (vs.take i) (xs.take i)) (λi=>by rw[List.take_nil,List.take_nil];exact .nil) (λa r ih i=>by
  cases i with
  | zero=>exact .nil
  | succ i=>exact .cons a (ih i)) i
structure HR(W:Wd)(H:Hp)(led:List (Addr×Obj)): Prop where
 len:W.pi.length=H.length
 nd:W.pi.Nodup
 lists:∀(i:Nat) (vs:List V),H[i]?=some vs->(∀q∈W.ins,q.1≠i)->vs.length<=ZK/\∃a xs k,W.pi[i]?=some a/\(a,ZaA xs k)∈led/\VRs W vs xs
 tups:∀q∈W.tups,q∈led
 kind:∀q∈W.tups,(∃xs k,q.2=Zck xs k)∨∃C dx,Zh4 q.2 C dx
 objs:∀(i:Nat) (vs:List V) (fs:List Str),H[i]?=some vs->(i,fs)∈W.ins->vs.length<=fs.length/\∃a od xs,W.pi[i]?=some a/\(a,od)∈led/\Zk7 od fs xs/\VRs W vs xs
 inlt:∀q∈W.ins,q.1<H.length
 iuni:∀q∈W.ins,∀r∈W.ins,q.1=r.1->q=r
theorem HR.mono{W:Wd}{led':List (Addr×Obj)}(R:HR W H led)(h:∀q∈led,q∈led'): HR W H led':=
 ⟨R.len,R.nd,λi vs e ni=>by
  obtain⟨l,a,xs,k,h1,h2,h3⟩:=R.lists i vs e ni
  exact⟨l,a,xs,k,h1,h _ h2,h3⟩,λq hq=>h q (R.tups q hq),R.kind,λi vs fs e hi=>by
  obtain⟨l,a,od,xs,h1,h2,h3⟩:=R.objs i vs fs e hi
  exact⟨l,a,od,xs,h1,h _ h2,h3⟩,R.inlt,R.iuni⟩
theorem HR.any{W:Wd}(R:HR W H led)(e:H[i]?=some vs): ∃a o,W.pi[i]?=some a/\(a,o)∈led/\(o.cls=.type "list"∨o.cls=.type "dict"):=by
 by_cases ni:∀q∈W.ins,q.1≠i
 ·obtain⟨_,a,xs,k,h1,h2,_⟩:=R.lists i vs e ni
  exact⟨a,_,h1,h2,.inl rfl⟩
 ·obtain⟨⟨j,fs⟩,hq⟩:=Classical.not_forall.mp ni
  obtain⟨hq',z⟩:=Classical.not_imp.mp hq
  have z:j=i:=Classical.not_not.mp z
  rw[z]at hq'
  obtain⟨_,a,od,xs,h1,h2,h3,_⟩:=R.objs i vs fs e hq'
  obtain⟨es,n,eo,_⟩:=h3
  exact⟨a,od,h1,h2,.inr (by rw[eo])⟩
theorem Zi2(k:(∃xs k,o=Zck xs k)∨∃C dx,Zh4 o C dx): o.cls≠.type "list"/\o.cls≠.type "dict":=by
 rcases k with⟨xs,k,e⟩ | ⟨C,dx,e⟩
 ·rw[e];exact⟨.s,.s⟩
 ·rw[show o=_ from e];exact⟨.s,.s⟩
structure Cx where
 A:Around
 env:Env
 h₀:Heap
 L:Addr
 hh:A.handled=none
 hu:A.units+200<cLine
 Own:Wd->Lc->(Str->Option Value)->List (Addr×Obj)->Prop
 mono:∀{W W':Wd} {O:Lc} {m:Str->Option Value} {c:List (Addr×Obj)},W.Le W'->Own W O m c->Own W' O m c
variable{G:Cx}
structure Rep'(G:Cx)(W:Wd)(O:Lc)(H:Hp)(fr:List (Addr×Obj))(h:Heap)(m:Str->Option Value)(cells led:List (Addr×Obj)): Prop where
 F:Fr G.h₀ G.L h m
 N:News G.h₀ G.L h led
 R:HR W H (W.sc::led)
 sc:G.h₀.get? W.sc.1=some W.sc.2
 sc0:W.pi[0]?=some W.sc.1
 frIn:∀q∈fr,q∈led
 frOff:∀q∈fr,q.1∉W.pi
 clIn:∀q∈cells,q∈led
 clOff:∀q∈cells,q.1∉W.pi
 apart:∀q∈cells,∀r∈fr,q.1≠r.1
 frTup:∀q∈fr,∀t∈W.tups,q.1≠t.1
 clTup:∀q∈cells,∀t∈W.tups,q.1≠t.1
 own:G.Own W O m cells
def Rep(G:Cx)(W:Wd)(O:Lc)(H:Hp)(fr:List (Addr×Obj))(h:Heap): Prop:=∃m cells led,Rep' G W O H fr h m cells led
theorem Rep.grown{W:Wd}(r:Rep G W O H fr h)(up:∀b o,h.get? b=some o->h'.get? b=some o): Rep G W O H fr h':=by
 obtain⟨m,c,led,r⟩:=r
 refine⟨m,c,led,⟨⟨?_,λb o e=>up b o (r.F.keep b o e),r.F.above⟩,λq hq=>⟨up _ _ (r.N q hq).1,(r.N q hq).2⟩,r.R,r.sc,r.sc0,r.frIn,r.frOff,r.clIn,r.clOff,r.apart,r.frTup,r.clTup,r.own⟩⟩
 obtain⟨o,es,ep,h1,h2⟩:=r.F.ns
 exact⟨o,es,ep,up _ _ h1,h2⟩
theorem Rep.push{W:Wd}(r:Rep G W O H fr h)(o:Obj): Rep G W O H fr (h.push o):=r.grown λ_ _ e=>Heap.get?_push_of_some _ e
theorem Zbe(h:q∈s::l)(m:q∈l->q∈l'): q∈s::l':=by
 rcases Zz7.mp h with e | h
 ·exact e▸List.mem_cons_self
 ·exact Zz2 _ (m h)
theorem Zcy(h:q∈s::l)(m:∀x∈l,x∈l'): q∈s::l':=by
 rcases Zz7.mp h with e | h
 ·exact e▸List.mem_cons_self
 ·exact Zz2 _ (m q h)
theorem Rep'.get{W:Wd}(r:Rep' G W O H fr h m c led)(hq:q∈W.sc::led): h.get? q.1=some q.2:=by
 rcases Zz7.mp hq with e | hq
 ·rw[e]
  exact r.F.keep _ _ r.sc
 ·exact(r.N q hq).1
theorem Rep'.off{W:Wd}(r:Rep' G W O H fr h m c led): ∀q∈W.sc::led,q.1≠h.objs.size:=λq hq=>Nat.ne_of_lt (Heap.lt_size (r.get hq))
theorem Rep'.same{W:Wd}(r:Rep' G W O H fr h m c led)(F':Fr G.h₀ G.L h' m)(N':News G.h₀ G.L h' led): Rep G W O H fr h':=
 ⟨m,c,led,F',N',r.R,r.sc,r.sc0,r.frIn,r.frOff,r.clIn,r.clOff,r.apart,r.frTup,r.clTup,r.own⟩
theorem Rep'.piIn{W:Wd}(r:Rep' G W O H fr h m c led): ∀a∈W.pi,∃o,(a,o)∈W.sc::led:=by
 intro a ha
 obtain⟨i,hi,e⟩:=List.getElem_of_mem ha
 have hi':i<H.length:=r.R.len▸hi
 obtain⟨b,o,h1,h2,_⟩:=r.R.any (Yy1 hi')
 have:b=a:=by rw[Yy1 hi,e]at h1;exact(Option.some.inj h1).symm
 exact⟨_,this▸h2⟩
theorem Rep'.inLed{W:Wd}(r:Rep' G W O H fr h m c led)(hi:i≠0)(ea:W.pi[i]?=some a)(hm:(a,o)∈W.sc::led): (a,o)∈led:=by
 rcases Zz7.mp hm with e | hm
 ·have e1:a=W.sc.1:=congrArg (·.1) e
  have hl:i<W.pi.length:=(Zz6.mp ea).1
  have:i=0:=(List.getElem?_inj hl r.R.nd).mp (by rw[ea,r.sc0,e1])
  exact absurd this hi
 ·exact hm
theorem Rep'.notSc{W:Wd}(r:Rep' G W O H fr h m c led): ∀q∈led,q.1≠W.sc.1:=λq hq e=>by
 have:=(r.N q hq).2.2
 rw[e,r.sc]at this
 cases this
theorem Rep'.newTup{W:Wd}(r:Rep' G W O H fr h m c led)(F':Fr G.h₀ G.L h' m)(N':News G.h₀ G.L h' ((n,Zck xs k)::led))(hn:∀q∈W.sc::led,q.1≠n)(hv:VRs W vs xs)(hl:vs.length<=ZK):
  ∃W',W.Le W'/\Rep G W' O H fr h'/\VR W' (.tup vs) (.ref n):=by
 have le:W.Le ⟨W.pi,(n,Zck xs k)::W.tups,W.sc,W.ins⟩:=⟨List.prefix_refl _,λq hq=>Yy3 _ hq,rfl,λ_ h=>h,λ_ h=>.inl h⟩
 refine⟨⟨W.pi,(n,Zck xs k)::W.tups,W.sc,W.ins⟩,le,⟨m,c,(n,Zck xs k)::led,⟨F',N',?_,r.sc,r.sc0,λq hq=>Yy3 _ (r.frIn q hq),r.frOff,λq hq=>Yy3 _ (r.clIn q hq),r.clOff,r.apart,λq hq t ht=>?_,λq hq t ht=>?_,G.mono le r.own⟩⟩,.tup Zz5 hl (hv.mono le)⟩
 ·refine⟨r.R.len,r.R.nd,λi us e ni=>?_,λq hq=>?_,λq hq=>?_,λi us fs e hi=>?_,r.R.inlt,r.R.iuni⟩
  ·obtain⟨l,a,ys,j,h1,h2,h3⟩:=r.R.lists i us e ni
   exact⟨l,a,ys,j,h1,Zcy h2 λx hx=>Yy3 _ hx,h3.mono le⟩
  ·rcases Zz7.mp hq with e | hq
   ·exact e▸Yy3 _ Zz5
   ·exact Zcy (r.R.tups q hq) λx hx=>Yy3 _ hx
  ·rcases Zz7.mp hq with e | hq
   ·exact .inl ⟨xs,k,by rw[e]⟩
   ·exact r.R.kind q hq
  ·obtain⟨l,a,od,ys,h1,h2,h3,h4⟩:=r.R.objs i us fs e hi
   exact⟨l,a,od,ys,h1,Zcy h2 λx hx=>Yy3 _ hx,h3,h4.mono le⟩
 ·rcases Zz7.mp ht with e | ht
  ·rw[e]
   exact hn q (Zz2 _ (r.frIn q hq))
  ·exact r.frTup q hq t ht
 ·rcases Zz7.mp ht with e | ht
  ·rw[e]
   exact hn q (Zz2 _ (r.clIn q hq))
  ·exact r.clTup q hq t ht
theorem Rep.tuple{W:Wd}(r:Rep G W O H fr h)(hv:VRs W vs xs)(hl:vs.length<=ZK):
  ∃W',W.Le W'/\Rep G W' O H fr (h.push (Zck xs k))/\VR W' (.tup vs) (.ref h.objs.size):=by
 obtain⟨m,c,led,r⟩:=r
 exact r.newTup (r.F.push _) (News.push r.F r.N _) r.off hv hl
theorem Rep'.newList{W:Wd}(r:Rep' G W O H fr h m c led)(F':Fr G.h₀ G.L h' m)(N':News G.h₀ G.L h' ((n,ZaA xs k)::led))(hn:∀q∈W.sc::led,q.1≠n)(hv:VRs W vs xs)(hl:vs.length<=ZK):
  ∃W',W.Le W'/\Rep G W' O (H++[vs]) fr h'/\VR W' (.ref H.length) (.ref n):=by
 have le:W.Le ⟨W.pi++[n],W.tups,W.sc,W.ins⟩:=⟨List.prefix_append _ _,λq hq=>hq,rfl,λ_ h=>h,λ_ h=>.inl h⟩
 have h0:0<W.pi.length:=(Zz6.mp r.sc0).1
 have at_n:(W.pi++[n])[H.length]?=some n:=by rw[<-r.R.len];simp
 have nin:∀q∈W.ins,q.1≠H.length:=λq hq e=>by have:=r.R.inlt q hq;lia
 refine⟨⟨W.pi++[n],W.tups,W.sc,W.ins⟩,le,⟨m,c,(n,ZaA xs k)::led,⟨F',N',?_,r.sc,(Yy0 h0).trans r.sc0,λq hq=>Yy3 _ (r.frIn q hq),λq hq=>?_,λq hq=>Yy3 _ (r.clIn q hq),λq hq=>?_,r.apart,r.frTup,r.clTup,G.mono le r.own⟩⟩,.ref ⟨at_n,nin⟩⟩
 ·refine⟨by simp[r.R.len],?_,λi us e ni=>?_,λq hq=>Zcy (r.R.tups q hq) λx hx=>Yy3 _ hx,r.R.kind,λi us fs e hi=>?_,λq hq=>by have:=r.R.inlt q hq;simp;lia,r.R.iuni⟩
  ·show(W.pi++[n]).Nodup
   rw[List.nodup_append]
   refine⟨r.R.nd,.s,λa ha b hb=>?_⟩
   rw[List.mem_singleton.mp hb]
   obtain⟨o,ho⟩:=r.piIn a ha
   exact hn _ ho
  ·by_cases hi:i<H.length
   ·rw[Yy0 hi]at e
    obtain⟨l,a,ys,j,h1,h2,h3⟩:=r.R.lists i us e ni
    exact⟨l,a,ys,j,le.piAt h1,Zcy h2 λx hx=>Yy3 _ hx,h3.mono le⟩
   ·have:i=H.length:=by
     have:=(Zz6.mp e).1
     simp at this
     lia
    subst this
    simp at e
    subst e
    exact⟨hl,n,xs,k,at_n,Yy3 _ Zz5,hv.mono le⟩
  ·have hi':i<H.length:=r.R.inlt _ hi
   rw[Yy0 hi']at e
   obtain⟨l,a,od,ys,h1,h2,h3,h4⟩:=r.R.objs i us fs e hi
   exact⟨l,a,od,ys,le.piAt h1,Zcy h2 λx hx=>Yy3 _ hx,h3,h4.mono le⟩
 ·intro hm
  rcases Zz8.mp hm with hm | hm
  ·exact r.frOff q hq hm
  ·exact hn q (Zz2 _ (r.frIn q hq)) (Zz9.mp hm)
 ·intro hm
  rcases Zz8.mp hm with hm | hm
  ·exact r.clOff q hq hm
  ·exact hn q (Zz2 _ (r.clIn q hq)) (Zz9.mp hm)
theorem Rep.list{W:Wd}(r:Rep G W O H fr h)(hv:VRs W vs xs)(hl:vs.length<=ZK):
  ∃W',W.Le W'/\Rep G W' O (H++[vs]) fr (h.push (ZaA xs k))/\VR W' (.ref H.length) (.ref h.objs.size):=by
 obtain⟨m,c,led,r⟩:=r
 exact r.newList (r.F.push _) (News.push r.F r.N _) r.off hv hl
theorem Rep.at{W:Wd}(r:Rep G W O H fr h)(e:H[i]?=some vs)(ea:W.At i a): vs.length<=ZK/\∃xs k,h.get? a=some (ZaA xs k)/\VRs W vs xs:=by
 obtain⟨m,c,led,r⟩:=r
 obtain⟨l,b,xs,k,h1,h2,h3⟩:=r.R.lists i vs e ea.2
 rw[ea.1]at h1
 cases h1
 exact⟨l,xs,k,r.get h2,h3⟩
theorem Rep.tupAt{W:Wd}(r:Rep G W O H fr h)(e:q∈W.tups): h.get? q.1=some q.2:=by
 obtain⟨m,c,led,r⟩:=r
 exact r.get (r.R.tups _ e)
theorem Rep'.changed{W:Wd}(r:Rep' G W O H fr h m c led)(i0:i≠0)(e:H[i]?=some vs)(ea:W.At i a)(F':Fr G.h₀ G.L h' m)(N':News G.h₀ G.L h' ((a,ZaA ys k)::led.filter (λq=>decide (q.1≠a))))(hv:VRs W us ys)(hl:us.length<=ZK):
  Rep G W O (H.set i us) fr h':=by
 obtain⟨_,b,xs,j,h1,h2,h3⟩:=r.R.lists i vs e ea.2
 rw[ea.1]at h1
 cases h1
 have h2:=r.inLed i0 ea.1 h2
 have hN:=r.N _ h2
 have hm:a∈W.pi:=Yy4 ea.1
 have hi:i<H.length:=(Zz6.mp e).1
 refine⟨m,c,(a,ZaA ys k)::led.filter (λq=>decide (q.1≠a)),⟨F',N',?_,r.sc,r.sc0,λq hq=>?_,r.frOff,λq hq=>?_,r.clOff,r.apart,r.frTup,r.clTup,r.own⟩⟩
 ·refine⟨by simp[r.R.len],r.R.nd,λn ws en ni=>?_,λq hq=>?_,r.R.kind,λn ws fs en hi'=>?_,λq hq=>by have:=r.R.inlt q hq;simpa using this,r.R.iuni⟩
  ·by_cases hn:n=i
   ·subst hn
    rw[Yy6 hi]at en
    cases en
    exact⟨hl,a,ys,k,ea.1,Yy3 _ Zz5,hv⟩
   ·rw[Yy2 (Ne.symm hn)]at en
    obtain⟨l,d,zs,j',g1,g2,g3⟩:=r.R.lists n ws en ni
    refine⟨l,d,zs,j',g1,Zbe g2 λg2=>Yy3 _ (Yy9.mpr ⟨g2,?_⟩),g3⟩
    have:d≠a:=λe=>by
     subst e
     exact hn ((List.getElem?_inj (Zz6.mp g1).1 r.R.nd).mp (g1.trans ea.1.symm))
    simpa using this
  ·refine Zbe (r.R.tups q hq) λg2=>Yy3 _ (Yy9.mpr ⟨g2,?_⟩)
   have:q.1≠a:=λe=>by
    have hk:=Zi2 (r.R.kind q hq)
    have g:=r.get (r.R.tups q hq)
    rw[e,hN.1]at g
    have c:=congrArg Obj.cls (Option.some.inj g)
    exact hk.1 c.symm
   simpa using this
  ·have hn:n≠i:=λq=>ea.2 _ hi' q
   rw[Yy2 (Ne.symm hn)]at en
   obtain⟨l,d,od,zs,g1,g2,g3,g4⟩:=r.R.objs n ws fs en hi'
   refine⟨l,d,od,zs,g1,Zbe g2 λg2=>Yy3 _ (Yy9.mpr ⟨g2,?_⟩),g3,g4⟩
   have:d≠a:=λe=>by
    subst e
    exact hn ((List.getElem?_inj (Zz6.mp g1).1 r.R.nd).mp (g1.trans ea.1.symm))
   simpa using this
 ·refine Zz2 _ (Yy9.mpr ⟨r.frIn q hq,?_⟩)
  have:q.1≠a:=λe=>r.frOff q hq (e▸hm)
  simpa using this
 ·refine Zz2 _ (Yy9.mpr ⟨r.clIn q hq,?_⟩)
  have:q.1≠a:=λe=>r.clOff q hq (e▸hm)
  simpa using this
theorem Rep.change{W:Wd}(r:Rep G W O H fr h)(i0:i≠0)(e:H[i]?=some vs)(ea:W.At i a)(sb:Heap.SameBut a h h')(ha:h'.get? a=some (ZaA ys k))(hv:VRs W us ys)(hl:us.length<=ZK):
  Rep G W O (H.set i us) fr h':=by
 obtain⟨m,c,led,r⟩:=r
 obtain⟨_,b,xs,j,h1,h2,h3⟩:=r.R.lists i vs e ea.2
 rw[ea.1]at h1
 cases h1
 have h2:=r.inLed i0 ea.1 h2
 have hN:=r.N _ h2
 have keep:∀q∈led,q.1≠a->h'.get? q.1=some q.2:=λq hq hn=>sb.extBut _ _ hn (r.N q hq).1
 refine r.changed (k:=k) i0 e ea ⟨r.F.ns.sameBut sb (Ne.symm hN.2.1),λb o eb=>sb.extBut b o (λq=>?_) (r.F.keep b o eb),r.F.above⟩ (λq hq=>?_) hv hl
 ·subst q
  rw[hN.2.2]at eb
  cases eb
 ·rcases Zz7.mp hq with e | hq
  ·subst e
   exact⟨ha,hN.2⟩
  ·obtain⟨h1,h2⟩:=List.mem_filter.mp hq
   exact⟨keep q h1 (by simpa using h2),(r.N q h1).2⟩
theorem Rep.swap{W:Wd}{fs':List (Addr×Obj)}(r:Rep G W O H (fs++fr) h)(ap:∀q∈fs,∀t∈fr,q.1≠t.1)(keep:∀b o,b∉fs.map (·.1)->h.get? b=some o->h'.get? b=some o)(new:∀q∈fs',h'.get? q.1=some q.2/\q.1∈fs.map (·.1)): Rep G W O H (fs'++fr) h':=by
 obtain⟨m,c,led,r⟩:=r
 have inF:∀q∈fs,q∈fs++fr:=λq hq=>Yy7 _ hq
 have nL:∀a∈fs.map (·.1),a≠G.L/\G.h₀.get? a=none:=λa ha=>by
  obtain⟨q,hq,e⟩:=Zz11.mp ha
  exact e▸(r.N q (r.frIn q (inF q hq))).2
 have kp:∀q∈led,q.1∉fs.map (·.1)->h'.get? q.1=some q.2:=λq hq hn=>keep _ _ hn (r.N q hq).1
 refine⟨m,c,fs'++led.filter (λq=>decide (q.1∉fs.map (·.1))),⟨⟨?_,λb o e=>?_,r.F.above⟩,λq hq=>?_,⟨r.R.len,r.R.nd,λi vs e ni=>?_,λq hq=>?_,r.R.kind,λi vs fn e hi=>?_,r.R.inlt,r.R.iuni⟩,r.sc,r.sc0,λq hq=>?_,λq hq=>?_,λq hq=>?_,r.clOff,λq hq t ht=>?_,λq hq t ht=>?_,r.clTup,r.own⟩⟩
 ·obtain⟨o,es,ep,h1,h2⟩:=r.F.ns
  exact⟨o,es,ep,keep _ _ (λq=>(nL _ q).1 rfl) h1,h2⟩
 ·refine keep b o (λq=>?_) (r.F.keep b o e)
  rw[(nL b q).2]at e
  cases e
 ·rcases Zz8.mp hq with hq | hq
  ·obtain⟨h1,h2⟩:=new q hq
   exact⟨h1,nL _ h2⟩
  ·obtain⟨h1,h2⟩:=List.mem_filter.mp hq
   exact⟨kp q h1 (by simpa using h2),(r.N q h1).2⟩
 ·obtain⟨l,a,xs,k,h1,h2,h3⟩:=r.R.lists i vs e ni
  refine⟨l,a,xs,k,h1,Zbe h2 λh2=>List.mem_append_right _ (Yy9.mpr ⟨h2,?_⟩),h3⟩
  have:a∉fs.map (·.1):=λq=>by
   obtain⟨t,ht,e⟩:=Zz11.mp q
   exact r.frOff t (inF t ht) (e▸Yy4 h1)
  simpa using this
 ·refine Zbe (r.R.tups q hq) λh2=>List.mem_append_right _ (Yy9.mpr ⟨h2,?_⟩)
  have:q.1∉fs.map (·.1):=λz=>by
   obtain⟨t,ht,e⟩:=Zz11.mp z
   exact r.frTup t (inF t ht) q hq e
  simpa using this
 ·obtain⟨l,a,od,xs,h1,h2,h3⟩:=r.R.objs i vs fn e hi
  refine⟨l,a,od,xs,h1,Zbe h2 λh2=>List.mem_append_right _ (Yy9.mpr ⟨h2,?_⟩),h3⟩
  have:a∉fs.map (·.1):=λq=>by
   obtain⟨t,ht,e⟩:=Zz11.mp q
   exact r.frOff t (inF t ht) (e▸Yy4 h1)
  simpa using this
 ·rcases Zz8.mp hq with hq | hq
  ·exact Zz4 _ hq
  ·refine Zz3 _ (Yy9.mpr ⟨r.frIn q (Zz3 _ hq),?_⟩)
   have:q.1∉fs.map (·.1):=λz=>by
    obtain⟨t,ht,e⟩:=Zz11.mp z
    exact ap t ht q hq e
   simpa using this
 ·rcases Zz8.mp hq with hq | hq
  ·obtain⟨t,ht,e⟩:=Zz11.mp (new q hq).2
   exact e▸r.frOff t (inF t ht)
  ·exact r.frOff q (Zz3 _ hq)
 ·refine Zz3 _ (Yy9.mpr ⟨r.clIn q hq,?_⟩)
  have:q.1∉fs.map (·.1):=λz=>by
   obtain⟨t,ht,e⟩:=Zz11.mp z
   exact r.apart q hq t (inF t ht) e.symm
  simpa using this
 ·rcases Zz8.mp ht with ht | ht
  ·obtain⟨u,hu,e⟩:=Zz11.mp (new t ht).2
   exact e▸r.apart q hq u (inF u hu)
  ·exact r.apart q hq t (Zz3 _ ht)
 ·rcases Zz8.mp hq with hq | hq
  ·obtain⟨u,hu,e⟩:=Zz11.mp (new q hq).2
   exact e▸r.frTup u (inF u hu) t ht
  ·exact r.frTup q (Zz3 _ hq) t ht
theorem Rep.more{W:Wd}(r:Rep G W O H fr h)(up:∀b o,h.get? b=some o->h'.get? b=some o)(new:∀q∈fs,h'.get? q.1=some q.2/\h.objs.size<=q.1): Rep G W O H (fs++fr) h'/\∀q∈fs,∀t∈fr,q.1≠t.1:=by
 have r':=r.grown up
 obtain⟨m,c,led,r⟩:=r
 have lt:∀q∈W.sc::led,q.1<h.objs.size:=λq hq=>Heap.lt_size (r.get hq)
 have ne:∀q∈fs,∀t∈W.sc::led,q.1≠t.1:=λq hq t ht=>Nat.ne_of_gt (Nat.lt_of_lt_of_le (lt t ht) (new q hq).2)
 refine⟨⟨m,c,fs++led,⟨⟨?_,λb o e=>up b o (r.F.keep b o e),r.F.above⟩,λq hq=>?_,r.R.mono λq hq=>Zcy hq λx hx=>List.mem_append_right _ hx,r.sc,r.sc0,λq hq=>?_,λq hq=>?_,λq hq=>List.mem_append_right _ (r.clIn q hq),r.clOff,λq hq t ht=>?_,λq hq t ht=>?_,r.clTup,r.own⟩⟩,λq hq t ht=>ne q hq t (Zz2 _ (r.frIn t ht))⟩
 ·obtain⟨o,es,ep,h1,h2⟩:=r.F.ns
  exact⟨o,es,ep,up _ _ h1,h2⟩
 ·rcases Zz8.mp hq with hq | hq
  ·obtain⟨h1,h2⟩:=new q hq
   refine⟨h1,λe=>?_,?_⟩
   ·exact absurd (e▸r.F.ns.lt) (Nat.not_lt.mpr h2)
   ·cases e:G.h₀.get? q.1 with
    | none=>rfl
    | some o=>exact absurd (Heap.lt_size (r.F.keep _ _ e)) (Nat.not_lt.mpr h2)
  ·exact⟨up _ _ (r.N q hq).1,(r.N q hq).2⟩
 ·rcases Zz8.mp hq with hq | hq
  ·exact Zz4 _ hq
  ·exact Zz3 _ (r.frIn q hq)
 ·rcases Zz8.mp hq with hq | hq
  ·intro hm
   obtain⟨o,ho⟩:=r.piIn _ hm
   exact ne q hq _ ho rfl
  ·exact r.frOff q hq
 ·rcases Zz8.mp ht with ht | ht
  ·exact(ne t ht q (Zz2 _ (r.clIn q hq))).symm
  ·exact r.apart q hq t ht
 ·rcases Zz8.mp hq with hq | hq
  ·exact ne q hq t (r.R.tups t ht)
  ·exact r.frTup q hq t ht
theorem Rep.less{W:Wd}(r:Rep G W O H fs h)(sub:∀q∈fr,q∈fs): Rep G W O H fr h:=by
 obtain⟨m,c,led,r⟩:=r
 exact⟨m,c,led,⟨r.F,r.N,r.R,r.sc,r.sc0,λq hq=>r.frIn q (sub q hq),λq hq=>r.frOff q (sub q hq),r.clIn,r.clOff,λq hq t ht=>r.apart q hq t (sub t ht),λq hq=>r.frTup q (sub q hq),r.clTup,r.own⟩⟩
theorem Rep.frAt{W:Wd}(r:Rep G W O H fr h)(hq:q∈fr): h.get? q.1=some q.2:=by
 obtain⟨m,c,led,r⟩:=r
 exact(r.N q (r.frIn q hq)).1
end PM
end
section
namespace PM
open PySem PyProof.Rows PyProof
variable{e1 e2 e:Expr}{op:CmpOp}{pos np:Pos}{o:V->V->Hp->Option (V×Hp)}{es:List Expr}{k:Int}{a ss:List Stmt}{O:Lc}{H:Hp}{fr:List (Addr×Obj)}{h:Heap}{v:Option V}{x y:Value}{vs:List V}{i:Nat}{r:Option V×Lc×Hp}{d:Type}{xs:List Value}{W':Wd}{s:Shared}{Q E:Value->Shared->Prop}{id:String}{st:Stmt}
variable{prog:Program}{w:World}{G:Cx}
abbrev Ex:=Lc->Hp->Option (V×Hp)
variable{f:Ex}
abbrev Exs:=Lc->Hp->Option (List V×Hp)
variable{g:Exs}
abbrev Ts:=Lc->Hp->Option (Bool×Hp)
variable{t u:Ts}
abbrev ZdP(G:Cx)(W:Wd)(O:Lc)(H:Hp)(fr:List (Addr×Obj))(s:Shared)(Q:Value->Shared->Prop)(v:V): Prop:=
 ∀(W':Wd) (h':Heap) (tk':Nat) (x:Value),W.Le W'->Rep G W' O H fr h'->VR W' v x->Q x { s with heap:=h',toks:=tk' }
abbrev Zf2(G:Cx)(W:Wd)(O:Lc)(H:Hp)(fr:List (Addr×Obj))(s:Shared)(Q:Bool->Shared->Prop)(b:Bool): Prop:=
 ∀(W':Wd) (h':Heap) (tk':Nat),W.Le W'->Rep G W' O H fr h'->Q b { s with heap:=h',toks:=tk' }
section
variable (prog:Program) (w:World)
def J(G:Cx)(e:Expr)(f:Ex): Prop:=∀(W:Wd) (O:Lc) (H:Hp) (fr:List (Addr×Obj)) (s:Shared) (Q E:Value->Shared->Prop) (v:V) (H':Hp),
 Rep G W O H fr s.heap->f O H=some (v,H')->ZdP G W O H' fr s Q v->wpAny (model prog w) G.A (eval e G.env) Q E s
def Js(G:Cx)(es:List Expr)(f:Exs): Prop:=∀(pos:Pos) (W:Wd) (O:Lc) (H:Hp) (fr:List (Addr×Obj)) (s:Shared) (Q:List Value->Shared->Prop) (E:Value->Shared->Prop) (vs:List V) (H':Hp),
 Rep G W O H fr s.heap->f O H=some (vs,H')->(∀(W':Wd) (h':Heap) (tk':Nat) (xs:List Value),W.Le W'->Rep G W' O H' fr h'->VRs W' vs xs->Q xs { s with heap:=h',toks:=tk' })->wpAny (model prog w) G.A (spliced (backTo pos (starEach es G.env))) Q E s
def JT(G:Cx)(e:Expr)(f:Ts): Prop:=∀(W:Wd) (O:Lc) (H:Hp) (fr:List (Addr×Obj)) (s:Shared) (Q:Bool->Shared->Prop) (E:Value->Shared->Prop) (b:Bool) (H':Hp),
 Rep G W O H fr s.heap->f O H=some (b,H')->Zf2 G W O H' fr s Q b->wpAny (model prog w) G.A (isTrue e G.env (eval e G.env)) Q E s
def Op2(m:Value->Value->Sem Value)(o:V->V->Hp->Option (V×Hp)): Prop:=∀(G:Cx) (W:Wd) (O:Lc) (H:Hp) (fr:List (Addr×Obj)) (s:Shared) (Q E:Value->Shared->Prop) (a b:V) (x y:Value) (v:V) (H':Hp),
 Rep G W O H fr s.heap->VR W a x->VR W b y->o a b H=some (v,H')->ZdP G W O H' fr s Q v->wpAny (model prog w) G.A (m x y) Q E s
def Op1(m:Value->Sem Value)(o:V->Hp->Option (V×Hp)): Prop:=∀(G:Cx) (W:Wd) (O:Lc) (H:Hp) (fr:List (Addr×Obj)) (s:Shared) (Q E:Value->Shared->Prop) (a:V) (x:Value) (v:V) (H':Hp),
 Rep G W O H fr s.heap->VR W a x->o a H=some (v,H')->ZdP G W O H' fr s Q v->wpAny (model prog w) G.A (m x) Q E s
def OpT(m:Value->Sem Bool)(o:V->Hp->Option Bool): Prop:=∀(G:Cx) (W:Wd) (O:Lc) (H:Hp) (fr:List (Addr×Obj)) (s:Shared) (Q:Bool->Shared->Prop) (E:Value->Shared->Prop) (a:V) (x:Value) (b:Bool),
 Rep G W O H fr s.heap->VR W a x->o a H=some b->Zf2 G W O H fr s Q b->wpAny (model prog w) G.A (m x) Q E s
end
noncomputable def Zd(k:Int): Ex:=λ_ H=>some (.int k,H)
noncomputable def Zat: Ex:=λ_ H=>some (.none,H)
noncomputable def ZaG(b:Bool): Ex:=λ_ H=>some (.bool b,H)
noncomputable def ZG(x:Str): Ex:=λ_ H=>some (.str x,H)
noncomputable def Za(i:Nat): Ex:=λO H=>(O i).map λv=>(v,H)
noncomputable def Zc(o:V->V->Hp->Option (V×Hp))(f g:Ex): Ex:=λO H=>(f O H).bind λp=>(g O p.2).bind λq=>o p.1 q.1 q.2
noncomputable def ZB(o:V->Hp->Option (V×Hp))(f:Ex): Ex:=λO H=>(f O H).bind λp=>o p.1 p.2
noncomputable def eIf(t:Ts)(f g:Ex): Ex:=λO H=>(t O H).bind λp=>if p.1 then f O p.2 else g O p.2
noncomputable def Ze: Exs:=λ_ H=>some ([],H)
noncomputable def Zb(f:Ex)(g:Exs): Exs:=λO H=>(f O H).bind λp=>(g O p.2).bind λq=>some (p.1::q.1,q.2)
def ZM(g:Exs): Ex:=λO H=>(g O H).bind λp=>if p.1.length<=ZK then some (.tup p.1,p.2)else none
def Zy(g:Exs): Ex:=λO H=>(g O H).bind λp=>if p.1.length<=ZK then some (.ref p.2.length,p.2++[p.1])else none
noncomputable def Zab: V->Hp->Option Bool
 | .bool b,_=>some b
 | .int i,_=>some (i != 0)
 | .none,_=>some false
 | _,_=>none
def Zl(f:Ex): Ts:=λO H=>(f O H).bind λp=>(Zab p.1 p.2).map λb=>(b,p.2)
noncomputable def Zbm(t:Ts): Ts:=λO H=>(t O H).map λp=>(!p.1,p.2)
noncomputable def ZD: Ts:=λ_ H=>some (true,H)
noncomputable def Zb2: Ts:=λ_ H=>some (false,H)
noncomputable def ZX(t u:Ts): Ts:=λO H=>(t O H).bind λp=>if p.1 then u O p.2 else some (false,p.2)
noncomputable def tOr(t u:Ts): Ts:=λO H=>(t O H).bind λp=>if p.1 then some (true,p.2)else u O p.2
noncomputable def tIf(t u v:Ts): Ts:=λO H=>(t O H).bind λp=>if p.1 then u O p.2 else v O p.2
def ZeG(f:Ex): Ex:=λO H=>(f O H).bind λp=>(Zab p.1 p.2).map λb=>(.bool (!b),p.2)
def Zcl(f g:Ex): Ex:=λO H=>(f O H).bind λp=>(Zab p.1 p.2).bind λb=>if b then g O p.2 else some p
def eOr(f g:Ex): Ex:=λO H=>(f O H).bind λp=>(Zab p.1 p.2).bind λb=>if b then some p else g O p.2
theorem J.int(k:Int)(n:Nat)(pos:Pos): J prog w G (.Constant (.int k) n pos) (Zd k):=λW O H fr s Q E v H' r e post=>by
 cases e
 exact wpAny_Constant_int (post W s.heap _ _ (.refl W) r (.int k _))
theorem J.none(n:Nat)(pos:Pos): J prog w G (.Constant .none n pos) Zat:=λW O H fr s Q E v H' r e post=>by
 cases e
 exact wpAny_Constant_none (post W s.heap s.toks _ (.refl W) r .none)
theorem J.bool(b:Bool)(n:Nat)(pos:Pos): J prog w G (.Constant (.bool b) n pos) (ZaG b):=λW O H fr s Q E v H' r e post=>by
 cases e
 exact wpAny_Constant_bool (post W s.heap s.toks _ (.refl W) r (.bool b))
theorem J.str(x:Str)(n:Nat)(pos:Pos): J prog w G (.Constant (.str x) n pos) (ZG x):=λW O H fr s Q E v H' r e post=>by
 cases e
 exact wpAny_Constant_str (post W s.heap _ _ (.refl W) r (.str x _))
theorem Zo{op:Operator}{g:Ex}(h1:J prog w G e1 f)(h2:J prog w G e2 g)(ho:Op2 prog w (binaryOp op) o): J prog w G (.BinOp e1 op e2 pos) (Zc o f g):=by
 intro W O H fr s Q E v H' r hf post
 obtain⟨p,e1,hf⟩:=Zz0.mp hf
 obtain⟨q,e2,e3⟩:=Zz0.mp hf
 refine wpAny_BinOp (h1 W O H fr s _ E _ _ r e1 λW1 k1 t1 x l1 r1 x1=>?_)
 refine h2 W1 O _ fr _ _ E _ _ r1 e2 λW2 k2 t2 y l2 r2 y2=>?_
 exact ho G W2 O _ fr _ Q E _ _ x y v H' r2 (x1.mono l2) y2 e3 λW3 k3 t3 z l3 r3 z3=>post W3 k3 t3 z ((l1.trans l2).trans l3) r3 z3
theorem Zbj{g:Ex}(h1:J prog w G e1 f)(h2:J prog w G e2 g)(ho:Op2 prog w (compareOp op) o)(hm:behindInMarks op e2=false:=by with_unfolding_all rfl): J prog w G (.Compare e1 [op] [e2] pos) (Zc o f g):=by
 intro W O H fr s Q E v H' r hf post
 obtain⟨p,e1,hf⟩:=Zz0.mp hf
 obtain⟨q,e2,e3⟩:=Zz0.mp hf
 refine wpAny_Compare1 (h1 W O H fr s _ E _ _ r e1 λW1 k1 t1 x l1 r1 x1=>?_) hm
 refine h2 W1 O _ fr _ _ E _ _ r1 e2 λW2 k2 t2 y l2 r2 y2=>?_
 exact ho G W2 O _ fr _ Q E _ _ x y v H' r2 (x1.mono l2) y2 e3 λW3 k3 t3 z l3 r3 z3=>post W3 k3 t3 z ((l1.trans l2).trans l3) r3 z3
theorem J.un{op:UnaryOp}{o:V->Hp->Option (V×Hp)}(h1:J prog w G e1 f)(ho:Op1 prog w (unaryOp op) o): J prog w G (.UnaryOp op e1 pos) (ZB o f):=by
 intro W O H fr s Q E v H' r hf post
 obtain⟨p,e1,hf⟩:=Zz0.mp hf
 refine wpAny_UnaryOp (h1 W O H fr s _ E _ _ r e1 λW1 k1 t1 x l1 r1 x1=>?_)
 exact ho G W1 O _ fr _ Q E _ x v H' r1 x1 hf λW3 k3 t3 z l3 r3 z3=>post W3 k3 t3 z (l1.trans l3) r3 z3
theorem truth: OpT prog w truthy Zab:=by
 intro G W O H fr s Q E a x b r hx ho post
 cases hx with
 | none=>cases ho;exact truthy_none (post W s.heap s.toks (.refl W) r)
 | bool c=>cases ho;exact λ_ _ _=>post W s.heap s.toks (.refl W) r
 | int i t=>cases ho;exact P.truthy_int (post W s.heap s.toks (.refl W) r)
 | str _ _=>first|exact Yx0 ho|cases ho
 | tup _ _ _=>first|exact Yx0 ho|cases ho
 | ref _=>first|exact Yx0 ho|cases ho
 | obj _ _ _ _=>first|exact Yx0 ho|cases ho
theorem Zk8(h1:J prog w G e1 f): J prog w G (.UnaryOp .Not e1 pos) (ZeG f):=by
 intro W O H fr s Q E v H' r hf post
 obtain⟨p,e1,hf⟩:=Zz0.mp hf
 obtain⟨b,e2,e3⟩:=Zz1.mp hf
 cases e3
 refine wpAny_UnaryOp (h1 W O H fr s _ E _ _ r e1 λW1 k1 t1 x l1 r1 x1=>?_)
 exact not_of (truth G W1 O _ fr _ _ E _ x b r1 x1 e2 λW2 k2 t2 l2 r2=>post W2 k2 t2 _ (l1.trans l2) r2 (.bool _))
theorem Zk9{g:Ex}(h1:J prog w G e1 f)(h2:J prog w G e2 g): J prog w G (.BoolOp .And [e1,e2] pos) (Zcl f g):=by
 intro W O H fr s Q E v H' r hf post
 obtain⟨p,e1,hf⟩:=Zz0.mp hf
 obtain⟨b,e2,e3⟩:=Zz0.mp hf
 refine wpAny_And2 (h1 W O H fr s _ E _ _ r e1 λW1 k1 t1 x l1 r1 x1=>?_)
 refine truth G W1 O _ fr _ _ E _ x b r1 x1 e2 λW2 k2 t2 l2 r2=>?_
 cases b with
 | true=>exact h2 W2 O _ fr _ Q E v H' r2 e3 λW3 k3 t3 z l3 r3 z3=>post W3 k3 t3 z ((l1.trans l2).trans l3) r3 z3
 | false=>
  cases e3
  exact post W2 k2 t2 x (l1.trans l2) r2 (x1.mono l2)
theorem Zb3: Js prog w G [] Ze:=λpos W O H fr s Q E vs H' r hf post=>by
 cases hf
 exact wpAny_items_nil (post W s.heap s.toks [] (.refl W) r .nil)
theorem ZnJ(h1:J prog w G e f)(h2:Js prog w G es g)(he:starEach (e::es) G.env=(false,eval e G.env)::starEach es G.env:=by rfl): Js prog w G (e::es) (Zb f g):=by
 intro pos W O H fr s Q E vs H' r hf post
 obtain⟨p,e1,hf⟩:=Zz0.mp hf
 obtain⟨q,e2,e3⟩:=Zz0.mp hf
 cases e3
 refine wpAny_items_cons (h1 W O H fr s _ E _ _ r e1 λW1 k1 t1 x l1 r1 x1=>?_) he
 exact h2 pos W1 O _ fr _ _ E _ _ r1 e2 λW2 k2 t2 ys l2 r2 y2=>post W2 k2 t2 _ (l1.trans l2) r2 (.cons (x1.mono l2) y2)
theorem J.tup{k:Nat}(h:Js prog w G es g): J prog w G (.Tuple es k pos) (ZM g):=by
 intro W O H fr s Q E v H' r hf post
 obtain⟨p,e1,hf⟩:=Zz0.mp hf
 by_cases hl:p.1.length<=ZK
 ·rw[if_pos hl]at hf
  cases hf
  refine wpAny_Tuple (h pos W O H fr s _ E _ _ r e1 λW1 k1 t1 xs l1 r1 x1=>⟨Zbr (by rw[x1.length];exact hl),?_⟩)
  obtain⟨W2,l2,r2,v2⟩:=r1.tuple (k:=0) x1 hl
  exact post W2 _ _ _ (l1.trans l2) r2 v2
 ·rw[if_neg hl]at hf
  cases hf
theorem J.list(h:Js prog w G es g): J prog w G (.List es pos) (Zy g):=by
 intro W O H fr s Q E v H' r hf post
 obtain⟨p,e1,hf⟩:=Zz0.mp hf
 by_cases hl:p.1.length<=ZK
 ·rw[if_pos hl]at hf
  cases hf
  refine wpAny_List (h pos W O H fr s _ E _ _ r e1 λW1 k1 t1 xs l1 r1 x1=>⟨Zbr (by rw[x1.length];exact hl),?_⟩)
  obtain⟨W2,l2,r2,v2⟩:=r1.list (k:=0) x1 hl
  exact post W2 _ _ _ (l1.trans l2) r2 v2
 ·rw[if_neg hl]at hf
  cases hf
theorem ZhQ(h:JT prog w G e t): JT prog w G (.UnaryOp .Not e pos) (Zbm t):=by
 intro W O H fr s Q E b H' r hf post
 obtain⟨p,e1,e2⟩:=Zz1.mp hf
 cases e2
 exact isTrue_not (h W O H fr s _ E _ _ r e1 post)
def JA(prog:Program)(w:World)(G:Cx)(op:BoolOp)(es:List Expr)(f:Ts): Prop:=∀(W:Wd) (O:Lc) (H:Hp) (fr:List (Addr×Obj)) (s:Shared) (Q:Bool->Shared->Prop) (E:Value->Shared->Prop) (b:Bool) (H':Hp),
 Rep G W O H fr s.heap->f O H=some (b,H')->Zf2 G W O H' fr s Q b->wpAny (model prog w) G.A (allTrue op es G.env) Q E s
theorem Za5: JA prog w G .And [] ZD:=λW O H fr s Q E b H' r hf post=>by
 cases hf
 exact wpAny_allTrue_And_nil (post W s.heap s.toks (.refl W) r)
theorem Zhh: JA prog w G .Or [] Zb2:=λW O H fr s Q E b H' r hf post=>by
 cases hf
 exact wpAny_allTrue_Or_nil (post W s.heap s.toks (.refl W) r)
theorem Zaf(h1:JT prog w G e t)(h2:JA prog w G .And es u): JA prog w G .And (e::es) (ZX t u):=by
 intro W O H fr s Q E b H' r hf post
 obtain⟨p,e1,hf⟩:=Zz0.mp hf
 refine wpAny_allTrue_And_cons (h1 W O H fr s _ E _ _ r e1 λW1 k1 t1 l1 r1=>?_)
 obtain⟨c,H1⟩:=p
 cases c with
 | true=>exact h2 W1 O _ fr _ Q E b H' r1 hf λW3 k3 t3 l3 r3=>post W3 k3 t3 (l1.trans l3) r3
 | false=>
  cases hf
  exact post W1 k1 t1 l1 r1
theorem Zc4(h1:JT prog w G e t)(h2:JA prog w G .Or es u): JA prog w G .Or (e::es) (tOr t u):=by
 intro W O H fr s Q E b H' r hf post
 obtain⟨p,e1,hf⟩:=Zz0.mp hf
 refine wpAny_allTrue_Or_cons (h1 W O H fr s _ E _ _ r e1 λW1 k1 t1 l1 r1=>?_)
 obtain⟨c,H1⟩:=p
 cases c with
 | false=>exact h2 W1 O _ fr _ Q E b H' r1 hf λW3 k3 t3 l3 r3=>post W3 k3 t3 (l1.trans l3) r3
 | true=>
  cases hf
  exact post W1 k1 t1 l1 r1
theorem ZaT{op:BoolOp}(h:JA prog w G op es t): JT prog w G (.BoolOp op es pos) t:=λW O H fr s Q E b H' r hf post=>wpAny_isTrue_BoolOp (h W O H fr s Q E b H' r hf post)
theorem JT.val(h:J prog w G e f)(he:isTrue e G.env (eval e G.env)=(do let v <-eval e G.env;standAt e.pos;holding [v] (truthy v)):=by rfl): JT prog w G e (Zl f):=by
 intro W O H fr s Q E b H' r hf post
 obtain⟨p,e1,hf⟩:=Zz0.mp hf
 obtain⟨c,e2,e3⟩:=Zz1.mp hf
 cases e3
 refine isTrue_plain (h W O H fr s _ E _ _ r e1 λW1 k1 t1 x l1 r1 x1=>?_) he
 exact truth G W1 O _ fr _ _ E _ x b r1 x1 e2 λW2 k2 t2 l2 r2=>post W2 k2 t2 (l1.trans l2) r2
theorem Zv{g:Ex}(h1:J prog w G e1 f)(h2:J prog w G e2 g)(ho:Op2 prog w (compareOp op) o)(hm:behindInMarks op e2=false:=by with_unfolding_all rfl): JT prog w G (.Compare e1 [op] [e2] pos) (Zl (Zc o f g)):=by
 intro W O H fr s Q E b H' r hf post
 obtain⟨pp,e0,hf0⟩:=Zz0.mp hf
 obtain⟨c,e4,e5⟩:=Zz1.mp hf0
 cases e5
 obtain⟨p,e1,hf⟩:=Zz0.mp e0
 obtain⟨q,e2,e3⟩:=Zz0.mp hf
 refine wpAny_isTrue_Compare1 (h1 W O H fr s _ E _ _ r e1 λW1 k1 t1 x l1 r1 x1=>?_) hm
 refine h2 W1 O _ fr _ _ E _ _ r1 e2 λW2 k2 t2 y l2 r2 y2=>?_
 refine ho G W2 O _ fr _ _ E _ _ x y _ _ r2 (x1.mono l2) y2 e3 λW3 k3 t3 z l3 r3 z3=>?_
 exact truth G W3 O _ fr _ _ E _ z b r3 z3 e4 λW4 k4 t4 l4 r4=>post W4 k4 t4 (((l1.trans l2).trans l3).trans l4) r4
noncomputable def Zci(a b:Int): Bool:=!(decide (Builtin.Int.intBits a>shortFactorBits) && decide (Builtin.Int.intBits b>shortFactorBits) && Builtin.Int.intTooBig (Builtin.Int.intBits a+Builtin.Int.intBits b))
theorem Zm0{a b:Int}(h:Zci a b=true): IntMulOk a b:=by
 unfold Zci at h
 unfold IntMulOk
 intro c
 rw[c]at h
 cases h
noncomputable def Zaj: V->V->Hp->Option (V×Hp)
 | .int a,.int b,H=>some (.int (a-b),H)
 | _,_,_=>none
noncomputable def Zcm: V->V->Hp->Option (V×Hp)
 | .int a,.int b,H=>if b≠0/\Builtin.divisionGoesByPylong a b=false then some (.int (a.fdiv b),H)else none
 | _,_,_=>none
noncomputable def ZbU: V->V->Hp->Option (V×Hp)
 | .int a,.int b,H=>if b≠0 then some (.int (a.fmod b),H)else none
 | _,_,_=>none
noncomputable def Za9: V->V->Hp->Option (V×Hp)
 | .int a,.int b,H=>if 0<=b/\(Builtin.Int.intBits a:Int)*b<=2 ^ 27 then some (.int (a ^ b.toNat),H)else none
 | _,_,_=>none
noncomputable def Zax: V->Hp->Option (V×Hp)
 | .int a,H=>some (.int (-a),H)
 | _,_=>none
noncomputable def Zge(p:Int->Int->Bool): V->V->Hp->Option (V×Hp)
 | .int a,.int b,H=>some (.bool (p a b),H)
 | _,_,_=>none
def oLt:=Zge λa b=>decide (a<b)
def oLe:=Zge λa b=>decide (a<=b)
def oGt:=Zge λa b=>decide (b<a)
def oGe:=Zge λa b=>decide (b<=a)
theorem Zaw: Op2 prog w (binaryOp .Sub) Zaj:=by
 intro G W O H fr s Q E a b x y v H' r hx hy ho post
 cases hx <;> first|exact Yx0 ho|(cases ho;done)| skip
 cases hy <;> first|exact Yx0 ho|(cases ho;done)| skip
 cases ho
 exact PySem.P.sub_int (post W s.heap _ _ (.refl W) r (.int _ _))
theorem ZcM: Op2 prog w (binaryOp .Mod) ZbU:=by
 intro G W O H fr s Q E a b x y v H' r hx hy ho post
 cases hx <;> first|exact Yx0 ho|(cases ho;done)| skip
 cases hy <;> first|exact Yx0 ho|(cases ho;done)| skip
 rename_i i t j u
 simp only[ZbU]at ho
 by_cases hb:j≠0
 ·rw[if_pos hb]at ho
  cases ho
  exact mod_int' hb (post W s.heap _ _ (.refl W) r (.int _ _))
 ·rw[if_neg hb]at ho
  cases ho
theorem ZhR: Op2 prog w (binaryOp .FloorDiv) Zcm:=by
 intro G W O H fr s Q E a b x y v H' r hx hy ho post
 cases hx <;> first|exact Yx0 ho|(cases ho;done)| skip
 cases hy <;> first|exact Yx0 ho|(cases ho;done)| skip
 rename_i i t j u
 simp only[Zcm]at ho
 by_cases hb:j≠0/\Builtin.divisionGoesByPylong i j=false
 ·rw[if_pos hb]at ho
  cases ho
  exact floordiv_int hb.1 (post W s.heap _ _ (.refl W) r (.int _ _)) (.inl hb.2)
 ·rw[if_neg hb]at ho
  cases ho
theorem ZcN: Op2 prog w (binaryOp .Pow) Za9:=by
 intro G W O H fr s Q E a b x y v H' r hx hy ho post
 cases hx <;> first|exact Yx0 ho|(cases ho;done)| skip
 cases hy <;> first|exact Yx0 ho|(cases ho;done)| skip
 rename_i i t j u
 simp only[Za9]at ho
 by_cases hb:0<=j/\(Builtin.Int.intBits i:Int)*j<=2 ^ 27
 ·rw[if_pos hb]at ho
  cases ho
  exact pow_int hb.1 hb.2 (post W s.heap _ _ (.refl W) r (.int _ _))
 ·rw[if_neg hb]at ho
  cases ho
theorem ok_neg: Op1 prog w (unaryOp .USub) Zax:=by
 intro G W O H fr s Q E a x v H' r hx ho post
 cases hx <;> first|exact Yx0 ho|(cases ho;done)| skip
 cases ho
 exact PySem.P.neg_int (post W s.heap _ _ (.refl W) r (.int _ _))
theorem Zcz: Op2 prog w (compareOp .Lt) oLt:=by
 intro G W O H fr s Q E a b x y v H' r hx hy ho post
 cases hx <;> first|exact Yx0 ho|(cases ho;done)| skip
 cases hy <;> first|exact Yx0 ho|(cases ho;done)| skip
 cases ho
 exact PySem.P.lt_int (post W s.heap s.toks _ (.refl W) r (.bool _))
theorem Zla: Op2 prog w (compareOp .LtE) oLe:=by
 intro G W O H fr s Q E a b x y v H' r hx hy ho post
 cases hx <;> first|exact Yx0 ho|(cases ho;done)| skip
 cases hy <;> first|exact Yx0 ho|(cases ho;done)| skip
 cases ho
 exact PySem.P.le_int (post W s.heap s.toks _ (.refl W) r (.bool _))
theorem ZbB: Op2 prog w (compareOp .Gt) oGt:=by
 intro G W O H fr s Q E a b x y v H' r hx hy ho post
 cases hx <;> first|exact Yx0 ho|(cases ho;done)| skip
 cases hy <;> first|exact Yx0 ho|(cases ho;done)| skip
 cases ho
 exact PySem.P.gt_int (post W s.heap s.toks _ (.refl W) r (.bool _))
noncomputable def ZcT(f:V->Option PyData): List V->Option (List PyData)
 | []=>some []
 | v::vs=>(f v).bind λd=>(ZcT f vs).bind λds=>some (d::ds)
def toD(H:Hp): Nat->V->Option PyData
 | _,.none=>some .none
 | _,.bool b=>some (.bool b)
 | _,.int i=>some (.int i)
 | _,.str x=>some (.str x)
 | n+1,.tup vs=>(ZcT (toD H n) vs).map .tuple
 | n+1,.ref a=>H[a]?.bind λvs=>(ZcT (toD H n) vs).map .list
 | 0,.tup _=>none
 | 0,.ref _=>none
 | _,.obj _ _=>none
theorem ZgZ{W:Wd}{h:Heap}{f:V->Option PyData}(ih:∀v x d,VR W v x->f v=some d->∃as,Reads h x d as): ∀{vs:List V} {xs:List Value} {ds:List PyData},VRs W vs xs->ZcT f vs=some ds->∃as,ReadsAll h xs ds as
 | _,_,_,.nil,e=>by
  cases e
  exact⟨_,.nil⟩
 | _,_,_,.cons a r,e=>by
  obtain⟨d,e1,e⟩:=Zz0.mp e
  obtain⟨ds,e2,e3⟩:=Zz0.mp e
  cases e3
  obtain⟨as,h1⟩:=ih _ _ _ a e1
  obtain⟨bs,h2⟩:=ZgZ ih r e2
  exact⟨_,.cons h1 h2⟩
theorem Zdr{W:Wd}(r:Rep G W O H fr h): ∀(n:Nat) (v:V) (x:Value) (d:PyData),VR W v x->toD H n v=some d->∃as,Reads h x d as:=by
 intro n
 induction n with
 | zero=>
  intro v x d hv e
  cases hv with
  | none=>cases e;exact⟨_,.none⟩
  | bool b=>cases e;exact⟨_,.bool b⟩
  | int i t=>cases e;exact⟨_,.int i t⟩
  | str y t=>cases e;exact⟨_,.str y t⟩
  | tup _ _ _=>first|exact Yx0 e|cases e
  | ref _=>first|exact Yx0 e|cases e
  | obj _ _ _ _=>first|exact Yx0 e|cases e
 | succ n ih=>
  intro v x d hv e
  cases hv with
  | none=>cases e;exact⟨_,.none⟩
  | bool b=>cases e;exact⟨_,.bool b⟩
  | int i t=>cases e;exact⟨_,.int i t⟩
  | str y t=>cases e;exact⟨_,.str y t⟩
  | @tup vs a xs k hm hl hs=>
   obtain⟨ds,e1,e2⟩:=Zz1.mp e
   subst e2
   obtain⟨as,h1⟩:=ZgZ ih hs e1
   exact⟨_,.tuple (r.tupAt hm) rfl rfl (by simpa using h1)⟩
  | @ref i a ea=>
   obtain⟨vs,e0,e⟩:=Zz0.mp e
   obtain⟨ds,e1,e2⟩:=Zz1.mp e
   subst e2
   obtain⟨hl,xs,k,hg,hs⟩:=r.at e0 ea
   obtain⟨as,h1⟩:=ZgZ ih hs e1
   exact⟨_,.list hg rfl rfl (by simpa using h1)⟩
  | obj _ _ _ _=>first|exact Yx0 e|cases e
noncomputable def ZaM: Nat:=40
def ZbE(a b:V)(H:Hp): Option Bool:=(toD H ZaM a).bind λd=>(toD H ZaM b).bind λe=>if SeqAt.shaped d=true/\SeqAt.shaped e=true then some (PyData.eqv d e)else none
def Zx(a b:V)(H:Hp): Option (V×Hp):=(ZbE a b H).map λc=>(.bool c,H)
def oNe(a b:V)(H:Hp): Option (V×Hp):=(ZbE a b H).map λc=>(.bool (!c),H)
noncomputable def isN: V->Bool
 | .none=>true
 | _=>false
noncomputable def oIs(a b:V)(H:Hp): Option (V×Hp):=if isN b=true then some (.bool (isN a),H)else none
noncomputable def Za6(a b:V)(H:Hp): Option (V×Hp):=if isN b=true then some (.bool (!isN a),H)else none
theorem VR.isN{W:Wd}{v:V}(r:VR W v x): (x == .none)=PM.isN v:=by
 cases r <;> rfl
theorem VR.noneV{W:Wd}{v:V}(r:VR W v x)(h:PM.isN v=true): x=.none:=by
 rw[<-r.isN]at h
 simpa using h
theorem ZQ: Op2 prog w (compareOp .Eq) Zx:=by
 intro G W O H fr s Q E a b x y v H' r hx hy ho post
 obtain⟨c,e1,e2⟩:=Zz1.mp ho
 cases e2
 obtain⟨d,h1,e1⟩:=Zz0.mp e1
 obtain⟨e,h2,e1⟩:=Zz0.mp e1
 by_cases hs:SeqAt.shaped d=true/\SeqAt.shaped e=true
 ·rw[if_pos hs]at e1
  cases e1
  obtain⟨as,R1⟩:=Zdr r ZaM a x d hx h1
  obtain⟨bs,R2⟩:=Zdr r ZaM b y e hy h2
  exact eq_dataH R1 R2 hs.1 hs.2 (by have:=G.hu;lia) (post W s.heap s.toks _ (.refl W) r (.bool _))
 ·rw[if_neg hs]at e1
  cases e1
theorem ZdI: Op2 prog w (compareOp .NotEq) oNe:=by
 intro G W O H fr s Q E a b x y v H' r hx hy ho post
 obtain⟨c,e1,e2⟩:=Zz1.mp ho
 cases e2
 obtain⟨d,h1,e1⟩:=Zz0.mp e1
 obtain⟨e,h2,e1⟩:=Zz0.mp e1
 by_cases hs:SeqAt.shaped d=true/\SeqAt.shaped e=true
 ·rw[if_pos hs]at e1
  cases e1
  obtain⟨as,R1⟩:=Zdr r ZaM a x d hx h1
  obtain⟨bs,R2⟩:=Zdr r ZaM b y e hy h2
  exact ne_dataH R1 R2 hs.1 hs.2 (by have:=G.hu;omega) (post W s.heap s.toks _ (.refl W) r (.bool _))
 ·rw[if_neg hs]at e1
  cases e1
theorem Zey: Op2 prog w (compareOp .Is) oIs:=by
 intro G W O H fr s Q E a b x y v H' r hx hy ho post
 unfold oIs at ho
 split at ho
 case isFalse=>first|exact Yx0 ho|cases ho
 rename_i hb
 cases ho
 rw[hy.noneV hb]
 exact PySem.is_none (by rw[hx.isN];exact post W s.heap s.toks _ (.refl W) r (.bool _))
theorem Zdu: Op2 prog w (compareOp .IsNot) Za6:=by
 intro G W O H fr s Q E a b x y v H' r hx hy ho post
 unfold Za6 at ho
 split at ho
 case isFalse=>first|exact Yx0 ho|cases ho
 rename_i hb
 cases ho
 rw[hy.noneV hb]
 exact PySem.isNot_none (by rw[hx.isN];exact post W s.heap s.toks _ (.refl W) r (.bool _))
noncomputable def Zf: V->V->Hp->Option (V×Hp)
 | .ref a,.int k,H=>H[a]?.bind λvs=>(seqIndex? k vs.length).bind λj=>vs[j]?.map λv=>(v,H)
 | .tup vs,.int k,H=>(seqIndex? k vs.length).bind λj=>vs[j]?.map λv=>(v,H)
 | _,_,_=>none
theorem Ziw{n j:Nat}(h:seqIndex? k n=some j): j<n/\(k:Int)<n/\-(n:Int)<=k/\(0<=k->k.toNat=j)/\(k<0->(k+n).toNat=j):=by
 unfold seqIndex? at h
 by_cases c:k<0
 ·simp only[c,if_true]at h
  split at h
  ·rename_i d
   simp at d h
   lia
  ·first|exact Yx0 h|cases h
 ·simp only[c,if_false]at h
  split at h
  ·rename_i d
   simp at d h
   lia
  ·first|exact Yx0 h|cases h
theorem VR.iint{W:Wd}(r:VR W (.int k) y): ∃t,y=.int k t:=by
 cases r
 exact⟨_,rfl⟩
theorem VR.itup{W:Wd}(r:VR W (.tup vs) y): ∃a xs k,y=.ref a/\(a,Zck xs k)∈W.tups/\vs.length<=ZK/\VRs W vs xs:=by
 cases r with
 | tup h1 h2 h3=>exact⟨_,_,_,rfl,h1,h2,h3⟩
theorem VR.iref{W:Wd}(r:VR W (.ref i) y): ∃a,y=.ref a/\W.At i a:=by
 cases r with
 | ref h=>exact⟨_,rfl,h⟩
theorem Zm1{v1 v2:V}{r:V×Hp}(e:Zf v1 v2 H=some r): ∃k,v2=.int k/\((∃vs,v1=.tup vs)∨∃a,v1=.ref a):=by
 cases v1 with
 | tup vs=>
  cases v2 with
  | int k=>exact⟨k,rfl,.inl ⟨_,rfl⟩⟩
  | _=>first|exact Yx0 e|cases e
 | ref a=>
  cases v2 with
  | int k=>exact⟨k,rfl,.inr ⟨_,rfl⟩⟩
  | _=>first|exact Yx0 e|cases e
 | _=>first|exact Yx0 e|cases e
theorem Zj{g:Ex}(h1:J prog w G e1 f)(h2:J prog w G e2 g)(hs:∀a k u,subscripted e2 false (.ref a) (.int k u)=operate [.ref a,.int k u] (getItem (.ref a) (.int k u)):=by intros;with_unfolding_all rfl): J prog w G (.Subscript e1 e2 pos) (Zc Zf f g):=by
 intro W O H fr s Q E v H' r hf post
 obtain⟨p,e1,hf⟩:=Zz0.mp hf
 obtain⟨q,e2,e3⟩:=Zz0.mp hf
 refine Subscript_ (h1 W O H fr s _ E _ _ r e1 λW1 k1 t1 x l1 r1 x1=>?_)
 refine h2 W1 O _ fr _ _ E _ _ r1 e2 λW2 k2 t2 y l2 r2 y2=>?_
 have x2:=x1.mono l2
 obtain⟨v1,H1⟩:=p
 obtain⟨v2,H2⟩:=q
 obtain⟨k,rfl,h⟩:=Zm1 e3
 obtain⟨u,rfl⟩:=y2.iint
 rcases h with⟨vs,rfl⟩ | ⟨i,rfl⟩
 ·obtain⟨a,xs,kk,rfl,hm,hl,hv⟩:=x2.itup
  obtain⟨j,hj,e4⟩:=Zz0.mp e3
  obtain⟨z,hz,e5⟩:=Zz1.mp e4
  cases e5
  obtain⟨z',hz',rz⟩:=hv.at hz
  have hx:xs.length=vs.length:=hv.length
  have hb:=Ziw hj
  rw[ZC]at hl
  have it:IsTup k2 a xs.toArray:=⟨_,r2.tupAt hm,rfl,kk,rfl⟩
  exact item_tupleT it .l .l (by rw[hx];exact hj) hz' (post W2 k2 t2 z' (l1.trans l2) r2 rz) (hs _ _ _)
 ·obtain⟨a,rfl,ea⟩:=x2.iref
  obtain⟨vs,hvs,e3⟩:=Zz0.mp e3
  obtain⟨j,hj,e4⟩:=Zz0.mp e3
  obtain⟨z,hz,e5⟩:=Zz1.mp e4
  cases e5
  obtain⟨hl,xs,kk,hg,hv⟩:=r2.at hvs ea
  obtain⟨z',hz',rz⟩:=hv.at hz
  have hx:xs.length=vs.length:=hv.length
  have hb:=Ziw hj
  rw[ZC]at hl
  have isl:k2.IsList a xs.toArray:=⟨_,hg,rfl,kk,rfl⟩
  refine tail_any (s:={ s with heap:=k2,toks:=t2 }) isl.typeIs slot_list_getitem.lookup ?_ (hs _ _ _)
  by_cases hk:0<=k
  ·exact wpAny_getItem_list isl hk .l (by rw[hb.2.2.2.1 hk];simpa using hz') (post W2 k2 t2 z' (l1.trans l2) r2 rz)
  ·refine wpAny_getItem_list_neg isl .l (by simp;lia) .l ?_ (post W2 k2 t2 z' (l1.trans l2) r2 rz)
   have:=hb.2.2.2.2 .o
   rw[<-hx]at this
   simpa [this]using hz'
noncomputable def ZaU(vs:List d)(lo hi:Option Int): List d:=(sliceRange (sliceBounds lo hi none vs.length).1 (sliceBounds lo hi none vs.length).2.1 (sliceBounds lo hi none vs.length).2.2).filterMap λi=>vs[i]?
theorem VRs.pick{W:Wd}(h:VRs W vs xs)(l:List Nat): VRs W (l.filterMap λi=>vs[i]?) (l.filterMap λi=>xs[i]?):=by
 induction l with
 | nil=>exact .nil
 | cons i l ih=>
  simp only[List.filterMap_cons]
  have hl:=h.length
  cases e:vs[i]? with
  | none=>
   have:xs[i]?=none:=by rw[List.getElem?_eq_none_iff]at e ⊢;lia
   rw[this]
   exact ih
  | some v=>
   obtain⟨x,hx,hr⟩:=h.at e
   rw[hx]
   exact .cons hr ih
theorem Zi3(vs:List d)(lo hi:Option Int): (ZaU vs lo hi).length<=vs.length:=by
 unfold ZaU
 refine Nat.le_trans (List.length_filterMap_le _ _) ?_
 refine sliceRange_length_le _ _ _ _ (λ_=>?_) λc=>?_
 ·unfold sliceBounds
  cases lo <;> cases hi <;> simp <;> omega
 ·exact absurd (by unfold sliceBounds;simp) c
theorem Zi4(vs:List d)(a:Nat): ∀m:Nat,a+m<=vs.length->((List.range m).map λk=>a+k).filterMap (λi=>vs[i]?)=(vs.drop a).take m:=by
 intro m
 induction m with
 | zero=>intro _;simp
 | succ m ih=>
  intro h
  rw[List.range_succ,List.map_append,List.filterMap_append,ih .l,List.take_add_one]
  congr 1
  simp only[List.map_cons,List.map_nil,List.filterMap_cons,List.filterMap_nil,List.getElem?_drop]
  cases e:vs[a+m]? with
  | none=>rw[List.getElem?_eq_none_iff]at e;lia
  | some v=>rfl
theorem Zc9(vs:List d)(lo hi:Option Int){a b:Nat}(ha:(sliceBounds lo hi none vs.length).1=(a:Int))(hb:(sliceBounds lo hi none vs.length).2.1=(b:Int))(h:b<=vs.length): ZaU vs lo hi=(vs.drop a).take (b-a):=by
 have hc:(sliceBounds lo hi none vs.length).2.2=1:=by unfold sliceBounds;rfl
 unfold ZaU
 rw[ha,hb,hc]
 have e:sliceRange (a:Int) (b:Int) 1=(List.range (b-a)).map λk=>a+k:=by
  unfold sliceRange
  simp only[show(1:Int)>0 from by decide,if_true]
  by_cases c:(a:Int)<b
  ·rw[if_pos c]
   have:((b:Int)-a+1-1) / 1=((b-a:Nat):Int):=by lia
   rw[this]
   simp only[Int.toNat_natCast]
   refine List.map_congr_left λk _=>?_
   lia
  ·rw[if_neg c]
   have:b-a=0:=by lia
   rw[this]
   rfl
 rw[e]
 by_cases c:a<=b
 ·exact Zi4 vs a (b-a) .l
 ·have:b-a=0:=by lia
  rw[this]
  simp
theorem Zmo(vs:List d){a:Nat}(e:k=(a:Int)): ZaU vs (some k) none=vs.drop a:=by
 by_cases h:a<=vs.length
 ·rw[Zc9 vs (some k) none (a:=a) (b:=vs.length) (by unfold sliceBounds;simp;lia) (by unfold sliceBounds;simp) (Zz10 _)]
  rw[List.take_of_length_le .s]
 ·rw[Zc9 vs (some k) none (a:=vs.length) (b:=vs.length) (by unfold sliceBounds;simp;lia) (by unfold sliceBounds;simp) (Zz10 _)]
  simp
  lia
theorem ZnK(vs:List d){a:Nat}(e:k=(a:Int)): ZaU vs none (some k)=vs.take a:=by
 by_cases h:a<=vs.length
 ·rw[Zc9 vs none (some k) (a:=0) (b:=a) (by unfold sliceBounds;simp) (by unfold sliceBounds;simp;omega) h]
  simp
 ·rw[Zc9 vs none (some k) (a:=0) (b:=vs.length) (by unfold sliceBounds;simp) (by unfold sliceBounds;simp;omega) (Zz10 _)]
  rw[List.drop_zero,Nat.sub_zero,List.take_of_length_le (Zz10 _),List.take_of_length_le .o]
noncomputable def Zdl: Option V->Option (Option Int)
 | none=>some none
 | some (.int k)=>some (some k)
 | _=>none
abbrev Pt:=Lc->Hp->Option (Option V×Hp)
noncomputable def Zau: Pt:=λ_ H=>some (none,H)
noncomputable def Zae(f:Ex): Pt:=λO H=>(f O H).map λp=>(some p.1,p.2)
def Zag(f:Ex)(lo hi:Pt): Ex:=λO H=>(f O H).bind λp=>(lo O p.2).bind λq=>(hi O q.2).bind λu=>(Zdl q.1).bind λa=>(Zdl u.1).bind λb=>match p.1 with
 | .ref i=>u.2[i]?.bind λvs=>some (.ref u.2.length,u.2++[ZaU vs a b])
 | _=>none
inductive VP(W:Wd): Option V->Value->Prop where
 | none:VP W none .none
 | some {v:V} {x:Value}:VR W v x->VP W (some v) x
theorem VP.mono{W:Wd}(l:W.Le W')(h:VP W v x): VP W' v x:=by
 cases h with
 | none=>exact .none
 | some h=>exact .some (h.mono l)
theorem VP.part{W:Wd}{k:Option Int}(h:VP W v x)(e:Zdl v=Option.some k): IsPart x k:=by
 cases h with
 | none=>cases e;exact .none
 | some h=>cases h <;> cases e;exact .int _ _
def JP(prog:Program)(w:World)(G:Cx)(e:Option Expr)(f:Pt): Prop:=∀(W:Wd) (O:Lc) (H:Hp) (fr:List (Addr×Obj)) (s:Shared) (Q E:Value->Shared->Prop) (v:Option V) (H':Hp),
 Rep G W O H fr s.heap->f O H=some (v,H')->(∀(W':Wd) (h':Heap) (tk':Nat) (x:Value),W.Le W'->Rep G W' O H' fr h'->VP W' v x->Q x { s with heap:=h',toks:=tk' })->wpAny (model prog w) G.A (evalPart e G.env) Q E s
theorem JP.none: JP prog w G none Zau:=λW O H fr s Q E v H' r hf post=>by
 cases hf
 exact wpAny_evalPart_none (post W s.heap s.toks _ (.refl W) r .none)
theorem JP.some(h:J prog w G e f): JP prog w G (some e) (Zae f):=λW O H fr s Q E v H' r hf post=>by
 obtain⟨p,e1,e2⟩:=Zz1.mp hf
 cases e2
 exact wpAny_evalPart_some (h W O H fr s _ E _ _ r e1 λW1 k1 t1 x l1 r1 x1=>post W1 k1 t1 x l1 r1 (.some x1))
theorem ZbZ{lo hi:Option Expr}{p:Pos}{a b:Pt}(h:J prog w G e f)(hlo:JP prog w G lo a)(hhi:JP prog w G hi b)(ht:∀o r,letTemporaryGo e o r=pure ():=by intro _ _;rfl): J prog w G (.Subscript e (.Slice lo hi Option.none p) pos) (Zag f a b):=by
 intro W O H fr s Q E v H' r hf post
 obtain⟨p,e1,hf⟩:=Zz0.mp hf
 obtain⟨q,e2,hf⟩:=Zz0.mp hf
 obtain⟨u,e3,hf⟩:=Zz0.mp hf
 obtain⟨ka,e4,hf⟩:=Zz0.mp hf
 obtain⟨kb,e5,hf⟩:=Zz0.mp hf
 refine wpAny_Subscript_list_slice (h W O H fr s _ E _ _ r e1 λW1 k1 t1 x l1 r1 x1=>?_) ht
 refine hlo W1 O _ fr _ _ E _ _ r1 e2 λW2 k2 t2 y l2 r2 y2=>?_
 refine hhi W2 O _ fr _ _ E _ _ r2 e3 λW3 k3 t3 z l3 r3 z3=>?_
 have x3:=x1.mono (l2.trans l3)
 obtain⟨v1,H1⟩:=p
 simp only at hf x3
 cases x3 with
 | none=>first|exact Yx0 hf|cases hf
 | bool _=>first|exact Yx0 hf|cases hf
 | int _ _=>first|exact Yx0 hf|cases hf
 | str _ _=>first|exact Yx0 hf|cases hf
 | tup _ _ _=>first|exact Yx0 hf|cases hf
 | obj _ _ _ _=>first|exact Yx0 hf|cases hf
 | @ref i a ea=>
  obtain⟨vs,hvs,e6⟩:=Zz0.mp hf
  cases e6
  obtain⟨hl,xs,kk,hg,hv⟩:=r3.at hvs ea
  have isl:k3.IsList a xs.toArray:=⟨_,hg,rfl,kk,rfl⟩
  refine⟨a,xs.toArray,ka,kb,rfl,isl,Zbr (by simp[hv.length];exact hl),(y2.mono l3).part e4,z3.part e5,?_⟩
  have hp:VRs W3 (ZaU vs ka kb) (ZaU xs ka kb):=by
   unfold ZaU
   rw[hv.length]
   exact hv.pick _
  have hx:slicePick xs.toArray ka kb Option.none=(ZaU xs ka kb).toArray:=by
   unfold slicePick ZaU
   simp
  obtain⟨W4,l4,r4,v4⟩:=(r3.push { cls:=.type "slice",data:=.fields #[y,z,.none] }).list (k:=0) hp (Nat.le_trans (Zi3 vs ka kb) hl)
  rw[hx]
  have:=post W4 _ t3 _ (((l1.trans l2).trans l3).trans l4) r4 v4
  rw[Heap.size_push]at this
  exact this
def Nm(prog:Program)(w:World)(G:Cx)(x:Str)(v:Value): Prop:=∀(pos:Pos) (m:Str->Option Value) (s:Shared) (Q E:Value->Shared->Prop),Fr G.h₀ G.L s.heap m->Q v s->wpAny (model prog w) G.A (eval (.Name x pos) G.env) Q E s
theorem Nm.use{x:Str}(h:Nm prog w G x y){W:Wd}(r:Rep G W O H fr s.heap)(q:Q y s): wpAny (model prog w) G.A (eval (.Name x pos) G.env) Q E s:=by
 obtain⟨m,c,led,r⟩:=r
 exact h pos m s Q E r.F q
def OpN(prog:Program)(w:World)(m:List Value->Sem Value)(o:List V->Hp->Option (V×Hp)): Prop:=∀(G:Cx) (W:Wd) (O:Lc) (H:Hp) (fr:List (Addr×Obj)) (s:Shared) (Q E:Value->Shared->Prop) (as:List V) (xs:List Value) (v:V) (H':Hp),
 Rep G W O H fr s.heap->VRs W as xs->o as H=some (v,H')->ZdP G W O H' fr s Q v->wpAny (model prog w) G.A (m xs) Q E s
noncomputable def Zg(o:List V->Hp->Option (V×Hp))(g:Exs): Ex:=λO H=>(g O H).bind λp=>o p.1 p.2
theorem Zaa{x:Str}{o:List V->Hp->Option (V×Hp)}(hn:Nm prog w G x (.builtin id))(h:Js prog w G (e::es) g)(ho:OpN prog w (λxs=>call (.builtin id) xs) o)
  (he:starEach (e::es) G.env=(false,eval e G.env)::starEach es G.env:=by rfl) (hp:∀pos,(backTo pos (starEach es G.env)).any (·.1)=false:=by intro _;rfl):J prog w G (.Call (.Name x np) (e::es) [] pos) (Zg o g):=by
 intro W O H fr s Q E v H' r hf post
 obtain⟨p,e1,hf⟩:=Zz0.mp hf
 refine wpAny_Call_ofName (hn.use r ?_)
 refine callWith_builtin1 (h pos W O H fr s _ E _ _ r e1 λW1 k1 t1 xs l1 r1 x1=>?_) he (hp pos)
 exact ho G W1 O _ fr _ Q E _ xs v H' r1 x1 hf λW2 k2 t2 y l2 r2 y2=>post W2 k2 t2 y (l1.trans l2) r2 y2
theorem ZcK{x:Str}{T:String}{o:List V->Hp->Option (V×Hp)}(hn:Nm prog w G x (.type T))(h:Js prog w G (e::es) g)(ho:OpN prog w (λxs=>call (.type T) xs) o)
  (he:starEach (e::es) G.env=(false,eval e G.env)::starEach es G.env:=by rfl) (hp:∀pos,(backTo pos (starEach es G.env)).any (·.1)=false:=by intro _;rfl):J prog w G (.Call (.Name x np) (e::es) [] pos) (Zg o g):=by
 intro W O H fr s Q E v H' r hf post
 obtain⟨p,e1,hf⟩:=Zz0.mp hf
 refine wpAny_Call_ofName (hn.use r ?_)
 refine PySem.Pv.callWith_type1 (h pos W O H fr s _ E _ _ r e1 λW1 k1 t1 xs l1 r1 x1=>?_) he (hp pos)
 exact ho G W1 O _ fr _ Q E _ xs v H' r1 x1 hf λW2 k2 t2 y l2 r2 y2=>post W2 k2 t2 y (l1.trans l2) r2 y2
noncomputable def ZjK: V->String
 | .none=>"NoneType"
 | .bool _=>"bool"
 | .int _=>"int"
 | .str _=>"str"
 | .tup _=>"tuple"
 | .ref _=>"list"
 | .obj _ _=>"object"
def Zba(T:String)(v:V): Bool:=ZjK v == T || (T == "int" && ZjK v == "bool")
noncomputable def ZdJ: V->Bool
 | .obj _ _=>true
 | _=>false
def eIs(T:String)(f:Ex): Ex:=λO H=>(f O H).bind λp=>if ZdJ p.1 then none else some (.bool (Zba T p.1),p.2)
theorem isinst{T:String}(hT:T="int"∨T="bool"∨T="list"∨T="tuple"){W:Wd}{a:V}(r:Rep G W O H fr s.heap)(hx:VR W a x)(hin:∀i,a=.ref i->i<H.length)(hob:ZdJ a=false)
  (post:∀tk,Q (.bool (Zba T a)) { s with toks:=tk }):wpAny (model prog w) G.A (call (.builtin "isinstance") [x,.type T]) Q E s:=by
 cases hx with
 | none=>
      rcases hT with e | e | e | e <;> subst e
      ·exact call_isinstance (isinstance_false_none .D F.isi_meta_int (by rw[isSubtype_type];kernel_rfl)) (post _)
      ·exact call_isinstance (isinstance_false_none .D F.isi_meta_bool (by rw[isSubtype_type];kernel_rfl)) (post _)
      ·exact call_isinstance (isinstance_false_none .D F.isi_meta_list (by rw[isSubtype_type];kernel_rfl)) (post _)
      ·exact call_isinstance (isinstance_false_none .D F.isi_meta_tuple (by rw[isSubtype_type];kernel_rfl)) (post _)
 | bool b=>
       rcases hT with e | e | e | e <;> subst e
       ·exact IsiPair.bool_int (post s.toks)
       ·exact IsiPair.bool_bool (post s.toks)
       ·exact IsiPair.bool_list (post _)
       ·exact IsiPair.bool_tuple (post _)
 | int i t=>
       rcases hT with e | e | e | e <;> subst e
       ·exact IsiPair.int_int (post s.toks)
       ·exact IsiPair.int_bool (post _)
       ·exact IsiPair.int_list (post _)
       ·exact IsiPair.int_tuple (post _)
 | str y t=>
       rcases hT with e | e | e | e <;> subst e
       ·exact IsiPair.str_int (post _)
       ·exact IsiPair.str_bool (post _)
       ·exact IsiPair.str_list (post _)
       ·exact IsiPair.str_tuple (post _)
 | tup hm hl hs=>
  have hg:=r.tupAt hm
  rcases hT with e | e | e | e <;> subst e
  ·exact IsiPair.tuple_int hg rfl (post _)
  ·exact IsiPair.tuple_bool hg rfl (post _)
  ·exact IsiPair.tuple_list hg rfl (post _)
  ·exact IsiPair.tuple_tuple hg rfl (post s.toks)
 | @ref i a ea=>
  obtain⟨hl,xs,k,hg,hv⟩:=r.at (Yy1 (hin i rfl)) ea
  rcases hT with e | e | e | e <;> subst e
  ·exact IsiPair.list_int hg rfl (post _)
  ·exact IsiPair.list_bool hg rfl (post _)
  ·exact IsiPair.list_list hg rfl (post s.toks)
  ·exact IsiPair.list_tuple hg rfl (post _)
 | obj _ _ _ _=>first|exact Yx0 hob|cases hob
theorem Rep.refIn{W:Wd}(r:Rep G W O H fr h)(hx:VR W (.ref i) x): i<H.length:=by
 obtain⟨m,c,led,r⟩:=r
 cases hx with
 | ref e=>rw[<-r.R.len];exact(Zz6.mp e.1).1
theorem Zec{tp:Pos}{x y:Str}{T:String}(hn:Nm prog w G x (.builtin "isinstance"))(hy:Nm prog w G y (.type T))(hT:T="int"∨T="bool"∨T="list"∨T="tuple")(h:J prog w G e f)
  (he:starEach [e,.Name y tp] G.env=(false,eval e G.env)::starEach [.Name y tp] G.env:=by rfl) (hp:∀pos,(backTo pos (starEach [.Name y tp] G.env)).any (·.1)=false:=by intro _;rfl):J prog w G (.Call (.Name x np) [e,.Name y tp] [] pos) (eIs T f):=by
 intro W O H fr s Q E v H' r hf post
 obtain⟨p,e1,e2⟩:=Zz0.mp hf
 by_cases hob:ZdJ p.1=true
 ·rw[if_pos hob]at e2;cases e2
 rw[if_neg hob]at e2
 cases e2
 refine wpAny_Call_ofName (hn.use r ?_)
 refine callWith_builtin1 (wpAny_items_cons (h W O H fr s _ E _ _ r e1 λW1 k1 t1 z l1 r1 z1=>?_) he) he (hp pos)
 refine wpAny_items_cons (hy.use (s:={ s with heap:=k1,toks:=t1 }) r1 ?_)
 refine wpAny_items_nil ?_
 exact PM.isinst hT r1 z1 (λi e=>by rw[e]at z1;exact r1.refIn z1) (by simpa using hob) λtk=>post W1 k1 tk _ l1 r1 (.bool _)
noncomputable def ZO: List V->Hp->Option (V×Hp)
 | [.ref a],H=>H[a]?.map λvs=>(.int vs.length,H)
 | [.tup vs],H=>some (.int vs.length,H)
 | _,_=>none
noncomputable def ZcU: List V->Hp->Option (V×Hp)
 | [.int a],H=>some (.int (if a<0 then -a else a),H)
 | _,_=>none
noncomputable def Zdm: List V->Hp->Option (V×Hp)
 | [.int a,.int b],H=>some (.int (if b>a then b else a),H)
 | _,_=>none
noncomputable def ZdK: List V->Hp->Option (V×Hp)
 | [.int a,.int b],H=>some (.int (if b<a then b else a),H)
 | _,_=>none
noncomputable def Za7: List V->Option (List Int)
 | []=>some []
 | .int k::vs=>(Za7 vs).map λks=>k::ks
 | _::_=>none
def Zb8: List V->Hp->Option (V×Hp)
 | [.ref a],H=>H[a]?.bind λvs=>(Za7 vs).map λks=>(.int ks.sum,H)
 | _,_=>none
theorem VRs.one{W:Wd}{v:V}(h:VRs W [v] xs): ∃x,xs=[x]/\VR W v x:=by
 cases h with
 | cons a b=>cases b;exact⟨_,rfl,a⟩
theorem VRs.two{W:Wd}{v u:V}(h:VRs W [v,u] xs): ∃x y,xs=[x,y]/\VR W v x/\VR W u y:=by
 cases h with
 | cons a b=>obtain⟨y,e,r⟩:=b.one;subst e;exact⟨_,_,rfl,a,r⟩
theorem ZlN{W:Wd}: ∀{vs:List V} {xs:List Value} {ks:List Int},VRs W vs xs->Za7 vs=some ks->∃ts:Array (Int×Tok),xs.toArray=intItems ts/\preSum (numAt ts) ts.size=ks.sum:=by
 have key:∀{vs:List V} {xs:List Value} {ks:List Int},VRs W vs xs->Za7 vs=some ks->∃ts:List (Int×Tok),xs=ts.map (λp=>Value.int p.1 p.2)/\ts.map (·.1)=ks:=by
  intro vs
  induction vs with
  | nil=>intro xs ks h e;cases h;cases e;exact⟨[],rfl,rfl⟩
  | cons v vs ih=>
   intro xs ks h e
   cases h with
   | cons a b=>
    cases v with
    | int i=>
     obtain⟨js,e1,e2⟩:=Zz1.mp e
     subst e2
     cases a with
     | int _ t=>
      obtain⟨ts,h1,h2⟩:=ih b e1
      exact⟨(i,t)::ts,by rw[h1];rfl,by rw[List.map_cons,h2]⟩
    | none=>first|exact Yx0 e|cases e
    | bool _=>first|exact Yx0 e|cases e
    | str _=>first|exact Yx0 e|cases e
    | tup _=>first|exact Yx0 e|cases e
    | ref _=>first|exact Yx0 e|cases e
    | obj _ _=>first|exact Yx0 e|cases e
 intro vs xs ks h e
 obtain⟨ts,h1,h2⟩:=key h e
 refine⟨ts.toArray,by rw[h1];simp[intItems],?_⟩
 rw[preSum_eq,List.take_of_length_le .s,<-h2]
def Zw: V->V->Hp->Option (V×Hp)
 | .int a,.int b,H=>some (.int (a+b),H)
 | .ref a,.ref b,H=>H[a]?.bind λvs=>H[b]?.bind λus=>if(vs++us).length<=ZK then some (.ref H.length,H++[vs++us])else none
 | .tup vs,.tup us,H=>if(vs++us).length<=ZK then some (.tup (vs++us),H)else none
 | _,_,_=>none
noncomputable def ZcV(vs:List V): Nat->List V
 | 0=>[]
 | n+1=>ZcV vs n++vs
def ZaV: V->V->Hp->Option (V×Hp)
 | .int a,.int b,H=>if Zci a b=true then some (.int (a*b),H)else none
 | .ref a,.int k,H=>H[a]?.bind λvs=>if vs.length*k.toNat<=ZK/\-(2 ^ 63:Int)<=k/\k<2 ^ 63 then some (.ref H.length,H++[ZcV vs k.toNat])else none
 | _,_,_=>none
theorem Zaz: OpN prog w (λxs=>call (.builtin "len") xs) ZO:=by
 intro G W O H fr s Q E as xs v H' r hx ho post
 unfold ZO at ho
 split at ho
 ·rename_i a
  obtain⟨vs,e1,e2⟩:=Zz1.mp ho
  cases e2
  obtain⟨x,ex,rx⟩:=hx.one
  subst ex
  cases rx with
  | ref ea=>
   obtain⟨hl,ys,k,hg,hv⟩:=r.at e1 ea
   have isl:s.heap.IsList _ ys.toArray:=⟨_,hg,rfl,k,rfl⟩
   have e3:(ys.toArray.size:Int)=vs.length:=by simp[hv.length]
   rw[ZC]at hl
   refine Calls.call_len_list isl (by rw[e3];lia) ?_
   rw[e3]
   exact post W s.heap _ _ (.refl W) r (.int _ _)
 ·rename_i vs
  cases ho
  obtain⟨x,ex,rx⟩:=hx.one
  subst ex
  cases rx with
  | @tup _ a ys k hm hl hs=>
   have it:IsTup s.heap a ys.toArray:=⟨_,r.tupAt hm,rfl,k,rfl⟩
   have e3:(ys.toArray.size:Int)=vs.length:=by simp[hs.length]
   rw[ZC]at hl
   refine len_tuple it (by rw[e3];lia) ?_
   rw[e3]
   exact post W s.heap _ _ (.refl W) r (.int _ _)
 ·first|exact Yx0 ho|cases ho
theorem ZfH: OpN prog w (λxs=>call (.builtin "abs") xs) ZcU:=by
 intro G W O H fr s Q E as xs v H' r hx ho post
 unfold ZcU at ho
 split at ho
 ·first|exact Yx0 ho|cases ho
  obtain⟨x,ex,rx⟩:=hx.one
  subst ex
  cases rx with
  | int i t=>exact call_abs_int λu tk=>post W s.heap tk _ (.refl W) r (.int _ _)
 ·first|exact Yx0 ho|cases ho
theorem Zhz: OpN prog w (λxs=>call (.builtin "max") xs) Zdm:=by
 intro G W O H fr s Q E as xs v H' r hx ho post
 unfold Zdm at ho
 split at ho
 ·first|exact Yx0 ho|cases ho
  obtain⟨x,y,ex,rx,ry⟩:=hx.two
  subst ex
  cases rx with
  | int i t=>
   cases ry with
   | int j u=>
    refine max_two_ints G.hh λh' tk up=>?_
    split
    ·rename_i c
     rw[if_pos c]at post
     exact post W h' tk _ (.refl W) (r.grown up) (.int _ _)
    ·rename_i c
     rw[if_neg c]at post
     exact post W h' tk _ (.refl W) (r.grown up) (.int _ _)
 ·first|exact Yx0 ho|cases ho
theorem ZjL: OpN prog w (λxs=>call (.builtin "min") xs) ZdK:=by
 intro G W O H fr s Q E as xs v H' r hx ho post
 unfold ZdK at ho
 split at ho
 ·first|exact Yx0 ho|cases ho
  obtain⟨x,y,ex,rx,ry⟩:=hx.two
  subst ex
  cases rx with
  | int i t=>
   cases ry with
   | int j u=>
    refine min_two_ints G.hh λh' tk up=>?_
    split
    ·rename_i c
     rw[if_pos c]at post
     exact post W h' tk _ (.refl W) (r.grown up) (.int _ _)
    ·rename_i c
     rw[if_neg c]at post
     exact post W h' tk _ (.refl W) (r.grown up) (.int _ _)
 ·first|exact Yx0 ho|cases ho
theorem ZhS: OpN prog w (λxs=>call (.builtin "sum") xs) Zb8:=by
 intro G W O H fr s Q E as xs v H' r hx ho post
 unfold Zb8 at ho
 split at ho
 ·obtain⟨vs,e1,e2⟩:=Zz0.mp ho
  obtain⟨ks,e3,e4⟩:=Zz1.mp e2
  cases e4
  obtain⟨x,ex,rx⟩:=hx.one
  subst ex
  cases rx with
  | ref ea=>
   obtain⟨hl,ys,k,hg,hv⟩:=r.at e1 ea
   obtain⟨ts,h1,h2⟩:=ZlN hv e3
   have isl:s.heap.IsList _ (intItems ts):=⟨_,hg,rfl,k,by rw[<-h1]⟩
   refine sum_intListG G.hh isl λh' tk t' up=>?_
   rw[h2]
   exact post W h' tk _ (.refl W) (r.grown up) (.int _ _)
 ·first|exact Yx0 ho|cases ho
theorem ZN: Op2 prog w (binaryOp .Add) Zw:=by
 intro G W O H fr s Q E a b x y v H' r hx hy ho post
 unfold Zw at ho
 split at ho
 ·first|exact Yx0 ho|cases ho
  cases hx;cases hy
  exact PySem.P.add_int (post W s.heap _ _ (.refl W) r (.int _ _))
 ·obtain⟨vs,e1,ho⟩:=Zz0.mp ho
  obtain⟨us,e2,ho⟩:=Zz0.mp ho
  by_cases hl:(vs++us).length<=ZK
  ·rw[if_pos hl]at ho
   cases ho
   cases hx with
   | ref ea=>
   cases hy with
   | ref eb=>
   obtain⟨l1,ys,k,hg,hv⟩:=r.at e1 ea
   obtain⟨l2,zs,k2,hg2,hv2⟩:=r.at e2 eb
   obtain⟨m,c,led,r'⟩:=r
   have i1:s.heap.IsList _ ys.toArray:=⟨_,hg,rfl,k,rfl⟩
   have i2:s.heap.IsList _ zs.toArray:=⟨_,hg2,rfl,k2,rfl⟩
   refine add_lists (hsz:=Zbr (by rw[hv.length,hv2.length,<-List.length_append];exact hl)) r'.F r'.N i1 i2 λh' F' N'=>?_
   obtain⟨W2,le2,r2,v2⟩:=r'.newList F' N' r'.off (hv.append hv2) hl
   exact post W2 h' s.toks _ le2 r2 v2
  ·rw[if_neg hl]at ho
   cases ho
 ·rename_i vs us
  by_cases hl:(vs++us).length<=ZK
  ·rw[if_pos hl]at ho
   cases ho
   cases hx with
   | @tup _ a ys k hm h1 hv=>
   cases hy with
   | @tup _ b zs k2 hm2 h2 hv2=>
   have t1:IsTup s.heap a ys.toArray:=⟨_,r.tupAt hm,rfl,k,rfl⟩
   have t2:IsTup s.heap b zs.toArray:=⟨_,r.tupAt hm2,rfl,k2,rfl⟩
   have r0:=r
   obtain⟨m,c,led,r'⟩:=r
   refine add_tuples (hsz:=Zbr (by rw[hv.length,hv2.length,<-List.length_append];exact hl)) r'.F r'.N t1 t2 (λe=>?_) (λ_ e=>?_) λ_ _ h' F' N'=>?_
   ·have:vs=[]:=List.length_eq_zero_iff.mp (by rw[<-hv.length,e];rfl)
    subst this
    exact post W s.heap s.toks _ (.refl W) r0 (.tup hm2 h2 hv2)
   ·have:us=[]:=List.length_eq_zero_iff.mp (by rw[<-hv2.length,e];rfl)
    subst this
    rw[List.append_nil]at post
    exact post W s.heap s.toks _ (.refl W) r0 (.tup hm h1 hv)
   ·obtain⟨W2,le2,r2,v2⟩:=r'.newTup F' N' r'.off (hv.append hv2) hl
    exact post W2 h' s.toks _ le2 r2 v2
  ·rw[if_neg hl]at ho
   cases ho
 ·first|exact Yx0 ho|cases ho
theorem Zi5(vs:List V): ∀n,(ZcV vs n).length=vs.length*n
 | 0=>rfl
 | n+1=>by rw[ZcV,List.length_append,Zi5 vs n,Nat.mul_succ]
theorem Zmp(xs:List Value)(n:Nat): ∀acc:Array Value,(List.foldl (λx1 x2=>x1++x2) acc (List.replicate n xs.toArray))=acc++(List.replicate n xs).flatten.toArray:=by
 induction n with
 | zero=>intro acc;simp
 | succ n ih=>
  intro acc
  rw[List.replicate_succ,List.foldl_cons,ih,List.replicate_succ,List.flatten_cons]
  simp[Array.append_assoc]
theorem ZjM{W:Wd}{vs:List V}{xs:List Value}(h:VRs W vs xs): ∀n,VRs W (ZcV vs n) (List.replicate n xs).flatten
 | 0=>.nil
 | n+1=>by
  rw[ZcV,List.replicate_succ',List.flatten_append]
  simp only[List.flatten_cons,List.flatten_nil,List.append_nil]
  exact(ZjM h n).append h
theorem Zcw: Op2 prog w (binaryOp .Mult) ZaV:=by
 intro G W O H fr s Q E a b x y v H' r hx hy ho post
 unfold ZaV at ho
 split at ho
 ·rename_i i j
  by_cases hm:Zci i j=true
  ·rw[if_pos hm]at ho
   cases ho
   cases hx;cases hy
   exact PySem.P.mul_int (post W s.heap _ _ (.refl W) r (.int _ _)) (Zm0 hm)
  ·rw[if_neg hm]at ho
   cases ho
 ·rename_i i k
  obtain⟨vs,e1,ho⟩:=Zz0.mp ho
  by_cases hc:vs.length*k.toNat<=ZK/\-(2 ^ 63:Int)<=k/\k<2 ^ 63
  ·rw[if_pos hc]at ho
   cases ho
   cases hx with
   | ref ea=>
   cases hy with
   | int _ u=>
   obtain⟨l1,ys,kk,hg,hv⟩:=r.at e1 ea
   obtain⟨m,c,led,r'⟩:=r
   have hl:=hc.1
   rw[ZC]at hl
   refine mul_list r'.F r'.N hg hc.2.1 hc.2.2 (by rw[List.size_toArray,hv.length];lia) λh' F' N'=>?_
   have e2:(List.foldl (λx1 x2=>x1++x2) #[] (List.replicate (if ys.toArray.isEmpty=true then 0 else k.toNat) ys.toArray))=(List.replicate k.toNat ys).flatten.toArray:=by
    cases ys with
    | nil=>
     simp
    | cons y0 ys0=>
     have:((y0::ys0).toArray.isEmpty=true)=False:=by simp
     simp only[this,if_false]
     rw[Zmp]
     simp
   rw[e2]at N'
   obtain⟨W2,le2,r2,v2⟩:=r'.newList F' N' r'.off (ZjM hv k.toNat) (by rw[Zi5];exact hc.1)
   exact post W2 h' s.toks _ le2 r2 v2
  ·rw[if_neg hc]at ho
   cases ho
 ·first|exact Yx0 ho|cases ho
noncomputable def Zi(O:Lc)(i:Nat)(v:V): Lc:=λj=>if j=i then some v else O j
abbrev Sm:=Lc->Hp->Option (Option V×Lc×Hp)
noncomputable def ZF: Sm:=λO H=>some (none,O,H)
noncomputable def Zh(a b:Sm): Sm:=λO H=>(a O H).bind λp=>match p.1 with
 | some _=>some p
 | none=>b p.2.1 p.2.2
noncomputable def Zn(f:Ex): Sm:=λO H=>(f O H).map λp=>(some p.1,O,p.2)
def Zk(i:Nat)(f:Ex): Sm:=λO H=>(f O H).map λp=>(none,Zi O i p.1,p.2)
noncomputable def Zs(t:Ts)(a b:Sm): Sm:=λO H=>(t O H).bind λp=>if p.1 then a O p.2 else b O p.2
noncomputable def ZJ(f:Ex): Sm:=λO H=>(f O H).map λp=>(none,O,p.2)
noncomputable def Zbf: V->V->V->Hp->Option Hp
 | .ref a,.int k,v,H=>H[a]?.bind λvs=>if a≠0/\0<=k/\k<vs.length then some (H.set a (vs.set k.toNat v))else none
 | _,_,_,_=>none
def ZaB(f o i:Ex): Sm:=λO H=>(f O H).bind λp=>(o O p.2).bind λq=>(i O q.2).bind λu=>(Zbf q.1 u.1 p.1 u.2).map λK=>(none,O,K)
noncomputable def Za2(t:Ts)(b:Sm): Nat->Sm
 | 0=>λ_ _=>none
 | n+1=>λO H=>(t O H).bind λp=>if p.1 then(b O p.2).bind λq=>(match q.1 with
   | some _=>some q
   | none=>Za2 t b n q.2.1 q.2.2)else some (none,O,p.2)
def PostS(G:Cx)(W:Wd)(fr:List (Addr×Obj))(s:Shared)(Q:Flow->Shared->Prop): Option V×Lc×Hp->Prop
 | (none,U,H')=>∀(W':Wd) (h':Heap) (tk':Nat),W.Le W'->Rep G W' U H' fr h'->Q .next { s with heap:=h',toks:=tk' }
 | (some v,U,H')=>∀(W':Wd) (h':Heap) (tk':Nat) (x:Value),W.Le W'->Rep G W' U H' fr h'->VR W' v x->Q (.ret x) { s with heap:=h',toks:=tk' }
theorem PostS.le{W:Wd}{tk:Nat}{Q:Flow->Shared->Prop}(l:W.Le W')(p:PostS G W fr s Q r): PostS G W' fr { s with heap:=h,toks:=tk } Q r:=by
 obtain⟨o,U,H'⟩:=r
 cases o with
 | none=>exact λW2 h2 t2 l2 r2=>p W2 h2 t2 (l.trans l2) r2
 | some v=>exact λW2 h2 t2 x l2 r2 x2=>p W2 h2 t2 x (l.trans l2) r2 x2
section
variable (prog:Program) (w:World)
def S1(G:Cx)(st:Stmt)(g:Sm): Prop:=∀(W:Wd) (O:Lc) (H:Hp) (fr:List (Addr×Obj)) (s:Shared) (Q:Flow->Shared->Prop) (E:Value->Shared->Prop) (r:Option V×Lc×Hp),
 Rep G W O H fr s.heap->g O H=some r->PostS G W fr s Q r->wpAny (model prog w) G.A (exec st G.env) Q E s
def Ss(G:Cx)(ss:List Stmt)(g:Sm): Prop:=∀(W:Wd) (O:Lc) (H:Hp) (fr:List (Addr×Obj)) (s:Shared) (Q:Flow->Shared->Prop) (E:Value->Shared->Prop) (r:Option V×Lc×Hp),
 Rep G W O H fr s.heap->g O H=some r->PostS G W fr s Q r->wpAny (model prog w) G.A (execs ss G.env) Q E s
def Sto(G:Cx)(x:Str)(i:Nat): Prop:=∀(W:Wd) (O:Lc) (H:Hp) (fr:List (Addr×Obj)) (s:Shared) (Q:Unit->Shared->Prop) (E:Value->Shared->Prop) (v:V) (y:Value),
 Rep G W O H fr s.heap->VR W v y->(∀(h':Heap) (tk':Nat),Rep G W (Zi O i v) H fr h'->Q () { s with heap:=h',toks:=tk' })->wpAny (model prog w) G.A (storeName G.env x y) Q E s
def Rd(G:Cx)(x:Str)(i:Nat): Prop:=∀(W:Wd) (O:Lc) (H:Hp) (fr:List (Addr×Obj)) (s:Shared) (Q E:Value->Shared->Prop) (v:V) (pos:Pos),
 Rep G W O H fr s.heap->O i=some v->(∀y,VR W v y->Q y s)->wpAny (model prog w) G.A (eval (.Name x pos) G.env) Q E s
end
theorem Zf3{x:Str}(h:Rd prog w G x i): J prog w G (.Name x pos) (Za i):=by
 intro W O H fr s Q E v H' r hf post
 obtain⟨u,e1,e2⟩:=Zz1.mp hf
 cases e2
 exact h W O H fr s Q E v pos r e1 λy hy=>post W s.heap s.toks y (.refl W) r hy
theorem ZP: Ss prog w G [] ZF:=λW O H fr s Q E r rp hf post=>by
 cases hf
 exact wpAny_execs_nil (post W s.heap s.toks (.refl W) rp)
theorem Zdw{a b:Sm}(h1:S1 prog w G st a)(h2:Ss prog w G ss b): Ss prog w G (st::ss) (Zh a b):=by
 intro W O H fr s Q E r rp hf post
 obtain⟨p,e1,hf⟩:=Zz0.mp hf
 refine wpAny_execs_cons (h1 W O H fr s _ E p rp e1 ?_)
 obtain⟨o,B,H1⟩:=p
 cases o with
 | some v=>
  cases hf
  exact λW1 k1 t1 x l1 r1 x1=>post W1 k1 t1 x l1 r1 x1
 | none=>exact λW1 k1 t1 l1 r1=>h2 W1 B H1 fr _ Q E r r1 hf (post.le l1)
theorem Zz{a:Sm}(h1:S1 prog w G st a): Ss prog w G [st] a:=by
 intro W O H fr s Q E r rp hf post
 refine wpAny_execs_cons (h1 W O H fr s _ E r rp hf ?_)
 obtain⟨o,B,H1⟩:=r
 cases o with
 | some v=>exact λW1 k1 t1 x l1 r1 x1=>post W1 k1 t1 x l1 r1 x1
 | none=>exact λW1 k1 t1 l1 r1=>wpAny_execs_nil (post W1 k1 t1 l1 r1)
theorem Zt(h:J prog w G e f): S1 prog w G (.Return (some e) pos) (Zn f):=by
 intro W O H fr s Q E r rp hf post
 obtain⟨p,e1,e2⟩:=Zz1.mp hf
 cases e2
 exact wpAny_Return_some (h W O H fr s _ E _ _ rp e1 post)
theorem ZL{t:Expr}{b:List Stmt}{f g:Sm}(ht:JT prog w G t u)(h1:Ss prog w G a f)(h2:Ss prog w G b g): S1 prog w G (.If t a b pos) (Zs u f g):=by
 intro W O H fr s Q E r rp hf post
 obtain⟨p,e1,hf⟩:=Zz0.mp hf
 refine wpAny_If (ht W O H fr s _ E _ _ rp e1 λW1 k1 t1 l1 r1=>?_)
 obtain⟨c,H1⟩:=p
 cases c with
 | true=>exact h1 W1 O H1 fr _ Q E r r1 hf (post.le l1)
 | false=>exact h2 W1 O H1 fr _ Q E r r1 hf (post.le l1)
theorem Zar(h:J prog w G e f)(hi:interactive G.env=false:=by rfl)(hs:swapsWith e none pos.line G.env=pure false:=by rfl): S1 prog w G (.Expr e pos) (ZJ f):=by
 intro W O H fr s Q E r rp hf post
 obtain⟨p,e1,e2⟩:=Zz1.mp hf
 cases e2
 exact wpAny_Expr_any (h W O H fr s _ E _ _ rp e1 λW1 k1 t1 x l1 r1 x1=>post W1 k1 t1 l1 r1) hi hs
theorem Zq{x:Str}{pos':Pos}(hx:Sto prog w G x i)(h:J prog w G e f)(hs:swapsWith e (some (.Name x pos')) pos.line G.env=pure false:=by rfl): S1 prog w G (.Assign [.Name x pos'] e pos) (Zk i f):=by
 intro W O H fr s Q E r rp hf post
 obtain⟨p,e1,e2⟩:=Zz1.mp hf
 cases e2
 refine wpAny_Assign_Name (h W O H fr s _ E _ _ rp e1 λW1 k1 t1 y l1 r1 y1=>?_) hs
 exact hx W1 O _ fr _ _ E _ y r1 y1 λh' tk' r2=>post W1 h' tk' l1 r2
theorem Zi6{t:Expr}{f:Sm}(n:Nat)(ht:JT prog w G t u)(h1:Ss prog w G a f): S1 prog w G (.While t a [] pos) (Za2 u f n):=by
 intro W O H fr s Q E r rp hf post
 refine wpAny_While ?_
 refine codeAny_whileLoop (λk s'=>∃W' U H' h' tk',s' = { s with heap:=h',toks:=tk' }/\W.Le W'/\Rep G W' U H' fr h'/\Za2 u f k U H'=some r) ?_ n ⟨W,O,H,s.heap,s.toks,rfl,.refl W,rp,hf⟩
 intro k s' q9;obtain⟨W1,B,H1,k1,t1,rfl,l1,r1,e⟩:=q9
 cases k with
 | zero=>first|exact Yx0 e|cases e
 | succ k=>
  obtain⟨p,e1,e⟩:=Zz0.mp e
  refine ht W1 B H1 fr _ _ _ _ _ r1 e1 λW2 k2 t2 l2 r2=>?_
  obtain⟨c,H2⟩:=p
  cases c with
  | false=>
   cases e
   exact wpAny_execs_nil (post W2 k2 t2 (l1.trans l2) r2)
  | true=>
   obtain⟨q,e2,e⟩:=Zz0.mp e
   refine h1 W2 B H2 fr _ _ _ q r2 e2 ?_
   obtain⟨o,ρ3,H3⟩:=q
   cases o with
   | some v=>
    cases e
    exact λW3 k3 t3 x l3 r3 x3=>post W3 k3 t3 x ((l1.trans l2).trans l3) r3 x3
   | none=>exact λW3 k3 t3 l3 r3=>⟨k,Nat.lt_succ_self k,W3,ρ3,H3,k3,t3,rfl,(l1.trans l2).trans l3,r3,e⟩
def Za0: List V->Hp->Option (V×Hp)
 | [.ref a,v],H=>H[a]?.bind λvs=>if a≠0/\vs.length<ZK then some (.none,H.set a (vs++[v]))else none
 | _,_=>none
theorem Zmq: OpN prog w (λxs=>call (.builtin "list.append") xs) Za0:=by
 intro G W O H fr s Q E as xs v H' r hx ho post
 unfold Za0 at ho
 split at ho
 ·obtain⟨vs,e1,e2⟩:=Zz0.mp ho
  obtain⟨x,y,ex,rx,ry⟩:=hx.two
  subst ex
  split at e2
  ·rename_i hl
   cases e2
   cases rx with
   | @ref _ a0 ea=>
    obtain⟨_,ys,k,hg,hv⟩:=r.at e1 ea
    refine append_at (hsz:=Zbr (by rw[List.size_toArray,hv.length];omega)) hg λh' sb hg'=>?_
    have hg2:h'.get? a0=some (ZaA (ys++[y]) (k+1)):=by rw[hg'];simp
    exact post W h' s.toks _ (.refl W) (r.change hl.1 e1 ea sb hg2 (hv.snoc ry) (by simp;lia)) .none
  ·first|exact Yx0 e2|cases e2
 ·first|exact Yx0 ho|cases ho
end PM
end
section
namespace PM
open PySem PySem.W PyProof.Rows PyProof
variable{a c:Int}{H K:Hp}{x:Str}{o e:Expr}{pos:Pos}{f g:Ex}{W0:Wd}{I:Addr}{n:Nat}{fr:List (Addr×Obj)}{s:Shared}{es:List Expr}
variable{prog:Program}{w:World}{G:Cx}
theorem ZjN: ∀{l:List Value} {k:Nat} {v:Value},k<l.length->ki_setL l k v=some (l.set k v)
 | [],_,_,h=>by simp at h
 | x::r,0,v,_=>by simp[ki_setL]
 | x::r,k+1,v,h=>by
  have:=ZjN (l:=r) (k:=k) (v:=v) (by simpa using h)
  simp[ki_setL,this]
theorem Zmr{a k v:V}(h:Zbf a k v H=some K): ∃i j vs,a=.ref i/\k=.int j/\H[i]?=some vs/\(i≠0/\0<=j/\j<vs.length)/\K=H.set i (vs.set j.toNat v):=by
 cases a <;> first|exact Yx0 h|(cases h;done)| skip
 cases k <;> first|exact Yx0 h|(cases h;done)| skip
 obtain⟨vs,e1,e2⟩:=Zz0.mp h
 split at e2
 ·rename_i c
  cases e2
  exact⟨_,_,vs,rfl,rfl,e1,c,rfl⟩
 ·first|exact Yx0 e2|cases e2
theorem ZlO{a v x:V}(h:Za0 [a,v] H=some (x,K)): ∃i,a=.ref i:=by
 cases a <;> first|exact Yx0 h|(cases h;done)| skip
 exact⟨_,rfl⟩
def Zal(o f:Ex): Ex:=λO H=>(o O H).bind λp=>(f O p.2).bind λq=>Za0 [p.1,q.1] q.2
theorem S1.put{i value:Expr}{pos':Pos}{k:Ex}(hf:J prog w G value f)(ho:J prog w G o g)(hi:J prog w G i k)(hs:swapsWith value (some (.Subscript o i pos')) pos.line G.env=pure false:=by rfl): S1 prog w G (.Assign [.Subscript o i pos'] value pos) (ZaB f g k):=by
 intro W O H fr s Q E r rp hx post
 obtain⟨p,e1,hx⟩:=Zz0.mp hx
 obtain⟨q,e2,hx⟩:=Zz0.mp hx
 obtain⟨u,e3,hx⟩:=Zz0.mp hx
 obtain⟨K,e4,e5⟩:=Zz1.mp hx
 cases e5
 refine wpAny_Assign_Subscript (hf W O H fr s _ E _ _ rp e1 λW1 k1 t1 x l1 r1 x1=>?_) hs
 refine ho W1 O _ fr _ _ E _ _ r1 e2 λW2 k2 t2 y l2 r2 y2=>?_
 refine hi W2 O _ fr _ _ E _ _ r2 e3 λW3 k3 t3 z l3 r3 z3=>?_
 have x3:=x1.mono (l2.trans l3)
 have y3:=y2.mono l3
 obtain⟨b,kk,vs,eb,ek,hvs,hc,e6⟩:=Zmr e4
 subst e6
 rw[eb]at y3
 rw[ek]at z3
 cases y3 with
 | @ref _ a ea=>
 cases z3 with
 | int _ tz=>
 obtain⟨hl,xs,n,hg,hv⟩:=r3.at hvs ea
 obtain⟨m,c,led,r'⟩:=r3
 have hll:=hl
 rw[ZC]at hll
 have hk:kk.toNat<xs.length:=by rw[hv.length];omega
 obtain⟨_,a',xs',n',h1,h2,h3⟩:=r'.R.lists b vs hvs ea.2
 rw[ea.1]at h1
 cases h1
 have h2:=r'.inLed hc.1 ea.1 h2
 have N2:News G.h₀ G.L k3 ((a,ZaA xs n)::led.filter (λq=>decide (q.1≠a))):=by
  intro q hq
  rcases Zz7.mp hq with e | hq
  ·subst e
   exact⟨hg,(r'.N _ h2).2⟩
  ·exact r'.N q (List.mem_filter.mp hq).1
 refine ki_set (its:=xs.toArray) (n:=n) (q:=xs.set kk.toNat x) r'.F N2 hc.2.1 .l (by simpa using ZjN hk) (Upd.head λq hq=>by simpa using (List.mem_filter.mp hq).2) λh' F' N'=>?_
 exact post W3 h' t3 ((l1.trans l2).trans l3) (r'.changed hc.1 hvs ea F' N' (hv.set _ x3) (by simpa using hl))
theorem J.append{apos:Pos}(ho:J prog w G o f)(he:J prog w G e g)(hbase:attributeBase o "append" G.env (eval o G.env)=eval o G.env:=by rfl)
  (hfew:((backTo pos (starEach [e] G.env)).all (λx=>!x.1) && (backToKw pos (keywordEach [] G.env)).all (λx=>x.1.isSome) && decide (([e]:List Expr).length+([]:List Keyword).length+(if([]:List Keyword).isEmpty then 0 else 1)<30))=true:=by rfl)
  (hline:(apos.endLine == pos.line)=true:=by rfl) (htrees:backTo pos (starEach [e] G.env)=[(false,eval e G.env)]:=by rfl):J prog w G (.Call (.Attribute o "append" apos) [e] [] pos) (Zal f g):=by
 intro W O H fr s Q E v H' r hx post
 obtain⟨p,e1,hx⟩:=Zz0.mp hx
 obtain⟨q,e2,e3⟩:=Zz0.mp hx
 refine wpAny_Call_append hbase hfew hline htrees (ho W O H fr s _ E _ _ r e1 λW1 k1 t1 x l1 r1 x1=>?_)
 obtain⟨v1,H1⟩:=p
 obtain⟨b,hb⟩:=ZlO e3
 subst hb
 have hb:=r1.refIn x1
 cases x1 with
 | @ref _ a ea=>
 obtain⟨_,xs,n,hg,hv⟩:=r1.at (Yy1 hb) ea
 refine⟨a,xs.toArray,rfl,⟨_,n,hg,rfl,rfl,rfl⟩,?_⟩
 refine he W1 O _ fr _ _ E _ _ r1 e2 λW2 k2 t2 y l2 r2 y2=>?_
 exact Zmq G W2 O _ fr _ Q E _ [.ref a,y] v H' r2 (.cons (.ref (l2.at ea)) (.cons y2 .nil)) e3 λW3 k3 t3 z l3 r3 z3=>post W3 k3 t3 z ((l1.trans l2).trans l3) r3 z3
abbrev Nx:=Nat->Hp->Option (Option V)
variable{nx:Nx}{z:Nx×Nat×Hp}
def Zqt(G:Cx)(W:Wd)(O:Lc)(H:Hp)(fr:List (Addr×Obj))(s:Shared)(It:Nat->List (Addr×Obj)->Prop)(i:Nat)(Q:Option Value->Shared->Prop): Option V->Prop
 | none=>∀(h':Heap) (tk':Nat),Rep G W O H fr h'->Q none { s with heap:=h',toks:=tk' }
 | some v=>∀(fs':List (Addr×Obj)) (h':Heap) (tk':Nat) (x:Value),It (i+1) fs'->Rep G W O H (fs'++fr) h'->VR W v x->Q (some x) { s with heap:=h',toks:=tk' }
structure Itr(prog:Program)(w:World)(G:Cx)(W0:Wd)(it:Value)(as:List Addr)(It:Nat->List (Addr×Obj)->Prop)(nx:Nx): Prop where
 adr:∀i fs,It i fs->fs.map (·.1)=as
 next:∀(i:Nat) (W:Wd) (O:Lc) (H:Hp) (fr fs:List (Addr×Obj)) (s:Shared) (Q:Option Value->Shared->Prop) (E:Value->Shared->Prop) (o:Option V),W0.Le W->Rep G W O H (fs++fr) s.heap->(∀a∈as,∀t∈fr,a≠t.1)->It i fs->nx i H=some o ->
  Zqt G W O H fr s It i Q o->wpAny (model prog w) G.A (pyNext it) Q E s
 self:∀(i:Nat) (W:Wd) (O:Lc) (H:Hp) (fr fs:List (Addr×Obj)) (s:Shared) (Q E:Value->Shared->Prop),W0.Le W->Rep G W O H (fs++fr) s.heap->It i fs->Q it s->wpAny (model prog w) G.A (pyIter it) Q E s
abbrev Src:=Lc->Hp->Option (Nx×Nat×Hp)
def JI(prog:Program)(w:World)(G:Cx)(e:Expr)(g:Src): Prop:=∀(W:Wd) (O:Lc) (H:Hp) (fr:List (Addr×Obj)) (s:Shared) (Q E:Value->Shared->Prop) (nx:Nx) (n:Nat) (H':Hp),
 Rep G W O H fr s.heap->g O H=some (nx,n,H') ->
 (∀(W':Wd) (h':Heap) (tk':Nat) (it:Value) (as:List Addr) (It:Nat->List (Addr×Obj)->Prop) (fs:List (Addr×Obj)),W.Le W'->It 0 fs->Rep G W' O H' (fs++fr) h'->(∀a∈as,∀t∈fr,a≠t.1)->Itr prog w G W' it as It nx->Q it { s with heap:=h',toks:=tk' }) ->
 wpAny (model prog w) G.A (eval e G.env) (λxv s₁=>wpAny (model prog w) G.A (pyIter xv) Q E s₁) E s
noncomputable def ZH(a:Nat): Nx:=λi H=>H[a]?.map λvs=>vs[i]?
noncomputable def ZdC(vs:List V): Nx:=λi _=>some vs[i]?
noncomputable def ZaK(a c:Int)(n:Nat): Nx:=λi _=>some (if i<n then some (.int (a+i*c))else none)
def ZU(f:Ex): Src:=λO H=>(f O H).bind λp=>match p.1 with
 | .ref a=>p.2[a]?.map λvs=>(ZH a,vs.length+1,p.2)
 | .tup vs=>some (ZdC vs,vs.length+1,p.2)
 | _=>none
noncomputable def rngN(a b c:Int): Nat:=(Builtin.Range.rangeSize a b c).toNat
def Zbt(a b c:Int)(H:Hp): Option (Nx×Nat×Hp):=if c≠0/\Builtin.Range.small a b c=true/\0<=Builtin.Range.rangeSize a b c/\rngN a b c<=ZK/\Builtin.divisionGoesByPylong (b-a) c=false then some (ZaK a c (rngN a b c),rngN a b c+1,H)else none
def ZaF(g:Exs): Src:=λO H=>(g O H).bind λp=>match p.1 with
 | [.int b]=>Zbt 0 b 1 p.2
 | [.int a,.int b]=>Zbt a b 1 p.2
 | [.int a,.int b,.int c]=>Zbt a b c p.2
 | _=>none
theorem ZfI(P:Nat->Obj->Prop)
  (next:∀(i:Nat) (W:Wd) (O:Lc) (H:Hp) (fr:List (Addr×Obj)) (ob:Obj) (s:Shared) (Q:Option Value->Shared->Prop) (E:Value->Shared->Prop) (o:Option V),W0.Le W->Rep G W O H ((I,ob)::fr) s.heap->P i ob->nx i H=some o ->
   (match o with
    | none=>∀(h':Heap) (tk':Nat),(∀b o,b≠I->s.heap.get? b=some o->h'.get? b=some o)->Q none { s with heap:=h',toks:=tk' }
    | some v=>∀(ob':Obj) (h':Heap) (tk':Nat) (x:Value),P (i+1) ob'->h'.get? I=some ob'->(∀b o,b≠I->s.heap.get? b=some o->h'.get? b=some o)->VR W v x->Q (some x) { s with heap:=h',toks:=tk' })->wpAny (model prog w) G.A (pyNext (.ref I)) Q E s)
  (self:∀(i:Nat) (W:Wd) (O:Lc) (H:Hp) (fr:List (Addr×Obj)) (ob:Obj) (s:Shared) (Q E:Value->Shared->Prop),W0.Le W->Rep G W O H ((I,ob)::fr) s.heap->P i ob->Q (.ref I) s->wpAny (model prog w) G.A (pyIter (.ref I)) Q E s):
  Itr prog w G W0 (.ref I) [I] (λi fs=>∃ob,fs=[(I,ob)]/\P i ob) nx:=by
 refine⟨?_,?_,?_⟩
 ·intro i fs q9;obtain⟨ob,e,_⟩:=q9
  rw[e]
  rfl
 ·rintro i W O H fr fs s Q E o le r ap ⟨ob,e,hp⟩ hn post
  subst e
  refine next i W O H fr ob s Q E o le r hp hn ?_
  have ap':∀q∈[(I,ob)],∀t∈fr,q.1≠t.1:=λq hq t ht=>by rw[List.mem_singleton.mp hq];exact ap I Zz5 t ht
  cases o with
  | none=>
   intro h' tk' keep
   have:=Rep.swap (fs:=[(I,ob)]) (fs':=[]) r ap' (λb o hb e=>keep b o (λq=>hb (by simp[q])) e) (λq hq=>nomatch hq)
   exact post h' tk' this
  | some v=>
   intro ob' h' tk' x hp' hg keep hx
   have:=Rep.swap (fs:=[(I,ob)]) (fs':=[(I,ob')]) r ap' (λb o hb e=>keep b o (λq=>hb (by simp[q])) e) (λq hq=>by rw[List.mem_singleton.mp hq];exact⟨hg,.s⟩)
   exact post [(I,ob')] h' tk' x ⟨ob',rfl,hp'⟩ this hx
 ·rintro i W O H fr fs s Q E le r ⟨ob,e,hp⟩ q
  subst e
  exact self i W O H fr ob s Q E le r hp q
theorem JI.seq(h:J prog w G e f): JI prog w G e (ZU f):=by
 intro W O H fr s Q E nx n H' r hf post
 obtain⟨p,e1,hf⟩:=Zz0.mp hf
 refine h W O H fr s _ E _ _ r e1 λW1 k1 t1 x l1 r1 x1=>?_
 obtain⟨v,H1⟩:=p
 cases x1 with
 | none=>first|exact Yx0 hf|cases hf
 | bool _=>first|exact Yx0 hf|cases hf
 | int _ _=>first|exact Yx0 hf|cases hf
 | str _ _=>first|exact Yx0 hf|cases hf
 | obj _ _ _ _=>first|exact Yx0 hf|cases hf
 | @tup vs a xs k hm hl hs=>
  cases hf
  have it:k1.IsTuple a xs.toArray:=⟨_,r1.tupAt hm,rfl,k,rfl⟩
  refine wpAny_pyIter_tuple it ?_
  obtain⟨r2,ap⟩:=r1.more (fs:=[(k1.objs.size,{ cls:=.type "tuple_iterator",data:=.fields #[.ref a,.int 0 0] })]) (λb o e=>Heap.get?_push_of_some { cls:=.type "tuple_iterator",data:=.fields #[.ref a,.int 0 0] } e) (λq hq=>by rw[List.mem_singleton.mp hq];exact⟨Heap.get?_push_size _ rfl,Nat.le_refl _⟩)
  refine post W1 _ t1 _ [k1.objs.size] _ _ l1 ⟨_,rfl,?_⟩ r2 (λb hb t ht=>by rw[List.mem_singleton.mp hb];exact ap _ Zz5 t ht)
   (ZfI (λi ob=>ob.cls=.type "tuple_iterator"/\ob.data=.fields #[.ref a,.int i 0]) ?_ ?_)
  ·intro i W O H fr ob s Q E o le r hp hn post
   have g1:s.heap.IsTupleIter k1.objs.size a i:=⟨ob,r.frAt Zz5,hp.1,hp.2⟩
   have g2:s.heap.IsTuple a xs.toArray:=⟨_,r.tupAt (le.tups _ hm),rfl,k,rfl⟩
   have ne:a≠k1.objs.size:=Nat.ne_of_lt (Heap.lt_size (r1.tupAt hm))
   have Wk:=Walks.tuple (prog:=prog) (w:=w) G.hh k1.objs.size a ne xs.toArray
   cases hn
   cases ev:vs[i]? with
   | none=>
    rw[ev]at post
    have hi:xs.toArray[i]?=none:=by have:=List.getElem?_eq_none_iff.mp ev;rw[<-hs.length]at this;simpa using this
    exact wpAny_pyNext_tuple_end G.hh g1 g2 hi λh' he'=>post h' s.toks λb o hb e=>he' b o hb e
   | some v=>
    rw[ev]at post
    obtain⟨y,hy,ry⟩:=hs.at ev
    refine wpAny_pyNext_tuple_item g1 g2 (x:=y) (by simpa using hy) λh' hit' hs'=>?_
    obtain⟨ob',h1,h2,h3⟩:=hit'
    exact post ob' h' s.toks y ⟨h2,h3⟩ h1 (λb o hb e=>hs'.extBut b o hb e) (ry.mono le)
  ·intro i W O H fr ob s Q E le r hp q
   exact wpAny_pyIter_tupleiter (⟨ob,r.frAt Zz5,hp.1,hp.2⟩:s.heap.IsTupleIter k1.objs.size a i) q
  ·exact⟨rfl,rfl⟩
 | @ref i0 a ea=>
  obtain⟨vs,e2,e3⟩:=Zz1.mp hf
  cases e3
  obtain⟨hl,xs,k,hg,hv⟩:=r1.at e2 ea
  have isl:k1.IsList a xs.toArray:=⟨_,hg,rfl,k,rfl⟩
  refine wpAny_pyIter_list isl ?_
  obtain⟨r2,ap⟩:=r1.more (fs:=[(k1.objs.size,{ cls:=.type "list_iterator",data:=.fields #[.ref a,.int 0 0] })]) (λb o e=>Heap.get?_push_of_some { cls:=.type "list_iterator",data:=.fields #[.ref a,.int 0 0] } e) (λq hq=>by rw[List.mem_singleton.mp hq];exact⟨Heap.get?_push_size _ rfl,Nat.le_refl _⟩)
  refine post W1 _ t1 _ [k1.objs.size] _ _ l1 ⟨_,rfl,?_⟩ r2 (λb hb t ht=>by rw[List.mem_singleton.mp hb];exact ap _ Zz5 t ht)
   (ZfI (λi ob=>ob.cls=.type "list_iterator"/\ob.data=.fields #[.ref a,.int i 0]) ?_ ?_)
  ·intro i W O H fr ob s Q E o le r hp hn post
   obtain⟨us,eu,e4⟩:=Zz1.mp hn
   subst e4
   obtain⟨hl2,ys,k2,hg2,hv2⟩:=r.at eu (le.at ea)
   have g1:s.heap.IsListIter k1.objs.size a i:=⟨ob,r.frAt Zz5,hp.1,hp.2⟩
   have g2:s.heap.IsList a ys.toArray:=⟨_,hg2,rfl,k2,rfl⟩
   cases ev:us[i]? with
   | none=>
    rw[ev]at post
    have hi:ys.toArray[i]?=none:=by have:=List.getElem?_eq_none_iff.mp ev;rw[<-hv2.length]at this;simpa using this
    exact wpAny_pyNext_list_end G.hh g1 g2 hi λh' he'=>post h' s.toks λb o hb e=>he' b o hb e
   | some v=>
    rw[ev]at post
    obtain⟨y,hy,ry⟩:=hv2.at ev
    refine wpAny_pyNext_list_item g1 g2 (x:=y) (by simpa using hy) λh' hit' hs'=>?_
    obtain⟨ob',h1,h2,h3⟩:=hit'
    exact post ob' h' s.toks y ⟨h2,h3⟩ h1 (λb o hb e=>hs'.extBut b o hb e) ry
  ·intro i W O H fr ob s Q E le r hp q
   exact wpAny_pyIter_listiter (⟨ob,r.frAt Zz5,hp.1,hp.2⟩:s.heap.IsListIter k1.objs.size a i) q
  ·exact⟨rfl,rfl⟩
theorem ZlP{b:Int}(h:Zbt a b c H=some z): c≠0/\Builtin.divisionGoesByPylong (b-a) c=false:=by
 unfold Zbt at h
 split at h
 ·rename_i hc
  exact⟨hc.1,hc.2.2.2.2⟩
 ·first|exact Yx0 h|cases h
theorem Zm2: Itr prog w G W0 (.ref I) [I] (λi fs=>∃ob,fs=[(I,ob)]/\(i<=n/\ob = { cls:=.type "range_iterator",dict:=none,data:=.fields #[rawInt (a+(i:Nat)*c),rawInt ((n:Int)-(i:Nat)),rawInt c],slots:=#[] })) (ZaK a c n):=by
 have Wk:=Walks.range (prog:=prog) (w:=w) G.hh I a c n
 refine ZfI (λi ob=>i<=n/\ob = { cls:=.type "range_iterator",dict:=none,data:=.fields #[rawInt (a+(i:Nat)*c),rawInt ((n:Int)-(i:Nat)),rawInt c],slots:=#[] }) ?_ ?_
 ·intro i W O H fr ob s Q E o le r hp hn post
  have g:IsRangeIter s.heap I (a+(i:Nat)*c) ((n:Int)-(i:Nat)) c:=(r.frAt Zz5).trans (congrArg some hp.2)
  cases hn
  by_cases hi:i<n
  ·rw[if_pos hi]at post
   refine Wk.item i s Q E hi g λv h' tk hv st keep=>?_
   obtain⟨t,e⟩:=hv
   subst e
   exact post _ h' tk _ ⟨hi,rfl⟩ st (λb o hb e=>keep b o (by simpa using hb) e) (.int _ _)
  ·rw[if_neg hi]at post
   have e:i=n:=by have:=hp.1;lia
   subst e
   exact Wk.done s Q E g λh' tk keep=>post h' tk λb o hb e=>keep b o (by simpa using hb) e
 ·intro i W O H fr ob s Q E le r hp q
  have g:IsRangeIter s.heap I (a+(i:Nat)*c) ((n:Int)-(i:Nat)) c:=(r.frAt Zz5).trans (congrArg some hp.2)
  exact Wk.self i s Q E g q
theorem Zg0{b:Int}{t u v:Tok}{W:Wd}{O:Lc}{k:Heap}{tk:Nat}{Q E:Value->Shared->Prop}{H':Hp}(r:Rep G W O H fr k)(hm:Zbt a b c H=some (nx,n,H'))
  (post:∀(W':Wd) (h':Heap) (tk':Nat) (it:Value) (as:List Addr) (It:Nat->List (Addr×Obj)->Prop) (fs:List (Addr×Obj)),W.Le W'->It 0 fs->Rep G W' O H' (fs++fr) h'->(∀a∈as,∀t∈fr,a≠t.1)->Itr prog w G W' it as It nx->Q it { s with heap:=h',toks:=tk' }):
  wpAny (model prog w) G.A (pyIter (.ref k.objs.size)) Q E { s with heap:=k.push { cls:=.type "range",data:=.fields #[.int a t,.int b u,.int c v] },toks:=tk }:=by
 unfold Zbt at hm
 split at hm
 ·rename_i hc
  cases hm
  have hr:IsRange (k.push { cls:=.type "range",data:=.fields #[.int a t,.int b u,.int c v] }) k.objs.size a b c t u v:=IsRange.new ..
  refine wpAny_pyIter_range hr hc.2.1 ?_
  have rp:=r.push { cls:=.type "range",data:=.fields #[.int a t,.int b u,.int c v] }
  have en:Builtin.Range.rangeSize a b c=((rngN a b c:Nat):Int):=(Int.toNat_of_nonneg hc.2.2.1).symm
  dsimp only
  generalize hk:k.push { cls:=.type "range",data:=.fields #[.int a t,.int b u,.int c v] } = k2 at rp ⊢
  obtain⟨r2,ap⟩:=rp.more (fs:=[(k2.objs.size,{ cls:=.type "range_iterator",data:=.fields #[rawInt a,rawInt (Builtin.Range.rangeSize a b c),rawInt c] })]) (λb' o e=>Heap.get?_push_of_some { cls:=.type "range_iterator",data:=.fields #[rawInt a,rawInt (Builtin.Range.rangeSize a b c),rawInt c] } e) (λq hq=>by rw[List.mem_singleton.mp hq];exact⟨Heap.get?_push_size _ rfl,Nat.le_refl _⟩)
  refine post W _ tk _ [k2.objs.size] _ _ (.refl W) ⟨_,rfl,Nat.zero_le _,?_⟩ r2 (λb hb t ht=>by rw[List.mem_singleton.mp hb];exact ap _ Zz5 t ht) (Zm2 (a:=a) (c:=c) (n:=rngN a b c))
  rw[en]
  simp
 ·first|exact Yx0 hm|cases hm
theorem JI.range{np:Pos}{g:Exs}(hn:Nm prog w G x (.type "range"))(h:Js prog w G (e::es) g)
  (he:starEach (e::es) G.env=(false,eval e G.env)::starEach es G.env:=by rfl) (hp:∀pos,(backTo pos (starEach es G.env)).any (·.1)=false:=by intro _;rfl):JI prog w G (.Call (.Name x np) (e::es) [] pos) (ZaF g):=by
 intro W O H fr s Q E nx n H' r hf post
 obtain⟨p,e1,hf⟩:=Zz0.mp hf
 refine wpAny_Call_ofName (hn.use r ?_)
 refine PySem.Pv.callWith_type1 (h pos W O H fr s _ E _ _ r e1 λW1 k1 t1 xs l1 r1 x1=>?_) he (hp pos)
 obtain⟨vs,H1⟩:=p
 dsimp only at hf x1 r1
 have post1:=λW' h' tk' it as It fs (l:W1.Le W')=>post W' h' tk' it as It fs (l1.trans l)
 split at hf
 ·obtain⟨y,ex,ry⟩:=x1.one
  subst ex
  cases ry
  exact call_range_1 (Zg0 r1 hf post1)
 ·obtain⟨y,z,ex,ry,rz⟩:=x1.two
  subst ex
  cases ry
  cases rz
  exact call_range_2 (Zg0 r1 hf post1)
 ·cases x1 with
  | cons ry x1=>
  obtain⟨y,z,ex,rz,ru⟩:=x1.two
  subst ex
  cases ry
  cases rz
  cases ru
  have hc:=ZlP hf
  exact call_range_3 hc.1 (Zg0 r1 hf post1) (.inl hc.2)
 ·first|exact Yx0 hf|cases hf
noncomputable def ZaR(nx:Nx)(put:V->Lc->Option Lc)(b:Sm): Nat->Nat->Sm
 | 0,_=>λ_ _=>none
 | n+1,i=>λO H=>(nx i H).bind λo=>match o with
  | none=>some (none,O,H)
  | some v=>(put v O).bind λB=>(b B H).bind λq=>match q.1 with
   | some _=>some q
   | none=>ZaR nx put b n (i+1) q.2.1 q.2.2
def Zaq(g:Src)(put:V->Lc->Option Lc)(b:Sm): Sm:=λO H=>(g O H).bind λz=>ZaR z.1 put b z.2.1 0 O z.2.2
def Zu(i:Nat): V->Lc->Option Lc:=λv O=>some (Zi O i v)
theorem ZbL{i:Nat}{px:Pos}{it:Expr}{body:List Stmt}{g:Src}{b:Sm}(hx:Sto prog w G x i)(hg:JI prog w G it g)(hb:Ss prog w G body b)(hs:∀x,foldedSetIterable it G.env x=pure x:=by intro _;rfl): S1 prog w G (.For (.Name x px) it body [] pos) (Zaq g (Zu i) b):=by
 intro W O H fr s Q E r rp hf post
 obtain⟨z,e1,hf⟩:=Zz0.mp hf
 obtain⟨nx,n,H0⟩:=z
 refine wpAny_For (hg W O H fr s _ E nx n H0 rp e1 λW1 k1 t1 itv as It fs l1 i1 r1 ap I1=>?_) hs
 refine codeAny_forLoop (λk s'=>∃W' U H' h' tk' j fs',s' = { s with heap:=h',toks:=tk' }/\W1.Le W'/\It j fs'/\Rep G W' U H' (fs'++fr) h'/\ZaR nx (Zu i) b k j U H'=some r) ?_ n ⟨W1,O,H0,k1,t1,0,fs,rfl,.refl _,i1,r1,hf⟩
 intro k s' q9;obtain⟨W2,ρ2,H2,k2,t2,j,fs2,rfl,l2,i2,r2,e⟩:=q9
 cases k with
 | zero=>first|exact Yx0 e|cases e
 | succ k=>
  obtain⟨o,e2,e⟩:=Zz0.mp e
  refine I1.next j W2 ρ2 H2 fr fs2 _ _ _ o l2 r2 ap i2 e2 ?_
  cases o with
  | none=>
   cases e
   intro h' tk' r3
   exact wpAny_execs_nil (post W2 h' tk' (l1.trans l2) r3)
  | some v=>
   intro fs3 k3 t3 y i3 r3 y3
   obtain⟨ρ3,e3,e⟩:=Zz0.mp e
   cases e3
   obtain⟨q,e4,e⟩:=Zz0.mp e
   refine wpAny_assign_Name (hx W2 ρ2 H2 (fs3++fr) _ _ _ v y r3 y3 λk4 t4 r4=>?_)
   refine hb W2 _ H2 (fs3++fr) _ _ _ q r4 e4 ?_
   obtain⟨u,ρ5,H5⟩:=q
   cases u with
   | some u=>
    cases e
    exact λW5 k5 t5 x5 l5 r5 v5=>post W5 k5 t5 x5 ((l1.trans l2).trans l5) (r5.less λq hq=>List.mem_append_right _ hq) v5
   | none=>exact λW5 k5 t5 l5 r5=>⟨k,Nat.lt_succ_self k,W5,ρ5,H5,k5,t5,j+1,fs3,rfl,l2.trans l5,i3,r5,e⟩
end PM
end
section
namespace PM
open PySem PySem.W PySem.Calls PyProof.Rows PyProof
variable{names:List Str}{cs:Scope}{cl:List (Str×Addr)}{m:Str->Option Value}{cells:List (Addr×Obj)}{x:Str}{i:Nat}
structure OwnF(names:List Str)(cs:Scope)(cl:List (Str×Addr))(W:Wd)(O:Lc)(m:Str->Option Value)(cells:List (Addr×Obj)): Prop where
 loc:∀(i:Nat) (x:Str) (v:V),names[i]?=some x->cs.names.lookup x=some .local->O i=some v->∃y,m x=some y/\VR W v y
 cel:∀(i:Nat) (x:Str) (v:V),names[i]?=some x->cs.names.lookup x=some .cell->O i=some v->∃c o y,cl.lookup x=some c/\(c,o)∈cells/\o.data=.cell (some y)/\VR W v y
 all:∀(x:Str) (c:Addr),cl.lookup x=some c->∃o v₀,(c,o)∈cells/\o.data=.cell v₀
 one:∀(x y:Str) (c:Addr),cl.lookup x=some c->cl.lookup y=some c->x=y
theorem OwnF.mono{W W':Wd}{O:Lc}(l:W.Le W')(h:OwnF names cs cl W O m cells): OwnF names cs cl W' O m cells:=
 ⟨λi x v a b c=>by
  obtain⟨y,h1,h2⟩:=h.loc i x v a b c
  exact⟨y,h1,h2.mono l⟩,λi x v a b c=>by
  obtain⟨d,o,y,h1,h2,h3,h4⟩:=h.cel i x v a b c
  exact⟨d,o,y,h1,h2,h3,h4.mono l⟩,h.all,h.one⟩
noncomputable def ZaN(dp un:Nat)(gd:Option (List Code))(cn:Str)(cs:Scope)(L a:Addr)(ccd:Value)(cl:List (Str×Addr))(outer:List Env)(h₀:Heap)(hu:un+200<cLine)(names:List Str): Cx where
 A:=ktrTop dp un gd cn cs L a ccd cl outer
 env:=envX cn cs L a ccd cl
 h₀:=h₀
 L:=L
 hh:=rfl
 hu:=hu
 Own:=OwnF names cs cl
 mono:=OwnF.mono
section
variable {prog:Program} {w:World} {dp un:Nat} {gd:Option (List Code)} {cn:Str} {cs:Scope} {L a:Addr} {ccd:Value} {cl:List (Str×Addr)} {outer:List Env} {h₀:Heap} {hu:un+200<cLine} {names:List Str}
theorem ZoX(hi:names[i]?=some x)(hx:cs.names.lookup x=some .local)(hk:cs.kind=.function)(hd:(x == ("__debug__":Str))=false): Rd prog w (ZaN dp un gd cn cs L a ccd cl outer h₀ hu names) x i:=by
 intro W O H fr s Q E v pos r e q
 obtain⟨m,c,led,r⟩:=r
 obtain⟨y,h1,h2⟩:=r.own.loc i x v hi hx e
 exact nameX_L r.F h1 (q y h2) hk hx hd
theorem ZoY(hi:names[i]?=some x)(hx:cs.names.lookup x=some .cell)(hk:cs.kind=.function)(hd:(x == ("__debug__":Str))=false): Rd prog w (ZaN dp un gd cn cs L a ccd cl outer h₀ hu names) x i:=by
 intro W O H fr s Q E v pos r e q
 obtain⟨m,c,led,r⟩:=r
 obtain⟨d,o,y,h1,h2,h3,h4⟩:=r.own.cel i x v hi hx e
 exact nameX_C r.N h1 (r.clIn _ h2) h3 (q y h4) hk hx hd
theorem ZnL(nd:names.Nodup)(hi:names[i]?=some x)(hx:cs.names.lookup x=some .local)(hk:cs.kind=.function): Sto prog w (ZaN dp un gd cn cs L a ccd cl outer h₀ hu names) x i:=by
 intro W O H fr s Q E v y r vy q
 obtain⟨m,c,led,r⟩:=r
 have hi':i<names.length:=(Zz6.mp hi).1
 refine storeX_L r.F r.N (λh' F' N'=>q h' _ ⟨_,c,led,⟨F',N',r.R,r.sc,r.sc0,r.frIn,r.frOff,r.clIn,r.clOff,r.apart,r.frTup,r.clTup,⟨λj z u hj hz hu=>?_,λj z u hj hz hu=>?_,r.own.all,r.own.one⟩⟩⟩) hk hx
 ·by_cases e:j=i
  ·subst e
   rw[hi]at hj
   cases hj
   simp only[Zi,if_true]at hu
   cases hu
   exact⟨y,.s,vy⟩
  ·have hzx:z≠x:=λe'=>by
    subst e'
    exact e ((List.getElem?_inj (Zz6.mp hj).1 nd).mp (hj.trans hi.symm))
   simp only[Zi,if_neg e]at hu
   obtain⟨y',h1,h2⟩:=r.own.loc j z u hj hz hu
   exact⟨y',by simp[hzx,h1],h2⟩
 ·by_cases e:j=i
  ·subst e
   rw[hi]at hj
   cases hj
   rw[hx]at hz
   cases hz
  ·simp only[Zi,if_neg e]at hu
   exact r.own.cel j z u hj hz hu
theorem ZnM(nd:names.Nodup)(hi:names[i]?=some x)(hx:cs.names.lookup x=some .cell)(hk:cs.kind=.function)(hcl:(cl.lookup x).isSome=true): Sto prog w (ZaN dp un gd cn cs L a ccd cl outer h₀ hu names) x i:=by
 intro W O H fr s Q E v y r vy q
 obtain⟨m,c,led,r⟩:=r
 obtain⟨d,hd⟩:=Option.isSome_iff_exists.mp hcl
 obtain⟨o,v₀,ho,hv₀⟩:=r.own.all x d hd
 have inl:=r.clIn _ ho
 have N2:News h₀ L s.heap ((d,o)::led.filter (λq=>decide (q.1≠d))):=by
  intro q hq
  rcases Zz7.mp hq with e | hq
  ·subst e
   exact r.N _ inl
  ·exact r.N q (List.mem_filter.mp hq).1
 refine storeX_C r.F N2 hd (UpdF.head λq hq=>by simpa using (List.mem_filter.mp hq).2) hv₀ (λh' o' F' N' ho'=>?_) hk hx
 have keep:∀q∈led,q.1≠d->q∈(d,o')::led.filter (λq=>decide (q.1≠d)):=λq hq hn=>Yy3 _ (Yy9.mpr ⟨hq,by simpa using hn⟩)
 refine q h' s.toks ⟨m,(d,o')::c.filter (λq=>decide (q.1≠d)),_,⟨F',N',⟨r.R.len,r.R.nd,λj vs e ni=>?_,λq hq=>Zbe (r.R.tups q hq) λz=>keep q z (r.clTup _ ho q hq).symm,r.R.kind,λj vs fs e hi=>?_,r.R.inlt,r.R.iuni⟩,r.sc,r.sc0,λq hq=>keep q (r.frIn q hq) (r.apart _ ho q hq).symm,r.frOff,λq hq=>?_,λq hq=>?_,λq hq t ht=>?_,r.frTup,λq hq t ht=>?_,⟨λj z u hj hz hu=>?_,λj z u hj hz hu=>?_,λz e hz=>?_,r.own.one⟩⟩⟩
 ·obtain⟨l,b,xs,k,h1,h2,h3⟩:=r.R.lists j vs e ni
  exact⟨l,b,xs,k,h1,Zbe h2 λz=>keep _ z λe=>r.clOff _ ho (e▸Yy4 h1),h3⟩
 ·obtain⟨l,b,od,xs,h1,h2,h3⟩:=r.R.objs j vs fs e hi
  exact⟨l,b,od,xs,h1,Zbe h2 λz=>keep _ z λe=>r.clOff _ ho (e▸Yy4 h1),h3⟩
 ·rcases Zz7.mp hq with e | hq
  ·exact e▸List.mem_cons_self
  ·obtain⟨h1,h2⟩:=List.mem_filter.mp hq
   exact keep q (r.clIn q h1) (by simpa using h2)
 ·rcases Zz7.mp hq with e | hq
  ·rw[e]
   exact(r.clOff _ ho:d∉W.pi)
  ·exact r.clOff q (List.mem_filter.mp hq).1
 ·rcases Zz7.mp hq with e | hq
  ·rw[e]
   exact(r.apart _ ho t ht:d≠t.1)
  ·exact r.apart q (List.mem_filter.mp hq).1 t ht
 ·rcases Zz7.mp hq with e | hq
  ·rw[e]
   exact(r.clTup _ ho t ht:d≠t.1)
  ·exact r.clTup q (List.mem_filter.mp hq).1 t ht
 ·by_cases e:j=i
  ·subst e
   rw[hi]at hj
   cases hj
   rw[hx]at hz
   cases hz
  ·simp only[Zi,if_neg e]at hu
   exact r.own.loc j z u hj hz hu
 ·by_cases e:j=i
  ·subst e
   rw[hi]at hj
   cases hj
   simp only[Zi,if_true]at hu
   cases hu
   exact⟨d,o',y,hd,List.mem_cons_self,ho',vy⟩
  ·have hzx:z≠x:=λe'=>by
    subst e'
    exact e ((List.getElem?_inj (Zz6.mp hj).1 nd).mp (hj.trans hi.symm))
   simp only[Zi,if_neg e]at hu
   obtain⟨b,ob,y',h1,h2,h3,h4⟩:=r.own.cel j z u hj hz hu
   have:b≠d:=λe'=>by
    subst e'
    exact hzx (r.own.one z x b h1 hd)
   exact⟨b,ob,y',h1,Yy3 _ (Yy9.mpr ⟨h2,by simpa using this⟩),h3,h4⟩
 ·by_cases e':e=d
  ·subst e'
   exact⟨o',_,List.mem_cons_self,ho'⟩
  ·obtain⟨ob,v1,h1,h2⟩:=r.own.all z e hz
   exact⟨ob,v1,Yy3 _ (Yy9.mpr ⟨h1,by simpa using e'⟩),h2⟩
end
end PM
end
section
namespace PM
open PySem PySem.W PySem.Calls PyProof.Rows PyProof PyProof.Rows.LCg
variable{O B:Lc}{H:Hp}{fr fs:List (Addr×Obj)}{h h':Heap}{D C:Addr}{ys:List Value}{k t j:Nat}{vs acc:List V}{oC o o':Obj}{u m:Str->Option Value}{a b:Addr×Obj}{scope:Scope}{cl:List (Str×Addr)}{elt iter:Expr}{ts:List (Str×Nat)}{W0:Wd}{It:Nat->List (Addr×Obj)->Prop}{nx:Nx}{c:Ts}{f:Ex}{q:List V×Hp}{s:Shared}{E:Value->Shared->Prop}{ifs:List Expr}{as:List Addr}{P:Value->Addr->Env->Shared->Prop}{x:Str}{px pos:Pos}{g:Src}
variable{prog:Program}{w:World}{G:Cx}
theorem Zg8{W:Wd}(r:Rep G W O H ((D,ZaA ys k)::fr) h)(ap:∀t∈fr,D≠t.1)(hv:VRs W vs ys)(hl:vs.length<=ZK):
  ∃W',W.Le W'/\Rep G W' O (H++[vs]) fr h/\VR W' (.ref H.length) (.ref D):=by
 obtain⟨m,c,led,r⟩:=r
 have le:W.Le ⟨W.pi++[D],W.tups,W.sc,W.ins⟩:=⟨List.prefix_append _ _,λq hq=>hq,rfl,λ_ h=>h,λ_ h=>.inl h⟩
 have nin:∀q∈W.ins,q.1≠H.length:=λq hq e=>by have:=r.R.inlt q hq;lia
 have h0:0<W.pi.length:=(Zz6.mp r.sc0).1
 have at_n:(W.pi++[D])[H.length]?=some D:=by rw[<-r.R.len];simp
 have off:=r.frOff _ Zz5
 refine⟨⟨W.pi++[D],W.tups,W.sc,W.ins⟩,le,⟨m,c,led,⟨r.F,r.N,⟨by simp[r.R.len],?_,λi us e ni=>?_,r.R.tups,r.R.kind,λi us fs e hi=>?_,λq hq=>by have:=r.R.inlt q hq;simp;lia,r.R.iuni⟩,r.sc,(Yy0 h0).trans r.sc0,λq hq=>r.frIn q (Zz2 _ hq),λq hq=>?_,r.clIn,λq hq=>?_,λq hq t ht=>r.apart q hq t (Zz2 _ ht),λq hq=>r.frTup q (Zz2 _ hq),r.clTup,G.mono le r.own⟩⟩,.ref ⟨at_n,nin⟩⟩
 ·show(W.pi++[D]).Nodup
  rw[List.nodup_append]
  refine⟨r.R.nd,.s,λa ha b hb=>?_⟩
  rw[List.mem_singleton.mp hb]
  exact λe=>off (e▸ha)
 ·by_cases hi:i<H.length
  ·rw[Yy0 hi]at e
   obtain⟨l,a,zs,j,h1,h2,h3⟩:=r.R.lists i us e ni
   exact⟨l,a,zs,j,le.piAt h1,h2,h3.mono le⟩
  ·have:i=H.length:=by
    have:=(Zz6.mp e).1
    simp at this
    lia
   subst this
   simp at e
   subst e
   exact⟨hl,D,ys,k,at_n,Yy3 _ (r.frIn _ Zz5),hv.mono le⟩
 ·have hi':i<H.length:=r.R.inlt _ hi
  rw[Yy0 hi']at e
  obtain⟨l,a,od,zs,h1,h2,h3,h4⟩:=r.R.objs i us fs e hi
  exact⟨l,a,od,zs,le.piAt h1,h2,h3,h4.mono le⟩
 ·intro hm
  rcases Zz8.mp hm with hm | hm
  ·exact r.frOff q (Zz2 _ hq) hm
  ·exact ap q hq (Zz9.mp hm).symm
 ·intro hm
  rcases Zz8.mp hm with hm | hm
  ·exact r.clOff q hq hm
  ·exact r.apart q hq _ Zz5 (Zz9.mp hm)
def Zq7(G:Cx)(C:Addr)(ts:List (Str×Nat))(ρ0:Lc)(W:Wd)(O:Lc)(m:Str->Option Value)(cells:List (Addr×Obj)): Prop:=
 ∃oC u cs,cells=(C,oC)::cs/\(∀q∈cs,q.1≠C)/\NsObj oC u/\(∀p∈ts,∃v y,O p.2=some v/\u p.1=some y/\VR W v y)/\(∀j,(∀p∈ts,p.2≠j)->O j=ρ0 j)/\G.Own W ρ0 m cs
noncomputable def Zav(G:Cx)(scope:Scope)(cl:List (Str×Addr))(C:Addr)(ts:List (Str×Nat))(ρ0:Lc): Cx where
 A:=G.A
 env:=compEnvC scope cl C G.env
 h₀:=G.h₀
 L:=G.L
 hh:=G.hh
 hu:=G.hu
 Own:=Zq7 G C ts ρ0
 mono:=λl h=>by
  obtain⟨oC,u,cs,e,h0,h1,h2,h3,h4⟩:=h
  exact⟨oC,u,cs,e,h0,h1,λp hp=>by
   obtain⟨v,y,a,b,c⟩:=h2 p hp
   exact⟨v,y,a,b,c.mono l⟩,h3,G.mono l h4⟩
section
variable {G:Cx} {scope:Scope} {cl:List (Str×Addr)} {C:Addr} {ts:List (Str×Nat)} {ρ0:Lc} {W:Wd} {O:Lc} {H:Hp} {fr:List (Addr×Obj)} {h:Heap}
theorem ZjO(r:Rep G W ρ0 H ((C,oC)::fr) h)(ap:∀t∈fr,C≠t.1)(hC:NsObj oC u)(ht:∀p∈ts,∃v y,O p.2=some v/\u p.1=some y/\VR W v y)(hj:∀j,(∀p∈ts,p.2≠j)->O j=ρ0 j): Rep (Zav G scope cl C ts ρ0) W O H fr h:=by
 obtain⟨m,c,led,r⟩:=r
 refine⟨m,(C,oC)::c,led,⟨r.F,r.N,r.R,r.sc,r.sc0,λq hq=>r.frIn q (Zz2 _ hq),λq hq=>r.frOff q (Zz2 _ hq),λq hq=>?_,λq hq=>?_,λq hq t ht=>?_,λq hq=>r.frTup q (Zz2 _ hq),λq hq t ht=>?_,⟨oC,u,c,rfl,λq hq=>r.apart q hq _ Zz5,hC,ht,hj,r.own⟩⟩⟩
 ·rcases Zz7.mp hq with e | hq
  ·exact e▸r.frIn _ Zz5
  ·exact r.clIn q hq
 ·rcases Zz7.mp hq with e | hq
  ·exact e▸r.frOff _ Zz5
  ·exact r.clOff q hq
 ·rcases Zz7.mp hq with e | hq
  ·exact e▸ap t ht
  ·exact r.apart q hq t (Zz2 _ ht)
 ·rcases Zz7.mp hq with e | hq
  ·exact e▸r.frTup _ Zz5 t ht
  ·exact r.clTup q hq t ht
theorem Rep.fromC(r:Rep (Zav G scope cl C ts ρ0) W O H fr h): ∃oC u,NsObj oC u/\Rep G W ρ0 H ((C,oC)::fr) h:=by
 obtain⟨m,c,led,r⟩:=r
 obtain⟨oC,u,cs,e,h0,h1,h2,h3,h4⟩:=r.own
 subst e
 refine⟨oC,u,h1,m,cs,led,⟨r.F,r.N,r.R,r.sc,r.sc0,λq hq=>?_,λq hq=>?_,λq hq=>r.clIn q (Zz2 _ hq),λq hq=>r.clOff q (Zz2 _ hq),λq hq t ht=>?_,λq hq t ht=>?_,λq hq=>r.clTup q (Zz2 _ hq),h4⟩⟩
 ·rcases Zz7.mp hq with e | hq
  ·exact e▸r.clIn _ Zz5
  ·exact r.frIn q hq
 ·rcases Zz7.mp hq with e | hq
  ·exact e▸r.clOff _ Zz5
  ·exact r.frOff q hq
 ·rcases Zz7.mp ht with e | ht
  ·rw[e]
   exact h0 q hq
  ·exact r.apart q (Zz2 _ hq) t ht
 ·rcases Zz7.mp hq with e | hq
  ·exact e▸r.clTup _ Zz5 t ht
  ·exact r.frTup q hq t ht
end
def JF(prog:Program)(w:World)(G:Cx)(ifs:List Expr)(f:Ts): Prop:=∀(W:Wd) (O:Lc) (H:Hp) (fr:List (Addr×Obj)) (s:Shared) (Q:Bool->Shared->Prop) (E:Value->Shared->Prop) (b:Bool) (H':Hp),
 Rep G W O H fr s.heap->f O H=some (b,H')->Zf2 G W O H' fr s Q b ->
 wpAny (model prog w) G.A (forIn ifs true λc r=>if r=true then do let ok <-isTrue c G.env (eval c G.env);pure (ForInStep.yield ok)else pure (ForInStep.yield r)) Q E s
theorem JF.nil: JF prog w G [] ZD:=λW O H fr s Q E b H' r hf post=>by
 cases hf
 exact wpAny_pure (post W s.heap s.toks (.refl W) r)
theorem JF.one{e:Expr}{t:Ts}(h:JT prog w G e t): JF prog w G [e] t:=λW O H fr s Q E b H' r hf post=>by
 rw[List.forIn_cons]
 simp only[if_true,List.forIn_nil]
 refine wpAny_bind (wpAny_bind (h W O H fr s _ E b H' r hf λW1 k1 t1 l1 r1=>wpAny_pure ?_))
 exact wpAny_pure (post W1 k1 t1 l1 r1)
def Zad(nx:Nx)(put:V->Lc->Option Lc)(c:Ts)(f:Ex)(O:Lc): Nat->Nat->List V->Hp->Option (List V×Hp)
 | 0,_,_,_=>none
 | n+1,i,acc,H=>(nx i H).bind λo=>match o with
  | none=>some (acc,H)
  | some v=>(put v O).bind λB=>(c B H).bind λb=>if b.1 then(f B b.2).bind λp=>(if acc.length<ZK then Zad nx put c f O n (i+1) (acc++[p.1]) p.2 else none)else Zad nx put c f O n (i+1) acc b.2
def Z5(g:Src)(put:V->Lc->Option Lc)(c:Ts)(f:Ex): Ex:=λO H=>(g O H).bind λz=>(Zad z.1 put c f O z.2.1 0 [] z.2.2).map λq=>(.ref q.2.length,q.2++[q.1])
def ZdQ(G:Cx)(W0:Wd)(O:Lc)(fr:List (Addr×Obj))(C D:Addr)(It:Nat->List (Addr×Obj)->Prop)(nx:Nx)(put:V->Lc->Option Lc)(c:Ts)(f:Ex)(q:List V×Hp)(s:Shared)(k:Nat)(s':Shared): Prop:=
 ∃W' H' h' tk' j fs acc ys oC u,s' = { s with heap:=h',toks:=tk' }/\W0.Le W'/\It j fs/\NsObj oC u/\VRs W' acc ys/\acc.length<=ZK/\Rep G W' O H' ((C,oC)::(D,lst ys)::(fs++fr)) h'/\Zad nx put c f O k j acc H'=some q
theorem Rep.sh1{W:Wd}(r:Rep G W O H (a::b::(fs++fr)) h): Rep G W O H (fs++(a::b::fr)) h:=r.less λq hq=>by
 simp only[List.mem_cons,List.mem_append]at hq ⊢
 rcases hq with h | h | h | h <;> simp[h]
theorem Rep.sh2{W:Wd}(r:Rep G W O H (fs++(a::b::fr)) h): Rep G W O H ([a]++(b::(fs++fr))) h:=r.less λq hq=>by
 simp only[List.mem_cons,List.mem_append,List.cons_append,List.nil_append]at hq ⊢
 rcases hq with h | h | h | h <;> simp[h]
theorem Rep.sh3{W:Wd}(r:Rep G W O H (a::b::fs) h): Rep G W O H (b::a::fs) h:=r.less λq hq=>by
 simp only[List.mem_cons]at hq ⊢
 rcases hq with h | h | h <;> simp[h]
theorem Rep.put{W:Wd}{a:Addr}(r:Rep G W O H ((a,o)::fr) h)(ap:∀t∈fr,a≠t.1)(up:∀b x,b≠a->h.get? b=some x->h'.get? b=some x)(g:h'.get? a=some o'): Rep G W O H ((a,o')::fr) h':=by
 refine Rep.swap (fs:=[(a,o)]) (fs':=[(a,o')]) r (λq hq t ht=>?_) (λb x hb e=>up b x (λz=>hb (by simp[z])) e) λq hq=>?_
 ·rw[List.mem_singleton.mp hq]
  exact ap t ht
 ·rw[List.mem_singleton.mp hq]
  exact⟨g,.s⟩
theorem ZiK{W:Wd}{put:V->Lc->Option Lc}{tk:Nat}
  (hel:J prog w (Zav G scope cl C ts O) elt f) (aD:∀t∈fs++fr,D≠t.1) (cd:C≠D) (l0:W0.Le W) (hit:It (j+1) fs) (hv:VRs W acc ys) (r:Rep (Zav G scope cl C ts O) W B H ((D,lst ys)::(fs++fr)) h)
  (e:((f B H).bind λp=>(if acc.length<ZK then Zad nx put c f O k (j+1) (acc++[p.1]) p.2 else none))=some q):
  wpAny (model prog w) G.A (eval elt (compEnvC scope cl C G.env)) (λx s₄=>wpAny (model prog w) G.A (call (.builtin "list.append") [.ref D,x]) (λ_ s₅=>∃m,m<k+1/\ZdQ G W0 O fr C D It nx put c f q s m s₅) E s₄) E { s with heap:=h,toks:=tk }:=by
 obtain⟨p,e2,e⟩:=Zz0.mp e
 by_cases hlt:acc.length<ZK
 ·rw[if_pos hlt]at e
  refine hel W B H _ _ _ E _ _ r e2 λW2 k2 t2 x l2 r2 x2=>?_
  obtain⟨oC',m₃,hC',r3⟩:=r2.fromC
  have hD:k2.get? D=some (lst ys):=r3.frAt (q:=(D,lst ys)) (Zz2 _ Zz5)
  refine append_at (hsz:=Zbr (by rw[List.size_toArray,hv.length];lia)) hD λh' sb hg=>?_
  have hg':h'.get? D=some (lst (ys++[x])):=hg.trans (congrArg some (lst_snoc ys x))
  have r6:=(r3.sh3.put (λt ht=>by
   rcases Zz7.mp ht with e | ht
   ·rw[e]
    exact cd.symm
   ·exact aD t ht) (λb o hb e=>sb.extBut b o hb e) hg').sh3
  exact⟨k,Nat.lt_succ_self k,W2,p.2,h',t2,j+1,fs,acc++[p.1],ys++[x],oC',m₃,rfl,l0.trans l2,hit,hC',(hv.mono l2).snoc x2,by simp;lia,r6,e⟩
 ·rw[if_neg hlt]at e
  cases e
theorem Zi7{W:Wd}{put:V->Lc->Option Lc}{s1:Shared}
  (hel:J prog w (Zav G scope cl C ts O) elt f) (hif:JF prog w (Zav G scope cl C ts O) ifs c) (hs:∃h tk,s1 = { s with heap:=h,toks:=tk })
  (aC:∀t∈(D,lst ys)::(fs++fr),C≠t.1) (aD:∀t∈fs++fr,D≠t.1) (l0:W0.Le W) (hit:It (j+1) fs) (hC:NsObj oC u) (hv:VRs W acc ys) (hl:acc.length<=ZK) (r:Rep G W O H ((C,oC)::(D,lst ys)::(fs++fr)) s1.heap)
  (ht:∀p∈ts,∃v y,B p.2=some v/\u p.1=some y/\VR W v y) (hj:∀i,(∀p∈ts,p.2≠i)->B i=O i)
  (e:((c B H).bind λb=>if b.1 then(f B b.2).bind λp=>(if acc.length<ZK then Zad nx put c f O k (j+1) (acc++[p.1]) p.2 else none)else Zad nx put c f O k (j+1) acc b.2)=some q):
  wpAny (model prog w) G.A (forIn ifs true λc r=>if r=true then do let ok <-isTrue c (compEnvC scope cl C G.env) (eval c (compEnvC scope cl C G.env));pure (ForInStep.yield ok)else pure (ForInStep.yield r)) (λok s₃=>
   if ok=true then wpAny (model prog w) G.A (eval elt (compEnvC scope cl C G.env)) (λx s₄=>wpAny (model prog w) G.A (call (.builtin "list.append") [.ref D,x]) (λ_ s₅=>∃m,m<k+1/\ZdQ G W0 O fr C D It nx put c f q s m s₅) E s₄) E s₃
   else ∃m,m<k+1/\ZdQ G W0 O fr C D It nx put c f q s m s₃) E s1:=by
 obtain⟨h,tk,rfl⟩:=hs
 obtain⟨b,e1,e⟩:=Zz0.mp e
 obtain⟨b,H1⟩:=b
 have rc:=ZjO (scope:=scope) (cl:=cl) r aC hC ht hj
 refine hif W B H _ _ _ E b H1 rc e1 λW1 k1 t1 l1 r1=>?_
 cases b with
 | false=>
  obtain⟨oC',m₃,hC',r2⟩:=r1.fromC
  exact⟨k,Nat.lt_succ_self k,W1,H1,k1,t1,j+1,fs,acc,ys,oC',m₃,rfl,l0.trans l1,hit,hC',hv.mono l1,hl,r2,e⟩
 | true=>exact ZiK hel aD (aC (D,lst ys) Zz5) (l0.trans l1) hit (hv.mono l1) r1 e
structure COf(as:List Addr)(fr:List (Addr×Obj))(C D:Addr): Prop where
 o:∀b∈as,b≠D/\b≠C
 cd:C≠D
 cf:∀t∈fr,C≠t.1
 df:∀t∈fr,D≠t.1
theorem COf.ap(z:COf as fr C D)(ap:∀b∈as,∀t∈fr,b≠t.1): ∀b∈as,∀t∈(C,o)::(D,o')::fr,b≠t.1:=λb hb t ht=>by
 simp only[List.mem_cons]at ht
 rcases ht with h | h | h
 ·rw[h];exact(z.o b hb).2
 ·rw[h];exact(z.o b hb).1
 ·exact ap b hb t h
theorem Zg1(hcell:∀y∈scope.names,y.2≠.cell)(hkind:scope.kind=.function){W:Wd}{k:Heap}(r1:Rep G W O H (fs++fr) k)(adr0:fs.map (·.1)=as)
  (go:∀(C D:Addr) (oC:Obj) (m:Str->Option Value) (h:Heap) (t':Nat),COf as fr C D->NsObj oC m->Rep G W O H ((C,oC)::(D,lst [])::(fs++fr)) h->P (.ref D) C (compEnvC scope cl C G.env) { s with heap:=h,toks:=t' }):
  wpAny (model prog w) G.A (newList []) (λacc s₃=>wpAny (model prog w) G.A (newFunctionEnv scope G.env.globals cl [] G.env.qual none .none (some G.env)) (λcenv s₄=>P acc cenv.locals { cenv with scope:=relabel scope G.env } s₄) E s₃) E { s with heap:=k,toks:=t }:=by
 refine wpAny_newObj_type (wpAny_newFunctionEnv hcell (λy hy=>by simp at hy) (λh₂ hns hsb=>?_) hkind)
 dsimp only at hns hsb ⊢
 obtain⟨rD,aD⟩:=r1.more (fs:=[(k.objs.size,lst [])]) (λb o e=>Heap.get?_push_of_some (lst []) e) (λq hq=>by rw[List.mem_singleton.mp hq];exact⟨Heap.get?_push_size _ rfl,Nat.le_refl _⟩)
 generalize eH:k.push { cls:=.type "list",dict:=none,data:=.seq ([]:List Value).toArray } = K at hns hsb ⊢
 have eK:k.push (lst [])=K:=eH
 rw[eK]at rD
 obtain⟨oC,gC,nC⟩:=ns_obj hns
 obtain⟨rC,aC⟩:=rD.more (fs:=[(K.objs.size,oC)]) (λb o e=>hsb.extBut b o (Nat.ne_of_lt (Heap.lt_size e)) (Heap.get?_push_of_some _ e)) (λq hq=>by rw[List.mem_singleton.mp hq];exact⟨gC,Nat.le_refl _⟩)
 refine go _ _ _ _ _ _ ⟨λb hb=>?_,aC _ Zz5 (k.objs.size,lst []) (Zz4 _ Zz5),λt ht=>aC _ Zz5 t (Zz3 _ (Zz3 _ ht)),λt ht=>aD _ Zz5 t (Zz3 _ ht)⟩ nC rC
 rw[<-adr0]at hb
 obtain⟨q,hq,e⟩:=Zz11.mp hb
 exact⟨e▸(aD _ Zz5 q (Zz4 _ hq)).symm,e▸(aC _ Zz5 q (Zz3 _ (Zz4 _ hq))).symm⟩
theorem Zhi{W:Wd}{oD:Obj}{k:Heap}(z:COf as fr C D)(a3:fs.map (·.1)=as)(r:Rep G W O H (fs++((C,oC)::(D,oD)::fr)) k)(hn:h.Ns C m)(up:∀b o,b≠C->k.get? b=some o->h.get? b=some o):
  ∃oC',NsObj oC' m/\Rep G W O H ((C,oC')::(D,oD)::(fs++fr)) h/\(∀t∈(D,oD)::(fs++fr),C≠t.1)/\∀t∈fs++fr,D≠t.1:=by
 obtain⟨oC4,gC4,nC4⟩:=ns_obj hn
 have b:∀t∈fs,t.1∈as:=λt ht=>a3▸List.mem_map_of_mem ht
 have aD:∀t∈fs++fr,D≠t.1:=λt ht=>by
  rcases Zz8.mp ht with ht | ht
  ·exact(z.o _ (b t ht)).1.symm
  ·exact z.df t ht
 have aC:∀t∈(D,oD)::(fs++fr),C≠t.1:=λt ht=>by
  simp only[List.mem_cons,List.mem_append]at ht
  rcases ht with h | h | h
  ·rw[h];exact z.cd
  ·exact(z.o _ (b t h)).2.symm
  ·exact z.cf t h
 exact⟨oC4,nC4,r.sh2.put aC up gC4,aC,aD⟩
def Zif(G:Cx)(W:Wd)(O:Lc)(fr:List (Addr×Obj))(s:Shared)(q:List V×Hp)(RR:Value->Addr->Result->Shared->Prop): Prop:=∀(W':Wd) (h':Heap) (tk':Nat) (C D:Addr) (oC:Obj) (u:Str->Option Value) (ys:List Value),W.Le W'->NsObj oC u->VRs W' q.1 ys->q.1.length<=ZK->(∀t∈fr,D≠t.1)->(∀t∈fr,C≠t.1)->C≠D->Rep G W' O q.2 ((C,oC)::(D,lst ys)::fr) h'->RR (.ref D) C (.ok .next) { s with heap:=h',toks:=tk' }
theorem ZiL(hg:JI prog w G iter g)(hel:∀C O,J prog w (Zav G scope cl C [(x,t)] O) elt f)(hif:∀C O,JF prog w (Zav G scope cl C [(x,t)] O) ifs c)
  (hcell:∀y∈scope.names,y.2≠.cell) (hkind:scope.kind=.function) (hx:scope.names.lookup x=some .local)
  {W:Wd}       {RR:Value->Addr->Result->Shared->Prop} (r:Rep G W O H fr s.heap) (hf:((g O H).bind λz=>Zad z.1 (Zu t) c f O z.2.1 0 [] z.2.2)=some q)
  (hR:Zif G W O fr s q RR):
  wpAny (model prog w) G.A (eval iter G.env) (λxv s₁=>wpAny (model prog w) G.A (pyIter xv) (λit s₂=>wpAny (model prog w) G.A (newList []) (λacc s₃=>wpAny (model prog w) G.A (newFunctionEnv scope G.env.globals cl [] G.env.qual none .none (some G.env)) (λcenv s₄=>
   codeAny (model prog w) G.A (.compStart (.ListComp elt [⟨.Name x px,iter,ifs,0⟩] scope pos) 0 it acc { cenv with scope:=relabel scope G.env }) (RR acc cenv.locals) s₄) E s₃) E s₂) E s₁) E s:=by
 obtain⟨z,e1,e2⟩:=Zz0.mp hf
 obtain⟨nx,n,H0⟩:=z
 refine hg W O H fr s _ E nx n H0 r e1 λW1 k1 t1 itv as It fs l1 i1 r1 ap I1=>?_
 refine Zg1 (P:=λacc C e s₄=>codeAny (model prog w) G.A (.compStart (.ListComp elt [⟨.Name x px,iter,ifs,0⟩] scope pos) 0 itv acc e) (RR acc C) s₄) hcell hkind r1 (I1.adr 0 fs i1) λC D oC m h₂ t' z nC rC=>?_
 have loop:codeAny (model prog w) G.A (.compLoop (.ListComp elt [⟨.Name x px,iter,ifs,0⟩] scope pos) 0 itv (.ref D) (compEnvC scope cl C G.env)) (RR (.ref D) C) { s with heap:=h₂,toks:=t' }:=by
  refine codeAny_compLoop_tests (ZdQ G W1 O fr C D It nx (Zu t) c f q s) ?_ n ⟨W1,H0,h₂,_,0,fs,[],[],oC,_,rfl,.refl _,i1,nC,.nil,Nat.zero_le _,rC,e2⟩
  intro k s' q9;obtain⟨W2,H2,k2,t2,j,fs2,acc,ys,oC2,u,rfl,l2,i2,hC2,hv2,hl2,r2,e⟩:=q9
  cases k with
  | zero=>first|exact Yx0 e|cases e
  | succ k=>
   obtain⟨o,e4,e⟩:=Zz0.mp e
   refine I1.next j W2 O H2 _ fs2 _ _ _ o l2 r2.sh1 (z.ap ap) i2 e4 ?_
   cases o with
   | none=>
    cases e
    intro h' tk' r3
    exact hR W2 h' tk' C D oC2 u ys (l1.trans l2) hC2 hv2 hl2 z.df z.cf z.cd r3
   | some v=>
    intro fs3 k3 t3 y i3 r3 y3
    obtain⟨ρ3,e5,e⟩:=Zz0.mp e
    cases e5
    refine wpAny_assign_Name (wpAny_storeName_local (lookup_relabel_local hx) (hC2.ns (r3.frAt (q:=(C,oC2)) (Zz3 _ Zz5))) (λh4 hn4 sb4=>?_) (by simp[compEnvC,relabel,hkind]))
    obtain⟨oC4,nC4,r4,aC3,aD3⟩:=Zhi z (I1.adr _ _ i3) r3 hn4 λb o hb e=>sb4.extBut b o hb e
    refine Zi7 (hel C O) (hif C O) ⟨h4,_,rfl⟩ aC3 aD3 l2 i3 nC4 hv2 hl2 r4 (λp hp=>?_) (λi hi=>?_) e
    ·rw[List.mem_singleton.mp hp]
     exact⟨v,y,by simp[Zi],.s,y3⟩
    ·have:i≠t:=λe=>hi (x,t) Zz5 e.symm
     simp[Zi,this]
 exact codeAny_compStart_list loop (I1.self 0 W1 O H0 _ fs _ _ _ (.refl _) rC.sh1 i1 loop)
theorem Zhj{W:Wd}{h'':Heap}(hv:VRs W q.1 ys)(hl:q.1.length<=ZK)(aD:∀t∈fr,D≠t.1)(aC:∀t∈fr,C≠t.1)(cd:C≠D)(r:Rep G W O q.2 ((C,oC)::(D,lst ys)::fr) h')(sb:Heap.SameBut C h' h''):
  ∃W',W.Le W'/\Rep G W' O (q.2++[q.1]) fr h''/\VR W' (.ref q.2.length) (.ref D):=by
 have r4:Rep G W O q.2 ([]++((D,lst ys)::fr)) h'':=by
  refine Rep.swap (fs:=[(C,oC)]) (fs':=[]) r (λq hq t ht=>?_) (λb o hb e=>sb.extBut b o (λz=>hb (by simp[z])) e) λq hq=>nomatch hq
  rw[List.mem_singleton.mp hq]
  rcases Zz7.mp ht with e | ht
  ·rw[e]
   exact cd
  ·exact aC t ht
 exact Zg8 r4 aD hv hl
theorem J.comp(hg:JI prog w G iter g)(hel:∀C O,J prog w (Zav G scope cl C [(x,t)] O) elt f)(hif:∀C O,JF prog w (Zav G scope cl C [(x,t)] O) ifs c)
  (hclos:closureFor scope G.env=pure cl) (hcell:∀y∈scope.names,y.2≠.cell) (hkind:scope.kind=.function) (hnames:∀y∈scope.names,y.2=.local->scope.names.lookup y.1=some .local) (hx:scope.names.lookup x=some .local) (hs:∀x,foldedSetIterable iter G.env x=pure x:=by intro _;rfl):
  J prog w G (.ListComp elt [⟨.Name x px,iter,ifs,0⟩] scope pos) (Z5 g (Zu t) c f):=by
 intro W O H fr s Q E v H' r hf post
 obtain⟨z,e1,hf⟩:=Zz0.mp hf
 obtain⟨q,e2,e3⟩:=Zz1.mp hf
 cases e3
 rw[eval_ListComp]
 refine wpAny_comprehension_free (use:=Option.none) rfl hs hclos hkind hnames ?_
 refine ZiL (RR:=λacc C=>compPost (model prog w) G.A E Option.none Q acc C) hg hel hif hcell hkind hx r (q:=q) (by rw[e1];exact e2) λW2 h' tk' C D oC u ys l2 hC hv hl aD aC cd r3=>?_
 refine⟨u,hC.ns (r3.frAt (q:=(C,oC)) Zz5),λh'' sb=>?_⟩
 obtain⟨W5,l5,r5,v5⟩:=Zhj hv hl aD aC cd r3 sb
 exact post W5 h'' tk' _ (l2.trans l5) r5 v5
theorem Zl6{y:Str}{py spos:Pos}{i:Nat}(hy:Sto prog w G y i)(hg:JI prog w G iter g)(hel:∀C O,J prog w (Zav G scope cl C [(x,t)] O) elt f)(hif:∀C O,JF prog w (Zav G scope cl C [(x,t)] O) ifs c)
  (hsw:swapsWith (.ListComp elt [⟨.Name x px,iter,ifs,0⟩] scope pos) (some (.Name y py)) spos.line G.env=pure true)
  (hclos:closureFor scope G.env=pure cl) (hcell:∀y∈scope.names,y.2≠.cell) (hkind:scope.kind=.function) (hnames:∀y∈scope.names,y.2=.local->scope.names.lookup y.1=some .local) (hx:scope.names.lookup x=some .local) (hs:∀x,foldedSetIterable iter G.env x=pure x:=by intro _;rfl):
  S1 prog w G (.Assign [.Name y py] (.ListComp elt [⟨.Name x px,iter,ifs,0⟩] scope pos) spos) (Zk i (Z5 g (Zu t) c f)):=by
 intro W O H fr s Q E r rp hf post
 obtain⟨p,e0,e9⟩:=Zz1.mp hf
 cases e9
 obtain⟨z,e1,hf⟩:=Zz0.mp e0
 obtain⟨q,e2,e3⟩:=Zz1.mp hf
 cases e3
 rw[exec_Assign_Name_used _ _ _ _ hsw]
 refine wpAny_bind (wpAny_standAt (wpAny_bind ?_))
 show wpAny _ G.A (do let _ <-comprehension (.ListComp elt [⟨.Name x px,iter,ifs,0⟩] scope pos) scope G.env _ (newList []) false (eval iter G.env) (some (assign (.Name y py) G.env))) _ _ s
 refine wpAny_bind (wpAny_mono (wpAny_comprehension_free (use:=some (assign (.Name y py) G.env)) (Q:=λ_ s'=>Q .next s') rfl hs hclos hkind hnames ?_) (λ_ s' h'=>wpAny_pure (wpAny_pure h')) λ_ _ e=>e)
 refine ZiL (RR:=λacc C=>compPost (model prog w) G.A E (some (assign (.Name y py) G.env)) (λ_ s'=>Q .next s') acc C) hg hel hif hcell hkind hx rp (q:=q) (by rw[e1];exact e2) λW2 h' tk' C D oC u ys l2 hC hv hl aD aC cd r3=>?_
 have r4:=r3.sh3
 obtain⟨W5,l5,r5,v5⟩:=Zg8 r4 (λt ht=>by
  rcases Zz7.mp ht with e | ht
  ·rw[e]
   exact cd.symm
  ·exact aD t ht) hv hl
 refine wpAny_assign_Name (hy W5 O _ _ _ _ _ _ _ r5 v5 λh6 t6 r6=>?_)
 refine⟨u,hC.ns (r6.frAt (q:=(C,oC)) Zz5),λh'' sb=>?_⟩
 have r7:Rep G W5 (Zi O i (.ref q.2.length)) (q.2++[q.1]) ([]++fr) h'':=
  Rep.swap (fs:=[(C,oC)]) (fs':=[]) r6 (λq hq t ht=>by rw[List.mem_singleton.mp hq];exact aC t ht) (λb o hb e=>sb.extBut b o (λz=>hb (by simp[z])) e) λq hq=>nomatch hq
 exact post W5 h'' t6 (l2.trans l5) r7
end PM
end
section
namespace PM
open PySem PySem.W PySem.Calls PyProof.Rows PyProof PyProof.Rows.LCg PyProof.Rows.LCp
variable{z TI TO l1 l2:Addr}{i kt t t₂:Nat}{h:Heap}{a x x1 x2:Str}{pos p1 p2 tp px px₂:Pos}{f:Ex}{g:Src}{O:Lc}{H:Hp}{fr:List (Addr×Obj)}{s:Shared}{E:Value->Shared->Prop}{elt iter:Expr}{scope:Scope}{cl:List (Str×Addr)}{q:List V×Hp}
variable{prog:Program}{w:World}{G:Cx}
theorem Zig(h:Heap): ∀as:List Addr,(∀a∈as,∃o,h.get? a=some o)->∃fs:List (Addr×Obj),fs.map (·.1)=as/\∀q∈fs,h.get? q.1=some q.2
 | [],_=>⟨[],rfl,λq hq=>nomatch hq⟩
 | a::as,d=>by
  obtain⟨o,ho⟩:=d a Zz5
  obtain⟨fs,h1,h2⟩:=Zig h as λb hb=>d b (Zz2 _ hb)
  refine⟨(a,o)::fs,by rw[List.map_cons,h1],λq hq=>?_⟩
  rcases Zz7.mp hq with e | hq
  ·rw[e]
   exact ho
  ·exact h2 q hq
structure Itr2(prog:Program)(w:World)(G:Cx)(W0:Wd)(it:Value)(as:List Addr)(It:Nat->List (Addr×Obj)->Prop)(nx:Nx): Prop where
 adr:∀i fs,It i fs->fs.map (·.1)=as
 pair:∀i H v,nx i H=some (some v)->∃a b,v=.tup [a,b]
 item:∀(i:Nat) (W:Wd) (O:Lc) (H:Hp) (fr fs:List (Addr×Obj)) (s:Shared) (Q:Option Value->Shared->Prop) (E:Value->Shared->Prop) (a b:V),W0.Le W->Rep G W O H (fs++fr) s.heap->(∀a∈as,∀t∈fr,a≠t.1)->It i fs->nx i H=some (some (.tup [a,b])) ->
  (∀(T:Addr) (h1:Heap) (t1:Nat),(∀(elts:List Expr) (k:Nat) (pos:Pos) (s1:Shared) (Q1:Unit->Shared->Prop) (E1:Value->Shared->Prop),s1 = { s with heap:=h1,toks:=t1 } ->
    (∀(fs':List (Addr×Obj)) (h':Heap) (x y:Value),It (i+1) fs'->Rep G W O H (fs'++fr) h'->IsTup h' T #[x,y]->VR W a x->VR W b y->Q1 () { s with heap:=h',toks:=t1 })->wpAny (model prog w) G.A (letOwnedTupleGo (.Tuple elts k pos) it (.ref T)) Q1 E1 s1)->Q (some (.ref T)) { s with heap:=h1,toks:=t1 })->wpAny (model prog w) G.A (pyNext it) Q E s
 done:∀(i:Nat) (W:Wd) (O:Lc) (H:Hp) (fr fs:List (Addr×Obj)) (s:Shared) (Q:Option Value->Shared->Prop) (E:Value->Shared->Prop),W0.Le W->Rep G W O H (fs++fr) s.heap->(∀a∈as,∀t∈fr,a≠t.1)->It i fs->nx i H=some none ->
  (∀(h':Heap) (tk':Nat),Rep G W O H fr h'->Q none { s with heap:=h',toks:=tk' })->wpAny (model prog w) G.A (pyNext it) Q E s
 self:∀(i:Nat) (W:Wd) (O:Lc) (H:Hp) (fr fs:List (Addr×Obj)) (s:Shared) (Q E:Value->Shared->Prop) (o:Option V),W0.Le W->Rep G W O H (fs++fr) s.heap->It i fs->nx i H=some o->Q it s->wpAny (model prog w) G.A (pyIter it) Q E s
def JI2(prog:Program)(w:World)(G:Cx)(e:Expr)(g:Src): Prop:=∀(W:Wd) (O:Lc) (H:Hp) (fr:List (Addr×Obj)) (s:Shared) (Q E:Value->Shared->Prop) (nx:Nx) (n:Nat) (H':Hp),
 Rep G W O H fr s.heap->g O H=some (nx,n,H') ->
 (∀(W':Wd) (h':Heap) (tk':Nat) (it:Value) (as:List Addr) (It:Nat->List (Addr×Obj)->Prop) (fs:List (Addr×Obj)),W.Le W'->It 0 fs->Rep G W' O H' (fs++fr) h'->(∀a∈as,∀t∈fr,a≠t.1)->Itr2 prog w G W' it as It nx->(∃o,nx 0 H'=some o)->Q it { s with heap:=h',toks:=tk' }) ->
 wpAny (model prog w) G.A (eval e G.env) (λxv s₁=>wpAny (model prog w) G.A (pyIter xv) Q E s₁) E s
noncomputable def Zb7(a b:Nat): Nx:=λi H=>H[a]?.bind λvs=>H[b]?.bind λus=>match vs[i]?,us[i]? with
 | some x,some y=>some (some (.tup [x,y]))
 | _,_=>if i=min vs.length us.length then some none else none
def ZeH(f g:Ex): Src:=λO H=>(f O H).bind λp=>(g O p.2).bind λq=>match p.1,q.1 with
 | .ref a,.ref b=>q.2[a]?.bind λvs=>q.2[b]?.map λus=>(Zb7 a b,min vs.length us.length+1,q.2)
 | _,_=>none
def Zcn(i j:Nat): V->Lc->Option Lc
 | .tup [a,b],O=>some (Zi (Zi O i a) j b)
 | _,_=>none
def ZS(z TI TO i1 i2 l1 l2:Addr)(i:Nat)(h:Heap): Prop:=IsZip h z TI TO .none/\PySem.IsPair h TI (.ref i1) (.ref i2)/\(∃a b,PySem.IsPair h TO a b)/\h.IsListIter i1 l1 i/\h.IsListIter i2 l2 i
theorem ZS.at{i1 i2:Addr}{h':Heap}(x:ZS z TI TO i1 i2 l1 l2 i h)(e:∀a∈[z,TI,TO,i1,i2],∀o,h.get? a=some o->h'.get? a=some o): ZS z TI TO i1 i2 l1 l2 i h':=by
 obtain⟨h1,h2,⟨a,b,h3⟩,h4,h5⟩:=x
 exact⟨e z .s _ h1,e TI .s _ h2,⟨a,b,e TO .s _ h3⟩,h4.at λo x=>e i1 .s o x,h5.at λo x=>e i2 .s o x⟩
theorem ZS.have{i1 i2:Addr}(x:ZS z TI TO i1 i2 l1 l2 i h): ∀a∈[z,TI,TO,i1,i2],∃o,h.get? a=some o:=by
 obtain⟨h1,h2,⟨a,b,h3⟩,⟨o4,h4,_⟩,⟨o5,h5,_⟩⟩:=x
 intro c hc
 simp only[List.mem_cons,List.not_mem_nil,or_false]at hc
 rcases hc with e | e | e | e | e <;> subst e
 ·exact⟨_,h1⟩
 ·exact⟨_,h2⟩
 ·exact⟨_,h3⟩
 ·exact⟨_,h4⟩
 ·exact⟨_,h5⟩
def ZIt(z TI TO i1 i2 l1 l2:Addr)(i:Nat)(fs:List (Addr×Obj)): Prop:=fs.map (·.1)=[z,TI,TO,i1,i2]/\∀h:Heap,(∀q∈fs,h.get? q.1=some q.2)->ZS z TI TO i1 i2 l1 l2 i h
theorem ZIt.mk'{i1 i2:Addr}(x:ZS z TI TO i1 i2 l1 l2 i h): ∃fs,ZIt z TI TO i1 i2 l1 l2 i fs/\∀q∈fs,h.get? q.1=some q.2:=by
 obtain⟨fs,h1,h2⟩:=Zig h [z,TI,TO,i1,i2] x.have
 refine⟨fs,⟨h1,λh' e=>x.at λa ha o ho=>?_⟩,h2⟩
 rw[<-h1]at ha
 obtain⟨q,hq,eq⟩:=Zz11.mp ha
 have:=h2 q hq
 rw[eq,ho]at this
 cases this
 exact eq▸e q hq
theorem ZoZ{W0:Wd}{i1 i2:Addr}{a b:Nat}(ea:W0.At a l1)(eb:W0.At b l2)(D:ZipApart z TI TO i1 i2 l1 l2):
  Itr2 prog w G W0 (.ref z) [z,TI,TO,i1,i2] (ZIt z TI TO i1 i2 l1 l2) (Zb7 a b):=by
 refine⟨λi fs h=>h.1,?_,?_,?_,?_⟩
 ·intro i H v e
  obtain⟨vs,e1,e⟩:=Zz0.mp e
  obtain⟨us,e2,e⟩:=Zz0.mp e
  split at e
  ·first|exact Yx0 e|cases e
   exact⟨_,_,rfl⟩
  ·split at e <;> cases e
 ·intro i W O H fr fs s Q E va vb le r ap hit hn post
  obtain⟨vs,e1,e⟩:=Zz0.mp hn
  obtain⟨us,e2,e⟩:=Zz0.mp e
  have hvu:vs[i]?=some va/\us[i]?=some vb:=by
   split at e
   ·rename_i x y h1 h2
    cases e
    exact⟨h1,h2⟩
   ·split at e <;> cases e
  obtain⟨_,xs,k1,g1,v1⟩:=r.at e1 (le.at ea)
  obtain⟨_,ys,k2,g2,v2⟩:=r.at e2 (le.at eb)
  obtain⟨x,hx,rx⟩:=v1.at hvu.1
  obtain⟨y,hy,ry⟩:=v2.at hvu.2
  have st:ZS z TI TO i1 i2 l1 l2 i s.heap:=hit.2 _ λq hq=>r.frAt (Zz4 _ hq)
  have Wk:=WalksT.zip2 (prog:=prog) (w:=w) (A:=G.A) G.hh z TI TO i1 i2 l1 l2 D xs.toArray ys.toArray
  have isl1:s.heap.IsList l1 xs.toArray:=⟨_,g1,rfl,k1,rfl⟩
  have isl2:s.heap.IsList l2 ys.toArray:=⟨_,g2,rfl,k2,rfl⟩
  have hi:i<min xs.toArray.size ys.toArray.size:=by
   have h1:=(Zz6.mp hx).1
   have h2:=(Zz6.mp hy).1
   simp
   omega
  refine Wk.item i s Q E hi ⟨st.1,st.2.1,st.2.2.1,st.2.2.2.1,st.2.2.2.2,isl1,isl2⟩ λT vals h1 t1 hp hT hTup hmid keep1=>post T h1 t1 ?_
  intro elts k pos s1 Q1 E1 es1 q1
  subst es1
  have hTw:=Wk.apart i T _ hmid
  refine Wk.go elts k pos i T _ Q1 E1 hmid λh2 st2 keep2=>?_
  obtain⟨x',y',hx',hy',ev⟩:=hp
  have ex:x'=x:=by
   have:xs[i]?=some x':=by simpa using hx'
   rw[hx]at this
   exact(Option.some.inj this).symm
  have ey:y'=y:=by
   have:ys[i]?=some y':=by simpa using hy'
   rw[hy]at this
   exact(Option.some.inj this).symm
  subst ex ey ev
  obtain⟨fs',hit',at'⟩:=ZIt.mk' (h:=h2) (⟨st2.1,st2.2.1,st2.2.2.1,st2.2.2.2.1,st2.2.2.2.2.1⟩:ZS z TI TO i1 i2 l1 l2 (i+1) h2)
  obtain⟨oT,gT,cT,nT,dT⟩:=hTup
  refine q1 fs' h2 x' y' hit' ?_ ⟨oT,keep2 T oT hTw gT,cT,nT,dT⟩ rx ry
  refine r.swap (fs':=fs') (λq hq t ht=>?_) (λc o hc e=>?_) λq hq=>⟨at' q hq,?_⟩
  ·exact ap _ (hit.1▸List.mem_map_of_mem hq) t ht
  ·rw[hit.1]at hc
   have hcw:c∉[z,TO,i1,i2]:=λh=>hc (by simp at h ⊢;rcases h with h | h | h | h <;> simp[h])
   exact keep2 c o hcw (keep1 c o hcw e)
  ·rw[hit.1,<-hit'.1]
   exact List.mem_map_of_mem hq
 ·intro i W O H fr fs s Q E le r ap hit hn post
  obtain⟨vs,e1,e⟩:=Zz0.mp hn
  obtain⟨us,e2,e⟩:=Zz0.mp e
  obtain⟨_,xs,k1,g1,v1⟩:=r.at e1 (le.at ea)
  obtain⟨_,ys,k2,g2,v2⟩:=r.at e2 (le.at eb)
  have hi:i=min vs.length us.length:=by
   split at e
   ·first|exact Yx0 e|cases e
   ·split at e
    ·assumption
    ·first|exact Yx0 e|cases e
  have st:ZS z TI TO i1 i2 l1 l2 i s.heap:=hit.2 _ λq hq=>r.frAt (Zz4 _ hq)
  have Wk:=WalksT.zip2 (prog:=prog) (w:=w) (A:=G.A) G.hh z TI TO i1 i2 l1 l2 D xs.toArray ys.toArray
  have hm:min xs.toArray.size ys.toArray.size=i:=by simp[v1.length,v2.length,hi]
  refine Wk.done s Q E (by rw[hm];exact⟨st.1,st.2.1,st.2.2.1,st.2.2.2.1,st.2.2.2.2,⟨_,g1,rfl,k1,rfl⟩,⟨_,g2,rfl,k2,rfl⟩⟩) λh' tk keep=>post h' tk ?_
  have:=r.swap (fs':=[]) (λq hq t ht=>ap _ (hit.1▸List.mem_map_of_mem hq) t ht) (λc o hc e=>keep c o (λh=>hc (by rw[hit.1];simp at h ⊢;rcases h with h | h | h | h <;> simp[h])) e) (λq hq=>nomatch hq)
  exact this
 ·intro i W O H fr fs s Q E o le r hit hn q
  obtain⟨vs,e1,e⟩:=Zz0.mp hn
  obtain⟨us,e2,e⟩:=Zz0.mp e
  obtain⟨_,xs,k1,g1,v1⟩:=r.at e1 (le.at ea)
  obtain⟨_,ys,k2,g2,v2⟩:=r.at e2 (le.at eb)
  have st:ZS z TI TO i1 i2 l1 l2 i s.heap:=hit.2 _ λq hq=>r.frAt (Zz4 _ hq)
  have Wk:=WalksT.zip2 (prog:=prog) (w:=w) (A:=G.A) G.hh z TI TO i1 i2 l1 l2 D xs.toArray ys.toArray
  exact Wk.self i s Q E ⟨st.1,st.2.1,st.2.2.1,st.2.2.2.1,st.2.2.2.2,⟨_,g1,rfl,k1,rfl⟩,⟨_,g2,rfl,k2,rfl⟩⟩ q
theorem JI2.zip{np:Pos}{e1 e2:Expr}{g:Ex}(hn:Nm prog w G x (.type "zip"))(h1:J prog w G e1 f)(h2:J prog w G e2 g)
  (he:starEach [e1,e2] G.env=(false,eval e1 G.env)::starEach [e2] G.env:=by rfl) (he2:starEach [e2] G.env=(false,eval e2 G.env)::starEach [] G.env:=by rfl) (hp:∀pos,(backTo pos (starEach [e2] G.env)).any (·.1)=false:=by intro _;rfl):JI2 prog w G (.Call (.Name x np) [e1,e2] [] pos) (ZeH f g):=by
 intro W O H fr s Q E nx n H' r hf post
 obtain⟨p,a1,hf⟩:=Zz0.mp hf
 obtain⟨q,a2,hf⟩:=Zz0.mp hf
 refine wpAny_Call_ofName (hn.use r ?_)
 refine PySem.Pv.callWith_type1 (wpAny_items_cons (h1 W O H fr s _ E _ _ r a1 λW1 k1 t1 y1 l1 r1 v1=>?_) he) he (hp pos)
 refine wpAny_items_cons (h2 W1 O _ fr _ _ E _ _ r1 a2 λW2 k2 t2 y2 l2 r2 v2=>wpAny_items_nil ?_) he2
 have v1':=v1.mono l2
 obtain⟨u1,H1⟩:=p
 obtain⟨u2,H2⟩:=q
 simp only at hf v1' v2 r2
 cases u1 <;> first|exact Yx0 hf|(cases hf;done)| skip
 rename_i b1
 cases u2 <;> first|exact Yx0 hf|(cases hf;done)| skip
 rename_i b2
 obtain⟨vs,c1,hf⟩:=Zz0.mp hf
 obtain⟨us,c2,c3⟩:=Zz1.mp hf
 cases c3
 cases v1' with
 | @ref _ m1 ea=>
 cases v2 with
 | @ref _ m2 eb=>
 obtain⟨_,xs,n1,g1,w1⟩:=r2.at c1 ea
 obtain⟨_,ys,n2,g2,w2⟩:=r2.at c2 eb
 have isl1:k2.IsList m1 xs.toArray:=⟨_,g1,rfl,n1,rfl⟩
 have isl2:k2.IsList m2 ys.toArray:=⟨_,g2,rfl,n2,rfl⟩
 refine call_zip_2 (s:={ s with heap:=k2,toks:=t2 }) isl1 isl2 λh₁ hz hTI hTO hi1 hi2 hsz up=>?_
 have ap:=zipApart_new (n:=k2.objs.size) (Heap.lt_size g1) (Heap.lt_size g2)
 have Wk:=WalksT.zip2 (prog:=prog) (w:=w) (A:=G.A) G.hh _ _ _ _ _ m1 m2 ap xs.toArray ys.toArray
 have zs:ZS (k2.objs.size+4) (k2.objs.size+2) (k2.objs.size+3) k2.objs.size (k2.objs.size+1) m1 m2 0 h₁:=⟨hz,hTI,⟨_,_,hTO⟩,hi1,hi2⟩
 refine Wk.self 0 _ _ _ ⟨hz,hTI,⟨_,_,hTO⟩,hi1,hi2,isl1.at λo e=>up _ o e,isl2.at λo e=>up _ o e⟩ ?_
 obtain⟨fs,hit,at'⟩:=ZIt.mk' zs
 obtain⟨r3,ap3⟩:=r2.more (fs:=fs) (h':=h₁) (λb o e=>up b o e) (λq hq=>⟨at' q hq,by
  have:q.1∈fs.map (·.1):=List.mem_map_of_mem hq
  rw[hit.1]at this
  simp at this
  rcases this with e | e | e | e | e <;> rw[e] <;> lia⟩)
 refine post W2 h₁ t2 _ _ _ fs (l1.trans l2) hit r3 (λb hb t ht=>?_) (ZoZ ea eb ap) ?_
 ·rw[<-hit.1]at hb
  obtain⟨q,hq,e⟩:=Zz11.mp hb
  exact e▸ap3 q hq t ht
 ·simp only[Zb7,c1,c2,Ys0]
  split
  ·exact⟨_,rfl⟩
  ·rename_i hno
   have:0=min vs.length us.length:=by
    rcases Nat.eq_zero_or_pos vs.length with z | z
    ·rw[z];simp
    ·rcases Nat.eq_zero_or_pos us.length with z' | z'
     ·rw[z'];simp
     ·exact(hno vs[0] us[0] (by simp[z]) (by simp[z'])).elim
   rw[if_pos this]
   exact⟨_,rfl⟩
theorem ZnN{i1 i2:Nat}(h1:Sto prog w G x1 i1)(h2:Sto prog w G x2 i2){W:Wd}{Q:Unit->Shared->Prop}{T:Addr}{y1 y2:Value}{a b:V}(r:Rep G W O H fr s.heap)(ht:IsTup s.heap T #[y1,y2])(v1:VR W a y1)(v2:VR W b y2)
  (post:∀(h':Heap) (tk':Nat),Rep G W (Zi (Zi O i1 a) i2 b) H fr h'->Q () { s with heap:=h',toks:=tk' }):wpAny (model prog w) G.A (assign (.Tuple [.Name x1 p1,.Name x2 p2] kt tp) G.env (.ref T)) Q E s:=by
 refine assign_Tuple_tuple G.hh ht rfl rfl λg₄ he=>?_
 have r4:=r.grown (h':=g₄) λb o e=>he b o (Nat.ne_of_lt (Heap.lt_size e)) e
 refine assignInOrder_cons (wpAny_assign_Name (h1 W O H fr _ _ _ a y1 r4 v1 λk5 t5 r5=>?_))
 refine assignInOrder_cons (wpAny_assign_Name (h2 W _ H fr _ _ _ b y2 r5 v2 λk6 t6 r6=>?_))
 exact assignInOrder_nil (post k6 t6 r6)
theorem ZnO{i1 i2:Nat}{it:Expr}{body:List Stmt}{b:Sm}(h1:Sto prog w G x1 i1)(h2:Sto prog w G x2 i2)(hg:JI2 prog w G it g)(hb:Ss prog w G body b)(hs:∀x,foldedSetIterable it G.env x=pure x:=by intro _;rfl):
  S1 prog w G (.For (.Tuple [.Name x1 p1,.Name x2 p2] kt tp) it body [] pos) (Zaq g (Zcn i1 i2) b):=by
 intro W O H fr s Q E r rp hf post
 obtain⟨z,e1,hf⟩:=Zz0.mp hf
 obtain⟨nx,n,H0⟩:=z
 refine wpAny_For (hg W O H fr s _ E nx n H0 rp e1 λW1 k1 t1 itv as It fs l1 j1 r1 ap I1 _=>?_) hs
 refine codeAny_forLoop_any (λk s'=>∃W' U H' h' tk' j fs',s' = { s with heap:=h',toks:=tk' }/\W1.Le W'/\It j fs'/\Rep G W' U H' (fs'++fr) h'/\ZaR nx (Zcn i1 i2) b k j U H'=some r) ?_ n ⟨W1,O,H0,k1,t1,0,fs,rfl,.refl _,j1,r1,hf⟩
 intro k s' q9;obtain⟨W2,ρ2,H2,k2,t2,j,fs2,rfl,l2,j2,r2,e⟩:=q9
 cases k with
 | zero=>first|exact Yx0 e|cases e
 | succ k=>
  obtain⟨o,e2,e⟩:=Zz0.mp e
  cases o with
  | none=>
   cases e
   exact I1.done j W2 ρ2 H2 fr fs2 _ _ _ l2 r2 ap j2 e2 λh' tk' r3=>wpAny_execs_nil (post W2 h' tk' (l1.trans l2) r3)
  | some v=>
   obtain⟨va,vb,ev⟩:=I1.pair j H2 v e2
   subst ev
   refine I1.item j W2 ρ2 H2 fr fs2 _ _ _ va vb l2 r2 ap j2 e2 λT h3 t3 go=>?_
   obtain⟨ρ3,e3,e⟩:=Zz0.mp e
   cases e3
   obtain⟨q,e4,e⟩:=Zz0.mp e
   refine go _ _ _ _ _ _ rfl λfs3 k3 y1 y2 j3 r3 ht w1 w2=>?_
   refine ZnN h1 h2 (s:={ s with heap:=k3,toks:=t3 }) r3 ht w1 w2 λk4 t4 r4=>?_
   refine hb W2 _ H2 (fs3++fr) _ _ _ q r4 e4 ?_
   obtain⟨u,ρ5,H5⟩:=q
   cases u with
   | some u=>
    cases e
    exact λW5 k5 t5 x5 l5 r5 v5=>post W5 k5 t5 x5 ((l1.trans l2).trans l5) (r5.less λq hq=>List.mem_append_right _ hq) v5
   | none=>exact λW5 k5 t5 l5 r5=>⟨k,Nat.lt_succ_self k,W5,ρ5,H5,k5,t5,j+1,fs3,rfl,l2.trans l5,j3,r5,e⟩
theorem Zl7(hg:JI2 prog w G iter g)(hel:∀C O,J prog w (Zav G scope cl C [(x,t),(a,t₂)] O) elt f)
  (hcell:∀y∈scope.names,y.2≠.cell) (hkind:scope.kind=.function) (hx:scope.names.lookup x=some .local) (hx₂:scope.names.lookup a=some .local) (hxx:x≠a) (htt:t≠t₂)
  {W:Wd}       {RR:Value->Addr->Result->Shared->Prop} (r:Rep G W O H fr s.heap) (hf:((g O H).bind λz=>Zad z.1 (Zcn t t₂) ZD f O z.2.1 0 [] z.2.2)=some q)
  (hR:Zif G W O fr s q RR):
  wpAny (model prog w) G.A (eval iter G.env) (λxv s₁=>wpAny (model prog w) G.A (pyIter xv) (λit s₂=>wpAny (model prog w) G.A (newList []) (λacc s₃=>wpAny (model prog w) G.A (newFunctionEnv scope G.env.globals cl [] G.env.qual none .none (some G.env)) (λcenv s₄=>
   codeAny (model prog w) G.A (.compStart (.ListComp elt [⟨.Tuple [.Name x px,.Name a px₂] kt tp,iter,[],0⟩] scope pos) 0 it acc { cenv with scope:=relabel scope G.env }) (RR acc cenv.locals) s₄) E s₃) E s₂) E s₁) E s:=by
 obtain⟨z,e1,e2⟩:=Zz0.mp hf
 obtain⟨nx,n,H0⟩:=z
 refine hg W O H fr s _ E nx n H0 r e1 λW1 k1 t1 itv as It fs l1 i1 r1 ap I1 hstart=>?_
 obtain⟨o0,ho0⟩:=hstart
 refine Zg1 (P:=λacc C e s₄=>codeAny (model prog w) G.A (.compStart (.ListComp elt [⟨.Tuple [.Name x px,.Name a px₂] kt tp,iter,[],0⟩] scope pos) 0 itv acc e) (RR acc C) s₄) hcell hkind r1 (I1.adr 0 fs i1) λC D oC m h₂ t' z nC rC=>?_
 have loop:codeAny (model prog w) G.A (.compLoop (.ListComp elt [⟨.Tuple [.Name x px,.Name a px₂] kt tp,iter,[],0⟩] scope pos) 0 itv (.ref D) (compEnvC scope cl C G.env)) (RR (.ref D) C) { s with heap:=h₂,toks:=t' }:=by
  refine codeAny_compLoop_pair (ZdQ G W1 O fr C D It nx (Zcn t t₂) ZD f q s) ?_ n ⟨W1,H0,h₂,_,0,fs,[],[],oC,_,rfl,.refl _,i1,nC,.nil,Nat.zero_le _,rC,e2⟩
  intro k s' q9;obtain⟨W2,H2,k2,t2,j,fs2,acc,ys,oC2,u,rfl,l2,i2,hC2,hv2,hl2,r2,e⟩:=q9
  cases k with
  | zero=>first|exact Yx0 e|cases e
  | succ k=>
   obtain⟨o,e4,e⟩:=Zz0.mp e
   cases o with
   | none=>
    cases e
    exact I1.done j W2 O H2 _ fs2 _ _ _ l2 r2.sh1 (z.ap ap) i2 e4 λh' tk' r3=>hR W2 h' tk' C D oC2 u ys (l1.trans l2) hC2 hv2 hl2 z.df z.cf z.cd r3
   | some v=>
    obtain⟨va,vb,ev⟩:=I1.pair j H2 v e4
    subst ev
    refine I1.item j W2 O H2 _ fs2 _ _ _ va vb l2 r2.sh1 (z.ap ap) i2 e4 λT h3 t3 go=>?_
    obtain⟨ρ3,e5,e⟩:=Zz0.mp e
    cases e5
    refine go _ _ _ _ _ _ rfl λfs3 k3 y1 y2 i3 r3 htup w1 w2=>?_
    refine assign_Tuple_tuple (s:={ s with heap:=k3,toks:=t3 }) G.hh htup rfl rfl λg₄ he=>?_
    have r3g:=r3.grown (h':=g₄) λb o e=>he b o (Nat.ne_of_lt (Heap.lt_size e)) e
    refine assignInOrder_cons (wpAny_assign_Name (wpAny_storeName_local (lookup_relabel_local hx) (hC2.ns (r3g.frAt (q:=(C,oC2)) (Zz3 _ Zz5))) (λh5 hn5 sb5=>?_) (by simp[compEnvC,relabel,hkind])))
    refine assignInOrder_cons (wpAny_assign_Name (wpAny_storeName_local (lookup_relabel_local hx₂) hn5 (λh4 hn4 sb4=>?_) (by simp[compEnvC,relabel,hkind])))
    refine assignInOrder_nil ?_
    obtain⟨oC4,nC4,r4,aC3,aD3⟩:=Zhi z (I1.adr _ _ i3) r3g hn4 λb o hb e=>sb4.extBut b o hb (sb5.extBut b o hb e)
    have rc:=ZjO (scope:=scope) (cl:=cl) (ts:=[(x,t),(a,t₂)]) (O:=Zi (Zi O t va) t₂ vb) r4 aC3 nC4 (λp hp=>by
     rcases Zz7.mp hp with e | hp
     ·rw[e]
      exact⟨va,y1,by simp[Zi,htt],by simp[hxx],w1⟩
     ·rw[List.mem_singleton.mp hp]
      exact⟨vb,y2,by simp[Zi],.s,w2⟩) (λi hi=>by
     have h1:i≠t:=λe=>hi (x,t) Zz5 e.symm
     have h2:i≠t₂:=λe=>hi (a,t₂) (Zz2 _ Zz5) e.symm
     simp[Zi,h1,h2])
    exact ZiK (hel C O) aD3 z.cd l2 i3 hv2 rc e
 exact codeAny_compStart_list loop (I1.self 0 W1 O H0 _ fs _ _ _ o0 (.refl _) rC.sh1 i1 ho0 loop)
theorem ZnP(hg:JI2 prog w G iter g)(hel:∀C O,J prog w (Zav G scope cl C [(x,t),(a,t₂)] O) elt f)
  (hclos:closureFor scope G.env=pure cl) (hcell:∀y∈scope.names,y.2≠.cell) (hkind:scope.kind=.function) (hnames:∀y∈scope.names,y.2=.local->scope.names.lookup y.1=some .local) (hx:scope.names.lookup x=some .local) (hx₂:scope.names.lookup a=some .local) (hxx:x≠a) (htt:t≠t₂) (hs:∀x,foldedSetIterable iter G.env x=pure x:=by intro _;rfl):
  J prog w G (.ListComp elt [⟨.Tuple [.Name x px,.Name a px₂] kt tp,iter,[],0⟩] scope pos) (Z5 g (Zcn t t₂) ZD f):=by
 intro W O H fr s Q E v H' r hf post
 obtain⟨z,e1,hf⟩:=Zz0.mp hf
 obtain⟨q,e2,e3⟩:=Zz1.mp hf
 cases e3
 rw[eval_ListComp]
 refine wpAny_comprehension_free (use:=Option.none) rfl hs hclos hkind hnames ?_
 refine Zl7 (RR:=λacc C=>compPost (model prog w) G.A E Option.none Q acc C) hg hel hcell hkind hx hx₂ hxx htt r (q:=q) (by rw[e1];exact e2) λW2 h' tk' C D oC u ys l2 hC hv hl aD aC cd r3=>?_
 refine⟨u,hC.ns (r3.frAt (q:=(C,oC)) Zz5),λh'' sb=>?_⟩
 obtain⟨W5,l5,r5,v5⟩:=Zhj hv hl aD aC cd r3 sb
 exact post W5 h'' tk' _ (l2.trans l5) r5 v5
end PM
end
section
namespace PM
open PySem PySem.W PySem.Calls PyProof.Rows PyProof PySem.Spec
variable{prog p:Program}{w:World}{s:Shared}{h₀:Heap}{m:Str->Option Value}{lent cells:List (Addr×Obj)}{loose names:List Str}{outer:List Env}{name qual:Str}{scope:Scope}{an:Option Addr}{f:Addr}{binds:List (Str×Value)}{g:Sm}{G:Cx}{dp:Nat}{es:List Expr}{o:List V->Hp->Option (V×Hp)}{cl:List (Str×Addr)}{ts:List (Str×Nat)}{P:Params}{ns:List Int}{cd:Value}{Q:Flow->Shared->Prop}{E:Value->Shared->Prop}
theorem Zo0{A A₀:Around}{base:Heap}{L:Addr}{K:Frag}{mean:ExcName->Option Value}{mg mb:Str->Option Value}
  {env:Env}  {R:Result->Shared->Prop}  {params:Arguments} {body:List Stmt}  {dV kV doc pm cdv ct oc:Value} {od:Option Addr} {osl:Array (Option Value)}  {args:Args} 
  (B:Below A₀ base outer h₀) (F:Fr h₀ L s.heap m) (X₀:K.In h₀) (N:News h₀ L s.heap lent) (T:Top p loose mean mg mb h₀) (hA:A.frames=some (env::outer)) (hf:env.frame=some L) (hke:env.scope.kind=.function)
  (ho:K.lookup f=some ⟨oc,od,.func (fnOf name qual params body scope dV kV doc pm an cdv ct),osl⟩) (hcd:codeIn K cdv qual=true) (hroom:A.depth<recursionLimit)
  (hbind:BindsTo s (fnOf name qual params body scope dV kV doc pm an cdv ct) args binds) (hall:(binds.all λy=>scope.names.lookup y.1 == some .local || scope.names.lookup y.1 == some .cell)=true) (hone:((cellsFrom 0 scope.names []).map (·.1)).Nodup)
  (h:∀g L' h₁ tk cells,(∀b o,s.heap.get? b=some o->b∉lent.map (·.1)->g.get? b=some o)->Fr g L' h₁ (bindL (envOfC qual scope L' f cdv).kindOf binds λ_=>none)->News g L' h₁ (cells++lent)->CellsAre (bindC (envOfC qual scope L' f cdv).kindOf binds λ_=>none) (cellsFrom (L'+1) scope.names []) cells ->
   (cellsFrom (L'+1) scope.names []).Pairwise (λx y=>x.2≠y.2)->(∀n c,(n,c)∈cellsFrom (L'+1) scope.names []->L'<c)->Below A base (env::outer) g->K.In g->Top p loose mean mg mb g->(∀q∈lent,q.1<L')->s.heap.objs.size<=L' ->
   wpAny (model prog w) (A.deeper (envOfC qual scope L' f cdv)) (execs body (envOfC qual scope L' f cdv)) (λfl s'=>LeaveK h₀ L m g R (match fl with | .ret v=>v | _=>.none) s')
    (λe s'=>wpAny (model prog w) (A.deeper (envOfC qual scope L' f cdv)) (leaving (envOfC qual scope L' f cdv) e) (λ_ s''=>R (.error e) s'') (λe' s''=>R (.error e') s'') s') { s with heap:=h₁,toks:=tk })
  (hco:scope.isCoroutine=false) (hgen:scope.isGenerator=false) (hk:scope.kind=.function):codeAny (model prog w) A (.call (.ref f) args) R s:=by
 obtain⟨FG,BG,st,lv⟩:=groundX (R:=R) B F N hA hf hke
 have X:=X₀.keeps F.keep
 refine codeAny_call_function (fd:=fnOf name qual params body scope dV kV doc pm an cdv ct) hroom (X _ _ ho) rfl hco hgen rfl (codeRec_of X hcd) (hbind _ _ _ _ ?_)
 refine wpAny_newFunctionEnv_cells hk (kindsX hall _) λfresh hfr s' inC=>?_
 subst hfr
 have up:=inC.toInCall.keep
 refine⟨(T.nolimit.keeps F.keep).keeps up,codeAny_func ?_⟩
 obtain⟨h₁,tk,hs',_⟩:=inC.done
 subst hs'
 have nod:=cellsFrom_names scope.names 0 (s.heap.objs.size+1) [] [] rfl▸hone
 obtain⟨cells,NC,Y⟩:=Cl.news (h₀:=s.heap) (L:=s.heap.objs.size) (Zz10 _) λn c hm=>⟨inC.cell n c (lookup_of_mem_nodup nod hm),inC.above n c hm⟩
 have old:∀q∈lent,q.1<s.heap.objs.size:=λq hq=>Heap.lt_size (N q hq).1
 refine wpAny_mono (h _ s.heap.objs.size h₁ tk cells (λb o e nb=>hideAll_get _ e nb) ⟨inC.toInCall.ns,λb o e=>up b o (of_hideAll _ e),Nat.le_of_eq (hideAll_size _ _)⟩ (λq hq=>?_) Y inC.apart inC.above BG (X₀.keeps st) (T.keeps st) old (Zz10 _)) (λfl s' hl=>lv _ _ hl) λ_ _ y=>y
 rcases Zz8.mp hq with hq | hq
 ·obtain⟨c1,c2,c3⟩:=NC q hq
  refine⟨c1,c2,?_⟩
  cases e:(hideAll s.heap (lent.map (·.1))).get? q.1 with
  | none=>rfl
  | some o=>
   have z:=of_hideAll _ e
   rw[c3]at z
   cases z
 ·exact⟨up _ _ (N q hq).1,Nat.ne_of_lt (old q hq),hideAll_none _ (List.mem_map_of_mem hq)⟩
section
variable (prog:Program) (w:World) (K:Frag) (p:Program) (loose:List Str) (mean:ExcName->Option Value) (mg mb:Str->Option Value)
def Clr(G:Cx)(dp un:Nat): Prop:=∃(gd:Option (List Code)) (cn:Str) (cs:Scope) (a:Addr) (ccd:Value) (cl:List (Str×Addr)) (outer:List Env) (A₀:Around) (base:Heap),
 G.A=ktrTop dp un gd cn cs G.L a ccd cl outer/\Below A₀ base outer G.h₀/\K.In G.h₀/\Top p loose mean mg mb G.h₀/\cs.kind=.function
def Def(f:Addr)(room:Nat)(F:List V->Hp->Option (V×Hp)): Prop:=∀(G:Cx) (dp un:Nat),Clr K p loose mean mg mb G dp un->dp+room<recursionLimit->un+10*room+300<cLine ->
 ∀(W:Wd) (O:Lc) (H:Hp) (fr:List (Addr×Obj)) (s:Shared) (Q E:Value->Shared->Prop) (as:List V) (xs:List Value) (v:V) (H':Hp),
  Rep G W O H fr s.heap->VRs W as xs->F as H=some (v,H')->ZdP G W O H' fr s Q v->codeAny (model prog w) G.A (.call (.ref f) ⟨xs,[]⟩) (λr s'=>match r with | .ok (.ret v)=>Q v s' | .ok _=>False | .error e=>E e s') s
end
noncomputable def Zr(n:Nat)(g:Sm): List V->Hp->Option (V×Hp):=λas H=>if as.length=n then(g (λi=>as[i]?) H).map λr=>((r.1.getD .none),r.2.2)else none
theorem Zms{kindOf:Str->Option NameKind}: ∀{ps:List Str} {xs:List Value} {m:Str->Option Value} {x:Str} {i:Nat} {y:Value},ps.Nodup->ps[i]?=some x->xs[i]?=some y->kindOf x=some .local->bindL kindOf (ps.zip xs) m x=some y:=by
 have skip:∀{ps:List Str} {xs:List Value} {m:Str->Option Value} {x:Str},x∉ps->bindL kindOf (ps.zip xs) m x=m x:=by
  intro ps
  induction ps with
  | nil=>intro xs m x _;rfl
  | cons p ps ih=>
   intro xs m x hx
   cases xs with
   | nil=>rfl
   | cons z xs=>
    simp only[List.zip_cons_cons,bindL]
    rw[ih (λh=>hx (Zz2 _ h))]
    have:x≠p:=λe=>hx (e▸List.mem_cons_self)
    split <;> simp[this]
 intro ps
 induction ps with
 | nil=>intro xs m x i y _ h;simp at h
 | cons p ps ih=>
  intro xs m x i y nd hp hx hk
  cases xs with
  | nil=>simp at hx
  | cons z xs=>
   obtain⟨n1,n2⟩:=List.nodup_cons.mp nd
   cases i with
   | zero=>
    simp at hp hx
    subst hp hx
    simp only[List.zip_cons_cons,bindL]
    rw[skip n1,if_pos hk]
    simp
   | succ i=>
    simp at hp hx
    simp only[List.zip_cons_cons,bindL]
    exact ih n2 hp hx hk
theorem Zmt{kindOf:Str->Option NameKind}: ∀{ps:List Str} {xs:List Value} {m:Str->Option Value} {x:Str} {i:Nat} {y:Value},ps.Nodup->ps[i]?=some x->xs[i]?=some y->kindOf x=some .cell->bindC kindOf (ps.zip xs) m x=some y:=by
 have skip:∀{ps:List Str} {xs:List Value} {m:Str->Option Value} {x:Str},x∉ps->bindC kindOf (ps.zip xs) m x=m x:=by
  intro ps
  induction ps with
  | nil=>intro xs m x _;rfl
  | cons p ps ih=>
   intro xs m x hx
   cases xs with
   | nil=>rfl
   | cons z xs=>
    simp only[List.zip_cons_cons,bindC]
    rw[ih (λh=>hx (Zz2 _ h))]
    have:x≠p:=λe=>hx (e▸List.mem_cons_self)
    split <;> simp[this]
 intro ps
 induction ps with
 | nil=>intro xs m x i y _ h;simp at h
 | cons p ps ih=>
  intro xs m x i y nd hp hx hk
  cases xs with
  | nil=>simp at hx
  | cons z xs=>
   obtain⟨n1,n2⟩:=List.nodup_cons.mp nd
   cases i with
   | zero=>
    simp at hp hx
    subst hp hx
    simp only[List.zip_cons_cons,bindC]
    rw[skip n1,if_neg (by rw[hk];simp)]
    simp
   | succ i=>
    simp at hp hx
    simp only[List.zip_cons_cons,bindC]
    exact ih n2 hp hx hk
theorem Zeg{cm:Str->Option Value}: ∀{cs:List (Str×Addr)} {cells:List (Addr×Obj)} {x:Str} {c:Addr},CellsAre cm cs cells->(x,c)∈cs->∃o,(c,o)∈cells/\o.data=.cell (cm x)
 | _,_,_,_,.nil,h=>nomatch h
 | _,_,_,_,.cons hd r,h=>by
  rcases Zz7.mp h with e | h
  ·first|exact Yx0 e|cases e
   exact⟨_,List.mem_cons_self,hd⟩
  ·obtain⟨o,h1,h2⟩:=Zeg r h
   exact⟨o,Yy3 _ h1,h2⟩
theorem ZjP{cm:Str->Option Value}: ∀{cs:List (Str×Addr)} {cells:List (Addr×Obj)} {q:Addr×Obj},CellsAre cm cs cells->q∈cells->∃x,(x,q.1)∈cs
 | _,_,_,.nil,h=>nomatch h
 | _,_,_,.cons hd r,h=>by
  rcases Zz7.mp h with e | h
  ·first|exact Yx0 e|cases e
   exact⟨_,List.mem_cons_self⟩
  ·obtain⟨x,h1⟩:=ZjP r h
   exact⟨x,Yy3 _ h1⟩
theorem Zcr{d c:Type}[BEq d][LawfulBEq d]: ∀{l:List (d×c)} {x:d} {y:c},l.lookup x=some y->(x,y)∈l
 | [],_,_,h=>by simp at h
 | (a,b)::r,x,y,h=>by
  rw[List.lookup_cons]at h
  split at h
  ·rename_i e
   cases h
   have:=eq_of_beq e
   subst this
   exact Zz5
  ·exact Zz2 _ (Zcr h)
section
variable {prog:Program} {w:World} {K:Frag} {p:Program} {loose:List Str} {mean:ExcName->Option Value} {mg mb:Str->Option Value}
theorem Zcd{params:Arguments}{body:List Stmt}{dV kV doc pm cdv ct oc:Value}{od:Option Addr}{osl:Array (Option Value)}{n room:Nat}
  (ho:K.lookup f=some ⟨oc,od,.func (fnOf name qual params body scope dV kV doc pm an cdv ct),osl⟩) (hcd:codeIn K cdv qual=true) (nd:names.Nodup) (hn:n<=names.length)
  (hbind:∀s xs,xs.length=n->BindsTo s (fnOf name qual params body scope dV kV doc pm an cdv ct) ⟨xs,[]⟩ ((names.take n).zip xs)) (hkinds:∀x∈names.take n,scope.names.lookup x=some .local∨scope.names.lookup x=some .cell) (hone:((cellsFrom 0 scope.names []).map (·.1)).Nodup)
  (hco:scope.isCoroutine=false) (hgen:scope.isGenerator=false) (hk:scope.kind=.function)
  (hbody:∀(dp un:Nat) (gd:Option (List Code)) (L:Addr) (outer:List Env) (h₀:Heap) (hu:un+200<cLine),Clr K p loose mean mg mb (ZaN dp un gd qual scope L f cdv (cellsFrom (L+1) scope.names []) outer h₀ hu names) dp un->dp+room<recursionLimit->un+10*room+300<cLine ->
   Ss prog w (ZaN dp un gd qual scope L f cdv (cellsFrom (L+1) scope.names []) outer h₀ hu names) body g):
  Def prog w K p loose mean mg mb f (room+1) (Zr n g):=by
 intro G dp un clr hd hu W O H fr s Q E as xs v H' r hx hF post
 obtain⟨gd,cn,cs,a,ccd,cl,outer,A₀,base,eA,B,X,T,hke⟩:=clr
 unfold Zr at hF
 split at hF
 ·rename_i hlen
  obtain⟨res,e1,e2⟩:=Zz1.mp hF
  obtain⟨o,U,K'⟩:=res
  cases e2
  obtain⟨m,c,led,r⟩:=r
  have hxl:xs.length=n:=by rw[hx.length,hlen]
  have inn:∀q∈led,(q.1∈W.pi∨q.1∈W.tups.map (·.1))↔q∈led.filter (λq=>decide (q.1∈W.pi∨q.1∈W.tups.map (·.1))):=λq hq=>⟨λh=>Yy9.mpr ⟨hq,by simpa using h⟩,λh=>by simpa using (List.mem_filter.mp h).2⟩
  have isub:∀q∈led.filter (λq=>decide (q.1∈W.pi∨q.1∈W.tups.map (·.1))),q∈led:=λq hq=>(List.mem_filter.mp hq).1
  generalize hlent:led.filter (λq=>decide (q.1∈W.pi∨q.1∈W.tups.map (·.1)))=lent at inn isub
  have notin:∀q∈led,q.1∉W.pi->(∀t∈W.tups,q.1≠t.1)->q.1∉lent.map (·.1):=λq hq h1 h2 h3=>by
   obtain⟨t,ht,e⟩:=Zz11.mp h3
   rcases(inn t (isub t ht)).mpr ht with z | z
   ·exact h1 (e▸z)
   ·obtain⟨u,hu,e'⟩:=Zz11.mp z
    exact h2 u hu (e▸e'.symm)
  rw[eA]
  refine Zo0 (env:=envX cn cs G.L a ccd cl) (lent:=lent) B r.F X (λq hq=>r.N q (isub q hq)) T rfl rfl hke ho hcd (by show dp<recursionLimit;lia) (hbind s xs hxl) ?_ hone ?_ hco hgen hk
  ·refine List.all_eq_true.mpr λy hy=>?_
   rcases hkinds y.1 (List.of_mem_zip hy).1 with h | h <;> simp[h]
  intro g0 L' h₁ tk cells stay F' N' Y ap ab B' X' T' old szL
  have hu':(un+3)+200<cLine:=by lia
  have clr':Clr K p loose mean mg mb (ZaN (dp+1) (un+3) gd qual scope L' f cdv (cellsFrom (L'+1) scope.names []) (envX cn cs G.L a ccd cl::outer) g0 hu' names) (dp+1) (un+3):=
   ⟨gd,qual,scope,f,cdv,cellsFrom (L'+1) scope.names [],envX cn cs G.L a ccd cl::outer,_,base,rfl,B',X',T',hk⟩
  have below:∀q∈cells,L'<q.1:=λq hq=>by
   obtain⟨x,hx⟩:=ZjP Y hq
   exact ab x _ hx
  have piLt:∀b∈W.pi,b<L':=λb hb=>by
   obtain⟨o,ho⟩:=r.piIn b hb
   exact Nat.lt_of_lt_of_le (Heap.lt_size (r.get ho)) szL
  have tuLt:∀t∈W.tups,t.1<L':=λt ht=>Nat.lt_of_lt_of_le (Heap.lt_size (r.get (r.R.tups t ht))) szL
  have scN:W.sc.1∉lent.map (·.1):=λz=>by
   obtain⟨t,ht,e⟩:=Zz11.mp z
   exact r.notSc t (isub t ht) e
  have tkn:∀{i:Nat} {x:Str} {u:V},names[i]?=some x->as[i]?=some u->(names.take n)[i]?=some x/\∃y,xs[i]?=some y/\VR W u y:=λ{i x u} h1 h2=>by
   have hi:i<n:=by rw[<-hlen];exact(Zz6.mp h2).1
   exact⟨by rw[List.getElem?_take_of_lt hi];exact h1,hx.at h2⟩
  have ndt:(names.take n).Nodup:=nd.sublist (List.take_sublist _ _)
  have rep:Rep (ZaN (dp+1) (un+3) gd qual scope L' f cdv (cellsFrom (L'+1) scope.names []) (envX cn cs G.L a ccd cl::outer) g0 hu' names) W (λi=>as[i]?) H [] h₁:=by
   refine⟨_,cells,cells++lent,⟨F',N',⟨r.R.len,r.R.nd,λi vs e ni=>?_,λq hq=>?_,r.R.kind,λi vs fs e hi=>?_,r.R.inlt,r.R.iuni⟩,stay _ _ (r.F.keep _ _ r.sc) scN,r.sc0,λq hq=>(nomatch hq),λq hq=>(nomatch hq),λq hq=>Yy7 _ hq,λq hq z=>?_,λq _ t ht=>(nomatch ht),λq hq=>(nomatch hq),λq hq t ht=>?_,⟨λi x u hi hk1 hu1=>?_,λi x u hi hk1 hu1=>?_,λx c1 hc=>?_,λx y c1 h1 h2=>?_⟩⟩⟩
   ·obtain⟨l,b,ys,k,h1,h2,h3⟩:=r.R.lists i vs e ni
    exact⟨l,b,ys,k,h1,Zbe h2 λz=>List.mem_append_right _ ((inn _ z).mp (.inl (Yy4 h1))),h3⟩
   ·exact Zbe (r.R.tups q hq) λz=>List.mem_append_right _ ((inn _ z).mp (.inr (List.mem_map_of_mem hq)))
   ·obtain⟨l,b,od,ys,h1,h2,h3⟩:=r.R.objs i vs fs e hi
    exact⟨l,b,od,ys,h1,Zbe h2 λz=>List.mem_append_right _ ((inn _ z).mp (.inl (Yy4 h1))),h3⟩
   ·exact absurd (Nat.lt_trans (piLt _ z) (below q hq)) (Nat.lt_irrefl _)
   ·exact Nat.ne_of_gt (Nat.lt_trans (tuLt t ht) (below q hq))
   ·obtain⟨h1,y,h2,h3⟩:=tkn hi hu1
    exact⟨y,Zms ndt h1 h2 hk1,h3⟩
   ·obtain⟨h1,y,h2,h3⟩:=tkn hi hu1
    have hs:=cellsFrom_some scope.names (L'+1) [] (.inl hk1)
    obtain⟨c1,hc1⟩:=Option.isSome_iff_exists.mp hs
    obtain⟨o1,ho1,hd1⟩:=Zeg Y (Zcr hc1)
    refine⟨c1,o1,y,hc1,ho1,?_,h3⟩
    rw[hd1,Zmt ndt h1 h2 hk1]
   ·obtain⟨o1,ho1,hd1⟩:=Zeg Y (Zcr hc)
    exact⟨o1,_,ho1,hd1⟩
   ·exact name_of_addr ap (Zcr h1) (Zcr h2)
  have hb:=hbody (dp+1) (un+3) gd L' (envX cn cs G.L a ccd cl::outer) g0 hu' clr' .l .l
  have back:∀(W':Wd) (h':Heap) (tk':Nat) (x:Value),W.Le W'->Rep (ZaN (dp+1) (un+3) gd qual scope L' f cdv (cellsFrom (L'+1) scope.names []) (envX cn cs G.L a ccd cl::outer) g0 hu' names) W' U K' [] h'->VR W' (o.getD .none) x ->
    LeaveK G.h₀ G.L m g0 (λr s'=>match r with | .ok (.ret v)=>Q v s' | .ok _=>False | .error e=>E e s') x { s with heap:=h',toks:=tk' }:=by
   intro W' h' tk' x l' r' x'
   obtain⟨m',c',led',r'⟩:=r'
   refine⟨L',m',led',r'.F,r'.N,λFG NG=>post W' h' tk' x l' ?_ x'⟩
   have g0at:∀q∈led,q.1∉lent.map (·.1)->g0.get? q.1=some q.2:=λq hq hn=>stay _ _ (r.N q hq).1 hn
   have frN:∀q∈fr,q.1∉lent.map (·.1):=λq hq=>notin q (r.frIn q hq) (r.frOff q hq) (r.frTup q hq)
   have clN:∀q∈c,q.1∉lent.map (·.1):=λq hq=>notin q (r.clIn q hq) (r.clOff q hq) (r.clTup q hq)
   have newN:∀t∈led',g0.get? t.1=none:=λt ht=>(r'.N t ht).2.2
   have far:∀q∈led,q.1∉lent.map (·.1)->∀t∈W'.sc::led',q.1≠t.1:=λq hq hn t ht e=>by
    rcases Zz7.mp ht with e2 | ht
    ·rw[e2,l'.sc]at e
     exact r.notSc q hq e
    ·have:=g0at q hq hn
     rw[e,newN t ht]at this
     cases this
   have farPi:∀q∈led,q.1∉lent.map (·.1)->q.1∉W'.pi:=λq hq hn z=>by
    obtain⟨o2,h2⟩:=r'.piIn _ z
    exact far q hq hn _ h2 rfl
   have keep:∀q∈led,q.1∉lent.map (·.1)->q∈led'++led.filter (λq=>decide (q.1∉lent.map (·.1))):=λq hq hn=>List.mem_append_right _ (Yy9.mpr ⟨hq,by simpa using hn⟩)
   refine⟨m,c,led'++led.filter (λq=>decide (q.1∉lent.map (·.1))),⟨FG,λq hq=>?_,r'.R.mono λq hq=>Zcy hq λx hx=>Yy7 _ hx,l'.sc▸r.sc,r'.sc0,λq hq=>keep q (r.frIn q hq) (frN q hq),λq hq=>farPi q (r.frIn q hq) (frN q hq),λq hq=>keep q (r.clIn q hq) (clN q hq),λq hq=>farPi q (r.clIn q hq) (clN q hq),r.apart,λq hq t ht=>far q (r.frIn q hq) (frN q hq) t (r'.R.tups t ht),λq hq t ht=>far q (r.clIn q hq) (clN q hq) t (r'.R.tups t ht),G.mono l' r.own⟩⟩
   rcases Zz8.mp hq with hq | hq
   ·exact NG q hq
   ·obtain⟨h1,h2⟩:=List.mem_filter.mp hq
    exact⟨r'.F.keep _ _ (g0at q h1 (by simpa using h2)),(r.N q h1).2⟩
  refine hb W _ H [] _ _ _ (o,U,K') rep e1 ?_
  cases o with
  | none=>exact λW' h' tk' l' r'=>back W' h' tk' .none l' r' .none
  | some v0=>exact λW' h' tk' x l' r' x'=>back W' h' tk' x l' r' x'
 ·first|exact Yx0 hF|cases hF
theorem ZhA{un:Nat}{x:Str}{np pos:Pos}{room:Nat}{e:Expr}{g:Exs}(clr:Clr K p loose mean mg mb G dp un)(hn:Nm prog w G x (.ref f))(hkeep:keepIn K (.ref f)=true)(D:Def prog w K p loose mean mg mb f room o)(hd:dp+room<recursionLimit)(hu:un+10*room+300<cLine)
  (h:Js prog w G (e::es) g) (he:starEach (e::es) G.env=(false,eval e G.env)::starEach es G.env:=by rfl) (hp:∀pos,(backTo pos (starEach es G.env)).any (·.1)=false:=by intro _;rfl):J prog w G (.Call (.Name x np) (e::es) [] pos) (Zg o g):=by
 intro W O H fr s Q E v H' r hf post
 obtain⟨q,e1,hf⟩:=Zz0.mp hf
 have X:K.In G.h₀:=by
  obtain⟨_,_,_,_,_,_,_,_,_,_,_,X,_⟩:=clr
  exact X
 refine wpAny_Call_ofName (hn.use r ?_)
 refine callWith_K (first:=[]) X hkeep (h pos W O H fr s _ E _ _ r e1 λW1 k1 t1 xs l1 r1 x1=>⟨?_,?_⟩) he (hp pos)
 ·obtain⟨m,c,led,r1⟩:=r1
  exact X.keeps r1.F.keep
 ·exact wpAny_call (D G dp un clr hd hu W1 O _ fr _ Q E _ xs v H' r1 x1 hf λW2 k2 t2 y l2 r2 y2=>post W2 k2 t2 y (l1.trans l2) r2 y2)
theorem Clr.comp{un:Nat}{C:Addr}{ρ0:Lc}(h:Clr K p loose mean mg mb G dp un): Clr K p loose mean mg mb (Zav G scope cl C ts ρ0) dp un:=h
end
theorem ZgI{lo:Nat}: ∀(names:List (Str×NameKind)) (n:Nat) (acc:List (Str×Addr)),acc.Pairwise (λx y=>x.2≠y.2)->(∀q∈acc,lo<q.2/\q.2<n)->lo<n->(cellsFrom n names acc).Pairwise (λx y=>x.2≠y.2)/\∀q∈cellsFrom n names acc,lo<q.2
 | [],n,acc,h1,h2,_=>⟨h1,λq hq=>(h2 q hq).1⟩
 | (y,k)::r,n,acc,h1,h2,h3=>by
  unfold cellsFrom
  by_cases hk:(k == .cell)=true
  ·rw[if_pos hk]
   refine ZgI r (n+1) ((y,n)::acc) (List.pairwise_cons.mpr ⟨λq hq=>Nat.ne_of_gt (h2 q hq).2,h1⟩) (λq hq=>?_) (Nat.lt_succ_of_lt h3)
   rcases Zz7.mp hq with e | hq
   ·rw[e]
    exact⟨h3,Nat.lt_succ_self n⟩
   ·exact⟨(h2 q hq).1,Nat.lt_succ_of_lt (h2 q hq).2⟩
  ·rw[if_neg hk]
   exact ZgI r n acc h1 h2 h3
theorem Zmu{h:Heap}{a:Addr}(w1:Well P h (.ref a) (ofPy (.list (ns.map PyData.int))))(W:Wd): ∃vs,h.get? a=some (ZaA vs 0)/\VRs W (ns.map V.int) vs:=by
 have key:∀{ns:List Int} {vs:List Value} {xs:List WData},xs=(ns.map PyData.int).map ofPy->WellAll P h vs xs->VRs W (ns.map V.int) vs:=by
  intro ns
  induction ns with
  | nil=>intro vs xs e h;subst e;cases h;exact .nil
  | cons n ns ih=>
   intro vs xs e h
   subst e
   cases h with
   | cons h1 h2=>
    cases h1 with
    | int i t=>exact .cons (.int _ _) (ih rfl h2)
 have e:ofPy (.list (ns.map PyData.int))=.list ((ns.map PyData.int).map ofPy):=by rw[ofPy,ofPys_eq]
 rw[e]at w1
 cases w1 with
 | list hg ha=>exact⟨_,hg,key rfl ha⟩
section
variable {prog:Program} {w:World} {K:Frag} {p:Program} {loose:List Str} {mean:ExcName->Option Value} {mg mb:Str->Option Value}
theorem ZnQ{sa fa:Addr}{pname:Str}{body:List Stmt}{room:Nat}{H':Hp}
  (hbody:∀(dp un:Nat) (gd:Option (List Code)) (L a:Addr) (ccd:Value) (outer:List Env) (h₀:Heap) (hu:un+200<cLine),Clr K p loose mean mg mb (ZaN dp un gd qual scope L a ccd (cellsFrom (L+1) scope.names []) outer h₀ hu names) dp un->dp+room<recursionLimit->un+10*room+300<cLine ->
   Ss prog w (ZaN dp un gd qual scope L a ccd (cellsFrom (L+1) scope.names []) outer h₀ hu names) body g)
  (hd:callerA.depth+1+room<recursionLimit) (hun:callerA.units+3+10*room+300<cLine) (hk:scope.kind=.function) (h0:names[0]?=some pname)
  (KX:K.In h₀) (T:Top p loose mean mg mb h₀) (w1:Well P h₀ (.ref sa) (ofPy (.list (ns.map PyData.int)))) (hlen:ns.length<=ZK)
  (F:Fr h₀ h₀.objs.size s.heap (bindL (envOfC qual scope h₀.objs.size fa cd).kindOf [(pname,.ref sa)] λ_=>none)) (N:News h₀ h₀.objs.size s.heap cells) (X0:CellsAre (bindC (envOfC qual scope h₀.objs.size fa cd).kindOf [(pname,.ref sa)] λ_=>none) (cellsFrom (h₀.objs.size+1) scope.names []) cells)
  (hg:Zr 1 g [.ref 0] [ns.map V.int]=some (.bool true,H')) (post:∀h' tk' m',Fr h₀ h₀.objs.size h' m'->Q (.ret (.bool true)) { s with heap:=h',toks:=tk' }):
  wpAny (model prog w) (callerA.deeper (envOfC qual scope h₀.objs.size fa cd)) (execs body (envOfC qual scope h₀.objs.size fa cd)) Q E s:=by
 have hu':(callerA.units+3)+200<cLine:=by lia
 have clr:Clr K p loose mean mg mb (ZaN (callerA.depth+1) (callerA.units+3) callerA.guards qual scope h₀.objs.size fa cd (cellsFrom (h₀.objs.size+1) scope.names []) [] h₀ hu' names) (callerA.depth+1) (callerA.units+3):=
  ⟨callerA.guards,qual,scope,fa,cd,cellsFrom (h₀.objs.size+1) scope.names [],[],_,_,rfl,below_caller h₀,KX,T,hk⟩
 have hb:=hbody (callerA.depth+1) (callerA.units+3) callerA.guards h₀.objs.size fa cd [] h₀ hu' clr hd hun
 obtain⟨vs,hsc,hv⟩:=Zmu w1 ⟨[sa],[],(sa,ZaA [] 0),[]⟩
 have hv':VRs ⟨[sa],[],(sa,ZaA vs 0),[]⟩ (ns.map V.int) vs:=by
  clear hg post w1 hlen hsc
  generalize ns.map V.int=us at hv
  have key:∀{us:List V} {xs:List Value},VRs ⟨[sa],[],(sa,ZaA [] 0),[]⟩ us xs->VRs ⟨[sa],[],(sa,ZaA vs 0),[]⟩ us xs:=by
   intro us
   induction us with
   | nil=>intro xs h;cases h;exact .nil
   | cons u us ih=>
    intro xs h
    cases h with
    | cons a b=>
     refine .cons ?_ (ih b)
     cases a with
     | none=>exact .none
     | bool b=>exact .bool b
     | int i t=>exact .int i t
     | str s t=>exact .str s t
     | tup hm _ _=>exact nomatch hm
     | ref e=>exact .ref e
     | obj _ h2 _ _=>exact nomatch h2
  exact key hv
 have far:=ZgI (lo:=h₀.objs.size) scope.names (h₀.objs.size+1) [] .nil (λq hq=>nomatch hq) (Nat.lt_succ_self _)
 unfold Zr at hg
 rw[if_pos (show([V.ref 0]:List V).length=1 from rfl)]at hg
 obtain⟨res,e1,e2⟩:=Zz1.mp hg
 obtain⟨o,U,K'⟩:=res
 have eo:o=some (.bool true):=by
  cases o with
  | none=>simp at e2
  | some v=>simp at e2;rw[e2.1]
 subst eo
 have pick:∀{i:Nat} {x:Str} {u:V},names[i]?=some x->([V.ref 0]:List V)[i]?=some u->x=pname/\u=.ref 0:=λ{i x u} h1 h2=>by
  have hi:i<1:=(Zz6.mp h2).1
  have:i=0:=by lia
  subst this
  rw[h0]at h1
  simp at h1 h2
  exact⟨h1.symm,h2.symm⟩
 have rep:Rep (ZaN (callerA.depth+1) (callerA.units+3) callerA.guards qual scope h₀.objs.size fa cd (cellsFrom (h₀.objs.size+1) scope.names []) [] h₀ hu' names) ⟨[sa],[],(sa,ZaA vs 0),[]⟩ (λi=>[V.ref 0][i]?) [ns.map V.int] [] s.heap:=by
  refine⟨_,cells,cells,⟨F,N,⟨rfl,.s,λi us e _=>?_,λq hq=>(nomatch hq),λq hq=>(nomatch hq),λi us fs e hi=>(nomatch hi),λq hq=>(nomatch hq),λq hq=>(nomatch hq)⟩,hsc,rfl,λq hq=>(nomatch hq),λq hq=>(nomatch hq),λq hq=>hq,λq hq z=>?_,λq _ t ht=>(nomatch ht),λq hq=>(nomatch hq),λq hq t ht=>(nomatch ht),⟨λi x u hi hk1 hu1=>?_,λi x u hi hk1 hu1=>?_,λx c1 hc=>?_,λx y c1 h1 h2=>?_⟩⟩⟩
  ·have hi:i<1:=(Zz6.mp e).1
   have:i=0:=by omega
   subst this
   simp at e
   subst e
   exact⟨by simpa using hlen,sa,vs,0,rfl,List.mem_cons_self,hv'⟩
  ·have:=(N q hq).2.2
   rw[List.mem_singleton.mp z,hsc]at this
   cases this
  ·obtain⟨e3,e4⟩:=pick hi hu1
   subst e3 e4
   refine⟨.ref sa,?_,.ref ⟨rfl,λq hq=>nomatch hq⟩⟩
   show bindL _ _ _ _=_
   unfold bindL bindL
   rw[if_pos (show(envOfC qual scope h₀.objs.size fa cd).kindOf x=some .local from hk1)]
   simp
  ·obtain⟨e3,e4⟩:=pick hi hu1
   subst e3 e4
   have hs:=cellsFrom_some scope.names (h₀.objs.size+1) [] (.inl hk1)
   obtain⟨c1,hc1⟩:=Option.isSome_iff_exists.mp hs
   obtain⟨o1,ho1,hd1⟩:=Zeg X0 (Zcr hc1)
   refine⟨c1,o1,.ref sa,hc1,ho1,?_,.ref ⟨rfl,λq hq=>nomatch hq⟩⟩
   rw[hd1]
   unfold bindC bindC
   rw[if_neg (show ¬(envOfC qual scope h₀.objs.size fa cd).kindOf x=some .local by show ¬scope.names.lookup x=some .local;rw[hk1];simp)]
   simp
  ·obtain⟨o1,ho1,hd1⟩:=Zeg X0 (Zcr hc)
   exact⟨o1,_,ho1,hd1⟩
  ·exact name_of_addr far.1 (Zcr h1) (Zcr h2)
 refine hb _ _ _ [] s Q E _ rep e1 ?_
 intro W' h' tk' x l' r' x'
 cases x' with
 | bool _=>
  obtain⟨m',c',led',r'⟩:=r'
  exact post h' tk' m' r'.F
end
end PM
end
section
namespace PM
open PySem PySem.W PySem.Calls PyProof.Rows PyProof PyProof.Rows.LCg PyProof.Rows.LSm
variable{fr:List (Addr×Obj)}{vs:List V}{xs:List Value}{x:Str}{v:Value}
variable{prog:Program}{w:World}{G:Cx}
theorem Rep.listAt{W:Wd}{O:Lc}{H:Hp}{h h':Heap}{k:Nat}(r:Rep G W O H fr h)(up:∀b o,h.get? b=some o->h'.get? b=some o)(hg:h'.get? h.objs.size=some (ZaA xs k))(hv:VRs W vs xs)(hl:vs.length<=ZK):
  ∃W',W.Le W'/\Rep G W' O (H++[vs]) fr h'/\VR W' (.ref H.length) (.ref h.objs.size):=by
 obtain⟨r2,ap⟩:=r.more (fs:=[(h.objs.size,ZaA xs k)]) up (λq hq=>by rw[List.mem_singleton.mp hq];exact⟨hg,Nat.le_refl _⟩)
 exact Zg8 r2 (λt ht=>ap _ Zz5 t ht) hv hl
noncomputable def ZcO: List V->Hp->Option (V×Hp)
 | [.ref a],H=>H[a]?.map λvs=>(.ref H.length,H++[vs])
 | [.tup vs],H=>some (.ref H.length,H++[vs])
 | _,_=>none
noncomputable def Zfq: List V->Hp->Option (V×Hp)
 | [.ref a],H=>H[a]?.map λvs=>(.tup vs,H)
 | [.tup vs],H=>some (.tup vs,H)
 | _,_=>none
noncomputable def Zdx: List V->Option (List Bool)
 | []=>some []
 | .bool b::vs=>(Zdx vs).map λbs=>b::bs
 | _::_=>none
def ZrN: List V->Hp->Option (V×Hp)
 | [.ref a],H=>H[a]?.bind λvs=>(Zdx vs).map λbs=>(.bool (bs.all id),H)
 | _,_=>none
def ZdR: List V->Hp->Option (V×Hp)
 | [.ref a],H=>H[a]?.bind λvs=>(Zdx vs).map λbs=>(.bool (bs.any id),H)
 | _,_=>none
theorem ZlX{W:Wd}: ∀{vs:List V} {xs:List Value} {bs:List Bool},VRs W vs xs->Zdx vs=some bs->BoolsAre xs bs:=by
 intro vs
 induction vs with
 | nil=>intro xs bs h e;cases h;cases e;exact .nil
 | cons v vs ih=>
  intro xs bs h e
  cases h with
  | cons a b=>
   cases v with
   | bool c=>
    obtain⟨cs,e1,e2⟩:=Zz1.mp e
    subst e2
    cases a
    exact .cons _ (ih b e1)
   | none=>first|exact Yx0 e|cases e
   | int _=>first|exact Yx0 e|cases e
   | str _=>first|exact Yx0 e|cases e
   | tup _=>first|exact Yx0 e|cases e
   | ref _=>first|exact Yx0 e|cases e
   | obj _ _=>first|exact Yx0 e|cases e
theorem Zhk: OpN prog w (λxs=>call (.type "list") xs) ZcO:=by
 intro G W O H fr s Q E as xs v H' r hx ho post
 unfold ZcO at ho
 split at ho
 ·obtain⟨vs,e1,e2⟩:=Zz1.mp ho
  cases e2
  obtain⟨x,ex,rx⟩:=hx.one
  subst ex
  cases rx with
  | @ref _ a ea=>
   obtain⟨hl,ys,k,hg,hv⟩:=r.at e1 ea
   refine call_list_seq (hsz:=Zbr (by rw[List.size_toArray,hv.length];exact hl)) a (.inl rfl) hg rfl rfl λh' c' up hg'=>?_
   obtain⟨W2,l2,r2,v2⟩:=r.listAt up hg' hv hl
   exact post W2 h' s.toks _ l2 r2 v2
 ·first|exact Yx0 ho|cases ho
  obtain⟨x,ex,rx⟩:=hx.one
  subst ex
  cases rx with
  | @tup _ a ys k hm hl hv=>
   refine call_list_seq (hsz:=Zbr (by rw[List.size_toArray,hv.length];exact hl)) a (.inr rfl) (r.tupAt hm) rfl rfl λh' c' up hg'=>?_
   obtain⟨W2,l2,r2,v2⟩:=r.listAt up hg' hv hl
   exact post W2 h' s.toks _ l2 r2 v2
 ·first|exact Yx0 ho|cases ho
theorem ZiM: OpN prog w (λxs=>call (.type "tuple") xs) Zfq:=by
 intro G W O H fr s Q E as xs v H' r hx ho post
 unfold Zfq at ho
 split at ho
 ·obtain⟨vs,e1,e2⟩:=Zz1.mp ho
  cases e2
  obtain⟨x,ex,rx⟩:=hx.one
  subst ex
  cases rx with
  | @ref _ a ea=>
   obtain⟨hl,ys,k,hg,hv⟩:=r.at e1 ea
   have isl:s.heap.IsList a ys.toArray:=⟨_,hg,rfl,k,rfl⟩
   refine call_tuple_list isl (λh' up=>?_) (Zbr (by rw[List.size_toArray,hv.length];exact hl))
   obtain⟨W2,l2,r2,v2⟩:=(r.grown up).tuple (k:=0) hv hl
   exact post W2 _ s.toks _ l2 r2 v2
 ·first|exact Yx0 ho|cases ho
  obtain⟨x,ex,rx⟩:=hx.one
  subst ex
  cases rx with
  | @tup _ a ys k hm hl hv=>
   have it:IsTup s.heap a ys.toArray:=⟨_,r.tupAt hm,rfl,k,rfl⟩
   exact call_tuple_tup it (post W s.heap s.toks _ (.refl W) r (.tup hm hl hv))
 ·first|exact Yx0 ho|cases ho
theorem ZkA: OpN prog w (λxs=>call (.builtin "any") xs) ZdR:=by
 intro G W O H fr s Q E as xs v H' r hx ho post
 unfold ZdR at ho
 split at ho
 ·obtain⟨vs,e1,e2⟩:=Zz0.mp ho
  obtain⟨bs,e3,e4⟩:=Zz1.mp e2
  cases e4
  obtain⟨x,ex,rx⟩:=hx.one
  subst ex
  cases rx with
  | @ref _ a ea=>
   obtain⟨hl,ys,k,hg,hv⟩:=r.at e1 ea
   have isl:s.heap.IsList a ys.toArray:=⟨_,hg,rfl,k,rfl⟩
   obtain⟨m,c,led,r'⟩:=r
   exact any_bools r'.F r'.N G.hh isl (ZlX hv e3) λh' tk F' N'=>post W h' tk _ (.refl W) (r'.same F' N') (.bool _)
 ·first|exact Yx0 ho|cases ho
section
variable {prog:Program} {w:World} {K:Frag} {p:Program} {loose:List Str} {mean:ExcName->Option Value} {mg mb:Str->Option Value} {G:Cx} {dp un:Nat}
theorem Zer(clr:Clr K p loose mean mg mb G dp un)(e:nsIn K mainGlobals x=some (some v))(hg:G.env.globals=mainGlobals)(hk:G.env.scope.kind=.function)(hx:G.env.kindOf x=some .globalImplicit)(hd:(x == ("__debug__":Str))=false): Nm prog w G x v:=by
 obtain⟨_,_,_,_,_,_,_,_,_,_,_,X,T,_⟩:=clr
 intro pos m s Q E F q
 exact Name_function_global hk hx (loadGlobal_global (env:=G.env) (by rw[hg];exact T.g.keeps F.keep) (mg_of X T.g e) q) hd
theorem Zm3(clr:Clr K p loose mean mg mb G dp un)(e:nsIn K mainGlobals x=some none)(hv:bootBuiltins x=some v)(hn:x≠"__name__")(hg:G.env.globals=mainGlobals)(hb:G.env.builtins=builtinsNs)(hk:G.env.scope.kind=.function)(hx:G.env.kindOf x=some .globalImplicit)(hd:(x == ("__debug__":Str))=false): Nm prog w G x v:=by
 obtain⟨_,_,_,_,_,_,_,_,_,_,_,X,T,_⟩:=clr
 intro pos m s Q E F q
 exact Name_function_global hk hx (loadGlobal_builtin (env:=G.env) (by rw[hg];exact T.g.keeps F.keep) (mg_none_of X T.g e) (by rw[hb];exact T.b.keeps F.keep) ((T.builtins x hn).trans hv) q) hd
end
section
variable {prog:Program} {w:World} {G:Cx} {scope:Scope} {cl:List (Str×Addr)} {C:Addr} {ts:List (Str×Nat)} {ρ0:Lc}
theorem ZnR{t:Nat}(hm:(x,t)∈ts)(hk:scope.kind=.function)(hl:(compEnvC scope cl C G.env).kindOf x=some .local)(hd:(x == ("__debug__":Str))=false): Rd prog w (Zav G scope cl C ts ρ0) x t:=by
 intro W O H fr s Q E v pos r e q
 obtain⟨m,c,led,r⟩:=r
 obtain⟨oC,u,cs,ec,h0,h1,h2,h3,h4⟩:=r.own
 obtain⟨v',y,e1,e2,e3⟩:=h2 _ hm
 rw[e]at e1
 cases e1
 exact LCgL.ld_own r.N (r.clIn _ (by rw[ec];exact Zz5)) h1 e2 (q y e3) hk hl hd
end
section
variable {prog:Program} {w:World} {dp un:Nat} {gd:Option (List Code)} {cn:Str} {cs:Scope} {L a:Addr} {ccd:Value} {clf:List (Str×Addr)} {outer:List Env} {h₀:Heap} {hu:un+200<cLine} {names:List Str} {scope:Scope} {cl:List (Str×Addr)} {C:Addr} {ts:List (Str×Nat)} {ρ0:Lc}
theorem ZnS{i:Nat}(hi:names[i]?=some x)(hx:cs.names.lookup x=some .cell)(hne:∀p∈ts,p.2≠i)(hcl:cl.lookup x=clf.lookup x)(hk:scope.kind=.function)(hl:(compEnvC scope cl C (envX cn cs L a ccd clf)).kindOf x=some .cell)(hd:(x == ("__debug__":Str))=false):
  Rd prog w (Zav (ZaN dp un gd cn cs L a ccd clf outer h₀ hu names) scope cl C ts ρ0) x i:=by
 intro W O H fr s Q E v pos r e q
 obtain⟨m,c,led,r⟩:=r
 obtain⟨oC,u,cs',ec,h0,h1,h2,h3,h4⟩:=r.own
 rw[h3 i hne]at e
 obtain⟨d,o,y,g1,g2,g3,g4⟩:=h4.cel i x v hi hx e
 exact kcf_cell r.N (hcl.trans g1) (r.clIn _ (by rw[ec];exact Zz2 _ g2)) g3 (q y g4) hk hl hd
end
end PM
end
section
namespace My
open PySem PySem.W PySem.Calls PyProof.Rows PySem.Spec
section
variable {prog:Program} {w:World} {A:Around} {E:Value->Shared->Prop} {s:Shared} {x y:Int} {t u:Tok} {Q:Value->Shared->Prop}
@[irreducible] noncomputable def T60: Int:=10 ^ 60
@[irreducible] noncomputable def T9: Int:=10 ^ 9
theorem T60_eq: T60=1000000000000000000000000000000000000000000000000000000000000:=by unfold T60;decide +kernel
theorem T9_eq: T9=1000000000:=by unfold T9;decide +kernel
end
end My
end
section
namespace PM
open PySem PySem.W PyProof.Rows
variable{a i:Nat}{b k:Int}{U:Lc}{H' H:Hp}{v:V}{vs us:List V}{ns:List Int}
section
variable (O:Lc) (H:Hp)
@[simp] theorem Zry(k:Int): Zd k O H=some (.int k,H):=rfl
@[simp] theorem Zri: Zat O H=some (.none,H):=rfl
@[simp] theorem Zrj(b:Bool): ZaG b O H=some (.bool b,H):=rfl
@[simp] theorem Zrz(x:Str): ZG x O H=some (.str x,H):=rfl
@[simp] theorem Zo1(i:Nat): Za i O H=(O i).map λv=>(v,H):=rfl
@[simp] theorem Zo2(o:V->V->Hp->Option (V×Hp))(f g:Ex): Zc o f g O H=(f O H).bind λp=>(g O p.2).bind λq=>o p.1 q.1 q.2:=rfl
@[simp] theorem Zqu(o:V->Hp->Option (V×Hp))(f:Ex): ZB o f O H=(f O H).bind λp=>o p.1 p.2:=rfl
@[simp] theorem ZrA(t:Ts)(f g:Ex): eIf t f g O H=(t O H).bind λp=>if p.1 then f O p.2 else g O p.2:=rfl
@[simp] theorem ZrB: Ze O H=some ([],H):=rfl
@[simp] theorem ZnT(f:Ex)(g:Exs): Zb f g O H=(f O H).bind λp=>(g O p.2).bind λq=>some (p.1::q.1,q.2):=rfl
@[simp] theorem Zo3(g:Exs): ZM g O H=(g O H).bind λp=>if p.1.length<=ZK then some (.tup p.1,p.2)else none:=rfl
@[simp] theorem ZnU(g:Exs): Zy g O H=(g O H).bind λp=>if p.1.length<=ZK then some (.ref p.2.length,p.2++[p.1])else none:=rfl
@[simp] theorem Zo4(f:Ex): Zl f O H=(f O H).bind λp=>(Zab p.1 p.2).map λb=>(b,p.2):=rfl
@[simp] theorem ZnV(t:Ts): Zbm t O H=(t O H).map λp=>(!p.1,p.2):=rfl
@[simp] theorem Zrk: ZD O H=some (true,H):=rfl
@[simp] theorem Zrh: Zb2 O H=some (false,H):=rfl
@[simp] theorem ZjQ(t u:Ts): ZX t u O H=(t O H).bind λp=>if p.1 then u O p.2 else some (false,p.2):=rfl
@[simp] theorem ZkB(t u:Ts): tOr t u O H=(t O H).bind λp=>if p.1 then some (true,p.2)else u O p.2:=rfl
@[simp] theorem ZrC(t u v:Ts): tIf t u v O H=(t O H).bind λp=>if p.1 then u O p.2 else v O p.2:=rfl
@[simp] theorem ZnW(f:Ex): ZeG f O H=(f O H).bind λp=>(Zab p.1 p.2).map λb=>(.bool (!b),p.2):=rfl
@[simp] theorem ZjR(f g:Ex): Zcl f g O H=(f O H).bind λp=>(Zab p.1 p.2).bind λb=>if b then g O p.2 else some p:=rfl
@[simp] theorem ZrD(f g:Ex): eOr f g O H=(f O H).bind λp=>(Zab p.1 p.2).bind λb=>if b then some p else g O p.2:=rfl
@[simp] theorem ZnX(o:List V->Hp->Option (V×Hp))(g:Exs): Zg o g O H=(g O H).bind λp=>o p.1 p.2:=rfl
@[simp] theorem ZrI(T:String)(f:Ex): eIs T f O H=(f O H).bind λp=>if ZdJ p.1 then none else some (.bool (Zba T p.1),p.2):=rfl
@[simp] theorem Zmv(o f:Ex): Zal o f O H=(o O H).bind λp=>(f O p.2).bind λq=>Za0 [p.1,q.1] q.2:=rfl
@[simp] theorem Zi8: Zau O H=some (none,H):=rfl
@[simp] theorem Zi9(f:Ex): Zae f O H=(f O H).map λp=>(some p.1,p.2):=rfl
@[simp] theorem Zrl: ZF O H=some (none,O,H):=rfl
@[simp] theorem Zo5(f:Ex): Zn f O H=(f O H).map λp=>(some p.1,O,p.2):=rfl
@[simp] theorem Zo6(i:Nat)(f:Ex): Zk i f O H=(f O H).map λp=>(none,Zi O i p.1,p.2):=rfl
@[simp] theorem ZkC(t:Ts)(a b:Sm): Zs t a b O H=(t O H).bind λp=>if p.1 then a O p.2 else b O p.2:=rfl
@[simp] theorem Zo7(f:Ex): ZJ f O H=(f O H).map λp=>(none,O,p.2):=rfl
@[simp] theorem Zo8(f o i:Ex): ZaB f o i O H=(f O H).bind λp=>(o O p.2).bind λq=>(i O q.2).bind λu=>(Zbf q.1 u.1 p.1 u.2).map λK=>(none,O,K):=rfl
@[simp] theorem Zo9(g:Src)(put:V->Lc->Option Lc)(b:Sm): Zaq g put b O H=(g O H).bind λz=>ZaR z.1 put b z.2.1 0 O z.2.2:=rfl
@[simp] theorem ZnY(g:Src)(put:V->Lc->Option Lc)(c:Ts)(f:Ex): Z5 g put c f O H=(g O H).bind λz=>(Zad z.1 put c f O z.2.1 0 [] z.2.2).map λq=>(.ref q.2.length,q.2++[q.1]):=rfl
theorem ZkD(a b:Sm): Zh a b O H=(a O H).bind λp=>match p.1 with
 | some _=>some p
 | none=>b p.2.1 p.2.2:=rfl
theorem Zm4{a b:Sm}{O:Lc}{H:Hp}(h:a O H=some (none,U,H')): Zh a b O H=b U H':=by rw[ZkD,h];rfl
theorem seq_ret{a b:Sm}{O:Lc}{H:Hp}(h:a O H=some (some v,U,H')): Zh a b O H=some (some v,U,H'):=by rw[ZkD,h];rfl
end
@[simp] theorem Zpa(O:Lc)(i:Nat)(v:V)(j:Nat): Zi O i v j=if j=i then some v else O j:=rfl
@[simp] theorem ZbH(i:Nat)(v:V)(O:Lc): Zu i v O=some (Zi O i v):=rfl
@[simp] theorem ZnZ(i j:Nat)(a b:V)(O:Lc): Zcn i j (.tup [a,b]) O=some (Zi (Zi O i a) j b):=rfl
@[simp] theorem Zrm(b:Bool)(H:Hp): Zab (.bool b) H=some b:=rfl
@[simp] theorem Zrn(i:Int)(H:Hp): Zab (.int i) H=some (i != 0):=rfl
@[simp] theorem Zro(H:Hp): Zab .none H=some false:=rfl
section
variable (a b:Int) (H:Hp)
@[simp] theorem Zqv: Zw (.int a) (.int b) H=some (.int (a+b),H):=rfl
@[simp] theorem Zlb: Zaj (.int a) (.int b) H=some (.int (a-b),H):=rfl
@[simp] theorem ZrJ: Zax (.int a) H=some (.int (-a),H):=rfl
@[simp] theorem ZrO: oLt (.int a) (.int b) H=some (.bool (decide (a<b)),H):=rfl
@[simp] theorem ZrP: oLe (.int a) (.int b) H=some (.bool (decide (a<=b)),H):=rfl
@[simp] theorem ZrQ: oGt (.int a) (.int b) H=some (.bool (decide (b<a)),H):=rfl
@[simp] theorem ZrR: oGe (.int a) (.int b) H=some (.bool (decide (b<=a)),H):=rfl
@[simp] theorem ZrK: ZcU [.int a] H=some (.int (if a<0 then -a else a),H):=rfl
@[simp] theorem ZrL: Zdm [.int a,.int b] H=some (.int (if b>a then b else a),H):=rfl
@[simp] theorem ZrM: ZdK [.int a,.int b] H=some (.int (if b<a then b else a),H):=rfl
theorem Zqw{b:Int}(h:b≠0): ZbU (.int a) (.int b) H=some (.int (a.fmod b),H):=by simp only[ZbU];rw[if_pos h]
theorem Zlc{a b:Int}(h:Zci a b=true): ZaV (.int a) (.int b) H=some (.int (a*b),H):=by simp only[ZaV];rw[if_pos h]
theorem Zld{a b:Int}(h:b≠0)(h2:Builtin.divisionGoesByPylong a b=false): Zcm (.int a) (.int b) H=some (.int (a.fdiv b),H):=by simp only[Zcm];rw[if_pos ⟨h,h2⟩]
@[simp] theorem ZrE: oIs .none .none H=some (.bool true,H):=rfl
@[simp] theorem ZrF: oIs (.int a) .none H=some (.bool false,H):=rfl
@[simp] theorem ZrG(vs:List V): oIs (.tup vs) .none H=some (.bool false,H):=rfl
@[simp] theorem ZrH(i:Nat): oIs (.ref i) .none H=some (.bool false,H):=rfl
@[simp] theorem Zrd: Za6 .none .none H=some (.bool false,H):=rfl
@[simp] theorem Zre: Za6 (.int a) .none H=some (.bool true,H):=rfl
@[simp] theorem Zrf(vs:List V): Za6 (.tup vs) .none H=some (.bool true,H):=rfl
@[simp] theorem Zrg(i:Nat): Za6 (.ref i) .none H=some (.bool true,H):=rfl
@[simp] theorem Zgf: Zx (.int a) (.int b) H=some (.bool (a == b),H):=by
 simp[Zx,ZbE,toD,SeqAt.shaped,PyData.canLay0,PyData.depth,PyData.eqv]
@[simp] theorem ZrS: oNe (.int a) (.int b) H=some (.bool (!(a == b)),H):=by
 simp[oNe,ZbE,toD,SeqAt.shaped,PyData.canLay0,PyData.depth,PyData.eqv]
@[simp] theorem Zqx(c d:Bool): Zx (.bool c) (.bool d) H=some (.bool (c == d),H):=by
 simp[Zx,ZbE,toD,SeqAt.shaped,PyData.canLay0,PyData.depth,PyData.eqv]
@[simp] theorem Zqy(c d:Bool): oNe (.bool c) (.bool d) H=some (.bool (!(c == d)),H):=by
 simp[oNe,ZbE,toD,SeqAt.shaped,PyData.canLay0,PyData.depth,PyData.eqv]
@[simp] theorem Zrp: Zba "int" (.int a)=true:=rfl
@[simp] theorem Zrq: Zba "bool" (.int a)=false:=rfl
@[simp] theorem Zrr(i:Nat): Zba "list" (.ref i)=true:=rfl
@[simp] theorem Zrs(vs:List V): Zba "tuple" (.tup vs)=true:=rfl
@[simp] theorem Zrt(b:Bool): Zba "bool" (.bool b)=true:=rfl
@[simp] theorem Zru(b:Bool): Zba "int" (.bool b)=true:=rfl
@[simp] theorem Zrv: Zba "int" .none=false:=rfl
@[simp] theorem Zrw: Zba "tuple" .none=false:=rfl
@[simp] theorem Zrx: Zba "list" .none=false:=rfl
end
def Ext(H H':Hp): Prop:=∃X,H'=H++X
theorem Ext.at(h:Ext H H')(e:H[i]?=some vs): H'[i]?=some vs:=by
 obtain⟨X,rfl⟩:=h
 rw[Yy0 (Zz6.mp e).1]
 exact e
theorem Ext.one(H:Hp)(vs:List V): Ext H (H++[vs]):=⟨[vs],rfl⟩
@[simp] theorem ZE(H:Hp)(vs:List V): (H++[vs])[H.length]?=some vs:=by simp
theorem Zqz(e:H[a]?=some vs): ZO [.ref a] H=some (.int vs.length,H):=by simp[ZO,e]
theorem ZkE{n:Nat}(h0:0<=k)(h1:k<n): seqIndex? k n=some k.toNat:=by
 unfold seqIndex?
 have:¬k<0:=by lia
 simp[this,h0,h1]
theorem Zle(e:H[a]?=some vs)(h0:0<=k)(hv:vs[k.toNat]?=some v): Zf (.ref a) (.int k) H=some (v,H):=by
 have hk:k.toNat<vs.length:=(Zz6.mp hv).1
 simp only[Zf,e,Ys0]
 rw[ZkE h0 .l]
 simp[hv]
theorem ZkF(h0:0<=k)(hv:vs[k.toNat]?=some v): Zf (.tup vs) (.int k) H=some (v,H):=by
 have hk:k.toNat<vs.length:=(Zz6.mp hv).1
 simp only[Zf]
 rw[ZkE h0 .o]
 simp[hv]
theorem ZqA(e:H[a]?=some (ns.map V.int)): Zb8 [.ref a] H=some (.int ns.sum,H):=by
 have:∀ns:List Int,Za7 (ns.map V.int)=some ns:=by
  intro ns
  induction ns with
  | nil=>rfl
  | cons n ns ih=>simp[Za7,ih]
 simp[Zb8,e,this]
theorem Zn0(e:H[a]?=some vs): ZcO [.ref a] H=some (.ref H.length,H++[vs]):=by simp[ZcO,e]
theorem Zm5(e:H[a]?=some vs)(h0:a≠0)(hl:vs.length<ZK): Za0 [.ref a,v] H=some (.none,H.set a (vs++[v])):=by simp[Za0,e,h0,hl]
theorem ZqB(e:H[a]?=some vs)(h0:a≠0)(h1:0<=k)(h2:k<vs.length): Zbf (.ref a) (.int k) v H=some (H.set a (vs.set k.toNat v)):=by simp[Zbf,e,h0,h1,h2]
theorem Zpb{b:Nat}(e:H[a]?=some vs)(e':H[b]?=some us)(hl:vs.length+us.length<=ZK): Zw (.ref a) (.ref b) H=some (.ref H.length,H++[vs++us]):=by simp[Zw,e,e',hl]
theorem Zm6(v:V)(n:Nat): ZcV [v] n=List.replicate n v:=by
 induction n with
 | zero=>rfl
 | succ n ih=>rw[ZcV,ih,List.replicate_succ']
theorem ZqC(e:H[a]?=some [v])(h0:0<=k)(hl:k<=ZK): ZaV (.ref a) (.int k) H=some (.ref H.length,H++[List.replicate k.toNat v]):=by
 rw[ZC]at hl
 have:([v]:List V).length*k.toNat<=ZK/\-(2 ^ 63:Int)<=k/\k<2 ^ 63:=⟨by rw[ZC];simp;omega,.l,.o⟩
 simp only[ZaV,e,Ys0]
 rw[if_pos this,Zm6]
@[simp] theorem ZjS(f:Ex)(O:Lc)(H:Hp): ZU f O H=(f O H).bind λp=>match p.1 with
 | .ref a=>p.2[a]?.map λvs=>(ZH a,vs.length+1,p.2)
 | .tup vs=>some (ZdC vs,vs.length+1,p.2)
 | _=>none:=rfl
theorem Zbq(e:H[a]?=some vs): ZH a i H=some vs[i]?:=by simp[ZH,e]
@[simp] theorem Ze7(a c:Int)(n i:Nat)(H:Hp): ZaK a c n i H=some (if i<n then some (.int (a+i*c))else none):=rfl
theorem Zm7{b:Nat}{x y:V}(e:H[a]?=some vs)(e':H[b]?=some us)(hx:vs[i]?=some x)(hy:us[i]?=some y): Zb7 a b i H=some (some (.tup [x,y])):=by simp[Zb7,e,e',hx,hy]
theorem Zmw{b:Nat}(e:H[a]?=some vs)(e':H[b]?=some us): Zb7 a b (min vs.length us.length) H=some none:=by
 simp only[Zb7,e,e',Ys0]
 split
 ·rename_i x y h1 h2
  have:=(Zz6.mp h1).1
  have:=(Zz6.mp h2).1
  lia
 ·simp
theorem Zf4(hb:0<=b): Builtin.Range.rangeSize 0 b 1=b:=by
 unfold Builtin.Range.rangeSize
 rw[if_pos .d]
 by_cases h:(0:Int)<b
 ·rw[if_pos h]
  lia
 ·rw[if_neg h]
  lia
theorem Zpc(hb:0<=b)(hb9:b<=1000): Zbt 0 b 1 H=some (ZaK 0 1 b.toNat,b.toNat+1,H):=by
 unfold Zbt rngN
 rw[Zf4 hb,if_pos]
 refine⟨.d,?_,hb,by rw[ZC];lia,?_⟩
 ·unfold Builtin.Range.small
  rw[Zf4 hb]
  simp only[Builtin.Range.rangeFitsLong,Bool.and_eq_true,Bool.or_eq_true,decide_eq_true_eq,beq_iff_eq]
  rw[if_pos .d]
  simp only[Bool.and_eq_true,decide_eq_true_eq]
  by_cases h:(0:Int)<b
  ·refine⟨⟨⟨⟨?_,?_⟩,?_⟩,?_⟩,Or.inr ?_⟩ <;> lia
  ·refine⟨⟨⟨⟨?_,?_⟩,?_⟩,?_⟩,?_⟩ <;> first | lia | (left;omega)
 ·exact PyProof.noPylong_small .l
end PM
end
section
namespace PM
open PySem PySem.W PyProof.Rows My
variable{a i n j m:Nat}{b:Sm}{H K:Hp}{k:Int}{v x y:V}{o:List V->Hp->Option (V×Hp)}{f:Ex}{g:Exs}{r:Option V×Lc×Hp}{xs vs us as:List V}{t u:Ts}{c:Option (V×Hp)}{nx:Nx}{U:Lc}{Q:V->Hp->Prop}{G:Nx->Nat->Hp->Prop}{P:Hp->Prop}{d:Bool}{ns:List Int}{B A:Prop}
theorem Zhl{a b:Int}(h:IntMulOk a b): Zci a b=true:=by
 unfold IntMulOk at h
 unfold Zci
 cases e:(decide (Builtin.Int.intBits a>shortFactorBits) && decide (Builtin.Int.intBits b>shortFactorBits) && Builtin.Int.intTooBig (Builtin.Int.intBits a+Builtin.Int.intBits b))with
 | true=>exact absurd e h
 | false=>rfl
theorem Zlf{a b:Int}(h:0<=b/\(Builtin.Int.intBits a:Int)*b<=2 ^ 27): Za9 (.int a) (.int b) H=some (.int (a ^ b.toNat),H):=by simp only[Za9];rw[if_pos h]
theorem Zpd(H:Hp): Za9 (.int 10) (.int 60) H=some (.int T60,H):=by rw[Zlf .D];unfold T60;rfl
theorem ZqD(H:Hp): Za9 (.int 10) (.int 9) H=some (.int T9,H):=by rw[Zlf .D];unfold T9;rfl
theorem Zpe{a b:Int}(h:0<b)(h2:b<2 ^ 30): Zcm (.int a) (.int b) H=some (.int (a.fdiv b),H):=Zld H .l (PyProof.noPylong_small .o)
theorem ZqE(b:Int)(H:Hp): ZaV (.int 2) (.int b) H=some (.int (2*b),H):=Zlc H (Zhl (PySem.IntMulOk.of_left (PySem.intBits_le_64 .d .d)))
section
variable {O B ρ2:Lc} {H H1 H2 H3:Hp}
theorem Zpf: Zd k O H=some (.int k,H):=rfl
theorem Zpg(h:O i=some v): Za i O H=some (v,H):=by rw[Zo1,h];rfl
theorem Zph{o:V->V->Hp->Option (V×Hp)}{g:Ex}{r:V×Hp}(h1:f O H=some (x,H1))(h2:g O H1=some (y,H2))(h3:o x y H2=some r): Zc o f g O H=some r:=by
 rw[Zo2,h1,Ys0,h2,Ys0,h3]
theorem ZqF{o:V->Hp->Option (V×Hp)}{r:V×Hp}(h1:f O H=some (x,H1))(h3:o x H1=some r): ZB o f O H=some r:=by rw[Zqu,h1,Ys0,h3]
theorem Zn1(h1:f O H=some (x,H1))(h2:g O H1=some (xs,H2)): Zb f g O H=some (x::xs,H2):=by rw[ZnT,h1,Ys0,h2];rfl
theorem Zn2{r:V×Hp}(h1:g O H=some (xs,H1))(h2:o xs H1=some r): Zg o g O H=some r:=by rw[ZnX,h1,Ys0,h2]
theorem Zpi(h1:g O H=some (xs,H1))(hl:xs.length<=1000): ZM g O H=some (.tup xs,H1):=by rw[Zo3,h1,Ys0,if_pos (by rw[ZC];show xs.length<=100000;lia)]
theorem Zn3(h1:g O H=some (xs,H1))(hl:xs.length<=1000): Zy g O H=some (.ref H1.length,H1++[xs]):=by rw[ZnU,h1,Ys0,if_pos (by rw[ZC];show xs.length<=100000;omega)]
theorem Zmx{o:Ex}{r:V×Hp}(h1:o O H=some (x,H1))(h2:f O H1=some (y,H2))(h3:Za0 [x,y] H2=some r): Zal o f O H=some r:=by rw[Zmv,h1,Ys0,h2,Ys0,h3]
theorem Zn4{b:Bool}(h1:t O H=some (b,H1)): Zbm t O H=some (!b,H1):=by rw[ZnV,h1];rfl
theorem Zmy{r:Bool×Hp}(h1:t O H=some (true,H1))(h2:u O H1=some r): ZX t u O H=some r:=by rw[ZjQ,h1];exact h2
theorem Zmz(h1:t O H=some (false,H1)): ZX t u O H=some (false,H1):=by rw[ZjQ,h1];rfl
theorem Zm8(h1:t O H=some (true,H1)): tOr t u O H=some (true,H1):=by rw[ZkB,h1];rfl
theorem Zm9{r:Bool×Hp}(h1:t O H=some (false,H1))(h2:u O H1=some r): tOr t u O H=some r:=by rw[ZkB,h1];exact h2
theorem ZjT{g:Ex}(h1:f O H=some (.ref a,H1))(h2:g O H1=some (.int k,H2))(e:H2[a]?=some vs)(hk:k=(n:Int)): Zag f (Zae g) Zau O H=some (.ref H2.length,H2++[vs.drop n]):=by
 simp only[Zag,h1,Ys0,Zi9,h2,Ys1,Zi8,Zdl,e]
 rw[Zmo vs hk]
theorem Zn5{g:Ex}(h1:f O H=some (.ref a,H1))(h2:g O H1=some (.int k,H2))(e:H2[a]?=some vs)(hk:k=(n:Int)): Zag f Zau (Zae g) O H=some (.ref H2.length,H2++[vs.take n]):=by
 simp only[Zag,h1,Ys0,Zi9,h2,Ys1,Zi8,Zdl,e]
 rw[ZnK vs hk]
theorem Zn6{g:Src}{put:V->Lc->Option Lc}{c:Ts}(h1:g O H=some (nx,n,H1))(h2:Zad nx put c f O n 0 [] H1=some (vs,H2)): Z5 g put c f O H=some (.ref H2.length,H2++[vs]):=by
 rw[ZnY,h1,Ys0,h2];rfl
theorem Zn7(h1:f O H=some (.ref a,H1))(e:H1[a]?=some vs): ZU f O H=some (ZH a,vs.length+1,H1):=by
 simp only[ZjS,h1,Ys0,e,Ys1]
theorem Zn8{g:Ex}{b:Nat}(h1:f O H=some (.ref a,H1))(h2:g O H1=some (.ref b,H2))(ea:H2[a]?=some vs)(eb:H2[b]?=some us): ZeH f g O H=some (Zb7 a b,min vs.length us.length+1,H2):=by
 simp only[ZeH,h1,h2,Ys0,ea,eb,Ys1]
theorem ZmA{b:Int}(h1:g O H=some ([.int b],H1))(h0:0<=b)(h9:b<=1000): ZaF g O H=some (ZaK 0 1 b.toNat,b.toNat+1,H1):=by
 simp only[ZaF,h1,Ys0]
 exact Zpc h0 h9
theorem Zpj(h1:f O H=some (x,H1)): Zn f O H=some (some x,O,H1):=by rw[Zo5,h1];rfl
theorem Zpk(h1:f O H=some (x,H1)): Zk i f O H=some (none,Zi O i x,H1):=by rw[Zo6,h1];rfl
theorem Zpl(h1:f O H=some (x,H1)): ZJ f O H=some (none,O,H1):=by rw[Zo7,h1];rfl
theorem Zpm{o i:Ex}{z:V}(h1:f O H=some (x,H1))(h2:o O H1=some (y,H2))(h3:i O H2=some (z,H3))(h4:Zbf y z x H3=some K): ZaB f o i O H=some (none,O,K):=by
 rw[Zo8,h1,Ys0,h2,Ys0,h3,Ys0,h4];rfl
theorem Zpn{a:Sm}(h1:a O H=some (none,B,H1))(h2:b B H1=some r): Zh a b O H=some r:=by rw[Zm4 h1,h2]
theorem Zn9{a:Sm}(h1:t O H=some (true,H1))(h2:a O H1=some r): Zs t a b O H=some r:=by rw[ZkC,h1];exact h2
theorem Zoa{a:Sm}(h1:t O H=some (false,H1))(h2:b O H1=some r): Zs t a b O H=some r:=by rw[ZkC,h1];exact h2
theorem Zpo{g:Src}{put:V->Lc->Option Lc}(h1:g O H=some (nx,n,H1))(h2:ZaR nx put b n 0 O H1=some r): Zaq g put b O H=some r:=by rw[Zo9,h1];exact h2
theorem Zob{g:Sm}(hl:as.length=n)(h:g (λi=>as[i]?) H=some (some v,U,H1)): Zr n g as H=some (v,H1):=by
 unfold Zr
 rw[if_pos hl,h]
 rfl
theorem Zna{g:Sm}(hl:as.length=n)(h:g (λi=>as[i]?) H=some (none,U,H1)): Zr n g as H=some (.none,H1):=by
 unfold Zr
 rw[if_pos hl,h]
 rfl
end
def Ok(c:Option (V×Hp))(Q:V->Hp->Prop): Prop:=∃v H,c=some (v,H)/\Q v H
def Okl(c:Option (List V×Hp))(Q:List V->Hp->Prop): Prop:=∃v H,c=some (v,H)/\Q v H
def Okt(c:Option (Bool×Hp))(Q:Bool->Hp->Prop): Prop:=∃v H,c=some (v,H)/\Q v H
def Okb(c:Option Bool)(Q:Bool->Prop): Prop:=∃v,c=some v/\Q v
def Oks(c:Option (Option V×Lc×Hp))(R:V->Hp->Prop)(N:Lc->Hp->Prop): Prop:=∃o O H,c=some (o,O,H)/\(∀v,o=some v->R v H)/\(o=none->N O H)
def Okg(c:Option (Nx×Nat×Hp))(Q:Nx->Nat->Hp->Prop): Prop:=∃a b H,c=some (a,b,H)/\Q a b H
def Sq(x:V)(H:Hp)(G:Nx->Nat->Hp->Prop): Prop:=(∃a vs,x=.ref a/\H[a]?=some vs/\G (ZH a) (vs.length+1) H)∨∃vs,x=.tup vs/\G (ZdC vs) (vs.length+1) H
def Zp(x y:V)(H:Hp)(G:Nx->Nat->Hp->Prop): Prop:=∃a b vs us,x=.ref a/\y=.ref b/\H[a]?=some vs/\H[b]?=some us/\G (Zb7 a b) (min vs.length us.length+1) H
def Rg(xs:List V)(H:Hp)(G:Nx->Nat->Hp->Prop): Prop:=∃n:Nat,xs=[.int n]/\n<=1000/\G (ZaK 0 1 n) (n+1) H
def Frm(x y:V)(H:Hp)(Q:V->Hp->Prop): Prop:=∃(a:Nat) (n:Nat) (vs:List V),x=.ref a/\y=.int n/\H[a]?=some vs/\Q (.ref H.length) (H++[vs.drop n])
def Upt(x y:V)(H:Hp)(Q:V->Hp->Prop): Prop:=∃(a:Nat) (n:Nat) (vs:List V),x=.ref a/\y=.int n/\H[a]?=some vs/\Q (.ref H.length) (H++[vs.take n])
def Few(xs:List V)(P:Prop): Prop:=xs.length<=1000/\P
def ZfJ(y z x:V)(H:Hp)(P:Hp->Prop): Prop:=∃K,Zbf y z x H=some K/\P K
theorem Ok.mono{Q':V->Hp->Prop}(h:Ok c Q)(k:∀v H,Q v H->Q' v H): Ok c Q':=by
 obtain⟨v,H,a,b⟩:=h;exact⟨v,H,a,k v H b⟩
theorem Okt.mono{c:Option (Bool×Hp)}{Q Q':Bool->Hp->Prop}(h:Okt c Q)(k:∀v H,Q v H->Q' v H): Okt c Q':=by
 obtain⟨v,H,a,b⟩:=h;exact⟨v,H,a,k v H b⟩
theorem Oks.mono{c:Option (Option V×Lc×Hp)}{R R':V->Hp->Prop}{N N':Lc->Hp->Prop}(h:Oks c R N)(k:∀v H,R v H->R' v H)(l:∀O H,N O H->N' O H): Oks c R' N':=by
 obtain⟨o,O,H,a,b,d⟩:=h;exact⟨o,O,H,a,λv e=>k v H (b v e),λe=>l O H (d e)⟩
theorem Zap(h:c=some (v,H))(k:Q v H): Ok c Q:=⟨v,H,h,k⟩
section
variable {O:Lc} {H:Hp} {Q:V->Hp->Prop} {L:List V->Hp->Prop} {T:Bool->Hp->Prop} {R:V->Hp->Prop} {N:Lc->Hp->Prop}
theorem Zao(h:Q (.int k) H): Ok (Zd k O H) Q:=⟨_,_,rfl,h⟩
theorem Zfr(h:Q .none H): Ok (Zat O H) Q:=⟨_,_,rfl,h⟩
theorem Zfs{k:Bool}(h:Q (.bool k) H): Ok (ZaG k O H) Q:=⟨_,_,rfl,h⟩
theorem ZfK{k:Str}(h:Q (.str k) H): Ok (ZG k O H) Q:=⟨_,_,rfl,h⟩
theorem ZA(e:O i=some v)(h:Q v H): Ok (Za i O H) Q:=⟨_,_,Zpg e,h⟩
theorem Z9{o:V->V->Hp->Option (V×Hp)}{g:Ex}(h:Ok (f O H) λx H1=>Ok (g O H1) λy H2=>Ok (o x y H2) Q): Ok (Zc o f g O H) Q:=by
 obtain⟨x,H1,a,y,H2,b,z,H3,c,q⟩:=h
 exact⟨z,H3,Zph a b c,q⟩
theorem ZqG{o:V->Hp->Option (V×Hp)}(h:Ok (f O H) λx H1=>Ok (o x H1) Q): Ok (ZB o f O H) Q:=by
 obtain⟨x,H1,a,z,H3,c,q⟩:=h
 exact⟨z,H3,ZqF a c,q⟩
theorem Zas(h:L [] H): Okl (Ze O H) L:=⟨_,_,rfl,h⟩
theorem Z8(h:Ok (f O H) λx H1=>Okl (g O H1) λxs H2=>L (x::xs) H2): Okl (Zb f g O H) L:=by
 obtain⟨x,H1,a,y,H2,b,q⟩:=h
 exact⟨_,_,Zn1 a b,q⟩
theorem ZkG(h:Okl (g O H) λxs H1=>Few xs (Q (.tup xs) H1)): Ok (ZM g O H) Q:=by
 obtain⟨x,H1,a,l,q⟩:=h
 exact⟨_,_,Zpi a l,q⟩
theorem Zda(h:Okl (g O H) λxs H1=>Few xs (Q (.ref H1.length) (H1++[xs]))): Ok (Zy g O H) Q:=by
 obtain⟨x,H1,a,l,q⟩:=h
 exact⟨_,_,Zn3 a l,q⟩
theorem ZkH(h:Ok (f O H) λx H1=>Okb (Zab x H1) λb=>Q (.bool (!b)) H1): Ok (ZeG f O H) Q:=by
 obtain⟨x,H1,a,b,e,q⟩:=h
 exact⟨_,_,by rw[ZnW,a,Ys0,e];rfl,q⟩
theorem Zpp{g:Ex}(h:Ok (f O H) λx H1=>Okb (Zab x H1) λb=>(b=true->Ok (g O H1) Q)/\(b=false->Q x H1)): Ok (Zcl f g O H) Q:=by
 obtain⟨x,H1,a,b,e,q1,q2⟩:=h
 cases b with
 | true=>obtain⟨v,K,c,q⟩:=q1 rfl;exact⟨v,K,by rw[ZjR,a,Ys0,e,Ys0,if_pos rfl];exact c,q⟩
 | false=>exact⟨x,H1,by rw[ZjR,a,Ys0,e];rfl,q2 rfl⟩
theorem Za1(h:Okl (g O H) λxs H1=>Ok (o xs H1) Q): Ok (Zg o g O H) Q:=by
 obtain⟨x,H1,a,z,H3,c,q⟩:=h
 exact⟨z,H3,Zn2 a c,q⟩
theorem ZiN{o:Ex}(h:Ok (o O H) λx H1=>Ok (f O H1) λy H2=>Ok (Za0 [x,y] H2) Q): Ok (Zal o f O H) Q:=by
 obtain⟨x,H1,a,y,H2,b,z,H3,c,q⟩:=h
 exact⟨z,H3,Zmx a b c,q⟩
theorem Zct{g:Src}{put:V->Lc->Option Lc}{c:Ts}(h:Okg (g O H) λnx n H1=>Okl (Zad nx put c f O n 0 [] H1) λvs H2=>Q (.ref H2.length) (H2++[vs])): Ok (Z5 g put c f O H) Q:=by
 obtain⟨nx,n,H1,a,vs,H2,b,q⟩:=h
 exact⟨_,_,Zn6 a b,q⟩
theorem Za3(h:Ok (f O H) λx H1=>Okb (Zab x H1) λb=>T b H1): Okt (Zl f O H) T:=by
 obtain⟨x,H1,a,b,e,q⟩:=h
 exact⟨b,H1,by rw[Zo4,a,Ys0,e];rfl,q⟩
theorem ZjU(h:Okt (t O H) λb H1=>T (!b) H1): Okt (Zbm t O H) T:=by
 obtain⟨b,H1,a,q⟩:=h
 exact⟨_,H1,Zn4 a,q⟩
theorem Zbu(h:T true H): Okt (ZD O H) T:=⟨_,_,rfl,h⟩
theorem Zja(h:T false H): Okt (Zb2 O H) T:=⟨_,_,rfl,h⟩
theorem ZcL(h:Okt (t O H) λb H1=>(b=true->Okt (u O H1) T)/\(b=false->T false H1)): Okt (ZX t u O H) T:=by
 obtain⟨b,H1,a,q1,q2⟩:=h
 cases b with
 | true=>obtain⟨v,K,c,q⟩:=q1 rfl;exact⟨v,K,Zmy a c,q⟩
 | false=>exact⟨_,_,Zmz a,q2 rfl⟩
theorem ZhT(h:Okt (t O H) λb H1=>(b=true->T true H1)/\(b=false->Okt (u O H1) T)): Okt (tOr t u O H) T:=by
 obtain⟨b,H1,a,q1,q2⟩:=h
 cases b with
 | true=>exact⟨_,_,Zm8 a,q1 rfl⟩
 | false=>obtain⟨v,K,c,q⟩:=q2 rfl;exact⟨v,K,Zm9 a c,q⟩
theorem ZaY{b:Bool}{Q:Bool->Prop}(h:Q b): Okb (Zab (.bool b) H) Q:=⟨_,rfl,h⟩
theorem Zbv(h:N O H): Oks (ZF O H) R N:=⟨_,_,_,rfl,.s,λ_=>h⟩
theorem ZbA(h:Ok (f O H) R): Oks (Zn f O H) R N:=by
 obtain⟨x,H1,a,q⟩:=h
 exact⟨_,_,_,Zpj a,λv e=>by cases e;exact q,.s⟩
theorem Zb4(h:Ok (f O H) λx H1=>N (Zi O i x) H1): Oks (Zk i f O H) R N:=by
 obtain⟨x,H1,a,q⟩:=h
 exact⟨_,_,_,Zpk a,.s,λ_=>q⟩
theorem ZfL(h:Ok (f O H) λx H1=>N O H1): Oks (ZJ f O H) R N:=by
 obtain⟨x,H1,a,q⟩:=h
 exact⟨_,_,_,Zpl a,.s,λ_=>q⟩
theorem Zam{a:Sm}(h:Oks (a O H) R λB H1=>Oks (b B H1) R N): Oks (Zh a b O H) R N:=by
 obtain⟨o,B,H1,c,q1,q2⟩:=h
 cases o with
 | some v=>exact⟨some v,B,H1,seq_ret c,q1,.s⟩
 | none=>
  obtain⟨o,ρ2,H2,d,p1,p2⟩:=q2 rfl
  exact⟨o,ρ2,H2,Zpn c d,p1,p2⟩
theorem ZcP{a:Sm}(P:Lc->Hp->Prop)(h:Oks (a O H) R P)(k:∀B H1,P B H1->Oks (b B H1) R N): Oks (Zh a b O H) R N:=Zam (h.mono (λ_ _ q=>q) k)
theorem Za8{a:Sm}(h:Okt (t O H) λc H1=>(c=true->Oks (a O H1) R N)/\(c=false->Oks (b O H1) R N):=by decide): Oks (Zs t a b O H) R N:=by
 obtain⟨c,H1,d,h1,h2⟩:=h
 cases c with
 | true=>obtain⟨o,B,K,e,q⟩:=h1 rfl;exact⟨o,B,K,Zn9 d e,q⟩
 | false=>obtain⟨o,B,K,e,q⟩:=h2 rfl;exact⟨o,B,K,Zoa d e,q⟩
theorem Zdc{g:Src}{put:V->Lc->Option Lc}(h:Okg (g O H) λnx n H1=>Oks (ZaR nx put b n 0 O H1) R N): Oks (Zaq g put b O H) R N:=by
 obtain⟨nx,n,H1,a,o,B,K,e,q⟩:=h
 exact⟨o,B,K,Zpo a e,q⟩
theorem Zpq{o i:Ex}(h:Ok (f O H) λx H1=>Ok (o O H1) λy H2=>Ok (i O H2) λz H3=>ZfJ y z x H3 (N O)): Oks (ZaB f o i O H) R N:=by
 obtain⟨x,H1,a,y,H2,b,z,H3,c,K,d,q⟩:=h
 exact⟨_,_,_,Zpm a b c d,.s,λ_=>q⟩
theorem Zac{g:Sm}(hl:as.length=n)(h:Oks (g (λi=>as[i]?) H) R λ_ K=>R .none K): Ok (Zr n g as H) R:=by
 obtain⟨o,B,K,e,q1,q2⟩:=h
 cases o with
 | some v=>exact⟨v,K,Zob hl e,q1 v rfl⟩
 | none=>exact⟨.none,K,Zna hl e,q2 rfl⟩
theorem ZbI(h:Ok (f O H) λx H1=>Sq x H1 G): Okg (ZU f O H) G:=by
 obtain⟨x,H1,a,⟨b,vs,rfl,e,q⟩ | ⟨vs,rfl,q⟩⟩:=h
 ·exact⟨_,_,_,Zn7 a e,q⟩
 ·exact⟨_,_,_,by simp only[ZjS,a,Ys0],q⟩
theorem Zoc{g:Ex}(h:Ok (f O H) λx H1=>Ok (g O H1) λy H2=>Zp x y H2 G): Okg (ZeH f g O H) G:=by
 obtain⟨x,H1,p,y,H2,r,a,b,vs,us,rfl,rfl,ea,eb,q⟩:=h
 exact⟨_,_,_,Zn8 p r ea eb,q⟩
theorem ZiO(h:Okl (g O H) λxs H1=>Rg xs H1 G): Okg (ZaF g O H) G:=by
 obtain⟨xs,H1,a,n,rfl,h9,q⟩:=h
 have:=ZmA a (Int.natCast_nonneg n) .l
 exact⟨_,_,_,this,by simpa using q⟩
theorem ZjV{g:Ex}(h:Ok (f O H) λx H1=>Ok (g O H1) λy H2=>Frm x y H2 Q): Ok (Zag f (Zae g) Zau O H) Q:=by
 obtain⟨x,H1,p,y,H2,r,a,n,vs,rfl,rfl,e,q⟩:=h
 exact⟨_,_,ZjT p r e rfl,q⟩
theorem Zeh{g:Ex}(h:Ok (f O H) λx H1=>Ok (g O H1) λy H2=>Upt x y H2 Q): Ok (Zag f Zau (Zae g) O H) Q:=by
 obtain⟨x,H1,p,y,H2,r,a,n,vs,rfl,rfl,e,q⟩:=h
 exact⟨_,_,Zn5 p r e rfl,q⟩
theorem ZcA(e:H[i]?=some vs)(h:G (ZH i) (vs.length+1) H): Sq (.ref i) H G:=.inl ⟨_,_,rfl,e,h⟩
theorem ZkI(h:G (ZdC vs) (vs.length+1) H): Sq (.tup vs) H G:=.inr ⟨_,rfl,h⟩
theorem ZqH(e:H[i]?=some vs)(e':H[j]?=some us)(h:G (Zb7 i j) (min vs.length us.length+1) H): Zp (.ref i) (.ref j) H G:=⟨_,_,_,_,rfl,rfl,e,e',h⟩
theorem Zlg(hn:n<=1000)(h:G (ZaK 0 1 n) (n+1) H): Rg [.int n] H G:=⟨n,rfl,hn,h⟩
theorem ZkJ(e:H[i]?=some vs)(h:Q (.ref H.length) (H++[vs.drop n])): Frm (.ref i) (.int n) H Q:=⟨_,_,_,rfl,rfl,e,h⟩
theorem Zdd(e:H[i]?=some vs)(h:Q (.ref H.length) (H++[vs.take n])): Upt (.ref i) (.int n) H Q:=⟨_,_,_,rfl,rfl,e,h⟩
theorem Zpr{P:Prop}(hl:xs.length<=1000)(h:P): Few xs P:=⟨hl,h⟩
theorem Zc5(e:H[i]?=some vs)(h0:i≠0)(h1:0<=k)(h2:k<vs.length)(h:P (H.set i (vs.set k.toNat v))): ZfJ (.ref i) (.int k) v H P:=⟨_,ZqB e h0 h1 h2,h⟩
variable {a b:Int}
theorem ZkK(h:Q (.int (a+b)) H): Ok (Zw (.int a) (.int b) H) Q:=⟨_,_,rfl,h⟩
theorem Zps(h:Q (.int (a-b)) H): Ok (Zaj (.int a) (.int b) H) Q:=⟨_,_,rfl,h⟩
theorem Zpt(h:Q (.int (-a)) H): Ok (Zax (.int a) H) Q:=⟨_,_,rfl,h⟩
theorem ZhU(m:Zci a b=true)(h:Q (.int (a*b)) H): Ok (ZaV (.int a) (.int b) H) Q:=⟨_,_,Zlc H m,h⟩
theorem Zod(h:Q (.int (2*b)) H): Ok (ZaV (.int 2) (.int b) H) Q:=⟨_,_,ZqE b H,h⟩
theorem Zpu(m:b≠0)(h:Q (.int (a.fmod b)) H): Ok (ZbU (.int a) (.int b) H) Q:=⟨_,_,Zqw _ _ m,h⟩
theorem Zpv(m:0<b)(m2:b<2 ^ 30)(h:Q (.int (a.fdiv b)) H): Ok (Zcm (.int a) (.int b) H) Q:=⟨_,_,Zpe m m2,h⟩
theorem ZqI(h:Q (.bool (decide (a<b))) H): Ok (oLt (.int a) (.int b) H) Q:=⟨_,_,rfl,h⟩
theorem ZqJ(h:Q (.bool (decide (b<a))) H): Ok (oGt (.int a) (.int b) H) Q:=⟨_,_,rfl,h⟩
theorem Zpw(h:Q (.int (if a<0 then -a else a)) H): Ok (ZcU [.int a] H) Q:=⟨_,_,rfl,h⟩
theorem Zpx(h:Q (.int (if b>a then b else a)) H): Ok (Zdm [.int a,.int b] H) Q:=⟨_,_,rfl,h⟩
theorem Zpy(h:Q (.int (if b<a then b else a)) H): Ok (ZdK [.int a,.int b] H) Q:=⟨_,_,rfl,h⟩
theorem Zf5(h:Q (.bool (a == b)) H): Ok (Zx (.int a) (.int b) H) Q:=⟨_,_,Zgf a b H,h⟩
theorem Zpz{c:Bool}(h:Q (.bool (c == d)) H): Ok (Zx (.bool c) (.bool d) H) Q:=⟨_,_,Zqx H c d,h⟩
theorem ZpA{c:Bool}(h:Q (.bool (!(c == d))) H): Ok (oNe (.bool c) (.bool d) H) Q:=⟨_,_,Zqy H c d,h⟩
theorem ZkL(h:Q (.bool true) H): Ok (oIs .none .none H) Q:=⟨_,_,rfl,h⟩
theorem ZpB(h:Q (.bool false) H): Ok (oIs (.int a) .none H) Q:=⟨_,_,rfl,h⟩
theorem ZkM(h:Q (.bool false) H): Ok (oIs (.tup vs) .none H) Q:=⟨_,_,rfl,h⟩
theorem Zoe(h:Q (.bool false) H): Ok (Za6 .none .none H) Q:=⟨_,_,rfl,h⟩
theorem Zof(h:Q (.bool true) H): Ok (Za6 (.int a) .none H) Q:=⟨_,_,rfl,h⟩
theorem ZpC(e:H[i]?=some vs)(h:Q (.int vs.length) H): Ok (ZO [.ref i] H) Q:=⟨_,_,Zqz e,h⟩
theorem ZbM(e:H[i]?=some vs)(h0:0<=k)(hv:vs[k.toNat]?=some v)(h:Q v H): Ok (Zf (.ref i) (.int k) H) Q:=⟨_,_,Zle e h0 hv,h⟩
theorem Zq8(h0:0<=k)(h1:k<ns.length): (ns.map V.int)[k.toNat]?=some (.int (ns.getD k.toNat 0)):=by
 rw[List.getElem?_map,List.getD_eq_getElem?_getD,Yy1 .l]
 rfl
theorem Zdy(e:H[i]?=some (ns.map V.int))(h0:0<=k)(h1:k<ns.length)(h:Q (.int (ns.getD k.toNat 0)) H): Ok (Zf (.ref i) (.int k) H) Q:=⟨_,_,Zle e h0 (Zq8 h0 h1),h⟩
theorem ZbJ(h0:0<=k)(hv:vs[k.toNat]?=some v)(h:Q v H): Ok (Zf (.tup vs) (.int k) H) Q:=⟨_,_,ZkF h0 hv,h⟩
theorem ZpD(e:H[i]?=some (ns.map V.int))(h:Q (.int ns.sum) H): Ok (Zb8 [.ref i] H) Q:=⟨_,_,ZqA e,h⟩
theorem Znb(e:H[i]?=some vs)(h:Q (.ref H.length) (H++[vs])): Ok (ZcO [.ref i] H) Q:=⟨_,_,Zn0 e,h⟩
theorem Zc3(e:H[i]?=some vs)(h0:i≠0)(hl:vs.length<ZK)(h:Q .none (H.set i (vs++[v]))): Ok (Za0 [.ref i,v] H) Q:=⟨_,_,Zm5 e h0 hl,h⟩
theorem ZpE(e:H[i]?=some [v])(h0:0<=k)(hl:k<=1000)(h:Q (.ref H.length) (H++[List.replicate k.toNat v])): Ok (ZaV (.ref i) (.int k) H) Q:=⟨_,_,ZqC e h0 (by rw[ZC];lia),h⟩
theorem Zcu(e:H[i]?=some vs)(e':H[j]?=some us)(hl:vs.length+us.length<=ZK)(h:Q (.ref H.length) (H++[vs++us])): Ok (Zw (.ref i) (.ref j) H) Q:=⟨_,_,Zpb e e' hl,h⟩
theorem Zce{r:Option V}(h:j≠i)(k:O j=r): Zi O i v j=r:=by rw[Zpa,if_neg h];exact k
theorem ZI{x:List V}(e:H[i]?=some vs): (H++[x])[i]?=some vs:=(Ext.one H x).at e
theorem Z6{X:Hp}(e:H[i]?=some vs): (H++X)[i]?=some vs:=Ext.at ⟨X,rfl⟩ e
theorem Zb5{x:List V}(n:j≠i)(e:H[i]?=some vs): (H.set j x)[i]?=some vs:=by rw[Yy2 n];exact e
theorem ZhB(x y:List V): (H++[x]).set H.length y=H++[y]:=by simp
theorem lt_of_at(e:H[i]?=some vs): i<H.length:=(Zz6.mp e).1
theorem ZhC{put:V->Lc->Option Lc}{b:Sm}(P:Nat->Lc->Hp->Prop)(init:P 0 O H)(step:∀i O H,i<m->P i O H->∃v B,nx i H=some (some v)/\put v O=some B/\Oks (b B H) R (P (i+1)))(fin:∀O H,P m O H->nx m H=some none)(done:∀O H,P m O H->N O H): Oks (ZaR nx put b (m+1) 0 O H) R N:=by
 have key:∀(k i:Nat) (O:Lc) (H:Hp),i+k=m->P i O H->Oks (ZaR nx put b (k+1) i O H) R N:=by
  intro k
  induction k with
  | zero=>
   intro i O H e h
   have:i=m:=by omega
   subst this
   exact⟨none,O,H,by simp[ZaR,fin O H h],.s,λ_=>done O H h⟩
  | succ k ih=>
   intro i O H e h
   obtain⟨v,B,h1,h2,o,ρ2,H2,h3,q1,q2⟩:=step i O H .l h
   cases o with
   | some u=>
    refine⟨some u,ρ2,H2,?_,q1,.s⟩
    show((nx i H).bind _)=_
    rw[h1]
    simp only[Ys0,h2,h3]
   | none=>
    obtain⟨o,ρ3,H3,h5,h6⟩:=ih (i+1) ρ2 H2 .l (q2 rfl)
    refine⟨o,ρ3,H3,?_,h6⟩
    show((nx i H).bind _)=_
    rw[h1]
    simp only[Ys0,h2,h3]
    exact h5
 exact key m 0 O H .l init
theorem Zft{b:Sm}(P:Nat->Lc->Hp->Prop)(init:P 0 O H)(step:∀(i:Nat) O H,i<m->P i O H->Oks (b (Zi O j (.int i)) H) R (P (i+1)))(done:∀O H,P m O H->N O H): Oks (ZaR (ZaK 0 1 m) (Zu j) b (m+1) 0 O H) R N:=
 ZhC P init (λi O H hi h=>⟨.int i,_,by rw[Ze7,if_pos hi];simp,ZbH _ _ _,step i O H hi h⟩) (λO H h=>by simp) done
theorem Zfu{a:Nat}{b:Sm}(P:Nat->Lc->Hp->Prop)(init:P 0 O H)(keep:∀i O H,P i O H->H[a]?=some vs)(step:∀i x O H,vs[i]?=some x->P i O H->Oks (b (Zi O j x) H) R (P (i+1)))(done:∀O H,P vs.length O H->N O H): Oks (ZaR (ZH a) (Zu j) b (vs.length+1) 0 O H) R N:=
 ZhC P init (λi O H hi h=>⟨vs[i],_,by rw[Zbq (keep _ _ _ h),Yy1 hi],ZbH _ _ _,step i _ O H (Yy1 hi) h⟩) (λO H h=>by rw[Zbq (keep _ _ _ h)];simp) done
theorem ZbC{put:V->Lc->Option Lc}{c:Ts}(P:Nat->List V->Hp->Prop)(hm:m<=ZK)(init:P 0 [] H)(step:∀i acc H,i<m->P i acc H->acc.length<=i/\∃v B,nx i H=some (some v)/\put v O=some B/\Okt (c B H) λb H1=>(b=true->Ok (f B H1) λu H2=>P (i+1) (acc++[u]) H2)/\(b=false->P (i+1) acc H1))(fin:∀acc H,P m acc H->nx m H=some none)(done:∀acc H,P m acc H->L acc H): Okl (Zad nx put c f O (m+1) 0 [] H) L:=by
 have key:∀(k i:Nat) (acc:List V) (H:Hp),i+k=m->P i acc H->Okl (Zad nx put c f O (k+1) i acc H) L:=by
  intro k
  induction k with
  | zero=>
   intro i acc H e h
   have:i=m:=by omega
   subst this
   exact⟨acc,H,by simp[Zad,fin acc H h],done acc H h⟩
  | succ k ih=>
   intro i acc H e h
   obtain⟨hl,v,B,h1,h2,b,H1,h3,q1,q2⟩:=step i acc H .o h
   have hl:acc.length<ZK:=by lia
   cases b with
   | true=>
    obtain⟨u,H2,h4,q⟩:=q1 rfl
    obtain⟨acc',H',h5,h6⟩:=ih (i+1) (acc++[u]) H2 .l q
    refine⟨acc',H',?_,h6⟩
    show((nx i H).bind _)=_
    rw[h1]
    simp only[Ys0,h2,h3,if_true,h4,if_pos hl]
    exact h5
   | false=>
    obtain⟨acc',H',h5,h6⟩:=ih (i+1) acc H1 .o (q2 rfl)
    refine⟨acc',H',?_,h6⟩
    show((nx i H).bind _)=_
    rw[h1]
    simp only[Ys0,h2,h3]
    exact h5
 exact key m 0 [] H .o init
theorem ZqK(F:Nat->V)(hm:m<=1000)(step:∀i:Nat,i<m->Ok (f (Zi O j (.int i)) H) λu K=>u=F i/\K=H)(done:L ((List.range m).map F) H): Okl (Zad (ZaK 0 1 m) (Zu j) ZD f O (m+1) 0 [] H) L:=by
 refine ZbC (λi acc K=>acc=(List.range i).map F/\K=H) (by rw[ZC];lia) ⟨rfl,rfl⟩ (λi acc K hi h=>?_) (λacc K h=>by simp) (λacc K h=>by rw[h.1,h.2];exact done)
 obtain⟨rfl,rfl⟩:=h
 refine⟨.s,.int i,_,by rw[Ze7,if_pos hi];simp,ZbH _ _ _,Zbu ⟨λ_=>?_,.s⟩⟩
 refine(step i hi).mono λu K h=>?_
 rw[h.1,h.2]
 exact⟨by rw[List.range_succ,List.map_append];rfl,rfl⟩
theorem ZkN(F:Nat->Int)(hm:m<=1000)(step:∀i:Nat,i<m->Ok (f (Zi O j (.int i)) H) λu K=>u=.int (F i)/\K=H)(done:L (((List.range m).map F).map V.int) H): Okl (Zad (ZaK 0 1 m) (Zu j) ZD f O (m+1) 0 [] H) L:=
 ZqK (λi=>.int (F i)) hm step (by rw[List.map_map]at done;exact done)
theorem ZqL{k a b:Nat}{ws:List V}(e:H[a]?=some vs)(e':H[b]?=some ws)(hl:us.length=min vs.length ws.length)(hm:vs.length<=1000)(step:∀(i:Nat) x y u,vs[i]?=some x->ws[i]?=some y->us[i]?=some u->Ok (f (Zi (Zi O j x) k y) H) λv K=>v=u/\K=H)(done:L us H): Okl (Zad (Zb7 a b) (Zcn j k) ZD f O (min vs.length ws.length+1) 0 [] H) L:=by
 refine ZbC (λi acc K=>acc=us.take i/\K=H) (by rw[ZC];lia) ⟨.s,rfl⟩ (λi acc K hi h=>?_) (λacc K h=>by rw[h.2];exact Zmw e e') (λacc K h=>by rw[h.1,h.2,<-hl,List.take_of_length_le (Zz10 _)];exact done)
 obtain⟨rfl,rfl⟩:=h
 have e1:vs[i]?=some (vs[i]' .l):=Yy1 .o
 have e2:ws[i]?=some (ws[i]' .l):=Yy1 .o
 have e3:us[i]?=some (us[i]' .l):=Yy1 .o
 refine⟨by simp;lia,_,_,Zm7 e e' e1 e2,ZnZ _ _ _ _ _,Zbu ⟨λ_=>?_,.s⟩⟩
 refine(step i _ _ _ e1 e2 e3).mono λu K h=>?_
 rw[h.1,h.2]
 exact⟨by rw[List.take_add_one,e3];rfl,rfl⟩
end
theorem ZqM(h:Ok c λu L=>u=v/\L=K): c=some (v,K):=by
 obtain⟨u,L,a,rfl,rfl⟩:=h;exact a
theorem ZpF{B Y:Hp}(h:∃X,K=B++X): ∃X,K++Y=B++X:=by
 obtain⟨X,rfl⟩:=h
 exact⟨X++Y,by rw[List.append_assoc]⟩
theorem ZpG{B:Hp}: ∃X,B=B++X:=⟨[],(List.append_nil _).symm⟩
theorem ZbD{b:Bool}(h:b=true)(a:A): (b=true->A)/\(b=false->B):=⟨λ_=>a,λe=>by rw[h]at e;exact absurd e .d⟩
theorem Zbc{b:Bool}(h:b=false)(a:B): (b=true->A)/\(b=false->B):=⟨λe=>by rw[h]at e;exact absurd e .d,λ_=>a⟩
end PM
end
section
namespace PM
open PySem PySem.W PyProof.Rows PyProof
variable{f:Ex}{k:Nat}{vs:List V}{g:Exs}
variable{prog:Program}{w:World}{G:Cx}
noncomputable def Zez(f:Ex)(k:Nat): Ex:=λO H=>(f O H).bind λp=>match p.1 with
 | .ref i=>p.2[i]?.bind λvs=>some (.ref p.2.length,p.2++[vs.drop k])
 | .tup vs=>if 1<=k/\k<=vs.length then some (.tup (vs.drop k),p.2)else none
 | _=>none
theorem J.from{e lo:Expr}{p pos:Pos}(h:J prog w G e f)(hlo:J prog w G lo (Zd k))(ht:∀o r,letTemporaryGo e o r=pure ():=by intro _ _;rfl): J prog w G (.Subscript e (.Slice (Option.some lo) Option.none Option.none p) pos) (Zez f k):=by
 intro W O H fr s Q E v H' r hf post
 obtain⟨⟨v1,H1⟩,e1,hf⟩:=Zz0.mp hf
 cases v1 with
 | none=>first|exact Yx0 hf|cases hf
 | bool _=>first|exact Yx0 hf|cases hf
 | int _=>first|exact Yx0 hf|cases hf
 | str _=>first|exact Yx0 hf|cases hf
 | obj _ _=>first|exact Yx0 hf|cases hf
 | ref i=>
  obtain⟨vs,e2,e3⟩:=Zz0.mp hf
  refine ZbZ h (JP.some hlo) JP.none ht W O H fr s Q E v H' r ?_ post
  rw[ZjT (n:=k) e1 Zpf e2 rfl]
  exact e3
 | tup vs=>
  simp only at hf
  by_cases c:1<=k/\k<=vs.length
  ·rw[if_pos c]at hf
   cases hf
   refine wpAny_Subscript_Slice (T:="tuple") slot_tuple_getitem.lookup (h W O H fr s _ E _ _ r e1 λW1 k1 t1 x l1 r1 x1=>?_) ht
   refine wpAny_Slice ?_
   refine wpAny_evalPart_some (hlo W1 O _ fr _ _ E _ _ r1 rfl λW2 k2 t2 y l2 r2 y2=>?_)
   refine wpAny_evalPart_none ?_
   refine wpAny_evalPart_none ?_
   cases y2 with
   | int _ u=>
    have x2:=x1.mono l2
    cases x2 with
    | @tup _ a ys kk hm hl hs=>
     have it:IsTup k2 a ys.toArray:=⟨_,r2.tupAt hm,rfl,kk,rfl⟩
     have it':IsTup (k2.push { cls:=.type "slice",data:=.fields #[.int k u,.none,.none] }) a ys.toArray:=it.keeps λ_ _ e=>Heap.get?_push_of_some _ e
     have hlen:=hs.length
     rw[ZC]at hl
     refine⟨it'.typeIs,getItem_tuple_from it' (Heap.IsSliceOf.new ..) c.1 (by simp[hlen];exact c.2) ?_ (Zbr (by simp[hlen];rw[ZC];exact hl))⟩
     obtain⟨W4,l4,r4,v4⟩:=(r2.push { cls:=.type "slice",data:=.fields #[.int k u,.none,.none] }).tuple (k:=0) (hs.drop k) (by rw[ZC];simp;lia)
     have:=post W4 _ t2 _ ((l1.trans l2).trans l4) r4 v4
     simpa using this
  ·rw[if_neg c]at hf
   cases hf
section
variable {O:Lc} {H:Hp} {Q:V->Hp->Prop}
def FrK(k:Nat)(x:V)(H:Hp)(Q:V->Hp->Prop): Prop:=(∃i vs,x=.ref i/\H[i]?=some vs/\Q (.ref H.length) (H++[vs.drop k]))∨∃vs,x=.tup vs/\1<=k/\k<=vs.length/\Q (.tup (vs.drop k)) H
theorem Znc(h:Ok (f O H) λx H1=>FrK k x H1 Q): Ok (Zez f k O H) Q:=by
 obtain⟨x,H1,a,⟨i,vs,rfl,e,q⟩ | ⟨vs,rfl,h1,h2,q⟩⟩:=h
 ·exact⟨_,_,by simp only[Zez,a,Ys0,e],q⟩
 ·exact⟨_,_,by simp only[Zez,a,Ys0];rw[if_pos ⟨h1,h2⟩],q⟩
theorem Zog{i:Nat}(e:H[i]?=some vs)(h:Q (.ref H.length) (H++[vs.drop k])): FrK k (.ref i) H Q:=.inl ⟨_,_,rfl,e,h⟩
theorem ZfM{x y:Str}(hx:PyData.strOk x=true)(hy:PyData.strOk y=true)(h:Q (.bool (PyData.eqv (.str x) (.str y))) H): Ok (Zx (.str x) (.str y) H) Q:=⟨_,_,by simp[Zx,ZbE,toD,SeqAt.shaped,PyData.canLay0,PyData.depth,hx,hy],h⟩
theorem ZqN{a b c:Int}(hc:0<c)(hb:a<b): Builtin.Range.rangeSize a b c=(b-a-1) / c+1:=by
 unfold Builtin.Range.rangeSize
 rw[if_pos hc,if_pos hb]
theorem ZpH{a b c:Int}(ha:0<=a)(hb:a<b)(hb9:b<=1000)(hc:0<c)(hc9:c<=1000): Zbt a b c H=some (ZaK a c (rngN a b c),rngN a b c+1,H):=by
 have e:=ZqN hc hb
 have h0:0<=(b-a-1) / c:=Int.ediv_nonneg .l .l
 have h2:(b-a-1) / c<=b-a-1:=Int.ediv_le_self _ .o
 unfold Zbt
 rw[if_pos]
 refine⟨.l,?_,.o,by unfold rngN;rw[ZC];lia,PyProof.noPylong_small .o⟩
 unfold Builtin.Range.small
 rw[e]
 simp only[Builtin.Range.rangeFitsLong,Bool.and_eq_true,Bool.or_eq_true,decide_eq_true_eq,beq_iff_eq]
 rw[if_pos hc]
 simp only[Bool.and_eq_true,decide_eq_true_eq]
 refine⟨⟨⟨⟨?_,?_⟩,?_⟩,?_⟩,?_⟩ <;> first | lia | (left;omega) | (right;omega)
def Rg3(xs:List V)(H:Hp)(G:Nx->Nat->Hp->Prop): Prop:=∃a b c:Int,xs=[.int a,.int b,.int c]/\0<=a/\a<b/\b<=1000/\0<c/\c<=1000/\G (ZaK a c (rngN a b c)) (rngN a b c+1) H
theorem ZmB{G:Nx->Nat->Hp->Prop}(h:Okl (g O H) λxs H1=>Rg3 xs H1 G): Okg (ZaF g O H) G:=by
 obtain⟨xs,H1,e,a,b,c,rfl,h1,h2,h3,h4,h5,q⟩:=h
 exact⟨_,_,_,by simp only[ZaF,e,Ys0];exact ZpH h1 h2 h3 h4 h5,q⟩
def RgA(xs:List V)(H:Hp)(G:Nx->Nat->Hp->Prop): Prop:=Rg xs H G∨Rg3 xs H G
theorem Znd{G:Nx->Nat->Hp->Prop}(h:Okl (g O H) λxs H1=>RgA xs H1 G): Okg (ZaF g O H) G:=by
 obtain⟨xs,H1,e,q | q⟩:=h
 ·exact ZiO ⟨xs,H1,e,q⟩
 ·exact ZmB ⟨xs,H1,e,q⟩
theorem ZqO{n:Nat}{G:Nx->Nat->Hp->Prop}(hn:n<=1000)(h:G (ZaK 0 1 n) (n+1) H): RgA [.int n] H G:=.inl (Zlg hn h)
end
end PM
end
section
namespace PM
open PySem PySem.W PyProof.Rows PyProof My
section
variable {O:Lc} {H:Hp} {Q:V->Hp->Prop} {L:List V->Hp->Prop}
theorem ZlY(bs:List Bool): Zdx (bs.map V.bool)=some bs:=by
 induction bs with
 | nil=>rfl
 | cons b bs ih=>simp[Zdx,ih]
theorem ZfN{i:Nat}{bs:List Bool}(e:H[i]?=some (bs.map V.bool))(h:Q (.bool (bs.any id)) H): Ok (ZdR [.ref i] H) Q:=⟨_,_,by simp[ZdR,e,ZlY],h⟩
end
def pr(q:Int×Int): V:=.tup [.int q.1,.int q.2]
def od: Option Int->PyData
 | none=>.none
 | some k=>.int k
theorem ZmC{a b:Int}(h1:-(2 ^ 64)<b)(h2:b<2 ^ 64): Zci a b=true:=Zhl (IntMulOk.of_right (intBits_le_64 h1 h2))
theorem Ziz{a b:Int}(h1:-(2 ^ 64)<a)(h2:a<2 ^ 64): Zci a b=true:=Zhl (IntMulOk.of_left (intBits_le_64 h1 h2))
section
variable {H:Hp} {Q:V->Hp->Prop} {a b:Int}
theorem ZqP(h:Q (.int T9) H): Ok (Za9 (.int 10) (.int 9) H) Q:=⟨_,_,ZqD H,h⟩
theorem ZpI(h:Q (.int T60) H): Ok (Za9 (.int 10) (.int 60) H) Q:=⟨_,_,Zpd H,h⟩
end
end PM
end
section
namespace TM
open PySem PM
variable{H:Hp}{v:V}{F G:List Nat}{vs:List V}{d:Type}{n:Nat}
inductive T where
 | none
 | bool (b:Bool)
 | int (i:Int)
 | str (s:Str)
 | tup (ts:List T)
 | lst (ts:List T)
 | ob (c:Nat×List Str) (ts:List T)
variable{t:T}{ts:List T}{P:List V->List T->List Nat->Prop}
mutual
inductive RF(H:Hp): V->T->List Nat->Prop where
 | none:RF H .none .none []
 | bool (b:Bool):RF H (.bool b) (.bool b) []
 | int (i:Int):RF H (.int i) (.int i) []
 | str (s:Str):RF H (.str s) (.str s) []
 | tup {vs:List V} {ts:List T} {F:List Nat}:RFs H vs ts F->RF H (.tup vs) (.tup ts) F
 | ref {a:Nat} {vs:List V} {ts:List T} {F:List Nat}:H[a]?=some vs->RFs H vs ts F->RF H (.ref a) (.lst ts) (a::F)
 | obj {c:Nat×List Str} {a:Nat} {vs:List V} {ts:List T} {F:List Nat}:H[a]?=some vs->RFs H vs ts F->RF H (.obj c a) (.ob c ts) (a::F)
inductive RFs(H:Hp): List V->List T->List Nat->Prop where
 | nil:RFs H [] [] []
 | cons {v:V} {t:T} {F:List Nat} {vs:List V} {ts:List T} {G:List Nat}:RF H v t F->RFs H vs ts G->RFs H (v::vs) (t::ts) (F++G)
end
mutual
theorem RF.frame{H H':Hp}{v:V}{t:T}{F:List Nat}(r:RF H v t F)(h:∀a∈F,H'[a]?=H[a]?): RF H' v t F:=by
 cases r with
 | none=>exact .none
 | bool b=>exact .bool b
 | int i=>exact .int i
 | str s=>exact .str s
 | tup hs=>exact .tup (RFs.frame hs h)
 | ref e hs=>exact .ref ((h _ Zz5).trans e) (RFs.frame hs λa m=>h a (Zz2 _ m))
 | obj e hs=>exact .obj ((h _ Zz5).trans e) (RFs.frame hs λa m=>h a (Zz2 _ m))
theorem RFs.frame{H H':Hp}{vs:List V}{ts:List T}{F:List Nat}(r:RFs H vs ts F)(h:∀a∈F,H'[a]?=H[a]?): RFs H' vs ts F:=by
 cases r with
 | nil=>exact .nil
 | cons a b=>exact .cons (RF.frame a λx m=>h x (Zz4 _ m)) (RFs.frame b λx m=>h x (Zz3 _ m))
end
mutual
theorem RF.lt{H:Hp}{v:V}{t:T}{F:List Nat}(r:RF H v t F): ∀a∈F,a<H.length:=by
 cases r with
 | none=>intro a m;cases m
 | bool b=>intro a m;cases m
 | int i=>intro a m;cases m
 | str s=>intro a m;cases m
 | tup hs=>exact RFs.lt hs
 | ref e hs=>
  intro x m
  rcases Zz7.mp m with rfl | m
  ·exact(Zz6.mp e).1
  ·exact RFs.lt hs x m
 | obj e hs=>
  intro x m
  rcases Zz7.mp m with rfl | m
  ·exact(Zz6.mp e).1
  ·exact RFs.lt hs x m
theorem RFs.lt{H:Hp}{vs:List V}{ts:List T}{F:List Nat}(r:RFs H vs ts F): ∀a∈F,a<H.length:=by
 cases r with
 | nil=>intro a m;cases m
 | cons a b=>
  intro x m
  rcases Zz8.mp m with m | m
  ·exact RF.lt a x m
  ·exact RFs.lt b x m
end
theorem RF.ext(r:RF H v t F)(X:Hp): RF (H++X) v t F:=r.frame λa m=>Yy0 (r.lt a m)
theorem RFs.ext(r:RFs H vs ts F)(X:Hp): RFs (H++X) vs ts F:=r.frame λa m=>Yy0 (r.lt a m)
theorem RFs.ind(h0:P [] [] [])(h1:∀{v t F vs ts G},RF H v t F->RFs H vs ts G->P vs ts G->P (v::vs) (t::ts) (F++G))(r:RFs H vs ts F): P vs ts F:=
 @RFs.rec H (λ_ _ _ _=>True) (λvs ts F _=>P vs ts F) trivial (λ_=>trivial) (λ_=>trivial) (λ_=>trivial) (λ_ _=>trivial) (λ_ _ _=>trivial) (λ_ _ _=>trivial) h0 (λa r _ ih=>h1 a r ih) vs ts F r
theorem RFs.length(r:RFs H vs ts F): vs.length=ts.length:=r.ind (P:=λvs ts _=>vs.length=ts.length) rfl λ_ _ ih=>congrArg (· + 1) ih
theorem RFs.append{us:List V}{ss:List T}(r:RFs H vs ts F)(h:RFs H us ss G): RFs H (vs++us) (ts++ss) (F++G):=r.ind (P:=λvs ts F=>RFs H (vs++us) (ts++ss) (F++G)) h λa _ ih=>by rw[List.append_assoc];exact .cons a ih
theorem RFs.one(r:RF H v t F): RFs H [v] [t] F:=by
 have:=RFs.cons r RFs.nil
 rwa [List.append_nil]at this
theorem RFs.snoc(r:RFs H vs ts F)(x:RF H v t G): RFs H (vs++[v]) (ts++[t]) (F++G):=r.append (.one x)
theorem RFs.at{i:Nat}(r:RFs H vs ts F)(e:ts[i]?=some t): ∃v G,vs[i]?=some v/\RF H v t G/\G.Sublist F:=
 r.ind (P:=λvs ts F=>∀i,ts[i]?=some t->∃v G,vs[i]?=some v/\RF H v t G/\G.Sublist F) (λi e=>by simp at e) (λa _ ih i e=>by
  cases i with
  | zero=>
   cases e
   exact⟨_,_,rfl,a,List.sublist_append_left _ _⟩
  | succ i=>
   obtain⟨x,G,hx,hr,hs⟩:=ih i e
   exact⟨x,G,hx,hr,hs.trans (List.sublist_append_right _ _)⟩) i e
section
variable {O N:List Nat} {u:Bool}
def OA2(o:V->V->Hp->Option (V×Hp))(q:T->T->Option T): Prop:=∀(H:Hp) (v1 v2:V) (t1 t2 t:T) (F1 F2:List Nat),RF H v1 t1 F1->RF H v2 t2 F2->q t1 t2=some t->∃v,o v1 v2 H=some (v,H)/\RF H v t []
def ZaO(fr:Bool)(f:List V->Hp->Option (V×Hp))(p:List T->Option T): Prop:=∀(H:Hp) (vs:List V) (ts:List T) (t:T) (F1:List Nat),0<H.length->RFs H vs ts F1->p ts=some t->∃v X F,f vs H=some (v,H++X)/\RF (H++X) v t F/\(∀a∈F,H.length<=a∨a∈F1)/\(fr=true->F.Nodup/\∀a∈F,H.length<=a)
end
section
variable {O N:List Nat} {u:Bool}
noncomputable def ZrT: T->T->Option T
 | .int a,.int b=>some (.int (a-b))
 | _,_=>none
noncomputable def Zdn(f:T->Option PyData): List T->Option (List PyData)
 | []=>some []
 | v::vs=>(f v).bind λd=>(Zdn f vs).bind λds=>some (d::ds)
def Zco: Nat->T->Option PyData
 | _,.none=>some .none
 | _,.bool b=>some (.bool b)
 | _,.int i=>some (.int i)
 | _,.str x=>some (.str x)
 | n+1,.tup vs=>(Zdn (Zco n) vs).map .tuple
 | n+1,.lst vs=>(Zdn (Zco n) vs).map .list
 | 0,.tup _=>none
 | 0,.lst _=>none
 | _,.ob _ _=>none
theorem ZhD{H:Hp}{f:V->Option PyData}{g:T->Option PyData}(h:∀v t F,RF H v t F->f v=g t): ∀{vs:List V} {ts:List T} {F:List Nat},RFs H vs ts F->ZcT f vs=Zdn g ts
 | _,_,_,.nil=>rfl
 | _,_,_,.cons a b=>by simp only[ZcT,Zdn,h _ _ _ a,ZhD h b]
theorem ZkO: ∀(n:Nat) (v:V) (t:T) (F:List Nat),RF H v t F->toD H n v=Zco n t:=by
 intro n
 induction n with
 | zero=>intro v t F r;cases r <;> rfl
 | succ n ih=>
  intro v t F r
  cases r with
  | none=>rfl
  | bool=>rfl
  | int=>rfl
  | str=>rfl
  | tup hs=>simp only[toD,Zco,ZhD ih hs]
  | ref e hs=>simp only[toD,Zco,e,Ys0,ZhD ih hs]
  | obj e hs=>rfl
def ZeI(a b:T): Option Bool:=(Zco ZaM a).bind λd=>(Zco ZaM b).bind λe=>if SeqAt.shaped d=true/\SeqAt.shaped e=true then some (PyData.eqv d e)else none
def qNe(a b:T): Option T:=(ZeI a b).map λc=>.bool !c
theorem ZpJ{v1 v2:V}{t1 t2:T}{F1 F2:List Nat}(r1:RF H v1 t1 F1)(r2:RF H v2 t2 F2): ZbE v1 v2 H=ZeI t1 t2:=by
 simp only[ZbE,ZeI,ZkO ZaM _ _ _ r1,ZkO ZaM _ _ _ r2]
theorem Zq9: OA2 oNe qNe:=λH v1 v2 t1 t2 t F1 F2 r1 r2 h=>by
 obtain⟨c,h1,h⟩:=Zz1.mp h
 subst h
 exact⟨_,by simp only[oNe,ZpJ r1 r2,h1,Ys1],.bool _⟩
theorem RFs.one_inv(r:RFs H vs [t] F): ∃v,vs=[v]/\RF H v t F:=by
 cases r with
 | cons a b=>cases b;rw[List.append_nil];exact⟨_,rfl,a⟩
theorem RFs.two_inv{t':T}(r:RFs H vs [t,t'] F): ∃v v' F1 F2,vs=[v,v']/\RF H v t F1/\RF H v' t' F2/\F=F1++F2:=by
 cases r with
 | cons a b=>obtain⟨v',h1,h2⟩:=b.one_inv;subst h1;exact⟨_,_,_,_,rfl,a,h2,rfl⟩
noncomputable def ZbR: List T->Option (List Int)
 | []=>some []
 | .int k::vs=>(ZbR vs).map λks=>k::ks
 | _::_=>none
end
def dec(P:Prop): Bool:=@decide P (Classical.propDecidable P)
theorem dec_iff{P:Prop}: dec P=true↔P:=by unfold dec;exact @decide_eq_true_iff P (Classical.propDecidable P)
theorem Zlh{P:Prop}(h:P): dec P=true:=dec_iff.mpr h
theorem Zh5{P:Prop}(h:¬P): dec P=false:=by
 cases e:dec P with
 | true=>exact absurd (dec_iff.mp e) h
 | false=>rfl
def tab(n:Nat)(f:Nat->d): List d:=(List.range n).map f
theorem Zoh{f:Nat->d}: (tab n f).length=n:=by simp[tab]
theorem Zjb{f:Nat->d}: tab n f++[f n]=tab (n+1) f:=by simp[tab,List.range_succ]
def Pk(c:Option T)(Q:T->Prop): Prop:=∃t,c=some t/\Q t
mutual
def dd: T->PyData
 | .none=>.none
 | .bool b=>.bool b
 | .int i=>.int i
 | .str x=>.str x
 | .tup ts=>.tuple (dds ts)
 | .lst ts=>.list (dds ts)
 | .ob _ _=>.none
def dds: List T->List PyData
 | []=>[]
 | t::ts=>dd t::dds ts
end
theorem Zhm{f:T->Option PyData}: ∀{ts:List T},(∀t∈ts,f t=some (dd t))->Zdn f ts=some (dds ts)
 | [],_=>rfl
 | t::ts,h=>by simp only[Zdn,h t Zz5,Zhm λt m=>h t (Zz2 _ m),Ys0,dds]
theorem ZhE: ∀{ts:List T},(∀t∈ts,PyData.canLay0 (dd t)=true)->PyData.canLayAll0 (dds ts)=true
 | [],_=>rfl
 | t::ts,h=>by simp only[dds,PyData.canLayAll0,h t Zz5,ZhE λt m=>h t (Zz2 _ m),Bool.and_self]
theorem ZhF{n:Nat}: ∀{ts:List T},(∀t∈ts,PyData.depth (dd t)<=n)->PyData.depthAll (dds ts)<=n
 | [],_=>by simp[dds,PyData.depthAll]
 | t::ts,h=>by
  have h1:=h t Zz5
  have h2:=ZhF λt m=>h t (Zz2 _ m)
  simp only[dds,PyData.depthAll]
  lia
def oT: Option Int->T
 | none=>.none
 | some x=>.int x
theorem Zoi: oT none=.none:=rfl
theorem Zoj{c:Int}: oT (some c)=.int c:=rfl
end TM
end
section
namespace PM
open PySem PySem.W PySem.Calls PyProof.Rows PyProof PyProof.Rows.LCg PyProof.Rows.LCp
variable{e it l:Addr}{i:Nat}{h:Heap}{pos:Pos}{e1:Expr}{f:Ex}{es:List Expr}
variable{prog:Program}{w:World}{G:Cx}
noncomputable def sNo: Sm:=λ_ _=>none
noncomputable def inD(d:PyData): PyData->Option Bool
 | .list xs=>if PyData.canLayAll0 xs=true/\d.canLay0=true/\d.depth<=64 then some (xs.any λy=>PyData.eqv y d)else none
 | .tuple xs=>if PyData.canLayAll0 xs=true/\d.canLay0=true/\d.depth<=64 then some (xs.any λy=>PyData.eqv y d)else none
 | _=>none
def Zih(a b:V)(H:Hp): Option Bool:=(toD H ZaM a).bind λd=>(toD H ZaM b).bind λe=>inD d e
def oIn(a b:V)(H:Hp): Option (V×Hp):=(Zih a b H).map λc=>(.bool c,H)
noncomputable def ZdD(a:Nat): Nx:=λi H=>H[a]?.bind λvs=>match vs[i]? with
 | some x=>some (some (.tup [.int i,x]))
 | none=>if i=vs.length then some none else none
def Zf6(f:Ex): Src:=λO H=>(f O H).bind λp=>match p.1 with
 | .ref a=>p.2[a]?.map λvs=>(ZdD a,vs.length+1,p.2)
 | _=>none
theorem S1.no{st:Stmt}: S1 prog w G st sNo:=λW O H fr s Q E r rp hf post=>by cases hf
theorem Zli: Op2 prog w (compareOp .In) oIn:=by
 intro G W O H fr s Q E a b x y v H' r hx hy ho post
 obtain⟨c,e1,e2⟩:=Zz1.mp ho
 cases e2
 obtain⟨d,h1,e1⟩:=Zz0.mp e1
 obtain⟨e,h2,e1⟩:=Zz0.mp e1
 obtain⟨as,R1⟩:=Zdr r ZaM a x d hx h1
 obtain⟨bs,R2⟩:=Zdr r ZaM b y e hy h2
 have hu:=G.hu
 unfold inD at e1
 split at e1
 ·split at e1
  ·rename_i hs
   cases e1
   exact SeqAt.in_list_reads R2 R1 hs.1 hs.2.1 .l (post W s.heap s.toks _ (.refl W) r (.bool _))
  ·first|exact Yx0 e1|cases e1
 ·split at e1
  ·rename_i hs
   cases e1
   exact SeqAt.in_tuple_reads R2 R1 hs.1 hs.2.1 .o (post W s.heap s.toks _ (.refl W) r (.bool _))
  ·first|exact Yx0 e1|cases e1
 ·first|exact Yx0 e1|cases e1
def ES(e it l:Addr)(i:Nat)(h:Heap): Prop:=(∃old,IsEnum h e it i old)/\h.IsListIter it l i
theorem ES.at{h':Heap}(x:ES e it l i h)(k:∀a∈[e,it],∀o,h.get? a=some o->h'.get? a=some o): ES e it l i h':=by
 obtain⟨⟨old,h1⟩,h2⟩:=x
 exact⟨⟨old,k e .s _ h1⟩,h2.at λo x=>k it .s o x⟩
theorem ES.have(x:ES e it l i h): ∀a∈[e,it],∃o,h.get? a=some o:=by
 obtain⟨⟨old,h1⟩,o,h2,_⟩:=x
 intro a ha
 simp at ha
 rcases ha with rfl | rfl
 ·exact⟨_,h1⟩
 ·exact⟨_,h2⟩
def EIt(e it l:Addr)(i:Nat)(fs:List (Addr×Obj)): Prop:=fs.map (·.1)=[e,it]/\∀h:Heap,(∀q∈fs,h.get? q.1=some q.2)->ES e it l i h
theorem EIt.mk'(x:ES e it l i h): ∃fs,EIt e it l i fs/\∀q∈fs,h.get? q.1=some q.2:=by
 obtain⟨fs,h1,h2⟩:=Zig h [e,it] x.have
 refine⟨fs,⟨h1,λh' k=>x.at λa ha o ho=>?_⟩,h2⟩
 rw[<-h1]at ha
 obtain⟨q,hq,eq⟩:=Zz11.mp ha
 have:=h2 q hq
 rw[eq,ho]at this
 cases this
 exact eq▸k q hq
theorem Zok{W0:Wd}{a:Nat}(ea:W0.At a l)(hei:e≠it)(hle:l≠e)(hli:l≠it):
  Itr2 prog w G W0 (.ref e) [e,it] (EIt e it l) (ZdD a):=by
 refine⟨λi fs h=>h.1,?_,?_,?_,?_⟩
 ·intro i H v hh
  obtain⟨vs,e1,hh⟩:=Zz0.mp hh
  split at hh
  ·first|exact Yx0 hh|cases hh
   exact⟨_,_,rfl⟩
  ·split at hh <;> cases hh
 ·intro i W O H fr fs s Q E va vb le r ap hit hn post
  obtain⟨vs,e1,hh⟩:=Zz0.mp hn
  have hv:va=.int i/\vs[i]?=some vb:=by
   split at hh
   ·rename_i x h1
    cases hh
    exact⟨rfl,h1⟩
   ·split at hh <;> cases hh
  obtain⟨_,xs,k1,g1,v1⟩:=r.at e1 (le.at ea)
  obtain⟨x,hx,rx⟩:=v1.at hv.2
  have st:ES e it l i s.heap:=hit.2 _ λq hq=>r.frAt (Zz4 _ hq)
  have Wk:=WalksT.enumerate (prog:=prog) (w:=w) (A:=G.A) G.hh e it l hei hle hli xs.toArray
  have isl1:s.heap.IsList l xs.toArray:=⟨_,g1,rfl,k1,rfl⟩
  have hi:i<xs.toArray.size:=by
   have h1:=(Zz6.mp hx).1
   simpa using h1
  refine Wk.item i s Q E hi ⟨st.1,st.2,isl1⟩ λT vals h1 t1 hp hT hTup hmid keep1=>post T h1 t1 ?_
  intro elts k pos s1 Q1 E1 es1 q1
  subst es1
  have hTw:=Wk.apart i T _ hmid
  refine Wk.go elts k pos i T _ Q1 E1 hmid λh2 st2 keep2=>?_
  obtain⟨tk,x',hx',ev⟩:=hp
  have ex:x'=x:=by
   have:xs[i]?=some x':=by simpa using hx'
   rw[hx]at this
   exact(Option.some.inj this).symm
  subst ex ev
  obtain⟨fs',hit',at'⟩:=EIt.mk' (h:=h2) (⟨st2.1,st2.2.1⟩:ES e it l (i+1) h2)
  obtain⟨oT,gT,cT,nT,dT⟩:=hTup
  refine q1 fs' h2 (.int i tk) x' hit' ?_ ⟨oT,keep2 T oT hTw gT,cT,nT,dT⟩ (by rw[hv.1];exact .int _ _) rx
  refine r.swap (fs':=fs') (λq hq t ht=>?_) (λc o hc e=>?_) λq hq=>⟨at' q hq,?_⟩
  ·exact ap _ (hit.1▸List.mem_map_of_mem hq) t ht
  ·rw[hit.1]at hc
   exact keep2 c o hc (keep1 c o hc e)
  ·rw[hit.1,<-hit'.1]
   exact List.mem_map_of_mem hq
 ·intro i W O H fr fs s Q E le r ap hit hn post
  obtain⟨vs,e1,hh⟩:=Zz0.mp hn
  obtain⟨_,xs,k1,g1,v1⟩:=r.at e1 (le.at ea)
  have hi:i=vs.length:=by
   split at hh
   ·first|exact Yx0 hh|cases hh
   ·split at hh
    ·assumption
    ·first|exact Yx0 hh|cases hh
  have st:ES e it l i s.heap:=hit.2 _ λq hq=>r.frAt (Zz4 _ hq)
  have Wk:=WalksT.enumerate (prog:=prog) (w:=w) (A:=G.A) G.hh e it l hei hle hli xs.toArray
  have hm:xs.toArray.size=i:=by simp[v1.length,hi]
  refine Wk.done s Q E (by rw[hm];exact⟨st.1,st.2,⟨_,g1,rfl,k1,rfl⟩⟩) λh' tk keep=>post h' tk ?_
  have:=r.swap (fs':=[]) (λq hq t ht=>ap _ (hit.1▸List.mem_map_of_mem hq) t ht) (λc o hc e=>keep c o (by rw[hit.1]at hc;exact hc) e) (λq hq=>nomatch hq)
  exact this
 ·intro i W O H fr fs s Q E o le r hit hn q
  obtain⟨vs,e1,hh⟩:=Zz0.mp hn
  obtain⟨_,xs,k1,g1,v1⟩:=r.at e1 (le.at ea)
  have st:ES e it l i s.heap:=hit.2 _ λq hq=>r.frAt (Zz4 _ hq)
  have Wk:=WalksT.enumerate (prog:=prog) (w:=w) (A:=G.A) G.hh e it l hei hle hli xs.toArray
  exact Wk.self i s Q E ⟨st.1,st.2,⟨_,g1,rfl,k1,rfl⟩⟩ q
theorem Zne{x:Str}{np:Pos}(hn:Nm prog w G x (.type "enumerate"))(h1:J prog w G e1 f)
  (he:starEach [e1] G.env=(false,eval e1 G.env)::starEach [] G.env:=by rfl) (hp:∀pos,(backTo pos (starEach [] G.env)).any (·.1)=false:=by intro _;rfl):JI2 prog w G (.Call (.Name x np) [e1] [] pos) (Zf6 f):=by
 intro W O H fr s Q E nx n H' r hf post
 obtain⟨p,a1,hf⟩:=Zz0.mp hf
 refine wpAny_Call_ofName (hn.use r ?_)
 refine PySem.Pv.callWith_type1 (wpAny_items_cons (h1 W O H fr s _ E _ _ r a1 λW1 k1 t1 y1 l1 r1 v1=>wpAny_items_nil ?_) he) he (hp pos)
 obtain⟨u1,H1⟩:=p
 simp only at hf v1 r1
 cases u1 <;> first|exact Yx0 hf|(cases hf;done)| skip
 rename_i b1
 obtain⟨vs,c1,c3⟩:=Zz1.mp hf
 cases c3
 cases v1 with
 | @ref _ m1 ea=>
 obtain⟨_,xs,n1,g1,w1⟩:=r1.at c1 ea
 have isl1:k1.IsList m1 xs.toArray:=⟨_,g1,rfl,n1,rfl⟩
 refine call_enumerate_list (s:={ s with heap:=k1,toks:=t1 }) isl1 λh₁ hE hI hsz up=>?_
 have hlt:m1<k1.objs.size:=Heap.lt_size g1
 have Wk:=WalksT.enumerate (prog:=prog) (w:=w) (A:=G.A) G.hh (k1.objs.size+1) k1.objs.size m1 (Nat.succ_ne_self _) (Nat.ne_of_lt (Nat.lt_succ_of_lt hlt)) (Nat.ne_of_lt hlt) xs.toArray
 have zs:ES (k1.objs.size+1) k1.objs.size m1 0 h₁:=⟨⟨_,hE⟩,hI⟩
 refine Wk.self 0 _ _ _ ⟨⟨_,hE⟩,hI,isl1.at λo e=>up _ o e⟩ ?_
 obtain⟨fs,hit,at'⟩:=EIt.mk' zs
 obtain⟨r3,ap3⟩:=r1.more (fs:=fs) (h':=h₁) (λb o e=>up b o e) (λq hq=>⟨at' q hq,by
  have:q.1∈fs.map (·.1):=List.mem_map_of_mem hq
  rw[hit.1]at this
  simp at this
  rcases this with e | e <;> rw[e] <;> lia⟩)
 refine post W1 h₁ t1 _ _ _ fs l1 hit r3 (λb hb t ht=>?_) (Zok ea (Nat.succ_ne_self _) (Nat.ne_of_lt (Nat.lt_succ_of_lt hlt)) (Nat.ne_of_lt hlt)) ?_
 ·rw[<-hit.1]at hb
  obtain⟨q,hq,e⟩:=Zz11.mp hb
  exact e▸ap3 q hq t ht
 ·simp only[ZdD,c1,Ys0]
  cases q:vs[0]? with
  | some x=>exact⟨_,rfl⟩
  | none=>
   have:vs.length=0:=by simpa using q
   simp[this]
theorem ZpK{e2 e3:Expr}{g:Ex}(h1:J prog w G e1 f)(h2:J prog w G (.BoolOp .And (e2::e3::es) pos) g) (he:eval (.BoolOp .And (e1::e2::e3::es) pos) G.env=(do
  let v <-eval e1 G.env
  standAt pos
  let t <-holding [v] (truthy v)
  match BoolOp.And,t with
  | .And,false | .Or,true=>pure v
  | _,_=>eval (.BoolOp .And (e2::e3::es) pos) G.env):=by rfl):J prog w G (.BoolOp .And (e1::e2::e3::es) pos) (Zcl f g):=by
 intro W O H fr s Q E v H' r hf post
 obtain⟨p,a1,hf⟩:=Zz0.mp hf
 obtain⟨b,a2,a3⟩:=Zz0.mp hf
 rw[he]
 refine wpAny_bind (wpAny_mono (h1 W O H fr s (λx s₁=>wpAny (model prog w) G.A (truthy x) (λt s₂=>if t then wpAny (model prog w) G.A (eval (.BoolOp .And (e2::e3::es) pos) G.env) Q E s₂ else Q x s₂) E s₁) E _ _ r a1 λW1 k1 t1 x l1 r1 x1=>?_) (λv s₁ h₁=>wpAny_bind (wpAny_standAt (wpAny_bind (wpAny_holding (wpAny_mono h₁ (λt s₂ h₂=>?_) λ_ _ x=>x))))) λ_ _ x=>x)
 ·refine truth G W1 O _ fr _ _ E _ x b r1 x1 a2 λW2 k2 t2 l2 r2=>?_
  cases b with
  | true=>exact h2 W2 O _ fr _ Q E _ H' r2 a3 λW3 k3 t3 z l3 r3 z3=>post W3 k3 t3 z ((l1.trans l2).trans l3) r3 z3
  | false=>
   cases a3
   exact post W2 k2 t2 x (l1.trans l2) r2 (x1.mono l2)
 ·cases t with
  | false=>exact wpAny_pure h₂
  | true=>exact h₂
end PM
end
section
namespace PM
open PySem PySem.W PySem.Calls PyProof.Rows PyProof
variable{fs:List Str}{xs ys:List Value}{f name:Str}{x v:Value}{j i:Nat}{hs:Int}{t:Tok}{G:Cx}{O:Lc}{H:Hp}{fr led:List (Addr×Obj)}{h h':Heap}{c:Nat×List Str}{vs:List V}{o e:Expr}{pos apos np:Pos}{attr:Option Value}{E Q:Value->Shared->Prop}{s:Shared}{args es:List Expr}{g:Exs}{fa fI:Addr}{F:List V->Hp->Option (V×Hp)}{m:Str->Option Value}
theorem FE.len{es:List DictEntry}(h:FE fs xs es): es.length=xs.length/\xs.length<=fs.length:=by
 induction h with
 | nil=>exact⟨rfl,Nat.zero_le _⟩
 | cons _ ih=>exact⟨by simp[ih.1],by simp[ih.2]⟩
theorem FE.noRef{es:List DictEntry}(h:FE fs xs es): es.any (·.refKey)=false:=by
 induction h with
 | nil=>rfl
 | cons _ ih=>simp only[List.any_cons,ih,Bool.or_false];rfl
theorem FE.find{es:List DictEntry}(h:FE fs xs es)(nf:f∉fs): es.find? (·.key.isStr f)=none:=by
 induction h with
 | nil=>rfl
 | @cons g fs x xs hs t es _ ih=>
  have n1:g≠f:=λe=>nf (e▸List.mem_cons_self)
  have:(Value.str g t).isStr f=false:=by simp[Value.isStr,n1]
  rw[List.find?_cons]
  simp only[this]
  exact ih λm=>nf (Zz2 _ m)
theorem FE.no{es:List DictEntry}(h:FE fs xs es)(nf:f∉fs): getL f es=some none:=by
 unfold getL
 rw[h.find nf,h.noRef]
 rfl
theorem FE.get{es:List DictEntry}(h:FE fs xs es)(nd:fs.Nodup)(hf:fs[j]?=some f)(hx:xs[j]?=some x): getL f es=some (some x):=by
 have key:∃e,es.find? (·.key.isStr f)=some e/\e.val=x:=by
  induction h generalizing j with
  | nil=>simp at hx
  | @cons g fs x' xs hs t es _ ih=>
   cases j with
   | zero=>
    simp at hf hx
    subst hf
    subst hx
    refine⟨⟨hs,.str g t,x'⟩,?_,rfl⟩
    rw[List.find?_cons]
    simp[Value.isStr]
   | succ j=>
    simp at hf hx
    have n1:g≠f:=λe=>(List.nodup_cons.mp nd).1 (e▸Yy4 hf)
    have:(Value.str g t).isStr f=false:=by simp[Value.isStr,n1]
    rw[List.find?_cons]
    simp only[this]
    exact ih (List.nodup_cons.mp nd).2 hf hx
 obtain⟨e,h1,h2⟩:=key
 unfold getL
 rw[h1]
 simp[h2]
theorem FE.isS{es:List DictEntry}(h:FE fs xs es)(f:Str): (getL f es).isSome=true:=by
 unfold getL
 split
 ·rfl
 ·rw[h.noRef];rfl
theorem FE.put{es:List DictEntry}(h:FE fs xs es)(nd:fs.Nodup)(hf:fs[j]?=some f)(hj:j<xs.length): FE fs (xs.set j v) (putL f hs (.str f t) v es):=by
 induction h generalizing j with
 | nil=>simp at hj
 | @cons g fs x xs hs' t' es h' ih=>
  cases j with
  | zero=>
   simp at hf
   subst hf
   have:(Value.str g t').isStr g=true:=by simp[Value.isStr]
   simp only[List.set_cons_zero,putL,this,if_true]
   exact .cons h'
  | succ j=>
   simp at hf hj
   have n1:g≠f:=λe=>(List.nodup_cons.mp nd).1 (e▸Yy4 hf)
   have:(Value.str g t').isStr f=false:=by simp[Value.isStr,n1]
   simp only[List.set_cons_succ,putL,this,Bool.false_eq_true,if_false]
   exact .cons (ih (List.nodup_cons.mp nd).2 hf hj)
theorem FE.app{es:List DictEntry}(h:FE fs xs es)(nd:fs.Nodup)(hf:fs[xs.length]?=some f): FE fs (xs++[v]) (putL f hs (.str f t) v es):=by
 induction h with
 | @nil fs=>
  cases fs with
  | nil=>simp at hf
  | cons g fs=>simp at hf;subst hf;exact .cons .nil
 | @cons g fs x xs hs' t' es h' ih=>
  simp at hf
  have n1:g≠f:=λe=>(List.nodup_cons.mp nd).1 (e▸Yy4 hf)
  have:(Value.str g t').isStr f=false:=by simp[Value.isStr,n1]
  simp only[List.cons_append,putL,this,Bool.false_eq_true,if_false]
  exact .cons (ih (List.nodup_cons.mp nd).2 hf)
noncomputable def Z3(c:Nat×List Str)(j:Nat): V->Hp->Option (V×Hp)
 | .obj c' a,H=>if c'=c then H[a]?.bind λvs=>vs[j]?.map λw=>(w,H)else none
 | _,_=>none
noncomputable def Zay(c:Nat×List Str)(j:Nat): V->V->Hp->Option Hp
 | .obj c' a,w,H=>if c'=c/\a≠0 then H[a]?.bind λvs=>if j<vs.length then some (H.set a (vs.set j w))else if j=vs.length/\j<c.2.length then some (H.set a (vs++[w]))else none else none
 | _,_,_=>none
def Zak(c:Nat×List Str)(j:Nat)(f o:Ex): Sm:=λO H=>(f O H).bind λp=>(o O p.2).bind λq=>(Zay c j q.1 p.1 q.2).map λK=>(none,O,K)
noncomputable def ZaI(c:Nat×List Str): V->Bool
 | .obj c' _=>c' == c
 | _=>false
def ZW(c:Nat×List Str)(F:List V->Hp->Option (V×Hp))(f:Ex)(g:Exs): Ex:=λO H=>(f O H).bind λp=>if ZaI c p.1 then(g O p.2).bind λq=>F (p.1::q.1) q.2 else none
noncomputable def Zcp(c:Nat×List Str)(F:List V->Hp->Option (V×Hp))(g:Exs): Ex:=λO H=>(g O H).bind λp=>(F (.obj c p.2.length::p.1) (p.2++[[]])).bind λq=>match q.1 with
 | .none=>some (.obj c p.2.length,q.2)
 | _=>none
theorem Rep.objAt{W:Wd}(r:Rep G W O H fr h)(hx:VR W (.obj c i) x)(e:H[i]?=some vs):
  ∃xa dx es n xs,x=.ref xa/\InstAt h xa ⟨.ref c.1,some dx,.plain,#[]⟩ c.1 (some (dictOf es n))/\FE c.2 xs es/\VRs W vs xs/\vs.length<=c.2.length:=by
 obtain⟨m,cc,led,r⟩:=r
 cases hx with
 | @obj _ _ a xa ox h1 h2 h3 h4=>
  obtain⟨hl,a',od,xs,g1,g2,⟨es,n,eo,fe⟩,g4⟩:=r.R.objs i vs c.2 e h2
  rw[h1]at g1
  cases g1
  subst eo
  have e1:ox=_:=h4
  subst e1
  exact⟨xa,a,es,n,xs,rfl,⟨r.get (r.R.tups _ h3),rfl,rfl,r.get g2⟩,fe,g4,hl⟩
section
variable {prog:Program} {w:World} {G:Cx} {K:Frag}
theorem ZaC{f:Ex}(X:K.In G.h₀)(ho:J prog w G o f)(hj:c.2[j]?=some name)(nd:c.2.Nodup)(hg:plainGet K c.1 name=true)(hh:hasDictIn K c.1=true)(ha:findIn K (.ref c.1) name=some attr)(hn:noGet K attr=true)
  (he:eval (.Attribute o name pos) G.env=(do
   let ov <-eval o G.env
   standAt pos.atName
   let r <-holding [ov] (getAttr ov name true)
   letTemporaryGo o ov r
   pure r):=by with_unfolding_all rfl):J prog w G (.Attribute o name pos) (ZB (Z3 c j) f):=by
 intro W O H fr s Q E v H' r hf post
 obtain⟨⟨v0,H1⟩,e1,hf1⟩:=Zz0.mp hf
 clear hf
 refine Attribute_any_ (ho W O H fr s _ E _ _ r e1 λW1 k1 t1 x l1 r1 x1=>?_) he
 cases v0 with
 | none=>first|exact Yx0 hf1|cases hf1
 | bool=>first|exact Yx0 hf1|cases hf1
 | int=>first|exact Yx0 hf1|cases hf1
 | str=>first|exact Yx0 hf1|cases hf1
 | tup=>first|exact Yx0 hf1|cases hf1
 | ref=>first|exact Yx0 hf1|cases hf1
 | obj c' i=>
  simp only[Z3]at hf1
  split at hf1
  ·rename_i ec
   subst ec
   obtain⟨vs,h1,hf2⟩:=Zz0.mp hf1
   obtain⟨w',h2,hf3⟩:=Zz1.mp hf2
   cases hf3
   obtain⟨xa,dx,es,n,xs,rfl,I,fe,hv,_⟩:=r1.objAt x1 h1
   obtain⟨y,hy,ry⟩:=hv.at h2
   obtain⟨m,cc,led,r1'⟩:=r1
   refine get_own (s:={ s with heap:=k1,toks:=t1 }) r1'.F X I hg hh ha hn (fe.get nd hj hy) (by cases ry <;> rfl) ?_
   exact post W1 k1 (t1+1) y l1 ⟨m,cc,led,r1'⟩ ry
  ·first|exact Yx0 hf1|cases hf1
theorem Zio{A:Around}{env:Env}
  (hbase:attributeBase o name env (eval o env)=eval o env)
  (hfew:((backTo pos (starEach args env)).all (λx=>!x.1) && (backToKw pos (keywordEach [] env)).all (λx=>x.1.isSome)
   && decide (args.length+([]:List Keyword).length+(if([]:List Keyword).isEmpty then 0 else 1)<30))=true)
  (hline:(apos.endLine == pos.line)=true)
  (h:wpAny (model prog w) A (eval o env) (λov s₁=>∀pl,wpAny (model prog w) A (getMethod ov name pl) (λr s₂=>wpAny (model prog w) A (callWith pos r.1 r.2 (backTo pos (starEach args env)) []) Q E s₂) E s₁) E s):
  wpAny (model prog w) A (eval (.Call (.Attribute o name apos) args [] pos) env) Q E s:=by
 rw[arm_eval_Call,hbase]
 refine wpAny_bind (wpAny_mono h (λov s₁ h₁=>?_) λ_ _ e=>e)
 refine wpAny_bind (wpAny_standAt ?_)
 have hform:methodCallForm (args.length+([]:List Keyword).length) (backTo pos (starEach args env)) (backToKw pos (keywordEach [] env))=true:=hfew
 have hpos:methodCallPos true o env apos pos=pure pos:=by unfold methodCallPos;simp[hline]
 unfold methodCall
 rw[hform]
 refine wpAny_bind (wpAny_holding (wpAny_mono (h₁ _) (λr s₂ h₂=>?_) λ_ _ e=>e))
 exact wpAny_bind (wpAny_of_eq hpos h₂)
end
section
variable {prog:Program} {w:World} {K:Frag} {p:Program} {loose:List Str} {mean:ExcName->Option Value} {mg mb:Str->Option Value} {G:Cx} {dp un:Nat}
theorem Clr.keep(clr:Clr K p loose mean mg mb G dp un): K.In G.h₀:=by
 obtain⟨_,_,_,_,_,_,_,_,_,_,_,X,_⟩:=clr
 exact X
theorem ZaQ{f:Ex}{room:Nat}(clr:Clr K p loose mean mg mb G dp un)(ho:J prog w G o f)(hm:findIn K (.ref c.1) name=some (some (.ref fa)))(ht:isFn K (.ref fa)=true)(hg:plainGet K c.1 name=true)(nf:name∉c.2)(hkeep:keepIn K (.ref fa)=true)(D:Def prog w K p loose mean mg mb fa room F)(hd:dp+room<recursionLimit)(hu:un+10*room+300<cLine)
  (h:Js prog w G (e::es) g) (hbase:attributeBase o name G.env (eval o G.env)=eval o G.env:=by rfl)
  (hfew:((backTo pos (starEach (e::es) G.env)).all (λx=>!x.1) && (backToKw pos (keywordEach [] G.env)).all (λx=>x.1.isSome)
   && decide ((e::es).length+([]:List Keyword).length+(if([]:List Keyword).isEmpty then 0 else 1)<30))=true:=by rfl)
  (hline:(apos.endLine == pos.line)=true:=by rfl) (he:starEach (e::es) G.env=(false,eval e G.env)::starEach es G.env:=by rfl) (hp:∀pos,(backTo pos (starEach es G.env)).any (·.1)=false:=by intro _;rfl):J prog w G (.Call (.Attribute o name apos) (e::es) [] pos) (ZW c F f g):=by
 intro W O H fr s Q E v H' r hf post
 obtain⟨⟨v0,H1⟩,e1,hf1⟩:=Zz0.mp hf
 clear hf
 simp only at hf1
 split at hf1
 case isFalse=>first|exact Yx0 hf1|cases hf1
 rename_i hcl
 obtain⟨q,e2,hf2⟩:=Zz0.mp hf1
 clear hf1
 refine Zio hbase hfew hline (ho W O H fr s _ E _ _ r e1 λW1 k1 t1 x l1 r1 x1 pl=>?_)
 cases v0 with
 | none=>first|exact Yx0 hcl|cases hcl
 | bool=>first|exact Yx0 hcl|cases hcl
 | int=>first|exact Yx0 hcl|cases hcl
 | str=>first|exact Yx0 hcl|cases hcl
 | tup=>first|exact Yx0 hcl|cases hcl
 | ref=>first|exact Yx0 hcl|cases hcl
 | obj c' i=>
  have ec:c'=c:=by simpa [ZaI]using hcl
  subst ec
  have hi:∃vs,H1[i]?=some vs:=by
   obtain⟨m,cc,led,r1'⟩:=r1
   cases x1 with
   | obj h1 h2 h3 h4=>exact⟨_,Yy1 (r1'.R.inlt _ h2)⟩
  obtain⟨vs,hvs⟩:=hi
  obtain⟨xa,dx,es',n,xs,rfl,I,fe,hv,_⟩:=r1.objAt x1 hvs
  obtain⟨m,cc,led,r1'⟩:=id r1
  refine method_inst (s:={ s with heap:=k1,toks:=t1 }) r1'.F clr.keep I hg hm ht (fe.no nf) ?_
  refine callWith_K (first:=[.ref xa]) clr.keep hkeep (h pos W1 O _ fr _ _ E _ _ r1 e2 λW2 k2 t2 ys l2 r2 y2=>⟨?_,?_⟩) he (hp pos)
  ·obtain⟨m,c,led,r2⟩:=r2
   exact clr.keep.keeps r2.F.keep
  ·exact wpAny_call (D G dp un clr hd hu W2 O _ fr _ Q E _ (.ref xa::ys) v H' r2 (.cons (x1.mono l2) y2) hf2 λW3 k3 t3 z l3 r3 z3=>post W3 k3 t3 z ((l1.trans l2).trans l3) r3 z3)
theorem Zei{f:Ex}{room:Nat}(clr:Clr K p loose mean mg mb G dp un)(ho:J prog w G o f)(hm:findIn K (.ref c.1) name=some (some (.ref fa)))(ht:isFn K (.ref fa)=true)(hg:plainGet K c.1 name=true)(nf:name∉c.2)(hkeep:keepIn K (.ref fa)=true)(D:Def prog w K p loose mean mg mb fa room F)(hd:dp+room<recursionLimit)(hu:un+10*room+300<cLine)
  (hbase:attributeBase o name G.env (eval o G.env)=eval o G.env:=by rfl) (hline:(apos.endLine == pos.line)=true:=by rfl):J prog w G (.Call (.Attribute o name apos) [] [] pos) (ZW c F f Ze):=by
 intro W O H fr s Q E v H' r hf post
 obtain⟨⟨v0,H1⟩,e1,hf1⟩:=Zz0.mp hf
 clear hf
 simp only at hf1
 split at hf1
 case isFalse=>first|exact Yx0 hf1|cases hf1
 rename_i hcl
 obtain⟨q,e2,hf2⟩:=Zz0.mp hf1
 clear hf1
 cases e2
 refine Zio hbase rfl hline (ho W O H fr s _ E _ _ r e1 λW1 k1 t1 x l1 r1 x1 pl=>?_)
 cases v0 with
 | none=>first|exact Yx0 hcl|cases hcl
 | bool=>first|exact Yx0 hcl|cases hcl
 | int=>first|exact Yx0 hcl|cases hcl
 | str=>first|exact Yx0 hcl|cases hcl
 | tup=>first|exact Yx0 hcl|cases hcl
 | ref=>first|exact Yx0 hcl|cases hcl
 | obj c' i=>
  have ec:c'=c:=by simpa [ZaI]using hcl
  subst ec
  have hi:∃vs,H1[i]?=some vs:=by
   obtain⟨m,cc,led,r1'⟩:=r1
   cases x1 with
   | obj h1 h2 h3 h4=>exact⟨_,Yy1 (r1'.R.inlt _ h2)⟩
  obtain⟨vs,hvs⟩:=hi
  obtain⟨xa,dx,es',n,xs,rfl,I,fe,hv,_⟩:=r1.objAt x1 hvs
  obtain⟨m,cc,led,r1'⟩:=id r1
  refine method_inst (s:={ s with heap:=k1,toks:=t1 }) r1'.F clr.keep I hg hm ht (fe.no nf) ?_
  refine callWith_K0 (first:=[.ref xa]) (clr.keep.keeps r1'.F.keep) hkeep ?_
  exact wpAny_call (D G dp un clr hd hu W1 O _ fr _ Q E _ [.ref xa] v H' r1 (.cons x1 .nil) hf2 λW3 k3 t3 z l3 r3 z3=>post W3 k3 t3 z (l1.trans l3) r3 z3)
end
theorem Rep'.changedO{W:Wd}{c:List (Addr×Obj)}{a:Addr}{us:List V}{od':Obj}(r:Rep' G W O H fr h m c led)(i0:i≠0)(e:H[i]?=some vs)(ea:W.pi[i]?=some a)(hi:(i,fs)∈W.ins)(F':Fr G.h₀ G.L h' m)(N':News G.h₀ G.L h' ((a,od')::led.filter (λq=>decide (q.1≠a))))(hD:Zk7 od' fs ys)(hv:VRs W us ys)(hl:us.length<=fs.length):
  Rep G W O (H.set i us) fr h':=by
 obtain⟨_,b,od,xs,h1,h2,h3,_⟩:=r.R.objs i vs fs e hi
 rw[ea]at h1
 cases h1
 have h2:=r.inLed i0 ea h2
 have hN:=r.N _ h2
 have hm:a∈W.pi:=Yy4 ea
 have hil:i<H.length:=(Zz6.mp e).1
 have other:∀(n:Nat) (d:Addr),n≠i->W.pi[n]?=some d->d≠a:=λn d hn g1 e=>by
  subst e
  exact hn ((List.getElem?_inj (Zz6.mp g1).1 r.R.nd).mp (g1.trans ea.symm))
 refine⟨m,c,(a,od')::led.filter (λq=>decide (q.1≠a)),⟨F',N',?_,r.sc,r.sc0,λq hq=>?_,r.frOff,λq hq=>?_,r.clOff,r.apart,r.frTup,r.clTup,r.own⟩⟩
 ·refine⟨by simp[r.R.len],r.R.nd,λn ws en ni=>?_,λq hq=>?_,r.R.kind,λn ws gs en hi'=>?_,λq hq=>by have:=r.R.inlt q hq;simpa using this,r.R.iuni⟩
  ·have hn:n≠i:=λq=>ni _ hi q.symm
   rw[Yy2 (Ne.symm hn)]at en
   obtain⟨l,d,zs,j',g1,g2,g3⟩:=r.R.lists n ws en ni
   exact⟨l,d,zs,j',g1,Zbe g2 λg2=>Yy3 _ (Yy9.mpr ⟨g2,by simpa using other n d hn g1⟩),g3⟩
  ·refine Zbe (r.R.tups q hq) λg2=>Yy3 _ (Yy9.mpr ⟨g2,?_⟩)
   have:q.1≠a:=λe=>by
    have hk:=Zi2 (r.R.kind q hq)
    have g:=r.get (r.R.tups q hq)
    rw[e,hN.1]at g
    obtain⟨es,n,eo,_⟩:=h3
    have c:=congrArg Obj.cls (Option.some.inj g)
    rw[eo]at c
    exact hk.2 c.symm
   simpa using this
  ·by_cases hn:n=i
   ·subst hn
    have:gs=fs:=congrArg (·.2) (r.R.iuni _ hi' _ hi rfl)
    subst this
    rw[Yy6 hil]at en
    cases en
    exact⟨hl,a,od',ys,ea,Yy3 _ Zz5,hD,hv⟩
   ·rw[Yy2 (Ne.symm hn)]at en
    obtain⟨l,d,od2,zs,g1,g2,g3,g4⟩:=r.R.objs n ws gs en hi'
    exact⟨l,d,od2,zs,g1,Zbe g2 λg2=>Yy3 _ (Yy9.mpr ⟨g2,by simpa using other n d hn g1⟩),g3,g4⟩
 ·refine Zz2 _ (Yy9.mpr ⟨r.frIn q hq,?_⟩)
  have:q.1≠a:=λe=>r.frOff q hq (e▸hm)
  simpa using this
 ·refine Zz2 _ (Yy9.mpr ⟨r.clIn q hq,?_⟩)
  have:q.1≠a:=λe=>r.clOff q hq (e▸hm)
  simpa using this
theorem Rep'.newObj{W:Wd}{cc:List (Addr×Obj)}{x dx:Addr}(r:Rep' G W O H fr h m cc led)(F':Fr G.h₀ G.L h' m)(N':News G.h₀ G.L h' ((x,instObj c.1 dx)::(dx,emptyDict)::led))(ne:∀q∈W.sc::led,q.1≠dx/\q.1≠x):
  ∃W',W.Le W'/\Rep G W' O (H++[[]]) fr h'/\VR W' (.obj c H.length) (.ref x):=by
 have piNe:∀b∈W.pi,b≠dx:=λb hb=>by
  obtain⟨o,ho⟩:=r.piIn b hb
  exact(ne _ ho).1
 have le:W.Le ⟨W.pi++[dx],(x,instObj c.1 dx)::W.tups,W.sc,(H.length,c.2)::W.ins⟩:=⟨List.prefix_append _ _,λq hq=>Yy3 _ hq,rfl,λq hq=>Yy3 _ hq,λq hq=>by
  rcases Zz7.mp hq with e | hq
  ·exact .inr (by rw[e,r.R.len];exact Zz10 _)
  ·exact .inl hq⟩
 have h0:0<W.pi.length:=(Zz6.mp r.sc0).1
 have at_n:(W.pi++[dx])[H.length]?=some dx:=by rw[<-r.R.len];simp
 have up:∀q∈W.sc::led,q∈W.sc::(x,instObj c.1 dx)::(dx,emptyDict)::led:=λq hq=>Zcy hq λy hy=>Yy3 _ (Zz2 _ hy)
 refine⟨⟨W.pi++[dx],(x,instObj c.1 dx)::W.tups,W.sc,(H.length,c.2)::W.ins⟩,le,⟨m,cc,(x,instObj c.1 dx)::(dx,emptyDict)::led,⟨F',N',?_,r.sc,(Yy0 h0).trans r.sc0,λq hq=>Yy3 _ (Zz2 _ (r.frIn q hq)),λq hq=>?_,λq hq=>Yy3 _ (Zz2 _ (r.clIn q hq)),λq hq=>?_,r.apart,λq hq t ht=>?_,λq hq t ht=>?_,G.mono le r.own⟩⟩,.obj at_n Zz5 Zz5 rfl⟩
 ·refine⟨by simp[r.R.len],?_,λi us e ni=>?_,λq hq=>?_,λq hq=>?_,λi us fs e hi=>?_,λq hq=>?_,λq hq t ht e=>?_⟩
  ·show(W.pi++[dx]).Nodup
   rw[List.nodup_append]
   refine⟨r.R.nd,.s,λa ha b hb e=>?_⟩
   rw[List.mem_singleton.mp hb]at e
   exact piNe a ha e
  ·have hi:i≠H.length:=λq=>ni _ Zz5 q.symm
   have hi':i<H.length:=by
    have:=(Zz6.mp e).1
    simp at this
    lia
   rw[Yy0 hi']at e
   obtain⟨l,a,ys,j,h1,h2,h3⟩:=r.R.lists i us e λq hq=>ni q (Zz2 _ hq)
   exact⟨l,a,ys,j,le.piAt h1,up _ h2,h3.mono le⟩
  ·rcases Zz7.mp hq with e | hq
   ·rw[e];exact Zz2 _ Zz5
   ·exact up _ (r.R.tups q hq)
  ·rcases Zz7.mp hq with e | hq
   ·rw[e];exact .inr ⟨c.1,dx,rfl⟩
   ·exact r.R.kind q hq
  ·rcases Zz7.mp hi with e1 | hi
   ·first|exact Yx0 e1|cases e1
    simp at e
    subst e
    exact⟨Nat.zero_le _,dx,emptyDict,[],at_n,Yy3 _ (Zz2 _ Zz5),⟨[],0,rfl,.nil⟩,.nil⟩
   ·have hi':i<H.length:=r.R.inlt _ hi
    rw[Yy0 hi']at e
    obtain⟨l,a,od,ys,h1,h2,h3,h4⟩:=r.R.objs i us fs e hi
    exact⟨l,a,od,ys,le.piAt h1,up _ h2,h3,h4.mono le⟩
  ·rcases Zz7.mp hq with e | hq
   ·rw[e];simp
   ·have:=r.R.inlt q hq;simp;lia
  ·rcases Zz7.mp hq with e1 | hq
   ·rcases Zz7.mp ht with e2 | ht
    ·rw[e1,e2]
    ·have:=r.R.inlt t ht;rw[e1]at e;simp at e;lia
   ·rcases Zz7.mp ht with e2 | ht
    ·have:=r.R.inlt q hq;rw[e2]at e;simp at e;lia
    ·exact r.R.iuni q hq t ht e
 ·intro hm
  rcases Zz8.mp hm with hm | hm
  ·exact r.frOff q hq hm
  ·exact(ne q (Zz2 _ (r.frIn q hq))).1 (Zz9.mp hm)
 ·intro hm
  rcases Zz8.mp hm with hm | hm
  ·exact r.clOff q hq hm
  ·exact(ne q (Zz2 _ (r.clIn q hq))).1 (Zz9.mp hm)
 ·rcases Zz7.mp ht with e | ht
  ·rw[e]
   exact(ne q (Zz2 _ (r.frIn q hq))).2
  ·exact r.frTup q hq t ht
 ·rcases Zz7.mp ht with e | ht
  ·rw[e]
   exact(ne q (Zz2 _ (r.clIn q hq))).2
  ·exact r.clTup q hq t ht
section
variable {prog:Program} {w:World} {G:Cx} {K:Frag}
theorem Zbw{value:Expr}{pos':Pos}{f g:Ex}(X:K.In G.h₀)(hv:J prog w G value f)(ho:J prog w G o g)(hj:c.2[j]?=some name)(nd:c.2.Nodup)(hc:c.2.length<=1000)(hs:findIn K (.ref c.1) "__setattr__"=some (some (.builtin "object.__setattr__")))(hp:plainOver K c.1=true)(ht:takerIn K c.1 name=some none)(hh:hasDictIn K c.1=true)
  (hsw:swapsWith value (some (.Attribute o name pos')) pos.line G.env=pure false:=by rfl):S1 prog w G (.Assign [.Attribute o name pos'] value pos) (Zak c j f g):=by
 intro W O H fr s Q E r rp hx post
 obtain⟨⟨v1,H1⟩,e1,hx1⟩:=Zz0.mp hx
 obtain⟨⟨v2,H2⟩,e2,hx2⟩:=Zz0.mp hx1
 obtain⟨H3,e3,hx3⟩:=Zz1.mp hx2
 subst hx3
 clear hx hx1 hx2
 refine plainObj_wpAny_Assign_Attribute (hv W O H fr s _ E _ _ rp e1 λW1 k1 t1 x l1 r1 x1=>?_) hsw
 refine ho W1 O _ fr _ _ E _ _ r1 e2 λW2 k2 t2 y l2 r2 y2=>?_
 simp only at e3
 cases v2 with
 | none=>first|exact Yx0 e3|cases e3
 | bool=>first|exact Yx0 e3|cases e3
 | int=>first|exact Yx0 e3|cases e3
 | str=>first|exact Yx0 e3|cases e3
 | tup=>first|exact Yx0 e3|cases e3
 | ref=>first|exact Yx0 e3|cases e3
 | obj c' i=>
  simp only[Zay]at e3
  split at e3
  case isFalse=>first|exact Yx0 e3|cases e3
  rename_i hci
  obtain⟨ec,i0⟩:=hci
  subst ec
  obtain⟨vs,hvs,e4⟩:=Zz0.mp e3
  obtain⟨m,cc,led,r'⟩:=r2
  cases y2 with
  | @obj _ _ a xa ox h1 h2 h3 h4=>
  obtain⟨hl,a',od,xs,g1,g2,⟨es,n,eo,fe⟩,g4⟩:=r'.R.objs i vs c'.2 hvs h2
  rw[h1]at g1
  cases g1
  subst eo
  have e5:ox=_:=h4
  subst e5
  have hin:=r'.inLed i0 h1 g2
  have I:InstAt k2 xa ⟨.ref c'.1,some a,.plain,#[]⟩ c'.1 (some (dictOf es n)):=⟨r'.get (r'.R.tups _ h3),rfl,rfl,r'.get g2⟩
  have N2:News G.h₀ G.L k2 ((a,dictOf es n)::led.filter (λq=>decide (q.1≠a))):=by
   intro q hq
   rcases Zz7.mp hq with e | hq
   ·subst e
    exact⟨r'.get g2,(r'.N _ hin).2⟩
   ·exact r'.N q (List.mem_filter.mp hq).1
  have lvx:=g4.length
  have fl:=fe.len
  have fin:∀(us:List V) (ys:List Value),H3=H2.set i us->VRs W2 us ys->us.length<=c'.2.length->FE c'.2 ys (putL name (PyData.keyHash w.params name) (.str name (t2+1)) x es) ->
    wpAny (model prog w) G.A (setAttr (.ref xa) name x) (λ_=>Q .next) E { s with heap:=k2,toks:=t2 }:=by
   intro us ys eH hv' hl' fe'
   refine set_dict (s:={ s with heap:=k2,toks:=t2 }) r'.F X N2 I rfl hs hp ht hh (fe.isS name) rfl (Upd.head λq hq=>by simpa using (List.mem_filter.mp hq).2) (Nat.le_trans (Nat.le_of_eq fe'.len.1) (Nat.le_trans fe'.len.2 hc)) λh' F' N'=>?_
   rw[eH]at post
   exact post W2 h' (t2+2) (l1.trans l2) (r'.changedO i0 hvs h1 h2 F' N' ⟨_,_,rfl,fe'⟩ hv' hl')
  split at e4
  ·rename_i hjl
   cases e4
   exact fin (vs.set j v1) (xs.set j x) rfl (g4.set j (x1.mono l2)) (by simpa using hl) (fe.put nd hj (by rw[lvx];exact hjl))
  ·split at e4
   ·rename_i hjl
    cases e4
    have ej:j=xs.length:=by rw[lvx];exact hjl.1
    refine fin (vs++[v1]) (xs++[x]) rfl (g4.snoc (x1.mono l2)) (by simp;lia) (fe.app nd (by rw[<-ej];exact hj))
   ·first|exact Yx0 e4|cases e4
end
section
variable {prog:Program} {w:World} {K:Frag} {p:Program} {loose:List Str} {mean:ExcName->Option Value} {mg mb:Str->Option Value} {G:Cx} {dp un:Nat}
theorem Zjc{room:Nat}(clr:Clr K p loose mean mg mb G dp un)(hm:makesIn K c.1=true)(hi:findIn K (.ref c.1) "__init__"=some (some (.ref fI)))(hf:typeIn K (.ref fI)=some (.type "function"))(D:Def prog w K p loose mean mg mb fI room F)(hd:dp+(room+1)<recursionLimit)(hu:un+10*(room+1)+300<cLine)
  {W:Wd}        {v:V} {H':Hp} (r:Rep G W O H fr s.heap) (hx:VRs W vs xs) (hF:(F (.obj c H.length::vs) (H++[[]])).bind (λq=>match q.1 with | .none=>some (V.obj c H.length,q.2) | _=>none)=some (v,H')) (post:ZdP G W O H' fr s Q v):
  wpAny (model prog w) G.A (call (.ref c.1) xs) Q E s:=by
 obtain⟨⟨v1,H1⟩,e1,hF1⟩:=Zz0.mp hF
 simp only at hF1
 cases v1 <;> first|exact Yx0 hF1|(cases hF1;done)| skip
 cases hF1
 obtain⟨m,cc,led,r'⟩:=id r
 refine wpAny_call (make_K r'.F r'.N (clr.keep.keeps r'.F.keep) hm hi hf λx dx h' F' N' lt1 lt2=>?_)
 have hne:∀q∈W.sc::led,q.1≠dx/\q.1≠x:=λq hq=>by
  rcases Zz7.mp hq with e | hq
  ·rw[e]
   refine⟨λz=>?_,λz=>?_⟩
   ·have h1:=(N' _ (Zz2 _ Zz5)).2.2
    have h2:=r'.sc
    rw[z]at h2
    simp only at h1
    rw[h1]at h2
    cases h2
   ·have h1:=(N' _ Zz5).2.2
    have h2:=r'.sc
    rw[z]at h2
    simp only at h1
    rw[h1]at h2
    cases h2
  ·exact⟨Nat.ne_of_lt (lt1 q hq),Nat.ne_of_lt (Nat.lt_trans (lt1 q hq) lt2)⟩
 obtain⟨W1,l1,r1,x1⟩:=r'.newObj (c:=c) F' N' hne
 obtain⟨gd,cn,cs,a,ccd,cl,outer,A₀,base,eA,B,X,T,hke⟩:=clr
 let Γ':Cx:={ G with A:=ktrTop (dp+1) (un+1) gd cn cs G.L a ccd cl outer,hh:=rfl,hu:=by show un+1+200<cLine;lia }
 have clr':Clr K p loose mean mg mb Γ' (dp+1) (un+1):=⟨gd,cn,cs,a,ccd,cl,outer,A₀,base,rfl,B,X,T,hke⟩
 have to:∀{W:Wd} {O:Lc} {H:Hp} {fr:List (Addr×Obj)} {h:Heap},Rep G W O H fr h->Rep Γ' W O H fr h:=λ⟨m,c,led,r⟩=>⟨m,c,led,⟨r.F,r.N,r.R,r.sc,r.sc0,r.frIn,r.frOff,r.clIn,r.clOff,r.apart,r.frTup,r.clTup,r.own⟩⟩
 have from':∀{W:Wd} {O:Lc} {H:Hp} {fr:List (Addr×Obj)} {h:Heap},Rep Γ' W O H fr h->Rep G W O H fr h:=λ⟨m,c,led,r⟩=>⟨m,c,led,⟨r.F,r.N,r.R,r.sc,r.sc0,r.frIn,r.frOff,r.clIn,r.clOff,r.apart,r.frTup,r.clTup,r.own⟩⟩
 rw[eA]
 exact D Γ' (dp+1) (un+1) clr' .l .l W1 O _ fr { s with heap:=h' } (λv s'=>v=.none/\Q (.ref x) s') E (.obj c H.length::vs) (.ref x::xs) .none _ (to r1) (.cons x1 (hx.mono l1)) e1 λW2 h2 t2 y l2 r2 y2=>by
  cases y2
  exact⟨rfl,post W2 h2 t2 (.ref x) (l1.trans l2) (from' r2) (x1.mono l2)⟩
theorem J.new{x:Str}{room:Nat}(clr:Clr K p loose mean mg mb G dp un)(hn:Nm prog w G x (.ref c.1))(hkeep:keepIn K (.ref c.1)=true)(hm:makesIn K c.1=true)(hi:findIn K (.ref c.1) "__init__"=some (some (.ref fI)))(hf:typeIn K (.ref fI)=some (.type "function"))(D:Def prog w K p loose mean mg mb fI room F)(hd:dp+(room+1)<recursionLimit)(hu:un+10*(room+1)+300<cLine)
  (h:Js prog w G (e::es) g) (he:starEach (e::es) G.env=(false,eval e G.env)::starEach es G.env:=by rfl) (hp:∀pos,(backTo pos (starEach es G.env)).any (·.1)=false:=by intro _;rfl):J prog w G (.Call (.Name x np) (e::es) [] pos) (Zcp c F g):=by
 intro W O H fr s Q E v H' r hf' post
 obtain⟨q,e1,hf'⟩:=Zz0.mp hf'
 refine wpAny_Call_ofName (hn.use r ?_)
 refine callWith_K (first:=[]) clr.keep hkeep (h pos W O H fr s _ E _ _ r e1 λW1 k1 t1 xs l1 r1 x1=>⟨?_,?_⟩) he (hp pos)
 ·obtain⟨m,c,led,r1⟩:=r1
  exact clr.keep.keeps r1.F.keep
 ·exact Zjc (s:={ s with heap:=k1,toks:=t1 }) clr hm hi hf D hd hu r1 x1 hf' λW2 k2 t2 y l2 r2 y2=>post W2 k2 t2 y (l1.trans l2) r2 y2
theorem ZpL{x:Str}{room:Nat}(clr:Clr K p loose mean mg mb G dp un)(hn:Nm prog w G x (.ref c.1))(hkeep:keepIn K (.ref c.1)=true)(hm:makesIn K c.1=true)(hi:findIn K (.ref c.1) "__init__"=some (some (.ref fI)))(hf:typeIn K (.ref fI)=some (.type "function"))(D:Def prog w K p loose mean mg mb fI room F)(hd:dp+(room+1)<recursionLimit)(hu:un+10*(room+1)+300<cLine): J prog w G (.Call (.Name x np) [] [] pos) (Zcp c F Ze):=by
 intro W O H fr s Q E v H' r hf' post
 obtain⟨q,e1,hf'⟩:=Zz0.mp hf'
 cases e1
 refine wpAny_Call_ofName (hn.use r ?_)
 refine callWith_K0 (first:=[]) ?_ hkeep ?_
 ·obtain⟨m,c,led,r1⟩:=r
  exact clr.keep.keeps r1.F.keep
 ·exact Zjc clr hm hi hf D hd hu r .nil hf' post
end
end PM
end
section
namespace TM
open PySem PM
mutual
theorem RF.det{H:Hp}{v:V}{t t':T}{F F':List Nat}(r:RF H v t F)(r':RF H v t' F'): t=t'/\F=F':=by
 cases r with
 | none=>cases r';exact⟨rfl,rfl⟩
 | bool b=>cases r';exact⟨rfl,rfl⟩
 | int i=>cases r';exact⟨rfl,rfl⟩
 | str s=>cases r';exact⟨rfl,rfl⟩
 | tup hs=>
  cases r' with
  | tup hs'=>obtain⟨h1,h2⟩:=RFs.det hs hs';exact⟨by rw[h1],h2⟩
 | ref e hs=>
  cases r' with
  | ref e' hs'=>
   rw[e]at e'
   cases e'
   obtain⟨h1,h2⟩:=RFs.det hs hs';exact⟨by rw[h1],by rw[h2]⟩
 | obj e hs=>
  cases r' with
  | obj e' hs'=>
   rw[e]at e'
   cases e'
   obtain⟨h1,h2⟩:=RFs.det hs hs';exact⟨by rw[h1],by rw[h2]⟩
theorem RFs.det{H:Hp}{vs:List V}{ts ts':List T}{F F':List Nat}(r:RFs H vs ts F)(r':RFs H vs ts' F'): ts=ts'/\F=F':=by
 cases r with
 | nil=>cases r';exact⟨rfl,rfl⟩
 | cons a b=>
  cases r' with
  | cons a' b'=>
   obtain⟨h1,h2⟩:=RF.det a a'
   obtain⟨k1,k2⟩:=RFs.det b b'
   exact⟨by rw[h1,k1],by rw[h2,k2]⟩
end
end TM
end
section
namespace My
open PySem
variable{s:Shared}{c:Nat}{id:String}{args:List Value}{kw:List (Str×Value)}{Q:Value->Shared->Prop}
section
variable {prog:Program} {w:World} {A:Around} {R:Result->Shared->Prop} {I:Addr} {fp wr:List Addr} {n:Nat} {P:Nat->Value->Prop} {St:Nat->Heap->Prop}
theorem mx_rest(W:Walks prog w A.in1 I fp wr n P St)(bt:Nat->Nat->Bool)(cmp:CmpOf prog w A.in1 .Gt P bt)(S:Addr)(off:S∉fp)(kw:List (Str×Value)):
  ∀(k j:Nat) (s:Shared) (best:Value) (c:Nat),n-(j+1)=k->j+1<=n->St (j+1) s.heap->P (argBest bt j) best->s.heap.get? S=some { cls:=.type "list",dict:=none,data:=.seq #[best,best] c,slots:=#[] } ->
   (∀v g tk,P (argBest bt (n-1)) v->(∀b o,b∉wr->b≠S->s.heap.get? b=some o->g.get? b=some o)->R (.ok (.ret v)) { s with heap:=g,toks:=tk }) ->
   codeAny (model prog w) A (.builtin "max.loop" ⟨[.ref I,.none,.ref S],kw⟩) R s:=by
 have offw:S∉wr:=λq=>off (W.sub _ q)
 have nm:(toString "max"++toString ".loop":String)="max.loop":=by decide
 intro k
 induction k with
 | zero=>
  intro j s best c ek ej st pb at_S out
  have last:j+1=n:=by lia
  refine codeAny_builtin F.entry_max_loop ?_;rw[Around.under_plainId F.plain_max_loop _]
  show wpAny _ A.in1 (seqItems? (.ref S) >>= _) _ _ s;refine wpAny_bind (wpAny_seqItems at_S rfl ?_)
  show wpAny _ A.in1 (tryCatch (pyNext (.ref I)) _ >>= _) _ _ s;refine wpAny_bind (wpAny_tryCatch (W.done s _ _ (last▸st) λg tk keeps=>?_))
  have at_S':=keeps S _ offw at_S
  show wpAny _ A.in1 (updateSeq S (λ_=>#[]) >>= _) _ _ _
  refine wpAny_bind ?_;refine wpAny_updateSeq at_S' rfl (wpAny_bind (wpAny_letGo (wpAny_pure ?_)))
  exact out best _ tk (by rw[<-last];exact pb) λb o bw bS e=>(Heap.get?_update_other _ _ (Ne.symm bS)).trans (keeps b o bw e)
 | succ k ih=>
  intro j s best c ek ej st pb at_S out
  have more:j+1<n:=by omega
  refine codeAny_builtin F.entry_max_loop ?_;rw[Around.under_plainId F.plain_max_loop _]
  show wpAny _ A.in1 (seqItems? (.ref S) >>= _) _ _ s;refine wpAny_bind (wpAny_seqItems at_S rfl ?_)
  show wpAny _ A.in1 (tryCatch (pyNext (.ref I)) _ >>= _) _ _ s;refine wpAny_bind (wpAny_tryCatch (W.item (j+1) s _ _ more st λv g tk pv st' keeps=>?_))
  have at_S':=keeps S _ offw at_S
  show wpAny _ A.in1 (tryCatch (holding [v,v] (richCompare .Gt v best >>= _)) _ >>= _) _ _ _;refine wpAny_bind (wpAny_tryCatch (wpAny_holding (wpAny_bind (cmp (j+1) (argBest bt j) v best _ _ _ pv pb ?_))))
  refine wpAny_bind (wpAny_holding (wpAny_truthy_bool ?_));refine wpAny_bind (wpAny_letGo (wpAny_pure ?_))
  cases hb:bt (j+1) (argBest bt j)with
  | true=>
   simp only[if_true];refine wpAny_bind ?_;refine wpAny_updateSeq at_S' rfl (wpAny_bind (wpAny_letGo ?_));rw[nm]
   refine wpAny_pure ⟨plainId_quiet F.plain_max_loop _,ih (j+1) _ v _ .o more (W.frame _ _ _ st' λb bf o e=>?_) (by simp only[argBest,hb,if_true];exact pv) (Heap.get?_update_self _ at_S' rfl) λv' g' tk' pv' keeps'=>?_⟩
   ·exact(Heap.get?_update_other _ _ (λq:S=b=>off (by rw[q];exact bf))).trans e
   ·exact out v' g' tk' pv' λb o bw bS e=>keeps' b o bw bS ((Heap.get?_update_other _ _ (Ne.symm bS)).trans (keeps b o bw e))
  | false=>
   simp only[Bool.false_eq_true,if_false];refine wpAny_bind (wpAny_letGo ?_);rw[nm]
   refine wpAny_pure ⟨plainId_quiet F.plain_max_loop _,ih (j+1) _ best c .o more st' (by simp only[argBest,hb,Bool.false_eq_true,if_false];exact pb) at_S' λv' g' tk' pv' keeps'=>?_⟩
   exact out v' g' tk' pv' λb o bw bS e=>keeps' b o bw bS (keeps b o bw e)
theorem mx_first(W:Walks prog w A.in1 I fp wr n P St)(bt:Nat->Nat->Bool)(cmp:CmpOf prog w A.in1 .Gt P bt)(S:Addr)(off:S∉fp)(kw:List (Str×Value))(some_:0<n)(st:St 0 s.heap)
  (at_S:s.heap.get? S=some { cls:=.type "list",dict:=none,data:=.seq #[] c,slots:=#[] })
  (out:∀v g tk,P (argBest bt (n-1)) v->(∀b o,b∉wr->b≠S->s.heap.get? b=some o->g.get? b=some o)->R (.ok (.ret v)) { s with heap:=g,toks:=tk }):
  codeAny (model prog w) A (.builtin "max.loop" ⟨[.ref I,.none,.ref S],kw⟩) R s:=by
 have offw:S∉wr:=λq=>off (W.sub _ q)
 have nm:(toString "max"++toString ".loop":String)="max.loop":=by decide
 refine codeAny_builtin F.entry_max_loop ?_;rw[Around.under_plainId F.plain_max_loop _]
 show wpAny _ A.in1 (seqItems? (.ref S) >>= _) _ _ s;refine wpAny_bind (wpAny_seqItems at_S rfl ?_)
 show wpAny _ A.in1 (tryCatch (pyNext (.ref I)) _ >>= _) _ _ s;refine wpAny_bind (wpAny_tryCatch (W.item 0 s _ _ some_ st λv g tk pv st' keeps=>?_))
 have at_S':=keeps S _ offw at_S
 show wpAny _ A.in1 (updateSeq S (λ_=>#[v,v]) >>= _) _ _ _
 refine wpAny_bind ?_;refine wpAny_updateSeq at_S' rfl ?_;rw[nm]
 refine wpAny_pure ⟨plainId_quiet F.plain_max_loop _,mx_rest W bt cmp S off kw _ 0 _ v _ rfl some_ (W.frame _ _ _ st' λb bf o e=>?_) pv (Heap.get?_update_self _ at_S' rfl) λv' g' tk' pv' keeps'=>?_⟩
 ·exact(Heap.get?_update_other _ _ (λq:S=b=>off (by rw[q];exact bf))).trans e
 ·exact out v' g' tk' pv' λb o bw bS e=>keeps' b o bw bS ((Heap.get?_update_other _ _ (Ne.symm bS)).trans (keeps b o bw e))
theorem mx_none(W:Walks prog w A.in1 I fp wr 0 P St)(S:Addr)(x:Str)(d:Value)(kw:List (Str×Value))(st:St 0 s.heap)
  (at_S:s.heap.get? S=some { cls:=.type "list",dict:=none,data:=.seq #[] c,slots:=#[] })
  (out:∀g tk,(∀b o,b∉wr->s.heap.get? b=some o->g.get? b=some o)->R (.ok (.ret d)) { s with heap:=g,toks:=tk }):
  codeAny (model prog w) A (.builtin "max.loop" ⟨[.ref I,.none,.ref S],(x,d)::kw⟩) R s:=by
 refine codeAny_builtin F.entry_max_loop ?_;rw[Around.under_plainId F.plain_max_loop _]
 show wpAny _ A.in1 (seqItems? (.ref S) >>= _) _ _ s;refine wpAny_bind (wpAny_seqItems at_S rfl ?_)
 show wpAny _ A.in1 (tryCatch (pyNext (.ref I)) _ >>= _) _ _ s;refine wpAny_bind (wpAny_tryCatch (W.done s _ _ st λg tk keeps=>?_))
 show wpAny _ A.in1 (rule _ >>= _) _ _ _
 exact wpAny_bind (wpAny_rule (wpAny_pure (out g tk keeps)))
end
section
variable {prog:Program} {w:World} {A:Around} {E:Value->Shared->Prop} {s:Shared}
theorem kw_tree{b:Builtin}(e1:builtinKind id=none)(e2:plainId id=true)(e3:entryFor table id=some b)(e4:argsOk id ⟨args,kw⟩)
  (go:wpAny (model prog w) A.in1 (b ⟨args,kw⟩) (λfin s'=>match fin with
   | .done f=>(match (Except.ok f:Result)with
    | .ok (.ret v)=>Q v s'
    | .ok _=>False
    | .error e=>E e s')
   | .again c'=>c'.quiet=true/\codeAny (model prog w) A c' (λr s'=>match r with
    | .ok (.ret v)=>Q v s'
    | .ok _=>False
    | .error e=>E e s') s') E s):wpAny (model prog w) A (call (.builtin id) args kw) Q E s:=by
 refine wpAny_call (codeAny_call_builtin e2 e3 ?_)
 simp only[checkBuiltinCall,e1]
 cases sg:Manifest.signature? id with
 | none=>exact wpAny_pure go
 | some sig=>
  have e5:Bind.checkArgs id sig ⟨args,kw⟩=pure ():=by simpa only[argsOk,sg]using e4
  simp only[e5]
  exact wpAny_pure go
theorem mx_args(a d:Value): argsOk "max" ⟨[a],[(Str.ofString "default",d)]⟩:=by unfold argsOk;kernel_rfl
theorem mx_walk{x d:Value}
  (h:wpAny (model prog w) A.in1 (pyIter x) (λit s₂=>∃I fp wr n P St bt,it=.ref I/\Walks prog w A.in1 I fp wr n P St/\St 0 s₂.heap/\(∀b∈fp,b<s₂.heap.objs.size)/\CmpOf prog w A.in1 .Gt P bt /\
   (n=0->∀g tk,(∀b o,b∉wr->s₂.heap.get? b=some o->g.get? b=some o)->Q d { s₂ with heap:=g,toks:=tk }) /\
   (0<n->∀v g tk,P (argBest bt (n-1)) v->(∀b o,b∉wr->s₂.heap.get? b=some o->g.get? b=some o)->Q v { s₂ with heap:=g,toks:=tk })) E s):
  wpAny (model prog w) A (call (.builtin "max") [x] [(Str.ofString "default",d)]) Q E s:=by
 have nm:(toString "max"++toString ".loop":String)="max.loop":=by decide
 refine kw_tree F.kind_max F.plain_max F.entry_max (mx_args _ _) ?_
 show wpAny _ A.in1 (Builtin.Builtins.bindParams "max" ["key","default"] 0 ⟨[],[(Str.ofString "default",d)]⟩ >>= _) _ _ s
 refine wpAny_bind (wpAny_of_eq (show Builtin.Builtins.bindParams "max" ["key","default"] 0 ⟨[],[(Str.ofString "default",d)]⟩=pure [none,some d]from rfl) ?_)
 refine wpAny_bind (wpAny_pure ?_)
 refine wpAny_bind (wpAny_mono h (λit s₂ h₂=>?_) λ_ _ e=>e)
 obtain⟨I,fp,wr,n,P,St,bt,rfl,W,st,below,cmp,q0,q1⟩:=h₂
 refine wpAny_bind (wpAny_newObj_type ?_)
 have off:s₂.heap.objs.size∉fp:=λhm=>Nat.lt_irrefl _ (below _ hm)
 rw[nm]
 by_cases z:n=0
 ·subst z
  exact wpAny_pure ⟨plainId_quiet F.plain_max_loop _,mx_none W _ _ d [] (W.frame _ _ _ st λb _ o e=>Heap.get?_push_of_some _ e) (Heap.get?_push_size _ rfl) λg tk keeps=>q0 rfl g tk λb o bw e=>keeps b o bw (Heap.get?_push_of_some _ e)⟩
 ·refine wpAny_pure ⟨plainId_quiet F.plain_max_loop _,mx_first W bt cmp _ off _ (Nat.pos_of_ne_zero z) (W.frame _ _ _ st λb _ o e=>Heap.get?_push_of_some _ e) (Heap.get?_push_size _ rfl) λv g tk pv keeps=>?_⟩
  exact q1 (Nat.pos_of_ne_zero z) v g tk pv λb o bw e=>keeps b o bw (Nat.ne_of_lt (Heap.lt_size e)) (Heap.get?_push_of_some _ e)
end
section
variable {prog:Program} {w:World} {A:Around} {E:Value->Shared->Prop} {s:Shared} {l:Addr} {d:Value} {Q:Value->Shared->Prop}
theorem mx_ints(xs:Array (Int×Tok))(hh:A.handled=none)(hl:s.heap.IsList l (intItems xs))
  (q0:xs.size=0->∀g tk,(∀b o,s.heap.get? b=some o->g.get? b=some o)->Q d { s with heap:=g,toks:=tk })
  (q1:0<xs.size->∀v g tk,(intItems xs)[argBest (λi j=>decide (numAt xs i>numAt xs j)) (xs.size-1)]?=some v->(∀b o,s.heap.get? b=some o->g.get? b=some o)->Q v { s with heap:=g,toks:=tk }):
  wpAny (model prog w) A (call (.builtin "max") [.ref l] [(Str.ofString "default",d)]) Q E s:=by
 refine mx_walk (iter_intList hl λs₂ e st below ne=>?_)
 subst e
 have sz:(intItems xs).size=xs.size:=by simp[intItems]
 refine⟨_,_,_,_,_,_,_,rfl,Walks.list (A:=A.in1) hh _ l ne (intItems xs),st,below,CmpOf.ints_gt (numAt xs) (λ_ _=>intItems_at),λz g tk k=>q0 (sz▸z) g tk (old_kept k),λz v g tk pv k=>?_⟩
 rw[sz]at z pv
 exact q1 z v g tk pv (old_kept k)
end
end My
end
section
namespace PM
open PySem PySem.W PySem.Calls PyProof.Rows PyProof PyProof.Rows.LCg PyProof.Rows.LCp
variable{prog:Program}{w:World}{G:Cx}
theorem ZhG(bt:Nat->Nat->Bool): ∀j:Nat,argBest bt j<=j
 | 0=>Nat.le_refl _
 | j+1=>by
  have:=ZhG bt j
  simp only[argBest];split <;> lia
theorem Zhn{W:Wd}: ∀{vs:List V} {xs:List Value} {ks:List Int},VRs W vs xs->Za7 vs=some ks->∃ts:List (Int×Tok),xs=ts.map (λp=>Value.int p.1 p.2)/\ts.map (·.1)=ks
 | [],_,_,h,e=>by cases h;cases e;exact⟨[],rfl,rfl⟩
 | v::vs,xs,ks,h,e=>by
  cases h with
  | cons a b=>
   cases a <;> simp only[Za7]at e <;> try cases e
   obtain⟨ks',e1,e2⟩:=Zz1.mp e
   obtain⟨ts,h1,h2⟩:=Zhn b e1
   exact⟨(_,_)::ts,by rw[h1];rfl,by simp[h2,<-e2]⟩
def Zf7: List V->Hp->Option (V×Hp)
 | [.ref a],H=>H[a]?.bind λvs=>(Za7 vs).map λks=>(.int (ks.max?.getD 0),H)
 | _,_=>none
theorem ZiP(f:Nat->Int)(j:Nat): ∀i:Nat,i<=j->f i<=f (argBest (λa b=>decide (f a>f b)) j):=by
 induction j with
 | zero=>
  intro i h
  have:i=0:=by lia
  subst this
  exact Int.le_refl _
 | succ j ih=>
  intro i h
  simp only[argBest]
  split
  ·rename_i c
   have c:=of_decide_eq_true c
   rcases Nat.lt_or_ge j i with h1 | h1
   ·have:i=j+1:=by lia
    subst this
    exact Int.le_refl _
   ·have:=ih i h1
    omega
  ·rename_i c
   have c:¬f (j+1)>f (argBest (λa b=>decide (f a>f b)) j):=λq=>c (decide_eq_true q)
   rcases Nat.lt_or_ge j i with h1 | h1
   ·have:i=j+1:=by omega
    subst this
    omega
   ·exact ih i h1
theorem ZpM{x:Str}{np pos kp p2:Pos}{n2:Nat}{e1:Expr}{f:Ex}(hn:Nm prog w G x (.builtin "max"))(h1:J prog w G e1 f)
  (he:backTo pos (starEach [e1] G.env)=(false,eval e1 G.env)::backTo pos (starEach [] G.env):=by rfl) (he2:starEach [e1] G.env=(false,eval e1 G.env)::starEach [] G.env:=by rfl)
  (hp:(backTo pos (starEach [e1] G.env)).any (·.1)=false:=by rfl):
  J prog w G (.Call (.Name x np) [e1] [⟨some (Str.ofString "default"),.Constant (.int 0) n2 p2,kp⟩] pos) (Zg Zf7 (Zb f Ze)):=by
 intro W O H fr s Q E v H' r hf post
 obtain⟨p,a1,hf⟩:=Zz0.mp hf
 obtain⟨p1,b1,b2⟩:=Zz0.mp a1
 obtain⟨u1,H1⟩:=p1
 cases b2
 simp only at hf
 refine wpAny_Call_ofName (hn.use r ?_)
 refine callWith_kw (wpAny_items_cons (h1 W O H fr s _ E _ _ r b1 λW1 k1 t1 y1 l1 r1 v1=>wpAny_items_nil ?_) he2) he hp rfl rfl
 refine kws_cons (wpAny_Constant_int (kws_nil ?_))
 show wpAny (model prog w) G.A (call (.builtin "max") [y1] [(Str.ofString "default",.int 0 _)]) Q E _
 unfold Zf7 at hf
 split at hf
 ·rename_i a b heq
  cases heq
  obtain⟨vs,e1,e2⟩:=Zz0.mp hf
  obtain⟨ks,e3,e4⟩:=Zz1.mp e2
  cases e4
  cases v1 with
  | ref ea=>
   obtain⟨hl,ys,k,hg,hv⟩:=r1.at e1 ea
   obtain⟨ts,g1,g2⟩:=Zhn hv e3
   have isl:k1.IsList _ (intItems ts.toArray):=⟨_,hg,rfl,k,by rw[g1];simp[intItems]⟩
   have nums:∀i (hi:i<ts.length),numAt ts.toArray i=ts[i].1:=λi hi=>by simp[numAt,hi]
   refine My.mx_ints ts.toArray G.hh isl (λz g tk up=>?_) λz v' g tk pv up=>?_
   ·have:ks=[]:=by
     have z:ts.length=0:=by simpa using z
     have:ts=[]:=List.length_eq_zero_iff.mp z
     subst this;exact g2.symm
    subst this
    exact post W1 g tk _ l1 (r1.grown up) (.int _ _)
   ·have z:0<ts.length:=by simpa using z
    have hb:=ZhG (λi j=>decide (numAt ts.toArray i>numAt ts.toArray j)) (ts.toArray.size-1)
    have hlow:=ZiP (numAt ts.toArray) (ts.toArray.size-1)
    generalize argBest (λi j=>decide (numAt ts.toArray i>numAt ts.toArray j)) (ts.toArray.size-1)=b at hb hlow pv
    have hb':b<ts.length:=by simp at hb;omega
    have ev:v'=Value.int ts[b].1 ts[b].2:=by
     have:(intItems ts.toArray)[b]?=some (Value.int ts[b].1 ts[b].2):=by simp[intItems,hb']
     rw[this]at pv;exact(Option.some.inj pv).symm
    have hm:ks.max? = some ts[b].1:=by
     rw[List.max?_eq_some_iff]
     refine⟨by rw[<-g2];exact Zz11.mpr ⟨ts[b],List.getElem_mem _,rfl⟩,λc hc=>?_⟩
     rw[<-g2]at hc
     obtain⟨q,hq,rfl⟩:=Zz11.mp hc
     obtain⟨i,hi,rfl⟩:=List.getElem_of_mem hq
     have:=hlow i (by simp;lia)
     rw[nums i hi,nums b hb']at this
     exact this
    subst ev
    exact post W1 g tk _ l1 (r1.grown up) (by rw[hm];exact .int _ _)
 ·first|exact Yx0 hf|cases hf
end PM
end
section
namespace PM
open PySem PySem.W PySem.Calls PyProof.Rows PyProof PyProof.Rows.LCg PySem.SeqAt
open SeqRoads2 MeetsSeq3 MeetsSeq2 MeetsSeq AutoSeq1
variable{prog:Program}{w:World}{G:Cx}
def Zfv: V->V->Hp->Option (V×Hp)
 | .ref a,.ref b,H=>H[a]?.bind λvs=>H[b]?.bind λus=>if a≠0/\a≠b/\vs.length+us.length<=ZK then some (.none,H.set a (vs++us))else none
 | _,_,_=>none
def Zfw(o f:Ex): Ex:=λO H=>(o O H).bind λp=>(f O p.2).bind λq=>Zfv p.1 q.1 q.2
theorem ZlQ{a b x:V}{H K:Hp}(h:Zfv a b H=some (x,K)): ∃i j vs us,a=.ref i/\b=.ref j/\H[i]?=some vs/\H[j]?=some us/\i≠0/\i≠j/\vs.length+us.length<=ZK/\x=.none/\K=H.set i (vs++us):=by
 unfold Zfv at h
 split at h
 ·obtain⟨vs,e1,h⟩:=Zz0.mp h
  obtain⟨us,e2,h⟩:=Zz0.mp h
  split at h
  ·rename_i q
   cases h
   exact⟨_,_,vs,us,rfl,rfl,e1,e2,q.1,q.2.1,q.2.2,rfl,rfl⟩
  ·first|exact Yx0 h|cases h
 ·first|exact Yx0 h|cases h
theorem J.extend{o e1:Expr}{apos pos:Pos}{f g:Ex}(ho:J prog w G o f)(h1:J prog w G e1 g)(hbase:attributeBase o "extend" G.env (eval o G.env)=eval o G.env:=by rfl)
  (hline:(apos.endLine == pos.line)=true:=by rfl) (htrees:backTo pos (starEach [e1] G.env)=[(false,eval e1 G.env)]:=by rfl):J prog w G (.Call (.Attribute o "extend" apos) [e1] [] pos) (Zfw f g):=by
 intro W O H fr s Q E v H' r hx post
 obtain⟨p,x1,hx⟩:=Zz0.mp hx
 obtain⟨q,x2,x3⟩:=Zz0.mp hx
 obtain⟨i,j,vs,us,ea,eb,hvs,hus,i0,ij,hl,er,eK⟩:=ZlQ x3
 refine wpAny_Call_method1_late hbase hline htrees (ho W O H fr s _ E _ _ r x1 λW1 k1 t1 x l1 r1 y1=>?_)
 rw[ea]at y1
 have hin:=r1.refIn y1
 cases y1 with
 | @ref _ a aa=>
 obtain⟨_,xs,n,hg,hv⟩:=r1.at (Yy1 hin) aa
 refine⟨"list","list.extend",PySem.F.plainAttrs_list,PySem.F.slot_list_extend,PySem.F.type_list_extend,(show k1.IsList a xs.toArray from⟨_,hg,rfl,n,rfl⟩).typeIs,λb eb=>by cases eb;exact⟨_,hg,rfl⟩,?_⟩
 refine Calls.callWith_builtin rfl (Calls.evalArgs_plain (Calls.spliced_cons ?_))
 refine h1 W1 O _ fr _ _ E _ _ r1 x2 λW2 k2 t2 y l2 r2 y2=>Calls.spliced_nil ?_
 rw[eb]at y2
 cases y2 with
 | @ref _ b bb=>
 obtain⟨hl2,xs2,n2,hg2,hv2⟩:=r2.at hvs (l2.at aa)
 obtain⟨hl3,xs3,n3,hg3,hv3⟩:=r2.at hus bb
 have z2:=hv2.length
 have z3:=hv3.length
 rw[ZC]at hl hl2 hl3
 have szl:sizeLine=2 ^ 24:=rfl
 refine call_meets PySem.F.slot_list_extend ⟨_,hg2,rfl⟩ PySem.F.entry_list_extend (PySem.F.args_list_extend_2 _ _) (list_extend_list_list_0 a xs2.toArray n2 b xs3.toArray n3 ?_ (by rw[List.size_toArray,szl];lia) (by rw[List.size_toArray,List.size_toArray,szl];lia)) ⟨hg2,hg3,?_⟩
 ·simp only[Builtin.List.listTooLong,List.size_toArray]
  simp
  intro _
  lia
 ·obtain⟨c2,hc2⟩:∃c2,(k2.update a (Obj.mapSeq λx=>x++xs3.toArray)).get? a=some (ZaA (xs2++xs3) c2):=⟨_,by rw[get?_update_seq hg2 λx=>x++xs3.toArray];simp[ZaA];rfl⟩
  cases er
  have sb:=Heap.SameBut.update k2 a (Obj.mapSeq λx=>x++xs3.toArray)
  rw[eK]at post
  exact post W2 _ t2 .none (l1.trans l2) (r2.change i0 hvs (l2.at aa) sb hc2 (hv2.append hv3) (by rw[List.length_append,ZC];omega)) .none
end PM
end
section
namespace PM
open PySem PySem.W PySem.Calls PyProof.Rows PyProof PyProof.Rows.LCg
variable{O:Lc}{f:Ex}{c:Ts}{y:Value}{elt iter:Expr}{x₃:Str}{px₂ px₃ pos:Pos}{kt t₂ t₃:Nat}{ifs:List Expr}{scope:Scope}{cl:List (Str×Addr)}{g:Src}{fr:List (Addr×Obj)}{s:Shared}{E:Value->Shared->Prop}{q:List V×Hp}
variable{prog:Program}{w:World}{G:Cx}
def ZdS(i j k:Nat): V->Lc->Option Lc
 | .tup [a,b,c],O=>some (Zi (Zi (Zi O i a) j b) k c)
 | _,_=>none
theorem ZmD{i j k:Nat}{v:V}{U:Lc}(h:ZdS i j k v O=some U): ∃a b c,v=.tup [a,b,c]/\U=Zi (Zi (Zi O i a) j b) k c:=by
 unfold ZdS at h
 split at h
 ·cases h;exact⟨_,_,_,rfl,rfl⟩
 ·first|exact Yx0 h|cases h
def Zgg(f:Ex): Src:=λO H=>(f O H).bind λp=>match p.1 with
 | .ref a=>p.2[a]?.map λvs=>(ZH a,vs.length+1,p.2)
 | _=>none
def ZqQ(prog:Program)(w:World)(G:Cx)(it:Value)(It:Nat->List (Addr×Obj)->Prop): Prop:=∀(i:Nat) (W:Wd) (O:Lc) (H:Hp) (fr fs:List (Addr×Obj)) (s:Shared) (Q:Unit->Shared->Prop) (E:Value->Shared->Prop) (elts:List Expr) (x1:Nat) (tp:Pos) (T:Addr),Rep G W O H (fs++fr) s.heap->It i fs->Q () s->wpAny (model prog w) G.A (letOwnedTupleGo (.Tuple elts x1 tp) it (.ref T)) Q E s
def JIL(prog:Program)(w:World)(G:Cx)(e:Expr)(g:Src): Prop:=∀(W:Wd) (O:Lc) (H:Hp) (fr:List (Addr×Obj)) (s:Shared) (Q E:Value->Shared->Prop) (nx:Nx) (n:Nat) (H':Hp),
 Rep G W O H fr s.heap->g O H=some (nx,n,H') ->
 (∀(W':Wd) (h':Heap) (tk':Nat) (it:Value) (as:List Addr) (It:Nat->List (Addr×Obj)->Prop) (fs:List (Addr×Obj)),W.Le W'->It 0 fs->Rep G W' O H' (fs++fr) h'->(∀a∈as,∀t∈fr,a≠t.1)->Itr prog w G W' it as It nx->ZqQ prog w G it It->Q it { s with heap:=h',toks:=tk' }) ->
 wpAny (model prog w) G.A (eval e G.env) (λxv s₁=>wpAny (model prog w) G.A (pyIter xv) Q E s₁) E s
theorem JIL.seq{e:Expr}(h:J prog w G e f): JIL prog w G e (Zgg f):=by
 intro W O H fr s Q E nx n H' r hf post
 obtain⟨p,e1,hf⟩:=Zz0.mp hf
 refine h W O H fr s _ E _ _ r e1 λW1 k1 t1 x l1 r1 x1=>?_
 obtain⟨v,H1⟩:=p
 cases x1 with
 | none=>first|exact Yx0 hf|cases hf
 | bool _=>first|exact Yx0 hf|cases hf
 | int _ _=>first|exact Yx0 hf|cases hf
 | str _ _=>first|exact Yx0 hf|cases hf
 | obj _ _ _ _=>first|exact Yx0 hf|cases hf
 | tup _ _ _=>first|exact Yx0 hf|cases hf
 | @ref i0 a ea=>
  obtain⟨vs,e2,e3⟩:=Zz1.mp hf
  cases e3
  obtain⟨hl,xs,k,hg,hv⟩:=r1.at e2 ea
  have isl:k1.IsList a xs.toArray:=⟨_,hg,rfl,k,rfl⟩
  refine wpAny_pyIter_list isl ?_
  obtain⟨r2,ap⟩:=r1.more (fs:=[(k1.objs.size,{ cls:=.type "list_iterator",data:=.fields #[.ref a,.int 0 0] })]) (λb o e=>Heap.get?_push_of_some { cls:=.type "list_iterator",data:=.fields #[.ref a,.int 0 0] } e) (λq hq=>by rw[List.mem_singleton.mp hq];exact⟨Heap.get?_push_size _ rfl,Nat.le_refl _⟩)
  refine post W1 _ t1 _ [k1.objs.size] _ _ l1 ⟨_,rfl,?_⟩ r2 (λb hb t ht=>by rw[List.mem_singleton.mp hb];exact ap _ Zz5 t ht)
   (ZfI (λi ob=>ob.cls=.type "list_iterator"/\ob.data=.fields #[.ref a,.int i 0]) ?_ ?_) ?_
  ·intro i W O H fr ob s Q E o le r hp hn post
   obtain⟨us,eu,e4⟩:=Zz1.mp hn
   subst e4
   obtain⟨hl2,ys,k2,hg2,hv2⟩:=r.at eu (le.at ea)
   have g1:s.heap.IsListIter k1.objs.size a i:=⟨ob,r.frAt Zz5,hp.1,hp.2⟩
   have g2:s.heap.IsList a ys.toArray:=⟨_,hg2,rfl,k2,rfl⟩
   cases ev:us[i]? with
   | none=>
    rw[ev]at post
    have hi:ys.toArray[i]?=none:=by have:=List.getElem?_eq_none_iff.mp ev;rw[<-hv2.length]at this;simpa using this
    exact wpAny_pyNext_list_end G.hh g1 g2 hi λh' he'=>post h' s.toks λb o hb e=>he' b o hb e
   | some v=>
    rw[ev]at post
    obtain⟨y,hy,ry⟩:=hv2.at ev
    refine wpAny_pyNext_list_item g1 g2 (x:=y) (by simpa using hy) λh' hit' hs'=>?_
    obtain⟨ob',h1,h2,h3⟩:=hit'
    exact post ob' h' s.toks y ⟨h2,h3⟩ h1 (λb o hb e=>hs'.extBut b o hb e) ry
  ·intro i W O H fr ob s Q E le r hp q
   exact wpAny_pyIter_listiter (⟨ob,r.frAt Zz5,hp.1,hp.2⟩:s.heap.IsListIter k1.objs.size a i) q
  ·intro i W O H fr fs s Q E elts x1 tp T r hp q
   obtain⟨ob,rfl,hp⟩:=hp
   exact wpAny_letOwnedTupleGo_listiter (⟨ob,r.frAt (Zz4 _ Zz5),hp.1,hp.2⟩:s.heap.IsListIter k1.objs.size a i) q
  ·exact⟨rfl,rfl⟩
theorem VR.i3{W:Wd}{a b c:V}(r:VR W (.tup [a,b,c]) y): ∃T y1 y2 y3 n,y=.ref T/\(T,Zck [y1,y2,y3] n)∈W.tups/\VR W a y1/\VR W b y2/\VR W c y3:=by
 obtain⟨T,xs,n,e,hm,_,hs⟩:=r.itup
 cases hs with
 | cons w1 hs=>
 cases hs with
 | cons w2 hs=>
 cases hs with
 | cons w3 hs=>
 cases hs
 exact⟨T,_,_,_,n,e,hm,w1,w2,w3⟩
theorem Zl8{x a:Str}{px tp:Pos}{t:Nat}(hg:JIL prog w G iter g)(hel:∀C O,J prog w (Zav G scope cl C [(x,t),(a,t₂),(x₃,t₃)] O) elt f)(hif:∀C O,JF prog w (Zav G scope cl C [(x,t),(a,t₂),(x₃,t₃)] O) ifs c)
  (hcell:∀y∈scope.names,y.2≠.cell) (hkind:scope.kind=.function) (hx:scope.names.lookup x=some .local) (hx₂:scope.names.lookup a=some .local) (hx₃:scope.names.lookup x₃=some .local) (hxx:x≠a/\x≠x₃/\a≠x₃) (htt:t≠t₂/\t≠t₃/\t₂≠t₃)
  {W:Wd}  {H:Hp}     {RR:Value->Addr->Result->Shared->Prop} (r:Rep G W O H fr s.heap) (hf:((g O H).bind λz=>Zad z.1 (ZdS t t₂ t₃) c f O z.2.1 0 [] z.2.2)=some q)
  (hR:Zif G W O fr s q RR):
  wpAny (model prog w) G.A (eval iter G.env) (λxv s₁=>wpAny (model prog w) G.A (pyIter xv) (λit s₂=>wpAny (model prog w) G.A (newList []) (λacc s₃=>wpAny (model prog w) G.A (newFunctionEnv scope G.env.globals cl [] G.env.qual none .none (some G.env)) (λcenv s₄=>
   codeAny (model prog w) G.A (.compStart (.ListComp elt [⟨.Tuple [.Name x px,.Name a px₂,.Name x₃ px₃] kt tp,iter,ifs,0⟩] scope pos) 0 it acc { cenv with scope:=relabel scope G.env }) (RR acc cenv.locals) s₄) E s₃) E s₂) E s₁) E s:=by
 obtain⟨z,e1,e2⟩:=Zz0.mp hf
 obtain⟨nx,n,H0⟩:=z
 refine hg W O H fr s _ E nx n H0 r e1 λW1 k1 t1 itv as It fs l1 i1 r1 ap I1 lt1=>?_
 refine Zg1 (P:=λacc C e s₄=>codeAny (model prog w) G.A (.compStart (.ListComp elt [⟨.Tuple [.Name x px,.Name a px₂,.Name x₃ px₃] kt tp,iter,ifs,0⟩] scope pos) 0 itv acc e) (RR acc C) s₄) hcell hkind r1 (I1.adr 0 fs i1) λC D oC m h₂ t' z nC rC=>?_
 have loop:codeAny (model prog w) G.A (.compLoop (.ListComp elt [⟨.Tuple [.Name x px,.Name a px₂,.Name x₃ px₃] kt tp,iter,ifs,0⟩] scope pos) 0 itv (.ref D) (compEnvC scope cl C G.env)) (RR (.ref D) C) { s with heap:=h₂,toks:=t' }:=by
  refine codeAny_loop rfl (ZdQ G W1 O fr C D It nx (ZdS t t₂ t₃) c f q s) ?_ n ⟨W1,H0,h₂,_,0,fs,[],[],oC,_,rfl,.refl _,i1,nC,.nil,Nat.zero_le _,rC,e2⟩
  intro k s' q9;obtain⟨W2,H2,k2,t2,j,fs2,acc,ys,oC2,u,rfl,l2,i2,hC2,hv2,hl2,r2,e⟩:=q9
  cases k with
  | zero=>first|exact Yx0 e|cases e
  | succ k=>
   obtain⟨o,e4,e⟩:=Zz0.mp e
   refine wpAny_noted (m:=compTurn (.ListComp elt [⟨.Tuple [.Name x px,.Name a px₂,.Name x₃ px₃] kt tp,iter,ifs,0⟩] scope pos) 0 itv (.ref D) (compEnvC scope cl C G.env)) ?_
   rw[compTurn_list]
   refine wpAny_bind (wpAny_standAt (wpAny_bind (I1.next j W2 O H2 _ fs2 _ _ _ o l2 r2.sh1 (z.ap ap) i2 e4 ?_)))
   cases o with
   | none=>
    cases e
    intro h' tk' r3
    exact wpAny_pure (hR W2 h' tk' C D oC2 u ys (l1.trans l2) hC2 hv2 hl2 z.df z.cf z.cd r3)
   | some v=>
    intro fs3 k3 t3 y i3 r3 y3
    obtain⟨ρ3,e5,e⟩:=Zz0.mp e
    obtain⟨va,vb,vc,ev,eρ⟩:=ZmD e5
    rw[ev]at y3
    rw[eρ]at e
    obtain⟨T,y1,y2,y3',n3,ey,hm3,w1,w2,w3⟩:=y3.i3
    rw[ey]
    refine wpAny_bind (lt1 _ _ _ _ _ _ _ _ _ _ _ _ _ r3 i3 ?_)
    have htup:IsTup k3 T #[y1,y2,y3']:=⟨_,r3.tupAt hm3,rfl,n3,rfl⟩
    refine wpAny_bind ?_
    refine assign_Tuple_tuple (s:={ s with heap:=k3,toks:=t3 }) G.hh htup rfl rfl λg₄ he=>?_
    have r3g:=r3.grown (h':=g₄) λb o e=>he b o (Nat.ne_of_lt (Heap.lt_size e)) e
    refine assignInOrder_cons (wpAny_assign_Name (wpAny_storeName_local (lookup_relabel_local hx) (hC2.ns (r3g.frAt (q:=(C,oC2)) (Zz3 _ Zz5))) (λh5 hn5 sb5=>?_) (by simp[compEnvC,relabel,hkind])))
    refine assignInOrder_cons (wpAny_assign_Name (wpAny_storeName_local (lookup_relabel_local hx₂) hn5 (λh6 hn6 sb6=>?_) (by simp[compEnvC,relabel,hkind])))
    refine assignInOrder_cons (wpAny_assign_Name (wpAny_storeName_local (lookup_relabel_local hx₃) hn6 (λh4 hn4 sb4=>?_) (by simp[compEnvC,relabel,hkind])))
    refine assignInOrder_nil ?_
    obtain⟨oC4,nC4,r4,aC3,aD3⟩:=Zhi z (I1.adr _ _ i3) r3g hn4 λb o hb e=>sb4.extBut b o hb (sb6.extBut b o hb (sb5.extBut b o hb e))
    refine wpAny_bind (wpAny_mono (Zi7 (hel C O) (hif C O) ⟨h4,_,rfl⟩ aC3 aD3 l2 i3 nC4 hv2 hl2 r4 (λp hp=>?_) (λi hi=>?_) e) (λb s5 h5=>?_) λ_ _ q=>q)
    rotate_left 2
    ·by_cases hb:b=true
     ·subst hb
      rw[if_pos rfl]at h5 ⊢
      refine wpAny_bind (wpAny_bind (wpAny_mono h5 (λy s6 h6=>?_) λ_ _ q=>q))
      exact wpAny_bind (wpAny_mono h6 (λ_ s7 h7=>wpAny_pure (wpAny_pure ⟨rfl,h7⟩)) λ_ _ q=>q)
     ·rw[if_neg hb]at h5 ⊢
      exact wpAny_pure ⟨rfl,h5⟩
    ·simp only[List.mem_cons,List.not_mem_nil,or_false]at hp
     rcases hp with rfl | rfl | rfl
     ·exact⟨va,y1,by simp[Zi,htt.1,htt.2.1],by simp[hxx.1,hxx.2.1],w1⟩
     ·exact⟨vb,y2,by simp[Zi,htt.2.2],by simp[hxx.2.2],w2⟩
     ·exact⟨vc,y3',by simp[Zi],.s,w3⟩
    ·have h1:i≠t:=λe=>hi (x,t) .s e.symm
     have h2:i≠t₂:=λe=>hi (a,t₂) .s e.symm
     have h3:i≠t₃:=λe=>hi (x₃,t₃) .s e.symm
     simp[Zi,h1,h2,h3]
 exact codeAny_compStart_list loop (I1.self 0 W1 O H0 _ fs _ _ _ (.refl _) rC.sh1 i1 loop)
theorem Zol{x a:Str}{px tp:Pos}{t:Nat}(hg:JIL prog w G iter g)(hel:∀C O,J prog w (Zav G scope cl C [(x,t),(a,t₂),(x₃,t₃)] O) elt f)(hif:∀C O,JF prog w (Zav G scope cl C [(x,t),(a,t₂),(x₃,t₃)] O) ifs c)
  (hclos:closureFor scope G.env=pure cl) (hcell:∀y∈scope.names,y.2≠.cell) (hkind:scope.kind=.function) (hnames:∀y∈scope.names,y.2=.local->scope.names.lookup y.1=some .local) (hx:scope.names.lookup x=some .local) (hx₂:scope.names.lookup a=some .local) (hx₃:scope.names.lookup x₃=some .local) (hxx:x≠a/\x≠x₃/\a≠x₃) (htt:t≠t₂/\t≠t₃/\t₂≠t₃) (hs:∀x,foldedSetIterable iter G.env x=pure x:=by intro _;rfl):
  J prog w G (.ListComp elt [⟨.Tuple [.Name x px,.Name a px₂,.Name x₃ px₃] kt tp,iter,ifs,0⟩] scope pos) (Z5 g (ZdS t t₂ t₃) c f):=by
 intro W O H fr s Q E v H' r hf post
 obtain⟨z,e1,hf⟩:=Zz0.mp hf
 obtain⟨q,e2,e3⟩:=Zz1.mp hf
 cases e3
 rw[eval_ListComp]
 refine wpAny_comprehension_free (use:=Option.none) rfl hs hclos hkind hnames ?_
 refine Zl8 (RR:=λacc C=>compPost (model prog w) G.A E Option.none Q acc C) hg hel hif hcell hkind hx hx₂ hx₃ hxx htt r (q:=q) (by rw[e1];exact e2) λW2 h' tk' C D oC u ys l2 hC hv hl aD aC cd r3=>?_
 refine⟨u,hC.ns (r3.frAt (q:=(C,oC)) Zz5),λh'' sb=>?_⟩
 obtain⟨W5,l5,r5,v5⟩:=Zhj hv hl aD aC cd r3 sb
 exact post W5 h'' tk' _ (l2.trans l5) r5 v5
end PM
end
section
open PySem PySem.W PySem.Calls PyProof.Rows
namespace PM
variable{prog:Program}{w:World}{G:Cx}
theorem Zjd{e:Expr}{lo hi:Option Expr}{p pos:Pos}{f:Ex}{a b:Pt}(h:J prog w G e f)(hlo:JP prog w G lo a)(hhi:JP prog w G hi b)(hs:∀a c,subscripted (.Slice lo hi Option.none p) false (.ref a) (.ref c)=operate [.ref c,.ref a] (getItem (.ref a) (.ref c)):=by intros;with_unfolding_all rfl): J prog w G (.Subscript e (.Slice lo hi Option.none p) pos) (Zag f a b):=by
 intro W O H fr s Q E v H' r hf post
 obtain⟨p,e1,hf⟩:=Zz0.mp hf
 obtain⟨q,e2,hf⟩:=Zz0.mp hf
 obtain⟨u,e3,hf⟩:=Zz0.mp hf
 obtain⟨ka,e4,hf⟩:=Zz0.mp hf
 obtain⟨kb,e5,hf⟩:=Zz0.mp hf
 refine Subscript_ (h W O H fr s _ E _ _ r e1 λW1 k1 t1 x l1 r1 x1=>?_)
 refine wpAny_Slice (hlo W1 O _ fr _ _ E _ _ r1 e2 λW2 k2 t2 y l2 r2 y2=>?_)
 refine hhi W2 O _ fr _ _ E _ _ r2 e3 λW3 k3 t3 z l3 r3 z3=>?_
 have x3:=x1.mono (l2.trans l3)
 obtain⟨v1,H1⟩:=p
 simp only at hf x3
 cases x3 with
 | none=>first|exact Yx0 hf|cases hf
 | bool _=>first|exact Yx0 hf|cases hf
 | int _ _=>first|exact Yx0 hf|cases hf
 | str _ _=>first|exact Yx0 hf|cases hf
 | tup _ _ _=>first|exact Yx0 hf|cases hf
 | obj _ _ _ _=>first|exact Yx0 hf|cases hf
 | @ref i a ea=>
  obtain⟨vs,hvs,e6⟩:=Zz0.mp hf
  cases e6
  obtain⟨hl,xs,kk,hg,hv⟩:=r3.at hvs ea
  have isl:k3.IsList a xs.toArray:=⟨_,hg,rfl,kk,rfl⟩
  have hp:VRs W3 (ZaU vs ka kb) (ZaU xs ka kb):=by
   unfold ZaU
   rw[hv.length]
   exact hv.pick _
  have hx:slicePick xs.toArray ka kb Option.none=(ZaU xs ka kb).toArray:=by
   unfold slicePick ZaU
   simp
  obtain⟨W4,l4,r4,v4⟩:=(r3.push { cls:=.type "slice",data:=.fields #[y,z,.none] }).list (k:=0) hp (Nat.le_trans (Zi3 vs ka kb) hl)
  have hQ:=post W4 _ t3 _ (((l1.trans l2).trans l3).trans l4) r4 v4
  rw[evalPart_none]
  refine wpAny_pure (kba_turn (value':=.Name (Str.ofString "_") ⟨0,0,0,0⟩) (λ_=>rfl) ?_)
  refine subscriptTail_ops (T:="list") ((isl.push _).typeIs) list_getitem_lookup ?_ (hs _ _) (λ_=>rfl)
  refine wpAny_getItem_list_slice (isl.push _) (Heap.IsSliceOf.new ..) ((y2.mono l3).part e4) (z3.part e5) .none .s ?_ (Zbr (by simp[hv.length];exact hl))
  rw[hx]
  exact hQ
end PM
end
section
namespace PM
open PySem PySem.W PySem.Calls PyProof.Rows PyProof
noncomputable def ZdL: List V->Hp->Option (V×Hp)
 | [.bool b],H=>some (.int (if b then 1 else 0),H)
 | [.int i],H=>some (.int i,H)
 | _,_=>none
theorem ZhH{prog:Program}{w:World}: OpN prog w (λxs=>call (.type "int") xs) ZdL:=by
 intro G W O H fr s Q E as xs v H' r hx ho post
 unfold ZdL at ho
 split at ho
 ·first|exact Yx0 ho|cases ho
  obtain⟨x,rfl,rx⟩:=hx.one
  cases rx with
  | bool b=>exact call_int_bool (post W s.heap _ _ (.refl W) r (.int _ _))
 ·first|exact Yx0 ho|cases ho
  obtain⟨x,rfl,rx⟩:=hx.one
  cases rx with
  | int i t=>exact call_int_int (post W s.heap s.toks _ (.refl W) r (.int _ _))
 ·first|exact Yx0 ho|cases ho
end PM
end
section
namespace PM
open PySem PySem.W PySem.Calls PyProof.Rows PyProof PyProof.Rows.LCg PySem.SeqAt
variable{prog:Program}{w:World}{G:Cx}
noncomputable def Zgh: V->Hp->Option (V×Hp)
 | .ref a,H=>H[a]?.bind λvs=>vs.getLast?.bind λv=>if a≠0 then some (v,H.set a vs.dropLast)else none
 | _,_=>none
def Zdq(o:Ex): Ex:=λO H=>(o O H).bind λp=>Zgh p.1 p.2
section
variable {prog:Program} {w:World} {A:Around} {E:Value->Shared->Prop} {s:Shared}
theorem Znf{a:Addr}{us:List Value}{x:Value}{k:Nat}{Q:Value->Shared->Prop}(g:s.heap.get? a=some (ZaA (us++[x]) k))(hz:us.length+1<=sizeLine)
  (post:∀h' j,Heap.SameBut a s.heap h'->h'.get? a=some (ZaA us j)->Q x { s with heap:=h' }):wpAny (model prog w) A (call (.builtin "list.pop") [.ref a]) Q E s:=by
 refine wpAny_call_entry PySem.F.slot_list_pop ⟨_,g,rfl⟩ PySem.F.entry_list_pop ?_ (PySem.F.args_list_pop_1 _)
 unfold Builtin.«list.pop»
 refine wpAny_bind (m:=selfAndSome _ _ _ _ _) (wpAny_pure ?_)
 dsimp only
 refine wpAny_bind (wpAny_pure ?_)
 rw[if_neg .d]
 refine wpAny_bind (listItems_at g rfl ?_)
 rw[if_neg .s]
 have at_last:(seqIndex? (-1) (us++[x]).toArray.size).bind (λk=>(us++[x]).toArray[k]?.map (k,·))=some (us.length,x):=by
  have:seqIndex? (-1) (us++[x]).toArray.size=some us.length:=by
   rw[List.size_toArray,List.length_append,List.length_singleton]
   unfold seqIndex?
   simp
   lia
  rw[this]
  simp
 rw[at_last]
 dsimp only
 have cut:((us++[x]).toArray.eraseIdxIfInBounds us.length)=us.toArray:=by
  simp
  rw[List.eraseIdx_append_of_length_le (Zz10 _)]
  simp
 have g':=get?_update_seq g (·.eraseIdxIfInBounds us.length)
 rw[cut]at g'
 refine wpAny_bind (listUpdate_at g rfl (wpAny_pure ⟨_,rfl,post _ _ (Heap.SameBut.update ..) g'⟩) ?_ ?_)
 ·rw[List.size_toArray,List.length_append];simpa using hz
 ·rw[cut,List.size_toArray]
  lia
end
theorem VRs.split_last{W:Wd}: ∀{vs:List V} {v:V} {xs:List Value},VRs W (vs++[v]) xs->∃us x,xs=us++[x]/\VRs W vs us/\VR W v x
 | [],v,xs,h=>by
  obtain⟨x,rfl,r⟩:=h.one
  exact⟨[],x,rfl,.nil,r⟩
 | a::vs,v,xs,h=>by
  cases h with
  | cons h1 h2=>
   obtain⟨us,x,rfl,r1,r2⟩:=h2.split_last
   exact⟨_::us,x,rfl,.cons h1 r1,r2⟩
theorem J.pop{o:Expr}{apos pos:Pos}{f:Ex}(ho:J prog w G o f)(hbase:attributeBase o "pop" G.env (eval o G.env)=eval o G.env:=by rfl)
  (hline:(apos.endLine == pos.line)=true:=by rfl):J prog w G (.Call (.Attribute o "pop" apos) [] [] pos) (Zdq f):=by
 intro W O H fr s Q E v H' r hx post
 obtain⟨p,x1,hx⟩:=Zz0.mp hx
 obtain⟨u,H1⟩:=p
 unfold Zgh at hx
 dsimp only at hx
 split at hx
 ·rename_i i _ _
  obtain⟨vs,hvs,hx⟩:=Zz0.mp hx
  obtain⟨l,hl,hx⟩:=Zz0.mp hx
  split at hx
  ·rename_i i0
   cases hx
   obtain⟨ws,rfl⟩:∃ws,vs=ws++[v]:=List.getLast?_eq_some_iff.mp hl
   rw[List.dropLast_concat]at post
   refine wpAny_Call_method0_late hbase hline (ho W O H fr s _ E _ _ r x1 λW1 k1 t1 x l1 r1 y1=>?_)
   cases y1 with
   | @ref _ a aa=>
    obtain⟨hlen,xs,n,hg,hv⟩:=r1.at hvs aa
    obtain⟨us,y,rfl,v1,v2⟩:=hv.split_last
    refine⟨"list","list.pop",PySem.F.plainAttrs_list,PySem.F.slot_list_pop,PySem.F.type_list_pop,(show k1.IsList a (us++[y]).toArray from⟨_,hg,rfl,n,rfl⟩).typeIs,λb eb=>by cases eb;exact⟨_,hg,rfl⟩,?_⟩
    refine Calls.callWith_builtin rfl (wpAny_of_eq (a:=⟨[],[]⟩) rfl ?_)
    have le:us.length+1<=100000:=by
     have:=v1.length
     rw[List.length_append,List.length_singleton,ZC]at hlen
     lia
    refine Znf (s:={ s with heap:=k1,toks:=t1 }) hg (by rw[sizeLine_eq];lia) λh' j sb g'=>?_
    exact post W1 h' t1 y l1 (r1.change i0 hvs aa sb g' v1 (by rw[ZC];have:=v1.length;lia)) v2
  ·first|exact Yx0 hx|cases hx
 ·first|exact Yx0 hx|cases hx
end PM
end
section
namespace PM
open PySem PySem.W PySem.Calls PyProof.Rows PyProof PyProof.Rows.LCg PySem.SeqAt
open SeqRoads2 MeetsSeq3 MeetsSeq2 MeetsSeq AutoSeq1
variable{prog:Program}{w:World}{G:Cx}
def Zf8: V->V->V->Hp->Option (V×Hp)
 | .ref a,.int 0,v,H=>H[a]?.bind λvs=>if a≠0/\vs.length<ZK then some (.none,H.set a (v::vs))else none
 | _,_,_,_=>none
def ZcS(o i f:Ex): Ex:=λO H=>(o O H).bind λp=>(i O p.2).bind λk=>(f O k.2).bind λq=>Zf8 p.1 k.1 q.1 q.2
theorem Zl9{a k b x:V}{H K:Hp}(h:Zf8 a k b H=some (x,K)): ∃i vs,a=.ref i/\k=.int 0/\H[i]?=some vs/\i≠0/\vs.length<ZK/\x=.none/\K=H.set i (b::vs):=by
 unfold Zf8 at h
 split at h
 ·obtain⟨vs,e1,h⟩:=Zz0.mp h
  split at h
  ·rename_i q
   cases h
   exact⟨_,vs,rfl,rfl,e1,q.1,q.2,rfl,rfl⟩
  ·first|exact Yx0 h|cases h
 ·first|exact Yx0 h|cases h
theorem ZpN{o e1 e2:Expr}{apos pos:Pos}{f g k:Ex}(ho:J prog w G o f)(h1:J prog w G e1 g)(h2:J prog w G e2 k)(hbase:attributeBase o "insert" G.env (eval o G.env)=eval o G.env:=by rfl)
  (hline:(apos.endLine == pos.line)=true:=by rfl) (htrees:backTo pos (starEach [e1,e2] G.env)=[(false,eval e1 G.env),(false,eval e2 G.env)]:=by rfl):J prog w G (.Call (.Attribute o "insert" apos) [e1,e2] [] pos) (ZcS f g k):=by
 intro W O H fr s Q E v H' r hx post
 obtain⟨p,x1,hx⟩:=Zz0.mp hx
 obtain⟨q,x2,hx⟩:=Zz0.mp hx
 obtain⟨u,x3,x4⟩:=Zz0.mp hx
 obtain⟨i,vs,ea,eb,hvs,i0,hl,er,eK⟩:=Zl9 x4
 refine wpAny_Call_method2_late hbase hline htrees (ho W O H fr s _ E _ _ r x1 λW1 k1 t1 x l1 r1 y1=>?_)
 rw[ea]at y1
 have hin:=r1.refIn y1
 cases y1 with
 | @ref _ a aa=>
 obtain⟨_,xs,n,hg,hv⟩:=r1.at (Yy1 hin) aa
 refine⟨"list","list.insert",PySem.F.plainAttrs_list,PySem.F.slot_list_insert,PySem.F.type_list_insert,(show k1.IsList a xs.toArray from⟨_,hg,rfl,n,rfl⟩).typeIs,λb eb=>by cases eb;exact⟨_,hg,rfl⟩,?_⟩
 refine Calls.callWith_builtin rfl (Calls.evalArgs_plain (Calls.spliced_cons ?_))
 refine h1 W1 O _ fr _ _ E _ _ r1 x2 λW2 k2 t2 y l2 r2 y2=>Calls.spliced_cons ?_
 refine h2 W2 O _ fr _ _ E _ _ r2 x3 λW3 k3 t3 z l3 r3 z3=>Calls.spliced_nil ?_
 rw[eb]at y2
 cases y2 with
 | int _ ty=>
 obtain⟨hl2,xs2,n2,hg2,hv2⟩:=r3.at hvs (l3.at (l2.at aa))
 have z2:=hv2.length
 rw[ZC]at hl
 have szl:sizeLine=2 ^ 24:=rfl
 refine call_meets PySem.F.slot_list_insert ⟨_,hg2,rfl⟩ PySem.F.entry_list_insert (PySem.F.args_list_insert_3 _ _ _) (list_insert_list_int_val_1 a xs2.toArray n2 0 ty z .d (by rw[List.size_toArray,szl];lia)) ⟨hg2,?_⟩
 have ef:(λxs:Array Value=>have k:=if(0:Int)<0 then((0:Int)+(xs.size:Int)).toNat else min (0:Int).toNat xs.size;(xs.extract 0 k).push z++xs.extract k)=λxs=>#[z]++xs:=by
  funext xs
  simp
 obtain⟨c2,hc2⟩:∃c2,(k3.update a (Obj.mapSeq λxs=>#[z]++xs)).get? a=some (ZaA (z::xs2) c2):=⟨_,by rw[get?_update_seq hg2 λx=>#[z]++x];simp[ZaA];rfl⟩
 cases er
 have sb:=Heap.SameBut.update k3 a (Obj.mapSeq λxs=>#[z]++xs)
 rw[eK]at post
 have:=post W3 _ t3 .none ((l1.trans l2).trans l3) (r3.change i0 hvs (l3.at (l2.at aa)) sb hc2 (.cons z3 hv2) (by rw[List.length_cons,ZC];lia)) .none
 rw[ef]
 exact this
end PM
end
section
namespace PM
open PySem PySem.W PySem.Calls PyProof.Rows PyProof PyProof.Rows.LCg PyProof.Rows.LCp
variable{prog:Program}{w:World}{G:Cx}
def Zdo: List V->Hp->Option (V×Hp)
 | [.ref a],H=>H[a]?.bind λvs=>(Za7 vs).bind λks=>ks.max?.map λm=>(.int m,H)
 | _,_=>none
theorem Zom: OpN prog w (λxs=>call (.builtin "max") xs) Zdo:=by
 intro G W O H fr s Q E as xs v H' r hx ho post
 unfold Zdo at ho
 split at ho
 ·obtain⟨vs,e1,e2⟩:=Zz0.mp ho
  obtain⟨ks,e3,e2⟩:=Zz0.mp e2
  obtain⟨m,e5,e4⟩:=Zz1.mp e2
  cases e4
  obtain⟨x,ex,rx⟩:=hx.one
  subst ex
  cases rx with
  | ref ea=>
   obtain⟨hl,ys,k,hg,hv⟩:=r.at e1 ea
   obtain⟨ts,g1,g2⟩:=Zhn hv e3
   have isl:s.heap.IsList _ (intItems ts.toArray):=⟨_,hg,rfl,k,by rw[g1];simp[intItems]⟩
   have nums:∀i (hi:i<ts.length),numAt ts.toArray i=ts[i].1:=λi hi=>by simp[numAt,hi]
   have z:0<ts.length:=by
    cases ts with
    | nil=>rw[<-g2]at e5;simp at e5
    | cons t ts=>simp
   have sz:(intItems ts.toArray).size=ts.length:=by simp[intItems]
   refine call_max_walk (iter_intList isl λs₂ e st below ne=>?_)
   subst e
   refine⟨_,_,_,_,_,_,_,rfl,Walks.list (A:=G.A.in1) G.hh _ _ ne (intItems ts.toArray),st,below,by rw[sz];exact z,CmpOf.ints_gt (numAt ts.toArray) (λ_ _=>intItems_at),λv' g tk pv kp=>?_⟩
   have up:=old_kept kp
   rw[sz]at pv
   have hb:=ZhG (λi j=>decide (numAt ts.toArray i>numAt ts.toArray j)) (ts.length-1)
   have hlow:=ZiP (numAt ts.toArray) (ts.length-1)
   generalize argBest (λi j=>decide (numAt ts.toArray i>numAt ts.toArray j)) (ts.length-1)=b at hb hlow pv
   have hb':b<ts.length:=by lia
   have ev:v'=Value.int ts[b].1 ts[b].2:=by
    have:(intItems ts.toArray)[b]?=some (Value.int ts[b].1 ts[b].2):=by simp[intItems,hb']
    rw[this]at pv;exact(Option.some.inj pv).symm
   have hm:ks.max? = some ts[b].1:=by
    rw[List.max?_eq_some_iff]
    refine⟨by rw[<-g2];exact Zz11.mpr ⟨ts[b],List.getElem_mem _,rfl⟩,λc hc=>?_⟩
    rw[<-g2]at hc
    obtain⟨q,hq,rfl⟩:=Zz11.mp hc
    obtain⟨i,hi,rfl⟩:=List.getElem_of_mem hq
    have:=hlow i .l
    rw[nums i hi,nums b hb']at this
    exact this
   subst ev
   rw[hm]at e5
   cases e5
   exact post W g tk _ (.refl W) (r.grown up) (.int _ _)
 ·first|exact Yx0 ho|cases ho
end PM
end
section
namespace PM
open PySem PySem.W PySem.Calls PyProof.Rows PyProof
variable{sl:Addr}{k:Nat}{u:Tok}{Q:Int×Int×Nat->Shared->Prop}
variable{prog:Program}{w:World}{G:Cx}
noncomputable def eTo(f:Ex)(k:Nat): Ex:=λO H=>(f O H).bind λp=>match p.1 with
 | .tup vs=>if k<vs.length then some (.tup (vs.take k),p.2)else none
 | _=>none
section
variable {prog:Program} {w:World} {A:Around} {E:Value->Shared->Prop} {s:Shared}
theorem ZkP(k n:Nat)(h:k<=n): Builtin.Slice.sliceAdjust none (some (k:Int)) 1 (n:Int)=(0,(k:Int))/\Builtin.Slice.slicePlaces 0 (k:Int) 1=k:=by
 constructor
 ·unfold Builtin.Slice.sliceAdjust
  simp
  lia
 ·unfold Builtin.Slice.slicePlaces
  simp
  lia
theorem ZpO{n:Nat}(hs:s.heap.IsSliceOf sl .none (.int k u) .none)(hk:k<=n)(h:Q (0,1,k) s): wpAny (model prog w) A (Builtin.Slice.sliceApplied (.ref sl) (pure (n:Int))) Q E s:=by
 obtain⟨o,ho,_,hd⟩:=id hs
 unfold Builtin.Slice.sliceApplied Builtin.Slice.sliceFields
 have part0:∀{R:Value->Shared->Prop},R .none s->wpAny (model prog w) A (pure Value.none) R E s:=λh=>wpAny_pure h
 refine wpAny_bind (wpAny_bind ?_)
 refine wpAny_field ho hd (x:=.none) rfl (wpAny_bind ?_)
 refine wpAny_field ho hd (x:=.int k u) rfl (wpAny_bind ?_)
 refine wpAny_field ho hd (x:=.none) rfl (wpAny_pure (wpAny_bind (slicePart_none ?_)))
 show wpAny _ _ (ite (((1:Int) == 0)=true) _ _) _ _ s
 rw[if_neg .d]
 refine wpAny_bind (slicePart_none (wpAny_bind (slicePart_int (wpAny_bind (wpAny_pure ?_)))))
 show wpAny _ _ (match Builtin.Slice.sliceAdjust none (some (k:Int)) 1 (n:Int)with | (a,b)=>pure (a,(1:Int),Builtin.Slice.slicePlaces a b 1)) _ _ s
 rw[(ZkP k n hk).1]
 show wpAny _ _ (pure (0,(1:Int),Builtin.Slice.slicePlaces 0 (k:Int) 1)) _ _ s
 rw[(ZkP k n hk).2]
 exact wpAny_pure h
theorem ZmE(xs:Array Value)(k:Nat)(hk:k<=xs.size): ((List.range k).filterMap λ(j:Nat)=>xs[((0:Int)+(j:Int)*1).toNat]?).toArray=(xs.toList.take k).toArray:=by
 congr 1
 have e:(λ(j:Nat)=>xs[((0:Int)+(j:Int)*1).toNat]?)=λj=>xs.toList[j]?:=by
  funext j
  rw[show((0:Int)+(j:Int)*1).toNat=j by lia]
  simp
 rw[e]
 have:=Zi4 xs.toList 0 k (by simpa using hk)
 simpa using this
theorem ZmF{t:Addr}{items:Array Value}{Q:Value->Shared->Prop}(ht:IsTup s.heap t items)(hs:s.heap.IsSliceOf sl .none (.int k u) .none)(hk:k<items.size)(hz:items.size<=sizeLine)
  (h:Q (.ref s.heap.objs.size) { s with heap:=s.heap.push { cls:=.type "tuple",data:=.seq (items.toList.take k).toArray } }):wpAny (model prog w) A (getItem (.ref t) (.ref sl)) Q E s:=by
 have ok:sizeOk (.seq (items.toList.take k).toArray):=by
  show(items.toList.take k).toArray.size<=sizeLine
  rw[List.size_toArray,List.length_take,Array.length_toList]
  lia
 obtain⟨o,ho,hc,_⟩:=id hs
 have ts:s.TypeIs (.ref sl) "slice":=⟨o,ho,hc⟩
 unfold getItem
 try (refine wpAny_holding ?_)
 try (refine wpAny_bind (wpAny_pure ?_))
 apply wpAny_bind;apply wpAny_sequenceKey ht.typeIs .d
 apply wpAny_bind
 refine wpAny_callSpecial?_slot (name:=Str.ofString "__getitem__") ht.typeIs slot_tuple_getitem (wpAny_call_entry slot_tuple_getitem ht.typeIs entry_tuple_getitem ?_ (args_tuple_getitem _ _))
 show wpAny _ _ (Builtin.Tuple.tupleItemsOf (.ref t) >>= _) _ _ s
 refine wpAny_bind (tupleItemsOf_ ht (wpAny_bind (wpAny_typeOf ts ?_)))
 rw[if_pos .d]
 refine wpAny_bind (ZpO hs (Nat.le_of_lt hk) ?_)
 show wpAny _ _ (ite (((0:Int) == 0 && (1:Int) == 1 && k == items.size)=true) _ _) _ _ s
 rw[if_neg (by simp;lia),ZmE items k (Nat.le_of_lt hk)]
 exact wpAny_bind (m:=Builtin.Tuple.tupleExact _) (wpAny_newObj_type (wpAny_pure ⟨_,rfl,wpAny_pure h⟩) ok)
end
theorem Zh6{e hi:Expr}{p pos:Pos}{f:Ex}(h:J prog w G e f)(hhi:J prog w G hi (Zd k))(ht:∀o r,letTemporaryGo e o r=pure ():=by intro _ _;rfl): J prog w G (.Subscript e (.Slice Option.none (Option.some hi) Option.none p) pos) (eTo f k):=by
 intro W O H fr s Q E v H' r hf post
 obtain⟨⟨v1,H1⟩,e1,hf⟩:=Zz0.mp hf
 cases v1 with
 | none=>first|exact Yx0 hf|cases hf
 | bool _=>first|exact Yx0 hf|cases hf
 | int _=>first|exact Yx0 hf|cases hf
 | str _=>first|exact Yx0 hf|cases hf
 | obj _ _=>first|exact Yx0 hf|cases hf
 | ref i=>first|exact Yx0 hf|cases hf
 | tup vs=>
  simp only at hf
  by_cases c:k<vs.length
  ·rw[if_pos c]at hf
   cases hf
   refine wpAny_Subscript_Slice (T:="tuple") slot_tuple_getitem.lookup (h W O H fr s _ E _ _ r e1 λW1 k1 t1 x l1 r1 x1=>?_) ht
   refine wpAny_Slice (wpAny_evalPart_none ?_)
   refine wpAny_evalPart_some (hhi W1 O _ fr _ _ E _ _ r1 rfl λW2 k2 t2 y l2 r2 y2=>?_)
   refine wpAny_evalPart_none ?_
   cases y2 with
   | int _ u=>
    have x2:=x1.mono l2
    cases x2 with
    | @tup _ a ys kk hm hl hs=>
     have it:IsTup k2 a ys.toArray:=⟨_,r2.tupAt hm,rfl,kk,rfl⟩
     have it':IsTup (k2.push { cls:=.type "slice",data:=.fields #[.none,.int k u,.none] }) a ys.toArray:=it.keeps λ_ _ e=>Heap.get?_push_of_some _ e
     have hlen:=hs.length
     rw[ZC]at hl
     refine⟨it'.typeIs,ZmF it' (Heap.IsSliceOf.new ..) (by simp[hlen];exact c) (Zbr (by simp[hlen];rw[ZC];exact hl)) ?_⟩
     obtain⟨W4,l4,r4,v4⟩:=(r2.push { cls:=.type "slice",data:=.fields #[.none,.int k u,.none] }).tuple (k:=0) (hs.take k) (by rw[ZC];simp;lia)
     have:=post W4 _ t2 _ ((l1.trans l2).trans l4) r4 v4
     simpa using this
  ·rw[if_neg c]at hf
   cases hf
end PM
end
noncomputable section
open PySem PM TM
namespace L
def Zg2: Sm:=Zh (Zk 2 (Zc Zf (Za 0) (Zd 1))) (Zh (ZaB (Zc Zw (Za 2) (Zd 1)) (Za 0) (Zd 1)) (Zh (Zs (Zl (Zc Zx (Zg ZO (Zb (Zc Zf (Za 0) (Zd 0)) Ze)) (Zd 0))) (Zn (Zd 0)) ZF) (Zn (Zc ZbU (Zc Zw (Zc Zf (Zc Zf (Za 0) (Zd 0)) (Zc ZbU (Za 2) (Zg ZO (Zb (Zc Zf (Za 0) (Zd 0)) Ze)))) (Zc Zcm (Za 2) (Zg ZO (Zb (Zc Zf (Za 0) (Zd 0)) Ze)))) (Za 1)))))
def ZR:=Zr 2 Zg2
def Zgq: Sm:=Zh (Zk 1 (Zg ZR (Zb (Za 0) (Zb (Zd 16) Ze)))) (Zh (Zs (Zl (Zc oLt (Za 1) (Zd 13))) (Zn (Zc Zaj (Zg ZR (Zb (Za 0) (Zb (Zd 25) Ze))) (Zd 8))) ZF) (Zh (Zs (Zl (Zc Zx (Za 1) (Zd 13))) (Zn (Zc Zaj (Zg ZR (Zb (Za 0) (Zb (Zc Zw (Zc ZaV (Zd 2) (Zc Za9 (Zd 10) (Zd 60))) (Zd 1)) Ze))) (Zc Za9 (Zd 10) (Zd 60)))) ZF) (Zn (Zc Zaj (Zg ZR (Zb (Za 0) (Zb (Zc Zw (Zc ZaV (Zd 2) (Zc Za9 (Zd 10) (Zd 9))) (Zd 1)) Ze))) (Zc Za9 (Zd 10) (Zd 9))))))
def ZcF:=Zr 1 Zgq
def ZgJ: Sm:=Zh (Zk 2 (Zy (Zb (Zg ZcF (Zb (Za 0) Ze)) Ze))) (Zh (Zaq (ZaF (Zb (Za 1) Ze)) (Zu 3) (Zh (Zk 4 (Zg ZR (Zb (Za 0) (Zb (Zd 12) Ze)))) (Zh (ZJ (Zal (Za 2) (Zc Zf (Zy (Zb (Zd 0) (Zb (Zd 0) (Zb (Zd 0) (Zb (Zd 0) (Zb (Zd 1) (Zb (Zd 1) (Zb (Zd 1) (Zb (ZB Zax (Zd 1)) (Zb (Zd 2) (Zb (ZB Zax (Zd 3)) (Zb (Zd 1) (Zb (Zd 0) Ze))))))))))))) (Za 4)))) (Zs (Zl (Zc Zx (Za 4) (Zd 11))) (ZaB (Zc Zaj (Zg ZR (Zb (Za 0) (Zb (Zc Zw (Zc ZaV (Zd 2) (Zc Za9 (Zd 10) (Zd 9))) (Zd 1)) Ze))) (Zc Za9 (Zd 10) (Zd 9))) (Za 2) (Zc Zw (Za 3) (Zd 1))) ZF)))) (Zn (Za 2)))
def ZbW:=Zr 2 ZgJ
def Zgy: Sm:=Zh (Zk 1 (Zg ZR (Zb (Za 0) (Zb (Zd 8) Ze)))) (Zh (Zs (Zl (Zc oLt (Za 1) (Zd 5))) (Zn (Zc Zf (Zy (Zb (Zd 2) (Zb (Zd 3) (Zb (Zd 2) (Zb (Zd 4) (Zb (Zd 1) Ze)))))) (Za 1))) ZF) (Zh (Zs (Zl (Zc Zx (Za 1) (Zd 5))) (Zn (Zc Zw (Zd 1) (Zg ZR (Zb (Za 0) (Zb (Zc Za9 (Zd 10) (Zd 60)) Ze))))) ZF) (Zn (Zc Zw (Zd 1) (Zg ZR (Zb (Za 0) (Zb (Zd 12) Ze)))))))
def Zd0:=Zr 1 Zgy
def Zgs: Sm:=Zh (Zk 2 (Zg ZR (Zb (Za 0) (Zb (Zd 5) Ze)))) (Zh (Zk 3 (Zg ZbW (Zb (Za 0) (Zb (Za 1) Ze)))) (Zh (Zs (Zl (Zc oGt (Za 2) (Zd 2))) (Zn (ZM (Zb (ZG (Str.ofString "even")) (Zb (Za 3) (Zb (Zg Zd0 (Zb (Za 0) Ze)) Ze))))) ZF) (Zn (ZM (Zb (Zc Zf (Zy (Zb (ZG (Str.ofString "under")) (Zb (ZG (Str.ofString "under")) (Zb (ZG (Str.ofString "same")) Ze)))) (Za 2)) (Zb (Za 3) Ze))))))
def ZcG:=Zr 2 Zgs
def Zg3: Sm:=Zh (Zk 2 (Zc Zf (Zc Zf (Za 1) (ZB Zax (Zd 1))) (Zd 0))) (Zh (Zk 3 (Zc Zf (Zc Zf (Za 1) (ZB Zax (Zd 1))) (Zd 1))) (Zh (Zk 4 (Zy (Zb (ZM (Zb (ZG (Str.ofString "say")) (Zb (Zg ZcG (Zb (Za 0) (Zb (Za 3) Ze))) Ze))) Ze))) (Zh (Zs (Zl (Zc oGt (Zg ZR (Zb (Za 0) (Zb (Zd 3) Ze))) (Zd 0))) (Zn (Zc Zw (Zag (Za 1) Zau (Zae (ZB Zax (Zd 1)))) (Zy (Zb (ZM (Zb (Za 2) (Zb (Za 3) (Zb (Zc Zw (Zc Zf (Zc Zf (Za 1) (ZB Zax (Zd 1))) (Zd 2)) (Za 4)) Ze)))) Ze)))) ZF) (Zn (Zc Zw (Zag (Za 1) Zau (Zae (ZB Zax (Zd 1)))) (Zy (Zb (ZM (Zb (Za 2) (Zb (Za 3) (Zb (Zc Zw (Za 4) (Zc Zf (Zc Zf (Za 1) (ZB Zax (Zd 1))) (Zd 2))) Ze)))) Ze)))))))
def Ze8:=Zr 2 Zg3
def Zg9: Sm:=Zh (Zk 2 (Zg ZcF (Zb (Za 0) Ze))) (Zh (Zk 3 (Zg ZdK (Zb (Zc Za9 (Zd 10) (Zd 60)) (Zb (Zc Zw (Za 2) (Zg ZR (Zb (Za 0) (Zb (Zd 20) Ze)))) Ze)))) (Zh (Zk 4 (Zg ZR (Zb (Za 0) (Zb (Zd 6) Ze)))) (Zn (ZM (Zb (ZG (Str.ofString "any")) (Zb (Za 1) (Zb (Zc Zf (Zy (Zb (Za 2) (Zb (Za 2) (Zb (Za 2) (Zb (Za 2) (Zb (Zat) (Zb (Zat) Ze))))))) (Za 4)) (Zb (Zc Zf (Zy (Zb (Za 3) (Zb (Za 3) (Zb (Za 3) (Zb (Zat) (Zb (Za 3) (Zb (Zat) Ze))))))) (Za 4)) Ze))))))))
def Zfe:=Zr 2 Zg9
def Zg4(F:List V->Hp->Option (V×Hp)): Sm:=Zh (Zk 5 (Zg ZR (Zb (Za 0) (Zb (Zd 3) Ze)))) (Zh (Zk 6 (Zg ZcG (Zb (Za 0) (Zb (Zc Zf (Za 1) (Zd 1)) Ze)))) (Zh (Zk 7 (Zg F (Zb (Za 0) (Zb (Za 1) (Zb (Za 2) (Zb (Zc Zaj (Za 3) (Zd 1)) (Zb (Zg ZR (Zb (Za 0) (Zb (Zd 3) Ze))) Ze))))))) (Zh (Zs (tOr (Zl (Zc Zx (Za 5) (Zd 0))) (tOr (Zl (Zc Zx (Zc Zf (Za 2) (Zd 1)) (Zd 0))) Zb2)) (Zn (ZM (Zb (ZG (Str.ofString "if")) (Zb (Za 6) (Zb (Za 7) (Zb (Zg F (Zb (Za 0) (Zb (Za 1) (Zb (Za 2) (Zb (Zc Zaj (Za 3) (Zd 1)) (Zb (Zg ZR (Zb (Za 0) (Zb (Zd 3) Ze))) Ze)))))) Ze)))))) ZF) (Zh (ZaB (Zc Zaj (Zc Zf (Za 2) (Zd 1)) (Zd 1)) (Za 2) (Zd 1)) (Zh (Zs (ZX (Zl (Zc Zx (Za 5) (Zd 2))) (ZX (Zl (Zc oGt (Za 4) (Zd 0))) ZD)) (Zh (Zk 8 (Zc Zw (Zy (Zb (ZB Zax (Zg ZR (Zb (Za 0) (Zb (Zd 9) Ze)))) Ze)) (Zc ZaV (Zy (Zb (Zd 0) Ze)) (Zc Zf (Za 1) (Zd 1))))) (Zh (ZaB (Zd 1) (Za 8) (Za 4)) (Zh (Zk 9 (Zc Zw (Zy (Zb (Zc Zw (Zd 1) (Zg ZR (Zb (Za 0) (Zb (Zd 3) Ze)))) Ze)) (Zc ZaV (Zy (Zb (Zd 0) Ze)) (Zc Zf (Za 1) (Zd 1))))) (Zh (ZaB (Zd 1) (Za 9) (Za 4)) (Zn (ZM (Zb (ZG (Str.ofString "while")) (Zb (ZM (Zb (ZG (Str.ofString "under")) (Zb (Za 8) Ze))) (Zb (Zc Zw (Za 7) (Zy (Zb (ZM (Zb (ZG (Str.ofString "set")) (Zb (Za 4) (Zb (Za 9) Ze)))) Ze))) Ze))))))))) ZF) (Zn (ZM (Zb (ZG (Str.ofString "while")) (Zb (Za 6) (Zb (Za 7) Ze))))))))))
def Ze9(F:List V->Hp->Option (V×Hp)): List V->Hp->Option (V×Hp):=Zr 5 (Zg4 F)
def Zgt(F:List V->Hp->Option (V×Hp)): Sm:=Zh (Zk 4 (Zc Zf (Za 1) (Zd 1))) (Zh (Zk 5 (Zg ZR (Zb (Za 0) (Zb (Zd 11) Ze)))) (Zh (Zk 6 (Zd 0)) (Zh (Zs (Zl (Zc oLt (Zc Zf (Za 1) (Zd 0)) (Za 4))) (Zk 6 (Zc Zw (Zc Zw (Zc Zf (Za 1) (Zd 0)) (Zd 1)) (Zg ZR (Zb (Za 0) (Zb (Zc Zaj (Za 4) (Zc Zf (Za 1) (Zd 0))) Ze))))) ZF) (Zh (Zs (ZX (Zl (Zc oLt (Za 5) (Zd 4))) (ZX (Zl (Zc oGt (Za 3) (Zd 0))) ZD)) (Zn (Zg (Ze9 F) (Zb (Za 0) (Zb (Za 1) (Zb (Za 2) (Zb (Za 3) (Zb (Za 6) Ze))))))) ZF) (Zh (Zs (tOr (Zl (Zc Zx (Za 5) (Zd 4))) (tOr (Zl (Zc Zx (Za 6) (Zd 0))) Zb2)) (Zn (ZM (Zb (ZG (Str.ofString "say")) (Zb (Zg ZcG (Zb (Za 0) (Zb (Za 4) Ze))) Ze)))) ZF) (Zh (Zs (ZX (Zl (Zc Zx (Za 5) (Zd 5))) (ZX (Zl (Zc oGt (Zg ZO (Zb (Zc Zf (Za 1) (Zd 2)) Ze)) (Zd 0))) ZD)) (Zh (Zk 7 (Zg ZR (Zb (Za 0) (Zb (Zg ZO (Zb (Zc Zf (Za 1) (Zd 2)) Ze)) Ze)))) (Zn (ZM (Zb (ZG (Str.ofString "call")) (Zb (Za 6) (Zb (Za 7) (Zb (Z5 (ZaF (Zb (Zc Zf (Zc Zf (Za 1) (Zd 2)) (Za 7)) Ze)) (Zu 100) ZD (Zg ZbW (Zb (Za 0) (Zb (Za 4) Ze)))) Ze))))))) ZF) (Zh (Zs (Zl (Zc Zx (Za 5) (Zd 6))) (Zn (Zg Zfe (Zb (Za 0) (Zb (Za 6) Ze)))) ZF) (Zh (Zs (Zl (Zc oGt (Za 5) (Zd 8))) (Zn (ZM (Zb (Zc Zf (Zy (Zb (ZG (Str.ofString "part")) (Zb (ZG (Str.ofString "rest")) Ze))) (Zc Zaj (Za 5) (Zd 9))) (Zb (Za 6) (Zb (Zg ZbW (Zb (Za 0) (Zb (Za 4) Ze))) (Zb (Zg Zd0 (Zb (Za 0) Ze)) Ze)))))) ZF) (Zn (ZM (Zb (ZG (Str.ofString "set")) (Zb (Za 6) (Zb (Zg ZbW (Zb (Za 0) (Zb (Za 4) Ze))) Ze)))))))))))))
def ZeT(F:List V->Hp->Option (V×Hp)): List V->Hp->Option (V×Hp):=Zr 4 (Zgt F)
def Zfa(F:List V->Hp->Option (V×Hp)): Sm:=Zh (Zk 5 (Zy Ze)) (Zh (Zaq (ZaF (Zb (Za 4) Ze)) (Zu 6) (Zs (Zl (Zc oGt (Zc Zf (Za 2) (Zd 0)) (Zd 0))) (Zh (ZaB (Zc Zaj (Zc Zf (Za 2) (Zd 0)) (Zd 1)) (Za 2) (Zd 0)) (ZJ (Zal (Za 5) (Zg (ZeT F) (Zb (Za 0) (Zb (Za 1) (Zb (Za 2) (Zb (Za 3) Ze)))))))) ZF)) (Zn (Za 5)))
def Zc1: Nat->List V->Hp->Option (V×Hp)
 | 0=>λ_ _=>none
 | n+1=>Zr 5 (Zfa (Zc1 n))
def Zfb: List V->Hp->Option (V×Hp):=Zc1 9
def ZgM: Sm:=Zh (Zk 3 (Zc Zf (Zy (Zb (Zd 0) (Zb (Zd 1) (Zb (Zd 1) (Zb (Zd 0) (Zb (Zd 1) (Zb (Zd 2) (Zb (Zd 1) (Zb (Zd 0) (Zb (Zd 3) (Zb (Zd 1) (Zb (Zd 1) (Zb (Zd 4) Ze))))))))))))) (Zg ZR (Zb (Za 0) (Zb (Zd 12) Ze))))) (Zh (Zk 4 (Zg ZdK (Zb (Zd 4) (Zb (Zg Zdm (Zb (Zd 1) (Zb (Zc Zw (Za 3) (Zg ZR (Zb (Za 0) (Zb (Zd 2) Ze)))) Ze))) Ze)))) (Zh (Zk 5 (Zg ZdL (Zb (Zcl (Zc oLt (Za 4) (Zd 3)) (Zcl (ZeG (Za 2)) (Zc Zx (Zg ZR (Zb (Za 0) (Zb (Zd 2) Ze))) (Zd 1)))) Ze))) (Zh (Zk 6 (Zg Zfb (Zb (Za 0) (Zb (ZM (Zb (Za 3) (Zb (Za 4) (Zb (Za 1) Ze)))) (Zb (Zy (Zb (Zd 2) (Zb (Za 5) Ze))) (Zb (Zd 1) (Zb (Zg ZR (Zb (Za 0) (Zb (Zd 3) Ze))) Ze))))))) (Zh (Zs (ZX (Zl (Zc oGt (Za 4) (Za 3))) (ZX (Zl (Zc oGt (Zg ZO (Zb (Za 1) Ze)) (Zd 0))) (ZX (Zl (Zc Zx (Zg ZR (Zb (Za 0) (Zb (Zd 3) Ze))) (Zd 2))) ZD))) (Zh (Zk 7 (Zg ZR (Zb (Za 0) (Zb (Zg ZO (Zb (Za 1) Ze)) Ze)))) (ZJ (Zal (Za 6) (ZM (Zb (ZG (Str.ofString "call")) (Zb (Za 4) (Zb (Za 7) (Zb (Z5 (ZaF (Zb (Zc Zf (Za 1) (Za 7)) Ze)) (Zu 100) ZD (Zg ZbW (Zb (Za 0) (Zb (Za 4) Ze)))) Ze)))))))) ZF) (Zn (ZM (Zb (Za 3) (Zb (Za 4) (Zb (Za 6) Ze)))))))))
def Ze4:=Zr 3 ZgM
def Zha: Sm:=Zh (Zk 2 (Zc Zaj (Zg ZR (Zb (Za 0) (Zb (Zd 25) Ze))) (Zd 8))) (Zh (Zk 3 (Zc Zw (Zc Zw (Za 2) (Zd 1)) (Zg ZR (Zb (Za 0) (Zb (Zd 9) Ze))))) (Zh (Zk 4 (Zc ZaV (Zy (Zb (Zd 0) Ze)) (Zc Zaj (Za 1) (Zd 1)))) (Zh (Zk 5 (Zy (Zb (ZM (Zb (ZG (Str.ofString "set")) (Zb (Zd 1) (Zb (Zc Zw (Zy (Zb (Zc Zw (Zd 1) (Zg ZR (Zb (Za 0) (Zb (Zd 2) Ze)))) (Zb (Zd 1) Ze))) (Za 4)) Ze)))) Ze))) (Zh (Zs (ZX (Zl (Zc oGt (Za 1) (Zd 1))) (ZX (Zl (Zc Zx (Zg ZR (Zb (Za 0) (Zb (Zd 2) Ze))) (Zd 1))) ZD)) (Zk 5 (Zc Zw (Zy (Zb (ZM (Zb (ZG (Str.ofString "set")) (Zb (Za 1) (Zb (Zg ZbW (Zb (Za 0) (Zb (Za 1) Ze))) Ze)))) Ze)) (Za 5))) ZF) (Zh (Zk 6 (ZM (Zb (ZG (Str.ofString "while")) (Zb (ZM (Zb (ZG (Str.ofString "under")) (Zb (Zc Zw (Zy (Zb (ZB Zax (Za 3)) (Zb (Zd 1) Ze))) (Za 4)) Ze))) (Zb (Za 5) Ze))))) (Zh (Zk 7 (ZM (Zb (ZG (Str.ofString "under")) (Zb (Zc Zw (Zy (Zb (Zc Zw (Zc Zw (Za 3) (Zd 2)) (Zg ZR (Zb (Za 0) (Zb (Zd 5) Ze)))) (Zb (ZB Zax (Zd 1)) Ze))) (Za 4)) Ze)))) (Zh (Zk 8 (Zy (Zb (ZM (Zb (ZG (Str.ofString "set")) (Zb (Zd 1) (Zb (Zc Zw (Zy (Zb (Zg ZR (Zb (Za 0) (Zb (Zd 3) Ze))) (Zb (Zd 1) Ze))) (Za 4)) Ze)))) (Zb (ZM (Zb (ZG (Str.ofString "say")) (Zb (Zg ZcG (Zb (Za 0) (Zb (Za 1) Ze))) Ze))) Ze)))) (Zn (Zy (Zb (ZM (Zb (ZG (Str.ofString "set")) (Zb (Zd 1) (Zb (Zc Zw (Zy (Zb (Za 2) (Zb (Zd 0) Ze))) (Za 4)) Ze)))) (Zb (Za 6) (Zb (ZM (Zb (ZG (Str.ofString "if")) (Zb (Za 7) (Zb (Zy (Zb (ZM (Zb (ZG (Str.ofString "while")) (Zb (Zg ZcG (Zb (Za 0) (Zb (Za 1) Ze))) (Zb (Za 8) Ze)))) Ze)) (Zb (Zy Ze) Ze))))) Ze))))))))))))
def Zd8:=Zr 2 Zha
def ZgK: Sm:=Zh (Zk 2 (Zy Ze)) (Zh (Zk 3 (Zy Ze)) (Zh (Zk 4 (Zg ZR (Zb (Za 0) (Zb (Za 1) Ze)))) (Zh (Zaq (ZaF (Zb (Za 4) Ze)) (Zu 5) (Zh (ZJ (Zal (Za 2) (Zg Ze4 (Zb (Za 0) (Zb (Zg ZcO (Zb (Za 3) Ze)) (Zb (Zc oGt (Za 4) (Zd 1)) Ze)))))) (ZJ (Zal (Za 3) (Zc Zf (Zc Zf (Za 2) (Za 5)) (Zd 0)))))) (Zh (Zk 6 (Zc Zf (Zy (Zb (Zd 0) (Zb (Zd 1) (Zb (Zd 1) (Zb (Zd 0) (Zb (Zd 1) (Zb (Zd 2) (Zb (Zd 1) (Zb (Zd 0) (Zb (Zd 1) (Zb (Zd 3) Ze))))))))))) (Zg ZR (Zb (Za 0) (Zb (Zd 10) Ze))))) (Zh (Zk 7 (Zg Zdm (Zb (Zd 1) (Zb (Za 6) Ze)))) (Zh (Zs (ZX (Zl (Zc oLt (Za 7) (Zd 3))) (ZX (Zl (Zc Zx (Zg ZR (Zb (Za 0) (Zb (Zd 5) Ze))) (Zd 4))) ZD)) (Zk 7 (Zc Zw (Za 7) (Zd 1))) ZF) (Zh (Zk 8 (Zg ZdL (Zb (Zc oLt (Za 7) (Zd 3)) Ze))) (Zh (Zk 9 (ZM (Zb (Zd 0) (Zb (Za 7) (Zb (Za 3) Ze))))) (Zh (Zk 10 (Zg Zfb (Zb (Za 0) (Zb (Za 9) (Zb (Zy (Zb (Zd 3) (Zb (Za 8) Ze))) (Zb (Zd 2) (Zb (Zc Zw (Zd 1) (Zg ZR (Zb (Za 0) (Zb (Zd 2) Ze)))) Ze))))))) (Zh (Zs (Zl (Zc oGt (Za 4) (Zd 0))) (Zh (Zk 5 (Zg ZR (Zb (Za 0) (Zb (Za 4) Ze)))) (Zh (Zk 11 (Z5 (ZaF (Zb (Zc Zf (Za 3) (Za 5)) Ze)) (Zu 100) ZD (Zg ZbW (Zb (Za 0) (Zb (Za 7) Ze))))) (ZJ (Zal (Za 10) (ZM (Zb (ZG (Str.ofString "call")) (Zb (Zc Zw (Zd 1) (Zg ZR (Zb (Za 0) (Zb (Za 7) Ze)))) (Zb (Za 5) (Zb (Za 11) Ze))))))))) ZF) (Zh (Zk 10 (Zc Zw (Za 10) (Zg Zfb (Zb (Za 0) (Zb (Za 9) (Zb (Zy (Zb (Zd 1) (Zb (Zd 0) Ze))) (Zb (Zd 1) (Zb (Zg ZR (Zb (Za 0) (Zb (Zd 2) Ze))) Ze)))))))) (Zh (Zs (ZX (Zl (Zc Zx (Za 8) (Zd 1))) (ZX (Zl (Zc Zx (Zg ZR (Zb (Za 0) (Zb (Zd 8) Ze))) (Zd 7))) ZD)) (Zk 10 (Zc Zw (Zg Zd8 (Zb (Za 0) (Zb (Za 7) Ze))) (Zag (Za 10) Zau (Zae (Zd 2))))) ZF) (Zh (Zs (ZX (Zl (Zc Zx (Za 8) (Zd 0))) (ZX (Zl (Zc Zx (Zg ZR (Zb (Za 0) (Zb (Zd 2) Ze))) (Zd 1))) ZD)) (Zk 10 (Zc Zw (Zag (Zg Zd8 (Zb (Za 0) (Zb (Za 7) Ze))) Zau (Zae (Zd 2))) (Zag (Za 10) Zau (Zae (Zd 2))))) ZF) (Zh (ZJ (Zal (Za 2) (ZM (Zb (Za 6) (Zb (Za 7) (Zb (Za 10) Ze)))))) (Zn (Za 2))))))))))))))))
def Ze2:=Zr 2 ZgK
end L
end
section
namespace PM
open PySem PySem.W PyProof.Rows My
section
variable {O:Lc} {H:Hp} {Q:V->Hp->Prop} {L:List V->Hp->Prop} {o:V->V->Hp->Option (V×Hp)} {f:Ex} {g:Exs} {i j l:Nat} {k:Int} {v w z:V}
theorem ZpP(e:O i=some v)(h:Ok (o v (.int k) H) Q): Ok (Zc o (Za i) (Zd k) O H) Q:=Z9 (ZA e (Zao h))
theorem ZpQ(e:O i=some v)(e':O j=some w)(h:Ok (o v w H) Q): Ok (Zc o (Za i) (Za j) O H) Q:=Z9 (ZA e (ZA e' h))
theorem ZpR(h:Ok (f O H) λx M=>Ok (o x (.int k) M) Q): Ok (Zc o f (Zd k) O H) Q:=Z9 (h.mono λ_ _ h=>Zao h)
theorem ZpS(e:O j=some w)(h:Ok (f O H) λx M=>Ok (o x w M) Q): Ok (Zc o f (Za j) O H) Q:=Z9 (h.mono λ_ _ h=>ZA e h)
theorem ZpT(e:O i=some v)(h:Ok (f O H) λy M=>Ok (o v y M) Q): Ok (Zc o (Za i) f O H) Q:=Z9 (ZA e h)
theorem ZpU(h:Ok (f O H) λy M=>Ok (o (.int k) y M) Q): Ok (Zc o (Zd k) f O H) Q:=Z9 (Zao h)
theorem ZkQ(e:O i=some v)(h:L [v] H): Okl (Zb (Za i) Ze O H) L:=Z8 (ZA e (Zas h))
theorem ZkR(h:L [.int k] H): Okl (Zb (Zd k) Ze O H) L:=Z8 (Zao (Zas h))
theorem ZkS(h:Ok (f O H) λx M=>L [x] M): Okl (Zb f Ze O H) L:=Z8 (h.mono λ_ _ h=>Zas h)
theorem Zon(e:O i=some v)(h:L [v,.int k] H): Okl (Zb (Za i) (Zb (Zd k) Ze) O H) L:=Z8 (ZA e (ZkR h))
theorem ZjW(e:O i=some v)(e':O j=some w)(h:L [v,w] H): Okl (Zb (Za i) (Zb (Za j) Ze) O H) L:=Z8 (ZA e (ZkQ e' h))
theorem Zoo(e:O i=some v)(h:Ok (f O H) λx M=>L [v,x] M): Okl (Zb (Za i) (Zb f Ze) O H) L:=Z8 (ZA e (ZkS h))
theorem Zng(e:O i=some v)(e':O j=some w)(e'':O l=some z)(h:L [v,w,z] H): Okl (Zb (Za i) (Zb (Za j) (Zb (Za l) Ze)) O H) L:=Z8 (ZA e (ZjW e' e'' h))
theorem ZqR(e:O i=some v)(h:Okl (g O H) λxs M=>L (v::xs) M): Okl (Zb (Za i) g O H) L:=Z8 (ZA e h)
theorem ZqS(h:Okl (g O H) λxs M=>L (.int k::xs) M): Okl (Zb (Zd k) g O H) L:=Z8 (Zao h)
end
end PM
end
section
namespace TM
open PySem PM
theorem rfs_app{H:Hp}{ws:List V}{us:List T}{G:List Nat}(k:RFs H ws us G): ∀{vs:List V} {ts:List T} {F:List Nat},RFs H vs ts F->RFs H (vs++ws) (ts++us) (F++G)
 | _,_,_,.nil=>k
 | _,_,_,.cons a b=>by
  rw[List.cons_append,List.cons_append,List.append_assoc]
  exact .cons a (rfs_app k b)
end TM
end
section
namespace PM
open PySem PySem.W PySem.Calls PyProof.Rows PyProof PySem.Spec
variable{e elt iter:Expr}{es ifs:List Expr}{f:Ex}{g:Src}{n t i:Nat}{pos px:Pos}{x:Str}{scope:Scope}{cl:List (Str×Addr)}{c:Ts}{v:Value}{o:List V->Hp->Option (V×Hp)}{names:List Str}
variable{prog:Program}{w:World}{G:Cx}
noncomputable def ZfO: Expr->Bool
 | .Starred _ _=>true
 | _=>false
theorem Zh7{env:Env}(h:ZfO e=false): starEach (e::es) env=(false,eval e env)::starEach es env:=by
 cases e <;> first | rfl | cases h
def ZfP: List Expr->Bool
 | []=>true
 | e::es=>!ZfO e && ZfP es
theorem Zlj{env:Env}: ∀{es:List Expr} (pos:Pos),ZfP es=true->(backTo pos (starEach es env)).any (·.1)=false
 | [],pos,_=>by rfl
 | e::es,pos,h=>by
  simp only[ZfP,Bool.and_eq_true,Bool.not_eq_true']at h
  have ih:=Zlj (env:=env) (es:=es) pos h.2
  rw[Zh7 h.1]
  unfold backTo at ih ⊢
  simp only[List.map_cons,List.any_cons,Bool.false_or]
  exact ih
theorem jc{g:Exs}(h1:J prog w G e f)(h2:Js prog w G es g)(hs:ZfO e=false:=by exact rfl): Js prog w G (e::es) (Zb f g):=ZnJ h1 h2 (Zh7 hs)
section
variable {prog:Program} {w:World} {K:Frag} {p:Program} {loose:List Str} {mean:ExcName->Option Value} {mg mb:Str->Option Value}
theorem Zfh{f:Addr}{room:Nat}: Def prog w K p loose mean mg mb f room (λ_ _=>none):=by
 intro G dp un clr hd hu W O H fr s Q E as xs v H' r hx hF post
 cases hF
end
def Cur{d:Type _}(n:Nat)(P:List d->Prop): Prop:=∀xs:List d,xs.length=n->P xs
theorem cur_s{d:Type _}{P:List d->Prop}(h:∀x,Cur n λxs=>P (x::xs)): Cur (n+1) P
 | [],e=>nomatch e
 | x::xs,e=>h x xs (Nat.succ.inj e)
theorem Zcj{d:Type _}{P:List d->Prop}(h:P []): Cur 0 P:=λ_ e=>List.eq_nil_of_length_eq_zero e▸h
theorem jI{k:Int}: J prog w G (.Constant (.int k) n pos) (Zd k):=J.int _ _ _
theorem jN: J prog w G (.Constant .none n pos) Zat:=J.none _ _
theorem jB{b:Bool}: J prog w G (.Constant (.bool b) n pos) (ZaG b):=J.bool _ _ _
theorem jS: J prog w G (.Constant (.str x) n pos) (ZG x):=J.str _ _ _
theorem cO(hg:JI prog w G iter g)(hel:∀C O,J prog w (Zav G scope cl C [(x,t)] O) elt f)(hif:∀C O,JF prog w (Zav G scope cl C [(x,t)] O) ifs c)
  (hclos:closureFor scope G.env=pure cl:=by with_unfolding_all rfl) (hcell:∀y∈scope.names,y.2≠.cell:=by decide) (hkind:scope.kind=.function:=by exact rfl) (hnames:∀y∈scope.names,y.2=.local->scope.names.lookup y.1=some .local:=by decide) (hx:scope.names.lookup x=some .local:=by exact rfl) (hs:∀x,foldedSetIterable iter G.env x=pure x:=by intro _;rfl):
  J prog w G (.ListComp elt [⟨.Name x px,iter,ifs,0⟩] scope pos) (Z5 g (Zu t) c f):=J.comp hg hel hif hclos hcell hkind hnames hx hs
theorem cT{a:Str}{px₂ tp:Pos}{kt:Nat}{t₂:Nat}(hg:JI2 prog w G iter g)(hel:∀C O,J prog w (Zav G scope cl C [(x,t),(a,t₂)] O) elt f)
  (hclos:closureFor scope G.env=pure cl:=by with_unfolding_all rfl) (hcell:∀y∈scope.names,y.2≠.cell:=by decide) (hkind:scope.kind=.function:=by exact rfl) (hnames:∀y∈scope.names,y.2=.local->scope.names.lookup y.1=some .local:=by decide) (hx:scope.names.lookup x=some .local:=by exact rfl) (hx₂:scope.names.lookup a=some .local:=by exact rfl) (hxx:x≠a:=by decide) (htt:t≠t₂:=by decide) (hs:∀x,foldedSetIterable iter G.env x=pure x:=by intro _;rfl):
  J prog w G (.ListComp elt [⟨.Tuple [.Name x px,.Name a px₂] kt tp,iter,[],0⟩] scope pos) (Z5 g (Zcn t t₂) ZD f):=ZnP hg hel hclos hcell hkind hnames hx hx₂ hxx htt hs
theorem sO{y:Str}{py spos:Pos}(hy:Sto prog w G y i)(hg:JI prog w G iter g)(hel:∀C O,J prog w (Zav G scope cl C [(x,t)] O) elt f)(hif:∀C O,JF prog w (Zav G scope cl C [(x,t)] O) ifs c)
  (hsw:swapsWith (.ListComp elt [⟨.Name x px,iter,ifs,0⟩] scope pos) (some (.Name y py)) spos.line G.env=pure true:=by rfl)
  (hclos:closureFor scope G.env=pure cl:=by with_unfolding_all rfl) (hcell:∀y∈scope.names,y.2≠.cell:=by decide) (hkind:scope.kind=.function:=by exact rfl) (hnames:∀y∈scope.names,y.2=.local->scope.names.lookup y.1=some .local:=by decide) (hx:scope.names.lookup x=some .local:=by exact rfl) (hs:∀x,foldedSetIterable iter G.env x=pure x:=by intro _;rfl):
  S1 prog w G (.Assign [.Name y py] (.ListComp elt [⟨.Name x px,iter,ifs,0⟩] scope pos) spos) (Zk i (Z5 g (Zu t) c f)):=Zl6 hy hg hel hif hsw hclos hcell hkind hnames hx hs
section
variable {prog:Program} {w:World} {dp un:Nat} {gd:Option (List Code)} {cn:Str} {cs:Scope} {L a:Addr} {ccd:Value} {cl:List (Str×Addr)} {outer:List Env} {h₀:Heap} {hu:un+200<cLine} {names:List Str}
theorem vL(hi:names[i]?=some x:=by rfl)(hx:cs.names.lookup x=some .local:=by exact rfl)(hk:cs.kind=.function:=by exact rfl)(hd:(x == ("__debug__":Str))=false:=by exact rfl): J prog w (ZaN dp un gd cn cs L a ccd cl outer h₀ hu names) (.Name x pos) (Za i):=Zf3 (ZoX hi hx hk hd)
theorem vC(hi:names[i]?=some x:=by rfl)(hx:cs.names.lookup x=some .cell:=by exact rfl)(hk:cs.kind=.function:=by exact rfl)(hd:(x == ("__debug__":Str))=false:=by exact rfl): J prog w (ZaN dp un gd cn cs L a ccd cl outer h₀ hu names) (.Name x pos) (Za i):=Zf3 (ZoY hi hx hk hd)
theorem sL(nd:names.Nodup:=by decide)(hi:names[i]?=some x:=by rfl)(hx:cs.names.lookup x=some .local:=by exact rfl)(hk:cs.kind=.function:=by exact rfl): Sto prog w (ZaN dp un gd cn cs L a ccd cl outer h₀ hu names) x i:=ZnL nd hi hx hk
theorem sC(nd:names.Nodup:=by decide)(hi:names[i]?=some x:=by rfl)(hx:cs.names.lookup x=some .cell:=by exact rfl)(hk:cs.kind=.function:=by exact rfl)(hcl:(cl.lookup x).isSome=true:=by exact rfl): Sto prog w (ZaN dp un gd cn cs L a ccd cl outer h₀ hu names) x i:=ZnM nd hi hx hk hcl
end
section
variable {prog:Program} {w:World} {K:Frag} {p:Program} {loose:List Str} {mean:ExcName->Option Value} {mg mb:Str->Option Value} {G:Cx} {dp un:Nat}
theorem nB(clr:Clr K p loose mean mg mb G dp un)(e:nsIn K mainGlobals x=some Option.none:=by k_is)(hv:bootBuiltins x=some v:=by boot_by_name)(hn:x≠"__name__":=by decide)(hg:G.env.globals=mainGlobals:=by exact rfl)(hb:G.env.builtins=builtinsNs:=by exact rfl)(hk:G.env.scope.kind=.function:=by exact rfl)(hx:G.env.kindOf x=some .globalImplicit:=by exact rfl)(hd:(x == ("__debug__":Str))=false:=by exact rfl): Nm prog w G x v:=Zm3 clr e hv hn hg hb hk hx hd
theorem cF{np:Pos}{f:Addr}{room:Nat}{g:Exs}(clr:Clr K p loose mean mg mb G dp un)(D:Def prog w K p loose mean mg mb f room o)(h:Js prog w G (e::es) g)
  (en:nsIn K mainGlobals x=some (some (.ref f)):=by k_is) (hg:G.env.globals=mainGlobals:=by exact rfl) (hk:G.env.scope.kind=.function:=by exact rfl) (hx:G.env.kindOf x=some .globalImplicit:=by exact rfl) (hd0:(x == ("__debug__":Str))=false:=by exact rfl)
  (hkeep:keepIn K (.ref f)=true:=by k_is) (hd:dp+room<recursionLimit:=by omega) (hu:un+10*room+300<cLine:=by omega)
  (he:ZfO e=false:=by exact rfl) (hp:ZfP es=true:=by exact rfl):J prog w G (.Call (.Name x np) (e::es) [] pos) (Zg o g):=ZhA clr (Zer clr en hg hk hx hd0) hkeep D hd hu h (Zh7 he) (λpos=>Zlj pos hp)
theorem Z4{name qual:Str}{params:Arguments}{body:List Stmt}{dV kV doc pm cdv ct oc:Value}{an od:Option Addr}{osl:Array (Option Value)}{f:Addr}{room:Nat}{g:Sm}
  (hbody:∀(dp un:Nat) (gd:Option (List Code)) (L:Addr) (outer:List Env) (h₀:Heap) (hu:un+200<cLine),Clr K p loose mean mg mb (ZaN dp un gd qual scope L f cdv (cellsFrom (L+1) scope.names []) outer h₀ hu names) dp un->dp+room<recursionLimit->un+10*room+300<cLine ->
   Ss prog w (ZaN dp un gd qual scope L f cdv (cellsFrom (L+1) scope.names []) outer h₀ hu names) body g)
  (ho:K.lookup f=some ⟨oc,od,.func (fnOf name qual params body scope dV kV doc pm an cdv ct),osl⟩:=by k_is) (hcd:codeIn K cdv qual=true:=by k_is) (nd:names.Nodup:=by decide) (hn:n<=names.length:=by decide)
  (hbind:∀s,Cur n λxs=>BindsTo s (fnOf name qual params body scope dV kV doc pm an cdv ct) ⟨xs,[]⟩ ((names.take n).zip xs):=by intro s;(repeat refine cur_s λ_=>?_);exact Zcj (BindsTo.of_eq rfl)) (hkinds:∀x∈names.take n,scope.names.lookup x=some .local∨scope.names.lookup x=some .cell:=by decide) (hone:((cellsFrom 0 scope.names []).map (·.1)).Nodup:=by decide +kernel)
  (hco:scope.isCoroutine=false:=by exact rfl) (hgen:scope.isGenerator=false:=by exact rfl) (hk:scope.kind=.function:=by exact rfl):
  Def prog w K p loose mean mg mb f (room+1) (Zr n g):=Zcd ho hcd nd hn hbind hkinds hone hco hgen hk hbody
end
section
variable {prog:Program} {w:World} {G:Cx} {scope:Scope} {cl:List (Str×Addr)} {C:Addr} {ts:List (Str×Nat)} {ρ0:Lc}
theorem vO(hm:(x,t)∈ts:=by first | exact Zz5 | exact Zz2 _ Zz5)(hk:scope.kind=.function:=by exact rfl)(hl:(compEnvC scope cl C G.env).kindOf x=some .local:=by exact rfl)(hd:(x == ("__debug__":Str))=false:=by exact rfl): J prog w (Zav G scope cl C ts ρ0) (.Name x pos) (Za t):=Zf3 (ZnR hm hk hl hd)
end
section
variable {prog:Program} {w:World} {dp un:Nat} {gd:Option (List Code)} {cn:Str} {cs:Scope} {L a:Addr} {ccd:Value} {clf:List (Str×Addr)} {outer:List Env} {h₀:Heap} {hu:un+200<cLine} {names:List Str} {scope:Scope} {cl:List (Str×Addr)} {C:Addr} {ts:List (Str×Nat)} {ρ0:Lc}
theorem vD(hi:names[i]?=some x:=by rfl)(hx:cs.names.lookup x=some .cell:=by exact rfl)(hne:∀p∈ts,p.2≠i:=by decide)(hcl:cl.lookup x=clf.lookup x:=by exact rfl)(hk:scope.kind=.function:=by exact rfl)(hl:(compEnvC scope cl C (envX cn cs L a ccd clf)).kindOf x=some .cell:=by exact rfl)(hd:(x == ("__debug__":Str))=false:=by exact rfl):
  J prog w (Zav (ZaN dp un gd cn cs L a ccd clf outer h₀ hu names) scope cl C ts ρ0) (.Name x pos) (Za i):=Zf3 (ZnS hi hx hne hcl hk hl hd)
end
end PM
end
section
open PySem PM TM
namespace L
def Layer_c: Nat×List Str:=(122,[Str.ofString "rows",Str.ofString "used"])
def Runner_c: Nat×List Str:=(240,[Str.ofString "program",Str.ofString "ways_on",Str.ofString "picks",Str.ofString "used",Str.ofString "waiting",Str.ofString "moment"])
def Zgm: Sm:=Zn (Zc Zf (Zc Zf (ZB (Z3 (Runner_c) 1) (Za 0)) (Zc Zf (ZB (Z3 (Runner_c) 5) (Za 0)) (Zd 0))) (Zc Zf (ZB (Z3 (Runner_c) 5) (Za 0)) (Zd 1)))
def ZdV: List V->Hp->Option (V×Hp):=Zr 1 Zgm
def Zgn: Sm:=Zh (Zs (Zl (Zc oNe (Zc Zf (Za 1) (Zd 0)) (ZG (Str.ofString "any")))) (Zn (Zd 0)) ZF) (Zh (Zak (Runner_c) 3 (Zc Zw (ZB (Z3 (Runner_c) 3) (Za 0)) (Zd 1)) (Za 0)) (Zh (Zs (Zl (Zc oGt (ZB (Z3 (Runner_c) 3) (Za 0)) (Zg ZO (Zb (ZB (Z3 (Runner_c) 2) (Za 0)) Ze)))) (Zn (Zd 0)) ZF) (Zn (Zc Zf (ZB (Z3 (Runner_c) 2) (Za 0)) (Zc Zaj (ZB (Z3 (Runner_c) 3) (Za 0)) (Zd 1))))))
def ZeO: List V->Hp->Option (V×Hp):=Zr 2 Zgn
def Zgz: Sm:=Zn (Zcl (Zc Zx (Zg ZO (Zb (ZW (Runner_c) ZdV (Za 0) Ze) Ze)) (Zd 0)) (Zc Zx (Zg ZO (Zb (ZB (Z3 (Runner_c) 4) (Za 0)) Ze)) (Zd 0)))
def Zd1: List V->Hp->Option (V×Hp):=Zr 1 Zgz
def ZgA: Sm:=Zh (Zak (Layer_c) 0 (Zy Ze) (Za 0)) (Zak (Layer_c) 1 (Zd 0) (Za 0))
def ZeV: List V->Hp->Option (V×Hp):=Zr 1 ZgA
def ZgT: Sm:=ZJ (Zal (ZB (Z3 (Layer_c) 0) (Za 0)) (ZM (Zb (Za 1) (Zb (Za 2) (Zb (Za 3) Ze)))))
def Zc2: List V->Hp->Option (V×Hp):=Zr 4 ZgT
def Zgu: Sm:=Zh (Zak (Layer_c) 1 (Zc Zw (ZB (Z3 (Layer_c) 1) (Za 0)) (Zd 1)) (Za 0)) (Zh (ZJ (ZW (Layer_c) Zc2 (Za 0) (Zb (Za 1) (Zb (Za 2) (Zb (ZB (Z3 (Layer_c) 1) (Za 0)) Ze))))) (Zn (ZB (Z3 (Layer_c) 1) (Za 0))))
def ZbG: List V->Hp->Option (V×Hp):=Zr 3 Zgu
def Zg5: Sm:=Zh (Zk 3 (Zc Zf (Z5 (ZU (Zc Zf (Za 0) (Zc Zf (Za 1) (Zd 0)))) (Zu 100) (Zl (Zc Zx (Zc Zf (Za 100) (Zd 0)) (Zc Zf (Za 1) (Zd 1)))) (Za 100)) (Zd 0))) (Zh (ZaB (Za 2) (Zc Zf (Za 1) (Zd 2)) (Zc Zaj (Zc Zf (Zc Zf (Za 3) (Zd 1)) (Zd 1)) (Zd 1))) (ZaB (Zc Zf (Za 3) (Zd 2)) (Za 1) (Zd 1)))
def Zd6: List V->Hp->Option (V×Hp):=Zr 3 Zg5
def Zgv: Sm:=Zh (Zk 1 (Zy Ze)) (Zh (Zaq (ZaF (Zb (Zg ZO (Zb (Za 0) Ze)) Ze)) (Zu 2) (Zaq (ZU (Zc Zf (Za 0) (Za 2))) (Zu 3) (Zs (Zl (Zc Zx (Zc Zf (Zc Zf (Za 3) (Zd 1)) (Zd 0)) (ZG (Str.ofString "say")))) (ZJ (Zal (Za 1) (ZM (Zb (Za 2) (Zb (Zc Zf (Za 3) (Zd 0)) Ze))))) ZF))) (Zn (Za 1)))
def ZdW: List V->Hp->Option (V×Hp):=Zr 1 Zgv
end L
end
section
open PySem PySem.W PyProof.Rows PM TM My
variable{A F G Fa Fp ps F1 F2 F3:List Nat}{H K M X K' H1 K1 M0:Hp}{a m i j n d pp k k' f g fi a11:Nat}{vs us rv qv:List V}{v va vc vp vw v1 v2 v3:V}{t c x act th tq tw:T}{s bs gv ss ks bs' ns cs:List Int}{z b u h p q e e' ea steps st:Int}{P:Nat->Prop}{C vf:List V->Hp->Option (V×Hp)}{ts r as l ys fs sums tas ra fns rest:List T}{O B:Lc}{Q R:V->Hp->Prop}{y:Int×T}{w wd:Str}{o:Option (List Int)}{fn:Nat->List V->Hp->Option (V×Hp)}{rs:List (List T)}{L':T->Int->List T->Int->Prop}{sig:Nat->Nat×Nat}{qs:List (Nat×Nat)}{N:Lc->Hp->Prop}
local macro_rules|`(tactic|walk_at "rd")=>`(tactic|first | exact rfl | (with_reducible assumption) | ((with_reducible apply Zce); decide; walk_at "rd"))
local macro_rules|`(tactic|walk_at "at")=>`(tactic|first | (with_reducible assumption) | (with_reducible exact ZE _ _) | ((with_reducible apply ZI); walk_at "at") | ((with_reducible apply Z6); walk_at "at"))
local macro_rules|`(tactic|walk_at "ext")=>`(tactic|first | (with_reducible exact ZpG) | (with_reducible exact ⟨_, rfl⟩) | ((with_reducible apply ZpF); walk_at "ext"))
local macro_rules|`(tactic|walk_at "yes")=>`(tactic|first | rfl | (with_reducible assumption) | (simp only [Bool.not_eq_true', Bool.not_eq_false', decide_eq_true_eq, decide_eq_false_iff_not, beq_iff_eq, beq_eq_false_iff_ne, ne_eq, List.length_map, Bool.not_true, Bool.not_false, not_false_eq_true, not_true_eq_false, bne_iff_ne] <;> first | done | omega | assumption))
local macro_rules|`(tactic|walk_at "ok call")=>`(tactic|fail)
def okC(c:Char):Lean.MacroM (Lean.TSyntax `tactic):= if c='A' then `(tactic|walk_at "at") else if c='D' then `(tactic|(first | decide | omega)) else if c='F' then `(tactic|(first | rfl | (with_reducible assumption))) else if c='K' then `(tactic|decide +kernel) else if c='L' then `(tactic|rfl) else if c='N' then `(tactic|exact Nat.le_of_ble_eq_true rfl) else if c='O' then `(tactic|omega) else if c='R' then `(tactic|walk_at "rd") else if c='S' then `(tactic|with_reducible assumption) else if c='Y' then `(tactic|walk_at "yes") else `(tactic|(rw [ZC]; simp; omega))
def okW(s:String):Lean.MacroM (Array (Lean.TSyntax `tactic)):=do
 let mut k:Array (Lean.TSyntax `tactic):= #[]
 let mut r:Array (Lean.TSyntax `tactic):= #[]
 for x in s.splitOn " " do
  if x.front=':' then k←(x.toList.drop 1).toArray.mapM okC else
   let i:=Lean.mkIdent (.mkSimple x)
   r:=r.push (← if k.isEmpty then `(tactic|with_reducible refine $i ?_) else `(tactic|((with_reducible apply $i);($[$k:tactic];*))))
 return r
local macro_rules|`(tactic|walk_at "ok op")=>do
 let a1←okW "ZkK Zps Zpt Zod ZqI ZqJ Zpw Zpx Zpy Zf5 Zpz ZpA ZkL ZpB ZkM Zoe Zof ZqP ZpI :A ZpC :ADO Zdy :ADF ZbM :DF ZbJ :A ZpD Znb :D Zpu :DD Zpv :S ZhU :A ZfN :ADD ZpE :KK ZfM :AAZ Zcu"
 `(tactic|first $[|$a1:tactic]*)
local macro_rules|`(tactic|walk_at "ok")=>do
 let a1←okW ":R ZpP :RR ZpQ : ZpR :R ZpS ZpT : ZpU :R Zon :RRR Zng :RR ZjW :R ZkQ : ZkR :R Zoo : ZkS :R ZqR : ZqS Z9 ZqG Z8 ZkG Zda ZkH Zpp Za1 ZiN Zct Za3 ZjU Zbu Zja ZcL ZhT ZaY Zbv ZbA Zb4 ZfL Zam Za8 Zdc Zpq Zoc ZjV Zeh Znd ZbI Znc Zao Zfr Zfs ZfK Zas :R ZA :Y ZbD Zbc :L Zac"
 let a2←okW ":N Zpr :A ZcA : ZkI :O ZqO :A Zog :AA ZqH :A ZkJ Zdd"
 `(tactic|first $[|$a1:tactic]* | walk_at "ok op" $[|$a2:tactic]*)
open PySem PySem.W PyProof.Rows PM TM My
namespace L
def Exq(A:List Nat)(H K:Hp): Prop:=H.length<=K.length/\∀a,a<H.length->a∉A->K[a]?=H[a]?
structure Tp(p q:Nat)(ns:List Int)(K:Hp): Prop where
 at_:∃k:Nat,K[p]?=some [.ref q,.int k]
 cells:K[q]?=some (ns.map V.int)
 pq:p≠q
 p0:p≠0
 hl:ns.length<=200
theorem Exq.refl: Exq A H H:=⟨Zz10 _,λ_ _ _=>rfl⟩
theorem Exq.trans(a:Exq A H K)(b:Exq A K M): Exq A H M:=⟨Nat.le_trans a.1 b.1,λx h n=>(b.2 x (Nat.lt_of_lt_of_le h a.1) n).trans (a.2 x h n)⟩
theorem Exq.app(a:Exq A H K): Exq A H (K++X):=⟨Nat.le_trans a.1 .s,λx h n=>(Yy0 (Nat.lt_of_lt_of_le h a.1)).trans (a.2 x h n)⟩
section
variable {p q:Nat} {ns:List Int} {K:Hp}
theorem Tp.lt(t:Tp p q ns K): p<K.length:=by obtain⟨k,e⟩:=t.at_;exact(Zz6.mp e).1
theorem Tp.ex(t:Tp p q ns K)(e:Exq [] K K'): Tp p q ns K':=by
 obtain⟨k,h⟩:=t.at_
 exact⟨⟨k,(e.2 p t.lt .s).trans h⟩,(e.2 q (Zz6.mp t.cells).1 .s).trans t.cells,t.pq,t.p0,t.hl⟩
structure Ws(p q:Nat)(ns:List Int)(H K:Hp): Prop where
 ex:Exq [p] H K
 tp:Tp p q ns K
 lp:p<H.length
 lq:q<H.length
theorem Tp.lq(t:Tp p q ns K): q<K.length:=(Zz6.mp t.cells).1
theorem Tp.ws(t:Tp p q ns K): Ws p q ns K K:=⟨Exq.refl,t,t.lt,t.lq⟩
theorem Ws.app(w:Ws p q ns H K): Ws p q ns H (K++X):=⟨w.ex.app,w.tp.ex Exq.refl.app,w.lp,w.lq⟩
theorem Ws.trans(w:Ws p q ns H K)(u:Ws p q ns K M): Ws p q ns H M:=⟨w.ex.trans u.ex,u.tp,w.lp,w.lq⟩
theorem Ws.set(w:Ws p q ns H K)(h:H.length<=a): Ws p q ns H (K.set a vs):=by
 obtain⟨x,⟨⟨k,e⟩,c,r1,r2,r3⟩,l1,l2⟩:=w
 exact⟨⟨by rw[List.length_set];exact x.1,λb hb n=>by rw[Yy2 .l];exact x.2 b hb n⟩,⟨⟨k,by rw[Yy2 .l];exact e⟩,by rw[Yy2 .l];exact c,r1,r2,r3⟩,l1,l2⟩
theorem Ws.at(w:Ws p q ns H K)(n:a≠p)(e:H[a]?=some vs): K[a]?=some vs:=(w.ex.2 a (lt_of_at e) (by simpa using n)).trans e
theorem Ws.rf(w:Ws p q ns H K)(r:RF H v t F)(n:p∉F): RF K v t F:=r.frame λa m=>w.ex.2 a (r.lt a m) (by simp;exact λz=>n (z▸m))
theorem Z0{m:Int}(t:Tp p q ns K)(hm:0<m): Ok (ZR [.ref p,.int m] K) λv K'=>Ws p q ns K K'/\∃i,v=.int i/\0<=i/\i<m:=by
 obtain⟨⟨k,e⟩,hc,pq,p0,hl⟩:=id t
 have hp:=t.lt
 have hq:q<K.length:=(Zz6.mp hc).1
 generalize hK:K.set p [.ref q,.int (k+1:Nat)]=K1
 have e1:K1[p]?=some [.ref q,.int (k+1:Nat)]:=by rw[<-hK,Yy6 hp]
 have c1:K1[q]?=some (ns.map V.int):=by rw[<-hK,Yy2 pq];exact hc
 have x1:Ws p q ns K K1:=⟨⟨by rw[<-hK];simp,λa _ n=>by rw[<-hK];exact Yy2 (λz=>n (by simp[z]))⟩,⟨⟨_,e1⟩,c1,pq,p0,hl⟩,hp,hq⟩
 have el:(ns.map V.int).length=ns.length:=by simp
 unfold ZR Zg2
 repeat' walk_at "ok"
 refine Zc5 e p0 .d .s ?_
 rw[show K.set p ([V.ref q,.int k].set (1:Int).toNat (.int (k+1)))=K1 from hK]
 by_cases h0:ns.length=0
 ·repeat' walk_at "ok"
  exact⟨x1,0,rfl,Int.le_refl 0,hm⟩
 ·have a:=Int.fmod_nonneg_of_pos (k:Int) (show(0:Int)<ns.length by lia)
  have b:=Int.fmod_lt_of_pos (k:Int) (show(0:Int)<ns.length by lia)
  have hl':=hl
  repeat' walk_at "ok"
  rw[el]
  refine Zdy c1 a b ?_
  repeat' walk_at "ok"
  exact⟨x1,_,rfl,Int.fmod_nonneg_of_pos _ hm,Int.fmod_lt_of_pos _ hm⟩
def DI(p q:Nat)(ns:List Int)(K:Hp)(c:Option (V×Hp))(P:Int->Prop): Prop:=Ok c λv K'=>Ws p q ns K K'/\∃i,v=.int i/\P i
def DT(p q:Nat)(ns:List Int)(K:Hp)(c:Option (V×Hp))(P:T->Prop): Prop:=Ok c λv K'=>Ws p q ns K K'/\∃t F,P t/\RF K' v t F/\∀a∈F,K.length<=a
def C60(v:Int): Prop:=-T60<=v/\v<=T60
def C9(v:Int): Prop:=-1000000000<=v/\v<=1000000000
def SumOk(n:Nat)(s:List Int): Prop:=s.length=n+1/\(∀k∈s.take 1,C60 k)/\∀k∈s.drop 1,C9 k
def smL(s:List Int): T:=.lst (s.map T.int)
theorem Zho(t:Tp p q ns K): DI p q ns K (ZcF [.ref p] K) C60:=by
 have e6:=T60_eq
 have e9:=T9_eq
 unfold ZcF Zgq
 refine Zac rfl ?_
 repeat' walk_at "ok"
 refine(Z0 t .d).mono ?_
 intro _ K1 q9;obtain⟨x1,i,rfl,i0,i1⟩:=q9
 by_cases h1:i<13
 ·repeat' walk_at "ok"
  refine(Z0 x1.tp .d).mono ?_
  intro _ K2 q9;obtain⟨x2,j,rfl,j0,j1⟩:=q9
  repeat' walk_at "ok"
  exact⟨x1.trans x2,_,rfl,by unfold C60;lia⟩
 ·by_cases h2:i=13
  ·repeat' walk_at "ok"
   refine(Z0 x1.tp .l).mono ?_
   intro _ K2 q9;obtain⟨x2,j,rfl,j0,j1⟩:=q9
   repeat' walk_at "ok"
   exact⟨x1.trans x2,_,rfl,by unfold C60;lia⟩
  ·repeat' walk_at "ok"
   refine(Z0 x1.tp .l).mono ?_
   intro _ K2 q9;obtain⟨x2,j,rfl,j0,j1⟩:=q9
   repeat' walk_at "ok"
   exact⟨x1.trans x2,_,rfl,by unfold C60;lia⟩
theorem ZkT(t:Tp p q ns K): DI p q ns K (Zd0 [.ref p] K) λd=>1<=d/\d<=T60:=by
 have e6:=T60_eq
 unfold Zd0 Zgy
 refine Zac rfl ?_
 repeat' walk_at "ok"
 refine(Z0 t .d).mono ?_
 intro _ K1 q9;obtain⟨x1,i,rfl,i0,i1⟩:=q9
 by_cases h1:i<5
 ·repeat' walk_at "ok"
  refine Zdy (ns:=[2,3,2,4,1]) (ZE _ _) i0 (by simp;omega) ?_
  refine⟨x1.app,_,rfl,?_⟩
  obtain rfl | rfl | rfl | rfl | rfl:i=0∨i=1∨i=2∨i=3∨i=4:=by lia
  all_goals (exact⟨.d,by rw[e6];decide⟩)
 ·by_cases h2:i=5
  ·repeat' walk_at "ok"
   refine(Z0 x1.tp .l).mono ?_
   intro _ K2 q9;obtain⟨x2,j,rfl,j0,j1⟩:=q9
   repeat' walk_at "ok"
   exact⟨x1.trans x2,_,rfl,.l,.l⟩
  ·repeat' walk_at "ok"
   refine(Z0 x1.tp .l).mono ?_
   intro _ K2 q9;obtain⟨x2,j,rfl,j0,j1⟩:=q9
   repeat' walk_at "ok"
   exact⟨x1.trans x2,_,rfl,.l,.l⟩
end
end L
open PySem PySem.W PyProof.Rows PM TM My
namespace L
section
variable {p q:Nat} {ns:List Int} {K:Hp}
theorem Zbx(e:K[a]?=some (s.map V.int)): RF K (.ref a) (smL s) [a]:=by
 have:∀l:List Int,RFs K (l.map V.int) (l.map T.int) []:=λl=>by
  induction l with
  | nil=>exact .nil
  | cons a l ih=>exact .cons (.int a) ih
 exact .ref e (this s)
theorem ZjX(L:List Int)(i:Nat): L.getD i 0=0∨L.getD i 0∈L:=by
 rw[List.getD_eq_getElem?_getD]
 cases h:L[i]? with
 | none=>exact .inl rfl
 | some x=>exact .inr (Yy4 h)
theorem Zls{L:List Int}(hL:∀x∈L,0<=x/\x<=(m:Int))(i:Nat): ∃z:Nat,z<=m/\L.getD i 0=z:=by
 rcases ZjX L i with h | h
 ·exact⟨0,Nat.zero_le _,h⟩
 ·obtain⟨a,b⟩:=hL _ h
  exact⟨(L.getD i 0).toNat,.l,.l⟩
theorem ZpV{v:Int}(h0:0<=v)(h1:v<12): C9 (([0,0,0,0,1,1,1,-1,2,-3,1,0]:List Int).getD v.toNat 0):=by
 unfold C9
 rcases ZjX [0,0,0,0,1,1,1,-1,2,-3,1,0] v.toNat with h | h
 ·rw[h];decide
 ·revert h
  generalize List.getD _ _ _=x
  revert x
  decide
theorem SumOk.snoc(h:SumOk i s)(hz:C9 z): SumOk (i+1) (s++[z]):=by
 obtain⟨l,a,b⟩:=h
 refine⟨by simp[l],?_,λk m=>?_⟩
 ·rw[List.take_append_of_le_length .l];exact a
 ·rw[List.drop_append_of_le_length .o]at m
  rcases Zz8.mp m with m | m
  ·exact b k m
  ·rw[List.mem_singleton.mp m];exact hz
theorem SumOk.set(h:SumOk i s)(hj:0<j)(hz:C9 z): SumOk i (s.set j z):=by
 obtain⟨l,a,b⟩:=h
 refine⟨by simp[l],?_,λk m=>?_⟩
 ·rw[List.take_set_of_le .l];exact a
 ·rw[List.drop_set]at m
  split at m
  ·exact b k m
  ·rcases List.mem_or_eq_of_mem_set m with m | rfl
   ·exact b k m
   ·exact hz
theorem ZeA(t:Tp p q ns K)(hn:n<=100): DT p q ns K (ZbW [.ref p,.int n] K) λt=>∃s,t=smL s/\SumOk n s:=by
 have e9:=T9_eq
 unfold ZbW ZgJ
 refine Zac rfl ?_
 repeat' walk_at "ok"
 refine(Zho t).mono ?_
 intro _ K1 q9;obtain⟨x1,i,rfl,hi⟩:=q9
 repeat' walk_at "ok"
 generalize hL:K1.length=a
 have ha:K.length<=a:=hL▸x1.ex.1
 have hp:=t.lt
 refine Zft (m:=n) (λi O M=>O 0=some (.ref p)/\O 1=some (.int n)/\O 2=some (.ref a)/\Ws p q ns K M/\∃s,M[a]?=some (s.map V.int)/\SumOk i s) ?_ ?_ ?_
 ·refine⟨by walk_at "rd",by walk_at "rd",by walk_at "rd",x1.app,[i],?_,rfl,λk m=>?_,λk m=>by simp at m⟩
  ·rw[<-hL];exact ZE _ _
  ·simp at m;rw[m];exact hi
 ·intro j O M hj q9;obtain⟨e0,e1,e2,w,s,es,hs⟩:=q9
  repeat' walk_at "ok"
  refine(Z0 w.tp .d).mono ?_
  intro _ M1 q9;obtain⟨y1,c,rfl,c0,c1⟩:=q9
  have es1:=y1.at (show a≠p by lia) es
  have hc:=ZpV c0 c1
  have sl:=hs.1
  repeat' walk_at "ok"
  refine Zdy (ns:=[0,0,0,0,1,1,1,-1,2,-3,1,0]) (ZE _ _) c0 (by simp;omega) ?_
  generalize ([0,0,0,0,1,1,1,-1,2,-3,1,0]:List Int).getD c.toNat 0=z at *
  refine Zc3 (ZI es1) .l (by rw[ZC];simp;lia) ?_
  have w2:=((w.trans y1).app (X:=[[V.int 0,.int 0,.int 0,.int 0,.int 1,.int 1,.int 1,.int (-1),.int 2,.int (-3),.int 1,.int 0]])).set (vs:=s.map V.int++[.int z]) ha
  have a2:=lt_of_at (ZI (x:=[V.int 0,.int 0,.int 0,.int 0,.int 1,.int 1,.int 1,.int (-1),.int 2,.int (-3),.int 1,.int 0]) es1)
  have es2:=Yy6 (a:=s.map V.int++[.int z]) a2
  generalize List.set _ a _=M2 at *
  rw[show s.map V.int++[.int z]=(s++[z]).map V.int by simp]at es2
  have hs2:=hs.snoc hc
  by_cases h11:c=11
  ·repeat' walk_at "ok"
   refine(Z0 w2.tp .l).mono ?_
   intro _ M3 q9;obtain⟨y3,d,rfl,d0,d1⟩:=q9
   have es3:=y3.at (show a≠p by lia) es2
   repeat' walk_at "ok"
   refine Zc5 es3 .l .l (by simp;lia) ?_
   refine⟨by walk_at "rd",by walk_at "rd",by walk_at "rd",(w2.trans y3).set ha,(s++[z]).set (j+1) (d-T9),?_,hs2.set .l ⟨.l,.l⟩⟩
   rw[Yy6 (lt_of_at es3),List.map_set,show((j:Int)+1).toNat=j+1 by lia]
  ·repeat' walk_at "ok"
   exact⟨by walk_at "rd",by walk_at "rd",by walk_at "rd",w2,s++[z],es2,hs2⟩
 ·intro O M q9;obtain⟨e0,e1,e2,w,s,es,hs⟩:=q9
  repeat' walk_at "ok"
  exact⟨w,_,[a],⟨s,rfl,hs⟩,Zbx es,λb m=>by simp at m;lia⟩
end
end L
open PySem PySem.W PyProof.Rows PM TM My
namespace L
def wU: Str:=Str.ofString "under"
def wS: Str:=Str.ofString "same"
def wE: Str:=Str.ofString "even"
def wY: Str:=Str.ofString "say"
def Zbk(n:Nat)(c:T): Prop:=∃s,SumOk n s/\(c=.tup [.str wU,smL s]∨c=.tup [.str wS,smL s]∨∃d,1<=d/\d<=T60/\c=.tup [.str wE,smL s,.int d])
def OB(o:Option Int): Prop:=∀v,o=some v->C60 v
def oT': Option Int->T
 | none=>.none
 | some v=>.int v
section
variable {p q:Nat} {ns:List Int} {K:Hp}
theorem Zra{d:Type}{x y z:d}{c:Int}(h0:0<=c)(h1:c<=2): [x,y,z][c.toNat]?=some (if c=2 then z else if c=1 then y else x):=by
 obtain rfl | rfl | rfl:c=0∨c=1∨c=2:=by lia
 all_goals rfl
theorem Zej(t:Tp p q ns K)(hn:n<=100): DT p q ns K (ZcG [.ref p,.int n] K) (Zbk n):=by
 have hp:=t.lt
 unfold ZcG Zgs
 refine Zac rfl ?_
 repeat' walk_at "ok"
 refine(Z0 t .d).mono ?_
 intro _ K1 q9;obtain⟨x1,i,rfl,i0,i1⟩:=q9
 repeat' walk_at "ok"
 refine(ZeA x1.tp hn).mono ?_
 intro v K2 q9;obtain⟨x2,_,F,⟨s,rfl,hs⟩,rs,hf⟩:=q9
 have l1:=x1.ex.1
 by_cases h2:i>2
 ·repeat' walk_at "ok"
  refine(ZkT x2.tp).mono ?_
  intro _ K3 q9;obtain⟨x3,d,rfl,d0,d1⟩:=q9
  repeat' walk_at "ok"
  exact⟨(x1.trans x2).trans x3,_,_,⟨s,hs,.inr (.inr ⟨d,d0,d1,rfl⟩)⟩,.tup (.cons (.str _) (.cons (x3.rf rs λm=>by have:=hf p m;lia) (.cons (.int d) .nil))),λa m=>by
   have:a∈F:=by simpa using m
   have:=hf a this;lia⟩
 ·repeat' walk_at "ok"
  refine ZbM (ZE _ _) i0 (Zra i0 .l) ?_
  have hw:(∃w,(if i=2 then V.str (Str.ofString "same")else if i=1 then .str (Str.ofString "under")else .str (Str.ofString "under"))=.str w/\(w=wU∨w=wS)):=by
   split
   ·exact⟨_,rfl,.inr rfl⟩
   ·split <;> exact⟨_,rfl,.inl rfl⟩
  obtain⟨w,ew,hw⟩:=hw
  rw[ew]
  repeat' walk_at "ok"
  refine⟨(x1.trans x2).app,.tup [.str w,smL s],_,⟨s,hs,?_⟩,.tup (.cons (.str _) (.cons (rs.ext _) .nil)),λa m=>by
   have:a∈F:=by simpa using m
   have:=hf a this;lia⟩
  rcases hw with rfl | rfl
  ·exact .inl rfl
  ·exact .inr (.inl rfl)
theorem ZqT{x:Int}(t:Tp p q ns K): DT p q ns K (Zfe [.ref p,.int x] K) λt=>∃lo hi,OB lo/\OB hi/\(∀a b,lo=some a->hi=some b->a<=b)/\t=.tup [.str (Str.ofString "any"),.int x,oT' lo,oT' hi]:=by
 have e6:=T60_eq
 unfold Zfe Zg9
 refine Zac rfl ?_
 repeat' walk_at "ok"
 refine(Zho t).mono ?_
 intro _ K1 q9;obtain⟨x1,lo,rfl,hlo⟩:=q9
 repeat' walk_at "ok"
 refine(Z0 x1.tp .d).mono ?_
 intro _ K2 q9;obtain⟨x2,i,rfl,i0,i1⟩:=q9
 repeat' walk_at "ok"
 have hh:∃hi,(if lo+i<T60 then lo+i else T60)=hi/\C60 hi/\lo<=hi:=⟨_,rfl,by unfold C60 at *;split <;> lia,by unfold C60 at *;split <;> lia⟩
 obtain⟨hi,ehi,hhi,lh⟩:=hh
 rw[ehi]
 refine(Z0 x2.tp .d).mono ?_
 intro _ K3 q9;obtain⟨x3,c,rfl,c0,c1⟩:=q9
 repeat' walk_at "ok"
 have w:=(x1.trans x2).trans x3
 have ob:∀{v:Int},C60 v->OB (some v):=λh u e=>by cases e;exact h
 have on:OB none:=λu e=>by cases e
 have fin:∀(o1 o2:Option Int) (v1 v2:V) (X:Hp),OB o1->OB o2->(∀a b,o1=some a->o2=some b->a<=b)->RF (K3++X) v1 (oT' o1) []->RF (K3++X) v2 (oT' o2) []->Ws p q ns K (K3++X)/\∃t F,(∃lo hi,OB lo/\OB hi/\(∀a b,lo=some a->hi=some b->a<=b)/\t=.tup [.str (Str.ofString "any"),.int x,oT' lo,oT' hi])/\RF (K3++X) (.tup [.str (Str.ofString "any"),.int x,v1,v2]) t F/\∀a∈F,K.length<=a:=λo1 o2 v1 v2 X b1 b2 b3 r1 r2=>⟨w.app,_,_,⟨o1,o2,b1,b2,b3,rfl⟩,.tup (.cons (.str _) (.cons (.int x) (.cons r1 (.cons r2 .nil)))),.s⟩
 obtain rfl | rfl | rfl | rfl | rfl | rfl:c=0∨c=1∨c=2∨c=3∨c=4∨c=5:=by lia
 all_goals
  repeat' walk_at "ok"
  rw[List.append_assoc]
 ·exact fin (some lo) (some hi) _ _ _ (ob hlo) (ob hhi) (λa b h k=>by cases h;cases k;exact lh) (.int _) (.int _)
 ·exact fin (some lo) (some hi) _ _ _ (ob hlo) (ob hhi) (λa b h k=>by cases h;cases k;exact lh) (.int _) (.int _)
 ·exact fin (some lo) (some hi) _ _ _ (ob hlo) (ob hhi) (λa b h k=>by cases h;cases k;exact lh) (.int _) (.int _)
 ·exact fin (some lo) none _ _ _ (ob hlo) on (λa b h k=>by cases k) (.int _) .none
 ·exact fin none (some hi) _ _ _ on (ob hhi) (λa b h k=>by cases h) .none (.int _)
 ·exact fin none none _ _ _ on on (λa b h k=>by cases h) .none .none
end
end L
open PySem PySem.W PyProof.Rows PM TM My
namespace L
noncomputable abbrev Zii(c:T)(a b:List T): T:=.tup [.str (Str.ofString "if"),c,.lst a,.lst b]
noncomputable abbrev ZeJ(c:T)(a:List T): T:=.tup [.str (Str.ofString "while"),c,.lst a]
def Pl7(p n:Nat)(ps:List Nat)(t:T): Prop:=
 (∃c,Zbk n c/\t=.tup [.str wY,c]) ∨
 (∃(x:Nat) (s:List Int),p<x/\x<=n/\SumOk n s/\t=.tup [.str (Str.ofString "set"),.int x,smL s]) ∨
 (∃(w:Str) (x:Nat) (s:List Int) (d:Int),(w=Str.ofString "part"∨w=Str.ofString "rest")/\p<x/\x<=n/\SumOk n s/\1<=d/\d<=T60/\t=.tup [.str w,.int x,smL s,.int d]) ∨
 (∃(x:Nat) (lo hi:Option Int),p<x/\x<=n/\OB lo/\OB hi/\(∀a b,lo=some a->hi=some b->a<=b)/\t=.tup [.str (Str.ofString "any"),.int x,oT' lo,oT' hi]) ∨
 (∃(x f:Nat) (ss:List (List Int)) (q:Nat),p<x/\x<=n/\ps[f]?=some q/\ss.length=q/\(∀s∈ss,SumOk n s)/\t=.tup [.str (Str.ofString "call"),.int x,.int f,.lst (ss.map smL)])
def StQ(P C:T->Prop): Nat->T->Prop
 | 0=>P
 | n+1=>λt=>P t∨(∃c a b,t=Zii c a b/\C c/\(∀u∈a,StQ P C n u)/\(∀u∈b,StQ P C n u)/\a.length<=4/\b.length<=4)∨∃c a,t=ZeJ c a/\C c/\(∀u∈a,StQ P C n u)/\a.length<=4
theorem StQ.plain{P C:T->Prop}(h:P t): StQ P C n t:=by
 cases n with
 | zero=>exact h
 | succ n=>exact .inl h
structure Wc(p q r s:Nat)(ns:List Int)(ps:List Nat)(K:Hp): Prop where
 tp:Tp p q ns K
 rm:∃a b:Int,K[r]?=some [.int a,.int b]
 sz:K[s]?=some (ps.map λi=>V.int (i:Nat))
 rp:r≠p
 rq:r≠q
 r0:r≠0
 sp:s≠p
 sr:s≠r
structure Wr(p q r s:Nat)(ns:List Int)(ps:List Nat)(H K:Hp): Prop where
 ex:Exq [p,r] H K
 c:Wc p q r s ns ps K
 lp:p<H.length
 lq:q<H.length
 lr:r<H.length
section
variable {p q r s:Nat} {ns:List Int} {ps:List Nat} {H K M:Hp}
theorem Wc.wr(w:Wc p q r s ns ps K): Wr p q r s ns ps K K:=⟨Exq.refl,w,w.tp.lt,w.tp.lq,by obtain⟨a,b,e⟩:=w.rm;exact lt_of_at e⟩
theorem Wr.trans(w:Wr p q r s ns ps H K)(u:Wr p q r s ns ps K M): Wr p q r s ns ps H M:=⟨w.ex.trans u.ex,u.c,w.lp,w.lq,w.lr⟩
theorem Wr.draw(w:Wr p q r s ns ps H K)(u:Ws p q ns K M): Wr p q r s ns ps H M:=by
 obtain⟨⟨x1,x2⟩,⟨tp,⟨a,b,rm⟩,sz,rp,rq,r0,sp,sr⟩,lp,lq,lr⟩:=w
 exact⟨⟨Nat.le_trans x1 u.ex.1,λc h n=>(u.ex.2 c .l (by simp at n ⊢;exact n.1)).trans (x2 c h n)⟩,⟨u.tp,⟨a,b,u.at rp rm⟩,u.at sp sz,rp,rq,r0,sp,sr⟩,lp,lq,lr⟩
theorem Wr.app(w:Wr p q r s ns ps H K): Wr p q r s ns ps H (K++X):=w.draw (w.c.tp.ws.app)
theorem Wr.at(w:Wr p q r s ns ps H K)(n:a≠p)(m:a≠r)(e:H[a]?=some vs): K[a]?=some vs:=(w.ex.2 a (lt_of_at e) (by simp;exact⟨n,m⟩)).trans e
theorem Wr.rf(w:Wr p q r s ns ps H K)(rf:RF H v t F)(n:∀a∈F,a≠p/\a≠r): RF K v t F:=rf.frame λa m=>w.ex.2 a (rf.lt a m) (by simp;exact n a m)
theorem Wr.rfs(w:Wr p q r s ns ps H K)(rf:RFs H vs ts F)(n:∀a∈F,a≠p/\a≠r): RFs K vs ts F:=rf.frame λa m=>w.ex.2 a (rf.lt a m) (by simp;exact n a m)
theorem Wr.set(w:Wr p q r s ns ps H K)(h:H.length<=a)(hs:a≠s): Wr p q r s ns ps H (K.set a vs):=by
 obtain⟨⟨x1,x2⟩,⟨⟨⟨k,e⟩,c,t1,t2,t3⟩,⟨a',b,rm⟩,sz,rp,rq,r0,sp,sr⟩,lp,lq,lr⟩:=w
 exact⟨⟨by rw[List.length_set];exact x1,λb hb n=>by rw[Yy2 .l];exact x2 b hb n⟩,⟨⟨⟨k,Zb5 .l e⟩,Zb5 .l c,t1,t2,t3⟩,⟨a',b,Zb5 .l rm⟩,Zb5 hs sz,rp,rq,r0,sp,sr⟩,lp,lq,lr⟩
theorem Wr.room{a:Int}(w:Wr p q r s ns ps H K): Wr p q r s ns ps H (K.set r [.int a,.int b]):=by
 have hr:r<K.length:=Nat.lt_of_lt_of_le w.lr w.ex.1
 obtain⟨⟨x1,x2⟩,⟨⟨⟨k,e⟩,c,t1,t2,t3⟩,_,sz,rp,rq,r0,sp,sr⟩,lp,lq,lr⟩:=w
 exact⟨⟨by rw[List.length_set];exact x1,λb hb n=>by rw[Yy2 (by simp at n;lia)];exact x2 b hb n⟩,⟨⟨⟨k,Zb5 rp e⟩,Zb5 rq c,t1,t2,t3⟩,⟨a,b,Yy6 hr⟩,Zb5 .l sz,rp,rq,r0,sp,sr⟩,lp,lq,lr⟩
abbrev szV(pp n s:Nat): V:=.tup [.int pp,.int n,.ref s]
def Zf9(p q r s:Nat)(ns:List Int)(ps:List Nat)(pp n d:Nat)(F:List V->Hp->Option (V×Hp)): Prop:=∀(K:Hp) (c:Nat),c<=4->Wc p q r s ns ps K->Ok (F [.ref p,szV pp n s,.ref r,.int d,.int c] K) λv K'=>Wr p q r s ns ps K K'/\∃a vs ts F,v=.ref a/\K'[a]?=some vs/\RFs K' vs ts F/\a∉F/\(∀b∈a::F,K.length<=b)/\ts.length<=c/\∀t∈ts,StQ (Pl7 pp n ps) (Zbk n) d t
def StH(p q r s:Nat)(ns:List Int)(ps:List Nat)(pp n d:Nat)(K:Hp)(c:Option (V×Hp)): Prop:=Ok c λv K'=>Wr p q r s ns ps K K'/\∃t F,RF K' v t F/\(∀b∈F,K.length<=b)/\StQ (Pl7 pp n ps) (Zbk n) d t
theorem ZiQ{x:Nat}{a:Int}(h0:0<x)(hx:x<=n)(ha:C60 a): SumOk n ((a::List.replicate n 0).set x 1):=by
 refine SumOk.set ⟨.s,by simpa using ha,λk hk=>?_⟩ h0 ⟨.d,.d⟩
 rw[List.drop_succ_cons,List.drop_zero]at hk
 rw[(List.mem_replicate.mp hk).2]
 exact⟨.d,.d⟩
theorem rfs_app{H:Hp}{ws:List V}{us:List T}{G:List Nat}(k:RFs H ws us G): ∀{vs:List V} {ts:List T} {F:List Nat},RFs H vs ts F->RFs H (vs++ws) (ts++us) (F++G)
 | _,_,_,.nil=>k
 | _,_,_,.cons a b=>by
  rw[List.cons_append,List.cons_append,List.append_assoc]
  exact .cons a (rfs_app k b)
theorem ctV{x:Nat}{a:Int}: ([V.int a]++List.replicate ((n:Nat):Int).toNat (V.int 0)).set ((x:Nat):Int).toNat (.int 1)=((a::List.replicate n 0).set x 1).map V.int:=by
 rw[List.map_set];simp
theorem ZpW{x:Nat}{F:List V->Hp->Option (V×Hp)}(hF:Zf9 p q r s ns ps pp n d F)(w:Wc p q r s ns ps K)(hn:n<=100)(hx:x=0∨(pp<x/\x<=n)): StH p q r s ns ps pp n (d+1) K (Ze9 F [.ref p,szV pp n s,.ref r,.int (d+1:Nat),.int x] K):=by
 have e6:=T60_eq
 have hd:((d+1:Nat):Int)-1=d:=by lia
 have w0:=w.wr
 have hp:=w0.lp
 have hr:=w0.lr
 unfold Ze9 Zg4
 refine Zac rfl ?_
 repeat' walk_at "ok"
 refine(Z0 w.tp .d).mono ?_
 intro _ K1 q9;obtain⟨x1,i,rfl,i0,i1⟩:=q9
 have w1:=w0.draw x1
 repeat' walk_at "ok"
 refine(Zej w1.c.tp hn).mono ?_
 intro vc K2 q9;obtain⟨x2,c,Fc,hc,rc,fc⟩:=q9
 have w2:=w1.draw x2
 repeat' walk_at "ok"
 refine(Z0 w2.c.tp .d).mono ?_
 intro _ K3 q9;obtain⟨x3,j,rfl,j0,j1⟩:=q9
 have w3:=w2.draw x3
 obtain⟨jn,rfl⟩:∃jn:Nat,j=jn:=⟨j.toNat,.l⟩
 repeat' walk_at "ok"
 rw[hd]
 refine(hF K3 jn .l w3.c).mono ?_
 intro _ K4 q9;obtain⟨y4,a,vs,ts,Fb,rfl,ea,rb,na,fb,lb,hb⟩:=q9
 have w4:=w3.trans y4
 obtain⟨r0,r1,er⟩:=w4.c.rm
 have l1:=w1.ex.1
 have l3:=w3.ex.1
 have l4:=w4.ex.1
 have fc':∀b∈Fc,K.length<=b:=λb m=>Nat.le_trans l1 (fc b m)
 have fb':∀b∈a::Fb,K.length<=b:=λb m=>Nat.le_trans l3 (fb b m)
 have rc4:RF K4 vc c Fc:=y4.rf (x3.rf rc λm=>by have:=fc' p m;lia) λb m=>by have:=fc' b m;lia
 have rl:RF K4 (.ref a) (.lst ts) (a::Fb):=.ref ea rb
 refine Zam (Za8 ?_)
 refine Okt.mono (Q:=λc H1=>c=decide (i=0∨r1=0)/\K4=H1) ?_ ?_
 ·by_cases h1:i=0
  ·repeat' walk_at "ok"
   exact⟨by simp[h1],rfl⟩
  ·by_cases h2:r1=0
   ·repeat' walk_at "ok"
    exact⟨by simp[h2],rfl⟩
   ·repeat' walk_at "ok"
    exact⟨by simp[h1,h2],rfl⟩
 intro _ _ q9;obtain⟨rfl,rfl⟩:=q9
 refine⟨λh=>?_,λh=>?_⟩
 ·repeat' walk_at "ok"
  refine(Z0 w4.c.tp .d).mono ?_
  intro _ K5 q9;obtain⟨x5,k,rfl,k0,k1⟩:=q9
  have w5:=w4.draw x5
  obtain⟨kn,rfl⟩:∃kn:Nat,k=kn:=⟨k.toNat,.l⟩
  repeat' walk_at "ok"
  rw[hd]
  refine(hF K5 kn .l w5.c).mono ?_
  intro _ K6 q9;obtain⟨y6,a',vs',ts',Fb',rfl,ea',rb',na',fb'',lb',hb'⟩:=q9
  have w6:=w5.trans y6
  have l5:=w5.ex.1
  have rc6:=y6.rf (x5.rf rc4 λm=>by have:=fc' p m;lia) λb m=>by have:=fc' b m;lia
  have rl6:=y6.rf (x5.rf rl λm=>by have:=fb' p m;omega) λb m=>by have:=fb' b m;omega
  repeat' walk_at "ok"
  refine⟨w6,Zii c ts ts',_,.tup (.cons (.str _) (.cons rc6 (.cons rl6 (.cons (.ref ea' rb') .nil)))),λb m=>?_,.inr (.inl ⟨c,ts,ts',rfl,hc,hb,hb',.l,.l⟩)⟩
  simp only[List.nil_append,List.append_nil,List.mem_append]at m
  rcases m with m | m | m
  ·exact fc' b m
  ·exact fb' b m
  ·exact Nat.le_trans l5 (fb'' b m)
 ·have h2:¬(i=0∨r1=0):=of_decide_eq_false h
  repeat' walk_at "ok"
  refine Zc5 er w.r0 .d .s ?_
  have w5:Wr p q r s ns ps K (K4.set r [.int r0,.int (r1-1)]):=w4.room
  have rc5:RF (K4.set r [.int r0,.int (r1-1)]) vc c Fc:=rc4.frame λb m=>Yy2 (by have:=fc' b m;lia)
  have rl5:RF (K4.set r [.int r0,.int (r1-1)]) (.ref a) (.lst ts) (a::Fb):=rl.frame λb m=>Yy2 (by have:=fb' b m;omega)
  have ea5:(K4.set r [.int r0,.int (r1-1)])[a]?=some vs:=Zb5 (by have:=fb' a Zz5;lia) ea
  have rb5:RFs (K4.set r [.int r0,.int (r1-1)]) vs ts Fb:=rb.frame λb m=>Yy2 (by have:=fb' b (Zz2 _ m);omega)
  rw[show [V.int r0,.int r1].set (1:Int).toNat (.int (r1-1))=[.int r0,.int (r1-1)]from rfl]
  generalize K4.set r [.int r0,.int (r1-1)]=K5 at *
  refine Zam (Za8 ?_)
  refine Okt.mono (Q:=λc H1=>c=decide (i=2/\0<x)/\K5=H1) ?_ ?_
  ·by_cases h1:i=2
   ·by_cases h3:0<x
    ·repeat' walk_at "ok"
     exact⟨by simp[h1,h3],rfl⟩
    ·repeat' walk_at "ok"
     exact⟨by simp[h3],rfl⟩
   ·repeat' walk_at "ok"
    exact⟨by simp[h1],rfl⟩
  intro _ _ q9;obtain⟨rfl,rfl⟩:=q9
  refine⟨λh=>?_,λh=>?_⟩
  ·obtain⟨h3,h4⟩:=of_decide_eq_true h
   repeat' walk_at "ok"
   refine(Z0 w5.c.tp .d).mono ?_
   intro _ K6 q9;obtain⟨x6,k,rfl,k0,k1⟩:=q9
   have w6:=w5.draw x6
   repeat' walk_at "ok"
   refine Zc5 (ZE _ _) .s .l (by simp;lia) ?_
   rw[ZhB,ctV]
   have w7:Wr p q r s ns ps K (K6++[[V.int (-k)]]++[[V.int 0]]++[List.replicate (n:Int).toNat (V.int 0)]):=w6.app.app.app
   have k7:Ws p q ns K5 (K6++[[V.int (-k)]]++[[V.int 0]]++[List.replicate (n:Int).toNat (V.int 0)]):=x6.app.app.app
   generalize K6++[[V.int (-k)]]++[[V.int 0]]++[List.replicate (n:Int).toNat (V.int 0)]=K7 at *
   have hs1:=ZiQ (n:=n) (x:=x) (a:=-k) h4 .l (by unfold C60;lia)
   generalize (-k::List.replicate n 0).set x 1=s1 at *
   have w8:Wr p q r s ns ps K (K7++[s1.map V.int]):=w7.app
   have k8:Ws p q ns K5 (K7++[s1.map V.int]):=k7.app
   have e8:(K7++[s1.map V.int])[K7.length]?=some (s1.map V.int):=ZE _ _
   have l7:=k7.ex.1
   have l5:=w5.ex.1
   generalize K7++[s1.map V.int]=K8 at *
   generalize K7.length=a8 at *
   repeat' walk_at "ok"
   refine(Z0 w8.c.tp .d).mono ?_
   intro _ K9 q9;obtain⟨x9,k',rfl,k0',k1'⟩:=q9
   have w9:=w8.draw x9
   have k9:=k8.trans x9
   have e9:=x9.at (show a8≠p by lia) e8
   repeat' walk_at "ok"
   refine Zc5 (ZE _ _) .s .l (by simp;lia) ?_
   rw[ZhB,ctV]
   have wA:Wr p q r s ns ps K (K9++[[V.int (1+k')]]++[[V.int 0]]++[List.replicate (n:Int).toNat (V.int 0)]):=w9.app.app.app
   have kA:Ws p q ns K5 (K9++[[V.int (1+k')]]++[[V.int 0]]++[List.replicate (n:Int).toNat (V.int 0)]):=k9.app.app.app
   have eA:(K9++[[V.int (1+k')]]++[[V.int 0]]++[List.replicate (n:Int).toNat (V.int 0)])[a8]?=some (s1.map V.int):=ZI (ZI (ZI e9))
   generalize K9++[[V.int (1+k')]]++[[V.int 0]]++[List.replicate (n:Int).toNat (V.int 0)]=KA at *
   have hs2:=ZiQ (n:=n) (x:=x) (a:=1+k') h4 .l (by unfold C60;lia)
   generalize ((1+k')::List.replicate n 0).set x 1=s2 at *
   have wB:Wr p q r s ns ps K (KA++[s2.map V.int]):=wA.app
   have kB:Ws p q ns K5 (KA++[s2.map V.int]):=kA.app
   have eB:(KA++[s2.map V.int])[KA.length]?=some (s2.map V.int):=ZE _ _
   have eB':=ZI (x:=s2.map V.int) eA
   have lA:=kA.ex.1
   generalize KA++[s2.map V.int]=KB at *
   generalize KA.length=aB at *
   have eaB:=kB.at (by have:=fb' a Zz5;lia) ea5
   have rbB:RFs KB vs ts Fb:=rb5.frame λb m=>kB.ex.2 b (rb5.lt b m) (by simp;have:=fb' b (Zz2 _ m);lia)
   have lv:vs.length=ts.length:=rb5.length
   repeat' walk_at "ok"
   generalize hX:KB++[[V.tup [V.str (Str.ofString "set"),V.int x,V.ref aB]]]=KC
   have wC:Wr p q r s ns ps K KC:=hX▸wB.app
   have rbC:RFs KC vs ts Fb:=hX▸rbB.ext _
   have eC:=ZI (x:=[V.tup [V.str (Str.ofString "set"),V.int x,V.ref aB]]) eB
   have eC':=ZI (x:=[V.tup [V.str (Str.ofString "set"),V.int x,V.ref aB]]) eB'
   rw[hX]at eC eC'
   have lK:=wC.ex.1
   refine⟨wC.app,ZeJ (.tup [.str wU,smL s1]) (ts++[.tup [.str (Str.ofString "set"),.int x,smL s2]]),_,.tup (.cons (.str _) (.cons (.tup (.cons (.str _) (.cons (Zbx (ZI eC')) .nil))) (.cons (.ref (ZE _ _) (rfs_app (.cons (.tup (.cons (.str _) (.cons (.int x) (.cons (Zbx (ZI eC)) .nil)))) .nil) (rbC.ext _))) .nil))),λb m=>?_,.inr (.inr ⟨_,_,rfl,⟨s1,hs1,.inl rfl⟩,λu m=>?_,by simp;lia⟩)⟩
   ·simp only[List.nil_append,List.append_nil,List.mem_append,List.mem_cons,List.not_mem_nil,or_false]at m
    have fbb:b∈Fb->K.length<=b:=λm=>fb' b (Zz2 _ m)
    rcases m with m | m | m | m
    ·lia
    ·lia
    ·exact fbb m
    ·lia
   ·rcases Zz8.mp m with m | m
    ·exact hb u m
    ·rw[List.mem_singleton.mp m]
     exact StQ.plain (.inr (.inl ⟨x,s2,.l,.l,hs2,rfl⟩))
  ·repeat' walk_at "ok"
   refine⟨w5,ZeJ c ts,_,.tup (.cons (.str _) (.cons rc5 (.cons rl5 .nil))),λb m=>?_,.inr (.inr ⟨c,ts,rfl,hc,hb,.l⟩)⟩
   simp only[List.nil_append,List.append_nil,List.mem_append]at m
   rcases m with m | m
   ·exact fc' b m
   ·exact fb' b m
end
end L
open PySem PySem.W PyProof.Rows PM TM My
namespace L
def Tst(t:Ts)(O:Lc)(H:Hp)(A:Bool): Prop:=Okt (t O H) λb M=>b=A/\M=H
local macro_rules|`(tactic|walk_at "tst")=>`(tactic|(unfold Tst; (repeat' walk_at "ok"); exact ⟨rfl, rfl⟩))
theorem Zlk{t u:Ts}{A B:Bool}{T:Bool->Hp->Prop}(h1:Tst t O H A)(h2:Tst u O H B)(k:T (A && B) H): Okt (ZX t (ZX u ZD) O H) T:=by
 refine ZcL (Okt.mono h1 ?_)
 intro _ _ q9;obtain⟨rfl,rfl⟩:=q9
 refine⟨?_,?_⟩
 ·rintro rfl
  refine ZcL (Okt.mono h2 ?_)
  intro _ _ q9;obtain⟨rfl,rfl⟩:=q9
  exact⟨λe=>Zbu (by simpa [e]using k),λe=>by simpa [e]using k⟩
 ·rintro rfl
  simpa using k
theorem Zrb{t u:Ts}{A B:Bool}{T:Bool->Hp->Prop}(h1:Tst t O H A)(h2:Tst u O H B)(k:T (A || B) H): Okt (tOr t (tOr u Zb2) O H) T:=by
 refine ZhT (Okt.mono h1 ?_)
 intro _ _ q9;obtain⟨rfl,rfl⟩:=q9
 refine⟨?_,?_⟩
 ·rintro rfl
  simpa using k
 ·rintro rfl
  refine ZhT (Okt.mono h2 ?_)
  intro _ _ q9;obtain⟨rfl,rfl⟩:=q9
  exact⟨λe=>by simpa [e]using k,λe=>Zja (by simpa [e]using k)⟩
section
variable {p q r s:Nat} {ns:List Int} {ps:List Nat} {H K M:Hp}
theorem ZhV{L:List V->Hp->Prop}(t:Tp p q ns K)(hn:n<=100)(hk:k<=100)(e0:O 0=some (.ref p))(ej:O j=some (.int n))(hj:j≠100)(done:∀vs M (ss:List (List Int)) F,Ws p q ns K M->RFs M vs (ss.map smL) F->(∀b∈F,K.length<=b)->ss.length=k->(∀s∈ss,SumOk n s)->L vs M): Okl (Zad (ZaK 0 1 k) (Zu 100) ZD (Zg ZbW (Zb (Za 0) (Zb (Za j) Ze))) O (k+1) 0 [] K) L:=by
 have hp:=t.lt
 refine ZbC (λi acc M=>∃(ss:List (List Int)) (F:List Nat),Ws p q ns K M/\RFs M acc (ss.map smL) F/\(∀b∈F,K.length<=b)/\ss.length=i/\∀s∈ss,SumOk n s) (by rw[ZC];lia) ⟨[],[],t.ws,.nil,.s,rfl,.s⟩ ?_ (λacc K h=>by simp) (λacc M ⟨ss,F,w,rf,hf,hl,hs⟩=>done acc M ss F w rf hf hl hs)
 intro i acc M hi q9;obtain⟨ss,F,w,rf,hf,hl,hs⟩:=q9
 refine⟨by rw[rf.length];simp[hl],.int i,_,by rw[Ze7,if_pos hi];simp,ZbH _ _ _,Zbu ⟨λ_=>?_,.s⟩⟩
 refine Za1 (Z8 (ZA (Zce .d e0) (Z8 (ZA (Zce hj ej) (Zas ?_)))))
 refine(ZeA w.tp hn).mono ?_
 intro v M1 q9;obtain⟨x1,_,G,⟨s,rfl,hs1⟩,r1,g1⟩:=q9
 have l1:=w.ex.1
 refine⟨ss++[s],F++G,w.trans x1,?_,?_,by simp[hl],?_⟩
 ·rw[List.map_append]
  exact List.append_nil G▸rfs_app (.cons r1 .nil) (rf.frame λa m=>x1.ex.2 a (rf.lt a m) (by simp;have:=hf a m;lia))
 ·intro b m
  rcases Zz8.mp m with m | m
  ·exact hf b m
  ·exact Nat.le_trans l1 (g1 b m)
 ·intro u m
  rcases Zz8.mp m with m | m
  ·exact hs u m
  ·rw[List.mem_singleton.mp m];exact hs1
theorem StH.up{c:Option (V×Hp)}(w:Wr p q r s ns ps H K)(h:StH p q r s ns ps pp n d K c): StH p q r s ns ps pp n d H c:=h.mono λv M ⟨u,t,F,rf,hf,hs⟩=>⟨w.trans u,t,F,rf,λb m=>Nat.le_trans w.ex.1 (hf b m),hs⟩
theorem ZlZ{F:List V->Hp->Option (V×Hp)}(hF:∀e,d=e+1->Zf9 p q r s ns ps pp n e F)(w:Wc p q r s ns ps K)(hn:n<=100)(hpn:pp<=n)(hps:ps.length<=100)(hq:∀q∈ps,q<=100): StH p q r s ns ps pp n d K (ZeT F [.ref p,szV pp n s,.ref r,.int d] K):=by
 have hp:=w.tp.lt
 unfold ZeT Zgt
 refine Zac rfl ?_
 repeat' walk_at "ok"
 refine(Z0 w.tp .d).mono ?_
 intro _ K1 q9;obtain⟨x1,i,rfl,i0,i1⟩:=q9
 have w1:=w.wr.draw x1
 refine Zam (Zb4 (Zao (ZcP (λO M=>∃x:Nat,(x=0∨(pp<x/\x<=n))/\Wr p q r s ns ps K M/\O 0=some (.ref p)/\O 1=some (szV pp n s)/\O 2=some (.ref r)/\O 3=some (.int d)/\O 4=some (.int n)/\O 5=some (.int i)/\O 6=some (.int x)) ?_ ?_)))
 ·by_cases h:pp<n
  ·repeat' walk_at "ok"
   refine(Z0 w1.c.tp .l).mono ?_
   intro _ K2 q9;obtain⟨x2,j,rfl,j0,j1⟩:=q9
   repeat' walk_at "ok"
   exact⟨((pp:Int)+1+j).toNat,.inr ⟨.l,.l⟩,w1.draw x2,by walk_at "rd",by walk_at "rd",by walk_at "rd",by walk_at "rd",by walk_at "rd",by walk_at "rd",by rw[Int.toNat_of_nonneg .l];walk_at "rd"⟩
  ·repeat' walk_at "ok"
   exact⟨0,.inl rfl,w1,by walk_at "rd",by walk_at "rd",by walk_at "rd",by walk_at "rd",by walk_at "rd",by walk_at "rd",by walk_at "rd"⟩
 intro O K2 q9;obtain⟨x,hx,w2,e0,e1,e2,e3,e4,e5,e6⟩:=q9
 have l2:=w2.ex.1
 have es:=w2.c.sz
 have done:∀{M:Hp} {v:V} {t:T} {G:List Nat},Ws p q ns K2 M->RF M v t G->(∀b∈G,K2.length<=b)->Pl7 pp n ps t->Wr p q r s ns ps K M/\∃t F,RF M v t F/\(∀b∈F,K.length<=b)/\StQ (Pl7 pp n ps) (Zbk n) d t:=λ{M v t G} u rf hf h=>⟨w2.draw u,t,G,rf,λb m=>Nat.le_trans l2 (hf b m),StQ.plain h⟩
 refine Zam (Za8 (Zlk (A:=decide (i<4)) (B:=decide ((0:Int)<d)) (by walk_at "tst") (by walk_at "tst") ⟨λh=>?_,λh=>?_⟩))
 ·obtain⟨e,rfl⟩:∃e,d=e+1:=⟨d-1,by simp at h;lia⟩
  repeat' walk_at "ok"
  exact StH.up w2 (ZpW (hF e rfl) w2.c hn hx)
 refine Zbv (Zam (Za8 (Zrb (A:=(i == 4)) (B:=((x:Int) == 0)) (by walk_at "tst") (by walk_at "tst") ⟨λh=>?_,λh=>?_⟩)))
 ·repeat' walk_at "ok"
  refine(Zej w2.c.tp hn).mono ?_
  intro v K3 q9;obtain⟨x3,c,G,hc,rc,fc⟩:=q9
  repeat' walk_at "ok"
  exact done x3 (.tup (.cons (.str _) (.cons rc .nil))) (λb m=>fc b (by simpa using m)) (.inl ⟨c,hc,rfl⟩)
 simp only[Bool.or_eq_false_iff,beq_eq_false_iff_ne]at h
 have hx':pp<x/\x<=n:=by lia
 refine Zbv (Zam (Za8 (Zlk (A:=(i == 5)) (B:=decide ((0:Int)<(ps.map λi=>V.int (i:Nat)).length)) (by walk_at "tst") (by walk_at "tst") ⟨λg=>?_,λg=>?_⟩)))
 ·simp at g
  repeat' walk_at "ok"
  refine(Z0 w2.c.tp (by simp;lia)).mono ?_
  intro _ K3 q9;obtain⟨x3,j,rfl,j0,j1⟩:=q9
  rw[List.length_map]at j1
  obtain⟨f,rfl⟩:∃f:Nat,j=f:=⟨j.toNat,.l⟩
  have hf:f<ps.length:=by lia
  have hk:=hq ps[f] (List.getElem_mem hf)
  have ek:ps[f]?=some ps[f]:=Yy1 hf
  generalize ps[f]=k at hk ek
  have ek':(ps.map λi=>V.int (i:Nat))[((f:Nat):Int).toNat]?=some (.int k):=by simp[ek]
  have es3:=x3.at w2.c.sp es
  repeat' walk_at "ok"
  refine ZhV x3.tp hn hk (by walk_at "rd") (by walk_at "rd") .d λvs M ss G u rf hG hl hs=>?_
  repeat' walk_at "ok"
  have l3:=x3.ex.1
  have lM:=u.ex.1
  refine done (x3.trans u).app (t:=.tup [.str (Str.ofString "call"),.int x,.int f,.lst (ss.map smL)]) (.tup (.cons (.str _) (.cons (.int _) (.cons (.int _) (.cons (.ref (ZE _ _) (rf.ext _)) .nil))))) (λb m=>?_) (.inr (.inr (.inr (.inr ⟨x,f,ss,k,.l,.l,ek,hl,hs,rfl⟩))))
  simp only[List.nil_append,List.append_nil,List.mem_cons]at m
  rcases m with m | m
  ·lia
  ·have:=hG b m;lia
 by_cases h6:i=6
 ·repeat' walk_at "ok"
  refine(ZqT w2.c.tp).mono ?_
  intro v K3 q9;obtain⟨x3,t,G,⟨lo,hi,h1,h2,h3,rfl⟩,rf,hG⟩:=q9
  exact done x3 rf hG (.inr (.inr (.inr (.inl ⟨x,lo,hi,.l,.l,h1,h2,h3,rfl⟩))))
 by_cases h8:i>8
 ·obtain rfl | rfl:i=9∨i=10:=by lia
  all_goals
   repeat' walk_at "ok"
   refine(ZeA (w2.c.tp.ws.app).tp hn).mono ?_
   intro v K3 q9;obtain⟨x3,_,G,⟨s1,rfl,hs⟩,rf,hG⟩:=q9
   repeat' walk_at "ok"
   refine(ZkT x3.tp).mono ?_
   intro _ K4 q9;obtain⟨x4,e,rfl,d1,d2⟩:=q9
   repeat' walk_at "ok"
   have hG':∀b∈G,K2.length<=b:=λb m=>by have:=hG b m;simp at this;lia
   refine done (((w2.c.tp.ws.app).trans x3).trans x4) (.tup (.cons (.str _) (.cons (.int _) (.cons (x4.rf rf λm=>by have:=hG' p m;lia) (.cons (.int _) .nil))))) (λb m=>hG' b (by simpa using m)) (.inr (.inr (.inl ⟨_,x,s1,e,?_,.l,.l,hs,d1,d2,rfl⟩)))
   first | exact .inl rfl | exact .inr rfl
 repeat' walk_at "ok"
 refine(ZeA w2.c.tp hn).mono ?_
 intro v K3 q9;obtain⟨x3,_,G,⟨s1,rfl,hs⟩,rf,hG⟩:=q9
 repeat' walk_at "ok"
 exact done x3 (.tup (.cons (.str _) (.cons (.int _) (.cons rf .nil)))) (λb m=>hG b (by simpa using m)) (.inr (.inl ⟨x,s1,.o,.o,hs,rfl⟩))
theorem ZfQ{pp n:Nat}(hn:n<=100)(hpn:pp<=n)(hps:ps.length<=100)(hq:∀q∈ps,q<=100): ∀{m d:Nat},d<m->Zf9 p q r s ns ps pp n d (Zc1 m)
 | m+1,d,hd=>by
  intro K c hc w
  have hF:∀e,d=e+1->Zf9 p q r s ns ps pp n e (Zc1 m):=λe h=>ZfQ hn hpn hps hq .l
  have hp:=w.wr.lp
  have hr:=w.wr.lr
  have hs:=lt_of_at w.sz
  show Ok (Zr 5 (Zfa (Zc1 m)) _ K) _
  unfold Zfa
  refine Zac rfl ?_
  repeat' walk_at "ok"
  generalize hL:K.length=a
  refine Zft (m:=c) (λi O M=>O 0=some (.ref p)/\O 1=some (szV pp n s)/\O 2=some (.ref r)/\O 3=some (.int d)/\O 5=some (.ref a)/\Wr p q r s ns ps K M/\∃vs ts F,M[a]?=some vs/\RFs M vs ts F/\a∉F/\(∀b∈F,K.length<=b)/\ts.length<=i/\∀t∈ts,StQ (Pl7 pp n ps) (Zbk n) d t) ?_ ?_ ?_
  ·exact⟨by walk_at "rd",by walk_at "rd",by walk_at "rd",by walk_at "rd",by walk_at "rd",w.wr.app,[],[],[],by rw[<-hL];exact ZE _ _,.nil,.s,.s,.s,.s⟩
  ·intro i O M hi q9;obtain⟨e0,e1,e2,e3,e5,wM,vs,ts,G,ea,rv,na,hG,hl,hS⟩:=q9
   obtain⟨r0,r1,er⟩:=wM.c.rm
   by_cases h:r0>0
   ·repeat' walk_at "ok"
    refine Zc5 er w.r0 .d .s ?_
    rw[show [V.int r0,.int r1].set (0:Int).toNat (.int (r0-1))=[.int (r0-1),.int r1]from rfl]
    have w1:Wr p q r s ns ps K (M.set r [.int (r0-1),.int r1]):=wM.room
    have ea1:(M.set r [.int (r0-1),.int r1])[a]?=some vs:=Zb5 .l ea
    have rv1:RFs (M.set r [.int (r0-1),.int r1]) vs ts G:=rv.frame λb m=>Yy2 (by have:=hG b m;lia)
    generalize M.set r [.int (r0-1),.int r1]=M1 at *
    repeat' walk_at "ok"
    refine(ZlZ hF w1.c hn hpn hps hq).mono ?_
    intro v M2 q9;obtain⟨y2,t,F,rf,hf,hst⟩:=q9
    have ea2:=y2.at .l .l ea1
    have rv2:=y2.rfs rv1 λb m=>by have:=hG b m;lia
    have l1:=lt_of_at ea1
    have lv:=rv.length
    refine Zc3 ea2 .l (by rw[ZC];lia) ?_
    have ne:∀b∈F,b≠a:=λb m=>by have:=hf b m;lia
    refine⟨by walk_at "rd",by walk_at "rd",by walk_at "rd",by walk_at "rd",by walk_at "rd",(w1.trans y2).set .l .l,vs++[v],ts++[t],G++F,Yy6 (lt_of_at ea2),?_,?_,?_,by simp;omega,?_⟩
    ·exact List.append_nil F▸rfs_app (.cons (rf.frame λb m=>Yy2 (Ne.symm (ne b m))) .nil) (rv2.frame λb m=>Yy2 λz=>na (by rw[z];exact m))
    ·simp only[List.mem_append,not_or]
     exact⟨na,λm=>ne a m rfl⟩
    ·intro b m
     rcases Zz8.mp m with m | m
     ·exact hG b m
     ·have:=hf b m;have:=w1.ex.1;lia
    ·intro u m
     rcases Zz8.mp m with m | m
     ·exact hS u m
     ·rw[List.mem_singleton.mp m];exact hst
   ·repeat' walk_at "ok"
    exact⟨by walk_at "rd",by walk_at "rd",by walk_at "rd",by walk_at "rd",by walk_at "rd",wM,vs,ts,G,ea,rv,na,hG,.l,hS⟩
  ·intro O M q9;obtain⟨e0,e1,e2,e3,e5,wM,vs,ts,G,ea,rv,na,hG,hl,hS⟩:=q9
   repeat' walk_at "ok"
   refine⟨wM,a,vs,ts,G,rfl,ea,rv,na,λb m=>?_,hl,hS⟩
   rcases Zz7.mp m with rfl | m
   ·lia
   ·rw[<-hL];exact hG b m
end
end L
open PySem PySem.W PyProof.Rows PM TM My
local macro_rules|`(tactic|walk_at "rds")=>`(tactic|repeat' (first | walk_at "rd" | (refine ⟨by walk_at "rd", ?_⟩)))
namespace L
theorem Zek{b:Bool}(h:Q (.int (if b then 1 else 0)) H): Ok (ZdL [.bool b] H) Q:=⟨_,_,rfl,h⟩
section
variable {p q r s:Nat} {ns:List Int} {ps:List Nat} {H K M:Hp}
def Bd(H:Hp)(ps:List Nat)(pp n d k a:Nat)(M:Hp): Prop:=∃vs ts F,M[a]?=some vs/\RFs M vs ts F/\a∉F/\(∀b∈a::F,H.length<=b)/\ts.length<=k/\∀t∈ts,StQ (Pl7 pp n ps) (Zbk n) d t
variable {pp n d k a:Nat}
theorem Bd.keep(h:Bd H ps pp n d k a K)(e:∀b,H.length<=b->b<K.length->M[b]?=K[b]?): Bd H ps pp n d k a M:=by
 obtain⟨vs,ts,F,ea,rf,na,hf,hl,hs⟩:=h
 exact⟨vs,ts,F,(e a (hf a Zz5) (lt_of_at ea)).trans ea,rf.frame λb m=>e b (hf b (Zz2 _ m)) (rf.lt b m),na,hf,hl,hs⟩
theorem Bd.ws(h:Bd H ps pp n d k a K)(u:Ws p q ns K M)(hp:p<H.length): Bd H ps pp n d k a M:=h.keep λb hb l=>u.ex.2 b l (by simp;lia)
theorem Bd.le(h:Bd H ps pp n d k a M)(l:k<=k'): Bd H ps pp n d k' a M:=by
 obtain⟨vs,ts,F,ea,rf,na,hf,hl,hs⟩:=h
 exact⟨vs,ts,F,ea,rf,na,hf,Nat.le_trans hl l,hs⟩
theorem Bd.ne(h:Bd H ps pp n d k a M)(hp:p<H.length): a≠0:=by
 obtain⟨vs,ts,F,ea,rf,na,hf,hl,hs⟩:=h
 have:=hf a Zz5
 lia
theorem Bd.ge(h:Bd H ps pp n d k a M): H.length<=a:=by
 obtain⟨vs,ts,F,ea,rf,na,hf,hl,hs⟩:=h
 exact hf a Zz5
theorem Bd.push(h:Bd H ps pp n d k a M)(rf:RF M v t G)(hG:∀b∈G,H.length<=b/\b≠a)(ht:StQ (Pl7 pp n ps) (Zbk n) d t)(hp:p<H.length)(hk:k<=50)(done:∀vs,Bd H ps pp n d (k+1) a (M.set a vs)->Q .none (M.set a vs)): Ok (Za0 [.ref a,v] M) Q:=by
 have h0:=h.ne hp
 obtain⟨vs,ts,F,ea,rv,na,hf,hl,hs⟩:=h
 have lv:=rv.length
 refine Zc3 ea h0 (by rw[ZC];lia) (done _ ⟨vs++[v],ts++[t],F++G,Yy6 (lt_of_at ea),?_,?_,?_,by simp;omega,?_⟩)
 ·exact List.append_nil G▸rfs_app (.cons (rf.frame λb m=>Yy2 (Ne.symm (hG b m).2)) .nil) (rv.frame λb m=>Yy2 λz=>na (by rw[z];exact m))
 ·simp only[List.mem_append,not_or]
  exact⟨na,λm=>(hG a m).2 rfl⟩
 ·intro b m
  simp only[List.mem_cons,List.mem_append]at m hf
  rcases m with m | m | m
  ·exact hf b (.inl m)
  ·exact hf b (.inr m)
  ·exact(hG b m).1
 ·intro u m
  rcases Zz8.mp m with m | m
  ·exact hs u m
  ·rw[List.mem_singleton.mp m];exact ht
theorem Ws.body(w:Ws p q ns H K)(u:Wr p q r s ns ps K M)(hr:H.length<=r): Ws p q ns H M:=⟨⟨Nat.le_trans w.ex.1 u.ex.1,λb hb n=>(u.ex.2 b (Nat.lt_of_lt_of_le hb w.ex.1) (by simp at n ⊢;lia)).trans (w.ex.2 b hb n)⟩,u.c.tp,w.lp,w.lq⟩
theorem Tp.room{x y:Int}(t:Tp p q ns K)(es:K[s]?=some (ps.map λi=>V.int (i:Nat)))(sp:s≠p): Wc p q K.length s ns ps (K++[[.int x,.int y]]):=by
 have h1:=t.lt
 have h2:=t.lq
 have h3:=lt_of_at es
 exact⟨t.ws.app.tp,⟨x,y,ZE _ _⟩,ZI es,.l,.l,.l,sp,.l⟩
theorem ZpX{v:Int}(h0:0<=v)(h1:v<12): ∃z:Nat,z<=4/\([0,1,1,0,1,2,1,0,3,1,1,4]:List Int).getD v.toNat 0=z:=Zls .d _
theorem Znh{few:Bool}(t:Tp p q ns K)(es:K[s]?=some (ps.map λi=>V.int (i:Nat)))(sp:s≠p)(hps:ps.length<=100)(hq:∀q∈ps,q<=100): Ok (Ze4 [.ref p,.ref s,.bool few] K) λv M=>Ws p q ns K M/\∃pp n a:Nat,v=.tup [.int pp,.int n,.ref a]/\pp<=n/\1<=n/\n<=4/\Bd K ps pp n 1 4 a M:=by
 have hp:=t.lt
 have hs:=lt_of_at es
 unfold Ze4 ZgM
 refine Zac rfl ?_
 repeat' walk_at "ok"
 refine(Z0 t.ws.app.tp .d).mono ?_
 intro _ K1 q9;obtain⟨x1,i,rfl,i0,i1⟩:=q9
 obtain⟨pp,hp4,epp⟩:=ZpX i0 i1
 refine Zdy (ns:=[0,1,1,0,1,2,1,0,3,1,1,4]) (x1.at .l (ZE _ _)) i0 (by simp;omega) ?_
 rw[epp]
 repeat' walk_at "ok"
 refine(Z0 x1.tp .d).mono ?_
 intro _ K2 q9;obtain⟨x2,w,rfl,w0,w1⟩:=q9
 iterate 3 walk_at "ok"
 obtain⟨n,hn,n1,n4,pn⟩:∃n:Nat,(if(if(pp:Int)+w>1 then(pp:Int)+w else 1)<4 then if(pp:Int)+w>1 then(pp:Int)+w else 1 else 4)=n/\1<=n/\n<=4/\pp<=n:=by
  refine⟨(if(if(pp:Int)+w>1 then(pp:Int)+w else 1)<4 then if(pp:Int)+w>1 then(pp:Int)+w else 1 else 4).toNat,?_,?_,?_,?_⟩
  all_goals split <;> split <;> lia
 rw[hn]
 have z2:Ws p q ns K K2:=((t.ws.app).trans x1).trans x2
 refine ZcP (λO M=>∃fl:Int,O 5=some (.int fl)/\Ws p q ns K M/\O 0=some (.ref p)/\O 1=some (.ref s)/\O 3=some (.int pp)/\O 4=some (.int n)) ?_ ?_
 ·by_cases h:(n:Int)<3
  ·first|exact Yx0 few|cases few
   ·repeat' walk_at "ok"
    refine(Z0 z2.tp .d).mono ?_
    intro _ K3 q9;obtain⟨x3,j,rfl,j0,j1⟩:=q9
    repeat' walk_at "ok"
    refine Zek ⟨_,rfl,z2.trans x3,?_⟩
    walk_at "rds"
   ·repeat' walk_at "ok"
    refine Zek ⟨_,rfl,z2,?_⟩
    walk_at "rds"
  ·repeat' walk_at "ok"
   refine Zek ⟨_,rfl,z2,?_⟩
   walk_at "rds"
 intro O K3 q9;obtain⟨fl,e5,z3,e0,e1,e3,e4⟩:=q9
 repeat' walk_at "ok"
 have c4:=z3.tp.room (x:=2) (y:=fl) (z3.at sp es) sp
 have l3:=z3.ex.1
 refine(Z0 c4.tp .d).mono ?_
 intro _ K4 q9;obtain⟨x4,c,rfl,c0,c1⟩:=q9
 obtain⟨c,rfl⟩:∃k:Nat,c=k:=⟨c.toNat,.l⟩
 have c5:=c4.wr.draw x4
 repeat' walk_at "ok"
 refine(ZfQ .l pn hps hq (m:=9) (d:=1) .d K4 c .l c5.c).mono ?_
 intro _ K5 q9;obtain⟨y5,a,vs,ts,Fb,rfl,ea,rb,na,fb,lb,hb⟩:=q9
 have z4:Ws p q ns K K4:=z3.app.trans x4
 have z5:Ws p q ns K K5:=z4.body y5 l3
 have bd:Bd K ps pp n 1 3 a K5:=⟨vs,ts,Fb,ea,rb,na,λb m=>Nat.le_trans z4.ex.1 (fb b m),.l,hb⟩
 clear ea rb na fb lb hb y5 c5 c4 x4 z4 z3
 refine ZcP (λO M=>Ws p q ns K M/\Bd K ps pp n 1 4 a M/\O 3=some (.int pp)/\O 4=some (.int n)/\O 6=some (.ref a)) ?_ ?_
 ·have es5:=z5.at sp es
  by_cases h1:(n:Int)>pp
  ·by_cases h2:(ps.length:Int)>0
   ·repeat' walk_at "ok"
    refine(Z0 z5.tp .d).mono ?_
    intro _ K6 q9;obtain⟨x6,j,rfl,j0,j1⟩:=q9
    have es6:=x6.at sp es5
    by_cases h3:j=2
    ·repeat' walk_at "ok"
     refine(Z0 x6.tp (by simp;lia)).mono ?_
     intro _ K7 q9;obtain⟨x7,j,rfl,j0,j1⟩:=q9
     rw[List.length_map]at j1
     obtain⟨f,rfl⟩:∃f:Nat,j=f:=⟨j.toNat,.l⟩
     have hf:f<ps.length:=by lia
     have hk:=hq ps[f] (List.getElem_mem hf)
     have ek:ps[f]?=some ps[f]:=Yy1 hf
     generalize ps[f]=k at hk ek
     have ek':(ps.map λi=>V.int (i:Nat))[((f:Nat):Int).toNat]?=some (.int k):=by simp[ek]
     have es7:=x7.at sp es6
     repeat' walk_at "ok"
     refine ZhV (n:=n) x7.tp .l hk (by walk_at "rd") (by walk_at "rd") .d λvs M ss G u rf hG hl hs=>?_
     repeat' walk_at "ok"
     have z7:=(z5.trans x6).trans x7
     have b7:=(bd.ws x6 hp).ws x7 hp
     obtain⟨_,_,_,ea7,_⟩:=b7
     have a7:=lt_of_at ea7
     have l7:=z7.ex.1
     have lu:=u.ex.1
     refine Bd.push (((bd.ws x6 hp).ws x7 hp).ws u.app hp) (t:=.tup [.str (Str.ofString "call"),.int n,.int f,.lst (ss.map smL)]) (.tup (.cons (.str _) (.cons (.int _) (.cons (.int _) (.cons (.ref (ZE _ _) (rf.ext _)) .nil))))) (λb m=>?_) (StQ.plain (.inr (.inr (.inr (.inr ⟨n,f,ss,k,.l,.l,ek,hl,hs,rfl⟩))))) hp .d λvs' h=>⟨(z7.trans u).app.set bd.ge,h,?_⟩
     ·simp only[List.nil_append,List.append_nil,List.mem_cons]at m
      rcases m with rfl | m
      ·lia
      ·have:=hG b m;lia
     ·walk_at "rds"
    ·repeat' walk_at "ok"
     exact⟨z5.trans x6,(bd.ws x6 hp).le .d,by walk_at "rds"⟩
   ·repeat' walk_at "ok"
    exact⟨z5,bd.le .d,by walk_at "rds"⟩
  ·repeat' walk_at "ok"
   exact⟨z5,bd.le .d,by walk_at "rds"⟩
 intro O M q9;obtain⟨z,b,e3,e4,e6⟩:=q9
 repeat' walk_at "ok"
 exact⟨z,pp,n,a,rfl,pn,n1,n4,b⟩
end
end L
open PySem PySem.W PyProof.Rows PM TM My
local macro_rules|`(tactic|walk_at "rds")=>`(tactic|repeat' (first | walk_at "rd" | (refine ⟨by walk_at "rd", ?_⟩)))
namespace L
def FR(H M:Hp)(v:V)(t:T): Prop:=∃F,RF M v t F/\∀b∈F,H.length<=b
def FRs(H M:Hp)(vs:List V)(ts:List T): Prop:=∃F,RFs M vs ts F/\∀b∈F,H.length<=b
section
variable {p q r s:Nat} {ns:List Int} {ps:List Nat} {H K M N:Hp} {v:V} {t:T} {vs:List V} {ts:List T} {pp n d k a:Nat}
theorem FR.int{i:Int}: FR H M (.int i) (.int i):=⟨_,.int i,.s⟩
theorem FR.str: FR H M (.str w) (.str w):=⟨_,.str w,.s⟩
theorem FRs.nil: FRs H M [] []:=⟨_,.nil,.s⟩
theorem FRs.cons(a:FR H M v t)(b:FRs H M vs ts): FRs H M (v::vs) (t::ts):=by
 obtain⟨F,r,hf⟩:=a
 obtain⟨G,r',hg⟩:=b
 exact⟨F++G,.cons r r',λb m=>(Zz8.mp m).elim (hf b) (hg b)⟩
theorem FRs.app{ws:List T}(a:FRs H M vs ts)(b:FRs H M us ws): FRs H M (vs++us) (ts++ws):=by
 obtain⟨F,r,hf⟩:=a
 obtain⟨G,r',hg⟩:=b
 exact⟨F++G,rfs_app r' r,λb m=>(Zz8.mp m).elim (hf b) (hg b)⟩
theorem FR.tup(a:FRs H M vs ts): FR H M (.tup vs) (.tup ts):=by
 obtain⟨F,r,hf⟩:=a
 exact⟨F,.tup r,hf⟩
theorem FR.lst(e:M[a]?=some vs)(h:H.length<=a)(r:FRs H M vs ts): FR H M (.ref a) (.lst ts):=by
 obtain⟨F,r,hf⟩:=r
 exact⟨_,.ref e r,λb m=>(Zz7.mp m).elim (λz=>z▸h) (hf b)⟩
theorem FR.keep(h:FR H M v t)(e:∀b,H.length<=b->b<M.length->N[b]?=M[b]?): FR H N v t:=by
 obtain⟨F,r,hf⟩:=h
 exact⟨F,r.frame λb m=>e b (hf b m) (r.lt b m),hf⟩
theorem FRs.keep(h:FRs H M vs ts)(e:∀b,H.length<=b->b<M.length->N[b]?=M[b]?): FRs H N vs ts:=by
 obtain⟨F,r,hf⟩:=h
 exact⟨F,r.frame λb m=>e b (hf b m) (r.lt b m),hf⟩
theorem Ws.kp(u:Ws p q ns K M)(hp:p<H.length): ∀b,H.length<=b->b<K.length->M[b]?=K[b]?:=λb hb l=>u.ex.2 b l (by simp;lia)
theorem ZkU: ∀b,H.length<=b->b<M.length->(M++X)[b]?=M[b]?:=λb _ l=>Yy0 l
theorem FR.ws(h:FR H K v t)(u:Ws p q ns K M)(hp:p<H.length): FR H M v t:=h.keep (u.kp hp)
theorem FRs.ws(h:FRs H K vs ts)(u:Ws p q ns K M)(hp:p<H.length): FRs H M vs ts:=h.keep (u.kp hp)
theorem FR.ext(h:FR H K v t): FR H (K++X) v t:=h.keep ZkU
theorem FRs.ext(h:FRs H K vs ts): FRs H (K++X) vs ts:=h.keep ZkU
theorem FR.ints{s:List Int}(e:M[a]?=some (s.map V.int))(h:H.length<=a): FR H M (.ref a) (smL s):=⟨_,Zbx e,λb m=>by simp at m;lia⟩
def Lf(H:Hp)(ps:List Nat)(pp n d k a:Nat)(M:Hp): Prop:=∃vs ts,M[a]?=some vs/\FRs H M vs ts/\H.length<=a/\ts.length<=k/\∀t∈ts,StQ (Pl7 pp n ps) (Zbk n) d t
theorem Bd.lf(h:Bd H ps pp n d k a M): Lf H ps pp n d k a M:=by
 obtain⟨vs,ts,F,ea,rf,na,hf,hl,hs⟩:=h
 exact⟨vs,ts,ea,⟨F,rf,λb m=>hf b (Zz2 _ m)⟩,hf a Zz5,hl,hs⟩
theorem Lf.keep(h:Lf H ps pp n d k a K)(e:∀b,H.length<=b->b<K.length->M[b]?=K[b]?): Lf H ps pp n d k a M:=by
 obtain⟨vs,ts,ea,rf,ha,hl,hs⟩:=h
 exact⟨vs,ts,(e a ha (lt_of_at ea)).trans ea,rf.keep e,ha,hl,hs⟩
theorem Lf.ws(h:Lf H ps pp n d k a K)(u:Ws p q ns K M)(hp:p<H.length): Lf H ps pp n d k a M:=h.keep (u.kp hp)
theorem Lf.le(h:Lf H ps pp n d k a M)(l:k<=k'): Lf H ps pp n d k' a M:=by
 obtain⟨vs,ts,ea,rf,ha,hl,hs⟩:=h
 exact⟨vs,ts,ea,rf,ha,Nat.le_trans hl l,hs⟩
theorem Lf.new(rf:FRs H M vs ts)(h:H.length<=M.length)(hk:ts.length<=k)(hs:∀t∈ts,StQ (Pl7 pp n ps) (Zbk n) d t): Lf H ps pp n d k M.length (M++[vs]):=⟨vs,ts,ZE _ _,rf.ext,h,hk,hs⟩
def zs(n:Nat)(a b:Int): List Int:=a::b::List.replicate (n-1) 0
theorem Zh8{a:Int}(hn:1<=n)(ha:C60 a)(hb:C9 b): SumOk n (zs n a b):=by
 refine⟨by simp[zs];lia,by simpa [zs]using ha,λk hk=>?_⟩
 simp only[zs,List.drop_succ_cons,List.drop_zero,List.mem_cons]at hk
 rcases hk with rfl | hk
 ·exact hb
 ·rw[(List.mem_replicate.mp hk).2];unfold C9;lia
theorem ZfR{A:Hp}(n:Nat)(x y:Int)(w:Ws p q ns K A): ∃C,A++[[V.int x,.int y]]++[(zs n x y).map V.int]=C/\Ws p q ns A C/\∃s,(A++[[V.int x,.int y]]).length=s/\FR K C (.ref s) (smL (zs n x y)):=⟨_,rfl,w.tp.ws.app.app,_,rfl,.ints (ZE _ _) w.app.ex.1⟩
theorem Zll(t:Tp p q ns K)(n1:1<=n)(n4:n<=4): Ok (Zd8 [.ref p,.int n] K) λv M=>Ws p q ns K M/\∃a,v=.ref a/\Lf K ps 0 n 2 3 a M:=by
 have e60:=T60_eq
 have hp:=t.lt
 have zsV:∀{x y:Int},[V.int x,V.int y]++(List.replicate (n-1) (0:Int)).map V.int=(zs n x y).map V.int:=rfl
 have st:∀{x y:Int},C60 x->C9 y->Pl7 0 n ps (.tup [.str (Str.ofString "set"),.int 1,smL (zs n x y)]):=λhx hy=>.inr (.inl ⟨1,_,.l,.o,Zh8 n1 hx hy,rfl⟩)
 unfold Zd8 Zha
 refine Zac rfl ?_
 repeat' walk_at "ok"
 refine(Z0 t .d).mono ?_
 intro _ K1 q9;obtain⟨x1,v,rfl,v0,v1⟩:=q9
 repeat' walk_at "ok"
 refine(Z0 x1.tp .d).mono ?_
 intro _ K2 q9;obtain⟨x2,w,rfl,w0,w1⟩:=q9
 have w2:=x1.trans x2
 repeat' walk_at "ok"
 have w3:Ws p q ns K (K2++[[V.int 0]]++[List.replicate ((n:Int)-1).toNat (V.int 0)]):=w2.app.app
 have e4:(K2++[[V.int 0]]++[List.replicate ((n:Int)-1).toNat (V.int 0)])[(K2++[[V.int 0]]).length]?=some ((List.replicate (n-1) (0:Int)).map V.int):=by
  rw[ZE,List.map_replicate,show((n:Int)-1).toNat=n-1 by lia]
 have hz:K.length<=(K2++[[V.int 0]]).length:=w2.app.ex.1
 generalize K2++[[V.int 0]]++[List.replicate ((n:Int)-1).toNat (V.int 0)]=K3 at *
 generalize (K2++[[V.int 0]]).length=z at *
 refine(Z0 w3.tp .d).mono ?_
 intro _ K4 q9;obtain⟨x4,x,rfl,y0,y1⟩:=q9
 have w4:=w3.trans x4
 have e4:=x4.at .l e4
 iterate 6 walk_at "ok"
 rw[zsV]
 have w5:Ws p q ns K (K4++[[V.int (1+x),.int 1]]++[(zs n (1+x) 1).map V.int]):=w4.app.app
 have e5:(K4++[[V.int (1+x),.int 1]]++[(zs n (1+x) 1).map V.int])[z]?=_:=ZI (ZI e4)
 have f5:FR K (K4++[[V.int (1+x),.int 1]]++[(zs n (1+x) 1).map V.int]) (.ref (K4++[[V.int (1+x),.int 1]]).length) (smL (zs n (1+x) 1)):=.ints (ZE _ _) w4.app.ex.1
 generalize K4++[[V.int (1+x),.int 1]]++[(zs n (1+x) 1).map V.int]=K5 at *
 generalize (K4++[[V.int (1+x),.int 1]]).length=s5 at *
 have l5:Lf K ps 0 n 1 1 K5.length (K5++[[.tup [.str (Str.ofString "set"),.int 1,.ref s5]]]):=.new (.cons (.tup (.cons .str (.cons .int (.cons f5 .nil)))) .nil) w5.ex.1 .s λt m=>by rw[List.mem_singleton.mp m];exact .plain (st (by unfold C60;lia) (by unfold C9;lia))
 have w6:Ws p q ns K (K5++[[.tup [.str (Str.ofString "set"),.int 1,.ref s5]]]):=w5.app
 have e6:(K5++[[.tup [.str (Str.ofString "set"),.int 1,.ref s5]]])[z]?=_:=ZI e5
 generalize K5++[[.tup [.str (Str.ofString "set"),.int 1,.ref s5]]]=K6 at *
 generalize K5.length=a5 at *
 refine ZcP (λO M=>∃a5:Nat,O 5=some (.ref a5)/\Ws p q ns K M/\M[z]?=some ((List.replicate (n-1) (0:Int)).map V.int)/\Lf K ps 0 n 1 2 a5 M/\O 0=some (.ref p)/\O 1=some (.int n)/\O 2=some (.int (v-8))/\O 3=some (.int (v-8+1+w))/\O 4=some (.ref z)) ?_ ?_
 ·by_cases h1:(n:Int)>1
  ·repeat' walk_at "ok"
   refine(Z0 w6.tp .d).mono ?_
   intro _ K7 q9;obtain⟨x7,j,rfl,j0,j1⟩:=q9
   have e7:=x7.at .l e6
   have l7:=l5.ws x7 hp
   by_cases h2:j=1
   ·repeat' walk_at "ok"
    refine(ZeA x7.tp .l).mono ?_
    intro v K8 q9;obtain⟨x8,_,F,⟨s1,rfl,hs1⟩,rs,hf⟩:=q9
    have e8:=x8.at .o e7
    obtain⟨vs,ts,ea,fs,ha,hl,hs⟩:=l7.ws x8 hp
    obtain⟨_,rfs,_⟩:=id fs
    have lv:=rfs.length
    have lK:=w6.ex.1
    have l7:=x7.ex.1
    have f8:FR K K8 v (smL s1):=⟨F,rs,λb m=>by have:=hf b m;lia⟩
    repeat' walk_at "ok"
    have w8:=((w6.trans x7).trans x8)
    refine⟨_,rfl,w8.app.app,ZI (ZI e8),.new (ts:=[.tup [.str (Str.ofString "set"),.int n,smL s1]]++ts) (FRs.app (.cons (.tup (.cons .str (.cons .int (.cons f8.ext .nil)))) .nil) fs.ext) w8.app.ex.1 (by simp;omega) λt m=>?_,by walk_at "rds"⟩
    rcases Zz8.mp m with m | m
    ·rw[List.mem_singleton.mp m];exact .plain (.inr (.inl ⟨n,_,.l,.l,hs1,rfl⟩))
    ·exact hs t m
   ·repeat' walk_at "ok"
    exact⟨a5,by walk_at "rd",w6.trans x7,e7,l7.le .d,by walk_at "rds"⟩
  ·repeat' walk_at "ok"
   exact⟨a5,by walk_at "rd",w6,e6,l5.le .d,by walk_at "rds"⟩
 clear l5 w6 e6 e5 w5 f5 w4 w3 x4 e4
 intro O M q9;obtain⟨a5,g5,wM,eM,lM,g0,g1,g2,g3,g4⟩:=q9
 repeat' walk_at "ok"
 obtain⟨A,hA,uA,s6,hs6,fA⟩:=ZfR n (-(v-8+1+w)) 1 wM
 rw[zsV,hA,hs6]
 have wA:=wM.trans uA
 refine(Z0 wA.tp .d).mono ?_
 intro _ B q9;obtain⟨xB,y,rfl,b0,b1⟩:=q9
 have uB:=uA.trans xB
 have wB:=wM.trans uB
 have eB:=uB.at .l eM
 repeat' walk_at "ok"
 obtain⟨C,hC,uC,s7,hs7,fC⟩:=ZfR n (v-8+1+w+2+y) (-1) wB
 rw[zsV,hC,hs7]
 have wC:=wB.trans uC
 refine(Z0 wC.tp .d).mono ?_
 intro _ D q9;obtain⟨xD,x,rfl,d0,d1⟩:=q9
 have uD:=uC.trans xD
 have wD:=wB.trans uD
 have eD:=uD.at .l eB
 repeat' walk_at "ok"
 obtain⟨E,hE,uE,s8,hs8,fE⟩:=ZfR n x 1 wD
 rw[zsV,hE,hs8]
 have wE:=wD.trans uE
 refine(Zej wE.tp .l).mono ?_
 intro v1 F q9;obtain⟨xF,c1,_,hc1,rc1,hf1⟩:=q9
 have uF:=uE.trans xF
 have wF:=wD.trans uF
 have eF:=uF.at .l eD
 have fF:FR K F v1 c1:=⟨_,rc1,λb m=>Nat.le_trans wE.ex.1 (hf1 b m)⟩
 have l8:Lf K ps 0 n 0 2 F.length (F++[[.tup [.str (Str.ofString "set"),.int 1,.ref s8],.tup [.str (Str.ofString "say"),v1]]]):=.new (.cons (.tup (.cons .str (.cons .int (.cons (fE.ws xF hp) .nil)))) (.cons (.tup (.cons .str (.cons fF .nil))) .nil)) wF.ex.1 .s λt m=>by
  simp only[List.mem_cons,List.not_mem_nil,or_false]at m
  rcases m with rfl | rfl
  ·exact .plain (st (by unfold C60;lia) (by unfold C9;lia))
  ·exact .plain (.inl ⟨c1,hc1,rfl⟩)
 repeat' walk_at "ok"
 obtain⟨G,hG,uG⟩:∃G,F++[[.tup [.str (Str.ofString "set"),.int 1,.ref s8],.tup [.str (Str.ofString "say"),v1]]]=G/\Ws p q ns F G:=⟨_,rfl,wF.tp.ws.app⟩
 rw[hG]at l8 ⊢
 have wG:=wF.trans uG
 obtain⟨I,hI,uI,s9,hs9,fI⟩:=ZfR n (v-8) 0 wG
 rw[zsV,hI,hs9]
 have wI:=wG.trans uI
 refine(Zej wI.tp .l).mono ?_
 intro v2 J q9;obtain⟨xJ,c2,_,hc2,rc2,hf2⟩:=q9
 repeat' walk_at "ok"
 have wJ:=wI.trans xJ
 have fJ:FR K J v2 c2:=⟨_,rc2,λb m=>Nat.le_trans wI.ex.1 (hf2 b m)⟩
 have u1:=uG.trans (uI.trans xJ)
 have u2:=uF.trans u1
 obtain⟨vs5,ts5,ea5,r5,ha5,hl5,hs5⟩:=lM.ws (uB.trans (uD.trans u2)) hp
 obtain⟨vs8,ts8,ea8,r8,ha8,hl8,hs8'⟩:=l8.ws (uI.trans xJ) hp
 have f6:=fA.ws (xB.trans (uD.trans u2)) hp
 have f7:=fC.ws (xD.trans u2) hp
 have f9:=fI.ws xJ hp
 refine⟨wJ.app.app.app,_,rfl,.new (ts:=[.tup [.str (Str.ofString "set"),.int 1,smL (zs n (v-8) 0)],ZeJ (.tup [.str wU,smL (zs n (-(v-8+1+w)) 1)]) ts5,Zii (.tup [.str wU,smL (zs n (v-8+1+w+2+y) (-1))]) [ZeJ c2 ts8] []]) (.cons (.tup (.cons .str (.cons .int (.cons f9.ext.ext .nil)))) (.cons (.tup (.cons .str (.cons (.tup (.cons .str (.cons f6.ext.ext .nil))) (.cons (.lst (ZI (ZI ea5)) ha5 r5.ext.ext) .nil)))) (.cons (.tup (.cons .str (.cons (.tup (.cons .str (.cons f7.ext.ext .nil))) (.cons (.lst (ZI (ZE _ _)) wJ.ex.1 (.cons (.tup (.cons .str (.cons fJ.ext.ext (.cons (.lst (ZI (ZI ea8)) ha8 r8.ext.ext) .nil)))) .nil)) (.cons (.lst (ZE _ _) wJ.app.ex.1 .nil) .nil))))) .nil))) wJ.app.app.ex.1 .s λt m=>?_⟩
 simp only[List.mem_cons,List.not_mem_nil,or_false]at m
 rcases m with rfl | rfl | rfl
 ·exact .plain (st (by unfold C60;lia) (by unfold C9;lia))
 ·exact .inr (.inr ⟨_,_,rfl,⟨_,Zh8 n1 (by unfold C60;lia) (by unfold C9;lia),.inl rfl⟩,hs5,.l⟩)
 ·refine .inr (.inl ⟨_,_,_,rfl,⟨_,Zh8 n1 (by unfold C60;lia) (by unfold C9;lia),.inl rfl⟩,λt m=>?_,.s,.s,.s⟩)
  rw[List.mem_singleton.mp m]
  exact .inr (.inr ⟨_,_,rfl,hc2,hs8',.l⟩)
end
inductive Nice: Nat->T->Prop where
 | none {n:Nat}:Nice n .none
 | bool {n:Nat} (b:Bool):Nice n (.bool b)
 | int {n:Nat} (i:Int):Nice n (.int i)
 | str {n:Nat} {s:Str}:PyData.strOk s=true->Nice n (.str s)
 | tup {n:Nat} {ts:List T}:ts.length<=1000->(∀t∈ts,Nice n t)->Nice (n+1) (.tup ts)
 | lst {n:Nat} {ts:List T}:ts.length<=1000->(∀t∈ts,Nice n t)->Nice (n+1) (.lst ts)
theorem Nice.mono(h:Nice n t)(k:n<=m): Nice m t:=by
 induction h generalizing m with
 | none=>exact .none
 | bool b=>exact .bool b
 | int i=>exact .int i
 | str h=>exact .str h
 | tup h1 h2 ih=>
  match m,k with
  | m+1,k=>exact .tup h1 λt ht=>ih t ht .l
 | lst h1 h2 ih=>
  match m,k with
  | m+1,k=>exact .lst h1 λt ht=>ih t ht .o
theorem ZmG{f:Nat->T}(h:t∈tab n f): ∃i,i<n/\f i=t:=by
 simp only[tab,List.mem_map,List.mem_range]at h
 obtain⟨i,a,b⟩:=h
 exact⟨i,a,b⟩
theorem nl0: ∀t∈([]:List T),Nice n t:=λt h=>(List.not_mem_nil h).elim
theorem ZY(h:Nice n t)(k:∀t∈ts,Nice n t): ∀u∈t::ts,Nice n u:=λu m=>by
 rcases Zz7.mp m with rfl | m
 ·exact h
 ·exact k u m
def iF: Str:=Str.ofString "if"
def wH: Str:=Str.ofString "while"
def ZdT(t:T): Prop:=Nice 3 t/\∃w rest,t=.tup (.str w::rest)/\(PyData.strOk w && PyData.strOk iF && decide (w≠iF))=true/\(PyData.strOk w && PyData.strOk wH && decide (w≠wH))=true
def ifT(c:T)(a b:List T): T:=.tup [.str iF,c,.lst a,.lst b]
def whT(c:T)(a:List T): T:=.tup [.str wH,c,.lst a]
end L
open PySem PySem.W PyProof.Rows PM TM My
namespace L
def ZhI: Sm:=Zn (Zc Zw (Zc Zf (Za 0) (Zd 0)) (Zg Zb8 (Zb (Z5 (ZeH (Zez (Za 0) 1) (Za 1)) (Zcn 100 101) ZD (Zc ZaV (Za 100) (Za 101))) Ze)))
def Zcv: List V->Hp->Option (V×Hp):=Zr 2 ZhI
def unI: T->Option Int
 | .int k=>some k
 | _=>none
noncomputable def Zm(bs:List Int): T:=.lst (bs.map T.int)
noncomputable def ZbF(c:Nat->Int)(x:Nat->Int): Nat->Int
 | 0=>c 0
 | j+1=>ZbF c x j+c (j+1)*x j
theorem ZjY{c x:Nat->Int}: ∀n,c 0+(tab n λi=>c (i+1)*x i).sum=ZbF c x n
 | 0=>by simp[tab,ZbF]
 | n+1=>by
  rw[<-Zjb (n:=n) (f:=λi=>c (i+1)*x i),List.sum_append]
  have:=ZjY (c:=c) (x:=x) n
  simp only[List.sum_cons,List.sum_nil,ZbF]
  lia
theorem Zje{c d x:Nat->Int}: ∀n,(∀i,i<=n->c i=d i)->ZbF c x n=ZbF d x n
 | 0,h=>h 0 (Zz10 0)
 | n+1,h=>by rw[ZbF,ZbF,Zje n λi hi=>h i .l,h (n+1) (Zz10 _)]
noncomputable def ZaS(n:Nat)(c:Nat->Int): T:=.lst (tab (n+1) λi=>.int (c i))
def Sh(n:Nat)(c:Nat->Int): Prop:=∀i,i<n->-(2 ^ 64)<c (i+1)/\c (i+1)<2 ^ 64
noncomputable def gd(c:List Int)(i:Nat): Int:=c.getD i 0
theorem Zh9{c:List Int}(h:(c.map V.int)[i]?=some v): v=.int (gd c i):=by
 rw[List.getElem?_map]at h
 obtain⟨k,e,rfl⟩:=Zz1.mp h
 rw[gd,List.getD_eq_getElem?_getD,e];rfl
def Za4(c bs:List Int): Prop:=c.length=bs.length+1/\bs.length<=60/\Sh bs.length (gd c)
def ZaJ(c bs:List Int): Int:=ZbF (gd c) (gd bs) bs.length
open Classical in
noncomputable def pf(R:List T->T->Prop)(ts:List T): Option T:=if h:∃t,R ts t then some h.choose else none
theorem ZcB{R:List T->T->Prop}(h:R ts t)(d:∀u,R ts u->u=t): pf R ts=some t:=by
 have k:∃t,R ts t:=⟨t,h⟩
 rw[pf,dif_pos k,d _ k.choose_spec]
theorem Zcx{R:List T->T->Prop}(e:pf R ts=some t): R ts t:=by
 unfold pf at e
 split at e
 ·rename_i k
  cases e
  exact k.choose_spec
 ·first|exact Yx0 e|cases e
theorem ZbN{a b:List Int}(h:Zm a=Zm b): a=b:=by
 simp only[Zm,T.lst.injEq]at h
 exact List.map_inj_right (λx y e=>by cases e;rfl) |>.mp h
def ZpY(ts:List T)(t:T): Prop:=∃c bs,ts=[Zm c,Zm bs]/\Za4 c bs/\t=.int (ZaJ c bs)
noncomputable def Zdb: List T->Option T:=pf ZpY
theorem Zes: ∀ks:List Int,ZbR (ks.map T.int)=some ks
 | []=>rfl
 | k::ks=>by simp[ZbR,Zes ks]
theorem Zop{c:List Int}(h:Za4 c bs): Zdb [Zm c,Zm bs]=some (.int (ZaJ c bs)):=ZcB ⟨c,bs,rfl,h,rfl⟩ λu ⟨c',bs',e,_,eu⟩=>by
 simp only[List.cons.injEq,and_true]at e
 cases ZbN e.1
 cases ZbN e.2
 exact eu
theorem ZdE{c:Nat->Int}: ZaS n c=Zm (tab (n+1) c):=by simp[ZaS,Zm,tab]
theorem ZhW{c:Nat->Int}(h:i<n): gd (tab n c) i=c i:=by simp[gd,tab,h]
theorem Zet{c:Nat->Int}(hn:bs.length<=60)(hc:Sh bs.length c): Za4 (tab (bs.length+1) c) bs:=⟨Zoh,hn,λi hi=>by rw[ZhW .l];exact hc i hi⟩
def Zcq(c:Nat->Int)(bs:List Int): Int:=ZbF c (gd bs) bs.length
theorem ZhJ{c:Nat->Int}(hn:bs.length<=60)(hc:Sh bs.length c): Zdb [ZaS bs.length c,Zm bs]=some (.int (Zcq c bs)):=by
 rw[ZdE,Zop (Zet hn hc),ZaJ,Zje _ λi hi=>ZhW .l]
 rfl
theorem Zds{K:Hp}{a b:Nat}{c bs:List Int}(ea:K[a]?=some (c.map V.int))(eb:K[b]?=some (bs.map V.int))(h:Za4 c bs): ∃X,Zcv [.ref a,.ref b] K=some (.int (ZaJ c bs),K++X):=by
 obtain⟨h1,h2,h3⟩:=h
 have key:Ok (Zcv [.ref a,.ref b] K) λv M=>v=.int (ZaJ c bs)/\∃X,M=K++X:=by
  unfold Zcv ZhI
  refine Zac rfl ?_
  repeat' walk_at "ok"
  have l1:((c.map V.int).drop 1).length=bs.length:=by simp;lia
  refine ZqL (us:=(tab bs.length λi=>gd c (i+1)*gd bs i).map V.int) (by walk_at "at") (by walk_at "at") (by rw[l1];simp[tab]) .l (λi x y u hx hy hu=>?_) ?_
  ·have hi:i<bs.length:=by have:=(Zz6.mp hy).1;simpa using this
   rw[List.getElem?_drop,Nat.add_comm]at hx
   have ex:=Zh9 hx
   have ey:=Zh9 hy
   have eu:=Zh9 hu
   subst ex ey eu
   repeat' walk_at "ok"
   refine ZhU (Ziz (h3 i hi).1 (h3 i hi).2) ⟨?_,rfl⟩
   rw[ZhW hi]
  repeat' walk_at "ok"
  refine⟨?_,by walk_at "ext"⟩
  rw[ZaJ,<-ZjY]
  rfl
 obtain⟨_,_,e,rfl,X,rfl⟩:=key
 exact⟨X,e⟩
end L
open PySem PySem.W PyProof.Rows PM TM My
namespace L
def ZgU: Sm:=Zh (Zk 2 (Zc Zw (Zy (Zb (Zd 1) Ze)) (Za 1))) (Zn (Zg Zb8 (Zb (Z5 (ZaF (Zb (Zg ZO (Zb (Za 2) Ze)) Ze)) (Zu 100) ZD (Zc ZaV (Zc Zf (Za 0) (Za 100)) (Zc Zf (Za 2) (Za 100)))) Ze)))
def ZbX: List V->Hp->Option (V×Hp):=Zr 2 ZgU
theorem ZjZ{c x:Nat->Int}: ∀n,(tab (n+1) λi=>c i*(if i=0 then 1 else x (i-1))).sum=ZbF c x n
 | 0=>by simp[tab,ZbF]
 | n+1=>by
  rw[<-Zjb,List.sum_append,ZjZ n]
  simp[ZbF]
theorem Zdt{K:Hp}{a b:Nat}{c bs:List Int}(ea:K[a]?=some (c.map V.int))(eb:K[b]?=some (bs.map V.int))(h:Za4 c bs): ∃X,ZbX [.ref a,.ref b] K=some (.int (ZaJ c bs),K++X):=by
 obtain⟨h1,h2,h3⟩:=h
 have key:Ok (ZbX [.ref a,.ref b] K) λv M=>v=.int (ZaJ c bs)/\∃X,M=K++X:=by
  unfold ZbX ZgU
  refine Zac rfl ?_
  repeat' walk_at "ok"
  have ef:(K++[[V.int 1]]++[[V.int 1]++bs.map V.int])[(K++[[V.int 1]]).length]?=some ((1::bs).map V.int):=ZE _ _
  have ea2:(K++[[V.int 1]]++[[V.int 1]++bs.map V.int])[a]?=some (c.map V.int):=ZI (ZI ea)
  have hM:∃X,K++[[V.int 1]]++[[V.int 1]++bs.map V.int]=K++X:=by walk_at "ext"
  generalize K++[[V.int 1]]++[[V.int 1]++bs.map V.int]=M at *
  generalize (K++[[V.int 1]]).length=d at *
  obtain⟨X,rfl⟩:=hM
  have l1:([V.int 1]++bs.map V.int).length=bs.length+1:=by simp
  rw[l1]
  walk_at "ok"
  have l2:((1:Int)::bs).length=bs.length+1:=rfl
  refine ZkN (λi=>gd c i*gd (1::bs) i) .l (λi hi=>?_) ?_
  ·repeat' walk_at "ok"
   refine ZhU ?_ ⟨?_,rfl⟩
   ·simp only[Int.toNat_natCast]
    by_cases h0:i=0
    ·subst h0;exact ZmC (b:=1) .d .d
    ·obtain⟨j,rfl⟩:∃j,i=j+1:=⟨i-1,.l⟩
     have:=h3 j .l
     exact Ziz this.1 this.2
   ·simp[gd]
  repeat' walk_at "ok"
  refine⟨?_,by walk_at "ext"⟩
  rw[ZaJ,<-ZjZ]
  congr 1
  refine congrArg List.sum (List.map_congr_left λi _=>?_)
  cases i <;> simp[gd]
 obtain⟨_,_,e,rfl,X,rfl⟩:=key
 exact⟨X,e⟩
def ZdM(vf:List V->Hp->Option (V×Hp)): Sm:=Zh (Zk 2 (Zg vf (Zb (Zc Zf (Za 0) (Zd 1)) (Zb (Za 1) Ze)))) (Zh (Zs (Zl (Zc Zx (Zc Zf (Za 0) (Zd 0)) (ZG (Str.ofString "under")))) (Zn (Zc oLt (Za 2) (Zd 0))) ZF) (Zh (Zs (Zl (Zc Zx (Zc Zf (Za 0) (Zd 0)) (ZG (Str.ofString "same")))) (Zn (Zc Zx (Za 2) (Zd 0))) ZF) (Zn (Zc Zx (Zc ZbU (Za 2) (Zc Zf (Za 0) (Zd 2))) (Zd 0)))))
def Zj0: Sm:=ZdM Zcv
def Zfx: List V->Hp->Option (V×Hp):=Zr 2 Zj0
def ZiA: Sm:=ZdM ZbX
def Zfc: List V->Hp->Option (V×Hp):=Zr 2 ZiA
def Zij(vf:List V->Hp->Option (V×Hp)): Prop:=∀{K:Hp} {a b:Nat} {c bs:List Int},K[a]?=some (c.map V.int)->K[b]?=some (bs.map V.int)->Za4 c bs->∃X,vf [.ref a,.ref b] K=some (.int (ZaJ c bs),K++X)
noncomputable def hvP(w:Str)(r:List T)(v:Int): Option Bool:=if PyData.strOk w=true then(if w=Str.ofString "under" then some (decide (v<0))else if w=Str.ofString "same" then some (v == 0)else match r with
 | [.int d]=>if 0<d then some (v.fmod d == 0)else none
 | _=>none)else none
theorem ZhK{a b:Str}(ha:PyData.strOk a=true)(hb:PyData.strOk b=true)(h:Q (.bool (decide (a=b))) H): Ok (Zx (.str a) (.str b) H) Q:=by
 refine⟨_,_,?_,h⟩
 simp[Zx,ZbE,toD,SeqAt.shaped,PyData.canLay0,PyData.depth,PyData.eqv,ha,hb]
 rfl
theorem Zhp(R:Zij vf){b:Nat}{c:List Int}{h:Bool}(ea:K[a]?=some (c.map V.int))(eb:K[b]?=some (bs.map V.int))(ok:Za4 c bs)(rr:RFs K rv r F)(e:hvP w r (ZaJ c bs)=some h): ∃X,Zr 2 (ZdM vf) [.tup (.str w::.ref a::rv),.ref b] K=some (.bool h,K++X):=by
 have key:Ok (Zr 2 (ZdM vf) [.tup (.str w::.ref a::rv),.ref b] K) λv M=>v=.bool h/\∃X,M=K++X:=by
  obtain⟨X,eX⟩:=R ea eb ok
  unfold hvP at e
  split at e
  case isFalse=>first|exact Yx0 e|cases e
  rename_i hw
  unfold ZdM
  refine Zac rfl ?_
  repeat' walk_at "ok"
  refine Zap eX ?_
  repeat' walk_at "ok"
  refine ZhK hw .D ?_
  split at e
  ·first|exact Yx0 e|cases e
   rename_i h1
   repeat' walk_at "ok"
   exact⟨rfl,by walk_at "ext"⟩
  rename_i h1
  repeat' walk_at "ok"
  refine ZhK hw .D ?_
  split at e
  ·first|exact Yx0 e|cases e
   rename_i h2
   repeat' walk_at "ok"
   exact⟨rfl,by walk_at "ext"⟩
  rename_i h2
  split at e
  case h_2=>first|exact Yx0 e|cases e
  split at e
  case isFalse=>first|exact Yx0 e|cases e
  rename_i d hd
  cases e
  obtain⟨v,rfl,r1⟩:=rr.one_inv
  cases r1
  have hd0:d≠0:=by lia
  repeat' walk_at "ok"
  exact⟨rfl,by walk_at "ext"⟩
 obtain⟨_,_,e,rfl,X,rfl⟩:=key
 exact⟨X,e⟩
end L
open PySem PySem.W PyProof.Rows PM TM My
namespace L
def ZhX: Sm:=Zn (Zc Zw (Zc Zw (Zag (Za 0) Zau (Zae (Zc Zaj (Za 1) (Zd 1)))) (Zy (Zb (Za 2) Ze))) (Zag (Za 0) (Zae (Za 1)) Zau))
def Zde: List V->Hp->Option (V×Hp):=Zr 3 ZhX
def Zhq: Sm:=Zh (Zs (ZX (Zl (Zc oIs (Za 0) (Zat))) (ZX (Zl (Zc oIs (Za 1) (Zat))) ZD)) (Zn (Za 2)) ZF) (Zh (Zs (Zl (Zc oIs (Za 1) (Zat))) (Zn (Zc Zw (Za 0) (Zg ZcU (Zb (Za 2) Ze)))) ZF) (Zh (Zs (Zl (Zc oIs (Za 0) (Zat))) (Zn (Zc Zaj (Za 1) (Zg ZcU (Zb (Za 2) Ze)))) ZF) (Zn (Zc Zw (Za 0) (Zc ZbU (Za 2) (Zc Zw (Zc Zaj (Za 1) (Za 0)) (Zd 1)))))))
def Zfi: List V->Hp->Option (V×Hp):=Zr 3 Zhq
noncomputable def Zlt(a:Int): Int:=if a<0 then -a else a
abbrev Sp2:=Option Int×Option Int
def pkd(s:Sp2)(p:Int): Int:=match s.1,s.2 with
 | none,none=>p
 | some l,none=>l+Zlt p
 | none,some h=>h-Zlt p
 | some l,some h=>l+p.fmod (h-l+1)
noncomputable def oV: Option Int->V
 | none=>.none
 | some k=>.int k
theorem Zma{lo hi:Option Int}(h:∀x y,lo=some x->hi=some y->x<=y): Zfi [oV lo,oV hi,.int p] K=some (.int (pkd (lo,hi) p),K):=by
 apply ZqM
 unfold Zfi Zhq
 refine Zac rfl ?_
 cases lo with
 | none=>
  cases hi with
  | none=>
   unfold oV
   repeat' walk_at "ok"
   exact⟨rfl,rfl⟩
  | some y=>
   unfold oV
   repeat' walk_at "ok"
   exact⟨rfl,rfl⟩
 | some x=>
  cases hi with
  | none=>
   unfold oV
   repeat' walk_at "ok"
   exact⟨rfl,rfl⟩
  | some y=>
   have:y-x+1≠0:=by have:=h x y rfl rfl;omega
   unfold oV
   repeat' walk_at "ok"
   exact⟨rfl,rfl⟩
theorem Zjf{b X:Nat}{v:Int}(eb:K[b]?=some (bs.map V.int))(hX:X<bs.length)(hn:bs.length<=60): ∃Y,Zde [.ref b,.int ((X:Int)+1),.int v] K=some (.ref (K++Y).length,K++(Y++[(bs.set X v).map V.int])):=by
 have key:Ok (Zde [.ref b,.int ((X:Int)+1),.int v] K) λu M=>∃Y,u=.ref (K++Y).length/\M=K++(Y++[(bs.set X v).map V.int]):=by
  unfold Zde ZhX
  refine Zac rfl ?_
  refine ZbA (Z9 (Z9 (Zeh ?_)))
  repeat' walk_at "ok"
  refine⟨b,X,_,rfl,congrArg V.int .l,eb,?_⟩
  repeat' walk_at "ok"
  refine⟨b,X+1,_,rfl,congrArg V.int .l,by walk_at "at",?_⟩
  refine Zcu (by walk_at "at") (by walk_at "at") (by rw[ZC];simp;omega) ?_
  refine⟨[(bs.map V.int).take X,[.int v],(bs.map V.int).take X++[.int v],(bs.map V.int).drop (X+1)],.s,?_⟩
  have:(bs.set X v).map V.int=(bs.map V.int).take X++[.int v]++(bs.map V.int).drop (X+1):=by
   rw[List.set_eq_take_append_cons_drop,if_pos hX]
   simp
  rw[this]
  simp
 obtain⟨_,_,e,Y,rfl,rfl⟩:=key
 exact⟨Y,e⟩
end L
open PySem PySem.W PyProof.Rows PM TM My
namespace L
def ZgN: Sm:=Zh (Zs (Zl (Zc Zx (Zc Zf (Za 1) (Zd 0)) (ZG (Str.ofString "any")))) (Zn (Zg Zfi (Zb (Zc Zf (Za 1) (Zd 2)) (Zb (Zc Zf (Za 1) (Zd 3)) (Zb (Za 2) Ze))))) ZF) (Zh (Zk 3 (Zg Zcv (Zb (Zc Zf (Za 1) (Zd 2)) (Zb (Za 0) Ze)))) (Zh (Zs (Zl (Zc Zx (Zc Zf (Za 1) (Zd 0)) (ZG (Str.ofString "part")))) (Zn (Zc Zcm (Za 3) (Zc Zf (Za 1) (Zd 3)))) ZF) (Zh (Zs (Zl (Zc Zx (Zc Zf (Za 1) (Zd 0)) (ZG (Str.ofString "rest")))) (Zn (Zc ZbU (Za 3) (Zc Zf (Za 1) (Zd 3)))) ZF) (Zn (Za 3)))))
def Zd4: List V->Hp->Option (V×Hp):=Zr 3 ZgN
inductive NewR(bs:List Int)(p:Int)(w:Str): T->List T->Int->Prop where
 | any {lo hi:Option Int}:w=Str.ofString "any"->(∀x y,lo=some x->hi=some y->x<=y)->NewR bs p w (oT lo) [oT hi] (pkd (lo,hi) p)
 | set {c:List Int} {q:List T}:w=Str.ofString "set"->Za4 c bs->NewR bs p w (Zm c) q (ZaJ c bs)
 | part {c:List Int} {d:Int}:w=Str.ofString "part"->Za4 c bs->0<d->d.natAbs<2 ^ 300->NewR bs p w (Zm c) [.int d] ((ZaJ c bs).fdiv d)
 | rest {c:List Int} {d:Int}:w=Str.ofString "rest"->Za4 c bs->0<d->NewR bs p w (Zm c) [.int d] ((ZaJ c bs).fmod d)
theorem ZkV{a b:Option Int}(h:oT a=oT b): a=b:=by
 cases a <;> cases b <;> simp[oT]at h <;> simp[h]
theorem NewR.det{s:T}{q:List T}{a:Int}(h:NewR bs p w s q a)(k:NewR bs p w s q b): a=b:=by
 have ne:Str.ofString "any"≠Str.ofString "set"/\Str.ofString "any"≠Str.ofString "part"/\Str.ofString "any"≠Str.ofString "rest"/\Str.ofString "set"≠Str.ofString "part"/\Str.ofString "set"≠Str.ofString "rest"/\Str.ofString "part"≠Str.ofString "rest":=by decide +kernel
 obtain⟨n1,n2,n3,n4,n5,n6⟩:=ne
 generalize hs:s=s' at k
 generalize hq:q=q' at k
 cases h with
 | any e1 _=>
  subst e1
  cases k with
  | any _ _=>
   rw[ZkV hs]
   have:=ZkV (List.cons.inj hq).1
   rw[this]
  | set e=>exact absurd e n1
  | part e=>exact absurd e n2
  | rest e=>exact absurd e n3
 | set e1 _=>
  subst e1
  cases k with
  | any e _=>exact absurd e.symm n1
  | set _ _=>rw[ZbN hs]
  | part e=>exact absurd e n4
  | rest e=>exact absurd e n5
 | part e1=>
  subst e1
  cases k with
  | any e _=>exact absurd e.symm n2
  | set e _=>exact absurd e.symm n4
  | part=>rw[ZbN hs];cases hq;rfl
  | rest e=>exact absurd e n6
 | rest e1=>
  subst e1
  cases k with
  | any e _=>exact absurd e.symm n3
  | set e _=>exact absurd e.symm n5
  | part e=>exact absurd e.symm n6
  | rest=>rw[ZbN hs];cases hq;rfl
end L
open PySem PySem.W PyProof.Rows PM TM My
namespace L
theorem Zjg{K:Hp}: ∀{c:List Int} {vs:List V} {F:List Nat},RFs K vs (c.map T.int) F->vs=c.map V.int/\F=[]
 | [],_,_,r=>by cases r;exact⟨rfl,rfl⟩
 | k::c,_,_,r=>by
  cases r with
  | cons a b=>
   cases a
   obtain⟨e,f⟩:=Zjg b
   rw[e,f]
   exact⟨rfl,rfl⟩
theorem Zbd{c:List Int}(r:RF K v (Zm c) F): ∃a,v=.ref a/\K[a]?=some (c.map V.int)/\F=[a]:=by
 unfold Zm at r
 cases r with
 | ref e hs=>
  obtain⟨e1,e2⟩:=Zjg hs
  rw[e1]at e
  rw[e2]
  exact⟨_,rfl,e,rfl⟩
theorem Zj1{a d:Int}(h0:0<d)(bd:d.natAbs<2 ^ 300)(h:Q (.int (a.fdiv d)) H): Ok (Zcm (.int a) (.int d) H) Q:=by
 refine⟨_,_,Zld H .l (PyProof.noPylong_of_log2 ?_),h⟩
 exact Nat.lt_of_lt_of_le ((Nat.log2_lt .o).mpr bd) .d
theorem Zga{o:Option Int}(r:RF K v (oT o) F): v=oV o:=by
 cases o <;> (unfold oT at r;cases r;rfl)
theorem Zni{v:Int}{s:T}{q:List T}{b:Nat}{x sv:V}(h:NewR bs p w s q v)(rs:RF K sv s F)(rq:RFs K qv q G)(eb:K[b]?=some (bs.map V.int)): ∃X,Zd4 [.ref b,.tup (.str w::x::sv::qv),.int p] K=some (.int v,K++X):=by
 have key:Ok (Zd4 [.ref b,.tup (.str w::x::sv::qv),.int p] K) λu M=>u=.int v/\∃X,M=K++X:=by
  unfold Zd4 ZgN
  refine Zac rfl ?_
  cases h with
  | any e h=>
   subst e
   obtain⟨_,rfl,r1⟩:=rq.one_inv
   cases Zga rs
   cases Zga r1
   repeat' walk_at "ok"
   refine Zap (Zma h) ?_
   exact⟨rfl,by walk_at "ext"⟩
  | set e h=>
   subst e
   obtain⟨a,rfl,ea,_⟩:=Zbd rs
   obtain⟨X,eX⟩:=Zds ea eb h
   repeat' walk_at "ok"
   refine Zap eX ?_
   repeat' walk_at "ok"
   exact⟨rfl,by walk_at "ext"⟩
  | @part c d e h d0 d1=>
   subst e
   obtain⟨_,rfl,r1⟩:=rq.one_inv
   cases r1
   obtain⟨a,rfl,ea,_⟩:=Zbd rs
   obtain⟨X,eX⟩:=Zds ea eb h
   repeat' walk_at "ok"
   refine Zap eX ?_
   repeat' walk_at "ok"
   refine Zj1 d0 d1 ?_
   exact⟨rfl,by walk_at "ext"⟩
  | @rest c d e h d0=>
   subst e
   obtain⟨_,rfl,r1⟩:=rq.one_inv
   cases r1
   obtain⟨a,rfl,ea,_⟩:=Zbd rs
   obtain⟨X,eX⟩:=Zds ea eb h
   have hd:d≠0:=by omega
   repeat' walk_at "ok"
   refine Zap eX ?_
   repeat' walk_at "ok"
   exact⟨rfl,by walk_at "ext"⟩
 obtain⟨_,_,e,rfl,X,rfl⟩:=key
 exact⟨X,e⟩
inductive Act(bs:List Int)(p:Int)(w:Str): List T->Option (List Int)->Prop where
 | stay {r:List T}:w=Str.ofString "go"∨w=Str.ofString "say"->Act bs p w r (some bs)
 | when {u:Str} {c:List Int} {q:List T} {b h:Bool}:w=Str.ofString "when"->Za4 c bs->hvP u q (ZaJ c bs)=some h->Act bs p w [.tup (.str u::Zm c::q),.bool b] (if h=b then some bs else none)
 | lay {X:Nat} {s:T} {q:List T} {v:Int}:X<bs.length->NewR bs p w s q v->Act bs p w (.int ((X:Int)+1)::s::q) (some (bs.set X v))
theorem NewR.word{v:Int}{s:T}{q:List T}(h:NewR bs p w s q v): PyData.strOk w=true/\w≠Str.ofString "go"/\w≠Str.ofString "say"/\w≠Str.ofString "when":=by
 cases h with
 | any e=>subst e;decide +kernel
 | set e=>subst e;decide +kernel
 | part e=>subst e;decide +kernel
 | rest e=>subst e;decide +kernel
theorem Act.det{a b:Option (List Int)}(h:Act bs p w r a)(k:Act bs p w r b): a=b:=by
 have ne:Str.ofString "go"≠Str.ofString "when"/\Str.ofString "say"≠Str.ofString "when":=by decide +kernel
 generalize hr:r=r' at k
 cases h with
 | stay e=>
  cases k with
  | stay _=>rfl
  | when f=>subst f;exact(e.elim (λz=>ne.1 z.symm) λz=>ne.2 z.symm).elim
  | lay _ n=>obtain⟨_,n1,n2,_⟩:=n.word;exact(e.elim n1 n2).elim
 | when e _ h1=>
  subst e
  cases k with
  | stay f=>exact(f.elim (λz=>ne.1 z.symm) λz=>ne.2 z.symm).elim
  | when _ _ h2=>
   simp only[List.cons.injEq,T.tup.injEq,T.str.injEq,T.bool.injEq,and_true]at hr
   obtain⟨⟨rfl,e2,rfl⟩,rfl⟩:=hr
   cases ZbN e2
   rw[h1]at h2
   cases h2
   rfl
  | lay _ n=>exact absurd rfl n.word.2.2.2
 | lay _ n=>
  cases k with
  | stay f=>obtain⟨_,n1,n2,_⟩:=n.word;exact(f.elim n1 n2).elim
  | when f=>exact absurd f n.word.2.2.2
  | lay _ m=>
   simp only[List.cons.injEq,T.int.injEq]at hr
   obtain⟨e1,rfl,rfl⟩:=hr
   rename_i X _ _ _ _ X' _ _
   have:X=X':=by lia
   subst this
   rw[n.det m]
end L
namespace TM
open PySem PM
section
variable {H:Hp} {v:V} {vs:List V} {ts:List T} {x y z:T} {F:List Nat}
theorem RF.itup(r:RF H v (.tup ts) F): ∃vs,v=.tup vs/\RFs H vs ts F:=by
 cases r with
 | tup r=>exact⟨_,rfl,r⟩
theorem RF.ilst(r:RF H v (.lst ts) F): ∃a vs G,v=.ref a/\H[a]?=some vs/\RFs H vs ts G/\F=a::G:=by
 cases r with
 | ref e r=>exact⟨_,_,_,rfl,e,r,rfl⟩
theorem RF.iint{k:Int}(r:RF H v (.int k) F): v=.int k/\F=[]:=by
 cases r
 exact⟨rfl,rfl⟩
theorem RF.istr{k:Str}(r:RF H v (.str k) F): v=.str k/\F=[]:=by
 cases r
 exact⟨rfl,rfl⟩
theorem RFs.inil(r:RFs H vs [] F): vs=[]/\F=[]:=by
 cases r
 exact⟨rfl,rfl⟩
theorem RFs.icons(r:RFs H vs (x::ts) F): ∃v us F1 F2,vs=v::us/\F=F1++F2/\RF H v x F1/\RFs H us ts F2:=by
 cases r with
 | cons r1 r=>exact⟨_,_,_,_,rfl,rfl,r1,r⟩
theorem RFs.i1(r:RFs H vs [x] F): ∃v,vs=[v]/\RF H v x F:=by
 obtain⟨v,us,F1,F2,rfl,rfl,r1,r⟩:=r.icons
 obtain⟨rfl,rfl⟩:=r.inil
 exact⟨v,rfl,by rw[List.append_nil];exact r1⟩
theorem RFs.i2(r:RFs H vs [x,y] F): ∃v u F1 F2,vs=[v,u]/\F=F1++F2/\RF H v x F1/\RF H u y F2:=by
 obtain⟨v,us,F1,F2,rfl,rfl,r1,r⟩:=r.icons
 obtain⟨u,rfl,r2⟩:=r.i1
 exact⟨v,u,F1,F2,rfl,rfl,r1,r2⟩
theorem RFs.i3(r:RFs H vs [x,y,z] F): ∃v u w F1 F2 F3,vs=[v,u,w]/\F=F1++(F2++F3)/\RF H v x F1/\RF H u y F2/\RF H w z F3:=by
 obtain⟨v,us,F1,F2,rfl,rfl,r1,r⟩:=r.icons
 obtain⟨u,w,F3,F4,rfl,rfl,r2,r3⟩:=r.i2
 exact⟨v,u,w,F1,F3,F4,rfl,rfl,r1,r2,r3⟩
theorem RF.i3(r:RF H v (.tup [x,y,z]) F): ∃a b c F1 F2 F3,v=.tup [a,b,c]/\F=F1++(F2++F3)/\RF H a x F1/\RF H b y F2/\RF H c z F3:=by
 obtain⟨us,rfl,q⟩:=r.itup
 obtain⟨v,u,w,F1,F2,F3,rfl,h⟩:=q.i3
 exact⟨v,u,w,F1,F2,F3,rfl,h⟩
theorem RF.imom{j k:Int}(r:RF H v (.tup [.int j,.int k,.lst ts]) F): ∃b us G,v=.tup [.int j,.int k,.ref b]/\F=b::G/\H[b]?=some us/\RFs H us ts G:=by
 obtain⟨a,b,c,F1,F2,F3,rfl,rfl,r1,r2,r3⟩:=r.i3
 obtain⟨rfl,rfl⟩:=r1.iint
 obtain⟨rfl,rfl⟩:=r2.iint
 obtain⟨b,us,G,rfl,e,q,rfl⟩:=r3.ilst
 exact⟨b,us,G,rfl,rfl,e,q⟩
end
end TM
open PySem PySem.W PyProof.Rows PM TM My
namespace L
def Zdf: Sm:=Zh (Zs (ZX (Zl (Zc Zx (Zc Zf (Za 1) (Zd 0)) (ZG (Str.ofString "when")))) (ZX (Zl (Zc oNe (Zg Zfx (Zb (Zc Zf (Za 1) (Zd 1)) (Zb (Za 0) Ze))) (Zc Zf (Za 1) (Zd 2)))) ZD)) (Zn (Zat)) ZF) (Zh (Zs (Zl (Zc oIn (Zc Zf (Za 1) (Zd 0)) (ZM (Zb (ZG (Str.ofString "go")) (Zb (ZG (Str.ofString "say")) (Zb (ZG (Str.ofString "when")) Ze)))))) (Zn (Zg ZcO (Zb (Za 0) Ze))) ZF) (Zn (Zg Zde (Zb (Za 0) (Zb (Zc Zf (Za 1) (Zd 1)) (Zb (Zg Zd4 (Zb (Za 0) (Zb (Za 1) (Zb (Za 2) Ze)))) Ze))))))
def Zb6: List V->Hp->Option (V×Hp):=Zr 3 Zdf
def ZcC(K:Hp)(o:Option (List Int))(v:V)(M:Hp): Prop:=∃X,M=K++X/\match o with
 | none=>v=.none
 | some l=>∃a,v=.ref a/\K.length<=a/\M[a]?=some (l.map V.int)
theorem ZfS(hw:PyData.strOk w=true)(h:Q (.bool (decide (w=Str.ofString "go"∨w=Str.ofString "say"∨w=Str.ofString "when"))) H): Ok (oIn (.str w) (.tup [.str (Str.ofString "go"),.str (Str.ofString "say"),.str (Str.ofString "when")]) H) Q:=by
 refine⟨_,_,?_,h⟩
 have h1:PyData.strOk (Str.ofString "go")=true/\PyData.strOk (Str.ofString "say")=true/\PyData.strOk (Str.ofString "when")=true:=by decide +kernel
 have e1:toD H ZaM (.str w)=some (.str w):=by simp[toD,hw]
 have e2:toD H ZaM (.tup [.str (Str.ofString "go"),.str (Str.ofString "say"),.str (Str.ofString "when")])=some (.tuple [.str (Str.ofString "go"),.str (Str.ofString "say"),.str (Str.ofString "when")]):=by rfl
 simp only[oIn,Zih,e1,e2,Ys0]
 simp[inD,SeqAt.shaped,PyData.canLay0,PyData.canLayAll0,PyData.depth,PyData.depthAll,PyData.eqv,hw,h1.1,h1.2.1,h1.2.2]
 have c:∀a:Str,(a == w)=decide (w=a):=λa=>by
  rw[Bool.eq_iff_iff,decide_eq_true_eq,beq_iff_eq,eq_comm]
 rw[c,c,c]
theorem Zjh{u:Str}{c:List Int}{q:List T}{t:Bool}(r:RFs K rv [.tup (.str u::Zm c::q),.bool t] F): ∃a qv G,rv=[.tup (.str u::.ref a::qv),.bool t]/\K[a]?=some (c.map V.int)/\RFs K qv q G:=by
 obtain⟨v1,v2,F1,F2,e,_,r1,r2⟩:=r.i2
 obtain⟨us,e1,r1⟩:=r1.itup
 obtain⟨vu,us1,_,_,e2,_,ru,r1⟩:=r1.icons
 obtain⟨vc,us2,_,G,e3,_,rc,rq⟩:=r1.icons
 obtain⟨a,e4,ea,_⟩:=Zbd rc
 cases r2
 exact⟨a,us2,G,by rw[e,e1,e2,e3,e4,ru.istr.1],ea,rq⟩
theorem Zj2{k:Int}{s:T}{q:List T}(r:RFs K rv (.int k::s::q) F): ∃sv qv F1 F2,rv=.int k::sv::qv/\RF K sv s F1/\RFs K qv q F2:=by
 obtain⟨vk,us,_,_,e,_,rk,r⟩:=r.icons
 obtain⟨sv,qv,F1,F2,e1,_,rs,rq⟩:=r.icons
 exact⟨sv,qv,F1,F2,by rw[e,e1,rk.iint.1],rs,rq⟩
theorem Znj{b:Nat}(A:Act bs p w r o)(hn:bs.length<=60)(rr:RFs K rv r F)(eb:K[b]?=some (bs.map V.int)): Ok (Zb6 [.ref b,.tup (.str w::rv),.int p] K) (ZcC K o):=by
 cases A with
 | stay e=>
  obtain rfl | rfl:=e
  ·unfold Zb6 Zdf
   refine Zac rfl ?_
   repeat' walk_at "ok"
   refine ZfS .D ?_
   repeat' walk_at "ok"
   exact⟨_,rfl,_,rfl,.l,ZE _ _⟩
  ·unfold Zb6 Zdf
   refine Zac rfl ?_
   repeat' walk_at "ok"
   refine ZfS .D ?_
   repeat' walk_at "ok"
   exact⟨_,rfl,_,rfl,.o,ZE _ _⟩
 | @when u c q t h e ok eh=>
  subst e
  obtain⟨a,qv,G,rfl,ea,rq⟩:=Zjh rr
  obtain⟨X,eX⟩:=Zhp (@Zds) ea eb ok rq eh
  by_cases hb:h=t
  ·subst hb
   rw[if_pos rfl]
   unfold Zb6 Zdf
   refine Zac rfl ?_
   repeat' walk_at "ok"
   refine Zap eX ?_
   repeat' walk_at "ok"
   refine ZfS .D ?_
   repeat' walk_at "ok"
   exact⟨X++[_],(List.append_assoc ..),_,rfl,.s,ZE _ _⟩
  ·rw[if_neg hb]
   unfold Zb6 Zdf
   refine Zac rfl ?_
   repeat' walk_at "ok"
   refine Zap eX ?_
   repeat' walk_at "ok"
   exact⟨_,rfl,rfl⟩
 | @lay X s q v hX N=>
  obtain⟨hw,n1,n2,n3⟩:=N.word
  have hin:¬(w=Str.ofString "go"∨w=Str.ofString "say"∨w=Str.ofString "when"):=by simp[n1,n2,n3]
  obtain⟨sv,qv,F1,F2,rfl,rs,rq⟩:=Zj2 rr
  obtain⟨Y,eY⟩:=Zni (x:=.int ((X:Int)+1)) N rs rq eb
  obtain⟨Z,eZ⟩:=Zjf (K:=K++Y) (v:=v) (Z6 eb) hX hn
  unfold Zb6 Zdf
  refine Zac rfl ?_
  repeat' walk_at "ok"
  refine ZhK hw .D ?_
  repeat' walk_at "ok"
  refine ZfS hw ?_
  repeat' walk_at "ok"
  refine Zap eY ?_
  repeat' walk_at "ok"
  refine Zap eZ ?_
  exact⟨Y++(Z++[_]),(List.append_assoc ..),_,rfl,.s,by rw[<-List.append_assoc];exact ZE _ _⟩
end L
open PySem PySem.W PyProof.Rows PM TM My
namespace L
def ZbY: Sm:=Zh (Zk 3 (Zg ZcO (Zb (Za 0) Ze))) (Zh (Zs (ZX (Zl (Zc Zx (Zc Zf (Za 1) (Zd 0)) (ZG (Str.ofString "when")))) (ZX (Zl (Zc oNe (Zg Zfc (Zb (Zc Zf (Za 1) (Zd 1)) (Zb (Za 0) Ze))) (Zc Zf (Za 1) (Zd 2)))) ZD)) (Zn (Zat)) ZF) (Zh (Zs (Zl (Zc Zx (Zc Zf (Za 1) (Zd 0)) (ZG (Str.ofString "set")))) (ZaB (Zg ZbX (Zb (Zc Zf (Za 1) (Zd 2)) (Zb (Za 0) Ze))) (Za 3) (Zc Zaj (Zc Zf (Za 1) (Zd 1)) (Zd 1))) ZF) (Zh (Zs (Zl (Zc Zx (Zc Zf (Za 1) (Zd 0)) (ZG (Str.ofString "part")))) (ZaB (Zc Zcm (Zg ZbX (Zb (Zc Zf (Za 1) (Zd 2)) (Zb (Za 0) Ze))) (Zc Zf (Za 1) (Zd 3))) (Za 3) (Zc Zaj (Zc Zf (Za 1) (Zd 1)) (Zd 1))) ZF) (Zh (Zs (Zl (Zc Zx (Zc Zf (Za 1) (Zd 0)) (ZG (Str.ofString "rest")))) (ZaB (Zc ZbU (Zg ZbX (Zb (Zc Zf (Za 1) (Zd 2)) (Zb (Za 0) Ze))) (Zc Zf (Za 1) (Zd 3))) (Za 3) (Zc Zaj (Zc Zf (Za 1) (Zd 1)) (Zd 1))) ZF) (Zh (Zs (Zl (Zc Zx (Zc Zf (Za 1) (Zd 0)) (ZG (Str.ofString "any")))) (Zh (Zk 4 (Za 2)) (Zh (Zs (ZX (Zl (Zc Za6 (Zc Zf (Za 1) (Zd 2)) (Zat))) (ZX (Zl (Zc Za6 (Zc Zf (Za 1) (Zd 3)) (Zat))) ZD)) (Zk 4 (Zc Zw (Zc Zf (Za 1) (Zd 2)) (Zc ZbU (Za 2) (Zc Zw (Zc Zaj (Zc Zf (Za 1) (Zd 3)) (Zc Zf (Za 1) (Zd 2))) (Zd 1))))) (Zs (Zl (Zc Za6 (Zc Zf (Za 1) (Zd 2)) (Zat))) (Zk 4 (Zc Zw (Zc Zf (Za 1) (Zd 2)) (Zg ZcU (Zb (Za 2) Ze)))) (Zs (Zl (Zc Za6 (Zc Zf (Za 1) (Zd 3)) (Zat))) (Zk 4 (Zc Zaj (Zc Zf (Za 1) (Zd 3)) (Zg ZcU (Zb (Za 2) Ze)))) ZF))) (ZaB (Za 4) (Za 3) (Zc Zaj (Zc Zf (Za 1) (Zd 1)) (Zd 1))))) ZF) (Zn (Za 3)))))))
def Zc7: List V->Hp->Option (V×Hp):=Zr 3 ZbY
theorem Zoq{g:Sm}{as:List V}(hl:as.length=n)(h:∀O:Lc,(∀i v,as[i]?=some v->O i=some v)->Oks (g O H) R λ_ K=>R .none K): Ok (Zr n g as H) R:=Zac hl (h _ λ_ _ h=>h)
theorem ZpZ{b:Nat}(A:Act bs p w r o)(hn:bs.length<=60)(rr:RFs K rv r F)(eb:K[b]?=some (bs.map V.int))(h0:0<K.length): Ok (Zc7 [.ref b,.tup (.str w::rv),.int p] K) (ZcC K o):=by
 have lb:(bs.map V.int).length=bs.length:=by simp
 have pre:∀{w:Str} {rv:List V} {o:Option (List Int)},(∀O:Lc,O 0=some (.ref b)->O 1=some (.tup (.str w::rv))->O 2=some (.int p)->Oks (ZbY O K) (ZcC K o) λ_ M=>ZcC K o .none M)->Ok (Zc7 [.ref b,.tup (.str w::rv),.int p] K) (ZcC K o):=λh=>Zoq rfl λO k=>h O (k 0 _ rfl) (k 1 _ rfl) (k 2 _ rfl)
 cases A with
 | stay e=>
  obtain rfl | rfl:=e
  ·refine pre λO e0 e1 e2=>?_
   unfold ZbY
   repeat' walk_at "ok"
   exact⟨_,rfl,_,rfl,.l,ZE _ _⟩
  ·refine pre λO e0 e1 e2=>?_
   unfold ZbY
   repeat' walk_at "ok"
   exact⟨_,rfl,_,rfl,.o,ZE _ _⟩
 | @when u c q t h e ok eh=>
  subst e
  obtain⟨a,qv,G,rfl,ea,rq⟩:=Zjh rr
  obtain⟨X,eX⟩:=Zhp (K:=K++[bs.map V.int]) (@Zdt) (ZI ea) (ZI eb) ok (rq.ext _) eh
  by_cases hb:h=t
  ·subst hb
   rw[if_pos rfl]
   refine pre λO e0 e1 e2=>?_
   unfold ZbY
   repeat' walk_at "ok"
   refine Zap eX ?_
   repeat' walk_at "ok"
   exact⟨_::X,(List.append_cons ..).symm,_,rfl,Nat.le_refl _,Z6 (ZE _ _)⟩
  ·rw[if_neg hb]
   refine pre λO e0 e1 e2=>?_
   unfold ZbY
   repeat' walk_at "ok"
   refine Zap eX ?_
   repeat' walk_at "ok"
   exact⟨_::X,(List.append_cons ..).symm,rfl⟩
 | @lay X s q v hX N=>
  obtain⟨sv,qv,F1,F2,rfl,rs,rq⟩:=Zj2 rr
  have fin:∀{Y:Hp} {v:Int} {P:Hp->Prop},(∀M,ZcC K (some (bs.set X v)) (.ref K.length) M->P M)->ZfJ (.ref K.length) (.int ((X:Int)+1-1)) (.int v) (K++[bs.map V.int]++Y) P:=λ{Y v P} h=>by
   refine Zc5 (Z6 (ZE _ _)) .l .l .l (h _ ⟨[bs.map V.int |>.set X (.int v)]++Y,?_,_,rfl,Nat.le_refl _,?_⟩)
   ·rw[show((X:Int)+1-1).toNat=X by lia];simp
   ·rw[show((X:Int)+1-1).toNat=X by omega,Yy6 .s,List.map_set]
  have fin0:∀{v:Int} {P:Hp->Prop},(∀M,ZcC K (some (bs.set X v)) (.ref K.length) M->P M)->ZfJ (.ref K.length) (.int ((X:Int)+1-1)) (.int v) (K++[bs.map V.int]) P:=λ{v P} h=>by
   have:=fin (Y:=[]) h
   rwa [List.append_nil]at this
  cases N with
  | @any lo hi e h=>
   subst e
   obtain⟨_,rfl,r1⟩:=rq.one_inv
   cases Zga rs
   cases Zga r1
   have hd:∀x y,lo=some x->hi=some y->y-x+1≠0:=λx y a b=>by have:=h x y a b;lia
   refine pre λO e0 e1 e2=>?_
   unfold ZbY
   repeat' walk_at "ok"
   cases lo <;> cases hi <;> unfold oV at e1 ⊢
   case none.none=>
    repeat' walk_at "ok"
    refine fin0 λM hM=>?_
    repeat' walk_at "ok"
    exact hM
   case none.some=>
    repeat' walk_at "ok"
    refine fin0 λM hM=>?_
    repeat' walk_at "ok"
    exact hM
   case some.none=>
    repeat' walk_at "ok"
    refine fin0 λM hM=>?_
    repeat' walk_at "ok"
    exact hM
   case some.some x y=>
    have:=hd x y rfl rfl
    repeat' walk_at "ok"
    refine fin0 λM hM=>?_
    repeat' walk_at "ok"
    exact hM
  | set e h=>
   subst e
   obtain⟨a,rfl,ea,_⟩:=Zbd rs
   obtain⟨Y,eY⟩:=Zdt (K:=K++[bs.map V.int]) (ZI ea) (ZI eb) h
   refine pre λO e0 e1 e2=>?_
   unfold ZbY
   repeat' walk_at "ok"
   refine Zap eY ?_
   repeat' walk_at "ok"
   refine fin λM hM=>?_
   repeat' walk_at "ok"
   exact hM
  | @part c d e h d0 d1=>
   subst e
   obtain⟨_,rfl,r1⟩:=rq.one_inv
   cases r1
   obtain⟨a,rfl,ea,_⟩:=Zbd rs
   obtain⟨Y,eY⟩:=Zdt (K:=K++[bs.map V.int]) (ZI ea) (ZI eb) h
   refine pre λO e0 e1 e2=>?_
   unfold ZbY
   repeat' walk_at "ok"
   refine Zap eY ?_
   repeat' walk_at "ok"
   refine Zj1 d0 d1 ?_
   repeat' walk_at "ok"
   refine fin λM hM=>?_
   repeat' walk_at "ok"
   exact hM
  | @rest c d e h d0=>
   subst e
   obtain⟨_,rfl,r1⟩:=rq.one_inv
   cases r1
   have hd:d≠0:=by lia
   obtain⟨a,rfl,ea,_⟩:=Zbd rs
   obtain⟨Y,eY⟩:=Zdt (K:=K++[bs.map V.int]) (ZI ea) (ZI eb) h
   refine pre λO e0 e1 e2=>?_
   unfold ZbY
   repeat' walk_at "ok"
   refine Zap eY ?_
   repeat' walk_at "ok"
   refine fin λM hM=>?_
   repeat' walk_at "ok"
   exact hM
end L
open PySem PySem.W PyProof.Rows PM TM My
namespace L
def Zp0(ts:List T)(t:T): Prop:=∃u c q bs h,ts=[.tup (.str u::Zm c::q),Zm bs]/\Za4 c bs/\hvP u q (ZaJ c bs)=some h/\t=.bool h
noncomputable def ZbK: List T->Option T:=pf Zp0
theorem Zor{u:Str}{c:List Int}{q:List T}{h:Bool}(ok:Za4 c bs)(e:hvP u q (ZaJ c bs)=some h): ZbK [.tup (.str u::Zm c::q),Zm bs]=some (.bool h):=ZcB ⟨u,c,q,bs,h,rfl,ok,e,rfl⟩ λt ⟨u',c',q',bs',h',e1,_,e2,e3⟩=>by
 simp only[List.cons.injEq,and_true,T.tup.injEq,T.str.injEq]at e1
 obtain⟨⟨rfl,e4,rfl⟩,e5⟩:=e1
 cases ZbN e4
 cases ZbN e5
 rw[e]at e2
 cases e2
 exact e3
theorem ZmH(e:Zdb ts=some t): ∃c bs,ts=[Zm c,Zm bs]/\Za4 c bs/\t=.int (ZaJ c bs):=Zcx e
theorem ZiR(e:ZbK ts=some t): ∃u c q bs h,ts=[.tup (.str u::Zm c::q),Zm bs]/\Za4 c bs/\hvP u q (ZaJ c bs)=some h/\t=.bool h:=Zcx e
theorem Zj3(R:Zij vf): ZaO false vf Zdb:=λH vs ts t F1 hp r e=>by
 obtain⟨c,bs,rfl,ok,rfl⟩:=ZmH e
 obtain⟨_,_,_,_,rfl,r1,r2,_⟩:=r.two_inv
 obtain⟨a,rfl,ea,_⟩:=Zbd r1
 obtain⟨b,rfl,eb,_⟩:=Zbd r2
 obtain⟨X,eX⟩:=R ea eb ok
 exact⟨_,X,[],eX,.int _,λ_ m=>(List.not_mem_nil m).elim,λz=>by cases z⟩
theorem Zji(R:Zij vf): ZaO false (Zr 2 (ZdM vf)) ZbK:=λH vs ts t F1 hp r e=>by
 obtain⟨u,c,q,bs,h,rfl,ok,eh,rfl⟩:=ZiR e
 obtain⟨_,_,_,_,rfl,r1,r2,_⟩:=r.two_inv
 obtain⟨b,rfl,eb,_⟩:=Zbd r2
 obtain⟨_,rfl,rs⟩:=r1.itup
 obtain⟨_,_,_,_,rfl,_,ru,rs2⟩:=rs.icons
 cases ru
 obtain⟨_,_,_,_,rfl,_,rc,rq⟩:=rs2.icons
 obtain⟨a,rfl,ea,_⟩:=Zbd rc
 obtain⟨X,eX⟩:=Zhp R ea eb ok rq eh
 exact⟨_,X,[],eX,.bool _,λ_ m=>(List.not_mem_nil m).elim,λz=>by cases z⟩
theorem Zos: ZaO false Zcv Zdb:=Zj3 @Zds
theorem Zl0: ZaO false ZbX Zdb:=Zj3 @Zdt
theorem Zot: ZaO false Zfx ZbK:=Zji @Zds
theorem Zmb: ZaO false Zfc ZbK:=Zji @Zdt
def ZqU(ts:List T)(t:T): Prop:=∃(bs:List Int) (X:Nat) (v:Int),ts=[Zm bs,.int ((X:Int)+1),.int v]/\X<bs.length/\bs.length<=60/\t=Zm (bs.set X v)
noncomputable def ZfT: List T->Option T:=pf ZqU
theorem Zp1{X:Nat}{v:Int}(hX:X<bs.length)(hn:bs.length<=60): ZfT [Zm bs,.int ((X:Int)+1),.int v]=some (Zm (bs.set X v)):=ZcB ⟨bs,X,v,rfl,hX,hn,rfl⟩ λt ⟨bs',X',v',e,_,_,et⟩=>by
 simp only[List.cons.injEq,and_true,T.int.injEq]at e
 obtain⟨e1,e2,rfl⟩:=e
 cases ZbN e1
 cases (show X=X' by lia)
 exact et
theorem ZfU{l:List Int}(e:K[a]?=some (l.map V.int)): RF K (.ref a) (Zm l) [a]:=by
 refine .ref e ?_
 clear e
 induction l with
 | nil=>exact .nil
 | cons k l ih=>exact .cons (.int k) ih
theorem Zp2: ZaO true Zde ZfT:=λH vs ts t F1 hp r e=>by
 obtain⟨bs,X,v,rfl,hX,hn,rfl⟩:=Zcx e
 obtain⟨_,_,_,_,_,_,rfl,_,r1,r2,r3⟩:=r.i3
 cases r2
 cases r3
 obtain⟨b,rfl,eb,_⟩:=Zbd r1
 obtain⟨Y,eY⟩:=Zjf (v:=v) eb hX hn
 exact⟨_,_,[(H++Y).length],eY,ZfU (by rw[<-List.append_assoc];exact ZE _ _),λa m=>by simp at m;left;lia,λ_=>⟨.s,λa m=>by simp at m;omega⟩⟩
def oB: Option (List Int)->T
 | none=>.none
 | some l=>Zm l
def ZqV(ts:List T)(t:T): Prop:=∃bs p w r o,ts=[Zm bs,.tup (.str w::r),.int p]/\bs.length<=60/\Act bs p w r o/\t=oB o
noncomputable def Zbb: List T->Option T:=pf ZqV
theorem Zdg(hn:bs.length<=60)(A:Act bs p w r o): Zbb [Zm bs,.tup (.str w::r),.int p]=some (oB o):=ZcB ⟨bs,p,w,r,o,rfl,hn,A,rfl⟩ λt ⟨bs',p',w',r',o',e,_,A',et⟩=>by
 simp only[List.cons.injEq,and_true,T.tup.injEq,T.str.injEq,T.int.injEq]at e
 obtain⟨e1,⟨rfl,rfl⟩,rfl⟩:=e
 cases ZbN e1
 rw[et,A'.det A]
theorem Znk(e:Zbb ts=some t): ∃bs p w r o,ts=[Zm bs,.tup (.str w::r),.int p]/\bs.length<=60/\Act bs p w r o/\t=oB o:=Zcx e
theorem Zou(C:ZcC K o v M): ∃X F,M=K++X/\RF M v (oB o) F/\F.Nodup/\∀a∈F,K.length<=a:=by
 obtain⟨X,e,h⟩:=C
 cases o with
 | none=>cases h;exact⟨X,[],e,.none,.s,.s⟩
 | some l=>
  obtain⟨a,rfl,ha,ea⟩:=h
  exact⟨X,[a],e,ZfU ea,.s,by simpa using ha⟩
theorem Zj4{f:List V->Hp->Option (V×Hp)}(R:∀{K:Hp} {bs:List Int} {p:Int} {w:Str} {r:List T} {rv:List V} {F:List Nat} {o:Option (List Int)} {b:Nat},Act bs p w r o->bs.length<=60->RFs K rv r F->K[b]?=some (bs.map V.int)->0<K.length->Ok (f [.ref b,.tup (.str w::rv),.int p] K) (ZcC K o)): ZaO true f Zbb:=λH vs ts t F1 hp r e=>by
 obtain⟨bs,p,w,r',o,rfl,hn,A,rfl⟩:=Znk e
 obtain⟨_,_,_,_,_,_,rfl,_,r1,r2,r3⟩:=r.i3
 cases r3
 obtain⟨_,rfl,rs⟩:=r2.itup
 obtain⟨_,_,_,_,rfl,_,rw_,rr⟩:=rs.icons
 cases rw_
 obtain⟨b,rfl,eb,_⟩:=Zbd r1
 obtain⟨v,M,eM,C⟩:=R A hn rr eb hp
 obtain⟨X,F,rfl,rf,nd,hF⟩:=Zou C
 exact⟨v,X,F,eM,rf,λa m=>.inl (hF a m),λ_=>⟨nd,hF⟩⟩
theorem Zp3: ZaO true Zb6 Zbb:=Zj4 λA hn rr eb _=>Znj A hn rr eb
theorem Znl: ZaO true Zc7 Zbb:=Zj4 ZpZ
end L
open PySem PySem.W PyProof.Rows PM TM My
namespace L
def ZgB: Sm:=Zh (Zk 3 (Zc Zf (Zc Zf (Za 0) (Za 1)) (Zd 1))) (Zn (ZM (Zb (Za 1) (Zb (Zd 0) (Zb (Zc Zw (Za 2) (Z5 (ZaF (Zb (Zc Zaj (Za 3) (Zg ZO (Zb (Za 2) Ze))) Ze)) (Zu 100) ZD (Zd 0))) Ze)))))
def ZcZ: List V->Hp->Option (V×Hp):=Zr 3 ZgB
def ZgV: Sm:=Zn (Zy (Zb (Za 1) (Zb (Zd 0) (Zb (Zc Zw (Za 2) (Zc ZaV (Zy (Zb (Zd 0) Ze)) (Zc Zaj (Zc Zf (Zc Zf (Za 0) (Za 1)) (Zd 1)) (Zg ZO (Zb (Za 2) Ze))))) Ze))))
def Zcb: List V->Hp->Option (V×Hp):=Zr 3 ZgV
noncomputable def ZaW(m:Nat)(gv:List Int): List Int:=gv++List.replicate (m-gv.length) 0
theorem ZmI{b:Nat}{ys:List V}{x:V}(ea:K[a]?=some vs)(eg:vs[g]?=some (.tup (x::.int m::ys)))(eb:K[b]?=some (gv.map V.int))(h1:gv.length<=m)(h2:m<=60): ∃Y,ZcZ [.ref a,.int g,.ref b] K=some (.tup [.int g,.int 0,.ref (K++Y).length],K++(Y++[(ZaW m gv).map V.int])):=by
 have lg:(gv.map V.int).length=gv.length:=by simp
 have key:Ok (ZcZ [.ref a,.int g,.ref b] K) λv M=>∃Y,v=.tup [.int g,.int 0,.ref (K++Y).length]/\M=K++(Y++[(ZaW m gv).map V.int]):=by
  unfold ZcZ ZgB
  refine Zac rfl ?_
  repeat' walk_at "ok"
  refine ZbM ea .l (v:=.tup (x::.int m::ys)) (by rw[Int.toNat_natCast];exact eg) ?_
  repeat' walk_at "ok"
  rw[lg,show(m:Int)-(gv.length:Int)=((m-gv.length:Nat):Int)by lia]
  walk_at "ok"
  refine ZkN (λ_=>0) .o (λi hi=>?_) ?_
  ·repeat' walk_at "ok"
   exact⟨rfl,rfl⟩
  refine Zcu (by walk_at "at") (by walk_at "at") (by rw[ZC];simp;lia) ?_
  repeat' walk_at "ok"
  have e:gv.map V.int++((List.range (m-gv.length)).map λ_=>(0:Int)).map V.int=(ZaW m gv).map V.int:=by simp[ZaW,List.map_const']
  exact⟨[((List.range (m-gv.length)).map λ_=>(0:Int)).map V.int],.s,by rw[e];simp⟩
 obtain⟨_,_,e,Y,rfl,rfl⟩:=key
 exact⟨Y,e⟩
theorem Zov{b:Nat}{ys:List V}{x:V}(ea:K[a]?=some vs)(eg:vs[g]?=some (.tup (x::.int m::ys)))(eb:K[b]?=some (gv.map V.int))(h1:gv.length<=m)(h2:m<=60): ∃Y,Zcb [.ref a,.int g,.ref b] K=some (.ref (K++Y).length.succ,K++(Y++[(ZaW m gv).map V.int,[.int g,.int 0,.ref (K++Y).length]])):=by
 have lg:(gv.map V.int).length=gv.length:=by simp
 have key:Ok (Zcb [.ref a,.int g,.ref b] K) λv M=>∃Y,v=.ref (K++Y).length.succ/\M=K++(Y++[(ZaW m gv).map V.int,[.int g,.int 0,.ref (K++Y).length]]):=by
  unfold Zcb ZgV
  refine Zac rfl ?_
  repeat' walk_at "ok"
  refine ZbM (ZI ea) .o (v:=.tup (x::.int m::ys)) (by rw[Int.toNat_natCast];exact eg) ?_
  repeat' walk_at "ok"
  rw[lg,show((m:Int)-(gv.length:Int)).toNat=m-gv.length by lia]
  have e:gv.map V.int++List.replicate (m-gv.length) (V.int 0)=(ZaW m gv).map V.int:=by simp[ZaW]
  exact⟨[[.int 0],List.replicate (m-gv.length) (.int 0)],.s,by rw[e];simp⟩
 obtain⟨_,_,e,Y,rfl,rfl⟩:=key
 exact⟨Y,e⟩
end L
open PySem PySem.W PyProof.Rows PM TM My
namespace L
def cpG(F:List V->Hp->Option (V×Hp)): Sm:=Zh (Zs (Zl (eIs "list" (Za 0))) (Zn (Z5 (ZU (Za 0)) (Zu 100) ZD (Zg F (Zb (Za 100) Ze)))) ZF) (Zh (Zs (Zl (eIs "tuple" (Za 0))) (Zn (Zg Zfq (Zb (Z5 (ZU (Za 0)) (Zu 102) ZD (Zg F (Zb (Za 102) Ze))) Ze))) ZF) (Zn (Za 0)))
def Zgi(K:Hp)(t:T)(v:V)(M:Hp): Prop:=∃X G,M=K++X/\RF M v t G/\G.Nodup/\∀a∈G,K.length<=a
def NewsT(K:Hp)(ts:List T)(vs:List V)(M:Hp): Prop:=∃X G,M=K++X/\RFs M vs ts G/\G.Nodup/\∀a∈G,K.length<=a
theorem NewsT.snoc{M':Hp}(a:NewsT K ts vs M)(b:Zgi M t v M'): NewsT K (ts++[t]) (vs++[v]) M':=by
 obtain⟨X,G,rfl,r,nd,hG⟩:=a
 obtain⟨Y,G',rfl,r',nd',hG'⟩:=b
 refine⟨X++Y,G++G',List.append_assoc ..,?_,List.nodup_append.mpr ⟨nd,nd',λa m b m' e=>?_⟩,λa m=>?_⟩
 ·have:=rfs_app (RFs.one r') (r.ext Y)
  exact this
 ·have:=r.lt a m
  have:=hG' b m'
  lia
 ·rcases Zz8.mp m with m | m
  ·exact hG a m
  ·have:=hG' a m
   simp at this
   lia
theorem Zj5{F:List V->Hp->Option (V×Hp)}{nx:Nx}{L:List V->Hp->Prop}(hl:ts.length<=1000)(r:RFs K vs ts G)(hnx:∀X,(∀i (h:i<vs.length),nx i (K++X)=some (some vs[i]))/\nx vs.length (K++X)=some none)(ih:∀t∈ts,∀K v F',RF K v t F'->Ok (F [v] K) (Zgi K t))(done:∀us M,NewsT K ts us M->us.length=ts.length->L us M): Okl (Zad nx (Zu j) ZD (Zg F (Zb (Za j) Ze)) O (vs.length+1) 0 [] K) L:=by
 have lv:vs.length=ts.length:=r.length
 refine ZbC (λi acc M=>NewsT K (ts.take i) acc M/\acc.length=i) (by rw[ZC];lia) ⟨⟨[],[],.s,.nil,.s,.s⟩,rfl⟩ ?_ (λacc M h=>?_) (λacc M h=>?_)
 ·intro i acc M hi h
  obtain⟨N,hl'⟩:=h
  have N0:=N
  obtain⟨X,_,rfl,_⟩:=N0
  refine⟨.l,vs[i],_,(hnx X).1 i hi,ZbH _ _ _,Zbu ⟨λ_=>?_,.s⟩⟩
  obtain⟨v,G',e1,r1,_⟩:=r.at (Yy1 (show i<ts.length by lia))
  rw[Yy1 hi]at e1
  cases e1
  refine Za1 (Z8 (ZA (v:=vs[i]) (by simp[Zi]) (Zas ?_)))
  refine(ih ts[i] (List.getElem_mem _) _ _ _ (r1.ext X)).mono λu M' h=>⟨?_,by simp[hl']⟩
  rw[List.take_add_one,Yy1 .o]
  exact N.snoc h
 ·obtain⟨⟨X,_,rfl,_⟩,_⟩:=h
  exact(hnx X).2
 ·rw[lv,List.take_length]at h
  exact done acc M h.1 h.2
theorem Zeu{k:String}{f:Ex}(h:Ok (f O H) λx M=>ZdJ x=false/\Q (.bool (Zba k x)) M): Ok (eIs k f O H) Q:=by
 obtain⟨x,M,e,o,q⟩:=h
 exact⟨_,_,by simp[eIs,e,o],q⟩
theorem Zp4(hfn:∀n,fn (n+1)=Zr 1 (cpG (fn n))): ∀(n:Nat) {t:T},Nice n t->∀(K:Hp) (v:V) (F:List Nat),RF K v t F->Ok (fn (n+1) [v] K) (Zgi K t):=by
 have flat:∀{n:Nat} {K:Hp} {v:V} {t:T},ZdJ v=false->Zba "list" v=false->Zba "tuple" v=false->RF K v t []->Ok (fn (n+1) [v] K) (Zgi K t):=λ{n K v t} h1 h2 h3 r=>by
  rw[hfn]
  refine Zac rfl (Zam (Za8 (Za3 (Zeu (ZA rfl ⟨h1,?_⟩)))))
  rw[h2]
  refine ZaY ?_
  refine⟨λz=>(by cases z),λ_=>?_⟩
  refine Zbv ?_
  refine Zam (Za8 (Za3 (Zeu (ZA rfl ⟨h1,?_⟩))))
  rw[h3]
  refine ZaY ?_
  refine⟨λz=>(by cases z),λ_=>?_⟩
  refine Zbv ?_
  exact ZbA (ZA rfl ⟨[],[],.s,r,.s,.s⟩)
 intro n t h
 induction h with
 | none=>intro K v F r;cases r;exact flat rfl rfl rfl .none
 | bool b=>intro K v F r;cases r;exact flat rfl rfl rfl (.bool b)
 | int i=>intro K v F r;cases r;exact flat rfl rfl rfl (.int i)
 | str s=>intro K v F r;cases r;exact flat rfl rfl rfl (.str _)
 | @tup n ts hl hs ih=>
  intro K v F r
  cases r with
  | @tup vs _ _ r=>
  rw[hfn]
  refine Zac rfl ?_
  refine Zam (Za8 (Za3 (Zeu (ZA rfl ⟨rfl,?_⟩))))
  refine ZaY ?_
  refine⟨λz=>(by cases z),λ_=>?_⟩
  refine Zbv ?_
  refine Zam (Za8 (Za3 (Zeu (ZA rfl ⟨rfl,?_⟩))))
  refine ZaY ?_
  refine⟨λ_=>?_,λz=>(by cases z)⟩
  refine ZbA (Za1 (Z8 (Zct (ZbI (ZA rfl (ZkI ?_))))))
  refine Zj5 hl r (λX=>⟨λi h=>by simp[ZdC,h],by simp[ZdC]⟩) ih λus M N le=>Zas ?_
  obtain⟨X,G,rfl,r',nd,hG⟩:=N
  exact⟨.tup us,_,by simp[Zfq],X++[us],G,(List.append_assoc ..),.tup (r'.ext _),nd,hG⟩
 | @lst n ts hl hs ih=>
  intro K v F r
  cases r with
  | @ref a vs _ _ ea r=>
  rw[hfn]
  refine Zac rfl ?_
  refine Zam (Za8 (Za3 (Zeu (ZA rfl ⟨rfl,?_⟩))))
  refine ZaY ?_
  refine⟨λ_=>?_,λz=>(by cases z)⟩
  refine ZbA (Zct (ZbI (ZA rfl (ZcA ea ?_))))
  refine Zj5 hl r (λX=>⟨λi h=>by rw[Zbq (Z6 ea),Yy1 h],by rw[Zbq (Z6 ea)];simp⟩) ih λus M N le=>?_
  obtain⟨X,G,rfl,r',nd,hG⟩:=N
  refine⟨X++[us],(K++X).length::G,List.append_assoc ..,.ref (ZE _ _) (r'.ext _),List.nodup_cons.mpr ⟨λm=>?_,nd⟩,λa m=>?_⟩
  ·have:=r'.lt _ m;lia
  ·rcases Zz7.mp m with rfl | m
   ·simp
   ·exact hG a m
end L
open PySem PySem.W PyProof.Rows PM TM My
namespace L
def Zp5(ts:List T)(t:T): Prop:=ts=[t]/\Nice 23 t
noncomputable def Zfy: List T->Option T:=pf Zp5
theorem Zd7(h:Nice 23 t): Zfy [t]=some t:=ZcB ⟨rfl,h⟩ λu ⟨e,_⟩=>by cases e;rfl
theorem Zlu(hfn:∀n,fn (n+1)=Zr 1 (cpG (fn n))): ZaO true (fn 24) Zfy:=λH vs ts t F1 hp r e=>by
 obtain⟨rfl,hN⟩:=Zcx e
 obtain⟨v,rfl,r1⟩:=r.i1
 obtain⟨u,M,e,X,G,rfl,rf,nd,hG⟩:=Zp4 hfn 23 hN H v _ r1
 exact⟨u,X,G,e,rf,λa m=>.inl (hG a m),λ_=>⟨nd,hG⟩⟩
def Zj6(F:List V->Hp->Option (V×Hp)): Sm:=cpG F
def Zfj: Nat->List V->Hp->Option (V×Hp)
 | 0=>λ_ _=>none
 | n+1=>Zr 1 (Zj6 (Zfj n))
def Zfz: List V->Hp->Option (V×Hp):=Zfj 24
theorem Zj7: ZaO true Zfz Zfy:=Zlu λ_=>rfl
def Zg6: Sm:=Zn (ZM (Zb (ZG (Str.ofString "when")) (Zb (Zg Zfz (Zb (Za 0) Ze)) (Zb (Za 1) Ze))))
def Zcs: List V->Hp->Option (V×Hp):=Zr 2 Zg6
noncomputable def Zah(c:T)(b:Bool): T:=.tup [.str (Str.ofString "when"),c,.bool b]
def ZqW(ts:List T)(t:T): Prop:=∃c b,ts=[c,.bool b]/\Nice 23 c/\t=Zah c b
noncomputable def ZiB: List T->Option T:=pf ZqW
theorem Zmc: ZaO true Zcs ZiB:=λH vs ts t F1 hp r e=>by
 obtain⟨c,b,rfl,hc,rfl⟩:=Zcx e
 obtain⟨v1,v2,F1',F2',rfl,_,r1,r2⟩:=r.i2
 cases r2
 have e1:=Zd7 hc
 obtain⟨u,X,G,g1,g2,g3,g4⟩:=Zj7 H [v1] _ _ _ hp (.one r1) e1
 have key:Ok (Zcs [v1,.bool b] H) λv M=>v=.tup [.str (Str.ofString "when"),u,.bool b]/\M=H++X:=by
  unfold Zcs Zg6
  refine Zac rfl ?_
  repeat' walk_at "ok"
  refine Zap g1 ?_
  repeat' walk_at "ok"
  exact⟨rfl,rfl⟩
 obtain⟨_,_,e,rfl,rfl⟩:=key
 refine⟨_,X,G,e,?_,λa m=>.inl ((g4 rfl).2 a m),λ_=>⟨(g4 rfl).1,(g4 rfl).2⟩⟩
 have:=RF.tup (.cons (.str (Str.ofString "when")) (.cons g2 (.cons (.bool b) .nil)))
 simpa [Zah]using this
def goT: T:=.tup [.str (Str.ofString "go")]
noncomputable def rowT(a:Int)(t:T)(b:Int): T:=.tup [.int a,t,.int b]
inductive LyB(L:T->Int->List T->Int->Prop): List T->Int->List T->Int->Prop where
 | nil {u:Int}:LyB L [] u [] u
 | cons {t:T} {ts:List T} {u e e':Int} {r r':List T}:L t u r e->LyB L ts e r' e'->LyB L (t::ts) u (r++r') e'
def LyS: Nat->T->Int->List T->Int->Prop
 | 0=>λt u r e=>ZdT t/\r=[rowT u t (u+1)]/\e=u+1
 | n+1=>λt u r e=>(ZdT t/\r=[rowT u t (u+1)]/\e=u+1) ∨
   (∃c a b ra ea rb eb,t=ifT c a b/\Nice 2 c/\LyB (LyS n) a (u+1) ra ea/\LyB (LyS n) b (ea+1) rb eb/\r=rowT u (Zah c true) (u+1)::(ra++rowT u (Zah c false) (ea+1)::(rb++[rowT ea goT (eb+1),rowT eb goT (eb+1)]))/\e=eb+1) ∨
   (∃c a ra ea,t=whT c a/\Nice 2 c/\LyB (LyS n) a (u+2) ra ea/\r=rowT u goT (u+1)::rowT (u+1) (Zah c true) (u+2)::(ra++[rowT ea goT (u+1),rowT (u+1) (Zah c false) (ea+1)])/\e=ea+1)
section
variable {Q:T->List T->Prop}
theorem Zow{b:Bool}(h:Nice 2 c): ZiB [c,.bool b]=some (Zah c b):=by
 refine ZcB ⟨c,b,rfl,h.mono .d,rfl⟩ λu ⟨c',b',e,_,eu⟩=>?_
 cases e
 exact eu
end
end L
open PySem PySem.W PyProof.Rows PM TM My
namespace L
def ZgO: Sm:=Zn (Zg Zf7 (Zb (Z5 (ZU (Za 0)) (Zu 100) ZD (Zg Zdm (Zb (Zc Zf (Za 100) (Zd 0)) (Zb (Zc Zf (Za 100) (Zd 2)) Ze)))) Ze))
def ZcI: List V->Hp->Option (V×Hp):=Zr 1 ZgO
def mxI: T->Int
 | .tup [.int a,_,.int b]=>if b>a then b else a
 | _=>0
def Zik(x:T): Prop:=∃h t b,x=.tup [.int h,t,.int b]
theorem Znm(r:RF K v (.tup [.int h,t,.int b]) F): ∃u G,v=.tup [.int h,u,.int b]/\RF K u t G:=by
 obtain⟨_,u,_,_,G,_,rfl,_,r1,r2,r3⟩:=r.i3
 cases r1
 cases r3
 exact⟨u,G,rfl,r2⟩
theorem Znn{rs:List T}(ea:K[a]?=some vs)(r:RFs K vs rs F)(hr:∀x∈rs,Zik x)(hl:rs.length<=9000): ∃X,ZcI [.ref a] K=some (.int ((rs.map mxI).max?.getD 0),K++X):=by
 have lv:vs.length=rs.length:=r.length
 have key:Ok (ZcI [.ref a] K) λv M=>v=.int ((rs.map mxI).max?.getD 0)/\∃X,M=K++X:=by
  unfold ZcI ZgO
  refine Zac rfl ?_
  refine ZbA (Za1 (Z8 (Zct (ZbI (ZA rfl (ZcA ea ?_))))))
  refine ZbC (λi acc M=>acc=((rs.take i).map mxI).map V.int/\M=K) (by rw[ZC];lia) ⟨rfl,rfl⟩ ?_ (λacc M h=>by rw[h.2,Zbq ea];simp) (λacc M h=>?_)
  ·intro i acc M hi h
   obtain⟨rfl,rfl⟩:=h
   have hi':i<rs.length:=by lia
   obtain⟨v,G,e1,r1,_⟩:=r.at (Yy1 hi')
   obtain⟨h0,t,b,ex⟩:=hr rs[i] (List.getElem_mem _)
   rw[ex]at r1
   obtain⟨u,_,rfl,_⟩:=Znm r1
   refine⟨by simp;lia,.tup [.int h0,u,.int b],_,by rw[Zbq ea,e1],ZbH _ _ _,Zbu ⟨λ_=>?_,.s⟩⟩
   repeat' walk_at "ok"
   refine⟨?_,rfl⟩
   rw[List.take_add_one,Yy1 hi',ex]
   simp[mxI]
  obtain⟨rfl,rfl⟩:=h
  rw[lv,List.take_length]
  refine Zas ⟨_,M++[(rs.map mxI).map V.int],?_,rfl,_,rfl⟩
  have:∀l:List Int,Za7 (l.map V.int)=some l:=λl=>by
   induction l with
   | nil=>rfl
   | cons k l ih=>simp[Za7,ih]
  simp only[Zf7,ZE,Ys0,this,Ys1]
 obtain⟨_,_,e,rfl,X,rfl⟩:=key
 exact⟨X,e⟩
def ZqX(ts:List T)(t:T): Prop:=∃r,ts=[.lst r]/\(∀x∈r,Zik x)/\r.length<=9000/\t=.int ((r.map mxI).max?.getD 0)
noncomputable def ZgP: List T->Option T:=pf ZqX
theorem ZlR: ZaO false ZcI ZgP:=λH vs ts t F1 hp r e=>by
 obtain⟨rs,rfl,h1,h2,rfl⟩:=Zcx e
 obtain⟨v,rfl,r1⟩:=r.i1
 obtain⟨a,vs,G,rfl,ea,rv,_⟩:=r1.ilst
 obtain⟨X,eX⟩:=Znn ea rv h1 h2
 exact⟨_,X,[],eX,.int _,λ_ m=>(List.not_mem_nil m).elim,λz=>by cases z⟩
def RowOk(e:Int)(x:T): Prop:=∃a t b,x=rowT a t b/\Nice 3 t/\0<=a/\a<=e/\0<=b/\b<=e
theorem RowOk.mono(h:RowOk e x)(k:e<=e'): RowOk e' x:=by
 obtain⟨a,t,b,h1,h2,h3,h4,h5,h6⟩:=h
 exact⟨a,t,b,h1,h2,h3,.l,h5,.l⟩
def ZhY(u:Int)(r:List T)(e:Int): Prop:=(∀x∈r,RowOk e x)/\(u<e->∃a t,rowT a t e∈r)
theorem ZfA: Nice (n+1) goT:=.tup .s (ZY (.str .D) nl0)
theorem Zff{b:Bool}(h:Nice 2 c): Nice 3 (Zah c b):=.tup .s (ZY (.str .D) (ZY h (ZY (.bool b) nl0)))
theorem Zfk{L:T->Int->List T->Int->Prop}(hL:∀t u r e,L t u r e->0<=u->u<e/\ZhY u r e)(h:LyB L ts u r e): 0<=u->u<=e/\ZhY u r e:=by
 induction h with
 | nil=>intro _;exact⟨.l,.s,λq=>absurd q .l⟩
 | @cons t ts u e e' r r' a _ ih=>
  intro h0
  obtain⟨h1,h2,h3⟩:=hL _ _ _ _ a h0
  obtain⟨h4,h5,h6⟩:=ih .l
  refine⟨.l,λx m=>?_,λq=>?_⟩
  ·rcases Zz8.mp m with m | m
   ·exact(h2 x m).mono h4
   ·exact h5 x m
  ·by_cases z:e<e'
   ·obtain⟨a,t,m⟩:=h6 z
    exact⟨a,t,List.mem_append_right _ m⟩
   ·have:e'=e:=by lia
    subst this
    obtain⟨a,t,m⟩:=h3 h1
    exact⟨a,t,Yy7 _ m⟩
theorem Zfl: ∀(n:Nat) (t:T) (u:Int) (r:List T) (e:Int),LyS n t u r e->0<=u->u<e/\ZhY u r e
 | 0,t,u,r,e,h,h0=>by
  obtain⟨h,rfl,rfl⟩:=h
  refine⟨.l,λx m=>?_,λ_=>⟨u,t,.s⟩⟩
  simp at m
  subst m
  exact⟨u,t,u+1,rfl,h.1,h0,.l,.l,.l⟩
 | n+1,t,u,r,e,h,h0=>by
  rcases h with⟨h1,rfl,rfl⟩ | ⟨c,a,b,ra,ea,rb,eb,rfl,hc,ha,hb,rfl,rfl⟩ | ⟨c,a,ra,ea,rfl,hc,ha,rfl,rfl⟩
  ·refine⟨.o,λx m=>?_,λ_=>⟨u,t,.s⟩⟩
   simp at m
   subst m
   exact⟨u,t,u+1,rfl,h1.1,h0,.o,.o,.o⟩
  ·obtain⟨l1,k1,_⟩:=Zfk (Zfl n) ha .o
   obtain⟨l2,k2,_⟩:=Zfk (Zfl n) hb .l
   refine⟨.l,λx m=>?_,λ_=>⟨ea,goT,.s⟩⟩
   simp only[List.mem_cons,List.mem_append,List.not_mem_nil,or_false]at m
   rcases m with rfl | m | rfl | m | rfl | rfl
   ·exact⟨_,_,_,rfl,Zff hc,.o,.l,.l,.l⟩
   ·exact(k1 x m).mono .l
   ·exact⟨_,_,_,rfl,Zff hc,.o,.o,.l,.l⟩
   ·exact(k2 x m).mono .l
   ·exact⟨_,_,_,rfl,ZfA,.l,.o,.l,.l⟩
   ·exact⟨_,_,_,rfl,ZfA,.l,.o,.o,.o⟩
  ·obtain⟨l1,k1,_⟩:=Zfk (Zfl n) ha .l
   refine⟨.l,λx m=>?_,λ_=>⟨u+1,Zah c false,.s⟩⟩
   simp only[List.mem_cons,List.mem_append,List.not_mem_nil,or_false]at m
   rcases m with rfl | rfl | m | rfl | rfl
   ·exact⟨_,_,_,rfl,ZfA,.o,.l,.l,.l⟩
   ·exact⟨_,_,_,rfl,Zff hc,.o,.o,.l,.l⟩
   ·exact(k1 x m).mono .l
   ·exact⟨_,_,_,rfl,ZfA,.l,.o,.o,.o⟩
   ·exact⟨_,_,_,rfl,Zff hc,.o,.o,.l,.l⟩
theorem Zox(h0:0<=e)(hl:r.length<=9000)(h1:∀x∈r,RowOk e x)(h2:0<e->∃a t,rowT a t e∈r): ZgP [.lst r]=some (.int e):=by
 have key:(r.map mxI).max?.getD 0=e:=by
  by_cases q:0<e
  ·have:(r.map mxI).max? = some e:=by
    rw[List.max?_eq_some_iff]
    refine⟨?_,λc hc=>?_⟩
    ·obtain⟨a,t,m⟩:=h2 q
     obtain⟨a',t',b',e1,_,k1,k2,k3,k4⟩:=h1 _ m
     unfold rowT at e1
     cases e1
     refine Zz11.mpr ⟨_,m,?_⟩
     show(if e>a then e else a)=e
     split <;> lia
    ·obtain⟨x,m,rfl⟩:=Zz11.mp hc
     obtain⟨a,t,b,rfl,_,k1,k2,k3,k4⟩:=h1 x m
     show(if b>a then b else a)<=e
     split <;> omega
   rw[this]
   rfl
  ·have e0:e=0:=by lia
   subst e0
   cases r with
   | nil=>rfl
   | cons x r=>
    have:((x::r).map mxI).max? = some 0:=by
     rw[List.max?_eq_some_iff]
     have z:∀y∈x::r,mxI y=0:=λy m=>by
      obtain⟨a,t,b,rfl,_,k1,k2,k3,k4⟩:=h1 y m
      show(if b>a then b else a)=0
      split <;> lia
     refine⟨Zz11.mpr ⟨x,List.mem_cons_self,z x Zz5⟩,λc hc=>?_⟩
     obtain⟨y,m,rfl⟩:=Zz11.mp hc
     rw[z y m]
     exact Int.le_refl _
    rw[this]
    rfl
 have h3:∀x∈r,Zik x:=λx m=>by
  obtain⟨a,t,b,rfl,_⟩:=h1 x m
  exact⟨a,t,b,rfl⟩
 refine ZcB ⟨r,rfl,h3,hl,by rw[key]⟩ λu ⟨r',e,_,_,eu⟩=>?_
 cases e
 rw[eu,key]
end L
open PySem PM TM
namespace L
def ZgC: Sm:=Zh (Zk 1 (Zc Zf (Zc Zf (ZB (Z3 (Runner_c) 5) (Za 0)) (Zd 2)) (ZB Zax (Zd 1)))) (Zh (Zk 2 (Zdq (ZB (Z3 (Runner_c) 4) (Za 0)))) (Zh (Zk 3 (Zc Zf (Za 2) (Zd 0))) (Zh (Zk 4 (Zc Zf (Za 2) (Zd 1))) (Zak (Runner_c) 5 (ZM (Zb (Zc Zf (Za 3) (Zd 0)) (Zb (Zc Zf (Za 4) (Zd 2)) (Zb (Zg Zde (Zb (Zc Zf (Za 3) (Zd 2)) (Zb (Zc Zf (Zc Zf (Za 4) (Zd 1)) (Zd 1)) (Zb (Za 1) Ze)))) Ze)))) (Za 0)))))
def ZeW: List V->Hp->Option (V×Hp):=Zr 1 ZgC
end L
open PySem PySem.W PyProof.Rows PM TM My
namespace L
def BegR(ts:List T)(b:Int×List Int): Prop:=∃fs g x m ys gv,ts=[.lst fs,.int (g:Nat),Zm gv]/\fs[g]?=some (.tup (x::.int (m:Nat)::ys))/\gv.length<=m/\m<=60/\b=((g:Int),ZaW m gv)
theorem BegR.det{b b':Int×List Int}(h:BegR ts b)(k:BegR ts b'): b=b':=by
 obtain⟨fs,g,x,m,ys,gv,rfl,e,_,_,rfl⟩:=h
 obtain⟨fs',g',x',m',ys',gv',e1,e',_,_,rfl⟩:=k
 simp only[List.cons.injEq,and_true,T.lst.injEq,T.int.injEq]at e1
 obtain⟨rfl,e2,e3⟩:=e1
 cases ZbN e3
 cases Int.ofNat.inj e2
 rw[e]at e'
 simp only[Option.some.injEq,T.tup.injEq,List.cons.injEq,T.int.injEq]at e'
 cases Int.ofNat.inj e'.2.1
 rfl
def ZeX: List T->Option T:=pf λts t=>∃b,BegR ts b/\t=.tup [.int b.1,.int 0,Zm b.2]
def ZgW: List T->Option T:=pf λts t=>∃b,BegR ts b/\t=.lst [.int b.1,.int 0,Zm b.2]
theorem Zoy(e:fs[g]?=some (.tup (x::.int m::ys)))(h1:gv.length<=m)(h2:m<=60): ZeX [.lst fs,.int g,Zm gv]=some (.tup [.int g,.int 0,Zm (ZaW m gv)]):=by
 have h:BegR [.lst fs,.int g,Zm gv] ((g:Int),ZaW m gv):=⟨fs,g,x,m,ys,gv,rfl,e,h1,h2,rfl⟩
 exact ZcB ⟨_,h,rfl⟩ λu ⟨b,hb,eu⟩=>by rw[eu,hb.det h]
theorem Zoz(e:fs[g]?=some (.tup (x::.int m::ys)))(h1:gv.length<=m)(h2:m<=60): ZgW [.lst fs,.int g,Zm gv]=some (.lst [.int g,.int 0,Zm (ZaW m gv)]):=by
 have h:BegR [.lst fs,.int g,Zm gv] ((g:Int),ZaW m gv):=⟨fs,g,x,m,ys,gv,rfl,e,h1,h2,rfl⟩
 exact ZcB ⟨_,h,rfl⟩ λu ⟨b,hb,eu⟩=>by rw[eu,hb.det h]
theorem Zlm(r:RFs K vs fs F)(e:fs[g]?=some (.tup (x::.int m::ys))): ∃v us,vs[g]?=some (.tup (v::.int m::us)):=by
 obtain⟨v,G,e1,r1,_⟩:=r.at e
 obtain⟨_,rfl,q⟩:=r1.itup
 obtain⟨_,_,_,_,rfl,_,_,q2⟩:=q.icons
 obtain⟨_,_,_,_,rfl,_,r2,_⟩:=q2.icons
 cases r2
 exact⟨_,_,e1⟩
theorem Ziq: ZaO true ZcZ ZeX:=λH vs ts t F1 hp r e=>by
 obtain⟨b,⟨fs,g,x,m,ys,gv,rfl,ef,h1,h2,rfl⟩,rfl⟩:=Zcx e
 obtain⟨_,_,_,_,_,_,rfl,_,r1,r2,r3⟩:=r.i3
 cases r2
 obtain⟨b,rfl,eb,_⟩:=Zbd r3
 obtain⟨a,vs,G,rfl,ea,rv,_⟩:=r1.ilst
 obtain⟨v,us,ev⟩:=Zlm rv ef
 obtain⟨Y,eY⟩:=ZmI ea ev eb h1 h2
 refine⟨_,_,[(H++Y).length],eY,?_,λa m=>by simp at m;left;lia,λ_=>⟨.s,λa m=>by simp at m;omega⟩⟩
 have:=RF.tup (.cons (.int (g:Int)) (.cons (.int 0) (.one (ZfU (K:=H++(Y++[(ZaW m gv).map V.int])) (a:=(H++Y).length) (l:=ZaW m gv) (by rw[<-List.append_assoc];exact ZE _ _)))))
 simpa using this
theorem Zl1: ZaO true Zcb ZgW:=λH vs ts t F1 hp r e=>by
 obtain⟨b,⟨fs,g,x,m,ys,gv,rfl,ef,h1,h2,rfl⟩,rfl⟩:=Zcx e
 obtain⟨_,_,_,_,_,_,rfl,_,r1,r2,r3⟩:=r.i3
 cases r2
 obtain⟨b,rfl,eb,_⟩:=Zbd r3
 obtain⟨a,vs,G,rfl,ea,rv,_⟩:=r1.ilst
 obtain⟨v,us,ev⟩:=Zlm rv ef
 obtain⟨Y,eY⟩:=Zov ea ev eb h1 h2
 have e1:(H++(Y++[(ZaW m gv).map V.int,[.int g,.int 0,.ref (H++Y).length]]))[(H++Y).length]?=some ((ZaW m gv).map V.int):=by
  rw[<-List.append_assoc,Yy5 (Zz10 _)];simp
 have e2:(H++(Y++[(ZaW m gv).map V.int,[.int g,.int 0,.ref (H++Y).length]]))[(H++Y).length.succ]?=some [.int g,.int 0,.ref (H++Y).length]:=by
  rw[<-List.append_assoc,Yy5 (Nat.le_succ _)];simp
 refine⟨_,_,[(H++Y).length.succ,(H++Y).length],eY,?_,λa m=>by simp at m;left;lia,λ_=>⟨.s,λa m=>by simp at m;omega⟩⟩
 have:=RF.ref e2 (.cons (.int (g:Int)) (.cons (.int 0) (.one (ZfU e1))))
 simpa using this
end L
open PySem PM TM
namespace L
def ZgD: Sm:=Zh (Zk 2 (Zc Zf (Za 1) (Zd 1))) (Zh (Zk 3 (Z5 (ZU (Zc Zf (Za 2) (Zd 3))) (Zu 100) ZD (Zg Zcv (Zb (Za 100) (Zb (Zc Zf (ZB (Z3 (Runner_c) 5) (Za 0)) (Zd 2)) Ze))))) (Zh (ZJ (Zal (ZB (Z3 (Runner_c) 4) (Za 0)) (ZM (Zb (ZB (Z3 (Runner_c) 5) (Za 0)) (Zb (Za 1) Ze))))) (Zak (Runner_c) 5 (Zg ZcZ (Zb (ZB (Z3 (Runner_c) 0) (Za 0)) (Zb (Zc Zf (Za 2) (Zd 2)) (Zb (Za 3) Ze)))) (Za 0))))
def ZeY: List V->Hp->Option (V×Hp):=Zr 2 ZgD
end L
open PySem PM TM
namespace L
def Zgo: Sm:=Zh (Zk 2 (ZW (Runner_c) ZeO (Za 0) (Zb (Zc Zf (Zc Zf (Za 1) (Zd 0)) (Zd 1)) Ze))) (Zh (Zk 3 (ZB (Z3 (Runner_c) 5) (Za 0))) (Zaq (ZU (Za 1)) (Zu 4) (Zh (Zk 5 (Zg Zb6 (Zb (Zc Zf (Za 3) (Zd 2)) (Zb (Zc Zf (Za 4) (Zd 1)) (Zb (Za 2) Ze))))) (Zs (Zl (Zc Za6 (Za 5) (Zat))) (Zak (Runner_c) 5 (ZM (Zb (Zc Zf (Za 3) (Zd 0)) (Zb (Zc Zf (Za 4) (Zd 2)) (Zb (Za 5) Ze)))) (Za 0)) ZF))))
def ZeP: List V->Hp->Option (V×Hp):=Zr 2 Zgo
end L
open PySem PM TM
namespace L
def ZgE: Sm:=Zh (Zk 1 (ZW (Runner_c) ZdV (Za 0) Ze)) (Zs (Zl (Zc Zx (Zg ZO (Zb (Za 1) Ze)) (Zd 0))) (ZJ (ZW (Runner_c) ZeW (Za 0) Ze)) (Zs (Zl (Zc Zx (Zc Zf (Zc Zf (Zc Zf (Za 1) (Zd 0)) (Zd 1)) (Zd 0)) (ZG (Str.ofString "call")))) (ZJ (ZW (Runner_c) ZeY (Za 0) (Zb (Zc Zf (Za 1) (Zd 0)) Ze))) (ZJ (ZW (Runner_c) ZeP (Za 0) (Zb (Za 1) Ze)))))
def Zd2: List V->Hp->Option (V×Hp):=Zr 1 ZgE
end L
open PySem PM TM
namespace L
def Zgw: Sm:=Zh (Zk 1 (Z5 (ZaF (Zb (Zc Zw (Zg ZcI (Zb (Za 0) Ze)) (Zd 1)) Ze)) (Zu 100) ZD (Zy Ze))) (Zh (Zaq (ZU (Za 0)) (Zu 2) (ZJ (Zal (Zc Zf (Za 1) (Zc Zf (Za 2) (Zd 0))) (Za 2)))) (Zn (Za 1)))
def ZdX: List V->Hp->Option (V×Hp):=Zr 1 Zgw
end L
open PySem PM TM
namespace L
def ZgF(F:List V->Hp->Option (V×Hp)): Sm:=Zh (Zk 3 (ZW (Layer_c) ZbG (Za 0) (Zb (Za 2) (Zb (Zg Zcs (Zb (Zc Zf (Za 1) (Zd 1)) (Zb (ZaG true) Ze))) Ze)))) (Zh (Zk 4 (ZW (Layer_c) F (Za 0) (Zb (Zc Zf (Za 1) (Zd 2)) (Zb (Za 3) Ze)))) (Zh (Zk 5 (ZW (Layer_c) ZbG (Za 0) (Zb (Za 2) (Zb (Zg Zcs (Zb (Zc Zf (Za 1) (Zd 1)) (Zb (ZaG false) Ze))) Ze)))) (Zh (Zk 6 (ZW (Layer_c) F (Za 0) (Zb (Zc Zf (Za 1) (Zd 3)) (Zb (Za 5) Ze)))) (Zh (Zk 7 (ZW (Layer_c) ZbG (Za 0) (Zb (Za 4) (Zb (ZM (Zb (ZG (Str.ofString "go")) Ze)) Ze)))) (Zh (ZJ (ZW (Layer_c) Zc2 (Za 0) (Zb (Za 6) (Zb (ZM (Zb (ZG (Str.ofString "go")) Ze)) (Zb (Za 7) Ze))))) (Zn (Za 7)))))))
def ZeZ(F:List V->Hp->Option (V×Hp)): List V->Hp->Option (V×Hp):=Zr 3 (ZgF F)
end L
open PySem PM TM
namespace L
def Zgp(F:List V->Hp->Option (V×Hp)): Sm:=Zh (Zk 3 (ZW (Layer_c) ZbG (Za 0) (Zb (Za 2) (Zb (ZM (Zb (ZG (Str.ofString "go")) Ze)) Ze)))) (Zh (Zk 4 (ZW (Layer_c) ZbG (Za 0) (Zb (Za 3) (Zb (Zg Zcs (Zb (Zc Zf (Za 1) (Zd 1)) (Zb (ZaG true) Ze))) Ze)))) (Zh (Zk 5 (ZW (Layer_c) F (Za 0) (Zb (Zc Zf (Za 1) (Zd 2)) (Zb (Za 4) Ze)))) (Zh (ZJ (ZW (Layer_c) Zc2 (Za 0) (Zb (Za 5) (Zb (ZM (Zb (ZG (Str.ofString "go")) Ze)) (Zb (Za 3) Ze))))) (Zn (ZW (Layer_c) ZbG (Za 0) (Zb (Za 3) (Zb (Zg Zcs (Zb (Zc Zf (Za 1) (Zd 1)) (Zb (ZaG false) Ze))) Ze)))))))
def ZeQ(F:List V->Hp->Option (V×Hp)): List V->Hp->Option (V×Hp):=Zr 3 (Zgp F)
end L
open PySem PM TM
namespace L
def ZdU(F:List V->Hp->Option (V×Hp)): Sm:=Zh (Zs (Zl (Zc Zx (Zc Zf (Za 1) (Zd 0)) (ZG (Str.ofString "if")))) (Zn (ZW (Layer_c) (ZeZ F) (Za 0) (Zb (Za 1) (Zb (Za 2) Ze)))) ZF) (Zh (Zs (Zl (Zc Zx (Zc Zf (Za 1) (Zd 0)) (ZG (Str.ofString "while")))) (Zn (ZW (Layer_c) (ZeQ F) (Za 0) (Zb (Za 1) (Zb (Za 2) Ze)))) ZF) (Zn (ZW (Layer_c) ZbG (Za 0) (Zb (Za 2) (Zb (Zg Zfz (Zb (Za 1) Ze)) Ze)))))
def ZbV(F:List V->Hp->Option (V×Hp)): List V->Hp->Option (V×Hp):=Zr 3 (ZdU F)
end L
open PySem PM TM
namespace L
def ZeR(F:List V->Hp->Option (V×Hp)): Sm:=Zh (Zk 3 (Za 2)) (Zh (Zaq (ZU (Za 1)) (Zu 4) (Zk 3 (ZW (Layer_c) (ZbV F) (Za 0) (Zb (Za 4) (Zb (Za 3) Ze))))) (Zn (Za 3)))
def ZcE: Nat->List V->Hp->Option (V×Hp)
 | 0=>λ_ _=>none
 | n+1=>Zr 3 (ZeR (ZcE n))
def Zgr: List V->Hp->Option (V×Hp):=ZcE 9
end L
open PySem PM TM
namespace L
def Zhb: Sm:=Zh (Zk 1 (Zcp (Layer_c) ZeV Ze)) (Zh (ZJ (ZW (Layer_c) Zgr (Za 1) (Zb (Za 0) (Zb (Zd 0) Ze)))) (Zn (ZB (Z3 (Layer_c) 0) (Za 1))))
def Zcc: List V->Hp->Option (V×Hp):=Zr 1 Zhb
end L
open PySem PM TM
namespace L
def ZgG: Sm:=Zn (Z5 (ZU (Za 0)) (Zu 100) ZD (Zg ZdX (Zb (Zg Zcc (Zb (Zc Zf (Za 100) (Zd 2)) Ze)) Ze)))
def Ze0: List V->Hp->Option (V×Hp):=Zr 1 ZgG
end L
open PySem PM TM
namespace L
def Zgx: Sm:=Zh (Zak (Runner_c) 0 (Za 1) (Za 0)) (Zh (Zak (Runner_c) 1 (Zg Ze0 (Zb (Za 1) Ze)) (Za 0)) (Zh (Zak (Runner_c) 2 (Za 3) (Za 0)) (Zh (Zak (Runner_c) 3 (Zd 0) (Za 0)) (Zh (Zak (Runner_c) 4 (Zy Ze) (Za 0)) (Zak (Runner_c) 5 (Zg ZcZ (Zb (Za 1) (Zb (Zc Zaj (Zg ZO (Zb (Za 1) Ze)) (Zd 1)) (Zb (Za 2) Ze)))) (Za 0))))))
def ZdY: List V->Hp->Option (V×Hp):=Zr 4 Zgx
end L
open PySem PM TM
namespace L
abbrev Mo:=Int×Int×List Int
noncomputable def ZcW(m:Mo): T:=.tup [.int m.1,.int m.2.1,.lst (m.2.2.map T.int)]
noncomputable def ZT(m:Mo)(b:Nat): V:=.tup [.int m.1,.int m.2.1,.ref b]
structure RS where
 n:Nat
 wt:List (Mo×T)
 m:Mo
noncomputable def Zb9(ts:List T)(k:Int): Option T:=(seqIndex? k ts.length).bind λj=>ts[j]?
def unL: T->Option (List T)
 | .lst ts=>some ts
 | _=>none
def ZaH(tw:T)(m:Mo): Option (List T):=(unL tw).bind λa=>(Zb9 a m.1).bind λb=>(unL b).bind λc=>(Zb9 c m.2.1).bind unL
def Zbg(t:T): Option (List Int):=(unL t).bind ZbR
noncomputable def ZaX: T->Option (List T)
 | .tup ts=>some ts
 | _=>none
noncomputable def unS: T->Option Str
 | .str x=>some x
 | _=>none
def un3(t:T): Option (T×T×T):=(ZaX t).bind λts=>match ts with
 | [a,b,c]=>some (a,b,c)
 | _=>none
def un4(t:T): Option (T×T×T×T):=(ZaX t).bind λts=>match ts with
 | [a,b,c,d]=>some (a,b,c,d)
 | _=>none
theorem Zd9(e:ZaX t=some ts): t=.tup ts:=by
 cases t with
 | tup us=>cases e;rfl
 | _=>first|exact Yx0 e|cases e
theorem Zjj{x:Str}(e:unS t=some x): t=.str x:=by
 cases t with
 | str y=>cases e;rfl
 | _=>first|exact Yx0 e|cases e
theorem Zdv{k:Int}(e:unI t=some k): t=.int k:=by
 cases t with
 | int y=>cases e;rfl
 | _=>first|exact Yx0 e|cases e
theorem Zed{p:T×T×T}(e:un3 t=some p): t=.tup [p.1,p.2.1,p.2.2]:=by
 obtain⟨ts,e1,e⟩:=Zz0.mp e
 rw[Zd9 e1]
 split at e
 ·cases e;rfl
 ·first|exact Yx0 e|cases e
theorem Zno{p:T×T×T×T}(e:un4 t=some p): t=.tup [p.1,p.2.1,p.2.2.1,p.2.2.2]:=by
 obtain⟨ts,e1,e⟩:=Zz0.mp e
 rw[Zd9 e1]
 split at e
 ·cases e;rfl
 ·first|exact Yx0 e|cases e
def Zia(t:T): Option Mo:=(un3 t).bind λr=>(unI r.1).bind λf=>(unI r.2.1).bind λp=>(Zbg r.2.2).map λl=>(f,p,l)
def Zcf(bs:List Int): List T->Option (List Int)
 | []=>some []
 | one::ts=>((Zdb [one,Zm bs]).bind unI).bind λk=>(Zcf bs ts).map (k::·)
def Zdh(tp:T)(g:Int)(given:List Int): Option Mo:=(ZeX [tp,.int g,Zm given]).bind Zia
def Zib(bs:List Int)(x a:Int): Option (List Int):=(ZfT [Zm bs,.int x,.int a]).bind Zbg
def unD: T->Option (Option (List Int))
 | .none=>some none
 | .lst ts=>(ZbR ts).map some
 | _=>none
def ZeB(bs:List Int)(act:T)(pick:Int): Option (Option (List Int)):=(Zbb [Zm bs,act,.int pick]).bind unD
def ZfV(s:RS): Option RS:=s.wt.getLast?.bind λfr=>s.m.2.2.getLast?.bind λa=>(un3 fr.2).bind λr=>(ZaX r.2.1).bind λas=>(as[1]?.bind unI).bind λx=>(unI r.2.2).bind λq=>(Zib fr.1.2.2 x a).map λl=>⟨s.n,s.wt.dropLast,(fr.1.1,q,l)⟩
def ZfW(tp:T)(s:RS)(row:T): Option RS:=(un3 row).bind λr=>(un4 r.2.1).bind λa=>(unI a.2.2.1).bind λg=>(unL a.2.2.2).bind λsums=>if s.wt.length<10000/\sums.length<10000 then(Zcf s.m.2.2 sums).bind λgv=>(Zdh tp g gv).map λm=>⟨s.n,s.wt++[(s.m,row)],m⟩else none
noncomputable def Zan(ks:List Int)(n:Nat)(wd:Str): Nat×Int:=if wd=Str.ofString "any" then(n+1,ks.getD n 0)else(n,0)
def ZcX(t:T): Option (T×Int):=(un3 t).bind λr=>(unI r.2.2).map λq=>(r.2.1,q)
noncomputable def Zgj(f q:Int)(m:Option Mo): Option (List Int)->Option Mo
 | none=>m
 | some l=>some (f,q,l)
def ZdF(bs:List Int)(f pick:Int): List T->Option Mo->Option (Option Mo)
 | [],m=>some m
 | t::rs,m=>(ZcX t).bind λaq=>(ZeB bs aq.1 pick).bind λr=>ZdF bs f pick rs (Zgj f aq.2 m r)
theorem ZiS(e:ZcX t=some (act,q)): ∃h,t=.tup [h,act,.int q]:=by
 obtain⟨r,e1,e⟩:=Zz0.mp e
 obtain⟨q',e2,e⟩:=Zz1.mp e
 cases e
 rw[Zed e1,Zdv e2]
 exact⟨_,rfl⟩
def ZbS(tp tw:T)(ks:List Int)(s:RS): Option RS:=(ZaH tw s.m).bind λrows=>match rows with
 | []=>ZfV s
 | row::rs=>(un3 row).bind λr=>(ZaX r.2.1).bind λas=>(as[0]?.bind unS).bind λwd=>if PyData.strOk wd=true then(if wd=Str.ofString "call" then ZfW tp s row else((ZdF s.m.2.2 s.m.1 (Zan ks s.n wd).2 (row::rs) none).bind id).map λm=>⟨(Zan ks s.n wd).1,s.wt,m⟩)else none
def ZbO(tw:T)(s:RS): Option Bool:=(ZaH tw s.m).map λrows=>rows.isEmpty && s.wt.isEmpty
def RFo(K:Hp)(v:V)(t:T)(P:Nat->Prop): Prop:=∃F,RF K v t F/\∀a∈F,P a
theorem RFo.keep(r:RFo K v t P)(h:∀a,P a->a<K.length->K'[a]?=K[a]?): RFo K' v t P:=by
 obtain⟨F,r,p⟩:=r
 exact⟨F,r.frame λa m=>h a (p a m) (r.lt a m),p⟩
theorem RFo.lst(r:RFo K v (.lst ts) P): ∃b vs,v=.ref b/\K[b]?=some vs/\P b/\(∃F,RFs K vs ts F/\∀a∈F,P a):=by
 obtain⟨F,r,p⟩:=r
 cases r with
 | ref e hs=>exact⟨_,_,rfl,e,p _ Zz5,_,hs,λa m=>p a (Zz2 _ m)⟩
theorem RFo.tup(r:RFo K v (.tup ts) P): ∃vs,v=.tup vs/\(∃F,RFs K vs ts F/\∀a∈F,P a):=by
 obtain⟨F,r,p⟩:=r
 cases r with
 | tup hs=>exact⟨_,rfl,_,hs,p⟩
theorem ZV(r:∃F,RFs K vs (t::ts) F/\∀a∈F,P a): ∃v us,vs=v::us/\RFo K v t P/\(∃F,RFs K us ts F/\∀a∈F,P a):=by
 obtain⟨F,r,p⟩:=r
 cases r with
 | cons a b=>exact⟨_,_,rfl,⟨_,a,λx m=>p x (Zz4 _ m)⟩,_,b,λx m=>p x (Zz3 _ m)⟩
theorem Zby(r:∃F,RFs K vs [] F/\∀a∈F,P a): vs=[]:=by
 obtain⟨F,r,p⟩:=r
 cases r
 rfl
theorem Zln{a b:T}(r:∃F,RFs K vs [a,b,c] F/\∀a∈F,P a): ∃x y z,vs=[x,y,z]/\RFo K x a P/\RFo K y b P/\RFo K z c P:=by
 obtain⟨F,r,p⟩:=r
 obtain⟨x,y,z,F1,F2,F3,rfl,rfl,r1,r2,r3⟩:=r.i3
 exact⟨x,y,z,rfl,⟨_,r1,λa m=>p a (by simp[m])⟩,⟨_,r2,λa m=>p a (by simp[m])⟩,_,r3,λa m=>p a (by simp[m])⟩
theorem RFo.t3{a b:T}(r:RFo K v (.tup [a,b,c]) P): ∃x y z,v=.tup [x,y,z]/\RFo K x a P/\RFo K y b P/\RFo K z c P:=by
 obtain⟨vs,rfl,q⟩:=r.tup
 obtain⟨x,y,z,rfl,h⟩:=Zln q
 exact⟨x,y,z,rfl,h⟩
theorem RFo.int{k:Int}(r:RFo K v (.int k) P): v=.int k:=by
 obtain⟨F,r,_⟩:=r
 cases r
 rfl
theorem RFo.str{k:Str}(r:RFo K v (.str k) P): v=.str k:=by
 obtain⟨F,r,_⟩:=r
 cases r
 rfl
theorem Zcg(r:∃F,RFs K vs ts F/\∀a∈F,P a)(e:ts[j]?=some t): ∃v,vs[j]?=some v/\RFo K v t P:=by
 obtain⟨F,r,p⟩:=r
 obtain⟨v,G,h1,h2,h3⟩:=r.at e
 exact⟨v,h1,G,h2,λa m=>p a (h3.subset m)⟩
theorem Zee{K:Hp}: ∀{ts:List T} {ks:List Int} {vs:List V} {F:List Nat},ZbR ts=some ks->RFs K vs ts F->vs=ks.map V.int/\F=[]/\ts=ks.map T.int
 | [],ks,vs,F,e,r=>by cases r;cases e;exact⟨rfl,rfl,rfl⟩
 | .int k::ts,ks,vs,F,e,r=>by
  obtain⟨js,e1,e2⟩:=Zz1.mp e
  subst e2
  cases r with
  | cons a b=>
   cases a
   obtain⟨rfl,rfl,rfl⟩:=Zee e1 b
   exact⟨rfl,rfl,rfl⟩
theorem ZbP{b:Nat}(e:K[b]?=some (bs.map V.int)): RF K (.ref b) (Zm bs) [b]:=.ref e (by
 have:∀ks:List Int,RFs K (ks.map V.int) (ks.map T.int) []:=λks=>by
  induction ks with
  | nil=>exact .nil
  | cons k ks ih=>exact .cons (.int k) ih
 exact this bs)
theorem ZfB{k:Int}(r:RFo K v (.lst ts) P)(e:Zb9 ts k=some t): ∃u,Zf v (.int k) K=some (u,K)/\RFo K u t P:=by
 obtain⟨b,vs,rfl,e1,pb,rs⟩:=r.lst
 obtain⟨j,e2,e3⟩:=Zz0.mp e
 obtain⟨u,h1,h2⟩:=Zcg rs e3
 have hl:vs.length=ts.length:=by obtain⟨F,r,_⟩:=rs;exact r.length
 refine⟨u,?_,h2⟩
 simp[Zf,e1,hl,e2,h1]
theorem Zc8(e:unL t=some ts): t=.lst ts:=by
 cases t <;> simp[unL]at e
 rw[e]
theorem ZhZ{a b:Str}(ha:PyData.strOk a=true)(hb:PyData.strOk b=true)(H:Hp): Zx (.str a) (.str b) H=some (.bool (decide (a=b)),H):=by
 simp[Zx,ZbE,toD,SeqAt.shaped,PyData.canLay0,PyData.depth,PyData.eqv,ha,hb]
 rfl
theorem Zp6{a b:Str}(ha:PyData.strOk a=true)(hb:PyData.strOk b=true)(H:Hp): oNe (.str a) (.str b) H=some (.bool (!decide (a=b)),H):=by
 simp[oNe,ZbE,toD,SeqAt.shaped,PyData.canLay0,PyData.depth,PyData.eqv,ha,hb]
 rfl
theorem Z7{a b:Sm}(h:a O H=some (none,B,H1)): Zh a b O H=b B H1:=by simp[Zh,h]
def unT(n:Nat)(c:Nat->Int): T:=.tup [.str (Str.ofString "under"),ZaS n c]
def smT(n:Nat)(c:Nat->Int): T:=.tup [.str (Str.ofString "same"),ZaS n c]
def evT(n:Nat)(c:Nat->Int)(d:Int): T:=.tup [.str (Str.ofString "even"),ZaS n c,.int d]
theorem su: PyData.strOk (Str.ofString "under")=true:=by decide +kernel
theorem ss_: PyData.strOk (Str.ofString "same")=true:=by decide +kernel
end L
variable{fr:Mo×T}{frs wt:List (Mo×T)}{s':RS}{acc:Option Mo}{ms:List Mo}
open PySem PM TM
namespace L
def Off(o w m0 a:Nat): Prop:=a≠o/\a≠w/\a≠m0
def FmR(K:Hp)(P:Nat->Prop)(v:V)(fr:Mo×T): Prop:=∃c vr,v=.tup [ZT fr.1 c,vr]/\K[c]?=some (fr.1.2.2.map V.int)/\P c/\RFo K vr fr.2 P
inductive FmRs(K:Hp)(P:Nat->Prop): List V->List (Mo×T)->Prop where
 | nil:FmRs K P [] []
 | snoc {vs:List V} {frs:List (Mo×T)} {v:V} {fr:Mo×T}:FmRs K P vs frs->FmR K P v fr->FmRs K P (vs++[v]) (frs++[fr])
theorem lt_of_at{x:List V}(e:K[a]?=some x): a<K.length:=(Zz6.mp e).1
theorem FmR.keep(r:FmR K P v fr)(h:∀a,P a->a<K.length->K'[a]?=K[a]?): FmR K' P v fr:=by
 obtain⟨c,vr,e1,e2,p,r⟩:=r
 exact⟨c,vr,e1,(h c p (lt_of_at e2)).trans e2,p,r.keep h⟩
theorem FmRs.keep(r:FmRs K P vs frs)(h:∀a,P a->a<K.length->K'[a]?=K[a]?): FmRs K' P vs frs:=by
 induction r with
 | nil=>exact .nil
 | snoc _ b ih=>exact .snoc ih (b.keep h)
theorem FmRs.length(r:FmRs K P vs frs): vs.length=frs.length:=by
 induction r with
 | nil=>rfl
 | snoc _ _ ih=>simp[ih]
theorem FmRs.last(r:FmRs K P vs frs)(e:frs.getLast? = some fr): ∃us v,vs=us++[v]/\FmR K P v fr/\FmRs K P us frs.dropLast:=by
 cases r with
 | nil=>simp at e
 | snoc a b=>simp at e;subst e;exact⟨_,_,rfl,b,by simpa using a⟩
structure Rn(K:Hp)(o w b m0:Nat)(vp vw:V)(kk:Nat)(tp tw:T)(ks:List Int)(s:RS): Prop where
 ho:K[o]?=some [vp,vw,.ref kk,.int s.n,.ref w,ZT s.m b]
 hw:∃ws,K[w]?=some ws/\FmRs K (Off o w m0) ws s.wt
 hb:K[b]?=some (s.m.2.2.map V.int)
 rp:RFo K vp tp (Off o w m0)
 rw:RFo K vw tw (Off o w m0)
 rk:K[kk]?=some (ks.map V.int)
 ko:Off o w m0 kk
 bo:Off o w m0 b
 o0:o≠0
 w0:w≠0
 ow:o≠w
 mo:Off o w o m0
 ml:m0<K.length
section
variable {K:Hp} {o w b m0:Nat} {vp vw:V} {kk:Nat} {tp tw:T} {ks:List Int} {s:RS}
theorem Zjk{rows:List T}(R:Rn K o w b m0 vp vw kk tp tw ks s)(e:ZaH tw s.m=some rows): ∃v,ZdV [.obj Runner_c o] K=some (v,K)/\RFo K v (.lst rows) (Off o w m0):=by
 obtain⟨a,e1,f1⟩:=Zz0.mp e
 obtain⟨t1,e2,f2⟩:=Zz0.mp f1
 obtain⟨c,e3,f3⟩:=Zz0.mp f2
 obtain⟨d,e4,f4⟩:=Zz0.mp f3
 have:=Zc8 e1;subst this
 have:=Zc8 e3;subst this
 have:=Zc8 f4;subst this
 obtain⟨u1,h1,r1⟩:=ZfB R.rw e2
 obtain⟨u2,h2,r2⟩:=ZfB r1 e4
 refine⟨u2,?_,r2⟩
 unfold ZdV Zgm Zr
 simp only[List.length_singleton,if_true]
 have i0:∀(x y z:V) H,Zf (.tup [x,y,z]) (.int 0) H=some (x,H):=λ_ _ _ _=>rfl
 have i1:∀(x y z:V) H,Zf (.tup [x,y,z]) (.int 1) H=some (y,H):=λ_ _ _ _=>rfl
 simp[Zn,Zc,ZB,Z3,Za,R.ho,Zd,ZT,i0,i1,h1,h2]
theorem ZfC(r:RFo K v (.lst ts) P): ZO [v] K=some (.int ts.length,K):=by
 obtain⟨c,vs,rfl,e1,pb,F,rs,_⟩:=r.lst
 simp[ZO,e1,rs.length]
theorem ZmJ{q:Bool}(R:Rn K o w b m0 vp vw kk tp tw ks s)(e:ZbO tw s=some q): Zd1 [.obj Runner_c o] K=some (.bool q,K):=by
 obtain⟨rows,e9,rfl⟩:=Zz1.mp e
 obtain⟨v,h1,h2⟩:=Zjk R e9
 obtain⟨ws,h3,h4⟩:=R.hw
 have l1:=ZfC h2
 have l2:=h4.length
 unfold Zd1 Zgz Zr
 simp only[List.length_singleton,if_true]
 have ho:=R.ho
 cases rows with
 | nil=>
  simp only[List.length_nil]at l1
  cases hwt:s.wt with
  | nil=>
   rw[hwt]at l2
   have:ws=[]:=List.length_eq_zero_iff.mp (by simpa using l2)
   subst this
   have l6:ZO [.ref w] K=some (.int 0,K):=by simp[ZO,h3]
   simp[Zn,Zcl,Zc,Zg,Zb,Ze,ZW,Za,ZaI,h1,l1,Zd,Zab,ZB,Z3,ho,l6]
  | cons f fs=>
   have:ws.length≠0:=by rw[l2,hwt];simp
   have l3:((ws.length:Int) == 0)=false:=by simpa using this
   have l4:ws≠[]:=by rintro rfl;simp at this
   have l6:ZO [.ref w] K=some (.int ws.length,K):=by simp[ZO,h3]
   simp[Zn,Zcl,Zc,Zg,Zb,Ze,ZW,Za,ZaI,h1,l1,Zd,Zab,ZB,Z3,ho,l6,l3,l4]
 | cons r rs=>
  have l3:(((r::rs).length:Int) == 0)=false:=by simp;lia
  simp only[Zn,Zcl,Zc,Zg,Zb,Ze,ZW,Za,ZaI,List.getElem?_cons_zero,Ys1,Ys0,beq_self_eq_true,if_true,h1,l1,Zd,Zgf,l3,Zab]
  simp
def ZeK(K K':Hp)(o w m0:Nat)(vp vw:V)(kk:Nat)(tp tw:T)(ks:List Int)(s':RS): Prop:=∃b',Rn K' o w b' m0 vp vw kk tp tw ks s'/\K.length<=b'/\K.length<=K'.length/\∀a,a<K.length->a≠o->a≠w->K'[a]?=K[a]?
theorem Rn.mk'{b':Nat}(R:Rn K o w b m0 vp vw kk tp tw ks s)(kp:∀a,a<K.length->a≠o->a≠w->K'[a]?=K[a]?)(ho:K'[o]?=some [vp,vw,.ref kk,.int s'.n,.ref w,ZT s'.m b'])(hw:∃ws,K'[w]?=some ws/\FmRs K' (Off o w m0) ws s'.wt)(hb:K'[b']?=some (s'.m.2.2.map V.int))(hn:K.length<=b')(hl:K.length<=K'.length): ZeK K K' o w m0 vp vw kk tp tw ks s':=by
 have k2:∀a,Off o w m0 a->a<K.length->K'[a]?=K[a]?:=λa p l=>kp a l p.1 p.2.1
 obtain⟨ws,w1,w2⟩:=R.hw
 have lo:=lt_of_at R.ho
 have lw:=lt_of_at w1
 have lm:=R.ml
 exact⟨b',⟨ho,hw,hb,R.rp.keep k2,R.rw.keep k2,(k2 _ R.ko (lt_of_at R.rk)).trans R.rk,R.ko,⟨.l,.l,.l⟩,R.o0,R.w0,R.ow,R.mo,.l⟩,hn,hl,kp⟩
theorem Zmd(e:ZfV s=some s'): ∃(fr:Mo×T) (a:Int) (th:T) (as:List T) (x q:Int) (ts:List T) (l:List Int),s.wt.getLast? = some fr/\s.m.2.2.getLast? = some a/\fr.2=.tup [th,.tup as,.int q]/\as[1]?=some (.int x)/\ZfT [Zm fr.1.2.2,.int x,.int a]=some (.lst ts)/\ZbR ts=some l/\⟨s.n,s.wt.dropLast,(fr.1.1,q,l)⟩=s':=by
 obtain⟨fr,e1,e⟩:=Zz0.mp e
 obtain⟨a,e2,e⟩:=Zz0.mp e
 obtain⟨r,f1,e⟩:=Zz0.mp e
 obtain⟨as,f2,e⟩:=Zz0.mp e
 obtain⟨x,f3,e⟩:=Zz0.mp e
 obtain⟨q,f4,e⟩:=Zz0.mp e
 obtain⟨l,e3,e⟩:=Zz1.mp e
 obtain⟨tx,f3,f5⟩:=Zz0.mp f3
 obtain⟨t,e3,e4⟩:=Zz0.mp e3
 obtain⟨ts,e4,e5⟩:=Zz0.mp e4
 exact⟨fr,a,r.1,as,x,q,ts,l,e1,e2,by rw[Zed f1,Zd9 f2,Zdv f4],by rw[f3,Zdv f5],by rw[e3,Zc8 e4],e5,e⟩
theorem RFo.row(r:RFo K v (.tup [th,.tup as,.int q]) P): ∃vh vas,v=.tup [vh,.tup vas,.int q]/\∃F,RFs K vas as F/\∀a∈F,P a:=by
 obtain⟨vh,va,vq,e,_,d2,d3⟩:=r.t3
 obtain⟨vas,e2,d4⟩:=d2.tup
 exact⟨vh,vas,by rw[e,e2,d3.int],d4⟩
theorem ZmK(R:Rn K o w b m0 vp vw kk tp tw ks s)(e:ZfV s=some s'): ∃K',ZeW [.obj Runner_c o] K=some (.none,K')/\ZeK K K' o w m0 vp vw kk tp tw ks s':=by
 obtain⟨⟨⟨cf,cp,cb⟩,row⟩,a,th,as,x,q,ts,l,e1,e2,er,f3,e3,e5,rfl⟩:=Zmd e
 dsimp only at er
 subst er
 obtain⟨ws,w1,w2⟩:=R.hw
 obtain⟨us,v,rfl,w3,w4⟩:=w2.last e1
 obtain⟨c,vr,rfl,c1,c2,c3⟩:=w3
 obtain⟨vh,vas,rfl,d4⟩:=c3.row
 obtain⟨vx,d6,d5⟩:=Zcg d4 f3
 rw[d5.int]at d6
 have ho:=R.ho
 have hb:=R.hb
 have lo:=lt_of_at R.ho
 have lw:=lt_of_at w1
 have an:Zf (.ref b) (.int (-1)) K=some (.int a,K):=by
  obtain⟨ys,ey⟩:=List.getLast?_eq_some_iff.mp e2
  have hne:s.m.2.2.length=ys.length+1:=by rw[ey];simp
  simp only[Zf,hb,Ys0,List.length_map]
  have:seqIndex? (-1) s.m.2.2.length=some ys.length:=by
   unfold seqIndex?
   simp
   lia
  rw[this]
  simp[ey]
 generalize hK2:K.set w us=K2
 have k2o:K2[o]?=K[o]?:=by rw[<-hK2,Yy2 (Ne.symm R.ow)]
 have k2c:K2[c]?=K[c]?:=by rw[<-hK2,Yy2 (Ne.symm c2.2.1)]
 have l2:K2.length=K.length:=by rw[<-hK2];simp
 obtain⟨v',X,F,g1,g2,g3,g4⟩:=Zp2 K2 [.ref c,.int x,.int a] [Zm cb,.int x,.int a] (.lst ts) _ .l (.cons (ZbP (k2c.trans c1)) (.cons (.int x) (.one (.int a)))) e3
 obtain⟨gn,gl⟩:=g4 rfl
 cases g2 with
 | @ref b' vs' _ F' gb grs=>
 obtain⟨rfl,rfl,_⟩:=Zee e5 grs
 have hb':=gl b' List.mem_cons_self
 have lb':=lt_of_at gb
 generalize hK3:(K2++X).set o [vp,vw,.ref kk,.int s.n,.ref w,ZT (cf,q,l) b']=K3
 have kp:∀a,a<K.length->a≠o->a≠w->K3[a]?=K[a]?:=λa la ha hw=>by
  rw[<-hK3,Yy2 (Ne.symm ha),Yy0 (show a<K2.length by lia),<-hK2,Yy2 (Ne.symm hw)]
 have k3w:K3[w]?=some us:=by
  rw[<-hK3,List.getElem?_set_ne R.ow,Yy0 (show w<K2.length by lia),<-hK2,Yy6 lw]
 refine⟨K3,?_,R.mk' (b':=b') kp ?_ ⟨us,k3w,?_⟩ ?_ .l ?_⟩
 ·unfold ZeW ZgC Zr
  simp only[List.length_singleton,if_true]
  have i0:∀(x y z:V) H,Zf (.tup [x,y,z]) (.int 0) H=some (x,H):=λ_ _ _ _=>rfl
  have i2:∀(x y z:V) H,Zf (.tup [x,y,z]) (.int 2) H=some (z,H):=λ_ _ _ _=>rfl
  have i1:∀(x y z:V) H,Zf (.tup [x,y,z]) (.int 1) H=some (y,H):=λ_ _ _ _=>rfl
  have j0:∀(x y:V) H,Zf (.tup [x,y]) (.int 0) H=some (x,H):=λ_ _ _=>rfl
  have j1:∀(x y:V) H,Zf (.tup [x,y]) (.int 1) H=some (y,H):=λ_ _ _=>rfl
  have a1:∀H,Zf (.tup vas) (.int 1) H=some (.int x,H):=λH=>ZkF .d d6
  rw[Z7 (B:=Zi (λi=>[V.obj Runner_c o][i]?) 1 (.int a)) (H1:=K) (by simp[Zk,Zc,ZB,Z3,Za,ho,Zd,ZT,i2,an])]
  rw[Z7 (B:=Zi (Zi (λi=>[V.obj Runner_c o][i]?) 1 (.int a)) 2 (.tup [ZT (cf,cp,cb) c,V.tup [vh,V.tup vas,V.int q]])) (H1:=K2) (by simp[Zk,Zdq,ZB,Z3,Za,Zi,ho,Zgh,w1,R.w0,hK2])]
  rw[Z7 (B:=Zi (Zi (Zi (λi=>[V.obj Runner_c o][i]?) 1 (.int a)) 2 (.tup [ZT (cf,cp,cb) c,V.tup [vh,V.tup vas,V.int q]])) 3 (ZT (cf,cp,cb) c)) (H1:=K2) (by simp[Zk,Zc,Za,Zi,Zd,j0])]
  rw[Z7 (B:=Zi (Zi (Zi (Zi (λi=>[V.obj Runner_c o][i]?) 1 (.int a)) 2 (.tup [ZT (cf,cp,cb) c,V.tup [vh,V.tup vas,V.int q]])) 3 (ZT (cf,cp,cb) c)) 4 (V.tup [vh,V.tup vas,V.int q])) (H1:=K2) (by simp[Zk,Zc,Za,Zi,Zd,j1])]
  have kxo:(K2++X)[o]?=some [vp,vw,.ref kk,.int s.n,.ref w,ZT s.m b]:=by rw[Yy0 (show o<K2.length by lia),k2o,ho]
  have e0:Zay Runner_c 5 (.obj Runner_c o) (.tup [.int cf,.int q,.ref b']) (K2++X)=some K3:=by
   simp[Zay,R.o0,kxo,ZT,<-hK3]
  simp[Zak,ZM,Zb,Ze,Zc,Za,Zi,Zd,ZT,i0,i2,i1,a1,Zg,g1,ZC,e0]
 ·rw[<-hK3,Yy6 (by rw[List.length_append];lia)]
 ·exact w4.keep λa p l=>kp a l p.1 p.2.1
 ·rw[<-hK3,Yy2 .l]
  exact gb
 ·rw[<-hK3];simp;lia
end
end L
open PySem PM TM
namespace L
section
variable {K:Hp} {o w b m0:Nat} {vp vw:V} {kk:Nat} {tp tw:T} {ks:List Int} {s:RS}
theorem i30(x y z:V)(H:Hp): Zf (.tup [x,y,z]) (.int 0) H=some (x,H):=rfl
theorem i31(x y z:V)(H:Hp): Zf (.tup [x,y,z]) (.int 1) H=some (y,H):=rfl
theorem i32(x y z:V)(H:Hp): Zf (.tup [x,y,z]) (.int 2) H=some (z,H):=rfl
theorem i42(x y z u:V)(H:Hp): Zf (.tup [x,y,z,u]) (.int 2) H=some (z,H):=rfl
theorem i43(x y z u:V)(H:Hp): Zf (.tup [x,y,z,u]) (.int 3) H=some (u,H):=rfl
theorem ia0(x:V)(xs:List V)(H:Hp): Zf (.tup (x::xs)) (.int 0) H=some (x,H):=by
 have:seqIndex? 0 (xs.length+1)=some 0:=by unfold seqIndex?;simp
 simp[Zf,this]
def Zev: Ex:=Zg Zcv (Zb (Za 100) (Zb (Zc Zf (ZB (Z3 (Runner_c) 5) (Za 0)) (Zd 2)) Ze))
theorem ZiC{O:Lc}{d:Nat}{vs:List V}{P:Nat->Prop}(h0:O 0=some (.obj Runner_c o))(ho:K[o]?=some [vp,vw,.ref kk,.int s.n,.ref w,ZT s.m b])(hb:K[b]?=some (s.m.2.2.map V.int))(hd:K[d]?=some vs)(hp:0<K.length): ∀(ts:List T) (i:Nat) (acc gv:List Int) (X:Hp),(∀(j:Nat) t,ts[j]?=some t->∃v,vs[i+j]?=some v/\RFo K v t P)->vs.length=i+ts.length->Zcf s.m.2.2 ts=some gv->acc.length+ts.length<ZK->∃Y,Zad (ZH d) (Zu 100) ZD Zev O (ts.length+1) i (acc.map V.int) (K++X)=some ((acc++gv).map V.int,K++Y)
 | [],i,acc,gv,X,hr,hl,e,hc=>by
  cases e
  have hn:vs[i]?=none:=Yy8 (by simp at hl;lia)
  refine⟨X,?_⟩
  have hd':(K++X)[d]?=some vs:=by rw[Yy0 (lt_of_at hd)];exact hd
  simp[Zad,ZH,hd',hn]
 | one::ts,i,acc,gv,X,hr,hl,e,hc=>by
  obtain⟨k,e1,e⟩:=Zz0.mp e
  obtain⟨gv',e2,e3⟩:=Zz1.mp e
  subst e3
  obtain⟨t,e4,e5⟩:=Zz0.mp e1
  have et:t=.int k:=by
   cases t <;> simp[unI]at e5
   rw[e5]
  subst et
  obtain⟨v,v1,F1,v2,v3⟩:=hr 0 one rfl
  rw[Nat.add_zero]at v1
  have hd':(K++X)[d]?=some vs:=by rw[Yy0 (lt_of_at hd)];exact hd
  have hb':(K++X)[b]?=some (s.m.2.2.map V.int):=by rw[Yy0 (lt_of_at hb)];exact hb
  have ho':(K++X)[o]?=some [vp,vw,.ref kk,.int s.n,.ref w,ZT s.m b]:=by rw[Yy0 (lt_of_at ho)];exact ho
  obtain⟨u,Z,F,g1,g2,_⟩:=Zos (K++X) [v,.ref b] [one,Zm s.m.2.2] (.int k) _ (by rw[List.length_append];lia) (.cons (v2.ext X) (.one (ZbP hb'))) e4
  cases g2
  obtain⟨Y,y1⟩:=ZiC h0 ho hb hd hp ts (i+1) (acc++[k]) gv' (X++Z) (λj t e=>by
   have:=hr (j+1) t (by simpa using e)
   rw[show i+(j+1)=i+1+j by lia]at this
   exact this) (by rw[hl];simp;lia) e2 (by simp at hc ⊢;lia)
  refine⟨Y,?_⟩
  have g3:Zev (Zi O 100 v) (K++X)=some (.int k,K++(X++Z)):=by
   rw[List.append_assoc]at g1
   simp only[ZT]at ho'
   simp[Zev,Zg,Zb,Ze,Za,Zi,h0,Zc,ZB,Z3,ho',Zd,i32]
   exact g1
  have hc':acc.length<ZK:=by simp at hc;lia
  rw[List.length_cons]
  have y1':Zad (ZH d) (Zu 100) ZD Zev O (ts.length+1) (i+1) (acc.map V.int++[V.int k]) (K++(X++Z))=some ((acc++k::gv').map V.int,K++Y):=by
   have:(acc++[k]).map V.int=acc.map V.int++[V.int k]:=by simp
   rw[<-this,y1]
   simp
  show((ZH d i (K++X)).bind _)=_
  have hx:ZH d i (K++X)=some (some v):=by simp[ZH,hd',v1]
  rw[hx]
  simp only[Ys0,Zu,ZD,if_true,g3,List.length_map,hc']
  exact y1'
theorem ZiD{m:Mo}(e:Zia t=some m): ∃ts,t=.tup [.int m.1,.int m.2.1,.lst ts]/\ZbR ts=some m.2.2:=by
 obtain⟨r,f1,e⟩:=Zz0.mp e
 obtain⟨f,f2,e⟩:=Zz0.mp e
 obtain⟨p,f3,e⟩:=Zz0.mp e
 obtain⟨l,f4,e⟩:=Zz1.mp e
 obtain⟨ts,f4,f5⟩:=Zz0.mp f4
 subst e
 rw[Zed f1,Zdv f2,Zdv f3,Zc8 f4]
 exact⟨_,rfl,f5⟩
theorem Zj8{m:Mo}(r:RF K v (.tup [.int m.1,.int m.2.1,.lst ts]) F)(e:ZbR ts=some m.2.2): ∃b',v=ZT m b'/\K[b']?=some (m.2.2.map V.int)/\F=[b']:=by
 obtain⟨b,us,G,rfl,rfl,e1,hs⟩:=r.imom
 obtain⟨h1,rfl,_⟩:=Zee e hs
 exact⟨_,rfl,h1▸e1,.s⟩
theorem Zme{row:T}(e:ZfW tp s row=some s'): ∃(th tw0 tx:T) (g:Int) (sums:List T) (tq:T) (gv:List Int) (m:Mo) (ts:List T),row=.tup [th,.tup [tw0,tx,.int g,.lst sums],tq]/\s.wt.length<10000/\sums.length<10000/\Zcf s.m.2.2 sums=some gv/\ZeX [tp,.int g,Zm gv]=some (.tup [.int m.1,.int m.2.1,.lst ts])/\ZbR ts=some m.2.2/\⟨s.n,s.wt++[(s.m,row)],m⟩=s':=by
 obtain⟨r3,f1,e⟩:=Zz0.mp e
 obtain⟨r4,f2,e⟩:=Zz0.mp e
 obtain⟨g,f3,e⟩:=Zz0.mp e
 obtain⟨sums,f4,e⟩:=Zz0.mp e
 split at e
 case isFalse=>first|exact Yx0 e|cases e
 rename_i hlw
 obtain⟨gv,e1,e⟩:=Zz0.mp e
 obtain⟨m,e2,e⟩:=Zz1.mp e
 obtain⟨t,e2,e3⟩:=Zz0.mp e2
 obtain⟨ts,e5,e4⟩:=ZiD e3
 exact⟨r3.1,r4.1,r4.2.1,g,sums,r3.2.2,gv,m,ts,by rw[Zed f1,Zno f2,Zdv f3,Zc8 f4],hlw.1,hlw.2,e1,by rw[e2,e5],e4,e⟩
theorem RFo.row4{a:T}{g:Int}(r:RFo K v (.tup [th,.tup [a,c,.int g,.lst sums],tq]) P): ∃vh v1 v2 d vs vq,v=.tup [vh,.tup [v1,v2,.int g,.ref d],vq]/\K[d]?=some vs/\∃F,RFs K vs sums F/\∀a∈F,P a:=by
 obtain⟨vh,va,vq,e,_,d2,_⟩:=r.t3
 obtain⟨vas,e2,d4⟩:=d2.tup
 obtain⟨v1,us,e3,_,d4⟩:=ZV d4
 obtain⟨v2,v3,v4,e4,_,d5,d6⟩:=Zln d4
 obtain⟨d,vs,e5,hd,_,rs⟩:=d6.lst
 exact⟨vh,v1,v2,d,vs,vq,by rw[e,e2,e3,e4,d5.int,e5],hd,rs⟩
theorem ZmL{vrow:V}{row:T}(R:Rn K o w b m0 vp vw kk tp tw ks s)(r:RFo K vrow row (Off o w m0))(e:ZfW tp s row=some s'): ∃K',ZeY [.obj Runner_c o,vrow] K=some (.none,K')/\ZeK K K' o w m0 vp vw kk tp tw ks s':=by
 have rr:=r
 obtain⟨th,tw0,tx,g,sums,tq,gv,m,ts,rfl,hlw,hls,e1,e2,e4,rfl⟩:=Zme e
 obtain⟨vh,v1,v2,d,vs,vq,rfl,hd,rs⟩:=r.row4
 obtain⟨ws,w1,w2⟩:=R.hw
 have ho:=R.ho
 have hb:=R.hb
 have lo:=lt_of_at R.ho
 have lw:=lt_of_at w1
 have lvs:vs.length=sums.length:=by obtain⟨F,r,_⟩:=rs;exact r.length
 obtain⟨Y,gl⟩:=ZiC (O:=Zi (λi=>[V.obj Runner_c o,V.tup [vh,V.tup [v1,v2,V.int g,V.ref d],vq]][i]?) 2 (V.tup [v1,v2,V.int g,V.ref d])) (d:=d) (vs:=vs) (P:=Off o w m0) (by simp[Zi]) ho hb hd .l sums 0 [] gv [] (λj t e=>by rw[Nat.zero_add];exact Zcg rs e) .l e1 (by rw[ZC];simp;lia)
 simp only[List.map_nil,List.append_nil,List.nil_append]at gl
 generalize hK3:K++Y++[gv.map V.int]=K3
 have l3:K3.length=K.length+Y.length+1:=by rw[<-hK3];simp;lia
 have k3:∀a,a<K.length->K3[a]?=K[a]?:=λa l=>by
  rw[<-hK3,List.append_assoc,Yy0 l]
 have k3g:K3[(K++Y).length]?=some (gv.map V.int):=by rw[<-hK3];simp
 generalize hK4:K3.set w (ws++[.tup [ZT s.m b,V.tup [vh,V.tup [v1,v2,V.int g,V.ref d],vq]]])=K4
 have l4:K4.length=K3.length:=by rw[<-hK4];simp
 have lg:(K++Y).length<K3.length:=lt_of_at k3g
 have lky:(K++Y).length=K.length+Y.length:=by simp
 have k4:∀a,a<K3.length->a≠w->K4[a]?=K3[a]?:=λa l h=>by rw[<-hK4,Yy2 (Ne.symm h)]
 have k4w:K4[w]?=some (ws++[.tup [ZT s.m b,V.tup [vh,V.tup [v1,v2,V.int g,V.ref d],vq]]]):=by rw[<-hK4,Yy6 .l]
 have kp4:∀a,Off o w m0 a->a<K.length->K4[a]?=K[a]?:=λa p l=>(k4 a .l p.2.1).trans (k3 a l)
 obtain⟨Fp,rp,_⟩:=R.rp.keep kp4
 obtain⟨v',X,F,g1,g2,g3,g4⟩:=Ziq K4 [vp,.int g,.ref (K++Y).length] [tp,.int g,Zm gv] _ _ .l (.cons rp (.cons (.int g) (.one (ZbP ((k4 _ lg .l).trans k3g))))) e2
 obtain⟨b',rfl,gb,rfl⟩:=Zj8 (m:=m) g2 e4
 have hb':=(g4 rfl).2 b' List.mem_cons_self
 have lb':=lt_of_at gb
 generalize hK5:(K4++X).set o [vp,vw,.ref kk,.int s.n,.ref w,ZT m b']=K5
 have l5:K5.length=K4.length+X.length:=by rw[<-hK5];simp
 have kp:∀a,a<K.length->a≠o->a≠w->K5[a]?=K[a]?:=λa la ha hw=>by
  rw[<-hK5,Yy2 (Ne.symm ha),Yy0 (show a<K4.length by lia),k4 a .l hw,k3 a la]
 have k5w:K5[w]?=K4[w]?:=by
  rw[<-hK5,List.getElem?_set_ne R.ow,Yy0 (show w<K4.length by lia)]
 have kpo:∀a,Off o w m0 a->a<K.length->K5[a]?=K[a]?:=λa p l=>kp a l p.1 p.2.1
 refine⟨K5,?_,R.mk' (b':=b') kp ?_ ⟨_,k5w.trans k4w,?_⟩ ?_ .l .l⟩
 ·unfold ZeY ZgD Zr
  simp only[List.length_cons,List.length_nil,if_true]
  rw[Z7 (B:=Zi (λi=>[V.obj Runner_c o,V.tup [vh,V.tup [v1,v2,V.int g,V.ref d],vq]][i]?) 2 (V.tup [v1,v2,V.int g,V.ref d])) (H1:=K) (by simp[Zk,Zc,Za,Zd,i31])]
  rw[Z7 (B:=Zi (Zi (λi=>[V.obj Runner_c o,V.tup [vh,V.tup [v1,v2,V.int g,V.ref d],vq]][i]?) 2 (V.tup [v1,v2,V.int g,V.ref d])) 3 (.ref (K++Y).length)) (H1:=K3) (by
   have gl':=gl
   rw[<-lvs]at gl'
   simp only[Zev]at gl'
   simp only[Zk,Z5,ZU,Zc,Za,Zi,if_true,Ys1,Ys0,Zd,i43,hd]
   rw[gl']
   simp[<-hK3])]
  have h3o:K3[o]?=some [vp,vw,.ref kk,.int s.n,.ref w,ZT s.m b]:=(k3 o lo).trans ho
  have h3w:K3[w]?=some ws:=(k3 w lw).trans w1
  have lws:ws.length<100000:=by have:=w2.length;lia
  rw[Z7 (B:=Zi (Zi (λi=>[V.obj Runner_c o,V.tup [vh,V.tup [v1,v2,V.int g,V.ref d],vq]][i]?) 2 (V.tup [v1,v2,V.int g,V.ref d])) 3 (.ref (K++Y).length)) (H1:=K4) (by
   simp[ZJ,Zal,ZB,Z3,Za,Zi,h3o,ZM,Zb,Ze,Za0,h3w,R.w0,ZC,lws,hK4])]
  have h4o:K4[o]?=some [vp,vw,.ref kk,.int s.n,.ref w,ZT s.m b]:=(k4 o .l R.ow).trans h3o
  have kxo:(K4++X)[o]?=some [vp,vw,.ref kk,.int s.n,.ref w,ZT s.m b]:=by rw[Yy0 (show o<K4.length by lia),h4o]
  have e0:Zay Runner_c 5 (.obj Runner_c o) (ZT m b') (K4++X)=some K5:=by
   simp[Zay,R.o0,kxo,<-hK5]
  have u1:ZB (Z3 Runner_c 0) (Za 0) (Zi (Zi (λi=>[V.obj Runner_c o,V.tup [vh,V.tup [v1,v2,V.int g,V.ref d],vq]][i]?) 2 (V.tup [v1,v2,V.int g,V.ref d])) 3 (.ref (K++Y).length)) K4=some (vp,K4):=by
   simp[ZB,Z3,Za,Zi,h4o]
  simp only[Zak,Zg,Zb,Ze,u1,Ys0,Zc,Za,Zi,Zd,i42]
  simp only[if_true,if_false,Ys1,Ys0,i42,g1,show(2=3)=False from by simp,show(0=3)=False from by simp,show(0=2)=False from by simp,List.getElem?_cons_zero,e0]
  rfl
 ·rw[<-hK5,Yy6 (by rw[List.length_append];lia)]
 ·refine .snoc (w2.keep kpo) ⟨b,_,rfl,(kpo b R.bo (lt_of_at hb)).trans hb,R.bo,?_⟩
  exact rr.keep kpo
 ·rw[<-hK5,Yy2 .l]
  exact gb
end
end L
open PySem PM TM
namespace L
section
variable {K:Hp} {o w b m0:Nat} {vp vw:V} {kk:Nat} {tp tw:T} {ks:List Int} {s:RS}
theorem Znp{as:List V}(R:Rn K o w b m0 vp vw kk tp tw ks s)(hwd:PyData.strOk wd=true): ∃K',ZeO [.obj Runner_c o,.tup (.str wd::as)] K=some (.int (Zan ks s.n wd).2,K')/\K'.length=K.length/\K'[o]?=some [vp,vw,.ref kk,.int (Zan ks s.n wd).1,.ref w,ZT s.m b]/\∀a,a≠o->K'[a]?=K[a]?:=by
 have hn:=Zp6 hwd (show PyData.strOk (Str.ofString "any")=true by decide +kernel) K
 unfold ZeO Zgn Zr Zan
 simp only[List.length_cons,List.length_nil,if_true]
 by_cases c:wd=Str.ofString "any"
 ·rw[decide_eq_true c]at hn
  generalize hK1:K.set o [vp,vw,.ref kk,.int (s.n+1:Nat),.ref w,ZT s.m b]=K1
  have lo:=lt_of_at R.ho
  have h1o:K1[o]?=some [vp,vw,.ref kk,.int (s.n+1:Nat),.ref w,ZT s.m b]:=by rw[<-hK1,Yy6 lo]
  have h1k:K1[kk]?=some (ks.map V.int):=by rw[<-hK1,Yy2 (Ne.symm R.ko.1)];exact R.rk
  refine⟨K1,?_,by rw[<-hK1];simp,by simp[c,h1o],λa h=>by rw[<-hK1,Yy2 (Ne.symm h)]⟩
  rw[Z7 (B:=(λi=>[V.obj Runner_c o,V.tup (V.str wd::as)][i]?)) (H1:=K) (by simp[Zs,Zl,Zc,Za,Zd,ia0,ZG,hn,Zab,ZF])]
  rw[Z7 (B:=(λi=>[V.obj Runner_c o,V.tup (V.str wd::as)][i]?)) (H1:=K1) (by
   have e0:Zay Runner_c 3 (.obj Runner_c o) (.int ((s.n:Int)+1)) K=some K1:=by
    simp[Zay,R.o0,R.ho,<-hK1]
   simp[Zak,Zc,ZB,Z3,Za,R.ho,Zd,e0])]
  have lk:ZO [.ref kk] K1=some (.int ks.length,K1):=by simp[ZO,h1k]
  by_cases c2:ks.length<s.n+1
  ·have hg:ks.getD s.n 0=0:=by
    rw[List.getD_eq_getElem?_getD,Yy8 .l];rfl
   have c3:((ks.length:Int)<(s.n:Int)+1):=by lia
   simp[Zh,Zs,Zl,Zc,ZB,Z3,Za,h1o,Zg,Zb,Ze,lk,Zab,c3,Zn,Zd,c]
   rw[Yy8 .o]
   rfl
  ·have c3:¬((ks.length:Int)<(s.n:Int)+1):=by lia
   have hx:Zf (.ref kk) (.int ((s.n:Int)+1-1)) K1=some (.int (ks.getD s.n 0),K1):=by
    have:seqIndex? ((s.n:Int)+1-1) ks.length=some s.n:=by unfold seqIndex?;simp;lia
    simp only[Zf,h1k,Ys0,List.length_map,this]
    rw[List.getElem?_map,Yy1 .l,List.getD_eq_getElem?_getD,Yy1 .o]
    rfl
   simp only[Zh,Zs,Zl,Zc,ZB,Z3,Za,List.getElem?_cons_zero,Ys1,Ys0,if_true,h1o,Zg,Zb,Ze,List.getElem?_cons_succ]
   simp[lk,Zab,c3,ZF,Zn,Za,Zd,h1o,ZB,Zc,Z3,hx,c]
   simp only[Int.add_sub_cancel]at hx
   rw[hx]
   simp
 ·rw[decide_eq_false c]at hn
  refine⟨K,?_,rfl,by simp[c,R.ho],λ_ _=>rfl⟩
  simp[Zh,Zs,Zl,Zc,Za,Zd,ia0,ZG,hn,Zab,Zn,c]
def Zew: Sm:=Zh (Zk 5 (Zg Zb6 (Zb (Zc Zf (Za 3) (Zd 2)) (Zb (Zc Zf (Za 4) (Zd 1)) (Zb (Za 2) Ze))))) (Zs (Zl (Zc Za6 (Za 5) (Zat))) (Zak (Runner_c) 5 (ZM (Zb (Zc Zf (Za 3) (Zd 0)) (Zb (Zc Zf (Za 4) (Zd 2)) (Zb (Za 5) Ze)))) (Za 0)) ZF)
def AlI(K:Hp)(o w:Nat)(vp vw:V)(kk n b:Nat)(s:RS)(acc:Option Mo)(K1:Hp): Prop:=K.length<=K1.length/\(∀a,a<K.length->a≠o->K1[a]?=K[a]?)/\match acc with
 | none=>K1[o]?=some [vp,vw,.ref kk,.int n,.ref w,ZT s.m b]
 | some m=>∃b',K.length<=b'/\K1[o]?=some [vp,vw,.ref kk,.int n,.ref w,ZT m b']/\K1[b']?=some (m.2.2.map V.int)
theorem AlI.at(h:AlI K o w vp vw kk n b s acc K1): ∃x,K1[o]?=some [vp,vw,.ref kk,.int n,.ref w,x]:=by
 obtain⟨_,_,h⟩:=h
 cases acc with
 | none=>exact⟨_,h⟩
 | some m=>obtain⟨b',_,h,_⟩:=h;exact⟨_,h⟩
theorem ZiE{P:Nat->Prop}(hPo:∀a,P a->a≠o)(o0:o≠0){n r:Nat}{pick:Int}{vs:List V}(lo:o<K.length)(hr:K[r]?=some vs)(ro:r≠o)(hb:K[b]?=some (s.m.2.2.map V.int))(bo:b≠o): ∀(ts:List T) (i:Nat) (acc fin:Option Mo) (K1:Hp) (O:Lc),(∀(j:Nat) t,ts[j]?=some t->∃v,vs[i+j]?=some v/\RFo K v t P)->vs.length=i+ts.length->O 0=some (.obj Runner_c o)->O 2=some (.int pick)->O 3=some (ZT s.m b)->AlI K o w vp vw kk n b s acc K1->ZdF s.m.2.2 s.m.1 pick ts acc=some fin->∃U K',ZaR (ZH r) (Zu 4) Zew (ts.length+1) i O K1=some (none,U,K')/\AlI K o w vp vw kk n b s fin K'
 | [],i,acc,fin,K1,O,hv,hl,h0,h2,h3,A,e=>by
  cases e
  have hn:vs[i]?=none:=Yy8 (by simp at hl;lia)
  have hr':K1[r]?=some vs:=(A.2.1 r (lt_of_at hr) ro).trans hr
  exact⟨O,K1,by simp[ZaR,ZH,hr',hn],A⟩
 | t::ts,i,acc,fin,K1,O,hv,hl,h0,h2,h3,A,e=>by
  obtain⟨⟨act,q⟩,e0,e9⟩:=Zz0.mp e
  obtain⟨dn,e1,e2⟩:=Zz0.mp e9
  obtain⟨th,rfl⟩:=ZiS e0
  obtain⟨dt,e3,e4⟩:=Zz0.mp e1
  obtain⟨v,v1,v2⟩:=hv 0 _ rfl
  rw[Nat.add_zero]at v1
  have v2':=v2
  obtain⟨vs3,rfl,d1⟩:=v2.tup
  obtain⟨vh,_,rfl,_,d1⟩:=ZV d1
  obtain⟨va,_,rfl,d2,d1⟩:=ZV d1
  obtain⟨vq,_,rfl,d3,d1⟩:=ZV d1
  have:=Zby d1;subst this
  have:=d3.int;subst this
  have kp:∀a,P a->a<K.length->K1[a]?=K[a]?:=λa p l=>A.2.1 a l (hPo a p)
  obtain⟨Fa,ra,_⟩:=d2.keep kp
  have hr':K1[r]?=some vs:=(A.2.1 r (lt_of_at hr) ro).trans hr
  have hb':K1[b]?=some (s.m.2.2.map V.int):=(A.2.1 b (lt_of_at hb) bo).trans hb
  have l1:=A.1
  obtain⟨u,X,F,g1,g2,g3,g4⟩:=Zp3 K1 [.ref b,va,.int pick] [Zm s.m.2.2,act,.int pick] dt _ .l (.cons (ZbP hb') (.cons ra (.one (.int pick)))) e3
  have st5:∀O:Lc,O 2=some (.int pick)->O 3=some (ZT s.m b)->Zk 5 (Zg Zb6 (Zb (Zc Zf (Za 3) (Zd 2)) (Zb (Zc Zf (Za 4) (Zd 1)) (Zb (Za 2) Ze)))) (Zi O 4 (V.tup [vh,va,V.int q])) K1=some (none,Zi (Zi O 4 (V.tup [vh,va,V.int q])) 5 u,K1++X):=λO h2 h3=>by
   simp[Zk,Zg,Zb,Ze,Zc,Za,Zi,h2,h3,Zd,ZT,i32,i31,g1]
  have nxt:∀j,j<=ts.length->True:=λ_ _=>trivial
  have body:∃K2,Zew (Zi O 4 (V.tup [vh,va,V.int q])) K1=some (none,Zi (Zi O 4 (V.tup [vh,va,V.int q])) 5 u,K2)/\AlI K o w vp vw kk n b s (Zgj s.m.1 q acc dn) K2:=by
   unfold Zew
   rw[Z7 (st5 O h2 h3)]
   obtain⟨A1,A2,A3⟩:=A
   have kx:∀a,a<K1.length->(K1++X)[a]?=K1[a]?:=λa l=>Yy0 l
   cases dt with
   | none=>
    cases e4
    cases g2
    refine⟨K1++X,by simp[Zs,Zl,Zc,Za,Zi,Zat,Zab,ZF],by simp;lia,λa l h=>(kx a .l).trans (A2 a l h),?_⟩
    cases acc with
    | none=>exact(kx o .l).trans A3
    | some m=>
     obtain⟨b',y1,y2,y3⟩:=A3
     exact⟨b',y1,(kx o .l).trans y2,(kx b' (lt_of_at y3)).trans y3⟩
   | lst dts=>
    obtain⟨l,e5,e6⟩:=Zz1.mp e4
    subst e6
    obtain⟨gn,gl⟩:=g4 rfl
    cases g2 with
    | @ref b' vs' _ F' gb grs=>
    obtain⟨rfl,rfl,_⟩:=Zee e5 grs
    have hb2:=gl b' List.mem_cons_self
    have lb':=lt_of_at gb
    obtain⟨x,ox⟩:=AlI.at (K:=K) (o:=o) (w:=w) (vp:=vp) (vw:=vw) (kk:=kk) (b:=b) (s:=s) ⟨A1,A2,A3⟩
    have kxo:(K1++X)[o]?=some [vp,vw,.ref kk,.int n,.ref w,x]:=(kx o .l).trans ox
    generalize hK2:(K1++X).set o [vp,vw,.ref kk,.int n,.ref w,ZT (s.m.1,q,l) b']=K2
    have e0:Zay Runner_c 5 (.obj Runner_c o) (.tup [.int s.m.1,.int q,.ref b']) (K1++X)=some K2:=by
     simp[Zay,o0,kxo,ZT,<-hK2]
    refine⟨K2,?_,by rw[<-hK2];simp;lia,λa l h=>by rw[<-hK2,Yy2 (Ne.symm h)];exact(kx a .l).trans (A2 a l h),b',.l,by rw[<-hK2,Yy6 (by rw[List.length_append];lia)],by rw[<-hK2,Yy2 .l];exact gb⟩
    simp[Zs,Zl,Zc,Za,Zi,Zat,Zab,Zak,ZM,Zb,Ze,h3,ZT,Zd,i30,i32,ZC,h0,e0]
   | bool _=>first|exact Yx0 e4|cases e4
   | int _=>first|exact Yx0 e4|cases e4
   | str _=>first|exact Yx0 e4|cases e4
   | tup _=>first|exact Yx0 e4|cases e4
   | ob _ _=>first|exact Yx0 e4|cases e4
  obtain⟨K2,b1,b2⟩:=body
  obtain⟨U,K',c1,c2⟩:=ZiE hPo o0 lo hr ro hb bo ts (i+1) _ fin K2 (Zi (Zi O 4 (V.tup [vh,va,V.int q])) 5 u) (λj t e=>by
   have:=hv (j+1) t (by simpa using e)
   rw[show i+(j+1)=i+1+j by lia]at this
   exact this) (by rw[hl];simp;lia) (by simp[Zi,h0]) (by simp[Zi,h2]) (by simp[Zi,h3]) b2 e2
  refine⟨U,K',?_,c2⟩
  rw[List.length_cons]
  show((ZH r i K1).bind _)=_
  have hx:ZH r i K1=some (some (V.tup [vh,va,V.int q])):=by simp[ZH,hr',v1]
  rw[hx]
  simp only[Ys0,Zu,b1]
  exact c1
theorem ZmM{vrows:V}{rs:List T}{m:Mo}(R:Rn K o w b m0 vp vw kk tp tw ks s)(hwd:PyData.strOk wd=true)(r:RFo K vrows (.lst (.tup [th,.tup (.str wd::tas),tq]::rs)) (Off o w m0))(e:ZdF s.m.2.2 s.m.1 (Zan ks s.n wd).2 (.tup [th,.tup (.str wd::tas),tq]::rs) none=some (some m)): ∃K',ZeP [.obj Runner_c o,vrows] K=some (.none,K')/\ZeK K K' o w m0 vp vw kk tp tw ks ⟨(Zan ks s.n wd).1,s.wt,m⟩:=by
 obtain⟨rr,vs,rfl,hr,hro,rs'⟩:=r.lst
 obtain⟨v0,h0,r0⟩:=Zcg rs' (j:=0) rfl
 obtain⟨vs3,rfl,d1⟩:=r0.tup
 obtain⟨vh,_,rfl,_,d1⟩:=ZV d1
 obtain⟨va,_,rfl,d2,d1⟩:=ZV d1
 obtain⟨vq,_,rfl,d3,d1⟩:=ZV d1
 have:=Zby d1;subst this
 obtain⟨vas,rfl,d4⟩:=d2.tup
 obtain⟨vw0,vas,rfl,d5,_⟩:=ZV d4
 have:=d5.str;subst this
 obtain⟨K1,p1,p2,p3,p4⟩:=Znp (as:=vas) R hwd
 have lo:=lt_of_at R.ho
 have kp:∀a,Off o w m0 a->a<K.length->K1[a]?=K[a]?:=λa p l=>p4 a p.1
 have hl:vs.length=rs.length+1:=by obtain⟨F,q,_⟩:=rs';have:=q.length;simpa using this
 have hr1:K1[rr]?=some vs:=(p4 rr hro.1).trans hr
 have hb1:K1[b]?=some (s.m.2.2.map V.int):=(p4 b R.bo.1).trans R.hb
 have lp:=ZiE (K:=K1) (o:=o) (w:=w) (b:=b) (vp:=vp) (vw:=vw) (kk:=kk) (s:=s) (P:=Off o w m0) (λa p=>p.1) R.o0 (n:=(Zan ks s.n wd).1) (pick:=(Zan ks s.n wd).2) .l hr1 hro.1 hb1 R.bo.1 (.tup [th,.tup (.str wd::tas),tq]::rs) 0 none (some m) K1 (Zi (Zi (λi=>[V.obj Runner_c o,V.ref rr][i]?) 2 (.int (Zan ks s.n wd).2)) 3 (ZT s.m b)) (λj t e=>by
  rw[Nat.zero_add]
  obtain⟨v,z1,z2⟩:=Zcg rs' e
  exact⟨v,z1,z2.keep kp⟩) (by simp[hl]) (by simp[Zi]) (by simp[Zi]) (by simp[Zi]) ⟨Zz10 _,λ_ _ _=>rfl,p3⟩ e
 obtain⟨U,K',c1,c2,c3,b',c4,c5,c6⟩:=lp
 have lw:w<K.length:=by obtain⟨ws,w1,_⟩:=R.hw;exact lt_of_at w1
 have kq:∀a,a<K.length->a≠o->K'[a]?=K[a]?:=λa l h=>(c3 a .l h).trans (p4 a h)
 refine⟨K',?_,R.mk' (b':=b') (λa l h _=>kq a l h) c5 ?_ c6 .l .l⟩
 ·unfold ZeP Zgo Zr
  simp only[List.length_cons,List.length_nil,if_true]
  have ix:Zf (.ref rr) (.int 0) K=some (V.tup [vh,V.tup (V.str wd::vas),vq],K):=by
   have:seqIndex? 0 vs.length=some 0:=by rw[hl];unfold seqIndex?;simp
   simp[Zf,hr,this,h0]
  rw[Z7 (B:=Zi (λi=>[V.obj Runner_c o,V.ref rr][i]?) 2 (.int (Zan ks s.n wd).2)) (H1:=K1) (by
   simp[Zk,ZW,Za,ZaI,Zb,Ze,Zc,Zd,ix,i31,p1])]
  rw[Z7 (B:=Zi (Zi (λi=>[V.obj Runner_c o,V.ref rr][i]?) 2 (.int (Zan ks s.n wd).2)) 3 (ZT s.m b)) (H1:=K1) (by
   simp[Zk,ZB,Z3,Za,Zi,p3])]
  have hx:Zaq (ZU (Za 1)) (Zu 4) Zew (Zi (Zi (λi=>[V.obj Runner_c o,V.ref rr][i]?) 2 (.int (Zan ks s.n wd).2)) 3 (ZT s.m b)) K1=some (none,U,K'):=by
   have el:vs.length+1=(T.tup [th,.tup (.str wd::tas),tq]::rs).length+1:=by simp[hl]
   have ev:ZU (Za 1) (Zi (Zi (λi=>[V.obj Runner_c o,V.ref rr][i]?) 2 (.int (Zan ks s.n wd).2)) 3 (ZT s.m b)) K1=some (ZH rr,vs.length+1,K1):=by
    simp[ZU,Za,Zi,hr1]
   unfold Zaq
   rw[ev,el]
   exact c1
  unfold Zew at hx
  rw[hx]
  rfl
 ·obtain⟨ws,w1,w2⟩:=R.hw
  exact⟨ws,(kq w lw (Ne.symm R.ow)).trans w1,w2.keep λa p l=>kq a l p.1⟩
theorem Znq{row:T}{X:Str->Option RS}(e:((un3 row).bind λr=>(ZaX r.2.1).bind λas=>(as[0]?.bind unS).bind λwd=>if PyData.strOk wd=true then X wd else none)=some s'): ∃(th:T) (wd:Str) (tas:List T) (tq:T),row=.tup [th,.tup (.str wd::tas),tq]/\PyData.strOk wd=true/\X wd=some s':=by
 obtain⟨r3,f1,e⟩:=Zz0.mp e
 obtain⟨as,f2,e⟩:=Zz0.mp e
 obtain⟨wd,f3,ez⟩:=Zz0.mp e
 obtain⟨t0,f3,f4⟩:=Zz0.mp f3
 split at ez
 case isFalse=>first|exact Yx0 ez|cases ez
 rename_i hwd
 cases as with
 | nil=>first|exact Yx0 f3|cases f3
 | cons x xs=>
  cases f3
  exact⟨r3.1,wd,xs,r3.2.2,by rw[Zed f1,Zd9 f2,Zjj f4],hwd,ez⟩
theorem ZmN(R:Rn K o w b m0 vp vw kk tp tw ks s)(e:ZbS tp tw ks s=some s'): ∃K',Zd2 [.obj Runner_c o] K=some (.none,K')/\ZeK K K' o w m0 vp vw kk tp tw ks s':=by
 obtain⟨rows,e1,e⟩:=Zz0.mp e
 obtain⟨v,h1,h2⟩:=Zjk R e1
 have l1:=ZfC h2
 unfold Zd2 ZgE Zr
 simp only[List.length_singleton,if_true]
 rw[Z7 (B:=Zi (λi=>[V.obj Runner_c o][i]?) 1 v) (H1:=K) (by simp[Zk,ZW,Za,ZaI,Ze,h1])]
 cases rows with
 | nil=>
  obtain⟨K',g1,g2⟩:=ZmK R e
  refine⟨K',?_,g2⟩
  simp only[List.length_nil]at l1
  simp[Zs,Zl,Zc,Zg,Zb,Ze,Za,Zi,l1,Zd,Zab,ZJ,ZW,ZaI,g1]
 | cons row rs=>
  obtain⟨th,wd,tas,tq,rfl,hwd,ez⟩:=Znq e
  clear e
  have e:=ez
  clear ez
  have l3:(((T.tup [th,T.tup (T.str wd::tas),tq]::rs).length:Int) == 0)=false:=by simp;lia
  have h3:=h2
  obtain⟨rr,vs,rfl,hr,hro,rs'⟩:=h2.lst
  obtain⟨v0,h0,r0⟩:=Zcg rs' (j:=0) rfl
  have r1:=r0
  obtain⟨vh,va,vq,rfl,_,d2,_⟩:=r0.t3
  obtain⟨vas,rfl,d4⟩:=d2.tup
  obtain⟨vw0,vas,rfl,d5,_⟩:=ZV d4
  have:=d5.str;subst this
  have hl:vs.length=rs.length+1:=by obtain⟨F,q,_⟩:=rs';have:=q.length;simpa using this
  have ix:Zf (.ref rr) (.int 0) K=some (V.tup [vh,V.tup (V.str wd::vas),vq],K):=by
   have:seqIndex? 0 vs.length=some 0:=by rw[hl];unfold seqIndex?;simp
   simp[Zf,hr,this,h0]
  have hn:=ZhZ hwd (show PyData.strOk (Str.ofString "call")=true by decide +kernel) K
  have t1:Zl (Zc Zx (Zg ZO (Zb (Za 1) Ze)) (Zd 0)) (Zi (λi=>[V.obj Runner_c o][i]?) 1 (.ref rr)) K=some (false,K):=by
   simp only[Zl,Zc,Zg,Zb,Za,Zi,if_true,Ys1,Ys0,Ze,l1,Zd,Zgf,l3,Zab]
  have t2:Zl (Zc Zx (Zc Zf (Zc Zf (Zc Zf (Za 1) (Zd 0)) (Zd 1)) (Zd 0)) (ZG (Str.ofString "call"))) (Zi (λi=>[V.obj Runner_c o][i]?) 1 (.ref rr)) K=some (decide (wd=Str.ofString "call"),K):=by
   simp only[Zl,Zc,Za,Zi,if_true,Ys1,Ys0,Zd,ix,i31,ia0,ZG,hn,Zab]
  split at e
  ·rename_i hc
   obtain⟨K',g1,g2⟩:=ZmL R r1 e
   refine⟨K',?_,g2⟩
   rw[decide_eq_true hc]at t2
   simp only[Zs,t1,t2,Ys0,Bool.false_eq_true,if_false,if_true]
   simp[ZJ,ZW,Za,Zi,ZaI,Zb,Ze,Zc,Zd,ix,g1]
  ·rename_i hc
   obtain⟨m,e2,rfl⟩:=Zz1.mp e
   obtain⟨om,e3,e4⟩:=Zz0.mp e2
   cases e4
   obtain⟨K',g1,g2⟩:=ZmM R hwd h3 e3
   refine⟨K',?_,g2⟩
   rw[decide_eq_false hc]at t2
   simp only[Zs,t1,t2,Ys0,Bool.false_eq_true,if_false,if_true]
   simp[ZJ,ZW,Za,Zi,ZaI,Zb,Ze,g1]
end
end L
open PySem PM TM
namespace L
theorem Zch{x:List V}(e:K[a]?=some x): a<K.length:=(Zz6.mp e).1
structure Ly(K:Hp)(o R L0:Nat)(rows:List T)(u:Int): Prop where
 ho:K[o]?=some [.ref R,.int u]
 hr:∃vs F,K[R]?=some vs/\RFs K vs rows F/\F.Nodup/\∀a∈F,L0<=a/\a≠o/\a≠R
 lo:L0<=o
 lR:L0<=R
 oR:o≠R
 l0:0<L0
def Kl(K K':Hp)(o R:Nat): Prop:=(∀a,a<K.length->a≠o->a≠R->K'[a]?=K[a]?)/\K.length<=K'.length
section
variable {K K' K'':Hp} {o R L0:Nat} {rows:List T} {u:Int}
theorem Kl.trans(a:Kl K K' o R)(b:Kl K' K'' o R): Kl K K'' o R:=⟨λi l h1 h2=>(b.1 i (Nat.lt_of_lt_of_le l a.2) h1 h2).trans (a.1 i l h1 h2),Nat.le_trans a.2 b.2⟩
theorem Ly.ext(G:Ly K o R L0 rows u)(X:Hp): Ly (K++X) o R L0 rows u:=by
 obtain⟨vs,F,h1,h2,h3⟩:=G.hr
 exact⟨(Yy0 (Zch G.ho)).trans G.ho,⟨vs,F,(Yy0 (Zch h1)).trans h1,h2.ext X,h3⟩,G.lo,G.lR,G.oR,G.l0⟩
theorem RFo.kl(r:RFo K v t (· < L0))(k:Kl K K' o R)(lo:L0<=o)(lR:L0<=R): RFo K' v t (· < L0):=r.keep λa p l=>k.1 a l .l .l
theorem Zjl(G:Ly K o R L0 rows u)(ra:RF (K++X) va act Fa)(fa:Fa.Nodup/\∀a∈Fa,K.length<=a)(hl:rows.length<10000): ∃K',Zc2 [.obj Layer_c o,.int h,va,.int b] (K++X)=some (.none,K')/\Ly K' o R L0 (rows++[rowT h act b]) u/\Kl K K' o R:=by
 obtain⟨vs,F,h1,h2,h4,h3⟩:=(G.ext X).hr
 obtain⟨vs',F',h1',h2',h4',h3'⟩:=G.hr
 have lR':=Zch h1'
 have lo':=Zch G.ho
 have lR:=Zch h1
 rw[Yy0 lR',h1']at h1
 cases h1
 have h1:(K++X)[R]?=some vs:=(Yy0 lR').trans h1'
 have ho:=(G.ext X).ho
 generalize hK:(K++X).set R (vs++[.tup [.int h,va,.int b]])=K2
 have k2:∀a,a≠R->K2[a]?=(K++X)[a]?:=λa h=>by rw[<-hK,Yy2 (Ne.symm h)]
 have fb:∀a∈Fa,L0<=a/\a≠o/\a≠R:=λa m=>by have:=fa.2 a m;have:=G.lo;exact⟨.l,.l,.l⟩
 have q1:RF K2 (.tup [.int h,va,.int b]) (rowT h act b) Fa:=by
  have:=RFs.cons (RF.int (H:=K2) h) (RFs.cons (ra.frame λa m=>k2 a (fb a m).2.2) (RFs.one (RF.int (H:=K2) b)))
  exact .tup (by simpa using this)
 refine⟨K2,?_,⟨(k2 o G.oR).trans ho,⟨_,F'++Fa,by rw[<-hK,Yy6 lR],((h2'.ext X).frame λa m=>k2 a (h3' a m).2.2).append (.one q1),List.nodup_append.mpr ⟨h4',fa.1,λa m b m' e=>by have:=h2'.lt a m;have:=fa.2 b m';lia⟩,λa m=>(Zz8.mp m).elim (h3' a) (fb a)⟩,G.lo,G.lR,G.oR,G.l0⟩,λa l _ h=>(k2 a h).trans (Yy0 l),by rw[<-hK];simp⟩
 have R0:R≠0:=by have:=G.lR;have:=G.l0;lia
 have lv:vs.length<100000:=by rw[h2'.length];lia
 unfold Zc2 ZgT Zr
 simp[ZJ,Zal,ZB,Z3,Za,ho,ZM,Zb,Ze,Za0,h1,R0,lv,ZC,hK]
theorem Zhr(G:Ly K o R L0 rows u)(ra:RF (K++X) va act Fa)(fa:Fa.Nodup/\∀a∈Fa,K.length<=a)(hl:rows.length<10000): ∃K',ZbG [.obj Layer_c o,.int h,va] (K++X)=some (.int (u+1),K')/\Ly K' o R L0 (rows++[rowT h act (u+1)]) (u+1)/\Kl K K' o R:=by
 obtain⟨vs,F,h1,h2,h4,h3⟩:=G.hr
 have lo:=Zch G.ho
 have o0:o≠0:=by have:=G.lo;have:=G.l0;lia
 generalize hK:K.set o [.ref R,.int (u+1)]=K1
 have l1:K1.length=K.length:=by rw[<-hK];simp
 have hX:(K++X).set o [.ref R,.int (u+1)]=K1++X:=by rw[<-hK,List.set_append_left _ _ lo]
 have k1:∀a,a≠o->K1[a]?=K[a]?:=λa h=>by rw[<-hK,Yy2 (Ne.symm h)]
 have G1:Ly K1 o R L0 rows (u+1):=⟨by rw[<-hK,Yy6 lo],⟨vs,F,(k1 R (Ne.symm G.oR)).trans h1,h2.frame λa m=>k1 a (h3 a m).2.1,h4,h3⟩,G.lo,G.lR,G.oR,G.l0⟩
 obtain⟨K',q1,G',q2⟩:=Zjl (h:=h) (b:=u+1) (X:=X) G1 (ra.frame λa m=>by rw[<-hX,Yy2 (by have:=fa.2 a m;lia)]) (by rw[l1];exact fa) hl
 refine⟨K',?_,G',Kl.trans ⟨λa _ h _=>k1 a h,by rw[<-hK];simp⟩ q2⟩
 have hoX:=(G.ext X).ho
 have hoX1:=(G1.ext X).ho
 have fst:Zak Layer_c 1 (Zc Zw (ZB (Z3 Layer_c 1) (Za 0)) (Zd 1)) (Za 0) (λi=>[V.obj Layer_c o,.int h,va][i]?) (K++X)=some (none,(λi=>[V.obj Layer_c o,.int h,va][i]?),K1++X):=by
  simp[Zak,Zc,ZB,Z3,Za,hoX,Zd,Zay,o0,hX]
 unfold ZbG Zgu Zr
 rw[if_pos .r,Z7 fst]
 simp[Zh,ZJ,ZW,Za,ZaI,Zb,ZB,Z3,hoX1,Ze,q1,Zn,G'.ho]
theorem ZkW: RF K (.tup [.str (Str.ofString "go")]) goT []:=.tup (by simpa using RFs.one (RF.str (H:=K) (Str.ofString "go")))
theorem Zj9(G:Ly K o R L0 rows u)(hl:rows.length<10000): ∃K',Zc2 [.obj Layer_c o,.int h,.tup [.str (Str.ofString "go")],.int b] K=some (.none,K')/\Ly K' o R L0 (rows++[rowT h goT b]) u/\Kl K K' o R:=by
 have:=Zjl (X:=[]) (h:=h) (b:=b) G ZkW ⟨.nil,λ_ m=>nomatch m⟩ hl
 rwa [List.append_nil]at this
theorem Zka(G:Ly K o R L0 rows u)(hl:rows.length<10000): ∃K',ZbG [.obj Layer_c o,.int h,.tup [.str (Str.ofString "go")]] K=some (.int (u+1),K')/\Ly K' o R L0 (rows++[rowT h goT (u+1)]) (u+1)/\Kl K K' o R:=by
 have:=Zhr (X:=[]) (h:=h) G ZkW ⟨.nil,λ_ m=>nomatch m⟩ hl
 rwa [List.append_nil]at this
def LaS(C:List V->Hp->Option (V×Hp))(o R L0:Nat)(t:T)(r:List T)(u e:Int): Prop:=∀(K:Hp) (rows:List T) (v:V),rows.length+r.length<=9000->Ly K o R L0 rows u->RFo K v t (· < L0)->∃K',C [.obj Layer_c o,v,.int u] K=some (.int e,K')/\Ly K' o R L0 (rows++r) e/\Kl K K' o R
theorem Zfm{b:Bool}(G:Ly K o R L0 rows u)(hc:Nice 2 c)(rc:RFo K vc c (· < L0))(hl:rows.length<10000): ∃va X K',Zcs [vc,.bool b] K=some (va,K++X)/\ZbG [.obj Layer_c o,.int h,va] (K++X)=some (.int (u+1),K')/\Ly K' o R L0 (rows++[rowT h (Zah c b) (u+1)]) (u+1)/\Kl K K' o R:=by
 obtain⟨Fc,rc,_⟩:=rc
 have lo:=Zch G.ho
 obtain⟨va,X,Fa,g1,g2,g3,g4⟩:=Zmc K [vc,.bool b] [c,.bool b] _ _ .l (.cons rc (.one (.bool b))) (Zow hc)
 obtain⟨K',q⟩:=Zhr (h:=h) G g2 (g4 rfl) hl
 exact⟨va,X,K',g1,q⟩
theorem ZoA{a b rb:List T}{eb:Int}(hc:Nice 2 c)(ha:LaS C o R L0 (.lst a) ra (u+1) ea)(hb:LaS C o R L0 (.lst b) rb (ea+1) eb): LaS (ZeZ C) o R L0 (ifT c a b) (rowT u (Zah c true) (u+1)::(ra++rowT u (Zah c false) (ea+1)::(rb++[rowT ea goT (eb+1),rowT eb goT (eb+1)]))) u (eb+1):=by
 intro K rows v hl G r
 simp only[List.length_cons,List.length_append,List.length_nil]at hl
 obtain⟨vs0,rfl,rs0⟩:=r.tup
 obtain⟨vw,vs1,rfl,d0,rs1⟩:=ZV rs0
 obtain⟨vc,vs2,rfl,dc,rs2⟩:=ZV rs1
 obtain⟨va,vs3,rfl,da,rs3⟩:=ZV rs2
 obtain⟨vb,vs4,rfl,db,rs4⟩:=ZV rs3
 have:=Zby rs4;subst this
 obtain⟨w1,X1,K1,p1,p2,G1,k1⟩:=Zfm (h:=u) (b:=true) G hc dc .l
 obtain⟨K2,p3,G2,k2⟩:=ha K1 _ va (by simp;lia) G1 (da.kl k1 G.lo G.lR)
 obtain⟨w3,X3,K3,p4,p5,G3,k3⟩:=Zfm (h:=u) (b:=false) G2 hc (dc.kl (k1.trans k2) G.lo G.lR) (by simp;lia)
 obtain⟨K4,p6,G4,k4⟩:=hb K3 _ vb (by simp;lia) G3 (db.kl ((k1.trans k2).trans k3) G.lo G.lR)
 obtain⟨K5,p7,G5,k5⟩:=Zka (h:=ea) G4 (by simp;lia)
 obtain⟨K6,p8,G6,k6⟩:=Zj9 (h:=eb) (b:=eb+1) G5 (by simp;lia)
 refine⟨K6,?_,by simpa using G6,((((k1.trans k2).trans k3).trans k4).trans k5).trans k6⟩
 unfold ZeZ ZgF Zr
 have i1:∀H,Zf (.tup [vw,vc,va,vb]) (.int 1) H=some (vc,H):=λ_=>rfl
 have i2:∀H,Zf (.tup [vw,vc,va,vb]) (.int 2) H=some (va,H):=λ_=>rfl
 have i3:∀H,Zf (.tup [vw,vc,va,vb]) (.int 3) H=some (vb,H):=λ_=>rfl
 have ln:(1:Nat)<=ZK:=by rw[ZC];lia
 simp[Zh,Zk,ZJ,Zn,ZW,Za,Zi,ZaI,Zb,Ze,Zg,Zc,Zd,ZaG,ZG,ZM,i1,i2,i3,p1,p2,p3,p4,p5,p6,p7,p8,ln]
theorem ZoB{a:List T}(hc:Nice 2 c)(ha:LaS C o R L0 (.lst a) ra (u+2) ea): LaS (ZeQ C) o R L0 (whT c a) (rowT u goT (u+1)::rowT (u+1) (Zah c true) (u+2)::(ra++[rowT ea goT (u+1),rowT (u+1) (Zah c false) (ea+1)])) u (ea+1):=by
 intro K rows v hl G r
 simp only[List.length_cons,List.length_append,List.length_nil]at hl
 obtain⟨vs0,rfl,rs0⟩:=r.tup
 obtain⟨vw,vs1,rfl,d0,rs1⟩:=ZV rs0
 obtain⟨vc,vs2,rfl,dc,rs2⟩:=ZV rs1
 obtain⟨va,vs3,rfl,da,rs3⟩:=ZV rs2
 have:=Zby rs3;subst this
 obtain⟨K1,p1,G1,k1⟩:=Zka (h:=u) G .l
 obtain⟨w2,X2,K2,p2,p3,G2,k2⟩:=Zfm (h:=u+1) (b:=true) G1 hc (dc.kl k1 G.lo G.lR) (by simp;lia)
 rw[show u+1+1=u+2 by lia]at p3 G2
 obtain⟨K3,p4,G3,k3⟩:=ha K2 _ va (by simp;lia) G2 (da.kl (k1.trans k2) G.lo G.lR)
 obtain⟨K4,p5,G4,k4⟩:=Zj9 (h:=ea) (b:=u+1) G3 (by simp;lia)
 obtain⟨w5,X5,K5,p6,p7,G5,k5⟩:=Zfm (h:=u+1) (b:=false) G4 hc (dc.kl (((k1.trans k2).trans k3).trans k4) G.lo G.lR) (by simp;lia)
 refine⟨K5,?_,by simpa using G5,(((k1.trans k2).trans k3).trans k4).trans k5⟩
 unfold ZeQ Zgp Zr
 have i1:∀H,Zf (.tup [vw,vc,va]) (.int 1) H=some (vc,H):=λ_=>rfl
 have i2:∀H,Zf (.tup [vw,vc,va]) (.int 2) H=some (va,H):=λ_=>rfl
 have ln:(1:Nat)<=ZK:=by rw[ZC];lia
 simp[Zh,Zk,ZJ,Zn,ZW,Za,Zi,ZaI,Zb,Ze,Zg,Zc,Zd,ZaG,ZG,ZM,i1,i2,p1,p2,p3,p4,p5,p6,p7,ln]
theorem Zef{as:List V}(h:O 1=some (.tup (.str wd::as)))(h1:PyData.strOk wd=true)(h2:PyData.strOk w=true): Zl (Zc Zx (Zc Zf (Za 1) (Zd 0)) (ZG w)) O K=some (decide (wd=w),K):=by
 have i0:Zf (.tup (.str wd::as)) (.int 0) K=some (.str wd,K):=by
  have:seqIndex? 0 (as.length+1)=some 0:=by unfold seqIndex?;simp
  simp[Zf,this]
 simp[Zl,Zc,Za,h,Zd,i0,ZG,ZhZ h1 h2,Zab]
theorem Znr(hC:∀m,m<n->∀ts u r e,LyB (LyS m) ts u r e->LaS C o R L0 (.lst ts) r u e)(h:LyS n t u r e): LaS (ZbV C) o R L0 t r u e:=by
 have plain:ZdT t->r=[rowT u t (u+1)]->e=u+1->LaS (ZbV C) o R L0 t r u e:=by
  rintro⟨hN,w,rest,rfl,q1,q2⟩ rfl rfl K rows v hl G r
  have rr:=r
  obtain⟨Fr,r0,_⟩:=r
  have lo:=Zch G.ho
  obtain⟨va,X,Fa,g1,g2,g3,g4⟩:=Zj7 K [v] [_] _ _ .l (.one r0) (Zd7 (hN.mono .d))
  obtain⟨K',p1,G',k'⟩:=Zhr (h:=u) G g2 (g4 rfl) (by simp at hl;lia)
  refine⟨K',?_,G',k'⟩
  obtain⟨vs0,rfl,rs0⟩:=rr.tup
  obtain⟨vw,vs1,rfl,d0,rs1⟩:=ZV rs0
  have:=d0.str;subst this
  simp only[Bool.and_eq_true,decide_eq_true_eq]at q1 q2
  have t1:=Zef (K:=K) (O:=λi=>[V.obj Layer_c o,.tup (.str w::vs1),.int u][i]?) (w:=Str.ofString "if") rfl q1.1.1 .D
  have t2:=Zef (K:=K) (O:=λi=>[V.obj Layer_c o,.tup (.str w::vs1),.int u][i]?) (w:=Str.ofString "while") rfl q1.1.1 .D
  rw[decide_eq_false (show w≠Str.ofString "if" from q1.2)]at t1
  rw[decide_eq_false (show w≠Str.ofString "while" from q2.2)]at t2
  unfold ZbV ZdU Zr
  simp only[List.length_cons,List.length_nil,if_true,Zh,Zs,t1,t2,Ys0,Bool.false_eq_true,if_false,ZF]
  simp[Zn,ZW,Za,ZaI,Zb,Ze,Zg,g1,p1]
 match n,h with
 | 0,h=>exact plain h.1 h.2.1 h.2.2
 | n+1,h=>
  rcases h with⟨h1,h2,h3⟩ | ⟨c,a,b,ra,ea,rb,eb,rfl,hc,ha,hb,rfl,rfl⟩ | ⟨c,a,ra,ea,rfl,hc,ha,rfl,rfl⟩
  ·exact plain h1 h2 h3
  ·intro K rows v hl G r
   obtain⟨K',p1,G',k'⟩:=ZoA hc (hC n .l _ _ _ _ ha) (hC n .o _ _ _ _ hb) K rows v hl G r
   refine⟨K',?_,G',k'⟩
   obtain⟨vs0,rfl,rs0⟩:=r.tup
   obtain⟨vw,vs1,rfl,d0,rs1⟩:=ZV rs0
   have:=d0.str;subst this
   have t1:=Zef (K:=K) (O:=λi=>[V.obj Layer_c o,.tup (.str iF::vs1),.int u][i]?) (wd:=iF) (w:=Str.ofString "if") rfl .D .D
   rw[decide_eq_true (show iF=Str.ofString "if" from rfl)]at t1
   unfold ZbV ZdU Zr
   simp only[List.length_cons,List.length_nil,if_true,Zh,Zs,t1,Ys0]
   simp[Zn,ZW,Za,ZaI,Zb,Ze,p1]
  ·intro K rows v hl G r
   obtain⟨K',p1,G',k'⟩:=ZoB hc (hC n .l _ _ _ _ ha) K rows v hl G r
   refine⟨K',?_,G',k'⟩
   obtain⟨vs0,rfl,rs0⟩:=r.tup
   obtain⟨vw,vs1,rfl,d0,rs1⟩:=ZV rs0
   have:=d0.str;subst this
   have t1:=Zef (K:=K) (O:=λi=>[V.obj Layer_c o,.tup (.str wH::vs1),.int u][i]?) (wd:=wH) (w:=Str.ofString "if") rfl .D .D
   rw[decide_eq_false .D]at t1
   have t2:=Zef (K:=K) (O:=λi=>[V.obj Layer_c o,.tup (.str wH::vs1),.int u][i]?) (wd:=wH) (w:=Str.ofString "while") rfl .D .D
   rw[decide_eq_true (show wH=Str.ofString "while" from rfl)]at t2
   unfold ZbV ZdU Zr
   simp only[List.length_cons,List.length_nil,if_true,Zh,Zs,t1,t2,Ys0,Bool.false_eq_true,if_false,ZF]
   simp[Zn,ZW,Za,ZaI,Zb,Ze,p1]
theorem ZiF{C:List V->Hp->Option (V×Hp)}{n pb:Nat}{vs:List V}(hS:∀t u r e,LyS n t u r e->LaS (ZbV C) o R L0 t r u e)(hpb:pb<L0){e:Int}: ∀(ts:List T) (i:Nat) (u:Int) (r rows:List T) (K:Hp) (O:Lc),LyB (LyS n) ts u r e->rows.length+r.length<=9000->vs.length=i+ts.length->K[pb]?=some vs->(∀(j:Nat) t,ts[j]?=some t->∃v,vs[i+j]?=some v/\RFo K v t (· < L0))->Ly K o R L0 rows u->O 0=some (.obj Layer_c o)->O 3=some (.int u)->∃K' U,ZaR (ZH pb) (Zu 4) (Zk 3 (ZW (Layer_c) (ZbV C) (Za 0) (Zb (Za 4) (Zb (Za 3) Ze)))) (ts.length+1) i O K=some (none,U,K')/\U 3=some (.int e)/\Ly K' o R L0 (rows++r) e/\Kl K K' o R
 | [],i,u,r,rows,K,O,h,hl,hv,hp,hx,G,r0,r3=>by
  cases h
  have hn:vs[i]?=none:=Yy8 (by simp at hv;lia)
  exact⟨K,O,by simp[ZaR,ZH,hp,hn],r3,by simpa using G,λ_ _ _ _=>rfl,Nat.le_refl _⟩
 | t::ts,i,u,r,rows,K,O,h,hl,hv,hp,hx,G,r0,r3=>by
  cases h with
  | @cons _ _ _ e1 _ ra rb hs hb=>
   simp only[List.length_append]at hl
   obtain⟨v,v1,v2⟩:=hx 0 t rfl
   rw[Nat.add_zero]at v1
   obtain⟨K1,p1,G1,k1⟩:=hS _ _ _ _ hs K rows v .l G v2
   have hpl:=Zch hp
   have hp1:K1[pb]?=some vs:=(k1.1 pb hpl (by have:=G.lo;lia) (by have:=G.lR;omega)).trans hp
   obtain⟨K',U,q1,q2,q3,q4⟩:=ZiF hS hpb ts (i+1) e1 rb (rows++ra) K1 (Zi (Zi O 4 v) 3 (.int e1)) hb (by simp;lia) (by rw[hv];simp;lia) hp1 (λj t' e'=>by
    obtain⟨w,w1,w2⟩:=hx (j+1) t' (by simpa using e')
    exact⟨w,by rw[show i+1+j=i+(j+1)by lia];exact w1,w2.kl k1 G.lo G.lR⟩) G1 (by simp[Zi,r0]) (by simp[Zi])
   refine⟨K',U,?_,q2,by simpa using q3,k1.trans q4⟩
   rw[List.length_cons]
   show((ZH pb i K).bind _)=_
   have hx:ZH pb i K=some (some v):=by simp[ZH,hp,v1]
   rw[hx]
   have bb:Zk 3 (ZW (Layer_c) (ZbV C) (Za 0) (Zb (Za 4) (Zb (Za 3) Ze))) (Zi O 4 v) K=some (none,Zi (Zi O 4 v) 3 (.int e1),K1):=by
    simp[Zk,ZW,Za,Zi,r0,r3,ZaI,Zb,Ze,p1]
   simp only[Ys0,Zu,bb]
   exact q1
theorem ZiT: ∀(N n:Nat),n<N->∀ts u r e,LyB (LyS n) ts u r e->LaS (ZcE N) o R L0 (.lst ts) r u e
 | 0,n,h,ts,u,r,e,hb=>absurd h .l
 | N+1,n,h,ts,u,r,e,hb=>by
  intro K rows v hl G rv
  obtain⟨pb,vs,rfl,hp,pl,rs⟩:=rv.lst
  have hlv:vs.length=ts.length:=by obtain⟨F,r,_⟩:=rs;exact r.length
  obtain⟨K',U,q1,q2,q3,q4⟩:=ZiF (C:=ZcE N) (vs:=vs) (λt u r e hs=>Znr (λm hm ts u r e hb=>ZiT N m .l ts u r e hb) hs) pl ts 0 u r rows K (Zi (λi=>[V.obj Layer_c o,.ref pb,.int u][i]?) 3 (.int u)) hb hl .l hp (λj t e=>by rw[Nat.zero_add];exact Zcg rs e) G (by simp[Zi]) (by simp[Zi])
  refine⟨K',?_,q3,q4⟩
  show((ZeR (ZcE N) (λi=>[V.obj Layer_c o,.ref pb,.int u][i]?) K).map _)=_
  unfold ZeR
  rw[Z7 (B:=Zi (λi=>[V.obj Layer_c o,.ref pb,.int u][i]?) 3 (.int u)) (H1:=K) (by simp[Zk,Za])]
  have ev:ZU (Za 1) (Zi (λi=>[V.obj Layer_c o,.ref pb,.int u][i]?) 3 (.int u)) K=some (ZH pb,vs.length+1,K):=by simp[ZU,Za,Zi,hp]
  have s2:Zaq (ZU (Za 1)) (Zu 4) (Zk 3 (ZW (Layer_c) (ZbV (ZcE N)) (Za 0) (Zb (Za 4) (Zb (Za 3) Ze)))) (Zi (λi=>[V.obj Layer_c o,.ref pb,.int u][i]?) 3 (.int u)) K=some (none,U,K'):=by
   unfold Zaq
   rw[ev,hlv]
   exact q1
  rw[Z7 s2]
  simp[Zn,Za,q2]
end
open Classical in
noncomputable def Zdp: T->Option T
 | .lst ts=>if h:∃r,∃e,LyB (LyS 8) ts 0 r e/\r.length<=9000 then some (.lst (choose h))else none
 | _=>none
theorem ZiU{rs:T}(hp:0<K.length)(r:RF K v t F)(e:Zdp t=some rs): ∃v' X F',Zcc [v] K=some (v',K++X)/\RF (K++X) v' rs F'/\F'.Nodup/\∀a∈F',K.length<=a:=by
 unfold Zdp at e
 split at e
 case h_2=>first|exact Yx0 e|cases e
 rename_i ts
 split at e
 case isFalse=>first|exact Yx0 e|cases e
 rename_i hx
 cases e
 obtain⟨e,h1,h2⟩:=Classical.choose_spec hx
 generalize Classical.choose hx=rows at *
 generalize hK1:K++[[.ref (K.length+1),.int 0],[]]=K1
 have l1:K1.length=K.length+2:=by rw[<-hK1];simp
 have k1:∀a,a<K.length->K1[a]?=K[a]?:=λa l=>by rw[<-hK1,Yy0 l]
 have G:Ly K1 K.length (K.length+1) K.length [] 0:=by
  refine⟨?_,⟨[],[],?_,.nil,.nil,λ_ m=>nomatch m⟩,Nat.le_refl _,.l,.l,hp⟩
  ·rw[<-hK1,Yy5 .l,show K.length-K.length=0 by lia];rfl
  ·rw[<-hK1,Yy5 .o,show K.length+1-K.length=1 by lia];rfl
 have rv:RFo K1 v (.lst ts) (· < K.length):=⟨F,r.frame λa m=>k1 a (r.lt a m),r.lt⟩
 obtain⟨K',p1,G',k'⟩:=ZiT 9 8 .l ts 0 rows e h1 K1 [] v (by simpa using h2) G rv
 obtain⟨vs,F',q1,q2,q4,q3⟩:=G'.hr
 have keep:∀a,a<K.length->K'[a]?=K[a]?:=λa l=>(k'.1 a .l .l .l).trans (k1 a l)
 have lK:K.length<=K'.length:=by have:=k'.2;lia
 have eK:K'=K++K'.drop K.length:=by
  apply List.ext_getElem?
  intro i
  by_cases c:i<K.length
  ·rw[Yy0 c,keep i c]
  ·rw[Yy5 .l,List.getElem?_drop];congr 1;lia
 refine⟨.ref (K.length+1),K'.drop K.length,(K.length+1)::F',?_,?_,List.nodup_cons.mpr ⟨λm=>(q3 _ m).2.2 rfl,q4⟩,λa m=>?_⟩
 ·rw[<-eK]
  unfold Zcc Zhb Zr
  simp only[List.length_singleton,if_true]
  have n1:Zcp Layer_c ZeV Ze (λi=>[v][i]?) K=some (.obj Layer_c K.length,K1):=by
   unfold Zcp ZeV ZgA Zr
   have hc:Layer_c.2.length=2:=rfl
   have K0:K.length≠0:=by lia
   generalize hA:K++[[],[]]=A
   have a0:A[K.length]?=some []:=by rw[<-hA,Yy5 .l,show K.length-K.length=0 by lia];rfl
   have lA:K.length<A.length:=Zch a0
   have b0:(A.set K.length [.ref (K.length+1)])[K.length]?=some [.ref (K.length+1)]:=by rw[Yy6 lA]
   have e1:(A.set K.length [.ref (K.length+1)]).set K.length [.ref (K.length+1),.int 0]=K1:=by rw[<-hK1,<-hA];simp
   have n0:Zy Ze (λi=>[V.obj Layer_c K.length][i]?) (K++[[]])=some (.ref (K.length+1),A):=by
    simp[Zy,Ze,<-hA]
   have s0:Zak Layer_c 0 (Zy Ze) (Za 0) (λi=>[V.obj Layer_c K.length][i]?) (K++[[]])=some (none,(λi=>[V.obj Layer_c K.length][i]?),A.set K.length [.ref (K.length+1)]):=by
    simp only[Zak,n0,Ys0,Za,List.getElem?_cons_zero,Ys1,Zay,a0]
    simp[K0,hc]
   have s1:Zak Layer_c 1 (Zd 0) (Za 0) (λi=>[V.obj Layer_c K.length][i]?) (A.set K.length [.ref (K.length+1)])=some (none,(λi=>[V.obj Layer_c K.length][i]?),K1):=by
    simp only[Zak,Zd,Ys0,Za,List.getElem?_cons_zero,Ys1,Zay,b0]
    simp only[List.cons_append,List.nil_append,List.length_singleton,e1]
    simp[K0,hc]
   simp only[Ze,Ys0,List.length_singleton,if_true]
   rw[Z7 s0,s1]
   rfl
  rw[Z7 (B:=Zi (λi=>[v][i]?) 1 (.obj Layer_c K.length)) (H1:=K1) (by simp[Zk,n1])]
  have p1':Zgr [.obj Layer_c K.length,v,.int 0] K1=some (.int e,K'):=p1
  simp[Zh,ZJ,ZW,Za,Zi,ZaI,Zb,Ze,Zd,p1',Zn,ZB,Z3,G'.ho]
 ·rw[<-eK]
  exact .ref q1 (by simpa using q2)
 ·rcases Zz7.mp m with rfl | m
  ·lia
  ·exact(q3 a m).1
theorem Zel{L:T->Int->List T->Int->Prop}(hL:∀t u r e r' e',L t u r e->L t u r' e'->r=r'/\e=e')(h:LyB L ts u r e): ∀{r':List T} {e':Int},LyB L ts u r' e'->r=r'/\e=e':=by
 induction h with
 | nil=>intro r' e' k;cases k;exact⟨rfl,rfl⟩
 | cons a _ ih=>
  intro r' e' k
  cases k with
  | cons a' k=>
   obtain⟨rfl,rfl⟩:=hL _ _ _ _ _ _ a a'
   obtain⟨rfl,rfl⟩:=ih k
   exact⟨rfl,rfl⟩
theorem ZkX{a b:List T}(h:ZdT (ifT c a b)): False:=by
 obtain⟨_,w,rest,e,q,_⟩:=h
 cases e
 exact absurd q .D
theorem ZkY{a:List T}(h:ZdT (whT c a)): False:=by
 obtain⟨_,w,rest,e,_,q⟩:=h
 cases e
 exact absurd q .D
theorem Zem: ∀(n:Nat) (t:T) (u:Int) (r:List T) (e:Int) (r':List T) (e':Int),LyS n t u r e->LyS n t u r' e'->r=r'/\e=e'
 | 0,t,u,r,e,r',e',h,k=>by
  obtain⟨_,rfl,rfl⟩:=h
  obtain⟨_,rfl,rfl⟩:=k
  exact⟨rfl,rfl⟩
 | n+1,t,u,r,e,r',e',h,k=>by
  rcases h with⟨hp,rfl,rfl⟩ | ⟨c,a,b,ra,ea,rb,eb,rfl,hc,ha,hb,rfl,rfl⟩ | ⟨c,a,ra,ea,rfl,hc,ha,rfl,rfl⟩
  ·rcases k with⟨_,rfl,rfl⟩ | ⟨c,a,b,ra,ea,rb,eb,rfl,_⟩ | ⟨c,a,ra,ea,rfl,_⟩
   ·exact⟨rfl,rfl⟩
   ·exact(ZkX hp).elim
   ·exact(ZkY hp).elim
  ·rcases k with⟨hp,_⟩ | ⟨c',a',b',ra',ea',rb',eb',et,_,ha',hb',rfl,rfl⟩ | ⟨c',a',ra',ea',et,_⟩
   ·exact(ZkX hp).elim
   ·first|exact Yx0 et|cases et
    obtain⟨rfl,rfl⟩:=Zel (Zem n) ha ha'
    obtain⟨rfl,rfl⟩:=Zel (Zem n) hb hb'
    exact⟨rfl,rfl⟩
   ·first|exact Yx0 et|cases et
  ·rcases k with⟨hp,_⟩ | ⟨c',a',b',ra',ea',rb',eb',et,_⟩ | ⟨c',a',ra',ea',et,_,ha',rfl,rfl⟩
   ·exact(ZkY hp).elim
   ·first|exact Yx0 et|cases et
   ·first|exact Yx0 et|cases et
    obtain⟨rfl,rfl⟩:=Zel (Zem n) ha ha'
    exact⟨rfl,rfl⟩
theorem ZfD{L:T->Int->List T->Int->Prop}(hL:∀t u r e,L t u r e->L' t u r e)(h:LyB L ts u r e): LyB L' ts u r e:=by
 induction h with
 | nil=>exact .nil
 | cons a _ ih=>exact .cons (hL _ _ _ _ a) ih
theorem ZcQ: ∀(n:Nat) (t:T) (u:Int) (r:List T) (e:Int),LyS n t u r e->LyS (n+1) t u r e
 | 0,t,u,r,e,h=>.inl h
 | n+1,t,u,r,e,h=>by
  rcases h with h | ⟨c,a,b,ra,ea,rb,eb,h1,hc,ha,hb,h2⟩ | ⟨c,a,ra,ea,h1,hc,ha,h2⟩
  ·exact .inl h
  ·exact .inr (.inl ⟨c,a,b,ra,ea,rb,eb,h1,hc,ZfD (ZcQ n) ha,ZfD (ZcQ n) hb,h2⟩)
  ·exact .inr (.inr ⟨c,a,ra,ea,h1,hc,ZfD (ZcQ n) ha,h2⟩)
theorem Zjm(h:LyB (LyS 3) ts 0 r e)(hl:r.length<=9000): Zdp (.lst ts)=some (.lst r):=by
 have h8:LyB (LyS 8) ts 0 r e:=ZfD (λt u r e h=>ZcQ 7 _ _ _ _ (ZcQ 6 _ _ _ _ (ZcQ 5 _ _ _ _ (ZcQ 4 _ _ _ _ (ZcQ 3 _ _ _ _ h))))) h
 have hx:∃r,∃e,LyB (LyS 8) ts 0 r e/\r.length<=9000:=⟨r,e,h8,hl⟩
 unfold Zdp
 simp only
 rw[dif_pos hx]
 obtain⟨e',k,_⟩:=Classical.choose_spec hx
 rw[(Zel (Zem 8) k h8).1]
end L
open PySem PM TM
namespace L
theorem Zp7(hb:0<=b)(hb9:b<=90000): Zbt 0 b 1 H=some (ZaK 0 1 b.toNat,b.toNat+1,H):=by
 unfold Zbt rngN
 rw[Zf4 hb,if_pos]
 refine⟨.d,?_,hb,by rw[ZC];lia,?_⟩
 ·unfold Builtin.Range.small
  rw[Zf4 hb]
  simp only[Builtin.Range.rangeFitsLong,Bool.and_eq_true,Bool.or_eq_true,decide_eq_true_eq,beq_iff_eq]
  rw[if_pos .d]
  simp only[Bool.and_eq_true,decide_eq_true_eq]
  by_cases h:(0:Int)<b
  ·refine⟨⟨⟨⟨?_,?_⟩,?_⟩,?_⟩,Or.inr ?_⟩ <;> lia
  ·refine⟨⟨⟨⟨?_,?_⟩,?_⟩,?_⟩,?_⟩ <;> first | lia | (left;omega)
 ·exact PyProof.noPylong_small .l
theorem Zkb{a b:Sm}(h:a O H=some (none,B,H1)): Zh a b O H=b B H1:=by simp[Zh,h]
def src(q:Int): T->Bool
 | .tup (.int a::_)=>a == q
 | _=>false
noncomputable def ZaD(q:Int): V->Bool
 | .tup (.int a::_)=>a == q
 | _=>false
noncomputable def Zic(n:Nat): T->Bool
 | .tup (.int a::_)=>decide (0<=a/\a<n)
 | _=>false
def byP(n:Nat)(rows:List T): T:=.lst ((List.range n).map λ(p:Nat)=>.lst (rows.filter (src p)))
def Zen: T->Option T
 | .lst rows=>match ZgP [.lst rows]with
  | some (.int e)=>if 0<=e/\e<=80000/\rows.length<=10000/\rows.all (Zic (e.toNat+1))=true then some (byP (e.toNat+1) rows)else none
  | _=>none
 | _=>none
theorem ZoC(r:RF K v t F): ZaD q v=src q t:=by
 cases r with
 | tup hs=>
  cases hs with
  | nil=>rfl
  | cons a b=>cases a <;> rfl
 | _=>rfl
theorem Zjn{K:Hp}{q:Int}: ∀{vs:List V} {ts:List T} {F:List Nat},RFs K vs ts F->∃G,RFs K (vs.filter (ZaD q)) (ts.filter (src q)) G/\∀a∈G,a∈F
 | _,_,_,.nil=>⟨[],.nil,λa m=>m⟩
 | _,_,_,.cons (v:=v) (t:=t) a r=>by
  obtain⟨G,h1,h2⟩:=Zjn (q:=q) r
  have e:=ZoC (q:=q) a
  by_cases c:src q t=true
  ·rw[List.filter_cons_of_pos (by rw[e];exact c),List.filter_cons_of_pos c]
   exact⟨_,.cons a h1,λx m=>(Zz8.mp m).elim (λm=>Yy7 _ m) (λm=>List.mem_append_right _ (h2 x m))⟩
  ·rw[List.filter_cons_of_neg (by rw[e];exact c),List.filter_cons_of_neg c]
   exact⟨G,h1,λx m=>List.mem_append_right _ (h2 x m)⟩
theorem Zkc{O:Lc}{n:Nat}: ∀(m i:Nat) (acc:List V) (H:Hp),i+m=n->acc.length+m<ZK->Zad (ZaK 0 1 n) (Zu 100) ZD (Zy Ze) O (m+1) i acc H=some (acc++(List.range m).map (λj=>V.ref (H.length+j)),H++List.replicate m [])
 | 0,i,acc,H,h,hl=>by
  have:¬i<n:=by lia
  simp[Zad,ZaK,this]
 | m+1,i,acc,H,h,hl=>by
  have c:i<n:=by lia
  have ih:=Zkc (O:=O) (n:=n) m (i+1) (acc++[V.ref H.length]) (H++[[]]) .l (by simp;lia)
  have hl':acc.length<ZK:=by lia
  show((ZaK 0 1 n i H).bind _)=_
  simp only[ZaK,if_pos c,Ys0,Zu,ZD,if_true,Zy,Ze,List.length_nil,Nat.zero_le,hl']
  rw[ih,List.range_succ_eq_map]
  simp[List.replicate_succ,Function.comp_def]
  intro a _
  lia
theorem Zkd{B R n:Nat}{K:Hp}{vrows:List V}{bs:List Nat}(hB:∀p,p<n->bs[p]?=some (K.length+p))(hbl:bs.length=n)(hR:R<K.length)(hK:K[R]?=some vrows)(hB':B=K.length+n)(hp:0<K.length)(hlen:vrows.length<=10000): ∀(ws us:List V) (i:Nat) (O:Lc),vrows=us++ws->us.length=i->O 1=some (.ref B)->(∀w∈ws,∃a rest,w=.tup (.int a::rest)/\0<=a/\a<n)->∃U,ZaR (ZH R) (Zu 2) (ZJ (Zal (Zc Zf (Za 1) (Zc Zf (Za 2) (Zd 0))) (Za 2))) (ws.length+1) i O (K++((List.range n).map λ(p:Nat)=>us.filter (ZaD p))++[bs.map V.ref])=some (none,U,K++((List.range n).map λ(p:Nat)=>vrows.filter (ZaD p))++[bs.map V.ref])/\U 1=some (.ref B)
 | [],us,i,O,hv,hu,r1,hw=>by
  subst hv
  have e1:(K++((List.range n).map λ(p:Nat)=>us.filter (ZaD p))++[bs.map V.ref])[R]?=some (us++[]):=by
   rw[List.append_assoc,Yy0 hR];exact hK
  refine⟨O,?_,r1⟩
  have:(us++([]:List V))[i]?=none:=Yy8 (by simp;lia)
  simp only[List.length_nil,ZaR,ZH,e1,Ys1,this,Ys0]
  simp
 | w::ws,us,i,O,hv,hu,r1,hw=>by
  obtain⟨a,rest,rfl,a0,an⟩:=hw w Zz5
  obtain⟨U,h1,h2⟩:=Zkd hB hbl hR hK hB' hp hlen ws (us++[V.tup (.int a::rest)]) (i+1) (Zi O 2 (V.tup (.int a::rest))) (by rw[hv];simp) (by simp[hu]) (by simp[Zi,r1]) (λw m=>hw w (Zz2 _ m))
  refine⟨U,?_,h2⟩
  generalize hH:K++((List.range n).map λ(p:Nat)=>us.filter (ZaD p))++[bs.map V.ref]=H
  have e1:H[R]?=some vrows:=by rw[<-hH,List.append_assoc,Yy0 hR];exact hK
  have ew:vrows[i]?=some (V.tup (.int a::rest)):=by
   rw[hv,Yy5 .l,hu];simp
  have eB:H[B]?=some (bs.map V.ref):=by
   rw[<-hH,Yy5 (by simp;lia)]
   simp[hB']
  have ep:H[K.length+a.toNat]?=some (us.filter (ZaD a)):=by
   rw[<-hH,Yy0 (by simp;lia),Yy5 .l]
   rw[show K.length+a.toNat-K.length=a.toNat by lia,List.getElem?_map,List.getElem?_range .o]
   simp only[Ys1]
   rw[show((a.toNat:Nat):Int)=a by lia]
  have ei:(bs.map V.ref)[a.toNat]?=some (.ref (K.length+a.toNat)):=by
   rw[List.getElem?_map,hB a.toNat .o];rfl
  have eset:H.set (K.length+a.toNat) (us.filter (ZaD a)++[V.tup (.int a::rest)])=K++((List.range n).map λ(p:Nat)=>(us++[V.tup (.int a::rest)]).filter (ZaD p))++[bs.map V.ref]:=by
   rw[<-hH,List.set_append_left _ _ (by simp;omega),List.set_append_right _ _ .o]
   congr 2
   apply List.ext_getElem
   ·simp
   ·intro j l1 l2
    simp at l1
    rw[List.getElem_set]
    by_cases c:K.length+a.toNat-K.length=j
    ·rw[if_pos c]
     have:j=a.toNat:=by lia
     subst this
     simp only[List.getElem_map,List.getElem_range]
     rw[List.filter_append,show((a.toNat:Nat):Int)=a by lia]
     simp[ZaD]
    ·rw[if_neg c]
     simp only[List.getElem_map,List.getElem_range,List.filter_append]
     have:¬a=(j:Int):=by lia
     simp[ZaD,this]
  have sx:ZJ (Zal (Zc Zf (Za 1) (Zc Zf (Za 2) (Zd 0))) (Za 2)) (Zi O 2 (V.tup (.int a::rest))) H=some (none,Zi O 2 (V.tup (.int a::rest)),K++((List.range n).map λ(p:Nat)=>(us++[V.tup (.int a::rest)]).filter (ZaD p))++[bs.map V.ref]):=by
   have i0:Zf (V.tup (.int a::rest)) (.int 0) H=some (.int a,H):=by
    have:seqIndex? 0 (rest.length+1)=some 0:=by unfold seqIndex?;simp
    simp[Zf,this]
   have i1:Zf (.ref B) (.int a) H=some (.ref (K.length+a.toNat),H):=by
    have:seqIndex? a (bs.map V.ref).length=some a.toNat:=by unfold seqIndex?;simp[hbl];lia
    simp only[Zf,eB,Ys0,this,ei,Ys1]
   have hl:(us.filter (ZaD a)).length<ZK:=by
    have:=List.length_filter_le (ZaD a) us
    have:us.length<=vrows.length:=by rw[hv];simp
    rw[ZC];lia
   have g1:Za 1 (Zi O 2 (V.tup (.int a::rest))) H=some (.ref B,H):=by simp[Za,Zi,r1]
   have g2:Za 2 (Zi O 2 (V.tup (.int a::rest))) H=some (V.tup (.int a::rest),H):=by simp[Za,Zi]
   simp only[ZJ,Zal,Zc,g1,g2,Ys0,Zd,i0,i1,Za0,ep]
   rw[if_pos ⟨.l,hl⟩]
   simp only[Ys1,eset]
  rw[List.length_cons]
  show((ZH R i H).bind _)=_
  have hx:ZH R i H=some (some (V.tup (.int a::rest))):=by simp[ZH,e1,ew]
  rw[hx]
  simp only[Ys0,Zu,sx]
  exact h1
theorem Zmf{u:T}(hp:0<K.length)(r:RF K v t F)(e:Zen t=some u): ∃v' X F',ZdX [v] K=some (v',K++X)/\RF (K++X) v' u F'/\∀a∈F',K.length<=a∨a∈F:=by
 unfold Zen at e
 split at e
 case h_2=>first|exact Yx0 e|cases e
 rename_i rows
 split at e
 case h_2=>first|exact Yx0 e|cases e
 rename_i le hle
 split at e
 case isFalse=>first|exact Yx0 e|cases e
 rename_i hc
 obtain⟨h0,h8,hl,hall⟩:=hc
 cases e
 have r':=r
 cases r with
 | @ref R vrows _ Fr hR rs=>
 obtain⟨w,X,G,g1,g2,_⟩:=ZlR K [.ref R] [.lst rows] _ _ hp (.one r') hle
 cases g2
 generalize hK1:K++X=K1 at *
 have lR:=(Zz6.mp hR).1
 have l1:K.length<=K1.length:=by rw[<-hK1];simp
 have hR1:K1[R]?=some vrows:=by rw[<-hK1,Yy0 lR];exact hR
 have rs1:RFs K1 vrows rows Fr:=by rw[<-hK1];exact rs.ext X
 have hlv:vrows.length=rows.length:=rs.length
 generalize hn:le.toNat+1=n at *
 have cm:=Zkc (O:=λi=>[V.ref R][i]?) (n:=n) n 0 [] K1 .l (by rw[ZC];simp;lia)
 simp only[List.nil_append]at cm
 generalize hbs:(List.range n).map (λj=>K1.length+j)=bs
 have ebs:(List.range n).map (λj=>V.ref (K1.length+j))=bs.map V.ref:=by rw[<-hbs];simp
 have hB:∀p,p<n->bs[p]?=some (K1.length+p):=λp hp=>by rw[<-hbs,List.getElem?_map,List.getElem?_range hp];rfl
 have hbl:bs.length=n:=by rw[<-hbs];simp
 have emp:List.replicate n ([]:List V)=(List.range n).map λ(p:Nat)=>([]:List V).filter (ZaD p):=by
  apply List.ext_getElem
  ·simp
  ·intro i _ _;simp
 obtain⟨U,lp,lr⟩:=Zkd (B:=K1.length+n) hB hbl .l hR1 rfl .l .l vrows [] 0 (Zi (λi=>[V.ref R][i]?) 1 (.ref (K1.length+n))) rfl rfl (by simp[Zi]) (λw m=>by
  obtain⟨i,hi,ew⟩:=List.getElem_of_mem m
  have ht:rows[i]?=some rows[i]:=Yy1 .o
  obtain⟨v,G,q1,q2,_⟩:=rs.at ht
  have hi':vrows[i]?=some w:=by rw[Yy1 hi];exact congrArg some ew
  rw[hi']at q1
  cases q1
  clear hi' ew
  have ok:=List.all_eq_true.mp hall rows[i] (List.getElem_mem _)
  generalize rows[i]=t at *
  unfold Zic at ok
  split at ok
  case h_2=>first|exact Yx0 ok|cases ok
  cases q2 with
  | tup hs=>
   cases hs with
   | cons a b=>
    cases a
    simp only[decide_eq_true_eq]at ok
    exact⟨_,_,rfl,ok.1,ok.2⟩)
 generalize hKf:K1++((List.range n).map λ(p:Nat)=>vrows.filter (ZaD p))++[bs.map V.ref]=Kf at *
 have rsf:RFs Kf vrows rows Fr:=rs1.frame λa m=>by rw[<-hKf,List.append_assoc,Yy0 (rs1.lt a m)]
 have key:∀m,m<=n->∃G,RFs Kf (((List.range m).map λ(p:Nat)=>V.ref (K1.length+p))) ((List.range m).map λ(p:Nat)=>T.lst (rows.filter (src p))) G/\∀a∈G,K.length<=a∨a∈Fr:=by
  intro m
  induction m with
  | zero=>intro _;exact⟨[],.nil,λa m=>(List.not_mem_nil m).elim⟩
  | succ m ih=>
   intro hm
   obtain⟨G,g1,g2⟩:=ih .l
   obtain⟨G',k1,k2⟩:=Zjn (q:=(m:Int)) rsf
   rw[List.range_succ,List.map_append,List.map_append]
   have em:Kf[K1.length+m]?=some (vrows.filter (ZaD m)):=by
    rw[<-hKf,Yy0 (by simp;lia),Yy5 .l,show K1.length+m-K1.length=m by lia,List.getElem?_map,List.getElem?_range .o]
    rfl
   refine⟨_,g1.append (.one (.ref em k1)),λa q=>?_⟩
   rcases Zz8.mp q with q | q
   ·exact g2 a q
   ·rcases Zz7.mp q with rfl | q
    ·exact .inl .l
    ·exact .inr (k2 a q)
 obtain⟨G,G1,G2⟩:=key n (Zz10 _)
 rw[ebs]at G1
 have eB:Kf[K1.length+n]?=some (bs.map V.ref):=by
  rw[<-hKf,Yy5 .s]
  simp
 refine⟨.ref (K1.length+n),X++(((List.range n).map λ(p:Nat)=>vrows.filter (ZaD p))++[bs.map V.ref]),(K1.length+n)::G,?_,?_,λa m=>?_⟩
 ·rw[<-List.append_assoc,hK1,<-List.append_assoc,hKf]
  unfold ZdX Zgw Zr
  simp only[List.length_singleton,if_true]
  have s1:Zk 1 (Z5 (ZaF (Zb (Zc Zw (Zg ZcI (Zb (Za 0) Ze)) (Zd 1)) Ze)) (Zu 100) ZD (Zy Ze)) (λi=>[V.ref R][i]?) K=some (none,Zi (λi=>[V.ref R][i]?) 1 (.ref (K1.length+n)),K1++((List.range n).map λ(p:Nat)=>([]:List V).filter (ZaD p))++[bs.map V.ref]):=by
   have rg:ZaF (Zb (Zc Zw (Zg ZcI (Zb (Za 0) Ze)) (Zd 1)) Ze) (λi=>[V.ref R][i]?) K=some (ZaK 0 1 n,n+1,K1):=by
    have:=Zp7 (b:=le+1) (H:=K1) .l .l
    rw[show(le+1).toNat=n by lia]at this
    simp only[ZaF,Zb,Ze,Zc,Zg,Za,List.getElem?_cons_zero,Ys1,Ys0,g1,Zd,Zqv]
    exact this
   rw[ebs]at cm
   simp only[Zk,Z5,rg,Ys0,cm,Ys1,emp]
   simp
  rw[Zkb s1]
  have ev:ZU (Za 0) (Zi (λi=>[V.ref R][i]?) 1 (.ref (K1.length+n))) (K1++((List.range n).map λ(p:Nat)=>([]:List V).filter (ZaD p))++[bs.map V.ref])=some (ZH R,vrows.length+1,K1++((List.range n).map λ(p:Nat)=>([]:List V).filter (ZaD p))++[bs.map V.ref]):=by
   have:(K1++((List.range n).map λ(p:Nat)=>([]:List V).filter (ZaD p))++[bs.map V.ref])[R]?=some vrows:=by
    rw[List.append_assoc,Yy0 .o];exact hR1
   simp only[ZU,Za,Zi,show(0=1)=False from by simp,if_false,List.getElem?_cons_zero,Ys1,Ys0,this]
  have s2:Zaq (ZU (Za 0)) (Zu 2) (ZJ (Zal (Zc Zf (Za 1) (Zc Zf (Za 2) (Zd 0))) (Za 2))) (Zi (λi=>[V.ref R][i]?) 1 (.ref (K1.length+n))) (K1++((List.range n).map λ(p:Nat)=>([]:List V).filter (ZaD p))++[bs.map V.ref])=some (none,U,Kf):=by
   simp only[Zaq,ev,Ys0]
   exact lp
  rw[Zkb s2]
  simp[Zn,Za,lr]
 ·rw[<-List.append_assoc,hK1,<-List.append_assoc,hKf]
  exact .ref eB G1
 ·rcases Zz7.mp m with rfl | m
  ·exact .inl .l
  ·rcases G2 a m with q | q
   ·exact .inl q
   ·exact .inr (Zz2 _ q)
noncomputable def Zh0: T->Option T
 | .tup (_::_::b::_)=>some b
 | _=>none
def ZeC: List T->Option (List T)
 | []=>some []
 | f::fs=>(Zh0 f).bind λb=>(Zdp b).bind λrs=>(Zen rs).bind λpl=>(ZeC fs).map (pl::·)
def prE: Ex:=Zg ZdX (Zb (Zg Zcc (Zb (Zc Zf (Za 100) (Zd 2)) Ze)) Ze)
theorem Zke{K:Hp}{O:Lc}{d:Nat}{vs:List V}(hd:K[d]?=some vs)(hp:0<K.length): ∀(fs:List T) (i:Nat) (acc:List V) (at_ pls:List T) (X:Hp) (G:List Nat),(∀(j:Nat) t,fs[j]?=some t->∃v F,vs[i+j]?=some v/\RF K v t F)->vs.length=i+fs.length->RFs (K++X) acc at_ G->(∀a∈G,K.length<=a)->ZeC fs=some pls->acc.length+fs.length<ZK->∃Y ws G',Zad (ZH d) (Zu 100) ZD prE O (fs.length+1) i acc (K++X)=some (ws,K++Y)/\RFs (K++Y) ws (at_++pls) G'/\∀a∈G',K.length<=a
 | [],i,acc,at_,pls,X,G,hr,hl,ha,hg,e,hc=>by
  cases e
  have hn:vs[i]?=none:=Yy8 (by simp at hl;lia)
  have hd':(K++X)[d]?=some vs:=by rw[Yy0 (Zz6.mp hd).1];exact hd
  exact⟨X,acc,G,by simp[Zad,ZH,hd',hn],by simpa using ha,hg⟩
 | f::fs,i,acc,at_,pls,X,G,hr,hl,ha,hg,e,hc=>by
  obtain⟨b,e1,e⟩:=Zz0.mp e
  obtain⟨rs,e2,e⟩:=Zz0.mp e
  obtain⟨pl,e3,e⟩:=Zz0.mp e
  obtain⟨pls',e4,rfl⟩:=Zz1.mp e
  obtain⟨v,F,v1,v2⟩:=hr 0 f rfl
  rw[Nat.add_zero]at v1
  have hd':(K++X)[d]?=some vs:=by rw[Yy0 (Zz6.mp hd).1];exact hd
  have hv:∃x y w us,v=.tup (x::y::w::us)/\∃Fb,RF K w b Fb:=by
   unfold Zh0 at e1
   split at e1
   case h_2=>first|exact Yx0 e1|cases e1
   cases e1
   cases v2 with
   | tup hs=>
    cases hs with
    | cons a hs=>
     cases hs with
     | cons a2 hs=>
      cases hs with
      | cons a3 hs=>exact⟨_,_,_,_,rfl,_,a3⟩
  obtain⟨x0,y0,w,us,rfl,Fb,rb⟩:=hv
  have hpx:0<(K++X).length:=by rw[List.length_append];lia
  obtain⟨u1,X1,F1,g1,g2,-,g5⟩:=ZiU hpx (rb.ext X) e2
  obtain⟨u2,X2,F2,k1,k2,k3⟩:=Zmf (K:=K++X++X1) (by rw[List.length_append];lia) g2 e3
  have lx:K.length<=(K++X).length:=by rw[List.length_append];lia
  have new2:∀a∈F2,K.length<=a:=λa m=>by
   rcases k3 a m with q | q
   ·rw[List.length_append]at q;lia
   ·have:=g5 a q;lia
  have ee:K++X++X1++X2=K++(X++(X1++X2)):=by simp
  rw[ee]at k1 k2
  have ha2:RFs (K++(X++(X1++X2))) (acc++[u2]) (at_++[pl]) (G++F2):=by
   have:=(ha.ext (X1++X2)).append (.one (by rw[List.append_assoc];exact k2))
   rw[List.append_assoc]at this
   exact this
  obtain⟨Y,ws,G',y1,y2,y3⟩:=Zke hd hp fs (i+1) (acc++[u2]) (at_++[pl]) pls' (X++(X1++X2)) (G++F2) (λj t e=>by
   have:=hr (j+1) t (by simpa using e)
   rw[show i+(j+1)=i+1+j by lia]at this
   exact this) (by rw[hl];simp;lia) ha2 (λa m=>(Zz8.mp m).elim (hg a) (new2 a)) e4 (by simp at hc ⊢;lia)
  refine⟨Y,ws,G',?_,by simpa using y2,y3⟩
  have i2:∀H,Zf (.tup (x0::y0::w::us)) (.int 2) H=some (w,H):=λH=>by
   have:seqIndex? 2 (us.length+1+1+1)=some 2:=by unfold seqIndex?;simp;lia
   simp[Zf,this]
  have g6:prE (Zi O 100 (.tup (x0::y0::w::us))) (K++X)=some (u2,K++(X++(X1++X2))):=by
   simp only[prE,Zg,Zb,Ze,Zc,Za,Zi,if_true,Ys1,Ys0,Zd,i2,g1,k1]
  have hc':acc.length<ZK:=by simp at hc;lia
  rw[List.length_cons]
  show((ZH d i (K++X)).bind _)=_
  have hx:ZH d i (K++X)=some (some (.tup (x0::y0::w::us))):=by simp[ZH,hd',v1]
  rw[hx]
  simp only[Ys0,Zu,ZD,if_true,g6,hc']
  exact y1
def ZcH: List T->Option T
 | [.lst fns]=>if fns.length<10000 then(ZeC fns).map .lst else none
 | _=>none
theorem Zl2(hp:0<K.length)(r:RF K vp (.lst fns) F)(e:ZcH [.lst fns]=some tw): ∃v X F',Ze0 [vp] K=some (v,K++X)/\RF (K++X) v tw F'/\∀a∈F',K.length<=a:=by
 unfold ZcH at e
 dsimp only at e
 split at e
 case isFalse=>first|exact Yx0 e|cases e
 rename_i hl
 obtain⟨pls,e1,rfl⟩:=Zz1.mp e
 cases r with
 | @ref d vs _ Fr hd rs=>
 obtain⟨Y,ws,G,y1,y2,y3⟩:=Zke (O:=λi=>[V.ref d][i]?) hd hp fns 0 [] [] pls [] [] (λj t e=>by
  obtain⟨v,G,q1,q2,_⟩:=rs.at e
  exact⟨v,G,by rw[Nat.zero_add];exact q1,q2⟩) (by rw[rs.length];lia) .nil (λa m=>(List.not_mem_nil m).elim) e1 (by rw[ZC];simp;lia)
 simp only[List.append_nil,List.nil_append]at y1 y2
 refine⟨.ref (K++Y).length,Y++[ws],(K++Y).length::G,?_,?_,λa m=>?_⟩
 ·unfold Ze0 ZgG Zr
  simp only[List.length_singleton,if_true]
  have:=rs.length
  unfold prE at y1
  rw[<-this]at y1
  simp only[Zn,Z5,ZU,Za,List.getElem?_cons_zero,Ys1,Ys0,hd]
  rw[y1]
  simp
 ·rw[<-List.append_assoc]
  exact .ref .s (y2.ext _)
 ·rcases Zz7.mp m with rfl | m
  ·simp
  ·exact y3 a m
end L
open PySem PM TM
namespace L
def Zid: Sm:=Zh (Zs (Zl (Zc oNe (Zg ZO (Zb (Za 1) Ze)) (Zc Zf (Zc Zf (Za 0) (ZB Zax (Zd 1))) (Zd 0)))) (PM.sNo) ZF) (Zh (Zk 4 (Zcp (Runner_c) ZdY (Zb (Za 0) (Zb (Za 1) (Zb (Za 2) Ze))))) (Zh (Zk 5 (Zy (Zb (ZB (Z3 (Runner_c) 5) (Za 4)) Ze))) (Zh (Za2 (ZX (Zl (Zc oLe (Zg ZO (Zb (Za 5) Ze)) (Za 3))) (ZX (Zbm (Zl (ZW (Runner_c) Zd1 (Za 4) Ze))) ZD)) (Zh (ZJ (ZW (Runner_c) Zd2 (Za 4) Ze)) (ZJ (Zal (Za 5) (ZB (Z3 (Runner_c) 5) (Za 4))))) 1000000) (Zn (Za 5)))))
def Zgb: List V->Hp->Option (V×Hp):=Zr 4 Zid
noncomputable def Zie(fns:List T): Option Int:=fns.getLast?.bind λt=>match t with
 | .tup (.int p::_)=>some p
 | _=>none
def ZdN(tp tw:T)(ks:List Int): Nat->RS->Option (List Mo)
 | 0,_=>some []
 | k+1,s=>(ZbO tw s).bind λq=>if q then some []else(ZbS tp tw ks s).bind λs'=>(ZdN tp tw ks k s').map (s'.m::·)
def ZdO: List T->Option T
 | [.lst fns,st,pk,.int steps]=>(Zbg st).bind λss=>(Zbg pk).bind λks=>(Zie fns).bind λpr=>if(ss.length:Int)=pr/\steps<=10000 then(ZcH [.lst fns]).bind λtw=>(Zdh (.lst fns) ((fns.length:Int)-1) ss).bind λm=>(ZdN (.lst fns) tw ks steps.toNat ⟨0,[],m⟩).map λms=>.lst ((m::ms).map ZcW)else none
 | _=>none
inductive MomR(K:Hp)(P:Nat->Prop): List V->List Mo->List Nat->Prop where
 | nil:MomR K P [] [] []
 | snoc {vs:List V} {ms:List Mo} {F:List Nat} {m:Mo} {b:Nat}:MomR K P vs ms F->K[b]?=some (m.2.2.map V.int)->P b->b∉F->MomR K P (vs++[ZT m b]) (ms++[m]) (F++[b])
section
variable {K K':Hp} {P:Nat->Prop} {vs:List V} {ms:List Mo} {F:List Nat}
theorem MomR.keep(r:MomR K P vs ms F)(h:∀a,P a->a<K.length->K'[a]?=K[a]?): MomR K' P vs ms F:=by
 induction r with
 | nil=>exact .nil
 | snoc _ b p n ih=>exact .snoc ih ((h _ p (lt_of_at b)).trans b) p n
theorem MomR.lt(r:MomR K P vs ms F): ∀a∈F,a<K.length/\P a:=by
 induction r with
 | nil=>intro a m;cases m
 | snoc _ b p _ ih=>
  intro a m
  rcases Zz8.mp m with m | m
  ·exact ih a m
  ·rw[List.mem_singleton]at m;subst m;exact⟨lt_of_at b,p⟩
theorem MomR.nodup(r:MomR K P vs ms F): F.Nodup:=by
 induction r with
 | nil=>exact List.nodup_nil
 | snoc _ _ _ n ih=>exact List.nodup_append.mpr ⟨ih,.s,λa h c k q=>by rw[List.mem_singleton]at k;subst k;exact n (q▸h)⟩
theorem Zp8{b:Nat}{m:Mo}(e:K[b]?=some (m.2.2.map V.int)): RF K (ZT m b) (ZcW m) [b]:=by
 have:=RFs.cons (RF.int (H:=K) m.1) (RFs.cons (RF.int (H:=K) m.2.1) (RFs.one (ZbP e)))
 exact .tup (by simpa [Zm]using this)
theorem MomR.rfs(r:MomR K P vs ms F): RFs K vs (ms.map ZcW) F:=by
 induction r with
 | nil=>exact .nil
 | snoc _ b _ _ ih=>rw[List.map_append];exact ih.append (RFs.one (Zp8 b))
end
def Zdi: Ts:=ZX (Zl (Zc oLe (Zg ZO (Zb (Za 5) Ze)) (Za 3))) (ZX (Zbm (Zl (ZW (Runner_c) Zd1 (Za 4) Ze))) ZD)
def ZfX: Sm:=Zh (ZJ (ZW (Runner_c) Zd2 (Za 4) Ze)) (ZJ (Zal (Za 5) (ZB (Z3 (Runner_c) 5) (Za 4))))
section
variable {o w m0:Nat} {vp vw:V} {kk:Nat} {tp tw:T} {ks:List Int}
theorem ZiV{steps:Int}{O:Lc}{L0:Nat}(h3:O 3=some (.int steps))(h4:O 4=some (.obj Runner_c o))(h5:O 5=some (.ref m0))(hm:m0≠0)(hs:steps<=10000)(lo:L0<=o)(lw:L0<=w)(lm:L0<=m0): ∀(k fuel:Nat) (s:RS) (b:Nat) (K:Hp) (vs:List V) (ms ms':List Mo) (F:List Nat),Rn K o w b m0 vp vw kk tp tw ks s->K[m0]?=some vs->MomR K (λa=>Off o w m0 a/\L0<=a) vs ms F->1<=vs.length->vs.length-1+k=steps.toNat->L0<=K.length->k<fuel->ZdN tp tw ks k s=some ms'->∃K' vs' F',Za2 Zdi ZfX fuel O K=some (none,O,K')/\K'[m0]?=some vs'/\MomR K' (λa=>Off o w m0 a/\L0<=a) vs' (ms++ms') F'/\L0<=K'.length/\∀a,a<L0->K'[a]?=K[a]?
 | 0,fuel+1,s,b,K,vs,ms,ms',F,R,km,M,l1,l2,lk,hf,e=>by
  cases e
  refine⟨K,vs,F,?_,km,by simpa using M,lk,λ_ _=>rfl⟩
  have c:¬((vs.length:Int)<=steps):=by omega
  simp[Za2,Zdi,ZX,Zl,Zc,Zg,Zb,Ze,Za,h5,ZO,km,h3,c,Zab]
 | k+1,fuel+1,s,b,K,vs,ms,ms',F,R,km,M,l1,l2,lk,hf,e=>by
  obtain⟨q,e1,e⟩:=Zz0.mp e
  have c:((vs.length:Int)<=steps):=by lia
  have en:=ZmJ R e1
  cases q with
  | true=>
   rw[if_pos rfl]at e
   cases e
   refine⟨K,vs,F,?_,km,by simpa using M,lk,λ_ _=>rfl⟩
   simp[Za2,Zdi,ZX,Zl,Zc,Zg,Zb,Ze,Za,h5,ZO,km,h3,c,Zab,Zbm,ZW,h4,ZaI,en]
  | false=>
   rw[if_neg .d]at e
   obtain⟨s',e2,e⟩:=Zz0.mp e
   obtain⟨ms2,e3,rfl⟩:=Zz1.mp e
   obtain⟨K1,g1,b',R1,g2,g3,g4⟩:=ZmN R e2
   have lm0:=lt_of_at km
   have km1:K1[m0]?=some vs:=(g4 m0 lm0 R.mo.1 R.mo.2.1).trans km
   generalize hK2:K1.set m0 (vs++[ZT s'.m b'])=K2
   have kp2:∀a,a≠m0->K2[a]?=K1[a]?:=λa h=>by rw[<-hK2,Yy2 (Ne.symm h)]
   have kq:∀a,Off o w m0 a->a<K1.length->K2[a]?=K1[a]?:=λa p _=>kp2 a p.2.2
   have km2:K2[m0]?=some (vs++[ZT s'.m b']):=by rw[<-hK2,Yy6 .l]
   obtain⟨ws,w1,w2⟩:=R1.hw
   have R2:Rn K2 o w b' m0 vp vw kk tp tw ks s':=⟨(kp2 o (Ne.symm R.mo.1)).trans R1.ho,⟨ws,(kp2 w (Ne.symm R.mo.2.1)).trans w1,w2.keep kq⟩,(kq b' R1.bo (lt_of_at R1.hb)).trans R1.hb,R1.rp.keep kq,R1.rw.keep kq,(kq _ R1.ko (lt_of_at R1.rk)).trans R1.rk,R1.ko,R1.bo,R1.o0,R1.w0,R1.ow,R1.mo,by rw[<-hK2];simpa using R1.ml⟩
   have M2:MomR K2 (λa=>Off o w m0 a/\L0<=a) (vs++[ZT s'.m b']) (ms++[s'.m]) (F++[b']):=
    .snoc (M.keep λa p l=>(kq a p.1 .l).trans (g4 a l p.1.1 p.1.2.1)) R2.hb ⟨R2.bo,.l⟩ (λq=>by have:=(M.lt b' q).1;lia)
   obtain⟨K',vs',F',c1,c2,c3,c4,c5⟩:=ZiV h3 h4 h5 hm hs lo lw lm k fuel s' b' K2 (vs++[ZT s'.m b']) (ms++[s'.m]) ms2 (F++[b']) R2 km2 M2 .s (by simp;lia) (by rw[<-hK2];simp;lia) .l e3
   refine⟨K',vs',F',?_,c2,by simpa using c3,c4,λa l=>(c5 a l).trans ((kp2 a .l).trans (g4 a .l .l .l))⟩
   have tt:Zdi O K=some (true,K):=by
    simp[Zdi,ZX,Zl,Zc,Zg,Zb,Ze,Za,h5,ZO,km,h3,c,Zab,Zbm,ZW,h4,ZaI,en,ZD]
   have lvs:vs.length<100000:=by lia
   have bb:ZfX O K=some (none,O,K2):=by
    simp[ZfX,Zh,ZJ,ZW,Za,h4,ZaI,Ze,g1,Zal,h5,ZB,Z3,R1.ho,Za0,km1,hm,ZC,lvs,hK2]
   show((Zdi O K).bind _)=_
   rw[tt]
   simp only[Ys0,if_true,bb]
   exact c1
theorem Zns{sp:Nat}{m:Mo}(hp:0<H.length)(rp:RF H vp (.lst fns) Fp)(rs:H[sp]?=some (ss.map V.int))(rk:H[kk]?=some (ks.map V.int))(e1:ZcH [.lst fns]=some tw)(e2:Zdh (.lst fns) ((fns.length:Int)-1) ss=some m): ∃K vw w b Fw,Zcp Runner_c ZdY (λ_ H=>some ([vp,.ref sp,.ref kk],H)) (λ_=>none) H=some (.obj Runner_c H.length,K)/\K[H.length]?=some [vp,vw,.ref kk,.int 0,.ref w,ZT m b]/\K[w]?=some []/\K[b]?=some (m.2.2.map V.int)/\RF K vw tw Fw/\(∀a∈Fw,H.length<a/\a<w)/\H.length<w/\w<b/\b<K.length/\∀a,a<H.length->K[a]?=H[a]?:=by
 obtain⟨tm,e2,e3⟩:=Zz0.mp e2
 obtain⟨ts,rfl,e4⟩:=ZiD e3
 have lp:∀a∈Fp,a<H.length:=rp.lt
 generalize ho:H.length=o at *
 have o0:o≠0:=by lia
 generalize hK1:H++[[vp]]=K1
 have l1:K1.length=o+1:=by rw[<-hK1];simp[ho]
 have k1:∀a,a<o->K1[a]?=H[a]?:=λa l=>by rw[<-hK1,Yy0 .l]
 have k1o:K1[o]?=some [vp]:=by rw[<-hK1,<-ho];simp
 have rp1:RF K1 vp (.lst fns) Fp:=rp.frame λa m=>k1 a (lp a m)
 obtain⟨vw,X,Fw,g1,g2,gl⟩:=Zl2 .l rp1 e1
 generalize hK4:(K1++X).set o [vp,vw,.ref kk,.int 0]=K4
 have l4:K4.length=o+1+X.length:=by rw[<-hK4];simp[l1]
 have k4:∀a,a<K1.length+X.length->a≠o->K4[a]?=(K1++X)[a]?:=λa l h=>by rw[<-hK4,Yy2 (Ne.symm h)]
 have k4o:K4[o]?=some [vp,vw,.ref kk,.int 0]:=by rw[<-hK4,Yy6 (by rw[List.length_append];lia)]
 generalize hw:K4.length=w at *
 generalize hK5:(K4++[[]]).set o [vp,vw,.ref kk,.int 0,.ref w]=K5
 have l5:K5.length=w+1:=by rw[<-hK5];simp[hw]
 have k5:∀a,a<w->a≠o->K5[a]?=K4[a]?:=λa l h=>by rw[<-hK5,Yy2 (Ne.symm h),Yy0 .l]
 have k5o:K5[o]?=some [vp,vw,.ref kk,.int 0,.ref w]:=by rw[<-hK5,Yy6 (by rw[List.length_append];lia)]
 have k5w:K5[w]?=some []:=by rw[<-hK5,Yy2 .l,<-hw];simp
 have k5h:∀a,a<o->K5[a]?=H[a]?:=λa l=>by
  rw[k5 a .l .l,k4 a .l .o,Yy0 .l,k1 a l]
 have rp5:RF K5 vp (.lst fns) Fp:=rp.frame λa m=>k5h a (lp a m)
 have rs5:K5[sp]?=some (ss.map V.int):=(k5h sp (by have:=lt_of_at rs;lia)).trans rs
 obtain⟨v',Y,F,y1,y2,y3,y4⟩:=Ziq K5 [vp,.int ((fns.length:Int)-1),.ref sp] [.lst fns,.int ((fns.length:Int)-1),Zm ss] _ _ .l (.cons rp5 (.cons (.int _) (.one (ZbP rs5)))) e2
 obtain⟨b,rfl,yb,rfl⟩:=Zj8 (m:=m) y2 e4
 have hb:=(y4 rfl).2 b Zz5
 have lb:=lt_of_at yb
 rw[List.length_append]at lb
 generalize hK6:(K5++Y).set o [vp,vw,.ref kk,.int 0,.ref w,ZT m b]=K6
 have l6:K6.length=w+1+Y.length:=by rw[<-hK6];simp[l5]
 have k6:∀a,a<w+1->a≠o->K6[a]?=K5[a]?:=λa l h=>by rw[<-hK6,Yy2 (Ne.symm h),Yy0 .l]
 have lFw:∀a∈Fw,o<a/\a<w:=λa m=>by
  have p1:=gl a m
  have p2:=g2.lt a m
  rw[List.length_append]at p2
  lia
 refine⟨K6,vw,w,b,Fw,?_,?_,(k6 w .l .l).trans k5w,?_,?_,lFw,.l,.l,.l,λa l=>(k6 a .l .l).trans (k5h a l)⟩
 ·unfold Zcp ZdY Zgx Zr
  simp only[Ys0,List.length_cons,List.length_nil,if_true,ho]
  have hl:Runner_c.2.length=6:=rfl
  have k0o:(H++[[]])[o]?=some []:=by rw[<-ho];simp
  have s1:(H++[[]]).set o [vp]=K1:=by rw[<-hK1,<-ho];simp
  rw[Z7 (B:=(λi=>[V.obj Runner_c o,vp,V.ref sp,V.ref kk][i]?)) (H1:=K1) (by
   have:Zay Runner_c 0 (.obj Runner_c o) vp (H++[[]])=some K1:=by simp[Zay,o0,k0o,hl,s1]
   simp[Zak,Za,this])]
  generalize hK2:(K1++X).set o [vp,vw]=K2
  have kxo:(K1++X)[o]?=some [vp]:=by rw[Yy0 .l];exact k1o
  have lkx:o<(K1++X).length:=lt_of_at kxo
  rw[Z7 (B:=(λi=>[V.obj Runner_c o,vp,V.ref sp,V.ref kk][i]?)) (H1:=K2) (by
   have:Zay Runner_c 1 (.obj Runner_c o) vw (K1++X)=some K2:=by simp[Zay,o0,kxo,hl,hK2]
   simp[Zak,Za,Zg,Zb,Ze,g1,this])]
  generalize hK3:(K1++X).set o [vp,vw,.ref kk]=K3
  have k2o:K2[o]?=some [vp,vw]:=by rw[<-hK2,Yy6 lkx]
  rw[Z7 (B:=(λi=>[V.obj Runner_c o,vp,V.ref sp,V.ref kk][i]?)) (H1:=K3) (by
   have:Zay Runner_c 2 (.obj Runner_c o) (.ref kk) K2=some K3:=by simp[Zay,o0,k2o,hl,<-hK3];rw[<-hK2];simp
   simp[Zak,Za,this])]
  have k3o:K3[o]?=some [vp,vw,.ref kk]:=by rw[<-hK3,Yy6 lkx]
  rw[Z7 (B:=(λi=>[V.obj Runner_c o,vp,V.ref sp,V.ref kk][i]?)) (H1:=K4) (by
   have:Zay Runner_c 3 (.obj Runner_c o) (.int 0) K3=some K4:=by simp[Zay,o0,k3o,hl,<-hK4];rw[<-hK3];simp
   simp[Zak,Za,Zd,this])]
  have k4e:(K4++[[]])[o]?=some [vp,vw,.ref kk,.int 0]:=by rw[Yy0 .l];exact k4o
  rw[Z7 (B:=(λi=>[V.obj Runner_c o,vp,V.ref sp,V.ref kk][i]?)) (H1:=K5) (by
   have:Zay Runner_c 4 (.obj Runner_c o) (.ref w) (K4++[[]])=some K5:=by simp[Zay,o0,k4e,hl,<-hK5]
   simp[Zak,Za,Zy,Ze,hw,this])]
  have k5e:(K5++Y)[o]?=some [vp,vw,.ref kk,.int 0,.ref w]:=by rw[Yy0 .l];exact k5o
  have e6:Zay Runner_c 5 (.obj Runner_c o) (ZT m b) (K5++Y)=some K6:=by simp[Zay,o0,k5e,hl,<-hK6]
  have ln:=ZfC (P:=λ_=>True) ⟨_,rp5,λ_ _=>trivial⟩
  simp[Zak,Za,Zg,Zb,Ze,Zc,Zd,ln,y1,e6]
 ·rw[<-hK6,Yy6 (by rw[List.length_append];lia)]
 ·rw[<-hK6,Yy2 .l];exact yb
 ·refine g2.frame λa m=>?_
  have:=lFw a m
  rw[k6 a .l .l,k5 a .l .o,k4 a .l .o]
end
theorem ZkZ(l:H.length<=K.length)(h:∀a,a<H.length->K[a]?=H[a]?): K=H++K.drop H.length:=by
 apply List.ext_getElem?
 intro i
 by_cases c:i<H.length
 ·rw[Yy0 c,h i c]
 ·rw[Yy5 .l,List.getElem?_drop]
  congr 1
  lia
theorem Zea(e:Zbg t=some ks): t=Zm ks:=by
 obtain⟨ts,e1,e2⟩:=Zz0.mp e
 have:=Zc8 e1;subst this
 have:∀{ts:List T} {ks:List Int},ZbR ts=some ks->ts=ks.map T.int:=by
  intro ts
  induction ts with
  | nil=>intro ks e;cases e;rfl
  | cons t ts ih=>
   intro ks e
   cases t <;> simp[ZbR]at e
   obtain⟨js,a,rfl⟩:=e
   rw[ih a]
   rfl
 rw[this e2]
 rfl
theorem Zdj(r:RF H v (Zm ks) F): ∃b,v=.ref b/\H[b]?=some (ks.map V.int):=by
 cases r with
 | ref e hs=>
  obtain⟨rfl,_,_⟩:=Zee (Zes ks) hs
  exact⟨_,rfl,e⟩
theorem Zp9: ZaO true Zgb ZdO:=λH vs ts t F1 hp r e=>by
 unfold ZdO at e
 split at e
 case h_2=>first|exact Yx0 e|cases e
 rename_i fns st pk steps
 obtain⟨ss,e1,e⟩:=Zz0.mp e
 obtain⟨ks,e2,e⟩:=Zz0.mp e
 obtain⟨pr,e3,e⟩:=Zz0.mp e
 split at e
 case isFalse=>first|exact Yx0 e|cases e
 rename_i hc
 obtain⟨hc,hst⟩:=hc
 obtain⟨tw,e4,e⟩:=Zz0.mp e
 obtain⟨m,e5,e⟩:=Zz0.mp e
 obtain⟨ms,e6,e⟩:=Zz1.mp e
 subst e
 have:=Zea e1;subst this
 have:=Zea e2;subst this
 cases r with
 | @cons vp _ Fp _ _ _ rp r=>
 cases r with
 | @cons vs0 _ Fs _ _ _ rs r=>
 cases r with
 | @cons vk _ Fk _ _ _ rk r=>
 cases r with
 | @cons v3 _ F3 _ _ _ r3 r=>
 cases r
 cases r3
 obtain⟨sp,rfl,hs⟩:=Zdj rs
 obtain⟨kk,rfl,hk⟩:=Zdj rk
 obtain⟨K,vw,w,b,Fw,n1,n2,n3,n4,n5,n6,n7,n8,n9,n10⟩:=Zns hp rp hs hk e4 e5
 generalize ho:H.length=o at *
 generalize hm0:K.length=m0 at *
 generalize hK1:K++[[ZT m b]]=K1
 have l1:K1.length=m0+1:=by rw[<-hK1];simp[hm0]
 have k1:∀a,a<m0->K1[a]?=K[a]?:=λa l=>by rw[<-hK1,Yy0 .l]
 have k1m:K1[m0]?=some [ZT m b]:=by rw[<-hK1,<-hm0];simp
 have lFp:∀a∈Fp,a<o:=λa m=>by have:=rp.lt a m;lia
 have lk:=lt_of_at hk
 have R:Rn K1 o w b m0 vp vw kk (.lst fns) tw ks ⟨0,[],m⟩:=by
  refine⟨(k1 o .l).trans n2,⟨[],(k1 w .l).trans n3,.nil⟩,(k1 b .o).trans n4,⟨Fp,rp.frame λa m=>?_,λa m=>?_⟩,⟨Fw,n5.frame λa m=>?_,λa m=>?_⟩,?_,⟨.l,.l,.l⟩,⟨.l,.l,.l⟩,.l,.l,.l,⟨.l,.l,.o⟩,.l⟩
  ·have:=lFp a m;rw[k1 a .l,n10 a .o]
  ·have:=lFp a m;exact⟨.l,.l,.l⟩
  ·have:=n6 a m;rw[k1 a .l]
  ·have:=n6 a m;exact⟨.l,.l,.l⟩
  ·rw[k1 kk .l,n10 kk .l];exact hk
 have M:MomR K1 (λa=>Off o w m0 a/\o<=a) [ZT m b] [m] [b]:=MomR.snoc (vs:=[]) (ms:=[]) (F:=[]) .nil R.hb ⟨R.bo,.l⟩ .s
 generalize k:Zi (Zi (λi=>[vp,V.ref sp,V.ref kk,V.int steps][i]?) 4 (.obj Runner_c o)) 5 (.ref m0)=O
 obtain⟨K',vs',F',c1,c2,c3,c4,c5⟩:=ZiV (steps:=steps) (O:=O) (L0:=o) (by rw[<-k];simp[Zi]) (by rw[<-k];simp[Zi]) (by rw[<-k];simp[Zi]) .l hst .l .l .l steps.toNat 1000000 _ b K1 [ZT m b] [m] ms [b] R k1m M .s .s .l .l e6
 have keep:∀a,a<H.length->K'[a]?=H[a]?:=λa l=>(c5 a .l).trans ((k1 a .l).trans (n10 a .o))
 have eK:=ZkZ (H:=H) (K:=K') .l keep
 have fm:∀a∈F',a≠m0/\o<=a:=λa q=>⟨(c3.lt a q).2.1.2.2,(c3.lt a q).2.2⟩
 refine⟨.ref m0,K'.drop H.length,m0::F',?_,?_,λa q=>.inl ?_,λ_=>⟨List.nodup_cons.mpr ⟨λq=>(fm m0 q).1 rfl,c3.nodup⟩,λa q=>?_⟩⟩
 ·rw[<-eK]
  unfold Zgb Zid Zr
  simp only[List.length_cons,List.length_nil,if_true]
  rw[Z7 (B:=(λi=>[vp,V.ref sp,V.ref kk,V.int steps][i]?)) (H1:=H) (by
   obtain⟨lt,q1,q2⟩:=Zz0.mp e3
   obtain⟨ys,ey⟩:=List.getLast?_eq_some_iff.mp q1
   split at q2
   case h_2=>first|exact Yx0 q2|cases q2
   rename_i pr2 tl
   cases q2
   have ix:Zb9 fns (-1)=some (T.tup (T.int (ss.length:Int)::tl)):=by
    have:seqIndex? (-1) fns.length=some ys.length:=by
     rw[ey]
     unfold seqIndex?
     simp
     lia
    simp only[Zb9,this,Ys0]
    rw[ey,hc]
    simp
   obtain⟨u,u1,u2⟩:=ZfB (P:=λ_=>True) ⟨_,rp,λ_ _=>trivial⟩ ix
   obtain⟨us,rfl,u3⟩:=u2.tup
   obtain⟨u4,us4,rfl,u5,_⟩:=ZV u3
   have:=u5.int;subst this
   have ln:ZO [V.ref sp] H=some (.int ss.length,H):=by simp[ZO,hs]
   simp[Zs,Zl,Zc,Zg,Zb,Ze,Za,ln,ZB,Zd,u1,ia0,Zab,ZF])]
  rw[Z7 (B:=Zi (λi=>[vp,V.ref sp,V.ref kk,V.int steps][i]?) 4 (.obj Runner_c o)) (H1:=K) (by
   have:Zcp Runner_c ZdY (Zb (Za 0) (Zb (Za 1) (Zb (Za 2) Ze))) (λi=>[vp,V.ref sp,V.ref kk,V.int steps][i]?) H=some (.obj Runner_c o,K):=by
    rw[<-n1]
    simp[Zcp,Zb,Za,Ze]
   simp[Zk,this])]
  rw[Z7 (B:=O) (H1:=K1) (by
   simp[Zk,Zy,Zb,Ze,ZB,Z3,Za,Zi,n2,ZC,hm0,hK1,<-k])]
  unfold Zdi ZfX at c1
  rw[Z7 c1]
  simp[Zn,Za,<-k,Zi]
 ·rw[<-eK]
  exact .ref c2 (by simpa using c3.rfs)
 ·rcases Zz7.mp q with rfl | q
  ·lia
  ·have:=(fm a q).2;omega
 ·rcases Zz7.mp q with rfl | q
  ·omega
  ·have:=(fm a q).2;omega
inductive ClOk(n:Nat): T->Prop where
 | un {c:Nat->Int}:Sh n c->ClOk n (unT n c)
 | sm {c:Nat->Int}:Sh n c->ClOk n (smT n c)
 | ev {c:Nat->Int} {d:Int}:Sh n c->0<d->ClOk n (evT n c d)
theorem ZqY(h:ClOk bs.length t)(hn:bs.length<=60): ∃u c q r,t=.tup (.str u::Zm c::q)/\Za4 c bs/\hvP u q (ZaJ c bs)=some r:=by
 have k:∀{c:Nat->Int} (u:Str) (q:List T) (r:Bool),Sh bs.length c->hvP u q (ZaJ (tab (bs.length+1) c) bs)=some r->∃u' c' q' r,T.tup (.str u::ZaS bs.length c::q)=.tup (.str u'::Zm c'::q')/\Za4 c' bs/\hvP u' q' (ZaJ c' bs)=some r:=λu q r hc e=>⟨u,_,q,r,by rw[ZdE],Zet hn hc,e⟩
 cases h with
 | un hc=>exact k _ [] _ hc (by unfold hvP;rw[if_pos .D,if_pos rfl])
 | sm hc=>exact k _ [] _ hc (by unfold hvP;rw[if_pos .D,if_neg .D,if_pos rfl])
 | ev hc hd=>exact k _ [.int _] _ hc (by unfold hvP;rw[if_pos .D,if_neg .D,if_neg .D];exact if_pos hd)
theorem Zlo(h:ClOk bs.length t)(hn:bs.length<=60): ∃r,ZbK [t,Zm bs]=some (.bool r):=by
 obtain⟨u,c,q,r,rfl,ok,e⟩:=ZqY h hn
 exact⟨r,Zor ok e⟩
theorem Zhc{b r:Bool}(hh:ZbK [c,Zm bs]=some (.bool r)): Zbb [Zm bs,Zah c b,.int p]=some (if r=b then Zm bs else .none):=by
 obtain⟨u,c',q,bs',h,e,ok,eh,er⟩:=ZiR hh
 simp only[List.cons.injEq,and_true]at e
 obtain⟨rfl,e⟩:=e
 cases ZbN e
 cases er
 rw[Zah,Zdg ok.2.1 (.when rfl ok eh)]
 split <;> rfl
inductive PlOk(sig:Nat->Nat×Nat)(g n:Nat): T->Prop where
 | set {X:Nat} {c:Nat->Int}:X<n->Sh n c->PlOk sig g n (.tup [.str (Str.ofString "set"),.int ((X:Int)+1),ZaS n c])
 | part {X:Nat} {c:Nat->Int} {d:Int}:X<n->Sh n c->0<d->d.natAbs<2 ^ 300->PlOk sig g n (.tup [.str (Str.ofString "part"),.int ((X:Int)+1),ZaS n c,.int d])
 | rest {X:Nat} {c:Nat->Int} {d:Int}:X<n->Sh n c->0<d->PlOk sig g n (.tup [.str (Str.ofString "rest"),.int ((X:Int)+1),ZaS n c,.int d])
 | any {X:Nat} {s:Sp2}:X<n->(∀x y,s.1=some x->s.2=some y->x<=y)->PlOk sig g n (.tup [.str (Str.ofString "any"),.int ((X:Int)+1),oT s.1,oT s.2])
 | say {c:T}:ClOk n c->PlOk sig g n (.tup [.str (Str.ofString "say"),c])
 | call {X h:Nat} {sums:List T}:X<n->h<g->sums.length=(sig h).1->(∀s∈sums,∃c,s=ZaS n c/\Sh n c)->PlOk sig g n (.tup [.str (Str.ofString "call"),.int ((X:Int)+1),.int h,.lst sums])
def Zbl(tp tw:T)(ks:List Int): Nat->RS->Option (List Mo×Nat)
 | 0,s=>some ([],s.n)
 | k+1,s=>(ZbO tw s).bind λq=>if q then some ([],s.n)else(ZbS tp tw ks s).bind λs'=>(Zbl tp tw ks k s').map λr=>(s'.m::r.1,r.2)
theorem Zkf{tp tw:T}{ks:List Int}: ∀{k:Nat} {s:RS} {r:List Mo×Nat},Zbl tp tw ks k s=some r->ZdN tp tw ks k s=some r.1
 | 0,s,r,e=>by cases e;rfl
 | k+1,s,r,e=>by
  obtain⟨q,e1,e⟩:=Zz0.mp e
  cases q with
  | true=>rw[if_pos rfl]at e;cases e;simp[ZdN,e1]
  | false=>
   rw[if_neg .d]at e
   obtain⟨s',e2,e⟩:=Zz0.mp e
   obtain⟨r',e3,rfl⟩:=Zz1.mp e
   simp[ZdN,e1,e2,Zkf e3]
section
variable {tp tw:T} {ks:List Int} {n:Nat} {wt:List (Mo×T)} {f u:Int} {bs:List Int}
theorem Zjo{s:RS}{row:T}{rs:List T}(h:ZaH tw s.m=some (row::rs)): ZbO tw s=some false:=by
 simp[ZbO,h]
theorem Zdz(l:List Int): Zbg (Zm l)=some l:=by
 simp[Zbg,Zm,unL,Zes]
theorem Zk0(l:List Int): unD (Zm l)=some (some l):=by
 simp[unD,Zm,Zes]
theorem Zjp(h:ZaH tw (f,u,bs)=some [rowT u (.tup (.str wd::as)) q])(hw:PyData.strOk wd=true)(hc:wd≠Str.ofString "call")(hd:Zbb [Zm bs,.tup (.str wd::as),.int (Zan ks n wd).2]=some (Zm bs')): ZbS tp tw ks ⟨n,wt,(f,u,bs)⟩=some ⟨(Zan ks n wd).1,wt,(f,q,bs')⟩:=by
 have e:ZeB bs (.tup (.str wd::as)) (Zan ks n wd).2=some (some bs'):=by simp[ZeB,hd,Zk0]
 unfold rowT at h
 simp only[ZbS,h,Ys0,un3,ZaX,unS,unI,List.getElem?_cons_zero,if_pos hw,if_neg hc,ZdF,ZcX,e,Zgj,Ys1,id]
theorem ZmO{q1 q2:Int}{r:Bool}(h:ZaH tw (f,u,bs)=some [rowT u (Zah c true) q1,rowT u (Zah c false) q2])(hh:ZbK [c,Zm bs]=some (.bool r)): ZbS tp tw ks ⟨n,wt,(f,u,bs)⟩=some ⟨n,wt,(f,if r then q1 else q2,bs)⟩:=by
 have hp:Zan ks n (Str.ofString "when")=(n,0):=by
  unfold Zan;rw[if_neg .D]
 have d:∀b:Bool,ZeB bs (Zah c b) 0=some (if r=b then some bs else none):=λb=>by
  unfold ZeB
  rw[Zhc hh]
  cases r <;> cases b <;> simp[Zk0] <;> rfl
 have d1:=d true
 have d2:=d false
 unfold rowT at h
 unfold Zah at h d1 d2
 simp only[ZbS,h,Ys0,Ys1,un3,ZaX,unS,unI,List.getElem?_cons_zero,if_pos (show PyData.strOk (Str.ofString "when")=true by decide +kernel),if_neg (show Str.ofString "when"≠Str.ofString "call" by decide +kernel),hp,ZdF,ZcX,d1,d2]
 cases r <;> simp[Zgj]
end
def SL(sig:Nat->Nat×Nat)(g n:Nat): Nat->T->Int->List T->Int->Prop
 | 0=>λt u r e=>PlOk sig g n t/\r=[rowT u t (u+1)]/\e=u+1
 | k+1=>λt u r e=>(PlOk sig g n t/\r=[rowT u t (u+1)]/\e=u+1) ∨
   (∃c a b ra ea rb eb,t=ifT c a b/\ClOk n c/\LyB (SL sig g n k) a (u+1) ra ea/\LyB (SL sig g n k) b (ea+1) rb eb/\r=rowT u (Zah c true) (u+1)::(ra++rowT u (Zah c false) (ea+1)::(rb++[rowT ea goT (eb+1),rowT eb goT (eb+1)]))/\e=eb+1) ∨
   (∃c a ra ea,t=whT c a/\ClOk n c/\LyB (SL sig g n k) a (u+2) ra ea/\r=rowT u goT (u+1)::rowT (u+1) (Zah c true) (u+2)::(ra++[rowT ea goT (u+1),rowT (u+1) (Zah c false) (ea+1)])/\e=ea+1)
def Btw(u e:Int)(r:List T): Prop:=∀x∈r,∃a t b,x=rowT a t b/\u<=a/\a<e
theorem Btw.mono{u':Int}(h:Btw u e r)(h1:u'<=u)(h2:e<=e'): Btw u' e' r:=λx m=>by
 obtain⟨a,t,b,q,l1,l2⟩:=h x m
 exact⟨a,t,b,q,.l,.l⟩
theorem Btw.app{s:List T}(h:Btw u e r)(k:Btw u e s): Btw u e (r++s):=λx m=>(Zz8.mp m).elim (h x) (k x)
theorem Btw.cons{a:Int}{s:List T}(h1:u<=a)(h2:a<e)(k:Btw u e s): Btw u e (rowT a t b::s):=λx m=>by
 rcases Zz7.mp m with rfl | m
 ·exact⟨a,t,b,rfl,h1,h2⟩
 ·exact k x m
theorem Btw.nil: Btw u e []:=λx m=>(List.not_mem_nil m).elim
theorem Zb0{L:T->Int->List T->Int->Prop}(hL:∀t u r e,L t u r e->u<e/\Btw u e r)(h:LyB L ts u r e): u<=e/\Btw u e r:=by
 induction h with
 | nil=>exact⟨.l,.nil⟩
 | cons a _ ih=>
  obtain⟨h1,h2⟩:=hL _ _ _ _ a
  obtain⟨h3,h4⟩:=ih
  exact⟨.l,(h2.mono .l h3).app (h4.mono .l .l)⟩
section
variable {sig:Nat->Nat×Nat} {g n:Nat}
theorem ZbQ: ∀(k:Nat) (t:T) (u:Int) (r:List T) (e:Int),SL sig g n k t u r e->u<e/\Btw u e r
 | 0,t,u,r,e,h=>by
  obtain⟨_,rfl,rfl⟩:=h
  exact⟨.l,.cons .o .o .nil⟩
 | k+1,t,u,r,e,h=>by
  rcases h with⟨_,rfl,rfl⟩ | ⟨c,a,b,ra,ea,rb,eb,rfl,hc,ha,hb,rfl,rfl⟩ | ⟨c,a,ra,ea,rfl,hc,ha,rfl,rfl⟩
  ·exact⟨.o,.cons .o .o .nil⟩
  ·obtain⟨l1,k1⟩:=Zb0 (ZbQ k) ha
   obtain⟨l2,k2⟩:=Zb0 (ZbQ k) hb
   exact⟨.l,.cons .o .o ((k1.mono .l .l).app (.cons .o .o ((k2.mono .l .l).app (.cons .l .l (.cons .l .l .nil)))))⟩
  ·obtain⟨l1,k1⟩:=Zb0 (ZbQ k) ha
   exact⟨.l,.cons .l .o (.cons .l .l ((k1.mono .l .l).app (.cons .l .l (.cons .o .o .nil))))⟩
end
theorem ZfE{a:Int}: src q (rowT a t b)=(a == q):=rfl
theorem Zbz(h:Btw u e r)(hq:q<u∨e<=q): r.filter (src q)=[]:=by
 rw[List.filter_eq_nil_iff]
 intro x m
 obtain⟨a,t,b,rfl,l1,l2⟩:=h x m
 rw[ZfE]
 simp
 lia
section
variable {sig:Nat->Nat×Nat} {g n:Nat}
theorem Zkg(h:PlOk sig g n t): ∃w rest,t=.tup (.str w::rest)/\(PyData.strOk w && PyData.strOk iF && decide (w≠iF))=true/\(PyData.strOk w && PyData.strOk wH && decide (w≠wH))=true/\PyData.strOk w=true:=by
 cases h <;> exact⟨_,_,rfl,.D,.D,.D⟩
end
def callT(X:Nat)(h:Nat)(sums:List T): T:=.tup [.str (Str.ofString "call"),.int ((X:Int)+1),.int h,.lst sums]
section
variable {tp tw:T} {ks:List Int} {n:Nat} {wt:List (Mo×T)} {f u:Int} {bs:List Int}
theorem Zmg{X h:Nat}{m:Mo}(hr:ZaH tw (f,u,bs)=some [rowT u (callT X h sums) q])(hg:Zcf bs sums=some gv)(hf:Zdh tp h gv=some m)(hl:wt.length<10000)(hs:sums.length<10000): ZbS tp tw ks ⟨n,wt,(f,u,bs)⟩=some ⟨n,wt++[((f,u,bs),rowT u (callT X h sums) q)],m⟩:=by
 unfold rowT callT at *
 simp only[ZbS,hr,Ys0,un3,un4,ZaX,unS,unI,unL,List.getElem?_cons_zero,if_pos (show PyData.strOk (Str.ofString "call")=true by decide +kernel),if_true,ZfW,if_pos (And.intro hl hs),hg,hf,Ys1]
theorem Znt{X:Nat}{a:Int}(hX:X<bs.length)(hn:bs.length<=60): Zib bs ((X:Int)+1) a=some (bs.set X a):=by
 rw[Zib,Zp1 hX hn]
 exact Zdz _
theorem Zmh{X h:Nat}{f' p' a:Int}(hr:ZaH tw (f',p',bs')=some [])(ha:bs'.getLast? = some a)(hX:X<bs.length)(hn:bs.length<=60): ZbS tp tw ks ⟨n,wt++[((f,u,bs),rowT u (callT X h sums) q)],(f',p',bs')⟩=some ⟨n,wt,(f,q,bs.set X a)⟩:=by
 have:=Znt (a:=a) hX hn
 unfold rowT callT
 simp[ZbS,hr,ZfV,ha,this,un3,ZaX,unI]
theorem Znu{s:RS}{rows:List T}(h:ZaH tw s.m=some rows)(hw:s.wt=wt++[fr]): ZbO tw s=some false:=by
 simp[ZbO,h,hw]
theorem Zjq{body:List T}{h:Nat}{p:Nat}(e:fns[h]?=some (.tup [.int p,.int m,.lst body]))(hg:gv.length=p)(hm:m<=60)(hp:p<=m): Zdh (.lst fns) h gv=some ((h:Int),0,gv++List.replicate (m-p) 0):=by
 subst hg
 rw[Zdh,Zoy e hp hm]
 simp only[ZaW,Ys0,Zm,Zia,un3,ZaX,unI,Zbg,unL,Zes,Ys1]
end
theorem ZbT{a:Int}{s:List T}(h:a=q): (rowT a t b::s).filter (src q)=rowT a t b::s.filter (src q):=by
 rw[List.filter_cons_of_pos (by rw[ZfE];simpa using h)]
theorem ZaL{a:Int}{s:List T}(h:a≠q): (rowT a t b::s).filter (src q)=s.filter (src q):=by
 rw[List.filter_cons_of_neg (by rw[ZfE];simpa using h)]
theorem ZoD(hn:bs.length<=60): Zbb [Zm bs,goT,.int p]=some (Zm bs):=Zdg hn (.stay (.inl rfl))
theorem ZeL{t:Ts}{a b:Sm}(h:t O H=some (true,H1)): Zs t a b O H=a O H1:=by simp only[Zs,h,Ys0,if_true]
theorem ZcD{t:Ts}{a b:Sm}(h:t O H=some (false,H1)): Zs t a b O H=b O H1:=by simp only[Zs,h,Ys0,Bool.false_eq_true,if_false]
theorem ZiG{bs:List Int}(hn:bs.length<=60): ∀{sums:List T},(∀s∈sums,∃c,s=ZaS bs.length c/\Sh bs.length c)->∃gv,Zcf bs sums=some gv/\gv.length=sums.length
 | [],_=>⟨[],rfl,rfl⟩
 | s::sums,h=>by
  obtain⟨gv,e1,e3⟩:=ZiG hn (sums:=sums) λs m=>h s (Zz2 _ m)
  obtain⟨c,rfl,hc⟩:=h s Zz5
  exact⟨Zcq c bs::gv,by simp[Zcf,ZhJ hn hc,unI,e1],by simp[e3]⟩
section
variable {fns:List T} {tw:T} {ks:List Int} {g mk kk L0:Nat} {vp:V} {most:Nat} {sig:Nat->Nat×Nat} {nf:Nat}
theorem Znv{fg:Nat}(hp:PlOk sig fg n t): (∃X h sums,t=callT X h sums/\X<n/\h<fg/\sums.length=(sig h).1/\∀s∈sums,∃c,s=ZaS n c/\Sh n c)∨∃wd rest,t=.tup (.str wd::rest)/\wd≠Str.ofString "call":=by
 cases hp with
 | call c1 c2 c3 c4=>exact .inl ⟨_,_,_,rfl,c1,c2,c3,c4⟩
 | set=>exact .inr ⟨_,_,rfl,.D⟩
 | part=>exact .inr ⟨_,_,rfl,.D⟩
 | rest=>exact .inr ⟨_,_,rfl,.D⟩
 | any=>exact .inr ⟨_,_,rfl,.D⟩
 | say=>exact .inr ⟨_,_,rfl,.D⟩
end
section
variable {sig:Nat->Nat×Nat} {g n:Nat}
theorem Zc6{c:Nat->Int}(h:m<=60): Nice (k+1) (ZaS m c):=.lst (by simp[tab];lia) (λt ht=>by
 obtain⟨i,_,rfl⟩:=ZmG ht
 exact .int _)
theorem Zeo(h:ClOk n t)(hn:n<=60): Nice 2 t:=by
 cases h with
 | un hc=>exact .tup .s (ZY (.str su) (ZY (Zc6 hn) nl0))
 | sm hc=>exact .tup .s (ZY (.str ss_) (ZY (Zc6 hn) nl0))
 | ev hc hd=>exact .tup .s (ZY (.str .D) (ZY (Zc6 hn) (ZY (.int _) nl0)))
theorem Zkh{a:Option Int}: Nice k (oT a):=by
 cases a with
 | none=>exact .none
 | some a=>exact .int a
theorem ZhL(h:PlOk sig g n t)(hn:n<=60)(hs:∀h,(sig h).1<=60): ZdT t:=by
 refine⟨?_,?_⟩
 ·cases h with
  | set _ _=>exact .tup .s (ZY (.str .D) (ZY (.int _) (ZY (Zc6 hn) nl0)))
  | part _ _ _ _=>exact .tup .s (ZY (.str .D) (ZY (.int _) (ZY (Zc6 hn) (ZY (.int _) nl0))))
  | rest _ _ _=>exact .tup .s (ZY (.str .D) (ZY (.int _) (ZY (Zc6 hn) (ZY (.int _) nl0))))
  | any _ _=>exact .tup .s (ZY (.str .D) (ZY (.int _) (ZY Zkh (ZY Zkh nl0))))
  | say hc=>exact .tup .s (ZY (.str .D) (ZY (Zeo hc hn) nl0))
  | @call X h sums h1 h2 h3 h4=>
   refine .tup .s (ZY (.str .D) (ZY (.int _) (ZY (.int _) (ZY (.lst ?_ λt ht=>?_) nl0))))
   ·rw[h3];have:=hs h;lia
   ·obtain⟨c,rfl,_⟩:=h4 t ht
    exact Zc6 hn
 ·obtain⟨w,rest,e,h1,h2,_⟩:=Zkg h
  exact⟨w,rest,e,h1,h2⟩
theorem Zbs{L:T->Int->List T->Int->Prop}(hL:∀t u r e,L t u r e->L' t u r e)(h:LyB L ts u r e): LyB L' ts u r e:=by
 induction h with
 | nil=>exact .nil
 | cons a _ ih=>exact .cons (hL _ _ _ _ a) ih
theorem Zdk(hn:n<=60)(hs:∀h,(sig h).1<=60): ∀(k:Nat) (t:T) (u:Int) (r:List T) (e:Int),SL sig g n k t u r e->LyS k t u r e
 | 0,t,u,r,e,h=>⟨ZhL h.1 hn hs,h.2⟩
 | k+1,t,u,r,e,h=>by
  rcases h with⟨hp,h2⟩ | ⟨c,a,b,ra,ea,rb,eb,h1,hc,ha,hb,h2⟩ | ⟨c,a,ra,ea,h1,hc,ha,h2⟩
  ·exact .inl ⟨ZhL hp hn hs,h2⟩
  ·exact .inr (.inl ⟨c,a,b,ra,ea,rb,eb,h1,Zeo hc hn,Zbs (Zdk hn hs k) ha,Zbs (Zdk hn hs k) hb,h2⟩)
  ·exact .inr (.inr ⟨c,a,ra,ea,h1,Zeo hc hn,Zbs (Zdk hn hs k) ha,h2⟩)
theorem ZfF{L:T->Int->List T->Int->Prop}(hL:∀t u r e,L t u r e->e-u<=r.length)(h:LyB L ts u r e): e-u<=r.length:=by
 induction h with
 | nil=>simp
 | cons a _ ih=>
  have:=hL _ _ _ _ a
  simp
  lia
theorem ZfY: ∀(k:Nat) (t:T) (u:Int) (r:List T) (e:Int),SL sig g n k t u r e->e-u<=r.length
 | 0,t,u,r,e,h=>by
  obtain⟨_,rfl,rfl⟩:=h
  simp
  lia
 | k+1,t,u,r,e,h=>by
  rcases h with⟨_,rfl,rfl⟩ | ⟨c,a,b,ra,ea,rb,eb,rfl,hc,ha,hb,rfl,rfl⟩ | ⟨c,a,ra,ea,rfl,hc,ha,rfl,rfl⟩
  ·simp
   omega
  ·have:=ZfF (ZfY k) ha
   have:=ZfF (ZfY k) hb
   simp
   lia
  ·have:=ZfF (ZfY k) ha
   simp
   lia
theorem ZmP{body:List T}(hn:n<=60)(hs:∀h,(sig h).1<=60)(h:LyB (SL sig g n 3) body 0 r e)(hl:r.length<=9000): 0<=e/\Zdp (.lst body)=some (.lst r)/\Zen (.lst r)=some (byP (e.toNat+1) r):=by
 have h':=Zbs (Zdk hn hs 3) h
 obtain⟨e0,hr1,hr2⟩:=Zfk (Zfl 3) h' .l
 have hb:=ZfF (ZfY 3) h
 obtain⟨_,bt⟩:=Zb0 (ZbQ 3) h
 refine⟨e0,Zjm h' hl,?_⟩
 have la:=Zox e0 hl hr1 (λq=>hr2 q)
 simp only[Zen,la]
 rw[if_pos]
 refine⟨e0,.l,.l,?_⟩
 rw[List.all_eq_true]
 intro x m
 obtain⟨a,t,b,rfl,l1,l2⟩:=bt x m
 simp only[Zic,rowT,decide_eq_true_eq]
 lia
theorem ZhM{k:Int}(h0:0<=k)(h:ts[k.toNat]?=some t): Zb9 ts k=some t:=by
 have hlt:k.toNat<ts.length:=(Zz6.mp h).1
 have:seqIndex? k ts.length=some k.toNat:=by unfold seqIndex?;simp;lia
 simp[Zb9,this,h]
end
structure PrOk(fns:List T)(sig:Nat->Nat×Nat): Prop where
 fn:∀h,h<fns.length->∃body r e,fns[h]?=some (.tup [.int (sig h).1,.int (sig h).2,.lst body])/\LyB (SL sig h (sig h).2 3) body 0 r e/\r.length<=9000
 sg:∀h,(sig h).1<=(sig h).2/\1<=(sig h).2/\(sig h).2<=4
theorem Zki{sig:Nat->Nat×Nat}(hs:∀h,(sig h).1<=(sig h).2/\1<=(sig h).2/\(sig h).2<=4): ∀(fs:List T) (k:Nat),(∀j,j<fs.length->∃body r e,fs[j]?=some (.tup [.int (sig (k+j)).1,.int (sig (k+j)).2,.lst body])/\LyB (SL sig (k+j) (sig (k+j)).2 3) body 0 r e/\r.length<=9000)->∃pls,ZeC fs=some pls/\∀j,j<fs.length->∃body r e,fs[j]?=some (.tup [.int (sig (k+j)).1,.int (sig (k+j)).2,.lst body])/\LyB (SL sig (k+j) (sig (k+j)).2 3) body 0 r e/\0<=e/\pls[j]?=some (byP (e.toNat+1) r)
 | [],k,h=>⟨[],rfl,λj hj=>by simp at hj⟩
 | f::fs,k,h=>by
  obtain⟨body,r,e,h1,h2,h3⟩:=h 0 .s
  obtain⟨pls,p1,p2⟩:=Zki hs fs (k+1) (λj hj=>by
   have:=h (j+1) (by simp;omega)
   rw[show k+(j+1)=k+1+j by lia]at this
   simpa using this)
  obtain⟨e0,q1,q2⟩:=ZmP (by have:=(hs (k+0)).2.2;lia) (λh=>by have:=hs h;lia) h2 h3
  simp only[List.getElem?_cons_zero,Option.some.injEq]at h1
  subst h1
  refine⟨byP (e.toNat+1) r::pls,by simp[ZeC,Zh0,q1,q2,p1],λj hj=>?_⟩
  match j,hj with
  | 0,_=>exact⟨body,r,e,rfl,h2,e0,rfl⟩
  | j+1,hj=>
   obtain⟨b',r',e',z1,z2,z3,z4⟩:=p2 j (by simp at hj;omega)
   rw[show k+(j+1)=k+1+j by lia]
   exact⟨b',r',e',by simpa using z1,z2,z3,by simpa using z4⟩
theorem Zqa: T60<2 ^ 200:=by
 unfold T60;decide
def bk: Nat->Nat
 | 0=>1
 | k+1=>4+8*bk k
section
variable {ns:List Int} {p:Nat} {r:Int} {Q:T->List T->Prop}
theorem Znw{l:List Int}(hl:l.length=n+1): T.lst (l.map T.int)=ZaS n (λi=>l.getD i 0):=by
 rw[ZdE,Zm,<-hl]
 congr 2
 apply List.ext_getElem
 ·simp[tab]
 ·intro i h1 h2
  simp[tab]at h2 ⊢
  rw[Yy1 h2]
  rfl
end
def StD(sig:Nat->Nat×Nat)(g n k:Nat)(t:T): Prop:=(∀u,∃r e,SL sig g n k t u r e/\r.length<=bk k)/\Nice (3+2*k) t
def BodyD(sig:Nat->Nat×Nat)(g n k:Nat)(ts:List T): Prop:=ts.length<=4/\∀t∈ts,StD sig g n k t
section
variable {sig:Nat->Nat×Nat} {g n k:Nat}
theorem Zhd: ∀{ts:List T},(∀t∈ts,StD sig g n k t)->∀u,∃r e,LyB (SL sig g n k) ts u r e/\r.length<=ts.length*bk k
 | [],_,u=>⟨[],u,.nil,.s⟩
 | t::ts,h,u=>by
  obtain⟨r,e,h1,h2⟩:=(h t Zz5).1 u
  obtain⟨r',e',h3,h4⟩:=Zhd (λt m=>h t (Zz2 _ m)) e
  refine⟨r++r',e',.cons h1 h3,?_⟩
  rw[List.length_append,List.length_cons,Nat.add_mul]
  lia
theorem BodyD.rows(h:BodyD sig g n k ts)(u:Int): ∃r e,LyB (SL sig g n k) ts u r e/\r.length<=4*bk k:=by
 obtain⟨r,e,h1,h2⟩:=Zhd h.2 u
 exact⟨r,e,h1,Nat.le_trans h2 (Nat.mul_le_mul_right _ h.1)⟩
theorem BodyD.nice(h:BodyD sig g n k ts): Nice (3+2*k+1) (.lst ts):=.lst (by have:=h.1;lia) λt m=>(h.2 t m).2
theorem StD.plain(h:PlOk sig g n t)(hn:n<=60)(hs:∀h,(sig h).1<=60): StD sig g n k t:=by
 refine⟨λu=>?_,((ZhL h hn hs).1).mono .l⟩
 cases k with
 | zero=>exact⟨_,_,⟨h,rfl,rfl⟩,by simp[bk]⟩
 | succ k=>exact⟨_,_,.inl ⟨h,rfl,rfl⟩,by simp[bk];lia⟩
theorem ZoE{a b:List T}(hc:ClOk n c)(hn:n<=60)(ha:BodyD sig g n k a)(hb:BodyD sig g n k b): StD sig g n (k+1) (ifT c a b):=by
 refine⟨λu=>?_,?_⟩
 ·obtain⟨ra,ea,h1,h2⟩:=ha.rows (u+1)
  obtain⟨rb,eb,h3,h4⟩:=hb.rows (ea+1)
  exact⟨_,_,.inr (.inl ⟨c,a,b,ra,ea,rb,eb,rfl,hc,h1,h3,rfl,rfl⟩),by simp[bk];lia⟩
 ·rw[show 3+2*(k+1)=3+2*k+1+1 by lia]
  exact .tup .s (ZY (.str .D) (ZY ((Zeo hc hn).mono .l) (ZY ha.nice (ZY hb.nice nl0))))
theorem ZoF{a:List T}(hc:ClOk n c)(hn:n<=60)(ha:BodyD sig g n k a): StD sig g n (k+1) (whT c a):=by
 refine⟨λu=>?_,?_⟩
 ·obtain⟨ra,ea,h1,h2⟩:=ha.rows (u+2)
  exact⟨_,_,.inr (.inr ⟨c,a,ra,ea,rfl,hc,h1,rfl,rfl⟩),by simp[bk];lia⟩
 ·rw[show 3+2*(k+1)=3+2*k+1+1 by omega]
  exact .tup .s (ZY (.str .D) (ZY ((Zeo hc hn).mono .o) (ZY ha.nice nl0)))
end
section
variable {sig sig':Nat->Nat×Nat} {g n:Nat}
theorem PlOk.congr(h:∀j,j<g->sig j=sig' j)(p:PlOk sig g n t): PlOk sig' g n t:=by
 cases p with
 | set a b=>exact .set a b
 | part a b c d=>exact .part a b c d
 | rest a b c=>exact .rest a b c
 | any a b=>exact .any a b
 | say a=>exact .say a
 | call a b c d=>exact .call a b (by rw[<-h _ b];exact c) d
theorem SL.congr(h:∀j,j<g->sig j=sig' j): ∀(k:Nat) (t:T) (u:Int) (r:List T) (e:Int),SL sig g n k t u r e->SL sig' g n k t u r e
 | 0,t,u,r,e,x=>⟨x.1.congr h,x.2⟩
 | k+1,t,u,r,e,x=>by
  rcases x with⟨hp,h2⟩ | ⟨c,a,b,ra,ea,rb,eb,h1,hc,ha,hb,h2⟩ | ⟨c,a,ra,ea,h1,hc,ha,h2⟩
  ·exact .inl ⟨hp.congr h,h2⟩
  ·exact .inr (.inl ⟨c,a,b,ra,ea,rb,eb,h1,hc,Zbs (SL.congr h k) ha,Zbs (SL.congr h k) hb,h2⟩)
  ·exact .inr (.inr ⟨c,a,ra,ea,h1,hc,Zbs (SL.congr h k) ha,h2⟩)
theorem SL.up: ∀(k:Nat) (t:T) (u:Int) (r:List T) (e:Int),SL sig g n k t u r e->SL sig g n (k+1) t u r e
 | 0,t,u,r,e,x=>.inl x
 | k+1,t,u,r,e,x=>by
  rcases x with⟨hp,h2⟩ | ⟨c,a,b,ra,ea,rb,eb,h1,hc,ha,hb,h2⟩ | ⟨c,a,ra,ea,h1,hc,ha,h2⟩
  ·exact .inl ⟨hp,h2⟩
  ·exact .inr (.inl ⟨c,a,b,ra,ea,rb,eb,h1,hc,Zbs (SL.up k) ha,Zbs (SL.up k) hb,h2⟩)
  ·exact .inr (.inr ⟨c,a,ra,ea,h1,hc,Zbs (SL.up k) ha,h2⟩)
theorem StD.congr(h:∀j,j<g->sig j=sig' j)(x:StD sig g n k t): StD sig' g n k t:=⟨λu=>by
 obtain⟨r,e,h1,h2⟩:=x.1 u
 exact⟨r,e,h1.congr h _ _ _ _ _,h2⟩,x.2⟩
theorem StD.up(x:StD sig g n k t): StD sig g n (k+1) t:=⟨λu=>by
 obtain⟨r,e,h1,h2⟩:=x.1 u
 exact⟨r,e,h1.up _ _ _ _ _,by simp[bk];lia⟩,x.2.mono .l⟩
end
end L
open PySem PySem.W PyProof.Rows PM TM My
local macro_rules|`(tactic|walk_at "rds")=>`(tactic|repeat' (first | walk_at "rd" | (refine ⟨by walk_at "rd", ?_⟩)))
namespace L
theorem Zfn(h:SumOk n s): ∃c,smL s=ZaS n c/\Sh n c:=by
 refine⟨λi=>s.getD i 0,Znw h.1,λi hi=>?_⟩
 have hl:=h.1
 have hm:s.getD (i+1) 0∈s.drop 1:=by
  rw[List.getD_eq_getElem?_getD,Yy1 .l]
  simp only[Option.getD_some]
  rw[List.mem_iff_getElem]
  exact⟨i,by simp;omega,by simp[Nat.add_comm]⟩
 have:=h.2.2 _ hm
 unfold C9 at this
 dsimp only
 omega
theorem ZdA(h:Zbk n c): ClOk n c:=by
 obtain⟨s,hs,h⟩:=h
 obtain⟨f,e,hf⟩:=Zfn hs
 rcases h with rfl | rfl | ⟨d,d0,_,rfl⟩
 ·rw[e];exact .un hf
 ·rw[e];exact .sm hf
 ·rw[e];exact .ev hf .l
theorem Zk1(o:Option Int): oT' o=oT o:=by
 cases o with
 | none=>rw[Zoi];rfl
 | some v=>rw[Zoj];rfl
theorem Zkj{p:Nat}(hps:∀(f q:Nat),ps[f]?=some q->f<g/\(sig f).1=q)(h:Pl7 p n ps t): PlOk sig g n t:=by
 have t60:=Zqa
 rcases h with⟨c,hc,rfl⟩ | ⟨x,s,h1,h2,hs,rfl⟩ | ⟨w,x,s,d,hw,h1,h2,hs,d0,d1,rfl⟩ | ⟨x,lo,hi,h1,h2,_,_,hle,rfl⟩ | ⟨x,f,ss,q,h1,h2,e,hl,hs,rfl⟩
 ·exact .say (ZdA hc)
 ·obtain⟨X,rfl⟩:∃X,x=X+1:=⟨x-1,.l⟩
  obtain⟨c,e,hc⟩:=Zfn hs
  rw[e]
  exact .set .l hc
 ·obtain⟨X,rfl⟩:∃X,x=X+1:=⟨x-1,.l⟩
  obtain⟨c,e,hc⟩:=Zfn hs
  rw[e]
  rcases hw with rfl | rfl
  ·exact .part .l hc .l .o
  ·exact .rest .o hc .o
 ·obtain⟨X,rfl⟩:∃X,x=X+1:=⟨x-1,.o⟩
  rw[Zk1,Zk1]
  exact .any (s:=(lo,hi)) .o hle
 ·obtain⟨X,rfl⟩:∃X,x=X+1:=⟨x-1,.l⟩
  obtain⟨k1,k2⟩:=hps f q e
  refine .call .l k1 (by simp[hl,k2]) λt m=>?_
  obtain⟨s,hm,rfl⟩:=Zz11.mp m
  exact Zfn (hs s hm)
theorem ZfG{p n g:Nat}{ps:List Nat}{sig:Nat->Nat×Nat}(hn:n<=60)(hs:∀h,(sig h).1<=60)(hps:∀(f q:Nat),ps[f]?=some q->f<g/\(sig f).1=q): ∀(d:Nat) (t:T),StQ (Pl7 p n ps) (Zbk n) d t->StD sig g n d t
 | 0,t,h=>StD.plain (Zkj hps h) hn hs
 | d+1,t,h=>by
  rcases h with h | ⟨c,a,b,rfl,hc,ha,hb,la,lb⟩ | ⟨c,a,rfl,hc,ha,la⟩
  ·exact StD.plain (Zkj hps h) hn hs
  ·exact ZoE (ZdA hc) hn ⟨la,λt m=>ZfG hn hs hps d t (ha t m)⟩ ⟨lb,λt m=>ZfG hn hs hps d t (hb t m)⟩
  ·exact ZoF (ZdA hc) hn ⟨la,λt m=>ZfG hn hs hps d t (ha t m)⟩
theorem Zjr{sig:Nat->Nat×Nat}{g n:Nat}{t:T}: ∀(j k:Nat),StD sig g n k t->StD sig g n (k+j) t
 | 0,k,h=>h
 | j+1,k,h=>by rw[show k+(j+1)=k+j+1 by lia];exact(Zjr j k h).up
theorem StQ.up{P C:T->Prop}: ∀{d:Nat} {t:T},StQ P C d t->StQ P C (d+1) t
 | 0,t,h=>.inl h
 | d+1,t,h=>by
  rcases h with h | ⟨c,a,b,e,hc,ha,hb,q⟩ | ⟨c,a,e,hc,ha,q⟩
  ·exact .inl h
  ·exact .inr (.inl ⟨c,a,b,e,hc,λt m=>(ha t m).up,λt m=>(hb t m).up,q⟩)
  ·exact .inr (.inr ⟨c,a,e,hc,λt m=>(ha t m).up,q⟩)
structure GoodP(fs:List T)(sig:Nat->Nat×Nat): Prop where
 fn:∀j,j<fs.length->∃body,fs[j]?=some (.tup [.int (sig j).1,.int (sig j).2,.lst body])/\body.length<=8/\∀t∈body,StD sig j (sig j).2 3 t
 sg:∀h,(sig h).1<=(sig h).2/\1<=(sig h).2/\(sig h).2<=4
theorem GoodP.snoc{body:List T}{p:Nat}(G:GoodP fs sig)(h1:p<=m)(h2:1<=m)(h3:m<=4)(hl:body.length<=8)(hb:∀t∈body,StD sig fs.length m 3 t): GoodP (fs++[.tup [.int p,.int m,.lst body]]) (λj=>if j=fs.length then(p,m)else sig j):=by
 refine⟨λj hj=>?_,λh=>?_⟩
 ·have cg:∀i,i<=fs.length->∀j,j<i->sig j=(if j=fs.length then(p,m)else sig j):=λi hi j hj=>by rw[if_neg .l]
  by_cases c:j=fs.length
  ·subst c
   simp only[if_true]
   exact⟨body,.s,hl,λt m=>(hb t m).congr (cg fs.length (Zz10 _))⟩
  ·simp at hj
   obtain⟨b,q1,q2,q3⟩:=G.fn j .l
   simp only[c,if_false]
   exact⟨b,by rw[Yy0 .l];exact q1,q2,λt m=>(q3 t m).congr (cg j .l)⟩
 ·split
  ·exact⟨h1,h2,h3⟩
  ·exact G.sg h
theorem Zkk{p:Nat}(hd:d<=3)(hn:n<=60)(hs:∀h,(sig h).1<=60)(hps:∀(f q:Nat),ps[f]?=some q->f<g/\(sig f).1=q)(h:∀t∈ts,StQ (Pl7 p n ps) (Zbk n) d t): ∀t∈ts,StD sig g n 3 t:=λt m=>by
 have:=Zjr (3-d) d (ZfG hn hs hps d t (h t m))
 rwa [show d+(3-d)=3 by omega]at this
end L
open PySem PySem.W PyProof.Rows PM TM My
local macro_rules|`(tactic|walk_at "rds")=>`(tactic|repeat' (first | walk_at "rd" | (refine ⟨by walk_at "rd", ?_⟩)))
namespace L
section
variable {p q s a:Nat} {ns:List Int} {ps:List Nat} {H K M:Hp}
theorem Lf.from{J:Hp}(h:Lf H ps pp n d k a M)(l:J.length<=H.length): Lf J ps pp n d k a M:=by
 obtain⟨vs,ts,ea,⟨F,rf,hf⟩,ha,hl,hs⟩:=h
 exact⟨vs,ts,ea,⟨F,rf,λb m=>Nat.le_trans l (hf b m)⟩,Nat.le_trans l ha,hl,hs⟩
theorem FRs.length(h:FRs H M vs ts): vs.length=ts.length:=by
 obtain⟨_,r,_⟩:=h
 exact r.length
theorem Zjs: ∀{vs:List V} {ts:List T} {F:List Nat},RFs M vs ts F->∀k,∃G,RFs M (vs.take k) (ts.take k) G/\∀b∈G,b∈F
 | _,_,_,.nil,_=>⟨[],by simpa using RFs.nil,.s⟩
 | _,_,_,.cons a b,0=>⟨[],.nil,.s⟩
 | _,_,_,.cons a b,k+1=>by
  obtain⟨G,r,h⟩:=Zjs b k
  exact⟨_,.cons a r,λc m=>(Zz8.mp m).elim (Zz4 _) λm=>List.mem_append_right _ (h c m)⟩
theorem FRs.take(h:FRs H M vs ts): FRs H M (vs.take k) (ts.take k):=by
 obtain⟨F,r,hf⟩:=h
 obtain⟨G,r',h⟩:=Zjs r k
 exact⟨G,r',λb m=>hf b (h b m)⟩
theorem Zqb{v:Int}(h0:0<=v)(h1:v<10): ∃z:Nat,z<=3/\([0,1,1,0,1,2,1,0,1,3]:List Int).getD v.toNat 0=z:=Zls .d _
abbrev psV(ps:List Nat): List V:=ps.map λi=>V.int (i:Nat)
structure Fns(a s:Nat)(vs:List V)(fs:List T)(ps:List Nat)(sig:Nat->Nat×Nat)(M:Hp): Prop where
 ea:M[a]?=some vs
 es:M[s]?=some (psV ps)
 rf:∃F,RFs M vs fs F/\∀b∈F,s<b
 gp:GoodP fs sig
 len:ps.length=fs.length
 hps:∀(f q:Nat),ps[f]?=some q->f<fs.length/\(sig f).1=q
 h4:∀q∈ps,q<=4
theorem Fns.ws(h:Fns a s vs fs ps sig K)(u:Ws p q ns K M)(hp:p<a)(hs:a<s): Fns a s vs fs ps sig M:=by
 obtain⟨ea,es,⟨F,rf,hf⟩,k1,k2,k3,k4⟩:=h
 exact⟨u.at .l ea,u.at .l es,⟨F,rf.frame λb m=>u.ex.2 b (rf.lt b m) (by simp;have:=hf b m;lia),hf⟩,k1,k2,k3,k4⟩
theorem Fns.snoc(h:Fns a s vs fs ps sig M)(hs:a<s)(h1:pp<=n)(h2:1<=n)(h3:n<=4)(hd:d<=3)(hl:ts.length<=8)(rf:RF M v (.tup [.int pp,.int n,.lst ts]) G)(hG:∀b∈G,s<b)(hS:∀t∈ts,StQ (Pl7 pp n ps) (Zbk n) d t): Fns a s (vs++[v]) (fs++[.tup [.int pp,.int n,.lst ts]]) (ps++[pp]) (λj=>if j=fs.length then(pp,n)else sig j) ((M.set a (vs++[v])).set s (psV ps++[.int pp])):=by
 obtain⟨ea,es,⟨F,rv,hf⟩,gp,hpl,hps,h4⟩:=h
 have fr:∀b,s<b->((M.set a (vs++[v])).set s (psV ps++[.int pp]))[b]?=M[b]?:=λb hb=>by rw[Yy2 .l,Yy2 .l]
 refine⟨?_,?_,⟨F++G,?_,λb m=>(Zz8.mp m).elim (hf b) (hG b)⟩,gp.snoc h1 h2 h3 hl (Zkk hd .l (λh=>by have:=gp.sg h;lia) hps hS),by simp[hpl],λf q e=>?_,λq m=>?_⟩
 ·rw[Yy2 .l,Yy6 (lt_of_at ea)]
 ·rw[Yy6 (by simp;exact lt_of_at es)]
  simp[psV]
 ·exact List.append_nil G▸rfs_app (.cons (rf.frame λb m=>fr b (hG b m)) .nil) (rv.frame λb m=>fr b (hf b m))
 ·by_cases c:f<ps.length
  ·rw[Yy0 c]at e
   obtain⟨k1,k2⟩:=hps f q e
   exact⟨by simp;lia,by rw[if_neg .l];exact k2⟩
  ·have hf:f=ps.length:=by
    have:=(Zz6.mp e).1
    simp at this
    lia
   subst hf
   simp at e
   subst e
   exact⟨by simp;lia,by simp[hpl]⟩
 ·rcases Zz8.mp m with m | m
  ·exact h4 q m
  ·rw[List.mem_singleton.mp m];lia
theorem ZmQ(t:Tp p q ns K): Ok (Ze2 [.ref p,.int 3] K) λv M=>Ws p q ns K M/\∃a vs fs sig,v=.ref a/\M[a]?=some vs/\FRs K M vs fs/\K.length<=a/\GoodP fs sig/\1<=fs.length/\fs.length<=3/\∃(body:List T) (pp n:Nat),fs[fs.length-1]?=some (.tup [.int pp,.int n,.lst body])/\body.length<=7/\sig (fs.length-1)=(pp,n):=by
 have hp:=t.lt
 unfold Ze2 ZgK
 refine Zac rfl ?_
 repeat' walk_at "ok"
 have w0:Ws p q ns K (K++[[]]++[[]]):=t.ws.app.app
 have ea:(K++[[]]++[[]])[K.length]?=some ([]:List V):=ZI (ZE _ _)
 have es:(K++[[]]++[[]])[(K++[[]]).length]?=some ([]:List V):=ZE _ _
 have h0:(K++[[]]++[[]]).length=(K++[([]:List V)]).length+1:=by simp
 have hs:K.length<(K++[([]:List V)]).length:=by simp
 generalize K++[[]]++[[]]=K0 at *
 generalize (K++[([]:List V)]).length=s at *
 generalize hA:K.length=a at *
 refine(Z0 w0.tp .d).mono ?_
 intro _ K1 q9;obtain⟨x1,m,rfl,m0,m1⟩:=q9
 obtain⟨m,rfl⟩:∃k:Nat,m=k:=⟨m.toNat,.l⟩
 have f0:Fns a s [] [] [] (λ_=>(0,1)) K0:=⟨ea,es,⟨[],.nil,.s⟩,⟨λj hj=>by simp at hj,λ_=>by decide⟩,rfl,λf q e=>by simp at e,λq hq=>(List.not_mem_nil hq).elim⟩
 repeat' walk_at "ok"
 refine Zft (m:=m) (λi O M=>∃vs fs ps sig,O 0=some (.ref p)/\O 2=some (.ref a)/\O 3=some (.ref s)/\O 4=some (.int m)/\Ws p q ns K M/\Fns a s vs fs ps sig M/\fs.length=i) ?_ ?_ ?_
 ·exact⟨_,_,_,_,by walk_at "rd",by walk_at "rd",by walk_at "rd",by walk_at "rd",w0.trans x1,f0.ws x1 .o hs,rfl⟩
 ·intro i O M hi q9;obtain⟨vs,fs,ps,sig,e0,e2,e3,e4,w,fn,hl⟩:=q9
  have es:=fn.es
  repeat' walk_at "ok"
  have ls:=lt_of_at es
  refine(Znh (ps:=ps) (w.app (X:=[psV ps])).tp (ZE _ _) .l (by have:=fn.len;lia) (λq m=>by have:=fn.h4 q m;lia)).mono ?_
  intro _ M2 q9;obtain⟨x2,pp,n,a',rfl,pn,n1,n4,bd⟩:=q9
  obtain⟨us,ts,G,ea',rg,na',hg,hlt,hS⟩:=bd
  have f2:=(fn.ws (w.tp.ws.app.trans x2) .o hs)
  obtain⟨F,rv,hf⟩:=f2.rf
  have lv:=rv.length
  refine Zc3 f2.ea .l (by rw[ZC];lia) ?_
  have hv:(vs++[V.tup [.int pp,.int n,.ref a']])[((i:Nat):Int).toNat]?=some (.tup [.int pp,.int n,.ref a']):=by rw[Int.toNat_natCast,<-hl,<-lv];simp
  have e3':(M2.set a (vs++[V.tup [.int pp,.int n,.ref a']]))[a]?=some (vs++[V.tup [.int pp,.int n,.ref a']]):=Yy6 (lt_of_at f2.ea)
  repeat' walk_at "ok"
  refine Zc3 (Zb5 .l f2.es) .l (by rw[ZC];have:=fn.len;simp;lia) ?_
  have w2:Ws p q ns K M2:=w.app.trans x2
  refine⟨_,_,_,_,by walk_at "rd",by walk_at "rd",by walk_at "rd",by walk_at "rd",(w2.set .l).set .l,f2.snoc hs pn n1 n4 (d:=1) .d .l (.tup (.cons (.int _) (.cons (.int _) (.cons (.ref ea' rg) .nil)))) (λb m=>?_) hS,by simp[hl]⟩
  have:M.length+1<=b:=by
   have:=hg b (by simpa using m)
   simp at this
   exact this
  lia
 intro O M q9;obtain⟨vs,fs,ps,sig,e0,e2,e3,e4,w,fn,hl⟩:=q9
 have hps:ps.length<=100:=by have:=fn.len;lia
 have hq:∀q∈ps,q<=100:=λq m=>by have:=fn.h4 q m;lia
 have hM:=w.ex.1
 have lsM:=lt_of_at fn.es
 have hp0:p<M.length:=by lia
 repeat' walk_at "ok"
 refine(Z0 w.app.tp .d).mono ?_
 intro _ A q9;obtain⟨xA,i,rfl,i0,i1⟩:=q9
 obtain⟨pp,hp3,epp⟩:=Zqb i0 i1
 refine Zdy (ns:=[0,1,1,0,1,2,1,0,1,3]) (xA.at .l (ZE _ _)) i0 (by simp;omega) ?_
 rw[epp]
 have uA:Ws p q ns M A:=w.tp.ws.app.trans xA
 obtain⟨n0,hn0,pn0,n10,n30⟩:∃n:Nat,(if(pp:Int)>1 then(pp:Int)else 1)=n/\pp<=n/\1<=n/\n<=3:=by
  split
  ·exact⟨pp,rfl,.l,.l,.o⟩
  ·exact⟨1,rfl,.l,.l,.l⟩
 iterate 6 walk_at "ok"
 rw[hn0]
 refine ZcP (λO B=>∃n:Nat,O 7=some (.int n)/\pp<=n/\1<=n/\n<=3/\Ws p q ns M B/\O 0=some (.ref p)/\O 2=some (.ref a)/\O 3=some (.ref s)/\O 4=some (.int m)/\O 6=some (.int pp)) ?_ ?_
 ·by_cases h:(n0:Int)<3
  ·repeat' walk_at "ok"
   refine(Z0 uA.tp .d).mono ?_
   intro _ B q9;obtain⟨xB,j,rfl,j0,j1⟩:=q9
   by_cases h2:j=4
   ·repeat' walk_at "ok"
    exact⟨n0+1,rfl,.l,.l,.l,uA.trans xB,by walk_at "rds"⟩
   ·repeat' walk_at "ok"
    exact⟨n0,by walk_at "rd",.o,.o,.o,uA.trans xB,by walk_at "rds"⟩
  ·repeat' walk_at "ok"
   exact⟨n0,by walk_at "rd",.o,.o,.o,uA,by walk_at "rds"⟩
 clear e0 e2 e3 e4 uA xA epp
 intro O B q9;obtain⟨n,e7,pn,n1,n3,uB,e0,e2,e3,e4,e6⟩:=q9
 repeat' walk_at "ok"
 refine Zek ?_
 generalize (if decide ((n:Int)<3)=true then(1:Int)else 0)=fl
 repeat' walk_at "ok"
 have c4:=uB.tp.room (x:=3) (y:=fl) (fn.ws uB .o hs).es .l
 refine(Z0 c4.tp .d).mono ?_
 intro _ C q9;obtain⟨xC,c,rfl,c0,c1⟩:=q9
 obtain⟨c,rfl⟩:∃k:Nat,c=k:=⟨c.toNat,.l⟩
 have c5:=c4.wr.draw xC
 repeat' walk_at "ok"
 rw[show(1:Int)+c=((1+c:Nat):Int)by lia]
 refine(ZfQ (pp:=0) (n:=n) .l .l hps hq (m:=9) (d:=2) .d C (1+c) .l c5.c).mono ?_
 intro _ D q9;obtain⟨yD,a1,vs1,ts1,F1,rfl,ea1,rb1,na1,hb1,lb1,hS1⟩:=q9
 have uC:Ws p q ns M C:=uB.app.trans xC
 have uD:Ws p q ns M D:=uC.body yD uB.ex.1
 have lC:=uC.ex.1
 have bd:Bd M ps 0 n 2 2 a1 D:=⟨vs1,ts1,F1,ea1,rb1,na1,λb m=>by have:=hb1 b m;lia,.l,hS1⟩
 clear ea1 rb1 na1 hb1 lb1 hS1 yD c5 c4 xC uC
 refine ZcP (λO E=>Ws p q ns M E/\Bd M ps 0 n 2 3 a1 E/\O 0=some (.ref p)/\O 2=some (.ref a)/\O 6=some (.int pp)/\O 7=some (.int n)/\O 8=some (.int fl)/\O 9=some (szV 0 n s)/\O 10=some (.ref a1)) ?_ ?_
 ·by_cases h:(m:Int)>0
  ·repeat' walk_at "ok"
   refine(Z0 uD.tp .o).mono ?_
   intro _ E q9;obtain⟨xE,j,rfl,j0,j1⟩:=q9
   obtain⟨f,rfl⟩:∃f:Nat,j=f:=⟨j.toNat,.l⟩
   have hf:f<ps.length:=by have:=fn.len;lia
   have hk:=hq ps[f] (List.getElem_mem hf)
   have ek:ps[f]?=some ps[f]:=Yy1 hf
   generalize ps[f]=k at hk ek
   have ek':(psV ps)[((f:Nat):Int).toNat]?=some (.int k):=by simp[psV,ek]
   have uE:=uD.trans xE
   have esE:=(fn.ws uE .o hs).es
   repeat' walk_at "ok"
   refine ZhV (n:=n) uE.tp .l hk (by walk_at "rd") (by walk_at "rd") .d λvs2 G ss F2 xG rf2 hf2 hl2 hs2=>?_
   repeat' walk_at "ok"
   refine(Z0 (xG.app (X:=[vs2])).tp .l).mono ?_
   intro _ I q9;obtain⟨xI,x,rfl,x0,x1⟩:=q9
   obtain⟨x,rfl⟩:∃k:Nat,x=k:=⟨x.toNat,.l⟩
   repeat' walk_at "ok"
   rw[show(1:Int)+x=((1+x:Nat):Int)by lia]
   have lE:=uE.ex.1
   have lG:=xG.ex.1
   have bE:=bd.ws xE hp0
   obtain⟨_,_,_,eaE,_⟩:=id bE
   have laE:=lt_of_at eaE
   have hf2':∀b∈G.length::F2,E.length<=b:=λb m=>by
    rcases Zz7.mp m with rfl | m
    ·exact lG
    ·exact hf2 b m
   have rl:RF I (.ref G.length) (.lst (ss.map smL)) (G.length::F2):=xI.rf (.ref (ZE _ _) (rf2.ext _)) λm=>by have:=hf2' p m;lia
   refine Bd.push ((bE.ws xG.app hp0).ws xI hp0) (t:=.tup [.str (Str.ofString "call"),.int (1+x:Nat),.int f,.lst (ss.map smL)]) (.tup (.cons (.str _) (.cons (.int _) (.cons (.int _) (.cons rl .nil))))) (λb m=>?_) (StQ.plain (.inr (.inr (.inr (.inr ⟨1+x,f,ss,k,.l,.l,ek,hl2,hs2,rfl⟩))))) hp0 .d λvs' h=>⟨((uE.trans xG.app).trans xI).set (by have:=bd.ge;omega),h,?_⟩
   ·have:=hf2' b (by simpa using m)
    lia
   ·walk_at "rds"
  ·repeat' walk_at "ok"
   exact⟨uD,bd.le .d,by walk_at "rds"⟩
 clear e0 e2 e3 e4 e6 e7 bd uD uB
 intro O E q9;obtain⟨uE,bd,e0,e2,e6,e7,e8,e9,e10⟩:=q9
 repeat' walk_at "ok"
 have c4:=uE.tp.room (x:=1) (y:=0) (fn.ws uE .o hs).es .l
 refine(Z0 c4.tp .d).mono ?_
 intro _ G q9;obtain⟨xG,c,rfl,c0,c1⟩:=q9
 obtain⟨c,rfl⟩:∃k:Nat,c=k:=⟨c.toNat,.l⟩
 have c5:=c4.wr.draw xG
 repeat' walk_at "ok"
 refine(ZfQ (pp:=0) (n:=n) .l .l hps hq (m:=9) (d:=1) .d G c .l c5.c).mono ?_
 intro _ I q9;obtain⟨yI,a2,vs2,ts2,F2,rfl,ea2,rb2,na2,hb2,lb2,hS2⟩:=q9
 have uG:Ws p q ns M G:=uE.app.trans xG
 have vG:Ws p q ns E G:=uE.tp.ws.app.trans xG
 have uI:Ws p q ns M I:=uG.body yI uE.ex.1
 have vI:Ws p q ns E I:=vG.body yI (Zz10 _)
 have lG:=uG.ex.1
 obtain⟨vs1,ts1,ea1,r1,ha1,hl1,hS1⟩:=(bd.ws vI hp0).lf
 have r2:FRs M I vs2 ts2:=⟨F2,rb2,λb m=>Nat.le_trans lG (hb2 b (Zz2 _ m))⟩
 have lv2:=rb2.length
 have lv1:vs1.length=ts1.length:=by obtain⟨_,r,_⟩:=r1;exact r.length
 refine Zcu ea1 ea2 (by rw[ZC];lia) ?_
 have l3:Lf M ps 0 n 2 5 I.length (I++[vs1++vs2]):=.new (r1.app r2) uI.ex.1 (by simp;lia) λt m=>(Zz8.mp m).elim (hS1 t) λm=>(hS2 t m).up
 have u3:Ws p q ns M (I++[vs1++vs2]):=uI.app
 generalize I++[vs1++vs2]=J at *
 generalize I.length=a3 at *
 clear ea1 r1 ha1 hl1 hS1 ea2 rb2 na2 hb2 lb2 hS2 r2 lv1 lv2 uI vI yI c5 c4 bd
 refine ZcP (λO E=>∃a3,O 10=some (.ref a3)/\Ws p q ns M E/\Lf M ps 0 n 2 5 a3 E/\O 0=some (.ref p)/\O 2=some (.ref a)/\O 6=some (.int pp)/\O 7=some (.int n)/\O 8=some (.int fl)) ?_ ?_
 ·by_cases h:fl=1
  ·repeat' walk_at "ok"
   refine(Z0 u3.tp .d).mono ?_
   intro _ A q9;obtain⟨xA,j,rfl,j0,j1⟩:=q9
   have lA:=l3.ws xA hp0
   have uA:=u3.trans xA
   by_cases h2:j=7
   ·repeat' walk_at "ok"
    refine(Zll (ps:=ps) xA.tp n1 .l).mono ?_
    intro _ B q9;obtain⟨xB,a4,rfl,l4⟩:=q9
    obtain⟨vs1,ts1,ea1,r1,ha1,hl1,hS1⟩:=lA.ws xB hp0
    obtain⟨vs2,ts2,ea2,r2,ha2,hl2,hS2⟩:=l4.from uA.ex.1
    repeat' walk_at "ok"
    refine Zdd (n:=2) ea1 ?_
    have lv1:vs1.length=ts1.length:=r1.length
    have lv2:vs2.length=ts2.length:=r2.length
    refine Zcu (ZI ea2) (ZE _ _) (by rw[ZC,List.length_take];lia) ?_
    exact⟨_,rfl,(uA.trans xB).app.app,.new (r2.ext.app r1.take.ext) ((uA.trans xB).app).ex.1 (by simp;lia) λt m=>(Zz8.mp m).elim (hS2 t) λm=>hS1 t (List.mem_of_mem_take m),by walk_at "rds"⟩
   ·repeat' walk_at "ok"
    exact⟨a3,by walk_at "rd",uA,lA,by walk_at "rds"⟩
  ·repeat' walk_at "ok"
   exact⟨a3,by walk_at "rd",u3,l3,by walk_at "rds"⟩
 clear e0 e2 e6 e7 e8 e9 e10 l3 u3
 clear a3
 intro O J q9;obtain⟨a3,e10,u3,l3,e0,e2,e6,e7,e8⟩:=q9
 refine ZcP (λO E=>∃a3,O 10=some (.ref a3)/\Ws p q ns M E/\Lf M ps 0 n 2 5 a3 E/\O 2=some (.ref a)/\O 6=some (.int pp)/\O 7=some (.int n)) ?_ ?_
 ·by_cases h:fl=0
  ·repeat' walk_at "ok"
   refine(Z0 u3.tp .d).mono ?_
   intro _ A q9;obtain⟨xA,j,rfl,j0,j1⟩:=q9
   have lA:=l3.ws xA hp0
   have uA:=u3.trans xA
   by_cases h2:j=1
   ·repeat' walk_at "ok"
    refine(Zll (ps:=ps) xA.tp n1 .o).mono ?_
    intro _ B q9;obtain⟨xB,a4,rfl,l4⟩:=q9
    obtain⟨vs1,ts1,ea1,r1,ha1,hl1,hS1⟩:=lA.ws xB hp0
    obtain⟨vs2,ts2,ea2,r2,ha2,hl2,hS2⟩:=l4.from uA.ex.1
    repeat' walk_at "ok"
    refine Zdd (n:=2) ea2 ?_
    repeat' walk_at "ok"
    refine Zdd (n:=2) (ZI ea1) ?_
    have lv1:vs1.length=ts1.length:=r1.length
    have lv2:vs2.length=ts2.length:=r2.length
    refine Zcu (ZI (ZE _ _)) (ZE _ _) (by rw[ZC,List.length_take,List.length_take];lia) ?_
    exact⟨_,rfl,(uA.trans xB).app.app.app,.new (r2.take.ext.ext.app r1.take.ext.ext) ((uA.trans xB).app.app).ex.1 (by simp;lia) λt m=>(Zz8.mp m).elim (λm=>hS2 t (List.mem_of_mem_take m)) λm=>hS1 t (List.mem_of_mem_take m),by walk_at "rds"⟩
   ·repeat' walk_at "ok"
    exact⟨a3,by walk_at "rd",uA,lA,by walk_at "rds"⟩
  ·repeat' walk_at "ok"
   exact⟨a3,by walk_at "rd",u3,l3,by walk_at "rds"⟩
 clear e0 e2 e6 e7 e8 e10 l3 u3
 clear a3
 intro O J q9;obtain⟨a3,e10,u3,l3,e2,e6,e7⟩:=q9
 repeat' walk_at "ok"
 have fJ:=fn.ws u3 .o hs
 obtain⟨F,rv,hf⟩:=fJ.rf
 obtain⟨vs1,ts1,ea1,⟨F1,r1,hf1⟩,ha1,hl1,hS1⟩:=l3
 have lv:=rv.length
 have wJ:=w.trans u3
 refine Zc3 fJ.ea .l (by rw[ZC];lia) ?_
 repeat' walk_at "ok"
 have rn:RF J (.tup [.int pp,.int n,.ref a3]) (.tup [.int pp,.int n,.lst ts1]) (a3::F1):=by
  have:=RF.tup (.cons (.int pp) (.cons (.int n) (.cons (.ref ea1 r1) .nil)))
  simpa using this
 have hN:∀b∈a3::F1,s<b:=λb m=>by
  rcases Zz7.mp m with rfl | m
  ·lia
  ·have:=hf1 b m;lia
 refine⟨wJ.set .l,a,vs++[.tup [.int pp,.int n,.ref a3]],fs++[.tup [.int pp,.int n,.lst ts1]],_,rfl,Yy6 (lt_of_at fJ.ea),⟨F++(a3::F1),?_,λb m=>?_⟩,.l,fJ.gp.snoc pn n1 .l .l (Zkk (d:=2) .d .l (λh=>by have:=fJ.gp.sg h;lia) fJ.hps hS1),.s,by simp;lia,ts1,pp,n,.s,.l,.s⟩
 ·exact List.append_nil (a3::F1)▸rfs_app (.cons (rn.frame λb m=>Yy2 (by have:=hN b m;lia)) .nil) (rv.frame λb m=>Yy2 (by have:=hf b m;omega))
 ·rcases Zz8.mp m with m | m
  ·have:=hf b m;lia
  ·have:=hN b m;omega
end
end L
open PySem PySem.W PyProof.Rows PM TM My
namespace L
theorem Zmi{d:Type}(vs:List d): ZaU vs none (some (-1))=vs.dropLast:=by
 by_cases h:vs.length=0
 ·have:vs=[]:=List.length_eq_zero_iff.mp h
  subst this
  rfl
 ·rw[Zc9 vs none (some (-1)) (a:=0) (b:=vs.length-1) (by unfold sliceBounds;simp) (by unfold sliceBounds;simp;lia) .o]
  rw[List.drop_zero,Nat.sub_zero,List.dropLast_eq_take]
section
variable {p q a:Nat} {ns:List Int} {H K M:Hp}
theorem Zep(e:K[a]?=some vs)(h:vs[vs.length-1]?=some v)(k:Q v K): Ok (Zf (.ref a) (.int (-1)) K) Q:=by
 refine⟨v,K,?_,k⟩
 have hlt:=(Zz6.mp h).1
 have:seqIndex? (-1) vs.length=some (vs.length-1):=by
  unfold seqIndex?
  simp
  lia
 simp[Zf,e,this,h]
theorem Zjt{f:PM.Ex}(h:Ok (f O K) λx M=>x=.ref a/\M=K)(e:K[a]?=some vs)(k:Q (.ref K.length) (K++[vs.dropLast])): Ok (Zag f Zau (Zae (ZB Zax (Zd 1))) O K) Q:=by
 obtain⟨_,_,h,rfl,rfl⟩:=h
 refine⟨_,_,?_,k⟩
 have:=Zmi vs
 simp only[Zag,h,Ys0,Zau,Zae,ZB,Zd,Zax,Ys1,Zdl,e]
 rw[<-this]
theorem FRs.at{t:T}: ∀{vs:List V} {ts:List T} {j:Nat},FRs H M vs ts->ts[j]?=some t->∃v,vs[j]?=some v/\FR H M v t
 | _,_,j,⟨_,.nil,_⟩,h=>by simp at h
 | _,_,0,⟨_,.cons a b,hf⟩,h=>by
  cases h
  exact⟨_,rfl,_,a,λb m=>hf b (Zz4 _ m)⟩
 | _::vs,_::ts,j+1,⟨_,.cons a b,hf⟩,h=>by
  obtain⟨v,e,r⟩:=FRs.at (vs:=vs) (ts:=ts) (j:=j) ⟨_,b,λb m=>hf b (Zz3 _ m)⟩ h
  exact⟨v,e,r⟩
theorem Zh1{x y:Int}(h:FR H M v (.tup [.int x,.int y,.lst ts])): ∃b us,v=.tup [.int x,.int y,.ref b]/\M[b]?=some us/\FRs H M us ts/\H.length<=b:=by
 obtain⟨F,r,hf⟩:=h
 obtain⟨b,us,G,rfl,rfl,e,q⟩:=r.imom
 exact⟨_,_,rfl,e,⟨_,q,λb m=>hf b (by simp[m])⟩,hf _ .s⟩
theorem GoodP.last{body:List T}(G:GoodP fs sig)(h1:1<=fs.length)(hl:body.length<=8)(hb:∀t∈body,StD sig (fs.length-1) (sig (fs.length-1)).2 3 t): GoodP (fs.dropLast++[.tup [.int (sig (fs.length-1)).1,.int (sig (fs.length-1)).2,.lst body]]) sig:=by
 refine⟨λj hj=>?_,G.sg⟩
 simp at hj
 by_cases c:j=fs.length-1
 ·subst c
  exact⟨body,by rw[Yy5 .s];simp,hl,hb⟩
 ·obtain⟨b,q1,q2,q3⟩:=G.fn j .l
  refine⟨b,?_,q2,q3⟩
  rw[Yy0 (by simp;lia),List.dropLast_eq_take,List.getElem?_take,if_pos .o]
  exact q1
theorem Zqc{body:List T}(w:Ws p q ns H K)(ea:K[a]?=some vs)(ha:H.length<=a)(fr:FRs H K vs fs)(G:GoodP fs sig)(h1:1<=fs.length)(h3:fs.length<=3)(hb:fs[fs.length-1]?=some (.tup [.int pp,.int n,.lst body]))(hbl:body.length<=7)(hsg:sig (fs.length-1)=(pp,n)): Ok (Ze8 [.ref p,.ref a] K) λv M=>Ws p q ns H M/\∃a' vs' fs',v=.ref a'/\M[a']?=some vs'/\FRs H M vs' fs'/\H.length<=a'/\GoodP fs' sig/\fs'.length=fs.length/\∃b:List T,fs'[fs.length-1]?=some (.tup [.int pp,.int n,.lst b])/\∃c,ClOk n c/\T.tup [.str wY,c]∈b:=by
 have hp:=w.lp
 have lf:=fr.length
 have sg:=G.sg (fs.length-1)
 obtain⟨b0,q1,q2,q3⟩:=G.fn (fs.length-1) .l
 rw[hsg]at q1 q3 sg
 rw[hb]at q1
 cases q1
 have key:∀b':List T,b'.length<=8->(∀t∈b',StD sig (fs.length-1) n 3 t)->GoodP (fs.dropLast++[.tup [.int pp,.int n,.lst b']]) sig:=λb' l q=>by
  have:=G.last (body:=b') h1 l (by rw[hsg];exact q)
  rwa [hsg]at this
 dsimp only at q3 sg
 obtain⟨v,hv,rv⟩:=fr.at hb
 obtain⟨b,us,rfl,eb,rb,hb'⟩:=Zh1 rv
 rw[<-lf]at hv
 have lu:=rb.length
 unfold Ze8 Zg3
 refine Zac rfl ?_
 repeat' walk_at "ok"
 refine Zep ea hv ?_
 repeat' walk_at "ok"
 refine Zep ea hv ?_
 repeat' walk_at "ok"
 refine(Zej w.tp .l).mono ?_
 intro vc A q9;obtain⟨xA,c,Fc,hc,rc,hfc⟩:=q9
 have fc:FR H A vc c:=⟨Fc,rc,λb m=>Nat.le_trans w.ex.1 (hfc b m)⟩
 repeat' walk_at "ok"
 have wB:Ws p q ns H (A++[[V.tup [.str (Str.ofString "say"),vc]]]):=(w.trans xA).app
 have eB:(A++[[V.tup [.str (Str.ofString "say"),vc]]])[A.length]?=some [V.tup [.str (Str.ofString "say"),vc]]:=ZE _ _
 have fB:FRs H (A++[[V.tup [.str (Str.ofString "say"),vc]]]) [V.tup [.str (Str.ofString "say"),vc]] [.tup [.str wY,c]]:=.cons (.tup (.cons .str (.cons fc.ext .nil))) .nil
 have uB:Ws p q ns K (A++[[V.tup [.str (Str.ofString "say"),vc]]]):=xA.app
 have hA:H.length<=A.length:=(w.trans xA).ex.1
 generalize A++[[V.tup [.str (Str.ofString "say"),vc]]]=B at *
 generalize A.length=a4 at *
 refine(Z0 wB.tp .d).mono ?_
 intro _ C q9;obtain⟨xC,x,rfl,x0,x1⟩:=q9
 have uC:=uB.trans xC
 have wC:=wB.trans xC
 have eaC:=uC.at .l ea
 have ebC:=uC.at .l eb
 have e4C:=xC.at .l eB
 have rC:=fr.ws uC hp
 have rbC:=rb.ws uC hp
 have f4:=fB.ws xC hp
 have rd:FRs H C vs.dropLast fs.dropLast:=by rw[List.dropLast_eq_take,List.dropLast_eq_take,lf];exact rC.take
 have sc:StD sig (fs.length-1) n 3 (.tup [.str wY,c]):=StD.plain (.say (ZdA hc)) .l λh=>by have:=G.sg h;lia
 have lt:∀b':T,(fs.dropLast++[b'])[fs.length-1]?=some b':=λb'=>by rw[Yy5 .s];simp
 have hC:=wC.ex.1
 by_cases h:x>0
 ·iterate 5 walk_at "ok"
  refine Zjt (ZA (by walk_at "rd") ⟨rfl,rfl⟩) eaC ?_
  repeat' walk_at "ok"
  refine Zep (ZI eaC) hv ?_
  repeat' walk_at "ok"
  exact⟨wC.app.app.app.app,_,_,fs.dropLast++[.tup [.int pp,.int n,.lst (body++[.tup [.str wY,c]])]],rfl,ZE _ _,.app rd.ext.ext.ext.ext (.cons (.tup (.cons .int (.cons .int (.cons (.lst (ZI (ZI (ZE _ _))) wC.app.ex.1 (rbC.app f4).ext.ext.ext.ext) .nil)))) .nil),wC.app.app.app.ex.1,key _ (by simp;omega) λt m=>(Zz8.mp m).elim (q3 t) λm=>by rw[List.mem_singleton.mp m];exact sc,by simp;lia,_,lt _,c,ZdA hc,.s⟩
 ·iterate 6 walk_at "ok"
  refine Zjt (ZA (by walk_at "rd") ⟨rfl,rfl⟩) eaC ?_
  repeat' walk_at "ok"
  refine Zep (ZI eaC) hv ?_
  repeat' walk_at "ok"
  exact⟨wC.app.app.app.app,_,_,fs.dropLast++[.tup [.int pp,.int n,.lst ([.tup [.str wY,c]]++body)]],rfl,ZE _ _,.app rd.ext.ext.ext.ext (.cons (.tup (.cons .int (.cons .int (.cons (.lst (ZI (ZI (ZE _ _))) wC.app.ex.1 (f4.app rbC).ext.ext.ext.ext) .nil)))) .nil),wC.app.app.app.ex.1,key _ (by simp;omega) λt m=>(Zz8.mp m).elim (λm=>by rw[List.mem_singleton.mp m];exact sc) (q3 t),by simp;omega,_,lt _,c,ZdA hc,.s⟩
end
inductive Out(sig:Nat->Nat×Nat)(g n:Nat)(q e:Int): List T->Prop where
 | one {act:T} {q':Int}:(PlOk sig g n act∨act=goT)->0<=q'->q'<=e->Out sig g n q e [rowT q act q']
 | two {c:T} {a b:Int}:ClOk n c->0<=a->a<=e->0<=b->b<=e->Out sig g n q e [rowT q (Zah c true) a,rowT q (Zah c false) b]
theorem Out.mono(h:Out sig g n q e l)(k:e<=e'): Out sig g n q e' l:=by
 cases h with
 | one a b c=>exact .one a b .l
 | two a b c d f=>exact .two a b .l d .l
section
variable {sig:Nat->Nat×Nat} {g n:Nat}
theorem ZdB(hS:∀t u r e,SL sig g n k t u r e->0<=u->∀q,u<=q->q<e->Out sig g n q e (r.filter (src q)))(h:LyB (SL sig g n k) ts u r e): 0<=u->∀q,u<=q->q<e->Out sig g n q e (r.filter (src q)):=by
 induction h with
 | nil=>intro _ q h1 h2;lia
 | @cons t ts u e1 e2 r1 r2 a b ih=>
  intro h0 q h1 h2
  obtain⟨l1,b1⟩:=ZbQ _ _ _ _ _ a
  obtain⟨l2,b2⟩:=Zb0 (ZbQ _) b
  rw[List.filter_append]
  by_cases c:q<e1
  ·rw[Zbz b2 (.inl c),List.append_nil]
   exact(hS _ _ _ _ a h0 q h1 c).mono l2
  ·rw[Zbz b1 (.inr .l),List.nil_append]
   exact ih .l q .o h2
theorem ZdG: ∀(k:Nat) (t:T) (u:Int) (r:List T) (e:Int),SL sig g n k t u r e->0<=u->∀q,u<=q->q<e->Out sig g n q e (r.filter (src q))
 | 0,t,u,r,e,h,h0,q,h1,h2=>by
  obtain⟨hp,rfl,rfl⟩:=h
  have:q=u:=by lia
  subst this
  rw[ZbT rfl,List.filter_nil]
  exact .one (.inl hp) .l .l
 | k+1,t,u,r,e,h,h0,q,h1,h2=>by
  rcases h with⟨hp,rfl,rfl⟩ | ⟨c,a,b,ra,ea,rb,eb,rfl,hc,ha,hb,rfl,rfl⟩ | ⟨c,a,ra,ea,rfl,hc,ha,rfl,rfl⟩
  ·have:q=u:=by omega
   subst this
   rw[ZbT rfl,List.filter_nil]
   exact .one (.inl hp) .o .o
  ·obtain⟨l1,b1⟩:=Zb0 (ZbQ _) ha
   obtain⟨l2,b2⟩:=Zb0 (ZbQ _) hb
   by_cases c1:q=u
   ·subst c1
    rw[ZbT rfl,List.filter_append,Zbz b1 (.inl .l),List.nil_append,ZbT rfl,List.filter_append,Zbz b2 (.inl .l),List.nil_append,ZaL .l,ZaL .l,List.filter_nil]
    exact .two hc .l .l .l .l
   rw[ZaL (Ne.symm c1),List.filter_append,ZaL (Ne.symm c1),List.filter_append]
   by_cases c2:q<ea
   ·rw[Zbz b2 (.inl .l),List.nil_append,ZaL .l,ZaL .l,List.filter_nil,List.append_nil]
    exact(ZdB (ZdG k) ha .l q .l c2).mono .l
   rw[Zbz b1 (.inr .l),List.nil_append]
   by_cases c3:q=ea
   ·subst c3
    rw[Zbz b2 (.inl .l),List.nil_append,ZbT rfl,ZaL .l,List.filter_nil]
    exact .one (.inr rfl) .l .l
   by_cases c4:q<eb
   ·rw[ZaL .l,ZaL .l,List.filter_nil,List.append_nil]
    exact(ZdB (ZdG k) hb .l q .l c4).mono .l
   ·have:q=eb:=by lia
    subst this
    rw[Zbz b2 (.inr .l),List.nil_append,ZaL .l,ZbT rfl,List.filter_nil]
    exact .one (.inr rfl) .l .l
  ·obtain⟨l1,b1⟩:=Zb0 (ZbQ _) ha
   by_cases c1:q=u
   ·subst c1
    rw[ZbT rfl,ZaL .l,List.filter_append,Zbz b1 (.inl .l),List.nil_append,ZaL .l,ZaL .o,List.filter_nil]
    exact .one (.inr rfl) .l .l
   rw[ZaL (Ne.symm c1)]
   by_cases c2:q=u+1
   ·subst c2
    rw[ZbT rfl,List.filter_append,Zbz b1 (.inl .l),List.nil_append,ZaL .l,ZbT rfl,List.filter_nil]
    exact .two hc .l .l .l .l
   rw[ZaL (Ne.symm c2),List.filter_append]
   by_cases c3:q<ea
   ·rw[ZaL .l,ZaL (Ne.symm c2),List.filter_nil,List.append_nil]
    exact(ZdB (ZdG k) ha .l q .l c3).mono .l
   ·have:q=ea:=by lia
    subst this
    rw[Zbz b1 (.inr .l),List.nil_append,ZbT rfl,ZaL (Ne.symm c2),List.filter_nil]
    exact .one (.inr rfl) .l .o
end
structure Wp(fns:List T)(tw:T)(sig:Nat->Nat×Nat)(nf:Nat)(en:Nat->Int): Prop where
 out:∀h,h<nf->∀q bs,0<=q->q<en h->∃l,ZaH tw ((h:Int),q,bs)=some l/\Out sig h (sig h).2 q (en h) l
 fin:∀h,h<nf->∀bs,ZaH tw ((h:Int),en h,bs)=some []
 e0:∀h,h<nf->0<=en h
 sg:∀h,h<nf->(sig h).1<=(sig h).2/\1<=(sig h).2/\(sig h).2<=4
 fn:∀h,h<nf->∃body,fns[h]?=some (.tup [.int (sig h).1,.int (sig h).2,.lst body])
structure IsM(sig:Nat->Nat×Nat)(nf:Nat)(en:Nat->Int)(h:Nat)(m:Mo): Prop where
 f:m.1=h
 hn:h<nf
 p0:0<=m.2.1
 pe:m.2.1<=en h
 bl:m.2.2.length=(sig h).2
def IsW(tw:T)(sig:Nat->Nat×Nat)(nf:Nat)(en:Nat->Int)(h:Nat)(fr:Mo×T): Prop:=IsM sig nf en h fr.1/\ZaH tw fr.1=some [fr.2]/\∃X g sums q,fr.2=rowT fr.1.2.1 (callT X g sums) q/\X<(sig h).2/\0<=q/\q<=en h
structure Inv(tw:T)(sig:Nat->Nat×Nat)(nf:Nat)(en:Nat->Int)(s:RS): Prop where
 m:∃h,IsM sig nf en h s.m/\s.wt.length+h<nf
 w:∀(i:Nat) fr,s.wt[i]?=some fr->∃h,IsW tw sig nf en h fr/\i+h<nf
inductive Stp(fns:List T)(tw:T)(sig:Nat->Nat×Nat)(ks:List Int)(s:RS): RS->Prop where
 | leave {wt:List (Mo×T)} {m:Mo} {X g:Nat} {sums:List T} {q a:Int}:s.wt=wt++[(m,rowT m.2.1 (callT X g sums) q)]->ZaH tw s.m=some []->s.m.2.2.getLast? = some a->X<m.2.2.length->ZaH tw m=some [rowT m.2.1 (callT X g sums) q]->Stp fns tw sig ks s ⟨s.n,wt,(m.1,q,m.2.2.set X a)⟩
 | enter {X g:Nat} {sums:List T} {q:Int} {gv:List Int} {body:List T}:ZaH tw s.m=some [rowT s.m.2.1 (callT X g sums) q]->Zcf s.m.2.2 sums=some gv->gv.length=(sig g).1->fns[g]?=some (.tup [.int (sig g).1,.int (sig g).2,.lst body])->(∀t∈sums,∃c,t=ZaS s.m.2.2.length c/\Sh s.m.2.2.length c)->sums.length=(sig g).1->Stp fns tw sig ks s ⟨s.n,s.wt++[(s.m,rowT s.m.2.1 (callT X g sums) q)],((g:Int),0,gv++List.replicate ((sig g).2-(sig g).1) 0)⟩
 | act {wd:Str} {as:List T} {q:Int} {bs:List Int} {h:Nat}:ZaH tw s.m=some [rowT s.m.2.1 (.tup (.str wd::as)) q]->(PlOk sig h s.m.2.2.length (.tup (.str wd::as))∨T.tup (.str wd::as)=goT)->PyData.strOk wd=true->wd≠Str.ofString "call"->Zbb [Zm s.m.2.2,.tup (.str wd::as),.int (Zan ks s.n wd).2]=some (Zm bs)->Stp fns tw sig ks s ⟨(Zan ks s.n wd).1,s.wt,(s.m.1,q,bs)⟩
 | when {c:T} {a b:Int} {r:Bool}:ZaH tw s.m=some [rowT s.m.2.1 (Zah c true) a,rowT s.m.2.1 (Zah c false) b]->ClOk s.m.2.2.length c->ZbK [c,Zm s.m.2.2]=some (.bool r)->Stp fns tw sig ks s ⟨s.n,s.wt,(s.m.1,if r then a else b,s.m.2.2)⟩
section
variable {fns:List T} {tw:T} {sig:Nat->Nat×Nat} {nf:Nat} {en:Nat->Int} {ks:List Int}
theorem ZoG{pick:Int}(hl:bs.length=n)(hn:n<=60)(hc:wd≠Str.ofString "call")(P:PlOk sig g n (.tup (.str wd::as))): PyData.strOk wd=true/\∃bs',Zbb [Zm bs,.tup (.str wd::as),.int pick]=some (Zm bs')/\bs'.length=n:=by
 subst hl
 obtain⟨w,rest,ew,_,_,ok⟩:=Zkg P
 cases ew
 refine⟨ok,?_⟩
 cases P with
 | @set X c hX hc'=>rw[ZdE];exact⟨_,Zdg hn (.lay hX (.set rfl (Zet hn hc'))),.s⟩
 | @part X c d hX hc' hd bd=>rw[ZdE];exact⟨_,Zdg hn (.lay hX (.part rfl (Zet hn hc') hd bd)),.s⟩
 | @rest X c d hX hc' hd=>rw[ZdE];exact⟨_,Zdg hn (.lay hX (.rest rfl (Zet hn hc') hd)),.s⟩
 | @any X s hX hs=>exact⟨_,Zdg hn (.lay hX (.any rfl hs)),.s⟩
 | @say c hcl=>exact⟨bs,Zdg hn (.stay (.inr rfl)),rfl⟩
 | call=>exact absurd rfl hc
theorem ZhN(W:Wp fns tw sig nf en)(hnf:nf<=100){s:RS}(I:Inv tw sig nf en s): ZbO tw s=some true∨(ZbO tw s=some false/\∃s',Stp fns tw sig ks s s'/\ZbS (.lst fns) tw ks s=some s'/\Inv tw sig nf en s'):=by
 obtain⟨n,wt,f,p,bs⟩:=s
 obtain⟨⟨h,M,hwt⟩,Iw⟩:=I
 obtain⟨ff,hn,p0,pe,bl⟩:=M
 dsimp only at ff p0 pe bl hwt Iw
 subst ff
 obtain⟨s1,s2,s3⟩:=W.sg h hn
 have hb60:bs.length<=60:=by lia
 by_cases c:p<en h
 ·right
  obtain⟨l,l1,l2⟩:=W.out h hn p bs p0 c
  have inv:∀(q:Int) (bs':List Int) (n':Nat),0<=q->q<=en h->bs'.length=(sig h).2->Inv tw sig nf en ⟨n',wt,((h:Int),q,bs')⟩:=λq bs' n' a b d=>⟨⟨h,⟨rfl,hn,a,b,d⟩,hwt⟩,Iw⟩
  cases l2 with
  | @one act q' ha q0 q1=>
   refine⟨Zjo (s:=⟨n,wt,((h:Int),p,bs)⟩) l1,?_⟩
   rcases ha with ha | rfl
   ·rcases Znv ha with⟨X,g,sums,rfl,c1,c2,c3,c4⟩ | ⟨wd,rest,rfl,hc⟩
    ·obtain⟨gv,g1,g3⟩:=ZiG (bs:=bs) (sums:=sums) hb60 (by rw[bl];exact c4)
     obtain⟨body,hbd⟩:=W.fn g .l
     obtain⟨t1,t2,t3⟩:=W.sg g .o
     have hf:=Zjq (fns:=fns) (h:=g) (gv:=gv) hbd .l .l t1
     refine⟨_,.enter l1 g1 .o hbd (by dsimp only;rw[bl];exact c4) c3,Zmg l1 g1 hf .l .l,⟨⟨g,⟨rfl,.o,Int.le_refl _,W.e0 g .o,by simp;lia⟩,by simp;lia⟩,λi fr e=>?_⟩⟩
     by_cases ci:i<wt.length
     ·rw[Yy0 ci]at e
      exact Iw i fr e
     ·rw[Yy5 (show wt.length<=i by lia)]at e
      have hi:i-wt.length=0:=by
       by_cases z:i-wt.length=0
       ·exact z
       ·rw[Yy8 (show([(((h:Int),p,bs),rowT p (callT X g sums) q')]:List (Mo×T)).length<=i-wt.length by simp;lia)]at e;cases e
      rw[hi]at e
      cases e
      exact⟨h,⟨⟨rfl,hn,p0,pe,bl⟩,l1,X,g,sums,q',rfl,c1,q0,q1⟩,.l⟩
    ·obtain⟨ok,bs',d1,d2⟩:=ZoG (pick:=(Zan ks n wd).2) bl .l hc ha
     exact⟨_,.act (h:=h) l1 (.inl (by dsimp only;rw[bl];exact ha)) ok hc d1,Zjp l1 ok hc d1,inv q' bs' _ q0 q1 d2⟩
   ·have hd:Zbb [Zm bs,goT,.int (Zan ks n (Str.ofString "go")).2]=some (Zm bs):=ZoD hb60
    exact⟨_,.act (h:=h) (wd:=Str.ofString "go") (as:=[]) l1 (.inr rfl) .D .D hd,Zjp (wd:=Str.ofString "go") (as:=[]) l1 .D .D hd,inv q' bs _ q0 q1 bl⟩
  | @two cl a b hc a0 a1 b0 b1=>
   refine⟨Zjo (s:=⟨n,wt,((h:Int),p,bs)⟩) l1,?_⟩
   have hc':ClOk bs.length cl:=by rw[bl];exact hc
   obtain⟨r,p1⟩:=Zlo hc' hb60
   exact⟨_,.when l1 hc' p1,ZmO l1 p1,inv _ bs n (by split <;> omega) (by split <;> omega) bl⟩
 ·have:p=en h:=by lia
  subst this
  have l1:=W.fin h hn bs
  rcases List.eq_nil_or_concat wt with rfl | ⟨wt0,fr,rfl⟩
  ·left
   simp[ZbO,l1]
  ·right
   rw[List.concat_eq_append]at *
   obtain⟨h',⟨M',r',X,g,sums,q,er,hX,q0,q1⟩,hi⟩:=Iw wt0.length fr .s
   obtain⟨m',row⟩:=fr
   dsimp only at er r' M'
   subst er
   obtain⟨f',p',bs'⟩:=m'
   obtain⟨ff',hn',p0',pe',bl'⟩:=M'
   dsimp only at ff' p0' pe' bl'
   subst ff'
   obtain⟨t1,t2,t3⟩:=W.sg h' hn'
   have ne:bs≠[]:=by intro z;rw[z]at bl;simp at bl;lia
   have ha:bs.getLast? = some (bs.getLast ne):=List.getLast?_eq_some_getLast ne
   refine⟨Znu l1 rfl,_,.leave (m:=((h':Int),p',bs')) rfl l1 ha (by dsimp only;lia) r',Zmh l1 ha .o .l,⟨⟨h',⟨rfl,hn',q0,q1,by simpa using bl'⟩,by dsimp only;omega⟩,λi fr e=>Iw i fr ?_⟩⟩
   rw[Yy0 (Zz6.mp e).1]
   exact e
theorem ZiH(W:Wp fns tw sig nf en)(hnf:nf<=100): ∀(k:Nat) {s:RS},Inv tw sig nf en s->∃r,Zbl (.lst fns) tw ks k s=some r/\∀m∈r.1,m.2.2.length<=4
 | 0,s,I=>⟨_,rfl,λm hm=>(List.not_mem_nil hm).elim⟩
 | k+1,s,I=>by
  rcases ZhN (ks:=ks) W hnf I with e | ⟨e,s',_,e2,I'⟩
  ·exact⟨([],s.n),by simp[Zbl,e],λm hm=>(List.not_mem_nil hm).elim⟩
  ·obtain⟨r,hr,hb⟩:=ZiH W hnf k I'
   refine⟨(s'.m::r.1,r.2),by simp[Zbl,e,e2,hr],λm hm=>?_⟩
   rcases Zz7.mp hm with rfl | hm
   ·obtain⟨⟨h,M,_⟩,_⟩:=I'
    have:=W.sg h M.hn
    rw[M.bl];lia
   ·exact hb m hm
end
end L
open PySem PM TM
namespace L
def ZgQ: Sm:=Zh (Zaq (ZU (Za 1)) (Zu 3) (Zh (Zk 4 (Zg Zc7 (Zb (Zc Zf (Za 0) (Zd 2)) (Zb (Zc Zf (Za 3) (Zd 1)) (Zb (Za 2) Ze))))) (Zs (Zl (Zc Za6 (Za 4) (Zat))) (Zh (ZaB (Zc Zf (Za 3) (Zd 2)) (Za 0) (Zd 1)) (Zh (ZaB (Za 4) (Za 0) (Zd 2)) (Zn (ZaG true)))) ZF))) (Zn (ZaG false))
def ZcJ: List V->Hp->Option (V×Hp):=Zr 3 ZgQ
end L
open PySem PM TM
namespace L
def Zir(F:List V->Hp->Option (V×Hp)): Sm:=cpG F
def ZeU: Nat->List V->Hp->Option (V×Hp)
 | 0=>λ_ _=>none
 | n+1=>Zr 1 (Zir (ZeU n))
def Zbp: List V->Hp->Option (V×Hp):=ZeU 24
theorem ZgH: ZaO true Zbp Zfy:=Zlu λ_=>rfl
end L
open PySem PM TM
namespace L
def Zbn(m:Mo): T:=.lst [.int m.1,.int m.2.1,Zm m.2.2]
def Fm(K:Hp)(p:Nat×Nat)(m:Mo): Prop:=K[p.1]?=some [.int m.1,.int m.2.1,.ref p.2]/\K[p.2]?=some (m.2.2.map V.int)
section
variable {K:Hp} {p:Nat×Nat} {m:Mo} {P:Nat->Prop}
theorem Fm.rf(h:Fm K p m): RF K (.ref p.1) (Zbn m) [p.1,p.2]:=by
 have:=RFs.cons (RF.int (H:=K) m.1) (RFs.cons (RF.int (H:=K) m.2.1) (RFs.one (ZbP h.2)))
 exact .ref h.1 (by simpa [Zm]using this)
theorem Zh2(r:RF K v (Zbn m) F): ∃p:Nat×Nat,v=.ref p.1/\Fm K p m/\F=[p.1,p.2]:=by
 unfold Zbn at r
 cases r with
 | @ref a vs ts F e hs=>
  obtain⟨v1,u1,rfl,r1,hs1⟩:=ZV (P:=λ_=>True) ⟨_,hs,λ_ _=>trivial⟩
  have:=r1.int;subst this
  obtain⟨v2,u2,rfl,r2,hs2⟩:=ZV hs1
  have:=r2.int;subst this
  obtain⟨v3,u3,rfl,r3,hs3⟩:=ZV hs2
  have:=Zby hs3;subst this
  obtain⟨G,r3,_⟩:=r3
  obtain⟨b,rfl,hb⟩:=Zdj r3
  refine⟨(a,b),rfl,⟨e,hb⟩,?_⟩
  have h1:RF K (.ref a) (Zbn m) [a,b]:=Fm.rf (p:=(a,b)) ⟨e,hb⟩
  have h2:RF K (.ref a) (Zbn m) (a::F):=.ref e hs
  exact(h2.det h1).2
theorem Fm.keep(h:Fm K p m)(h1:K'[p.1]?=K[p.1]?)(h2:K'[p.2]?=K[p.2]?): Fm K' p m:=⟨h1.trans h.1,h2.trans h.2⟩
theorem Fm.ext(h:Fm K p m)(X:Hp): Fm (K++X) p m:=h.keep (Yy0 (lt_of_at h.1)) (Yy0 (lt_of_at h.2))
theorem ZmR(h:m.2.2.length<=60): Nice (n+2) (Zbn m):=.lst .s (ZY (.int _) (ZY (.int _) (ZY (.lst (by simp;lia) λt q=>by obtain⟨k,_,rfl⟩:=Zz11.mp q;exact .int _) nl0)))
theorem Zju(h:Fm K p m)(hl:m.2.2.length<=60): ∃X q,Zbp [.ref p.1] K=some (.ref q.1,K++X)/\Fm (K++X) q m/\K.length<=q.1/\K.length<=q.2/\q.1≠q.2:=by
 have hp:0<K.length:=Nat.lt_of_le_of_lt (Nat.zero_le _) (lt_of_at h.1)
 obtain⟨v,X,F,g1,g2,g3,g4⟩:=ZgH K [.ref p.1] [Zbn m] (Zbn m) _ hp (.one h.rf) (Zd7 ((ZmR (n:=0) hl).mono .d))
 obtain⟨gn,gl⟩:=g4 rfl
 obtain⟨q,rfl,fm,rfl⟩:=Zh2 g2
 refine⟨X,q,g1,fm,gl _ .s,gl _ .s,λe=>?_⟩
 rw[e]at gn
 simp at gn
def ZeM(i j:Nat): Ex:=Z5 (ZU (Zc Zf (Za i) (Zc Zf (Za j) (Zd 0)))) (Zu 100) (Zl (Zc Zx (Zc Zf (Za 100) (Zd 0)) (Zc Zf (Za j) (Zd 1)))) (Za 100)
theorem ZqZ(h:Fm K p m): Zf (.ref p.1) (.int 0) K=some (.int m.1,K):=by simp only[Zf,h.1];rfl
theorem Zq0(h:Fm K p m): Zf (.ref p.1) (.int 1) K=some (.int m.2.1,K):=by simp only[Zf,h.1];rfl
theorem Zgc(h:Fm K p m): Zf (.ref p.1) (.int 2) K=some (.ref p.2,K):=by simp only[Zf,h.1];rfl
theorem Zjv{O:Lc}{j d:Nat}{vs:List V}(hj:O j=some (.ref p.1))(hj0:j≠100)(fm:Fm K p m)(hd:K[d]?=some vs): ∀(ts:List T) (i:Nat) (acc:List V),(∀(k:Nat) t,ts[k]?=some t->∃v,vs[i+k]?=some v/\RFo K v t P)->vs.length=i+ts.length->(∀x∈ts,∃a t b,x=rowT a t b)->acc.length+ts.length<ZK->∃us,Zad (ZH d) (Zu 100) (Zl (Zc Zx (Zc Zf (Za 100) (Zd 0)) (Zc Zf (Za j) (Zd 1)))) (Za 100) O (ts.length+1) i acc K=some (acc++us,K)/\∃F,RFs K us (ts.filter (src m.2.1)) F/\∀a∈F,P a
 | [],i,acc,hr,hl,hrow,hc=>by
  have hn:vs[i]?=none:=Yy8 (by simp at hl;lia)
  exact⟨[],by simp[Zad,ZH,hd,hn],[],.nil,λa q=>(List.not_mem_nil q).elim⟩
 | t::ts,i,acc,hr,hl,hrow,hc=>by
  obtain⟨v,v1,v2⟩:=hr 0 t rfl
  rw[Nat.add_zero]at v1
  obtain⟨a,act,b,rfl⟩:=hrow t Zz5
  have v2':=v2
  unfold rowT at v2
  obtain⟨vs3,rfl,d1⟩:=v2.tup
  obtain⟨va,vr,rfl,d2,d1⟩:=ZV d1
  have:=d2.int;subst this
  have rc:=λacc' (hc':acc'.length+ts.length<ZK)=>Zjv hj hj0 fm hd ts (i+1) acc' (λk t e=>by
   have:=hr (k+1) t (by simpa using e)
   rw[show i+(k+1)=i+1+k by lia]at this
   exact this) (by rw[hl];simp;lia) (λx q=>hrow x (Zz2 _ q)) hc'
  have hx:ZH d i K=some (some (V.tup (V.int a::vr))):=by simp[ZH,hd,v1]
  have tt:Zl (Zc Zx (Zc Zf (Za 100) (Zd 0)) (Zc Zf (Za j) (Zd 1))) (Zi O 100 (V.tup (V.int a::vr))) K=some (a == m.2.1,K):=by
   simp[Zl,Zc,Za,Zi,Zd,ia0,hj0,hj,Zq0 fm,Zab]
  rw[List.length_cons]
  by_cases c:a=m.2.1
  ·have hc0:acc.length<ZK:=by simp at hc;lia
   obtain⟨us,e1,F,e2,e3⟩:=rc (acc++[V.tup (V.int a::vr)]) (by simp at hc ⊢;lia)
   obtain⟨G,g1,g2⟩:=v2'
   refine⟨V.tup (V.int a::vr)::us,?_,G++F,?_,λx q=>(Zz8.mp q).elim (g2 x) (e3 x)⟩
   ·show((ZH d i K).bind _)=_
    rw[hx]
    simp only[Ys0,Zu,tt,show(a == m.2.1)=true by simp[c],if_true,Za,Zi,Ys1,hc0]
    rw[e1]
    simp
   ·rw[ZbT c]
    exact .cons g1 e2
  ·obtain⟨us,e1,F,e2,e3⟩:=rc acc (by simp at hc;lia)
   refine⟨us,?_,F,?_,e3⟩
   ·show((ZH d i K).bind _)=_
    rw[hx]
    simp only[Ys0,Zu,tt,show(a == m.2.1)=false by simp[c],Bool.false_eq_true,if_false]
    exact e1
   ·rw[ZaL c]
    exact e2
theorem Zkl{rs:List T}(hi:O i=some vw)(hj:O j=some (.ref p.1))(hj0:j≠100)(r:RFo K vw (.lst rs) P)(e1:Zb9 rs m.1=some (.lst l))(hrow:∀x∈l,∃a t b,x=rowT a t b)(fm:Fm K p m)(hl:l.length<=9000): ∃us,ZeM i j O K=some (.ref K.length,K++[us])/\∃F,RFs K us (l.filter (src m.2.1)) F/\∀a∈F,P a:=by
 obtain⟨u1,h1,r1⟩:=ZfB r e1
 obtain⟨d,vs,rfl,hd,_,rs'⟩:=r1.lst
 have lvs:vs.length=l.length:=by obtain⟨F,r,_⟩:=rs';exact r.length
 obtain⟨us,g1,g2⟩:=Zjv (P:=P) (O:=O) hj hj0 fm hd l 0 [] (λk t e=>by rw[Nat.zero_add];exact Zcg rs' e) .l hrow (by rw[ZC];simp;lia)
 refine⟨us,?_,g2⟩
 have ev:ZU (Zc Zf (Za i) (Zc Zf (Za j) (Zd 0))) O K=some (ZH d,vs.length+1,K):=by
  simp[ZU,Zc,Za,hi,hj,Zd,ZqZ fm,h1,hd]
 unfold ZeM Z5
 rw[ev,lvs]
 simp only[Ys0]
 rw[g1]
 simp
end
end L
open PySem PM TM
namespace L
theorem seq_ret{a b:Sm}(h:a O H=some (some v,B,H1)): Zh a b O H=some (some v,B,H1):=by simp[Zh,h]
def goL(bs:List Int)(pick:Int): List T->Option (Int×List Int)
 | []=>none
 | t::ts=>(ZcX t).bind λaq=>match Zbb [Zm bs,aq.1,.int pick]with
  | some .none=>goL bs pick ts
  | some u=>(Zbg u).map λl=>(aq.2,l)
  | none=>none
section
variable {K:Hp} {p:Nat×Nat} {m:Mo} {P:Nat->Prop}
def ZcR: Sm:=Zh (Zk 4 (Zg Zc7 (Zb (Zc Zf (Za 0) (Zd 2)) (Zb (Zc Zf (Za 3) (Zd 1)) (Zb (Za 2) Ze))))) (Zs (Zl (Zc Za6 (Za 4) (Zat))) (Zh (ZaB (Zc Zf (Za 3) (Zd 2)) (Za 0) (Zd 1)) (Zh (ZaB (Za 4) (Za 0) (Zd 2)) (Zn (ZaG true)))) ZF)
theorem Zkm{c:Nat}{pick q:Int}{vs:List V}{bs':List Int}(fm:Fm K p m)(p0:p.1≠0)(hc:K[c]?=some vs): ∀(ts:List T) (i:Nat) (O:Lc) (X:Hp),(∀(k:Nat) t,ts[k]?=some t->∃v,vs[i+k]?=some v/\RFo K v t P)->vs.length=i+ts.length->O 0=some (.ref p.1)->O 2=some (.int pick)->goL m.2.2 pick ts=some (q,bs')->∃U Y b,ZaR (ZH c) (Zu 3) ZcR (ts.length+1) i O (K++X)=some (some (.bool true),U,(K++Y).set p.1 [.int m.1,.int q,.ref b])/\(K++Y)[b]?=some (bs'.map V.int)/\K.length<=b
 | [],i,O,X,hr,hl,h0,h2,e=>by cases e
 | t::ts,i,O,X,hr,hl,h0,h2,e=>by
  obtain⟨⟨act,q0⟩,e0,e9⟩:=Zz0.mp e
  clear e
  obtain⟨th,rfl⟩:=ZiS e0
  have e:=e9
  clear e9
  dsimp only at e
  obtain⟨v,v1,v2⟩:=hr 0 _ rfl
  rw[Nat.add_zero]at v1
  obtain⟨vs3,rfl,d1⟩:=v2.tup
  obtain⟨vh,_,rfl,_,d1⟩:=ZV d1
  obtain⟨va,_,rfl,d2,d1⟩:=ZV d1
  obtain⟨vq,_,rfl,d3,d1⟩:=ZV d1
  have:=Zby d1;subst this
  have:=d3.int;subst this
  have kx:∀a,a<K.length->(K++X)[a]?=K[a]?:=λa l=>Yy0 l
  have fmX:=fm.ext X
  have hcX:(K++X)[c]?=some vs:=(kx c (lt_of_at hc)).trans hc
  obtain⟨Fa,ra,_⟩:=d2.keep (K':=K++X) λa _ l=>kx a l
  have hx:ZH c i (K++X)=some (some (V.tup [vh,va,V.int q0])):=by simp[ZH,hcX,v1]
  have hp:0<(K++X).length:=Nat.lt_of_le_of_lt (Nat.zero_le _) (lt_of_at fmX.1)
  cases eg:Zbb [Zm m.2.2,act,.int pick]with
  | none=>rw[eg]at e;cases e
  | some u=>
   rw[eg]at e
   obtain⟨w,Z,F,g1,g2,g3,g4⟩:=Znl (K++X) [.ref p.2,va,.int pick] [Zm m.2.2,act,.int pick] u _ hp (.cons (ZbP fmX.2) (.cons ra (.one (.int pick)))) eg
   have st4:Zk 4 (Zg Zc7 (Zb (Zc Zf (Za 0) (Zd 2)) (Zb (Zc Zf (Za 3) (Zd 1)) (Zb (Za 2) Ze)))) (Zi O 3 (V.tup [vh,va,V.int q0])) (K++X)=some (none,Zi (Zi O 3 (V.tup [vh,va,V.int q0])) 4 w,K++X++Z):=by
    simp[Zk,Zg,Zb,Ze,Zc,Za,Zi,h0,h2,Zd,Zgc fmX,i31,g1]
   rw[List.length_cons]
   have go:∀l,Zbg u=some l->u≠.none->some (q0,l)=some (q,bs')->∃U Y b,ZaR (ZH c) (Zu 3) ZcR (ts.length+1+1) i O (K++X)=some (some (.bool true),U,(K++Y).set p.1 [.int m.1,.int q,.ref b])/\(K++Y)[b]?=some (bs'.map V.int)/\K.length<=b:=λl hl2 hne e9=>by
    have h1:q0=q:=congrArg Prod.fst (Option.some.inj e9)
    have h2:l=bs':=congrArg Prod.snd (Option.some.inj e9)
    rw[<-h1,<-h2]
    have:=Zea hl2;subst this
    obtain⟨b,rfl,hb⟩:=Zdj g2
    have hb2:(K++X).length<=b:=by
     have:=(g4 rfl).2 b (by obtain⟨_,e⟩:=g2.det (ZbP hb);rw[e];simp)
     exact this
    have lp:p.1<(K++X++Z).length:=by have:=lt_of_at fm.1;simp;lia
    have f1:(K++X++Z)[p.1]?=some [.int m.1,.int m.2.1,.ref p.2]:=(fmX.ext Z).1
    refine⟨Zi (Zi O 3 (V.tup [vh,va,V.int q0])) 4 (.ref b),X++Z,b,?_,by rw[<-List.append_assoc];exact hb,by rw[List.length_append]at hb2;lia⟩
    show((ZH c i (K++X)).bind _)=_
    rw[hx]
    simp only[Ys0,Zu]
    have bd:ZcR (Zi O 3 (V.tup [vh,va,V.int q0])) (K++X)=some (some (.bool true),Zi (Zi O 3 (V.tup [vh,va,V.int q0])) 4 (.ref b),(K++(X++Z)).set p.1 [.int m.1,.int q0,.ref b]):=by
     unfold ZcR
     rw[Z7 st4,<-List.append_assoc]
     generalize K++X++Z=KZ at *
     have o1:Zbf (.ref p.1) (.int 1) (.int q0) KZ=some (KZ.set p.1 [.int m.1,.int q0,.ref p.2]):=by
      simp only[Zbf,f1,Ys0]
      rw[if_pos ⟨p0,.d,.s⟩]
      rfl
     have f2:(KZ.set p.1 [.int m.1,.int q0,.ref p.2])[p.1]?=some [.int m.1,.int q0,.ref p.2]:=Yy6 lp
     have o2:Zbf (.ref p.1) (.int 2) (.ref b) (KZ.set p.1 [.int m.1,.int q0,.ref p.2])=some (KZ.set p.1 [.int m.1,.int q0,.ref b]):=by
      simp only[Zbf,f2,Ys0]
      rw[if_pos ⟨p0,.d,.s⟩,List.set_set]
      rfl
     rw[ZeL (H1:=KZ) (by simp[Zl,Zc,Za,Zi,Zat,Zab])]
     rw[Z7 (B:=Zi (Zi O 3 (V.tup [vh,va,V.int q0])) 4 (.ref b)) (H1:=KZ.set p.1 [.int m.1,.int q0,.ref p.2]) (by simp[ZaB,Zc,Za,Zi,Zd,i32,h0,o1])]
     rw[Z7 (B:=Zi (Zi O 3 (V.tup [vh,va,V.int q0])) 4 (.ref b)) (H1:=KZ.set p.1 [.int m.1,.int q0,.ref b]) (by simp[ZaB,Za,Zi,Zd,h0,o2])]
     simp[Zn,ZaG]
    rw[bd]
    rfl
   cases u with
   | none=>
    cases g2
    obtain⟨U,Y,b,c1,c2⟩:=Zkm fm p0 hc ts (i+1) (Zi (Zi O 3 (V.tup [vh,va,V.int q0])) 4 .none) (X++Z) (λk t e=>by
     have:=hr (k+1) t (by simpa using e)
     rw[show i+(k+1)=i+1+k by lia]at this
     exact this) (by rw[hl];simp;lia) (by simp[Zi,h0]) (by simp[Zi,h2]) e
    refine⟨U,Y,b,?_,c2⟩
    show((ZH c i (K++X)).bind _)=_
    rw[hx]
    simp only[Ys0,Zu]
    have bd:ZcR (Zi O 3 (V.tup [vh,va,V.int q0])) (K++X)=some (none,Zi (Zi O 3 (V.tup [vh,va,V.int q0])) 4 .none,K++(X++Z)):=by
     unfold ZcR
     rw[Z7 st4]
     rw[ZcD (H1:=K++X++Z) (by simp[Zl,Zc,Za,Zi,Zat,Zab])]
     simp[ZF,List.append_assoc]
    rw[bd]
    exact c1
   | lst ts'=>
    obtain⟨l,e1,e2⟩:=Zz1.mp e
    exact go l e1 .s (by rw[<-e2])
   | bool _=>obtain⟨l,e1,_⟩:=Zz1.mp e;cases e1
   | int _=>obtain⟨l,e1,_⟩:=Zz1.mp e;cases e1
   | str _=>obtain⟨l,e1,_⟩:=Zz1.mp e;cases e1
   | tup _=>obtain⟨l,e1,_⟩:=Zz1.mp e;cases e1
   | ob _ _=>obtain⟨l,e1,_⟩:=Zz1.mp e;cases e1
theorem Zqd{c:Nat}{pick:Int}(fm:Fm K p m)(p0:p.1≠0)(hc:K[c]?=some vs)(r:∃F,RFs K vs l F/\∀a∈F,P a)(e:goL m.2.2 pick l=some (q,bs')): ∃Y b,ZcJ [.ref p.1,.ref c,.int pick] K=some (.bool true,(K++Y).set p.1 [.int m.1,.int q,.ref b])/\(K++Y)[b]?=some (bs'.map V.int)/\K.length<=b:=by
 have lvs:vs.length=l.length:=by obtain⟨F,r,_⟩:=r;exact r.length
 obtain⟨U,Y,b,g1,g2⟩:=Zkm (P:=P) (pick:=pick) fm p0 hc l 0 (λi=>[V.ref p.1,.ref c,.int pick][i]?) [] (λk t e=>by rw[Nat.zero_add];exact Zcg r e) .l rfl rfl e
 refine⟨Y,b,?_,g2⟩
 rw[List.append_nil]at g1
 have ev:ZU (Za 1) (λi=>[V.ref p.1,.ref c,.int pick][i]?) K=some (ZH c,vs.length+1,K):=by simp[ZU,Za,hc]
 have hx:Zaq (ZU (Za 1)) (Zu 3) ZcR (λi=>[V.ref p.1,.ref c,.int pick][i]?) K=some (some (.bool true),U,(K++Y).set p.1 [.int m.1,.int q,.ref b]):=by
  unfold Zaq
  rw[ev,lvs]
  exact g1
 unfold ZcR at hx
 unfold ZcJ ZgQ Zr
 simp only[List.length_cons,List.length_nil,if_true]
 rw[seq_ret hx]
 rfl
theorem Znx{rs:List T}{X:Nat}{ans:Int}(fm:Fm K p m)(p0:p.1≠0)(p1:p.2≠0)(pp:p.1≠p.2)(r:RFo K vw (.lst rs) P)(e1:Zb9 rs m.1=some (.lst l))(hrow:∀x∈l,∃a t b,x=rowT a t b)(hl:l.length<=9000)(hf:l.filter (src m.2.1)=[rowT m.2.1 (callT X g sums) q])(hX:X<m.2.2.length): ∃us,Zd6 [vw,.ref p.1,.int ans] K=some (.none,((K++[us]).set p.2 ((m.2.2.set X ans).map V.int)).set p.1 [.int m.1,.int q,.ref p.2]):=by
 obtain⟨us,g1,F,g2,g3⟩:=Zkl (O:=λi=>[vw,V.ref p.1,.int ans][i]?) (i:=0) (j:=1) rfl rfl .d r e1 hrow fm hl
 rw[hf]at g2
 refine⟨us,?_⟩
 obtain⟨v,_,rfl,d0,d1⟩:=ZV (P:=P) ⟨_,g2,g3⟩
 have:=Zby d1;subst this
 unfold rowT callT at d0
 obtain⟨vs3,rfl,d1⟩:=d0.tup
 obtain⟨vh,_,rfl,_,d1⟩:=ZV d1
 obtain⟨va,_,rfl,d2,d1⟩:=ZV d1
 obtain⟨vq,_,rfl,d3,d1⟩:=ZV d1
 have:=Zby d1;subst this
 have:=d3.int;subst this
 obtain⟨vas,rfl,d4⟩:=d2.tup
 obtain⟨w0,_,rfl,_,d4⟩:=ZV d4
 obtain⟨w1,wr,rfl,d5,d4⟩:=ZV d4
 have:=d5.int;subst this
 have fm1:=fm.ext [[V.tup [vh,V.tup (w0::V.int ((X:Int)+1)::wr),V.int q]]]
 generalize hK1:K++[[V.tup [vh,V.tup (w0::V.int ((X:Int)+1)::wr),V.int q]]]=K1 at *
 have hz:K1[K.length]?=some [V.tup [vh,V.tup (w0::V.int ((X:Int)+1)::wr),V.int q]]:=by rw[<-hK1];simp
 have l1:=lt_of_at fm1.1
 have l2:=lt_of_at fm1.2
 unfold Zd6 Zg5 Zr
 simp only[List.length_cons,List.length_nil,if_true]
 have s3:Zk 3 (Zc Zf (ZeM 0 1) (Zd 0)) (λi=>[vw,V.ref p.1,.int ans][i]?) K=some (none,Zi (λi=>[vw,V.ref p.1,.int ans][i]?) 3 (V.tup [vh,V.tup (w0::V.int ((X:Int)+1)::wr),V.int q]),K1):=by
  have i0:Zf (.ref K.length) (.int 0) K1=some (V.tup [vh,V.tup (w0::V.int ((X:Int)+1)::wr),V.int q],K1):=by simp only[Zf,hz];rfl
  simp only[Zk,Zc,g1,Ys0,Zd,i0,Ys1]
 unfold ZeM at s3
 rw[Z7 s3]
 have a1:∀(x y:V) (ys:List V) H,Zf (.tup (x::y::ys)) (.int 1) H=some (y,H):=λx y ys H=>by
  have:seqIndex? 1 (ys.length+1+1)=some 1:=by unfold seqIndex?;simp;lia
  simp[Zf,this]
 have o1:Zbf (.ref p.2) (.int ((X:Int)+1-1)) (.int ans) K1=some (K1.set p.2 ((m.2.2.set X ans).map V.int)):=by
  simp only[Zbf,fm1.2,Ys0]
  rw[if_pos ⟨p1,.l,by simp;omega⟩,show((X:Int)+1-1).toNat=X by omega,List.map_set]
 rw[Z7 (B:=Zi (λi=>[vw,V.ref p.1,.int ans][i]?) 3 (V.tup [vh,V.tup (w0::V.int ((X:Int)+1)::wr),V.int q])) (H1:=K1.set p.2 ((m.2.2.set X ans).map V.int)) (by
  simp only[ZaB,Zc,Za,Zi,Zd,Ys1,Ys0,List.getElem?_cons_zero,List.getElem?_cons_succ,if_true,if_false,show(1=3)=False from by simp,show(2=3)=False from by simp,Zgc fm1,i31,a1,Zlb,o1])]
 have f2:(K1.set p.2 ((m.2.2.set X ans).map V.int))[p.1]?=some [.int m.1,.int m.2.1,.ref p.2]:=by
  rw[Yy2 (Ne.symm pp)];exact fm1.1
 have o2:Zbf (.ref p.1) (.int 1) (.int q) (K1.set p.2 ((m.2.2.set X ans).map V.int))=some ((K1.set p.2 ((m.2.2.set X ans).map V.int)).set p.1 [.int m.1,.int q,.ref p.2]):=by
  simp only[Zbf,f2,Ys0]
  rw[if_pos ⟨p0,.d,.s⟩]
  rfl
 rw[List.map_set]at o2
 simp[ZaB,Zc,Za,Zi,Zd,i32,o2]
end
end L
open PySem PM TM
namespace L
theorem Zny{body:List T}{p:Nat}(e:fns[g]?=some (.tup [.int p,.int m,.lst body]))(hg:gv.length=p)(hm:m<=60)(hp:p<=m): ZgW [.lst fns,.int g,Zm gv]=some (Zbn ((g:Int),0,gv++List.replicate (m-p) 0)):=by
 subst hg
 rw[Zoz e hp hm]
 rfl
section
variable {K:Hp} {p:Nat×Nat} {m:Mo} {P:Nat->Prop}
theorem ZiW{body:List T}{pr mm z:Nat}(rp:RFo K vp (.lst fns) P)(hz:K[z]?=some (gv.map V.int))(e:fns[g]?=some (.tup [.int pr,.int mm,.lst body]))(hg:gv.length=pr)(hm:mm<=60)(hp:pr<=mm): ∃X q,Zcb [vp,.int g,.ref z] K=some (.ref q.1,K++X)/\Fm (K++X) q ((g:Int),0,gv++List.replicate (mm-pr) 0)/\K.length<=q.1/\K.length<=q.2/\q.1≠q.2:=by
 have h0:0<K.length:=Nat.lt_of_le_of_lt (Nat.zero_le _) (lt_of_at hz)
 obtain⟨Fp,rp,_⟩:=rp
 obtain⟨v,X,F,g1,g2,g3,g4⟩:=Zl1 K [vp,.int g,.ref z] [.lst fns,.int g,Zm gv] _ _ h0 (.cons rp (.cons (.int _) (.one (ZbP hz)))) (Zny e hg hm hp)
 obtain⟨gn,gl⟩:=g4 rfl
 obtain⟨q,rfl,fm,rfl⟩:=Zh2 g2
 refine⟨X,q,g1,fm,gl _ .s,gl _ .s,λe=>?_⟩
 rw[e]at gn
 simp at gn
def wlE: Ex:=Zg ZbX (Zb (Za 102) (Zb (Zc Zf (Za 8) (Zd 2)) Ze))
theorem Zkn{O:Lc}{d:Nat}{vs:List V}(h8:O 8=some (.ref p.1))(fm:Fm K p m)(hn:m.2.2.length<=60)(hd:K[d]?=some vs): ∀(ts:List T) (i:Nat) (acc gv:List Int) (X:Hp),(∀(j:Nat) t,ts[j]?=some t->∃v,vs[i+j]?=some v/\RFo K v t P)->vs.length=i+ts.length->Zcf m.2.2 ts=some gv->(∀t∈ts,∃c,t=ZaS m.2.2.length c/\Sh m.2.2.length c)->acc.length+ts.length<ZK->∃Y,Zad (ZH d) (Zu 102) ZD wlE O (ts.length+1) i (acc.map V.int) (K++X)=some ((acc++gv).map V.int,K++Y)
 | [],i,acc,gv,X,hr,hl,e,hs,hc=>by
  cases e
  have hn:vs[i]?=none:=Yy8 (by simp at hl;lia)
  refine⟨X,?_⟩
  have hd':(K++X)[d]?=some vs:=by rw[Yy0 (lt_of_at hd)];exact hd
  simp[Zad,ZH,hd',hn]
 | one::ts,i,acc,gv,X,hr,hl,e,hs,hc=>by
  obtain⟨k,e1,e⟩:=Zz0.mp e
  obtain⟨gv',e2,e3⟩:=Zz1.mp e
  subst e3
  obtain⟨c,hone,hsh⟩:=hs one Zz5
  subst hone
  rw[ZhJ hn hsh]at e1
  have ek:Zcq c m.2.2=k:=by simpa [unI]using e1
  subst ek
  obtain⟨v,v1,F1,v2,v3⟩:=hr 0 _ rfl
  rw[Nat.add_zero]at v1
  have fmX:=fm.ext X
  have hd':(K++X)[d]?=some vs:=by rw[Yy0 (lt_of_at hd)];exact hd
  have hp:0<(K++X).length:=Nat.lt_of_le_of_lt (Nat.zero_le _) (lt_of_at fmX.1)
  obtain⟨u,Z,F,g1,g2,_⟩:=Zl0 (K++X) [v,.ref p.2] [ZaS m.2.2.length c,Zm m.2.2] (.int (Zcq c m.2.2)) _ hp (.cons (v2.ext X) (.one (ZbP fmX.2))) (ZhJ hn hsh)
  cases g2
  obtain⟨Y,y1⟩:=Zkn h8 fm hn hd ts (i+1) (acc++[Zcq c m.2.2]) gv' (X++Z) (λj t e=>by
   have:=hr (j+1) t (by simpa using e)
   rw[show i+(j+1)=i+1+j by lia]at this
   exact this) (by rw[hl];simp;lia) e2 (λt q=>hs t (Zz2 _ q)) (by simp at hc ⊢;lia)
  refine⟨Y,?_⟩
  have g3:wlE (Zi O 102 v) (K++X)=some (.int (Zcq c m.2.2),K++(X++Z)):=by
   rw[List.append_assoc]at g1
   simp[wlE,Zg,Zb,Ze,Za,Zi,h8,Zc,Zd,Zgc fmX]
   exact g1
  have hc':acc.length<ZK:=by simp at hc;lia
  rw[List.length_cons]
  have y1':Zad (ZH d) (Zu 102) ZD wlE O (ts.length+1) (i+1) (acc.map V.int++[V.int (Zcq c m.2.2)]) (K++(X++Z))=some ((acc++Zcq c m.2.2::gv').map V.int,K++Y):=by
   have:(acc++[Zcq c m.2.2]).map V.int=acc.map V.int++[V.int (Zcq c m.2.2)]:=by simp
   rw[<-this,y1]
   simp
  show((ZH d i (K++X)).bind _)=_
  have hx:ZH d i (K++X)=some (some v):=by simp[ZH,hd',v1]
  rw[hx]
  simp only[Ys0,Zu,ZD,if_true,g3,List.length_map,hc']
  exact y1'
theorem Znz(ks:List Int)(n:Nat): ∃l:List Int,ZaU (ks.map V.int) (some (n:Int)) (some ((n:Int)+1))=l.map V.int/\l.sum=ks.getD n 0:=by
 by_cases c:n<ks.length
 ·refine⟨[ks.getD n 0],?_,.s⟩
  rw[Zc9 _ _ _ (a:=n) (b:=n+1) (by unfold sliceBounds;simp;lia) (by unfold sliceBounds;simp;lia) (by simp;lia)]
  rw[show n+1-n=1 by lia,List.drop_eq_getElem_cons (by simpa using c)]
  simp[Yy1 c]
 ·refine⟨[],?_,by rw[List.getD_eq_getElem?_getD,Yy8 .l];rfl⟩
  rw[Zc9 _ _ _ (a:=ks.length) (b:=ks.length) (by unfold sliceBounds;simp;omega) (by unfold sliceBounds;simp;omega) .s]
  simp
theorem ZoH(l:List Int): Za7 (l.map V.int)=some l:=by
 induction l with
 | nil=>rfl
 | cons a l ih=>simp[Za7,ih]
end
end L
open PySem PM TM
namespace L
inductive Fms(K:Hp): List (Nat×Nat)->List Mo->Prop where
 | nil:Fms K [] []
 | snoc {ps:List (Nat×Nat)} {ms:List Mo} {p:Nat×Nat} {m:Mo}:Fms K ps ms->Fm K p m->Fms K (ps++[p]) (ms++[m])
def adr(ps:List (Nat×Nat)): List Nat:=ps.flatMap λp=>[p.1,p.2]
theorem ZaZ(ps:List (Nat×Nat))(p:Nat×Nat): adr (ps++[p])=adr ps++[p.1,p.2]:=by simp[adr]
section
variable {K K':Hp} {ps qs:List (Nat×Nat)} {ms hist:List Mo} {p:Nat×Nat} {m:Mo}
theorem Fms.keep(h:Fms K ps ms)(k:∀a∈adr ps,K'[a]?=K[a]?): Fms K' ps ms:=by
 induction h with
 | nil=>exact .nil
 | snoc _ b ih=>
  rw[ZaZ]at k
  exact .snoc (ih λa q=>k a (Zz4 _ q)) (b.keep (k _ .s) (k _ .s))
theorem Fms.length(h:Fms K ps ms): ps.length=ms.length:=by
 induction h with
 | nil=>rfl
 | snoc _ _ ih=>simp[ih]
theorem Fms.lt(h:Fms K ps ms): ∀a∈adr ps,a<K.length:=by
 induction h with
 | nil=>intro a q;simp[adr]at q
 | snoc _ b ih=>
  intro a q
  rw[ZaZ]at q
  rcases Zz8.mp q with q | q
  ·exact ih a q
  ·simp at q
   rcases q with rfl | rfl
   ·exact lt_of_at b.1
   ·exact lt_of_at b.2
theorem Fms.last(h:Fms K ps (ms++[m])): ∃ps0 p,ps=ps0++[p]/\Fms K ps0 ms/\Fm K p m:=by
 generalize e:ms++[m]=l at h
 cases h with
 | nil=>simp at e
 | snoc a b=>
  obtain⟨h1,h2⟩:=List.append_inj' e rfl
  cases h2
  subst h1
  exact⟨_,_,rfl,a,b⟩
theorem Fms.rfs(h:Fms K ps ms): RFs K (ps.map λp=>V.ref p.1) (ms.map Zbn) (adr ps):=by
 induction h with
 | nil=>exact .nil
 | snoc _ b ih=>
  rw[List.map_append,List.map_append,ZaZ]
  exact ih.append (RFs.one b.rf)
end
structure Gm(K:Hp)(fr mk L0:Nat)(ps:List (Nat×Nat))(ms:List Mo)(qs:List (Nat×Nat))(hist:List Mo): Prop where
 hf:K[fr]?=some (ps.map λp=>V.ref p.1)
 fm:Fms K ps ms
 hm:K[mk]?=some (qs.map λp=>V.ref p.1)
 hs:Fms K qs hist
 nd:(fr::mk::(adr ps++adr qs)).Nodup
 lo:∀a∈fr::mk::(adr ps++adr qs),L0<=a
 l0:0<L0
section
variable {K K':Hp} {fr mk L0:Nat} {ps qs:List (Nat×Nat)} {ms hist:List Mo} {p p':Nat×Nat} {m m':Mo}
theorem Gm.lt(G:Gm K fr mk L0 ps ms qs hist): ∀a∈fr::mk::(adr ps++adr qs),a<K.length:=λa q=>by
 simp only[List.mem_cons,List.mem_append]at q
 rcases q with rfl | rfl | q | q
 ·exact lt_of_at G.hf
 ·exact lt_of_at G.hm
 ·exact G.fm.lt a q
 ·exact G.hs.lt a q
theorem Gm.same(G:Gm K fr mk L0 ps ms qs hist)(k:∀a∈fr::mk::(adr ps++adr qs),K'[a]?=K[a]?): Gm K' fr mk L0 ps ms qs hist:=
 ⟨(k fr .s).trans G.hf,G.fm.keep λa q=>k a (by simp[q]),(k mk .s).trans G.hm,G.hs.keep λa q=>k a (by simp[q]),G.nd,G.lo,G.l0⟩
theorem Gm.ext(G:Gm K fr mk L0 ps ms qs hist)(X:Hp): Gm (K++X) fr mk L0 ps ms qs hist:=G.same λa q=>Yy0 (G.lt a q)
theorem Gm.turn(G:Gm K fr mk L0 (ps++[p]) (ms++[m]) qs hist)(k:∀a,a<K.length->a≠p.1->a≠p.2->K'[a]?=K[a]?)(h1:p'.1=p.1)(h2:p'.2=p.2∨K.length<=p'.2)(fm':Fm K' p' m'): Gm K' fr mk L0 (ps++[p']) (ms++[m']) qs hist:=by
 obtain⟨hf,fm,hm,hs,nd,lo,l0⟩:=G
 have lt:=Gm.lt ⟨hf,fm,hm,hs,nd,lo,l0⟩
 rw[ZaZ]at nd lo lt
 have ndf:=nd
 simp only[List.nodup_cons,List.mem_cons,List.mem_append,List.nodup_append,not_or,List.not_mem_nil,or_false]at ndf
 obtain⟨⟨f1,⟨f2,f3,f4⟩,f5⟩,⟨⟨m1,m2,m3⟩,m4⟩,⟨n1,n2,n3⟩,n4,n5⟩:=ndf
 have kk:∀a,a∈fr::mk::(adr ps++adr qs)->K'[a]?=K[a]?:=λa q=>by
  simp only[List.mem_cons,List.mem_append]at q
  refine k a (lt a (by simp only[List.mem_cons,List.mem_append];rcases q with q | q | q | q <;> simp[q])) ?_ ?_
  ·rintro rfl
   rcases q with q | q | q | q
   ·exact f3 q.symm
   ·exact m2 q.symm
   ·exact n3 _ q _ (.inl rfl) rfl
   ·exact n5 _ (.inr (.inl rfl)) _ q rfl
  ·rintro rfl
   rcases q with q | q | q | q
   ·exact f4 q.symm
   ·exact m3 q.symm
   ·exact n3 _ q _ (.inr rfl) rfl
   ·exact n5 _ (.inr (.inr rfl)) _ q rfl
 obtain⟨ps0,pz,e,fm0,_⟩:=fm.last
 obtain⟨e1,e2⟩:=List.append_inj' e rfl
 cases e1
 cases e2
 have pa:∀a∈fr::mk::(adr ps++adr qs),a≠p'.1/\a≠p'.2:=λa q=>by
  have la:a<K.length:=lt a (by simp only[List.mem_cons,List.mem_append]at q ⊢;rcases q with q | q | q | q <;> simp[q])
  simp only[List.mem_cons,List.mem_append]at q
  rw[h1]
  refine⟨?_,?_⟩
  ·rintro rfl
   rcases q with q | q | q | q
   ·exact f3 q.symm
   ·exact m2 q.symm
   ·exact n3 _ q _ (.inl rfl) rfl
   ·exact n5 _ (.inr (.inl rfl)) _ q rfl
  ·rcases h2 with h2 | h2
   ·rw[h2]
    rintro rfl
    rcases q with q | q | q | q
    ·exact f4 q.symm
    ·exact m3 q.symm
    ·exact n3 _ q _ (.inr rfl) rfl
    ·exact n5 _ (.inr (.inr rfl)) _ q rfl
   ·lia
 have ppne:p'.1≠p'.2:=by
  rw[h1]
  rcases h2 with h2 | h2
  ·rw[h2];exact n2.1
  ·have:=lt p.1 .s;lia
 refine⟨(kk fr .s).trans (by simpa [h1]using hf),.snoc (fm0.keep λa q=>kk a (by simp[q])) fm',(kk mk .s).trans hm,hs.keep λa q=>kk a (by simp[q]),?_,?_,l0⟩
 ·rw[ZaZ]
  simp only[List.nodup_cons,List.mem_cons,List.mem_append,List.nodup_append,not_or,List.not_mem_nil,or_false]
  have q1:=pa fr .s
  have q2:=pa mk .s
  refine⟨⟨f1,⟨f2,q1.1,q1.2⟩,f5⟩,⟨⟨m1,q2.1,q2.2⟩,m4⟩,⟨n1,⟨ppne,not_false,List.nodup_nil⟩,λa ha b hb=>?_⟩,n4,λa ha b hb=>?_⟩
  ·rcases hb with rfl | rfl
   ·exact(pa a (by simp[ha])).1
   ·exact(pa a (by simp[ha])).2
  ·rcases ha with ha | rfl | rfl
   ·exact n5 a (.inl ha) b hb
   ·exact λq=>(pa b (by simp[hb])).1 q.symm
   ·exact λq=>(pa b (by simp[hb])).2 q.symm
 ·intro a q
  rw[ZaZ]at q
  simp only[List.mem_cons,List.mem_append,List.not_mem_nil,or_false]at q
  have lK:L0<=K.length:=by have:=lo fr .s;have:=lt fr .s;lia
  rcases q with q | q | (q | q | q) | q
  ·exact lo a (by simp[q])
  ·exact lo a (by simp[q])
  ·exact lo a (by simp[q])
  ·rw[q,h1];exact lo _ .s
  ·rcases h2 with h2 | h2
   ·rw[q,h2];exact lo _ .s
   ·lia
  ·exact lo a (by simp[q])
theorem Gm.pop(G:Gm K fr mk L0 (ps++[p]) (ms++[m]) qs hist): Gm (K.set fr (ps.map λp=>V.ref p.1)) fr mk L0 ps ms qs hist:=by
 obtain⟨hf,fm,hm,hs,nd,lo,l0⟩:=G
 have lf:=lt_of_at hf
 rw[ZaZ]at nd lo
 simp only[List.nodup_cons,List.mem_cons,List.mem_append,List.nodup_append,not_or,List.not_mem_nil,or_false]at nd
 obtain⟨⟨f1,⟨f2,f3,f4⟩,f5⟩,⟨⟨m1,m2,m3⟩,m4⟩,⟨n1,n2,n3⟩,n4,n5⟩:=nd
 obtain⟨ps0,pz,e,fm0,_⟩:=fm.last
 obtain⟨e1,e2⟩:=List.append_inj' e rfl
 cases e1
 have kk:∀a,a≠fr->(K.set fr (ps.map λp=>V.ref p.1))[a]?=K[a]?:=λa h=>Yy2 (Ne.symm h)
 refine⟨Yy6 lf,fm0.keep λa q=>kk a (λh=>f2 (h▸q)),(kk mk (Ne.symm f1)).trans hm,hs.keep λa q=>kk a (λh=>f5 (h▸q)),?_,λa q=>lo a ?_,l0⟩
 ·simp only[List.nodup_cons,List.mem_cons,List.mem_append,List.nodup_append,not_or]
  exact⟨⟨f1,f2,f5⟩,⟨m1,m4⟩,n1,n4,λa ha b hb=>n5 a (.inl ha) b hb⟩
 ·simp only[List.mem_cons,List.mem_append]at q ⊢
  rcases q with q | q | q | q <;> simp[q]
theorem Gm.push(G:Gm K fr mk L0 ps ms qs hist)(X:Hp)(h1:K.length<=p.1)(h2:K.length<=p.2)(h3:p.1≠p.2)(fm':Fm (K++X) p m): Gm ((K++X).set fr ((ps++[p]).map λp=>V.ref p.1)) fr mk L0 (ps++[p]) (ms++[m]) qs hist:=by
 have lt:=G.lt
 have GX:=G.ext X
 obtain⟨hf,fm,hm,hs,nd,lo,l0⟩:=GX
 have lf:=lt_of_at hf
 have nd0:=nd
 simp only[List.nodup_cons,List.mem_cons,List.mem_append,List.nodup_append,not_or]at nd
 obtain⟨⟨f1,f2,f5⟩,⟨m1,m4⟩,n1,n4,n5⟩:=nd
 have lfr:=lt fr .s
 have lmk:=lt mk .s
 have kk:∀a,a≠fr->((K++X).set fr ((ps++[p]).map λp=>V.ref p.1))[a]?=(K++X)[a]?:=λa h=>Yy2 (Ne.symm h)
 refine⟨Yy6 lf,.snoc (fm.keep λa q=>kk a (λh=>f2 (h▸q))) (fm'.keep (kk _ .l) (kk _ .l)),(kk mk (Ne.symm f1)).trans hm,hs.keep λa q=>kk a (λh=>f5 (h▸q)),?_,λa q=>?_,l0⟩
 ·rw[ZaZ]
  have far:∀a∈fr::mk::(adr ps++adr qs),a≠p.1/\a≠p.2:=λa q=>by have:=lt a q;lia
  simp only[List.nodup_cons,List.mem_cons,List.mem_append,List.nodup_append,not_or,List.not_mem_nil,or_false]
  have q1:=far fr .s
  have q2:=far mk .s
  refine⟨⟨f1,⟨f2,q1.1,q1.2⟩,f5⟩,⟨⟨m1,q2.1,q2.2⟩,m4⟩,⟨n1,⟨h3,not_false,List.nodup_nil⟩,λa ha b hb=>?_⟩,n4,λa ha b hb=>?_⟩
  ·rcases hb with rfl | rfl
   ·exact(far a (by simp[ha])).1
   ·exact(far a (by simp[ha])).2
  ·rcases ha with ha | rfl | rfl
   ·exact n5 a ha b hb
   ·exact λq=>(far b (by simp[hb])).1 q.symm
   ·exact λq=>(far b (by simp[hb])).2 q.symm
 ·rw[ZaZ]at q
  have lK:L0<=K.length:=by have:=lo fr .s;lia
  simp only[List.mem_cons,List.mem_append,List.not_mem_nil,or_false]at q
  rcases q with q | q | (q | q | q) | q
  ·exact lo a (by simp[q])
  ·exact lo a (by simp[q])
  ·exact lo a (by simp[q])
  ·lia
  ·lia
  ·exact lo a (by simp[q])
theorem Gm.mark(G:Gm K fr mk L0 ps ms qs hist)(X:Hp)(h1:K.length<=p.1)(h2:K.length<=p.2)(h3:p.1≠p.2)(fm':Fm (K++X) p m): Gm ((K++X).set mk ((qs++[p]).map λp=>V.ref p.1)) fr mk L0 ps ms (qs++[p]) (hist++[m]):=by
 have lt:=G.lt
 have GX:=G.ext X
 obtain⟨hf,fm,hm,hs,nd,lo,l0⟩:=GX
 have lf:=lt_of_at hm
 have nd0:=nd
 simp only[List.nodup_cons,List.mem_cons,List.mem_append,List.nodup_append,not_or]at nd
 obtain⟨⟨f1,f2,f5⟩,⟨m1,m4⟩,n1,n4,n5⟩:=nd
 have lfr:=lt fr .s
 have lmk:=lt mk .s
 have kk:∀a,a≠mk->((K++X).set mk ((qs++[p]).map λp=>V.ref p.1))[a]?=(K++X)[a]?:=λa h=>Yy2 (Ne.symm h)
 refine⟨(kk fr f1).trans hf,fm.keep λa q=>kk a (λh=>m1 (h▸q)),Yy6 lf,.snoc (hs.keep λa q=>kk a (λh=>m4 (h▸q))) (fm'.keep (kk _ .l) (kk _ .l)),?_,λa q=>?_,l0⟩
 ·rw[ZaZ]
  have far:∀a∈fr::mk::(adr ps++adr qs),a≠p.1/\a≠p.2:=λa q=>by have:=lt a q;omega
  simp only[List.nodup_cons,List.mem_cons,List.mem_append,List.nodup_append,not_or,List.not_mem_nil,or_false]
  have q1:=far fr .s
  have q2:=far mk .s
  refine⟨⟨f1,f2,f5,q1.1,q1.2⟩,⟨m1,m4,q2.1,q2.2⟩,n1,⟨n4,⟨h3,not_false,List.nodup_nil⟩,λa ha b hb=>?_⟩,λa ha b hb=>?_⟩
  ·rcases hb with rfl | rfl
   ·exact(far a (by simp[ha])).1
   ·exact(far a (by simp[ha])).2
  ·rcases hb with hb | rfl | rfl
   ·exact n5 a ha b hb
   ·exact(far a (by simp[ha])).1
   ·exact(far a (by simp[ha])).2
 ·rw[ZaZ]at q
  have lK:L0<=K.length:=by have:=lo fr .s;omega
  simp only[List.mem_cons,List.mem_append,List.not_mem_nil,or_false]at q
  rcases q with q | q | q | (q | q | q)
  ·exact lo a (by simp[q])
  ·exact lo a (by simp[q])
  ·exact lo a (by simp[q])
  ·exact lo a (by simp[q])
  ·omega
  ·omega
end
end L
open PySem PM TM
namespace L
structure Wl(rs:List T)(tw:T)(nf:Nat)(en:Nat->Int): Prop where
 r:∀h,h<nf->∃r,rs[h]?=some (.lst r)/\(∀x∈r,∃a t b,x=rowT a t b)/\r.length<=9000/\∀q bs,0<=q->q<=en h->ZaH tw ((h:Int),q,bs)=some (r.filter (src q))
def Zlp: Sm:=Zh (ZJ (Zg ZcJ (Zb (Za 8) (Zb (Za 9) (Zb (Zg Zb8 (Zb (Zag (Za 3) (Zae (Za 7)) (Zae (Zc Zw (Za 7) (Zd 1)))) Ze)) Ze))))) (Zk 7 (Zc Zw (Za 7) (Zd 1)))
def Zil: Sm:=ZJ (Zg ZcJ (Zb (Za 8) (Zb (Za 9) (Zb (Zd 0) Ze))))
def Zk2: Sm:=Zh (Zk 10 (Zc Zf (Zc Zf (Za 9) (Zd 0)) (Zd 1))) (ZJ (Zal (Za 5) (Zg Zcb (Zb (Za 0) (Zb (Zc Zf (Za 10) (Zd 2)) (Zb (Z5 (ZU (Zc Zf (Za 10) (Zd 3))) (Zu 102) ZD wlE) Ze))))))
def Zlq: Sm:=Zh (ZJ (Zdq (Za 5))) (ZJ (Zg Zd6 (Zb (Za 1) (Zb (Zc Zf (Za 5) (ZB Zax (Zd 1))) (Zb (Zc Zf (Zc Zf (Za 8) (Zd 2)) (ZB Zax (Zd 1))) Ze)))))
def ZfZ(w:Str): Ts:=Zl (Zc Zx (Zc Zf (Zc Zf (Zc Zf (Za 9) (Zd 0)) (Zd 1)) (Zd 0)) (ZG w))
def Zca: Sm:=Zs (Zl (Zc Zx (Zg ZO (Zb (Za 9) Ze)) (Zd 0))) Zlq (Zs (ZfZ (Str.ofString "call")) Zk2 (Zs (ZfZ (Str.ofString "any")) Zlp Zil))
def ZeD: Sm:=Zs (ZX (Zl (Zc Zx (Zg ZO (Zb (Za 9) Ze)) (Zd 0))) (ZX (Zl (Zc Zx (Zg ZO (Zb (Za 5) Ze)) (Zd 1))) ZD)) (Zn (Za 6)) ZF
def Zgd: Sm:=ZJ (Zal (Za 6) (Zg Zbp (Zb (Zc Zf (Za 5) (ZB Zax (Zd 1))) Ze)))
def ZdH: Sm:=Zh (Zk 8 (Zc Zf (Za 5) (ZB Zax (Zd 1)))) (Zh (Zk 9 (ZeM 1 8)) (Zh ZeD (Zh Zca Zgd)))
section
variable {K:Hp} {fr mk L0:Nat} {ps qs:List (Nat×Nat)} {ms hist:List Mo} {p:Nat×Nat} {m:Mo} {O:Lc}
theorem Zjw(h:K[a]?=some (us++[v])): Zf (.ref a) (.int (-1)) K=some (v,K):=by
 have:seqIndex? (-1) (us++[v]).length=some us.length:=by unfold seqIndex?;simp;lia
 simp only[Zf,h,Ys0,this]
 simp
theorem ZnA{v:Int}(h:K[a]?=some (bs.map V.int))(e:bs.getLast? = some v): Zf (.ref a) (.int (-1)) K=some (.int v,K):=by
 obtain⟨ys,ey⟩:=List.getLast?_eq_some_iff.mp e
 rw[ey,List.map_append]at h
 exact Zjw h
theorem Gm.lastF(G:Gm K fr mk L0 (ps++[p]) (ms++[m]) qs hist): Fm K p m/\Zf (.ref fr) (.int (-1)) K=some (.ref p.1,K):=by
 obtain⟨ps0,pz,e,_,f⟩:=G.fm.last
 obtain⟨e1,e2⟩:=List.append_inj' e rfl
 cases e2
 refine⟨f,Zjw (us:=ps.map λp=>V.ref p.1) ?_⟩
 rw[G.hf]
 simp
theorem ZoI(G:Gm K fr mk L0 (ps++[p]) (ms++[m]) qs hist)(h5:O 5=some (.ref fr))(h6:O 6=some (.ref mk))(hl:m.2.2.length<=60)(hq:hist.length<10000): ∃K' q,Zgd O K=some (none,O,K')/\Gm K' fr mk L0 (ps++[p]) (ms++[m]) (qs++[q]) (hist++[m])/\K.length<=K'.length/\∀a,a<L0->K'[a]?=K[a]?:=by
 obtain⟨f,il⟩:=G.lastF
 obtain⟨X,q,c1,c2,c3,c4,c5⟩:=Zju f hl
 have GX:=G.ext X
 have lq:=G.hs.length
 refine⟨_,q,?_,G.mark X c3 c4 c5 c2,.s,λa la=>?_⟩
 ·have hm:=GX.hm
  have m0:mk≠0:=by have:=G.lo mk .s;have:=G.l0;lia
  have:qs.length<100000:=by lia
  simp[Zgd,ZJ,Zal,Za,h6,Zg,Zb,Ze,Zc,h5,ZB,Zd,il,c1,Za0,hm,m0,ZC,this]
 ·have l1:=G.lo mk .s
  have l2:=G.lt mk .s
  rw[Yy2 .l,Yy0 .l]
end
end L
open PySem PM TM
namespace L
section
variable {K:Hp} {fr mk L0:Nat} {ps qs:List (Nat×Nat)} {ms hist:List Mo} {p:Nat×Nat} {m:Mo} {O:Lc} {z:Nat} {us:List V}
theorem ZeN(h9:O 9=some (.ref z))(hz:K[z]?=some us): Zl (Zc Zx (Zg ZO (Zb (Za 9) Ze)) (Zd 0)) O K=some (us.isEmpty,K):=by
 have:((us.length:Int) == 0)=us.isEmpty:=by cases us <;> simp;lia
 simp[Zl,Zc,Zg,Zb,Ze,Za,h9,ZO,hz,Zd,Zab]
 cases us <;> simp
 omega
theorem ZeE{vh vq:V}{vas vr:List V}(h9:O 9=some (.ref z))(hz:K[z]?=some (V.tup [vh,V.tup (V.str wd::vas),vq]::vr))(hw:PyData.strOk wd=true)(hw':PyData.strOk w=true): ZfZ w O K=some (decide (wd=w),K):=by
 have i0:Zf (.ref z) (.int 0) K=some (V.tup [vh,V.tup (V.str wd::vas),vq],K):=by
  have:seqIndex? 0 (vr.length+1)=some 0:=by unfold seqIndex?;simp
  simp[Zf,hz,this]
 simp[ZfZ,Zl,Zc,Za,h9,Zd,i0,i31,ia0,ZG,ZhZ hw hw',Zab]
theorem Zko{a:Int}(r:∃F,RFs K us (rowT a (.tup (.str wd::tas)) q::l) F/\∀x∈F,P x): ∃vh vas vr,us=V.tup [vh,V.tup (V.str wd::vas),V.int q]::vr:=by
 obtain⟨v,vr,rfl,d0,d1⟩:=ZV r
 unfold rowT at d0
 obtain⟨vs3,rfl,d1⟩:=d0.tup
 obtain⟨vh,_,rfl,_,d1⟩:=ZV d1
 obtain⟨va,_,rfl,d2,d1⟩:=ZV d1
 obtain⟨vq,_,rfl,d3,d1⟩:=ZV d1
 have:=Zby d1;subst this
 have:=d3.int;subst this
 obtain⟨vas,rfl,d4⟩:=d2.tup
 obtain⟨w0,wr,rfl,d5,_⟩:=ZV d4
 have:=d5.str;subst this
 exact⟨vh,wr,vr,rfl⟩
def Aft(K:Hp)(fr mk L0:Nat)(qs:List (Nat×Nat))(hist:List Mo)(O:Lc)(s':RS)(r:Option (Option V×Lc×Hp)): Prop:=∃U K' ps p,r=some (none,U,K')/\Gm K' fr mk L0 (ps++[p]) (s'.wt.map (·.1)++[s'.m]) qs hist/\K.length<=K'.length/\(∀a,a<L0->K'[a]?=K[a]?)/\(∀i,i≠7->i≠10->U i=O i)/\U 7=some (.int s'.n)
theorem ZhO{n n':Nat}{pick:Int}(G:Gm K fr mk L0 (ps++[p]) (wt.map (·.1)++[m]) qs hist)(hz:K[z]?=some us)(r:∃F,RFs K us l F/\∀a∈F,a<L0)(e:goL m.2.2 pick l=some (q,bs')): ∃K' p',ZcJ [.ref p.1,.ref z,.int pick] K=some (.bool true,K')/\Gm K' fr mk L0 (ps++[p']) (wt.map (·.1)++[(m.1,q,bs')]) qs hist/\K.length<=K'.length/\∀a,a<L0->K'[a]?=K[a]?:=by
 obtain⟨f,_⟩:=G.lastF
 have lo1:=G.lo p.1 (by rw[ZaZ];simp)
 have l0:=G.l0
 have lt1:=lt_of_at f.1
 have lt2:=lt_of_at f.2
 obtain⟨Y,b,g1,g2,g3⟩:=Zqd f .l hz r e
 refine⟨_,(p.1,b),g1,G.turn (λa la h1 h2=>?_) rfl (.inr g3) ⟨?_,?_⟩,.s,λa la=>?_⟩
 ·rw[Yy2 (Ne.symm h1),Yy0 la]
 ·exact Yy6 (by simp;lia)
 ·rw[Yy2 (by simp;lia)];exact g2
 ·rw[Yy2 .l,Yy0 .l]
theorem Zqe{fns:List T}{tw:T}{sig:Nat->Nat×Nat}{s:RS}{kk:Nat}(G:Gm K fr mk L0 (ps++[p]) (s.wt.map (·.1)++[s.m]) qs hist)(hz:K[z]?=some us)(r:∃F,RFs K us [rowT s.m.2.1 (.tup (.str wd::as)) q] F/\∀a∈F,a<L0)(rk:K[kk]?=some (ks.map V.int))(h3:O 3=some (.ref kk))(h7:O 7=some (.int s.n))(h8:O 8=some (.ref p.1))(h9:O 9=some (.ref z))(hw:PyData.strOk wd=true)(hc:wd≠Str.ofString "call")(hg:Zbb [Zm s.m.2.2,.tup (.str wd::as),.int (Zan ks s.n wd).2]=some (Zm bs)): Aft K fr mk L0 qs hist O ⟨(Zan ks s.n wd).1,s.wt,(s.m.1,q,bs)⟩ (Zca O K):=by
 obtain⟨vh,vas,vr,rfl⟩:=Zko r
 have t1:=ZeN h9 hz
 have t2:=ZeE (w:=Str.ofString "call") h9 hz hw .D
 have t3:=ZeE (w:=Str.ofString "any") h9 hz hw .D
 rw[decide_eq_false hc]at t2
 have go:goL s.m.2.2 (Zan ks s.n wd).2 [rowT s.m.2.1 (.tup (.str wd::as)) q]=some (q,bs):=by
  simp only[goL,rowT,ZcX,un3,ZaX,unI,Ys1,Ys0,hg]
  show(Zbg (Zm bs)).map _=_
  rw[Zdz]
  rfl
 unfold Zca
 rw[ZcD t1,ZcD t2]
 by_cases c:wd=Str.ofString "any"
 ·rw[decide_eq_true c]at t3
  rw[ZeL t3]
  have np:Zan ks s.n wd=(s.n+1,ks.getD s.n 0):=by unfold Zan;rw[if_pos c]
  rw[np]at go ⊢
  obtain⟨l,pl,ps0⟩:=Znz ks s.n
  have GX:=G.ext [l.map V.int]
  have hzX:(K++[l.map V.int])[z]?=some (V.tup [vh,V.tup (V.str wd::vas),V.int q]::vr):=(Yy0 (lt_of_at hz)).trans hz
  have rX:∃F,RFs (K++[l.map V.int]) (V.tup [vh,V.tup (V.str wd::vas),V.int q]::vr) [rowT s.m.2.1 (.tup (.str wd::as)) q] F/\∀a∈F,a<L0:=by
   obtain⟨F,r1,r2⟩:=r
   exact⟨F,r1.ext _,r2⟩
  obtain⟨K',p',g1,g2,g3,g4⟩:=ZhO (wt:=s.wt) (n:=0) (n':=0) GX hzX rX go
  refine⟨Zi O 7 (.int (s.n+1:Nat)),K',ps,p',?_,g2,by simp at g3;lia,λa la=>?_,λi h _=>by simp[Zi,h],by simp[Zi]⟩
  ·unfold Zlp
   have sl:Zag (Za 3) (Zae (Za 7)) (Zae (Zc Zw (Za 7) (Zd 1))) O K=some (.ref K.length,K++[l.map V.int]):=by
    simp[Zag,Za,h3,Zae,h7,Zc,Zd,Zdl,rk,pl]
   have sm:Zb8 [.ref K.length] (K++[l.map V.int])=some (.int (ks.getD s.n 0),K++[l.map V.int]):=by
    simp[Zb8,ZoH,ps0]
   have ev9:∀H,Za 9 O H=some (V.ref z,H):=λH=>by simp[Za,h9]
   have ev8:∀H,Za 8 O H=some (V.ref p.1,H):=λH=>by simp[Za,h8]
   rw[Z7 (B:=O) (H1:=K') (by
    simp only[ZJ,Zg,Zb,Ze,ev8,ev9,Ys0,sl,sm,g1,Ys1])]
   simp[Zk,Zc,Za,h7,Zd]
  ·have:=G.lo p.1 (by rw[ZaZ];simp)
   have l1:=lt_of_at G.lastF.1.1
   rw[g4 a la,Yy0 .l]
 ·rw[decide_eq_false c]at t3
  rw[ZcD t3]
  have np:Zan ks s.n wd=(s.n,0):=by unfold Zan;rw[if_neg c]
  rw[np]at go ⊢
  obtain⟨K',p',g1,g2,g3,g4⟩:=ZhO (wt:=s.wt) (n:=0) (n':=0) G hz r go
  refine⟨O,K',ps,p',?_,g2,g3,g4,λi _ _=>rfl,h7⟩
  simp[Zil,ZJ,Zg,Zb,Ze,Za,h8,h9,Zd,g1]
theorem ZoJ{s:RS}{a:Int}{rr:Bool}(G:Gm K fr mk L0 (ps++[p]) (s.wt.map (·.1)++[s.m]) qs hist)(hz:K[z]?=some us)(r:∃F,RFs K us [rowT s.m.2.1 (Zah c true) a,rowT s.m.2.1 (Zah c false) b] F/\∀a∈F,a<L0)(h7:O 7=some (.int s.n))(h8:O 8=some (.ref p.1))(h9:O 9=some (.ref z))(hn:s.m.2.2.length<=60)(hc:ClOk s.m.2.2.length c)(hr:ZbK [c,Zm s.m.2.2]=some (.bool rr)): Aft K fr mk L0 qs hist O ⟨s.n,s.wt,(s.m.1,if rr then a else b,s.m.2.2)⟩ (Zca O K):=by
 have g1:=Zhc (b:=true) (p:=0) hr
 have g2:=Zhc (b:=false) (p:=0) hr
 have go:goL s.m.2.2 0 [rowT s.m.2.1 (Zah c true) a,rowT s.m.2.1 (Zah c false) b]=some (if rr then a else b,s.m.2.2):=by
  cases rr with
  | true=>
   rw[if_pos rfl]at g1
   simp only[goL,rowT,ZcX,un3,ZaX,unI,Ys1,Ys0,g1]
   show(Zbg (Zm s.m.2.2)).map _=_
   rw[Zdz]
   rfl
  | false=>
   rw[if_neg .d]at g1
   rw[if_pos rfl]at g2
   simp only[goL,rowT,ZcX,un3,ZaX,unI,Ys1,Ys0,g1,g2]
   show(Zbg (Zm s.m.2.2)).map _=_
   rw[Zdz]
   rfl
 obtain⟨vh,vas,vr,hus⟩:=Zko (wd:=Str.ofString "when") (tas:=[c,.bool true]) r
 rw[hus]at hz
 have hw:PyData.strOk (Str.ofString "when")=true:=by decide +kernel
 have t1:=ZeN h9 hz
 have t2:=ZeE (w:=Str.ofString "call") h9 hz hw .D
 have t3:=ZeE (w:=Str.ofString "any") h9 hz hw .D
 rw[decide_eq_false .D]at t2 t3
 rw[<-hus]at hz
 unfold Zca
 rw[ZcD t1,ZcD t2,ZcD t3]
 obtain⟨K',p',g1,g2,g3,g4⟩:=ZhO (wt:=s.wt) (n:=0) (n':=0) G hz r go
 refine⟨O,K',ps,p',?_,g2,g3,g4,λi _ _=>rfl,h7⟩
 simp[Zil,ZJ,Zg,Zb,Ze,Za,h8,h9,Zd,g1]
end
end L
open PySem PM TM
namespace L
section
variable {K:Hp} {fr mk L0:Nat} {ps qs:List (Nat×Nat)} {ms hist:List Mo} {p:Nat×Nat} {m:Mo} {O:Lc} {z:Nat} {us:List V}
theorem ZnB{s:RS}{X:Nat}{body:List T}(G:Gm K fr mk L0 (ps++[p]) (s.wt.map (·.1)++[s.m]) qs hist)(hz:K[z]?=some us)(r:∃F,RFs K us [rowT s.m.2.1 (callT X g sums) q] F/\∀a∈F,a<L0)(rp:RFo K vp (.lst fns) (· < L0))(h0:O 0=some vp)(h5:O 5=some (.ref fr))(h7:O 7=some (.int s.n))(h8:O 8=some (.ref p.1))(h9:O 9=some (.ref z))(hn:s.m.2.2.length<=60)(hgv:Zcf s.m.2.2 sums=some gv)(hgl:gv.length=(sig g).1)(hf:fns[g]?=some (.tup [.int (sig g).1,.int (sig g).2,.lst body]))(hs:∀t∈sums,∃c,t=ZaS s.m.2.2.length c/\Sh s.m.2.2.length c)(hsl:sums.length=(sig g).1)(sg:(sig g).1<=(sig g).2/\(sig g).2<=4)(hwt:s.wt.length<1000): Aft K fr mk L0 qs hist O ⟨s.n,s.wt++[(s.m,rowT s.m.2.1 (callT X g sums) q)],((g:Int),0,gv++List.replicate ((sig g).2-(sig g).1) 0)⟩ (Zca O K):=by
 obtain⟨v,vr,hus,d0,d1⟩:=ZV r
 have:=Zby d1;subst this
 unfold rowT callT at d0
 obtain⟨vs3,rfl,d1⟩:=d0.tup
 obtain⟨vh,_,rfl,_,d1⟩:=ZV d1
 obtain⟨va,_,rfl,d2,d1⟩:=ZV d1
 obtain⟨vq,_,rfl,d3,d1⟩:=ZV d1
 have:=Zby d1;subst this
 obtain⟨vas,rfl,d4⟩:=d2.tup
 obtain⟨v1,_,rfl,e1,d41⟩:=ZV d4
 obtain⟨v2,_,rfl,_,d42⟩:=ZV d41
 obtain⟨v3,_,rfl,d5,d43⟩:=ZV d42
 obtain⟨v4,_,rfl,d6,d44⟩:=ZV d43
 have:=Zby d44;subst this
 have:=e1.str;subst this
 have:=d5.int;subst this
 obtain⟨d,vs,rfl,hd,_,rs⟩:=d6.lst
 rw[hus]at hz
 have hw:PyData.strOk (Str.ofString "call")=true:=by decide +kernel
 have t1:=ZeN h9 hz
 have t2:=ZeE (w:=Str.ofString "call") h9 hz hw hw
 rw[decide_eq_true rfl]at t2
 obtain⟨f,_⟩:=G.lastF
 have lvs:vs.length=sums.length:=by obtain⟨F,r,_⟩:=rs;exact r.length
 generalize hact:V.tup [V.str (Str.ofString "call"),v2,V.int (g:Int),V.ref d]=act at *
 obtain⟨Y,gl⟩:=Zkn (P:=(· < L0)) (O:=Zi O 10 act) (d:=d) (by simp[Zi,h8]) f hn hd sums 0 [] gv [] (λj t e=>by rw[Nat.zero_add];exact Zcg rs e) .l hgv hs (by rw[ZC];simp;lia)
 simp only[List.map_nil,List.append_nil,List.nil_append]at gl
 have G1:=(G.ext Y).ext [gv.map V.int]
 have hz1:(K++Y++[gv.map V.int])[(K++Y).length]?=some (gv.map V.int):=by simp
 have l0K:L0<=K.length:=by have:=G.lo fr .s;have:=G.lt fr .s;lia
 have rp1:RFo (K++Y++[gv.map V.int]) vp (.lst fns) (· < L0):=rp.keep λa la _=>by rw[List.append_assoc,Yy0 .o]
 obtain⟨X2,p',b1,b2,b3,b4,b5⟩:=ZiW rp1 hz1 hf hgl .l sg.1
 have G2:=G1.push X2 b3 b4 b5 b2
 have lps:=G.fm.length
 have hff:=(G1.ext X2).hf
 have k9:∀a,a<K.length->(K++Y++[gv.map V.int]++X2)[a]?=K[a]?:=λa la=>by
  rw[List.append_assoc,List.append_assoc,Yy0 la]
 have l9:K.length<=(K++Y++[gv.map V.int]++X2).length:=by simp
 generalize hK9:K++Y++[gv.map V.int]++X2=K9 at *
 have ems:(s.wt++[(s.m,rowT s.m.2.1 (callT X g sums) q)]).map (·.1)=s.wt.map (·.1)++[s.m]:=by simp
 refine⟨Zi O 10 act,K9.set fr ((ps++[p]++[p']).map λp=>V.ref p.1),ps++[p],p',?_,by dsimp only;rw[ems];exact G2,by simpa using l9,λa la=>?_,λi _ h=>by simp[Zi,h],by simp[Zi,h7]⟩
 ·unfold Zca
  rw[ZcD t1,ZeL t2]
  unfold Zk2
  have i0:Zf (.ref z) (.int 0) K=some (V.tup [vh,act,vq],K):=by
   simp only[Zf,hz];rfl
  rw[Z7 (B:=Zi O 10 act) (H1:=K) (by simp[Zk,Zc,Za,h9,Zd,i0,i31])]
  have j2:∀H,Zf act (.int 2) H=some (.int (g:Int),H):=λH=>by rw[<-hact];rfl
  have j3:∀H,Zf act (.int 3) H=some (.ref d,H):=λH=>by rw[<-hact];rfl
  have cmp:Z5 (ZU (Zc Zf (Za 10) (Zd 3))) (Zu 102) ZD wlE (Zi O 10 act) K=some (.ref (K++Y).length,K++Y++[gv.map V.int]):=by
   have ev:ZU (Zc Zf (Za 10) (Zd 3)) (Zi O 10 act) K=some (ZH d,vs.length+1,K):=by
    simp[ZU,Zc,Za,Zi,Zd,j3,hd]
   unfold Z5
   rw[ev,lvs]
   simp only[Ys0]
   rw[gl]
   rfl
  have ev0:∀H,Za 0 (Zi O 10 act) H=some (vp,H):=λH=>by simp[Za,Zi,h0]
  have ev5:∀H,Za 5 (Zi O 10 act) H=some (.ref fr,H):=λH=>by simp[Za,Zi,h5]
  have e2:∀H,Zc Zf (Za 10) (Zd 2) (Zi O 10 act) H=some (.int (g:Int),H):=λH=>by simp[Zc,Za,Zi,Zd,j2]
  have f0:fr≠0:=by have:=G.lo fr .s;have:=G.l0;lia
  have lpp:(ps++[p]).length<100000:=by rw[lps];simp;lia
  have ap:Za0 [.ref fr,.ref p'.1] K9=some (.none,K9.set fr ((ps++[p]++[p']).map λp=>V.ref p.1)):=by
   simp only[Za0,hff,Ys0]
   rw[if_pos ⟨f0,by rw[ZC,List.length_map];exact lpp⟩,List.map_append (l₂:=[p'])]
   rfl
  simp only[ZJ,Zal,Zg,Zb,Ze,ev0,ev5,e2,cmp,Ys0,b1,Ys1,ap]
 ·have:=G.lo fr .s
  rw[Yy2 .l,k9 a .l]
theorem ZnC{s:RS}{X:Nat}{rs:List T}{a:Int}(hwt:s.wt=wt++[(m,rowT m.2.1 (callT X g sums) q)])(G:Gm K fr mk L0 ps (s.wt.map (·.1)++[s.m]) qs hist)(hz:K[z]?=some [])(r:RFo K vw (.lst rs) (· < L0))(e1:Zb9 rs m.1=some (.lst l))(hrow:∀x∈l,∃a t b,x=rowT a t b)(hl:l.length<=9000)(hf:l.filter (src m.2.1)=[rowT m.2.1 (callT X g sums) q])(ha:s.m.2.2.getLast? = some a)(hX:X<m.2.2.length)(h1:O 1=some vw)(h5:O 5=some (.ref fr))(h7:O 7=some (.int s.n))(h8:∀p0 p,ps=p0++[p]->O 8=some (.ref p.1))(h9:O 9=some (.ref z)): Aft K fr mk L0 qs hist O ⟨s.n,wt,(m.1,q,m.2.2.set X a)⟩ (Zca O K):=by
 rw[hwt,List.map_append]at G
 simp only[List.map_cons,List.map_nil]at G
 obtain⟨ps1,p,rfl,fms,fp⟩:=G.fm.last
 obtain⟨ps0,p',rfl,_,fp'⟩:=fms.last
 have h8:=h8 _ p rfl
 have t1:=ZeN h9 hz
 have G1:=G.pop
 have lf:=lt_of_at G.hf
 have lo:=G.lo
 have nd:=G.nd
 have l0:=G.l0
 have loF:=lo fr .s
 have fl:∀a,a≠fr->(K.set fr ((ps0++[p']).map λp=>V.ref p.1))[a]?=K[a]?:=λa h=>Yy2 (Ne.symm h)
 have pf:p.1≠fr/\p.2≠fr:=by
  rw[ZaZ,ZaZ]at nd
  simp only[List.nodup_cons,List.mem_cons,List.mem_append,not_or,List.not_mem_nil,or_false]at nd
  have:=nd.1
  exact⟨λh=>by simp[h]at this,λh=>by simp[h]at this⟩
 have fpK:=fp.keep (K':=K.set fr ((ps0++[p']).map λp=>V.ref p.1)) (fl _ pf.1) (fl _ pf.2)
 have hset:K.set fr ((ps0++[p']).map λp=>V.ref p.1)=K.set fr ((ps0++[p']).map λp=>V.ref p.1):=rfl
 have rK:RFo (K.set fr ((ps0++[p']).map λp=>V.ref p.1)) vw (.lst rs) (· < L0):=r.keep λa la _=>fl a .l
 have lenK:(K.set fr ((ps0++[p']).map λp=>V.ref p.1)).length=K.length:=by simp
 have pop:ZJ (Zdq (Za 5)) O K=some (none,O,K.set fr ((ps0++[p']).map λp=>V.ref p.1)):=by
  have hff:=G.hf
  have f0:fr≠0:=by lia
  have:(ps0++[p']++[p]).map (λp=>V.ref p.1)=(ps0++[p']).map (λp=>V.ref p.1)++[V.ref p.1]:=by simp
  rw[this]at hff
  simp only[ZJ,Zdq,Za,h5,Ys1,Ys0,Zgh,hff,List.getLast?_concat,List.dropLast_concat]
  rw[if_pos f0]
  rfl
 generalize hK1:K.set fr ((ps0++[p']).map λp=>V.ref p.1)=K1 at *
 obtain⟨f',il⟩:=G1.lastF
 have mem1:p'.1∈fr::mk::(adr (ps0++[p'])++adr qs):=by rw[ZaZ];simp
 have mem2:p'.2∈fr::mk::(adr (ps0++[p'])++adr qs):=by rw[ZaZ];simp
 have lo1:=G1.lo _ mem1
 have lo2:=G1.lo _ mem2
 have pp:p'.1≠p'.2:=by
  have nd:=G1.nd
  rw[ZaZ]at nd
  intro h
  simp only[List.nodup_cons,List.nodup_append,h]at nd
  simp at nd
 obtain⟨us2,bk⟩:=Znx (ans:=a) f' .l .l pp rK e1 hrow hl hf hX
 have lt1:=lt_of_at f'.1
 have lt2:=lt_of_at f'.2
 refine⟨O,((K1++[us2]).set p'.2 ((m.2.2.set X a).map V.int)).set p'.1 [.int m.1,.int q,.ref p'.2],ps0,p',?_,(G1.ext [us2]).turn (λx lx h1 h2=>?_) rfl (.inl rfl) ⟨Yy6 (by simp;lia),?_⟩,by simp;lia,λx lx=>?_,λi _ _=>rfl,h7⟩
 ·unfold Zca
  rw[ZeL t1]
  unfold Zlq
  rw[Z7 pop]
  have la:Zf (.ref p.2) (.int (-1)) K1=some (.int a,K1):=ZnA fpK.2 ha
  simp[ZJ,Zg,Zb,Ze,Za,h1,Zc,h5,ZB,Zd,il,h8,Zgc fpK,la,bk,List.map_set]
 ·rw[Yy2 (Ne.symm h1),Yy2 (Ne.symm h2)]
 ·rw[Yy2 pp]
  exact Yy6 (by simp;lia)
 ·rw[Yy2 .l,Yy2 .l,Yy0 .l,fl x .l]
end
inductive Bl: Nat->T->Prop where
 | none {n:Nat}:Bl n .none
 | bool {n:Nat} {b:Bool}:Bl n (.bool b)
 | int {n:Nat} {i:Int}:Bl n (.int i)
 | str {n:Nat} {x:Str}:PyData.strOk x=true->Bl n (.str x)
 | tup {n:Nat} {ts:List T}:(∀t∈ts,Bl n t)->ts.length<=10000->Bl (n+1) (.tup ts)
 | lst {n:Nat} {ts:List T}:(∀t∈ts,Bl n t)->ts.length<=10000->Bl (n+1) (.lst ts)
theorem Bl.mono(h:Bl n t): ∀{m:Nat},n<=m->Bl m t:=by
 induction h with
 | none=>intro m _;exact .none
 | bool=>intro m _;exact .bool
 | int=>intro m _;exact .int
 | str h=>intro m _;exact .str h
 | tup hs hl ih=>
  intro m hm
  cases m with
  | zero=>lia
  | succ m=>exact .tup (λt a=>ih t a .l) hl
 | lst hs hl ih=>
  intro m hm
  cases m with
  | zero=>omega
  | succ m=>exact .lst (λt a=>ih t a .o) hl
theorem Bl.dat(h:Bl n t): Zco n t=some (dd t)/\PyData.canLay0 (dd t)=true/\PyData.depth (dd t)<=n:=by
 induction h with
 | @none n=>cases n <;> exact⟨rfl,rfl,by simp[dd,PyData.depth]⟩
 | @bool n b=>cases n <;> exact⟨rfl,rfl,by simp[dd,PyData.depth]⟩
 | @int n i=>cases n <;> exact⟨rfl,rfl,by simp[dd,PyData.depth]⟩
 | @str n x h=>cases n <;> exact⟨rfl,by simpa [dd,PyData.canLay0]using h,by simp[dd,PyData.depth]⟩
 | @tup n ts _ _ ih=>
  refine⟨?_,?_,?_⟩
  ·simp only[Zco,Zhm λt m=>(ih t m).1,Ys1,dd]
  ·simp only[dd,PyData.canLay0];exact ZhE λt m=>(ih t m).2.1
  ·simp only[dd,PyData.depth]
   have:=ZhF λt m=>(ih t m).2.2
   lia
 | @lst n ts _ _ ih=>
  refine⟨?_,?_,?_⟩
  ·simp only[Zco,Zhm λt m=>(ih t m).1,Ys1,dd]
  ·simp only[dd,PyData.canLay0];exact ZhE λt m=>(ih t m).2.1
  ·simp only[dd,PyData.depth]
   have:=ZhF λt m=>(ih t m).2.2
   omega
theorem Zhe: ∀{ts:List T},(∀t∈ts,PyData.eqv (dd t) (dd t)=true)->PyData.eqvAll (dds ts) (dds ts)=true
 | [],_=>by simp[dds,PyData.eqvAll]
 | t::ts,h=>by
  simp only[dds,PyData.eqvAll,Bool.and_eq_true,h t Zz5,Zhe λt m=>h t (Zz2 _ m),and_self]
theorem Bl.eqv(h:Bl n t): PyData.eqv (dd t) (dd t)=true:=by
 induction h with
 | none=>simp[dd,PyData.eqv]
 | bool=>simp[dd,PyData.eqv]
 | int=>simp[dd,PyData.eqv]
 | str _=>simp[dd,PyData.eqv]
 | tup hs _ ih=>simp only[dd,PyData.eqv];exact Zhe ih
 | lst hs _ ih=>simp only[dd,PyData.eqv];exact Zhe ih
theorem ZnD{a:T}(ha:Bl n a)(hn:n<=40:=by decide): ZeI a a=some true:=by
 have ha:=ha.mono hn
 obtain⟨a1,a2,a3⟩:=ha.dat
 unfold ZeI ZaM
 rw[a1]
 simp only[Ys0]
 have hs:SeqAt.shaped (dd a)=true:=by simp only[SeqAt.shaped,a2,Bool.true_and,decide_eq_true_eq];lia
 rw[if_pos ⟨hs,hs⟩,ha.eqv]
section
variable {Q:T->Prop}
theorem Zqf{a:T}(ha:Bl n a)(h:Q (.bool false))(hn:n<=40:=by decide): Pk (qNe a a) Q:=⟨_,by simp only[qNe,ZnD ha hn,Ys1];rfl,h⟩
end
theorem Nice.blr(h:Nice n t): Bl n t:=by
 induction h with
 | none=>exact .none
 | bool b=>exact .bool
 | int i=>exact .int
 | str h=>exact .str h
 | tup hl _ ih=>exact .tup ih .l
 | lst hl _ ih=>exact .lst ih .o
theorem Zfg{l:List Int}(h:l.length<=60): Nice (n+1) (Zm l):=.lst (by simp;lia) (λt m=>by
 obtain⟨k,_,rfl⟩:=Zz11.mp m
 exact .int _)
def m0r(sig:Nat->Nat×Nat)(last:Nat)(ss:List Int): Mo:=((last:Int),0,ss++List.replicate ((sig last).2-(sig last).1) 0)
theorem ZiI{tp tw:T}{ks:List Int}: ∀{k:Nat} {s:RS} {r:List Mo×Nat},Zbl tp tw ks k s=some r->r.1.length<=k
 | 0,s,r,e=>by cases e;simp
 | k+1,s,r,e=>by
  obtain⟨q,e1,e⟩:=Zz0.mp e
  cases q with
  | true=>rw[if_pos rfl]at e;cases e;simp
  | false=>
   rw[if_neg .d]at e
   obtain⟨s',e2,e⟩:=Zz0.mp e
   obtain⟨r',e3,rfl⟩:=Zz1.mp e
   have:=ZiI e3
   simp
   omega
theorem Zqg{r:List Mo×Nat}(P:PrOk fns sig)(h1:1<=fns.length)(hss:ss.length=(sig (fns.length-1)).1)(s9:steps<=900)(hw:ZcH [.lst fns]=some tw)(hm:Zbl (.lst fns) tw ks steps.toNat ⟨0,[],m0r sig (fns.length-1) ss⟩=some r): ZdO [.lst fns,Zm ss,Zm ks,.int steps]=some (.lst ((m0r sig (fns.length-1) ss::r.1).map ZcW)):=by
 obtain⟨b,r0,e,f1,_⟩:=P.fn (fns.length-1) .o
 obtain⟨q1,q2,q3⟩:=P.sg (fns.length-1)
 have hmain:Zie fns=some ((sig (fns.length-1)).1:Int):=by
  have:fns.getLast? = some (.tup [.int (sig (fns.length-1)).1,.int (sig (fns.length-1)).2,.lst b]):=by
   rw[List.getLast?_eq_getElem?];exact f1
  simp[Zie,this]
 have hf:Zdh (.lst fns) ((fns.length:Int)-1) ss=some (m0r sig (fns.length-1) ss):=by
  have:=Zjq (gv:=ss) f1 hss .l q1
  rw[show((fns.length-1:Nat):Int)=(fns.length:Int)-1 by lia]at this
  rw[this]
  unfold m0r
  rw[show((fns.length-1:Nat):Int)=(fns.length:Int)-1 by omega]
 simp only[ZdO,Zdz,Ys0,hmain]
 rw[if_pos ⟨by rw[hss],.l⟩]
 simp only[hw,Ys0,hf,Zkf hm,Ys1]
end L
open PySem PM TM
namespace L
section
variable {K:Hp} {fr mk L0:Nat} {ps qs:List (Nat×Nat)} {hist:List Mo} {O:Lc} {fns rs:List T} {tw:T} {sig:Nat->Nat×Nat} {nf:Nat} {en:Nat->Int} {ks:List Int} {s s':RS} {vp vw:V} {kk:Nat}
theorem Wl.at(W:Wl rs tw nf en){h:Nat}{m:Mo}(M:IsM sig nf en h m): ∃r,Zb9 rs m.1=some (.lst r)/\(∀x∈r,∃a t b,x=rowT a t b)/\r.length<=9000/\ZaH tw m=some (r.filter (src m.2.1)):=by
 obtain⟨r,h1,h2,h3,h4⟩:=W.r h M.hn
 obtain⟨f,q,bs⟩:=m
 have:=M.f
 dsimp only at this
 subst this
 exact⟨r,ZhM (by dsimp only;lia) (by simpa using h1),h2,h3,h4 q bs M.p0 M.pe⟩
theorem Zkp(WL:Wl rs tw nf en)(I:Inv tw sig nf en s)(G:Gm K fr mk L0 ps (s.wt.map (·.1)++[s.m]) qs hist)(rw_:RFo K vw (.lst rs) (· < L0))(h1:O 1=some vw)(h5:O 5=some (.ref fr)): ∃l us p0 p,ZaH tw s.m=some l/\ps=p0++[p]/\(∃F,RFs K us l F/\∀a∈F,a<L0)/\ZdH O K=Zh ZeD (Zh Zca Zgd) (Zi (Zi O 8 (.ref p.1)) 9 (.ref K.length)) (K++[us]):=by
 obtain⟨h,M,_⟩:=I.m
 obtain⟨r,e1,hrow,hl,hr⟩:=WL.at M
 obtain⟨p0,p,rfl,_,_⟩:=G.fm.last
 obtain⟨f,il⟩:=G.lastF
 obtain⟨us,g1,g2⟩:=Zkl (O:=Zi O 8 (.ref p.1)) (i:=1) (j:=8) (by simp[Zi,h1]) (by simp[Zi]) .d rw_ e1 hrow f hl
 refine⟨_,us,p0,p,hr,rfl,g2,?_⟩
 unfold ZdH
 rw[Z7 (B:=Zi O 8 (.ref p.1)) (H1:=K) (by simp[Zk,Zc,Za,h5,ZB,Zd,il])]
 rw[Z7 (B:=Zi (Zi O 8 (.ref p.1)) 9 (.ref K.length)) (H1:=K++[us]) (by simp[Zk,g1])]
theorem Zjx{z:Nat}(h9:O 9=some (.ref z))(hz:K[z]?=some us)(h5:O 5=some (.ref fr))(hf:K[fr]?=some (ps.map λp=>V.ref p.1)): ZX (Zl (Zc Zx (Zg ZO (Zb (Za 9) Ze)) (Zd 0))) (ZX (Zl (Zc Zx (Zg ZO (Zb (Za 5) Ze)) (Zd 1))) ZD) O K=some (us.isEmpty && decide (ps.length=1),K):=by
 have t1:=ZeN h9 hz
 have t2:Zl (Zc Zx (Zg ZO (Zb (Za 5) Ze)) (Zd 1)) O K=some (decide (ps.length=1),K):=by
  have:((ps.length:Int) == 1)=decide (ps.length=1):=by
   by_cases c:ps.length=1
   ·simp[c]
   ·rw[decide_eq_false c];simp;lia
  simp only[Zl,Zc,Zg,Zb,Ze,Za,h5,Ys1,Ys0,ZO,hf,Zd,List.length_map,Zgf,Zab,this]
 simp only[ZX,t1,Ys0]
 cases us.isEmpty with
 | false=>simp
 | true=>simp only[if_true,t2,Ys0,ZD,Bool.true_and];cases decide (ps.length=1) <;> simp
theorem ZnE(WL:Wl rs tw nf en)(I:Inv tw sig nf en s)(G:Gm K fr mk L0 ps (s.wt.map (·.1)++[s.m]) qs hist)(rw_:RFo K vw (.lst rs) (· < L0))(h1:O 1=some vw)(h5:O 5=some (.ref fr))(h6:O 6=some (.ref mk))(he:ZbO tw s=some true): ∃U us,ZdH O K=some (some (.ref mk),U,K++[us]):=by
 obtain⟨l,us,p0,p,hl,rfl,⟨F,r,_⟩,eb⟩:=Zkp WL I G rw_ h1 h5
 obtain⟨l',e1,e2⟩:=Zz1.mp he
 rw[hl]at e1
 cases e1
 simp only[Bool.and_eq_true,List.isEmpty_iff]at e2
 obtain⟨rfl,hw⟩:=e2
 have:us=[]:=by have:=r.length;simpa using this
 subst this
 have lps:=G.fm.length
 rw[hw]at lps
 simp at lps
 refine⟨Zi (Zi O 8 (.ref p.1)) 9 (.ref K.length),[],?_⟩
 rw[eb]
 have t:=Zjx (O:=Zi (Zi O 8 (.ref p.1)) 9 (.ref K.length)) (K:=K++[[]]) (ps:=p0++[p]) (us:=[]) (z:=K.length) (fr:=fr) (by simp[Zi]) .s (by simp[Zi,h5]) ((G.ext [[]]).hf)
 rw[show(([]:List V).isEmpty && decide ((p0++[p]).length=1))=true by simp[lps]]at t
 refine seq_ret ?_
 unfold ZeD
 rw[ZeL t]
 simp only[Zn,Za,Zi,h6]
 rfl
theorem ZoK(W:Wp fns tw sig nf en)(hnf:nf<=100)(WL:Wl rs tw nf en)(I:Inv tw sig nf en s)(G:Gm K fr mk L0 ps (s.wt.map (·.1)++[s.m]) qs hist)(rp:RFo K vp (.lst fns) (· < L0))(rw_:RFo K vw (.lst rs) (· < L0))(rk:K[kk]?=some (ks.map V.int))(kl:kk<L0)(h0:O 0=some vp)(h1:O 1=some vw)(h3:O 3=some (.ref kk))(h5:O 5=some (.ref fr))(h6:O 6=some (.ref mk))(h7:O 7=some (.int s.n))(hq:hist.length<10000)(he:ZbO tw s=some false)(st:Stp fns tw sig ks s s')(I':Inv tw sig nf en s'):
  ∃U K' ps' qs',ZdH O K=some (none,U,K')/\Gm K' fr mk L0 ps' (s'.wt.map (·.1)++[s'.m]) qs' (hist++[s'.m])/\K.length<=K'.length/\(∀a,a<L0->K'[a]?=K[a]?)/\(∀i,i<7->U i=O i)/\U 7=some (.int s'.n):=by
 obtain⟨l,us,p0,p,hl,rfl,r,eb⟩:=Zkp WL I G rw_ h1 h5
 generalize k:Zi (Zi O 8 (.ref p.1)) 9 (.ref K.length)=B at *
 have G1:=G.ext [us]
 have lK:L0<=K.length:=by have:=G.lo fr .s;have:=G.lt fr .s;lia
 have kx:∀a,a<L0->(K++[us])[a]?=K[a]?:=λa la=>Yy0 .l
 have q0:B 0=some vp:=by rw[<-k];simp[Zi,h0]
 have q1:B 1=some vw:=by rw[<-k];simp[Zi,h1]
 have q3:B 3=some (.ref kk):=by rw[<-k];simp[Zi,h3]
 have q5:B 5=some (.ref fr):=by rw[<-k];simp[Zi,h5]
 have q6:B 6=some (.ref mk):=by rw[<-k];simp[Zi,h6]
 have q7:B 7=some (.int s.n):=by rw[<-k];simp[Zi,h7]
 have q8:B 8=some (.ref p.1):=by rw[<-k];simp[Zi]
 have q9:B 9=some (.ref K.length):=by rw[<-k];simp[Zi]
 have old:∀i,i<8->B i=O i:=λi hi=>by rw[<-k];simp[Zi,show i≠8 by lia,show i≠9 by lia]
 have hz:(K++[us])[K.length]?=some us:=by simp
 have r1:∃F,RFs (K++[us]) us l F/\∀a∈F,a<L0:=by obtain⟨F,r,q⟩:=r;exact⟨F,r.ext _,q⟩
 have rp1:=rp.keep (K':=K++[us]) λa la _=>kx a la
 have rw1:=rw_.keep (K':=K++[us]) λa la _=>kx a la
 have rk1:(K++[us])[kk]?=some (ks.map V.int):=(kx kk kl).trans rk
 obtain⟨h,M,hwt⟩:=I.m
 have sgh:=W.sg h M.hn
 have hn:s.m.2.2.length<=60:=by rw[M.bl];lia
 have lus:us.length=l.length:=by obtain⟨F,r,_⟩:=r;exact r.length
 have lps:=G.fm.length
 have ef:ZeD B (K++[us])=some (none,B,K++[us]):=by
  have t:=Zjx (ps:=p0++[p]) (us:=us) q9 hz q5 G1.hf
  have e0:(us.isEmpty && decide ((p0++[p]).length=1))=false:=by
   obtain⟨l',e1,e2⟩:=Zz1.mp he
   rw[hl]at e1
   cases e1
   cases us with
   | cons v vs=>rfl
   | nil=>
    have:l=[]:=by cases l with | nil=>rfl | cons _ _=>simp at lus
    subst this
    simp only[List.isEmpty_nil,Bool.true_and]at e2 ⊢
    have hne:s.wt≠[]:=λq=>by rw[q]at e2;simp at e2
    rw[lps]
    have:s.wt.length≠0:=λq=>hne (List.length_eq_zero_iff.mp q)
    simp
    omega
  rw[e0]at t
  unfold ZeD
  rw[ZcD t]
  rfl
 have key:Aft (K++[us]) fr mk L0 qs hist B s' (Zca B (K++[us])):=by
  cases st with
  | @leave wt m X g sums q a e1 e2 e3 e4 e5=>
   rw[hl]at e2
   cases e2
   have:us=[]:=by cases us with | nil=>rfl | cons _ _=>simp at lus
   subst this
   obtain⟨h',⟨M',_⟩,_⟩:=I.w wt.length (m,rowT m.2.1 (callT X g sums) q) (by rw[e1];simp)
   obtain⟨r',z1,z2,z3,z4⟩:=WL.at M'
   rw[e5]at z4
   exact ZnC e1 G1 hz rw1 z1 z2 z3 (Option.some.inj z4).symm e3 e4 q1 q5 q7 (λp0' p' ep=>by obtain⟨_,e⟩:=List.append_inj' ep rfl;cases e;exact q8) q9
  | @enter X g sums q gv body e1 e2 e3 e4 e5 e6=>
   rw[hl]at e1
   cases e1
   have M2:=I'.m
   obtain⟨h2,M2,hw2⟩:=M2
   have hg2:h2=g:=by have:=M2.f;dsimp only at this;lia
   subst hg2
   have sg:=W.sg h2 M2.hn
   exact ZnB G1 hz r1 rp1 q0 q5 q7 q8 q9 hn e2 e3 e4 e5 e6 ⟨sg.1,sg.2.2⟩ .l
  | @act wd as q bs h' e1 e2 e3 e4 e5=>
   rw[hl]at e1
   cases e1
   exact Zqe (fns:=fns) (tw:=tw) (sig:=sig) G1 hz r1 rk1 q3 q7 q8 q9 e3 e4 e5
  | @when c a b rr e1 e2 e3=>
   rw[hl]at e1
   cases e1
   exact ZoJ G1 hz r1 q7 q8 q9 hn e2 e3
 obtain⟨ρ2,K2,ps2,p2,k1,k2,k3,k4,k5,k6⟩:=key
 obtain⟨h',M',hwt'⟩:=I'.m
 have sg':=W.sg h' M'.hn
 obtain⟨K3,q,a1,a2,a3,a4⟩:=ZoI k2 ((k5 5 .d .d).trans q5) ((k5 6 .d .d).trans q6) (by rw[M'.bl];lia) hq
 refine⟨ρ2,K3,ps2++[p2],qs++[q],?_,a2,by simp at k3;lia,λa la=>(a4 a la).trans ((k4 a la).trans (kx a la)),λi hi=>(k5 i .l .l).trans (old i .l),k6⟩
 rw[eb,Z7 ef,Z7 k1,a1]
end
end L
open PySem PM TM
namespace L
structure PrR(fns rs:List T)(sig:Nat->Nat×Nat): Prop where
 fn:∀h,h<fns.length->∃body r e,fns[h]?=some (.tup [.int (sig h).1,.int (sig h).2,.lst body])/\LyB (SL sig h (sig h).2 3) body 0 r e/\r.length<=9000/\rs[h]?=some (.lst r)
 sg:∀h,(sig h).1<=(sig h).2/\1<=(sig h).2/\(sig h).2<=4
theorem PrR.pr{rs:List T}(P:PrR fns rs sig): PrOk fns sig:=⟨λh hh=>by
 obtain⟨b,r,e,h1,h2,h3,_⟩:=P.fn h hh
 exact⟨b,r,e,h1,h2,h3⟩,P.sg⟩
theorem Zkq: ∀(k:Nat) {ts r:List T} {u e:Int},LyB (SL sig g n k) ts u r e->∀x∈r,∃a t b,x=rowT a t b:=λk ts r u e h x m=>by
 obtain⟨_,bt⟩:=Zb0 (ZbQ k) h
 obtain⟨a,t,b,q,_⟩:=bt x m
 exact⟨a,t,b,q⟩
theorem Zk3{rs:List T}(P:PrR fns rs sig)(hl:fns.length<=100): ∃tw en,ZcH [.lst fns]=some tw/\Wp fns tw sig fns.length en/\Wl rs tw fns.length en:=by
 obtain⟨pls,p1,p2⟩:=Zki P.sg fns 0 (λj hj=>by rw[Nat.zero_add];exact P.pr.fn j hj)
 have key:∀h,∃e:Int,h<fns.length->∃body r,fns[h]?=some (.tup [.int (sig h).1,.int (sig h).2,.lst body])/\LyB (SL sig h (sig h).2 3) body 0 r e/\0<=e/\rs[h]?=some (.lst r)/\r.length<=9000/\∀q bs,0<=q->q<=e->ZaH (.lst pls) ((h:Int),q,bs)=some (r.filter (src q)):=λh=>by
  by_cases hh:h<fns.length
  ·obtain⟨body,r,e,z1,z2,z3,z4⟩:=p2 h hh
   rw[Nat.zero_add]at z1 z2
   obtain⟨body',r',e',y1,y2,y3,y4⟩:=P.fn h hh
   rw[z1]at y1
   cases y1
   have s60:∀h,(sig h).1<=60:=λh=>by have:=P.sg h;lia
   have n60:(sig h).2<=60:=by have:=P.sg h;lia
   have dt:=Zel (Zem 3) (Zbs (Zdk n60 s60 3) z2) (Zbs (Zdk n60 s60 3) y2)
   have hrl:r.length<=9000/\r=r':=by rw[dt.1];exact⟨y3,rfl⟩
   obtain⟨rl,rfl⟩:=hrl
   refine⟨e,λ_=>⟨body,r,z1,z2,z3,y4,y3,λq bs q0 q1=>?_⟩⟩
   have i1:=ZhM (ts:=pls) (k:=(h:Int)) .l (by simpa using z4)
   have i2:=ZhM (ts:=(List.range (e.toNat+1)).map λ(p:Nat)=>T.lst (r.filter (src p))) (k:=q) (t:=.lst (r.filter (src q))) q0 (by
    rw[List.getElem?_map,List.getElem?_range .l]
    simp only[Ys1]
    rw[show((q.toNat:Nat):Int)=q by lia])
   simp only[ZaH,unL,Ys0,i1,byP,i2]
  ·exact⟨0,λq=>absurd q hh⟩
 refine⟨.lst pls,λh=>Classical.choose (key h),by simp only[ZcH];rw[if_pos .l,p1];rfl,⟨λh hh q bs q0 q1=>?_,λh hh bs=>?_,λh hh=>?_,λh _=>P.sg h,λh hh=>?_⟩,⟨λh hh=>?_⟩⟩
 ·obtain⟨b,r,h1,h2,h3,h4,h5,h6⟩:=Classical.choose_spec (key h) hh
  exact⟨_,h6 q bs q0 .o,ZdB (ZdG 3) h2 .l q q0 q1⟩
 ·obtain⟨b,r,h1,h2,h3,h4,h5,h6⟩:=Classical.choose_spec (key h) hh
  obtain⟨_,bt⟩:=Zb0 (ZbQ 3) h2
  rw[h6 _ bs h3 (Int.le_refl _),Zbz bt (.inr (Int.le_refl _))]
 ·obtain⟨b,r,h1,h2,h3,h4,h5,h6⟩:=Classical.choose_spec (key h) hh
  exact h3
 ·obtain⟨b,r,h1,_⟩:=Classical.choose_spec (key h) hh
  exact⟨b,h1⟩
 ·obtain⟨b,r,h1,h2,h3,h4,h5,h6⟩:=Classical.choose_spec (key h) hh
  exact⟨r,h4,Zkq 3 h2,h5,h6⟩
section
variable {fr mk L0:Nat} {fns rs:List T} {tw:T} {sig:Nat->Nat×Nat} {nf:Nat} {en:Nat->Int} {ks:List Int} {vp vw:V} {kk:Nat} {steps:Int}
def Zf0: Ts:=Zl (Zc oLe (Zg ZO (Zb (Za 6) Ze)) (Za 4))
theorem Zqh{t:Ts}{b c:Sm}(ht:t O K=some (false,K)): Zh (Za2 t b (n+1)) c O K=c O K:=by
 simp[Zh,Za2,ht]
theorem Zq1{t:Ts}{b c:Sm}(ht:t O K=some (true,K))(hb:b O K=some (none,B,K1)): Zh (Za2 t b (n+1)) c O K=Zh (Za2 t b n) c B K1:=by
 simp[Zh,Za2,ht,hb]
theorem Zqi{t:Ts}{b c:Sm}(ht:t O K=some (true,K))(hb:b O K=some (some v,B,K1)): Zh (Za2 t b (n+1)) c O K=some (some v,B,K1):=by
 simp[Zh,Za2,ht,hb]
theorem Zjy(hm:K[mk]?=some (qs.map λp=>V.ref p.1))(h4:O 4=some (.int steps))(h6:O 6=some (.ref mk)): Zf0 O K=some (decide ((qs.length:Int)<=steps),K):=by
 simp[Zf0,Zl,Zc,Zg,Zb,Ze,Za,h6,ZO,hm,h4,Zab]
def Zq2(K:Hp)(mk L0:Nat)(hist:List Mo)(o:Option (Option V×Lc×Hp)): Prop:=∃U K' qs,o=some (some (.ref mk),U,K')/\K'[mk]?=some (qs.map λp=>V.ref p.1)/\Fms K' qs hist/\(mk::adr qs).Nodup/\(∀a∈mk::adr qs,L0<=a)/\K.length<=K'.length/\∀a,a<L0->K'[a]?=K[a]?
theorem Gm.out{ps:List (Nat×Nat)}{hist:List Mo}(G:Gm K fr mk L0 ps ms qs hist): (mk::adr qs).Nodup/\∀a∈mk::adr qs,L0<=a:=by
 have nd:=G.nd
 simp only[List.nodup_cons,List.mem_cons,List.mem_append,List.nodup_append,not_or]at nd
 obtain⟨_,⟨_,m4⟩,_,n4,_⟩:=nd
 refine⟨List.nodup_cons.mpr ⟨m4,n4⟩,λa q=>G.lo a ?_⟩
 simp only[List.mem_cons,List.mem_append]at q ⊢
 rcases q with q | q <;> simp[q]
theorem Zjz(W:Wp fns tw sig nf en)(hnf:nf<=100)(WL:Wl rs tw nf en)(kl:kk<L0)(hst:steps<=900): ∀(k fuel:Nat) (s:RS) (K:Hp) (O:Lc) (ps qs:List (Nat×Nat)) (hist:List Mo) (r:List Mo×Nat),Inv tw sig nf en s->Gm K fr mk L0 ps (s.wt.map (·.1)++[s.m]) qs hist->RFo K vp (.lst fns) (· < L0)->RFo K vw (.lst rs) (· < L0)->K[kk]?=some (ks.map V.int)->O 0=some vp->O 1=some vw->O 3=some (.ref kk)->O 4=some (.int steps)->O 5=some (.ref fr)->O 6=some (.ref mk)->O 7=some (.int s.n)->1<=hist.length->steps.toNat+1=hist.length+k->k<fuel->Zbl (.lst fns) tw ks k s=some r->Zq2 K mk L0 (hist++r.1) (Zh (Za2 Zf0 ZdH fuel) (Zn (Za 6)) O K)
 | k,0,s,K,O,ps,qs,hist,r,I,G,rp,rw_,rk,h0,h1,h3,h4,h5,h6,h7,hh,hk,hf,e=>by lia
 | 0,fuel+1,s,K,O,ps,qs,hist,r,I,G,rp,rw_,rk,h0,h1,h3,h4,h5,h6,h7,hh,hk,hf,e=>by
  cases e
  have t:=Zjy G.hm h4 h6
  have lq:=G.hs.length
  rw[decide_eq_false .l]at t
  obtain⟨o1,o2⟩:=G.out
  exact⟨O,K,qs,by rw[Zqh t];simp[Zn,Za,h6],G.hm,by simpa using G.hs,o1,o2,Nat.le_refl _,λ_ _=>rfl⟩
 | k+1,fuel+1,s,K,O,ps,qs,hist,r,I,G,rp,rw_,rk,h0,h1,h3,h4,h5,h6,h7,hh,hk,hf,e=>by
  have t:=Zjy G.hm h4 h6
  have lq:=G.hs.length
  rw[decide_eq_true .l]at t
  rcases ZhN (ks:=ks) W hnf I with en | ⟨en,s',st,e2,I'⟩
  ·obtain⟨U,us,eb⟩:=ZnE WL I G rw_ h1 h5 h6 en
   have G1:=G.ext [us]
   obtain⟨o1,o2⟩:=G1.out
   have hr:r.1=[]:=by
    simp only[Zbl,en,Ys0,if_true]at e
    cases e
    rfl
   have lK:L0<=K.length:=by have:=G.lo fr .s;have:=G.lt fr .s;lia
   refine⟨U,K++[us],qs,Zqi t eb,G1.hm,by rw[hr,List.append_nil];exact G1.hs,o1,o2,.s,λa la=>Yy0 .l⟩
  ·obtain⟨U,K',ps',qs',b1,b2,b3,b4,b5,b6⟩:=ZoK W hnf WL I G rp rw_ rk kl h0 h1 h3 h5 h6 h7 .l en st I'
   simp only[Zbl,en,Ys0,Bool.false_eq_true,if_false,e2]at e
   obtain⟨r',e3,e4⟩:=Zz1.mp e
   subst e4
   obtain⟨ρ2,K2,qs2,c1,c2,c3,c4,c5,c6,c7⟩:=Zjz W hnf WL kl hst k fuel s' K' U ps' qs' (hist++[s'.m]) r' I' b2 (rp.keep λa la _=>b4 a la) (rw_.keep λa la _=>b4 a la) ((b4 kk kl).trans rk) ((b5 0 .d).trans h0) ((b5 1 .d).trans h1) ((b5 3 .d).trans h3) ((b5 4 .d).trans h4) ((b5 5 .d).trans h5) ((b5 6 .d).trans h6) b6 .s (by simp;lia) .l e3
   exact⟨ρ2,K2,qs2,by rw[Zq1 t b1];exact c1,c2,by simpa using c3,c4,c5,.l,λa la=>(c7 a la).trans (b4 a la)⟩
end
end L
open PySem PM TM
namespace L
def Zf1: List T->Option T
 | [t]=>Zdp t
 | _=>none
theorem Zkr: ZaO true Zcc Zf1:=λH vs ts t F1 hp r e=>by
 unfold Zf1 at e
 split at e
 case h_2=>first|exact Yx0 e|cases e
 cases r with
 | cons r0 r1=>
  cases r1
  obtain⟨v,X,F,g1,g2,g3⟩:=ZiU hp r0 e
  exact⟨v,X,F,g1,g2,λa m=>.inl (g3.2 a m),λ_=>g3⟩
def ZaP(t:T): Option (Int×T):=(un3 t).bind λr=>(unI r.1).bind λa=>(ZaX r.2.1).bind λas=>as[1]?.bind λc=>(as[0]?.bind unS).bind λw=>if w=wY then some (a,c)else none
theorem Zks{a:Int}(e:ZaP (rowT a t b)=some y): y.1=a/\∃as,t=.tup as/\as[0]?=some (.str wY):=by
 obtain⟨as,f1,e⟩:=Zz0.mp (show((ZaX t).bind λas=>as[1]?.bind λc=>(as[0]?.bind unS).bind λw=>if w=wY then some (a,c)else none)=some y from e)
 obtain⟨c,_,e⟩:=Zz0.mp e
 obtain⟨w,f2,e⟩:=Zz0.mp e
 obtain⟨t0,f2,f3⟩:=Zz0.mp f2
 split at e
 case isFalse=>first|exact Yx0 e|cases e
 rename_i hw
 cases e
 exact⟨rfl,as,Zd9 f1,by rw[f2,Zjj f3,hw]⟩
def Zai(r:List T): List (Int×T):=r.filterMap ZaP
noncomputable def ZaE(f:Nat)(x:Int×T): T:=.tup [.int f,.int x.1,x.2]
def Z1: Nat->List (List T)->List T
 | _,[]=>[]
 | i,r::rs=>(Zai r).map (ZaE i)++Z1 (i+1) rs
def Zgk(n:Nat)(x:T): Prop:=∃a w rest b,x=rowT a (.tup (.str w::rest)) b/\PyData.strOk w=true/\(w=wY->∃c,rest=[c]/\ClOk n c)
theorem ZjA(h:Out sig g n q e l): (∀x∈l,Zgk n x)/\(Zai l=[]∨∃c,Zai l=[(q,c)]/\ClOk n c):=by
 cases h with
 | @one act q' ha _ _=>
  rcases ha with ha | rfl
  ·cases ha with
   | @say c hc=>
    refine⟨λx m=>?_,.inr ⟨c,?_,hc⟩⟩
    ·rw[List.mem_singleton.mp m];exact⟨q,_,_,q',rfl,.D,λ_=>⟨c,rfl,hc⟩⟩
    ·show List.filterMap ZaP [rowT q (.tup [.str (Str.ofString "say"),c]) q']=_
     simp[ZaP,rowT,wY,un3,ZaX,unI,unS]
   | _=>
    refine⟨λx m=>?_,.inl ?_⟩
    ·rw[List.mem_singleton.mp m];exact⟨q,_,_,q',rfl,.D,λh=>absurd h .D⟩
    ·simp only[Zai,rowT,List.filterMap_cons,List.filterMap_nil,ZaP,un3,ZaX,unI,unS,Ys0,List.getElem?_cons_zero,List.getElem?_cons_succ]
     rw[if_neg .D]
  ·refine⟨λx m=>?_,.inl rfl⟩
   rw[List.mem_singleton.mp m];exact⟨q,_,_,q',rfl,.D,λh=>absurd h .D⟩
 | @two c a b hc _ _ _ _=>
  refine⟨λx m=>?_,.inl ?_⟩
  ·simp only[List.mem_cons,List.not_mem_nil,or_false]at m
   rcases m with rfl | rfl
   ·exact⟨q,_,_,a,rfl,.D,λh=>absurd h .D⟩
   ·exact⟨q,_,_,b,rfl,.D,λh=>absurd h .D⟩
  ·simp only[Zai,rowT,Zah,List.filterMap_cons,List.filterMap_nil,ZaP,un3,ZaX,unI,unS,Ys0,List.getElem?_cons_zero,List.getElem?_cons_succ]
   rw[if_neg .D]
theorem ZjB{q:Int}: ∀{r:List T},(∀x∈r,∃a t b,x=rowT a t b)->Zai (r.filter (src q))=(Zai r).filter λx=>x.1 == q
 | [],_=>rfl
 | x::r,h=>by
  have ih:=ZjB (q:=q) (r:=r) λy m=>h y (Zz2 _ m)
  obtain⟨a,t,b,rfl⟩:=h x Zz5
  have hx:∀y,ZaP (rowT a t b)=some y->y.1=a:=λy e=>(Zks e).1
  unfold Zai at *
  by_cases c:a=q
  ·rw[ZbT c,List.filterMap_cons,List.filterMap_cons]
   cases e:ZaP (rowT a t b)with
   | none=>exact ih
   | some y=>
    have:=hx y e
    simp only[List.filter_cons,this,c,beq_self_eq_true,if_true,ih]
  ·rw[ZaL c,List.filterMap_cons]
   cases e:ZaP (rowT a t b)with
   | none=>exact ih
   | some y=>
    have:=hx y e
    have hne:(a == q)=false:=by simp[c]
    simp only[List.filter_cons,this,hne,Bool.false_eq_true,if_false,ih]
section
variable {sig:Nat->Nat×Nat} {g n:Nat} {body r:List T} {e:Int}
theorem Zeq(h:LyB (SL sig g n 3) body 0 r e): (∀x∈r,Zgk n x)/\∀q:Int,((Zai r).filter λx=>x.1 == q)=[]∨∃c,((Zai r).filter λx=>x.1 == q)=[(q,c)]/\ClOk n c:=by
 obtain⟨le,bt⟩:=Zb0 (ZbQ 3) h
 have hrow:=Zkq 3 h
 refine⟨λx m=>?_,λq=>?_⟩
 ·obtain⟨a,t,b,rfl,l1,l2⟩:=bt x m
  have:=ZjA (ZdB (ZdG 3) h .l a l1 l2)
  exact this.1 _ (Yy9.mpr ⟨m,by rw[ZfE];simp⟩)
 ·rw[<-ZjB hrow]
  by_cases c:0<=q/\q<e
  ·exact(ZjA (ZdB (ZdG 3) h .o q c.1 c.2)).2
  ·rw[Zbz bt .l]
   exact .inl rfl
end
theorem ZiX{r:List T}: ∀(rs:List (List T)) (i:Nat),Z1 i (rs++[r])=Z1 i rs++(Zai r).map (ZaE (i+rs.length))
 | [],i=>by simp[Z1]
 | q::rs,i=>by
  rw[List.cons_append,Z1,Z1,ZiX rs (i+1),List.append_assoc]
  rw[show i+1+rs.length=i+(q::rs).length by simp;lia]
theorem ZiY(e:rs[i]?=some r): Z1 0 (rs.take (i+1))=Z1 0 (rs.take i)++(Zai r).map (ZaE i):=by
 have hi:=(Zz6.mp e).1
 rw[List.take_add_one,e]
 have:=ZiX (r:=r) (rs.take i) 0
 rw[show 0+(rs.take i).length=i by simp;lia]at this
 exact this
theorem ZjC(r:List T): (Zai r).length<=r.length:=List.length_filterMap_le _ _
theorem ZjD{c:Nat}: ∀(rs:List (List T)) (i:Nat),(∀r∈rs,r.length<=c)->(Z1 i rs).length<=c*rs.length
 | [],i,_=>by simp[Z1]
 | r::rs,i,h=>by
  have h1:=ZjD rs (i+1) λr m=>h r (Zz2 _ m)
  have h2:=h r Zz5
  have h3:=ZjC r
  rw[Z1,List.length_append,List.length_map,List.length_cons,Nat.mul_succ]
  lia
end L
open PySem PM TM
namespace L
def Zhf: Sm:=Zh (Zk 1 (Zy Ze)) (Zh (Zaq (Zf6 (Za 0)) (Zcn 2 3) (Zh (Zk 4 (Zg Zcc (Zb (Zc Zf (Za 3) (Zd 2)) Ze))) (ZJ (Zfw (Za 1) (Z5 (Zgg (Za 4)) (ZdS 100 101 102) (Zl (Zc Zx (Zc Zf (Za 101) (Zd 0)) (ZG (Str.ofString "say")))) (ZM (Zb (Za 2) (Zb (Za 100) (Zb (Zc Zf (Za 101) (Zd 1)) Ze))))))))) (Zn (Za 1)))
def Zeb: List V->Hp->Option (V×Hp):=Zr 1 Zhf
end L
open PySem PySem.W PyProof.Rows PM TM My
namespace L
section
variable {O:Lc} {H K M:Hp} {a b:Nat} {Q:V->Hp->Prop} {R:V->Hp->Prop} {N:Lc->Hp->Prop}
theorem ZoL{f:PM.Ex}{G:Nx->Nat->Hp->Prop}(h:Ok (f O H) λx M=>∃a vs,x=.ref a/\M[a]?=some vs/\G (ZdD a) (vs.length+1) M): Okg (Zf6 f O H) G:=by
 obtain⟨x,M,e,a,vs,rfl,ea,g⟩:=h
 exact⟨_,_,_,by simp[Zf6,e,ea],g⟩
theorem ZoM{f:PM.Ex}{G:Nx->Nat->Hp->Prop}(h:Ok (f O H) λx M=>∃a vs,x=.ref a/\M[a]?=some vs/\G (ZH a) (vs.length+1) M): Okg (Zgg f O H) G:=by
 obtain⟨x,M,e,a,vs,rfl,ea,g⟩:=h
 exact⟨_,_,_,by simp[Zgg,e,ea],g⟩
theorem Zqj{o f:PM.Ex}(h:Ok (o O H) λx M=>Ok (f O M) λy K=>∃a b vs us,x=.ref a/\y=.ref b/\K[a]?=some vs/\K[b]?=some us/\a≠0/\a≠b/\vs.length+us.length<=ZK/\Q .none (K.set a (vs++us))): Ok (Zfw o f O H) Q:=by
 obtain⟨_,M,e,_,K,e',a,b,vs,us,rfl,rfl,ea,eb,h0,hn,hl,q⟩:=h
 exact⟨_,_,by simp[Zfw,e,e',Zfv,ea,eb,h0,hn,hl],q⟩
theorem ZoN(h:L.Exq [] H M): ∃X,M=H++X:=by
 refine⟨M.drop H.length,?_⟩
 apply List.ext_getElem?
 intro i
 by_cases c:i<H.length
 ·rw[Yy0 c];exact h.2 i c .s
 ·rw[Yy5 .l,List.getElem?_drop]
  congr 1
  omega
theorem Zfo{x y:Int}(h:RF M v (rowT x (.tup (.str w::rest)) y) F): ∃vr G,v=.tup [.int x,.tup (.str w::vr),.int y]/\RFs M vr rest G/\∀c∈G,c∈F:=by
 unfold rowT at h
 obtain⟨a,b,c,F1,F2,F3,rfl,rfl,r1,r2,r3⟩:=h.i3
 obtain⟨us,rfl,q⟩:=r2.itup
 obtain⟨v,vr,G1,G2,rfl,rfl,r4,r5⟩:=q.icons
 rw[r1.iint.1,r3.iint.1,r4.istr.1]
 exact⟨_,_,rfl,r5,λc m=>by simp[m]⟩
theorem ZoO{y z:T}(h:RF M v (.tup [x,y,z]) F): ∃v1 v2 v3 G,v=.tup [v1,v2,v3]/\RFs M [v3] [z] G:=by
 obtain⟨a,b,c,F1,F2,F3,rfl,_,_,_,r3⟩:=h.i3
 exact⟨_,_,_,_,rfl,.one r3⟩
structure SyOk(fs:List T)(rs:List (List T)): Prop where
 len:rs.length=fs.length
 fn:∀(i:Nat) (t:T),fs[i]?=some t->∃(x y b:T) (r:List T),t=.tup [x,y,b]/\rs[i]?=some r/\Zf1 [b]=some (.lst r)/\r.length<=9000/\∀z∈r,∃n,Zgk n z
 small:∀i,(Z1 0 (rs.take i)).length<=27000
theorem Zl3(h0:0<H.length)(ea:H[a]?=some vs)(rv:RFs H vs fs F1)(S:SyOk fs rs): Ok (Zeb [.ref a] H) λv M=>∃X F,M=H++X/\RF M v (.lst (Z1 0 rs)) F/\∀b∈F,H.length<=b:=by
 have lv:=rv.length
 unfold Zeb Zhf
 refine Zac rfl ?_
 refine Zam (Zb4 (Zda (Zas ⟨.s,?_⟩)))
 generalize hb:H.length=b
 refine Zam (Zdc (ZoL (ZA (by walk_at "rd") ⟨a,vs,rfl,ZI ea,?_⟩)))
 refine ZhC (m:=vs.length) (λi O M=>O 0=some (.ref a)/\O 1=some (.ref b)/\L.Exq [] H M/\∃us F,M[b]?=some us/\RFs M us (Z1 0 (rs.take i)) F/\∀c∈F,b<c) ?_ ?_ ?_ ?_
 ·exact⟨by walk_at "rd",by walk_at "rd",Exq.refl.app,[],[],by rw[<-hb];exact ZE _ _,.nil,.s⟩
 ·intro i O M hi q9;obtain⟨e0,e1,ex,us,F,eb,ru,hF⟩:=q9
  have eaM:M[a]?=some vs:=(ex.2 a (lt_of_at ea) .s).trans ea
  obtain⟨t,ht⟩:∃t,fs[i]?=some t:=⟨fs[i],Yy1 .o⟩
  obtain⟨x,y,bt,r,rfl,er,hrow,hlr,hS⟩:=S.fn i t ht
  obtain⟨v,Fv,ev,rfv,_⟩:=rv.at ht
  obtain⟨v1,v2,v3,G,rfl,r3⟩:=ZoO rfv
  refine⟨.tup [.int i,.tup [v1,v2,v3]],_,by simp[ZdD,eaM,ev],rfl,?_⟩
  have r3M:RFs M [v3] [bt] G:=r3.frame λc m=>ex.2 c (r3.lt c m) .s
  obtain⟨vr,X,Fr,g1,g2,_,g4⟩:=Zkr M [v3] [bt] _ G (by have:=ex.1;lia) r3M hrow
  obtain⟨_,gF⟩:=g4 rfl
  obtain⟨c,ws,Gr,rfl,ec,rw',hGr⟩:∃c ws Gr,vr=.ref c/\(M++X)[c]?=some ws/\RFs (M++X) ws r Gr/\∀z∈Gr,z∈Fr:=by
   cases g2 with
   | ref e r=>exact⟨_,_,_,rfl,e,r,λz m=>Yy3 _ m⟩
  refine Zam (Zb4 ?_)
  refine Za1 (Z8 (Z9 (ZA (by walk_at "rd") (Zao (ZbJ .d rfl (Zas ?_))))))
  refine Zap g1 ?_
  refine ZfL (Zqj (ZA (by walk_at "rd") (Zct (ZoM (ZA (by walk_at "rd") ⟨c,ws,rfl,ec,?_⟩)))))
  have lw:=rw'.length
  have bM:=lt_of_at eb
  refine ZbC (λj acc M'=>M'=M++X/\∃G,RFs (M++X) acc ((Zai (r.take j)).map (ZaE i)) G/\(∀z∈G,M.length<=z)/\acc.length<=j) (by rw[ZC];lia) ⟨rfl,[],.nil,.s,.s⟩ ?_ ?_ ?_
  ·intro j acc _ hj q9;obtain⟨rfl,G',ra,hG',la⟩:=q9
   obtain⟨z,hz⟩:∃z,r[j]?=some z:=⟨r[j],Yy1 .o⟩
   obtain⟨n,x',w,rest,y',rfl,hok,hsay⟩:=hS z (Yy4 hz)
   obtain⟨vz,Fz,evz,rfz,hFz⟩:=rw'.at hz
   obtain⟨vr,Gz,rfl,rz,hGz⟩:=Zfo rfz
   refine⟨la,.tup [.int x',.tup (.str w::vr),.int y'],_,by simp[ZH,ec,evz],rfl,?_⟩
   have tk:Zai (r.take (j+1))=Zai (r.take j)++(ZaP (rowT x' (.tup (.str w::rest)) y')).toList:=by
    unfold Zai
    rw[List.take_add_one,hz,List.filterMap_append]
    cases hq:ZaP (rowT x' (.tup (.str w::rest)) y') <;> simp[hq]
   have hZ:∀z∈Gz,M.length<=z:=λz m=>gF z (hGr z (hFz.subset (hGz z m)))
   refine Za3 (Z9 (Z9 (ZA (by walk_at "rd") (Zao (ZbJ .d rfl (ZfK ?_))))))
   refine ZfM hok .D (ZaY ?_)
   by_cases q:w=wY
   ·obtain⟨cc,rfl,_⟩:=hsay q
    subst q
    have hs:ZaP (rowT x' (.tup [.str wY,cc]) y')=some (x',cc):=by
     show(if wY=wY then some (x',cc)else none)=_
     rw[if_pos rfl]
    rw[hs]at tk
    cases rz with
    | cons rc rn=>
     cases rn
     refine ZbD .D ?_
     repeat' walk_at "ok"
     refine⟨rfl,G'++_,?_,λz m=>(Zz8.mp m).elim (hG' z) (hZ z),by simp;omega⟩
     rw[tk,List.map_append]
     have:=rfs_app (.cons (.tup (.cons (.int (i:Nat)) (.cons (.int x') (.cons rc .nil)))) .nil) ra
     simp only[List.nil_append,List.append_nil]at this ⊢
     exact this
   ·have hs:ZaP (rowT x' (.tup (.str w::rest)) y')=none:=by
     cases rest with
     | nil=>rfl
     | cons c r=>
      show(if w=wY then some (x',c)else none)=_
      rw[if_neg q]
    rw[hs]at tk
    refine Zbc (by simp[PyData.eqv];exact q) ⟨rfl,G',?_,hG',.l⟩
    rw[tk]
    simpa using ra
  ·intro acc _ q9;obtain⟨rfl,_⟩:=q9
   simp[ZH,ec]
  ·intro acc _ q9;obtain⟨rfl,G',ra,hG',la⟩:=q9
   rw[lw,List.take_length]at ra
   have sm:=S.small i
   have lu:=ru.length
   have la':acc.length<=9000:=by lia
   have hb':b<(M++X).length:=by simp;lia
   refine⟨b,(M++X).length,us,acc,rfl,rfl,ZI (Z6 eb),ZE _ _,.l,.l,by rw[ZC];lia,?_⟩
   have fr:∀z,b<z->z<(M++X).length->((M++X++[acc]).set b (us++acc))[z]?=(M++X)[z]?:=λz h1 h2=>by rw[Yy2 .l,Yy0 h2]
   refine⟨by walk_at "rd",by walk_at "rd",⟨?_,λz hz _=>?_⟩,us++acc,F++G',Yy6 (by simp;lia),?_,λz m=>(Zz8.mp m).elim (hF z) λm=>?_⟩
   ·have:=ex.1
    simp
    lia
   ·rw[Yy2 .l,List.append_assoc,Yy0 (by have:=ex.1;lia)]
    exact ex.2 z hz .s
   ·rw[ZiY er]
    have r1:=ru.ext X
    exact rfs_app (ra.frame λz m=>fr z (by have:=hG' z m;lia) (ra.lt z m)) (r1.frame λz m=>fr z (hF z m) (r1.lt z m))
   ·have:=hG' z m
    omega
 ·intro O M q9;obtain⟨e0,e1,ex,_⟩:=q9
  have eaM:M[a]?=some vs:=(ex.2 a (lt_of_at ea) .s).trans ea
  simp[ZdD,eaM]
 ·intro O M q9;obtain⟨e0,e1,ex,us,F,eb,ru,hF⟩:=q9
  refine ZbA (ZA e1 ?_)
  obtain⟨X,hX⟩:=ZoN ex
  rw[lv,<-S.len,List.take_length]at ru
  exact⟨X,b::F,hX,.ref eb ru,λc m=>by
   rcases Zz7.mp m with rfl | m
   ·lia
   ·have:=hF c m;lia⟩
end
end L
open PySem PySem.W PyProof.Rows PM TM My
namespace L
theorem SyOk.uniq{rs':List (List T)}(S:SyOk fs rs)(S':SyOk fs rs'): rs=rs':=by
 apply List.ext_getElem?
 intro i
 have h1:=S.len
 have h2:=S'.len
 by_cases c:i<fs.length
 ·obtain⟨x,y,b,r,e1,e2,e3,_⟩:=S.fn i _ (Yy1 c)
  obtain⟨x',y',b',r',e1',e2',e3',_⟩:=S'.fn i _ (Yy1 c)
  rw[e1]at e1'
  cases e1'
  rw[e3]at e3'
  cases e3'
  rw[e2,e2']
 ·rw[Yy8 .l,Yy8 .l]
open Classical in
def Zex: List T->Option T
 | [.lst fs]=>if h:∃rs,SyOk fs rs then some (.lst (Z1 0 h.choose))else none
 | _=>none
theorem ZoP(S:SyOk fs rs): Zex [.lst fs]=some (.lst (Z1 0 rs)):=by
 have h:∃rs,SyOk fs rs:=⟨rs,S⟩
 simp only[Zex]
 rw[dif_pos h,h.choose_spec.uniq S]
theorem ZoQ: ZaO false Zeb Zex:=λH vs ts t F1 hp r e=>by
 unfold Zex at e
 split at e
 case h_2=>first|exact Yx0 e|cases e
 split at e
 case isFalse=>first|exact Yx0 e|cases e
 rename_i fs h
 cases e
 cases r with
 | cons r0 r1=>
  cases r1
  cases r0 with
  | ref ea rv=>
   obtain⟨v,M,e,X,F,rfl,rf,hF⟩:=Zl3 hp ea rv h.choose_spec
   exact⟨v,X,F,e,rf,λa m=>.inl (hF a m),λz=>by cases z⟩
section
variable {p q:Nat} {ns:List Int} {K:Hp}
theorem ZiZ{L:List V->Hp->Prop}(t:Tp p q ns K)(hk:k<=100)(ej:O j=some (.ref p))(hj:j≠m)(done:∀(is:List Int) M,Ws p q ns K M->is.length=k->(∀i∈is,C60 i)->L (is.map V.int) M): Okl (Zad (ZaK 0 1 k) (Zu m) ZD (Zg ZcF (Zb (Za j) Ze)) O (k+1) 0 [] K) L:=by
 refine ZbC (λi acc M=>∃is:List Int,acc=is.map V.int/\Ws p q ns K M/\is.length=i/\∀i∈is,C60 i) (by rw[ZC];lia) ⟨[],rfl,t.ws,rfl,.s⟩ ?_ (λacc K h=>by simp) (λacc M ⟨is,e,w,hl,hs⟩=>e▸done is M w hl hs)
 intro i _ M hi q9;obtain⟨is,rfl,w,hl,hs⟩:=q9
 refine⟨by simp[hl],.int i,_,by rw[Ze7,if_pos hi];simp,ZbH _ _ _,Zbu ⟨λ_=>?_,.s⟩⟩
 refine Za1 (Z8 (ZA (Zce hj ej) (Zas ?_)))
 refine(Zho w.tp).mono ?_
 intro _ M1 q9;obtain⟨x1,z,rfl,hz⟩:=q9
 refine⟨is++[z],.s,w.trans x1,by simp[hl],λu m=>?_⟩
 rcases Zz8.mp m with m | m
 ·exact hs u m
 ·rw[List.mem_singleton.mp m];exact hz
end
end L
open PySem PM TM
namespace L
def ZgL: Sm:=Zh (Zk 5 (Zy (Zb (Zg Zcb (Zb (Za 0) (Zb (Zc Zaj (Zg ZO (Zb (Za 0) Ze)) (Zd 1)) (Zb (Za 2) Ze)))) Ze))) (Zh (Zk 6 (Zy (Zb (Zg Zbp (Zb (Zc Zf (Za 5) (Zd 0)) Ze)) Ze))) (Zh (Zk 7 (Zd 0)) (Zh (Za2 (Zl (Zc oLe (Zg ZO (Zb (Za 6) Ze)) (Za 4))) (Zh (Zk 8 (Zc Zf (Za 5) (ZB Zax (Zd 1)))) (Zh (Zk 9 (Z5 (ZU (Zc Zf (Za 1) (Zc Zf (Za 8) (Zd 0)))) (Zu 100) (Zl (Zc Zx (Zc Zf (Za 100) (Zd 0)) (Zc Zf (Za 8) (Zd 1)))) (Za 100))) (Zh (Zs (ZX (Zl (Zc Zx (Zg ZO (Zb (Za 9) Ze)) (Zd 0))) (ZX (Zl (Zc Zx (Zg ZO (Zb (Za 5) Ze)) (Zd 1))) ZD)) (Zn (Za 6)) ZF) (Zh (Zs (Zl (Zc Zx (Zg ZO (Zb (Za 9) Ze)) (Zd 0))) (Zh (ZJ (Zdq (Za 5))) (ZJ (Zg Zd6 (Zb (Za 1) (Zb (Zc Zf (Za 5) (ZB Zax (Zd 1))) (Zb (Zc Zf (Zc Zf (Za 8) (Zd 2)) (ZB Zax (Zd 1))) Ze)))))) (Zs (Zl (Zc Zx (Zc Zf (Zc Zf (Zc Zf (Za 9) (Zd 0)) (Zd 1)) (Zd 0)) (ZG (Str.ofString "call")))) (Zh (Zk 10 (Zc Zf (Zc Zf (Za 9) (Zd 0)) (Zd 1))) (ZJ (Zal (Za 5) (Zg Zcb (Zb (Za 0) (Zb (Zc Zf (Za 10) (Zd 2)) (Zb (Z5 (ZU (Zc Zf (Za 10) (Zd 3))) (Zu 102) ZD (Zg ZbX (Zb (Za 102) (Zb (Zc Zf (Za 8) (Zd 2)) Ze)))) Ze))))))) (Zs (Zl (Zc Zx (Zc Zf (Zc Zf (Zc Zf (Za 9) (Zd 0)) (Zd 1)) (Zd 0)) (ZG (Str.ofString "any")))) (Zh (ZJ (Zg ZcJ (Zb (Za 8) (Zb (Za 9) (Zb (Zg Zb8 (Zb (Zag (Za 3) (Zae (Za 7)) (Zae (Zc Zw (Za 7) (Zd 1)))) Ze)) Ze))))) (Zk 7 (Zc Zw (Za 7) (Zd 1)))) (ZJ (Zg ZcJ (Zb (Za 8) (Zb (Za 9) (Zb (Zd 0) Ze)))))))) (ZJ (Zal (Za 6) (Zg Zbp (Zb (Zc Zf (Za 5) (ZB Zax (Zd 1))) Ze)))))))) 1000000) (Zn (Za 6)))))
def Ze3: List V->Hp->Option (V×Hp):=Zr 5 ZgL
open Classical in
def Zd3: List T->Option T
 | [.lst fns,.lst rs,st,pk,.int steps]=>(Zbg st).bind λss=>(Zbg pk).bind λks=>if h:∃sig:Nat->Nat×Nat,PrR fns rs sig/\1<=fns.length/\fns.length<=100/\ss.length=(sig (fns.length-1)).1/\steps<=900 then(ZcH [.lst fns]).bind λtw=>(Zbl (.lst fns) tw ks steps.toNat ⟨0,[],m0r (choose h) (fns.length-1) ss⟩).map λr=>.lst ((m0r (choose h) (fns.length-1) ss::r.1).map Zbn)else none
 | _=>none
theorem ZoR: ZgL=Zh (Zk 5 (Zy (Zb (Zg Zcb (Zb (Za 0) (Zb (Zc Zaj (Zg ZO (Zb (Za 0) Ze)) (Zd 1)) (Zb (Za 2) Ze)))) Ze))) (Zh (Zk 6 (Zy (Zb (Zg Zbp (Zb (Zc Zf (Za 5) (Zd 0)) Ze)) Ze))) (Zh (Zk 7 (Zd 0)) (Zh (Za2 Zf0 ZdH 1000000) (Zn (Za 6))))):=rfl
theorem ZlE: ZaO true Ze3 Zd3:=λH vs ts t F1 hp r e=>by
 unfold Zd3 at e
 split at e
 case h_2=>first|exact Yx0 e|cases e
 rename_i fns rs st pk steps
 obtain⟨ss,e1,e⟩:=Zz0.mp e
 obtain⟨ks,e2,e⟩:=Zz0.mp e
 split at e
 case isFalse=>first|exact Yx0 e|cases e
 rename_i hx
 obtain⟨tw,e4,e⟩:=Zz0.mp e
 obtain⟨rr,e6,e⟩:=Zz1.mp e
 subst e
 have:=Zea e1;subst this
 have:=Zea e2;subst this
 obtain⟨P,f1,f100,hss,hst⟩:=Classical.choose_spec hx
 generalize Classical.choose hx=sig at *
 obtain⟨tw',en,w1,W,WL⟩:=Zk3 P f100
 rw[e4]at w1
 cases w1
 obtain⟨vp,_,rfl,rp,r⟩:=ZV (P:=(· < H.length)) ⟨_,r,r.lt⟩
 obtain⟨vw,_,rfl,rw_,r⟩:=ZV r
 obtain⟨vs0,_,rfl,rs0,r⟩:=ZV r
 obtain⟨vk,_,rfl,rk0,r⟩:=ZV r
 obtain⟨v3,_,rfl,r3,r⟩:=ZV r
 have:=Zby r;subst this
 have:=r3.int;subst this
 obtain⟨Fs,rs1,_⟩:=rs0
 obtain⟨Fk,rk1,lk⟩:=rk0
 obtain⟨sp,rfl,hs⟩:=Zdj rs1
 obtain⟨kk,rfl,hk⟩:=Zdj rk1
 generalize hlast:fns.length-1=last at *
 have hfl:last<fns.length:=by omega
 obtain⟨body,_,_,q1,_⟩:=P.fn last hfl
 obtain⟨sg1,sg2,sg3⟩:=P.sg last
 obtain⟨X1,p0,b1,b2,b3,b4,b5⟩:=ZiW rp hs q1 hss .l sg1
 have em:(((last:Nat):Int),(0:Int),ss++List.replicate ((sig last).2-(sig last).1) 0)=m0r sig last ss:=rfl
 rw[em]at b2
 generalize hm0:m0r sig last ss=m0 at *
 have lm0:m0.2.2.length<=60:=by rw[<-hm0];simp[m0r,hss];omega
 generalize hH1:H++X1=H1 at *
 have l1:H.length<=H1.length:=by rw[<-hH1];simp
 have k1:∀a,a<H.length->H1[a]?=H[a]?:=λa la=>by rw[<-hH1,Yy0 la]
 have lp1:=lt_of_at b2.1
 have lp2:=lt_of_at b2.2
 have f2:Fm (H1++[[V.ref p0.1]]) p0 m0:=b2.ext _
 obtain⟨X2,q0,c1,c2,c3,c4,c5⟩:=Zju f2 lm0
 have lH2:(H1++[[V.ref p0.1]]).length=H1.length+1:=by simp
 generalize hH3:H1++[[V.ref p0.1]]++X2=H3 at *
 have l3:H1.length+1<=H3.length:=by rw[<-hH3];simp
 have k3:∀a,a<H1.length->H3[a]?=H1[a]?:=λa la=>by rw[<-hH3,List.append_assoc,Yy0 la]
 have k3f:H3[H1.length]?=some [V.ref p0.1]:=by rw[<-hH3,List.append_assoc];simp
 have lq1:=lt_of_at c2.1
 have lq2:=lt_of_at c2.2
 have k4:∀a,a<H3.length->(H3++[[V.ref q0.1]])[a]?=H3[a]?:=λa la=>Yy0 la
 have G:Gm (H3++[[V.ref q0.1]]) H1.length H3.length H.length [p0] ([].map (λx:Mo×T=>x.1)++[m0]) [q0] [m0]:=by
  refine⟨(k4 _ .l).trans k3f,Fms.snoc (ps:=[]) (ms:=[]) .nil (b2.keep ((k4 _ .l).trans (k3 _ .o)) ((k4 _ .l).trans (k3 _ .o))),.s,Fms.snoc (ps:=[]) (ms:=[]) .nil (c2.ext _),?_,?_,hp⟩
  ·simp[adr]
   omega
  ·intro a q
   simp[adr]at q
   lia
 have I0:Inv tw sig fns.length en ⟨0,[],m0⟩:=by
  refine⟨⟨last,⟨by rw[<-hm0];rfl,hfl,by rw[<-hm0];exact Int.le_refl _,by rw[<-hm0];exact W.e0 _ hfl,by rw[<-hm0];simp[m0r,hss];omega⟩,by simpa using hfl⟩,λi fr e=>by simp at e⟩
 have kH:∀a,a<H.length->(H3++[[V.ref q0.1]])[a]?=H[a]?:=λa la=>(k4 a .l).trans ((k3 a .l).trans (k1 a la))
 generalize k:Zi (Zi (Zi (λi=>[vp,vw,V.ref sp,V.ref kk,V.int steps][i]?) 5 (.ref H1.length)) 6 (.ref H3.length)) 7 (.int 0)=O
 obtain⟨U,K',qs,d1,d2,d3,d4,d5,d6,d7⟩:=Zjz (fr:=H1.length) (mk:=H3.length) (L0:=H.length) (vp:=vp) (vw:=vw) (kk:=kk) (ks:=ks) (steps:=steps) W f100 WL (lt_of_at hk) hst steps.toNat 1000000 ⟨0,[],m0⟩ (H3++[[V.ref q0.1]]) O [p0] [q0] [m0] rr I0 G (rp.keep λa la _=>kH a la) (rw_.keep λa la _=>kH a la) ((kH kk (lt_of_at hk)).trans hk) (by rw[<-k];simp[Zi]) (by rw[<-k];simp[Zi]) (by rw[<-k];simp[Zi]) (by rw[<-k];simp[Zi]) (by rw[<-k];simp[Zi]) (by rw[<-k];simp[Zi]) (by rw[<-k];simp[Zi]) .s (by simp;lia) .o e6
 have d7':∀a,a<H.length->K'[a]?=H[a]?:=λa la=>(d7 a la).trans (kH a la)
 have eK:=ZkZ (H:=H) (K:=K') (by simp at d6;lia) d7'
 refine⟨.ref H3.length,K'.drop H.length,H3.length::adr qs,?_,?_,λa q=>.inl (d5 a q),λ_=>⟨d4,d5⟩⟩
 ·rw[<-eK]
  unfold Ze3 Zr
  rw[ZoR]
  simp only[List.length_cons,List.length_nil,if_true]
  have ln:=ZfC rp
  have ev0:∀H,Za 0 (λi=>[vp,vw,V.ref sp,V.ref kk,V.int steps][i]?) H=some (vp,H):=λ_=>rfl
  have ev2:∀H,Za 2 (λi=>[vp,vw,V.ref sp,V.ref kk,V.int steps][i]?) H=some (.ref sp,H):=λ_=>rfl
  rw[Z7 (B:=Zi (λi=>[vp,vw,V.ref sp,V.ref kk,V.int steps][i]?) 5 (.ref H1.length)) (H1:=H1++[[V.ref p0.1]]) (by
   have hb:(fns.length:Int)-1=((last:Nat):Int):=by omega
   simp only[Zk,Zy,Zb,Ze,Zg,ev0,ev2,Ys0,Zc,ln,Zd,Zlb,hb,b1,List.length_cons,List.length_nil]
   rw[if_pos (by rw[ZC];decide)]
   rfl)]
  rw[Z7 (B:=Zi (Zi (λi=>[vp,vw,V.ref sp,V.ref kk,V.int steps][i]?) 5 (.ref H1.length)) 6 (.ref H3.length)) (H1:=H3++[[V.ref q0.1]]) (by
   have i0:Zf (.ref H1.length) (.int 0) (H1++[[V.ref p0.1]])=some (.ref p0.1,H1++[[V.ref p0.1]]):=by
    have:(H1++[[V.ref p0.1]])[H1.length]?=some [V.ref p0.1]:=by simp
    simp only[Zf,this];rfl
   have ev5:∀H,Za 5 (Zi (λi=>[vp,vw,V.ref sp,V.ref kk,V.int steps][i]?) 5 (.ref H1.length)) H=some (.ref H1.length,H):=λ_=>rfl
   simp only[Zk,Zy,Zb,Ze,Zg,ev5,Ys0,Zc,Zd,i0,c1,List.length_cons,List.length_nil]
   rw[if_pos (by rw[ZC];decide)]
   rfl)]
  rw[Z7 (B:=O) (H1:=H3++[[V.ref q0.1]]) (by rw[<-k];rfl)]
  rw[d1]
  rfl
 ·rw[<-eK]
  exact .ref d2 d3.rfs
theorem GoodP.nice(G:GoodP fs sig)(hl:fs.length<=8): Nice 12 (.lst fs):=.lst .l λt m=>by
 obtain⟨i,hi,rfl⟩:=List.getElem_of_mem m
 obtain⟨b,q1,q2,q3⟩:=G.fn i hi
 rw[Yy1 hi]at q1
 rw[Option.some.inj q1]
 exact .tup .s (ZY (.int _) (ZY (.int _) (ZY (.lst .l λt m=>(q3 t m).2) nl0)))
theorem GoodP.rows(G:GoodP fs sig): ∃rs:List (List T),PrR fs (rs.map T.lst) sig/\rs.length=fs.length/\∀h,h<fs.length->∃body r e,fs[h]?=some (.tup [.int (sig h).1,.int (sig h).2,.lst body])/\body.length<=8/\rs[h]?=some r/\LyB (SL sig h (sig h).2 3) body 0 r e/\r.length<=9000/\Nice 10 (.lst body):=by
 have key:∀h,∃r:List T,h<fs.length->∃body e,fs[h]?=some (.tup [.int (sig h).1,.int (sig h).2,.lst body])/\body.length<=8/\LyB (SL sig h (sig h).2 3) body 0 r e/\r.length<=9000/\Nice 10 (.lst body):=λh=>by
  by_cases hh:h<fs.length
  ·obtain⟨b,q1,q2,q3⟩:=G.fn h hh
   obtain⟨r,e,k1,k2⟩:=Zhd q3 0
   refine⟨r,λ_=>⟨b,e,q1,q2,k1,?_,.lst .l λt m=>(q3 t m).2⟩⟩
   have:b.length*bk 3<=8*bk 3:=Nat.mul_le_mul_right _ q2
   have e3:bk 3=804:=by decide
   lia
  ·exact⟨[],λq=>absurd q hh⟩
 refine⟨(List.range fs.length).map λh=>Classical.choose (key h),⟨λh hh=>?_,G.sg⟩,.s,λh hh=>?_⟩
 ·obtain⟨b,e,h1,h2,h3,h4,h5⟩:=Classical.choose_spec (key h) hh
  exact⟨b,_,e,h1,h3,h4,by rw[List.getElem?_map,List.getElem?_map,List.getElem?_range hh];rfl⟩
 ·obtain⟨b,e,h1,h2,h3,h4,h5⟩:=Classical.choose_spec (key h) hh
  exact⟨b,_,e,h1,h2,by rw[List.getElem?_map,List.getElem?_range hh];rfl,h3,h4,h5⟩
structure RR(fs:List T)(rs:List (List T))(sig:Nat->Nat×Nat): Prop where
 pr:PrR fs (rs.map T.lst) sig
 len:rs.length=fs.length
 l1:1<=fs.length
 l3:fs.length<=3
 nice:Nice 12 (.lst fs)
 fn:∀h,h<fs.length->∃body r e,fs[h]?=some (.tup [.int (sig h).1,.int (sig h).2,.lst body])/\rs[h]?=some r/\LyB (SL sig h (sig h).2 3) body 0 r e/\r.length<=9000/\Nice 10 (.lst body)
theorem GoodP.rr(G:GoodP fs sig)(h1:1<=fs.length)(h3:fs.length<=3): ∃rs,RR fs rs sig:=by
 obtain⟨rs,p1,p2,p3⟩:=G.rows
 exact⟨rs,p1,p2,h1,h3,G.nice .l,λh hh=>by
  obtain⟨b,r,e,q1,_,q3,q4,q5,q6⟩:=p3 h hh
  exact⟨b,r,e,q1,q3,q4,q5,q6⟩⟩
section
variable {fs:List T} {rs:List (List T)} {sig:Nat->Nat×Nat}
theorem RR.rows(W:RR fs rs sig){h:Nat}{body:List T}(hh:h<fs.length)(h2:LyB (SL sig h (sig h).2 3) body 0 r e)(h3:r.length<=9000): Zf1 [.lst body]=some (.lst r):=
 Zjm (Zbs (Zdk (by have:=W.pr.sg h;lia) (λh=>by have:=W.pr.sg h;lia) 3) h2) h3
theorem RR.small(W:RR fs rs sig): ∀i,(Z1 0 (rs.take i)).length<=27000:=λi=>by
 have:=ZjD (c:=9000) (rs.take i) 0 λr m=>by
  obtain⟨j,hj,rfl⟩:=List.getElem_of_mem (List.mem_of_mem_take m)
  obtain⟨b,r,e,q1,q2,q3,q4,_⟩:=W.fn j (by rw[<-W.len];exact hj)
  rw[Yy1 hj]at q2
  cases q2
  exact q4
 have l2:(rs.take i).length<=3:=by have:=W.len;have:=W.l3;simp;lia
 have:9000*(rs.take i).length<=9000*3:=Nat.mul_le_mul_left _ l2
 lia
theorem RR.sy(W:RR fs rs sig): SyOk fs rs:=⟨W.len,λi t ht=>by
 have hil:=(Zz6.mp ht).1
 obtain⟨body,r,e,q1,er,q3,hr,_⟩:=W.fn i hil
 rw[ht]at q1
 cases q1
 exact⟨_,_,_,r,rfl,er,W.rows hil q3 hr,hr,λz m=>⟨_,(Zeq q3).1 z m⟩⟩,W.small⟩
theorem ZnF(W:RR fs rs sig): Zex [.lst fs]=some (.lst (Z1 0 rs)):=ZoP W.sy
def ZeF(r:List T)(q:Int): Option T:=((Zai r).filter λx=>x.1 == q).head?.map (·.2)
theorem Zkt{f:Nat}{q:Int}: ∀(rs:List (List T)) (i:Nat),(Z1 i rs).filter (λt=>dec (t=ZaE f (q,match t with | .tup [_,_,c]=>c | _=>.none)))=if i<=f then(match rs[f-i]? with | some r=>((Zai r).filter λx=>x.1 == q).map (ZaE f) | none=>[])else []
 | [],i=>by simp[Z1]
 | r::rs,i=>by
  rw[Z1,List.filter_append,Zkt rs (i+1)]
  have hm:((Zai r).map (ZaE i)).filter (λt=>dec (t=ZaE f (q,match t with | .tup [_,_,c]=>c | _=>.none)))=if i=f then((Zai r).filter λx=>x.1 == q).map (ZaE f)else []:=by
   rw[List.filter_map]
   by_cases c:i=f
   ·subst c
    rw[if_pos rfl]
    congr 1
    apply List.filter_congr
    intro x _
    simp only[Function.comp,ZaE]
    by_cases cq:x.1=q
    ·rw[Zlh (by rw[cq])];simp[cq]
    ·rw[Zh5 (by simp only[T.tup.injEq,List.cons.injEq,T.int.injEq];exact λh=>cq h.2.1)];simp[cq]
   ·rw[if_neg c]
    have:((Zai r).filter ((λt=>dec (t=ZaE f (q,match t with | .tup [_,_,c]=>c | _=>.none)))∘ZaE i))=[]:=by
     rw[List.filter_eq_nil_iff]
     intro x _
     simp only[Function.comp,ZaE]
     rw[Zh5 (by simp only[T.tup.injEq,List.cons.injEq,T.int.injEq];exact λh=>c .l)]
     simp
    rw[this]
    rfl
  rw[hm]
  by_cases c:i=f
  ·subst c
   rw[if_pos rfl,if_neg .l,if_pos (Zz10 _)]
   simp
  ·rw[if_neg c,List.nil_append]
   by_cases c2:i<=f
   ·rw[if_pos .l,if_pos c2]
    have:f-i=(f-(i+1))+1:=by lia
    rw[this,List.getElem?_cons_succ]
   ·rw[if_neg .l,if_neg c2]
end
theorem Zku: ∀(rs:List (List T)) (i:Nat),∀t∈Z1 i rs,∃(j:Nat) (x:Int×T),t=ZaE j x
 | [],i,t,m=>(List.not_mem_nil m).elim
 | r::rs,i,t,m=>by
  rw[Z1]at m
  rcases Zz8.mp m with m | m
  ·obtain⟨x,_,rfl⟩:=Zz11.mp m
   exact⟨i,x,rfl⟩
  ·exact Zku rs (i+1) t m
section
variable {f:Nat} {q:Int}
def hv(c:T)(bs:List Int): Bool:=match ZbK [c,Zm bs]with
 | some (.bool b)=>b
 | _=>false
theorem Zlr(h:ClOk bs.length c)(hn:bs.length<=60): ZbK [c,Zm bs]=some (.bool (hv c bs)):=by
 obtain⟨b,e⟩:=Zlo h hn
 unfold hv
 rw[e]
def Zbo(f:Nat)(q:Int)(c:T)(m:Mo): Bool:=decide (m.1=f) && (decide (m.2.1=q) && !hv c m.2.2)
end
theorem ZjE{fns:List T}{tw:T}{sig:Nat->Nat×Nat}{nf:Nat}{en:Nat->Int}{ks:List Int}(W:Wp fns tw sig nf en)(hnf:nf<=100): ∀(k:Nat) {s:RS} {r:List Mo×Nat},Inv tw sig nf en s->Zbl (.lst fns) tw ks k s=some r->∀m∈r.1,∃h,IsM sig nf en h m
 | 0,s,r,I,e=>by
  cases e
  exact λm hm=>(List.not_mem_nil hm).elim
 | k+1,s,r,I,e=>by
  rcases ZhN (ks:=ks) W hnf I with en | ⟨en,s',_,e2,I'⟩
  ·simp only[Zbl,en,Ys0,if_true]at e
   cases e
   exact λm hm=>(List.not_mem_nil hm).elim
  ·simp only[Zbl,en,Ys0,Bool.false_eq_true,if_false,e2]at e
   obtain⟨r',e3,rfl⟩:=Zz1.mp e
   intro m hm
   rcases Zz7.mp hm with rfl | hm
   ·obtain⟨⟨h,M,_⟩,_⟩:=I'
    exact⟨h,M⟩
   ·exact ZjE W hnf k I' e3 m hm
theorem ZmS{sig':Nat->Nat×Nat}(P:PrOk fns sig)(P':PrOk fns sig')(hj:j<fns.length): sig j=sig' j:=by
 obtain⟨b,r,e,h1,_⟩:=P.fn j hj
 obtain⟨b',r',e',h1',_⟩:=P'.fn j hj
 rw[h1]at h1'
 simp only[Option.some.injEq,T.tup.injEq,List.cons.injEq,T.int.injEq,Int.natCast_inj]at h1'
 exact Prod.ext h1'.1 h1'.2.1
section
variable {fs:List T} {rs:List (List T)} {sig:Nat->Nat×Nat} {ks ss:List Int} {steps:Int}
theorem Zrc(W:RR fs rs sig)(hss:ss.length=(sig (fs.length-1)).1)(s9:steps<=900): ∃ms:List Mo,ZdO [.lst fs,Zm ss,Zm ks,.int steps]=some (.lst (ms.map ZcW))/\Zd3 [.lst fs,.lst (rs.map T.lst),Zm ss,Zm ks,.int steps]=some (.lst (ms.map Zbn))/\ms.length<=1000/\∀m∈ms,∃h,h<fs.length/\m.1=(h:Nat)/\m.2.2.length=(sig h).2:=by
 have h1:=W.l1
 have h3:=W.l3
 obtain⟨tw,en,w1,w2,w3⟩:=Zk3 W.pr .l
 obtain⟨q1,q2,q3⟩:=W.pr.sg (fs.length-1)
 have l0:(m0r sig (fs.length-1) ss).2.2.length=(sig (fs.length-1)).2:=by simp[m0r,hss];lia
 have I0:Inv tw sig fs.length en ⟨0,[],m0r sig (fs.length-1) ss⟩:=⟨⟨fs.length-1,⟨rfl,.l,Int.le_refl _,w2.e0 _ .o,l0⟩,by simp;omega⟩,λi fr e=>by simp at e⟩
 obtain⟨r,hr,_⟩:=ZiH (ks:=ks) w2 .o steps.toNat I0
 have hM:=ZjE w2 .o steps.toNat I0 hr
 have hl:=ZiI hr
 refine⟨m0r sig (fs.length-1) ss::r.1,Zqg W.pr.pr h1 hss s9 w1 hr,?_,by simp;lia,λm hm=>?_⟩
 ·have hx:∃sig:Nat->Nat×Nat,PrR fs (rs.map T.lst) sig/\1<=fs.length/\fs.length<=100/\ss.length=(sig (fs.length-1)).1/\steps<=900:=⟨sig,W.pr,h1,.l,hss,s9⟩
  have es:m0r (Classical.choose hx) (fs.length-1) ss=m0r sig (fs.length-1) ss:=by
   unfold m0r
   rw[ZmS (Classical.choose_spec hx).1.pr W.pr.pr .o]
  simp only[Zd3,Zdz,Ys0]
  rw[dif_pos hx,w1]
  simp only[Ys0,es,hr,Ys1]
 ·rcases Zz7.mp hm with rfl | hm
  ·exact⟨fs.length-1,.l,rfl,l0⟩
  ·obtain⟨h,M⟩:=hM m hm
   exact⟨h,M.hn,M.f,M.bl⟩
def brk(ms:List Mo)(r:List T)(f:Nat)(q:Int): Bool:=match ZeF r q with
 | some c=>ms.any (Zbo f q c)
 | none=>false
variable {f:Nat} {q:Int} {r:List T} {ms:List Mo}
theorem Zi0(W:RR fs rs sig)(hf:f<fs.length)(hr:rs[f]?=some r): (((Zai r).filter λx=>x.1 == q)=[]/\ZeF r q=none)∨∃c,((Zai r).filter λx=>x.1 == q)=[(q,c)]/\ZeF r q=some c/\ClOk (sig f).2 c:=by
 obtain⟨b,r',e,q1,q2,q3,q4,_⟩:=W.fn f hf
 rw[hr]at q2
 cases q2
 rcases(Zeq q3).2 q with h | ⟨c,h,hc⟩
 ·exact .inl ⟨h,by simp[ZeF,h]⟩
 ·exact .inr ⟨c,h,by simp[ZeF,h],hc⟩
end
def Zb1(q:Int)(l:List T): T:=match ((Zai l).filter λx=>x.1 == q).getLast? with
 | some x=>x.2
 | none=>.none
theorem Zmj(h:∀y,ZaP x=some y->y.1≠q): Zb1 q (l++[x])=Zb1 q l:=by
 unfold Zb1 Zai
 rw[List.filterMap_append,List.filter_append]
 cases e:ZaP x with
 | none=>simp[e]
 | some y=>
  have:=h y e
  simp[e,this]
theorem Zl4(h:ZaP x=some (q,c)): Zb1 q (l++[x])=c:=by
 unfold Zb1 Zai
 rw[List.filterMap_append,List.filter_append]
 simp[h]
def to2: T->T
 | .tup [a,b,_]=>.tup [a,b]
 | t=>t
theorem ZmT(h:LyB (SL sig g n 3) ts u r e): T.tup [.str wY,c]∈ts->∃a b,rowT a (.tup [.str wY,c]) b∈r:=by
 induction h with
 | nil=>intro m;exact(List.not_mem_nil m).elim
 | @cons t ts u e1 e2 r1 r2 a _ ih=>
  intro m
  rcases Zz7.mp m with rfl | m
  ·rcases a with⟨_,rfl,_⟩ | ⟨c',x,y,ra,ea,rb,eb,h1,_⟩ | ⟨c',x,ra,ea,h1,_⟩
   ·exact⟨u,u+1,.s⟩
   ·unfold ifT at h1
    simp only[T.tup.injEq,List.cons.injEq]at h1
    exact absurd h1.2.2 .s
   ·unfold whT at h1
    simp only[T.tup.injEq,List.cons.injEq]at h1
    exact absurd h1.2.2 .s
  ·obtain⟨a',b',q⟩:=ih m
   exact⟨a',b',List.mem_append_right _ q⟩
theorem ZmU{a:Int}(h:rowT a (.tup [.str wY,c]) b∈r): Zai r≠[]:=by
 intro e
 have:(a,c)∈Zai r:=List.mem_filterMap.mpr ⟨_,h,by show(if wY=wY then some (a,c)else none)=_;rw[if_pos rfl]⟩
 rw[e]at this
 exact(List.not_mem_nil this).elim
theorem Zk4: ∀(rs:List (List T)) (i:Nat) (r:List T),r∈rs->Zai r≠[]->Z1 i rs≠[]
 | [],i,r,m,_=>(List.not_mem_nil m).elim
 | x::rs,i,r,m,h=>by
  rw[Z1]
  rcases Zz7.mp m with rfl | m
  ·intro e
   exact h (by simpa using (List.append_eq_nil_iff.mp e).1)
  ·intro e
   exact Zk4 rs (i+1) r m h (List.append_eq_nil_iff.mp e).2
end L
open PySem PM TM
namespace L
def ZgX: Sm:=Zn (Zg ZdR (Zb (Z5 (ZU (Za 1)) (Zu 100) (Zl (Zc Zx (eTo (Za 100) 2) (eTo (Za 0) 2))) (ZeG (Zg Zfx (Zb (Zc Zf (Za 0) (Zd 2)) (Zb (Zc Zf (Za 100) (Zd 2)) Ze))))) Ze))
def Ze6: List V->Hp->Option (V×Hp):=Zr 2 ZgX
end L
open PySem PM TM
namespace L
def ZgR: Sm:=Zn (Z5 (ZU (Zg Zeb (Zb (Za 0) Ze))) (Zu 100) (Zl (Zc oIn (eTo (Za 100) 2) (Za 1))) (Za 100))
def Ze5: List V->Hp->Option (V×Hp):=Zr 2 ZgR
end L
open PySem PM TM
namespace L
def Zhs: Sm:=Zh (Zk 6 (Zg Zgb (Zb (Za 0) (Zb (Za 1) (Zb (Za 2) (Zb (Za 3) Ze)))))) (Zn (Zg ZdR (Zb (Z5 (ZU (Zg Ze5 (Zb (Za 0) (Zb (Zy (Zb (ZM (Zb (Za 4) (Zb (Za 5) Ze))) Ze)) Ze)))) (Zu 100) ZD (Zg Ze6 (Zb (Za 100) (Zb (Za 6) Ze)))) Ze)))
def Zbi: List V->Hp->Option (V×Hp):=Zr 6 Zhs
end L
open PySem PySem.W PyProof.Rows PM TM My
namespace L
section
variable {O:Lc} {K M:Hp} {Q:V->Hp->Prop}
theorem Zh3{f:PM.Ex}(h:Ok (f O K) λx M=>∃a b c,x=.tup [a,b,c]/\Q (.tup [a,b]) M): Ok (eTo f 2 O K) Q:=by
 obtain⟨_,M,e,a,b,c,rfl,q⟩:=h
 exact⟨_,_,by simp[eTo,e],q⟩
theorem Zqk{a c d:Int}(h:Q (.bool (a == c && b == d)) K): Ok (Zx (.tup [.int a,.int b]) (.tup [.int c,.int d]) K) Q:=⟨_,_,by simp[Zx,ZbE,toD,ZcT,ZaM,SeqAt.shaped,PyData.eqv,PyData.eqvAll,PyData.canLay0,PyData.canLayAll0,PyData.depth,PyData.depthAll],h⟩
theorem Zql{a c d:Int}(e:K[i]?=some [.tup [.int c,.int d]])(h:Q (.bool (c == a && d == b)) K): Ok (oIn (.tup [.int a,.int b]) (.ref i) K) Q:=by
 have e1:toD K ZaM (.tup [.int a,.int b])=some (.tuple [.int a,.int b]):=rfl
 have e2:toD K ZaM (.ref i)=some (.list [.tuple [.int c,.int d]]):=by simp[toD,ZcT,ZaM,e]
 have e3:inD (.tuple [.int a,.int b]) (.list [.tuple [.int c,.int d]])=some (c == a && d == b):=by
  simp[inD,PyData.canLay0,PyData.canLayAll0,PyData.depth,PyData.depthAll,PyData.eqv,PyData.eqvAll]
 exact⟨_,_,by simp only[oIn,Zih,e1,e2,e3,Ys0,Ys1],h⟩
theorem ZjF{p:Mo->Bool}{m:Mo}(h:ms[j]?=some m): (ms.take (j+1)).any p=((ms.take j).any p || p m):=by
 rw[List.take_add_one,h,List.any_append];simp
theorem ZnG(h0:0<K.length)(rc:RF K vc c F)(ea:K[a]?=some vs)(rv:RFs K vs (ms.map ZcW) G)(hl:ms.length<=1000)(hm:∀m∈ms,m.1=f->ClOk m.2.2.length c/\m.2.2.length<=60): Ok (Ze6 [.tup [.int f,.int q,vc],.ref a] K) λv M=>v=.bool (ms.any (Zbo f q c))/\∃X,M=K++X:=by
 have lv:=rv.length
 rw[List.length_map]at lv
 unfold Ze6 ZgX
 refine Zac rfl (ZbA (Za1 (Z8 (Zct (ZbI (ZA (by walk_at "rd") (.inl ⟨a,vs,rfl,ea,?_⟩)))))))
 refine ZbC (λj acc M=>∃X bs,M=K++X/\acc=bs.map V.bool/\bs.length<=j/\bs.any id=(ms.take j).any (Zbo f q c)) (by rw[ZC];lia) ⟨[],[],.s,rfl,.s,.s⟩ ?_ ?_ ?_
 ·intro j _ _ hj q9;obtain⟨X,bs,rfl,rfl,lb,hb⟩:=q9
  obtain⟨m,hm'⟩:∃m,ms[j]?=some m:=⟨ms[j],Yy1 .o⟩
  obtain⟨v,Fv,ev,rm,_⟩:=rv.at (t:=ZcW m) (by rw[List.getElem?_map,hm'];rfl)
  obtain⟨b,us,G2,rfl,_,eb,rb⟩:=RF.imom rm
  refine⟨by simpa using lb,_,_,by rw[Zbq (Z6 ea),ev],ZbH _ _ _,?_⟩
  refine Za3 (Z9 (Zh3 (ZA (by walk_at "rd") ⟨_,_,_,rfl,Zh3 (ZA (by walk_at "rd") ⟨_,_,_,rfl,Zqk (ZaY ?_)⟩)⟩)))
  rw[ZjF hm']
  by_cases cc:m.1=f/\m.2.1=q
  ·obtain⟨k1,k2⟩:=hm m (Yy4 hm') cc.1
   refine ZbD (by simp[cc.1,cc.2]) ?_
   refine ZkH (Za1 (Z8 (Z9 (ZA (by walk_at "rd") (Zao (ZbJ .d rfl (Z8 (Z9 (ZA (by walk_at "rd") (Zao (ZbJ .d rfl (Zas ?_))))))))))))
   obtain⟨v,Y,F',g1,g2,_⟩:=Zot (K++X) [vc,.ref b] _ _ _ (by simp;lia) (.cons (rc.ext X) (.cons (.ref (Z6 eb) (rb.ext X)) .nil)) (Zlr k1 k2)
   cases g2
   refine Zap g1 (ZaY ⟨X++Y,bs++[!hv c m.2.2],.s,.s,by simp;omega,?_⟩)
   rw[List.any_append,hb]
   simp[Zbo,cc.1,cc.2]
  ·refine Zbc (by simpa using cc) ⟨X,bs,rfl,rfl,.l,?_⟩
   have:Zbo f q c m=false:=by
    unfold Zbo
    by_cases c1:m.1=(f:Int)
    ·have c2:m.2.1≠q:=λe=>cc ⟨c1,e⟩
     simp[c2]
    ·simp[c1]
   rw[this,hb,Bool.or_false]
 ·intro _ _ q9;obtain⟨X,bs,rfl,rfl,_⟩:=q9
  rw[Zbq (Z6 ea)];simp
 ·intro _ _ q9;obtain⟨X,bs,rfl,rfl,lb,hb⟩:=q9
  rw[lv,List.take_length]at hb
  refine Zas (ZfN (by walk_at "at") ⟨by rw[hb],_,List.append_assoc ..⟩)
theorem Zkv{x:Int×T}(r:RF K v (ZaE f x) F): ∃vc G,v=.tup [.int f,.int x.1,vc]/\RF K vc x.2 G/\F=G:=by
 obtain⟨a,b,c,F1,F2,F3,rfl,rfl,r1,r2,r3⟩:=RF.i3 r
 obtain⟨rfl,rfl⟩:=r1.iint
 obtain⟨rfl,rfl⟩:=r2.iint
 exact⟨c,F3,rfl,r3,rfl⟩
def atP(f:Nat)(q:Int)(t:T): Bool:=dec (t=ZaE f (q,match t with | .tup [_,_,c]=>c | _=>.none))
theorem ZoS{a:Int}: atP f q (ZaE j (a,c))=((f:Int) == j && q == a):=by
 unfold atP ZaE
 by_cases cc:(f:Int)=j/\q=a
 ·obtain⟨h1,rfl⟩:=cc
  rw[Zlh (by simp[h1])];simp[h1]
 ·rw[Zh5 (by simp only[T.tup.injEq,List.cons.injEq,T.int.injEq];exact λh=>cc ⟨h.1.symm,h.2.1.symm⟩)]
  symm
  simpa using cc
theorem ZmV{s:Nat}(W:RR fs rs sig)(h0:0<K.length)(rp:RF K v (.lst fs) F)(es:K[s]?=some [.tup [.int f,.int q]]): Ok (Ze5 [v,.ref s] K) λu M=>∃X a vs G,M=K++X/\u=.ref a/\M[a]?=some vs/\RFs M vs ((Z1 0 rs).filter (atP f q)) G:=by
 have hsm:=W.small rs.length
 rw[List.take_length]at hsm
 obtain⟨u,X,G,g1,g2,_⟩:=ZoQ K [v] _ _ _ h0 (.one rp) (ZnF W)
 obtain⟨a,vs,G2,rfl,ea,rv,_⟩:=g2.ilst
 have lv:=rv.length
 unfold Ze5 ZgR
 refine Zac rfl (ZbA (Zct (ZbI (Za1 (Z8 (ZA (by walk_at "rd") (Zas (Zap g1 (.inl ⟨a,vs,rfl,ea,?_⟩)))))))))
 refine ZbC (λj acc M=>M=K++X/\∃G,RFs (K++X) acc (((Z1 0 rs).take j).filter (atP f q)) G) (by rw[ZC];lia) ⟨rfl,[],.nil⟩ ?_ ?_ ?_
 ·intro j acc _ hj q9;obtain⟨rfl,G3,ra⟩:=q9
  obtain⟨t,ht⟩:∃t,(Z1 0 rs)[j]?=some t:=⟨(Z1 0 rs)[j],Yy1 .o⟩
  obtain⟨i,⟨b,c⟩,rfl⟩:=Zku rs 0 t (Yy4 ht)
  obtain⟨x,Fx,ex,rx,_⟩:=rv.at ht
  obtain⟨vc,G4,rfl,rc,_⟩:=Zkv rx
  have la:=ra.length
  have lf:=List.length_filter_le (atP f q) ((Z1 0 rs).take j)
  refine⟨by simp at lf;lia,_,_,by rw[Zbq ea,ex],ZbH _ _ _,?_⟩
  refine Za3 (Z9 (Zh3 (ZA (by walk_at "rd") ⟨_,_,_,rfl,ZA (by walk_at "rd") (Zql (Z6 es) (ZaY ?_))⟩)))
  have tk:((Z1 0 rs).take (j+1)).filter (atP f q)=((Z1 0 rs).take j).filter (atP f q)++if(f:Int) == i && q == b then [ZaE i (b,c)]else []:=by
   rw[List.take_add_one,ht,List.filter_append]
   simp only[Option.toList,List.filter_cons,List.filter_nil,ZoS]
  rw[tk]
  refine⟨λe=>ZA (by walk_at "rd") ⟨rfl,G3++Fx,?_⟩,λe=>⟨rfl,G3,?_⟩⟩
  ·rw[e]
   exact ra.snoc rx
  ·rw[e]
   simpa using ra
 ·intro _ _ q9;obtain⟨rfl,_⟩:=q9
  rw[Zbq ea];simp
 ·intro acc _ q9;obtain⟨rfl,G3,ra⟩:=q9
  rw[lv,List.take_length]at ra
  exact⟨X++[acc],_,acc,G3,.s,rfl,by walk_at "at",ra.ext _⟩
theorem Zmk(W:RR fs rs sig)(hf:f<fs.length)(hr:rs[f]?=some r)(hrun:ZdO [.lst fs,Zm ss,Zm ks,.int steps]=some (.lst (ms.map ZcW)))(hl:ms.length<=1000)(hm:∀m∈ms,∃h,h<fs.length/\m.1=(h:Nat)/\m.2.2.length=(sig h).2)(h0:0<K.length)(r1:RF K v1 (.lst fs) F1)(r2:RF K v2 (Zm ss) F2)(r3:RF K v3 (Zm ks) F3): Ok (Zbi [v1,v2,v3,.int steps,.int f,.int q] K) λv M=>v=.bool (brk ms r f q)/\∃X,M=K++X:=by
 obtain⟨u,X,G,g1,g2,_⟩:=Zp9 K _ _ _ _ h0 (.cons r1 (.cons r2 (.cons r3 (.cons (.int steps) .nil)))) hrun
 obtain⟨a,vs,G2,rfl,ea,rv,_⟩:=g2.ilst
 unfold Zbi Zhs
 refine Zac rfl ?_
 repeat' walk_at "ok"
 refine Zap g1 ?_
 repeat' walk_at "ok"
 refine(ZmV (f:=f) (q:=q) W (by simp;lia) ((r1.ext X).ext _) (ZE _ _)).mono ?_
 intro _ _ q9;obtain⟨Y,b,us,G3,rfl,rfl,eb,rs'⟩:=q9
 have hd:=Zkt (f:=f) (q:=q) rs 0
 rw[if_pos (Nat.zero_le _),Nat.sub_zero,hr]at hd
 dsimp only at hd
 rw[show(Z1 0 rs).filter (atP f q)=_ from hd]at rs'
 refine .inl ⟨b,us,rfl,eb,?_⟩
 rcases Zi0 (q:=q) W hf hr with⟨e1,e2⟩ | ⟨c,e1,e2,hc⟩
 ·rw[e1]at rs'
  obtain⟨rfl,_⟩:=rs'.inil
  refine ZbC (m:=0) (λj acc M=>acc=[]/\M=K++X++[[.tup [.int f,.int q]]]++Y) .s ⟨rfl,rfl⟩ (λi _ _ h=>by lia) ?_ ?_
  ·intro _ _ q9;obtain⟨rfl,rfl⟩:=q9
   rw[Zbq eb];rfl
  ·intro _ _ q9;obtain⟨rfl,rfl⟩:=q9
   exact ZfN (bs:=[]) (ZE _ _) ⟨by simp[brk,e2],_,by simp only[List.append_assoc];rfl⟩
 ·rw[e1]at rs'
  obtain⟨vb,rfl,rb⟩:=rs'.i1
  obtain⟨vc,G4,rfl,rc,_⟩:=Zkv rb
  refine ZbC (m:=1) (λj acc M=>(∃Z,M=K++X++[[.tup [.int f,.int q]]]++Y++Z)/\acc=(if j=0 then []else [ms.any (Zbo f q c)]).map V.bool) (by rw[ZC];lia) ⟨⟨[],.s⟩,rfl⟩ ?_ ?_ ?_
  ·intro j _ _ hj q9;obtain⟨⟨Z,rfl⟩,rfl⟩:=q9
   obtain rfl:j=0:=by lia
   refine⟨.s,_,_,by rw[Zbq (Z6 eb)];rfl,ZbH _ _ _,Zbu (ZbD rfl ?_)⟩
   refine Za1 (Z8 (ZA (by walk_at "rd") (Z8 (ZA (by walk_at "rd") (Zas ?_)))))
   refine(ZnG (by simp;lia) (rc.ext Z) (Z6 (Z6 (Z6 ea))) (((rv.ext _).ext Y).ext Z) hl (λm hmm e=>?_)).mono ?_
   ·obtain⟨h,k1,k2,k3⟩:=hm m hmm
    obtain rfl:h=f:=by lia
    have:=W.pr.sg h
    rw[k3]
    exact⟨hc,.l⟩
   ·intro _ _ q9;obtain⟨rfl,Z2,rfl⟩:=q9
    exact⟨⟨Z++Z2,by simp only[List.append_assoc]⟩,rfl⟩
  ·intro _ _ q9;obtain⟨⟨Z,rfl⟩,rfl⟩:=q9
   rw[Zbq (Z6 eb)];rfl
  ·intro _ _ q9;obtain⟨⟨Z,rfl⟩,rfl⟩:=q9
   exact ZfN (bs:=[ms.any (Zbo f q c)]) (ZE _ _) ⟨by simp[brk,e2],_,by simp only[List.append_assoc];rfl⟩
end
end L
open PySem PM TM
namespace L
def ZgS: Sm:=Zh (Zk 7 (Zat)) (Zh (Zaq (ZU (Zc Zf (Za 1) (Za 5))) (Zu 8) (Zs (ZX (Zl (Zc Zx (Zc Zf (Za 8) (Zd 0)) (Za 6))) (ZX (Zl (Zc Zx (Zc Zf (Zc Zf (Za 8) (Zd 1)) (Zd 0)) (ZG (Str.ofString "say")))) ZD)) (Zk 7 (Zc Zf (Zc Zf (Za 8) (Zd 1)) (Zd 1))) ZF)) (Zh (Zs (Zl (Zc oIs (Za 7) (Zat))) (Zn (ZaG false)) ZF) (Zh (Zaq (ZU (Zg Ze3 (Zb (Za 0) (Zb (Za 1) (Zb (Za 2) (Zb (Za 3) (Zb (Za 4) Ze))))))) (Zu 9) (Zs (ZX (Zl (Zc Zx (Zc Zf (Za 9) (Zd 0)) (Za 5))) (ZX (Zl (Zc Zx (Zc Zf (Za 9) (Zd 1)) (Za 6))) (ZX (Zbm (Zl (Zg Zfc (Zb (Za 7) (Zb (Zc Zf (Za 9) (Zd 2)) Ze))))) ZD))) (Zn (ZaG true)) ZF)) (Zn (ZaG false)))))
def Zbh: List V->Hp->Option (V×Hp):=Zr 7 ZgS
end L
open PySem PySem.W PyProof.Rows PM TM My
namespace L
section
variable {O:Lc} {K M:Hp} {Q:V->Hp->Prop}
theorem Zht{a:Int}(ey:ZaP (rowT a (.tup (.str w::rest)) b)=some y): y.1=a/\w=wY:=by
 obtain⟨h,as,e,f⟩:=Zks ey
 cases e
 cases f
 exact⟨h,rfl⟩
theorem Zml{v6:V}{F6:List Nat}(W:RR fs rs sig)(hf:f<fs.length)(hr:rs[f]?=some r)(hrun:Zd3 [.lst fs,.lst (rs.map T.lst),Zm ss,Zm ks,.int steps]=some (.lst (ms.map Zbn)))(hl:ms.length<=1000)(hm:∀m∈ms,∃h,h<fs.length/\m.1=(h:Nat)/\m.2.2.length=(sig h).2)(h0:0<K.length)(r1:RF K v1 (.lst fs) F1)(r2:RF K v2 (Zm ss) F2)(r3:RF K v3 (Zm ks) F3)(r6:RF K v6 (.lst (rs.map T.lst)) F6): Ok (Zbh [v1,v6,v2,v3,.int steps,.int f,.int q] K) λv M=>v=.bool (brk ms r f q)/\∃X,M=K++X:=by
 obtain⟨u,X,G,g1,g2,_⟩:=ZlE K _ _ _ _ h0 (.cons r1 (.cons r6 (.cons r2 (.cons r3 (.cons (.int steps) .nil))))) hrun
 obtain⟨a,vs,G2,rfl,ea,rv,_⟩:=g2.ilst
 have lv:=rv.length
 rw[List.length_map]at lv
 obtain⟨b,r',e,q1,q2,q3,q4,_⟩:=W.fn f hf
 rw[hr]at q2
 cases q2
 obtain⟨hw,_⟩:=Zeq q3
 obtain⟨a6,u6,G6,rfl,e6,s6,_⟩:=r6.ilst
 obtain⟨vr,Fr,er,rr,_⟩:=s6.at (t:=.lst r) (by rw[List.getElem?_map,hr];rfl)
 obtain⟨ar,ur,Gr,rfl,ear,sr,_⟩:=rr.ilst
 have lr:=sr.length
 unfold Zbh ZgS
 refine Zac rfl (Zam (Zb4 (Zfr (Zam (Zdc (ZbI (Z9 (ZA (by walk_at "rd") (ZA (by walk_at "rd") (ZbM e6 .l (by rw[Int.toNat_natCast];exact er) (ZcA ear ?_)))))))))))
 refine Zfu (λi O M=>K=M/\(∀j,j<7->O j=[v1,.ref a6,v2,v3,.int steps,.int f,.int q][j]?)/\∃w7 F7,O 7=some w7/\RF K w7 (Zb1 q (r.take i)) F7) ⟨rfl,λj hj=>Zce .l rfl,_,_,rfl,.none⟩ (by intro i O _ q9;obtain⟨rfl,_⟩:=q9;exact ear) ?_ ?_
 ·intro i x O _ hx q9;obtain⟨rfl,k,w7,F7,e7,r7⟩:=q9
  obtain⟨t,ht⟩:∃t,r[i]?=some t:=⟨r[i]'(by have:=(Zz6.mp hx).1;lia),Yy1 _⟩
  obtain⟨x',Fx,ex,rx,_⟩:=sr.at ht
  rw[hx]at ex
  cases ex
  obtain⟨a,w,rest,b,rfl,hok,hsay⟩:=hw t (Yy4 ht)
  obtain⟨vr,Gx,rfl,rz,_⟩:=Zfo rx
  have htk:r.take (i+1)=r.take i++[rowT a (.tup (.str w::rest)) b]:=by rw[List.take_add_one,ht];rfl
  rw[htk]
  have k6:O 6=some (.int q):=k 6 .d
  have no:(∀y,ZaP (rowT a (.tup (.str w::rest)) b)=some y->y.1≠q)->∀M,K=M->K=M/\(∀j,j<7->Zi O 8 (.tup [.int a,.tup (.str w::vr),.int b]) j=[v1,.ref a6,v2,v3,.int steps,.int f,.int q][j]?)/\∃w7 F7,Zi O 8 (.tup [.int a,.tup (.str w::vr),.int b]) 7=some w7/\RF K w7 (Zb1 q (r.take i++[rowT a (.tup (.str w::rest)) b])) F7:=λh M e=>by
   rw[Zmj h]
   exact⟨e,λj hj=>Zce .l (k j hj),w7,F7,Zce .d e7,r7⟩
  refine Za8 (ZcL (Za3 (Z9 (Z9 (ZA (by walk_at "rd") (Zao (ZbJ .d rfl (ZA (by walk_at "rd") (Zf5 (ZaY ?_))))))))))
  by_cases c:a=q
  ·subst c
   refine ZbD .s (ZcL (Za3 (Z9 (Z9 (Z9 (ZA (by walk_at "rd") (Zao (ZbJ .d rfl (Zao (ZbJ .d rfl (ZfK (ZfM hok .D (ZaY ?_)))))))))))))
   by_cases cw:w=wY
   ·obtain⟨cl,rfl,_⟩:=hsay cw
    subst cw
    obtain⟨vc,rfl,rc⟩:=rz.i1
    refine ZbD .D (Zbu (ZbD rfl ?_))
    repeat' walk_at "ok"
    refine⟨rfl,λj hj=>Zce .o (Zce .o (k j hj)),vc,Gx,rfl,?_⟩
    rw[Zl4 (c:=cl) (by show(if wY=wY then some (a,cl)else none)=_;rw[if_pos rfl])]
    exact rc
   ·exact Zbc (by simp[PyData.eqv];exact cw) (Zbc rfl (Zbv (no (λy ey=>absurd (Zht ey).2 cw) _ rfl)))
  ·exact Zbc (by simpa using c) (Zbc rfl (Zbv (no (λy ey=>by rw[(Zht ey).1];exact c) _ rfl)))
 ·intro O _ q9;obtain⟨rfl,k,w7,F7,e7,r7⟩:=q9
  rw[lr,List.take_length]at r7
  have k0:O 0=some (v1):=k 0 .d
  have k1:O 1=some (.ref a6):=k 1 .d
  have k2:O 2=some (v2):=k 2 .d
  have k3:O 3=some (v3):=k 3 .d
  have k4:O 4=some (.int steps):=k 4 .d
  have k5:O 5=some (.int f):=k 5 .d
  have k6:O 6=some (.int q):=k 6 .d
  rcases Zi0 (q:=q) W hf hr with⟨h1,h2⟩ | ⟨c,h1,h2,hc⟩
  ·rw[show Zb1 q r=.none by unfold Zb1;rw[h1];rfl]at r7
   cases r7
   refine Zam (Za8 (Za3 (Z9 (ZA e7 (Zfr (ZkL (ZaY (ZbD rfl (ZbA (Zfs ⟨?_,[],.s⟩))))))))))
   simp[brk,h2]
  ·rw[show Zb1 q r=c by unfold Zb1;rw[h1];rfl]at r7
   obtain⟨us,rfl⟩:∃us,c=.tup us:=by cases hc <;> exact⟨_,rfl⟩
   obtain⟨vs7,rfl,_⟩:=r7.itup
   have hbr:brk ms r f q=ms.any (Zbo f q (.tup us)):=by simp[brk,h2]
   rw[hbr]
   refine Zam (Za8 (Za3 (Z9 (ZA e7 (Zfr (ZkM (ZaY (Zbc rfl (Zbv ?_)))))))))
   refine Zam (Zdc (ZbI ?_))
   repeat' walk_at "ok"
   refine Zap g1 (ZcA ea ?_)
   refine Zfu (λi U M=>(∃Y,M=K++X++Y)/\U 5=some (.int f)/\U 6=some (.int q)/\U 7=some (.tup vs7)/\(ms.take i).any (Zbo f q (.tup us))=false) ⟨⟨[],.s⟩,k5,k6,e7,.s⟩ (by intro i O _ q9;obtain⟨⟨Y,rfl⟩,_⟩:=q9;exact Z6 ea) ?_ ?_
   ·intro i x U _ hx q9;obtain⟨⟨Y,rfl⟩,d5,d6,d7,hb⟩:=q9
    obtain⟨m,hm'⟩:∃m,ms[i]?=some m:=⟨ms[i]'(by have:=(Zz6.mp hx).1;lia),Yy1 _⟩
    obtain⟨x',Fx,ex,rx,_⟩:=rv.at (t:=Zbn m) (by rw[List.getElem?_map,hm'];rfl)
    rw[hx]at ex
    cases ex
    obtain⟨p,rfl,fm,_⟩:=Zh2 rx
    have fm1:=Z6 (X:=Y) fm.1
    have mem:=Yy4 hm'
    rw[ZjF hm',hb,Bool.false_or]
    refine Za8 (ZcL (Za3 (Z9 (Z9 (ZA (by walk_at "rd") (Zao (ZbM fm1 .d rfl (ZA (by walk_at "rd") (Zf5 (ZaY ?_))))))))))
    by_cases c1:m.1=(f:Int)
    ·refine ZbD (by simp[c1]) (ZcL (Za3 (Z9 (Z9 (ZA (by walk_at "rd") (Zao (ZbM fm1 .d rfl (ZA (by walk_at "rd") (Zf5 (ZaY ?_))))))))))
     by_cases c2:m.2.1=q
     ·obtain⟨h,j1,j2,j3⟩:=hm m mem
      obtain rfl:h=f:=by lia
      have sg:=W.pr.sg h
      have hcm:ClOk m.2.2.length (.tup us):=by rw[j3];exact hc
      obtain⟨v,Z,F',z1,z2,_⟩:=Zmb (K++X++Y) [.tup vs7,.ref p.2] _ _ _ (by simp;lia) (.cons ((r7.ext X).ext Y) (.cons (ZbP (Z6 (X:=Y) fm.2)) .nil)) (Zlr hcm .l)
      cases z2
      refine ZbD (by simp[c2]) (ZcL (ZjU (Za3 (Za1 (Z8 (ZA (by walk_at "rd") (Z8 (Z9 (ZA (by walk_at "rd") (Zao (ZbM fm1 .d rfl (Zas (Zap z1 (ZaY ?_))))))))))))))
      cases hvv:hv (.tup us) m.2.2 with
      | true=>exact Zbc rfl (Zbc rfl (Zbv ⟨⟨Y++Z,.s⟩,by walk_at "rd",by walk_at "rd",by walk_at "rd",by simp[Zbo,hvv]⟩))
      | false=>
       refine ZbD rfl (Zbu (ZbD rfl (ZbA (Zfs ⟨?_,_,by simp only[List.append_assoc];rfl⟩))))
       rw[List.any_eq_true.mpr ⟨m,mem,by simp[Zbo,hvv,c1,c2]⟩]
     ·exact Zbc (by simpa using c2) (Zbc rfl (Zbv ⟨⟨Y,rfl⟩,by walk_at "rd",by walk_at "rd",by walk_at "rd",by simp[Zbo,c2]⟩))
    ·exact Zbc (by simpa using c1) (Zbc rfl (Zbv ⟨⟨Y,rfl⟩,by walk_at "rd",by walk_at "rd",by walk_at "rd",by simp[Zbo,c1]⟩))
   ·intro U _ q9;obtain⟨⟨Y,rfl⟩,_,_,_,hb⟩:=q9
    rw[lv,List.take_length]at hb
    exact ZbA (Zfs ⟨by rw[hb],_,by simp only[List.append_assoc];rfl⟩)
theorem ZmW(W:RR fs rs sig)(h0:0<K.length)(ea:K[a]?=some vs)(rv:RFs K vs (rs.map T.lst) F): Ok (ZdW [.ref a] K) λv M=>∃us,v=.ref K.length/\M=K++[us]/\RFs K us ((Z1 0 rs).map to2) []:=by
 have lv:=rv.length
 rw[List.length_map]at lv
 have hr:=W.small
 have l3:=W.l3
 have ln:=W.len
 unfold ZdW Zgv
 refine Zac rfl (Zam (Zb4 (Zda (Zas ⟨.s,Zam (Zdc (ZiO ?_))⟩))))
 repeat' walk_at "ok"
 refine Zlg .l (Zft (λi O M=>O 0=some (.ref a)/\O 1=some (.ref K.length)/\∃us,M=K++[us]/\RFs K us ((Z1 0 (rs.take i)).map to2) []) ⟨by walk_at "rd",by walk_at "rd",[],rfl,.nil⟩ ?_ ?_)
 ·intro i O _ hi q9;obtain⟨e0,e1,us,rfl,ru⟩:=q9
  obtain⟨body,r,e,q1,er,q3,hr',_⟩:=W.fn i .l
  obtain⟨hw,_⟩:=Zeq q3
  obtain⟨vr,Fr,evr,rr,_⟩:=rv.at (t:=.lst r) (by rw[List.getElem?_map,er];rfl)
  obtain⟨ar,ur,Gr,rfl,ear,sr,_⟩:=rr.ilst
  have lr:=sr.length
  refine Zdc (ZbI (Z9 (ZA (by walk_at "rd") (ZA (by walk_at "rd") (ZbM (ZI ea) .l (by rw[Int.toNat_natCast];exact evr) (ZcA (ZI ear) ?_))))))
  refine Zfu (λj O M=>O 0=some (.ref a)/\O 1=some (.ref K.length)/\O 2=some (.int i)/\∃us,M=K++[us]/\RFs K us ((Z1 0 (rs.take i)++(Zai (r.take j)).map (ZaE i)).map to2) []) ⟨by walk_at "rd",by walk_at "rd",by walk_at "rd",us,rfl,by rw[List.take_zero];show RFs K us ((Z1 0 (rs.take i)++[]).map to2) [];rw[List.append_nil];exact ru⟩ (by intro j O _ q9;obtain⟨_,_,_,us,rfl,_⟩:=q9;exact ZI ear) ?_ ?_
  ·intro j x O _ hx q9;obtain⟨e0,e1,e2,us,rfl,ru⟩:=q9
   obtain⟨t,ht⟩:∃t,r[j]?=some t:=⟨r[j]'(by have:=(Zz6.mp hx).1;lia),Yy1 _⟩
   obtain⟨x',Fx,ex,rx,_⟩:=sr.at ht
   rw[hx]at ex
   cases ex
   obtain⟨c,w,rest,d,rfl,hok,hsay⟩:=hw t (Yy4 ht)
   obtain⟨vr,Gx,rfl,rz,_⟩:=Zfo rx
   have htk:r.take (j+1)=r.take j++[rowT c (.tup (.str w::rest)) d]:=by rw[List.take_add_one,ht];rfl
   rw[htk,Zai,List.filterMap_append]
   refine Za8 (Za3 (Z9 (Z9 (Z9 (ZA (by walk_at "rd") (Zao (ZbJ .d rfl (Zao (ZbJ .d rfl (ZfK (ZfM hok .D (ZaY ?_))))))))))))
   by_cases cw:w=wY
   ·obtain⟨cl,rfl,_⟩:=hsay cw
    subst cw
    have hs:ZaP (rowT c (.tup [.str wY,cl]) d)=some (c,cl):=by
     show(if wY=wY then some (c,cl)else none)=_
     rw[if_pos rfl]
    have lu:=ru.length
    have ls:=ZjC (r.take j)
    have lt:=hr i
    refine ZbD .D (ZfL (ZiN ?_))
    repeat' walk_at "ok"
    refine Zc3 (ZE _ _) .l (by rw[ZC,lu];simp;simp at ls;lia) ⟨by walk_at "rd",by walk_at "rd",by walk_at "rd",_,ZhB _ _,?_⟩
    rw[List.filterMap_cons,hs,List.filterMap_nil]
    have:=ru.snoc (.tup (.cons (.int i) (.cons (.int c) .nil)))
    simpa [Zai,ZaE,to2]using this
   ·have hs:ZaP (rowT c (.tup (.str w::rest)) d)=none:=by
     cases h:ZaP (rowT c (.tup (.str w::rest)) d)with
     | none=>rfl
     | some y=>exact absurd (Zht h).2 cw
    refine Zbc (by simp[PyData.eqv];exact cw) (Zbv ⟨by walk_at "rd",by walk_at "rd",by walk_at "rd",us,rfl,?_⟩)
    rw[List.filterMap_cons,hs,List.filterMap_nil]
    dsimp only
    rw[List.append_nil]
    exact ru
  ·intro O _ q9;obtain⟨e0,e1,e2,us,rfl,ru⟩:=q9
   rw[lr,List.take_length]at ru
   rw[ZiY er]
   exact⟨e0,e1,us,rfl,ru⟩
 ·intro O _ q9;obtain⟨e0,e1,us,rfl,ru⟩:=q9
  rw[lv,List.take_length]at ru
  exact ZbA (ZA e1 ⟨us,rfl,rfl,ru⟩)
end
end L
open PySem PySem.W PyProof.Rows PM TM My
namespace L
def Zhu: Sm:=Zh (Zk 1 (Zy (Zb (Zag (Za 0) Zau (Zae (Zd 84))) (Zb (Zd 0) Ze)))) (Zh (Zk 2 (Zg Ze8 (Zb (Za 1) (Zb (Zg Ze2 (Zb (Za 1) (Zb (Zd 3) Ze))) Ze)))) (Zh (Zk 3 (Z5 (ZaF (Zb (Zc Zf (Zc Zf (Za 2) (ZB Zax (Zd 1))) (Zd 0)) Ze)) (Zu 100) ZD (Zg ZcF (Zb (Za 1) Ze)))) (Zh (Zk 4 (Z5 (ZaF (Zb (Zg ZR (Zb (Za 1) (Zb (Zd 7) Ze))) Ze)) (Zu 102) ZD (Zg ZcF (Zb (Za 1) Ze)))) (Zh (Zk 5 (Zc Zf (Zy (Zb (Zg ZR (Zb (Za 1) (Zb (Zd 25) Ze))) (Zb (Zg ZR (Zb (Za 1) (Zb (Zd 61) Ze))) Ze))) (Zg ZdL (Zb (Zc Zx (Zg ZR (Zb (Za 1) (Zb (Zd 8) Ze))) (Zd 7)) Ze)))) (Zh (Zk 6 (Z5 (ZU (Za 2)) (Zu 104) ZD (Zg Zcc (Zb (Zg Zbp (Zb (Zc Zf (Za 104) (Zd 2)) Ze)) Ze)))) (Zh (Zk 7 (Zg ZdW (Zb (Za 6) Ze))) (Zh (Zk 8 (Zg ZR (Zb (Za 1) (Zb (Zg ZO (Zb (Za 7) Ze)) Ze)))) (Zh (Zk 9 (Zg ZR (Zb (Za 1) (Zb (Zg ZO (Zb (Za 2) Ze)) Ze)))) (Zh (Zk 10 (Zg Zdo (Zb (Zc Zw (Zy (Zb (Zd 0) Ze)) (Z5 (ZU (Zc Zf (Za 6) (Za 9))) (Zu 106) ZD (Zc Zf (Za 106) (Zd 2)))) Ze))) (Zh (Zk 11 (Zg Zbp (Zb (Zy (Zb (Za 2) (Zb (Za 3) (Zb (Za 4) Ze)))) Ze))) (Zh (Zaq (ZU (Zc Zw (Zag (Zc Zw (Zag (Za 7) (Zae (Za 8)) Zau) (Zag (Za 7) Zau (Zae (Za 8)))) Zau (Zae (Zd 2))) (Zy (Zb (ZM (Zb (Za 9) (Zb (Zg ZR (Zb (Za 1) (Zb (Zc Zw (Za 10) (Zd 1)) Ze))) Ze))) Ze)))) (Zu 12) (Zh (Zk 13 (Zg Zbi (Zb (Zc Zf (Za 11) (Zd 0)) (Zb (Zc Zf (Za 11) (Zd 1)) (Zb (Zc Zf (Za 11) (Zd 2)) (Zb (Za 5) (Zb (Zc Zf (Za 12) (Zd 0)) (Zb (Zc Zf (Za 12) (Zd 1)) Ze)))))))) (Zh (Zk 14 (Zg Zbh (Zb (Za 2) (Zb (Za 6) (Zb (Za 3) (Zb (Za 4) (Zb (Za 5) (Zb (Zc Zf (Za 12) (Zd 0)) (Zb (Zc Zf (Za 12) (Zd 1)) Ze))))))))) (Zs (tOr (Zbm (Zl (eIs "bool" (Za 13)))) (tOr (Zl (Zc oNe (Za 13) (Za 14))) (tOr (Zl (Zc oNe (Za 11) (Zy (Zb (Za 2) (Zb (Za 3) (Zb (Za 4) Ze)))))) Zb2))) (Zn (ZaG false)) ZF)))) (Zh (ZJ (ZcS (Zc Zf (Za 11) (Zd 2)) (Zd 0) (Zd 7))) (Zh (Zk 12 (Zc Zf (Za 7) (Za 8))) (Zh (Zk 13 (Zg Zbi (Zb (Zc Zf (Za 11) (Zd 0)) (Zb (Zc Zf (Za 11) (Zd 1)) (Zb (Zc Zf (Za 11) (Zd 2)) (Zb (Za 5) (Zb (Zc Zf (Za 12) (Zd 0)) (Zb (Zc Zf (Za 12) (Zd 1)) Ze)))))))) (Zn (Zc Zx (Za 13) (Zg Zbh (Zb (Za 2) (Zb (Za 6) (Zb (Za 3) (Zb (Zc Zw (Zy (Zb (Zd 7) Ze)) (Za 4)) (Zb (Za 5) (Zb (Zc Zf (Za 12) (Zd 0)) (Zb (Zc Zf (Za 12) (Zd 1)) Ze))))))))))))))))))))))))
def Zfp: List V->Hp->Option (V×Hp):=Zr 1 Zhu
def Zhv: Sm:=Zh (Zk 6 (Z5 (ZU (Za 2)) (Zu 104) ZD (Zg Zcc (Zb (Zg Zbp (Zb (Zc Zf (Za 104) (Zd 2)) Ze)) Ze)))) (Zh (Zk 7 (Zg ZdW (Zb (Za 6) Ze))) (Zh (Zk 8 (Zg ZR (Zb (Za 1) (Zb (Zg ZO (Zb (Za 7) Ze)) Ze)))) (Zh (Zk 9 (Zg ZR (Zb (Za 1) (Zb (Zg ZO (Zb (Za 2) Ze)) Ze)))) (Zh (Zk 10 (Zg Zdo (Zb (Zc Zw (Zy (Zb (Zd 0) Ze)) (Z5 (ZU (Zc Zf (Za 6) (Za 9))) (Zu 106) ZD (Zc Zf (Za 106) (Zd 2)))) Ze))) (Zh (Zk 11 (Zg Zbp (Zb (Zy (Zb (Za 2) (Zb (Za 3) (Zb (Za 4) Ze)))) Ze))) (Zh (Zaq (ZU (Zc Zw (Zag (Zc Zw (Zag (Za 7) (Zae (Za 8)) Zau) (Zag (Za 7) Zau (Zae (Za 8)))) Zau (Zae (Zd 2))) (Zy (Zb (ZM (Zb (Za 9) (Zb (Zg ZR (Zb (Za 1) (Zb (Zc Zw (Za 10) (Zd 1)) Ze))) Ze))) Ze)))) (Zu 12) (Zh (Zk 13 (Zg Zbi (Zb (Zc Zf (Za 11) (Zd 0)) (Zb (Zc Zf (Za 11) (Zd 1)) (Zb (Zc Zf (Za 11) (Zd 2)) (Zb (Za 5) (Zb (Zc Zf (Za 12) (Zd 0)) (Zb (Zc Zf (Za 12) (Zd 1)) Ze)))))))) (Zh (Zk 14 (Zg Zbh (Zb (Za 2) (Zb (Za 6) (Zb (Za 3) (Zb (Za 4) (Zb (Za 5) (Zb (Zc Zf (Za 12) (Zd 0)) (Zb (Zc Zf (Za 12) (Zd 1)) Ze))))))))) (Zs (tOr (Zbm (Zl (eIs "bool" (Za 13)))) (tOr (Zl (Zc oNe (Za 13) (Za 14))) (tOr (Zl (Zc oNe (Za 11) (Zy (Zb (Za 2) (Zb (Za 3) (Zb (Za 4) Ze)))))) Zb2))) (Zn (ZaG false)) ZF)))) (Zh (ZJ (ZcS (Zc Zf (Za 11) (Zd 2)) (Zd 0) (Zd 7))) (Zh (Zk 12 (Zc Zf (Za 7) (Za 8))) (Zh (Zk 13 (Zg Zbi (Zb (Zc Zf (Za 11) (Zd 0)) (Zb (Zc Zf (Za 11) (Zd 1)) (Zb (Zc Zf (Za 11) (Zd 2)) (Zb (Za 5) (Zb (Zc Zf (Za 12) (Zd 0)) (Zb (Zc Zf (Za 12) (Zd 1)) Ze)))))))) (Zn (Zc Zx (Za 13) (Zg Zbh (Zb (Za 2) (Zb (Za 6) (Zb (Za 3) (Zb (Zc Zw (Zy (Zb (Zd 7) Ze)) (Za 4)) (Zb (Za 5) (Zb (Zc Zf (Za 12) (Zd 0)) (Zb (Zc Zf (Za 12) (Zd 1)) Ze)))))))))))))))))))
structure Hd78(p q:Nat)(ns:List Int)(O:Lc)(H M:Hp)(fs:List T)(sig:Nat->Nat×Nat)(ss ks:List Int)(st:Int): Prop where
 ws:Ws p q ns H M
 e1:O 1=some (.ref p)
 e2:∃a vs,O 2=some (.ref a)/\M[a]?=some vs/\FRs H M vs fs/\H.length<=a
 e3:∃a,O 3=some (.ref a)/\M[a]?=some (ss.map V.int)/\H.length<=a
 e4:∃a,O 4=some (.ref a)/\M[a]?=some (ks.map V.int)/\H.length<=a
 e5:O 5=some (.int st)
 gp:GoodP fs sig
 l1:1<=fs.length
 l3:fs.length<=3
 hs:ss.length=(sig (fs.length-1)).1
 hk:ks.length<=6
 s0:0<=st
 s9:st<=60
 say:∃(b:List T) (pp n:Nat),fs[fs.length-1]?=some (.tup [.int pp,.int n,.lst b])/\∃c,ClOk n c/\T.tup [.str wY,c]∈b
theorem Zqm(h:∀p q cs O H M fs sig ss ks st,Hd78 p q cs O H M fs sig ss ks st->Oks (Zhv O M) R λ_ K=>R .none K): Ok (Zfp [.ref 0] [ns.map V.int]) R:=by
 unfold Zfp Zhu
 refine Zac rfl ?_
 refine Zam (Zb4 (Zda (Z8 (Zeh (ZA rfl (Zao (Zdd (n:=84) (vs:=ns.map V.int) rfl ?_)))))))
 refine Z8 (Zao (Zas ⟨.s,?_⟩))
 have t:Tp 2 1 (ns.take 84) ([ns.map V.int]++[(ns.map V.int).take 84]++[[V.ref 1,.int 0]]):=⟨⟨0,rfl⟩,by rw[List.map_take];rfl,.d,.d,by simp;lia⟩
 rw[show([ns.map V.int]++[(ns.map V.int).take 84]).length=2 from rfl,show [ns.map V.int].length=1 from rfl]
 generalize [ns.map V.int]++[(ns.map V.int).take 84]++[[V.ref 1,.int 0]]=H at *
 repeat' walk_at "ok"
 refine(ZmQ t).mono ?_
 intro _ A q9;obtain⟨wA,a,vs,fs,sig,rfl,ea,fr,ha,G,l1,l3,body,pp,n,eb,hbl,hsg⟩:=q9
 repeat' walk_at "ok"
 refine(Zqc wA ea ha fr G l1 l3 eb hbl hsg).mono ?_
 intro _ B q9;obtain⟨wB,a2,vs2,fs2,rfl,ea2,fr2,ha2,G2,len2,b2,eb2,hc⟩:=q9
 rw[<-len2]at eb2
 obtain⟨v,hv,rv⟩:=fr2.at eb2
 obtain⟨bb,us,rfl,_⟩:=Zh1 rv
 rw[<-fr2.length]at hv
 have sg:=G.sg (fs.length-1)
 rw[hsg]at sg
 dsimp only at sg
 repeat' walk_at "ok"
 refine Zep ea2 hv ?_
 repeat' walk_at "ok"
 refine ZiZ wB.tp .l (by walk_at "rd") .d λss C xC lss hss=>?_
 repeat' walk_at "ok"
 have hp:=wB.lp
 have wC:=wB.trans xC
 refine(Z0 wC.app.tp .d).mono ?_
 intro _ D q9;obtain⟨xD,k,rfl,k0,k1⟩:=q9
 obtain⟨k,rfl⟩:∃m:Nat,k=m:=⟨k.toNat,.l⟩
 have wD:=wC.app.trans xD
 repeat' walk_at "ok"
 refine ZiZ wD.tp .l (by walk_at "rd") .d λks E xE lks hks=>?_
 repeat' walk_at "ok"
 have wE:=wD.trans xE
 refine(Z0 wE.app.tp .d).mono ?_
 intro _ F q9;obtain⟨xF,x,rfl,x0,x1⟩:=q9
 have wF:=wE.app.trans xF
 repeat' walk_at "ok"
 refine(Z0 wF.tp .d).mono ?_
 intro _ I q9;obtain⟨xI,y,rfl,y0,y1⟩:=q9
 have wI:=wF.trans xI
 repeat' walk_at "ok"
 refine(Z0 wI.app.tp .d).mono ?_
 intro _ J q9;obtain⟨xJ,z,rfl,z0,z1⟩:=q9
 have wJ:=wI.app.trans xJ
 repeat' walk_at "ok"
 have l2:2<H.length:=hp
 have u4:=(xF.trans xI).app.trans xJ
 have u3:=(xD.trans xE).app.trans u4
 have uJ:=xC.app.trans u3
 have hI:=wI.ex.1
 have hC:=wC.ex.1
 have hE:=wE.ex.1
 have e5:=xJ.at (show I.length≠2 by lia) (ZE I [V.int x,.int y])
 refine Zek ?_
 obtain⟨st,s0,s9,est⟩:∃st:Int,0<=st/\st<=60/\[V.int x,.int y][(if(z == 7)=true then(1:Int)else 0).toNat]?=some (.int st):=by
  split
  ·exact⟨y,.o,.l,rfl⟩
  ·exact⟨x,.o,.l,rfl⟩
 refine ZbM e5 (by split <;> decide) est ?_
 have hsg2:sig (fs2.length-1)=(pp,n):=by rw[len2];exact hsg
 exact h 2 1 (ns.take 84) _ H J fs2 sig ss ks st ⟨wJ,by walk_at "rd",⟨a2,vs2,by walk_at "rd",uJ.at .l ea2,fr2.ws uJ hp,ha2⟩,⟨C.length,by walk_at "rd",u3.at .l (ZE _ _),hC⟩,⟨E.length,by walk_at "rd",u4.at .l (ZE _ _),hE⟩,by walk_at "rd",G2,.l,.l,by rw[hsg2];exact lss,.l,s0,s9,b2,pp,n,eb2,hc⟩
end L
open PySem PySem.W PyProof.Rows PM TM My
namespace L
theorem Zqn{L:List V->Hp->Prop}(W:RR fs rs sig)(h0:0<M.length)(ea:M[a]?=some vs)(fr:FRs H M vs fs)(done:∀X us,FRs M (M++X) us (rs.map T.lst)->L us (M++X)): Okl (Zad (ZH a) (Zu 104) ZD (Zg Zcc (Zb (Zg Zbp (Zb (Zc Zf (Za 104) (Zd 2)) Ze)) Ze)) O (vs.length+1) 0 [] M) L:=by
 have lf:=fr.length
 have l3:=W.l3
 have hl:=W.len
 refine ZbC (λi acc K=>∃X,K=M++X/\FRs M K acc ((rs.take i).map T.lst)/\acc.length<=i) (by rw[ZC];lia) ⟨[],.s,.nil,.s⟩ ?_ ?_ ?_
 ·intro i acc _ hi q9;obtain⟨X,rfl,fa,la⟩:=q9
  obtain⟨body,r,e,q1,q2,q3,q4,q5⟩:=W.fn i .l
  obtain⟨v,ev,rv⟩:=fr.at q1
  obtain⟨b,us,rfl,eb,rb,hb⟩:=Zh1 rv
  refine⟨la,.tup [.int (sig i).1,.int (sig i).2,.ref b],_,by simp[ZH,Z6 ea,ev],ZbH _ _ _,Zbu ⟨λ_=>?_,.s⟩⟩
  refine Za1 (Z8 (Za1 (Z8 (Z9 (ZA rfl (Zao (ZbJ .d rfl (Zas ?_))))))))
  obtain⟨F,r1,_⟩:=rb
  have rl:RFs (M++X) [.ref b] [.lst body] (b::F++[]):=.cons (.ref (Z6 eb) (r1.ext X)) .nil
  obtain⟨v1,Y,F1,g1,g2,_,_⟩:=ZgH (M++X) _ _ _ _ (by simp;lia) rl (Zd7 (q5.mono .d))
  refine Zap g1 (Zas ?_)
  obtain⟨v2,Z,F2,k1,k2,_,k4⟩:=Zkr (M++X++Y) _ _ _ _ (by simp;lia) (RFs.cons g2 .nil) (W.rows .l q3 q4)
  refine Zap k1 ⟨X++Y++Z,.s,?_,by simp;omega⟩
  rw[List.take_add_one,q2,List.map_append]
  exact fa.ext.ext.app (.cons ⟨F2,k2,λc m=>by have:=(k4 rfl).2 c m;simp at this;lia⟩ .nil)
 ·intro acc _ q9;obtain⟨X,rfl,_⟩:=q9
  simp[ZH,Z6 ea]
 ·intro acc _ q9;obtain⟨X,rfl,fa,_⟩:=q9
  rw[lf,<-hl,List.take_length]at fa
  exact done X acc fa
end L
open PySem PySem.W PyProof.Rows PM TM My
namespace L
def Zhw: Sm:=Zh (Zk 10 (Zg Zdo (Zb (Zc Zw (Zy (Zb (Zd 0) Ze)) (Z5 (ZU (Zc Zf (Za 6) (Za 9))) (Zu 106) ZD (Zc Zf (Za 106) (Zd 2)))) Ze))) (Zh (Zk 11 (Zg Zbp (Zb (Zy (Zb (Za 2) (Zb (Za 3) (Zb (Za 4) Ze)))) Ze))) (Zh (Zaq (ZU (Zc Zw (Zag (Zc Zw (Zag (Za 7) (Zae (Za 8)) Zau) (Zag (Za 7) Zau (Zae (Za 8)))) Zau (Zae (Zd 2))) (Zy (Zb (ZM (Zb (Za 9) (Zb (Zg ZR (Zb (Za 1) (Zb (Zc Zw (Za 10) (Zd 1)) Ze))) Ze))) Ze)))) (Zu 12) (Zh (Zk 13 (Zg Zbi (Zb (Zc Zf (Za 11) (Zd 0)) (Zb (Zc Zf (Za 11) (Zd 1)) (Zb (Zc Zf (Za 11) (Zd 2)) (Zb (Za 5) (Zb (Zc Zf (Za 12) (Zd 0)) (Zb (Zc Zf (Za 12) (Zd 1)) Ze)))))))) (Zh (Zk 14 (Zg Zbh (Zb (Za 2) (Zb (Za 6) (Zb (Za 3) (Zb (Za 4) (Zb (Za 5) (Zb (Zc Zf (Za 12) (Zd 0)) (Zb (Zc Zf (Za 12) (Zd 1)) Ze))))))))) (Zs (tOr (Zbm (Zl (eIs "bool" (Za 13)))) (tOr (Zl (Zc oNe (Za 13) (Za 14))) (tOr (Zl (Zc oNe (Za 11) (Zy (Zb (Za 2) (Zb (Za 3) (Zb (Za 4) Ze)))))) Zb2))) (Zn (ZaG false)) ZF)))) (Zh (ZJ (ZcS (Zc Zf (Za 11) (Zd 2)) (Zd 0) (Zd 7))) (Zh (Zk 12 (Zc Zf (Za 7) (Za 8))) (Zh (Zk 13 (Zg Zbi (Zb (Zc Zf (Za 11) (Zd 0)) (Zb (Zc Zf (Za 11) (Zd 1)) (Zb (Zc Zf (Za 11) (Zd 2)) (Zb (Za 5) (Zb (Zc Zf (Za 12) (Zd 0)) (Zb (Zc Zf (Za 12) (Zd 1)) Ze)))))))) (Zn (Zc Zx (Za 13) (Zg Zbh (Zb (Za 2) (Zb (Za 6) (Zb (Za 3) (Zb (Zc Zw (Zy (Zb (Zd 7) Ze)) (Za 4)) (Zb (Za 5) (Zb (Zc Zf (Za 12) (Zd 0)) (Zb (Zc Zf (Za 12) (Zd 1)) Ze)))))))))))))))
theorem FRs.from{J:Hp}(h:FRs H M vs ts)(l:J.length<=H.length): FRs J M vs ts:=by
 obtain⟨F,r,hf⟩:=h
 exact⟨F,r,λb m=>Nat.le_trans l (hf b m)⟩
structure Md78(p q:Nat)(ns:List Int)(O:Lc)(H M:Hp)(fs:List T)(rs:List (List T))(sig:Nat->Nat×Nat)(ss ks:List Int)(st:Int)(fi f:Nat): Prop where
 ws:Ws p q ns H M
 e1:O 1=some (.ref p)
 e2:∃a vs,O 2=some (.ref a)/\M[a]?=some vs/\FRs H M vs fs/\H.length<=a
 e3:∃a,O 3=some (.ref a)/\M[a]?=some (ss.map V.int)/\H.length<=a
 e4:∃a,O 4=some (.ref a)/\M[a]?=some (ks.map V.int)/\H.length<=a
 e5:O 5=some (.int st)
 e6:∃a vs,O 6=some (.ref a)/\M[a]?=some vs/\FRs H M vs (rs.map T.lst)/\H.length<=a
 e7:∃a vs,O 7=some (.ref a)/\M[a]?=some vs/\FRs H M vs ((Z1 0 rs).map to2)/\H.length<=a
 e8:O 8=some (.int fi)
 e9:O 9=some (.int f)
 rr:RR fs rs sig
 hs:ss.length=(sig (fs.length-1)).1
 hk:ks.length<=6
 s0:0<=st
 s9:st<=60
 hfi:fi<(Z1 0 rs).length
 hf:f<fs.length
theorem Zq3{p q:Nat}(D:Hd78 p q cs O H M fs sig ss ks st)(h:∀O M rs fi f,Md78 p q cs O H M fs rs sig ss ks st fi f->Oks (Zhw O M) R N): Oks (Zhv O M) R N:=by
 obtain⟨ws,e1,⟨a2,vs2,e2,ea2,fr2,ha2⟩,⟨a3,e3,ea3,ha3⟩,⟨a4,e4,ea4,ha4⟩,e5,gp,l1,l3,hs,hk,s0,s9,bd,pp,n,eb,c,hc,hm⟩:=D
 obtain⟨rs,W⟩:=gp.rr l1 l3
 have hp:=ws.lp
 have hM:=ws.ex.1
 have hne:Z1 0 rs≠[]:=by
  obtain⟨body,r,e,q1,q2,q3,_⟩:=W.fn (fs.length-1) .l
  rw[eb]at q1
  cases q1
  obtain⟨x,y,hrow⟩:=ZmT q3 hm
  exact Zk4 rs 0 r (Yy4 q2) (ZmU hrow)
 have hdl:0<(Z1 0 rs).length:=List.length_pos_iff.mpr hne
 unfold Zhv
 refine Zam (Zb4 (Zct (ZbI (ZA e2 (ZcA ea2 ?_)))))
 refine Zqn W .l ea2 fr2 λX us fu=>?_
 have w1:Ws p q cs H (M++X++[us]):=ws.app.app
 have u1:Ws p q cs M (M++X++[us]):=ws.tp.ws.app.app
 have e6:(M++X++[us])[(M++X).length]?=some us:=ZE _ _
 have f6:FRs H (M++X++[us]) us (rs.map T.lst):=(fu.from hM).ext
 have h6:H.length<=(M++X).length:=by simp;lia
 generalize M++X++[us]=A at *
 generalize (M++X).length=a6 at *
 refine Zam (Zb4 (Za1 (Z8 (ZA (by walk_at "rd") (Zas ?_)))))
 obtain⟨F6,r6,hF6⟩:=id f6
 refine(ZmW W (by have:=w1.ex.1;lia) e6 r6).mono ?_
 intro _ _ q9;obtain⟨us7,rfl,rfl,f7⟩:=q9
 have f7:FRs H (A++[us7]) us7 ((Z1 0 rs).map to2):=⟨[],f7.ext _,.s⟩
 have h7:H.length<=A.length:=w1.ex.1
 have e7:(A++[us7])[A.length]?=some us7:=ZE _ _
 generalize A.length=a7 at e7 h7 ⊢
 generalize [us7]=Y at e7 f7 ⊢
 have w2:Ws p q cs H (A++Y):=w1.app
 have u2:Ws p q cs M (A++Y):=u1.app
 have e6':(A++Y)[a6]?=some us:=Z6 e6
 have f6':FRs H (A++Y) us (rs.map T.lst):=f6.ext
 generalize A++Y=B at *
 have l7:us7.length=(Z1 0 rs).length:=by have:=f7.length;simpa using this
 repeat' walk_at "ok"
 rw[l7]
 refine(Z0 w2.tp .l).mono ?_
 intro _ C q9;obtain⟨xC,fi,rfl,i0,i1⟩:=q9
 obtain⟨fi,rfl⟩:∃k:Nat,fi=k:=⟨fi.toNat,.l⟩
 have ea2C:=(u2.trans xC).at .l ea2
 have l2:=fr2.length
 repeat' walk_at "ok"
 rw[l2]
 refine(Z0 xC.tp .l).mono ?_
 intro _ E q9;obtain⟨xE,f,rfl,f0,f1⟩:=q9
 obtain⟨f,rfl⟩:∃k:Nat,f=k:=⟨f.toNat,.l⟩
 have u:=xC.trans xE
 have uM:=u2.trans u
 exact h _ E rs fi f ⟨w2.trans u,by walk_at "rd",⟨a2,vs2,by walk_at "rd",uM.at .l ea2,fr2.ws uM hp,ha2⟩,⟨a3,by walk_at "rd",uM.at .l ea3,ha3⟩,⟨a4,by walk_at "rd",uM.at .l ea4,ha4⟩,by walk_at "rd",⟨a6,us,by walk_at "rd",u.at .l e6',f6'.ws u hp,h6⟩,⟨a7,us7,by walk_at "rd",u.at .l e7,f7.ws u hp,h7⟩,by walk_at "rd",by walk_at "rd",W,hs,hk,s0,s9,.l,.l⟩
end L
open PySem PySem.W PyProof.Rows PM TM My
namespace L
def Zhx: Sm:=Zh (Zaq (ZU (Zc Zw (Zag (Zc Zw (Zag (Za 7) (Zae (Za 8)) Zau) (Zag (Za 7) Zau (Zae (Za 8)))) Zau (Zae (Zd 2))) (Zy (Zb (ZM (Zb (Za 9) (Zb (Zg ZR (Zb (Za 1) (Zb (Zc Zw (Za 10) (Zd 1)) Ze))) Ze))) Ze)))) (Zu 12) (Zh (Zk 13 (Zg Zbi (Zb (Zc Zf (Za 11) (Zd 0)) (Zb (Zc Zf (Za 11) (Zd 1)) (Zb (Zc Zf (Za 11) (Zd 2)) (Zb (Za 5) (Zb (Zc Zf (Za 12) (Zd 0)) (Zb (Zc Zf (Za 12) (Zd 1)) Ze)))))))) (Zh (Zk 14 (Zg Zbh (Zb (Za 2) (Zb (Za 6) (Zb (Za 3) (Zb (Za 4) (Zb (Za 5) (Zb (Zc Zf (Za 12) (Zd 0)) (Zb (Zc Zf (Za 12) (Zd 1)) Ze))))))))) (Zs (tOr (Zbm (Zl (eIs "bool" (Za 13)))) (tOr (Zl (Zc oNe (Za 13) (Za 14))) (tOr (Zl (Zc oNe (Za 11) (Zy (Zb (Za 2) (Zb (Za 3) (Zb (Za 4) Ze)))))) Zb2))) (Zn (ZaG false)) ZF)))) (Zh (ZJ (ZcS (Zc Zf (Za 11) (Zd 2)) (Zd 0) (Zd 7))) (Zh (Zk 12 (Zc Zf (Za 7) (Za 8))) (Zh (Zk 13 (Zg Zbi (Zb (Zc Zf (Za 11) (Zd 0)) (Zb (Zc Zf (Za 11) (Zd 1)) (Zb (Zc Zf (Za 11) (Zd 2)) (Zb (Za 5) (Zb (Zc Zf (Za 12) (Zd 0)) (Zb (Zc Zf (Za 12) (Zd 1)) Ze)))))))) (Zn (Zc Zx (Za 13) (Zg Zbh (Zb (Za 2) (Zb (Za 6) (Zb (Za 3) (Zb (Zc Zw (Zy (Zb (Zd 7) Ze)) (Za 4)) (Zb (Za 5) (Zb (Zc Zf (Za 12) (Zd 0)) (Zb (Zc Zf (Za 12) (Zd 1)) Ze)))))))))))))
theorem ZoT{l:List Int}: ∃m:Int,0<=m/\(0::l).max? = some m:=by
 cases h:(0::l).max? with
 | none=>simp at h
 | some m=>
  refine⟨m,?_,rfl⟩
  have:=List.max?_eq_some_iff.mp h
  exact this.2 0 Zz5
theorem ZoU: ∀ns:List Int,Za7 (ns.map V.int)=some ns:=λns=>by
 induction ns with
 | nil=>rfl
 | cons n ns ih=>simp[Za7,ih]
theorem ZoV{m:Int}(e:H[a]?=some (ks.map V.int))(hm:ks.max? = some m)(h:Q (.int m) H): Ok (Zdo [.ref a] H) Q:=⟨_,_,by simp[Zdo,e,ZoU,hm],h⟩
theorem Zqo{L:List V->Hp->Prop}{b:Nat}{ws:List V}(e:M[b]?=some ws)(fr:FRs H M ws r)(hr:∀x∈r,∃n,Zgk n x)(hl:r.length<=9000)(done:∀bs:List Int,bs.length=r.length->L (bs.map V.int) M): Okl (Zad (ZH b) (Zu 106) ZD (Zc Zf (Za 106) (Zd 2)) O (ws.length+1) 0 [] M) L:=by
 have lw:=fr.length
 refine ZbC (λi acc K=>K=M/\∃bs:List Int,acc=bs.map V.int/\bs.length=i) (by rw[ZC];lia) ⟨rfl,[],rfl,rfl⟩ ?_ ?_ ?_
 ·intro i _ _ hi q9;obtain⟨rfl,bs,rfl,lb⟩:=q9
  obtain⟨z,hz⟩:∃z,r[i]?=some z:=⟨r[i],Yy1 .o⟩
  obtain⟨n,x,w,rest,y,rfl,_⟩:=hr z (Yy4 hz)
  obtain⟨v,ev,F,rv,_⟩:=fr.at hz
  obtain⟨vr,G,rfl,_⟩:=Zfo rv
  refine⟨by simp[lb],.tup [.int x,.tup (.str w::vr),.int y],_,by simp[ZH,e,ev],ZbH _ _ _,Zbu ⟨λ_=>?_,.s⟩⟩
  refine Z9 (ZA rfl (Zao (ZbJ .d rfl ⟨rfl,bs++[y],.s,by simp[lb]⟩)))
 ·intro acc _ q9;obtain⟨rfl,_⟩:=q9
  simp[ZH,e]
 ·intro acc _ q9;obtain⟨rfl,bs,rfl,lb⟩:=q9
  exact done bs .l
theorem Md78.ext{p q:Nat}(D:Md78 p q ns O H M fs rs sig ss ks st fi f): Md78 p q ns O H (M++X) fs rs sig ss ks st fi f:=by
 obtain⟨ws,e1,⟨a2,vs2,e2,ea2,fr2,ha2⟩,⟨a3,e3,ea3,ha3⟩,⟨a4,e4,ea4,ha4⟩,e5,⟨a6,vs6,e6,ea6,fr6,ha6⟩,⟨a7,vs7,e7,ea7,fr7,ha7⟩,e8,e9,r⟩:=D
 exact⟨ws.app,e1,⟨a2,vs2,e2,Z6 ea2,fr2.ext,ha2⟩,⟨a3,e3,Z6 ea3,ha3⟩,⟨a4,e4,Z6 ea4,ha4⟩,e5,⟨a6,vs6,e6,Z6 ea6,fr6.ext,ha6⟩,⟨a7,vs7,e7,Z6 ea7,fr7.ext,ha7⟩,e8,e9,r,by assumption,by assumption,by assumption,by assumption,by assumption,by assumption⟩
theorem Md78.put{p q:Nat}(D:Md78 p q ns O H M fs rs sig ss ks st fi f)(hj:10<=j): Md78 p q ns (Zi O j v) H M fs rs sig ss ks st fi f:=by
 have k:∀i,i<10->PM.Zi O j v i=O i:=λi hi=>Zce .l rfl
 obtain⟨ws,e1,e2,e3,e4,e5,e6,e7,e8,e9,r⟩:=D
 constructor
 all_goals (first | assumption | (rw[k _ .d];assumption))
end L
open PySem PySem.W PyProof.Rows PM TM My
namespace L
theorem Zq4{p q:Nat}(D:Md78 p q cs O H M fs rs sig ss ks st fi f)(h:∀O M0 X mx a11 F,Md78 p q cs O H M0 fs rs sig ss ks st fi f->O 10=some (.int mx)->0<=mx->O 11=some (.ref a11)->RF (M0++X) (.ref a11) (.lst [.lst fs,Zm ss,Zm ks]) F->F.Nodup->(∀b∈F,M0.length<=b)->Oks (Zhx O (M0++X)) R N): Oks (Zhw O M) R N:=by
 obtain⟨a6,vs6,e6,ea6,fr6,ha6⟩:=D.e6
 have e9:=D.e9
 have W:=D.rr
 obtain⟨body,r,e,q1,q2,q3,q4,q5⟩:=W.fn f D.hf
 have hm6:(rs.map T.lst)[f]?=some (.lst r):=by rw[List.getElem?_map,q2];rfl
 obtain⟨v,ev,rv⟩:=fr6.at hm6
 obtain⟨b,ws,rfl,eb,fb⟩:∃b ws,v=.ref b/\M[b]?=some ws/\FRs H M ws r:=by
  obtain⟨F,r1,hF⟩:=rv
  cases r1 with
  | ref e r1=>exact⟨_,_,rfl,e,_,r1,λc m=>hF c (Zz2 _ m)⟩
 unfold Zhw
 refine Zam (Zb4 (Za1 (Z8 (Z9 (Zda (Z8 (Zao (Zas ⟨.s,?_⟩))))))))
 refine Zct (ZbI (Z9 (ZA e6 (ZA e9 (ZbM (ZI ea6) .l (by rw[Int.toNat_natCast];exact ev) (ZcA (ZI eb) ?_))))))
 refine Zqo (ZI eb) fb.ext (λx m=>⟨_,(Zeq q3).1 x m⟩) q4 λbs lb=>?_
 refine Zcu (ZI (ZE _ _)) (ZE _ _) (by rw[ZC];simp;lia) (Zas ?_)
 obtain⟨mx,m0,hm⟩:=ZoT (l:=bs)
 refine ZoV (ks:=0::bs) (ZE _ _) hm ?_
 have D1:Md78 p q cs (PM.Zi O 10 (.int mx)) H (M++[[V.int 0]]++[bs.map V.int]++[[V.int 0]++bs.map V.int]) fs rs sig ss ks st fi f:=D.ext.ext.ext.put .d
 have e10:PM.Zi O 10 (.int mx) 10=some (.int mx):=by walk_at "rd"
 generalize M++[[V.int 0]]++[bs.map V.int]++[[V.int 0]++bs.map V.int]=A at *
 generalize PM.Zi O 10 (.int mx)=B at *
 obtain⟨a2,vs2,g2,ea2,⟨F2,r2,_⟩,_⟩:=D1.e2
 obtain⟨a3,g3,ea3,_⟩:=D1.e3
 obtain⟨a4,g4,ea4,_⟩:=D1.e4
 refine Zam (Zb4 (Za1 (Z8 (Zda ?_))))
 refine Z8 (ZA g2 (Z8 (ZA g3 (Z8 (ZA g4 (Zas ⟨.s,Zas ?_⟩))))))
 have hs:=D.hs
 have hk:=D.hk
 have sg:=W.pr.sg (fs.length-1)
 have hN:Nice 13 (.lst [.lst fs,Zm ss,Zm ks]):=.lst .s (ZY W.nice (ZY (Zfg .l) (ZY (Zfg .l) nl0)))
 obtain⟨v11,X,F,k1,k2,_,k4⟩:=ZgH (A++[[V.ref a2,.ref a3,.ref a4]]) [.ref A.length] [.lst [.lst fs,Zm ss,Zm ks]] _ _ .s (.cons (.ref (ZE _ _) (.cons (.ref (ZI ea2) (r2.ext _)) (.cons (Zbx (ZI ea3)) (.cons (Zbx (ZI ea4)) .nil)))) .nil) (Zd7 (hN.mono .d))
 refine Zap k1 ?_
 obtain⟨a11,rfl⟩:∃a11,v11=.ref a11:=by cases k2;exact⟨_,rfl⟩
 exact h _ _ X mx a11 F (D1.ext.put .d) (by walk_at "rd") m0 (by walk_at "rd") k2 (k4 rfl).1 (k4 rfl).2
end L
open PySem PySem.W PyProof.Rows PM TM My
namespace L
theorem Zk5{q':Int}{f':Nat}(W:RR fs rs sig)(hs:ss.length=(sig (fs.length-1)).1)(s9:st<=900)(hf:f'<fs.length): ∃z:Bool,(∀{M:Hp} {v1 v2 v3:V} {F1 F2 F3:List Nat},0<M.length->RF M v1 (.lst fs) F1->RF M v2 (Zm ss) F2->RF M v3 (Zm ks) F3->∃Y,Zbi [v1,v2,v3,.int st,.int f',.int q'] M=some (.bool z,M++Y))/\∀{M:Hp} {v1 v2 v3 v6:V} {F1 F2 F3 F6:List Nat},0<M.length->RF M v1 (.lst fs) F1->RF M v2 (Zm ss) F2->RF M v3 (Zm ks) F3->RF M v6 (.lst (rs.map T.lst)) F6->∃Y,Zbh [v1,v6,v2,v3,.int st,.int f',.int q'] M=some (.bool z,M++Y):=by
 obtain⟨ms,h1,h2,h3,h4⟩:=Zrc (ks:=ks) W hs s9
 obtain⟨body,r,e,q1,q2,q3,_⟩:=W.fn f' hf
 refine⟨brk ms r f' q',λhp r1 r2 r3=>?_,λhp r1 r2 r3 r6=>?_⟩
 ·obtain⟨_,_,e,rfl,X,rfl⟩:=Zmk (q:=q') W hf q2 h1 h3 h4 hp r1 r2 r3
  exact⟨X,e⟩
 ·obtain⟨_,_,e,rfl,X,rfl⟩:=Zml (q:=q') W hf q2 h2 h3 h4 hp r1 r2 r3 r6
  exact⟨X,e⟩
end L
open PySem PySem.W PyProof.Rows PM TM My
namespace L
theorem ZjG: ∀(rs:List (List T)) (i:Nat),∀t∈Z1 i rs,∃(j:Nat) (x:Int×T),j<i+rs.length/\t=ZaE j x
 | [],i,t,m=>(List.not_mem_nil m).elim
 | r::rs,i,t,m=>by
  rw[Z1]at m
  rcases Zz8.mp m with m | m
  ·obtain⟨x,_,rfl⟩:=Zz11.mp m
   exact⟨i,x,.s,rfl⟩
  ·obtain⟨j,x,h,e⟩:=ZjG rs (i+1) t m
   exact⟨j,x,by simp;lia,e⟩
theorem Md78.on{p q:Nat}(D:Md78 p q ns O H M fs rs sig ss ks st fi f)(u:Ws p q ns M K): Md78 p q ns O H K fs rs sig ss ks st fi f:=by
 have hp:=D.ws.lp
 obtain⟨ws,e1,⟨a2,vs2,e2,ea2,fr2,ha2⟩,⟨a3,e3,ea3,ha3⟩,⟨a4,e4,ea4,ha4⟩,e5,⟨a6,vs6,e6,ea6,fr6,ha6⟩,⟨a7,vs7,e7,ea7,fr7,ha7⟩,e8,e9,r⟩:=D
 exact⟨ws.trans u,e1,⟨a2,vs2,e2,u.at .l ea2,fr2.ws u hp,ha2⟩,⟨a3,e3,u.at .l ea3,ha3⟩,⟨a4,e4,u.at .l ea4,ha4⟩,e5,⟨a6,vs6,e6,u.at .l ea6,fr6.ws u hp,ha6⟩,⟨a7,vs7,e7,u.at .l ea7,fr7.ws u hp,ha7⟩,e8,e9,r,by assumption,by assumption,by assumption,by assumption,by assumption,by assumption⟩
def Zgl(n:Nat)(x:V): Prop:=∃(f:Nat) (q:Int),f<n/\x=.tup [.int f,.int q]
theorem Zkw(fr:FRs H M us ((Z1 0 rs).map to2)): ∀x∈us,Zgl rs.length x:=λx m=>by
 obtain⟨i,hi,rfl⟩:=List.getElem_of_mem m
 have hl:=fr.length
 obtain⟨t,ht⟩:∃t,((Z1 0 rs).map to2)[i]?=some t:=⟨_,Yy1 .l⟩
 obtain⟨v,ev,F,rv,_⟩:=fr.at ht
 rw[Yy1 hi]at ev
 cases ev
 obtain⟨y,hy,rfl⟩:=Zz11.mp (Yy4 ht)
 obtain⟨j,⟨a,c⟩,hj,rfl⟩:=ZjG rs 0 y hy
 generalize us[i]=v at rv
 unfold ZaE to2 at rv
 obtain⟨us,rfl,q⟩:=rv.itup
 obtain⟨v,u,F1,F2,rfl,_,r1,r2⟩:=q.i2
 exact⟨j,a,.l,by rw[r1.iint.1,r2.iint.1]⟩
theorem Zkx{x y z:List T}(h:RF M (.ref a) (.lst [.lst x,.lst y,.lst z]) F)(nd:F.Nodup): ∃b1 b2 b3 F1 F2 F3,M[a]?=some [.ref b1,.ref b2,.ref b3]/\RF M (.ref b1) (.lst x) (b1::F1)/\RF M (.ref b2) (.lst y) (b2::F2)/\RF M (.ref b3) (.lst z) (b3::F3)/\F=a::(b1::F1++(b2::F2++(b3::F3++[]))):=by
 obtain⟨a',us,G,ea,e,r,rfl⟩:=h.ilst
 cases ea
 obtain⟨v1,v2,v3,G1,G2,G3,rfl,rfl,r1,r2,r3⟩:=r.i3
 obtain⟨b1,u1,F1,rfl,e1,q1,rfl⟩:=r1.ilst
 obtain⟨b2,u2,F2,rfl,e2,q2,rfl⟩:=r2.ilst
 obtain⟨b3,u3,F3,rfl,e3,q3,rfl⟩:=r3.ilst
 exact⟨_,_,_,_,_,_,e,.ref e1 q1,.ref e2 q2,.ref e3 q3,by rw[List.append_nil]⟩
end L
open PySem PySem.W PyProof.Rows PM TM My
namespace L
def ZjH: Sm:=Zh (Zk 13 (Zg Zbi (Zb (Zc Zf (Za 11) (Zd 0)) (Zb (Zc Zf (Za 11) (Zd 1)) (Zb (Zc Zf (Za 11) (Zd 2)) (Zb (Za 5) (Zb (Zc Zf (Za 12) (Zd 0)) (Zb (Zc Zf (Za 12) (Zd 1)) Ze)))))))) (Zh (Zk 14 (Zg Zbh (Zb (Za 2) (Zb (Za 6) (Zb (Za 3) (Zb (Za 4) (Zb (Za 5) (Zb (Zc Zf (Za 12) (Zd 0)) (Zb (Zc Zf (Za 12) (Zd 1)) Ze))))))))) (Zs (tOr (Zbm (Zl (eIs "bool" (Za 13)))) (tOr (Zl (Zc oNe (Za 13) (Za 14))) (tOr (Zl (Zc oNe (Za 11) (Zy (Zb (Za 2) (Zb (Za 3) (Zb (Za 4) Ze)))))) Zb2))) (Zn (ZaG false)) ZF))
theorem ZoW{w:V}(hb:Bl n t)(hn:n<=40)(r1:RF M v t F)(r2:RF M w t G)(h:Q (.bool false) M): Ok (oNe v w M) Q:=by
 obtain⟨_,e,rfl⟩:=Zqf (Q:=λx=>x=.bool false) hb rfl hn
 obtain⟨u,e',r⟩:=Zq9 M v w t t _ F G r1 r2 e
 cases r
 exact⟨_,_,e',h⟩
theorem Zqp{p q:Nat}{x:V}(D:Md78 p q cs O H K fs rs sig ss ks st fi f)(e11:O 11=some (.ref a11))(r11:RF K (.ref a11) (.lst [.lst fs,Zm ss,Zm ks]) F)(nd:F.Nodup)(e12:O 12=some x)(hx:Zgl fs.length x)(h:∀Y v w,N (PM.Zi (PM.Zi O 13 v) 14 w) (K++Y)): Oks (ZjH O K) R N:=by
 obtain⟨f',q',hf',rfl⟩:=hx
 have W:=D.rr
 have hs:=D.hs
 have hk:=D.hk
 have hp:=D.ws.tp.lt
 obtain⟨b1,b2,b3,F1,F2,F3,ea,r1,r2,r3,_⟩:=Zkx r11 nd
 obtain⟨z,k1,k2⟩:=Zk5 (ks:=ks) (st:=st) (q':=q') W hs (by have:=D.s9;lia) hf'
 obtain⟨Y,g1⟩:=k1 .l r1 r2 r3
 obtain⟨a2,vs2,e2,ea2,⟨G2,s2,_⟩,_⟩:=D.e2
 obtain⟨a3,e3,ea3,_⟩:=D.e3
 obtain⟨a4,e4,ea4,_⟩:=D.e4
 obtain⟨a6,vs6,e6,ea6,⟨G6,s6,_⟩,_⟩:=D.e6
 have e5:=D.e5
 obtain⟨Z,g2⟩:=k2 (M:=K++Y) (v1:=.ref a2) (v2:=.ref a3) (v3:=.ref a4) (v6:=.ref a6) (by simp;lia) (.ref (Z6 ea2) (s2.ext Y)) (Zbx (Z6 ea3)) (Zbx (Z6 ea4)) (.ref (Z6 ea6) (s6.ext Y))
 unfold ZjH
 repeat' walk_at "ok"
 refine Zap g1 ?_
 repeat' walk_at "ok"
 refine Zap g2 ?_
 have sg:=W.pr.sg (fs.length-1)
 have hN:Nice 13 (.lst [.lst fs,Zm ss,Zm ks]):=.lst .s (ZY W.nice (ZY (Zfg .l) (ZY (Zfg .l) nl0)))
 repeat' walk_at "ok"
 refine Zap (v:=.bool true) (H:=K++Y++Z) rfl ?_
 repeat' walk_at "ok"
 have r':RF (K++Y++Z++[[V.ref a2,.ref a3,.ref a4]]) (.ref (K++Y++Z).length) (.lst [.lst fs,Zm ss,Zm ks]) _:=.ref (ZE _ _) (.cons (.ref (ZI (Z6 (Z6 ea2))) (((s2.ext Y).ext Z).ext _)) (.cons (Zbx (ZI (Z6 (Z6 ea3)))) (.cons (Zbx (ZI (Z6 (Z6 ea4)))) .nil)))
 refine ZoW hN.blr .d (((r11.ext Y).ext Z).ext _) r' ?_
 repeat' walk_at "ok"
 rw[List.append_assoc,List.append_assoc]
 exact h _ _ _
end L
open PySem PySem.W PyProof.Rows PM TM My
namespace L
def Zhy: Sm:=Zh (ZJ (ZcS (Zc Zf (Za 11) (Zd 2)) (Zd 0) (Zd 7))) (Zh (Zk 12 (Zc Zf (Za 7) (Za 8))) (Zh (Zk 13 (Zg Zbi (Zb (Zc Zf (Za 11) (Zd 0)) (Zb (Zc Zf (Za 11) (Zd 1)) (Zb (Zc Zf (Za 11) (Zd 2)) (Zb (Za 5) (Zb (Zc Zf (Za 12) (Zd 0)) (Zb (Zc Zf (Za 12) (Zd 1)) Ze)))))))) (Zn (Zc Zx (Za 13) (Zg Zbh (Zb (Za 2) (Zb (Za 6) (Zb (Za 3) (Zb (Zc Zw (Zy (Zb (Zd 7) Ze)) (Za 4)) (Zb (Za 5) (Zb (Zc Zf (Za 12) (Zd 0)) (Zb (Zc Zf (Za 12) (Zd 1)) Ze))))))))))))
theorem Zqq{p q:Nat}{mx:Int}(D:Md78 p q cs O H M0 fs rs sig ss ks st fi f)(e10:O 10=some (.int mx))(m0:0<=mx)(e11:O 11=some (.ref a11))(r11:RF (M0++X) (.ref a11) (.lst [.lst fs,Zm ss,Zm ks]) F)(nd:F.Nodup)(hF:∀b∈F,M0.length<=b)(h:∀O K,Md78 p q cs O H M0 fs rs sig ss ks st fi f->Ws p q cs M0 K->O 11=some (.ref a11)->RF K (.ref a11) (.lst [.lst fs,Zm ss,Zm ks]) F->Oks (Zhy O K) R N): Oks (Zhx O (M0++X)) R N:=by
 have u0:Ws p q cs M0 (M0++X):=D.ws.tp.ws.app
 have hp:=D.ws.tp.lt
 have hpF:p∉F:=λm=>by have:=hF p m;lia
 have hfi:=D.hfi
 have hfs:=D.hf
 have hl:=D.rr.len
 have hsm:=D.rr.small rs.length
 rw[List.take_length]at hsm
 have D1:=D.on u0
 generalize M0++X=K at *
 obtain⟨a7,us7,e7,ea7,fr7,ha7⟩:=D1.e7
 have hsp:=Zkw fr7
 have l7:us7.length=(Z1 0 rs).length:=by have:=fr7.length;simpa using this
 have e8:=D.e8
 have e9:=D.e9
 have e1:=D.e1
 unfold Zhx
 refine Zam (Zdc (ZbI (Z9 (Zeh (Z9 (ZjV (ZA e7 (ZA e8 (ZkJ ea7 ?_)))))))))
 refine Zeh (ZA e7 (ZA e8 (Zdd (ZI ea7) ?_)))
 refine Zcu (ZI (ZE _ _)) (ZE _ _) (by rw[ZC];simp;lia) ?_
 refine Zao (Zdd (n:=2) (ZE _ _) ?_)
 generalize hS:(us7.drop fi++us7.take fi).take 2=S
 have hSp:∀x∈S,Zgl fs.length x:=λx m=>by
  rw[<-hS]at m
  rw[<-hl]
  rcases Zz8.mp (List.mem_of_mem_take m)with m | m
  ·exact hsp x (List.mem_of_mem_drop m)
  ·exact hsp x (List.mem_of_mem_take m)
 have lS:S.length<=2:=by rw[<-hS];simp;omega
 have w1:=(((u0.app (X:=[us7.drop fi])).app (X:=[us7.take fi])).app (X:=[us7.drop fi++us7.take fi])).app (X:=[S])
 have r1:=(((r11.ext [us7.drop fi]).ext [us7.take fi]).ext [us7.drop fi++us7.take fi]).ext [S]
 have eS:(K++[us7.drop fi]++[us7.take fi]++[us7.drop fi++us7.take fi]++[S])[(K++[us7.drop fi]++[us7.take fi]++[us7.drop fi++us7.take fi]).length]?=some S:=ZE _ _
 have lK:M0.length<=(K++[us7.drop fi]++[us7.take fi]++[us7.drop fi++us7.take fi]).length:=(((u0.app (X:=[us7.drop fi])).app (X:=[us7.take fi])).app (X:=[us7.drop fi++us7.take fi])).ex.1
 generalize K++[us7.drop fi]++[us7.take fi]++[us7.drop fi++us7.take fi]++[S]=A at *
 generalize (K++[us7.drop fi]++[us7.take fi]++[us7.drop fi++us7.take fi]).length=aS at *
 refine Zda (Z8 (ZkG (Z8 (ZA e9 (Z8 (Za1 (Z8 (ZA e1 (Z8 (Z9 (ZA e10 (Zao (ZkK (Zas ?_))))))))))))))
 refine(Z0 w1.tp .l).mono ?_
 intro _ B q9;obtain⟨xB,d,rfl,d0,d1⟩:=q9
 refine Zas ⟨.s,Zas ⟨.s,?_⟩⟩
 refine Zcu (ZI (xB.at .l eS)) (ZE _ _) (by rw[ZC];simp;lia) ?_
 have w2:=((w1.trans xB).app (X:=[[V.tup [.int f,.int d]]])).app (X:=[S++[V.tup [.int f,.int d]]])
 have r2:=((xB.rf r1 hpF).ext [[V.tup [.int f,.int d]]]).ext [S++[V.tup [.int f,.int d]]]
 refine ZcA (ZE _ _) ?_
 have eT:(B++[[V.tup [.int f,.int d]]]++[S++[V.tup [.int f,.int d]]])[(B++[[V.tup [.int f,.int d]]]).length]?=some (S++[V.tup [.int f,.int d]]):=ZE _ _
 generalize B++[[V.tup [.int f,.int d]]]++[S++[V.tup [.int f,.int d]]]=C at *
 generalize (B++[[V.tup [.int f,.int d]]]).length=aT at *
 refine Zfu (λ_ O K=>Md78 p q cs O H M0 fs rs sig ss ks st fi f/\Ws p q cs M0 K/\O 11=some (.ref a11)/\RF K (.ref a11) (.lst [.lst fs,Zm ss,Zm ks]) F/\K[aT]?=some (S++[V.tup [.int f,.int d]])) ⟨D,w2,e11,r2,eT⟩ (λ_ _ _ h=>h.2.2.2.2) ?_ (λO K g=>h O K g.1 g.2.1 g.2.2.1 g.2.2.2.1)
 intro i x U K' hx q9;obtain⟨D',w',g11,r',eT'⟩:=q9
 have hsx:Zgl fs.length x:=by
  rcases Zz8.mp (Yy4 hx)with m | m
  ·exact hSp x m
  ·rw[List.mem_singleton.mp m];exact⟨f,d,hfs,rfl⟩
 refine Zqp ((D'.on w').put .d) (by walk_at "rd") r' nd (by walk_at "rd") hsx λY v w=>?_
 exact⟨((D'.put .d).put .d).put .d,w'.app,by walk_at "rd",r'.ext Y,Z6 eT'⟩
end L
open PySem PySem.W PyProof.Rows PM TM My
namespace L
theorem Zqr{o i f:PM.Ex}(h:Ok (o O H) λx M=>Ok (i O M) λy K=>Ok (f O K) λz J=>∃a vs,x=.ref a/\y=.int 0/\J[a]?=some vs/\a≠0/\vs.length<ZK/\Q .none (J.set a (z::vs))): Ok (ZcS o i f O H) Q:=by
 obtain⟨_,M,h1,_,K,h2,z,J,h3,a,vs,rfl,rfl,e,h0,hl,q⟩:=h
 exact⟨_,_,by simp[ZcS,h1,h2,h3,Zf8,e,h0,hl],q⟩
theorem Zq5{p q:Nat}(D:Md78 p q cs O H M0 fs rs sig ss ks st fi f)(u:Ws p q cs M0 K)(e11:O 11=some (.ref a11))(r11:RF K (.ref a11) (.lst [.lst fs,Zm ss,Zm ks]) F)(nd:F.Nodup)(hF:∀b∈F,M0.length<=b): Oks (Zhy O K) (λv _=>v=.bool true) N:=by
 have hp:=D.ws.tp.lt
 have W:=D.rr
 have hk:=D.hk
 obtain⟨b1,b2,b3,F1,F2,F3,ea,r1,r2,r3,hFe⟩:=Zkx r11 nd
 have nd':=nd
 rw[hFe]at nd'
 obtain⟨n1,n2⟩:=List.nodup_cons.mp nd'
 obtain⟨_,n3,n4⟩:=List.nodup_append.mp n2
 obtain⟨_,_,n5⟩:=List.nodup_append.mp n3
 have h31:∀b∈b1::F1,b≠b3:=λb m=>n4 b m b3 .s
 have h32:∀b∈b2::F2,b≠b3:=λb m=>n5 b m b3 .s
 have h3a:a11≠b3:=λz=>n1 (by simp[z])
 have h3F:M0.length<=b3:=hF b3 (by rw[hFe];simp)
 obtain⟨kk,ekk,e3⟩:=Zdj r3
 cases ekk
 have l3:=lt_of_at e3
 have hk':(ks.map V.int).length<ZK:=by rw[ZC];simp;lia
 unfold Zhy
 refine Zam (ZfL (Zqr (Z9 (ZA e11 (Zao (ZbM ea .d rfl (Zao (Zao ⟨b3,_,rfl,rfl,e3,.l,hk',?_⟩))))))))
 have u1:Ws p q cs M0 (K.set b3 (.int 7::ks.map V.int)):=u.set h3F
 have D1:=D.on u1
 have r1':RF (K.set b3 (.int 7::ks.map V.int)) (.ref b1) (.lst fs) (b1::F1):=r1.frame λb m=>Yy2 (Ne.symm (h31 b m))
 have r2':RF (K.set b3 (.int 7::ks.map V.int)) (.ref b2) (Zm ss) (b2::F2):=r2.frame λb m=>Yy2 (Ne.symm (h32 b m))
 have r3':RF (K.set b3 (.int 7::ks.map V.int)) (.ref b3) (Zm (7::ks)) [b3]:=Zbx (s:=7::ks) (Yy6 l3)
 have ea':(K.set b3 (.int 7::ks.map V.int))[a11]?=some [.ref b1,.ref b2,.ref b3]:=Zb5 (Ne.symm h3a) ea
 generalize K.set b3 (.int 7::ks.map V.int)=K1 at *
 obtain⟨a7,us7,e7,ea7,fr7,_⟩:=D1.e7
 have hsp:=Zkw fr7
 have l7:us7.length=(Z1 0 rs).length:=by have:=fr7.length;simpa using this
 have hfi:=D.hfi
 obtain⟨f',q',hf',ex⟩:=hsp us7[fi] (List.getElem_mem _)
 have e12:us7[((fi:Nat):Int).toNat]?=some (.tup [.int f',.int q']):=by rw[Int.toNat_natCast,Yy1 .l,ex]
 obtain⟨z,k1,k2⟩:=Zk5 (ks:=7::ks) (st:=st) (q':=q') W D.hs (by have:=D.s9;lia) (by rw[<-W.len];exact hf')
 have lK:=u1.ex.1
 obtain⟨Y,g1⟩:=k1 .l r1' r2' r3'
 obtain⟨a2,vs2,e2,ea2,⟨G2,s2,_⟩,_⟩:=D1.e2
 obtain⟨a3,e3',ea3,_⟩:=D1.e3
 obtain⟨a4,e4,ea4,_⟩:=D1.e4
 obtain⟨a6,vs6,e6,ea6,⟨G6,s6,_⟩,_⟩:=D1.e6
 have e5:=D.e5
 have e8:=D.e8
 repeat' walk_at "ok"
 refine Zap g1 ?_
 have ea4':(K1++Y)[a4]?=_:=Z6 ea4
 repeat' walk_at "ok"
 obtain⟨Z,g2⟩:=k2 (M:=K1++Y++[[V.int 7]]++[[V.int 7]++ks.map V.int]) (v1:=.ref a2) (v2:=.ref a3) (v3:=.ref (K1++Y++[[V.int 7]]).length) (v6:=.ref a6) (by simp;lia) (.ref (ZI (ZI (Z6 ea2))) (((s2.ext Y).ext _).ext _)) (Zbx (ZI (ZI (Z6 ea3)))) (Zbx (s:=7::ks) (ZE _ _)) (.ref (ZI (ZI (Z6 ea6))) (((s6.ext Y).ext _).ext _))
 refine Zap g2 ?_
 repeat' walk_at "ok"
 cases z <;> rfl
theorem ZmX: Ok (Zfp [.ref 0] [ns.map V.int]) λv _=>v=.bool true:=
 Zqm λp q cs O H M fs sig ss ks st D=>Zq3 D λO M rs fi f D=>Zq4 D λO M0 X mx a11 F D e10 m0 e11 r11 nd hF=>Zqq D e10 m0 e11 r11 nd hF λO K D u e11 r11=>Zq5 D u e11 r11 nd hF
end L
open PySem PySem.W PyProof.Rows PM TM My
namespace L
theorem ZlS(hlen:ns.length<=63)(hL:PyData.layable0 (.list (ns.map .int))=true): ∃H',Zfp [.ref 0] [ns.map V.int]=some (.bool true,H'):=by
 obtain⟨v,H,e,rfl⟩:=ZmX (ns:=ns)
 exact⟨H,e⟩
end L
end
section
open PySem PySem.W PyProof.Rows
inductive PySem.W.Fast:Prop|tw5105673956185107153|tw16968176118458789586|tw9497945907656264259|tw316514102143019080|tw1176975735165151067|tw9515242367644423802|tw4621932581444047675|tw13402640891724300857|tw14869557710840242666|tw17643754061406199020|tw11187973929812520656|tw4584130408075211490|tw10667965978278278033|tw15452572443179084588|tw9156678896304099913|tw15886500619415505586|tw3520363519792060846|tw4419873286371483742|tw13436231055378572716|tw15221209806709932071|tw11930311979851757478|tw12798869161161681673|tw10209164474934016114|tw9774394379856643515|tw2257529940240947247|tw12533650973541477374|tw9840342860782594374|tw16002967266952078866|tw17704188385166749297|tw6017506618534441898|tw7523194637212750777|tw4361700775904427359|tw7498633149979677338|tw3092117133297227249|tw10299302589577801163|tw13840814423707232359|tw15515405784836723652|tw9563574807059059695|tw17624731456758155189|tw11519117686961666697|tw2947586027576077979|tw16932301668260661676|tw4157206338815638501|tw11630328935867623959|tw1349388230604553621|tw16915470645016011554|tw16472409268878238316|tw10700183255674453818|tw3764688243253525356|tw5681066748535004433|tw234749781942434899|tw529536973988259948|tw1906743188756502811|tw8426798971799828003|tw10335527622381539264|tw14501001857826371202|tw17925384258215065573|tw4026151001005817321|tw5030944203280556702|tw10382156960464342704|tw13517250619966689955|tw16131593051203169754|tw8933567498414919238|tw5623994078177797194|tw14191745827877185554|tw5312734613080425828|tw10155365746132046468|tw15703943229012101698|tw17849293660312457548|tw16745343075639119971|tw16749348522385944071|tw12996339429388188178|tw69414778264802052|tw16550838102048051623|tw7215932318001415403|tw734138898119960010|tw16172578528114110199|tw1541540961381408409|tw8789256864460932259|tw15622835117965313283|tw5388663596951873645|tw11849525312028181438|tw10785849952161257653|tw569269584081339442|tw15943592676296772274|tw7317576523658780031|tw8621301723031713458|tw17312996333117680517|tw4248988804066548162|tw7363425622247834253|tw12941643214049860704|tw4203021270051977171|tw13056512690104125533|tw11418939547134857076|tw3094701115853657799|tw1385777081429181588|tw4784605182867441162|tw4179031660912777645|tw305048472116853797|tw3857615796733700780|tw6700522753317681526|tw15508019666092448443|tw804092199982636349|tw13829591483307370896|tw17969941481158815411|tw16469568281967520401|tw15213048550514571353|tw17427895641331663283|tw17334881123488906936|tw4033379813872489195|tw14712817762504950641|tw8903238766108814736|tw539595736760451978|tw11622863634709415212|tw13478877428745155630|tw8436589768386056944|tw3103751414666246812|tw1147522009701800784|tw17721039672839981703|tw112567504061534027|tw9455475090630465045|tw8646929664414959583|tw2766794811542550618|tw17004574920194074796|tw17845374550828520631|tw17619882183920601743|tw14439765378166140033|tw7470021291188754609|tw17601101962401091345|tw16629561534657121264|tw14864845329073380503|tw12059592832596718669|tw16118103595353321548|tw11712190458185945011|tw15210816241431372910|tw14566440943485919492|tw13231743877010270464|tw4733640183689119296|tw15069716523494295500|tw14678158920106854735|tw8839083969933755074|tw802917404587063742|tw12221415409051222339|tw9685044298169568939|tw15845117809764550140|tw6664951462986138201|tw12532165626772418067|tw3241244739717862871|tw15679247252792206210|tw8160871880118814707|tw6951939212644042833|tw9715166753854553471|tw5613845454599061817|tw15431134087688302020|tw9897558803702562313|tw5759927347364260171|tw6585068141940680455|tw11990459337992974956|tw10879198800498315992|tw5036445103931068615|tw11732214188671553305|tw13792483299354683862|tw6834397320308548248|tw4954584648838934644|tw3482820431698744051|tw6511239469406747073|tw11002848052431835627|tw6737687440995333003|tw11289143093466461953|tw8368205733661556053|tw13989995598129119793|tw1948689806639624469|tw2852278927748849453|tw805765646861919253|tw5427499738942290107|tw10042499479572932358|tw4626940704210403192|tw17996964024917085871|tw9700323734577113184|tw17847650733935569616|tw3992908553847606798|tw7042659310547366237|tw10015853644003576960|tw931956834028986255|tw17857563459279650048|tw4211952112222678748|tw8864380892348041232|tw1322031339247656150|tw7388713464098733815|tw12434779806091606683|tw13218621648322568166|tw14495299557687959983|tw5353813085845620550|tw13910342248680958036|tw12184380411685104690|tw4475145619620083286|tw10693841506766600124|tw5485572742587201778|tw13481268755573549168|tw17093224777342109595|tw17837415989878807268|tw9585978970863474492|tw4674102799890499726|tw5552461122284547459|tw15862806813707239167|tw5260856337621036202|tw6315216371427503177|tw8824595633291508535|tw1611551182742943237|tw14199714164133228370|tw14805814515597417852|tw726985913927333873|tw2335157872551914648|tw2927799364441409784|tw729466047920990731|tw15137687247720179910|tw17513604867990543079|tw14902116518872038344|tw13553050674002434610|tw7097827964152542560|tw15632992782082381434|tw4382769092392356903|tw5426448371682200115|tw5661640270340304354|tw17094580856887593759|tw3904583755211930517|tw17119971604622065936|tw14788362278542820120|tw10069975712529536831|tw7317234293075219|tw4425046354534653865|tw3373145609055282853|tw14722794537435163219|tw18431155831084640082|tw11069628954808310989|tw7942853410682446962|tw11118301316682269745|tw15078095837771203109|tw4227517698962585424|tw11763852733077360975|tw8526028360262338249|tw10052001805573714066|tw1877378965866140348|tw306725001281121169|tw17882641709403210578|tw4153491320931672185|tw15545184769064153574|tw12067549021546063074|tw16396790404030501481|tw15755044616229629136|tw1647960591809683682|tw17878424488110687958|tw5835942142707902020|tw4185518321428705831|tw10015450608781386451|tw3345597093286824917|tw5680315236850328200|tw8174591469460913490|tw11786325122171474085|tw7343611390307366373|tw5916140570258018564|tw14323227155912201964|tw7340446101256811000|tw8553059368797141306|tw2962324470309885386|tw16266442582153907279|tw8667492640987031791|tw11320351676317602388|tw13952158723898717365|tw18012574323051992567|tw5310652868755799522|tw7524379617451308511|tw18167724695441219349|tw12392129776423771058|tw4968929673044707356|tw13887902116395311400|tw12712400820596877648|tw1391549112126926301|tw10846345724684618374|tw3934833063311361131|tw7076977106511060911|tw274189353798237994|tw10896712999787139778|tw16655083059833703075|tw6771182271545134960|tw4340971767527515617|tw10497823618577955822|tw644751248652905101|tw897888412878121761|tw10131873952172028942|tw18329075359065952542|tw16463793508043411602|tw5587484289544270231|tw12356241338228022558|tw8131721106225051767|tw3808584094389355786|tw15261137711255440680|tw10800367221633172730|tw10134030333460990790|tw4177351759533223642|tw2202087279664922802|tw16925118299729312639|tw3471986238504059686|tw4799189423077775474|tw17456480263006714056|tw17084317755948004794|tw18182889222666715495|tw7894344252036594922|tw438459731153329746|tw4188684199736651882|tw17338234738716814015|tw12325562205625792791|tw6623812351622530092|tw1998032249293215463|tw9161490523856799436|tw6760056911573607715|tw7618804249908900691|tw11300376045408061371|tw18277388166739348960|tw3133745999044795564|tw671769174312181376|tw7395645310213146516|tw12079628635447562283|tw6252695792229605141|tw12487779173672901959|tw10393078302967963895|tw6205024481829086969|tw16884622931589843948|tw5015507407206683207|tw8621336744817483243|tw16408362238061914836|tw14064692534454641163|tw4527666119302655514|tw15155859288707382567|tw11347631108264317165|tw17590088832654516399|tw4842887358765978389|tw14398365135244066966|tw6606014719576569030|tw6999941293234460784|tw10241233070082051121|tw17960406059949683352|tw8249347019533418915|tw14112606434462084385|tw1173414789623836638|tw7158441374720773216|tw12319047049370110589|tw16286715671046524454|tw12514039047250868702|tw6788773261714906821|tw7945405709010385892|tw2484844197603217540|tw7717702957765121957|tw13350131943787299761|tw14731147920152588799|tw11887224372650548316|tw8078195926588453703|tw3822784309164373692|tw5674458297940323589|tw5011889884212318148|tw15231466150309641479|tw14245618210516037357|tw6784790241324674965|tw2456577590951144490|tw8697654515486363317|tw12661032092557703082|tw16607927582987124570|tw13949155002146243131|tw16970792351503237766|tw1620389302784492585|tw13323373534744806615|tw15854262060937163188|tw17802128708061929859|tw9835382159548102362|tw14650769484350525481|tw18042889414512086050|tw1833547357909804662|tw5858091984373223361|tw3016012700857477809|tw3942624392001961204|tw6728313399510405491|tw2450569374399577549|tw6662249597110656733|tw11654023200298843171|tw16803143847538834185|tw11843833423457600547|tw15536387163757344236|tw17108046237660401759|tw16504757533647375273
set_option maxRecDepth 100000 in
set_option maxHeartbeats 8000000 in
open_top head for PySem.Challenge.rw_seer_k78_breaking
end
section
open PySem PySem.W PySem.Calls PyProof.Rows PM
variable{F:List V->Hp->Option (V×Hp)}
seal PM.J PM.Js PM.JT PM.JA PM.JF PM.JI PM.JI2 PM.JP PM.S1 PM.Ss PM.Sto PM.Rd PM.Nm PM.OpN PM.Op2 PM.Def
namespace L
abbrev DD(w:World)(a:Shared)(mg mb:Str->Option Value)(f:Addr)(r:Nat)(F:List V->Hp->Option (V×Hp)): Prop:=Def PySem.Challenge.rw_seer_k78_breaking.row.prog w (head.heap_39 w.params) head.view_39 (looseW head.view_39 []) (ExcName.means a.heap) mg mb f r F
section
variable {w:World} {a:Shared} {mg mb:Str->Option Value}
local macro_rules | `(#[$a])=>`(jc $a Zb3)
local macro_rules | `(#[$a,$b,$as,*])=>`(jc $a #[$b,$as,*])
local macro_rules | `(#[$a,$b])=>`(jc $a #[$b])
local macro_rules | `([$a,$b])=>if a.raw.isOfKind `str || a.raw.isIdent then Lean.Macro.throwUnsupported else `(Zdw $a (Zz $b))
local macro_rules | `([$a,$b,$c,$as,*])=>if a.raw.isOfKind `str || a.raw.isIdent then Lean.Macro.throwUnsupported else `(Zdw $a [$b,$c,$as,*])
local macro_rules | `([$a,$b,$c])=>if a.raw.isOfKind `str || a.raw.isIdent then Lean.Macro.throwUnsupported else `(Zdw $a [$b,$c])
theorem ZZ: DD w a mg mb 283 1 ZR:=by
 unfold DD;k_fill
 refine Z4 (names:=["_law_tape","_law_many","_law_at"]) (g:=Zg2) ?_
 exact λ_ _ _ _ _ _ _ c _ _=>[Zq sL (Zj vL jI),S1.put (Zo vL jI ZN) vL jI,ZL (Zv (Zaa (nB c) #[Zj vL jI] Zaz) jI ZQ) (Zz (Zt jI)) ZP,Zt (Zo (Zo (Zj (Zj vL jI) (Zo vL (Zaa (nB c) #[Zj vL jI] Zaz) ZcM)) (Zo vL (Zaa (nB c) #[Zj vL jI] Zaz) ZhR) ZN) vL ZcM)]
theorem ZeS: DD w a mg mb 290 2 ZcF:=by
 unfold DD;k_fill
 refine Z4 (names:=["_law_tape","_law_kind"]) (g:=Zgq) ?_
 exact λ_ _ _ _ _ _ _ c _ _=>[Zq sL (cF c ZZ #[vL,jI]),ZL (Zv vL jI Zcz) (Zz (Zt (Zo (cF c ZZ #[vL,jI]) jI Zaw))) ZP,ZL (Zv vL jI ZQ) (Zz (Zt (Zo (cF c ZZ #[vL,Zo (Zo jI (Zo jI jI ZcN) Zcw) jI ZN]) (Zo jI jI ZcN) Zaw))) ZP,Zt (Zo (cF c ZZ #[vL,Zo (Zo jI (Zo jI jI ZcN) Zcw) jI ZN]) (Zo jI jI ZcN) Zaw)]
theorem Zc0: DD w a mg mb 297 3 ZbW:=by
 unfold DD;k_fill
 refine Z4 (names:=["_law_tape","_law_many","_law_one","_law_box","_law_kind"]) (g:=ZgJ) ?_
 exact λ_ _ _ _ _ _ _ c _ _=>[Zq sL (J.list #[cF c ZeS #[vL]]),ZbL sL (JI.range (nB c) #[vL]) [Zq sL (cF c ZZ #[vL,jI]),Zar (J.append vL (Zj (J.list #[jI,jI,jI,jI,jI,jI,jI,J.un jI ok_neg,jI,J.un jI ok_neg,jI,jI]) vL)),ZL (Zv vL jI ZQ) (Zz (S1.put (Zo (cF c ZZ #[vL,Zo (Zo jI (Zo jI jI ZcN) Zcw) jI ZN]) (Zo jI jI ZcN) Zaw) vL (Zo vL jI ZN))) ZP],Zt vL]
theorem Zis: DD w a mg mb 304 2 Zd0:=by
 unfold DD;k_fill
 refine Z4 (names:=["_law_tape","_law_kind"]) (g:=Zgy) ?_
 exact λ_ _ _ _ _ _ _ c _ _=>[Zq sL (cF c ZZ #[vL,jI]),ZL (Zv vL jI Zcz) (Zz (Zt (Zj (J.list #[jI,jI,jI,jI,jI]) vL))) ZP,ZL (Zv vL jI ZQ) (Zz (Zt (Zo jI (cF c ZZ #[vL,Zo jI jI ZcN]) ZN))) ZP,Zt (Zo jI (cF c ZZ #[vL,jI]) ZN)]
theorem ZdZ: DD w a mg mb 311 4 ZcG:=by
 unfold DD;k_fill
 refine Z4 (names:=["_law_tape","_law_many","_law_kind","_law_one"]) (g:=Zgs) ?_
 exact λ_ _ _ _ _ _ _ c _ _=>[Zq sL (cF c ZZ #[vL,jI]),Zq sL (cF c Zc0 #[vL,vL]),ZL (Zv vL jI ZbB) (Zz (Zt (J.tup #[jS,vL,cF c Zis #[vL]]))) ZP,Zt (J.tup #[Zj (J.list #[jS,jS,jS]) vL,vL])]
theorem law_said_d: DD w a mg mb 416 5 Ze8:=by
 unfold DD;k_fill
 refine Z4 (names:=["_law_tape","_law_program_here","_law_p","_law_many","_law_more"]) (g:=Zg3) ?_
 exact λ_ _ _ _ _ _ _ c _ _=>[Zq sL (Zj (Zj vL (J.un jI ok_neg)) jI),Zq sL (Zj (Zj vL (J.un jI ok_neg)) jI),Zq sL (J.list #[J.tup #[jS,cF c ZdZ #[vL,vL]]]),ZL (Zv (cF c ZZ #[vL,jI]) jI ZbB) (Zz (Zt (Zo (ZbZ vL JP.none (JP.some (J.un jI ok_neg))) (J.list #[J.tup #[vL,vL,Zo (Zj (Zj vL (J.un jI ok_neg)) jI) vL ZN]]) ZN))) ZP,Zt (Zo (ZbZ vL JP.none (JP.some (J.un jI ok_neg))) (J.list #[J.tup #[vL,vL,Zo vL (Zj (Zj vL (J.un jI ok_neg)) jI) ZN]]) ZN)]
theorem ZlA: DD w a mg mb 423 1 ZdW:=by
 unfold DD;k_fill
 refine Z4 (names:=["_law_ways","_law_some","_law_f","_law_row"]) (g:=Zgv) ?_
 exact λ_ _ _ _ _ _ _ c _ _=>[Zq sL (J.list Zb3),ZbL sL (JI.range (nB c) #[Zaa (nB c) #[vL] Zaz]) (Zz (ZbL sL (JI.seq (Zj vL vL)) (Zz (ZL (Zv (Zj (Zj vL jI) jI) jS ZQ) (Zz (Zar (J.append vL (J.tup #[vL,Zj vL jI])))) ZP)))),Zt vL]
theorem Zip: ∀n:Nat,Def PySem.Challenge.rw_seer_k78_breaking.row.prog w (head.heap_39 w.params) head.view_39 (looseW head.view_39 []) (ExcName.means a.heap) mg mb 359 (1*n+0) (ZeU n)
 | 0=>Zfh
 | n+1=>by
  have ih:=Zip n
  k_fill
  have e0:1*(n+1)+0=(1*n+0)+1:=by omega
  rw[e0]
  refine' Zcd (names:=["_law_thing"]) (n:=1) (room:=1*n+0) (g:=Zir (ZeU n)) (ho:=?ho) (hcd:=?hcd) (nd:=by decide) (hn:=by decide) (hbind:=?hb) (hkinds:=?hk) (hone:=?h1) (hco:=?z1) (hgen:=?z2) (hk:=?z3) (hbody:=?hbody)
  case ho=>k_is
  case z1=>rfl
  case z2=>rfl
  case z3=>rfl
  case hcd=>k_is
  case hb=>intro s;change Cur _ λxs=>BindsTo _ _ ⟨xs,[]⟩ _;(repeat refine cur_s λ_=>?_);exact Zcj (BindsTo.of_eq rfl)
  case hk=>decide
  case h1=>decide +kernel
  case hbody=>
   intro dp un gd L outer h₀ hu clr hd1 hu1
   exact [ZL (JT.val (Zec (nB clr) (nB clr) (.inr (.inr (.inl rfl))) vL)) (Zz (Zt (by refine cO ?_ ?_ ?_;(exact(JI.seq vL));(exact λ_ _=>(cF (Clr.comp clr) ih #[vO]));(exact λ_ _=>JF.nil)))) ZP,ZL (JT.val (Zec (nB clr) (nB clr) (.inr (.inr (.inr rfl))) vL)) (Zz (Zt (ZcK (nB clr) #[(by refine cO ?_ ?_ ?_;(exact(JI.seq vL));(exact λ_ _=>(cF (Clr.comp clr) ih #[vO]));(exact λ_ _=>JF.nil))] ZiM))) ZP,Zt vL]
theorem Ze1: Def PySem.Challenge.rw_seer_k78_breaking.row.prog w (head.heap_39 w.params) head.view_39 (looseW head.view_39 []) (ExcName.means a.heap) mg mb 359 24 Zbp:=Zip 24
theorem ZlT: DD w a mg mb 138 1 ZcI:=by
 unfold DD;k_fill
 refine Z4 (names:=["rows"]) (g:=ZgO) ?_
 exact λ_ _ _ _ _ _ _ c _ _=>(Zz (Zt (ZpM (nB c) (by refine cO ?_ ?_ ?_;(exact(JI.seq vL));(exact λ_ _=>(Zaa (nB (Clr.comp c)) #[Zj vO jI,Zj vO jI] Zhz));(exact λ_ _=>JF.nil)))))
theorem ZlB: DD w a mg mb 150 2 ZdX:=by
 unfold DD;k_fill
 refine Z4 (names:=["rows","by_place","row"]) (g:=Zgw) ?_
 exact λ_ _ _ _ _ _ _ c _ _=>[(by refine sO sL ?_ ?_ ?_;(exact(JI.range (nB c) #[Zo (cF c ZlT #[vL]) jI ZN]));(exact λ_ _=>(J.list Zb3));(exact λ_ _=>JF.nil)),ZbL sL (JI.seq vL) (Zz (Zar (J.append (Zj vL (Zj vL jI)) vL))),Zt vL]
theorem ZlF: DD w a mg mb 77 1 ZeV:=by
 unfold DD;k_fill
 refine Z4 (names:=["self"]) (g:=ZgA) ?_
 exact λ_ _ _ _ _ _ _ c _ _=>[Zbw (Clr.keep c) (J.list Zb3) vL .r .d .d .k .k .k .k,Zbw (Clr.keep c) jI vL .r .d .d .k .k .k .k]
theorem ZgY: DD w a mg mb 91 1 Zc2:=by
 unfold DD;k_fill
 refine Z4 (names:=["self","here","act","there"]) (g:=ZgT) ?_
 exact λ_ _ _ _ _ _ _ c _ _=>(Zz (Zar (J.append (ZaC (Clr.keep c) vL .r .d .k .k .k .k) (J.tup #[vL,vL,vL]))))
theorem ZcY: DD w a mg mb 84 2 ZbG:=by
 unfold DD;k_fill
 refine Z4 (names:=["self","here","act"]) (g:=Zgu) ?_
 exact λ_ _ _ _ _ _ _ c _ _=>[Zbw (Clr.keep c) (Zo (ZaC (Clr.keep c) vL .r .d .k .k .k .k) jI ZN) vL .r .d .d .k .k .k .k,Zar (ZaQ c vL .k .k .k .d .k ZgY .o .o #[vL,vL,ZaC (Clr.keep c) vL .r .d .k .k .k .k]),Zt (ZaC (Clr.keep c) vL .r .d .k .k .k .k)]
theorem ZjI: ∀n:Nat,Def PySem.Challenge.rw_seer_k78_breaking.row.prog w (head.heap_39 w.params) head.view_39 (looseW head.view_39 []) (ExcName.means a.heap) mg mb 19 (1*n+0) (Zfj n)
 | 0=>Zfh
 | n+1=>by
  have ih:=ZjI n
  k_fill
  have e0:1*(n+1)+0=(1*n+0)+1:=by omega
  rw[e0]
  refine' Zcd (names:=["thing"]) (n:=1) (room:=1*n+0) (g:=Zj6 (Zfj n)) (ho:=?ho) (hcd:=?hcd) (nd:=by decide) (hn:=by decide) (hbind:=?hb) (hkinds:=?hk) (hone:=?h1) (hco:=?z1) (hgen:=?z2) (hk:=?z3) (hbody:=?hbody)
  case ho=>k_is
  case z1=>rfl
  case z2=>rfl
  case z3=>rfl
  case hcd=>k_is
  case hb=>intro s;change Cur _ λxs=>BindsTo _ _ ⟨xs,[]⟩ _;(repeat refine cur_s λ_=>?_);exact Zcj (BindsTo.of_eq rfl)
  case hk=>decide
  case h1=>decide +kernel
  case hbody=>
   intro dp un gd L outer h₀ hu clr hd1 hu1
   exact [ZL (JT.val (Zec (nB clr) (nB clr) (.inr (.inr (.inl rfl))) vL)) (Zz (Zt (by refine cO ?_ ?_ ?_;(exact(JI.seq vL));(exact λ_ _=>(cF (Clr.comp clr) ih #[vO]));(exact λ_ _=>JF.nil)))) ZP,ZL (JT.val (Zec (nB clr) (nB clr) (.inr (.inr (.inr rfl))) vL)) (Zz (Zt (ZcK (nB clr) #[(by refine cO ?_ ?_ ?_;(exact(JI.seq vL));(exact λ_ _=>(cF (Clr.comp clr) ih #[vO]));(exact λ_ _=>JF.nil))] ZiM))) ZP,Zt vL]
theorem Zky: Def PySem.Challenge.rw_seer_k78_breaking.row.prog w (head.heap_39 w.params) head.view_39 (looseW head.view_39 []) (ExcName.means a.heap) mg mb 19 24 Zfz:=ZjI 24
theorem Zfd: DD w a mg mb 145 25 Zcs:=by
 unfold DD;k_fill
 refine Z4 (names:=["claim","truth"]) (g:=Zg6) ?_
 exact λ_ _ _ _ _ _ _ c _ _=>(Zz (Zt (J.tup #[jS,cF c Zky #[vL],vL])))
theorem ZlG(n:Nat)(ih:Def PySem.Challenge.rw_seer_k78_breaking.row.prog w (head.heap_39 w.params) head.view_39 (looseW head.view_39 []) (ExcName.means a.heap) mg mb 98 (3*n+25) F): Def PySem.Challenge.rw_seer_k78_breaking.row.prog w (head.heap_39 w.params) head.view_39 (looseW head.view_39 []) (ExcName.means a.heap) mg mb 112 (3*n+26) (ZeZ F):=by
  k_fill
  refine' Zcd (names:=["self","statement","here","then","then_end","other","other_end","end"]) (n:=3) (room:=3*n+25) (g:=ZgF F) (ho:=?ho) (hcd:=?hcd) (nd:=by decide) (hn:=by decide) (hbind:=?hb) (hkinds:=?hk) (hone:=?h1) (hco:=?z1) (hgen:=?z2) (hk:=?z3) (hbody:=?hbody)
  case ho=>k_is
  case z1=>rfl
  case z2=>rfl
  case z3=>rfl
  case hcd=>k_is
  case hb=>intro s;change Cur _ λxs=>BindsTo _ _ ⟨xs,[]⟩ _;(repeat refine cur_s λ_=>?_);exact Zcj (BindsTo.of_eq rfl)
  case hk=>decide
  case h1=>decide +kernel
  case hbody=>
   intro dp un gd L outer h₀ hu clr hd1 hu1
   exact [Zq sL (ZaQ clr vL .k .k .k .d .k ZcY .o .o #[vL,cF clr Zfd #[Zj vL jI,jB]]),Zq sL (ZaQ clr vL .k .k .k .d .k ih .o .o #[Zj vL jI,vL]),Zq sL (ZaQ clr vL .k .k .k .d .k ZcY .o .o #[vL,cF clr Zfd #[Zj vL jI,jB]]),Zq sL (ZaQ clr vL .k .k .k .d .k ih .o .o #[Zj vL jI,vL]),Zq sL (ZaQ clr vL .k .k .k .d .k ZcY .o .o #[vL,J.tup #[jS]]),Zar (ZaQ clr vL .k .k .k .d .k ZgY .o .o #[vL,J.tup #[jS],vL]),Zt vL]
theorem Zlw(n:Nat)(ih:Def PySem.Challenge.rw_seer_k78_breaking.row.prog w (head.heap_39 w.params) head.view_39 (looseW head.view_39 []) (ExcName.means a.heap) mg mb 98 (3*n+25) F): Def PySem.Challenge.rw_seer_k78_breaking.row.prog w (head.heap_39 w.params) head.view_39 (looseW head.view_39 []) (ExcName.means a.heap) mg mb 119 (3*n+26) (ZeQ F):=by
  k_fill
  refine' Zcd (names:=["self","statement","here","head","again","again_end"]) (n:=3) (room:=3*n+25) (g:=Zgp F) (ho:=?ho) (hcd:=?hcd) (nd:=by decide) (hn:=by decide) (hbind:=?hb) (hkinds:=?hk) (hone:=?h1) (hco:=?z1) (hgen:=?z2) (hk:=?z3) (hbody:=?hbody)
  case ho=>k_is
  case z1=>rfl
  case z2=>rfl
  case z3=>rfl
  case hcd=>k_is
  case hb=>intro s;change Cur _ λxs=>BindsTo _ _ ⟨xs,[]⟩ _;(repeat refine cur_s λ_=>?_);exact Zcj (BindsTo.of_eq rfl)
  case hk=>decide
  case h1=>decide +kernel
  case hbody=>
   intro dp un gd L outer h₀ hu clr hd1 hu1
   exact [Zq sL (ZaQ clr vL .k .k .k .d .k ZcY .o .o #[vL,J.tup #[jS]]),Zq sL (ZaQ clr vL .k .k .k .d .k ZcY .o .o #[vL,cF clr Zfd #[Zj vL jI,jB]]),Zq sL (ZaQ clr vL .k .k .k .d .k ih .o .o #[Zj vL jI,vL]),Zar (ZaQ clr vL .k .k .k .d .k ZgY .o .o #[vL,J.tup #[jS],vL]),Zt (ZaQ clr vL .k .k .k .d .k ZcY .o .o #[vL,cF clr Zfd #[Zj vL jI,jB]])]
theorem Zlv(n:Nat)(ih:Def PySem.Challenge.rw_seer_k78_breaking.row.prog w (head.heap_39 w.params) head.view_39 (looseW head.view_39 []) (ExcName.means a.heap) mg mb 98 (3*n+25) F): Def PySem.Challenge.rw_seer_k78_breaking.row.prog w (head.heap_39 w.params) head.view_39 (looseW head.view_39 []) (ExcName.means a.heap) mg mb 105 (3*n+27) (ZbV F):=by
  k_fill
  refine' Zcd (names:=["self","statement","here"]) (n:=3) (room:=3*n+26) (g:=ZdU F) (ho:=?ho) (hcd:=?hcd) (nd:=by decide) (hn:=by decide) (hbind:=?hb) (hkinds:=?hk) (hone:=?h1) (hco:=?z1) (hgen:=?z2) (hk:=?z3) (hbody:=?hbody)
  case ho=>k_is
  case z1=>rfl
  case z2=>rfl
  case z3=>rfl
  case hcd=>k_is
  case hb=>intro s;change Cur _ λxs=>BindsTo _ _ ⟨xs,[]⟩ _;(repeat refine cur_s λ_=>?_);exact Zcj (BindsTo.of_eq rfl)
  case hk=>decide
  case h1=>decide +kernel
  case hbody=>
   intro dp un gd L outer h₀ hu clr hd1 hu1
   exact [ZL (Zv (Zj vL jI) jS ZQ) (Zz (Zt (ZaQ clr vL .k .k .k .d .k (ZlG n ih) .o .o #[vL,vL]))) ZP,ZL (Zv (Zj vL jI) jS ZQ) (Zz (Zt (ZaQ clr vL .k .k .k .d .k (Zlw n ih) .o .o #[vL,vL]))) ZP,Zt (ZaQ clr vL .k .k .k .d .k ZcY .o .o #[vL,cF clr Zky #[vL]])]
theorem Zin: ∀n:Nat,Def PySem.Challenge.rw_seer_k78_breaking.row.prog w (head.heap_39 w.params) head.view_39 (looseW head.view_39 []) (ExcName.means a.heap) mg mb 98 (3*n+25) (ZcE n)
 | 0=>Zfh
 | n+1=>by
  have ih:=Zin n
  k_fill
  have e0:3*(n+1)+25=(3*n+27)+1:=by omega
  rw[e0]
  refine' Zcd (names:=["self","body","here","place","statement"]) (n:=3) (room:=3*n+27) (g:=ZeR (ZcE n)) (ho:=?ho) (hcd:=?hcd) (nd:=by decide) (hn:=by decide) (hbind:=?hb) (hkinds:=?hk) (hone:=?h1) (hco:=?z1) (hgen:=?z2) (hk:=?z3) (hbody:=?hbody)
  case ho=>k_is
  case z1=>rfl
  case z2=>rfl
  case z3=>rfl
  case hcd=>k_is
  case hb=>intro s;change Cur _ λxs=>BindsTo _ _ ⟨xs,[]⟩ _;(repeat refine cur_s λ_=>?_);exact Zcj (BindsTo.of_eq rfl)
  case hk=>decide
  case h1=>decide +kernel
  case hbody=>
   intro dp un gd L outer h₀ hu clr hd1 hu1
   exact [Zq sL vL,ZbL sL (JI.seq vL) (Zz (Zq sL (ZaQ clr vL .k .k .k .d .k (Zlv n ih) .o .o #[vL,vL]))),Zt vL]
theorem Zlz: Def PySem.Challenge.rw_seer_k78_breaking.row.prog w (head.heap_39 w.params) head.view_39 (looseW head.view_39 []) (ExcName.means a.heap) mg mb 98 52 Zgr:=Zin 9
theorem Zhg: DD w a mg mb 133 54 Zcc:=by
 unfold DD;k_fill
 refine Z4 (names:=["body","layer"]) (g:=Zhb) ?_
 exact λ_ _ _ _ _ _ _ c _ _=>[Zq sL (ZpL c (Zer c .k rfl rfl rfl rfl) .k .k .k .k ZlF .o .o),Zar (ZaQ c vL .k .k .k .d .k Zlz .o .o #[vL,jI]),Zt (ZaC (Clr.keep c) vL .r .d .k .k .k .k)]
theorem ZlH: DD w a mg mb 155 55 Ze0:=by
 unfold DD;k_fill
 refine Z4 (names:=["program"]) (g:=ZgG) ?_
 exact λ_ _ _ _ _ _ _ c _ _=>(Zz (Zt (by refine cO ?_ ?_ ?_;(exact(JI.seq vL));(exact λ_ _=>(cF (Clr.comp c) ZlB #[cF (Clr.comp c) Zhg #[Zj vO jI]]));(exact λ_ _=>JF.nil))))
theorem Zit: DD w a mg mb 256 1 ZcZ:=by
 unfold DD;k_fill
 refine Z4 (names:=["program","function","given","many"]) (g:=ZgB) ?_
 exact λ_ _ _ _ _ _ _ c _ _=>[Zq sL (Zj (Zj vL vL) jI),Zt (J.tup #[vL,jI,Zo vL (by refine cO ?_ ?_ ?_;(exact(JI.range (nB c) #[Zo vL (Zaa (nB c) #[vL] Zaz) Zaw]));(exact λ_ _=>jI);(exact λ_ _=>JF.nil)) ZN])]
theorem ZlC: DD w a mg mb 190 56 ZdY:=by
 unfold DD;k_fill
 refine Z4 (names:=["self","program","start","picks"]) (g:=Zgx) ?_
 exact λ_ _ _ _ _ _ _ c _ _=>[Zbw (Clr.keep c) vL vL .r .d .d .k .k .k .k,Zbw (Clr.keep c) (cF c ZlH #[vL]) vL .r .d .d .k .k .k .k,Zbw (Clr.keep c) vL vL .r .d .d .k .k .k .k,Zbw (Clr.keep c) jI vL .r .d .d .k .k .k .k,Zbw (Clr.keep c) (J.list Zb3) vL .r .d .d .k .k .k .k,Zbw (Clr.keep c) (cF c Zit #[vL,Zo (Zaa (nB c) #[vL] Zaz) jI Zaw,vL]) vL .r .d .d .k .k .k .k]
theorem Zim: DD w a mg mb 197 1 ZdV:=by
 unfold DD;k_fill
 refine Z4 (names:=["self"]) (g:=Zgm) ?_
 exact λ_ _ _ _ _ _ _ c _ _=>(Zz (Zt (Zj (Zj (ZaC (Clr.keep c) vL .r .d .k .k .k .k) (Zj (ZaC (Clr.keep c) vL .r .d .k .k .k .k) jI)) (Zj (ZaC (Clr.keep c) vL .r .d .k .k .k .k) jI))))
theorem Zk6: DD w a mg mb 26 1 Zde:=by
 unfold DD;k_fill
 refine Z4 (names:=["row","x","thing"]) (g:=ZhX) ?_
 exact λ_ _ _ _ _ _ _ c _ _=>(Zz (Zt (Zo (Zo (ZbZ vL JP.none (JP.some (Zo vL jI Zaw))) (J.list #[vL]) ZN) (ZbZ vL (JP.some vL) JP.none) ZN)))
theorem ZlI: DD w a mg mb 223 2 ZeW:=by
 unfold DD;k_fill
 refine Z4 (names:=["self","answer","call","caller","row"]) (g:=ZgC) ?_
 exact λ_ _ _ _ _ _ _ c _ _=>[Zq sL (Zj (Zj (ZaC (Clr.keep c) vL .r .d .k .k .k .k) jI) (J.un jI ok_neg)),Zq sL (J.pop (ZaC (Clr.keep c) vL .r .d .k .k .k .k)),Zq sL (Zj vL jI),Zq sL (Zj vL jI),Zbw (Clr.keep c) (J.tup #[Zj vL jI,Zj vL jI,cF c Zk6 #[Zj vL jI,Zj (Zj vL jI) jI,vL]]) vL .r .d .d .k .k .k .k]
theorem ZhP: DD w a mg mb 56 1 Zcv:=by
 unfold DD;k_fill
 refine Z4 (names:=["one","boxes"]) (g:=ZhI) ?_
 exact λ_ _ _ _ _ _ _ c _ _=>(Zz (Zt (Zo (Zj vL jI) (Zaa (nB c) #[(by refine cT ?_ ?_;(exact(JI2.zip (nB c) (J.from vL jI) vL));(exact λ_ _=>(Zo vO vO Zcw)))] ZhS) ZN)))
theorem ZlJ: DD w a mg mb 216 2 ZeY:=by
 unfold DD;k_fill
 refine Z4 (names:=["self","row","act","given"]) (g:=ZgD) ?_
 exact λ_ _ _ _ _ _ _ c _ _=>[Zq sL (Zj vL jI),(by refine sO sL ?_ ?_ ?_;(exact(JI.seq (Zj vL jI)));(exact λ_ _=>(cF (Clr.comp c) ZhP #[vO,Zj (ZaC (Clr.keep (Clr.comp c)) vD .r .d .k .k .k .k) jI]));(exact λ_ _=>JF.nil)),Zar (J.append (ZaC (Clr.keep c) vC .r .d .k .k .k .k) (J.tup #[ZaC (Clr.keep c) vC .r .d .k .k .k .k,vL])),Zbw (Clr.keep c) (cF c Zit #[ZaC (Clr.keep c) vC .r .d .k .k .k .k,Zj vL jI,vL]) vC .r .d .d .k .k .k .k]
theorem Zlx: DD w a mg mb 237 1 ZeO:=by
 unfold DD;k_fill
 refine Z4 (names:=["self","act"]) (g:=Zgn) ?_
 exact λ_ _ _ _ _ _ _ c _ _=>[ZL (Zv (Zj vL jI) jS ZdI) (Zz (Zt jI)) ZP,Zbw (Clr.keep c) (Zo (ZaC (Clr.keep c) vL .r .d .k .k .k .k) jI ZN) vL .r .d .d .k .k .k .k,ZL (Zv (ZaC (Clr.keep c) vL .r .d .k .k .k .k) (Zaa (nB c) #[ZaC (Clr.keep c) vL .r .d .k .k .k .k] Zaz) ZbB) (Zz (Zt jI)) ZP,Zt (Zj (ZaC (Clr.keep c) vL .r .d .k .k .k .k) (Zo (ZaC (Clr.keep c) vL .r .d .k .k .k .k) jI Zaw))]
theorem ZnH: DD w a mg mb 176 1 Zfi:=by
 unfold DD;k_fill
 refine Z4 (names:=["lo","hi","pick"]) (g:=Zhq) ?_
 exact λ_ _ _ _ _ _ _ c _ _=>[ZL (ZaT (Zaf (Zv vL jN Zey) (Zaf (Zv vL jN Zey) Za5))) (Zz (Zt vL)) ZP,ZL (Zv vL jN Zey) (Zz (Zt (Zo vL (Zaa (nB c) #[vL] ZfH) ZN))) ZP,ZL (Zv vL jN Zey) (Zz (Zt (Zo vL (Zaa (nB c) #[vL] ZfH) Zaw))) ZP,Zt (Zo vL (Zo vL (Zo (Zo vL vL Zaw) jI ZN) ZcM) ZN)]
theorem ZlU: DD w a mg mb 169 2 Zd4:=by
 unfold DD;k_fill
 refine Z4 (names:=["boxes","act","pick","number"]) (g:=ZgN) ?_
 exact λ_ _ _ _ _ _ _ c _ _=>[ZL (Zv (Zj vL jI) jS ZQ) (Zz (Zt (cF c ZnH #[Zj vL jI,Zj vL jI,vL]))) ZP,Zq sL (cF c ZhP #[Zj vL jI,vL]),ZL (Zv (Zj vL jI) jS ZQ) (Zz (Zt (Zo vL (Zj vL jI) ZhR))) ZP,ZL (Zv (Zj vL jI) jS ZQ) (Zz (Zt (Zo vL (Zj vL jI) ZcM))) ZP,Zt vL]
theorem Zkz: DD w a mg mb 63 2 Zfx:=by
 unfold DD;k_fill
 refine Z4 (names:=["claim","boxes","told"]) (g:=Zj0) ?_
 exact λ_ _ _ _ _ _ _ c _ _=>[Zq sL (cF c ZhP #[Zj vL jI,vL]),ZL (Zv (Zj vL jI) jS ZQ) (Zz (Zt (Zbj vL jI Zcz))) ZP,ZL (Zv (Zj vL jI) jS ZQ) (Zz (Zt (Zbj vL jI ZQ))) ZP,Zt (Zbj (Zo vL (Zj vL jI) ZcM) jI ZQ)]
theorem Zqs: DD w a mg mb 162 3 Zb6:=by
 unfold DD;k_fill
 refine Z4 (names:=["boxes","act","pick"]) (g:=Zdf) ?_
 exact λ_ _ _ _ _ _ _ c _ _=>[ZL (ZaT (Zaf (Zv (Zj vL jI) jS ZQ) (Zaf (Zv (cF c Zkz #[Zj vL jI,vL]) (Zj vL jI) ZdI) Za5))) (Zz (Zt jN)) ZP,ZL (Zv (Zj vL jI) (J.tup #[jS,jS,jS]) Zli) (Zz (Zt (ZcK (nB c) #[vL] Zhk))) ZP,Zt (cF c Zk6 #[vL,Zj vL jI,cF c ZlU #[vL,vL,vL]])]
theorem Zly: DD w a mg mb 230 4 ZeP:=by
 unfold DD;k_fill
 refine Z4 (names:=["self","rows","pick","here","row","boxes"]) (g:=Zgo) ?_
 exact λ_ _ _ _ _ _ _ c _ _=>[Zq sL (ZaQ c vL .k .k .k .d .k Zlx .o .o #[Zj (Zj vL jI) jI]),Zq sL (ZaC (Clr.keep c) vL .r .d .k .k .k .k),ZbL sL (JI.seq vL) [Zq sL (cF c Zqs #[Zj vL jI,Zj vL jI,vL]),ZL (Zv vL jN Zdu) (Zz (Zbw (Clr.keep c) (J.tup #[Zj vL jI,Zj vL jI,vL]) vL .r .d .d .k .k .k .k)) ZP]]
theorem ZlK: DD w a mg mb 211 5 Zd2:=by
 unfold DD;k_fill
 refine Z4 (names:=["self","rows"]) (g:=ZgE) ?_
 exact λ_ _ _ _ _ _ _ c _ _=>[Zq sL (Zei c vL .k .k .k .d .k Zim .o .o),ZL (Zv (Zaa (nB c) #[vL] Zaz) jI ZQ) (Zz (Zar (Zei c vL .k .k .k .d .k ZlI .o .o))) (Zz (ZL (Zv (Zj (Zj (Zj vL jI) jI) jI) jS ZQ) (Zz (Zar (ZaQ c vL .k .k .k .d .k ZlJ .o .o #[Zj vL jI]))) (Zz (Zar (ZaQ c vL .k .k .k .d .k Zly .o .o #[vL])))))]
theorem ZlL: DD w a mg mb 204 2 Zd1:=by
 unfold DD;k_fill
 refine Z4 (names:=["self"]) (g:=Zgz) ?_
 exact λ_ _ _ _ _ _ _ c _ _=>(Zz (Zt (Zk9 (Zbj (Zaa (nB c) #[Zei c vL .k .k .k .d .k Zim .o .o] Zaz) jI ZQ) (Zbj (Zaa (nB c) #[ZaC (Clr.keep c) vL .r .d .k .k .k .k] Zaz) jI ZQ))))
theorem Zq6: DD w a mg mb 251 58 Zgb:=by
 unfold DD;k_fill
 refine Z4 (names:=["program","start","picks","steps","runner","moments"]) (g:=Zid) ?_
 exact λ_ _ _ _ _ _ _ c _ _=>[ZL (Zv (Zaa (nB c) #[vL] Zaz) (Zj (Zj vL (J.un jI ok_neg)) jI) ZdI) (Zz (S1.no)) ZP,Zq sL (J.new c (Zer c .k rfl rfl rfl rfl) .k .k .k .k ZlC .o .o #[vL,vL,vL]),Zq sL (J.list #[ZaC (Clr.keep c) vL .r .d .k .k .k .k]),Zi6 1000000 (ZaT (Zaf (Zv (Zaa (nB c) #[vL] Zaz) vL Zla) (Zaf (ZhQ (JT.val (Zei c vL .k .k .k .d .k ZlL .o .o))) Za5))) [Zar (Zei c vL .k .k .k .d .k ZlK .o .o),Zar (J.append vL (ZaC (Clr.keep c) vL .r .d .k .k .k .k))],Zt vL]
theorem Zl5: DD w a mg mb 271 3 Ze6:=by
 unfold DD;k_fill
 refine Z4 (names:=["saying","moments"]) (g:=ZgX) ?_
 exact λ_ _ _ _ _ _ _ c _ _=>(Zz (Zt (Zaa (nB c) #[(by refine cO ?_ ?_ ?_;(exact(JI.seq vL));(exact λ_ _=>(Zk8 (cF (Clr.comp c) Zkz #[Zj vD jI,Zj vO jI])));(exact λ_ _=>JF.one (Zv (Zh6 vO jI) (Zh6 vD jI) ZQ)))] ZkA)))
theorem ZmY: DD w a mg mb 261 55 Zeb:=by
 unfold DD;k_fill
 refine Z4 (names:=["program","found","number","function","rows"]) (g:=Zhf) ?_
 exact λ_ _ _ _ _ _ _ c _ _=>[Zq sL (J.list Zb3),ZnO sC sL (Zne (nB c) vL) [Zq sL (cF c Zhg #[Zj vL jI]),Zar (J.extend vL (by refine Zol (t:=100) (t₂:=101) (t₃:=102) (hclos:=by with_unfolding_all rfl) (hg:=?pg100) (hel:=?pe100) (hif:=?pi100) (hcell:=by decide) (hkind:=rfl) (hnames:=by decide) (hx:=rfl) (hx₂:=rfl) (hx₃:=rfl) (hxx:=by decide) (htt:=by decide);(exact(JIL.seq vL));(exact λ_ _=>(J.tup #[vD,vO,Zj vO jI]));(exact λ_ _=>JF.one (Zv (Zj vO jI) jS ZQ))))],Zt vL]
theorem ZlV: DD w a mg mb 276 56 Ze5:=by
 unfold DD;k_fill
 refine Z4 (names:=["program","places"]) (g:=ZgR) ?_
 exact λ_ _ _ _ _ _ _ c _ _=>(Zz (Zt (by refine cO ?_ ?_ ?_;(exact(JI.seq (cF c ZmY #[vL])));(exact λ_ _=>vO);(exact λ_ _=>JF.one (Zv (Zh6 vO jI) vD Zli)))))
theorem ZjJ: DD w a mg mb 266 59 Zbi:=by
 unfold DD;k_fill
 refine Z4 (names:=["program","start","picks","steps","function","place","moments"]) (g:=Zhs) ?_
 exact λ_ _ _ _ _ _ _ c _ _=>[Zq sC (cF c Zq6 #[vL,vL,vL,vL]),Zt (Zaa (nB c) #[(by refine cO ?_ ?_ ?_;(exact(JI.seq (cF c ZlV #[vL,J.list #[J.tup #[vL,vL]]])));(exact λ_ _=>(cF (Clr.comp c) Zl5 #[vO,vD]));(exact λ_ _=>JF.nil))] ZkA)]
theorem ZmZ: DD w a mg mb 318 3 Zfe:=by
 unfold DD;k_fill
 refine Z4 (names:=["_law_tape","_law_x","_law_lo","_law_hi","_law_kind"]) (g:=Zg9) ?_
 exact λ_ _ _ _ _ _ _ c _ _=>[Zq sL (cF c ZeS #[vL]),Zq sL (Zaa (nB c) #[Zo jI jI ZcN,Zo vL (cF c ZZ #[vL,jI]) ZN] ZjL),Zq sL (cF c ZZ #[vL,jI]),Zt (J.tup #[jS,vL,Zj (J.list #[vL,vL,vL,vL,jN,jN]) vL,Zj (J.list #[vL,vL,vL,jN,vL,jN]) vL])]
theorem Zmm(n:Nat)(ih:Def PySem.Challenge.rw_seer_k78_breaking.row.prog w (head.heap_39 w.params) head.view_39 (looseW head.view_39 []) (ExcName.means a.heap) mg mb 325 (3*n+4) F): Def PySem.Challenge.rw_seer_k78_breaking.row.prog w (head.heap_39 w.params) head.view_39 (looseW head.view_39 []) (ExcName.means a.heap) mg mb 332 (3*n+5) (Ze9 F):=by
  k_fill
  refine' Zcd (names:=["_law_tape","_law_sizes","_law_room","_law_depth","_law_x","_law_kind","_law_claim_here","_law_body_here","_law_top","_law_more"]) (n:=5) (room:=3*n+4) (g:=Zg4 F) (ho:=?ho) (hcd:=?hcd) (nd:=by decide) (hn:=by decide) (hbind:=?hb) (hkinds:=?hk) (hone:=?h1) (hco:=?z1) (hgen:=?z2) (hk:=?z3) (hbody:=?hbody)
  case ho=>k_is
  case z1=>rfl
  case z2=>rfl
  case z3=>rfl
  case hcd=>k_is
  case hb=>intro s;change Cur _ λxs=>BindsTo _ _ ⟨xs,[]⟩ _;(repeat refine cur_s λ_=>?_);exact Zcj (BindsTo.of_eq rfl)
  case hk=>decide
  case h1=>decide +kernel
  case hbody=>
   intro dp un gd L outer h₀ hu clr hd1 hu1
   exact [Zq sL (cF clr ZZ #[vL,jI]),Zq sL (cF clr ZdZ #[vL,Zj vL jI]),Zq sL (cF clr ih #[vL,vL,vL,Zo vL jI Zaw,cF clr ZZ #[vL,jI]]),ZL (ZaT (Zc4 (Zv vL jI ZQ) (Zc4 (Zv (Zj vL jI) jI ZQ) Zhh))) (Zz (Zt (J.tup #[jS,vL,vL,cF clr ih #[vL,vL,vL,Zo vL jI Zaw,cF clr ZZ #[vL,jI]]]))) ZP,S1.put (Zo (Zj vL jI) jI Zaw) vL jI,ZL (ZaT (Zaf (Zv vL jI ZQ) (Zaf (Zv vL jI ZbB) Za5))) [Zq sL (Zo (J.list #[J.un (cF clr ZZ #[vL,jI]) ok_neg]) (Zo (J.list #[jI]) (Zj vL jI) Zcw) ZN),S1.put jI vL vL,Zq sL (Zo (J.list #[Zo jI (cF clr ZZ #[vL,jI]) ZN]) (Zo (J.list #[jI]) (Zj vL jI) Zcw) ZN),S1.put jI vL vL,Zt (J.tup #[jS,J.tup #[jS,vL],Zo vL (J.list #[J.tup #[jS,vL,vL]]) ZN])] ZP,Zt (J.tup #[jS,vL,vL])]
theorem ZlD(n:Nat)(ih:Def PySem.Challenge.rw_seer_k78_breaking.row.prog w (head.heap_39 w.params) head.view_39 (looseW head.view_39 []) (ExcName.means a.heap) mg mb 325 (3*n+4) F): Def PySem.Challenge.rw_seer_k78_breaking.row.prog w (head.heap_39 w.params) head.view_39 (looseW head.view_39 []) (ExcName.means a.heap) mg mb 337 (3*n+6) (ZeT F):=by
  k_fill
  refine' Zcd (names:=["_law_tape","_law_sizes","_law_room","_law_depth","_law_many","_law_kind","_law_x","_law_f"]) (n:=4) (room:=3*n+5) (g:=Zgt F) (ho:=?ho) (hcd:=?hcd) (nd:=by decide) (hn:=by decide) (hbind:=?hb) (hkinds:=?hk) (hone:=?h1) (hco:=?z1) (hgen:=?z2) (hk:=?z3) (hbody:=?hbody)
  case ho=>k_is
  case z1=>rfl
  case z2=>rfl
  case z3=>rfl
  case hcd=>k_is
  case hb=>intro s;change Cur _ λxs=>BindsTo _ _ ⟨xs,[]⟩ _;(repeat refine cur_s λ_=>?_);exact Zcj (BindsTo.of_eq rfl)
  case hk=>decide
  case h1=>decide +kernel
  case hbody=>
   intro dp un gd L outer h₀ hu clr hd1 hu1
   exact [Zq sC (Zj vL jI),Zq sL (cF clr ZZ #[vC,jI]),Zq sL jI,ZL (Zv (Zj vL jI) vC Zcz) (Zz (Zq sL (Zo (Zo (Zj vL jI) jI ZN) (cF clr ZZ #[vC,Zo vC (Zj vL jI) Zaw]) ZN))) ZP,ZL (ZaT (Zaf (Zv vL jI Zcz) (Zaf (Zv vL jI ZbB) Za5))) (Zz (Zt (ZhA clr (Zer clr .k rfl rfl rfl rfl) .k (Zmm n ih) .o .o #[vC,vL,vL,vL,vL]))) ZP,ZL (ZaT (Zc4 (Zv vL jI ZQ) (Zc4 (Zv vL jI ZQ) Zhh))) (Zz (Zt (J.tup #[jS,cF clr ZdZ #[vC,vC]]))) ZP,ZL (ZaT (Zaf (Zv vL jI ZQ) (Zaf (Zv (Zaa (nB clr) #[Zj vL jI] Zaz) jI ZbB) Za5))) [Zq sL (cF clr ZZ #[vC,Zaa (nB clr) #[Zj vL jI] Zaz]),Zt (J.tup #[jS,vL,vL,(by refine cO ?_ ?_ ?_;(exact(JI.range (nB clr) #[Zj (Zj vL jI) vL]));(exact λ_ _=>(cF (Clr.comp clr) Zc0 #[vD,vD]));(exact λ_ _=>JF.nil))])] ZP,ZL (Zv vL jI ZQ) (Zz (Zt (cF clr ZmZ #[vC,vL]))) ZP,ZL (Zv vL jI ZbB) (Zz (Zt (J.tup #[Zj (J.list #[jS,jS]) (Zo vL jI Zaw),vL,cF clr Zc0 #[vC,vC],cF clr Zis #[vC]]))) ZP,Zt (J.tup #[jS,vL,cF clr Zc0 #[vC,vC]])]
theorem Zix: ∀n:Nat,Def PySem.Challenge.rw_seer_k78_breaking.row.prog w (head.heap_39 w.params) head.view_39 (looseW head.view_39 []) (ExcName.means a.heap) mg mb 325 (3*n+4) (Zc1 n)
 | 0=>Zfh
 | n+1=>by
  have ih:=Zix n
  k_fill
  have e0:3*(n+1)+4=(3*n+6)+1:=by omega
  rw[e0]
  refine' Zcd (names:=["_law_tape","_law_sizes","_law_room","_law_depth","_law_count","_law_body_here","_law_k"]) (n:=5) (room:=3*n+6) (g:=Zfa (Zc1 n)) (ho:=?ho) (hcd:=?hcd) (nd:=by decide) (hn:=by decide) (hbind:=?hb) (hkinds:=?hk) (hone:=?h1) (hco:=?z1) (hgen:=?z2) (hk:=?z3) (hbody:=?hbody)
  case ho=>k_is
  case z1=>rfl
  case z2=>rfl
  case z3=>rfl
  case hcd=>k_is
  case hb=>intro s;change Cur _ λxs=>BindsTo _ _ ⟨xs,[]⟩ _;(repeat refine cur_s λ_=>?_);exact Zcj (BindsTo.of_eq rfl)
  case hk=>decide
  case h1=>decide +kernel
  case hbody=>
   intro dp un gd L outer h₀ hu clr hd1 hu1
   exact [Zq sL (J.list Zb3),ZbL sL (JI.range (nB clr) #[vL]) (Zz (ZL (Zv (Zj vL jI) jI ZbB) [S1.put (Zo (Zj vL jI) jI Zaw) vL jI,Zar (J.append vL (ZhA clr (Zer clr .k rfl rfl rfl rfl) .k (ZlD n ih) .o .o #[vL,vL,vL,vL]))] ZP)),Zt vL]
theorem Zg7: Def PySem.Challenge.rw_seer_k78_breaking.row.prog w (head.heap_39 w.params) head.view_39 (looseW head.view_39 []) (ExcName.means a.heap) mg mb 325 31 Zfb:=Zix 9
theorem ZlW: DD w a mg mb 349 32 Ze4:=by
 unfold DD;k_fill
 refine Z4 (names:=["_law_tape","_law_params","_law_few","_law_p","_law_many","_law_rings","_law_body_here","_law_f"]) (g:=ZgM) ?_
 exact λ_ _ _ _ _ _ _ c _ _=>[Zq sL (Zj (J.list #[jI,jI,jI,jI,jI,jI,jI,jI,jI,jI,jI,jI]) (cF c ZZ #[vC,jI])),Zq sC (Zaa (nB c) #[jI,Zaa (nB c) #[jI,Zo vL (cF c ZZ #[vC,jI]) ZN] Zhz] ZjL),Zq sL (ZcK (nB c) #[ZpK (Zbj vC jI Zcz) (Zk9 (Zk8 vL) (Zbj (cF c ZZ #[vC,jI]) jI ZQ))] ZhH),Zq sL (cF c Zg7 #[vC,J.tup #[vL,vC,vL],J.list #[jI,vL],jI,cF c ZZ #[vC,jI]]),ZL (ZaT (Zaf (Zv vC vL ZbB) (Zaf (Zv (Zaa (nB c) #[vL] Zaz) jI ZbB) (Zaf (Zv (cF c ZZ #[vC,jI]) jI ZQ) Za5)))) [Zq sL (cF c ZZ #[vC,Zaa (nB c) #[vL] Zaz]),Zar (J.append vL (J.tup #[jS,vC,vL,(by refine cO ?_ ?_ ?_;(exact(JI.range (nB c) #[Zj vL vL]));(exact λ_ _=>(cF (Clr.comp c) Zc0 #[vD,vD]));(exact λ_ _=>JF.nil))]))] ZP,Zt (J.tup #[vL,vC,vL])]
theorem Zi1: DD w a mg mb 344 5 Zd8:=by
 unfold DD;k_fill
 refine Z4 (names:=["_law_tape","_law_many","_law_low","_law_top","_law_zeros","_law_more","_law_ring","_law_off","_law_within"]) (g:=Zha) ?_
 exact λ_ _ _ _ _ _ _ c _ _=>[Zq sL (Zo (cF c ZZ #[vL,jI]) jI Zaw),Zq sL (Zo (Zo vL jI ZN) (cF c ZZ #[vL,jI]) ZN),Zq sL (Zo (J.list #[jI]) (Zo vL jI Zaw) Zcw),Zq sL (J.list #[J.tup #[jS,jI,Zo (J.list #[Zo jI (cF c ZZ #[vL,jI]) ZN,jI]) vL ZN]]),ZL (ZaT (Zaf (Zv vL jI ZbB) (Zaf (Zv (cF c ZZ #[vL,jI]) jI ZQ) Za5))) (Zz (Zq sL (Zo (J.list #[J.tup #[jS,vL,cF c Zc0 #[vL,vL]]]) vL ZN))) ZP,Zq sL (J.tup #[jS,J.tup #[jS,Zo (J.list #[J.un vL ok_neg,jI]) vL ZN],vL]),Zq sL (J.tup #[jS,Zo (J.list #[Zo (Zo vL jI ZN) (cF c ZZ #[vL,jI]) ZN,J.un jI ok_neg]) vL ZN]),Zq sL (J.list #[J.tup #[jS,jI,Zo (J.list #[cF c ZZ #[vL,jI],jI]) vL ZN],J.tup #[jS,cF c ZdZ #[vL,vL]]]),Zt (J.list #[J.tup #[jS,jI,Zo (J.list #[vL,jI]) vL ZN],vL,J.tup #[jS,vL,J.list #[J.tup #[jS,cF c ZdZ #[vL,vL],vL]],J.list Zb3]])]
theorem law_program_d: DD w a mg mb 354 33 Ze2:=by
 unfold DD;k_fill
 refine Z4 (names:=["_law_tape","_law_most","_law_program_here","_law_params","_law_count","_law_f","_law_p","_law_many","_law_rings","_law_sizes","_law_body_here","_law_row"]) (g:=ZgK) ?_
 exact λ_ _ _ _ _ _ _ c _ _=>[Zq sL (J.list Zb3),Zq sL (J.list Zb3),Zq sL (cF c ZZ #[vC,vL]),ZbL sL (JI.range (nB c) #[vL]) [Zar (J.append vL (cF c ZlW #[vC,ZcK (nB c) #[vL] Zhk,Zbj vL jI ZbB])),Zar (J.append vL (Zj (Zj vL vL) jI))],Zq sL (Zj (J.list #[jI,jI,jI,jI,jI,jI,jI,jI,jI,jI]) (cF c ZZ #[vC,jI])),Zq sC (Zaa (nB c) #[jI,vL] Zhz),ZL (ZaT (Zaf (Zv vC jI Zcz) (Zaf (Zv (cF c ZZ #[vC,jI]) jI ZQ) Za5))) (Zz (Zq sC (Zo vC jI ZN))) ZP,Zq sL (ZcK (nB c) #[Zbj vC jI Zcz] ZhH),Zq sL (J.tup #[jI,vC,vL]),Zq sL (cF c Zg7 #[vC,vL,J.list #[jI,vL],jI,Zo jI (cF c ZZ #[vC,jI]) ZN]),ZL (Zv vL jI ZbB) [Zq sL (cF c ZZ #[vC,vL]),(by refine sO sL ?_ ?_ ?_;(exact(JI.range (nB c) #[Zj vL vL]));(exact λ_ _=>(cF (Clr.comp c) Zc0 #[vD,vD]));(exact λ_ _=>JF.nil)),Zar (J.append vL (J.tup #[jS,Zo jI (cF c ZZ #[vC,vC]) ZN,vL,vL]))] ZP,Zq sL (Zo vL (cF c Zg7 #[vC,vL,J.list #[jI,jI],jI,cF c ZZ #[vC,jI]]) ZN),ZL (ZaT (Zaf (Zv vL jI ZQ) (Zaf (Zv (cF c ZZ #[vC,jI]) jI ZQ) Za5))) (Zz (Zq sL (Zo (cF c Zi1 #[vC,vC]) (ZbZ vL JP.none (JP.some jI)) ZN))) ZP,ZL (ZaT (Zaf (Zv vL jI ZQ) (Zaf (Zv (cF c ZZ #[vC,jI]) jI ZQ) Za5))) (Zz (Zq sL (Zo (Zjd (cF c Zi1 #[vC,vC]) JP.none (JP.some jI)) (ZbZ vL JP.none (JP.some jI)) ZN))) ZP,Zar (J.append vL (J.tup #[vL,vC,vL])),Zt vL]
theorem Ziy: DD w a mg mb 385 1 Zcb:=by
 unfold DD;k_fill
 refine Z4 (names:=["_law_program_here","_law_f","_law_numbers"]) (g:=ZgV) ?_
 exact λ_ _ _ _ _ _ _ c _ _=>(Zz (Zt (J.list #[vL,jI,Zo vL (Zo (J.list #[jI]) (Zo (Zj (Zj vL vL) jI) (Zaa (nB c) #[vL] Zaz) Zaw) Zcw) ZN])))
theorem Zmn: DD w a mg mb 397 1 Zd6:=by
 unfold DD;k_fill
 refine Z4 (names:=["_law_ways","_law_upper","_law_answer","_law_call"]) (g:=Zg5) ?_
 exact λ_ _ _ _ _ _ _ c _ _=>[Zq sL (Zj (by refine cO ?_ ?_ ?_;(exact(JI.seq (Zj vL (Zj vC jI))));(exact λ_ _=>vO);(exact λ_ _=>JF.one (Zv (Zj vO jI) (Zj vD jI) ZQ))) jI),S1.put vL (Zj vC jI) (Zo (Zj (Zj vL jI) jI) jI Zaw),S1.put (Zj vL jI) vC jI]
theorem Zd5: DD w a mg mb 364 1 ZbX:=by
 unfold DD;k_fill
 refine Z4 (names:=["_law_one","_law_boxes","_law_full"]) (g:=ZgU) ?_
 exact λ_ _ _ _ _ _ _ c _ _=>[Zq sC (Zo (J.list #[jI]) vL ZN),Zt (Zaa (nB c) #[(by refine cO ?_ ?_ ?_;(exact(JI.range (nB c) #[Zaa (nB c) #[vC] Zaz]));(exact λ_ _=>(Zo (Zj vD vO) (Zj vD vO) Zcw));(exact λ_ _=>JF.nil))] ZhS)]
theorem ZiJ: DD w a mg mb 371 2 Zfc:=by
 unfold DD;k_fill
 refine Z4 (names:=["_law_claim_here","_law_boxes","_law_worth_here"]) (g:=ZiA) ?_
 exact λ_ _ _ _ _ _ _ c _ _=>[Zq sL (cF c Zd5 #[Zj vL jI,vL]),ZL (Zv (Zj vL jI) jS ZQ) (Zz (Zt (Zbj vL jI Zcz))) ZP,ZL (Zv (Zj vL jI) jS ZQ) (Zz (Zt (Zbj vL jI ZQ))) ZP,Zt (Zbj (Zo vL (Zj vL jI) ZcM) jI ZQ)]
theorem ZnI: DD w a mg mb 378 3 Zc7:=by
 unfold DD;k_fill
 refine Z4 (names:=["_law_boxes","_law_act","_law_pick","_law_some","_law_number_here"]) (g:=ZbY) ?_
 exact λ_ _ _ _ _ _ _ c _ _=>[Zq sL (ZcK (nB c) #[vL] Zhk),ZL (ZaT (Zaf (Zv (Zj vL jI) jS ZQ) (Zaf (Zv (cF c ZiJ #[Zj vL jI,vL]) (Zj vL jI) ZdI) Za5))) (Zz (Zt jN)) ZP,ZL (Zv (Zj vL jI) jS ZQ) (Zz (S1.put (cF c Zd5 #[Zj vL jI,vL]) vL (Zo (Zj vL jI) jI Zaw))) ZP,ZL (Zv (Zj vL jI) jS ZQ) (Zz (S1.put (Zo (cF c Zd5 #[Zj vL jI,vL]) (Zj vL jI) ZhR) vL (Zo (Zj vL jI) jI Zaw))) ZP,ZL (Zv (Zj vL jI) jS ZQ) (Zz (S1.put (Zo (cF c Zd5 #[Zj vL jI,vL]) (Zj vL jI) ZcM) vL (Zo (Zj vL jI) jI Zaw))) ZP,ZL (Zv (Zj vL jI) jS ZQ) [Zq sL vL,ZL (ZaT (Zaf (Zv (Zj vL jI) jN Zdu) (Zaf (Zv (Zj vL jI) jN Zdu) Za5))) (Zz (Zq sL (Zo (Zj vL jI) (Zo vL (Zo (Zo (Zj vL jI) (Zj vL jI) Zaw) jI ZN) ZcM) ZN))) (Zz (ZL (Zv (Zj vL jI) jN Zdu) (Zz (Zq sL (Zo (Zj vL jI) (Zaa (nB c) #[vL] ZfH) ZN))) (Zz (ZL (Zv (Zj vL jI) jN Zdu) (Zz (Zq sL (Zo (Zj vL jI) (Zaa (nB c) #[vL] ZfH) Zaw))) ZP)))),S1.put vL vL (Zo (Zj vL jI) jI Zaw)] ZP,Zt vL]
theorem Ziu: DD w a mg mb 392 4 ZcJ:=by
 unfold DD;k_fill
 refine Z4 (names:=["_law_frame","_law_out","_law_pick","_law_row","_law_after"]) (g:=ZgQ) ?_
 exact λ_ _ _ _ _ _ _ c _ _=>[ZbL sL (JI.seq vL) [Zq sL (cF c ZnI #[Zj vL jI,Zj vL jI,vL]),ZL (Zv vL jN Zdu) [S1.put (Zj vL jI) vL jI,S1.put vL vL jI,Zt jB] ZP],Zt jB]
theorem ZlM: DD w a mg mb 402 25 Ze3:=by
 unfold DD;k_fill
 refine Z4 (names:=["_law_program_here","_law_ways","_law_start","_law_picks","_law_steps","_law_frames","_law_moments_here","_law_used","_law_frame","_law_out","_law_act"]) (g:=ZgL) ?_
 exact λ_ _ _ _ _ _ _ c _ _=>[Zq sL (J.list #[cF c Ziy #[vL,Zo (Zaa (nB c) #[vL] Zaz) jI Zaw,vL]]),Zq sL (J.list #[cF c Ze1 #[Zj vL jI]]),Zq sL jI,Zi6 1000000 (Zv (Zaa (nB c) #[vL] Zaz) vL Zla) [Zq sC (Zj vL (J.un jI ok_neg)),(by refine sO sL ?_ ?_ ?_;(exact(JI.seq (Zj vL (Zj vC jI))));(exact λ_ _=>vO);(exact λ_ _=>JF.one (Zv (Zj vO jI) (Zj vD jI) ZQ))),ZL (ZaT (Zaf (Zv (Zaa (nB c) #[vL] Zaz) jI ZQ) (Zaf (Zv (Zaa (nB c) #[vL] Zaz) jI ZQ) Za5))) (Zz (Zt vL)) ZP,ZL (Zv (Zaa (nB c) #[vL] Zaz) jI ZQ) [Zar (J.pop vL),Zar (cF c Zmn #[vL,Zj vL (J.un jI ok_neg),Zj (Zj vC jI) (J.un jI ok_neg)])] (Zz (ZL (Zv (Zj (Zj (Zj vL jI) jI) jI) jS ZQ) [Zq sL (Zj (Zj vL jI) jI),Zar (J.append vL (cF c Ziy #[vL,Zj vL jI,(by refine cO ?_ ?_ ?_;(exact(JI.seq (Zj vL jI)));(exact λ_ _=>(cF (Clr.comp c) Zd5 #[vO,Zj vD jI]));(exact λ_ _=>JF.nil))]))] (Zz (ZL (Zv (Zj (Zj (Zj vL jI) jI) jI) jS ZQ) [Zar (cF c Ziu #[vC,vL,Zaa (nB c) #[ZbZ vL (JP.some vL) (JP.some (Zo vL jI ZN))] ZhS]),Zq sL (Zo vL jI ZN)] (Zz (Zar (cF c Ziu #[vC,vL,jI]))))))),Zar (J.append vL (cF c Ze1 #[Zj vL (J.un jI ok_neg)]))],Zt vL]
theorem Ziv: DD w a mg mb 409 26 Zbh:=by
 unfold DD;k_fill
 refine Z4 (names:=["_law_program_here","_law_ways","_law_start","_law_picks","_law_steps","_law_f","_law_spot","_law_claim_here","_law_row","_law_moment"]) (g:=ZgS) ?_
 exact λ_ _ _ _ _ _ _ c _ _=>[Zq sL jN,ZbL sL (JI.seq (Zj vL vL)) (Zz (ZL (ZaT (Zaf (Zv (Zj vL jI) vL ZQ) (Zaf (Zv (Zj (Zj vL jI) jI) jS ZQ) Za5))) (Zz (Zq sL (Zj (Zj vL jI) jI))) ZP)),ZL (Zv vL jN Zey) (Zz (Zt jB)) ZP,ZbL sL (JI.seq (cF c ZlM #[vL,vL,vL,vL,vL])) (Zz (ZL (ZaT (Zaf (Zv (Zj vL jI) vL ZQ) (Zaf (Zv (Zj vL jI) vL ZQ) (Zaf (ZhQ (JT.val (cF c ZiJ #[vL,Zj vL jI]))) Za5)))) (Zz (Zt jB)) ZP)),Zt jB]
end
end L
end
section
open PySem PySem.W PySem.Calls PyProof.Rows PM
open L
seal PySem.wpAny PM.J PM.Js PM.JT PM.JA PM.JF PM.JI PM.JI2 PM.JP PM.S1 PM.Ss PM.Sto PM.Rd PM.Nm PM.OpN PM.Op2 PM.Def
local macro_rules | `(#[$a])=>`(jc $a Zb3)
local macro_rules | `(#[$a,$b,$as,*])=>`(jc $a #[$b,$as,*])
local macro_rules | `(#[$a,$b])=>`(jc $a #[$b])
local macro_rules | `([$a,$b])=>if a.raw.isOfKind `str || a.raw.isIdent then Lean.Macro.throwUnsupported else `(Zdw $a (Zz $b))
local macro_rules | `([$a,$b,$c,$as,*])=>if a.raw.isOfKind `str || a.raw.isIdent then Lean.Macro.throwUnsupported else `(Zdw $a [$b,$c,$as,*])
local macro_rules | `([$a,$b,$c])=>if a.raw.isOfKind `str || a.raw.isIdent then Lean.Macro.throwUnsupported else `(Zdw $a [$b,$c])
theorem PySem.Challenge.cw_seer_k78_breaking_holds : PySem.Challenge.rw_seer_k78_breaking.Holds :=
 head (by
  w_strict (k_go0;(rename Well _ _ _ _=>w9);(rename Frag.In _ _=>kx9);(rename Top _ _ _ _ _ _=>t9);(rename Fr _ _ _ _=>f9);(rename News _ _ _ _=>n9);(rename CellsAre _ _ _=>x9);(rename (PyData.layable0 _=true)=>hl9);(obtain⟨H9,e9⟩:=L.ZlS .o hl9);(refine' PM.ZnQ (names:=["_law_script","_law_tape","_law_program_here","_law_start","_law_picks","_law_steps","_law_ways","_law_spots","_law_first","_law_f","_law_last","_law_handed","_law_one","_law_came","_law_due"]) (g:=Zhu) (room:=59) ?hb ?h1 ?h2 ?h3 ?h4 kx9 t9 w9 ?len f9 n9 x9 e9 ?post);(case h1=>decide);(case h2=>decide);(case h3=>rfl);(case h4=>rfl);(case len=>(rw[PM.ZC];omega));(case hb=>(intro dp un gd L a ccd outer h₀ hu clr hd1 hu1;exact [Zq sC (J.list #[ZbZ vL JP.none (JP.some jI),jI]),Zq sL (cF clr law_said_d #[vC,cF clr law_program_d #[vC,jI]]),(by refine sO sL ?_ ?_ ?_;(exact(JI.range (nB clr) #[Zj (Zj vL (J.un jI ok_neg)) jI]));(exact λ_ _=>(cF (Clr.comp clr) ZeS #[vD]));(exact λ_ _=>JF.nil)),(by refine sO sL ?_ ?_ ?_;(exact(JI.range (nB clr) #[cF clr ZZ #[vC,jI]]));(exact λ_ _=>(cF (Clr.comp clr) ZeS #[vD]));(exact λ_ _=>JF.nil)),Zq sL (Zj (J.list #[cF clr ZZ #[vC,jI],cF clr ZZ #[vC,jI]]) (ZcK (nB clr) #[Zbj (cF clr ZZ #[vC,jI]) jI ZQ] ZhH)),(by refine sO sL ?_ ?_ ?_;(exact(JI.seq vL));(exact λ_ _=>(cF (Clr.comp clr) Zhg #[cF (Clr.comp clr) Ze1 #[Zj vO jI]]));(exact λ_ _=>JF.nil)),Zq sL (cF clr ZlA #[vL]),Zq sL (cF clr ZZ #[vC,Zaa (nB clr) #[vL] Zaz]),Zq sL (cF clr ZZ #[vC,Zaa (nB clr) #[vL] Zaz]),Zq sL (Zaa (nB clr) #[Zo (J.list #[jI]) (by refine cO ?_ ?_ ?_;(exact(JI.seq (Zj vL vL)));(exact λ_ _=>(Zj vO jI));(exact λ_ _=>JF.nil)) ZN] Zom),Zq sL (cF clr Ze1 #[J.list #[vL,vL,vL]]),ZbL sL (JI.seq (Zo (Zjd (Zo (ZbZ vL (JP.some vL) JP.none) (ZbZ vL JP.none (JP.some vL)) ZN) JP.none (JP.some jI)) (J.list #[J.tup #[vL,cF clr ZZ #[vC,Zo vL jI ZN]]]) ZN)) [Zq sL (cF clr ZjJ #[Zj vL jI,Zj vL jI,Zj vL jI,vL,Zj vL jI,Zj vL jI]),Zq sL (cF clr Ziv #[vL,vL,vL,vL,vL,Zj vL jI,Zj vL jI]),ZL (ZaT (Zc4 (ZhQ (JT.val (Zec (nB clr) (nB clr) (.inr (.inl rfl)) vL))) (Zc4 (Zv vL vL ZdI) (Zc4 (Zv vL (J.list #[vL,vL,vL]) ZdI) Zhh)))) (Zz (Zt jB)) ZP],Zar (ZpN (Zj vL jI) jI jI),Zq sL (Zj vL vL),Zq sL (cF clr ZjJ #[Zj vL jI,Zj vL jI,Zj vL jI,vL,Zj vL jI,Zj vL jI]),Zt (Zbj vL (cF clr Ziv #[vL,vL,vL,Zo (J.list #[jI]) vL ZN,vL,Zj vL jI,Zj vL jI]) ZQ)]));(case post=>(intro h' tk' m' F';k_steps)))
  )
end
