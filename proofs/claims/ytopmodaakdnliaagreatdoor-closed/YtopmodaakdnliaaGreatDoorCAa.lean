import Derived.Test.YtopmodaakdnliaaGreatDoorCPf
import Derived.Test.YtopmodaakdnliaaGreatDoorCWj
import Derived.Test.YtopmodaakdnliaaGreatDoorCTo
set_option linter.all false
set_option maxRecDepth 100000
set_option maxHeartbeats 2000000
namespace Go.Proofs.YtopmodaakdnliaaGreatDoor
open Un renaming sub->ja,seen->jc
open Or renaming inr->jd,inl->jf
open Pu renaming aV->jh,cT->ji,bG->jj,gI->jk,Bv->jl,at_->jm,Tok->jo,oN->jq,gN->jt,jD->ju
open Go.Lib renaming byteCells->jv
open Go.World renaming setCell->jx,cell?->jy,frozen?->jz
open Go.RowKit.Below renaming heap_setCell->j3
open _root_.Nat renaming lt_of_lt_of_le->j5,le_trans->j6,zero_le->j7
open _root_.List renaming getD_eq_getElem?_getD->j8,mem_cons->j9,length->qd
open Go.Value renaming ownBlock->qe
open Un.Ty renaming var->qf
open Go Go.RowKit Proofs.Tryz
variable {C:Array Value} {c last s:BA} {A:List Ms.Sk} {L:List Nd} {l m:List UInt8} {xs:List Value} {p:Ms.Sk} {B N b base f i k kb mb n nb pb:Nat} {ρ:Nat->Nat} {K:Nat->Option Un.Ty} {D P Λ Λ':Nat->Prop} {R θ dt σ:Nat->Un.Ty} {x y:Nd} {pl:Prop} {α β κ:Type} {e:TypeId} {T a t:Un.Ty} {bv hv iv mv v:Value} {w w':World}
section
open Un
namespace In
structure Ri where
 of:Ty
 any:List Nat
structure St where
 k:Nat->Ty
 u:Nat->Prop
structure Ft where
 f:Fl
 l:Ty
 r:Ty
abbrev Env:=BA->Option Ri
abbrev Mks:=BA->Option (List Ty×Ty)
abbrev Rn:=Nat->Option Nat
abbrev MM(α:Type):=St->Except Ft (α×St)->Prop
def eQ(a:α):MM α:=λs o=>o=.ok (a,s)
def andM(m:MM α)(g:α->MM β):MM β:=λs o=>(∃x,m s (.error x)/\o=.error x)\/∃a s',m s (.ok (a,s'))/\g a s' o
def noM:MM α:=λ_ _=>False
def qK:MM Nat:=λs o=>∃v,¬s.u v/\o=.ok (v,⟨s.k,λn=>s.u n\/n=v⟩)
structure BT θ a b:Prop where
 one:sub θ a=sub θ b
 gen:∀σ,sub σ a=sub σ b->∀v,sub σ (θ v)=σ v
 out:∀v,¬aG v a->¬aG v b->θ v=.var v
 rng:∀v n,aG v a\/aG v b->aG n (θ v)->aG n a\/aG n b
def tK(f t:Nat):Ft:=⟨⟨7,f,t⟩,.var 0,.var 0⟩
def UN(a b:Ty)(f t:Nat):MM Unit:=λs o=>
 ((48<size (sub s.k a)\/48<size (sub s.k b))/\o=.error (tK f t))\/
 (size (sub s.k a)<=48/\size (sub s.k b)<=48/\((∃θ,BT θ (sub s.k a) (sub s.k b)/\o=.ok ((),⟨λv=>sub θ<|s.k v,s.u⟩))\/((∀σ,sub σ (sub s.k a)≠sub σ (sub s.k b))/\o=.error ⟨⟨6,f,t⟩,sub s.k a,sub s.k b⟩)))
structure DL(l:List Nat)(ρ du:Rn)(u u':Nat->Prop):Prop where
 gB:∀v n,ρ v=some n->du v=some n
 out:∀v,v∉l->du v=ρ v
 all:∀v,v∈l->du v≠none
 new:∀v n,ρ v=none->du v=some n->¬u n
 one:∀v v' n,ρ v=none->du v=some n->du v'=some n->v=v'
 use:∀n,u' n↔u n\/∃v,ρ v=none/\du v=some n
def zP(l:List Nat)(ρ:Rn):MM Rn:=λs o=>∃du u',DL l ρ du s.u u'/\o=.ok (du,⟨s.k,u'⟩)
def My:Rn:=λ_=>none
def via(ρ:Rn):Nat->Ty:=λv=>match ρ v with
 |some n=>.var n|none=>.var v
def dN(Γ:Env)x c:=λy=>if y=x then some c else Γ y
def aes(Γ:Env)x:=λy=>if y=x then none else Γ y
def over(g Γ:Env):Env:=λy=>match g y with
 |some c=>some c|none=>Γ y
abbrev mono(t:Ty):Ri:=⟨t,[]⟩
def vZ(Γ:Env)k v:=∃y c,Γ y=some c/\aG v (sub k c.of)/\v∉c.any
open Classical in
noncomputable def SG (Γ:Env) (k:Nat->Ty) (T:Ty):List Nat:=(vars [] T).filter λv=>decide (¬vZ Γ k v)
noncomputable def v_ (Γ:Env) (k:Nat->Ty) (t:Ty) (v:Bool):Ri:=⟨sub k t,if v then SG Γ k (sub k t)else[]⟩
abbrev n_:Ty:=.aM lA []
abbrev kJ:Ty:=.aM kC []
abbrev CV:Ty:=.aM pS []
abbrev tFn(a b:Ty):Ty:=.aM pH [a,b]
abbrev tPr(a b:Ty):Ty:=.aM o6 [a,b]
def arr(tk:List Ty)m:=tk.foldr tFn m
def pG:Nd->Nat|.mk _ _ _ _ f _ _=>f
def Mk:Nd->Nat|.mk _ _ _ _ _ t _=>t
def Qk:Nd->Nat|.mk k _ _ _ _ _ _=>k
def MQ:Nd->Bool
 |.mk k _ _ _ _ _ _=>k==9
def Ca(Γ:Env)(x:BA)(f t:Nat):MM Ty:=match Γ x with
 |none=>noM|some c=>λs o=>(48<size (sub s.k c.of)/\o=.error (tK f t))\/(size (sub s.k c.of)<=48/\∃ρ s',zP c.any My s (.ok (ρ,s'))/\o=.ok (sub (via ρ)<|sub s.k c.of,s'))
def nV t ρ:=andM (zP (vars [] t) ρ) λdu=>eQ (sub (via du) t,du)
abbrev PM:=Env->MM (Ty×Env)
abbrev EM:=Env->MM Ty
def p8:List Ty->List Nd->List PM->Env->Rn->MM (Env×Rn)
 |u::tk,x::L,p::ps,g,ρ=>andM (p g) λq=>andM (nV u ρ) λi=>andM (UN q.1 i.1 (pG x)<|Mk x) λ_=>p8 tk L ps q.2 i.2|_,_,_,g,ρ=>eQ (g,ρ)
def rf{α:Type}(ps:List (Env->MM α))i:=ps.getD i λ_=>noM
def xP(mk:Mks)k s L ps g:=
 if k=15 then andM qK λv=>eQ (.var v,g)
 else if k=1 then andM qK λv=>eQ (.var v,dN g s<|mono<|.var v)
 else if k=3 then eQ (n_,g)
 else if k=4 then eQ (kJ,g)
 else if k=5 then eQ (CV,g)
 else if k=6 then andM (rf ps 0 g) λa=>andM (rf ps 1 a.2) λb=>eQ (tPr a.1 b.1,b.2)
 else match mk s with
  |none=>noM|some (tk,m)=>andM (p8 tk L ps g My) λq=>andM (nV m q.2) λi=>eQ (i.1,q.1)
mutual
def b_(mk:Mks):Nd->PM
 |.mk k s _ L _ _ _=>xP mk k s L<|l_ mk L
def l_(mk:Mks):List Nd->List PM
 |[]=>[]|x::l=>b_ mk x::l_ mk l
end
def m_(mk:Mks)(Γ:Env)(t r:Ty):List Nd->List EM->MM Unit
 |p::e::L,_::pe::ps=>andM (b_ mk p λ_=>none) λq=>andM (UN t q.1 (pG p)<|Mk p) λ_=>andM (pe<|over q.2 Γ) λu=>andM (UN r u (pG e)<|Mk e) λ_=>m_ mk Γ t r L ps|_,_=>eQ ()
def boundM(rc:Bool)x e(pe:EM)Γ:=
 if rc then andM qK λv=>andM (pe<|dN Γ x<|mono<|.var v) λt=>andM (UN (.var v) t (pG e)<|Mk e) λ_=>eQ t
 else pe Γ
def zG(mk:Mks)(k:Nat)(s:BA)(L:List Nd)(f t:Nat)(ps:List EM)(Γ:Env):MM Ty:=
 if k=1 then Ca Γ s f t
 else if k=3 then eQ n_
 else if k=9 then andM qK λv=>andM (rf ps 0<|dN Γ s<|mono<|.var v) λa=>eQ<|tFn (.var v) a
 else if k=13 then andM (rf ps 0 Γ) λa=>andM qK λv=>andM (m_ mk Γ a (.var v) L.tail ps.tail) λ_=>eQ<|.var v
 else noM
mutual
noncomputable def inf (mk:Mks):Nd->EM
 |.mk k s _ L f t _=>zG mk k s L f t<|sZ mk L
noncomputable def sZ (mk:Mks):List Nd->List EM
 |[]=>[]|x::l=>inf mk x::sZ mk l
end
def Zy ns(m:Nd):=match m with|.mk _ _ _ L _ _ _=>(bC ns<|Hz L).1
def Yd:Nd->BA|.mk _ s _ _ _ _ _=>s
def Zi(t:jo)(vs:List jo):Ty:=.aM t.text<|(List.range vs.length).map λi=>.var<|i+1
def lq(t:jo)(vs:List jo):List Nd->Mks->Mks
 |[],mk=>mk|m::r,mk=>lq t vs r λy=>if y=Yd m then some (Zy (vs.map (·.text)) m,Zi t vs)else mk y
def tY t:=sub (λ_=>CV) t
end In
namespace In
mutual
def bI{n:Nat}{σ:Nat->Ty}:∀t,aG n (sub σ t)↔∃m,aG m t/\aG n (σ m)
 |.var m=>by simp[sub,aG]|.aM c l=>by simp[sub,aG,L8 l]
def L8{n:Nat}{σ:Nat->Ty}:∀l,ck n (ba σ l)↔∃m,ck m l/\aG n (σ m)
 |[]=>by simp[ba,ck]|t::l=>by
  simp only[ba,ck,bI t,L8 l];constructor
  .rintro(⟨m,a,b⟩|⟨m,a,b⟩)
   .exact⟨m,jf a,b⟩
   .exact⟨m,jd a,b⟩
  .rintro⟨m,a|a,b⟩
   .exact jf ⟨m,a,b⟩
   .exact jd ⟨m,a,b⟩
end
def rJ(h:∀n,aG n t->σ n=.var n):sub σ t=t:=(sub_congr t h).trans<|df t
def ai6(h:sub σ t=t)(hn:aG n t):σ n=.var n:=RL t (h.trans (df t).symm) n hn
def BT.idem{b:Ty}(h:BT θ a b)v:sub θ (θ v)=θ v:=h.gen θ h.one v
def BT.fix{b:Ty}(h:BT θ a b){v}(hn:aG n (θ v)):θ n=.var n:=ai6 (h.idem v) hn
structure Ok(s:St):Prop where
 out:∀v,¬s.u v->s.k v=.var v
 use:∀v n,s.u v->aG n (s.k v)->s.u n
 idem:∀v n,aG n (s.k v)->s.k n=.var n
def Ok.IK{s:St}(h:Ok s)(ht:∀n,aG n t->s.u n)(hn:aG n (sub s.k t)):s.u n/\s.k n=.var n:=by
 have⟨m,h1,h2⟩:=(bI t).1 hn;exact⟨h.use m n (ht m h1) h2,h.idem m n h2⟩
def Ok.yR{s:St}(h:Ok s)t:sub s.k (sub s.k t)=sub s.k t:=by
 refine rJ λn hn=>?_;have⟨m,_,h2⟩:=(bI t).1 hn;exact h.idem m n h2
structure WS(Λ:Nat->Prop)(s s':St):Prop where
 mono:∀n,s.u n->s'.u n
 step:∃θ:Nat->Ty,(∀v,s'.k v=sub θ (s.k v))/\(∀v,¬Λ v->θ v=.var v)/\∀v n,Λ v->aG n (θ v)->Λ n
def WS.refl Λ s:WS Λ s s:=⟨λ_ h=>h,qf,λ_=>(df _).symm,λ_ _=>rfl,λv n h k=>by simp[aG]at k;subst k;exact h⟩
def WS.trans{s s1 s2:St}(h:WS Λ s s1)(k:WS Λ s1 s2):WS Λ s s2:=by
 obtain⟨h1,θ,a1,a2,a3⟩:=h;obtain⟨k1,τ,b1,b2,b3⟩:=k;refine⟨λn q=>k1 n<|h1 n q,λv=>sub τ<|θ v,λv=>by rw[b1,a1,sub_sub],λv hv=>by show sub τ (θ v)=_;rw[a2 v hv,sub,b2 v hv],λv n hv hn=>?_⟩;have⟨m,c1,c2⟩:=(bI _).1 hn;exact b3 m n (a3 v m hv c1) c2
structure kx(Λ:Nat->Prop)(s:St)t:Prop where
 use:∀n,aG n t->s.u n
 loc:∀n,aG n (sub s.k t)->Λ n
def Uv{s s':St}(h:∀v,s'.k v=sub θ (s.k v))t:sub s'.k t=sub θ (sub s.k t):=by grind[sub,sub_sub,sub_congr]
def kx.run{s s':St}(h:kx Λ s t)(r:WS Λ s s'):kx Λ s' t:=by
 have⟨θ,a1,a2,a3⟩:=r.step;refine⟨λn hn=>r.mono n<|h.use n hn,λn hn=>?_⟩;rw[Uv a1]at hn;have⟨m,c1,c2⟩:=(bI _).1 hn;exact a3 m n (h.loc m c1) c2
structure s_(Λ:Nat->Prop)(s:St)(c:Ri):Prop where
 use:∀n,aG n c.of->s.u n
 loc:∀n,aG n (sub s.k c.of)->n∈c.any\/Λ n
 fix:∀v,v∈c.any->s.k v=.var v/\¬Λ v
 sub:∀v,v∈c.any->aG v c.of
def s_.run{s s':St}{c:Ri}(h:s_ Λ s c)(r:WS Λ s s'):s_ Λ s' c:=by
 have⟨θ,a1,a2,a3⟩:=r.step;refine⟨λn hn=>r.mono n<|h.use n hn,λn hn=>?_,λv hv=>?_,h.sub⟩
 .rw[Uv a1]at hn;have⟨m,c1,c2⟩:=(bI _).1 hn;obtain q|q:=h.loc m c1
  .rw[a2 m (h.fix m q).2]at c2;simp[aG]at c2;subst c2;exact jf q
  .grind
 .have⟨q1,q2⟩:=h.fix v hv;exact⟨by rw[a1,q1,ja,a2 v q2],q2⟩
def dF Λ s(Γ:Env):=∀y c,Γ y=some c->s_ Λ s c
def dF.run{Λ}{s s'}{Γ}(h:dF Λ s Γ)(r:WS Λ s s'):dF Λ s' Γ:=λy c q=>(h y c q).run r
def kx.mono{s:St}(h:kx Λ s t):s_ Λ s (mono t):=⟨h.use,λn hn=>jd<|h.loc n hn,λv hv=>(by simp at hv),λv hv=>(by simp at hv)⟩
def dF.set{s:St}{Γ}(h:dF Λ s Γ)x{c:Ri}(hc:s_ Λ s c):dF Λ s (dN Γ x c):=λy d q=>by
 rw[dN]at q;split at q
 .grind
 .exact h y d q
theorem dF.over{Λ}{s}{g Γ}(hg:dF Λ s g)(h:dF Λ s Γ):dF Λ s (over g Γ):=by grind[dF,over]
def dF.none Λ s:dF Λ s (λ_=>none):=by grind[dF]
def dq{α:Type}(m:MM α)s(Q:α->St->Prop):=∀a s',m s (.ok (a,s'))->Q a s'
section
variable {s:St}
def dq.ret{a}{Q:α->St->Prop}(h:Q a s):dq (eQ a) s Q:=by grind[dq,eQ]
def dq.and{m}{g}{Q:α->St->Prop}{R:β->St->Prop}(h:dq m s Q)(k:∀a s',Q a s'->dq (g a) s' R):dq (andM m g) s R:=by grind[dq,andM]
def dq.no{Q:α->St->Prop}:dq noM s Q:=λ_ _ q=>q.elim
def dq.imp{m}{Q R:α->St->Prop}(h:dq m s Q)(k:∀a s',Q a s'->R a s'):dq m s R:=by grind[dq]
structure Kp(Λ:Nat->Prop)s s':Prop where
 ok:Ok s'
 new:∀n,¬s'.u n->Λ n
 run:WS Λ s s'
def Kp.refl(h:Ok s)(hn:∀n,¬s.u n->Λ n):Kp Λ s s:=⟨h,hn,WS.refl _ _⟩
def Kp.trans{s1 s2}(h:Kp Λ s s1)(k:Kp Λ s1 s2):Kp Λ s s2:=⟨k.ok,k.new,h.run.trans k.run⟩
def mD(h:Ok s)(hn:∀n,¬s.u n->Λ n):dq qK s λv s'=>Kp Λ s s'/\kx Λ s' (.var v)/\s'.k=s.k:=λv s' q=>by
 obtain⟨w,hw,q⟩:=q;injection q with q;injection q with q1 q2;subst q1;subst q2;have hk:=h.out v hw;refine⟨⟨⟨λn q=>h.out n λq'=>q<|jf q',λm n q1 q2=>?_,h.idem⟩,λn q=>hn n λq'=>q<|jf q',⟨λn q=>jf q,qf,λ_=>(df _).symm,λ_ _=>rfl,λm n h k=>by simp[aG]at k;subst k;exact h⟩⟩,⟨λn q=>?_,λn q=>?_⟩,rfl⟩
 .obtain q1|rfl:=q1
  .exact jf (h.use m n q1 q2)
  .rw[hk]at q2;simp[aG]at q2;exact jd q2.symm
 .simp[aG]at q;exact jd q.symm
 .simp only[ja,hk]at q;simp[aG]at q;subst q;exact hn _ hw
def qE(h:Ok s)(hn:∀n,¬s.u n->Λ n){b:Ty}(ha:kx Λ s a)(hb:kx Λ s b)f t:dq (UN a b f t) s λ_ s'=>Kp Λ s s'/\sub s'.k a=sub s'.k b:=λv s' q=>by
 obtain⟨_,q⟩|⟨_,_,⟨θ,hθ,q⟩|⟨_,q⟩⟩:=q
 .cases q
 .injection q with q;injection q with q1 q2;subst q2;have hu:∀n,aG n (sub s.k a)\/aG n (sub s.k b)->s.u n/\s.k n=.var n/\Λ n:=λn q=>by
   obtain q|q:=q
   .exact⟨(h.IK ha.use q).1,(h.IK ha.use q).2,ha.loc n q⟩
   .exact⟨(h.IK hb.use q).1,(h.IK hb.use q).2,hb.loc n q⟩
  have hr:∀v n,aG n (θ v)->n=v\/(aG n (sub s.k a)\/aG n (sub s.k b)):=λv n q=>by
   by_cases e:aG v (sub s.k a)\/aG v (sub s.k b)
   .exact jd (hθ.rng v n e q)
   .rw[hθ.out v (λq=>e<|jf q)<|λq=>e<|jd q]at q;simp[aG]at q;exact jf q.symm
  refine⟨⟨⟨λv q=>?_,λv n q1 q2=>?_,λv n q=>?_⟩,hn,⟨λn q=>q,θ,λ_=>rfl,λv q=>?_,λv n q1 q2=>?_⟩⟩,?_⟩
  .show sub θ (s.k v)=_;rw[h.out v q,ja];exact hθ.out v (λq'=>q (hu v<|jf q').1)<|λq'=>q (hu v<|jd q').1
  .have⟨m,c1,c2⟩:=(bI _).1 q2;obtain rfl|e:=hr m n c2
   .exact h.use v n q1 c1
   .exact(hu n e).1
  .have⟨m,c1,c2⟩:=(bI _).1 q;have:s.k n=.var n:=by
    obtain rfl|e:=hr m n c2
    .exact h.idem v n c1
    .exact(hu n e).2.1
   show sub θ (s.k n)=_;rw[this,ja];exact hθ.fix c2
  .exact hθ.out v (λq'=>q (hu v<|jf q').2.2) (λq'=>q (hu v<|jd q').2.2)
  .grind
  .have e:∀x,sub (λv=>sub θ<|s.k v) x=sub θ (sub s.k x):=λx=>(sub_sub _ _ x).symm;show sub (λv=>sub θ<|s.k v) a=sub (λv=>sub θ<|s.k v) b;rw[e,e];exact hθ.one
 .cases q
def L9(h:Ok s)(hn:∀n,¬s.u n->Λ n)l ρ:dq (zP l ρ) s λdu s'=>Kp Λ s s'/\DL l ρ du s.u s'.u/\s'.k=s.k:=λdu s' q=>by
 obtain⟨lH,u',hd,q⟩:=q;injection q with q;injection q with q1 q2;subst q1;subst q2;refine⟨⟨⟨λn q=>h.out n λq'=>q<|(hd.use n).2<|jf q',λm n q1 q2=>(hd.use n).2 ?_,h.idem⟩,λn q=>hn n λq'=>q<|(hd.use n).2<|jf q',⟨λn q=>(hd.use n).2<|jf q,qf,λ_=>(df _).symm,λ_ _=>rfl,λm n h k=>by simp[aG]at k;subst k;exact h⟩⟩,hd,rfl⟩;obtain q1|⟨v,e1,e2⟩:=(hd.use m).1 q1
 .exact jf (h.use m n q1 q2)
 .have:s.k m=.var m:=h.out m<|hd.new v m e1 e2;have q2:=q2;rw[this]at q2;simp[aG]at q2;subst q2;exact jd ⟨v,e1,e2⟩
end
structure nQ(Λ:Nat->Prop)(s:St)(ρ:Rn):Prop where
 use:∀v n,ρ v=some n->s.u n
 loc:∀v n m,ρ v=some n->aG m (s.k n)->Λ m
def nQ.run{s s':St}{ρ:Rn}(h:nQ Λ s ρ)(r:WS Λ s s'):nQ Λ s' ρ:=by
 have⟨θ,a1,a2,a3⟩:=r.step;refine⟨λv n q=>r.mono n<|h.use v n q,λv n m q1 q2=>?_⟩;rw[a1]at q2;have⟨x,c1,c2⟩:=(bI _).1 q2;exact a3 x m (h.loc v n x q1 c1) c2
def nQ.draw{s s':St}{ρ du:Rn}{l}(h:nQ Λ s ρ)(ho:Ok s)(hn:∀n,¬s.u n->Λ n)(hk:Kp Λ s s')(hd:DL l ρ du s.u s'.u)(e:s'.k=s.k):nQ Λ s' du:=by
 refine⟨λv n q=>?_,λv n m q1 q2=>?_⟩
 .cases e1:ρ v with
  |none=>exact(hd.use n).2 (jd ⟨v,e1,q⟩)|some n'=>have:=hd.gB v n' e1;rw[this]at q;injection q with q;subst q;exact hk.run.mono _<|h.use v _ e1
 .cases e1:ρ v with
  |none=>
   have hu:=hd.new v n e1 q1;rw[e,ho.out n hu]at q2;simp[aG]at q2;subst q2;exact hn n hu
  |some n'=>have:=hd.gB v n' e1;rw[this]at q1;injection q1 with q1;subst q1;rw[e]at q2;exact h.loc v _ m e1 q2
def nQ.zero Λ s:nQ Λ s My:=⟨λv n q=> eh,λv n m q=> eh⟩
def nQ.ty{s:St}{ρ:Rn}(h:nQ Λ s ρ)(ht:∀v,aG v t->ρ v≠none):kx Λ s (sub (via ρ) t):=by
 refine⟨λn hn=>?_,λn hn=>?_⟩
 .have⟨m,c1,c2⟩:=(bI _).1 hn
  cases e:ρ m with
  |none=>grind|some x=>simp[via,e,aG]at c2;subst c2;exact h.use m _ e
 .rw[sub_sub]at hn;have⟨m,c1,c2⟩:=(bI _).1 hn
  cases e:ρ m with
  |none=>grind|some x=>simp only[via,e,ja]at c2;exact h.loc m x n e c2
end In
namespace In
def bM:n∈vars [] t↔aG n t:=by simp[cE]
section
variable {s:St}
def AH(h:Ok s)(hn:∀n,¬s.u n->Λ n){ρ}(Jf:nQ Λ s ρ)t:dq (nV t ρ) s λq s'=>Kp Λ s s'/\kx Λ s' q.1/\nQ Λ s' q.2:=by
 refine(L9 h hn _ _).and λdu s1⟨k1,d1,e1⟩=>?_;have hr:=Jf.draw h hn k1 d1 e1;exact .ret ⟨k1,hr.ty<|λv hv=>d1.all v<|bM.2 hv,hr⟩
def tE:kx Λ s (.aM c []):=⟨λn q=>(by simp[aG,ck]at q),λn q=>(by simp[ja,ba,aG,ck]at q)⟩
def L_{b}(ha:kx Λ s a)(hb:kx Λ s b):kx Λ s (.aM c [a,b]):=by
 refine⟨λn q=>?_,λn q=>?_⟩
 .simp[aG,ck]at q;exact q.elim (ha.use n)<|hb.use n
 .simp[ja,ba,aG,ck]at q;exact q.elim (ha.loc n)<|hb.loc n
def afz(h:Ok s)(hn:∀n,¬s.u n->Λ n){Γ:Env}(xR:dF Λ s Γ)x f t:dq (Ca Γ x f t) s λq s'=>Kp Λ s s'/\kx Λ s' q:=by
 unfold Ca
 cases e:Γ x with
 |none=>exact .no|some c=>
  intro a s' q;obtain⟨_,q⟩|⟨_,ρ,s1,q1,q2⟩:=q
  .cases q
  .have⟨k1,d1,e1⟩:=L9 h hn _ _ _ _ q1;injection q2 with q2;injection q2 with q2 q3;subst q2;subst q3;have hc:=xR x c e;have qB:∀v,v∉c.any->ρ v=none:=λv hv=>d1.out v hv;refine⟨k1,λn H8=>?_,λn H8=>?_⟩
   .have⟨m,c1,c2⟩:=(bI _).1 H8;by_cases hm:m∈c.any
    .cases e2:ρ m with
     |none=>exact absurd e2 (d1.all m hm)|some y=>simp[via,e2,aG]at c2;subst c2;exact(d1.use _).2 (jd ⟨m,rfl,e2⟩)
    .simp[via,qB m hm,aG]at c2;subst c2;exact k1.run.mono _ (h.IK hc.use c1).1
   .rw[sub_sub,e1]at H8;have⟨m,c1,c2⟩:=(bI _).1 H8;by_cases hm:m∈c.any
    .cases e2:ρ m with
     |none=>exact absurd e2 (d1.all m hm)|some y=>
      have hu:=d1.new m y rfl e2;simp only[via,e2,ja,h.out y hu]at c2;simp[aG]at c2;subst c2;exact hn _ hu
    .simp only[via,qB m hm,ja,(h.IK hc.use c1).2]at c2;simp[aG]at c2;subst c2;exact(hc.loc m c1).resolve_left hm
end
def Bj(p:PM):=∀(g:Env)(s:St)(Λ:Nat->Prop),Ok s->(∀n,¬s.u n->Λ n)->dF Λ s g->dq (p g) s λq s'=>Kp Λ s s'/\kx Λ s' q.1/\dF Λ s' q.2
def tF(p:EM):=∀(Γ:Env)(s:St)(Λ:Nat->Prop),Ok s->(∀n,¬s.u n->Λ n)->dF Λ s Γ->dq (p Γ) s λt s'=>Kp Λ s s'/\kx Λ s' t
def FL{p:Prop}(h:p:=by
 unfold rf;by_cases hi:i<ps.length
 .rw[j8,List.getElem?_eq_getElem hi];exact h _<|List.getElem_mem hi
 .rw[j8,List.getElem?_eq_none ae];intro _ _ _ _ _ _;exact .no):p:=h
def agB{ps}(h:∀p∈ps,Bj p)i:Bj (rf ps i):=by
 exact FL
def alU{ps}(h:∀p∈ps,tF p)i:tF (rf ps i):=by
 exact FL
def Mb:∀(tk:List Ty)(L:List Nd)(ps:List PM),(∀p∈ps,Bj p)->∀(g:Env)(ρ:Rn)(s:St)(Λ:Nat->Prop),Ok s->(∀n,¬s.u n->Λ n)->dF Λ s g->nQ Λ s ρ->dq (p8 tk L ps g ρ) s λq s'=>Kp Λ s s'/\dF Λ s' q.1/\nQ Λ s' q.2
 |u::tk,x::L,p::ps,hp,g,ρ,s,Λ,h,hn,hg,Jf=>by
  unfold p8;refine(hp p ah g s Λ h hn hg).and λq s1⟨k1,t1,g1⟩=>?_;refine(AH k1.ok k1.new (Jf.run k1.run) u).and λi s2⟨k2,t2,r2⟩=>?_;refine(qE k2.ok k2.new (t1.run k2.run) t2 _ _).and λ_ s3⟨k3,_⟩=>?_;refine(Mb tk L ps (λp h=>hp p<|by simp[h]) q.2 i.2 s3 Λ k3.ok k3.new ((g1.run k2.run).run k3.run)<|r2.run k3.run).imp λ_ s4⟨k4,r4⟩=>?_;exact⟨((k1.trans k2).trans k3).trans k4,r4⟩
 |[],_,_,_,g,ρ,s,Λ,h,hn,hg,Jf=>.ret ⟨.refl h hn,hg,Jf⟩|_::_,[],_,_,g,ρ,s,Λ,h,hn,hg,Jf=>.ret ⟨.refl h hn,hg,Jf⟩|_::_,_::_,[],_,g,ρ,s,Λ,h,hn,hg,Jf=>.ret ⟨.refl h hn,hg,Jf⟩
def Xs mk k x L ps(hp:∀p∈ps,Bj p):Bj (xP mk k x L ps):=by
 intro g s Λ h hn hg;unfold xP;split
 .exact(mD h hn).and λv s1⟨k1,t1,_⟩=>.ret ⟨k1,t1,hg.run k1.run⟩
 split
 .exact(mD h hn).and λv s1⟨k1,t1,_⟩=>.ret ⟨k1,t1,(hg.run k1.run).set _ t1.mono⟩
 split
 .exact .ret ⟨.refl h hn,tE,hg⟩
 split
 .exact .ret ⟨.refl h hn,tE,hg⟩
 split
 .exact .ret ⟨.refl h hn,tE,hg⟩
 split
 .refine(agB hp 0 g s Λ h hn hg).and λa s1⟨k1,t1,g1⟩=>?_;refine(agB hp 1 _ s1 Λ k1.ok k1.new g1).and λb s2⟨k2,t2,g2⟩=>?_;exact .ret ⟨k1.trans k2,L_ (t1.run k2.run) t2,g2⟩
 cases mk x with
 |none=>exact .no|some p=>
  refine(Mb p.1 L ps hp g My s Λ h hn hg<|.zero _ _).and λq s1⟨k1,g1,r1⟩=>?_;refine(AH k1.ok k1.new r1 p.2).and λi s2⟨k2,t2,_⟩=>?_;exact .ret ⟨k1.trans k2,t2,g1.run k2.run⟩
mutual
def uT(mk:Mks):∀nd,Bj<|b_ mk nd
 |.mk k s n L f t a=>Xs mk k s L _<|Bk mk L
def Bk(mk:Mks):∀L,∀p∈l_ mk L,Bj p
 |[],p,h=>by simp[l_]at h|x::l,p,h=>by
  simp only[l_,j9]at h;obtain rfl|h:=h
  .exact uT mk x
  .exact Bk mk l p h
end
def Mc(mk:Mks):∀(L:List Nd)(ps:List EM),(∀p∈ps,tF p)->∀(Γ:Env)(t r:Ty)(s:St)(Λ:Nat->Prop),Ok s->(∀n,¬s.u n->Λ n)->dF Λ s Γ->kx Λ s t->kx Λ s r->dq (m_ mk Γ t r L ps) s λ_ s'=>Kp Λ s s'
 |p::e::L,_::pe::ps,hp,Γ,t,r,s,Λ,h,hn,xR,ht,hr=>by
  unfold m_;refine(uT mk p _ s Λ h hn<|.none _ _).and λq s1⟨k1,t1,g1⟩=>?_;refine(qE k1.ok k1.new (ht.run k1.run) t1 _ _).and λ_ s2⟨k2,_⟩=>?_;have k12:=k1.trans k2;refine(hp pe ah _ s2 Λ k2.ok k2.new<|(g1.run k2.run).over<|xR.run k12.run).and λu s3⟨k3,t3⟩=>?_;have k13:=k12.trans k3;refine(qE k3.ok k3.new (hr.run k13.run) t3 _ _).and λ_ s4⟨k4,_⟩=>?_;have Tn:=k13.trans k4;exact(Mc mk L ps (λp h=>hp p<|by simp[h]) Γ t r s4 Λ k4.ok k4.new (xR.run Tn.run) (ht.run Tn.run)<|hr.run Tn.run).imp λ_ s5 k5=>Tn.trans k5
 |[],_,_,_,_,_,s,Λ,h,hn,_,_,_=>.ret (.refl h hn)|[_],_,_,_,_,_,s,Λ,h,hn,_,_,_=>.ret (.refl h hn)|_::_::_,[],_,_,_,_,s,Λ,h,hn,_,_,_=>.ret (.refl h hn)|_::_::_,[_],_,_,_,_,s,Λ,h,hn,_,_,_=>.ret<|.refl h hn
def oj rc x e{pe:EM}(hp:tF pe):tF (boundM rc x e pe):=by
 intro Γ s Λ h hn xR;unfold boundM;split
 .refine(mD h hn).and λv s1⟨k1,t1,_⟩=>?_;refine(hp _ s1 Λ k1.ok k1.new<|(xR.run k1.run).set _ t1.mono).and λt s2⟨k2,t2⟩=>?_;refine(qE k2.ok k2.new (t1.run k2.run) t2 _ _).and λ_ s3⟨k3,_⟩=>?_;exact .ret ⟨(k1.trans k2).trans k3,t2.run k3.run⟩
 .exact hp Γ s Λ h hn xR
def tG{c:Prop}[Decidable c]{m m'}{s:St}{Q:α->St->Prop}(h:c->dq m s Q)(k:¬c->dq m' s Q):dq (if c then m else m') s Q:=Mn
def Xt mk k x L f t ps(hp:∀p∈ps,tF p):tF (zG mk k x L f t ps):=by
 intro Γ s Λ h hn xR;have h0:=alU hp 0;unfold zG;refine tG (λ_=>?_) λ_=>?_
 .exact afz h hn xR _ _ _
 refine tG (λ_=>?_) λ_=>?_
 .exact .ret ⟨.refl h hn,tE⟩
 refine tG (λ_=>?_) λ_=>?_
 .refine(mD h hn).and λv s1⟨k1,t1,_⟩=>?_;refine(h0 _ s1 Λ k1.ok k1.new<|(xR.run k1.run).set _ t1.mono).and λa s2⟨k2,t2⟩=>?_;exact .ret ⟨k1.trans k2,L_ (t1.run k2.run) t2⟩
 refine tG (λ_=>?_) λ_=>?_
 .refine(h0 Γ s Λ h hn xR).and λa s1⟨k1,t1⟩=>?_;refine(mD k1.ok k1.new).and λv s2⟨k2,t2,_⟩=>?_;have k12:=k1.trans k2;refine(Mc mk L.tail ps.tail (λp h=>hp p<|List.mem_of_mem_tail h) Γ a _ s2 Λ k2.ok k2.new (xR.run k12.run) (t1.run k2.run) t2).and λ_ s3 k3=>?_;exact .ret ⟨k12.trans k3,t2.run k3.run⟩
 .exact .no
mutual
def ol(mk:Mks):∀nd,tF<|inf mk nd
 |.mk k s n L f t a=>Xt mk k s L f t _<|Ea mk L
def Ea(mk:Mks):∀L,∀p∈sZ mk L,tF p
 |[],p,h=>by simp[sZ]at h|x::l,p,h=>by
  simp only[sZ,j9]at h;obtain rfl|h:=h
  .exact ol mk x
  .exact Ea mk l p h
end
end In
namespace In
structure Rel(D:Nat->Prop)(ρ:Nat->Nat)(s s':St):Prop where
 live:∀n,D n->s.u n->s.k n=.var n->s'.u (ρ n)/\s'.k (ρ n)=.var (ρ n)
 inj:∀m n,D m->D n->s.u m->s.k m=.var m->s.u n->s.k n=.var n->ρ m=ρ n->m=n
section
variable {lH ZI:Nat->Nat} {s s' s1 s1' s2 s2':St}
def Kp.fix(k:Kp Λ s s1)(h:s.k n=.var n)(hn:¬Λ n):s1.k n=.var n:=by
 have⟨θ,a1,a2,_⟩:=k.run.step;rw[a1,h,ja,a2 n hn]
end
structure aol(D Λ Λ':Nat->Prop)ρ s s':Prop where
 dom:∀n,Λ n->D n
 ok:Ok s
 new:∀n,¬s.u n->Λ n
 ok':Ok s'
 aom:∀n,¬s'.u n->Λ' n
 rel:Rel D ρ s s'
end In
namespace In
def nxt(rs:Bool)(s:St):St:=⟨if rs then qf else s.k,s.u⟩
def Xu(rs:Bool):List Dc->Mks->Env->St->List (BA×Ty)->Option Ft->Prop
 |[],_,_,_,B,F=>B=[]/\F=none|.ty t vs ms::r,mk,Γ,s0,B,F=>Xu rs r (lq t vs ms mk) Γ s0 B F
 |.lt rc t b::r,mk,Γ,s0,B,F=>∃o,boundM rc t.text b (inf mk b) Γ s0 o/\match o with
  |.error x=>B=[]/\F=some x
  |.ok (a,s)=>(48<size (sub s.k a)/\B=[]/\F=some (tK t.aD t.t9))\/
   (size (sub s.k a)<=48/\∃T B',T=(if MQ b then sub s.k a else tY (sub s.k a))/\B=(t.text,T)::B'/\Xu rs r mk (dN Γ t.text ⟨T,vars [] T⟩) (nxt rs s) B' F)
def Ai u:Ok ⟨qf,u⟩:=⟨λ_ _=>rfl,λv n q1 q2=>by simp[aG]at q2;subst q2;exact q1,λv n q=>by simp[aG]at q;subst q;rfl⟩
def Tm(s:St)(Γ:Env):=∀y c,Γ y=some c->c.any=vars [] c.of/\∀v,v∈c.any->s.u v/\s.k v=.var v
def Tm.fix{s:St}{Γ:Env}(h:Tm s Γ){y}{c}(q:Γ y=some c):sub s.k c.of=c.of:=rJ λn hn=>((h y c q).2 n (by rw[(h y c q).1];exact bM.2 hn)).2
def Tm.env{s:St}{Γ:Env}(h:Tm s Γ):dF (λn=>¬s.u n) s Γ:=λy c q=>by
 have⟨h1,h2⟩:=h y c q;refine⟨λn hn=>(h2 n (by rw[h1];exact bM.2 hn)).1,λn hn=>jf ?_,λv hv=>⟨(h2 v hv).2,λq=>q (h2 v hv).1⟩,λv hv=>by rw[h1]at hv;exact bM.1 hv⟩;rw[h1];rw[h.fix q]at hn;exact bM.2 hn
end In
namespace In
theorem bH{s:St}{m}{g}{o:Except Ft (β×St)}{Q:α->St->Prop}(h:andM m g s o)(hm:∀o,m s o->∃a s',o=.ok (a,s')/\Q a s'):∃a s',Q a s'/\g a s' o:=by
 obtain⟨x,h1,_⟩|⟨a,s1,h1,ho⟩:=h
 .grind
 .grind
structure Way(s:St)(θ:Nat->Ty):Prop where
 k:∀v,sub θ (s.k v)=θ v
 no:∀v,¬s.u v->s.k v=.var v
 wf:∀v w,s.u v->aG w (s.k v)->s.u w
theorem Way.sub{s:St}(h:Way s θ)(T:Ty):ja θ (ja s.k T)=ja θ T:=by rw[sub_sub];exact sub_congr T λv _=>h.k v
structure nC(s s':St)(θ dt:Nat->Ty):Prop where
 u:∀v,s.u v->s'.u v
 k:∀v,s.u v->dt v=θ v
def nC.refl(s:St)(θ:Nat->Ty):nC s s θ θ:=⟨λ_ q=>q,λ_ _=>rfl⟩
def nC.trans{a b c:St}{θ η ζ:Nat->Ty}(h:nC a b θ η)(g:nC b c η ζ):nC a c θ ζ:=⟨λv q=>g.u v<|h.u v q,λv q=>(g.k v<|h.u v q).trans<|h.k v q⟩
abbrev Ib(s:St)(T:Ty):Prop:=∀v,aG v T->s.u v
def nC.us{s s':St}(h:nC s s' θ dt)(q:Ib s T):Ib s' T:=λv o=>h.u v<|q v o
theorem nC.sub{s s':St}(h:nC s s' θ dt)(q:Ib s T):ja dt T=ja θ T:=sub_congr T λv o=>h.k v<|q v o
def P_{s:St}(h:Way s θ){b:Ty}{t:Nat}(ua:Ib s a)(ub:Ib s b)(e:ja θ a=ja θ b)(hz:size (ja θ a)<=48){o:Except Ft (Unit×St)}(ho:UN a b f t s o):∃s',o=.ok ((),s')/\Way s' θ/\nC s s' θ θ:=by
 have za:=lN θ<|ja s.k a;have zb:=lN θ<|ja s.k b;rw[h.sub]at za zb;rw[<-e]at zb;have used:∀w,aG w (ja s.k a)\/aG w (ja s.k b)->s.u w:=λw q=>by
  obtain q|q:=q
  .have⟨x,o1,o2⟩:=(bI _).1 q;exact h.wf x w (ua x o1) o2
  .have⟨x,o1,o2⟩:=(bI _).1 q;exact h.wf x w (ub x o1) o2
 have eu:ja θ (ja s.k a)=ja θ (ja s.k b):=by rw[h.sub,h.sub,e]
 obtain⟨q,_⟩|⟨_,_,⟨η,m,rfl⟩|⟨q,_⟩⟩:=ho
 .omega
 .refine⟨_,rfl,⟨λv=>?_,λv q=>?_,λv w q o=>?_⟩,⟨λ_ q=>q,λ_ _=>rfl⟩⟩
  .show ja θ (ja η<|s.k v)=θ v;rw[sub_sub,sub_congr (τ:=θ) _ λx _=>m.gen θ eu x,h.k]
  .show ja η (s.k v)=.var v;rw[h.no v q];exact m.out v (λz=>q<|used v<|.inl z) λz=>q<|used v<|.inr z
  .have o:aG w (ja η<|s.k v):=o;have⟨x,o1,o2⟩:=(bI _).1 o;by_cases z:aG x (ja s.k a)\/aG x (ja s.k b)
   .exact used w (m.rng x w z o2)
   .rw[m.out x (λq=>z<|.inl q) λq=>z<|.inr q]at o2;have o2:x=w:=o2;subst o2;exact h.wf v x q o1
 .exact absurd eu (q θ)
def Bl{s:St}(h:Way s θ)(N:Nat->Prop)(hN:∀n,N n->¬s.u n){u':Nat->Prop}(hu:∀n,u' n↔s.u n\/N n)(T:Ty):∃dt,Way ⟨s.k,u'⟩ dt/\nC s ⟨s.k,u'⟩ θ dt/\∀n,N n->dt n=T:=by
 classical
 refine⟨λn=>if N n then T else θ n,⟨λv=>?_,λv q=>h.no v λz=>q<|(hu v).2<|.inl z,λv w q o=>?_⟩,⟨λv q=>(hu v).2<|.inl q,λv q=>if_neg λz=>hN v z q⟩,λn q=>if_pos q⟩
 .show ja _ (s.k v)=_;by_cases q:s.u v
  .rw[sub_congr (τ:=θ) _ λw o=>if_neg λz=>hN w z<|h.wf v w q o,h.k,if_neg λz=>hN v z q]
  .rw[h.no v q];rfl
 .obtain q|q:=(hu v).1 q
  .exact(hu w).2 (.inl<|h.wf v w q o)
  .have o:aG w (s.k v):=o;rw[h.no v<|hN v q]at o;have o:v=w:=o;subst o;exact(hu v).2 (.inr q)
def G_{s:St}(h:Way s θ)(T:Ty){o:Except Ft (Nat×St)}(ho:qK s o):∃v s' dt,o=.ok (v,s')/\Way s' dt/\nC s s' θ dt/\s'.u v/\dt v=T:=by
 obtain⟨v,hv,rfl⟩:=ho;have⟨dt,h1,h2,h3⟩:=Bl h (λn=>n=v) (λn q=>by rw[q];exact hv) (u':=λn=>s.u n\/n=v) (λn=>Iff.rfl) T;exact⟨v,_,dt,rfl,h1,h2,.inr rfl,h3 v rfl⟩
def Bm{s:St}(h:Way s θ){ρ:Rn}(Jf:∀n,ρ 1=some n->s.u n/\θ n=T)(ht:∀v,aG v t->v=1){o:Except Ft ((Ty×Rn)×St)}(ho:nV t ρ s o):∃i du s' dt,o=.ok ((i,du),s')/\Way s' dt/\nC s s' θ dt/\Ib s' i/\ja dt i=ja (λ_=>T) t/\∀n,du 1=some n->s'.u n/\dt n=T:=by
 obtain⟨du,s1,⟨u',hd,rfl⟩,ho⟩:=bH (Q:=λdu s1=>∃u',DL (vars [] t) ρ du s.u u'/\s1=⟨s.k,u'⟩) ho λo ho=>by
  obtain⟨du,u',hd,rfl⟩:=ho;exact⟨_,_,rfl,u',hd,rfl⟩
 have ho:o=.ok ((ja (via du) t,du),⟨s.k,u'⟩):=ho;have⟨dt,w1,w2,w3⟩:=Bl h (λn=>∃v,ρ v=none/\du v=some n) (λn⟨v,q1,q2⟩=>hd.new v n q1 q2) hd.use T;have key:∀n,du 1=some n->u' n/\dt n=T:=λn q=>by
  cases e:ρ 1 with
  |none=>exact⟨(hd.use n).2<|.inr ⟨1,e,q⟩,w3 n ⟨1,e,q⟩⟩|some n'=>
   have:=hd.gB 1 n' e;rw[q]at this
   cases this
   have⟨q1,q2⟩:=Jf n e;exact⟨w2.u n q1,(w2.k n q1).trans q2⟩
 have hv:∀v,aG v t->∃n,via du v=.var n/\u' n/\dt n=T:=λv o=>by
  have⟨n,hn⟩:=Option.ne_none_iff_exists'.1<|hd.all v<|bM.2 o;obtain rfl:=ht v o;exact⟨n,by simp[via,hn],key n hn⟩
 refine⟨_,du,_,dt,ho,w1,w2,λw o=>?_,?_,key⟩
 .have⟨v,o1,o2⟩:=(bI _).1 o;have⟨n,e,q,_⟩:=hv v o1;rw[e]at o2;have o2:n=w:=o2;exact o2▸q
 .rw[sub_sub];refine sub_congr t λv o=>?_;have⟨n,e,_,q⟩:=hv v o;rw[e];exact q
abbrev tLs(T:Ty):Ty:=.aM ⟨#[76]⟩ [T]
abbrev tSs:Ty:=.aM ⟨#[83]⟩ []
def H_:Ms.So->Ty
 |.i=>n_|.b=>kJ|.l=>tLs kJ|.p=>tPr (tLs kJ) kJ|.s=>tSs
def Qa(t:Ms.So):size (H_ t)<=5:=by cases t<;>simp[H_,size,ak]
inductive Pt:Nd->Ms.Sk->Ms.So->Prop where
 |any(s:BA)(n f t a:Nat)(u:Ms.So):Pt (.mk 15 s n [] f t a) .any u
 |num(s:BA)(n f t a:Nat):Pt (.mk 3 s n [] f t a) (.hd .i n []) .i
 |Hv(c:Bool)(n f t a:Nat):Pt (.mk 4 (if c then⟨#[116,114,117,101]⟩else⟨#[102,97,108,115,101]⟩) n [] f t a) (.hd .b (if c then 1 else 0) []) .b
 |nil(n f t a:Nat):Pt (.mk 2 ⟨#[78]⟩ n [] f t a) (.hd .l 0 []) .l
 |aM{x y:Nd}{p q:Ms.Sk}(n f t a:Nat):Pt x p .b->Pt y q .l->Pt (.mk 2 ⟨#[67]⟩ n [x,y] f t a) (.hd .l 1 [p,q]) .l
 |pr{x y:Nd}{p q:Ms.Sk}(s:BA)(n f t a:Nat):Pt x p .l->Pt y q .b->Pt (.mk 6 s n [x,y] f t a) (.hd .p 0 [p,q]) .p
 |p(n f t a:Nat):Pt (.mk 2 ⟨#[80]⟩ n [] f t a) (.hd .s 0 []) .s
 |q{x y:Nd}{p q:Ms.Sk}(n f t a:Nat):Pt x p .i->Pt y q .b->Pt (.mk 2 ⟨#[81]⟩ n [x,y] f t a) (.hd .s 1 [p,q]) .s
def Pt.of{t:Ms.So}(h:Pt x p t):p.of t:=by
 induction h with
 |any=>trivial|num=>exact⟨rfl,λ_ h=> Dq,trivial⟩|Hv c=>exact⟨rfl,λ_ h=>(by cases h;cases c<;>decide),trivial⟩|nil=>exact⟨rfl,λ_ h=>(by cases h;decide),trivial⟩|aM _ _ _ _ _ _ h1 h2=>exact⟨rfl,λ_ h=>(by cases h;decide),h1,h2,trivial⟩|pr _ _ _ _ _ _ _ h1 h2=>exact⟨rfl,λ_ h=>(by cases h;decide),h1,h2,trivial⟩|p=>exact⟨rfl,λ_ h=>(by cases h;decide),trivial⟩|q _ _ _ _ _ _ h1 h2=>exact⟨rfl,λ_ h=>(by cases h;decide),h1,h2,trivial⟩
structure ac0(mk:Mks):Prop where
 n:mk ⟨#[78]⟩=some ([],tLs<|.var 1)
 c:mk ⟨#[67]⟩=some ([.var 1,tLs<|.var 1],tLs<|.var 1)
 p:mk ⟨#[80]⟩=some ([],tSs)
 q:mk ⟨#[81]⟩=some ([n_,kJ],tSs)
def Xv(mk:Mks)(x:Nd)(T:Ty):=∀g s θ o,Way s θ->b_ mk x g s o->∃a s' dt,o=.ok ((a,g),s')/\Way s' dt/\nC s s' θ dt/\Ib s' a/\ja dt a=T
def Ux{mk:Mks}{m:Ty}(hm:mk s=some ([],m))(hv:∀v,aG v m->v=1)(n f t a:Nat):Xv mk (.mk 2 s n [] f t a) (ja (λ_=>T) m):=λg σ θ o h ho=>by
 have ho:andM (nV m My) (λi=>eQ (i.1,g)) σ o:=by
  have ho:andM (p8 [] [] [] g My) (λq=>andM (nV m q.2) λi=>eQ (i.1,q.1)) σ o:=by simpa[b_,l_,xP,hm]using ho
  have⟨q,s1,⟨e1,e2⟩,ho⟩:=bH (Q:=λq s1=>q=(g,My)/\s1=σ) ho λo ho=>⟨_,_,ho,rfl,rfl⟩;rw[e1,e2]at ho;exact ho
 have⟨i,s2,⟨dt,w1,w2,w3,w4⟩,ho⟩:=bH (Q:=λi s2=>∃dt,Way s2 dt/\nC σ s2 θ dt/\Ib s2 i.1/\ja dt i.1=ja (λ_=>T) m) ho λo ho=>by
  obtain⟨i,du,s',dt,rfl,w1,w2,w3,w4,_⟩:=Bm (T:=T) (ρ:=My) h (λn q=> eh) hv ho;exact⟨_,_,rfl,dt,w1,w2,w3,w4⟩
 exact⟨_,_,dt,ho,w1,w2,w3,w4⟩
def Uy{mk:Mks}{u1 u2 m:Ty}(hm:mk s=some ([u1,u2],m))(hv:∀v,aG v m\/aG v u1\/aG v u2->v=1)(hx:Xv mk x (ja (λ_=>T) u1))(hy:Xv mk y (ja (λ_=>T) u2))(z1:size (ja (λ_=>T) u1)<=48)(z2:size (ja (λ_=>T) u2)<=48)(n f t a:Nat):Xv mk (.mk 2 s n [x,y] f t a) (ja (λ_=>T) m):=λg σ θ o h ho=>by
 have step:∀{x u ρ σ θ},Xv mk x (ja (λ_=>T) u)->(∀v,aG v u->v=1)->size (ja (λ_=>T) u)<=48->Way σ θ->(∀n,ρ 1=some n->σ.u n/\θ n=T)->∀{β:Type}{k:Ty×Env->Ty×Rn->MM β}{o},andM (b_ mk x g) (λq=>andM (nV u ρ) λi=>andM (UN q.1 i.1 (pG x)<|Mk x) λ_=>k q i) σ o->∃q i s' dt,q.2=g/\Way s' dt/\nC σ s' θ dt/\(∀n,i.2 1=some n->s'.u n/\dt n=T)/\k q i s' o:=by
  intro x u ρ σ θ hx hv hz h Jf β k o ho;have⟨q,s1,⟨nh,e1,a1,a2,a3,a4⟩,ho⟩:=bH (Q:=λq s1=>∃nh,q.2=g/\Way s1 nh/\nC σ s1 θ nh/\Ib s1 q.1/\ja nh q.1=ja (λ_=>T) u) ho λo ho=>by
   obtain⟨a,s',dt,rfl,h1,h2,h3,h4⟩:=hx g σ θ o h ho;exact⟨_,_,rfl,dt,rfl,h1,h2,h3,h4⟩
  have⟨i,s2,⟨vB,b1,b2,b3,b4,b5⟩,ho⟩:=bH (Q:=λi s2=>∃vB,Way s2 vB/\nC s1 s2 nh vB/\Ib s2 i.1/\ja vB i.1=ja (λ_=>T) u/\∀n,i.2 1=some n->s2.u n/\vB n=T) ho λo ho=>by
   obtain⟨i,du,s',dt,rfl,w⟩:=Bm (T:=T) a1 (λn q=>⟨a2.u n (Jf n q).1,(a2.k n (Jf n q).1).trans (Jf n q).2⟩) hv ho;exact⟨_,_,rfl,dt,w⟩
  have⟨_,s3,⟨c1,c2⟩,ho⟩:=bH (Q:=λ_ s3=>Way s3 vB/\nC s2 s3 vB vB) ho λo ho=>by
   have e:=b2.sub a3;obtain⟨s',rfl,w⟩:=P_ b1 (b2.us a3) b3 (by rw[e,a4,b4]) (by rw[e,a4];exact hz) ho;exact⟨_,_,rfl,w⟩
  exact⟨q,i,s3,vB,e1,c1,(a2.trans b2).trans c2,λn q=>⟨c2.u n (b5 n q).1,(b5 n q).2⟩,ho⟩
 have ho:andM (p8 [u1,u2] [x,y] [b_ mk x,b_ mk y] g My) (λq=>andM (nV m q.2) λi=>eQ (i.1,q.1)) σ o:=by simpa[b_,l_,xP,hm]using ho
 have⟨q,s1,⟨nh,e1,a1,a2,a3⟩,ho⟩:=bH (Q:=λq s1=>∃nh,q.1=g/\Way s1 nh/\nC σ s1 θ nh/\∀n,q.2 1=some n->s1.u n/\nh n=T) ho λo ho=>by
  simp only[p8]at ho;have⟨q,i,s1,nh,e1,b1,b2,b3,ho⟩:=step hx (λv o=>hv v<|.inr<|.inl o) z1 h (λn q=> eh) ho;rw[e1]at ho;have⟨q',i',s2,vB,e2,c1,c2,c3,ho⟩:=step hy (λv o=>hv v<|.inr<|.inr o) z2 b1 b3 ho;exact⟨_,_,ho,vB,e2,c1,b2.trans c2,c3⟩
 have⟨i,s2,⟨dt,w1,w2,w3,w4⟩,ho⟩:=bH (Q:=λi s2=>∃dt,Way s2 dt/\nC s1 s2 nh dt/\Ib s2 i.1/\ja dt i.1=ja (λ_=>T) m) ho λo ho=>by
  obtain⟨i,du,s',dt,rfl,w1,w2,w3,w4,_⟩:=Bm (T:=T) a1 a3 (λv o=>hv v<|.inl o) ho;exact⟨_,_,rfl,dt,w1,w2,w3,w4⟩
 exact⟨_,_,dt,by rw[<-e1];exact ho,w1,a2.trans w2,w3,w4⟩
def FQ{p:Prop}(h:p:=by
 intro g σ θ o h ho;simp[b_,xP,eQ]at ho
 exact⟨_,_,θ,ho,h,nC.refl _ _,λw o=>o.elim,rfl⟩):p:=h
def ai7{mk:Mks}(hm:ac0 mk){t:Ms.So}(h:Pt x p t):Xv mk x (H_ t):=by
 induction h with
 |any s n f t a u=>
  intro g σ θ o h ho;simp only[b_,xP,if_true]at ho;have⟨v,s1,⟨dt,w1,w2,w3,w4⟩,ho⟩:=bH (Q:=λv s1=>∃dt,Way s1 dt/\nC σ s1 θ dt/\s1.u v/\dt v=H_ u) ho λo ho=>by
   obtain⟨v,s',dt,rfl,w⟩:=G_ h (H_ u) ho;exact⟨_,_,rfl,dt,w⟩
  exact⟨_,_,dt,ho,w1,w2,λw o=>(show v=w from o)▸w3,w4⟩
 |num s n f t a=>
  exact FQ
 |Hv c n f t a=>
  exact FQ
 |nil n f t a=>exact Ux (T:=kJ) hm.n (λv o=>by simp[aG,ck]at o;exact o.symm) n f t a|aM n f t a _ _ h1 h2=>exact Uy (T:=kJ) hm.c (λv o=>by simp[aG,ck]at o;exact o.symm) h1 h2 (by simp[ja,size,ak]) (by simp[ja,ba,size,ak]) n f t a|pr s n f t a _ _ h1 h2=>
  intro g σ θ o h ho;rename_i x y _ _ _ _;have ho:andM (b_ mk x g) (λa=>andM (b_ mk y a.2) λb=>eQ (tPr a.1 b.1,b.2)) σ o:=by simpa[b_,l_,xP,rf]using ho
  have⟨q,s1,⟨nh,e1,a1,a2,a3,a4⟩,ho⟩:=bH (Q:=λq s1=>∃nh,q.2=g/\Way s1 nh/\nC σ s1 θ nh/\Ib s1 q.1/\ja nh q.1=H_ .l) ho λo ho=>by
   obtain⟨a,s',dt,rfl,w⟩:=h1 g σ θ o h ho;exact⟨_,_,rfl,dt,rfl,w⟩
  have⟨q',s2,⟨vB,e2,b1,b2,b3,b4⟩,ho⟩:=bH (Q:=λq' s2=>∃vB,q'.2=g/\Way s2 vB/\nC s1 s2 nh vB/\Ib s2 q'.1/\ja vB q'.1=H_ .b) ho λo ho=>by
   rw[e1]at ho;obtain⟨a,s',dt,rfl,w⟩:=h2 g s1 nh o a1 ho;exact⟨_,_,rfl,dt,rfl,w⟩
  refine⟨_,_,vB,by rw[<-e2];exact ho,b1,a2.trans b2,λw o=>?_,?_⟩
  .simp only[aG,ck,or_false]at o;exact o.elim (λo=>b2.u w<|a3 w o)<|b3 w
  .show Ty.aM o6 [ja vB q.1,ja vB q'.1]=_;rw[b4,b2.sub a3,a4];rfl
 |p n f t a=>exact Ux (T:=kJ) hm.p (λv o=>by simp[aG,ck]at o) n f t a|q n f t a _ _ h1 h2=>exact Uy (T:=kJ) hm.q (λv o=>by simp[aG,ck]at o) h1 h2 (by simp[ja,ba,size,ak]) (by simp[ja,ba,size,ak]) n f t a
end In
namespace In
inductive PtA(t:Ms.So):List Nd->List Ms.Sk->Prop where
 |nil:PtA t [] []
 |cons{x:Nd}{p:Ms.Sk}{L:List Nd}{A:List Ms.Sk}(s:BA)(n f e a:Nat):Pt x p t->PtA t L A->PtA t (x::.mk 3 s n [] f e a::L) (p::A)
def ac1{mk:Mks}(hm:ac0 mk){Γ:Env}{t:Ms.So}{r:Ty}(h:PtA t L A):∀{s θ o},Way s θ->Ib s a->ja θ a=H_ t->Ib s r->ja θ r=n_->m_ mk Γ a r L (sZ mk L) s o->∃s' dt,o=.ok ((),s')/\Way s' dt/\nC s s' θ dt:=by
 induction h with
 |nil=>intro s θ o h _ _ _ _ ho;exact⟨s,θ,ho,h,nC.refl _ _⟩| @cons x p L A sn n f e a' hp hA ih=>
   intro s θ o h ua ea ur er ho;simp only[m_,sZ]at ho;have hz:=Qa t;have⟨q,s1,⟨nh,e1,b1,b2,b3,b4⟩,ho⟩:=bH (Q:=λq s1=>∃nh,q.2=(λ_=>none)/\Way s1 nh/\nC s s1 θ nh/\Ib s1 q.1/\ja nh q.1=H_ t) ho λo ho=>by
    obtain⟨a,s',dt,rfl,w⟩:=ai7 hm hp _ s θ o h ho;exact⟨_,_,rfl,dt,rfl,w⟩
   have⟨_,s2,⟨c1,c2⟩,ho⟩:=bH (Q:=λ_ s2=>Way s2 nh/\nC s1 s2 nh nh) ho λo ho=>by
    have ea':=(b2.sub ua).trans ea;obtain⟨s',rfl,w⟩:=P_ b1 (b2.us ua) b3 (by rw[ea',b4]) (by rw[ea'];omega) ho;exact⟨_,_,rfl,w⟩
   have l2:=b2.trans c2;have⟨u,s3,⟨e2,e3⟩,ho⟩:=bH (Q:=λu s3=>u=n_/\s3=s2) ho λo ho=>by
    have ho:o=.ok (n_,s2):=by simpa[inf,zG,eQ]using ho
    exact⟨_,_,ho,rfl,rfl⟩
   rw[e2,e3]at ho;have⟨_,s4,⟨d1,d2⟩,ho⟩:=bH (Q:=λ_ s4=>Way s4 nh/\nC s2 s4 nh nh) ho λo ho=>by
    have er':=(l2.sub ur).trans er;obtain⟨s',rfl,w⟩:=P_ (b:=n_) c1 (l2.us ur) (λw o=>(show False from o).elim) (by rw[er'];rfl) (by rw[er'];simp[size,ak]) ho;exact⟨_,_,rfl,w⟩
   have l4:=l2.trans d2;obtain⟨s',dt,rfl,w1,w2⟩:=ih d1 (l4.us ua) ((l4.sub ua).trans ea) (l4.us ur) ((l4.sub ur).trans er) ho;exact⟨s',dt,rfl,w1,l4.trans w2⟩
def afA{mk:Mks}(hm:ac0 mk){Γ:Env}{t:Ms.So}(h:PtA t L A)(x s1:BA)(n n1 n2 f e a f1 e1 a1 f2 e2 a2:Nat){σ:St}(hw:Way σ θ){o:Except Ft (Ty×St)}(ho:inf mk (.mk 9 x n [.mk 13 s1 n1 (.mk 1 x n2 [] f2 e2 a2::L) f1 e1 a1] f e a) Γ σ o):∃T s' dt,o=.ok (T,s')/\Way s' dt/\ja dt T=tFn (H_ t) n_:=by
 have hz:=Qa t;have ho:andM qK (λv=>andM (inf mk (.mk 13 s1 n1 (.mk 1 x n2 [] f2 e2 a2::L) f1 e1 a1)<|dN Γ x<|mono<|.var v) λa=>eQ<|tFn (.var v) a) σ o:=by simpa[inf,sZ,zG,rf]using ho
 have⟨v,s1',⟨nh,b1,b2,b3,b4⟩,ho⟩:=bH (Q:=λv s1=>∃nh,Way s1 nh/\nC σ s1 θ nh/\s1.u v/\nh v=H_ t) ho λo ho=>by
  obtain⟨v,s',dt,rfl,w⟩:=G_ hw (H_ t) ho;exact⟨_,_,rfl,dt,w⟩
 have⟨q,s2,⟨vB,c1,c2,c3,c4⟩,ho⟩:=bH (Q:=λq s2=>∃vB,Way s2 vB/\nC s1' s2 nh vB/\Ib s2 q/\ja vB q=n_) ho λo ho=>by
  have ho:andM (Ca (dN Γ x<|mono<|.var v) x f2 e2) (λa=>andM qK λr=>andM (m_ mk (dN Γ x<|mono<|.var v) a (.var r) L<|sZ mk L) λ_=>eQ<|.var r) s1' o:=by simpa[inf,sZ,zG,rf]using ho
  have⟨a,s3,⟨θ3,d1,d2,d3,d4⟩,ho⟩:=bH (Q:=λa s3=>∃θ3,Way s3 θ3/\nC s1' s3 nh θ3/\Ib s3 a/\ja θ3 a=H_ t) ho λo ho=>by
   have hk:size (s1'.k v)<=48:=by
    have:=lN nh<|s1'.k v;rw[b1.k,b4]at this;omega
   simp only[Ca,dN,if_true]at ho;obtain⟨q,_⟩|⟨_,ρ,s',⟨du,u',hd,e⟩,rfl⟩:=ho
   .exact absurd q (by show ¬48<size (s1'.k v);omega)
   .cases e
    have hr:∀y,ρ y=none:=λy=>hd.out y ah;have⟨θ3,w1,w2,_⟩:=Bl b1 (λn=>∃v,My v=none/\ρ v=some n) (λn⟨v,_,q⟩=>by rw[hr]at q;cases q) hd.use n_;have hv:via ρ=qf:=by funext y;simp[via,hr]
    refine⟨_,_,rfl,θ3,w1,w2,?_,?_⟩
    .rw[hv,df];exact λw o=>w2.u w<|b1.wf v w b3 o
    .rw[hv,df];show ja θ3 (s1'.k v)=_;rw[w2.sub λw o=>b1.wf v w b3 o,b1.k,b4]
  have⟨r,s4,⟨θ4,g1,g2,g3,g4⟩,ho⟩:=bH (Q:=λr s4=>∃θ4,Way s4 θ4/\nC s3 s4 θ3 θ4/\s4.u r/\θ4 r=n_) ho λo ho=>by
   obtain⟨v,s',dt,rfl,w⟩:=G_ d1 n_ ho;exact⟨_,_,rfl,dt,w⟩
  have⟨_,s5,⟨θ5,k1,k2⟩,ho⟩:=bH (Q:=λ_ s5=>∃θ5,Way s5 θ5/\nC s4 s5 θ4 θ5) ho λo ho=>by
   obtain⟨s',dt,rfl,w⟩:=ac1 (r:=.var r) hm h g1 (g2.us d3) ((g2.sub d3).trans d4) (λw o=>(show r=w from o)▸g3) g4 ho;exact⟨_,_,rfl,dt,w⟩
  exact⟨_,_,ho,θ5,k1,(d2.trans g2).trans k2,λw o=>(show r=w from o)▸k2.u r g3,(k2.k r g3).trans g4⟩
 refine⟨_,_,vB,ho,c1,?_⟩;show Ty.aM pH [vB v,ja vB q]=_;rw[c4,c2.k v b3,b4]
def anw(u:Nat->Prop):Way ⟨qf,u⟩ qf:=⟨λ_=>rfl,λ_ _=>rfl,λv w q o=>(show v=w from o)▸q⟩
def Qb{rs:Bool}{mk:Mks}(hm:ac0 mk){t:Ms.So}(h:PtA t L A)(tk:jo)(x s1:BA)(n n1 n2 f e a f1 e1 a1 f2 e2 a2:Nat){u:Nat->Prop}{Γ:Env}{B:List (BA×Ty)}{F:Option Ft}(q:Xu rs [.lt false tk<|.mk 9 x n [.mk 13 s1 n1 (.mk 1 x n2 [] f2 e2 a2::L) f1 e1 a1] f e a] mk Γ ⟨qf,u⟩ B F):F=none:=by
 obtain⟨o,ho,q⟩:=q;obtain⟨T,s',dt,rfl,w1,w2⟩:=afA hm h x s1 n n1 n2 f e a f1 e1 a1 f2 e2 a2 (anw u) (Γ:=Γ) (by simpa[boundM]using ho);have hz:=Qa t;have:=lN dt<|ja s'.k T;rw[w1.sub,w2]at this;simp[size,ak]at this;obtain⟨z,_⟩|⟨_,_,_,_,_,_,hF⟩:=q
 .omega
 .exact hF
end In
def flV(f:Fl):Value:=.agg #[Nv f.kind,Nv f.aD,Nv f.t9]
end
section
open Go.ChangeMaps
def WM{p}(h:(aB s p).kind=7):aB s p=Pu.fB s:=by
 rw[aB]at h⊢;split at h
 .exfalso;revert h;rw[ji];repeat' split
  all_goals simp[jt]
 .rename_i hn;rw[if_neg hn]
def abA(hk:k<(jj s 0).length)(h:(tk (jj s 0) k).kind=7):(aB s (tk (jj s 0) k).t9).kind≠6:=by
 rw[kN s k hk]at h⊢;rw[WM h];show(aB s s.size).kind≠6;rw[aB];rw[if_neg (by rw[ju<|br _];omega)];simp[Pu.fB]
abbrev DI:BA:=⟨#[116,104,101,32,101,110,100]⟩
def Ke.low{rb}{a b c}(k:Ke rb b c)(h:Below B a b)(hB:B<=b.heap.size)(hr:B<=rb):Below B a c:=
 ⟨k.os.trans h.os,k.tape.trans h.tape,k.output.trans h.output,j6 h.size k.size,λi hi=>(k.block i (j5 hi hB) ae).trans<|h.block i hi⟩
def uR(s:BA):∀f i,(jq s f i).length<=f+1
 |0,i=>by simp[jq]|f+1,i=>by
  rw[jq];split
  .split
   .have:=uR s f<|i+1;omega
   .have:=uR s f (ji s i).t9;simp;omega
  .simp
def abB s i:(jj s i).length<=s.size-i+1:=uR s _ _
end
def Has(s:BA)(i:Nat)(l:List UInt8):=∀j(h:j<l.length),i+j<s.size/\jm s (i+j)=l[j].toNat
def Has.left(h:Has s i (l++m)):Has s i l:=λj hj=>by
 have:=h j bi
 rwa[List.getElem_append_left hj]at this
def Has.right(h:Has s i (l++m)):Has s (i+l.length) m:=λj hj=>by
 have:=h (l.length+j) bi;rw[List.getElem_append_right ae]at this;simpa[Nat.add_assoc]using this
def Has.hd{x:UInt8}(h:Has s i (x::m)):i<s.size/\jm s i=x.toNat:=h 0 ah
def Has.tl{x:UInt8}(h:Has s i (x::m)):Has s (i+1) m:=λj hj=>by
 have:=h (j+1) bi;simpa[Nat.add_assoc,Nat.add_comm 1 j]using this
def Has.le(h:Has s i l)(hi:i<=s.size):i+l.length<=s.size:=by
 cases l with
 |nil=>simpa using hi|cons x r=>have:=(h r.length ah).1;simp;omega
def Has.ext(h:Has s i l)(hi:i<=s.size):(s.extract i<|i+l.length).toList=l:=by
 have hle:=h.le hi;rw[ByteArray.toList_eq,ByteArray.data_extract];apply List.ext_getElem
 .have hd:s.data.size=s.size:=rfl;simp;omega
 .intro j h1 h2;have⟨h3,h4⟩:=h j h2;rw[Pu.m9 h3]at h4;have:s[i+j]=l[j]:=UInt8.toNat_inj.1 h4;rw[<-this];simp[ByteArray.getElem_eq_getElem_data]
def Has.end_{s:BA}{p:Nat->Bool}:∀{l:List UInt8}{i:Nat},Has s i l->(∀x∈l,p x.toNat=true)->p (jm s<|i+l.length)=false->Pu.aH s p i=i+l.length
 |[],i,_,_,hn=>by
  simp at hn;by_cases hi:i<s.size
  .simpa using Pu.ox hi hn
  .simpa using ju ae
 |x::r,i,h,hp,hn=>by
   rw[Pu.fO h.hd.1 (by rw[h.hd.2];exact hp x ah),Has.end_ h.tl (λy hy=>hp y<|by simp[hy])<|by simpa[Nat.add_assoc,Nat.add_comm 1]using hn];simp[Nat.add_assoc,Nat.add_comm 1]
def Lx(nb:Bool)(l:List UInt8)(p:List Ky):=∀s i,Has s i l->i<=s.size->(nb=true->jh (jm s<|i+l.length)=false)->∃T,jj s i=T++jj s (i+l.length)/\T.map fC=p
def Lx.OB{b1 b2}{l1 l2}{p1 p2}(h1:Lx b1 l1 p1)(h2:Lx b2 l2 p2)(hb:b1=true->∃x r,l2=x::r/\jh x.toNat=false):Lx b2 (l1++l2) (p1++p2):=by
 intro s i hs hi hn;have hl:=hs.left.le hi
 have⟨T1,e1,k1⟩:=h1 s i hs.left hi (λq=>by
  obtain⟨x,r,rfl,hx⟩:=hb q;rw[hs.right.hd.2]
  exact hx)
 have⟨T2,e2,k2⟩:=h2 s (i+l1.length) hs.right hl (λq=>by have:=hn q;simpa[Nat.add_assoc]using this);refine⟨T1++T2,?_,by simp[k1,k2]⟩;rw[e1,e2];simp[Nat.add_assoc]
def Lx.EK{b}{p:List Ky}(h:Lx b l p):Lx true l p:=λs i hs hi hn=>h s i hs hi<|λ_=>hn rfl
def lP:Lx false [32] []:=by
 intro s i hs hi _;refine⟨[],?_,rfl⟩;rw[Pu.AO hs.hd.1 (by rw[hs.hd.2];rfl)];rfl
def mU(hs:Has s i l)(hi:i<=s.size)(h0:i<s.size)(hb:Pu.cB (jm s i)=false)(ht:ji s i=jt s i k (i+l.length)):∃T,jj s i=T++jj s (i+l.length)/\T.map fC=[(k,l)]:=by
 refine⟨[jt s i k<|i+l.length],?_,?_⟩
 .rw[Pu.Ad h0 hb,ht];rfl
 .simp only[List.map_cons,List.map_nil,fC,jt];rw[hs.ext hi]
def Gt c(hc:c=40\/c=41\/c=44):Lx false [c] [(5,[c])]:=by
 intro s i hs hi _;have⟨h0,h1⟩:=hs.hd;refine mU hs hi h0 ?_ ?_
 .rw[h1];obtain rfl|rfl|rfl:=hc<;>rfl
 .rw[ji];rw[h1];obtain rfl|rfl|rfl:=hc<;>simp[jk,jl,Pu.dB,Pu.wK]
def Ac:Lx false [45,62] [(5,[45,62])]:=by
 intro s i hs hi _;have⟨h0,h1⟩:=hs.hd;have⟨h2,h3⟩:=hs.tl.hd;refine mU hs hi h0 ?_ ?_
 .rw[h1];rfl
 .rw[ji];rw[h1,h3];simp[jk,jl,Pu.dB]
def Dg x r(hx:jl x.toNat=true)(hr:∀y∈r,jh y.toNat=true):Lx true (x::r) [(2,x::r)]:=by
 intro s i hs hi hn;have⟨h0,h1⟩:=hs.hd;have xD:jk x.toNat=false:=by simp[jl]at hx;simp[jk];omega
 have he:=hs.end_ (p:=jh) (λy hy=>by
  obtain rfl|hy:=List.mem_cons.1 hy
  .simp[jh,hx]
  .exact hr y hy) (hn rfl)
 refine mU hs hi h0 ?_ ?_
 .rw[h1];simp[jl]at hx;simp[Pu.cB];omega
 .rw[ji];rw[h1,he];simp[xD,hx]
def aiv x r(hx:jk x.toNat=true)(hr:∀y∈r,jh y.toNat=true)(hw:Pu.fN ⟨(x::r).toArray⟩=false):Lx true (39::x::r) [(3,39::x::r)]:=by
 intro s i hs hi hn;have⟨h0,h1⟩:=hs.hd;have⟨h2,h3⟩:=hs.tl.hd
 have he:=hs.tl.end_ (p:=jh) (λy hy=>by
  obtain rfl|hy:=List.mem_cons.1 hy
  .simp[jh,hx]
  .exact hr y hy) (by have:=hn rfl;simpa[Nat.add_assoc,Nat.add_comm 1]using this)
 have hx2:s.extract (i+1) (i+1+(x::r).length)=⟨(x::r).toArray⟩:=wL (by rw[hs.tl.ext ae,toList_mk]);refine mU hs hi h0 ?_ ?_
 .rw[h1];rfl
 .rw[ji];rw[h1,h3,he,hx2,hw,if_neg aA,if_neg aA,if_pos ⟨aA,hx⟩,if_neg aA];simp[Nat.add_assoc,Nat.add_comm 1]
def ahP l:Has (bs l) 0 l:=by
 intro j hj;have h1:0+j<(bs l).size:=by rw[bS];omega
 refine⟨h1,?_⟩;rw[Pu.m9 h1];simp[bs,ByteArray.getElem_eq_getElem_data]
section
open Un
mutual
def Nd.ind{P:Nd->Prop}(H:∀k s n L f t a,(∀x∈L,P x)->P (.mk k s n L f t a)):∀nd,P nd
 |.mk k s n L f t a=>H k s n L f t a<|Nd.alW H L
def Nd.alW{P:Nd->Prop}(H:∀k s n L f t a,(∀x∈L,P x)->P (.mk k s n L f t a)):∀L:List Nd,∀x∈L,P x
 |[]=>λx hx=>absurd hx ah|y::l=>λx hx=>by
  obtain h|h:=List.mem_cons.1 hx
  .rw[h];exact Nd.ind H y
  .exact Nd.alW H l x h
end
def xV:∀{L:List Nd}{x:Nd},x∈L->nn x<=cV L
 |y::l,x,h=>by
  simp only[cV];obtain rfl|q:=List.mem_cons.1 h
  .omega
  .have:=xV q;omega
def nd3:Dc->Nat
 |.ty _ vs ms=>1+vs.length+cV ms|.lt _ _ b=>1+nn b
def XK(l:List Dc):Nat:=(l.map nd3).sum
def oU d l:XK (d::l)=nd3 d+XK l:=by simp[XK]
def QG:∀{l:List Dc}{d:Dc},d∈l->nd3 d<=XK l
 |x::r,d,h=>by
  rw[oU];obtain rfl|q:=List.mem_cons.1 h
  .omega
  .have:=QG q;omega
def Ej:∀l:List Dc,l.length<=XK l
 |[]=>j7 _|d::r=>by
  rw[oU];have:=Ej r;have:1<=nd3 d:=by cases d<;>simp[nd3]<;>omega
  simp only[de];omega
mutual
def kB:Nd->List BA
 |.mk k s _ L _ _ _=>if k=1 then[s]else fS L
def fS:List Nd->List BA
 |[]=>[]|x::l=>kB x++fS l
end
mutual
def okT(ty F:BA->Option Nat):Nd->Bool
 |.mk k s _ L _ _ _=>(if k=16 then(F<|s.extract 1 s.size).isSome else if k=2 then ty s==some L.length else(k==6||k==17)&&L.length==2)&&MX ty F L
def MX(ty F:BA->Option Nat):List Nd->Bool
 |[]=>true|x::l=>okT ty F x&&MX ty F l
end
def adl:BA->Option Nat:=wX (wX Yo ⟨#[76]⟩ 1) ⟨#[83]⟩ 0
inductive oX(mk:In.Mks)(nl:List BA):Nd->Prop where
 |leaf(k:Nat)(s:BA)(n f t a:Nat)(h:k=15\/k=3\/k=4):oX mk nl (.mk k s n [] f t a)
 |pr(s:BA)(n:Nat)(x y:Nd)(f t a:Nat)(hx:oX mk nl x)(hy:oX mk nl y):oX mk nl (.mk 6 s n [x,y] f t a)
 |up(s:BA)(n:Nat)(L:List Nd)(f t a:Nat)(tk:List Ty)(m:Ty)(h:mk s=some (tk,m))(hl:L.length=tk.length)(hr:∀i(h:i<L.length),oX mk nl L[i]):oX mk nl (.mk 2 s n L f t a)
inductive tQ(mk:In.Mks)(nl:List BA):(BA->Prop)->Nd->Prop where
 |low(dom:BA->Prop)(s:BA)(n f t a:Nat)(h:dom s):tQ mk nl dom (.mk 1 s n [] f t a)
 |num(dom:BA->Prop)(s:BA)(n f t a:Nat):tQ mk nl dom (.mk 3 s n [] f t a)
 |fn(dom:BA->Prop)(s:BA)(n:Nat)(x:Nd)(f t a:Nat)(hs:s∈nl)(hx:tQ mk nl (λv=>dom v\/v=s) x):tQ mk nl dom (.mk 9 s n [x] f t a)
 |mt(dom:BA->Prop)(s:BA)(n:Nat)(x:Nd)(A:List (Nd×Nd))(f t a:Nat)(hx:tQ mk nl dom x)(hp:∀i(h:i<A.length),oX mk nl A[i].1/\(kB A[i].1).Nodup)(he:∀i(h:i<A.length),tQ mk nl (λv=>dom v\/v∈kB A[i].1) A[i].2):tQ mk nl dom (.mk 13 s n (x::bh A) f t a)
structure ScV(mk:In.Mks)(nl:List BA)(rc:Bool)(dom:BA->Prop)(x:Nd):Prop where
 e:tQ mk nl dom x
 k:In.Qk x=9
 r:rc=false
section
variable {mk:In.Mks} {nl:List BA} {dom:BA->Prop} {st:BA} {t a:Nat} {z:Nd} {A:List (Nd×Nd)}
def og:∀{A B:List (Nd×Nd)},bh A=bh B->A=B
 |[],[],_=>rfl|[],_::_,h=>by simp[bh]at h|_::_,[],h=>by simp[bh]at h|p::A,q::B,h=>by
  simp only[bh,List.cons.injEq]at h;rw[og h.2.2,Prod.ext h.1 h.2.1]
def Qm:∀(A:List (Nd×Nd))(i:Nat)(h:i<A.length),nn A[i].1+nn A[i].2<=cV (bh A)
 |p::A,0,_=>by simp[bh,cV]<;>omega|p::A,i+1,h=>by have:=Qm A i xB;simp[bh,cV];omega
def Qn:∀(A:List (Nd×Nd))(j:Nat)(h:j<A.length),A[j].1∈bh A/\A[j].2∈bh A
 |p::r,0,h=>by simp[bh]|p::r,j+1,h=>by have:=Qn r j xB;simp only[bh,j9];exact⟨.inr<|.inr this.1,.inr<|.inr this.2⟩
def Ij:∀A:List (Nd×Nd),A.length<=cV (bh A)
 |[]=>j7 _|p::r=>by have:=Ij r;have:=Ec p.1;simp[bh,cV];omega
def afX(hs:tQ mk nl dom (.mk 13 st n (x::bh A) f t a)):tQ mk nl dom x/\(∀i(h:i<A.length),oX mk nl A[i].1/\(kB A[i].1).Nodup)/\∀i(h:i<A.length),tQ mk nl (λv=>dom v\/v∈kB A[i].1) A[i].2:=by
 generalize hL:x::bh A=L at hs
 cases hs with
 |mt _ _ _ x' A' _ _ _ hx hp he=>
  injection hL with h1 h2;subst h1;obtain rfl:=og h2;exact⟨hx,hp,he⟩
end
def SW(pb:Nat)(lv:Value)(b:Nat):Prop:=b=pb\/lv.ownBlock=some b
def ac4 l n:(jc l n).length<=l.length+1:=by rw[jc];split<;>simp
mutual
def Md:∀(t:Ty)(l:List Nat),(vars l t).length<=l.length+size t
 |.var n,l=>by have:=ac4 l n;simp[vars,size];omega|.aM c L,l=>by have:=Eb L l;simp[vars,size];omega
def Eb:∀(L:List Ty)(l:List Nat),(bt l L).length<=l.length+ak L
 |[],l=>by simp[bt,ak]|t::L,l=>by
   have h1:=Md t l;have h2:=Eb L<|vars l t;simp[bt,ak];omega
end
mutual
def Wf:Ty->Prop
 |.var _=>True|.aM c l=>MD c l.length/\Jz l
def Jz:List Ty->Prop
 |[]=>True|t::l=>Wf t/\Jz l
end
def Eh:∀(l:List Ty),Jz l↔∀t,t∈l->Wf t
 |[]=>by simp[Jz]|a::l=>by simp[Jz,Eh l]
mutual
def Wf.Cf{R:Nat->Ty}:∀t,Wf t->(∀v,aG v t->Wf (R v))->Wf (ja R t)
 |.var n,_,hR=>by simpa[ja]using hR n (by simp[aG])|.aM c l,h,hR=>by simp only[ja,Wf,dW];exact⟨h.1,Jz.Cf l h.2<|λv hv=>hR v<|by simpa[aG]using hv⟩
def Jz.Cf{R:Nat->Ty}:∀l,Jz l->(∀v,ck v l->Wf (R v))->Jz (ba R l)
 |[],_,_=>by simp[ba,Jz]|t::l,h,hR=>⟨Wf.Cf t h.1<|λv hv=>hR v<|jf hv,Jz.Cf l h.2<|λv hv=>hR v<|jd hv⟩
end
end
section
open Go.ChangeMaps Un
structure PN(w:World)B pb bv l last mv:Prop where
 bk:∃ad,w.heap[pb]? =some (.cells #[ad,bv,.string last,mv] 174 (0,0))/\(ad=.pointer none\/ad=Pv pb)
 ow:w.ownsRow B 5 1 bv l.length (jv l)
 nl:l=[]->bv=.slice none 0 0
 hb:B<=w.heap.size
def SP pb(bv:Value)b:=b=pb\/bv.ownBlock=some b
def Il(w:World)b:=∀x,w.cell? ⟨b,0,none⟩=some x->∀c,x≠.int .u8 c
def PN.alR(h:PN w B pb bv l last mv){q}(hq:bv.ownBlock=some q):∃c,w.cell? ⟨q,0,none⟩=some (.int .u8 c):=by
 cases l with
 |nil=>rw[h.nl rfl]at hq;simp[qe]at hq|cons x r=>
  have⟨_,h2⟩:=h.ow;obtain⟨h3,_⟩|⟨g,cap,jL,hv,_,hh,_,_,_,ht⟩:=h2
  .grind
  .rw[hv]at hq;simp[qe]at hq;subst hq;refine⟨x.toNat,?_⟩;simp only[jy,hh];have h0:(jL.toList.take<|(x::r).length*1)[0]? =some (.int .u8 x.toNat):=by rw[ht];simp[jv]
   rw[List.getElem?_take_of_lt ah]at h0;simpa using h0
def PN.ne(h:PN w B pb bv l last mv)(hb:Il w b):bv.ownBlock≠some b:=λe=>by
 have⟨c,hc⟩:=h.alR e;exact hb _ hc c rfl
def PN.lt(h:PN w B pb bv l last mv):pb<w.heap.size:=by
 have⟨ad,hb,_⟩:=h.bk;exact(Array.getElem?_eq_some_iff.1 hb).1
def PN.pbN(h:PN w B pb bv l last mv):Il w pb:=λx hx c e=>by
 have⟨ad,hb,ha⟩:=h.bk;simp[jy,hb]at hx;subst hx;obtain rfl|rfl:=ha<;>cases e
def PN.same(h:PN w B pb bv l last mv)(hs:w.heap.size<=w'.heap.size)(hb:∀b,b<w.heap.size->SP pb bv b->w'.heap[b]? =w.heap[b]?):PN w' B pb bv l last mv:=by
 have⟨ad,h1,h2⟩:=h.bk;refine⟨⟨ad,(hb pb h.lt<|jf rfl).trans h1,h2⟩,?_,h.nl,j6 h.hb hs⟩;have⟨g1,g2⟩:=h.ow;refine⟨g1,?_⟩;obtain g2|⟨g,cap,jL,hv,hg,hh,r⟩:=g2
 .exact jf g2
 .refine jd ⟨g,cap,jL,hv,hg,?_,r⟩;rw[hb g (Array.getElem?_eq_some_iff.1 hh).1<|jd (by rw[hv];rfl),hh]
def PN.af(h:PN w B pb bv l last mv)(hb:Bq w w'):PN w' B pb bv l last mv:=h.same hb.size λb z _=>hb.block b z
def Il.same(h:Il w b)(hb:w'.heap[b]? =w.heap[b]?):Il w' b:=λx hx=>h x (by rw[<-World.cell?_of_block (a:=⟨b,0,none⟩) (w:=w) hb];exact hx)
def dz{w:World}{t}{fz}(h:w.heap[b]? =some (.cells C t fz))j v:(w.setCell ⟨b,j,none⟩ v).heap[b]? =some (.cells (C.setIfInBounds j v) t fz):=by
 have aZ:=(Array.getElem?_eq_some_iff.1 h).1;simp[jx,Array.getElem?_modify,h]
def One.cell w b j v:One b w (w.setCell ⟨b,j,none⟩ v):=⟨rfl,rfl,rfl,yG,λk hk=>j3 _ _ _ _ hk⟩
def G7{w}{c}{size}(h:w.ownsRow base e size v n xs)(o:One c w w')(cJ:v.ownBlock≠some c):w'.ownsRow base e size v n xs:=by
 obtain⟨g1,g2⟩:=h;refine⟨g1,?_⟩;obtain g2|⟨g,cap,jL,hv,hg,hh,r⟩:=g2
 .exact jf g2
 .refine jd ⟨g,cap,jL,hv,hg,?_,r⟩;rw[o.block g<|λe=>cJ (by rw[hv,<-e];rfl),hh]
def D_{W w2:World}{pb}{o}{row}(hg:W.grownBy w2 row)(hb:W.heap[pb]? =some o)(hn:row≠some pb):w2.heap[pb]? =some o:=(hg.block pb (Array.getElem?_eq_some_iff.1 hb).1<|λe=>hn e.symm).trans hb
def Be{w:World}{size}(h:w.ownsRow base e size v n xs):∃ao n' cap,v=.slice ao n' cap:=by
 obtain⟨hv,_⟩|⟨g,cap,jL,hv,_⟩:=h.2
 .grind
 .grind
def LX:(Tryz.prog.info? 171).map (λi=>i.size)=some 2:=qkr
def afx:liesAt Tryz.prog Tryz.prog.depth 174 (4/Tryz.prog.cellsOf 174) 0 171 1=true:=qkr
def alS p w:(callFunc 232 #[p]).run Tryz.prog w=.ok (.value p) w:=qkr
def LY:(Tryz.prog.info? 5).map (λi=>(i.zero,i.size,i.bytes))=some (some<|.int .u8 0,1,1):=qkr
def wV:Tryz.prog.underlying 169=some (.slice 5):=qkr
def wW ad(had:ad=.pointer none\/ad=Pv pb)x1 x2 x3(h:w.heap[pb]? =some (.cells #[ad,x1,x2,x3] 174 (0,0))):
 Cq 216 #[Pv pb] w λe w'=>e=.returned (.tuple #[])/\w'.heap[pb]? =some (.cells #[Pv pb,x1,x2,x3] 174 (0,0))/\One pb w w':=by
 have⟨j,hj,hjs⟩:=Option.map_eq_some_iff.1 LX;have c0:w.cell? ⟨pb,0,none⟩=some ad:=by simp[jy,h]
 have f0:w.frozen? ⟨pb,0,none⟩=false:=by simp[jz,h]
 have hsh:w.shape? pb=some (174,4):=by simp[World.shape?,h]
 obtain rfl|rfl:=had
 .have hn:=alS;have ht:=Lib.run_to_unsafe (P:=Tryz.prog) w ⟨pb,0,none⟩ Tryz.underlying168 Tryz.underlying366 hj ae hsh (by show 0<4;decide);have hf:=Lib.run_from_unsafe (P:=Tryz.prog) w ⟨pb,0,none⟩ Tryz.underlying366 Tryz.underlying168 hj hsh afx;have cJ:∀W:World,(binOp .neq 168 (Pv pb)<|Pv pb).run Tryz.prog W=.ok (.bool false) W:=λW=>Lib.run_neq_ptr_same W _ Tryz.underlying168 hj;go_enter func216,ntmps216
  go_wp2
  go_end0;exact⟨rfl,(dz h 0 _).trans ah,One.cell _ _ _ _⟩
 .have cJ:∀W:World,(binOp .neq 168 (Pv pb)<|Pv pb).run Tryz.prog W=.ok (.bool false) W:=λW=>Lib.run_neq_ptr_same W _ Tryz.underlying168 hj;go_enter func216,ntmps216
  go_wp2
  go_end0;exact⟨rfl,h,⟨rfl,rfl,rfl,rfl,λ_ _=>rfl⟩⟩
def Gv{p:Prop}(h:p:=by
 rw[e1,e2];refine⟨g1,?_⟩;obtain g2|⟨g,ai1,jL,hv,hg,hh,r⟩:=g2
 .exact jf g2
 .refine jd ⟨g,ai1,jL,hv,hg,?_,r⟩
  rw[j3 _ _ _ _ (by show g≠pb;intro e;exact hnp (by rw[hv,e];rfl)),hh]):p:=h
def IX{p:Prop}(h:p:=by
 obtain⟨hv,_⟩|⟨g,ai1,jL,hv,_,hh,_⟩:=Up.2
 .rw[hv]at e;simp[qe]at e
 .rw[hv]at e;simp[qe]at e;subst e;rw[uh h_]at hh
  simp at hh):p:=h
def wP(h:PN w B pb bv l last mv)c(hl:l.length<=1000000):Cq 185 #[Pv pb,.int .u8 (c.toNat:Int)] w λe w'=>e=.returned .nilIface/\∃Ee,PN w' B pb Ee (l++[c]) last mv/\Fr (SP pb bv) w w':=by
 obtain⟨i0,m6,ku,gS,gC⟩:=info_parts LY;have hpn:=h.ne h.pbN;have aZ:=h.lt;have hBw:=h.hb;obtain⟨ad,XN,had⟩:=h.bk;have how:=ai h.ow;go_enter func185,ntmps185;go_wp2_with(first|(go_at_call 216;refine(wW ad had _ _ _ XN).mono ?_;rintro e w1⟨rfl,cU,o1⟩;have c0:w1.cell? ⟨pb,0,none⟩=some (Pv pb):=(by simp[World.cell?,cU]);have c1:w1.cell? ⟨pb,1,none⟩=some bv:=(by simp[World.cell?,cU]);have O1:=ai o1;have eE:=ai cU;have Tq:=ai o1.size;have acU:=ai<|G7 how o1 hpn;clear o1 cU XN)|(at_builtin;go_must(refine wpList_append_own_at _ rfl (.tmp 11) (.tmp 13) 169 rfl B 5 i0 _ 1 1 wV m6 ku gS gC rfl aA bv l.length _ rfl (acU.alloc _) ⟨w1.heap.size,0,none⟩ 1 1 [.int .u8 (c.toNat:Int)] rfl rfl (nS _ _ _ _ ah) qAn NR ae (by have:=uh Tq;simp;omega) ?_;intro v2 w2 Bf JM Uq alT;have mq:=D_ JM ((Below.heap_alloc _ _ _ (by have:=uh Tq;omega)).trans eE) hpn;have d0:w2.cell? ⟨pb,0,none⟩=some (Pv pb):=(by simp[World.cell?,mq]);have d1:w2.cell? ⟨pb,1,none⟩=some bv:=(by simp[World.cell?,mq]);have f1:w2.frozen? ⟨pb,1,none⟩=false:=(by simp[World.frozen?,mq]);obtain⟨ao,n',cap,hv2⟩:=Be Bf;subst hv2;have h_:=ai mq;clear mq;have Up:=ai Bf;have Hg2:=ai JM;clear Bf JM Uq alT)));go_ret;have hnp:(Value.slice ao n' cap).ownBlock≠some pb:=λe=>by
  exact IX
 refine⟨rfl,.slice ao n' cap,⟨⟨_,(dz h_ 1 _).trans ah,jd rfl⟩,?_,?_,?_⟩,?_⟩
 .have hO:=uh Up;obtain⟨g1,g2⟩:=hO;have e1:jv (l++[c])=jv l++[.int .u8 (c.toNat:Int)]:=by simp[jv]
  have e2:(l++[c]).length=l.length+1:=ah;exact Gv
 .intro q;simp at q
 .have:=Hg2.size;have:=uh Tq;simp[jx]at*;omega
 .have hO:=uh O1;have hG:=uh Hg2;refine⟨(hG.os).trans hO.os,hG.tape.trans hO.tape,hG.output.trans hO.output,by simp[jx];have:=hG.size;have:=uh Tq;simp at*;omega,λk hk hn=>?_⟩;rw[j3 _ _ _ _ (by show k≠pb;intro e;exact hn<|jf e),hG.block k (by have:=uh Tq;simp;omega)<|λe=>hn<|jd e.symm,Below.heap_alloc _ _ _ (by have:=uh Tq;omega)];exact hO.block k<|λe=>hn<|jf e
def ij(h:PN w B pb bv l last mv)s(hs:s.size<=100000)(hl:l.length<=1000000):Cq 186 #[Pv pb,.string s] w λe w'=>e=.returned (.tuple #[Nv s.size,.nilIface])/\∃Ee,PN w' B pb Ee (l++s.data.toList) last mv/\Fr (SP pb bv) w w':=by
 obtain⟨i0,m6,ku,gS,gC⟩:=info_parts LY;have hpn:=h.ne h.pbN;have aZ:=h.lt;have hBw:=h.hb;obtain⟨ad,XN,had⟩:=h.bk;have how:=ai h.ow;have hnl:=ai h.nl;go_enter func186,ntmps186;go_wp2_with(first|(go_at_call 216;refine(wW ad had _ _ _ XN).mono ?_;rintro e w1⟨rfl,cU,o1⟩;have c0:w1.cell? ⟨pb,0,none⟩=some (Pv pb):=(by simp[World.cell?,cU]);have c1:w1.cell? ⟨pb,1,none⟩=some bv:=(by simp[World.cell?,cU]);have O1:=ai o1;have eE:=ai cU;have Tq:=ai o1.size;have acU:=ai<|G7 how o1 hpn;clear o1 cU XN)|(at_builtin;go_must(refine Lib.wpList_append_own_string _ rfl (.tmp 12) (.tmp 13) 169 9 rfl B 5 i0 wV Tryz.underlying9 m6 ku gS gC bv l.length _ rfl acU s rfl NR ae (by have:=uh Tq;omega) ?_;intro v2 w2 Bf JM Uq;have mq:=D_ JM eE hpn;have d0:w2.cell? ⟨pb,0,none⟩=some (Pv pb):=(by simp[World.cell?,mq]);have d1:w2.cell? ⟨pb,1,none⟩=some bv:=(by simp[World.cell?,mq]);have f1:w2.frozen? ⟨pb,1,none⟩=false:=(by simp[World.frozen?,mq]);obtain⟨ao,n',cap,hv2⟩:=Be Bf;subst hv2;have h_:=ai mq;clear mq;have Up:=ai Bf;have Hg2:=ai JM;have Hn2:=ai Uq;clear Bf JM Uq)));go_ret2;have hnp:(Value.slice ao n' cap).ownBlock≠some pb:=λe=>by
  exact IX
 refine⟨rfl,.slice ao n' cap,⟨⟨_,(dz h_ 1 _).trans ah,jd rfl⟩,?_,?_,?_⟩,?_⟩
 .have hO:=uh Up;obtain⟨g1,g2⟩:=hO;have e1:jv (l++s.data.toList)=jv l++Lib.strCells s:=by simp[jv,Lib.strCells]
  have e2:(l++s.data.toList).length=l.length+s.size:=ah;exact Gv
 .intro q;have q':l=[]/\s.data.toList=[]:=by simpa using q
  exact Hn2.2 ⟨hnl q'.1,by have:=congrArg qd q'.2;simpa using this⟩
 .have:=Hg2.size;have:=uh Tq;simp[jx]at*;omega
 .have hO:=uh O1;have hG:=uh Hg2;refine⟨(hG.os).trans hO.os,hG.tape.trans hO.tape,hG.output.trans hO.output,by simp[jx];have:=hG.size;have:=uh Tq;omega,λk hk hn=>?_⟩;rw[j3 _ _ _ _ (by show k≠pb;intro e;exact hn<|jf e),hG.block k (by have:=uh Tq;omega)<|λe=>hn<|jd e.symm];exact hO.block k<|λe=>hn<|jf e
def Iy(h:PN w B pb bv l last mv)(h0:l≠[]):Cq 54 #[Pv pb] w λe w'=>e=.returned (.string<|bs l)/\Fr (SP pb bv) w w':=by
 have BS:l.length≠0:=by simpa using h0
 have⟨ad,XN,_⟩:=h.bk;have f_:=h.ow;obtain⟨g,cap,jL,rfl,hbg,hg,hnc,U0,MJ,alF⟩:∃g cap jL,bv=Lv (some ⟨g,0,none⟩) l.length cap/\B<=g/\w.heap[g]? =some (Cv jL 5 (0,0))/\l.length<=cap/\cap<=maxLen/\jL.size=cap*1/\jL.toList.take (l.length*1)=jv l:=by
  obtain⟨_,hz⟩|⟨g,cap,jL,hv,r⟩:=f_.2
  .exact absurd hz BS
  .exact⟨g,cap,jL,hv,r⟩
 have c1:w.cell? ⟨pb,1,none⟩=some (Lv (some ⟨g,0,none⟩) l.length cap):=by simp[jy,XN]
 have hSD:∀W:World,(Builtin.unsafeSliceData_ #[169] 262 #[Lv (some ⟨g,0,none⟩) l.length cap]).run Tryz.prog W=.ok (Pv g) W:=λW=>Lib.run_unsafeSliceData_row W _ _ _ _ _ ae;have hUS:(Builtin.unsafeString_ #[262,3] 9 #[Pv g,Nv l.length]).run Tryz.prog w.drew=.ok (Sv ⟨l.toArray⟩) (w.drew.freeze ⟨g,0,none⟩ l.length):=by
  refine Lib.run_unsafeString_row w.drew _ _ _ 5 Tryz.underlying262 qkr g jL.size (by have hg':w.drew.heap[g]? =some (Cv jL 5 (0,0)):=hg;simp[World.shape?,hg']) l h0 ae (by rw[maxLen]at U0;omega) ?_;intro j x hx;exact f_.cells (g:=g) rfl j (.int .u8 x.toNat) (by simp[jv,hx])
 have HF:Fr (SP pb<|Lv (some ⟨g,0,none⟩) l.length cap) w (w.drew.freeze ⟨g,0,none⟩ l.length):=(by
  have hb:=Lib.below_freeze (B:=g) (Below.refl g w.drew) (p:=⟨g,0,none⟩) (br _) l.length;refine⟨hb.os,hb.tape,hb.output,hb.size,λk hk hn=>?_⟩;have hkg:k≠g:=λe=>hn (jd (by rw[e];rfl));simp[World.freeze];rw[if_neg h0];simp only[Array.getElem?_modify,if_neg<|Ne.symm hkg]
  rfl)
 go_enter func54,ntmps54
 go_wp2
 go_region
 all_goals(
  go_wp2
  go_ret
  exact⟨rfl,HF⟩)
def spB(last t:BA):Bool:= !(t.toList==[41])&& !(t.toList==[44])&& !(t.toList==[59])&& !(last.toList==[])&& !(last.toList==[40])
structure FN B pb(w w':World):Prop where
 os:w'.os=w.os
 tape:w'.tape=w.tape
 output:w'.output=w.output
 size:w.heap.size<=w'.heap.size
 block:∀k,k<w.heap.size->k≠pb->(k<B\/Il w k)->w'.heap[k]? =w.heap[k]?
def FN.refl(B pb:Nat)(w:World):FN B pb w w:=⟨rfl,rfl,rfl,br _,λ_ _ _ _=>rfl⟩
def FN.trans{B pb}{a b c}(h:FN B pb a b)(k:FN B pb b c):FN B pb a c:=
 ⟨k.os.trans h.os,k.tape.trans h.tape,k.output.trans h.output,j6 h.size k.size,λi hi hp hn=>by
  have e:=h.block i hi hp hn
  refine(k.block i (j5 hi h.size) hp<|hn.imp id λq=>q.same e).trans e⟩
def FN.of(h:Bq w w'):FN B pb w w':=⟨h.os,h.tape,h.output,h.size,λi hi _ _=>h.block i hi⟩
def Fr.fn(h:PN w B pb bv l last mv)(hf:Fr (SP pb bv) w w'):FN B pb w w':=
 ⟨hf.os,hf.tape,hf.output,hf.size,λk hk hp hn=>hf.block k hk (λq=>by
  obtain q|q:=q
  .exact hp q
  .obtain hn|hn:=hn
   .have:=(cN h.ow k q).1;omega
   .exact h.ne hn q)⟩
def Il.fn(h:Il w b)(hb:b<w.heap.size)(hp:b≠pb)(hf:FN B pb w w'):Il w' b:=h.same<|hf.block b hb hp<|jd h
def Bx.fn(h:Bx w b C)(hp:b≠pb)(hn:b<B\/Il w b)(hf:FN B pb w w'):Bx w' b C:=h.same hf.size<|hf.block b h.z hp hn
def Bx.nby(h:Bx w b C)(hx:∀x,C[0]? =some x->∀c,x≠.int .u8 c):Il w b:=λx q=>hx x (by rw[<-h.c 0];exact q)
def dh l last t:=(l++if spB last t then[32]else[])++t.data.toList
def ai2 B pb(bv:Value)l last t mv(g:Nat)w gk v wr:=
 (v=Iv 0/\gk=1/\wr=w)\/(v=Iv 1/\gk=0/\∃Ee,PN wr B pb Ee (dh l last t) t mv/\FN B pb w wr)
def yn{p:Prop}(h:p:=by
 go_enter func184,ntmps184
 go_wp2
 go_ret
 exact⟨rfl,rfl⟩):p:=h
def tg last t:Cq 184 #[.string last,.string t] w λe w'=>e=.returned (.bool<|spB last t)/\w'=w:=by
 rw[spB]
 cases h1:(t.toList==[41])
 .cases h2:(t.toList==[44])
  .cases h3:(t.toList==[59])
   .cases h4:(last.toList==[])
    .go_enter func184,ntmps184
     go_wp2
     go_ret;exact⟨ah,rfl⟩
    .go_enter func184,ntmps184
     go_wp2
     go_ret;exact⟨ah,rfl⟩
   .exact yn
  .exact yn
 .exact yn
def PN.th{w}{B pb}{bv}{l}{last}{mv}(h:PN w B pb bv l last mv)t:PN (w.setCell ⟨pb,2,none⟩<|.string t) B pb bv l t mv:=by
 have hpn:=h.ne h.pbN;have⟨ad,hb,ha⟩:=h.bk;exact⟨⟨ad,(dz hb 2 _).trans ah,ha⟩,G7 h.ow (One.cell _ _ _ _) hpn,h.nl,by have:=h.hb;simp[jx];exact this⟩
def PN.cells{w}{B pb}{bv}{l}{last}{mv}(h:PN w B pb bv l last mv):w.cell? ⟨pb,2,none⟩=some (.string last)/\w.frozen? ⟨pb,2,none⟩=false:=by
 have⟨ad,hb,ha⟩:=h.bk;exact⟨by simp[jy,hb],by simp[jz,hb]⟩
def FN.th B pb w v:FN B pb w (w.setCell ⟨pb,2,none⟩ v):=⟨rfl,rfl,rfl,yG,λk _ hp _=>j3 _ _ _ _ hp⟩
def pU(h:PN w B pb bv l last mv)t(ht:t.size<=100000)(hl:l.length<=900000)g(hg:Bx w g #[.string t])(hgp:g≠pb):
 Cq 129 #[Pv pb,.slice (some ⟨g,0,none⟩) 1 1] w λe w'=>e=.returned (.tuple #[])/\∃Ee,PN w' B pb Ee (dh l last t) t mv/\FN B pb w w':=by
 obtain⟨cg,fg,zg⟩:=hg;have⟨c2,f2⟩:=h.cells;go_enter func129,ntmps129
 go_wp2
 go_loopg[8] 1 (λgk v wr=>ai2 B pb bv l last t mv g w gk v wr)
 case atStart=>exact jf ⟨rfl,rfl,rfl⟩
 case round=>
  obtain⟨rfl,rfl,rfl⟩|⟨rfl,rfl,hr⟩:=hrel
  .by_cases Ii:spB last t=true
   .go_wp2_with(first|(go_at_call 184;refine(tg last t).mono ?_;rw[Ii];rintro e w'⟨rfl,rfl⟩)|(go_at_call 185;refine(wP h 32 ae).mono ?_;rintro e w1⟨rfl,UQ,hN1,hF1⟩;have HN1:=ai hN1;have xW:=ai<|Fr.fn h hF1;clear hN1 hF1)|(go_at_call 186;refine(ij HN1 t ht bi).mono ?_;rintro e w2⟨rfl,Bo,Ew,BV⟩;have UW:=ai Ew;have xX:=ai<|xW.trans<|Fr.fn HN1 BV;have⟨c3,f3⟩:=Ew.cells;clear Ew BV));go_roundg 0
    case measure=>omega
    case rel=>exact jd ⟨d_,rfl,Bo,by rw[dh];rw[if_pos Ii];exact UW.th t,xX.trans<|FN.th _ _ _ _⟩
   .have aiI:spB last t=false:=by simpa using Ii
    go_wp2_with(first|(go_at_call 184;refine(tg last t).mono ?_;rw[aiI];rintro e w'⟨rfl,rfl⟩)|(go_at_call 186;refine(ij h t ht ae).mono ?_;rintro e w2⟨rfl,Bo,Ew,BV⟩;have UW:=ai Ew;have xX:=ai<|Fr.fn h BV;have⟨c3,f3⟩:=Ew.cells;clear Ew BV));go_roundg 0
    case measure=>omega
    case rel=>exact jd ⟨d_,rfl,Bo,by rw[dh];rw[if_neg Ii,List.append_nil];exact UW.th t,xX.trans<|FN.th _ _ _ _⟩
  .go_wp2
   go_end0;exact⟨rfl,hr⟩
def Yb:Nat->List Nat->List (Int×Value)
 |_,[]=>[]|i,a::l=>((a:Int),Nv i)::Yb (i+1) l
def Ur:∀l i,(Yb i l).length=l.length
 |[],i=>rfl|a::l,i=>by simp[Yb,Ur l]
def LZ(s:Nat):∀l i,Yb i (l++[s])=Yb i l++[((s:Int),.int .i64 ((i+l.length:Nat):Int))]
 |[],i=>by simp[Yb]|a::l,i=>by
  simp only[List.cons_append,Yb,LZ s l<|i+1];simp;omega
def Us(s:Nat):∀l i,s∈l->bd (s:Int) (Yb i l)=some (.int .i64 ((i+l.idxOf s:Nat):Int))
 |[],i,h=>xA|a::l,i,h=>by
  rw[Yb,bd];by_cases e:a=s
  .subst e;simp
  .have h1:¬((a:Int)=(s:Int)):=ae;have h2:(a==s)=false:=by simpa using e
   rw[if_neg h1,Us s l (i+1)<|(List.mem_cons.1 h).resolve_left<|λq=>e q.symm,List.idxOf_cons,h2];simp;omega
def L6(s:Nat):∀l i,¬s∈l->bd (s:Int) (Yb i l)=none
 |[],i,_=>rfl|a::l,i,h=>by
  rw[Yb,bd];have h1:¬((a:Int)=(s:Int)):=λq=>h (by simp;left;omega);rw[if_neg h1];exact L6 s l (i+1)<|λq=>h<|List.mem_cons_of_mem _ q
abbrev ajF:Int->Value:=λn=>Iv n
structure NB w nb mb L:Prop where
 bk:Bx w nb #[Mv mb]
 mp:MS ajF w mb (Yb 0 L)
 ne:nb≠mb
def MS.len{enc}{L:List (κ×Value)}(h:MS enc w b L):∃es clock,w.heap[b]? =some (.map es clock)/\es.size=L.length:=by
 obtain⟨es,c,h1,h2⟩:=h;refine⟨es,c,h1,?_⟩;have:=congrArg qd h2;simpa using this
abbrev nbV(nb:Nat):Value:=.func (.func 89) #[] #[Pv nb]
def NB.fr{S}{w w'}{nb mb}{L}(h:NB w nb mb L)(hf:Fr S w w')(h1:¬S nb)(h2:¬S mb):NB w' nb mb L:=⟨h.bk.fr hf h1,h.mp.same<|hf.block mb h.mp.lt h2,h.ne⟩
def NB.af{L:List Nat}(h:NB w nb mb L)(hb:Bq w w'):NB w' nb mb L:=h.fr (S:=λ_=>False) (Fr.of hb) id id
def vT i:=118::dec i
section
variable {L:List Nat}
def acV{enc}{M:List (κ×Value)}(h:MS enc w b M){t k:TypeId}(ht:Tryz.prog.underlying t=some (.map k e))(ty:TypeId):(Builtin.len_ #[t] ty #[Mv b]).run Tryz.prog w=.ok (Nv M.length) w:=by
 have⟨es,c,h1,h2⟩:=h.len;simp[Builtin.len_,run_underlying ht,MapKept.run_getObj_map h1,h2,goInt]
def QY w:(zeroValue 3).run Tryz.prog w=.ok (Iv 0) w:=qkr
def G9 nb mb L n w(e:Ending)w':=
 e=.returned (.string<|bs<|vT<|(jc L n).idxOf n)/\NB w' nb mb (jc L n)/\Fr (λb=>b=mb) w w'
def US(h:NB w nb mb L)n(hn:(jc L n).length<=96):Cq 89 #[Nv n,Pv nb] w (G9 nb mb L n w):=by
 have hl:=h.mp.look (KL.num Tryz.underlying248) Tryz.underlying250 (QY w) (n:Int) trivial (λ_ _=>trivial) true;have⟨c,f,z⟩:=h.bk;have ahb:∀i,(⟨#[118]⟩:BA)++bs (dec i)=bs (vT i):=λi=>by rw[show(⟨#[118]⟩:BA)=bs [118]from rfl,om];rfl
 by_cases hm:n∈L
 .rw[Us n L 0 hm]at hl;simp at hl;have es:jc L n=L:=by rw[jc,if_pos hm]
  rw[es]at hn;have aZ:=j5 (List.idxOf_lt_length_iff.2 hm) hn;have HC:=λW:World=>NJ (w:=W) (L.idxOf n) aZ;have hc:=ahb<|L.idxOf n;have hdl:(bs<|dec<|L.idxOf n).size<=100:=by rw[bS];have:=ya<|L.idxOf n;omega
  go_enter func89,ntmps89;go_wp2_with(go_at_call 90;refine(HC _).mono ?_;rintro e w'⟨rfl,rfl⟩);go_ret;rw[G9];rw[es];exact⟨rfl,h,Fr.refl _ _⟩
 .have hg:=L6 n L 0 hm;rw[hg]at hl;simp at hl;have es:jc L n=L++[n]:=by rw[jc,if_neg hm]
  have hix:(L++[n]).idxOf n=L.length:=by
   rw[List.idxOf_append,if_neg hm];simp
  have hlen:=acV h.mp Tryz.underlying250;rw[Ur]at hlen;rw[es]at hn;simp at hn;have HC:=λW:World=>NJ (w:=W) L.length ae;have hc:=ahb L.length;have hdl:(bs<|dec L.length).size<=100:=by rw[bS];have:=ya L.length;omega
  have HM:=ai h.mp;have HK:=ai h.bk;have cJ:=h.ne;go_enter func89,ntmps89;go_wp2_with(first|(go_at_call 90;refine(HC _).mono ?_;rintro e w'⟨rfl,rfl⟩)|(refine aY _ rfl _ _ _ _ (Or.inr rfl) (KL.num Tryz.underlying248) Tryz.underlying250 _ _ rfl HM (n:Int) (Nv L.length) rfl rfl trivial (λ_ _=>trivial) ?_;intro w' H' O';have wZ:=ai H';have O2:=ai O';clear H' O'));go_ret;rw[G9];rw[es,hix];have O:=uh O2;refine⟨rfl,⟨HK.one O cJ,?_,cJ⟩,⟨O.os,O.tape,O.output,by rw[O.size];exact br _,λk hk hn=>O.block k hn⟩⟩;have:=uh wZ;rw[n8 _ _ _ hg]at this;rw[LZ];simpa using this
end
end
section
open Un
def UE p s:(xU p s).length<=s.length+2:=by rw[xU];split<;>simp
def ai9 n:∀L:List Nat,L.idxOf n<=L.length:=λL=>List.idxOf_le_length
mutual
def tW{L:List Nat}(hL:L.length<=1000):∀t,Wf t->∀k,(wr dec L t k).length+1000<=3000*size t
 |.var n,_,k=>by
  have h1:=ya<|L.idxOf n;have h2:=ai9 n L;simp[wr,size];omega
 |.aM c l,h,k=>by
  obtain⟨⟨h1,h2⟩,h3⟩:=h;have hfl:=UF hL l h3;have hc:c.toList.length=c.size:=by rw[ByteArray.toList_eq];exact Array.length_toList
  simp only[wr,bz];split
  .rename_i e
   match l,h2.1<|jf e,h3 with
   |[u,v],_,h3=>
    have a:=tW hL u h3.1 1;have b:=tW hL v h3.2.1 0;have:=UE (decide (0<k))<|nth (Io dec L [u,v]) 0 1++([32,45,62,32]++nth (Io dec L [u,v]) 1 0);simp[Io,nth,size,ak]at this⊢;omega
  .split
   .rename_i e
    match l,h2.1<|jd e,h3 with
    |[u,v],_,h3=>
     have a:=tW hL u h3.1 0;have b:=tW hL v h3.2.1 0;simp[Io,nth,size,ak];omega
   .have:=UE (decide (1<k)&& !(Io dec L l).isEmpty) (c.toList++(Io dec L l).flatMap λp=>32::p 2);simp only[dr]at this;simp only[size];omega
def UF{L:List Nat}(hL:L.length<=1000):∀l,Jz l->((Io dec L l).flatMap λp=>32::p 2).length<=3000*ak l
 |[],_=>by simp[Io,ak]|t::l,h=>by
   have a:=tW hL t h.1 2;have b:=UF hL l h.2;simp[Io,ak]at b⊢;omega
end
def Ip{l}{M}(h:vars l t<+:M):wr dec M t=wr dec (vars l t) t:=
 ZV dec h t λn hn=>(cE t l n).2<|jd hn
abbrev zK:Array Value:=#[.slice none 0 0,.slice none 0 0]
end
end Go.Proofs.YtopmodaakdnliaaGreatDoor
