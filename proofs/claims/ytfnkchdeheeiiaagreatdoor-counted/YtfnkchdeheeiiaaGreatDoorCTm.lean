import Derived.Laws.AppendOwnNone
import Derived.Laws.EntriesVeiled
import Derived.Test.YtfnkchdeheeiiaaGreatDoorCPf
import Derived.Test.YtfnkchdeheeiiaaGreatDoorCWj
import Derived.Test.YtfnkchdeheeiiaaGreatDoorCTo
set_option linter.all false
set_option maxRecDepth 100000
set_option maxHeartbeats 2000000
namespace Go.Proofs.YtfnkchdeheeiiaaGreatDoor
open _root_.List renaming take_succ_eq_append_getElem->ja,cons_append->jc,getD_eq_getElem?_getD->jd,mem_cons->jf,nil_append->jh,getElem_cons_succ->ji,getElem?_eq_none->jj,length->jk
open Or renaming inr->jl,inl->jm
open Go.Lib renaming byteCells->jo
open Go.World renaming setCell->jp,cell?->jq,frozen?->jt
open Un renaming sub->ju,seen->jv
open Go.RowKit.Below renaming heap_setCell->jx
open Pu renaming bC->jy,Tok->jz,mE->j3
open Go.Proofs.Tryz renaming prog->j5,underlying171->j6
open _root_.Nat renaming lt_of_lt_of_le->j7,le_trans->j8
open Go.Value renaming ownBlock->j9
open Go Go.RowKit Proofs.Tryz
variable {C:Array Value} {c last s:BA} {f' z:Fl} {tys:List (BA×Nat)} {ns:List BA} {cs:List Nat} {L:List Nd} {T vs:List jz} {l:List UInt8} {xs:List Value} {mk:M Nd} {B N base cap f g k kb mb n nb pb rb wb xb:Nat} {ρ lB:Nat->Nat} {K:Nat->Option Un.Ty} {D P Λ Λ':Nat->Prop} {R θ σ:Nat->Un.Ty} {u:Nd} {pl:Prop} {α β κ:Type} {e:TypeId} {a b t:Un.Ty} {bv cv hv iv mv tv v:Value} {W w w' w0:World}
section
open Un
def eK(s:BA):Except Fl Nd:=
 if 400<s.size then .error ⟨1,0,0⟩else
 match eH (jy s 0) (jy s 0).length 0 with
 |.error f=>.error f|.ok (a,k)=>if(tk (jy s 0) k).kind==7 then .ok a else .error (db<|tk (jy s 0) k)
def m9(f:Fl):Value:=.agg #[Nv f.kind,Nv f.al,Nv f.to]
end
section
open Go.ChangeMaps
def Rz{p}(h:(aC s p).kind=7):aC s p=Pu.dT s:=by
 rw[aC]at h⊢;split at h
 .exfalso;revert h;rw[Pu.cN];repeat' split
  all_goals simp[Pu.gu]
 .rename_i hn;rw[if_neg hn]
def G_(hk:k<(jy s 0).length)(h:(tk (jy s 0) k).kind=7):(aC s (tk (jy s 0) k).to).kind≠6:=by
 rw[iK s k hk]at h⊢;rw[Rz h];show(aC s s.size).kind≠6;rw[aC];rw[if_neg (by rw[Pu.lp<|br _];omega)];simp[Pu.dT]
abbrev mG:BA:=⟨#[116,104,101,32,101,110,100]⟩
def Ke.low{a b c}(k:Ke rb b c)(h:Below B a b)(hB:B<=b.heap.size)(hr:B<=rb):Below B a c:=
 ⟨k.os.trans h.os,k.tape.trans h.tape,k.output.trans h.output,j8 h.size k.size,λi hi=>(k.block i (j7 hi hB) ae).trans<|h.block i hi⟩
def td(s:BA):∀f i,(j3 s f i).length<=f+1
 |0,i=>by simp[j3]|f+1,i=>by
  rw[j3];split
  .split
   .have:=td s f<|i+1;omega
   .have:=td s f (Pu.cN s i).to;simp;omega
  .simp
theorem G' s i:(jy s i).length<=s.size-i+1:=td s _ _
end
section
open Un
namespace In
structure Tw where
 of:Ty
 any:List Nat
structure St where
 k:Nat->Ty
 u:Nat->Prop
structure Ft where
 f:Fl
 l:Ty
 r:Ty
abbrev Env:=BA->Option Tw
abbrev Mks:=BA->Option (List Ty×Ty)
abbrev Rn:=Nat->Option Nat
abbrev MM(α:Type):=St->Except Ft (α×St)->Prop
def cS(a:α):MM α:=λs o=>o=.ok (a,s)
def andM(m:MM α)(g:α->MM β):MM β:=λs o=>(∃x,m s (.error x)/\o=.error x)\/∃a s',m s (.ok (a,s'))/\g a s' o
def noM:MM α:=λ_ _=>False
def kS:MM Nat:=λs o=>∃v,¬s.u v/\o=.ok (v,⟨s.k,λn=>s.u n\/n=v⟩)
structure zS θ a b:Prop where
 one:sub θ a=sub θ b
 gen:∀σ,sub σ a=sub σ b->∀v,sub σ (θ v)=σ v
 out:∀v,¬aD v a->¬aD v b->θ v=.var v
 rng:∀v n,aD v a\/aD v b->aD n (θ v)->aD n a\/aD n b
def qA(f t:Nat):Ft:=⟨⟨7,f,t⟩,.var 0,.var 0⟩
def p_(a b:Ty)(f t:Nat):MM Unit:=λs o=>
 ((48<size (sub s.k a)\/48<size (sub s.k b))/\o=.error (qA f t))\/
 (size (sub s.k a)<=48/\size (sub s.k b)<=48/\((∃θ,zS θ (sub s.k a) (sub s.k b)/\o=.ok ((),⟨λv=>sub θ<|s.k v,s.u⟩))\/((∀σ,sub σ (sub s.k a)≠sub σ (sub s.k b))/\o=.error ⟨⟨6,f,t⟩,sub s.k a,sub s.k b⟩)))
structure DX(l:List Nat)(ρ eu:Rn)(u u':Nat->Prop):Prop where
 fZ:∀v n,ρ v=some n->eu v=some n
 out:∀v,v∉l->eu v=ρ v
 all:∀v,v∈l->eu v≠none
 new:∀v n,ρ v=none->eu v=some n->¬u n
 one:∀v v' n,ρ v=none->eu v=some n->eu v'=some n->v=v'
 use:∀n,u' n↔u n\/∃v,ρ v=none/\eu v=some n
def wI(l:List Nat)(ρ:Rn):MM Rn:=λs o=>∃eu u',DX l ρ eu s.u u'/\o=.ok (eu,⟨s.k,u'⟩)
def Me:Rn:=λ_=>none
def via(ρ:Rn):Nat->Ty:=λv=>match ρ v with
 |some n=>.var n|none=>.var v
def gR(Γ:Env)x c:=λy=>if y=x then some c else Γ y
def qH(Γ:Env)x:=λy=>if y=x then none else Γ y
def over(g Γ:Env):Env:=λy=>match g y with
 |some c=>some c|none=>Γ y
abbrev mono(t:Ty):Tw:=⟨t,[]⟩
def z_(Γ:Env)k v:=∃y c,Γ y=some c/\aD v (sub k c.of)/\v∉c.any
open Classical in
noncomputable def zZ (Γ:Env) (k:Nat->Ty) (T:Ty):List Nat:=(vars [] T).filter λv=>decide (¬z_ Γ k v)
noncomputable def jV (Γ:Env) (k:Nat->Ty) (t:Ty) (v:Bool):Tw:=⟨sub k t,if v then zZ Γ k (sub k t)else[]⟩
abbrev dN:Ty:=.aH mO []
abbrev iZ:Ty:=.aH iA []
abbrev ya:Ty:=.aH iB []
abbrev v9(a b:Ty):Ty:=.aH ot [a,b]
abbrev S_(a b:Ty):Ty:=.aH lT [a,b]
def arr(tk:List Ty)m:=tk.foldr v9 m
def ij:Nd->Nat|.mk _ _ _ _ f _ _=>f
def uQ:Nd->Nat|.mk _ _ _ _ _ t _=>t
mutual
def Jw:Nd->Bool
 |.mk k _ _ L _ _ _=>if k=6 then aeD L else if k=14 then aeE L else if k=8 then isC L&&aaR L else k==1||k==2||k==3||k==4||k==5||k==9
def aeD:List Nd->Bool
 |[]=>true|x::l=>Jw x&&aeD l
def aeE:List Nd->Bool
 |[]=>false|x::_=>Jw x
def aaR:List Nd->Bool
 |[]=>false|_::l=>aeE l
def isC:List Nd->Bool
 |[]=>false|x::_=>isM x
def isM:Nd->Bool
 |.mk k _ _ L _ _ _=>if k=8 then isC L&&aaR L else k==2
end
def BW(Γ:Env)(x:BA)(f t:Nat):MM Ty:=match Γ x with
 |none=>noM|some c=>λs o=>(48<size (sub s.k c.of)/\o=.error (qA f t))\/(size (sub s.k c.of)<=48/\∃ρ s',wI c.any Me s (.ok (ρ,s'))/\o=.ok (sub (via ρ)<|sub s.k c.of,s'))
def qI t ρ:=andM (wI (vars [] t) ρ) λeu=>cS (sub (via eu) t,eu)
def upM(mk:Mks)x:=match mk x with
 |none=>noM|some (tk,m)=>andM (qI (arr tk m) Me) λq=>cS q.1
abbrev PM:=Env->MM (Ty×Env)
abbrev EM:=Env->MM Ty
def qO:List Ty->List Nd->List PM->Env->Rn->MM (Env×Rn)
 |u::tk,x::L,p::ps,g,ρ=>andM (p g) λq=>andM (qI u ρ) λi=>andM (p_ q.1 i.1 (ij x)<|uQ x) λ_=>qO tk L ps q.2 i.2|_,_,_,g,ρ=>cS (g,ρ)
def fy{α:Type}(ps:List (Env->MM α))i:=ps.getD i λ_=>noM
def DW(mk:Mks)k s L ps g:=
 if k=15 then andM kS λv=>cS (.var v,g)
 else if k=1 then andM kS λv=>cS (.var v,gR g s<|mono<|.var v)
 else if k=3 then cS (dN,g)
 else if k=4 then cS (iZ,g)
 else if k=5 then cS (ya,g)
 else if k=6 then andM (fy ps 0 g) λa=>andM (fy ps 1 a.2) λb=>cS (S_ a.1 b.1,b.2)
 else match mk s with
  |none=>noM|some (tk,m)=>andM (qO tk L ps g Me) λq=>andM (qI m q.2) λi=>cS (i.1,q.1)
mutual
def eh(mk:Mks):Nd->PM
 |.mk k s _ L _ _ _=>DW mk k s L<|mT mk L
def mT(mk:Mks):List Nd->List PM
 |[]=>[]|x::l=>eh mk x::mT mk l
end
def rJ(mk:Mks)(Γ:Env)(t r:Ty):List Nd->List EM->MM Unit
 |p::e::L,_::pe::ps=>andM (eh mk p λ_=>none) λq=>andM (p_ t q.1 (ij p)<|uQ p) λ_=>andM (pe<|over q.2 Γ) λu=>andM (p_ r u (ij e)<|uQ e) λ_=>rJ mk Γ t r L ps|_,_=>cS ()
def cH(rc:Bool)x e(pe:EM)Γ:=
 if rc then andM kS λv=>andM (pe<|gR Γ x<|mono<|.var v) λt=>andM (p_ (.var v) t (ij e)<|uQ e) λ_=>cS t
 else pe Γ
noncomputable def sv (rc:Bool) (x:BA) (e:Nd) (pe pf:EM) (Γ:Env):MM Ty:=
 andM (cH rc x e pe Γ) λt=>λs=>pf (gR Γ x<|jV (if rc then qH Γ x else Γ) s.k t (Jw e)) s
def nd0:Nd:=.mk 0 ⟨#[]⟩ 0 [] 0 0 0
def lP(L:List Nd)i:=L.getD i nd0
noncomputable def mI (mk:Mks) (k:Nat) (s:BA) (L:List Nd) (f t:Nat) (ps:List EM) (Γ:Env):MM Ty:=
 if k=1 then BW Γ s f t
 else if k=2 then upM mk s
 else if k=3 then cS dN
 else if k=4 then cS iZ
 else if k=5 then cS ya
 else if k=6 then andM (fy ps 0 Γ) λa=>andM (fy ps 1 Γ) λb=>cS<|S_ a b
 else if k=14 then(if vars [] (aI []<|es<|lP L 1).1=[]then andM (fy ps 0 Γ) λa=>andM (p_ a (aI []<|es<|lP L 1).1 (ij<|lP L 0)<|uQ<|lP L 0) λ_=>cS (aI []<|es<|lP L 1).1 else noM)
 else if k=7 then andM (fy ps 0 Γ) λa=>andM (p_ a dN (ij<|lP L 0)<|uQ<|lP L 0) λ_=>andM (fy ps 1 Γ) λb=>andM (p_ b dN (ij<|lP L 1)<|uQ<|lP L 1) λ_=>cS<|if s=du then iZ else dN
 else if k=8 then andM (fy ps 0 Γ) λa=>andM (fy ps 1 Γ) λb=>andM kS λv=>andM (p_ a (v9 b<|.var v) f t) λ_=>cS<|.var v
 else if k=9 then andM kS λv=>andM (fy ps 0<|gR Γ s<|mono<|.var v) λa=>cS<|v9 (.var v) a
 else if k=10 then sv false s (lP L 0) (fy ps 0) (fy ps 1) Γ
 else if k=11 then sv true s (lP L 0) (fy ps 0) (fy ps 1) Γ
 else if k=12 then andM (fy ps 0 Γ) λa=>andM (p_ a iZ (ij<|lP L 0)<|uQ<|lP L 0) λ_=>andM (fy ps 1 Γ) λb=>andM (fy ps 2 Γ) λc=>andM (p_ b c (ij<|lP L 2)<|uQ<|lP L 2) λ_=>cS b
 else if k=13 then andM (fy ps 0 Γ) λa=>andM kS λv=>andM (rJ mk Γ a (.var v) L.tail ps.tail) λ_=>cS<|.var v
 else noM
mutual
noncomputable def inf (mk:Mks):Nd->EM
 |.mk k s _ L f t _=>mI mk k s L f t<|pA mk L
noncomputable def pA (mk:Mks):List Nd->List EM
 |[]=>[]|x::l=>inf mk x::pA mk l
end
def acF ns(m:Nd):=match m with|.mk _ _ _ L _ _ _=>(aA ns<|tU L).1
def acG:Nd->BA|.mk _ s _ _ _ _ _=>s
def WW(t:jz)(vs:List jz):Ty:=.aH t.text<|(List.range vs.length).map λi=>.var<|i+1
def wV(t:jz)(vs:List jz):List Nd->Mks->Mks
 |[],mk=>mk|m::r,mk=>wV t vs r λy=>if y=acG m then some (acF (vs.map (·.text)) m,WW t vs)else mk y
def lZ t:=sub (λ_=>ya) t
end In
namespace In
mutual
def bZ{n:Nat}{σ:Nat->Ty}:∀t,aD n (sub σ t)↔∃m,aD m t/\aD n (σ m)
 |.var m=>by simp[sub,aD]|.aH c l=>by simp[sub,aD,Hc l]
def Hc{n:Nat}{σ:Nat->Ty}:∀l,bK n (aS σ l)↔∃m,bK m l/\aD n (σ m)
 |[]=>by simp[aS,bK]|t::l=>by
  simp only[aS,bK,bZ t,Hc l];constructor
  .rintro(⟨m,a,b⟩|⟨m,a,b⟩)
   .exact⟨m,jm a,b⟩
   .exact⟨m,jl a,b⟩
  .rintro⟨m,a|a,b⟩
   .exact jm ⟨m,a,b⟩
   .exact jl ⟨m,a,b⟩
end
def oN(h:∀n,aD n t->σ n=.var n):sub σ t=t:=(sub_congr t h).trans<|dq t
def aeF(h:sub σ t=t)(hn:aD n t):σ n=.var n:=MX t (h.trans (dq t).symm) n hn
def zS.idem(h:zS θ a b)v:sub θ (θ v)=θ v:=h.gen θ h.one v
def zS.fix(h:zS θ a b){v}(hn:aD n (θ v)):θ n=.var n:=aeF (h.idem v) hn
structure Ok(s:St):Prop where
 out:∀v,¬s.u v->s.k v=.var v
 use:∀v n,s.u v->aD n (s.k v)->s.u n
 idem:∀v n,aD n (s.k v)->s.k n=.var n
def Ok.An{s:St}(h:Ok s)(ht:∀n,aD n t->s.u n)(hn:aD n (sub s.k t)):s.u n/\s.k n=.var n:=by
 have⟨m,h1,h2⟩:=(bZ t).1 hn;exact⟨h.use m n (ht m h1) h2,h.idem m n h2⟩
def Ok.uB{s:St}(h:Ok s)t:sub s.k (sub s.k t)=sub s.k t:=by
 refine oN λn hn=>?_;have⟨m,_,h2⟩:=(bZ t).1 hn;exact h.idem m n h2
structure Je(Λ:Nat->Prop)(s s':St):Prop where
 mono:∀n,s.u n->s'.u n
 step:∃θ:Nat->Ty,(∀v,s'.k v=sub θ (s.k v))/\(∀v,¬Λ v->θ v=.var v)/\∀v n,Λ v->aD n (θ v)->Λ n
def Je.refl Λ s:Je Λ s s:=⟨λ_ h=>h,Ty.var,λ_=>(dq _).symm,λ_ _=>rfl,λv n h k=>by simp[aD]at k;subst k;exact h⟩
def Je.trans{s s1 s2:St}(h:Je Λ s s1)(k:Je Λ s1 s2):Je Λ s s2:=by
 obtain⟨h1,θ,a1,a2,a3⟩:=h;obtain⟨k1,τ,b1,b2,b3⟩:=k;refine⟨λn q=>k1 n<|h1 n q,λv=>sub τ<|θ v,λv=>by rw[b1,a1,sub_sub],λv hv=>by show sub τ (θ v)=_;rw[a2 v hv,sub,b2 v hv],λv n hv hn=>?_⟩;have⟨m,c1,c2⟩:=(bZ _).1 hn;exact b3 m n (a3 v m hv c1) c2
def Je.wide{M}{s s':St}(h:Je Λ s s')(hm:∀n,Λ n->M n):Je M s s':=by
 obtain⟨h1,θ,a1,a2,a3⟩:=h;refine⟨h1,θ,a1,λv hv=>a2 v λq=>hv<|hm v q,λv n hv hn=>?_⟩;by_cases q:Λ v
 .grind
 .rw[a2 v q]at hn;simp[aD]at hn;subst hn;exact hv
structure gC(Λ:Nat->Prop)(s:St)t:Prop where
 use:∀n,aD n t->s.u n
 loc:∀n,aD n (sub s.k t)->Λ n
def Oj{s s':St}(h:∀v,s'.k v=sub θ (s.k v))t:sub s'.k t=sub θ (sub s.k t):=by grind[sub,sub_sub,sub_congr]
def gC.run{s s':St}(h:gC Λ s t)(r:Je Λ s s'):gC Λ s' t:=by
 have⟨θ,a1,a2,a3⟩:=r.step;refine⟨λn hn=>r.mono n<|h.use n hn,λn hn=>?_⟩;rw[Oj a1]at hn;have⟨m,c1,c2⟩:=(bZ _).1 hn;exact a3 m n (h.loc m c1) c2
structure qK(Λ:Nat->Prop)(s:St)(c:Tw):Prop where
 use:∀n,aD n c.of->s.u n
 loc:∀n,aD n (sub s.k c.of)->n∈c.any\/Λ n
 fix:∀v,v∈c.any->s.k v=.var v/\¬Λ v
 sub:∀v,v∈c.any->aD v c.of
def qK.run{s s':St}{c:Tw}(h:qK Λ s c)(r:Je Λ s s'):qK Λ s' c:=by
 have⟨θ,a1,a2,a3⟩:=r.step;refine⟨λn hn=>r.mono n<|h.use n hn,λn hn=>?_,λv hv=>?_,h.sub⟩
 .rw[Oj a1]at hn;have⟨m,c1,c2⟩:=(bZ _).1 hn;obtain q|q:=h.loc m c1
  .rw[a2 m (h.fix m q).2]at c2;simp[aD]at c2;subst c2;exact jm q
  .grind
 .have⟨q1,q2⟩:=h.fix v hv;exact⟨by rw[a1,q1,ju,a2 v q2],q2⟩
def df Λ s(Γ:Env):=∀y c,Γ y=some c->qK Λ s c
def df.run{Λ}{s s'}{Γ}(h:df Λ s Γ)(r:Je Λ s s'):df Λ s' Γ:=λy c q=>(h y c q).run r
def gC.mono{s:St}(h:gC Λ s t):qK Λ s (mono t):=⟨h.use,λn hn=>jl<|h.loc n hn,λv hv=>(by simp at hv),λv hv=>(by simp at hv)⟩
def df.set{s:St}{Γ}(h:df Λ s Γ)x{c:Tw}(hc:qK Λ s c):df Λ s (gR Γ x c):=λy d q=>by
 rw[gR]at q;split at q
 .grind
 .exact h y d q
theorem df.over{Λ}{s}{g Γ}(hg:df Λ s g)(h:df Λ s Γ):df Λ s (over g Γ):=by grind[df,over]
def df.none Λ s:df Λ s (λ_=>none):=by grind[df]
def dl{α:Type}(m:MM α)s(Q:α->St->Prop):=∀a s',m s (.ok (a,s'))->Q a s'
section
variable {s:St}
def dl.ret{a}{Q:α->St->Prop}(h:Q a s):dl (cS a) s Q:=by grind[dl,cS]
def dl.and{m}{g}{Q:α->St->Prop}{R:β->St->Prop}(h:dl m s Q)(k:∀a s',Q a s'->dl (g a) s' R):dl (andM m g) s R:=by grind[dl,andM]
def dl.no{Q:α->St->Prop}:dl noM s Q:=λ_ _ q=>q.elim
def dl.imp{m}{Q R:α->St->Prop}(h:dl m s Q)(k:∀a s',Q a s'->R a s'):dl m s R:=by grind[dl]
structure Kp(Λ:Nat->Prop)s s':Prop where
 ok:Ok s'
 new:∀n,¬s'.u n->Λ n
 run:Je Λ s s'
def Kp.refl(h:Ok s)(hn:∀n,¬s.u n->Λ n):Kp Λ s s:=⟨h,hn,Je.refl _ _⟩
def Kp.trans{s1 s2}(h:Kp Λ s s1)(k:Kp Λ s1 s2):Kp Λ s s2:=⟨k.ok,k.new,h.run.trans k.run⟩
def jX(h:Ok s)(hn:∀n,¬s.u n->Λ n):dl kS s λv s'=>Kp Λ s s'/\gC Λ s' (.var v)/\s'.k=s.k:=λv s' q=>by
 obtain⟨w,hw,q⟩:=q;injection q with q;injection q with q1 q2;subst q1;subst q2;have hk:=h.out v hw;refine⟨⟨⟨λn q=>h.out n λq'=>q<|jm q',λm n q1 q2=>?_,h.idem⟩,λn q=>hn n λq'=>q<|jm q',⟨λn q=>jm q,Ty.var,λ_=>(dq _).symm,λ_ _=>rfl,λm n h k=>by simp[aD]at k;subst k;exact h⟩⟩,⟨λn q=>?_,λn q=>?_⟩,rfl⟩
 .obtain q1|rfl:=q1
  .exact jm (h.use m n q1 q2)
  .rw[hk]at q2;simp[aD]at q2;exact jl q2.symm
 .simp[aD]at q;exact jl q.symm
 .simp only[ju,hk]at q;simp[aD]at q;subst q;exact hn _ hw
def gE(h:Ok s)(hn:∀n,¬s.u n->Λ n)(ha:gC Λ s a)(hb:gC Λ s b)f t:dl (p_ a b f t) s λ_ s'=>Kp Λ s s'/\sub s'.k a=sub s'.k b:=λv s' q=>by
 obtain⟨_,q⟩|⟨_,_,⟨θ,hθ,q⟩|⟨_,q⟩⟩:=q
 .cases q
 .injection q with q;injection q with q1 q2;subst q2;have hu:∀n,aD n (sub s.k a)\/aD n (sub s.k b)->s.u n/\s.k n=.var n/\Λ n:=λn q=>by
   obtain q|q:=q
   .exact⟨(h.An ha.use q).1,(h.An ha.use q).2,ha.loc n q⟩
   .exact⟨(h.An hb.use q).1,(h.An hb.use q).2,hb.loc n q⟩
  have hr:∀v n,aD n (θ v)->n=v\/(aD n (sub s.k a)\/aD n (sub s.k b)):=λv n q=>by
   by_cases e:aD v (sub s.k a)\/aD v (sub s.k b)
   .exact jl (hθ.rng v n e q)
   .rw[hθ.out v (λq=>e<|jm q)<|λq=>e<|jl q]at q;simp[aD]at q;exact jm q.symm
  refine⟨⟨⟨λv q=>?_,λv n q1 q2=>?_,λv n q=>?_⟩,hn,⟨λn q=>q,θ,λ_=>rfl,λv q=>?_,λv n q1 q2=>?_⟩⟩,?_⟩
  .show sub θ (s.k v)=_;rw[h.out v q,ju];exact hθ.out v (λq'=>q (hu v<|jm q').1)<|λq'=>q (hu v<|jl q').1
  .have⟨m,c1,c2⟩:=(bZ _).1 q2;obtain rfl|e:=hr m n c2
   .exact h.use v n q1 c1
   .exact(hu n e).1
  .have⟨m,c1,c2⟩:=(bZ _).1 q;have:s.k n=.var n:=by
    obtain rfl|e:=hr m n c2
    .exact h.idem v n c1
    .exact(hu n e).2.1
   show sub θ (s.k n)=_;rw[this,ju];exact hθ.fix c2
  .exact hθ.out v (λq'=>q (hu v<|jm q').2.2) (λq'=>q (hu v<|jl q').2.2)
  .grind
  .have e:∀x,sub (λv=>sub θ<|s.k v) x=sub θ (sub s.k x):=λx=>(sub_sub _ _ x).symm;show sub (λv=>sub θ<|s.k v) a=sub (λv=>sub θ<|s.k v) b;rw[e,e];exact hθ.one
 .cases q
def Hg(h:Ok s)(hn:∀n,¬s.u n->Λ n)l ρ:dl (wI l ρ) s λeu s'=>Kp Λ s s'/\DX l ρ eu s.u s'.u/\s'.k=s.k:=λeu s' q=>by
 obtain⟨lB,u',hd,q⟩:=q;injection q with q;injection q with q1 q2;subst q1;subst q2;refine⟨⟨⟨λn q=>h.out n λq'=>q<|(hd.use n).2<|jm q',λm n q1 q2=>(hd.use n).2 ?_,h.idem⟩,λn q=>hn n λq'=>q<|(hd.use n).2<|jm q',⟨λn q=>(hd.use n).2<|jm q,Ty.var,λ_=>(dq _).symm,λ_ _=>rfl,λm n h k=>by simp[aD]at k;subst k;exact h⟩⟩,hd,rfl⟩;obtain q1|⟨v,e1,e2⟩:=(hd.use m).1 q1
 .exact jm (h.use m n q1 q2)
 .have:s.k m=.var m:=h.out m<|hd.new v m e1 e2;have q2:=q2;rw[this]at q2;simp[aD]at q2;subst q2;exact jl ⟨v,e1,e2⟩
end
structure m5(Λ:Nat->Prop)(s:St)(ρ:Rn):Prop where
 use:∀v n,ρ v=some n->s.u n
 loc:∀v n m,ρ v=some n->aD m (s.k n)->Λ m
def m5.run{s s':St}{ρ:Rn}(h:m5 Λ s ρ)(r:Je Λ s s'):m5 Λ s' ρ:=by
 have⟨θ,a1,a2,a3⟩:=r.step;refine⟨λv n q=>r.mono n<|h.use v n q,λv n m q1 q2=>?_⟩;rw[a1]at q2;have⟨x,c1,c2⟩:=(bZ _).1 q2;exact a3 x m (h.loc v n x q1 c1) c2
def m5.draw{s s':St}{ρ eu:Rn}{l}(h:m5 Λ s ρ)(ho:Ok s)(hn:∀n,¬s.u n->Λ n)(hk:Kp Λ s s')(hd:DX l ρ eu s.u s'.u)(e:s'.k=s.k):m5 Λ s' eu:=by
 refine⟨λv n q=>?_,λv n m q1 q2=>?_⟩
 .cases e1:ρ v with
  |none=>exact(hd.use n).2 (jl ⟨v,e1,q⟩)|some n'=>have:=hd.fZ v n' e1;rw[this]at q;injection q with q;subst q;exact hk.run.mono _<|h.use v _ e1
 .cases e1:ρ v with
  |none=>
   have hu:=hd.new v n e1 q1;rw[e,ho.out n hu]at q2;simp[aD]at q2;subst q2;exact hn n hu
  |some n'=>have:=hd.fZ v n' e1;rw[this]at q1;injection q1 with q1;subst q1;rw[e]at q2;exact h.loc v _ m e1 q2
def m5.zero Λ s:m5 Λ s Me:=⟨λv n q=> mD,λv n m q=> mD⟩
def m5.ty{s:St}{ρ:Rn}(h:m5 Λ s ρ)(ht:∀v,aD v t->ρ v≠none):gC Λ s (sub (via ρ) t):=by
 refine⟨λn hn=>?_,λn hn=>?_⟩
 .have⟨m,c1,c2⟩:=(bZ _).1 hn
  cases e:ρ m with
  |none=>grind|some x=>simp[via,e,aD]at c2;subst c2;exact h.use m _ e
 .rw[sub_sub]at hn;have⟨m,c1,c2⟩:=(bZ _).1 hn
  cases e:ρ m with
  |none=>grind|some x=>simp only[via,e,ju]at c2;exact h.loc m x n e c2
end In
namespace In
def bu:n∈vars [] t↔aD n t:=by simp[bI]
section
variable {s:St}
def qP(h:Ok s)(hn:∀n,¬s.u n->Λ n){ρ}(WX:m5 Λ s ρ)t:dl (qI t ρ) s λq s'=>Kp Λ s s'/\gC Λ s' q.1/\m5 Λ s' q.2:=by
 refine(Hg h hn _ _).and λeu s1⟨k1,d1,e1⟩=>?_;have hr:=WX.draw h hn k1 d1 e1;exact .ret ⟨k1,hr.ty<|λv hv=>d1.all v<|bu.2 hv,hr⟩
def eR:gC Λ s (.aH c []):=⟨λn q=>(by simp[aD,bK]at q),λn q=>(by simp[ju,aS,aD,bK]at q)⟩
def rQ(ha:gC Λ s a)(hb:gC Λ s b):gC Λ s (.aH c [a,b]):=by
 refine⟨λn q=>?_,λn q=>?_⟩
 .simp[aD,bK]at q;exact q.elim (ha.use n)<|hb.use n
 .simp[ju,aS,aD,bK]at q;exact q.elim (ha.loc n)<|hb.loc n
def AV(h:vars [] t=[]):gC Λ s t:=by
 have h0:∀n,¬aD n t:=λn q=>by have:=bu.2 q;rw[h]at this;simp at this
 refine⟨λn q=>absurd q<|h0 n,λn q=>?_⟩;have⟨m,c1,_⟩:=(bZ t).1 q;exact absurd c1<|h0 m
def aaS(h:Ok s)(hn:∀n,¬s.u n->Λ n){Γ:Env}(gn:df Λ s Γ)x f t:dl (BW Γ x f t) s λq s'=>Kp Λ s s'/\gC Λ s' q:=by
 rw[BW]
 cases e:Γ x with
 |none=>exact .no|some c=>
  intro a s' q;obtain⟨_,q⟩|⟨_,ρ,s1,q1,q2⟩:=q
  .cases q
  .have⟨k1,d1,e1⟩:=Hg h hn _ _ _ _ q1;injection q2 with q2;injection q2 with q2 q3;subst q2;subst q3;have hc:=gn x c e;have mS:∀v,v∉c.any->ρ v=none:=λv hv=>d1.out v hv;refine⟨k1,λn QT=>?_,λn QT=>?_⟩
   .have⟨m,c1,c2⟩:=(bZ _).1 QT;by_cases hm:m∈c.any
    .cases e2:ρ m with
     |none=>exact absurd e2 (d1.all m hm)|some y=>simp[via,e2,aD]at c2;subst c2;exact(d1.use _).2 (jl ⟨m,rfl,e2⟩)
    .simp[via,mS m hm,aD]at c2;subst c2;exact k1.run.mono _ (h.An hc.use c1).1
   .rw[sub_sub,e1]at QT;have⟨m,c1,c2⟩:=(bZ _).1 QT;by_cases hm:m∈c.any
    .cases e2:ρ m with
     |none=>exact absurd e2 (d1.all m hm)|some y=>
      have hu:=d1.new m y rfl e2;simp only[via,e2,ju,h.out y hu]at c2;simp[aD]at c2;subst c2;exact hn _ hu
    .simp only[via,mS m hm,ju,(h.An hc.use c1).2]at c2;simp[aD]at c2;subst c2;exact(hc.loc m c1).resolve_left hm
end
def yc(p:PM):=∀(g:Env)(s:St)(Λ:Nat->Prop),Ok s->(∀n,¬s.u n->Λ n)->df Λ s g->dl (p g) s λq s'=>Kp Λ s s'/\gC Λ s' q.1/\df Λ s' q.2
def mH(p:EM):=∀(Γ:Env)(s:St)(Λ:Nat->Prop),Ok s->(∀n,¬s.u n->Λ n)->df Λ s Γ->dl (p Γ) s λt s'=>Kp Λ s s'/\gC Λ s' t
def vN{p:Prop}(h:p:=by
 rw[jd,List.getElem?_eq_getElem hi];exact h _<|List.getElem_mem hi):p:=h
def Ol{p:Prop}(h:p:=by
 rw[jd,jj ae];intro _ _ _ _ _ _;exact .no):p:=h
def acH{ps}(h:∀p∈ps,yc p)i:yc (fy ps i):=by
 rw[fy];by_cases hi:i<ps.length
 .exact vN
 .exact Ol
def WY{ps}(h:∀p∈ps,mH p)i:mH (fy ps i):=by
 rw[fy];by_cases hi:i<ps.length
 .exact vN
 .exact Ol
def Hh:∀(tk:List Ty)(L:List Nd)(ps:List PM),(∀p∈ps,yc p)->∀(g:Env)(ρ:Rn)(s:St)(Λ:Nat->Prop),Ok s->(∀n,¬s.u n->Λ n)->df Λ s g->m5 Λ s ρ->dl (qO tk L ps g ρ) s λq s'=>Kp Λ s s'/\df Λ s' q.1/\m5 Λ s' q.2
 |u::tk,x::L,p::ps,hp,g,ρ,s,Λ,h,hn,hg,WX=>by
  rw[qO];refine(hp p ag g s Λ h hn hg).and λq s1⟨k1,t1,g1⟩=>?_;refine(qP k1.ok k1.new (WX.run k1.run) u).and λi s2⟨k2,t2,r2⟩=>?_;refine(gE k2.ok k2.new (t1.run k2.run) t2 _ _).and λ_ s3⟨k3,_⟩=>?_;refine(Hh tk L ps (λp h=>hp p<|by simp[h]) q.2 i.2 s3 Λ k3.ok k3.new ((g1.run k2.run).run k3.run)<|r2.run k3.run).imp λ_ s4⟨k4,r4⟩=>?_;exact⟨((k1.trans k2).trans k3).trans k4,r4⟩
 |[],_,_,_,g,ρ,s,Λ,h,hn,hg,WX=>.ret ⟨.refl h hn,hg,WX⟩|_::_,[],_,_,g,ρ,s,Λ,h,hn,hg,WX=>.ret ⟨.refl h hn,hg,WX⟩|_::_,_::_,[],_,g,ρ,s,Λ,h,hn,hg,WX=>.ret ⟨.refl h hn,hg,WX⟩
def RA mk k x L ps(hp:∀p∈ps,yc p):yc (DW mk k x L ps):=by
 intro g s Λ h hn hg;rw[DW];split
 .exact(jX h hn).and λv s1⟨k1,t1,_⟩=>.ret ⟨k1,t1,hg.run k1.run⟩
 split
 .exact(jX h hn).and λv s1⟨k1,t1,_⟩=>.ret ⟨k1,t1,(hg.run k1.run).set _ t1.mono⟩
 split
 .exact .ret ⟨.refl h hn,eR,hg⟩
 split
 .exact .ret ⟨.refl h hn,eR,hg⟩
 split
 .exact .ret ⟨.refl h hn,eR,hg⟩
 split
 .refine(acH hp 0 g s Λ h hn hg).and λa s1⟨k1,t1,g1⟩=>?_;refine(acH hp 1 _ s1 Λ k1.ok k1.new g1).and λb s2⟨k2,t2,g2⟩=>?_;exact .ret ⟨k1.trans k2,rQ (t1.run k2.run) t2,g2⟩
 cases mk x with
 |none=>exact .no|some p=>
  refine(Hh p.1 L ps hp g Me s Λ h hn hg<|.zero _ _).and λq s1⟨k1,g1,r1⟩=>?_;refine(qP k1.ok k1.new r1 p.2).and λi s2⟨k2,t2,_⟩=>?_;exact .ret ⟨k1.trans k2,t2,g1.run k2.run⟩
mutual
def sA(mk:Mks):∀nd,yc<|eh mk nd
 |.mk k s n L f t a=>RA mk k s L _<|yd mk L
def yd(mk:Mks):∀L,∀p∈mT mk L,yc p
 |[],p,h=>by simp[mT]at h|x::l,p,h=>by
  simp only[mT,jf]at h;obtain rfl|h:=h
  .exact sA mk x
  .exact yd mk l p h
end
def Hi(mk:Mks):∀(L:List Nd)(ps:List EM),(∀p∈ps,mH p)->∀(Γ:Env)(t r:Ty)(s:St)(Λ:Nat->Prop),Ok s->(∀n,¬s.u n->Λ n)->df Λ s Γ->gC Λ s t->gC Λ s r->dl (rJ mk Γ t r L ps) s λ_ s'=>Kp Λ s s'
 |p::e::L,_::pe::ps,hp,Γ,t,r,s,Λ,h,hn,gn,ht,hr=>by
  rw[rJ];refine(sA mk p _ s Λ h hn<|.none _ _).and λq s1⟨k1,t1,g1⟩=>?_;refine(gE k1.ok k1.new (ht.run k1.run) t1 _ _).and λ_ s2⟨k2,_⟩=>?_;have WZ:=k1.trans k2;refine(hp pe ag _ s2 Λ k2.ok k2.new<|(g1.run k2.run).over<|gn.run WZ.run).and λu s3⟨k3,t3⟩=>?_;have k13:=WZ.trans k3;refine(gE k3.ok k3.new (hr.run k13.run) t3 _ _).and λ_ s4⟨k4,_⟩=>?_;have k14:=k13.trans k4;exact(Hi mk L ps (λp h=>hp p<|by simp[h]) Γ t r s4 Λ k4.ok k4.new (gn.run k14.run) (ht.run k14.run)<|hr.run k14.run).imp λ_ s5 k5=>k14.trans k5
 |[],_,_,_,_,_,s,Λ,h,hn,_,_,_=>.ret (.refl h hn)|[_],_,_,_,_,_,s,Λ,h,hn,_,_,_=>.ret (.refl h hn)|_::_::_,[],_,_,_,_,s,Λ,h,hn,_,_,_=>.ret (.refl h hn)|_::_::_,[_],_,_,_,_,s,Λ,h,hn,_,_,_=>.ret<|.refl h hn
def gX rc x e{pe:EM}(hp:mH pe):mH (cH rc x e pe):=by
 intro Γ s Λ h hn gn;rw[cH];split
 .refine(jX h hn).and λv s1⟨k1,t1,_⟩=>?_;refine(hp _ s1 Λ k1.ok k1.new<|(gn.run k1.run).set _ t1.mono).and λt s2⟨k2,t2⟩=>?_;refine(gE k2.ok k2.new (t1.run k2.run) t2 _ _).and λ_ s3⟨k3,_⟩=>?_;exact .ret ⟨(k1.trans k2).trans k3,t2.run k3.run⟩
 .exact hp Γ s Λ h hn gn
def less(Λ:Nat->Prop)(l:List Nat):Nat->Prop:=λn=>Λ n/\n∉l
section
variable {s:St}
def Om{Γ:Env}{k}{v}(h:n∈(jV Γ k t v).any):aD n (sub k t)/\¬z_ Γ k n:=by
 rw[jV]at h
 cases v with
 |false=>simp at h|true=>simp[zZ]at h;exact⟨bu.1 h.1,h.2⟩
def Ms(h:Ok s)(hn:∀n,¬s.u n->Λ n){Γ:Env}(gn:df Λ s Γ)(ht:gC Λ s t)(rc:Bool)x v:
 df (less Λ (jV (if rc then qH Γ x else Γ) s.k t v).any) s (gR Γ x<|jV (if rc then qH Γ x else Γ) s.k t v)/\∀n,¬s.u n->less Λ (jV (if rc then qH Γ x else Γ) s.k t v).any n:=by
 have hA:∀n,n∈(jV (if rc then qH Γ x else Γ) s.k t v).any->aD n (sub s.k t)/\¬z_ (if rc then qH Γ x else Γ) s.k n:=λn q=>Om q;have hof:(jV (if rc then qH Γ x else Γ) s.k t v).of=sub s.k t:=rfl;generalize jV (if rc then qH Γ x else Γ) s.k t v=S at hA hof⊢;obtain⟨T,A⟩:=S;simp only at hA hof⊢;subst hof;refine⟨λy c e=>?_,λn q=>⟨hn n q,λq'=>q (h.An ht.use (hA n q').1).1⟩⟩;rw[gR]at e;split at e
 .injection e with e;subst e;refine⟨λn q=>(h.An ht.use q).1,λn q=>?_,λn q=>⟨(h.An ht.use (hA n q).1).2,λq'=>q'.2 q⟩,λn q=>(hA n q).1⟩;by_cases hm:n∈A
  .exact jm hm
  .have q:=q;rw[h.uB]at q;exact jl ⟨ht.loc n q,hm⟩
 .rename_i hyx;have hc:=gn y c e;refine⟨hc.use,λn q=>?_,λn q=>⟨(hc.fix n q).1,λq'=>(hc.fix n q).2 q'.1⟩,hc.sub⟩;by_cases hm:n∈c.any
  .exact jm hm
  .refine jl ⟨(hc.loc n q).resolve_left hm,λq'=>(hA n q').2 ⟨y,c,?_,q,hm⟩⟩
   cases rc with
   |true=>simp only[if_true];rw[qH];rw[if_neg hyx];exact e|false=>exact e
def AW rc x e{pe pf:EM}(hp:mH pe)(hf:mH pf):mH (sv rc x e pe pf):=by
 intro Γ s Λ h hn gn;rw[sv];refine(gX rc x e hp Γ s Λ h hn gn).and λt s1⟨k1,t1⟩=>?_;have⟨hE,hN⟩:=Ms k1.ok k1.new (gn.run k1.run) t1 rc x<|Jw e;refine dl.imp (hf _ s1 _ k1.ok hN hE) λu s2⟨k2,t2⟩=>?_;exact⟨k1.trans ⟨k2.ok,λn q=>(k2.new n q).1,k2.run.wide λn q=>q.1⟩,t2.use,λn q=>(t2.loc n q).1⟩
end
def cZ{c:Prop}[Decidable c]{m m'}{s:St}{Q:α->St->Prop}(h:c->dl m s Q)(k:¬c->dl m' s Q):dl (if c then m else m') s Q:=yV
def RB mk k x L f t ps(hp:∀p∈ps,mH p):mH (mI mk k x L f t ps):=by
 intro Γ s Λ h hn gn;have h0:=WY hp 0;have h1:=WY hp 1;have h2:=WY hp 2;rw[mI];refine cZ (λ_=>?_) λ_=>?_
 .exact aaS h hn gn _ _ _
 refine cZ (λ_=>?_) λ_=>?_
 .rw[upM]
  cases mk x with
  |none=>exact .no|some p=>exact(qP h hn (.zero _ _) _).and λq s1⟨k1,t1,_⟩=>.ret ⟨k1,t1⟩
 refine cZ (λ_=>?_) λ_=>?_
 .exact .ret ⟨.refl h hn,eR⟩
 refine cZ (λ_=>?_) λ_=>?_
 .exact .ret ⟨.refl h hn,eR⟩
 refine cZ (λ_=>?_) λ_=>?_
 .exact .ret ⟨.refl h hn,eR⟩
 refine cZ (λ_=>?_) λ_=>?_
 .refine(h0 Γ s Λ h hn gn).and λa s1⟨k1,t1⟩=>?_;refine(h1 Γ s1 Λ k1.ok k1.new<|gn.run k1.run).and λb s2⟨k2,t2⟩=>?_;exact .ret ⟨k1.trans k2,rQ (t1.run k2.run) t2⟩
 refine cZ (λ_=>?_) λ_=>?_
 .split
  .rename_i hs;refine(h0 Γ s Λ h hn gn).and λa s1⟨k1,t1⟩=>?_;refine(gE k1.ok k1.new t1 (AV hs) _ _).and λ_ s2⟨k2,_⟩=>?_;exact .ret ⟨k1.trans k2,AV hs⟩
  .exact .no
 refine cZ (λ_=>?_) λ_=>?_
 .refine(h0 Γ s Λ h hn gn).and λa s1⟨k1,t1⟩=>?_;refine(gE k1.ok k1.new t1 eR _ _).and λ_ s2⟨k2,_⟩=>?_;have WZ:=k1.trans k2;refine(h1 Γ s2 Λ k2.ok k2.new<|gn.run WZ.run).and λb s3⟨k3,t3⟩=>?_;refine(gE k3.ok k3.new t3 eR _ _).and λ_ s4⟨k4,_⟩=>?_;refine .ret ⟨(WZ.trans k3).trans k4,?_⟩;split<;>exact eR
 refine cZ (λ_=>?_) λ_=>?_
 .refine(h0 Γ s Λ h hn gn).and λa s1⟨k1,t1⟩=>?_;refine(h1 Γ s1 Λ k1.ok k1.new<|gn.run k1.run).and λb s2⟨k2,t2⟩=>?_;refine(jX k2.ok k2.new).and λv s3⟨k3,t3,_⟩=>?_;refine(gE k3.ok k3.new ((t1.run k2.run).run k3.run) (rQ (t2.run k3.run) t3) _ _).and λ_ s4⟨k4,_⟩=>?_;exact .ret ⟨((k1.trans k2).trans k3).trans k4,t3.run k4.run⟩
 refine cZ (λ_=>?_) λ_=>?_
 .refine(jX h hn).and λv s1⟨k1,t1,_⟩=>?_;refine(h0 _ s1 Λ k1.ok k1.new<|(gn.run k1.run).set _ t1.mono).and λa s2⟨k2,t2⟩=>?_;exact .ret ⟨k1.trans k2,rQ (t1.run k2.run) t2⟩
 refine cZ (λ_=>?_) λ_=>?_
 .exact AW _ _ _ h0 h1 Γ s Λ h hn gn
 refine cZ (λ_=>?_) λ_=>?_
 .exact AW _ _ _ h0 h1 Γ s Λ h hn gn
 refine cZ (λ_=>?_) λ_=>?_
 .refine(h0 Γ s Λ h hn gn).and λa s1⟨k1,t1⟩=>?_;refine(gE k1.ok k1.new t1 eR _ _).and λ_ s2⟨k2,_⟩=>?_;have WZ:=k1.trans k2;refine(h1 Γ s2 Λ k2.ok k2.new<|gn.run WZ.run).and λb s3⟨k3,t3⟩=>?_;have k13:=WZ.trans k3;refine(h2 Γ s3 Λ k3.ok k3.new<|gn.run k13.run).and λc s4⟨k4,t4⟩=>?_;refine(gE k4.ok k4.new (t3.run k4.run) t4 _ _).and λ_ s5⟨k5,_⟩=>?_;exact .ret ⟨(k13.trans k4).trans k5,(t3.run k4.run).run k5.run⟩
 refine cZ (λ_=>?_) λ_=>?_
 .refine(h0 Γ s Λ h hn gn).and λa s1⟨k1,t1⟩=>?_;refine(jX k1.ok k1.new).and λv s2⟨k2,t2,_⟩=>?_;have WZ:=k1.trans k2;refine(Hi mk L.tail ps.tail (λp h=>hp p<|List.mem_of_mem_tail h) Γ a _ s2 Λ k2.ok k2.new (gn.run WZ.run) (t1.run k2.run) t2).and λ_ s3 k3=>?_;exact .ret ⟨WZ.trans k3,t2.run k3.run⟩
 .exact .no
mutual
def kV(mk:Mks):∀nd,mH<|inf mk nd
 |.mk k s n L f t a=>RB mk k s L f t _<|AX mk L
def AX(mk:Mks):∀L,∀p∈pA mk L,mH p
 |[],p,h=>by simp[pA]at h|x::l,p,h=>by
  simp only[pA,jf]at h;obtain rfl|h:=h
  .exact kV mk x
  .exact AX mk l p h
end
end In
namespace In
structure Rel(D:Nat->Prop)(ρ:Nat->Nat)(s s':St):Prop where
 live:∀n,D n->s.u n->s.k n=.var n->s'.u (ρ n)/\s'.k (ρ n)=.var (ρ n)
 inj:∀m n,D m->D n->s.u m->s.k m=.var m->s.u n->s.k n=.var n->ρ m=ρ n->m=n
section
variable {W4:Nat->Nat} {s s' s1 s1' s2 s2':St}
def Kp.fix(k:Kp Λ s s1)(h:s.k n=.var n)(hn:¬Λ n):s1.k n=.var n:=by
 have⟨θ,a1,a2,_⟩:=k.run.step;rw[a1,h,ju,a2 n hn]
end
structure ajR(D Λ Λ':Nat->Prop)ρ s s':Prop where
 dom:∀n,Λ n->D n
 ok:Ok s
 new:∀n,¬s.u n->Λ n
 ok':Ok s'
 ajS:∀n,¬s'.u n->Λ' n
 rel:Rel D ρ s s'
end In
namespace In
end In
namespace In
end In
namespace In
def nxt(rs:Bool)(s:St):St:=⟨if rs then Ty.var else s.k,s.u⟩
def QH(rs:Bool):List Dc->Mks->Env->St->List (BA×Ty)->Option Ft->Prop
 |[],_,_,_,B,F=>B=[]/\F=none|.ty t vs ms::r,mk,Γ,s0,B,F=>QH rs r (wV t vs ms mk) Γ s0 B F
 |.lt rc t b::r,mk,Γ,s0,B,F=>∃o,cH rc t.text b (inf mk b) Γ s0 o/\match o with
  |.error x=>B=[]/\F=some x
  |.ok (a,s)=>(48<size (sub s.k a)/\B=[]/\F=some (qA t.al t.to))\/
   (size (sub s.k a)<=48/\∃T B',T=(if Jw b then sub s.k a else lZ (sub s.k a))/\B=(t.text,T)::B'/\QH rs r mk (gR Γ t.text ⟨T,vars [] T⟩) (nxt rs s) B' F)
def Ex u:Ok ⟨Ty.var,u⟩:=⟨λ_ _=>rfl,λv n q1 q2=>by simp[aD]at q2;subst q2;exact q1,λv n q=>by simp[aD]at q;subst q;rfl⟩
def Top(s:St)(Γ:Env):=∀y c,Γ y=some c->c.any=vars [] c.of/\∀v,v∈c.any->s.u v/\s.k v=.var v
def Top.fix{s:St}{Γ:Env}(h:Top s Γ){y}{c}(q:Γ y=some c):sub s.k c.of=c.of:=oN λn hn=>((h y c q).2 n (by rw[(h y c q).1];exact bu.2 hn)).2
def Top.env{s:St}{Γ:Env}(h:Top s Γ):df (λn=>¬s.u n) s Γ:=λy c q=>by
 have⟨h1,h2⟩:=h y c q;refine⟨λn hn=>(h2 n (by rw[h1];exact bu.2 hn)).1,λn hn=>jm ?_,λv hv=>⟨(h2 v hv).2,λq=>q (h2 v hv).1⟩,λv hv=>by rw[h1]at hv;exact bu.1 hv⟩;rw[h1];rw[h.fix q]at hn;exact bu.2 hn
end In
def W5 l n:(jv l n).length<=l.length+1:=by rw[jv];split<;>simp
mutual
def nX:∀(t:Ty)(l:List Nat),(vars l t).length<=l.length+size t
 |.var n,l=>by have:=W5 l n;simp[vars,size];omega|.aH c L,l=>by have:=AY L l;simp[vars,size];omega
def AY:∀(L:List Ty)(l:List Nat),(bm l L).length<=l.length+ah L
 |[],l=>by simp[bm,ah]|t::L,l=>by
   have h1:=nX t l;have h2:=AY L<|vars l t;simp[bm,ah];omega
end
mutual
def Wf:Ty->Prop
 |.var _=>True|.aH c l=>Te c l.length/\C8 l
def C8:List Ty->Prop
 |[]=>True|t::l=>Wf t/\C8 l
end
def vO:∀(l:List Ty),C8 l↔∀t,t∈l->Wf t
 |[]=>by simp[C8]|a::l=>by simp[C8,vO l]
mutual
def Wf.zT{R:Nat->Ty}:∀t,Wf t->(∀v,aD v t->Wf (R v))->Wf (ju R t)
 |.var n,_,hR=>by simpa[ju]using hR n (by simp[aD])|.aH c l,h,hR=>by simp only[ju,Wf,dV];exact⟨h.1,C8.zT l h.2<|λv hv=>hR v<|by simpa[aD]using hv⟩
def C8.zT{R:Nat->Ty}:∀l,C8 l->(∀v,bK v l->Wf (R v))->C8 (aS R l)
 |[],_,_=>by simp[aS,C8]|t::l,h,hR=>⟨Wf.zT t h.1<|λv hv=>hR v<|jm hv,C8.zT l h.2<|λv hv=>hR v<|jl hv⟩
end
def On p s:(par p s).length<=s.length+2:=by rw[par];split<;>simp
def aeG n:∀L:List Nat,L.idxOf n<=L.length:=λL=>List.idxOf_le_length
mutual
def th{L:List Nat}(hL:L.length<=1000):∀t,Wf t->∀k,(wr dec L t k).length+1000<=3000*size t
 |.var n,_,k=>by
  have h1:=vP<|L.idxOf n;have h2:=aeG n L;simp[wr,size];omega
 |.aH c l,h,k=>by
  obtain⟨⟨h1,h2⟩,h3⟩:=h;have hfl:=Oo hL l h3;have hc:c.toList.length=c.size:=by rw[ByteArray.toList_eq];exact Array.length_toList
  simp only[wr,bz];split
  .rename_i e
   match l,h2.1<|jm e,h3 with
   |[u,v],_,h3=>
    have a:=th hL u h3.1 1;have b:=th hL v h3.2.1 0;have:=On (decide (0<k))<|nth (EU dec L [u,v]) 0 1++([32,45,62,32]++nth (EU dec L [u,v]) 1 0);simp[EU,nth,size,ah]at this⊢;omega
  .split
   .rename_i e
    match l,h2.1<|jl e,h3 with
    |[u,v],_,h3=>
     have a:=th hL u h3.1 0;have b:=th hL v h3.2.1 0;simp[EU,nth,size,ah];omega
   .have:=On (decide (1<k)&& !(EU dec L l).isEmpty) (c.toList++(EU dec L l).flatMap λp=>32::p 2);simp only[vg]at this;simp only[size];omega
def Oo{L:List Nat}(hL:L.length<=1000):∀l,C8 l->((EU dec L l).flatMap λp=>32::p 2).length<=3000*ah l
 |[],_=>by simp[EU,ah]|t::l,h=>by
   have a:=th hL t h.1 2;have b:=Oo hL l h.2;simp[EU,ah]at b⊢;omega
end
def Hj{l}{M}(h:vars l t<+:M):wr dec M t=wr dec (vars l t) t:=
 U6 dec h t λn hn=>(bI t l n).2<|jl hn
def m7(s:BA):List UInt8×Fl:=
 match eK s with
 |.error f=>([],f)|.ok a=>if 48<size (aI [] a).1 then([],⟨7,0,s.size⟩)else(Un.written dec (aI [] a).1,gF)
end
section
open Go.ChangeMaps Un
structure PN(w:World)B pb bv l last mv:Prop where
 bk:∃ad,w.heap[pb]? =some (.cells #[ad,bv,.string last,mv] 113 (0,0))/\(ad=.pointer none\/ad=Pv pb)
 ow:w.ownsRow B 5 1 bv l.length (jo l)
 nl:l=[]->bv=.slice none 0 0
 hb:B<=w.heap.size
def SP pb(bv:Value)b:=b=pb\/bv.ownBlock=some b
def Oq(w:World)b:=∀x,w.cell? ⟨b,0,none⟩=some x->∀c,x≠.int .u8 c
def PN.ag4(h:PN w B pb bv l last mv){q}(hq:bv.ownBlock=some q):∃c,w.cell? ⟨q,0,none⟩=some (.int .u8 c):=by
 cases l with
 |nil=>rw[h.nl rfl]at hq;simp[j9]at hq|cons x r=>
  have⟨_,h2⟩:=h.ow;obtain⟨h3,_⟩|⟨g,cap,mL,hv,_,hh,_,_,_,ht⟩:=h2
  .grind
  .rw[hv]at hq;simp[j9]at hq;subst hq;refine⟨x.toNat,?_⟩;simp only[jq,hh];have h0:(mL.toList.take<|(x::r).length*1)[0]? =some (.int .u8 x.toNat):=by rw[ht];simp[jo]
   rw[List.getElem?_take_of_lt ag]at h0;simpa using h0
def PN.ne(h:PN w B pb bv l last mv){b:Nat}(hb:Oq w b):bv.ownBlock≠some b:=λe=>by
 have⟨c,hc⟩:=h.ag4 e;exact hb _ hc c rfl
def PN.lt(h:PN w B pb bv l last mv):pb<w.heap.size:=by
 have⟨ad,hb,_⟩:=h.bk;exact(Array.getElem?_eq_some_iff.1 hb).1
def PN.pbN(h:PN w B pb bv l last mv):Oq w pb:=λx hx c e=>by
 have⟨ad,hb,ha⟩:=h.bk;simp[jq,hb]at hx;subst hx;obtain rfl|rfl:=ha<;>cases e
def PN.same(h:PN w B pb bv l last mv)(hs:w.heap.size<=w'.heap.size)(hb:∀b,b<w.heap.size->SP pb bv b->w'.heap[b]? =w.heap[b]?):PN w' B pb bv l last mv:=by
 have⟨ad,h1,h2⟩:=h.bk;refine⟨⟨ad,(hb pb h.lt<|jm rfl).trans h1,h2⟩,?_,h.nl,j8 h.hb hs⟩;have⟨g1,g2⟩:=h.ow;refine⟨g1,?_⟩;obtain g2|⟨g,cap,mL,hv,hg,hh,r⟩:=g2
 .exact jm g2
 .refine jl ⟨g,cap,mL,hv,hg,?_,r⟩;rw[hb g (Array.getElem?_eq_some_iff.1 hh).1<|jl (by rw[hv];rfl),hh]
def PN.af(h:PN w B pb bv l last mv)(hb:Bq w w'):PN w' B pb bv l last mv:=h.same hb.size λb z _=>hb.block b z
def Oq.same{b:Nat}(h:Oq w b)(hb:w'.heap[b]? =w.heap[b]?):Oq w' b:=λx hx=>h x (by rw[<-World.cell?_of_block (a:=⟨b,0,none⟩) (w:=w) hb];exact hx)
def dB{w:World}{b:Nat}{t}{fz}(h:w.heap[b]? =some (.cells C t fz))j v:(w.setCell ⟨b,j,none⟩ v).heap[b]? =some (.cells (C.setIfInBounds j v) t fz):=by
 have bA:=(Array.getElem?_eq_some_iff.1 h).1;simp[jp,Array.getElem?_modify,h]
def One.cell w b j v:One b w (w.setCell ⟨b,j,none⟩ v):=⟨rfl,rfl,rfl,xH,λk hk=>jx _ _ _ _ hk⟩
def C9{w}{c}{size}(h:w.ownsRow base e size v n xs)(o:One c w w')(dw:v.ownBlock≠some c):w'.ownsRow base e size v n xs:=by
 obtain⟨g1,g2⟩:=h;refine⟨g1,?_⟩;obtain g2|⟨g,cap,mL,hv,hg,hh,r⟩:=g2
 .exact jm g2
 .refine jl ⟨g,cap,mL,hv,hg,?_,r⟩;rw[o.block g<|λe=>dw (by rw[hv,<-e];rfl),hh]
def AZ{w2:World}{pb}{o}{row}(hg:W.grownBy w2 row)(hb:W.heap[pb]? =some o)(hn:row≠some pb):w2.heap[pb]? =some o:=(hg.block pb (Array.getElem?_eq_some_iff.1 hb).1<|λe=>hn e.symm).trans hb
def ye{w:World}{size}(h:w.ownsRow base e size v n xs):∃ao n' cap,v=.slice ao n' cap:=by
 obtain⟨hv,_⟩|⟨g,cap,mL,hv,_⟩:=h.2
 .grind
 .grind
def Hk:(Tryz.prog.info? 110).map (λi=>i.size)=some 2:=qkr
def aaT:liesAt j5 Tryz.prog.depth 113 (4/Tryz.prog.cellsOf 113) 0 110 1=true:=qkr
def ag5 p w:(callFunc 262 #[p]).run j5 w=.ok (.value p) w:=qkr
def Hl:(Tryz.prog.info? 5).map (λi=>(i.zero,i.size,i.bytes))=some (some<|.int .u8 0,1,1):=qkr
def uC:Tryz.prog.underlying 108=some (.slice 5):=qkr
def uD ad(Zr:ad=.pointer none\/ad=Pv pb)x1 x2 x3(h:w.heap[pb]? =some (.cells #[ad,x1,x2,x3] 113 (0,0))):
 Cq 221 #[Pv pb] w λe w'=>e=.returned (.tuple #[])/\w'.heap[pb]? =some (.cells #[Pv pb,x1,x2,x3] 113 (0,0))/\One pb w w':=by
 have⟨j,hj,hjs⟩:=Option.map_eq_some_iff.1 Hk;have c0:w.cell? ⟨pb,0,none⟩=some ad:=by simp[jq,h]
 have f0:w.frozen? ⟨pb,0,none⟩=false:=by simp[jt,h]
 have hsh:w.shape? pb=some (113,4):=by simp[World.shape?,h]
 obtain rfl|rfl:=Zr
 .have hn:=ag5;have ht:=Lib.run_to_unsafe (P:=Tryz.prog) w ⟨pb,0,none⟩ Tryz.underlying107 Tryz.underlying404 hj ae hsh (by show 0<4;decide);have hf:=Lib.run_from_unsafe (P:=Tryz.prog) w ⟨pb,0,none⟩ Tryz.underlying404 Tryz.underlying107 hj hsh aaT;have dw:∀W:World,(binOp .neq 107 (Pv pb)<|Pv pb).run Tryz.prog W=.ok (.bool false) W:=λW=>Lib.run_neq_ptr_same W _ Tryz.underlying107 hj;go_enter func221,ntmps221
  go_wp2
  go_end0;exact⟨rfl,(dB h 0 _).trans ag,One.cell _ _ _ _⟩
 .have dw:∀W:World,(binOp .neq 107 (Pv pb)<|Pv pb).run Tryz.prog W=.ok (.bool false) W:=λW=>Lib.run_neq_ptr_same W _ Tryz.underlying107 hj;go_enter func221,ntmps221
  go_wp2
  go_end0;exact⟨rfl,h,⟨rfl,rfl,rfl,rfl,λ_ _=>rfl⟩⟩
def Ot{p:Prop}(h:p:=by
 rw[e1,e2];refine⟨g1,?_⟩;obtain g2|⟨g,ag6,mL,hv,hg,hh,r⟩:=g2
 .exact jm g2
 .refine jl ⟨g,ag6,mL,hv,hg,?_,r⟩
  rw[jx _ _ _ _ (by show g≠pb;intro e;exact hnp (by rw[hv,e];rfl)),hh]):p:=h
def Ou{p:Prop}(h:p:=by
 obtain⟨hv,_⟩|⟨g,ag6,mL,hv,_,hh,_⟩:=Ov.2
 .rw[hv]at e;simp[j9]at e
 .rw[hv]at e;simp[j9]at e;subst e;rw[uh ed]at hh
  simp at hh):p:=h
def Hn(h:PN w B pb bv l last mv)c(hl:l.length<=1000000):Cq 139 #[Pv pb,.int .u8 (c.toNat:Int)] w λe w'=>e=.returned .nilIface/\∃W6,PN w' B pb W6 (l++[c]) last mv/\Fr (SP pb bv) w w':=by
 obtain⟨i0,vH,oW,lY,kE⟩:=info_parts Hl;have hpn:=h.ne h.pbN;have bA:=h.lt;have hBw:=h.hb;obtain⟨ad,VN,Zr⟩:=h.bk;have how:=ai h.ow;go_enter func139,ntmps139;go_wp2_with(first|(go_at_call 221;refine(uD ad Zr _ _ _ VN).mono ?_;rintro e w1⟨rfl,da,o1⟩;have c0:w1.cell? ⟨pb,0,none⟩=some (Pv pb):=(by simp[World.cell?,da]);have c1:w1.cell? ⟨pb,1,none⟩=some bv:=(by simp[World.cell?,da]);have O1:=ai o1;have dC:=ai da;have W7:=ai o1.size;have W8:=ai<|C9 how o1 hpn;clear o1 da VN)|(at_builtin;go_must(refine wpList_append_own_at _ rfl (.tmp 11) (.tmp 13) 108 rfl B 5 i0 _ 1 1 uC vH oW lY kE rfl aK bv l.length _ rfl (W8.alloc _) ⟨w1.heap.size,0,none⟩ 1 1 [.int .u8 (c.toNat:Int)] rfl rfl (nC _ _ _ _ ag) qAn qmo ae (by have:=uh W7;simp;omega) ?_;intro v2 w2 yf Rw Ow ag7;have jT:=AZ Rw ((Below.heap_alloc _ _ _ (by have:=uh W7;omega)).trans dC) hpn;have d0:w2.cell? ⟨pb,0,none⟩=some (Pv pb):=(by simp[World.cell?,jT]);have d1:w2.cell? ⟨pb,1,none⟩=some bv:=(by simp[World.cell?,jT]);have f1:w2.frozen? ⟨pb,1,none⟩=false:=(by simp[World.frozen?,jT]);obtain⟨ao,n',cap,TE⟩:=ye yf;subst TE;have ed:=ai jT;clear jT;have Ov:=ai yf;have Hg2:=ai Rw;clear yf Rw Ow ag7)));go_ret;have hnp:(Value.slice ao n' cap).ownBlock≠some pb:=λe=>by
  exact Ou
 refine⟨rfl,.slice ao n' cap,⟨⟨_,(dB ed 1 _).trans ag,jl rfl⟩,?_,?_,?_⟩,?_⟩
 .have hO:=uh Ov;obtain⟨g1,g2⟩:=hO;have e1:jo (l++[c])=jo l++[.int .u8 (c.toNat:Int)]:=by simp[jo]
  have e2:(l++[c]).length=l.length+1:=ag;exact Ot
 .intro q;simp at q
 .have:=Hg2.size;have:=uh W7;simp[jp]at*;omega
 .have hO:=uh O1;have hG:=uh Hg2;refine⟨(hG.os).trans hO.os,hG.tape.trans hO.tape,hG.output.trans hO.output,by simp[jp];have:=hG.size;have:=uh W7;simp at*;omega,λk hk hn=>?_⟩;rw[jx _ _ _ _ (by show k≠pb;intro e;exact hn<|jm e),hG.block k (by have:=uh W7;simp;omega)<|λe=>hn<|jl e.symm,Below.heap_alloc _ _ _ (by have:=uh W7;omega)];exact hO.block k<|λe=>hn<|jm e
def po(h:PN w B pb bv l last mv)s(hs:s.size<=100000)(hl:l.length<=1000000):Cq 147 #[Pv pb,.string s] w λe w'=>e=.returned (.tuple #[Nv s.size,.nilIface])/\∃W6,PN w' B pb W6 (l++s.data.toList) last mv/\Fr (SP pb bv) w w':=by
 obtain⟨i0,vH,oW,lY,kE⟩:=info_parts Hl;have hpn:=h.ne h.pbN;have bA:=h.lt;have hBw:=h.hb;obtain⟨ad,VN,Zr⟩:=h.bk;have how:=ai h.ow;have hnl:=ai h.nl;go_enter func147,ntmps147;go_wp2_with(first|(go_at_call 221;refine(uD ad Zr _ _ _ VN).mono ?_;rintro e w1⟨rfl,da,o1⟩;have c0:w1.cell? ⟨pb,0,none⟩=some (Pv pb):=(by simp[World.cell?,da]);have c1:w1.cell? ⟨pb,1,none⟩=some bv:=(by simp[World.cell?,da]);have O1:=ai o1;have dC:=ai da;have W7:=ai o1.size;have W8:=ai<|C9 how o1 hpn;clear o1 da VN)|(at_builtin;go_must(refine Lib.wpList_append_own_string _ rfl (.tmp 12) (.tmp 13) 108 9 rfl B 5 i0 uC Tryz.underlying9 vH oW lY kE bv l.length _ rfl W8 s rfl qmo ae (by have:=uh W7;omega) ?_;intro v2 w2 yf Rw Ow;have jT:=AZ Rw dC hpn;have d0:w2.cell? ⟨pb,0,none⟩=some (Pv pb):=(by simp[World.cell?,jT]);have d1:w2.cell? ⟨pb,1,none⟩=some bv:=(by simp[World.cell?,jT]);have f1:w2.frozen? ⟨pb,1,none⟩=false:=(by simp[World.frozen?,jT]);obtain⟨ao,n',cap,TE⟩:=ye yf;subst TE;have ed:=ai jT;clear jT;have Ov:=ai yf;have Hg2:=ai Rw;have Hn2:=ai Ow;clear yf Rw Ow)));go_ret2;have hnp:(Value.slice ao n' cap).ownBlock≠some pb:=λe=>by
  exact Ou
 refine⟨rfl,.slice ao n' cap,⟨⟨_,(dB ed 1 _).trans ag,jl rfl⟩,?_,?_,?_⟩,?_⟩
 .have hO:=uh Ov;obtain⟨g1,g2⟩:=hO;have e1:jo (l++s.data.toList)=jo l++Lib.strCells s:=by simp[jo,Lib.strCells]
  have e2:(l++s.data.toList).length=l.length+s.size:=ag;exact Ot
 .intro q;have q':l=[]/\s.data.toList=[]:=by simpa using q
  exact Hn2.2 ⟨hnl q'.1,by have:=congrArg jk q'.2;simpa using this⟩
 .have:=Hg2.size;have:=uh W7;simp[jp]at*;omega
 .have hO:=uh O1;have hG:=uh Hg2;refine⟨(hG.os).trans hO.os,hG.tape.trans hO.tape,hG.output.trans hO.output,by simp[jp];have:=hG.size;have:=uh W7;omega,λk hk hn=>?_⟩;rw[jx _ _ _ _ (by show k≠pb;intro e;exact hn<|jm e),hG.block k (by have:=uh W7;omega)<|λe=>hn<|jl e.symm];exact hO.block k<|λe=>hn<|jm e
def W9(h:PN w B pb bv l last mv)(h0:l≠[]):Cq 53 #[Pv pb] w λe w'=>e=.returned (.string<|bs l)/\Fr (SP pb bv) w w':=by
 have wo:l.length≠0:=by simpa using h0
 have⟨ad,VN,_⟩:=h.bk;have gT:=h.ow;obtain⟨g,cap,mL,rfl,hbg,hg,hnc,Jd,Mo,agU⟩:∃g cap mL,bv=Lv (some ⟨g,0,none⟩) l.length cap/\B<=g/\w.heap[g]? =some (Cv mL 5 (0,0))/\l.length<=cap/\cap<=maxLen/\mL.size=cap*1/\mL.toList.take (l.length*1)=jo l:=by
  obtain⟨_,hz⟩|⟨g,cap,mL,hv,r⟩:=gT.2
  .exact absurd hz wo
  .exact⟨g,cap,mL,hv,r⟩
 have c1:w.cell? ⟨pb,1,none⟩=some (Lv (some ⟨g,0,none⟩) l.length cap):=by simp[jq,VN]
 have hSD:∀W:World,(Builtin.unsafeSliceData_ #[108] 178 #[Lv (some ⟨g,0,none⟩) l.length cap]).run j5 W=.ok (Pv g) W:=λW=>Lib.run_unsafeSliceData_row W _ _ _ _ _ ae;have hUS:(Builtin.unsafeString_ #[178,3] 9 #[Pv g,Nv l.length]).run j5 w.drew=.ok (Sv ⟨l.toArray⟩) (w.drew.freeze ⟨g,0,none⟩ l.length):=by
  refine Lib.run_unsafeString_row w.drew _ _ _ 5 Tryz.underlying178 qkr g mL.size (by have hg':w.drew.heap[g]? =some (Cv mL 5 (0,0)):=hg;simp[World.shape?,hg']) l h0 ae (by rw[maxLen]at Jd;omega) ?_;intro j x hx;exact gT.cells (g:=g) rfl j (.int .u8 x.toNat) (by simp[jo,hx])
 have HF:Fr (SP pb<|Lv (some ⟨g,0,none⟩) l.length cap) w (w.drew.freeze ⟨g,0,none⟩ l.length):=(by
  have hb:=Lib.below_freeze (B:=g) (Below.refl g w.drew) (p:=⟨g,0,none⟩) (br _) l.length;refine⟨hb.os,hb.tape,hb.output,hb.size,λk hk hn=>?_⟩;have hkg:k≠g:=λe=>hn (jl (by rw[e];rfl));simp[World.freeze];rw[if_neg h0];simp only[Array.getElem?_modify,if_neg<|Ne.symm hkg]
  rfl)
 go_enter func53,ntmps53
 go_wp2
 go_region
 all_goals(
  go_wp2
  go_ret
  exact⟨rfl,HF⟩)
def spB(last t:BA):Bool:= !(t.toList==[41])&& !(t.toList==[44])&& !(t.toList==[59])&& !(last.toList==[])&& !(last.toList==[40])
structure FN B pb(w w':World):Prop where
 os:w'.os=w.os
 tape:w'.tape=w.tape
 output:w'.output=w.output
 size:w.heap.size<=w'.heap.size
 block:∀k,k<w.heap.size->k≠pb->(k<B\/Oq w k)->w'.heap[k]? =w.heap[k]?
def FN.trans{B pb}{a b c}(h:FN B pb a b)(k:FN B pb b c):FN B pb a c:=
 ⟨k.os.trans h.os,k.tape.trans h.tape,k.output.trans h.output,j8 h.size k.size,λi hi hp hn=>by
  have e:=h.block i hi hp hn
  refine(k.block i (j7 hi h.size) hp<|hn.imp id λq=>q.same e).trans e⟩
def FN.of(h:Bq w w'):FN B pb w w':=⟨h.os,h.tape,h.output,h.size,λi hi _ _=>h.block i hi⟩
def Fr.fn{B pb:Nat}{bv:Value}{l:List UInt8}{last:BA}{mv:Value}{w w':World}(h:PN w B pb bv l last mv)(hf:Fr (SP pb bv) w w'):FN B pb w w':=
 ⟨hf.os,hf.tape,hf.output,hf.size,λk hk hp hn=>hf.block k hk (λq=>by
  obtain q|q:=q
  .exact hp q
  .obtain hn|hn:=hn
   .have:=(fk h.ow k q).1;omega
   .exact h.ne hn q)⟩
def Oq.fn{B pb:Nat}{w w':World}{b:Nat}(h:Oq w b)(hb:b<w.heap.size)(hp:b≠pb)(hf:FN B pb w w'):Oq w' b:=h.same<|hf.block b hb hp<|jl h
def Bx.fn{B pb:Nat}{w w':World}{b:Nat}{C:Array Value}(h:Bx w b C)(hp:b≠pb)(hn:b<B\/Oq w b)(hf:FN B pb w w'):Bx w' b C:=h.same hf.size<|hf.block b h.z hp hn
def Bx.nby{b:Nat}(h:Bx w b C)(hx:∀x,C[0]? =some x->∀c,x≠.int .u8 c):Oq w b:=λx q=>hx x (by rw[<-h.c 0];exact q)
def rR l last t:=(l++if spB last t then[32]else[])++t.data.toList
def aeH B pb(bv:Value)l last t mv(g:Nat)w gk v wr:=
 (v=Iv 0/\gk=1/\wr=w)\/(v=Iv 1/\gk=0/\∃W6,PN wr B pb W6 (rR l last t) t mv/\FN B pb w wr)
def C_{p:Prop}(h:p:=by
 go_enter func146,ntmps146
 go_wp2
 go_ret
 exact⟨rfl,rfl⟩):p:=h
def Ho last t:Cq 146 #[.string last,.string t] w λe w'=>e=.returned (.bool<|spB last t)/\w'=w:=by
 rw[spB]
 cases h1:(t.toList==[41])
 .cases h2:(t.toList==[44])
  .cases h3:(t.toList==[59])
   .cases h4:(last.toList==[])
    .go_enter func146,ntmps146
     go_wp2
     go_ret;exact⟨ag,rfl⟩
    .go_enter func146,ntmps146
     go_wp2
     go_ret;exact⟨ag,rfl⟩
   .exact C_
  .exact C_
 .exact C_
def PN.Hq{w}{B pb}{bv}{l}{last}{mv}(h:PN w B pb bv l last mv)t:PN (w.setCell ⟨pb,2,none⟩<|.string t) B pb bv l t mv:=by
 have hpn:=h.ne h.pbN;have⟨ad,hb,ha⟩:=h.bk;exact⟨⟨ad,(dB hb 2 _).trans ag,ha⟩,C9 h.ow (One.cell _ _ _ _) hpn,h.nl,by have:=h.hb;simp[jp];exact this⟩
def PN.cells{w}{B pb}{bv}{l}{last}{mv}(h:PN w B pb bv l last mv):w.cell? ⟨pb,2,none⟩=some (.string last)/\w.frozen? ⟨pb,2,none⟩=false:=by
 have⟨ad,hb,ha⟩:=h.bk;exact⟨by simp[jq,hb],by simp[jt,hb]⟩
def FN.Hq B pb w v:FN B pb w (w.setCell ⟨pb,2,none⟩ v):=⟨rfl,rfl,rfl,xH,λk _ hp _=>jx _ _ _ _ hp⟩
def uE(h:PN w B pb bv l last mv)t(ht:t.size<=100000)(hl:l.length<=900000)g(hg:Bx w g #[.string t])(hgp:g≠pb):
 Cq 108 #[Pv pb,.slice (some ⟨g,0,none⟩) 1 1] w λe w'=>e=.returned (.tuple #[])/\∃W6,PN w' B pb W6 (rR l last t) t mv/\FN B pb w w':=by
 obtain⟨cg,fg,zg⟩:=hg;have⟨c2,f2⟩:=h.cells;go_enter func108,ntmps108
 go_wp2
 go_loopg[8] 1 (λgk v wr=>aeH B pb bv l last t mv g w gk v wr)
 case atStart=>exact jm ⟨rfl,rfl,rfl⟩
 case round=>
  obtain⟨rfl,rfl,rfl⟩|⟨rfl,rfl,hr⟩:=hrel
  .by_cases hsp:spB last t=true
   .go_wp2_with(first|(go_at_call 146;refine(Ho last t).mono ?_;rw[hsp];rintro e w'⟨rfl,rfl⟩)|(go_at_call 139;refine(Hn h 32 ae).mono ?_;rintro e w1⟨rfl,Zs,hN1,hF1⟩;have HN1:=ai hN1;have yW:=ai<|Fr.fn h hF1;clear hN1 hF1)|(go_at_call 147;refine(po HN1 t ht bQ).mono ?_;rintro e w2⟨rfl,Tl,Lb,W_⟩;have HN2:=ai Lb;have yN:=ai<|yW.trans<|Fr.fn HN1 W_;have⟨c3,f3⟩:=Lb.cells;clear Lb W_));go_roundg 0
    case measure=>omega
    case rel=>exact jl ⟨iF,rfl,Tl,by rw[rR];rw[if_pos hsp];exact HN2.Hq t,yN.trans<|FN.Hq _ _ _ _⟩
   .have aiK:spB last t=false:=by simpa using hsp
    go_wp2_with(first|(go_at_call 146;refine(Ho last t).mono ?_;rw[aiK];rintro e w'⟨rfl,rfl⟩)|(go_at_call 147;refine(po h t ht ae).mono ?_;rintro e w2⟨rfl,Tl,Lb,W_⟩;have HN2:=ai Lb;have yN:=ai<|Fr.fn h W_;have⟨c3,f3⟩:=Lb.cells;clear Lb W_));go_roundg 0
    case measure=>omega
    case rel=>exact jl ⟨iF,rfl,Tl,by rw[rR];rw[if_neg hsp,List.append_nil];exact HN2.Hq t,yN.trans<|FN.Hq _ _ _ _⟩
  .go_wp2
   go_end0;exact⟨rfl,hr⟩
def Tm:Nat->List Nat->List (Int×Value)
 |_,[]=>[]|i,a::l=>((a:Int),Nv i)::Tm (i+1) l
def Ox:∀l i,(Tm i l).length=l.length
 |[],i=>rfl|a::l,i=>by simp[Tm,Ox l]
def Hu(s:Nat):∀l i,Tm i (l++[s])=Tm i l++[((s:Int),.int .i64 ((i+l.length:Nat):Int))]
 |[],i=>by simp[Tm]|a::l,i=>by
  simp only[jc,Tm,Hu s l<|i+1];simp;omega
def Oy(s:Nat):∀l i,s∈l->aY (s:Int) (Tm i l)=some (.int .i64 ((i+l.idxOf s:Nat):Int))
 |[],i,h=>tP|a::l,i,h=>by
  rw[Tm,aY];by_cases e:a=s
  .subst e;simp
  .have h1:¬((a:Int)=(s:Int)):=ae;have h2:(a==s)=false:=by simpa using e
   rw[if_neg h1,Oy s l (i+1)<|(List.mem_cons.1 h).resolve_left<|λq=>e q.symm,List.idxOf_cons,h2];simp;omega
def Hv(s:Nat):∀l i,¬s∈l->aY (s:Int) (Tm i l)=none
 |[],i,_=>rfl|a::l,i,h=>by
  rw[Tm,aY];have h1:¬((a:Int)=(s:Int)):=λq=>h (by simp;left;omega);rw[if_neg h1];exact Hv s l (i+1)<|λq=>h<|List.mem_cons_of_mem _ q
abbrev ag8:Int->Value:=λn=>Iv n
structure NB w nb mb L:Prop where
 bk:Bx w nb #[Mv mb]
 mp:MS ag8 w mb (Tm 0 L)
 ne:nb≠mb
def MS.len{enc}{b:Nat}{L:List (κ×Value)}(h:MS enc w b L):∃es clock,w.heap[b]? =some (.map es clock)/\es.size=L.length:=by
 obtain⟨es,c,h1,h2⟩:=h;refine⟨es,c,h1,?_⟩;have:=congrArg jk h2;simpa using this
abbrev nbV(nb:Nat):Value:=.func (.func 72) #[] #[Pv nb]
def NB.fr{S}{w w'}{nb mb}{L}(h:NB w nb mb L)(hf:Fr S w w')(h1:¬S nb)(h2:¬S mb):NB w' nb mb L:=⟨h.bk.fr hf h1,h.mp.same<|hf.block mb h.mp.lt h2,h.ne⟩
def NB.af{L:List Nat}(h:NB w nb mb L)(hb:Bq w w'):NB w' nb mb L:=h.fr (S:=λ_=>False) (Fr.of hb) id id
def vT i:=118::dec i
section
variable {L:List Nat}
def Xa{b:Nat}{enc}{M:List (κ×Value)}(h:MS enc w b M){t k:TypeId}(ht:Tryz.prog.underlying t=some (.map k e))(ty:TypeId):(Builtin.len_ #[t] ty #[Mv b]).run j5 w=.ok (Nv M.length) w:=by
 have⟨es,c,h1,h2⟩:=h.len;simp[Builtin.len_,run_underlying ht,MapKept.run_getObj_map h1,h2,goInt]
def Oz w:(zeroValue 3).run j5 w=.ok (Iv 0) w:=qkr
def Da nb mb L n w(e:Ending)w':=
 e=.returned (.string<|bs<|vT<|(jv L n).idxOf n)/\NB w' nb mb (jv L n)/\Fr (λb=>b=mb) w w'
def RC(h:NB w nb mb L)n(hn:(jv L n).length<=96):Cq 72 #[Nv n,Pv nb] w (Da nb mb L n w):=by
 have hl:=h.mp.look (KL.num Tryz.underlying98) j6 (Oz w) (n:Int) trivial (λ_ _=>trivial) true;have⟨c,f,z⟩:=h.bk;have aeI:∀i,(⟨#[118]⟩:BA)++bs (dec i)=bs (vT i):=λi=>by rw[show(⟨#[118]⟩:BA)=bs [118]from rfl,m8];rfl
 by_cases hm:n∈L
 .rw[Oy n L 0 hm]at hl;simp at hl;have es:jv L n=L:=by rw[jv,if_pos hm]
  rw[es]at hn;have bA:=j7 (List.idxOf_lt_length_iff.2 hm) hn;have HC:=λW:World=>Xb (w:=W) (L.idxOf n) bA;have hc:=aeI<|L.idxOf n;have hdl:(bs<|dec<|L.idxOf n).size<=100:=by rw[jZ];have:=vP<|L.idxOf n;omega
  go_enter func72,ntmps72;go_wp2_with(go_at_call 73;refine(HC _).mono ?_;rintro e w'⟨rfl,rfl⟩);go_ret;rw[Da];rw[es];exact⟨rfl,h,Fr.refl _ _⟩
 .have hg:=Hv n L 0 hm;rw[hg]at hl;simp at hl;have es:jv L n=L++[n]:=by rw[jv,if_neg hm]
  have hix:(L++[n]).idxOf n=L.length:=by
   rw[List.idxOf_append,if_neg hm];simp
  have hlen:=Xa h.mp j6;rw[Ox]at hlen;rw[es]at hn;simp at hn;have HC:=λW:World=>Xb (w:=W) L.length ae;have hc:=aeI L.length;have hdl:(bs<|dec L.length).size<=100:=by rw[jZ];have:=vP L.length;omega
  have HM:=ai h.mp;have HK:=ai h.bk;have dw:=h.ne;go_enter func72,ntmps72;go_wp2_with(first|(go_at_call 73;refine(HC _).mono ?_;rintro e w'⟨rfl,rfl⟩)|(refine aU _ rfl _ _ _ _ (Or.inr rfl) (KL.num Tryz.underlying98) Tryz.underlying171 _ _ rfl HM (n:Int) (Nv L.length) rfl rfl trivial (λ_ _=>trivial) ?_;intro w' H' O';have AD:=ai H';have O2:=ai O';clear H' O'));go_ret;rw[Da];rw[es,hix];have O:=uh O2;refine⟨rfl,⟨HK.one O dw,?_,dw⟩,⟨O.os,O.tape,O.output,by rw[O.size];exact br _,λk hk hn=>O.block k hn⟩⟩;have:=uh AD;rw[nF _ _ _ hg]at this;rw[Hu];simpa using this
end
end
section
open Un
abbrev aiL(w:World)base v xs:=w.ownsRow base 9 1 v xs.length xs
structure NL w xb v(l:List BA):Prop where
 o:∃base,aiL w base v<|l.map Value.string
 n:v.ownBlock≠some xb
structure MK where
 nm:BA
 x:NV
 d:Int
 a:Int
mutual
def Nd.ind{P:Nd->Prop}(H:∀k s n L f t a,(∀x∈L,P x)->P (.mk k s n L f t a)):∀nd,P nd
 |.mk k s n L f t a=>H k s n L f t a<|Nd.ag9 H L
def Nd.ag9{P:Nd->Prop}(H:∀k s n L f t a,(∀x∈L,P x)->P (.mk k s n L f t a)):∀L:List Nd,∀x∈L,P x
 |[]=>λx hx=>absurd hx ag|y::l=>λx hx=>by
  obtain h|h:=List.mem_cons.1 hx
  .rw[h];exact Nd.ind H y
  .exact Nd.ag9 H l x h
end
def Hw(ty:BA->Option Nat)(own:List BA):∀(L M:List Nd)(z:Fl),ir ty own (L++M) z=ir ty own M (ir ty own L z)
 |[],_,_=>by rw[jh];unfold ir;rfl|x::l,M,z=>by
  rw[jc];show ir ty own (l++M) (tV ty own x z)=ir ty own M (ir ty own l<|tV ty own x z);exact Hw ty own l M _
def RE ty own(L:List Nd)z j(h:j<L.length):ir ty own (L.take<|j+1) z=tV ty own L[j] (ir ty own (L.take j) z):=by
 rw[ja h,Hw];rfl
def Sm nd:=Ge 0 nd/\nn nd<=1000
def Jm.mem{lo:Nat}:∀{L:List Nd},Jm lo L->∀x∈L,Ge lo x
 |[],_,x,hx=>by simp at hx|y::l,g,x,hx=>by
  obtain rfl|h:=List.mem_cons.1 hx
  .exact g.1
  .exact Jm.mem g.2 x h
def rS:∀{L:List Nd}{x:Nd},x∈L->nn x<=bY L
 |y::l,x,hx=>by
  simp only[bY];obtain rfl|h:=List.mem_cons.1 hx
  .omega
  .have:=rS h;omega
def Sm.part{t a:Nat}(h:Sm (.mk k s n L f t a)):∀x∈L,Sm x:=λx hx=>by
 obtain⟨h1,h2⟩:=h;refine⟨Jm.mem h1.2.2 x hx,?_⟩;simp only[nn]at h2;have:=rS hx;omega
def Sm.len{t a:Nat}(h:Sm (.mk k s n L f t a)):L.length<=1000/\f<=400/\a<=400/\s.size<=400:=by
 obtain⟨h1,h2⟩:=h;simp only[nn]at h2;have:=l7 L;exact⟨ae,h1.2.1⟩
def H8(mk:BA->Option Nat):∀(L M:List Nd)(q:List BA×Fl),dK mk (L++M) q=dK mk M (dK mk L q)
 |[],_,_=>by rw[jh];unfold dK;rfl|x::l,M,q=>by
  rw[jc];show dK mk (l++M) (nB mk x q)=dK mk M (dK mk l<|nB mk x q);exact H8 mk l M _
def RG mk(L:List Nd)q j(h:j<L.length):dK mk (L.take<|j+1) q=nB mk L[j] (dK mk (L.take j) q):=by
 rw[ja h,H8];rfl
section
variable {t a:Nat} {ty mk:BA->Option Nat} {l:List BA}
def ag_:dM ty mk (.mk 9 s n [u] f t a) l z=dM ty mk u (l++[s]) z:=by
 conv=>lhs;rw[dM]
 rfl
def aeJ{v:Nd}:dM ty mk (.mk 10 s n [u,v] f t a) l z=dM ty mk v (l++[s]) (dM ty mk u l z):=by
 conv=>lhs;rw[dM]
 rfl
def aeK{v:Nd}:dM ty mk (.mk 11 s n [u,v] f t a) l z=dM ty mk v (l++[s]) (dM ty mk u (l++[s]) z):=by
 conv=>lhs;rw[dM]
 rfl
def aeL{v:Nd}:dM ty mk (.mk 14 s n [u,v] f t a) l z=tV ty [] v (dM ty mk u l z):=by
 conv=>lhs;rw[dM]
 rfl
def aeM:dM ty mk (.mk 13 s n (u::L) f t a) l z=oV ty mk L l (dM ty mk u l z):=by
 conv=>lhs;rw[dM]
 rfl
def Xc(hk:k≠1/\k≠2/\k≠9/\k≠10/\k≠11/\k≠13/\k≠14):dM ty mk (.mk k s n L f t a) l z=iI ty mk L l z:=by
 conv=>lhs;rw[dM]
 simp[hk]
end
def H9(ty mk:BA->Option Nat)(l:List BA):∀(L M:List Nd)(z:Fl),iI ty mk (L++M) l z=iI ty mk M l (iI ty mk L l z)
 |[],_,_=>by rw[jh];conv=>rhs;arg 5;rw[iI]|x::r,M,z=>by
  rw[jc];have h1:∀N z,iI ty mk (x::N) l z=iI ty mk N l (dM ty mk x l z):=λN z=>by conv=>lhs;rw[iI]
  rw[h1,h1];exact H9 ty mk l r M _
def RH ty mk l(L:List Nd)z j(h:j<L.length):iI ty mk (L.take<|j+1) l z=dM ty mk L[j] l (iI ty mk (L.take j) l z):=by
 rw[ja h,H9]
 conv=>lhs;rw[iI]
 conv=>lhs;rw[iI]
def A8:∀A:List (Nd×Nd),(aT A).length=2*A.length
 |[]=>rfl|p::r=>by have:=A8 r;simp[aT,this];omega
def OA:∀(A:List (Nd×Nd))(j:Nat)(h:j<A.length),nn A[j].1+nn A[j].2<=bY (aT A)
 |p::r,0,h=>by simp[aT,bY]<;>omega|p::r,j+1,h=>by
  have:=OA r j DQ;simp only[aT,bY,ji];omega
def Db:∀(A:List (Nd×Nd))(j:Nat)(h:j<A.length),A[j].1∈aT A/\A[j].2∈aT A
 |p::r,0,h=>by simp[aT]|p::r,j+1,h=>by
  have:=Db r j DQ;simp only[aT,ji,jf];exact⟨jl<|jl this.1,jl<|jl this.2⟩
def OB ty mk l z(p:Nd×Nd):=dM ty mk p.2 (l++(nB mk p.1 ([],z)).1) (nB mk p.1 ([],z)).2
def Lc ty mk l(A:List (Nd×Nd))z:=A.foldl (OB ty mk l) z
def OC(ty mk:BA->Option Nat)(l:List BA):∀(A:List (Nd×Nd))(z:Fl),oV ty mk (aT A) l z=Lc ty mk l A z
 |[],z=>by
  show oV ty mk [] l z=z
  conv=>lhs;rw[oV]
 |p::r,z=>by
  have h1:oV ty mk (aT (p::r)) l z=oV ty mk (aT r) l (OB ty mk l z p):=by
   show oV ty mk (p.1::p.2::aT r) l z=_
   conv=>lhs;rw[oV]
   conv=>lhs;rw[UT]
   rfl
  rw[h1,OC ty mk l r];rfl
def RI ty mk l(A:List (Nd×Nd))z j(h:j<A.length):Lc ty mk l (A.take<|j+1) z=OB ty mk l (Lc ty mk l (A.take j) z) A[j]:=by
 rw[Lc];rw[ja h,List.foldl_append];rfl
def SB wb(tv cv mv:Value)b:=b=wb\/tv.ownBlock=some b\/cv.ownBlock=some b\/mv.ownBlock=some b
def OD:∀(a b:List jz)(p:List BA)(z:Fl),Cu p (a++b) z=Cu (p++a.map (·.text)) b (Cu p a z)
 |[],b,p,z=>by simp[Cu]|v::r,b,p,z=>by
  simp only[jc,Cu,List.map_cons];rw[OD r b,List.append_assoc];rfl
def Vk(vs:List jz)z i(h:i<vs.length):Cu [] (vs.take<|i+1) z=bi (fC vs[i].text ((vs.map (·.text)).take i)) 4 vs[i].al vs[i].to (Cu [] (vs.take i) z):=by
 rw[ja h,OD];simp only[Cu,jh,List.map_take]
namespace In
open Classical in
mutual
noncomputable def trim:Ty->Ty
 |.var n=>.var n|.aH c l=>if Te c l.length then .aH c (A9 l)else .var 0
noncomputable def A9:List Ty->List Ty
 |[]=>[]|t::l=>trim t::A9 l
end
def A_(σ:Nat->Ty):∀l,(aS σ l).length=l.length
 |[]=>rfl|t::l=>by simp[aS,A_ σ l]
mutual
def yg{θ:Nat->Ty}:∀t,Wf t->trim (sub θ t)=sub (λv=>trim<|θ v) t
 |.var n,_=>rfl|.aH c l,h=>by
  simp only[sub,trim];rw[if_pos (by rw[A_];exact h.1),Ba l h.2]
def Ba{θ:Nat->Ty}:∀l,C8 l->A9 (aS θ l)=aS (λv=>trim<|θ v) l
 |[],_=>rfl|t::l,h=>by simp only[aS,A9];rw[yg t h.1,Ba l h.2]
end
mutual
def OE{σ:Nat->Ty}:∀t,sub σ t=trim t->Wf t
 |.var n,_=>trivial|.aH c l,h=>by
  simp only[sub,trim]at h;by_cases q:Te c l.length
  .rw[if_pos q]at h;injection h with _ h;exact⟨q,H_ l h⟩
  .rw[if_neg q]at h;cases h
def H_{σ:Nat->Ty}:∀l,aS σ l=A9 l->C8 l
 |[],_=>trivial|t::l,h=>by
  simp only[aS,A9]at h;injection h with h1 h2;exact⟨OE t h1,H_ l h2⟩
end
def zS.wf(h:zS θ a b)(ha:Wf a)(hb:Wf b)v:Wf (θ v):=by
 refine OE _<|h.gen (λv=>trim<|θ v) ?_ v;rw[<-yg a ha,<-yg b hb,h.one]
def kI n:Wf (.var n):=trivial
theorem nJ(h:Wf t)(k:∀n,Wf<|σ n):Wf (sub σ t):=Wf.zT t h λn _=>k n
def FtF(z:Ft):Prop:=z.f.kind=6->(Wf z.l/\size z.l<=48)/\Wf z.r/\size z.r<=48
def KF(s:St):=∀n,Wf<|s.k n
def EF(Γ:Env):=∀y c,Γ y=some c->Wf c.of
def MF(mk:Mks):=∀x tk m,mk x=some (tk,m)->C8 tk/\Wf m
def Hf{α:Type}(m:MM α)s(Q:α->Prop):=∀o,m s o->match o with
 |.ok (a,s')=>Q a/\KF s'|.error z=>FtF z
section
variable {s:St}
def Hf.ret{a}{Q:α->Prop}(h:Q a)(k:KF s):Hf (cS a) s Q:=by grind[KF,Hf,cS]
def Hf.and{m}{g}{Q:α->Prop}{R:β->Prop}(h:Hf m s Q)(k:∀a s',Q a->KF s'->Hf (g a) s' R):Hf (andM m g) s R:=by grind[Hf,KF,andM]
def Hf.no{Q:α->Prop}:Hf noM s Q:=λ_ q=>q.elim
def Hf.ite{c:Prop}[Decidable c]{m m'}{Q:α->Prop}(h:c->Hf m s Q)(k:¬c->Hf m' s Q):Hf (if c then m else m') s Q:=yV
def Cy f t:FtF (qA f t):=λh=>JB
def tj(k:KF s):Hf kS s λ_=>True:=by simp_all[KF,Hf,kS]
def pq(k:KF s)(ha:Wf a)(hb:Wf b)f t:Hf (p_ a b f t) s λ_=>True:=λo q=>by
 have h1:=nJ ha k;have h2:=nJ hb k;obtain⟨_,rfl⟩|⟨z1,z2,⟨θ,hm,rfl⟩|⟨_,rfl⟩⟩:=q
 .exact Cy f t
 .exact⟨trivial,λn=>nJ (k n)<|hm.wf h1 h2⟩
 .exact λ_=>⟨⟨h1,z1⟩,h2,z2⟩
def OG(k:KF s)l ρ:Hf (wI l ρ) s λ_=>True:=by simp_all[KF,Hf,wI]
def Xd ρ(h:Wf t):Wf (sub (via ρ) t):=by grind[Wf,sub,via,nJ]
def Dd(k:KF s)(h:Wf t)ρ:Hf (qI t ρ) s λq=>Wf q.1:=(OG k _ _).and λeu _ _ k1=>.ret (Xd eu h) k1
def aeN(k:KF s){Γ:Env}(gn:EF Γ)x f t:Hf (BW Γ x f t) s Wf:=by
 rw[BW]
 cases hx:Γ x with
 |none=>exact .no|some c=>
  rintro o(⟨_,rfl⟩|⟨_,ρ,s',hd,rfl⟩)
  .exact Cy f t
  .exact⟨Xd ρ<|nJ (gn x c hx) k,(OG k _ _ _ hd).2⟩
def aeO{tk}{m}(h:C8 tk)(k:Wf m):Wf (arr tk m):=by
 induction tk with
 |nil=>exact k|cons t tk ih=>exact⟨⟨aK,λ_=>rfl,.inl rfl⟩,h.1,ih h.2,trivial⟩
def yh:Wf dN:=⟨⟨aK,λe=>(by obtain e|e:=e<;>exact absurd e aK),.inr<|.inr ⟨_,_,toList_mk _,aK,aK⟩⟩,trivial⟩
def vQ:Wf iZ:=⟨⟨aK,λe=>(by obtain e|e:=e<;>exact absurd e aK),.inr<|.inr ⟨_,_,toList_mk _,aK,aK⟩⟩,trivial⟩
def De:Wf ya:=⟨⟨aK,λe=>(by obtain e|e:=e<;>exact absurd e aK),.inr<|.inr ⟨_,_,toList_mk _,aK,aK⟩⟩,trivial⟩
def acI(ha:Wf a)(hb:Wf b):Wf (v9 a b):=⟨⟨aK,λ_=>rfl,.inl rfl⟩,ha,hb,trivial⟩
def acJ(ha:Wf a)(hb:Wf b):Wf (S_ a b):=⟨⟨aK,λ_=>rfl,.inr<|.inl rfl⟩,ha,hb,trivial⟩
end
def EF.set{Γ:Env}(h:EF Γ)x{c}(hc:Wf c.of):EF (gR Γ x c):=λy d q=>by
 rw[gR]at q;split at q
 .grind
 .exact h y d q
theorem EF.over{g Γ}(hg:EF g)(h:EF Γ):EF (over g Γ):=by grind[EF,over]
def PF(p:PM):=∀g s,KF s->EF g->Hf (p g) s λq=>Wf q.1/\EF q.2
def XF(p:EM):=∀Γ s,KF s->EF Γ->Hf (p Γ) s Wf
def OH{p:Prop}(h:p:=by
 rw[jd,jj ae];intro _ _ _ _;exact .no):p:=h
def Xe{ps}(h:∀p∈ps,PF p)i:PF (fy ps i):=by
 rw[fy];by_cases hi:i<ps.length
 .exact vN
 .exact OH
def Ld{ps}(h:∀p∈ps,XF p)i:XF (fy ps i):=by
 rw[fy];by_cases hi:i<ps.length
 .exact vN
 .exact OH
def OI:∀(tk:List Ty)(L:List Nd)(ps:List PM),C8 tk->(∀p∈ps,PF p)->∀(g:Env)(ρ:Rn)(s:St),KF s->EF g->Hf (qO tk L ps g ρ) s λq=>EF q.1
 |u::tk,x::L,p::ps,hw,hp,g,ρ,s,k,hg=>by
  rw[qO];refine(hp p ag g s k hg).and λq s1⟨t1,g1⟩k1=>?_;refine(Dd k1 hw.1 ρ).and λi s2 t2 k2=>?_;refine(pq k2 t1 t2 _ _).and λ_ s3 _ k3=>?_;exact OI tk L ps hw.2 (λp h=>hp p<|by simp[h]) q.2 i.2 s3 k3 g1
 |[],_,_,_,_,g,ρ,s,k,hg=>.ret hg k|_::_,[],_,_,_,g,ρ,s,k,hg=>.ret hg k|_::_,_::_,[],_,_,g,ρ,s,k,hg=>.ret hg k
def aeP{mk:Mks}(hm:MF mk)k x L ps(hp:∀p∈ps,PF p):PF (DW mk k x L ps):=by
 intro g s h hg;rw[DW];split
 .exact(tj h).and λv s1 _ k1=>.ret ⟨trivial,hg⟩ k1
 split
 .exact(tj h).and λv s1 _ k1=>.ret ⟨trivial,hg.set _ trivial⟩ k1
 split
 .exact .ret ⟨yh,hg⟩ h
 split
 .exact .ret ⟨vQ,hg⟩ h
 split
 .exact .ret ⟨De,hg⟩ h
 split
 .refine(Xe hp 0 g s h hg).and λa s1⟨t1,g1⟩k1=>?_;refine(Xe hp 1 _ s1 k1 g1).and λb s2⟨t2,g2⟩k2=>?_;exact .ret ⟨acJ t1 t2,g2⟩ k2
 cases e:mk x with
 |none=>exact .no|some p=>
  obtain⟨tk,m⟩:=p;have⟨w1,w2⟩:=hm x tk m e;refine(OI tk L ps w1 hp g Me s h hg).and λq s1 g1 k1=>?_;refine(Dd k1 w2 q.2).and λi s2 t2 k2=>?_;exact .ret ⟨t2,g1⟩ k2
mutual
def Xf{mk:Mks}(hm:MF mk):∀nd,PF<|eh mk nd
 |.mk k s n L f t a=>aeP hm k s L _<|OJ hm L
def OJ{mk:Mks}(hm:MF mk):∀L,∀p∈mT mk L,PF p
 |[],p,h=>by simp[mT]at h|x::l,p,h=>by
  simp only[mT,jf]at h;obtain rfl|h:=h
  .exact Xf hm x
  .exact OJ hm l p h
end
def OK{mk:Mks}(hm:MF mk):∀(L:List Nd)(ps:List EM),(∀p∈ps,XF p)->∀(Γ:Env)(t r:Ty)(s:St),KF s->EF Γ->Wf t->Wf r->Hf (rJ mk Γ t r L ps) s λ_=>True
 |p::e::L,_::pe::ps,hp,Γ,t,r,s,h,gn,ht,hr=>by
  rw[rJ];refine(Xf hm p _ s h<|λ_ _ q=> mD).and λq s1⟨t1,g1⟩k1=>?_;refine(pq k1 ht t1 _ _).and λ_ s2 _ k2=>?_;refine(hp pe ag _ s2 k2<|g1.over gn).and λu s3 t3 k3=>?_;refine(pq k3 hr t3 _ _).and λ_ s4 _ k4=>?_;exact OK hm L ps (λp h=>hp p<|by simp[h]) Γ t r s4 k4 gn ht hr
 |[],_,_,_,_,_,s,h,_,_,_=>.ret trivial h|[_],_,_,_,_,_,s,h,_,_,_=>.ret trivial h|_::_::_,[],_,_,_,_,s,h,_,_,_=>.ret trivial h|_::_::_,[_],_,_,_,_,s,h,_,_,_=>.ret trivial h
def FX rc x e{pe:EM}(hp:XF pe):XF (cH rc x e pe):=by
 intro Γ s h gn;rw[cH]
 cases rc with
 |false=>exact hp Γ s h gn|true=>
  refine(tj h).and λv s1 _ k1=>?_;refine(hp _ s1 k1<|gn.set x (c:=mono<|.var v)<|kI v).and λt s2 t2 k2=>?_;exact(pq k2 (kI v) t2 _ _).and λ_ s3 _ k3=>.ret t2 k3
def Xg rc x e{pe pf:EM}(hp:XF pe)(hf:XF pf):XF (sv rc x e pe pf):=by
 intro Γ s h gn;refine(FX rc x e hp Γ s h gn).and λt s1 t1 k1=>?_;exact hf _ s1 k1<|gn.set x<|nJ t1 k1
def aeQ{mk:Mks}(hm:MF mk)k x L f t ps(hp:∀p∈ps,XF p)(hL:k=14->Wf (aI []<|es<|lP L 1).1):XF (mI mk k x L f t ps):=by
 intro Γ s h gn;have h0:=Ld hp 0;have h1:=Ld hp 1;have h2:=Ld hp 2;rw[mI];refine .ite (λ_=>?_) λ_=>?_
 .exact aeN h gn _ _ _
 refine .ite (λ_=>?_) λ_=>?_
 .rw[upM]
  cases e:mk x with
  |none=>exact .no|some p=>
   obtain⟨tk,m⟩:=p;have⟨w1,w2⟩:=hm x tk m e;exact(Dd h (aeO w1 w2) Me).and λq s1 t1 k1=>.ret t1 k1
 refine .ite (λ_=>?_) λ_=>?_
 .exact .ret yh h
 refine .ite (λ_=>?_) λ_=>?_
 .exact .ret vQ h
 refine .ite (λ_=>?_) λ_=>?_
 .exact .ret De h
 refine .ite (λ_=>?_) λ_=>?_
 .refine(h0 Γ s h gn).and λa s1 t1 k1=>?_;exact(h1 Γ s1 k1 gn).and λb s2 t2 k2=>.ret (acJ t1 t2) k2
 refine .ite (λe=>?_) λ_=>?_
 .refine .ite (λ_=>?_) λ_=>.no;refine(h0 Γ s h gn).and λa s1 t1 k1=>?_;exact(pq k1 t1 (hL e) _ _).and λ_ s2 _ k2=>.ret (hL e) k2
 refine .ite (λ_=>?_) λ_=>?_
 .refine(h0 Γ s h gn).and λa s1 t1 k1=>?_;refine(pq k1 t1 yh _ _).and λ_ s2 _ k2=>?_;refine(h1 Γ s2 k2 gn).and λb s3 t3 k3=>?_;refine(pq k3 t3 yh _ _).and λ_ s4 _ k4=>.ret ?_ k4;split
  .exact vQ
  .exact yh
 refine .ite (λ_=>?_) λ_=>?_
 .refine(h0 Γ s h gn).and λa s1 t1 k1=>?_;refine(h1 Γ s1 k1 gn).and λb s2 t2 k2=>?_;refine(tj k2).and λv s3 _ k3=>?_;exact(pq k3 t1 (acI t2<|kI v) _ _).and λ_ s4 _ k4=>.ret (kI v) k4
 refine .ite (λ_=>?_) λ_=>?_
 .refine(tj h).and λv s1 _ k1=>?_;exact(h0 _ s1 k1<|gn.set _ (c:=mono<|.var v)<|kI v).and λa s2 t2 k2=>.ret (acI (kI v) t2) k2
 refine .ite (λ_=>?_) λ_=>?_
 .exact Xg _ _ _ h0 h1 Γ s h gn
 refine .ite (λ_=>?_) λ_=>?_
 .exact Xg _ _ _ h0 h1 Γ s h gn
 refine .ite (λ_=>?_) λ_=>?_
 .refine(h0 Γ s h gn).and λa s1 t1 k1=>?_;refine(pq k1 t1 vQ _ _).and λ_ s2 _ k2=>?_;refine(h1 Γ s2 k2 gn).and λb s3 t3 k3=>?_;refine(h2 Γ s3 k3 gn).and λc s4 t4 k4=>?_;exact(pq k4 t3 t4 _ _).and λ_ s5 _ k5=>.ret t3 k5
 refine .ite (λ_=>?_) λ_=>?_
 .refine(h0 Γ s h gn).and λa s1 t1 k1=>?_;refine(tj k1).and λv s2 _ k2=>?_;exact(OK hm L.tail ps.tail (λp h=>hp p<|List.mem_of_mem_tail h) Γ a _ s2 k2 gn t1<|kI v).and λ_ s3 _ k3=>.ret (kI v) k3
 .exact .no
mutual
def NW:Nd->Prop
 |.mk k _ _ L _ _ _=>(k=14->Wf (aI []<|es<|lP L 1).1)/\NWL L
def NWL:List Nd->Prop
 |[]=>True|x::l=>NW x/\NWL l
end
mutual
def acm{mk:Mks}(hm:MF mk):∀nd,NW nd->XF (inf mk nd)
 |.mk k s n L f t a,h=>aeQ hm k s L f t _ (Xh hm L h.2) h.1
def Xh{mk:Mks}(hm:MF mk):∀L,NWL L->∀p∈pA mk L,XF p
 |[],_,p,h=>by simp[pA]at h|x::l,hn,p,h=>by
  simp only[pA,jf]at h;obtain rfl|h:=h
  .exact acm hm x hn.1
  .exact Xh hm l hn.2 p h
end
end In
def vn i:=bs (39::118::dec i)
def lvl tight:=if tight=0 then 2 else if tight=1 then 1 else 0
end
end Go.Proofs.YtfnkchdeheeiiaaGreatDoor
