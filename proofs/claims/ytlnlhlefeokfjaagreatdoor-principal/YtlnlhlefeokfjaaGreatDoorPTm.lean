import Derived.Test.YtlnlhlefeokfjaaGreatDoorPPf
import Derived.Test.YtlnlhlefeokfjaaGreatDoorPWj
import Derived.Test.YtlnlhlefeokfjaaGreatDoorPTo
set_option linter.all false
set_option maxRecDepth 100000
set_option maxHeartbeats 2000000
namespace Go.Proofs.YtlnlhlefeokfjaaGreatDoor
open Or renaming inr->ja,inl->jc
open Pu renaming aY->jd,gB->jf,bF->jh,dB->ji,Tok->jj,Ax->jk,gN->jl,at_->jm,fX->jo,rF->jp,ig->jq,mK->jt,dQ->ju
open _root_.List renaming getD_eq_getElem?_getD->jv,mem_cons->jx,cons_append->jy,length->jz,getElem?_eq_getElem->j3,map_nil->j5,map_congr_left->j6,map_cons->j7,range->j8
open Un renaming sub->j9,seen->qe,written->qf
open Go.Lib renaming byteCells->qg
open Go.World renaming setCell->qh,cell?->qi,frozen?->qj
open _root_.Nat renaming lt_of_lt_of_le->qk,le_trans->ql,zero_le->qm,strongRecOn->qn,zero_add->qp
open Go.RowKit.Below renaming heap_setCell->qr
open Go.Value renaming ownBlock->qs
open Go Go.RowKit Proofs.Tryz
variable {C:Array Value} {c last s:BA} {ns:List BA} {p:List Ky} {L L':List Nd} {l m:List UInt8} {xs:List Value} {B N b base f f' i k kb mb n nb pb v:Nat} {ρ bH:Nat->Nat} {K:Nat->Option Un.Ty} {D P Λ cD:Nat->Prop} {R θ σ:Nat->Un.Ty} {e':Nd} {pl:Prop} {α β κ:Type} {e:TypeId} {x:UInt8} {a a' b' t t':Un.Ty} {bv hv iv mv:Value} {w w':World}
section
open Un
def rH(s:BA):Except Fl Nd:=
 if 400<s.size then .error ⟨1,0,0⟩else
 match da (jh s 0) (jh s 0).length 0 with
 |.error f=>.error f|.ok (a,k)=>if(tk (jh s 0) k).kind==7 then .ok a else .error (eK<|tk (jh s 0) k)
def oC(f:Fl):Value:=.agg #[Nv f.kind,Nv f.aF,Nv f.to]
end
section
open Go.ChangeMaps
def VV{p}(h:(aD s p).kind=7):aD s p=jf s:=by
 rw[aD]at h⊢;split at h
 .exfalso;revert h;rw[ji];repeat' split
  all_goals simp[jq]
 .rename_i hn;rw[if_neg hn]
def Ld(hk:k<(jh s 0).length)(h:(tk (jh s 0) k).kind=7):(aD s (tk (jh s 0) k).to).kind≠6:=by
 rw[jM s k hk]at h⊢;rw[VV h];show(aD s s.size).kind≠6;rw[aD];rw[if_neg (by rw[jt<|br _];omega)];simp[jf]
abbrev uG:BA:=⟨#[116,104,101,32,101,110,100]⟩
def Ke.low{rb B}{a b c}(k:Ke rb b c)(h:Below B a b)(hB:B<=b.heap.size)(hr:B<=rb):Below B a c:=
 ⟨k.os.trans h.os,k.tape.trans h.tape,k.output.trans h.output,ql h.size k.size,λi hi=>(k.block i (qk hi hB) ae).trans<|h.block i hi⟩
def wi(s:BA):∀f i,(jp s f i).length<=f+1
 |0,i=>by simp[jp]|f+1,i=>by
  rw[jp];split
  .split
   .have:=wi s f<|i+1;omega
   .have:=wi s f (ji s i).to;simp;omega
  .simp
theorem Lf s i:(jh s i).length<=s.size-i+1:=wi s _ _
end
def Has(s:BA)(i:Nat)(l:List UInt8):=∀j(h:j<l.length),i+j<s.size/\jm s (i+j)=l[j].toNat
def Has.left(h:Has s i (l++m)):Has s i l:=λj hj=>by
 have:=h j bD
 rwa[List.getElem_append_left hj]at this
def Has.right(h:Has s i (l++m)):Has s (i+l.length) m:=λj hj=>by
 have:=h (l.length+j) bD;rw[List.getElem_append_right ae]at this;simpa[Nat.add_assoc]using this
def Has.hd(h:Has s i (x::m)):i<s.size/\jm s i=x.toNat:=h 0 ag
def Has.tl(h:Has s i (x::m)):Has s (i+1) m:=λj hj=>by
 have:=h (j+1) bD;simpa[Nat.add_assoc,Nat.add_comm 1 j]using this
def Has.le(h:Has s i l)(hi:i<=s.size):i+l.length<=s.size:=by
 cases l with
 |nil=>simpa using hi|cons x r=>have:=(h r.length ag).1;simp;omega
def Has.ext(h:Has s i l)(hi:i<=s.size):(s.extract i<|i+l.length).toList=l:=by
 have hle:=h.le hi;rw[ByteArray.toList_eq,ByteArray.data_extract];apply List.ext_getElem
 .have hd:s.data.size=s.size:=rfl;simp;omega
 .intro j h1 h2;have⟨h3,h4⟩:=h j h2;rw[Pu.n9 h3]at h4;have:s[i+j]=l[j]:=UInt8.toNat_inj.1 h4;rw[<-this];simp[ByteArray.getElem_eq_getElem_data]
def Has.end_{s:BA}{p:Nat->Bool}:∀{l:List UInt8}{i:Nat},Has s i l->(∀x∈l,p x.toNat=true)->p (jm s<|i+l.length)=false->Pu.aM s p i=i+l.length
 |[],i,_,_,hn=>by
  simp at hn;by_cases hi:i<s.size
  .simpa using Pu.pC hi hn
  .simpa using jt ae
 |x::r,i,h,hp,hn=>by
   rw[Pu.fY h.hd.1 (by rw[h.hd.2];exact hp x ag),Has.end_ h.tl (λy hy=>hp y<|by simp[hy])<|by simpa[Nat.add_assoc,Nat.add_comm 1]using hn];simp[Nat.add_assoc,Nat.add_comm 1]
def Lx(nb:Bool)(l:List UInt8)(p:List Ky):=∀s i,Has s i l->i<=s.size->(nb=true->jd (jm s<|i+l.length)=false)->∃T,jh s i=T++jh s (i+l.length)/\T.map eJ=p
def Lx.ol{b1 b2}{l1 l2}{p1 p2}(h1:Lx b1 l1 p1)(h2:Lx b2 l2 p2)(hb:b1=true->∃x r,l2=x::r/\jd x.toNat=false):Lx b2 (l1++l2) (p1++p2):=by
 intro s i hs hi hn;have hl:=hs.left.le hi
 have⟨T1,e1,k1⟩:=h1 s i hs.left hi (λq=>by
  obtain⟨x,r,rfl,hx⟩:=hb q;rw[hs.right.hd.2]
  exact hx)
 have⟨T2,e2,k2⟩:=h2 s (i+l1.length) hs.right hl (λq=>by have:=hn q;simpa[Nat.add_assoc]using this);refine⟨T1++T2,?_,by simp[k1,k2]⟩;rw[e1,e2];simp[Nat.add_assoc]
def Lx.tJ{b}(h:Lx b l p):Lx true l p:=λs i hs hi hn=>h s i hs hi<|λ_=>hn rfl
def fh:Lx false [32] []:=by
 intro s i hs hi _;refine⟨[],?_,rfl⟩;rw[Pu.AM hs.hd.1 (by rw[hs.hd.2];rfl)];rfl
def nR(hs:Has s i l)(hi:i<=s.size)(h0:i<s.size)(hb:Pu.cP (jm s i)=false)(ht:ji s i=jq s i k (i+l.length)):∃T,jh s i=T++jh s (i+l.length)/\T.map eJ=[(k,l)]:=by
 refine⟨[jq s i k<|i+l.length],?_,?_⟩
 .rw[Pu.Kv h0 hb,ht];rfl
 .simp only[j7,j5,eJ,jq];rw[hs.ext hi]
def lM c(hc:c=40\/c=41\/c=44):Lx false [c] [(5,[c])]:=by
 intro s i hs hi _;have⟨h0,h1⟩:=hs.hd;refine nR hs hi h0 ?_ ?_
 .rw[h1];obtain rfl|rfl|rfl:=hc<;>rfl
 .rw[ji];rw[h1];obtain rfl|rfl|rfl:=hc<;>simp[jl,jk,ju,Pu.xW]
def Lg:Lx false [45,62] [(5,[45,62])]:=by
 intro s i hs hi _;have⟨h0,h1⟩:=hs.hd;have⟨h2,h3⟩:=hs.tl.hd;refine nR hs hi h0 ?_ ?_
 .rw[h1];rfl
 .rw[ji];rw[h1,h3];simp[jl,jk,ju]
def DX x r(hx:jk x.toNat=true)(hr:∀y∈r,jd y.toNat=true):Lx true (x::r) [(2,x::r)]:=by
 intro s i hs hi hn;have⟨h0,h1⟩:=hs.hd;have lY:jl x.toNat=false:=by simp[jk]at hx;simp[jl];omega
 have he:=hs.end_ (p:=jd) (λy hy=>by
  obtain rfl|hy:=List.mem_cons.1 hy
  .simp[jd,hx]
  .exact hr y hy) (hn rfl)
 refine nR hs hi h0 ?_ ?_
 .rw[h1];simp[jk]at hx;simp[Pu.cP];omega
 .rw[ji];rw[h1,he];simp[lY,hx]
def aa1 x r(hx:jl x.toNat=true)(hr:∀y∈r,jd y.toNat=true)(hw:jo ⟨(x::r).toArray⟩=false):Lx true (39::x::r) [(3,39::x::r)]:=by
 intro s i hs hi hn;have⟨h0,h1⟩:=hs.hd;have⟨h2,h3⟩:=hs.tl.hd
 have he:=hs.tl.end_ (p:=jd) (λy hy=>by
  obtain rfl|hy:=List.mem_cons.1 hy
  .simp[jd,hx]
  .exact hr y hy) (by have:=hn rfl;simpa[Nat.add_assoc,Nat.add_comm 1]using this)
 have hx2:s.extract (i+1) (i+1+(x::r).length)=⟨(x::r).toArray⟩:=lK (by rw[hs.tl.ext ae,toList_mk]);refine nR hs hi h0 ?_ ?_
 .rw[h1];rfl
 .rw[ji];rw[h1,h3,he,hx2,hw,if_neg aw,if_neg aw,if_pos ⟨aw,hx⟩,if_neg aw];simp[Nat.add_assoc,Nat.add_comm 1]
def Zw l:Has (bs l) 0 l:=by
 intro j hj;have h1:0+j<(bs l).size:=by rw[cq];omega
 refine⟨h1,?_⟩;rw[Pu.n9 h1];simp[bs,ByteArray.getElem_eq_getElem_data]
def Lh{t}(hl:Lx true l p)(hg:Gr 2 p t)(hz:l.length<=400):∃nd,rH (bs l)=.ok nd/\er nd=t:=by
 have⟨T,e,k⟩:=hl (bs l) 0 (Zw l) (qm _) (λ_=>by rw[Pu.RH (s:=bs l) (i:=0+l.length) (by rw[cq];omega)];rfl);rw[Pu.Aw (s:=bs l) (i:=0+l.length) (by rw[cq];omega)]at e;have hlen:T.length=p.length:=by rw[<-k];simp
 have hs:gy (T++[jf<|bs l]) 0 p:=λi hi=>by
  have:tk (T++[jf<|bs l]) (0+i)=T[i]'(by omega):=by
   rw[tk];rw[qp,jv,List.getElem?_append_left ae,j3 ae];rfl
  rw[this];subst k;simp
 have Zx:tk (T++[jf<|bs l]) (0+p.length)=jf (bs l):=by
  rw[tk];rw[qp,jv,List.getElem?_append_right ae,hlen];simp
 have⟨nd,e1,hr⟩:=hg.reads (T++[jf<|bs l]) 0 (T++[jf<|bs l]).length hs bD bD (by
  rw[aaD];rw[Zx,dH,eO]
  exact⟨by simp[eJ,jf],by simp[eJ,jf]⟩)
 refine⟨nd,?_,e1⟩;rw[rH];rw[if_neg (by rw[cq];omega),e,hr];simp only[Zx];rfl
section
open Un
namespace In
structure I7 where
 of:Ty
 any:List Nat
structure St where
 k:Nat->Ty
 u:Nat->Prop
structure Ft where
 f:Fl
 l:Ty
 r:Ty
abbrev Env:=BA->Option I7
abbrev Mks:=BA->Option (List Ty×Ty)
abbrev Rn:=Nat->Option Nat
abbrev MM(α:Type):=St->Except Ft (α×St)->Prop
def cH(a:α):MM α:=λs o=>o=.ok (a,s)
def andM(m:MM α)(g:α->MM β):MM β:=λs o=>(∃x,m s (.error x)/\o=.error x)\/∃a s',m s (.ok (a,s'))/\g a s' o
def noM:MM α:=λ_ _=>False
def jH:MM Nat:=λs o=>∃v,¬s.u v/\o=.ok (v,⟨s.k,λn=>s.u n\/n=v⟩)
structure yi θ a b:Prop where
 one:sub θ a=sub θ b
 gen:∀σ,sub σ a=sub σ b->∀v,sub σ (θ v)=σ v
 out:∀v,¬aB v a->¬aB v b->θ v=.var v
 rng:∀v n,aB v a\/aB v b->aB n (θ v)->aB n a\/aB n b
def q_(f t:Nat):Ft:=⟨⟨7,f,t⟩,.var 0,.var 0⟩
def sW(a b:Ty)(f t:Nat):MM Unit:=λs o=>
 ((48<size (sub s.k a)\/48<size (sub s.k b))/\o=.error (q_ f t))\/
 (size (sub s.k a)<=48/\size (sub s.k b)<=48/\((∃θ,yi θ (sub s.k a) (sub s.k b)/\o=.ok ((),⟨λv=>sub θ<|s.k v,s.u⟩))\/((∀σ,sub σ (sub s.k a)≠sub σ (sub s.k b))/\o=.error ⟨⟨6,f,t⟩,sub s.k a,sub s.k b⟩)))
structure Dp(l:List Nat)(ρ dP:Rn)(u u':Nat->Prop):Prop where
 eW:∀v n,ρ v=some n->dP v=some n
 out:∀v,v∉l->dP v=ρ v
 all:∀v,v∈l->dP v≠none
 new:∀v n,ρ v=none->dP v=some n->¬u n
 one:∀v v' n,ρ v=none->dP v=some n->dP v'=some n->v=v'
 use:∀n,u' n↔u n\/∃v,ρ v=none/\dP v=some n
def tq(l:List Nat)(ρ:Rn):MM Rn:=λs o=>∃dP u',Dp l ρ dP s.u u'/\o=.ok (dP,⟨s.k,u'⟩)
def Cd:Rn:=λ_=>none
def via(ρ:Rn):Nat->Ty:=λv=>match ρ v with
 |some n=>.var n|none=>.var v
def cz(Γ:Env)x c:=λy=>if y=x then some c else Γ y
def lR(Γ:Env)x:=λy=>if y=x then none else Γ y
def over(g Γ:Env):Env:=λy=>match g y with
 |some c=>some c|none=>Γ y
abbrev mono(t:Ty):I7:=⟨t,[]⟩
def wZ(Γ:Env)k v:=∃y c,Γ y=some c/\aB v (sub k c.of)/\v∉c.any
open Classical in
noncomputable def zL (Γ:Env) (k:Nat->Ty) (T:Ty):List Nat:=(vars [] T).filter λv=>decide (¬wZ Γ k v)
noncomputable def eU (Γ:Env) (k:Nat->Ty) (t:Ty) (v:Bool):I7:=⟨sub k t,if v then zL Γ k (sub k t)else[]⟩
abbrev nC:Ty:=.aJ lh []
abbrev th:Ty:=.aJ gS []
abbrev mP:Ty:=.aJ jC []
abbrev l9(a b:Ty):Ty:=.aJ m9 [a,b]
abbrev tPr(a b:Ty):Ty:=.aJ lq [a,b]
def arr(tk:List Ty)m:=tk.foldr l9 m
def kZ:Nd->Nat|.mk _ _ _ _ f _ _=>f
def BT:Nd->Nat|.mk _ _ _ _ _ t _=>t
def D6:Nd->Nat|.mk k _ _ _ _ _ _=>k
mutual
def rK:Nd->Bool
 |.mk k _ _ L _ _ _=>if k=6 then Uy L else if k=14 then Nq L else if k=8 then isC L&&Nt L else k==1||k==2||k==3||k==4||k==5||k==9
def Uy:List Nd->Bool
 |[]=>true|x::l=>rK x&&Uy l
def Nq:List Nd->Bool
 |[]=>false|x::_=>rK x
def Nt:List Nd->Bool
 |[]=>false|_::l=>Nq l
def isC:List Nd->Bool
 |[]=>false|x::_=>isM x
def isM:Nd->Bool
 |.mk k _ _ L _ _ _=>if k=8 then isC L&&Nt L else k==2
end
def qT(Γ:Env)(x:BA)(f t:Nat):MM Ty:=match Γ x with
 |none=>noM|some c=>λs o=>(48<size (sub s.k c.of)/\o=.error (q_ f t))\/(size (sub s.k c.of)<=48/\∃ρ s',tq c.any Cd s (.ok (ρ,s'))/\o=.ok (sub (via ρ)<|sub s.k c.of,s'))
def rj t ρ:=andM (tq (vars [] t) ρ) λdP=>cH (sub (via dP) t,dP)
def upM(mk:Mks)x:=match mk x with
 |none=>noM|some (tk,m)=>andM (rj (arr tk m) Cd) λq=>cH q.1
abbrev PM:=Env->MM (Ty×Env)
abbrev EM:=Env->MM Ty
def kB:List Ty->List Nd->List PM->Env->Rn->MM (Env×Rn)
 |u::tk,x::L,p::ps,g,ρ=>andM (p g) λq=>andM (rj u ρ) λi=>andM (sW q.1 i.1 (kZ x)<|BT x) λ_=>kB tk L ps q.2 i.2|_,_,_,g,ρ=>cH (g,ρ)
def dr{α:Type}(ps:List (Env->MM α))i:=ps.getD i λ_=>noM
def rP(mk:Mks)k s L ps g:=
 if k=15 then andM jH λv=>cH (.var v,g)
 else if k=1 then andM jH λv=>cH (.var v,cz g s<|mono<|.var v)
 else if k=3 then cH (nC,g)
 else if k=4 then cH (th,g)
 else if k=5 then cH (mP,g)
 else if k=6 then andM (dr ps 0 g) λa=>andM (dr ps 1 a.2) λb=>cH (tPr a.1 b.1,b.2)
 else match mk s with
  |none=>noM|some (tk,m)=>andM (kB tk L ps g Cd) λq=>andM (rj m q.2) λi=>cH (i.1,q.1)
mutual
def dv(mk:Mks):Nd->PM
 |.mk k s _ L _ _ _=>rP mk k s L<|mA mk L
def mA(mk:Mks):List Nd->List PM
 |[]=>[]|x::l=>dv mk x::mA mk l
end
def n_(mk:Mks)(Γ:Env)(t r:Ty):List Nd->List EM->MM Unit
 |p::e::L,_::pe::ps=>andM (dv mk p λ_=>none) λq=>andM (sW t q.1 (kZ p)<|BT p) λ_=>andM (pe<|over q.2 Γ) λu=>andM (sW r u (kZ e)<|BT e) λ_=>n_ mk Γ t r L ps|_,_=>cH ()
def ch(rc:Bool)x e(pe:EM)Γ:=
 if rc then andM jH λv=>andM (pe<|cz Γ x<|mono<|.var v) λt=>andM (sW (.var v) t (kZ e)<|BT e) λ_=>cH t
 else pe Γ
noncomputable def qR (rc:Bool) (x:BA) (e:Nd) (pe pf:EM) (Γ:Env):MM Ty:=
 andM (ch rc x e pe Γ) λt=>λs=>pf (cz Γ x<|eU (if rc then lR Γ x else Γ) s.k t (rK e)) s
def nd0:Nd:=.mk 0 ⟨#[]⟩ 0 [] 0 0 0
def iV(L:List Nd)i:=L.getD i nd0
noncomputable def li (mk:Mks) (k:Nat) (s:BA) (L:List Nd) (f t:Nat) (ps:List EM) (Γ:Env):MM Ty:=
 if k=1 then qT Γ s f t
 else if k=2 then upM mk s
 else if k=3 then cH nC
 else if k=4 then cH th
 else if k=5 then cH mP
 else if k=6 then andM (dr ps 0 Γ) λa=>andM (dr ps 1 Γ) λb=>cH<|tPr a b
 else if k=14 then(if vars [] (aI []<|es<|iV L 1).1=[]then andM (dr ps 0 Γ) λa=>andM (sW a (aI []<|es<|iV L 1).1 (kZ<|iV L 0)<|BT<|iV L 0) λ_=>cH (aI []<|es<|iV L 1).1 else noM)
 else if k=7 then andM (dr ps 0 Γ) λa=>andM (sW a nC (kZ<|iV L 0)<|BT<|iV L 0) λ_=>andM (dr ps 1 Γ) λb=>andM (sW b nC (kZ<|iV L 1)<|BT<|iV L 1) λ_=>cH<|if s=iC then th else nC
 else if k=8 then andM (dr ps 0 Γ) λa=>andM (dr ps 1 Γ) λb=>andM jH λv=>andM (sW a (l9 b<|.var v) f t) λ_=>cH<|.var v
 else if k=9 then andM jH λv=>andM (dr ps 0<|cz Γ s<|mono<|.var v) λa=>cH<|l9 (.var v) a
 else if k=10 then qR false s (iV L 0) (dr ps 0) (dr ps 1) Γ
 else if k=11 then qR true s (iV L 0) (dr ps 0) (dr ps 1) Γ
 else if k=12 then andM (dr ps 0 Γ) λa=>andM (sW a th (kZ<|iV L 0)<|BT<|iV L 0) λ_=>andM (dr ps 1 Γ) λb=>andM (dr ps 2 Γ) λc=>andM (sW b c (kZ<|iV L 2)<|BT<|iV L 2) λ_=>cH b
 else if k=13 then andM (dr ps 0 Γ) λa=>andM jH λv=>andM (n_ mk Γ a (.var v) L.tail ps.tail) λ_=>cH<|.var v
 else noM
mutual
noncomputable def inf (mk:Mks):Nd->EM
 |.mk k s _ L f t _=>li mk k s L f t<|qQ mk L
noncomputable def qQ (mk:Mks):List Nd->List EM
 |[]=>[]|x::l=>inf mk x::qQ mk l
end
def DE ns(m:Nd):=match m with|.mk _ _ _ L _ _ _=>(aG ns<|dz L).1
def Ac:Nd->BA|.mk _ s _ _ _ _ _=>s
def N'(t:jj)(vs:List jj):Ty:=.aJ t.text<|(j8 vs.length).map λi=>.var<|i+1
def oQ(t:jj)(vs:List jj):List Nd->Mks->Mks
 |[],mk=>mk|m::r,mk=>oQ t vs r λy=>if y=Ac m then some (DE (vs.map (·.text)) m,N' t vs)else mk y
def eu t:=sub (λ_=>mP) t
end In
mutual
def Nd.ind{P:Nd->Prop}(H:∀k s n L f t a,(∀x∈L,P x)->P (.mk k s n L f t a)):∀nd,P nd
 |.mk k s n L f t a=>H k s n L f t a<|Nd.akc H L
def Nd.akc{P:Nd->Prop}(H:∀k s n L f t a,(∀x∈L,P x)->P (.mk k s n L f t a)):∀L:List Nd,∀x∈L,P x
 |[]=>λx hx=>absurd hx ag|y::l=>λx hx=>by
  obtain h|h:=List.mem_cons.1 hx
  .rw[h];exact Nd.ind H y
  .exact Nd.akc H l x h
end
def sY:∀{L:List Nd}{x:Nd},x∈L->nn x<=bV L
 |y::l,x,h=>by
  simp only[bV];obtain rfl|q:=List.mem_cons.1 h
  .omega
  .have:=sY q;omega
def Nc:Dc->Nat
 |.ty _ vs ms=>1+vs.length+bV ms|.lt _ _ b=>1+nn b
def Iz(l:List Dc):Nat:=(l.map Nc).sum
def mG d l:Iz (d::l)=Nc d+Iz l:=by simp[Iz]
def Sl:∀{l:List Dc}{d:Dc},d∈l->Nc d<=Iz l
 |x::r,d,h=>by
  rw[mG];obtain rfl|q:=List.mem_cons.1 h
  .omega
  .have:=Sl q;omega
def GY:∀l:List Dc,l.length<=Iz l
 |[]=>qm _|d::r=>by
  rw[mG];have:=GY r;have:1<=Nc d:=by cases d<;>simp[Nc]<;>omega
  simp only[kh];omega
mutual
def k_:Nd->List BA
 |.mk k s _ L _ _ _=>if k=1 then[s]else fE L
def fE:List Nd->List BA
 |[]=>[]|x::l=>k_ x++fE l
end
mutual
def uV(ty F:BA->Option Nat):Nd->Bool
 |.mk k s _ L _ _ _=>(if k=16 then(F<|s.extract 1 s.size).isSome else if k=2 then ty s==some L.length else(k==6||k==17)&&L.length==2)&&lP ty F L
def lP(ty F:BA->Option Nat):List Nd->Bool
 |[]=>true|x::l=>uV ty F x&&lP ty F l
end
def rN:BA->Option Nat:=yj (yj Xb ⟨#[76]⟩ 1) ⟨#[83]⟩ 0
inductive rf(mk:In.Mks)(nl:List BA):Nd->Prop where
 |leaf(k:Nat)(s:BA)(n f t a:Nat)(h:k=15\/k=3\/k=4\/k=5):rf mk nl (.mk k s n [] f t a)
 |low(s:BA)(n f t a:Nat)(h:s∈nl):rf mk nl (.mk 1 s n [] f t a)
 |pr(s:BA)(n:Nat)(x y:Nd)(f t a:Nat)(hx:rf mk nl x)(hy:rf mk nl y):rf mk nl (.mk 6 s n [x,y] f t a)
 |up(s:BA)(n:Nat)(L:List Nd)(f t a:Nat)(tk:List Ty)(m:Ty)(h:mk s=some (tk,m))(hl:L.length=tk.length)(hr:∀i(h:i<L.length),rf mk nl L[i]):rf mk nl (.mk 2 s n L f t a)
inductive ScE(mk:In.Mks)(nl:List BA):(BA->Prop)->Nd->Prop where
 |low(dom:BA->Prop)(s:BA)(n f t a:Nat)(h:dom s):ScE mk nl dom (.mk 1 s n [] f t a)
 |up(dom:BA->Prop)(s:BA)(n f t a:Nat)(tk:List Ty)(m:Ty)(h:mk s=some (tk,m)):ScE mk nl dom (.mk 2 s n [] f t a)
 |leaf(dom:BA->Prop)(k:Nat)(s:BA)(n f t a:Nat)(h:k=3\/k=4\/k=5):ScE mk nl dom (.mk k s n [] f t a)
 |two(dom:BA->Prop)(k:Nat)(s:BA)(n:Nat)(x y:Nd)(f t a:Nat)(h:k=6\/k=8)(hx:ScE mk nl dom x)(hy:ScE mk nl dom y):ScE mk nl dom (.mk k s n [x,y] f t a)
 |of(dom:BA->Prop)(s:BA)(n:Nat)(x y:Nd)(f t a:Nat)(hx:ScE mk nl dom x)(hv:vars [] (aI []<|es y).1=[])(hz:size (aI []<|es y).1<=1000)(hw:Whole (aI []<|es y).1)(hk:uV rN (λ_=>none) y=true)(hN:mk ⟨#[78]⟩≠none):ScE mk nl dom (.mk 14 s n [x,y] f t a)
 |fn(dom:BA->Prop)(s:BA)(n:Nat)(x:Nd)(f t a:Nat)(hs:s∈nl)(hx:ScE mk nl (λv=>dom v\/v=s) x):ScE mk nl dom (.mk 9 s n [x] f t a)
 |lt(dom:BA->Prop)(c:Nat)(s:BA)(n:Nat)(x z:Nd)(f t a:Nat)(hs:s∈nl)(hc:c=10)(hx:ScE mk nl (λv=>dom v\/(c=11/\v=s)) x)(hz:ScE mk nl (λv=>dom v\/v=s) z):ScE mk nl dom (.mk c s n [x,z] f t a)
 |ite(dom:BA->Prop)(s:BA)(n:Nat)(x y z:Nd)(f t a:Nat)(hx:ScE mk nl dom x)(hy:ScE mk nl dom y)(hz:ScE mk nl dom z):ScE mk nl dom (.mk 12 s n [x,y,z] f t a)
 |mt(dom:BA->Prop)(s:BA)(n:Nat)(x:Nd)(A:List (Nd×Nd))(f t a:Nat)(hx:ScE mk nl dom x)(hp:∀i(h:i<A.length),rf mk nl A[i].1/\(k_ A[i].1).Nodup)(he:∀i(h:i<A.length),ScE mk nl (λv=>dom v\/v∈k_ A[i].1) A[i].2):ScE mk nl dom (.mk 13 s n (x::bq A) f t a)
section
variable {mk:In.Mks} {nl:List BA} {dom:BA->Prop} {st:BA} {t a:Nat} {x y z:Nd} {A:List (Nd×Nd)}
def Li:∀{A B:List (Nd×Nd)},bq A=bq B->A=B
 |[],[],_=>rfl|[],_::_,h=>by simp[bq]at h|_::_,[],h=>by simp[bq]at h|p::A,q::B,h=>by
  simp only[bq,List.cons.injEq]at h;rw[Li h.2.2,Prod.ext h.1 h.2.1]
def Qr:∀(A:List (Nd×Nd))(i:Nat)(h:i<A.length),nn A[i].1+nn A[i].2<=bV (bq A)
 |p::A,0,_=>by simp[bq,bV]<;>omega|p::A,i+1,h=>by have:=Qr A i Fe;simp[bq,bV];omega
def Sm:∀(A:List (Nd×Nd))(j:Nat)(h:j<A.length),A[j].1∈bq A/\A[j].2∈bq A
 |p::r,0,h=>by simp[bq]|p::r,j+1,h=>by have:=Sm r j Fe;simp only[bq,jx];exact⟨.inr<|.inr this.1,.inr<|.inr this.2⟩
def Lj:∀A:List (Nd×Nd),A.length<=bV (bq A)
 |[]=>qm _|p::r=>by have:=Lj r;have:=rZ p.1;simp[bq,bV];omega
def aa2(hs:ScE mk nl dom (.mk 13 st n (x::bq A) f t a)):ScE mk nl dom x/\(∀i(h:i<A.length),rf mk nl A[i].1/\(k_ A[i].1).Nodup)/\∀i(h:i<A.length),ScE mk nl (λv=>dom v\/v∈k_ A[i].1) A[i].2:=by
 generalize hL:x::bq A=L at hs
 cases hs with
 |mt _ _ _ x' A' _ _ _ hx hp he=>
  injection hL with h1 h2;subst h1;obtain rfl:=Li h2;exact⟨hx,hp,he⟩
 |leaf _ _ _ _ _ _ _ hk=>omega|two _ _ _ _ _ _ _ _ _ hk=>omega|lt _ _ _ _ _ _ _ _ _ _ hk=>omega
def ScE.YB{K}(h:ScE mk nl dom (.mk K st n [x,z] f t a))(hK:K=10\/K=11):K=10/\st∈nl/\ScE mk nl (λv=>dom v\/(K=11/\v=st)) x/\ScE mk nl (λv=>dom v\/v=st) z:=by
 generalize pW:Nd.mk K st n [x,z] f t a=nd at h
 cases h
 case lt c s n x z f t a hs hc hx hz=>
  injection pW with e1 e2 e3 e4;injection e4 with e4 e5;injection e5 with e5;subst e1 e2 e4 e5;exact⟨hc,hs,hx,hz⟩
 all_goals
  exfalso;injection pW with e1;omega
def vB(h:ScE mk nl dom (.mk k st n [x,y] f t a))(hk:k=6\/k=7\/k=8):k≠7/\ScE mk nl dom x/\ScE mk nl dom y:=by
 obtain rfl|rfl|rfl:=hk<;>cases h with
 |two _ _ _ _ _ _ _ _ _ hk hx hy=>exact⟨ae,hx,hy⟩|lt _ _ _ _ _ _ _ _ _ _ hk=>omega
end
namespace In
mutual
def bN{n:Nat}{σ:Nat->Ty}:∀t,aB n (sub σ t)↔∃m,aB m t/\aB n (σ m)
 |.var m=>by simp[sub,aB]|.aJ c l=>by simp[sub,aB,Lk l]
def Lk{n:Nat}{σ:Nat->Ty}:∀l,bX n (aP σ l)↔∃m,bX m l/\aB n (σ m)
 |[]=>by simp[aP,bX]|t::l=>by
  simp only[aP,bX,bN t,Lk l];constructor
  .rintro(⟨m,a,b⟩|⟨m,a,b⟩)
   .exact⟨m,jc a,b⟩
   .exact⟨m,ja a,b⟩
  .rintro⟨m,a|a,b⟩
   .exact jc ⟨m,a,b⟩
   .exact ja ⟨m,a,b⟩
end
def fs(h:∀n,aB n t->σ n=.var n):sub σ t=t:=(sub_congr t h).trans<|cI t
def ahA(h:sub σ t=t)(hn:aB n t):σ n=.var n:=Q0 t (h.trans (cI t).symm) n hn
def yi.idem{b:Ty}(h:yi θ a b)v:sub θ (θ v)=θ v:=h.gen θ h.one v
def yi.fix{b:Ty}(h:yi θ a b)(hn:aB n (θ v)):θ n=.var n:=ahA (h.idem v) hn
structure Ok(s:St):Prop where
 out:∀v,¬s.u v->s.k v=.var v
 use:∀v n,s.u v->aB n (s.k v)->s.u n
 idem:∀v n,aB n (s.k v)->s.k n=.var n
def Ok.om{s:St}(h:Ok s)(ht:∀n,aB n t->s.u n)(hn:aB n (sub s.k t)):s.u n/\s.k n=.var n:=by
 have⟨m,h1,h2⟩:=(bN t).1 hn;exact⟨h.use m n (ht m h1) h2,h.idem m n h2⟩
def Ok.rA{s:St}(h:Ok s)t:sub s.k (sub s.k t)=sub s.k t:=by
 refine fs λn hn=>?_;have⟨m,_,h2⟩:=(bN t).1 hn;exact h.idem m n h2
structure M5(Λ:Nat->Prop)(s s':St):Prop where
 mono:∀n,s.u n->s'.u n
 step:∃θ:Nat->Ty,(∀v,s'.k v=sub θ (s.k v))/\(∀v,¬Λ v->θ v=.var v)/\∀v n,Λ v->aB n (θ v)->Λ n
def M5.refl Λ s:M5 Λ s s:=⟨λ_ h=>h,Ty.var,λ_=>(cI _).symm,λ_ _=>rfl,λv n h k=>by simp[aB]at k;subst k;exact h⟩
def M5.trans{s s1 s2:St}(h:M5 Λ s s1)(k:M5 Λ s1 s2):M5 Λ s s2:=by
 obtain⟨h1,θ,a1,a2,a3⟩:=h;obtain⟨k1,τ,b1,b2,b3⟩:=k;refine⟨λn q=>k1 n<|h1 n q,λv=>sub τ<|θ v,λv=>by rw[b1,a1,sub_sub],λv hv=>by show sub τ (θ v)=_;rw[a2 v hv,sub,b2 v hv],λv n hv hn=>?_⟩;have⟨m,c1,c2⟩:=(bN _).1 hn;exact b3 m n (a3 v m hv c1) c2
def M5.wide{M}{s s':St}(h:M5 Λ s s')(hm:∀n,Λ n->M n):M5 M s s':=by
 obtain⟨h1,θ,a1,a2,a3⟩:=h;refine⟨h1,θ,a1,λv hv=>a2 v λq=>hv<|hm v q,λv n hv hn=>?_⟩;by_cases q:Λ v
 .grind
 .rw[a2 v q]at hn;simp[aB]at hn;subst hn;exact hv
structure cA(Λ:Nat->Prop)(s:St)t:Prop where
 use:∀n,aB n t->s.u n
 loc:∀n,aB n (sub s.k t)->Λ n
def GZ{s s':St}(h:∀v,s'.k v=sub θ (s.k v))t:sub s'.k t=sub θ (sub s.k t):=by grind[sub,sub_sub,sub_congr]
def cA.run{s s':St}(h:cA Λ s t)(r:M5 Λ s s'):cA Λ s' t:=by
 have⟨θ,a1,a2,a3⟩:=r.step;refine⟨λn hn=>r.mono n<|h.use n hn,λn hn=>?_⟩;rw[GZ a1]at hn;have⟨m,c1,c2⟩:=(bN _).1 hn;exact a3 m n (h.loc m c1) c2
structure nZ(Λ:Nat->Prop)(s:St)(c:I7):Prop where
 use:∀n,aB n c.of->s.u n
 loc:∀n,aB n (sub s.k c.of)->n∈c.any\/Λ n
 fix:∀v,v∈c.any->s.k v=.var v/\¬Λ v
 sub:∀v,v∈c.any->aB v c.of
def nZ.run{s s':St}{c:I7}(h:nZ Λ s c)(r:M5 Λ s s'):nZ Λ s' c:=by
 have⟨θ,a1,a2,a3⟩:=r.step;refine⟨λn hn=>r.mono n<|h.use n hn,λn hn=>?_,λv hv=>?_,h.sub⟩
 .rw[GZ a1]at hn;have⟨m,c1,c2⟩:=(bN _).1 hn;obtain q|q:=h.loc m c1
  .rw[a2 m (h.fix m q).2]at c2;simp[aB]at c2;subst c2;exact jc q
  .grind
 .have⟨q1,q2⟩:=h.fix v hv;exact⟨by rw[a1,q1,j9,a2 v q2],q2⟩
def bC Λ s(Γ:Env):=∀y c,Γ y=some c->nZ Λ s c
def bC.run{Λ}{s s'}{Γ}(h:bC Λ s Γ)(r:M5 Λ s s'):bC Λ s' Γ:=λy c q=>(h y c q).run r
def cA.mono{s:St}(h:cA Λ s t):nZ Λ s (mono t):=⟨h.use,λn hn=>ja<|h.loc n hn,λv hv=>(by simp at hv),λv hv=>(by simp at hv)⟩
def bC.set{s:St}{Γ}(h:bC Λ s Γ)x{c:I7}(hc:nZ Λ s c):bC Λ s (cz Γ x c):=λy d q=>by
 rw[cz]at q;split at q
 .grind
 .exact h y d q
theorem bC.over{Λ}{s}{g Γ}(hg:bC Λ s g)(h:bC Λ s Γ):bC Λ s (over g Γ):=by grind[bC,over]
def bC.none Λ s:bC Λ s (λ_=>none):=by grind[bC]
def dq{α:Type}(m:MM α)s(Q:α->St->Prop):=∀a s',m s (.ok (a,s'))->Q a s'
section
variable {s:St}
def dq.ret{a}{Q:α->St->Prop}(h:Q a s):dq (cH a) s Q:=by grind[dq,cH]
def dq.and{m}{g}{Q:α->St->Prop}{R:β->St->Prop}(h:dq m s Q)(k:∀a s',Q a s'->dq (g a) s' R):dq (andM m g) s R:=by grind[dq,andM]
def dq.no{Q:α->St->Prop}:dq noM s Q:=λ_ _ q=>q.elim
def dq.imp{m}{Q R:α->St->Prop}(h:dq m s Q)(k:∀a s',Q a s'->R a s'):dq m s R:=by grind[dq]
structure Kp(Λ:Nat->Prop)s s':Prop where
 ok:Ok s'
 new:∀n,¬s'.u n->Λ n
 run:M5 Λ s s'
def Kp.refl(h:Ok s)(hn:∀n,¬s.u n->Λ n):Kp Λ s s:=⟨h,hn,M5.refl _ _⟩
def Kp.trans{s1 s2}(h:Kp Λ s s1)(k:Kp Λ s1 s2):Kp Λ s s2:=⟨k.ok,k.new,h.run.trans k.run⟩
def im(h:Ok s)(hn:∀n,¬s.u n->Λ n):dq jH s λv s'=>Kp Λ s s'/\cA Λ s' (.var v)/\s'.k=s.k:=λv s' q=>by
 obtain⟨w,hw,q⟩:=q;injection q with q;injection q with q1 q2;subst q1;subst q2;have hk:=h.out v hw;refine⟨⟨⟨λn q=>h.out n λq'=>q<|jc q',λm n q1 q2=>?_,h.idem⟩,λn q=>hn n λq'=>q<|jc q',⟨λn q=>jc q,Ty.var,λ_=>(cI _).symm,λ_ _=>rfl,λm n h k=>by simp[aB]at k;subst k;exact h⟩⟩,⟨λn q=>?_,λn q=>?_⟩,rfl⟩
 .obtain q1|rfl:=q1
  .exact jc (h.use m n q1 q2)
  .rw[hk]at q2;simp[aB]at q2;exact ja q2.symm
 .simp[aB]at q;exact ja q.symm
 .simp only[j9,hk]at q;simp[aB]at q;subst q;exact hn _ hw
def fG(h:Ok s)(hn:∀n,¬s.u n->Λ n){b:Ty}(ha:cA Λ s a)(hb:cA Λ s b)f t:dq (sW a b f t) s λ_ s'=>Kp Λ s s'/\sub s'.k a=sub s'.k b:=λv s' q=>by
 obtain⟨_,q⟩|⟨_,_,⟨θ,uW,q⟩|⟨_,q⟩⟩:=q
 .cases q
 .injection q with q;injection q with q1 q2;subst q2;have hu:∀n,aB n (sub s.k a)\/aB n (sub s.k b)->s.u n/\s.k n=.var n/\Λ n:=λn q=>by
   obtain q|q:=q
   .exact⟨(h.om ha.use q).1,(h.om ha.use q).2,ha.loc n q⟩
   .exact⟨(h.om hb.use q).1,(h.om hb.use q).2,hb.loc n q⟩
  have hr:∀v n,aB n (θ v)->n=v\/(aB n (sub s.k a)\/aB n (sub s.k b)):=λv n q=>by
   by_cases e:aB v (sub s.k a)\/aB v (sub s.k b)
   .exact ja (uW.rng v n e q)
   .rw[uW.out v (λq=>e<|jc q)<|λq=>e<|ja q]at q;simp[aB]at q;exact jc q.symm
  refine⟨⟨⟨λv q=>?_,λv n q1 q2=>?_,λv n q=>?_⟩,hn,⟨λn q=>q,θ,λ_=>rfl,λv q=>?_,λv n q1 q2=>?_⟩⟩,?_⟩
  .show sub θ (s.k v)=_;rw[h.out v q,j9];exact uW.out v (λq'=>q (hu v<|jc q').1)<|λq'=>q (hu v<|ja q').1
  .have⟨m,c1,c2⟩:=(bN _).1 q2;obtain rfl|e:=hr m n c2
   .exact h.use v n q1 c1
   .exact(hu n e).1
  .have⟨m,c1,c2⟩:=(bN _).1 q;have:s.k n=.var n:=by
    obtain rfl|e:=hr m n c2
    .exact h.idem v n c1
    .exact(hu n e).2.1
   show sub θ (s.k n)=_;rw[this,j9];exact uW.fix c2
  .exact uW.out v (λq'=>q (hu v<|jc q').2.2) (λq'=>q (hu v<|ja q').2.2)
  .grind
  .have e:∀x,sub (λv=>sub θ<|s.k v) x=sub θ (sub s.k x):=λx=>(sub_sub _ _ x).symm;show sub (λv=>sub θ<|s.k v) a=sub (λv=>sub θ<|s.k v) b;rw[e,e];exact uW.one
 .cases q
def uH(h:Ok s)(hn:∀n,¬s.u n->Λ n)l ρ:dq (tq l ρ) s λdP s'=>Kp Λ s s'/\Dp l ρ dP s.u s'.u/\s'.k=s.k:=λdP s' q=>by
 obtain⟨bH,u',hd,q⟩:=q;injection q with q;injection q with q1 q2;subst q1;subst q2;refine⟨⟨⟨λn q=>h.out n λq'=>q<|(hd.use n).2<|jc q',λm n q1 q2=>(hd.use n).2 ?_,h.idem⟩,λn q=>hn n λq'=>q<|(hd.use n).2<|jc q',⟨λn q=>(hd.use n).2<|jc q,Ty.var,λ_=>(cI _).symm,λ_ _=>rfl,λm n h k=>by simp[aB]at k;subst k;exact h⟩⟩,hd,rfl⟩;obtain q1|⟨v,e1,e2⟩:=(hd.use m).1 q1
 .exact jc (h.use m n q1 q2)
 .have:s.k m=.var m:=h.out m<|hd.new v m e1 e2;have q2:=q2;rw[this]at q2;simp[aB]at q2;subst q2;exact ja ⟨v,e1,e2⟩
end
structure iF(Λ:Nat->Prop)(s:St)(ρ:Rn):Prop where
 use:∀v n,ρ v=some n->s.u n
 loc:∀v n m,ρ v=some n->aB m (s.k n)->Λ m
def iF.run{s s':St}{ρ:Rn}(h:iF Λ s ρ)(r:M5 Λ s s'):iF Λ s' ρ:=by
 have⟨θ,a1,a2,a3⟩:=r.step;refine⟨λv n q=>r.mono n<|h.use v n q,λv n m q1 q2=>?_⟩;rw[a1]at q2;have⟨x,c1,c2⟩:=(bN _).1 q2;exact a3 x m (h.loc v n x q1 c1) c2
def iF.draw{s s':St}{ρ dP:Rn}{l}(h:iF Λ s ρ)(ho:Ok s)(hn:∀n,¬s.u n->Λ n)(hk:Kp Λ s s')(hd:Dp l ρ dP s.u s'.u)(e:s'.k=s.k):iF Λ s' dP:=by
 refine⟨λv n q=>?_,λv n m q1 q2=>?_⟩
 .cases e1:ρ v with
  |none=>exact(hd.use n).2 (ja ⟨v,e1,q⟩)|some n'=>have:=hd.eW v n' e1;rw[this]at q;injection q with q;subst q;exact hk.run.mono _<|h.use v _ e1
 .cases e1:ρ v with
  |none=>
   have hu:=hd.new v n e1 q1;rw[e,ho.out n hu]at q2;simp[aB]at q2;subst q2;exact hn n hu
  |some n'=>have:=hd.eW v n' e1;rw[this]at q1;injection q1 with q1;subst q1;rw[e]at q2;exact h.loc v _ m e1 q2
def iF.zero Λ s:iF Λ s Cd:=⟨λv n q=> mE,λv n m q=> mE⟩
def iF.ty{s:St}{ρ:Rn}(h:iF Λ s ρ)(ht:∀v,aB v t->ρ v≠none):cA Λ s (sub (via ρ) t):=by
 refine⟨λn hn=>?_,λn hn=>?_⟩
 .have⟨m,c1,c2⟩:=(bN _).1 hn
  cases e:ρ m with
  |none=>grind|some x=>simp[via,e,aB]at c2;subst c2;exact h.use m _ e
 .rw[sub_sub]at hn;have⟨m,c1,c2⟩:=(bN _).1 hn
  cases e:ρ m with
  |none=>grind|some x=>simp only[via,e,j9]at c2;exact h.loc m x n e c2
end In
namespace In
def aq:n∈vars [] t↔aB n t:=by simp[bJ]
section
variable {s:St}
def tA(h:Ok s)(hn:∀n,¬s.u n->Λ n){ρ}(YJ:iF Λ s ρ)t:dq (rj t ρ) s λq s'=>Kp Λ s s'/\cA Λ s' q.1/\iF Λ s' q.2:=by
 refine(uH h hn _ _).and λdP s1⟨k1,d1,e1⟩=>?_;have hr:=YJ.draw h hn k1 d1 e1;exact .ret ⟨k1,hr.ty<|λv hv=>d1.all v<|aq.2 hv,hr⟩
def bL:cA Λ s (.aJ c []):=⟨λn q=>(by simp[aB,bX]at q),λn q=>(by simp[j9,aP,aB,bX]at q)⟩
def dK{b}(ha:cA Λ s a)(hb:cA Λ s b):cA Λ s (.aJ c [a,b]):=by
 refine⟨λn q=>?_,λn q=>?_⟩
 .simp[aB,bX]at q;exact q.elim (ha.use n)<|hb.use n
 .simp[j9,aP,aB,bX]at q;exact q.elim (ha.loc n)<|hb.loc n
def j_(h:vars [] t=[]):cA Λ s t:=by
 have h0:∀n,¬aB n t:=λn q=>by have:=aq.2 q;rw[h]at this;simp at this
 refine⟨λn q=>absurd q<|h0 n,λn q=>?_⟩;have⟨m,c1,_⟩:=(bN t).1 q;exact absurd c1<|h0 m
def G_(h:Ok s)(hn:∀n,¬s.u n->Λ n){Γ:Env}(ck:bC Λ s Γ)x f t:dq (qT Γ x f t) s λq s'=>Kp Λ s s'/\cA Λ s' q:=by
 rw[qT]
 cases e:Γ x with
 |none=>exact .no|some c=>
  intro a s' q;obtain⟨_,q⟩|⟨_,ρ,s1,q1,q2⟩:=q
  .cases q
  .have⟨k1,d1,e1⟩:=uH h hn _ _ _ _ q1;injection q2 with q2;injection q2 with q2 q3;subst q2;subst q3;have hc:=ck x c e;have mX:∀v,v∉c.any->ρ v=none:=λv hv=>d1.out v hv;refine⟨k1,λn Fw=>?_,λn Fw=>?_⟩
   .have⟨m,c1,c2⟩:=(bN _).1 Fw;by_cases hm:m∈c.any
    .cases e2:ρ m with
     |none=>exact absurd e2 (d1.all m hm)|some y=>simp[via,e2,aB]at c2;subst c2;exact(d1.use _).2 (ja ⟨m,rfl,e2⟩)
    .simp[via,mX m hm,aB]at c2;subst c2;exact k1.run.mono _ (h.om hc.use c1).1
   .rw[sub_sub,e1]at Fw;have⟨m,c1,c2⟩:=(bN _).1 Fw;by_cases hm:m∈c.any
    .cases e2:ρ m with
     |none=>exact absurd e2 (d1.all m hm)|some y=>
      have hu:=d1.new m y rfl e2;simp only[via,e2,j9,h.out y hu]at c2;simp[aB]at c2;subst c2;exact hn _ hu
    .simp only[via,mX m hm,j9,(h.om hc.use c1).2]at c2;simp[aB]at c2;subst c2;exact(hc.loc m c1).resolve_left hm
end
def AY(p:PM):=∀(g:Env)(s:St)(Λ:Nat->Prop),Ok s->(∀n,¬s.u n->Λ n)->bC Λ s g->dq (p g) s λq s'=>Kp Λ s s'/\cA Λ s' q.1/\bC Λ s' q.2
def od(p:EM):=∀(Γ:Env)(s:St)(Λ:Nat->Prop),Ok s->(∀n,¬s.u n->Λ n)->bC Λ s Γ->dq (p Γ) s λt s'=>Kp Λ s s'/\cA Λ s' t
def So{p:Prop}(h:p:=by
 unfold dr;by_cases hi:i<ps.length
 .rw[jv,j3 hi];exact h _<|List.getElem_mem hi
 .rw[jv,List.getElem?_eq_none ae];intro _ _ _ _ _ _;exact .no):p:=h
def afU{ps}(h:∀p∈ps,AY p)i:AY (dr ps i):=by
 exact So
def aa3{ps}(h:∀p∈ps,od p)i:od (dr ps i):=by
 exact So
def Ll:∀(tk:List Ty)(L:List Nd)(ps:List PM),(∀p∈ps,AY p)->∀(g:Env)(ρ:Rn)(s:St)(Λ:Nat->Prop),Ok s->(∀n,¬s.u n->Λ n)->bC Λ s g->iF Λ s ρ->dq (kB tk L ps g ρ) s λq s'=>Kp Λ s s'/\bC Λ s' q.1/\iF Λ s' q.2
 |u::tk,x::L,p::ps,hp,g,ρ,s,Λ,h,hn,hg,YJ=>by
  rw[kB];refine(hp p ag g s Λ h hn hg).and λq s1⟨k1,t1,g1⟩=>?_;refine(tA k1.ok k1.new (YJ.run k1.run) u).and λi s2⟨k2,t2,r2⟩=>?_;refine(fG k2.ok k2.new (t1.run k2.run) t2 _ _).and λ_ s3⟨k3,_⟩=>?_;refine(Ll tk L ps (λp h=>hp p<|by simp[h]) q.2 i.2 s3 Λ k3.ok k3.new ((g1.run k2.run).run k3.run)<|r2.run k3.run).imp λ_ s4⟨k4,r4⟩=>?_;exact⟨((k1.trans k2).trans k3).trans k4,r4⟩
 |[],_,_,_,g,ρ,s,Λ,h,hn,hg,YJ=>.ret ⟨.refl h hn,hg,YJ⟩|_::_,[],_,_,g,ρ,s,Λ,h,hn,hg,YJ=>.ret ⟨.refl h hn,hg,YJ⟩|_::_,_::_,[],_,g,ρ,s,Λ,h,hn,hg,YJ=>.ret ⟨.refl h hn,hg,YJ⟩
def VW mk k x L ps(hp:∀p∈ps,AY p):AY (rP mk k x L ps):=by
 intro g s Λ h hn hg;rw[rP];split
 .exact(im h hn).and λv s1⟨k1,t1,_⟩=>.ret ⟨k1,t1,hg.run k1.run⟩
 split
 .exact(im h hn).and λv s1⟨k1,t1,_⟩=>.ret ⟨k1,t1,(hg.run k1.run).set _ t1.mono⟩
 split
 .exact .ret ⟨.refl h hn,bL,hg⟩
 split
 .exact .ret ⟨.refl h hn,bL,hg⟩
 split
 .exact .ret ⟨.refl h hn,bL,hg⟩
 split
 .refine(afU hp 0 g s Λ h hn hg).and λa s1⟨k1,t1,g1⟩=>?_;refine(afU hp 1 _ s1 Λ k1.ok k1.new g1).and λb s2⟨k2,t2,g2⟩=>?_;exact .ret ⟨k1.trans k2,dK (t1.run k2.run) t2,g2⟩
 cases mk x with
 |none=>exact .no|some p=>
  refine(Ll p.1 L ps hp g Cd s Λ h hn hg<|.zero _ _).and λq s1⟨k1,g1,r1⟩=>?_;refine(tA k1.ok k1.new r1 p.2).and λi s2⟨k2,t2,_⟩=>?_;exact .ret ⟨k1.trans k2,t2,g1.run k2.run⟩
mutual
def vf(mk:Mks):∀nd,AY<|dv mk nd
 |.mk k s n L f t a=>VW mk k s L _<|AZ mk L
def AZ(mk:Mks):∀L,∀p∈mA mk L,AY p
 |[],p,h=>by simp[mA]at h|x::l,p,h=>by
  simp only[mA,jx]at h;obtain rfl|h:=h
  .exact vf mk x
  .exact AZ mk l p h
end
def Lp(mk:Mks):∀(L:List Nd)(ps:List EM),(∀p∈ps,od p)->∀(Γ:Env)(t r:Ty)(s:St)(Λ:Nat->Prop),Ok s->(∀n,¬s.u n->Λ n)->bC Λ s Γ->cA Λ s t->cA Λ s r->dq (n_ mk Γ t r L ps) s λ_ s'=>Kp Λ s s'
 |p::e::L,_::pe::ps,hp,Γ,t,r,s,Λ,h,hn,ck,ht,hr=>by
  rw[n_];refine(vf mk p _ s Λ h hn<|.none _ _).and λq s1⟨k1,t1,g1⟩=>?_;refine(fG k1.ok k1.new (ht.run k1.run) t1 _ _).and λ_ s2⟨k2,_⟩=>?_;have k12:=k1.trans k2;refine(hp pe ag _ s2 Λ k2.ok k2.new<|(g1.run k2.run).over<|ck.run k12.run).and λu s3⟨k3,t3⟩=>?_;have k13:=k12.trans k3;refine(fG k3.ok k3.new (hr.run k13.run) t3 _ _).and λ_ s4⟨k4,_⟩=>?_;have k14:=k13.trans k4;exact(Lp mk L ps (λp h=>hp p<|by simp[h]) Γ t r s4 Λ k4.ok k4.new (ck.run k14.run) (ht.run k14.run)<|hr.run k14.run).imp λ_ s5 k5=>k14.trans k5
 |[],_,_,_,_,_,s,Λ,h,hn,_,_,_=>.ret (.refl h hn)|[_],_,_,_,_,_,s,Λ,h,hn,_,_,_=>.ret (.refl h hn)|_::_::_,[],_,_,_,_,s,Λ,h,hn,_,_,_=>.ret (.refl h hn)|_::_::_,[_],_,_,_,_,s,Λ,h,hn,_,_,_=>.ret<|.refl h hn
def iG rc x e{pe:EM}(hp:od pe):od (ch rc x e pe):=by
 intro Γ s Λ h hn ck;rw[ch];split
 .refine(im h hn).and λv s1⟨k1,t1,_⟩=>?_;refine(hp _ s1 Λ k1.ok k1.new<|(ck.run k1.run).set _ t1.mono).and λt s2⟨k2,t2⟩=>?_;refine(fG k2.ok k2.new (t1.run k2.run) t2 _ _).and λ_ s3⟨k3,_⟩=>?_;exact .ret ⟨(k1.trans k2).trans k3,t2.run k3.run⟩
 .exact hp Γ s Λ h hn ck
def less(Λ:Nat->Prop)(l:List Nat):Nat->Prop:=λn=>Λ n/\n∉l
section
variable {s:St}
def Gh{Γ:Env}{k}{v}(h:n∈(eU Γ k t v).any):aB n (sub k t)/\¬wZ Γ k n:=by
 rw[eU]at h
 cases v with
 |false=>simp at h|true=>simp[zL]at h;exact⟨aq.1 h.1,h.2⟩
def yH(h:Ok s)(hn:∀n,¬s.u n->Λ n){Γ:Env}(ck:bC Λ s Γ)(ht:cA Λ s t)(rc:Bool)x v:
 bC (less Λ (eU (if rc then lR Γ x else Γ) s.k t v).any) s (cz Γ x<|eU (if rc then lR Γ x else Γ) s.k t v)/\∀n,¬s.u n->less Λ (eU (if rc then lR Γ x else Γ) s.k t v).any n:=by
 have hA:∀n,n∈(eU (if rc then lR Γ x else Γ) s.k t v).any->aB n (sub s.k t)/\¬wZ (if rc then lR Γ x else Γ) s.k n:=λn q=>Gh q;have hof:(eU (if rc then lR Γ x else Γ) s.k t v).of=sub s.k t:=rfl;generalize eU (if rc then lR Γ x else Γ) s.k t v=S at hA hof⊢;obtain⟨T,A⟩:=S;simp only at hA hof⊢;subst hof;refine⟨λy c e=>?_,λn q=>⟨hn n q,λq'=>q (h.om ht.use (hA n q').1).1⟩⟩;rw[cz]at e;split at e
 .injection e with e;subst e;refine⟨λn q=>(h.om ht.use q).1,λn q=>?_,λn q=>⟨(h.om ht.use (hA n q).1).2,λq'=>q'.2 q⟩,λn q=>(hA n q).1⟩;by_cases hm:n∈A
  .exact jc hm
  .have q:=q;rw[h.rA]at q;exact ja ⟨ht.loc n q,hm⟩
 .rename_i hyx;have hc:=ck y c e;refine⟨hc.use,λn q=>?_,λn q=>⟨(hc.fix n q).1,λq'=>(hc.fix n q).2 q'.1⟩,hc.sub⟩;by_cases hm:n∈c.any
  .exact jc hm
  .refine ja ⟨(hc.loc n q).resolve_left hm,λq'=>(hA n q').2 ⟨y,c,?_,q,hm⟩⟩
   cases rc with
   |true=>simp only[if_true];rw[lR];rw[if_neg hyx];exact e|false=>exact e
def Eh rc x e{pe pf:EM}(hp:od pe)(hf:od pf):od (qR rc x e pe pf):=by
 intro Γ s Λ h hn ck;rw[qR];refine(iG rc x e hp Γ s Λ h hn ck).and λt s1⟨k1,t1⟩=>?_;have⟨hE,hN⟩:=yH k1.ok k1.new (ck.run k1.run) t1 rc x<|rK e;refine dq.imp (hf _ s1 _ k1.ok hN hE) λu s2⟨k2,t2⟩=>?_;exact⟨k1.trans ⟨k2.ok,λn q=>(k2.new n q).1,k2.run.wide λn q=>q.1⟩,t2.use,λn q=>(t2.loc n q).1⟩
end
def dd{c:Prop}[Decidable c]{m m'}{s:St}{Q:α->St->Prop}(h:c->dq m s Q)(k:¬c->dq m' s Q):dq (if c then m else m') s Q:=Cc
def VX mk k x L f t ps(hp:∀p∈ps,od p):od (li mk k x L f t ps):=by
 intro Γ s Λ h hn ck;have h0:=aa3 hp 0;have h1:=aa3 hp 1;have h2:=aa3 hp 2;rw[li];refine dd (λ_=>?_) λ_=>?_
 .exact G_ h hn ck _ _ _
 refine dd (λ_=>?_) λ_=>?_
 .rw[upM]
  cases mk x with
  |none=>exact .no|some p=>exact(tA h hn (.zero _ _) _).and λq s1⟨k1,t1,_⟩=>.ret ⟨k1,t1⟩
 refine dd (λ_=>?_) λ_=>?_
 .exact .ret ⟨.refl h hn,bL⟩
 refine dd (λ_=>?_) λ_=>?_
 .exact .ret ⟨.refl h hn,bL⟩
 refine dd (λ_=>?_) λ_=>?_
 .exact .ret ⟨.refl h hn,bL⟩
 refine dd (λ_=>?_) λ_=>?_
 .refine(h0 Γ s Λ h hn ck).and λa s1⟨k1,t1⟩=>?_;refine(h1 Γ s1 Λ k1.ok k1.new<|ck.run k1.run).and λb s2⟨k2,t2⟩=>?_;exact .ret ⟨k1.trans k2,dK (t1.run k2.run) t2⟩
 refine dd (λ_=>?_) λ_=>?_
 .split
  .rename_i hs;refine(h0 Γ s Λ h hn ck).and λa s1⟨k1,t1⟩=>?_;refine(fG k1.ok k1.new t1 (j_ hs) _ _).and λ_ s2⟨k2,_⟩=>?_;exact .ret ⟨k1.trans k2,j_ hs⟩
  .exact .no
 refine dd (λ_=>?_) λ_=>?_
 .refine(h0 Γ s Λ h hn ck).and λa s1⟨k1,t1⟩=>?_;refine(fG k1.ok k1.new t1 bL _ _).and λ_ s2⟨k2,_⟩=>?_;have k12:=k1.trans k2;refine(h1 Γ s2 Λ k2.ok k2.new<|ck.run k12.run).and λb s3⟨k3,t3⟩=>?_;refine(fG k3.ok k3.new t3 bL _ _).and λ_ s4⟨k4,_⟩=>?_;refine .ret ⟨(k12.trans k3).trans k4,?_⟩;split<;>exact bL
 refine dd (λ_=>?_) λ_=>?_
 .refine(h0 Γ s Λ h hn ck).and λa s1⟨k1,t1⟩=>?_;refine(h1 Γ s1 Λ k1.ok k1.new<|ck.run k1.run).and λb s2⟨k2,t2⟩=>?_;refine(im k2.ok k2.new).and λv s3⟨k3,t3,_⟩=>?_;refine(fG k3.ok k3.new ((t1.run k2.run).run k3.run) (dK (t2.run k3.run) t3) _ _).and λ_ s4⟨k4,_⟩=>?_;exact .ret ⟨((k1.trans k2).trans k3).trans k4,t3.run k4.run⟩
 refine dd (λ_=>?_) λ_=>?_
 .refine(im h hn).and λv s1⟨k1,t1,_⟩=>?_;refine(h0 _ s1 Λ k1.ok k1.new<|(ck.run k1.run).set _ t1.mono).and λa s2⟨k2,t2⟩=>?_;exact .ret ⟨k1.trans k2,dK (t1.run k2.run) t2⟩
 refine dd (λ_=>?_) λ_=>?_
 .exact Eh _ _ _ h0 h1 Γ s Λ h hn ck
 refine dd (λ_=>?_) λ_=>?_
 .exact Eh _ _ _ h0 h1 Γ s Λ h hn ck
 refine dd (λ_=>?_) λ_=>?_
 .refine(h0 Γ s Λ h hn ck).and λa s1⟨k1,t1⟩=>?_;refine(fG k1.ok k1.new t1 bL _ _).and λ_ s2⟨k2,_⟩=>?_;have k12:=k1.trans k2;refine(h1 Γ s2 Λ k2.ok k2.new<|ck.run k12.run).and λb s3⟨k3,t3⟩=>?_;have k13:=k12.trans k3;refine(h2 Γ s3 Λ k3.ok k3.new<|ck.run k13.run).and λc s4⟨k4,t4⟩=>?_;refine(fG k4.ok k4.new (t3.run k4.run) t4 _ _).and λ_ s5⟨k5,_⟩=>?_;exact .ret ⟨(k13.trans k4).trans k5,(t3.run k4.run).run k5.run⟩
 refine dd (λ_=>?_) λ_=>?_
 .refine(h0 Γ s Λ h hn ck).and λa s1⟨k1,t1⟩=>?_;refine(im k1.ok k1.new).and λv s2⟨k2,t2,_⟩=>?_;have k12:=k1.trans k2;refine(Lp mk L.tail ps.tail (λp h=>hp p<|List.mem_of_mem_tail h) Γ a _ s2 Λ k2.ok k2.new (ck.run k12.run) (t1.run k2.run) t2).and λ_ s3 k3=>?_;exact .ret ⟨k12.trans k3,t2.run k3.run⟩
 .exact .no
mutual
def mD(mk:Mks):∀nd,od<|inf mk nd
 |.mk k s n L f t a=>VX mk k s L f t _<|Ei mk L
def Ei(mk:Mks):∀L,∀p∈qQ mk L,od p
 |[],p,h=>by simp[qQ]at h|x::l,p,h=>by
  simp only[qQ,jx]at h;obtain rfl|h:=h
  .exact mD mk x
  .exact Ei mk l p h
end
end In
namespace In
structure Rel(D:Nat->Prop)(ρ:Nat->Nat)(s s':St):Prop where
 live:∀n,D n->s.u n->s.k n=.var n->s'.u (ρ n)/\s'.k (ρ n)=.var (ρ n)
 inj:∀m n,D m->D n->s.u m->s.k m=.var m->s.u n->s.k n=.var n->ρ m=ρ n->m=n
def kM(ρ:Nat->Nat)(s s':St)(t t':Ty):Prop:=sub s'.k t'=sub (jK ρ) (sub s.k t)
structure Lq(D:Nat->Prop)ρ s s'(c c':I7):Prop where
 of:kM ρ s s' c.of c'.of
 any:c'.any=c.any.map ρ
 dom:∀v,v∈c.any->D v
def gO D ρ s s'(Γ dE:Env):=∀y,(Γ y=none/\dE y=none)\/∃c c',Γ y=some c/\dE y=some c'/\Lq D ρ s s' c c'
structure wj D Λ cD ρ s s' bH s1 A8:Prop where
 kp:Kp Λ s s1
 iR:Kp cD s' A8
 rel:Rel D bH s1 A8
 ty:∀t t',(∀n,aB n t->s.u n)->(∀n,aB n (sub s.k t)->D n)->kM ρ s s' t t'->kM bH s1 A8 t t'
 any:∀n,s.u n->s.k n=.var n->D n->¬Λ n->bH n=ρ n
 dom:∀n,Λ n->D n
section
variable {lG:Nat->Nat} {s s' s1 A8 s2 s2':St}
def wj.refl(hD:∀n,Λ n->D n)(h:Ok s)(hn:∀n,¬s.u n->Λ n)(h':Ok s')(Fw:∀n,¬s'.u n->cD n)(r:Rel D ρ s s'):wj D Λ cD ρ s s' ρ s s':=⟨.refl h hn,.refl h' Fw,r,λ_ _ _ _ h=>h,λ_ _ _ _ _=>rfl,hD⟩
def Kp.fix(k:Kp Λ s s1)(h:s.k n=.var n)(hn:¬Λ n):s1.k n=.var n:=by
 have⟨θ,a1,a2,_⟩:=k.run.step;rw[a1,h,j9,a2 n hn]
def Kp.dom(k:Kp Λ s s1)(hD:∀n,Λ n->D n)(h:∀n,aB n (sub s.k t)->D n)n(hn:aB n (sub s1.k t)):D n:=by
 have⟨θ,a1,a2,a3⟩:=k.run.step;rw[GZ a1]at hn;have⟨m,c1,c2⟩:=(bN _).1 hn;by_cases e:Λ m
 .grind
 .rw[a2 m e]at c2;simp[aB]at c2;subst c2;exact h m c1
def wj.trans(h:wj D Λ cD ρ s s' bH s1 A8)(k:wj D Λ cD bH s1 A8 lG s2 s2'):wj D Λ cD ρ s s' lG s2 s2':=
 ⟨h.kp.trans k.kp,h.iR.trans k.iR,k.rel,λt t' q d r=>k.ty t t' (λn hn=>h.kp.run.mono n<|q n hn) (h.kp.dom h.dom d)<|h.ty t t' q d r,λn a b d c=>by
  rw[k.any n (h.kp.run.mono n a) (h.kp.fix b c) d c,h.any n a b d c],h.dom⟩
def cA.dom(h:cA Λ s t)(hD:∀n,Λ n->D n):∀n,aB n (sub s.k t)->D n:=λn hn=>hD n<|h.loc n hn
def wj.pK(h:wj D Λ cD ρ s s' bH s1 A8)(hi:cA Λ s t)(r:kM ρ s s' t t'):kM bH s1 A8 t t':=h.ty t t' hi.use (hi.dom h.dom) r
def Lq.dX{c c':I7}(h:Lq D ρ s s' c c')(hc:nZ Λ s c)(k:wj D Λ cD ρ s s' bH s1 A8):Lq D bH s1 A8 c c':=
 ⟨k.ty _ _ hc.use (λn hn=>(hc.loc n hn).elim (h.dom n)<|k.dom n) h.of,by
  rw[h.any]
  exact j6 λv hv=>(k.any v (hc.use v<|hc.sub v hv) (hc.fix v hv).1 (h.dom v hv) (hc.fix v hv).2).symm,h.dom⟩
def gO.dX{Γ dE}(h:gO D ρ s s' Γ dE)(hc:bC Λ s Γ)(k:wj D Λ cD ρ s s' bH s1 A8):gO D bH s1 A8 Γ dE:=λy=>by
 obtain q|⟨c,c',q1,q2,q3⟩:=h y
 .exact jc q
 .exact ja ⟨c,c',q1,q2,q3.dX (hc y c q1) k⟩
def gO.set{Γ dE:Env}(h:gO D ρ s s' Γ dE)x{c c':I7}(hc:Lq D ρ s s' c c'):gO D ρ s s' (cz Γ x c) (cz dE x c'):=λy=>by
 unfold cz;by_cases e:y=x
 .grind
 .rw[if_neg e,if_neg e];exact h y
def gO.del{Γ dE:Env}(h:gO D ρ s s' Γ dE)x:gO D ρ s s' (lR Γ x) (lR dE x):=by grind[gO,lR]
theorem gO.over{g g' Γ dE}(hg:gO D ρ s s' g g')(h:gO D ρ s s' Γ dE):gO D ρ s s' (over g Γ) (over g' dE):=by grind[gO,over]
def gO.none:gO D ρ s s' (λ_=>none) (λ_=>none):=by grind[gO]
def kM.mono(h:kM ρ s s' t t'):Lq D ρ s s' (mono t) (mono t'):=⟨h,rfl,λv hv=>(by simp at hv)⟩
def kM.aJ c:kM ρ s s' (.aJ c []) (.aJ c []):=by simp[kM,j9,aP]
def kM.two c{b:Ty}(ha:kM ρ s s' a a')(hb:kM ρ s s' b b'):kM ρ s s' (.aJ c [a,b]) (.aJ c [a',b']):=by
 simp only[kM,j9,aP]at ha hb⊢;rw[ha,hb]
def kM.shut(h:vars [] t=[]):kM ρ s s' t t:=by
 have h0:∀n,¬aB n t:=λn q=>by have:=aq.2 q;rw[h]at this;simp at this
 rw[kM];rw[fs (σ:=s'.k) λn q=>absurd q<|h0 n,fs (σ:=s.k) λn q=>absurd q<|h0 n,fs (σ:=jK ρ) λn q=>absurd q<|h0 n]
theorem kM.size(h:kM ρ s s' t t'):size (sub s'.k t')=size (sub s.k t):=by rw[h,o8]
end
def FtR pl(x x':Ft):=x.f.kind=x'.f.kind/\(pl->x.f=x'.f)/\∃ρ:Nat->Nat,(∀m n,(aB m x.l\/aB m x.r)->(aB n x.l\/aB n x.r)->ρ m=ρ n->m=n)/\x'.l=sub (jK ρ) x.l/\x'.r=sub (jK ρ) x.r
def al8{α β:Type}(pl:Prop)(Q:α->St->β->St->Prop):Except Ft (α×St)->Except Ft (β×St)->Prop
 |.ok (a,s),.ok (b,s')=>Q a s b s'|.error x,.error x'=>FtR pl x x'|_,_=>False
def kU{α β:Type}pl(m:MM α)(m':MM β)s s' Q:=∀o o',m s o->m' s' o'->al8 pl Q o o'
section
variable {γ δ:Type} {s s':St}
def kU.ret{a}{b}{Q:α->St->β->St->Prop}(h:Q a s b s'):kU pl (cH a) (cH b) s s' Q:=λo o' q q'=>by
 rw[cH]at q q';subst q;subst q';exact h
def kU.and{m}{m'}{g}{g'}{Q:α->St->β->St->Prop}{R:γ->St->δ->St->Prop}(h:kU pl m m' s s' Q)(k:∀a t b t',Q a t b t'->kU pl (g a) (g' b) t t' R):kU pl (andM m g) (andM m' g') s s' R:=λo o' q q'=>by
 obtain⟨x,q1,rfl⟩|⟨a,t,q1,q2⟩:=q<;>obtain⟨x',Xj,rfl⟩|⟨a',t',Xj,q2'⟩:=q'
 .exact h _ _ q1 Xj
 .exact(h _ _ q1 Xj).elim
 .exact(h _ _ q1 Xj).elim
 .exact k _ _ _ _ (h _ _ q1 Xj) _ _ q2 q2'
def kU.no{Q:α->St->β->St->Prop}{m'}:kU pl noM m' s s' Q:=λ_ _ q=>q.elim
def kU.imp{m}{m'}{Q R:α->St->β->St->Prop}(h:kU pl m m' s s' Q)(k:∀a t b t',Q a t b t'->R a t b t'):kU pl m m' s s' R:=λo o' q q'=>by
 have:=h o o' q q'
 match o,o',this with
 |.ok (a,t),.ok (b,t'),w=>exact k _ _ _ _ w|.error _,.error _,w=>exact w
def kU.ite{c:Prop}[Decidable c]{m n}{m' n'}{Q:α->St->β->St->Prop}(h:c->kU pl m m' s s' Q)(k:¬c->kU pl n n' s s' Q):kU pl (if c then m else n) (if c then m' else n') s s' Q:=Cc
end
structure qY(D Λ cD:Nat->Prop)ρ s s':Prop where
 dom:∀n,Λ n->D n
 ok:Ok s
 new:∀n,¬s.u n->Λ n
 Ge:Ok s'
 VY:∀n,¬s'.u n->cD n
 rel:Rel D ρ s s'
def wj.both{s s' s1 A8:St}(h:wj D Λ cD ρ s s' bH s1 A8):qY D Λ cD bH s1 A8:=⟨h.dom,h.kp.ok,h.kp.new,h.iR.ok,h.iR.new,h.rel⟩
def qY.refl{D Λ cD}{ρ}{s s'}(h:qY D Λ cD ρ s s'):wj D Λ cD ρ s s' ρ s s':=.refl h.dom h.ok h.new h.Ge h.VY h.rel
section
variable {s s':St}
def wo{ρ dP}(h:∀n,aB n t->ρ n=dP n):sub (jK ρ) t=sub (jK dP) t:=by grind[aB,sub,sub_congr]
def iu σ ρ u:sub σ (sub (jK ρ) u)=sub (λn=>σ<|ρ n) u:=by rw[sub_sub];rfl
def mQ(h:qY D Λ cD ρ s s'):kU pl jH jH s s' λv t v' t'=>∃bH,wj D Λ cD ρ s s' bH t t'/\cA Λ t (.var v)/\cA cD t' (.var v')/\kM bH t t' (.var v) (.var v'):=λo o' q q'=>by
 obtain⟨v,hv,rfl⟩:=q;obtain⟨v',ND,rfl⟩:=q';have⟨k1,t1,e1⟩:=im h.ok h.new v _ ⟨v,hv,rfl⟩;have⟨k1',t1',e1'⟩:=im h.Ge h.VY v' _ ⟨v',ND,rfl⟩;refine⟨λn=>if n=v then v' else ρ n,⟨k1,k1',⟨λn q0 q1 q2=>?_,λm n g1 g2 a1 a2 b1 b2 e=>?_⟩,λt t' q _ r=>?_,λn q1 q2 _ q3=>?_,h.dom⟩,t1,t1',?_⟩
 .by_cases e:n=v
  .subst e;simp;exact h.Ge.out v' ND
  .have q1:=q1.resolve_right e;have:=h.rel.live n q0 q1 q2;simp[e];exact⟨jc this.1,this.2⟩
 .by_cases em:m=v<;>by_cases en:n=v
  .rw[em,en]
  .simp[em,en]at e;have:=h.rel.live n g2 (b1.resolve_right en) b2;rw[<-e]at this;exact absurd this.1 ND
  .simp[em,en]at e;have:=h.rel.live m g1 (a1.resolve_right em) a2;rw[e]at this;exact absurd this.1 ND
  .simp[em,en]at e;exact h.rel.inj m n g1 g2 (a1.resolve_right em) a2 (b1.resolve_right en) b2 e
 .rw[kM]at r⊢;show sub s'.k t'=sub _ (sub s.k t);rw[r];refine wo λn hn=>?_;have:n≠v:=λe=>hv<|e▸(h.ok.om q hn).1;simp[this]
 .grind
 .show sub s'.k (.var v')=sub _ (sub s.k<|.var v);simp[j9,h.ok.out v hv,h.Ge.out v' ND,jK]
def Sp{p:Prop}(h:p:=by
 refine⟨rfl,λp=>?_,λn=>n,λm n _ _ e=>e,?_,?_⟩
 .grind
 .simp[q_,j9,jK]
 .simp[q_,j9,jK]):p:=h
def iz(h:qY D Λ cD ρ s s'){b:Ty}(ha:cA Λ s a)(hb:cA Λ s b)(ha':cA cD s' a')(IB:cA cD s' b')(ra:kM ρ s s' a a')(rb:kM ρ s s' b b'){t t'}(hp:pl->f=f'/\t=t'):
 kU pl (sW a b f t) (sW a' b' f' t') s s' λ_ t _ t'=>∃bH,wj D Λ cD ρ s s' bH t t':=λo o' q q'=>by
 have za:=ra.size;have zb:=rb.size;have hu:∀n,aB n (sub s.k a)\/aB n (sub s.k b)->s.u n/\s.k n=.var n:=λn q=>by
  obtain q|q:=q
  .exact h.ok.om ha.use q
  .exact h.ok.om hb.use q
 have hd:∀n,aB n (sub s.k a)\/aB n (sub s.k b)->D n:=λn q=>q.elim (ha.dom h.dom n)<|hb.dom h.dom n;have MX:∀n,aB n (sub s'.k a')\/aB n (sub s'.k b')->s'.u n/\s'.k n=.var n:=λn q=>by
  obtain q|q:=q
  .exact h.Ge.om ha'.use q
  .exact h.Ge.om IB.use q
 have hK:=λθ(uW:yi θ (sub s.k a) (sub s.k b))(hz:size (sub s.k a)<=48)(gR:size (sub s.k b)<=48)=>(fG h.ok h.new ha hb f t () ⟨λv=>sub θ<|s.k v,s.u⟩<|ja ⟨hz,gR,jc ⟨θ,uW,rfl⟩⟩).1;have hK':=λθ(uW:yi θ (sub s'.k a') (sub s'.k b'))(hz:size (sub s'.k a')<=48)(gR:size (sub s'.k b')<=48)=>(fG h.Ge h.VY ha' IB f t () ⟨λv=>sub θ<|s'.k v,s'.u⟩<|ja ⟨hz,gR,jc ⟨θ,uW,rfl⟩⟩).1
 classical
 obtain⟨β,hβ⟩:∃β:Nat->Nat,∀n,D n->s.u n->s.k n=.var n->β (ρ n)=n:=by
  refine⟨λm=>if e:∃n,D n/\s.u n/\s.k n=.var n/\ρ n=m then e.choose else 0,λn q0 q1 q2=>?_⟩;have e:∃m,D m/\s.u m/\s.k m=.var m/\ρ m=ρ n:=⟨n,q0,q1,q2,rfl⟩;simp only[e,dite_true];have⟨w,x,y,z⟩:=e.choose_spec;exact h.rel.inj _ _ w q0 x y q1 q2 z
 have back:∀(θ:Nat->Ty)u,(∀n,aB n u->s.u n/\s.k n=.var n)->(∀n,aB n u->D n)->sub (λm=>θ<|β m) (sub (jK ρ) u)=sub θ u:=λθ u hu hd=>by
  rw[iu];refine sub_congr u λn hn=>?_;show θ (β<|ρ n)=_;rw[hβ n (hd n hn) (hu n hn).1 (hu n hn).2]
 obtain⟨z,rfl⟩|⟨z1,z2,⟨θ,uW,rfl⟩|⟨mX,rfl⟩⟩:=q<;>obtain⟨z',rfl⟩|⟨z1',z2',⟨VZ,C_,rfl⟩|⟨al9,rfl⟩⟩:=q'
 .exact Sp
 .omega
 .omega
 .omega
 .have kp:=hK θ uW z1 z2;have iR:=hK' VZ C_ z1' z2';have e1:∀n,s.u n->s.k n=.var n->sub (λn=>VZ<|ρ n) (θ n)=VZ (ρ n):=λn _ _=>by
   have e:=C_.one;rw[ra,rb,iu,iu]at e;exact uW.gen (λn=>VZ<|ρ n) e n
  have e2:∀m,sub (λm=>θ<|β m) (VZ m)=θ (β m):=λm=>by
   refine C_.gen (λm=>θ<|β m) ?_ m;rw[ra,rb,back θ _ (λn q=>hu n<|jc q)<|λn q=>hd n<|jc q,back θ _ (λn q=>hu n<|ja q)<|λn q=>hd n<|ja q,uW.one]
  have lv:∀n x,s.u n->s.k n=.var n->aB x (θ n)->(s.u x/\s.k x=.var x)/\θ x=.var x:=λn x q1 q2 q3=>by
   refine⟨?_,uW.fix q3⟩;by_cases e:aB n (sub s.k a)\/aB n (sub s.k b)
   .exact hu x (uW.rng n x e q3)
   .rw[uW.out n (λq=>e<|jc q)<|λq=>e<|ja q]at q3;simp[aB]at q3;subst q3;exact⟨q1,q2⟩
  have ld:∀n x,D n->aB x (θ n)->D x:=λn x q1 q3=>by
   by_cases e:aB n (sub s.k a)\/aB n (sub s.k b)
   .exact hd x (uW.rng n x e q3)
   .rw[uW.out n (λq=>e<|jc q)<|λq=>e<|ja q]at q3;simp[aB]at q3;subst q3;exact q1
  have e3:∀x,D x->s.u x->s.k x=.var x->θ x=.var x->∃y,VZ (ρ x)=.var y:=λx q0 q1 q2 q3=>by
   have:=e2<|ρ x;rw[hβ x q0 q1 q2,q3]at this
   cases e:VZ (ρ x)with
   |var y=>exact⟨y,rfl⟩|aJ c l=>rw[e]at this;simp[j9]at this
  have red:∀n,s.u n->sub θ (s.k n)=.var n->s.k n=.var n/\θ n=.var n:=λn q1 q2=>by
   cases e:s.k n with
   |var m=>
    rw[e,j9]at q2;have hm:=h.ok.idem n m (by rw[e];simp[aB]);have hum:=h.ok.use n m q1 (by rw[e];simp[aB]);have:=(lv m n hum hm (by rw[q2];simp[aB])).1.2;rw[e]at this;injection this with this;subst this;exact⟨rfl,q2⟩
   |aJ c l=>rw[e]at q2;simp[j9]at q2
  refine⟨λx=>match VZ (ρ x)with|.var y=>y|.aJ _ _=>0,⟨kp,iR,⟨λn q0 q1 q2=>?_,λm n g1 g2 a1 a2 b1 b2 e=>?_⟩,λt t' q qd r=>?_,λn q1 q2 qd q3=>?_,h.dom⟩⟩
  .have q2:=q2;have hk:=red n q1 q2;have⟨y,hy⟩:=e3 n q0 q1 hk.1 hk.2;simp only[hy];have⟨l1,l2⟩:=h.rel.live n q0 q1 hk.1;have u1:s'.u y:=by
    by_cases e:aB (ρ n) (sub s'.k a')\/aB (ρ n) (sub s'.k b')
    .exact(MX y<|C_.rng (ρ n) y e (by rw[hy];simp[aB])).1
    .rw[C_.out _ (λq=>e<|jc q)<|λq=>e<|ja q]at hy;injection hy with hy;subst hy;exact l1
   refine⟨u1,?_⟩;show sub VZ (s'.k y)=_;have ky:s'.k y=.var y:=by
    by_cases e:aB (ρ n) (sub s'.k a')\/aB (ρ n) (sub s'.k b')
    .exact(MX y<|C_.rng (ρ n) y e (by rw[hy];simp[aB])).2
    .rw[C_.out _ (λq=>e<|jc q)<|λq=>e<|ja q]at hy;injection hy with hy;subst hy;exact l2
   rw[ky,j9];exact C_.fix (v:=ρ n) (by rw[hy];simp[aB])
  .grind
  .have hN:∀(θ k:Nat->Ty)t,sub (λv=>sub θ<|k v) t=sub θ (sub k t):=λθ k t=>(sub_sub _ _ t).symm;show sub (λv=>sub VZ<|s'.k v) t'=sub _ (sub (λv=>sub θ<|s.k v) t);rw[kM]at r;rw[hN,hN,r,iu,sub_sub (jK _) θ];refine sub_congr _ λn hn=>?_;have⟨q1,q2⟩:=h.ok.om q hn;show VZ (ρ n)=_;rw[<-e1 n q1 q2];refine sub_congr _ λx hx=>?_;have⟨⟨x1,x2⟩,x3⟩:=lv n x q1 q2 hx;have⟨y,hy⟩:=e3 x (ld n x (qd n hn) hx) x1 x2 x3;simp[hy]
  .have hx:=uW.out n (λq=>q3<|ha.loc n q)<|λq=>q3<|hb.loc n q;have:VZ (ρ n)=.var (ρ n):=by
    have ad3:∀u u':Ty,kM ρ s s' u u'->cA Λ s u->¬aB (ρ n) (sub s'.k u'):=λu u' r hu q=>by
     rw[kM]at r;rw[r]at q;have⟨m,c1,c2⟩:=(bN _).1 q;simp[jK,aB]at c2;have⟨m1,m2⟩:=h.ok.om hu.use c1;have:=h.rel.inj m n (hu.dom h.dom m c1) qd m1 m2 q1 q2 c2;subst this;exact q3<|hu.loc m c1
    exact C_.out _ (ad3 a a' ra ha)<|ad3 b b' rb hb
   simp[this]
 .exact(al9 (λm=>θ<|β m)<|by rw[ra,rb,back θ _ (λn q=>hu n<|jc q)<|λn q=>hd n<|jc q,back θ _ (λn q=>hu n<|ja q)<|λn q=>hd n<|ja q,uW.one]).elim
 .omega
 .exact(mX (λn=>VZ<|ρ n) (by have e:=C_.one;rw[ra,rb,iu,iu]at e;exact e)).elim
 .refine⟨rfl,λp=>?_,ρ,λm n q1 q2 e=>?_,ra,rb⟩
  .grind
  .grind
end
end In
namespace In
section
variable {s s' s1 A8:St}
def Ej(h:qY D Λ cD ρ s s')π{l l'}{R R':Rn}(hl:l'=l.map π)(hi:∀v,v∈l->∀w,w∈l->π v=π w->v=w)(hR:∀v,v∈l->(R v=none↔R' (π v)=none)):
 kU pl (tq l R) (tq l' R') s s' λr t r' t'=>∃bH,wj D Λ cD ρ s s' bH t t'/\Dp l R r s.u t.u/\Dp l' R' r' s'.u t'.u/\t.k=s.k/\t'.k=s'.k/\(∀n,s.u n->bH n=ρ n)/\∀v,v∈l->R v=none->∃n,r v=some n/\r' (π v)=some (bH n):=λo o' q q'=>by
 obtain⟨r,u,hd,rfl⟩:=q;obtain⟨r',u',Vz,rfl⟩:=q';have⟨k1,d1,e1⟩:=uH h.ok h.new l R r _ ⟨r,u,hd,rfl⟩;have⟨k1',d1',e1'⟩:=uH h.Ge h.VY l' R' r' _ ⟨r',u',Vz,rfl⟩
 classical
 have E_:∀v n,R v=none->r v=some n->v∈l:=λv n q1 q2=>by
  by_cases e:v∈l
  .exact e
  .rw[hd.out v e,q1]at q2;cases q2
 obtain⟨bH,a1,a2⟩:∃bH:Nat->Nat,(∀n,s.u n->bH n=ρ n)/\∀v n,v∈l->R v=none->r v=some n->r' (π v)=some (bH n):=by
  refine⟨λn=>if e:∃v,R v=none/\r v=some n then(r'<|π e.choose).getD 0 else ρ n,λn q=>?_,λv n q1 q2 q3=>?_⟩
  .have:¬∃v,R v=none/\r v=some n:=λ⟨v,x,y⟩=>hd.new v n x y q;simp[this]
  .have e:∃v,R v=none/\r v=some n:=⟨v,q2,q3⟩;simp only[e,dite_true];have⟨x,y⟩:=e.choose_spec;have:e.choose=v:=hd.one _ _ n x y q3;rw[this];have hm:π v∈l':=Cc
   cases e2:r' (π v)with
   |none=>exact absurd e2 (Vz.all _ hm)|some m=>rfl
 have nw:∀n,u n->¬s.u n->∃v,v∈l/\R v=none/\r v=some n:=λn q1 q2=>by
  have⟨v,x,y⟩:=((hd.use n).1 q1).resolve_left q2;exact⟨v,E_ v n x y,x,y⟩
 have nw':∀v n,v∈l->R v=none->r v=some n->¬s'.u (bH n)/\u' (bH n):=λv n q1 q2 q3=>by
  have e:=a2 v n q1 q2 q3;have e0:=(hR v q1).1 q2;exact⟨Vz.new _ _ e0 e,(Vz.use _).2<|ja ⟨_,e0,e⟩⟩
 refine⟨bH,⟨k1,k1',⟨λn q0 q1 q2=>?_,λm n g1 g2 p1 p2 q1 q2 e=>?_⟩,λt t' q _ w=>?_,λn q _ _ _=>a1 n q,h.dom⟩,hd,Vz,rfl,rfl,a1,λv q1 q2=>?_⟩
 .by_cases e:s.u n
  .rw[a1 n e];have:=h.rel.live n q0 e q2;exact⟨(Vz.use _).2<|jc this.1,this.2⟩
  .have⟨v,x,y,z⟩:=nw n q1 e;have⟨g1,g2⟩:=nw' v n x y z;exact⟨g2,h.Ge.out _ g1⟩
 .by_cases em:s.u m<;>by_cases en:s.u n
  .rw[a1 m em,a1 n en]at e;exact h.rel.inj m n g1 g2 em p2 en q2 e
  .have⟨v,x,y,z⟩:=nw n q1 en;have:=(nw' v n x y z).1;rw[<-e,a1 m em]at this;exact absurd (h.rel.live m g1 em p2).1 this
  .have⟨v,x,y,z⟩:=nw m p1 em;have:=(nw' v m x y z).1;rw[e,a1 n en]at this;exact absurd (h.rel.live n g2 en q2).1 this
  .have⟨v,x,y,z⟩:=nw m p1 em;have⟨v2,x2,y2,z2⟩:=nw n q1 en;have b1:=a2 v m x y z;have b2:=a2 v2 n x2 y2 z2;rw[e]at b1;have:=Vz.one _ _ _ ((hR v x).1 y) b1 b2;have:=hi v x v2 x2 this;subst this;rw[z]at z2;injection z2
 .rw[kM]at w⊢;show sub s'.k t'=sub _ (sub s.k t);rw[w];exact wo λn hn=>(a1 n (h.ok.om q hn).1).symm
 .cases e:r v with
  |none=>exact absurd e (hd.all v q1)|some n=>grind
def RnR ρ s s'(R R':Rn):=∀v,(R v=none/\R' v=none)\/∃n n',R v=some n/\R' v=some n'/\kM ρ s s' (.var n) (.var n')
def RnR.zero:RnR ρ s s' Cd Cd:=λ_=>jc ⟨rfl,rfl⟩
def RnR.dX{R R':Rn}(h:RnR ρ s s' R R')(hi:iF Λ s R)(k:wj D Λ cD ρ s s' bH s1 A8):RnR bH s1 A8 R R':=λv=>by
 obtain q|⟨n,n',q1,q2,q3⟩:=h v
 .exact jc q
 .exact ja ⟨n,n',q1,q2,k.ty _ _ (λm hm=>by simp[aB]at hm;subst hm;exact hi.use v _ q1) (λm hm=>k.dom m<|hi.loc v n m q1<|by simpa[j9]using hm) q3⟩
theorem kM.via{R R'}(h:RnR ρ s s' R R'){t}(ht:∀v,aB v t->R v≠none):kM ρ s s' (sub (via R) t) (sub (via R') t):=by
 rw[kM];rw[sub_sub,sub_sub,sub_sub];refine sub_congr t λv hv=>?_;obtain q|⟨n,n',q1,q2,q3⟩:=h v
 .grind
 .simp only[In.via,q1,q2];exact q3
def wu(h:qY D Λ cD ρ s s'){R R':Rn}(hR:RnR ρ s s' R R')(hi:iF Λ s R)(zK:iF cD s' R')t:
 kU pl (rj t R) (rj t R') s s' λq u q' u'=>∃bH,wj D Λ cD ρ s s' bH u u'/\cA Λ u q.1/\cA cD u' q'.1/\kM bH u u' q.1 q'.1/\iF Λ u q.2/\iF cD u' q'.2/\RnR bH u u' q.2 q'.2:=by
 have hz:∀v,v∈vars [] t->(R v=none↔R' v=none):=λv _=>by
  obtain⟨q1,q2⟩|⟨n,n',q1,q2,q3⟩:=hR v
  .simp[q1,q2]
  .simp[q1,q2]
 refine(Ej h (λv=>v) ag (λv _ w _ e=>e) hz).and λr u r' u'⟨bH,st,d,d',e,e',_,a⟩=>?_;have i1:=hi.draw h.ok h.new st.kp d e;have i2:=zK.draw h.Ge h.VY st.iR d' e';have hr:RnR bH u u' r r':=λv=>by
  obtain⟨q1,q2⟩|⟨n,n',q1,q2,q3⟩:=hR.dX hi st v
  .by_cases hv:v∈vars [] t
   .have⟨n,x,y⟩:=a v hv q1;refine ja ⟨n,_,x,y,?_⟩;have h1:=d.new v n q1 x;have h2:=d'.new v _ q2 y;simp[kM,j9,e,e',h.ok.out n h1,h.Ge.out _ h2,jK]
   .exact jc ⟨by rw[d.out v hv,q1],by rw[d'.out v hv,q2]⟩
  .exact ja ⟨n,n',d.eW v n q1,d'.eW v n' q2,q3⟩
 have UM:∀v,aB v t->r v≠none:=λv hv=>d.all v<|aq.2 hv;have akd:∀v,aB v t->r' v≠none:=λv hv=>d'.all v<|aq.2 hv;exact .ret ⟨bH,st,i1.ty UM,i2.ty akd,.via hr UM,i1,i2,hr⟩
def A9{c:I7}(hc:nZ Λ s c)(hv:v∈c.any):s.u v/\s.k v=.var v:=⟨hc.use v<|hc.sub v hv,(hc.fix v hv).1⟩
def any_map(h:qY D Λ cD ρ s s'){c:I7}(hc:nZ Λ s c)(hd:∀v,v∈c.any->D v)(hn:aB n (sub s.k c.of))(hm:ρ n∈c.any.map ρ):n∈c.any:=by
 have⟨m,x,y⟩:=List.mem_map.1 hm;have⟨l1,l2⟩:=h.ok.om hc.use hn;have⟨g1,g2⟩:=A9 hc x;have:=h.rel.inj m n (hd m x) ((hc.loc n hn).elim (hd n)<|h.dom n) g1 g2 l1 l2 y;subst this;exact x
def aa4(h:qY D Λ cD ρ s s'){Γ dE}(ck:bC Λ s Γ)(gP:bC cD s' dE)(hr:gO D ρ s s' Γ dE)x{t t':Nat}(hp:pl->f=f'/\t=t'):
 kU pl (qT Γ x f t) (qT dE x f' t') s s' λq u q' u'=>∃bH,wj D Λ cD ρ s s' bH u u'/\cA Λ u q/\cA cD u' q'/\kM bH u u' q q':=by
 intro o o' q q';have K:=G_ h.ok h.new ck x f t;have K':=G_ h.Ge h.VY gP x f' t';obtain⟨q1,q2⟩|⟨c,c',q1,q2,q3⟩:=hr x
 .rw[qT]at q;rw[q1]at q;exact q.elim
 .have hc:=ck x c q1;have hc':=gP x c' q2;have z:=q3.of.size;have w:=q;have w':=q';rw[qT]at q q';rw[q1]at q;rw[q2]at q';obtain⟨b1,rfl⟩|⟨b1,r,u,b2,rfl⟩:=q<;>obtain⟨b1',rfl⟩|⟨b1',r',u',b2',rfl⟩:=q'
  .exact Sp
  .omega
  .omega
  .have⟨bH,st,d,d',e,e',a0,a⟩:=Ej (pl:=pl) h ρ (R:=Cd) (R':=Cd) q3.any (λv hv w hw e=>by
    have⟨g1,g2⟩:=A9 hc hv;have⟨g3,g4⟩:=A9 hc hw
    exact h.rel.inj v w (q3.dom v hv) (q3.dom w hw) g1 g2 g3 g4 e) (λv _=>by simp[Cd]) _ _ b2 b2'
   refine⟨bH,st,(K _ _ w).2,(K' _ _ w').2,?_⟩;rw[kM];have key:∀T,(∀n,aB n T->sub s'.k (via r'<|ρ n)=sub (jK bH) (sub s.k<|via r n))->sub s'.k (sub (via r')<|sub (jK ρ) T)=sub (jK bH) (sub s.k<|sub (via r) T):=λT hT=>by
    rw[iu,sub_sub,sub_sub,sub_sub];exact sub_congr T λn hn=>by rw[hT n hn,sub_sub]
   rw[q3.of,e,e'];refine key _ λn hn=>?_;have⟨l1,l2⟩:=h.ok.om hc.use hn;by_cases hm:n∈c.any
   .have⟨m,x1,x2⟩:=a n hm rfl;have g1:=d.new n m rfl x1;have g2:=d'.new (ρ n) _ rfl x2;simp[via,x1,x2,j9,h.ok.out m g1,h.Ge.out _ g2,jK]
   .have y1:r n=none:=d.out n hm;have y2:r' (ρ n)=none:=d'.out (ρ n) λq=>hm (any_map h hc q3.dom hn (by rw[<-q3.any];exact q));simp[via,y1,y2,j9,l2,(h.rel.live n (h.dom n<|(hc.loc n hn).resolve_left hm) l1 l2).2,jK,a0 n l1]
end
def O_ pl(p p':PM):=∀(g g':Env)(s s':St)(D Λ cD:Nat->Prop)(ρ:Nat->Nat),qY D Λ cD ρ s s'->bC Λ s g->bC cD s' g'->gO D ρ s s' g g'->
 kU pl (p g) (p' g') s s' λq u q' u'=>∃bH,wj D Λ cD ρ s s' bH u u'/\(cA Λ u q.1/\cA cD u' q'.1/\kM bH u u' q.1 q'.1)/\bC Λ u q.2/\bC cD u' q'.2/\gO D bH u u' q.2 q'.2
def yr pl(p p':EM):=∀(Γ dE:Env)(s s':St)(D Λ cD:Nat->Prop)(ρ:Nat->Nat),qY D Λ cD ρ s s'->bC Λ s Γ->bC cD s' dE->gO D ρ s s' Γ dE->
 kU pl (p Γ) (p' dE) s s' λq u q' u'=>∃bH,wj D Λ cD ρ s s' bH u u'/\cA Λ u q/\cA cD u' q'/\kM bH u u' q q'
def Pa{pl:Prop}:∀{ps Hc:List PM},cU (O_ pl) ps Hc->∀i,O_ pl (dr ps i)<|dr Hc i
 |_,_,.nil,i=>by unfold dr;simp;intro _ _ _ _ _ _ _ _ _ _ _ _;exact .no|_,_,.cons h _,0=>by unfold dr;simpa using h|_,_,.cons _ h,i+1=>by have:=Pa h i;unfold dr at this⊢;simpa using this
def Hg{pl:Prop}:∀{ps Hc:List EM},cU (yr pl) ps Hc->∀i,yr pl (dr ps i)<|dr Hc i
 |_,_,.nil,i=>by unfold dr;simp;intro _ _ _ _ _ _ _ _ _ _ _ _;exact .no|_,_,.cons h _,0=>by unfold dr;simpa using h|_,_,.cons _ h,i+1=>by have:=Hg h i;unfold dr at this⊢;simpa using this
structure NdE pl x x':Prop where
 es:es x=es x'
 pl:pl->x=x'
def NdE.sp{x x'}(h:NdE pl x x')(p:pl):kZ x=kZ x'/\BT x=BT x':=by rw[h.pl p];exact⟨rfl,rfl⟩
structure Ls pl L L':Prop where
 es:dz L=dz L'
 pl:pl->L=L'
def Ls.cons{pl:Prop}{x x'}{L L'}(h:Ls pl (x::L) (x'::L')):NdE pl x x'/\Ls pl L L':=by
 have:=h.es;simp only[dz,List.cons.injEq]at this;exact⟨⟨this.1,λp=>by have:=h.pl p;injection this⟩,⟨this.2,λp=>by have:=h.pl p;injection this⟩⟩
def Ls.nth{pl:Prop}:∀{L L':List Nd},Ls pl L L'->∀i,NdE pl (iV L i)<|iV L' i
 |[],[],_,i=>⟨rfl,λ_=>rfl⟩|[],_::_,h,_=>by have:=h.es;simp[dz]at this|_::_,[],h,_=>by have:=h.es;simp[dz]at this|x::L,x'::L',h,0=>by have:=h.cons.1;simpa[iV]using this|x::L,x'::L',h,i+1=>by have:=Ls.nth h.cons.2 i;simpa[iV]using this
def Ek{pl:Prop}:∀(tk:List Ty){L L':List Nd}{ps Hc:List PM},Ls pl L L'->cU (O_ pl) ps Hc->∀(g g':Env)(R R':Rn)(s s':St)(D Λ cD:Nat->Prop)(ρ:Nat->Nat),qY D Λ cD ρ s s'->bC Λ s g->bC cD s' g'->gO D ρ s s' g g'->iF Λ s R->iF cD s' R'->RnR ρ s s' R R'->
 kU pl (kB tk L ps g R) (kB tk L' Hc g' R') s s' λq u q' u'=>∃bH,wj D Λ cD ρ s s' bH u u'/\(bC Λ u q.1/\bC cD u' q'.1/\gO D bH u u' q.1 q'.1)/\iF Λ u q.2/\iF cD u' q'.2/\RnR bH u u' q.2 q'.2
 |a::tk,x::L,x'::L',p::ps,p'::Hc,hL,.cons hp hps,g,g',R,R',s,s',D,Λ,cD,ρ,h,hg,BV,rg,hR,hR',rR=>by
  rw[kB];refine(hp g g' s s' D Λ cD ρ h hg BV rg).and λq u q' u'⟨bH,dN,⟨a1,a2,a3⟩,b1,b2,b3⟩=>?_;refine(wu dN.both (rR.dX hR dN) (hR.run dN.kp.run) (hR'.run dN.iR.run) a).and λi v i' v'⟨lG,gL,c1,c2,c3,d1,d2,d3⟩=>?_;refine(iz gL.both (a1.run gL.kp.run) c1 (a2.run gL.iR.run) c2 (gL.pK a1 a3) c3<|λp=>hL.cons.1.sp p).and λ_ w _ w'⟨ρ3,qB⟩=>?_;have Hh:=gL.trans qB;refine(Ek tk hL.cons.2 hps q.2 q'.2 i.2 i'.2 w w' D Λ cD ρ3 qB.both (b1.run Hh.kp.run) (b2.run Hh.iR.run) (b3.dX b1 Hh) (d1.run qB.kp.run) (d2.run qB.iR.run)<|d3.dX d1 qB).imp λ_ y _ y'⟨El,Lt,r4⟩=>?_;exact⟨El,(dN.trans Hh).trans Lt,r4⟩
 |[],_,_,_,_,_,_,g,g',R,R',s,s',D,Λ,cD,ρ,h,hg,BV,rg,hR,hR',rR=>by simp only[kB];exact .ret ⟨ρ,h.refl,⟨hg,BV,rg⟩,hR,hR',rR⟩|_::_,[],[],_,_,_,_,g,g',R,R',s,s',D,Λ,cD,ρ,h,hg,BV,rg,hR,hR',rR=>by simp only[kB];exact .ret ⟨ρ,h.refl,⟨hg,BV,rg⟩,hR,hR',rR⟩|_::_,[],_::_,_,_,hL,_,_,_,_,_,_,_,_,_,_,_,_,_,_,_,_,_,_=>by have:=hL.es;simp[dz]at this|_::_,_::_,[],_,_,hL,_,_,_,_,_,_,_,_,_,_,_,_,_,_,_,_,_,_=>by have:=hL.es;simp[dz]at this|_::_,_::_,_::_,[],[],_,.nil,g,g',R,R',s,s',D,Λ,cD,ρ,h,hg,BV,rg,hR,hR',rR=>by simp only[kB];exact .ret ⟨ρ,h.refl,⟨hg,BV,rg⟩,hR,hR',rR⟩
def Hi{p:Prop}(h:p:=by
 exact .ret ⟨ρ,h.refl,⟨bL,bL,.aJ _⟩,hg,BV,rg⟩):p:=h
def Lu mk k x{ps Hc}(hL:Ls pl L L')(hp:cU (O_ pl) ps Hc):O_ pl (rP mk k x L ps) (rP mk k x L' Hc):=by
 intro g g' s s' D Λ cD ρ h hg BV rg;rw[rP];refine kU.ite (λ_=>?_) λ_=>?_
 .exact(mQ h).and λv u v' u'⟨bH,st,a⟩=>.ret ⟨bH,st,a,hg.run st.kp.run,BV.run st.iR.run,rg.dX hg st⟩
 refine kU.ite (λ_=>?_) λ_=>?_
 .exact(mQ h).and λv u v' u'⟨bH,st,a⟩=>.ret ⟨bH,st,a,(hg.run st.kp.run).set _ a.1.mono,(BV.run st.iR.run).set _ a.2.1.mono,(rg.dX hg st).set _ a.2.2.mono⟩
 refine kU.ite (λ_=>?_) λ_=>?_
 .exact Hi
 refine kU.ite (λ_=>?_) λ_=>?_
 .exact Hi
 refine kU.ite (λ_=>?_) λ_=>?_
 .exact Hi
 refine kU.ite (λ_=>?_) λ_=>?_
 .refine(Pa hp 0 g g' s s' D Λ cD ρ h hg BV rg).and λa u a' u'⟨bH,dN,⟨a1,a2,a3⟩,b1,b2,b3⟩=>?_;refine(Pa hp 1 _ _ u u' D Λ cD bH dN.both b1 b2 b3).and λb v b' v'⟨lG,gL,⟨c1,c2,c3⟩,d⟩=>?_;exact .ret ⟨lG,dN.trans gL,⟨dK (a1.run gL.kp.run) c1,dK (a2.run gL.iR.run) c2,.two _ (gL.pK a1 a3) c3⟩,d⟩
 cases mk x with
 |none=>exact .no|some p=>
  refine(Ek p.1 hL hp g g' Cd Cd s s' D Λ cD ρ h hg BV rg (.zero _ _) (.zero _ _) .zero).and λq u q' u'⟨bH,dN,⟨a1,a2,a3⟩,b1,b2,b3⟩=>?_;refine(wu dN.both b3 b1 b2 p.2).and λi v i' v'⟨lG,gL,c1,c2,c3,_⟩=>?_;exact .ret ⟨lG,dN.trans gL,⟨c1,c2,c3⟩,a1.run gL.kp.run,a2.run gL.iR.run,a3.dX a1 gL⟩
def Sq{k' n' t t' a a':Nat}{s'}(h:es (.mk k s n L f t a)=es (.mk k' s' n' L' f' t' a')):k=k'/\((k≠3/\k≠15)->s=s')/\dz L=dz L':=by
 simp only[es,Nd.mk.injEq]at h;obtain⟨rfl,h2,-,h4,-⟩:=h;refine⟨rfl,λq=>?_,h4⟩;rw[if_neg ae,if_neg ae]at h2;exact h2
def V0 mk x y L ps(h:k=3\/k=15):rP mk k x L ps=rP mk k y L ps:=by
 obtain rfl|rfl:=h<;>(funext g;simp[rP])
def V5 mk x y L f t ps(h:k=3\/k=15):li mk k x L f t ps=li mk k y L f t ps:=by
 obtain rfl|rfl:=h<;>(funext g;simp[li])
mutual
def Ly{pl:Prop}(mk:Mks):∀x x',NdE pl x x'->O_ pl (dv mk x) (dv mk x')
 |.mk k s n L f t a,.mk k' s' n' L' f' t' a',h=>by
  obtain⟨rfl,h2,h3⟩:=Sq h.es;have hL:Ls pl L L':=⟨h3,λp=>by have:=h.pl p;injection this⟩;unfold dv;by_cases e:k=3\/k=15
  .rw[V0 mk s' s L' _ e];exact Lu mk k s hL<|wv mk L L' hL
  .rw[<-h2 ⟨λq=>e<|jc q,λq=>e<|ja q⟩];exact Lu mk k s hL<|wv mk L L' hL
def wv{pl:Prop}(mk:Mks):∀L L',Ls pl L L'->cU (O_ pl) (mA mk L) (mA mk L')
 |[],[],_=>.nil|[],_::_,h=>by have:=h.es;simp[dz]at this|_::_,[],h=>by have:=h.es;simp[dz]at this|x::L,x'::L',h=>.cons (Ly mk x x' h.cons.1)<|wv mk L L' h.cons.2
end
end In
namespace In
def Em{pl:Prop}(mk:Mks):∀{L L':List Nd}{ps Hc:List EM},Ls pl L L'->cU (yr pl) ps Hc->∀(Γ dE:Env)(t t' r r':Ty)(s s':St)(D Λ cD:Nat->Prop)(ρ:Nat->Nat),qY D Λ cD ρ s s'->bC Λ s Γ->bC cD s' dE->gO D ρ s s' Γ dE->cA Λ s t->cA cD s' t'->kM ρ s s' t t'->cA Λ s r->cA cD s' r'->kM ρ s s' r r'->
 kU pl (n_ mk Γ t r L ps) (n_ mk dE t' r' L' Hc) s s' λ_ u _ u'=>∃bH,wj D Λ cD ρ s s' bH u u'
 |p::e::L,p'::e'::L',q1::pe::ps,q2::pe'::Hc,hL,.cons _<|.cons hpe hps,Γ,dE,t,t',r,r',s,s',D,Λ,cD,ρ,h,ck,gP,sR,a1,a2,a3,b1,b2,b3=>by
  have⟨hp,hL1⟩:=hL.cons;have⟨he,hL2⟩:=hL1.cons;rw[n_];refine(Ly mk p p' hp _ _ s s' D Λ cD ρ h (.none _ _) (.none _ _) .none).and λq u q' u'⟨bH,dN,⟨c1,c2,c3⟩,d1,d2,d3⟩=>?_;refine(iz dN.both (a1.run dN.kp.run) c1 (a2.run dN.iR.run) c2 (dN.pK a1 a3) c3<|λp=>hp.sp p).and λ_ v _ v'⟨lG,gL⟩=>?_;have nS:=dN.trans gL;refine(hpe _ _ v v' D Λ cD lG gL.both ((d1.run gL.kp.run).over<|ck.run nS.kp.run) ((d2.run gL.iR.run).over<|gP.run nS.iR.run)<|(d3.dX d1 gL).over<|sR.dX ck nS).and λx w x' w'⟨ρ3,qB,e1,e2,e3⟩=>?_;have Hj:=nS.trans qB;refine(iz qB.both (b1.run Hj.kp.run) e1 (b2.run Hj.iR.run) e2 (Hj.pK b1 b3) e3<|λp=>he.sp p).and λ_ y _ y'⟨El,Lt⟩=>?_;have Da:=Hj.trans Lt;exact(Em mk hL2 hps Γ dE t t' r r' y y' D Λ cD El Lt.both (ck.run Da.kp.run) (gP.run Da.iR.run) (sR.dX ck Da) (a1.run Da.kp.run) (a2.run Da.iR.run) (Da.pK a1 a3) (b1.run Da.kp.run) (b2.run Da.iR.run)<|Da.pK b1 b3).imp λ_ _ _ _⟨ρ5,st5⟩=>⟨ρ5,Da.trans st5⟩
 |[],[],_,_,_,_,_,_,_,_,_,_,s,s',D,Λ,cD,ρ,h,_,_,_,_,_,_,_,_,_=>qBj|[_],[_],_,_,_,_,_,_,_,_,_,_,s,s',D,Λ,cD,ρ,h,_,_,_,_,_,_,_,_,_=>qBj|_::_::_,_::_::_,[],[],_,.nil,_,_,_,_,_,_,s,s',D,Λ,cD,ρ,h,_,_,_,_,_,_,_,_,_=>qBj|_::_::_,_::_::_,[_],[_],_,.cons _ .nil,_,_,_,_,_,_,s,s',D,Λ,cD,ρ,h,_,_,_,_,_,_,_,_,_=>qBj|[],_::_,_,_,hL,_,_,_,_,_,_,_,_,_,_,_,_,_,_,_,_,_,_,_,_,_,_,_=>by have:=hL.es;simp[dz]at this|_::_,[],_,_,hL,_,_,_,_,_,_,_,_,_,_,_,_,_,_,_,_,_,_,_,_,_,_,_=>by have:=hL.es;simp[dz]at this|[_],_::_::_,_,_,hL,_,_,_,_,_,_,_,_,_,_,_,_,_,_,_,_,_,_,_,_,_,_,_=>by have:=hL.es;simp[dz]at this|_::_::_,[_],_,_,hL,_,_,_,_,_,_,_,_,_,_,_,_,_,_,_,_,_,_,_,_,_,_,_=>by have:=hL.es;simp[dz]at this
def A_ rc x{e:Nd}(he:NdE pl e e'){pe pe':EM}(hp:yr pl pe pe'):yr pl (ch rc x e pe) (ch rc x e' pe'):=by
 intro Γ dE s s' D Λ cD ρ h ck gP sR;rw[ch];refine kU.ite (λ_=>?_) λ_=>hp Γ dE s s' D Λ cD ρ h ck gP sR;refine(mQ h).and λv u v' u'⟨bH,dN,a1,a2,a3⟩=>?_;refine(hp _ _ u u' D Λ cD bH dN.both ((ck.run dN.kp.run).set _ a1.mono) ((gP.run dN.iR.run).set _ a2.mono)<|(sR.dX ck dN).set _ a3.mono).and λt w t' w'⟨lG,gL,b1,b2,b3⟩=>?_;refine(iz gL.both (a1.run gL.kp.run) b1 (a2.run gL.iR.run) b2 (gL.pK a1 a3) b3<|λp=>he.sp p).and λ_ y _ y'⟨ρ3,qB⟩=>?_;exact .ret ⟨ρ3,(dN.trans gL).trans qB,b1.run qB.kp.run,b2.run qB.iR.run,qB.pK b1 b3⟩
mutual
def wC:∀x,rK (es x)=rK x
 |.mk k s n L f t a=>by
  simp only[es,rK,Sr L,Ss L,Su L,aa5 L]
def Sr:∀L,Uy (dz L)=Uy L
 |[]=>rfl|x::l=>by simp only[dz,Uy,wC x,Sr l]
def Ss:∀L,Nq (dz L)=Nq L
 |[]=>rfl|x::l=>by simp only[dz,Nq,wC x]
def Su:∀L,Nt (dz L)=Nt L
 |[]=>rfl|x::l=>by simp only[dz,Nt,Ss l]
def aa5:∀L,isC (dz L)=isC L
 |[]=>rfl|x::l=>by simp only[dz,isC,ahB x]
def ahB:∀x,isM (es x)=isM x
 |.mk k s n L f t a=>by simp only[es,isM,Su L,aa5 L]
end
section
variable {s s':St}
def V7(h:qY D Λ cD ρ s s'){Γ dE:Env}(ck:bC Λ s Γ)(sR:gO D ρ s s' Γ dE)(d:D v)(u:s.u v)(e:s.k v=.var v):wZ Γ s.k v↔wZ dE s'.k (ρ v):=by
 constructor
 .rintro⟨y,c,q1,q2,q3⟩;obtain⟨z,_⟩|⟨d,c',z1,z2,z3⟩:=sR y
  .rw[q1]at z;cases z
  .rw[q1]at z1;injection z1 with z1;subst z1;refine⟨y,c',z2,?_,λq=>q3 ?_⟩
   .rw[z3.of];exact(bN _).2 ⟨v,q2,by simp[jK,aB]⟩
   .rw[z3.any]at q;exact any_map h (ck y c q1) z3.dom q2 q
 .rintro⟨y,c',q1,q2,q3⟩;obtain⟨_,z⟩|⟨c,d,z1,z2,z3⟩:=sR y
  .rw[q1]at z;cases z
  .rw[q1]at z2;injection z2 with z2;subst z2;rw[z3.of]at q2;have⟨m,c1,c2⟩:=(bN _).1 q2;simp[jK,aB]at c2;have⟨l1,l2⟩:=h.ok.om (ck y c z1).use c1;have:=h.rel.inj m v (((ck y c z1).loc m c1).elim (z3.dom m)<|h.dom m) d l1 l2 u e c2;subst this;exact⟨y,c,z1,c1,λq=>q3 (by rw[z3.any];exact List.mem_map.2 ⟨m,q,rfl⟩)⟩
def bC.del{Γ:Env}(h:bC Λ s Γ)x:bC Λ s (lR Γ x):=by grind[bC,lR]
def Sw(h:qY D Λ cD ρ s s'){Γ dE:Env}(ck:bC Λ s Γ)(sR:gO D ρ s s' Γ dE)(a1:cA Λ s t)(a3:kM ρ s s' t t')v:Lq D ρ s s' (eU Γ s.k t v) (eU dE s'.k t' v):=by
 refine⟨?_,?_,λn hn=>a1.dom h.dom n (Gh hn).1⟩
 .show sub s'.k (sub s'.k t')=sub (jK ρ) (sub s.k<|sub s.k t);rw[h.ok.rA,h.Ge.rA];exact a3
 .unfold eU
  cases v with
  |false=>simp|true=>
   simp only[if_true,zL];unfold kM at a3;have hR:Ren ρ (vars []<|sub s.k t):=λm hm n hn e=>by
    have⟨x1,x2⟩:=h.ok.om a1.use<|aq.1 hm;have⟨y1,y2⟩:=h.ok.om a1.use<|aq.1 hn;exact h.rel.inj m n (a1.dom h.dom m<|aq.1 hm) (a1.dom h.dom n<|aq.1 hn) x1 x2 y1 y2 e
   have hv:=tP (ρ:=ρ) (sub s.k t) (a:=[]) hR;simp only[j5]at hv;rw[a3,hv,List.filter_map];congr 1;refine List.filter_congr λn hn=>?_;have⟨x1,x2⟩:=h.ok.om a1.use<|aq.1 hn;have:=V7 h ck sR (a1.dom h.dom n<|aq.1 hn) x1 x2;simp[this]
def wj.wide{M M'}{bH}{s1 A8}(h:wj D Λ cD ρ s s' bH s1 A8)(a:∀n,Λ n->M n)(b:∀n,cD n->M' n)(hD:∀n,M n->D n):wj D M M' ρ s s' bH s1 A8:=
 ⟨⟨h.kp.ok,λn q=>a n<|h.kp.new n q,h.kp.run.wide a⟩,⟨h.iR.ok,λn q=>b n<|h.iR.new n q,h.iR.run.wide b⟩,h.rel,h.ty,λn q1 q2 d q3=>h.any n q1 q2 d λq=>q3<|a n q,hD⟩
def Lz rc x{e:Nd}(he:NdE pl e e'){pe pe' pf pf':EM}(hp:yr pl pe pe')(hf:yr pl pf pf'):yr pl (qR rc x e pe pf) (qR rc x e' pe' pf'):=by
 intro Γ dE s s' D Λ cD ρ h ck gP sR;unfold qR;have hv:rK e=rK e':=by rw[<-wC e,<-wC e',he.es]
 rw[<-hv];refine(A_ rc x he hp Γ dE s s' D Λ cD ρ h ck gP sR).and λt u t' u'⟨bH,dN,a1,a2,a3⟩=>?_;have ahC:=ck.run dN.kp.run;have ake:=gP.run dN.iR.run;have ahD:=sR.dX ck dN;have⟨hE,hN⟩:=yH dN.kp.ok dN.kp.new ahC a1 rc x<|rK e;have⟨hE',hN'⟩:=yH dN.iR.ok dN.iR.new ake a2 rc x<|rK e;have hS:Lq D bH u u' (eU (if rc then lR Γ x else Γ) u.k t (rK e)) (eU (if rc then lR dE x else dE) u'.k t' (rK e)):=by
  cases rc with
  |true=>simp only[if_true];exact Sw dN.both (ahC.del x) (ahD.del x) a1 a3 _|false=>exact Sw dN.both ahC ahD a1 a3 _
 exact kU.imp (hf _ _ u u' D _ _ bH ⟨λn q=>h.dom n q.1,dN.kp.ok,hN,dN.iR.ok,hN',dN.rel⟩ hE hE'<|ahD.set x hS) λy w y' w'⟨lG,gL,b1,b2,b3⟩=>
  ⟨lG,dN.trans<|gL.wide (λn q=>q.1) (λn q=>q.1) h.dom,⟨b1.use,λn q=>(b1.loc n q).1⟩,⟨b2.use,λn q=>(b2.loc n q).1⟩,b3⟩
end
def V8{E}{l:List α}{k:List β}(h:cU E l k):cU E l.tail k.tail:=by
 cases h with
 |nil=>exact .nil|cons _ h=>exact h
def Ls.tail:∀{L L':List Nd},Ls pl L L'->Ls pl L.tail L'.tail
 |[],[],_=>⟨rfl,λ_=>rfl⟩|[],_::_,h=>by have:=h.es;simp[dz]at this|_::_,[],h=>by have:=h.es;simp[dz]at this|_::_,_::_,h=>h.cons.2
def Hk{p:Prop}(h:p:=by
 exact .ret ⟨ρ,h.refl,bL,bL,.aJ _⟩):p:=h
def LA mk k x{t t'}(hs:pl->f=f'/\t=t'){ps Hc}(hL:Ls pl L L')(hp:cU (yr pl) ps Hc):yr pl (li mk k x L f t ps) (li mk k x L' f' t' Hc):=by
 intro Γ dE s s' D Λ cD ρ h ck gP sR;have h0:=Hg hp 0;have h1:=Hg hp 1;have h2:=Hg hp 2;have n0:=hL.nth 0;have n1:=hL.nth 1;have n2:=hL.nth 2;rw[li];refine kU.ite (λ_=>?_) λ_=>?_
 .exact aa4 h ck gP sR _ hs
 refine kU.ite (λ_=>?_) λ_=>?_
 .rw[upM]
  cases mk x with
  |none=>exact .no|some p=>exact(wu h .zero (.zero _ _) (.zero _ _) _).and λq u q' u'⟨bH,dN,a1,a2,a3,_⟩=>.ret ⟨bH,dN,a1,a2,a3⟩
 refine kU.ite (λ_=>?_) λ_=>?_
 .exact Hk
 refine kU.ite (λ_=>?_) λ_=>?_
 .exact Hk
 refine kU.ite (λ_=>?_) λ_=>?_
 .exact Hk
 refine kU.ite (λ_=>?_) λ_=>?_
 .refine(h0 Γ dE s s' D Λ cD ρ h ck gP sR).and λa u a' u'⟨bH,dN,a1,a2,a3⟩=>?_;refine(h1 Γ dE u u' D Λ cD bH dN.both (ck.run dN.kp.run) (gP.run dN.iR.run)<|sR.dX ck dN).and λb v b' v'⟨lG,gL,b1,b2,b3⟩=>?_;exact .ret ⟨lG,dN.trans gL,dK (a1.run gL.kp.run) b1,dK (a2.run gL.iR.run) b2,.two _ (gL.pK a1 a3) b3⟩
 refine kU.ite (λ_=>?_) λ_=>?_
 .rw[<-n1.es];refine kU.ite (λhz=>?_) λ_=>.no;refine(h0 Γ dE s s' D Λ cD ρ h ck gP sR).and λa u a' u'⟨bH,dN,a1,a2,a3⟩=>?_;refine(iz dN.both a1 (j_ hz) a2 (j_ hz) a3 (.shut hz)<|λp=>n0.sp p).and λ_ v _ v'⟨lG,gL⟩=>?_;exact .ret ⟨lG,dN.trans gL,j_ hz,j_ hz,.shut hz⟩
 refine kU.ite (λ_=>?_) λ_=>?_
 .refine(h0 Γ dE s s' D Λ cD ρ h ck gP sR).and λa u a' u'⟨bH,dN,a1,a2,a3⟩=>?_;refine(iz dN.both a1 bL a2 bL a3 (.aJ _)<|λp=>n0.sp p).and λ_ v _ v'⟨lG,gL⟩=>?_;have nS:=dN.trans gL;refine(h1 Γ dE v v' D Λ cD lG gL.both (ck.run nS.kp.run) (gP.run nS.iR.run)<|sR.dX ck nS).and λb w b' w'⟨ρ3,qB,b1,b2,b3⟩=>?_;refine(iz qB.both b1 bL b2 bL b3 (.aJ _)<|λp=>n1.sp p).and λ_ y _ y'⟨El,Lt⟩=>?_;refine .ret ⟨El,(nS.trans qB).trans Lt,?_⟩;split<;>exact⟨bL,bL,.aJ _⟩
 refine kU.ite (λ_=>?_) λ_=>?_
 .refine(h0 Γ dE s s' D Λ cD ρ h ck gP sR).and λa u a' u'⟨bH,dN,a1,a2,a3⟩=>?_;refine(h1 Γ dE u u' D Λ cD bH dN.both (ck.run dN.kp.run) (gP.run dN.iR.run)<|sR.dX ck dN).and λb v b' v'⟨lG,gL,b1,b2,b3⟩=>?_;refine(mQ gL.both).and λc w c' w'⟨ρ3,qB,c1,c2,c3⟩=>?_;have Hh:=gL.trans qB;refine(iz qB.both (a1.run Hh.kp.run) (dK (b1.run qB.kp.run) c1) (a2.run Hh.iR.run) (dK (b2.run qB.iR.run) c2) (Hh.pK a1 a3) (.two _ (qB.pK b1 b3) c3) hs).and λ_ y _ y'⟨El,Lt⟩=>?_;exact .ret ⟨El,(dN.trans Hh).trans Lt,c1.run Lt.kp.run,c2.run Lt.iR.run,Lt.pK c1 c3⟩
 refine kU.ite (λ_=>?_) λ_=>?_
 .refine(mQ h).and λc u c' u'⟨bH,dN,c1,c2,c3⟩=>?_;refine(h0 _ _ u u' D Λ cD bH dN.both ((ck.run dN.kp.run).set _ c1.mono) ((gP.run dN.iR.run).set _ c2.mono)<|(sR.dX ck dN).set _ c3.mono).and λa v a' v'⟨lG,gL,a1,a2,a3⟩=>?_;exact .ret ⟨lG,dN.trans gL,dK (c1.run gL.kp.run) a1,dK (c2.run gL.iR.run) a2,.two _ (gL.pK c1 c3) a3⟩
 refine kU.ite (λ_=>?_) λ_=>?_
 .exact Lz false x n0 h0 h1 Γ dE s s' D Λ cD ρ h ck gP sR
 refine kU.ite (λ_=>?_) λ_=>?_
 .exact Lz true x n0 h0 h1 Γ dE s s' D Λ cD ρ h ck gP sR
 refine kU.ite (λ_=>?_) λ_=>?_
 .refine(h0 Γ dE s s' D Λ cD ρ h ck gP sR).and λa u a' u'⟨bH,dN,a1,a2,a3⟩=>?_;refine(iz dN.both a1 bL a2 bL a3 (.aJ _)<|λp=>n0.sp p).and λ_ v _ v'⟨lG,gL⟩=>?_;have nS:=dN.trans gL;refine(h1 Γ dE v v' D Λ cD lG gL.both (ck.run nS.kp.run) (gP.run nS.iR.run)<|sR.dX ck nS).and λb w b' w'⟨ρ3,qB,b1,b2,b3⟩=>?_;have Hj:=nS.trans qB;refine(h2 Γ dE w w' D Λ cD ρ3 qB.both (ck.run Hj.kp.run) (gP.run Hj.iR.run)<|sR.dX ck Hj).and λc y c' y'⟨El,Lt,c1,c2,c3⟩=>?_;refine(iz Lt.both (b1.run Lt.kp.run) c1 (b2.run Lt.iR.run) c2 (Lt.pK b1 b3) c3<|λp=>n2.sp p).and λ_ z _ z'⟨ρ5,st5⟩=>?_;have ad4:=Lt.trans st5;exact .ret ⟨ρ5,Hj.trans ad4,b1.run ad4.kp.run,b2.run ad4.iR.run,ad4.pK b1 b3⟩
 refine kU.ite (λ_=>?_) λ_=>.no
 .refine(h0 Γ dE s s' D Λ cD ρ h ck gP sR).and λa u a' u'⟨bH,dN,a1,a2,a3⟩=>?_;refine(mQ dN.both).and λc v c' v'⟨lG,gL,c1,c2,c3⟩=>?_;have nS:=dN.trans gL;refine(Em mk hL.tail (V8 hp) Γ dE a a' _ _ v v' D Λ cD lG gL.both (ck.run nS.kp.run) (gP.run nS.iR.run) (sR.dX ck nS) (a1.run gL.kp.run) (a2.run gL.iR.run) (gL.pK a1 a3) c1 c2 c3).and λ_ w _ w'⟨ρ3,qB⟩=>?_;exact .ret ⟨ρ3,nS.trans qB,c1.run qB.kp.run,c2.run qB.iR.run,qB.pK c1 c3⟩
mutual
def Sy{pl:Prop}(mk:Mks):∀x x',NdE pl x x'->yr pl (inf mk x) (inf mk x')
 |.mk k s n L f t a,.mk k' s' n' L' f' t' a',h=>by
  obtain⟨rfl,h2,h3⟩:=Sq h.es;have hL:Ls pl L L':=⟨h3,λp=>by have:=h.pl p;injection this⟩;have hs:pl->f=f'/\t=t':=λp=>h.sp p;unfold inf;by_cases e:k=3\/k=15
  .rw[V5 mk s' s L' f' t' _ e];exact LA mk k s hs hL<|Ba mk L L' hL
  .rw[<-h2 ⟨λq=>e<|jc q,λq=>e<|ja q⟩];exact LA mk k s hs hL<|Ba mk L L' hL
def Ba{pl:Prop}(mk:Mks):∀L L',Ls pl L L'->cU (yr pl) (qQ mk L) (qQ mk L')
 |[],[],_=>.nil|[],_::_,h=>by have:=h.es;simp[dz]at this|_::_,[],h=>by have:=h.es;simp[dz]at this|x::L,x'::L',h=>.cons (Sy mk x x' h.cons.1)<|Ba mk L L' h.cons.2
end
end In
namespace In
def nxt(rs:Bool)(s:St):St:=⟨if rs then Ty.var else s.k,s.u⟩
def qV(rs:Bool):List Dc->Mks->Env->St->List (BA×Ty)->Option Ft->Prop
 |[],_,_,_,B,F=>B=[]/\F=none|.ty t vs ms::r,mk,Γ,s0,B,F=>qV rs r (oQ t vs ms mk) Γ s0 B F
 |.lt rc t b::r,mk,Γ,s0,B,F=>∃o,ch rc t.text b (inf mk b) Γ s0 o/\match o with
  |.error x=>B=[]/\F=some x
  |.ok (a,s)=>(48<size (sub s.k a)/\B=[]/\F=some (q_ t.aF t.to))\/
   (size (sub s.k a)<=48/\∃T B',T=(if rK b then sub s.k a else eu (sub s.k a))/\B=(t.text,T)::B'/\qV rs r mk (cz Γ t.text ⟨T,vars [] T⟩) (nxt rs s) B' F)
def tN u:Ok ⟨Ty.var,u⟩:=⟨λ_ _=>rfl,λv n q1 q2=>by simp[aB]at q2;subst q2;exact q1,λv n q=>by simp[aB]at q;subst q;rfl⟩
def Zm(s:St)(Γ:Env):=∀y c,Γ y=some c->c.any=vars [] c.of/\∀v,v∈c.any->s.u v/\s.k v=.var v
def Zm.fix{s:St}{Γ:Env}(h:Zm s Γ){y}{c}(q:Γ y=some c):sub s.k c.of=c.of:=fs λn hn=>((h y c q).2 n (by rw[(h y c q).1];exact aq.2 hn)).2
def Zm.env{s:St}{Γ:Env}(h:Zm s Γ):bC (λn=>¬s.u n) s Γ:=λy c q=>by
 have⟨h1,h2⟩:=h y c q;refine⟨λn hn=>(h2 n (by rw[h1];exact aq.2 hn)).1,λn hn=>jc ?_,λv hv=>⟨(h2 v hv).2,λq=>q (h2 v hv).1⟩,λv hv=>by rw[h1]at hv;exact aq.1 hv⟩;rw[h1];rw[h.fix q]at hn;exact aq.2 hn
def Hl(u:Nat->Prop)(Γ:Env):Nat->Prop:=λn=>¬u n\/∃y c,Γ y=some c/\n∈c.any
structure Gd ρ s s' Γ dE:Prop where
 ok:Ok s
 Ge:Ok s'
 top:Zm s Γ
 JY:Zm s' dE
 rel:Rel (Hl s.u Γ) ρ s s'
 env:gO (Hl s.u Γ) ρ s s' Γ dE
def Gd.both{s s':St}{Γ dE:Env}(h:Gd ρ s s' Γ dE):qY (Hl s.u Γ) (λn=>¬s.u n) (λn=>¬s'.u n) ρ s s':=⟨λn q=>jc q,h.ok,λ_ q=>q,h.Ge,λ_ q=>q,h.rel⟩
def aa6{s:St}(h:Ok s)rs:Ok (nxt rs s):=by
 cases rs with
 |false=>exact h|true=>exact tN _
def uI{s:St}(h:s.k n=.var n)rs:(nxt rs s).k n=.var n:=by
 cases rs with
 |false=>exact h|true=>rfl
inductive DcE(pl:Prop):Dc->Dc->Prop where
 |ty(t t':jj)(vs vs':List jj)(ms ms':List Nd):t.text=t'.text->vs.map (·.text)=vs'.map (·.text)->dz ms=dz ms'->DcE pl (.ty t vs ms) (.ty t' vs' ms')
 |lt(r:Bool)(t t':jj)(b b':Nd):t.text=t'.text->(pl->t=t')->NdE pl b b'->DcE pl (.lt r t b) (.lt r t' b')
def aa7:∀{x y:Nd},D6 x=2->es x=es y->Ac x=Ac y
 |.mk k s n L f t a,.mk k' s' n' L' f' t' a',h,e=>(Sq e).2.1 (by simp only[D6]at h;omega)
def aa8:∀{x y:Nd},es x=es y->DE ns x=DE ns y
 |.mk k s n L f t a,.mk k' s' n' L' f' t' a',e=>by simp only[DE,(Sq e).2.2]
def LB{t t':jj}{vs vs':List jj}(ht:t.text=t'.text)(hv:vs.map (·.text)=vs'.map (·.text)):∀{ms ms':List Nd},(∀m∈ms,D6 m=2)->dz ms=dz ms'->∀mk,oQ t vs ms mk=oQ t' vs' ms' mk
 |[],[],_,_,mk=>rfl|[],_::_,_,h,_=>by simp[dz]at h|_::_,[],_,h,_=>by simp[dz]at h|m::ms,m'::ms',hk,h,mk=>by
  simp only[dz,List.cons.injEq]at h;have hl:vs.length=vs'.length:=by have:=congrArg jz hv;simpa using this
  simp only[oQ];rw[LB ht hv (λm q=>hk m qBf) h.2,aa7 (hk m ag) h.1,aa8 h.1,hv];simp only[N',ht,hl]
def DcK:Dc->Prop
 |.ty _ _ ms=>∀m∈ms,D6 m=2|.lt _ _ _=>True
section
variable (dec:Nat->List UInt8)
def aa9(B:List (BA×Ty)):List (BA×List UInt8):=B.map λp=>(p.1,qf dec p.2)
def pL t:vars [] (eu t)=[]:=by
 cases e:vars [] (eu t)with
 |nil=>rfl|cons n l=>
  have:aB n (eu t):=aq.1 (by rw[e];simp);have⟨m,_,c⟩:=(bN _).1 this;simp[aB,bX]at c
def Pb ρ t:eu (sub (jK ρ) t)=eu t:=by
 unfold eu;rw[iu]
def Gd.next{s0 s0':St}{Γ dE:Env}(h:Gd ρ s0 s0' Γ dE){s s':St}(st:wj (Hl s0.u Γ) (λn=>¬s0.u n) (λn=>¬s0'.u n) ρ s0 s0' bH s s')(a1:cA (λn=>¬s0.u n) s a)(a2:cA (λn=>¬s0'.u n) s' a')(a3:kM bH s s' a a')(x:BA)(v:Bool){T T':Ty}(hT:T=if v then sub s.k a else eu (sub s.k a))(Xf:T'=if v then sub s'.k a' else eu (sub s'.k a'))(rs Vg:Bool):
 qf dec T'=qf dec T/\Gd bH (nxt rs s) (nxt Vg s') (cz Γ x ⟨T,vars [] T⟩) (cz dE x ⟨T',vars [] T'⟩):=by
 have oT:∀n,aB n T->s.u n/\s.k n=.var n/\¬s0.u n:=λn hn=>by
  cases v with
  |true=>simp only[if_true]at hT;subst hT;exact⟨(st.kp.ok.om a1.use hn).1,(st.kp.ok.om a1.use hn).2,a1.loc n hn⟩|false=>simp at hT;subst hT;have:=aq.2 hn;rw[pL]at this;simp at this
 have oT':∀n,aB n T'->s'.u n/\s'.k n=.var n:=λn hn=>by
  cases v with
  |true=>simp only[if_true]at Xf;subst Xf;exact st.iR.ok.om a2.use hn|false=>simp at Xf;subst Xf;have:=aq.2 hn;rw[pL]at this;simp at this
 have dT:∀n,aB n T->Hl s0.u Γ n:=λn hn=>jc (oT n hn).2.2;have hR:Ren bH (vars [] T):=λm hm n hn e=>by
  have q1:=oT m<|aq.1 hm;have q2:=oT n<|aq.1 hn;exact st.rel.inj m n (dT m<|aq.1 hm) (dT n<|aq.1 hn) q1.1 q1.2.1 q2.1 q2.2.1 e
 have eT:T'=sub (jK bH) T:=by
  rw[kM]at a3
  cases v with
  |true=>grind|false=>
   simp at hT Xf;rw[Xf,a3,Pb,<-hT];exact(fs λn hn=>by have:=aq.2 hn;rw[hT,pL]at this;simp at this).symm
 have hv:=tP (ρ:=bH) T (a:=[]) hR;simp only[j5]at hv;refine⟨by rw[eT];exact JB dec hR,?_⟩;have eW:∀y c n,Γ y=some c->n∈c.any->s0.u n/\s.u n/\s.k n=.var n/\bH n=ρ n/\Hl s0.u Γ n:=λy c n q1 q2=>by
  have⟨hu,hf⟩:=(h.top y c q1).2 n q2;have hd:Hl s0.u Γ n:=ja ⟨y,c,q1,q2⟩;exact⟨hu,st.kp.run.mono n hu,st.kp.fix hf<|λq=>q hu,st.any n hu hf hd<|λq=>q hu,hd⟩
 have Pc:∀n,Hl s.u (cz Γ x ⟨T,vars [] T⟩) n->s.u n->Hl s0.u Γ n/\s.k n=.var n:=λn q1 q2=>by
  obtain q|⟨y,c,q3,q4⟩:=q1
  .exact absurd q2 q
  .rw[cz]at q3;split at q3
   .injection q3 with q3;subst q3;exact⟨dT n<|aq.1 q4,(oT n<|aq.1 q4).2.1⟩
   .grind
 have tp:Zm (nxt rs s) (cz Γ x ⟨T,vars [] T⟩):=λy c q=>by
  rw[cz]at q;split at q
  .injection q with q;subst q;exact⟨rfl,λv hv=>⟨(oT v<|aq.1 hv).1,uI (oT v<|aq.1 hv).2.1 rs⟩⟩
  .exact⟨(h.top y c q).1,λv hv=>⟨(eW y c v q hv).2.1,uI (eW y c v q hv).2.2.1 rs⟩⟩
 have tp':Zm (nxt Vg s') (cz dE x ⟨T',vars [] T'⟩):=λy c q=>by
  rw[cz]at q;split at q
  .injection q with q;subst q;exact⟨rfl,λv hv=>⟨(oT' v<|aq.1 hv).1,uI (oT' v<|aq.1 hv).2 Vg⟩⟩
  .exact⟨(h.JY y c q).1,λv hv=>⟨st.iR.run.mono v ((h.JY y c q).2 v hv).1,uI (st.iR.fix ((h.JY y c q).2 v hv).2<|λz=>z ((h.JY y c q).2 v hv).1) Vg⟩⟩
 refine⟨aa6 st.kp.ok rs,aa6 st.iR.ok Vg,tp,tp',⟨λn q1 q2 _=>?_,λm n p1 p2 q1 _ q2 _ e=>?_⟩,λy=>?_⟩
 .have⟨b1,b2⟩:=Pc n q1 q2;exact⟨(st.rel.live n b1 q2 b2).1,uI (st.rel.live n b1 q2 b2).2 Vg⟩
 .have⟨b1,b2⟩:=Pc m p1 q1;have⟨c1,c2⟩:=Pc n p2 q2;exact st.rel.inj m n b1 c1 q1 b2 q2 c2 e
 .by_cases e:y=x
  .refine ja ⟨⟨T,vars [] T⟩,⟨T',vars [] T'⟩,by simp[cz,e],by simp[cz,e],?_,?_,λv hv=>ja ⟨x,_,by simp[cz],hv⟩⟩
   .rw[kM];rw[tp.fix (y:=x)<|by simp[cz],tp'.fix (y:=x)<|by simp[cz]];exact eT
   .grind
  .obtain⟨q1,q2⟩|⟨c,c',q1,q2,q3⟩:=h.env y
   .exact jc ⟨by simp[cz,e,q1],by simp[cz,e,q2]⟩
   .refine ja ⟨c,c',by simp[cz,e,q1],by simp[cz,e,q2],?_,?_,λv hv=>ja ⟨y,c,by simp[cz,e,q1],hv⟩⟩
    .have:=q3.of;rw[kM]at this⊢;rw[tp.fix (y:=y)<|by simp[cz,e,q1],tp'.fix (y:=y)<|by simp[cz,e,q2]];rw[h.top.fix q1,h.JY.fix q2]at this;rw[this];exact wo λn hn=>(eW y c n q1 (by rw[(h.top y c q1).1];exact aq.2 hn)).2.2.2.1.symm
    .rw[q3.any];exact j6 λv hv=>(eW y c v q1 hv).2.2.2.1.symm
end
end In
def aa_ l n:(qe l n).length<=l.length+1:=by rw[qe];split<;>simp
mutual
def e_:∀(t:Ty)(l:List Nat),(vars l t).length<=l.length+size t
 |.var n,l=>by have:=aa_ l n;simp[vars,size];omega|.aJ c L,l=>by have:=Ep L l;simp[vars,size];omega
def Ep:∀(L:List Ty)(l:List Nat),(aU l L).length<=l.length+ah L
 |[],l=>by simp[aU,ah]|t::L,l=>by
   have h1:=e_ t l;have h2:=Ep L<|vars l t;simp[aU,ah];omega
end
mutual
def Wf:Ty->Prop
 |.var _=>True|.aJ c l=>DZ c l.length/\xJ l
def xJ:List Ty->Prop
 |[]=>True|t::l=>Wf t/\xJ l
end
def pY:∀(l:List Ty),xJ l↔∀t,t∈l->Wf t
 |[]=>by simp[xJ]|a::l=>by simp[xJ,pY l]
mutual
def Wf.CR{R:Nat->Ty}:∀t,Wf t->(∀v,aB v t->Wf (R v))->Wf (j9 R t)
 |.var n,_,hR=>by simpa[j9]using hR n (by simp[aB])|.aJ c l,h,hR=>by simp only[j9,Wf,ew];exact⟨h.1,xJ.CR l h.2<|λv hv=>hR v<|by simpa[aB]using hv⟩
def xJ.CR{R:Nat->Ty}:∀l,xJ l->(∀v,bX v l->Wf (R v))->xJ (aP R l)
 |[],_,_=>by simp[aP,xJ]|t::l,h,hR=>⟨Wf.CR t h.1<|λv hv=>hR v<|jc hv,xJ.CR l h.2<|λv hv=>hR v<|ja hv⟩
end
def Sz p s:(rL p s).length<=s.length+2:=by rw[rL];split<;>simp
def ahE n:∀L:List Nat,L.idxOf n<=L.length:=λL=>List.idxOf_le_length
mutual
def wE{L:List Nat}(hL:L.length<=1000):∀t,Wf t->∀k,(wr dec L t k).length+1000<=3000*size t
 |.var n,_,k=>by
  have h1:=yU<|L.idxOf n;have h2:=ahE n L;simp[wr,size];omega
 |.aJ c l,h,k=>by
  obtain⟨⟨h1,h2⟩,h3⟩:=h;have hfl:=SA hL l h3;have hc:c.toList.length=c.size:=by rw[ByteArray.toList_eq];exact Array.length_toList
  simp only[wr,bu];split
  .rename_i e
   match l,h2.1<|jc e,h3 with
   |[u,v],_,h3=>
    have a:=wE hL u h3.1 1;have b:=wE hL v h3.2.1 0;have:=Sz (decide (0<k))<|nth (oe dec L [u,v]) 0 1++([32,45,62,32]++nth (oe dec L [u,v]) 1 0);simp[oe,nth,size,ah]at this⊢;omega
  .split
   .rename_i e
    match l,h2.1<|ja e,h3 with
    |[u,v],_,h3=>
     have a:=wE hL u h3.1 0;have b:=wE hL v h3.2.1 0;simp[oe,nth,size,ah];omega
   .have:=Sz (decide (1<k)&& !(oe dec L l).isEmpty) (c.toList++(oe dec L l).flatMap λp=>32::p 2);simp only[lz]at this;simp only[size];omega
def SA{L:List Nat}(hL:L.length<=1000):∀l,xJ l->((oe dec L l).flatMap λp=>32::p 2).length<=3000*ah l
 |[],_=>by simp[oe,ah]|t::l,h=>by
   have a:=wE hL t h.1 2;have b:=SA hL l h.2;simp[oe,ah]at b⊢;omega
end
def I4{l}{M}(h:vars l t<+:M):wr dec M t=wr dec (vars l t) t:=
 Y7 dec h t λn hn=>(bJ t l n).2<|ja hn
def ad5(c:BA):Bool:=match c.toList with
 |[]=>false|x::r=>jk x.toNat&&r.all λy=>jd y.toNat
def okC(c:BA)(n:Nat):Bool:=if c=m9 then n==2 else if c=lq then n==2 else ad5 c
mutual
def Good:Ty->Prop
 |.var _=>True|.aJ c l=>okC c l.length=true/\SC l
def SC:List Ty->Prop
 |[]=>True|t::l=>Good t/\SC l
end
def SF n:jd (dg n).toNat=true:=by
 have h:(dg n).toNat=48+n%10:=by simp[dg];omega
 rw[h];have:n%10<10:=Nat.mod_lt _ ae;simp[jd,ju];omega
def aba n:∀y∈dec n,jd y.toNat=true:=by
 induction n using qn with
 |_ n ih=>
  rw[dec];split
  .intro y hy;simp at hy;subst hy;exact SF n
  .intro y hy;obtain hy|hy:=List.mem_append.1 hy
   .grind
   .simp at hy;subst hy;exact SF n
def ahF(l:List UInt8):Nat:=l.foldl (λa d=>10*a+(d.toNat-48)) 0
def SG n:ahF (dec n)=n:=by
 induction n using qn with
 |_ n ih=>
  have h:(dg n).toNat=48+n%10:=by simp[dg];omega
  rw[dec];split
  .simp[ahF,h];omega
  .have:=ih (n/10) ae;rw[ahF]at this⊢;rw[List.foldl_append,this];simp[h];omega
def ad6{m}(h:dec m=dec n):m=n:=by rw[<-SG m,h,SG]
def vn i:=bs (39::118::dec i)
def ahG{a b}(h:bs a=bs b):a=b:=by
 have:=congrArg ByteArray.toList h;rw[bs]at this
 rwa[toList_mk,toList_mk]at this
def ahH{j}(h:vn i=vn j):i=j:=ad6 (by simpa using ahG h)
def ahI r:jo ⟨(118::r).toArray⟩=false:=by
 rw[jo];rw[toList_mk,List.any_eq_false];intro x hx;have:∀l:List UInt8,l.head? ≠some 118->¬(l==118::r)=true:=λl hl e=>by
  rw[beq_iff_eq]at e;subst e;simp at hl
 simp only[Pu.words,jx,List.not_mem_nil,or_false]at hx;obtain rfl|rfl|rfl|rfl|rfl|rfl|rfl|rfl|rfl|rfl|rfl|rfl|rfl:=hx<;>exact this _ qBe
def akf i:Lx true (39::118::dec i) [(3,(vn i).toList)]:=by
 have:(vn i).toList=39::118::dec i:=toList_mk _;rw[this];exact aa1 118 (dec i) aw (aba i)<|ahI _
def LD(h:ad5 c=true):Lx true c.toList [(2,c.toList)]:=by
 rw[ad5]at h
 cases e:c.toList with
 |nil=>grind|cons x r=>
  rw[e]at h;simp at h;exact DX x r h.1 (by simpa using h.2)
mutual
def Pd(L:List Nat):Ty->Nd
 |.var n=>aaA (vn<|L.idxOf n)|.aJ c l=>if c=m9 then .mk 17 jY 0 (lp L l) 0 0 0 else if c=lq then .mk 6 jY 0 (lp L l) 0 0 0 else xK c (lp L l)
def lp(L:List Nat):List Ty->List Nd
 |[]=>[]|t::l=>Pd L t::lp L l
end
def lvl tight:=if tight=0 then 2 else if tight=1 then 1 else 0
def Rd(v:Nat)(l:List UInt8)(t:Nd):=∃p,Lx true l p/\Gr v p t
def Rd.lv{t}(h:Rd 0 l t)tight:Rd (lvl tight) l t:=by
 obtain⟨p,h1,h2⟩:=h;rw[lvl];split
 .exact⟨p,h1,.head h2.up1⟩
 .split
  .exact⟨p,h1,h2.up1⟩
  .exact⟨p,h1,h2⟩
def Rd.rL{l}{t}(h:Rd 2 l t):Rd 0 (40::(l++[41])) t:=by
 obtain⟨p,h1,h2⟩:=h;refine⟨jE::(p++[eA]),?_,.rL h2⟩;have:=(lM 40 ag).ol (h1.ol (lM 41 ag)<|λ_=>⟨41,[],rfl,aw⟩) (λe=>by cases e);exact this.tJ
def Rd.pair{l m}{t u}(h:Rd 2 l t)(k:Rd 2 m u):Rd 0 (40::(l++([44,32]++(m++[41])))) (Ay t u):=by
 obtain⟨p,h1,h2⟩:=h;obtain⟨q,k1,k2⟩:=k;refine⟨_,?_,.pair h2 k2⟩;have e1:=k1.ol (lM 41 ag)<|λ_=>⟨41,[],rfl,aw⟩;have e2:=(lM 44 ag).ol (fh.ol e1<|λe=>by cases e) (λe=>by cases e);have e3:=h1.ol e2<|λ_=>⟨44,_,rfl,aw⟩;have e4:=(lM 40 ag).ol e3 (λe=>by cases e);exact e4.tJ
def Rd.fn{l m}{t u}(h:Rd 1 l t)(k:Rd 2 m u):Rd 2 (l++([32,45,62,32]++m)) (sFn t u):=by
 obtain⟨p,h1,h2⟩:=h;obtain⟨q,k1,k2⟩:=k;refine⟨_,?_,.aaB h2 k2⟩;have e1:=fh.ol (Lg.ol (fh.ol k1<|λe=>by cases e) (λe=>by cases e)) (λe=>by cases e);exact h1.ol e1<|λ_=>⟨32,_,rfl,aw⟩
def Rd.arg{l m}{s}{L}{u}(h:Rd 3 l (xK s L))(k:Rd 0 m u):Rd 3 (l++(32::m)) (xK s<|L++[u]):=by
 obtain⟨p,h1,h2⟩:=h;obtain⟨q,k1,k2⟩:=k;refine⟨_,?_,.arg h2 k2⟩;exact h1.ol (fh.ol k1<|λe=>by cases e) (λ_=>⟨32,_,rfl,aw⟩)
def Rd.ol{l}{t}(h:Rd 3 l t):Rd 1 l t:=by
 obtain⟨p,h1,h2⟩:=h;exact⟨p,h1,.ol h2⟩
def Rd.head{l}{t}(h:Rd 1 l t):Rd 2 l t:=by
 obtain⟨p,h1,h2⟩:=h;exact⟨p,h1,.head h2⟩
def SH{c:BA}:∀(ps:List (Nat->List UInt8))(us:List Nd)(l:List UInt8)(L:List Nd),ps.length=us.length->(∀i(h:i<ps.length)(h2:i<us.length),Rd 0 (ps[i] 2) us[i])->Rd 3 l (xK c L)->Rd 3 (l++ps.flatMap λp=>32::p 2) (xK c<|L++us)
 |[],[],l,L,_,_,h=>Fe|[],u::us,l,L,e,_,h=>by simp at e|p::ps,[],l,L,e,_,h=>by simp at e|p::ps,u::us,l,L,e,hp,h=>by
   have h1:=SH ps us (l++(32::p 2)) (L++[u]) (by simpa using e) (λi q q2=>hp (i+1) (by simpa using q) (by simpa using q2)) (h.arg<|hp 0 ag ag);simpa[List.append_assoc]using h1
def ad7 L:∀(l:List Ty)(i:Nat)(h:i<l.length),(oe dec L l)[i]'(by rw[kH];exact h)=wr dec L l[i]:=by
 intro l i h;simp[Q7]
def uJ(L:List Nat):∀l,(lp L l).length=l.length
 |[]=>rfl|t::l=>by simp[lp,uJ L l]
def LF(L:List Nat):∀(l:List Ty)(i:Nat)(h:i<l.length),(lp L l)[i]'(by rw[uJ];exact h)=Pd L l[i]
 |t::l,0,h=>rfl|t::l,i+1,h=>by simpa[lp]using LF L l i Fe
mutual
def SI(L:List Nat):∀(t:Ty),Good t->∀tight,tight<=2->Rd (lvl tight) (wr dec L t tight) (Pd L t)
 |.var n,_,tight,_=>by
  simp only[wr,Pd];exact Rd.lv ⟨_,akf _,.var _⟩ tight
 |.aJ c l,h,tight,ht=>by
  simp only[Good]at h;obtain⟨h1,h2⟩:=h;have ih:=LG L l h2;simp only[wr,bu,Pd];rw[okC]at h1;by_cases e1:c=m9
  .rw[if_pos e1]at h1;rw[if_pos e1,if_pos e1]
   match l,h1,ih with
   |[a,b],_,ih=>
    have r1:=ih 0 ag 1 ae;have r2:=ih 1 ag 0 ae;have r3:Rd 2 _ (sFn (Pd L a)<|Pd L b):=Rd.fn r1 r2;by_cases h0:0<tight
    .rw[show decide (0<tight)=true by simpa using h0];exact r3.rL.lv tight
    .obtain rfl:tight=0:=ae;exact r3
   |[],h1,_=>simp at h1|[_],h1,_=>simp at h1|_::_::_::_,h1,_=>simp at h1
  .rw[if_neg e1]at h1;rw[if_neg e1,if_neg e1];by_cases e2:c=lq
   .rw[if_pos e2]at h1;rw[if_pos e2,if_pos e2]
    match l,h1,ih with
    |[a,b],_,ih=>
     have r1:=ih 0 ag 0 ae;have r2:=ih 1 ag 0 ae;exact(Rd.pair r1 r2).lv tight
    |[],h1,_=>simp at h1|[_],h1,_=>simp at h1|_::_::_::_,h1,_=>simp at h1
   .rw[if_neg e2]at h1;rw[if_neg e2,if_neg e2];have r0:Rd 3 c.toList (xK c []):=⟨_,LD h1,.up c⟩
    have r1:=SH (oe dec L l) (lp L l) c.toList [] (by rw[kH,uJ]) (λi q q2=>by
     have hl:i<l.length:=by rw[kH]at q;exact q
     rw[ad7 L l i hl,LF L l i hl]
     exact ih i hl 2 ae) r0
    simp only[List.nil_append]at r1
    cases hq:(decide (1<tight)&& !(oe dec L l).isEmpty)with
    |true=>exact r1.ol.head.rL.lv tight|false=>
     simp only[rL,Bool.false_eq_true,if_false];by_cases h1':tight=0
     .subst h1';exact r1.ol.head
     .by_cases UC:tight=1
      .subst UC;exact r1.ol
      .obtain rfl:tight=2:=ae;have al_:oe dec L l=[]:=by simpa using hq
       have hl:l=[]:=by have:=congrArg jz al_;rw[kH]at this;simpa using this
       subst hl;refine⟨_,?_,.up0 c⟩;simpa[oe]using LD h1
def LG(L:List Nat):∀(l:List Ty),SC l->∀i(h:i<l.length)tight,tight<=2->Rd (lvl tight) (wr dec L l[i] tight) (Pd L l[i])
 |t::l,h,0,_,tight,ht=>SI L t h.1 tight ht|t::l,h,i+1,hi,tight,ht=>by simpa using LG L l h.2 i qBl tight ht
end
def Pe(k:Nat):List BA:=(j8 k).map vn
def Bb k:Pe (k+1)=Pe k++[vn k]:=by simp[Pe,List.range_succ]
def ad8 k:(Pe k).length=k:=by simp[Pe]
def yV:vn i∈Pe k↔i<k:=by
 simp only[Pe,List.mem_map,List.mem_range];constructor
 .rintro⟨a,ha,e⟩;rw[<-ahH e];exact ha
 .grind
def ad9{a}(h:a<=b):Pe a<+:Pe b:=by
 obtain⟨d,rfl⟩:∃d,b=a+d:=⟨b-a,ae⟩;clear h
 induction d with
 |zero=>grind|succ d ih=>rw[<-Nat.add_assoc,Bb];exact ih.trans<|List.prefix_append _ _
def abb(h:i<k):ix (vn i) (Pe k)=i:=by
 have h1:vn i∈Pe (i+1):=yV.2 ae;rw[abc (ad9 ae) h1,Bb,GK (λq=>by have:=yV.1 q;omega),ad8]
mutual
def LH(L:List Nat)(hL:L.Nodup):∀(t:Ty)(l:List Nat),vars l t<+:L->aI (Pe l.length) (Pd L t)=(sub (jK λn=>L.idxOf n+1) t,Pe (vars l t).length)
 |.var n,l,h=>by
  simp only[vars]at h;simp only[Pd,aaA,aI,if_true,sub,Un.jK,vars];have hi:L.idxOf n<(qe l n).length:=by
   have hm:n∈qe l n:=o7.2<|ja rfl;rw[yK h hm];exact List.idxOf_lt_length_iff.2 hm
  by_cases hn:n∈l
  .have e:qe l n=l:=by rw[qe,if_pos hn]
   rw[e]at hi⊢;rw[RT<|yV.2 hi,abb hi]
  .have e:qe l n=l++[n]:=by rw[qe,if_neg hn]
   have hx:L.idxOf n=l.length:=by
    rw[yK h (by rw[e];simp),e,List.idxOf_append,if_neg hn];simp
   rw[e,hx,KI (λq=>by have:=yV.1 q;omega)];rw[show(l++[n]).length=l.length+1 by simp,<-Bb,abb ae]
 |.aJ c l',l,h=>by
  simp only[vars]at h;have ih:=Er L hL l' l h;simp only[Pd,vars,sub];by_cases e1:c=m9
  .rw[if_pos e1];simp[aI,g_,ih,e1]
  .rw[if_neg e1];by_cases e2:c=lq
   .rw[if_pos e2];simp[aI,g_,ih,e2]
   .rw[if_neg e2];simp[xK,aI,g_,ih]
def Er(L:List Nat)(hL:L.Nodup):∀(l':List Ty)(l:List Nat),aU l l'<+:L->aG (Pe l.length) (lp L l')=(aP (jK λn=>L.idxOf n+1) l',Pe (aU l l').length)
 |[],l,h=>by simp[lp,aG,aP,aU]|t::l',l,h=>by
   simp only[aU]at h;have h1:=LH L hL t l<|(jW l' _).trans h;have h2:=Er L hL l' (vars l t) h;simp only[lp,aG,h1,h2,aP,aU]
end
namespace In
section
variable (dec:Nat->List UInt8)
def Az{rs Vg:Bool}{r0:List Dc}:∀{l l':List Dc},cU (DcE False) l l'->(∀d∈l,DcK d)->∀(mk:Mks)(ρ:Nat->Nat)(u u':St)(Γ dE:Env),Gd ρ u u' Γ dE->∀B F B' F',qV rs l mk Γ u B F->qV Vg (l'++r0) mk dE u' B' F'->
 (∃x,F=some x)\/F=none/\∃mk' ρ s s' G G' B0 B1,Gd ρ s s' G G'/\B'=B0++B1/\aa9 dec B0=aa9 dec B/\qV Vg r0 mk' G' s' B1 F'/\(B=[]/\G=Γ\/∃p,B.getLast? =some p/\G p.1=some ⟨p.2,vars [] p.2⟩)
 |[],[],.nil,_,mk,ρ,u,u',Γ,dE,hT,B,F,B',F',⟨q1,q2⟩,q'=>.inr ⟨q2,mk,ρ,u,u',Γ,dE,[],B',hT,rfl,by rw[q1],q',.inl ⟨q1,rfl⟩⟩|.ty t vs ms::r,.ty t' vs' ms'::r',.cons (.ty _ _ _ _ _ _ h1 h2 h3) hr,hk,mk,ρ,u,u',Γ,dE,hT,B,F,B',F',q,q'=>by
  rw[jy]at q';rw[qV]at q q';rw[<-LB h1 h2 (hk (.ty t vs ms) ag) h3]at q';exact Az hr (λd q=>hk d qBf) _ ρ u u' Γ dE hT B F B' F' q q'
 |.lt rc t b::r,.lt _ t' b'::r',.cons (.lt _ _ _ _ _ h1 h2 h3) hr,hk,mk,ρ,u,u',Γ,dE,hT,B,F,B',F',q,q'=>by
  rw[jy]at q';rw[qV]at q q';obtain⟨o,q1,q2⟩:=q;obtain⟨o',Xj,q2'⟩:=q';rw[<-h1]at Xj;have S:=A_ rc t.text h3 (Sy mk b b' h3) Γ dE _ _ _ _ _ ρ hT.both hT.top.env hT.JY.env hT.env o o' q1 Xj
  match o,o',S with
  |.error x,.error x',S=>exact .inl ⟨_,q2.2⟩|.ok (a,s),.ok (a',s'),S=>
   obtain⟨bH,st,a1,a2,a3⟩:=S;have z:=a3.size;obtain⟨z1,_,z2⟩|⟨z1,T,C,hC,rfl,q2⟩:=q2
   .exact .inl ⟨_,z2⟩
   .obtain⟨z1',_⟩|⟨z1',T',C',hC',rfl,q2'⟩:=q2'
    .omega
    .have hv:rK b=rK b':=by rw[<-wC b,<-wC b',h3.es]
     rw[<-hv]at hC';have⟨w,hT1⟩:=hT.next dec st a1 a2 a3 t.text (rK b) hC hC' rs Vg;rw[<-h1]at q2';obtain g|⟨g0,mk',dP,s1,A8,G,G',B0,B1,g1,rfl,g3,g4,g5⟩:=Az hr (λd q=>hk d qBf) mk bH _ _ _ _ hT1 C F C' F' q2 q2'
     .exact .inl g
     .refine .inr ⟨g0,mk',dP,s1,A8,G,G',(t'.text,T')::B0,B1,g1,rfl,?_,g4,.inr ?_⟩
      .simp only[aa9,j7]at g3⊢;rw[g3,w,h1]
      .obtain⟨rfl,rfl⟩|⟨p,g5,g6⟩:=g5
       .exact⟨_,rfl,by simp[cz]⟩
       .exact⟨p,by rw[List.getLast?_cons,g5];rfl,g6⟩
end
end In
end
section
open Go.ChangeMaps Un
structure PN(w:World)B pb bv l last mv:Prop where
 bk:∃ad,w.heap[pb]? =some (.cells #[ad,bv,.string last,mv] 100 (0,0))/\(ad=.pointer none\/ad=Pv pb)
 ow:w.ownsRow B 5 1 bv l.length (qg l)
 nl:l=[]->bv=.slice none 0 0
 hb:B<=w.heap.size
def SP pb(bv:Value)b:=b=pb\/bv.ownBlock=some b
def Qs(w:World)b:=∀x,w.cell? ⟨b,0,none⟩=some x->∀c,x≠.int .u8 c
def PN.akg(h:PN w B pb bv l last mv){q}(hq:bv.ownBlock=some q):∃c,w.cell? ⟨q,0,none⟩=some (.int .u8 c):=by
 cases l with
 |nil=>rw[h.nl rfl]at hq;simp[qs]at hq|cons x r=>
  have⟨_,h2⟩:=h.ow;obtain⟨h3,_⟩|⟨g,cap,l_,hv,_,hh,_,_,_,ht⟩:=h2
  .grind
  .rw[hv]at hq;simp[qs]at hq;subst hq;refine⟨x.toNat,?_⟩;simp only[qi,hh];have h0:(l_.toList.take<|(x::r).length*1)[0]? =some (.int .u8 x.toNat):=by rw[ht];simp[qg]
   rw[List.getElem?_take_of_lt ag]at h0;simpa using h0
def PN.ne(h:PN w B pb bv l last mv)(hb:Qs w b):bv.ownBlock≠some b:=λe=>by
 have⟨c,hc⟩:=h.akg e;exact hb _ hc c rfl
def PN.lt{w:World}{B pb:Nat}{bv:Value}{l:List UInt8}{last:BA}{mv:Value}(h:PN w B pb bv l last mv):pb<w.heap.size:=by
 have⟨ad,hb,_⟩:=h.bk;exact(Array.getElem?_eq_some_iff.1 hb).1
def PN.pbN(h:PN w B pb bv l last mv):Qs w pb:=λx hx c e=>by
 have⟨ad,hb,ha⟩:=h.bk;simp[qi,hb]at hx;subst hx;obtain rfl|rfl:=ha<;>cases e
def PN.same(h:PN w B pb bv l last mv)(hs:w.heap.size<=w'.heap.size)(hb:∀b,b<w.heap.size->SP pb bv b->w'.heap[b]? =w.heap[b]?):PN w' B pb bv l last mv:=by
 have⟨ad,h1,h2⟩:=h.bk;refine⟨⟨ad,(hb pb h.lt<|jc rfl).trans h1,h2⟩,?_,h.nl,ql h.hb hs⟩;have⟨g1,g2⟩:=h.ow;refine⟨g1,?_⟩;obtain g2|⟨g,cap,l_,hv,hg,hh,r⟩:=g2
 .exact jc g2
 .refine ja ⟨g,cap,l_,hv,hg,?_,r⟩;rw[hb g (Array.getElem?_eq_some_iff.1 hh).1<|ja (by rw[hv];rfl),hh]
def PN.af(h:PN w B pb bv l last mv)(hb:Bq w w'):PN w' B pb bv l last mv:=h.same hb.size λb z _=>hb.block b z
def Qs.same(h:Qs w b)(hb:w'.heap[b]? =w.heap[b]?):Qs w' b:=λx hx=>h x (by rw[<-World.cell?_of_block (a:=⟨b,0,none⟩) (w:=w) hb];exact hx)
def dI{w:World}{t}{fz}(h:w.heap[b]? =some (.cells C t fz))j v:(w.setCell ⟨b,j,none⟩ v).heap[b]? =some (.cells (C.setIfInBounds j v) t fz):=by
 have bA:=(Array.getElem?_eq_some_iff.1 h).1;simp[qh,Array.getElem?_modify,h]
def One.cell w b j v:One b w (w.setCell ⟨b,j,none⟩ v):=⟨rfl,rfl,rfl,zJ,λk hk=>qr _ _ _ _ hk⟩
def Hn{w}{c}{size}{v:Value}(h:w.ownsRow base e size v n xs)(o:One c w w')(cR:v.ownBlock≠some c):w'.ownsRow base e size v n xs:=by
 obtain⟨g1,g2⟩:=h;refine⟨g1,?_⟩;obtain g2|⟨g,cap,l_,hv,hg,hh,r⟩:=g2
 .exact jc g2
 .refine ja ⟨g,cap,l_,hv,hg,?_,r⟩;rw[o.block g<|λe=>cR (by rw[hv,<-e];rfl),hh]
def Es{W w2:World}{pb}{o}{row}(hg:W.grownBy w2 row)(hb:W.heap[pb]? =some o)(hn:row≠some pb):w2.heap[pb]? =some o:=(hg.block pb (Array.getElem?_eq_some_iff.1 hb).1<|λe=>hn e.symm).trans hb
def Bc{w:World}{size}{v:Value}(h:w.ownsRow base e size v n xs):∃ao n' cap,v=.slice ao n' cap:=by
 obtain⟨hv,_⟩|⟨g,cap,l_,hv,_⟩:=h.2
 .grind
 .grind
def LI:(Tryz.prog.info? 97).map (λi=>i.size)=some 2:=qkr
def ad_:liesAt Tryz.prog Tryz.prog.depth 100 (4/Tryz.prog.cellsOf 100) 0 97 1=true:=qkr
def akh p w:(callFunc 191 #[p]).run Tryz.prog w=.ok (.value p) w:=qkr
def LJ:(Tryz.prog.info? 5).map (λi=>(i.zero,i.size,i.bytes))=some (some<|.int .u8 0,1,1):=qkr
def x_:Tryz.prog.underlying 95=some (.slice 5):=qkr
def ya ad(had:ad=.pointer none\/ad=Pv pb)x1 x2 x3(h:w.heap[pb]? =some (.cells #[ad,x1,x2,x3] 100 (0,0))):
 Cq 162 #[Pv pb] w λe w'=>e=.returned (.tuple #[])/\w'.heap[pb]? =some (.cells #[Pv pb,x1,x2,x3] 100 (0,0))/\One pb w w':=by
 have⟨j,hj,hjs⟩:=Option.map_eq_some_iff.1 LI;have c0:w.cell? ⟨pb,0,none⟩=some ad:=by simp[qi,h]
 have f0:w.frozen? ⟨pb,0,none⟩=false:=by simp[qj,h]
 have hsh:w.shape? pb=some (100,4):=by simp[World.shape?,h]
 obtain rfl|rfl:=had
 .have hn:=akh;have ht:=Lib.run_to_unsafe (P:=Tryz.prog) w ⟨pb,0,none⟩ Tryz.underlying94 Tryz.underlying329 hj ae hsh (by show 0<4;decide);have hf:=Lib.run_from_unsafe (P:=Tryz.prog) w ⟨pb,0,none⟩ Tryz.underlying329 Tryz.underlying94 hj hsh ad_;have cR:∀W:World,(binOp .neq 94 (Pv pb)<|Pv pb).run Tryz.prog W=.ok (.bool false) W:=λW=>Lib.run_neq_ptr_same W _ Tryz.underlying94 hj;go_enter func162,ntmps162
  go_wp2
  go_end0;exact⟨rfl,(dI h 0 _).trans ag,One.cell _ _ _ _⟩
 .have cR:∀W:World,(binOp .neq 94 (Pv pb)<|Pv pb).run Tryz.prog W=.ok (.bool false) W:=λW=>Lib.run_neq_ptr_same W _ Tryz.underlying94 hj;go_enter func162,ntmps162
  go_wp2
  go_end0;exact⟨rfl,h,⟨rfl,rfl,rfl,rfl,λ_ _=>rfl⟩⟩
def SK{p:Prop}(h:p:=by
 rw[e1,e2];refine⟨g1,?_⟩;obtain g2|⟨g,ahJ,l_,hv,hg,hh,r⟩:=g2
 .exact jc g2
 .refine ja ⟨g,ahJ,l_,hv,hg,?_,r⟩
  rw[qr _ _ _ _ (by show g≠pb;intro e;exact hnp (by rw[hv,e];rfl)),hh]):p:=h
def SL{p:Prop}(h:p:=by
 obtain⟨hv,_⟩|⟨g,ahJ,l_,hv,_,hh,_⟩:=SM.2
 .rw[hv]at e;simp[qs]at e
 .rw[hv]at e;simp[qs]at e;subst e;rw[uh du]at hh
  simp at hh):p:=h
def LK(h:PN w B pb bv l last mv)c(hl:l.length<=1000000):Cq 108 #[Pv pb,.int .u8 (c.toNat:Int)] w λe w'=>e=.returned .nilIface/\∃XO,PN w' B pb XO (l++[c]) last mv/\Fr (SP pb bv) w w':=by
 obtain⟨i0,wY,og,l8,gR⟩:=info_parts LJ;have hpn:=h.ne h.pbN;have bA:=h.lt;have hBw:=h.hb;obtain⟨ad,hbk,had⟩:=h.bk;have how:=ai h.ow;go_enter func108,ntmps108;go_wp2_with(first|(go_at_call 162;refine(ya ad had _ _ _ hbk).mono ?_;rintro e w1⟨rfl,bZ,o1⟩;have c0:w1.cell? ⟨pb,0,none⟩=some (Pv pb):=(by simp[World.cell?,bZ]);have c1:w1.cell? ⟨pb,1,none⟩=some bv:=(by simp[World.cell?,bZ]);have O1:=ai o1;have dA:=ai bZ;have Hz1:=ai o1.size;have abd:=ai<|Hn how o1 hpn;clear o1 bZ hbk)|(at_builtin;go_must(refine wpList_append_own_at _ rfl (.tmp 11) (.tmp 13) 95 rfl B 5 i0 _ 1 1 x_ wY og l8 gR rfl aw bv l.length _ rfl (abd.alloc _) ⟨w1.heap.size,0,none⟩ 1 1 [.int .u8 (c.toNat:Int)] rfl rfl (oW _ _ _ _ ag) qAn Yu ae (by have:=uh Hz1;simp;omega) ?_;intro v2 w2 Bd VQ SO aki;have gd:=Es VQ ((Below.heap_alloc _ _ _ (by have:=uh Hz1;omega)).trans dA) hpn;have d0:w2.cell? ⟨pb,0,none⟩=some (Pv pb):=(by simp[World.cell?,gd]);have d1:w2.cell? ⟨pb,1,none⟩=some bv:=(by simp[World.cell?,gd]);have f1:w2.frozen? ⟨pb,1,none⟩=false:=(by simp[World.frozen?,gd]);obtain⟨ao,n',cap,UL⟩:=Bc Bd;subst UL;have du:=ai gd;clear gd;have SM:=ai Bd;have Hg2:=ai VQ;clear Bd VQ SO aki)));go_ret;have hnp:(Value.slice ao n' cap).ownBlock≠some pb:=λe=>by
  exact SL
 refine⟨rfl,.slice ao n' cap,⟨⟨_,(dI du 1 _).trans ag,ja rfl⟩,?_,?_,?_⟩,?_⟩
 .have hO:=uh SM;obtain⟨g1,g2⟩:=hO;have e1:qg (l++[c])=qg l++[.int .u8 (c.toNat:Int)]:=by simp[qg]
  have e2:(l++[c]).length=l.length+1:=ag;exact SK
 .intro q;simp at q
 .have:=Hg2.size;have:=uh Hz1;simp[qh]at*;omega
 .have hO:=uh O1;have hG:=uh Hg2;refine⟨(hG.os).trans hO.os,hG.tape.trans hO.tape,hG.output.trans hO.output,by simp[qh];have:=hG.size;have:=uh Hz1;simp at*;omega,λk hk hn=>?_⟩;rw[qr _ _ _ _ (by show k≠pb;intro e;exact hn<|jc e),hG.block k (by have:=uh Hz1;simp;omega)<|λe=>hn<|ja e.symm,Below.heap_alloc _ _ _ (by have:=uh Hz1;omega)];exact hO.block k<|λe=>hn<|jc e
def rI(h:PN w B pb bv l last mv)s(hs:s.size<=100000)(hl:l.length<=1000000):Cq 109 #[Pv pb,.string s] w λe w'=>e=.returned (.tuple #[Nv s.size,.nilIface])/\∃XO,PN w' B pb XO (l++s.data.toList) last mv/\Fr (SP pb bv) w w':=by
 obtain⟨i0,wY,og,l8,gR⟩:=info_parts LJ;have hpn:=h.ne h.pbN;have bA:=h.lt;have hBw:=h.hb;obtain⟨ad,hbk,had⟩:=h.bk;have how:=ai h.ow;have hnl:=ai h.nl;go_enter func109,ntmps109;go_wp2_with(first|(go_at_call 162;refine(ya ad had _ _ _ hbk).mono ?_;rintro e w1⟨rfl,bZ,o1⟩;have c0:w1.cell? ⟨pb,0,none⟩=some (Pv pb):=(by simp[World.cell?,bZ]);have c1:w1.cell? ⟨pb,1,none⟩=some bv:=(by simp[World.cell?,bZ]);have O1:=ai o1;have dA:=ai bZ;have Hz1:=ai o1.size;have abd:=ai<|Hn how o1 hpn;clear o1 bZ hbk)|(at_builtin;go_must(refine Lib.wpList_append_own_string _ rfl (.tmp 12) (.tmp 13) 95 9 rfl B 5 i0 x_ Tryz.underlying9 wY og l8 gR bv l.length _ rfl abd s rfl Yu ae (by have:=uh Hz1;omega) ?_;intro v2 w2 Bd VQ SO;have gd:=Es VQ dA hpn;have d0:w2.cell? ⟨pb,0,none⟩=some (Pv pb):=(by simp[World.cell?,gd]);have d1:w2.cell? ⟨pb,1,none⟩=some bv:=(by simp[World.cell?,gd]);have f1:w2.frozen? ⟨pb,1,none⟩=false:=(by simp[World.frozen?,gd]);obtain⟨ao,n',cap,UL⟩:=Bc Bd;subst UL;have du:=ai gd;clear gd;have SM:=ai Bd;have Hg2:=ai VQ;have Hn2:=ai SO;clear Bd VQ SO)));go_ret2;have hnp:(Value.slice ao n' cap).ownBlock≠some pb:=λe=>by
  exact SL
 refine⟨rfl,.slice ao n' cap,⟨⟨_,(dI du 1 _).trans ag,ja rfl⟩,?_,?_,?_⟩,?_⟩
 .have hO:=uh SM;obtain⟨g1,g2⟩:=hO;have e1:qg (l++s.data.toList)=qg l++Lib.strCells s:=by simp[qg,Lib.strCells]
  have e2:(l++s.data.toList).length=l.length+s.size:=ag;exact SK
 .intro q;have q':l=[]/\s.data.toList=[]:=by simpa using q
  exact Hn2.2 ⟨hnl q'.1,by have:=congrArg jz q'.2;simpa using this⟩
 .have:=Hg2.size;have:=uh Hz1;simp[qh]at*;omega
 .have hO:=uh O1;have hG:=uh Hg2;refine⟨(hG.os).trans hO.os,hG.tape.trans hO.tape,hG.output.trans hO.output,by simp[qh];have:=hG.size;have:=uh Hz1;omega,λk hk hn=>?_⟩;rw[qr _ _ _ _ (by show k≠pb;intro e;exact hn<|jc e),hG.block k (by have:=uh Hz1;omega)<|λe=>hn<|ja e.symm];exact hO.block k<|λe=>hn<|jc e
def abe(h:PN w B pb bv l last mv)(h0:l≠[]):Cq 38 #[Pv pb] w λe w'=>e=.returned (.string<|bs l)/\Fr (SP pb bv) w w':=by
 have Dr:l.length≠0:=by simpa using h0
 have⟨ad,hbk,_⟩:=h.bk;have iT:=h.ow;obtain⟨g,cap,l_,rfl,hbg,hg,hnc,Ix,NR,aj1⟩:∃g cap l_,bv=Lv (some ⟨g,0,none⟩) l.length cap/\B<=g/\w.heap[g]? =some (Cv l_ 5 (0,0))/\l.length<=cap/\cap<=maxLen/\l_.size=cap*1/\l_.toList.take (l.length*1)=qg l:=by
  obtain⟨_,hz⟩|⟨g,cap,l_,hv,r⟩:=iT.2
  .exact absurd hz Dr
  .exact⟨g,cap,l_,hv,r⟩
 have c1:w.cell? ⟨pb,1,none⟩=some (Lv (some ⟨g,0,none⟩) l.length cap):=by simp[qi,hbk]
 have hSD:∀W:World,(Builtin.unsafeSliceData_ #[95] 162 #[Lv (some ⟨g,0,none⟩) l.length cap]).run Tryz.prog W=.ok (Pv g) W:=λW=>Lib.run_unsafeSliceData_row W _ _ _ _ _ ae;have hUS:(Builtin.unsafeString_ #[162,3] 9 #[Pv g,Nv l.length]).run Tryz.prog w.drew=.ok (Sv ⟨l.toArray⟩) (w.drew.freeze ⟨g,0,none⟩ l.length):=by
  refine Lib.run_unsafeString_row w.drew _ _ _ 5 Tryz.underlying162 qkr g l_.size (by have BV:w.drew.heap[g]? =some (Cv l_ 5 (0,0)):=hg;simp[World.shape?,BV]) l h0 ae (by rw[maxLen]at Ix;omega) ?_;intro j x hx;exact iT.cells (g:=g) rfl j (.int .u8 x.toNat) (by simp[qg,hx])
 have HF:Fr (SP pb<|Lv (some ⟨g,0,none⟩) l.length cap) w (w.drew.freeze ⟨g,0,none⟩ l.length):=(by
  have hb:=Lib.below_freeze (B:=g) (Below.refl g w.drew) (p:=⟨g,0,none⟩) (br _) l.length;refine⟨hb.os,hb.tape,hb.output,hb.size,λk hk hn=>?_⟩;have hkg:k≠g:=λe=>hn (ja (by rw[e];rfl));simp[World.freeze];rw[if_neg h0];simp only[Array.getElem?_modify,if_neg<|Ne.symm hkg]
  rfl)
 go_enter func38,ntmps38
 go_wp2
 go_region
 all_goals(
  go_wp2
  go_ret
  exact⟨rfl,HF⟩)
def spB(last t:BA):Bool:= !(t.toList==[41])&& !(t.toList==[44])&& !(t.toList==[59])&& !(last.toList==[])&& !(last.toList==[40])
structure FN B pb(w w':World):Prop where
 os:w'.os=w.os
 tape:w'.tape=w.tape
 output:w'.output=w.output
 size:w.heap.size<=w'.heap.size
 block:∀k,k<w.heap.size->k≠pb->(k<B\/Qs w k)->w'.heap[k]? =w.heap[k]?
def FN.trans{B pb}{a b c}(h:FN B pb a b)(k:FN B pb b c):FN B pb a c:=
 ⟨k.os.trans h.os,k.tape.trans h.tape,k.output.trans h.output,ql h.size k.size,λi hi hp hn=>by
  have e:=h.block i hi hp hn
  refine(k.block i (qk hi h.size) hp<|hn.imp id λq=>q.same e).trans e⟩
def FN.of(h:Bq w w'):FN B pb w w':=⟨h.os,h.tape,h.output,h.size,λi hi _ _=>h.block i hi⟩
def Fr.fn{B pb:Nat}{bv:Value}{l:List UInt8}{last:BA}{mv:Value}{w w':World}(h:PN w B pb bv l last mv)(hf:Fr (SP pb bv) w w'):FN B pb w w':=
 ⟨hf.os,hf.tape,hf.output,hf.size,λk hk hp hn=>hf.block k hk (λq=>by
  obtain q|q:=q
  .exact hp q
  .obtain hn|hn:=hn
   .have:=(fU h.ow k q).1;omega
   .exact h.ne hn q)⟩
def Qs.fn{B pb:Nat}{w w':World}{b:Nat}(h:Qs w b)(hb:b<w.heap.size)(hp:b≠pb)(hf:FN B pb w w'):Qs w' b:=h.same<|hf.block b hb hp<|ja h
def Bx.fn{B pb:Nat}{w w':World}{b:Nat}{C:Array Value}(h:Bx w b C)(hp:b≠pb)(hn:b<B\/Qs w b)(hf:FN B pb w w'):Bx w' b C:=h.same hf.size<|hf.block b h.z hp hn
def Bx.nby(h:Bx w b C)(hx:∀x,C[0]? =some x->∀c,x≠.int .u8 c):Qs w b:=λx q=>hx x (by rw[<-h.c 0];exact q)
def sZ l last t:=(l++if spB last t then[32]else[])++t.data.toList
def ahK B pb(bv:Value)l last t mv(g:Nat)w gk v wr:=
 (v=Iv 0/\gk=1/\wr=w)\/(v=Iv 1/\gk=0/\∃XO,PN wr B pb XO (sZ l last t) t mv/\FN B pb w wr)
def Ho{p:Prop}(h:p:=by
 go_enter func107,ntmps107
 go_wp2
 go_ret
 exact⟨rfl,rfl⟩):p:=h
def LL last t:Cq 107 #[.string last,.string t] w λe w'=>e=.returned (.bool<|spB last t)/\w'=w:=by
 rw[spB]
 cases h1:(t.toList==[41])
 .cases h2:(t.toList==[44])
  .cases h3:(t.toList==[59])
   .cases h4:(last.toList==[])
    .go_enter func107,ntmps107
     go_wp2
     go_ret;exact⟨ag,rfl⟩
    .go_enter func107,ntmps107
     go_wp2
     go_ret;exact⟨ag,rfl⟩
   .exact Ho
  .exact Ho
 .exact Ho
def PN.LN{w}{B pb}{bv}{l}{last}{mv}(h:PN w B pb bv l last mv)t:PN (w.setCell ⟨pb,2,none⟩<|.string t) B pb bv l t mv:=by
 have hpn:=h.ne h.pbN;have⟨ad,hb,ha⟩:=h.bk;exact⟨⟨ad,(dI hb 2 _).trans ag,ha⟩,Hn h.ow (One.cell _ _ _ _) hpn,h.nl,by have:=h.hb;simp[qh];exact this⟩
def PN.cells{w}{B pb}{bv}{l}{last}{mv}(h:PN w B pb bv l last mv):w.cell? ⟨pb,2,none⟩=some (.string last)/\w.frozen? ⟨pb,2,none⟩=false:=by
 have⟨ad,hb,ha⟩:=h.bk;exact⟨by simp[qi,hb],by simp[qj,hb]⟩
def FN.LN B pb w v:FN B pb w (w.setCell ⟨pb,2,none⟩ v):=⟨rfl,rfl,rfl,zJ,λk _ hp _=>qr _ _ _ _ hp⟩
def wX(h:PN w B pb bv l last mv)t(ht:t.size<=100000)(hl:l.length<=900000)g(hg:Bx w g #[.string t])(hgp:g≠pb):
 Cq 81 #[Pv pb,.slice (some ⟨g,0,none⟩) 1 1] w λe w'=>e=.returned (.tuple #[])/\∃XO,PN w' B pb XO (sZ l last t) t mv/\FN B pb w w':=by
 obtain⟨cg,fg,zg⟩:=hg;have⟨c2,f2⟩:=h.cells;go_enter func81,ntmps81
 go_wp2
 go_loopg[8] 1 (λgk v wr=>ahK B pb bv l last t mv g w gk v wr)
 case atStart=>exact jc ⟨rfl,rfl,rfl⟩
 case round=>
  obtain⟨rfl,rfl,rfl⟩|⟨rfl,rfl,hr⟩:=hrel
  .by_cases W4:spB last t=true
   .go_wp2_with(first|(go_at_call 107;refine(LL last t).mono ?_;rw[W4];rintro e w'⟨rfl,rfl⟩)|(go_at_call 108;refine(LK h 32 ae).mono ?_;rintro e w1⟨rfl,bv1,hN1,hF1⟩;have Fz:=ai hN1;have Ce:=ai<|Fr.fn h hF1;clear hN1 hF1)|(go_at_call 109;refine(rI Fz t ht bD).mono ?_;rintro e w2⟨rfl,W6,WY,hF2⟩;have Fb:=ai WY;have yE:=ai<|Ce.trans<|Fr.fn Fz hF2;have⟨c3,f3⟩:=WY.cells;clear WY hF2));go_roundg 0
    case measure=>omega
    case rel=>exact ja ⟨i_,rfl,W6,by rw[sZ];rw[if_pos W4];exact Fb.LN t,yE.trans<|FN.LN _ _ _ _⟩
   .have ama:spB last t=false:=by simpa using W4
    go_wp2_with(first|(go_at_call 107;refine(LL last t).mono ?_;rw[ama];rintro e w'⟨rfl,rfl⟩)|(go_at_call 109;refine(rI h t ht ae).mono ?_;rintro e w2⟨rfl,W6,WY,hF2⟩;have Fb:=ai WY;have yE:=ai<|Fr.fn h hF2;have⟨c3,f3⟩:=WY.cells;clear WY hF2));go_roundg 0
    case measure=>omega
    case rel=>exact ja ⟨i_,rfl,W6,by rw[sZ];rw[if_neg W4,List.append_nil];exact Fb.LN t,yE.trans<|FN.LN _ _ _ _⟩
  .go_wp2
   go_end0;exact⟨rfl,hr⟩
def Xk:Nat->List Nat->List (Int×Value)
 |_,[]=>[]|i,a::l=>((a:Int),Nv i)::Xk (i+1) l
def SQ:∀l i,(Xk i l).length=l.length
 |[],i=>rfl|a::l,i=>by simp[Xk,SQ l]
def LO(s:Nat):∀l i,Xk i (l++[s])=Xk i l++[((s:Int),.int .i64 ((i+l.length:Nat):Int))]
 |[],i=>by simp[Xk]|a::l,i=>by
  simp only[jy,Xk,LO s l<|i+1];simp;omega
def SR(s:Nat):∀l i,s∈l->a_ (s:Int) (Xk i l)=some (.int .i64 ((i+l.idxOf s:Nat):Int))
 |[],i,h=>yl|a::l,i,h=>by
  rw[Xk,a_];by_cases e:a=s
  .subst e;simp
  .have h1:¬((a:Int)=(s:Int)):=ae;have h2:(a==s)=false:=by simpa using e
   rw[if_neg h1,SR s l (i+1)<|(List.mem_cons.1 h).resolve_left<|λq=>e q.symm,List.idxOf_cons,h2];simp;omega
def LQ(s:Nat):∀l i,¬s∈l->a_ (s:Int) (Xk i l)=none
 |[],i,_=>rfl|a::l,i,h=>by
  rw[Xk,a_];have h1:¬((a:Int)=(s:Int)):=λq=>h (by simp;left;omega);rw[if_neg h1];exact LQ s l (i+1)<|λq=>h<|List.mem_cons_of_mem _ q
abbrev akj:Int->Value:=λn=>Iv n
structure NB w nb mb L:Prop where
 bk:Bx w nb #[Mv mb]
 mp:MS akj w mb (Xk 0 L)
 ne:nb≠mb
def MS.len{enc}{L:List (κ×Value)}(h:MS enc w b L):∃es clock,w.heap[b]? =some (.map es clock)/\es.size=L.length:=by
 obtain⟨es,c,h1,h2⟩:=h;refine⟨es,c,h1,?_⟩;have:=congrArg jz h2;simpa using this
abbrev nbV(nb:Nat):Value:=.func (.func 54) #[] #[Pv nb]
def NB.fr{S}{w w'}{nb mb}{L}(h:NB w nb mb L)(hf:Fr S w w')(h1:¬S nb)(h2:¬S mb):NB w' nb mb L:=⟨h.bk.fr hf h1,h.mp.same<|hf.block mb h.mp.lt h2,h.ne⟩
def NB.af{L:List Nat}(h:NB w nb mb L)(hb:Bq w w'):NB w' nb mb L:=h.fr (S:=λ_=>False) (Fr.of hb) id id
def vT i:=118::dec i
section
variable {L:List Nat}
def abg{enc}{M:List (κ×Value)}(h:MS enc w b M){t k:TypeId}(ht:Tryz.prog.underlying t=some (.map k e))(ty:TypeId):(Builtin.len_ #[t] ty #[Mv b]).run Tryz.prog w=.ok (Nv M.length) w:=by
 have⟨es,c,h1,h2⟩:=h.len;simp[Builtin.len_,run_underlying ht,MapKept.run_getObj_map h1,h2,goInt]
def SS w:(zeroValue 3).run Tryz.prog w=.ok (Iv 0) w:=qkr
def Hq nb mb L n w(e:Ending)w':=
 e=.returned (.string<|bs<|vT<|(qe L n).idxOf n)/\NB w' nb mb (qe L n)/\Fr (λb=>b=mb) w w'
def UF(h:NB w nb mb L)n(hn:(qe L n).length<=96):Cq 54 #[Nv n,Pv nb] w (Hq nb mb L n w):=by
 have hl:=h.mp.look (KL.num Tryz.underlying85) Tryz.underlying155 (SS w) (n:Int) trivial (λ_ _=>trivial) true;have⟨c,f,z⟩:=h.bk;have ahL:∀i,(⟨#[118]⟩:BA)++bs (dec i)=bs (vT i):=λi=>by rw[show(⟨#[118]⟩:BA)=bs [118]from rfl,df];rfl
 by_cases hm:n∈L
 .rw[SR n L 0 hm]at hl;simp at hl;have es:qe L n=L:=by rw[qe,if_pos hm]
  rw[es]at hn;have bA:=qk (List.idxOf_lt_length_iff.2 hm) hn;have HC:=λW:World=>abh (w:=W) (L.idxOf n) bA;have hc:=ahL<|L.idxOf n;have hdl:(bs<|dec<|L.idxOf n).size<=100:=by rw[cq];have:=yU<|L.idxOf n;omega
  go_enter func54,ntmps54;go_wp2_with(go_at_call 55;refine(HC _).mono ?_;rintro e w'⟨rfl,rfl⟩);go_ret;rw[Hq];rw[es];exact⟨rfl,h,Fr.refl _ _⟩
 .have hg:=LQ n L 0 hm;rw[hg]at hl;simp at hl;have es:qe L n=L++[n]:=by rw[qe,if_neg hm]
  have hix:(L++[n]).idxOf n=L.length:=by
   rw[List.idxOf_append,if_neg hm];simp
  have hlen:=abg h.mp Tryz.underlying155;rw[SQ]at hlen;rw[es]at hn;simp at hn;have HC:=λW:World=>abh (w:=W) L.length ae;have hc:=ahL L.length;have hdl:(bs<|dec L.length).size<=100:=by rw[cq];have:=yU L.length;omega
  have HM:=ai h.mp;have HK:=ai h.bk;have cR:=h.ne;go_enter func54,ntmps54;go_wp2_with(first|(go_at_call 55;refine(HC _).mono ?_;rintro e w'⟨rfl,rfl⟩)|(refine aZ _ rfl _ _ _ _ (Or.inr rfl) (KL.num Tryz.underlying85) Tryz.underlying155 _ _ rfl HM (n:Int) (Nv L.length) rfl rfl trivial (λ_ _=>trivial) ?_;intro w' H' O';have yk:=ai H';have O2:=ai O';clear H' O'));go_ret;rw[Hq];rw[es,hix];have O:=uh O2;refine⟨rfl,⟨HK.one O cR,?_,cR⟩,⟨O.os,O.tape,O.output,by rw[O.size];exact br _,λk hk hn=>O.block k hn⟩⟩;have:=uh yk;rw[mx _ _ _ hg]at this;rw[LO];simpa using this
end
end
section
open Un
def sB:Nat->Nat
 |0=>1|d+1=>2*sB d+1
end
end Go.Proofs.YtlnlhlefeokfjaaGreatDoor
