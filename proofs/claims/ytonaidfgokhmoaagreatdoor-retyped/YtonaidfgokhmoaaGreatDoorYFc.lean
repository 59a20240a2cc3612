import Derived.Test.YtonaidfgokhmoaaGreatDoorYPq
import Derived.Test.YtonaidfgokhmoaaGreatDoorYQd
set_option linter.all false
set_option maxRecDepth 100000
set_option maxHeartbeats 4000000
namespace Go.Proofs.YtonaidfgokhmoaaGreatDoor
open Go renaming Calls->aa,World->ca,Value->ia,Ending->ka
open _root_.Option renaming some->qa,none->za
open In renaming rK->ja,St->jc,via->jd,Mks->jf,Env->jh,Rn->ji,iq->jj,inf->jk,cG->jl,NW->jm,yl->jo,cy->jp,xD->jq,cV->jt,bS->ju,Dp->jv,fW->jx,lN->jy,arr->jz,uX->j3,gZ->j5,dG->j6,MM->j7,kM->j8,Bt->j9,Gb->qe,iG->qf,andM->qg,Ft->qh,wO->qi,Lp->qj
open _root_.List renaming take_succ_eq_append_getElem->qk,mem_cons_of_mem->ql,getElem_mem->qm,mem_cons_self->qn,take_length->qp,map_append->qr,drop_eq_getElem_cons->qs,getElem_cons_zero->qt,getElem_cons_succ->qu,take_append_drop->qv,not_mem_nil->qw,mem_append_right->qx,mem_append_left->qy,mem_map_of_mem->qz,map_congr_left->q9,countP_cons->xf,nodup_nil->xg,mem_cons->xh,map_map->xi
open Or renaming inl->xj,inr->xk
open _root_.Nat renaming le_trans->xm,succ_le_of_lt->xn,le_of_eq->xo,lt_of_lt_of_le->xq,zero_le->xt,le_succ->xw,lt_succ_self->zd,not_lt_zero->zg
open And renaming intro->zh
open Go.Proofs.Tryz renaming prog->zi
open Go.World renaming cell?_of_block->zo
open Go.RowKit.Below renaming refl->zt,heap_setCell->zu
open Un renaming eE->zv
open Pu renaming Tok->zx
open Go.Value renaming string->zy
open Ne renaming symm->z9
open Go.MapKept renaming heap_alloc->vd
open Classical renaming byContradiction->vf
open Bx renaming new->vg
open _root_.Array renaming getElem?_eq_getElem->vh,replicate->vo
open Go Go.RowKit Un Proofs.Tryz
variable {st:BA} {dom:BA->Prop} {rc:Bool} {e:ka} {g g1 g2:gD} {Γ:jh} {z:qh} {mk mks:jf} {ρ bI:ji} {d:qj} {s s1 s2:jc} {A:List (Nd×Nd)} {nl ns:List BA} {ds ps:List Nat} {L ms:List Nd} {vs:List zx} {B B' K b b1 b2 base al f gb gv h j jb k kb l l' m mb n nb Vs p sb sc t vc y:Nat} {cJ:Nat->Nat} {ly:Nat->Option Addr×Nat} {D E P Q S u Λ:Nat->Prop} {nd x:Nd} {sa va:Option Addr} {κ:Type} {bh:Un.Nx} {str:Un.wP} {T:Un.Ty} {v vl vm vr vv vx vy:ia} {c:WC} {V W w w' w0 w1 w2:ca}
section
open Go.ChangeMaps Go.MapKept
def Vt(w:ca)R u v b(h:b≠R):((w.setCell ⟨R,0,za⟩ u).setCell ⟨R,1,za⟩ v).heap[b]? =w.heap[b]? :=(zu _ _ _ _ h).trans<|zu _ _ _ _ h
def Sp(w:ca)R u v:((w.setCell ⟨R,0,za⟩ u).setCell ⟨R,1,za⟩ v).heap.size=w.heap.size:=by simp_all
section
variable {cnt:Nat}
def Vu(i:WK w c cnt s kb)(r:∀n,aA n T->s.u n):(vars []<|sub s.k T).length<=cnt:=by
 refine LG (dO _ xg) λm hm=>?_;have q:=(bC (sub s.k T) [] m).1 hm;simp only[qw,false_or]at q;have⟨n,o,q2⟩:=(lO T).1 q;exact i.u m<|i.ok.use n m (r n o) q2
def aaN(r:WK w c cnt s kb)(o:WG w c s Λ Γ gb){x}(h:Γ x=qa d):d.any.length<=cnt:=
 LG (o.nd x d h) λn hn=>r.u n<|(o.i x d h).use n<|(o.i x d h).sub n hn
noncomputable def lI (rc:Bool) (st:BA) (Γ:jh):jh:=if rc then jy Γ st else Γ
def Gc{z}(h:lI rc st Γ z=qa d):Γ z=qa d:=by
 cases rc
 .simpa[lI]using h
 .simp[lI,jy]at h;exact h.2
def LH(mk:jf)rc s n x z f t a(Γ:jh):jk mk (.mk (if rc then 11 else 10) s n [x,z] f t a) Γ=qg (jl rc s x (jk mk x) Γ) λt=>λs1=>jk mk z (jt Γ s<|jj (lI rc s Γ) s1.k t<|jq x) s1:=by
 cases rc<;>simp[jk,In.ls,In.pM,In.dB,In.iH,In.nK,lI]
def SoP c(d:qj)w(e:ka)w':=∃u,e=.returned u/\nL w' (dF c) d u/\Bq w w'
abbrev PSo c(w:ca)x:=(dF c x/\x<w.heap.size)\/w.heap.size+2<=x
def ym{l}(r:d.any=l){w4}{ta}{xa}(hz:c.cb<w.heap.size)(C:Bq w w4)(G:TW w4 (PSo c w) 900000 d.of (.iface ta xa))(I:qL w4 (PSo c w) sa l):SoP c d w (.returned<|.agg #[.iface ta xa,.slice sa l.length sc]) ((w4.setCell ⟨w.heap.size+1,0,za⟩<|.iface ta xa).setCell ⟨w.heap.size+1,1,za⟩<|.slice sa l.length sc):=by
 subst r;have hs:=Sp w4 (w.heap.size+1) (.iface ta xa)<|.slice sa d.any.length sc;have i:∀b,PSo c w b->b<w4.heap.size->((w4.setCell ⟨w.heap.size+1,0,za⟩<|.iface ta xa).setCell ⟨w.heap.size+1,1,za⟩<|.slice sa d.any.length sc).heap[b]? =w4.heap[b]? :=λb p _=>Vt _ _ _ _ _ (by obtain p|p:=p<;>omega);have o:∀b,PSo c w b->b<w4.heap.size->dF c b:=λb p _=>by obtain p|p:=p;exact p.1;show b≠c.cb;omega
 exact⟨_,rfl,⟨ta,xa,sa,sc,rfl,G.move ae i o,I.move ae i o⟩,(C.setCell ag _).setCell ag _⟩
def LI{a:Nat}{S}(hw:WE w c cnt)(G:WK w c cnt s kb)(hg:WG w c s Λ Γ gb)(hp:PE w Q x vx)(hS:S<=900000)(ht:TW w (dF c) S T v)(c0:jp Λ s T)(hc:cnt<=850000)(hl:c.nl.length<=1000000):
 aa zi 263 #[Mv kb,Mv gb,.agg #[.bool rc,Nv a,Nv y,.string st,vx],v] w (SoP c (jj (lI rc st Γ) s.k T<|jq x) w):=by
 have X:=G.Dq ae<|xk trivial;have Y:=cu _ ht.wh λn _=>X.wh n;have Bu:=jN;have Z:size (bJ<|sub s.k T)<=900000:=by have:=fy Y (xm (Vu G c0.use) hc) ae;omega
 have zc:=hw.dE;have k0:Bq w ((w.alloc<|Cv #[.bool rc,Nv a,Nv y,Sv st,vx] 101).alloc<|Cv #[Zv,Lv za 0 0] 358):=(bw _).alloc ag _;have B1:=(vg w #[.bool rc,Nv a,Nv y,Sv st,vx] 101).below<|bw<|Cv #[Zv,Lv za 0 0] 358;have R1:Hid (Bx ((w.alloc<|Cv #[.bool rc,Nv a,Nv y,Sv st,vx] 101).alloc<|Cv #[Zv,Lv za 0 0] 358) (w.heap.size+1) #[Zv,Lv za 0 0]):=by
  have:=vg (w.alloc<|Cv #[.bool rc,Nv a,Nv y,Sv st,vx] 101) #[Zv,Lv za 0 0] 358;rw[aY]at this;exact ai this
 have kl:KW w (λi=>dF c i/\i<w.heap.size) kb s.k:=G.k.move (br _) rfl (λ_ _ _=>rfl) (λi p z=>⟨p,z⟩);have GL:=hg.e.low;have HO:=tP (kl.af k0) ⟨G.n,G.k.lt⟩ X hS<|ht.af k0;have HL:∀(W:ca)(b:Nat)(o:TypeId)(r:ia)(Qu:Nat->Prop),Bq w W->bW W (PSo c w) b (lI rc st Γ)->dq W Qu (bJ<|sub s.k T) (Fv o r)->aa zi 270 #[Mv b,Mv kb,Fv o r] W (o_ (λi=>W.heap.size<=i) (jo (lI rc st Γ) s.k<|sub s.k T) W):=λW b o r Qu hb he hu=>
  aaO he ((kl.af hb).wide λi p=>xj p) (xj ⟨G.n,G.k.lt⟩) X (NL:=c.nl) (λz q=>hg.dm z λe=>by cases hh:lI rc st Γ z with|none=>exact q hh|some d=>rw[Gc hh]at e;cases e) hl (λz d q=>by
   have:=aaN G hg<|Gc q
   omega) hu ae
 have a0:∀W:ca,Bq w W->aa Tryz.prog 269 #[Mv gb,Sv st] W (pd (λi=>dF c i/\i<w.heap.size) (In.lN Γ st) W):=λW hb=>Sq (GL.af hb) st;have K0:=ai k0;obtain⟨tx,ax,rfl⟩:=hp.iface;obtain⟨tv,xv,rfl⟩:=ht.iface;go_in;go_wp;refine HO.mono ?_;rintro e w1⟨u,rfl,hu,k1⟩;have z0:=(uh K0).size;obtain⟨o,r,rfl⟩:=hu.iface;have O:dq w1 (PSo c w) (bJ<|sub s.k T) (Fv o r):=hu.wide λi p=>by obtain p|p:=p;exact Or.inl p;simp only[aY]at p;exact Or.inr ae
 have K1:=K0.trans<|k1.mono K0.size;have B2:=ai<|B1.below k1;have R2:=R1.below k1;have T1:TW w1 (PSo c w) 900000 (sub s.k T) (Fv o r):=⟨⟨_,O,(dr.refl _).cut Y,Z⟩,Y⟩;have U1:=ai O;have HI:=pf x w1 Q _<|hp.af K1;have⟨b1,b2,b3⟩:=uh B2;go_wp2_with fail;refine HI.mono ?_;rintro e w2⟨rfl,R⟩;have C:=K1.trans<|R.mono K1.size;have B3:=ai<|B2.below R;have R3:=ai<|R2.below R;have T2:=T1.af R;have U2:=U1.af R;have⟨b1,b2,b3⟩:=uh B3;have⟨r1,r2,r3⟩:=uh R3
 cases hv:jq x with
 |false=>
  go_wp2_with fail;refine bodyPost_ret (v:=Av #[Fv o r,Lv za 0 0]) (by simp[results,Tryz.results263,go_sem,r1]) rfl ?_;rw[hv];exact ym (d:=jj (lI rc st Γ) s.k T false) (l:=[]) (by simp[jj]) (sa:=za) (sc:=0) zc C T2<|xj rfl
 |true=>
  cases rc with
  |false=>
   have I:=HL w2 gb o r _ C (by
    have e:lI false st Γ=Γ:=by simp[lI]
    rw[e];exact(GL.af C).wide λi p=>xj p) U2
   go_wp2_with fail;refine I.mono ?_;rintro e w4⟨sa,sc,rfl,J,N⟩;have K4:=C.trans<|N.mono C.size;have T4:=T2.af N;have V4:Hid (qL w4 (PSo c w) sa<|jo (lI false st Γ) s.k<|sub s.k T):=ai (J.move (br _) (λ_ _ _=>rfl)<|λi p _=>xk (by have:=r3;omega));have⟨q1,q2,q3⟩:=(uh R3).below N;go_wp2_with fail;refine bodyPost_ret (v:=Av #[Fv o r,Lv sa (jo (lI false st Γ) s.k<|sub s.k T).length sc]) (by simp[results,Tryz.results263,go_sem,q1]) rfl ?_;rw[hv];exact ym (d:=jj (lI false st Γ) s.k T true) (by simp[jj]) (sc:=sc) zc K4 T4<|uh V4
  |true=>
   have b0:=a0 w2 C;go_wp2_with fail;refine b0.mono ?_;rintro e w3⟨bn,rfl,zn,hn,U⟩;have K3:=C.trans<|U.mono C.size
   have I:=HL w3 bn o r _ K3 (by
    have e:lI true st Γ=jy Γ st:=by simp[lI]
    rw[e];exact hn.wide λi p=>xj p) (U2.af U)
   have T3:=T2.af U;have R4:=R3.below U;have z3:=U.size;go_wp2_with fail;refine I.mono ?_;rintro e w4⟨sa,sc,rfl,J,N⟩;have K4:=K3.trans<|N.mono K3.size;have T4:=T3.af N;have V4:Hid (qL w4 (PSo c w) sa<|jo (lI true st Γ) s.k<|sub s.k T):=ai (J.move (br _) (λ_ _ _=>rfl)<|λi p _=>xk (by have:=r3;omega));have⟨q1,q2,q3⟩:=R4.below N;go_wp2_with fail;refine bodyPost_ret (v:=Av #[Fv o r,Lv sa (jo (lI true st Γ) s.k<|sub s.k T).length sc]) (by simp[results,Tryz.results263,go_sem,q1]) rfl ?_;rw[hv];exact ym (d:=jj (lI true st Γ) s.k T true) (by simp[jj]) (sc:=sc) zc K4 T4<|uh V4
def ScE.adV{a:Nat}{z}(h:ScE mk nl dom (.mk K st n [x,z] f t a))(hK:K=10\/K=11):st∈nl/\ScE mk nl (λv=>dom v\/(K=11/\v=st)) x/\ScE mk nl (λv=>dom v\/v=st) z:=by
 generalize hnd:Nd.mk K st n [x,z] f t a=nd at h
 cases h
 case lt c s n x z f t a hs hc hx hz=>
  injection hnd with r C e3 i;injection i with i o;injection o with o;subst r C i o;exact⟨hs,hx,hz⟩
 all_goals
  exfalso;injection hnd with r;omega
end
section
variable {cnt:Nat} {g:jh}
def Sr w C1 C2 v wc:=∃p,v=Pv p/\w.heap.size<p/\Bx wc w.heap.size C1/\Bx wc p C2/\Bq w wc
theorem Sr.a w C1 C2 t1 t2:Sr w C1 C2 (Pv<|w.heap.size+1) ((w.alloc<|.cells C1 t1).alloc<|.cells C2 t2).drew:=by
 have⟨p,q,i,o,h3,h4,r,C,G⟩:=pZ.a w C1 C2 t1 t2;injection i with i;injection i with i;injection i with i;injection o with o;injection o with o;injection o with o;subst i o;exact⟨_,rfl,zd _,r,C,G⟩
def acZ{R}{ab}(Y:fA w (pN c gv) ab (λv=>(R v).map Ty.var))(I:pN c gv ab){t}(Z:dq w P t v)(hz:size t<=1000)(J:Whole t)(hcb:c.cb<w.heap.size)(hgv:gv<w.heap.size):
 aa zi 221 #[Mv ab,v] w (λe w'=>∃tr xr,e=.returned (.iface tr xr)/\TW w' (pN c gv) 1100 (sub (jd R) t) (.iface tr xr)/\Bq w w'):=by
 have N:Dr (λv=>(R v).map Ty.var)=jd R:=by
  funext v;show((R v).map Ty.var).getD (.var v)=_;rw[jd]
  cases R v<;>rfl
 have r:=Gd Y I Z ae (by rw[N,ir];omega);rw[N]at r;refine r.mono ?_;rintro e w'⟨u,rfl,C,O⟩;obtain⟨tr,xr,rfl⟩:=C.iface;have o:=ph R _ J;refine⟨tr,xr,rfl,⟨⟨_,C.wide λi p=>by obtain p|p:=p;exact p;exact⟨ae,ae⟩,(dr.refl _).cut o,?_⟩,o⟩,O⟩;have G:(vars []<|sub (jd R) t).length<=1000:=by
  rw[cC];have U:=dt (occs<|sub (jd R) t) [];have X:=du<|sub (jd R) t;rw[ir]at X;simp only[nM]at U;omega
 have:=fy o G ae;omega
def agj c gv cnt(s:jc)w(R:ji)(p:j7 (Ty×jh))Λ tk m L C1 C2 pb ab gk v1 v31 wr:=
 ∃j cj sj kj g D,Hid (gk=L.length-j)/\j<=L.length/\v1=Mv kj/\v31=Nv j/\MdS c gv cnt s w R p Λ tk m L j wr cj sj kj g D/\Bx wr w.heap.size C1/\Bx wr pb C2/\fA wr (pN c gv) ab (λv=>(R v).map Ty.var)
def yn tk m i(h:i<tk.length):size tk[i]<=size (jz tk m)/\(Whole (jz tk m)->Whole tk[i])/\∀v,aA v tk[i]->aA v (jz tk m):=by
 induction tk generalizing i with
 |nil=>simp at h|cons t tk ih=>
  have e:jz (t::tk) m=In.mD t (jz tk m):=rfl;rw[e]
  cases i with
  |zero=>
   refine⟨by simp only[qt,size,ak];omega,λq=>q.2.1,λv q=>?_⟩;simp only[aA,bZ,or_false];exact xj q
  |succ i=>
   have⟨h1,o,r⟩:=ih i uY;refine⟨by simp only[qu,size,ak];omega,λq=>o q.2.2.1,λv q=>?_⟩;simp only[aA,bZ,or_false];exact xk<|r v q
def Vv tk m:Whole (jz tk m)->Whole m:=by
 induction tk with
 |nil=>exact id|cons t tk ih=>exact λq=>ih q.2.2.1
def aaP{a}{vs:Nat->ia}(H:∀i(h:i<L.length),Vw L[i])(h:PaA (.mk 2 st n L f t a) c w cnt s kb Λ g gv Q (.iface 262<|.agg #[Nv f,Nv t,Nv a,Nv y,.string st,.slice sa L.length sc]))(K0:L=[]\/∃g,sa=qa ⟨g,0,za⟩/\Q g/\g<w.heap.size/\∀i,i<L.length->w.cell? ⟨g,i,za⟩=qa (vs i))(hr:∀i(h:i<L.length),PP w Q L[i]<|vs i):
 aa zi 271 #[Pv c.eb,Mv kb,Mv gv,.agg #[Nv f,Nv t,Nv a,Nv y,.string st,.slice sa L.length sc]] w (eF c gv (1100*nn (.mk 2 st n L f t a)) (1000*nn (.mk 2 st n L f t a)) (j6 c.mks (.mk 2 st n L f t a) g) s cnt w):=by
 have en:nn (.mk 2 st n L f t a)=1+cr L:=by simp[nn]
 obtain⟨tk,m,hx,hl,i0⟩:∃tk m,c.mks st=qa (tk,m)/\L.length=tk.length/\∀i(h:i<L.length),rE c.mks c.nl L[i]:=by
  cases h.sc with
  |up _ _ _ _ _ _ tk m hx hl hr=>exact⟨tk,m,hx,hl,hr⟩|leaf _ _ _ _ _ _ hk=>omega
 obtain⟨p,hp⟩:∃p,p=j6 c.mks (.mk 2 st n L f t a) g:=⟨_,rfl⟩;have b0:=hp;rw[yo hx]at b0;rw[<-hp,en];have L0:=h.ft.a;have M0:=h.ft.b;rw[en]at L0 M0;have j0:=h.mf.sz st tk m hx;have c0:=h.mf.wh st tk m hx;have l0:=h.mf.vs st tk m hx;have has:=rL tk m;have Vx:(vars [] m).length<=size m:=by
  rw[cC];have C:=dt (occs m) [];have h3:=du m;simp only[nM]at C;omega
 obtain⟨R,hR⟩:∃R,R=p7 cnt (vars [] m):=⟨_,rfl⟩;have MR:MdR c cnt tk m R:=⟨hR,λi hi v o=>l0 v<|(yn tk m i hi).2.2 v o⟩;have o0:∀i(h:i<tk.length),size tk[i]<=1000/\Whole tk[i]:=λi hi=>⟨Nat.le_trans (yn tk m i hi).1 j0,(yn tk m i hi).2.1 c0⟩;have O0:=Vv tk m c0;have k0:Bq w (w.alloc<|Cv #[Nv f,Nv t,Nv a,Nv y,Sv st,Lv sa L.length sc] 262):=bw _;have⟨v,hv,d0⟩:=h.we.ms.look hx;obtain⟨ma,mc,ta,xa,rfl,p0,q0⟩:=hv;have zc:=h.we.dE;have lg:=h.e.lt;have lgl:=h.l;have⟨l1,l2,l3,l4,l5⟩:=h.we.l;have⟨d1,d2,d3⟩:=h.we.d;have r0:=d0 (w.alloc<|Cv #[Nv f,Nv t,Nv a,Nv y,Sv st,Lv sa L.length sc] 262).drew<|k0.drew.block c.mb ae;have t0:Bq w ((w.alloc<|Cv #[Nv f,Nv t,Nv a,Nv y,Sv st,Lv sa L.length sc] 262).alloc<|Cv #[Lv za 0 0,Zv] 361):=k0.alloc k0.size _;have u0:=d0 _<|t0.drew.block c.mb ae;have⟨e1,e2,e3⟩:=h.we.bx;have ai2:size m<=1000:=ae;have hln:L.length<=1000:=ae;clear t0;have HA:=ai h;have HL:=ai hl;have HM:=ai<|And.intro p0 q0;have HT:=ai o0;have HS:=ai i0;have P0:=ai b0;have e0:=ai MR;clear h d0 p0 q0 o0 i0 k0 hp b0 l0 c0 j0 MR hl;go_in;go_wp;go_cut[10]from 16 (λv1 wc=>Sr w #[Nv f,Nv t,Nv a,Nv y,Sv st,Lv sa L.length sc] #[Lv ma tk.length mc,Fv ta xa] v1 wc)
 case first=>
  go_region
  all_goals(
   go_wp2_with fail
   go_meet
   case rel=>exact Sr.a w _ _ _ _)
 case rest=>
  obtain⟨pb,rfl,zp,O,N,kc⟩:=hcut;clear r0 u0 e1 e2 e3;have h:=uh HA;have v0:=Bv (h.we.af kc) ((HM.2.w.af kc)) ae ae;obtain⟨x1,x2,x3⟩:=N;have x0:=ai O;have y0:=show Bx wc pb #[Lv ma tk.length mc,Fv ta xa]from⟨x1,x2,x3⟩;have KC:=ai kc;clear O kc h;go_wp2_with fail;refine v0.mono ?_;rintro e w2⟨ab,rfl,hab,z0,f0,F2⟩;clear v0 x1 x2 x3;have h:=uh HA;have zkc:=KC.size;have U:Fr (λi=>i=c.cb\/i=gv) w w2:=((Fr.of KC).trans F2).fU λ_ q=>xj q;have FB:=(Fr.of (S:=λi=>i=c.cb) KC).trans F2;have O:=x0.fr F2 ae;have N:=y0.fr F2 ae;rw[<-hR]at f0;have SB:fA w2 (pN c gv) ab (λv=>(R v).map Ty.var):=f0.bare;have A0:MdS c gv cnt s w R p Λ tk m L 0 w2 (cnt+(vars [] m).length) s kb g (λ_=>False):=by
   have C:=h.wk.fr U;refine⟨U,z0,⟨C.k,C.n,λn q=>by have:=C.u n q;unfold us at*;omega,C.ok,C.wh⟩,h.hn,h.e.move U.size (FB.block _ h.e.lt ae) (λb p z=>FB.block b z p.1)<|λ_ p _=>p,h.i,by rw[yp];exact In.iu.zero Λ s,λv n _ q z=>?_,λn q=>xj q,br _,by rw[List.drop_zero];omega,λo ho=>by rw[yp]at ho;rw[uh P0];exact ho⟩;have:=e0.num q;have:=h.wk.u n z;rw[us]at this;omega
  have B0:=ai SB;have T1:=ai O;have T2:=ai N;obtain⟨y1,y2,y3⟩:=O;clear h z0 f0 F2 U FB N SB x0 y0 KC
  go_wp2
  go_loopg[1,31] L.length (λgk v1 v31 wr=>agj c gv cnt s w R p Λ tk m L #[Nv f,Nv t,Nv a,Nv y,Sv st,Lv sa L.length sc] #[Lv ma tk.length mc,Fv ta xa] pb ab gk v1 v31 wr)
  case atStart=>exact⟨0,_,_,_,_,_,ai ag,xt _,rfl,rfl,A0,T1,T2,B0⟩
  case round=>
   clear A0 B0 T1 T2 y1 y2 y3;obtain⟨j,cj,sj,kj,gj,D,Q0,hj,rfl,rfl,MS,O,N,X⟩:=hrel;have h:=uh HA;have R0:=MS.we.dE;have S0:=MS.e.lt;have zab:=X.lt;have Y:pN c gv ab:=⟨ae,ae⟩;by_cases bY:j<L.length
   .have T0:=kK bY;have hge:(0:Int)<=(j:Int):=ae;have g0:j<tk.length:=by have:=uh HL;omega
    have aia:(j:Int)<(tk.length:Int):=ae;obtain⟨gg,rfl,hQ,hz,G⟩:=K0.resolve_left<|λe=>qBs;have I:=hr j bY;have cg:=(zo (a:=⟨gg,j,za⟩)<|MS.F.block gg hz λq=>q.elim (h.hq gg hQ).1 (h.hq gg hQ).2).trans<|G j bY;have⟨tx,ax,U0⟩:=I.iface;rw[U0]at cg I;have V0:=I.place;dsimp only[PlF]at V0;have hdn:cr (L.drop j)=nn L[j]+cr (L.drop<|j+1):=by rw[qs bY];rfl
    have mc2:=MS.c2;have mc1:=MS.c1;have hnj:nn L[j]<=cr L:=by
     have:cr (L.take j)+cr (L.drop j)=cr L:=by rw[<-rM,qv]
     omega
    have H1:=H j bY c wr cj sj kj Λ gj gv Q _ ⟨MS.we,MS.wk,MS.n,MS.e,MS.i,h.l,I.move MS.F.size (λb p z=>MS.F.block b z λq=>q.elim (h.hq b p).1 (h.hq b p).2)<|λ_ p _=>p,h.hq,HS j bY,⟨ae,ae,h.ft.l⟩,h.mf⟩;obtain⟨gt,vt,rfl,W0,X0,C0⟩:=HM.1.resolve_left (λe=>by subst e;simp at g0);have⟨CT,TT⟩:=C0 j g0;have⟨tb,xb,Y0⟩:=TT.w.iface;rw[Y0]at CT TT;have B1:=ai O;have B2:=ai N;have Z0:=ai h.wk.u;obtain⟨y1,y2,y3⟩:=O;clear N h I G C0;go_wp2_with fail;refine H1.mono ?_;intro e w3 h0;clear H1 y1 y2 y3 cg;obtain⟨c3,zz,vl,vr,rfl,q⟩|⟨c3,T3,g3,s3,ta3,xa3,kb3,rfl,q⟩:=h0.split
    .have HP:=MS.no (S:=1100*(1+cr L)) (DD:=1000*(1+cr L)) HL bY (br _) q;clear h0 q
     go_wp2
     exact⟨rfl,HP⟩
    have⟨s4,C⟩:=MS.arg (DD:=0) e0 HL bY Z0 q;have ai3:=C.c1;have ai4:=C.c2;have a1:=C.we.dE;have D0:=C.e.lt;have F3:=q.F;have Z:=C.F;have a0:=X.fr F3 (λr=>r.elim Y.1 Y.2)<|λb p _ r=>r.elim p.1 p.2;have f1:=(zo (a:=⟨gt,j,za⟩)<|Z.block gt X0 (by have:=W0;omega)).trans CT;have E0:=TT.w.move (Q:=λ_=>True) Z.size (λb p z=>Z.block b z (by have:=p;omega))<|λ_ _ _=>trivial;have⟨h1,i1⟩:=uh HT j g0;have J:=acZ a0 Y E0 h1 i1 a1 D0;have j1:=B1.fr F3 ae;have N:=B2.fr F3 ae;obtain⟨x1,x2,x3⟩:=N;have k1:=show Bx w3 pb #[Lv (qa ⟨gt,0,za⟩) tk.length mc,Fv ta xa]from⟨x1,x2,x3⟩;have MT:=ai C;have m1:=ai q.t;clear h0 q C F3 Z E0 B1 B2 X MS CT TT;go_wp2_with fail;refine J.mono ?_;rintro e w4⟨tr,xr,rfl,U4,K4⟩;clear J x1 x2 x3 f1;go_wp2_with fail;refine(dv _ _).mono ?_;rintro e w5⟨rfl,k5⟩;have K5:=K4.trans<|k5.mono K4.size;have C:=uh MT;have F0:=agk (C.we.af K5) (xq D0 K5.size) (C.wk.af K5) C.n ae (S:=1100*nn L[j]+1100) ae ((m1.af K5).le ae) ((U4.af k5).le ae) C.ti C.ui (qf L[j])<|qi L[j];clear C k5 U4;go_wp2_with fail;refine F0.mono ?_;intro e w6 hq6;clear F0;obtain hn|hq6:=hq6
    .obtain⟨fl,vl,vr,rfl,k6,z,rfl,he,hf⟩:=hn;have HP:=MT.no (S:=1100*(1+cr L)) (DD:=1000*(1+cr L)) (K5.trans<|k6.mono K5.size) (br _) he hf;clear k6 he hf
     go_wp2
     exact⟨rfl,HP⟩
    .obtain⟨b6,rfl,k6,s6,G0,H0,I0,J0⟩:=hq6;have K6:=K5.trans<|k6.mono K5.size;have n1:=MT.next K6 G0 H0 I0 J0;clear k6 G0 H0 I0 J0
     go_wp2
     go_roundg(L.length-(j+1))
     case measure=>rw[uh Q0];omega
     case rel=>exact⟨j+1,_,_,_,_,_,ai rfl,xn bY,rfl,iF,n1,j1.below K6,k1.below K6,a0.af K6⟩
   .have T0:¬(j:Int)<(L.length:Int):=ae;have Z:j=L.length:=ae;subst Z;have C:=HM.2.w.move (Q:=λ_=>True) MS.F.size (λb p z=>MS.F.block b z (by have:=p;omega))<|λ_ _ _=>trivial;have J:=acZ X Y C ae O0 R0 S0;obtain⟨x1,x2,x3⟩:=N;clear O h C;go_wp2_with fail;refine J.mono ?_;rintro e w4⟨tr,xr,rfl,G,I⟩;have HD:=MS.done (DD:=1000*(1+cr L)) e0 HL I (br _) (G.le<|show 1100<=1100*(1+cr L) by omega);clear G I J
    go_wp2
    go_ret2;exact HD
end
section
variable {cnt:Nat} {S D:Nat} {p:j7 (Ty×jh)}
def eF.below(h:eF c gv S D p s cnt w0 e w')(i:Bq w w0):eF c gv S D p s cnt w e w':=⟨(Fr.of i).trans h.1,h.2⟩
end
def agl st n f t a(H:∀i(h:i<L.length),Vw L[i]):Vw (.mk 2 st n L f t a):=by
 intro c w cnt s kb Λ g gv Q v h;obtain⟨y,sa,sc,vs,rfl,o,G⟩:∃(y:Nat)(sa:Option Addr)(sc:Nat)(vs:Nat->ia),v=Fv 262 (Av #[Nv f,Nv t,Nv a,Nv y,Sv st,Lv sa L.length sc])/\(L=[]\/∃g,sa=qa ⟨g,0,za⟩/\Q g/\g<w.heap.size/\∀i,i<L.length->w.cell? ⟨g,i,za⟩=qa (vs i))/\∀i(h:i<L.length),PP w Q L[i]<|vs i:=by
  cases h.pp with
  |up _ _ _ _ _ _ y sa sc vs hu hy o G=>exact⟨_,sa,sc,vs,rfl,o,G⟩
 have r:Bq w (w.alloc<|Cv #[Nv f,Nv t,Nv a,Nv y,Sv st,Lv sa L.length sc] 262):=bw _
 have U:=aaP H (h.part r h.pp h.sc<|br _) (o.imp id λq=>by
  obtain⟨g,N,q2,I,O⟩:=q
  exact⟨g,N,q2,xq I r.size,λi hi=>(zo (a:=⟨g,i,za⟩)<|r.block g I).trans<|O i hi⟩)<|λi hi=>(G i hi).af r
 have X:=ai r;have N:=Vy;have q2:=tQ;have I:=Oi;have O:=Oj;go_in;go_wp;refine U.mono ?_;intro e w1 R;have C:=R.below X;obtain⟨al,zz,vl,vr,rfl,q⟩|⟨al,T1,g1,s1,ta1,xa1,lP,rfl,q⟩:=R.split
 .have J:=ai C
  go_wp2
  exact⟨rfl,J⟩
 .have J:=ai C
  go_wp2
  go_ret2;exact J
def LJ:∀(L:List Nd)(i:Nat)(h:i<L.length),nn L[i]<=cr L
 |x::l,0,_=>by simp only[qt,cr];omega|x::l,i+1,h=>by simp only[qu,cr];have:=LJ l i uY;omega
def aaQ:∀(k:Nat)(nd:Nd),nn nd<=k->Vw nd:=by
 intro k
 induction k with
 |zero=>intro nd h;cases nd;simp only[nn]at h;omega|succ k ih=>
  intro nd hk c w cnt s kb Λ g gv Q v h;have o:=h.pp
  cases o with
  |any st n f t a=>exact adW st n f t a c w cnt s kb Λ g gv Q _ h|low st n f t a=>exact adX st n f t a c w cnt s kb Λ g gv Q _ h|num st n f t a=>exact Ds (xj ⟨rfl,rfl⟩) st _ f t a c w cnt s kb Λ g gv Q _ h|word st n f t a b=>exact Ds (xk<|xj ⟨rfl,rfl⟩) st n f t a c w cnt s kb Λ g gv Q _ h|unit st n f t a=>exact Ds (xk<|xk ⟨rfl,rfl⟩) st n f t a c w cnt s kb Λ g gv Q _ h|pr st n x y f t a vx vy hx hy=>exact agm st n f t a (ih x Bw) (ih y Bw) c w cnt s kb Λ g gv Q _ h|up st n L f t a y sa sc vs hu hy bK hr=>exact agl st n f t a (λi hi=>ih _ (by have:=LJ L i hi;simp only[nn]at hk;omega)) c w cnt s kb Λ g gv Q _ h
def adY nd:Vw nd:=aaQ _ nd<|br _
section
variable {cnt:Nat} {a:Nat} {y z:Nd} {vz:ia}
def Dt{p:Prop}(h:p:=by
 go_wp2_with fail
 go_meet
 case rel=>exact HQ):p:=h
def Ss(Hx:AP x)(Hy:AP y)(Hz:AP z)(h:Bz (.mk 12 st n [x,y,z] f t a) c w cnt s kb Λ Γ gb Q dom (.iface 243<|.agg #[Nv f,Nv t,vx,vy,vz]))(o:PE w Q x vx)(C:PE w Q y vy)(r:PE w Q z vz):
 aa zi 249 #[Pv c.eb,Mv kb,Mv gb,.agg #[Nv f,Nv t,vx,vy,vz]] w (aZ c (1100*nn (.mk 12 st n [x,y,z] f t a)) (1000*nn (.mk 12 st n [x,y,z] f t a)) (jk c.mks (.mk 12 st n [x,y,z] f t a) Γ) s cnt w):=by
 have en:nn (.mk 12 st n [x,y,z] f t a)=1+nn x+nn y+nn z:=Lq;obtain⟨R,U,sz⟩:ScE c.mks c.nl dom x/\ScE c.mks c.nl dom y/\ScE c.mks c.nl dom z:=by
  cases h.sc with
  |ite _ _ _ _ _ _ _ _ _ o C r=>exact⟨o,C,r⟩
 have X:=h.ft.b;rw[en]at X;have H:=gE.start h<|Ol ..
 replace en:=ai en
 clear h;have Y:=ai o;have Z:=ai C;have HZ:=ai r;obtain⟨tx,ax,rfl⟩:=o.iface;obtain⟨ty,ay,rfl⟩:=C.iface;obtain⟨tz,az,rfl⟩:=r.iface;have I:=o.place;have J:=r.place;dsimp only[PlF]at I J;clear o C r;go_in;go_wp;refine H.box.ex (D2:=1000*(1+nn y+nn z)) Hx Y R ?_ p8 p8;intro T1 ta1 xa1 s1 al lP w1 H;have⟨⟨_,b1,b2,i⟩,_⟩:=H.p;go_wp2_with fail;go_cut[1]from 13 (λv wc=>AW c al s1 Λ T1 In.nX (In.iG x) (In.wO x) w1 (Rv v) wc)
 case first=>
  go_region_with(first
   |(go_at_call 73;refine(nY).mono ?_;rintro e w4⟨rfl,rfl⟩)
   |(go_at_call 324;refine(dv _ _).mono ?_;rintro e N⟨rfl,O⟩;have G:Hid (Bq w1 N):=ai<|(zt _ _).drew.trans O;clear O)
   |(go_at_call 231;go_loud(refine(H.eqc G ((H.af G).p.2.1.le (S':=900000) ae) (uZ kO _ c _ ae) H.p.2.2<|tS _).mono ?_);intro e O hq;obtain⟨fl,vl,vr,rfl,hE⟩|hq:=hq;go_loud(exact⟨rfl,hE⟩);have HQ:=ai hq;obtain⟨b6,rfl,-⟩:=hq))
  all_goals
   exact Dt
 case rest=>
  obtain⟨b6,s6,rfl,H⟩:=H.eqd hcut;clear hcut b1 b2 i;have⟨⟨_,b1,b2,i⟩,_⟩:=H.p;go_wp2_with fail;refine H.ex (D2:=1000*(1+nn z)) Hy Z U ?_ ae p8;intro T3 ta3 xa3 s3 Vz kb3 w3 H;clear b1 b2 i;have⟨⟨⟨_,b1,b2,i⟩,_⟩,_⟩:=H.p;go_wp2_with fail;refine H.ex (D2:=1000) Hz HZ sz ?_ ae p8;intro T4 ta4 xa4 s4 ai5 kb4 w4 H;clear b1 b2 i;have⟨⟨⟨⟨_,b1,b2,i⟩,_⟩,_⟩,_⟩:=H.p;go_wp2_with fail;refine(dv _ _).mono ?_;rintro e N⟨rfl,G⟩;have H:=H.af G;go_wp2_with fail;refine H.eq (H.p.1.2.1.le (S':=900000) ae) (H.p.2.1.le ae) H.p.1.2.2 H.p.2.2 ?_;intro Vd s6 O H
  go_wp2
  go_ret2;exact H.ret H.p.1.2.1 p8
def aaR(Hx:AP x)(Hy:AP y)(h:Bz (.mk 8 st n [x,y] f t a) c w cnt s kb Λ Γ gb Q dom (.iface 269<|.agg #[Nv f,Nv t,vx,vy]))(r:PE w Q x vx)(C:PE w Q y vy):
 aa zi 252 #[Pv c.eb,Mv kb,Mv gb,.agg #[Nv f,Nv t,vx,vy]] w (aZ c (1100*nn (.mk 8 st n [x,y] f t a)) (1000*nn (.mk 8 st n [x,y] f t a)) (jk c.mks (.mk 8 st n [x,y] f t a) Γ) s cnt w):=by
 have en:nn (.mk 8 st n [x,y] f t a)=1+nn x+nn y:=Lq;have⟨N,O⟩:=h.sc.adZ<|.inr<|.inr rfl;have R:=h.ft.b;rw[en]at R;have H:=gE.start h<|Gf ..
 replace en:=ai en
 clear h;have U:=ai r;have X:=ai C;obtain⟨tx,ax,rfl⟩:=r.iface;obtain⟨ty,ay,rfl⟩:=C.iface;clear r C;go_in;go_wp;refine H.box.ex (D2:=1000*(1+nn y)) Hx U N ?_ p8 p8;intro T1 ta1 xa1 s1 al lP w1 H;have⟨⟨_,b1,b2,G⟩,_⟩:=H.p;go_wp2_with fail;refine H.ex (D2:=1000) Hy X O ?_ ae p8;intro T2 ta2 xa2 s2 dH kb2 w2 H;clear b1 b2 G;have⟨Y,Z,e3⟩:=H.we.bx;go_wp2_with fail;refine H.new (D2:=999) ?_;intro s3 i H;clear Y Z e3;have⟨⟨⟨⟨_,b1,b2,G⟩,_⟩,_⟩,_⟩:=H.p;have zc:=H.we.dE
 go_wp2
 go_region_with(first
  |(go_at_call 261;go_loud(refine(agn H.drew.p.1.2.1 (by simpa using VA i.drew c (dH+1)) (show c.cb<i.drew.heap.size from zc)).mono ?_);rintro e w5⟨g,rfl,I,J⟩;have o:=ai<|(zt i.heap.size i).drew.trans I;have T5:=ai J;have⟨⟨⟨⟨_,d1,d2,d3⟩,_⟩,_⟩,_⟩:=(H.af o).p;clear I J)
  |(go_at_call 231;go_loud(refine(H.eqc o ((H.af o).p.1.1.2.1.le (S':=900000) ae) (T5.le ae) H.p.1.1.2.2<|aaS H.p.1.2.2 H.p.2).mono ?_);intro e I o;obtain⟨fl,vl,vr,rfl,J⟩|o:=o;go_loud(exact⟨rfl,J⟩);have HQ:=ai o;obtain⟨b6,rfl,-⟩:=o))
 all_goals
  go_wp2
  go_ret2;have⟨_,s6,e,H⟩:=H.eqd HQ
  cases e
  exact H.ret (by simpa using VA I c (dH+1)) p8
def Su(Hx:AP x)(Hy:AP y)(h:Bz (.mk 7 st n [x,y] f t a) c w cnt s kb Λ Γ gb Q dom (.iface 216<|.agg #[Nv f,Nv t,.string st,vx,vy]))(J:PE w Q x vx)(N:PE w Q y vy)(hs:st=cY\/st=bM\/st=cD\/st=b8):
 aa zi 251 #[Pv c.eb,Mv kb,Mv gb,.agg #[Nv f,Nv t,.string st,vx,vy]] w (aZ c (1100*nn (.mk 7 st n [x,y] f t a)) (1000*nn (.mk 7 st n [x,y] f t a)) (jk c.mks (.mk 7 st n [x,y] f t a) Γ) s cnt w):=by
 have en:nn (.mk 7 st n [x,y] f t a)=1+nn x+nn y:=Lq;have⟨Z,sy⟩:=h.sc.adZ<|.inr<|.inl rfl;have fb:=h.ft.b;rw[en]at fb;have H:=gE.start h<|LK ..
 replace en:=ai en
 clear h;have HX:=ai J;have HY:=ai N;obtain⟨tx,ax,rfl⟩:=J.iface;obtain⟨ty,ay,rfl⟩:=N.iface;have o:=J.place;have r:=N.place;dsimp only[PlF]at o r;clear J N;go_in;go_wp;refine H.box.ex (D2:=1000*(1+nn y)) Hx HX Z ?_ p8 p8;intro T1 ta1 xa1 s1 al lP w1 H;have⟨⟨_,b1,b2,i⟩,_⟩:=H.p;go_wp2_with fail;go_cut[1]from 12 (λv wc=>AW c al s1 Λ T1 In.iT (In.iG x) (In.wO x) w1 (Rv v) wc)
 case first=>
  go_region_with(first
   |(go_at_call 72;refine(rN).mono ?_;rintro e O⟨rfl,rfl⟩)
   |(go_at_call 324;refine(dv _ _).mono ?_;rintro e R⟨rfl,C⟩;have G:Hid (Bq w1 R):=ai<|(zt _ _).drew.trans C;clear C)
   |(go_at_call 231;go_loud(refine(H.eqc G ((H.af G).p.2.1.le (S':=900000) ae) (uZ mH _ c _ ae) H.p.2.2<|tS _).mono ?_);intro e w6 hq;obtain⟨fl,vl,vr,rfl,U⟩|hq:=hq;go_loud(exact⟨rfl,U⟩);have HQ:=ai hq;obtain⟨X,rfl,-⟩:=hq))
  all_goals
   exact Dt
 case rest=>
  obtain⟨X,s6,rfl,H⟩:=H.eqd hcut;clear hcut b1 b2 i o;have⟨⟨_,b1,b2,i⟩,_⟩:=H.p;go_wp2_with fail;refine H.ex (D2:=1000) Hy HY sy ?_ ae p8;intro T3 ta3 xa3 s3 I kb3 Y H;clear b1 b2 i;have⟨⟨⟨_,b1,b2,i⟩,_⟩,_⟩:=H.p;go_wp2_with fail;go_cut[1]from 12 (λv wd=>AW c I s3 Λ T3 In.iT (qf y) (qi y) Y (Rv v) wd)
  case first=>
   go_region_with(first
    |(go_at_call 72;refine(rN).mono ?_;rintro e O⟨rfl,rfl⟩)
    |(go_at_call 324;refine(dv _ _).mono ?_;rintro e R⟨rfl,C⟩;have G:Hid (Bq Y R):=ai<|(zt _ _).drew.trans C;clear C)
    |(go_at_call 231;go_loud(refine(H.eqc G ((H.af G).p.2.1.le (S':=900000) ae) (uZ mH _ c _ ae) H.p.2.2<|tS _).mono ?_);intro e w6 hq;obtain⟨fl,vl,vr,rfl,U⟩|hq:=hq;go_loud(exact⟨rfl,U⟩);have HQ:=ai hq;obtain⟨X,rfl,-⟩:=hq))
   all_goals
    exact Dt
  case rest=>
   obtain⟨b7,s7,rfl,H⟩:=H.eqd hcut;clear hcut b1 b2 i r;have⟨⟨⟨_,b1,b2,i⟩,_⟩,_⟩:=H.p;have⟨e1,e2,e3⟩:=H.we.bx;obtain⟨C,G⟩|⟨C,G⟩:=H.we.rs.drew.look hs
   all_goals(
    first|have R:Hid (opT st=In.nX):=ai (if_pos C)|have R:Hid (opT st=In.iT):=ai<|if_neg C
    clear C
    go_wp2
    go_region_with(first|(go_at_call 73;refine(nY).mono ?_;rintro e O⟨rfl,rfl⟩)|(go_at_call 72;refine(rN).mono ?_;rintro e O⟨rfl,rfl⟩));all_goals
     go_wp2
     go_ret2
     exact H.drew.ret (by rw[uh R];first|exact uZ kO _ c 1 (by omega)|exact uZ mH _ c 1 ae) p8)
def aaT(X:AP x)(Y:AP y)(h:Bz (.mk 6 st n [x,y] f t a) c w cnt s kb Λ Γ gb Q dom (.iface 256<|.agg #[Nv f,Nv t,vx,vy]))(G:PE w Q x vx)(I:PE w Q y vy):
 aa zi 245 #[Pv c.eb,Mv kb,Mv gb,.agg #[Nv f,Nv t,vx,vy]] w (aZ c (1100*nn (.mk 6 st n [x,y] f t a)) (1000*nn (.mk 6 st n [x,y] f t a)) (jk c.mks (.mk 6 st n [x,y] f t a) Γ) s cnt w):=by
 have en:nn (.mk 6 st n [x,y] f t a)=1+nn x+nn y:=Lq;have⟨J,N⟩:=h.sc.adZ<|.inl rfl;have H:=gE.start h<|LL ..
 replace en:=ai en
 clear h;have O:=ai G;have R:=ai I;obtain⟨tx,ax,rfl⟩:=G.iface;obtain⟨ty,ay,rfl⟩:=I.iface;clear G I;go_in;go_wp;refine H.box.ex (D2:=1000*(1+nn y)) X O J ?_ p8 p8;intro T1 i o s1 al lP w1 H;have⟨⟨_,b1,b2,b3⟩,_⟩:=H.p;go_wp2_with fail;refine H.ex (D2:=1000) Y R N ?_ ae p8;intro T2 r C s2 dH kb2 w2 H;have U:=H.we.dE;go_wp2_with fail;refine(Om (w:=w2) i r o C).mono ?_;rintro e w3⟨rfl,rfl⟩
 go_wp2
 go_ret2;exact(H.af<|bw _).ret (TW.pr H.p.1.2.1 H.p.2.1 U) p8
def ago{y}(Hx:AP x)(h:Bz (.mk 9 st n [x] f t a) c w cnt s kb Λ Γ gb Q dom (.iface 239<|.agg #[Nv f,Nv t,Nv a,Nv y,.string st,vx]))(i:PE w Q x vx):
 aa zi 247 #[Pv c.eb,Mv kb,Mv gb,.agg #[Nv f,Nv t,Nv a,Nv y,.string st,vx]] w (aZ c (1100*nn (.mk 9 st n [x] f t a)) (1000*nn (.mk 9 st n [x] f t a)) (jk c.mks (.mk 9 st n [x] f t a) Γ) s cnt w):=by
 have en:nn (.mk 9 st n [x] f t a)=1+nn x:=qBi;have Bu:=jN;obtain⟨o,N⟩:st∈c.nl/\ScE c.mks c.nl (λv=>dom v\/v=st) x:=by
  cases h.sc with
  |fn _ _ _ _ _ _ _ hs i=>exact⟨hs,i⟩
 have H:=gE.start h<|LN ..
 replace en:=ai en
 clear h;have O:=ai i;obtain⟨tx,ax,rfl⟩:=i.iface;clear i;have⟨R,U,X⟩:=H.we.bx;go_in;go_wp;refine H.box.new (D2:=1000*nn x+999) ?_ p8;intro s3 r H;clear R U X;have⟨⟨_,b1,b2,b3⟩,_⟩:=H.p
 go_wp2
 go_region_with(first
  |(go_at_call 226;go_loud(refine(xE ((H.wg.fr H.f H.st.p.run).e.af (zt _ _).drew) st<|Gg (pi r.drew c cnt 1<|br _) ae).mono ?_);rintro e w5⟨b5,rfl,G,I,J⟩;have C:=ai<|(zt r.heap.size r).drew.trans J;have⟨⟨_,d1,d2,d3⟩,_⟩:=(H.af C).p;have Y:=ai I;have Z:=ai G;clear J I G)
  |(go_at_call 230;go_loud(refine H.exG (D2:=999) C Hx (H.asks C Y Z H.p.2.mono xg o O N (λ_ q=>q) ae p8) ?_);intro T6 VB VC s6 aaU Vd G C))
 all_goals
  have I:=C.we.dE;go_wp2_with fail;refine(agn (pi G c cnt 1<|br _) C.p.2.1 I).mono ?_;rintro e w7⟨g,rfl,G,J⟩
  go_wp2
  go_ret2;exact(C.af G).ret J p8
end
section
variable {n0:Nat} {M:j7 Ty} {cnt0 cnt D D2:Nat} {s0:jc} {q q2:j7 Ty} {P:ca->jc->Prop} {post:ka->ca->Prop} {y:Nd}
def gE.to(H:gE n0 M c w0 cnt0 s0 Λ Γ gb Q dom D q P s cnt kb w)(k:∀o,q2 s o->q s o):gE n0 M c w0 cnt0 s0 Λ Γ gb Q dom D q2 P s cnt kb w:=⟨H.wg,H.hq,H.hd,H.ft,H.mf,H.f,H.we,H.st,H.cl.imp k,H.lv,H.cn⟩
def gE.imp{P'}(H:gE n0 M c w0 cnt0 s0 Λ Γ gb Q dom D q P s cnt kb w)(k:∀w s,P w s->P' w s):gE n0 M c w0 cnt0 s0 Λ Γ gb Q dom D q P' s cnt kb w:=⟨H.wg,H.hq,H.hd,H.ft,H.mf,H.f,H.we,H.st,H.cl,λw s a b=>k _ _<|H.lv w s a b,H.cn⟩
def gE.LO{g}(H:gE n0 M c w0 cnt0 s0 Λ Γ gb Q dom D (qg (j6 c.mks y λ_=>za) g) P s cnt kb w)(K:Bq w W)(E:bW W (pN c gv) gv λ_=>za)(I:w.heap.size<=gv)(Y:PP w0 Q y vy)(Z:rE c.mks c.nl y)(ok:∀T g1 ta xa s' aR LQ w',gE n0 M c w0 cnt0 s0 Λ Γ gb Q dom D2 (g (T,g1)) (λw s=>P w s/\(TW w (dF c) (1100*nn y) T (.iface ta xa)/\jp Λ s T)/\bW w (dF c) gv g1/\In.bA Λ s g1) s' aR LQ w'->j6 c.mks y (λ_=>za) s (.ok ((T,g1),s'))->w.heap.size<=w'.heap.size->post (.returned<|.tuple #[.iface ta xa,Mv LQ]) w')(hD:D2+1000*nn y<=D)(hn:nn y<=n0)(J:∀f l r w',aZ c (1100*n0) (1000*n0) M s0 cnt0 w0 (BE f l r) w'->post (BE f l r) w':=by exact λ_ _ _ _ h=>⟨rfl,h⟩):
 aa zi 264 #[Pv c.eb,Mv kb,Mv gv,vy] W post:=by
 have cn:=H.cn;have zc:=H.we.dE;have k:=(BG.of H.st.k I).af K;have O:=(Y.move (Q:=λb=>Q b/\b<w.heap.size) H.f.size (λb p z=>H.f.block b z<|H.hq b p)<|λb p z=>⟨p,xq z H.f.size⟩).af K;refine(adY y c W cnt s kb Λ (λ_=>za) gv _ _ ⟨H.we.af K,k,H.st.n,E,(λy d q=>iP),by have:=H.we.l.2.2.2.2;omega,O,(λb q=>⟨H.hq b q.1,by have:=q.2;omega⟩),Z,H.ft.le ae hn,H.mf⟩).mono λe w' hp=>?_;obtain⟨c3,N,vl,vr,rfl,q⟩|⟨c3,R,U,X,o,C,G,rfl,q⟩:=hp.split
 .exact J _ _ _ _ (H.cl _ _ ⟨VD K I q.F,c3,.error N,q.c1,by have:=q.c2;omega,q.we,xj ⟨N,q.m,rfl⟩,vl,vr,rfl,q.f⟩)
 .have st:=q.step k H.st.n<|λy d q=>iP;have F:=VD (c:=c) K I q.F;have:=q.c1;have:=q.c2;exact ok R U o C X c3 G w' ⟨H.wg,H.hq,H.hd,H.ft,H.mf,H.f.trans F,q.we,H.st.and ⟨st.k.wk,st.n,st.p⟩,H.cl.and q.m F q.c1 q.u ae,λw2 s2 a b=>⟨H.lv w2 s2 (F.trans a)<|st.p.trans b,⟨(q.t.wide (Q:=dF c) λi p=>p.1).fr a<|λ_ p _=>p,st.t.run b.run⟩,(q.e.wide (Q:=dF c) λi p=>p.1).fr a ae<|λ_ p _=>p,st.i.run b.run⟩,ae⟩ q.m F.size
end
def agp n0(M:j7 Ty)c w0 cnt0 s0 Λ(Γ:jh)gb Q dom T ts xs rv nx A gk v1 v35 wr:=
 ∃j cj sj kj,Hid (gk=A.length-j)/\j<=A.length/\v1=Mv kj/\v35=Nv j/\gE n0 M c w0 cnt0 s0 Λ Γ gb Q dom (1000*cr (aN<|A.drop j)) (lQ c.mks Γ T (.var rv) A j) (λw s=>(TW w (dF c) (1100*nx) T (.iface ts xs)/\jp Λ s T)/\jp Λ s (.var rv)) sj cj kj wr
def BH(h:j<A.length):cr (aN<|A.drop j)=nn A[j].1+nn A[j].2+cr (aN<|A.drop<|j+1):=by
 rw[qs h];simp only[aN,cr];omega
def nZ:∀A:List (Nd×Nd),A.length<=cr (aN A)
 |[]=>ag|p::r=>by have:=nZ r;have:=tT p.1;simp only[eG,aN,cr];omega
def rO:∀(A:List (Nd×Nd))(j:Nat)(h:j<A.length),nn A[j].1+nn A[j].2<=cr (aN A)
 |p::r,0,_=>by simp only[qt,aN,cr];omega|p::r,j+1,h=>by have:=rO r j uY;simp only[qu,aN,cr];omega
section
variable {cnt:Nat}
def ad0{a}{g}{vp ve:Nat->ia}(Hx:AP x)(He:∀i(h:i<A.length),AP A[i].2)(h:Bz (.mk 13 st n (x::aN A) f t a) c w cnt s kb Λ Γ gb Q dom (.iface 250<|.agg #[Nv f,Nv t,vx,.slice (qa ⟨g,0,za⟩) A.length sc]))(hg:Q g)(h0:g<w.heap.size)(hc:∀i,i<A.length->(∃u v,w.cell? ⟨g,i*4,za⟩=qa (Iv u)/\w.cell? ⟨g,i*4+1,za⟩=qa (Iv v))/\w.cell? ⟨g,i*4+2,za⟩=qa (vp i)/\w.cell? ⟨g,i*4+3,za⟩=qa (ve i))(hx:PE w Q x vx)(hp:∀i(h:i<A.length),PP w Q A[i].1<|vp i)(he:∀i(h:i<A.length),PE w Q A[i].2<|ve i):
 aa zi 250 #[Pv c.eb,Mv kb,Mv gb,.agg #[Nv f,Nv t,vx,.slice (qa ⟨g,0,za⟩) A.length sc]] w (aZ c (1100*nn (.mk 13 st n (x::aN A) f t a)) (1000*nn (.mk 13 st n (x::aN A) f t a)) (jk c.mks (.mk 13 st n (x::aN A) f t a) Γ) s cnt w):=by
 have en:nn (.mk 13 st n (x::aN A) f t a)=1+nn x+cr (aN A):=Lq;obtain⟨sx,SP,SE⟩:ScE c.mks c.nl dom x/\(∀i(h:i<A.length),rE c.mks c.nl A[i].1)/\∀i(h:i<A.length),ScE c.mks c.nl (λv=>dom v\/v∈pj A[i].1) A[i].2:=by
  have G:=h.sc;generalize hL:x::aN A=L at G
  cases G with
  |mt _ _ _ x' A' _ _ _ hx hp he=>
   injection hL with I J;subst I;have N:A=A':=by
    have:∀(A A':List (Nd×Nd)),aN A=aN A'->A=A':=by
     intro A
     induction A with
     |nil=>intro A' e;cases A' with|nil=>rfl|cons=>simp[aN]at e
     |cons p r ih=>
      intro A' e
      cases A' with
      |nil=>simp[aN]at e|cons p' r'=>
       simp only[aN,List.cons.injEq]at e;obtain⟨U,X,e3⟩:=e;rw[ih r' e3,Prod.ext U X]
    exact this A A' J
   subst N;exact⟨hx,hp,he⟩
  |leaf _ _ _ _ _ _ _ hk=>omega|two _ _ _ _ _ _ _ _ _ hk=>omega|lt _ _ _ _ _ _ _ _ _ _ hk=>omega
 have fb:=h.ft.b;rw[en]at fb;have hAl:=nZ A;have HX:=ai hx;obtain⟨tx,ax,rfl⟩:=hx.iface;have H:=gE.start h<|LR ..;obtain⟨n0,O⟩:∃n0,n0=nn (.mk 13 st n (x::aN A) f t a):=⟨_,rfl⟩;obtain⟨M,hM⟩:∃M,M=In.inf c.mks (.mk 13 st n (x::aN A) f t a) Γ:=⟨_,rfl⟩;rw[<-hM,<-O]at H⊢;rw[en]at O;have Y:=ai O;have HP:=ai hp;have HE:=ai he;have HC:=ai hc;clear h hx en O hM hp he hc;go_in;go_wp;refine H.box.ex (D2:=1000*(1+cr (aN A))) Hx HX sx ?_ (by rw[uh Y];omega) (by rw[uh Y];omega);intro Z a0 b0 s1 al lP w1 H;have⟨⟨_,b1,b2,N⟩,_⟩:=H.p;have⟨U,X,e3⟩:=H.we.bx;go_wp2_with fail;refine H.new (D2:=1000*cr (aN A)) ?_ ae;intro s3 w3 H;clear U X e3 b1 b2 N;have⟨⟨⟨_,b1,b2,N⟩,_⟩,_⟩:=H.p
 go_wp2
 go_loopg[1,35] A.length (λgk v1 v35 wr=>agp n0 M c w cnt s Λ Γ gb Q dom Z a0 b0 (al+1) (nn x) A gk v1 v35 wr)
 case atStart=>exact⟨0,_,_,_,ai ag,xt _,rfl,rfl,H.imp λ_ _ h=>⟨h.1.2,h.2⟩⟩
 case round=>
  clear H b1 b2 N;obtain⟨j,cj,sj,kj,c0,hj,rfl,rfl,H⟩:=hrel;by_cases G:j<A.length
  .have e0:=kK G;have hge:(0:Int)<=(j:Int):=ae;have⟨⟨u,v,d0,d1⟩,d2,d3⟩:=HC j G;rw[<-zo (a:=⟨g,_,za⟩) (H.f.block g h0<|H.hq g hg)]at d0 d1 d2 d3;have⟨t1,x1,U⟩:=(HP j G).iface;have⟨t2,x2,X⟩:=(HE j G).iface;have I:=HP j G;have J:=HE j G;rw[U]at d2 I;rw[X]at d3 J;have f0:=I.place;have g0:=J.place;dsimp only[PlF]at f0 g0
   replace I:=ai I
   replace J:=ai J
   have hdn:=BH G;have hnn:=rO A j G;have l5:=H.we.l.2.2.2.2;have H:=H.to λo q=>BI G q;have zc:=H.we.dE;go_wp2_with fail;refine(H.box (C:=#[Iv u,Iv v,Fv t1<|Av x1,Fv t2<|Av x2]) (t:=247)).LO (D2:=1000*(nn A[j].2+cr (aN<|A.drop<|j+1))) (gv:=wr.heap.size+1) (bw _) (by have:=bW.new (wr.alloc<|Cv #[Iv u,Iv v,Fv t1<|Av x1,Fv t2<|Av x2] 247)<|pN c<|wr.heap.size+1;simpa using this) ag I (SP j G) ?_ ae (by rw[uh Y];omega);intro T3 g3 ta3 xa3 s3 c3 kb3 w3 H R z3;clear d0 d1 d2 d3;have⟨⟨_,b1,b2,N⟩,_⟩:=H.p;go_wp2_with fail;refine(dv _ _).mono ?_;rintro e w4⟨rfl,K4⟩;have H:=H.af K4;clear b1 b2 N;have⟨⟨_,b1,b2,N⟩,_⟩:=H.p;go_wp2_with fail;refine H.eq (S:=900000) (H.p.1.1.1.1.le ae) (H.p.2.1.1.le ae) H.p.1.1.1.2 H.p.2.1.2 ?_;intro b5 s5 w5 H;clear b1 b2 N;have⟨⟨_,b1,b2,N⟩,_⟩:=H.p
   replace R:=ai R
   go_wp2_with fail;go_cut[16,17]from 56 to 75 (λv16 v17 wc=>∃T6 s6 c6 VB VC Vd,v16=Mv Vd/\v17=Fv VB VC/\gE n0 M c w cnt s Λ Γ gb Q dom (1000*cr (aN<|A.drop<|j+1)) (qg (In.tG (.var<|al+1) T6 (qf A[j].2)<|qi A[j].2) λ_=>lQ c.mks Γ Z (.var<|al+1) A<|j+1) (λw' s=>(((TW w' (dF c) (1100*nn x) Z (Fv a0 b0)/\jp Λ s Z)/\jp Λ s (.var<|al+1))/\Bx w' wr.heap.size #[Iv u,Iv v,Fv t1<|Av x1,Fv t2<|Av x2])/\TW w' (dF c) (1100*nn A[j].2) T6 (Fv VB VC)/\jp Λ s T6) s6 c6 Vd wc)
   case first=>
    go_region_with(first
     |(go_at_call 238;go_loud(refine(BK ((H.wg.fr H.f H.st.p.run).e.af (zt _ _).drew)<|H.p.2.2.1.af (zt _ _).drew).mono ?_);rintro e w6⟨b6,rfl,z6,h6,k6⟩;have K6:=ai<|(zt w5.heap.size w5).drew.trans k6;have⟨⟨_,d1,d2,d3⟩,_⟩:=(H.af K6).p;have E6:=ai h6;have Z6:=ai z6;clear k6 h6 z6)
     |(go_at_call 230;go_loud(refine H.exG (D2:=1000*cr (aN<|A.drop<|j+1)) K6 (He j G) ⟨H.we.af K6,H.st.k.af K6,H.st.n,(H.wg.fr H.f H.st.p.run).over (SP j G) R H.p.2.2.2 E6 (by have z:=uh Z6;have:=H.we.dE;have q:w5.heap.size<=b6:=z;omega),(J.move H.f.size (λb p z=>H.f.block b z<|H.hq b p)<|λ_ p _=>p).af K6,H.hq,SE j G,Gh (SP j G) R H.hd,H.ft.le qBw (by rw[uh Y];omega),H.mf⟩ ?_ ae);intro T6 VB VC s6 c6 Vd w7 H7))
    all_goals(
     go_wp2_with fail
     go_meet
     case rel=>exact⟨_,_,_,_,_,_,rfl,rfl,H7.imp λ_ _ h=>⟨h.1.1,h.2⟩⟩)
   case rest=>
    obtain⟨T6,s6,c6,VB,VC,Vd,rfl,rfl,H⟩:=hcut;clear b1 b2 N;have⟨⟨_,b1,b2,N⟩,_⟩:=H.p;go_wp2_with fail;refine(dv _ _).mono ?_;rintro e w8⟨rfl,K8⟩;have H:=H.af K8;go_wp2_with fail;refine H.eq (S:=900000) (pi w8 c al _ ae) (H.p.2.1.le ae) H.p.1.1.2 H.p.2.2 ?_;intro b9 s9 w9 H
    go_wp2
    go_roundg(A.length-(j+1))
    case measure=>rw[uh c0];omega
    case rel=>exact⟨j+1,_,_,_,ai rfl,xn G,rfl,iF,H.imp λ_ _ h=>h.1.1⟩
  .have e0:¬(j:Int)<(A.length:Int):=ae;have I:j=A.length:=ae;subst I;have H:=H.to λo q=>Gi c.mks Γ Z (.var<|al+1) A sj o q
   go_wp2
   go_ret2;exact H.ret (pi wr c al 1<|br _) (by rw[uh Y];omega)
end
structure WT w c cnt(u:Nat->Prop)(Γ:jh):Prop where
 we:WE w c cnt
 e:bW w (λi=>i≠c.cb/\i≠c.eb) c.nb Γ
 n:c.nb≠c.cb/\c.nb≠c.eb
 hu:∀n,u n->us cnt n
 top:In.VE ⟨Ty.var,u⟩ Γ
 dm:∀x,Γ x≠za->x∈c.nl
structure LtA rc st x c w cnt u(Γ:jh)Q(dom:BA->Prop)v:Prop where
 wt:WT w c cnt u Γ
 pe:PE w Q x v
 hq:∀b,Q b->b≠c.cb/\b≠c.eb
 sc:ScE c.mks c.nl (λv=>dom v\/(rc=true/\v=st)) x
 hd:∀x,dom x->Γ x≠za
 ft:Fit c cnt (1+nn x)
 mf:MkFine c.mks
 LS:st∈c.nl
def On{p:Prop}(h:p:=by
 induction h with
 |var n=>exact .var n|aM c L sa sc vs hc bK hr ih=>
  refine .aM c L sa sc vs hc ?_ ih;obtain h0|⟨g,h1,h2,h3,h4⟩:=bK
  .exact xj h0
  .by_cases h0:L=[]
   .exact xj h0
   .refine xk ⟨g,h1,⟨h2,λe=>?_⟩,h3,h4⟩;have hl:=List.length_pos_iff.2 h0;have q:=h4 0 hl;rw[e,hb]at q;injection q with q;obtain⟨a,y,r⟩:=(hr 0 hl).iface
    exact hx a y<|q.trans r):p:=h
def dq.not{t:Ty}{x:ia}(h:dq w P t v)(hb:w.cell? ⟨b,0,za⟩=qa x)(hx:∀a y,x≠.iface a y):dq w (λi=>P i/\i≠b) t v:=by
 exact On
def eh.not{t:Ty}{x:ia}(h:eh w P t v)(hb:w.cell? ⟨b,0,za⟩=qa x)(hx:∀a y,x≠.iface a y):eh w (λi=>P i/\i≠b) t v:=by
 exact On
def qM.hv(h:qM w P z vl vr):(vl=.nilIface/\vr=.nilIface)\/∃a b c d,vl=.iface a b/\vr=.iface c d:=by
 obtain k|k:=h.k
 .have⟨i,o⟩:=h.apart k;have⟨a,b,r⟩:=i.iface;have⟨c,d,C⟩:=o.iface;exact xk ⟨a,b,c,d,r,C⟩
 .exact xj (h.p9 k)
def qM.one{w w':ca}{P:Nat->Prop}{z:qh}{vl vr x:ia}{b:Nat}(h:qM w P z vl vr)(r:w.cell? ⟨b,0,za⟩=qa x)(C:∀a y,x≠.iface a y)(o:Fr (λi=>i=b) w w'):qM w' P z vl vr:=
 ⟨h.p9,λk=>⟨((h.apart k).1.not r C).move o.size (λi p q=>o.block i q p.2)<|λ_ p _=>p.1,((h.apart k).2.not r C).move o.size (λi p q=>o.block i q p.2)<|λ_ p _=>p.1⟩,h.k⟩
abbrev AX(f:Fl)(vl vr:ia):ia:=.agg #[Nv f.kind,Nv f.ah,Nv f.to,vl,vr]
def VG c cnt u(Γ:jh)rc st a y x w(e:ka)w':=Fr (λi=>i=c.cb\/i=c.eb) w w'/\∃o,jl rc st x (jk c.mks x) Γ ⟨Ty.var,u⟩ o/\match o with
 |.error z=>∃vl vr,e=.returned (.tuple #[.nilIface,AX z.f vl vr])/\qM w' (dF c) z vl vr
 |.ok (t,s)=>(48<size (sub s.k t)/\e=.returned (.tuple #[.nilIface,AX ⟨7,a,y⟩ .nilIface .nilIface]))\/
  (size (sub s.k t)<=48/\∃T ta xa aR Vs,T=(if jq x then sub s.k t else jx (sub s.k t))/\e=.returned (.tuple #[.iface ta xa,.agg Ls])/\dq w' (dF c) T (.iface ta xa)/\Whole T/\aR<=cnt+1000*(1+nn x)/\WT w' {c with nb:=Vs} aR s.u (jt Γ st ⟨T,vars [] T⟩))
def mI.not{w}{P}{mb b}{mk}{x}(h:mI w P mb mk)(I:w.cell? ⟨b,0,za⟩=qa x)(J:∀a y,x≠.iface a y):mI w (λi=>P i/\i≠b) mb mk:=by
 obtain⟨L,O,R,U⟩:=h;refine⟨L,O,R,λk v hk=>?_⟩;obtain⟨tk,m,e,sa,sc,X,Y,rfl,C,q2⟩:=U k v hk;refine⟨tk,m,e,sa,sc,X,Y,rfl,?_,q2.not I J⟩;obtain C|⟨g,vs,Z,q4,q5,G⟩:=C
 .exact xj C
 .by_cases N:tk=[]
  .exact xj N
  .have hl:=List.length_pos_iff.2 N;refine xk ⟨g,vs,Z,⟨q4,λe=>?_⟩,q5,λi hi=>⟨(G i hi).1,(G i hi).2.not I J⟩⟩;have⟨o,q8⟩:=G 0 hl;rw[e,I]at o;injection o with o;have⟨a,y,r⟩:=q8.iface;exact J a y<|o.trans r
def MG.bE{enc}{L:List (κ×ia)}(h:MG enc w b L)(o:Nat):w.cell? ⟨b,o,za⟩=za:=by
 obtain⟨es,c,i,_⟩:=h;simp[World.cell?,i]
def xF{p:Prop}(h:p:=by
 have:=h.bx.c 0;rw[<-e]at this
 exact absurd this (by rw[hM.bE 0];simp)):p:=h
def WE.put{cnt}(h:WE w c cnt)(o:Fr (λi=>i=c.eb\/c.fU<=i) w w')(N:Bx w' c.eb (ad1 {c with nb:=nb})):WE w' {c with nb:=nb} cnt:=by
 have⟨r,C,G,I,J⟩:=h.l;have⟨d1,d2,d3⟩:=h.d;have ne1:c.rb≠c.eb:=λe=>by
  have⟨L,hM,_⟩:=h.rs;exact xF
 have ne2:c.mb≠c.eb:=λe=>by
  have⟨L,hM,_⟩:=h.ms;exact xF
 refine⟨N,h.ct.fr o ae,h.rs.same<|o.block _ h.rs.lt ae,?_,h.d,⟨r,C,G,I,xm J o.size⟩⟩;exact(h.ms.not (h.bx.c 0) ag).move o.size (o.block _ h.ms.lt ae) (λb p z=>o.block b z (by have:=p;omega)) (λb p _=>p.1)
mutual
def yq:∀t,size (sub (λ_=>j8) t)=size t
 |.var n=>by simp[sub,size,ak]|.aM c l=>by simp only[sub,size,u7 l]
def u7:∀l,ak (aU (λ_=>j8) l)=ak l
 |[]=>rfl|t::l=>by simp only[aU,ak,yq t,u7 l]
end
def n8 t:size (jx t)=size t:=yq t
def yr:Whole j8:=⟨λe=>by have:=congrArg ByteArray.size e;revert this;decide,trivial⟩
def QTy:EQ Ty:=λw P t c=>eh w P t<|c 0
def iw:fX QTy:=by grind[fX,QTy,eh.move]
def vsT(j:Nat):List Ty:=(List.range j).map λi=>.var<|i+1
def VH j:vsT (j+1)=vsT j++[.var<|j+1]:=by simp[vsT,List.range_succ]
def pk j:(vsT j).length=j:=by simp[vsT]
structure TdF(t:zx)(vs:List zx)(ms:List Nd):Prop where
 up:p_ t.text
 vn:(vs.map (·.text)).Nodup
 vl:vs.length<=900
 vq:∀v∈vs,Ve v.text
 ml:ms.length<=900
 mt:∀i(h:i<ms.length),∃s n L f u a,ms[i]=.mk 2 s n L f u a/\L.length<=900/\∀k(hk:k<L.length),ys L[k]/\(bm (vs.map (·.text)) L[k]).2=vs.map (·.text)/\bm (vs.map (·.text)) (es L[k])=bm (vs.map (·.text)) L[k]
def Oo{s:BA}:∀{ns:List BA},s∉ns->ix s ns=ns.length/\ix s (ns++[s])=ns.length
 |[],_=>⟨rfl,by simp[ix]⟩|a::ns,h=>by
  have i:¬a.toList=s.toList:=λe=>h (by rw[show a=s from by have:=congrArg List.toArray e;cases a;cases s;simp_all[ByteArray.toList_eq]];simp);have⟨o,r⟩:=Oo (s:=s) (ns:=ns)<|λq=>h qBf;simp[ix,i,o,r]
def Fr.grown{a}{row}(h:Fr S a W)(i:W.grownBy w' row)(o:∀b,row=qa b->S b\/a.heap.size<=b):Fr S a w':=
 ⟨i.os.trans h.os,i.tape.trans h.tape,i.output.trans h.output,xm h.size i.size,λk hk hn=>(i.block k (xq hk h.size) (λe=>by obtain q|q:=o k e.symm;exact hn q;omega)).trans (h.block k hk hn)⟩
def dC.ty{c}{L:List Ty}(hc:p_ c)(h:dC QTy 105 1 w base va vc L):eh w (λb=>base<=b) (.aM c L) (.iface 194<|.agg #[.string c,.slice va L.length vc]):=by
 have⟨va',vc',r,e,o,C⟩:=h.v iw;injection e with G _ I;subst G I;have:=eh.aM (w:=w) (P:=λb=>base<=b) c L va vc (λi=>r i 0) (xk<|xk hc) (o.imp id λ⟨g,J,q2,N,O⟩=>⟨g,J,q2,N,λi hi=>by simpa using O i hi 0 aD⟩) (λi hi=>C i hi)
 rwa[e9 hc]at this
def dC.aib{L:List Ty}(h:dC QTy 105 1 w base va vc L):VJ w (λb=>base<=b) va L:=by
 have⟨va',vc',r,e,o,C⟩:=h.v iw;injection e with G _ I;subst G I;exact o.imp id λ⟨g,J,q2,N,O⟩=>⟨g,λi=>r i 0,J,q2,N,λi hi=>⟨by simpa using O i hi 0 aD,C i hi⟩⟩
def rP:Tryz.prog.underlying 142=qa (.map 9 361):=qkr
theorem gc{ops}{rest}{o}{a}{F}(C:o.guard=za)m x v(i:o.op=Op.insert 142 m x v\/o.op=Op.mapUpdate 142 m x v)(G:a.eval m=Mv b)(h:mI w P b mk)(I:¬P b){tk}{mt}{u}(hc:Vf w P tk mt u)n(J:a.eval x=.string n)(N:a.eval v=u)(O:∀w',mI w' P b (λy=>if y=n then qa (tk,mt)else mk y)->One b w w'->wpList zi ops F rest (a.put o.dst undef) w'):
 wpList zi ops F (o::rest) a w:=by
 obtain⟨L,r,h2,h3⟩:=h;refine cz Oq rP C m x v i G r n u J N λw' hM o=>O w' ⟨_,hM,λy hy=>?_,λy z hy=>?_⟩ o
 .rw[aO]at hy;by_cases e:n=y
  .grind
  .grind
 .have mv:∀{tk m v},Vf w P tk m v->Vf w' P tk m v:=λh=>h.move Vg (λx p _=>o.block x<|λe=>I<|e▸p)<|λ_ p _=>p;rw[aO]at hy;by_cases e:n=y
  .grind
  .grind
def yt(t:zx)(vs:List zx)(m:Nd):∀(l:List Nd)(mk:jf),ja t vs (l++[m]) mk=λy=>if y=qe m then qa (In.yu (vs.map (·.text)) m,jv t vs)else ja t vs l mk y
 |[],mk=>rfl|x::l,mk=>by
  show ja t vs (l++[m]) _=_;rw[yt t vs m l];rfl
def Ot ns(L:List Nd):=L.map λx=>(bm ns x).1
def VK{ns:List BA}:∀{L:List Nd},(∀k(C:k<L.length),(bm ns L[k]).2=ns/\bm ns (es L[k])=bm ns L[k])->aJ ns (bB L)=(Ot ns L,ns)
 |[],_=>rfl|x::l,h=>by
  have⟨i,o⟩:=h 0 ag;have i:(bm ns x).2=ns:=i;have o:bm ns (es x)=bm ns x:=o;have r:=VK (L:=l) λk C=>h (k+1) bQ;simp[bB,aJ,o,i,r,Ot]
def VL(h:k<L.length):Ot ns (L.take<|k+1)=Ot ns (L.take k)++[(bm ns L[k]).1]:=by
 rw[Ot];rw[qk h,qr];rfl
def aaV(h:k<=L.length):(Ot ns<|L.take k).length=k:=by grind[Ot]
def aaW(w:ca)(A C:Array ia)(t u:TypeId):∃w',w'=(w.alloc<|.cells A t).alloc (.cells C u)/\Bq w w'/\w'.heap.size=w.heap.size+2/\Bx w' w.heap.size A/\Bx w' (w.heap.size+1) C:=⟨_,rfl,(bw _).alloc ag _,ag,(vg w A t).alloc _,Bx.at _ C u _ ag⟩
def Fr.lo{a b c:ca}(k:Fr S b c)(h:Below n a b)(o:∀x,x<n->¬S x)(hn:n<=b.heap.size):Below n a c:=⟨k.os.trans h.os,k.tape.trans h.tape,k.output.trans h.output,xm h.size k.size,λi hi=>(k.block i ae<|o i hi).trans<|h.block i hi⟩
def aic w7 B p4 mm kb fb cb mb(t:zx)(vs:List zx)(ms:List Nd)va vc gk v wr:=
 ∃(j:Nat),Hid (gk=ms.length-j)/\j<=ms.length/\v=Nv j/\NM wr kb fb cb mb (vs.map (·.text))/\Bx wr p4 #[.string t.text,.slice va vs.length vc]/\eh wr (λi=>B<=i/\i≠cb/\i≠mb/\i≠mm) (jv t vs) (.iface 194<|.agg #[.string t.text,.slice va vs.length vc])/\mI wr (λi=>B<=i/\i≠cb/\i≠mb/\i≠mm) mm (ja t vs (ms.take j) λ_=>za)/\Fr (λi=>i=cb\/i=mb\/i=mm) w7 wr
def aid w8 p10 kb fb cb mb(vs:List zx)(L:List Nd)mv gk v wr:=
 ∃(j:Nat)(va:Option Addr)(vc:Nat),Hid (gk=L.length-j)/\j<=L.length/\v=Nv j/\NM wr kb fb cb mb (vs.map (·.text))/\Bx wr p10 #[.slice va j vc,mv]/\dC QTy 105 1 wr w8.heap.size va vc (Ot (vs.map (·.text))<|L.take j)/\Fr (λi=>i=cb\/i=mb\/i=p10) w8 wr
def aie w0 p4 kb fb cb mb(t:zx)(vs:List zx)gk v wr:=
 ∃(j:Nat)(va:Option Addr)(vc:Nat),Hid (gk=vs.length-j)/\j<=vs.length/\v=Nv j/\NM wr kb fb cb mb ((vs.map (·.text)).take j)/\Bx wr p4 #[.string t.text,.slice va j vc]/\dC QTy 105 1 wr w0.heap.size va vc (vsT j)/\Fr (λi=>i=cb\/i=mb\/i=p4) w0 wr
def Gk{t}{f u}(hv:RowV QName 3 w P vs vv)(hm:RowV QMaker 6 w P ms vm)(hd:TdF t vs ms):
 aa zi 229 #[.agg #[Iv f,Iv u,Nv t.ah,Nv t.to,.string t.text,vv,vm]] w (λe w'=>∃b,e=.returned (Mv b)/\Bq w w'/\w.heap.size<=b/\mI w' (λi=>w.heap.size<=i) b (ja t vs ms λ_=>za)):=by
 obtain⟨pa,pc,cs,rfl,HR,HQ⟩:=hv;obtain⟨ma,mc,ds,rfl,t1,u1⟩:=hm;have hl:=hd.vl;have⟨i0,J0,L0,M0,O0⟩:=info_parts fY;have⟨k0,B0⟩:=rF w #[Iv f,Iv u,Nv t.ah,Nv t.to,Sv t.text,Lv pa vs.length pc,Lv ma ms.length mc] 96;have K0:=ai k0;clear k0;go_in;go_wp;refine(Du).mono ?_;rintro e w1⟨rfl,p0⟩;have k1:Bq (w.alloc<|Cv #[Iv f,Iv u,Nv t.ah,Nv t.to,Sv t.text,Lv pa vs.length pc,Lv ma ms.length mc] 96) w1:=by rw[p0];exact bw _
 have C1:Bx w1 (w.heap.size+1) #[Iv 0]:=by rw[p0];have:=vg (w.alloc<|Cv #[Iv f,Iv u,Nv t.ah,Nv t.to,Sv t.text,Lv pa vs.length pc,Lv ma ms.length mc] 96) #[Iv 0] 3;simpa using this
 have B1:=B0.below k1;have K1:=K0.trans<|k1.mono K0.size;have HN:=aaX _ C1;have zw1:w1.heap.size=w.heap.size+2:=by rw[p0];simp
 clear p0 k1 C1 B0 K0;go_wp2_with fail;refine HN.mono ?_;rintro e w2⟨kb,fb,mb,rfl,nm,k2,zmb⟩;clear HN;have⟨b1,b2,b3⟩:=B1.below k2;have K2:=K1.trans<|k2.mono K1.size;have B2:=B1.below k2;have P0:=ai nm;have⟨y1,y2,y3,y4⟩:=nm.lt;have zz2:=B2.z;have zc1:=K1.size;clear nm k2 B1;go_wp2_with fail;obtain⟨w3,f0⟩:∃w3,w3=w2.alloc (Cv #[Sv t.text,Lv za 0 0] 194):=⟨_,rfl⟩;have k3:Bq w2 w3:=by rw[f0];exact bw _
 have z1:Bx w3 w2.heap.size #[Sv t.text,Lv za 0 0]:=by rw[f0];exact vg w2 #[Sv t.text,Lv za 0 0] 194
 have z3:w3.heap.size=w2.heap.size+1:=by rw[f0];simp
 have D1:=P0.af k3;have B3:=B2.below k3;have K3:=K2.trans<|k3.mono K2.size;rw[<-f0];clear f0 k3 P0 B2 K2;go_loopg[22] vs.length (λgk v wr=>aie w3 w2.heap.size kb fb (w.heap.size+1) mb t vs gk v wr)
 case atStart=>exact⟨0,za,0,ai ag,xt _,rfl,by simpa using D1,z1,by simpa[vsT]using dC.nil QTy 105 1 w3 w3.heap.size,Fr.refl _ _⟩
 case round=>
  obtain⟨j,va,vc,E1,hj,rfl,nm,p4,ro,c0⟩:=hrel;have zr:=c0.size;by_cases bY:j<vs.length
  .have F1:=kK bY;have hge:(0:Int)<=(j:Int):=ae;obtain⟨g,rfl,hPg,u0,N⟩:=HR.resolve_left<|λe=>qBs;obtain⟨q0,q1,q2,l0,-⟩:=HQ j bY;have Y:∀o,wr.cell? ⟨g,o,za⟩=w.cell? ⟨g,o,za⟩:=λo=>(zo (a:=⟨g,o,za⟩)<|c0.block g (by have:=K3.size;omega) ae).trans<|zo (a:=⟨g,o,za⟩)<|K3.block g u0;obtain⟨b0,d0⟩:∃x:Int,wr.cell? ⟨g,j*3,za⟩=qa (Iv x):=⟨_,(Y _).trans<|(N j bY 0 aD).trans<|congrArg qa q0⟩;obtain⟨j0,d1⟩:∃x:Int,wr.cell? ⟨g,j*3+1,za⟩=qa (Iv x):=⟨_,(Y _).trans<|(N j bY 1 aD).trans<|congrArg qa q1⟩;have d2:wr.cell? ⟨g,j*3+2,za⟩=qa (Sv<|tl vs[j].text):=(Y _).trans<|(N j bY 2 aD).trans<|congrArg qa q2;obtain⟨s,hs⟩:∃s,s=vs[j].text:=⟨_,rfl⟩;have o0:s∉(vs.map (·.text)).take j:=by
    have C:=hd.vn;have e:(vs.map (·.text))=(vs.map (·.text)).take j++(vs.map (·.text)).drop j:=(qv _ _).symm;rw[e,List.nodup_append]at C;intro q;refine C.2.2 s q s ?_ rfl;rw[qs (show j<(vs.map (·.text)).length by simpa using bY),hs];simp
   have r0:((vs.map (·.text)).take j).length=j:=bQ;have X:=Oo o0;have t0:pO s ((vs.map (·.text)).take j)=(vs.map (·.text)).take (j+1):=by
    rw[pO];rw[X.1,if_neg ae,qk (show j<(vs.map (·.text)).length by simpa using bY),hs];simp
   have a0:ix s (pO s ((vs.map (·.text)).take j))=j:=by
    rw[pO];rw[X.1,if_neg ae,X.2,r0]
   have I0:∀W:ca,Bq wr W->aa zi 258 #[Sv<|tl s,Pv kb,Pv fb] W (λe w'=>e=Rv (Fv 182<|Iv<|(j:Int)+1)/\NM w' kb fb (w.heap.size+1) mb ((vs.map (·.text)).take<|j+1)/\Fr (Two (w.heap.size+1) mb) W w'):=λW hb=>by
    refine(Gl (nm.af hb) s (by rw[hs];exact l0) ae).mono ?_;rintro e w'⟨rfl,h2,h3⟩;rw[a0,t0]at*;exact⟨rfl,h2,h3⟩
   rw[<-hs]at d2;have⟨y1,y2,y3,y4⟩:=nm.lt;have⟨n1,n2,n3,n4,n5⟩:=nm.d1;have P4:=ai p4;have RO:=ai ro;obtain⟨x1,x2,x3⟩:=p4;have zp:=x3;have kA:Bq wr (wr.alloc<|Cv #[Iv b0,Iv j0,Sv<|tl s] 92):=bw _;obtain⟨wA,U⟩:∃wA,wA=wr.alloc (Cv #[Iv b0,Iv j0,Sv<|tl s] 92):=⟨_,rfl⟩;have A1:wA.cell? ⟨w2.heap.size,1,za⟩=qa (Lv va j vc):=by rw[U];exact((uh P4).below kA).c 1
   have A2:wA.cell? ⟨wr.heap.size,2,za⟩=qa (Sv<|tl s):=by rw[U];exact(vg wr #[Iv b0,Iv j0,Sv<|tl s] 92).c 2
   rw[<-U]at kA;have KA:=ai kA;clear nm N q0 q1 q2 Y X a0 t0 o0 hs ro kA r0;go_wp2_with fail;rw[<-U];clear U d0 d1 d2 x1 x2;have⟨g0,OW,v0⟩:=uh RO;rw[pk]at OW;have G:=eP OW;have zKA:=(uh KA).size;have x0:¬w2.heap.size=w.heap.size+1:=ae;have y0:¬w2.heap.size=mb:=ae
   go_region_law(first
    |(go_simp;go_at_call 258;go_loud(refine(I0 _ KA.drew).mono ?_);rintro e I⟨rfl,h0,R⟩;have B5:=(P4.below KA.drew).fr R<|λq=>q.elim x0 y0;have A5:I.cell? ⟨w2.heap.size,1,za⟩=qa (Lv va j vc):=B5.c 1;have O5:Hid (I.ownsRow w3.heap.size 105 1 (Lv va j vc) j<|gJ g0 1 j):=ai (rQ OW λg hg=>(R.block g (xq (G g hg).2 KA.drew.size) (λq=>by have:=(G g hg).1;obtain q|q:=q<;>omega)).trans<|KA.drew.block g (G g hg).2);have z0:=ai B5;have A0:=ai h0;have C0:=ai R;have z5:wA.heap.size<=I.heap.size:=R.size;have G1:w2.heap.size<I.heap.size:= ae;clear B5 h0 R;dsimp only)
    |(refine iI rfl (.tmp 27) (.tmp 32) 192 rfl w3.heap.size 105 i0 _ 1 16 eH J0 L0 M0 O0 rfl aD (Lv va j vc) j _ rfl (jD O5<|bw _) ⟨I.heap.size,0,za⟩ 1 1 [Fv 182<|Iv<|(j:Int)+1] rfl rfl (n9 _ _ _ _ ag) qAn VM ae (by simp;have:=KA.size;omega) ?_;intro v6 w6 C O J;obtain⟨q3,c3,rfl⟩:=rS C ae;have Z:=z0.below<|bw<|Cv #[Fv 182<|Iv<|(j:Int)+1] 105;have B6:=Z.same O.size (O.block _ Z.z (λe=>by have:=(G _ e.symm).1;omega));have A6:w6.cell? ⟨w2.heap.size,1,za⟩=qa (Lv va j vc):=B6.c 1;have A7:w6.frozen? ⟨w2.heap.size,1,za⟩=false:=B6.f 1;have D0:=ai B6;have E0:=ai C;have F0:=ai O;have G0:=ai J;clear C O J Z B6))
   all_goals(
    go_wp2
    go_roundg(vs.length-(j+1))
    case measure=>rw[uh E1];omega
    case rel=>
     have kA:=(uh KA).drew;have R:=uh C0;have hg:=uh F0;have k5:Bq I (I.alloc<|Cv #[Fv 182<|Iv<|(j:Int)+1] 105):=bw _;have H0:=(Fr.of k5).grown hg<|λb e=>xj (G b e).1;have zA:=kA.size;refine⟨j+1,qa ⟨q3,0,za⟩,c3,ai rfl,xn bY,iF,((uh A0).fr H0<|λb p=>ae).set ae 1 _,(uh D0).aW 1 _ #[Sv t.text,Lv (qa ⟨q3,0,za⟩) (j+1) c3] rfl ag,?_,?_⟩
     .rw[VH];have PU:=dC.push (Q:=QTy) (et:=105) (sz:=1) (base:=w3.heap.size) (va:=va) (vc:=vc) (L:=vsT j) (w1:=I) (W:=I.alloc<|Cv #[Fv 182<|Iv<|(j:Int)+1] 105) (w3:=w6) (lo:=I.heap.size) (q3:=q3) (c3:=c3) (a:=.var<|j+1) (c:=λ_=>Fv 182<|Iv<|(j:Int)+1) (cs:=g0) iw
       (λi hi=>iw _ _ _ _ _ _ (v0 i hi) ae (λb p z=>(R.block b ae (λq=>by have:=p.1;obtain q|q:=q<;>omega)).trans<|kA.block b z)<|λb p z=>⟨p.1,ae,p.2.2⟩)
       (by have:=eh.var (w:=I) (P:=λb=>I.heap.size<=b)<|j+1;show eh _ _ _ _;simpa using this) ae (λb e=>by rw[pk]at e;have:=(G b e).2;omega) k5 (by rw[pk];exact uh E0) (by rw[pk];exact hg) (by rw[pk];exact uh G0)
      exact PU.fB iw BL (λb h1 h2=>zu _ _ _ _ (by show b≠w2.heap.size;omega))
     .have Fa:=(c0.trans<|Fr.of kA).trans<|R.fU λi q=>q.elim xj<|λr=>xk<|xj r
      exact((Fa.trans<|Fr.of k5).grown hg<|λb e=>xk (G b e).1).set (xj<|xk<|xk rfl) 1 _)
  .obtain⟨wx,hx⟩:∃wx,wx=wr:=⟨_,rfl⟩;subst hx;have F1:=nN bY;have ej:j=vs.length:=ae;subst ej;rw[show(vs.map (·.text)).take vs.length=vs.map (·.text)from by rw[List.take_of_length_le];simp]at nm;have I0:=ro.ty hd.up;rw[pk]at I0;have zp:=p4.z;obtain⟨wm,j0⟩:∃wm,wm=wx.alloc (.map #[] 0):=⟨_,rfl⟩;have km:Bq wx wm:=by rw[j0];exact bw _
   have zm:wm.heap.size=wx.heap.size+1:=by rw[j0];simp
   have Q0:mI wm (λi=>w.heap.size<=i/\i≠w.heap.size+1/\i≠mb/\i≠wx.heap.size) wx.heap.size (ja t vs (ms.take 0) λ_=>za):=(by rw[j0];exact⟨[],MG.new _ wx,λ_ _=>rfl,λx v h=>qBg⟩);have kr:=c0.lo K3 (λx q=>ae) K3.size;have BD:=(B3.fr c0 ae).below km;have⟨b1,b2,b3⟩:=B3.fr c0 ae;have R0:=nm.af km;have S0:=p4.below km;have T0:eh wm (λi=>w.heap.size<=i/\i≠w.heap.size+1/\i≠mb/\i≠wx.heap.size) (jv t vs) (Fv 194<|Av #[Sv t.text,Lv va vs.length vc]):=(I0.move km.size (λb _ z=>km.block b z)<|λb p z=>⟨ae,ae,ae,ae⟩);have KM:=kr.trans<|km.mono kr.size;have⟨n1,n2,n3,n4,n5⟩:=nm.d1;have hml:=hd.ml;clear nm p4 ro I0 km kr;go_wp2_with fail;rw[<-j0];clear j0 b1 b2 b3;go_loopg[40] ms.length (λgk v wq=>aic wm w.heap.size w2.heap.size wx.heap.size kb fb (w.heap.size+1) mb t vs ms va vc gk v wq)
   case atStart=>exact⟨0,ai ag,xt _,rfl,R0,S0,T0,Q0,Fr.refl _ _⟩
   case round=>
    clear R0 S0 T0 Q0;obtain⟨i,U0,hi,rfl,nm,p4,V0,r0,l0⟩:=hrel;have zq:=l0.size;by_cases N:i<ms.length
    .have W0:=kK N;have ai6:(0:Int)<=(i:Int):=ae;obtain⟨wq,hx⟩:∃wq,wq=wr:=⟨_,rfl⟩;subst hx;have⟨s,n,L,f',u',a',X0,hLl,Y0⟩:=hd.mt i N;obtain⟨gm,rfl,hPm,H1,Z0⟩:=t1.resolve_left (λe=>by subst e;simp at N);have⟨s2,m2,L2,f2,t2,a2,y2,vL,e0,e1,e2,e3,e4,e5,e6,I1,J1,L1⟩:=u1 i N;have M1:=X0.symm.trans e0;injection M1 with q1 q2 q3 q4 q5 q6 q7;subst q2 q4;obtain⟨la,lc,el,rfl,N1,a1⟩:=L1;have Y:∀o,wq.cell? ⟨gm,o,za⟩=w.cell? ⟨gm,o,za⟩:=λo=>(zo (a:=⟨gm,o,za⟩)<|l0.block gm (by have:=KM.size;omega) ae).trans<|zo (a:=⟨gm,o,za⟩)<|KM.block gm H1;have cq:=λj hj=>(Y _).trans<|Z0 i N j hj;have d0:=cq 0 aD;have d1:=cq 1 aD;have d2:=cq 2 aD;have d3:=cq 3 aD;have d4:=cq 4 aD;have d5:=cq 5 aD;rw[e1,Nat.add_zero]at d0;rw[e2]at d1;rw[e3]at d2;rw[e4]at d3;rw[e5]at d4;rw[e6]at d5;have⟨w8,c1,k8,z8,B8,M8⟩:=aaW wq #[Nv f2,Nv t2,Nv a2,Nv y2,Sv s,Lv la L.length lc] #[Lv za 0 0,Fv 194<|Av #[Sv t.text,Lv va vs.length vc]] 175 361;have f1:=nm.af k8;have NMq:=ai nm;have O1:=ai p4;have K8:=ai k8;have P1:=ai a1;have zpq:=p4.z;have R1:=r0.lt;have⟨v1,v2,v3,v4⟩:=nm.lt;obtain⟨x1,x2,x3⟩:=p4;clear nm k8 a1 e0 e1 e2 e3 e4 e5 e6 q1 q3 q5 q6 q7 Y Z0 I1 J1 cq;go_wp2_with fail;rw[<-c1];clear c1 d0 d1 d2 d3 d4 d5 x1 x2 x3
     go_loopg[50] L.length (λgk v wr=>aid w8 (wq.heap.size+1) kb fb (w.heap.size+1) mb vs L (Fv 194<|Av #[Sv t.text,Lv va vs.length vc]) gk v wr)
     case atStart=>exact⟨0,za,0,ai ag,xt _,rfl,f1,M8,by simpa[Ot]using dC.nil QTy 105 1 w8 w8.heap.size,Fr.refl _ _⟩
     case round=>
      clear f1 M8;obtain⟨k,a0,b0,i1,hk,rfl,j1,P10,ro,F8⟩:=hrel;have zr:=F8.size;by_cases U:k<L.length
      .have l1:=kK U;have ai7:(0:Int)<=(k:Int):=ae;obtain⟨gl,rfl,hPl,S1,m1⟩:=N1.resolve_left (λe=>by subst e;simp at U);have o0:=(l0.lo KM (λx q=>ae) KM.size).trans ((uh K8).mono (by have:=KM.size;omega));have o1:wr.cell? ⟨gl,k,za⟩=qa (el k 0):=by
        rw[zo (a:=⟨gl,k,za⟩) (w:=w8)<|F8.block gl (by have:=o0.size;omega) ae,zo (a:=⟨gl,k,za⟩) (w:=w)<|o0.block gl S1];simpa using m1 k U 0 aD
       have⟨p1,r1,T1⟩:=Y0 k U;have t0:PT wr (λb=>P b/\b<w.heap.size) L[k] (el k 0):=(show PT w P L[k] (el k 0)from uh P1 k U).move (by have:=o0.size;omega) (λb p z=>(F8.block b (by have:=o0.size;omega) ae).trans<|o0.block b z)<|λb p z=>⟨p,z⟩;have⟨tv,xv,ev⟩:=t0.dI;rw[ev]at o1 t0;have U1:(vs.map (·.text)).length<=2000:=bQ;have V1:∀W:ca,Bq wr W->aa zi 241 #[Fv tv<|Av xv,nmV kb fb] W (λe w'=>∃tu xu,e=Rv (Fv tu xu)/\eh w' (λb=>W.heap.size<=b) (bm (vs.map (·.text)) L[k]).1 (Fv tu xu)/\NM w' kb fb (w.heap.size+1) mb (vs.map (·.text))/\Fr (Two (w.heap.size+1) mb) W w'):=λW hb=>by
        refine(agq L[k] p1 W kb fb (w.heap.size+1) mb (vs.map (·.text)) (λb=>P b/\b<w.heap.size) _ (j1.af hb) (t0.af hb) (λb q=>ae) (by rw[r1];exact U1)).mono ?_;rintro e w'⟨uu,rfl,h2,h3,X⟩;obtain⟨tu,xu,rfl⟩:=h2.iface;rw[r1]at h3;exact⟨tu,xu,rfl,h2,h3,X⟩
       have W1:=ai F8;have A1:=P10.c 0;have zp:=P10.z;obtain⟨g0,OW,v0⟩:=ro;have X:=aaV (ns:=vs.map (·.text)) hk;rw[X]at OW;have G:=eP OW;have X1:=ai X;have x0:¬wq.heap.size+1=w.heap.size+1:=ae;have y0:¬wq.heap.size+1=mb:=ae;clear F8 m1 t0 p1 T1 ev X;go_wp2_with fail;clear o1
       go_region_law(first
        |(go_simp;go_at_call 241;go_loud(refine(V1 _ (zt _ _).drew).mono ?_);rintro e I⟨tu,xu,rfl,u0,h0,R⟩;have B5:=(P10.below (zt _ _).drew).fr R<|λq=>q.elim x0 y0;have A5:I.cell? ⟨wq.heap.size+1,0,za⟩=qa (Lv a0 k b0):=B5.c 0;have O5:Hid (I.ownsRow w8.heap.size 105 1 (Lv a0 k b0) k<|gJ g0 1 k):=ai (rQ OW λg hg=>R.block g (G g hg).2 (λq=>by have:=(G g hg).1;obtain q|q:=q<;>omega));have z0:=ai B5;have A0:=ai h0;have C0:=ai R;have Y1:=ai u0;have z5:wr.heap.size<=I.heap.size:=R.size;have G1:wq.heap.size+1<I.heap.size:= ae;clear B5 h0 R u0;dsimp only)
        |(refine iI rfl (.tmp 55) (.tmp 59) 192 rfl w8.heap.size 105 i0 _ 1 16 eH J0 L0 M0 O0 rfl aD (Lv a0 k b0) k _ rfl (jD O5<|bw _) ⟨I.heap.size,0,za⟩ 1 1 [Fv tu xu] rfl rfl (n9 _ _ _ _ ag) qAn VM ae bQ ?_;intro v6 w6 C O J;obtain⟨q3,c3,rfl⟩:=rS C ae;have Z:=z0.below<|bw<|Cv #[Fv tu xu] 105;have B6:=Z.same O.size (O.block _ Z.z (λe=>by have:=(G _ e.symm).1;omega));have A6:w6.cell? ⟨wq.heap.size+1,0,za⟩=qa (Lv a0 k b0):=B6.c 0;have A7:w6.frozen? ⟨wq.heap.size+1,0,za⟩=false:=B6.f 0;have D0:=ai B6;have E0:=ai C;have F0:=ai O;have G0:=ai J;clear C O J Z B6))
       all_goals(
        go_wp2
        go_roundg(L.length-(k+1))
        case measure=>rw[uh i1];omega
        case rel=>
         have R:=uh C0;have hg:=uh F0;have k5:Bq I (I.alloc<|Cv #[Fv tu xu] 105):=bw _;have H0:=(Fr.of k5).grown hg<|λb e=>xj (G b e).1;have X:=uh X1;refine⟨k+1,qa ⟨q3,0,za⟩,c3,ai rfl,xn U,iF,((uh A0).fr H0<|λb p=>ae).set ae 0 _,(uh D0).aW 0 _ #[Lv (qa ⟨q3,0,za⟩) (k+1) c3,Fv 194<|Av #[Sv t.text,Lv va vs.length vc]] rfl ag,?_,?_⟩
         .rw[VL U];have u0:=uh Y1;have PU:=dC.push (Q:=QTy) (et:=105) (sz:=1) (base:=w8.heap.size) (va:=a0) (vc:=b0) (L:=Ot (vs.map λv:zx=>v.text)<|L.take k) (w1:=I) (W:=I.alloc<|Cv #[Fv tu xu] 105) (w3:=w6) (lo:=wr.heap.size) (q3:=q3) (c3:=c3) (a:=(bm (vs.map λv:zx=>v.text) L[k]).1) (c:=λ_=>Fv tu xu) (cs:=g0) iw
           (λi hi=>iw _ _ _ _ _ _ (v0 i hi) z5 (λb p z=>R.block b z (λq=>by have:=p.1;obtain q|q:=q<;>omega))<|λb p z=>⟨p.1,ae,p.2.2⟩)
           u0 ae (λb e=>by rw[X]at e;exact(G b e).2) k5 (by rw[X];exact uh E0) (by rw[X];exact hg) (by rw[X];exact uh G0)
          exact PU.fB iw BL (λb h1 h2=>zu _ _ _ _ (by show b≠wq.heap.size+1;omega))
         .have Fa:Fr (λi=>i=w.heap.size+1\/i=mb\/i=wq.heap.size+1) w8 I:=((uh W1).trans<|Fr.of (zt _ _).drew).trans<|R.fU λi q=>q.elim xj<|λr=>xk<|xj r
          exact((Fa.trans<|Fr.of k5).grown hg<|λb e=>xk (G b e).1).set (xj<|xk<|xk rfl) 0 _)
      .have l1:=nN U;have ek:k=L.length:=ae;subst ek;rw[qp]at ro;have G:(Ot (vs.map (·.text)) L).length=L.length:=by simp[Ot]
       have k8:=uh K8;have C:∀b,(w.heap.size<=b/\b≠w.heap.size+1/\b≠mb/\b≠wx.heap.size)->b<wq.heap.size->wr.heap[b]? =wq.heap[b]? :=λb p z=>(F8.block b ae ae).trans<|k8.block b z;have MV:Vf wr (λi=>w.heap.size<=i/\i≠w.heap.size+1/\i≠mb/\i≠wx.heap.size) (Ot (vs.map (·.text)) L) (jv t vs) (Av #[Lv a0 L.length b0,Fv 194<|Av #[Sv t.text,Lv va vs.length vc]]):=⟨a0,b0,_,_,by rw[G],ro.aib.move (br _) (λ_ _ _=>rfl)<|λb p z=>⟨ae,ae,ae,ae⟩,V0.move ae C<|λ_ p _=>p⟩;have O:=r0.move ae ((F8.block _ ae ae).trans<|k8.block _ R1) C<|λ_ p _=>p;have R:=V0.move ae C<|λ_ p _=>p;have X:=(O1.below k8).fr F8 ae;have Z:=((l0.trans<|Fr.of k8).gR F8 (λb q=>by obtain q|q|q:=q;exact xj<|xj q;exact xj<|xk<|xj q;exact xk ae));obtain⟨x1,x2,x3⟩:=P10;have⟨y1,y2,y3⟩:=B8.fr F8 ae;have I:In.yu (vs.map (·.text)) ms[i]=Ot (vs.map (·.text)) L/\qe ms[i]=s:=(by rw[X0];exact⟨congrArg Prod.fst<|VK λk hk=>(Y0 k hk).2,rfl⟩);clear ro F8 k8 C;go_wp2_with(refine gc rfl _ _ _ (xk rfl) rfl O (λq=>q.2.2.2 rfl) MV s rfl rfl ?_;intro w9 H' O';have M9:=ai H';have O9:=ai O';clear H' O');go_roundg(ms.length-(i+1))
       case measure=>rw[uh U0];omega
       case rel=>
        have o:=uh O9;have J:Fr (λb=>b=wx.heap.size) wr w9:=⟨o.os,o.tape,o.output,Vg,λb _ hb=>o.block b hb⟩;refine⟨i+1,ai rfl,xn N,iF,j1.fr J (λb p=>by subst p;omega),X.fr J ae,R.move J.size (λb p z=>J.block b z p.2.2.2)<|λ_ p _=>p,?_,Z.trans<|J.fU λb q=>xk<|xk q⟩;rw[qk N,yt,I.1,I.2];exact uh M9
    .have W0:=nN N;have C:i=ms.length:=ae;subst C;rw[qp]at r0;have G:∃b,Rv (Mv wx.heap.size)=Rv (Mv b)/\Bq w wr/\w.heap.size<=b/\mI wr (λi=>w.heap.size<=i) b (ja t vs ms λ_=>za):=⟨_,rfl,l0.lo KM (λx q=>ae) KM.size,ae,r0.move (br _) rfl (λ_ _ _=>rfl) (λb p _=>p.1)⟩;clear nm p4
     go_wp2
     go_ret;exact G
def lz(a b:jf):jf:=λy=>match a y with
 |some c=>qa c|none=>b y
def u_(t:zx)(vs:List zx)(mk:jf):∀(ms:List Nd)(a:jf),ja t vs ms (lz a mk)=lz (ja t vs ms a) mk
 |[],_=>rfl|m::r,a=>by
  show ja t vs r _=lz (ja t vs r _) mk;rw[<-u_ t vs mk r];congr 1;funext y;unfold lz;by_cases q:y=qe m
  .simp[q]
  .simp[q]
def yv(t:zx)(vs:List zx)(mk:jf)ms:ja t vs ms mk=lz (ja t vs ms λ_=>za) mk:=u_ t vs mk ms λ_=>za
open Classical in
noncomputable def ovM (o r:jf) (i:List BA) (x:BA):Option (List Ty×Ty):=if x∈i then lz o r x else r x
def ad2 P b1 b2(r o:jf)L w gk wr:=
 ∃done,IG zy wr w.heap.size b2 L done gk/\mI wr P b1 (ovM o r done)/\Fr (λi=>i=b1) w wr
def Ou{m1 m2'}(h1:mI w P b1 m1)(h2:mI w P b2 m2')(hP:¬P b1)(d0:∀x,P x->x<w.heap.size)(hn:b1≠b2):
 aa zi 228 #[Mv b1,Mv b2] w λe w'=>e=.returned (.tuple #[])/\mI w' P b1 (lz m2' m1)/\Fr (λi=>i=b1) w w':=by
 have l1:=h1.lt;have l2:=h2.lt;obtain⟨L,m2,q1,q2⟩:=h2;obtain⟨o,cnt,hrg,lJ⟩:=m2.range rP;have X:Bq w (w.alloc o):=bw _;have Y:=ai lJ;have H1:=h1.move X.size (X.block _ h1.lt) (λb _ z=>X.block b z)<|λ_ p _=>p;have K1:=ai X;have Q:=And.intro q1 q2;go_wp2
 go_loopg[] cnt (λgk wr=>ad2 P b1 b2 m1 m2' L w gk wr)
 case atStart=>
  refine⟨[],Y,?_,Fr.of K1⟩;have e:ovM m2' m1 []=m1:=by funext x;simp[ovM]
  rw[e];exact H1
 case round=>
  obtain⟨C,Y,HE,J⟩:=hrel;have HF:=ai J;have hiz:=Y.lt;have zr:=J.size;rcases Y.next (P:=zi) str_inj with⟨ha,a0⟩|⟨x,u,w2,N,hxd,b0,a0,O,R,c0,Bu,hen⟩
  .go_wp2
   go_end0;refine⟨rfl,?_,HF⟩;have e:ovM m2' m1 C=lz m2' m1:=by
    funext y;unfold ovM;by_cases q:y∈C
    .rw[if_pos q]
    .rw[if_neg q];have:m2' y=za:=by
      cases hg:ba y L with
      |none=>exact Q.1 y hg|some v=>exact absurd (ha _ v hg) q
     simp only[lz,this]
   rw[<-e];exact HE
  .obtain⟨tk,m,EC,hc⟩:=Q.2 x u b0;have I:=c0;have nP:∀i,P i->¬i=w.heap.size:=λi hi e=>by have:=d0 i hi;omega
   have E2:=HE.move I.size (I.block _ HE.lt ae) (λi p z=>I.block i z<|nP i p)<|λ_ p _=>p;have c2:=(hc.move (w':=wr) zr (λi p z=>HF.block i z<|λe=>hP<|e▸p)<|λ_ p _=>p).move (w':=w2) (Q:=P) ae (λi p z=>I.block i z<|nP i p)<|λ_ p _=>p;obtain⟨sa,sc,ta,xa,rfl,t1,t2⟩:=c2;have G:Bq w2 (w2.alloc<|.cells #[.slice sa tk.length sc,.iface ta xa] 361):=bw _;have E3:=E2.move G.size (G.block _ E2.lt) (λb _ z=>G.block b z)<|λ_ p _=>p;have C3:=(Vf.move ⟨sa,sc,ta,xa,rfl,t1,t2⟩ G.size (λb _ z=>G.block b z)<|λ_ p _=>p);have I3:=O.same (G.block b2 ae)<|G.block w.heap.size ae;have K3:=ai G;go_wp2_with(refine gc rfl _ _ _ (xk rfl) rfl E3 hP C3 x rfl rfl ?_;intro w4 H' O';have S4:=ai H';have O4:=ai O';clear H' O');go_roundg N
   case measure=>exact R
   case rel=>
    have o:=uh O4;have U:=uh K3;have Z:=I;refine⟨x::C,I3.same (o.block b2<|z9 hn)<|o.block _ ae,?_,?_⟩
    .have e:ovM m2' m1 (x::C)=λy=>if y=x then qa (tk,m)else ovM m2' m1 C y:=by
      funext y;by_cases q:y=x
      .subst q;simp[ovM,lz,EC]
      .simp only[ovM,if_neg q];by_cases r:y∈C
       .rw[if_pos<|ql _ r,if_pos r]
       .rw[if_neg<|λh=>(List.mem_cons.1 h).elim q r,if_neg r]
     rw[e];exact S4
    .have J:=uh HF;refine⟨o.os.trans<|U.os.trans<|Z.os.trans J.os,o.tape.trans<|U.tape.trans<|Z.tape.trans J.tape,o.output.trans<|U.output.trans<|Z.output.trans J.output,by rw[o.size];have:=U.size;omega,λi hi hni=>?_⟩;rw[o.block i hni,U.block i ae,Z.block i ae ae,J.block i hi hni]
def MG.agr{L L'}(h:MG zy w b L)(J:MG zy w b L'):L=L':=by
 obtain⟨es,c,C,G,_⟩:=h;obtain⟨es',c',i,o,_⟩:=J;rw[C]at i;injection i with i;injection i with I e2;subst I;have e:=G.symm.trans o;have:∀(L L':List (BA×ia)),L.map (λp=>(Sv p.1,p.2))=L'.map (λp=>(Sv p.1,p.2))->L=L':=by
  intro L
  induction L with
  |nil=>intro L' e;cases L' with|nil=>rfl|cons=>simp at e
  |cons p r ih=>
   intro L' e
   cases L' with
   |nil=>simp at e|cons p' r'=>
    simp only[List.map_cons,List.cons.injEq,Prod.mk.injEq,Value.string.injEq]at e;rw[ih r' e.2,Prod.ext e.1.1 e.1.2]
 exact this L L' e
def WE.rm{cnt}(h:WE w c cnt):c.rb≠c.mb/\c.mb≠c.eb/\c.rb≠c.eb:=by
 refine⟨λe=>?_,λe=>?_,λe=>?_⟩
 .have⟨L,i,g1,_⟩:=h.rs;have⟨L',o,_,g2⟩:=h.ms;rw[e]at i;rw[i.agr o]at g1;have⟨tk,m,_,sa,sc,ta,xa,q,_⟩:=g2 _ _ g1
  cases q
 .have⟨L,hM,_⟩:=h.ms;exact xF
 .have⟨L,hM,_⟩:=h.rs;exact xF
def Ov{p:Prop}(h:p:=by
 induction h with
 |var n=>exact .var n|aM c L sa sc vs hc bK hr ih=>
  refine .aM c L sa sc vs hc ?_ ih;obtain h0|⟨g,h1,h2,h3,h4⟩:=bK
  .exact xj h0
  .by_cases h0:L=[]
   .exact xj h0
   .refine xk ⟨g,h1,⟨h2,λe=>?_⟩,h3,h4⟩;have q:=h4 0<|List.length_pos_iff.2 h0;rw[e,hb]at q
    cases q):p:=h
def eh.rT{t:Ty}(h:eh w P t v)(hb:w.cell? ⟨b,0,za⟩=za):eh w (λi=>P i/\i≠b) t v:=by
 exact Ov
def mI.rT{w}{P}{mb b}{mk}(h:mI w P mb mk)(C:w.cell? ⟨b,0,za⟩=za):mI w (λi=>P i/\i≠b) mb mk:=by
 obtain⟨L,J,N,O⟩:=h;refine⟨L,J,N,λk v hk=>?_⟩;obtain⟨tk,m,e,sa,sc,R,U,rfl,o,q2⟩:=O k v hk;refine⟨tk,m,e,sa,sc,R,U,rfl,?_,q2.rT C⟩;obtain o|⟨g,vs,X,Y,Z,r⟩:=o
 .exact xj o
 .by_cases G:tk=[]
  .exact xj G
  .refine xk ⟨g,vs,X,⟨Y,λe=>?_⟩,Z,λi hi=>⟨(r i hi).1,(r i hi).2.rT C⟩⟩;have⟨I,_⟩:=r 0<|List.length_pos_iff.2 G;rw[e,C]at I
   cases I
def dq.rT{t:Ty}(h:dq w P t v)(hb:w.cell? ⟨b,0,za⟩=za):dq w (λi=>P i/\i≠b) t v:=by
 exact Ov
def bW.rT{w}{P}{nb b}{Γ}(h:bW w P nb Γ)(I:w.cell? ⟨b,0,za⟩=za):bW w (λi=>P i/\i≠b) nb Γ:=by
 obtain⟨L,J,N,O⟩:=h;refine⟨L,J,N,λk v hk=>?_⟩;obtain⟨d,e,R,U,sa,sc,rfl,⟨⟨X,Y,q2⟩,Z⟩,o⟩:=O k v hk;refine⟨d,e,R,U,sa,sc,rfl,⟨⟨X,Y.rT I,q2⟩,Z⟩,?_⟩;obtain o|⟨g,r1,r2,r3,r⟩:=o
 .exact xj o
 .by_cases C:d.any=[]
  .exact xj C
  .refine xk ⟨g,r1,⟨r2,λe=>?_⟩,r3,r⟩;have G:=r 0<|List.length_pos_iff.2 C;rw[e,I]at G
   cases G
def WT.VN{cnt}{fU}(h:WT w c cnt u Γ)(C:c.nb≠c.mb)(r:Fr (λi=>i=c.mb) w w')(G:WE w' {c with mks:=mks,fU:=fU} cnt):WT w' {c with mks:=mks,fU:=fU} cnt u Γ:=by
 have⟨L,o,_⟩:=h.we.ms;exact⟨G,(h.e.rT<|o.bE 0).move r.size (r.block _ h.e.lt C) (λb p z=>r.block b z p.2)<|λb p _=>p.1,h.n,h.hu,h.top,h.dm⟩
section
variable {cnt:Nat}
abbrev VO(c:WC)(t:zx)(vs:List zx)ms fU:={c with mks:=ja t vs ms c.mks,fU:=fU}
def Sw(h:WT w c cnt u Γ){t}{f x}(hv:RowV QName 3 w P vs vv)(hm:RowV QMaker 6 w P ms vm)(hd:TdF t vs ms):
 aa zi 218 #[Pv c.eb,.agg #[Iv f,Iv x,Nv t.ah,Nv t.to,.string t.text,vv,vm]] w (λe w'=>e=.returned (.tuple #[])/\Fr (λi=>i=c.mb) w w'/\WE w' (VO c t vs ms w'.heap.size) cnt):=by
 obtain⟨w0,r⟩:∃w0,w0=w.alloc (Cv #[Iv f,Iv x,Nv t.ah,Nv t.to,Sv t.text,vv,vm] 96):=⟨_,rfl⟩;have R:Bq w w0:=by rw[r];exact bw _
 have I:Bx w0 w.heap.size #[Iv f,Iv x,Nv t.ah,Nv t.to,Sv t.text,vv,vm]:=by rw[r];exact vg w #[Iv f,Iv x,Nv t.ah,Nv t.to,Sv t.text,vv,vm] 96
 have C:=h.we.af R;have⟨r1,r2,r3⟩:=h.we.rm;have⟨d1,d2,d3⟩:=h.we.d;have⟨l1,l2,l3,l4,l5⟩:=h.we.l;have zz0:w0.heap.size=w.heap.size+1:=by rw[r];simp
 have Z:∀W:ca,Bq w0 W->aa zi 229 #[Av #[Iv f,Iv x,Nv t.ah,Nv t.to,Sv t.text,vv,vm]] W (λe w'=>∃b,e=Rv (Mv b)/\Bq W w'/\W.heap.size<=b/\mI w' (λi=>W.heap.size<=i) b (ja t vs ms λ_=>za)):=λW hb=>by
  have o:=R.trans<|hb.mono R.size;exact Gk (hv.move eI o.size (λb _ z=>o.block b z)<|λ_ p _=>p) (hm.move cS o.size (λb _ z=>o.block b z)<|λ_ p _=>p) hd
 have a0:∀(W:ca)(b:Nat),Bq w0 W->w0.heap.size<=b->mI W (λi=>w0.heap.size<=i) b (ja t vs ms λ_=>za)->aa zi 228 #[Mv c.mb,Mv b] W (λe w'=>e=Rv (.tuple #[])/\mI w' (λi=>i≠c.cb/\i≠c.mb/\i<W.heap.size) c.mb (ja t vs ms c.mks)/\Fr (λi=>i=c.mb) W w'):=λW b hb hz hM=>by
  rw[yv];have o:=C.af hb;have⟨L,G,_⟩:=o.ms;have zb:=hM.lt;have zs:=hb.size;have J:mI W (λi=>i≠c.cb/\i≠c.mb/\i<W.heap.size) c.mb c.mks:=(o.ms.rT<|G.bE 0).move (br _) rfl (λ_ _ _=>rfl) (λi p z=>⟨p.1.1,p.2,z⟩);have N:mI W (λi=>i≠c.cb/\i≠c.mb/\i<W.heap.size) b (ja t vs ms λ_=>za):=hM.move (br _) rfl (λ_ _ _=>rfl) (λi p z=>⟨qBv,qBv,z⟩);exact Ou J N (λq=>q.2.1 rfl) (λi p=>p.2.2) ae
 have f0:=C.bx.c 2;have g0:=I.c 0;have g1:=I.c 1;have g2:=I.c 2;have g3:=I.c 3;have g4:=I.c 4;have g5:=I.c 5;have g6:=I.c 6;obtain⟨pa,pc,cs,rfl,U,hq⟩:=hv;obtain⟨ma,mc,ds,rfl,N,b0⟩:=hm;have c0:¬w.heap.size=c.mb:=ae;clear h U hq N b0;go_in;go_wp;rw[<-r];clear r
 go_region_held3(λw'=>w'.cell? ⟨c.eb,2,za⟩=qa (Mv c.mb)/\w'.cell? ⟨w.heap.size,0,za⟩=qa (Iv f)/\w'.cell? ⟨w.heap.size,1,za⟩=qa (Iv x)/\w'.cell? ⟨w.heap.size,2,za⟩=qa (Nv t.ah)/\w'.cell? ⟨w.heap.size,3,za⟩=qa (Nv t.to)/\w'.cell? ⟨w.heap.size,4,za⟩=qa (Sv t.text)/\w'.cell? ⟨w.heap.size,5,za⟩=qa (Lv pa vs.length pc)/\w'.cell? ⟨w.heap.size,6,za⟩=qa (Lv ma ms.length mc)) (first|go_keep|(simp[*])) (first
  |(go_at_call 229;go_loud(refine(Z _ (zt _ _).drew).mono ?_);rintro e w2⟨b,rfl,O,z2,hM⟩;have o:=(zt _ _).drew.trans O;have G:=I.below o;have s0:w2.cell? ⟨c.eb,2,za⟩=qa (Mv c.mb):=(C.af o).bx.c 2;have s1:w2.cell? ⟨w.heap.size,0,za⟩=qa (Iv f):=G.c 0;have s2:w2.cell? ⟨w.heap.size,1,za⟩=qa (Iv x):=G.c 1;have s3:w2.cell? ⟨w.heap.size,2,za⟩=qa (Nv t.ah):=G.c 2;have s4:w2.cell? ⟨w.heap.size,3,za⟩=qa (Nv t.to):=G.c 3;have s5:w2.cell? ⟨w.heap.size,4,za⟩=qa (Sv t.text):=G.c 4;have s6:w2.cell? ⟨w.heap.size,5,za⟩=qa (Lv pa vs.length pc):=G.c 5;have s7:w2.cell? ⟨w.heap.size,6,za⟩=qa (Lv ma ms.length mc):=G.c 6;have Y:=ai o;have J:Hid (w0.heap.size<=b):=ai z2;have X:Hid (mI w2 (λi=>w0.heap.size<=i) b<|ja t vs ms λ_=>za):=ai hM;clear O o z2 hM G)
  |(go_at_call 228;go_loud(refine(a0 _ _ Y J X).mono ?_);rintro e o⟨rfl,X,G⟩;have J:=(I.below Y).fr G c0;have t0:o.cell? ⟨c.eb,2,za⟩=qa (Mv c.mb):=((C.af Y).bx.fr G<|z9 r2).c 2;have t1:o.cell? ⟨w.heap.size,0,za⟩=qa (Iv f):=J.c 0;have t2:o.cell? ⟨w.heap.size,1,za⟩=qa (Iv x):=J.c 1;have t3:o.cell? ⟨w.heap.size,2,za⟩=qa (Nv t.ah):=J.c 2;have t4:o.cell? ⟨w.heap.size,3,za⟩=qa (Nv t.to):=J.c 3;have t5:o.cell? ⟨w.heap.size,4,za⟩=qa (Sv t.text):=J.c 4;have t6:o.cell? ⟨w.heap.size,5,za⟩=qa (Lv pa vs.length pc):=J.c 5;have t7:o.cell? ⟨w.heap.size,6,za⟩=qa (Lv ma ms.length mc):=J.c 6;have M3:=ai X;have d0:=ai G;clear X G J))
 go_wp2
 go_end0;have G:=uh d0;have O:=uh Y;have J:=C.af O;have z3:=G.size;have z2:=O.size;refine⟨rfl,(Fr.of<|R.trans<|O.mono R.size).trans G,⟨J.bx.fr G<|z9 r2,J.ct.fr G<|z9 d3,J.rs.same<|G.block _ J.rs.lt r1,?_,⟨d1,d2,d3⟩,⟨by show c.eb<o.heap.size;omega,by show c.cb<o.heap.size;omega,by show c.rb<o.heap.size;omega,by show c.mb<o.heap.size;omega,br _⟩⟩⟩;exact M3.move (br _) rfl (λ_ _ _=>rfl) (λi p _=>⟨p.1,by show i<o.heap.size;omega⟩)
end
def BN:aa zi 47 #[] w λe w'=>e=.returned (Mv w.heap.size)/\tU w' w.heap.size/\Bq w w'/\w'.heap.size=w.heap.size+1:=by
 have i:=MG.new zy w;have N:Bq w (w.alloc<|.map #[] 0):=bw _;have o:(w.alloc<|.map #[] 0).heap.size=w.heap.size+1:=by simp
 have r:=ai N;go_in;go_wp2_with((refine cz Oq Gm rfl _ _ _ (Or.inl rfl) rfl i _ _ rfl rfl ?_;clear i;intro w' G C;have i:=ai G;have I:=r;have J:=o;clear r o;have r:=ai (One.below I C<|by exact br _);have o:=ai<|C.size.trans J;clear G C I J));go_ret;refine⟨rfl,⟨_,i,?_,?_,?_,?_⟩,r,o⟩;all_goals(simp only[aO];rfl)
def ad3 nl:aa zi 31 #[] w λe w'=>∃c:WC,e=.returned (Pv c.eb)/\Bq w w'/\WT w' c 0 (λ_=>False) (λ_=>za)/\c.nb≠c.mb/\c.mks=(λ_=>za)/\c.nl=nl/\w.heap.size<=c.cb/\w.heap.size<=c.eb/\w.heap.size<=c.mb:=by
 go_in;go_wp;refine(Du).mono ?_;rintro e w1⟨rfl,o⟩;have N:Bq w w1:=by rw[o];exact bw _
 have Z:Bx w1 w.heap.size #[Iv 0]:=by rw[o];exact vg w #[Iv 0] 3
 have z1:w1.heap.size=w.heap.size+1:=by rw[o];simp
 have K1:=ai N;clear o N;go_wp2_with fail;refine(BN).mono ?_;rintro e w2⟨rfl,R2,O,z2⟩;have K2:=ai O;clear O
 go_wp2
 go_ret;obtain⟨i,r⟩:∃i,i=w2.alloc (.map #[] 0):=⟨_,rfl⟩;obtain⟨C,G⟩:∃C,C=i.alloc (.map #[] 0):=⟨_,rfl⟩;have k3:Bq w2 i:=by rw[r];exact bw _
 have k4:Bq i C:=by rw[G];exact bw _
 have z3:i.heap.size=w2.heap.size+1:=by rw[r];simp
 have z4:C.heap.size=i.heap.size+1:=by rw[G];simp
 have O:=uh K2;have N:=uh K1;have m3:MG Sv i (w.heap.size+2) []:=by rw[r,show w.heap.size+2=w2.heap.size by omega];exact MG.new _ w2
 have m4:MG Sv C (w.heap.size+3) []:=by rw[G,show w.heap.size+3=i.heap.size by omega];exact MG.new _ i
 rw[<-r,<-G];obtain⟨J,I⟩:∃J,J=C.alloc (Cv #[.func (.func 71) #[] #[Pv w.heap.size],Mv<|w.heap.size+1,Mv<|w.heap.size+2,Mv<|w.heap.size+3] 146):=⟨_,rfl⟩;have k5:Bq C J:=by rw[I];exact bw _
 have z5:J.heap.size=w.heap.size+5:=by rw[I];simp;omega
 have b5:Bx J (w.heap.size+4) #[.func (.func 71) #[] #[Pv w.heap.size],Mv<|w.heap.size+1,Mv<|w.heap.size+2,Mv<|w.heap.size+3]:=by
  have:=vg C #[.func (.func 71) #[] #[Pv w.heap.size],Mv<|w.heap.size+1,Mv<|w.heap.size+2,Mv<|w.heap.size+3] 146;rw[<-I,show C.heap.size=w.heap.size+4 by omega]at this;exact this
 have z1:w1.heap.size=w.heap.size+1:=ae;have R:=k4.trans<|k5.mono k4.size;have U:=k3.trans<|R.mono k3.size;have X:=O.trans<|U.mono O.size;have kk:=N.trans<|X.mono N.size;have Y:∃c:WC,Rv (Pv<|w.heap.size+4)=Rv (Pv c.eb)/\Bq w J/\WT J c 0 (λ_=>False) (λ_=>za)/\c.nb≠c.mb/\c.mks=(λ_=>za)/\c.nl=nl/\w.heap.size<=c.cb/\w.heap.size<=c.eb/\w.heap.size<=c.mb:=by
  refine⟨⟨w.heap.size+4,w.heap.size,w.heap.size+1,w.heap.size+2,w.heap.size+3,w.heap.size+5,λ_=>za,nl⟩,rfl,kk,⟨⟨b5,Z.below X,?_,⟨[],m3.same<|R.block _ ae,λ_ _=>rfl,λx v h=>qBg⟩,?_,?_⟩,⟨[],m4.same<|k5.block _ ae,λ_ _=>rfl,λx v h=>qBg⟩,?_,λn q=>q.elim,(λy d q=>iP),λx q=>absurd rfl q⟩,?_,rfl,rfl,?_,?_,?_⟩
  .have:=R2.same (w':=J)<|U.block _ ae
   rwa[z1]at this
  all_goals(dsimp only;omega)
 rw[I]at Y;exact Y
structure Oth(x:ia):Prop where
 i:∀a y,x≠.iface a y
 n:∀n:Nat,1<=n->x≠Nv n
 p:∀q,x≠.pointer q
def bW.other{x:ia}(h:bW w P nb Γ)(hv:∀y d,Γ y=qa d->∀n∈d.any,1<=n)(J:w.cell? ⟨b,0,za⟩=qa x)(N:Oth x):bW w (λi=>P i/\i≠b) nb Γ:=by
 obtain⟨L,O,R,U⟩:=h;refine⟨L,O,R,λk v hk=>?_⟩;obtain⟨d,e,X,Y,sa,sc,rfl,⟨⟨Z,q1,q2⟩,q4⟩,r⟩:=U k v hk;refine⟨d,e,X,Y,sa,sc,rfl,⟨⟨Z,q1.not J N.i,q2⟩,q4⟩,?_⟩;obtain r|⟨g,r1,r2,r3,C⟩:=r
 .exact xj r
 .by_cases G:d.any=[]
  .exact xj G
  .refine xk ⟨g,r1,⟨r2,λeg=>?_⟩,r3,C⟩;have I:=List.length_pos_iff.2 G;have o:=C 0 I;rw[eg,J]at o;injection o with o;exact N.n _ (hv k d e _<|qm I) o
def gS{enc}{b'}{L:List (κ×ia)}{x:ia}(h:MG enc w b' L)(i:w.cell? ⟨b,0,za⟩=qa x):b'≠b:=λe=>by
 have:=h.bE 0;rw[e,i]at this
 cases this
def WT.other{w w'}{c}{cnt}{u}{Γ}{b}{x}(h:WT w c cnt u Γ)(C:b≠c.cb/\b≠c.eb)(o:w.cell? ⟨b,0,za⟩=qa x)(G:Oth x)(f:Fr (λi=>i=b) w w'):WT w' c cnt u Γ:=by
 have⟨Lr,I,_⟩:=id h.we.rs;have⟨Lm,J,_⟩:=id h.we.ms;have⟨Ln,r,_⟩:=id h.e;have N:=gS I o;have nm:=gS J o;have nn:=gS r o;have⟨O,R,U,X,l5⟩:=h.we.l;have hz:=f.size;refine⟨⟨h.we.bx.fr f<|z9 C.2,h.we.ct.fr f<|z9 C.1,h.we.rs.same<|f.block _ h.we.rs.lt N,(h.we.ms.not o G.i).move f.size (f.block _ h.we.ms.lt nm) (λi p z=>f.block i z p.2)<|λi p _=>p.1,h.we.d,O,R,U,X,ae⟩,?_,h.n,h.hu,h.top,h.dm⟩;refine(h.e.other ?_ o G).move f.size (f.block _ h.e.lt nn) (λi p z=>f.block i z p.2) (λi p _=>p.1);intro y d q n Y;exact(h.hu n<|(h.top.env y d q).use n<|(h.top.env y d q).sub n Y).1
end
def dNm:Dc->List BA
 |.ty _ _ _=>[]|.lt _ t b=>t.text::nO b
structure PG(nl:List BA)(l:List Dc)e(mks:jf):Prop where
 d3:∀d∈l,D3 d
 ml:∀d∈l,MkL d
 ok:(fQ iy l e).f.kind=0
 has:rU e.mks mks
 Dq:MkFine mks
 nm:∀d∈l,∀s∈dNm d,s∈nl
 sz:Dv l<=802
def VP{u:Sy}{ty:BA->Option Nat}{own:List BA}:∀(ms:List Nd)(q:(BA->Option Nat)×Fl),(xG u ty own ms q).2.kind=0->q.2.kind=0
 |[],q,h=>h|.mk _ s _ L _ _ a::r,q,h=>by
  rw[xG]at h;exact(cZ aD<|yw L _<|VP r _ h).2
def ags{u:Sy}:∀(d:Dc)(e:SE),(Ow u d e).f.kind=0->e.f.kind=0
 |.ty t vs ms,e,h=>(cZ aD (LU<|VP ms _ h).1).2|.lt r t b,e,h=>lR b _ _ h
def LV{u:Sy}:∀(l:List Dc)(e:SE),(fQ u l e).f.kind=0->e.f.kind=0
 |[],e,h=>h|d::r,e,h=>ags d e<|LV r _ h
def wQ.up{s:BA}(h:wQ s):p_ s:=by
 obtain⟨x,r,i,o,_⟩:=h;exact⟨x,r,i,o⟩
def VQ.quo{s:BA}(h:VQ s):Ve s:=by
 obtain⟨x,r,i,_⟩:=h;exact⟨_,i⟩
def n_ d l:Dv (d::l)=AY d+Dv l:=by simp[Dv]
def Sz{m}(h:m∈ms):nn m<=cr ms:=by
 induction ms with
 |nil=>simp at h|cons x l ih=>
  simp only[cr];obtain e|e:=List.mem_cons.1 h
  .subst e;omega
  .have:=ih e;omega
def PG.ty{nl}{t}{vs}{ms}{r}{e}{mks}(h:PG nl (.ty t vs ms::r) e mks):TdF t vs ms/\PG nl r (Ow iy (.ty t vs ms) e) (ja t vs ms mks):=by
 have⟨X,d2,d3,d4,Y⟩:=h.d3 _<|qn ..;have N:=h.ml _<|qn ..;have o:=h.ok;have Z:=LV r _ o;have⟨k1,k2,k3⟩:=VR t vs Y Z h.has;have⟨_,v2,_⟩:=LU k1;have G:=h.sz;rw[n_]at G;simp only[AY]at G;have hm1:=mJ ms;refine⟨⟨X.up,v2,ae,λv hv=>(d3 v hv).1.quo,ae,λi hi=>?_⟩,⟨λd hd=>h.d3 d<|by simp[hd],λd hd=>h.ml d<|by simp[hd],o,k2,h.Dq.add X N k3,λd hd=>h.nm d<|by simp[hd],ae⟩⟩;have⟨s,L,f,u,a,I,g⟩:=k3 _<|qm hi;have hn:=Sz<|qm hi;rw[I]at hn;simp only[nn]at hn;have hl:=mJ L;refine⟨s,0,L,f,u,a,I,ae,λk hk=>⟨g.ty ae k hk,?_⟩⟩;have⟨s',L',f',u',a',C,_,_,g3⟩:=Y _<|qm hi;rw[I]at C;injection C with _ _ _ eL _ _ _;subst eL;obtain⟨z,O⟩:∃z,(rV (iy e.ty t.text vs.length) (vs.map (·.text)) L[k] z).kind=0:=by
  have R:∀{ms:List Nd}{q:(BA->Option Nat)×Fl},(xG iy (iy e.ty t.text vs.length) (vs.map (·.text)) ms q).2.kind=0->Nd.mk 2 s 0 L f u a∈ms->∃z,(iJ (iy e.ty t.text vs.length) (vs.map (·.text)) L z).kind=0:=by
   intro ms
   induction ms with
   |nil=>grind|cons x l ih=>
    intro q J hm;obtain U|U:=List.mem_cons.1 hm
    .subst U;rw[xG]at J;exact⟨_,VP l _ J⟩
    .cases x
     rw[xG]at J;exact ih J U
  have⟨z,G⟩:=R Z<|I▸qm hi;exact oa G _<|qm hk
 have J:=LW (g3 _<|qm hk) z O;exact⟨J.st,J.es⟩
def PG.lt{t}{b}{r}{e}(h:PG nl (.lt rc t b::r) e mks):t.text∈nl/\1+nn b+Dv r<=802/\ScE mks nl (λv=>v∈e.nm\/(rc=true/\v=t.text)) b/\PG nl r (Ow iy (.lt rc t b) e) mks:=by
 have⟨d1,d2,G,d4⟩:=h.d3 _<|qn ..;have i:=h.ok;have I:(dV e.ty e.mks b (if rc then e.nm++[t.text]else e.nm) e.f).kind=0:=LV r _ i;have o:=h.sz;rw[n_]at o;simp only[AY]at o;have C:∀s∈t.text::nO b,s∈nl:=h.nm _<|qn ..;refine⟨C _<|qn ..,ae,?_,⟨λd hd=>h.d3 d<|by simp[hd],λd hd=>h.ml d<|by simp[hd],i,h.has,h.Dq,λd hd=>h.nm d<|by simp[hd],ae⟩⟩;refine ad4 h.has G _ _ I (λs hs=>C s<|by simp[hs]) ae _ λs hs=>?_
 cases rc with
 |true=>
  obtain q|q:=List.mem_append.1 hs
  .exact xj q
  .grind
 |false=>exact xj hs
def PG.init{s:BA}(o:¬400<s.size){l}(h:bq s=.ok l)(G:(fQ iy l yx).f.kind=0):PG (l.flatMap dNm) l yx (λ_=>za)/\(l.flatMap dNm).length<=802:=by
 have i:=po o;have C:=SA o;rw[h]at i C;refine⟨⟨i.1,C,G,LX,Gn,λd hd s o=>List.mem_flatMap.2 ⟨d,hd,o⟩,i.2⟩,xm ?_ i.2⟩;clear h i C G
 induction l with
 |nil=>simp|cons d l ih=>
  rw[List.flatMap_cons,g_,n_];have:(dNm d).length<=AY d:=by
   cases d with
   |ty t vs ms=>simp[dNm]|lt r t b=>simp only[dNm,eG,Gp,AY];omega
  omega
def ad5:VS rG 2:=⟨aD,λ_=>rfl,.inl rfl⟩
def ad6:VS pq 2:=⟨aD,λ_=>rfl,.inr<|.inl rfl⟩
def ob:∀{L:List Nd},(∀x∈L,∀ns,Wf (bm ns<|es x).1)->∀ns,Dw (aJ ns<|bB L).1/\(aJ ns<|bB L).1.length=L.length
 |[],_,ns=>⟨trivial,rfl⟩|x::L,h,ns=>by
  have⟨i,o⟩:=ob (L:=L) (λy hy=>h y<|by simp[hy]) (bm ns<|es x).2;simp only[bB,aJ];exact⟨⟨h x ag ns,i⟩,by simp[o]⟩
def qN.wf(h:qN nd):∀ns,Wf (bm ns<|es nd).1:=by
 induction h with
 |var s n f t a h1 h2 h3=>intro ns;simp[es,bm,Wf]|up s n L f t a h1 h2 h3 h4 ih=>
  intro ns;have⟨g1,g2⟩:=ob (L:=L) ih ns;simp[es,bm,pP,Wf];exact⟨h1.VS h2 _,g1⟩
 |pr x y f t a h1 h2 bu cW=>
  intro ns
  have⟨g1,g2⟩:=ob (L:=[x,y]) (λu hu=>by
   simp only[xh,qw,or_false]at hu;obtain rfl|rfl:=hu
   .exact bu
   .exact cW) ns
  simp only[es,bm,pP];simp only[show(6:Nat)≠16 by decide,show(6:Nat)≠17 by decide,if_false,if_true];exact⟨by rw[g2];exact ad6,g1⟩
 |fn x y f t a h1 h2 bu cW=>
  intro ns
  have⟨g1,g2⟩:=ob (L:=[x,y]) (λu hu=>by
   simp only[xh,qw,or_false]at hu;obtain rfl|rfl:=hu
   .exact bu
   .exact cW) ns
  simp only[es,bm,pP];simp only[show(17:Nat)≠16 by decide,if_false,if_true];exact⟨by rw[g2];exact ad5,g1⟩
def VT:∀{L:List Nd},(∀x∈L,jm x)->In.NWL L
 |[],_=>trivial|x::L,h=>⟨h x ag,VT λy hy=>h y<|by simp[hy]⟩
def ac0{s:BA}{a:Nat}(i:k≠14)(h:∀x∈L,jm x):jm (.mk k s n L f t a):=⟨λe=>absurd e i,VT h⟩
def od{s:BA}{a:Nat}{y}(i:k≠14)(o:jm x)(r:jm y):jm (.mk k s n [x,y] f t a):=⟨λe=>absurd e i,o,r,trivial⟩
def VU{s:BA}{a:Nat}(i:k≠14)(o:jm x):jm (.mk k s n [x] f t a):=⟨λe=>absurd e i,o,trivial⟩
def fZ{s:BA}{a:Nat}(i:k≠14):jm (.mk k s n [] f t a):=⟨λe=>absurd e i,trivial⟩
def qN.nw(h:qN nd):jm nd:=by
 induction h with
 |var s n f t a h1 h2 h3=>exact fZ aD|up s n L f t a h1 h2 h3 h4 ih=>exact ac0 aD ih|pr x y f t a h1 h2 bu cW=>exact od aD bu cW|fn x y f t a h1 h2 bu cW=>exact od aD bu cW
def tH.nw(h:tH nd):jm nd:=by
 induction h with
 |any=>exact fZ aD|low=>exact fZ aD|num=>exact fZ aD|word=>exact fZ aD|unit=>exact fZ aD|pr x y f t a h1 h2 bu cW=>exact od aD bu cW|up s n L f t a h1 h2 h3 h4 ih=>exact ac0 aD ih
def Gq:∀{A:List (Nd×Nd)},(∀p∈A,jm p.1)->(∀p∈A,jm p.2)->In.NWL (aN A)
 |[],_,_=>trivial|(p,e)::A,h,k=>⟨h (p,e) ag,k (p,e) ag,Gq (λq hq=>h q<|by simp[hq]) λq hq=>k q<|by simp[hq]⟩
def gT.nw{nd}(h:gT nd):jm nd:=by
 induction h with
 |low=>exact fZ aD|up=>exact fZ aD|num=>exact fZ aD|word=>exact fZ aD|unit=>exact fZ aD|pr x y f t a _ _ bu cW=>exact od aD bu cW|of x y f t a _ hy bu=>exact⟨λ_=>hy.wf [],bu,hy.nw,trivial⟩|op s x y f t a _ _ _ bu cW=>exact od aD bu cW|call x y f t a _ _ bu cW=>exact od aD bu cW|fn s x f t a _ _ _ ih=>exact VU aD ih|lt s x z f t a _ _ _ _ bu qA=>exact od aD bu qA|ltr s s' x z f t a f' t' a' _ _ _ _ _ _ bu qA=>exact od aD (VU aD bu) qA|ite x y w f t a _ _ _ bu cW ihw=>exact⟨λe=>absurd e aD,bu,cW,ihw,trivial⟩|mt x A f t a _ _ hp _ bu ihA=>exact⟨λe=>absurd e aD,bu,Gq (λp hq=>(hp p hq).nw) ihA⟩
def MF.add{t:zx}{vs:List zx}(o:wQ t.text)(C:t.text.size<=400):∀{ms:List Nd}{mks:jf},In.MF mks->(∀m∈ms,Dx qN m)->In.MF (ja t vs ms mks)
 |[],mks,h,_=>h|m::r,mks,h,hm=>by
  refine MF.add o C (ms:=r) ?_ λx hx=>hm x (by simp[hx]);obtain⟨s,L,f,u,a,rfl,g1,g2,G⟩:=hm m ag;intro x tk I q;simp only at q;split at q
  .injection q with q;injection q with J q2;subst J q2;refine⟨(ob (L:=L) (λy hy=>(G y hy).wf) _).1,o.VS C _,?_⟩;have:∀(l:List Nat),Dw<|l.map λi=>Ty.var<|i+1:=by
    intro l
    induction l with
    |nil=>trivial|cons x l ih=>exact⟨trivial,ih⟩
   exact this _
  .exact h x tk I q
def VV{t}(h:Wf t):Wf (jx t):=In.oe h λ_=>In.Dy
section
open Go.ChangeMaps
def mK(f:Fl)(l r:BA)(sa:Option Addr)(n c:Nat):ia:=.agg #[Nv f.kind,Nv f.ah,Nv f.to,.string l,.string r,.slice sa n c,.slice za 0 0]
def SC(z:qh):BA:=if z.f.kind=6 then bs (wr dec (vars [] z.l) z.l 0)else bs []
def SF(z:qh):BA:=if z.f.kind=6 then bs (wr dec (vars (vars [] z.l) z.r) z.r 0)else bs []
def SG(i:z.f.kind=7)sa n c:
 aa zi 34 #[mK lA (bs []) (bs []) sa n c,AX z.f .nilIface .nilIface] w λe w'=>e=.returned (mK z.f (SC z) (SF z) sa n c)/\Bq w w':=by
 have o:SC z=bs []:=by simp[SC,i]
 have r:SF z=bs []:=by simp[SF,i]
 rw[o,r];unfold mK;rw[i];simp only[lA];go_in;go_wp;refine bodyPost_ret (v:=mK ⟨7,z.f.ah,z.f.to⟩ (bs []) (bs []) sa n c) (by simp[results,Tryz.results34,go_sem,mK]) rfl ⟨rfl,?_⟩;exact((bw _).alloc ag _).alloc bQ _
def SH(Y:z.f.kind=6)(hf:qM w (λ_=>True) z vl vr)(hz:In.FtF z)sa n c:
 aa zi 34 #[mK lA (bs []) (bs []) sa n c,AX z.f vl vr] w λe w'=>e=.returned (mK z.f (SC z) (SF z) sa n c)/\Bq w w':=by
 have hl:SC z=bs (wr dec (vars [] z.l) z.l 0):=by simp[SC,Y]
 have hr:SF z=bs (wr dec (vars (vars [] z.l) z.r) z.r 0):=by simp[SF,Y]
 rw[hl,hr];have⟨⟨wl,zl⟩,a0,zr⟩:=hz.six Y;have⟨tl,tr⟩:=hf.apart Y;have O:=rW z.l [];have ai8:=rW z.r<|vars [] z.l;simp only[nM]at O;have HT:∀W:ca,Bq w W->eh W (λb=>b<w.heap.size) z.l vl/\eh W (λb=>b<w.heap.size) z.r vr:=λW k=>⟨tl.move k.size (λb _ q=>k.block b q) λ_ _ q=>q,tr.move k.size (λb _ q=>k.block b q) λ_ _ q=>q⟩;obtain⟨Z,xa,rfl⟩:=tl.iface;obtain⟨tb,xb,rfl⟩:=tr.iface;unfold mK;rw[Y];simp only[lA];obtain⟨C,N⟩:∃C,C=((w.alloc<|Cv #[Iv 6,Nv z.f.ah,Nv z.f.to,Sv<|bs [],Sv<|bs [],Lv sa n c,Lv za 0 0] 38).alloc<|Cv #[Iv 6,Nv z.f.ah,Nv z.f.to,Fv Z xa,Fv tb xb] 107).alloc (Cv #[Iv 0,Iv 0,Iv 0,Sv ⟨#[]⟩,Sv ⟨#[]⟩,Lv za 0 0,Lv za 0 0] 38):=⟨_,rfl⟩;have K0:Bq w C:=by rw[N];exact((bw _).alloc ag _).alloc bQ _
 have R0:Bx C w.heap.size #[Iv 6,Nv z.f.ah,Nv z.f.to,Sv<|bs [],Sv<|bs [],Lv sa n c,Lv za 0 0]:=by rw[N];exact((vg w _ _).alloc _).alloc _
 have F0:Bx C (w.heap.size+1) #[Iv 6,Nv z.f.ah,Nv z.f.to,Fv Z xa,Fv tb xb]:=by rw[N];have:=(vg (w.alloc<|Cv #[Iv 6,Nv z.f.ah,Nv z.f.to,Sv<|bs [],Sv<|bs [],Lv sa n c,Lv za 0 0] 38) #[Iv 6,Nv z.f.ah,Nv z.f.to,Fv Z xa,Fv tb xb] 107).alloc<|Cv #[Iv 0,Iv 0,Iv 0,Sv ⟨#[]⟩,Sv ⟨#[]⟩,Lv za 0 0,Lv za 0 0] 38;simpa using this
 have Z0:Bx C (w.heap.size+1+1) #[Iv 0,Iv 0,Iv 0,Sv ⟨#[]⟩,Sv ⟨#[]⟩,Lv za 0 0,Lv za 0 0]:=by rw[N];have:=vg ((w.alloc<|Cv #[Iv 6,Nv z.f.ah,Nv z.f.to,Sv<|bs [],Sv<|bs [],Lv sa n c,Lv za 0 0] 38).alloc<|Cv #[Iv 6,Nv z.f.ah,Nv z.f.to,Fv Z xa,Fv tb xb] 107) #[Iv 0,Iv 0,Iv 0,Sv ⟨#[]⟩,Sv ⟨#[]⟩,Lv za 0 0,Lv za 0 0] 38;simpa using this
 have zW:C.heap.size=w.heap.size+3:=by rw[N];simp
 go_in;go_wp;rw[<-N];refine Ox.mono ?_;rintro e w1⟨cb,nb,mb,rfl,G,R,hm1,i,o⟩;have K1:=K0.trans<|o.mono K0.size;have I:=R0.below o;have F1:=F0.below o;have b0:=Z0.below o;have c0:cb≠w.heap.size:=λe=>by have J:=G.c 0;rw[e,I.c 0]at J;simp at J
 have d0:nb≠w.heap.size:=λe=>by have J:=R.bk.c 0;rw[e,I.c 0]at J;simp at J
 have hs1:=o.size;have J:=Dz (HT w1 K1).1 (λb p=>by have:b<w.heap.size:=p;omega) R G i wl zl ae;have S1:=K1.size;have e0:=ai F1;obtain⟨f1,f2,f3⟩:=F1;go_wp2_with fail;refine J.mono ?_;rintro e w2⟨rfl,N2,U⟩;have K2:=Fr.yz K1 K1.size U (λx q=>by subst q;omega);have R2:=I.fr U (by show ¬w.heap.size=mb;omega);have X:=e0.fr U (by show ¬w.heap.size+1=mb;omega);have Z2:=b0.fr U (by show ¬w.heap.size+1+1=mb;omega);have C2:=G.fr U (by show ¬cb=mb;exact i);have f0:=R2.qO 3 (Sv<|bs<|wr dec (vars [] z.l) z.l 0) #[Iv 6,Nv z.f.ah,Nv z.f.to,Sv<|bs<|wr dec (vars [] z.l) z.l 0,Sv<|bs [],Lv sa n c,Lv za 0 0] ag ag;have K3:=K2.setCell (p:=⟨w.heap.size,3,za⟩) (br _)<|Sv<|bs<|wr dec (vars [] z.l) z.l 0;have Fa3:=X.nQ (b2:=w.heap.size) ae 3<|Sv<|bs<|wr dec (vars [] z.l) z.l 0;have g0:=Z2.nQ (b2:=w.heap.size) ae 3<|Sv<|bs<|wr dec (vars [] z.l) z.l 0;have C3:=C2.nQ (b2:=w.heap.size) c0 3<|Sv<|bs<|wr dec (vars [] z.l) z.l 0;have N3:=N2.set (b:=w.heap.size) (z9 d0) ae 3<|Sv<|bs<|wr dec (vars [] z.l) z.l 0;have J:=Dz (HT _ K3).2 (λb p=>by have:b<w.heap.size:=p;omega) N3 C3 i a0 zr ae;obtain⟨r1,r2,r3⟩:=R2;obtain⟨f1,f2,f3⟩:=X;go_wp2_with fail;refine J.mono ?_;rintro e w4⟨rfl,N4,F4⟩;have K4:=Fr.yz K3 K3.size F4 (λx q=>by subst q;omega);have R4:=f0.fr F4 (by show ¬w.heap.size=mb;omega)
 have Z4:=g0.fr F4 (by show ¬w.heap.size+1+1=mb;omega);have R5:=R4.qO 4 (Sv<|bs<|wr dec (vars (vars [] z.l) z.r) z.r 0) #[Iv 6,Nv z.f.ah,Nv z.f.to,Sv<|bs<|wr dec (vars [] z.l) z.l 0,Sv<|bs<|wr dec (vars (vars [] z.l) z.r) z.r 0,Lv sa n c,Lv za 0 0] ag ag;have K5:=K4.setCell (p:=⟨w.heap.size,4,za⟩) (br _)<|Sv<|bs<|wr dec (vars (vars [] z.l) z.r) z.r 0;have Z5:=Z4.nQ (b2:=w.heap.size) ae 4<|Sv<|bs<|wr dec (vars (vars [] z.l) z.r) z.r 0;obtain⟨r1,r2,r3⟩:=R4;obtain⟨q1,q2,q3⟩:=Z4;go_wp2_with fail;have⟨p1,p2,p3⟩:=Z5.SI rfl (Iv 6) (Nv z.f.ah) (Nv z.f.to) (Sv<|bs<|wr dec (vars [] z.l) z.l 0) (Sv<|bs<|wr dec (vars (vars [] z.l) z.r) z.r 0) (Lv sa n c) (Lv za 0 0);refine bodyPost_ret (v:=Av #[Iv 6,Nv z.f.ah,Nv z.f.to,Sv<|bs<|wr dec (vars [] z.l) z.l 0,Sv<|bs<|wr dec (vars (vars [] z.l) z.r) z.r 0,Lv sa n c,Lv za 0 0]) (by simp[results,Tryz.results34,go_sem,p1]) rfl ⟨rfl,?_⟩;exact(((((((K5.setCell (p:=⟨w.heap.size+1+1,0,za⟩) bQ _).setCell (p:=⟨w.heap.size+1+1,1,za⟩) bQ _).setCell (p:=⟨w.heap.size+1+1,2,za⟩) bQ _).setCell (p:=⟨w.heap.size+1+1,3,za⟩) bQ _).setCell (p:=⟨w.heap.size+1+1,4,za⟩) bQ _).setCell (p:=⟨w.heap.size+1+1,5,za⟩) bQ _).setCell (p:=⟨w.heap.size+1+1,6,za⟩) bQ _)
def SK(o:qM w (λ_=>True) z vl vr)(r:In.FtF z)sa n c:
 aa zi 34 #[mK lA (bs []) (bs []) sa n c,AX z.f vl vr] w λe w'=>e=.returned (mK z.f (SC z) (SF z) sa n c)/\Bq w w':=by
 obtain i|i:=o.k
 .exact SH i o r sa n c
 .obtain⟨rfl,rfl⟩:=o.p9 i;exact SG i sa n c
end
section
open Go.ChangeMaps Go.MapKept
structure KpI lo base(w w':ca):Prop where
 os:w'.os=w.os
 tape:w'.tape=w.tape
 output:w'.output=w.output
 size:w.heap.size<=w'.heap.size
 low:∀b,b<w.heap.size->b<lo->w'.heap[b]? =w.heap[b]?
 box:∀b x,b<w.heap.size->base<=b->w.cell? ⟨b,0,za⟩=qa x->(∀q,x≠.pointer q)->w'.heap[b]? =w.heap[b]?
def KpI.of{lo:Nat}(f:Fr S w w')(i:∀b,S b->lo<=b)(o:∀b x,S b->base<=b->w.cell? ⟨b,0,za⟩=qa x->¬∀q,x≠.pointer q):KpI lo base w w':=
 ⟨f.os,f.tape,f.output,f.size,λb hb hl=>f.block b hb λq=>by have:=i b q;omega,λb x hb hl hx ho=>f.block b hb λq=>o b x q hl hx ho⟩
def KpI.bx{lo:Nat}{C}{x}(k:KpI lo base w w')(h:Bx w b C)(i:base<=b)(o:C[0]? =qa x)(r:∀q,x≠.pointer q):Bx w' b C:=h.same k.size (k.box b x h.z i (by rw[h.c 0];exact o) r)
def ad7(S:ca->Nat->jf->jc->jh->Prop)lo base rs cnt(mks:jf)(s:jc)(Γ:jh)rc st a y x w(e:ka)w':=KpI lo base w w'/\∃o,jl rc st x (jk mks x) Γ s o/\match o with
 |.error z=>∃vl vr,e=.returned (.tuple #[.nilIface,AX z.f vl vr])/\qM w' (λ_=>True) z vl vr
 |.ok (t,s1)=>(48<size (sub s1.k t)/\e=.returned (.tuple #[.nilIface,AX ⟨7,a,y⟩ .nilIface .nilIface]))\/
  (size (sub s1.k t)<=48/\∃T ta xa aR,T=(if jq x then sub s1.k t else jx (sub s1.k t))/\e=.returned (.tuple #[.iface ta xa,.agg Ls])/\eh w' (λ_=>True) T (.iface ta xa)/\aR<=cnt+1000*(1+nn x)+48/\S w' aR mks (In.nxt rs s1) (jt Γ st ⟨T,vars [] T⟩))
structure VW ty eb lo base rs nl(S:ca->Nat->jf->jc->jh->Prop):Prop where
 af:∀{w w':ca}{cnt:Nat}{mks:jf}{s:jc}{Γ:jh},S w cnt mks s Γ->Bq w w'->S w' cnt mks s Γ
 oth:∀{w w':ca}{cnt:Nat}{mks:jf}{s:jc}{Γ:jh}{b:Nat}{x:ia},S w cnt mks s Γ->base<=b->w.cell? ⟨b,0,za⟩=qa x->Oth x->Fr (λi=>i=b) w w'->S w' cnt mks s Γ
 mks:∃fn,(∀w,(method 557 ty (.pointer<|some ⟨eb,0,za⟩) "Makers").run Tryz.prog w=.ok (fn,.pointer<|some ⟨eb,0,za⟩) w)/\(∀(args:Array ia)(w:ca),(callFunc fn args).run Tryz.prog w=.ok (.enter fn args) w)/\∀{w:ca}{cnt:Nat}{mks:In.Mks}{s:In.St}{Γ:In.Env}{t:Pu.Tok}{vs:List Pu.Tok}{ms:List Nd}{f x:Int}{vv vm:ia},S w cnt mks s Γ->RowV QName 3 w (·<lo) vs vv->RowV QMaker 6 w (·<lo) ms vm->TdF t vs ms->
  aa zi fn #[Pv eb,.agg #[Iv f,Iv x,Nv t.ah,Nv t.to,.string t.text,vv,vm]] w (λe w'=>e=.returned (.tuple #[])/\KpI lo base w w'/\S w' cnt (ja t vs ms mks) s Γ)
 lts:∃fn,(∀w,(method 557 ty (.pointer<|some ⟨eb,0,za⟩) "Let").run Tryz.prog w=.ok (fn,.pointer<|some ⟨eb,0,za⟩) w)/\(∀(args:Array ia)(w:ca),(callFunc fn args).run Tryz.prog w=.ok (.enter fn args) w)/\∀{w:ca}{cnt:Nat}{mks:In.Mks}{s:In.St}{Γ:In.Env}{rc:Bool}{st:BA}{x:Nd}{v:ia}{a y:Nat}{dom:BA->Prop},S w cnt mks s Γ->PE w (·<lo) x v->ScE mks nl (fun v=>dom v\/(rc=true/\v=st)) x->(∀x,dom x->Γ x≠za)->st∈nl->cnt+1000*(1+nn x)<=850000->1+nn x<=805->MkFine mks->
  aa zi fn #[Pv eb,.agg #[.bool rc,Nv a,Nv y,.string st,v]] w (ad7 S lo base rs cnt mks s Γ rc st a y x w)
structure JC where
 (eb cb rb mb lo fU:Nat)
 mks:jf
 nl:List BA
abbrev SL(c:JC)nb l:=#[.func (.func 71) #[] #[Pv c.cb],Mv c.rb,Mv c.mb,Mv nb,Nv l]
structure JE w c nb l cnt:Prop where
 bx:Bx w c.eb (SL c nb l)
 ct:Bx w c.cb #[Nv cnt]
 rs:tU w c.rb
 ms:mI w (λi=>i≠c.cb/\i<c.fU) c.mb c.mks
 z:c.lo<=c.eb/\c.lo<=c.cb/\c.fU<=w.heap.size
section
variable {c:JC} {cnt:Nat}
def GL.qB{nx}{vr}{lv}(h:GL w ds str nx vr ly lv)(i:n∈ds):∃p,w.cell? ⟨n,0,za⟩=qa (.pointer p):=by
 have:=(h.nd n i).cells.1
 cases e:nx n with
 |none=>rw[e]at this;exact⟨za,this⟩|some m=>rw[e]at this;exact⟨_,this⟩
def JE.yA(h:JE w c nb l cnt)(j:JS w g s):¬c.eb∈g.ds:=λq=>by
 have⟨p,i⟩:=j.gl.qB q;have:=h.bx.c 0;rw[i]at this;simp at this
def JE.yB(h:JE w c nb l cnt)(j:JS w g s):¬c.cb∈g.ds:=λq=>by
 have⟨p,i⟩:=j.gl.qB q;have:=h.ct.c 0;rw[i]at this;simp at this
def JE.ne(h:JE w c nb l cnt):c.eb≠c.cb/\c.rb≠c.cb/\c.rb≠c.eb/\c.mb≠c.cb/\c.mb≠c.eb:=by
 have⟨L,i,_⟩:=h.rs;have⟨L',o,_⟩:=h.ms;have a:=h.bx.c 0;have b:=h.ct.c 0;refine⟨λe=>?_,λe=>?_,λe=>?_,λe=>?_,λe=>?_⟩
 .grind
 .rw[<-e,i.bE 0]at b;simp at b
 .rw[<-e,i.bE 0]at a;simp at a
 .rw[<-e,o.bE 0]at b;simp at b
 .rw[<-e,o.bE 0]at a;simp at a
def JE.mL(h:JE w c nb l cnt)(j:JS w g s):¬c.rb∈g.ds/\¬c.mb∈g.ds:=by
 have⟨L,o,_⟩:=h.rs;have⟨L',r,_⟩:=h.ms;refine⟨λq=>?_,λq=>?_⟩
 .have⟨p,i⟩:=j.gl.qB q;rw[o.bE 0]at i
  cases i
 .have⟨p,i⟩:=j.gl.qB q;rw[r.bE 0]at i
  cases i
def eh.SM{t}(h:eh w P t v)(O:∀b,S b->∀a y,w.cell? ⟨b,0,za⟩≠qa (.iface a y)):eh w (λi=>P i/\¬S i) t v:=by
 induction h with
 |var n=>exact .var n|aM c L sa sc vs hc bK hr ih=>
  refine .aM c L sa sc vs hc ?_ ih;obtain o|⟨g,I,J,N,C⟩:=bK
  .exact xj o
  .by_cases o:L=[]
   .exact xj o
   .refine xk ⟨g,I,⟨J,λe=>?_⟩,N,C⟩;have G:=List.length_pos_iff.2 o;have⟨a,y,r⟩:=(hr 0 G).iface;exact O g e a y (by rw[C 0 G,r])
def mI.SM{P S:Nat->Prop}{mb}{mk}(h:mI w P mb mk)(G:∀b,S b->∀a y,w.cell? ⟨b,0,za⟩≠qa (.iface a y)):mI w (λi=>P i/\¬S i) mb mk:=by
 obtain⟨L,J,N,O⟩:=h;refine⟨L,J,N,λk v hk=>?_⟩;obtain⟨tk,m,e,sa,sc,R,U,rfl,o,q2⟩:=O k v hk;refine⟨tk,m,e,sa,sc,R,U,rfl,?_,q2.SM G⟩;obtain o|⟨g,vs,X,Y,Z,C⟩:=o
 .exact xj o
 .by_cases I:tk=[]
  .exact xj I
  .have hl:=List.length_pos_iff.2 I;refine xk ⟨g,vs,X,⟨Y,λe=>?_⟩,Z,λi hi=>⟨(C i hi).1,(C i hi).2.SM G⟩⟩;have⟨q7,q8⟩:=C 0 hl;have⟨a,y,r⟩:=q8.iface;exact G g e a y (by rw[q7,r])
abbrev jS(c:JC)(g:gD)b:=b=c.cb\/b=c.eb\/b∈g.ds
def JE.fr(h:JE w c nb l cnt)(j:JS w g s)(i:Fr (jS c g) w w'){aR}(O:Bx w' c.eb (SL c Vs l'))(hc:Bx w' c.cb #[Nv aR]):JE w' c Vs l' aR:=by
 have⟨n1,r,C,G,I⟩:=h.ne;have⟨J,N⟩:=h.mL j;refine⟨O,hc,h.rs.same<|i.block _ h.rs.lt<|λq=>q.elim r<|λq=>q.elim C J,?_,⟨h.z.1,h.z.2.1,xm h.z.2.2 i.size⟩⟩;refine(h.ms.SM (S:=jS c g) ?_).move i.size (i.block _ h.ms.lt<|λq=>q.elim G<|λq=>q.elim I N) (λb p z=>i.block b z p.2) (λb p _=>p.1);rintro b(rfl|rfl|q)a y e
 .have:=h.ct.c 0;rw[e]at this;simp at this
 .have:=h.bx.c 0;rw[e]at this;simp at this
 .have⟨p,o⟩:=j.gl.qB q;rw[e]at o
  cases o
def JE.af(h:JE w c nb l cnt)(i:Bq w w'):JE w' c nb l cnt:=⟨h.bx.below i,h.ct.below i,h.rs.same<|i.block _ h.rs.lt,h.ms.move i.size (i.block _ h.ms.lt) (λb _ z=>i.block b z)<|λ_ p _=>p,⟨h.z.1,h.z.2.1,xm h.z.2.2 i.size⟩⟩
def Gs v l:aa zi 313 #[Iv v,Iv l] w λe w'=>e=.returned (nA w.heap.size)/\w'=w.alloc (.cells #[.pointer za,Iv l,Iv v,.string ⟨#[]⟩,.slice za 0 0] 426):=by
 go_wp2
 go_ret;exact⟨rfl,rfl⟩
def DA b l a n k:aa zi 303 #[.string b,Iv l,.slice a n k] w λe w'=>e=.returned (nA w.heap.size)/\w'=w.alloc (.cells #[.pointer za,Iv l,Iv 0,.string b,.slice a n k] 426):=by
 go_wp2
 go_ret;exact⟨rfl,rfl⟩
end
section
variable {c:JC} {cnt:Nat}
def og(h:JE w c nb l cnt)(j:JS w g s)(Z:∀n,s.u n->us cnt n)(hc:cnt<=1000000):aa zi 299 #[Pv c.eb] w (λe w'=>∃n,e=.returned (nA n)/\w.heap.size<=n/\JE w' c nb l (cnt+1)/\JS w' (g.add n za (cnt+1) (za,0) l<|.var<|cnt+1) ⟨s.k,λm=>s.u m\/m=cnt+1⟩/\Fr (λb=>b=c.cb) w w'):=by
 have f0:=h.bx.c 0;have f1:=h.bx.c 4;have⟨R,_,_,_,_⟩:=h.ne;have dF:=h.yB j;have zc:=h.ct.z;have HE:=ai h;have G:∀W:ca,W=w.drew->aa zi 71 #[Pv c.cb] W λe w'=>e=Rv (Iv<|(cnt:Int)+1)/\∃_:JE w' c nb l (cnt+1),Fr (λb=>b=c.cb) w w'/\JS w' g s/\w'.heap.size=w.heap.size:=λW hW=>by
  subst hW;refine(oh cnt hc<|h.ct.lS).mono ?_;rintro e w'⟨rfl,rfl⟩;have F:Fr (λb=>b=c.cb) w (w.drew.setCell ⟨c.cb,0,za⟩<|Iv<|(cnt:Int)+1):=(Fr.of (S:=λb=>b=c.cb) (zt _ w).drew).set (b:=c.cb) (xj rfl) 0 _;have B:Bx (w.drew.setCell ⟨c.cb,0,za⟩<|Iv<|(cnt:Int)+1) c.cb #[.int .i64 ((cnt+1:Nat):Int)]:=h.ct.lS.aW 0 _ _ rfl ag;have r:Fr (jS c g) w (w.drew.setCell ⟨c.cb,0,za⟩<|Iv<|(cnt:Int)+1):=F.fU λb q=>xj q;have C:GL (w.drew.setCell ⟨c.cb,0,za⟩<|Iv<|(cnt:Int)+1) g.ds g.str g.nx g.vr g.ly g.lv:=by
   refine j.gl.one (b:=c.cb) ⟨rfl,rfl,rfl,BL,λi hi=>zu _ _ _ _ hi⟩ dF<|λm hm c' l' gg hs hl hg e=>?_;have⟨ga,o,q2,_⟩:=j.gl.row hm hs<|List.length_pos_iff.2 hl;rw[hg]at o;injection o with o;injection o with o;subst o;have:=h.ct.c 0;rw[<-e,q2]at this;simp at this
  exact⟨rfl,h.fr j r (h.bx.fr F R) B,F,⟨C,j.mM,j.inj,j.can,j.lc,j.val,j.use,j.ok⟩,BL⟩
 go_wp2
 go_region_held3(λw'=>w'.cell? ⟨c.eb,0,za⟩=qa (.func (.func 71) #[] #[Pv c.cb])/\w'.cell? ⟨c.eb,4,za⟩=qa (Nv l)) (first|go_keep|(simp[*])) (first
  |(go_at_call 71;go_loud(refine(G _ rfl).mono ?_);rintro e w2⟨rfl,o,r,C,N⟩;have s0:w2.cell? ⟨c.eb,0,za⟩=qa (.func (.func 71) #[] #[Pv c.cb]):=o.bx.c 0;have s1:w2.cell? ⟨c.eb,4,za⟩=qa (Nv l):=o.bx.c 4;have I:=ai o;have J:=ai r;have U:=ai C;have X:=ai N;clear o r C N)
  |(go_at_call 313;go_loud(refine(Gs _ _).mono ?_);rintro e C⟨rfl,r⟩;have o:Bq w2 C:=(by rw[r];exact bw _);have O:C.heap[w2.heap.size]? =qa (Cv #[.pointer za,Nv l,Iv<|(cnt:Int)+1,Sv ⟨#[]⟩,Lv za 0 0] 426 (0,0)):=(by rw[r];exact(vd w2 _).1);have s2:C.cell? ⟨c.eb,0,za⟩=qa (.func (.func 71) #[] #[Pv c.cb]):=(I.af o).bx.c 0;have s3:C.cell? ⟨c.eb,4,za⟩=qa (Nv l):=(I.af o).bx.c 4;have Y:=ai o;have N:=ai O;clear r o O))
 go_wp2
 go_ret;have o:=uh Y;have r:¬s.u (cnt+1):=λq=>by have:=Z _ q;rw[us]at this;omega
 exact⟨w2.heap.size,rfl,by rw[uh X];exact br _,(uh I).af o,(uh U).var o (br _) r<|by simpa using uh N,(uh J).trans<|Fr.of o⟩
def Gt{fn}{cn}(Z:fn=308/\cn=rG\/fn=306/\cn=pq)(h:JE w c nb l cnt)(j:JS w g s){a}(ha:a∈g.ds/\∀x,Hd g.nx a x->g.lv x<=l)(hb:b∈g.ds/\∀x,Hd g.nx b x->g.lv x<=l):aa zi fn #[Pv c.eb,nA a,nA b] w (λe w'=>∃n ar,e=.returned (nA n)/\w.heap.size<=n/\JE w' c nb l cnt/\JS w' (g.add n (qa (cn,[a,b])) 0 ar l<|.aM cn [g.V a,g.V b]) s/\Bq w w'):=by
 have N:CN cn:=by obtain⟨-,rfl⟩|⟨-,rfl⟩:=Z;exact xj rfl;exact xk<|xj rfl
 have f1:w.cell? ⟨c.eb,4,za⟩=qa (Nv l):=h.bx.c 4;have⟨U,X⟩:=nbh w #[nA a,nA b] 416;have G:=DA (w:=w.alloc<|Cv #[nA a,nA b] 416) (pn cn) (l:Int) (qa ⟨w.heap.size,0,za⟩) 2 2;have Y:=ai U;have HE:=ai h;have HJ:=ai j;clear h j U;obtain⟨rfl,I⟩|⟨rfl,I⟩:=Z;all_goals
  first|(rw[I,jO]at G;go_in)|(rw[I,jP]at G;go_in)
  go_wp2_with fail;refine G.mono ?_;rintro e w2⟨rfl,r⟩;have O:Bq (w.alloc<|Cv #[nA a,nA b] 416) w2:=by rw[r];exact bw _
  have J:w2.heap[w.heap.size+1]? =qa (Cv #[.pointer za,Nv l,Iv 0,Sv<|pn cn,Lv (qa ⟨w.heap.size,0,za⟩) 2 2] 426 (0,0)):=by
   rw[r];have:=(vd (w.alloc<|Cv #[nA a,nA b] 416)<|Cv #[.pointer za,Nv l,Iv 0,Sv<|pn cn,Lv (qa ⟨w.heap.size,0,za⟩) 2 2] 426).1;simpa[I,jO,jP]using this
  have C:=X.below O;have o:=Y.trans<|O.mono Y.size;have HX:=ai<|zh o<|zh J C;clear G r O J C o X
  go_wp2
  go_ret;have⟨o,J,C⟩:=uh HX;refine⟨w.heap.size+1,(qa ⟨w.heap.size,0,za⟩,2),rfl,xw _,HE.af o,HJ.made (c:=cn) (ps:=[a,b]) (a:=(qa ⟨w.heap.size,0,za⟩,2)) o (xw _) N ag (λp hp=>?_) (xk ⟨w.heap.size,rfl,br _,ae,C.z,λi hi=>?_⟩) J,o⟩
  .obtain e|e:=List.mem_cons.1 hp
   .subst e;exact ha
   .simp at e;subst e;exact hb
  .have R:i=0\/i=1:=LY;rw[C.c i];obtain rfl|rfl:=R<;>rfl
end
end
section
open Go.ChangeMaps
abbrev aL:Nat:=9223372036854775807
def Nf(lv:Nat->Nat)L h:=lv h<=L\/lv h=aL
structure tV(str:wP)(nx:Nx)(ds:List Nat)(lv cJ:Nat->Nat)n L(D:Nat->Prop):Prop where
 up:∀m,D m->m∈ds/\nx m=za/\L<lv m/\lv m≠aL/\cJ m=aL
 no:∀m,¬D m->cJ m=lv m
 hd:∀h,Hd nx n h->D h\/Nf lv L h
 cl:∀a,D a->∀c l,str a=qa (c,l)->∀p,p∈l->∀h,Hd nx p h->D h\/Nf lv L h
 re:∀R:Nat->Prop,(∀h,Hd nx n h->R h)->(∀a c l p h,R a->str a=qa (c,l)->p∈l->Hd nx p h->R h)->∀a,D a->R a
structure wR(str:wP)(nx:Nx)(ds:List Nat)(lv lK:Nat->Nat)h(l:List Nat)L(D:Nat->Prop):Prop where
 own:D h
 up:∀m,D m->m∈ds/\nx m=za/\L<lv m/\lv m≠aL/\lK m=aL
 no:∀m,¬D m->lK m=lv m
 pt:∀p,p∈l->∀k,Hd nx p k->D k\/Nf lv L k
 cl:∀a,D a->a≠h->∀c l,str a=qa (c,l)->∀p,p∈l->∀k,Hd nx p k->D k\/Nf lv L k
 re:∀R:Nat->Prop,R h->(∀a c l p k,R a->str a=qa (c,l)->p∈l->Hd nx p k->R k)->∀a,D a->R a
section
variable {nx:Nx} {lv lK:Nat->Nat} {L:Nat} {l:List Nat}
def tV.nil(i:Hd nx n h)(o:Nf lv L h):tV str nx ds lv lv n L (λ_=>False):=
 ⟨λ_ q=>q.elim,λ_ _=>rfl,λk q=>xk (by rw[q.one i];exact o),λ_ q=>q.elim,λ_ _ _ _ q=>q.elim⟩
def wR.start(i:h∈ds)(o:nx h=za)(C:L<lv h)(G:lv h≠aL):wR str nx ds lv (zv lv h aL) h [] L (λm=>m=h):=
 ⟨rfl,λm q=>by subst q;exact⟨i,o,C,G,Oy⟩,λm q=>by simp[zv,q],λp q=>by simp at q,λa q r=>absurd q r,λR q _ a r=>by subst r;exact q⟩
def wR.step{p}{c}{l0}(N:str h=qa (c,l0))(O:p∈l0)(k:wR str nx ds lv lK h l L D)(q:tV str nx ds lK cJ p L E):wR str nx ds lv cJ h (l++[p]) L (λm=>D m\/E m):=by
 have C:∀m,E m->¬D m:=λm e d=>(q.up m e).2.2.2.1 (k.up m d).2.2.2.2;have low:∀x,Nf lK L x->D x\/Nf lv L x:=λx hx=>by
  by_cases d:D x
  .exact xj d
  .exact xk (by unfold Nf at*;rw[<-k.no x d];exact hx)
 refine⟨xj k.own,λm e=>?_,λm e=>?_,λp' BO x hx=>?_,λa e ne c' l' AZ p' BO x hx=>?_,λR r1 r2 a e=>?_⟩
 .by_cases d:E m
  .have⟨G,I,i,o,J⟩:=q.up m d;rw[k.no m<|C m d]at i o;exact⟨G,I,i,o,J⟩
  .have⟨G,I,i,o,J⟩:=k.up m<|e.resolve_right d;exact⟨G,I,i,o,(q.no m d).trans J⟩
 .rw[q.no m<|λd=>e<|xk d,k.no m<|λd=>e<|xj d]
 .obtain BO|BO:=List.mem_append.1 BO
  .exact(k.pt p' BO x hx).imp xj id
  .simp at BO;subst BO;obtain r|r:=q.hd x hx
   .grind
   .grind
 .obtain d|d:=e
  .exact(k.cl a d ne c' l' AZ p' BO x hx).imp xj id
  .obtain r|r:=q.cl a d c' l' AZ p' BO x hx
   .grind
   .grind
 .obtain d|d:=e
  .exact k.re R r1 r2 a d
  .exact q.re R (λx hx=>r2 h c l0 p x r1 N O hx) r2 a d
def wR.done{c}{l0}(i:Hd nx n h)(r:str h=qa (c,l0))(k:wR str nx ds lv lK h l0 L D):tV str nx ds lv lK n L D:=by
 refine⟨k.up,k.no,λx hx=>xj (by rw[hx.one i];exact k.own),λa d c' l' AZ p hp x hx=>?_,λR r1 r2 a d=>k.re R (r1 h i) r2 a d⟩;by_cases e:a=h
 .subst e;rw[r]at AZ;injection AZ with AZ;injection AZ with _ o;subst o;exact k.pt p hp x hx
 .exact k.cl a d e c' l' AZ p hp x hx
def wR.VX(i:Hd nx n h)(hs:str h=za)(k:wR str nx ds lv lK h [] L D):tV str nx ds lv lK n L D:=by
 refine⟨k.up,k.no,λx hx=>xj (by rw[hx.one i];exact k.own),λa d c' l' AZ p hp x hx=>?_,λR r1 r2 a d=>k.re R (r1 h i) r2 a d⟩;by_cases e:a=h
 .grind
 .exact k.cl a d e c' l' AZ p hp x hx
end
def fp(ds:List Nat)(lv:Nat->Nat)L:=ds.countP λm=>decide (L<lv m/\lv m≠aL)
def ac1{lv}{L:Nat}(h:∀m,L<cJ m/\cJ m≠aL->L<lv m/\lv m≠aL):fp ds cJ L<=fp ds lv L:=List.countP_mono_left λm _ q=>by simpa using h m (by simpa using q)
def ac2{lv cJ:Nat->Nat}{L x:Nat}(h:∀m,L<cJ m/\cJ m≠aL->L<lv m/\lv m≠aL)(o:L<lv x/\lv x≠aL)(i:¬(L<cJ x/\cJ x≠aL)):∀{ds:List Nat},x∈ds->fp ds cJ L<fp ds lv L
 |a::ds,hm=>by
  unfold fp;rw[xf,xf];have hle:ds.countP (λm=>decide (L<cJ m/\cJ m≠aL))<=ds.countP (λm=>decide (L<lv m/\lv m≠aL)):=ac1 h;by_cases e:a=x
  .subst e;rw[if_pos<|decide_eq_true o,if_neg<|by simpa using i];omega
  .have:=ac2 h o i (ds:=ds) (by obtain q|q:=List.mem_cons.1 hm;exact absurd q.symm e;exact q);unfold fp at this;by_cases q:L<cJ a/\cJ a≠aL
   .rw[if_pos<|decide_eq_true q,if_pos<|decide_eq_true<|h a q];omega
   .rw[if_neg<|by simpa using q];split<;>omega
def tV.eqv{nx}{vr:Nat->Nat}{lv0 lv}{L:Nat}(g:GL w ds str nx vr ly lv0)(e:iK str nx bh)(q:tV str bh ds lv cJ n L D):tV str nx ds lv cJ n L D:=
 ⟨λm d=>⟨(q.up m d).1,(e.AQ m).1 (q.up m d).2.1,(q.up m d).2.2⟩,q.no,λh k=>q.hd h<|e.lB _ _ k,λa d c l hs p hp h k=>q.cl a d c l hs p hp h<|e.lB _ _ k,λR r1 r2=>q.re R (λh k=>r1 h<|e.back g k)<|λa c l p h ra hs hp k=>r2 a c l p h ra hs hp<|e.back g k⟩
def Gu ds str nx vr ly lv n L w(e:ka)w':=
 e=.returned (.tuple #[])/\∃bh cJ D,GL w' ds str bh vr ly cJ/\Fr (λb=>b∈ds) w w'/\iK str nx bh/\w'.heap.size=w.heap.size/\tV str nx ds lv cJ n L D
def ad8 ds str vr ly k:=∀(w:ca)(nx:Nx)(lv:Nat->Nat)(n L:Nat),GL w ds str nx vr ly lv->n∈ds->fp ds lv L<=k->aa zi 293 #[nA n,Nv L] w (Gu ds str nx vr ly lv n L w)
def ad9 ds str nx vr ly lv h L(l:List Nat)w gk v wr:=
 ∃j xH lK D,Hid (gk=l.length-j)/\j<=l.length/\v=Nv j/\GL wr ds str xH vr ly lK/\Fr (λb=>b∈ds) w wr/\iK str nx xH/\wr.heap.size=w.heap.size/\wR str nx ds lv lK h (l.take j) L D
section
variable {vr:Nat->Nat}
def SN(IH:∀i,i<k->ad8 ds str vr ly i):ad8 ds str vr ly k:=by
 intro w nx lv n L C hn hk;have⟨h,R⟩:=C.hd n hn;have J:=C.bN hn R;have HC:=qP C hn R;go_in;go_wp;refine HC.mono ?_;rintro e w1⟨rfl,G,U,F1,E1,z1⟩;clear HC;have⟨c1,f1⟩:=(U.nd h J).lvl;have d0:nx h=za:=R.head;by_cases e0:lv h<=L
 .have hd:(lv h:Int)<=(L:Int):=ae;have Z:=ai U;clear U
  go_wp2
  go_end0;exact⟨rfl,G,lv,_,uh Z,F1,E1,z1,tV.nil R<|xj e0⟩
 .have hd:decide ((lv h:Int)<=(L:Int))=false:=bQ;by_cases o:lv h=aL
  .have he:((lv h:Int)==(9223372036854775807:Int))=true:=by rw[o];rfl
   have r:=ai o;have Z:=ai U;clear U o
   go_wp2
   go_end0;exact⟨rfl,G,lv,_,uh Z,F1,E1,z1,tV.nil R<|xk<|uh r⟩
  have he:((lv h:Int)==(9223372036854775807:Int))=false:=by simp;intro q;exact o (by show lv h=9223372036854775807;omega)
  have G2:=U.SO J aL;have⟨_,_,_,_,c4⟩:=(U.nd h J).cells;have X:Hid (Fr (λb=>b∈ds) w<|w1.setCell ⟨h,1,za⟩<|Iv 9223372036854775807):=ai<|F1.set (xj J) 1 _;have N:=ai G2;have Z1:=z1;have O:=ai E1;have J0:Hid (wR str nx ds lv (zv lv h aL) h [] L<|λm=>m=h):=ai<|wR.start J d0 ae o;clear U G2 F1 z1 E1
  cases hs:str h with
  |none=>
   have I:w1.cell? ⟨h,4,za⟩=qa (.slice (ly h).1 0 (ly h).2):=by rw[c4,hs];rfl
   clear c4
   go_wp2
   go_loopg[29] 0 (λgk v wr=>v=Iv 0/\wr=w1.setCell ⟨h,1,za⟩ (Iv 9223372036854775807))
   case atStart=>exact⟨rfl,rfl⟩
   case round=>
    obtain⟨rfl,rfl⟩:=hrel
    go_wp2
    go_end0;exact⟨rfl,G,_,_,uh N,uh X,uh O,qAz,(uh J0).VX R hs⟩
  |some q=>
   obtain⟨c,l⟩:=q;have I:w1.cell? ⟨h,4,za⟩=qa (.slice (ly h).1 l.length (ly h).2):=by rw[c4,hs];rfl
   have⟨hl1,f0⟩:=C.part J hs;have hdp:fp ds (zv lv h aL) L<fp ds lv L:=ac2 (x:=h) (λm q=>by by_cases e:m=h;subst e;exact⟨ae,o⟩;simpa[zv,e]using q) ⟨ae,o⟩ Oy J;clear c4;by_cases a0:l=[]
   .subst a0;have aif:=I;clear I
    go_wp2
    go_loopg[29] 0 (λgk v wr=>v=Iv 0/\wr=w1.setCell ⟨h,1,za⟩ (Iv 9223372036854775807))
    case atStart=>exact⟨rfl,rfl⟩
    case round=>
     obtain⟨rfl,rfl⟩:=hrel
     go_wp2
     go_end0;exact⟨rfl,G,_,_,uh N,uh X,uh O,qAz,(uh J0).done R hs⟩
   have⟨ga,b0,_,_⟩:=C.row J hs<|List.length_pos_iff.2 a0;rw[b0]at I
   go_wp2
   go_loopg[29] l.length (λgk v wr=>ad9 ds str nx vr ly lv h L l w gk v wr)
   case atStart=>exact⟨0,G,_,_,ai ag,xt _,rfl,uh N,uh X,uh O,qAz,by simpa using uh J0⟩
   case round=>
    clear N X O J0 I c1 f1;obtain⟨j,c0,lK,D,g0,hj,rfl,Gj,FJ,EJ,ZJ,Y⟩:=hrel;by_cases r:j<l.length
    .have h0:=kK r;have hge:(0:Int)<=(j:Int):=ae;have⟨ga',e1,cg,_⟩:=Gj.row J hs r;have e2:=e1.symm.trans b0;injection e2 with e2;injection e2 with e2;subst e2
     have i0:=IH (fp ds (zv lv h aL) L) ae wr c0 lK l[j] L Gj (f0 _<|qm r) (ac1 λm q=>by
      by_cases d:D m
      .exact absurd (Y.up m d).2.2.2.2 q.2
      .have e:m≠h:=λe=>d<|e▸Y.own;simp only[zv,e,if_false]
       rw[<-Y.no m d];exact q)
     clear e1;clear Gj;go_wp2_with fail;refine i0.mono ?_;rintro e w2⟨rfl,j0,k0,D2,G2,X,E2,z2,q2⟩;have Z:=ai G2;have HF:=FJ.trans X;have HE:=EJ.trans E2;have HZ:=z2.trans ZJ;have l0:=Y.step hs (qm r)<|q2.eqv C EJ
     go_wp2
     go_roundg(l.length-(j+1))
     case measure=>rw[uh g0];omega
     case rel=>exact⟨j+1,j0,k0,_,ai rfl,xn r,iF,uh Z,HF,HE,HZ,by rw[qk r];exact l0⟩
    .have h0:=nN r;have Z:j=l.length:=ae;subst Z;rw[qp]at Y;have HX:=show Gu ds str nx vr ly lv n L w (Rv<|.tuple #[]) wr from⟨rfl,c0,lK,D,Gj,FJ,EJ,ZJ,Y.done R hs⟩
     go_wp2
     go_end0;exact HX
def ad_:∀k,ad8 ds str vr ly k:=λk=>Nat.strongRecOn k λk ih=>SN ih
end
end
section
open Go.ChangeMaps Go.MapKept
structure OR l B g(s:jc)cnt(ρ:ji)g'(s':jc)(aR:Nat)(iU:ji):Prop where
 st:iL l g s g' s'
 hd:∀m,m∈g.ds->∀x,Hd g'.nx m x↔Hd g.nx m x
 kk:s'.k=s.k
 ext:∀v n,ρ v=qa n->iU v=qa n
 cc:cnt<=aR
 uu:∀m,s'.u m->s.u m\/(cnt<m/\m<=aR)
 nw:∀v n,ρ v=za->iU v=qa n->¬s.u n
 on:∀v v' n,ρ v=za->iU v=qa n->iU v'=qa n->v=v'
 VY:∀n,s'.u n↔s.u n\/∃v,ρ v=za/\iU v=qa n
 fV:∀m,m∈g.ds->g'.lv m=g.lv m/\g'.V m=g.V m
 new:∀m,m∈g'.ds->(m∈g.ds/\g'.ly m=g.ly m/\g'.str m=g.str m)\/(B<=m/\∀gg,(g'.ly m).1=qa ⟨gg,0,za⟩->B<=gg)
 nl:∀m,m∈g'.ds->¬m∈g.ds->g'.lv m<=l
section
variable {cnt dH:Nat} {nV:ji}
def OR.refl(h:JS w g s)l B cnt(ρ:ji):OR l B g s cnt ρ g s cnt ρ:=⟨iL.refl h l,λ_ _ _=>Iff.rfl,rfl,λ_ _ q=>q,br _,λ_ q=>xj q,(λv n q r=>qAw),(λv v' n q r=>qAw),λn=>⟨xj,λq=>q.elim id λ⟨v,q,r⟩=>qAw⟩,λ_ _=>⟨rfl,rfl⟩,λm hm=>xj ⟨hm,rfl,rfl⟩,λm hm q=>absurd hm q⟩
def OR.trans(h:JS w g s)(I:JS w1 g1 s1)(i:JS w2 g2 s2)(a:OR l B g s cnt ρ g1 s1 al bI)(b:OR l B' g1 s1 al bI g2 s2 dH nV)(hB:B<=B'):OR l B g s cnt ρ g2 s2 dH nV where
 st:=iL.trans h I i a.st b.st
 hd m hm x:=(b.hd m (a.st.fV m hm).1 x).trans<|a.hd m hm x
 kk:=b.kk.trans a.kk
 ext v n q:=b.ext v n<|a.ext v n q
 cc:=xm a.cc b.cc
 uu m q:=by
  have:=a.cc;have:=b.cc;obtain q|q:=b.uu m q
  .exact(a.uu m q).imp id λr=>ae
  .omega
 nw v n h0 i:=by
  cases e:bI v with
  |none=>exact λq=>b.nw v n e i ((a.VY n).2<|xj q)|some n'=>
   have:=b.ext v n' e;rw[i]at this;injection this with this;subst this;exact a.nw v _ h0 e
 on v v' n h0 i h2':=by
  cases e:bI v with
  |none=>exact b.on v v' n e i h2'|some n'=>
   have:=b.ext v n' e;rw[i]at this;injection this with this;subst this
   cases e':bI v' with
   |none=>exact(b.on v' v n e' h2' i).symm|some n''=>
    have:=b.ext v' n'' e';rw[h2']at this;injection this with this;subst this;exact a.on v v' _ h0 e e'
 VY n:=by
  rw[b.VY n,a.VY n];constructor
  .rintro((q|⟨v,q,r⟩)|⟨v,q,r⟩)
   .exact xj q
   .exact xk ⟨v,q,b.ext v n r⟩
   .refine xk ⟨v,?_,r⟩
    cases e:ρ v with
    |none=>rfl|some n'=>rw[a.ext v n' e]at q;cases q
  .rintro(q|⟨v,q,r⟩)
   .grind
   .cases e:bI v with
    |none=>grind|some n'=>
     have:=b.ext v n' e;rw[r]at this;injection this with this;subst this;exact xj<|xk ⟨v,q,e⟩
 fV m hm:=⟨(b.fV m (a.st.fV m hm).1).1.trans (a.fV m hm).1,(b.fV m (a.st.fV m hm).1).2.trans (a.fV m hm).2⟩
 new m hm:=by
  obtain⟨o,q2,q3⟩|⟨o,q2⟩:=b.new m hm
  .obtain⟨C,G,r3⟩|⟨C,G⟩:=a.new m o
   .grind
   .grind
  .grind
 nl m hm q:=by
  by_cases o:m∈g1.ds
  .rw[(b.fV m o).1];exact a.nl m o q
  .exact b.nl m hm o
end
section
variable {c:JC} {cnt:Nat}
def OR.used(a:OR l B g s cnt ρ g1 s1 al bI)(h:∀n,s.u n->us cnt n):∀n,s1.u n->us al n:=λn q=>by
 have:=a.cc;obtain q|q:=a.uu n q
 .have:=h n q;rw[us]at this⊢;omega
 .rw[us];omega
def OR.DB(a:OR l B' g s cnt ρ g1 s1 al bI)(h:B<=B'):OR l B g s cnt ρ g1 s1 al bI:={a with new:=λm hm=>(a.new m hm).imp id λq=>⟨ae,λgg e=>by have:=q.2 gg e;omega⟩}
def JS.one(h:JS w g s)(o:One b w w')(i:¬b∈g.ds)(r:∀m∈g.ds,∀c l gg,g.str m=qa (c,l)->l≠[]->(g.ly m).1=qa ⟨gg,0,za⟩->gg≠b):JS w' g s:=⟨h.gl.one o i r,h.mM,h.inj,h.can,h.lc,h.val,h.use,h.ok⟩
def JE.one(h:JE w c nb l cnt)(o:One b w w')(h1:c.fU<=b)(h2:c.eb<b)(h3:c.cb<b)(h4:c.rb<b)(h5:c.mb<b):JE w' c nb l cnt:=
 ⟨h.bx.same (xo o.size.symm)<|o.block c.eb ae,h.ct.same (xo o.size.symm)<|o.block c.cb ae,h.rs.same<|o.block _ ae,h.ms.move (xo o.size.symm) (o.block _ ae) (λb' p _=>o.block _ (by have:=p.2;omega))<|λ_ p _=>p,⟨h.z.1,h.z.2.1,by rw[o.size];exact h.z.2.2⟩⟩
def JS.aea(h:JS w g s)(o:m∈g.ds){k}{gg}(r:g.str m=qa (k,ps))(C:ps≠[])(G:(g.ly m).1=qa ⟨gg,0,za⟩):gg<w.heap.size:=by
 have⟨ga,i,q2,_⟩:=h.gl.row o r<|List.length_pos_iff.2 C;rw[G]at i;injection i with i;injection i with i;subst i;exact iV q2
def Oz{p:Prop}(h:p:=by
 exact xj ⟨(List.mem_cons.1 hm).resolve_left e,by simp[zv,e],by simp[zv,e]⟩):p:=h
def OR.add(h:JS w g s){n:Nat}(i:B<=n)(nd:¬n∈g.ds){q:BA×List Nat}{a:Option Addr×Nat}{T:Ty}(o:∀gg,a.1=qa ⟨gg,0,za⟩->B<=gg):OR l B g s cnt ρ (g.add n (qa q) 0 a l T) s cnt ρ where
 st:=iL.add h nd rfl (λe=>by cases e)
 hd _ _ _:=Iff.rfl
 kk:=rfl
 ext _ _ q:=q
 cc:=br _
 uu _ q:=xj q
 nw v n q r:=qAw
 on v v' n q r:=qAw
 VY n:=⟨xj,λq=>q.elim id λ⟨v,q,r⟩=>qAw⟩
 fV m hm:=by
  have e:m≠n:=λe=>nd<|e▸hm;simp[zv,e]
 new m hm:=by
  by_cases e:m=n
  .subst e;exact xk ⟨i,λgg q=>o gg<|by simpa[zv]using q⟩
  .exact Oz
 nl m hm q:=by
  rw[(List.mem_cons.1 hm).resolve_right q];simp[zv]
end
structure OKs(c:JC)l Kb(Tb:Nat->Prop)(K:ca->gD->jc->Nat->ji->Prop):Prop where
 af:∀w w' g s cnt ρ,K w g s cnt ρ->Bq w w'->K w' g s cnt ρ
 one:∀w w' g s cnt ρ b,K w g s cnt ρ->One b w w'->Kb<=b->K w' g s cnt ρ
 add:∀w g s cnt ρ n q v a T,K w g s cnt ρ->¬n∈g.ds->K w (g.add n (qa q) v a l T) s cnt ρ
 tb:∀b,Tb b->b<Kb
def Gv c nb l(Tb:Nat->Prop)(K:ca->gD->jc->Nat->ji->Prop)g(s:jc)cnt(ρ:ji)T w(e:ka)w':=
 ∃n g' s' aR iU,e=.returned (nA n)/\JE w' c nb l aR/\JS w' g' s'/\K w' g' s' aR iU/\OR l w.heap.size g s cnt ρ g' s' aR iU/\n∈g'.ds/\g'.V n=sub s.k (sub (jd iU) T)/\(∀x,Hd g'.nx n x->g'.lv x<=l)/\(∀v,(aA v T->iU v≠za)/\(¬aA v T->iU v=ρ v))/\aR<=cnt+size T/\Fr (λb=>b=c.cb\/Tb b) w w'
def OfJ c nb l Kb Tb(K:ca->gD->jc->Nat->ji->Prop)F(A:Nat->Prop)T:=∀(w:ca)(g:gD)(s:jc)(cnt:Nat)(ρ:ji)(Q:Nat->Prop)(v:ia),JE w c nb l cnt->JS w g s->(∀n,s.u n->us cnt n)->K w g s cnt ρ->Kb<=w.heap.size->eh w Q T v->(∀b,Q b->b≠c.cb/\¬Tb b)->size T<=1000->(∀n,aA n T->A n)->cnt+size T<=900000->aa zi 296 #[v,Nv l,F] w (Gv c nb l Tb K g s cnt ρ T w)
def agt c nb l(Tb:Nat->Prop)(K:ca->gD->jc->Nat->ji->Prop)g(s:jc)cnt(ρ:ji)k(L:List Ty)sa sc w gk v wr:=
 ∃(j:Nat)(C:Array ia)(G:gD)(I:jc)(o:Nat)(r:ji)(ps:List Nat),Hid (gk=L.length-j)/\j<=L.length/\v=Nv j/\JE wr c nb l o/\JS wr G I/\K wr G I o r/\OR l (w.heap.size+2) g s cnt ρ G I o r/\Fr (λb=>b=c.cb\/Tb b) w wr/\Bx wr w.heap.size #[.string<|pn k,.slice sa L.length sc]/\Bx wr (w.heap.size+1) C/\Hid (C.size=L.length)/\
  Hid (ps.length=j/\(∀m,m∈ps->m∈G.ds/\∀x,Hd G.nx m x->G.lv x<=l)/\ps.map G.V=(L.take j).map (λt=>sub s.k<|sub (jd r) t)/\(∀i(h:i<ps.length),C[i]? =qa (nA ps[i]))/\(∀v,((∃t,t∈L.take j/\aA v t)->r v≠za)/\((∀t,t∈L.take j->¬aA v t)->r v=ρ v))/\o<=cnt+ak (L.take j))
def tW:∀a b:List Ty,ak (a++b)=ak a+ak b
 |[],b=>by simp[ak]|t::a,b=>by simp only[List.cons_append,ak,tW a b];omega
def yC L(h:j<L.length):ak (L.take<|j+1)=ak (L.take j)+size L[j]/\ak (L.take<|j+1)<=ak L:=by
 have e:ak (L.take<|j+1)=ak (L.take j)+size L[j]:=by rw[qk h,tW];simp[ak]
 refine⟨e,?_⟩;have:ak (L.take<|j+1)+ak (L.drop<|j+1)=ak L:=by rw[<-tW,qv]
 omega
section
variable {c:JC} {Kb:Nat} {Tb:Nat->Prop} {K:ca->gD->jc->Nat->ji->Prop} {F:ia} {A:Nat->Prop}
def aaY{iU}{t}(hc:∀v,aA v t->ρ v≠za)(i:∀v n,ρ v=qa n->iU v=qa n):sub (jd ρ) t=sub (jd iU) t:=sub_congr t λv o=>by
 unfold jd
 cases e:ρ v with
 |none=>exact absurd e (hc v o)|some n=>rw[i v n e]
def OB{p:Prop}(h:p:=by
 refine js2.one oc (λq=>?_)<|λy hy c' l' gg e1 e2 e3 e4=>?_
 .obtain⟨q,_⟩|⟨q,_⟩:=or3.new _ q
  .have:=js.lt q;omega
  .omega
 .obtain⟨q1,q2,q3⟩|⟨q1,q2⟩:=or3.new y hy
  .have:=js.aea q1 (q3▸e1) e2<|q2▸e3;omega
  .have:=q2 gg e3;omega):p:=h
def OC{p:Prop}(h:p:=by
 intro y hy;obtain q|q:=List.mem_append.1 hy
 .obtain⟨r1,r2⟩:=x2 y q;refine⟨(Lt.st.fV y r1).1,λx k=>?_⟩;have k:=(Lt.hd y r1 x).1 k;rw[(Lt.fV x<|qC.gl.bN r1 k).1];exact r2 x k
 .simp at q;subst q;exact⟨hm,Vx⟩):p:=h
def OD{p:Prop}(h:p:=by
 intro i hi;by_cases e:i<j
 .rw[Array.getElem?_setIfInBounds_ne ae,x4 i ae,List.getElem_append_left ae]
 .have e:i=j:=LY;subst e;rw[List.getElem_append_right ae]
  simp[hjC,x1]):p:=h
def OE{p:Prop}(h:p:=by
 cases e:bI v with
 |none=>exact absurd e this|some n=>rw[Lt.ext v n e];simp):p:=h
def VZ(hF:F=.nilFunc\/∃fn cap,F=.func fn #[] cap)(hK:OKs c l Kb Tb K)k L(IH:∀i(h:i<L.length),OfJ c nb l Kb Tb K F A L[i]):OfJ c nb l Kb Tb K F A (.aM k L):=by
 intro w g s cnt ρ Q v R js HU f0 hkb hv U hs HA ai9
 cases hv with
 |aM _ _ sa sc vs hcn bK hr=>
 have hL:L.length<=1001:=by have:=BP L;simp[size]at hs;omega
 have Bu:ak L<size (.aM k L):=by simp only[size];omega
 have⟨i0,g0,j0,k0,l0⟩:=info_parts BQ;have hmk:=jE (by_:=8) vA g0 j0 rfl k0 l0 aD L.length hL;have zc:=R.ct.z;have J:Bq w ((w.alloc<|Cv #[Sv<|pn k,Lv sa L.length sc] 194).alloc<|Cv (Array.replicate L.length<|.pointer za) 416):=(bw _).alloc ag _;have ST:agt c nb l Tb K g s cnt ρ k L sa sc w L.length (Iv 0) ((w.alloc<|Cv #[Sv<|pn k,Lv sa L.length sc] 194).alloc<|Cv (Array.replicate L.length<|.pointer za) 416):=⟨0,Array.replicate L.length<|.pointer za,g,s,cnt,ρ,[],ai ag,Nat.zero_le _,rfl,R.af J,js.af J,hK.af _ _ _ _ _ _ f0 J,OR.refl js _ _ _ _,Fr.of J,(Bx.new w _ _).alloc _,by have:=Bx.new (w.alloc<|Cv #[Sv<|pn k,Lv sa L.length sc] 194) (Array.replicate L.length<|.pointer za) 416;simpa using this,ai ag,ai ⟨rfl,ag,ag,λi hi=>by simp at hi,λv=>⟨ag,λ_=>rfl⟩,by simp[ak]⟩⟩;have HJ:=ai js;have r:=ai U;have HZ:=And.intro R.z.2.2<|And.intro R.bx.z<|And.intro R.ct.z<|And.intro R.rs.lt R.ms.lt;go_wp2
 go_loopg[29] L.length (λgk v wr=>agt c nb l Tb K g s cnt ρ k L sa sc w gk v wr)
 case atStart=>exact ST
 case round=>
  obtain⟨j,C,g1,s1,al,bI,ps,o0,hj,rfl,N,qC,k1,G,X,a0,B1,hC,hT⟩:=hrel;have zw:=X.size;have zb:=B1.z;by_cases bY:j<L.length
  .have hd:=kK bY;obtain⟨gg,rfl,hg,p0,Y⟩:∃g,sa=qa ⟨g,0,za⟩/\Q g/\g<w.heap.size/\∀i,i<L.length->w.cell? ⟨g,i,za⟩=qa (vs i):=by
    obtain h0|h0:=bK
    .subst h0;simp at bY
    .exact h0
   have U:=uh r;have cg:wr.cell? ⟨gg,j,za⟩=qa (vs j):=by
    rw[zo (a:=⟨gg,j,za⟩) (w:=w)<|X.block gg p0<|λq=>q.elim (U gg hg).1 (U gg hg).2];exact Y j bY
   have PJ:=(hr j bY).fr X<|λb p _ q=>q.elim (U b p).1 (U b p).2;have⟨tv,xv,hv⟩:=PJ.iface;have⟨x1,x2,x3,x4,O,x6⟩:=uh hT;have⟨y1,y2⟩:=yC L bY;have HC:=IH j bY wr g1 s1 al bI Q (vs j) N qC (G.used HU) k1 ae PJ U ae (λn o=>HA n (by simp only[aA];exact(lT _ _).2 ⟨_,qm bY,o⟩)) ae;rw[hv]at cg HC;have b0:=ai qC;have d0:=ai G;have q0:=ai X;have r0:=ai B1;go_wp2_with fail;refine HC.mono ?_;rintro e w1⟨m,g2,s2,dH,nV,rfl,Z,js2,k2,Lt,hm,hV,Vx,r,I,F2⟩;have e0:∀b,w.heap.size<=b->¬(b=c.cb\/Tb b):=λb hb q=>q.elim (λq=>ae) (λq=>by have:=hK.tb b q;omega);have B2:=r0.fr F2<|e0 _ ae;have t0:=a0.fr F2<|e0 _ ae;have hjC:j<C.size:=qBh;have cj:=(B2.c j).trans<|vh hjC;have fj:=B2.f j;have B3:=B2.aW j (nA m) (C.setIfInBounds j<|nA m) rfl hjC;have u0:=t0.bU (b2:=w.heap.size+1) ae j<|nA m;have v0:=d0.trans HJ b0 js2 Lt ae;have HX:=zh Z<|zh js2<|zh k2<|zh Lt<|zh hm<|zh hV<|zh Vx<|zh r I;have x0:=q0.trans F2;have z2:=F2.size
   go_wp2
   go_roundg(L.length-(j+1))
   case measure=>rw[uh o0];omega
   case rel=>
    have⟨x1,x2,x3,x4,O,x6⟩:=uh hT;obtain⟨Z,js2,k2,Lt,hm,hV,Vx,r,I⟩:=HX;have or3:=v0;have qC:=uh b0;have js:=uh HJ;have oc:=One.cell w1 (w.heap.size+1) j<|nA m;obtain⟨u1,u2,u3,u4,u5⟩:=HZ;refine⟨j+1,C.setIfInBounds j<|nA m,g2,s2,dH,nV,ps++[m],ai rfl,ae,iF,Z.one oc ae ae ae ae ae,?_,hK.one _ _ _ _ _ _ _ k2 oc ae,or3,x0.set (xk ae) j _,u0,B3,ai (by simp;exact hC),ai ⟨by simp[x1],?_,?_,?_,?_,ae⟩⟩
    .exact OB
    .exact OC
    .rw[qr,qk bY,qr];have e1:=eJ λp hp=>(Lt.fV p (x2 p hp).1).2;have e2:(L.take j).map (λt=>sub s.k<|sub (jd bI) t)=(L.take j).map (λt=>sub s.k<|sub (jd nV) t):=q9 λt ht=>by rw[aaY (λv o=>(O v).1 ⟨t,ht,o⟩) Lt.ext]
     rw[e1,x3,e2];have:=d0.kk;simp[hV,this]
    .exact OD
    .intro v;rw[qk bY];refine⟨?_,λq=>?_⟩
     .rintro⟨t,ht,o⟩;obtain q|q:=List.mem_append.1 ht
      .have:=(O v).1 ⟨t,q,o⟩;exact OE
      .simp at q;subst q;exact(r v).1 o
     .rw[(r v).2<|q _<|qx _<|List.mem_singleton.2 rfl,(O v).2 λt ht=>q t<|qy _ ht]
  .have hd:=nN bY;have ej:j=L.length:=ae;subst ej;have c0:=a0.c 0;have HX:=zh N<|zh qC<|zh k1<|zh G<|zh X<|zh B1 hT;go_wp2_with fail;refine(DA (w:=wr) (pn k) (l:Int) (qa ⟨w.heap.size+1,0,za⟩) L.length L.length).mono ?_;rintro e w3⟨rfl,rfl⟩
   go_wp2
   go_ret;obtain⟨N,qC,k1,G,X,B1,x1,x2,x3,x4,O,x6⟩:=HX;simp only[qp]at x3 O x6;have r:Bq wr (wr.alloc<|Cv #[.pointer za,Nv l,Iv 0,Sv<|pn k,Lv (qa ⟨w.heap.size+1,0,za⟩) L.length L.length] 426):=bw _;have I:=B1.alloc<|Cv #[.pointer za,Nv l,Iv 0,Sv<|pn k,Lv (qa ⟨w.heap.size+1,0,za⟩) L.length L.length] 426;have Z:¬wr.heap.size∈g1.ds:=λq=>by have:=qC.lt q;omega
   have b0:¬(w.heap.size+1)∈g1.ds:=λq=>by
    obtain⟨q,_⟩|⟨q,_⟩:=G.new _ q
    .have:=HJ.lt q;omega
    .omega
   have Y:=qC.V5 r (n:=wr.heap.size) (l:=l) (c:=k) (ps:=ps) (a:=(qa ⟨w.heap.size+1,0,za⟩,L.length)) (br _) hcn ae x2 (xk ⟨w.heap.size+1,rfl,(λq=>by
    obtain q|q:=List.mem_cons.1 q
    .omega
    .exact b0 q),I.z,λi hi=>(I.c i).trans<|x4 i hi⟩) (by rw[x1];exact(vd wr _).1)
   have or3:OR l w.heap.size g1 s1 al bI (g1.add wr.heap.size (qa (k,ps)) 0 (qa ⟨w.heap.size+1,0,za⟩,L.length) l<|.aM k<|ps.map g1.V) s1 al bI:=OR.add qC ae Z (λgg e=>by injection e with e;injection e with e;omega);refine⟨wr.heap.size,_,s1,al,bI,rfl,N.af r,Y,hK.add _ _ _ _ _ _ _ _ _ _ (hK.af _ _ _ _ _ _ k1 r) Z,(G.DB ae).trans HJ qC Y or3<|br _,ag,?_,λx q=>?_,λv=>?_,ae,X.trans<|Fr.of r⟩
   .simp only[zv,if_true,sub,iz,x3,xi];rfl
   .have:x=wr.heap.size:=q.one<|.here (qC.gl.out _ Z).1;subst this;simp[zv]
   .simp only[aA];rw[lT];exact⟨(O v).1,λq=>(O v).2 λt h1 h2=>q ⟨t,h1,h2⟩⟩
end
abbrev anV(kb jb:Nat):ia:=.func (.func 319) #[] #[Pv kb,Pv jb]
structure rH(c:JC)l kb jb mb w(g:gD)(s:jc)(cnt:Nat)(ρ:ji):Prop where
 bk:Bx w kb #[Mv mb]
 bj:Bx w jb #[Pv c.eb]
 mp:∃L:List (Int×ia),MS (λn:Int=>Iv n) w mb L/\∀v:Nat,(ρ v=za/\ba (v:Int) L=za)\/∃n m,ρ v=qa n/\ba (v:Int) L=qa (nA m)/\m∈g.ds/\g.str m=za/\g.vr m=n/\∀x,Hd g.nx m x->g.lv x<=l
 V7:c.fU<=mb/\c.eb<mb/\c.cb<mb/\c.rb<mb/\c.mb<mb
section
variable {c:JC} {cnt Kb:Nat}
def OG{p:Prop}(h:p:=by
 refine⟨n',m,r1,r2,ql _ r3,by simp[zv,e,r4],by simp[zv,e,r5],λx k=>?_⟩;by_cases ex:x=n
 .simp[zv,ex]
 .simp only[zv,ex,if_false];exact r6 x k):p:=h
def rH.ks(hk:kb<Kb)(hj:jb<Kb)(hm:mb<Kb):OKs c l Kb (λb=>b=mb) (rH c l kb jb mb) where
 af w w' g s cnt ρ h hb:=by
  have⟨L,i,r⟩:=h.mp;exact⟨h.bk.below hb,h.bj.below hb,⟨L,i.below hb,r⟩,h.V7⟩
 one w w' g s cnt ρ b h o hb:=by
  have⟨L,i,r⟩:=h.mp;exact⟨h.bk.same (xo o.size.symm)<|o.block kb ae,h.bj.same (xo o.size.symm)<|o.block jb ae,⟨L,i.one o ae,r⟩,h.V7⟩
 add w g s cnt ρ n q v a T h hn:=by
  have⟨L,i,r⟩:=h.mp;refine⟨h.bk,h.bj,⟨L,i,λv=>(r v).imp id ?_⟩,h.V7⟩;rintro⟨n',m,r1,r2,r3,r4,r5,r6⟩;have e:m≠n:=λe=>hn<|e▸r3;exact OG
 tb b e:=ae
def JS.LZ(h:JS w g s)(i:m∈g.ds)(o:g.str m=za):g.V m=s.k (g.vr m):=h.val m i o
def JS.mL(h:JS w g s)[DecidableEq κ]{enc}{L:List (κ×ia)}(o:MS enc w b L):¬b∈g.ds/\∀m∈g.ds,∀c l gg,g.str m=qa (c,l)->l≠[]->(g.ly m).1=qa ⟨gg,0,za⟩->gg≠b:=by
 refine⟨λq=>?_,λm hm' c l gg hs hl hg e=>?_⟩
 .have⟨p,i⟩:=h.gl.qB q;rw[o.qQ 0]at i
  cases i
 .have⟨ga,i,q2,_⟩:=h.gl.row hm' hs<|List.length_pos_iff.2 hl;rw[hg]at i;injection i with i;injection i with i;subst i;rw[e,o.qQ _]at q2
  cases q2
def OR.var(h:JS w g s){v}(o:B<=n)(nd:¬n∈g.ds)(r:∀n,s.u n->us cnt n)(C:ρ v=za)(hr:∀y n',ρ y=qa n'->s.u n'):OR l B g s cnt ρ (g.add n za (cnt+1) (za,0) l<|.var<|cnt+1) ⟨s.k,λm=>s.u m\/m=cnt+1⟩ (cnt+1) (λy=>if y=v then qa (cnt+1)else ρ y):=by
 have hnu:¬s.u (cnt+1):=λq=>by have:=r _ q;rw[us]at this;omega
 have i:∀y n',ρ y=qa n'->y≠v:=λy n' q e=>by rw[e,C]at q;cases q
 refine⟨iL.add h nd rfl (λ_=>br _),λ_ _ _=>Iff.rfl,rfl,λy n' q=>by simp[i y n' q,q],ae,λm q=>q.imp id λe=>ae,λy n' h0 h1=>?_,λy y' n' h0 h1 h2=>?_,λn'=>⟨?_,?_⟩,λm hm=>?_,λm hm=>?_,λm hm q=>by rw[(List.mem_cons.1 hm).resolve_right q];simp[zv]⟩
 .grind
 .grind
 .grind
 .grind
 .have e:m≠n:=λe=>nd<|e▸hm;simp[zv,e]
 .by_cases e:m=n
  .subst e;exact xk ⟨o,λgg q=>by simp[zv]at q⟩
  .exact Oz
def rH.rng(h:rH c l kb jb mb w g s cnt ρ)(j:JS w g s):∀y n',ρ y=qa n'->s.u n':=λy n' q=>by
 have⟨L,h1,i⟩:=h.mp;obtain⟨r,_⟩|⟨n,m,o,r2,C,G,I,r6⟩:=i y
 .rw[r]at q;cases q
 .rw[o]at q;injection q with q;subst q;rw[<-I];exact j.use m C G
def aaZ(h:JE w c nb l cnt)(j:JS w g s)(hu:∀n,s.u n->us cnt n)(r:rH c l kb jb mb w g s cnt ρ)v(hc:cnt+1<=900000):aa zi 319 #[Nv v,Pv kb,Pv jb] w (Gv c nb l (λb=>b=mb) (rH c l kb jb mb) g s cnt ρ (.var v) w):=by
 have⟨L,I,HL⟩:=r.mp;have X:=I.look (KL.num Tryz.underlying182) Tryz.underlying449 (yD w) (v:Int) trivial (λ_ _=>trivial) true;have J:=r.bk.c 0;have N:=r.bj.c 0;have a0:kb≠mb:=λe=>by have:=I.qQ 0;rw[<-e,J]at this;cases this
 have b0:jb≠mb:=λe=>by have:=I.qQ 0;rw[<-e,N]at this;cases this
 have c0:c.cb≠mb:=by have:=r.V7.2.2.1;omega
 obtain⟨HR,q⟩|⟨n,m,r1,r2,r3,r4,r5,r6⟩:=HL v
 .rw[q]at X;simp at X;have R:kb≠c.cb:=λe=>by have:=h.ct.c 0;rw[<-e,J]at this;simp at this
  have d0:jb≠c.cb:=λe=>by have:=h.ct.c 0;rw[<-e,N]at this;simp at this
  have HV:=og h j hu ae;have Y:=ai r;have HJ:=ai j;go_in;go_wp;refine HV.mono ?_;rintro e w1⟨n,rfl,Z,G,C,i⟩;have hc1:=(Y.bk.fr i R).c 0;have e0:=Y.bk.fr i R;have f0:=Y.bj.fr i d0;have U:=I.same<|i.block mb I.lt<|λe=>c0 e.symm;have HX:=And.intro G<|And.intro C i;go_wp2_with(refine aV _ rfl _ _ _ _ (Or.inr rfl) (KL.num Tryz.underlying182) Tryz.underlying449 _ _ rfl U (v:Int) (nA n) rfl rfl trivial (λ_ _=>trivial) ?_;intro w' H' O';have g0:=ai H';have O2:=ai O';clear H' O');go_ret;obtain⟨G,C,i⟩:=HX;have O:=uh O2;have j:=uh HJ;have nd:¬n∈g.ds:=λq=>by have:=j.lt q;omega
  have r:=uh Y;have⟨f1,f2,f3,f4,f5⟩:=r.V7;have⟨n1,n2⟩:=C.mL U;refine⟨n,_,_,cnt+1,_,rfl,G.one O f1 f2 f3 f4 f5,C.one O n1 n2,⟨e0.same (xo O.size.symm)<|O.block kb a0,f0.same (xo O.size.symm)<|O.block jb b0,⟨_,g0,λy=>?_⟩,r.V7⟩,OR.var j (v:=v) Z nd hu HR<|r.rng j,ag,?_,λx k=>?_,λy=>⟨λo=>?_,λo=>?_⟩,by simp[size],?_⟩
  .rw[aO];by_cases e:y=v
   .subst e;refine xk ⟨cnt+1,n,ag,ag,ag,Oy,Oy,λx k=>?_⟩;have:x=n:=k.one<|.here (j.gl.out _ nd).1;subst this;simp[zv]
   .have e':¬(v:Int)=(y:Int):=ae;simp only[e,e',if_false];refine(HL y).imp id ?_;rintro⟨n',m,r1,r2,r3,r4,r5,r6⟩;have e:m≠n:=λe=>nd<|e▸r3;exact OG
  .have h0:¬s.u (cnt+1):=λq=>by have:=hu _ q;rw[us]at this;omega
   simp[zv,sub,jd,j.ok.out _ h0]
  .have:x=n:=k.one<|.here (j.gl.out _ nd).1;subst this;simp[zv]
  .simp only[aA]at o;subst o;simp
  .simp only[aA]at o;simp[z9 o]
  .exact⟨O.os.trans i.os,O.tape.trans i.tape,O.output.trans i.output,by rw[O.size];exact i.size,λk hk Z=>(O.block k<|λe=>Z<|xk e).trans<|i.block k hk<|λe=>Z<|xj e⟩
 .rw[r2]at X;simp at X;have HX:=show Gv c nb l (λb=>b=mb) (rH c l kb jb mb) g s cnt ρ (.var v) w (Rv<|nA m) w from⟨m,g,s,cnt,ρ,rfl,h,j,r,OR.refl j _ _ _ _,r3,by simp[sub,In.via,r1,j.LZ r3 r4,r5],r6,λy=>⟨λo=>by simp only[aA]at o;subst o;simp[r1],λ_=>rfl⟩,ae,Fr.refl _ _⟩;go_wp2
  go_ret;exact HX
end
section
variable {c:JC} {cnt Kb:Nat}
def aeb n:OfJ c nb l Kb (λb=>b=mb) (rH c l kb jb mb) (anV kb jb) (λ_=>True) (.var n):=by
 intro w g s cnt ρ Q v I J N o hkb O hQ hs hA C
 cases O
 have R:=aaZ I J N o n (by simpa[size]using C);go_in;go_wp;refine R.mono ?_;rintro e w1⟨m,U,X,i,G,rfl,r⟩
 go_wp2
 go_ret;exact⟨m,U,X,i,G,rfl,r⟩
mutual
def OH(i:kb<Kb)(o:jb<Kb)(r:mb<Kb):∀T:Ty,OfJ c nb l Kb (λb=>b=mb) (rH c l kb jb mb) (anV kb jb) (λ_=>True) T
 |.var n=>aeb n|.aM k L=>VZ (xk ⟨_,_,rfl⟩) (rH.ks i o r) k L<|ac3 i o r L
def ac3(o:kb<Kb)(r:jb<Kb)(C:mb<Kb):∀(L:List Ty)(i:Nat)(h:i<L.length),OfJ c nb l Kb (λb=>b=mb) (rH c l kb jb mb) (anV kb jb) (λ_=>True) L[i]
 |[],i,h=>absurd h (zg _)|t::L,0,h=>OH o r C t|t::L,i+1,h=>ac3 o r C L i<|Nat.lt_of_succ_lt_succ h
end
abbrev noK:ca->gD->jc->Nat->ji->Prop:=λ_ _ _ _ _=>True
def aih:OKs c l 0 (λ_=>False) noK:=⟨λ_ _ _ _ _ _ _ _=>trivial,λ_ _ _ _ _ _ _ _ _ _=>trivial,λ_ _ _ _ _ _ _ _ _ _ _ _=>trivial,λ_ h=>h.elim⟩
mutual
def ac4:∀T:Ty,OfJ c nb l 0 (λ_=>False) noK .nilFunc (λ_=>False) T
 |.var n=>λw g s cnt ρ Q v _ _ _ _ _ _ _ _ hA _=>(hA n rfl).elim|.aM k L=>VZ (xj rfl) aih k L<|ac5 L
def ac5:∀(L:List Ty)(i:Nat)(h:i<L.length),OfJ c nb l 0 (λ_=>False) noK .nilFunc (λ_=>False) L[i]
 |[],i,h=>absurd h (zg _)|t::L,0,h=>ac4 t|t::L,i+1,h=>ac5 L i<|Nat.lt_of_succ_lt_succ h
end
def agu c nb l g(s:jc)cnt T w(e:ka)w':=
 ∃n g' aR,e=.returned (nA n)/\JE w' c nb l aR/\JS w' g' s/\OR l w.heap.size g s cnt j9 g' s aR j9/\n∈g'.ds/\g'.V n=T/\(∀x,Hd g'.nx n x->g'.lv x<=l)/\aR<=cnt+size T/\Fr (λb=>b=c.cb) w w'
def aii (J:∀v,¬aA v T) (h:Gv c nb l (λ_=>False) noK g s cnt j9 T w e w'):agu c nb l g s cnt T w e w':=by
 obtain ⟨n,O,N,i,iU,rfl,R,U,_,C,X,Y,Z,h8,h9,G⟩:=h;have I:=funext λv=>(h8 v).2 (J v);subst I;have hs:N=s:=by
  obtain ⟨k',u'⟩:=N;obtain ⟨k,u⟩:=s;have e1:k'=k:=C.kk;have e2:u'=u:=funext λn=>propext ⟨λq=>((C.VY n).1 q).elim id (λ⟨v,_,r⟩=>nomatch r),λq=>(C.VY n).2 (xj q)⟩;rw [e1,e2]
 subst hs;refine ⟨n,O,i,rfl,R,U,C,X,?_,Z,h9,G.fU λb q=>q.elim id False.elim⟩;rw [Y,j5 (t:=T) λv o=>(J v o).elim,j5 λv o=>(J v o).elim]
def aa0(h:JE w c nb l cnt)(j:JS w g s)(O:∀n,s.u n->us cnt n)(C:eh w Q T v)(U:∀b,Q b->b≠c.cb)(X:size T<=1000)(G:∀n,¬aA n T)(hc:cnt+size T<=900000):aa zi 290 #[Pv c.eb,v] w (agu c nb l g s cnt T w):=by
 have f1:=h.bx.c 4;have I:=ac4 T w g s cnt In.Bt Q v h j O trivial (Nat.zero_le _) C (λb q=>⟨U b q,id⟩) X (λn o=>G n o) hc;obtain⟨tv,xv,rfl⟩:=C.iface;go_in;go_wp;refine I.mono ?_;rintro e w1 r;have J:=aii G r;obtain⟨n,N,i,rfl,R⟩:=J
 go_wp2
 go_ret;exact⟨n,N,i,rfl,R⟩
def OI(h:JE w c nb l cnt)(g:gD)(s:jc):aa zi 305 #[Pv c.eb] w λe w'=>∃kb jb mb,e=.returned (anV kb jb)/\rH c l kb jb mb w' g s cnt j9/\Bq w w'/\(kb<w'.heap.size/\jb<w'.heap.size/\mb<w'.heap.size)/\w.heap.size<=mb/\w.heap.size<=jb/\w.heap.size<=kb:=by
 have o:=ai h;go_wp2
 go_ret;have h:=uh o;have i:=(((zt w.heap.size w).alloc (br _)<|Cv #[Pv c.eb] 87).alloc ag<|.map #[] 0).alloc bQ<|Cv #[Mv<|w.heap.size+1] 449;have z1:=h.z.2.2;have z2:=h.bx.z;have z3:=h.ct.z;have z4:=h.rs.lt;have z5:=h.ms.lt;refine⟨w.heap.size+1+1,w.heap.size,w.heap.size+1,rfl,⟨?_,?_,⟨[],?_,λv=>xj ⟨rfl,rfl⟩⟩,ae,ae,ae,ae,ae⟩,i,bQ,ae,ae,ae⟩
 .have:=vg ((w.alloc<|Cv #[Pv c.eb] 87).alloc<|.map #[] 0) #[Mv<|w.heap.size+1] 449;simpa using this
 .exact((vg w #[Pv c.eb] 87).alloc _).alloc _
 .have:=(MS.new (λn:Int=>Iv n)<|w.alloc<|Cv #[Pv c.eb] 87).below<|bw<|Cv #[Mv<|w.heap.size+1] 449;simpa using this
def OR.drawn(h:OR l B g s cnt ρ g1 s1 al bI)(i:∀v,(aA v T->bI v≠za)/\(¬aA v T->bI v=ρ v)):In.qD T ρ s (.ok ((sub (jd bI) T,bI),s1)):=by
 refine xk ⟨bI,s1,⟨bI,s1.u,⟨h.ext,λv q=>(i v).2 λo=>q<|In.aE.2 o,λv q=>(i v).1<|In.aE.1 q,h.nw,h.on,h.VY⟩,?_⟩,rfl⟩;have:=h.kk;obtain⟨k',u'⟩:=s1;simp only at this;rw[this]
end
def Fa(g:gD)l n:=∃S:Nat->Prop,ScD g.str g.ds g.nx S/\(∀x,S x->g.lv x<=l\/g.lv x=aL)/\∀h,Hd g.nx n h->S h
def ew(g:gD)v:=∃x,g.R v x/\g.lv x=aL
structure tX(E:Nat->Prop)l sb w(g:gD)(s:jc)(ρ:ji)M:Prop where
 ms:MS A8 w sb M
 kd:∀p,p∈M->p.1∈g.ds
 gm:∀h v,ba h M=qa v->∃m,v=nA m/\m∈g.ds/\g.V m=sub (jd ρ) (g.V h)/\(∀x,Hd g.nx m x->g.lv x<=l)/\∀y,aA y (g.V h)->ew g y->ρ y≠za
 rn:∀v n,ρ v=qa n->s.u n/\∃x,g.R v x/\g.lv x=aL/\(ba x M≠za\/E x)
section
variable {c:JC} {cnt:Nat} {M:List (Nat×ia)}
def tX.any(h:tX E l sb w g s ρ M){v:Nat}(q:ρ v=qa n):ew g v:=by
 have⟨_,x,r,q,_⟩:=h.rn v n q;exact⟨x,r,q⟩
def Fa.mv(h:JS w g s)(h1:JS w1 g1 s1)(o:OR l B g s cnt ρ g1 s1 al bI){L:Nat}(C:n∈g.ds)(f:Fa g L n):Fa g1 L n:=by
 obtain⟨S,G,I,J⟩:=f;refine⟨λx=>S x/\x∈g.ds,λx hx hnx hS k l hs p hp y ky=>?_,λx hx=>by rw[(o.fV x hx.2).1];exact I x hx.1,λy ky=>?_⟩
 .have e:=(o.st.fV x hS.2).2.1;rw[e]at hs;have r:=(h.gl.part hS.2 hs).2 p hp;have i:=(o.hd p r y).1 ky;exact⟨G x hS.2 ((o.hd x hS.2 x).1<|.here hnx).head hS.1 k l hs p hp y i,h.gl.bN r i⟩
 .have i:=(o.hd n C y).1 ky;exact⟨J y i,h.gl.bN C i⟩
def Fa.part{L a:Nat}{k}(f:Fa g L n)(r:Hd g.nx n a)(i:a∈g.ds)(I:g.str a=qa (k,ps))(J:p∈ps):Fa g L p:=by
 obtain⟨S,o,C,G⟩:=f;exact⟨S,o,C,λy ky=>o a i r.head (G a r) k ps I p J y ky⟩
def ew.back(h:JS w g s)(G:JS w1 g1 s1)(o:OR l B g s cnt ρ g1 s1 al bI){v:Nat}(I:p∈g.ds)(J:aA v (g.V p))(a:ew g1 v):ew g v:=by
 obtain⟨x,r,q⟩:=a;have⟨y,i⟩:=h.nR I J;have⟨b1,b2,C⟩:=o.st.fV y i.1;have e:=G.inj y x b1 r.1 (b2.trans i.2.2.1) r.2.2.1 (by rw[C,i.2.2.2,r.2.2.2]);subst e;exact⟨y,i,by rw[<-(o.fV y i.1).1];exact q⟩
def ew.fwd(h:JS w g s)(o:OR l B g s cnt ρ g1 s1 al bI){v:Nat}(a:ew g v):ew g1 v:=by
 obtain⟨x,r,q⟩:=a;have⟨b1,b2,i⟩:=o.st.fV x r.1;exact⟨x,⟨b1,((o.hd x r.1 x).2<|.here r.2.1).head,b2.trans r.2.2.1,i.trans r.2.2.2⟩,by rw[(o.fV x r.1).1];exact q⟩
def aa1(h:JS w g s)(i:JS w1 g1 s1)(o:OR l B g s cnt ρ g1 s1 al bI)(r:∀v n,bI v=qa n->ew g1 v)(C:p∈g.ds)(hc:∀v,aA v (g.V p)->ew g v->ρ v≠za):sub (jd ρ) (g.V p)=sub (jd bI) (g.V p):=sub_congr _ λv ov=>by
 unfold jd
 cases e:ρ v with
 |some n=>rw[o.ext v n e]|none=>
  cases e1:bI v with
  |none=>rfl|some n=>exact absurd e<|hc v ov<|ew.back h i o C ov<|r v n e1
def aec(h:JS w g s)(hr:∀v n,ρ v=qa n->ew g v){x}(C:n∈g.ds)(G:Hd g.nx n x)(hl:g.lv x<aL):(∀v,aA v (g.V n)->¬ew g v)/\sub (jd ρ) (g.V n)=g.V n:=by
 have a:∀v,aA v (g.V n)->¬ew g v:=λv ov⟨y,r,q⟩=>by
  have⟨z,i,o⟩:=fq (lv:=g.lv) h.jg h.can _ n x C G (br _) ov;have e:=h.inj z y i.1 r.1 i.2.2.1 r.2.2.1<|i.2.2.2.trans r.2.2.2.symm;subst e;have:=o h.lc;omega
 refine⟨a,j5 λv ov=>?_⟩;rw[jd]
 cases e:ρ v with
 |none=>rfl|some n=>grind
end
abbrev vrV(c:JC):ia:=.func (.func 299) #[Pv c.eb] #[]
abbrev Gw c l sb:=#[Nv l,vrV c,Mv sb]
def L3 E c nb l sb g(s:jc)cnt(ρ:ji)n w(e:ka)w':=
 ∃m g' s' aR iU M',e=.returned (nA m)/\JE w' c nb l aR/\JS w' g' s'/\tX E l sb w' g' s' iU M'/\OR l w.heap.size g s cnt ρ g' s' aR iU/\m∈g'.ds/\g'.V m=sub (jd iU) (g.V n)/\(∀x,Hd g'.nx m x->g'.lv x<=l)/\(∀v,aA v (g.V n)->ew g v->iU v≠za)/\(∀v,ρ v=za->iU v≠za->aA v (g.V n))/\aR<=cnt+size (g.V n)/\Fr (λb=>b=c.cb\/b∈g.ds\/b=sb) w w'
def SQ(c:JC)sb:=c.fU<=sb/\c.eb<sb/\c.cb<sb/\c.rb<sb/\c.mb<sb
def aa2 c nb l sb k:=∀(w:ca)(g:gD)(s:jc)(cnt:Nat)(ρ:ji)(M:List (Nat×ia))(n:Nat),JE w c nb l cnt->JS w g s->(∀n,s.u n->us cnt n)->tX (λ_=>False) l sb w g s ρ M->n∈g.ds->Fa g l n->size (g.V n)<=k->cnt+size (g.V n)<=900000->aa zi 321 #[.agg<|Gw c l sb,nA n] w (L3 (λ_=>False) c nb l sb g s cnt ρ n w)
def agv c nb l sb k:=∀(w:ca)(g:gD)(s:jc)(cnt:Nat)(ρ:ji)(M:List (Nat×ia))(h:Nat),JE w c nb l cnt->JS w g s->(∀n,s.u n->us cnt n)->tX (λ_=>False) l sb w g s ρ M->h∈g.ds->g.nx h=za->g.lv h=aL->ba h M=za->Fa g l h->size (g.V h)<=k->cnt+size (g.V h)<=900000->aa zi 323 #[.agg<|Gw c l sb,nA h] w (L3 (λx=>x=h) c nb l sb g s cnt ρ h w)
section
variable {c:JC} {cnt:Nat} {M:List (Nat×ia)}
def OR.eqv{bh:Nx}(h:JS w g s)(e:iK g.str g.nx bh)(i:GL w' g.ds g.str bh g.vr g.ly g.lv)(B:Nat):OR l B g s cnt ρ {g with nx:=bh} s cnt ρ where
 st:=iL.eqv h e i l
 hd m _ x:=⟨e.back h.gl,e.lB m x⟩
 kk:=rfl
 ext _ _ q:=q
 cc:=br _
 uu _ q:=xj q
 nw v n q r:=qAw
 on v v' n q r:=qAw
 VY n:=⟨xj,λq=>q.elim id λ⟨v,q,r⟩=>qAw⟩
 fV m _:=⟨rfl,rfl⟩
 new m hm:=xj ⟨hm,rfl,rfl⟩
 nl m hm q:=absurd hm q
def tX.eqv(h:tX E l sb w g s ρ M)(j:JS w g s)(e:iK g.str g.nx bh)(i:MS A8 w' sb M):tX E l sb w' {g with nx:=bh} s ρ M where
 ms:=i
 kd:=h.kd
 gm y v q:=by
  have⟨m,o,r,C,G,I⟩:=h.gm y v q;exact⟨m,o,r,C,λx k=>G x<|e.back j.gl k,λz oz⟨x,⟨a1,a2,a3,a4⟩,b⟩=>I z oz ⟨x,⟨a1,(e.AQ x).1 a2,a3,a4⟩,b⟩⟩
 rn v n q:=by
  have⟨o,x,⟨a1,a2,a3,a4⟩,q2,r⟩:=h.rn v n q;exact⟨o,x,⟨a1,(e.AQ x).2 a2,a3,a4⟩,q2,r⟩
def tX.put{a:Nat}(h:tX (λx=>x=a) l sb w g s ρ M)(i:MS A8 w' sb (bF a (nA m) M))(G:a∈g.ds)(I:m∈g.ds)(J:g.V m=sub (jd ρ) (g.V a))(N:∀x,Hd g.nx m x->g.lv x<=l)(O:∀y,aA y (g.V a)->ew g y->ρ y≠za):tX (λ_=>False) l sb w' g s ρ (bF a (nA m) M) where
 ms:=i
 kd p hp:=by
  have:ba p.1 (bF a (nA m) M)≠za:=λq=>by
   have:=(rX (x:=p.1) (L:=bF a (nA m) M)).2<|qz hp;rw[q]at this
   cases this
  rw[aO]at this;split at this
  .rename_i e;rw[<-e];exact G
  .cases e:ba p.1 M with
   |none=>exact absurd e this|some v=>exact h.kd (p.1,v)<|pu e
 gm y v q:=by
  rw[aO]at q;split at q
  .rename_i e;subst e;injection q with q;exact⟨m,q.symm,I,J,N,O⟩
  .exact h.gm y v q
 rn v n q:=by
  have⟨o,x,r,q2,C⟩:=h.rn v n q;refine⟨o,x,r,q2,xj ?_⟩;rw[aO];split
  .simp
  .rename_i e;exact C.resolve_right<|λq=>e q.symm
def Gx{p:Prop}(h:p:=by
 by_cases e:z=n
 .simp[zv,e]
 .simp only[zv,e,if_false];exact r4 z k):p:=h
def tX.var{w1}(h:tX (λ_=>False) l sb w g s ρ M)(j:JS w g s)(G:MS A8 w1 sb M){x n}(o:x∈g.ds)(R:g.nx x=za)(I:g.str x=za)(U:g.lv x=aL)(X:ba x M=za)(nd:¬n∈g.ds)(hll:l<aL):ρ (g.vr x)=za/\tX (λy=>y=x) l sb w1 (g.add n za (cnt+1) (za,0) l<|.var<|cnt+1) ⟨s.k,λm=>s.u m\/m=cnt+1⟩ (λy=>if y=g.vr x then qa (cnt+1)else ρ y) M:=by
 have J:ρ (g.vr x)=za:=by
  cases e:ρ (g.vr x)with
  |none=>rfl|some n'=>
   have⟨_,y,r,_,q⟩:=h.rn _ _ e;have:=j.inj x y o r.1 I r.2.2.1 r.2.2.2.symm;subst this;exact(q.resolve_right id X).elim
 have i:∀m,m∈g.ds->m≠n:=λm hm e=>nd<|e▸hm;have C:∀v,ew (g.add n za (cnt+1) (za,0) l<|.var<|cnt+1) v->ew g v:=λv⟨y,⟨r1,r2,r3,r4⟩,q⟩=>by
  by_cases e:y=n
  .subst e;simp[zv]at q;omega
  .exact⟨y,⟨(List.mem_cons.1 r1).resolve_left e,r2,by simpa[zv,e]using r3,by simpa[zv,e]using r4⟩,by simpa[zv,e]using q⟩
 refine⟨J,G,λp hp=>ql _<|h.kd p hp,λy v q=>?_,λv n' q=>?_⟩
 .have⟨m,r1,r2,r3,r4,N⟩:=h.gm y v q;have O:y∈g.ds:=by
   have:(y,v)∈M:=pu q;exact h.kd _ this
  refine⟨m,r1,ql _ r2,?_,λz k=>?_,λz oz az=>?_⟩
  .simp only[zv,i m r2,i y O,if_false];rw[r3];refine sub_congr _ λz oz=>?_;unfold jd;by_cases e:z=g.vr x
   .exact absurd J (by rw[<-e];exact N z oz ⟨x,⟨o,R,I,e.symm⟩,U⟩)
   .simp[e]
  .exact Gx
  .simp only[zv,i y O,if_false]at oz;have:=N z oz<|C z az;by_cases e:z=g.vr x
   .simp[e]
   .simpa[e]using this
 .by_cases e:v=g.vr x
  .simp[e]at q;exact⟨xk q.symm,x,⟨ql _ o,R,by simp[zv,i x o,I],by simp[zv,i x o,e]⟩,by simp[zv,i x o,U],xk rfl⟩
  .simp[e]at q;have⟨N,y,⟨r1,r2,r3,r4⟩,q2,O⟩:=h.rn v n' q;exact⟨xj N,y,⟨ql _ r1,r2,by simp[zv,i y r1,r3],by simp[zv,i y r1,r4]⟩,by simp[zv,i y r1,q2],O.imp id False.elim⟩
def SR(hf:SQ c sb)(U:l<aL)(h:JE w c nb l cnt)(j:JS w g s)(J:∀n,s.u n->us cnt n)(G:tX (λ_=>False) l sb w g s ρ M){x}(Z:x∈g.ds)(hn:g.nx x=za)(hl:g.lv x=aL)(hg:ba x M=za)(X:g.str x=za)(hc:cnt+1<=900000):aa zi 323 #[.agg<|Gw c l sb,nA x] w (L3 (λy=>y=x) c nb l sb g s cnt ρ x w):=by
 have i:Bq w (w.alloc<|Cv (Gw c l sb) 454):=bw _;have⟨_,_,O,_,_⟩:=((j.af i).gl.nd x Z).cells;rw[X]at O;have c3':(w.alloc<|Cv (Gw c l sb) 454).cell? ⟨x,3,za⟩=qa (Sv ⟨#[]⟩):=O;have b1:(w.alloc<|Cv (Gw c l sb) 454).cell? ⟨w.heap.size,1,za⟩=qa (vrV c):=(Bx.new w (Gw c l sb) 454).c 1;have Y:=og (h.af i) (j.af i) J ae;have zc:=h.ct.z;have HX:=ai<|And.intro h<|And.intro j<|And.intro J G;have K0:=ai i;clear h j J G i O;go_in;go_wp;refine Y.mono ?_;rintro e w1⟨n,rfl,hnn,r,C,I⟩;have HY:=ai<|And.intro r<|And.intro C I;clear Y r C I
 go_wp2
 go_ret;have⟨h,j,J,G⟩:=uh HX;have⟨r,C,I⟩:=uh HY;have i:=uh K0;have zk:=i.size;have nd:¬n∈g.ds:=λq=>by have:=j.lt q;omega
 have zs:=G.ms.lt;obtain⟨f1,f2,f3,f4,f5⟩:=hf;have R:MS A8 w1 sb M:=(G.ms.below i).same (I.block sb ae (λe=>by have e:sb=c.cb:=e;omega));have⟨hr,DC⟩:=G.var j (cnt:=cnt) R Z hn X hl hg nd U;have N:g.V x=.var (g.vr x):=by have:=j.can x x<|.here hn;rw[X]at this;exact this
 refine⟨n,_,_,cnt+1,_,M,rfl,r,C,DC,OR.var j (v:=g.vr x) ae nd J hr<|λy n' q=>(G.rn y n' q).1,ag,?_,λz k=>?_,λv o _=>?_,λv q q'=>?_,by rw[N];simp[size],?_⟩
 .simp[zv,N,sub,jd]
 .have:z=n:=k.one<|.here (j.gl.out _ nd).1;subst this;simp[zv]
 .rw[N]at o;simp only[aA]at o;simp[o]
 .rw[N];simp only[aA];exact vf λe=>q' (by simp[z9 e,q])
 .exact(Fr.of i).trans (I.fU λb q=>xj q)
def aed(hf:SQ c sb)(x0:l<aL)(HM:agv c nb l sb k):aa2 c nb l sb k:=by
 intro w g s cnt ρ M n h j hu N R fa hk hc;have⟨a,r⟩:=j.gl.hd n R;have Y:=j.gl.bN R r;have⟨J,BA⟩:=rF w (Gw c l sb) 454;have HC:=qP (j.af J).gl R r;have zs:=N.ms.lt;have c0:∀x∈g.ds,x<w.heap.size:=λx hx=>j.lt hx;have C:=And.intro h<|And.intro j<|And.intro hu<|And.intro N fa;have h0:=ai r;have K0:=ai J;go_in;go_wp;refine HC.mono ?_;rintro e w1⟨rfl,G,G1,F1,Z,z1⟩;have j:=C.2.1;have N:=C.2.2.2.1;have r:=uh h0;have J:=uh K0;have zk:=J.size;have i0:=(j.mL N.ms).1;have d0:¬w.heap.size∈g.ds:=λq=>by have:=c0 _ q;omega
 have I:=BA.fr F1 d0;have M1:=(N.ms.below J).same<|F1.block sb ae i0;have U:=j.eqv Z G1;have DC:=N.eqv j Z M1;have X:OR l w.heap.size g s cnt ρ {g with nx:=G} s cnt ρ:=OR.eqv j Z G1 _;have j0:=C.1.yB j;have l0:=C.1.yA j;have e1:=(C.1.af J).fr (j.af J) (F1.fU λb q=>xk<|xk q) ((C.1.af J).bx.fr F1 l0)<|(C.1.af J).ct.fr F1 j0;have FF:Fr (λb=>b=c.cb\/b∈g.ds\/b=sb) w w1:=(Fr.of J).trans' F1<|λx q=>xj<|xk<|xj q;have⟨o0,_⟩:=(G1.nd a Y).lvl;have i:g.V n=g.V a:=by rw[j.can n a r,j.can a a<|.here r.head]
 have b2:=I.c 2;by_cases a0:g.lv a=aL
 .have e0:∀x∈g.ds,∃c t,w1.heap[x]? =qa (Cv c t (0,0)):=λx hx=>⟨_,_,(G1.nd x hx).1⟩;have hl:=M1.look V8 Tryz.underlying452 (yD w1) a (e0 a Y) (λp hp=>e0 p.1<|N.kd p hp) true;rw[a0]at o0
  cases hg:ba a M with
  |some v=>
   rw[hg]at hl;obtain⟨m,rfl,r2,r3,r4,r5⟩:=DC.gm a v hg;simp at hl;have HY:=show L3 (λ_=>False) c nb l sb g s cnt ρ n w (Rv<|nA m) w1 from⟨m,{g with nx:=G},s,cnt,ρ,M,rfl,e1,U,DC,X,r2,by rw[i];exact r3,r4,λv o av=>r5 v (by rw[<-i];exact o)<|ew.fwd j X av,λv q q'=>absurd q q',ae,FF⟩
   go_wp2
   go_ret;exact HY
  |none=>
   rw[hg]at hl;simp at hl;have p0:Fa {g with nx:=G} l a:=by
    have⟨S,f1,f2,f3⟩:=C.2.2.2.2.mv j U X R;exact⟨S,f1,f2,λy ky=>by rw[ky.one<|.here (Z.lB _ _ r).head];exact f3 a<|Z.lB _ _ r⟩
   have HD:=HM w1 {g with nx:=G} s cnt ρ M a e1 U C.2.2.1 DC Y (Z.lB _ _ r).head a0 hg p0 (by rw[i]at hk;exact hk) (by rw[i]at hc;exact hc);have b0:=I.c 0;have b1:=I.c 1;have zb1:=I.z;have HY:=zh U<|zh X FF;have q0:=ai j;have r0:¬(w.heap.size=c.cb\/w.heap.size∈g.ds\/w.heap.size=sb):=by
    have:=C.1.ct.z;rintro(q|q|q)
    .omega
    .exact d0 q
    .omega
   go_wp2_with fail;refine HD.mono ?_;rintro e w2⟨m,g2,s2,dH,nV,M2,rfl,e2,j2,OJ,o2,r1,r2,r3,r4,r5,r6,F2⟩;have b2':=(I.fr F2 r0).c 2;have t0:=ai OJ.ms;have f0:∀x∈g2.ds,∃c t,w2.heap[x]? =qa (Cv c t (0,0)):=λx hx=>⟨_,_,(j2.gl.nd x hx).1⟩;have g0:=(o2.st.fV a Y).1;have u0:=ai OJ.kd;have HZ:=zh e2<|zh j2<|zh OJ<|zh o2<|zh r1<|zh r2<|zh r3<|zh r4<|zh r5<|zh r6 F2;go_wp2_with(refine aV _ rfl _ _ _ _ (xk rfl) V8 Tryz.underlying452 _ _ rfl t0 a (nA m) rfl rfl (f0 a g0) (λp hp=>f0 p.1<|u0 p hp) ?_;intro w3 H' O';have v0:=ai H';have O3:=ai O';clear H' O');go_ret;obtain⟨e2,j2,OJ,o2,r1,r2,r3,r4,r5,r6,F2⟩:=HZ;obtain⟨U,X,FF⟩:=HY;have O:=uh O3;have j:=uh q0;obtain⟨f1,f2,f3,f4,f5⟩:=hf;have⟨n1,n2⟩:=j2.mL OJ.ms;have eV:=(o2.fV a Y).2;refine⟨m,g2,s2,dH,nV,_,rfl,e2.one O f1 f2 f3 f4 f5,j2.one O n1 n2,OJ.put v0 g0 r1 (by rw[eV];exact r2) r3<|λy oy ay=>?_,X.trans j U j2 o2 ae,r1,by rw[i];exact r2,r3,λv o av=>r4 v (by show aA v (g.V a);rw[<-i];exact o) (ew.fwd j X av),λv q q'=>by rw[i];exact r5 v q q',by rw[i];exact r6,?_⟩
   .rw[eV]at oy;exact r4 y oy<|ew.back U j2 o2 Y oy ay
   .have F3:=FF.trans F2;exact⟨O.os.trans F3.os,O.tape.trans F3.tape,O.output.trans F3.output,by rw[O.size];exact F3.size,λk hk R=>(O.block k<|λe=>R<|xk<|xk e).trans<|F3.block k hk R⟩
 .have e0:g.lv a<=l:=by
   have⟨S,f1,f2,f3⟩:=C.2.2.2.2;exact(f2 a<|f3 a r).resolve_right a0
  have hne:¬((g.lv a:Nat):Int)=9223372036854775807:=by have:l<9223372036854775807:=x0;omega
  have⟨v1,v2⟩:=aec j (λv n=>N.any) R r ae;have HY:=show L3 (λ_=>False) c nb l sb g s cnt ρ n w (Rv<|nA a) w1 from⟨a,{g with nx:=G},s,cnt,ρ,M,rfl,e1,U,DC,X,Y,by rw[v2];exact i.symm,(λx k=>by rw[k.one<|.here (Z.lB _ _ r).head];exact e0),λv o av=>absurd av<|v1 v o,λv q q'=>absurd q q',ae,FF⟩
  go_wp2
  go_ret;exact HY
end
def CpR c nb l sb g(s:jc)cnt(ρ:ji)(L:List Nat)w gk v wr:=
 ∃(j:Nat)(C:Array ia)(G:gD)(I:jc)(o:Nat)(r:ji)(J:List (Nat×ia))(ps:List Nat),Hid (gk=L.length-j)/\j<=L.length/\v=Nv j/\JE wr c nb l o/\JS wr G I/\tX (λ_=>False) l sb wr G I r J/\OR l (w.heap.size+2) g s cnt ρ G I o r/\Fr (λb=>b=c.cb\/b∈g.ds\/b=sb) w wr/\Bx wr w.heap.size (Gw c l sb)/\Bx wr (w.heap.size+1) C/\Hid (C.size=L.length)/\
  Hid (ps.length=j/\(∀m,m∈ps->m∈G.ds/\∀x,Hd G.nx m x->G.lv x<=l)/\ps.map G.V=(L.take j).map (λp=>sub (jd r)<|g.V p)/\(∀i(h:i<ps.length),C[i]? =qa (nA ps[i]))/\(∀v,(∃p,p∈L.take j/\aA v (g.V p))->ew g v->r v≠za)/\(∀v,ρ v=za->r v≠za->∃p,p∈L.take j/\aA v (g.V p))/\o<=cnt+ak ((L.take j).map g.V))
def tX.af{M}(h:tX E l sb w g s ρ M)(i:Bq w w'):tX E l sb w' g s ρ M:=⟨h.ms.below i,h.kd,h.gm,h.rn⟩
def tX.one{E}{l sb b}{w w'}{g}{s}{ρ}{M}(h:tX E l sb w g s ρ M)(o:One b w w')(i:sb≠b):tX E l sb w' g s ρ M:=⟨h.ms.one o i,h.kd,h.gm,h.rn⟩
def tX.add{E:Nat->Prop}{l sb:Nat}{w:ca}{g:gD}{s:jc}{ρ:ji}{M}(h:tX (λ_=>False) l sb w g s ρ M){n}(nd:¬n∈g.ds)q v a T:tX E l sb w (g.add n (qa q) v a l T) s ρ M:=by
 have i:∀m,m∈g.ds->m≠n:=λm hm e=>nd<|e▸hm;refine⟨h.ms,λp hp=>ql _<|h.kd p hp,λy u r=>?_,λu n' r=>?_⟩
 .have⟨m,o,C,G,r4,J⟩:=h.gm y u r;have I:=h.kd _<|pu r;refine⟨m,o,ql _ C,by simp[zv,i m C,i y I,G],λz k=>?_,λz oz⟨t,⟨b1,b2,b3,b4⟩,b5⟩=>?_⟩
  .exact Gx
  .simp only[zv,i y I,if_false]at oz;have e:t≠n:=λe=>by subst e;simp[zv]at b3
   exact J z oz ⟨t,⟨(List.mem_cons.1 b1).resolve_left e,b2,by simpa[zv,e]using b3,by simpa[zv,e]using b4⟩,by simpa[zv,e]using b5⟩
 .have⟨I,y,⟨o,C,G,r4⟩,q2,J⟩:=h.rn u n' r;exact⟨I,y,⟨ql _ o,C,by simp[zv,i y o,G],by simp[zv,i y o,r4]⟩,by simp[zv,i y o,q2],J.imp id False.elim⟩
section
variable {c:JC} {cnt:Nat} {M:List (Nat×ia)}
def SS(hf:SQ c sb)(IH:aa2 c nb l sb K)(h:JE w c nb l cnt)(js:JS w g s)(hu:∀n,s.u n->us cnt n)(cp:tX (λ_=>False) l sb w g s ρ M){x}(hx:x∈g.ds)(hn:g.nx x=za)(fa:Fa g l x){k}{L}(hs:g.str x=qa (k,L))(hz:size (g.V x)<=K+1)(hc:cnt+size (g.V x)<=900000):aa zi 323 #[.agg<|Gw c l sb,nA x] w (L3 (λy=>y=x) c nb l sb g s cnt ρ x w):=by
 have hP:=(js.gl.nd x hx).2.1;rw[hs]at hP;obtain⟨j0,hL,d0,l0⟩:=hP;have hV:g.V x=.aM k (L.map g.V):=by have:=js.can x x<|.here hn;rw[hs]at this;exact this
 have o0:size (g.V x)=1+ak (L.map g.V):=by rw[hV];simp[size]
 have⟨i0,u0,v0,x0,y0⟩:=info_parts BQ;have z0:=jE (by_:=8) vA u0 v0 rfl x0 y0 aD L.length hL;have k0:Bq w (w.alloc<|Cv (Gw c l sb) 454):=bw _;have U:Bq w ((w.alloc<|Cv (Gw c l sb) 454).alloc<|Cv (vo L.length<|.pointer za) 416):=(bw _).alloc ag _;have⟨_,_,a3,_,a4⟩:=((js.af k0).gl.nd x hx).cells;rw[hs]at a3 a4;have e0:(w.alloc<|Cv (Gw c l sb) 454).cell? ⟨x,3,za⟩=qa (Sv<|pn k):=a3;have p0:(w.alloc<|Cv (Gw c l sb) 454).cell? ⟨x,4,za⟩=qa (.slice (g.ly x).1 L.length (g.ly x).2):=a4;have⟨_,_,_,_,d4⟩:=((js.af U).gl.nd x hx).cells;rw[hs]at d4;have q0:((w.alloc<|Cv (Gw c l sb) 454).alloc<|Cv (vo L.length<|.pointer za) 416).cell? ⟨x,4,za⟩=qa (.slice (g.ly x).1 L.length (g.ly x).2):=d4;obtain⟨⟨sa,sc⟩,f0⟩:∃q,g.ly x=q:=⟨_,rfl⟩;rw[f0]at p0 q0;have A0:=ai f0;have C0:((pn k).toList==[])=false:=by rw[<-Bool.not_eq_true,beq_iff_eq];exact OK j0
 have zc:=h.ct.z;have zs:=cp.ms.lt;have ST:Hid (CpR c nb l sb g s cnt ρ L w L.length (Iv 0)<|(w.alloc<|Cv (Gw c l sb) 454).alloc<|Cv (Array.replicate L.length<|.pointer za) 416):=ai ⟨0,Array.replicate L.length<|.pointer za,g,s,cnt,ρ,M,[],ai ag,Nat.zero_le _,rfl,h.af U,js.af U,cp.af U,OR.refl js _ _ _ _,Fr.of U,(Bx.new w _ _).alloc _,by have:=Bx.new (w.alloc<|Cv (Gw c l sb) 454) (Array.replicate L.length<|.pointer za) 416;simpa using this,ai ag,ai ⟨rfl,ag,ag,(λi hi=>by simp at hi),(λv⟨p,q,_⟩=>by simp at q),(λv q q'=>absurd q q'),by simp[ak]⟩⟩;have HJ:=ai js;have HV:=ai hV;have HZ:=ai<|And.intro h.z.2.2<|And.intro h.bx.z<|And.intro h.ct.z<|And.intro h.rs.lt h.ms.lt;have xlt:=js.lt hx;clear h js cp k0 U a3 a4 d4 l0 hV f0;go_wp2
 go_loopg[27] L.length (λgk v wr=>CpR c nb l sb g s cnt ρ L w gk v wr)
 case atStart=>exact ST
 case round=>
  clear ST e0 p0 q0 C0 z0;obtain⟨j,C,g1,s1,al,bI,M1,ps,D0,hj,rfl,X,qC,DC,r,Y,Z,B1,hC,hT⟩:=hrel;have zw:=Y.size;have zb:=B1.z;have N:x∈g1.ds/\g1.ly x=g.ly x/\g1.str x=qa (k,L):=by
   have⟨b1,b2,b3⟩:=r.st.fV x hx;obtain⟨_,q2,_⟩|⟨q,_⟩:=r.new x b1
   .exact⟨b1,q2,b2.trans hs⟩
   .omega
  have G:∀p,p∈L->g1.V p=g.V p:=λp hp=>(r.fV p<|d0 p hp).2;have sz:=o0;by_cases bY:j<L.length
  .have hd:=kK bY;have⟨ga,ea,ra,_⟩:=qC.gl.row N.1 N.2.2 bY;rw[N.2.1,uh A0]at ea;have ea:=ea;subst ea;have⟨x1,x2,x3,x4,x5,x6,x7⟩:=uh hT;have E0:j<(L.map g.V).length:=by simpa using bY
   have⟨y1,y2⟩:=yC (L.map g.V) E0;simp only[List.getElem_map,<-List.map_take]at y1 y2;have J:=qm bY;have g0:=d0 _ J;have HC:=IH wr g1 s1 al bI M1 L[j] X qC (r.used hu) DC (r.st.fV _ g0).1 ((fa.part (.here hn) hx hs J).mv HJ qC r g0) (by rw[G _ J];omega) (by rw[G _ J];omega);have b0:=Z.c 0;have b1:=Z.c 1;have b2:=Z.c 2;have HY:=ai<|zh qC<|zh r<|zh Y<|zh Z<|zh B1 DC;have F0:=ai G;have nm:∀b,w.heap.size<=b->b<w.heap.size+2->¬(b=c.cb\/b∈g1.ds\/b=sb):=λb q1 q2=>by
    rintro(q|q|q)
    .omega
    .obtain⟨q,_⟩|⟨q,_⟩:=r.new b q
     .have:=HJ.lt q;omega
     .omega
    .omega
   clear X qC DC r Y Z B1 x1 x2 x3 x4 x5 x6 x7 G N sz;go_wp2_with fail;refine HC.mono ?_;rintro e w1⟨m,g2,s2,dH,nV,M2,rfl,a0,js2,OJ,Lt,hm,c0,Vx,O,R,I,F2⟩;have⟨qC,r,Y,Z,B1,DC⟩:=uh HY;have B2:=B1.fr F2<|nm _ ae ae;have r0:=Z.fr F2<|nm _ ae ae;have hjC:j<C.size:=qBh;have cj:=(B2.c j).trans<|vh hjC;have fj:=B2.f j;have B3:=B2.aW j (nA m) (C.setIfInBounds j<|nA m) rfl hjC;have G0:=r0.bU (b2:=w.heap.size+1) ae j<|nA m;have H0:=r.trans HJ qC js2 Lt ae;have HD:=zh a0<|zh js2<|zh OJ<|zh Lt<|zh hm<|zh c0<|zh Vx<|zh O<|zh R I
   have I0:=ai (Y.trans' F2 (λb q=>by
    obtain q|q|q:=q
    .exact xj (xj q)
    .obtain⟨q,_⟩|⟨q,_⟩:=r.new b q
     .exact xj (xk<|xj q)
     .exact xk ae
    .exact xj (xk<|xk q)))
   have z2:=F2.size;clear HC F2 Y Z B1 B2 r0 qC r DC a0 js2 OJ Lt hm c0 Vx O R I nm b0 b1 b2 ra
   go_wp2
   go_roundg(L.length-(j+1))
   case measure=>rw[uh D0];omega
   case rel=>
    have⟨x1,x2,x3,x4,x5,x6,x7⟩:=uh hT;obtain⟨a0,js2,OJ,Lt,hm,c0,Vx,O,R,I⟩:=HD;have⟨qC,r,Y,Z,B1,DC⟩:=uh HY;have or3:=H0;have js:=uh HJ;have G:=uh F0;have oc:=One.cell w1 (w.heap.size+1) j<|nA m;have⟨u1,u2,u3,u4,u5⟩:=uh HZ;have hp1:=(r.st.fV _ g0).1;refine⟨j+1,C.setIfInBounds j<|nA m,g2,s2,dH,nV,M2,ps++[m],ai rfl,ae,iF,a0.one oc ae ae ae ae ae,?_,OJ.one oc ae,or3,I0.set (xk ae) j _,G0,B3,ai (by simp;exact hC),ai ⟨by simp[x1],?_,?_,?_,?_,?_,by rw[G _ J]at I;omega⟩⟩
    .exact OB
    .exact OC
    .rw[qr,qk bY,qr];have e1:ps.map g2.V=ps.map g1.V:=eJ λp hp=>(Lt.fV p (x2 p hp).1).2;have e2:(L.take j).map (λp=>sub (jd bI)<|g.V p)=(L.take j).map (λp=>sub (jd nV)<|g.V p):=q9 λp hp=>by
      have h0:p∈L:=List.mem_of_mem_take hp;have t0:=d0 p h0
      have:=aa1 qC js2 Lt (λv n=>OJ.any) (r.st.fV p t0).1 (λv ov av=>by
       rw[G p h0]at ov
       exact x5 v ⟨p,hp,ov⟩<|ew.back js qC r t0 ov av)
      rw[G p h0]at this;exact this
     rw[e1,x3,e2];simp[c0,G _ J]
    .exact OD
    .rintro v⟨p,hp,o⟩av;rw[qk bY]at hp;obtain q|q:=List.mem_append.1 hp
     .have:=x5 v ⟨p,q,o⟩ av;exact OE
     .simp at q;subst q;exact O v (by rw[G _ J];exact o)<|ew.fwd js r av
    .intro v q q';rw[qk bY]
     cases e:bI v with
     |none=>
      have:=R v e q';rw[G _ J]at this;exact⟨L[j],qx _<|List.mem_singleton.2 rfl,this⟩
     |some n=>
      have⟨p,hp,o⟩:=x6 v q (by rw[e];simp);exact⟨p,qy _ hp,o⟩
  .have hd:=nN bY;have ej:j=L.length:=ae;subst ej;have b0:=Z.c 0;have⟨_,_,a3,_,_⟩:=(qC.gl.nd x N.1).cells;rw[N.2.2]at a3;have e0:wr.cell? ⟨x,3,za⟩=qa (Sv<|pn k):=a3;have HY:=ai<|zh X<|zh qC<|zh DC<|zh r<|zh Y<|zh B1 hT;clear X qC DC r Y Z B1 hT G N sz a3
   go_wp2
   go_region_held3(λw'=>w'.cell? ⟨w.heap.size,0,za⟩=qa (Nv l)/\w'.cell? ⟨x,3,za⟩=qa (Sv<|pn k)) (first|go_keep|(simp[*])) (first
    |(go_at_call 303;go_loud(refine(DA _ _ _ _ _).mono ?_);rintro e J⟨rfl,I⟩;have O:Bq wr J:=(by rw[I];exact(zt _ _).drew.alloc (br _) _);have N3:J.heap[wr.heap.size]? =qa (Cv #[.pointer za,Nv l,Iv 0,Sv<|pn k,Lv (qa ⟨w.heap.size+1,0,za⟩) L.length L.length] 426 (0,0)):=(by rw[I];exact(vd wr.drew _).1);have s2:J.cell? ⟨w.heap.size,0,za⟩=qa (Nv l):=(zo (a:=⟨w.heap.size,0,za⟩) (w:=wr)<|O.block w.heap.size ae).trans b0;have s3:J.cell? ⟨x,3,za⟩=qa (Sv<|pn k):=(zo (a:=⟨x,3,za⟩) (w:=wr)<|O.block x ae).trans e0;have K3:=ai O;have R:=ai N3;clear I O N3))
   go_wp2
   go_ret;have⟨X,qC,DC,r,Y,B1,x1,x2,x3,x4,x5,x6,x7⟩:=uh HY;simp only[qp]at x3 x5 x6 x7;have I:=uh K3;have J:=B1.below I;have js:=uh HJ;have hV:=uh HV;have hz:¬wr.heap.size∈g1.ds:=λq=>by have:=qC.lt q;omega
   have a0:¬(w.heap.size+1)∈g1.ds:=λq=>by
    obtain⟨q,_⟩|⟨q,_⟩:=r.new _ q
    .have:=js.lt q;omega
    .omega
   have O:=qC.V5 I (n:=wr.heap.size) (l:=l) (c:=k) (ps:=ps) (a:=(qa ⟨w.heap.size+1,0,za⟩,L.length)) (br _) j0 ae x2 (xk ⟨w.heap.size+1,rfl,(λq=>by
    obtain q|q:=List.mem_cons.1 q
    .omega
    .exact a0 q),J.z,λi hi=>(J.c i).trans<|x4 i hi⟩) (by rw[x1];exact R)
   have or3:OR l w.heap.size g1 s1 al bI (g1.add wr.heap.size (qa (k,ps)) 0 (qa ⟨w.heap.size+1,0,za⟩,L.length) l<|.aM k<|ps.map g1.V) s1 al bI:=OR.add qC ae hz (λgg e=>by injection e with e;injection e with e;omega);refine⟨wr.heap.size,_,s1,al,bI,M1,rfl,X.af I,O,(DC.af I).add hz _ _ _ _,(r.DB ae).trans js qC O or3<|br _,ag,?_,λz q=>?_,λv o av=>?_,λv q q'=>?_,by rw[o0];omega,Y.trans<|Fr.of I⟩
   .rw[hV];simp only[zv,if_true,sub,iz,x3,xi];rfl
   .have:z=wr.heap.size:=q.one<|.here (qC.gl.out _ hz).1;subst this;simp[zv]
   .rw[hV]at o;simp only[aA]at o;have⟨t,R,h2⟩:=(lT _ _).1 o;obtain⟨p,h3,rfl⟩:=List.mem_map.1 R;exact x5 v ⟨p,h3,h2⟩ av
   .have⟨p,R,h2⟩:=x6 v q q';rw[hV];simp only[aA];exact(lT _ _).2 ⟨_,qz R,h2⟩
def aee(I:SQ c sb)(i:l<aL)(U:aa2 c nb l sb K):agv c nb l sb (K+1):=by
 intro w g s cnt ρ M x h j o r C G J N O R hc
 cases hs:g.str x with
 |none=>exact SR I i h j o r C G J N hs (by have:=size_pos<|g.V x;omega)|some q=>
  obtain⟨k,L⟩:=q;exact SS I U h j o r C G O hs R hc
def ac6(o:SQ c sb)(i:l<aL):∀K,aa2 c nb l sb K
 |0=>λw g s cnt ρ M n h j hu cp hn fa hk hc=>by have:=size_pos<|g.V n;omega|K+1=>aed o i<|aee o i<|ac6 o i K
end
structure AJ w c nb l cnt g(s:jc):Prop where
 je:JE w c nb l cnt
 js:JS w g s
 us:∀n,s.u n->us cnt n
 lv:∀n,n∈g.ds->g.nx n=za->g.lv n<=l\/g.lv n=aL
 lo:∀n,n∈g.ds->c.lo<=n
structure fS l c(w:ca)g(s:jc)w1 g1(s1:jc):Prop where
 st:iL l g s g1 s1
 an:∀m,m∈g.ds->∀h,Hd g.nx m h->g.lv h=aL->Hd g1.nx m h/\g1.lv h=aL
 lo:∀m,m∈g.ds->∀h h',Hd g.nx m h->Hd g1.nx m h'->∀i,i<=l->g.lv h<=i->g1.lv h'<=i
 nw:∀m,m∈g1.ds->m∈g.ds\/w.heap.size<=m
 fr:Fr (jS c g) w w1
 ky:∀v,s1.k v=sub s1.k (s.k v)
 um:∀n,s.u n->s1.u n
structure mN l(g:gD)(s:jc)n T:Prop where
 mem:n∈g.ds
 val:g.V n=sub s.k T
 lv:∀x,Hd g.nx n x->g.lv x<=l
structure A9(g:gD)(s:jc)(d:qj)m:Prop where
 mem:m∈g.ds
 val:g.V m=sub s.k d.of
 any:∀v,v∈d.any↔aA v (g.V m)/\ew g v
 use:∀n,aA n d.of->s.u n
 sub:∀v,v∈d.any->aA v d.of
def ch w nb(Γ:jh)g(s:jc):=∃L,MG zy w nb L/\∀x,(Γ x=za/\ba x L=za)\/∃d m,Γ x=qa d/\ba x L=qa (nA m)/\A9 g s d m
section
variable {c:JC} {cnt:Nat}
def DE(h:∀v,s1.k v=sub s1.k (s.k v))T:sub s1.k (sub s.k T)=sub s1.k T:=by
 rw[sub_sub];exact sub_congr _ λv _=>(h v).symm
def AJ.hd(a:AJ w c nb l cnt g s)(i:m∈g.ds)(k:Hd g.nx m h):g.lv h<=l\/g.lv h=aL:=a.lv h (a.js.gl.bN i k) k.head
def fS.refl(h:JS w g s)c l:fS l c w g s w g s:=⟨.refl h l,λm _ h k e=>⟨k,e⟩,λm _ h h' k k' i _ z=>by rw[k'.one k];exact z,λm hm=>xj hm,.refl _ _,λv=>(h.ok.qE<|.var v).symm,λ_ q=>q⟩
def fS.trans{G I J:ca}(h:JS G g s)(r:JS I g1 s1)(N:JS J g2 s2)(a:fS l c w g s w1 g1 s1)(b:fS l c w1 g1 s1 w2 g2 s2):fS l c w g s w2 g2 s2 where
 st:=a.st.trans h r N b.st
 an m hm x k e:=by have⟨o,C⟩:=a.an m hm x k e;exact b.an m (a.st.fV m hm).1 x o C
 lo m hm x x' k k' i hi z:=by
  have⟨y,o⟩:=r.gl.hd m (a.st.fV m hm).1;exact b.lo m (a.st.fV m hm).1 y x' o k' i hi<|a.lo m hm x y k o i hi z
 nw m hm:=by
  obtain q|q:=b.nw m hm
  .exact a.nw m q
  .exact xk (xm a.fr.size q)
 fr:=a.fr.trans' b.fr λx q=>by
  obtain q|q|q:=q
  .omega
  .omega
  .exact(a.nw x q).imp (λz=>xk<|xk z) id
 ky v:=by rw[b.ky v,a.ky v,DE b.ky]
 um n q:=b.um n<|a.um n q
def fS.le(a:fS l c w g s w1 g1 s1)(hl:l'<=l):fS l' c w g s w1 g1 s1:={a with st:=⟨a.st.fV,a.st.val,λi hi=>a.st.SO i ae⟩,lo:=λm hm x x' k k' i hi=>a.lo m hm x x' k k' i<|by omega}
def mN.e8(r:mN l g s n T)(h:JS W g s)(a:fS l c w g s w1 g1 s1):mN l g1 s1 n T:=by
 have⟨x,i⟩:=h.gl.hd n r.mem;exact⟨(a.st.fV n r.mem).1,by rw[a.st.val n r.mem,r.val,DE a.ky],λy hy=>a.lo n r.mem x y i hy l (br _)<|r.lv x i⟩
def fS.aa3(a:fS l c w g s w1 g1 s1){v:Nat}(q:ew g v):ew g1 v:=by
 obtain⟨x,⟨i,o,r,C⟩,e⟩:=q;have⟨k,G⟩:=a.an x i x (.here o) e;have⟨I,J,N⟩:=a.st.fV x i;exact⟨x,⟨I,k.head,J.trans r,N.trans C⟩,G⟩
def fS.root{W}(a:fS l c w g s w1 g1 s1)(i:JS W g1 s1){v}(q:ew g v):s1.k v=.var v:=by
 have⟨x,r,_⟩:=a.aa3 q;exact(i.root r).2
def fS.back(hl:l<aL)(I:AJ V c nb l cnt g s)(i:JS W g1 s1)(a:fS l c w g s w1 g1 s1){v:Nat}(R:m∈g.ds)(o:aA v (g1.V m))(q:ew g1 v):aA v (g.V m)/\ew g v:=by
 rw[a.st.val m R]at o;have⟨u,U,G⟩:=(ju _).1 o;have⟨y,Y⟩:=I.js.gl.hd m R;have⟨x,r,_⟩:=fq (lv:=g.lv) I.js.jg I.js.can _ m y R Y (br _) U;obtain z|z:=I.lv x r.1 r.2.1
 .exfalso;have⟨J,Z,o3⟩:=a.st.fV x r.1;have⟨X,C⟩:=i.gl.hd x J;have ez:=a.lo x r.1 x X (.here r.2.1) C l (br _) z;have N:aA v (g1.V x):=by rw[i.val x J<|Z.trans r.2.2.1,o3,r.2.2.2];exact G
  have⟨x2,r2,O⟩:=fq (lv:=g1.lv) i.jg i.can _ x X J C (br _) N;obtain⟨x3,r3,e3⟩:=q;have O:=O i.lc;rw[r2.one i.jg r3,e3]at O;omega
 .have C:ew g u:=⟨x,r,z⟩;rw[a.root i C]at G;simp only[aA]at G;subst G;exact⟨U,C⟩
def A9.e8(n:A9 g s d m)(o:l<aL)(r:AJ V c nb l cnt g s)(i:JS W g1 s1)(a:fS l c w g s w1 g1 s1):A9 g1 s1 d m where
 mem:=(a.st.fV m n.mem).1
 val:=by rw[a.st.val m n.mem,n.val,DE a.ky]
 any v:=by
  rw[n.any v];refine⟨λq=>⟨?_,a.aa3 q.2⟩,λq=>a.back o r i n.mem q.1 q.2⟩;rw[a.st.val m n.mem];exact(ju _).2 ⟨v,q.1,by rw[a.root i q.2];rfl⟩
 use k q:=a.um k<|n.use k q
 sub:=n.sub
def ch.e8{Γ}(e:ch w nb Γ g s)(C:l<aL)(i:AJ w c Vs l cnt g s)(G:JS w1 g1 s1)(a:fS l c w g s w1 g1 s1):ch w1 nb Γ g1 s1:=by
 obtain⟨L,h,q⟩:=e;refine⟨L,h.fr a.fr ?_,λx=>(q x).imp id λ⟨d,m,o,q2,r⟩=>⟨d,m,o,q2,r.e8 C i G a⟩⟩;rintro(z|z|z)
 .have:=i.je.ct.c 0;rw[<-z,h.bE 0]at this;simp at this
 .have:=i.je.bx.c 0;rw[<-z,h.bE 0]at this;simp at this
 .exact(i.js.mL h.ms).1 z
def OR.stj(o:OR l B g s cnt ρ g1 s1 al bI)(h:JS w g s)(hB:w.heap.size<=B)(r:Fr (jS c g) w w1):fS l c w g s w1 g1 s1 where
 st:=o.st
 an m hm x k e:=⟨(o.hd m hm x).2 k,by rw[(o.fV x<|h.gl.bN hm k).1];exact e⟩
 lo m hm x x' k k' i _ z:=by
  rw[((o.hd m hm x').1 k').one k,(o.fV x<|h.gl.bN hm k).1];exact z
 nw m hm:=(o.new m hm).imp (λq=>q.1) λq=>by have:=q.1;omega
 fr:=r
 ky v:=by rw[o.kk];exact(h.ok.qE<|.var v).symm
 um n q:=(o.VY n).2<|xj q
def OR.aj(o:OR l B g s cnt ρ g1 s1 al bI)(a:AJ w c nb l cnt g s)(hB:w.heap.size<=B)(je:JE w1 c nb l al)(js:JS w1 g1 s1):AJ w1 c nb l al g1 s1 where
 je:=je
 js:=js
 us:=o.used a.us
 lv n hm e:=by
  by_cases q:n∈g.ds
  .have k:=(o.hd n q n).1<|.here e;rw[(o.fV n q).1];exact a.lv n q k.head
  .exact xj (o.nl n hm q)
 lo n hm:=by
  obtain q|q:=o.new n hm
  .exact a.lo n q.1
  .have h1:=q.1;have h2:=a.je.z;have:=a.je.bx.z;omega
end
section
variable {c:JC} {cnt:Nat} {wS:jh}
def One.fr(o:One b w w')(h:S b):Fr S w w':=⟨o.os,o.tape,o.output,xo o.size.symm,λk _ hn=>o.block k λe=>hn<|e▸h⟩
def JS.eb(j:JS w g s)(h:JE w c nb l cnt)(o:One c.eb w w'):JS w' g s:=by
 refine j.one o (h.yA j) λm hm k l' gg hs hl hg e=>?_;have⟨ga,i,q2,_⟩:=j.gl.row hm hs<|List.length_pos_iff.2 hl;rw[hg]at i;injection i with i;injection i with i;subst i;have:=h.bx.c 0;rw[<-e,q2]at this;simp at this
def AJ.eng(a:AJ w c nb l cnt g s)(o:One c.eb w w')(i:Bx w' c.eb (SL c Vs l'))(hl:l<=l'):AJ w' c Vs l' cnt g s:=
 ⟨a.je.fr a.js (o.fr<|xk<|xj rfl) i<|a.je.ct.one o<|z9 a.je.ne.1,a.js.eb a.je o,a.us,λn hn e=>(a.lv n hn e).imp (λq=>ae) id,a.lo⟩
def f_ w b j v:One b w (w.setCell ⟨b,j,za⟩ v):=⟨rfl,rfl,rfl,BL,λi hi=>zu _ _ _ _ hi⟩
def AJ.given(a:AJ w c nb l cnt g s)Vs:AJ (w.setCell ⟨c.eb,3,za⟩<|Mv Vs) c Vs l cnt g s:=a.eng (f_ _ _ _ _) (a.je.bx.aW 3 _ _ rfl ag) (br _)
def AJ.af(a:AJ w c nb l cnt g s)(k:Bq w w'):AJ w' c nb l cnt g s:=⟨a.je.af k,a.js.af k,a.us,a.lv,a.lo⟩
def ch.af(e:ch w nb Γ g s)(k:Bq w w'):ch w' nb Γ g s:=by obtain⟨L,h,q⟩:=e;exact⟨L,h.af k,q⟩
def ch.one(e:ch w nb Γ g s)(o:One b w w')(h:nb≠b):ch w' nb Γ g s:=by obtain⟨L,m,q⟩:=e;exact⟨L,m.one o h,q⟩
def ch.ac7(e:ch w nb Γ g s)(a:JE w c Vs l cnt):nb≠c.eb:=λz=>by
 obtain⟨L,h,_⟩:=e;have:=a.bx.c 0;rw[<-z,h.bE 0]at this;simp at this
def ch.lt(e:ch w nb Γ g s):nb<w.heap.size:=by obtain⟨L,h,_⟩:=e;exact h.lt
def ch.new(w:ca)g(s:jc):ch (w.alloc<|.map #[] 0) w.heap.size (λ_=>za) g s:=⟨[],MG.new _ w,λx=>xj ⟨rfl,rfl⟩⟩
def agw b1 b2 L1 L w gk wr:=
 ∃done L',IG zy wr w.heap.size b2 L done gk/\MG zy wr b1 L'/\(∀x,x∈done->ba x L'=ba x L/\ba x L≠za)/\(∀x,¬x∈done->ba x L'=ba x L1)/\Fr (λi=>i=b1) w wr
def aa4{L1 L}(h1:MG zy w b1 L1)(h2:MG zy w b2 L)(hn:b1≠b2):
 aa zi 315 #[Mv b1,Mv b2] w λe w'=>e=.returned (.tuple #[])/\(∃L',MG zy w' b1 L'/\∀x,ba x L'=match ba x L with|some v=>qa v|none=>ba x L1)/\Fr (λi=>i=b1) w w':=by
 have l1:=h1.lt;have⟨o,cnt,hrg,lJ⟩:=h2.range cT;have R:Bq w (w.alloc o):=bw _;have ST:agw b1 b2 L1 L w cnt (w.alloc o):=⟨[],L1,lJ,h1.af R,λx q=>by simp at q,λx _=>rfl,Fr.of R⟩;go_wp2
 go_loopg[] cnt (λgk wr=>agw b1 b2 L1 L w gk wr)
 case atStart=>exact ST
 case round=>
  obtain⟨r,L',lJ,U,I,X,J⟩:=hrel;have hiz:=lJ.lt;have zr:=J.size;rcases lJ.next (P:=zi) str_inj with⟨HA,N⟩|⟨x,u,w2,C,hxd,HX,N,I2,G,O,Bu,hen⟩
  .have Y:=ai U
   go_wp2
   go_end0;refine⟨rfl,⟨L',Y,λx=>?_⟩,J⟩
   cases e:ba x L with
   |some v=>rw[(I x<|HA x v e).1,e]|none=>
    exact X x λq=>(I x q).2 e
  .have Y:=O;have M2:=U.fr Y ae;go_wp2_with(refine cz Oq cT rfl _ _ _ (xk rfl) rfl M2 x u rfl rfl ?_;intro w4 Z O';have S4:=ai Z;have O4:=ai O';clear Z O');go_roundg C
   case measure=>exact G
   case rel=>
    have o:=uh O4;refine⟨x::r,_,I2.same (o.block b2<|z9 hn)<|o.block _ ae,S4,λy hy=>?_,λy hy=>?_,(J.gR Y<|λi e=>xk ae).trans<|o.fr rfl⟩
    .rw[aO];by_cases q:x=y
     .subst q;rw[if_pos rfl,HX];simp
     .rw[if_neg q];exact I y<|(List.mem_cons.1 hy).resolve_left<|z9 q
    .rw[aO,if_neg λe=>hy Vh];exact X y λq=>hy qBf
end
structure TpD tl(g:gD)(cJ:Nat->Nat)n l(D:Nat->Prop):Prop where
 up:∀m,D m->m∈g.ds/\g.nx m=za/\l<g.lv m/\g.lv m≠aL/\cJ m=tl
 no:∀m,¬D m->cJ m=g.lv m
 hd:∀h,Hd g.nx n h->D h\/g.lv h<=l
 cl:∀a,D a->∀c ps,g.str a=qa (c,ps)->∀p,p∈ps->∀h,Hd g.nx p h->D h\/g.lv h<=l
section
variable {c:JC} {cnt:Nat}
def ac8(js:JS w g s)(r:mN l g s n T)(i:∀R:Nat->Prop,(∀h,Hd g.nx n h->R h)->(∀a k ps p h,R a->g.str a=qa (k,ps)->p∈ps->Hd g.nx p h->R h)->∀a,D a->R a):∀a,D a->g.lv a<=l:=λa d=>
 (i (λx=>x∈g.ds/\g.nx x=za/\g.lv x<=l) (λh k=>⟨js.gl.bN r.mem k,k.head,r.lv h k⟩) (λa k ps p h q hs hp hh=>⟨js.gl.bN (js.jg.Vi a k ps q.1 hs p hp) hh,hh.head,xm (js.lc a q.1 q.2.1 k ps hs p hp h hh) q.2.2⟩) a d).2.2
def jQ.tp(js:JS w g s)(hl:l+1<aL)(r:mN (l+1) g s n T)(d:jQ g.str g.nx g.ds g.lv cJ n l D):TpD l g cJ n l D:=
 ⟨λm q=>by have⟨i,o,C,G⟩:=d.up m q;exact⟨i,o,C,by have:=ac8 js r d.re m q;omega,G⟩,d.no,d.hd,d.cl⟩
def tV.tp(js:JS w g s)(hl:l+1<aL)(r:mN (l+1) g s n T)(d:tV g.str g.nx g.ds g.lv cJ n l D):TpD aL g cJ n l D:=
 ⟨d.up,d.no,λh k=>(d.hd h k).imp id λq=>q.resolve_right (by have:=r.lv h k;omega),λa q k ps hs p hp h hh=>(d.cl a q k ps hs p hp h hh).imp id λz=>z.resolve_right (by
  have h1:=ac8 js r d.re a q;have h2:=js.lc a (d.up a q).1 (d.up a q).2.1 k ps hs p hp h hh
  omega)⟩
def JS.aef(js:JS w g s)(I:ScD g.str g.ds g.nx S)(G:n∈g.ds)(i:∀h,Hd g.nx n h->S h){v}(o:aA v (g.V n)):∃x,g.R v x/\S x:=by
 classical
 have⟨y,C⟩:=js.gl.hd n G;have⟨x,r,q⟩:=fq (lv:=λx=>if S x then 0 else 1) js.jg js.can _ n y G C (br _) o;refine⟨x,r,?_⟩;have:=q λa ha na k ps hs p hp h i=>by
  by_cases z:S a
  .simp[z,I a ha na z k ps hs p hp h i]
  .grind
 rw[if_pos<|i y C]at this;exact vf λz=>by rw[if_neg z]at this;omega
def Gy(J:AJ w c nb l cnt g s)(hl:l+1<aL)(nm:∀y d,Γ y=qa d->∃m,A9 g s d m)(I:fS (l+1) c w g s w1 g1 s1)(js:JS w1 g1 s1)(hp:jl rc st x (jk c.mks x) Γ s (.ok (T,s1))){v}(hv:aA v (sub s1.k T))(hy:g1.R v y):j3 (lI rc st Γ) s1.k v↔g1.lv y<=l:=by
 have i:∀z d,lI rc st Γ z=qa d->∃m,A9 g s d m:=λz d q=>by
  cases rc with
  |false=>exact nm z d q|true=>
   simp only[lI,if_true,jy]at q;split at q
   .cases q
   .exact nm z d q
 have t0:=I.le<|xw l;have Y:l<aL:=ae;constructor
 .rintro⟨z,d,O,q2,q3⟩;have⟨m,k⟩:=i z d O;have k1:=k.e8 Y J js t0;rw[<-k1.val]at q2;have na:¬ew g1 v:=λa=>q3<|(k1.any v).2 ⟨q2,a⟩;rw[I.st.val m k.mem]at q2;have⟨u,ou,G⟩:=(ju _).1 q2;have⟨r,C⟩:=J.js.nR k.mem ou;obtain e|e:=J.lv r C.1 C.2.1
  .have⟨U,Z,o3⟩:=I.st.fV r C.1;have⟨r',N⟩:=js.gl.hd r U;have e':=I.lo r C.1 r r' (.here C.2.1) N l (xw l) e;have a0:aA v (g1.V r):=by rw[js.val r U<|Z.trans C.2.2.1,o3,C.2.2.2];exact G
   have⟨x2,X,e2⟩:=fq (lv:=g1.lv) js.jg js.can _ r r' U N (br _) a0;have e2:=e2 js.lc;rw[X.one js.jg hy]at e2;omega
  .exfalso;have N:ew g u:=⟨r,C,e⟩;rw[I.root js N]at G;simp only[aA]at G;subst G;exact na<|I.aa3 N
 .intro e;have eb:jl rc st x (jk c.mks x) Γ=jl rc st x (jk c.mks x) (lI rc st Γ):=by
   cases rc with
   |false=>rfl|true=>
    unfold jl;simp only[if_true];have:∀d,jt (lI true st Γ) st d=jt Γ st d:=λd=>by
     funext z;unfold jt lI jy;by_cases q:z=st<;>simp[q]
    simp only[this]
  rw[eb]at hp;have hE:In.bA (λn=>¬s.u n\/j3 (lI rc st Γ) s.k n) s (lI rc st Γ):=λz d q=>by
   have⟨m,k⟩:=i z d q;refine⟨k.use,λn o=>?_,λn o=>?_,k.sub⟩
   .by_cases a:n∈d.any
    .exact xj a
    .exact xk (xk ⟨z,d,q,o,a⟩)
   .have⟨U,Z⟩:=(k.any n).1 o;obtain⟨r,C,X⟩:=Z;refine⟨(J.js.root C).2,λb=>?_⟩;obtain b|⟨z',d',b1,b2,b3⟩:=b
    .exact b (J.js.root C).1
    .have⟨m',N⟩:=i z' d' b1;rw[<-N.val]at b2;exact b3<|(N.any n).2 ⟨b2,r,C,X⟩
  have⟨U,Z⟩:=In.kP rc st x (In.oj c.mks x) (lI rc st Γ) s _ J.js.ok (λn q=>xj q) hE T s1 hp;have lv:=Z.loc v hv;have⟨u,⟨r,C,X⟩,G⟩:=(I.st.SO l (zd l) v).1 ⟨y,hy,e⟩;have N:=J.js.root C;have fu:j3 (lI rc st Γ) s.k u:=by
   refine vf λz=>?_;have nz:¬(¬s.u u\/j3 (lI rc st Γ) s.k u):=λq=>q.elim (λq=>q N.1) z;rw[U.fix N.2 nz]at G;simp only[aA]at G;subst G;exact nz lv
  obtain⟨z,d,O,q2,q3⟩:=fu;have⟨m,k⟩:=i z d O;refine⟨z,d,O,?_,λa=>?_⟩
  .rw[<-DE I.ky];exact(ju _).2 ⟨u,q2,G⟩
  .have⟨r',a1,a2⟩:=I.aa3 ((k.any v).1 a).2;rw[a1.one js.jg hy]at a2;omega
end
def tY(g:gD)l x:=∃S:Nat->Prop,ScD g.str g.ds g.nx S/\(∀y,S y->g.lv y<=l\/g.lv y=aL)/\S x
section
variable {c:JC} {cnt tl:Nat}
def SU(aj:AJ w c nb l cnt g s)(hl:l+1<aL)(nm:∀y d,Γ y=qa d->∃m,A9 g s d m)(a1:AJ w1 c nb (l+1) al g1 s1)(N:fS (l+1) c w g s w1 g1 s1)(r1:mN (l+1) g1 s1 n T)(I:jl rc st x (jk c.mks x) Γ s (.ok (T,s1)))(hg:GL w2 g1.ds g1.str bh g1.vr g1.ly cJ)(e:iK g1.str g1.nx bh)(d:TpD (if jq x then aL else l) g1 cJ n l D)(F:Fr (jS c g1) w1 w2)(je:JE w2 c nb l al):
 ∃g2,AJ w2 c nb l al g2 s1/\fS l c w g s w2 g2 s1/\A9 g2 s1 (jj (lI rc st Γ) s1.k T<|jq x) n:=by
 obtain⟨C,J⟩:∃C:gD,C={g1 with nx:=bh,lv:=cJ}:=⟨_,rfl⟩;have Z:C.ds=g1.ds:=by rw[J]
 have e1:C.str=g1.str:=by rw[J]
 have e2:C.nx=bh:=by rw[J]
 have e3:C.lv=cJ:=by rw[J]
 have e4:C.vr=g1.vr:=by rw[J]
 have e5:C.V=g1.V:=by rw[J]
 have hG:GL w2 C.ds C.str C.nx C.vr C.ly C.lv:=by rw[J];exact hg
 have G:=a1.js;have b0:∀m,D m->cJ m=aL\/cJ m=l:=λm q=>by
  have:=(d.up m q).2.2.2.2;split at this
  .exact xj this
  .exact xk this
 have U:∀m,g1.lv m<=l->cJ m=g1.lv m:=λm q=>d.no m λz=>by have:=(d.up m z).2.2.1;omega
 have d0:∀m,g1.lv m=aL->cJ m=aL:=λm q=>by rw[d.no m λz=>(d.up m z).2.2.2.1 q];exact q
 have O:∀{m h},Hd C.nx m h->Hd g1.nx m h:=λk=>e.back G.gl<|e2▸k;have fw:∀{m h},Hd g1.nx m h->Hd C.nx m h:=λk=>e2▸e.lB _ _ k;have c0:∀a,a∈g1.ds->g1.nx a=za->cJ a<=l->∀k ps,g1.str a=qa (k,ps)->∀p,p∈ps->∀h,Hd g1.nx p h->cJ h<=cJ a:=λa ha hn hz k ps hs p I h hh=>by
  by_cases q:D a
  .have ea:=(b0 a q).resolve_left ae;obtain z|z:=d.cl a q k ps hs p I h hh
   .obtain y|y:=b0 h z
    .have X:=(d.up a q).2.2.2.2;have Y:=(d.up h z).2.2.2.2;omega
    .omega
   .rw[U h z];omega
  .rw[d.no a q]at hz⊢;have z:=G.lc a ha hn k ps hs p I h hh;rw[U h ae];exact z
 have hP:ScD C.str C.ds C.nx (tY C l):=λx hx hn⟨S,X,Y,h3⟩k ps hs p I h hh=>⟨S,X,Y,X x hx hn h3 k ps hs p I h hh⟩;have g0:∀a,a∈C.ds->C.nx a=za->tY C l a->∀k ps,C.str a=qa (k,ps)->∀p,p∈ps->∀h,Hd C.nx p h->C.lv h<=C.lv a:=λa ha hn hN k ps hs p I h hh=>by
  have X:=hP a ha hn hN k ps hs p I h hh;obtain⟨S,_,q2,Y⟩:=hN;obtain⟨S',_,q2',q3'⟩:=X;obtain z|z:=q2 a Y
  .rw[e3]at z⊢;exact c0 a (Z▸ha) ((e.AQ a).1<|e2▸hn) z k ps (e1▸hs) p I h<|O hh
  .grind
 have i0:=JS.cut hG (by rw[e1,e2];exact e.mM _ G.mM) (by rw[J];exact G.inj) (λm h k=>by rw[e1,e4,e5];exact G.can m h<|O k) (by rw[J];exact G.val) (by rw[J];exact G.use) G.ok hP g0;have kl:∀m,m∈g1.ds->(∀h,Hd g1.nx m h->g1.lv h<=l)->C.K (tY C l) m:=λm hm q=>by
  refine⟨Z▸hm,λh hh=>⟨λy=>y∈g1.ds/\cJ y<=l,λa ha hn z k ps hs p I h hh=>?_,λy z=>xj (by rw[e3];exact z.2),G.gl.bN hm<|O hh,by rw[U h<|q h<|O hh];exact q h<|O hh⟩⟩;rw[Z]at ha;rw[e1]at hs;exact⟨G.gl.bN (G.jg.Vi a k ps ha hs p I)<|O hh,xm (c0 a ha ((e.AQ a).1<|e2▸hn) z.2 k ps hs p I h<|O hh) z.2⟩
 have ko:∀m,m∈g.ds->C.K (tY C l) m:=λm hm=>by
  have a0:=(N.st.fV m hm).1;have X:∀m,m∈g.ds->∀h,Hd g1.nx m h->(h∈g1.ds/\cJ h<=l)\/(h∈g.ds/\g.nx h=za/\g.lv h=aL):=λm hm h hh=>by
   have⟨h0,k0⟩:=aj.js.gl.hd m hm;obtain z|z:=aj.hd hm k0
   .have:=N.lo m hm h0 h k0 hh l (xw l) z;exact xj ⟨G.gl.bN (N.st.fV m hm).1 hh,by rw[U h this];exact this⟩
   .rw[hh.one (N.an m hm h0 k0 z).1];exact xk ⟨aj.js.gl.bN hm k0,k0.head,z⟩
  refine⟨Z▸a0,λh hh=>⟨λy=>(y∈g1.ds/\cJ y<=l)\/(y∈g.ds/\g.nx y=za/\g.lv y=aL),λa ha hn z k ps hs p I h hh=>?_,λy z=>?_,X m hm h<|O hh⟩⟩
  .rw[Z]at ha;rw[e1]at hs;obtain z|⟨z1,z2,z3⟩:=z
   .exact xj ⟨G.gl.bN (G.jg.Vi a k ps ha hs p I)<|O hh,xm (c0 a ha ((e.AQ a).1<|e2▸hn) z.2 k ps hs p I h<|O hh) z.2⟩
   .rw[(N.st.fV a z1).2.1]at hs;exact X p (aj.js.jg.Vi a k ps z1 hs p I) h<|O hh
  .rw[e3];exact z.imp (λq=>q.2) λq=>d0 y (N.an y q.1 y (.here q.2.1) q.2.2).2
 have Sn:ScD g1.str g1.ds g1.nx (λy=>D y\/(y∈g1.ds/\g1.lv y<=l)):=λa ha hn z k ps hs p I h hh=>by
  have X:=G.gl.bN (G.jg.Vi a k ps ha hs p I) hh;obtain z|z:=z
  .exact(d.cl a z k ps hs p I h hh).imp id λq=>⟨X,q⟩
  .exact xk ⟨X,xm (G.lc a ha hn k ps hs p I h hh) z.2⟩
 have j0:∀y,D y\/(y∈g1.ds/\g1.lv y<=l)->cJ y<=l\/cJ y=aL:=λy z=>by
  obtain z|z:=z
  .grind
  .grind
 have f0:∀h,Hd g1.nx n h->D h\/(h∈g1.ds/\g1.lv h<=l):=λh hh=>(d.hd h hh).imp id λq=>⟨G.gl.bN r1.mem hh,q⟩;have Sx:∀y,y∈g1.ds->g1.nx y=za->D y\/(y∈g1.ds/\g1.lv y<=l)->C.K (tY C l) y:=λy hy ny z=>by
  refine⟨Z▸hy,λh hh=>?_⟩;rw[(O hh).one<|.here ny];exact⟨_,λa ha hn z k ps hs p I h hh=>Sn a (Z▸ha) ((e.AQ a).1<|e2▸hn) z k ps (e1▸hs) p I h<|O hh,λy z=>by rw[e3];exact j0 y z,z⟩
 have kn:C.K (tY C l) n:=by
  refine⟨Z▸r1.mem,λh hh=>?_⟩;exact(Sx h (G.gl.bN r1.mem<|O hh) (O hh).head<|f0 h<|O hh).2 h (.here hh.head)
 have V2:∀{m},C.K (tY C l) m->(C.cut<|tY C l).V m=g1.V m:=λq=>by rw[(bG q).2.2,e5]
 have rt:∀{v y},(C.cut<|tY C l).R v y↔g1.R v y/\C.K (tY C l) y:=λ{v y}=>by
  constructor
  .rintro⟨q1,q2,Y,X⟩;have k:=dh.1 q1;rw[(bG k).2.1,e2]at q2;rw[(bG k).1,e1]at Y;exact⟨⟨Z▸k.1,(e.AQ y).1 q2,Y,by have:C.vr y=v:=X;rw[e4]at this;exact this⟩,k⟩
  .rintro⟨⟨q1,q2,Y,X⟩,k⟩;exact⟨dh.2 k,by rw[(bG k).2.1,e2];exact(e.AQ y).2 q2,by rw[(bG k).1,e1];exact Y,by show C.vr y=v;rw[e4];exact X⟩
 have X:(C.cut<|tY C l).lv=cJ:=e3;refine⟨C.cut<|tY C l,⟨je,i0,a1.us,λm hm hn=>?_,λm hm=>a1.lo m<|Z▸(dh.1 hm).1⟩,⟨⟨λm hm=>?_,λm hm=>?_,λi hi v=>?_⟩,λm hm h k q=>?_,λm hm h h' k k' i hi z=>?_,λm hm=>N.nw m<|Z▸(dh.1 hm).1,?_,N.ky,N.um⟩,⟨dh.2 kn,?_,λv=>?_,λv o=>?_,λv q=>(In.DF q).1⟩⟩
 .have k:=dh.1 hm;rw[(bG k).2.1]at hn;have⟨S,_,q2,Y⟩:=k.2 m<|.here hn;rw[X,<-e3];exact q2 m Y
 .have⟨o1,Y,o3⟩:=N.st.fV m hm;have k:=ko m hm;exact⟨dh.2 k,by rw[(bG k).1,e1,Y],by show C.vr m=_;rw[e4,o3]⟩
 .rw[V2<|ko m hm];exact N.st.val m hm
 .rw[<-N.st.SO i ae v];constructor
  .rintro⟨y,r,z⟩;rw[X]at z;refine⟨y,(rt.1 r).1,?_⟩;rw[<-d.no y λq=>by obtain h|h:=b0 y q<;>omega];exact z
  .rintro⟨y,r,z⟩;exact⟨y,rt.2 ⟨r,kl y r.1 λh hh=>by rw[hh.one<|.here r.2.1];omega⟩,by rw[X,U y ae];exact z⟩
 .have⟨Y,q1⟩:=N.an m hm h k q;exact⟨(aa5 hG (fw Y)<|ko m hm).1,by rw[X];exact d0 h q1⟩
 .have:=N.lo m hm h h' k (O<|aeg hG (ko m hm) k') i ae z;rw[X,U h' ae];exact this
 .exact N.fr.trans' F λb q=>by
   obtain q|q|q:=q
   .omega
   .omega
   .exact(N.nw b q).imp (λz=>xk<|xk z) id
 .rw[V2 kn,r1.val];exact(G.ok.qE T).symm
 .rw[V2 kn,r1.val];have Y:aA v (sub s1.k T)->∃y,g1.R v y/\(D y\/(y∈g1.ds/\g1.lv y<=l)):=λo=>G.aef Sn r1.mem f0 (by rw[r1.val];exact o);have a0:∀{y},g1.R v y->(D y\/(y∈g1.ds/\g1.lv y<=l))->(ew (C.cut<|tY C l) v↔cJ y=aL):=λ{y}r q=>by
   constructor
   .rintro⟨y',r',z⟩;rw[<-(rt.1 r').1.one G.jg r,<-X];exact z
   .exact λz=>⟨y,rt.2 ⟨r,Sx y r.1 r.2.1 q⟩,by rw[X];exact z⟩
  cases hv:jq x with
  |false=>
   simp only[jj];constructor
   .intro q;cases q
   .rintro⟨o,a⟩;exfalso;have⟨y,r,q⟩:=Y o;have z:=(a0 r q).1 a;obtain q|q:=q
    .have:=(d.up y q).2.2.2.2;rw[hv]at this;simp only[Bool.false_eq_true,if_false]at this;omega
    .grind
  |true=>
   simp only[jj,if_true,jo,List.mem_filter,decide_eq_true_eq];constructor
   .rintro⟨o,nf⟩;have o:=In.aE.1 o;have⟨y,r,q⟩:=Y o;refine⟨o,(a0 r q).2 ?_⟩;have nl:=λz=>nf<|(Gy aj hl nm N G I o r).2 z;have dy:=q.resolve_right λz=>nl z.2;have:=(d.up y dy).2.2.2.2;rw[hv]at this;exact this
   .rintro⟨o,a⟩;refine⟨In.aE.2 o,λf=>?_⟩;have⟨y,r,q⟩:=Y o;have z:=(a0 r q).1 a;have:=(Gy aj hl nm N G I o r).1 f;rw[U y this]at z;omega
 .have o:aA v (sub s1.k T):=o;rw[<-r1.val]at o;have⟨y,r⟩:=G.nR r1.mem o;exact(G.root r).1
end
end
end Go.Proofs.YtonaidfgokhmoaaGreatDoor
