import Derived.Test.YtlnlhlefeokfjaaGreatDoorPYr
import Derived.Test.YtlnlhlefeokfjaaGreatDoorPMe
import Derived.Test.YtlnlhlefeokfjaaGreatDoorPFz
set_option linter.all false
set_option maxRecDepth 100000
set_option maxHeartbeats 4000000
namespace Go.Proofs.YtlnlhlefeokfjaaGreatDoor
open In renaming dv->ja,inf->jc,andM->jd,cH->jf,rP->jh,jH->ji,cz->jj
open And renaming intro->jk
open Go.RowKit.Below renaming refl->jl
open Or renaming inr->jm,inl->jo
open Go.World renaming cell?_of_block->jp
open Go Go.RowKit Go.ChangeMaps Go.MapKept Un Proofs.Tryz
variable {st:BA} {dom:BA->Prop} {rc:Bool} {g:f_} {Γ:In.Env} {r:In.MM Un.Ty} {s:In.St} {c:JC} {a f l n nb t y:Nat} {x z:Nd} {v vx:Value} {w:World}
def acs st n f t a{L}(H:∀i(h:i<L.length),Od L[i]):Od (.mk 2 st n L f t a):=by
 intro c w nb l cnt g s gb G v h;obtain⟨y,sa,sc,vs,rfl,aN,hr⟩:∃(y:Nat)(sa:Option Addr)(sc:Nat)(vs:Nat->Value),v=Fv 313 (Av #[Nv f,Nv t,Nv a,Nv y,Sv st,Lv sa L.length sc])/\(L=[]\/∃g,sa=some ⟨g,0,none⟩/\g<c.lo/\g<w.heap.size/\∀i,i<L.length->w.cell? ⟨g,i,none⟩=some (vs i))/\∀i(h:i<L.length),PP w (λb=>b<c.lo) L[i]<|vs i:=by
  cases h.pp with
  |up _ _ _ _ _ _ y sa sc vs hu hy aN hr=>exact⟨_,sa,sc,vs,rfl,aN,hr⟩
 have k0:Bq w (w.alloc<|Cv #[Nv f,Nv t,Nv a,Nv y,Sv st,Lv sa L.length sc] 313):=bw _
 have H1:=ae5 (y:=y) (sc:=sc) H (h.up k0) (aN.imp id λq=>by
  obtain⟨g,q1,q2,q3,q4⟩:=q
  exact⟨g,q1,q2,Nat.lt_of_lt_of_le q3 k0.size,λi hi=>(jp (a:=⟨g,i,none⟩)<|k0.block g q3).trans<|q4 i hi⟩)<|λi hi=>(hr i hi).af k0
 have K0:=ai k0;have q1:=Zd;have q2:=DR;have q3:=Rf;have q4:=Rg;go_enter func327,ntmps327;go_wp2_with fail;refine H1.mono ?_;intro e w1 hp;have HP:=hp.up K0;obtain⟨n1,-,-,-,-,-,rfl,-⟩|⟨z,vl,vr,rfl,-⟩:=hp
 .clear H1
  go_wp2
  go_ret;exact HP
 .clear H1
  go_wp2
  exact⟨rfl,HP⟩
def acu:∀(k:Nat)(nd:Nd),nn nd<=k->Od nd:=by
 intro k
 induction k with
 |zero=>intro nd h;cases nd;simp only[nn]at h;omega|succ k ih=>
  intro nd hk c w nb l cnt g s gb G v h;have hp:=h.pp;have fa:=h.fa;have n1:∀k s n f t a,nn (.mk k s n [] f t a)=1:=λ_ _ _ _ _ _=>qBi
  cases hp with
  |any st n f t a=>
   rw[n1]at fa⊢;rw[show ja c.mks (.mk 15 st n [] f t a) G=jd ji λv=>jf (.var v,G) by simp[ja,jh]];exact adk h.aj h.en h.fl ae
  |low st n f t a=>
   rw[n1]at fa⊢;rw[show ja c.mks (.mk 1 st n [] f t a) G=jd ji λv=>jf (.var v,jj G st<|In.mono<|.var v) by simp[ja,jh]];exact adl h.aj h.en h.fl ae ⟨h.fg.1,h.fg.2.1,h.fg.2.2.1⟩
  |num st n f t a=>
   rw[n1]at fa⊢;rw[show ja c.mks (.mk 3 st n [] f t a) G=jf (In.nC,G) by simp[ja,jh]];exact Ai (jo ⟨rfl,rfl,_,rfl⟩) h.aj h.en h.fl ae
  |word st n f t a b=>
   rw[n1]at fa⊢;rw[show ja c.mks (.mk 4 st n [] f t a) G=jf (In.th,G) by simp[ja,jh]];exact Ai (jm<|jo ⟨rfl,rfl,_,rfl⟩) h.aj h.en h.fl ae
  |unit st n f t a=>
   rw[n1]at fa⊢;rw[show ja c.mks (.mk 5 st n [] f t a) G=jf (In.mP,G) by simp[ja,jh]];exact Ai (jm<|jm ⟨rfl,rfl,rfl⟩) h.aj h.en h.fl ae
  |pr st n x y f t a vx vy hx hy=>exact YW (ih x IA) (ih y IA) h hx hy|up st n L f t a y sa sc vs hu hy aN hr=>exact acs st n f t a (λi hi=>ih _ (by have:=P0 L i hi;simp only[nn]at hk;omega)) c w nb l cnt g s gb G _ h
def aiE nd:Od nd:=acu _ nd<|br _
def MtJ c nb l w0 g s D p Γ n1 n2 T U A gk v wr:=
 ∃j cj gj sj,Hid (gk=A.length-j)/\j<=A.length/\v=Nv j/\n8 c nb l w0 g s p wr gj sj cj (mW c.mks Γ T U A j)/\np l gj sj n1 T/\np l gj sj n2 U/\Hid (cj+1000*bV (bq<|A.drop j)<=D)
section
variable {w' w0 w1:World} {g0 g1:f_} {s0 s1:In.St} {cnt ak gb:Nat} {p q:In.MM Ty} {e:Ending}
def n8.imp(n:n8 c nb l w0 g0 s0 p w g s cnt q)(h:∀o,r s o->q s o):n8 c nb l w0 g0 s0 p w g s cnt r:={n with p:=λo ho=>n.p o<|h o ho}
def mF.out(n:yI c nb l w0 g0 s0 w g s cnt)(f:Fr (jG c g gb) w w1)(hg:w0.heap.size<=gb):Fr (jS c g0) w0 w1:=n.t.fr.trans' f λx q=>by
 obtain  (q|q|q)|q:=q
 .omega
 .omega
 .exact(n.t.nw x q).imp (λz=>jm<|jm z) id
 .omega
def n8.ofP(n:n8 c nb l w0 g0 s0 p w g s cnt q)(m:mF c nb l gb w g s q w1 g1 s1 ak r)(hg:w0.heap.size<=gb):n8 c nb l w0 g0 s0 p w1 g1 s1 ak r:=by
 have⟨k0,z⟩:=n.n.z;have t:=n.n.t.trans z.js n.n.a.js m.a.js m.t;exact⟨⟨m.a,{t with fr:=mF.out n.n m.f hg},n.n.z⟩,λo ho=>n.p o<|m.p o ho⟩
def n8.ae6(n:n8 c nb l w0 g0 s0 p w g s cnt q)(b:YS c gb q g s w e w')(hg:w0.heap.size<=gb):vC c p g0 s0 w0 e w':=by
 obtain⟨z,vl,vr,h1,h2,h3,h4⟩:=b;exact⟨z,vl,vr,h1,n.p _ h2,h3,mF.out n.n h4 hg⟩
def b_.nob(en:b_ w nb Γ g s)(aj:AJ w c nb l cnt g s):¬jS c g nb:=by
 obtain⟨L,h,q⟩:=en;rintro(z|z|z)
 .have:=aj.je.ct.c 0;rw[<-z,h.bE 0]at this;simp at this
 .have:=aj.je.bx.c 0;rw[<-z,h.bE 0]at this;simp at this
 .exact(aj.js.nX h.ms).1 z
def aiF{A:List (Nd×Nd)}{rb sc}{vp ve:Nat->Value}(Hx:lV x)(He:∀i(h:i<A.length),lV A[i].2)(h:oY (.mk 13 st n (x::bq A) f t a) c w nb l cnt g s Γ dom v)(hg:rb<c.lo)(iP:rb<w.heap.size)(hc:∀i,i<A.length->(∃u v,w.cell? ⟨rb,i*4,none⟩=some (Iv u)/\w.cell? ⟨rb,i*4+1,none⟩=some (Iv v))/\w.cell? ⟨rb,i*4+2,none⟩=some (vp i)/\w.cell? ⟨rb,i*4+3,none⟩=some (ve i))(hx:PE w (λb=>b<c.lo) x vx)(hp:∀i(h:i<A.length),PP w (λb=>b<c.lo) A[i].1<|vp i)(he:∀i(h:i<A.length),PE w (λb=>b<c.lo) A[i].2<|ve i):
 Cq 319 #[nA c.eb,.agg #[Nv f,Nv t,vx,.slice (some ⟨rb,0,none⟩) A.length sc]] w (c_ c nb l (1000*nn (.mk 13 st n (x::bq A) f t a)) (jc c.mks (.mk 13 st n (x::bq A) f t a) Γ) g s cnt w):=by
 have en:nn (.mk 13 st n (x::bq A) f t a)=1+nn x+bV (bq A):=QG;have⟨sx,SP,SE⟩:=aa2 h.sc;have SP:=λi h=>(SP i h).1;have fa:=h.fa;have fb:=h.fb;rw[en]at fa fb;have hl:l<aL:=qAx;have hAl:=pS A;have⟨k0,B0⟩:=oF w #[Nv f,Nv t,vx,Lv (some ⟨rb,0,none⟩) A.length sc] 296;have HA:=h.up k0;have Jw:=h.aj.kE<|br _;have n0:=n8.start HA.aj<|jc c.mks (.mk 13 st n (x::bq A) f t a) Γ;have H1:=Hx c _ nb l cnt g s Γ dom vx<|HA.part n0.n (hx.af k0) sx NT NT;rw[P6]at n0;rw[en,P6];obtain⟨p,PZ⟩:∃p,p=(jd (jc c.mks x Γ) λa=>jd ji λv=>mW c.mks Γ a (.var v) A 0):=⟨_,rfl⟩;have N0:n8 c nb l (w.alloc<|Cv #[Nv f,Nv t,vx,Lv (some ⟨rb,0,none⟩) A.length sc] 296) g s p (w.alloc<|Cv #[Nv f,Nv t,vx,Lv (some ⟨rb,0,none⟩) A.length sc] 296) g s cnt (jd (jc c.mks x Γ) λa=>jd ji λv=>mW c.mks Γ a (.var v) A 0):=(by rw[PZ];exact n0);rw[<-PZ];have iZ:= @run_makeMap Tryz.prog;obtain⟨tx,ax,rfl⟩:=hx.iface;obtain⟨W0,HW⟩:∃W,W=w.alloc (Cv #[Nv f,Nv t,Fv tx<|Av ax,Lv (some ⟨rb,0,none⟩) A.length sc] 296):=⟨_,rfl⟩;rw[<-HW]at HA N0 B0 k0 H1;have CZ:∀o,W0.cell? ⟨rb,o,none⟩=w.cell? ⟨rb,o,none⟩:=λo=>jp (a:=⟨rb,o,none⟩)<|k0.block rb iP;have HP:∀i(h:i<A.length),PP W0 (λb=>b<c.lo) A[i].1<|vp i:=λi hi=>(hp i hi).af k0
 have HE:∀i(h:i<A.length),PE W0 (λb=>b<c.lo) A[i].2<|ve i:=λi hi=>(he i hi).af k0;have agb:=Nat.lt_of_lt_of_le iP k0.size;have nrb:=h.aj.YL hg;have K0:=ai k0;clear h n0 k0 hp he hx Hx PZ;go_enter func319,ntmps319;go_wp2_with fail;rw[<-HW];refine H1.mono ?_;rintro e w1(⟨n1,g1,s1,ak,T1,rfl,p1,a1,t1,hc1,r1⟩|hb)
 .have N1:=N0.and p1 a1 t1;have H2:=vD a1 ae;have R1:=ai r1;clear H1 p1 a1 t1 r1 N0;go_wp2_with fail;refine H2.mono ?_;rintro e w2⟨n2,g2,rfl,p2,a2,t2,r2,-⟩;have N2:=N1.and p2 a2 t2;have⟨b1,b2,b3⟩:=N2.n.bx B0 Jw;have ST:MtJ c nb l W0 g s (cnt+1000*(1+nn x+bV (bq A))) p Γ n1 n2 T1 (.var<|ak+1) A A.length (Iv 0) w2:=⟨0,ak+1,g2,_,ai ag,Nat.zero_le _,rfl,N2,R1.dX N1.n.a.js t2,r2,ai (by rw[List.drop_zero];omega)⟩;clear H2 p2 a2 t2 r2 N2 N1 R1
  go_wp2
  go_loopg[19] A.length (λgk v wr=>MtJ c nb l W0 g s (cnt+1000*(1+nn x+bV (bq A))) p Γ n1 n2 T1 (.var<|ak+1) A gk v wr)
  case atStart=>exact ST
  case round=>
   clear ST b1 b2 b3;obtain⟨j,cj,gj,sj,cV,hj,rfl,at_,r1,r2,hbd⟩:=hrel;have hbd:=uh hbd;by_cases bh:j<A.length
   .have bA:(j:Int)<(A.length:Int):=ae;have Jl:(0:Int)<=(j:Int):=ae;have my:∀o,wr.cell? ⟨rb,o,none⟩=w.cell? ⟨rb,o,none⟩:=λo=>(jp (a:=⟨rb,o,none⟩)<|at_.n.t.fr.block rb agb nrb).trans<|CZ o;have⟨⟨u,v,d0,d1⟩,d2,d3⟩:=hc j bh;rw[<-my]at d0 d1 d2 d3;clear my;have pp:=HP j bh;have pe:=HE j bh;have⟨t1,x1,e1⟩:=pp.iface;have⟨t2,x2,e2⟩:=pe.iface;rw[e1]at d2 pp;rw[e2]at d3 pe;have pl1:=pp.place;have pl2:=pe.place;dsimp only[PlF]at pl1 pl2;have hdn:=EH bh;have hnn:=tW A j bh;have k1:Bq wr ((wr.alloc<|Cv #[Iv u,Iv v,Fv t1<|Av x1,Fv t2<|Av x2] 306).alloc<|.map #[] 0):=(bw _).alloc ag _;obtain⟨W1,EL⟩:∃W,W=(wr.alloc<|Cv #[Iv u,Iv v,Fv t1<|Av x1,Fv t2<|Av x2] 306).alloc (.map #[] 0):=⟨_,rfl⟩;have B1:=(Bx.new wr #[Iv u,Iv v,Fv t1<|Av x1,Fv t2<|Av x2] 306).alloc<|.map #[] 0;have E1:b_ W1 (wr.heap.size+1) (λ_=>none) gj sj:=by
     have:=b_.new (wr.alloc<|Cv #[Iv u,Iv v,Fv t1<|Av x1,Fv t2<|Av x2] 306) gj sj;rw[EL];simpa using this
    rw[<-EL]at k1 B1;have Xr:=(at_.af k1).imp λo q=>EG bh q;have z0:=at_.n.t.fr.size;have zb:=at_.n.a.je.bx.z;have zz:=at_.n.a.je.z;have zr:=at_.n.a.je.rs.lt;have zm:=at_.n.a.je.ms.lt;have nbx:=at_.n.a.kE<|br _;have h:=HA;have HPA:∀W:World,Bq W1 W->Cq 327 #[nA c.eb,Mv<|wr.heap.size+1,Fv t1<|Av x1] W (qU c nb l (wr.heap.size+1) (1000*nn A[j].1) (ja c.mks A[j].1 λ_=>none) gj sj cj W):=λW k=>aiE A[j].1 c W nb l cj gj sj _ (λ_=>none) _ ⟨Xr.n.a.af k,E1.af k,(pp.move (Q:=λb=>b<c.lo) Xr.n.t.fr.size (λb p q=>Xr.n.t.fr.block b q<|h.aj.YL p)<|λ_ p _=>p).af k,SP j bh,⟨ae,ae,ae,ae⟩,ae,hl,h.mf⟩;have EN1:=h.en.dX hl h.aj Xr.n.a.js Xr.n.t;have nen:=EN1.nob Xr.n.a;have zen:=EN1.lt;have ngb:¬jG c gj (wr.heap.size+1) wr.heap.size:=λq=>q.elim nbx λq=>ae;have neg:¬jG c gj (wr.heap.size+1) nb:=λq=>q.elim nen λq=>by have:=(h.en.dX hl h.aj at_.n.a.js at_.n.t).lt;omega
    have LP:=mF.start (gb:=wr.heap.size+1) Xr.n.a<|acm c.mks Γ T1 (.var<|ak+1) A j bh;rw[acm]at LP;have AT1:=ai Xr;have RR:=jk r1 r2;have PE2:=pe.move (Q:=λb=>b<c.lo) Xr.n.t.fr.size (λb p q=>Xr.n.t.fr.block b q<|h.aj.YL p)<|λ_ p _=>p;have nlo:∀b,b<c.lo->¬jG c gj (wr.heap.size+1) b:=λb p q=>q.elim (Xr.n.a.YL p) λq=>ae;have dA:=ai B1;have MI:=ai EL;have hdm:=ai<|jk h.hd h.mf;obtain⟨c1,c2,c3⟩:=B1;clear at_ Xr r1 r2 pp pe h k1 E1 EL nen;go_wp2_with fail;rw[<-uh MI];go_cut[]from 24 to 33 (λwc=>∃g3 s3 c3 T3 G3 s2,ja c.mks A[j].1 (λ_=>none) sj (.ok ((T3,G3),s2))/\mF c nb l (wr.heap.size+1) W1 gj sj (acm c.mks Γ T1 (.var<|ak+1) A j bh) wc g3 s3 c3 (jd (jc c.mks A[j].2<|In.over G3 Γ) λu=>jd (In.sW (.var<|ak+1) u (In.kZ A[j].2)<|In.BT A[j].2) λ_=>mW c.mks Γ T1 (.var<|ak+1) A<|j+1)/\b_ wc (wr.heap.size+1) G3 g3 s3/\np l g3 s3 n1 T1/\np l g3 s3 n2 (.var<|ak+1)/\c3<=cj+1000*nn A[j].1)
    case first=>
     go_region_with(first
      |(go_at_call 327;go_loud(refine(HPA _ (jl _ _).drew).mono ?_);intro e w3 hq;obtain hb|⟨n3,g3,s3,c3',T3,G3,he,p3,a3,t3,f3,e3,hc3,r3⟩:=hq.symm;go_loud(have HX:=AT1.ae6 ((LP.af (jl _ _).drew).bad hb) ae;obtain⟨z,vl,vr,rfl,-⟩:=hb;exact⟨rfl,c_.up (jm HX) K0⟩);subst he;have L3:=ai<|(LP.af (jl _ _).drew).and p3 a3 t3 f3;have P3:=ai p3;have R3:=ai<|jk (RR.1.dX LP.a.js t3)<|jk (RR.2.dX LP.a.js t3) r3;have E3:=ai e3;have⟨f1,f2,f3⟩:=L3.bx dA ngb;clear p3 a3 t3 e3 r3)
      |(go_at_call 331;refine(dR _ _).mono ?_;rintro e w4⟨rfl,k4⟩;have L4:=ai<|L3.af k4;have E4:=ai<|E3.af k4;clear k4)
      |(go_at_call 312;go_loud(refine(Ju L4.a hl R3.1 R3.2.2 _ _).mono ?_);intro e w5 hq;obtain hb|⟨he,g5,s5,p5,a5,t5⟩:=hq.symm;go_loud(have HX:=AT1.ae6 (L4.bad hb.bp) ae;obtain⟨z,vl,vr,rfl,-⟩:=hb;exact⟨rfl,c_.up (jm HX) K0⟩);subst he;have L5:=ai<|jk (L4.and p5 a5 t5 t5.fg)<|jk (E4.dX hl L4.a a5.js t5)<|jk (R3.1.dX L4.a.js t5)<|R3.2.1.dX L4.a.js t5;clear p5 a5 t5))
     all_goals
      go_wp2_with fail
      go_meet
      case rel=>
       refine⟨_,_,_,_,_,_,P3,L5.1,L5.2.1,L5.2.2.1,L5.2.2.2,?_⟩;omega
    case rest=>
     obtain⟨g3,s3,c3',T3,G3,s2,p3,L3,e3,r1,r2,hc3⟩:=hcut;have dm:=Mq (SP j bh) p3 hdm.1;have en3:=EN1.stg hl LP.a L3.a.js L3.t L3.f neg;have pe3:=PE2.move (Q:=λb=>b<c.lo) L3.f.size (λb p q=>L3.f.block b q<|nlo b p)<|λ_ p _=>p;have HWI:∀W:World,Bq wc W->Cq 311 #[nA c.eb,Mv<|wr.heap.size+1,Fv t2<|Av x2] W (c_ c nb l (1000*nn A[j].2) (jc c.mks A[j].2<|In.over G3 Γ) g3 s3 c3' W):=λW k=>qF (He j bh) (L3.a.af k) (en3.af k) (e3.af k) (pe3.af k) (SE j bh) dm ae ae hdm.2;have R3:=jk r1 r2;have⟨f1,f2,f3⟩:=L3.bx dA ngb;clear e3 r1 r2 en3 pe3 dm p3 HPA LP RR c1 c2 c3 PE2
     go_wp2
     go_region_with(first
      |(go_at_call 311;go_loud(refine(HWI _ (jl _ _).drew).mono ?_);intro e w3 hq;obtain hb|⟨n4,g4,s4,c4,T4,he,p4,a4,t4,hc4,r4⟩:=hq.symm;go_loud(have HX:=AT1.ae6 ((L3.af (jl _ _).drew).bad hb.bp) ae;obtain⟨z,vl,vr,rfl,-⟩:=hb;exact⟨rfl,c_.up (jm HX) K0⟩);subst he;have L4:=ai<|(L3.af (jl _ _).drew).and p4 a4 t4 t4.fg;have R4:=ai<|jk (R3.1.dX L3.a.js t4)<|jk (R3.2.dX L3.a.js t4) r4;have⟨m1,m2,m3⟩:=L4.bx dA ngb;clear p4 a4 t4 r4)
      |(go_at_call 331;refine(dR _ _).mono ?_;rintro e w4⟨rfl,k4⟩;have L5:=ai<|L4.af k4;clear k4)
      |(go_at_call 312;go_loud(refine(Ju L5.a hl R4.2.1 R4.2.2 _ _).mono ?_);intro e w5 hq;obtain hb|⟨he,g6,s6,p6,a6,t6⟩:=hq.symm;go_loud(have HX:=AT1.ae6 (L5.bad hb.bp) ae;obtain⟨z,vl,vr,rfl,-⟩:=hb;exact⟨rfl,c_.up (jm HX) K0⟩);subst he;have N6:Hid (MtJ c nb l W0 g s (cnt+1000*(1+nn x+bV (bq A))) p Γ n1 n2 T1 (.var<|ak+1) A (A.length-(j+1)) (.int .i64 ((j+1:Nat):Int)) w5):=ai ⟨j+1,c4,g6,s6,ai rfl,bh,rfl,AT1.ofP (L5.and p6 a6 t6 t6.fg) ae,R4.1.dX L5.a.js t6,R4.2.1.dX L5.a.js t6,ai ae⟩;clear p6 a6 t6))
     all_goals
      go_wp2
      go_roundg(A.length-(j+1))
      case measure=>rw[uh cV];omega
      case rel=>exact N6
   .have bA:¬(j:Int)<(A.length:Int):=ae;have ej:j=A.length:=ae;subst ej;have HX:=(((at_.imp λo q=>Mp _ _ _ _ _ _ _ q).ret r2 (D:=1000*(1+nn x+bV (bq A))) (cnt0:=cnt) ae)).up K0;clear at_ r1 r2
    go_wp2
    go_ret;exact HX
 .have HX:=N0.bad hb;obtain⟨z,vl,vr,rfl,-⟩:=hb;clear H1
  go_wp2
  exact⟨rfl,c_.up (jm HX) K0⟩
end
theorem Up{p:Prop}(h:p:=by
 cases h with
 |lt _ _ _ _ _ _ _ _ _ hs hc hx hz=>grind|two _ _ _ _ _ _ _ _ _ hk=>simp at hk):p:=h
def akV{mk}{nl}(h:ScE mk nl dom (.mk (if rc then 11 else 10) st n [x,z] f t a)):ScE mk nl (λv=>dom v\/(rc=true/\v=st)) x/\ScE mk nl (λv=>dom v\/v=st) z:=by
 cases rc with
 |false=>
  exact Up
 |true=>
  exact Up
section
variable {cnt:Nat}
def y_{p:Prop}(h:p:=by
 obtain⟨z,vl,vr,rfl,-⟩:=hb
 go_wp2
 exact⟨rfl,c_.up (jm HX) K0⟩):p:=h
def ae7{y:Nd}{vy:Value}(Hx:lV x)(Hy:lV y)(h:oY (.mk 6 st n [x,y] f t a) c w nb l cnt g s Γ dom v)(hx:PE w (λb=>b<c.lo) x vx)(hy:PE w (λb=>b<c.lo) y vy):
 Cq 309 #[nA c.eb,.iface 284<|.agg #[Nv f,Nv t,vx,vy]] w (c_ c nb l (1000*nn (.mk 6 st n [x,y] f t a)) (jc c.mks (.mk 6 st n [x,y] f t a) Γ) g s cnt w):=by
 have en:nn (.mk 6 st n [x,y] f t a)=1+nn x+nn y:=QG;obtain⟨sx,sy⟩:ScE c.mks c.nl dom x/\ScE c.mks c.nl dom y:=by
  cases h.sc with
  |two _ _ _ _ _ _ _ _ _ _ hx hy=>exact⟨hx,hy⟩|lt _ _ _ _ _ _ _ _ _ _ hc=>omega
 have fa:=h.fa;have fb:=h.fb;rw[en]at fa fb;have hl:l<aL:=qAx;have⟨k0,B0⟩:=oF w #[Nv f,Nv t,vx,vy] 284;have HA:=h.up k0;have Jw:=h.aj.kE<|br _;have N0:=n8.start HA.aj<|In.inf c.mks (.mk 6 st n [x,y] f t a) Γ;rw[NY]at N0;have H1:=Hx c _ nb l cnt g s Γ dom vx<|HA.part N0.n (hx.af k0) sx NT NT;rw[en,NY];have HY:=hy.af k0;obtain⟨tx,ax,rfl⟩:=hx.iface;obtain⟨ty,ay,rfl⟩:=hy.iface;have K0:=ai k0;go_enter func309,ntmps309;go_wp2_with fail;refine H1.mono ?_;rintro e w1(⟨n1,g1,s1,ak,T1,rfl,p1,a1,t1,c1,R1⟩|hb)
 .have N1:=N0.and p1 a1 t1;have H2:=Hy c w1 nb l ak g1 s1 Γ dom _<|HA.part N1.n HY sy NT NT;have⟨b1,b2,b3⟩:=N1.n.bx B0 Jw;go_wp2_with fail;refine H2.mono ?_;rintro e w2(⟨n2,g2,s2,cT,T2,rfl,p2,a2,t2,c2,r2⟩|hb)
  .have N2:=N1.and p2 a2 t2;have H3:=afo a2 (R1.dX N1.n.a.js t2) r2;go_wp2_with fail;refine H3.mono ?_;rintro e w3⟨n3,g3,rfl,a3,t3,r3⟩;have HX:=((N2.step a3 t3).ret (D:=1000*(1+nn x+nn y)) (cnt0:=cnt) r3 ae).up K0
   go_wp2
   go_ret;exact HX
  .have HX:=N1.bad hb;exact y_
 .have HX:=N0.bad hb;exact y_
def aiG(Hx:lV x)(h:oY (.mk 9 st n [x] f t a) c w nb l cnt g s Γ dom v)(hx:PE w (λb=>b<c.lo) x vx):
 Cq 309 #[nA c.eb,.iface 289<|.agg #[Nv f,Nv t,Nv a,Nv y,.string st,vx]] w (c_ c nb l (1000*nn (.mk 9 st n [x] f t a)) (jc c.mks (.mk 9 st n [x] f t a) Γ) g s cnt w):=by
 have en:nn (.mk 9 st n [x] f t a)=1+nn x:=qBi;have sx:ScE c.mks c.nl (λv=>dom v\/v=st) x:=by
  cases h.sc with
  |fn _ _ _ _ _ _ _ hs hx=>exact hx
 have iZ:= @run_makeMap Tryz.prog;have fa:=h.fa;have fb:=h.fb;rw[en]at fa fb;have hl:l<aL:=qAx;have⟨k0,B0⟩:=oF w #[Nv f,Nv t,Nv a,Nv y,Sv st,vx] 289;have HA:=h.up k0;have Jw:=h.aj.kE<|br _;have N0:=n8.start HA.aj<|In.inf c.mks (.mk 9 st n [x] f t a) Γ;rw[NN]at N0;have H1:=vD HA.aj ae;rw[en,NN];have HXE:=hx.af k0;obtain⟨tx,ax,rfl⟩:=hx.iface;have K0:=ai k0;go_enter func309,ntmps309;go_wp2_with fail;refine H1.mono ?_;rintro e w1⟨n1,g1,rfl,p1,a1,t1,R1,-⟩;have N1:=N0.and p1 a1 t1;have nm:=R1.nm a1.js hl (λk o=>by simp only[aB]at o;exact Or.inr o.symm);have HW:∀(w2:World)(mb:Nat),Bq w1 w2->MG Sv w2 mb (bG st (nA n1) [])->Cq 311 #[nA c.eb,Mv mb,Fv tx<|Av ax] w2 (c_ c nb l (1000*nn x) (In.inf c.mks x<|In.cz Γ st<|In.mono<|.var<|cnt+1) g1 ⟨s.k,λm=>s.u m\/m=cnt+1⟩ (cnt+1) w2):=λw2 mb k hM=>by
  have h:=HA;have:=qF Hx (a1.af k) ((h.en.dX hl h.aj a1.js t1).af k) (b_.lit hM nm) ((N1.n.pe HXE).af k) sx (by rw[kv];exact Fm h.hd) ae ae h.mf;rw[kv]at this;exact this
 have⟨b1,b2,b3⟩:=N1.n.bx B0 Jw;go_wp2_with(refine cr UH cL rfl _ _ _ (jo rfl) rfl (MG.new _ _) st (nA n1) rfl rfl ?_;intro w2 hM o;have k2:=o.af ((jl _ w1).alloc (br _)<|.map #[] 0)<|br _;have⟨d1,d2,d3⟩:=N1.af k2|>.n.bx B0 Jw;have HM:=ai hM;have K2:=ai k2;clear hM o k2);refine(HW _ _ K2 HM).mono ?_;rintro e w3(⟨n3,g3,s3,vw,T3,rfl,p3,a3,t3,c3,r3⟩|hb)
 .have N3:=(N1.af K2).and p3 a3 t3;have H4:=afn a3 (R1.dX N1.n.a.js t3) r3;go_wp2_with fail;refine H4.mono ?_;rintro e w4⟨n4,g4,rfl,a4,t4,r4⟩;have HX:=((N3.step a4 t4).ret (D:=1000*(1+nn x)) (cnt0:=cnt) r4 ae).up K0
  go_wp2
  go_ret;exact HX
 .have HX:=(N1.af K2).bad hb;exact y_
def acv{vz}(Hx:lV x)(Hz:lV z)(h:oY (.mk (if rc then 11 else 10) st n [x,z] f t a) c w nb l cnt g s Γ dom v)(hx:PE w (λb=>b<c.lo) x vx)(hz:PE w (λb=>b<c.lo) z vz):
 Cq 309 #[nA c.eb,.iface 291<|.agg #[Nv f,Nv t,.bool rc,Nv a,Nv y,.string st,vx,vz]] w (c_ c nb l (1000*nn (.mk (if rc then 11 else 10) st n [x,z] f t a)) (jc c.mks (.mk (if rc then 11 else 10) st n [x,z] f t a) Γ) g s cnt w):=by
 have en:nn (.mk (if rc then 11 else 10) st n [x,z] f t a)=1+nn x+nn z:=QG;obtain⟨sx,sz⟩:ScE c.mks c.nl (λv=>dom v\/(rc=true/\v=st)) x/\ScE c.mks c.nl (λv=>dom v\/v=st) z:=akV h.sc;have iZ:= @run_makeMap Tryz.prog;have fa:=h.fa;have fb:=h.fb;rw[en]at fa fb;have hl:l<aL:=qAx;have⟨k0,B0⟩:=oF w #[Nv f,Nv t,.bool rc,Nv a,Nv y,Sv st,vx,vz] 291;have HA:=h.up k0;have Jw:=h.aj.kE<|br _;have N0:=n8.start HA.aj<|In.inf c.mks (.mk (if rc then 11 else 10) st n [x,z] f t a) Γ;rw[NO]at N0;have H1:=J7 (a:=a) (y:=y) Hx ⟨HA.aj,HA.en,hx.af k0,sx,h.hd,ae,ae,h.mf⟩ ae;rw[en,NO];have HZ:=hz.af k0;obtain⟨tx,ax,rfl⟩:=hx.iface;obtain⟨tz,az,rfl⟩:=hz.iface;have K0:=ai k0;go_enter func309,ntmps309;go_wp2_with fail;refine H1.mono ?_;rintro e w1(⟨n1,g1,s1,ak,T1,rfl,p1,a1,t1,hc1,nm⟩|hb)
 .have N1:=N0.and p1 a1 t1;have HW:∀(w2:World)(mb:Nat),Bq w1 w2->MG Sv w2 mb (bG st (nA n1) [])->Cq 311 #[nA c.eb,Mv mb,Fv tz<|Av az] w2 (c_ c nb l (1000*nn z) (jc c.mks z<|jj Γ st<|In.eU (mg rc st Γ) s1.k T1<|In.rK x) g1 s1 ak w2):=λw2 mb k hM=>by
   have h:=HA;have:=qF Hz (a1.af k) ((h.en.dX hl h.aj a1.js t1).af k) (b_.lit hM nm) ((N1.n.pe HZ).af k) sz (by rw[kv];exact Fm h.hd) ae ae h.mf;rw[kv]at this;exact this
  have⟨b1,b2,b3⟩:=N1.n.bx B0 Jw;go_wp2_with(refine cr UH cL rfl _ _ _ (jo rfl) rfl (MG.new _ _) st (nA n1) rfl rfl ?_;intro w2 hM o;have k2:=o.af ((jl _ w1).alloc (br _)<|.map #[] 0)<|br _;have⟨d1,d2,d3⟩:=N1.af k2|>.n.bx B0 Jw;have HM:=ai hM;have K2:=ai k2;clear hM o k2);refine(HW _ _ K2 HM).mono ?_;intro e w3 hq;have HX:=(((N1.af K2).imp (r:=jc c.mks z<|jj Γ st<|In.eU (mg rc st Γ) s1.k T1<|In.rK x) λo ho=>ho).last (cnt0:=cnt) (D:=1000*(1+nn x+nn z)) hq ae).up K0;obtain⟨n3,-,-,-,-,rfl,-⟩|⟨z,vl,vr,rfl,-⟩:=hq
  .clear HW HM
   go_wp2
   go_ret;exact HX
  .clear HW HM
   go_wp2
   exact⟨rfl,HX⟩
 .have HX:=N0.bad hb;exact y_
end
end Go.Proofs.YtlnlhlefeokfjaaGreatDoor
