import Derived.Test.YtfnkchdeheeiiaaGreatDoorQYf
set_option linter.all false
set_option maxRecDepth 100000
set_option maxHeartbeats 4000000
namespace Go.Proofs.YtfnkchdeheeiiaaGreatDoor
open And renaming intro->ja
open Go.RowKit.Below renaming refl->jc
open In renaming andM->jd,inf->jf
open Go Go.RowKit Go.ChangeMaps Go.MapKept Un
variable {st:BA} {r:In.MM Un.Ty} {A:List (Nd×Nd)} {a f n t:Nat} {x:Nd}
def MtJ c nb l w0 g s D p Γ n1 n2 T U A gk v wr:=
 ∃j cj gj sj,Hid (gk=A.length-j)/\j<=A.length/\v=Nv j/\mR c nb l w0 g s p wr gj sj cj (mM c.mks Γ T U A j)/\nJ l gj sj n1 T/\nJ l gj sj n2 U/\Hid (cj+1000*ck (aU<|A.drop j)<=D)
section
variable {w w' w0 w1:World} {g g0 g1:gC} {s s0 s1:In.St} {c:JC} {nb l cnt al gb:Nat} {Γ:In.Env} {dom:BA->Prop} {p q:In.MM Ty} {e:Ending}
def mR.imp(n:mR c nb l w0 g0 s0 p w g s cnt q)(h:∀o,r s o->q s o):mR c nb l w0 g0 s0 p w g s cnt r:={n with p:=λo ho=>n.p o<|h o ho}
def mN.out(n:yx c nb l w0 g0 s0 w g s cnt)(f:Fr (jG c g gb) w w1)(hg:w0.heap.size<=gb):Fr (jS c g0) w0 w1:=n.t.fr.trans' f λx q=>by
 obtain  (q|q|q)|q:=q
 .omega
 .omega
 .exact(n.t.nw x q).imp (λz=>Or.inr<|Or.inr z) id
 .omega
def mR.ofP(n:mR c nb l w0 g0 s0 p w g s cnt q)(m:mN c nb l gb w g s q w1 g1 s1 al r)(hg:w0.heap.size<=gb):mR c nb l w0 g0 s0 p w1 g1 s1 al r:=by
 have⟨k0,z⟩:=n.n.z;have t:=n.n.t.trans z.js n.n.a.js m.a.js m.t;exact⟨⟨m.a,{t with fr:=mN.out n.n m.f hg},n.n.z⟩,λo ho=>n.p o<|m.p o ho⟩
def mR.aeP(n:mR c nb l w0 g0 s0 p w g s cnt q)(b:aco c gb q g s w e w')(hg:w0.heap.size<=gb):ud c p g0 s0 w0 e w':=by
 obtain⟨z,vl,vr,h1,h2,h3,h4⟩:=b;exact⟨z,vl,vr,h1,n.p _ h2,h3,mN.out n.n h4 hg⟩
def cq.nob(en:cq w nb Γ g s)(aj:AJ w c nb l cnt g s):¬jS c g nb:=by
 obtain⟨L,h,q⟩:=en;rintro(z|z|z)
 .have:=aj.je.ct.c 0;rw[<-z,h.bD 0]at this;simp at this
 .have:=aj.je.bx.c 0;rw[<-z,h.bD 0]at this;simp at this
 .exact(aj.js.nI h.ms).1 z
def akv{mk}{nl}(hs:ScE mk nl dom (.mk 13 st n (x::aU A) f t a)):ScE mk nl dom x/\(∀i(h:i<A.length),sg mk nl A[i].1)/\∀i(h:i<A.length),ScE mk nl (λv=>dom v\/v∈pR A[i].1) A[i].2:=by
 generalize hL:x::aU A=L at hs
 cases hs with
 |mt _ _ _ x' A' _ _ _ hx hp he=>
  injection hL with h1 h2;subst h1;have:∀(A A':List (Nd×Nd)),aU A=aU A'->A=A':=by
   intro A
   induction A with
   |nil=>intro A' e;cases A' with|nil=>rfl|cons=>simp[aU]at e
   |cons p r ih=>
    intro A' e
    cases A' with
    |nil=>simp[aU]at e|cons p' r'=>
     simp only[aU,List.cons.injEq]at e;obtain⟨e1,e2,e3⟩:=e;rw[ih r' e3,Prod.ext e1 e2]
  obtain rfl:=this A A' h2;exact⟨hx,hp,he⟩
 |leaf _ _ _ _ _ _ _ hk=>omega|two _ _ _ _ _ _ _ _ _ hk=>omega|lt _ _ _ _ _ _ _ _ _ _ hk=>omega
def aim{vx v}{rb sc}{vp ve:Nat->Value}(Hx:jR x)(He:∀i(h:i<A.length),jR A[i].2)(h:nL (.mk 13 st n (x::aU A) f t a) c w nb l cnt g s Γ dom v)(hg:rb<c.lo)(lh:rb<w.heap.size)(hc:∀i,i<A.length->(∃u v,w.cell? ⟨rb,i*4,none⟩=some (Iv u)/\w.cell? ⟨rb,i*4+1,none⟩=some (Iv v))/\w.cell? ⟨rb,i*4+2,none⟩=some (vp i)/\w.cell? ⟨rb,i*4+3,none⟩=some (ve i))(hx:PE w (λb=>b<c.lo) x vx)(hp:∀i(h:i<A.length),PP w (λb=>b<c.lo) A[i].1<|vp i)(he:∀i(h:i<A.length),PE w (λb=>b<c.lo) A[i].2<|ve i):
 Cq 391 #[nA c.eb,.agg #[Nv f,Nv t,vx,.slice (some ⟨rb,0,none⟩) A.length sc]] w (cY c nb l (1000*nn (.mk 13 st n (x::aU A) f t a)) (jf c.mks (.mk 13 st n (x::aU A) f t a) Γ) g s cnt w):=by
 have en:nn (.mk 13 st n (x::aU A) f t a)=1+nn x+ck (aU A):=yL;have⟨sx,SP,SE⟩:=akv h.sc;have fa:=h.fa;have fb:=h.fb;rw[en]at fa fb;have hl:l<aL:=ZH;have hAl:=pG A;have⟨k0,B0⟩:=sd w #[Nv f,Nv t,vx,Lv (some ⟨rb,0,none⟩) A.length sc] 201;have HA:=h.up k0;have DV:=h.aj.iW<|br _;have n0:=mR.start HA.aj<|jf c.mks (.mk 13 st n (x::aU A) f t a) Γ;have H1:=Hx c _ nb l cnt g s Γ dom vx<|HA.part n0.n (hx.af k0) sx Ec Ec;rw[OI]at n0;rw[en,OI];obtain⟨p,OG⟩:∃p,p=(jd (jf c.mks x Γ) λa=>jd In.iP λv=>mM c.mks Γ a (.var v) A 0):=⟨_,rfl⟩;have N0:mR c nb l (w.alloc<|Cv #[Nv f,Nv t,vx,Lv (some ⟨rb,0,none⟩) A.length sc] 201) g s p (w.alloc<|Cv #[Nv f,Nv t,vx,Lv (some ⟨rb,0,none⟩) A.length sc] 201) g s cnt (jd (jf c.mks x Γ) λa=>jd In.iP λv=>mM c.mks Γ a (.var v) A 0):=(by rw[OG];exact n0);rw[<-OG];have jB:= @run_makeMap Tryz.prog;obtain⟨tx,ax,rfl⟩:=hx.iface;obtain⟨W0,HW⟩:∃W,W=w.alloc (Cv #[Nv f,Nv t,Fv tx<|Av ax,Lv (some ⟨rb,0,none⟩) A.length sc] 201):=⟨_,rfl⟩;rw[<-HW]at HA N0 B0 k0 H1;have CZ:∀o,W0.cell? ⟨rb,o,none⟩=w.cell? ⟨rb,o,none⟩:=λo=>World.cell?_of_block (a:=⟨rb,o,none⟩)<|k0.block rb lh;have HP:∀i(h:i<A.length),PP W0 (λb=>b<c.lo) A[i].1<|vp i:=λi hi=>(hp i hi).af k0;have HE:∀i(h:i<A.length),PE W0 (λb=>b<c.lo) A[i].2<|ve i:=λi hi=>(he i hi).af k0
 have agz:=Nat.lt_of_lt_of_le lh k0.size;have nrb:=h.aj.jlo hg;have K0:=ai k0;clear h n0 k0 hp he hx Hx OG;go_enter Tryz.func391,Tryz.ntmps391;go_wp2_with fail;rw[<-HW];refine H1.mono ?_;rintro e w1(⟨n1,g1,s1,al,T1,rfl,p1,a1,t1,hc1,r1⟩|hb)
 .have N1:=N0.and p1 a1 t1;have H2:=vJ a1 ae;have R1:=ai r1;clear H1 p1 a1 t1 r1 N0;go_wp2_with fail;refine H2.mono ?_;rintro e w2⟨n2,g2,rfl,p2,a2,t2,r2,-⟩;have N2:=N1.and p2 a2 t2;have⟨b1,b2,b3⟩:=N2.n.bx B0 DV;have ST:MtJ c nb l W0 g s (cnt+1000*(1+nn x+ck (aU A))) p Γ n1 n2 T1 (.var<|al+1) A A.length (Iv 0) w2:=⟨0,al+1,g2,_,ai ag,Nat.zero_le _,rfl,N2,R1.eO N1.n.a.js t2,r2,ai (by rw[List.drop_zero];omega)⟩;clear H2 p2 a2 t2 r2 N2 N1 R1
  go_wp2
  go_loopg[19] A.length (λgk v wr=>MtJ c nb l W0 g s (cnt+1000*(1+nn x+ck (aU A))) p Γ n1 n2 T1 (.var<|al+1) A gk v wr)
  case atStart=>exact ST
  case round=>
   clear ST b1 b2 b3;obtain⟨j,cj,gj,sj,dv,hj,rfl,at_,r1,r2,hbd⟩:=hrel;have hbd:=uh hbd;by_cases bq:j<A.length
   .have bz:(j:Int)<(A.length:Int):=ae;have Ij:(0:Int)<=(j:Int):=ae;have me:∀o,wr.cell? ⟨rb,o,none⟩=w.cell? ⟨rb,o,none⟩:=λo=>(World.cell?_of_block (a:=⟨rb,o,none⟩)<|at_.n.t.fr.block rb agz nrb).trans<|CZ o;have⟨⟨u,v,d0,d1⟩,d2,d3⟩:=hc j bq;rw[<-me]at d0 d1 d2 d3;clear me;have pp:=HP j bq;have pe:=HE j bq;have⟨t1,x1,e1⟩:=pp.iface;have⟨t2,x2,e2⟩:=pe.iface;rw[e1]at d2 pp;rw[e2]at d3 pe;have pl1:=pp.place;have pl2:=pe.place;dsimp only[PlF]at pl1 pl2;have hdn:=DN bq;have hnn:=sE A j bq;have k1:Bq wr ((wr.alloc<|Cv #[Iv u,Iv v,Fv t1<|Av x1,Fv t2<|Av x2] 257).alloc<|.map #[] 0):=(bw _).alloc ag _;obtain⟨W1,Br⟩:∃W,W=(wr.alloc<|Cv #[Iv u,Iv v,Fv t1<|Av x1,Fv t2<|Av x2] 257).alloc (.map #[] 0):=⟨_,rfl⟩;have B1:=(Bx.new wr #[Iv u,Iv v,Fv t1<|Av x1,Fv t2<|Av x2] 257).alloc<|.map #[] 0;have E1:cq W1 (wr.heap.size+1) (λ_=>none) gj sj:=by
     have:=cq.new (wr.alloc<|Cv #[Iv u,Iv v,Fv t1<|Av x1,Fv t2<|Av x2] 257) gj sj;rw[Br];simpa using this
    rw[<-Br]at k1 B1;have Xf:=(at_.af k1).imp λo q=>DL bq q;have z0:=at_.n.t.fr.size;have zb:=at_.n.a.je.bx.z;have zz:=at_.n.a.je.z;have zr:=at_.n.a.je.rs.lt;have zm:=at_.n.a.je.ms.lt;have nbx:=at_.n.a.iW<|br _;have h:=HA;have HPA:∀W:World,Bq W1 W->Cq 399 #[nA c.eb,Mv<|wr.heap.size+1,Fv t1<|Av x1] W (qR c nb l (wr.heap.size+1) (1000*nn A[j].1) (In.du c.mks A[j].1 λ_=>none) gj sj cj W):=λW k=>ail A[j].1 c W nb l cj gj sj _ (λ_=>none) _ ⟨Xf.n.a.af k,E1.af k,(pp.move (Q:=λb=>b<c.lo) Xf.n.t.fr.size (λb p q=>Xf.n.t.fr.block b q<|h.aj.jlo p)<|λ_ p _=>p).af k,SP j bq,⟨ae,ae,ae,ae⟩,ae,hl,h.mf⟩;have EN1:=h.en.eO hl h.aj Xf.n.a.js Xf.n.t;have nen:=EN1.nob Xf.n.a;have zen:=EN1.lt;have ngb:¬jG c gj (wr.heap.size+1) wr.heap.size:=λq=>q.elim nbx λq=>ae;have neg:¬jG c gj (wr.heap.size+1) nb:=λq=>q.elim nen λq=>by have:=(h.en.eO hl h.aj at_.n.a.js at_.n.t).lt;omega
    have LP:=mN.start (gb:=wr.heap.size+1) Xf.n.a<|abw c.mks Γ T1 (.var<|al+1) A j bq;rw[abw]at LP;have AT1:=ai Xf;have RR:=ja r1 r2;have PE2:=pe.move (Q:=λb=>b<c.lo) Xf.n.t.fr.size (λb p q=>Xf.n.t.fr.block b q<|h.aj.jlo p)<|λ_ p _=>p;have nlo:∀b,b<c.lo->¬jG c gj (wr.heap.size+1) b:=λb p q=>q.elim (Xf.n.a.jlo p) λq=>ae;have eN:=ai B1;have yg:=ai Br;have hdm:=ai<|ja h.hd h.mf;obtain⟨c1,c2,c3⟩:=B1;clear at_ Xf r1 r2 pp pe h k1 E1 Br nen;go_wp2_with fail;rw[<-uh yg];go_cut[]from 24 to 33 (λwc=>∃g3 s3 c3 T3 G3 s2,In.du c.mks A[j].1 (λ_=>none) sj (.ok ((T3,G3),s2))/\mN c nb l (wr.heap.size+1) W1 gj sj (abw c.mks Γ T1 (.var<|al+1) A j bq) wc g3 s3 c3 (jd (jf c.mks A[j].2<|In.over G3 Γ) λu=>jd (In.sv (.var<|al+1) u (In.gW A[j].2)<|In.ue A[j].2) λ_=>mM c.mks Γ T1 (.var<|al+1) A<|j+1)/\cq wc (wr.heap.size+1) G3 g3 s3/\nJ l g3 s3 n1 T1/\nJ l g3 s3 n2 (.var<|al+1)/\c3<=cj+1000*nn A[j].1)
    case first=>
     go_region_with(first
      |(go_at_call 399;go_loud(refine(HPA _ (jc _ _).drew).mono ?_);intro e w3 hq;obtain hb|⟨n3,g3,s3,c3',T3,G3,he,p3,a3,t3,f3,e3,hc3,r3⟩:=hq.symm;go_loud(have HX:=AT1.aeP ((LP.af (jc _ _).drew).bad hb) ae;obtain⟨z,vl,vr,rfl,-⟩:=hb;exact⟨rfl,cY.up (Or.inr HX) K0⟩);subst he;have L3:=ai<|(LP.af (jc _ _).drew).and p3 a3 t3 f3;have P3:=ai p3;have R3:=ai<|ja (RR.1.eO LP.a.js t3)<|ja (RR.2.eO LP.a.js t3) r3;have E3:=ai e3;have⟨f1,f2,f3⟩:=L3.bx eN ngb;clear p3 a3 t3 e3 r3)
      |(go_at_call 403;refine(dl _ _).mono ?_;rintro e w4⟨rfl,k4⟩;have L4:=ai<|L3.af k4;have E4:=ai<|E3.af k4;clear k4)
      |(go_at_call 384;go_loud(refine(DU L4.a hl R3.1 R3.2.2 _ _).mono ?_);intro e w5 hq;obtain hb|⟨he,g5,s5,p5,a5,t5⟩:=hq.symm;go_loud(have HX:=AT1.aeP (L4.bad hb.bp) ae;obtain⟨z,vl,vr,rfl,-⟩:=hb;exact⟨rfl,cY.up (Or.inr HX) K0⟩);subst he;have L5:=ai<|ja (L4.and p5 a5 t5 t5.fg)<|ja (E4.eO hl L4.a a5.js t5)<|ja (R3.1.eO L4.a.js t5)<|R3.2.1.eO L4.a.js t5;clear p5 a5 t5))
     all_goals
      go_wp2_with fail
      go_meet
      case rel=>
       refine⟨_,_,_,_,_,_,P3,L5.1,L5.2.1,L5.2.2.1,L5.2.2.2,?_⟩;omega
    case rest=>
     obtain⟨g3,s3,c3',T3,G3,s2,p3,L3,e3,r1,r2,hc3⟩:=hcut;have dm:=Lc (SP j bq) p3 hdm.1;have en3:=EN1.stg hl LP.a L3.a.js L3.t L3.f neg;have pe3:=PE2.move (Q:=λb=>b<c.lo) L3.f.size (λb p q=>L3.f.block b q<|nlo b p)<|λ_ p _=>p;have HWI:∀W:World,Bq wc W->Cq 383 #[nA c.eb,Mv<|wr.heap.size+1,Fv t2<|Av x2] W (cY c nb l (1000*nn A[j].2) (jf c.mks A[j].2<|In.over G3 Γ) g3 s3 c3' W):=λW k=>qG (He j bq) (L3.a.af k) (en3.af k) (e3.af k) (pe3.af k) (SE j bq) dm ae ae hdm.2;have R3:=ja r1 r2;have⟨f1,f2,f3⟩:=L3.bx eN ngb;clear e3 r1 r2 en3 pe3 dm p3 HPA LP RR c1 c2 c3 PE2
     go_wp2
     go_region_with(first
      |(go_at_call 383;go_loud(refine(HWI _ (jc _ _).drew).mono ?_);intro e w3 hq;obtain hb|⟨n4,g4,s4,c4,T4,he,p4,a4,t4,hc4,r4⟩:=hq.symm;go_loud(have HX:=AT1.aeP ((L3.af (jc _ _).drew).bad hb.bp) ae;obtain⟨z,vl,vr,rfl,-⟩:=hb;exact⟨rfl,cY.up (Or.inr HX) K0⟩);subst he;have L4:=ai<|(L3.af (jc _ _).drew).and p4 a4 t4 t4.fg;have R4:=ai<|ja (R3.1.eO L3.a.js t4)<|ja (R3.2.eO L3.a.js t4) r4;have⟨m1,m2,m3⟩:=L4.bx eN ngb;clear p4 a4 t4 r4)
      |(go_at_call 403;refine(dl _ _).mono ?_;rintro e w4⟨rfl,k4⟩;have L5:=ai<|L4.af k4;clear k4)
      |(go_at_call 384;go_loud(refine(DU L5.a hl R4.2.1 R4.2.2 _ _).mono ?_);intro e w5 hq;obtain hb|⟨he,g6,s6,p6,a6,t6⟩:=hq.symm;go_loud(have HX:=AT1.aeP (L5.bad hb.bp) ae;obtain⟨z,vl,vr,rfl,-⟩:=hb;exact⟨rfl,cY.up (Or.inr HX) K0⟩);subst he;have N6:Hid (MtJ c nb l W0 g s (cnt+1000*(1+nn x+ck (aU A))) p Γ n1 n2 T1 (.var<|al+1) A (A.length-(j+1)) (.int .i64 ((j+1:Nat):Int)) w5):=ai ⟨j+1,c4,g6,s6,ai rfl,bq,rfl,AT1.ofP (L5.and p6 a6 t6 t6.fg) ae,R4.1.eO L5.a.js t6,R4.2.1.eO L5.a.js t6,ai ae⟩;clear p6 a6 t6))
     all_goals
      go_wp2
      go_roundg(A.length-(j+1))
      case measure=>rw[uh dv];omega
      case rel=>exact N6
   .have bz:¬(j:Int)<(A.length:Int):=ae;have ej:j=A.length:=ae;subst ej;have HX:=(((at_.imp λo q=>Lb _ _ _ _ _ _ _ q).ret r2 (D:=1000*(1+nn x+ck (aU A))) (cnt0:=cnt) ae)).up K0;clear at_ r1 r2
    go_wp2
    go_ret;exact HX
 .have HX:=N0.bad hb;obtain⟨z,vl,vr,rfl,-⟩:=hb;clear H1
  go_wp2
  exact⟨rfl,cY.up (Or.inr HX) K0⟩
end
end Go.Proofs.YtfnkchdeheeiiaaGreatDoor
