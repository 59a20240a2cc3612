import Derived.Test.YtfnkchdeheeiiaaGreatDoorCFu
import Derived.Test.YtfnkchdeheeiiaaGreatDoorCYf
import Derived.Test.YtfnkchdeheeiiaaGreatDoorCYa
set_option linter.all false
set_option maxRecDepth 100000
set_option maxHeartbeats 4000000
namespace Go.Proofs.YtfnkchdeheeiiaaGreatDoor
open And renaming intro->ja
open Go.RowKit.Below renaming refl->jc
open In renaming andM->jd,inf->jf,wV->jh
open Go Go.RowKit Go.ChangeMaps Go.MapKept Un Proofs.Tryz
variable {st:BA} {g:fB} {r:In.MM Un.Ty} {s:In.St} {c:JC} {A:List (Nd×Nd)} {a f l n nb t:Nat} {x:Nd} {w:World}
def MtJ c nb l w0 g s D p Γ n1 n2 T U A gk v wr:=
 ∃j cj gj sj,Hid (gk=A.length-j)/\j<=A.length/\v=Nv j/\lO c nb l w0 g s p wr gj sj cj (lK c.mks Γ T U A j)/\lX l gj sj n1 T/\lX l gj sj n2 U/\Hid (cj+1000*bY (aT<|A.drop j)<=D)
section
variable {w' w0 w1:World} {g0 g1:fB} {s0 s1:In.St} {cnt ak gb:Nat} {Γ:In.Env} {dom:BA->Prop} {p q:In.MM Ty} {e:Ending}
def lO.imp(n:lO c nb l w0 g0 s0 p w g s cnt q)(h:∀o,r s o->q s o):lO c nb l w0 g0 s0 p w g s cnt r:={n with p:=λo ho=>n.p o<|h o ho}
def lL.out(n:v7 c nb l w0 g0 s0 w g s cnt)(f:Fr (jG c g gb) w w1)(hg:w0.heap.size<=gb):Fr (jS c g0) w0 w1:=n.t.fr.trans' f λx q=>by
 obtain  (q|q|q)|q:=q
 .omega
 .omega
 .exact(n.t.nw x q).imp (λz=>Or.inr<|Or.inr z) id
 .omega
def lO.ofP(n:lO c nb l w0 g0 s0 p w g s cnt q)(m:lL c nb l gb w g s q w1 g1 s1 ak r)(hg:w0.heap.size<=gb):lO c nb l w0 g0 s0 p w1 g1 s1 ak r:=by
 have⟨k0,z⟩:=n.n.z;have t:=n.n.t.trans z.js n.n.a.js m.a.js m.t;exact⟨⟨m.a,{t with fr:=lL.out n.n m.f hg},n.n.z⟩,λo ho=>n.p o<|m.p o ho⟩
def lO.abW(n:lO c nb l w0 g0 s0 p w g s cnt q)(b:YW c gb q g s w e w')(hg:w0.heap.size<=gb):qQ c p g0 s0 w0 e w':=by
 obtain⟨z,vl,vr,h1,h2,h3,h4⟩:=b;exact⟨z,vl,vr,h1,n.p _ h2,h3,lL.out n.n h4 hg⟩
def bV.nob(en:bV w nb Γ g s)(aj:AJ w c nb l cnt g s):¬jS c g nb:=by
 obtain⟨L,h,q⟩:=en;rintro(z|z|z)
 .have:=aj.je.ct.c 0;rw[<-z,h.bB 0]at this;simp at this
 .have:=aj.je.bx.c 0;rw[<-z,h.bB 0]at this;simp at this
 .exact(aj.js.mz h.ms).1 z
def ahX{mk}{nl}(hs:ScE mk nl dom (.mk 13 st n (x::aT A) f t a)):ScE mk nl dom x/\(∀i(h:i<A.length),qC mk nl A[i].1)/\∀i(h:i<A.length),ScE mk nl (λv=>dom v\/v∈oq A[i].1) A[i].2:=by
 generalize hL:x::aT A=L at hs
 cases hs with
 |mt _ _ _ x' A' _ _ _ hx hp he=>
  injection hL with h1 h2;subst h1;have:∀(A A':List (Nd×Nd)),aT A=aT A'->A=A':=by
   intro A
   induction A with
   |nil=>intro A' e;cases A' with|nil=>rfl|cons=>simp[aT]at e
   |cons p r ih=>
    intro A' e
    cases A' with
    |nil=>simp[aT]at e|cons p' r'=>
     simp only[aT,List.cons.injEq]at e;obtain⟨e1,e2,e3⟩:=e;rw[ih r' e3,Prod.ext e1 e2]
  obtain rfl:=this A A' h2;exact⟨hx,hp,he⟩
 |leaf _ _ _ _ _ _ _ hk=>omega|two _ _ _ _ _ _ _ _ _ hk=>omega|lt _ _ _ _ _ _ _ _ _ _ hk=>omega
def afM{vx v}{rb sc}{vp ve:Nat->Value}(Hx:iG x)(He:∀i(h:i<A.length),iG A[i].2)(h:mB (.mk 13 st n (x::aT A) f t a) c w nb l cnt g s Γ dom v)(hg:rb<c.lo)(kC:rb<w.heap.size)(hc:∀i,i<A.length->(∃u v,w.cell? ⟨rb,i*4,none⟩=some (Iv u)/\w.cell? ⟨rb,i*4+1,none⟩=some (Iv v))/\w.cell? ⟨rb,i*4+2,none⟩=some (vp i)/\w.cell? ⟨rb,i*4+3,none⟩=some (ve i))(hx:PE w (λb=>b<c.lo) x vx)(hp:∀i(h:i<A.length),PP w (λb=>b<c.lo) A[i].1<|vp i)(he:∀i(h:i<A.length),PE w (λb=>b<c.lo) A[i].2<|ve i):
 Cq 391 #[nA c.eb,.agg #[Nv f,Nv t,vx,.slice (some ⟨rb,0,none⟩) A.length sc]] w (cL c nb l (1000*nn (.mk 13 st n (x::aT A) f t a)) (jf c.mks (.mk 13 st n (x::aT A) f t a) Γ) g s cnt w):=by
 have en:nn (.mk 13 st n (x::aT A) f t a)=1+nn x+bY (aT A):=Jg;have⟨sx,SP,SE⟩:=ahX h.sc;have fa:=h.fa;have fb:=h.fb;rw[en]at fa fb;have hl:l<aL:=Up;have hAl:=oa A;have⟨k0,B0⟩:=mM w #[Nv f,Nv t,vx,Lv (some ⟨rb,0,none⟩) A.length sc] 201;have HA:=h.up k0;have Bw:=h.aj.il<|br _;have n0:=lO.start HA.aj<|jf c.mks (.mk 13 st n (x::aT A) f t a) Γ;have H1:=Hx c _ nb l cnt g s Γ dom vx<|HA.part n0.n (hx.af k0) sx BU BU;rw[LU]at n0;rw[en,LU];obtain⟨p,LQ⟩:∃p,p=(jd (jf c.mks x Γ) λa=>jd In.kS λv=>lK c.mks Γ a (.var v) A 0):=⟨_,rfl⟩;have N0:lO c nb l (w.alloc<|Cv #[Nv f,Nv t,vx,Lv (some ⟨rb,0,none⟩) A.length sc] 201) g s p (w.alloc<|Cv #[Nv f,Nv t,vx,Lv (some ⟨rb,0,none⟩) A.length sc] 201) g s cnt (jd (jf c.mks x Γ) λa=>jd In.kS λv=>lK c.mks Γ a (.var v) A 0):=(by rw[LQ];exact n0);rw[<-LQ];have iE:= @run_makeMap Tryz.prog;obtain⟨tx,ax,rfl⟩:=hx.iface;obtain⟨W0,HW⟩:∃W,W=w.alloc (Cv #[Nv f,Nv t,Fv tx<|Av ax,Lv (some ⟨rb,0,none⟩) A.length sc] 201):=⟨_,rfl⟩;rw[<-HW]at HA N0 B0 k0 H1;have CZ:∀o,W0.cell? ⟨rb,o,none⟩=w.cell? ⟨rb,o,none⟩:=λo=>World.cell?_of_block (a:=⟨rb,o,none⟩)<|k0.block rb kC;have HP:∀i(h:i<A.length),PP W0 (λb=>b<c.lo) A[i].1<|vp i:=λi hi=>(hp i hi).af k0;have HE:∀i(h:i<A.length),PE W0 (λb=>b<c.lo) A[i].2<|ve i:=λi hi=>(he i hi).af k0
 have ae2:=Nat.lt_of_lt_of_le kC k0.size;have nrb:=h.aj.Uq hg;have K0:=ai k0;clear h n0 k0 hp he hx Hx LQ;go_enter func391,ntmps391;go_wp2_with fail;rw[<-HW];refine H1.mono ?_;rintro e w1(⟨n1,g1,s1,ak,T1,rfl,p1,a1,t1,hc1,r1⟩|hb)
 .have N1:=N0.and p1 a1 t1;have H2:=tK a1 ae;have R1:=ai r1;clear H1 p1 a1 t1 r1 N0;go_wp2_with fail;refine H2.mono ?_;rintro e w2⟨n2,g2,rfl,p2,a2,t2,r2,-⟩;have N2:=N1.and p2 a2 t2;have⟨b1,b2,b3⟩:=N2.n.bx B0 Bw;have ST:MtJ c nb l W0 g s (cnt+1000*(1+nn x+bY (aT A))) p Γ n1 n2 T1 (.var<|ak+1) A A.length (Iv 0) w2:=⟨0,ak+1,g2,_,ai ag,Nat.zero_le _,rfl,N2,R1.kB N1.n.a.js t2,r2,ai (by rw[List.drop_zero];omega)⟩;clear H2 p2 a2 t2 r2 N2 N1 R1
  go_wp2
  go_loopg[19] A.length (λgk v wr=>MtJ c nb l W0 g s (cnt+1000*(1+nn x+bY (aT A))) p Γ n1 n2 T1 (.var<|ak+1) A gk v wr)
  case atStart=>exact ST
  case round=>
   clear ST b1 b2 b3;obtain⟨j,cj,gj,sj,c_,hj,rfl,at_,r1,r2,hbd⟩:=hrel;have hbd:=uh hbd;by_cases bh:j<A.length
   .have bA:(j:Int)<(A.length:Int):=ae;have Ej:(0:Int)<=(j:Int):=ae;have kZ:∀o,wr.cell? ⟨rb,o,none⟩=w.cell? ⟨rb,o,none⟩:=λo=>(World.cell?_of_block (a:=⟨rb,o,none⟩)<|at_.n.t.fr.block rb ae2 nrb).trans<|CZ o;have⟨⟨u,v,d0,d1⟩,d2,d3⟩:=hc j bh;rw[<-kZ]at d0 d1 d2 d3;clear kZ;have pp:=HP j bh;have pe:=HE j bh;have⟨t1,x1,e1⟩:=pp.iface;have⟨t2,x2,e2⟩:=pe.iface;rw[e1]at d2 pp;rw[e2]at d3 pe;have pl1:=pp.place;have pl2:=pe.place;dsimp only[PlF]at pl1 pl2;have hdn:=Bp bh;have hnn:=qS A j bh;have k1:Bq wr ((wr.alloc<|Cv #[Iv u,Iv v,Fv t1<|Av x1,Fv t2<|Av x2] 257).alloc<|.map #[] 0):=(bw _).alloc ag _;obtain⟨W1,yR⟩:∃W,W=(wr.alloc<|Cv #[Iv u,Iv v,Fv t1<|Av x1,Fv t2<|Av x2] 257).alloc (.map #[] 0):=⟨_,rfl⟩;have B1:=(Bx.new wr #[Iv u,Iv v,Fv t1<|Av x1,Fv t2<|Av x2] 257).alloc<|.map #[] 0;have E1:bV W1 (wr.heap.size+1) (λ_=>none) gj sj:=by
     have:=bV.new (wr.alloc<|Cv #[Iv u,Iv v,Fv t1<|Av x1,Fv t2<|Av x2] 257) gj sj;rw[yR];simpa using this
    rw[<-yR]at k1 B1;have Tv:=(at_.af k1).imp λo q=>Bo bh q;have z0:=at_.n.t.fr.size;have zb:=at_.n.a.je.bx.z;have zz:=at_.n.a.je.z;have zr:=at_.n.a.je.rs.lt;have zm:=at_.n.a.je.ms.lt;have nbx:=at_.n.a.il<|br _;have h:=HA;have HPA:∀W:World,Bq W1 W->Cq 399 #[nA c.eb,Mv<|wr.heap.size+1,Fv t1<|Av x1] W (o6 c nb l (wr.heap.size+1) (1000*nn A[j].1) (In.eh c.mks A[j].1 λ_=>none) gj sj cj W):=λW k=>afL A[j].1 c W nb l cj gj sj _ (λ_=>none) _ ⟨Tv.n.a.af k,E1.af k,(pp.move (Q:=λb=>b<c.lo) Tv.n.t.fr.size (λb p q=>Tv.n.t.fr.block b q<|h.aj.Uq p)<|λ_ p _=>p).af k,SP j bh,⟨ae,ae,ae,ae⟩,ae,hl,h.mf⟩;have EN1:=h.en.kB hl h.aj Tv.n.a.js Tv.n.t;have nen:=EN1.nob Tv.n.a;have zen:=EN1.lt;have ngb:¬jG c gj (wr.heap.size+1) wr.heap.size:=λq=>q.elim nbx λq=>ae;have neg:¬jG c gj (wr.heap.size+1) nb:=λq=>q.elim nen λq=>by have:=(h.en.kB hl h.aj at_.n.a.js at_.n.t).lt;omega
    have LP:=lL.start (gb:=wr.heap.size+1) Tv.n.a<|Yr c.mks Γ T1 (.var<|ak+1) A j bh;rw[Yr]at LP;have AT1:=ai Tv;have RR:=ja r1 r2;have PE2:=pe.move (Q:=λb=>b<c.lo) Tv.n.t.fr.size (λb p q=>Tv.n.t.fr.block b q<|h.aj.Uq p)<|λ_ p _=>p;have nlo:∀b,b<c.lo->¬jG c gj (wr.heap.size+1) b:=λb p q=>q.elim (Tv.n.a.Uq p) λq=>ae;have dC:=ai B1;have FV:=ai yR;have hdm:=ai<|ja h.hd h.mf;obtain⟨c1,c2,c3⟩:=B1;clear at_ Tv r1 r2 pp pe h k1 E1 yR nen;go_wp2_with fail;rw[<-uh FV];go_cut[]from 24 to 33 (λwc=>∃g3 s3 c3 T3 G3 s2,In.eh c.mks A[j].1 (λ_=>none) sj (.ok ((T3,G3),s2))/\lL c nb l (wr.heap.size+1) W1 gj sj (Yr c.mks Γ T1 (.var<|ak+1) A j bh) wc g3 s3 c3 (jd (jf c.mks A[j].2<|In.over G3 Γ) λu=>jd (In.p_ (.var<|ak+1) u (In.ij A[j].2)<|In.uQ A[j].2) λ_=>lK c.mks Γ T1 (.var<|ak+1) A<|j+1)/\bV wc (wr.heap.size+1) G3 g3 s3/\lX l g3 s3 n1 T1/\lX l g3 s3 n2 (.var<|ak+1)/\c3<=cj+1000*nn A[j].1)
    case first=>
     go_region_with(first
      |(go_at_call 399;go_loud(refine(HPA _ (jc _ _).drew).mono ?_);intro e w3 hq;obtain hb|⟨n3,g3,s3,c3',T3,G3,he,p3,a3,t3,f3,e3,hc3,r3⟩:=hq.symm;go_loud(have HX:=AT1.abW ((LP.af (jc _ _).drew).bad hb) ae;obtain⟨z,vl,vr,rfl,-⟩:=hb;exact⟨rfl,cL.up (Or.inr HX) K0⟩);subst he;have L3:=ai<|(LP.af (jc _ _).drew).and p3 a3 t3 f3;have P3:=ai p3;have R3:=ai<|ja (RR.1.kB LP.a.js t3)<|ja (RR.2.kB LP.a.js t3) r3;have E3:=ai e3;have⟨f1,f2,f3⟩:=L3.bx dC ngb;clear p3 a3 t3 e3 r3)
      |(go_at_call 403;refine(cW _ _).mono ?_;rintro e w4⟨rfl,k4⟩;have L4:=ai<|L3.af k4;have E4:=ai<|E3.af k4;clear k4)
      |(go_at_call 384;go_loud(refine(Bv L4.a hl R3.1 R3.2.2 _ _).mono ?_);intro e w5 hq;obtain hb|⟨he,g5,s5,p5,a5,t5⟩:=hq.symm;go_loud(have HX:=AT1.abW (L4.bad hb.bp) ae;obtain⟨z,vl,vr,rfl,-⟩:=hb;exact⟨rfl,cL.up (Or.inr HX) K0⟩);subst he;have L5:=ai<|ja (L4.and p5 a5 t5 t5.fg)<|ja (E4.kB hl L4.a a5.js t5)<|ja (R3.1.kB L4.a.js t5)<|R3.2.1.kB L4.a.js t5;clear p5 a5 t5))
     all_goals
      go_wp2_with fail
      go_meet
      case rel=>
       refine⟨_,_,_,_,_,_,P3,L5.1,L5.2.1,L5.2.2.1,L5.2.2.2,?_⟩;omega
    case rest=>
     obtain⟨g3,s3,c3',T3,G3,s2,p3,L3,e3,r1,r2,hc3⟩:=hcut;have dm:=IL (SP j bh) p3 hdm.1;have en3:=EN1.stg hl LP.a L3.a.js L3.t L3.f neg;have pe3:=PE2.move (Q:=λb=>b<c.lo) L3.f.size (λb p q=>L3.f.block b q<|nlo b p)<|λ_ p _=>p;have HWI:∀W:World,Bq wc W->Cq 383 #[nA c.eb,Mv<|wr.heap.size+1,Fv t2<|Av x2] W (cL c nb l (1000*nn A[j].2) (jf c.mks A[j].2<|In.over G3 Γ) g3 s3 c3' W):=λW k=>oR (He j bh) (L3.a.af k) (en3.af k) (e3.af k) (pe3.af k) (SE j bh) dm ae ae hdm.2;have R3:=ja r1 r2;have⟨f1,f2,f3⟩:=L3.bx dC ngb;clear e3 r1 r2 en3 pe3 dm p3 HPA LP RR c1 c2 c3 PE2
     go_wp2
     go_region_with(first
      |(go_at_call 383;go_loud(refine(HWI _ (jc _ _).drew).mono ?_);intro e w3 hq;obtain hb|⟨n4,g4,s4,c4,T4,he,p4,a4,t4,hc4,r4⟩:=hq.symm;go_loud(have HX:=AT1.abW ((L3.af (jc _ _).drew).bad hb.bp) ae;obtain⟨z,vl,vr,rfl,-⟩:=hb;exact⟨rfl,cL.up (Or.inr HX) K0⟩);subst he;have L4:=ai<|(L3.af (jc _ _).drew).and p4 a4 t4 t4.fg;have R4:=ai<|ja (R3.1.kB L3.a.js t4)<|ja (R3.2.kB L3.a.js t4) r4;have⟨m1,m2,m3⟩:=L4.bx dC ngb;clear p4 a4 t4 r4)
      |(go_at_call 403;refine(cW _ _).mono ?_;rintro e w4⟨rfl,k4⟩;have L5:=ai<|L4.af k4;clear k4)
      |(go_at_call 384;go_loud(refine(Bv L5.a hl R4.2.1 R4.2.2 _ _).mono ?_);intro e w5 hq;obtain hb|⟨he,g6,s6,p6,a6,t6⟩:=hq.symm;go_loud(have HX:=AT1.abW (L5.bad hb.bp) ae;obtain⟨z,vl,vr,rfl,-⟩:=hb;exact⟨rfl,cL.up (Or.inr HX) K0⟩);subst he;have N6:Hid (MtJ c nb l W0 g s (cnt+1000*(1+nn x+bY (aT A))) p Γ n1 n2 T1 (.var<|ak+1) A (A.length-(j+1)) (.int .i64 ((j+1:Nat):Int)) w5):=ai ⟨j+1,c4,g6,s6,ai rfl,bh,rfl,AT1.ofP (L5.and p6 a6 t6 t6.fg) ae,R4.1.kB L5.a.js t6,R4.2.1.kB L5.a.js t6,ai ae⟩;clear p6 a6 t6))
     all_goals
      go_wp2
      go_roundg(A.length-(j+1))
      case measure=>rw[uh c_];omega
      case rel=>exact N6
   .have bA:¬(j:Int)<(A.length:Int):=ae;have ej:j=A.length:=ae;subst ej;have HX:=(((at_.imp λo q=>IK _ _ _ _ _ _ _ q).ret r2 (D:=1000*(1+nn x+bY (aT A))) (cnt0:=cnt) ae)).up K0;clear at_ r1 r2
    go_wp2
    go_ret;exact HX
 .have HX:=N0.bad hb;obtain⟨z,vl,vr,rfl,-⟩:=hb;clear H1
  go_wp2
  exact⟨rfl,cL.up (Or.inr HX) K0⟩
end
section
variable {cnt:Nat} {P:Nat->Prop}
abbrev DK(c:JC)t vs ms fD:={c with mks:=jh t vs ms c.mks,fD:=fD}
def SW(h:AJ w c nb l cnt g s)(hrm:c.rb≠c.mb){t}{vs}{ms}{f x}{vv vm}(hv:RowV QName 3 w P vs vv)(hm:RowV QMaker 6 w P ms vm)(hd:TdF t vs ms):
 Cq 375 #[nA c.eb,.agg #[Iv f,Iv x,Nv t.al,Nv t.to,.string t.text,vv,vm]] w (λe w'=>e=.returned (.tuple #[])/\Fr (λi=>i=c.mb) w w'/\AJ w' (DK c t vs ms w'.heap.size) nb l cnt g s):=by
 obtain⟨w0,uS⟩:∃w0,w0=w.alloc (Cv #[Iv f,Iv x,Nv t.al,Nv t.to,Sv t.text,vv,vm] 137):=⟨_,rfl⟩;have k0:Bq w w0:=by rw[uS];exact bw _
 have B0:Bx w0 w.heap.size #[Iv f,Iv x,Nv t.al,Nv t.to,Sv t.text,vv,vm]:=by rw[uS];exact Bx.new w #[Iv f,Iv x,Nv t.al,Nv t.to,Sv t.text,vv,vm] 137
 have a0:=h.af k0;have zm:=a0.je.ms.lt;have zc:=a0.je.ct.z;have HMK:∀W:World,Bq w0 W->Cq 322 #[Av #[Iv f,Iv x,Nv t.al,Nv t.to,Sv t.text,vv,vm]] W (λe w'=>∃b,e=Rv (Mv b)/\Bq W w'/\W.heap.size<=b/\lQ w' (λi=>W.heap.size<=i) b (jh t vs ms λ_=>none)):=λW hb=>by
  have kW:=k0.trans<|hb.mono k0.size;exact I6 (hv.move dc kW.size (λb _ z=>kW.block b z)<|λ_ p _=>p) (hm.move bS kW.size (λb _ z=>kW.block b z)<|λ_ p _=>p) hd
 have HCP:Hid (∀(W:World)(b:Nat),Bq w0 W->w0.heap.size<=b->lQ W (λi=>w0.heap.size<=i) b (jh t vs ms λ_=>none)->Cq 321 #[Mv c.mb,Mv b] W (λe w'=>e=Rv (.tuple #[])/\Fr (λi=>i=c.mb) w w'/\AJ w' (DK c t vs ms w'.heap.size) nb l cnt g s)):=ai λW b hb hz hM=>by
  have aW:=a0.af hb;have⟨L,Zc,_⟩:=id aW.je.ms;have zb:=hM.lt;have zs:=hb.size;have h1:lQ W (λi=>i≠c.cb/\i≠c.mb/\i<W.heap.size) c.mb c.mks:=(aW.je.ms.sd<|Zc.bB 0).move (br _) rfl (λ_ _ _=>rfl) (λi p z=>⟨p.1.1,p.2,z⟩);have h2:lQ W (λi=>i≠c.cb/\i≠c.mb/\i<W.heap.size) b (jh t vs ms λ_=>none):=hM.move (br _) rfl (λ_ _ _=>rfl) (λi p z=>⟨qBv,qBv,z⟩);refine(Qd h1 h2 (λq=>q.2.1 rfl) (λi p=>p.2.2) ae).mono ?_;rintro e w'⟨rfl,hM3,F3⟩;rw[<-yK]at hM3;have⟨n1,n2,n3,n4,n5⟩:=aW.je.ne;have z3:=F3.size;refine⟨rfl,(Fr.of<|k0.trans<|hb.mono k0.size).trans F3,⟨aW.je.bx.fr F3<|Ne.symm n5,aW.je.ct.fr F3<|Ne.symm n4,aW.je.rs.same<|F3.block _ aW.je.rs.lt hrm,hM3.move (br _) rfl (λ_ _ _=>rfl) (λi p _=>⟨p.1,by show i<w'.heap.size;omega⟩),⟨aW.je.z.1,aW.je.z.2.1,br _⟩⟩,⟨aW.js.gl.mR F3.size λb p q=>F3.block b (iQ q) λe=>(by rw[e,Zc.bB 0]at q;cases q),aW.js.mh,aW.js.inj,aW.js.can,aW.js.lc,aW.js.val,aW.js.use,aW.js.ok⟩,aW.us,aW.lv,aW.lo⟩
 have HL:Hid (∀W:World,Bq w0 W->W.cell? ⟨c.eb,2,none⟩=some (Mv c.mb)):=ai λW k=>(a0.af k).je.bx.c 2;obtain⟨b1,b2,b3⟩:=B0;have⟨e1,e2,e3⟩:=a0.je.bx;obtain⟨pa,pc,cs,rfl,-⟩:=hv;obtain⟨ma,mc,ds,rfl,-⟩:=hm;have HW:=ai uS;clear h k0 a0 uS;go_enter func375,ntmps375;go_wp2_with fail;rw[<-uh HW]
 go_region_with(first
  |(go_at_call 322;go_loud(refine(HMK _ (jc _ _).drew).mono ?_);rintro e w2⟨b,rfl,k2,z2,hM⟩;have k2':Bq w0 w2:=(jc _ _).drew.trans k2;have s0:=uh HL _ k2';have HC:=ai<|HCP w2 b k2' z2 hM;clear k2 k2' z2 hM)
  |(go_at_call 321;go_loud(refine HC.mono ?_);rintro e w3⟨rfl,hp⟩;have HP:=ai hp;clear hp))
 all_goals
  go_wp2
  go_end0;exact⟨rfl,HP⟩
def afN nl:Cq 64 #[] w λe w'=>∃(c:JC)(nb:Nat)(g:fB),e=.returned (nA c.eb)/\Bq w w'/\AJ w' c nb 0 0 g ⟨Ty.var,λ_=>False⟩/\bV w' nb (λ_=>none) g ⟨Ty.var,λ_=>False⟩/\c.mks=(λ_=>none)/\c.nl=nl/\c.lo=w.heap.size/\c.rb≠c.mb/\nb≠c.rb/\nb≠c.mb/\c.lo<=nb/\c.lo<=c.mb:=by
 have iE:= @run_makeMap Tryz.prog;go_enter func64,ntmps64;go_wp2_with fail;refine(vh).mono ?_;rintro e w1⟨rfl,vo⟩;have k1:Bq w w1:=by rw[vo];exact bw _
 have C1':Bx w1 w.heap.size #[Iv 0]:=by rw[vo];exact Bx.new w #[Iv 0] 3
 have z1:w1.heap.size=w.heap.size+1:=by rw[vo];simp
 have K1:=ai k1;clear vo k1;go_wp2_with fail;refine(Ap).mono ?_;rintro e w2⟨rfl,R2,k2,z2⟩;have K2:=ai k2;clear k2
 go_wp2
 go_ret;obtain⟨w3,sw⟩:∃w3,w3=w2.alloc (.map #[] 0):=⟨_,rfl⟩;obtain⟨w4,hw4⟩:∃w4,w4=w3.alloc (.map #[] 0):=⟨_,rfl⟩;have k3:Bq w2 w3:=by rw[sw];exact bw _
 have k4:Bq w3 w4:=by rw[hw4];exact bw _
 have z3:w3.heap.size=w2.heap.size+1:=by rw[sw];simp
 have z4:w4.heap.size=w3.heap.size+1:=by rw[hw4];simp
 have k2:=uh K2;have k1:=uh K1;have m3:MG Sv w3 (w.heap.size+2) []:=by rw[sw,show w.heap.size+2=w2.heap.size by omega];exact MG.new _ w2
 have m4:MG Sv w4 (w.heap.size+3) []:=by rw[hw4,show w.heap.size+3=w3.heap.size by omega];exact MG.new _ w3
 rw[<-sw,<-hw4];obtain⟨w5,hw5⟩:∃w5,w5=w4.alloc (Cv #[.func (.func 47) #[] #[Pv w.heap.size],Mv<|w.heap.size+1,Mv<|w.heap.size+2,Mv<|w.heap.size+3,Iv 0] 222):=⟨_,rfl⟩;have k5:Bq w4 w5:=by rw[hw5];exact bw _
 have z5:w5.heap.size=w.heap.size+5:=by rw[hw5];simp;omega
 have b5:Bx w5 (w.heap.size+4) #[.func (.func 47) #[] #[Pv w.heap.size],Mv<|w.heap.size+1,Mv<|w.heap.size+2,Mv<|w.heap.size+3,Iv 0]:=by
  have:=Bx.new w4 #[.func (.func 47) #[] #[Pv w.heap.size],Mv<|w.heap.size+1,Mv<|w.heap.size+2,Mv<|w.heap.size+3,Iv 0] 222;rw[<-hw5,show w4.heap.size=w.heap.size+4 by omega]at this;exact this
 have Jx:=k4.trans<|k5.mono k4.size;have k35:=k3.trans<|Jx.mono k3.size;have k25:=k2.trans<|k35.mono k2.size;have kk:=k1.trans<|k25.mono k1.size;have js:JS w5 ⟨[],λ_=>none,λ_=>none,λ_=>0,λ_=>(none,0),λ_=>0,λ_=>.var 0⟩ ⟨Ty.var,λ_=>False⟩:=by
  refine⟨⟨λn h=>tP,λn _=>⟨rfl,rfl⟩,λn h=>tP⟩,.start _ _,λa b h=>tP,λn x k=>?_,λa h=>tP,λn h=>tP,λn h=>tP,In.Ex _⟩;rfl
 have res:∃(c:JC)(nb:Nat)(g:fB),Rv (Pv<|w.heap.size+4)=Rv (nA c.eb)/\Bq w w5/\AJ w5 c nb 0 0 g ⟨Ty.var,λ_=>False⟩/\bV w5 nb (λ_=>none) g ⟨Ty.var,λ_=>False⟩/\c.mks=(λ_=>none)/\c.nl=nl/\c.lo=w.heap.size/\c.rb≠c.mb/\nb≠c.rb/\nb≠c.mb/\c.lo<=nb/\c.lo<=c.mb:=by
  refine⟨⟨w.heap.size+4,w.heap.size,w.heap.size+1,w.heap.size+2,w.heap.size,w.heap.size+5,λ_=>none,nl⟩,w.heap.size+3,_,rfl,kk,⟨⟨b5,C1'.below k25,?_,⟨[],m3.same<|Jx.block _ ae,λ_ _=>rfl,λx v h=>ZC⟩,?_⟩,js,λn q=>q.elim,λn h=>tP,λn h=>tP⟩,⟨[],m4.same<|k5.block _ ae,λx=>Or.inl ⟨rfl,rfl⟩⟩,rfl,rfl,rfl,?_,?_,?_,?_,?_⟩
  .have:=R2.same (w':=w5)<|k35.block _ ae
   rwa[z1]at this
  all_goals(dsimp only;omega)
 rw[hw5]at res;exact res
end
end Go.Proofs.YtfnkchdeheeiiaaGreatDoor
