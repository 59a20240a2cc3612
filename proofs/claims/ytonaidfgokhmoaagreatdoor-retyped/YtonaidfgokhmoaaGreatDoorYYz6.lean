import Derived.Test.YtonaidfgokhmoaaGreatDoorYFd
set_option linter.all false
set_option maxRecDepth 100000
set_option maxHeartbeats 8000000
namespace Go.Proofs.YtonaidfgokhmoaaGreatDoor
open _root_.Option renaming none->aa
open Go Go.RowKit Go.ChangeMaps Go.MapKept Un
variable {base lo:Nat} {w w':World}
def Vb:Tryz.prog.underlying 32=some (.slice 31):=qkr
def aaG:(Tryz.prog.info? 31).map (λi=>(i.zero,i.size,i.bytes))=some (some<|.agg #[.string ⟨#[]⟩,.string ⟨#[]⟩],2,32):=qkr
def ah0(S:World->Nat->In.Mks->In.St->In.Env->Prop)nl rs Q w lo(l:List Dc)gk c wr:=
 ∃(j cnt:Nat)(b:In.Mks)(s:In.St)(Γ:In.Env)(e:SE)(B:List (BA×Ty))(d:Option Addr)(f:Nat),Hid (gk=l.length-j)/\j<=l.length/\c=Nv j/\S wr cnt b s Γ/\PI nl rs Q (l.drop j) cnt b s Γ e B/\B.length<=j/\qS wr (w.heap.size+1) (w.heap.size+1+1) (w.heap.size+3) B d f/\Below lo w wr/\w.heap.size+3<=wr.heap.size
def aiR(Q:List (BA×Ty)->Option In.Ft->Prop)lo w(e:Ending)w':=∃B F va vc,Q B F/\e=.returned (mK (fF F) (fL F) (fR F) va B.length vc)/\A_ w' (λb=>w.heap.size<=b) B va vc/\Below lo w w'
def KpI.yz(k:KpI lo base w w')(h:lo<=w.heap.size):Below lo w w':=⟨k.os,k.tape,k.output,k.size,λb hb=>k.low b ae hb⟩
def qM.af{z}{vl vr}(h:qM w (λ_=>True) z vl vr)(k:Bq w w'):qM w' (λ_=>True) z vl vr:=
 ⟨h.p9,λq=>⟨(h.apart q).1.move k.size (λb _ z=>k.block b z)<|λ_ _ _=>trivial,(h.apart q).2.move k.size (λb _ z=>k.block b z)<|λ_ _ _=>trivial⟩,h.k⟩
def Sl{S}{a}(h:Fr S a w){b}(d:S b\/a.heap.size<=b)v0 v1 v2 v3 v4 v5 v6:Fr S a (((((((w.setCell ⟨b,0,aa⟩ v0).setCell ⟨b,1,aa⟩ v1).setCell ⟨b,2,aa⟩ v2).setCell ⟨b,3,aa⟩ v3).setCell ⟨b,4,aa⟩ v4).setCell ⟨b,5,aa⟩ v5).setCell ⟨b,6,aa⟩ v6):=((((((h.set d 0 v0).set d 1 v1).set d 2 v2).set d 3 v3).set d 4 v4).set d 5 v5).set d 6 v6
def aaH{wr}{B}{va}{vc}(h:qS wr (w.heap.size+1) (w.heap.size+1+1) (w.heap.size+3) B va vc)(k:Below lo w wr)(hl:lo<=w.heap.size)(hz:w.heap.size+3<=wr.heap.size)(e:lo<=wr.heap.size){v0 v1 v2 v3 v4 v5 v6}:
 A_ (((((((wr.setCell ⟨w.heap.size+1,0,aa⟩ v0).setCell ⟨w.heap.size+1,1,aa⟩ v1).setCell ⟨w.heap.size+1,2,aa⟩ v2).setCell ⟨w.heap.size+1,3,aa⟩ v3).setCell ⟨w.heap.size+1,4,aa⟩ v4).setCell ⟨w.heap.size+1,5,aa⟩ v5).setCell ⟨w.heap.size+1,6,aa⟩ v6) (λb=>w.heap.size<=b) B va vc/\Below lo w (((((((wr.setCell ⟨w.heap.size+1,0,aa⟩ v0).setCell ⟨w.heap.size+1,1,aa⟩ v1).setCell ⟨w.heap.size+1,2,aa⟩ v2).setCell ⟨w.heap.size+1,3,aa⟩ v3).setCell ⟨w.heap.size+1,4,aa⟩ v4).setCell ⟨w.heap.size+1,5,aa⟩ v5).setCell ⟨w.heap.size+1,6,aa⟩ v6):=by
 have d:=Sl (Fr.refl (λb=>b=w.heap.size+1) wr) (b:=w.heap.size+1) (Or.inl rfl) v0 v1 v2 v3 v4 v5 v6;refine⟨A_.move ⟨h.row.v om,h.row.cap⟩ d.size (λb p z=>d.block b z (by show ¬b=w.heap.size+1;omega)) (λb p _=>ae),Fr.yz k e d (λx q=>by subst q;omega)⟩
def acW{S}{ty}{eb}{rs}{nl}(E:VW ty eb lo base rs nl S){Q}{l}{u}{cnt}{mks}{s}{Γ}{se}(hr:RowV QD 1 w (·<lo) l u)(hl:l.length<=802)(s0:lo<=base)(E0:base<=w.heap.size)(O:S w cnt mks s Γ)(A:PI nl rs Q l cnt mks s Γ se []):
 Calls Tryz.prog 23 #[.agg #[u],.iface ty<|Pv eb] w (aiR Q lo w):=by
 obtain⟨va,vc,cs,rfl,HW,HQ⟩:=hr;have⟨fM,hfM,hcM,a0⟩:=E.mks;have⟨fT,hfT,hcT,b0⟩:=E.lts;have HM:=λw cnt mks s Γ t vs ms f x vv vm=> @a0 w cnt mks s Γ t vs ms f x vv vm;have HL:=λw cnt mks s Γ rc st x v a y dom=> @b0 w cnt mks s Γ rc st x v a y dom;have⟨i0,t0,v0,w0,x0⟩:=info_parts aaG;obtain⟨W1,r⟩:∃W1,W1=((w.alloc<|Cv #[Lv va l.length vc] 50).alloc<|Cv #[Iv 0,Iv 0,Iv 0,Sv ⟨#[]⟩,Sv ⟨#[]⟩,Lv aa 0 0,Lv aa 0 0] 38).alloc (Cv #[Iv 0,Iv 0,Iv 0,Sv ⟨#[]⟩,Sv ⟨#[]⟩,Lv aa 0 0,Lv aa 0 0] 38):=⟨_,rfl⟩;have k1:Bq w W1:=by rw[r];exact((bw _).alloc ag _).alloc bQ _
 have z1:W1.heap.size=w.heap.size+3:=by rw[r];simp
 have R1:qS W1 (w.heap.size+1) (w.heap.size+1+1) (w.heap.size+3) [] aa 0:=(by
  refine⟨?_,?_,dC.nil _ _ _ _ _,λb q=>by simp[Value.ownBlock]at q⟩
  .rw[r];have:=(Bx.new (w.alloc<|Cv #[Lv va l.length vc] 50) (oo aa 0 0) 38).alloc<|Cv (oo aa 0 0) 38;simpa[oo]using this
  .rw[r];have:=Bx.new ((w.alloc<|Cv #[Lv va l.length vc] 50).alloc<|Cv (oo aa 0 0) 38) (oo aa 0 0) 38;simpa[oo]using this)
 have S1:=E.af O k1;have K1:=k1.mono<|Nat.le_trans s0 E0;have HP:=ai A;clear O A k1 a0 b0;go_enter Tryz.func23,Tryz.ntmps23;go_wp2_with fail;rw[<-r];clear r;go_loopg[15] l.length (λgk c wr=>ah0 S nl rs Q w lo l gk c wr)
 case atStart=>exact⟨0,cnt,mks,s,Γ,se,[],aa,0,ai rfl,Nat.zero_le _,rfl,S1,HP,br _,R1,K1,ae⟩
 case round=>
  clear S1 HP R1 K1 z1;obtain⟨j,c0,ajy,s',y0,se',B,d,m,e0,hj,rfl,O,A,hB,D,HB,hzr⟩:=hrel;have g0:lo<=wr.heap.size:=ae;by_cases C:j<l.length
  .have hd:=kK C;obtain⟨g,rfl,hg,-,h0⟩:∃g,va=some ⟨g,0,aa⟩/\g<lo/\g<w.heap.size/\∀i,i<l.length->∀j,j<1->w.cell? ⟨g,i*1+j,aa⟩=some (cs i j):=by
    obtain e|e:=HW
    .exact absurd C Vh
    .exact e
   have d0:=(World.cell?_of_block (a:=⟨g,j*1+0,aa⟩)<|HB.block g hg).trans<|h0 j C 0 ae;simp only[Nat.mul_one,Nat.add_zero]at d0;have P:=(show PD w (·<lo) l[j] (cs j 0)from HQ j C).move HB.size (λb p _=>HB.block b p)<|λ_ p _=>p;rw[List.drop_eq_getElem_cons C]at A;generalize l[j]=dj at A P;clear h0
   cases dj with
   |ty t vs ms=>
    obtain⟨f0,u0,vv,vm,ev,-,-,I,-,G⟩:=P;rw[ev]at d0;clear ev;obtain⟨J,L,cs1,e1,-⟩:=id I;obtain⟨N,U,cs2,V,-⟩:=id G;subst e1 V;have⟨n,o⟩:=A.ty;have kA:Bq wr (wr.alloc<|Cv #[Iv f0,Iv u0,Nv t.ah,Nv t.to,Sv t.text,Lv J vs.length L,Lv N ms.length U] 96):=bw _;have HC:=HM _ _ _ _ _ _ _ _ f0 u0 _ _ (E.af O kA) (I.move eI kA.size (λb _ z=>kA.block b z)<|λ_ p _=>p) (G.move cS kA.size (λb _ z=>kA.block b z)<|λ_ p _=>p) n;have K:=D.af kA;have R:=ai o;have KA:=HB.trans<|kA.mono g0;clear O A o D I G n kA;go_wp2_with fail;refine HC.mono ?_;rintro e w3⟨rfl,F,X⟩;have Y:=K.kp F ae ae ae;have Z:=KA.trans<|F.yz bQ;have z3:=F.size;simp at z3;clear HC K KA F
    go_wp2
    go_roundg(l.length-(j+1))
    case measure=>rw[uh e0];omega
    case rel=>exact⟨j+1,c0,_,s',y0,_,B,d,m,ai rfl,ae,iF,X,R,ae,Y,Z,ae⟩
   |lt rc t b=>
    obtain⟨f0,u0,vb,ev,-,-,U⟩:=P;rw[ev]at d0;clear ev;obtain⟨tb,xb,e1⟩:∃a x,vb=Fv a x:=by cases U<;>exact⟨_,_,rfl⟩
    subst e1;have⟨g1,g2,g3,g4,g5,HG⟩:=A.lt;have kA:Bq wr (wr.alloc<|Cv #[Iv f0,Iv u0,.bool rc,Nv t.ah,Nv t.to,Sv t.text,Fv tb xb] 103):=bw _;have B9:Bx (wr.alloc<|Cv #[Iv f0,Iv u0,.bool rc,Nv t.ah,Nv t.to,Sv t.text,Fv tb xb] 103) wr.heap.size #[Iv f0,Iv u0,.bool rc,Nv t.ah,Nv t.to,Sv t.text,Fv tb xb]:=Bx.new _ _ _;have HC:=HL _ _ _ _ _ _ _ _ _ t.ah t.to _ (E.af O kA) (U.move kA.size (λb _ z=>kA.block b z)<|λ_ p _=>p) g5 A.nm g1 g2 g3 g4;have K:=D.af kA;have j0:=ai B9;have KA:=HB.trans<|kA.mono g0;clear O A D U g1 g2 g3 g4 g5 kA B9;go_wp2_with fail;refine HC.mono ?_;intro e w2 L;have⟨k2,hc⟩:=L.cases HG;have R2:=ai<|K.kp k2 ae ae ae;have K2:=ai<|KA.trans<|k2.yz bQ;have V:=ai (k2.bx j0 ae rfl (by intro q;simp));have z2:=k2.size;simp at z2;clear HC K KA k2 L HG j0;obtain⟨z,vl,vr,rfl,hf,k0,hQ⟩|⟨T,ta,xa,l0,s2,rfl,hT,hw,hs,S2,P2⟩:=hc
    .obtain⟨⟨kd,n,o⟩,J,N⟩:=z;have n0:=ai hQ;have F:∀W,Bq w2 W->Calls Tryz.prog 34 #[Av #[Iv 0,Iv 0,Iv 0,Sv ⟨#[]⟩,Sv ⟨#[]⟩,Lv d B.length m,Lv aa 0 0],Av #[Nv kd,Nv n,Nv o,vl,vr]] W λe w'=>e=Rv (Av #[Nv kd,Nv n,Nv o,Sv<|SC ⟨⟨kd,n,o⟩,J,N⟩,Sv<|SF ⟨⟨kd,n,o⟩,J,N⟩,Lv d B.length m,Lv aa 0 0])/\Bq W w':=λW k=>SK (hf.af k) k0 d B.length m;obtain⟨tL,hL⟩:∃x,x=SC ⟨⟨kd,n,o⟩,J,N⟩:=⟨_,rfl⟩;obtain⟨tR,D⟩:∃x,x=SF ⟨⟨kd,n,o⟩,J,N⟩:=⟨_,rfl⟩;rw[<-hL,<-D]at F;have o0:=ai hL;have p0:=ai D;have I:=hf.hv;have hkk:((kd:Int)==0)=false:=by obtain q|q:=hf.k<;>(simp only at q;subst q;rfl)
     have Y:Bq w2 (w2.alloc<|Cv #[Nv kd,Nv n,Nv o,vl,vr] 107):=bw _;have RF:=R2.af Y;have KF:=K2.trans<|Y.mono ae;have X:=F _ Y;have⟨r1,r2,r3⟩:=RF.r5;simp only[oo]at r1;clear hf hQ k0 hL D F R2 K2 Y V;obtain⟨rfl,rfl⟩|⟨ia,ib,ic,id',rfl,rfl⟩:=I
     all_goals(
      go_wp2_with fail;refine X.mono ?_;rintro e Z⟨rfl,G⟩;have R4:=RF.af G;have K4:=KF.trans<|G.mono bQ;have z4:=G.size;simp at z4;clear r1 r2 r3 X G;have⟨r1,r2,r3⟩:=R4.r4;simp only[oo]at r1;go_wp2_with fail;have⟨p1,p2,p3⟩:=R4.r4.SI rfl (Nv kd) (Nv n) (Nv o) (Sv tL) (Sv tR) (Lv d B.length m) (Lv aa 0 0);refine bodyPost_ret (v:=Av #[Nv kd,Nv n,Nv o,Sv tL,Sv tR,Lv d B.length m,Lv aa 0 0]) (by simp[results,Tryz.results23,go_sem,p1]) rfl ⟨B,some ⟨⟨kd,n,o⟩,J,N⟩,d,m,n0,by rw[uh o0,uh p0];rfl,?_⟩
      exact aaH R4 K4 ae ae ae)
    .obtain⟨n,X⟩:∃n,n=w2.alloc (Cv #[Iv 0,Iv 0,Iv 0,Zv,Zv] 107):=⟨_,rfl⟩;have I:Bq w2 n:=by rw[X];exact bw _
     have zD:=I.size;have RD:=ai<|R2.af I;have KD:=K2.trans<|I.mono ae;have SD:=E.af S2 I;have BD:=ai<|V.below I;have z0:∀W,Bq n W->eh W (λb=>b<n.heap.size) T (Fv ta xa):=λW k=>(hT.move I.size (λb _ z=>I.block b z)<|λb _ z=>(Nat.lt_of_lt_of_le z I.size:b<n.heap.size)).move k.size (λb _ z=>k.block b z)<|λb p _=>p;have R:=ai P2;have n0:=rW T [];simp only[nM]at n0;have⟨A0,OW,B0⟩:=RD.row;have C0:=eP OW
     have D0:∀(F Y:World)(q3 c3:Nat)(c:Value),Bq n F->Y.ownsRow (w.heap.size+3) 31 2 (Lv (some ⟨q3,0,aa⟩) (B.length+1) c3) (B.length+1) (gJ A0 2 B.length++[Sv t.text,Sv<|bs<|Un.wr dec (vars [] T) T 0])->(F.alloc<|Cv #[Sv t.text,Sv<|bs<|Un.wr dec (vars [] T) T 0] 31).grownBy Y (Lv d B.length m).ownBlock->((Lv (some ⟨q3,0,aa⟩) (B.length+1) c3).ownBlock=(Lv d B.length m).ownBlock\/(Lv (some ⟨q3,0,aa⟩) (B.length+1) c3).ownBlock=some (F.alloc<|Cv #[Sv t.text,Sv<|bs<|Un.wr dec (vars [] T) T 0] 31).heap.size)->c=Iv ((j:Int)+1)->ah0 S nl rs Q w lo l (l.length-(j+1)) c (Y.setCell ⟨w.heap.size+1+1,5,aa⟩<|Lv (some ⟨q3,0,aa⟩) (B.length+1) c3):=(by
      intro F Y q3 c3 c o N hg J hc;have⟨s7,r7,k7⟩:=RD.grow E SD ae ae ae s0 o B0 N hg J;have z5:=o.size;have z6:=hg.size;simp at z6
      exact⟨j+1,l0,_,s2,_,_,_,_,_,ai rfl,ae,by rw[hc];go_num,s7,R,bQ,r7,KD.trans k7,by simp[World.setCell];omega⟩)
     have A1:n.cell? ⟨w.heap.size+1+1,5,aa⟩=some (Lv d B.length m):=RD.r5.c 5;have A2:n.cell? ⟨wr.heap.size,5,aa⟩=some (Sv t.text):=BD.c 5;have N:=ai X;have z5b:w.heap.size+3<=w2.heap.size:=ae;clear hT S2 P2 I R2 K2 V X;go_wp2_with fail;rw[<-uh N];clear N
     go_region_law(first
      |(go_simp;go_at_call 35;go_loud(refine Ox.mono ?_);rintro e Z⟨cb,nb,mb,rfl,C4,N4,o0,J,p0⟩;have G:Bq n Z:=(Below.refl n.heap.size n).drew.trans p0;have A41:Z.cell? ⟨w.heap.size+1+1,5,aa⟩=some (Lv d B.length m):=(RD.r5.below G).c 5;have A42:Z.cell? ⟨wr.heap.size,5,aa⟩=some (Sv t.text):=(BD.below G).c 5;have q0:n.heap.size<=mb:=o0;have r0:=ai (Dz (z0 Z G) (λb p=>by have:b<n.heap.size:=p;omega) N4 C4 J hw hs ae);have K4:=ai G;clear C4 N4 o0 J p0 G;dsimp only)
      |(go_simp;go_at_call 49;go_loud(refine r0.mono ?_);rintro e F⟨rfl,-,G⟩;have o:Bq n F:=Fr.yz K4 K4.size G (λx q=>by subst q;exact q0);have A51:F.cell? ⟨w.heap.size+1+1,5,aa⟩=some (Lv d B.length m):=(RD.r5.below o).c 5;have A52:F.cell? ⟨wr.heap.size,5,aa⟩=some (Sv t.text):=(BD.below o).c 5;have J:=ai<|jD OW o;have z5:=o.size;have z25:w.heap.size+1+1<F.heap.size:= ae;have z26:wr.heap.size<F.heap.size:= ae;have K5:=ai o;clear G o r0;dsimp only)
      |(refine iI rfl (.tmp 44) (.tmp 53) 32 rfl (w.heap.size+3) 31 i0 _ 2 32 Vb t0 v0 w0 x0 rfl aD (Lv d B.length m) B.length _ rfl (jD J<|bw _) ⟨F.heap.size,0,aa⟩ 1 1 [Sv t.text,Sv<|bs<|Un.wr dec (vars [] T) T 0] rfl rfl (n9 _ _ _ _ ag) (by intro u o;simp at o;obtain rfl|rfl:=o<;>rfl) VM ae bQ ?_;intro v6 Y o J G;obtain⟨q3,c3,rfl⟩:=rS o ae;have Z:=(RD.r5.below K5).below<|bw<|Cv #[Sv t.text,Sv<|bs<|Un.wr dec (vars [] T) T 0] 31;have B6:=Z.same J.size (J.block _ Z.z (λe=>by have:=(C0 _ e.symm).1;omega));have A6:Y.cell? ⟨w.heap.size+1+1,5,aa⟩=some (Lv d B.length m):=B6.c 5;have A7:Y.frozen? ⟨w.heap.size+1+1,5,aa⟩=false:=B6.f 5;have o0:=ai o;have p0:=ai J;have q0:=ai G;clear o J G Z B6))
     all_goals(
      go_wp2
      go_roundg(l.length-(j+1))
      case measure=>rw[uh e0];omega
      case rel=>exact D0 _ _ _ _ _ K5 o0 p0 q0 iF)
  .have hd:=nN C;rw[List.drop_of_length_le ae]at A;have hQ:=ai A.end;have K:=ai D;have⟨n,f5,y5⟩:=D.r5;have⟨o,f4,y4⟩:=D.r4;simp only[oo]at n o;clear A D;go_wp2_with fail;have⟨p1,p2,p3⟩:=K.r4.SI rfl (Iv 0) (Iv 0) (Iv 0) (Sv ⟨#[]⟩) (Sv ⟨#[]⟩) (Lv d B.length m) (Lv aa 0 0);refine bodyPost_ret (v:=Av #[Iv 0,Iv 0,Iv 0,Sv ⟨#[]⟩,Sv ⟨#[]⟩,Lv d B.length m,Lv aa 0 0]) (by simp[results,Tryz.results23,go_sem,p1]) rfl ⟨B,aa,d,m,hQ,rfl,?_⟩;exact aaH K HB ae ae ae
end Go.Proofs.YtonaidfgokhmoaaGreatDoor
