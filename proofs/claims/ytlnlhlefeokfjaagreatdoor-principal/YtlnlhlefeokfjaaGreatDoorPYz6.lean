import Derived.Test.YtlnlhlefeokfjaaGreatDoorPMe
import Derived.Test.YtlnlhlefeokfjaaGreatDoorPFz
set_option linter.all false
set_option maxRecDepth 100000
set_option maxHeartbeats 8000000
namespace Go.Proofs.YtlnlhlefeokfjaaGreatDoor
open Go Go.RowKit Go.ChangeMaps Go.MapKept Un
variable {base lo:Nat} {w w':World}
def WX:Tryz.prog.underlying 32=some (.slice 39):=qkr
def acF:(Tryz.prog.info? 39).map (λi=>(i.zero,i.size,i.bytes))=some (some<|.agg #[.string ⟨#[]⟩,.string ⟨#[]⟩],2,32):=qkr
def ak4(S:World->Nat->In.Mks->In.St->In.Env->Prop)nl rs Q w lo(l:List Dc)gk c wr:=
 ∃(j cnt:Nat)(mks:In.Mks)(s:In.St)(Γ:In.Env)(e:SN)(B:List (BA×Ty))(va:Option Addr)(vc:Nat),Hid (gk=l.length-j)/\j<=l.length/\c=Nv j/\S wr cnt mks s Γ/\PI nl rs Q (l.drop j) cnt mks s Γ e B/\B.length<=j/\rV wr (w.heap.size+1) (w.heap.size+1+1) (w.heap.size+3) B va vc/\Below lo w wr/\w.heap.size+3<=wr.heap.size
def amH(Q:List (BA×Ty)->Option In.Ft->Prop)lo w(e:Ending)w':=∃B F va vc,Q B F/\e=.returned (nY (fF F) (fL F) (fR F) va B.length vc)/\FK w' (λb=>w.heap.size<=b) B va vc/\Below lo w w'
def KpI.ph(k:KpI lo base w w')(h:lo<=w.heap.size):Below lo w w':=⟨k.os,k.tape,k.output,k.size,λb hb=>k.low b ae hb⟩
def rM.af{z}{vl vr}(h:rM w (λ_=>True) z vl vr)(k:Bq w w'):rM w' (λ_=>True) z vl vr:=
 ⟨h.q_,λq=>⟨(h.apart q).1.move k.size (λb _ z=>k.block b z)<|λ_ _ _=>trivial,(h.apart q).2.move k.size (λb _ z=>k.block b z)<|λ_ _ _=>trivial⟩,h.k⟩
def acw{S}{a}(h:Fr S a w){b}(hb:S b\/a.heap.size<=b)v0 v1 v2 v3 v4 v5 v6:Fr S a (((((((w.setCell ⟨b,0,none⟩ v0).setCell ⟨b,1,none⟩ v1).setCell ⟨b,2,none⟩ v2).setCell ⟨b,3,none⟩ v3).setCell ⟨b,4,none⟩ v4).setCell ⟨b,5,none⟩ v5).setCell ⟨b,6,none⟩ v6):=((((((h.set hb 0 v0).set hb 1 v1).set hb 2 v2).set hb 3 v3).set hb 4 v4).set hb 5 v5).set hb 6 v6
def acG{wr}{B}{va}{vc}(h:rV wr (w.heap.size+1) (w.heap.size+1+1) (w.heap.size+3) B va vc)(k:Below lo w wr)(hl:lo<=w.heap.size)(hz:w.heap.size+3<=wr.heap.size)(Nk:lo<=wr.heap.size){v0 v1 v2 v3 v4 v5 v6}:
 FK (((((((wr.setCell ⟨w.heap.size+1,0,none⟩ v0).setCell ⟨w.heap.size+1,1,none⟩ v1).setCell ⟨w.heap.size+1,2,none⟩ v2).setCell ⟨w.heap.size+1,3,none⟩ v3).setCell ⟨w.heap.size+1,4,none⟩ v4).setCell ⟨w.heap.size+1,5,none⟩ v5).setCell ⟨w.heap.size+1,6,none⟩ v6) (λb=>w.heap.size<=b) B va vc/\Below lo w (((((((wr.setCell ⟨w.heap.size+1,0,none⟩ v0).setCell ⟨w.heap.size+1,1,none⟩ v1).setCell ⟨w.heap.size+1,2,none⟩ v2).setCell ⟨w.heap.size+1,3,none⟩ v3).setCell ⟨w.heap.size+1,4,none⟩ v4).setCell ⟨w.heap.size+1,5,none⟩ v5).setCell ⟨w.heap.size+1,6,none⟩ v6):=by
 have kk:=acw (Fr.refl (λb=>b=w.heap.size+1) wr) (b:=w.heap.size+1) (Or.inl rfl) v0 v1 v2 v3 v4 v5 v6;refine⟨FK.move ⟨h.row.v o5,h.row.cap⟩ kk.size (λb p z=>kk.block b z (by show ¬b=w.heap.size+1;omega)) (λb p _=>ae),Fr.ph k Nk kk (λx q=>by subst q;omega)⟩
def ae_(HAt:∀nd,WN nd->W5 nd){S}{ty}{eb}{rs}{nl}(E:YV ty eb lo base rs nl S){Q}{l}{u}{cnt}{mks}{s}{Γ}{se}(hr:RowV QD 1 w (·<lo) l u)(hl:l.length<=802)(sH:lo<=base)(hbs:base<=w.heap.size)(hS:S w cnt mks s Γ)(hP:PI nl rs Q l cnt mks s Γ se []):
 Cq 27 #[.agg #[u],.iface ty<|Pv eb] w (amH Q lo w):=by
 obtain⟨va,vc,cs,rfl,HW,HQ⟩:=hr;have⟨fM,hfM,hcM,HM'⟩:=E.mks;have⟨fT,hfT,hcT,HL'⟩:=E.lts;have HM:=λw cnt mks s Γ t vs ms f x vv vm=> @HM' w cnt mks s Γ t vs ms f x vv vm;have HL:=λw cnt mks s Γ rc st x v a y dom=> @HL' w cnt mks s Γ rc st x v a y dom;have⟨i0,wY,og,l8,gR⟩:=info_parts acF;obtain⟨W1,MI⟩:∃W1,W1=((w.alloc<|Cv #[Lv va l.length vc] 51).alloc<|Cv #[Iv 0,Iv 0,Iv 0,Sv ⟨#[]⟩,Sv ⟨#[]⟩,Lv none 0 0,Lv none 0 0] 35).alloc (Cv #[Iv 0,Iv 0,Iv 0,Sv ⟨#[]⟩,Sv ⟨#[]⟩,Lv none 0 0,Lv none 0 0] 35):=⟨_,rfl⟩;have k1:Bq w W1:=by rw[MI];exact((bw _).alloc ag _).alloc bD _
 have z1:W1.heap.size=w.heap.size+3:=by rw[MI];simp
 have R1:rV W1 (w.heap.size+1) (w.heap.size+1+1) (w.heap.size+3) [] none 0:=(by
  refine⟨?_,?_,dh.nil _ _ _ _ _,λb q=>by simp[Value.ownBlock]at q⟩
  .rw[MI];have:=(Bx.new (w.alloc<|Cv #[Lv va l.length vc] 51) (o6 none 0 0) 35).alloc<|Cv (o6 none 0 0) 35;simpa[o6]using this
  .rw[MI];have:=Bx.new ((w.alloc<|Cv #[Lv va l.length vc] 51).alloc<|Cv (o6 none 0 0) 35) (o6 none 0 0) 35;simpa[o6]using this)
 have S1:=E.af hS k1;have K1:=k1.mono<|Nat.le_trans sH hbs;have HP:=ai hP;clear hS hP k1 HM' HL';go_enter Tryz.func27,Tryz.ntmps27;go_wp2_with fail;rw[<-MI];clear MI;go_loopg[15] l.length (λgk c wr=>ak4 S nl rs Q w lo l gk c wr)
 case atStart=>exact⟨0,cnt,mks,s,Γ,se,[],none,0,ai rfl,Nat.zero_le _,rfl,S1,HP,br _,R1,K1,ae⟩
 case round=>
  clear S1 HP R1 K1 z1;obtain⟨j,aE,ae2,s',dE,se',B,oR,oU,cV,hj,rfl,hS,hP,hB,hR,HB,hzr⟩:=hrel;have hlw:lo<=wr.heap.size:=ae;by_cases bA:j<l.length
  .have hd:(j:Int)<(l.length:Int):=ae;obtain⟨g,rfl,hg,-,p9⟩:∃g,va=some ⟨g,0,none⟩/\g<lo/\g<w.heap.size/\∀i,i<l.length->∀j,j<1->w.cell? ⟨g,i*1+j,none⟩=some (cs i j):=by
    obtain e|e:=HW
    .exact absurd bA qBq
    .exact e
   have d0:=(World.cell?_of_block (a:=⟨g,j*1+0,none⟩)<|HB.block g hg).trans<|p9 j bA 0 ae;simp only[Nat.mul_one,Nat.add_zero]at d0;have Nm:=(show PD w (·<lo) l[j] (cs j 0)from HQ j bA).move HB.size (λb p _=>HB.block b p)<|λ_ p _=>p;rw[List.drop_eq_getElem_cons bA]at hP;generalize l[j]=dj at hP Nm;clear p9
   cases dj with
   |ty t vs ms=>
    obtain⟨f0,u0,vv,vm,ev,-,-,hv,-,hm⟩:=Nm;rw[ev]at d0;clear ev;obtain⟨pa,pc,cs1,e1,-⟩:=id hv;obtain⟨ma,mc,cs2,e2,-⟩:=id hm;subst e1 e2;have⟨BW,hP'⟩:=hP.ty;have kA:Bq wr (wr.alloc<|Cv #[Iv f0,Iv u0,Nv t.aF,Nv t.to,Sv t.text,Lv pa vs.length pc,Lv ma ms.length mc] 125):=bw _;have HC:=HM _ _ _ _ _ _ _ _ f0 u0 _ _ (E.af hS kA) (hv.move dF kA.size (λb _ z=>kA.block b z)<|λ_ p _=>p) (hm.move cu kA.size (λb _ z=>kA.block b z)<|λ_ p _=>p) BW;have HR:=hR.af kA;have HPP:=ai hP';have KA:=HB.trans<|kA.mono hlw;clear hS hP hP' hR hv hm BW kA;go_wp2_with fail;refine HC.mono ?_;rintro e w3⟨rfl,k3,S3⟩;have R3:=HR.kp k3 ae ae ae;have K3:=KA.trans<|k3.ph bD;have z3:=k3.size;simp at z3;clear HC HR KA k3
    go_wp2
    go_roundg(l.length-(j+1))
    case measure=>rw[uh cV];omega
    case rel=>exact⟨j+1,aE,_,s',dE,_,B,oR,oU,ai rfl,ae,i_,S3,HPP,ae,R3,K3,ae⟩
   |lt rc t b=>
    obtain⟨f0,u0,vb,ev,-,-,hpe⟩:=Nm;rw[ev]at d0;clear ev;obtain⟨tb,xb,e1⟩:∃a x,vb=Fv a x:=by cases hpe<;>exact⟨_,_,rfl⟩
    subst e1;have⟨g1,g2,g3,g4,g5,HG⟩:=hP.lt;have kA:Bq wr (wr.alloc<|Cv #[Iv f0,Iv u0,.bool rc,Nv t.aF,Nv t.to,Sv t.text,Fv tb xb] 132):=bw _;have B9:Bx (wr.alloc<|Cv #[Iv f0,Iv u0,.bool rc,Nv t.aF,Nv t.to,Sv t.text,Fv tb xb] 132) wr.heap.size #[Iv f0,Iv u0,.bool rc,Nv t.aF,Nv t.to,Sv t.text,Fv tb xb]:=Bx.new _ _ _;have HC:=HL _ _ _ _ _ _ _ _ _ t.aF t.to _ (E.af hS kA) (hpe.move kA.size (λb _ z=>kA.block b z)<|λ_ p _=>p) g5 hP.nm g1 g2 g3 g4;have HR:=hR.af kA;have HB9:=ai B9;have KA:=HB.trans<|kA.mono hlw;clear hS hP hR hpe g1 g2 g3 g4 g5 kA B9;go_wp2_with fail;refine HC.mono ?_;intro e w2 ak5;have⟨k2,hc⟩:=ak5.cases HG;have R2:=ai<|HR.kp k2 ae ae ae;have K2:=ai<|KA.trans<|k2.ph bD;have B92:=ai (k2.bx HB9 ae rfl (by intro q;simp));have z2:=k2.size;simp at z2;clear HC HR KA k2 ak5 HG HB9;obtain⟨z,vl,vr,rfl,hf,hz6,hQ⟩|⟨T,ta,xa,cT,s2,rfl,hT,hw,hs,S2,P2⟩:=hc
    .obtain⟨⟨kd,fa,fb⟩,zl,zr⟩:=z;have HQ1:=ai hQ;have HRF:∀W,Bq w2 W->Cq 50 #[Av #[Iv 0,Iv 0,Iv 0,Sv ⟨#[]⟩,Sv ⟨#[]⟩,Lv oR B.length oU,Lv none 0 0],Av #[Nv kd,Nv fa,Nv fb,vl,vr]] W λe w'=>e=Rv (Av #[Nv kd,Nv fa,Nv fb,Sv<|YX ⟨⟨kd,fa,fb⟩,zl,zr⟩,Sv<|YY ⟨⟨kd,fa,fb⟩,zl,zr⟩,Lv oR B.length oU,Lv none 0 0])/\Bq W w':=λW k=>WU HAt (hf.af k) hz6 oR B.length oU;obtain⟨tL,hL⟩:∃x,x=YX ⟨⟨kd,fa,fb⟩,zl,zr⟩:=⟨_,rfl⟩;obtain⟨tR,hR⟩:∃x,x=YY ⟨⟨kd,fa,fb⟩,zl,zr⟩:=⟨_,rfl⟩;rw[<-hL,<-hR]at HRF;have HTL:=ai hL;have HTR:=ai hR;have hv:=hf.hv;have XD:((kd:Int)==0)=false:=by obtain q|q:=hf.k<;>(simp only at q;subst q;rfl)
     have kF:Bq w2 (w2.alloc<|Cv #[Nv kd,Nv fa,Nv fb,vl,vr] 134):=bw _;have RF:=R2.af kF;have KF:=K2.trans<|kF.mono ae;have HRD:=HRF _ kF;have⟨r1,r2,r3⟩:=RF.r5;simp only[o6]at r1;clear hf hQ hz6 hL hR HRF R2 K2 kF B92;obtain⟨rfl,rfl⟩|⟨ia,ib,ic,id',rfl,rfl⟩:=hv
     all_goals(
      go_wp2_with fail;refine HRD.mono ?_;rintro e w4⟨rfl,k4⟩;have R4:=RF.af k4;have K4:=KF.trans<|k4.mono bD;have z4:=k4.size;simp at z4;clear r1 r2 r3 HRD k4;have⟨r1,r2,r3⟩:=R4.r4;simp only[o6]at r1;go_wp2_with fail;have⟨p1,p2,p3⟩:=R4.r4.aau rfl (Nv kd) (Nv fa) (Nv fb) (Sv tL) (Sv tR) (Lv oR B.length oU) (Lv none 0 0);refine bodyPost_ret (v:=Av #[Nv kd,Nv fa,Nv fb,Sv tL,Sv tR,Lv oR B.length oU,Lv none 0 0]) (by simp[results,Tryz.results27,go_sem,p1]) rfl ⟨B,some ⟨⟨kd,fa,fb⟩,zl,zr⟩,oR,oU,HQ1,by rw[uh HTL,uh HTR];rfl,?_⟩
      exact acG R4 K4 ae ae ae)
    .obtain⟨wD,hwD⟩:∃wD,wD=w2.alloc (Cv #[Iv 0,Iv 0,Iv 0,Zv,Zv] 134):=⟨_,rfl⟩;have kD:Bq w2 wD:=by rw[hwD];exact bw _
     have zD:=kD.size;have RD:=ai<|R2.af kD;have KD:=K2.trans<|kD.mono ae;have SD:=E.af S2 kD;have BD:=ai<|B92.below kD;have HT4:∀W,Bq wD W->dD W (λb=>b<wD.heap.size) T (Fv ta xa):=λW k=>(hT.move kD.size (λb _ z=>kD.block b z)<|λb _ z=>(Nat.lt_of_lt_of_le z kD.size:b<wD.heap.size)).move k.size (λb _ z=>k.block b z)<|λb p _=>p;have HPP:=ai P2;have NE:=e_ T [];simp only[qP]at NE;have⟨cs',OW,HPE⟩:=RD.row;have Nb:=fU OW
     have FIN:∀(w5 w6:World)(q3 c3:Nat)(c:Value),Bq wD w5->w6.ownsRow (w.heap.size+3) 39 2 (Lv (some ⟨q3,0,none⟩) (B.length+1) c3) (B.length+1) (gW cs' 2 B.length++[Sv t.text,Sv<|bs<|Un.wr dec (vars [] T) T 0])->(w5.alloc<|Cv #[Sv t.text,Sv<|bs<|Un.wr dec (vars [] T) T 0] 39).grownBy w6 (Lv oR B.length oU).ownBlock->((Lv (some ⟨q3,0,none⟩) (B.length+1) c3).ownBlock=(Lv oR B.length oU).ownBlock\/(Lv (some ⟨q3,0,none⟩) (B.length+1) c3).ownBlock=some (w5.alloc<|Cv #[Sv t.text,Sv<|bs<|Un.wr dec (vars [] T) T 0] 39).heap.size)->c=Iv ((j:Int)+1)->ak4 S nl rs Q w lo l (l.length-(j+1)) c (w6.setCell ⟨w.heap.size+1+1,5,none⟩<|Lv (some ⟨q3,0,none⟩) (B.length+1) c3):=(by
      intro w5 w6 q3 c3 c k5 h6 hg U9 hc;have⟨s7,r7,k7⟩:=RD.grow E SD ae ae ae sH k5 HPE h6 hg U9;have z5:=k5.size;have z6:=hg.size;simp at z6
      exact⟨j+1,cT,_,s2,_,_,_,_,_,ai rfl,ae,by rw[hc];go_num,s7,HPP,bD,r7,KD.trans k7,by simp[World.setCell];omega⟩)
     have A1:wD.cell? ⟨w.heap.size+1+1,5,none⟩=some (Lv oR B.length oU):=RD.r5.c 5;have A2:wD.cell? ⟨wr.heap.size,5,none⟩=some (Sv t.text):=BD.c 5;have ak6:=ai hwD;have z5b:w.heap.size+3<=w2.heap.size:=ae;clear hT S2 P2 kD R2 K2 B92 hwD;go_wp2_with fail;rw[<-uh ak6];clear ak6
     go_region_law(first
      |(go_simp;go_at_call 20;go_loud(refine yM.mono ?_);rintro e w4⟨cb,nb,mb,rfl,C4,N4,hm4,ak7,ry⟩;have k4:Bq wD w4:=(Below.refl wD.heap.size wD).drew.trans ry;have A41:w4.cell? ⟨w.heap.size+1+1,5,none⟩=some (Lv oR B.length oU):=(RD.r5.below k4).c 5;have A42:w4.cell? ⟨wr.heap.size,5,none⟩=some (Sv t.text):=(BD.below k4).c 5;have amI:wD.heap.size<=mb:=hm4;have HWr:=ai (tY HAt (HT4 w4 k4) (λb p=>by have:b<wD.heap.size:=p;omega) N4 C4 ak7 hw hs ae);have K4:=ai k4;clear C4 N4 hm4 ak7 ry k4;dsimp only)
      |(go_simp;go_at_call 34;go_loud(refine HWr.mono ?_);rintro e w5⟨rfl,-,F5⟩;have k5:Bq wD w5:=Fr.ph K4 K4.size F5 (λx q=>by subst q;exact amI);have A51:w5.cell? ⟨w.heap.size+1+1,5,none⟩=some (Lv oR B.length oU):=(RD.r5.below k5).c 5;have A52:w5.cell? ⟨wr.heap.size,5,none⟩=some (Sv t.text):=(BD.below k5).c 5;have O5:=ai<|jX OW k5;have z5:=k5.size;have z25:w.heap.size+1+1<w5.heap.size:= ae;have z26:wr.heap.size<w5.heap.size:= ae;have K5:=ai k5;clear F5 k5 HWr;dsimp only)
      |(refine iW rfl (.tmp 44) (.tmp 53) 32 rfl (w.heap.size+3) 39 i0 _ 2 32 WX wY og l8 gR rfl aw (Lv oR B.length oU) B.length _ rfl (jX O5<|bw _) ⟨w5.heap.size,0,none⟩ 1 1 [Sv t.text,Sv<|bs<|Un.wr dec (vars [] T) T 0] rfl rfl (oW _ _ _ _ ag) (by intro u hu;simp at hu;obtain rfl|rfl:=hu<;>rfl) Yu ae bD ?_;intro v6 w6 oX Js xD;obtain⟨q3,c3,rfl⟩:=tI oX ae;have YH:=(RD.r5.below K5).below<|bw<|Cv #[Sv t.text,Sv<|bs<|Un.wr dec (vars [] T) T 0] 39;have B6:=YH.same Js.size (Js.block _ YH.z (λe=>by have:=(Nb _ e.symm).1;omega));have A6:w6.cell? ⟨w.heap.size+1+1,5,none⟩=some (Lv oR B.length oU):=B6.c 5;have A7:w6.frozen? ⟨w.heap.size+1+1,5,none⟩=false:=B6.f 5;have OW6:=ai oX;have HG6:=ai Js;have HL6:=ai xD;clear oX Js xD YH B6))
     all_goals(
      go_wp2
      go_roundg(l.length-(j+1))
      case measure=>rw[uh cV];omega
      case rel=>exact FIN _ _ _ _ _ K5 OW6 HG6 HL6 i_)
  .have hd:decide ((j:Int)<(l.length:Int))=false:=bD;rw[List.drop_of_length_le ae]at hP;have hQ:=ai hP.end;have HR:=ai hR;have⟨c5,f5,y5⟩:=hR.r5;have⟨c4,f4,y4⟩:=hR.r4;simp only[o6]at c5 c4;clear hP hR;go_wp2_with fail;have⟨p1,p2,p3⟩:=HR.r4.aau rfl (Iv 0) (Iv 0) (Iv 0) (Sv ⟨#[]⟩) (Sv ⟨#[]⟩) (Lv oR B.length oU) (Lv none 0 0);refine bodyPost_ret (v:=Av #[Iv 0,Iv 0,Iv 0,Sv ⟨#[]⟩,Sv ⟨#[]⟩,Lv oR B.length oU,Lv none 0 0]) (by simp[results,Tryz.results27,go_sem,p1]) rfl ⟨B,none,oR,oU,hQ,rfl,?_⟩;exact acG HR HB ae ae ae
end Go.Proofs.YtlnlhlefeokfjaaGreatDoor
