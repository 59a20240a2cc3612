import Derived.Test.YtfnkchdeheeiiaaGreatDoorQQd
import Derived.Test.YtfnkchdeheeiiaaGreatDoorQXo
import Derived.Test.YtfnkchdeheeiiaaGreatDoorQOa
set_option linter.all false
set_option maxRecDepth 100000
set_option maxHeartbeats 16000000
namespace Go.Proofs.YtfnkchdeheeiiaaGreatDoor
open Pu renaming bG->ja,Tok->jc
open Go.RowKit.Below renaming refl->jd
open _root_.List renaming getElem_mem->jf,take_of_length_le->jh
open Go.Proofs.Tryz renaming prog->ji,underlying209->jj,underlying9->jk
open Go Go.RowKit Proofs.Tryz
variable {s:BA} {lo:BA->Nat} {mk ty:BA->Option Nat} {f f':Fl} {l p:List BA} {m:MV} {B N b cb g gb k lb mb n rb sb sc tb:Nat} {P:Nat->Prop} {nd x y z:Nd} {t:TypeId} {a c v:Value} {W w w' w0:World}
section
open Go.ChangeMaps Go.MapKept
section
variable {wr:World}
def YR x y s:Cq 176 #[.agg #[Iv x,Iv y,.string s]] w λe w'=>∃gb,e=.returned (Mv gb)/\w.heap.size<=gb/\Bq w w'/\GM w' gb [s]:=by
 have jB:= @run_makeMap Tryz.prog;have dA:Bq w ((w.alloc<|Cv #[Iv x,Iv y,Sv s] 133).alloc<|.map #[] 0):=(bw _).alloc ag _;have M0:MB ((w.alloc<|Cv #[Iv x,Iv y,Sv s] 133).alloc<|.map #[] 0) (w.heap.size+1) []:=(by have:=MB.new<|w.alloc<|Cv #[Iv x,Iv y,Sv s] 133;simpa using this);have HB:=ai dA;have B1:=(Bx.new w #[Iv x,Iv y,Sv s] 133).alloc<|.map #[] 0;obtain⟨c1,f1,y1⟩:=B1;go_enter func176,ntmps176;go_wp2_with(refine oV rfl _ _ _ (Or.inl rfl) rfl M0 s (Iv 1) rfl rfl ?_;intro w3 H' O';have M3:=ai H';have O3:=ai O';clear H' O');go_ret;exact⟨_,rfl,Nat.le_succ _,One.below HB O3<|Nat.le_succ _,GM.bF (p:=[]) ag (λx=>by simp[aZ,fU]) M3⟩
def EXR cb tb mb lb ty mk lo w0 f l(L:List Nd)gk c wr:=∃j:Nat,Hid (gk=L.length-j)/\j<=L.length/\c=Nv j/\CE cb tb mb lb ty mk lo w0 (hH ty mk (L.take j) l f) wr
def Qm{L}{vs:Nat->Value}(IH:∀x∈L,PXC x)(h:CK w cb tb mb lb ty mk lo f)(hB:B<=cb)(BN:B<=lb)(hg:g<w.heap.size)(hgn:g≠cb/\g≠lb)(hc:∀i,i<L.length->w.cell? ⟨g,i,none⟩=some (vs i))(hr:∀i(h:i<L.length),PE w (·<B) L[i]<|vs i)(hl:L_ lo l)(nN:∀x,lo x+ck L<=5000)(hS:∀x∈L,Sm x)(hL:L.length<=1000):
 Cq 243 #[cp cb,.slice (some ⟨g,0,none⟩) L.length sc] w λe w'=>e=.returned (.tuple #[])/\Fr (λb=>b=cb\/b=lb) w w'/\CK w' cb tb mb lb ty mk lo (hH ty mk L l f):=by
 have zM:∀b,b<B->¬(b=cb\/b=lb):=λb hb q=>ae;have X0:CE cb tb mb lb ty mk lo w f w:=⟨h,Fr.refl _ _⟩;obtain⟨Z,HZ⟩:∃Z,Hid<|Z=hH ty mk L l f:=⟨_,ai rfl⟩;rw[<-uh HZ];go_enter func243,ntmps243
 go_wp2
 go_loopg[8] L.length (λgk c wr=>EXR cb tb mb lb ty mk lo w f l L gk c wr)
 case atStart=>exact⟨0,ai rfl,Nat.zero_le _,rfl,by rw[List.take_zero];rw[hH];exact X0⟩
 case round=>
  obtain⟨j,dv,hj,rfl,hX⟩:=hrel;have XR:=ai hX;by_cases bz:j<L.length
  .have hd:(j:Int)<(L.length:Int):=ae;have hcj:=(World.cell?_of_block (a:=⟨g,j,none⟩)<|XR.k.block g hg (λq=>by obtain q|q:=q;exact hgn.1 q;exact hgn.2 q)).trans (hc j bz);have HC:=IH L[j] (jf bz) _ cb tb mb lb B ty mk lo _ (vs j) l XR.d hB BN ((hr j bz).Qk XR.k zM) hl (λx=>by have:=nN x;have:=yf<|jf bz;omega)<|hS _<|jf bz;rw[<-Uz _ _ _ _ _ _ bz]at HC;go_wp2_with fail;refine HC.mono ?_;rintro e w2⟨rfl,k2,d2⟩;have X2:=XR.fr k2 d2
   go_wp2
   go_roundg(L.length-(j+1))
   case measure=>rw[uh dv];omega
   case rel=>exact⟨j+1,ai rfl,ae,jT,X2⟩
  .have hd:decide ((j:Int)<(L.length:Int))=false:=bP;have he:L.take j=L:=jh ae;rw[he,<-uh HZ]at XR
   go_wp2
   go_end0;exact⟨rfl,XR.k,XR.d⟩
abbrev bdA r x y s v:=#[.bool r,Iv x,Iv y,.string s,v]
def Qn(HE:PXC nd)(h:CK w cb tb mb lb ty mk lo f)(hB:B<=cb)(BN:B<=lb)(hx:PE w (·<B) nd v)(hl:L_ lo l)(nN:∀x,lo x+1+nn nd<=5000)(hs:Sm nd)r x y s:
 Cq 123 #[cp cb,.agg<|bdA r x y s v] w λe w'=>e=.returned (.tuple #[])/\Fr (λb=>b=cb\/b=lb) w w'/\CK w' cb tb mb lb ty mk lo (dX ty mk nd (if r then l++[s]else l) f):=by
 have⟨cG,B0⟩:=ul w (bdA r x y s v) 142;have X0:Hid (CE cb tb mb lb ty mk lo w f<|w.alloc<|Cv (bdA r x y s v) 142):=ai ⟨h.af cG,Fr.of cG⟩;have HX:=ai<|hx.af cG;have⟨z1,z2,z3,z4⟩:=h.lts;obtain⟨t1,x1,rfl⟩:=hx.iface;have⟨c0,f0,y0⟩:=uh B0;clear h hx cG
 cases r with
 |false=>
  have HC:=ai (HE _ cb tb mb lb B ty mk lo f _ l X0.d hB BN HX hl (λx=>by have:=nN x;omega) hs);go_enter func123,ntmps123;go_wp2_with fail;refine HC.mono ?_;rintro e w2⟨rfl,k2,d2⟩;have X2:=ai<|X0.fr k2 d2;clear k2 d2 HC
  go_wp2
  go_end0;exact⟨rfl,X2.k,X2.d⟩
 |true=>
  go_enter func123,ntmps123
  go_wp2
  go_region_with(first
   |(go_at_call 176;refine(YR _ _ _).mono ?_;rintro e w1⟨gb,rfl,hgb,b1,g1⟩;have hb:=(jd _ _).drew.trans<|b1.mono<|br _;have X1:=ai<|X0.af hb;have P1:=ai<|HX.af hb;have G1:=ai g1;have B1:=ai<|B0.below hb;have ajc:w.heap.size+1<=gb:=(by simpa using hgb);have⟨c1,f1,y1⟩:=uh B1;clear hb b1 g1 hgb)
   |(go_at_call 175;refine(sW HE X1.d hB BN P1 G1 ⟨ae,ae,ae,ae⟩ hl nN hs).mono ?_;rintro e w2⟨rfl,k2,d2⟩;have X2:=ai<|X1.fr k2 d2;clear k2 d2))
  all_goals(
   go_wp2
   exact bodyPost_ret (v:=.tuple #[]) (by simp[results,Tryz.results123,go_sem]) rfl ⟨rfl,X2.k,X2.d⟩)
end
section
variable {wr:World}
def CE.frG(h:CE cb tb mb lb ty mk lo w0 f wr)(k:Fr (λb=>b=cb\/b=gb) wr w')(hg:w0.heap.size<=gb)(d:CK w' cb tb mb lb ty mk lo f'):CE cb tb mb lb ty mk lo w0 f' w':=
 ⟨d,h.k.trans' k (λb q=>by
  obtain q|q:=q
  .omega
  .exact Or.inr ae)⟩
def AMR cb tb mb lb ty mk lo w0 f l(A:List (Nd×Nd))gk c wr:=∃j:Nat,Hid (gk=A.length-j)/\j<=A.length/\c=Nv j/\CE cb tb mb lb ty mk lo w0 (Nb ty mk l (A.take j) f) wr
def agA{A}{vp ve:Nat->Value}(HA:∀q∈A,PXC q.2)(h:CK w cb tb mb lb ty mk lo f)(hB:B<=cb)(BN:B<=lb)(YG:g<B)(hg:g<w.heap.size)(hc:∀i,i<A.length->(∃u v,w.cell? ⟨g,i*4,none⟩=some (Iv u)/\w.cell? ⟨g,i*4+1,none⟩=some (Iv v))/\w.cell? ⟨g,i*4+2,none⟩=some (vp i)/\w.cell? ⟨g,i*4+3,none⟩=some (ve i))(hp:∀i(h:i<A.length),PP w (·<B) A[i].1<|vp i)(he:∀i(h:i<A.length),PE w (·<B) A[i].2<|ve i)(hl:L_ lo l)(nN:∀x,lo x+1+ck (aU A)<=5000)(hS:∀x∈aU A,Sm x)(hL:A.length<=1000):
 Cq 244 #[cp cb,.slice (some ⟨g,0,none⟩) A.length sc] w λe w'=>e=.returned (.tuple #[])/\Fr (λb=>b=cb\/b=lb) w w'/\CK w' cb tb mb lb ty mk lo (mZ ty mk (aU A) l f):=by
 have jB:= @run_makeMap Tryz.prog;have HE:=ai he;have zM:∀b,b<B->¬(b=cb\/b=lb):=λb hb q=>ae;have⟨z1,z2,z3,z4⟩:=h.lts;have X0:CE cb tb mb lb ty mk lo w f w:=⟨h,Fr.refl _ _⟩;rw[Qo];clear h he;obtain⟨Z,HZ⟩:∃Z,Hid<|Z=Nb ty mk l A f:=⟨_,ai rfl⟩;rw[<-uh HZ];go_enter func244,ntmps244
 go_wp2
 go_loopg[9] A.length (λgk c wr=>AMR cb tb mb lb ty mk lo w f l A gk c wr)
 case atStart=>exact⟨0,ai rfl,Nat.zero_le _,rfl,X0⟩
 case round=>
  clear X0;obtain⟨j,dv,hj,rfl,hX⟩:=hrel;have XR:=ai hX;have hsw:=hX.k.size;clear hX;by_cases bz:j<A.length
  .have hd:(j:Int)<(A.length:Int):=ae;have me:∀o,wr.cell? ⟨g,o,none⟩=w.cell? ⟨g,o,none⟩:=λo=>World.cell?_of_block (a:=⟨g,o,none⟩)<|XR.k.block g hg<|zM g YG;have⟨⟨u,v,d0,d1⟩,d2,d3⟩:=hc j bz;rw[<-me]at d0 d1 d2 d3;have⟨t1,x1,e1⟩:=(hp j bz).iface;have⟨t2,x2,e2⟩:=(HE j bz).iface;have P1:=hp j bz;have E1:=HE j bz;rw[e1]at d2 P1;rw[e2]at d3 E1;have HT:=UA ty mk l A f j bz;have hnn:=Qp A j bz;have HIN:=EU A j bz;generalize Nb ty mk l (A.take j) f=zj at XR HT;rw[Qq]at HT;have cG:Bq wr ((wr.alloc<|Cv #[Iv u,Iv v,Fv t1<|Av x1,Fv t2<|Av x2] 257).alloc<|.map #[] 0):=(bw _).alloc ag _;have X1:=XR.af cG;have B1:=ai<|(Bx.new wr #[Iv u,Iv v,Fv t1<|Av x1,Fv t2<|Av x2] 257).alloc<|.map #[] 0;have G1:GM ((wr.alloc<|Cv #[Iv u,Iv v,Fv t1<|Av x1,Fv t2<|Av x2] 257).alloc<|.map #[] 0) (wr.heap.size+1) []:=(by have:=GM.new<|wr.alloc<|Cv #[Iv u,Iv v,Fv t1<|Av x1,Fv t2<|Av x2] 257;simpa using this);have HC:=ai<|Uu A[j].1 _ cb tb mb lb (wr.heap.size+1) B ty mk lo zj _ [] X1.d hB ae (P1.Qk X1.k zM) G1 ⟨ae,ae,ae,ae⟩<|hS _ HIN.1;have HA2:=HA A[j]<|jf bz;generalize n9 mk A[j].1 ([],zj)=pz at HC HT;obtain⟨p,zp⟩:=pz;simp only at HC HT;have⟨c1,f1,y1⟩:=uh B1;clear cG me e1 e2;go_wp2_with fail;refine HC.mono ?_;rintro e w3⟨rfl,k3,d3',G3⟩;have X3:=X1.frG k3 ae d3'
   have B3:=ai<|B1.fr k3<|λq=>ae;have sU:=sW (l:=l) HA2 X3.d hB BN (E1.Qk X3.k zM) G3 ⟨ae,ae,ae,ae⟩ hl (λx=>by have:=nN x;omega)<|hS _ HIN.2;rw[<-HT]at sU;clear k3 d3' HC c1 f1 y1 d0 d1 d2 d3;have⟨c1,f1,y1⟩:=uh B3;go_wp2_with fail;refine sU.mono ?_;rintro e w4⟨rfl,k4,d4⟩;have X4:=X3.fr k4 d4
   go_wp2
   go_roundg(A.length-(j+1))
   case measure=>rw[uh dv];omega
   case rel=>exact⟨j+1,ai rfl,ae,jT,X4⟩
  .have hd:decide ((j:Int)<(A.length:Int))=false:=bP;have he:A.take j=A:=jh ae;rw[he,<-uh HZ]at XR
   go_wp2
   go_end0;exact⟨rfl,XR.k,XR.d⟩
end
def agB{b:Value}(hg:g=W.heap.size)(hw:w=W.alloc (.cells #[a,b] t)):∀i,i<[x,y].length->w.cell? ⟨g,i,none⟩=some ((λi:Nat=>if i=0 then a else b) i):=by
 subst hg hw;intro i hi;have:i=0\/i=1:=Hv;obtain rfl|rfl:=this<;>simp
def agC{b:Value}(hg:g=W.heap.size)(hw:w=W.alloc (.cells #[a,b,c] t)):∀i,i<[x,y,z].length->w.cell? ⟨g,i,none⟩=some ((λi:Nat=>if i=0 then a else if i=1 then b else c) i):=by
 subst hg hw;intro i hi;have:i=0\/i=1\/i=2:=Hv;obtain rfl|rfl|rfl:=this<;>simp
def ajd{b:Value}(hx:PE w (·<B) x a)(hy:PE w (·<B) y b):∀i(h:i<[x,y].length),PE w (·<B) [x,y][i]<|(λi:Nat=>if i=0 then a else b) i:=xC
def aje{b:Value}(hx:PE w (·<B) x a)(hy:PE w (·<B) y b)(hz:PE w (·<B) z c):∀i(h:i<[x,y,z].length),PE w (·<B) [x,y,z][i]<|(λi:Nat=>if i=0 then a else if i=1 then b else c) i:=xC
def EV{p:Prop}(h:p:=by
 have X2:=X1.af WU;rw[YS aH];simp only[nn]at Nc;have HC:=ai<|Qm (g:=w.heap.size+1) (sc:=2) (l:=l) (L:=[x,y]) (λq hq=>L8 q hq) X2.d hB BN ag ⟨ae,ae⟩ (agB ag rfl) (ajd ((hx.af cG).af WU)<|(hy.af cG).af WU) WR (λx=>qAv) HS hL;simp only[ot,uq,Nat.zero_add,Nat.reduceAdd]at HC;obtain⟨c1,f1,y1⟩:=uh B1;clear cG WU hx hy;go_enter func177,ntmps177;go_wp2_with fail;refine HC.mono ?_;rintro e w2⟨rfl,k2,d2⟩;have X3:=X2.fr k2 d2;clear k2 d2 HC
 go_wp2
 go_end0
 exact⟨rfl,X3.k,X3.d⟩):p:=h
def EW{p:Prop}(h:p:=by
 go_wp2
 go_end0
 exact⟨rfl,X3.k,X3.d⟩):p:=h
def agD:∀nd,PXC nd:=by
 refine Nd.ind ?_;intro k s n L fr t a L8 w cb tb mb lb B ty mk lo f v l h hB BN hx WR Nc hs;have HS:=ai hs.part;have hL:=hs.len.1;have X0:CE cb tb mb lb ty mk lo w f w:=⟨h,Fr.refl _ _⟩;have⟨z1,z2,z3,z4⟩:=h.lts;have zM:∀b,b<B->¬(b=cb\/b=lb):=λb hb q=>ae;clear h hs
 cases hx with
 |low _ _ _ _ _ lf=>
  have⟨cG,B1⟩:=ul w #[Nv fr,Nv t,Sv s] 356;have X1:=X0.af cG;rw[show dX ty mk (.mk 1 s n [] fr t a) l f=bm (!fU s l) 5 fr t f by unfold dX;rfl];obtain⟨N,hN⟩:∃N,Hid<|N=lo s:=⟨_,ai rfl⟩;have xU:∀q,(Instr.lookup 209 (Mv lb) (Sv s) false).run ji ((w.alloc<|Cv #[Nv fr,Nv t,Sv s] 356).drewN q)=.ok (Nv N) ((w.alloc<|Cv #[Nv fr,Nv t,Sv s] 356).drewN q):=λq=>by
   have:=(X1.af<|(jd _ _).drewN q).d.l.look s;rw[<-uh hN]at this;exact this
  have HE:((N:Int)==0)= !fU s l:=(by
   cases hq:fU s l with
   |true=>have:=(WR s).2<|Pz.1 hq;have h2:=uh hN;simp;omega|false=>
    have h1:lo s=0:=by
     apply Classical.byContradiction;intro e;exact EP.1 hq<|(WR s).1 e
    have h2:=uh hN
    simp;omega)
  have⟨c1,f1,y1⟩:=uh B1;have⟨c2,f2,y2⟩:=X1.d.bx;clear cG
  cases ru:fU s l with
  |true=>
   rw[ru]at HE;have hE':=HE;go_enter func177,ntmps177
   go_wp2
   go_quiet(fail)
   go_wp2
   go_end0;exact⟨rfl,(X1.af<|(jd _ _).drewN _).k,(X1.af<|(jd _ _).drewN _).d⟩
  |false=>
   rw[ru]at HE;have hE':=HE;have HC:=λq=>ai<|rF (X1.af<|(Below.refl _ _).drewN q).d 5 fr t;go_enter func177,ntmps177
   go_wp2
   go_quiet(fail);go_wp2_with fail;refine(uh<|HC _).mono ?_;rintro e w2⟨rfl,k2,d2⟩;have X2:=(X1.af<|(jd _ _).drewN _).ke k2 d2;clear k2 d2 HC
   go_wp2
   go_end0;exact⟨rfl,X2.k,X2.d⟩
 |up _ _ _ _ _ lf=>
  have⟨cG,B1⟩:=ul w #[Nv fr,Nv t,Sv s] 390;have X1:=X0.af cG;rw[show dX ty mk (.mk 2 s n [] fr t a) l f=bm (mk s).isNone 5 fr t f by unfold dX;rfl];have⟨c1,f1,y1⟩:=uh B1;have⟨c2,f2,y2⟩:=X1.d.bx;obtain⟨b,hb⟩:∃b,Hid<|b=(mk s).isSome:=⟨_,ai rfl⟩;have HB:=show(mk s).isNone= !b by rw[uh hb];cases mk s<;>rfl
  clear cG;go_enter func177,ntmps177
  go_wp2
  go_region_with(go_at_call 240;refine(Qe (v:=Mv mb) (Or.inr ⟨mb,rfl,(X1.af (jd _ _).drew).d.m⟩) s).mono ?_;rintro e w2⟨rfl,rfl⟩;rw[<-uh hb])
  all_goals(
   cases b with
   |true=>
    go_wp2
    go_end0;exact⟨rfl,(X1.af (jd _ _).drew).k,by rw[HB];exact(X1.af (jd _ _).drew).d⟩
   |false=>
    have HC:=ai<|rF (X1.af (jd _ _).drew).d 5 fr t;go_wp2_with fail;refine HC.mono ?_;rintro e w2⟨rfl,k2,d2⟩;have X2:=(X1.af (jd _ _).drew).ke k2 d2;clear k2 d2 HC
    go_wp2
    go_end0
    exact⟨rfl,X2.k,by rw[HB];exact X2.d⟩)
 |pr _ _ x y _ _ _ vx vy hx hy=>
  obtain⟨t1,x1,rfl⟩:=hx.iface;obtain⟨t2,x2,rfl⟩:=hy.iface;have⟨cG,B1⟩:=ul w #[Nv fr,Nv t,Fv t1<|Av x1,Fv t2<|Av x2] 309;have X1:=X0.af cG;have WU:Bq (w.alloc<|Cv #[Nv fr,Nv t,Fv t1<|Av x1,Fv t2<|Av x2] 309) ((w.alloc<|Cv #[Nv fr,Nv t,Fv t1<|Av x1,Fv t2<|Av x2] 309).alloc<|Cv #[Fv t1<|Av x1,Fv t2<|Av x2] 140):=bw _;exact EV
 |op _ _ x y _ _ _ vx vy ho hx hy=>
  obtain⟨t1,x1,rfl⟩:=hx.iface;obtain⟨t2,x2,rfl⟩:=hy.iface;have⟨cG,B1⟩:=ul w #[Nv fr,Nv t,Sv s,Fv t1<|Av x1,Fv t2<|Av x2] 297;have X1:=X0.af cG;have WU:Bq (w.alloc<|Cv #[Nv fr,Nv t,Sv s,Fv t1<|Av x1,Fv t2<|Av x2] 297) ((w.alloc<|Cv #[Nv fr,Nv t,Sv s,Fv t1<|Av x1,Fv t2<|Av x2] 297).alloc<|Cv #[Fv t1<|Av x1,Fv t2<|Av x2] 140):=bw _;exact EV
 |call _ _ x y _ _ _ vx vy hx hy=>
  obtain⟨t1,x1,rfl⟩:=hx.iface;obtain⟨t2,x2,rfl⟩:=hy.iface;have⟨cG,B1⟩:=ul w #[Nv fr,Nv t,Fv t1<|Av x1,Fv t2<|Av x2] 319;have X1:=X0.af cG;have WU:Bq (w.alloc<|Cv #[Nv fr,Nv t,Fv t1<|Av x1,Fv t2<|Av x2] 319) ((w.alloc<|Cv #[Nv fr,Nv t,Fv t1<|Av x1,Fv t2<|Av x2] 319).alloc<|Cv #[Fv t1<|Av x1,Fv t2<|Av x2] 140):=bw _;exact EV
 |ite _ _ x y z _ _ _ vx vy vz hx hy hz=>
  obtain⟨t1,x1,rfl⟩:=hx.iface;obtain⟨t2,x2,rfl⟩:=hy.iface;obtain⟨t3,x3,rfl⟩:=hz.iface;have⟨cG,B1⟩:=ul w #[Nv fr,Nv t,Fv t1<|Av x1,Fv t2<|Av x2,Fv t3<|Av x3] 317;have X1:=X0.af cG;have WU:Bq (w.alloc<|Cv #[Nv fr,Nv t,Fv t1<|Av x1,Fv t2<|Av x2,Fv t3<|Av x3] 317) ((w.alloc<|Cv #[Nv fr,Nv t,Fv t1<|Av x1,Fv t2<|Av x2,Fv t3<|Av x3] 317).alloc<|Cv #[Fv t1<|Av x1,Fv t2<|Av x2,Fv t3<|Av x3] 140):=bw _;have X2:=X1.af WU;rw[YS aH];simp only[nn]at Nc;have HC:=ai<|Qm (g:=w.heap.size+1) (sc:=3) (l:=l) (L:=[x,y,z]) (λq hq=>L8 q hq) X2.d hB BN ag ⟨ae,ae⟩ (agC ag rfl) (aje ((hx.af cG).af WU) ((hy.af cG).af WU)<|(hz.af cG).af WU) WR (λx=>qAv) HS hL;simp only[ot,uq,Nat.zero_add,Nat.reduceAdd]at HC;have⟨c1,f1,y1⟩:=uh B1;clear cG WU hx hy hz;go_enter func177,ntmps177;go_wp2_with fail;refine HC.mono ?_;rintro e w2⟨rfl,k2,d2⟩;have X3:=X2.fr k2 d2;clear k2 d2 HC;exact EW
 |of _ _ x y _ _ _ vx vy hx hy=>
  obtain⟨t1,x1,rfl⟩:=hx.iface;obtain⟨t2,x2,rfl⟩:=hy.iface;have⟨cG,B1⟩:=ul w #[Nv fr,Nv t,Fv t1<|Av x1,Fv t2<|Av x2] 311;have X1:=X0.af cG;rw[agE];simp only[nn,ck]at Nc;have HY:=hy.af cG;have HC:=ai<|L8 x ag _ cb tb mb lb B ty mk lo f _ l X1.d hB BN (hx.af cG) WR (λx=>qAv)<|HS x ag;have⟨c1,f1,y1⟩:=uh B1;clear cG hx hy;go_enter func177,ntmps177;go_wp2_with fail;refine HC.mono ?_;rintro e w2⟨rfl,k2,d2⟩;have X2:=X1.fr k2 d2;have B2:=ai<|B1.fr k2<|λq=>ae;have HY2:=HY.Qk k2 zM;have sU:=IW y _ cb tb mb lb B ty mk lo _ _ (.map none) (λ_=>none) [] X2.d hB HY2 (Or.inl ⟨rfl,rfl⟩) (λb q=>mO) (λs _=>by simp[fU])<|uh HS y ag;clear k2 d2 HC c1 f1 y1;have⟨c1,f1,y1⟩:=uh B2;go_wp2_with fail;refine sU.mono ?_;rintro e w3⟨rfl,k3,d3⟩;have X3:=X2.ke k3 d3;clear k3 d3 sU;exact EW
 |fn _ _ x _ _ _ y vx lf hy hx=>
  obtain⟨t1,x1,rfl⟩:=hx.iface;have⟨cG,B1⟩:=ul w #[Nv fr,Nv t,Nv a,Nv y,Sv s,Fv t1<|Av x1] 313;have X1:=X0.af cG;have BB:=B1;rw[ajf];simp only[nn,ck]at Nc;have HX:=hx.af cG;have HE:=L8 x ag;have HSX:=HS x ag;have⟨c1,f1,y1⟩:=uh B1;clear cG hx hy;go_enter func177,ntmps177
  go_wp2
  go_region_with(first
   |(go_at_call 176;refine(YR _ _ _).mono ?_;rintro e w1⟨gb,rfl,hgb,b1,g1⟩;have hb:=(jd _ _).drew.trans<|b1.mono<|br _;have Y1:=ai<|X1.af hb;have Q1:=ai<|HX.af hb;have G1:=ai g1;have C1:=ai<|BB.below hb;have ajc:w.heap.size+1<=gb:=(by have:=hgb;simp at this;omega);have⟨c3,f3,y3⟩:=uh C1;clear hb b1 g1 hgb)
   |(go_at_call 175;refine(sW (l:=l) HE Y1.d hB BN Q1 G1 ⟨ae,ae,ae,ae⟩ WR (λx=>qAv) HSX).mono ?_;rintro e w2'⟨rfl,k2,d2⟩;have X2:=ai<|Y1.fr k2 d2;clear k2 d2))
  all_goals(
   go_wp2
   go_end0
   exact⟨rfl,X2.k,X2.d⟩)
 |lt _ _ _ x z _ _ _ y vx vz hc lf hy hx hz=>
  obtain⟨t1,x1,rfl⟩:=hx.iface;obtain⟨t2,x2,rfl⟩:=hz.iface
  have HRR:=ai (show dX ty mk (.mk k s n [x,z] fr t a) l f=dX ty mk z (l++[s]) (dX ty mk x (if(k==11)=true then l++[s]else l) f) by
   obtain rfl|rfl:=hc
   .rw[agF];rfl
   .rw[agG];rfl)
  rw[uh HRR];obtain⟨rr,hrr⟩:∃rr,rr=(k==11):=⟨_,rfl⟩;rw[<-hrr];obtain⟨fz,HFZ⟩:∃fz,Hid<|fz=dX ty mk x (if rr=true then l++[s]else l) f:=⟨_,ai rfl⟩;rw[<-uh HFZ];clear HRR hrr;have⟨cG,B1⟩:=ul w #[Nv fr,Nv t,.bool rr,Nv a,Nv y,Sv s,Fv t1<|Av x1,Fv t2<|Av x2] 315;have X1:=X0.af cG;simp only[nn,ck]at Nc;have HZ:=hz.af cG;have HC:=ai<|Qn (l:=l) (L8 x ag) X1.d hB BN (hx.af cG) WR (λx=>qAv) (HS x ag) rr (a:Int) (y:Int) s;rw[<-uh HFZ]at HC;have HE:=L8 z ag;have HSX:=HS z ag;have⟨c1,f1,y1⟩:=uh B1;clear cG hx hy hz;go_enter func177,ntmps177;go_wp2_with fail;refine HC.mono ?_;rintro e w2⟨rfl,k2,d2⟩;have X2:=X1.fr k2 d2;have BB:=ai<|B1.fr k2<|λq=>ae;have HZ2:=HZ.Qk k2 zM;have hw2:=k2.size;clear k2 d2 HC c1 f1 y1;have⟨c1,f1,y1⟩:=uh BB
  go_wp2
  go_region_with(first
   |(go_at_call 176;refine(YR _ _ _).mono ?_;rintro e w1⟨gb,rfl,hgb,b1,g1⟩;have hb:=(jd _ _).drew.trans<|b1.mono<|br _;have Y1:=ai<|X2.af hb;have Q1:=ai<|HZ2.af hb;have G1:=ai g1;have C1:=ai<|BB.below hb;have ajc:w.heap.size+1<=gb:=(by have:=hgb;have h3:=hw2;simp at this h3;omega);have⟨c3,f3,y3⟩:=uh C1;clear hb b1 g1 hgb)
   |(go_at_call 175;refine(sW (l:=l) HE Y1.d hB BN Q1 G1 ⟨ae,ae,ae,ae⟩ WR (λx=>qAv) HSX).mono ?_;rintro e w2'⟨rfl,k2,d2⟩;have X3:=ai<|Y1.fr k2 d2;clear k2 d2))
  all_goals(
   go_wp2
   go_end0
   exact⟨rfl,X3.k,X3.d⟩)
 |mt _ _ x A _ _ _ vx g sc vp ve h0 hg hz hc hx hp he=>
  obtain⟨t1,x1,rfl⟩:=hx.iface;have⟨cG,B1⟩:=ul w #[Nv fr,Nv t,Fv t1<|Av x1,Lv (some ⟨g,0,none⟩) A.length sc] 201;have X1:=X0.af cG;rw[agH];simp only[nn,ck]at Nc;have YG:=hg;have hAL:A.length<=1000:=by simp only[ot]at hL;rw[C8]at hL;omega
  have HC:=ai<|L8 x ag _ cb tb mb lb B ty mk lo f _ l X1.d hB BN (hx.af cG) WR (λx=>qAv)<|HS x ag;have⟨c1,f1,y1⟩:=uh B1
  have HIA:∀q∈A,PXC q.2:=(λq hq=>by
   obtain⟨i,hi,rfl⟩:=List.getElem_of_mem hq
   exact L8 _<|List.mem_cons_of_mem _ (EU A i hi).2)
  clear cG hx;go_enter func177,ntmps177;go_wp2_with fail;refine HC.mono ?_;rintro e w2⟨rfl,k2,d2⟩;have X2:=X1.fr k2 d2;have B2:=ai<|B1.fr k2<|λq=>ae;have me:∀o,w2.cell? ⟨g,o,none⟩=w.cell? ⟨g,o,none⟩:=λo=>World.cell?_of_block (a:=⟨g,o,none⟩)<|X2.k.block g hz<|zM g YG;have sU:=agA (l:=l) (sc:=sc) (vp:=vp) (ve:=ve) HIA X2.d hB BN YG (Nat.lt_of_lt_of_le hz X2.k.size) (λi hi=>by rw[me,me,me,me];exact hc i hi) (λi hi=>(hp i hi).Qk X2.k zM) (λi hi=>(he i hi).Qk X2.k zM) WR (λq=>by have:=Nc q;have:=uG x;omega) (λq hq=>HS q<|List.mem_cons_of_mem _ hq) hAL;clear k2 d2 HC c1 f1 y1 me;have⟨c1,f1,y1⟩:=uh B2;go_wp2_with fail;refine sU.mono ?_;rintro e w3⟨rfl,k3,d3⟩;have X3:=X2.fr k3 d3;clear k3 d3 sU;exact EW
 |_=>
  rw[YS aH,show hH ty mk [] l f=f by unfold hH;rfl];go_enter func177,ntmps177
  go_wp2
  go_end0;exact⟨rfl,X0.k,X0.d⟩
end
section
open Go.ChangeMaps
def h_ T mk f l k:cZ T mk (f+1) l k=aq mk (λx=>ie T mk (cZ T mk f)<|l++[x]) k:=rfl
def jF T mk go l:aR T (ie T mk go l):=by grind[aR,ie,eD,dc]
def v7 T sm:aR T (ch T sm):=by grind[aR,ch,fO,rI,jH]
theorem uH{T}{sm}(hm:∀k a k',sm k=.ok (a,k')->k<k'):mQ (ch T sm):=λk a k' h=>by
 rw[ch]at h;have⟨_,k1,h1,h2⟩:=aB h;have:=eH _ _ _ _ h1;have:=zQ hm 1 _ _ _ _ _ h2;omega
def QMaker:EQ Nd:=λw P nd c=>∃(s:BA)(n:Nat)(L:List Nd)(f t a y:Nat)(v:Value),nd=.mk 2 s n L f t a/\c 0=Nv f/\c 1=Nv t/\c 2=Nv a/\c 3=Nv y/\c 4=.string s/\c 5=v/\nY s/\y=a+s.size/\RowV (Q1 PT) 1 w P L v
def cd:gn QMaker:=λ_ _ _ _ _ _ h h1 h2 h3=>by
 obtain⟨s,n,L,f,t,a,y,v,e0,e1,e2,e3,e4,e5,e6,e7,e8,e9⟩:=h;exact⟨s,n,L,f,t,a,y,v,e0,e1,e2,e3,e4,e5,e6,e7,e8,e9.move YT h1 h2 h3⟩
def EX w P nd(v:Value):=∃c:Nat->Value,v=.agg #[c 0,c 1,c 2,c 3,c 4,c 5]/\QMaker w P nd c
def I1{k k'}{t}(h:db (ja s 0) 2 k=.ok (t,k'))(hk:k<(ja s 0).length):nY t.text/\t.to=t.ak+t.text.size:=by
 rw[db]at h;split at h
 .rename_i hq
  cases h
  exact⟨(eM s k hk).v2<|by simpa using hq,(oX s k hk).sp⟩
 .cases h
def Bx.ajg{w}{C}(h:Bx w b C)(hC:C.size=6)v0 v1 v2 v3 v4 v5:Bx ((((((w.setCell ⟨b,0,none⟩ v0).setCell ⟨b,1,none⟩ v1).setCell ⟨b,2,none⟩ v2).setCell ⟨b,3,none⟩ v3).setCell ⟨b,4,none⟩ v4).setCell ⟨b,5,none⟩ v5) b #[v0,v1,v2,v3,v4,v5]:=by
 obtain⟨a0,a1,a2,a3,a4,a5,rfl⟩:∃a0 a1 a2 a3 a4 a5,C=#[a0,a1,a2,a3,a4,a5]:=by
  obtain⟨l⟩:=C
  match l,hC with
  |[a,b,c,d,e,f],_=>grind
 exact(((((h.aP 0 v0 #[v0,a1,a2,a3,a4,a5] rfl ag).aP 1 v1 #[v0,v1,a2,a3,a4,a5] rfl ag).aP 2 v2 #[v0,v1,v2,a3,a4,a5] rfl ag).aP 3 v3 #[v0,v1,v2,v3,a4,a5] rfl ag).aP 4 v4 #[v0,v1,v2,v3,v4,a5] rfl ag).aP 5 v5 #[v0,v1,v2,v3,v4,v5] rfl ag
def RowV.uI{α:Type}{Q}{sz}{L:List α}(h:RowV Q sz w P L v)(hQ:gn Q)(hb:∀c,P c->c≠b)(j:Nat)(u:Value):RowV Q sz (w.setCell ⟨b,j,none⟩ u) P L v:=h.move hQ C9 (λc p _=>Below.heap_setCell _ _ _ _<|hb c p)<|λ_ p _=>p
def Qr(hs:s.size<=1000)(hT:(ja s 0).length<=1001)(h:SX w N rb sb m s k)(hn:(ja s 0).length<=k+1+n):Cq 247 #[rp rb] w (ap EX N rb sb m s (ch (ja s 0) (C_ s n) k) w):=by
 have o:w.heap.size≠rb:=by have:=h.z;omega
 have ala:=h.lt;refine cM.zN h rfl λH=>?_;go_enter func247,ntmps247;go_wp2_with fail;refine H.own.call (uJ H.own.sx hs 2 I4<|Or.inr ⟨rfl,rfl⟩) ?_ (st:=λ_ k h=>jH _ _ _ _ k h);intro t k1 v w1 H q V
 cases V
 have Ht:=ai<|I1 q ala
 cases eH _ _ _ _ q
 clear q;have H:=H.box (D:=#[Nv t.ak,Nv t.to,Sv t.text]) (t:=133);have⟨c1,f1,y1⟩:=H.sx.bx;go_wp2_with fail;clear c1 f1 y1;refine(H.re<|EY (cQ (ja s 0) (C_ s n) 1 (ja s 0).length<|.mk 2 t.text 0 [] t.ak (aS (ja s 0)<|k+1) t.ak)<|k+1).call (YU (R:=PT) hT (.inl ⟨rfl,rfl,rfl⟩) PT.iface (λ_ _ _ _ _ _ h a b c=>h.move a b c) (cL (dq (T:=(ja s 0)) n) (dq n) 1) (λw k' S l=>ajh hs (YV hs hT n) S ae) H.sx t.text t.ak (aS (ja s 0)<|k+1) t.ak) ?_ (mv:=I6 λ_ _ _ _ _ _ h a b c=>h.move a b c);intro a k2 v w3 H q V;have⟨L',hL'⟩:=rJ _ _ _ _ _ q;subst hL';obtain⟨va,L,vc,rfl⟩:=V.sl;clear V q;have⟨⟨_,d3,g3,x3⟩,_⟩:=H.p;have⟨c3,f3,y3⟩:=H.bo o
 go_wp2
 go_region_with(go_at_call 105;refine H.drew.since ?_;intro w4 H;have⟨⟨_,d4,g4,x4⟩,_⟩:=H.p;have⟨c4,f4,y4⟩:=H.bo o)
 all_goals(
  go_wp2_with fail;have⟨cF,fF,zF⟩:=(H.bo o).ajg rfl (Nv t.ak) (.int .i64 ((aS (ja s 0) k2:Nat):Int)) (Nv t.ak) (Nv t.to) (Sv t.text) (Lv va L vc);refine bodyPost_ret (v:=Av #[Nv t.ak,.int .i64 ((aS (ja s 0) k2:Nat):Int),Nv t.ak,Nv t.to,Sv t.text,Lv va L vc]) (by simp[results,Tryz.results247,go_sem,cF]) rfl ((H.put o ⟨cF,fF,zF⟩<|cW<|cW<|cW<|cW<|cW<|cW ⟨rfl,rfl,rfl,rfl,λ_ _=>rfl⟩).done ?_);rintro⟨_,L1,fr,tz,at_,e,R⟩;injection e with _ _ _ e3 e4 e5 e6;subst e3 e4 e5 e6
  exact⟨λj=>([Nv t.ak,.int .i64 ((aS (ja s 0) k2:Nat):Int),Nv t.ak,Nv t.to,Sv t.text,Lv va L vc]:List Value).getD j Zv,rfl,_,_,_,_,_,_,_,_,rfl,rfl,rfl,rfl,rfl,rfl,rfl,Ht.1,Ht.2,R⟩)
def UB:(Tryz.prog.info? 286).map (λi=>(i.zero,i.size,i.bytes))=some (some<|.agg #[Iv 0,Iv 0,Iv 0,Iv 0,.string ⟨#[]⟩,.slice none 0 0],6,72):=qkr
def I7:Tryz.prog.underlying 135=some (.slice 286):=qkr
def EX.open(h:EX w P nd v):∃(s:BA)(n:Nat)(L:List Nd)(f t a y:Nat)(va:Option Addr)(vc:Nat),nd=.mk 2 s n L f t a/\v=.agg #[Nv f,Nv t,Nv a,Nv y,.string s,.slice va L.length vc]/\nY s/\y=a+s.size/\RowV (Q1 PT) 1 w P L (.slice va L.length vc):=by
 obtain⟨c,rfl,s,n,L,f,t,a,y,v,e0,e1,e2,e3,e4,e5,e6,e7,e8,e9⟩:=h;have e9':=e9;obtain⟨va,vc,cs,rfl,_,_⟩:=e9;exact⟨s,n,L,f,t,a,y,va,vc,e0,by rw[e1,e2,e3,e4,e5,e6],e7,e8,e9'⟩
def Da:Mov EX:=λ_ _ _ _ _ _⟨c,h1,h2⟩p q r=>⟨c,h1,cd _ _ _ _ _ _ h2 p q r⟩
def ac4 w P l v:=l≠[]/\RowV QMaker 6 w P l v
def BT(hs:s.size<=1000)(hT:(ja s 0).length<=1001)(h:SX w N rb sb m s k)(hn:(ja s 0).length<=k+1+n):
 Cq 246 #[rp rb,oY 247 rb] w (ap ac4 N rb sb m s (cZ (ja s 0) (ch (ja s 0)<|C_ s n) (ja s 0).length [] k) w):=by
 have hcA:∀args w,(callFunc 247 args).run Tryz.prog w=.ok (.enter 247 args) w:=λ_ _=>qkr;have hk:=h.lt;obtain⟨r,hr⟩:∃r,r=cZ (Pu.bG s 0) (ch (Pu.bG s 0)<|C_ s n) (Pu.bG s 0).length [] k:=⟨_,rfl⟩;rw[<-hr];obtain⟨L,hL⟩:∃L,(Pu.bG s 0).length=L+1:=⟨(Pu.bG s 0).length-1,ae⟩;refine cM.zN h (by rw[hr,hL];exact h_ _ _ _ _ _) λH=>?_;have HL:=ai hL;clear hr hL;go_enter func246,ntmps246;go_wp2_with fail;refine H.call (Qr (n:=n) hs hT h hn) ?_ (st:=λa=>jF _ _ _ _) (mv:=Da);intro a k1 v1 w1 H q V;have l1:=uH (T:=(Pu.bG s 0)) (cL (dq n) (dq n) 1) _ _ _ q;obtain⟨s',n',L',f',t',a',y',qM,qN,rfl,rfl,hu,hy,hV⟩:=V.open;have H:=(H.af<|bw _).row cd (dC.one (sz:=6) (et:=286) (lo:=w.heap.size) (c:=λj=>([Nv f',Nv t',Nv a',Nv y',Sv s',Lv qM L'.length qN]:List Value).getD j Zv) cd ⟨s',n',L',f',t',a',y',_,rfl,rfl,rfl,rfl,rfl,rfl,rfl,hu,hy,hV⟩ (br _) H.ke.size aH #[Nv f',Nv t',Nv a',Nv y',Sv s',Lv qM L'.length qN] rfl rfl) ⟨br _,.inl rfl⟩;clear hu hy hV V q
 go_wp2
 go_loopg[5] ((ja s 0).length-k1) (λgk v wr=>EZ (·≠[]) QMaker 286 6 N rb sb m s (k+1) w r (λf A _=>ie (ja s 0) (ch (ja s 0)<|C_ s n) (cZ (ja s 0) (ch (ja s 0)<|C_ s n) f) A) gk v wr)
 case atStart=>exact⟨k1,[Nd.mk 2 s' n' L' f' t' a'],L,_,1,0,rfl,ag,H,ai rfl,l1,bP,by have:=uh HL;omega⟩
 case round=>
  clear H HL;obtain⟨kr,A,f,va,vc,_,rfl,hA,H,dv,hle,hAl,hfu⟩:=hrel;have zw:=H.ke.size;have YW:=H.p.block;have YX:=H.sx.lt
  cases hb:bh (tk (ja s 0) kr) YY
  .have H:=H.re (g':=λk=>.ok (A,k)) (by dsimp only[ie];rw[hb];rfl);go_wp2_with fail;refine H.ET hb ?_
   go_wp2
   go_ret;exact H.done λR=>⟨hA,R.v cd⟩
  .obtain⟨f,rfl⟩:∃f',f=f'+1:=⟨f-1,ae⟩;have H:=H.re (g':=aq qX λ_=>aq (ch (ja s 0)<|C_ s n) λa=>ie (ja s 0) (ch (ja s 0)<|C_ s n) (cZ (ja s 0) (ch (ja s 0)<|C_ s n) f)<|A++[a]) (by dsimp only[ie];rw[if_pos hb,h_];rfl);go_wp2_with fail;refine H.BS hb ?_ (st:=λ_=>fO (v7 _ _) λa=>jF _ _ _ _);intro w2 H;go_wp2_with fail;have z2:=H.ke.size;have YW:=H.p.block;refine H.call (Qr (n:=n) hs hT H.sx ae) ?_ (st:=λa=>jF _ _ _ _) (mv:=Da);intro a k2 v1 w1 H q V;have l2:=uH (T:=(ja s 0)) (cL (dq n) (dq n) 1) _ _ _ q;obtain⟨s',n',L',f',t',a',y',qM,qN,rfl,rfl,hu,hy,hV⟩:=V.open
   replace hy:=ai hy
   go_wp2_with(at_builtin;go_must(refine H.append (a:=.mk 2 s' n' L' f' t' a') (D:=[Nv f',Nv t',Nv a',Nv y',Sv s',Lv qM L'.length qN]) hT cd UB I7 H.p.1 z2 (λb e=>(YW b e).2) (c:=λj=>([Nv f',Nv t',Nv a',Nv y',Sv s',Lv qM L'.length qN]:List Value).getD j Zv) ⟨s',n',L',f',t',a',y',_,rfl,rfl,rfl,rfl,rfl,rfl,rfl,hu,hy,hV⟩ ae ?_;intro q3 c3 w3 H));go_roundg((ja s 0).length-k2)
   case measure=>rw[uh dv];omega
   case rel=>exact⟨k2,A++[Nd.mk 2 s' n' L' f' t' a'],f,_,c3,0,ag,ag,H,ai rfl,ae,bP,ae⟩
end
section
open Go.ChangeMaps Go.MapKept
section
variable {kb:Nat} {F:BA->Option Nat} {wr w1:World}
def FM.agI{c}(h:FM w b F)(o:One c w w')(hn:b≠c):FM w' b F:=h.same<|o.block b hn
def uK(h:CK w cb tb mb lb ty mk lo f)(hk:FM w kb F)(hn:kb≠cb)a b n s:
 Cq 173 #[cp cb,Mv kb,.agg #[Nv a,Nv b,.string s],Nv n] w λe w'=>e=.returned (.tuple #[])/\∃w1,Ke cb w w1/\CK w1 cb tb mb lb ty mk lo (bm (F s).isSome 4 a b f)/\One kb w1 w'/\FM w' kb (fY F s n):=by
 have⟨cG,B1⟩:=ul w #[Nv a,Nv b,Sv s] 133;have D1:=h.af cG;have K1:=Ke.of (rb:=cb) cG;have M1:=hk.below cG;have HC:=Qe (v:=Mv kb) (Or.inr ⟨kb,rfl,M1⟩) s;have hz:=h.z;have⟨c1,f1,y1⟩:=uh B1;go_enter func173,ntmps173;go_wp2_with fail;refine HC.mono ?_;rintro e w2⟨rfl,rfl⟩
 cases hF:(F s).isSome with
 |true=>
  have sU:=rF D1 4 a b;go_wp2_with fail;refine sU.mono ?_;rintro e w3⟨rfl,k3,D3⟩;have K3:=K1.trans k3;have B3:=ai<|B1.xG k3 ae;have⟨L,HM,HL⟩:=M1.ke k3 hn;have⟨c1,f1,y1⟩:=uh B3;go_wp2_with(refine aV _ rfl _ _ _ _ (Or.inr rfl) (KL.str jk) jj _ _ rfl HM s (Nv n) rfl rfl trivial (λ_ _=>trivial) ?_;intro w4 H' O';have M4:=ai H';have O4:=ai O';clear H' O');go_end0;exact⟨rfl,_,K3,D3,O4,_,M4,FM.put HL s n⟩
 |false=>
  obtain⟨L,HM,HL⟩:=M1;go_wp2_with(refine aV _ rfl _ _ _ _ (Or.inr rfl) (KL.str jk) jj _ _ rfl HM s (Nv n) rfl rfl trivial (λ_ _=>trivial) ?_;intro w4 H' O';have M4:=ai H';have O4:=ai O';clear H' O');go_end0;exact⟨rfl,_,K1,D1,O4,_,M4,FM.put HL s n⟩
def CK.aji(h:CK w1 cb tb mb lb ty mk lo f)(o:One tb w1 w')(m:FM w' tb F):CK w' cb tb mb lb F mk lo f:=
 ⟨h.bx.one o h.ct,m,h.m.agI o h.tm.symm,h.l.same<|o.block lb h.tl.symm,h.ct,h.cm,h.cl,h.tm,h.tl,h.ml⟩
def CK.ajj(h:CK w1 cb tb mb lb ty mk lo f)(o:One mb w1 w')(m:FM w' mb F):CK w' cb tb mb lb ty F lo f:=
 ⟨h.bx.one o h.cm,h.t.agI o h.tm,m,h.l.same<|o.block lb h.ml.symm,h.ct,h.cm,h.cl,h.tm,h.tl,h.ml⟩
end
end
section
open Go.ChangeMaps Un
def Fr.zR{S}{a b c}(h:Below n a b)(hn:n<=b.heap.size)(k:Fr S b c)(hS:∀x,S x->n<=x):Below n a c:=
 ⟨k.os.trans h.os,k.tape.trans h.tape,k.output.trans h.output,Nat.le_trans h.size k.size,λi hi=>(k.block i ae (λq=>by have:=hS i q;omega)).trans<|h.block i hi⟩
end
section
open Go.ChangeMaps Go.MapKept Un
abbrev KLI:KL ji 3 qI (λ_ _=>True):=KL.num Tryz.underlying3
def I8:Tryz.prog.underlying 85=some (.map 3 83):=qkr
def ac5 w:(zeroValue 83).run ji w=.ok .nilFunc w:=qkr
def UC:Cq 39 #[] w λe w'=>e=.returned (Mv w.heap.size)/\Bq w w'/\MG qI w' w.heap.size (bF 2 (.func (.func 63) #[] #[])<|bF 1 (.func (.func 61) #[] #[]) []):=by
 have jB:= @run_makeMap Tryz.prog;have M0:=MG.new qI w;have k0:Bq w (w.alloc<|.map #[] 0):=bw _;have K0:=ai k0;go_enter func39,ntmps39;go_wp2_with((refine cu KLI I8 rfl _ _ _ (Or.inl rfl) rfl M0 _ _ rfl rfl ?_;clear M0;intro w' H' O';have M0:=ai H';have K1:=K0;clear K0;have K0:=ai (One.below K1 O'<|by exact br _);clear H' O' K1));go_ret;exact⟨rfl,K0,M0⟩
def I9{w}(h:MG qI w b (bF 2 (.func (.func 63) #[] #[])<|bF 1 (.func (.func 61) #[] #[]) [])):(Instr.lookup 85 (Mv b) (Iv 1) true).run ji w=.ok (.tuple #[.func (.func 61) #[] #[],.bool true]) w/\(Instr.lookup 85 (Mv b) (Iv 2) true).run ji w=.ok (.tuple #[.func (.func 63) #[] #[],.bool true]) w:=by
 have hl:=λk:Int=>h.ms.look KLI I8 (ac5 w) k trivial (λ_ _=>trivial) true;constructor
 .have:=hl 1;simpa[aM]using this
 .have:=hl 2;simpa[aM]using this
end
section
open Un
def cV{c}{a}{z}(hk:k≠0)(h:(bm c k a b z).kind=0):c=false/\z.kind=0:=by
 rw[bm]at h
 cases c with
 |false=>exact⟨rfl,h⟩|true=>
  rw[if_pos rfl]at h;exact absurd h (UD k a b z hk).1
mutual
def Yc{ty:BA->Option Nat}{own:List BA}:∀(nd:Nd)(z:Fl),(uj ty own nd z).kind=0->z.kind=0
 |.mk k s n L f t a,z,h=>by
  rw[uj]at h;exact(cV aH (cV aH<|yX L _ h).2).2
def yX{ty:BA->Option Nat}{own:List BA}:∀(l:List Nd)(z:Fl),(gJ ty own l z).kind=0->z.kind=0
 |[],z,h=>h|x::l,z,h=>by rw[gJ]at h;exact Yc x z<|yX l _ h
end
mutual
def ae5{mk:BA->Option Nat}:∀(nd:Nd)(q:List BA×Fl),(n9 mk nd q).2.kind=0->q.2.kind=0
 |.mk k s n L f t a,q,h=>by
  rw[n9]at h;split at h
  .exact(cV aH h).2
  .exact(cV aH<|Et L _ h).2
def Et{mk:BA->Option Nat}:∀(l:List Nd)(q:List BA×Fl),(dI mk l q).2.kind=0->q.2.kind=0
 |[],q,h=>h|x::l,q,h=>by rw[dI]at h;exact ae5 x q<|Et l _ h
end
mutual
def mj{ty mk:BA->Option Nat}:∀(nd:Nd)(l:List BA)(z:Fl),(dX ty mk nd l z).kind=0->z.kind=0
 |.mk k s n L f t a,l,z,h=>by
  rw[dX]at h;split at h
  .exact(cV aH h).2
  split at h
  .exact(cV aH h).2
  split at h
  .exact YZ L _ z h
  split at h
  .exact Y3 L _ _ z h
  split at h
  .exact Y3 L _ _ z h
  split at h
  .exact agJ L l z h
  split at h
  .exact agK L l z h
  .exact Y4 L l z h
def YZ{ty mk:BA->Option Nat}:∀(L:List Nd)(l:List BA)(z:Fl),(Ev ty mk L l z).kind=0->z.kind=0
 |[],l,z,h=>h|x::r,l,z,h=>mj x l z (by rw[Ev]at h;exact h)
def Y3{ty mk:BA->Option Nat}:∀(L:List Nd)(l l':List BA)(z:Fl),(Iz ty mk L l l' z).kind=0->z.kind=0
 |[],l,l',z,h=>h|x::r,l,l',z,h=>mj x l z (YZ r l' _ (by rw[Iz]at h;exact h))
def agK{ty mk:BA->Option Nat}:∀(L:List Nd)(l:List BA)(z:Fl),(Ew ty mk L l z).kind=0->z.kind=0
 |[],l,z,h=>h|[x],l,z,h=>mj x l z (by rw[Ew]at h;exact h)|x::y::r,l,z,h=>mj x l z (Yc y _ (by rw[Ew]at h;exact h))
def Y4{ty mk:BA->Option Nat}:∀(L:List Nd)(l:List BA)(z:Fl),(hH ty mk L l z).kind=0->z.kind=0
 |[],l,z,h=>h|x::r,l,z,h=>mj x l z (Y4 r l _ (by rw[hH]at h;exact h))
def agJ{ty mk:BA->Option Nat}:∀(L:List Nd)(l:List BA)(z:Fl),(MI ty mk L l z).kind=0->z.kind=0
 |[],l,z,h=>h|x::r,l,z,h=>mj x l z (Eu r l _ (by rw[MI]at h;exact h))
def Eu{ty mk:BA->Option Nat}:∀(L:List Nd)(l:List BA)(z:Fl),(mZ ty mk L l z).kind=0->z.kind=0
 |[],l,z,h=>h|p::r,l,z,h=>ae5 p ([],z) (agL r l _ (by rw[mZ]at h;exact h))
def agL{ty mk:BA->Option Nat}:∀(L:List Nd)(l:List BA)(q:List BA×Fl),(Iy ty mk L l q).kind=0->q.2.kind=0
 |[],l,q,h=>h|e::r,l,q,h=>mj e _ q.2 (Eu r l _ (by rw[Iy]at h;exact h))
end
mutual
def n_:Nd->List BA
 |.mk _ s _ L _ _ _=>s::kJ L
def kJ:List Nd->List BA
 |[]=>[]|x::l=>n_ x++kJ l
end
mutual
def I_:∀nd,(n_ nd).length=nn nd
 |.mk k s n L f t a=>by simp only[n_,nn,ot,Db L];omega
def Db:∀l,(kJ l).length=ck l
 |[]=>rfl|x::l=>by simp only[kJ,ck,ug,I_ x,Db l]
end
end
section
open Go.ChangeMaps Un
def agM nd(h:WN nd):WV nd:=by
 induction h with
 |var s n f t a h=>exact sX (Y5 s n f t a h)|fn s n x y f t a hx hy dR im=>exact sX (ac6 s n x y f t a dR im)|pr s n x y f t a hx hy dR im=>exact sX (ac7 s n x y f t a dR im)|up s n L f t a h hl hL ih=>exact sX<|ac8 s n L f t a h hl ih
end
end Go.Proofs.YtfnkchdeheeiiaaGreatDoor
