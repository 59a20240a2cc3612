import Derived.Test.YtfnkchdeheeiiaaGreatDoorTOa
import Derived.Test.YtfnkchdeheeiiaaGreatDoorTXu
set_option linter.all false
set_option maxRecDepth 100000
set_option maxHeartbeats 16000000
namespace Go.Proofs.YtfnkchdeheeiiaaGreatDoor
open _root_.List renaming getElem?_eq_getElem->ja,mem_cons->jc,getElem_mem->jd,mem_append->jf,append_nil->jh,getElem?_append_right->ji,getElem?_append_left->jj,map_cons->jk,take_append_drop->jl,getElem_of_mem->jm,not_mem_nil->jo,map_append->jp,take_length->jq,nodup_nil->jt,map_nil->ju
open Pu renaming bH->jv,Tok->jx,cI->jy,dL->jz,nC->j3,gG->j5,at_->j6,aV->j7,Cz->j8,lX->j9
open Or renaming inr->qd,inl->qe
open In renaming Nt->qf,kR->qg,inf->qh,ys->qi,Mks->qk,arr->ql,Y9->qm,QT->qn,Env->qp,qJ->qr,H9->qs
open Go.RowKit.Below renaming refl->qt,heap_setCell->qu
open _root_.Nat renaming le_trans->qv,not_lt_zero->qw,zero_le->qx,le_succ->qy,le_of_lt->qz
open Go.Proofs.Tryz renaming prog->q9,results352->xc,underlying209->xd,underlying9->xf
open _root_.Array renaming replicate->xg,getD_eq_getD_getElem?->xh
open Go.World renaming cell?_of_block->xi
open Classical renaming byContradiction->xj
open Go.ByteArray renaming toList_eq->xk
open Go Go.RowKit Proofs.Tryz
variable {s st:BA} {lo:BA->Nat} {mk ty:BA->Option Nat} {dom:BA->Prop} {rc:Bool} {f':Fl} {Γ:qp} {mks:qk} {d:In.Td} {nl:List BA} {l:List Dc} {L ms:List Nd} {T:List jx} {part sm Gf:M Nd} {B b cb e f g gb i j k kb lb m mb n nb sc tb:Nat} {P Q Λ:Nat->Prop} {a x y z:Nd} {t:TypeId} {v vx:Value} {W w w' w0:World}
section
open Go.ChangeMaps Go.MapKept
section
variable {wr:World} {p l:List BA} {f:Fl}
def Y_ x y s:Cq 176 #[.agg #[Iv x,Iv y,.string s]] w λe w'=>∃gb,e=.returned (Mv gb)/\w.heap.size<=gb/\Bq w w'/\GM w' gb [s]:=by
 have iN:= @run_makeMap Tryz.prog;have b_:Bq w ((w.alloc<|Cv #[Iv x,Iv y,Sv s] 133).alloc<|.map #[] 0):=(bw _).alloc ag _;have M0:MB ((w.alloc<|Cv #[Iv x,Iv y,Sv s] 133).alloc<|.map #[] 0) (w.heap.size+1) []:=(by have:=MB.new<|w.alloc<|Cv #[Iv x,Iv y,Sv s] 133;simpa using this);have HB:=ai b_;have B1:=(Bx.new w #[Iv x,Iv y,Sv s] 133).alloc<|.map #[] 0;obtain⟨c1,f1,y1⟩:=B1;go_enter func176,ntmps176;go_wp2_with(refine oC rfl _ _ _ (Or.inl rfl) rfl M0 s (Iv 1) rfl rfl ?_;intro w3 H' O';have M3:=ai H';have O3:=ai O';clear H' O');go_ret;exact⟨_,rfl,Nat.le_succ _,One.below HB O3<|Nat.le_succ _,GM.bD (p:=[]) ag (λx=>by simp[aX,fU]) M3⟩
def EXR cb tb mb lb ty mk lo w0 f l(L:List Nd)gk c wr:=∃j:Nat,Hid (gk=L.length-j)/\j<=L.length/\c=Nv j/\CE cb tb mb lb ty mk lo w0 (gY ty mk (L.take j) l f) wr
def QU{vs:Nat->Value}(IH:∀x∈L,PXC x)(h:CK w cb tb mb lb ty mk lo f)(hB:B<=cb)(Bw:B<=lb)(hg:g<w.heap.size)(hgn:g≠cb/\g≠lb)(hc:∀i,i<L.length->w.cell? ⟨g,i,none⟩=some (vs i))(hr:∀i(h:i<L.length),PE w (·<B) L[i]<|vs i)(hl:LO lo l)(qQ:∀x,lo x+b8 L<=5000)(hS:∀x∈L,Sm x)(hL:L.length<=1000):
 Cq 243 #[cp cb,.slice (some ⟨g,0,none⟩) L.length sc] w λe w'=>e=.returned (.tuple #[])/\Fr (λb=>b=cb\/b=lb) w w'/\CK w' cb tb mb lb ty mk lo (gY ty mk L l f):=by
 have zP:∀b,b<B->¬(b=cb\/b=lb):=λb hb q=>ae;have X0:CE cb tb mb lb ty mk lo w f w:=⟨h,Fr.refl _ _⟩;obtain⟨Z,HZ⟩:∃Z,Hid<|Z=gY ty mk L l f:=⟨_,ai rfl⟩;rw[<-uh HZ];go_enter func243,ntmps243
 go_wp2
 go_loopg[8] L.length (λgk c wr=>EXR cb tb mb lb ty mk lo w f l L gk c wr)
 case atStart=>exact⟨0,ai rfl,qx _,rfl,by rw[List.take_zero];rw[gY];exact X0⟩
 case round=>
  obtain⟨j,cR,hj,rfl,hX⟩:=hrel;have XR:=ai hX;by_cases bq:j<L.length
  .have hd:(j:Int)<(L.length:Int):=ae;have hcj:=(xi (a:=⟨g,j,none⟩)<|XR.k.block g hg (λq=>by obtain q|q:=q;exact hgn.1 q;exact hgn.2 q)).trans (hc j bq);have HC:=IH L[j] (jd bq) _ cb tb mb lb B ty mk lo _ (vs j) l XR.d hB Bw ((hr j bq).Qy XR.k zP) hl (λx=>by have:=qQ x;have:=sF<|jd bq;omega)<|hS _<|jd bq;rw[<-Uh _ _ _ _ _ _ bq]at HC;go_wp2_with fail;refine HC.mono ?_;rintro e w2⟨rfl,k2,d2⟩;have X2:=XR.fr k2 d2
   go_wp2
   go_roundg(L.length-(j+1))
   case measure=>rw[uh cR];omega
   case rel=>exact⟨j+1,ai rfl,ae,iK,X2⟩
  .have hd:decide ((j:Int)<(L.length:Int))=false:=bB;have he:L.take j=L:=List.take_of_length_le ae;rw[he,<-uh HZ]at XR
   go_wp2
   go_end0;exact⟨rfl,XR.k,XR.d⟩
abbrev bdA r x y s v:=#[.bool r,Iv x,Iv y,.string s,v]
def QV{nd}(HE:PXC nd)(h:CK w cb tb mb lb ty mk lo f)(hB:B<=cb)(Bw:B<=lb)(hx:PE w (·<B) nd v)(hl:LO lo l)(qQ:∀x,lo x+1+nn nd<=5000)(hs:Sm nd)r x y s:
 Cq 123 #[cp cb,.agg<|bdA r x y s v] w λe w'=>e=.returned (.tuple #[])/\Fr (λb=>b=cb\/b=lb) w w'/\CK w' cb tb mb lb ty mk lo (dN ty mk nd (if r then l++[s]else l) f):=by
 have⟨cx,B0⟩:=sf w (bdA r x y s v) 142;have X0:Hid (CE cb tb mb lb ty mk lo w f<|w.alloc<|Cv (bdA r x y s v) 142):=ai ⟨h.af cx,Fr.of cx⟩;have HX:=ai<|hx.af cx;have⟨z1,z2,z3,z4⟩:=h.lts;obtain⟨t1,x1,rfl⟩:=hx.iface;have⟨c0,f0,y0⟩:=uh B0;clear h hx cx
 cases r with
 |false=>
  have HC:=ai (HE _ cb tb mb lb B ty mk lo f _ l X0.d hB Bw HX hl (λx=>by have:=qQ x;omega) hs);go_enter func123,ntmps123;go_wp2_with fail;refine HC.mono ?_;rintro e w2⟨rfl,k2,d2⟩;have X2:=ai<|X0.fr k2 d2;clear k2 d2 HC
  go_wp2
  go_end0;exact⟨rfl,X2.k,X2.d⟩
 |true=>
  go_enter func123,ntmps123
  go_wp2
  go_region_with(first
   |(go_at_call 176;refine(Y_ _ _ _).mono ?_;rintro e w1⟨gb,rfl,hgb,b1,g1⟩;have hb:=(qt _ _).drew.trans<|b1.mono<|br _;have X1:=ai<|X0.af hb;have P1:=ai<|HX.af hb;have G1:=ai g1;have B1:=ai<|B0.below hb;have aju:w.heap.size+1<=gb:=(by simpa using hgb);have⟨c1,f1,y1⟩:=uh B1;clear hb b1 g1 hgb)
   |(go_at_call 175;refine(sH HE X1.d hB Bw P1 G1 ⟨ae,ae,ae,ae⟩ hl qQ hs).mono ?_;rintro e w2⟨rfl,k2,d2⟩;have X2:=ai<|X1.fr k2 d2;clear k2 d2))
  all_goals(
   go_wp2
   exact bodyPost_ret (v:=.tuple #[]) (by simp[results,Tryz.results123,go_sem]) rfl ⟨rfl,X2.k,X2.d⟩)
end
def agC{a b:Value}(hg:g=W.heap.size)(hw:w=W.alloc (.cells #[a,b] t)):∀i,i<[x,y].length->w.cell? ⟨g,i,none⟩=some ((λi:Nat=>if i=0 then a else b) i):=by
 subst hg hw;intro i hi;have:i=0\/i=1:=Gd;obtain rfl|rfl:=this<;>simp
def agD{a b c:Value}(hg:g=W.heap.size)(hw:w=W.alloc (.cells #[a,b,c] t)):∀i,i<[x,y,z].length->w.cell? ⟨g,i,none⟩=some ((λi:Nat=>if i=0 then a else if i=1 then b else c) i):=by
 subst hg hw;intro i hi;have:i=0\/i=1\/i=2:=Gd;obtain rfl|rfl|rfl:=this<;>simp
def ajv{a b:Value}(hx:PE w (·<B) x a)(hy:PE w (·<B) y b):∀i(h:i<[x,y].length),PE w (·<B) [x,y][i]<|(λi:Nat=>if i=0 then a else b) i:=yG
def ajw{a b c:Value}(hx:PE w (·<B) x a)(hy:PE w (·<B) y b)(hz:PE w (·<B) z c):∀i(h:i<[x,y,z].length),PE w (·<B) [x,y,z][i]<|(λi:Nat=>if i=0 then a else if i=1 then b else c) i:=yG
def Ew{p:Prop}(h:p:=by
 have X2:=X1.af VX;rw[Yt aK];simp only[nn]at MJ;have HC:=ai<|QU (g:=w.heap.size+1) (sc:=2) (l:=l) (L:=[x,y]) (λq hq=>LL q hq) X2.d hB Bw ag ⟨ae,ae⟩ (agC ag rfl) (ajv ((hx.af cx).af VX)<|(hy.af cx).af VX) VS (λx=>qAv) HS hL;simp only[pk,ua,Nat.zero_add,Nat.reduceAdd]at HC;obtain⟨c1,f1,y1⟩:=uh B1;clear cx VX hx hy;go_enter func177,ntmps177;go_wp2_with fail;refine HC.mono ?_;rintro e w2⟨rfl,k2,d2⟩;have X3:=X2.fr k2 d2;clear k2 d2 HC
 go_wp2
 go_end0
 exact⟨rfl,X3.k,X3.d⟩):p:=h
def Ex{p:Prop}(h:p:=by
 go_wp2
 go_end0
 exact⟨rfl,X3.k,X3.d⟩):p:=h
def agE:∀nd,PXC nd:=by
 refine Nd.ind ?_;intro k s n L fr t a LL w cb tb mb lb B ty mk lo f v l h hB Bw hx VS MJ hs;have HS:=ai hs.part;have hL:=hs.len.1;have X0:CE cb tb mb lb ty mk lo w f w:=⟨h,Fr.refl _ _⟩;have⟨z1,z2,z3,z4⟩:=h.lts;have zP:∀b,b<B->¬(b=cb\/b=lb):=λb hb q=>ae;clear h hs
 cases hx with
 |low _ _ _ _ _ iO=>
  have⟨cx,B1⟩:=sf w #[Nv fr,Nv t,Sv s] 356;have X1:=X0.af cx;rw[show dN ty mk (.mk 1 s n [] fr t a) l f=bm (!fU s l) 5 fr t f by unfold dN;rfl];obtain⟨N,hN⟩:∃N,Hid<|N=lo s:=⟨_,ai rfl⟩;have xQ:∀q,(Instr.lookup 209 (Mv lb) (Sv s) false).run q9 ((w.alloc<|Cv #[Nv fr,Nv t,Sv s] 356).drewN q)=.ok (Nv N) ((w.alloc<|Cv #[Nv fr,Nv t,Sv s] 356).drewN q):=λq=>by
   have:=(X1.af<|(qt _ _).drewN q).d.l.look s;rw[<-uh hN]at this;exact this
  have HE:((N:Int)==0)= !fU s l:=(by
   cases hq:fU s l with
   |true=>have:=(VS s).2<|QW.1 hq;have h2:=uh hN;simp;omega|false=>
    have h1:lo s=0:=by
     apply xj;intro e;exact Ee.1 hq<|(VS s).1 e
    have h2:=uh hN
    simp;omega)
  have⟨c1,f1,y1⟩:=uh B1;have⟨c2,f2,y2⟩:=X1.d.bx;clear cx
  cases r_:fU s l with
  |true=>
   rw[r_]at HE;have hE':=HE;go_enter func177,ntmps177
   go_wp2
   go_quiet(fail)
   go_wp2
   go_end0;exact⟨rfl,(X1.af<|(qt _ _).drewN _).k,(X1.af<|(qt _ _).drewN _).d⟩
  |false=>
   rw[r_]at HE;have hE':=HE;have HC:=λq=>ai<|qU (X1.af<|(Below.refl _ _).drewN q).d 5 fr t;go_enter func177,ntmps177
   go_wp2
   go_quiet(fail);go_wp2_with fail;refine(uh<|HC _).mono ?_;rintro e w2⟨rfl,k2,d2⟩;have X2:=(X1.af<|(qt _ _).drewN _).ke k2 d2;clear k2 d2 HC
   go_wp2
   go_end0;exact⟨rfl,X2.k,X2.d⟩
 |up _ _ _ _ _ iO=>
  have⟨cx,B1⟩:=sf w #[Nv fr,Nv t,Sv s] 390;have X1:=X0.af cx;rw[show dN ty mk (.mk 2 s n [] fr t a) l f=bm (mk s).isNone 5 fr t f by unfold dN;rfl];have⟨c1,f1,y1⟩:=uh B1;have⟨c2,f2,y2⟩:=X1.d.bx;obtain⟨b,hb⟩:∃b,Hid<|b=(mk s).isSome:=⟨_,ai rfl⟩;have HB:=show(mk s).isNone= !b by rw[uh hb];cases mk s<;>rfl
  clear cx;go_enter func177,ntmps177
  go_wp2
  go_region_with(go_at_call 240;refine(Qr (v:=Mv mb) (qd ⟨mb,rfl,(X1.af (qt _ _).drew).d.m⟩) s).mono ?_;rintro e w2⟨rfl,rfl⟩;rw[<-uh hb])
  all_goals(
   cases b with
   |true=>
    go_wp2
    go_end0;exact⟨rfl,(X1.af (qt _ _).drew).k,by rw[HB];exact(X1.af (qt _ _).drew).d⟩
   |false=>
    have HC:=ai<|qU (X1.af (qt _ _).drew).d 5 fr t;go_wp2_with fail;refine HC.mono ?_;rintro e w2⟨rfl,k2,d2⟩;have X2:=(X1.af (qt _ _).drew).ke k2 d2;clear k2 d2 HC
    go_wp2
    go_end0
    exact⟨rfl,X2.k,by rw[HB];exact X2.d⟩)
 |pr _ _ x y _ _ _ vx vy hx hy=>
  obtain⟨t1,x1,rfl⟩:=hx.iface;obtain⟨t2,x2,rfl⟩:=hy.iface;have⟨cx,B1⟩:=sf w #[Nv fr,Nv t,Fv t1<|Av x1,Fv t2<|Av x2] 309;have X1:=X0.af cx;have VX:Bq (w.alloc<|Cv #[Nv fr,Nv t,Fv t1<|Av x1,Fv t2<|Av x2] 309) ((w.alloc<|Cv #[Nv fr,Nv t,Fv t1<|Av x1,Fv t2<|Av x2] 309).alloc<|Cv #[Fv t1<|Av x1,Fv t2<|Av x2] 140):=bw _;exact Ew
 |op _ _ x y _ _ _ vx vy ho hx hy=>
  obtain⟨t1,x1,rfl⟩:=hx.iface;obtain⟨t2,x2,rfl⟩:=hy.iface;have⟨cx,B1⟩:=sf w #[Nv fr,Nv t,Sv s,Fv t1<|Av x1,Fv t2<|Av x2] 297;have X1:=X0.af cx;have VX:Bq (w.alloc<|Cv #[Nv fr,Nv t,Sv s,Fv t1<|Av x1,Fv t2<|Av x2] 297) ((w.alloc<|Cv #[Nv fr,Nv t,Sv s,Fv t1<|Av x1,Fv t2<|Av x2] 297).alloc<|Cv #[Fv t1<|Av x1,Fv t2<|Av x2] 140):=bw _;exact Ew
 |call _ _ x y _ _ _ vx vy hx hy=>
  obtain⟨t1,x1,rfl⟩:=hx.iface;obtain⟨t2,x2,rfl⟩:=hy.iface;have⟨cx,B1⟩:=sf w #[Nv fr,Nv t,Fv t1<|Av x1,Fv t2<|Av x2] 319;have X1:=X0.af cx;have VX:Bq (w.alloc<|Cv #[Nv fr,Nv t,Fv t1<|Av x1,Fv t2<|Av x2] 319) ((w.alloc<|Cv #[Nv fr,Nv t,Fv t1<|Av x1,Fv t2<|Av x2] 319).alloc<|Cv #[Fv t1<|Av x1,Fv t2<|Av x2] 140):=bw _;exact Ew
 |ite _ _ x y z _ _ _ vx vy vz hx hy hz=>
  obtain⟨t1,x1,rfl⟩:=hx.iface;obtain⟨t2,x2,rfl⟩:=hy.iface;obtain⟨t3,x3,rfl⟩:=hz.iface;have⟨cx,B1⟩:=sf w #[Nv fr,Nv t,Fv t1<|Av x1,Fv t2<|Av x2,Fv t3<|Av x3] 317;have X1:=X0.af cx;have VX:Bq (w.alloc<|Cv #[Nv fr,Nv t,Fv t1<|Av x1,Fv t2<|Av x2,Fv t3<|Av x3] 317) ((w.alloc<|Cv #[Nv fr,Nv t,Fv t1<|Av x1,Fv t2<|Av x2,Fv t3<|Av x3] 317).alloc<|Cv #[Fv t1<|Av x1,Fv t2<|Av x2,Fv t3<|Av x3] 140):=bw _;have X2:=X1.af VX;rw[Yt aK];simp only[nn]at MJ;have HC:=ai<|QU (g:=w.heap.size+1) (sc:=3) (l:=l) (L:=[x,y,z]) (λq hq=>LL q hq) X2.d hB Bw ag ⟨ae,ae⟩ (agD ag rfl) (ajw ((hx.af cx).af VX) ((hy.af cx).af VX)<|(hz.af cx).af VX) VS (λx=>qAv) HS hL;simp only[pk,ua,Nat.zero_add,Nat.reduceAdd]at HC;have⟨c1,f1,y1⟩:=uh B1;clear cx VX hx hy hz;go_enter func177,ntmps177;go_wp2_with fail;refine HC.mono ?_;rintro e w2⟨rfl,k2,d2⟩;have X3:=X2.fr k2 d2;clear k2 d2 HC;exact Ex
 |of _ _ x y _ _ _ vx vy hx hy=>
  obtain⟨t1,x1,rfl⟩:=hx.iface;obtain⟨t2,x2,rfl⟩:=hy.iface;have⟨cx,B1⟩:=sf w #[Nv fr,Nv t,Fv t1<|Av x1,Fv t2<|Av x2] 311;have X1:=X0.af cx;rw[agi];simp only[nn,b8]at MJ;have HY:=hy.af cx;have HC:=ai<|LL x ag _ cb tb mb lb B ty mk lo f _ l X1.d hB Bw (hx.af cx) VS (λx=>qAv)<|HS x ag;have⟨c1,f1,y1⟩:=uh B1;clear cx hx hy;go_enter func177,ntmps177;go_wp2_with fail;refine HC.mono ?_;rintro e w2⟨rfl,k2,d2⟩;have X2:=X1.fr k2 d2;have B2:=ai<|B1.fr k2<|λq=>ae;have HY2:=HY.Qy k2 zP;have qV:=IQ y _ cb tb mb lb B ty mk lo _ _ (.map none) (λ_=>none) [] X2.d hB HY2 (Or.inl ⟨rfl,rfl⟩) (λb q=>lI) (λs _=>by simp[fU])<|uh HS y ag;clear k2 d2 HC c1 f1 y1;have⟨c1,f1,y1⟩:=uh B2;go_wp2_with fail;refine qV.mono ?_;rintro e w3⟨rfl,k3,d3⟩;have X3:=X2.ke k3 d3;clear k3 d3 qV;exact Ex
 |fn _ _ x _ _ _ y vx iO hy hx=>
  obtain⟨t1,x1,rfl⟩:=hx.iface;have⟨cx,B1⟩:=sf w #[Nv fr,Nv t,Nv a,Nv y,Sv s,Fv t1<|Av x1] 313;have X1:=X0.af cx;have BB:=B1;rw[ajb];simp only[nn,b8]at MJ;have HX:=hx.af cx;have HE:=LL x ag;have HSX:=HS x ag;have⟨c1,f1,y1⟩:=uh B1;clear cx hx hy;go_enter func177,ntmps177
  go_wp2
  go_region_with(first
   |(go_at_call 176;refine(Y_ _ _ _).mono ?_;rintro e w1⟨gb,rfl,hgb,b1,g1⟩;have hb:=(qt _ _).drew.trans<|b1.mono<|br _;have Y1:=ai<|X1.af hb;have Q1:=ai<|HX.af hb;have G1:=ai g1;have C1:=ai<|BB.below hb;have aju:w.heap.size+1<=gb:=(by have:=hgb;simp at this;omega);have⟨c3,f3,y3⟩:=uh C1;clear hb b1 g1 hgb)
   |(go_at_call 175;refine(sH (l:=l) HE Y1.d hB Bw Q1 G1 ⟨ae,ae,ae,ae⟩ VS (λx=>qAv) HSX).mono ?_;rintro e w2'⟨rfl,k2,d2⟩;have X2:=ai<|Y1.fr k2 d2;clear k2 d2))
  all_goals(
   go_wp2
   go_end0
   exact⟨rfl,X2.k,X2.d⟩)
 |lt _ _ _ x z _ _ _ y vx vz hc iO hy hx hz=>
  obtain⟨t1,x1,rfl⟩:=hx.iface;obtain⟨t2,x2,rfl⟩:=hz.iface
  have HRR:=ai (show dN ty mk (.mk k s n [x,z] fr t a) l f=dN ty mk z (l++[s]) (dN ty mk x (if(k==11)=true then l++[s]else l) f) by
   obtain rfl|rfl:=hc
   .rw[agf];rfl
   .rw[agh];rfl)
  rw[uh HRR];obtain⟨rr,hrr⟩:∃rr,rr=(k==11):=⟨_,rfl⟩;rw[<-hrr];obtain⟨fz,HFZ⟩:∃fz,Hid<|fz=dN ty mk x (if rr=true then l++[s]else l) f:=⟨_,ai rfl⟩;rw[<-uh HFZ];clear HRR hrr;have⟨cx,B1⟩:=sf w #[Nv fr,Nv t,.bool rr,Nv a,Nv y,Sv s,Fv t1<|Av x1,Fv t2<|Av x2] 315;have X1:=X0.af cx;simp only[nn,b8]at MJ;have HZ:=hz.af cx;have HC:=ai<|QV (l:=l) (LL x ag) X1.d hB Bw (hx.af cx) VS (λx=>qAv) (HS x ag) rr (a:Int) (y:Int) s;rw[<-uh HFZ]at HC;have HE:=LL z ag;have HSX:=HS z ag;have⟨c1,f1,y1⟩:=uh B1;clear cx hx hy hz;go_enter func177,ntmps177;go_wp2_with fail;refine HC.mono ?_;rintro e w2⟨rfl,k2,d2⟩;have X2:=X1.fr k2 d2;have BB:=ai<|B1.fr k2<|λq=>ae;have HZ2:=HZ.Qy k2 zP;have hw2:=k2.size;clear k2 d2 HC c1 f1 y1;have⟨c1,f1,y1⟩:=uh BB
  go_wp2
  go_region_with(first
   |(go_at_call 176;refine(Y_ _ _ _).mono ?_;rintro e w1⟨gb,rfl,hgb,b1,g1⟩;have hb:=(qt _ _).drew.trans<|b1.mono<|br _;have Y1:=ai<|X2.af hb;have Q1:=ai<|HZ2.af hb;have G1:=ai g1;have C1:=ai<|BB.below hb;have aju:w.heap.size+1<=gb:=(by have:=hgb;have h3:=hw2;simp at this h3;omega);have⟨c3,f3,y3⟩:=uh C1;clear hb b1 g1 hgb)
   |(go_at_call 175;refine(sH (l:=l) HE Y1.d hB Bw Q1 G1 ⟨ae,ae,ae,ae⟩ VS (λx=>qAv) HSX).mono ?_;rintro e w2'⟨rfl,k2,d2⟩;have X3:=ai<|Y1.fr k2 d2;clear k2 d2))
  all_goals(
   go_wp2
   go_end0
   exact⟨rfl,X3.k,X3.d⟩)
 |mt _ _ x A _ _ _ vx g sc vp ve h0 hg hz hc hx hp he=>
  obtain⟨t1,x1,rfl⟩:=hx.iface;have⟨cx,B1⟩:=sf w #[Nv fr,Nv t,Fv t1<|Av x1,Lv (some ⟨g,0,none⟩) A.length sc] 201;have X1:=X0.af cx;rw[agj];simp only[nn,b8]at MJ;have Yo:=hg;have hAL:A.length<=1000:=by simp only[pk]at hL;rw[CH]at hL;omega
  have HC:=ai<|LL x ag _ cb tb mb lb B ty mk lo f _ l X1.d hB Bw (hx.af cx) VS (λx=>qAv)<|HS x ag;have⟨c1,f1,y1⟩:=uh B1
  have HIA:∀q∈A,PXC q.2:=(λq hq=>by
   obtain⟨i,hi,rfl⟩:=jm hq
   exact LL _<|List.mem_cons_of_mem _ (Ef A i hi).2)
  clear cx hx;go_enter func177,ntmps177;go_wp2_with fail;refine HC.mono ?_;rintro e w2⟨rfl,k2,d2⟩;have X2:=X1.fr k2 d2;have B2:=ai<|B1.fr k2<|λq=>ae;have l8:∀o,w2.cell? ⟨g,o,none⟩=w.cell? ⟨g,o,none⟩:=λo=>World.cell?_of_block (a:=⟨g,o,none⟩)<|X2.k.block g hz<|zP g Yo;have qV:=agk (l:=l) (sc:=sc) (vp:=vp) (ve:=ve) HIA X2.d hB Bw Yo (Nat.lt_of_lt_of_le hz X2.k.size) (λi hi=>by rw[l8,l8,l8,l8];exact hc i hi) (λi hi=>(hp i hi).Qy X2.k zP) (λi hi=>(he i hi).Qy X2.k zP) VS (λq=>by have:=MJ q;have:=uF x;omega) (λq hq=>HS q<|List.mem_cons_of_mem _ hq) hAL;clear k2 d2 HC c1 f1 y1 l8;have⟨c1,f1,y1⟩:=uh B2;go_wp2_with fail;refine qV.mono ?_;rintro e w3⟨rfl,k3,d3⟩;have X3:=X2.fr k3 d3;clear k3 d3 qV;exact Ex
 |_=>
  rw[Yt aK,show gY ty mk [] l f=f by unfold gY;rfl];go_enter func177,ntmps177
  go_wp2
  go_end0;exact⟨rfl,X0.k,X0.d⟩
end
section
open Go.ChangeMaps
def Y'{d:M Dc}(h:a_ (tk T k) qC=true\/a_ (tk T k) ul=true):cU T d (f+1) l k=aN d (λx=>cU T d f<|l++[x]) k:=by grind[a_,tk,cU,aN]
def Uv{d:M Dc}(h:a_ (tk T k) qC=false)(h':a_ (tk T k) ul=false):cU T d f l k=.ok (l,k):=by
 cases f with
 |zero=>rfl|succ f=>unfold cU;rw[h,h'];rfl
def vZ(T:List jx)(d:M Dc):∀f l,aR T<|cU T d f l
 |0,l=>λk h=>cV _ h|f+1,l=>λk h=>by unfold cU;rw[ed h,ed h,if_neg ag];exact cV _ h
theorem Za{mk}(hm:mH mk):mH (C5 T mk):=λk a k' h=>by
 rw[C5]at h;have⟨_,k1,h1,h2⟩:=aw h;have⟨_,k2,h3,h4⟩:=aw h2;have⟨_,k3,h5,h6⟩:=aw h4;have⟨_,k4,h7,h8⟩:=aw h6;have⟨_,k5,h9,h10⟩:=aw h8;have⟨_,k6,h11,h12⟩:=aw h10
 cases h12
 have:=bz _ _ _ _ h1;have:=eH _ _ _ _ h3;have:=zZ _ _ _ _ _ _ h5;have:=bz _ _ _ _ h7;have:=v_ hm _ _ _ _ _ h9;have:=bz _ _ _ _ h11;omega
theorem Zb{e}(hm:mH e):mH (Ji T e):=λk a k' h=>by
 rw[Ji]at h;have⟨_,k1,h1,h2⟩:=aw h;have⟨_,k2,h3,h4⟩:=aw h2
 cases h4
 have:=C8 hm _ _ _ h1;have:=bz _ _ _ _ h3;omega
def Zc(T:List jx)n:mH (fI T n):=by grind[mH,fI,Za,uG,cz,da,Zb,jW]
def QD:EQ Dc:=λw P d c=>PD w P d<|c 0
def bL:gw QD:=by grind[gw,QD,PD.move]
def Zd:(Tryz.prog.info? 129).map (λi=>(i.zero,i.size,i.bytes))=some (some .nilIface,1,16):=qkr
def Nu:Tryz.prog.underlying 58=some (.slice 129):=qkr
def ac0 w:(zeroValue 283).run q9 w=.ok .nilFunc w:=qkr
def agF w P l v:=RowV QD 1 w P l v
section
variable {N rb sb:Nat} {m:MV}
def SX.decl(h:SX w N rb sb m s k)(hb:m.a=Mv b):MS Value.string w b (Jj rb):=by
 have⟨b',e,_,_,hM⟩:=h.ev.mp.d;rw[hb]at e
 cases e
 exact hM
def SX.ma(h:SX w N rb sb m s k):∃b,m.a=Mv b:=by
 have⟨b',e,_,_,hM⟩:=h.ev.mp.d;exact⟨b',e⟩
def Nw(hs:s.size<=1000)(hT:(jv s 0).length<=1001)(h:SX w N rb sb m s k)(hn:(jv s 0).length<=k+1+n)(hmd:m.a=Mv b):
 Cq 98 #[rp rb,Mv b] w (ap agF N rb sb m s (cU (jv s 0) (fI (jv s 0) n) (jv s 0).length [] k) w):=by
 obtain⟨r,hr⟩:∃r,r=cU (Pu.bH s 0) (fI (Pu.bH s 0) n) (Pu.bH s 0).length [] k:=⟨_,rfl⟩;rw[<-hr];have H:=cA.at h hr;clear h hr;go_enter func98,ntmps98
 go_wp2
 go_loopg[5] ((jv s 0).length-k) (λgk v wr=>Ey (λ_=>True) QD 129 1 N rb sb m s k w r (λf L _=>cU (jv s 0) (fI (jv s 0) n) f L) gk v wr)
 case atStart=>exact⟨k,[],(jv s 0).length,none,0,0,rfl,trivial,H.row bL (dw.nil _ _ _ _ _) ⟨br _,.inl rfl⟩,ai rfl,br _,ag,ae⟩
 case round=>
  clear H;obtain⟨kr,L,f,va,vc,_,rfl,-,H,cR,hle,hLl,hfu⟩:=hrel;have hM:=H.sx.decl hmd;have hl:=eh hM Tryz.underlying232 (ac0 wr)<|aq<|tk (jv s 0) kr;have Ze:=H.sx.lt;have zw:=H.ke.size;have Zf:=H.p.block;have⟨c,ff,z⟩:=H.sx.bx;have Y:(a_ (tk (jv s 0) kr) qC=false/\a_ (tk (jv s 0) kr) ul=false)\/∃F,(∀args w,(callFunc F args).run q9 w=.ok (.enter F args) w)/\aX (aq<|tk (jv s 0) kr) (Jj rb)=some (oI F rb)/\Cq F #[rp rb] wr (ap PD N rb sb m s ((fI (jv s 0) n) kr) wr)/\(a_ (tk (jv s 0) kr) qC=true\/a_ (tk (jv s 0) kr) ul=true):=by
   cases n0:a_ (tk (jv s 0) kr) qC
   .cases n1:a_ (tk (jv s 0) kr) ul
    .exact .inl ⟨rfl,rfl⟩
    .exact .inr ⟨179,λ_ _=>qkr,by rw[gi n1];rfl,by rw[show(fI (jv s 0) n) kr=_ from if_neg (by simp[n0])];exact Uw hs (Zg hs hT n) H.sx ae,.inr rfl⟩
   .exact .inr ⟨178,λ_ _=>qkr,by rw[gi n0];rfl,by rw[show(fI (jv s 0) n) kr=_ from if_pos n0];exact Ny hs hT H.sx ae,.inl rfl⟩
  obtain⟨n0,n1⟩|⟨F,Zh,hg,HC,hb⟩:=Y
  .have H:=H.re (g':=λk=>.ok (L,k))<|Uv n0 n1;simp only[sR (L:=Jj rb) (eu s kr Ze) H.sx.ok (by simp[n0,n1];decide),kY]at hl
   go_wp2
   go_ret;exact H.done λR=>R.v bL
  .obtain⟨f,rfl⟩:∃f',f=f'+1:=⟨f-1,ae⟩;have H:=H.re<|Y' hb;simp only[hg,kY]at hl;clear hg hb;go_wp2_with fail;refine H.call HC ?_ (st:=λa=>vZ _ _ _ _);intro a k2 v w1 H q V;obtain⟨tv,xv,rfl⟩:=V.iface;have l2:=Zc _ _ _ _ _ q;clear HC c ff z hl hM q;go_wp2_with(at_builtin;go_must(refine H.append (D:=[Fv tv<|Av xv]) hT bL Zd Nu H.p.1 zw (λb e=>(Zf b e).2) (c:=λ_=>Fv tv<|Av xv) V ae ?_;intro q3 c3 w3 H));go_roundg((jv s 0).length-k2)
   case measure=>rw[uh cR];omega
   case rel=>exact⟨k2,L++[a],f,_,c3,0,ag,trivial,H,ai rfl,ae,bB,ae⟩
def ajx w P l(v:Value):=∃u,v=.agg #[u]/\RowV QD 1 w P l u
def Ux(hs:s.size<=1000)(hT:(jv s 0).length<=1001)(h:SX w N rb sb m s k)(hn:(jv s 0).length<=k+1+n):
 Cq 67 #[rp rb] w (ap ajx N rb sb m s (cU (jv s 0) (fI (jv s 0) n) (jv s 0).length [] k) w):=by
 obtain⟨b,hma⟩:=h.ma;have hz:=h.z;have hNw:=h.ev.hN;have⟨b0,B0⟩:=nK w #[.slice none 0 0] 60;have HC:=Nw (n:=n) hs hT (h.af b0) hn hma;obtain⟨c,f,z⟩:=(h.af b0).bx;go_enter func67,ntmps67;go_wp2_with fail;refine HC.mono ?_;intro e w1 hp
 cases hA:fin (jv s 0) (cU (jv s 0) (fI (jv s 0) n) (jv s 0).length [] k)with
 |error f=>
  obtain⟨rfl,hb⟩:=hp.bad hA;exact⟨rfl,ap.fail ((Ke.of b0).trans hb) hA⟩
 |ok rr=>
 obtain⟨l,k1⟩:=rr;obtain⟨v,rfl,hb,S1,hR⟩:=hp.ok hA;have RV:=(RowV.move hR bL (br _) (λ_ _ _=>rfl)<|λb p _=>by simpa using p);obtain⟨va,vc,cs,rfl,_,_⟩:=hR;have B1:=ai (B0.sG hb<|by omega);have K1:=(Ke.of b0).trans hb;have HE:=ai (q_ hA).1;obtain⟨c,f,z⟩:=uh B1;go_wp2_with fail;obtain⟨cF,fF,zF⟩:=B1.aP 0 (.slice va l.length vc) #[.slice va l.length vc] rfl (by simp);exact bodyPost_ret (v:=.agg #[.slice va l.length vc]) (by simp[results,Tryz.results67,go_sem,cF]) rfl (ap.done HE (K1.om (br _) 0 _) (S1.set (b:=w.heap.size) hNw 0 _) ⟨_,rfl,(RV.tX bL (b:=w.heap.size) (λc p=>by have p':w.heap.size+1<=c:=p;omega) 0 _).move bL (br _) (λ_ _ _=>rfl) (λb p _=>by have p':w.heap.size+1<=b:=p;show w.heap.size<=b;omega)⟩)
end
end
section
open Go.ChangeMaps Go.MapKept
section
variable {F:BA->Option Nat} {wr w1:World} {f:Fl}
def FM.agG{c}(h:FM w b F)(o:One c w w')(hn:b≠c):FM w' b F:=h.same<|o.block b hn
def uH(h:CK w cb tb mb lb ty mk lo f)(hk:FM w kb F)(hn:kb≠cb)a b n s:
 Cq 173 #[cp cb,Mv kb,.agg #[Nv a,Nv b,.string s],Nv n] w λe w'=>e=.returned (.tuple #[])/\∃w1,Ke cb w w1/\CK w1 cb tb mb lb ty mk lo (bm (F s).isSome 4 a b f)/\One kb w1 w'/\FM w' kb (fS F s n):=by
 have⟨cx,B1⟩:=sf w #[Nv a,Nv b,Sv s] 133;have D1:=h.af cx;have K1:=Ke.of (rb:=cb) cx;have M1:=hk.below cx;have HC:=Qr (v:=Mv kb) (Or.inr ⟨kb,rfl,M1⟩) s;have hz:=h.z;have⟨c1,f1,y1⟩:=uh B1;go_enter func173,ntmps173;go_wp2_with fail;refine HC.mono ?_;rintro e w2⟨rfl,rfl⟩
 cases hF:(F s).isSome with
 |true=>
  have qV:=qU D1 4 a b;go_wp2_with fail;refine qV.mono ?_;rintro e w3⟨rfl,k3,D3⟩;have K3:=K1.trans k3;have B3:=ai<|B1.sG k3 ae;have⟨L,HM,HL⟩:=M1.ke k3 hn;have⟨c1,f1,y1⟩:=uh B3;go_wp2_with(refine aT _ rfl _ _ _ _ (qd rfl) (KL.str xf) xd _ _ rfl HM s (Nv n) rfl rfl trivial (λ_ _=>trivial) ?_;intro w4 H' O';have M4:=ai H';have O4:=ai O';clear H' O');go_end0;exact⟨rfl,_,K3,D3,O4,_,M4,FM.put HL s n⟩
 |false=>
  obtain⟨L,HM,HL⟩:=M1;go_wp2_with(refine aT _ rfl _ _ _ _ (qd rfl) (KL.str xf) xd _ _ rfl HM s (Nv n) rfl rfl trivial (λ_ _=>trivial) ?_;intro w4 H' O';have M4:=ai H';have O4:=ai O';clear H' O');go_end0;exact⟨rfl,_,K1,D1,O4,_,M4,FM.put HL s n⟩
def CK.ajy(h:CK w1 cb tb mb lb ty mk lo f)(o:One tb w1 w')(m:FM w' tb F):CK w' cb tb mb lb F mk lo f:=
 ⟨h.bx.one o h.ct,m,h.m.agG o h.tm.symm,h.l.same<|o.block lb h.tl.symm,h.ct,h.cm,h.cl,h.tm,h.tl,h.ml⟩
def CK.ajz(h:CK w1 cb tb mb lb ty mk lo f)(o:One mb w1 w')(m:FM w' mb F):CK w' cb tb mb lb ty F lo f:=
 ⟨h.bx.one o h.cm,h.t.agG o h.tm,m,h.l.same<|o.block lb h.ml.symm,h.ct,h.cm,h.cl,h.tm,h.tl,h.ml⟩
end
end
inductive eA(T:List jx)(e:Nat):Nat->Nat->Nat->Nd->Prop where
 |leaf{s k:Nat}:(s=1\/s=2\/s=3)->k+1<=e->aF (tk T k) s=true->a_ (tk T k) qB=false->eA T e s k (k+1) (bS<|tk T k)
 |unit{s k:Nat}:(s=2\/s=3)->k+2<=e->eA T e s k (k+2) (.mk 5 fX 0 [] (tk T k).al (aE T<|k+2) (tk T k).al)
 |par{s k j:Nat}{x:Nd}:eA T e s (k+1) j x->j+1<=e->eA T e s k (j+1) x
 |two{c s s' k i j:Nat}{x y:Nd}:(c=6/\s'=s/\(s=1\/s=2\/s=3)\/c=14/\s=3/\s'=1)->eA T e s (k+1) i x->eA T e s' (i+1) j y->j+1<=e->eA T e s k (j+1) (.mk c fX 0 [x,y] (tk T k).al (aE T<|j+1) (tk T k).al)
 |nm{s k:Nat}:(tk T k).kind=2->k+1<=e->eA T e (s+10) k (k+1) (.mk 2 (tk T k).text 0 [] (tk T k).al (tk T k).to (tk T k).al)
 |add{s k i j:Nat}{x y:Nd}:eA T e (s+10) k i x->eA T e s i j y->eA T e (s+10) k j (x.add y<|aE T j)
 |up{s k j:Nat}{x:Nd}:(s=1\/s=2)->eA T e (s+10) k j x->eA T e s k j x
 |arr{k i j:Nat}{x y:Nd}:eA T e 1 k i x->eA T e 1 (i+1) j y->eA T e 1 k j (.mk 17 fX 0 [x,y] (tk T k).al (aE T j) (tk T k).al)
 |call{k i j:Nat}{x y:Nd}:eA T e 3 k i x->eA T e 3 i j y->eA T e 3 k j (.mk 8 fX 0 [x,y] (tk T k).al (aE T j) (tk T k).al)
 |op{s:BA}{k i j:Nat}{x y:Nd}:(s=iu\/s=dW\/s=gq\/s=dX)->eA T e 3 k i x->eA T e 3 (i+1) j y->eA T e 3 k j (.mk 7 s 0 [x,y] (tk T k).al (aE T j) (tk T k).al)
 |fn{k j:Nat}{x:Nd}:(tk T<|k+1).kind=1->eA T e 3 (k+3) j x->eA T e 4 k j (.mk 9 (tk T<|k+1).text 0 [x] (tk T k).al (aE T j) (tk T<|k+1).al)
 |ex{k j:Nat}{x:Nd}:eA T e 4 k j x->eA T e 3 k j x
 |lt{k i j:Nat}{x z:Nd}:(tk T<|k+1).kind=1->eA T e 3 (k+3) i x->eA T e 3 (i+1) j z->eA T e 3 k j (.mk 10 (tk T<|k+1).text 0 [x,z] (tk T k).al (aE T j) (tk T<|k+1).al)
 |ltr{k i j:Nat}{x z:Nd}:(tk T<|k+2).kind=1->eA T e 4 (k+4) i x->eA T e 3 (i+1) j z->eA T e 3 k j (.mk 11 (tk T<|k+2).text 0 [x,z] (tk T k).al (aE T j) (tk T<|k+2).al)
 |ite{k i j l:Nat}{x y z:Nd}:eA T e 3 (k+1) i x->eA T e 3 (i+1) j y->eA T e 3 (j+1) l z->eA T e 3 k l (.mk 12 fX 0 [x,y,z] (tk T k).al (aE T l) (tk T k).al)
 |ar0{k i:Nat}{x:Nd}:eA T e 3 (k+1) i x->i+1<=e->eA T e 5 k (i+1) (.mk 13 fX 0 [x] (tk T k).al (aE T<|i+1) (tk T k).al)
 |ar{k i j q q':Nat}{l:List Nd}{p x:Nd}:eA T e 5 k i (.mk 13 fX 0 l (tk T k).al (aE T i) (tk T k).al)->eA T e 2 i j p->eA T e 3 (j+1) q x->(q'=q\/q'=q+1/\q+1<=e)->eA T e 5 k q' (.mk 13 fX 0 (l++[p,x]) (tk T k).al (aE T q') (tk T k).al)
 |mt{k i:Nat}{l:List Nd}:eA T e 5 k i (.mk 13 fX 0 l (tk T k).al (aE T i) (tk T k).al)->l.length≠1->i+1<=e->eA T e 3 k (i+1) (.mk 13 fX 0 l (tk T k).al (aE T<|i+1) (tk T k).al)
mutual
def Bi(n:Nat):Nd->Prop
 |.mk k s _ L f t a=>f<t/\t<=n/\(k=2->a+s.size<=n)/\(k=16->f+s.size<=n)/\sS n L
def sS(n:Nat):List Nd->Prop
 |[]=>True|x::l=>Bi n x/\sS n l
end
def eA.le{s:Nat}(h:eA T e s k j a):k<j/\j<=e:=by induction h<;>omega
def pX(T:List jx)(e s:Nat)(m:M Nd):=∀k,k<=e->wa T (m k) (λa k'=>eA T e s k k' a)
def xZ(h:eI T e){s:Nat}(hs:s=1\/s=2\/s=3)(hp:pX T e s part)(ht:s=3->pX T e 1 Gf):pX T e s (aI T part Gf s):=by
 intro k hk;rw[aI];split
 .rename_i hb;have hk1:=h.step hk<|Zi hb;split
  .rw[gX];split
   .rename_i hc;exact .unit (by have:=hc.1;omega)<|h.step hk1 qBn
   .refine(hp (k+1) hk1).aN λx k1 p=>?_;rw[jQ];split
    .rename_i hc;refine(hp (k1+1)<|h.step p.le.2 qAc).aN λy k2 q=>?_;refine(uI h q.le.2 _).mono ?_;rintro a k3⟨rfl,rfl,r3⟩;exact .two (.inl ⟨rfl,rfl,hs⟩) p q r3
    .split
     .rename_i hc;refine(ht hc.1 (k1+1)<|h.step p.le.2 qBn).aN λy k2 q=>?_;refine(uI h q.le.2 _).mono ?_;rintro a k3⟨rfl,rfl,r3⟩;exact .two (.inr ⟨rfl,hc.1,rfl⟩) p q r3
     .refine(uI h p.le.2 _).mono ?_;rintro a k3⟨rfl,rfl,r3⟩;exact .par p r3
  .rename_i ho;exact .leaf hs hk1 hb (by simpa using ho)
 .exact fJ
def Ez{s i:Nat}{sm:M Nd}(hm:pX T e s sm):∀f x k,eA T e (s+10) i k x->wa T (dA T sm s f x k) (λa k'=>eA T e (s+10) i k' a)
 |0,x,k,hx=>hx|f+1,x,k,hx=>by
  unfold dA;split
  .exact(hm k hx.le.2).aN λy k1 p=>Ez hm f _ k1<|.add hx p
  .exact hx
def Zj(h:eI T e){s:Nat}(hs:s=1\/s=2)(hm:pX T e s (aI T part Gf s)):pX T e s (gN T (aI T part Gf s) s):=by
 intro k hk;rw[gN];split
 .rename_i h2;have Gb:(tk T k).kind=2:=by simpa using h2
  have hsm:aI T part Gf s k=.error (dc<|tk T k)\/aI T part Gf s k=.ok (bS<|tk T k,k+1):=by
   rw[aI];split
   .rw[if_neg (by rw[a_];simp[Gb])];exact qd rfl
   .exact qe rfl
  obtain q|q:=hsm
  .rw[aN];rw[q];exact fJ
  .rw[aN];rw[q];have hx:eA T e (s+10) k (k+1) (bS<|tk T k):=by
    rw[show bS (tk T k)=.mk 2 (tk T k).text 0 [] (tk T k).al (tk T k).to (tk T k).al by simp[bS,bu,Gb,eE]];exact .nm Gb (h.step hk (by rw[Gb];decide))
   exact(Ez hm T.length _ (k+1) hx).mono λa k'=>.up hs
 .exact hm k hk
def QX(h:eI T e):∀n,pX T e 1<|cP T n
 |0=>λk hk=>fJ|n+1=>λk hk=>by
  have ih:=QX h n;rw[cP];refine(Zj h (.inl rfl) (xZ h (.inl rfl) ih λ_=>ih) k hk).aN λx k1 p=>?_;rw[lA];split
  .rename_i hc;exact(ih (k1+1)<|h.step p.le.2 qAc).aN λy k2 q=>.arr p q
  .exact p
def ae2(h:eI T e):∀n,pX T e 2<|dY T n
 |0=>λk hk=>fJ|n+1=>λk hk=>by
  rw[dY];exact Zj h (.inr rfl) (xZ h (.inr<|.inl rfl) (ae2 h n) λq=>lI) k hk
def EA{F:Nat->Nd->M Nd}(hm:pX T e 3 sm)(hF:∀i x k,eA T e 3 i k x->wa T (F (tk T i).al x k) (λa k'=>eA T e 3 i k' a)):pX T e 3 (λk=>aN sm (F (tk T k).al) k):=
 λk hk=>(hm k hk).aN λx k1 p=>hF k x k1 p
def QY{sm:M Nd}(hm:pX T e 3 sm){i:Nat}:∀f x k,eA T e 3 i k x->wa T (jR T sm (tk T i).al f x k) (λa k'=>eA T e 3 i k' a)
 |0,x,k,hx=>hx|f+1,x,k,hx=>by
  unfold jR;split
  .exact(hm k hx.le.2).aN λy k1 p=>QY hm f _ k1<|.call hx p
  .exact hx
def QZ(h:eI T e){sm:M Nd}(hm:pX T e 3 sm){i:Nat}:∀f x k,eA T e 3 i k x->wa T (kU T sm (tk T i).al f x k) (λa k'=>eA T e 3 i k' a)
 |0,x,k,hx=>hx|f+1,x,k,hx=>by
  unfold kU;split
  .rename_i hc;exact(hm (k+1)<|h.step hx.le.2 qAc).aN λy k1 p=>QZ h hm f _ k1<|.op ag hx p
  .exact hx
def Zk(h:eI T e){sm:M Nd}(hm:pX T e 3 sm){i:Nat}:∀f x k,eA T e 3 i k x->wa T (sw T sm (tk T i).al f x k) (λa k'=>eA T e 3 i k' a)
 |0,x,k,hx=>hx|f+1,x,k,hx=>by
  unfold sw;split
  .rename_i hc;have h5:=hc.elim Ix Ix;exact(hm (k+1)<|h.step hx.le.2 (by rw[h5];decide)).aN λy k1 p=>Zk h hm f _ k1 (.op (by obtain q|q:=hc<;>rw[Zl q]<;>simp) hx p)
  .exact hx
def ajA(h:eI T e)(hm:pX T e 3 sm):pX T e 3 (wW T<|gu T<|dt T sm):=
 have h1:=EA (F:=λfr=>jR T sm fr T.length) hm λi x k=>QY hm T.length x k;have h2:=EA (F:=λfr=>kU T (dt T sm) fr T.length) h1 λi x k=>QZ h h1 T.length x k
 EA (F:=λfr=>sw T (gu T<|dt T sm) fr T.length) h2 λi x k=>Zk h h2 T.length x k
def agH(h:eI T e)(hm:pX T e 3 sm):pX T e 3 (sC T sm):=by
 intro k hk;rw[sC];refine(hm k hk).aN λx k1 p=>?_;show wa T (if _ then _ else _) _;split
 .rename_i hc;exact(hm (k1+1)<|h.step p.le.2 qAc).aN λy k2 q=>.op ag p q
 .exact p
def ae3(h:eI T e){ex:M Nd}(hm:pX T e 3 ex):pX T e 4 (uq T ex):=by
 intro k hk;rw[uq];refine(bX h hk MU).aN ?_;rintro _ k1⟨rfl,p1⟩;refine(oJ h p1 1 aK).aN ?_;rintro t k2⟨rfl,t1,rfl,p2⟩;refine(bX h p2 mS).aN ?_;rintro _ k3⟨rfl,p3⟩;exact(hm _ p3).aN λx k4 q=>.fn t1 q
def BdD(T:List jx)(e k:Nat)(b:Nat×jx×Nd)(j:Nat):=(b.1=10/\b.2.1=tk T (k+1)/\(tk T<|k+1).kind=1/\eA T e 3 (k+3) j b.2.2)\/(b.1=11/\b.2.1=tk T (k+2)/\(tk T<|k+2).kind=1/\eA T e 4 (k+4) j b.2.2)
def BdD.le{k j:Nat}{b:Nat×jx×Nd}(h:BdD T e k b j):k+3<j/\j<=e:=by
 obtain⟨_,_,_,q⟩|⟨_,_,_,q⟩:=h<;>have:=q.le<;>omega
def Q0(h:eI T e){ex:M Nd}(hm:pX T e 3 ex)(hk:k<=e):wa T (cy T ex k) (BdD T e k):=by
 rw[cy];refine(bX h hk ul).aN ?_;rintro _ k1⟨rfl,p1⟩;show wa T (if _ then _ else _) _;split
 .rename_i hc;refine(oJ h (h.step p1 qAc) 1 aK).aN ?_;rintro t k2⟨rfl,t1,rfl,p2⟩;refine(bX h p2 Qh).aN ?_;rintro _ k3⟨rfl,p3⟩;exact(ae3 h hm _ p3).aN λx k4 q=>.inr ⟨rfl,rfl,t1,q⟩
 .refine(oJ h p1 1 aK).aN ?_;rintro t k2⟨rfl,t1,rfl,p2⟩;refine(bX h p2 Qh).aN ?_;rintro _ k3⟨rfl,p3⟩;exact(hm _ p3).aN λx k4 q=>.inl ⟨rfl,rfl,t1,q⟩
def Zm(h:eI T e){ex:M Nd}(hm:pX T e 3 ex):pX T e 3 (pA T ex):=by
 intro k hk;rw[pA];refine(bX h hk kIf).aN ?_;rintro _ k1⟨rfl,p1⟩;refine(hm _ p1).aN λx k2 a=>?_;refine(bX h a.le.2 aeM).aN ?_;rintro _ k3⟨rfl,p3⟩;refine(hm _ p3).aN λy k4 b=>?_;refine(bX h b.le.2 aeN).aN ?_;rintro _ k5⟨rfl,p5⟩;exact(hm _ p5).aN λz k6 c=>.ite a b c
def ajB(h:eI T e){ex:M Nd}(hm:pX T e 3 ex):pX T e 3 (qS T ex):=by
 intro k hk;rw[qS];refine(Q0 h hm hk).aN ?_;rintro⟨c,t,x⟩k1 b;refine(bX h b.le.2 kIn).aN ?_;rintro _ k2⟨rfl,p5⟩;refine(hm _ p5).aN λz k3 q=>?_;obtain⟨e1,e2,e3,e4⟩|⟨e1,e2,e3,e4⟩:=b<;>simp only at e1 e2 e4<;>subst e1 e2
 .exact .lt e3 e4 q
 .exact .ltr e3 e4 q
def Zn(h:eI T e){pa ex:M Nd}(hp:pX T e 2 pa)(hm:pX T e 3 ex){i:Nat}:∀f l k,f≠0->eA T e 5 i k (.mk 13 fX 0 l (tk T i).al (aE T k) (tk T i).al)->l≠[]->wa T (oq T pa ex f l k) (λl' k'=>eA T e 5 i k' (.mk 13 fX 0 l' (tk T i).al (aE T k') (tk T i).al)/\l'.length≠1)
 |f+1,l,k,_,hl,hn=>by
  rw[oq];refine(hp k hl.le.2).aN λp k1 a=>?_;refine(bX h a.le.2 mS).aN ?_;rintro _ k2⟨rfl,p2⟩;refine(hm _ p2).aN λx k3 b=>?_;have hz:(l++[p,x]).length≠1:=ag;show wa T (if _ then _ else _) _;split
  .rename_i hc;have hc':=h.step b.le.2 qAc
   cases f with
   |zero=>exact⟨.ar hl a b<|.inr ⟨rfl,hc'⟩,hz⟩|succ f=>exact Zn h hp hm (f+1) _ (k3+1) ag (.ar hl a b<|.inr ⟨rfl,hc'⟩) ag
  .exact⟨.ar hl a b<|.inl rfl,hz⟩
def ac1(h:eI T e){pa ex:M Nd}(hp:pX T e 2 pa)(hm:pX T e 3 ex):pX T e 3 (uv T pa ex):=by
 intro k hk;rw[uv];refine(bX h hk uo).aN ?_;rintro _ k1⟨rfl,p1⟩;refine(hm _ p1).aN λx k2 a=>?_;refine(bX h a.le.2 aeO).aN ?_;rintro _ k3⟨rfl,p3⟩;refine(Zn h hp hm T.length [x] _ (by have:=h.pos;omega) (.ar0 a p3) ag).aN ?_;rintro l k4⟨b1,b2⟩;refine(bX h b1.le.2 ai4).aN ?_;rintro _ k5⟨rfl,p5⟩;exact .mt b1 b2 p5
def Zo(h:eI T e):∀n,pX T e 3<|bR T n
 |0=>λk hk=>fJ|n+1=>λk hk=>by
  have ih:=Zo h n;unfold bR;split
  .exact(ae3 h ih k hk).mono λ_ _=>.ex
  split
  .exact Zm h ih k hk
  split
  .exact ac1 h (ae2 h n) ih k hk
  split
  .exact ajB h ih k hk
  .exact agH h (ajA h<|xZ h (.inr<|.inr rfl) ih λ_=>QX h n) k hk
def Ar3(nd:Nd):=∃x A f t a,nd=.mk 13 fX 0 (x::aU A) f t a/\iE x/\(∀p∈A,z_ p.1)/\∀p∈A,iE p.2
def Shp:Nat->Nd->Prop
 |1=>tV|2=>z_|3=>iE|4=>Fn3|5=>Ar3|11=>Jk tV|12=>Jk z_|_=>λ_=>True
def eA.shp(h:eI T e){s:Nat}(d:eA T e s k j a):Shp s a:=by
 induction d with
 |leaf hs h1 h2 h3=>
  obtain rfl|rfl|rfl:=hs
  .exact ajC h h2 h3
  .exact ajD h h2 h3
  .exact ajE h h2 h3
 |unit hs _=>
  obtain rfl|rfl:=hs
  .exact z_.unit ..
  .exact iE.unit ..
 |par _ _ ih=>exact ih|two hc _ _ _ i1 i2=>
  obtain⟨rfl,rfl,rfl|rfl|rfl⟩|⟨rfl,rfl,rfl⟩:=hc
  .exact tV.pr _ _ _ _ _ i1 i2
  .exact z_.pr _ _ _ _ _ i1 i2
  .exact iE.pr _ _ _ _ _ i1 i2
  .exact iE.of _ _ _ _ _ i1 i2
 | @nm s k h1 h2=>
   have u:∀P,Jk P<|.mk 2 (tk T k).text 0 [] (tk T k).al (tk T k).to (tk T k).al:=λP=>⟨_,[],_,_,_,rfl,(h.tok k).up h1,(h.tok k).sz,ag⟩
   match s with
   |0=>trivial|1=>exact u _|2=>exact u _|_+3=>trivial
 | @add s _ _ _ _ _ _ _ i1 i2=>
   match s,i1,i2 with
   |0,_,_=>trivial|1,i1,i2=>exact Jk.add i1 i2 _|2,i1,i2=>exact Jk.add i1 i2 _|_+3,_,_=>trivial
 |up hs _ ih=>
  obtain rfl|rfl:=hs
  .exact Jk.ty ih
  .exact Jk.pa ih
 |arr _ _ i1 i2=>exact tV.fn _ _ _ _ _ i1 i2|call _ _ i1 i2=>exact iE.call _ _ _ _ _ i1 i2|op hs _ _ i1 i2=>exact iE.op _ _ _ _ _ _ hs i1 i2|fn h1 _ ih=>exact⟨_,_,_,_,_,rfl,(h.tok _).low h1,(h.tok _).sz,ih⟩|ex _ ih=>exact Fn3.ex ih|lt h1 _ _ i1 i2=>exact iE.lt _ _ _ _ _ _ ((h.tok _).low h1) (h.tok _).sz i1 i2|ltr h1 _ _ i1 i2=>
  obtain⟨s',x',f',t',a',rfl,g1,g2,g3⟩:=i1;exact iE.ltr _ _ _ _ _ _ _ _ _ _ ((h.tok _).low h1) (h.tok _).sz g1 g2 g3 i2
 |ite _ _ _ i1 i2 i3=>exact iE.ite _ _ _ _ _ _ i1 i2 i3| @ar0 _ _ x _ _ ih=>exact⟨x,[],_,_,_,rfl,ih,ag,ag⟩| @ar _ _ _ _ _ _ p x _ _ _ _ i1 i2 i3=>
   obtain⟨y,A,f,t,a,e1,g1,g2,g3⟩:=i1;injection e1 with _ _ _ e1;subst e1;refine⟨y,A++[(p,x)],_,_,_,by rw[Jl];rfl,g1,?_,?_⟩
   .intro q hq;obtain z|z:=List.mem_append.1 hq
    .exact g2 q z
    .rw[List.mem_singleton.1 z];exact i2
   .intro q hq;obtain z|z:=List.mem_append.1 hq
    .exact g3 q z
    .rw[List.mem_singleton.1 z];exact i3
 |mt d hn _ ih=>
  obtain⟨y,A,f,t,a,e1,g1,g2,g3⟩:=ih;injection e1 with _ _ _ e1;subst e1;exact iE.mt _ _ _ _ _ (λq=>by subst q;simp[aU]at hn) g1 g2 g3
def Aa{s:Nat}(d:eA T e s k j a):k<j/\nn a+1<=2*(j-k):=by
 induction d
 all_goals(try simp only[nn,b8,Zp,sT,bS]at*)
 all_goals omega
structure rf(T:List jx)(e n:Nat):Prop where
 g:eI T e
 top:∀i,(tk T i).al<=400
 asc:∀i j,i<=j->j<=e->(tk T i).al<=(tk T j).al
 lt:∀i,i<e->(tk T i).al<(tk T i).to/\(tk T i).to<=n/\(tk T i).to=(tk T i).al+(tk T i).text.size
 nx:∀i j,i<j->j<e->(tk T i).to<=(tk T j).al
def rf.last(h:rf T e n)(hi:i<j)(hj:j<=e):(tk T i).al<aE T j/\aE T j<=n:=by
 rw[aE];rw[if_neg ae];have a:=h.lt i ae;have b:=h.lt (j-1) ae;have c:=h.asc i (j-1) ae ae;omega
def rf.mono(h:rf T e n)(h0:0<i)(hi:i<=j)(hj:j<=e):aE T i<=aE T j:=by
 unfold aE;rw[if_neg ae,if_neg ae];by_cases q:i=j
 .rw[q];exact br _
 .have:=h.nx (i-1) (j-1) ae ae;have:=h.lt (j-1) ae;omega
def toN:Nd->Nat
 |.mk _ _ _ _ _ t _=>t
def EB{lo:Nat}:∀{l m:List Nd},LK lo l->LK lo m->LK lo (l++m)
 |[],_,_,h=>h|_::_,_,g,h=>⟨g.1,EB g.2 h⟩
def sS.rM{n:Nat}:∀{l m:List Nd},sS n l->sS n m->sS n (l++m)
 |[],_,_,h=>h|_::_,_,h,k=>⟨h.1,sS.rM h.2 k⟩
def ac2(T:List jx)(n k j:Nat)(a:Nd):Prop:=Ge (tk T k).al a/\Bi n a/\toN a<=aE T j
def rf.nd(h:rf T e n){c a:Nat}(hk:k<j)(hj:j<=e)(hc:c≠2/\c≠16)(ha:(tk T k).al<=a/\a<=400)(hs:s.size<=400)(g:LK (tk T k).al L/\sS n L):ac2 T n k j (.mk c s m L (tk T k).al (aE T j) a):=
 ⟨⟨⟨br _,ha.1⟩,⟨h.top _,ha.2,hs⟩,g.1⟩,⟨(h.last hk hj).1,(h.last hk hj).2,λq=>absurd q hc.1,λq=>absurd q hc.2,g.2⟩,br _⟩
def ac2.c(h:rf T e n){k':Nat}(p:ac2 T n k' j x)(h1:k<=k')(h2:k'<=e):Ge (tk T k).al x/\Bi n x:=⟨p.1.mono<|h.asc k k' h1 h2,p.2.1⟩
def rf.at0(h:rf T e n)(k:Nat):(tk T k).al<=(tk T k).al/\(tk T k).al<=400:=⟨br _,h.top k⟩
def eA.pos(h:rf T e n){s:Nat}(d:eA T e s k j a):ac2 T n k j a:=by
 have two:∀{k:Nat}{x y:Nd},Ge (tk T k).al x/\Bi n x->Ge (tk T k).al y/\Bi n y->LK (tk T k).al [x,y]/\sS n [x,y]:=λp q=>⟨⟨p.1,q.1,trivial⟩,p.2,q.2,trivial⟩;have op4:∀{s:BA},(s=iu\/s=dW\/s=gq\/s=dX)->s.size<=400:=by rintro s(rfl|rfl|rfl|rfl)<;>decide
 have k0:fX.size<=400:=aK
 induction d with
 | @leaf s k hs h1 h2 h3=>
   have q:=h.lt k h1;exact⟨⟨⟨br _,br _⟩,⟨h.top _,h.top _,(h.g.tok k).sz⟩,trivial⟩,⟨q.1,q.2.1,λ_=>ae,λ_=>ae,trivial⟩,br _⟩
 |unit hs hj=>exact h.nd ae hj aK (h.at0 _) k0 ⟨trivial,trivial⟩|par d hj ih=>have:=d.le;exact⟨(ih.c h ae ae).1,ih.2.1,qv ih.2.2<|h.mono ae ae hj⟩|two hc d1 d2 hj i1 i2=>
  have a1:=d1.le;have a2:=d2.le;exact h.nd ae hj (by obtain⟨rfl,_⟩|⟨rfl,_⟩:=hc<;>decide) (h.at0 _) k0<|two (i1.c h ae ae)<|i2.c h ae ae
 | @nm s k h1 h2=>
   have q:=h.lt k h2;exact⟨⟨⟨br _,br _⟩,⟨h.top _,h.top _,(h.g.tok k).sz⟩,trivial⟩,⟨q.1,q.2.1,λ_=>ae,(λq=>lI),trivial⟩,br _⟩
 | @add _ _ _ _ x _ d1 d2 i1 i2=>
   have a1:=d1.le;have a2:=d2.le;have z:=i2.c h (qz a1.1) ae;have m:=h.mono (i:=_) ae (qz a2.1) a2.2
   cases x
   obtain⟨⟨g1,g2,g3⟩,⟨p1,p2,p3,p4,p5⟩,p6⟩:=i1;have p6:_<=_:=p6;simp only[toN]at p6;have l:=h.last (i:=_) a2.1 a2.2;exact⟨⟨g1,g2,EB g3 ⟨z.1,trivial⟩⟩,⟨ae,l.2,p3,p4,p5.rM ⟨z.2,trivial⟩⟩,br _⟩
 |up _ _ ih=>exact ih|ex _ ih=>exact ih|arr d1 d2 i1 i2|op _ d1 d2 i1 i2|call d1 d2 i1 i2=>
  have a1:=d1.le;have a2:=d2.le;exact h.nd ae a2.2 aK (h.at0 _) (by first|exact k0|(apply op4;assumption))<|two (i1.c h ae ae)<|i2.c h ae ae
 |fn h1 d ih=>
  have a1:=d.le;exact h.nd ae a1.2 aK ⟨h.asc _ _ ae ae,h.top _⟩ (h.g.tok _).sz ⟨⟨(ih.c h ae ae).1,trivial⟩,ih.2.1,trivial⟩
 |lt _ d1 d2 i1 i2|ltr _ d1 d2 i1 i2=>
  have a1:=d1.le;have a2:=d2.le;exact h.nd ae a2.2 aK ⟨h.asc _ _ ae ae,h.top _⟩ (h.g.tok _).sz<|two (i1.c h ae ae)<|i2.c h ae ae
 | @ite k _ _ _ _ _ _ d1 d2 d3 i1 i2 i3=>
   have a1:=d1.le;have a2:=d2.le;have a3:=d3.le;have z:=i1.c h (qy _) ae;have y:=two (i2.c h (k:=k) ae ae)<|i3.c h ae ae;exact h.nd ae a3.2 aK (h.at0 _) k0 ⟨⟨z.1,y.1⟩,z.2,y.2⟩
 |ar0 d hj ih=>
  have a1:=d.le;have z:=ih.c h (qy _) ae;exact h.nd ae hj aK (h.at0 _) k0 ⟨⟨z.1,trivial⟩,z.2,trivial⟩
 | @ar k _ _ _ _ _ _ _ d1 d2 d3 hq i1 i2 i3=>
   have a1:=d1.le;have a2:=d2.le;have a3:=d3.le;have y:=two (i2.c h (k:=k) ae ae)<|i3.c h ae ae;obtain⟨⟨_,_,g⟩,⟨_,_,_,_,p⟩,_⟩:=i1;exact h.nd ae ae aK (h.at0 _) k0 ⟨EB g y.1,p.rM y.2⟩
 |mt d hn hj ih=>
  have a1:=d.le;obtain⟨⟨_,_,g⟩,⟨_,_,_,_,p⟩,_⟩:=ih;exact h.nd ae hj aK (h.at0 _) k0 ⟨g,p⟩
section
open Un
def pG(hi:i<b)(hb:b<=s.size):∃x r,(s.extract i b).toList=x::r/\x.toNat=j6 s i/\∀p:Nat->Bool,(∀j,i<j->j<b->p (j6 s j)=true)->∀y∈r,p y.toNat=true:=by
 have hl:(s.extract i b).toList.length=b-i:=by
  rw[xk];show(s.extract i b).size=_;rw[ByteArray.size_extract];omega
 have hg:∀j(h:j<(s.extract i b).toList.length),((s.extract i b).toList[j]).toNat=j6 s (i+j):=λj h=>by
  rw[<-Zq s i b j hb ae,Pu.lW qBo];simp only[xk,ByteArray.getElem_eq_getElem_data,Array.getElem_toList]
 cases hc:(s.extract i b).toList with
 |nil=>grind|cons x r=>
  refine⟨x,r,rfl,?_,λp hp y hy=>?_⟩
  .have:=hg 0 ae;simp only[hc]at this;simpa using this
  .obtain⟨j,hj,rfl⟩:=jm hy;rw[hc]at hl;simp at hl;have:=hg (j+1) (by rw[hc];simp;omega);simp only[hc]at this;simp only[List.getElem_cons_succ]at this;rw[this];exact hp _ ae ae
def Jm(s:BA):∀k,(∀i,i<k->Pu.dI (j6 s i)=true)->wV s k<10^k
 |0,_=>by simp[wV]|k+1,h=>by
  have h1:=Jm s k<|λi hi=>h i ae;have h2:=h k ae;simp[Pu.dI]at h2;have:(j6 s k+208)%256<=9:=ae;simp only[wV,Nat.pow_succ];omega
def ac3(h:ac4 s):zJ s<1000000000:=by
 rw[zJ];obtain⟨h1,h2,h3⟩:=h;rw[Nat.min_eq_left h2];have:=Jm s s.size h3;have h4:(10:Nat)^s.size<=10^9:=Nat.pow_le_pow_right aK h2;omega
def Zr s{x}{r}(h:s.toList=x::r):(⟨(x::r).toArray⟩:BA)=s:=by grind[toList_inj,toList_mk]
def ac5 s(hs:s.size<=400)i(hi:i<s.size):agI (jy s i):=by
 have r_:=Jn s i hi;have ht:=j9 s i hi;have hf:=j8 s i;have dU:(jy s i).text.size<=400:=by have:=r_.sp;omega
 refine⟨λk1=>?_,λk2=>?_,λk3=>?_,λk4=>ac3<|r_.v4 k4,dU⟩
 .clear r_ dU;revert k1 ht hf;rw[jy];repeat' split
  all_goals intro ht hf k1
  all_goals try(exfalso;simp[j5]at k1;done)
  rename_i h1 h2;simp only[j5]at ht;have⟨x,r,e1,e2,e3⟩:=pG ht.1 ht.2;refine⟨x,r,e1,by rw[e2];exact h1,e3 _<|λj a b=>pH (j-i) i j rfl ae b,?_⟩;rw[Zr _ e1];simpa using h2
 .clear r_ dU;revert k2 ht hf;rw[jy];repeat' split
  all_goals intro ht hf k2
  all_goals try(exfalso;simp[j5]at k2;done)
  rename_i h1 h2;simp only[j5]at ht;have⟨x,r,e1,e2,e3⟩:=pG ht.1 ht.2;exact⟨x,r,e1,by rw[e2];exact h2,e3 _<|λj a b=>pH (j-i) i j rfl ae b⟩
 .clear r_ dU;revert k3 ht hf;rw[jy];repeat' split
  all_goals intro ht hf k3
  all_goals try(exfalso;simp[j5]at k3;done)
  rename_i h1 h2 h3 h4;simp only[j5]at ht;have⟨x,r,e1,e2,e3⟩:=pG ht.1 ht.2;have bq:i+1<Pu.aG s j7 (i+1):=by
   have hi1:i+1<s.size:=by
    obtain q|q:=Nat.lt_or_ge (i+1) s.size
    .exact q
    .have:=h3.2;rw[Pu.Iu q]at this;simp[Pu.fk]at this
   rw[Pu.eD hi1<|by simp[j7,h3.2]];have:=Pu.eO s j7<|i+1+1;omega
  have⟨y,r',e1',e2',e3'⟩:=pG bq ht.2;have e39:x=39:=UInt8.toNat_inj.1 (by rw[e2,h3.1];rfl);have er:r=y::r':=by
   have q1:=iV hi ht.1;rw[e1,e1']at q1;injection q1 with _ q2
  refine⟨y,r',by show(s.extract i _).toList=_;rw[e1,e39,er],by rw[e2'];exact h3.2,e3' _<|λj a b=>pH (j-(i+1)) (i+1) j rfl ae b,?_⟩;rw[Zr _ e1'];simpa using h4
def pI(s:BA):∀f i t,t∈j3 s f i->(∃j,j<s.size/\t=jy s j)\/t=jz s
 |0,i,t,h=>qd (by simpa[j3]using h)|f+1,i,t,h=>by
  rw[j3]at h;split at h
  .rename_i hi;split at h
   .exact pI s f _ t h
   .obtain rfl|h:=List.mem_cons.1 h
    .exact qe ⟨i,hi,rfl⟩
    .exact pI s f _ t h
  .exact qd Bm
def kZ(s:BA):∀f i,∃l,j3 s f i=l++[jz s]/\l.length<=f
 |0,i=>⟨[],rfl,ag⟩|f+1,i=>by
  rw[j3];split
  .split
   .have⟨l,h1,h2⟩:=kZ s f<|i+1;exact⟨l,h1,ae⟩
   .have⟨l,h1,h2⟩:=kZ s f (jy s i).to;exact⟨jy s i::l,by rw[h1];rfl,bB⟩
  .exact⟨[],rfl,ag⟩
def Zs(T:List jx)k:tk T k∈T\/tk T k=⟨7,⟨#[]⟩,0,0⟩:=by grind[tk]
def Jo(t:jx)(h7:t.kind=7)(hz:t.text.size<=400):agI t:=⟨by simp[h7],by simp[h7],by simp[h7],by simp[h7],hz⟩
def oK s(hs:s.size<=400):eI (jv s 0) ((jv s 0).length-1)/\(jv s 0).length<=401:=by
 have⟨l,h1,h2⟩:=kZ s (s.size-0) 0;have e:jv s 0=l++[jz s]:=h1;refine⟨⟨?_,λk=>?_,by rw[e];simp⟩,by rw[e];simp;omega⟩
 .rw[e];rw[tk];simp[jz]
 .obtain q|q:=Zs (jv s 0) k
  .obtain⟨j,hj,q⟩|q:=pI s _ _ _ q
   .rw[q];exact ac5 s hs j hj
   .rw[q];exact Jo _ rfl (by simp[jz];decide)
  .rw[q];exact Jo _ rfl aK
def ED{f}(h:agJ (jv s 0) f):f.kind%6≠0/\f.al<=f.to/\f.to<=s.size:=by
 obtain⟨k,rfl⟩:=h;refine⟨by rw[dc];split<;>simp,?_⟩;have:(tk (jv s 0) k).al<=(tk (jv s 0) k).to/\(tk (jv s 0) k).to<=s.size:=by
  obtain q|q:=Zs (jv s 0) k
  .obtain⟨j,hj,q⟩|q:=pI s _ _ _ q
   .rw[q,j8];have:=j9 s j hj;omega
   .rw[q];simp[jz]
  .rw[q];simp
 rw[dc];split<;>exact this
def D3:Dc->Prop
 |.ty t vs ms=>Gh t.text/\t.text.size<=400/\(∀v∈vs,NmV v.text/\v.text.size<=400)/\ms≠[]/\∀m∈ms,Jk tV m|.lt r t b=>x_ t.text/\t.text.size<=400/\iE b/\(r=true->Fn3 b)
def LU:Dc->Nat
 |.ty _ vs ms=>1+vs.length+b8 ms|.lt _ _ b=>1+nn b
def Jp(l:List Dc):Nat:=(l.map LU).sum
end
inductive Uy(T:List jx)(e:Nat):Nat->Nat->List Nd->Prop where
 |one{i j:Nat}{m:Nd}:eA T e 11 i j m->Uy T e i j [m]
 |more{i j q:Nat}{ms:List Nd}{m:Nd}:Uy T e i j ms->eA T e 11 (j+1) q m->Uy T e i q (ms++[m])
inductive Zt(T:List jx)(e:Nat):Nat->Nat->Dc->Prop where
 |ty{k j q:Nat}{vs:List jx}{ms:List Nd}:(tk T<|k+1).kind=2->(∀v∈vs,v.kind=3/\∃q,q<e/\v=tk T q)->Uy T e (k+3+vs.length) j ms->j<q->q<=e->Zt T e k q (.ty (tk T<|k+1) vs ms)
 |lt{k j:Nat}{b:Nat×jx×Nd}:BdD T e k b j->j+1<=e->Zt T e k (j+1) (.lt (b.1==11) b.2.1 b.2.2)
inductive Uz(T:List jx)(e:Nat):Nat->List Dc->Prop where
 |nil:Uz T e 0 []
 |more{i j:Nat}{l:List Dc}{d:Dc}:Uz T e i l->Zt T e i j d->Uz T e j (l++[d])
def Uy.le{i j:Nat}{ms:List Nd}(h:Uy T e i j ms):i<j/\j<=e:=by
 induction h with
 |one d=>exact d.le|more _ d ih=>have:=d.le;omega
def Zt.le{i j:Nat}{d:Dc}(h:Zt T e i j d):i<j/\j<=e:=by
 cases h with
 |ty _ _ m hj _=>have:=m.le;omega|lt b hj=>have:=b.le;omega
def Uz.le{j:Nat}{l:List Dc}(h:Uz T e j l):j<=e:=by
 cases h with
 |nil=>exact qx _|more _ d=>exact d.le.2
def ac6(h:eI T e)(hm:pX T e 1 sm):pX T e 11 (de T sm):=by
 intro k hk;rw[de];refine(oJ h hk 2 aK).aN ?_;rintro t k1⟨rfl,t1,rfl,p1⟩;exact Ez (s:=1) hm T.length _ (k+1)<|.nm t1 p1
def Jq(h:eI T e){mk:M Nd}(hm:pX T e 11 mk){i:Nat}:∀f l k,k<=e->(l=[]/\k=i/\f≠0\/∃j,k=j+1/\Uy T e i j l)->wa T (dO T mk f l k) (λl' k'=>∃j,j<=k'/\k'<=e/\Uy T e i j l')
 |0,l,k,hk,hl=>by
  obtain⟨_,_,q⟩|⟨j,rfl,hl⟩:=hl
  .exact absurd rfl q
  .exact⟨j,qy _,hk,hl⟩
 |f+1,l,k,hk,hl=>by
  rw[mh];refine(hm k hk).aN λm k1 d=>?_;have q:Uy T e i k1 (l++[m]):=by
   obtain⟨rfl,rfl,_⟩|⟨j,rfl,hl⟩:=hl
   .exact .one d
   .exact .more hl d
  rw[lC];split
  .rename_i hc;exact Jq h hm f _ (k1+1) (h.step d.le.2 qAc)<|.inr ⟨k1,rfl,q⟩
  .exact⟨k1,br _,d.le.2,q⟩
def Zu(h:eI T e):∀f l k,k<=e->wa T (mi T f l k) (λl' k'=>∃vs,l'=l++vs/\(∀v∈vs,v.kind=3/\∃q,q<e/\v=tk T q)/\k'=k+vs.length/\k'<=e)
 |0,l,k,hk=>⟨[],ag,ag,rfl,hk⟩|f+1,l,k,hk=>by
  unfold mi;split
  .rename_i h3;have hk1:=h.step hk ae;refine(Zu h f _ (k+1) hk1).mono ?_;rintro l' k'⟨vs,rfl,a1,a2,a3⟩
   exact⟨tk T k::vs,ag,λv hv=>by
    obtain rfl|hv:=List.mem_cons.1 hv
    .exact⟨h3,k,hk1,rfl⟩
    .exact a1 v hv,bB,a3⟩
  .exact⟨[],ag,ag,rfl,hk⟩
def agK(h:eI T e)(d:Nat)(hk:k<=e):wa T (fI T d k) (λx k'=>Zt T e k k' x):=by
 have ht:=QX h d;rw[fI];split
 .rw[C5];refine(bX h hk qC).aN ?_;rintro _ k1⟨rfl,p1⟩;refine(oJ h p1 2 aK).aN ?_;rintro t k2⟨rfl,t1,rfl,p2⟩;refine(Zu h T.length [] _ p2).aN ?_;rintro l k3⟨vs,rfl,v1,rfl,v3⟩;refine(bX h v3 Qh).aN ?_;rintro _ k4⟨rfl,p4⟩;refine(Jq h (i:=k+3+l.length) (ac6 h<|xZ h (.inl rfl) ht λ_=>ht) T.length [] _ p4<|.inl ⟨rfl,ae,by have:=h.pos;omega⟩).aN ?_;rintro ms k5⟨j,m1,m2,m3⟩;refine(bX h m2 zL).aN ?_;rintro _ k6⟨rfl,p6⟩;exact .ty t1 v1 m3 ae p6
 .rw[Ji];refine(Q0 h (Zo h d) hk).aN λb k1 q=>?_;refine(bX h q.le.2 zL).aN ?_;rintro _ k2⟨rfl,p5⟩;exact .lt q p5
def Q3(h:eI T e)(d:Nat):∀f l k,Uz T e k l->wa T (cU T (fI T d) f l k) (λl' k'=>Uz T e k' l')
 |0,l,k,hl=>hl|f+1,l,k,hl=>by
  unfold cU;split
  .exact(agK h d hl.le).aN λx k1 q=>Q3 h d f _ k1<|.more hl q
  .exact hl
def EH(hs:¬400<s.size):match bY s with
 |.error f=>agJ (jv s 0) f|.ok l=>∃j,Uz (jv s 0) ((jv s 0).length-1) j l:=by
 have h:=(oK s ae).1
 have h1:=(Q3 h (jv s 0).length (jv s 0).length [] 0 .nil).aN (f:=Jr<|jv s 0) (R:=λl _=>∃j,Uz (jv s 0) ((jv s 0).length-1) j l) (by
  intro l' k' q;rw[Jr];split
  .exact⟨_,q⟩
  .exact fJ)
 rw[bY];rw[if_neg hs];revert h1
 cases aN (cU (jv s 0) (fI (jv s 0) (jv s 0).length) (jv s 0).length []) (Jr<|jv s 0) 0 with
 |error f=>intro h1;exact h1|ok p=>intro h1;exact h1
def Uy.all{P:Nd->Prop}(h:Uy T e i j ms)(hp:∀k q m,i<=k->q<=j->eA T e 11 k q m->P m):∀m∈ms,P m:=by
 induction h with
 |one d=>intro m hm;rw[List.mem_singleton.1 hm];exact hp _ _ _ (br _) (br _) d|more a d ih=>
  have:=a.le;have:=d.le;intro m hm;obtain z|z:=List.mem_append.1 hm
  .exact ih (λk q m h1 h2=>hp k q m h1 ae) m z
  .rw[List.mem_singleton.1 z];exact hp _ _ _ ae (br _) d
def Uy.nn(h:Uy T e i j ms):ms≠[]/\b8 ms<=2*(j-i):=by
 induction h with
 |one d=>have:=Aa d;exact⟨ag,by simp[b8];omega⟩|more a d ih=>
  have:=a.le;have:=Aa d;exact⟨ag,by simp[sT,b8];omega⟩
def Uz.all{P:Dc->Prop}(h:Uz T e j l)(hp:∀i j d,Zt T e i j d->P d):∀d∈l,P d:=by
 induction h with
 |nil=>simp|more a d ih=>
  intro x hx;obtain z|z:=List.mem_append.1 hx
  .exact ih x z
  .rw[List.mem_singleton.1 z];exact hp _ _ _ d
def BdD.ex(h:eI T e){k j:Nat}{b:Nat×jx×Nd}(q:BdD T e k b j):x_ b.2.1.text/\b.2.1.text.size<=400/\iE b.2.2/\((b.1==11)=true->Fn3 b.2.2)/\nn b.2.2+3<=2*(j-k):=by
 obtain⟨e1,e2,e3,e4⟩|⟨e1,e2,e3,e4⟩:=q<;>rw[e2,e1]<;>have:=Aa e4
 .exact⟨(h.tok _).low e3,(h.tok _).sz,e4.shp h,nofun,ae⟩
 .exact⟨(h.tok _).low e3,(h.tok _).sz,Fn3.ex<|e4.shp h,λ_=>e4.shp h,ae⟩
def Zt.d3(h:eI T e){d:Dc}(q:Zt T e k j d):D3 d/\LU d<=2*(j-k):=by
 cases q with
 |ty t1 v m h1 h2=>
  have a:=m.nn;have b:=m.le;exact⟨⟨(h.tok _).up t1,(h.tok _).sz,λv' hv=>(by obtain⟨z,q,_,rfl⟩:=v v' hv;exact⟨(h.tok q).var z,(h.tok q).sz⟩),a.1,m.all λ_ _ _ _ _ d=>d.shp h⟩,by simp only[LU];omega⟩
 |lt b hj=>
  have⟨b1,b2,b3,b4,b5⟩:=b.ex h;exact⟨⟨b1,b2,b3,b4⟩,by simp only[LU];omega⟩
def Uz.nd(h:eI T e)(q:Uz T e j l):Jp l<=2*j:=by
 induction q with
 |nil=>simp[Jp]|more a d ih=>
  have:=(d.d3 h).2;have:=d.le;simp only[Jp,jp,List.sum_append,jk,ju,List.sum_cons,List.sum_nil]at*;omega
def pJ(hs:¬400<s.size):match bY s with
 |.error f=>f.kind%6≠0/\f.al<=f.to/\f.to<=s.size|.ok l=>(∀d∈l,D3 d)/\Jp l<=802:=by
 have⟨h,hl⟩:=oK s ae;have q:=EH hs
 cases e:bY s with
 |error f=>rw[e]at q;exact ED q|ok l=>
  rw[e]at q;obtain⟨j,q⟩:=q;exact⟨q.all λ_ _ _ d=>(d.d3 h).1,by have:=q.nd h;have:=q.le;omega⟩
section
open Go.ChangeMaps Un
def ac7{c}(h:nI c):Js c:=⟨λe=>(by obtain⟨x,r,h1,_⟩:=h;rw[h1]at e;cases e),cQ h 40 [] aK⟩
abbrev oL:BA:=⟨#[45,62]⟩
abbrev Ab:BA:=⟨#[44]⟩
def Q4:∀L:List Nd,wTL L=L.map wT
 |[]=>rfl|x::l=>by simp[wTL,Q4 l]
def EI t:(sep t).length<=1:=by rw[sep];split<;>simp
def Zw B pb mv l(L:List Nd)w gk v wr:=
 ∃(j:Nat)(Wq:Value)(Jt:BA),Hid (gk=L.length-j)/\j<=L.length/\v=Nv j/\PN wr B pb Wq (l++((L.take j).map wT).flatMap λp=>32::p 2) Jt mv/\Js Jt/\FN B pb w wr
def UA(L:List Nd)j(h:j<L.length):(((L.take<|j+1).map wT).flatMap λp=>32::p 2)=(((L.take j).map wT).flatMap λp=>32::p 2)++32::wT L[j] 2:=by
 rw[List.take_add_one,ja h];simp only[jp,List.flatMap_append,Option.toList_some,jk,ju,List.flatMap_cons,List.flatMap_nil,jh]
def ac8(L:List Nd)j:(((L.take j).map wT).flatMap λp=>32::p 2).length<=((L.map wT).flatMap λp=>32::p 2).length:=by
 have e:((L.map wT).flatMap λp=>32::p 2)=(((L.take j).map wT).flatMap λp=>32::p 2)++(((L.drop j).map wT).flatMap λp=>32::p 2):=by
  rw[<-List.flatMap_append,<-jp,jl]
 rw[e,tQ];omega
section
variable {pb:Nat} {bv:Value} {l:List UInt8} {last:BA} {mv:Value}
def ac9 s(hu:nI s)(hss:s.size<=1000)x y L sa sc(vs:Nat->Value)(hL:L.length<=1001)(h:PN w B pb bv l last mv)(hq:NQ w pb Q)(hB:B<=pb)(aM:L=[]\/∃g,sa=some ⟨g,0,none⟩/\Q g/\g<w.heap.size/\∀i,i<L.length->w.cell? ⟨g,i,none⟩=some (vs i))(hr:∀i(h:i<L.length),mj w Q L[i]<|vs i)(IH:∀i(h:i<L.length),VY L[i])(hl:(l++(sep last++(s.toList++(L.map wT).flatMap λp=>32::p 2))).length<=800000):
 Cq 109 #[Pv pb,.agg #[Iv x,Iv y,.string s],.slice sa L.length sc] w (uJ B pb mv (l++(sep last++(s.toList++(L.map wT).flatMap λp=>32::p 2))) w):=by
 have hzp:=h.lt;have hsl:=EI last;simp only[tQ]at hl;have bN:Bq w ((w.alloc<|Cv #[Iv x,Iv y,Sv s] 133).alloc<|Cv #[Sv s] 9):=(bw _).alloc ag _;have BX:Bx ((w.alloc<|Cv #[Iv x,Iv y,Sv s] 133).alloc<|Cv #[Sv s] 9) (w.heap.size+1) #[Sv s]:=by have:=Bx.new (w.alloc<|Cv #[Iv x,Iv y,Sv s] 133) #[Sv s] 9;simpa using this
 have HP:=vH (h.af bN) s ae ae (w.heap.size+1) BX ae;rw[oM (cQ hu 41 [] aK) (cQ hu 44 [] aK)<|cQ hu 59 [] aK]at HP;have F0:=FN.of (B:=B) (pb:=pb) bN;have Zx:s.toList.length=s.size:=by rw[xk];simp
 go_enter func109,ntmps109;go_wp2_with fail;refine HP.mono ?_;rintro e w1⟨rfl,bv1,N1,F1⟩;have FA:=F0.trans F1
 go_wp2
 go_loopg[15] L.length (λgk v wr=>Zw B pb mv (l++(sep last++s.toList)) L w gk v wr)
 case atStart=>exact⟨0,bv1,s,ai ag,qx _,rfl,by simpa using N1,ac7 hu,FA⟩
 case round=>
  obtain⟨j,VO,C9,cR,hj,rfl,N2,fi2,F2⟩:=hrel;by_cases aY:j<L.length
  .have hd:(j:Int)<(L.length:Int):=ae;obtain⟨g,rfl,hg,iP,bM⟩:∃g,sa=some ⟨g,0,none⟩/\Q g/\g<w.heap.size/\∀i,i<L.length->w.cell? ⟨g,i,none⟩=some (vs i):=by
    obtain h0|h0:=aM
    .subst h0;simp at aY
    .exact h0
   have cg:=(xi (a:=⟨g,j,none⟩)<|F2.block g iP (hq g hg).2.1<|qd (hq g hg).2.2).trans<|bM j aY;have PJ:=(hr j aY).fnQ hq F2;have⟨tv,xv,hv⟩:=PJ.bJ;have ft:=UA L j aY;have fl:=ac8 L<|j+1;rw[ft]at fl;simp only[tQ,pk]at fl;have HC:=IH j aY wr B pb VO _ C9 mv Q (vs j) 2 N2 PJ (hq.fn F2) (br _) (by rw[jX fi2];simp only[tQ,pk,ua];omega) hB;rw[hv]at cg HC;rw[jX fi2]at HC;go_wp2_with(go_at_call 51;refine HC.mono ?_;rintro e w3⟨rfl,bv3,Q5,hN3,fi3,hF3⟩;have HN3:=ai hN3;have HF3:=ai<|F2.trans hF3;clear hN3 hF3);go_roundg(L.length-(j+1))
   case measure=>rw[uh cR];omega
   case rel=>
    refine⟨j+1,bv3,Q5,ai rfl,ae,iK,?_,fi3,HF3⟩;rw[ft];have e9:l++(sep last++s.toList)++((((L.take j).map wT).flatMap λp=>32::p 2)++32::wT L[j] 2)=l++(sep last++s.toList)++(((L.take j).map wT).flatMap λp=>32::p 2)++([32]++wT L[j] 2):=ag;rw[e9];exact HN3
  .have hd:decide ((j:Int)<(L.length:Int))=false:=bB;have ej:j=L.length:=ae;subst ej;rw[jq]at N2
   go_wp2
   go_end0;refine⟨rfl,VO,C9,?_,fi2,F2⟩;have e9:l++(sep last++(s.toList++(L.map wT).flatMap λp=>32::p 2))=l++(sep last++s.toList)++(L.map wT).flatMap λp=>32::p 2:=ag;rw[e9];exact N2
end
def NB.lt{L}(h:NB w nb mb L):nb<w.heap.size/\mb<w.heap.size:=⟨h.bk.z,h.mp.lt⟩
def NB.set{L}(h:NB w nb mb L)(h1:b≠nb)(h2:b≠mb)j v:NB (w.setCell ⟨b,j,none⟩ v) nb mb L:=
 ⟨h.bk.bO h1.symm j v,h.mp.tX h2.symm j v,h.ne⟩
def Q6{p:Prop}(h:p:=by
 unfold kd
 rw[if_neg<|λq=>cQ hu 62 [] aK (by rw[(pK c).1 q];exact toList_mk [62]),if_neg<|λq=>cQ hu 44 [] aK (by rw[(ya c).1 q];exact toList_mk [44])]):p:=h
def Q7{p:Prop}(h:p:=by
 simp only[sp,hk];congr 1;apply List.ext_getElem
 .simp;omega
 .intro i h1 h2;have:i=0\/i=1:=by simp at h2;omega
  obtain rfl|rfl:=this<;>rfl):p:=h
def agL c L(IH:∀i(h:i<L.length),SpC L[i]):SpC (.aJ c L):=by
 intro w nb mb a P v h HN hP hW hv hs
 cases h with
 |aJ c L sa sc vs hc aM hr=>
 obtain⟨i0,vC,nJ,lG,jB⟩:=info_parts Ju;have dU:ah L<=1000:=by simp[ah,size]at hs;omega
 have hLl:=pL L;have Te:=gT (by_:=16) Ac vC nJ rfl lG jB aK L.length ae;obtain⟨Hok,hWL⟩:=hW;rw[pM]at hWL;simp only[vars]at hv;have h1:=agM;have h2:=agN;have bq:=HN.lt;have bN:Bq w ((w.alloc<|.cells #[.string<|pn c,.slice sa L.length sc] 169).alloc<|.cells (Array.replicate L.length .nilIface) 92):=(bw _).alloc ag _;have XM:=ai<|(Bx.new w #[.string<|pn c,.slice sa L.length sc] 169).alloc<|.cells (Array.replicate L.length .nilIface) 92;obtain⟨cm,fm,zm⟩:=uh XM;go_enter func52,ntmps52
 go_wp2
 go_loopg[29] L.length (λgk v wr=>ajF nb mb a L w (w.heap.size+1) w.heap.size #[.string<|pn c,.slice sa L.length sc] gk v wr)
 case atStart=>
  have BP:Bx ((w.alloc<|.cells #[.string<|pn c,.slice sa L.length sc] 169).alloc<|.cells (xg L.length .nilIface) 92) (w.heap.size+1) (xg L.length .nilIface):=by have:=Bx.new (w.alloc<|.cells #[.string<|pn c,.slice sa L.length sc] 169) (xg L.length .nilIface) 92;simpa using this
  refine⟨0,xg L.length .nilIface,ai ag,qx _,rfl,?_,Fr.of bN,BP,XM,ai ag,ai<|λi hi=>absurd hi<|by simp[mZ]⟩;simpa[bh]using HN.af bN
 case round=>
  obtain⟨j,C,cR,hj,rfl,N1,F1,B1,BM,hC,hT⟩:=hrel;have zw:=F1.size;have n1:=N1.lt;have zpb:=B1.z;by_cases aY:j<L.length
  .have hd:(j:Int)<(L.length:Int):=ae;obtain⟨g,rfl,hg,iP,bM⟩:∃g,sa=some ⟨g,0,none⟩/\P g/\g<w.heap.size/\∀i,i<L.length->w.cell? ⟨g,i,none⟩=some (vs i):=by
    obtain h0|h0:=aM
    .subst h0;simp at aY
    .exact h0
   have cg:=(xi (a:=⟨g,j,none⟩)<|F1.block g iP<|hP g hg).trans<|bM j aY;have TJ:=(hr j aY).fr F1<|λb p _=>hP b p;obtain⟨tv,xv,hv'⟩:=TJ.iface;obtain⟨mt1,mt2⟩:=sU L a j aY;have hnj:(vars (bh a<|L.take j) L[j]).length<=96:=by rw[<-mt2];exact qv (qF L a<|j+1) hv
   have hsj:ah [L[j]]<=1000:=by
    have e1:=k_ L j aY;have e2:=eQ L<|j+1;simp[ah];omega
   have HC:=IH j aY wr nb mb _ P (vs j) TJ N1 hP (hWL _<|jd aY) hnj hsj;rw[hv']at cg HC;go_wp2_with fail;refine HC.mono ?_;rintro e w1⟨u,rfl,HU,LA,HF⟩;obtain⟨tu,xu,rfl⟩:=HU.bJ;have hpm:w.heap.size+1≠mb:=ae;have B2:=B1.fr HF hpm;have rG:j<C.size:=qBh;have cj:=(B2.c j).trans<|Array.getElem?_eq_getElem rG;have fj:=B2.f j;have B3:=B2.aP j (.iface tu<|.agg xu) (C.setIfInBounds j<|.iface tu<|.agg xu) rfl rG;have BM2:=(BM.fr HF<|show ¬w.heap.size=mb by omega).bO (show w.heap.size≠w.heap.size+1 by omega) j (.iface tu<|.agg xu);have xF:=F1.trans HF;have z2:=HF.size
   go_wp2
   go_roundg(L.length-(j+1))
   case measure=>rw[uh cR];omega
   case rel=>
    have L_:(mZ a<|L.take j).length=j:=by rw[eJ];simp;omega
    refine⟨j+1,C.setIfInBounds j<|.iface tu<|.agg xu,ai rfl,ae,iK,?_,?_,B3,BM2,ai (by simp;exact hC),ai<|λi hi=>?_⟩
    .rw[mt2];exact LA.set ae ae j _
    .exact xF.set (qd ae) j _
    .have iL:∀b,w.heap.size+1<b->b<w1.heap.size->(w1.setCell ⟨w.heap.size+1,j,none⟩<|.iface tu<|.agg xu).heap[b]? =w1.heap[b]? :=λb hb _=>qu _ _ _ _ (by show b≠w.heap.size+1;omega);have hss:(w1.setCell ⟨w.heap.size+1,j,none⟩<|.iface tu<|.agg xu).heap.size=w1.heap.size:=yw;have Bo:i<j+1:=by rw[mt1]at hi;simp[L_]at hi;omega
     by_cases e:i=j
     .subst e;refine⟨.iface tu<|.agg xu,by simp[rG],?_⟩;have e1:(mZ a<|L.take<|i+1)[i]'hi=sp (bh a<|L.take i) L[i]:=by
       have:(mZ a<|L.take<|i+1)[i]? =some (sp (bh a<|L.take i) L[i]):=by rw[mt1,ji ae];simp[L_]
       rw[ja hi]at this;exact Option.some.inj this
      rw[e1];exact HU.by.move ae (λb p z=>iL b qAy z)<|λb p z=>⟨qAy,ae⟩
     .have qK:i<(mZ a<|L.take j).length:=ae;obtain⟨u',vD,vE⟩:=uh hT i qK;have e1:(mZ a<|L.take<|j+1)[i]'hi=(mZ a<|L.take j)[i]'qK:=by
       have:(mZ a<|L.take<|j+1)[i]? =some ((mZ a<|L.take j)[i]'qK):=by rw[mt1,jj qK,ja qK]
       rw[ja hi]at this;exact Option.some.inj this
      refine⟨u',by rw[Array.getElem?_setIfInBounds_ne ae];exact vD,?_⟩;rw[e1];have h3:=vE.fr HF (λb p _ q=>by subst q;omega);exact h3.move ae (λb p z=>iL b p.1 z)<|λb p z=>⟨p.1,ae⟩
  .have hd:decide ((j:Int)<(L.length:Int))=false:=bB;have ej:j=L.length:=ae;subst ej;rw[jq]at N1 hT;obtain⟨cw,fw,zw'⟩:=BM;have hsl:=eJ L a;have hCs:C.size=L.length:=uh hC;obtain rfl|rfl|hu:=hc
   .have h2L:=Hok.2.1<|qe rfl;obtain⟨u0,hu0,hp0⟩:=uh hT 0 ae;obtain⟨u1,vD,hp1⟩:=uh hT 1 ae;obtain⟨t0,x0,rfl⟩:=hp0.bJ;obtain⟨t1,x1,rfl⟩:=hp1.bJ;have HC:=ac_ (w:=wr) (w.heap.size+1) L.length (.iface t0<|.agg x0) (.iface t1<|.agg x1) t0 t1 (.agg x0) (.agg x1) rfl rfl ((B1.c 0).trans hu0) ((B1.c 1).trans vD);rw[jI]at cw;rw[h2L]at HC;go_wp2_with fail;rw[h2L];refine HC.mono ?_;rintro e w9⟨rfl,Nz⟩
    go_wp2
    go_ret;refine⟨_,rfl,?_,N1.af Nz,F1.trans<|Fr.of Nz⟩;have esp:sp a (.aJ nB L)=.mk 17 nB 0 [(mZ a L)[0]' ae,(mZ a L)[1]' ae] 0 0 0:=by
     have hk:kd nB=17:=by unfold kd;rw[if_pos<|(pK nB).2 rfl]
     exact Q7
    rw[esp];exact .fn _ _ _ _ _ _ _ _ _ _ _ ((hp0.af Nz).wide λb p=>qAu)<|(hp1.af Nz).wide λb p=>qAu
   .have h2L:=Hok.2.1<|qd rfl;obtain⟨u0,hu0,hp0⟩:=uh hT 0 ae;obtain⟨u1,vD,hp1⟩:=uh hT 1 ae;obtain⟨t0,x0,rfl⟩:=hp0.bJ;obtain⟨t1,x1,rfl⟩:=hp1.bJ;have HC:=ada (w:=wr) (w.heap.size+1) L.length (.iface t0<|.agg x0) (.iface t1<|.agg x1) t0 t1 (.agg x0) (.agg x1) rfl rfl ((B1.c 0).trans hu0) ((B1.c 1).trans vD);rw[jJ]at cw;rw[h2L]at HC;go_wp2_with fail;rw[h2L];refine HC.mono ?_;rintro e w9⟨rfl,Nz⟩
    go_wp2
    go_ret;refine⟨_,rfl,?_,N1.af Nz,F1.trans<|Fr.of Nz⟩;have esp:sp a (.aJ lj L)=.mk 6 lj 0 [(mZ a L)[0]' ae,(mZ a L)[1]' ae] 0 0 0:=by
     have cO:¬lj=nB:=by intro e;have:=congrArg ByteArray.toList e;rw[show lj.toList=[44]from toList_mk [44],show nB.toList=[62]from toList_mk [62]]at this;simp at this
     have hk:kd lj=6:=by unfold kd;rw[if_neg<|λq=>cO<|(pK lj).1 q,if_pos<|(ya lj).2 rfl]
     exact Q7
    rw[esp];exact .pr _ _ _ _ _ _ _ _ _ _ _ ((hp0.af Nz).wide λb p=>qAu)<|(hp1.af Nz).wide λb p=>qAu
   .have HC:=adb (w:=wr) c hu (some ⟨w.heap.size+1,0,none⟩) L.length L.length;rw[eM hu]at cw;go_wp2_with fail;refine HC.mono ?_;rintro e w9⟨rfl,Nz⟩
    go_wp2
    go_ret;refine⟨_,rfl,?_,N1.af Nz,F1.trans<|Fr.of Nz⟩;have hk:kd c=2:=by
     exact Q6
    simp only[sp,hk];rw[<-hsl];refine .up c 0 (mZ a L) 0 0 0 0 0 0 0 _ _ (λi=>C.getD i .nilIface) hu (qd ⟨w.heap.size+1,rfl,by show w.heap.size<=w.heap.size+1;omega,Nat.lt_of_lt_of_le B1.z Nz.size,λi hi=>?_⟩) (λi hi=>?_)
    .obtain⟨u,Uk,_⟩:=uh hT i hi;rw[xi (a:=⟨w.heap.size+1,i,none⟩)<|Nz.block _ B1.z,B1.c i,Uk];simp[xh,Uk]
    .obtain⟨u,Uk,Tf⟩:=uh hT i hi;have:C.getD i .nilIface=u:=by simp[xh,Uk]
     rw[this];exact(Tf.af Nz).wide λb p=>qAu
def C_:∀(T:Ty),SpC T
 |.var n=>agO n|.aJ c L=>agL c L λi h=>C_ L[i]
termination_by T=>SizeOf.sizeOf T
decreasing_by
 have h2:=List.sizeOf_lt_of_mem<|jd h;simp;omega
def agP i(h:i<=900):(bs (39::vT i)).size<=1000:=by
 rw[dM];have:=xG i;simp[vT];omega
def Zy{α:Type}{l:List α}(h:l.length=2):∃x y,l=[x,y]:=by
 match l,h with
 |[x,y],_=>exact⟨x,y,rfl⟩
def Q8:∀(x y:List Ty)(a:List Nat),mZ a (x++y)=mZ a x++mZ (bh a x) y
 |[],y,a=>rfl|t::x,y,a=>by simp[mZ,bh,Q8 x y]
def agQ l a i h:(mZ a l)[i]'(by rw[eJ];exact h)=sp (bh a<|l.take i) l[i]:=by
 have h1:=(sU l a i h).1;have h2:(mZ a l)[i]? =(mZ a<|l.take<|i+1)[i]? :=by
  have e:mZ a l=mZ a (l.take<|i+1)++mZ (bh a<|l.take<|i+1) (l.drop<|i+1):=by
   rw[<-Q8,jl]
  rw[e,jj (by rw[eJ];simp;omega)]
 rw[h1,ji (by rw[eJ];simp;omega),eJ]at h2;rw[ja (by rw[eJ];exact h)]at h2;have h3:i-(l.take i).length=0:=bB;rw[h3]at h2;exact Option.some.inj h2
def WN.sp{w}{P}{T}{v}(h:dB w P T v):Wf T->size T<=900->∀a,(vars a T).length<=900->WN (sp a T):=by
 induction h with
 |var n=>
  intro _ _ a hv;simp only[vars]at hv;refine .var _ _ _ _ _<|agP _ ?_;have:(Un.seen a n).idxOf n<(Un.seen a n).length:=List.idxOf_lt_length_iff.2 (by rw[Un.seen];split<;>simp[*]);omega
 |aJ c L sa sc vs hc aM hr ih=>
  intro hW hs a hv;obtain⟨Jv,hWL⟩:=hW;rw[pM]at hWL;simp only[size]at hs;simp only[vars]at hv;have key:∀i(h:i<L.length),WN<|(mZ a L)[i]'(by rw[eJ];exact h):=λi hi=>by
   rw[agQ L a i hi];have e1:=k_ L i hi;have e2:=eQ L<|i+1;refine ih i hi (hWL _<|jd hi) ae _ ?_;rw[<-(sU L a i hi).2];exact qv (qF L a<|i+1) hv
  have hl:=pL L;obtain rfl|rfl|hu:=hc
  .have h2:(mZ a L).length=2:=by rw[eJ];exact Jv.2.1<|qe rfl
   have hL2:=Jv.2.1<|qe rfl;have⟨x,y,e⟩:=Zy h2;have hk:kd nB=17:=by rw[kd];rw[if_pos<|(pK nB).2 rfl]
   simp only[Go.Proofs.YtfnkchdeheeiiaaGreatDoor.sp,hk];have k0:=key 0 ae;have k1:=key 1 ae;simp only[e]at k0 k1⊢;exact .fn _ _ _ _ _ _ _ k0 k1
  .have h2:(mZ a L).length=2:=by rw[eJ];exact Jv.2.1<|qd rfl
   have hL2:=Jv.2.1<|qd rfl;have⟨x,y,e⟩:=Zy h2;have cO:¬lj=nB:=yG;have hk:kd lj=6:=by rw[kd];rw[if_neg<|λq=>cO<|(pK lj).1 q,if_pos<|(ya lj).2 rfl]
   simp only[Go.Proofs.YtfnkchdeheeiiaaGreatDoor.sp,hk];have k0:=key 0 ae;have k1:=key 1 ae;simp only[e]at k0 k1⊢;exact .pr _ _ _ _ _ _ _ k0 k1
  .have hk:kd c=2:=by
    exact Q6
   simp only[Go.Proofs.YtfnkchdeheeiiaaGreatDoor.sp,hk];refine .up _ _ _ _ _ _ Jv.1 (by rw[eJ];omega) (λi hi=>key i (by rw[eJ]at hi;exact hi))
def dB.ajG{T}(h:dB w P T v)L:wr dec L T 0≠[]:=by
 cases h with
 |var n=>simp[wr]|aJ c l sa sc vs hc aM hr=>
  simp only[wr];rw[bA];split
  .rw[Un.par];simp
  .split
   .simp
   .rename_i h1 h2;obtain rfl|rfl|hu:=hc
    .exact absurd rfl h1
    .exact absurd rfl h2
    .obtain⟨x,r,e,_⟩:=hu;rw[Un.par];simp[e]
def ade p x y z:Cq 107 #[.pointer<|some p,Iv x,Iv y,Iv z] w λe w'=>(∃v,e=.returned v)/\Bq w w':=by
 go_enter func107,ntmps107
 go_wp2
 go_ret;exact⟨⟨_,rfl⟩,(((bw _).alloc ag _).alloc bB _).alloc bB _⟩
def NA p:Cq 74 #[.pointer<|some p] w (UB w):=by
 have H:=Ma.new (w:=w);have HB:=(Below.refl w.heap.size w).alloc (br _)<|.map #[] 0;have iN:= @run_makeMap Tryz.prog;go_enter func74,ntmps74;go_wp2_with(first|(refine aT _ rfl _ _ _ _ (Or.inl rfl) (KL.str Tryz.underlying9) Tryz.underlying111 _ _ rfl H _ _ rfl rfl trivial (λ_ _=>trivial) ?_;clear H;intro w' H' O';have H:=ai H';have HB:=ai<|One.below HB O' qbr;clear H' O')|(go_at_call 107;refine(ade _ _ _ _).mono ?_;rintro e w'⟨⟨v,rfl⟩,hb⟩;have H:=ai<|H.below hb;have HB:=ai<|HB.trans<|hb.mono HB.size;clear hb));go_ret;exact⟨_,rfl,ag,HB⟩
def Zz:Cq 50 #[] w λe w'=>e=.returned (Pv w.heap.size)/\(∃mv,PN w' w.heap.size w.heap.size (.slice none 0 0) [] ⟨#[]⟩ mv)/\Bq w w':=by
 have bN:Bq w (w.alloc<|Cv #[.pointer none,Lv none 0 0,Sv ⟨#[]⟩,.map none] 113):=bw _;have h0:(w.alloc<|Cv #[.pointer none,Lv none 0 0,Sv ⟨#[]⟩,.map none] 113).heap[w.heap.size]? =some (Cv #[.pointer none,Lv none 0 0,Sv ⟨#[]⟩,.map none] 113 (0,0)):=(MapKept.heap_alloc w _).1;have H0:=ai h0;go_enter func50,ntmps50;go_wp2_with(go_at_call 74;refine(NA _).mono ?_;rintro e w1⟨b,rfl,hle,hb⟩;have h1:w1.heap[w.heap.size]? =some (Cv #[.pointer none,Lv none 0 0,Sv ⟨#[]⟩,.map none] 113 (0,0)):=(hb.block _ ag).trans H0;have c3:w1.cell? ⟨w.heap.size,3,none⟩=some (.map none):= qBu;have f3:w1.frozen? ⟨w.heap.size,3,none⟩=false:=(by simp[World.frozen?,h1]);have H1:=ai h1;have dq:=ai<|bN.trans<|hb.mono bN.size;clear h1 hb);go_ret;have hz:=dq.size;exact⟨rfl,⟨Mv b,⟨_,(dC H1 3 _).trans ag,Or.inl rfl⟩,⟨rfl,Or.inl ⟨rfl,rfl⟩⟩,λ_=>rfl,by simp[World.setCell];exact hz⟩,dq.setCell (br _) _⟩
def Jw:Cq 48 #[] w λe w'=>e=.returned (.func (.func 72) #[] #[Pv<|w.heap.size+1])/\NB w' (w.heap.size+1) w.heap.size []/\Bq w w':=by
 have iN:= @run_makeMap Tryz.prog;go_enter func48,ntmps48
 go_wp2
 go_ret;refine⟨rfl,⟨?_,?_,ae⟩,(bw _).alloc ag _⟩
 .have:=Bx.new (w.alloc<|.map #[] 0) #[Mv w.heap.size] 171;simpa using this
 .exact(MS.new aiC w).below (bw _)
def EK:Cq 34 #[] w λe w'=>∃cb nb mb,e=.returned (.func (.func 49) #[] #[Pv cb])/\Bx w' cb #[nbV nb]/\NB w' nb mb []/\w.heap.size<=mb/\cb≠mb/\Bq w w':=by
 go_enter func34,ntmps34;go_wp2_with(go_at_call 48;refine Jw.mono ?_;rintro e w1⟨rfl,hN,hb⟩;have HN:=ai hN;have HB:=ai hb;clear hN hb);go_ret;have hz:=HN.lt;have b_:Bq w1 (w1.alloc<|Cv #[nbV<|w.heap.size+1] 100):=bw _;exact⟨w1.heap.size,w.heap.size+1,w.heap.size,rfl,Bx.new _ _ _,HN.af b_,br _,ae,HB.trans<|b_.mono HB.size⟩
def UC nb mb a T w(e:Ending)w':=
 e=.returned (.string<|bs<|wr dec (vars a T) T 0)/\NB w' nb mb (vars a T)/\Fr (λb=>b=mb) w w'
def yc(HAt:∀nd,WN nd->VY nd){a}{T}(hT:dB w P T v)(hP:∀b,P b->b≠mb)(hN:NB w nb mb a)(hC:Bx w cb #[nbV nb])(Ga:cb≠mb)(hW:Wf T)(hs:size T<=48)(hv:(vars a T).length<=96):
 Cq 49 #[v,Pv cb] w (UC nb mb a T w):=by
 have bq:=hN.lt;have hcz:=hC.z;obtain⟨tv,xv,rfl⟩:=hT.iface;go_enter func49,ntmps49;go_wp2_with fail;refine Zz.mono ?_;rintro e w1⟨rfl,⟨mv,hPN⟩,b_⟩;have C1:=hC.below b_;obtain⟨c1,f1,z1⟩:=C1;have zw1:=hPN.lt;have HC:=C_ T w1 nb mb a P _ (hT.af b_) (hN.af b_) hP hW hv (by simp[ah];omega);go_wp2_with fail;refine HC.mono ?_;rintro e w2⟨u,rfl,hU,N2,F2⟩;obtain⟨tu,xu,rfl⟩:=hU.bJ
 have P2:=hPN.same F2.size (λb hb q=>F2.block b hb (λe=>by
  obtain q|q:=q
  .omega
  .simp[Value.ownBlock]at q))
 have hwn:=WN.sp hT hW ae a ae;have hwl:=uK (L:=vars a T) ae T hW 0;have hnq:NQ w2 w.heap.size (λb=>w1.heap.size<=b/\b<w2.heap.size/\Pa w2 b):=λb q=>⟨q.2.1,ae,q.2.2⟩;have Ww:sep ⟨#[]⟩=[]:=by rw[sep];rw[if_pos<|qe<|toList_mk []]
 have HA:=HAt _ hwn w2 w.heap.size w.heap.size _ [] ⟨#[]⟩ mv _ _ 0 P2 hU.by hnq ae (by rw[Ww,ZA];simp;omega)<|br _;rw[Ww,ZA]at HA;go_wp2_with fail;refine HA.mono ?_;rintro e w3⟨rfl,bv3,Q5,N3,fi3,F3⟩;have cO:=hT.ajG<|vars a T;have HS:=Wv N3 (by simpa using cO);have⟨ad,Wr,_⟩:=N3.bk;go_wp2_with fail;refine HS.mono ?_;rintro e w4⟨rfl,F4⟩
 go_wp2
 go_ret;have lD:∀k,k<w.heap.size->k≠mb->w4.heap[k]? =w.heap[k]? :=λk hk hm=>by
  have e1:=b_.block k hk;have e2:=F2.block k ae hm;have e3:=F3.block k (by have:=F2.size;omega) ae<|qe hk
  have e4:=F4.block k (by have:=F2.size;have:=F3.size;omega) (λq=>by
   obtain q|q:=q
   .omega
   .have:=(fD N3.ow k q).1;omega)
  exact e4.trans<|e3.trans<|e2.trans e1
 have rI:w4.heap[mb]? =w2.heap[mb]? :=by
  have e3:=F3.block mb (by have:=F2.size;omega) ae<|qe bq.2
  have e4:=F4.block mb (by have:=F2.size;have:=F3.size;omega) (λq=>by
   obtain q|q:=q
   .omega
   .have:=(fD N3.ow mb q).1;omega)
  exact e4.trans e3
 have hs4:=qv b_.size<|qv F2.size<|qv F3.size F4.size;refine⟨ag,⟨?_,N2.mp.same rI,N2.ne⟩,⟨?_,?_,?_,hs4,lD⟩⟩
 .exact N2.bk.same (qv F3.size F4.size) (by
   have e2:=F2.block nb ae N2.ne;have e1:=b_.block nb bq.1
   rw[lD nb bq.1 N2.ne,<-e1,<-e2])
 .exact F4.os.trans (F3.os.trans<|F2.os.trans b_.os)
 .exact F4.tape.trans (F3.tape.trans<|F2.tape.trans b_.tape)
 .exact F4.output.trans (F3.output.trans<|F2.output.trans b_.output)
def Ad:∀(ns:List BA)(x y:List Nd),(aA ns<|x++y).1=(aA ns x).1++(aA (aA ns x).2 y).1
 |ns,[],y=>rfl|ns,t::x,y=>by simp[aA,Ad (aH ns t).2 x y]
def Q9{nd}(h:sI nd):∀ns,Wf (aH ns nd).1:=by
 induction h with
 |var s n f t a=>intro ns;simp[aH,Wf]|two k s n x y f t a hk hx hy dH gJ=>
  intro ns;obtain rfl|rfl:=hk
  .simp only[aH,fy,show ¬(17=16) by decide,if_false,if_true,aA,Wf];exact⟨⟨aK,λ_=>rfl,.inl rfl⟩,dH ns,gJ _,trivial⟩
  .simp only[aH,fy,show ¬(6=16) by decide,show ¬(6=17) by decide,if_false,if_true,aA,Wf];exact⟨⟨aK,λ_=>rfl,.inr<|.inl rfl⟩,dH ns,gJ _,trivial⟩
 |up s n L f t a hw hl hL ih=>
  intro ns;simp only[aH,fy,show ¬(2=16) by decide,show ¬(2=17) by decide,show ¬(2=6) by decide,if_false,Wf];refine⟨hw _,?_⟩;rw[pM];intro t ht;obtain⟨i,hi,rfl⟩:=jm ht;rw[gU]at hi;have⟨h1,h2⟩:=vB ns L i hi;have hlen:(aA ns<|L.take i).1.length=i:=by rw[gU];simp;omega
  have e:(aA ns L).1[i]? =some (aH (aA ns<|L.take i).2 L[i]).1:=by
   have e2:(aA ns L).1[i]? =(aA ns<|L.take<|i+1).1[i]? :=by
    have:=Ad ns (L.take<|i+1)<|L.drop<|i+1;rw[jl]at this;rw[this,jj (by rw[gU];simp;omega)]
   rw[e2,h1,ji ae,hlen];simp
  rw[ja (by rw[gU];exact hi)]at e;rw[Option.some.inj e];exact ih i hi _
def Fr.mn{S}{a b c}(h:Below n a b)(hn:n<=b.heap.size)(k:Fr S b c)(hS:∀x,S x->n<=x):Below n a c:=
 ⟨k.os.trans h.os,k.tape.trans h.tape,k.output.trans h.output,qv h.size k.size,λi hi=>(k.block i ae (λq=>by have:=hS i q;omega)).trans<|h.block i hi⟩
end
section
open Go.ChangeMaps Go.MapKept Un
def ZB(w:World)R u v b(h:b≠R):((w.setCell ⟨R,0,none⟩ u).setCell ⟨R,1,none⟩ v).heap[b]? =w.heap[b]? :=(qu _ _ _ _ h).trans<|qu _ _ _ _ h
def UD(w:World)R u v:((w.setCell ⟨R,0,none⟩ u).setCell ⟨R,1,none⟩ v).heap.size=w.heap.size:=by simp_all
section
variable {c:WC} {cnt:Nat} {s:In.St}
def ZC{T:Ty}(hk:WK w c cnt s kb)(ht:∀n,aD n T->s.u n):(vars []<|sub s.k T).length<=cnt:=by
 refine M7 (cH _ jt) λm hm=>?_;have q:=(bK (sub s.k T) [] m).1 hm;simp only[jo,false_or]at q;have⟨n,q1,q2⟩:=(lS T).1 q;exact hk.u m<|hk.ok.use n m (ht n q1) q2
def adf(hk:WK w c cnt s kb)(hg:WG w c s Λ Γ gb){x}(h:Γ x=some d):d.any.length<=cnt:=
 M7 (hg.nd x d h) λn hn=>hk.u n<|(hg.i x d h).use n<|(hg.i x d h).sub n hn
noncomputable def lH (rc:Bool) (st:BA) (Γ:qp):qp:=if rc then qr Γ st else Γ
def Jx{z}(h:lH rc st Γ z=some d):Γ z=some d:=by
 cases rc
 .simpa[lH]using h
 .simp[lH,qr]at h;exact h.2
def Nm(mk:qk)rc s n x z f t a(Γ:qp):qh mk (.mk (if rc then 11 else 10) s n [x,z] f t a) Γ=In.andM (In.cy rc s x (qh mk x) Γ) λt=>λs1=>qh mk z (In.gD Γ s<|qg (lH rc s Γ) s1.k t<|qs x) s1:=by
 cases rc<;>simp[qh,In.oB,In.dZ,In.dv,In.iU,In.qS,lH]
def SoP c d w(e:Ending)w':=∃u,e=.returned u/\nL w' (dn c) d u/\Bq w w'
abbrev PSo c(w:World)x:=(dn c x/\x<w.heap.size)\/w.heap.size+2<=x
def Ae{l}(hl:d.any=l){w4}{ta}{xa}{sa}(hz:c.cb<w.heap.size)(h4:Bq w w4)(ht:TW w4 (PSo c w) 900000 d.of (.iface ta xa))(hv:qP w4 (PSo c w) sa l):SoP c d w (.returned<|.agg #[.iface ta xa,.slice sa l.length sc]) ((w4.setCell ⟨w.heap.size+1,0,none⟩<|.iface ta xa).setCell ⟨w.heap.size+1,1,none⟩<|.slice sa l.length sc):=by
 subst hl;have hs:=UD w4 (w.heap.size+1) (.iface ta xa)<|.slice sa d.any.length sc;have hb:∀b,PSo c w b->b<w4.heap.size->((w4.setCell ⟨w.heap.size+1,0,none⟩<|.iface ta xa).setCell ⟨w.heap.size+1,1,none⟩<|.slice sa d.any.length sc).heap[b]? =w4.heap[b]? :=λb p _=>ZB _ _ _ _ _ (by obtain p|p:=p<;>omega);have hq:∀b,PSo c w b->b<w4.heap.size->dn c b:=λb p _=>by obtain p|p:=p;exact p.1;show b≠c.cb;omega
 exact⟨_,rfl,⟨ta,xa,sa,sc,rfl,ht.move ae hb hq,hv.move ae hb hq⟩,(h4.setCell ag _).setCell ag _⟩
def Nn{a y:Nat}{S}{T:Ty}(hw:WE w c cnt)(hk:WK w c cnt s kb)(hg:WG w c s Λ Γ gb)(hp:PE w Q x vx)(hS:S<=900000)(ht:TW w (dn c) S T v)(Tf:In.gH Λ s T)(hc:cnt<=850000)(hl:c.nl.length<=1000000):
 Cq 352 #[Mv kb,Mv gb,.agg #[.bool rc,Nv a,Nv y,.string st,vx],v] w (SoP c (qg (lH rc st Γ) s.k T<|qs x) w):=by
 have hf:=hk.D5 ae<|qd trivial;have WH:=bZ _ ht.wh λn _=>hf.wh n;have dU:=jU;have Mb:size (bG<|sub s.k T)<=900000:=by have:=fh WH (qv (ZC hk Tf.use) hc) ae;omega
 have zc:=hw.dh;have k0:Bq w ((w.alloc<|Cv #[.bool rc,Nv a,Nv y,Sv st,vx] 142).alloc<|Cv #[Zv,Lv none 0 0] 467):=(bw _).alloc ag _;have B1:=(Bx.new w #[.bool rc,Nv a,Nv y,Sv st,vx] 142).below<|bw<|Cv #[Zv,Lv none 0 0] 467;have R1:Hid (Bx ((w.alloc<|Cv #[.bool rc,Nv a,Nv y,Sv st,vx] 142).alloc<|Cv #[Zv,Lv none 0 0] 467) (w.heap.size+1) #[Zv,Lv none 0 0]):=by
  have:=Bx.new (w.alloc<|Cv #[.bool rc,Nv a,Nv y,Sv st,vx] 142) #[Zv,Lv none 0 0] 467;rw[aZ]at this;exact ai this
 have kl:KW w (λi=>dn c i/\i<w.heap.size) kb s.k:=hk.k.move (br _) rfl (λ_ _ _=>rfl) (λi p z=>⟨p,z⟩);have GL:=hg.e.low;have HO:=t_ (kl.af k0) ⟨hk.n,hk.k.lt⟩ hf hS<|ht.af k0;have HL:∀(W:World)(b:Nat)(tu:TypeId)(xu:Value)(Qu:Nat->Prop),Bq w W->bP W (PSo c w) b (lH rc st Γ)->cW W Qu (bG<|sub s.k T) (Fv tu xu)->Cq 359 #[Mv b,Mv kb,Fv tu xu] W (pw (λi=>W.heap.size<=i) (qi (lH rc st Γ) s.k<|sub s.k T) W):=λW b tu xu Qu hb he hu=>
  acp he ((kl.af hb).wide λi p=>qe p) (qe ⟨hk.n,hk.k.lt⟩) hf (NL:=c.nl) (λz q=>hg.dm z λe=>by cases hh:lH rc st Γ z with|none=>exact q hh|some d=>rw[Jx hh]at e;cases e) hl (λz d q=>by
   have:=adf hk hg<|Jx q
   omega) hu ae
 have HWo:∀W:World,Bq w W->Cq 358 #[Mv gb,Sv st] W (pu (λi=>dn c i/\i<w.heap.size) (In.qJ Γ st) W):=λW hb=>TF (GL.af hb) st;have K0:=ai k0;obtain⟨tx,ax,rfl⟩:=hp.iface;obtain⟨tv,xv,rfl⟩:=ht.iface;go_enter func352,ntmps352;go_wp2_with fail;refine HO.mono ?_;rintro e w1⟨u,rfl,hu,k1⟩;have z0:=(uh K0).size;obtain⟨tu,xu,rfl⟩:=hu.iface;have Uk:cW w1 (PSo c w) (bG<|sub s.k T) (Fv tu xu):=hu.wide λi p=>by obtain p|p:=p;exact Or.inl p;simp only[aZ]at p;exact Or.inr ae
 have K1:=K0.trans<|k1.mono K0.size;have B2:=ai<|B1.below k1;have R2:=R1.below k1;have T1:TW w1 (PSo c w) 900000 (sub s.k T) (Fv tu xu):=⟨⟨_,Uk,(cZ.refl _).cut WH,Mb⟩,WH⟩;have U1:=ai Uk;have HI:=py x w1 Q _<|hp.af K1;have⟨b1,b2,b3⟩:=uh B2;go_wp2_with fail;refine HI.mono ?_;rintro e w2⟨rfl,k2⟩;have K2:=K1.trans<|k2.mono K1.size;have B3:=ai<|B2.below k2;have R3:=ai<|R2.below k2;have T2:=T1.af k2;have U2:=U1.af k2;have⟨b1,b2,b3⟩:=uh B3;have⟨r1,r2,r3⟩:=uh R3
 cases hv:qs x with
 |false=>
  go_wp2_with fail;refine bodyPost_ret (v:=Av #[Fv tu xu,Lv none 0 0]) (by simp[results,xc,go_sem,r1]) rfl ?_;rw[hv];exact Ae (d:=qg (lH rc st Γ) s.k T false) (l:=[]) (by simp[qg]) (sa:=none) (sc:=0) zc K2 T2<|qe rfl
 |true=>
  cases rc with
  |false=>
   have HLo:=HL w2 gb tu xu _ K2 (by
    have e:lH false st Γ=Γ:=by simp[lH]
    rw[e];exact(GL.af K2).wide λi p=>qe p) U2
   go_wp2_with fail;refine HLo.mono ?_;rintro e w4⟨sa,sc,rfl,hv4,k4⟩;have K4:=K2.trans<|k4.mono K2.size;have T4:=T2.af k4;have V4:Hid (qP w4 (PSo c w) sa<|qi (lH false st Γ) s.k<|sub s.k T):=ai (hv4.move (br _) (λ_ _ _=>rfl)<|λi p _=>qd (by have:=r3;omega));have⟨q1,q2,q3⟩:=(uh R3).below k4;go_wp2_with fail;refine bodyPost_ret (v:=Av #[Fv tu xu,Lv sa (qi (lH false st Γ) s.k<|sub s.k T).length sc]) (by simp[results,xc,go_sem,q1]) rfl ?_;rw[hv];exact Ae (d:=qg (lH false st Γ) s.k T true) (by simp[qg]) (sc:=sc) zc K4 T4<|uh V4
  |true=>
   have HWi:=HWo w2 K2;go_wp2_with fail;refine HWi.mono ?_;rintro e w3⟨bn,rfl,zn,hn,k3⟩;have K3:=K2.trans<|k3.mono K2.size
   have HLo:=HL w3 bn tu xu _ K3 (by
    have e:lH true st Γ=qr Γ st:=by simp[lH]
    rw[e];exact hn.wide λi p=>qe p) (U2.af k3)
   have T3:=T2.af k3;have R4:=R3.below k3;have z3:=k3.size;go_wp2_with fail;refine HLo.mono ?_;rintro e w4⟨sa,sc,rfl,hv4,k4⟩;have K4:=K3.trans<|k4.mono K3.size;have T4:=T3.af k4;have V4:Hid (qP w4 (PSo c w) sa<|qi (lH true st Γ) s.k<|sub s.k T):=ai (hv4.move (br _) (λ_ _ _=>rfl)<|λi p _=>qd (by have:=r3;omega));have⟨q1,q2,q3⟩:=R4.below k4;go_wp2_with fail;refine bodyPost_ret (v:=Av #[Fv tu xu,Lv sa (qi (lH true st Γ) s.k<|sub s.k T).length sc]) (by simp[results,xc,go_sem,q1]) rfl ?_;rw[hv];exact Ae (d:=qg (lH true st Γ) s.k T true) (by simp[qg]) (sc:=sc) zc K4 T4<|uh V4
def ScE.agx{mk}{K}{t a:Nat}(h:ScE mk nl dom (.mk K st n [x,z] f t a))(hK:K=10\/K=11):st∈nl/\ScE mk nl (λv=>dom v\/(K=11/\v=st)) x/\ScE mk nl (λv=>dom v\/v=st) z:=by
 generalize xK:Nd.mk K st n [x,z] f t a=nd at h
 cases h
 case lt c s n x z f t a hs hc hx hz=>
  injection xK with e1 e2 e3 e4;injection e4 with e4 e5;injection e5 with e5;subst e1 e2 e4 e5;exact⟨hs,hx,hz⟩
 all_goals
  exfalso;injection xK with e1;omega
end
section
variable {c:WC} {cnt:Nat} {s:In.St} {t a:Nat} {vy vz:Value}
def EL{p:Prop}(h:p:=by
 go_wp2_with fail
 go_meet
 case rel=>exact HQ):p:=h
def Uq(Hx:Bh x)(Hy:Bh y)(Hz:Bh z)(h:CO (.mk 12 st n [x,y,z] f t a) c w cnt s kb Λ Γ gb Q dom (.iface 317<|.agg #[Nv f,Nv t,vx,vy,vz]))(hx:PE w Q x vx)(hy:PE w Q y vy)(hz:PE w Q z vz):
 Cq 340 #[Pv c.eb,Mv kb,Mv gb,.agg #[Nv f,Nv t,vx,vy,vz]] w (ba c (1100*nn (.mk 12 st n [x,y,z] f t a)) (1000*nn (.mk 12 st n [x,y,z] f t a)) (qh c.mks (.mk 12 st n [x,y,z] f t a) Γ) s cnt w):=by
 have en:nn (.mk 12 st n [x,y,z] f t a)=1+nn x+nn y+nn z:=LG;obtain⟨sx,sy,sz⟩:ScE c.mks c.nl dom x/\ScE c.mks c.nl dom y/\ScE c.mks c.nl dom z:=by
  cases h.sc with
  |ite _ _ _ _ _ _ _ _ _ hx hy hz=>exact⟨hx,hy,hz⟩
 have fb:=h.ft.b;rw[en]at fb;have H:=gK.start h<|QJ ..
 replace en:=ai en
 clear h;have HX:=ai hx;have HY:=ai hy;have HZ:=ai hz;obtain⟨tx,ax,rfl⟩:=hx.iface;obtain⟨ty,ay,rfl⟩:=hy.iface;obtain⟨tz,az,rfl⟩:=hz.iface;have LV:=hx.place;have plz:=hz.place;dsimp only[PlF]at LV plz;clear hx hy hz;go_enter func340,ntmps340;go_wp2_with fail;refine H.box.ex (D2:=1000*(1+nn y+nn z)) Hx HX sx ?_ qA qA;intro T1 yO yP s1 ak iQ w1 H;have⟨⟨_,b1,b2,b3⟩,_⟩:=H.p;go_wp2_with fail;go_cut[1]from 13 (λv wc=>BE c ak s1 Λ T1 In.oE (In.iw x) (In.ux x) w1 (Rv v) wc)
 case first=>
  go_region_with(first
   |(go_at_call 125;refine(nY).mono ?_;rintro e w4⟨rfl,rfl⟩)
   |(go_at_call 403;refine(c_ _ _).mono ?_;rintro e w5⟨rfl,k5⟩;have K5:Hid (Bq w1 w5):=ai<|(qt _ _).drew.trans k5;clear k5)
   |(go_at_call 324;go_loud(refine(H.eqc K5 ((H.af K5).p.2.1.le (S':=900000) ae) (vV kN _ c _ ae) H.p.2.2<|uz _).mono ?_);intro e w6 hq;obtain⟨fl,vl,vr,rfl,hE⟩|hq:=hq;go_loud(exact⟨rfl,hE⟩);have HQ:=ai hq;obtain⟨b6,rfl,-⟩:=hq))
  all_goals
   exact EL
 case rest=>
  obtain⟨b6,s6,rfl,H⟩:=H.eqd hcut;clear hcut b1 b2 b3;have⟨⟨_,b1,b2,b3⟩,_⟩:=H.p;go_wp2_with fail;refine H.ex (D2:=1000*(1+nn z)) Hy HY sy ?_ ae qA;intro T3 ta3 xa3 s3 qZ kb3 w3 H;clear b1 b2 b3;have⟨⟨⟨_,b1,b2,b3⟩,_⟩,_⟩:=H.p;go_wp2_with fail;refine H.ex (D2:=1000) Hz HZ sz ?_ ae qA;intro T4 ta4 xa4 s4 ajr kb4 w4 H;clear b1 b2 b3;have⟨⟨⟨⟨_,b1,b2,b3⟩,_⟩,_⟩,_⟩:=H.p;go_wp2_with fail;refine(c_ _ _).mono ?_;rintro e w5⟨rfl,K5⟩;have H:=H.af K5;go_wp2_with fail;refine H.eq (H.p.1.2.1.le (S':=900000) ae) (H.p.2.1.le ae) H.p.1.2.2 H.p.2.2 ?_;intro VV s6 w6 H
  go_wp2
  go_ret2;exact H.ret H.p.1.2.1 qA
def acS(Hx:Bh x)(Hy:Bh y)(h:CO (.mk 8 st n [x,y] f t a) c w cnt s kb Λ Γ gb Q dom (.iface 319<|.agg #[Nv f,Nv t,vx,vy]))(hx:PE w Q x vx)(hy:PE w Q y vy):
 Cq 343 #[Pv c.eb,Mv kb,Mv gb,.agg #[Nv f,Nv t,vx,vy]] w (ba c (1100*nn (.mk 8 st n [x,y] f t a)) (1000*nn (.mk 8 st n [x,y] f t a)) (qh c.mks (.mk 8 st n [x,y] f t a) Γ) s cnt w):=by
 have en:nn (.mk 8 st n [x,y] f t a)=1+nn x+nn y:=LG;have⟨sx,sy⟩:=h.sc.agu<|.inr<|.inr rfl;have fb:=h.ft.b;rw[en]at fb;have H:=gK.start h<|I1 ..
 replace en:=ai en
 clear h;have HX:=ai hx;have HY:=ai hy;obtain⟨tx,ax,rfl⟩:=hx.iface;obtain⟨ty,ay,rfl⟩:=hy.iface;clear hx hy;go_enter func343,ntmps343;go_wp2_with fail;refine H.box.ex (D2:=1000*(1+nn y)) Hx HX sx ?_ qA qA;intro T1 yO yP s1 ak iQ w1 H;have⟨⟨_,b1,b2,b3⟩,_⟩:=H.p;go_wp2_with fail;refine H.ex (D2:=1000) Hy HY sy ?_ ae qA;intro T2 ta2 xa2 s2 cD kb2 w2 H;clear b1 b2 b3;have⟨e1,e2,e3⟩:=H.we.bx;go_wp2_with fail;refine H.new (D2:=999) ?_;intro s3 w3 H;clear e1 e2 e3;have⟨⟨⟨⟨_,b1,b2,b3⟩,_⟩,_⟩,_⟩:=H.p;have zc:=H.we.dh
 go_wp2
 go_region_with(first
  |(go_at_call 350;go_loud(refine(ajn H.drew.p.1.2.1 (by simpa using YP w3.drew c (cD+1)) (show c.cb<w3.drew.heap.size from zc)).mono ?_);rintro e w5⟨g,rfl,k5,t5⟩;have K5:=ai<|(qt w3.heap.size w3).drew.trans k5;have T5:=ai t5;have⟨⟨⟨⟨_,d1,d2,d3⟩,_⟩,_⟩,_⟩:=(H.af K5).p;clear k5 t5)
  |(go_at_call 324;go_loud(refine(H.eqc K5 ((H.af K5).p.1.1.2.1.le (S':=900000) ae) (T5.le ae) H.p.1.1.2.2<|acF H.p.1.2.2 H.p.2).mono ?_);intro e w6 hq;obtain⟨fl,vl,vr,rfl,hE⟩|hq:=hq;go_loud(exact⟨rfl,hE⟩);have HQ:=ai hq;obtain⟨b6,rfl,-⟩:=hq))
 all_goals
  go_wp2
  go_ret2;have⟨_,s6,e,H⟩:=H.eqd HQ
  cases e
  exact H.ret (by simpa using YP w6 c (cD+1)) qA
def Up(Hx:Bh x)(Hy:Bh y)(h:CO (.mk 7 st n [x,y] f t a) c w cnt s kb Λ Γ gb Q dom (.iface 297<|.agg #[Nv f,Nv t,.string st,vx,vy]))(hx:PE w Q x vx)(hy:PE w Q y vy)(hs:st=iu\/st=dW\/st=gq\/st=dX):
 Cq 342 #[Pv c.eb,Mv kb,Mv gb,.agg #[Nv f,Nv t,.string st,vx,vy]] w (ba c (1100*nn (.mk 7 st n [x,y] f t a)) (1000*nn (.mk 7 st n [x,y] f t a)) (qh c.mks (.mk 7 st n [x,y] f t a) Γ) s cnt w):=by
 have en:nn (.mk 7 st n [x,y] f t a)=1+nn x+nn y:=LG;have⟨sx,sy⟩:=h.sc.agu<|.inr<|.inl rfl;have fb:=h.ft.b;rw[en]at fb;have H:=gK.start h<|Nh ..
 replace en:=ai en
 clear h;have HX:=ai hx;have HY:=ai hy;obtain⟨tx,ax,rfl⟩:=hx.iface;obtain⟨ty,ay,rfl⟩:=hy.iface;have LV:=hx.place;have ply:=hy.place;dsimp only[PlF]at LV ply;clear hx hy;go_enter func342,ntmps342;go_wp2_with fail;refine H.box.ex (D2:=1000*(1+nn y)) Hx HX sx ?_ qA qA;intro T1 yO yP s1 ak iQ w1 H;have⟨⟨_,b1,b2,b3⟩,_⟩:=H.p;go_wp2_with fail;go_cut[1]from 12 (λv wc=>BE c ak s1 Λ T1 In.iy (In.iw x) (In.ux x) w1 (Rv v) wc)
 case first=>
  go_region_with(first
   |(go_at_call 124;refine(rX).mono ?_;rintro e w4⟨rfl,rfl⟩)
   |(go_at_call 403;refine(c_ _ _).mono ?_;rintro e w5⟨rfl,k5⟩;have K5:Hid (Bq w1 w5):=ai<|(qt _ _).drew.trans k5;clear k5)
   |(go_at_call 324;go_loud(refine(H.eqc K5 ((H.af K5).p.2.1.le (S':=900000) ae) (vV mJ _ c _ ae) H.p.2.2<|uz _).mono ?_);intro e w6 hq;obtain⟨fl,vl,vr,rfl,hE⟩|hq:=hq;go_loud(exact⟨rfl,hE⟩);have HQ:=ai hq;obtain⟨b6,rfl,-⟩:=hq))
  all_goals
   exact EL
 case rest=>
  obtain⟨b6,s6,rfl,H⟩:=H.eqd hcut;clear hcut b1 b2 b3 LV;have⟨⟨_,b1,b2,b3⟩,_⟩:=H.p;go_wp2_with fail;refine H.ex (D2:=1000) Hy HY sy ?_ ae qA;intro T3 ta3 xa3 s3 qZ kb3 w3 H;clear b1 b2 b3;have⟨⟨⟨_,b1,b2,b3⟩,_⟩,_⟩:=H.p;go_wp2_with fail;go_cut[1]from 12 (λv wd=>BE c qZ s3 Λ T3 In.iy (In.iw y) (In.ux y) w3 (Rv v) wd)
  case first=>
   go_region_with(first
    |(go_at_call 124;refine(rX).mono ?_;rintro e w4⟨rfl,rfl⟩)
    |(go_at_call 403;refine(c_ _ _).mono ?_;rintro e w5⟨rfl,k5⟩;have K5:Hid (Bq w3 w5):=ai<|(qt _ _).drew.trans k5;clear k5)
    |(go_at_call 324;go_loud(refine(H.eqc K5 ((H.af K5).p.2.1.le (S':=900000) ae) (vV mJ _ c _ ae) H.p.2.2<|uz _).mono ?_);intro e w6 hq;obtain⟨fl,vl,vr,rfl,hE⟩|hq:=hq;go_loud(exact⟨rfl,hE⟩);have HQ:=ai hq;obtain⟨b6,rfl,-⟩:=hq))
   all_goals
    exact EL
  case rest=>
   obtain⟨b7,s7,rfl,H⟩:=H.eqd hcut;clear hcut b1 b2 b3 ply;have⟨⟨⟨_,b1,b2,b3⟩,_⟩,_⟩:=H.p;have⟨e1,e2,e3⟩:=H.we.bx;obtain⟨hk,xQ⟩|⟨hk,xQ⟩:=H.we.rs.drew.look hs
   all_goals(
    first|have EO:Hid (opT st=In.oE):=ai (if_pos hk)|have EO:Hid (opT st=In.iy):=ai<|if_neg hk
    clear hk
    go_wp2
    go_region_with(first|(go_at_call 125;refine(nY).mono ?_;rintro e w4⟨rfl,rfl⟩)|(go_at_call 124;refine(rX).mono ?_;rintro e w4⟨rfl,rfl⟩));all_goals
     go_wp2
     go_ret2
     exact H.drew.ret (by rw[uh EO];first|exact vV kN _ c 1 (by omega)|exact vV mJ _ c 1 ae) qA)
def acR(Hx:Bh x)(Hy:Bh y)(h:CO (.mk 6 st n [x,y] f t a) c w cnt s kb Λ Γ gb Q dom (.iface 309<|.agg #[Nv f,Nv t,vx,vy]))(hx:PE w Q x vx)(hy:PE w Q y vy):
 Cq 336 #[Pv c.eb,Mv kb,Mv gb,.agg #[Nv f,Nv t,vx,vy]] w (ba c (1100*nn (.mk 6 st n [x,y] f t a)) (1000*nn (.mk 6 st n [x,y] f t a)) (qh c.mks (.mk 6 st n [x,y] f t a) Γ) s cnt w):=by
 have en:nn (.mk 6 st n [x,y] f t a)=1+nn x+nn y:=LG;have⟨sx,sy⟩:=h.sc.agu<|.inl rfl;have H:=gK.start h<|Ng ..
 replace en:=ai en
 clear h;have HX:=ai hx;have HY:=ai hy;obtain⟨tx,ax,rfl⟩:=hx.iface;obtain⟨ty,ay,rfl⟩:=hy.iface;clear hx hy;go_enter func336,ntmps336;go_wp2_with fail;refine H.box.ex (D2:=1000*(1+nn y)) Hx HX sx ?_ qA qA;intro T1 yO yP s1 ak iQ w1 H;have⟨⟨_,b1,b2,b3⟩,_⟩:=H.p;go_wp2_with fail;refine H.ex (D2:=1000) Hy HY sy ?_ ae qA;intro T2 ta2 xa2 s2 cD kb2 w2 H;have zc:=H.we.dh;go_wp2_with fail;refine(Pm (w:=w2) yO ta2 yP xa2).mono ?_;rintro e w3⟨rfl,rfl⟩
 go_wp2
 go_ret2;exact(H.af<|bw _).ret (TW.pr H.p.1.2.1 H.p.2.1 zc) qA
def ajo{y}(Hx:Bh x)(h:CO (.mk 9 st n [x] f t a) c w cnt s kb Λ Γ gb Q dom (.iface 313<|.agg #[Nv f,Nv t,Nv a,Nv y,.string st,vx]))(hx:PE w Q x vx):
 Cq 338 #[Pv c.eb,Mv kb,Mv gb,.agg #[Nv f,Nv t,Nv a,Nv y,.string st,vx]] w (ba c (1100*nn (.mk 9 st n [x] f t a)) (1000*nn (.mk 9 st n [x] f t a)) (qh c.mks (.mk 9 st n [x] f t a) Γ) s cnt w):=by
 have en:nn (.mk 9 st n [x] f t a)=1+nn x:=qBi;have dU:=jU;obtain⟨iL,sx⟩:st∈c.nl/\ScE c.mks c.nl (λv=>dom v\/v=st) x:=by
  cases h.sc with
  |fn _ _ _ _ _ _ _ hs hx=>exact⟨hs,hx⟩
 have H:=gK.start h<|M_ ..
 replace en:=ai en
 clear h;have HX:=ai hx;obtain⟨tx,ax,rfl⟩:=hx.iface;clear hx;have⟨e1,e2,e3⟩:=H.we.bx;go_enter func338,ntmps338;go_wp2_with fail;refine H.box.new (D2:=1000*nn x+999) ?_ qA;intro s3 w3 H;clear e1 e2 e3;have⟨⟨_,b1,b2,b3⟩,_⟩:=H.p
 go_wp2
 go_region_with(first
  |(go_at_call 319;go_loud(refine(xP ((H.wg.fr H.f H.st.p.run).e.af (qt _ _).drew) st<|I4 (pD w3.drew c cnt 1<|br _) ae).mono ?_);rintro e w5⟨b5,rfl,z5,h5,k5⟩;have K5:=ai<|(qt w3.heap.size w3).drew.trans k5;have⟨⟨_,d1,d2,d3⟩,_⟩:=(H.af K5).p;have E5:=ai h5;have Z5:=ai z5;clear k5 h5 z5)
  |(go_at_call 323;go_loud(refine H.exG (D2:=999) K5 Hx (H.asks K5 E5 Z5 H.p.2.mono jt iL HX sx (λ_ q=>q) ae qA) ?_);intro T6 YU YV s6 Jf VV w6 H6))
 all_goals
  have z6:=H6.we.dh;go_wp2_with fail;refine(ajn (pD w6 c cnt 1<|br _) H6.p.2.1 z6).mono ?_;rintro e w7⟨g,rfl,k7,t7⟩
  go_wp2
  go_ret2;exact(H6.af k7).ret t7 qA
end
end
section
open Un
def cL{c}{a}{z}(hk:k≠0)(h:(bm c k a b z).kind=0):c=false/\z.kind=0:=by
 rw[bm]at h
 cases c with
 |false=>exact⟨rfl,h⟩|true=>
  rw[if_pos rfl]at h;exact absurd h (UE k a b z hk).1
mutual
def ZD{ty:BA->Option Nat}{own:List BA}:∀(nd:Nd)(z:Fl),(tU ty own nd z).kind=0->z.kind=0
 |.mk k s n L f t a,z,h=>by
  rw[tU]at h;exact(cL aK (cL aK<|Af L _ h).2).2
def Af{ty:BA->Option Nat}{own:List BA}:∀(l:List Nd)(z:Fl),(gI ty own l z).kind=0->z.kind=0
 |[],z,h=>h|x::l,z,h=>by rw[gI]at h;exact ZD x z<|Af l _ h
end
mutual
def ae4{mk:BA->Option Nat}:∀(nd:Nd)(q:List BA×Fl),(nR mk nd q).2.kind=0->q.2.kind=0
 |.mk k s n L f t a,q,h=>by
  rw[nR]at h;split at h
  .exact(cL aK h).2
  .exact(cL aK<|EP L _ h).2
def EP{mk:BA->Option Nat}:∀(l:List Nd)(q:List BA×Fl),(dG mk l q).2.kind=0->q.2.kind=0
 |[],q,h=>h|x::l,q,h=>by rw[dG]at h;exact ae4 x q<|EP l _ h
end
mutual
def mq{ty mk:BA->Option Nat}:∀(nd:Nd)(l:List BA)(z:Fl),(dN ty mk nd l z).kind=0->z.kind=0
 |.mk k s n L f t a,l,z,h=>by
  rw[dN]at h;split at h
  .exact(cL aK h).2
  split at h
  .exact(cL aK h).2
  split at h
  .exact ZE L _ z h
  split at h
  .exact ZF L _ _ z h
  split at h
  .exact ZF L _ _ z h
  split at h
  .exact agR L l z h
  split at h
  .exact agS L l z h
  .exact ZG L l z h
def ZE{ty mk:BA->Option Nat}:∀(L:List Nd)(l:List BA)(z:Fl),(ER ty mk L l z).kind=0->z.kind=0
 |[],l,z,h=>h|x::r,l,z,h=>mq x l z (by rw[ER]at h;exact h)
def ZF{ty mk:BA->Option Nat}:∀(L:List Nd)(l l':List BA)(z:Fl),(Jy ty mk L l l' z).kind=0->z.kind=0
 |[],l,l',z,h=>h|x::r,l,l',z,h=>mq x l z (ZE r l' _ (by rw[Jy]at h;exact h))
def agS{ty mk:BA->Option Nat}:∀(L:List Nd)(l:List BA)(z:Fl),(ET ty mk L l z).kind=0->z.kind=0
 |[],l,z,h=>h|[x],l,z,h=>mq x l z (by rw[ET]at h;exact h)|x::y::r,l,z,h=>mq x l z (ZD y _ (by rw[ET]at h;exact h))
def ZG{ty mk:BA->Option Nat}:∀(L:List Nd)(l:List BA)(z:Fl),(gY ty mk L l z).kind=0->z.kind=0
 |[],l,z,h=>h|x::r,l,z,h=>mq x l z (ZG r l _ (by rw[gY]at h;exact h))
def agR{ty mk:BA->Option Nat}:∀(L:List Nd)(l:List BA)(z:Fl),(ND ty mk L l z).kind=0->z.kind=0
 |[],l,z,h=>h|x::r,l,z,h=>mq x l z (EU r l _ (by rw[ND]at h;exact h))
def EU{ty mk:BA->Option Nat}:∀(L:List Nd)(l:List BA)(z:Fl),(mV ty mk L l z).kind=0->z.kind=0
 |[],l,z,h=>h|p::r,l,z,h=>ae4 p ([],z) (agT r l _ (by rw[mV]at h;exact h))
def agT{ty mk:BA->Option Nat}:∀(L:List Nd)(l:List BA)(q:List BA×Fl),(IX ty mk L l q).kind=0->q.2.kind=0
 |[],l,q,h=>h|e::r,l,q,h=>mq e _ q.2 (EU r l _ (by rw[IX]at h;exact h))
end
mutual
def nS:Nd->List BA
 |.mk _ s _ L _ _ _=>s::jY L
def jY:List Nd->List BA
 |[]=>[]|x::l=>nS x++jY l
end
mutual
def Jz:∀nd,(nS nd).length=nn nd
 |.mk k s n L f t a=>by simp only[nS,nn,pk,Da L];omega
def Da:∀l,(jY l).length=b8 l
 |[]=>rfl|x::l=>by simp only[jY,b8,tQ,Jz x,Da l]
end
def Gh.head{s:BA}(h:Gh s):∃x r,s.toList=x::r/\65<=x.toNat/\x.toNat<=90:=by
 obtain⟨x,r,h1,h2,_⟩:=h;exact⟨x,r,h1,by simp[Pu.Bl]at h2;omega,by simp[Pu.Bl]at h2;omega⟩
def Gh.ne(h:Gh s)y q(hy:y.toNat<65\/90<y.toNat):s≠⟨(y::q).toArray⟩:=by
 rintro rfl;have⟨x,r,h1,h2,h3⟩:=h.head;rw[toList_mk]at h1;injection h1 with e1 _;subst e1;omega
def Gh.VZ(h:Gh s)(hz:s.size<=400)n:VZ s n:=
 ⟨ae,λe=>(by
  obtain e|e:=e
  .exact absurd e (h.ne 62 [] aK)
  .exact absurd e (h.ne 44 [] aK)),.inr<|.inr h⟩
structure TyG own nd:Prop where
 st:(aH own nd).2=own
 oc:∀n,aD n (aH own nd).1->1<=n/\n<=own.length
 es:aH own (es nd)=aH own nd
 sz:size (aH own nd).1<=nn nd
 wh:Whole (aH own nd).1
 ty:nn nd<=1001->sI nd
structure BI own L:Prop where
 st:(aA own L).2=own
 oc:∀n,bT n (aA own L).1->1<=n/\n<=own.length
 es:aA own (vX L)=aA own L
 sz:ah (aA own L).1<=b8 L
 wh:jK (aA own L).1
 ty:b8 L<=1001->∀i(h:i<L.length),sI L[i]
def BI.of{own:List BA}:∀{L:List Nd},(∀x∈L,TyG own x)->BI own L
 |[],_=>⟨rfl,λn h=>h.elim,rfl,br _,trivial,λ_ i h=>absurd h<|qw i⟩|x::L,h=>by
  have hx:=h x ag;have hL:=BI.of (L:=L) λy hy=>h y (by simp[hy]);refine⟨?_,?_,?_,?_,?_,λhn i hi=>?_⟩
  .simp only[aA];rw[hx.st];exact hL.st
  .simp only[aA];rw[hx.st];exact λn q=>q.elim (hx.oc n)<|hL.oc n
  .simp only[aA,vX];rw[hx.es,hx.st,hL.es]
  .simp only[aA,ah,b8];rw[hx.st];have:=hx.sz;have:=hL.sz;omega
  .simp only[aA];rw[hx.st];exact⟨hx.wh,hL.wh⟩
  .simp only[b8]at hn
   cases i with
   |zero=>exact hx.ty ae|succ i=>exact hL.ty ae i qBl
def TyG.aJ{own}{k}{s}{n f t a}{L}(hk:k=2\/k=6\/k=17)(hs:fy k s≠rH)(hL:BI own L)(Tf:nn (.mk k s n L f t a)<=1001->sI (.mk k s n L f t a)):TyG own (.mk k s n L f t a):=by
 have h16:k≠16:=ae;have h3:¬(k=3\/k=15):=ae;have em:∀(s:BA)n(M:List Nd)f t a,aH own (.mk k s n M f t a)=(.aJ (fy k s) (aA own M).1,(aA own M).2):=λs n M f t a=>by simp[aH,h16]
 refine⟨?_,?_,?_,?_,?_,Tf⟩
 .rw[em];exact hL.st
 .rw[em];exact hL.oc
 .simp only[Go.Proofs.YtfnkchdeheeiiaaGreatDoor.es];rw[if_neg h3,em,em,hL.es]
 .rw[em];simp only[size,nn];have:=hL.sz;omega
 .rw[em];exact⟨hs,hL.wh⟩
def oN{ty:BA->Option Nat}{own:List BA}:∀{L:List Nd}{z:Fl},(gI ty own L z).kind=0->∀x∈L,∃z',(tU ty own x z').kind=0
 |y::L,z,h,x,hx=>by
  rw[gI]at h;obtain e|e:=List.mem_cons.1 hx
  .subst e;exact⟨z,Af L _ h⟩
  .exact oN h x e
def Q_{p:Prop}(h:p:=by
 obtain⟨z',q⟩:=oN hz u hu;simp only[jc,jo,or_false]at hu;obtain rfl|rfl:=hu
 .exact dH z' q
 .exact gJ z' q):p:=h
def NE{own}{nd:Nd}(h:tV nd):∀z,(tU ty own nd z).kind=0->TyG own nd:=by
 induction h with
 |var s n f t a h1 h2 h3=>
  intro z hz;rw[tU,gI]at hz;have hi:s∈own:=by
   have:=(cL aK (cL aK hz).2).1;simpa[fU]using this
  have em:∀n f t a,aH own (.mk 16 s n [] f t a)=(.var<|ix s own+1,own):=λn f t a=>by simp[aH,DG hi]
  refine⟨by rw[em],?_,?_,by rw[em];simp[size,nn],by rw[em];trivial,λ_=>.var s n f t a⟩
  .rw[em];intro n q;have q:n=ix s own+1:=by first|exact q|exact q.symm
   have:=NF hi;omega
  .simp only[Go.Proofs.YtfnkchdeheeiiaaGreatDoor.es,vX];rw[em,if_neg aK,em]
 |up s n L f t a h1 h2 h3 h4 ih=>
  intro z hz;rw[tU]at hz;have hL:BI own L:=.of λx hx=>by
   have⟨z',q⟩:=oN hz x hx;exact ih x hx z' q
  refine .aJ (qe rfl) ?_ hL λhn=>?_
  .rw[show fy 2 s=s from rfl];exact h1.ne 116 [111,111,32,108,97,114,103,101] aK
  .simp only[nn]at hn;have:=mU L;exact .up s n L f t a (h1.VZ h2) ae<|hL.ty ae
 |pr x y f t a h1 h2 dH gJ=>
  intro z hz;rw[tU]at hz;have hL:BI own [x,y]:=.of λu hu=>by
   exact Q_
  refine .aJ (qd<|qe rfl) aK hL λhn=>?_;simp only[nn]at hn;exact .two 6 fX 0 x y f t a (qd rfl) (hL.ty ae 0 ag)<|hL.ty ae 1 ag
 |fn x y f t a h1 h2 dH gJ=>
  intro z hz;rw[tU]at hz;have hL:BI own [x,y]:=.of λu hu=>by
   exact Q_
  refine .aJ (qd<|qd rfl) aK hL λhn=>?_;simp only[nn]at hn;exact .two 17 fX 0 x y f t a (qe rfl) (hL.ty ae 0 ag)<|hL.ty ae 1 ag
def TyG.shut{nd:Nd}(h:TyG [] nd):vars [] (aH []<|Go.Proofs.YtfnkchdeheeiiaaGreatDoor.es nd).1=[]:=by
 rw[h.es];exact y_ _ [] λn hn=>by have:=h.oc n hn;simp at this;omega
def sW(mk:BA->Option Nat)(mks:qk):=∀s n,mk s=some n->∃tk m,mks s=some (tk,m)/\tk.length=n
def EV(hr:sW mk mks):∀{L:List Nd},(∀x∈L,∀q,(nR mk x q).2.kind=0->(∀s∈nS x,s∈nl)->(nR mk x q).1=q.1++pC x/\rN mks nl x)->∀q,(dG mk L q).2.kind=0->(∀s∈jY L,s∈nl)->(dG mk L q).1=q.1++mX L/\∀i(h:i<L.length),rN mks nl L[i]
 |[],_,q,_,_=>⟨by simp[dG,mX],λi h=>absurd h<|qw i⟩|x::L,ih,q,hz,hn=>by
  rw[dG]at hz⊢;have⟨h1,h2⟩:=ih x ag q (EP L _ hz) λs hs=>hn s (by simp[jY,hs]);have⟨h3,h4⟩:=EV hr (L:=L) (λy hy=>ih y<|by simp[hy]) _ hz λs hs=>hn s (by simp[jY,hs]);refine⟨by rw[h3,h1];simp[mX],λi hi=>?_⟩
  cases i with
  |zero=>exact h2|succ i=>exact h4 i qBl
def agU(hr:sW mk mks){nd:Nd}(h:z_ nd):∀q,(nR mk nd q).2.kind=0->(∀s∈nS nd,s∈nl)->(nR mk nd q).1=q.1++pC nd/\rN mks nl nd:=by
 induction h with
 |any s f t a _=>exact λq _ _=>⟨by simp[nR,dG,pC,mX],.leaf 15 s 0 f t a ag⟩|low s f t a _ _=>exact λq _ hn=>⟨by simp[nR,pC],.low s 0 f t a<|hn s<|by simp[nS]⟩|num s n f t a _ _=>exact λq _ _=>⟨by simp[nR,dG,pC,mX],.leaf 3 s n f t a ag⟩|word s f t a _ _=>exact λq _ _=>⟨by simp[nR,dG,pC,mX],.leaf 4 s 0 f t a ag⟩|unit f t a=>exact λq _ _=>⟨by simp[nR,dG,pC,mX],.leaf 5 fX 0 f t a ag⟩|pr x y f t a _ _ dH gJ=>
  intro q hz hn;have e:nR mk (.mk 6 fX 0 [x,y] f t a) q=dG mk [x,y] q:=by simp[nR,bm]
  rw[e]at hz⊢
  have⟨h1,h2⟩:=EV hr (L:=[x,y]) (λu hu=>by
   simp only[jc,jo,or_false]at hu;obtain rfl|rfl:=hu
   .exact dH
   .exact gJ) q hz λs hs=>hn s (by simp only[nS,jc];exact qd hs)
  exact⟨by rw[h1];simp[pC],.pr fX 0 x y f t a (h2 0 ag)<|h2 1 ag⟩
 |up s n L f t a _ _ _ _ ih=>
  intro q hz hn;have e:nR mk (.mk 2 s n L f t a) q=dG mk L (q.1,bm (mk s !=some L.length) 5 a (a+s.size) q.2):=by simp[nR]
  rw[e]at hz⊢;have hm:=(cL aK<|EP L _ hz).1;have⟨h1,h2⟩:=EV hr (L:=L) (λu hu=>ih u hu) _ hz λs hs=>hn s (by simp only[nS,jc];exact qd hs);have⟨tk,m,g1,g2⟩:=hr s L.length (by simpa using hm);exact⟨by rw[h1];simp[pC],.up s n L f t a tk m g1 g2.symm h2⟩
def Q'(hr:sW mk mks){l:List BA}{dom:BA->Prop}(hd:∀s∈l,dom s):∀{A:List (Nd×Nd)},(∀p∈A,z_ p.1)->(∀p∈A,∀l z,(dN ty mk p.2 l z).kind=0->(∀s∈nS p.2,s∈nl)->nn p.2<=1000->∀dom:BA->Prop,(∀s∈l,dom s)->ScE mks nl dom p.2)->∀z,(mV ty mk (aU A) l z).kind=0->(∀s∈jY (aU A),s∈nl)->b8 (aU A)<=1000->(∀i(h:i<A.length),rN mks nl A[i].1)/\∀i(h:i<A.length),ScE mks nl (λv=>dom v\/v∈pC A[i].1) A[i].2
 |[],_,_,z,_,_,_=>⟨λi h=>absurd h<|qw i,λi h=>absurd h<|qw i⟩|(p,e)::A,hp,he,z,hz,hn,hl=>by
  simp only[aU]at hz hn hl;simp only[jY,jf]at hn;simp only[b8]at hl;rw[mV,IX]at hz;have h1:=EU (aU A) l _ hz;have⟨g1,g2⟩:=agU hr (hp (p,e) ag) _ (mq e _ _ h1) λs hs=>hn s<|qe hs;simp only[List.nil_append]at g1;have⟨f1,f2⟩:=Q' hr hd (A:=A) (λq hq=>hp q<|by simp[hq]) (λq hq=>he q<|by simp[hq]) _ hz (λs hs=>hn s<|qd<|qd hs) ae;have g3:=he (p,e) ag _ _ h1 (λs hs=>hn s<|qd<|qe hs) (by show nn e<=1000;omega) (λv=>dom v\/v∈pC p) λs hs=>by
   obtain q|q:=List.mem_append.1 hs
   .exact qe (hd s q)
   .rw[g1]at q;exact qd q
  refine⟨λi hi=>?_,λi hi=>?_⟩
  .cases i with
   |zero=>exact g2|succ i=>exact f1 i qBl
  .cases i with
   |zero=>exact g3|succ i=>exact f2 i qBl
def EG ty mk(mks:qk)nl nd:=∀l z,(dN ty mk nd l z).kind=0->(∀s∈nS nd,s∈nl)->nn nd<=1000->∀dom:BA->Prop,(∀s∈l,dom s)->ScE mks nl dom nd
def EG.two{k}{s}{n f t a}{x y}(hk:k=6\/k=7\/k=8)(hx:EG ty mk mks nl x)(hy:EG ty mk mks nl y):EG ty mk mks nl (.mk k s n [x,y] f t a):=by
 intro l z hz hn hl dom hd;have e:dN ty mk (.mk k s n [x,y] f t a) l z=dN ty mk y l (dN ty mk x l z):=by obtain rfl|rfl|rfl:=hk<;>simp[dN,gY]
 rw[e]at hz;simp only[nS,jY,jc,jf,jh]at hn;simp only[nn,b8]at hl;exact .two dom k s n x y f t a hk (hx l z (mq y _ _ hz) (λs hs=>hn s<|qd<|qe hs) ae dom hd)<|hy l _ hz (λs hs=>hn s<|qd<|qd hs) ae dom hd
def EG.fn{s}{n f t a}{x}(hx:EG ty mk mks nl x):EG ty mk mks nl (.mk 9 s n [x] f t a):=by
 intro l z hz hn hl dom hd;have e:dN ty mk (.mk 9 s n [x] f t a) l z=dN ty mk x (l++[s]) z:=by simp[dN,ER]
 rw[e]at hz;simp only[nS,jY,jc,jh]at hn;simp only[nn,b8]at hl;refine .fn dom s n x f t a (hn s<|qe rfl)<|hx _ z hz (λs hs=>hn s<|qd hs) ae _ λv hv=>?_;obtain q|q:=List.mem_append.1 hv
 .exact qe (hd v q)
 .grind
def EG.lt{c}{s}{n f t a}{x y}(hc:c=10\/c=11)(hx:EG ty mk mks nl x)(hy:EG ty mk mks nl y):EG ty mk mks nl (.mk c s n [x,y] f t a):=by
 intro l z hz hn hl dom hd;have e:dN ty mk (.mk c s n [x,y] f t a) l z=dN ty mk y (l++[s]) (dN ty mk x (if c=11 then l++[s]else l) z):=by obtain rfl|rfl:=hc<;>simp[dN,Jy,ER]
 rw[e]at hz;simp only[nS,jY,jc,jf,jh]at hn;simp only[nn,b8]at hl;have hs:∀v∈l++[s],dom v\/v=s:=λv hv=>by
  obtain q|q:=List.mem_append.1 hv
  .exact qe (hd v q)
  .grind
 refine .lt dom c s n x y f t a (hn s<|qe rfl) hc (hx _ z (mq y _ _ hz) (λs hs=>hn s<|qd<|qe hs) ae _ λv hv=>?_)<|hy _ _ hz (λs hs=>hn s<|qd<|qd hs) ae _ hs;split at hv
 .rename_i q;exact(hs v hv).imp id λe=>⟨q,e⟩
 .grind
def agV(hr:sW mk mks){nd}(h:iE nd):EG ty mk mks nl nd:=by
 induction h with
 |low s f t a _ _=>
  intro l z hz hn hl dom hd;have e:dN ty mk (.mk 1 s 0 [] f t a) l z=bm (!fU s l) 5 f t z:=by simp[dN]
  rw[e]at hz;exact .low dom s 0 f t a (hd s<|QW.1<|by simpa using(cL aK hz).1)
 |up s f t a _ _=>
  intro l z hz hn hl dom hd;have e:dN ty mk (.mk 2 s 0 [] f t a) l z=bm (mk s).isNone 5 f t z:=by simp[dN]
  rw[e]at hz;have h1:=(cL aK hz).1
  cases hm:mk s with
  |none=>grind|some n=>
   have⟨tk,m,g1,_⟩:=hr s n hm;exact .up dom s 0 f t a tk m g1
 |num s n f t a _ _=>exact λl z _ _ _ dom _=>.leaf dom 3 s n f t a ag|word s f t a _ _=>exact λl z _ _ _ dom _=>.leaf dom 4 s 0 f t a ag|unit f t a=>exact λl z _ _ _ dom _=>.leaf dom 5 fX 0 f t a ag|pr x y f t a _ _ dH gJ=>exact .two ag dH gJ|of x y f t a _ hy dH=>
  intro l z hz hn hl dom hd;have e:dN ty mk (.mk 14 fX 0 [x,y] f t a) l z=tU ty [] y (dN ty mk x l z):=by simp[dN,ET]
  rw[e]at hz;simp only[nS,jY,jc,jf,jh]at hn;simp only[nn,b8]at hl;have g:=NE hy _ hz;have gz:=g.sz;exact .of dom fX 0 x y f t a (dH l z (ZD y _ hz) (λs hs=>hn s<|qd<|qe hs) ae dom hd) g.shut (by rw[g.es];omega) (by rw[g.es];exact g.wh)
 |op s x y f t a _ _ _ dH gJ=>exact .two ag dH gJ|call x y f t a _ _ dH gJ=>exact .two ag dH gJ|fn s x f t a _ _ _ ih=>exact ih.fn|lt s x z f t a _ _ _ _ dH ZH=>exact .lt (qe rfl) dH ZH|ltr s s' x z f t a f' t' a' _ _ _ _ _ _ dH ZH=>exact .lt (qd rfl) dH.fn ZH|ite x y w f t a _ _ _ dH gJ ihw=>
  intro l z hz hn hl dom hd;have e:dN ty mk (.mk 12 fX 0 [x,y,w] f t a) l z=dN ty mk w l (dN ty mk y l<|dN ty mk x l z):=by simp[dN,gY]
  rw[e]at hz;simp only[nS,jY,jc,jf,jh]at hn;simp only[nn,b8]at hl;have h1:=mq w _ _ hz;exact .ite dom fX 0 x y w f t a (dH l z (mq y _ _ h1) (λs hs=>hn s<|qd<|qe hs) ae dom hd) (gJ l _ h1 (λs hs=>hn s<|qd<|qd<|qe hs) ae dom hd)<|ihw l _ hz (λs hs=>hn s<|qd<|qd<|qd hs) ae dom hd
 |mt x A f t a _ _ hp _ dH ihA=>
  intro l z hz hn hl dom hd;have e:dN ty mk (.mk 13 fX 0 (x::aU A) f t a) l z=mV ty mk (aU A) l (dN ty mk x l z):=by simp[dN,ND]
  rw[e]at hz;simp only[nS,jY,jc,jf]at hn;simp only[nn,b8]at hl;have⟨g1,g2⟩:=Q' hr hd hp (λp hq=>ihA p hq) _ hz (λs hs=>hn s<|qd<|qd hs) ae;exact .mt dom fX 0 x A f t a (dH l z (EU (aU A) l _ hz) (λs hs=>hn s<|qd<|qe hs) ae dom hd) g1 g2
def kl:Nd->Nat
 |.mk _ _ _ L _ _ _=>L.length
def MkL:Dc->Prop
 |.ty _ vs ms=>∀m∈ms,vs.length+nn m+kl m<=802|.lt _ _ _=>True
def agW{s:Nat}(d:eA T e s k j a):10<=s->nn a+kl a<=2*(j-k):=by
 induction d
 case add d1 d2 i1 i2=>
  intro h;have:=d1.le;have:=Aa d2;have:=i1 h;rw[Zp,show∀x y u,kl (Nd.add x y u)=kl x+1 from λx y u=>by cases x;simp[Nd.add,kl]];omega
 case par d _ ih=>intro h;have:=ih h;omega
 case nm=>intro;simp[nn,b8,kl]
 all_goals intro;omega
def UF(hs:¬400<s.size):match bY s with
 |.error _=>True|.ok l=>∀d∈l,MkL d:=by
 have q:=EH hs;have hl:=(oK s ae).2
 cases e:bY s with
 |error f=>trivial|ok l=>
  rw[e]at q;obtain⟨j,q⟩:=q;refine q.all λi j d z=>?_
  cases z with
  |lt=>trivial|ty _ _ m h1 h2=>exact m.all λk q' x a b c=>by have:=agW c aK;have:=c.le;omega
def NG:∀{vs:List jx}{p:List BA}{z:Fl},(Bz p vs z).kind=0->z.kind=0/\(vs.map (·.text)).Nodup/\∀v∈vs,v.text∉p
 |[],p,z,h=>⟨h,ag,ag⟩|v::r,p,z,h=>by
  rw[Bz]at h;have⟨h1,h2,h3⟩:=NG h;have⟨h4,h5⟩:=cL aK h1;refine⟨h5,?_,?_⟩
  .simp only[jk,List.nodup_cons];refine⟨λq=>?_,h2⟩;have⟨u,hu,e⟩:=List.mem_map.1 q;exact h3 u hu Mm
  .intro u hu;obtain e|e:=List.mem_cons.1 hu
   .subst e;exact Ee.1 h4
   .exact λq=>h3 u e ML
def ZI{ty:BA->Option Nat}(t:jx)(vs:List jx):∀{ms:List Nd}{q:(BA->Option Nat)×Fl}{mks:qk},(∀m∈ms,Jk tV m)->(Ag fS ty (vs.map (·.text)) ms q).2.kind=0->sW q.1 mks->
 q.2.kind=0/\sW (Ag fS ty (vs.map (·.text)) ms q).1 (In.wi t vs ms mks)/\∀m∈ms,∃s L f u a,m=.mk 2 s 0 L f u a/\BI (vs.map (·.text)) L
 |[],q,mks,_,h,hm=>⟨h,hm,ag⟩|m::r,q,mks,h3,h,hm=>by
  obtain⟨s,L,f,u,a,rfl,g1,g2,g3⟩:=h3 m ag;rw[Ag]at h⊢;have hL':∀(z:Fl),(gI ty (vs.map (·.text)) L z).kind=0->BI (vs.map (·.text)) L:=λz hz=>.of λx hx=>by
   have⟨z',q⟩:=oN hz x hx;exact NE (g3 x hx) z' q
  have hs:sW (fS q.1 s L.length) (λy=>if y=qm (.mk 2 s 0 L f u a)then some (qn (vs.map (·.text))<|.mk 2 s 0 L f u a,qf t vs)else mks y):=by
   intro y n hy;rw[fS]at hy;by_cases e:y=s
   .rw[if_pos e]at hy;injection hy with hy;refine⟨_,_,if_pos<|show y=qm (.mk 2 s 0 L f u a)from e,?_⟩;rw[<-hy];have:∀(l:List Nd)ns,(aA ns<|vX l).1.length=l.length:=by
     intro l
     induction l with
     |nil=>intro ns;rfl|cons x l ih=>intro ns;simp only[vX,aA,pk,ih]
    exact this L _
   .rw[if_neg e]at hy;have⟨tk,m,q1,q2⟩:=hm y n hy;exact⟨tk,m,(if_neg e).trans q1,q2⟩
  have⟨k1,k2,k3⟩:=ZI t vs (ms:=r) (λm hm=>h3 m<|by simp[hm]) h hs;refine⟨(cL aK<|Af L _ k1).2,k2,λm hm=>?_⟩;obtain e|e:=List.mem_cons.1 hm
  .grind
  .exact k3 m e
def UG(t:jx)(vs:List jx)n(h:1<=n/\n<=vs.length):aD n (qf t vs):=by
 rw[qf];simp only[aD];have:∀(l:List Nat),n-1∈l->bT n (l.map λi=>Ty.var<|i+1):=by
  intro l
  induction l with
  |nil=>simp|cons x l ih=>
   intro hx;simp only[jk,bT];obtain e|e:=List.mem_cons.1 hx
   .left;simp only[aD];omega
   .exact qd (ih e)
 exact this _<|List.mem_range.2 ae
def NH(t:jx)(vs:List jx):size (qf t vs)=1+vs.length:=by
 rw[qf];simp only[size];have:∀(l:List Nat),ah (l.map λi=>Ty.var<|i+1)=l.length:=by
  intro l
  induction l with
  |nil=>rfl|cons x l ih=>simp only[jk,ah,size,ih,pk];omega
 rw[this,List.length_range]
def JA{t}(vs:List jx)(h:Gh t.text):Whole (qf t vs):=by
 refine⟨h.ne 116 [111,111,32,108,97,114,103,101] aK,?_⟩;have:∀(l:List Nat),jK<|l.map λi=>Ty.var<|i+1:=by
  intro l
  induction l with
  |nil=>trivial|cons x l ih=>exact⟨trivial,ih⟩
 exact this _
def Ra:∀(tk:List Ty)(m:Ty),size (ql tk m)=ah tk+tk.length+size m/\(jK tk->Whole m->Whole (ql tk m))/\∀n,aD n (ql tk m)->bT n tk\/aD n m
 |[],m=>⟨by simp[ql,ah],λ_ h=>h,λn h=>qd h⟩|t::tk,m=>by
  have⟨h1,h2,h3⟩:=Ra tk m;have e:ql (t::tk) m=In.nQ t (ql tk m):=rfl;rw[e];refine⟨?_,λq1 q2=>⟨aK,q1.1,h2 q1.2 q2,trivial⟩,λn q=>?_⟩
  .simp only[size,ah,pk,h1];omega
  .simp only[aD,bT,or_false]at q;obtain q|q:=q
   .exact qe (qe q)
   .exact(h3 n q).imp qd id
def MkFine.add{t:jx}{vs:List jx}(ht:Gh t.text):∀{ms:List Nd}{mks:qk},MkFine mks->(∀m∈ms,vs.length+nn m+kl m<=802)->(∀m∈ms,∃s L f u a,m=.mk 2 s 0 L f u a/\BI (vs.map (·.text)) L)->MkFine (In.wi t vs ms mks)
 |[],mks,h,_,_=>h|m::r,mks,h,hz,hm=>by
  refine MkFine.add ht (ms:=r) ?_ (λm hm=>hz m<|by simp[hm]) (λx hx=>hm x<|by simp[hx]);obtain⟨s,L,f,u,a,rfl,g⟩:=hm m ag;have hz:=hz _<|List.mem_cons_self ..;simp only[nn,kl]at hz;have e:qn (vs.map (·.text)) (.mk 2 s 0 L f u a)=(aA (vs.map (·.text)) L).1:=by show(aA _<|vX L).1=_;rw[g.es]
  have ln:(aA (vs.map (·.text)) L).1.length=L.length:=by
   have:∀(l:List Nd)ns,(aA ns l).1.length=l.length:=by
    intro l
    induction l with
    |nil=>intro ns;rfl|cons x l ih=>intro ns;simp only[aA,pk,ih]
   exact this L _
  have⟨a1,a2,a3⟩:=Ra (aA (vs.map (·.text)) L).1<|qf t vs;have key:∀x tk m,(if x=qm (.mk 2 s 0 L f u a)then some (qn (vs.map (·.text))<|.mk 2 s 0 L f u a,qf t vs)else mks x)=some (tk,m)->mks x=some (tk,m)\/(tk=(aA (vs.map (·.text)) L).1/\m=qf t vs):=yG;refine⟨λx tk m q=>?_,λx tk m q=>?_,λx tk m q=>?_⟩
  .obtain q|⟨rfl,rfl⟩:=key x tk m q
   .exact h.sz x tk m q
   .rw[a1,NH,ln];have:=g.sz;omega
  .obtain q|⟨rfl,rfl⟩:=key x tk m q
   .exact h.wh x tk m q
   .exact a2 g.wh (JA vs ht)
  .obtain q|⟨rfl,rfl⟩:=key x tk m q
   .exact h.vs x tk m q
   .intro n hn;obtain q|q:=a3 n hn
    .have:=g.oc n q;rw[List.length_map]at this;exact UG t vs n this
    .exact q
def JB:MkFine (λ_=>none):=⟨λ_ _ _ q=> lI,λ_ _ _ q=> lI,λ_ _ _ q=> lI⟩
def NI:sW (λ_=>none) mks:=λ_ _ q=> lI
end
section
open Go.ChangeMaps Un
@[simp] theorem aiv a0 a1 a2 a3 a4 a5 a6 w:(Instr.typeAssert (.iface 137<|.agg #[a0,a1,a2,a3,a4,a5,a6]) 129 137 true).run q9 w=.ok (.tuple #[(.agg #[a0,a1,a2,a3,a4,a5,a6]),.bool true]) w:=qkr
@[simp] theorem aiw a0 a1 a2 a3 a4 a5 a6 w:(Instr.typeAssert (.iface 144<|.agg #[a0,a1,a2,a3,a4,a5,a6]) 129 144 true).run q9 w=.ok (.tuple #[(.agg #[a0,a1,a2,a3,a4,a5,a6]),.bool true]) w:=qkr
@[simp] theorem aix a0 a1 a2 a3 a4 a5 a6 w:(Instr.typeAssert (.iface 144<|.agg #[a0,a1,a2,a3,a4,a5,a6]) 129 137 true).run q9 w=.ok (.tuple #[(.agg #[Iv 0,Iv 0,Iv 0,Iv 0,.string ⟨#[]⟩,.slice none 0 0,.slice none 0 0]),.bool false]) w:=qkr
def metW_Makers a w:(method 641 124 (.pointer<|some a) "Makers").run Tryz.prog w=.ok (311,.pointer<|some a) w:=qkr
def metW_Let a w:(method 641 124 (.pointer<|some a) "Let").run Tryz.prog w=.ok (310,.pointer<|some a) w:=qkr
def metJ_Makers a w:(method 641 126 (.pointer<|some a) "Makers").run Tryz.prog w=.ok (375,.pointer<|some a) w:=qkr
def metJ_Let a w:(method 641 126 (.pointer<|some a) "Let").run Tryz.prog w=.ok (374,.pointer<|some a) w:=qkr
def fW.K(g:fW)(P:Nat->Prop)n:=n∈g.ds/\∀x,Hd g.nx n x->P x
open Classical in
noncomputable def fW.cut (g:fW) (P:Nat->Prop):fW:=⟨g.ds.filter λn=>decide (g.K P n),λn=>if g.K P n then g.str n else none,λn=>if g.K P n then g.nx n else none,g.vr,g.ly,g.lv,λn=>if g.K P n then g.V n else .var (g.vr n)⟩
section
variable {g:fW} {s:In.St} {x:Nat}
def cN:n∈(g.cut P).ds↔g.K P n:=by
 simp only[fW.cut,List.mem_filter,decide_eq_true_eq];exact⟨λq=>q.2,λq=>⟨q.1,q⟩⟩
def bF(h:g.K P n):(g.cut P).str n=g.str n/\(g.cut P).nx n=g.nx n/\(g.cut P).V n=g.V n:=by simp[fW.cut,h]
def uL(h:¬g.K P n):(g.cut P).str n=none/\(g.cut P).nx n=none/\(g.cut P).V n=.var (g.vr n):=by simp[fW.cut,h]
def adg(hg:GL w g.ds g.str g.nx g.vr g.ly g.lv)(hn:n∈g.ds)(e:g.nx n=some m):g.K P n↔g.K P m:=
 ⟨λq=>⟨(hg.nd n hn).2.2 m e,λx k=>q.2 x<|.step e k⟩,λq=>⟨hn,λx k=>q.2 x<|k.sq e⟩⟩
def adh(hg:GL w g.ds g.str g.nx g.vr g.ly g.lv)(k:Hd g.nx n x)(hn:g.K P n):Hd (g.cut P).nx n x/\g.K P x:=by
 induction k with
 |here e=>exact⟨.here<|by rw[(bF hn).2.1,e],hn⟩|step e k ih=>
  have⟨h1,h2⟩:=ih<|(adg hg hn.1 e).1 hn;exact⟨.step (by rw[(bF hn).2.1,e]) h1,h2⟩
def agX(hg:GL w g.ds g.str g.nx g.vr g.ly g.lv)(hn:g.K P n)(k:Hd (g.cut P).nx n x):Hd g.nx n x:=by
 have⟨y,hy⟩:=hg.hd n hn.1;rw[k.one (adh hg hy hn).1];exact hy
def EW(hg:GL w g.ds g.str g.nx g.vr g.ly g.lv)(j:JG g.ds g.str g.nx g.vr)(hP:ScD g.str g.ds g.nx P)(hn:g.K P n){c}{l}(hs:g.str n=some (c,l)){p}(hp:p∈l):g.K P p:=by
 have⟨x,hx⟩:=hg.hd n hn.1;have⟨l',h1,h2⟩:=NJ j hx hs;refine⟨j.VW n c l hn.1 hs p hp,λy hy=>?_⟩;have:∀{l l':List Nat},eB (nN g.nx) l l'->p∈l->∃q,q∈l'/\nN g.nx p q:=by
  intro l l' a
  induction a with
  |nil=>simp|cons e _ ih=>
   intro hp;obtain rfl|hp:=List.mem_cons.1 hp
   .grind
   .grind
 have⟨q,hq,e⟩:=this h2 hp;have hy':Hd g.nx q y:=by
  obtain rfl|⟨z,z1,z2⟩:=e
  .exact hy
  .rw[hy.one z1];exact z2
 exact hP x (j.jN n x hn.1 hx) hx.head (hn.2 x hx) c l' h1 q hq y hy'
def JS.cut(hg:GL w g.ds g.str g.nx g.vr g.ly g.lv)(mF:rL g.str g.nx [])(inj:∀a b,a∈g.ds->b∈g.ds->g.str a=none->g.str b=none->g.vr a=g.vr b->a=b)(can:Can g.str g.nx g.vr g.V)(val:∀n,n∈g.ds->g.str n=none->g.V n=s.k (g.vr n))(use:∀n,n∈g.ds->g.str n=none->s.u (g.vr n))(ok:In.Ok s)(hP:ScD g.str g.ds g.nx P)(lc:∀a,a∈g.ds->g.nx a=none->P a->∀c l,g.str a=some (c,l)->∀p,p∈l->∀h,Hd g.nx p h->g.lv h<=g.lv a):JS w (g.cut P) s:=by
 have j:=hg.jg mF inj;refine⟨⟨λn hn=>?_,λn hn=>?_,λn hn=>?_⟩,λE hE n m c l e hs=>?_,λa b ha hb sa sb e=>?_,λn x k=>?_,λa ha hn c l hs p hp x hx=>?_,λn hn hs=>?_,λn hn hs=>?_,ok⟩
 .have hn:=cN.1 hn;have⟨q1,q2,q3⟩:=hg.nd n hn.1;refine⟨by rw[(bF hn).1,(bF hn).2.1];exact q1,?_,λm e=>cN.2<|(adg hg hn.1 (by rw[<-(bF hn).2.1];exact e)).1 hn⟩;rw[(bF hn).1]
  cases e:g.str n with
  |none=>trivial|some q=>
   obtain⟨c,l⟩:=q;rw[e]at q2;obtain⟨r1,r2,r3,r4⟩:=q2;exact⟨r1,r2,λm hm=>cN.2<|EW hg j hP hn e hm,r4.imp id λ⟨gg,z1,z2,z3,z4⟩=>⟨gg,z1,λz=>z2 (cN.1 z).1,z3,z4⟩⟩
 .have hn:¬g.K P n:=λq=>hn<|cN.2 q;exact⟨(uL hn).2.1,(uL hn).1⟩
 .have hn:=cN.1 hn;have⟨x,hx⟩:=hg.hd n hn.1;exact⟨x,(adh hg hx hn).1⟩
 .have hn:=xj λq=>by rw[(uL q).2.1]at e;cases e
  rw[(bF hn).2.1]at e;rw[(bF hn).1]at hs;have hm:=(adg hg hn.1 e).1 hn;have hE':Un.Eq g.nx [] (λa b=>(g.K P a↔g.K P b)/\(g.K P a->E a b)):=by
   refine⟨λa=>⟨Iff.rfl,λ_=>hE.refl a⟩,λa b q=>⟨q.1.symm,λz=>hE.symm _ _<|q.2<|q.1.2 z⟩,λa b d q r=>⟨q.1.trans r.1,λz=>hE.trans _ _ _ (q.2 z)<|r.2<|q.1.1 z⟩,λa b q=>?_,λa b q=>by simp at q⟩;have ha:=xj λz=>by rw[(hg.out a z).1]at q;cases q
   exact⟨adg hg ha q,λz=>hE.bA a b (by rw[(bF z).2.1];exact q)⟩
  have⟨l',h1,h2⟩:=mF _ hE' n m c l e hs;refine⟨l',by rw[(bF hm).1];exact h1,?_⟩;have:∀{l l':List Nat},eB (λa b=>(g.K P a↔g.K P b)/\(g.K P a->E a b)) l l'->(∀p,p∈l->g.K P p)->eB E l l':=by
   intro l l' a
   induction a with
   |nil=>exact λ_=>.nil|cons e _ ih=>exact λh=>.cons (e.2<|h _ ag) (ih λp hp=>h p<|by simp[hp])
  exact this h2 λp hp=>EW hg j hP hn hs hp
 .have ha:=cN.1 ha;have hb:=cN.1 hb;rw[(bF ha).1]at sa;rw[(bF hb).1]at sb;exact inj a b ha.1 hb.1 sa sb e
 .by_cases hn:g.K P n
  .have k':=agX hg hn k;have hx:=(adh hg k' hn).2;rw[(bF hn).2.2,(bF hx).1,can n x k']
   cases e:g.str x with
   |none=>rfl|some q=>
    obtain⟨c,l⟩:=q;show Ty.aJ c (l.map g.V)=.aJ c (l.map (g.cut P).V);rw[dD λp hp=>(bF<|EW hg j hP hx e hp).2.2]
  .rw[k.one<|.here (uL hn).2.1,(uL hn).2.2,(uL hn).1];rfl
 .have ha:=cN.1 ha;rw[(bF ha).1]at hs;rw[(bF ha).2.1]at hn;exact lc a ha.1 hn (ha.2 a<|.here hn) c l hs p hp x<|agX hg (EW hg j hP ha hs hp) hx
 .have hn:=cN.1 hn;rw[(bF hn).1]at hs;rw[(bF hn).2.2];exact val n hn.1 hs
 .have hn:=cN.1 hn;rw[(bF hn).1]at hs;exact use n hn.1 hs
end
end
end Go.Proofs.YtfnkchdeheeiiaaGreatDoor
