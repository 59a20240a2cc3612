import Derived.Test.YtfnkchdeheeiiaaGreatDoorCKa
import Derived.Test.YtfnkchdeheeiiaaGreatDoorCXz
set_option linter.all false
set_option maxRecDepth 100000
set_option maxHeartbeats 4000000
namespace Go.Proofs.YtfnkchdeheeiiaaGreatDoor
open Pu renaming bC->ja,Tok->jc,mE->jd
open In renaming wV->jf,WW->jh,Mks->ji,NW->jj,cH->jk,acG->jl,acF->jm,Env->jo,St->jp,arr->jq,z_->jt,inf->ju,gR->jv,jV->jx,Jw->jy,bZ->jz
open _root_.List renaming getElem_mem->j3,take_succ_eq_append_getElem->j5,mem_cons_self->j6,map_cons->j7,take_length->j8,not_mem_nil->j9,map_append->qc,mem_cons->qd
open _root_.Nat renaming le_succ->qe,le_trans->qf,zero_le->qg,lt_succ_self->qh,lt_of_lt_of_le->qi,succ_le_of_lt->qk
open Or renaming inr->ql,inl->qm
open Go.World renaming cell?_of_block->qn
open Go.Proofs.Tryz renaming prog->qp,results66->qr
open Go.RowKit.Below renaming heap_setCell->qs,refl->qt
open Bx renaming new->qu
open Go.Value renaming string->qv
open Go Go.RowKit Proofs.Tryz
variable {s st:BA} {rc:Bool} {g g1:fB} {Γ:jo} {z:In.Ft} {mk mks:ji} {s1:jp} {ns:List BA} {l:List Dc} {L ms:List Nd} {T vs:List jc} {d:M Dc} {b base e f i j k lo n nb vc:Nat} {cq:Nat->Nat} {D P S u:Nat->Prop} {a m x:Nd} {va:Option Addr} {t:jc} {v vl vm vr vv:Value} {c:WC} {w w' w1 w2:World}
section
open Go.ChangeMaps
def Yx(h:a_ (tk T k) ph=true\/a_ (tk T k) sG=true):cQ T d (f+1) l k=aM d (λx=>cQ T d f<|l++[x]) k:=by grind[a_,tk,cQ,aM]
def Sz(h:a_ (tk T k) ph=false)(h':a_ (tk T k) sG=false):cQ T d f l k=.ok (l,k):=by
 cases f with
 |zero=>rfl|succ f=>unfold cQ;rw[h,h'];rfl
def uM(T:List jc)(d:M Dc):∀f l,aR T<|cQ T d f l
 |0,l=>λk h=>cO _ h|f+1,l=>λk h=>by unfold cQ;rw[dY h,dY h,if_neg ag];exact cO _ h
theorem Yy{mk}(hm:lN mk):lN (Bb T mk):=λk a k' h=>by
 rw[Bb]at h;have⟨_,k1,h1,h2⟩:=aw h;have⟨_,k2,h3,h4⟩:=aw h2;have⟨_,k3,h5,h6⟩:=aw h4;have⟨_,k4,h7,h8⟩:=aw h6;have⟨_,k5,h9,h10⟩:=aw h8;have⟨_,k6,h11,h12⟩:=aw h10
 cases h12
 have:=bq _ _ _ _ h1;have:=eE _ _ _ _ h3;have:=yB _ _ _ _ _ _ h5;have:=bq _ _ _ _ h7;have:=uK hm _ _ _ _ _ h9;have:=bq _ _ _ _ h11;omega
theorem Yz{e}(hm:lN e):lN (Ia T e):=λk a k' h=>by
 rw[Ia]at h;have⟨_,k1,h1,h2⟩:=aw h;have⟨_,k2,h3,h4⟩:=aw h2
 cases h4
 have:=Bc hm _ _ _ h1;have:=bq _ _ _ _ h3;omega
def YA T n:lN (fs T n):=by grind[lN,fs,Yy,tE,cy,cX,Yz,jJ]
def QD:EQ Dc:=λw P d c=>PD w P d<|c 0
def bL:fO QD:=by grind[fO,QD,PD.move]
def YB:(Tryz.prog.info? 129).map (λi=>(i.zero,i.size,i.bytes))=some (some .nilIface,1,16):=qkr
def LW:Tryz.prog.underlying 58=some (.slice 129):=qkr
def abJ w:(zeroValue 283).run qp w=.ok .nilFunc w:=qkr
def afy w P l v:=RowV QD 1 w P l v
section
variable {N rb sb:Nat} {m:MV}
def SX.decl(h:SX w N rb sb m s k)(hb:m.a=Mv b):MS qv w b (Gg rb):=by
 have⟨b',e,_,_,hM⟩:=h.ev.mp.d;rw[hb]at e
 cases e
 exact hM
def SX.ma(h:SX w N rb sb m s k):∃b,m.a=Mv b:=by
 have⟨b',e,_,_,hM⟩:=h.ev.mp.d;exact⟨b',e⟩
def LX(hs:s.size<=1000)(hT:(ja s 0).length<=1001)(h:SX w N rb sb m s k)(hn:(ja s 0).length<=k+1+n)(hmd:m.a=Mv b):
 Cq 98 #[rp rb,Mv b] w (ap afy N rb sb m s (cQ (ja s 0) (fs (ja s 0) n) (ja s 0).length [] k) w):=by
 obtain⟨r,hr⟩:∃r,r=cQ (Pu.bC s 0) (fs (Pu.bC s 0) n) (Pu.bC s 0).length [] k:=⟨_,rfl⟩;rw[<-hr];have H:=cz.at h hr;clear h hr;go_enter func98,ntmps98
 go_wp2
 go_loopg[5] ((ja s 0).length-k) (λgk v wr=>CL (λ_=>True) QD 129 1 N rb sb m s k w r (λf L _=>cQ (ja s 0) (fs (ja s 0) n) f L) gk v wr)
 case atStart=>exact⟨k,[],(ja s 0).length,none,0,0,rfl,trivial,H.row bL (dt.nil _ _ _ _ _) ⟨br _,.inl rfl⟩,ai rfl,br _,ag,ae⟩
 case round=>
  clear H;obtain⟨kr,L,f,va,vc,_,rfl,-,H,c_,hle,hLl,hfu⟩:=hrel;have hM:=H.sx.decl hmd;have hl:=dZ hM Tryz.underlying232 (abJ wr)<|aq<|tk (ja s 0) kr;have VT:=H.sx.lt;have zw:=H.ke.size;have VU:=H.p.block;have⟨c,ff,z⟩:=H.sx.bx;have Y:(a_ (tk (ja s 0) kr) ph=false/\a_ (tk (ja s 0) kr) sG=false)\/∃F,(∀args w,(callFunc F args).run qp w=.ok (.enter F args) w)/\aY (aq<|tk (ja s 0) kr) (Gg rb)=some (nM F rb)/\Cq F #[rp rb] wr (ap PD N rb sb m s ((fs (ja s 0) n) kr) wr)/\(a_ (tk (ja s 0) kr) ph=true\/a_ (tk (ja s 0) kr) sG=true):=by
   cases n0:a_ (tk (ja s 0) kr) ph
   .cases n1:a_ (tk (ja s 0) kr) sG
    .exact .inl ⟨rfl,rfl⟩
    .exact .inr ⟨179,λ_ _=>qkr,by rw[fQ n1];rfl,by rw[show(fs (ja s 0) n) kr=_ from if_neg (by simp[n0])];exact So hs (XV hs hT n) H.sx ae,.inr rfl⟩
   .exact .inr ⟨178,λ_ _=>qkr,by rw[fQ n0];rfl,by rw[show(fs (ja s 0) n) kr=_ from if_pos n0];exact LO hs hT H.sx ae,.inl rfl⟩
  obtain⟨n0,n1⟩|⟨F,VQ,hg,HC,hb⟩:=Y
  .have H:=H.re (g':=λk=>.ok (L,k))<|Sz n0 n1;simp only[rY (L:=Gg rb) (dX s kr VT) H.sx.ok (by simp[n0,n1];decide),kh]at hl
   go_wp2
   go_ret;exact H.done λR=>R.v bL
  .obtain⟨f,rfl⟩:∃f',f=f'+1:=⟨f-1,ae⟩;have H:=H.re<|Yx hb;simp only[hg,kh]at hl;clear hg hb;go_wp2_with fail;refine H.call HC ?_ (st:=λa=>uM _ _ _ _);intro a k2 v w1 H q V;obtain⟨tv,xv,rfl⟩:=V.iface;have l2:=YA _ _ _ _ _ q;clear HC c ff z hl hM q;go_wp2_with(at_builtin;go_must(refine H.append (D:=[Fv tv<|Av xv]) hT bL YB LW H.p.1 zw (λb e=>(VU b e).2) (c:=λ_=>Fv tv<|Av xv) V ae ?_;intro q3 c3 w3 H));go_roundg((ja s 0).length-k2)
   case measure=>rw[uh c_];omega
   case rel=>exact⟨k2,L++[a],f,_,c3,0,ag,trivial,H,ai rfl,ae,bQ,ae⟩
def ahM w P l(v:Value):=∃u,v=.agg #[u]/\RowV QD 1 w P l u
def SA(hs:s.size<=1000)(hT:(ja s 0).length<=1001)(h:SX w N rb sb m s k)(hn:(ja s 0).length<=k+1+n):
 Cq 67 #[rp rb] w (ap ahM N rb sb m s (cQ (ja s 0) (fs (ja s 0) n) (ja s 0).length [] k) w):=by
 obtain⟨b,hma⟩:=h.ma;have hz:=h.z;have hNw:=h.ev.hN;have⟨b0,B0⟩:=mM w #[.slice none 0 0] 60;have HC:=LX (n:=n) hs hT (h.af b0) hn hma;obtain⟨c,f,z⟩:=(h.af b0).bx;go_enter func67,ntmps67;go_wp2_with fail;refine HC.mono ?_;intro e w1 hp
 cases hA:fin (ja s 0) (cQ (ja s 0) (fs (ja s 0) n) (ja s 0).length [] k)with
 |error f=>
  obtain⟨rfl,hb⟩:=hp.bad hA;exact⟨rfl,ap.fail ((Ke.of b0).trans hb) hA⟩
 |ok rr=>
 obtain⟨l,k1⟩:=rr;obtain⟨v,rfl,hb,S1,hR⟩:=hp.ok hA;have RV:=(RowV.move hR bL (br _) (λ_ _ _=>rfl)<|λb p _=>by simpa using p);obtain⟨va,vc,cs,rfl,_,_⟩:=hR;have B1:=ai (B0.ri hb<|by omega);have K1:=(Ke.of b0).trans hb;have HE:=ai (pK hA).1;obtain⟨c,f,z⟩:=uh B1;go_wp2_with fail;obtain⟨cF,fF,zF⟩:=B1.aO 0 (.slice va l.length vc) #[.slice va l.length vc] rfl (by simp);exact bodyPost_ret (v:=.agg #[.slice va l.length vc]) (by simp[results,Tryz.results67,go_sem,cF]) rfl (ap.done HE (K1.nL (br _) 0 _) (S1.set (b:=w.heap.size) hNw 0 _) ⟨_,rfl,(RV.sQ bL (b:=w.heap.size) (λc p=>by have p':w.heap.size+1<=c:=p;omega) 0 _).move bL (br _) (λ_ _ _=>rfl) (λb p _=>by have p':w.heap.size+1<=b:=p;show w.heap.size<=b;omega)⟩)
end
def tI b(hB:Bx w b zF)f:
 CallsD qp 95 #[Pv b] (.panicking [{v:=Ki f,recovered:=false}]) w λe u' w'=>
  e=.returned (.tuple #[])/\u'=.panicking [{v:=Ki f,recovered:=true}]/\Bx w' b #[Nv f.kind,Nv f.al,Nv f.to]/\Below b w w':=by
 have hta:=Ir;have B0:=ai hB;obtain⟨c,ff,z⟩:=hB;refine callsD_of_wpS Tryz.func95 rfl λde cs hu=>?_;apply wpS_seq;apply wpS_region;simp[wpOpsS,go_sem,recoverD,hu,Tryz.ntmps95,Exit.thenS];rw[show(#[Pv b]++((Array.replicate 16 undef).setIfInBounds 3<|Ki f).setIfInBounds 0 (Ki f))=#[Pv b,Ki f,undef,undef,Ki f,undef,undef,undef,undef,undef,undef,undef,undef,undef,undef,undef,undef]from rfl];obtain⟨CS,yM⟩:∃CS:List Frame,CS=({fn:=de.fn,tmps:=de.tmps,todo:=de.todo,defers:=de.defers,mode:=FrameMode.panicking [{v:=Ki f,recovered:=true}],kind:=de.kind,roundOf:=de.roundOf}::cs):=⟨_,rfl⟩;rw[<-yM];refine wpS_of_wp ?_;go_wp2_with fail;refine⟨rfl,_,yM,.tuple #[],by simp[results,Tryz.results95,go_sem],rfl,rfl,?_,?_⟩
 .exact((B0.fN rfl _ _ _).alloc _)
 .exact((((qt b w).setCell (br _) _).setCell (br _) _).setCell (br _) _).alloc (by simp[World.setCell];omega) _
def abK b:
 CallsD qp 95 #[Pv b] .returning w λe u' w'=>
  e=.returned (.tuple #[])/\u'=.returning/\w'=w:=by
 refine callsD_of_wpS Tryz.func95 rfl λde cs hu=>?_;apply wpS_seq;apply wpS_region;simp[wpOpsS,go_sem,recoverD,hu,Tryz.ntmps95,Exit.thenS];rw[show(#[Pv b]++((Array.replicate 16 undef).setIfInBounds 3 Zv).setIfInBounds 0 Zv)=#[Pv b,Zv,undef,undef,Zv,undef,undef,undef,undef,undef,undef,undef,undef,undef,undef,undef,undef]from rfl];have yM:de::cs={de with mode:=.returning}::cs:=(by cases de;simp at hu;subst hu;rfl);refine wpS_of_wp ?_
 go_wp2
 exact⟨rfl,_,yM,.tuple #[],by simp[results,Tryz.results95,go_sem],rfl,rfl,rfl⟩
def LY(T:List jc)l:aR T (Ib T l):=λk h=>by rw[Ib];rw[if_neg ae];rfl
def Bs(hs:¬400<s.size){f}(h:fin (ja s 0) (cQ (ja s 0) (fs (ja s 0) (ja s 0).length) (ja s 0).length [] 0)=.error f):cd s=.error f:=by
 unfold cd;rw[if_neg hs];have:=bT h<|λl=>LY (ja s 0) l;unfold fin at this;split at this
 .rename_i e;cases this;rw[e]
 .rename_i a k e;split at this
  .rename_i h6;exfalso;have⟨l,j,_,h2⟩:=aw e;unfold Ib at h2;split at h2
   .cases h2;omega
   .cases h2
  .cases this
def YC(hs:¬400<s.size)(h:fin (ja s 0) (cQ (ja s 0) (fs (ja s 0) (ja s 0).length) (ja s 0).length [] 0)=.ok (l,k)):cd s=if(tk (ja s 0) k).kind=7 then .ok l else .error (db<|tk (ja s 0) k):=by grind[fin,cQ,fs,cd,tk,db,mg,Ib]
def oe s w(e:Ending)w':=
 ∃u f,e=.returned (.tuple #[.agg #[u],m9 f])/\Bq w w'/\match cd s with
  |.error f'=>f=f'/\u=.slice none 0 0|.ok l=>f=gF/\RowV QD 1 w' (λb=>w.heap.size<=b) l u
abbrev SC:Array Value:=#[.slice none 0 0]
theorem IY s(hs:400<s.size):Cq 66 #[.string s,.func (.func 67) #[] #[]] w (oe s w):=by
 have h1:(400:Int)<(s.size:Int):=ae;have hp:Hid (cd s=.error ⟨1,0,0⟩):=by show _=_;simp[cd,hs]
 have B0:=(qu w SC 60).alloc<|Cv zF 30;have F0:Bx ((w.alloc<|Cv SC 60).alloc<|Cv zF 30) (w.heap.size+1) zF:=by have:=qu (w.alloc<|Cv SC 60) zF 30;simpa using this
 obtain⟨c,f,z⟩:=B0;obtain⟨c',f',z'⟩:=F0
 go_enter_defers Tryz.func66,Tryz.ntmps66
 go_wp2_with fail;simp[bodyPostD,Leaves,settle,results,qr,go_sem];refine⟨_,⟨1,0,0⟩,rfl,(bw _).alloc ag _,?_⟩;rw[uh hp];exact⟨rfl,rfl⟩
theorem YD(h:Laid w)s(hs:¬400<s.size)(hT:(ja s 0).length<=1001):Calls qp 66 #[.string s,.func (.func 67) #[] #[]] w (oe s w):=by
 have h1:decide ((400:Int)<(s.size:Int))=false:=bQ;have iD:s.size<=1000:=ae;have hT0:0<(ja s 0).length:=by
  rw[iU s 0<|qg _];split<;>simp
 have B0:=(qu w SC 60).alloc<|Cv zF 30;have F0:Bx ((w.alloc<|Cv SC 60).alloc<|Cv zF 30) (w.heap.size+1) zF:=by have:=qu (w.alloc<|Cv SC 60) zF 30;simpa using this
 have bR:Below w.heap.size w ((w.alloc<|Cv SC 60).alloc<|Cv zF 30):=(bw _).alloc ag _;have oW:((w.alloc<|Cv SC 60).alloc<|Cv zF 30).heap.size=w.heap.size+2:=ag;have HL:=h.af bR
 go_enter_defers Tryz.func66,Tryz.ntmps66
 go_wp2_with fail;refine(ud HL s iD).mono ?_;intro e w1 hp;obtain⟨abL,hp⟩:=hp;rw[oW]at hp;have B1:=B0.below abL;have F1:=F0.below abL;have dC:=bR.trans<|abL.mono bR.size;have et:=iK s 0 hT0;rw[show aF (ja s 0) 0=0 from rfl]at et;have z1:=abL.size;rw[oW]at z1;obtain⟨h6,rfl,N,sb,m,X1,E1⟩|⟨h6,rfl⟩:=hp
 .rw[<-et]at X1 h6;have S1:SX w1 N (w.heap.size+2) sb m s 0:=⟨by rw[show aF (ja s 0) 0=0 from rfl];exact X1,E1,hT0,h6⟩;have HA:=SA (n:=(ja s 0).length) iD hT S1 ae;have hrb:=S1.z;go_wp2_with fail;refine HA.mono ?_;intro e w2 hp
  cases hA:fin (ja s 0) (cQ (ja s 0) (fs (ja s 0) (ja s 0).length) (ja s 0).length [] 0)with
  |error f=>
   obtain⟨rfl,K2⟩:=hp.bad hA;have ed:=K2.low dC dC.size ae;refine leaves_cons (f:=95) (args:=#[.pointer<|some ⟨w.heap.size+1,0,none⟩]) ag Mw ?_;refine(tI (w.heap.size+1) (F1.ri K2 ae)<|f).mono ?_;rintro e u' w9⟨rfl,rfl,hB,hb⟩;obtain⟨c9,_,_⟩:=hB;have P9:=(B1.ri K2 ae).same hb.size<|hb.block w.heap.size<|qh _;obtain⟨d9,_,_⟩:=P9;simp[Leaves,settle,results,qr,go_sem,c9,d9];refine⟨_,f,rfl,ed.trans<|hb.mono<|qe _,?_⟩;rw[Bs hs hA];exact⟨rfl,rfl⟩
  |ok r=>
  obtain⟨l,k⟩:=r;obtain⟨v,rfl,K2,S2,u,rfl,RV⟩:=hp.ok hA;have ed:=K2.low dC dC.size ae;have z2:=K2.size;have Yw:=YC hs hA;have hk:=S2.lt;have ho:=dX s k hk;have hke:=Gb ho S2.ok;have⟨y8,R3⟩:=mM w2 #[u] 60;have B3:=(B1.ri K2 ae).below y8;have F3:=(F1.ri K2 ae).below y8;have HS3:=S2.af y8;have Jn:=ed.trans<|y8.mono ed.size;have RV3:RowV QD 1 (w2.alloc<|Cv #[u] 60) (λb=>w1.heap.size<=b/\b<w2.heap.size) l u:=RV.move bL y8.size (λb _ z=>y8.block b z)<|λb p z=>⟨p,z⟩;have z3:(w2.alloc<|Cv #[u] 60).heap.size=w2.heap.size+1:=ag;obtain⟨va,vc,cs,hu,_,_⟩:=RV;subst hu;have aja:=ai RV3;by_cases h7:(tk (ja s 0) k).kind=7
  .have t7:((aq<|tk (ja s 0) k).toList==mG.toList)=true:=by rw[show mG.toList=[116,104,101,32,101,110,100]from toList_mk _,hke];simp[h7]
   go_wp2_with fail;refine(hY HS3.rd iD (pd s k hk) mG t7).mono ?_;intro e w3 hp;obtain⟨rfl,K3,R4⟩:=hp.ok<|G_ hk h7;have zk:=K3.size;have B4:=B3.ri K3 ae;have F4:=F3.ri K3 ae;have R5:=R3.ri K3 ae;have HBB:=K3.low Jn Jn.size ae;have ajb:=aja.move bL K3.size (λb p z=>K3.block b z ae)<|λ_ p _=>p;have ajc:=ai B4;have ajd:=ai F4;obtain⟨c3,f3,y3⟩:=R5;obtain⟨c4,f4,y4⟩:=B4;obtain⟨c5,f5,y5⟩:=F4;go_wp2_with fail;have B6:=(((ajc.aO 0 (Lv va l.length vc) #[Lv va l.length vc] rfl ag).bN (b2:=w.heap.size+1) ae 0 (.int .i64 0)).bN (b2:=w.heap.size+1) ae 1 (.int .i64 0)).bN (b2:=w.heap.size+1) ae 2 (.int .i64 0);have F6:=(ajd.bN (b2:=w.heap.size) ae 0<|Lv va l.length vc).fN rfl (.int .i64 0) (.int .i64 0) (.int .i64 0);have RV6:=((((ajb.sQ bL (b:=w.heap.size) (λc p=>ae) 0<|Lv va l.length vc).sQ bL (b:=w.heap.size+1) (λc p=>ae) 0<|.int .i64 0).sQ bL (b:=w.heap.size+1) (λc p=>ae) 1<|.int .i64 0).sQ bL (b:=w.heap.size+1) (λc p=>ae) 2<|.int .i64 0).move bL (br _) (λ_ _ _=>rfl) (P':=λb=>w.heap.size<=b)<|λb p _=>ae
   have HB6:=(((HBB.setCell (p:=⟨w.heap.size,0,none⟩) (br _)<|Lv va l.length vc).setCell (p:=⟨w.heap.size+1,0,none⟩) (qe _)<|.int .i64 0).setCell (p:=⟨w.heap.size+1,1,none⟩) (qe _)<|.int .i64 0).setCell (p:=⟨w.heap.size+1,2,none⟩) (qe _)<|.int .i64 0;refine leaves_cons (f:=95) (args:=#[.pointer<|some ⟨w.heap.size+1,0,none⟩]) ag Mw ?_;refine(abK<|w.heap.size+1).mono ?_;rintro e u' w9⟨rfl,rfl,rfl⟩;obtain⟨c7,_,_⟩:=B6;obtain⟨c8,_,_⟩:=F6;simp[Leaves,settle,results,qr,go_sem,c7,c8];refine⟨_,gF,rfl,HB6,?_⟩;rw[Yw,if_pos h7];exact⟨rfl,RV6⟩
  .have t7:((aq<|tk (ja s 0) k).toList==mG.toList)=false:=by rw[show mG.toList=[116,104,101,32,101,110,100]from toList_mk _,hke];simp[h7]
   go_wp2_with fail;refine(vF HS3.rd mG t7 HS3.ok).mono ?_;rintro e w3⟨rfl,K3⟩;have Zy:=K3.low Jn Jn.size ae;rw[if_neg h7]at Yw;refine leaves_cons (f:=95) (args:=#[.pointer<|some ⟨w.heap.size+1,0,none⟩]) ag Mw ?_;refine(tI (w.heap.size+1) (F3.ri K3 ae)<|db<|tk (ja s 0) k).mono ?_;rintro e u' w9⟨rfl,rfl,hB,hb⟩;obtain⟨c9,_,_⟩:=hB;have P9:=(B3.ri K3 ae).same hb.size<|hb.block w.heap.size<|qh _;obtain⟨d9,_,_⟩:=P9;simp[Leaves,settle,results,qr,go_sem,c9,d9];refine⟨_,db<|tk (ja s 0) k,rfl,Zy.trans<|hb.mono<|qe _,?_⟩;rw[Yw];exact⟨rfl,rfl⟩
 .rw[<-et]at h6⊢;have iC:fin (ja s 0) (cQ (ja s 0) (fs (ja s 0) (ja s 0).length) (ja s 0).length [] 0)=.error (db<|tk (ja s 0) 0):=uM _ _ _ _ 0 h6;refine leaves_cons (f:=95) (args:=#[.pointer<|some ⟨w.heap.size+1,0,none⟩]) ag Mw ?_;refine(tI (w.heap.size+1) F1<|db<|tk (ja s 0) 0).mono ?_;rintro e u' w9⟨rfl,rfl,hB,hb⟩;obtain⟨c9,_,_⟩:=hB;have P9:=B1.same hb.size<|hb.block w.heap.size<|qh _;obtain⟨d9,_,_⟩:=P9;simp[Leaves,settle,results,qr,go_sem,c9,d9];refine⟨_,db<|tk (ja s 0) 0,rfl,dC.trans<|hb.mono<|qe _,?_⟩;rw[Bs hs iC];exact⟨rfl,rfl⟩
def LZ(h:Laid w)s:Cq 66 #[.string s,.func (.func 67) #[] #[]] w (oe s w):=by grind[oe,IY,YD,G']
def QZ(h:Laid w)s:Cq 41 #[.string s] w (oe s w):=by
 have bR:Bq w ((w.alloc<|Cv SC 60).alloc<|Cv zF 30):=(bw _).alloc ag _;have oW:((w.alloc<|Cv SC 60).alloc<|Cv zF 30).heap.size=w.heap.size+2:=ag;have B0:=(Bx.new w SC 60).alloc<|Cv zF 30;have F0:Bx ((w.alloc<|Cv SC 60).alloc<|Cv zF 30) (w.heap.size+1) zF:=(by have:=Bx.new (w.alloc<|Cv SC 60) zF 30;simpa using this);have HC:=LZ (h.af bR) s;go_enter func41,ntmps41;go_wp2_with fail;refine HC.mono ?_;rintro e w1⟨u,f,rfl,da,hp⟩;have B1:=B0.below da;have F1:=F0.below da;have B2:=(((B1.aO 0 u #[u] rfl ag).bN (b2:=w.heap.size+1) ae 0 (Nv f.kind)).bN (b2:=w.heap.size+1) ae 1 (Nv f.al)).bN (b2:=w.heap.size+1) ae 2 (Nv f.to);have F2:=(F1.bN (b2:=w.heap.size) ae 0 u).fN rfl (Nv f.kind) (Nv f.al) (Nv f.to);have ed:=((((bR.trans<|da.mono bR.size).setCell (p:=⟨w.heap.size,0,none⟩) (br _) u).setCell (p:=⟨w.heap.size+1,0,none⟩) (Nat.le_succ _)<|Nv f.kind).setCell (p:=⟨w.heap.size+1,1,none⟩) (Nat.le_succ _)<|Nv f.al).setCell (p:=⟨w.heap.size+1,2,none⟩) (Nat.le_succ _)<|Nv f.to;obtain⟨va,vc,n,hu⟩:∃va vc n,u=Lv va n vc:=by
  cases hr:cd s with
  |error f'=>rw[hr]at hp;exact⟨_,_,_,hp.2⟩|ok l=>rw[hr]at hp;have⟨va,vc,cs,e,_⟩:=hp.2;exact⟨_,_,_,e⟩
 subst hu;obtain⟨c1,f1,z1⟩:=B1;obtain⟨c2,f2,z2⟩:=F1;have Hp:=ai hp;rw[m9];go_wp2_with fail;obtain⟨c3,f3,z3⟩:=B2;obtain⟨c4,f4,z4⟩:=F2;refine bodyPost_ret (v:=.tuple #[Av #[Lv va n vc],m9 f]) (by simp[results,Tryz.results41,go_sem,m9,c3,c4]) rfl ⟨Lv va n vc,f,rfl,ed,?_⟩;have hp:=uh Hp
 cases hr:cd s with
 |error f'=>rw[hr]at hp;exact hp|ok l=>
  rw[hr]at hp;rw[oW]at hp;have q:∀c,w.heap.size+2<=c->c≠w.heap.size:=λc h=>ae;have q':∀c,w.heap.size+2<=c->c≠w.heap.size+1:=λc h=>ae;exact⟨hp.1,((((hp.2.sQ bL (b:=w.heap.size) q 0 _).sQ bL (b:=w.heap.size+1) q' 0 _).sQ bL (b:=w.heap.size+1) q' 1 _).sQ bL (b:=w.heap.size+1) q' 2 _).move bL (br _) (λ_ _ _=>rfl) (λb p _=>by have p':w.heap.size+2<=b:=p;show w.heap.size<=b;omega)⟩
end
inductive SF(T:List jc)(e:Nat):Nat->Nat->List Nd->Prop where
 |one{i j:Nat}{m:Nd}:dU T e 11 i j m->SF T e i j [m]
 |more{i j q:Nat}{ms:List Nd}{m:Nd}:SF T e i j ms->dU T e 11 (j+1) q m->SF T e i q (ms++[m])
inductive YE(T:List jc)(e:Nat):Nat->Nat->Dc->Prop where
 |ty{k j q:Nat}{vs:List jc}{ms:List Nd}:(tk T<|k+1).kind=2->(∀v∈vs,v.kind=3/\∃q,q<e/\v=tk T q)->SF T e (k+3+vs.length) j ms->j<q->q<=e->YE T e k q (.ty (tk T<|k+1) vs ms)
 |lt{k j:Nat}{b:Nat×jc×Nd}:BdD T e k b j->j+1<=e->YE T e k (j+1) (.lt (b.1==11) b.2.1 b.2.2)
inductive SG(T:List jc)(e:Nat):Nat->List Dc->Prop where
 |nil:SG T e 0 []
 |more{i j:Nat}{l:List Dc}{d:Dc}:SG T e i l->YE T e i j d->SG T e j (l++[d])
def SF.le{i j:Nat}{ms:List Nd}(h:SF T e i j ms):i<j/\j<=e:=by
 induction h with
 |one d=>exact d.le|more _ d ih=>have:=d.le;omega
def YE.le{i j:Nat}{d:Dc}(h:YE T e i j d):i<j/\j<=e:=by
 cases h with
 |ty _ _ m hj _=>have:=m.le;omega|lt b hj=>have:=b.le;omega
def SG.le{j:Nat}{l:List Dc}(h:SG T e j l):j<=e:=by
 cases h with
 |nil=>exact qg _|more _ d=>exact d.le.2
def abM(h:ew T e){sm:M Nd}(hm:oU T e 1 sm):oU T e 11 (dd T sm):=by
 intro k hk;rw[dd];refine(nh h hk 2 aK).aM ?_;rintro t k1⟨rfl,t1,rfl,p1⟩;exact Ch (s:=1) hm T.length _ (k+1)<|.nm t1 p1
def IZ(h:ew T e){mk:M Nd}(hm:oU T e 11 mk){i:Nat}:∀f l k,k<=e->(l=[]/\k=i/\f≠0\/∃j,k=j+1/\SF T e i j l)->tT T (dJ T mk f l k) (λl' k'=>∃j,j<=k'/\k'<=e/\SF T e i j l')
 |0,l,k,hk,hl=>by
  obtain⟨_,_,q⟩|⟨j,rfl,hl⟩:=hl
  .exact absurd rfl q
  .exact⟨j,qe _,hk,hl⟩
 |f+1,l,k,hk,hl=>by
  rw[lI];refine(hm k hk).aM λm k1 d=>?_;have q:SF T e i k1 (l++[m]):=by
   obtain⟨rfl,rfl,_⟩|⟨j,rfl,hl⟩:=hl
   .exact .one d
   .exact .more hl d
  rw[kL];split
  .rename_i hc;exact IZ h hm f _ (k1+1) (h.step d.le.2 qAc)<|.inr ⟨k1,rfl,q⟩
  .exact⟨k1,br _,d.le.2,q⟩
def YF(h:ew T e):∀f l k,k<=e->tT T (lC T f l k) (λl' k'=>∃vs,l'=l++vs/\(∀v∈vs,v.kind=3/\∃q,q<e/\v=tk T q)/\k'=k+vs.length/\k'<=e)
 |0,l,k,hk=>⟨[],ag,ag,rfl,hk⟩|f+1,l,k,hk=>by
  unfold lC;split
  .rename_i h3;have hk1:=h.step hk ae;refine(YF h f _ (k+1) hk1).mono ?_;rintro l' k'⟨vs,rfl,a1,a2,a3⟩
   exact⟨tk T k::vs,ag,λv hv=>by
    obtain rfl|hv:=List.mem_cons.1 hv
    .exact⟨h3,k,hk1,rfl⟩
    .exact a1 v hv,bQ,a3⟩
  .exact⟨[],ag,ag,rfl,hk⟩
def afz(h:ew T e)(d:Nat)(hk:k<=e):tT T (fs T d k) (λx k'=>YE T e k k' x):=by
 have ht:=MI h d;rw[fs];split
 .rw[Bb];refine(bW h hk ph).aM ?_;rintro _ k1⟨rfl,p1⟩;refine(nh h p1 2 aK).aM ?_;rintro t k2⟨rfl,t1,rfl,p2⟩;refine(YF h T.length [] _ p2).aM ?_;rintro l k3⟨vs,rfl,v1,rfl,v3⟩;refine(bW h v3 MO).aM ?_;rintro _ k4⟨rfl,p4⟩;refine(IZ h (i:=k+3+l.length) (abM h<|vA h (.inl rfl) ht λ_=>ht) T.length [] _ p4<|.inl ⟨rfl,ae,by have:=h.pos;omega⟩).aM ?_;rintro ms k5⟨j,m1,m2,m3⟩;refine(bW h m2 xR).aM ?_;rintro _ k6⟨rfl,p6⟩;exact .ty t1 v1 m3 ae p6
 .rw[Ia];refine(MN h (US h d) hk).aM λb k1 q=>?_;refine(bW h q.le.2 xR).aM ?_;rintro _ k2⟨rfl,p5⟩;exact .lt q p5
def P_(h:ew T e)(d:Nat):∀f l k,SG T e k l->tT T (cQ T (fs T d) f l k) (λl' k'=>SG T e k' l')
 |0,l,k,hl=>hl|f+1,l,k,hl=>by
  unfold cQ;split
  .exact(afz h d hl.le).aM λx k1 q=>P_ h d f _ k1<|.more hl q
  .exact hl
def DF(hs:¬400<s.size):match cd s with
 |.error f=>ad4 (ja s 0) f|.ok l=>∃j,SG (ja s 0) ((ja s 0).length-1) j l:=by
 have h:=(nj s ae).1
 have h1:=(P_ h (ja s 0).length (ja s 0).length [] 0 .nil).aM (f:=Ib<|ja s 0) (R:=λl _=>∃j,SG (ja s 0) ((ja s 0).length-1) j l) (by
  intro l' k' q;rw[Ib];split
  .exact⟨_,q⟩
  .exact fe)
 rw[cd];rw[if_neg hs];revert h1
 cases aM (cQ (ja s 0) (fs (ja s 0) (ja s 0).length) (ja s 0).length []) (Ib<|ja s 0) 0 with
 |error f=>intro h1;exact h1|ok p=>intro h1;exact h1
def SF.all{P:Nd->Prop}(h:SF T e i j ms)(hp:∀k q m,i<=k->q<=j->dU T e 11 k q m->P m):∀m∈ms,P m:=by
 induction h with
 |one d=>intro m hm;rw[List.mem_singleton.1 hm];exact hp _ _ _ (br _) (br _) d|more a d ih=>
  have:=a.le;have:=d.le;intro m hm;obtain z|z:=List.mem_append.1 hm
  .exact ih (λk q m h1 h2=>hp k q m h1 ae) m z
  .rw[List.mem_singleton.1 z];exact hp _ _ _ ae (br _) d
def SF.nn(h:SF T e i j ms):ms≠[]/\bY ms<=2*(j-i):=by
 induction h with
 |one d=>have:=wW d;exact⟨ag,by simp[bY];omega⟩|more a d ih=>
  have:=a.le;have:=wW d;exact⟨ag,by simp[qT,bY];omega⟩
def SG.all{P:Dc->Prop}(h:SG T e j l)(hp:∀i j d,YE T e i j d->P d):∀d∈l,P d:=by
 induction h with
 |nil=>simp|more a d ih=>
  intro x hx;obtain z|z:=List.mem_append.1 hx
  .exact ih x z
  .rw[List.mem_singleton.1 z];exact hp _ _ _ d
def BdD.ex(h:ew T e){k j:Nat}{b:Nat×jc×Nd}(q:BdD T e k b j):Zg b.2.1.text/\b.2.1.text.size<=400/\ig b.2.2/\((b.1==11)=true->Fn3 b.2.2)/\nn b.2.2+3<=2*(j-k):=by
 obtain⟨e1,e2,e3,e4⟩|⟨e1,e2,e3,e4⟩:=q<;>rw[e2,e1]<;>have:=wW e4
 .exact⟨(h.tok _).low e3,(h.tok _).sz,e4.shp h,nofun,ae⟩
 .exact⟨(h.tok _).low e3,(h.tok _).sz,Fn3.ex<|e4.shp h,λ_=>e4.shp h,ae⟩
def YE.d3(h:ew T e){d:Dc}(q:YE T e k j d):D3 d/\Jk d<=2*(j-k):=by
 cases q with
 |ty t1 v m h1 h2=>
  have a:=m.nn;have b:=m.le;exact⟨⟨(h.tok _).up t1,(h.tok _).sz,λv' hv=>(by obtain⟨z,q,_,rfl⟩:=v v' hv;exact⟨(h.tok q).var z,(h.tok q).sz⟩),a.1,m.all λ_ _ _ _ _ d=>d.shp h⟩,by simp only[Jk];omega⟩
 |lt b hj=>
  have⟨b1,b2,b3,b4,b5⟩:=b.ex h;exact⟨⟨b1,b2,b3,b4⟩,by simp only[Jk];omega⟩
def SG.nd(h:ew T e)(q:SG T e j l):EI l<=2*j:=by
 induction q with
 |nil=>simp[EI]|more a d ih=>
  have:=(d.d3 h).2;have:=d.le;simp only[EI,qc,List.sum_append,j7,List.map_nil,List.sum_cons,List.sum_nil]at*;omega
def sM(hs:¬400<s.size):match cd s with
 |.error f=>f.kind%6≠0/\f.al<=f.to/\f.to<=s.size|.ok l=>(∀d∈l,D3 d)/\EI l<=802:=by
 have⟨h,hl⟩:=nj s ae;have q:=DF hs
 cases e:cd s with
 |error f=>rw[e]at q;exact Ce q|ok l=>
  rw[e]at q;obtain⟨j,q⟩:=q;exact⟨q.all λ_ _ _ d=>(d.d3 h).1,by have:=q.nd h;have:=q.le;omega⟩
section
open Go.ChangeMaps Un
def Bt(s:BA):match eK s with
 |.error f=>f.kind%6≠0|.ok a=>si a/\nn a<=802:=by
 by_cases hs:400<s.size
 .rw[show eK s=.error ⟨1,0,0⟩ by simp[eK,hs]];show 1%6≠0;decide
 .have⟨h,hl⟩:=nj s ae;have g:=MI h (ja s 0).length 0<|qg _;rw[eK];rw[if_neg hs];revert g
  cases eH (ja s 0) (ja s 0).length 0 with
  |error f=>intro g;exact(Ce g).1|ok p=>
   intro g;have g1:=g.shp h;have g2:=g.le;have g3:=wW g;by_cases e:(tk (ja s 0) p.2).kind==7
   .simp only[if_pos e];exact⟨g1,ae⟩
   .simp only[if_neg e];exact(Ce (s:=s) ⟨_,rfl⟩).1
def si.nd(h:si a):nn a<=1001->qW a:=by
 induction h with
 |var s n f t a=>exact λ_=>.var ..|up s n L f t a h1 h2 h3 h4 ih=>
  intro hn;simp only[nn]at hn;exact .up _ _ _ _ _ _ (h1.Te h2) (by have:=l7 L;omega) λi hi=>ih _ (j3 hi) (by have:=rS<|j3 hi;omega)
 |pr x y f t a h1 h2 i1 i2=>intro hn;simp only[nn,bY]at hn;exact .two _ _ _ _ _ _ _ _ (.inr rfl) (i1 ae) (i2 ae)|fn x y f t a h1 h2 i1 i2=>intro hn;simp only[nn,bY]at hn;exact .two _ _ _ _ _ _ _ _ (.inl rfl) (i1 ae)<|i2 ae
def I0(h:eK s=.ok a):qW a/\nn a<=802:=by
 have g:=Bt s;rw[h]at g;exact⟨g.1.nd (by have:=g.2;omega),g.2⟩
mutual
def Qa:∀(nd:Nd)(ns:List BA),size (aI ns nd).1<=nn nd/\(aI ns nd).2.length<=ns.length+nn nd
 |.mk k s n L f t a,ns=>by
  have h:=I1 L ns;rw[aI];split
  .simp only[size,nn,nV];split<;>simp<;>omega
  .simp only[size,nn];omega
def I1:∀(L:List Nd)(ns:List BA),ah (aA ns L).1<=bY L/\(aA ns L).2.length<=ns.length+bY L
 |[],ns=>by simp[aA,ah,bY]|x::l,ns=>by
  have h1:=Qa x ns;have h2:=I1 l (aI ns x).2;simp only[aA,ah,bY];omega
end
def Bu(hs:¬400<s.size){f:Fl}(h:fin (ja s 0) (eH (ja s 0) (ja s 0).length 0)=.error f):eK s=.error f:=by
 unfold eK;rw[if_neg hs];unfold fin at h;split at h
 .rename_i f' e;cases h;rw[e]
 .rename_i a k e;split at h
  .rename_i h6
   cases h
   rw[e];simp[h6]
  .cases h
def YG(hs:¬400<s.size)(h:fin (ja s 0) (eH (ja s 0) (ja s 0).length 0)=.ok (a,k)):eK s=if(tk (ja s 0) k).kind==7 then .ok a else .error (db<|tk (ja s 0) k):=by
 rw[eK];rw[if_neg hs,(pK h).1]
def oP(s:BA)(w:World)(e:Ending)(w':World):=
 ∃v f,e=.returned (.tuple #[v,m9 f])/\Bq w w'/\match eK s with
  |.error f'=>f=f'/\v=.nilIface|.ok a=>f=gF/\PT w' (λb=>w.heap.size<=b) a v
def L0 s(hs:400<s.size):Cq 69 #[.string s,.func (.func 70) #[] #[]] w (oP s w):=by
 have h1:(400:Int)<(s.size:Int):=ae;have hp:Hid (eK s=.error ⟨1,0,0⟩):=by show _=_;simp[eK,hs]
 go_enter_defers Tryz.func69,Tryz.ntmps69
 go_wp2_with fail;simp[bodyPostD,Leaves,settle,results,Tryz.results69,go_sem];refine⟨_,⟨1,0,0⟩,rfl,bw _,?_⟩;rw[uh hp];exact⟨rfl,rfl⟩
def DG{p:Prop}(h:p:=by
 rw[qs _ _ _ _ (by show b≠w.heap.size;omega),qs _ _ _ _ (by show b≠w.heap.size;omega),qs _ _ _ _ (by show b≠w.heap.size;omega)]):p:=h
def abN(h:Laid w)s(hs:¬400<s.size)(hT:(ja s 0).length<=1001):Cq 69 #[.string s,.func (.func 70) #[] #[]] w (oP s w):=by
 have h1:decide ((400:Int)<(s.size:Int))=false:=bQ;have iD:s.size<=1000:=ae;have hT0:0<(ja s 0).length:=by
  rw[iU s 0<|qg _];split<;>simp
 have⟨bR,B0⟩:=mM w zF 30;have HL:=h.af bR
 go_enter_defers Tryz.func69,Tryz.ntmps69
 go_wp2_with fail;refine(ud HL s iD).mono ?_;intro e w1 hp;obtain⟨da,hp⟩:=hp;have B1:=B0.below da;have dC:=bR.trans<|da.mono bR.size;have et:=iK s 0 hT0;rw[show aF (ja s 0) 0=0 from rfl]at et;obtain⟨h6,rfl,N,sb,m,R1,E1⟩|⟨h6,rfl⟩:=hp
 .have eG:(w.alloc<|Cv zF 30).heap.size=w.heap.size+1:=ag;rw[<-et,eG]at R1;rw[<-et]at h6;have lY:=R1.z;have S1:SX w1 N (w.heap.size+1) sb m s 0:=⟨by rw[show aF (ja s 0) 0=0 from rfl];exact R1,by simpa using E1,hT0,h6⟩;have HA:=Nw (n:=(ja s 0).length) iD hT S1 ae;go_wp2_with fail;refine HA.mono ?_;intro e w2 hp
  cases hA:fin (ja s 0) (eH (ja s 0) (ja s 0).length 0)with
  |error f=>
   obtain⟨rfl,K2⟩:=hp.bad hA;have ed:=K2.low dC dC.size ae;refine leaves_cons (f:=102) (args:=#[Pv w.heap.size]) ag Mw ?_;refine(yt w.heap.size (B1.ri K2 ae) f).mono ?_;rintro e u' w9⟨rfl,rfl,hB,hb⟩;obtain⟨c9,_,_⟩:=hB;simp[Leaves,settle,results,Tryz.results69,go_sem,c9];refine⟨_,f,rfl,ed.trans<|hb.mono qbr,?_⟩;rw[Bu hs hA];exact⟨rfl,rfl⟩
  |ok r=>
  obtain⟨a,k⟩:=r;obtain⟨v,rfl,K2,S2,P2⟩:=hp.ok hA;obtain⟨tv,xv,rfl⟩:=P2.iface;have R2:=S2.rd;have hk:=S2.lt;have h62:=S2.ok;have ed:=K2.low dC dC.size ae;have B2:=B1.ri K2 ae;have Yw:=YG hs hA;have ho:=dX s k hk;have hke:=Gb ho h62;by_cases h7:(tk (ja s 0) k).kind=7
  .have t7:((aq<|tk (ja s 0) k).toList==mG.toList)=true:=by rw[show mG.toList=[116,104,101,32,101,110,100]from toList_mk _,hke];simp[h7]
   go_wp2_with fail;refine(hY R2 iD (pd s k hk) mG t7).mono ?_;intro e w3 hp;obtain⟨rfl,K3,R3⟩:=hp.ok<|G_ hk h7;have B3:=B2.ri K3 ae;have Jn:=K3.low ed ed.size ae;have P3:=P2.ke K3 (λb p=>by show b≠_;have:w1.heap.size<=b:=p;omega);have B4:=B3.fN rfl (Iv 0) (Iv 0) (Iv 0);obtain⟨c3,f3,z3⟩:=B3;go_wp2_with fail;refine leaves_cons (f:=102) (args:=#[Pv w.heap.size]) ag Mw ?_;refine(ae8 w.heap.size).mono ?_;rintro e u' w9⟨rfl,rfl,rfl⟩;obtain⟨c4,f4,z4⟩:=B4;simp[Leaves,settle,results,Tryz.results69,go_sem,c4];refine⟨_,gF,rfl,((Jn.setCell (br _) _).setCell (br _) _).setCell (br _) _,?_⟩;rw[Yw,if_pos<|by simp[h7]];refine⟨rfl,P3.move xH (λb p _=>?_)<|λb p _=>?_⟩
   .have p':=p;exact DG
   .have p':=p;show w.heap.size<=b;omega
  .have t7:((aq<|tk (ja s 0) k).toList==mG.toList)=false:=by rw[show mG.toList=[116,104,101,32,101,110,100]from toList_mk _,hke];simp[h7]
   go_wp2_with fail;refine(vF R2 mG t7 h62).mono ?_;rintro e w3⟨rfl,K3⟩;have Jn:=K3.low ed ed.size ae;rw[if_neg<|by simp[h7]]at Yw;refine leaves_cons (f:=102) (args:=#[Pv w.heap.size]) ag Mw ?_;refine(yt w.heap.size (B2.ri K3 ae)<|db<|tk (ja s 0) k).mono ?_;rintro e u' w9⟨rfl,rfl,hB,hb⟩;obtain⟨c9,_,_⟩:=hB;simp[Leaves,settle,results,Tryz.results69,go_sem,c9];refine⟨_,(db<|tk (ja s 0) k),rfl,Jn.trans<|hb.mono qbr,?_⟩;rw[Yw];exact⟨rfl,rfl⟩
 .rw[<-et]at h6⊢;have iC:fin (ja s 0) (eH (ja s 0) (ja s 0).length 0)=.error (db<|tk (ja s 0) 0):=sS _ _ 0 h6;refine leaves_cons (f:=102) (args:=#[Pv w.heap.size]) ag Mw ?_;refine(yt w.heap.size B1<|db<|tk (ja s 0) 0).mono ?_;rintro e u' w9⟨rfl,rfl,hB,hb⟩;obtain⟨c9,_,_⟩:=hB;simp[Leaves,settle,results,Tryz.results69,go_sem,c9];refine⟨_,(db<|tk (ja s 0) 0),rfl,dC.trans<|hb.mono qbr,?_⟩;rw[Bu hs iC];exact⟨rfl,rfl⟩
def SH(h:Laid w)s:Cq 69 #[.string s,.func (.func 70) #[] #[]] w (oP s w):=by
 by_cases hs:400<s.size
 .exact L0 s hs
 .exact abN h s hs (by have:=G' s 0;omega)
def afA(h:Laid w)s:Cq 43 #[.string s] w (oP s w):=by
 have⟨bR,B0⟩:=mM w zF 30;have HL:=h.af bR;have HC:=SH HL s;go_enter func43,ntmps43;go_wp2_with fail;refine HC.mono ?_;rintro e w1⟨v,f,rfl,da,hp⟩;have B1:=B0.below da;have B2:=B1.fN rfl (Nv f.kind) (Nv f.al) (Nv f.to);obtain⟨c1,f1,z1⟩:=B1;have Hp:=ai hp;rw[m9];go_wp2_with fail;obtain⟨c2,f2,z2⟩:=B2;refine bodyPost_ret (v:=.tuple #[v,m9 f]) (by simp[results,Tryz.results43,go_sem,m9,c2]) rfl ⟨v,f,rfl,(((bR.trans<|da.mono bR.size).setCell (br _) _).setCell (br _) _).setCell (br _) _,?_⟩;have hp:=uh Hp
 cases hr:eK s with
 |error f'=>rw[hr]at hp;exact hp|ok a=>
  rw[hr]at hp;refine⟨hp.1,hp.2.move xH (λb p _=>?_)<|λb p _=>?_⟩
  .have p':=p;simp at p';exact DG
  .have p':=p;simp at p';show w.heap.size<=b;omega
section
variable {kb fb cb mb:Nat}
def L6{f:Fl}(h:eK s=.error f):f.kind≠0:=by
 have g:=Bt s;rw[h]at g;have g:f.kind%6≠0:=g;omega
def YH(kb fb cb mb:Nat)(ns:List BA)(s:BA)(w:World)(e:Ending)(w':World):=
 ∃v f,e=.returned (.tuple #[v,m9 f])/\Fr (Zp cb mb) w w'/\
  ((f.kind≠0/\(eK s=.error f\/∃a,eK s=.ok a/\48<size (aI ns a).1/\f=⟨7,0,s.size⟩))\/
   (f=gF/\∃a,eK s=.ok a/\¬48<size (aI ns a).1/\NM w' kb fb cb mb (aI ns a).2/\(aI ns a).2.length<=ns.length+802/\dE w' (λb=>w.heap.size<=b) (aI ns a).1 v))
def L7(hL:Laid w)(h:NM w kb fb cb mb ns)(hn:ns.length<=900)s:Cq 31 #[.string s,nmV kb fb] w (YH kb fb cb mb ns s w):=by
 have bA:=h.lt;have⟨bR,B0⟩:=mM w zF 30;have HC:=afA (hL.af bR) s;go_enter func31,ntmps31;go_wp2_with fail;refine HC.mono ?_;rintro e w1⟨v,f,rfl,da,hp⟩;have dC:=bR.trans<|da.mono bR.size;have⟨jT,L2⟩:=mM w1 #[Nv f.kind,Nv f.al,Nv f.to] 30;have ed:=dC.trans<|jT.mono dC.size;have B2:=ai<|(B0.below da).alloc<|Cv #[Nv f.kind,Nv f.al,Nv f.to] 30;have⟨c2,f2,z2⟩:=uh B2;obtain⟨d2,g2,y2⟩:=L2;rw[m9]
 cases hr:eK s with
 |error f'=>
  rw[hr]at hp;obtain⟨rfl,rfl⟩:=hp;have hk:=L6 hr;have gG:((f.kind:Int)==0)=false:=bQ;have B3:=ai<|(B2.fN rfl (Nv f.kind) (Nv f.al) (Nv f.to)).g_
  go_wp2
  go_region;go_wp2_with fail;have⟨c3,f3,z3⟩:=uh B3;refine bodyPost_ret (v:=.tuple #[Zv,m9 f]) (by simp[results,Tryz.results31,go_sem,m9,c3]) rfl ⟨_,f,rfl,?_,qm ⟨hk,qm hr⟩⟩;exact((Fr.of ed).zL (ql<|br _) _ _ _).drew
 |ok a=>
  rw[hr]at hp;obtain⟨rfl,P1⟩:=hp;obtain⟨tv,xv,rfl⟩:=P1.iface;have⟨hTy,hnz⟩:=I0 hr;have⟨hsm,hmc⟩:=Qa a ns;have aje:=da.size;simp at aje;have hQ:∀b,(w.alloc<|Cv zF 30).heap.size<=b->b≠cb/\b≠mb:=λb q=>by simp at q;omega
  have HO:=acy a hTy _ kb fb cb mb ns _ _ (h.af ed) (P1.af jT) hQ ae;simp only[gF]at*;go_wp2_with fail;refine HO.mono ?_;rintro e w3⟨u,rfl,T3,N3,F3⟩;obtain⟨tu,xu,rfl⟩:=T3.iface;have hnt:¬Zp cb mb w.heap.size:=λq=>by obtain q|q:=q<;>omega
  have B3:=B2.fr F3 hnt;have FF:=(Fr.of ed).trans F3;have z3:=F3.size;simp at z3;go_wp2_with fail;refine(NP (aI ns a).1 w3 _ _ T3 ae).mono ?_;rintro e w4⟨rfl,DN⟩;have B4:=B3.below DN;have FG:=FF.trans<|Fr.of DN;have N4:=N3.af DN;have T4:=T3.af DN;have Zy:=ai B4;obtain⟨c4,f4,z4⟩:=B4;by_cases eG:48<size (aI ns a).1
  .have hd:(48:Int)<(size (aI ns a).1:Int):=ae;have B5:=ai<|Zy.fN rfl (Iv 7) (Iv 0) (Nv s.size);go_wp2_with fail;have⟨c5,f5,z5⟩:=uh B5;exact bodyPost_ret (v:=.tuple #[Zv,m9 ⟨7,0,s.size⟩]) (by simp[results,Tryz.results31,go_sem,m9,c5]) rfl ⟨_,⟨7,0,s.size⟩,rfl,FG.zL (ql<|br _) _ _ _,qm ⟨ag,ql ⟨a,hr,eG,rfl⟩⟩⟩
  .have hd:decide ((48:Int)<(size (aI ns a).1:Int))=false:=bQ;have B5:=ai<|Zy.fN rfl (Iv 0) (Iv 0) (Iv 0);go_wp2_with fail;have⟨c5,f5,z5⟩:=uh B5;refine bodyPost_ret (v:=.tuple #[Fv tu xu,m9 gF]) (by simp[results,Tryz.results31,go_sem,m9,c5,gF]) rfl ⟨_,gF,rfl,FG.zL (ql<|br _) _ _ _,ql ⟨rfl,a,hr,eG,?_,ae,?_⟩⟩
   .exact((N4.set ae 0 _).set ae 1 _).set ae 2 _
   .refine T4.move xH (λb p _=>?_) (λb p _=>?_)
    .have p':=p;simp at p';exact DG
    .have p':=p;simp at p';show w.heap.size<=b;omega
end
def DH(s:BA)(w:World)(e:Ending)(w':World):Prop:=e=.returned (.tuple #[.string<|bs (m7 s).1,m9 (m7 s).2])/\Bq w w'
def abO(Xv:∀nd,WN nd->RN nd)(hL:Laid w)(s:BA):Cq 18 #[.string s] w (DH s w):=by
 have⟨bR,B0⟩:=mM w zF 30;have da:Bq w ((w.alloc<|Cv zF 30).alloc<|Cv #[Iv 0] 3):=bR.alloc ag _;have B1:=B0.alloc<|Cv #[Iv 0] 3;have C1:Bx ((w.alloc<|Cv zF 30).alloc<|Cv #[Iv 0] 3) (w.heap.size+1) #[Iv 0]:=by have:=qu (w.alloc<|Cv zF 30) #[Iv 0] 3;simpa using this
 go_enter func18,ntmps18;go_wp2_with(go_at_call 33;refine vh.mono ?_;rintro e w'⟨rfl,rfl⟩);refine(NR (w.heap.size+1) C1).mono ?_;rintro e w2⟨kb,fb,mb,rfl,N2,jT,so⟩;have ed:=da.trans<|jT.mono da.size;have B2:=B1.below jT;have HC:=L7 (hL.af ed) N2 ag s;go_wp2_with fail;refine HC.mono ?_;rintro e w3⟨v,f,rfl,F3,hp⟩;simp at so;have hS:∀x,Zp (w.heap.size+1) mb x->w.heap.size<=x:=λx q=>by obtain q|q:=q<;>omega
 have Jn:=Fr.sN ed ed.size F3 hS;have B3:=B2.fr F3 (λq=>by obtain q|q:=q<;>omega);have⟨DN,L4⟩:=mM w3 #[Nv f.kind,Nv f.al,Nv f.to] 30;have Zy:=Jn.trans<|DN.mono Jn.size;have B4:=ai<|B3.below DN;have⟨c4,f4,z4⟩:=uh B4;obtain⟨d4,g4,y4⟩:=L4;rw[m9];obtain⟨hk,hp⟩|⟨rfl,a,hr,eG,N3,AE,T3⟩:=hp
 .have gG:((f.kind:Int)==0)=false:=bQ;have hca:m7 s=([],f):=by
   rw[m7];obtain hp|⟨a,hr,eG,rfl⟩:=hp
   .rw[hp]
   .rw[hr];simp[eG]
  have B5:=ai<|(B4.fN rfl (Nv f.kind) (Nv f.al) (Nv f.to)).g_
  go_wp2
  go_region;go_wp2_with fail;have⟨c5,f5,z5⟩:=uh B5;refine bodyPost_ret (v:=.tuple #[Sv<|bs [],m9 f]) (by simp[results,Tryz.results18,go_sem,m9,c5,bs]) rfl ?_;rw[DH];rw[hca];exact⟨rfl,(((Zy.setCell (br _) _).setCell (br _) _).setCell (br _) _).drew⟩
 .obtain⟨tv,xv,rfl⟩:=T3.iface;have hca:m7 s=(Un.written dec (aI [] a).1,gF):=by
   rw[m7];rw[hr];simp[eG]
  have⟨hTy,_⟩:=I0 hr;have hW:=aa7 hTy [];have T4:=T3.af DN;have hvs:=nX (aI [] a).1 [];simp only[gF]at*;go_wp2_with fail;refine Di.mono ?_;rintro e w5⟨cb5,nb5,mb5,rfl,C5,N5,hm5,ajf,hb5⟩;have HB5:=Zy.trans<|hb5.mono Zy.size;have B5:=B4.below hb5;have zw:=Jn.size;simp at hm5;have T5:=T4.low.af hb5;have HWr:=vU Xv T5 (λb p=>by have:=p.2;simp at this;omega) N5 C5 ajf hW ae (by simp at hvs;omega);go_wp2_with fail;refine HWr.mono ?_;rintro e w6⟨rfl,N6,F6⟩;have HB6:=Fr.sN HB5 HB5.size F6 (λx q=>by subst q;omega);have B6:=B5.fr F6 (by show ¬w.heap.size=mb5;omega);have B7:=B6.fN rfl (Iv 0) (Iv 0) (Iv 0);obtain⟨c6,f6,z6⟩:=B6;go_wp2_with fail;obtain⟨c7,f7,z7⟩:=B7;refine bodyPost_ret (v:=.tuple #[Sv<|bs<|wr dec (vars [] (aI [] a).1) (aI [] a).1 0,m9 gF]) (by simp[results,Tryz.results18,go_sem,m9,c7,gF]) rfl ?_;rw[DH];rw[hca];exact⟨rfl,((HB6.setCell (br _) _).setCell (br _) _).setCell (br _) _⟩
def Uz(hL:Laid w)(s:BA):Cq 18 #[.string s] w (DH s w):=abO Xw hL s
end
section
open Un
def ahN:Nd->Nat
 |.mk k _ _ _ _ _ _=>k
def TkP n(t:jc):=t.al<t.to/\t.to<=n
def GeZ:Dc->Prop
 |.ty _ _ ms=>∀m∈ms,Ge 0 m|.lt _ _ b=>Ge 0 b
def PlD(n:Nat):Dc->Prop
 |.ty t vs ms=>TkP n t/\(∀v∈vs,TkP n v)/\∀m∈ms,PlN n m/\ahN m=2|.lt _ t b=>TkP n t/\PlN n b
def yI(s:BA):∀f i,(∀(j:Nat)(h:j+1<(jd s f i).length),i<=((jd s f i)[j]).al/\((jd s f i)[j]).al<((jd s f i)[j]).to/\((jd s f i)[j]).to<=s.size/\((jd s f i)[j]).to=((jd s f i)[j]).al+((jd s f i)[j]).text.size)/\∀(j k:Nat)(hjk:j<k)(h:k+1<(jd s f i).length),((jd s f i)[j]).to<=((jd s f i)[k]).al
 |0,i=>⟨λj h=>by simp[jd]at h,λj k _ h=>by simp[jd]at h⟩|f+1,i=>by
  unfold jd;by_cases hi:i<s.size
  .by_cases hb:Pu.dI (Pu.at_ s i)=true
   .simp only[hi,hb,if_true];have⟨h1,h2⟩:=yI s f<|i+1;exact⟨λj h=>⟨by have:=(h1 j h).1;omega,(h1 j h).2⟩,h2⟩
   .simp only[hi,hb,if_true,if_false];have⟨h1,h2⟩:=yI s f (Pu.cN s i).to;have ht:=Pu.k9 s i hi;have hf:=Pu.Aq s i;have hsp:=Gc s i hi;refine⟨λj h=>?_,λj k hjk h=>?_⟩
    .cases j with
     |zero=>exact⟨by simp[hf],by simp[hf];exact ht.1,by simp;exact ht.2,by simpa using hsp⟩|succ j=>
      have q:=h1 j DQ;exact⟨by have:=q.1;show i<=_;exact qf ae q.1,q.2⟩
    .cases k with
     |zero=>omega|succ k=>
      cases j with
      |zero=>simpa using(h1 k DQ).1|succ j=>simpa using h2 j k ae DQ
  .simp only[hi,if_false];exact⟨λj h=>tP,λj k _ h=>tP⟩
def abP(s:BA)(hs:s.size<=400):pF (ja s 0) ((ja s 0).length-1) s.size:=by
 have⟨l,hl,_⟩:=j_ s (s.size-0) 0;have e:ja s 0=l++[Pu.dT s]:=hl;have⟨h1,h2⟩:=yI s (s.size-0) 0;have h1:∀(j:Nat)(h:j+1<(ja s 0).length),0<=((ja s 0)[j]).al/\((ja s 0)[j]).al<((ja s 0)[j]).to/\((ja s 0)[j]).to<=s.size/\((ja s 0)[j]).to=((ja s 0)[j]).al+((ja s 0)[j]).text.size:=h1;have h2:∀(j k:Nat)(hjk:j<k)(h:k+1<(ja s 0).length),((ja s 0)[j]).to<=((ja s 0)[k]).al:=h2;have a:∀j,j<(ja s 0).length-1->(tk (ja s 0) j).al<(tk (ja s 0) j).to/\(tk (ja s 0) j).to<=s.size/\(tk (ja s 0) j).to=(tk (ja s 0) j).al+(tk (ja s 0) j).text.size:=λj hj=>by
  rw[<-Ga (T:=ja s 0) (k:=j) ae];exact(h1 j ae).2
 have b:∀i j,i<j->j<(ja s 0).length-1->(tk (ja s 0) i).to<=(tk (ja s 0) j).al:=λi j Y' hj=>by
  rw[<-Ga (T:=ja s 0) (k:=i) ae,<-Ga (T:=ja s 0) (k:=j) ae];exact h2 i j Y' ae
 have c:∀j,(ja s 0).length-1<=j->(tk (ja s 0) j).al=if j=(ja s 0).length-1 then s.size else 0:=λj hj=>by
  rw[tk];rw[List.getD_eq_getElem?_getD];split
  .rename_i q;rw[q,e];simp[Pu.dT]
  .rw[List.getElem?_eq_none ae];rfl
 refine⟨(nj s hs).1,λi=>?_,λi j h1 h2=>?_,a,b⟩
 .by_cases q:i<(ja s 0).length-1
  .have:=a i q;omega
  .rw[c i ae];split<;>omega
 .by_cases q:i=j
  .rw[q];exact br _
  .have x:=a i ae;by_cases z:j<(ja s 0).length-1
   .have:=b i j ae z;omega
   .rw[c j ae,if_pos ae];omega
theorem pF.tk(h:pF T e n)(hk:k<e):TkP n (Go.Proofs.YtfnkchdeheeiiaaGreatDoor.tk T k):=⟨(h.lt k hk).1,(h.lt k hk).2.1⟩
def BdD.pos(h:pF T e n){k j:Nat}{b:Nat×jc×Nd}(q:BdD T e k b j):TkP n b.2.1/\PlN n b.2.2/\Ge 0 b.2.2:=by
 have:=q.le;obtain⟨_,e2,_,e4⟩|⟨_,e2,_,e4⟩:=q<;>rw[e2]<;>exact⟨h.tk ae,(e4.pos h).2.1,(e4.pos h).1.mono<|qg _⟩
def YE.pos(h:pF T e n){k j:Nat}{d:Dc}(q:YE T e k j d):PlD n d/\GeZ d:=by
 cases q with
 |ty t1 v m h1 h2=>
  have:=m.le;exact⟨⟨h.tk ae,λx hx=>(by obtain⟨_,q,hq,rfl⟩:=v x hx;exact h.tk hq),m.all λ_ _ _ _ _ d=>⟨(d.pos h).2.1,by obtain⟨_,_,_,_,_,rfl,_⟩:=d.shp h.g;rfl⟩⟩,m.all λ_ _ _ _ _ d=>(d.pos h).1.mono<|qg _⟩
 |lt b hj=>have:=b.pos h;exact⟨⟨this.1,this.2.1⟩,this.2.2⟩
def SI(h:cd s=.ok l):∀d∈l,PlD s.size d/\GeZ d:=by
 have hs:¬400<s.size:=λq=>by simp[cd,q]at h
 have q:=DF hs;rw[h]at q;obtain⟨j,q⟩:=q;exact q.all λ_ _ _ d=>d.pos<|abP s ae
def I4(u:Zh):∀(l m:List Dc)(e:SE),gh u (l++m) e=gh u m (gh u l e)
 |[],_,_=>rfl|d::r,m,e=>I4 u r m _
def QY u(l:List Dc)e i(h:i<l.length):gh u (l.take<|i+1) e=Tf u l[i] (gh u (l.take i) e):=by
 rw[j5 h,I4];rfl
def DSm:Dc->Prop
 |.ty _ vs ms=>vs.length<=1000/\∀m∈ms,Sm m|.lt _ _ b=>Sm b/\ig b
def afB(h:m∈ms):nn m<=bY ms:=rS h
def Cx:∀{l:List Dc}{d:Dc},d∈l->Jk d<=EI l
 |x::r,d,h=>by
  simp only[EI,j7,List.sum_cons];obtain rfl|q:=List.mem_cons.1 h
  .omega
  .have:=Cx q;simp only[EI]at this;omega
def Vm(h:cd s=.ok l):(∀d∈l,DSm d)/\EI l<=802:=by
 have hs:¬400<s.size:=λq=>by simp[cd,q]at h
 have hg:=sM hs;rw[h]at hg;refine⟨λd hd=>?_,hg.2⟩;have h1:=(SI h d hd).2;have h2:=Cx hd;have h3:=hg.1 d hd;have h4:=hg.2
 cases d with
 |ty t vs ms=>
  simp only[Jk]at h2;exact⟨ae,λm hm=>⟨h1 m hm,by have:=afB hm;omega⟩⟩
 |lt r t b=>
  simp only[Jk]at h2;exact⟨⟨h1,ae⟩,h3.2.2.1⟩
end
section
open Go.ChangeMaps Go.MapKept Un
def Zz:EQ Ty:=λw P t c=>dE w P t<|c 0
def ie:fO Zz:=by grind[fO,Zz,dE.move]
def vsT(j:Nat):List Ty:=(List.range j).map λi=>.var<|i+1
def YI j:vsT (j+1)=vsT j++[.var<|j+1]:=by simp[vsT,List.range_succ]
def oQ j:(vsT j).length=j:=by simp[vsT]
structure TdF(t:jc)(vs:List jc)(ms:List Nd):Prop where
 up:mN t.text
 vn:(vs.map (·.text)).Nodup
 vl:vs.length<=900
 vq:∀v∈vs,NH v.text
 ml:ms.length<=900
 mt:∀i(h:i<ms.length),∃s n L f u a,ms[i]=.mk 2 s n L f u a/\L.length<=900/\∀k(hk:k<L.length),qW L[k]/\(aI (vs.map (·.text)) L[k]).2=vs.map (·.text)/\aI (vs.map (·.text)) (es L[k])=aI (vs.map (·.text)) L[k]
def Qb{s:BA}:∀{ns:List BA},s∉ns->ix s ns=ns.length/\ix s (ns++[s])=ns.length
 |[],_=>⟨rfl,by simp[ix]⟩|a::ns,h=>by
  have h1:¬a.toList=s.toList:=λe=>h (by rw[show a=s from by have:=congrArg List.toArray e;cases a;cases s;simp_all[ByteArray.toList_eq]];simp);have⟨h2,h3⟩:=Qb (s:=s) (ns:=ns)<|λq=>h qBf;simp[ix,h1,h2,h3]
def Fr.grown{a W}{row}(h:Fr S a W)(hg:W.grownBy w' row)(hr:∀b,row=some b->S b\/a.heap.size<=b):Fr S a w':=
 ⟨hg.os.trans h.os,hg.tape.trans h.tape,hg.output.trans h.output,qf h.size hg.size,λk hk hn=>(hg.block k (qi hk h.size) (λe=>by obtain q|q:=hr k e.symm;exact hn q;omega)).trans (h.block k hk hn)⟩
def dt.ty{c}{L:List Ty}(hc:mN c)(h:dt Zz 67 1 w base va vc L):dE w (λb=>base<=b) (.aH c L) (.iface 169<|.agg #[.string c,.slice va L.length vc]):=by
 have⟨oX,oY,cs,e,aN,hq⟩:=h.v ie;injection e with e1 _ e2;subst e1 e2;have:=dE.aH (w:=w) (P:=λb=>base<=b) c L va vc (λi=>cs i 0) (ql<|ql hc) (aN.imp id λ⟨g,q1,q2,q3,q4⟩=>⟨g,q1,q2,q3,λi hi=>by simpa using q4 i hi 0 aK⟩) (λi hi=>hq i hi)
 rwa[eJ hc]at this
def dt.ajg{L:List Ty}(h:dt Zz 67 1 w base va vc L):TL w (λb=>base<=b) va L:=by
 have⟨oX,oY,cs,e,aN,hq⟩:=h.v ie;injection e with e1 _ e2;subst e1 e2;exact aN.imp id λ⟨g,q1,q2,q3,q4⟩=>⟨g,λi=>cs i 0,q1,q2,q3,λi hi=>⟨by simpa using q4 i hi 0 aK,hq i hi⟩⟩
def r_:Tryz.prog.underlying 214=some (.map 9 470):=qkr
def uN{ops}{rest}{o}{a}{F}(hg:o.guard=none)m x v(qB:o.op=Op.insert 214 m x v\/o.op=Op.mapUpdate 214 m x v)(hm:a.eval m=Mv b)(h:lQ w P b mk)(hP:¬P b){tk}{mt}{u}(hc:Ta w P tk mt u)n(hx:a.eval x=.string n)(hv:a.eval v=u)(hK:∀w',lQ w' P b (λy=>if y=n then some (tk,mt)else mk y)->One b w w'->wpList qp ops F rest (a.put o.dst undef) w'):
 wpList qp ops F (o::rest) a w:=by
 obtain⟨L,h1,h2,h3⟩:=h;refine b8 Mf r_ hg m x v qB hm h1 n u hx hv λw' hM o=>hK w' ⟨_,hM,λy hy=>?_,λy z hy=>?_⟩ o
 .rw[aJ]at hy;by_cases e:n=y
  .grind
  .grind
 .have mv:∀{tk m v},Ta w P tk m v->Ta w' P tk m v:=λh=>h.move Jc (λx p _=>o.block x<|λe=>hP<|e▸p)<|λ_ p _=>p;rw[aJ]at hy;by_cases e:n=y
  .grind
  .grind
def yJ(t:jc)(vs:List jc)(m:Nd):∀(l:List Nd)(mk:ji),jf t vs (l++[m]) mk=λy=>if y=jl m then some (jm (vs.map (·.text)) m,jh t vs)else jf t vs l mk y
 |[],mk=>rfl|x::l,mk=>by
  show jf t vs (l++[m]) _=_;rw[yJ t vs m l];rfl
def Qc ns(L:List Nd):=L.map λx=>(aI ns x).1
def YJ{ns:List BA}:∀{L:List Nd},(∀k(hk:k<L.length),(aI ns L[k]).2=ns/\aI ns (es L[k])=aI ns L[k])->aA ns (tU L)=(Qc ns L,ns)
 |[],_=>rfl|x::l,h=>by
  have⟨h1,h2⟩:=h 0 ag;have h1:(aI ns x).2=ns:=h1;have h2:aI ns (es x)=aI ns x:=h2;have h3:=YJ (L:=l) λk hk=>h (k+1) bQ;simp[tU,aA,h2,h1,h3,Qc]
def YK(h:k<L.length):Qc ns (L.take<|k+1)=Qc ns (L.take k)++[(aI ns L[k]).1]:=by
 rw[Qc];rw[j5 h,qc];rfl
def abQ(h:k<=L.length):(Qc ns<|L.take k).length=k:=by grind[Qc]
def ajh w7 B p4 mm kb fb cb mb(t:jc)(vs:List jc)(ms:List Nd)va vc gk v wr:=
 ∃(j:Nat),Hid (gk=ms.length-j)/\j<=ms.length/\v=Nv j/\NM wr kb fb cb mb (vs.map (·.text))/\Bx wr p4 #[.string t.text,.slice va vs.length vc]/\dE wr (λi=>B<=i/\i≠cb/\i≠mb/\i≠mm) (jh t vs) (.iface 169<|.agg #[.string t.text,.slice va vs.length vc])/\lQ wr (λi=>B<=i/\i≠cb/\i≠mb/\i≠mm) mm (jf t vs (ms.take j) λ_=>none)/\Fr (λi=>i=cb\/i=mb\/i=mm) w7 wr
def aji w8 p10 kb fb cb mb(vs:List jc)(L:List Nd)mv gk v wr:=
 ∃(j:Nat)(va:Option Addr)(vc:Nat),Hid (gk=L.length-j)/\j<=L.length/\v=Nv j/\NM wr kb fb cb mb (vs.map (·.text))/\Bx wr p10 #[.slice va j vc,mv]/\dt Zz 67 1 wr w8.heap.size va vc (Qc (vs.map (·.text))<|L.take j)/\Fr (λi=>i=cb\/i=mb\/i=p10) w8 wr
def ajj w0 p4 kb fb cb mb(t:jc)(vs:List jc)gk v wr:=
 ∃(j:Nat)(va:Option Addr)(vc:Nat),Hid (gk=vs.length-j)/\j<=vs.length/\v=Nv j/\NM wr kb fb cb mb ((vs.map (·.text)).take j)/\Bx wr p4 #[.string t.text,.slice va j vc]/\dt Zz 67 1 wr w0.heap.size va vc (vsT j)/\Fr (λi=>i=cb\/i=mb\/i=p4) w0 wr
def I6{f u}(hv:RowV QName 3 w P vs vv)(hm:RowV QMaker 6 w P ms vm)(hd:TdF t vs ms):
 Calls qp 322 #[.agg #[.int .i64 f,.int .i64 u,.int .i64 (t.al:Int),.int .i64 (t.to:Int),.string t.text,vv,vm]] w (λe w'=>∃b,e=.returned (.map<|some b)/\Below w.heap.size w w'/\w.heap.size<=b/\lQ w' (λi=>w.heap.size<=i) b (jf t vs ms λ_=>none)):=by
 obtain⟨pa,pc,cs,rfl,HR,HQ⟩:=hv;obtain⟨ma,mc,ds,rfl,HRM,HQM⟩:=hm;have hl:=hd.vl;have iE:= @run_makeMap Tryz.prog;have⟨i0,vH,oW,lY,kE⟩:=info_parts fU;have⟨k0,B0⟩:=mM w #[.int .i64 f,.int .i64 u,.int .i64 (t.al:Int),.int .i64 (t.to:Int),Sv t.text,Lv pa vs.length pc,Lv ma ms.length mc] 137;have K0:=ai k0;clear k0;go_enter func322,ntmps322;go_wp2_with fail;refine(vh).mono ?_;rintro e w1⟨rfl,vo⟩;have k1:Below (w.alloc<|Cv #[.int .i64 f,.int .i64 u,.int .i64 (t.al:Int),.int .i64 (t.to:Int),Sv t.text,Lv pa vs.length pc,Lv ma ms.length mc] 137).heap.size (w.alloc<|Cv #[.int .i64 f,.int .i64 u,.int .i64 (t.al:Int),.int .i64 (t.to:Int),Sv t.text,Lv pa vs.length pc,Lv ma ms.length mc] 137) w1:=by rw[vo];exact bw _
 have C1:Bx w1 (w.heap.size+1) #[.int .i64 0]:=by rw[vo];have:=qu (w.alloc<|Cv #[.int .i64 f,.int .i64 u,.int .i64 (t.al:Int),.int .i64 (t.to:Int),Sv t.text,Lv pa vs.length pc,Lv ma ms.length mc] 137) #[.int .i64 0] 3;simpa using this
 have B1:=B0.below k1;have K1:=K0.trans<|k1.mono K0.size;have HN:=NR _ C1;have zw1:w1.heap.size=w.heap.size+2:=by rw[vo];simp
 clear vo k1 C1 B0 K0;go_wp2_with fail;refine HN.mono ?_;rintro e w2⟨kb,fb,mb,rfl,nm,k2,zmb⟩;clear HN;have⟨b1,b2,b3⟩:=B1.below k2;have K2:=K1.trans<|k2.mono K1.size;have B2:=B1.below k2;have NM2:=ai nm;have⟨y1,y2,y3,y4⟩:=nm.lt;have zz2:=B2.z;have zc1:=K1.size;clear nm k2 B1;go_wp2_with fail;obtain⟨w3,sw⟩:∃w3,w3=w2.alloc (Cv #[Sv t.text,Lv none 0 0] 169):=⟨_,rfl⟩;have k3:Below w2.heap.size w2 w3:=by rw[sw];exact bw _
 have P3':Bx w3 w2.heap.size #[Sv t.text,Lv none 0 0]:=by rw[sw];exact qu w2 #[Sv t.text,Lv none 0 0] 169
 have z3:w3.heap.size=w2.heap.size+1:=by rw[sw];simp
 have NM3:=NM2.af k3;have B3:=B2.below k3;have K3:=K2.trans<|k3.mono K2.size;rw[<-sw];clear sw k3 NM2 B2 K2;go_loopg[22] vs.length (λgk v wr=>ajj w3 w2.heap.size kb fb (w.heap.size+1) mb t vs gk v wr)
 case atStart=>exact⟨0,none,0,ai ag,qg _,rfl,by simpa using NM3,P3',by simpa[vsT]using dt.nil Zz 67 1 w3 w3.heap.size,Fr.refl _ _⟩
 case round=>
  obtain⟨j,va,vc,c_,hj,rfl,nm,p4,ro,ZA⟩:=hrel;have zr:=ZA.size;by_cases bh:j<vs.length
  .have bA:(j:Int)<(vs.length:Int):=ae;have Ej:(0:Int)<=(j:Int):=ae;obtain⟨g,rfl,hPg,kC,bU⟩:=HR.resolve_left<|λe=>qBs;obtain⟨q0,q1,q2,ajk,-⟩:=HQ j bh;have kZ:∀o,wr.cell? ⟨g,o,none⟩=w.cell? ⟨g,o,none⟩:=λo=>(qn (a:=⟨g,o,none⟩)<|ZA.block g (by have:=K3.size;omega) ae).trans<|qn (a:=⟨g,o,none⟩)<|K3.block g kC;have d0:wr.cell? ⟨g,j*3,none⟩=some (.int .i64 (vs[j].al:Int)):=by rw[kZ];exact(bU j bh 0 aK).trans (congrArg some q0)
   have d1:wr.cell? ⟨g,j*3+1,none⟩=some (.int .i64 (vs[j].to:Int)):=by rw[kZ];exact(bU j bh 1 aK).trans (congrArg some q1)
   have d2:wr.cell? ⟨g,j*3+2,none⟩=some (Sv<|tl vs[j].text):=by rw[kZ];exact(bU j bh 2 aK).trans (congrArg some q2)
   obtain⟨s,hs⟩:∃s,s=vs[j].text:=⟨_,rfl⟩;have hsn:s∉(vs.map (·.text)).take j:=by
    have hn:=hd.vn;have e:(vs.map (·.text))=(vs.map (·.text)).take j++(vs.map (·.text)).drop j:=(List.take_append_drop _ _).symm;rw[e,List.nodup_append]at hn;intro q;refine hn.2.2 s q s ?_ rfl;rw[List.drop_eq_getElem_cons (show j<(vs.map (·.text)).length by simpa using bh),hs];simp
   have hln:((vs.map (·.text)).take j).length=j:=bQ;have hix:=Qb hsn;have Zr:nV s ((vs.map (·.text)).take j)=(vs.map (·.text)).take (j+1):=by
    rw[nV];rw[hix.1,if_neg ae,j5 (show j<(vs.map (·.text)).length by simpa using bh),hs];simp
   have ahO:ix s (nV s ((vs.map (·.text)).take j))=j:=by
    rw[nV];rw[hix.1,if_neg ae,hix.2,hln]
   have HNA:∀W:World,Below wr.heap.size wr W->Calls qp 46 #[Sv<|tl s,.pointer<|some ⟨kb,0,none⟩,.pointer<|some ⟨fb,0,none⟩] W (λe w'=>e=Rv (Fv 98<|.int .i64<|(j:Int)+1)/\NM w' kb fb (w.heap.size+1) mb ((vs.map (·.text)).take<|j+1)/\Fr (Zp (w.heap.size+1) mb) W w'):=λW hb=>by
    refine(GC (nm.af hb) s (by rw[hs];exact ajk) ae).mono ?_;rintro e w'⟨rfl,h2,h3⟩;rw[ahO,Zr]at*;exact⟨rfl,h2,h3⟩
   rw[<-hs]at d2;obtain⟨fr0,ahP⟩:∃x:Int,x=(vs[j].al:Int):=⟨_,rfl⟩;obtain⟨to0,ahQ⟩:∃x:Int,x=(vs[j].to:Int):=⟨_,rfl⟩;rw[<-ahP]at d0;rw[<-ahQ]at d1;have⟨y1,y2,y3,y4⟩:=nm.lt;have⟨n1,n2,n3,n4,n5⟩:=nm.d1;have P4:=ai p4;have RO:=ai ro;obtain⟨x1,x2,x3⟩:=p4;have zp:=x3;have kA:Below wr.heap.size wr (wr.alloc<|Cv #[.int .i64 fr0,.int .i64 to0,Sv<|tl s] 133):=bw _;obtain⟨wA,hwA⟩:∃wA,wA=wr.alloc (Cv #[.int .i64 fr0,.int .i64 to0,Sv<|tl s] 133):=⟨_,rfl⟩;have A1:wA.cell? ⟨w2.heap.size,1,none⟩=some (Lv va j vc):=by rw[hwA];exact((uh P4).below kA).c 1
   have A2:wA.cell? ⟨wr.heap.size,2,none⟩=some (Sv<|tl s):=by rw[hwA];exact(qu wr #[.int .i64 fr0,.int .i64 to0,Sv<|tl s] 133).c 2
   rw[<-hwA]at kA;have KA:=ai kA;clear nm bU q0 q1 q2 kZ hix ahO Zr hsn ahP ahQ hs ro kA hln;go_wp2_with fail;rw[<-hwA];clear hwA d0 d1 d2 x1 x2;have⟨cs',OW,HPE⟩:=uh RO;rw[oQ]at OW;have Jv:=fk OW;have zKA:=(uh KA).size;have np4:¬w2.heap.size=w.heap.size+1:=ae;have np5:¬w2.heap.size=mb:=ae
   go_region_law(first
    |(go_simp;go_at_call 46;go_loud(refine(HNA _ KA.drew).mono ?_);rintro e w5⟨rfl,nm5,F5⟩;have B5:=(P4.below KA.drew).fr F5<|λq=>q.elim np4 np5;have A5:w5.cell? ⟨w2.heap.size,1,none⟩=some (Lv va j vc):=B5.c 1;have O5:Hid (w5.ownsRow w3.heap.size 67 1 (Lv va j vc) j<|gw cs' 1 j):=ai (rq OW λg hg=>(F5.block g (qi (Jv g hg).2 KA.drew.size) (λq=>by have:=(Jv g hg).1;obtain q|q:=q<;>omega)).trans<|KA.drew.block g (Jv g hg).2);have BB5:=ai B5;have NM5:=ai nm5;have F5':=ai F5;have z5:wA.heap.size<=w5.heap.size:=F5.size;have z25:w2.heap.size<w5.heap.size:= ae;clear B5 nm5 F5;dsimp only)
    |(refine iw rfl (.tmp 27) (.tmp 32) 167 rfl w3.heap.size 67 i0 _ 1 16 d_ vH oW lY kE rfl aK (Lv va j vc) j _ rfl (lh O5<|bw _) ⟨w5.heap.size,0,none⟩ 1 1 [Fv 98<|.int .i64<|(j:Int)+1] rfl rfl (nC _ _ _ _ ag) qAn qmo ae (by simp;have:=KA.size;omega) ?_;intro v6 w6 og Il uO;obtain⟨q3,c3,rfl⟩:=rH og ae;have YL:=BB5.below<|bw<|Cv #[Fv 98<|.int .i64<|(j:Int)+1] 67;have B6:=YL.same Il.size (Il.block _ YL.z (λe=>by have:=(Jv _ e.symm).1;omega));have A6:w6.cell? ⟨w2.heap.size,1,none⟩=some (Lv va j vc):=B6.c 1;have A7:w6.frozen? ⟨w2.heap.size,1,none⟩=false:=B6.f 1;have BB6:=ai B6;have OW6:=ai og;have HG6:=ai Il;have HL6:=ai uO;clear og Il uO YL B6))
   all_goals(
    go_wp2
    go_roundg(vs.length-(j+1))
    case measure=>rw[uh c_];omega
    case rel=>
     have kA:=(uh KA).drew;have F5:=uh F5';have hg:=uh HG6;have k5:Below w5.heap.size w5 (w5.alloc<|Cv #[Fv 98<|.int .i64<|(j:Int)+1] 67):=bw _;have F56:=(Fr.of k5).grown hg<|λb e=>qm (Jv b e).1;have zA:=kA.size;refine⟨j+1,some ⟨q3,0,none⟩,c3,ai rfl,qk bh,iF,((uh NM5).fr F56<|λb p=>ae).set ae 1 _,(uh BB6).aO 1 _ #[Sv t.text,Lv (some ⟨q3,0,none⟩) (j+1) c3] rfl ag,?_,?_⟩
     .rw[YI];have PU:=dt.push (Q:=Zz) (et:=67) (sz:=1) (base:=w3.heap.size) (va:=va) (vc:=vc) (L:=vsT j) (w1:=w5) (W:=w5.alloc<|Cv #[Fv 98<|.int .i64<|(j:Int)+1] 67) (w3:=w6) (lo:=w5.heap.size) (q3:=q3) (c3:=c3) (a:=.var<|j+1) (c:=λ_=>Fv 98<|.int .i64<|(j:Int)+1) (cs:=cs') ie
       (λi hi=>ie _ _ _ _ _ _ (HPE i hi) ae (λb p z=>(F5.block b ae (λq=>by have:=p.1;obtain q|q:=q<;>omega)).trans<|kA.block b z)<|λb p z=>⟨p.1,ae,p.2.2⟩)
       (by have:=dE.var (w:=w5) (P:=λb=>w5.heap.size<=b)<|j+1;show dE _ _ _ _;simpa using this) ae (λb e=>by rw[oQ]at e;have:=(Jv b e).2;omega) k5 (by rw[oQ];exact uh OW6) (by rw[oQ];exact hg) (by rw[oQ];exact uh HL6)
      exact PU.mR ie xH (λb h1 h2=>qs _ _ _ _ (by show b≠w2.heap.size;omega))
     .have Fa:=(ZA.trans<|Fr.of kA).trans<|F5.fD λi q=>q.elim qm<|λr=>ql<|qm r
      exact((Fa.trans<|Fr.of k5).grown hg<|λb e=>ql (Jv b e).1).set (qm<|ql<|ql rfl) 1 _)
  .obtain⟨wx,hx⟩:∃wx,wx=wr:=⟨_,rfl⟩;subst hx;have bA:decide ((j:Int)<(vs.length:Int))=false:=bQ;have ej:j=vs.length:=ae;subst ej;rw[show(vs.map (·.text)).take vs.length=vs.map (·.text)from by rw[List.take_of_length_le];simp]at nm;have ms0:=ro.ty hd.up;rw[oQ]at ms0;have zp:=p4.z;obtain⟨wm,hwm⟩:∃wm,wm=wx.alloc (.map #[] 0):=⟨_,rfl⟩;have km:Below wx.heap.size wx wm:=by rw[hwm];exact bw _
   have zm:wm.heap.size=wx.heap.size+1:=by rw[hwm];simp
   have MK0:lQ wm (λi=>w.heap.size<=i/\i≠w.heap.size+1/\i≠mb/\i≠wx.heap.size) wx.heap.size (jf t vs (ms.take 0) λ_=>none):=(by rw[hwm];exact⟨[],MG.new _ wx,λ_ _=>rfl,λx v h=>ZC⟩);have kr:Below w.heap.size w wx:=⟨ZA.os.trans K3.os,ZA.tape.trans K3.tape,ZA.output.trans K3.output,qf K3.size ZA.size,λk hk=>(ZA.block k (by have:=K3.size;omega) ae).trans<|K3.block k hk⟩;have BD:=(B3.fr ZA ae).below km;have⟨b1,b2,b3⟩:=B3.fr ZA ae;have NMm:=nm.af km;have P4m:=p4.below km;have MSm:dE wm (λi=>w.heap.size<=i/\i≠w.heap.size+1/\i≠mb/\i≠wx.heap.size) (jh t vs) (Fv 169<|Av #[Sv t.text,Lv va vs.length vc]):=(ms0.move km.size (λb _ z=>km.block b z)<|λb p z=>⟨ae,ae,ae,ae⟩);have KM:=kr.trans<|km.mono kr.size;have⟨n1,n2,n3,n4,n5⟩:=nm.d1;have Vh:=hd.ml;clear nm p4 ro ms0 km kr;go_wp2_with fail;rw[<-hwm];clear hwm b1 b2 b3;go_loopg[40] ms.length (λgk v wq=>ajh wm w.heap.size w2.heap.size wx.heap.size kb fb (w.heap.size+1) mb t vs ms va vc gk v wq)
   case atStart=>exact⟨0,ai ag,qg _,rfl,NMm,P4m,MSm,MK0,Fr.refl _ _⟩
   case round=>
    clear NMm P4m MSm MK0;obtain⟨i,ajl,hi,rfl,nm,p4,MKq,MWq,FMq⟩:=hrel;have zq:=FMq.size;by_cases JK:i<ms.length
    .have afo:(i:Int)<(ms.length:Int):=ae;have agQ:(0:Int)<=(i:Int):=ae;obtain⟨wq,hx⟩:∃wq,wq=wr:=⟨_,rfl⟩;subst hx;have⟨s,n,L,f',u',a',HEM,hLl,HLT⟩:=hd.mt i JK;obtain⟨gm,rfl,hPm,hmz,Jd⟩:=HRM.resolve_left (λe=>by subst e;simp at JK);have⟨s2,m2,L2,f2,t2,a2,y2,vL,e0,e1,e2,e3,e4,e5,e6,uy,hy2,hRL⟩:=HQM i JK;have e0':=HEM.symm.trans e0;injection e0' with q1 q2 q3 q4 q5 q6 q7;subst q2 q4;obtain⟨la,lc,el,rfl,HRL,hqL⟩:=hRL;have kZ:∀o,wq.cell? ⟨gm,o,none⟩=w.cell? ⟨gm,o,none⟩:=λo=>(qn (a:=⟨gm,o,none⟩)<|FMq.block gm (by have:=KM.size;omega) ae).trans<|qn (a:=⟨gm,o,none⟩)<|KM.block gm hmz;have d0:wq.cell? ⟨gm,i*6,none⟩=some (.int .i64 (f2:Int)):=by rw[kZ];exact(Jd i JK 0 aK).trans (congrArg some e1)
     have d1:wq.cell? ⟨gm,i*6+1,none⟩=some (.int .i64 (t2:Int)):=by rw[kZ];exact(Jd i JK 1 aK).trans (congrArg some e2)
     have d2:wq.cell? ⟨gm,i*6+2,none⟩=some (.int .i64 (a2:Int)):=by rw[kZ];exact(Jd i JK 2 aK).trans (congrArg some e3)
     have d3:wq.cell? ⟨gm,i*6+3,none⟩=some (.int .i64 (y2:Int)):=by rw[kZ];exact(Jd i JK 3 aK).trans (congrArg some e4)
     have d4:wq.cell? ⟨gm,i*6+4,none⟩=some (Sv s):=by rw[kZ];exact(Jd i JK 4 aK).trans (congrArg some e5)
     have d5:wq.cell? ⟨gm,i*6+5,none⟩=some (Lv la L.length lc):=by rw[kZ];exact(Jd i JK 5 aK).trans (congrArg some e6)
     obtain⟨w8,hw8⟩:∃w8,w8=(wq.alloc<|Cv #[.int .i64 (f2:Int),.int .i64 (t2:Int),.int .i64 (a2:Int),.int .i64 (y2:Int),Sv s,Lv la L.length lc] 286).alloc (Cv #[Lv none 0 0,Fv 169<|Av #[Sv t.text,Lv va vs.length vc]] 470):=⟨_,rfl⟩;have k8:Below wq.heap.size wq w8:=by rw[hw8];exact(bw _).alloc ag _
     have z8:w8.heap.size=wq.heap.size+2:=by rw[hw8];simp
     have B8:Bx w8 wq.heap.size #[.int .i64 (f2:Int),.int .i64 (t2:Int),.int .i64 (a2:Int),.int .i64 (y2:Int),Sv s,Lv la L.length lc]:=(by rw[hw8];exact(qu wq #[.int .i64 (f2:Int),.int .i64 (t2:Int),.int .i64 (a2:Int),.int .i64 (y2:Int),Sv s,Lv la L.length lc] 286).alloc (Cv #[Lv none 0 0,Fv 169<|Av #[Sv t.text,Lv va vs.length vc]] 470))
     have M8:Bx w8 (wq.heap.size+1) #[Lv none 0 0,Fv 169<|Av #[Sv t.text,Lv va vs.length vc]]:=(by
      rw[hw8];have:=qu (wq.alloc<|Cv #[.int .i64 (f2:Int),.int .i64 (t2:Int),.int .i64 (a2:Int),.int .i64 (y2:Int),Sv s,Lv la L.length lc] 286) #[Lv none 0 0,Fv 169<|Av #[Sv t.text,Lv va vs.length vc]] 470
      simpa using this)
     have NM8:=nm.af k8;have NMq:=ai nm;have P4q:=ai p4;have K8:=ai k8;have HQL:=ai hqL;have zpq:=p4.z;have zmm:=MWq.lt;have⟨v1,v2,v3,v4⟩:=nm.lt;obtain⟨x1,x2,x3⟩:=p4;clear nm k8 hqL e0 e1 e2 e3 e4 e5 e6 q1 q3 q5 q6 q7 kZ Jd uy hy2;go_wp2_with fail;rw[<-hw8];clear hw8 d0 d1 d2 d3 d4 d5 x1 x2 x3;go_loopg[50] L.length (λgk v wr=>aji w8 (wq.heap.size+1) kb fb (w.heap.size+1) mb vs L (Fv 169<|Av #[Sv t.text,Lv va vs.length vc]) gk v wr)
     case atStart=>exact⟨0,none,0,ai ag,qg _,rfl,NM8,M8,by simpa[Qc]using dt.nil Zz 67 1 w8 w8.heap.size,Fr.refl _ _⟩
     case round=>
      clear NM8 M8;obtain⟨k,va2,vc2,ajm,hk,rfl,NMr,P10,ro,F8⟩:=hrel;have zr:=F8.size;by_cases ZG:k<L.length
      .have ajn:(k:Int)<(L.length:Int):=ae;have aj9:(0:Int)<=(k:Int):=ae;obtain⟨gl,rfl,hPl,hlz,TK⟩:=HRL.resolve_left (λe=>by subst e;simp at ZG);have kw8:Below w.heap.size w w8:=by
        have h1:=FMq;have h2:=KM;have h3:=uh K8;exact⟨h3.os.trans<|h1.os.trans h2.os,h3.tape.trans<|h1.tape.trans h2.tape,h3.output.trans<|h1.output.trans h2.output,by have:=h1.size;have:=h2.size;have:=h3.size;omega,λb hb=>(h3.block b (by have:=h1.size;have:=h2.size;omega)).trans<|(h1.block b (by have:=h2.size;omega) ae).trans<|h2.block b hb⟩
       have cgl:wr.cell? ⟨gl,k,none⟩=some (el k 0):=by
        rw[qn (a:=⟨gl,k,none⟩) (w:=w8)<|F8.block gl (by have:=kw8.size;omega) ae,qn (a:=⟨gl,k,none⟩) (w:=w)<|kw8.block gl hlz];simpa using TK k ZG 0 aK
       have⟨hT1,HT2,hT3⟩:=HLT k ZG;have hpt:PT wr (λb=>P b/\b<w.heap.size) L[k] (el k 0):=(show PT w P L[k] (el k 0)from uh HQL k ZG).move (by have:=kw8.size;omega) (λb p z=>(F8.block b (by have:=kw8.size;omega) ae).trans<|kw8.block b z)<|λb p z=>⟨p,z⟩;have⟨tv,xv,ev⟩:=hpt.bJ;rw[ev]at cgl hpt;have hnl:(vs.map (·.text)).length<=2000:=bQ;have yE:∀W:World,Below wr.heap.size wr W->Calls qp 44 #[Fv tv<|Av xv,nmV kb fb] W (λe w'=>∃tu xu,e=Rv (Fv tu xu)/\dE w' (λb=>W.heap.size<=b) (aI (vs.map (·.text)) L[k]).1 (Fv tu xu)/\NM w' kb fb (w.heap.size+1) mb (vs.map (·.text))/\Fr (Zp (w.heap.size+1) mb) W w'):=λW hb=>by
        refine(acy L[k] hT1 W kb fb (w.heap.size+1) mb (vs.map (·.text)) (λb=>P b/\b<w.heap.size) _ (NMr.af hb) (hpt.af hb) (λb q=>ae) (by rw[HT2];exact hnl)).mono ?_;rintro e w'⟨uu,rfl,h2,h3,h4⟩;obtain⟨tu,xu,rfl⟩:=h2.iface;rw[HT2]at h3;exact⟨tu,xu,rfl,h2,h3,h4⟩
       have FR8:=ai F8;have A1:=P10.c 0;have zp:=P10.z;obtain⟨cs',OW,HPE⟩:=ro;have ekl:=abQ (ns:=vs.map (·.text)) hk;rw[ekl]at OW;have Jv:=fk OW;have EKL:=ai ekl;have np4:¬wq.heap.size+1=w.heap.size+1:=ae;have np5:¬wq.heap.size+1=mb:=ae;clear F8 TK hpt hT1 hT3 ev ekl;go_wp2_with fail;clear cgl
       go_region_law(first
        |(go_simp;go_at_call 44;go_loud(refine(yE _ (qt _ _).drew).mono ?_);rintro e w5⟨tu,xu,rfl,tu5,nm5,F5⟩;have B5:=(P10.below (qt _ _).drew).fr F5<|λq=>q.elim np4 np5;have A5:w5.cell? ⟨wq.heap.size+1,0,none⟩=some (Lv va2 k vc2):=B5.c 0;have O5:Hid (w5.ownsRow w8.heap.size 67 1 (Lv va2 k vc2) k<|gw cs' 1 k):=ai (rq OW λg hg=>F5.block g (Jv g hg).2 (λq=>by have:=(Jv g hg).1;obtain q|q:=q<;>omega));have BB5:=ai B5;have NM5:=ai nm5;have F5':=ai F5;have TU5:=ai tu5;have z5:wr.heap.size<=w5.heap.size:=F5.size;have z25:wq.heap.size+1<w5.heap.size:= ae;clear B5 nm5 F5 tu5;dsimp only)
        |(refine iw rfl (.tmp 55) (.tmp 59) 167 rfl w8.heap.size 67 i0 _ 1 16 d_ vH oW lY kE rfl aK (Lv va2 k vc2) k _ rfl (lh O5<|bw _) ⟨w5.heap.size,0,none⟩ 1 1 [Fv tu xu] rfl rfl (nC _ _ _ _ ag) qAn qmo ae bQ ?_;intro v6 w6 og Il uO;obtain⟨q3,c3,rfl⟩:=rH og ae;have YL:=BB5.below<|bw<|Cv #[Fv tu xu] 67;have B6:=YL.same Il.size (Il.block _ YL.z (λe=>by have:=(Jv _ e.symm).1;omega));have A6:w6.cell? ⟨wq.heap.size+1,0,none⟩=some (Lv va2 k vc2):=B6.c 0;have A7:w6.frozen? ⟨wq.heap.size+1,0,none⟩=false:=B6.f 0;have BB6:=ai B6;have OW6:=ai og;have HG6:=ai Il;have HL6:=ai uO;clear og Il uO YL B6))
       all_goals(
        go_wp2
        go_roundg(L.length-(k+1))
        case measure=>rw[uh ajm];omega
        case rel=>
         have F5:=uh F5';have hg:=uh HG6;have k5:Below w5.heap.size w5 (w5.alloc<|Cv #[Fv tu xu] 67):=bw _;have F56:=(Fr.of k5).grown hg<|λb e=>qm (Jv b e).1;have ekl:=uh EKL;refine⟨k+1,some ⟨q3,0,none⟩,c3,ai rfl,qk ZG,iF,((uh NM5).fr F56<|λb p=>ae).set ae 0 _,(uh BB6).aO 0 _ #[Lv (some ⟨q3,0,none⟩) (k+1) c3,Fv 169<|Av #[Sv t.text,Lv va vs.length vc]] rfl ag,?_,?_⟩
         .rw[YK ZG];have tu5:=uh TU5;have PU:=dt.push (Q:=Zz) (et:=67) (sz:=1) (base:=w8.heap.size) (va:=va2) (vc:=vc2) (L:=Qc (vs.map λv:jc=>v.text)<|L.take k) (w1:=w5) (W:=w5.alloc<|Cv #[Fv tu xu] 67) (w3:=w6) (lo:=wr.heap.size) (q3:=q3) (c3:=c3) (a:=(aI (vs.map λv:jc=>v.text) L[k]).1) (c:=λ_=>Fv tu xu) (cs:=cs') ie
           (λi hi=>ie _ _ _ _ _ _ (HPE i hi) z5 (λb p z=>F5.block b z (λq=>by have:=p.1;obtain q|q:=q<;>omega))<|λb p z=>⟨p.1,ae,p.2.2⟩)
           tu5 ae (λb e=>by rw[ekl]at e;exact(Jv b e).2) k5 (by rw[ekl];exact uh OW6) (by rw[ekl];exact hg) (by rw[ekl];exact uh HL6)
          exact PU.mR ie xH (λb h1 h2=>qs _ _ _ _ (by show b≠wq.heap.size+1;omega))
         .have Fa:Fr (λi=>i=w.heap.size+1\/i=mb\/i=wq.heap.size+1) w8 w5:=((uh FR8).trans<|Fr.of (qt _ _).drew).trans<|F5.fD λi q=>q.elim qm<|λr=>ql<|qm r
          exact((Fa.trans<|Fr.of k5).grown hg<|λb e=>ql (Jv b e).1).set (qm<|ql<|ql rfl) 0 _)
      .have ajn:decide ((k:Int)<(L.length:Int))=false:=bQ;have ek:k=L.length:=ae;subst ek;rw[j8]at ro;have ajo:(Qc (vs.map (·.text)) L).length=L.length:=by simp[Qc]
       have k8:=uh K8;have mvr:∀b,(w.heap.size<=b/\b≠w.heap.size+1/\b≠mb/\b≠wx.heap.size)->b<wq.heap.size->wr.heap[b]? =wq.heap[b]? :=λb p z=>(F8.block b ae ae).trans<|k8.block b z;have MV:Ta wr (λi=>w.heap.size<=i/\i≠w.heap.size+1/\i≠mb/\i≠wx.heap.size) (Qc (vs.map (·.text)) L) (jh t vs) (Av #[Lv va2 L.length vc2,Fv 169<|Av #[Sv t.text,Lv va vs.length vc]]):=⟨va2,vc2,_,_,by rw[ajo],ro.ajg.move (br _) (λ_ _ _=>rfl)<|λb p z=>⟨ae,ae,ae,ae⟩,MKq.move ae mvr<|λ_ p _=>p⟩;have MWr:=MWq.move ae ((F8.block _ ae ae).trans<|k8.block _ zmm) mvr<|λ_ p _=>p;have MKr:=MKq.move ae mvr<|λ_ p _=>p;have P4r:=(P4q.below k8).fr F8 ae;have FMr:=((FMq.trans<|Fr.of k8).gH F8 (λb q=>by obtain q|q|q:=q;exact qm<|qm q;exact qm<|ql<|qm q;exact ql ae));obtain⟨x1,x2,x3⟩:=P10;have⟨y1,y2,y3⟩:=B8.fr F8 ae;have DS:jm (vs.map (·.text)) ms[i]=Qc (vs.map (·.text)) L/\jl ms[i]=s:=(by rw[HEM];exact⟨congrArg Prod.fst<|YJ λk hk=>(HLT k hk).2,rfl⟩);clear ro F8 k8 mvr;go_wp2_with(refine uN rfl _ _ _ (ql rfl) rfl MWr (λq=>q.2.2.2 rfl) MV s rfl rfl ?_;intro w9 H' O';have M9:=ai H';have O9:=ai O';clear H' O');go_roundg(ms.length-(i+1))
       case measure=>rw[uh ajl];omega
       case rel=>
        have o:=uh O9;have F9:Fr (λb=>b=wx.heap.size) wr w9:=⟨o.os,o.tape,o.output,Jc,λb _ hb=>o.block b hb⟩;refine⟨i+1,ai rfl,qk JK,iF,NMr.fr F9 (λb p=>by subst p;omega),P4r.fr F9 ae,MKr.move F9.size (λb p z=>F9.block b z p.2.2.2)<|λ_ p _=>p,?_,FMr.trans<|F9.fD λb q=>ql<|ql q⟩;rw[j5 JK,yJ,DS.1,DS.2];exact uh M9
    .have afo:decide ((i:Int)<(ms.length:Int))=false:=bQ;have ei:i=ms.length:=ae;subst ei;rw[j8]at MWq;have HX:∃b,Rv (.map<|some wx.heap.size)=Rv (.map<|some b)/\Below w.heap.size w wr/\w.heap.size<=b/\lQ wr (λi=>w.heap.size<=i) b (jf t vs ms λ_=>none):=⟨_,rfl,⟨FMq.os.trans KM.os,FMq.tape.trans KM.tape,FMq.output.trans KM.output,qf KM.size FMq.size,λk hk=>(FMq.block k (by have:=KM.size;omega) ae).trans<|KM.block k hk⟩,ae,MWq.move (br _) rfl (λ_ _ _=>rfl) (λb p _=>p.1)⟩;clear nm p4
     go_wp2
     go_ret;exact HX
def kM(a b:ji):ji:=λy=>match a y with
 |some c=>some c|none=>b y
def uP(t:jc)(vs:List jc)(mk:ji):∀(ms:List Nd)(a:ji),jf t vs ms (kM a mk)=kM (jf t vs ms a) mk
 |[],_=>rfl|m::r,a=>by
  show jf t vs r _=kM (jf t vs r _) mk;rw[<-uP t vs mk r];congr 1;funext y;unfold kM;by_cases q:y=jl m
  .simp[q]
  .simp[q]
def yK(t:jc)(vs:List jc)(mk:ji)ms:jf t vs ms mk=kM (jf t vs ms λ_=>none) mk:=uP t vs mk ms λ_=>none
open Classical in
noncomputable def ovM (SK m1:ji) (done:List BA) (x:BA):Option (List Ty×Ty):=if x∈done then kM SK m1 x else m1 x
def afC P b1 b2(m1 SK:ji)L w gk wr:=
 ∃done,IG qv wr w.heap.size b2 L done gk/\lQ wr P b1 (ovM SK m1 done)/\Fr (λi=>i=b1) w wr
def Qd{b1 b2}{m1 SK}(h1:lQ w P b1 m1)(h2:lQ w P b2 SK)(hP:¬P b1)(bA:∀x,P x->x<w.heap.size)(hn:b1≠b2):
 Cq 321 #[Mv b1,Mv b2] w λe w'=>e=.returned (.tuple #[])/\lQ w' P b1 (kM SK m1)/\Fr (λi=>i=b1) w w':=by
 have l1:=h1.lt;have l2:=h2.lt;obtain⟨L,m2,q1,q2⟩:=h2;obtain⟨o,cnt,Y_,kT⟩:=m2.range r_;have k1:Bq w (w.alloc o):=bw _;have HI:=ai kT;have H1:=h1.move k1.size (k1.block _ h1.lt) (λb _ z=>k1.block b z)<|λ_ p _=>p;have K1:=ai k1;have Q:=And.intro q1 q2;go_enter func321,ntmps321
 go_wp2
 go_loopg[] cnt (λgk wr=>afC P b1 b2 m1 SK L w gk wr)
 case atStart=>
  refine⟨[],HI,?_,Fr.of K1⟩;have e:ovM SK m1 []=m1:=by funext x;simp[ovM]
  rw[e];exact H1
 case round=>
  obtain⟨done,HI,HE,hF⟩:=hrel;have HF:=ai hF;have hiz:=HI.lt;have zr:=hF.size;rcases HI.next (P:=qp) str_inj with⟨ha,Bz⟩|⟨x,u,w2,aB,hxd,Mg,Bz,DY,DZ,u_,eG,hen⟩
  .go_wp2
   go_end0;refine⟨rfl,?_,HF⟩;have e:ovM SK m1 done=kM SK m1:=by
    funext y;unfold ovM;by_cases q:y∈done
    .rw[if_pos q]
    .rw[if_neg q];have:SK y=none:=by
      cases hg:aY y L with
      |none=>exact Q.1 y hg|some v=>exact absurd (ha _ v hg) q
     simp only[kM,this]
   rw[<-e];exact HE
  .obtain⟨tk,m,EC,hc⟩:=Q.2 x u Mg;have yW:=u_;have nP:∀i,P i->¬i=w.heap.size:=λi hi e=>by have:=bA i hi;omega
   have E2:=HE.move yW.size (yW.block _ HE.lt ae) (λi p z=>yW.block i z<|nP i p)<|λ_ p _=>p;have c2:=(hc.move (w':=wr) zr (λi p z=>HF.block i z<|λe=>hP<|e▸p)<|λ_ p _=>p).move (w':=w2) (Q:=P) ae (λi p z=>yW.block i z<|nP i p)<|λ_ p _=>p;obtain⟨sa,sc,ta,xa,rfl,t1,t2⟩:=c2;have Aa:Bq w2 (w2.alloc<|.cells #[.slice sa tk.length sc,.iface ta xa] 470):=bw _;have E3:=E2.move Aa.size (Aa.block _ E2.lt) (λb _ z=>Aa.block b z)<|λ_ p _=>p;have C3:=(Ta.move ⟨sa,sc,ta,xa,rfl,t1,t2⟩ Aa.size (λb _ z=>Aa.block b z)<|λ_ p _=>p);have I3:=DY.same (Aa.block b2 ae)<|Aa.block w.heap.size ae;have K3:=ai Aa;go_wp2_with(refine uN rfl _ _ _ (ql rfl) rfl E3 hP C3 x rfl rfl ?_;intro w4 H' O';have S4:=ai H';have O4:=ai O';clear H' O');go_roundg aB
   case measure=>exact DZ
   case rel=>
    have o:=uh O4;have k3:=uh K3;have f1:=yW;refine⟨x::done,I3.same (o.block b2<|Ne.symm hn)<|o.block _ ae,?_,?_⟩
    .have e:ovM SK m1 (x::done)=λy=>if y=x then some (tk,m)else ovM SK m1 done y:=by
      funext y;by_cases q:y=x
      .subst q;simp[ovM,kM,EC]
      .simp only[ovM,if_neg q];by_cases r:y∈done
       .rw[if_pos<|List.mem_cons_of_mem _ r,if_pos r]
       .rw[if_neg<|λh=>(List.mem_cons.1 h).elim q r,if_neg r]
     rw[e];exact S4
    .have hF:=uh HF;refine⟨o.os.trans<|k3.os.trans<|f1.os.trans hF.os,o.tape.trans<|k3.tape.trans<|f1.tape.trans hF.tape,o.output.trans<|k3.output.trans<|f1.output.trans hF.output,by rw[o.size];have:=k3.size;omega,λi hi hni=>?_⟩;rw[o.block i hni,k3.block i ae,f1.block i ae ae,hF.block i hi hni]
def MG.age{L L'}(h:MG qv w b L)(h':MG qv w b L'):L=L':=by
 obtain⟨es,c,h1,h2,_⟩:=h;obtain⟨es',c',h1',Jl,_⟩:=h';rw[h1]at h1';injection h1' with h1';injection h1' with e1 e2;subst e1;have e:=h2.symm.trans Jl;have:∀(L L':List (BA×Value)),L.map (λp=>(Sv p.1,p.2))=L'.map (λp=>(Sv p.1,p.2))->L=L':=by
  intro L
  induction L with
  |nil=>intro L' e;cases L' with|nil=>rfl|cons=>simp at e
  |cons p r ih=>
   intro L' e
   cases L' with
   |nil=>simp at e|cons p' r'=>
    simp only[j7,List.cons.injEq,Prod.mk.injEq,Value.string.injEq]at e;rw[ih r' e.2,Prod.ext e.1.1 e.1.2]
 exact this L L' e
def Qe{p:Prop}(h:p:=by
 have:=h.bx.c 0;rw[<-e]at this
 exact absurd this (by rw[hM.bB 0];simp)):p:=h
def WE.rm{cnt}(h:WE w c cnt):c.rb≠c.mb/\c.mb≠c.eb/\c.rb≠c.eb:=by
 refine⟨λe=>?_,λe=>?_,λe=>?_⟩
 .have⟨L,m1,g1,_⟩:=h.rs;have⟨L',m2,_,g2⟩:=h.ms;rw[e]at m1;rw[m1.age m2]at g1;have⟨tk,m,_,sa,sc,ta,xa,q,_⟩:=g2 _ _ g1
  cases q
 .have⟨L,hM,_⟩:=h.ms;exact Qe
 .have⟨L,hM,_⟩:=h.rs;exact Qe
def Qf{p:Prop}(h:p:=by
 induction h with
 |var n=>exact .var n|aH c L sa sc vs hc aN hr ih=>
  refine .aH c L sa sc vs hc ?_ ih;obtain h0|⟨g,h1,h2,h3,h4⟩:=aN
  .exact qm h0
  .by_cases h0:L=[]
   .exact qm h0
   .refine ql ⟨g,h1,⟨h2,λe=>?_⟩,h3,h4⟩;have q:=h4 0<|List.length_pos_iff.2 h0;rw[e,hb]at q
    cases q):p:=h
def dE.sd{t:Ty}(h:dE w P t v)(hb:w.cell? ⟨b,0,none⟩=none):dE w (λi=>P i/\i≠b) t v:=by
 exact Qf
def lQ.sd{w}{P}{mb b}{mk}(h:lQ w P mb mk)(hb:w.cell? ⟨b,0,none⟩=none):lQ w (λi=>P i/\i≠b) mb mk:=by
 obtain⟨L,h1,h2,h3⟩:=h;refine⟨L,h1,h2,λk v hk=>?_⟩;obtain⟨tk,m,e,sa,sc,ta,xa,rfl,q1,q2⟩:=h3 k v hk;refine⟨tk,m,e,sa,sc,ta,xa,rfl,?_,q2.sd hb⟩;obtain q1|⟨g,vs,q3,q4,q5,q6⟩:=q1
 .exact qm q1
 .by_cases h0:tk=[]
  .exact qm h0
  .refine ql ⟨g,vs,q3,⟨q4,λe=>?_⟩,q5,λi hi=>⟨(q6 i hi).1,(q6 i hi).2.sd hb⟩⟩;have⟨q7,_⟩:=q6 0<|List.length_pos_iff.2 h0;rw[e,hb]at q7
   cases q7
def cR.sd{t:Ty}(h:cR w P t v)(hb:w.cell? ⟨b,0,none⟩=none):cR w (λi=>P i/\i≠b) t v:=by
 exact Qf
def bM.sd{w}{P}{nb b}{Γ}(h:bM w P nb Γ)(hb:w.cell? ⟨b,0,none⟩=none):bM w (λi=>P i/\i≠b) nb Γ:=by
 obtain⟨L,h1,h2,h3⟩:=h;refine⟨L,h1,h2,λk v hk=>?_⟩;obtain⟨d,e,ta,xa,sa,sc,rfl,⟨⟨x',q1,q2⟩,q4⟩,q3⟩:=h3 k v hk;refine⟨d,e,ta,xa,sa,sc,rfl,⟨⟨x',q1.sd hb,q2⟩,q4⟩,?_⟩;obtain q3|⟨g,r1,r2,r3,r4⟩:=q3
 .exact qm q3
 .by_cases h0:d.any=[]
  .exact qm h0
  .refine ql ⟨g,r1,⟨r2,λe=>?_⟩,r3,r4⟩;have r5:=r4 0<|List.length_pos_iff.2 h0;rw[e,hb]at r5
   cases r5
def WT.Um{cnt}{fD}(h:WT w c cnt u Γ)(hn:c.nb≠c.mb)(hf:Fr (λi=>i=c.mb) w w')(hw:WE w' {c with mks:=mks,fD:=fD} cnt):WT w' {c with mks:=mks,fD:=fD} cnt u Γ:=by
 have⟨L,Zc,_⟩:=h.we.ms;exact⟨hw,(h.e.sd<|Zc.bB 0).move hf.size (hf.block _ h.e.lt hn) (λb p z=>hf.block b z p.2)<|λb p _=>p.1,h.n,h.hu,h.top,h.dm⟩
section
variable {cnt:Nat}
abbrev Ul(c:WC)(t:jc)(vs:List jc)ms fD:={c with mks:=jf t vs ms c.mks,fD:=fD}
def Qz(h:WT w c cnt u Γ){f x}(hv:RowV QName 3 w P vs vv)(hm:RowV QMaker 6 w P ms vm)(hd:TdF t vs ms):
 Cq 311 #[Pv c.eb,.agg #[Iv f,Iv x,Nv t.al,Nv t.to,.string t.text,vv,vm]] w (λe w'=>e=.returned (.tuple #[])/\Fr (λi=>i=c.mb) w w'/\WE w' (Ul c t vs ms w'.heap.size) cnt):=by
 obtain⟨w0,uS⟩:∃w0,w0=w.alloc (Cv #[Iv f,Iv x,Nv t.al,Nv t.to,Sv t.text,vv,vm] 137):=⟨_,rfl⟩;have K0:Bq w w0:=by rw[uS];exact bw _
 have BB:Bx w0 w.heap.size #[Iv f,Iv x,Nv t.al,Nv t.to,Sv t.text,vv,vm]:=by rw[uS];exact qu w #[Iv f,Iv x,Nv t.al,Nv t.to,Sv t.text,vv,vm] 137
 have WE0:=h.we.af K0;have⟨r1,r2,r3⟩:=h.we.rm;have⟨d1,d2,d3⟩:=h.we.d;have⟨l1,l2,l3,l4,l5⟩:=h.we.l;have zz0:w0.heap.size=w.heap.size+1:=by rw[uS];simp
 have HMK:∀W:World,Bq w0 W->Cq 322 #[Av #[Iv f,Iv x,Nv t.al,Nv t.to,Sv t.text,vv,vm]] W (λe w'=>∃b,e=Rv (Mv b)/\Bq W w'/\W.heap.size<=b/\lQ w' (λi=>W.heap.size<=i) b (jf t vs ms λ_=>none)):=λW hb=>by
  have kW:=K0.trans<|hb.mono K0.size;exact I6 (hv.move dc kW.size (λb _ z=>kW.block b z)<|λ_ p _=>p) (hm.move bS kW.size (λb _ z=>kW.block b z)<|λ_ p _=>p) hd
 have HCP:∀(W:World)(b:Nat),Bq w0 W->w0.heap.size<=b->lQ W (λi=>w0.heap.size<=i) b (jf t vs ms λ_=>none)->Cq 321 #[Mv c.mb,Mv b] W (λe w'=>e=Rv (.tuple #[])/\lQ w' (λi=>i≠c.cb/\i≠c.mb/\i<W.heap.size) c.mb (jf t vs ms c.mks)/\Fr (λi=>i=c.mb) W w'):=λW b hb hz hM=>by
  rw[yK];have weW:=WE0.af hb;have⟨L,Zc,_⟩:=weW.ms;have zb:=hM.lt;have zs:=hb.size;have h1:lQ W (λi=>i≠c.cb/\i≠c.mb/\i<W.heap.size) c.mb c.mks:=(weW.ms.sd<|Zc.bB 0).move (br _) rfl (λ_ _ _=>rfl) (λi p z=>⟨p.1.1,p.2,z⟩);have h2:lQ W (λi=>i≠c.cb/\i≠c.mb/\i<W.heap.size) b (jf t vs ms λ_=>none):=hM.move (br _) rfl (λ_ _ _=>rfl) (λi p z=>⟨qBv,qBv,z⟩);exact Qd h1 h2 (λq=>q.2.1 rfl) (λi p=>p.2.2) ae
 have f0:=WE0.bx.c 2;have g0:=BB.c 0;have g1:=BB.c 1;have g2:=BB.c 2;have g3:=BB.c 3;have g4:=BB.c 4;have g5:=BB.c 5;have g6:=BB.c 6;obtain⟨pa,pc,cs,rfl,aN,hq⟩:=hv;obtain⟨ma,mc,ds,rfl,ahR,hqm⟩:=hm;have ne1:¬w.heap.size=c.mb:=ae;clear h aN hq ahR hqm;go_enter func311,ntmps311;go_wp2_with fail;rw[<-uS];clear uS
 go_region_held3(λw'=>w'.cell? ⟨c.eb,2,none⟩=some (Mv c.mb)/\w'.cell? ⟨w.heap.size,0,none⟩=some (Iv f)/\w'.cell? ⟨w.heap.size,1,none⟩=some (Iv x)/\w'.cell? ⟨w.heap.size,2,none⟩=some (Nv t.al)/\w'.cell? ⟨w.heap.size,3,none⟩=some (Nv t.to)/\w'.cell? ⟨w.heap.size,4,none⟩=some (Sv t.text)/\w'.cell? ⟨w.heap.size,5,none⟩=some (Lv pa vs.length pc)/\w'.cell? ⟨w.heap.size,6,none⟩=some (Lv ma ms.length mc)) (first|go_keep|(simp[*])) (first
  |(go_at_call 322;go_loud(refine(HMK _ (qt _ _).drew).mono ?_);rintro e w2⟨b,rfl,k2,z2,hM⟩;have k2':=(qt _ _).drew.trans k2;have B2:=BB.below k2';have s0:w2.cell? ⟨c.eb,2,none⟩=some (Mv c.mb):=(WE0.af k2').bx.c 2;have s1:w2.cell? ⟨w.heap.size,0,none⟩=some (Iv f):=B2.c 0;have s2:w2.cell? ⟨w.heap.size,1,none⟩=some (Iv x):=B2.c 1;have s3:w2.cell? ⟨w.heap.size,2,none⟩=some (Nv t.al):=B2.c 2;have s4:w2.cell? ⟨w.heap.size,3,none⟩=some (Nv t.to):=B2.c 3;have s5:w2.cell? ⟨w.heap.size,4,none⟩=some (Sv t.text):=B2.c 4;have s6:w2.cell? ⟨w.heap.size,5,none⟩=some (Lv pa vs.length pc):=B2.c 5;have s7:w2.cell? ⟨w.heap.size,6,none⟩=some (Lv ma ms.length mc):=B2.c 6;have K2:=ai k2';have Z2:Hid (w0.heap.size<=b):=ai z2;have M2:Hid (lQ w2 (λi=>w0.heap.size<=i) b<|jf t vs ms λ_=>none):=ai hM;clear k2 k2' z2 hM B2)
  |(go_at_call 321;go_loud(refine(HCP _ _ K2 Z2 M2).mono ?_);rintro e w3⟨rfl,hM3,F3⟩;have B3:=(BB.below K2).fr F3 ne1;have t0:w3.cell? ⟨c.eb,2,none⟩=some (Mv c.mb):=((WE0.af K2).bx.fr F3<|Ne.symm r2).c 2;have t1:w3.cell? ⟨w.heap.size,0,none⟩=some (Iv f):=B3.c 0;have t2:w3.cell? ⟨w.heap.size,1,none⟩=some (Iv x):=B3.c 1;have t3:w3.cell? ⟨w.heap.size,2,none⟩=some (Nv t.al):=B3.c 2;have t4:w3.cell? ⟨w.heap.size,3,none⟩=some (Nv t.to):=B3.c 3;have t5:w3.cell? ⟨w.heap.size,4,none⟩=some (Sv t.text):=B3.c 4;have t6:w3.cell? ⟨w.heap.size,5,none⟩=some (Lv pa vs.length pc):=B3.c 5;have t7:w3.cell? ⟨w.heap.size,6,none⟩=some (Lv ma ms.length mc):=B3.c 6;have M3:=ai hM3;have F3':=ai F3;clear hM3 F3 B3))
 go_wp2
 go_end0;have F3:=uh F3';have k2:=uh K2;have we2:=WE0.af k2;have z3:=F3.size;have z2:=k2.size;refine⟨rfl,(Fr.of<|K0.trans<|k2.mono K0.size).trans F3,⟨we2.bx.fr F3<|Ne.symm r2,we2.ct.fr F3<|Ne.symm d3,we2.rs.same<|F3.block _ we2.rs.lt r1,?_,⟨d1,d2,d3⟩,⟨by show c.eb<w3.heap.size;omega,by show c.cb<w3.heap.size;omega,by show c.rb<w3.heap.size;omega,by show c.mb<w3.heap.size;omega,br _⟩⟩⟩;exact M3.move (br _) rfl (λ_ _ _=>rfl) (λi p _=>⟨p.1,by show i<w3.heap.size;omega⟩)
end
end
section
open Un
def kl:Nd->Nat
 |.mk _ _ _ L _ _ _=>L.length
def MkL:Dc->Prop
 |.ty _ vs ms=>∀m∈ms,vs.length+nn m+kl m<=802|.lt _ _ _=>True
def afD{s:Nat}(d:dU T e s k j a):10<=s->nn a+kl a<=2*(j-k):=by
 induction d
 case add d1 d2 i1 i2=>
  intro h;have:=d1.le;have:=wW d2;have:=i1 h;rw[UH,show∀x y u,kl (Nd.add x y u)=kl x+1 from λx y u=>by cases x;simp[Nd.add,kl]];omega
 case par d _ ih=>intro h;have:=ih h;omega
 case nm=>intro;simp[nn,bY,kl]
 all_goals intro;omega
def SL(hs:¬400<s.size):match cd s with
 |.error _=>True|.ok l=>∀d∈l,MkL d:=by
 have q:=DF hs;have hl:=(nj s ae).2
 cases e:cd s with
 |error f=>trivial|ok l=>
  rw[e]at q;obtain⟨j,q⟩:=q;refine q.all λi j d z=>?_
  cases z with
  |lt=>trivial|ty _ _ m h1 h2=>exact m.all λk q' x a b c=>by have:=afD c aK;have:=c.le;omega
def L8:∀{vs:List jc}{p:List BA}{z:Fl},(Cu p vs z).kind=0->z.kind=0/\(vs.map (·.text)).Nodup/\∀v∈vs,v.text∉p
 |[],p,z,h=>⟨h,ag,ag⟩|v::r,p,z,h=>by
  rw[Cu]at h;have⟨h1,h2,h3⟩:=L8 h;have⟨h4,h5⟩:=cI aK h1;refine⟨h5,?_,?_⟩
  .simp only[j7,List.nodup_cons];refine⟨λq=>?_,h2⟩;have⟨u,hu,e⟩:=List.mem_map.1 q;exact h3 u hu QX
  .intro u hu;obtain e|e:=List.mem_cons.1 hu
   .subst e;exact Dg.1 h4
   .exact λq=>h3 u e qBf
def YM{ty:BA->Option Nat}(t:jc)(vs:List jc):∀{ms:List Nd}{q:(BA->Option Nat)×Fl}{mks:ji},(∀m∈ms,EA si m)->(zH fE ty (vs.map (·.text)) ms q).2.kind=0->qX q.1 mks->
 q.2.kind=0/\qX (zH fE ty (vs.map (·.text)) ms q).1 (jf t vs ms mks)/\∀m∈ms,∃s L f u a,m=.mk 2 s 0 L f u a/\zG (vs.map (·.text)) L
 |[],q,mks,_,h,hm=>⟨h,hm,ag⟩|m::r,q,mks,h3,h,hm=>by
  obtain⟨s,L,f,u,a,rfl,g1,g2,g3⟩:=h3 m ag;rw[zH]at h⊢;have hL':∀(z:Fl),(ir ty (vs.map (·.text)) L z).kind=0->zG (vs.map (·.text)) L:=λz hz=>.of λx hx=>by
   have⟨z',q⟩:=nu hz x hx;exact JX (g3 x hx) z' q
  have hs:qX (fE q.1 s L.length) (λy=>if y=jl (.mk 2 s 0 L f u a)then some (jm (vs.map (·.text))<|.mk 2 s 0 L f u a,jh t vs)else mks y):=by
   intro y n hy;rw[fE]at hy;by_cases e:y=s
   .rw[if_pos e]at hy;injection hy with hy;refine⟨_,_,if_pos<|show y=jl (.mk 2 s 0 L f u a)from e,?_⟩;rw[<-hy];have:∀(l:List Nd)ns,(aA ns<|tU l).1.length=l.length:=by
     intro l
     induction l with
     |nil=>intro ns;rfl|cons x l ih=>intro ns;simp only[tU,aA,mV,ih]
    exact this L _
   .rw[if_neg e]at hy;have⟨tk,m,q1,q2⟩:=hm y n hy;exact⟨tk,m,(if_neg e).trans q1,q2⟩
  have⟨k1,k2,k3⟩:=YM t vs (ms:=r) (λm hm=>h3 m<|by simp[hm]) h hs;refine⟨(cI aK<|wX L _ k1).2,k2,λm hm=>?_⟩;obtain e|e:=List.mem_cons.1 hm
  .grind
  .exact k3 m e
def SM(t:jc)(vs:List jc)n(h:1<=n/\n<=vs.length):aD n (jh t vs):=by
 rw[jh];simp only[aD];have:∀(l:List Nat),n-1∈l->bK n (l.map λi=>Ty.var<|i+1):=by
  intro l
  induction l with
  |nil=>simp|cons x l ih=>
   intro hx;simp only[j7,bK];obtain e|e:=List.mem_cons.1 hx
   .left;simp only[aD];omega
   .exact ql (ih e)
 exact this _<|List.mem_range.2 ae
def L9(t:jc)(vs:List jc):size (jh t vs)=1+vs.length:=by
 rw[jh];simp only[size];have:∀(l:List Nat),ah (l.map λi=>Ty.var<|i+1)=l.length:=by
  intro l
  induction l with
  |nil=>rfl|cons x l ih=>simp only[j7,ah,size,ih,mV];omega
 rw[this,List.length_range]
def Qg{p:Prop}(h:p:=by
 intro l
 induction l with
 |nil=>trivial|cons x l ih=>exact⟨trivial,ih⟩):p:=h
def I7(vs:List jc)(h:DP t.text):Whole (jh t vs):=by
 refine⟨h.ne 116 [111,111,32,108,97,114,103,101] aK,?_⟩;have:∀(l:List Nat),jD<|l.map λi=>Ty.var<|i+1:=by
  exact Qg
 exact this _
def Qh:∀(tk:List Ty)(m:Ty),size (jq tk m)=ah tk+tk.length+size m/\(jD tk->Whole m->Whole (jq tk m))/\∀n,aD n (jq tk m)->bK n tk\/aD n m
 |[],m=>⟨by simp[jq,ah],λ_ h=>h,λn h=>ql h⟩|t::tk,m=>by
  have⟨h1,h2,h3⟩:=Qh tk m;have e:jq (t::tk) m=In.v9 t (jq tk m):=rfl;rw[e];refine⟨?_,λq1 q2=>⟨aK,q1.1,h2 q1.2 q2,trivial⟩,λn q=>?_⟩
  .simp only[size,ah,mV,h1];omega
  .simp only[aD,bK,or_false]at q;obtain q|q:=q
   .exact qm (qm q)
   .exact(h3 n q).imp ql id
def MkFine.add{t:jc}{vs:List jc}(ht:DP t.text):∀{ms:List Nd}{mks:ji},MkFine mks->(∀m∈ms,vs.length+nn m+kl m<=802)->(∀m∈ms,∃s L f u a,m=.mk 2 s 0 L f u a/\zG (vs.map (·.text)) L)->MkFine (jf t vs ms mks)
 |[],mks,h,_,_=>h|m::r,mks,h,hz,hm=>by
  refine MkFine.add ht (ms:=r) ?_ (λm hm=>hz m<|by simp[hm]) (λx hx=>hm x<|by simp[hx]);obtain⟨s,L,f,u,a,rfl,g⟩:=hm m ag;have hz:=hz _<|j6 ..;simp only[nn,kl]at hz;have e:jm (vs.map (·.text)) (.mk 2 s 0 L f u a)=(aA (vs.map (·.text)) L).1:=by show(aA _<|tU L).1=_;rw[g.es]
  have ln:(aA (vs.map (·.text)) L).1.length=L.length:=by
   have:∀(l:List Nd)ns,(aA ns l).1.length=l.length:=by
    intro l
    induction l with
    |nil=>intro ns;rfl|cons x l ih=>intro ns;simp only[aA,mV,ih]
   exact this L _
  have⟨a1,a2,a3⟩:=Qh (aA (vs.map (·.text)) L).1<|jh t vs;have key:∀x tk m,(if x=jl (.mk 2 s 0 L f u a)then some (jm (vs.map (·.text))<|.mk 2 s 0 L f u a,jh t vs)else mks x)=some (tk,m)->mks x=some (tk,m)\/(tk=(aA (vs.map (·.text)) L).1/\m=jh t vs):=yV;refine⟨λx tk m q=>?_,λx tk m q=>?_,λx tk m q=>?_⟩
  .obtain q|⟨rfl,rfl⟩:=key x tk m q
   .exact h.sz x tk m q
   .rw[a1,L9,ln];have:=g.sz;omega
  .obtain q|⟨rfl,rfl⟩:=key x tk m q
   .exact h.wh x tk m q
   .exact a2 g.wh (I7 vs ht)
  .obtain q|⟨rfl,rfl⟩:=key x tk m q
   .exact h.vs x tk m q
   .intro n hn;obtain q|q:=a3 n hn
    .have:=g.oc n q;rw[List.length_map]at this;exact SM t vs n this
    .exact q
def I8:MkFine (λ_=>none):=⟨λ_ _ _ q=> mD,λ_ _ _ q=> mD,λ_ _ _ q=> mD⟩
def L_:qX (λ_=>none) mks:=λ_ _ q=> mD
def dNm:Dc->List BA
 |.ty _ _ _=>[]|.lt _ t b=>t.text::mP b
structure PG(nl:List BA)(l:List Dc)e(mks:ji):Prop where
 d3:∀d∈l,D3 d
 ml:∀d∈l,MkL d
 ok:(gh fE l e).f.kind=0
 has:qX e.mks mks
 BI:MkFine mks
 nm:∀d∈l,∀s∈dNm d,s∈nl
 sz:EI l<=802
def YN{u:Zh}{ty:BA->Option Nat}{own:List BA}:∀(ms:List Nd)(q:(BA->Option Nat)×Fl),(zH u ty own ms q).2.kind=0->q.2.kind=0
 |[],q,h=>h|.mk _ s _ L _ _ a::r,q,h=>by
  rw[zH]at h;exact(cI aK<|wX L _<|YN r _ h).2
def ahS{u:Zh}:∀(d:Dc)(e:SE),(Tf u d e).f.kind=0->e.f.kind=0
 |.ty t vs ms,e,h=>(cI aK (L8<|YN ms _ h).1).2|.lt r t b,e,h=>lf b _ _ h
def Mb{u:Zh}:∀(l:List Dc)(e:SE),(gh u l e).f.kind=0->e.f.kind=0
 |[],e,h=>h|d::r,e,h=>ahS d e<|Mb r _ h
def DP.up(h:DP s):mN s:=by
 obtain⟨x,r,h1,h2,_⟩:=h;exact⟨x,r,h1,h2⟩
def NmV.quo(h:NmV s):NH s:=by
 obtain⟨x,r,h1,_⟩:=h;exact⟨_,h1⟩
def nI d l:EI (d::l)=Jk d+EI l:=by simp[EI]
def SN(h:m∈ms):nn m<=bY ms:=by
 induction ms with
 |nil=>simp at h|cons x l ih=>
  simp only[bY];obtain e|e:=List.mem_cons.1 h
  .subst e;omega
  .have:=ih e;omega
def PG.ty{nl}{t}{vs}{ms}{r}{e}{mks}(h:PG nl (.ty t vs ms::r) e mks):TdF t vs ms/\PG nl r (Tf fE (.ty t vs ms) e) (jf t vs ms mks):=by
 have⟨d1,d2,d3,d4,d5⟩:=h.d3 _<|j6 ..;have Vh:=h.ml _<|j6 ..;have Ih:=h.ok;have h1:=Mb r _ Ih;have⟨k1,k2,k3⟩:=YM t vs d5 h1 h.has;have⟨_,v2,_⟩:=L8 k1;have hz:=h.sz;rw[nI]at hz;simp only[Jk]at hz;have hm1:=l7 ms;refine⟨⟨d1.up,v2,ae,λv hv=>(d3 v hv).1.quo,ae,λi hi=>?_⟩,⟨λd hd=>h.d3 d<|by simp[hd],λd hd=>h.ml d<|by simp[hd],Ih,k2,h.BI.add d1 Vh k3,λd hd=>h.nm d<|by simp[hd],ae⟩⟩;have⟨s,L,f,u,a,em,g⟩:=k3 _<|j3 hi;have hn:=SN<|j3 hi;rw[em]at hn;simp only[nn]at hn;have hl:=l7 L;refine⟨s,0,L,f,u,a,em,ae,λk hk=>⟨g.ty ae k hk,?_⟩⟩;have⟨s',L',f',u',a',em',_,_,g3⟩:=d5 _<|j3 hi;rw[em]at em';injection em' with _ _ _ eL _ _ _;subst eL;obtain⟨z,Zk⟩:∃z,(tV (fE e.ty t.text vs.length) (vs.map (·.text)) L[k] z).kind=0:=by
  have key:∀{ms:List Nd}{q:(BA->Option Nat)×Fl},(zH fE (fE e.ty t.text vs.length) (vs.map (·.text)) ms q).2.kind=0->Nd.mk 2 s 0 L f u a∈ms->∃z,(ir (fE e.ty t.text vs.length) (vs.map (·.text)) L z).kind=0:=by
   intro ms
   induction ms with
   |nil=>grind|cons x l ih=>
    intro q hq hm;obtain q1|q1:=List.mem_cons.1 hm
    .subst q1;rw[zH]at hq;exact⟨_,YN l _ hq⟩
    .cases x
     rw[zH]at hq;exact ih hq q1
  have⟨z,hz⟩:=key h1<|em▸j3 hi;exact nu hz _<|j3 hk
 have gk:=JX (g3 _<|j3 hk) z Zk;exact⟨gk.st,gk.es⟩
def PG.lt{nl}{b}{r}{e}(h:PG nl (.lt rc t b::r) e mks):t.text∈nl/\1+nn b+EI r<=802/\ScE mks nl (λv=>v∈e.nm\/(rc=true/\v=t.text)) b/\PG nl r (Tf fE (.lt rc t b) e) mks:=by
 have⟨d1,d2,d3,d4⟩:=h.d3 _<|j6 ..;have Ih:=h.ok;have h1:(dM e.ty e.mks b (if rc then e.nm++[t.text]else e.nm) e.f).kind=0:=Mb r _ Ih;have hz:=h.sz;rw[nI]at hz;simp only[Jk]at hz;have hn:∀s∈t.text::mP b,s∈nl:=h.nm _<|j6 ..;refine⟨hn _<|j6 ..,ae,?_,⟨λd hd=>h.d3 d<|by simp[hd],λd hd=>h.ml d<|by simp[hd],Ih,h.has,h.BI,λd hd=>h.nm d<|by simp[hd],ae⟩⟩;refine ad8 h.has d3 _ _ h1 (λs hs=>hn s<|by simp[hs]) ae _ λs hs=>?_
 cases rc with
 |true=>
  obtain q|q:=List.mem_append.1 hs
  .exact qm q
  .grind
 |false=>exact qm hs
def PG.init(hs:¬400<s.size)(h:cd s=.ok l)(hk:(gh fE l vw).f.kind=0):PG (l.flatMap dNm) l vw (λ_=>none)/\(l.flatMap dNm).length<=802:=by
 have h1:=sM hs;have h2:=SL hs;rw[h]at h1 h2;refine⟨⟨h1.1,h2,hk,L_,I8,λd hd s hs=>List.mem_flatMap.2 ⟨d,hd,hs⟩,h1.2⟩,qf ?_ h1.2⟩;clear h h1 h2 hk
 induction l with
 |nil=>simp|cons d l ih=>
  rw[List.flatMap_cons,vg,nI];have:(dNm d).length<=Jk d:=by
   cases d with
   |ty t vs ms=>simp[dNm]|lt r t b=>simp only[dNm,mV,ID,Jk];omega
  omega
def afE:Te ot 2:=⟨aK,λ_=>rfl,.inl rfl⟩
def afF:Te lT 2:=⟨aK,λ_=>rfl,.inr<|.inl rfl⟩
def oh:∀{L:List Nd},(∀x∈L,∀ns,Wf (aI ns<|es x).1)->∀ns,C8 (aA ns<|tU L).1/\(aA ns<|tU L).1.length=L.length
 |[],_,ns=>⟨trivial,rfl⟩|x::L,h,ns=>by
  have⟨h1,h2⟩:=oh (L:=L) (λy hy=>h y<|by simp[hy]) (aI ns<|es x).2;simp only[tU,aA];exact⟨⟨h x ag ns,h1⟩,by simp[h2]⟩
def si.wf{nd:Nd}(h:si nd):∀ns,Wf (aI ns<|es nd).1:=by
 induction h with
 |var s n f t a h1 h2 h3=>intro ns;simp[es,aI,Wf]|up s n L f t a h1 h2 h3 h4 ih=>
  intro ns;have⟨g1,g2⟩:=oh (L:=L) ih ns;simp[es,aI,eX,Wf];exact⟨h1.Te h2 _,g1⟩
 |pr x y f t a h1 h2 dA gi=>
  intro ns
  have⟨g1,g2⟩:=oh (L:=[x,y]) (λu hu=>by
   simp only[qd,j9,or_false]at hu;obtain rfl|rfl:=hu
   .exact dA
   .exact gi) ns
  simp only[es,aI,eX];simp only[show(6:Nat)≠16 by decide,show(6:Nat)≠17 by decide,if_false,if_true];exact⟨by rw[g2];exact afF,g1⟩
 |fn x y f t a h1 h2 dA gi=>
  intro ns
  have⟨g1,g2⟩:=oh (L:=[x,y]) (λu hu=>by
   simp only[qd,j9,or_false]at hu;obtain rfl|rfl:=hu
   .exact dA
   .exact gi) ns
  simp only[es,aI,eX];simp only[show(17:Nat)≠16 by decide,if_false,if_true];exact⟨by rw[g2];exact afE,g1⟩
def YO:∀{L:List Nd},(∀x∈L,jj x)->In.NWL L
 |[],_=>trivial|x::L,h=>⟨h x ag,YO λy hy=>h y<|by simp[hy]⟩
def acY{t a:Nat}(hk:k≠14)(h:∀x∈L,jj x):jj (.mk k s n L f t a):=⟨λe=>absurd e hk,YO h⟩
def oj{t a:Nat}{y}(hk:k≠14)(hx:jj x)(hy:jj y):jj (.mk k s n [x,y] f t a):=⟨λe=>absurd e hk,hx,hy,trivial⟩
def YP{t a:Nat}(hk:k≠14)(hx:jj x):jj (.mk k s n [x] f t a):=⟨λe=>absurd e hk,hx,trivial⟩
def fY{t a:Nat}(hk:k≠14):jj (.mk k s n [] f t a):=⟨λe=>absurd e hk,trivial⟩
def si.nw{nd:Nd}(h:si nd):jj nd:=by
 induction h with
 |var s n f t a h1 h2 h3=>exact fY aK|up s n L f t a h1 h2 h3 h4 ih=>exact acY aK ih|pr x y f t a h1 h2 dA gi=>exact oj aK dA gi|fn x y f t a h1 h2 dA gi=>exact oj aK dA gi
def wR.nw{nd:Nd}(h:wR nd):jj nd:=by
 induction h with
 |any=>exact fY aK|low=>exact fY aK|num=>exact fY aK|word=>exact fY aK|unit=>exact fY aK|pr x y f t a h1 h2 dA gi=>exact oj aK dA gi|up s n L f t a h1 h2 h3 h4 ih=>exact acY aK ih
def I9:∀{A:List (Nd×Nd)},(∀p∈A,jj p.1)->(∀p∈A,jj p.2)->In.NWL (aT A)
 |[],_,_=>trivial|(p,e)::A,h,k=>⟨h (p,e) ag,k (p,e) ag,I9 (λq hq=>h q<|by simp[hq]) λq hq=>k q<|by simp[hq]⟩
def ig.nw{nd}(h:ig nd):jj nd:=by
 induction h with
 |low=>exact fY aK|up=>exact fY aK|num=>exact fY aK|word=>exact fY aK|unit=>exact fY aK|pr x y f t a _ _ dA gi=>exact oj aK dA gi|of x y f t a _ hy dA=>exact⟨λ_=>hy.wf [],dA,hy.nw,trivial⟩|op s x y f t a _ _ _ dA gi=>exact oj aK dA gi|call x y f t a _ _ dA gi=>exact oj aK dA gi|fn s x f t a _ _ _ ih=>exact YP aK ih|lt s x z f t a _ _ _ _ dA UY=>exact oj aK dA UY|ltr s s' x z f t a f' t' a' _ _ _ _ _ _ dA UY=>exact oj aK (YP aK dA) UY|ite x y w f t a _ _ _ dA gi ihw=>exact⟨λe=>absurd e aK,dA,gi,ihw,trivial⟩|mt x A f t a _ _ hp _ dA ihA=>exact⟨λe=>absurd e aK,dA,I9 (λp hq=>(hp p hq).nw) ihA⟩
def MF.add{t:jc}{vs:List jc}(ht:DP t.text)(hz:t.text.size<=400):∀{ms:List Nd}{mks:ji},In.MF mks->(∀m∈ms,EA si m)->In.MF (jf t vs ms mks)
 |[],mks,h,_=>h|m::r,mks,h,hm=>by
  refine MF.add ht hz (ms:=r) ?_ λx hx=>hm x (by simp[hx]);obtain⟨s,L,f,u,a,rfl,g1,g2,g3⟩:=hm m ag;intro x tk mt q;simp only at q;split at q
  .injection q with q;injection q with q1 q2;subst q1 q2;refine⟨(oh (L:=L) (λy hy=>(g3 y hy).wf) _).1,ht.Te hz _,?_⟩;have:∀(l:List Nat),C8<|l.map λi=>Ty.var<|i+1:=by
    exact Qg
   exact this _
  .exact h x tk mt q
def Vn{t}(h:Wf t):Wf (In.lZ t):=In.nJ h λ_=>In.De
end
section
open Go.ChangeMaps Un
def mA(f:Fl)(l r:BA)(sa:Option Addr)(n c:Nat):Value:=.agg #[Nv f.kind,Nv f.al,Nv f.to,.string l,.string r,.slice sa n c,.slice none 0 0]
def Zl(z:In.Ft):BA:=if z.f.kind=6 then bs (wr dec (vars [] z.l) z.l 0)else bs []
def Zm(z:In.Ft):BA:=if z.f.kind=6 then bs (wr dec (vars (vars [] z.l) z.r) z.r 0)else bs []
def SO(hk:z.f.kind=7)sa n c:
 Cq 65 #[mA gF (bs []) (bs []) sa n c,zJ z.f .nilIface .nilIface] w λe w'=>e=.returned (mA z.f (Zl z) (Zm z) sa n c)/\Bq w w':=by
 have hl:Zl z=bs []:=by simp[Zl,hk]
 have hr:Zm z=bs []:=by simp[Zm,hk]
 rw[hl,hr];unfold mA;rw[hk];simp only[gF];go_enter func65,ntmps65;go_wp2_with fail;refine bodyPost_ret (v:=mA ⟨7,z.f.al,z.f.to⟩ (bs []) (bs []) sa n c) (by simp[results,Tryz.results65,go_sem,mA]) rfl ⟨rfl,?_⟩;exact((bw _).alloc ag _).alloc bQ _
def SQ(Xv:∀nd,WN nd->RN nd)(hk:z.f.kind=6)(hf:pD w (λ_=>True) z vl vr)(hz:In.FtF z)sa n c:
 Cq 65 #[mA gF (bs []) (bs []) sa n c,zJ z.f vl vr] w λe w'=>e=.returned (mA z.f (Zl z) (Zm z) sa n c)/\Bq w w':=by
 have hl:Zl z=bs (wr dec (vars [] z.l) z.l 0):=by simp[Zl,hk]
 have hr:Zm z=bs (wr dec (vars (vars [] z.l) z.r) z.r 0):=by simp[Zm,hk]
 rw[hl,hr];have⟨⟨wl,zl⟩,wrr,zr⟩:=hz hk;have⟨tl,tr⟩:=hf.apart hk;have ajp:=nX z.l [];have aj_:=nX z.r<|vars [] z.l;simp only[vf]at ajp;have HT:∀W:World,Bq w W->dE W (λb=>b<w.heap.size) z.l vl/\dE W (λb=>b<w.heap.size) z.r vr:=λW k=>⟨tl.move k.size (λb _ q=>k.block b q) λ_ _ q=>q,tr.move k.size (λb _ q=>k.block b q) λ_ _ q=>q⟩;obtain⟨ta,xa,rfl⟩:=tl.iface;obtain⟨tb,xb,rfl⟩:=tr.iface;unfold mA;rw[hk];simp only[gF];obtain⟨W0,HW⟩:∃W0,W0=((w.alloc<|Cv #[Iv 6,Nv z.f.al,Nv z.f.to,Sv<|bs [],Sv<|bs [],Lv sa n c,Lv none 0 0] 34).alloc<|Cv #[Iv 6,Nv z.f.al,Nv z.f.to,Fv ta xa,Fv tb xb] 146).alloc (Cv #[Iv 0,Iv 0,Iv 0,Sv ⟨#[]⟩,Sv ⟨#[]⟩,Lv none 0 0,Lv none 0 0] 34):=⟨_,rfl⟩;have K0:Bq w W0:=by rw[HW];exact((bw _).alloc ag _).alloc bQ _
 have R0:Bx W0 w.heap.size #[Iv 6,Nv z.f.al,Nv z.f.to,Sv<|bs [],Sv<|bs [],Lv sa n c,Lv none 0 0]:=by rw[HW];exact((qu w _ _).alloc _).alloc _
 have F0:Bx W0 (w.heap.size+1) #[Iv 6,Nv z.f.al,Nv z.f.to,Fv ta xa,Fv tb xb]:=by rw[HW];have:=(qu (w.alloc<|Cv #[Iv 6,Nv z.f.al,Nv z.f.to,Sv<|bs [],Sv<|bs [],Lv sa n c,Lv none 0 0] 34) #[Iv 6,Nv z.f.al,Nv z.f.to,Fv ta xa,Fv tb xb] 146).alloc<|Cv #[Iv 0,Iv 0,Iv 0,Sv ⟨#[]⟩,Sv ⟨#[]⟩,Lv none 0 0,Lv none 0 0] 34;simpa using this
 have Z0:Bx W0 (w.heap.size+1+1) #[Iv 0,Iv 0,Iv 0,Sv ⟨#[]⟩,Sv ⟨#[]⟩,Lv none 0 0,Lv none 0 0]:=by rw[HW];have:=qu ((w.alloc<|Cv #[Iv 6,Nv z.f.al,Nv z.f.to,Sv<|bs [],Sv<|bs [],Lv sa n c,Lv none 0 0] 34).alloc<|Cv #[Iv 6,Nv z.f.al,Nv z.f.to,Fv ta xa,Fv tb xb] 146) #[Iv 0,Iv 0,Iv 0,Sv ⟨#[]⟩,Sv ⟨#[]⟩,Lv none 0 0,Lv none 0 0] 34;simpa using this
 have zW:W0.heap.size=w.heap.size+3:=by rw[HW];simp
 go_enter func65,ntmps65;go_wp2_with fail;rw[<-HW];refine Di.mono ?_;rintro e w1⟨cb,nb,mb,rfl,HC1,HN1,hm1,afG,da⟩;have K1:=K0.trans<|da.mono K0.size;have HR1:=R0.below da;have F1:=F0.below da;have HZ1:=Z0.below da;have hcw:cb≠w.heap.size:=λe=>by have h1:=HC1.c 0;rw[e,HR1.c 0]at h1;simp at h1
 have hnw:nb≠w.heap.size:=λe=>by have h1:=HN1.bk.c 0;rw[e,HR1.c 0]at h1;simp at h1
 have hs1:=da.size;have HWr:=vU Xv (HT w1 K1).1 (λb p=>by have:b<w.heap.size:=p;omega) HN1 HC1 afG wl zl ae;have S1:=K1.size;have yW:=ai F1;obtain⟨f1,f2,f3⟩:=F1;go_wp2_with fail;refine HWr.mono ?_;rintro e w2⟨rfl,N2,F2⟩;have K2:=Fr.sN K1 K1.size F2 (λx q=>by subst q;omega);have R2:=HR1.fr F2 (by show ¬w.heap.size=mb;omega);have Fa2:=yW.fr F2 (by show ¬w.heap.size+1=mb;omega);have Z2:=HZ1.fr F2 (by show ¬w.heap.size+1+1=mb;omega);have C2:=HC1.fr F2 (by show ¬cb=mb;exact afG);have HR3:=R2.rj 3 (Sv<|bs<|wr dec (vars [] z.l) z.l 0) #[Iv 6,Nv z.f.al,Nv z.f.to,Sv<|bs<|wr dec (vars [] z.l) z.l 0,Sv<|bs [],Lv sa n c,Lv none 0 0] ag ag;have K3:=K2.setCell (p:=⟨w.heap.size,3,none⟩) (br _)<|Sv<|bs<|wr dec (vars [] z.l) z.l 0;have Fa3:=Fa2.mQ (b2:=w.heap.size) ae 3<|Sv<|bs<|wr dec (vars [] z.l) z.l 0;have HZ3:=Z2.mQ (b2:=w.heap.size) ae 3<|Sv<|bs<|wr dec (vars [] z.l) z.l 0;have C3:=C2.mQ (b2:=w.heap.size) hcw 3<|Sv<|bs<|wr dec (vars [] z.l) z.l 0;have N3:=N2.set (b:=w.heap.size) (Ne.symm hnw) ae 3<|Sv<|bs<|wr dec (vars [] z.l) z.l 0;have HWr:=vU Xv (HT _ K3).2 (λb p=>by have:b<w.heap.size:=p;omega) N3 C3 afG wrr zr ae;obtain⟨r1,r2,r3⟩:=R2;obtain⟨f1,f2,f3⟩:=Fa2;go_wp2_with fail;refine HWr.mono ?_;rintro e w4⟨rfl,N4,F4⟩;have K4:=Fr.sN K3 K3.size F4 (λx q=>by subst q;omega)
 have R4:=HR3.fr F4 (by show ¬w.heap.size=mb;omega);have Z4:=HZ3.fr F4 (by show ¬w.heap.size+1+1=mb;omega);have R5:=R4.rj 4 (Sv<|bs<|wr dec (vars (vars [] z.l) z.r) z.r 0) #[Iv 6,Nv z.f.al,Nv z.f.to,Sv<|bs<|wr dec (vars [] z.l) z.l 0,Sv<|bs<|wr dec (vars (vars [] z.l) z.r) z.r 0,Lv sa n c,Lv none 0 0] ag ag;have K5:=K4.setCell (p:=⟨w.heap.size,4,none⟩) (br _)<|Sv<|bs<|wr dec (vars (vars [] z.l) z.r) z.r 0;have Z5:=Z4.mQ (b2:=w.heap.size) ae 4<|Sv<|bs<|wr dec (vars (vars [] z.l) z.r) z.r 0;obtain⟨r1,r2,r3⟩:=R4;obtain⟨q1,q2,q3⟩:=Z4;go_wp2_with fail;have⟨p1,p2,p3⟩:=Z5.Rg rfl (Iv 6) (Nv z.f.al) (Nv z.f.to) (Sv<|bs<|wr dec (vars [] z.l) z.l 0) (Sv<|bs<|wr dec (vars (vars [] z.l) z.r) z.r 0) (Lv sa n c) (Lv none 0 0);refine bodyPost_ret (v:=Av #[Iv 6,Nv z.f.al,Nv z.f.to,Sv<|bs<|wr dec (vars [] z.l) z.l 0,Sv<|bs<|wr dec (vars (vars [] z.l) z.r) z.r 0,Lv sa n c,Lv none 0 0]) (by simp[results,Tryz.results65,go_sem,p1]) rfl ⟨rfl,?_⟩;exact(((((((K5.setCell (p:=⟨w.heap.size+1+1,0,none⟩) bQ _).setCell (p:=⟨w.heap.size+1+1,1,none⟩) bQ _).setCell (p:=⟨w.heap.size+1+1,2,none⟩) bQ _).setCell (p:=⟨w.heap.size+1+1,3,none⟩) bQ _).setCell (p:=⟨w.heap.size+1+1,4,none⟩) bQ _).setCell (p:=⟨w.heap.size+1+1,5,none⟩) bQ _).setCell (p:=⟨w.heap.size+1+1,6,none⟩) bQ _)
def SR(Xv:∀nd,WN nd->RN nd)(hf:pD w (λ_=>True) z vl vr)(hz:In.FtF z)sa n c:
 Cq 65 #[mA gF (bs []) (bs []) sa n c,zJ z.f vl vr] w λe w'=>e=.returned (mA z.f (Zl z) (Zm z) sa n c)/\Bq w w':=by
 obtain hk|hk:=hf.k
 .exact SQ Xv hk hf hz sa n c
 .obtain⟨rfl,rfl⟩:=hf.qA hk;exact SO hk sa n c
end
section
open Go.ChangeMaps Go.MapKept Un
structure Zn lo base(w w':World):Prop where
 os:w'.os=w.os
 tape:w'.tape=w.tape
 output:w'.output=w.output
 size:w.heap.size<=w'.heap.size
 low:∀b,b<w.heap.size->b<lo->w'.heap[b]? =w.heap[b]?
 box:∀b x,b<w.heap.size->base<=b->w.cell? ⟨b,0,none⟩=some x->(∀q,x≠.pointer q)->w'.heap[b]? =w.heap[b]?
def Zn.of(f:Fr S w w')(h1:∀b,S b->lo<=b)(h2:∀b x,S b->base<=b->w.cell? ⟨b,0,none⟩=some x->¬∀q,x≠.pointer q):Zn lo base w w':=
 ⟨f.os,f.tape,f.output,f.size,λb hb hl=>f.block b hb λq=>by have:=h1 b q;omega,λb x hb hl hx ho=>f.block b hb λq=>h2 b x q hl hx ho⟩
def Zn.bx{C}{x}(k:Zn lo base w w')(h:Bx w b C)(hb:base<=b)(hx:C[0]? =some x)(ho:∀q,x≠.pointer q):Bx w' b C:=h.same k.size (k.box b x h.z hb (by rw[h.c 0];exact hx) ho)
def aeh(S:World->Nat->ji->jp->jo->Prop)lo base rs cnt(mks:ji)(s:jp)(Γ:jo)rc st a y x w(e:Ending)w':=Zn lo base w w'/\∃o,jk rc st x (ju mks x) Γ s o/\match o with
 |.error z=>∃vl vr,e=.returned (.tuple #[.nilIface,zJ z.f vl vr])/\pD w' (λ_=>True) z vl vr
 |.ok (t,s1)=>(48<size (sub s1.k t)/\e=.returned (.tuple #[.nilIface,zJ ⟨7,a,y⟩ .nilIface .nilIface]))\/
  (size (sub s1.k t)<=48/\∃T ta xa aB,T=(if jy x then sub s1.k t else In.lZ (sub s1.k t))/\e=.returned (.tuple #[.iface ta xa,.agg Jj])/\dE w' (λ_=>True) T (.iface ta xa)/\aB<=cnt+1000*(1+nn x)+48/\S w' aB mks (In.nxt rs s1) (jv Γ st ⟨T,vars [] T⟩))
structure Uk ty eb lo base rs nl(S:World->Nat->ji->jp->jo->Prop):Prop where
 af:∀{w w':World}{cnt:Nat}{mks:ji}{s:jp}{Γ:jo},S w cnt mks s Γ->Bq w w'->S w' cnt mks s Γ
 oth:∀{w w':World}{cnt:Nat}{mks:ji}{s:jp}{Γ:jo}{b:Nat}{x:Value},S w cnt mks s Γ->base<=b->w.cell? ⟨b,0,none⟩=some x->Oth x->Fr (λi=>i=b) w w'->S w' cnt mks s Γ
 mks:∃fn,(∀w,(method 641 ty (.pointer<|some ⟨eb,0,none⟩) "Makers").run Tryz.prog w=.ok (fn,.pointer<|some ⟨eb,0,none⟩) w)/\(∀(args:Array Value)(w:World),(callFunc fn args).run Tryz.prog w=.ok (.enter fn args) w)/\∀{w:World}{cnt:Nat}{mks:In.Mks}{s:In.St}{Γ:In.Env}{t:Pu.Tok}{vs:List Pu.Tok}{ms:List Nd}{f x:Int}{vv vm:Value},S w cnt mks s Γ->RowV QName 3 w (·<lo) vs vv->RowV QMaker 6 w (·<lo) ms vm->TdF t vs ms->
  Cq fn #[Pv eb,.agg #[Iv f,Iv x,Nv t.al,Nv t.to,.string t.text,vv,vm]] w (λe w'=>e=.returned (.tuple #[])/\Zn lo base w w'/\S w' cnt (jf t vs ms mks) s Γ)
 lts:∃fn,(∀w,(method 641 ty (.pointer<|some ⟨eb,0,none⟩) "Let").run Tryz.prog w=.ok (fn,.pointer<|some ⟨eb,0,none⟩) w)/\(∀(args:Array Value)(w:World),(callFunc fn args).run Tryz.prog w=.ok (.enter fn args) w)/\∀{w:World}{cnt:Nat}{mks:In.Mks}{s:In.St}{Γ:In.Env}{rc:Bool}{st:BA}{x:Nd}{v:Value}{a y:Nat}{dom:BA->Prop},S w cnt mks s Γ->PE w (·<lo) x v->ScE mks nl (fun v=>dom v\/(rc=true/\v=st)) x->(∀x,dom x->Γ x≠none)->st∈nl->cnt+1000*(1+nn x)<=850000->1+nn x<=805->MkFine mks->
  Cq fn #[Pv eb,.agg #[.bool rc,Nv a,Nv y,.string st,v]] w (aeh S lo base rs cnt mks s Γ rc st a y x w)
structure TpD tl(g:fB)(cq:Nat->Nat)n l(D:Nat->Prop):Prop where
 up:∀m,D m->m∈g.ds/\g.nx m=none/\l<g.lv m/\g.lv m≠aL/\cq m=tl
 no:∀m,¬D m->cq m=g.lv m
 hd:∀h,Hd g.nx n h->D h\/g.lv h<=l
 cl:∀a,D a->∀c ps,g.str a=some (c,ps)->∀p,p∈ps->∀h,Hd g.nx p h->D h\/g.lv h<=l
section
variable {s:jp} {c:JC} {l cnt:Nat} {T:Ty}
def acZ(js:JS w g s)(r:lX l g s n T)(hD:∀R:Nat->Prop,(∀h,Hd g.nx n h->R h)->(∀a k ps p h,R a->g.str a=some (k,ps)->p∈ps->Hd g.nx p h->R h)->∀a,D a->R a):∀a,D a->g.lv a<=l:=λa d=>
 (hD (λx=>x∈g.ds/\g.nx x=none/\g.lv x<=l) (λh k=>⟨js.gl.bH r.mem k,k.head,r.lv h k⟩) (λa k ps p h q hs hp hh=>⟨js.gl.bH (js.jg.Tp a k ps q.1 hs p hp) hh,hh.head,qf (js.lc a q.1 q.2.1 k ps hs p hp h hh) q.2.2⟩) a d).2.2
def jQ.tp(js:JS w g s)(hl:l+1<aL)(r:lX (l+1) g s n T)(d:jQ g.str g.nx g.ds g.lv cq n l D):TpD l g cq n l D:=
 ⟨λm q=>by have⟨h1,h2,h3,h4⟩:=d.up m q;exact⟨h1,h2,h3,by have:=acZ js r d.re m q;omega,h4⟩,d.no,d.hd,d.cl⟩
def tF.tp(js:JS w g s)(hl:l+1<aL)(r:lX (l+1) g s n T)(d:tF g.str g.nx g.ds g.lv cq n l D):TpD aL g cq n l D:=
 ⟨d.up,d.no,λh k=>(d.hd h k).imp id λq=>q.resolve_right (by have:=r.lv h k;omega),λa q k ps hs p hp h hh=>(d.cl a q k ps hs p hp h hh).imp id λz=>z.resolve_right (by
  have h1:=acZ js r d.re a q;have h2:=js.lc a (d.up a q).1 (d.up a q).2.1 k ps hs p hp h hh
  omega)⟩
def JS.afH(js:JS w g s)(hS:ScD g.str g.ds g.nx S)(hn:n∈g.ds)(hh:∀h,Hd g.nx n h->S h){v}(o:aD v (g.V n)):∃x,g.R v x/\S x:=by
 classical
 have⟨y,hy⟩:=js.gl.hd n hn;have⟨x,r,q⟩:=eT (lv:=λx=>if S x then 0 else 1) js.jg js.can _ n y hn hy (br _) o;refine⟨x,r,?_⟩;have:=q λa ha na k ps hs p hp h hh=>by
  by_cases z:S a
  .simp[z,hS a ha na z k ps hs p hp h hh]
  .grind
 rw[if_pos<|hh y hy]at this;exact Classical.byContradiction λz=>by rw[if_neg z]at this;omega
def I_(aj:AJ w c nb l cnt g s)(hl:l+1<aL)(nm:∀y d,Γ y=some d->∃m,yZ g s d m)(t1:fA (l+1) c w g s w1 g1 s1)(js:JS w1 g1 s1)(hp:jk rc st x (ju c.mks x) Γ s (.ok (T,s1))){v y}(hv:aD v (sub s1.k T))(hy:g1.R v y):jt (kN rc st Γ) s1.k v↔g1.lv y<=l:=by
 have zT:∀z d,kN rc st Γ z=some d->∃m,yZ g s d m:=λz d q=>by
  cases rc with
  |false=>exact nm z d q|true=>
   simp only[kN,if_true,In.qH]at q;split at q
   .cases q
   .exact nm z d q
 have t0:=t1.le<|qe l;have hl':l<aL:=ae;constructor
 .rintro⟨z,d,q1,q2,q3⟩;have⟨m,k⟩:=zT z d q1;have k1:=k.kB hl' aj js t0;rw[<-k1.val]at q2;have na:¬dL g1 v:=λa=>q3<|(k1.any v).2 ⟨q2,a⟩;rw[t1.st.val m k.mem]at q2;have⟨u,ou,ov⟩:=(jz _).1 q2;have⟨r,r1⟩:=aj.js.An k.mem ou;obtain e|e:=aj.lv r r1.1 r1.2.1
  .have⟨o1,o2,o3⟩:=t1.st.fZ r r1.1;have⟨r',hr'⟩:=js.gl.hd r o1;have e':=t1.lo r r1.1 r r' (.here r1.2.1) hr' l (qe l) e;have ov':aD v (g1.V r):=by rw[js.val r o1<|o2.trans r1.2.2.1,o3,r1.2.2.2];exact ov
   have⟨x2,r2,e2⟩:=eT (lv:=g1.lv) js.jg js.can _ r r' o1 hr' (br _) ov';have e2:=e2 js.lc;rw[r2.one js.jg hy]at e2;omega
  .exfalso;have qa:dL g u:=⟨r,r1,e⟩;rw[t1.root js qa]at ov;simp only[aD]at ov;subst ov;exact na<|t1.abH qa
 .intro e;have eb:jk rc st x (ju c.mks x) Γ=jk rc st x (ju c.mks x) (kN rc st Γ):=by
   cases rc with
   |false=>rfl|true=>
    unfold jk;simp only[if_true];have:∀d,jv (kN true st Γ) st d=jv Γ st d:=λd=>by
     funext z;unfold jv kN In.qH;by_cases q:z=st<;>simp[q]
    simp only[this]
  rw[eb]at hp;have hE:In.df (λn=>¬s.u n\/jt (kN rc st Γ) s.k n) s (kN rc st Γ):=λz d q=>by
   have⟨m,k⟩:=zT z d q;refine⟨k.use,λn o=>?_,λn o=>?_,k.sub⟩
   .by_cases a:n∈d.any
    .exact qm a
    .exact ql (ql ⟨z,d,q,o,a⟩)
   .have⟨o1,o2⟩:=(k.any n).1 o;obtain⟨r,r1,r2⟩:=o2;refine⟨(aj.js.root r1).2,λb=>?_⟩;obtain b|⟨z',d',b1,b2,b3⟩:=b
    .exact b (aj.js.root r1).1
    .have⟨m',k'⟩:=zT z' d' b1;rw[<-k'.val]at b2;exact b3<|(k'.any n).2 ⟨b2,r,r1,r2⟩
  have⟨kp,ti⟩:=In.gX rc st x (In.kV c.mks x) (kN rc st Γ) s _ aj.js.ok (λn q=>qm q) hE T s1 hp;have lv:=ti.loc v hv;have⟨u,⟨r,r1,r2⟩,ov⟩:=(t1.st.QB l (qh l) v).1 ⟨y,hy,e⟩;have hu:=aj.js.root r1;have fu:jt (kN rc st Γ) s.k u:=by
   refine Classical.byContradiction λz=>?_;have nz:¬(¬s.u u\/jt (kN rc st Γ) s.k u):=λq=>q.elim (λq=>q hu.1) z;rw[kp.fix hu.2 nz]at ov;simp only[aD]at ov;subst ov;exact nz lv
  obtain⟨z,d,q1,q2,q3⟩:=fu;have⟨m,k⟩:=zT z d q1;refine⟨z,d,q1,?_,λa=>?_⟩
  .rw[<-DE t1.ky];exact(jz _).2 ⟨u,q2,ov⟩
  .have⟨r',a1,a2⟩:=t1.abH ((k.any v).1 a).2;rw[a1.one js.jg hy]at a2;omega
end
def tJ(g:fB)l x:=∃S:Nat->Prop,ScD g.str g.ds g.nx S/\(∀y,S y->g.lv y<=l\/g.lv y=aL)/\S x
section
variable {s:jp} {c:JC} {l cnt ak tl:Nat} {ba:Nx} {T:Ty}
def QE(aj:AJ w c nb l cnt g s)(hl:l+1<aL)(nm:∀y d,Γ y=some d->∃m,yZ g s d m)(a1:AJ w1 c nb (l+1) ak g1 s1)(t1:fA (l+1) c w g s w1 g1 s1)(r1:lX (l+1) g1 s1 n T)(hp:jk rc st x (ju c.mks x) Γ s (.ok (T,s1)))(hg:GL w2 g1.ds g1.str ba g1.vr g1.ly cq)(e:im g1.str g1.nx ba)(d:TpD (if jy x then aL else l) g1 cq n l D)(F:Fr (jS c g1) w1 w2)(je:JE w2 c nb l ak):
 ∃g2,AJ w2 c nb l ak g2 s1/\fA l c w g s w2 g2 s1/\yZ g2 s1 (jx (kN rc st Γ) s1.k T<|jy x) n:=by
 obtain⟨gx,ZB⟩:∃gx:fB,gx={g1 with nx:=ba,lv:=cq}:=⟨_,rfl⟩;have e0:gx.ds=g1.ds:=by rw[ZB]
 have e1:gx.str=g1.str:=by rw[ZB]
 have e2:gx.nx=ba:=by rw[ZB]
 have e3:gx.lv=cq:=by rw[ZB]
 have e4:gx.vr=g1.vr:=by rw[ZB]
 have e5:gx.V=g1.V:=by rw[ZB]
 have hG:GL w2 gx.ds gx.str gx.nx gx.vr gx.ly gx.lv:=by rw[ZB];exact hg
 have js:=a1.js;have tl2:∀m,D m->cq m=aL\/cq m=l:=λm q=>by
  have:=(d.up m q).2.2.2.2;split at this
  .exact qm this
  .exact ql this
 have low:∀m,g1.lv m<=l->cq m=g1.lv m:=λm q=>d.no m λz=>by have:=(d.up m z).2.2.1;omega
 have any:∀m,g1.lv m=aL->cq m=aL:=λm q=>by rw[d.no m λz=>(d.up m z).2.2.2.1 q];exact q
 have bk:∀{m h},Hd gx.nx m h->Hd g1.nx m h:=λk=>e.back js.gl<|e2▸k;have fw:∀{m h},Hd g1.nx m h->Hd gx.nx m h:=λk=>e2▸e.jU _ _ k;have lc1:∀a,a∈g1.ds->g1.nx a=none->cq a<=l->∀k ps,g1.str a=some (k,ps)->∀p,p∈ps->∀h,Hd g1.nx p h->cq h<=cq a:=λa ha hn hz k ps hs p hp h hh=>by
  by_cases q:D a
  .have ea:=(tl2 a q).resolve_left ae;obtain z|z:=d.cl a q k ps hs p hp h hh
   .obtain y|y:=tl2 h z
    .have h1:=(d.up a q).2.2.2.2;have h2:=(d.up h z).2.2.2.2;omega
    .omega
   .rw[low h z];omega
  .rw[d.no a q]at hz⊢;have z:=js.lc a ha hn k ps hs p hp h hh;rw[low h ae];exact z
 have hP:ScD gx.str gx.ds gx.nx (tJ gx l):=λx hx hn⟨S,h1,h2,h3⟩k ps hs p hp h hh=>⟨S,h1,h2,h1 x hx hn h3 k ps hs p hp h hh⟩;have lcx:∀a,a∈gx.ds->gx.nx a=none->tJ gx l a->∀k ps,gx.str a=some (k,ps)->∀p,p∈ps->∀h,Hd gx.nx p h->gx.lv h<=gx.lv a:=λa ha hn hN k ps hs p hp h hh=>by
  have hN':=hP a ha hn hN k ps hs p hp h hh;obtain⟨S,_,q2,q3⟩:=hN;obtain⟨S',_,q2',q3'⟩:=hN';obtain z|z:=q2 a q3
  .rw[e3]at z⊢;exact lc1 a (e0▸ha) ((e.yT a).1<|e2▸hn) z k ps (e1▸hs) p hp h<|bk hh
  .grind
 have JS2:=JS.cut hG (by rw[e1,e2];exact e.mh _ js.mh) (by rw[ZB];exact js.inj) (λm h k=>by rw[e1,e4,e5];exact js.can m h<|bk k) (by rw[ZB];exact js.val) (by rw[ZB];exact js.use) js.ok hP lcx;have kl:∀m,m∈g1.ds->(∀h,Hd g1.nx m h->g1.lv h<=l)->gx.K (tJ gx l) m:=λm hm q=>by
  refine⟨e0▸hm,λh hh=>⟨λy=>y∈g1.ds/\cq y<=l,λa ha hn z k ps hs p hp h hh=>?_,λy z=>qm (by rw[e3];exact z.2),js.gl.bH hm<|bk hh,by rw[low h<|q h<|bk hh];exact q h<|bk hh⟩⟩;rw[e0]at ha;rw[e1]at hs;exact⟨js.gl.bH (js.jg.Tp a k ps ha hs p hp)<|bk hh,qf (lc1 a ha ((e.yT a).1<|e2▸hn) z.2 k ps hs p hp h<|bk hh) z.2⟩
 have ko:∀m,m∈g.ds->gx.K (tJ gx l) m:=λm hm=>by
  have hm1:=(t1.st.fZ m hm).1;have key:∀m,m∈g.ds->∀h,Hd g1.nx m h->(h∈g1.ds/\cq h<=l)\/(h∈g.ds/\g.nx h=none/\g.lv h=aL):=λm hm h hh=>by
   have⟨h0,k0⟩:=aj.js.gl.hd m hm;obtain z|z:=aj.hd hm k0
   .have:=t1.lo m hm h0 h k0 hh l (qe l) z;exact qm ⟨js.gl.bH (t1.st.fZ m hm).1 hh,by rw[low h this];exact this⟩
   .rw[hh.one (t1.an m hm h0 k0 z).1];exact ql ⟨aj.js.gl.bH hm k0,k0.head,z⟩
  refine⟨e0▸hm1,λh hh=>⟨λy=>(y∈g1.ds/\cq y<=l)\/(y∈g.ds/\g.nx y=none/\g.lv y=aL),λa ha hn z k ps hs p hp h hh=>?_,λy z=>?_,key m hm h<|bk hh⟩⟩
  .rw[e0]at ha;rw[e1]at hs;obtain z|⟨z1,z2,z3⟩:=z
   .exact qm ⟨js.gl.bH (js.jg.Tp a k ps ha hs p hp)<|bk hh,qf (lc1 a ha ((e.yT a).1<|e2▸hn) z.2 k ps hs p hp h<|bk hh) z.2⟩
   .rw[(t1.st.fZ a z1).2.1]at hs;exact key p (aj.js.jg.Tp a k ps z1 hs p hp) h<|bk hh
  .rw[e3];exact z.imp (λq=>q.2) λq=>any y (t1.an y q.1 y (.here q.2.1) q.2.2).2
 have Sn:ScD g1.str g1.ds g1.nx (λy=>D y\/(y∈g1.ds/\g1.lv y<=l)):=λa ha hn z k ps hs p hp h hh=>by
  have hd:=js.gl.bH (js.jg.Tp a k ps ha hs p hp) hh;obtain z|z:=z
  .exact(d.cl a z k ps hs p hp h hh).imp id λq=>⟨hd,q⟩
  .exact ql ⟨hd,qf (js.lc a ha hn k ps hs p hp h hh) z.2⟩
 have Snl:∀y,D y\/(y∈g1.ds/\g1.lv y<=l)->cq y<=l\/cq y=aL:=λy z=>by
  obtain z|z:=z
  .grind
  .grind
 have X7:∀h,Hd g1.nx n h->D h\/(h∈g1.ds/\g1.lv h<=l):=λh hh=>(d.hd h hh).imp id λq=>⟨js.gl.bH r1.mem hh,q⟩;have Sx:∀y,y∈g1.ds->g1.nx y=none->D y\/(y∈g1.ds/\g1.lv y<=l)->gx.K (tJ gx l) y:=λy hy ny z=>by
  refine⟨e0▸hy,λh hh=>?_⟩;rw[(bk hh).one<|.here ny];exact⟨_,λa ha hn z k ps hs p hp h hh=>Sn a (e0▸ha) ((e.yT a).1<|e2▸hn) z k ps (e1▸hs) p hp h<|bk hh,λy z=>by rw[e3];exact Snl y z,z⟩
 have kn:gx.K (tJ gx l) n:=by
  refine⟨e0▸r1.mem,λh hh=>?_⟩;exact(Sx h (js.gl.bH r1.mem<|bk hh) (bk hh).head<|X7 h<|bk hh).2 h (.here hh.head)
 have V2:∀{m},gx.K (tJ gx l) m->(gx.cut<|tJ gx l).V m=g1.V m:=λq=>by rw[(bF q).2.2,e5]
 have rt:∀{v y},(gx.cut<|tJ gx l).R v y↔g1.R v y/\gx.K (tJ gx l) y:=λ{v y}=>by
  constructor
  .rintro⟨q1,q2,q3,q4⟩;have k:=cM.1 q1;rw[(bF k).2.1,e2]at q2;rw[(bF k).1,e1]at q3;exact⟨⟨e0▸k.1,(e.yT y).1 q2,q3,by have:gx.vr y=v:=q4;rw[e4]at this;exact this⟩,k⟩
  .rintro⟨⟨q1,q2,q3,q4⟩,k⟩;exact⟨cM.2 k,by rw[(bF k).2.1,e2];exact(e.yT y).2 q2,by rw[(bF k).1,e1];exact q3,by show gx.vr y=v;rw[e4];exact q4⟩
 have lvx:(gx.cut<|tJ gx l).lv=cq:=e3;refine⟨gx.cut<|tJ gx l,⟨je,JS2,a1.us,λm hm hn=>?_,λm hm=>a1.lo m<|e0▸(cM.1 hm).1⟩,⟨⟨λm hm=>?_,λm hm=>?_,λi hi v=>?_⟩,λm hm h k q=>?_,λm hm h h' k k' i hi z=>?_,λm hm=>t1.nw m<|e0▸(cM.1 hm).1,?_,t1.ky,t1.um⟩,⟨cM.2 kn,?_,λv=>?_,λv o=>?_,λv q=>(In.Om q).1⟩⟩
 .have k:=cM.1 hm;rw[(bF k).2.1]at hn;have⟨S,_,q2,q3⟩:=k.2 m<|.here hn;rw[lvx,<-e3];exact q2 m q3
 .have⟨o1,o2,o3⟩:=t1.st.fZ m hm;have k:=ko m hm;exact⟨cM.2 k,by rw[(bF k).1,e1,o2],by show gx.vr m=_;rw[e4,o3]⟩
 .rw[V2<|ko m hm];exact t1.st.val m hm
 .rw[<-t1.st.QB i ae v];constructor
  .rintro⟨y,r,z⟩;rw[lvx]at z;refine⟨y,(rt.1 r).1,?_⟩;rw[<-d.no y λq=>by obtain h|h:=tl2 y q<;>omega];exact z
  .rintro⟨y,r,z⟩;exact⟨y,rt.2 ⟨r,kl y r.1 λh hh=>by rw[hh.one<|.here r.2.1];omega⟩,by rw[lvx,low y ae];exact z⟩
 .have⟨k1,q1⟩:=t1.an m hm h k q;exact⟨(abt hG (fw k1)<|ko m hm).1,by rw[lvx];exact any h q1⟩
 .have:=t1.lo m hm h h' k (bk<|afi hG (ko m hm) k') i ae z;rw[lvx,low h' ae];exact this
 .exact t1.fr.trans' F λb q=>by
   obtain q|q|q:=q
   .omega
   .omega
   .exact(t1.nw b q).imp (λz=>ql<|ql z) id
 .rw[V2 kn,r1.val];exact(js.ok.uB T).symm
 .rw[V2 kn,r1.val];have YQ:aD v (sub s1.k T)->∃y,g1.R v y/\(D y\/(y∈g1.ds/\g1.lv y<=l)):=λo=>js.afH Sn r1.mem X7 (by rw[r1.val];exact o);have afI:∀{y},g1.R v y->(D y\/(y∈g1.ds/\g1.lv y<=l))->(dL (gx.cut<|tJ gx l) v↔cq y=aL):=λ{y}r q=>by
   constructor
   .rintro⟨y',r',z⟩;rw[<-(rt.1 r').1.one js.jg r,<-lvx];exact z
   .exact λz=>⟨y,rt.2 ⟨r,Sx y r.1 r.2.1 q⟩,by rw[lvx];exact z⟩
  cases hv:jy x with
  |false=>
   simp only[jx];constructor
   .intro q;cases q
   .rintro⟨o,a⟩;exfalso;have⟨y,r,q⟩:=YQ o;have z:=(afI r q).1 a;obtain q|q:=q
    .have:=(d.up y q).2.2.2.2;rw[hv]at this;simp only[Bool.false_eq_true,if_false]at this;omega
    .grind
  |true=>
   simp only[jx,if_true,In.zZ,List.mem_filter,decide_eq_true_eq];constructor
   .rintro⟨o,nf⟩;have o:=In.bu.1 o;have⟨y,r,q⟩:=YQ o;refine⟨o,(afI r q).2 ?_⟩;have nl:=λz=>nf<|(I_ aj hl nm t1 js hp o r).2 z;have dy:=q.resolve_right λz=>nl z.2;have:=(d.up y dy).2.2.2.2;rw[hv]at this;exact this
   .rintro⟨o,a⟩;refine⟨In.bu.2 o,λf=>?_⟩;have⟨y,r,q⟩:=YQ o;have z:=(afI r q).1 a;have:=(I_ aj hl nm t1 js hp o r).1 f;rw[low y this]at z;omega
 .have o:aD v (sub s1.k T):=o;rw[<-r1.val]at o;have⟨y,r⟩:=js.An r1.mem o;exact(js.root r).1
end
end
section
open Un
namespace In
end In
end
def YR(w:World)(L:List (BA×BA))(v:Value):=∃va vc,v=.slice va L.length vc/\(L=[]\/∃g,va=some ⟨g,0,none⟩/\g<w.heap.size/\∀i(h:i<L.length),w.cell? ⟨g,i*2,none⟩=some (.string L[i].1)/\w.cell? ⟨g,i*2+1,none⟩=some (.string L[i].2))
def YR.af{L:List (BA×BA)}(h:YR w L v)(k:Bq w w'):YR w' L v:=by
 obtain⟨va,vc,rfl,h⟩:=h;refine⟨va,vc,rfl,h.imp id ?_⟩;rintro⟨g,rfl,hg,hc⟩;refine⟨g,rfl,qi hg k.size,λi hi=>⟨?_,?_⟩⟩
 .rw[qn (a:=⟨g,i*2,none⟩)<|k.block g hg];exact(hc i hi).1
 .rw[qn (a:=⟨g,i*2+1,none⟩)<|k.block g hg];exact(hc i hi).2
end Go.Proofs.YtfnkchdeheeiiaaGreatDoor
