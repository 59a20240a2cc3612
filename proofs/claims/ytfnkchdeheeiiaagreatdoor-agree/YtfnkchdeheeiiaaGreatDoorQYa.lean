import Derived.Test.YtfnkchdeheeiiaaGreatDoorQKa
import Derived.Test.YtfnkchdeheeiiaaGreatDoorQXz
set_option linter.all false
set_option maxRecDepth 100000
set_option maxHeartbeats 4000000
namespace Go.Proofs.YtfnkchdeheeiiaaGreatDoor
open Pu renaming bG->ja,Tok->jc,pu->jd,fD->jf,dr->jh,UU->ji,gS->jj,at_->jk,o8->jl,a_->jm,eX->jo
open _root_.Nat renaming le_trans->jp,zero_le->jq,le_succ->jt,lt_succ_self->ju,lt_of_lt_of_le->jv,succ_le_of_lt->jx
open _root_.List renaming mem_cons_self->jy,getElem_mem->jz,getD_eq_getElem?_getD->j5,take_succ_eq_append_getElem->j6,map_cons->j7,getElem?_eq_none->j8,getElem?_eq_getElem->j9,take_length->qe,not_mem_nil->qf,mem_cons->qg
open In renaming v8->qh,N8->qi,Mks->qk,NW->ql,bM->qm,Ry->qn,Ks->qp,Env->qr,St->qs,arr->qt,vM->qu,inf->qv,cJ->qw,f_->qx,sw->qy,bR->qz
open Or renaming inr->q9,inl->xc
open Go.Proofs.Tryz renaming prog->xd,results66->xf
open Go.World renaming cell?_of_block->xg
open Go.RowKit.Below renaming refl->xh,heap_setCell->xi
open Go.ByteArray renaming toList_eq->xj
open Go.Value renaming string->xk
open Go Go.RowKit Proofs.Tryz
variable {C:Array Value} {s st:BA} {rc:Bool} {g g1:gC} {Γ:qr} {z:In.Ft} {mk mks:qk} {ρ:In.Rn} {s1:qs} {ns:List BA} {l:List Dc} {L ms:List Nd} {T vs:List jc} {ex part uA:M Nd} {a b base e f i k k' lo n nb rb sort t vc xb:Nat} {cC:Nat->Nat} {F:Nat->Nd->M Nd} {D P S u:Nat->Prop} {m x y:Nd} {va:Option Addr} {row:Option Nat} {α β:Type} {v vl vm vr vv:Value} {c:WC} {w w' w1 w2:World}
section
open Go.ChangeMaps
def abA{d:M Dc}(h:bh (tk T k) my=true\/bh (tk T k) rB=true):bT T d (f+1) l k=aq d (λx=>bT T d f<|l++[x]) k:=by grind[bh,tk,bT,aq]
def We{d:M Dc}(h:bh (tk T k) my=false)(h':bh (tk T k) rB=false):bT T d f l k=.ok (l,k):=by
 cases f with
 |zero=>rfl|succ f=>unfold bT;rw[h,h'];rfl
def wW(T:List jc)(d:M Dc):∀f l,aR T<|bT T d f l
 |0,l=>λk h=>dc _ h|f+1,l=>λk h=>by unfold bT;rw[eD h,eD h,if_neg ag];exact dc _ h
theorem abB{mk}(hm:mQ mk):mQ (tQ T mk):=λk a k' h=>by
 rw[tQ]at h;have⟨_,k1,h1,h2⟩:=aB h;have⟨_,k2,h3,h4⟩:=aB h2;have⟨_,k3,h5,h6⟩:=aB h4;have⟨_,k4,h7,h8⟩:=aB h6;have⟨_,k5,h9,h10⟩:=aB h8;have⟨_,k6,h11,h12⟩:=aB h10
 cases h12
 have:=bA _ _ _ _ h1;have:=eH _ _ _ _ h3;have:=AO _ _ _ _ _ _ h5;have:=bA _ _ _ _ h7;have:=wU hm _ _ _ _ _ h9;have:=bA _ _ _ _ h11;omega
theorem abC{e}(hm:mQ e):mQ (wP T e):=λk a k' h=>by
 rw[wP]at h;have⟨_,k1,h1,h2⟩:=aB h;have⟨_,k2,h3,h4⟩:=aB h2
 cases h4
 have:=DH hm _ _ _ h1;have:=bA _ _ _ _ h3;omega
def abD T n:mQ (cT T n):=by grind[mQ,cT,abB,uH,cL,dq,abC,kQ]
def QD:EQ Dc:=λw P d c=>PD w P d<|c 0
def bS:gn QD:=by grind[gn,QD,PD.move]
def abE:(Tryz.prog.info? 129).map (λi=>(i.zero,i.size,i.bytes))=some (some .nilIface,1,16):=qkr
def OK:Tryz.prog.underlying 58=some (.slice 129):=qkr
def aet w:(zeroValue 283).run xd w=.ok .nilFunc w:=qkr
def ahZ w P l v:=RowV QD 1 w P l v
section
variable {N sb:Nat} {m:MV}
def SX.decl(h:SX w N rb sb m s k)(hb:m.a=Mv b):MS xk w b (Jj rb):=by
 have⟨b',e,_,_,hM⟩:=h.ev.mp.d;rw[hb]at e
 cases e
 exact hM
def SX.ma(h:SX w N rb sb m s k):∃b,m.a=Mv b:=by
 have⟨b',e,_,_,hM⟩:=h.ev.mp.d;exact⟨b',e⟩
def OL(hs:s.size<=1000)(hT:(ja s 0).length<=1001)(h:SX w N rb sb m s k)(hn:(ja s 0).length<=k+1+n)(hmd:m.a=Mv b):
 Cq 98 #[rp rb,Mv b] w (ap ahZ N rb sb m s (bT (ja s 0) (cT (ja s 0) n) (ja s 0).length [] k) w):=by
 obtain⟨r,hr⟩:∃r,r=bT (Pu.bG s 0) (cT (Pu.bG s 0) n) (Pu.bG s 0).length [] k:=⟨_,rfl⟩;rw[<-hr];have H:=cM.at h hr;clear h hr;go_enter func98,ntmps98
 go_wp2
 go_loopg[5] ((ja s 0).length-k) (λgk v wr=>EZ (λ_=>True) QD 129 1 N rb sb m s k w r (λf L _=>bT (ja s 0) (cT (ja s 0) n) f L) gk v wr)
 case atStart=>exact⟨k,[],(ja s 0).length,none,0,0,rfl,trivial,H.row bS (dC.nil _ _ _ _ _) ⟨br _,.inl rfl⟩,ai rfl,br _,ag,ae⟩
 case round=>
  clear H;obtain⟨kr,L,f,va,vc,_,rfl,-,H,dv,hle,hLl,hfu⟩:=hrel;have hM:=H.sx.decl hmd;have hl:=eE hM Tryz.underlying232 (aet wr)<|aw<|tk (ja s 0) kr;have YX:=H.sx.lt;have zw:=H.ke.size;have YW:=H.p.block;have⟨c,ff,z⟩:=H.sx.bx;have Y:(bh (tk (ja s 0) kr) my=false/\bh (tk (ja s 0) kr) rB=false)\/∃F,(∀args w,(callFunc F args).run xd w=.ok (.enter F args) w)/\aZ (aw<|tk (ja s 0) kr) (Jj rb)=some (oY F rb)/\Cq F #[rp rb] wr (ap PD N rb sb m s ((cT (ja s 0) n) kr) wr)/\(bh (tk (ja s 0) kr) my=true\/bh (tk (ja s 0) kr) rB=true):=by
   cases n0:bh (tk (ja s 0) kr) my
   .cases n1:bh (tk (ja s 0) kr) rB
    .exact .inl ⟨rfl,rfl⟩
    .exact .inr ⟨179,λ_ _=>qkr,by rw[gq n1];rfl,by rw[show(cT (ja s 0) n) kr=_ from if_neg (by simp[n0])];exact VY hs (aa9 hs hT n) H.sx ae,.inr rfl⟩
   .exact .inr ⟨178,λ_ _=>qkr,by rw[gq n0];rfl,by rw[show(cT (ja s 0) n) kr=_ from if_pos n0];exact OE hs hT H.sx ae,.inl rfl⟩
  obtain⟨n0,n1⟩|⟨F,ZB,hg,HC,hb⟩:=Y
  .have H:=H.re (g':=λk=>.ok (L,k))<|We n0 n1;simp only[tT (L:=Jj rb) (eM s kr YX) H.sx.ok (by simp[n0,n1];decide),lz]at hl
   go_wp2
   go_ret;exact H.done λR=>R.v bS
  .obtain⟨f,rfl⟩:∃f',f=f'+1:=⟨f-1,ae⟩;have H:=H.re<|abA hb;simp only[hg,lz]at hl;clear hg hb;go_wp2_with fail;refine H.call HC ?_ (st:=λa=>wW _ _ _ _);intro a k2 v w1 H q V;obtain⟨tv,xv,rfl⟩:=V.iface;have l2:=abD _ _ _ _ _ q;clear HC c ff z hl hM q;go_wp2_with(at_builtin;go_must(refine H.append (D:=[Fv tv<|Av xv]) hT bS abE OK H.p.1 zw (λb e=>(YW b e).2) (c:=λ_=>Fv tv<|Av xv) V ae ?_;intro q3 c3 w3 H));go_roundg((ja s 0).length-k2)
   case measure=>rw[uh dv];omega
   case rel=>exact⟨k2,L++[a],f,_,c3,0,ag,trivial,H,ai rfl,ae,bP,ae⟩
def akh w P l(v:Value):=∃u,v=.agg #[u]/\RowV QD 1 w P l u
def Wg(hs:s.size<=1000)(hT:(ja s 0).length<=1001)(h:SX w N rb sb m s k)(hn:(ja s 0).length<=k+1+n):
 Cq 67 #[rp rb] w (ap akh N rb sb m s (bT (ja s 0) (cT (ja s 0) n) (ja s 0).length [] k) w):=by
 obtain⟨b,hma⟩:=h.ma;have hz:=h.z;have hNw:=h.ev.hN;have⟨b0,B0⟩:=sd w #[.slice none 0 0] 60;have HC:=OL (n:=n) hs hT (h.af b0) hn hma;obtain⟨c,f,z⟩:=(h.af b0).bx;go_enter func67,ntmps67;go_wp2_with fail;refine HC.mono ?_;intro e w1 hp
 cases hA:fin (ja s 0) (bT (ja s 0) (cT (ja s 0) n) (ja s 0).length [] k)with
 |error f=>
  obtain⟨rfl,hb⟩:=hp.bad hA;exact⟨rfl,ap.fail ((Ke.of b0).trans hb) hA⟩
 |ok rr=>
 obtain⟨l,k1⟩:=rr;obtain⟨v,rfl,hb,S1,hR⟩:=hp.ok hA;have RV:=(RowV.move hR bS (br _) (λ_ _ _=>rfl)<|λb p _=>by simpa using p);obtain⟨va,vc,cs,rfl,_,_⟩:=hR;have B1:=ai (B0.xG hb<|by omega);have K1:=(Ke.of b0).trans hb;have HE:=ai (uN hA).1;obtain⟨c,f,z⟩:=uh B1;go_wp2_with fail;obtain⟨cF,fF,zF⟩:=B1.aP 0 (.slice va l.length vc) #[.slice va l.length vc] rfl (by simp);exact bodyPost_ret (v:=.agg #[.slice va l.length vc]) (by simp[results,Tryz.results67,go_sem,cF]) rfl (ap.done HE (K1.o9 (br _) 0 _) (S1.set (b:=w.heap.size) hNw 0 _) ⟨_,rfl,(RV.uI bS (b:=w.heap.size) (λc p=>by have p':w.heap.size+1<=c:=p;omega) 0 _).move bS (br _) (λ_ _ _=>rfl) (λb p _=>by have p':w.heap.size+1<=b:=p;show w.heap.size<=b;omega)⟩)
end
def vH b(hB:Bx w b zF)f:
 CallsD xd 95 #[Pv b] (.panicking [{v:=guV f,recovered:=false}]) w λe u' w'=>
  e=.returned (.tuple #[])/\u'=.panicking [{v:=guV f,recovered:=true}]/\Bx w' b #[Nv f.kind,Nv f.ak,Nv f.to]/\Below b w w':=by
 have hta:=YQ;have B0:=ai hB;obtain⟨c,ff,z⟩:=hB;refine callsD_of_wpS Tryz.func95 rfl λeY cs hu=>?_;apply wpS_seq;apply wpS_region;simp[wpOpsS,go_sem,recoverD,hu,Tryz.ntmps95,Exit.thenS];rw[show(#[Pv b]++((Array.replicate 16 undef).setIfInBounds 3<|guV f).setIfInBounds 0 (guV f))=#[Pv b,guV f,undef,undef,guV f,undef,undef,undef,undef,undef,undef,undef,undef,undef,undef,undef,undef]from rfl];obtain⟨CS,Hu⟩:∃CS:List Frame,CS=({fn:=eY.fn,tmps:=eY.tmps,todo:=eY.todo,defers:=eY.defers,mode:=FrameMode.panicking [{v:=guV f,recovered:=true}],kind:=eY.kind,roundOf:=eY.roundOf}::cs):=⟨_,rfl⟩;rw[<-Hu];refine wpS_of_wp ?_;go_wp2_with fail;refine⟨rfl,_,Hu,.tuple #[],by simp[results,Tryz.results95,go_sem],rfl,rfl,?_,?_⟩
 .exact((B0.oZ rfl _ _ _).alloc _)
 .exact((((xh b w).setCell (br _) _).setCell (br _) _).setCell (br _) _).alloc (by simp[World.setCell];omega) _
def aeu b:
 CallsD xd 95 #[Pv b] .returning w λe u' w'=>
  e=.returned (.tuple #[])/\u'=.returning/\w'=w:=by
 refine callsD_of_wpS Tryz.func95 rfl λeY cs hu=>?_;apply wpS_seq;apply wpS_region;simp[wpOpsS,go_sem,recoverD,hu,Tryz.ntmps95,Exit.thenS];rw[show(#[Pv b]++((Array.replicate 16 undef).setIfInBounds 3 Zv).setIfInBounds 0 Zv)=#[Pv b,Zv,undef,undef,Zv,undef,undef,undef,undef,undef,undef,undef,undef,undef,undef,undef,undef]from rfl];have Hu:eY::cs={eY with mode:=.returning}::cs:=(by cases eY;simp at hu;subst hu;rfl);refine wpS_of_wp ?_
 go_wp2
 exact⟨rfl,_,Hu,.tuple #[],by simp[results,Tryz.results95,go_sem],rfl,rfl,rfl⟩
def OM(T:List jc)l:aR T (nF T l):=λk h=>by rw[nF];rw[if_neg ae];rfl
def DP(hs:¬400<s.size){f}(h:fin (ja s 0) (bT (ja s 0) (cT (ja s 0) (ja s 0).length) (ja s 0).length [] 0)=.error f):bX s=.error f:=by
 unfold bX;rw[if_neg hs];have:=b_ h<|λl=>OM (ja s 0) l;unfold fin at this;split at this
 .rename_i e;cases this;rw[e]
 .rename_i a k e;split at this
  .rename_i h6;exfalso;have⟨l,j,_,h2⟩:=aB e;unfold nF at h2;split at h2
   .cases h2;omega
   .cases h2
  .cases this
def abF(hs:¬400<s.size)(h:fin (ja s 0) (bT (ja s 0) (cT (ja s 0) (ja s 0).length) (ja s 0).length [] 0)=.ok (l,k)):bX s=if(tk (ja s 0) k).kind=7 then .ok l else .error (dM<|tk (ja s 0) k):=by grind[fin,bT,cT,bX,tk,dM,nj,nF]
def pI s w(e:Ending)w':=
 ∃u f,e=.returned (.tuple #[.agg #[u],Mb f])/\Bq w w'/\match bX s with
  |.error f'=>f=f'/\u=.slice none 0 0|.ok l=>f=sF/\RowV QD 1 w' (λb=>w.heap.size<=b) l u
abbrev ON:Array Value:=#[.slice none 0 0]
theorem Lj s(hs:400<s.size):Cq 66 #[.string s,.func (.func 67) #[] #[]] w (pI s w):=by
 have h1:(400:Int)<(s.size:Int):=ae;have hp:Hid (bX s=.error ⟨1,0,0⟩):=by show _=_;simp[bX,hs]
 have B0:=(Bx.new w ON 60).alloc<|Cv zF 30;have F0:Bx ((w.alloc<|Cv ON 60).alloc<|Cv zF 30) (w.heap.size+1) zF:=by have:=Bx.new (w.alloc<|Cv ON 60) zF 30;simpa using this
 obtain⟨c,f,z⟩:=B0;obtain⟨c',f',z'⟩:=F0
 go_enter_defers Tryz.func66,Tryz.ntmps66
 go_wp2_with fail;simp[bodyPostD,Leaves,settle,results,xf,go_sem];refine⟨_,⟨1,0,0⟩,rfl,(bw _).alloc ag _,?_⟩;rw[uh hp];exact⟨rfl,rfl⟩
theorem abG(h:Laid w)s(hs:¬400<s.size)(hT:(ja s 0).length<=1001):Calls xd 66 #[.string s,.func (.func 67) #[] #[]] w (pI s w):=by
 have h1:decide ((400:Int)<(s.size:Int))=false:=bP;have lf:s.size<=1000:=ae;have hT0:0<(ja s 0).length:=by
  rw[mw s 0<|jq _];split<;>simp
 have B0:=(Bx.new w ON 60).alloc<|Cv zF 30;have F0:Bx ((w.alloc<|Cv ON 60).alloc<|Cv zF 30) (w.heap.size+1) zF:=by have:=Bx.new (w.alloc<|Cv ON 60) zF 30;simpa using this
 have cz:Below w.heap.size w ((w.alloc<|Cv ON 60).alloc<|Cv zF 30):=(bw _).alloc ag _;have oh:((w.alloc<|Cv ON 60).alloc<|Cv zF 30).heap.size=w.heap.size+2:=ag;have HL:=h.af cz
 go_enter_defers Tryz.func66,Tryz.ntmps66
 go_wp2_with fail;refine(Jn HL s lf).mono ?_;intro e w1 hp;obtain⟨ah0,hp⟩:=hp;rw[oh]at hp;have B1:=B0.below ah0;have F1:=F0.below ah0;have eN:=cz.trans<|ah0.mono cz.size;have et:=jJ s 0 hT0;rw[show aS (ja s 0) 0=0 from rfl]at et;have z1:=ah0.size;rw[oh]at z1;obtain⟨h6,rfl,N,sb,m,X1,E1⟩|⟨h6,rfl⟩:=hp
 .rw[<-et]at X1 h6;have S1:SX w1 N (w.heap.size+2) sb m s 0:=⟨by rw[show aS (ja s 0) 0=0 from rfl];exact X1,E1,hT0,h6⟩;have HA:=Wg (n:=(ja s 0).length) lf hT S1 ae;have hrb:=S1.z;go_wp2_with fail;refine HA.mono ?_;intro e w2 hp
  cases hA:fin (ja s 0) (bT (ja s 0) (cT (ja s 0) (ja s 0).length) (ja s 0).length [] 0)with
  |error f=>
   obtain⟨rfl,K2⟩:=hp.bad hA;have eA:=K2.low eN eN.size ae;refine leaves_cons (f:=95) (args:=#[.pointer<|some ⟨w.heap.size+1,0,none⟩]) ag qBb ?_;refine(vH (w.heap.size+1) (F1.xG K2 ae)<|f).mono ?_;rintro e u' w9⟨rfl,rfl,hB,hb⟩;obtain⟨c9,_,_⟩:=hB;have P9:=(B1.xG K2 ae).same hb.size<|hb.block w.heap.size<|ju _;obtain⟨d9,_,_⟩:=P9;simp[Leaves,settle,results,xf,go_sem,c9,d9];refine⟨_,f,rfl,eA.trans<|hb.mono<|jt _,?_⟩;rw[DP hs hA];exact⟨rfl,rfl⟩
  |ok r=>
  obtain⟨l,k⟩:=r;obtain⟨v,rfl,K2,S2,u,rfl,RV⟩:=hp.ok hA;have eA:=K2.low eN eN.size ae;have z2:=K2.size;have hrd:=abF hs hA;have hk:=S2.lt;have ho:=eM s k hk;have hke:=Zh ho S2.ok;have⟨oJ,R3⟩:=sd w2 #[u] 60;have B3:=(B1.xG K2 ae).below oJ;have F3:=(F1.xG K2 ae).below oJ;have HS3:=S2.af oJ;have y8:=eA.trans<|oJ.mono eA.size;have RV3:RowV QD 1 (w2.alloc<|Cv #[u] 60) (λb=>w1.heap.size<=b/\b<w2.heap.size) l u:=RV.move bS oJ.size (λb _ z=>oJ.block b z)<|λb p z=>⟨p,z⟩;have z3:(w2.alloc<|Cv #[u] 60).heap.size=w2.heap.size+1:=ag;obtain⟨va,vc,cs,hu,_,_⟩:=RV;subst hu;have alK:=ai RV3;by_cases h7:(tk (ja s 0) k).kind=7
  .have t7:((aw<|tk (ja s 0) k).toList==Du.toList)=true:=by rw[show Du.toList=[116,104,101,32,101,110,100]from toList_mk _,hke];simp[h7]
   go_wp2_with fail;refine(kO HS3.rd lf (pd s k hk) Du t7).mono ?_;intro e w3 hp;obtain⟨rfl,K3,R4⟩:=hp.ok<|aaB hk h7;have zk:=K3.size;have B4:=B3.xG K3 ae;have F4:=F3.xG K3 ae;have R5:=R3.xG K3 ae;have HBB:=K3.low y8 y8.size ae;have alL:=alK.move bS K3.size (λb p z=>K3.block b z ae)<|λ_ p _=>p;have alM:=ai B4;have alN:=ai F4;obtain⟨c3,f3,y3⟩:=R5;obtain⟨c4,f4,y4⟩:=B4;obtain⟨c5,f5,y5⟩:=F4;go_wp2_with fail;have B6:=(((alM.aP 0 (Lv va l.length vc) #[Lv va l.length vc] rfl ag).bV (b2:=w.heap.size+1) ae 0 (.int .i64 0)).bV (b2:=w.heap.size+1) ae 1 (.int .i64 0)).bV (b2:=w.heap.size+1) ae 2 (.int .i64 0);have F6:=(alN.bV (b2:=w.heap.size) ae 0<|Lv va l.length vc).oZ rfl (.int .i64 0) (.int .i64 0) (.int .i64 0);have RV6:=((((alL.uI bS (b:=w.heap.size) (λc p=>ae) 0<|Lv va l.length vc).uI bS (b:=w.heap.size+1) (λc p=>ae) 0<|.int .i64 0).uI bS (b:=w.heap.size+1) (λc p=>ae) 1<|.int .i64 0).uI bS (b:=w.heap.size+1) (λc p=>ae) 2<|.int .i64 0).move bS (br _) (λ_ _ _=>rfl) (P':=λb=>w.heap.size<=b)<|λb p _=>ae
   have HB6:=(((HBB.setCell (p:=⟨w.heap.size,0,none⟩) (br _)<|Lv va l.length vc).setCell (p:=⟨w.heap.size+1,0,none⟩) (jt _)<|.int .i64 0).setCell (p:=⟨w.heap.size+1,1,none⟩) (jt _)<|.int .i64 0).setCell (p:=⟨w.heap.size+1,2,none⟩) (jt _)<|.int .i64 0;refine leaves_cons (f:=95) (args:=#[.pointer<|some ⟨w.heap.size+1,0,none⟩]) ag qBb ?_;refine(aeu<|w.heap.size+1).mono ?_;rintro e u' w9⟨rfl,rfl,rfl⟩;obtain⟨c7,_,_⟩:=B6;obtain⟨c8,_,_⟩:=F6;simp[Leaves,settle,results,xf,go_sem,c7,c8];refine⟨_,sF,rfl,HB6,?_⟩;rw[hrd,if_pos h7];exact⟨rfl,RV6⟩
  .have t7:((aw<|tk (ja s 0) k).toList==Du.toList)=false:=by rw[show Du.toList=[116,104,101,32,101,110,100]from toList_mk _,hke];simp[h7]
   go_wp2_with fail;refine(Ff HS3.rd Du t7 HS3.ok).mono ?_;rintro e w3⟨rfl,K3⟩;have HB4:=K3.low y8 y8.size ae;rw[if_neg h7]at hrd;refine leaves_cons (f:=95) (args:=#[.pointer<|some ⟨w.heap.size+1,0,none⟩]) ag qBb ?_;refine(vH (w.heap.size+1) (F3.xG K3 ae)<|dM<|tk (ja s 0) k).mono ?_;rintro e u' w9⟨rfl,rfl,hB,hb⟩;obtain⟨c9,_,_⟩:=hB;have P9:=(B3.xG K3 ae).same hb.size<|hb.block w.heap.size<|ju _;obtain⟨d9,_,_⟩:=P9;simp[Leaves,settle,results,xf,go_sem,c9,d9];refine⟨_,dM<|tk (ja s 0) k,rfl,HB4.trans<|hb.mono<|jt _,?_⟩;rw[hrd];exact⟨rfl,rfl⟩
 .rw[<-et]at h6⊢;have jU:fin (ja s 0) (bT (ja s 0) (cT (ja s 0) (ja s 0).length) (ja s 0).length [] 0)=.error (dM<|tk (ja s 0) 0):=wW _ _ _ _ 0 h6;refine leaves_cons (f:=95) (args:=#[.pointer<|some ⟨w.heap.size+1,0,none⟩]) ag qBb ?_;refine(vH (w.heap.size+1) F1<|dM<|tk (ja s 0) 0).mono ?_;rintro e u' w9⟨rfl,rfl,hB,hb⟩;obtain⟨c9,_,_⟩:=hB;have P9:=B1.same hb.size<|hb.block w.heap.size<|ju _;obtain⟨d9,_,_⟩:=P9;simp[Leaves,settle,results,xf,go_sem,c9,d9];refine⟨_,dM<|tk (ja s 0) 0,rfl,eN.trans<|hb.mono<|jt _,?_⟩;rw[DP hs jU];exact⟨rfl,rfl⟩
def OO(h:Laid w)s:Cq 66 #[.string s,.func (.func 67) #[] #[]] w (pI s w):=by grind[pI,Lj,abG,aaC]
def UH(h:Laid w)s:Cq 41 #[.string s] w (pI s w):=by
 have cz:Bq w ((w.alloc<|Cv ON 60).alloc<|Cv zF 30):=(bw _).alloc ag _;have oh:((w.alloc<|Cv ON 60).alloc<|Cv zF 30).heap.size=w.heap.size+2:=ag;have B0:=(Bx.new w ON 60).alloc<|Cv zF 30;have F0:Bx ((w.alloc<|Cv ON 60).alloc<|Cv zF 30) (w.heap.size+1) zF:=(by have:=Bx.new (w.alloc<|Cv ON 60) zF 30;simpa using this);have HC:=OO (h.af cz) s;go_enter func41,ntmps41;go_wp2_with fail;refine HC.mono ?_;rintro e w1⟨u,f,rfl,dA,hp⟩;have B1:=B0.below dA;have F1:=F0.below dA;have B2:=(((B1.aP 0 u #[u] rfl ag).bV (b2:=w.heap.size+1) ae 0 (Nv f.kind)).bV (b2:=w.heap.size+1) ae 1 (Nv f.ak)).bV (b2:=w.heap.size+1) ae 2 (Nv f.to);have F2:=(F1.bV (b2:=w.heap.size) ae 0 u).oZ rfl (Nv f.kind) (Nv f.ak) (Nv f.to);have eA:=((((cz.trans<|dA.mono cz.size).setCell (p:=⟨w.heap.size,0,none⟩) (br _) u).setCell (p:=⟨w.heap.size+1,0,none⟩) (Nat.le_succ _)<|Nv f.kind).setCell (p:=⟨w.heap.size+1,1,none⟩) (Nat.le_succ _)<|Nv f.ak).setCell (p:=⟨w.heap.size+1,2,none⟩) (Nat.le_succ _)<|Nv f.to;obtain⟨va,vc,n,hu⟩:∃va vc n,u=Lv va n vc:=by
  cases hr:bX s with
  |error f'=>rw[hr]at hp;exact⟨_,_,_,hp.2⟩|ok l=>rw[hr]at hp;have⟨va,vc,cs,e,_⟩:=hp.2;exact⟨_,_,_,e⟩
 subst hu;obtain⟨c1,f1,z1⟩:=B1;obtain⟨c2,f2,z2⟩:=F1;have Hp:=ai hp;rw[Mb];go_wp2_with fail;obtain⟨c3,f3,z3⟩:=B2;obtain⟨c4,f4,z4⟩:=F2;refine bodyPost_ret (v:=.tuple #[Av #[Lv va n vc],Mb f]) (by simp[results,Tryz.results41,go_sem,Mb,c3,c4]) rfl ⟨Lv va n vc,f,rfl,eA,?_⟩;have hp:=uh Hp
 cases hr:bX s with
 |error f'=>rw[hr]at hp;exact hp|ok l=>
  rw[hr]at hp;rw[oh]at hp;have q:∀c,w.heap.size+2<=c->c≠w.heap.size:=λc h=>ae;have q':∀c,w.heap.size+2<=c->c≠w.heap.size+1:=λc h=>ae;exact⟨hp.1,((((hp.2.uI bS (b:=w.heap.size) q 0 _).uI bS (b:=w.heap.size+1) q' 0 _).uI bS (b:=w.heap.size+1) q' 1 _).uI bS (b:=w.heap.size+1) q' 2 _).move bS (br _) (λ_ _ _=>rfl) (λb p _=>by have p':w.heap.size+2<=b:=p;show w.heap.size<=b;omega)⟩
end
section
open Un
def qC(hi:i<b)(hb:b<=s.size):∃x r,(s.extract i b).toList=x::r/\x.toNat=jk s i/\∀p:Nat->Bool,(∀j,i<j->j<b->p (jk s j)=true)->∀y∈r,p y.toNat=true:=by
 have hl:(s.extract i b).toList.length=b-i:=by
  rw[xj];show(s.extract i b).size=_;rw[ByteArray.size_extract];omega
 have hg:∀j(h:j<(s.extract i b).toList.length),((s.extract i b).toList[j]).toNat=jk s (i+j):=λj h=>by
  rw[<-Zo s i b j hb ae,Pu.o_ qBo];simp only[xj,ByteArray.getElem_eq_getElem_data,Array.getElem_toList]
 cases hc:(s.extract i b).toList with
 |nil=>grind|cons x r=>
  refine⟨x,r,rfl,?_,λp hp y hy=>?_⟩
  .have:=hg 0 ae;simp only[hc]at this;simpa using this
  .obtain⟨j,hj,rfl⟩:=List.getElem_of_mem hy;rw[hc]at hl;simp at hl;have:=hg (j+1) (by rw[hc];simp;omega);simp only[hc]at this;simp only[List.getElem_cons_succ]at this;rw[this];exact hp _ ae ae
def Lk(s:BA):∀k,(∀i,i<k->Pu.dV (jk s i)=true)->xH s k<10^k
 |0,_=>by simp[xH]|k+1,h=>by
  have h1:=Lk s k<|λi hi=>h i ae;have h2:=h k ae;simp[Pu.dV]at h2;have:(jk s k+208)%256<=9:=ae;simp only[xH,Nat.pow_succ];omega
def aev(h:adh s):yQ s<1000000000:=by
 rw[yQ];obtain⟨h1,h2,h3⟩:=h;rw[Nat.min_eq_left h2];have:=Lk s s.size h3;have h4:(10:Nat)^s.size<=10^9:=Nat.pow_le_pow_right aH h2;omega
def abH s{x}{r}(h:s.toList=x::r):(⟨(x::r).toArray⟩:BA)=s:=by grind[toList_inj,toList_mk]
def aew s(hs:s.size<=400)i(hi:i<s.size):agk (jh s i):=by
 have ru:=Jm s i hi;have ht:=jl s i hi;have hf:=ji s i;have fW:(jh s i).text.size<=400:=by have:=ru.sp;omega
 refine⟨λk1=>?_,λk2=>?_,λk3=>?_,λk4=>aev<|ru.v4 k4,fW⟩
 .clear ru fW;revert k1 ht hf;rw[jh];repeat' split
  all_goals intro ht hf k1
  all_goals try(exfalso;simp[jj]at k1;done)
  rename_i h1 h2;simp only[jj]at ht;have⟨x,r,e1,e2,e3⟩:=qC ht.1 ht.2;refine⟨x,r,e1,by rw[e2];exact h1,e3 _<|λj a b=>p8 (j-i) i j rfl ae b,?_⟩;rw[abH _ e1];simpa using h2
 .clear ru fW;revert k2 ht hf;rw[jh];repeat' split
  all_goals intro ht hf k2
  all_goals try(exfalso;simp[jj]at k2;done)
  rename_i h1 h2;simp only[jj]at ht;have⟨x,r,e1,e2,e3⟩:=qC ht.1 ht.2;exact⟨x,r,e1,by rw[e2];exact h2,e3 _<|λj a b=>p8 (j-i) i j rfl ae b⟩
 .clear ru fW;revert k3 ht hf;rw[jh];repeat' split
  all_goals intro ht hf k3
  all_goals try(exfalso;simp[jj]at k3;done)
  rename_i h1 h2 h3 h4;simp only[jj]at ht;have⟨x,r,e1,e2,e3⟩:=qC ht.1 ht.2;have bz:i+1<Pu.aG s jm (i+1):=by
   have hi1:i+1<s.size:=by
    obtain q|q:=Nat.lt_or_ge (i+1) s.size
    .exact q
    .have:=h3.2;rw[Pu.QE q]at this;simp[Pu.gI]at this
   rw[Pu.fP hi1<|by simp[jm,h3.2]];have:=jo s jm<|i+1+1;omega
  have⟨y,r',e1',e2',e3'⟩:=qC bz ht.2;have e39:x=39:=UInt8.toNat_inj.1 (by rw[e2,h3.1];rfl);have er:r=y::r':=by
   have q1:=jI hi ht.1;rw[e1,e1']at q1;injection q1 with _ q2
  refine⟨y,r',by show(s.extract i _).toList=_;rw[e1,e39,er],by rw[e2'];exact h3.2,e3' _<|λj a b=>p8 (j-(i+1)) (i+1) j rfl ae b,?_⟩;rw[abH _ e1'];simpa using h4
def qD(s:BA):∀f i t,t∈jd s f i->(∃j,j<s.size/\t=jh s j)\/t=jf s
 |0,i,t,h=>q9 (by simpa[jd]using h)|f+1,i,t,h=>by
  rw[jd]at h;split at h
  .rename_i hi;split at h
   .exact qD s f _ t h
   .obtain rfl|h:=List.mem_cons.1 h
    .exact xc ⟨i,hi,rfl⟩
    .exact qD s f _ t h
  .exact q9 G_
def lG(s:BA):∀f i,∃l,jd s f i=l++[jf s]/\l.length<=f
 |0,i=>⟨[],rfl,ag⟩|f+1,i=>by
  rw[jd];split
  .split
   .have⟨l,h1,h2⟩:=lG s f<|i+1;exact⟨l,h1,ae⟩
   .have⟨l,h1,h2⟩:=lG s f (jh s i).to;exact⟨jh s i::l,by rw[h1];rfl,bP⟩
  .exact⟨[],rfl,ag⟩
def abI(T:List jc)k:tk T k∈T\/tk T k=⟨7,⟨#[]⟩,0,0⟩:=by grind[tk]
def Ll(t:jc)(h7:t.kind=7)(hz:t.text.size<=400):agk t:=⟨by simp[h7],by simp[h7],by simp[h7],by simp[h7],hz⟩
def tX s(hs:s.size<=400):dU (ja s 0) ((ja s 0).length-1)/\(ja s 0).length<=401:=by
 have⟨l,h1,h2⟩:=lG s (s.size-0) 0;have e:ja s 0=l++[jf s]:=h1;refine⟨⟨?_,λk=>?_,by rw[e];simp⟩,by rw[e];simp;omega⟩
 .rw[e];rw[tk];simp[jf]
 .obtain q|q:=abI (ja s 0) k
  .obtain⟨j,hj,q⟩|q:=qD s _ _ _ q
   .rw[q];exact aew s hs j hj
   .rw[q];exact Ll _ rfl (by simp[jf];decide)
  .rw[q];exact Ll _ rfl aH
def aex{f}(h:aiY (ja s 0) f):f.kind%6≠0/\f.ak<=f.to/\f.to<=s.size:=by
 obtain⟨k,rfl⟩:=h;refine⟨by rw[dM];split<;>simp,?_⟩;have:(tk (ja s 0) k).ak<=(tk (ja s 0) k).to/\(tk (ja s 0) k).to<=s.size:=by
  obtain q|q:=abI (ja s 0) k
  .obtain⟨j,hj,q⟩|q:=qD s _ _ _ q
   .rw[q,ji];have:=jl s j hj;omega
   .rw[q];simp[jf]
  .rw[q];simp
 rw[dM];split<;>exact this
def D3:Dc->Prop
 |.ty t vs ms=>Iu t.text/\t.text.size<=400/\(∀v∈vs,NmV v.text/\v.text.size<=400)/\ms≠[]/\∀m∈ms,GX sI m|.lt r t b=>xX t.text/\t.text.size<=400/\eK b/\(r=true->Fn3 b)
def Jb:Dc->Nat
 |.ty _ vs ms=>1+vs.length+ck ms|.lt _ _ b=>1+nn b
def AZ(h:dU T e):∀f l k,k<=e->jV T (iM T f l k) (λl' k'=>∃vs,l'=l++vs/\(∀v∈vs,NmV v.text/\v.text.size<=400)/\k<=k'/\k'<=e/\vs.length=k'-k)
 |0,l,k,hk=>⟨[],ag,ag,br _,hk,ag⟩|f+1,l,k,hk=>by
  unfold iM;split
  .rename_i h3;refine(AZ h f _ (k+1)<|h.step hk ae).mono ?_;rintro l' k'⟨vs,rfl,a1,a2,a3,a4⟩
   exact⟨tk T k::vs,ag,λv hv=>by
    obtain rfl|hv:=List.mem_cons.1 hv
    .exact⟨(h.tok k).var h3,(h.tok k).sz⟩
    .exact a1 v hv,ae,a3,bP⟩
  .exact⟨[],ag,ag,br _,hk,ag⟩
def abJ(h:dU T e){sm}(hm:oK T e sI sm):oK T e (GX sI) (ch T sm):=by
 intro k hk;rw[ch];refine(dN h hk 2 aH).aq ?_;rintro t k1⟨rfl,t1,rfl,p1⟩;refine(uC h hm T.length _ (k+1) p1 ⟨_,[],_,_,_,rfl,(h.tok k).up t1,(h.tok k).sz,ag⟩).mono ?_;rintro a k'⟨q1,q2,q3,q4⟩;simp only[nn,ck]at q4;exact⟨q1,ae,q3,ae⟩
def A8(h:dU T e){mk:M Nd}(hm:oK T e (GX sI) mk):∀f l k,k<=e->jV T (cZ T mk f l k) (λl' k'=>∃ms,l'=l++ms/\(∀m∈ms,GX sI m)/\(f≠0->ms≠[])/\k<=k'/\k'<=e/\ck ms<=2*(k'-k))
 |0,l,k,hk=>⟨[],ag,ag,ag,br _,hk,by simp[ck]⟩|f+1,l,k,hk=>by
  rw[h_];refine(hm k hk).aq ?_;rintro m k1⟨a1,a2,a3,a4⟩;rw[ie];split
  .rename_i hc;refine(A8 h hm f _ (k1+1)<|h.step a3 Bo).mono ?_;rintro l' k2⟨ms,rfl,c1,_,c3,c4,c5⟩;refine⟨m::ms,ag,λq hq=>?_,ag,ae,c4,by simp[ck];omega⟩;obtain rfl|hq:=List.mem_cons.1 hq
   .exact a1
   .exact c1 q hq
  .exact⟨[m],rfl,by simpa using a1,ag,ae,a3,by simp[ck];omega⟩
def SpD e k d k':=D3 d/\k<k'/\k'<=e/\Jb d<=2*(k'-k)
def aey(h:dU T e)n(hk:k<=e):jV T (cT T n k) (SpD e k):=by
 have ht:=El h n;rw[cT];split
 .rw[tQ];refine(aI h hk my).aq ?_;rintro _ k1⟨rfl,p1⟩;refine(dN h p1 2 aH).aq ?_;rintro t k2⟨rfl,t1,rfl,p2⟩;refine(AZ h T.length [] _ p2).aq ?_;rintro l k3⟨vs,rfl,v1,v2,v3,v4⟩;refine(aI h v3 BI).aq ?_;rintro _ k4⟨rfl,p4⟩;refine(A8 h (abJ h<|oL h (X8 h) ht ht) T.length [] _ p4).aq ?_;rintro l k5⟨ms,rfl,m1,m2,m3,m4,m5⟩;refine(aI h m4 mD).aq ?_;rintro _ k6⟨rfl,p6⟩;exact⟨⟨(h.tok _).up t1,(h.tok _).sz,by simpa using v1,by simpa using m2 (by have:=h.pos;omega),by simpa using m1⟩,ae,p6,by simp[Jb];omega⟩
 .rw[wP];refine(yV h (Ep h n) hk).aq ?_;rintro⟨c,t,x⟩k1⟨⟨s1,s2,s3⟩,p2,p3,p4⟩;refine(aI h p3 mD).aq ?_;rintro _ k2⟨rfl,p5⟩;simp only at s3 p4;refine⟨⟨s1,s2,?_,?_⟩,ae,p5,by simp[Jb];omega⟩
  .obtain⟨_,q⟩|⟨_,q⟩:=s3
   .exact q
   .exact q.ex
  .grind
def BV(l:List Dc):Nat:=(l.map Jb).sum
def GH{p:Prop}(h:p:=by
 obtain q|q:=List.mem_append.1 hx
 .exact hl x q
 .rw[List.mem_singleton.1 q];exact a1):p:=h
def DQ(h:dU T e)(n:Nat):∀f l k,k<=e->(∀d∈l,D3 d)->jV T (bT T (cT T n) f l k) (λl' k'=>(∀d∈l',D3 d)/\k<=k'/\k'<=e/\BV l'<=BV l+2*(k'-k))
 |0,l,k,hk,hl=>⟨hl,br _,hk,ae⟩|f+1,l,k,hk,hl=>by
  unfold bT;split
  .refine(aey h n hk).aq ?_;rintro d k1⟨a1,a2,a3,a4⟩;refine(DQ h n f _ k1 a3 ?_).mono ?_
   .intro x hx;exact GH
   .rintro l' k2⟨b1,b2,b3,b4⟩;have:BV (l++[d])=BV l+Jb d:=by simp[BV]
    exact⟨b1,ae,b3,ae⟩
  .exact⟨hl,br _,hk,ae⟩
def pZ(hs:¬400<s.size):match bX s with
 |.error f=>f.kind%6≠0/\f.ak<=f.to/\f.to<=s.size|.ok l=>(∀d∈l,D3 d)/\BV l<=802:=by
 have⟨h,hl⟩:=tX s ae
 have h1:=(DQ h (ja s 0).length (ja s 0).length [] 0 (jq _) ag).aq (f:=nF<|ja s 0) (R:=λl' k'=>(∀d∈l',D3 d)/\BV l'<=802) (by
  rintro l' k'⟨a1,a2,a3,a4⟩;rw[nF];split
  .exact⟨a1,by simp[BV]at a4⊢;omega⟩
  .exact bZ)
 rw[bX];rw[if_neg hs];revert h1
 cases aq (bT (ja s 0) (cT (ja s 0) (ja s 0).length) (ja s 0).length []) (nF<|ja s 0) 0 with
 |error f=>intro h1;exact aex h1|ok p=>intro h1;exact h1
def aez s k(hk:k+1<(ja s 0).length):(tk (ja s 0) k).ak<=(tk (ja s 0)<|k+1).ak:=by
 have h1:=Qw s k ae;have h2:=pd s k ae;rw[jJ s (k+1) hk,show aS (ja s 0) (k+1)=(tk (ja s 0) k).to from rfl];rw[aD];split
 .rw[ji];have:=jo s dJ (tk (ja s 0) k).to;omega
 .show _<=s.size;omega
def abK(s:BA):∀d k,k+d<(ja s 0).length->(tk (ja s 0) k).ak<=(tk (ja s 0)<|k+d).ak
 |0,_,_=>br _|d+1,k,h=>jp (abK s d k ae)<|aez s (k+d) ae
structure jQ(T:List jc)e:Prop where
 g:dU T e
 top:∀i,(tk T i).ak<=400
 qE:∀i j,i<=j->j<=e->(tk T i).ak<=(tk T j).ak
def aeA s(hs:s.size<=400):jQ (ja s 0) ((ja s 0).length-1):=
 ⟨(tX s hs).1,λi=>by
   by_cases hi:i<(ja s 0).length
   .have h1:=Qw s i hi;have h2:=pd s i hi;omega
   .rw[tk];rw[j5,j8 ae];exact jq _,λi j h1 h2=>by
   have:=abK s (j-i) i (by have:=(tX s hs).1.pos;omega)
   rwa[show i+(j-i)=j by omega]at this⟩
def rl(T:List jc)e(m:M Nd):=∀k,k<=e->jV T (m k) (λa k'=>Ge (tk T k).ak a/\k<k'/\k'<=e)
def GI{lo:Nat}:∀{l m:List Nd},Kh lo l->Kh lo m->Kh lo (l++m)
 |[],_,_,h=>h|_::_,_,g,h=>⟨g.1,GI g.2 h⟩
def Ge.add{u}(hx:Ge lo x)(hy:Ge lo y):Ge lo (x.add y u):=by
 cases x
 exact⟨hx.1,hx.2.1,GI hx.2.2 ⟨hy,trivial⟩⟩
def SN{p:Prop}(h:p:=by
 rintro y k2⟨q1,q2,q3⟩;refine(mg h.g q3 _).mono ?_;rintro a k3⟨rfl,rfl,r3⟩
 exact⟨⟨⟨br _,br _⟩,⟨h.top _,h.top _,jq _⟩,x1,q1.mono<|h.qE k (k1+1) ae mY,trivial⟩,ae,r3⟩):p:=h
def yw(h:jQ T e)(hp:rl T e part)(ht:rl T e uA):rl T e (aJ T part uA sort):=by
 intro k hk;rw[aJ];split
 .rename_i hb;have uB:=h.g.step hk<|yT hb;split
  .rw[g_];split
   .rename_i hc;have:=h.g.step uB qBn;exact⟨⟨⟨br _,br _⟩,⟨h.top _,h.top _,jq _⟩,trivial⟩,ae,this⟩
   .refine(hp (k+1) uB).aq ?_;rintro x k1⟨p1,p2,p3⟩;have x1:=p1.mono<|h.qE k (k+1) ae uB;rw[kB];split
    .rename_i hc;have mY:=h.g.step p3 Bo;refine(hp (k1+1) mY).aq ?_;exact SN
    .split
     .rename_i hc;have mY:=h.g.step p3 qBn;refine(ht (k1+1) mY).aq ?_;exact SN
     .refine(mg h.g p3 _).mono ?_;rintro a k3⟨rfl,rfl,r3⟩;exact⟨x1,ae,r3⟩
  .exact⟨⟨⟨br _,br _⟩,⟨h.top _,h.top _,(h.g.tok k).sz⟩,trivial⟩,ae,uB⟩
 .exact bZ
def iz{p:Prop}(h:p:=by
 rintro a k2⟨q1,q2,q3⟩
 exact⟨q1,ae,q3⟩):p:=h
def GK(h:jQ T e){sort lo:Nat}{sm:M Nd}(hm:rl T e sm):∀f x k,k<=e->lo<=(tk T k).ak->Ge lo x->jV T (cQ T sm sort f x k) (λa k'=>Ge lo a/\k<=k'/\k'<=e)
 |0,x,k,hk,_,hx=>⟨hx,br _,hk⟩|f+1,x,k,hk,hl,hx=>by
  unfold cQ;split
  .refine(hm k hk).aq ?_;rintro y k1⟨p1,p2,p3⟩;refine(GK h hm f _ k1 p3 (jp hl<|h.qE k k1 ae p3)<|hx.add<|p1.mono hl).mono ?_;exact iz
  .exact⟨hx,br _,hk⟩
def abL(h:jQ T e){sm:M Nd}(hm:rl T e sm):rl T e (gh T sm sort):=by
 intro k hk;rw[gh];split
 .refine(hm k hk).aq ?_;rintro x k1⟨p1,p2,p3⟩;refine(GK h hm T.length x k1 p3 (h.qE k k1 ae p3) p1).mono ?_;rintro a k'⟨q1,q2,q3⟩;exact⟨q1,ae,q3⟩
 .exact hm k hk
def abM(h:jQ T e):∀n,rl T e<|fy T n
 |0=>λk hk=>bZ|n+1=>λk hk=>by
  have ih:=abM h n;rw[fy];refine(abL h (yw h ih ih) k hk).aq ?_;rintro x k1⟨p1,p2,p3⟩;rw[lI];split
  .rename_i hc;have mY:=h.g.step p3 Bo;refine(ih (k1+1) mY).aq ?_;rintro y k2⟨q1,q2,q3⟩;exact⟨⟨⟨br _,br _⟩,⟨h.top _,h.top _,jq _⟩,p1,q1.mono<|h.qE k (k1+1) ae mY,trivial⟩,ae,q3⟩
  .exact⟨p1,p2,p3⟩
def afC(h:jQ T e):∀n,rl T e<|du T n
 |0=>λk hk=>bZ|n+1=>λk hk=>by
  rw[du];exact abL h (yw h (afC h n)<|λk _=>bZ) k hk
def SO(h:jQ T e){sm:M Nd}(hm:rl T e sm)(ak:Nat):∀f x k,k<=e->ak<=(tk T k).ak->Ge ak x->jV T (gi T sm ak f x k) (λa k'=>Ge ak a/\k<=k'/\k'<=e)
 |0,x,k,hk,_,hx=>⟨hx,br _,hk⟩|f+1,x,k,hk,hl,hx=>by
  unfold gi;split
  .refine(hm k hk).aq ?_;rintro y k1⟨p1,p2,p3⟩;refine(SO h hm ak f (.mk 8 ls 0 [x,y] ak (aS T k1) ak) k1 p3 (jp hl<|h.qE k k1 ae p3) ⟨⟨br _,br _⟩,⟨jp hl<|h.top k,jp hl<|h.top k,jq _⟩,hx,p1.mono hl,trivial⟩).mono ?_;exact iz
  .exact⟨hx,br _,hk⟩
def SQ(h:jQ T e){sm:M Nd}(hm:rl T e sm)(ak:Nat):∀f x k,k<=e->ak<=(tk T k).ak->Ge ak x->jV T (gQ T sm ak f x k) (λa k'=>Ge ak a/\k<=k'/\k'<=e)
 |0,x,k,hk,_,hx=>⟨hx,br _,hk⟩|f+1,x,k,hk,hl,hx=>by
  unfold gQ;split
  .rename_i hc;have uB:=h.g.step hk Bo;have hl1:=jp hl<|h.qE k (k+1) ae uB;refine(hm (k+1) uB).aq ?_;rintro y k1⟨p1,p2,p3⟩;refine(SQ h hm ak f (.mk 7 gM 0 [x,y] ak (aS T k1) ak) k1 p3 (jp hl<|h.qE k k1 ae p3) ⟨⟨br _,br _⟩,⟨jp hl<|h.top k,jp hl<|h.top k,aH⟩,hx,p1.mono hl1,trivial⟩).mono ?_;exact iz
  .exact⟨hx,br _,hk⟩
def abN(h:jQ T e){sm:M Nd}(hm:rl T e sm)(ak:Nat):∀f x k,k<=e->ak<=(tk T k).ak->Ge ak x->jV T (n8 T sm ak f x k) (λa k'=>Ge ak a/\k<=k'/\k'<=e)
 |0,x,k,hk,_,hx=>⟨hx,br _,hk⟩|f+1,x,k,hk,hl,hx=>by
  unfold n8;split
  .rename_i hc;have h5:=hc.elim qU qU;have uB:=h.g.step hk (by rw[h5];decide);have hl1:=jp hl<|h.qE k (k+1) ae uB;refine(hm (k+1) uB).aq ?_;rintro y k1⟨p1,p2,p3⟩;refine(abN h hm ak f (.mk 7 (tk T k).text 0 [x,y] ak (aS T k1) ak) k1 p3 (jp hl<|h.qE k k1 ae p3) ⟨⟨br _,br _⟩,⟨jp hl<|h.top k,jp hl<|h.top k,(h.g.tok k).sz⟩,hx,p1.mono hl1,trivial⟩).mono ?_;exact iz
  .exact⟨hx,br _,hk⟩
def GN(h:jQ T e){sm:M Nd}(hm:rl T e sm)(hF:∀fr x k,k<=e->fr<=(tk T k).ak->Ge fr x->jV T (F fr x k) (λa k'=>Ge fr a/\k<=k'/\k'<=e)):rl T e (λk=>aq sm (F (tk T k).ak) k):=by
 intro k hk;refine(hm k hk).aq ?_;rintro x k1⟨p1,p2,p3⟩;refine(hF _ x k1 p3 (h.qE k k1 ae p3) p1).mono ?_;exact iz
def aki(h:jQ T e){sm:M Nd}(hm:rl T e sm):rl T e (sJ T<|eU T<|dn T sm):=
 have h1:=GN h hm<|λfr x k=>SO h hm fr T.length x k;have h2:=GN h h1<|λfr x k=>SQ h h1 fr T.length x k
 GN h h2 (λfr x k=>abN h h2 fr T.length x k)
def ah1(h:jQ T e){sm:M Nd}(hm:rl T e sm):rl T e (mi T sm):=by
 intro k hk;rw[mi];refine(hm k hk).aq ?_;rintro x k1⟨p1,p2,p3⟩;show jV T (if _ then _ else _) _;split
 .rename_i hc;have mY:=h.g.step p3 Bo;refine(hm (k1+1) mY).aq ?_;rintro y k2⟨q1,q2,q3⟩;exact⟨⟨⟨br _,br _⟩,⟨h.top _,h.top _,aH⟩,p1,q1.mono<|h.qE k (k1+1) ae mY,trivial⟩,ae,q3⟩
 .exact⟨p1,p2,p3⟩
def afD(h:jQ T e)(hm:rl T e ex):rl T e (oM T ex):=by
 intro k hk;rw[oM];refine(aI h.g hk En).aq ?_;rintro _ k1⟨rfl,p1⟩;refine(dN h.g p1 1 aH).aq ?_;rintro t k2⟨rfl,t1,rfl,p2⟩;refine(aI h.g p2 kG).aq ?_;rintro _ k3⟨rfl,p3⟩;refine(hm _ p3).aq ?_;rintro x k4⟨q1,q2,q3⟩;exact⟨⟨⟨br _,h.qE k (k+1) ae p1⟩,⟨h.top _,h.top _,(h.g.tok _).sz⟩,q1.mono<|h.qE _ _ ae p3,trivial⟩,ae,q3⟩
def SR(h:jQ T e)(hm:rl T e ex)(hk:k<=e):jV T (bM T ex k) (λb k'=>((tk T k).ak<=b.2.1.ak/\b.2.1.ak<=400/\b.2.1.text.size<=400)/\Ge (tk T k).ak b.2.2/\k<k'/\k'<=e):=by
 rw[bM];refine(aI h.g hk rB).aq ?_;rintro _ k1⟨rfl,p1⟩;show jV T (if _ then _ else _) _;split
 .rename_i hc;have p1':=h.g.step p1 Bo;refine(dN h.g p1' 1 aH).aq ?_;rintro t k2⟨rfl,t1,rfl,p2⟩;refine(aI h.g p2 BI).aq ?_;rintro _ k3⟨rfl,p3⟩;refine(afD h hm _ p3).aq ?_;rintro x k4⟨q1,q2,q3⟩;exact⟨⟨h.qE _ _ ae p1',h.top _,(h.g.tok _).sz⟩,q1.mono<|h.qE _ _ ae p3,ae,q3⟩
 .refine(dN h.g p1 1 aH).aq ?_;rintro t k2⟨rfl,t1,rfl,p2⟩;refine(aI h.g p2 BI).aq ?_;rintro _ k3⟨rfl,p3⟩;refine(hm _ p3).aq ?_;rintro x k4⟨q1,q2,q3⟩;exact⟨⟨h.qE _ _ ae p1,h.top _,(h.g.tok _).sz⟩,q1.mono<|h.qE _ _ ae p3,ae,q3⟩
def abO(h:jQ T e)(hm:rl T e ex):rl T e (il T ex):=by
 intro k hk;rw[il];refine(aI h.g hk kIf).aq ?_;rintro _ k1⟨rfl,p1⟩;refine(hm _ p1).aq ?_;rintro x k2⟨a1,a2,a3⟩;refine(aI h.g a3 Pr).aq ?_;rintro _ k3⟨rfl,p3⟩;refine(hm _ p3).aq ?_;rintro y k4⟨b1,b2,b3⟩;refine(aI h.g b3 Ps).aq ?_;rintro _ k5⟨rfl,p5⟩;refine(hm _ p5).aq ?_;rintro z k6⟨c1,c2,c3⟩;exact⟨⟨⟨br _,br _⟩,⟨h.top _,h.top _,jq _⟩,a1.mono<|h.qE _ _ ae p1,b1.mono<|h.qE _ _ ae p3,c1.mono<|h.qE _ _ ae p5,trivial⟩,ae,c3⟩
def akj(h:jQ T e)(hm:rl T e ex):rl T e (li T ex):=by
 intro k hk;rw[li];refine(SR h hm hk).aq ?_;rintro⟨c,t,x⟩k1⟨s1,s2,p2,p3⟩;refine(aI h.g p3 kIn).aq ?_;rintro _ k2⟨rfl,p5⟩;refine(hm _ p5).aq ?_;rintro z k3⟨q1,q2,q3⟩;exact⟨⟨⟨br _,s1.1⟩,⟨h.top _,s1.2.1,s1.2.2⟩,s2,q1.mono<|h.qE _ _ ae p5,trivial⟩,ae,q3⟩
def abP(h:jQ T e){lo:Nat}{pa ex:M Nd}(hp:rl T e pa)(hm:rl T e ex):∀f l k,k<=e->lo<=(tk T k).ak->Kh lo l->jV T (kH T pa ex f l k) (λl' k'=>Kh lo l'/\k<=k'/\k'<=e)
 |0,l,k,hk,_,hl=>⟨hl,br _,hk⟩|f+1,l,k,hk,nN,hl=>by
  rw[kH];refine(hp k hk).aq ?_;rintro p k1⟨a1,a2,a3⟩;refine(aI h.g a3 kG).aq ?_;rintro _ k2⟨rfl,p2⟩;refine(hm _ p2).aq ?_;rintro x k3⟨b1,b2,b3⟩;have JQ:Kh lo (l++[p,x]):=GI hl ⟨a1.mono nN,b1.mono<|jp nN<|h.qE _ _ ae p2,trivial⟩;show jV T (if _ then _ else _) _;split
  .rename_i hc;have hk4:=h.g.step b3 Bo;refine(abP h hp hm f _ (k3+1) hk4 (jp nN<|h.qE _ _ ae hk4) JQ).mono ?_;rintro l' k4⟨c1,c2,c3⟩;exact⟨c1,ae,c3⟩
  .exact⟨JQ,ae,b3⟩
def aeB(h:jQ T e){pa}(hp:rl T e pa)(hm:rl T e ex):rl T e (lJ T pa ex):=by
 intro k hk;rw[lJ];refine(aI h.g hk oN).aq ?_;rintro _ k1⟨rfl,p1⟩;refine(hm _ p1).aq ?_;rintro x k2⟨a1,a2,a3⟩;refine(aI h.g a3 Pt).aq ?_;rintro _ k3⟨rfl,p3⟩;refine(abP h (lo:=(tk T k).ak) hp hm T.length [x] _ p3 (h.qE _ _ ae p3) ⟨a1.mono<|h.qE _ _ ae p1,trivial⟩).aq ?_;rintro l k4⟨c1,c2,c3⟩;refine(aI h.g c3 acY).aq ?_;rintro _ k5⟨rfl,p5⟩;exact⟨⟨⟨br _,br _⟩,⟨h.top _,h.top _,jq _⟩,c1⟩,ae,p5⟩
def abQ(h:jQ T e):∀n,rl T e<|bO T n
 |0=>λk hk=>bZ|n+1=>λk hk=>by
  have ih:=abQ h n;unfold bO;split
  .exact afD h ih k hk
  split
  .exact abO h ih k hk
  split
  .exact aeB h (afC h n) ih k hk
  split
  .exact akj h ih k hk
  .exact ah1 h (aki h<|yw h ih<|abM h n) k hk
def abR(h:jQ T e){lo:Nat}:∀f l k,k<=e->lo<=(tk T k).ak->(∀v∈l,lo<=v.ak)->jV T (iM T f l k) (λl' k'=>(∀v∈l',lo<=v.ak)/\k<=k'/\k'<=e)
 |0,l,k,hk,_,hl=>⟨hl,br _,hk⟩|f+1,l,k,hk,nN,hl=>by
  unfold iM;split
  .rename_i h3;have uB:=h.g.step hk ae;refine(abR h f _ (k+1) uB (jp nN<|h.qE _ _ ae uB) ?_).mono ?_
   .intro v hv;obtain q|q:=List.mem_append.1 hv
    .exact hl v q
    .rw[List.mem_singleton.1 q];exact nN
   .rintro l' k'⟨a1,a2,a3⟩;exact⟨a1,ae,a3⟩
  .exact⟨hl,br _,hk⟩
def og.PA{m:Nd}:∀{l:List Nd}{lo hi oj:Nat},og lo l hi->(og hi [m] oj)->og lo (l++[m]) oj
 |[],lo,hi,oj,h,g=>by
  cases m
  exact⟨jp h g.1,g.2⟩
 |.mk _ _ _ _ _ _ _::r,lo,hi,oj,h,g=>⟨h.1,h.2.1,og.PA (l:=r) h.2.2 g⟩
def aeC(h:jQ T e){sm:M Nd}(hm:rl T e sm)(hk:k<=e):jV T (ch T sm k) (λa k'=>a.pos=(tk T k).ak/\Ge (tk T k).ak a/\k<k'/\k'<=e):=by
 rw[ch];refine(dN h.g hk 2 aH).aq ?_;rintro t k1⟨rfl,t1,rfl,p1⟩;have hx:Ge (tk T k).ak (.mk 2 (tk T k).text 0 [] (tk T k).ak (aS T<|k+1) (tk T k).ak):=⟨⟨br _,br _⟩,⟨h.top _,h.top _,(h.g.tok _).sz⟩,trivial⟩;have hg:=GK h (sort:=1) hm T.length _ (k+1) p1 (h.qE _ _ ae p1) hx
 cases hr:cQ T sm 1 T.length (.mk 2 (tk T k).text 0 [] (tk T k).ak (aS T<|k+1) (tk T k).ak) (k+1)with
 |error f=>rw[hr]at hg;exact hg|ok p=>
  obtain⟨a,k'⟩:=p;rw[hr]at hg;obtain⟨q1,q2,q3⟩:=hg;exact⟨Dh _ _ _ _ _ hr,q1,ae,q3⟩
def Lp(h:jQ T e){lo:Nat}{sm:M Nd}(hm:rl T e sm):∀f l k,k<=e->og lo l (tk T k).ak->jV T (cZ T (ch T sm) f l k) (λl' k'=>og lo l' (tk T k').ak/\k<=k'/\k'<=e)
 |0,l,k,hk,hl=>⟨hl,br _,hk⟩|f+1,l,k,hk,hl=>by
  rw[h_];refine(aeC h hm hk).aq ?_;rintro m k1⟨a1,a2,a3,a4⟩;have hA:∀j,k1<=j->j<=e->og lo (l++[m]) (tk T j).ak:=λj h1 h2=>by
   refine hl.PA ?_;obtain⟨_,_,_,L,_,_,a⟩:=m;have a1':=a1;subst a1';exact⟨br _,a2,h.qE _ _ ae h2⟩
  rw[ie];split
  .rename_i hc;have mY:=h.g.step a4 Bo;refine(Lp h hm f _ (k1+1) mY<|hA _ ae mY).mono ?_;rintro l' k2⟨c1,c2,c3⟩;exact⟨c1,ae,c3⟩
  .exact⟨hA _ (br _) a4,ae,a4⟩
def ah2(h:jQ T e)n(hk:k<=e):jV T (cT T n k) (λd k'=>GeD (tk T k).ak d (tk T k').ak/\k<k'/\k'<=e):=by
 have ht:=abM h n;rw[cT];split
 .rw[tQ];refine(aI h.g hk my).aq ?_;rintro _ k1⟨rfl,p1⟩;refine(dN h.g p1 2 aH).aq ?_;rintro t k2⟨rfl,t1,rfl,p2⟩;refine(abR h (lo:=(tk T<|k+1).ak) T.length [] _ p2 (h.qE _ _ ae p2) ag).aq ?_;rintro l k3⟨v1,v2,v3⟩;refine(aI h.g v3 BI).aq ?_;rintro _ k4⟨rfl,p4⟩;refine(Lp h (lo:=(tk T<|k+1).ak) (yw h ht ht) T.length [] _ p4<|h.qE _ _ ae p4).aq ?_;rintro ms k5⟨m1,m2,m3⟩;refine(aI h.g m3 mD).aq ?_;rintro _ k6⟨rfl,p6⟩;refine⟨⟨h.qE _ _ ae p1,v1,?_⟩,ae,p6⟩;have:=h.qE k5 (k5+1) ae p6;exact og.up m1 this
 .rw[wP];refine(SR h (abQ h n) hk).aq ?_;rintro⟨c,t,x⟩k1⟨s1,s2,p2,p3⟩;refine(aI h.g p3 mD).aq ?_;rintro _ k2⟨rfl,p5⟩;exact⟨⟨h.qE _ _ ae p5,s2⟩,ae,p5⟩
def Lq(lo:Nat):List Dc->Nat->Prop
 |[],hi=>lo<=hi|d::r,hi=>∃mid,GeD lo d mid/\Lq mid r hi
def Lq.PA{d:Dc}:∀{l:List Dc}{lo hi oj:Nat},Lq lo l hi->(∀G7,G7<=hi->GeD G7 d oj)->Lq lo (l++[d]) oj
 |[],_,_,oj,h,g=>⟨oj,g _ h,br _⟩|_::r,_,_,_,⟨mid,h1,h2⟩,g=>⟨mid,h1,Lq.PA (l:=r) h2 g⟩
def Lq.d:∀{l:List Dc}{lo hi:Nat},Lq lo l hi->Gn lo l
 |[],_,_,_=>trivial|_::_,_,_,⟨mid,h1,h2⟩=>⟨mid,h1,h2.d⟩
def GeD.low{d}{G7 hi}(h:GeD lo d hi)(hl:G7<=lo):GeD G7 d hi:=by
 cases d with
 |ty t vs ms=>exact⟨jp hl h.1,h.2⟩|lt r t b=>exact⟨jp hl h.1,h.2.mono hl⟩
def SS(h:jQ T e)(n:Nat):∀f l k,k<=e->Lq 0 l (tk T k).ak->jV T (bT T (cT T n) f l k) (λl' _=>Gn 0 l')
 |0,l,k,hk,hl=>hl.d|f+1,l,k,hk,hl=>by
  unfold bT;split
  .refine(ah2 h n hk).aq ?_;rintro d k1⟨a1,a2,a3⟩;exact SS h n f _ k1 a3<|hl.PA λG7 q=>a1.low q
  .exact hl.d
def Wi(h:bX s=.ok l):Gn 0 l:=by
 have hs:¬400<s.size:=λq=>by simp[bX,q]at h
 have hL:=aeA s ae
 have h1:=(SS hL (ja s 0).length (ja s 0).length [] 0 (jq _)<|jq _).aq (f:=nF<|ja s 0) (R:=λl' _=>Gn 0 l') (by
  intro l' k' a1;rw[nF];split
  .exact a1
  .exact bZ)
 rw[bX]at h;rw[if_neg hs]at h;revert h1 h
 cases aq (bT (ja s 0) (cT (ja s 0) (ja s 0).length) (ja s 0).length []) (nF<|ja s 0) 0 with
 |error f=>intro h;cases h|ok p=>intro h h1;cases h;exact h1
def Ls(u:WW):∀(l m:List Dc)(e:SE),fs u (l++m) e=fs u m (fs u l e)
 |[],_,_=>rfl|d::r,m,e=>Ls u r m _
def UG u(l:List Dc)e i(h:i<l.length):fs u (l.take<|i+1) e=WX u l[i] (fs u (l.take i) e):=by
 rw[j6 h,Ls];rfl
def DSm:Dc->Prop
 |.ty _ vs ms=>vs.length<=1000/\∀m∈ms,Sm m|.lt _ _ b=>Sm b/\eK b
def og.sm:∀{ms:List Nd}{lo hi:Nat},og lo ms hi->∀m∈ms,Ge 0 m
 |.mk k s n L f t a::r,lo,hi,h,m,hm=>by
  obtain rfl|q:=List.mem_cons.1 hm
  .exact h.2.1.mono (jq _)
  .exact og.sm (ms:=r) h.2.2 m q
def ah3(h:m∈ms):nn m<=ck ms:=yf h
def E_:∀{l:List Dc}{d:Dc},d∈l->Jb d<=BV l
 |x::r,d,h=>by
  simp only[BV,j7,List.sum_cons];obtain rfl|q:=List.mem_cons.1 h
  .omega
  .have:=E_ q;simp only[BV]at this;omega
def Gn.sm:∀{l:List Dc}{lo:Nat},Gn lo l->∀d∈l,match d with|.ty _ _ ms=>∀m∈ms,Ge 0 m|.lt _ _ b=>Ge 0 b
 |d::r,lo,⟨hi,h1,h2⟩,x,hx=>by
  obtain rfl|q:=List.mem_cons.1 hx
  .cases x with
   |ty t vs ms=>exact h1.2.2.sm|lt rr t b=>exact h1.2.mono<|jq _
  .exact Gn.sm h2 x q
def Y_(h:bX s=.ok l):(∀d∈l,DSm d)/\BV l<=802:=by
 have hs:¬400<s.size:=λq=>by simp[bX,q]at h
 have hg:=pZ hs;rw[h]at hg;have ha:=Wi h;refine⟨λd hd=>?_,hg.2⟩;have h1:=Gn.sm ha d hd;have h2:=E_ hd;have h3:=hg.1 d hd;have h4:=hg.2
 cases d with
 |ty t vs ms=>
  simp only[Jb]at h2;exact⟨ae,λm hm=>⟨h1 m hm,by have:=ah3 hm;omega⟩⟩
 |lt r t b=>
  simp only[Jb]at h2;exact⟨⟨h1,ae⟩,h3.2.2.1⟩
end
section
open Go.ChangeMaps Go.MapKept Un
def QTy:EQ Ty:=λw P t c=>dW w P t<|c 0
def iN:gn QTy:=by grind[gn,QTy,dW.move]
def vsT(j:Nat):List Ty:=(List.range j).map λi=>.var<|i+1
def abS j:vsT (j+1)=vsT j++[.var<|j+1]:=by simp[vsT,List.range_succ]
def qF j:(vsT j).length=j:=by simp[vsT]
structure TdF(t:jc)(vs:List jc)(ms:List Nd):Prop where
 up:nY t.text
 vn:(vs.map (·.text)).Nodup
 vl:vs.length<=900
 vq:∀v∈vs,QM v.text
 ml:ms.length<=900
 mt:∀i(h:i<ms.length),∃s n L f u a,ms[i]=.mk 2 s n L f u a/\L.length<=900/\∀k(hk:k<L.length),yW L[k]/\(bt (vs.map (·.text)) L[k]).2=vs.map (·.text)/\bt (vs.map (·.text)) (es L[k])=bt (vs.map (·.text)) L[k]
def SU{s:BA}:∀{ns:List BA},s∉ns->ix s ns=ns.length/\ix s (ns++[s])=ns.length
 |[],_=>⟨rfl,by simp[ix]⟩|a::ns,h=>by
  have h1:¬a.toList=s.toList:=λe=>h (by rw[show a=s from by have:=congrArg List.toArray e;cases a;cases s;simp_all[xj]];simp);have⟨h2,h3⟩:=SU (s:=s) (ns:=ns)<|λq=>h Mf;simp[ix,h1,h2,h3]
def Fr.grown{a W}(h:Fr S a W)(hg:W.grownBy w' row)(hr:∀b,row=some b->S b\/a.heap.size<=b):Fr S a w':=
 ⟨hg.os.trans h.os,hg.tape.trans h.tape,hg.output.trans h.output,jp h.size hg.size,λk hk hn=>(hg.block k (jv hk h.size) (λe=>by obtain q|q:=hr k e.symm;exact hn q;omega)).trans (h.block k hk hn)⟩
def dC.ty{c}{L:List Ty}(hc:nY c)(h:dC QTy 67 1 w base va vc L):dW w (λb=>base<=b) (.aK c L) (.iface 169<|.agg #[.string c,.slice va L.length vc]):=by
 have⟨qM,qN,cs,e,aN,hq⟩:=h.v iN;injection e with e1 _ e2;subst e1 e2;have:=dW.aK (w:=w) (P:=λb=>base<=b) c L va vc (λi=>cs i 0) (q9<|q9 hc) (aN.imp id λ⟨g,q1,q2,q3,q4⟩=>⟨g,q1,q2,q3,λi hi=>by simpa using q4 i hi 0 aH⟩) (λi hi=>hq i hi)
 rwa[eS hc]at this
def dC.alO{L:List Ty}(h:dC QTy 67 1 w base va vc L):Xo w (λb=>base<=b) va L:=by
 have⟨qM,qN,cs,e,aN,hq⟩:=h.v iN;injection e with e1 _ e2;subst e1 e2;exact aN.imp id λ⟨g,q1,q2,q3,q4⟩=>⟨g,λi=>cs i 0,q1,q2,q3,λi hi=>⟨by simpa using q4 i hi 0 aH,hq i hi⟩⟩
def tY:Tryz.prog.underlying 214=some (.map 9 470):=qkr
def wX{ops}{rest}{o}{a}{F}(hg:o.guard=none)m x v(r_:o.op=Op.insert 214 m x v\/o.op=Op.mapUpdate 214 m x v)(hm:a.eval m=Mv b)(h:mS w P b mk)(hP:¬P b){tk}{mt}{u}(hc:WD w P tk mt u)n(hx:a.eval x=.string n)(hv:a.eval v=u)(hK:∀w',mS w' P b (λy=>if y=n then some (tk,mt)else mk y)->One b w w'->wpList xd ops F rest (a.put o.dst undef) w'):
 wpList xd ops F (o::rest) a w:=by
 obtain⟨L,h1,h2,h3⟩:=h;refine cu Pb tY hg m x v r_ hm h1 n u hx hv λw' hM o=>hK w' ⟨_,hM,λy hy=>?_,λy z hy=>?_⟩ o
 .rw[aM]at hy;by_cases e:n=y
  .grind
  .grind
 .have mv:∀{tk m v},WD w P tk m v->WD w' P tk m v:=λh=>h.move LS (λx p _=>o.block x<|λe=>hP<|e▸p)<|λ_ p _=>p;rw[aM]at hy;by_cases e:n=y
  .grind
  .grind
def A9(t:jc)(vs:List jc)(m:Nd):∀(l:List Nd)(mk:qk),qh t vs (l++[m]) mk=λy=>if y=qn m then some (qp (vs.map (·.text)) m,qi t vs)else qh t vs l mk y
 |[],mk=>rfl|x::l,mk=>by
  show qh t vs (l++[m]) _=_;rw[A9 t vs m l];rfl
def SV ns(L:List Nd):=L.map λx=>(bt ns x).1
def abT{ns:List BA}:∀{L:List Nd},(∀k(hk:k<L.length),(bt ns L[k]).2=ns/\bt ns (es L[k])=bt ns L[k])->aF ns (fZ L)=(SV ns L,ns)
 |[],_=>rfl|x::l,h=>by
  have⟨h1,h2⟩:=h 0 ag;have h1:(bt ns x).2=ns:=h1;have h2:bt ns (es x)=bt ns x:=h2;have h3:=abT (L:=l) λk hk=>h (k+1) bP;simp[fZ,aF,h2,h1,h3,SV]
def abU(h:k<L.length):SV ns (L.take<|k+1)=SV ns (L.take k)++[(bt ns L[k]).1]:=by
 rw[SV];rw[j6 h,List.map_append];rfl
def aeD(h:k<=L.length):(SV ns<|L.take k).length=k:=by grind[SV]
def alP w7 B p4 mm kb fb cb mb(t:jc)(vs:List jc)(ms:List Nd)va vc gk v wr:=
 ∃(j:Nat),Hid (gk=ms.length-j)/\j<=ms.length/\v=Nv j/\NM wr kb fb cb mb (vs.map (·.text))/\Bx wr p4 #[.string t.text,.slice va vs.length vc]/\dW wr (λi=>B<=i/\i≠cb/\i≠mb/\i≠mm) (qi t vs) (.iface 169<|.agg #[.string t.text,.slice va vs.length vc])/\mS wr (λi=>B<=i/\i≠cb/\i≠mb/\i≠mm) mm (qh t vs (ms.take j) λ_=>none)/\Fr (λi=>i=cb\/i=mb\/i=mm) w7 wr
def alQ w8 p10 kb fb cb mb(vs:List jc)(L:List Nd)mv gk v wr:=
 ∃(j:Nat)(va:Option Addr)(vc:Nat),Hid (gk=L.length-j)/\j<=L.length/\v=Nv j/\NM wr kb fb cb mb (vs.map (·.text))/\Bx wr p10 #[.slice va j vc,mv]/\dC QTy 67 1 wr w8.heap.size va vc (SV (vs.map (·.text))<|L.take j)/\Fr (λi=>i=cb\/i=mb\/i=p10) w8 wr
def alR w0 p4 kb fb cb mb(t:jc)(vs:List jc)gk v wr:=
 ∃(j:Nat)(va:Option Addr)(vc:Nat),Hid (gk=vs.length-j)/\j<=vs.length/\v=Nv j/\NM wr kb fb cb mb ((vs.map (·.text)).take j)/\Bx wr p4 #[.string t.text,.slice va j vc]/\dC QTy 67 1 wr w0.heap.size va vc (vsT j)/\Fr (λi=>i=cb\/i=mb\/i=p4) w0 wr
def Lt{t}{f u}(hv:RowV QName 3 w P vs vv)(hm:RowV QMaker 6 w P ms vm)(hd:TdF t vs ms):
 Calls xd 322 #[.agg #[.int .i64 f,.int .i64 u,.int .i64 (t.ak:Int),.int .i64 (t.to:Int),.string t.text,vv,vm]] w (λe w'=>∃b,e=.returned (.map<|some b)/\Below w.heap.size w w'/\w.heap.size<=b/\mS w' (λi=>w.heap.size<=i) b (qh t vs ms λ_=>none)):=by
 obtain⟨pa,pc,cs,rfl,HR,HQ⟩:=hv;obtain⟨ma,mc,ds,rfl,HRM,HQM⟩:=hm;have hl:=hd.vl;have jB:= @run_makeMap Tryz.prog;have⟨i0,yi,oh,m7,i_⟩:=info_parts gw;have⟨k0,B0⟩:=sd w #[.int .i64 f,.int .i64 u,.int .i64 (t.ak:Int),.int .i64 (t.to:Int),Sv t.text,Lv pa vs.length pc,Lv ma ms.length mc] 137;have K0:=ai k0;clear k0;go_enter func322,ntmps322;go_wp2_with fail;refine(Ef).mono ?_;rintro e w1⟨rfl,xW⟩;have k1:Below (w.alloc<|Cv #[.int .i64 f,.int .i64 u,.int .i64 (t.ak:Int),.int .i64 (t.to:Int),Sv t.text,Lv pa vs.length pc,Lv ma ms.length mc] 137).heap.size (w.alloc<|Cv #[.int .i64 f,.int .i64 u,.int .i64 (t.ak:Int),.int .i64 (t.to:Int),Sv t.text,Lv pa vs.length pc,Lv ma ms.length mc] 137) w1:=by rw[xW];exact bw _
 have C1:Bx w1 (w.heap.size+1) #[.int .i64 0]:=by rw[xW];have:=Bx.new (w.alloc<|Cv #[.int .i64 f,.int .i64 u,.int .i64 (t.ak:Int),.int .i64 (t.to:Int),Sv t.text,Lv pa vs.length pc,Lv ma ms.length mc] 137) #[.int .i64 0] 3;simpa using this
 have B1:=B0.below k1;have K1:=K0.trans<|k1.mono K0.size;have HN:=adw _ C1;have zw1:w1.heap.size=w.heap.size+2:=by rw[xW];simp
 clear xW k1 C1 B0 K0;go_wp2_with fail;refine HN.mono ?_;rintro e w2⟨kb,fb,mb,rfl,nm,k2,zmb⟩;clear HN;have⟨b1,b2,b3⟩:=B1.below k2;have K2:=K1.trans<|k2.mono K1.size;have B2:=B1.below k2;have NM2:=ai nm;have⟨y1,y2,y3,y4⟩:=nm.lt;have zz2:=B2.z;have zc1:=K1.size;clear nm k2 B1;go_wp2_with fail;obtain⟨w3,uw⟩:∃w3,w3=w2.alloc (Cv #[Sv t.text,Lv none 0 0] 169):=⟨_,rfl⟩;have k3:Below w2.heap.size w2 w3:=by rw[uw];exact bw _
 have P3':Bx w3 w2.heap.size #[Sv t.text,Lv none 0 0]:=by rw[uw];exact Bx.new w2 #[Sv t.text,Lv none 0 0] 169
 have z3:w3.heap.size=w2.heap.size+1:=by rw[uw];simp
 have NM3:=NM2.af k3;have B3:=B2.below k3;have K3:=K2.trans<|k3.mono K2.size;rw[<-uw];clear uw k3 NM2 B2 K2;go_loopg[22] vs.length (λgk v wr=>alR w3 w2.heap.size kb fb (w.heap.size+1) mb t vs gk v wr)
 case atStart=>exact⟨0,none,0,ai ag,jq _,rfl,by simpa using NM3,P3',by simpa[vsT]using dC.nil QTy 67 1 w3 w3.heap.size,Fr.refl _ _⟩
 case round=>
  obtain⟨j,va,vc,dv,hj,rfl,nm,p4,ro,FR3⟩:=hrel;have zr:=FR3.size;by_cases bq:j<vs.length
  .have bz:(j:Int)<(vs.length:Int):=ae;have Ij:(0:Int)<=(j:Int):=ae;obtain⟨g,rfl,hPg,lh,b8⟩:=HR.resolve_left<|λe=>qBs;obtain⟨q0,q1,q2,alS,-⟩:=HQ j bq;have me:∀o,wr.cell? ⟨g,o,none⟩=w.cell? ⟨g,o,none⟩:=λo=>(xg (a:=⟨g,o,none⟩)<|FR3.block g (by have:=K3.size;omega) ae).trans<|xg (a:=⟨g,o,none⟩)<|K3.block g lh;have d0:wr.cell? ⟨g,j*3,none⟩=some (.int .i64 (vs[j].ak:Int)):=by rw[me];exact(b8 j bq 0 aH).trans (congrArg some q0)
   have d1:wr.cell? ⟨g,j*3+1,none⟩=some (.int .i64 (vs[j].to:Int)):=by rw[me];exact(b8 j bq 1 aH).trans (congrArg some q1)
   have d2:wr.cell? ⟨g,j*3+2,none⟩=some (Sv<|tl vs[j].text):=by rw[me];exact(b8 j bq 2 aH).trans (congrArg some q2)
   obtain⟨s,hs⟩:∃s,s=vs[j].text:=⟨_,rfl⟩;have hsn:s∉(vs.map (·.text)).take j:=by
    have hn:=hd.vn;have e:(vs.map (·.text))=(vs.map (·.text)).take j++(vs.map (·.text)).drop j:=(List.take_append_drop _ _).symm;rw[e,List.nodup_append]at hn;intro q;refine hn.2.2 s q s ?_ rfl;rw[List.drop_eq_getElem_cons (show j<(vs.map (·.text)).length by simpa using bq),hs];simp
   have hln:((vs.map (·.text)).take j).length=j:=bP;have hix:=SU hsn;have had:qP s ((vs.map (·.text)).take j)=(vs.map (·.text)).take (j+1):=by
    rw[qP];rw[hix.1,if_neg ae,j6 (show j<(vs.map (·.text)).length by simpa using bq),hs];simp
   have akk:ix s (qP s ((vs.map (·.text)).take j))=j:=by
    rw[qP];rw[hix.1,if_neg ae,hix.2,hln]
   have HNA:∀W:World,Below wr.heap.size wr W->Calls xd 46 #[Sv<|tl s,.pointer<|some ⟨kb,0,none⟩,.pointer<|some ⟨fb,0,none⟩] W (λe w'=>e=Rv (Fv 98<|.int .i64<|(j:Int)+1)/\NM w' kb fb (w.heap.size+1) mb ((vs.map (·.text)).take<|j+1)/\Fr (Two (w.heap.size+1) mb) W w'):=λW hb=>by
    refine(JF (nm.af hb) s (by rw[hs];exact alS) ae).mono ?_;rintro e w'⟨rfl,h2,h3⟩;rw[akk,had]at*;exact⟨rfl,h2,h3⟩
   rw[<-hs]at d2;obtain⟨fr0,akl⟩:∃x:Int,x=(vs[j].ak:Int):=⟨_,rfl⟩;obtain⟨to0,akm⟩:∃x:Int,x=(vs[j].to:Int):=⟨_,rfl⟩;rw[<-akl]at d0;rw[<-akm]at d1;have⟨y1,y2,y3,y4⟩:=nm.lt;have⟨n1,n2,n3,n4,n5⟩:=nm.d1;have P4:=ai p4;have RO:=ai ro;obtain⟨x1,x2,x3⟩:=p4;have zp:=x3;have kA:Below wr.heap.size wr (wr.alloc<|Cv #[.int .i64 fr0,.int .i64 to0,Sv<|tl s] 133):=bw _;obtain⟨wA,hwA⟩:∃wA,wA=wr.alloc (Cv #[.int .i64 fr0,.int .i64 to0,Sv<|tl s] 133):=⟨_,rfl⟩;have A1:wA.cell? ⟨w2.heap.size,1,none⟩=some (Lv va j vc):=by rw[hwA];exact((uh P4).below kA).c 1
   have A2:wA.cell? ⟨wr.heap.size,2,none⟩=some (Sv<|tl s):=by rw[hwA];exact(Bx.new wr #[.int .i64 fr0,.int .i64 to0,Sv<|tl s] 133).c 2
   rw[<-hwA]at kA;have KA:=ai kA;clear nm b8 q0 q1 q2 me hix akk had hsn akl akm hs ro kA hln;go_wp2_with fail;rw[<-hwA];clear hwA d0 d1 d2 x1 x2;have⟨cs',OW,HPE⟩:=uh RO;rw[qF]at OW;have Mh:=fK OW;have zKA:=(uh KA).size;have np4:¬w2.heap.size=w.heap.size+1:=ae;have np5:¬w2.heap.size=mb:=ae
   go_region_law(first
    |(go_simp;go_at_call 46;go_loud(refine(HNA _ KA.drew).mono ?_);rintro e w5⟨rfl,nm5,F5⟩;have B5:=(P4.below KA.drew).fr F5<|λq=>q.elim np4 np5;have A5:w5.cell? ⟨w2.heap.size,1,none⟩=some (Lv va j vc):=B5.c 1;have O5:Hid (w5.ownsRow w3.heap.size 67 1 (Lv va j vc) j<|gR cs' 1 j):=ai (sY OW λg hg=>(F5.block g (jv (Mh g hg).2 KA.drew.size) (λq=>by have:=(Mh g hg).1;obtain q|q:=q<;>omega)).trans<|KA.drew.block g (Mh g hg).2);have BB5:=ai B5;have NM5:=ai nm5;have F5':=ai F5;have z5:wA.heap.size<=w5.heap.size:=F5.size;have z25:w2.heap.size<w5.heap.size:= ae;clear B5 nm5 F5;dsimp only)
    |(refine iT rfl (.tmp 27) (.tmp 32) 167 rfl w3.heap.size 67 i0 _ 1 16 eF yi oh m7 i_ rfl aH (Lv va j vc) j _ rfl (jW O5<|bw _) ⟨w5.heap.size,0,none⟩ 1 1 [Fv 98<|.int .i64<|(j:Int)+1] rfl rfl (oP _ _ _ _ ag) qAn Yf ae (by simp;have:=KA.size;omega) ?_;intro v6 w6 pJ KO wY;obtain⟨q3,c3,rfl⟩:=tB pJ ae;have b5A:=BB5.below<|bw<|Cv #[Fv 98<|.int .i64<|(j:Int)+1] 67;have B6:=b5A.same KO.size (KO.block _ b5A.z (λe=>by have:=(Mh _ e.symm).1;omega));have A6:w6.cell? ⟨w2.heap.size,1,none⟩=some (Lv va j vc):=B6.c 1;have A7:w6.frozen? ⟨w2.heap.size,1,none⟩=false:=B6.f 1;have BB6:=ai B6;have OW6:=ai pJ;have HG6:=ai KO;have HL6:=ai wY;clear pJ KO wY b5A B6))
   all_goals(
    go_wp2
    go_roundg(vs.length-(j+1))
    case measure=>rw[uh dv];omega
    case rel=>
     have kA:=(uh KA).drew;have F5:=uh F5';have hg:=uh HG6;have k5:Below w5.heap.size w5 (w5.alloc<|Cv #[Fv 98<|.int .i64<|(j:Int)+1] 67):=bw _;have F56:=(Fr.of k5).grown hg<|λb e=>xc (Mh b e).1;have zA:=kA.size;refine⟨j+1,some ⟨q3,0,none⟩,c3,ai rfl,jx bq,jT,((uh NM5).fr F56<|λb p=>ae).set ae 1 _,(uh BB6).aP 1 _ #[Sv t.text,Lv (some ⟨q3,0,none⟩) (j+1) c3] rfl ag,?_,?_⟩
     .rw[abS];have PU:=dC.push (Q:=QTy) (et:=67) (sz:=1) (base:=w3.heap.size) (va:=va) (vc:=vc) (L:=vsT j) (w1:=w5) (W:=w5.alloc<|Cv #[Fv 98<|.int .i64<|(j:Int)+1] 67) (w3:=w6) (lo:=w5.heap.size) (q3:=q3) (c3:=c3) (a:=.var<|j+1) (c:=λ_=>Fv 98<|.int .i64<|(j:Int)+1) (cs:=cs') iN
       (λi hi=>iN _ _ _ _ _ _ (HPE i hi) ae (λb p z=>(F5.block b ae (λq=>by have:=p.1;obtain q|q:=q<;>omega)).trans<|kA.block b z)<|λb p z=>⟨p.1,ae,p.2.2⟩)
       (by have:=dW.var (w:=w5) (P:=λb=>w5.heap.size<=b)<|j+1;show dW _ _ _ _;simpa using this) ae (λb e=>by rw[qF]at e;have:=(Mh b e).2;omega) k5 (by rw[qF];exact uh OW6) (by rw[qF];exact hg) (by rw[qF];exact uh HL6)
      exact PU.od iN C9 (λb h1 h2=>xi _ _ _ _ (by show b≠w2.heap.size;omega))
     .have Fa:=(FR3.trans<|Fr.of kA).trans<|F5.fX λi q=>q.elim xc<|λr=>q9<|xc r
      exact((Fa.trans<|Fr.of k5).grown hg<|λb e=>q9 (Mh b e).1).set (xc<|q9<|q9 rfl) 1 _)
  .obtain⟨wx,hx⟩:∃wx,wx=wr:=⟨_,rfl⟩;subst hx;have bz:decide ((j:Int)<(vs.length:Int))=false:=bP;have ej:j=vs.length:=ae;subst ej;rw[show(vs.map (·.text)).take vs.length=vs.map (·.text)from by rw[List.take_of_length_le];simp]at nm;have ms0:=ro.ty hd.up;rw[qF]at ms0;have zp:=p4.z;obtain⟨wm,hwm⟩:∃wm,wm=wx.alloc (.map #[] 0):=⟨_,rfl⟩;have km:Below wx.heap.size wx wm:=by rw[hwm];exact bw _
   have zm:wm.heap.size=wx.heap.size+1:=by rw[hwm];simp
   have MK0:mS wm (λi=>w.heap.size<=i/\i≠w.heap.size+1/\i≠mb/\i≠wx.heap.size) wx.heap.size (qh t vs (ms.take 0) λ_=>none):=(by rw[hwm];exact⟨[],MG.new _ wx,λ_ _=>rfl,λx v h=>qBg⟩);have kr:Below w.heap.size w wx:=⟨FR3.os.trans K3.os,FR3.tape.trans K3.tape,FR3.output.trans K3.output,jp K3.size FR3.size,λk hk=>(FR3.block k (by have:=K3.size;omega) ae).trans<|K3.block k hk⟩;have BD:=(B3.fr FR3 ae).below km;have⟨b1,b2,b3⟩:=B3.fr FR3 ae;have NMm:=nm.af km;have P4m:=p4.below km;have MSm:dW wm (λi=>w.heap.size<=i/\i≠w.heap.size+1/\i≠mb/\i≠wx.heap.size) (qi t vs) (Fv 169<|Av #[Sv t.text,Lv va vs.length vc]):=(ms0.move km.size (λb _ z=>km.block b z)<|λb p z=>⟨ae,ae,ae,ae⟩);have KM:=kr.trans<|km.mono kr.size;have⟨n1,n2,n3,n4,n5⟩:=nm.d1;have Y8:=hd.ml;clear nm p4 ro ms0 km kr;go_wp2_with fail;rw[<-hwm];clear hwm b1 b2 b3;go_loopg[40] ms.length (λgk v wq=>alP wm w.heap.size w2.heap.size wx.heap.size kb fb (w.heap.size+1) mb t vs ms va vc gk v wq)
   case atStart=>exact⟨0,ai ag,jq _,rfl,NMm,P4m,MSm,MK0,Fr.refl _ _⟩
   case round=>
    clear NMm P4m MSm MK0;obtain⟨i,alT,hi,rfl,nm,p4,MKq,MWq,FMq⟩:=hrel;have zq:=FMq.size;by_cases Mu:i<ms.length
    .have ahO:(i:Int)<(ms.length:Int):=ae;have ajq:(0:Int)<=(i:Int):=ae;obtain⟨wq,hx⟩:∃wq,wq=wr:=⟨_,rfl⟩;subst hx;have⟨s,n,L,f',u',a',HEM,hLl,HLT⟩:=hd.mt i Mu;obtain⟨gm,rfl,hPm,hmz,LU⟩:=HRM.resolve_left (λe=>by subst e;simp at Mu);have⟨s2,m2,L2,f2,t2,a2,y2,vL,e0,e1,e2,e3,e4,e5,e6,wJ,hy2,hRL⟩:=HQM i Mu;have e0':=HEM.symm.trans e0;injection e0' with q1 q2 q3 q4 q5 q6 q7;subst q2 q4;obtain⟨la,lc,el,rfl,HRL,hqL⟩:=hRL;have me:∀o,wq.cell? ⟨gm,o,none⟩=w.cell? ⟨gm,o,none⟩:=λo=>(xg (a:=⟨gm,o,none⟩)<|FMq.block gm (by have:=KM.size;omega) ae).trans<|xg (a:=⟨gm,o,none⟩)<|KM.block gm hmz;have d0:wq.cell? ⟨gm,i*6,none⟩=some (.int .i64 (f2:Int)):=by rw[me];exact(LU i Mu 0 aH).trans (congrArg some e1)
     have d1:wq.cell? ⟨gm,i*6+1,none⟩=some (.int .i64 (t2:Int)):=by rw[me];exact(LU i Mu 1 aH).trans (congrArg some e2)
     have d2:wq.cell? ⟨gm,i*6+2,none⟩=some (.int .i64 (a2:Int)):=by rw[me];exact(LU i Mu 2 aH).trans (congrArg some e3)
     have d3:wq.cell? ⟨gm,i*6+3,none⟩=some (.int .i64 (y2:Int)):=by rw[me];exact(LU i Mu 3 aH).trans (congrArg some e4)
     have d4:wq.cell? ⟨gm,i*6+4,none⟩=some (Sv s):=by rw[me];exact(LU i Mu 4 aH).trans (congrArg some e5)
     have d5:wq.cell? ⟨gm,i*6+5,none⟩=some (Lv la L.length lc):=by rw[me];exact(LU i Mu 5 aH).trans (congrArg some e6)
     obtain⟨w8,hw8⟩:∃w8,w8=(wq.alloc<|Cv #[.int .i64 (f2:Int),.int .i64 (t2:Int),.int .i64 (a2:Int),.int .i64 (y2:Int),Sv s,Lv la L.length lc] 286).alloc (Cv #[Lv none 0 0,Fv 169<|Av #[Sv t.text,Lv va vs.length vc]] 470):=⟨_,rfl⟩;have k8:Below wq.heap.size wq w8:=by rw[hw8];exact(bw _).alloc ag _
     have z8:w8.heap.size=wq.heap.size+2:=by rw[hw8];simp
     have B8:Bx w8 wq.heap.size #[.int .i64 (f2:Int),.int .i64 (t2:Int),.int .i64 (a2:Int),.int .i64 (y2:Int),Sv s,Lv la L.length lc]:=(by rw[hw8];exact(Bx.new wq #[.int .i64 (f2:Int),.int .i64 (t2:Int),.int .i64 (a2:Int),.int .i64 (y2:Int),Sv s,Lv la L.length lc] 286).alloc (Cv #[Lv none 0 0,Fv 169<|Av #[Sv t.text,Lv va vs.length vc]] 470))
     have M8:Bx w8 (wq.heap.size+1) #[Lv none 0 0,Fv 169<|Av #[Sv t.text,Lv va vs.length vc]]:=(by
      rw[hw8];have:=Bx.new (wq.alloc<|Cv #[.int .i64 (f2:Int),.int .i64 (t2:Int),.int .i64 (a2:Int),.int .i64 (y2:Int),Sv s,Lv la L.length lc] 286) #[Lv none 0 0,Fv 169<|Av #[Sv t.text,Lv va vs.length vc]] 470
      simpa using this)
     have NM8:=nm.af k8;have NMq:=ai nm;have P4q:=ai p4;have K8:=ai k8;have HQL:=ai hqL;have zpq:=p4.z;have zmm:=MWq.lt;have⟨v1,v2,v3,v4⟩:=nm.lt;obtain⟨x1,x2,x3⟩:=p4;clear nm k8 hqL e0 e1 e2 e3 e4 e5 e6 q1 q3 q5 q6 q7 me LU wJ hy2;go_wp2_with fail;rw[<-hw8];clear hw8 d0 d1 d2 d3 d4 d5 x1 x2 x3;go_loopg[50] L.length (λgk v wr=>alQ w8 (wq.heap.size+1) kb fb (w.heap.size+1) mb vs L (Fv 169<|Av #[Sv t.text,Lv va vs.length vc]) gk v wr)
     case atStart=>exact⟨0,none,0,ai ag,jq _,rfl,NM8,M8,by simpa[SV]using dC.nil QTy 67 1 w8 w8.heap.size,Fr.refl _ _⟩
     case round=>
      clear NM8 M8;obtain⟨k,va2,vc2,alU,hk,rfl,NMr,P10,ro,F8⟩:=hrel;have zr:=F8.size;by_cases hkl:k<L.length
      .have alV:(k:Int)<(L.length:Int):=ae;have amQ:(0:Int)<=(k:Int):=ae;obtain⟨gl,rfl,hPl,hlz,hcl⟩:=HRL.resolve_left (λe=>by subst e;simp at hkl);have kw8:Below w.heap.size w w8:=by
        have h1:=FMq;have h2:=KM;have h3:=uh K8;exact⟨h3.os.trans<|h1.os.trans h2.os,h3.tape.trans<|h1.tape.trans h2.tape,h3.output.trans<|h1.output.trans h2.output,by have:=h1.size;have:=h2.size;have:=h3.size;omega,λb hb=>(h3.block b (by have:=h1.size;have:=h2.size;omega)).trans<|(h1.block b (by have:=h2.size;omega) ae).trans<|h2.block b hb⟩
       have cgl:wr.cell? ⟨gl,k,none⟩=some (el k 0):=by
        rw[xg (a:=⟨gl,k,none⟩) (w:=w8)<|F8.block gl (by have:=kw8.size;omega) ae,xg (a:=⟨gl,k,none⟩) (w:=w)<|kw8.block gl hlz];simpa using hcl k hkl 0 aH
       have⟨hT1,HT2,hT3⟩:=HLT k hkl;have hpt:PT wr (λb=>P b/\b<w.heap.size) L[k] (el k 0):=(show PT w P L[k] (el k 0)from uh HQL k hkl).move (by have:=kw8.size;omega) (λb p z=>(F8.block b (by have:=kw8.size;omega) ae).trans<|kw8.block b z)<|λb p z=>⟨p,z⟩;have⟨tv,xv,ev⟩:=hpt.bQ;rw[ev]at cgl hpt;have hnl:(vs.map (·.text)).length<=1000:=bP;have AR:∀W:World,Below wr.heap.size wr W->Calls xd 44 #[Fv tv<|Av xv,nmV kb fb] W (λe w'=>∃tu xu,e=Rv (Fv tu xu)/\dW w' (λb=>W.heap.size<=b) (bt (vs.map (·.text)) L[k]).1 (Fv tu xu)/\NM w' kb fb (w.heap.size+1) mb (vs.map (·.text))/\Fr (Two (w.heap.size+1) mb) W w'):=λW hb=>by
        refine(ajs L[k] hT1 W kb fb (w.heap.size+1) mb (vs.map (·.text)) (λb=>P b/\b<w.heap.size) _ (NMr.af hb) (hpt.af hb) (λb q=>ae) (by rw[HT2];exact hnl)).mono ?_;rintro e w'⟨uu,rfl,h2,h3,h4⟩;obtain⟨tu,xu,rfl⟩:=h2.iface;rw[HT2]at h3;exact⟨tu,xu,rfl,h2,h3,h4⟩
       have FR8:=ai F8;have A1:=P10.c 0;have zp:=P10.z;obtain⟨cs',OW,HPE⟩:=ro;have ekl:=aeD (ns:=vs.map (·.text)) hk;rw[ekl]at OW;have Mh:=fK OW;have EKL:=ai ekl;have np4:¬wq.heap.size+1=w.heap.size+1:=ae;have np5:¬wq.heap.size+1=mb:=ae;clear F8 hcl hpt hT1 hT3 ev ekl;go_wp2_with fail;clear cgl
       go_region_law(first
        |(go_simp;go_at_call 44;go_loud(refine(AR _ (xh _ _).drew).mono ?_);rintro e w5⟨tu,xu,rfl,tu5,nm5,F5⟩;have B5:=(P10.below (xh _ _).drew).fr F5<|λq=>q.elim np4 np5;have A5:w5.cell? ⟨wq.heap.size+1,0,none⟩=some (Lv va2 k vc2):=B5.c 0;have O5:Hid (w5.ownsRow w8.heap.size 67 1 (Lv va2 k vc2) k<|gR cs' 1 k):=ai (sY OW λg hg=>F5.block g (Mh g hg).2 (λq=>by have:=(Mh g hg).1;obtain q|q:=q<;>omega));have BB5:=ai B5;have NM5:=ai nm5;have F5':=ai F5;have TU5:=ai tu5;have z5:wr.heap.size<=w5.heap.size:=F5.size;have z25:wq.heap.size+1<w5.heap.size:= ae;clear B5 nm5 F5 tu5;dsimp only)
        |(refine iT rfl (.tmp 55) (.tmp 59) 167 rfl w8.heap.size 67 i0 _ 1 16 eF yi oh m7 i_ rfl aH (Lv va2 k vc2) k _ rfl (jW O5<|bw _) ⟨w5.heap.size,0,none⟩ 1 1 [Fv tu xu] rfl rfl (oP _ _ _ _ ag) qAn Yf ae bP ?_;intro v6 w6 pJ KO wY;obtain⟨q3,c3,rfl⟩:=tB pJ ae;have b5A:=BB5.below<|bw<|Cv #[Fv tu xu] 67;have B6:=b5A.same KO.size (KO.block _ b5A.z (λe=>by have:=(Mh _ e.symm).1;omega));have A6:w6.cell? ⟨wq.heap.size+1,0,none⟩=some (Lv va2 k vc2):=B6.c 0;have A7:w6.frozen? ⟨wq.heap.size+1,0,none⟩=false:=B6.f 0;have BB6:=ai B6;have OW6:=ai pJ;have HG6:=ai KO;have HL6:=ai wY;clear pJ KO wY b5A B6))
       all_goals(
        go_wp2
        go_roundg(L.length-(k+1))
        case measure=>rw[uh alU];omega
        case rel=>
         have F5:=uh F5';have hg:=uh HG6;have k5:Below w5.heap.size w5 (w5.alloc<|Cv #[Fv tu xu] 67):=bw _;have F56:=(Fr.of k5).grown hg<|λb e=>xc (Mh b e).1;have ekl:=uh EKL;refine⟨k+1,some ⟨q3,0,none⟩,c3,ai rfl,jx hkl,jT,((uh NM5).fr F56<|λb p=>ae).set ae 0 _,(uh BB6).aP 0 _ #[Lv (some ⟨q3,0,none⟩) (k+1) c3,Fv 169<|Av #[Sv t.text,Lv va vs.length vc]] rfl ag,?_,?_⟩
         .rw[abU hkl];have tu5:=uh TU5;have PU:=dC.push (Q:=QTy) (et:=67) (sz:=1) (base:=w8.heap.size) (va:=va2) (vc:=vc2) (L:=SV (vs.map λv:jc=>v.text)<|L.take k) (w1:=w5) (W:=w5.alloc<|Cv #[Fv tu xu] 67) (w3:=w6) (lo:=wr.heap.size) (q3:=q3) (c3:=c3) (a:=(bt (vs.map λv:jc=>v.text) L[k]).1) (c:=λ_=>Fv tu xu) (cs:=cs') iN
           (λi hi=>iN _ _ _ _ _ _ (HPE i hi) z5 (λb p z=>F5.block b z (λq=>by have:=p.1;obtain q|q:=q<;>omega))<|λb p z=>⟨p.1,ae,p.2.2⟩)
           tu5 ae (λb e=>by rw[ekl]at e;exact(Mh b e).2) k5 (by rw[ekl];exact uh OW6) (by rw[ekl];exact hg) (by rw[ekl];exact uh HL6)
          exact PU.od iN C9 (λb h1 h2=>xi _ _ _ _ (by show b≠wq.heap.size+1;omega))
         .have Fa:Fr (λi=>i=w.heap.size+1\/i=mb\/i=wq.heap.size+1) w8 w5:=((uh FR8).trans<|Fr.of (xh _ _).drew).trans<|F5.fX λi q=>q.elim xc<|λr=>q9<|xc r
          exact((Fa.trans<|Fr.of k5).grown hg<|λb e=>q9 (Mh b e).1).set (xc<|q9<|q9 rfl) 0 _)
      .have alV:decide ((k:Int)<(L.length:Int))=false:=bP;have ek:k=L.length:=ae;subst ek;rw[qe]at ro;have alW:(SV (vs.map (·.text)) L).length=L.length:=by simp[SV]
       have k8:=uh K8;have mvr:∀b,(w.heap.size<=b/\b≠w.heap.size+1/\b≠mb/\b≠wx.heap.size)->b<wq.heap.size->wr.heap[b]? =wq.heap[b]? :=λb p z=>(F8.block b ae ae).trans<|k8.block b z;have MV:WD wr (λi=>w.heap.size<=i/\i≠w.heap.size+1/\i≠mb/\i≠wx.heap.size) (SV (vs.map (·.text)) L) (qi t vs) (Av #[Lv va2 L.length vc2,Fv 169<|Av #[Sv t.text,Lv va vs.length vc]]):=⟨va2,vc2,_,_,by rw[alW],ro.alO.move (br _) (λ_ _ _=>rfl)<|λb p z=>⟨ae,ae,ae,ae⟩,MKq.move ae mvr<|λ_ p _=>p⟩;have MWr:=MWq.move ae ((F8.block _ ae ae).trans<|k8.block _ zmm) mvr<|λ_ p _=>p;have MKr:=MKq.move ae mvr<|λ_ p _=>p;have P4r:=(P4q.below k8).fr F8 ae;have FMr:=((FMq.trans<|Fr.of k8).gZ F8 (λb q=>by obtain q|q|q:=q;exact xc<|xc q;exact xc<|q9<|xc q;exact q9 ae));obtain⟨x1,x2,x3⟩:=P10;have⟨y1,y2,y3⟩:=B8.fr F8 ae;have G9:qp (vs.map (·.text)) ms[i]=SV (vs.map (·.text)) L/\qn ms[i]=s:=(by rw[HEM];exact⟨congrArg Prod.fst<|abT λk hk=>(HLT k hk).2,rfl⟩);clear ro F8 k8 mvr;go_wp2_with(refine wX rfl _ _ _ (q9 rfl) rfl MWr (λq=>q.2.2.2 rfl) MV s rfl rfl ?_;intro w9 H' O';have M9:=ai H';have O9:=ai O';clear H' O');go_roundg(ms.length-(i+1))
       case measure=>rw[uh alT];omega
       case rel=>
        have o:=uh O9;have F9:Fr (λb=>b=wx.heap.size) wr w9:=⟨o.os,o.tape,o.output,LS,λb _ hb=>o.block b hb⟩;refine⟨i+1,ai rfl,jx Mu,jT,NMr.fr F9 (λb p=>by subst p;omega),P4r.fr F9 ae,MKr.move F9.size (λb p z=>F9.block b z p.2.2.2)<|λ_ p _=>p,?_,FMr.trans<|F9.fX λb q=>q9<|q9 q⟩;rw[j6 Mu,A9,G9.1,G9.2];exact uh M9
    .have ahO:decide ((i:Int)<(ms.length:Int))=false:=bP;have ei:i=ms.length:=ae;subst ei;rw[qe]at MWq;have HX:∃b,Rv (.map<|some wx.heap.size)=Rv (.map<|some b)/\Below w.heap.size w wr/\w.heap.size<=b/\mS wr (λi=>w.heap.size<=i) b (qh t vs ms λ_=>none):=⟨_,rfl,⟨FMq.os.trans KM.os,FMq.tape.trans KM.tape,FMq.output.trans KM.output,jp KM.size FMq.size,λk hk=>(FMq.block k (by have:=KM.size;omega) ae).trans<|KM.block k hk⟩,ae,MWq.move (br _) rfl (λ_ _ _=>rfl) (λb p _=>p.1)⟩;clear nm p4
     go_wp2
     go_ret;exact HX
def lR(a b:qk):qk:=λy=>match a y with
 |some c=>some c|none=>b y
def wZ(t:jc)(vs:List jc)(mk:qk):∀(ms:List Nd)(a:qk),qh t vs ms (lR a mk)=lR (qh t vs ms a) mk
 |[],_=>rfl|m::r,a=>by
  show qh t vs r _=lR (qh t vs r _) mk;rw[<-wZ t vs mk r];congr 1;funext y;unfold lR;by_cases q:y=qn m
  .simp[q]
  .simp[q]
def A_(t:jc)(vs:List jc)(mk:qk)ms:qh t vs ms mk=lR (qh t vs ms λ_=>none) mk:=wZ t vs mk ms λ_=>none
open Classical in
noncomputable def ovM (Wj m1:qk) (done:List BA) (x:BA):Option (List Ty×Ty):=if x∈done then lR Wj m1 x else m1 x
def ah4 P b1 b2(m1 Wj:qk)L w gk wr:=
 ∃done,IG xk wr w.heap.size b2 L done gk/\mS wr P b1 (ovM Wj m1 done)/\Fr (λi=>i=b1) w wr
def SW{b1 b2}{m1 Wj}(h1:mS w P b1 m1)(h2:mS w P b2 Wj)(hP:¬P b1)(bz:∀x,P x->x<w.heap.size)(hn:b1≠b2):
 Cq 321 #[Mv b1,Mv b2] w λe w'=>e=.returned (.tuple #[])/\mS w' P b1 (lR Wj m1)/\Fr (λi=>i=b1) w w':=by
 have l1:=h1.lt;have l2:=h2.lt;obtain⟨L,m2,q1,q2⟩:=h2;obtain⟨o,cnt,hrg,lY⟩:=m2.range tY;have k1:Bq w (w.alloc o):=bw _;have HI:=ai lY;have H1:=h1.move k1.size (k1.block _ h1.lt) (λb _ z=>k1.block b z)<|λ_ p _=>p;have K1:=ai k1;have Q:=And.intro q1 q2;go_enter func321,ntmps321
 go_wp2
 go_loopg[] cnt (λgk wr=>ah4 P b1 b2 m1 Wj L w gk wr)
 case atStart=>
  refine⟨[],HI,?_,Fr.of K1⟩;have e:ovM Wj m1 []=m1:=by funext x;simp[ovM]
  rw[e];exact H1
 case round=>
  obtain⟨done,HI,HE,hF⟩:=hrel;have HF:=ai hF;have Xh:=HI.lt;have zr:=hF.size;rcases HI.next (P:=xd) str_inj with⟨ha,DX⟩|⟨x,u,w2,aE,hxd,Pc,DX,Hi,Hj,xS,fW,hen⟩
  .go_wp2
   go_end0;refine⟨rfl,?_,HF⟩;have e:ovM Wj m1 done=lR Wj m1:=by
    funext y;unfold ovM;by_cases q:y∈done
    .rw[if_pos q]
    .rw[if_neg q];have:Wj y=none:=by
      cases hg:aZ y L with
      |none=>exact Q.1 y hg|some v=>exact absurd (ha _ v hg) q
     simp only[lR,this]
   rw[<-e];exact HE
  .obtain⟨tk,m,EC,hc⟩:=Q.2 x u Pc;have Bv:=xS;have nP:∀i,P i->¬i=w.heap.size:=λi hi e=>by have:=bz i hi;omega
   have E2:=HE.move Bv.size (Bv.block _ HE.lt ae) (λi p z=>Bv.block i z<|nP i p)<|λ_ p _=>p;have c2:=(hc.move (w':=wr) zr (λi p z=>HF.block i z<|λe=>hP<|e▸p)<|λ_ p _=>p).move (w':=w2) (Q:=P) ae (λi p z=>Bv.block i z<|nP i p)<|λ_ p _=>p;obtain⟨sa,sc,ta,xa,rfl,t1,t2⟩:=c2;have uf:Bq w2 (w2.alloc<|.cells #[.slice sa tk.length sc,.iface ta xa] 470):=bw _;have E3:=E2.move uf.size (uf.block _ E2.lt) (λb _ z=>uf.block b z)<|λ_ p _=>p;have C3:=(WD.move ⟨sa,sc,ta,xa,rfl,t1,t2⟩ uf.size (λb _ z=>uf.block b z)<|λ_ p _=>p);have I3:=Hi.same (uf.block b2 ae)<|uf.block w.heap.size ae;have K3:=ai uf;go_wp2_with(refine wX rfl _ _ _ (q9 rfl) rfl E3 hP C3 x rfl rfl ?_;intro w4 H' O';have S4:=ai H';have O4:=ai O';clear H' O');go_roundg aE
   case measure=>exact Hj
   case rel=>
    have o:=uh O4;have k3:=uh K3;have f1:=Bv;refine⟨x::done,I3.same (o.block b2<|Ne.symm hn)<|o.block _ ae,?_,?_⟩
    .have e:ovM Wj m1 (x::done)=λy=>if y=x then some (tk,m)else ovM Wj m1 done y:=by
      funext y;by_cases q:y=x
      .subst q;simp[ovM,lR,EC]
      .simp only[ovM,if_neg q];by_cases r:y∈done
       .rw[if_pos<|List.mem_cons_of_mem _ r,if_pos r]
       .rw[if_neg<|λh=>(List.mem_cons.1 h).elim q r,if_neg r]
     rw[e];exact S4
    .have hF:=uh HF;refine⟨o.os.trans<|k3.os.trans<|f1.os.trans hF.os,o.tape.trans<|k3.tape.trans<|f1.tape.trans hF.tape,o.output.trans<|k3.output.trans<|f1.output.trans hF.output,by rw[o.size];have:=k3.size;omega,λi hi hni=>?_⟩;rw[o.block i hni,k3.block i ae,f1.block i ae ae,hF.block i hi hni]
def MG.akn{L L'}(h:MG xk w b L)(h':MG xk w b L'):L=L':=by
 obtain⟨es,c,h1,h2,_⟩:=h;obtain⟨es',c',h1',Ek,_⟩:=h';rw[h1]at h1';injection h1' with h1';injection h1' with e1 e2;subst e1;have e:=h2.symm.trans Ek;have:∀(L L':List (BA×Value)),L.map (λp=>(Sv p.1,p.2))=L'.map (λp=>(Sv p.1,p.2))->L=L':=by
  intro L
  induction L with
  |nil=>intro L' e;cases L' with|nil=>rfl|cons=>simp at e
  |cons p r ih=>
   intro L' e
   cases L' with
   |nil=>simp at e|cons p' r'=>
    simp only[j7,List.cons.injEq,Prod.mk.injEq,Value.string.injEq]at e;rw[ih r' e.2,Prod.ext e.1.1 e.1.2]
 exact this L L' e
def Lu{p:Prop}(h:p:=by
 have:=h.bx.c 0;rw[<-e]at this
 exact absurd this (by rw[hM.bD 0];simp)):p:=h
def WE.rm{cnt}(h:WE w c cnt):c.rb≠c.mb/\c.mb≠c.eb/\c.rb≠c.eb:=by
 refine⟨λe=>?_,λe=>?_,λe=>?_⟩
 .have⟨L,m1,g1,_⟩:=h.rs;have⟨L',m2,_,g2⟩:=h.ms;rw[e]at m1;rw[m1.akn m2]at g1;have⟨tk,m,_,sa,sc,ta,xa,q,_⟩:=g2 _ _ g1
  cases q
 .have⟨L,hM,_⟩:=h.ms;exact Lu
 .have⟨L,hM,_⟩:=h.rs;exact Lu
def SY{p:Prop}(h:p:=by
 induction h with
 |var n=>exact .var n|aK c L sa sc vs hc aN hr ih=>
  refine .aK c L sa sc vs hc ?_ ih;obtain h0|⟨g,h1,h2,h3,h4⟩:=aN
  .exact xc h0
  .by_cases h0:L=[]
   .exact xc h0
   .refine q9 ⟨g,h1,⟨h2,λe=>?_⟩,h3,h4⟩;have q:=h4 0<|List.length_pos_iff.2 h0;rw[e,hb]at q
    cases q):p:=h
def dW.tZ{t:Ty}(h:dW w P t v)(hb:w.cell? ⟨b,0,none⟩=none):dW w (λi=>P i/\i≠b) t v:=by
 exact SY
def mS.tZ{w}{P}{mb b}{mk}(h:mS w P mb mk)(hb:w.cell? ⟨b,0,none⟩=none):mS w (λi=>P i/\i≠b) mb mk:=by
 obtain⟨L,h1,h2,h3⟩:=h;refine⟨L,h1,h2,λk v hk=>?_⟩;obtain⟨tk,m,e,sa,sc,ta,xa,rfl,q1,q2⟩:=h3 k v hk;refine⟨tk,m,e,sa,sc,ta,xa,rfl,?_,q2.tZ hb⟩;obtain q1|⟨g,vs,q3,q4,q5,q6⟩:=q1
 .exact xc q1
 .by_cases h0:tk=[]
  .exact xc h0
  .refine q9 ⟨g,vs,q3,⟨q4,λe=>?_⟩,q5,λi hi=>⟨(q6 i hi).1,(q6 i hi).2.tZ hb⟩⟩;have⟨q7,_⟩:=q6 0<|List.length_pos_iff.2 h0;rw[e,hb]at q7
   cases q7
def de.tZ{t:Ty}(h:de w P t v)(hb:w.cell? ⟨b,0,none⟩=none):de w (λi=>P i/\i≠b) t v:=by
 exact SY
def bU.tZ{w}{P}{nb b}{Γ}(h:bU w P nb Γ)(hb:w.cell? ⟨b,0,none⟩=none):bU w (λi=>P i/\i≠b) nb Γ:=by
 obtain⟨L,h1,h2,h3⟩:=h;refine⟨L,h1,h2,λk v hk=>?_⟩;obtain⟨d,e,ta,xa,sa,sc,rfl,⟨⟨x',q1,q2⟩,q4⟩,q3⟩:=h3 k v hk;refine⟨d,e,ta,xa,sa,sc,rfl,⟨⟨x',q1.tZ hb,q2⟩,q4⟩,?_⟩;obtain q3|⟨g,r1,r2,r3,r4⟩:=q3
 .exact xc q3
 .by_cases h0:d.any=[]
  .exact xc h0
  .refine q9 ⟨g,r1,⟨r2,λe=>?_⟩,r3,r4⟩;have r5:=r4 0<|List.length_pos_iff.2 h0;rw[e,hb]at r5
   cases r5
def WT.aaT{cnt}{fX}(h:WT w c cnt u Γ)(hn:c.nb≠c.mb)(hf:Fr (λi=>i=c.mb) w w')(hw:WE w' {c with mks:=mks,fX:=fX} cnt):WT w' {c with mks:=mks,fX:=fX} cnt u Γ:=by
 have⟨L,hMG,_⟩:=h.we.ms;exact⟨hw,(h.e.tZ<|hMG.bD 0).move hf.size (hf.block _ h.e.lt hn) (λb p z=>hf.block b z p.2)<|λb p _=>p.1,h.n,h.hu,h.top,h.dm⟩
section
variable {cnt:Nat}
abbrev abV(c:WC)(t:jc)(vs:List jc)ms fX:={c with mks:=qh t vs ms c.mks,fX:=fX}
def Wk(h:WT w c cnt u Γ){t}{f x}(hv:RowV QName 3 w P vs vv)(hm:RowV QMaker 6 w P ms vm)(hd:TdF t vs ms):
 Cq 311 #[Pv c.eb,.agg #[Iv f,Iv x,Nv t.ak,Nv t.to,.string t.text,vv,vm]] w (λe w'=>e=.returned (.tuple #[])/\Fr (λi=>i=c.mb) w w'/\WE w' (abV c t vs ms w'.heap.size) cnt):=by
 obtain⟨w0,xD⟩:∃w0,w0=w.alloc (Cv #[Iv f,Iv x,Nv t.ak,Nv t.to,Sv t.text,vv,vm] 137):=⟨_,rfl⟩;have K0:Bq w w0:=by rw[xD];exact bw _
 have BB:Bx w0 w.heap.size #[Iv f,Iv x,Nv t.ak,Nv t.to,Sv t.text,vv,vm]:=by rw[xD];exact Bx.new w #[Iv f,Iv x,Nv t.ak,Nv t.to,Sv t.text,vv,vm] 137
 have WE0:=h.we.af K0;have⟨r1,r2,r3⟩:=h.we.rm;have⟨d1,d2,d3⟩:=h.we.d;have⟨l1,l2,l3,l4,l5⟩:=h.we.l;have zz0:w0.heap.size=w.heap.size+1:=by rw[xD];simp
 have HMK:∀W:World,Bq w0 W->Cq 322 #[Av #[Iv f,Iv x,Nv t.ak,Nv t.to,Sv t.text,vv,vm]] W (λe w'=>∃b,e=Rv (Mv b)/\Bq W w'/\W.heap.size<=b/\mS w' (λi=>W.heap.size<=i) b (qh t vs ms λ_=>none)):=λW hb=>by
  have kW:=K0.trans<|hb.mono K0.size;exact Lt (hv.move dw kW.size (λb _ z=>kW.block b z)<|λ_ p _=>p) (hm.move cd kW.size (λb _ z=>kW.block b z)<|λ_ p _=>p) hd
 have HCP:∀(W:World)(b:Nat),Bq w0 W->w0.heap.size<=b->mS W (λi=>w0.heap.size<=i) b (qh t vs ms λ_=>none)->Cq 321 #[Mv c.mb,Mv b] W (λe w'=>e=Rv (.tuple #[])/\mS w' (λi=>i≠c.cb/\i≠c.mb/\i<W.heap.size) c.mb (qh t vs ms c.mks)/\Fr (λi=>i=c.mb) W w'):=λW b hb hz hM=>by
  rw[A_];have weW:=WE0.af hb;have⟨L,hMG,_⟩:=weW.ms;have zb:=hM.lt;have zs:=hb.size;have h1:mS W (λi=>i≠c.cb/\i≠c.mb/\i<W.heap.size) c.mb c.mks:=(weW.ms.tZ<|hMG.bD 0).move (br _) rfl (λ_ _ _=>rfl) (λi p z=>⟨p.1.1,p.2,z⟩);have h2:mS W (λi=>i≠c.cb/\i≠c.mb/\i<W.heap.size) b (qh t vs ms λ_=>none):=hM.move (br _) rfl (λ_ _ _=>rfl) (λi p z=>⟨qBv,qBv,z⟩);exact SW h1 h2 (λq=>q.2.1 rfl) (λi p=>p.2.2) ae
 have f0:=WE0.bx.c 2;have g0:=BB.c 0;have g1:=BB.c 1;have g2:=BB.c 2;have g3:=BB.c 3;have g4:=BB.c 4;have g5:=BB.c 5;have g6:=BB.c 6;obtain⟨pa,pc,cs,rfl,aN,hq⟩:=hv;obtain⟨ma,mc,ds,rfl,ako,hqm⟩:=hm;have ne1:¬w.heap.size=c.mb:=ae;clear h aN hq ako hqm;go_enter func311,ntmps311;go_wp2_with fail;rw[<-xD];clear xD
 go_region_held3(λw'=>w'.cell? ⟨c.eb,2,none⟩=some (Mv c.mb)/\w'.cell? ⟨w.heap.size,0,none⟩=some (Iv f)/\w'.cell? ⟨w.heap.size,1,none⟩=some (Iv x)/\w'.cell? ⟨w.heap.size,2,none⟩=some (Nv t.ak)/\w'.cell? ⟨w.heap.size,3,none⟩=some (Nv t.to)/\w'.cell? ⟨w.heap.size,4,none⟩=some (Sv t.text)/\w'.cell? ⟨w.heap.size,5,none⟩=some (Lv pa vs.length pc)/\w'.cell? ⟨w.heap.size,6,none⟩=some (Lv ma ms.length mc)) (first|go_keep|(simp[*])) (first
  |(go_at_call 322;go_loud(refine(HMK _ (xh _ _).drew).mono ?_);rintro e w2⟨b,rfl,k2,z2,hM⟩;have k2':=(xh _ _).drew.trans k2;have B2:=BB.below k2';have s0:w2.cell? ⟨c.eb,2,none⟩=some (Mv c.mb):=(WE0.af k2').bx.c 2;have s1:w2.cell? ⟨w.heap.size,0,none⟩=some (Iv f):=B2.c 0;have s2:w2.cell? ⟨w.heap.size,1,none⟩=some (Iv x):=B2.c 1;have s3:w2.cell? ⟨w.heap.size,2,none⟩=some (Nv t.ak):=B2.c 2;have s4:w2.cell? ⟨w.heap.size,3,none⟩=some (Nv t.to):=B2.c 3;have s5:w2.cell? ⟨w.heap.size,4,none⟩=some (Sv t.text):=B2.c 4;have s6:w2.cell? ⟨w.heap.size,5,none⟩=some (Lv pa vs.length pc):=B2.c 5;have s7:w2.cell? ⟨w.heap.size,6,none⟩=some (Lv ma ms.length mc):=B2.c 6;have K2:=ai k2';have Z2:Hid (w0.heap.size<=b):=ai z2;have M2:Hid (mS w2 (λi=>w0.heap.size<=i) b<|qh t vs ms λ_=>none):=ai hM;clear k2 k2' z2 hM B2)
  |(go_at_call 321;go_loud(refine(HCP _ _ K2 Z2 M2).mono ?_);rintro e w3⟨rfl,hM3,F3⟩;have B3:=(BB.below K2).fr F3 ne1;have t0:w3.cell? ⟨c.eb,2,none⟩=some (Mv c.mb):=((WE0.af K2).bx.fr F3<|Ne.symm r2).c 2;have t1:w3.cell? ⟨w.heap.size,0,none⟩=some (Iv f):=B3.c 0;have t2:w3.cell? ⟨w.heap.size,1,none⟩=some (Iv x):=B3.c 1;have t3:w3.cell? ⟨w.heap.size,2,none⟩=some (Nv t.ak):=B3.c 2;have t4:w3.cell? ⟨w.heap.size,3,none⟩=some (Nv t.to):=B3.c 3;have t5:w3.cell? ⟨w.heap.size,4,none⟩=some (Sv t.text):=B3.c 4;have t6:w3.cell? ⟨w.heap.size,5,none⟩=some (Lv pa vs.length pc):=B3.c 5;have t7:w3.cell? ⟨w.heap.size,6,none⟩=some (Lv ma ms.length mc):=B3.c 6;have M3:=ai hM3;have F3':=ai F3;clear hM3 F3 B3))
 go_wp2
 go_end0;have F3:=uh F3';have k2:=uh K2;have we2:=WE0.af k2;have z3:=F3.size;have z2:=k2.size;refine⟨rfl,(Fr.of<|K0.trans<|k2.mono K0.size).trans F3,⟨we2.bx.fr F3<|Ne.symm r2,we2.ct.fr F3<|Ne.symm d3,we2.rs.same<|F3.block _ we2.rs.lt r1,?_,⟨d1,d2,d3⟩,⟨by show c.eb<w3.heap.size;omega,by show c.cb<w3.heap.size;omega,by show c.rb<w3.heap.size;omega,by show c.mb<w3.heap.size;omega,br _⟩⟩⟩;exact M3.move (br _) rfl (λ_ _ _=>rfl) (λi p _=>⟨p.1,by show i<w3.heap.size;omega⟩)
end
end
section
open Un
def kl:Nd->Nat
 |.mk _ _ _ L _ _ _=>L.length
def MkL:Dc->Prop
 |.ty _ vs ms=>∀m∈ms,vs.length+nn m+kl m<=802|.lt _ _ _=>True
def DR(h:dU T e){sort:Nat}{P:Nd->Prop}{sm:M Nd}(hm:oK T e P sm):∀f x k,k<=e->jV T (cQ T sm sort f x k) (λa k'=>k<=k'/\k'<=e/\nn a+kl a<=nn x+kl x+2*(k'-k))
 |0,x,k,hk=>⟨br _,hk,ae⟩|f+1,x,k,hk=>by
  unfold cQ;split
  .refine(hm k hk).aq ?_;rintro y k1⟨p1,p2,p3,p4⟩;refine(DR h hm f _ k1 p3).mono ?_;rintro a k2⟨q2,q3,q4⟩;rw[X7]at q4;have hk:∀u,kl (x.add y u)=kl x+1:=λu=>by cases x;simp[Nd.add,kl]
   rw[hk]at q4;exact⟨ae,q3,ae⟩
  .exact⟨br _,hk,ae⟩
def Wl(h:dU T e){sm}(hm:oK T e sI sm)(hk:k<=e):jV T (ch T sm k) (λa k'=>k<=k'/\k'<=e/\nn a+kl a<=2*(k'-k)):=by
 rw[ch];refine(dN h hk 2 aH).aq ?_;rintro t k1⟨rfl,t1,rfl,p1⟩;refine(DR h hm T.length _ (k+1) p1).mono ?_;rintro a k'⟨q2,q3,q4⟩;change nn a+kl a<=(1+0)+0+2*(k'-(k+1))at q4;exact⟨ae,q3,ae⟩
def Ba(h:dU T e){mk:M Nd}(hm:∀k,k<=e->jV T (mk k) (λa k'=>k<=k'/\k'<=e/\nn a+kl a<=2*(k'-k))):∀f l k,k<=e->jV T (cZ T mk f l k) (λl' k'=>∃ms,l'=l++ms/\k<=k'/\k'<=e/\∀m∈ms,nn m+kl m<=2*(k'-k))
 |0,l,k,hk=>⟨[],ag,br _,hk,ag⟩|f+1,l,k,hk=>by
  rw[h_];refine(hm k hk).aq ?_;rintro m k1⟨a2,a3,a4⟩;rw[ie];split
  .rename_i hc;refine(Ba h hm f _ (k1+1)<|h.step a3 Bo).mono ?_;rintro l' k2⟨ms,rfl,c3,c4,c5⟩;refine⟨m::ms,ag,ae,c4,λq hq=>?_⟩;obtain rfl|hq:=List.mem_cons.1 hq
   .omega
   .have:=c5 q hq;omega
  .exact⟨[m],rfl,ae,a3,λq hq=>by rw[List.mem_singleton.1 hq];omega⟩
def abW(h:dU T e)(he:e<=401)n(hk:k<=e):jV T (cT T n k) (λd k'=>MkL d/\k'<=e):=by
 have ht:=El h n;rw[cT];split
 .rw[tQ];refine(aI h hk my).aq ?_;rintro _ k1⟨rfl,p1⟩;refine(dN h p1 2 aH).aq ?_;rintro t k2⟨rfl,t1,rfl,p2⟩;refine(AZ h T.length [] _ p2).aq ?_;rintro l k3⟨vs,rfl,v1,v2,v3,v4⟩;refine(aI h v3 BI).aq ?_;rintro _ k4⟨rfl,p4⟩;refine(Ba h (λk hk=>Wl h (oL h (X8 h) ht ht) hk) T.length [] _ p4).aq ?_;rintro l k5⟨ms,rfl,m3,m4,m5⟩;refine(aI h m4 mD).aq ?_;rintro _ k6⟨rfl,p6⟩;refine⟨λm hm=>?_,p6⟩;have:=m5 m (by simpa using hm);omega
 .rw[wP];refine(yV h (Ep h n) hk).aq ?_;rintro⟨c,t,x⟩k1⟨_,p2,p3,p4⟩;refine(aI h p3 mD).aq ?_;rintro _ k2⟨rfl,p5⟩;exact⟨trivial,p5⟩
def DS(h:dU T e)(he:e<=401)(n:Nat):∀f l k,k<=e->(∀d∈l,MkL d)->jV T (bT T (cT T n) f l k) (λl' k'=>(∀d∈l',MkL d)/\k'<=e)
 |0,l,k,hk,hl=>⟨hl,hk⟩|f+1,l,k,hk,hl=>by
  unfold bT;split
  .refine(abW h he n hk).aq ?_;rintro d k1⟨a1,a3⟩;refine DS h he n f _ k1 a3 ?_;intro x hx;exact GH
  .exact⟨hl,hk⟩
def Wm(hs:¬400<s.size):match bX s with
 |.error _=>True|.ok l=>∀d∈l,MkL d:=by
 have⟨h,hl⟩:=tX s ae
 have h1:=(DS h ae (ja s 0).length (ja s 0).length [] 0 (jq _) ag).aq (f:=nF<|ja s 0) (R:=λl' k'=>∀d∈l',MkL d) (by
  rintro l' k'⟨a1,a2⟩;rw[nF];split
  .exact a1
  .exact bZ)
 rw[bX];rw[if_neg hs];revert h1
 cases aq (bT (ja s 0) (cT (ja s 0) (ja s 0).length) (ja s 0).length []) (nF<|ja s 0) 0 with
 |error f=>intro _;trivial|ok p=>intro h1;exact h1
def OP:∀{vs:List jc}{p:List BA}{z:Fl},(BU p vs z).kind=0->z.kind=0/\(vs.map (·.text)).Nodup/\∀v∈vs,v.text∉p
 |[],p,z,h=>⟨h,ag,ag⟩|v::r,p,z,h=>by
  rw[BU]at h;have⟨h1,h2,h3⟩:=OP h;have⟨h4,h5⟩:=cV aH h1;refine⟨h5,?_,?_⟩
  .simp only[j7,List.nodup_cons];refine⟨λq=>?_,h2⟩;have⟨u,hu,e⟩:=List.mem_map.1 q;exact h3 u hu Us
  .intro u hu;obtain e|e:=List.mem_cons.1 hu
   .subst e;exact EP.1 h4
   .exact λq=>h3 u e Mf
def abX{ty:BA->Option Nat}(t:jc)(vs:List jc):∀{ms:List Nd}{q:(BA->Option Nat)×Fl}{mks:qk},(∀m∈ms,GX sI m)->(zS fY ty (vs.map (·.text)) ms q).2.kind=0->sK q.1 mks->
 q.2.kind=0/\sK (zS fY ty (vs.map (·.text)) ms q).1 (qh t vs ms mks)/\∀m∈ms,∃s L f u a,m=.mk 2 s 0 L f u a/\BL (vs.map (·.text)) L
 |[],q,mks,_,h,hm=>⟨h,hm,ag⟩|m::r,q,mks,h3,h,hm=>by
  obtain⟨s,L,f,u,a,rfl,g1,g2,g3⟩:=h3 m ag;rw[zS]at h⊢;have hL':∀(z:Fl),(gJ ty (vs.map (·.text)) L z).kind=0->BL (vs.map (·.text)) L:=λz hz=>.of λx hx=>by
   have⟨z',q⟩:=oO hz x hx;exact ME (g3 x hx) z' q
  have hs:sK (fY q.1 s L.length) (λy=>if y=qn (.mk 2 s 0 L f u a)then some (qp (vs.map (·.text))<|.mk 2 s 0 L f u a,qi t vs)else mks y):=by
   intro y n hy;rw[fY]at hy;by_cases e:y=s
   .rw[if_pos e]at hy;injection hy with hy;refine⟨_,_,if_pos<|show y=qn (.mk 2 s 0 L f u a)from e,?_⟩;rw[<-hy];have:∀(l:List Nd)ns,(aF ns<|fZ l).1.length=l.length:=by
     intro l
     induction l with
     |nil=>intro ns;rfl|cons x l ih=>intro ns;simp only[fZ,aF,ot,ih]
    exact this L _
   .rw[if_neg e]at hy;have⟨tk,m,q1,q2⟩:=hm y n hy;exact⟨tk,m,(if_neg e).trans q1,q2⟩
  have⟨k1,k2,k3⟩:=abX t vs (ms:=r) (λm hm=>h3 m<|by simp[hm]) h hs;refine⟨(cV aH<|yX L _ k1).2,k2,λm hm=>?_⟩;obtain e|e:=List.mem_cons.1 hm
  .grind
  .exact k3 m e
def Wn(t:jc)(vs:List jc)n(h:1<=n/\n<=vs.length):aA n (qi t vs):=by
 rw[qi];simp only[aA];have:∀(l:List Nat),n-1∈l->bY n (l.map λi=>Ty.var<|i+1):=by
  intro l
  induction l with
  |nil=>simp|cons x l ih=>
   intro hx;simp only[j7,bY];obtain e|e:=List.mem_cons.1 hx
   .left;simp only[aA];omega
   .exact q9 (ih e)
 exact this _<|List.mem_range.2 ae
def OQ(t:jc)(vs:List jc):size (qi t vs)=1+vs.length:=by
 rw[qi];simp only[size];have:∀(l:List Nat),ah (l.map λi=>Ty.var<|i+1)=l.length:=by
  intro l
  induction l with
  |nil=>rfl|cons x l ih=>simp only[j7,ah,size,ih,ot];omega
 rw[this,List.length_range]
def Lx{p:Prop}(h:p:=by
 intro l
 induction l with
 |nil=>trivial|cons x l ih=>exact⟨trivial,ih⟩):p:=h
def Ly{t}(vs:List jc)(h:Iu t.text):Whole (qi t vs):=by
 refine⟨h.ne 116 [111,111,32,108,97,114,103,101] aH,?_⟩;have:∀(l:List Nat),kI<|l.map λi=>Ty.var<|i+1:=by
  exact Lx
 exact this _
def S7:∀(tk:List Ty)(m:Ty),size (qt tk m)=ah tk+tk.length+size m/\(kI tk->Whole m->Whole (qt tk m))/\∀n,aA n (qt tk m)->bY n tk\/aA n m
 |[],m=>⟨by simp[qt,ah],λ_ h=>h,λn h=>q9 h⟩|t::tk,m=>by
  have⟨h1,h2,h3⟩:=S7 tk m;have e:qt (t::tk) m=In.nV t (qt tk m):=rfl;rw[e];refine⟨?_,λq1 q2=>⟨aH,q1.1,h2 q1.2 q2,trivial⟩,λn q=>?_⟩
  .simp only[size,ah,ot,h1];omega
  .simp only[aA,bY,or_false]at q;obtain q|q:=q
   .exact xc (xc q)
   .exact(h3 n q).imp q9 id
def MkFine.add{t:jc}{vs:List jc}(ht:Iu t.text):∀{ms:List Nd}{mks:qk},MkFine mks->(∀m∈ms,vs.length+nn m+kl m<=802)->(∀m∈ms,∃s L f u a,m=.mk 2 s 0 L f u a/\BL (vs.map (·.text)) L)->MkFine (qh t vs ms mks)
 |[],mks,h,_,_=>h|m::r,mks,h,hz,hm=>by
  refine MkFine.add ht (ms:=r) ?_ (λm hm=>hz m<|by simp[hm]) (λx hx=>hm x<|by simp[hx]);obtain⟨s,L,f,u,a,rfl,g⟩:=hm m ag;have hz:=hz _<|jy ..;simp only[nn,kl]at hz;have e:qp (vs.map (·.text)) (.mk 2 s 0 L f u a)=(aF (vs.map (·.text)) L).1:=by show(aF _<|fZ L).1=_;rw[g.es]
  have ln:(aF (vs.map (·.text)) L).1.length=L.length:=by
   have:∀(l:List Nd)ns,(aF ns l).1.length=l.length:=by
    intro l
    induction l with
    |nil=>intro ns;rfl|cons x l ih=>intro ns;simp only[aF,ot,ih]
   exact this L _
  have⟨a1,a2,a3⟩:=S7 (aF (vs.map (·.text)) L).1<|qi t vs;have key:∀x tk m,(if x=qn (.mk 2 s 0 L f u a)then some (qp (vs.map (·.text))<|.mk 2 s 0 L f u a,qi t vs)else mks x)=some (tk,m)->mks x=some (tk,m)\/(tk=(aF (vs.map (·.text)) L).1/\m=qi t vs):=xC;refine⟨λx tk m q=>?_,λx tk m q=>?_,λx tk m q=>?_⟩
  .obtain q|⟨rfl,rfl⟩:=key x tk m q
   .exact h.sz x tk m q
   .rw[a1,OQ,ln];have:=g.sz;omega
  .obtain q|⟨rfl,rfl⟩:=key x tk m q
   .exact h.wh x tk m q
   .exact a2 g.wh (Ly vs ht)
  .obtain q|⟨rfl,rfl⟩:=key x tk m q
   .exact h.vs x tk m q
   .intro n hn;obtain q|q:=a3 n hn
    .have:=g.oc n q;rw[List.length_map]at this;exact Wn t vs n this
    .exact q
def Lz:MkFine (λ_=>none):=⟨λ_ _ _ q=> mO,λ_ _ _ q=> mO,λ_ _ _ q=> mO⟩
def OS:sK (λ_=>none) mks:=λ_ _ q=> mO
def dNm:Dc->List BA
 |.ty _ _ _=>[]|.lt _ t b=>t.text::n_ b
structure PG(nl:List BA)(l:List Dc)e(mks:qk):Prop where
 d3:∀d∈l,D3 d
 ml:∀d∈l,MkL d
 ok:(fs fY l e).f.kind=0
 has:sK e.mks mks
 D6:MkFine mks
 nm:∀d∈l,∀s∈dNm d,s∈nl
 sz:BV l<=802
def abY{u:WW}{ty:BA->Option Nat}{own:List BA}:∀(ms:List Nd)(q:(BA->Option Nat)×Fl),(zS u ty own ms q).2.kind=0->q.2.kind=0
 |[],q,h=>h|.mk _ s _ L _ _ a::r,q,h=>by
  rw[zS]at h;exact(cV aH<|yX L _<|abY r _ h).2
def akp{u:WW}:∀(d:Dc)(e:SE),(WX u d e).f.kind=0->e.f.kind=0
 |.ty t vs ms,e,h=>(cV aH (OP<|abY ms _ h).1).2|.lt r t b,e,h=>mj b _ _ h
def OT{u:WW}:∀(l:List Dc)(e:SE),(fs u l e).f.kind=0->e.f.kind=0
 |[],e,h=>h|d::r,e,h=>akp d e<|OT r _ h
def Iu.up(h:Iu s):nY s:=by
 obtain⟨x,r,h1,h2,_⟩:=h;exact⟨x,r,h1,h2⟩
def NmV.quo(h:NmV s):QM s:=by
 obtain⟨x,r,h1,_⟩:=h;exact⟨_,h1⟩
def o5 d l:BV (d::l)=Jb d+BV l:=by simp[BV]
def Wo(h:m∈ms):nn m<=ck ms:=by
 induction ms with
 |nil=>simp at h|cons x l ih=>
  simp only[ck];obtain e|e:=List.mem_cons.1 h
  .subst e;omega
  .have:=ih e;omega
def PG.ty{nl}{t}{vs}{ms}{r}{e}{mks}(h:PG nl (.ty t vs ms::r) e mks):TdF t vs ms/\PG nl r (WX fY (.ty t vs ms) e) (qh t vs ms mks):=by
 have⟨d1,d2,d3,d4,d5⟩:=h.d3 _<|jy ..;have Y8:=h.ml _<|jy ..;have Ka:=h.ok;have h1:=OT r _ Ka;have⟨k1,k2,k3⟩:=abX t vs d5 h1 h.has;have⟨_,v2,_⟩:=OP k1;have hz:=h.sz;rw[o5]at hz;simp only[Jb]at hz;have hm1:=pW ms;refine⟨⟨d1.up,v2,ae,λv hv=>(d3 v hv).1.quo,ae,λi hi=>?_⟩,⟨λd hd=>h.d3 d<|by simp[hd],λd hd=>h.ml d<|by simp[hd],Ka,k2,h.D6.add d1 Y8 k3,λd hd=>h.nm d<|by simp[hd],ae⟩⟩;have⟨s,L,f,u,a,em,g⟩:=k3 _<|jz hi;have hn:=Wo<|jz hi;rw[em]at hn;simp only[nn]at hn;have hl:=pW L;refine⟨s,0,L,f,u,a,em,ae,λk hk=>⟨g.ty ae k hk,?_⟩⟩;have⟨s',L',f',u',a',em',_,_,g3⟩:=d5 _<|jz hi;rw[em]at em';injection em' with _ _ _ eL _ _ _;subst eL;obtain⟨z,hz'⟩:∃z,(uj (fY e.ty t.text vs.length) (vs.map (·.text)) L[k] z).kind=0:=by
  have key:∀{ms:List Nd}{q:(BA->Option Nat)×Fl},(zS fY (fY e.ty t.text vs.length) (vs.map (·.text)) ms q).2.kind=0->Nd.mk 2 s 0 L f u a∈ms->∃z,(gJ (fY e.ty t.text vs.length) (vs.map (·.text)) L z).kind=0:=by
   intro ms
   induction ms with
   |nil=>grind|cons x l ih=>
    intro q hq hm;obtain q1|q1:=List.mem_cons.1 hm
    .subst q1;rw[zS]at hq;exact⟨_,abY l _ hq⟩
    .cases x
     rw[zS]at hq;exact ih hq q1
  have⟨z,hz⟩:=key h1<|em▸jz hi;exact oO hz _<|jz hk
 have gk:=ME (g3 _<|jz hk) z hz';exact⟨gk.st,gk.es⟩
def PG.lt{nl}{t}{b}{r}{e}(h:PG nl (.lt rc t b::r) e mks):t.text∈nl/\1+nn b+BV r<=802/\ScE mks nl (λv=>v∈e.nm\/(rc=true/\v=t.text)) b/\PG nl r (WX fY (.lt rc t b) e) mks:=by
 have⟨d1,d2,d3,d4⟩:=h.d3 _<|jy ..;have Ka:=h.ok;have h1:(dX e.ty e.mks b (if rc then e.nm++[t.text]else e.nm) e.f).kind=0:=OT r _ Ka;have hz:=h.sz;rw[o5]at hz;simp only[Jb]at hz;have hn:∀s∈t.text::n_ b,s∈nl:=h.nm _<|jy ..;refine⟨hn _<|jy ..,ae,?_,⟨λd hd=>h.d3 d<|by simp[hd],λd hd=>h.ml d<|by simp[hd],Ka,h.has,h.D6,λd hd=>h.nm d<|by simp[hd],ae⟩⟩;refine ago h.has d3 _ _ h1 (λs hs=>hn s<|by simp[hs]) ae _ λs hs=>?_
 cases rc with
 |true=>
  obtain q|q:=List.mem_append.1 hs
  .exact xc q
  .grind
 |false=>exact xc hs
def PG.init(hs:¬400<s.size)(h:bX s=.ok l)(hk:(fs fY l xE).f.kind=0):PG (l.flatMap dNm) l xE (λ_=>none)/\(l.flatMap dNm).length<=802:=by
 have h1:=pZ hs;have h2:=Wm hs;rw[h]at h1 h2;refine⟨⟨h1.1,h2,hk,OS,Lz,λd hd s hs=>List.mem_flatMap.2 ⟨d,hd,hs⟩,h1.2⟩,jp ?_ h1.2⟩;clear h h1 h2 hk
 induction l with
 |nil=>simp|cons d l ih=>
  rw[List.flatMap_cons,ug,o5];have:(dNm d).length<=Jb d:=by
   cases d with
   |ty t vs ms=>simp[dNm]|lt r t b=>simp only[dNm,ot,I_,Jb];omega
  omega
def ah5:Yb qJ 2:=⟨aH,λ_=>rfl⟩
def ah6:Yb nO 2:=⟨aH,λ_=>rfl⟩
def pK:∀{L:List Nd},(∀x∈L,∀ns,Wf (bt ns<|es x).1)->∀ns,FY (aF ns<|fZ L).1/\(aF ns<|fZ L).1.length=L.length
 |[],_,ns=>⟨trivial,rfl⟩|x::L,h,ns=>by
  have⟨h1,h2⟩:=pK (L:=L) (λy hy=>h y<|by simp[hy]) (bt ns<|es x).2;simp only[fZ,aF];exact⟨⟨h x ag ns,h1⟩,by simp[h2]⟩
def sI.wf{nd:Nd}(h:sI nd):∀ns,Wf (bt ns<|es nd).1:=by
 induction h with
 |var s n f t a h1 h2 h3=>intro ns;simp[es,bt,Wf]|up s n L f t a h1 h2 h3 h4 ih=>
  intro ns;have⟨g1,g2⟩:=pK (L:=L) ih ns;simp[es,bt,iR,Wf];exact⟨h1.Yb h2 _,g1⟩
 |pr x y f t a h1 h2 dR im=>
  intro ns
  have⟨g1,g2⟩:=pK (L:=[x,y]) (λu hu=>by
   simp only[qg,qf,or_false]at hu;obtain rfl|rfl:=hu
   .exact dR
   .exact im) ns
  simp only[es,bt,iR];simp only[show(6:Nat)≠16 by decide,show(6:Nat)≠17 by decide,if_false,if_true];exact⟨by rw[g2];exact ah6,g1⟩
 |fn x y f t a h1 h2 dR im=>
  intro ns
  have⟨g1,g2⟩:=pK (L:=[x,y]) (λu hu=>by
   simp only[qg,qf,or_false]at hu;obtain rfl|rfl:=hu
   .exact dR
   .exact im) ns
  simp only[es,bt,iR];simp only[show(17:Nat)≠16 by decide,if_false,if_true];exact⟨by rw[g2];exact ah5,g1⟩
def abZ:∀{L:List Nd},(∀x∈L,ql x)->In.NWL L
 |[],_=>trivial|x::L,h=>⟨h x ag,abZ λy hy=>h y<|by simp[hy]⟩
def afE(hk:k≠14)(h:∀x∈L,ql x):ql (.mk k s n L f t a):=⟨λe=>absurd e hk,abZ h⟩
def pL(hk:k≠14)(hx:ql x)(hy:ql y):ql (.mk k s n [x,y] f t a):=⟨λe=>absurd e hk,hx,hy,trivial⟩
def ab0(hk:k≠14)(hx:ql x):ql (.mk k s n [x] f t a):=⟨λe=>absurd e hk,hx,trivial⟩
def gE(hk:k≠14):ql (.mk k s n [] f t a):=⟨λe=>absurd e hk,trivial⟩
def sI.nw{nd:Nd}(h:sI nd):ql nd:=by
 induction h with
 |var s n f t a h1 h2 h3=>exact gE aH|up s n L f t a h1 h2 h3 h4 ih=>exact afE aH ih|pr x y f t a h1 h2 dR im=>exact pL aH dR im|fn x y f t a h1 h2 dR im=>exact pL aH dR im
def Bn.nw{nd:Nd}(h:Bn nd):ql nd:=by
 induction h with
 |any=>exact gE aH|low=>exact gE aH|num=>exact gE aH|word=>exact gE aH|unit=>exact gE aH|pr x y f t a h1 h2 dR im=>exact pL aH dR im|up s n L f t a h1 h2 h3 h4 ih=>exact afE aH ih
def LA:∀{A:List (Nd×Nd)},(∀p∈A,ql p.1)->(∀p∈A,ql p.2)->In.NWL (aU A)
 |[],_,_=>trivial|(p,e)::A,h,k=>⟨h (p,e) ag,k (p,e) ag,LA (λq hq=>h q<|by simp[hq]) λq hq=>k q<|by simp[hq]⟩
def eK.nw{nd}(h:eK nd):ql nd:=by
 induction h with
 |low=>exact gE aH|up=>exact gE aH|num=>exact gE aH|word=>exact gE aH|unit=>exact gE aH|pr x y f t a _ _ dR im=>exact pL aH dR im|of x y f t a _ hy dR=>exact⟨λ_=>hy.wf [],dR,hy.nw,trivial⟩|op s x y f t a _ _ _ dR im=>exact pL aH dR im|call x y f t a _ _ dR im=>exact pL aH dR im|fn s x f t a _ _ _ ih=>exact ab0 aH ih|lt s x z f t a _ _ _ _ dR Yd=>exact pL aH dR Yd|ltr s s' x z f t a f' t' a' _ _ _ _ _ _ dR Yd=>exact pL aH (ab0 aH dR) Yd|ite x y w f t a _ _ _ dR im ihw=>exact⟨λe=>absurd e aH,dR,im,ihw,trivial⟩|mt x A f t a _ _ hp _ dR ihA=>exact⟨λe=>absurd e aH,dR,LA (λp hq=>(hp p hq).nw) ihA⟩
def MF.add{t:jc}{vs:List jc}(ht:Iu t.text)(hz:t.text.size<=400):∀{ms:List Nd}{mks:qk},In.MF mks->(∀m∈ms,GX sI m)->In.MF (qh t vs ms mks)
 |[],mks,h,_=>h|m::r,mks,h,hm=>by
  refine MF.add ht hz (ms:=r) ?_ λx hx=>hm x (by simp[hx]);obtain⟨s,L,f,u,a,rfl,g1,g2,g3⟩:=hm m ag;intro x tk mt q;simp only at q;split at q
  .injection q with q;injection q with q1 q2;subst q1 q2;refine⟨(pK (L:=L) (λy hy=>(g3 y hy).wf) _).1,ht.Yb hz _,?_⟩;have:∀(l:List Nat),FY<|l.map λi=>Ty.var<|i+1:=by
    exact Lx
   exact this _
  .exact h x tk mt q
def Y'{t}(h:Wf t):Wf (In.dS t):=In.o6 h λ_=>In.Gm
end
section
open Go.ChangeMaps Un
def nK(f:Fl)(l r:BA)(sa:Option Addr)(n c:Nat):Value:=.agg #[Nv f.kind,Nv f.ak,Nv f.to,.string l,.string r,.slice sa n c,.slice none 0 0]
def UI(z:In.Ft):BA:=if z.f.kind=6 then bs (wr dec (vars [] z.l) z.l 0)else bs []
def UJ(z:In.Ft):BA:=if z.f.kind=6 then bs (wr dec (vars (vars [] z.l) z.r) z.r 0)else bs []
def Wp(hk:z.f.kind=7)sa n c:
 Cq 65 #[nK sF (bs []) (bs []) sa n c,BW z.f .nilIface .nilIface] w λe w'=>e=.returned (nK z.f (UI z) (UJ z) sa n c)/\Bq w w':=by
 have hl:UI z=bs []:=by simp[UI,hk]
 have hr:UJ z=bs []:=by simp[UJ,hk]
 rw[hl,hr];unfold nK;rw[hk];simp only[sF];go_enter func65,ntmps65;go_wp2_with fail;refine bodyPost_ret (v:=nK ⟨7,z.f.ak,z.f.to⟩ (bs []) (bs []) sa n c) (by simp[results,Tryz.results65,go_sem,nK]) rfl ⟨rfl,?_⟩;exact((bw _).alloc ag _).alloc bP _
def Wq(HAt:∀nd,WN nd->WV nd)(hk:z.f.kind=6)(hf:sf w (λ_=>True) z vl vr)(hz:In.FtF z)sa n c:
 Cq 65 #[nK sF (bs []) (bs []) sa n c,BW z.f vl vr] w λe w'=>e=.returned (nK z.f (UI z) (UJ z) sa n c)/\Bq w w':=by
 have hl:UI z=bs (wr dec (vars [] z.l) z.l 0):=by simp[UI,hk]
 have hr:UJ z=bs (wr dec (vars (vars [] z.l) z.r) z.r 0):=by simp[UJ,hk]
 rw[hl,hr];have⟨⟨wl,zl⟩,wrr,zr⟩:=hz hk;have⟨tl,tr⟩:=hf.apart hk;have alX:=tM z.l [];have amR:=tM z.r<|vars [] z.l;simp only[uq]at alX;have HT:∀W:World,Bq w W->dW W (λb=>b<w.heap.size) z.l vl/\dW W (λb=>b<w.heap.size) z.r vr:=λW k=>⟨tl.move k.size (λb _ q=>k.block b q) λ_ _ q=>q,tr.move k.size (λb _ q=>k.block b q) λ_ _ q=>q⟩;obtain⟨ta,xa,rfl⟩:=tl.iface;obtain⟨tb,xb,rfl⟩:=tr.iface;unfold nK;rw[hk];simp only[sF];obtain⟨W0,HW⟩:∃W0,W0=((w.alloc<|Cv #[Iv 6,Nv z.f.ak,Nv z.f.to,Sv<|bs [],Sv<|bs [],Lv sa n c,Lv none 0 0] 34).alloc<|Cv #[Iv 6,Nv z.f.ak,Nv z.f.to,Fv ta xa,Fv tb xb] 146).alloc (Cv #[Iv 0,Iv 0,Iv 0,Sv ⟨#[]⟩,Sv ⟨#[]⟩,Lv none 0 0,Lv none 0 0] 34):=⟨_,rfl⟩;have K0:Bq w W0:=by rw[HW];exact((bw _).alloc ag _).alloc bP _
 have R0:Bx W0 w.heap.size #[Iv 6,Nv z.f.ak,Nv z.f.to,Sv<|bs [],Sv<|bs [],Lv sa n c,Lv none 0 0]:=by rw[HW];exact((Bx.new w _ _).alloc _).alloc _
 have F0:Bx W0 (w.heap.size+1) #[Iv 6,Nv z.f.ak,Nv z.f.to,Fv ta xa,Fv tb xb]:=by rw[HW];have:=(Bx.new (w.alloc<|Cv #[Iv 6,Nv z.f.ak,Nv z.f.to,Sv<|bs [],Sv<|bs [],Lv sa n c,Lv none 0 0] 34) #[Iv 6,Nv z.f.ak,Nv z.f.to,Fv ta xa,Fv tb xb] 146).alloc<|Cv #[Iv 0,Iv 0,Iv 0,Sv ⟨#[]⟩,Sv ⟨#[]⟩,Lv none 0 0,Lv none 0 0] 34;simpa using this
 have Z0:Bx W0 (w.heap.size+1+1) #[Iv 0,Iv 0,Iv 0,Sv ⟨#[]⟩,Sv ⟨#[]⟩,Lv none 0 0,Lv none 0 0]:=by rw[HW];have:=Bx.new ((w.alloc<|Cv #[Iv 6,Nv z.f.ak,Nv z.f.to,Sv<|bs [],Sv<|bs [],Lv sa n c,Lv none 0 0] 34).alloc<|Cv #[Iv 6,Nv z.f.ak,Nv z.f.to,Fv ta xa,Fv tb xb] 146) #[Iv 0,Iv 0,Iv 0,Sv ⟨#[]⟩,Sv ⟨#[]⟩,Lv none 0 0,Lv none 0 0] 34;simpa using this
 have zW:W0.heap.size=w.heap.size+3:=by rw[HW];simp
 go_enter func65,ntmps65;go_wp2_with fail;rw[<-HW];refine Rh.mono ?_;rintro e w1⟨cb,nb,mb,rfl,HC1,Ez,hm1,ah7,dA⟩;have K1:=K0.trans<|dA.mono K0.size;have HR1:=R0.below dA;have F1:=F0.below dA;have HZ1:=Z0.below dA;have hcw:cb≠w.heap.size:=λe=>by have h1:=HC1.c 0;rw[e,HR1.c 0]at h1;simp at h1
 have hnw:nb≠w.heap.size:=λe=>by have h1:=Ez.bk.c 0;rw[e,HR1.c 0]at h1;simp at h1
 have hs1:=dA.size;have HWr:=FQ HAt (HT w1 K1).1 (λb p=>by have:b<w.heap.size:=p;omega) Ez HC1 ah7 wl zl ae;have S1:=K1.size;have Bv:=ai F1;obtain⟨f1,f2,f3⟩:=F1;go_wp2_with fail;refine HWr.mono ?_;rintro e w2⟨rfl,N2,F2⟩;have K2:=Fr.zR K1 K1.size F2 (λx q=>by subst q;omega);have R2:=HR1.fr F2 (by show ¬w.heap.size=mb;omega);have Fa2:=Bv.fr F2 (by show ¬w.heap.size+1=mb;omega);have Z2:=HZ1.fr F2 (by show ¬w.heap.size+1+1=mb;omega);have C2:=HC1.fr F2 (by show ¬cb=mb;exact ah7);have HR3:=R2.rK 3 (Sv<|bs<|wr dec (vars [] z.l) z.l 0) #[Iv 6,Nv z.f.ak,Nv z.f.to,Sv<|bs<|wr dec (vars [] z.l) z.l 0,Sv<|bs [],Lv sa n c,Lv none 0 0] ag ag;have K3:=K2.setCell (p:=⟨w.heap.size,3,none⟩) (br _)<|Sv<|bs<|wr dec (vars [] z.l) z.l 0;have Fa3:=Fa2.oe (b2:=w.heap.size) ae 3<|Sv<|bs<|wr dec (vars [] z.l) z.l 0;have HZ3:=Z2.oe (b2:=w.heap.size) ae 3<|Sv<|bs<|wr dec (vars [] z.l) z.l 0;have C3:=C2.oe (b2:=w.heap.size) hcw 3<|Sv<|bs<|wr dec (vars [] z.l) z.l 0;have N3:=N2.set (b:=w.heap.size) (Ne.symm hnw) ae 3<|Sv<|bs<|wr dec (vars [] z.l) z.l 0;have HWr:=FQ HAt (HT _ K3).2 (λb p=>by have:b<w.heap.size:=p;omega) N3 C3 ah7 wrr zr ae;obtain⟨r1,r2,r3⟩:=R2;obtain⟨f1,f2,f3⟩:=Fa2;go_wp2_with fail;refine HWr.mono ?_;rintro e w4⟨rfl,N4,F4⟩;have K4:=Fr.zR K3 K3.size F4 (λx q=>by subst q;omega)
 have R4:=HR3.fr F4 (by show ¬w.heap.size=mb;omega);have Z4:=HZ3.fr F4 (by show ¬w.heap.size+1+1=mb;omega);have R5:=R4.rK 4 (Sv<|bs<|wr dec (vars (vars [] z.l) z.r) z.r 0) #[Iv 6,Nv z.f.ak,Nv z.f.to,Sv<|bs<|wr dec (vars [] z.l) z.l 0,Sv<|bs<|wr dec (vars (vars [] z.l) z.r) z.r 0,Lv sa n c,Lv none 0 0] ag ag;have K5:=K4.setCell (p:=⟨w.heap.size,4,none⟩) (br _)<|Sv<|bs<|wr dec (vars (vars [] z.l) z.r) z.r 0;have Z5:=Z4.oe (b2:=w.heap.size) ae 4<|Sv<|bs<|wr dec (vars (vars [] z.l) z.r) z.r 0;obtain⟨r1,r2,r3⟩:=R4;obtain⟨q1,q2,q3⟩:=Z4;go_wp2_with fail;have⟨p1,p2,p3⟩:=Z5.UX rfl (Iv 6) (Nv z.f.ak) (Nv z.f.to) (Sv<|bs<|wr dec (vars [] z.l) z.l 0) (Sv<|bs<|wr dec (vars (vars [] z.l) z.r) z.r 0) (Lv sa n c) (Lv none 0 0);refine bodyPost_ret (v:=Av #[Iv 6,Nv z.f.ak,Nv z.f.to,Sv<|bs<|wr dec (vars [] z.l) z.l 0,Sv<|bs<|wr dec (vars (vars [] z.l) z.r) z.r 0,Lv sa n c,Lv none 0 0]) (by simp[results,Tryz.results65,go_sem,p1]) rfl ⟨rfl,?_⟩;exact(((((((K5.setCell (p:=⟨w.heap.size+1+1,0,none⟩) bP _).setCell (p:=⟨w.heap.size+1+1,1,none⟩) bP _).setCell (p:=⟨w.heap.size+1+1,2,none⟩) bP _).setCell (p:=⟨w.heap.size+1+1,3,none⟩) bP _).setCell (p:=⟨w.heap.size+1+1,4,none⟩) bP _).setCell (p:=⟨w.heap.size+1+1,5,none⟩) bP _).setCell (p:=⟨w.heap.size+1+1,6,none⟩) bP _)
def Wr(HAt:∀nd,WN nd->WV nd)(hf:sf w (λ_=>True) z vl vr)(hz:In.FtF z)sa n c:
 Cq 65 #[nK sF (bs []) (bs []) sa n c,BW z.f vl vr] w λe w'=>e=.returned (nK z.f (UI z) (UJ z) sa n c)/\Bq w w':=by
 obtain hk|hk:=hf.k
 .exact Wq HAt hk hf hz sa n c
 .obtain⟨rfl,rfl⟩:=hf.pN hk;exact Wp hk sa n c
end
section
open Go.ChangeMaps Go.MapKept Un
structure KpI lo base(w w':World):Prop where
 os:w'.os=w.os
 tape:w'.tape=w.tape
 output:w'.output=w.output
 size:w.heap.size<=w'.heap.size
 low:∀b,b<w.heap.size->b<lo->w'.heap[b]? =w.heap[b]?
 box:∀b x,b<w.heap.size->base<=b->w.cell? ⟨b,0,none⟩=some x->(∀q,x≠.pointer q)->w'.heap[b]? =w.heap[b]?
def KpI.of(f:Fr S w w')(h1:∀b,S b->lo<=b)(h2:∀b x,S b->base<=b->w.cell? ⟨b,0,none⟩=some x->¬∀q,x≠.pointer q):KpI lo base w w':=
 ⟨f.os,f.tape,f.output,f.size,λb hb hl=>f.block b hb λq=>by have:=h1 b q;omega,λb x hb hl hx ho=>f.block b hb λq=>h2 b x q hl hx ho⟩
def KpI.bx{x}(k:KpI lo base w w')(h:Bx w b C)(hb:base<=b)(hx:C[0]? =some x)(ho:∀q,x≠.pointer q):Bx w' b C:=h.same k.size (k.box b x h.z hb (by rw[h.c 0];exact hx) ho)
def agQ(S:World->Nat->qk->qs->qr->Prop)lo base rs cnt(mks:qk)(s:qs)(Γ:qr)rc st a y x w(e:Ending)w':=KpI lo base w w'/\∃o,qm rc st x (qv mks x) Γ s o/\match o with
 |.error z=>∃vl vr,e=.returned (.tuple #[.nilIface,BW z.f vl vr])/\sf w' (λ_=>True) z vl vr
 |.ok (t,s1)=>(48<size (sub s1.k t)/\e=.returned (.tuple #[.nilIface,BW ⟨7,a,y⟩ .nilIface .nilIface]))\/
  (size (sub s1.k t)<=48/\∃T ta xa aE,T=(if qy x then sub s1.k t else In.dS (sub s1.k t))/\e=.returned (.tuple #[.iface ta xa,.agg L0])/\dW w' (λ_=>True) T (.iface ta xa)/\aE<=cnt+1000*(1+nn x)+48/\S w' aE mks (In.nxt rs s1) (qw Γ st ⟨T,vars [] T⟩))
structure Zb ty eb lo base rs nl(S:World->Nat->qk->qs->qr->Prop):Prop where
 af:∀{w w':World}{cnt:Nat}{mks:qk}{s:qs}{Γ:qr},S w cnt mks s Γ->Bq w w'->S w' cnt mks s Γ
 oth:∀{w w':World}{cnt:Nat}{mks:qk}{s:qs}{Γ:qr}{b:Nat}{x:Value},S w cnt mks s Γ->base<=b->w.cell? ⟨b,0,none⟩=some x->Oth x->Fr (λi=>i=b) w w'->S w' cnt mks s Γ
 mks:∃fn,(∀w,(method 641 ty (.pointer<|some ⟨eb,0,none⟩) "Makers").run Tryz.prog w=.ok (fn,.pointer<|some ⟨eb,0,none⟩) w)/\(∀(args:Array Value)(w:World),(callFunc fn args).run Tryz.prog w=.ok (.enter fn args) w)/\∀{w:World}{cnt:Nat}{mks:In.Mks}{s:In.St}{Γ:In.Env}{t:Pu.Tok}{vs:List Pu.Tok}{ms:List Nd}{f x:Int}{vv vm:Value},S w cnt mks s Γ->RowV QName 3 w (·<lo) vs vv->RowV QMaker 6 w (·<lo) ms vm->TdF t vs ms->
  Cq fn #[Pv eb,.agg #[Iv f,Iv x,Nv t.ak,Nv t.to,.string t.text,vv,vm]] w (λe w'=>e=.returned (.tuple #[])/\KpI lo base w w'/\S w' cnt (qh t vs ms mks) s Γ)
 lts:∃fn,(∀w,(method 641 ty (.pointer<|some ⟨eb,0,none⟩) "Let").run Tryz.prog w=.ok (fn,.pointer<|some ⟨eb,0,none⟩) w)/\(∀(args:Array Value)(w:World),(callFunc fn args).run Tryz.prog w=.ok (.enter fn args) w)/\∀{w:World}{cnt:Nat}{mks:In.Mks}{s:In.St}{Γ:In.Env}{rc:Bool}{st:BA}{x:Nd}{v:Value}{a y:Nat}{dom:BA->Prop},S w cnt mks s Γ->PE w (·<lo) x v->ScE mks nl (fun v=>dom v\/(rc=true/\v=st)) x->(∀x,dom x->Γ x≠none)->st∈nl->cnt+1000*(1+nn x)<=850000->1+nn x<=805->MkFine mks->
  Cq fn #[Pv eb,.agg #[.bool rc,Nv a,Nv y,.string st,v]] w (agQ S lo base rs cnt mks s Γ rc st a y x w)
structure TpD tl(g:gC)(cC:Nat->Nat)n l(D:Nat->Prop):Prop where
 up:∀m,D m->m∈g.ds/\g.nx m=none/\l<g.lv m/\g.lv m≠aL/\cC m=tl
 no:∀m,¬D m->cC m=g.lv m
 hd:∀h,Hd g.nx n h->D h\/g.lv h<=l
 cl:∀a,D a->∀c ps,g.str a=some (c,ps)->∀p,p∈ps->∀h,Hd g.nx p h->D h\/g.lv h<=l
section
variable {s:qs} {c:JC} {l cnt:Nat} {T:Ty}
def afF(js:JS w g s)(r:nJ l g s n T)(hD:∀R:Nat->Prop,(∀h,Hd g.nx n h->R h)->(∀a k ps p h,R a->g.str a=some (k,ps)->p∈ps->Hd g.nx p h->R h)->∀a,D a->R a):∀a,D a->g.lv a<=l:=λa d=>
 (hD (λx=>x∈g.ds/\g.nx x=none/\g.lv x<=l) (λh k=>⟨js.gl.bN r.mem k,k.head,r.lv h k⟩) (λa k ps p h q hs hp hh=>⟨js.gl.bN (js.jg.W_ a k ps q.1 hs p hp) hh,hh.head,jp (js.lc a q.1 q.2.1 k ps hs p hp h hh) q.2.2⟩) a d).2.2
def k9.tp(js:JS w g s)(hl:l+1<aL)(r:nJ (l+1) g s n T)(d:k9 g.str g.nx g.ds g.lv cC n l D):TpD l g cC n l D:=
 ⟨λm q=>by have⟨h1,h2,h3,h4⟩:=d.up m q;exact⟨h1,h2,h3,by have:=afF js r d.re m q;omega,h4⟩,d.no,d.hd,d.cl⟩
def vE.tp(js:JS w g s)(hl:l+1<aL)(r:nJ (l+1) g s n T)(d:vE g.str g.nx g.ds g.lv cC n l D):TpD aL g cC n l D:=
 ⟨d.up,d.no,λh k=>(d.hd h k).imp id λq=>q.resolve_right (by have:=r.lv h k;omega),λa q k ps hs p hp h hh=>(d.cl a q k ps hs p hp h hh).imp id λz=>z.resolve_right (by
  have h1:=afF js r d.re a q;have h2:=js.lc a (d.up a q).1 (d.up a q).2.1 k ps hs p hp h hh
  omega)⟩
def JS.ah8(js:JS w g s)(hS:ScD g.str g.ds g.nx S)(hn:n∈g.ds)(hh:∀h,Hd g.nx n h->S h){v}(o:aA v (g.V n)):∃x,g.R v x/\S x:=by
 classical
 have⟨y,hy⟩:=js.gl.hd n hn;have⟨x,r,q⟩:=fc (lv:=λx=>if S x then 0 else 1) js.jg js.can _ n y hn hy (br _) o;refine⟨x,r,?_⟩;have:=q λa ha na k ps hs p hp h hh=>by
  by_cases z:S a
  .simp[z,hS a ha na z k ps hs p hp h hh]
  .grind
 rw[if_pos<|hh y hy]at this;exact Classical.byContradiction λz=>by rw[if_neg z]at this;omega
def LB(aj:AJ w c nb l cnt g s)(hl:l+1<aL)(nm:∀y d,Γ y=some d->∃m,Cg g s d m)(t1:fV (l+1) c w g s w1 g1 s1)(js:JS w1 g1 s1)(hp:qm rc st x (qv c.mks x) Γ s (.ok (T,s1))){v y}(hv:aA v (sub s1.k T))(hy:g1.R v y):qu (lT rc st Γ) s1.k v↔g1.lv y<=l:=by
 have Cb:∀z d,lT rc st Γ z=some d->∃m,Cg g s d m:=λz d q=>by
  cases rc with
  |false=>exact nm z d q|true=>
   simp only[lT,if_true,In.lH]at q;split at q
   .cases q
   .exact nm z d q
 have t0:=t1.le<|jt l;have hl':l<aL:=ae;constructor
 .rintro⟨z,d,q1,q2,q3⟩;have⟨m,k⟩:=Cb z d q1;have k1:=k.eO hl' aj js t0;rw[<-k1.val]at q2;have na:¬dZ g1 v:=λa=>q3<|(k1.any v).2 ⟨q2,a⟩;rw[t1.st.val m k.mem]at q2;have⟨u,ou,ov⟩:=(qz _).1 q2;have⟨r,r1⟩:=aj.js.nZ k.mem ou;obtain e|e:=aj.lv r r1.1 r1.2.1
  .have⟨o1,o2,o3⟩:=t1.st.eR r r1.1;have⟨r',hr'⟩:=js.gl.hd r o1;have e':=t1.lo r r1.1 r r' (.here r1.2.1) hr' l (jt l) e;have ov':aA v (g1.V r):=by rw[js.val r o1<|o2.trans r1.2.2.1,o3,r1.2.2.2];exact ov
   have⟨x2,r2,e2⟩:=fc (lv:=g1.lv) js.jg js.can _ r r' o1 hr' (br _) ov';have e2:=e2 js.lc;rw[r2.one js.jg hy]at e2;omega
  .exfalso;have qa:dZ g u:=⟨r,r1,e⟩;rw[t1.root js qa]at ov;simp only[aA]at ov;subst ov;exact na<|t1.aer qa
 .intro e;have eb:qm rc st x (qv c.mks x) Γ=qm rc st x (qv c.mks x) (lT rc st Γ):=by
   cases rc with
   |false=>rfl|true=>
    unfold qm;simp only[if_true];have:∀d,qw (lT true st Γ) st d=qw Γ st d:=λd=>by
     funext z;unfold qw lT In.lH;by_cases q:z=st<;>simp[q]
    simp only[this]
  rw[eb]at hp;have hE:In.bB (λn=>¬s.u n\/qu (lT rc st Γ) s.k n) s (lT rc st Γ):=λz d q=>by
   have⟨m,k⟩:=Cb z d q;refine⟨k.use,λn o=>?_,λn o=>?_,k.sub⟩
   .by_cases a:n∈d.any
    .exact xc a
    .exact q9 (q9 ⟨z,d,q,o,a⟩)
   .have⟨o1,o2⟩:=(k.any n).1 o;obtain⟨r,r1,r2⟩:=o2;refine⟨(aj.js.root r1).2,λb=>?_⟩;obtain b|⟨z',d',b1,b2,b3⟩:=b
    .exact b (aj.js.root r1).1
    .have⟨m',k'⟩:=Cb z' d' b1;rw[<-k'.val]at b2;exact b3<|(k'.any n).2 ⟨b2,r,r1,r2⟩
  have⟨kp,ti⟩:=In.iF rc st x (In.l8 c.mks x) (lT rc st Γ) s _ aj.js.ok (λn q=>xc q) hE T s1 hp;have lv:=ti.loc v hv;have⟨u,⟨r,r1,r2⟩,ov⟩:=(t1.st.VR l (ju l) v).1 ⟨y,hy,e⟩;have hu:=aj.js.root r1;have fu:qu (lT rc st Γ) s.k u:=by
   refine Classical.byContradiction λz=>?_;have nz:¬(¬s.u u\/qu (lT rc st Γ) s.k u):=λq=>q.elim (λq=>q hu.1) z;rw[kp.fix hu.2 nz]at ov;simp only[aA]at ov;subst ov;exact nz lv
  obtain⟨z,d,q1,q2,q3⟩:=fu;have⟨m,k⟩:=Cb z d q1;refine⟨z,d,q1,?_,λa=>?_⟩
  .rw[<-GG t1.ky];exact(qz _).2 ⟨u,q2,ov⟩
  .have⟨r',a1,a2⟩:=t1.aer ((k.any v).1 a).2;rw[a1.one js.jg hy]at a2;omega
end
def vI(g:gC)l x:=∃S:Nat->Prop,ScD g.str g.ds g.nx S/\(∀y,S y->g.lv y<=l\/g.lv y=aL)/\S x
section
variable {s:qs} {c:JC} {l cnt al tl:Nat} {bi:Nx} {T:Ty}
def Ws(aj:AJ w c nb l cnt g s)(hl:l+1<aL)(nm:∀y d,Γ y=some d->∃m,Cg g s d m)(a1:AJ w1 c nb (l+1) al g1 s1)(t1:fV (l+1) c w g s w1 g1 s1)(r1:nJ (l+1) g1 s1 n T)(hp:qm rc st x (qv c.mks x) Γ s (.ok (T,s1)))(hg:GL w2 g1.ds g1.str bi g1.vr g1.ly cC)(e:iU g1.str g1.nx bi)(d:TpD (if qy x then aL else l) g1 cC n l D)(F:Fr (jS c g1) w1 w2)(je:JE w2 c nb l al):
 ∃g2,AJ w2 c nb l al g2 s1/\fV l c w g s w2 g2 s1/\Cg g2 s1 (qx (lT rc st Γ) s1.k T<|qy x) n:=by
 obtain⟨gx,W8⟩:∃gx:gC,gx={g1 with nx:=bi,lv:=cC}:=⟨_,rfl⟩;have e0:gx.ds=g1.ds:=by rw[W8]
 have e1:gx.str=g1.str:=by rw[W8]
 have e2:gx.nx=bi:=by rw[W8]
 have e3:gx.lv=cC:=by rw[W8]
 have e4:gx.vr=g1.vr:=by rw[W8]
 have e5:gx.V=g1.V:=by rw[W8]
 have hG:GL w2 gx.ds gx.str gx.nx gx.vr gx.ly gx.lv:=by rw[W8];exact hg
 have js:=a1.js;have tl2:∀m,D m->cC m=aL\/cC m=l:=λm q=>by
  have:=(d.up m q).2.2.2.2;split at this
  .exact xc this
  .exact q9 this
 have low:∀m,g1.lv m<=l->cC m=g1.lv m:=λm q=>d.no m λz=>by have:=(d.up m z).2.2.1;omega
 have any:∀m,g1.lv m=aL->cC m=aL:=λm q=>by rw[d.no m λz=>(d.up m z).2.2.2.1 q];exact q
 have bk:∀{m h},Hd gx.nx m h->Hd g1.nx m h:=λk=>e.back js.gl<|e2▸k;have fw:∀{m h},Hd g1.nx m h->Hd gx.nx m h:=λk=>e2▸e.lj _ _ k;have lc1:∀a,a∈g1.ds->g1.nx a=none->cC a<=l->∀k ps,g1.str a=some (k,ps)->∀p,p∈ps->∀h,Hd g1.nx p h->cC h<=cC a:=λa ha hn hz k ps hs p hp h hh=>by
  by_cases q:D a
  .have ea:=(tl2 a q).resolve_left ae;obtain z|z:=d.cl a q k ps hs p hp h hh
   .obtain y|y:=tl2 h z
    .have h1:=(d.up a q).2.2.2.2;have h2:=(d.up h z).2.2.2.2;omega
    .omega
   .rw[low h z];omega
  .rw[d.no a q]at hz⊢;have z:=js.lc a ha hn k ps hs p hp h hh;rw[low h ae];exact z
 have hP:ScD gx.str gx.ds gx.nx (vI gx l):=λx hx hn⟨S,h1,h2,h3⟩k ps hs p hp h hh=>⟨S,h1,h2,h1 x hx hn h3 k ps hs p hp h hh⟩;have lcx:∀a,a∈gx.ds->gx.nx a=none->vI gx l a->∀k ps,gx.str a=some (k,ps)->∀p,p∈ps->∀h,Hd gx.nx p h->gx.lv h<=gx.lv a:=λa ha hn hN k ps hs p hp h hh=>by
  have hN':=hP a ha hn hN k ps hs p hp h hh;obtain⟨S,_,q2,q3⟩:=hN;obtain⟨S',_,q2',q3'⟩:=hN';obtain z|z:=q2 a q3
  .rw[e3]at z⊢;exact lc1 a (e0▸ha) ((e.Bt a).1<|e2▸hn) z k ps (e1▸hs) p hp h<|bk hh
  .grind
 have JS2:=JS.cut hG (by rw[e1,e2];exact e.nk _ js.nk) (by rw[W8];exact js.inj) (λm h k=>by rw[e1,e4,e5];exact js.can m h<|bk k) (by rw[W8];exact js.val) (by rw[W8];exact js.use) js.ok hP lcx;have kl:∀m,m∈g1.ds->(∀h,Hd g1.nx m h->g1.lv h<=l)->gx.K (vI gx l) m:=λm hm q=>by
  refine⟨e0▸hm,λh hh=>⟨λy=>y∈g1.ds/\cC y<=l,λa ha hn z k ps hs p hp h hh=>?_,λy z=>xc (by rw[e3];exact z.2),js.gl.bN hm<|bk hh,by rw[low h<|q h<|bk hh];exact q h<|bk hh⟩⟩;rw[e0]at ha;rw[e1]at hs;exact⟨js.gl.bN (js.jg.W_ a k ps ha hs p hp)<|bk hh,jp (lc1 a ha ((e.Bt a).1<|e2▸hn) z.2 k ps hs p hp h<|bk hh) z.2⟩
 have ko:∀m,m∈g.ds->gx.K (vI gx l) m:=λm hm=>by
  have hm1:=(t1.st.eR m hm).1;have key:∀m,m∈g.ds->∀h,Hd g1.nx m h->(h∈g1.ds/\cC h<=l)\/(h∈g.ds/\g.nx h=none/\g.lv h=aL):=λm hm h hh=>by
   have⟨h0,k0⟩:=aj.js.gl.hd m hm;obtain z|z:=aj.hd hm k0
   .have:=t1.lo m hm h0 h k0 hh l (jt l) z;exact xc ⟨js.gl.bN (t1.st.eR m hm).1 hh,by rw[low h this];exact this⟩
   .rw[hh.one (t1.an m hm h0 k0 z).1];exact q9 ⟨aj.js.gl.bN hm k0,k0.head,z⟩
  refine⟨e0▸hm1,λh hh=>⟨λy=>(y∈g1.ds/\cC y<=l)\/(y∈g.ds/\g.nx y=none/\g.lv y=aL),λa ha hn z k ps hs p hp h hh=>?_,λy z=>?_,key m hm h<|bk hh⟩⟩
  .rw[e0]at ha;rw[e1]at hs;obtain z|⟨z1,z2,z3⟩:=z
   .exact xc ⟨js.gl.bN (js.jg.W_ a k ps ha hs p hp)<|bk hh,jp (lc1 a ha ((e.Bt a).1<|e2▸hn) z.2 k ps hs p hp h<|bk hh) z.2⟩
   .rw[(t1.st.eR a z1).2.1]at hs;exact key p (aj.js.jg.W_ a k ps z1 hs p hp) h<|bk hh
  .rw[e3];exact z.imp (λq=>q.2) λq=>any y (t1.an y q.1 y (.here q.2.1) q.2.2).2
 have Sn:ScD g1.str g1.ds g1.nx (λy=>D y\/(y∈g1.ds/\g1.lv y<=l)):=λa ha hn z k ps hs p hp h hh=>by
  have hd:=js.gl.bN (js.jg.W_ a k ps ha hs p hp) hh;obtain z|z:=z
  .exact(d.cl a z k ps hs p hp h hh).imp id λq=>⟨hd,q⟩
  .exact q9 ⟨hd,jp (js.lc a ha hn k ps hs p hp h hh) z.2⟩
 have Snl:∀y,D y\/(y∈g1.ds/\g1.lv y<=l)->cC y<=l\/cC y=aL:=λy z=>by
  obtain z|z:=z
  .grind
  .grind
 have hn0:∀h,Hd g1.nx n h->D h\/(h∈g1.ds/\g1.lv h<=l):=λh hh=>(d.hd h hh).imp id λq=>⟨js.gl.bN r1.mem hh,q⟩;have Sx:∀y,y∈g1.ds->g1.nx y=none->D y\/(y∈g1.ds/\g1.lv y<=l)->gx.K (vI gx l) y:=λy hy ny z=>by
  refine⟨e0▸hy,λh hh=>?_⟩;rw[(bk hh).one<|.here ny];exact⟨_,λa ha hn z k ps hs p hp h hh=>Sn a (e0▸ha) ((e.Bt a).1<|e2▸hn) z k ps (e1▸hs) p hp h<|bk hh,λy z=>by rw[e3];exact Snl y z,z⟩
 have kn:gx.K (vI gx l) n:=by
  refine⟨e0▸r1.mem,λh hh=>?_⟩;exact(Sx h (js.gl.bN r1.mem<|bk hh) (bk hh).head<|hn0 h<|bk hh).2 h (.here hh.head)
 have V2:∀{m},gx.K (vI gx l) m->(gx.cut<|vI gx l).V m=g1.V m:=λq=>by rw[(bI q).2.2,e5]
 have rt:∀{v y},(gx.cut<|vI gx l).R v y↔g1.R v y/\gx.K (vI gx l) y:=λ{v y}=>by
  constructor
  .rintro⟨q1,q2,q3,q4⟩;have k:=c_.1 q1;rw[(bI k).2.1,e2]at q2;rw[(bI k).1,e1]at q3;exact⟨⟨e0▸k.1,(e.Bt y).1 q2,q3,by have:gx.vr y=v:=q4;rw[e4]at this;exact this⟩,k⟩
  .rintro⟨⟨q1,q2,q3,q4⟩,k⟩;exact⟨c_.2 k,by rw[(bI k).2.1,e2];exact(e.Bt y).2 q2,by rw[(bI k).1,e1];exact q3,by show gx.vr y=v;rw[e4];exact q4⟩
 have lvx:(gx.cut<|vI gx l).lv=cC:=e3;refine⟨gx.cut<|vI gx l,⟨je,JS2,a1.us,λm hm hn=>?_,λm hm=>a1.lo m<|e0▸(c_.1 hm).1⟩,⟨⟨λm hm=>?_,λm hm=>?_,λi hi v=>?_⟩,λm hm h k q=>?_,λm hm h h' k k' i hi z=>?_,λm hm=>t1.nw m<|e0▸(c_.1 hm).1,?_,t1.ky,t1.um⟩,⟨c_.2 kn,?_,λv=>?_,λv o=>?_,λv q=>(In.Ga q).1⟩⟩
 .have k:=c_.1 hm;rw[(bI k).2.1]at hn;have⟨S,_,q2,q3⟩:=k.2 m<|.here hn;rw[lvx,<-e3];exact q2 m q3
 .have⟨o1,o2,o3⟩:=t1.st.eR m hm;have k:=ko m hm;exact⟨c_.2 k,by rw[(bI k).1,e1,o2],by show gx.vr m=_;rw[e4,o3]⟩
 .rw[V2<|ko m hm];exact t1.st.val m hm
 .rw[<-t1.st.VR i ae v];constructor
  .rintro⟨y,r,z⟩;rw[lvx]at z;refine⟨y,(rt.1 r).1,?_⟩;rw[<-d.no y λq=>by obtain h|h:=tl2 y q<;>omega];exact z
  .rintro⟨y,r,z⟩;exact⟨y,rt.2 ⟨r,kl y r.1 λh hh=>by rw[hh.one<|.here r.2.1];omega⟩,by rw[lvx,low y ae];exact z⟩
 .have⟨k1,q1⟩:=t1.an m hm h k q;exact⟨(aef hG (fw k1)<|ko m hm).1,by rw[lvx];exact any h q1⟩
 .have:=t1.lo m hm h h' k (bk<|ahN hG (ko m hm) k') i ae z;rw[lvx,low h' ae];exact this
 .exact t1.fr.trans' F λb q=>by
   obtain q|q|q:=q
   .omega
   .omega
   .exact(t1.nw b q).imp (λz=>q9<|q9 z) id
 .rw[V2 kn,r1.val];exact(js.ok.rf T).symm
 .rw[V2 kn,r1.val];have ab1:aA v (sub s1.k T)->∃y,g1.R v y/\(D y\/(y∈g1.ds/\g1.lv y<=l)):=λo=>js.ah8 Sn r1.mem hn0 (by rw[r1.val];exact o);have ah9:∀{y},g1.R v y->(D y\/(y∈g1.ds/\g1.lv y<=l))->(dZ (gx.cut<|vI gx l) v↔cC y=aL):=λ{y}r q=>by
   constructor
   .rintro⟨y',r',z⟩;rw[<-(rt.1 r').1.one js.jg r,<-lvx];exact z
   .exact λz=>⟨y,rt.2 ⟨r,Sx y r.1 r.2.1 q⟩,by rw[lvx];exact z⟩
  cases hv:qy x with
  |false=>
   simp only[qx];constructor
   .intro q;cases q
   .rintro⟨o,a⟩;exfalso;have⟨y,r,q⟩:=ab1 o;have z:=(ah9 r q).1 a;obtain q|q:=q
    .have:=(d.up y q).2.2.2.2;rw[hv]at this;simp only[Bool.false_eq_true,if_false]at this;omega
    .grind
  |true=>
   simp only[qx,if_true,In.yA,List.mem_filter,decide_eq_true_eq];constructor
   .rintro⟨o,nf⟩;have o:=In.aC.1 o;have⟨y,r,q⟩:=ab1 o;refine⟨o,(ah9 r q).2 ?_⟩;have nl:=λz=>nf<|(LB aj hl nm t1 js hp o r).2 z;have dy:=q.resolve_right λz=>nl z.2;have:=(d.up y dy).2.2.2.2;rw[hv]at this;exact this
   .rintro⟨o,a⟩;refine⟨In.aC.2 o,λf=>?_⟩;have⟨y,r,q⟩:=ab1 o;have z:=(ah9 r q).1 a;have:=(LB aj hl nm t1 js hp o r).1 f;rw[low y this]at z;omega
 .have o:aA v (sub s1.k T):=o;rw[<-r1.val]at o;have⟨y,r⟩:=js.nZ r1.mem o;exact(js.root r).1
end
end
section
open Un
mutual
def lS(n:Nat):Nd->Prop
 |.mk k s _ L f t a=>f<t/\t<=n/\(k=2->a+s.size<=n)/\(k=16->f+s.size<=n)/\r8 n L
def r8(n:Nat):List Nd->Prop
 |[]=>True|x::l=>lS n x/\r8 n l
end
def r8.PA{n:Nat}:∀{l m:List Nd},r8 n l->r8 n m->r8 n (l++m)
 |[],_,_,h=>h|_::_,_,h,k=>⟨h.1,r8.PA h.2 k⟩
def r8.mem{n:Nat}:∀{l:List Nd},r8 n l->∀x∈l,lS n x
 |[],_,x,hx=>by simp at hx|y::l,h,x,hx=>by
  obtain e|e:=List.mem_cons.1 hx
  .subst e;exact h.1
  .exact r8.mem h.2 x e
def pl2(hx:lS n x)(hy:lS n y):r8 n [x,y]:=⟨hx,hy,trivial⟩
def aeE:Nd->Nat
 |.mk _ _ _ _ f _ _=>f
def nT:Nd->Nat
 |.mk k _ _ _ _ _ _=>k
def Gt{α:Type}(r:Except Fl (α×Nat))(Q:α->Nat->Prop):=∀a k',r=.ok (a,k')->Q a k'
structure Ord(T:List jc)e n:Prop where
 lt:∀i j,i<=j->j<e->(tk T i).ak<(tk T j).to
 le:∀j,j<e->(tk T j).to<=n
 sp:∀j,j<e->(tk T j).to=(tk T j).ak+(tk T j).text.size
 en:(tk T e).kind=7
theorem Gt.aq{m}{f}{k}{Q:α->Nat->Prop}{R:β->Nat->Prop}(h:Gt (m k) Q)(h2:∀a k',Q a k'->Gt (f a k') R):Gt (Go.Proofs.YtfnkchdeheeiiaaGreatDoor.aq m f k) R:=by
 rw[Go.Proofs.YtfnkchdeheeiiaaGreatDoor.aq]
 cases hm:m k with
 |error e=>intro a k' q;cases q|ok p=>exact h2 _ _<|h _ _ hm
def Gt.mono{r}{Q R:α->Nat->Prop}(h:Gt r Q)(h2:∀a k',Q a k'->R a k'):Gt r R:=by grind[Gt]
def w_{f}{Q:α->Nat->Prop}:Gt (.error f) Q:=by grind[Gt]
def cI{a}{Q:α->Nat->Prop}(h:Q a k):Gt (.ok (a,k)) Q:=by grind[Gt]
def Ord.step(h:Ord T e n){k}(hk:k<=e)(hn:(tk T k).kind≠7):k+1<=e:=by
 have:k≠e:=λq=>hn (by rw[q];exact h.en);omega
def Ord.last(h:Ord T e n)(hi:i<k)(hk:k<=e):(tk T i).ak<aS T k/\aS T k<=n:=by
 rw[aS];rw[if_neg ae];exact⟨h.lt _ _ ae ae,h.le _ ae⟩
def da(h:Ord T e n)(hk:k<=e)s:Gt (bu T s k) (λ_ k'=>k'=k+1/\k'<=e):=by
 rw[bu];split
 .rename_i q;exact cI ⟨rfl,h.step hk (by rw[qU q];decide)⟩
 .exact w_
def t_(h:Ord T e n)(hk:k<=e)c(hc:c≠7):Gt (db T c k) (λt k'=>t=tk T k/\k'=k+1/\k'<=e):=by
 rw[db];split
 .rename_i q;have q':(tk T k).kind=c:=by simpa using q
  exact cI ⟨rfl,rfl,h.step hk (by rw[q'];exact hc)⟩
 .exact w_
def Wh e n k a(k':Nat):=lS n a/\k<k'/\k'<=e
def r9(T:List jc)e n(m:M Nd):=∀k,k<=e->Gt (m k) (Wh e n k)
def LD(h:Ord T e n)(hk:k<=e)mk:Gt (rA T mk k) (λa k'=>a=mk k'/\k'=k+1/\k'<=e):=
 (da h hk kx).aq λ_ k' q=>cI ⟨rfl,q.1,q.2⟩
def S9(h:Ord T e n)(hk:k<e):lS n (cE<|tk T k):=by
 have h1:=h.lt k k (br _) hk;have h2:=h.le k hk;have h3:=h.sp k hk;exact⟨h1,h2,λ_=>ae,λ_=>ae,trivial⟩
def Ord.nd(h:Ord T e n){c m}(hi:i<k')(hk:k'<=e)(h2:c≠2)(h16:c≠16)(hL:r8 n L):lS n (.mk c s m L (tk T i).ak (aS T k') a):=
 ⟨(h.last hi hk).1,(h.last hi hk).2,λq=>absurd q h2,λq=>absurd q h16,hL⟩
def S_{p:Prop}(h:p:=by
 rintro y k2⟨q1,q2,q3⟩;refine(LD h q3 _).mono ?_;rintro a k3⟨rfl,rfl,r3⟩
 exact⟨h.nd ae r3 aH aH ⟨p1,q1,trivial⟩,ae,r3⟩):p:=h
def ua(h:Ord T e n)(hp:r9 T e n part)(ht:r9 T e n uA):r9 T e n (aJ T part uA sort):=by
 intro k hk;rw[aJ];split
 .rename_i hb;have uB:=h.step hk<|yT hb;split
  .rw[g_];split
   .rename_i hc;have:=h.step uB qBn;exact cI ⟨h.nd ae this aH aH trivial,ae,this⟩
   .refine(hp (k+1) uB).aq ?_;rintro x k1⟨p1,p2,p3⟩;rw[kB];split
    .rename_i hc;have mY:=h.step p3 Bo;refine(hp (k1+1) mY).aq ?_;exact S_
    .split
     .rename_i hc;have mY:=h.step p3 qBn;refine(ht (k1+1) mY).aq ?_;exact S_
     .refine(LD h p3 _).mono ?_;rintro a k3⟨rfl,rfl,r3⟩;exact⟨p1,ae,r3⟩
  .exact cI ⟨S9 h ae,ae,uB⟩
 .exact w_
def lS.add(h:Ord T e n)(hx:lS n x)(hf:∃i,i<k'/\aeE x=(tk T i).ak)(hy:lS n y)(hk:k'<=e):lS n (x.add y<|aS T k'):=by
 obtain⟨c,s,m,L,f,t,a⟩:=x;obtain⟨i,hi,hf⟩:=hf;have hf:f=(tk T i).ak:=hf;obtain⟨h1,h2,h3,h4,h5⟩:=hx;have:=h.last hi hk;exact⟨ae,this.2,h3,h4,h5.PA ⟨hy,trivial⟩⟩
def aeF x y u:aeE (x.add y u)=aeE x:=by cases x;rfl
def Bb(h:Ord T e n){sort:Nat}{sm:M Nd}(hm:r9 T e n sm):∀f x k,k<=e->lS n x->(∃i,i<k/\aeE x=(tk T i).ak)->Gt (cQ T sm sort f x k) (λa k'=>lS n a/\k<=k'/\k'<=e)
 |0,x,k,hk,hx,_=>cI ⟨hx,br _,hk⟩|f+1,x,k,hk,hx,hi=>by
  unfold cQ;split
  .refine(hm k hk).aq ?_;rintro y k1⟨p1,p2,p3⟩;obtain⟨i,i1,i2⟩:=hi;refine(Bb h hm f _ k1 p3 (hx.add h ⟨i,ae,i2⟩ p1 p3) ⟨i,ae,by rw[aeF];exact i2⟩).mono ?_;exact iz
  .exact cI ⟨hx,br _,hk⟩
def Ta(h:Ord T e n)(hm:r9 T e n (aJ T part uA sort)):r9 T e n (gh T (aJ T part uA sort) sort):=by
 intro k hk;rw[gh];split
 .rename_i h2;have Ek:(tk T k).kind=2:=by simpa using h2
  have hsm:aJ T part uA sort k=.error (dM<|tk T k)\/aJ T part uA sort k=.ok (cE<|tk T k,k+1):=by
   rw[aJ];split
   .rw[if_neg (by rw[bh];simp[Ek])];exact q9 rfl
   .exact xc rfl
  obtain q|q:=hsm
  .rw[aq];rw[q];exact w_
  .rw[aq];rw[q];have uB:=h.step hk (by rw[Ek];decide);refine(Bb h hm T.length _ (k+1) uB (S9 h ae) ⟨k,ae,rfl⟩).mono ?_;rintro a k'⟨q1,q2,q3⟩;exact⟨q1,ae,q3⟩
 .exact hm k hk
def Tc{p:Prop}(h:p:=by
 rintro y k2⟨q1,q2,q3⟩
 exact cI ⟨h.nd ae q3 aH aH ⟨p1,q1,trivial⟩,ae,q3⟩):p:=h
def OU(h:Ord T e n):∀d,r9 T e n<|fy T d
 |0=>λk hk=>w_|d+1=>λk hk=>by
  have ih:=OU h d;rw[fy];refine(Ta h (ua h ih ih) k hk).aq ?_;rintro x k1⟨p1,p2,p3⟩;rw[lI];split
  .rename_i hc;have mY:=h.step p3 Bo;refine(ih (k1+1) mY).aq ?_;exact Tc
  .exact cI ⟨p1,p2,p3⟩
def ab2(h:Ord T e n):∀d,r9 T e n<|du T d
 |0=>λk hk=>w_|d+1=>λk hk=>by
  rw[du];exact Ta h (ua h (ab2 h d)<|λk _=>w_) k hk
def LF(h:Ord T e n){sm:M Nd}(hm:r9 T e n sm)(i:Nat):∀f x k,k<=e->i<k->lS n x->Gt (gi T sm (tk T i).ak f x k) (λa k'=>lS n a/\k<=k'/\k'<=e)
 |0,x,k,hk,hi,hx=>cI ⟨hx,br _,hk⟩|f+1,x,k,hk,hi,hx=>by
  unfold gi;split
  .refine(hm k hk).aq ?_;rintro y k1⟨p1,p2,p3⟩;refine(LF h hm i f _ k1 p3 ae<|h.nd ae p3 aH aH<|pl2 hx p1).mono ?_;exact iz
  .exact cI ⟨hx,br _,hk⟩
def LG(h:Ord T e n){sm:M Nd}(hm:r9 T e n sm)(i:Nat):∀f x k,k<=e->i<k->lS n x->Gt (gQ T sm (tk T i).ak f x k) (λa k'=>lS n a/\k<=k'/\k'<=e)
 |0,x,k,hk,hi,hx=>cI ⟨hx,br _,hk⟩|f+1,x,k,hk,hi,hx=>by
  unfold gQ;split
  .rename_i hc;refine(hm (k+1)<|h.step hk Bo).aq ?_;rintro y k1⟨p1,p2,p3⟩;refine(LG h hm i f _ k1 p3 ae<|h.nd ae p3 aH aH<|pl2 hx p1).mono ?_;exact iz
  .exact cI ⟨hx,br _,hk⟩
def Td(h:Ord T e n){sm:M Nd}(hm:r9 T e n sm)(i:Nat):∀f x k,k<=e->i<k->lS n x->Gt (n8 T sm (tk T i).ak f x k) (λa k'=>lS n a/\k<=k'/\k'<=e)
 |0,x,k,hk,hi,hx=>cI ⟨hx,br _,hk⟩|f+1,x,k,hk,hi,hx=>by
  unfold n8;split
  .rename_i hc;have h5:=hc.elim qU qU;refine(hm (k+1)<|h.step hk (by rw[h5];decide)).aq ?_;rintro y k1⟨p1,p2,p3⟩;refine(Td h hm i f _ k1 p3 ae<|h.nd ae p3 aH aH<|pl2 hx p1).mono ?_;exact iz
  .exact cI ⟨hx,br _,hk⟩
def Bc{sm:M Nd}(hm:r9 T e n sm)(hF:∀i x k,k<=e->i<k->lS n x->Gt (F (tk T i).ak x k) (λa k'=>lS n a/\k<=k'/\k'<=e)):r9 T e n (λk=>aq sm (F (tk T k).ak) k):=by
 intro k hk;refine(hm k hk).aq ?_;rintro x k1⟨p1,p2,p3⟩;refine(hF k x k1 p3 p2 p1).mono ?_;exact iz
def ah_(h:Ord T e n){sm:M Nd}(hm:r9 T e n sm):r9 T e n (sJ T<|eU T<|dn T sm):=by
 have h1:=Bc (F:=λfr=>gi T sm fr T.length) hm<|λi x k=>LF h hm i T.length x k;have h2:=Bc (F:=λfr=>gQ T (dn T sm) fr T.length) h1<|λi x k=>LG h h1 i T.length x k;exact Bc (F:=λfr=>n8 T (eU T<|dn T sm) fr T.length) h2<|λi x k=>Td h h2 i T.length x k
def aeG(h:Ord T e n){sm:M Nd}(hm:r9 T e n sm):r9 T e n (mi T sm):=by
 intro k hk;rw[mi];refine(hm k hk).aq ?_;rintro x k1⟨p1,p2,p3⟩;show Gt (if _ then _ else _) _;split
 .rename_i hc;refine(hm (k1+1)<|h.step p3 Bo).aq ?_;exact Tc
 .exact cI ⟨p1,p2,p3⟩
def ab3(h:Ord T e n)(hm:r9 T e n ex):r9 T e n (oM T ex):=by
 intro k hk;rw[oM];refine(da h hk En).aq ?_;rintro _ k1⟨rfl,p1⟩;refine(t_ h p1 1 aH).aq ?_;rintro t k2⟨rfl,rfl,p2⟩;refine(da h p2 kG).aq ?_;rintro _ k3⟨rfl,p3⟩;refine(hm _ p3).aq ?_;rintro x k4⟨q1,q2,q3⟩;exact cI ⟨h.nd ae q3 aH aH ⟨q1,trivial⟩,ae,q3⟩
def Xe n(t:jc):=t.ak<t.to/\t.to<=n
theorem Ord.tk(h:Ord T e n)(hk:k<e):Xe n (tk T k):=⟨h.lt k k (br _) hk,h.le k hk⟩
def LH(h:Ord T e n)(hm:r9 T e n ex)(hk:k<=e):Gt (bM T ex k) (λb k'=>Xe n b.2.1/\lS n b.2.2/\(b.1=10\/b.1=11)/\k<k'/\k'<=e):=by
 rw[bM];refine(da h hk rB).aq ?_;rintro _ k1⟨rfl,p1⟩;show Gt (if _ then _ else _) _;split
 .rename_i hc;refine(t_ h (h.step p1 Bo) 1 aH).aq ?_;rintro t k2⟨rfl,rfl,p2⟩;refine(da h p2 BI).aq ?_;rintro _ k3⟨rfl,p3⟩;refine(ab3 h hm _ p3).aq ?_;rintro x k4⟨q1,q2,q3⟩;exact cI ⟨h.tk ae,q1,q9 rfl,ae,q3⟩
 .refine(t_ h p1 1 aH).aq ?_;rintro t k2⟨rfl,rfl,p2⟩;refine(da h p2 BI).aq ?_;rintro _ k3⟨rfl,p3⟩;refine(hm _ p3).aq ?_;rintro x k4⟨q1,q2,q3⟩;exact cI ⟨h.tk ae,q1,xc rfl,ae,q3⟩
def Wt(h:Ord T e n)(hm:r9 T e n ex):r9 T e n (il T ex):=by
 intro k hk;rw[il];refine(da h hk kIf).aq ?_;rintro _ k1⟨rfl,p1⟩;refine(hm _ p1).aq ?_;rintro x k2⟨a1,a2,a3⟩;refine(da h a3 Pr).aq ?_;rintro _ k3⟨rfl,p3⟩;refine(hm _ p3).aq ?_;rintro y k4⟨b1,b2,b3⟩;refine(da h b3 Ps).aq ?_;rintro _ k5⟨rfl,p5⟩;refine(hm _ p5).aq ?_;rintro z k6⟨c1,c2,c3⟩;exact cI ⟨h.nd ae c3 aH aH ⟨a1,b1,c1,trivial⟩,ae,c3⟩
def aia(h:Ord T e n)(hm:r9 T e n ex):r9 T e n (li T ex):=by
 intro k hk;rw[li];refine(LH h hm hk).aq ?_;rintro⟨c,t,x⟩k1⟨s1,s2,s3,p2,p3⟩;refine(da h p3 kIn).aq ?_;rintro _ k2⟨rfl,p5⟩;refine(hm _ p5).aq ?_;rintro z k3⟨q1,q2,q3⟩;exact cI ⟨h.nd ae q3 (by obtain q|q:=s3<;>(simp only at q;omega)) (by obtain q|q:=s3<;>(simp only at q;omega)) ⟨s2,q1,trivial⟩,ae,q3⟩
def Te(h:Ord T e n){pt ex:M Nd}(hp:r9 T e n pt)(hm:r9 T e n ex):∀f l k,k<=e->r8 n l->Gt (kH T pt ex f l k) (λl' k'=>r8 n l'/\k<=k'/\k'<=e)
 |0,l,k,hk,hl=>cI ⟨hl,br _,hk⟩|f+1,l,k,hk,hl=>by
  rw[kH];refine(hp k hk).aq ?_;rintro p k1⟨a1,a2,a3⟩;refine(da h a3 kG).aq ?_;rintro _ k2⟨rfl,p2⟩;refine(hm _ p2).aq ?_;rintro x k3⟨b1,b2,b3⟩;show Gt (if _ then _ else _) _;split
  .rename_i hc;refine(Te h hp hm f _ (k3+1) (h.step b3 Bo)<|hl.PA<|pl2 a1 b1).mono ?_;rintro l' k4⟨c1,c2,c3⟩;exact⟨c1,ae,c3⟩
  .exact cI ⟨hl.PA<|pl2 a1 b1,ae,b3⟩
def ab4(h:Ord T e n){pt}(hp:r9 T e n pt)(hm:r9 T e n ex):r9 T e n (lJ T pt ex):=by
 intro k hk;rw[lJ];refine(da h hk oN).aq ?_;rintro _ k1⟨rfl,p1⟩;refine(hm _ p1).aq ?_;rintro x k2⟨a1,a2,a3⟩;refine(da h a3 Pt).aq ?_;rintro _ k3⟨rfl,p3⟩;refine(Te h hp hm T.length [x] _ p3 ⟨a1,trivial⟩).aq ?_;rintro l k4⟨b1,b2,b3⟩;refine(da h b3 acY).aq ?_;rintro _ k5⟨rfl,p5⟩;exact cI ⟨h.nd ae p5 aH aH b1,ae,p5⟩
def Tf(h:Ord T e n):∀d,r9 T e n<|bO T d
 |0=>λk hk=>w_|d+1=>λk hk=>by
  have ih:=Tf h d;rw[bO];show Gt (if _ then _ else _) _;split
  .exact ab3 h ih k hk
  .show Gt (if _ then _ else _) _;split
   .exact Wt h ih k hk
   .show Gt (if _ then _ else _) _;split
    .exact ab4 h (ab2 h d) ih k hk
    .show Gt (if _ then _ else _) _;split
     .exact aia h ih k hk
     .exact aeG h (ah_ h<|ua h ih<|OU h d) k hk
def PlD(n:Nat):Dc->Prop
 |.ty t vs ms=>Xe n t/\(∀v∈vs,Xe n v)/\∀m∈ms,lS n m/\nT m=2|.lt _ t b=>Xe n t/\lS n b
def ab5 x y u:nT (x.add y u)=nT x:=by cases x;rfl
def Bd{sort:Nat}{sm:M Nd}:∀f x k,Gt (cQ T sm sort f x k)<|λa _=>nT a=nT x
 |0,x,k=>cI rfl|f+1,x,k=>by
  unfold cQ;split
  .refine Gt.aq (Q:=λ_ _=>True) (λ_ _ _=>trivial) ?_;rintro y k1-;refine(Bd f _ k1).mono ?_;rintro a k2 q;rw[q,ab5]
  .exact cI rfl
def ab6(h:Ord T e n){sm:M Nd}(hm:r9 T e n sm)(hk:k<=e):Gt (ch T sm k) (λa k'=>(lS n a/\nT a=2)/\k<k'/\k'<=e):=by
 rw[ch];refine(t_ h hk 2 aH).aq ?_;rintro t k1⟨rfl,rfl,p1⟩;have h3:=h.sp k ae;have h4:=h.le k ae;have hx:lS n (.mk 2 (tk T k).text 0 [] (tk T k).ak (aS T<|k+1) (tk T k).ak):=⟨(h.last ae p1).1,(h.last (ju k) p1).2,λ_=>ae,λq=>absurd q aH,trivial⟩;intro a k' q;have⟨q1,q2,q3⟩:=Bb h hm T.length _ (k+1) p1 hx ⟨k,ae,rfl⟩ a k' q;exact⟨⟨q1,Bd T.length _ (k+1) a k' q⟩,ae,q3⟩
def DT(h:Ord T e n){mk:M Nd}(hm:∀k,k<=e->Gt (mk k) (λa k'=>(lS n a/\nT a=2)/\k<k'/\k'<=e)):∀f l k,k<=e->(∀m∈l,lS n m/\nT m=2)->Gt (cZ T mk f l k) (λl' k'=>(∀m∈l',lS n m/\nT m=2)/\k<=k'/\k'<=e)
 |0,l,k,hk,hl=>cI ⟨hl,br _,hk⟩|f+1,l,k,hk,hl=>by
  rw[cZ];refine(hm k hk).aq ?_;rintro m k1⟨a1,a2,a3⟩;have hl':∀x∈l++[m],lS n x/\nT x=2:=λx hx=>by
   exact GH
  rw[ie];split
  .rename_i hc;refine(DT h hm f _ (k1+1) (h.step a3 Bo) hl').mono ?_;rintro l' k2⟨c1,c2,c3⟩;exact⟨c1,ae,c3⟩
  .exact cI ⟨hl',ae,a3⟩
def Tg(h:Ord T e n):∀f l k,k<=e->(∀v∈l,Xe n v)->Gt (iM T f l k) (λl' k'=>(∀v∈l',Xe n v)/\k<=k'/\k'<=e)
 |0,l,k,hk,hl=>cI ⟨hl,br _,hk⟩|f+1,l,k,hk,hl=>by
  unfold iM;split
  .rename_i h3;have uB:=h.step hk ae;refine(Tg h f _ (k+1) uB<|λv hv=>?_).mono ?_
   .obtain q|q:=List.mem_append.1 hv
    .exact hl v q
    .rw[List.mem_singleton.1 q];exact h.tk ae
   .rintro l' k'⟨c1,c2,c3⟩;exact⟨c1,ae,c3⟩
  .exact cI ⟨hl,br _,hk⟩
def aeH(h:Ord T e n)d(hk:k<=e):Gt (cT T d k) (λx k'=>PlD n x/\k<=k'/\k'<=e):=by
 have ht:=OU h d;rw[cT];split
 .rw[tQ];refine(da h hk my).aq ?_;rintro _ k1⟨rfl,p1⟩;refine(t_ h p1 2 aH).aq ?_;rintro t k2⟨rfl,rfl,p2⟩;refine(Tg h T.length [] _ p2 ag).aq ?_;rintro l k3⟨v1,v2,v3⟩;refine(da h v3 BI).aq ?_;rintro _ k4⟨rfl,p4⟩;refine(DT h (λk hk=>ab6 h (ua h ht ht) hk) T.length [] _ p4 ag).aq ?_;rintro l k5⟨m1,m2,m3⟩;refine(da h m3 mD).aq ?_;rintro _ k6⟨rfl,p6⟩;exact cI ⟨⟨h.tk ae,v1,m1⟩,ae,p6⟩
 .rw[wP];refine(LH h (Tf h d) hk).aq ?_;rintro⟨c,t,x⟩k1⟨s1,s2,s3,p2,p3⟩;refine(da h p3 mD).aq ?_;rintro _ k2⟨rfl,p5⟩;exact cI ⟨⟨s1,s2⟩,ae,p5⟩
def LI(h:Ord T e n)(d:Nat):∀f l k,k<=e->(∀x∈l,PlD n x)->Gt (bT T (cT T d) f l k) (λl' _=>∀x∈l',PlD n x)
 |0,l,k,hk,hl=>cI hl|f+1,l,k,hk,hl=>by
  unfold bT;split
  .refine(aeH h d hk).aq ?_;rintro x k1⟨a1,a2,a3⟩;refine LI h d f _ k1 a3<|λy hy=>?_;obtain q|q:=List.mem_append.1 hy
   .exact hl y q
   .rw[List.mem_singleton.1 q];exact a1
  .exact cI hl
def Be(s:BA):∀f i,(∀(j:Nat)(h:j+1<(jd s f i).length),i<=((jd s f i)[j]).ak/\((jd s f i)[j]).ak<((jd s f i)[j]).to/\((jd s f i)[j]).to<=s.size/\((jd s f i)[j]).to=((jd s f i)[j]).ak+((jd s f i)[j]).text.size)/\∀(j k:Nat)(hjk:j<k)(h:k+1<(jd s f i).length),((jd s f i)[j]).to<=((jd s f i)[k]).ak
 |0,i=>⟨λj h=>by simp[jd]at h,λj k _ h=>by simp[jd]at h⟩|f+1,i=>by
  unfold jd;by_cases hi:i<s.size
  .by_cases hb:Pu.dJ (jk s i)=true
   .simp only[hi,hb,if_true];have⟨h1,h2⟩:=Be s f<|i+1;exact⟨λj h=>⟨by have:=(h1 j h).1;omega,(h1 j h).2⟩,h2⟩
   .simp only[hi,hb,if_true,if_false];have⟨h1,h2⟩:=Be s f (jh s i).to;have ht:=jl s i hi;have hf:=ji s i;have hsp:=Jg s i hi;refine⟨λj h=>?_,λj k hjk h=>?_⟩
    .cases j with
     |zero=>exact⟨by simp[hf],by simp[hf];exact ht.1,by simp;exact ht.2,by simpa using hsp⟩|succ j=>
      have q:=h1 j G_;exact⟨by have:=q.1;show i<=_;exact jp ae q.1,q.2⟩
    .cases k with
     |zero=>omega|succ k=>
      cases j with
      |zero=>simpa using(h1 k G_).1|succ j=>simpa using h2 j k ae G_
  .simp only[hi,if_false];exact⟨λj h=>vR,λj k _ h=>vR⟩
def aeI s:Ord (ja s 0) ((ja s 0).length-1) s.size:=by
 have⟨l,hl,_⟩:=lG s (s.size-0) 0;have e:ja s 0=l++[jf s]:=hl;have⟨h1,h2⟩:=Be s (s.size-0) 0;have h1:∀(j:Nat)(h:j+1<(ja s 0).length),0<=((ja s 0)[j]).ak/\((ja s 0)[j]).ak<((ja s 0)[j]).to/\((ja s 0)[j]).to<=s.size/\((ja s 0)[j]).to=((ja s 0)[j]).ak+((ja s 0)[j]).text.size:=h1;have h2:∀(j k:Nat)(hjk:j<k)(h:k+1<(ja s 0).length),((ja s 0)[j]).to<=((ja s 0)[k]).ak:=h2;refine⟨λi j hij hj=>?_,λj hj=>?_,λj hj=>?_,?_⟩
 .rw[<-De (T:=ja s 0) (k:=i) ae,<-De (T:=ja s 0) (k:=j) ae];have a:=h1 i ae;have b:=h1 j ae;obtain q|q:=Nat.lt_or_ge i j
  .grind
  .grind
 .rw[<-De (T:=ja s 0) (k:=j) ae];exact(h1 j ae).2.2.1
 .rw[<-De (T:=ja s 0) (k:=j) ae];exact(h1 j ae).2.2.2
 .rw[e];rw[tk];simp[jf]
def ab7(h:bX s=.ok l):∀d∈l,PlD s.size d:=by
 have h1:=LI (aeI s) (ja s 0).length (ja s 0).length [] 0 (jq _) ag;rw[bX]at h;split at h
 .cases h
 .rw[aq]at h
  cases hm:bT (ja s 0) (cT (ja s 0) (ja s 0).length) (ja s 0).length [] 0 with
  |error f=>rw[hm]at h;cases h|ok p=>
   obtain⟨l',k'⟩:=p;rw[hm]at h;have g:=h1 l' k' hm;have h:(match nF (ja s 0) l' k' with|.error f=>Except.error f|.ok (l,_)=>Except.ok l)=Except.ok l:=h;by_cases hk:(tk (ja s 0) k').kind=7
   .have he:nF (ja s 0) l' k'=.ok (l',k'):=by rw[nF];rw[if_pos hk]
    rw[he]at h
    cases h
    exact g
   .have he:nF (ja s 0) l' k'=.error (dM<|tk (ja s 0) k'):=by rw[nF];rw[if_neg hk]
    rw[he]at h
    cases h
namespace In
def PlQ n(z:Ft):=z.f.ak<z.f.to/\z.f.to<=n/\(z.f.kind=6->∀σ,sub σ z.l≠sub σ z.r)
def Hq{α:Type}n(m:MM α):=∀s o,m s o->∀z,o=.error z->PlQ n z
def Hq.ret{a:α}:Hq n (cU a):=by grind[Hq,cU]
def Hq.no:Hq n (W7:MM α):=λs o h=>h.elim
def Hq.and{m}{g:α->MM β}(h:Hq n m)(k:∀a,Hq n<|g a):Hq n (andM m g):=by grind[Hq,andM]
def Hq.ite{c:Prop}[Decidable c]{a b:MM α}(h1:Hq n a)(h2:Hq n b):Hq n (if c then a else b):=xC
def Hq.new:Hq n iP:=by grind[Hq,iP]
def Hq.draw{l}:Hq n (oE l ρ):=by grind[Hq,oE]
def Hq.inst{t}:Hq n (oo t ρ):=Hq.draw.and λ_=>.ret
def Hq.eq{a b:Ty}(h1:f<t)(h2:t<=n):Hq n (sv a b f t):=λs o h z e=>by
 obtain⟨_,rfl⟩|⟨_,_,⟨_,_,rfl⟩|⟨h3,rfl⟩⟩:=h
 .cases e;exact⟨h1,h2,nofun⟩
 .cases e
 .cases e;exact⟨h1,h2,λ_=>h3⟩
def afG(h:lS n x):gW x<ue x/\ue x<=n:=by
 cases x;exact⟨h.1,h.2.1⟩
def Hq.at{a b:Ty}(h:lS n x):Hq n (sv a b (gW x)<|ue x):=.eq (afG h).1 (afG h).2
def Hq.low{x:BA}(h1:f<t)(h2:t<=n):Hq n (qL Γ x f t):=by
 rw[qL];split
 .exact .no
 .rintro s o(⟨_,rfl⟩|⟨_,ρ,s',_,rfl⟩)z e
  .cases e;exact⟨h1,h2,nofun⟩
  .cases e
def ab8:∀{tk:List Ty}{L:List Nd}{ps:List PM}{g:Env}{ρ:Rn},r8 n L->(∀p∈ps,∀g,Hq n<|p g)->Hq n (fH tk L ps g ρ)
 |u::tk,x::L,p::ps,g,ρ,hL,hp=>by
  unfold fH;exact(hp p ag g).and λq=>Hq.inst.and λi=>(Hq.at hL.1).and λ_=>ab8 hL.2 λp' q=>hp p' Mf
 |[],_,_,_,_,_,_=>by unfold fH;exact .ret|_::_,[],_,_,_,_,_=>by unfold fH;exact .ret|_::_,_::_,[],_,_,_,_=>by unfold fH;exact .ret
def nU{γ:Type}{ps:List (Env->MM γ)}(hp:∀p∈ps,∀g,Hq n<|p g)i g:Hq n (cK ps i g):=by
 rw[cK];by_cases hi:i<ps.length
 .rw[j5,j9 hi];exact hp _ (jz hi) g
 .rw[j5,j8 ae];exact .no
def aib{ps}{g}(hL:r8 n L)(hp:∀p∈ps,∀g,Hq n<|p g):Hq n (qH mk k s L ps g):=by
 rw[qH];repeat' split
 .exact Hq.new.and λ_=>.ret
 .exact Hq.new.and λ_=>.ret
 .exact .ret
 .exact .ret
 .exact .ret
 .exact(nU hp 0 g).and λa=>(nU hp 1 a.2).and λb=>.ret
 .exact .no
 .exact(ab8 hL hp).and λq=>Hq.inst.and λi=>.ret
mutual
def afH:∀nd,lS n nd->∀g,Hq n<|du mk nd g
 |.mk k s _ L f t a,h,g=>by
  rw[du];exact aib h.2.2.2.2<|ab9 L h.2.2.2.2
def ab9:∀L,r8 n L->∀p∈iX mk L,∀g,Hq n<|p g
 |[],_,p,hp,g=>by simp[iX]at hp|x::l,h,p,hp,g=>by
  rw[iX]at hp;obtain e|e:=List.mem_cons.1 hp
  .subst e;exact afH x h.1 g
  .exact ab9 l h.2 p e g
end
def LJ:∀L,(dY mk L).length=L.length
 |[]=>by simp[dY]|x::l=>by simp[dY,LJ l]
def Th{p:Prop}(h:p:=by
 unfold iA;rw[j5,j9 hi]
 exact hL.mem _<|jz hi):p:=h
def Ti{p:Prop}(h:p:=by
 unfold cK;rw[j5,j8 (by rw[LJ];omega)]
 rfl):p:=h
def Tj{p:Prop}(h:p:=by
 rw[this];rintro s o(⟨x,h1,_⟩|⟨a,s',h1,_⟩)
 .exact h1.elim
 .exact h1.elim):p:=h
def Bf(hL:r8 n L)(hp:∀p∈dY mk L,∀g,Hq n<|p g)(i:Nat)(Γ:Env){g:Ty->MM β}(hg:lS n (iA L i)->∀a,Hq n<|g a):Hq n (andM (cK (dY mk L) i Γ) g):=by
 by_cases hi:i<L.length
 .refine(nU hp i Γ).and (hg ?_);exact Th
 .have:cK (dY mk L) i Γ=W7:=by
   exact Ti
  exact Tj
def ab_{Γ:Env}{t r:Ty}:∀(L:List Nd),r8 n L->(∀p∈dY mk L,∀g,Hq n<|p g)->Hq n (iK mk Γ t r L<|dY mk L)
 |[],_,_=>by unfold iK;exact .ret|[x],_,_=>by simp only[dY,iK];exact .ret|p::e::L,hL,hp=>by
  simp only[dY]at hp⊢;unfold iK;exact(afH p hL.1 _).and λq=>(Hq.at hL.1).and λ_=>(hp _ ag _).and λu=>(Hq.at hL.2.1).and λ_=>ab_ L hL.2.2 λp' q=>hp p' Mf
def Tk{x:BA}{e}{pe}(he:lS n e)(hp:∀g,Hq n<|pe g):Hq n (bM rc x e pe Γ):=by
 rw[bM];split
 .exact Hq.new.and λv=>(hp _).and λt=>(Hq.at he).and λ_=>.ret
 .exact hp _
def afI{x:BA}(hL:r8 n L)(hp:∀p∈dY mk L,∀g,Hq n<|p g):Hq n (li rc x (iA L 0) (cK (dY mk L) 0) (cK (dY mk L) 1) Γ):=by
 rw[li];refine Hq.and ?_ λt=>λs o q=>nU hp 1 _ s o q;by_cases hi:0<L.length
 .refine Tk ?_ (nU hp 0);exact Th
 .have:∀Γ,cK (dY mk L) 0 Γ=W7:=λΓ=>by
   exact Ti
  rw[bM];split
  .refine Hq.new.and λv=>?_;exact Tj
  .rw[this];exact .no
def aic(h1:f<t)(h2:t<=n)(hL:r8 n L)(hp:∀p∈dY mk L,∀g,Hq n<|p g):Hq n (kh mk k s L f t (dY mk L) Γ):=by
 unfold kh;refine .ite (.low h1 h2)<|.ite ?_<|.ite .ret<|.ite .ret<|.ite .ret<|.ite ?_<|.ite (.ite ?_ .no)<|.ite ?_<|.ite ?_<|.ite ?_<|.ite (afI hL hp)<|.ite (afI hL hp)<|.ite ?_<|.ite ?_ .no
 .unfold upM;split
  .exact .no
  .exact Hq.inst.and λ_=>.ret
 .exact(nU hp 0 Γ).and λa=>(nU hp 1 Γ).and λb=>.ret
 .exact Bf hL hp 0 Γ λh a=>(Hq.at h).and λ_=>.ret
 .exact Bf hL hp 0 Γ λh a=>(Hq.at h).and λ_=>Bf hL hp 1 Γ λh a=>(Hq.at h).and λ_=>.ret
 .exact(nU hp 0 Γ).and λa=>(nU hp 1 Γ).and λb=>Hq.new.and λv=>(Hq.eq h1 h2).and λ_=>.ret
 .exact Hq.new.and λv=>(nU hp 0 _).and λa=>.ret
 .exact Bf hL hp 0 Γ λh a=>(Hq.at h).and λ_=>(nU hp 1 Γ).and λb=>Bf hL hp 2 Γ λh c=>(Hq.at h).and λ_=>.ret
 .refine(nU hp 0 Γ).and λa=>Hq.new.and λv=>Hq.and ?_ λ_=>.ret
  cases L with
  |nil=>simp only[dY,List.tail];unfold iK;exact .ret|cons x l=>
   simp only[dY,List.tail]at hp⊢;exact ab_ l hL.2 λp q=>hp p Mf
mutual
def afJ:∀nd,lS n nd->∀Γ,Hq n<|inf mk nd Γ
 |.mk k s _ L f t a,h,Γ=>by
  rw[inf];exact aic h.1 h.2.1 h.2.2.2.2<|aca L h.2.2.2.2
def aca:∀L,r8 n L->∀p∈dY mk L,∀g,Hq n<|p g
 |[],_,p,hp,g=>by simp[dY]at hp|x::l,h,p,hp,g=>by
  rw[dY]at hp;obtain e|e:=List.mem_cons.1 hp
  .subst e;exact afJ x h.1 g
  .exact aca l h.2 p e g
end
def OX{rs:Bool}{n:Nat}:∀{l:List Dc}{mk:Mks}{Γ:Env}{s:St}{B:List (BA×Ty)}{F:Option Ft},(∀d∈l,PlD n d)->sG rs l mk Γ s B F->∀z,F=some z->PlQ n z
 |[],mk,Γ,s,B,F,_,h,z,e=>by rw[h.2]at e;cases e|.ty t vs ms::r,mk,Γ,s,B,F,hd,h,z,e=>OX (l:=r) (λd q=>hd d Mf) h z e|.lt rc t b::r,mk,Γ,s,B,F,hd,h,z,e=>by
  obtain⟨h1,h2⟩:Xe n t/\lS n b:=hd _<|jy ..;obtain⟨o,ho,hq⟩:=h
  cases o with
  |error x=>
   obtain⟨rfl,rfl⟩:=hq
   cases e
   exact Tk h2 (λg=>afJ b h2 g) _ _ ho _ rfl
  |ok p=>
   obtain⟨a,s1⟩:=p;obtain⟨_,rfl,rfl⟩|⟨_,T,B',_,rfl,hr⟩:=hq
   .cases e;exact⟨h1.1,h1.2,nofun⟩
   .exact OX (l:=r) (λd q=>hd d Mf) hr z e
end In
def om n(z:Fl):=z.ak<=z.to/\z.to<=n/\z.kind≠6
section
variable {ty mk:BA->Option Nat}
theorem om.tell{c}{k a b}{z}(h:om n z)(h1:a<=b)(h2:b<=n)(h3:k≠6:=by decide):om n (bm c k a b z):=by
 rw[bm,Go.Proofs.YtfnkchdeheeiiaaGreatDoor.tell];repeat' split
 all_goals first|exact⟨h1,h2,h3⟩|exact h
def om.acb{c}{z}(h:om n z)(h1:c=true->a<=b/\b<=n)(h3:k≠6:=by decide):om n (bm c k a b z):=by
 cases c with
 |false=>exact h|true=>exact h.tell (h1 rfl).1 (h1 rfl).2 h3
mutual
def afK{own:List BA}:∀nd,lS n nd->∀z,om n z->om n (uj ty own nd z)
 |.mk k s _ L f t a,h,z,hz=>by
  rw[uj];refine OY L h.2.2.2.2 _<|(hz.acb λq=>⟨ae,h.2.2.2.1 ?_⟩).acb λq=>⟨ae,h.2.2.1 ?_⟩
  .simp at q;exact q.1
  .simp at q;exact q.1
def OY{own:List BA}:∀L,r8 n L->∀z,om n z->om n (gJ ty own L z)
 |[],_,z,hz=>by rw[gJ];exact hz|x::l,h,z,hz=>by rw[gJ];exact OY l h.2 _<|afK x h.1 z hz
end
mutual
def afL:∀nd,lS n nd->∀q,om n q.2->om n (n9 mk nd q).2
 |.mk k s _ L f t a,h,q,hz=>by
  rw[n9];split
  .exact hz.tell (by have:=h.1;omega) h.2.1
  .exact acd L h.2.2.2.2 _ (hz.acb λq=>⟨ae,h.2.2.1 (by simp at q;exact q.1)⟩)
def acd:∀L,r8 n L->∀q,om n q.2->om n (dI mk L q).2
 |[],_,q,hz=>by rw[dI];exact hz|x::l,h,q,hz=>by rw[dI];exact acd l h.2 _<|afL x h.1 q hz
end
mutual
def xA:∀nd,lS n nd->∀l z,om n z->om n (dX ty mk nd l z)
 |.mk k s _ L f t a,h,l,z,hz=>by
  have h1:=h.1;rw[dX];split
  .exact hz.tell ae h.2.1
  .split
   .exact hz.tell ae h.2.1
   .split
    .exact ace L h.2.2.2.2 _ z hz
    .split
     .exact acf L h.2.2.2.2 _ _ z hz
     .split
      .exact acf L h.2.2.2.2 _ _ z hz
      .split
       .exact aid L h.2.2.2.2 _ z hz
       .split
        .exact aie L h.2.2.2.2 _ z hz
        .exact acg L h.2.2.2.2 _ z hz
def ace:∀L,r8 n L->∀l z,om n z->om n (Ev ty mk L l z)
 |[],_,l,z,hz=>by rw[Ev];exact hz|x::r,h,l,z,hz=>by rw[Ev];exact xA x h.1 l z hz
def acf:∀L,r8 n L->∀l l' z,om n z->om n (Iz ty mk L l l' z)
 |[],_,l,l',z,hz=>by rw[Iz];exact hz|x::r,h,l,l',z,hz=>by rw[Iz];exact ace r h.2 l' _<|xA x h.1 l z hz
def aie:∀L,r8 n L->∀l z,om n z->om n (Ew ty mk L l z)
 |[],_,l,z,hz=>by rw[Ew];exact hz|[x],h,l,z,hz=>by rw[Ew];exact xA x h.1 l z hz|x::y::r,h,l,z,hz=>by rw[Ew];exact afK y h.2.1 _<|xA x h.1 l z hz
def acg:∀L,r8 n L->∀l z,om n z->om n (hH ty mk L l z)
 |[],_,l,z,hz=>by rw[hH];exact hz|x::r,h,l,z,hz=>by rw[hH];exact acg r h.2 l _<|xA x h.1 l z hz
def aid:∀L,r8 n L->∀l z,om n z->om n (MI ty mk L l z)
 |[],_,l,z,hz=>by rw[MI];exact hz|x::r,h,l,z,hz=>by rw[MI];exact ach r h.2 l _<|xA x h.1 l z hz
def ach:∀L,r8 n L->∀l z,om n z->om n (mZ ty mk L l z)
 |[],_,l,z,hz=>by rw[mZ];exact hz|p::r,h,l,z,hz=>by rw[mZ];exact aif r h.2 l _<|afL p h.1 ([],z) hz
def aif:∀L,r8 n L->∀l q,om n q.2->om n (Iy ty mk L l q)
 |[],_,l,q,hz=>by rw[Iy];exact hz|x::r,h,l,q,hz=>by rw[Iy];exact ach r h.2 l _<|xA x h.1 _ q.2 hz
end
def afM:∀(vs:List jc),(∀v∈vs,Xe n v)->∀p z,om n z->om n (BU p vs z)
 |[],_,p,z,hz=>hz|v::r,h,p,z,hz=>by
  have:=h v ag;rw[BU];exact afM r (λx q=>h x Mf) _ _ (hz.tell (by have:=this.1;omega) this.2)
def afN{u:WW}{own:List BA}:∀(ms:List Nd),(∀m∈ms,lS n m/\nT m=2)->∀q,om n q.2->om n (zS u ty own ms q).2
 |[],_,q,hz=>hz|.mk k s _ L f t a::r,h,q,hz=>by
  have⟨h1,h2⟩:=h _<|jy ..;have h2:=h2;rw[zS];exact afN r (λx q=>h x Mf) _<|OY L h1.2.2.2.2 _<|hz.tell ae<|h1.2.2.1 h2
end
def OZ{n:Nat}{u:WW}:∀(l:List Dc),(∀d∈l,PlD n d)->∀e:SE,om n e.f->om n (fs u l e).f
 |[],_,e,hz=>hz|.ty t vs ms::r,h,e,hz=>by
  obtain⟨h1,h2,h3⟩:Xe n t/\(∀v∈vs,Xe n v)/\∀m∈ms,lS n m/\nT m=2:=h _<|jy ..;rw[fs];exact OZ r (λx q=>h x Mf) _ (afN ms h3 _<|afM vs h2 _ _<|hz.tell (by have:=h1.1;omega) h1.2)
 |.lt rc t b::r,h,e,hz=>by
  obtain⟨h1,h2⟩:Xe n t/\lS n b:=h _<|jy ..;rw[fs];exact OZ r (λx q=>h x Mf) _<|xA b h2 _ _ hz
section
variable {len cap:Nat} {p:Option Addr} {r:Nat->Int}
def aih:List Value:=[.string ⟨#[120]⟩,.string ⟨#[121]⟩,.string ⟨#[122]⟩]
def ub(n:Nat):UInt8:=if n=0 then 120 else if n=1 then 121 else 122
def O0 n:xX (fA<|ub n):=by
 rw[ub];split
 .exact nm1 120 aH qAq
 .split
  .exact nm1 121 aH qAq
  .exact nm1 122 aH qAq
def aii{w}(h:Bx w b aih.toArray)n(hn:n<3):w.cell? ⟨b,n,none⟩=some (.string<|fA<|ub n):=by
 rw[h.c n];have hc:n=0\/n=1\/n=2:=ae;obtain rfl|rfl|rfl:=hc<;>rfl
def PrR xb p len cap r w g(s nm c:Value)wr:=
 ∃(n:Nat)(l:List UInt8)(L:List UInt8)(A:Nat),g=3-n/\n<=3/\s=.string (bs l)/\c=Nv n/\MQ L l/\kK wr (w.heap.size+1) nm (Ex L)/\L.length=n/\(∀c∈L,xX<|fA c)/\Src wr xb p len cap r A/\Bx wr w.heap.size aih.toArray/\Ke xb w wr/\w.heap.size+1<=wr.heap.size
def afO xb p len cap r w(e:Ending)w':=∃n l L,n<=3/\L.length=n/\e=.returned (.string<|bs l)/\MQ L l/\xZ xb p len cap r w w'
def Bx.ke2{w}(h:Bx w b C)(hk:Ke rb w w')(hn:b≠rb):Bx w' b C:=h.same hk.size<|hk.block b h.z hn
def Ke.grow{xb}{a b c}(h:Ke xb a b)(g:b.grownBy c row)(hr:∀k,row=some k->a.heap.size<=k):Ke xb a c:=
 ⟨g.os.trans h.os,g.tape.trans h.tape,g.output.trans h.output,jp h.size g.size,λk hk hn=>(g.block k (jv hk h.size) (λe=>by have:=hr k e.symm;omega)).trans<|h.block k hk hn⟩
def Bx.grow{w}(h:Bx w b C)(g:w.grownBy w' row)(hr:∀k,row=some k->b<k):Bx w' b C:=h.same g.size (g.block b h.z (λe=>by have:=hr b e.symm;omega))
def Tl{p:Prop}(h:p:=by
 obtain y|y:=List.mem_append.1 hx
 .exact HN x y
 .rw[List.mem_singleton.1 y];exact O0 n):p:=h
def aeJ{A}(hS:Src w xb p len cap r A):Cq 11 #[Pv xb] w (afO xb p len cap r w):=by
 have hxz:=hS.b.z;have⟨cz,HB0⟩:=sd w aih.toArray 9;have HS0:=hS.af cz;have HK0:=Ke.of (rb:=xb) cz;go_enter func11,ntmps11
 go_wp2
 go_loopg[3,5,6] 3 (λg s nm c wr=>PrR xb p len cap r w g s nm c wr)
 case atStart=>exact⟨0,agr,[],A,rfl,ae,rfl,rfl,MQ.zero,World.ownsRow_nil _ _ _ _,rfl,ag,HS0,HB0,HK0,ag⟩
 case round=>
  obtain⟨n,l,L,A1,rfl,hn,rfl,rfl,HM,HO,hL,HN,hs,HB,HK,hz⟩:=hrel;have HC:=x_ hs 3 ae ae;have Oy:=HM.len;go_wp2_with fail;refine HC.mono ?_;rintro e w2⟨q,rfl,q0,q1,A2,HS2,mY⟩;have vC:u5.ownBlock≠some xb:=λe=>by have:=e_ HO xb e;omega
  have HK2:=HK.trans mY;have Ig:=Ey HO mY vC;have eA:=HB.ke2 mY ae;have z2:=mY.size;by_cases hq:(n:Int)<=q
  .have hn3:(n:Int)<3:=ae;have alY:n<3:=ae;have HE:=Yk 3 ae w2 A2 u5 L HS2 ⟨⟨_,Ig⟩,vC,HN⟩ ae;go_wp2_with fail;refine HE.mono ?_;rintro e w3⟨m,rfl,hm,A3,HS3,uf⟩;have hmz:(bs m).size<=312:=by rw[jN];exact hm.2
   have hlz:=jN l;have HME:=ai hm.1;have HK3:=HK2.trans uf;have HO3:=Ey Ig uf vC;have y8:=eA.ke2 uf ae;have z3:=uf.size;have hc3:=aii y8 n alY;have h1z:=PH<|ub n;by_cases akq:(330:Int)<((bs l).size:Int)+((bs m).size:Int)
   .go_wp2_with(at_builtin;refine lK rfl (.tmp 39) (.tmp 44) rfl rfl (HO3.ags _) rfl (kK.new w3 [Sv<|fA<|ub n] 0 (jq _) ag 1 rfl) qAn (by simp[Ex];omega) bP ?_;intro v4 w4 o4 g4);have hr4:=e_ HO3;have k4:=(HK3.alloc<|Cv #[Sv<|fA<|ub n] 9).grow g4<|λk e=>qBt;have s4:=hS.ke k4 ((HS3.b.alloc<|Cv #[Sv<|fA<|ub n] 9).grow g4<|λk e=>qBt) HS3.a;have b4:=(y8.alloc<|Cv #[Sv<|fA<|ub n] 9).grow g4<|λk e=>qBt;have z4:=g4.size;rw[y9]at o4;go_roundg(3-(n+1))
    case rel=>
     refine⟨n+1,_,L++[ub n],A3,rfl,ae,?_,jT,HM.next (O0 n) oa.one<|q9 rfl,o4,by simp[hL],λx hx=>?_,s4,b4,k4,by simp at z4;omega⟩
     .simp only[jD,<-lL];rfl
     .exact Tl
    case measure=>omega
   .go_wp2_with(at_builtin;refine lK rfl (.tmp 39) (.tmp 44) rfl rfl (HO3.ags _) rfl (kK.new w3 [Sv<|fA<|ub n] 0 (jq _) ag 1 rfl) qAn (by simp[Ex];omega) bP ?_;intro v4 w4 o4 g4);have hr4:=e_ HO3;have k4:=(HK3.alloc<|Cv #[Sv<|fA<|ub n] 9).grow g4<|λk e=>qBt;have s4:=hS.ke k4 ((HS3.b.alloc<|Cv #[Sv<|fA<|ub n] 9).grow g4<|λk e=>qBt) HS3.a;have b4:=(y8.alloc<|Cv #[Sv<|fA<|ub n] 9).grow g4<|λk e=>qBt;have z4:=g4.size;rw[y9]at o4;go_roundg(3-(n+1))
    case rel=>
     refine⟨n+1,_,L++[ub n],A3,rfl,ae,?_,jT,HM.next (O0 n) HME<|xc (by rw[jN]at akq hlz;rw[jN]at akq;omega),o4,by simp[hL],λx hx=>?_,s4,b4,k4,by simp at z4;omega⟩
     .simp only[jD,<-lL];rfl
     .exact Tl
    case measure=>omega
  .have hq':decide ((n:Int)<=q)=false:=by simpa using hq
   go_wp2
   go_ret;exact⟨n,l,L,hn,hL,rfl,HM,A2,HS2,HK2⟩
end
end
end Go.Proofs.YtfnkchdeheeiiaaGreatDoor
