import Derived.Test.YtnldmeakhapdhaaGreatDoorRPp
import Derived.Test.YtnldmeakhapdhaaGreatDoorRKb
set_option linter.all false
set_option maxRecDepth 100000
set_option maxHeartbeats 16000000
namespace Go.Proofs.YtnldmeakhapdhaaGreatDoor
open _root_.List renaming getElem_mem->ja,mem_cons_self->jc,getD_eq_getElem?_getD->jd,getElem?_eq_getElem->jf,append_assoc->jh,getElem?_append_right->ji,not_mem_nil->jj,nil_append->jk,mem_cons->jl,map_cons->jm,cons_append->jo,map_append->jp
open Pu renaming bH->jq,Tok->jt,aX->ju,gn->jv,dB->jx,eY->jy,fk->jz,BT->j5,cX->j6
open _root_.Nat renaming le_succ->j7,le_trans->j8,zero_le->j9,lt_of_lt_of_le->qe,lt_succ_self->qf
open Or renaming inr->qg,inl->qh
open Go.World renaming cell?_of_block->qi,ownsRow_nil->qk
open Go.RowKit.Below renaming refl->ql
open In renaming NW->qm,bX->qn,Ft->qp,Mks->qr,vJ->qs,St->qt,gd->qu,inf->qv,DA->qw,cz->qx,td->qy,sF->qz,bO->q9,sg->xc,FtF->xd,Env->xf
open Go.Proofs.Tryz renaming prog->xg,underlying9->xh
open Un.Ty renaming var->xi
open Bool renaming and_eq_true->xj
open Go.ByteArray renaming toList_eq->xk
open Classical renaming byContradiction->xm
open Un renaming written->xn
open Go Go.RowKit Proofs.Tryz
variable {C:Array Value} {s st:BA} {rc:Bool} {d:Dc} {o:Except qp (Un.Ty×qt)} {g1:f_} {Γ:xf} {s1:qt} {D:List Dc} {K p q:List Ky} {T:List jt} {F L l m r:List UInt8} {xs:List Value} {sm:M Nd} {B a b base cap cb f fr g k mb n nb rb xb:Nat} {cB:Nat->Nat} {Q S:Nat->Prop} {nd t x y z:Nd} {row:Option Nat} {α β:Type} {c:UInt8} {A:Un.Ty} {u v va vb vl vr:Value} {W w w' w1 w2:World}
section
open Go.ChangeMaps
def vG b(hB:Bx w b zF)f:
 CallsD xg 40 #[Pv b] (.panicking [{v:=guV f,recovered:=false}]) w λe u' w'=>
  e=.returned (.tuple #[])/\u'=.panicking [{v:=guV f,recovered:=true}]/\Bx w' b #[Nv f.kind,Nv f.al,Nv f.to]/\Below b w w':=by
 have hta:=abl;have B0:=ai hB;obtain⟨c,ff,z⟩:=hB;refine callsD_of_wpS Tryz.func40 rfl λfB cs hu=>?_;apply wpS_seq;apply wpS_region;simp[wpOpsS,go_sem,recoverD,hu,Tryz.ntmps40,Exit.thenS];rw[show(#[Pv b]++((Array.replicate 16 undef).setIfInBounds 3<|guV f).setIfInBounds 0 (guV f))=#[Pv b,guV f,undef,undef,guV f,undef,undef,undef,undef,undef,undef,undef,undef,undef,undef,undef,undef]from rfl];obtain⟨CS,Ic⟩:∃CS:List Frame,CS=({fn:=fB.fn,tmps:=fB.tmps,todo:=fB.todo,defers:=fB.defers,mode:=FrameMode.panicking [{v:=guV f,recovered:=true}],kind:=fB.kind,roundOf:=fB.roundOf}::cs):=⟨_,rfl⟩;rw[<-Ic];refine wpS_of_wp ?_;go_wp2_with fail;refine⟨rfl,_,Ic,.tuple #[],by simp[results,Tryz.results40,go_sem],rfl,rfl,?_,?_⟩
 .exact((B0.oQ rfl _ _ _).alloc _)
 .exact((((ql b w).setCell (br _) _).setCell (br _) _).setCell (br _) _).alloc (by simp[World.setCell];omega) _
def aeC b:
 CallsD xg 40 #[Pv b] .returning w λe u' w'=>
  e=.returned (.tuple #[])/\u'=.returning/\w'=w:=by
 refine callsD_of_wpS Tryz.func40 rfl λfB cs hu=>?_;apply wpS_seq;apply wpS_region;simp[wpOpsS,go_sem,recoverD,hu,Tryz.ntmps40,Exit.thenS];rw[show(#[Pv b]++((Array.replicate 16 undef).setIfInBounds 3 Zv).setIfInBounds 0 Zv)=#[Pv b,Zv,undef,undef,Zv,undef,undef,undef,undef,undef,undef,undef,undef,undef,undef,undef,undef]from rfl];have Ic:fB::cs={fB with mode:=.returning}::cs:=(by cases fB;simp at hu;subst hu;rfl);refine wpS_of_wp ?_
 go_wp2
 exact⟨rfl,_,Ic,.tuple #[],by simp[results,Tryz.results40,go_sem],rfl,rfl,rfl⟩
def PB(T:List jt)l:aS T (Gk T l):=λk h=>by rw[Gk];rw[if_neg ae];rfl
def D7(hs:¬400<s.size){f}(h:fin (jq s 0) (cT (jq s 0) (dD (jq s 0) (jq s 0).length) (jq s 0).length [] 0)=.error f):bV s=.error f:=by
 unfold bV;rw[if_neg hs];have:=b8 h<|λl=>PB (jq s 0) l;unfold fin at this;split at this
 .rename_i e;cases this;rw[e]
 .rename_i a k e;split at this
  .rename_i h6;exfalso;have⟨l,j,_,h2⟩:=aA e;unfold Gk at h2;split at h2
   .cases h2;omega
   .cases h2
  .cases this
def ab3(hs:¬400<s.size){l}(h:fin (jq s 0) (cT (jq s 0) (dD (jq s 0) (jq s 0).length) (jq s 0).length [] 0)=.ok (l,k)):bV s=if(tk (jq s 0) k).kind=7 then .ok l else .error (d_<|tk (jq s 0) k):=by grind[fin,cT,dD,bV,tk,d_,nE,Gk]
def pF s w(e:Ending)w':=
 ∃u f,e=.returned (.tuple #[.agg #[u],MI f])/\Bq w w'/\match bV s with
  |.error f'=>f=f'/\u=.slice none 0 0|.ok l=>f=oj/\RowV QD 1 w' (λb=>w.heap.size<=b) l u
abbrev Wr:Array Value:=#[.slice none 0 0]
theorem L6 s(hs:400<s.size):Cq 28 #[.string s,.func (.func 29) #[] #[]] w (pF s w):=by
 have h1:(400:Int)<(s.size:Int):=ae;have hp:Hid (bV s=.error ⟨1,0,0⟩):=by show _=_;simp[bV,hs]
 have B0:=(Bx.new w Wr 46).alloc<|Cv zF 30;have F0:Bx ((w.alloc<|Cv Wr 46).alloc<|Cv zF 30) (w.heap.size+1) zF:=by have:=Bx.new (w.alloc<|Cv Wr 46) zF 30;simpa using this
 obtain⟨c,f,z⟩:=B0;obtain⟨c',f',z'⟩:=F0
 go_enter_defers Tryz.func28,Tryz.ntmps28
 go_wp2_with fail;simp[bodyPostD,Leaves,settle,results,Tryz.results28,go_sem];refine⟨_,⟨1,0,0⟩,rfl,(bw _).alloc ag _,?_⟩;rw[uh hp];exact⟨rfl,rfl⟩
theorem ab4(h:Laid w)s(hs:¬400<s.size)(hT:(jq s 0).length<=1001):Calls xg 28 #[.string s,.func (.func 29) #[] #[]] w (pF s w):=by
 have h1:decide ((400:Int)<(s.size:Int))=false:=bF;have kY:s.size<=1000:=ae;have hT0:0<(jq s 0).length:=by
  rw[mG s 0<|j9 _];split<;>simp
 have B0:=(Bx.new w Wr 46).alloc<|Cv zF 30;have F0:Bx ((w.alloc<|Cv Wr 46).alloc<|Cv zF 30) (w.heap.size+1) zF:=by have:=Bx.new (w.alloc<|Cv Wr 46) zF 30;simpa using this
 have cr:Below w.heap.size w ((w.alloc<|Cv Wr 46).alloc<|Cv zF 30):=(bw _).alloc ag _;have oR:((w.alloc<|Cv Wr 46).alloc<|Cv zF 30).heap.size=w.heap.size+2:=ag;have HL:=h.af cr
 go_enter_defers Tryz.func28,Tryz.ntmps28
 go_wp2_with fail;refine(JB HL s kY).mono ?_;intro e w1 hp;obtain⟨aeD,hp⟩:=hp;rw[oR]at hp;have B1:=B0.below aeD;have F1:=F0.below aeD;have eH:=cr.trans<|aeD.mono cr.size;have et:=lB s 0 hT0;rw[show aG (jq s 0) 0=0 from rfl]at et;have z1:=aeD.size;rw[oR]at z1;obtain⟨h6,rfl,N,sb,m,X1,E1⟩|⟨h6,rfl⟩:=hp
 .rw[<-et]at X1 h6;have S1:SX w1 N (w.heap.size+2) sb m s 0:=⟨by rw[show aG (jq s 0) 0=0 from rfl];exact X1,E1,hT0,h6⟩;have HA:=Wq (n:=(jq s 0).length) kY hT S1 ae;have hrb:=S1.z;go_wp2_with fail;refine HA.mono ?_;intro e w2 hp
  cases hA:fin (jq s 0) (cT (jq s 0) (dD (jq s 0) (jq s 0).length) (jq s 0).length [] 0)with
  |error f=>
   obtain⟨rfl,K2⟩:=hp.bad hA;have eG:=K2.low eH eH.size ae;refine leaves_cons (f:=40) (args:=#[.pointer<|some ⟨w.heap.size+1,0,none⟩]) ag qBb ?_;refine(vG (w.heap.size+1) (F1.xI K2 ae)<|f).mono ?_;rintro e u' w9⟨rfl,rfl,hB,hb⟩;obtain⟨c9,_,_⟩:=hB;have P9:=(B1.xI K2 ae).same hb.size<|hb.block w.heap.size<|qf _;obtain⟨d9,_,_⟩:=P9;simp[Leaves,settle,results,Tryz.results28,go_sem,c9,d9];refine⟨_,f,rfl,eG.trans<|hb.mono<|j7 _,?_⟩;rw[D7 hs hA];exact⟨rfl,rfl⟩
  |ok r=>
  obtain⟨l,k⟩:=r;obtain⟨v,rfl,K2,S2,u,rfl,RV⟩:=hp.ok hA;have eG:=K2.low eH eH.size ae;have z2:=K2.size;have hrd:=ab3 hs hA;have hk:=S2.lt;have ho:=eX s k hk;have hke:=Zg ho S2.ok;have⟨oS,R3⟩:=rq w2 #[u] 46;have B3:=(B1.xI K2 ae).below oS;have F3:=(F1.xI K2 ae).below oS;have YT:=S2.af oS;have zQ:=eG.trans<|oS.mono eG.size;have RV3:RowV QD 1 (w2.alloc<|Cv #[u] 46) (λb=>w1.heap.size<=b/\b<w2.heap.size) l u:=RV.move bR oS.size (λb _ z=>oS.block b z)<|λb p z=>⟨p,z⟩;have z3:(w2.alloc<|Cv #[u] 46).heap.size=w2.heap.size+1:=ag;obtain⟨va,vc,cs,hu,_,_⟩:=RV;subst hu;have al1:=ai RV3;by_cases h7:(tk (jq s 0) k).kind=7
  .have t7:((aq<|tk (jq s 0) k).toList==Ds.toList)=true:=by rw[show Ds.toList=[116,104,101,32,101,110,100]from toList_mk _,hke];simp[h7]
   go_wp2_with fail;refine(kJ YT.rd kY (tn s k hk) Ds t7).mono ?_;intro e w3 hp;obtain⟨rfl,K3,R4⟩:=hp.ok<|aay hk h7;have zk:=K3.size;have B4:=B3.xI K3 ae;have F4:=F3.xI K3 ae;have R5:=R3.xI K3 ae;have HBB:=K3.low zQ zQ.size ae;have al2:=al1.move bR K3.size (λb p z=>K3.block b z ae)<|λ_ p _=>p;have al3:=ai B4;have al4:=ai F4;obtain⟨c3,f3,y3⟩:=R5;obtain⟨c4,f4,y4⟩:=B4;obtain⟨c5,f5,y5⟩:=F4;go_wp2_with fail;have B6:=(((al3.aR 0 (Lv va l.length vc) #[Lv va l.length vc] rfl ag).bT (b2:=w.heap.size+1) ae 0 (.int .i64 0)).bT (b2:=w.heap.size+1) ae 1 (.int .i64 0)).bT (b2:=w.heap.size+1) ae 2 (.int .i64 0);have F6:=(al4.bT (b2:=w.heap.size) ae 0<|Lv va l.length vc).oQ rfl (.int .i64 0) (.int .i64 0) (.int .i64 0);have RV6:=((((al2.uJ bR (b:=w.heap.size) (λc p=>ae) 0<|Lv va l.length vc).uJ bR (b:=w.heap.size+1) (λc p=>ae) 0<|.int .i64 0).uJ bR (b:=w.heap.size+1) (λc p=>ae) 1<|.int .i64 0).uJ bR (b:=w.heap.size+1) (λc p=>ae) 2<|.int .i64 0).move bR (br _) (λ_ _ _=>rfl) (P':=λb=>w.heap.size<=b)<|λb p _=>ae
   have HB6:=(((HBB.setCell (p:=⟨w.heap.size,0,none⟩) (br _)<|Lv va l.length vc).setCell (p:=⟨w.heap.size+1,0,none⟩) (j7 _)<|.int .i64 0).setCell (p:=⟨w.heap.size+1,1,none⟩) (j7 _)<|.int .i64 0).setCell (p:=⟨w.heap.size+1,2,none⟩) (j7 _)<|.int .i64 0;refine leaves_cons (f:=40) (args:=#[.pointer<|some ⟨w.heap.size+1,0,none⟩]) ag qBb ?_;refine(aeC<|w.heap.size+1).mono ?_;rintro e u' w9⟨rfl,rfl,rfl⟩;obtain⟨c7,_,_⟩:=B6;obtain⟨c8,_,_⟩:=F6;simp[Leaves,settle,results,Tryz.results28,go_sem,c7,c8];refine⟨_,oj,rfl,HB6,?_⟩;rw[hrd,if_pos h7];exact⟨rfl,RV6⟩
  .have t7:((aq<|tk (jq s 0) k).toList==Ds.toList)=false:=by rw[show Ds.toList=[116,104,101,32,101,110,100]from toList_mk _,hke];simp[h7]
   go_wp2_with fail;refine(EY YT.rd Ds t7 YT.ok).mono ?_;rintro e w3⟨rfl,K3⟩;have HB4:=K3.low zQ zQ.size ae;rw[if_neg h7]at hrd;refine leaves_cons (f:=40) (args:=#[.pointer<|some ⟨w.heap.size+1,0,none⟩]) ag qBb ?_;refine(vG (w.heap.size+1) (F3.xI K3 ae)<|d_<|tk (jq s 0) k).mono ?_;rintro e u' w9⟨rfl,rfl,hB,hb⟩;obtain⟨c9,_,_⟩:=hB;have P9:=(B3.xI K3 ae).same hb.size<|hb.block w.heap.size<|qf _;obtain⟨d9,_,_⟩:=P9;simp[Leaves,settle,results,Tryz.results28,go_sem,c9,d9];refine⟨_,d_<|tk (jq s 0) k,rfl,HB4.trans<|hb.mono<|j7 _,?_⟩;rw[hrd];exact⟨rfl,rfl⟩
 .rw[<-et]at h6⊢;have jQ:fin (jq s 0) (cT (jq s 0) (dD (jq s 0) (jq s 0).length) (jq s 0).length [] 0)=.error (d_<|tk (jq s 0) 0):=w_ _ _ _ _ 0 h6;refine leaves_cons (f:=40) (args:=#[.pointer<|some ⟨w.heap.size+1,0,none⟩]) ag qBb ?_;refine(vG (w.heap.size+1) F1<|d_<|tk (jq s 0) 0).mono ?_;rintro e u' w9⟨rfl,rfl,hB,hb⟩;obtain⟨c9,_,_⟩:=hB;have P9:=B1.same hb.size<|hb.block w.heap.size<|qf _;obtain⟨d9,_,_⟩:=P9;simp[Leaves,settle,results,Tryz.results28,go_sem,c9,d9];refine⟨_,d_<|tk (jq s 0) 0,rfl,eH.trans<|hb.mono<|j7 _,?_⟩;rw[D7 hs jQ];exact⟨rfl,rfl⟩
def PC(h:Laid w)s:Cq 28 #[.string s,.func (.func 29) #[] #[]] w (pF s w):=by grind[pF,L6,ab4,aaz]
def anm{p:Prop}(h:p:=by
 cases hr:bV s with
 |error f'=>rw[hr]at hp;exact⟨_,_,_,hp.2⟩|ok l=>rw[hr]at hp;obtain⟨va,vc,cs,e,_⟩:=hp.2;exact⟨_,_,_,e⟩):p:=h
def UK(h:Laid w)s:Cq 20 #[.string s] w (pF s w):=by
 have cr:Bq w ((w.alloc<|Cv Wr 46).alloc<|Cv zF 30):=(bw _).alloc ag _;have oR:((w.alloc<|Cv Wr 46).alloc<|Cv zF 30).heap.size=w.heap.size+2:=ag;have B0:=(Bx.new w Wr 46).alloc<|Cv zF 30;have F0:Bx ((w.alloc<|Cv Wr 46).alloc<|Cv zF 30) (w.heap.size+1) zF:=(by have:=Bx.new (w.alloc<|Cv Wr 46) zF 30;simpa using this);have HC:=PC (h.af cr) s;go_enter func20,ntmps20;go_wp2_with fail;refine HC.mono ?_;rintro e w1⟨u,f,rfl,dz,hp⟩;have B1:=B0.below dz;have F1:=F0.below dz;have B2:=(((B1.aR 0 u #[u] rfl ag).bT (b2:=w.heap.size+1) ae 0 (Nv f.kind)).bT (b2:=w.heap.size+1) ae 1 (Nv f.al)).bT (b2:=w.heap.size+1) ae 2 (Nv f.to);have F2:=(F1.bT (b2:=w.heap.size) ae 0 u).oQ rfl (Nv f.kind) (Nv f.al) (Nv f.to);have eG:=((((cr.trans<|dz.mono cr.size).setCell (p:=⟨w.heap.size,0,none⟩) (br _) u).setCell (p:=⟨w.heap.size+1,0,none⟩) (Nat.le_succ _)<|Nv f.kind).setCell (p:=⟨w.heap.size+1,1,none⟩) (Nat.le_succ _)<|Nv f.al).setCell (p:=⟨w.heap.size+1,2,none⟩) (Nat.le_succ _)<|Nv f.to;obtain⟨va,vc,n,hu⟩:∃va vc n,u=Lv va n vc:=by
  exact anm
 subst hu;obtain⟨c1,f1,z1⟩:=B1;obtain⟨c2,f2,z2⟩:=F1;have Hp:=ai hp;rw[MI];go_wp2_with fail;obtain⟨c3,f3,z3⟩:=B2;obtain⟨c4,f4,z4⟩:=F2;refine bodyPost_ret (v:=.tuple #[Av #[Lv va n vc],MI f]) (by simp[results,Tryz.results20,go_sem,MI,c3,c4]) rfl ⟨Lv va n vc,f,rfl,eG,?_⟩;have hp:=uh Hp
 cases hr:bV s with
 |error f'=>rw[hr]at hp;exact hp|ok l=>
  rw[hr]at hp;rw[oR]at hp;have q:∀c,w.heap.size+2<=c->c≠w.heap.size:=λc h=>ae;have q':∀c,w.heap.size+2<=c->c≠w.heap.size+1:=λc h=>ae;exact⟨hp.1,((((hp.2.uJ bR (b:=w.heap.size) q 0 _).uJ bR (b:=w.heap.size+1) q' 0 _).uJ bR (b:=w.heap.size+1) q' 1 _).uJ bR (b:=w.heap.size+1) q' 2 _).move bR (br _) (λ_ _ _=>rfl) (λb p _=>by have p':w.heap.size+2<=b:=p;show w.heap.size<=b;omega)⟩
end
def Qo:∀l m,dI (l++m)=dI l++dI m
 |[],m=>rfl|x::l,m=>by simp[dI,Qo l m]
abbrev sQ:Ky:=(5,[116,114,117,101])
abbrev agi:Ky:=(5,[95])
abbrev yEq:Ky:=(5,[61])
abbrev Nt:Ky:=(5,[124])
abbrev vZ:Ky:=(5,[59])
abbrev aiS:Ky:=(5,[102,117,110])
abbrev BU:Ky:=(5,[108,101,116])
abbrev yIn:Ky:=(5,[105,110])
abbrev yIf:Ky:=(5,[105,102])
abbrev Qp:Ky:=(5,[116,104,101,110])
abbrev Qq:Ky:=(5,[101,108,115,101])
abbrev Yq:Ky:=(5,[109,97,116,99,104])
abbrev Yr:Ky:=(5,[119,105,116,104])
abbrev Uy:Ky:=(5,[101,110,100])
abbrev C8:Ky:=(5,[116,121,112,101])
def acU[BEq α][LawfulBEq α][DecidableEq α](a b:α):(a==b)=decide (a=b):=by by_cases h:a=b<;>simp[h]
def Ys{t:jt}:aU t ⟨l.toArray⟩=decide (iL t=(5,l)):=by
 rw[Qr,acU]
def ye(s:BA):(⟨s.toList.toArray⟩:BA)=s:=toList_inj<|toList_mk _
abbrev Nu(x:Ky)(f g:Nat):jt:=⟨x.1,⟨x.2.toArray⟩,f,g⟩
def jC(t:jt):t=Nu (iL t) t.al t.to:=by simp[iL,Nu,ye]
def stops:List Ky:=[hH,Nw,yIn,Qp,Qq,Yr,Nt,Uy,vZ]
def En(T:List jt)(k:Nat):Prop:=iL (tk T k)∈stops
def agj{x:Ky}(h:x∈stops)(f g:Nat):aF (Nu x f g) 3=false/\aU (Nu x f g) fc=false/\(aU (Nu x f g) gh||aU (Nu x f g) dE)=false/\aU (Nu x f g) dL=false:=by
 simp only[stops,jl,jj,or_false]at h;obtain rfl|rfl|rfl|rfl|rfl|rfl|rfl|rfl|rfl:=h<;>exact⟨qkr,qkr,qkr,qkr⟩
def En.no(h:En T k):aF (tk T k) 3=false/\aU (tk T k) fc=false/\(aU (tk T k) gh||aU (tk T k) dE)=false/\aU (tk T k) dL=false:=by
 rw[jC<|tk T k];exact agj h _ _
def IP(t:jt):Bool:=aF t 3&& !aU t IQ&& !aU t kIf&& !aU t rD&& !aU t sR
def Bg(p:List Ky):=∃x r,p=x::r/\∀f g,IP (Nu x f g)=true
def HdK(p:List Ky):=∃x r,p=x::r/\x≠hH
def Bg.len(h:Bg p):1<=p.length:=by obtain⟨x,r,rfl,_⟩:=h;simp
def Bg.C9(h:Bg p)(q:List Ky):Bg (p++q):=by obtain⟨x,r,rfl,h⟩:=h;exact⟨x,r++q,rfl,h⟩
def Bg.at(h:Bg p)(hs:jD T k p):IP (tk T k)=true:=by
 obtain⟨x,r,rfl,h⟩:=h;rw[jC<|tk T k,hs.hd];exact h _ _
def Bg.hd(h:Bg p):HdK p:=by obtain⟨x,r,rfl,h⟩:=h;exact⟨x,r,rfl,by rintro rfl;exact Bool.noConfusion<|(by kernel_rfl:false=IP (Nu hH 0 0)).trans<|h 0 0⟩
section
variable (T:List jt) (n:Nat)
abbrev sm3:M Nd:=aH T (bq T n) (gP T n) 3
abbrev sm2:M Nd:=aH T (dv T n) (lO T) 2
end
def RdT(m:M Nd)(k:Nat)(p:List Ky)(t:Nd):=∃nd,es nd=t/\m k=.ok (nd,k+p.length)
def iM(v:Nat)(p:List Ky)(t:Nd):Prop:=match v with
 |5=>Bg p/\∀T k n,jD T k p->p.length<=n+1->p.length<=T.length+1->RdT (sm3 T n) k p t|4=>Bg p/\∀T k n f,jD T k p->p.length<=n+1->p.length<=T.length+1->p.length<=f+1->∃nd f',es nd=t/\f+1<=f'+p.length/\aK (sm3 T n) (gp T (sm3 T n) (tk T k).al f) k=gp T (sm3 T n) (tk T k).al f' nd (k+p.length)|_=>HdK p/\∀T k n,jD T k p->p.length<=n->p.length<=T.length+1->En T (k+p.length)->RdT (bq T n) k p t
def iM.d54(h:iM 5 p t):iM 4 p t:=⟨h.1,λT k n f hs hn hT hf=>by
 have⟨nd,e,hr⟩:=h.2 T k n hs hn hT
 exact⟨nd,f,e,by have:=h.1.len;omega,by rw[aK];rw[hr]⟩⟩
def Ny(h:En T k):gp T sm fr f x k=.ok (x,k):=by
 cases f with
 |zero=>rfl|succ f=>unfold gp;rw[h.no.1];rfl
def Nz(h:En T k):iX T sm fr f x k=.ok (x,k):=by
 cases f with
 |zero=>rfl|succ f=>unfold iX;rw[h.no.2.1];rfl
def Uz(h:En T k):qD T sm fr f x k=.ok (x,k):=by
 cases f with
 |zero=>rfl|succ f=>unfold qD;rw[if_neg (by have:=h.no.2.2.1;simp_all)]
def iM.d40(h:iM 4 p t):iM 0 p t:=⟨h.1.hd,λT k n hs hn hT he=>by
 have h1:=h.1.len;obtain⟨m,rfl⟩:∃m,n=m+1:=⟨n-1,ae⟩;have hc:=h.1.at hs;simp only[IP,xj,Bool.not_eq_true']at hc;have⟨nd,f',e,_,hr⟩:=h.2 T k m T.length hs hn hT hT;refine⟨nd,e,?_⟩;unfold bq;rw[hc.1.1.1.2,hc.1.1.2,hc.1.2,hc.2];show oH T (rE T<|eE T<|cO T<|sm3 T m) k=_;have c1:cO T (sm3 T m) k=.ok (nd,k+p.length):=by rw[cO];rw[hr,Ny he]
 have c2:eE T (cO T<|sm3 T m) k=.ok (nd,k+p.length):=by rw[eE];simp only[aK,c1,Nz he]
 have c3:rE T (eE T<|cO T<|sm3 T m) k=.ok (nd,k+p.length):=by rw[rE];simp only[aK,c2,Uz he]
 rw[oH];simp only[aK,c3,he.no.2.2.2]
 rfl⟩
def iM.d50(h:iM 5 p t):iM 0 p t:=h.d54.d40
def eU(x:Ky):Nd:=es<|b_<|Nu x 0 0
def iM.leaf{x:Ky}(h:∀f g,IP (Nu x f g)=true/\aU (Nu x f g) ls=false):iM 5 [x] (eU x):=by
 refine⟨⟨x,[],rfl,λf g=>(h f g).1⟩,λT k n hs _ _=>⟨b_<|tk T k,?_,?_⟩⟩
 .rw[jC<|tk T k,hs.hd];rfl
 .have hb:IP (tk T k)=true/\aU (tk T k) ls=false:=by rw[jC<|tk T k,hs.hd];exact h _ _
  simp only[IP,xj]at hb;show aH T _ _ 3 k=_;rw[aH];rw[hb.1.1.1.1.1,hb.2];rfl
def dX(h:iL (tk T k)=(5,l)):bz T ⟨l.toArray⟩ k=.ok ((),k+1):=by
 rw[bz];rw[Ys,h,decide_eq_true rfl];rfl
def Qs(h:iL (tk T k)=(n,l)):cY T n k=.ok (tk T k,k+1)/\(tk T k).text=⟨l.toArray⟩:=by
 have h1:(tk T k).kind=n:=congrArg Prod.fst h;refine⟨by rw[cY];rw[h1];simp,toList_inj ?_⟩;exact(congrArg Prod.snd h).trans (toList_mk l).symm
def mz{x:Ky}(h:iL (tk T k)=x)(hx:x≠(5,l)):aU (tk T k) ⟨l.toArray⟩=false:=by
 rw[Ys,h,decide_eq_false hx]
def iN(h:iL (tk T k)=(5,l)):aU (tk T k) ⟨l.toArray⟩=true:=by
 rw[Ys,h,decide_eq_true rfl]
def Yt(h:En T a)(e:a=b):En T b:=by rw[<-e];exact h
def lP{x:Ky}(h:iL (tk T k)=x)(hv:x∈stops):En T k:=by rw[En];rw[h];exact hv
def nX:Nd:=.mk 5 eW 0 [] 0 0 0
def Qt(x y:Nd):Nd:=.mk 6 eW 0 [x,y] 0 0 0
def C_(x y:Nd):Nd:=.mk 8 eW 0 [x,y] 0 0 0
def lY(s:BA)(x:Nd):Nd:=.mk 9 s 0 [x] 0 0 0
def acV(c:Nat)(s:BA)(x y:Nd):Nd:=.mk c s 0 [x,y] 0 0 0
def tIf(x y z:Nd):Nd:=.mk 12 eW 0 [x,y,z] 0 0 0
def tMt(x:Nd)(A:List (Nd×Nd)):Nd:=.mk 13 eW 0 (x::aP A) 0 0 0
def Eu(q:List Ky):Bg (qR::q):=⟨qR,q,rfl,λ_ _=>qkr⟩
def zI(h:iL (tk T k)=qR):aF (tk T k) 3=true:=by rw[jC<|tk T k,h];kernel_rfl
def iM.unit:iM 5 [qR,hH] nX:=by
 refine⟨Eu _,λT k n hs _ _=>⟨.mk 5 eW 0 [] (tk T k).al (aG T<|k+1+1) (tk T k).al,rfl,?_⟩⟩;have h0:=hs.hd;have h1:=hs.tl.hd;show aH T _ _ 3 k=_;rw[aH];rw[zI h0,iN h0];rw[gq];rw[iN h1];rfl
def iM.par(h:iM 0 p x):iM 5 (qR::(p++[hH])) x:=by
 refine⟨Eu _,λT k n hs hn hT=>?_⟩;simp only[yE,lM,qO]at hn hT;have h0:=hs.hd;have hp:=hs.tl.left;have hc:=hs.tl.right.hd;obtain⟨⟨c,r,rfl,Uk⟩,hr⟩:=h;have⟨nd,e,hr⟩:=hr T (k+1) n hp ae ae<|lP hc aB;refine⟨nd,e,?_⟩;show aH T _ _ 3 k=_;rw[aH];rw[zI h0,iN h0];rw[gq];rw[mz hp.hd Uk];simp only[aK,hr,kx,mz hc<|show hH≠(5,[44]) by decide,mz hc<|show hH≠(5,[58]) by decide,IR _ hc];simp[Nat.add_assoc,Nat.add_comm 1]
def iM.pair(h:iM 0 p x)(h':iM 0 q y):iM 5 (qR::(p++(Nw::(q++[hH])))) (Qt x y):=by
 refine⟨Eu _,λT k n hs hn hT=>?_⟩;simp only[yE,lM,qO]at hn hT;have h0:=hs.hd;have hp:=hs.tl.left;have hm:=hs.tl.right.hd;have hq:=hs.tl.right.tl.left;have hc:=hs.tl.right.tl.right.hd;obtain⟨⟨c,r,rfl,Uk⟩,hr⟩:=h;have⟨nd,e,hr⟩:=hr T (k+1) n hp ae ae<|lP hm aB;have⟨Qv,e2,yf⟩:=h'.2 T _ n hq ae ae<|lP hc aB;refine⟨.mk 6 eW 0 [nd,Qv] (tk T k).al (aG T<|k+1+(c::r).length+1+q.length+1) (tk T k).al,by simp[es,dI,e,e2,Qt],?_⟩;show aH T _ _ 3 k=_;rw[aH];rw[zI h0,iN h0];rw[gq];rw[mz hp.hd Uk];simp only[aK,hr,kx,iN hm,yf,IR _ hc];simp;omega
def iM.C9(h:iM 4 p x)(h':iM 5 q y):iM 4 (p++q) (C_ x y):=by
 refine⟨h.1.C9 q,λT k n f hs hn hT hf=>?_⟩;simp only[lM]at hn hT hf;have n2:=h'.1.len;have⟨nd,f',e,hff,hr⟩:=h.2 T k n f hs.left ae ae ae;have⟨Qv,e2,yf⟩:=h'.2 T (k+p.length) n hs.right ae ae;obtain⟨g,rfl⟩:∃g,f'=g+1:=⟨f'-1,ae⟩;refine⟨.mk 8 eW 0 [nd,Qv] (tk T k).al (aG T<|k+p.length+q.length) (tk T k).al,g,by simp[es,dI,e,e2,C_],bF,?_⟩;rw[hr];show(if _ then _ else _)=_;have hb:=h'.1.at hs.right;simp only[IP,xj]at hb;rw[if_pos hb.1.1.1.1];rw[aK];rw[yf];simp[Nat.add_assoc]
def RdF(p:List Ky)(t:Nd):=∃q s x,p=aiS::(1,s)::zJ::q/\t=lY ⟨s.toArray⟩ x/\iM 0 q x
def RdF.reads(h:RdF p t)(hs:jD T k p)(hn:p.length<=n+1)(hT:p.length<=T.length+1)(he:En T (k+p.length)):RdT (rF T<|bq T n) k p t:=by
 obtain⟨q,s,x,rfl,rfl,h⟩:=h;simp only[yE]at hn hT;have h0:=hs.hd;have h1:=hs.tl.hd;have h2:=hs.tl.tl.hd;have⟨nd,e,hr⟩:=h.2 T _ n hs.tl.tl.tl ae ae (Yt he (by simp<;>omega));have⟨g1,g2⟩:=Qs h1;refine⟨.mk 9 (tk T<|k+1).text 0 [nd] (tk T k).al (aG T<|k+1+1+1+q.length) (tk T<|k+1).al,by rw[g2];simp[es,dI,e,lY],?_⟩;rw[rF];simp only[aK,dX h0,g1,dX h2,hr];simp;omega
def RdF.rds(h:RdF p t):iM 0 p t:=by
 have h':=h;obtain⟨q,s,x,rfl,rfl,_⟩:=h';refine⟨⟨_,_,rfl,aB⟩,λT k n hs hn hT he=>?_⟩;simp only[yE]at hn;obtain⟨m,rfl⟩:∃m,n=m+1:=⟨n-1,ae⟩;have h0:=hs.hd;have⟨nd,e,hr⟩:=h.reads (n:=m) hs bF hT he;refine⟨nd,e,?_⟩;unfold bq;rw[iN h0,if_pos rfl];exact hr
def RdB(p:List Ky)(s:List UInt8)(t:Nd):=∃q,p=BU::(1,s)::yEq::q/\iM 0 q t
def RdB.reads{s:List UInt8}(h:RdB p s t)(hs:jD T k p)(hn:p.length<=n+1)(hT:p.length<=T.length+1)(he:En T (k+p.length)):∃tok nd,es nd=t/\tok.text=⟨s.toArray⟩/\bX T (bq T n) k=.ok ((10,tok,nd),k+p.length):=by
 obtain⟨q,rfl,h⟩:=h;simp only[yE]at hn hT;have h0:=hs.hd;have h1:=hs.tl.hd;have h2:=hs.tl.tl.hd;have⟨nd,e,hr⟩:=h.2 T _ n hs.tl.tl.tl ae ae (Yt he (by simp<;>omega));have⟨g1,g2⟩:=Qs h1;refine⟨tk T<|k+1,nd,e,g2,?_⟩;rw[bX];simp only[aK,dX h0,mz h1<|show((1,s):Ky)≠(5,[114,101,99]) by simp,g1,dX h2,hr];simp;omega
def iM.lt{s:List UInt8}(h:RdB p s x)(h':iM 0 q y):iM 0 (p++(yIn::q)) (acV 10 ⟨s.toArray⟩ x y):=by
 have hh:=h;obtain⟨r,rfl,-⟩:=hh;refine⟨⟨BU,_,rfl,aB⟩,λT k n hs hn hT he=>?_⟩;simp only[lM,yE]at hn hT;obtain⟨m,rfl⟩:∃m,n=m+1:=⟨n-1,ae⟩;have hm:=hs.right.hd;have⟨tok,nd,e,g,hr⟩:=h.reads (n:=m) hs.left bF bF<|lP hm aB;have⟨Qv,e2,yf⟩:=h'.2 T _ m hs.right.tl ae ae (Yt he (by simp<;>omega));have h0:iL (tk T k)=BU:=hs.left.hd;refine⟨.mk 10 tok.text 0 [nd,Qv] (tk T k).al (aG T<|k+(BU::(1,s)::yEq::r).length+1+q.length) tok.al,by rw[g];simp[es,dI,e,e2,acV],?_⟩;unfold bq;rw[mz h0 aB,mz h0 aB,mz h0 aB,iN h0];show oe T (bq T m) k=_;rw[oe];simp only[aK,hr,dX hm,yf];simp;omega
def iM.ite{r:List Ky}(h:iM 0 p x)(h':iM 0 q y)(h'':iM 0 r z):iM 0 (yIf::(p++(Qp::(q++(Qq::r))))) (tIf x y z):=by
 refine⟨⟨_,_,rfl,aB⟩,λT k n hs hn hT he=>?_⟩;simp only[lM,yE]at hn hT;obtain⟨m,rfl⟩:∃m,n=m+1:=⟨n-1,ae⟩;have h0:=hs.hd;have hp:=hs.tl.left;have h1:=hs.tl.right.hd;have hq:=hs.tl.right.tl.left;have h2:=hs.tl.right.tl.right.hd;have hr':=hs.tl.right.tl.right.tl;have⟨nd,e,hr⟩:=h.2 T _ m hp ae ae<|lP h1 aB;have⟨Qv,e2,yf⟩:=h'.2 T _ m hq ae ae<|lP h2 aB
 have⟨Hi,e3,hr3⟩:=h''.2 T _ m hr' ae ae (by
  have:k+1+p.length+1+q.length+1+r.length=k+(yIf::(p++(Qp::(q++(Qq::r))))).length:=bF
  rw[this];exact he)
 refine⟨.mk 12 eW 0 [nd,Qv,Hi] (tk T k).al (aG T<|k+1+p.length+1+q.length+1+r.length) (tk T k).al,by simp[es,dI,e,e2,e3,tIf],?_⟩;unfold bq;rw[mz h0 aB,iN h0];show lz T (bq T m) k=_;rw[lz];simp only[aK,dX h0,hr,dX h1,yf,dX h2,hr3];simp;omega
def tUp(s:BA)(L:List Nd):Nd:=.mk 2 s 0 L 0 0 0
def Hj(v:Nat)(p:List Ky)(t:Nd):Prop:=match v with
 |5=>(∃x r,p=x::r/\∀f g,aF (Nu x f g) 2=true)/\∀T k n,jD T k p->p.length<=n+1->p.length<=T.length+1->RdT (sm2 T n) k p t|_=>(∃s r,p=(2,s)::r)/\∀T k n f,jD T k p->p.length<=n+1->p.length<=T.length+1->p.length<=f+1->∃nd f',es nd=t/\f+1<=f'+p.length/\aK (sm2 T n) (dM T (sm2 T n) 2 f) k=dM T (sm2 T n) 2 f' nd (k+p.length)
def Hj.sS(h:Hj 4 p x)(hs:jD T k p)(hn:p.length<=n)(hT:p.length<=T.length+1)(he:iL (tk T<|k+p.length)=zJ):RdT (dv T n) k p x:=by
 obtain⟨⟨s,r,rfl⟩,h⟩:=h;obtain⟨m,rfl⟩:∃m,n=m+1:=⟨n-1,by simp at hn;omega⟩;have⟨nd,f',e,_,hr⟩:=h T k m T.length hs hn hT hT;refine⟨nd,e,?_⟩;rw[dv,iY];have hk:(tk T k).kind=2:=congrArg Prod.fst hs.hd;rw[hk];show aK (sm2 T m) (dM T (sm2 T m) 2 T.length) k=_;rw[hr];have hb:aF (tk T<|k+((2,s)::r).length) 2=false:=by rw[jC<|tk T _,he];kernel_rfl
 cases f' with
 |zero=>rfl|succ f=>unfold dM;rw[hb];rfl
def Hj.leaf{x:Ky}(h:∀f g,aF (Nu x f g) 2=true/\aU (Nu x f g) ls=false):Hj 5 [x] (eU x):=by
 refine⟨⟨x,[],rfl,λf g=>(h f g).1⟩,λT k n hs _ _=>⟨b_<|tk T k,?_,?_⟩⟩
 .rw[jC<|tk T k,hs.hd];rfl
 .have hb:aF (tk T k) 2=true/\aU (tk T k) ls=false:=by rw[jC<|tk T k,hs.hd];exact h _ _
  show aH T _ _ 2 k=_;rw[aH];rw[hb.1,hb.2];rfl
def Hj.up(s:List UInt8):Hj 4 [(2,s)] (tUp ⟨s.toArray⟩ []):=by
 refine⟨⟨s,[],rfl⟩,λT k n f hs hn hT hf=>?_⟩;have⟨nd,e,hr⟩:=(Hj.leaf (x:=(2,s)) λ_ _=>⟨qkr,qkr⟩).2 T k n hs hn hT;exact⟨nd,f,e,ag,by rw[aK];rw[hr]⟩
def agk(a b:Nd)(u:Nat)(s:BA)(L:List Nd)(h:es a=tUp s L):es (a.add b u)=tUp s (L++[es b]):=by
 obtain⟨k,s',n,L',f,t,a⟩:=a;simp only[es,tUp,Nd.mk.injEq]at h;obtain⟨rfl,h1,_,rfl,_⟩:=h;simp at h1;subst h1;simp[Nd.add,es,Qo,dI,tUp]
def Hj.arg{L:List Nd}(h:Hj 4 p (tUp s L))(h':Hj 5 q y):Hj 4 (p++q) (tUp s<|L++[y]):=by
 obtain⟨⟨s0,r,rfl⟩,h⟩:=h;refine⟨⟨s0,r++q,rfl⟩,λT k n f hs hn hT hf=>?_⟩;simp only[lM]at hn hT hf;obtain⟨⟨y0,r0,rfl,cr⟩,h'⟩:=h';have n2:1<=(y0::r0).length:=ag;have⟨nd,f',e,hff,hr⟩:=h T k n f hs.left ae ae ae;have⟨Qv,e2,yf⟩:=h' T _ n hs.right ae ae;obtain⟨g,rfl⟩:∃g,f'=g+1:=⟨f'-1,ae⟩;refine⟨nd.add Qv<|aG T<|k+((2,s0)::r).length+(y0::r0).length,g,by rw[agk _ _ _ s L e,e2],by simp only[lM];omega,?_⟩;rw[hr];show(if _ then _ else _)=_;rw[if_pos (by rw[jC<|tk T _,hs.right.hd];exact cr _ _)];rw[aK];rw[yf,lM,<-Nat.add_assoc]
inductive RdA:List Ky->List (Nd×Nd)->Prop where
 |one{p r:List Ky}{x y:Nd}:Hj 4 p x->iM 0 r y->RdA (p++(zJ::r)) [(x,y)]
 |cons{p r q:List Ky}{x y:Nd}{A:List (Nd×Nd)}:Hj 4 p x->iM 0 r y->RdA q A->RdA (p++(zJ::(r++(Nt::q)))) ((x,y)::A)
def esA(A:List (Nd×Nd)):List (Nd×Nd):=A.map λp=>(es p.1,es p.2)
def Qw:∀A,dI (aP A)=aP (esA A)
 |[]=>rfl|p::A=>by simp[aP,dI,esA];exact Qw A
def RdA.reads{A:List (Nd×Nd)}(h:RdA q A):∀(T:List jt)(k n f:Nat)(l:List Nd),jD T k q->q.length<=n->q.length<=T.length+1->q.length<=f->iL (tk T<|k+q.length)=Uy->∃B,esA B=A/\lA T (dv T n) (bq T n) f l k=.ok (l++aP B,k+q.length):=by
 induction h with
 | @one p r x y hp hr=>
   intro T k n f l hs hn hT hf he;simp only[lM,yE]at hn hT hf he;have hm:=hs.right.hd;obtain⟨f,rfl⟩:∃g,f=g+1:=⟨f-1,ae⟩;have⟨nd,e,h1⟩:=hp.sS (n:=n) hs.left ae ae hm;have⟨Qv,e2,h2⟩:=hr.2 T _ n hs.right.tl ae ae (lP (x:=Uy) (by rw[<-he];congr 2;omega) aB);refine⟨[(nd,Qv)],by simp[esA,e,e2],?_⟩;have hb:aU (tk T<|k+p.length+1+r.length) UA=false:=mz (by rw[<-he];congr 2;omega) (show Uy≠(5,[124]) by decide);rw[lA];simp only[aK,h1,dX hm,h2,hb];simp[aP];omega
 | @cons p r q x y A hp hr hA ih=>
   intro T k n f l hs hn hT hf he;simp only[lM,yE]at hn hT hf he;have hm:=hs.right.hd;have hr':=hs.right.tl.left;have hb:=hs.right.tl.right.hd;have hq:=hs.right.tl.right.tl;obtain⟨f,rfl⟩:∃g,f=g+1:=⟨f-1,ae⟩;have⟨nd,e,h1⟩:=hp.sS (n:=n) hs.left ae ae hm;have⟨Qv,e2,h2⟩:=hr.2 T _ n hr' ae ae<|lP hb aB;have⟨B,e3,h3⟩:=ih T _ n f (l++[nd,Qv]) hq ae ae ae (by rw[<-he];congr 2;omega);refine⟨(nd,Qv)::B,by simp[esA,e,e2];exact e3,?_⟩;rw[lA];simp only[aK,h1,dX hm,h2,iN hb,h3];simp[aP];omega
def iM.mt{A:List (Nd×Nd)}(h:iM 0 p x)(h':RdA q A):iM 0 (Yq::(p++(Yr::(q++[Uy])))) (tMt x A):=by
 refine⟨⟨_,_,rfl,aB⟩,λT k n hs hn hT he=>?_⟩;simp only[lM,yE,qO]at hn hT;obtain⟨m,rfl⟩:∃m,n=m+1:=⟨n-1,ae⟩;have h0:=hs.hd;have hp:=hs.tl.left;have h1:=hs.tl.right.hd;have hq:=hs.tl.right.tl.left;have h2:=hs.tl.right.tl.right.hd;have⟨nd,e,hr⟩:=h.2 T _ m hp ae ae<|lP h1 aB;have⟨B,e2,yf⟩:=h'.reads T _ m T.length [nd] hq ae ae ae h2;refine⟨.mk 13 eW 0 (nd::aP B) (tk T k).al (aG T<|k+1+p.length+1+q.length+1) (tk T k).al,by simp[es,dI,e,Qw,e2,tMt],?_⟩;unfold bq;rw[mz h0 aB,mz h0 aB,iN h0];show oI T (dv T m) (bq T m) k=_;rw[oI];simp only[aK,dX h0,hr,dX h1,yf,dX h2];simp;omega
section
open Un
def agl(c:UInt8)(h1:jv c.toNat=false)(h2:j5 c.toNat=false)(h3:jx c.toNat=false)(h4:c.toNat≠39)(h5:c.toNat≠45)(h6:Pu.GH c.toNat=true)(h7:Pu.cL c.toNat=false):Lx false [c] [(5,[c])]:=by
 intro s i hs hi _;have⟨h0,e⟩:=hs.hd;refine nj hs hi h0 (by rw[e];exact h7) ?_;rw[j6];rw[e,h1,h2,h3,h6,if_neg ag,if_neg ag,if_neg ae,if_neg ag,if_neg ae,if_pos rfl];rfl
def Yu(x:UInt8)(r:List UInt8)(hx:jv x.toNat=true)(hr:∀y∈r,ju y.toNat=true):Lx true (x::r) [(if jz ⟨(x::r).toArray⟩=true then 5 else 1,x::r)]:=by
 intro s i hs hi hn;have⟨h0,h1⟩:=hs.hd
 have he:=hs.end_ (p:=ju) (λy hy=>by
  obtain rfl|hy:=List.mem_cons.1 hy
  .simp[ju,hx]
  .exact hr y hy) (hn rfl)
 have hx2:s.extract i (i+(x::r).length)=⟨(x::r).toArray⟩:=GI (by rw[hs.ext ae,toList_mk]);refine nj hs hi h0 ?_ ?_
 .rw[h1];simp[jv]at hx;simp[Pu.cL];omega
 .rw[j6];rw[h1,he,hx2,if_pos hx];split<;>rfl
def qE.lx(h:qE s):Lx true s.toList [(1,s.toList)]:=by
 obtain⟨x,r,e,h1,h2,h3⟩:=h;have:=Yu x r h1 h2;rw[h3]at this;rw[e];simpa using this
def BV.lx(h:BV s):Lx true s.toList [(2,s.toList)]:=by
 obtain⟨x,r,e,h1,h2⟩:=h;rw[e];exact Yv x r h1 h2
def NmV.lx(h:NmV s):Lx true s.toList [(3,s.toList)]:=by
 obtain⟨x,r,e,h1,h2,h3⟩:=h;rw[e];exact agm x r h1 h2 h3
def acW(x:UInt8)(r:List UInt8)(hx:jv x.toNat=true)(hr:∀y∈r,ju y.toNat=true)(hw:jz ⟨(x::r).toArray⟩=true):Lx true (x::r) [(5,x::r)]:=by
 have:=Yu x r hx hr;rw[hw]at this;simpa using this
def Yw(x:UInt8)(r:List UInt8)(hx:jx x.toNat=true)(hr:∀y∈r,jx y.toNat=true)(hl:r.length<=8):Lx true (x::r) [(4,x::r)]:=by
 intro s i hs hi hn;have⟨h0,h1⟩:=hs.hd;have hq:jx (Pu.at_ s<|i+1+r.length)=false:=by
  have:=hn rfl;simp only[yE]at this;rw[show i+(r.length+1)=i+1+r.length by omega]at this;rw[ju]at this;simp at this;exact this.2
 have he:=hs.tl.end_ (p:=jx) hr hq;have hd:48<=x.toNat/\x.toNat<=57:=by simpa[jx]using hx
 refine nj hs hi h0 ?_ ?_
 .rw[h1];simp[Pu.cL];omega
 .rw[j6];rw[h1,he,if_neg (by simp[jv];omega),if_neg (by simp[j5];omega),if_neg ae,if_pos hx,if_pos ae];simp[Nat.add_assoc,Nat.add_comm 1]
def Lx.pre{b:Bool}(h:Lx false F K)(h':Lx b l p):Lx b (F++l) (K++p):=h.C9 h' (λe=>by cases e)
def Lx.NA{b:Bool}{x:UInt8}(h:Lx true l p)(hF:Lx false F K)(e:F=x::r)(hx:ju x.toNat=false)(h':Lx b m q):Lx b (l++(F++m)) (p++(K++q)):=
 h.C9 (hF.pre h') (λ_=>⟨x,r++m,by rw[e];rfl,hx⟩)
def Lx.post{b:Bool}{x:UInt8}(h:Lx true l p)(hF:Lx b F K)(e:F=x::r)(hx:ju x.toNat=false):Lx b (l++F) (p++K):=h.C9 hF<|λ_=>⟨x,r,e,hx⟩
def iE{b:Bool}(h:Lx b l p):Lx b (32::l) p:=mA.pre h
def sgB(c:UInt8):Bool:= !jv c.toNat&& !j5 c.toNat&& !jx c.toNat&&c.toNat !=39&&c.toNat !=45&&Pu.GH c.toNat&& !Pu.cL c.toNat
def Qx(c:UInt8)(h:sgB c=true):Lx false [c] [(5,[c])]:=by
 simp only[sgB,xj,Bool.not_eq_true',bne_iff_ne,ne_eq]at h;exact agl c h.1.1.1.1.1.1 h.1.1.1.1.1.2 h.1.1.1.1.2 h.1.1.1.2 h.1.1.2 h.1.2 h.2
def kwB(x:UInt8)(r:List UInt8):Bool:=jv x.toNat&&r.all (λy=>ju y.toNat)&&jz ⟨(x::r).toArray⟩
def Yx(x:UInt8)(r:List UInt8)(h:kwB x r=true):Lx true (x::r) [(5,x::r)]:=by
 simp only[kwB,xj,List.all_eq_true]at h;exact acW x r h.1.1 h.1.2 h.2
def sT(x:UInt8)(r:List UInt8)(h:kwB x r=true):Lx false (x::r++[32]) [(5,x::r)]:=(Yx x r h).post mA rfl aB
def yg:Lx false [40] [qR]:=Ev 40 ag
def sU:Lx false [41] [hH]:=Ev 41 ag
def agn:Lx false [44,32] [Nw]:=(Ev 44 ag).pre mA
def Yy:Lx false [61] [yEq]:=Qx 61 qkr
def Yz:Lx false [32,61,32] [yEq]:=iE<|Yy.pre mA
def ND:Lx false [32,124,32] [Nt]:=iE<|(Qx 124 qkr).pre mA
def ago:Lx false [95] [agi]:=Qx 95 qkr
def Ew:Lx false [59] [vZ]:=Qx 59 qkr
def NE:Lx false [32,45,62,32] [zJ]:=iE<|YA.pre mA
def agp:Lx false [102,117,110,32] [aiS]:=sT 102 [117,110] qkr
def YB:Lx false [108,101,116,32] [BU]:=sT 108 [101,116] qkr
def aiT:Lx false [105,102,32] [yIf]:=sT 105 [102] qkr
def YC:Lx false [109,97,116,99,104,32] [Yq]:=sT 109 [97,116,99,104] qkr
def Qy:Lx false [116,121,112,101,32] [C8]:=sT 116 [121,112,101] qkr
def aiU:Lx false [32,105,110,32] [yIn]:=iE<|sT 105 [110] qkr
def acX:Lx false [32,116,104,101,110,32] [Qp]:=iE<|sT 116 [104,101,110] qkr
def acY:Lx false [32,101,108,115,101,32] [Qq]:=iE<|sT 101 [108,115,101] qkr
def acZ:Lx false [32,119,105,116,104,32] [Yr]:=iE<|sT 119 [105,116,104] qkr
def agq:Lx true [32,101,110,100] [Uy]:=iE<|Yx 101 [110,100] qkr
def Qz:Lx true [116,114,117,101] [sQ]:=Yx 116 [114,117,101] qkr
end
section
open Go.ChangeMaps Un
def TQ(v:Nat)(l:List UInt8)(t:Nd):=∃p,Lx true l p/\Hj v p t
def TE(v:Nat)(l:List UInt8)(t:Nd):=∃p,Lx true l p/\iM v p t
def TE.d50{l:List UInt8}{t:Nd}(h:TE 5 l t):TE 0 l t:=⟨_,h.choose_spec.1,h.choose_spec.2.d50⟩
def TE.d54{l:List UInt8}{t:Nd}(h:TE 5 l t):TE 4 l t:=⟨_,h.choose_spec.1,h.choose_spec.2.d54⟩
def TE.d40{l:List UInt8}{t:Nd}(h:TE 4 l t):TE 0 l t:=⟨_,h.choose_spec.1,h.choose_spec.2.d40⟩
def TE.par{l:List UInt8}{t:Nd}(h:TE 0 l t):TE 5 (40::(l++[41])) t:=by
 obtain⟨p,h1,h2⟩:=h;exact⟨_,(yg.pre<|h1.post sU rfl aB).zK,h2.par⟩
def TE.pair{l m:List UInt8}{t u:Nd}(h:TE 0 l t)(k:TE 0 m u):TE 5 (40::(l++([44,32]++(m++[41])))) (Qt t u):=by
 obtain⟨p,a1,a2⟩:=h;obtain⟨q,b1,b2⟩:=k;exact⟨_,(yg.pre<|a1.NA agn rfl aB (b1.post sU rfl aB)).zK,a2.pair b2⟩
def TE.C9{l m:List UInt8}{t u:Nd}(h:TE 4 l t)(k:TE 5 m u):TE 4 (l++(32::m)) (C_ t u):=by
 obtain⟨p,a1,a2⟩:=h;obtain⟨q,b1,b2⟩:=k;exact⟨_,a1.post (iE b1) rfl aB,a2.C9 b2⟩
def TE.ite{l m o:List UInt8}{t u w:Nd}(h:TE 0 l t)(k:TE 0 m u)(j:TE 0 o w):TE 0 ([105,102,32]++(l++([32,116,104,101,110,32]++(m++([32,101,108,115,101,32]++o))))) (tIf t u w):=by
 obtain⟨p,a1,a2⟩:=h;obtain⟨q,b1,b2⟩:=k;obtain⟨r,c1,c2⟩:=j;exact⟨_,aiT.pre<|a1.NA acX rfl aB (b1.NA acY rfl aB c1),a2.ite b2 c2⟩
def TF(l:List UInt8)(t:Nd):=∃p,Lx true l p/\RdF p t
def TF.mk(hs:qE s)(h:TE 0 l t):TF ([102,117,110,32]++(s.toList++([32,45,62,32]++l))) (lY s t):=by
 obtain⟨q,a1,a2⟩:=h;exact⟨_,agp.pre<|hs.lx.NA NE rfl aB a1,⟨q,s.toList,t,rfl,by rw[ye],a2⟩⟩
def TF.te(h:TF l t):TE 0 l t:=by
 obtain⟨p,a1,a2⟩:=h;exact⟨p,a1,a2.rds⟩
def TE.lt{s:BA}(hs:qE s){l m:List UInt8}{t u:Nd}(h:TE 0 l t)(k:TE 0 m u):TE 0 ([108,101,116,32]++(s.toList++([32,61,32]++(l++([32,105,110,32]++m))))) (acV 10 s t u):=by
 obtain⟨p,a1,a2⟩:=h;obtain⟨q,b1,b2⟩:=k;have:=iM.lt ⟨p,rfl,a2⟩ b2 (s:=s.toList);rw[ye]at this;exact⟨_,YB.pre<|hs.lx.NA Yz rfl aB (a1.NA aiU rfl aB b1),this⟩
def TA(l:List UInt8)(A:List (Nd×Nd)):=∃p,Lx true l p/\RdA p A
def TA.one{l m:List UInt8}{t u:Nd}(h:TQ 4 l t)(k:TE 0 m u):TA (l++([32,45,62,32]++m)) [(t,u)]:=by
 obtain⟨p,a1,a2⟩:=h;obtain⟨q,b1,b2⟩:=k;exact⟨_,a1.NA NE rfl aB b1,.one a2 b2⟩
def TA.cons{l m o:List UInt8}{t u:Nd}{A:List (Nd×Nd)}(h:TQ 4 l t)(k:TE 0 m u)(j:TA o A):TA (l++([32,45,62,32]++(m++([32,124,32]++o)))) ((t,u)::A):=by
 obtain⟨p,a1,a2⟩:=h;obtain⟨q,b1,b2⟩:=k;obtain⟨r,c1,c2⟩:=j;exact⟨_,a1.NA NE rfl aB (b1.NA ND rfl aB c1),.cons a2 b2 c2⟩
def TE.mt{l m:List UInt8}{t:Nd}{A:List (Nd×Nd)}(h:TE 0 l t)(k:TA m A):TE 0 ([109,97,116,99,104,32]++(l++([32,119,105,116,104,32]++(m++[32,101,110,100])))) (tMt t A):=by
 obtain⟨p,a1,a2⟩:=h;obtain⟨q,b1,b2⟩:=k;exact⟨_,YC.pre<|a1.NA acZ rfl aB (b1.post agq rfl aB),a2.mt b2⟩
end
section
open Un
def bu(c:UInt8):BA:=⟨#[c]⟩
def uD c:(bu c).toList=[c]:=by rw[bu];exact toList_mk _
def nm1 c(h:jv c.toNat=true)(hw:jz ⟨#[c]⟩=false):qE (bu c):=⟨c,[],uD c,h,ag,hw⟩
inductive nk:List UInt8->List UInt8->Prop where
 |low{L:List UInt8}{c:UInt8}(hc:c∈L)(h:qE (bu c)):nk L [c]
 |up{L:List UInt8}{c:UInt8}(h:c=78\/c=80):nk L [c]
 |tr{L:List UInt8}:nk L [116,114,117,101]
 |one{L:List UInt8}:nk L [49]
 |unit{L:List UInt8}:nk L [40,41]
 |fn{L:List UInt8}{c:UInt8}{l:List UInt8}(hc:qE (bu c))(h:nk (L++[c]) l):nk L ([40,102,117,110,32]++[c]++[32,45,62,32]++l++[41])
 |C9{L:List UInt8}{l m:List UInt8}(h:nk L l)(k:nk L m):nk L ([40]++l++[32]++m++[41])
 |lt{L:List UInt8}{c:UInt8}{l m:List UInt8}(hc:qE (bu c))(h:nk L l)(k:nk (L++[c]) m):nk L ([40,108,101,116,32]++[c]++[32,61,32]++l++[32,105,110,32]++m++[41])
 |pair{L:List UInt8}{l m:List UInt8}(h:nk L l)(k:nk L m):nk L ([40]++l++[44,32]++m++[41])
 |aM{L:List UInt8}{l m:List UInt8}(h:nk L l)(k:nk L m):nk L ([40,67,32]++l++[32]++m++[41])
 |ite{L:List UInt8}{l m:List UInt8}(h:nk L l)(k:nk L m):nk L ([40,105,102,32,116,114,117,101,32,116,104,101,110,32]++l++[32,101,108,115,101,32]++m++[41])
 |mt{L:List UInt8}{c:UInt8}{l m:List UInt8}(hc:qE (bu c))(h:nk L l)(k:nk (L++[c]) m):nk L ([40,109,97,116,99,104,32]++l++[32,119,105,116,104,32,78,32,45,62,32,49,32,124,32,67,32]++[c]++[32,95,32,45,62,32]++m++[32,101,110,100,41])
def mB:Nat->Nat
 |0=>4|d+1=>2*mB d+40
def MXq d L l:=nk L l/\l.length<=mB d
def ahN:∀d,4<=mB d
 |0=>br _|d+1=>by have:=ahN d;simp only[mB];omega
def rJ:List UInt8:=[116,121,112,101,32,76,32,39,97,32,61,32,78,32,124,32,67,32,39,97,32,40,76,32,39,97,41,59,116,121,112,101,32,83,32,61,32,80,32,124,32,81,32,73,110,116,32,66,111,111,108,59]
inductive MQ:List UInt8->List UInt8->Prop where
 |zero:MQ [] rJ
 |next{L:List UInt8}{c:UInt8}{l m:List UInt8}(h:MQ L l)(hc:qE (bu c))(k:nk L m)(hz:l.length+m.length<=330\/m=[49]):MQ (L++[c]) (l++[108,101,116,32]++[c]++[61]++m++[59])
def MQ.len(h:MQ L l):l.length<=337+8*L.length:=by
 induction h with
 |zero=>simp[rJ]|next h hc k hz ih=>
  simp only[lM,yE,qO];obtain q|q:=hz
  .omega
  .subst q;simp;omega
end
section
open Go.ChangeMaps Un
def gu{l:List Nd}(h:es nd=.mk k s n l 0 0 0):∃s' n' L f t a,nd=.mk k s' n' L f t a/\(k≠3->k≠15->s'=s)/\dI L=l:=by
 obtain⟨k',s',n',L,f,t,a⟩:=nd;simp only[es,Nd.mk.injEq]at h;obtain⟨rfl,h1,_,h2,_⟩:=h;exact⟨s',n',L,f,t,a,rfl,λa b=>by rw[if_neg ae]at h1;exact h1,h2⟩
def sW{L:List Nd}(h:dI L=[]):L=[]:=by cases L with|nil=>rfl|cons=>cases h
def kB{L:List Nd}{l:List Nd}(h:dI L=x::l):∃y M,L=y::M/\es y=x/\dI M=l:=by
 cases L with
 |nil=>cases h|cons y M=>simp only[dI,List.cons.injEq]at h;exact⟨y,M,rfl,h⟩
def MkO(mk:BA->Option Nat):Prop:=mk ⟨#[67]⟩=some 2/\mk ⟨#[78]⟩=some 0/\(mk ⟨#[80]⟩).isNone=false
def Sk(L:List UInt8)(t:Nd):=∀nd,es nd=t->∀ty mk,MkO mk->∀l,(∀c∈L,bu c∈l)->∀z,dA ty mk nd l z=z
def agr(h:k=3\/k=4\/k=5):Sk L (.mk k s n [] 0 0 0):=by
 intro nd e ty mk hm l hl z;obtain⟨s',n',M,f,t,a,rfl,_,e2⟩:=gu e;rw[sW e2];obtain rfl|rfl|rfl:=h<;>simp[dA,hY]
def aeZ:Sk L (eU sQ):=by
 rw[show eU sQ=.mk 4 ⟨#[116,114,117,101]⟩ 0 [] 0 0 0 by kernel_rfl];exact agr ag
def YD:Sk L (eU (4,[49])):=by
 rw[show eU (4,[49])=.mk 3 eW 1 [] 0 0 0 by kernel_rfl];exact agr ag
def ac0(h:k=6\/k=8)(hx:Sk L x)(hy:Sk L y):Sk L (.mk k s n [x,y] 0 0 0):=by
 intro nd e ty mk hm l hl z;obtain⟨s',n',M,f,t,a,rfl,_,e2⟩:=gu e;obtain⟨x',M,rfl,ex,e2⟩:=kB e2;obtain⟨y',M,rfl,ey,e2⟩:=kB e2;rw[sW e2];obtain rfl|rfl:=h<;>simp[dA,hY,hx x' ex ty mk hm l hl,hy y' ey ty mk hm l hl]
def zL{l:List BA}(hl:∀c∈L,bu c∈l):∀d∈L++[c],bu d∈l++[bu c]:=λd hd=>by
 obtain q|q:=List.mem_append.1 hd
 .exact List.mem_append.2 (.inl<|hl d q)
 .rw[List.mem_singleton.1 q];simp
def MEx(L l:List UInt8):=∃t,TE 5 l t/\Sk L t
def zM(c:UInt8)(h:j5 c.toNat=true):Lx true [c] [(2,[c])]:=by
 have hn:BV (bu c):=⟨c,[],uD c,h,ag⟩;have:=hn.lx
 rwa[uD]at this
def qE.lx1(h:qE (bu c)):Lx true [c] [(1,[c])]:=by
 have:=h.lx
 rwa[uD]at this
def ae0(h:c=67\/c=78\/c=80):Sk L (eU (2,[c])):=by
 intro nd e ty mk hm l hl z;obtain⟨s',n',M,f,t,a,rfl,e1,e2⟩:=gu (k:=2) (s:=⟨#[c]⟩) (n:=0) (l:=[]) e;obtain rfl:=e1 aB aB;rw[sW e2];obtain⟨h1,h2,h3⟩:=hm;obtain rfl|rfl|rfl:=h<;>simp[dA,ba,h1,h2,h3]
def nk.me(h:nk L l):MEx L l:=by
 induction h with
 | @low L c hc h=>
   refine⟨eU (1,[c]),⟨_,h.lx1,iM.leaf λ_ _=>⟨qkr,qkr⟩⟩,?_⟩;intro nd e ty mk hm l hl z;obtain⟨s',n',M,f,t,a,rfl,e1,e2⟩:=gu (k:=1) (s:=bu c) (n:=0) (l:=[]) e;obtain rfl:=e1 aB aB;simp[dA,ba,yh.2<|hl c hc]
 | @up L c h=>exact⟨eU (2,[c]),⟨_,zM c (by obtain rfl|rfl:=h<;>decide),iM.leaf λ_ _=>⟨qkr,qkr⟩⟩,ae0<|.inr h⟩
 |tr=>exact⟨eU sQ,⟨[sQ],Qz,iM.leaf λ_ _=>⟨qkr,qkr⟩⟩,aeZ⟩|one=>exact⟨eU (4,[49]),⟨_,Yw 49 [] aB ag ag,iM.leaf λ_ _=>⟨qkr,qkr⟩⟩,YD⟩|unit=>exact⟨nX,⟨[qR,hH],(yg.pre sU).zK,iM.unit⟩,agr ag⟩| @fn L c l hc _ ih=>
   obtain⟨t,h1,h2⟩:=ih;refine⟨lY (bu c) t,?_,?_⟩
   .have:=(TF.mk hc h1.d50).te.par;rw[uD]at this;simpa using this
   .intro nd e ty mk hm l hl z;obtain⟨s',n',M,f,t,a,rfl,e1,e2⟩:=gu e;obtain rfl:=e1 aB aB;obtain⟨x',M,rfl,ex,e2⟩:=kB e2;simp[dA,Ss,h2 x' ex ty mk hm _<|zL hl]
 |C9 _ _ ih ik=>
  obtain⟨t,h1,h2⟩:=ih;obtain⟨u,k1,k2⟩:=ik;refine⟨C_ t u,?_,ac0 ag h2 k2⟩;have:=(h1.d54.C9 k1).d40.par;simpa using this
 | @lt L c l m hc _ _ ih ik=>
   obtain⟨t,h1,h2⟩:=ih;obtain⟨u,k1,k2⟩:=ik;refine⟨acV 10 (bu c) t u,?_,?_⟩
   .have:=(TE.lt hc h1.d50 k1.d50).par;simpa[uD]using this
   .intro nd e ty mk hm l hl z;obtain⟨s',n',M,f,t,a,rfl,e1,e2⟩:=gu e;obtain rfl:=e1 aB aB;obtain⟨x',M,rfl,ex,e2⟩:=kB e2;obtain⟨y',M,rfl,ey,e2⟩:=kB e2;simp[dA,UB,Ss,h2 x' ex ty mk hm l hl,k2 y' ey ty mk hm _<|zL hl]
 |pair _ _ ih ik=>
  obtain⟨t,h1,h2⟩:=ih;obtain⟨u,k1,k2⟩:=ik;refine⟨Qt t u,?_,ac0 ag h2 k2⟩;have:=h1.d50.pair k1.d50;simpa using this
 |aM _ _ ih ik=>
  obtain⟨t,h1,h2⟩:=ih;obtain⟨u,k1,k2⟩:=ik;refine⟨C_ (C_ (eU (2,[67])) t) u,?_,ac0 ag (ac0 ag (ae0 ag) h2) k2⟩;have uc:TE 5 [67] (eU (2,[67])):=⟨_,zM 67 aB,iM.leaf λ_ _=>⟨qkr,qkr⟩⟩;have:=((uc.d54.C9 h1).C9 k1).d40.par;simpa using this
 |ite _ _ ih ik=>
  obtain⟨t,h1,h2⟩:=ih;obtain⟨u,k1,k2⟩:=ik;have tr:TE 5 [116,114,117,101] (eU sQ):=⟨[sQ],Qz,iM.leaf λ_ _=>⟨qkr,qkr⟩⟩;refine⟨tIf (eU sQ) t u,?_,?_⟩
  .have:=(tr.d50.ite h1.d50 k1.d50).par;simpa using this
  .intro nd e ty mk hm l hl z;obtain⟨s',n',M,f,t,a,rfl,e1,e2⟩:=gu e;obtain⟨x',M,rfl,ex,e2⟩:=kB e2;obtain⟨y',M,rfl,ey,e2⟩:=kB e2;obtain⟨z',M,rfl,ez,e2⟩:=kB e2;rw[sW e2];have h0:Sk [] (eU sQ):=aeZ;simp[dA,hY,h0 x' ex ty mk hm l ag,h2 y' ey ty mk hm l hl,k2 z' ez ty mk hm l hl]
 | @mt L c l m hc _ _ ih ik=>
   obtain⟨t,h1,h2⟩:=ih;obtain⟨u,k1,k2⟩:=ik;have q1:TQ 4 [78] (tUp (bu 78) []):=⟨_,zM 78 aB,Hj.up [78]⟩;have q2:TQ 4 ([67,32]++[c]++[32,95]) (tUp (bu 67) [eU (1,[c]),eU agi]):=by
    have a2:=((zM 67 aB).post (iE hc.lx1) rfl aB).post (iE ago) rfl aB;have r:=((Hj.up [67]).arg<|Hj.leaf (x:=(1,[c])) λ_ _=>⟨qkr,qkr⟩).arg<|Hj.leaf (x:=agi) λ_ _=>⟨qkr,qkr⟩;exact⟨_,by simpa using a2.zK,by simpa[bu]using r⟩
   have w0:TE 5 [49] (eU (4,[49])):=⟨_,Yw 49 [] aB ag ag,iM.leaf λ_ _=>⟨qkr,qkr⟩⟩;have w1:=TA.cons q1 w0.d50<|TA.one q2 k1.d50;have w2:=(h1.d50.mt w1).par;refine⟨_,by simpa using w2,?_⟩;intro nd e ty mk hm l hl z;obtain⟨s',n',M,f,t,a,rfl,e1,e2⟩:=gu e;simp only[aP]at e2;obtain⟨x',M,rfl,ex,e2⟩:=kB e2;obtain⟨p1,M,rfl,f1,e2⟩:=kB e2;obtain⟨y1,M,rfl,f2,e2⟩:=kB e2;obtain⟨p2,M,rfl,f3,e2⟩:=kB e2;obtain⟨y2,M,rfl,f4,e2⟩:=kB e2;rw[sW e2];obtain⟨s1,n1,M1,f',t',a',rfl,g1,g2⟩:=gu f1;obtain rfl:=g1 aB aB;rw[sW g2];obtain⟨s2,n2,M2,f5,t5,a5,rfl,g1,g2⟩:=gu f3;obtain rfl:=g1 aB aB;obtain⟨v1,M2,rfl,v2,g2⟩:=kB g2;obtain⟨v3,M2,rfl,v4,g2⟩:=kB g2;rw[sW g2];obtain⟨s3,n3,M3,f6,t6,a6,rfl,g1,g2⟩:=gu (k:=1) (s:=bu c) (n:=0) (l:=[]) v2;obtain rfl:=g1 aB aB;obtain⟨s4,n4,M4,f7,t7,a7,rfl,_,g3⟩:=gu (k:=15) (s:=eW) (n:=0) (l:=[])<|v4.trans qkr;rw[sW g3];have h0:Sk [] (eU (4,[49])):=YD;obtain⟨m1,m2,m3⟩:=hm;simp[dA,YE,oJ,UC,oo,dV,ba,fQ,bu,h2 x' ex ty mk ⟨m1,m2,m3⟩ l hl,h0 y1 f2 ty mk ⟨m1,m2,m3⟩ l ag,m1,m2];exact k2 y2 f4 ty mk ⟨m1,m2,m3⟩ _ (zL hl) _
def tk0(s:BA):jt:=⟨0,s,0,0⟩
def eD:Dc->Dc
 |.ty t vs ms=>.ty (tk0 t.text) (vs.map λv=>tk0 v.text) (dI ms)|.lt r t b=>.lt r (tk0 t.text)<|es b
def RdE(p:List Ky)(d:Dc):=(∃x r,p=x::r/\(x=C8\/x=BU))/\∀T k n,jD T k p->p.length<=n->p.length<=T.length+1->∃d',eD d'=d/\dD T n k=.ok (d',k+p.length)
def RdE.lt{p:List Ky}{s:List UInt8}{t:Nd}(h:RdB p s t):RdE (p++[vZ]) (.lt false (tk0 ⟨s.toArray⟩) t):=by
 obtain⟨r,hr0⟩:∃r,p=BU::r:=⟨_,h.choose_spec.1⟩;refine⟨⟨BU,r++[vZ],by rw[hr0];rfl,qg rfl⟩,λT k n hs hn hT=>?_⟩;simp only[lM,yE,qO]at hn hT;have hm:=hs.right.hd;have⟨tok,nd,e,g,hr⟩:=h.reads (n:=n) hs.left ae ae<|lP hm aB;have h0:iL (tk T k)=BU:=by have:=hs.left;rw[hr0]at this;exact this.hd
 refine⟨.lt false tok nd,by simp only[eD,g,e],?_⟩;rw[dD];rw[mz h0 aB];show AH T (bq T n) k=_;rw[AH];simp only[aK,hr,dX hm];simp;omega
inductive Xp:List Ky->List Dc->Prop where
 |nil:Xp [] []
 |cons{p q:List Ky}{d:Dc}{D:List Dc}:RdE p d->Xp q D->Xp (p++q) (d::D)
def Xp.reads(h:Xp p D):∀(T:List jt)(k n f:Nat)(l:List Dc),jD T k p->p.length<=n->p.length<=T.length+1->p.length<=f->(tk T<|k+p.length).kind=7->∃B,B.map eD=D/\cT T (dD T n) f l k=.ok (l++B,k+p.length):=by
 induction h with
 |nil=>
  intro T k n f l _ _ _ _ he;simp at he;refine⟨[],rfl,?_⟩;rw[D6 (by simp[aU,he])<|by simp[aU,he]];simp
 | @cons p q d D hp hq ih=>
   intro T k n f l hs hn hT hf he;simp only[lM]at hn hT hf he;obtain⟨⟨x,r,e0,hx⟩,hp⟩:=hp;have hl:1<=p.length:=by rw[e0];simp
   obtain⟨f,rfl⟩:∃g,f=g+1:=⟨f-1,ae⟩;have⟨d,e1,r1⟩:=hp T k n hs.left ae ae;have⟨B,e2,r2⟩:=ih T _ n f (l++[d]) hs.right ae ae ae (by rw[Nat.add_assoc];exact he);have h0:iL (tk T k)=x:=by have:=hs.left;rw[e0]at this;exact this.hd
   refine⟨d::B,by rw[<-e1,<-e2];rfl,?_⟩
   rw[uf (by
    obtain rfl|rfl:=hx;·exact qh<|iN h0
    .exact qg (iN h0))]
   simp only[aK,r1,r2];simp;omega
def Xp.snoc(h:Xp p D)(k:RdE q d):Xp (p++q) (D++[d]):=by
 induction h with
 |nil=>simpa using Xp.cons k .nil|cons a b ih=>simpa using Xp.cons a ih
abbrev vA:BA:=⟨#[39,97]⟩
def ab6:Lx true [39,97] [(3,[39,97])]:=by
 have h:NmV vA:=⟨97,[],toList_mk _,aB,ag,by simp[jz,Pu.words,toList_mk,xk]⟩;have:=h.lx
 rwa[show vA.toList=[39,97]from toList_mk _]at this
def al5:Lx false [116,121,112,101,32,76,32,39,97,32,61,32,78,32,124,32,67,32,39,97,32,40,76,32,39,97,41,59] [C8,(2,[76]),(3,[39,97]),yEq,(2,[78]),Nt,(2,[67]),(3,[39,97]),qR,(2,[76]),(3,[39,97]),hH,vZ]:=
 Qy.pre ((zM 76 aB).post (iE<|ab6.NA Yz rfl aB ((zM 78 aB).NA ND rfl aB ((zM 67 aB).post (iE<|ab6.post (iE<|yg.pre<|(zM 76 aB).post (iE<|ab6.post (sU.pre Ew) rfl aB) rfl aB) rfl aB) rfl aB))) rfl aB)
def al6:Lx false [116,121,112,101,32,83,32,61,32,80,32,124,32,81,32,73,110,116,32,66,111,111,108,59] [C8,(2,[83]),yEq,(2,[80]),Nt,(2,[81]),(2,[73,110,116]),(2,[66,111,111,108]),vZ]:=
 Qy.pre ((zM 83 aB).NA Yz rfl aB ((zM 80 aB).NA ND rfl aB ((zM 81 aB).post (iE<|(Yv 73 [110,116] aB aB).post (iE<|(Yv 66 [111,111,108] aB aB).post Ew rfl aB) rfl aB) rfl aB)))
def L8(f g:Nat->Nat):Nat->List Ky->List jt
 |_,[]=>[]|i,k::p=>⟨k.1,⟨k.2.toArray⟩,f i,g i⟩::L8 f g (i+1) p
def D8{f g f' g':Nat->Nat}:∀(p:List Ky)(i:Nat),(∀j,i<=j->f j=f' j/\g j=g' j)->L8 f g i p=L8 f' g' i p
 |[],_,_=>rfl|k::p,i,h=>by rw[L8,L8,(h i<|br _).1,(h i<|br _).2,D8 p (i+1) λj q=>h j ae]
def ab7:∀(p:List Ky)(T:List jt)(i:Nat),T.map iL=p->∃f g,T=L8 f g i p
 |[],T,i,h=>⟨λ_=>0,λ_=>0,List.map_eq_nil_iff.1 h⟩|k::p,T,i,h=>by
  obtain⟨t,T,rfl,h1,h2⟩:=List.map_eq_cons_iff.1 h;have⟨f,g,e⟩:=ab7 p T (i+1) h2;refine⟨λj=>if j=i then t.al else f j,λj=>if j=i then t.to else g j,?_⟩;have e2:=D8 (f:=λj=>if j=i then t.al else f j) (g:=λj=>if j=i then t.to else g j) (f':=f) (g':=g) p (i+1) λj q=>⟨if_neg ae,if_neg ae⟩;rw[L8,e2,<-e,<-h1];simp[iL,ye]
abbrev Bn:List Ky:=[C8,(2,[76]),(3,[39,97]),yEq,(2,[78]),Nt,(2,[67]),(3,[39,97]),qR,(2,[76]),(3,[39,97]),hH,vZ,C8,(2,[83]),yEq,(2,[80]),Nt,(2,[81]),(2,[73,110,116]),(2,[66,111,111,108]),vZ]
def aeG(f g:Nat->Nat)(k:Nat):Dc:=match dD (L8 f g 0 Bn) 22 k with
 |.ok (d,_)=>d|_=>.lt false (tk0 eW)<|.mk 0 eW 0 [] 0 0 0
abbrev Wv(f g:Nat->Nat):List Dc:=[aeG f g 0,aeG f g 13]
def dcB:Dc->Bool
 |.ty _ _ ms=>ms.all λm=>In.Kq m==2|_=>true
def akn(h:dcB d=true):In.DcK d:=by cases d<;>simp_all[dcB,In.DcK]
section
variable (f g:Nat->Nat)
set_option maxRecDepth 100000
def ako(T:List jt)(n:Nat):dD (L8 f g 0 Bn++T) (n+22) 0=.ok (aeG f g 0,13):=qkr
def akp(T:List jt)(n:Nat):dD (L8 f g 0 Bn++T) (n+22) 13=.ok (aeG f g 13,22):=qkr
def akq(T:List jt):aU (tk (L8 f g 0 Bn++T) 0) nY=true:=qkr
def ah9(T:List jt):aU (tk (L8 f g 0 Bn++T) 13) nY=true:=qkr
def akr(f' g':Nat->Nat):(Wv f g).map eD=(Wv f' g').map eD:=qkr
def aks:(Wv f g).all dcB=true:=qkr
def akt:(dx eM (Wv f g) oP).f=oj:=qkr
def aku:(dx eM (Wv f g) oP).nm=[]:=qkr
def akv:MkO (dx eM (Wv f g) oP).mks:=⟨qkr,qkr,qkr⟩
end
def yI{t:BA}(h:tk0 s=tk0 t):s=t:=by simpa[tk0]using h
def aeH(h:es x=.mk k s 0 [] 0 0 0)(hk:k≠3/\k≠15):∃n f t a,x=.mk k s n [] f t a:=by
 obtain⟨_,n,M,f,t,a,rfl,q,e⟩:=gu h;obtain rfl:=q hk.1 hk.2;rw[sW e];exact⟨n,f,t,a,rfl⟩
def TN(hl:Lx false m p)(hg:Xp p D)(hz:(rJ++m).length<=400):∃f g B,bV (bs<|rJ++m)=.ok (Wv f g++B)/\B.map eD=D:=by
 have hp:Lx false rJ Bn:=al5.pre al6;have⟨T,e,k⟩:=(hp.pre hl) (bs<|rJ++m) 0 (ag2 _) (j9 _)<|λq=>lq;rw[Pu.JV (s:=bs<|rJ++m) (i:=0+(rJ++m).length) (by rw[dY];omega)]at e;obtain⟨T0,T1,rfl,h0,h1⟩:=List.map_eq_append_iff.1 k;obtain⟨f,g,rfl⟩:=ab7 _ _ 0 h0;have hlen:T1.length=p.length:=by rw[<-h1];simp
 rw[jh]at e;have h22:(L8 f g 0 Bn).length=22:=rfl;have hs:jD (L8 f g 0 Bn++(T1++[jy<|bs<|rJ++m])) 22 p:=λi hi=>by
  have:tk (L8 f g 0 Bn++(T1++[jy<|bs<|rJ++m])) (22+i)=T1[i]'(by omega):=by
   rw[tk];rw[jd,ji ae,h22,Nat.add_sub_cancel_left,List.getElem?_append_left ae,jf ae];rfl
  rw[this];subst h1;simp
 have akw:tk (L8 f g 0 Bn++(T1++[jy<|bs<|rJ++m])) (22+p.length)=jy (bs<|rJ++m):=by
  rw[tk];rw[jd,ji ae,h22,Nat.add_sub_cancel_left,ji ae,hlen];simp
 have hn:(L8 f g 0 Bn++(T1++[jy<|bs<|rJ++m])).length=p.length+1+22:=by simp[h22,hlen];omega
 have⟨B,e1,hr⟩:=hg.reads _ 22 (p.length+1+22) (p.length+21) (Wv f g) hs ae ae ae (by rw[akw];rfl);refine⟨f,g,B,?_,e1⟩;rw[bV];rw[if_neg (by rw[dY];omega),e];rw[aK];rw[hn,show p.length+1+22=p.length+21+1+1 from rfl,uf<|.inl<|akq f g _];simp only[aK,show p.length+21+1+1=p.length+1+22 from rfl,ako];rw[uf<|.inl<|ah9 f g _];simp only[aK,akp,jk,List.singleton_append];rw[hr];simp only[Gk,akw];rfl
def MD(L:List UInt8)(D:List Dc):=∀f g B,B.map eD=D->(∀d∈Wv f g++B,In.DcK d)/\(dx eM (Wv f g++B) oP).f=oj/\(dx eM (Wv f g++B) oP).nm=L.map bu/\MkO (dx eM (Wv f g++B) oP).mks
def RdM(L l:List UInt8)(p:List Ky)(D:List Dc):Prop:=Lx false l p/\Xp p D/\MD L D
def RdM.next(h:RdM L l p D)(hc:qE (bu c))(ht:TE 5 m t)(k2:Sk L t):∃p,RdM (L++[c]) (l++[108,101,116,32]++[c]++[61]++m++[59]) p<|D++[.lt false (tk0<|bu c) t]:=by
 obtain⟨h1,h2,h3⟩:=h;obtain⟨q,q1,q2⟩:=ht;have hb:RdB (BU::(1,[c])::yEq::q) [c] t:=⟨q,rfl,q2.d50⟩;have a:=h1.pre<|(YB.pre<|hc.lx1.NA Yy rfl aB (q1.post Ew rfl aB));refine⟨_,by simpa using a,h2.snoc<|by simpa[bu]using RdE.lt hb,?_⟩;intro f g B hB;obtain⟨B0,B',rfl,hB0,hB'⟩:=List.map_eq_append_iff.1 hB;obtain⟨d,B',rfl,hd,hB'⟩:=List.map_eq_cons_iff.1 hB';obtain rfl:=List.map_eq_nil_iff.1 hB';have⟨g1,g2,g3,g4⟩:=h3 f g B0 hB0
 cases d with
 |ty=>cases hd|lt r t' b=>
  simp only[eD,Dc.lt.injEq]at hd;obtain⟨rfl,Dq,hd2⟩:=hd;have Dq:t'.text=bu c:=yI Dq;rw[<-jh,Bm];generalize dx eM (Wv f g++B0) oP=E at g2 g3 g4⊢;refine⟨λd hd=>?_,?_,?_,?_⟩
  .obtain z|z:=List.mem_append.1 hd
   .exact g1 d z
   .rw[List.mem_singleton.1 z];trivial
  .simp only[dx,NZ,Bool.false_eq_true,if_false];rw[k2 b hd2 _ _ g4 _ (by rw[g3];intro c hc;exact List.mem_map_of_mem hc)];exact g2
  .simp[dx,NZ,g3,Dq]
  .exact g4
def MQ.rd(h:MQ L l):(∃m p D,l=rJ++m/\RdM L m p D)/\∀c∈L,qE<|bu c:=by
 induction h with
 |zero=>exact⟨⟨[],[],[],rfl,λs i _ _ _=>⟨[],ag,rfl⟩,.nil,λf g B q=>by
  obtain rfl:=List.map_eq_nil_iff.1 q
  exact⟨λd q=>akn<|List.all_eq_true.1 (aks f g) d<|by simpa using q,akt f g,aku f g,akv f g⟩⟩,ag⟩
 |next h hc k hz ih=>
  obtain⟨⟨m,p,D,rfl,ih⟩,hL⟩:=ih;have⟨t,h1,h2⟩:=k.me;have⟨p,q⟩:=ih.next hc h1 h2
  exact⟨⟨_,p,_,ag,q⟩,λc q=>by
   obtain z|z:=List.mem_append.1 q
   .exact hL c z
   .rw[List.mem_singleton.1 z];exact hc⟩
def GY{rs:Bool}{u:Y4}:∀{l:List Dc}{mk:qr}{Γ:xf}{s:qt}{B:List (BA×Ty)},qy rs l mk Γ s B none->∀e,(dx u l e).nm=e.nm++B.map (·.1)
 |[],_,_,_,_,⟨h,_⟩,e=>by subst h;simp[dx]|.ty _ _ _::l,_,_,_,_,h,e=>GY (l:=l) h _|.lt _ _ _::l,_,_,_,_,⟨o,_,h⟩,e=>by
  match o,h with
  |.error _,h=>exact absurd h.2 ag|.ok _,h=>
   obtain⟨_,_,h⟩|⟨_,T,B',_,rfl,hr⟩:=h
   .cases h
   .rw[dx,GY (l:=l) hr];simp[NZ]
def ab8:∀{B B':List Dc},B.map eD=B'.map eD->dH (In.DcE False) B B'
 |[],[],_=>.nil|[],_::_,h=>Mp|_::_,[],h=>Mp|d::B,d'::B',h=>by
  simp only[jm,List.cons.injEq]at h;refine .cons ?_<|ab8 h.2;have h:=h.1
  cases d<;>cases d'<;>simp only[eD,Dc.ty.injEq,Dc.lt.injEq,reduceCtorEq]at h
  .refine .ty _ _ _ _ _ _ (yI h.1) ?_ h.2.2;have:=congrArg (List.map Pu.Tok.text) h.2.1;simpa[Function.comp_def,tk0]using this
  .obtain⟨rfl,h1,h2⟩:=h;exact .lt _ _ _ _ _ (yI h1) False.elim ⟨h2,False.elim⟩
def akx:In.F_ (λn=>n) ⟨xi,λ_=>False⟩ ⟨xi,λ_=>False⟩ (λ_=>none) (λ_=>none):=
 ⟨qz _,qz _,λ_ _ q=> lq,λ_ _ q=> lq,⟨λ_ _ u _=>u.elim,λ_ _ _ _ u _ _ _ _=>u.elim⟩,λ_=>.inl ⟨rfl,rfl⟩⟩
abbrev aky(rs:Bool)(B:List Dc)(Z:List (BA×Ty))(F:Option qp):Prop:=qy rs B (λ_=>none) (λ_=>none) ⟨xi,λ_=>False⟩ Z F
def Ww(h:MQ L l)(h0:L≠[])(hz:l.length<=380):∃B,bV (bs l)=.ok B/\(dx eM B oP).f=oj/\∀rs Z,aky rs B Z none->∃c T,Z.getLast? =some (bu c,T)/\(size T<=48->
 ∃B',bV (bs<|l++[108,101,116,32,119,61]++[c]++[59])=.ok B'/\(dx eM B' oP).f=oj/\∀OK Z' F',aky OK B' Z' F'->F'=none/\qw dec Z'=qw dec Z++[(⟨#[119]⟩,xn dec T)]):=by
 obtain⟨⟨m,p,D,rfl,h1,h2,h3⟩,hL⟩:=h.rd;have⟨f,g,B,r1,r2⟩:=TN h1 h2 ae;have⟨k1,k2,k3,_⟩:=h3 f g B r2;refine⟨_,r1,k2,λrs Z q=>?_⟩;have hn:Z.map (·.1)=L.map bu:=by have:=GY (u:=eM) q oP;rw[k3]at this;simpa[oP]using this.symm
 obtain⟨c,L',hc⟩:∃c L',L=L'++[c]:=⟨L.getLast h0,L.dropLast,(List.dropLast_concat_getLast h0).symm⟩;have afJ:(Z.map (·.1)).getLast? =some (bu c):=by rw[hn,hc];simp
 rw[List.getLast?_map]at afJ;have⟨⟨x,T⟩,e1,e2⟩:=Option.map_eq_some_iff.1 afJ;have e2:x=bu c:=e2;subst e2;refine⟨c,T,e1,λhT=>?_⟩;have hcL:c∈L:=by rw[hc];simp
 have nw:qE (bu 119):=nm1 119 aB qAq;have tl:TE 5 [c] (eU (1,[c])):=⟨_,(hL c hcL).lx1,iM.leaf λ_ _=>⟨qkr,qkr⟩⟩;have sl:Sk L (eU (1,[c])):=by
  intro nd e ty mk hm l hl z;obtain⟨s',n',M,f,t,a,rfl,e1,e2⟩:=gu (k:=1) (s:=bu c) (n:=0) (l:=[]) e;obtain rfl:=e1 aB aB;simp[dA,ba,yh.2<|hl c hcL]
 have⟨p',j1,j2,j3⟩:=RdM.next ⟨h1,h2,h3⟩ nw tl sl;have⟨f',g',B',s1,s2⟩:=TN j1 j2 (by simp at hz⊢;omega);have⟨_,i2,_,_⟩:=j3 f' g' B' s2;refine⟨_,by simpa using s1,i2,λOK Z' F' q'=>?_⟩;obtain⟨B0,B1,rfl,t1,t2⟩:=List.map_eq_append_iff.1 s2;obtain⟨d,B1,rfl,t3,t4⟩:=List.map_eq_cons_iff.1 t2;obtain rfl:=List.map_eq_nil_iff.1 t4
 cases d with
 |ty=>cases t3|lt r t b=>
  simp only[eD,Dc.lt.injEq]at t3;obtain⟨rfl,u1,u2⟩:=t3;have u1:t.text=bu 119:=yI u1;obtain⟨n,f,e,a,rfl⟩:=aeH (k:=1) (s:=bu c) u2 aB;rw[<-jh]at q';obtain⟨x,z⟩|⟨_,mk',ρ,s,s',G,G',Y0,Y1,g1,rfl,g3,g4,g5⟩:=In.AB dec (ab8<|by rw[jp,jp,akr _ _ f' g',r2,t1]) k1 _ _ _ _ _ _ akx _ _ _ _ q q'
  .cases z
  .obtain⟨rfl,_⟩|⟨p,g5,g6⟩:=g5
   .cases e1
   .rw[e1]at g5;obtain rfl:=Option.some.inj g5;obtain⟨v1,T',rfl,v2⟩:=In.Vz dec g1 g6 hT g4;refine⟨v1,?_⟩;rw[<-g3,<-v2];simp[qw,u1,bu]
end
section
open Go.ChangeMaps Go.MapKept
def ahO{a b:Value}{t:TypeId}(hg:g=W.heap.size)(hw:w=W.alloc (.cells #[a,b] t)):∀i,i<[x,y].length->w.cell? ⟨g,i,none⟩=some ((λi:Nat=>if i=0 then a else b) i):=by
 subst hg hw;intro i hi;have:i=0\/i=1:=Ie;obtain rfl|rfl:=this<;>simp
def ahP{a b c:Value}{t:TypeId}(hg:g=W.heap.size)(hw:w=W.alloc (.cells #[a,b,c] t)):∀i,i<[x,y,z].length->w.cell? ⟨g,i,none⟩=some ((λi:Nat=>if i=0 then a else if i=1 then b else c) i):=by
 subst hg hw;intro i hi;have:i=0\/i=1\/i=2:=Ie;obtain rfl|rfl|rfl:=this<;>simp
def aj_{a b:Value}(hx:PE w (·<B) x a)(hy:PE w (·<B) y b):∀i(h:i<[x,y].length),PE w (·<B) [x,y][i]<|(λi:Nat=>if i=0 then a else b) i:=xY
def aka{a b c:Value}(hx:PE w (·<B) x a)(hy:PE w (·<B) y b)(hz:PE w (·<B) z c):∀i(h:i<[x,y,z].length),PE w (·<B) [x,y,z][i]<|(λi:Nat=>if i=0 then a else if i=1 then b else c) i:=xY
def Sc{p:Prop}(h:p:=by
 have X2:=X1.af Xm;rw[aaG aB];simp only[nn]at N7;have HC:=ai<|To (g:=w.heap.size+1) (sc:=2) (l:=l) (L:=[x,y]) (λq hq=>MU q hq) X2.d hB BZ ag ⟨ae,ae⟩ (ahO ag rfl) (aj_ ((hx.af cE).af Xm)<|(hy.af cE).af Xm) Xg (λx=>qAv) HS hL;simp only[yE,qO,Nat.zero_add,Nat.reduceAdd]at HC;obtain⟨c1,f1,y1⟩:=uh B1;clear cE Xm hx hy;go_enter func72,ntmps72;go_wp2_with fail;refine HC.mono ?_;rintro e w2⟨rfl,k2,d2⟩;have X3:=X2.fr k2 d2;clear k2 d2 HC
 go_wp2
 go_end0
 exact⟨rfl,X3.k,X3.d⟩):p:=h
def Sh{p:Prop}(h:p:=by
 go_wp2
 go_end0
 exact⟨rfl,X3.k,X3.d⟩):p:=h
def agE:∀nd,PXC nd:=by
 refine Nd.ind ?_;intro k s n L fr t a MU w cb tb mb lb B ty mk lo f v l h hB BZ hx Xg N7 hs;have HS:=ai hs.part;have hL:=hs.len.1;have X0:CE cb tb mb lb ty mk lo w f w:=⟨h,Fr.refl _ _⟩;have⟨z1,z2,z3,z4⟩:=h.lts;have zT:∀b,b<B->¬(b=cb\/b=lb):=λb hb q=>ae;clear h hs
 cases hx with
 |low _ _ _ _ _ kY=>
  have⟨cE,B1⟩:=uo w #[Nv fr,Nv t,Sv s] 198;have X1:=X0.af cE;rw[show dA ty mk (.mk 1 s n [] fr t a) l f=ba (!fQ s l) 5 fr t f by unfold dA;rfl];obtain⟨N,hN⟩:∃N,Hid<|N=lo s:=⟨_,ai rfl⟩;have ya:∀q,(Instr.lookup 103 (Mv lb) (Sv s) false).run xg ((w.alloc<|Cv #[Nv fr,Nv t,Sv s] 198).drewN q)=.ok (Nv N) ((w.alloc<|Cv #[Nv fr,Nv t,Sv s] 198).drewN q):=λq=>by
   have:=(X1.af<|(ql _ _).drewN q).d.l.look s;rw[<-uh hN]at this;exact this
  have HE:((N:Int)==0)= !fQ s l:=(by
   cases hq:fQ s l with
   |true=>have:=(Xg s).2<|yh.1 hq;have h2:=uh hN;simp;omega|false=>
    have h1:lo s=0:=by
     apply xm;intro e;exact Gm.1 hq<|(Xg s).1 e
    have h2:=uh hN
    simp;omega)
  have⟨c1,f1,y1⟩:=uh B1;have⟨c2,f2,y2⟩:=X1.d.bx;clear cE
  cases rj:fQ s l with
  |true=>
   rw[rj]at HE;have hE':=HE;go_enter func72,ntmps72
   go_wp2
   go_quiet(fail)
   go_wp2
   go_end0;exact⟨rfl,(X1.af<|(ql _ _).drewN _).k,(X1.af<|(ql _ _).drewN _).d⟩
  |false=>
   rw[rj]at HE;have hE':=HE;have HC:=λq=>ai<|rZ (X1.af<|(Below.refl _ _).drewN q).d 5 fr t;go_enter func72,ntmps72
   go_wp2
   go_quiet(fail);go_wp2_with fail;refine(uh<|HC _).mono ?_;rintro e w2⟨rfl,k2,d2⟩;have X2:=(X1.af<|(ql _ _).drewN _).ke k2 d2;clear k2 d2 HC
   go_wp2
   go_end0;exact⟨rfl,X2.k,X2.d⟩
 |up _ _ _ _ _ kY=>
  have⟨cE,B1⟩:=uo w #[Nv fr,Nv t,Sv s] 219;have X1:=X0.af cE;rw[show dA ty mk (.mk 2 s n [] fr t a) l f=ba (mk s).isNone 5 fr t f by unfold dA;rfl];have⟨c1,f1,y1⟩:=uh B1;have⟨c2,f2,y2⟩:=X1.d.bx;obtain⟨b,hb⟩:∃b,Hid<|b=(mk s).isSome:=⟨_,ai rfl⟩;have HB:=show(mk s).isNone= !b by rw[uh hb];cases mk s<;>rfl
  clear cE;go_enter func72,ntmps72
  go_wp2
  go_region_with(go_at_call 117;refine(SG (v:=Mv mb) (qg ⟨mb,rfl,(X1.af (ql _ _).drew).d.m⟩) s).mono ?_;rintro e w2⟨rfl,rfl⟩;rw[<-uh hb])
  all_goals(
   cases b with
   |true=>
    go_wp2
    go_end0;exact⟨rfl,(X1.af (ql _ _).drew).k,by rw[HB];exact(X1.af (ql _ _).drew).d⟩
   |false=>
    have HC:=ai<|rZ (X1.af (ql _ _).drew).d 5 fr t;go_wp2_with fail;refine HC.mono ?_;rintro e w2⟨rfl,k2,d2⟩;have X2:=(X1.af (ql _ _).drew).ke k2 d2;clear k2 d2 HC
    go_wp2
    go_end0
    exact⟨rfl,X2.k,by rw[HB];exact X2.d⟩)
 |pr _ _ x y _ _ _ vx vy hx hy=>
  obtain⟨t1,x1,rfl⟩:=hx.iface;obtain⟨t2,x2,rfl⟩:=hy.iface;have⟨cE,B1⟩:=uo w #[Nv fr,Nv t,Fv t1<|Av x1,Fv t2<|Av x2] 221;have X1:=X0.af cE;have Xm:Bq (w.alloc<|Cv #[Nv fr,Nv t,Fv t1<|Av x1,Fv t2<|Av x2] 221) ((w.alloc<|Cv #[Nv fr,Nv t,Fv t1<|Av x1,Fv t2<|Av x2] 221).alloc<|Cv #[Fv t1<|Av x1,Fv t2<|Av x2] 81):=bw _;exact Sc
 |op _ _ x y _ _ _ vx vy ho hx hy=>
  obtain⟨t1,x1,rfl⟩:=hx.iface;obtain⟨t2,x2,rfl⟩:=hy.iface;have⟨cE,B1⟩:=uo w #[Nv fr,Nv t,Sv s,Fv t1<|Av x1,Fv t2<|Av x2] 236;have X1:=X0.af cE;have Xm:Bq (w.alloc<|Cv #[Nv fr,Nv t,Sv s,Fv t1<|Av x1,Fv t2<|Av x2] 236) ((w.alloc<|Cv #[Nv fr,Nv t,Sv s,Fv t1<|Av x1,Fv t2<|Av x2] 236).alloc<|Cv #[Fv t1<|Av x1,Fv t2<|Av x2] 81):=bw _;exact Sc
 |call _ _ x y _ _ _ vx vy hx hy=>
  obtain⟨t1,x1,rfl⟩:=hx.iface;obtain⟨t2,x2,rfl⟩:=hy.iface;have⟨cE,B1⟩:=uo w #[Nv fr,Nv t,Fv t1<|Av x1,Fv t2<|Av x2] 238;have X1:=X0.af cE;have Xm:Bq (w.alloc<|Cv #[Nv fr,Nv t,Fv t1<|Av x1,Fv t2<|Av x2] 238) ((w.alloc<|Cv #[Nv fr,Nv t,Fv t1<|Av x1,Fv t2<|Av x2] 238).alloc<|Cv #[Fv t1<|Av x1,Fv t2<|Av x2] 81):=bw _;exact Sc
 |ite _ _ x y z _ _ _ vx vy vz hx hy hz=>
  obtain⟨t1,x1,rfl⟩:=hx.iface;obtain⟨t2,x2,rfl⟩:=hy.iface;obtain⟨t3,x3,rfl⟩:=hz.iface;have⟨cE,B1⟩:=uo w #[Nv fr,Nv t,Fv t1<|Av x1,Fv t2<|Av x2,Fv t3<|Av x3] 230;have X1:=X0.af cE;have Xm:Bq (w.alloc<|Cv #[Nv fr,Nv t,Fv t1<|Av x1,Fv t2<|Av x2,Fv t3<|Av x3] 230) ((w.alloc<|Cv #[Nv fr,Nv t,Fv t1<|Av x1,Fv t2<|Av x2,Fv t3<|Av x3] 230).alloc<|Cv #[Fv t1<|Av x1,Fv t2<|Av x2,Fv t3<|Av x3] 81):=bw _;have X2:=X1.af Xm;rw[aaG aB];simp only[nn]at N7;have HC:=ai<|To (g:=w.heap.size+1) (sc:=3) (l:=l) (L:=[x,y,z]) (λq hq=>MU q hq) X2.d hB BZ ag ⟨ae,ae⟩ (ahP ag rfl) (aka ((hx.af cE).af Xm) ((hy.af cE).af Xm)<|(hz.af cE).af Xm) Xg (λx=>qAv) HS hL;simp only[yE,qO,Nat.zero_add,Nat.reduceAdd]at HC;have⟨c1,f1,y1⟩:=uh B1;clear cE Xm hx hy hz;go_enter func72,ntmps72;go_wp2_with fail;refine HC.mono ?_;rintro e w2⟨rfl,k2,d2⟩;have X3:=X2.fr k2 d2;clear k2 d2 HC;exact Sh
 |of _ _ x y _ _ _ vx vy hx hy=>
  obtain⟨t1,x1,rfl⟩:=hx.iface;obtain⟨t2,x2,rfl⟩:=hy.iface;have⟨cE,B1⟩:=uo w #[Nv fr,Nv t,Fv t1<|Av x1,Fv t2<|Av x2] 224;have X1:=X0.af cE;rw[ag9];simp only[nn,cD]at N7;have HY:=hy.af cE;have HC:=ai<|MU x ag _ cb tb mb lb B ty mk lo f _ l X1.d hB BZ (hx.af cE) Xg (λx=>qAv)<|HS x ag;have⟨c1,f1,y1⟩:=uh B1;clear cE hx hy;go_enter func72,ntmps72;go_wp2_with fail;refine HC.mono ?_;rintro e w2⟨rfl,k2,d2⟩;have X2:=X1.fr k2 d2;have B2:=ai<|B1.fr k2<|λq=>ae;have HY2:=HY.QO k2 zT;have s_:=Jl y _ cb tb mb lb B ty mk lo _ _ (.map none) (λ_=>none) [] X2.d hB HY2 (Or.inl ⟨rfl,rfl⟩) (λb q=>lq) (λs _=>by simp[fQ])<|uh HS y ag;clear k2 d2 HC c1 f1 y1;have⟨c1,f1,y1⟩:=uh B2;go_wp2_with fail;refine s_.mono ?_;rintro e w3⟨rfl,k3,d3⟩;have X3:=X2.ke k3 d3;clear k3 d3 s_;exact Sh
 |fn _ _ x _ _ _ y vx kY hy hx=>
  obtain⟨t1,x1,rfl⟩:=hx.iface;have⟨cE,B1⟩:=uo w #[Nv fr,Nv t,Nv a,Nv y,Sv s,Fv t1<|Av x1] 226;have X1:=X0.af cE;have BB:=B1;rw[ajC];simp only[nn,cD]at N7;have HX:=hx.af cE;have HE:=MU x ag;have HSX:=HS x ag;have⟨c1,f1,y1⟩:=uh B1;clear cE hx hy;go_enter func72,ntmps72
  go_wp2
  go_region_with(first
   |(go_at_call 71;refine(abK _ _ _).mono ?_;rintro e w1⟨gb,rfl,hgb,b1,g1⟩;have hb:=(ql _ _).drew.trans<|b1.mono<|br _;have Y1:=ai<|X1.af hb;have Q1:=ai<|HX.af hb;have G1:=ai g1;have C1:=ai<|BB.below hb;have aj9:w.heap.size+1<=gb:=(by have:=hgb;simp at this;omega);have⟨c3,f3,y3⟩:=uh C1;clear hb b1 g1 hgb)
   |(go_at_call 70;refine(tW (l:=l) HE Y1.d hB BZ Q1 G1 ⟨ae,ae,ae,ae⟩ Xg (λx=>qAv) HSX).mono ?_;rintro e w2'⟨rfl,k2,d2⟩;have X2:=ai<|Y1.fr k2 d2;clear k2 d2))
  all_goals(
   go_wp2
   go_end0
   exact⟨rfl,X2.k,X2.d⟩)
 |lt _ _ _ x z _ _ _ y vx vz hc kY hy hx hz=>
  obtain⟨t1,x1,rfl⟩:=hx.iface;obtain⟨t2,x2,rfl⟩:=hz.iface
  have HRR:=ai (show dA ty mk (.mk k s n [x,z] fr t a) l f=dA ty mk z (l++[s]) (dA ty mk x (if(k==11)=true then l++[s]else l) f) by
   obtain rfl|rfl:=hc
   .rw[ag7];rfl
   .rw[ag8];rfl)
  rw[uh HRR];obtain⟨rr,hrr⟩:∃rr,rr=(k==11):=⟨_,rfl⟩;rw[<-hrr];obtain⟨fz,HFZ⟩:∃fz,Hid<|fz=dA ty mk x (if rr=true then l++[s]else l) f:=⟨_,ai rfl⟩;rw[<-uh HFZ];clear HRR hrr;have⟨cE,B1⟩:=uo w #[Nv fr,Nv t,.bool rr,Nv a,Nv y,Sv s,Fv t1<|Av x1,Fv t2<|Av x2] 228;have X1:=X0.af cE;simp only[nn,cD]at N7;have HZ:=hz.af cE;have HC:=ai<|QP (l:=l) (MU x ag) X1.d hB BZ (hx.af cE) Xg (λx=>qAv) (HS x ag) rr (a:Int) (y:Int) s;rw[<-uh HFZ]at HC;have HE:=MU z ag;have HSX:=HS z ag;have⟨c1,f1,y1⟩:=uh B1;clear cE hx hy hz;go_enter func72,ntmps72;go_wp2_with fail;refine HC.mono ?_;rintro e w2⟨rfl,k2,d2⟩;have X2:=X1.fr k2 d2;have BB:=ai<|B1.fr k2<|λq=>ae;have HZ2:=HZ.QO k2 zT;have hw2:=k2.size;clear k2 d2 HC c1 f1 y1;have⟨c1,f1,y1⟩:=uh BB
  go_wp2
  go_region_with(first
   |(go_at_call 71;refine(abK _ _ _).mono ?_;rintro e w1⟨gb,rfl,hgb,b1,g1⟩;have hb:=(ql _ _).drew.trans<|b1.mono<|br _;have Y1:=ai<|X2.af hb;have Q1:=ai<|HZ2.af hb;have G1:=ai g1;have C1:=ai<|BB.below hb;have aj9:w.heap.size+1<=gb:=(by have:=hgb;have h3:=hw2;simp at this h3;omega);have⟨c3,f3,y3⟩:=uh C1;clear hb b1 g1 hgb)
   |(go_at_call 70;refine(tW (l:=l) HE Y1.d hB BZ Q1 G1 ⟨ae,ae,ae,ae⟩ Xg (λx=>qAv) HSX).mono ?_;rintro e w2'⟨rfl,k2,d2⟩;have X3:=ai<|Y1.fr k2 d2;clear k2 d2))
  all_goals(
   go_wp2
   go_end0
   exact⟨rfl,X3.k,X3.d⟩)
 |mt _ _ x A _ _ _ vx g sc vp ve h0 hg hz hc hx hp he=>
  obtain⟨t1,x1,rfl⟩:=hx.iface;have⟨cE,B1⟩:=uo w #[Nv fr,Nv t,Fv t1<|Av x1,Lv (some ⟨g,0,none⟩) A.length sc] 233;have X1:=X0.af cE;rw[ag_];simp only[nn,cD]at N7;have Y6:=hg;have hAL:A.length<=1000:=by simp only[yE]at hL;rw[DB]at hL;omega
  have HC:=ai<|MU x ag _ cb tb mb lb B ty mk lo f _ l X1.d hB BZ (hx.af cE) Xg (λx=>qAv)<|HS x ag;have⟨c1,f1,y1⟩:=uh B1
  have HIA:∀q∈A,PXC q.2:=(λq hq=>by
   obtain⟨i,hi,rfl⟩:=List.getElem_of_mem hq
   exact MU _<|List.mem_cons_of_mem _ (Ga A i hi).2)
  clear cE hx;go_enter func72,ntmps72;go_wp2_with fail;refine HC.mono ?_;rintro e w2⟨rfl,k2,d2⟩;have X2:=X1.fr k2 d2;have B2:=ai<|B1.fr k2<|λq=>ae;have mw:∀o,w2.cell? ⟨g,o,none⟩=w.cell? ⟨g,o,none⟩:=λo=>World.cell?_of_block (a:=⟨g,o,none⟩)<|X2.k.block g hz<|zT g Y6;have s_:=ahv (l:=l) (sc:=sc) (vp:=vp) (ve:=ve) HIA X2.d hB BZ Y6 (Nat.lt_of_lt_of_le hz X2.k.size) (λi hi=>by rw[mw,mw,mw,mw];exact hc i hi) (λi hi=>(hp i hi).QO X2.k zT) (λi hi=>(he i hi).QO X2.k zT) Xg (λq=>by have:=N7 q;have:=FY x;omega) (λq hq=>HS q<|List.mem_cons_of_mem _ hq) hAL;clear k2 d2 HC c1 f1 y1 mw;have⟨c1,f1,y1⟩:=uh B2;go_wp2_with fail;refine s_.mono ?_;rintro e w3⟨rfl,k3,d3⟩;have X3:=X2.fr k3 d3;clear k3 d3 s_;exact Sh
 |_=>
  rw[aaG aB,show hY ty mk [] l f=f by unfold hY;rfl];go_enter func72,ntmps72
  go_wp2
  go_end0;exact⟨rfl,X0.k,X0.d⟩
def Fr.wide{T}{a b}(h:Fr S a b)(hS:∀x,S x->T x):Fr T a b:=⟨h.os,h.tape,h.output,h.size,λk hk hn=>h.block k hk<|λq=>hn<|hS k q⟩
section
variable {tb lb:Nat} {lo:BA->Nat} {e0:SE}
def agC:eM (eM (eM (λ_=>none) ry 0) ys 0) iW 0=ty0:=by grind[eM,ty0]
def EU:Cq 30 #[] w λe w'=>∃cb tb mb lb,e=.returned (cp cb)/\Bq w w'/\(w.heap.size<=cb/\w.heap.size<=tb/\w.heap.size<=mb/\w.heap.size<=lb)/\CK w' cb tb mb lb ty0 (λ_=>none) (λ_=>0) oj:=by
 have jA:= @run_makeMap Tryz.prog;have H:=MS.new Sv w;have HF:∀x,a_ x ([]:List (BA×Value))=((λ_=>none:BA->Option Nat) x).map λ(n:Nat)=>Nv n:=(λx=>rfl);have HB:=(Below.refl w.heap.size w).alloc (br _)<|.map #[] 0;have HZ:(w.alloc<|.map #[] 0).heap.size=w.heap.size+1:=ag;go_enter func30,ntmps30
 go_wp2_with(first
  |(refine aV _ rfl _ _ _ _ (qh rfl) (KL.str xh) Tryz.underlying103 _ _ rfl H ry (.int .i64 ((0:Nat):Int)) rfl rfl trivial (λ_ _=>trivial) ?_;intro w1 H' O';have H1:=ai H';have BL:=ai<|FM.put HF ry 0;have eH:=ai<|One.below HB O'<|br _;have HZ1:=ai<|O'.size.trans HZ;clear H' O' H HF HB HZ)|(refine aV _ rfl _ _ _ _ (qh rfl) (KL.str xh) Tryz.underlying103 _ _ rfl H1 ys (.int .i64 ((0:Nat):Int)) rfl rfl trivial (λ_ _=>trivial) ?_;intro w2 H' O';have H2:=ai H';have Bu:=ai<|FM.put BL ys 0;have eG:=ai<|One.below eH O'<|br _;have HZ2:=ai<|O'.size.trans HZ1;clear H' O' H1 BL eH HZ1)|(refine aV _ rfl _ _ _ _ (qh rfl) (KL.str xh) Tryz.underlying103 _ _ rfl H2 iW (.int .i64 ((0:Nat):Int)) rfl rfl trivial (λ_ _=>trivial) ?_;intro w3 H' O';have H3:=ai H';have HF3:=ai<|FM.put Bu iW 0;have zQ:=ai<|One.below eG O'<|br _;have HZ3:=ai<|O'.size.trans HZ2;clear H' O' H2 Bu eG HZ2))
 go_ret;have z3:=uh HZ3;have b4:Bq w3 (((w3.alloc<|.map #[] 0).alloc<|.map #[] 0).alloc<|Cv #[Mv w.heap.size,Mv w3.heap.size,Mv<|w3.heap.size+1,Iv 0,Iv 0,Iv 0] 105):=((bw _).alloc ag _).alloc bF _;have m1:MS Sv (((w3.alloc<|.map #[] 0).alloc<|.map #[] 0).alloc<|Cv #[Mv w.heap.size,Mv w3.heap.size,Mv<|w3.heap.size+1,Iv 0,Iv 0,Iv 0] 105) w3.heap.size []:=((MS.new Sv w3).below<|bw _).below<|bw _;have m2:MS Sv (((w3.alloc<|.map #[] 0).alloc<|.map #[] 0).alloc<|Cv #[Mv w.heap.size,Mv w3.heap.size,Mv<|w3.heap.size+1,Iv 0,Iv 0,Iv 0] 105) (w3.heap.size+1) []:=by
  have:=(MS.new Sv<|w3.alloc<|.map #[] 0).below<|bw<|Cv #[Mv w.heap.size,Mv w3.heap.size,Mv<|w3.heap.size+1,Iv 0,Iv 0,Iv 0] 105;simpa using this
 have bx:Bx (((w3.alloc<|.map #[] 0).alloc<|.map #[] 0).alloc<|Cv #[Mv w.heap.size,Mv w3.heap.size,Mv<|w3.heap.size+1,Iv 0,Iv 0,Iv 0] 105) (w3.heap.size+1+1) #[Mv w.heap.size,Mv w3.heap.size,Mv<|w3.heap.size+1,Iv 0,Iv 0,Iv 0]:=by
  have:=Bx.new ((w3.alloc<|.map #[] 0).alloc<|.map #[] 0) #[Mv w.heap.size,Mv w3.heap.size,Mv<|w3.heap.size+1,Iv 0,Iv 0,Iv 0] 105;simpa using this
 have ft:=uh HF3;rw[agC]at ft;refine⟨w3.heap.size+1+1,w.heap.size,w3.heap.size,w3.heap.size+1,rfl,zQ.trans<|b4.mono ae,⟨ae,ae,ae,ae⟩,bx,⟨_,H3.below b4,ft⟩,⟨_,m1,λx=>rfl⟩,⟨_,m2,λx=>qg ⟨rfl,rfl⟩⟩,ae,ae,ae,ae,ae,ae⟩
def DSo:Dc->Prop
 |.ty _ vs ms=>vs.length<=1000/\(∀m∈ms,Sm m)/\ms.length<=1000|.lt _ _ b=>Sm b/\nn b<=1000
def DeP(cb tb mb lb B:Nat)d e0(lo:BA->Nat)w(e:Ending)w':=e=.returned (.tuple #[])/\∃Y8,CK w' cb tb mb lb (NZ eM d e0).ty (NZ eM d e0).mks Y8 (NZ eM d e0).f/\MH Y8 (NZ eM d e0).nm/\(∀x,Y8 x<=lo x+1)/\Fr (λb=>b=cb\/b=tb\/b=mb\/b=lb) w w'
def MH.put{l}(h:MH lo l)s:MH (λx=>if x=s then lo s+1 else lo x) (l++[s]):=by grind[MH]
def agD(h:CK w cb tb mb lb e0.ty e0.mks lo e0.f)(hl:MH lo e0.nm)(hB:B<=cb)(hBt:B<=tb)(hBm:B<=mb)(BZ:B<=lb)(hx:PD w (·<B) d v)(hs:DSo d)(rl:∀x,lo x<=2000):
 Cq 31 #[cp cb,v] w (DeP cb tb mb lb B d e0 lo w):=by
 have⟨z1,z2,z3,z4⟩:=h.lts
 cases d with
 |ty t vs ms=>
  obtain⟨x,u,vv,vm,rfl,hu,ht,hv,hm0,hm⟩:=hx;have HV:=hv.move dn (br _) (λ_ _ _=>rfl)<|λ_ p _=>p;have HM:=hm.move bZ (br _) (λ_ _ _=>rfl)<|λ_ p _=>p;obtain⟨va,vc,cv,rfl,-⟩:=hv;obtain⟨ma,mc,cm,rfl,-⟩:=hm;have⟨cE,B1⟩:=uo w #[Iv x,Iv u,Nv t.al,Nv t.to,Sv t.text,Lv va vs.length vc,Lv ma ms.length mc] 78;have HC:=ai<|NY (t:=t) (x:=x) (y:=u) (h.af cE) hB hBt hBm BZ (HV.move dn cE.size (λb _ z=>cE.block b z)<|λ_ p _=>p) (HM.move bZ cE.size (λb _ z=>cE.block b z)<|λ_ p _=>p) hs.1 hs.2.1 hs.2.2;have HB:=ai cE;have⟨c1,f1,y1⟩:=uh B1;clear h cE HV HM hs ht hu;go_enter func31,ntmps31;go_wp2_with fail;refine HC.mono ?_;rintro e w2⟨rfl,K2,D2⟩;clear HC
  go_wp2
  go_end0;exact⟨rfl,lo,D2,hl,λx=>j7 _,(Fr.of HB).trans' K2<|λb q=>qh (by obtain q|q|q:=q;exact qh q;exact qg<|qh q;exact qg<|qg<|qh q)⟩
 |lt r t b=>
  obtain⟨x,u,vb,rfl,hu,ht,hb⟩:=hx;obtain⟨u1,x1,rfl⟩:=hb.iface;have⟨cE,B1⟩:=uo w #[Iv x,Iv u,.bool r,Nv t.al,Nv t.to,Sv t.text,Fv u1<|Av x1] 85;have X1:CE cb tb mb lb e0.ty e0.mks lo w e0.f (w.alloc<|Cv #[Iv x,Iv u,.bool r,Nv t.al,Nv t.to,Sv t.text,Fv u1<|Av x1] 85):=⟨h.af cE,Fr.of cE⟩;have HC:=ai (QP (l:=e0.nm) (agE b) (h.af cE) hB BZ (hb.af cE) hl (λx=>by have:=rl x;have:=hs.2;omega) hs.1 r (t.al:Int) (t.to:Int) t.text);have⟨c1,f1,y1⟩:=uh B1;clear h cE hb hs ht hu;go_enter func31,ntmps31;go_wp2_with fail;refine HC.mono ?_;rintro e w2⟨rfl,k2,d2⟩;have X2:=X1.fr k2 d2;have B2:=B1.fr k2<|λq=>ae;clear k2 d2 HC c1 f1 y1;obtain⟨N,hN⟩:∃N,Hid<|N=lo t.text:=⟨_,ai rfl⟩;have X3:=X2.af (Below.refl _ _).drew;have ya:=X3.d.l.look t.text;rw[<-uh hN]at ya;have⟨L,hM,HLL⟩:=X3.d.l;have⟨o,amy,Db⟩:=hM.put (KL.str Tryz.underlying9) Tryz.underlying103 t.text (Iv<|(N:Int)+1) trivial<|λ_ _=>trivial;have hN7:(N:Int)<=3000:=by have:=rl t.text;have:=uh hN;omega
  obtain⟨c1,f1,y1⟩:=B2;have⟨c2,f2,y2⟩:=X2.d.bx;clear hM
  go_wp2
  go_region
  all_goals(
   go_wp2
   go_end0;have hv:(Iv<|(N:Int)+1)=.int .i64 ((N+1:Nat):Int):=rfl;have M3:=Db;rw[hv]at M3;have X5:=X3.put (One.set w2.drew lb o) M3<|LM.put HLL t.text<|N+1;rw[uh hN]at X5
   exact⟨rfl,_,X5.d,hl.put t.text,λy=>by show(if y=t.text then lo t.text+1 else lo y)<=lo y+1;split;rename_i e;rw[e];exact br _;exact j7 _,X5.k.wide (λb q=>by obtain q|q:=q;exact qh q;exact qg<|qg<|qg q)⟩)
end
def zU{l:List Dc}(h:bV s=.ok l):(∀d∈l,DSo d)/\l.length<=802:=by
 have⟨h1,h2⟩:=Y9 h;refine⟨λd hd=>?_,?_⟩
 .have h3:=h1 d hd;have h4:=EV hd
  cases d with
  |ty t vs ms=>
   simp only[Hi]at h4;have:=pS ms;exact⟨h3.1,h3.2,ae⟩
  |lt r t b=>exact⟨h3.1,h3.1.2⟩
 .have:∀l:List Dc,l.length<=Jm l:=λl=>by
   induction l with
   |nil=>simp[Jm]|cons d r ih=>
    simp only[Jm,jm,List.sum_cons,yE]at ih⊢;have:1<=Hi d:=by cases d<;>simp[Hi]<;>omega
    omega
  exact j8 (this l) h2
def FAR w0 cb tb mb lb(l:List Dc)gk c wr:=∃(j:Nat)(lo:BA->Nat),Hid (gk=l.length-j)/\j<=l.length/\c=Nv j/\CK wr cb tb mb lb (dx eM (l.take j) oP).ty (dx eM (l.take j) oP).mks lo (dx eM (l.take j) oP).f/\MH lo (dx eM (l.take j) oP).nm/\(∀x,lo x<=j)/\Fr (λb=>b=cb\/b=tb\/b=mb\/b=lb) w0 wr
def ac5{l:List Dc}(hr:RowV QD 1 w (·<w.heap.size) l u)(hS:∀d∈l,DSo d)(hl:l.length<=802):
 Cq 21 #[.agg #[u]] w λe w'=>e=.returned (MI (dx eM l oP).f)/\Bq w w':=by
 obtain⟨va,vc,cs,rfl,HW,HQ⟩:=hr;obtain⟨Z,HZ⟩:∃Z,Hid<|Z=(dx eM l oP).f:=⟨_,ai rfl⟩;rw[<-uh HZ];have dz:Bq w ((w.alloc<|Cv #[Lv va l.length vc] 46).alloc<|Cv #[Iv 0,Iv 0,Iv 0] 30):=(bw _).alloc ag _;have B1:=ai<|(Bx.new w #[Lv va l.length vc] 46).alloc<|Cv #[Iv 0,Iv 0,Iv 0] 30;have F1:Bx ((w.alloc<|Cv #[Lv va l.length vc] 46).alloc<|Cv #[Iv 0,Iv 0,Iv 0] 30) (w.heap.size+1) #[Iv 0,Iv 0,Iv 0]:=(by have:=Bx.new (w.alloc<|Cv #[Lv va l.length vc] 46) #[Iv 0,Iv 0,Iv 0] 30;simpa using this);have eH:=ai dz;have HC:=EU (w:=(w.alloc<|Cv #[Lv va l.length vc] 46).alloc<|Cv #[Iv 0,Iv 0,Iv 0] 30);have⟨c1,f1,y1⟩:=uh B1;go_enter func21,ntmps21;go_wp2_with fail;refine HC.mono ?_;rintro e w2⟨cb,tb,mb,lb,rfl,b2,hz,D2⟩;have hz':w.heap.size+2<=cb/\w.heap.size+2<=tb/\w.heap.size+2<=mb/\w.heap.size+2<=lb:=by simpa using hz
 have eG:=eH.trans<|b2.mono eH.size;have B2:=ai<|B1.below b2;have F2:=F1.below b2;have hw2:=eG.size;have⟨c1,f1,y1⟩:=uh B2
 go_wp2
 go_loopg[10] l.length (λgk c wr=>FAR w2 cb tb mb lb l gk c wr)
 case atStart=>exact⟨0,λ_=>0,ai rfl,j9 _,rfl,D2,λx=>by simp[dx,oP],λx=>br _,Fr.refl _ _⟩
 case round=>
  obtain⟨j,lo,dl,hj,rfl,hD,LR,N7,FR⟩:=hrel;have DR':=ai hD;have hBW:Bq w wr:=⟨FR.os.trans eG.os,FR.tape.trans eG.tape,FR.output.trans eG.output,j8 eG.size FR.size,λb hb=>(FR.block b (qe hb eG.size)<|λq=>ae).trans<|eG.block b hb⟩;have F3:=ai<|F2.fr FR<|λq=>ae;by_cases bA:j<l.length
  .have hd:(j:Int)<(l.length:Int):=ae;obtain⟨g,rfl,-,hg,qQ⟩:∃g,va=some ⟨g,0,none⟩/\g<w.heap.size/\g<w.heap.size/\∀i,i<l.length->∀j,j<1->w.cell? ⟨g,i*1+j,none⟩=some (cs i j):=by
    obtain e|e:=HW
    .exact absurd bA UH
    .exact e
   have d0:=(qi (a:=⟨g,j*1+0,none⟩)<|hBW.block g hg).trans<|qQ j bA 0 ae;simp only[Nat.mul_one,Nat.add_zero]at d0;have MJ:=HQ j bA;have HPD:=MJ.move hBW.size (λb _ z=>hBW.block b z) (Q:=(·<w.heap.size))<|λ_ p _=>p;have⟨t1,x1,e1⟩:=MJ.iface;rw[e1]at d0 HPD;have Hl:=UJ eM l oP j bA;generalize dx eM (l.take j) oP=e0 at DR' LR Hl;have HC:=agD DR' LR ae ae ae ae HPD (hS _<|ja bA)<|λx=>qAv;go_wp2_with fail;refine HC.mono ?_;rintro e w3⟨rfl,Y8,D3,L3,O3,k3⟩;have K3:=FR.trans k3
   go_wp2
   go_roundg(l.length-(j+1))
   case measure=>rw[uh dl];omega
   case rel=>exact⟨j+1,Y8,ai rfl,ae,jP,by rw[Hl];exact D3,by rw[Hl];exact L3,λx=>j8 (O3 x)<|Nat.succ_le_succ<|N7 x,K3⟩
  .have hd:decide ((j:Int)<(l.length:Int))=false:=bF;have he:l.take j=l:=List.take_of_length_le ae;rw[he,<-uh HZ]at DR';have⟨c4,f4,y4⟩:=DR'.bx;have⟨c3,f3,y3⟩:=uh F3;have B5:=ai<|F3.oQ rfl (Nv Z.kind) (Nv Z.al) (Nv Z.to);go_wp2_with fail;have⟨c5,f5,z5⟩:=uh B5;refine bodyPost_ret (v:=MI Z) (by simp[results,Tryz.results21,go_sem,MI,c5]) rfl ?_;exact⟨rfl,((hBW.setCell (j7 _) _).setCell (j7 _) _).setCell (j7 _) _⟩
end
section
open Go.ChangeMaps Un
def adL(h:Q' s):(⟨#[39]⟩:BA)++s.extract 1 s.size=s:=by
 obtain⟨r,hr⟩:=h;apply toList_inj;rw[hr];have h2:=yr hr;rw[tl]at h2;rw[xk]at h2⊢;rw[ByteArray.data_append];simp only[Array.toList_append,h2];rfl
def aaZ(h:Q' s):Lc s:=by grind[Q',Lc]
def ahj s n f t a k:wT (.mk 16 s n [] f t a) k=s.toList:=by simp[wT]
def ajH s n x y f t a:wT (.mk 17 s n [x,y] f t a) 0=wT x 1++([32,45,62,32]++wT y 0):=by
 simp only[wT,iO,show ¬(17=16) by decide,if_false,if_true,bD,wTL];rfl
def ajI s n x y f t a:wT (.mk 6 s n [x,y] f t a) 0=40::(wT x 0++([44,32]++(wT y 0++[41]))):=by
 have cV:¬m9=pN:=xY;simp only[wT,iO,show ¬(6=16) by decide,show ¬(6=17) by decide,if_false,if_true,bD,if_neg cV,wTL];rfl
def ajJ s(hu:od s)n L f t a:wT (.mk 2 s n L f t a) 0=s.toList++(L.map wT).flatMap λp=>32::p 2:=by
 have h1:s≠pN:=λe=>da hu 62 [] aB (by rw[e];exact toList_mk [62]);have h2:s≠m9:=λe=>da hu 44 [] aB (by rw[e];exact toList_mk [44]);simp only[wT,iO,show ¬(2=16) by decide,show ¬(2=17) by decide,show ¬(2=6) by decide,if_false,bD,if_neg h1,if_neg h2,So];rfl
def tT{t}(h:t.toList=r)(h1:r≠[])(h2:r≠[40]):Lc t:=by grind[Lc]
def aa0 s n f t a(hss:s.size<=1000):AL (.mk 16 s n [] f t a):=by
 intro w B pb bv l last mv Q v h hp hq hl hB
 cases hp with
 |var s n f t a x y hqu=>
 rw[ahj]at hl⊢;simp only[lM]at hl;have hzp:=h.lt;have Zx:s.toList.length=s.size:=by rw[xk];simp
 have cr:Bq w ((w.alloc<|Cv #[Iv x,Iv y,Sv<|s.extract 1 s.size] 162).alloc<|Cv #[Sv s] 9):=(bw _).alloc ag _;have BX:Bx ((w.alloc<|Cv #[Iv x,Iv y,Sv<|s.extract 1 s.size] 162).alloc<|Cv #[Sv s] 9) (w.heap.size+1) #[Sv s]:=by have:=Bx.new (w.alloc<|Cv #[Iv x,Iv y,Sv<|s.extract 1 s.size] 162) #[Sv s] 9;simpa using this
 have HP:=wQ (h.af cr) s ae ae (w.heap.size+1) BX ae;obtain⟨r,Hr⟩:=hqu;rw[pu (by rw[Hr];simp) (by rw[Hr];simp) (by rw[Hr];simp)]at HP;have F0:=FN.of (B:=B) (pb:=pb) cr;have ahc:=adL ⟨r,Hr⟩;go_enter func55,ntmps55;go_wp2_with fail;refine HP.mono ?_;rintro e w1⟨rfl,bv1,N1,F1⟩
 go_wp2
 go_end0;exact⟨rfl,bv1,s,N1,aaZ ⟨r,Hr⟩,F0.trans F1⟩
def adM s n L f t a(hss:s.size<=1000)(hL:L.length<=1001)(IH:∀i(h:i<L.length),Xd L[i]):AL (.mk 2 s n L f t a):=by
 intro w B pb bv l last mv Q v h hp hq hl hB
 cases hp with
 |up s n L f t at_ x y x' y' sa sc vs hu aO hr=>
 rw[ajJ s hu]at hl⊢;have Zx:s.toList.length=s.size:=by rw[xk];simp
 have cr:Bq w (w.alloc<|Cv #[Iv x,Iv y,Iv x',Iv y',Sv s,Lv sa L.length sc] 194):=bw _;have F0:=FN.of (B:=B) (pb:=pb) cr
 have HC:=ai (adK (Q:=Q) s hu hss x' y' L sa sc vs hL (h.af cr) (hq.fn F0) hB
  (aO.imp id λq=>by
   obtain⟨g,q1,q2,q3,q4⟩:=q
   exact⟨g,q1,q2,bF,λi hi=>(qi (a:=⟨g,i,none⟩)<|cr.block g q3).trans<|q4 i hi⟩)
  (λi hi=>(hr i hi).af cr) IH hl)
 go_enter func55,ntmps55;go_wp2_with fail;refine HC.mono ?_;rintro e w1⟨rfl,bv1,aft,N1,fi1,F1⟩
 go_wp2
 go_end0;exact⟨rfl,bv1,aft,N1,fi1,F0.trans F1⟩
def adN s n a b f t at_(Ha:Xd a)(Hb:Xd b):AL (.mk 17 s n [a,b] f t at_):=by
 intro w B pb bv l last mv Q v h hp hq hl hB
 cases hp with
 |fn s n a b f t at_ x y va vb ha hb=>
 rw[ajH]at hl⊢;obtain⟨ta,xa,rfl⟩:=ha.bQ;obtain⟨tb,xb,rfl⟩:=hb.bQ;have hzp:=h.lt;have hsl:=Gn last;simp only[lM,yE,qO]at hl;have⟨cr,XB⟩:=rq w #[Iv x,Iv y,Fv ta<|Av xa,Fv tb<|Av xb] 192;have F0:=FN.of (B:=B) (pb:=pb) cr;have HC:=Ha _ B pb bv l last mv Q _ 1 (h.af cr) (ha.af cr) (hq.fn F0) ae (by simp only[lM];omega) hB;go_enter func55,ntmps55;go_wp2_with fail;refine HC.mono ?_;rintro e w1⟨rfl,bv1,aft,N1,fi1,F1⟩;have X1:=F1.lH XB ae qAi;obtain⟨c1,f1,z1⟩:=X1;have amF:=N1.lt;have dz:Bq w1 (w1.alloc<|Cv #[Sv pw] 9):=bw _;have HP:=wQ (N1.af dz) pw aB (by simp only[lM];omega) w1.heap.size (Bx.new w1 #[Sv pw] 9) ae;rw[pu (by rw[show pw.toList=[45,62]from toList_mk [45,62]];decide) (by rw[show pw.toList=[45,62]from toList_mk [45,62]];decide) (by rw[show pw.toList=[45,62]from toList_mk [45,62]];decide),show pw.toList=[45,62]from toList_mk [45,62],kS fi1]at HP;go_wp2_with fail;refine HP.mono ?_;rintro e w2⟨rfl,Xb,N2,F2⟩;have F12:=(FN.of (B:=B) (pb:=pb) dz).trans F2;have FA:=(F0.trans F1).trans F12;have X2:=(F1.trans F12).lH XB ae qAi;obtain⟨c2,f2,z2⟩:=X2;have HD:=Hb w2 B pb Xb _ pw mv Q _ 0 N2 (hb.fnQ hq FA) (hq.fn FA) ae (by rw[kS<|tT (toList_mk [45,62]) aB aB];simp only[lM,yE,qO];omega) hB;rw[kS<|tT (toList_mk [45,62]) aB aB]at HD
 go_wp2_with fail;refine HD.mono ?_;rintro e w3⟨rfl,bv3,Sp,N3,fi3,F3⟩
 go_wp2
 go_end0;refine⟨rfl,bv3,Sp,?_,fi3,FA.trans F3⟩;have e9:l++(sep last++wT a 1)++([32]++[45,62])++([32]++wT b 0)=l++(sep last++(wT a 1++([32,45,62,32]++wT b 0))):=ag;rw[e9]at N3;simp only[jh,jo,jk]at N3⊢;exact N3
def adO s n a b f t at_(Ha:Xd a)(Hb:Xd b):AL (.mk 6 s n [a,b] f t at_):=by
 intro w B pb bv l last mv Q v h hp hq hl hB
 cases hp with
 |pr s n a b f t at_ x y va vb ha hb=>
 rw[ajI]at hl⊢;obtain⟨ta,xa,rfl⟩:=ha.bQ;obtain⟨tb,xb,rfl⟩:=hb.bQ;have hzp:=h.lt;have hsl:=Gn last;simp only[lM,yE,qO]at hl;have cr:Bq w ((w.alloc<|Cv #[Iv x,Iv y,Fv ta<|Av xa,Fv tb<|Av xb] 196).alloc<|Cv #[Sv gX] 9):=(bw _).alloc ag _;have F0:=FN.of (B:=B) (pb:=pb) cr;have XB:=(Bx.new w #[Iv x,Iv y,Fv ta<|Av xa,Fv tb<|Av xb] 196).alloc<|Cv #[Sv gX] 9;have BX:Bx ((w.alloc<|Cv #[Iv x,Iv y,Fv ta<|Av xa,Fv tb<|Av xb] 196).alloc<|Cv #[Sv gX] 9) (w.heap.size+1) #[Sv gX]:=by have:=Bx.new (w.alloc<|Cv #[Iv x,Iv y,Fv ta<|Av xa,Fv tb<|Av xb] 196) #[Sv gX] 9;simpa using this
 have HP:=wQ (h.af cr) gX aB ae (w.heap.size+1) BX ae;rw[pu qAm qAm qAm,show gX.toList=[40]from toList_mk [40]]at HP;have nx:∀x0,(#[Iv x,Iv y,Fv ta<|Av xa,Fv tb<|Av xb])[0]? =some x0->∀c,x0≠.int .u8 c:=qAi;go_enter func55,ntmps55;go_wp2_with fail;refine HP.mono ?_;rintro e w1⟨rfl,bv1,N1,F1⟩;have G1:=F0.trans F1;have⟨c1,f1,z1⟩:=F1.lH XB ae nx;have hs1:sep gX=[]:=by rw[sep];rw[if_pos<|Or.inr<|toList_mk [40]]
 have HC:=Ha w1 B pb bv1 _ gX mv Q _ 0 N1 (ha.fnQ hq G1) (hq.fn G1) ae (by rw[hs1];simp only[lM,yE,qO];omega) hB;rw[hs1]at HC;go_wp2_with fail;refine HC.mono ?_;rintro e w2⟨rfl,Xb,DK,N2,fi2,F2⟩;have G2:=G1.trans F2;have alC:=N2.lt;have fs:Bq w2 (w2.alloc<|Cv #[Sv AM] 9):=bw _;have Xe:=wQ (N2.af fs) AM aB (by simp only[lM,yE,qO];omega) w2.heap.size (Bx.new w2 #[Sv AM] 9) ae;rw[Gc<|qg<|toList_mk [44],show AM.toList=[44]from toList_mk [44]]at Xe;have⟨c2,f2,z2⟩:=(F1.trans F2).lH XB ae nx;go_wp2_with fail;refine Xe.mono ?_;rintro e w3⟨rfl,bv3,N3,F3⟩;have F23:=(FN.of (B:=B) (pb:=pb) fs).trans F3;have G3:=G2.trans F23;have⟨c3,f3,z3⟩:=((F1.trans F2).trans F23).lH XB ae nx;have HD:=Hb w3 B pb bv3 _ AM mv Q _ 0 N3 (hb.fnQ hq G3) (hq.fn G3) ae (by rw[kS<|tT (toList_mk [44]) aB aB];simp only[lM,yE,qO];omega) hB;rw[kS<|tT (toList_mk [44]) aB aB]at HD;go_wp2_with fail;refine HD.mono ?_;rintro e w4⟨rfl,bv4,amt,N4,fi4,F4⟩;have G4:=G3.trans F4;have amG:=N4.lt;have Ho:Bq w4 (w4.alloc<|Cv #[Sv iQ] 9):=bw _;have HP4:=wQ (N4.af Ho) iQ aB (by simp only[lM,yE,qO];omega) w4.heap.size (Bx.new w4 #[Sv iQ] 9) ae;rw[Gc<|qh<|toList_mk [41],show iQ.toList=[41]from toList_mk [41]]at HP4;go_wp2_with fail;refine HP4.mono ?_
 rintro e w5⟨rfl,bv5,N5,F5⟩
 go_wp2
 go_end0;refine⟨rfl,bv5,iQ,?_,tT (toList_mk [41]) aB aB,G4.trans<|(FN.of Ho).trans F5⟩;have e9:l++(sep last++[40])++([]++wT a 0)++[44]++([32]++wT b 0)++[41]=l++(sep last++40::(wT a 0++([44,32]++(wT b 0++[41])))):=ag;rw[e9]at N5;simp only[jh,jo,jk]at N5⊢;exact N5
end
section
open Un
def Jn{f}(hf:bV s=.error f):f.kind%6≠0/\f.al<=f.to/\f.to<=s.size:=by
 by_cases hs:400<s.size
 .simp[bV,hs]at hf;subst hf;simp
 .have:=pT hs;rw[hf]at this;exact this
def agF s w(e:Ending)w':=
 ∃u f,e=.returned (.tuple #[.agg #[u],MI f])/\Bq w w'/\match bV s with
  |.error f'=>f=f'/\u=.slice none 0 0|.ok l=>f=(dx eM l oP).f/\RowV QD 1 w' (λb=>w.heap.size<=b) l u
def Jo(h:Laid w)s:Calls xg 17 #[.string s] w (agF s w):=by
 obtain⟨W0,hW0⟩:∃W0,W0=(w.alloc<|.cells #[.slice none 0 0] 46).alloc (.cells #[.int .i64 0,.int .i64 0,.int .i64 0] 30):=⟨_,rfl⟩;have cr:Below w.heap.size w W0:=by rw[hW0];exact(bw _).alloc ag _
 have A0:Bx W0 w.heap.size #[.slice none 0 0]:=by rw[hW0];exact(Bx.new w _ _).alloc _
 have B0:Bx W0 (w.heap.size+1) #[.int .i64 0,.int .i64 0,.int .i64 0]:=by rw[hW0];have:=Bx.new (w.alloc<|.cells #[.slice none 0 0] 46) #[.int .i64 0,.int .i64 0,.int .i64 0] 30;simpa using this
 have HC:=UK (h.af cr) s;have HW:=ai hW0;clear h hW0;go_enter func17,ntmps17;go_wp2_with fail;rw[<-uh HW];refine HC.mono ?_;rintro e w1⟨u,f,rfl,dz,hp⟩;obtain⟨va,vc,n,hu⟩:∃va vc n,u=.slice va n vc:=by
  exact anm
 subst hu;have eH:=cr.trans<|dz.mono cr.size;obtain⟨W1,BE⟩:∃W1,W1=(w1.alloc<|.cells #[.slice va n vc] 46).alloc (.cells #[.int .i64 (f.kind:Int),.int .i64 (f.al:Int),.int .i64 (f.to:Int)] 30):=⟨_,rfl⟩;have fs:Below w1.heap.size w1 W1:=by rw[BE];exact(bw _).alloc ag _
 have eG:=eH.trans<|fs.mono eH.size;have A2:=ai<|(A0.below dz).below fs;have B2:=ai<|(B0.below dz).below fs;have P2:Hid (Bx W1 w1.heap.size #[.slice va n vc]):=ai (by rw[BE];exact(Bx.new w1 _ _).alloc _);have F2:Hid (Bx W1 (w1.heap.size+1) #[.int .i64 (f.kind:Int),.int .i64 (f.al:Int),.int .i64 (f.to:Int)]):=ai (by rw[BE];have:=Bx.new (w1.alloc<|.cells #[.slice va n vc] 46) #[.int .i64 (f.kind:Int),.int .i64 (f.al:Int),.int .i64 (f.to:Int)] 30;simpa using this);have B7:=ai BE;have nu:=eH.size;have oR:=B0.z;have iZ:=dz.size;unfold MI
 cases hr:bV s with
 |error f'=>
  rw[hr]at hp;obtain⟨hf,hu⟩:=hp;subst hf;have hk:=(Jn hr).1;have gi:((f.kind:Int)==0)=false:=bF;clear HC cr dz fs eH A0 B0 BE HW hk;go_wp2_with fail;rw[<-uh B7];obtain⟨c1,f1,z1⟩:=uh A2;obtain⟨c2,f2,z2⟩:=uh B2;obtain⟨c3,f3,z3⟩:=uh P2;obtain⟨c4,f4,z4⟩:=uh F2;go_region;go_wp2_with fail;obtain⟨c5,f5,z5⟩:=((B2.ol (b2:=w.heap.size) ae 0<|.slice none 0 0).oQ rfl (.int .i64 (f.kind:Int)) (.int .i64 (f.al:Int)) (.int .i64 (f.to:Int))).gw;obtain⟨c6,f6,z6⟩:=((A2.rK 0 (.slice none 0 0) #[.slice none 0 0] ag ag).afa (b2:=w.heap.size+1) ae (.int .i64 (f.kind:Int)) (.int .i64 (f.al:Int))<|.int .i64 (f.to:Int)).gw;refine bodyPost_ret (v:=.tuple #[.agg #[.slice none 0 0],MI f]) (by simp[results,Tryz.results17,go_sem,MI,c5,c6]) rfl ?_;refine⟨.slice none 0 0,f,rfl,((((eG.setCell (br _) _).setCell (j7 _) _).setCell (j7 _) _).setCell (j7 _) _).drew,?_⟩;rw[hr];exact⟨rfl,rfl⟩
 |ok l=>
  rw[hr]at hp;obtain⟨rfl,aO⟩:=hp;obtain⟨hS,hl⟩:=zU hr;have zV:RowV QD 1 W1 (λb=>W0.heap.size<=b/\b<w1.heap.size) l (.slice va n vc):=aO.move bR fs.size (λb _ z=>fs.block b z)<|λb p z=>⟨p,z⟩;have HR2:=ai zV;have s_:∀W,Below W1.heap.size W1 W->Calls xg 21 #[.agg #[.slice va n vc]] W λe w'=>e=.returned (MI (dx eM l oP).f)/\Below W.heap.size W w':=λW k=>ac5 (zV.move bR k.size (λb _ z=>k.block b z)<|λb p z=>qe z k.size) hS hl;have hzw:=fs.size;generalize hZ:(dx eM l oP).f=Z at s_;simp only[MI]at s_;have e0:((oj.kind:Nat):Int)=0:=rfl;have e1:((oj.al:Nat):Int)=0:=rfl;have e2:((oj.to:Nat):Int)=0:=rfl;rw[e0,e1,e2]at F2 B7;clear HC cr dz eH A0 B0 aO zV hS fs BE HW;go_wp2_with fail;rw[<-uh B7];obtain⟨c3,f3,z3⟩:=uh P2;go_region_with(go_at_call 21;refine(s_ _ (ql _ _).drew).mono ?_;rintro e w3⟨rfl,oS⟩;have K3:=(ql W1.heap.size W1).drew.trans oS;have A3:=A2.below K3;have B3:=B2.below K3;have P3:=P2.below K3;have HK3:=ai K3;have HA3:=ai A3;have zQ:=ai B3;obtain⟨a1,a2,a3⟩:=A3;obtain⟨b1,b2,b3⟩:=B3;obtain⟨p1,p2,p3⟩:=P3;clear oS K3)
  all_goals(
   go_wp2_with fail;have oS:=uh HK3;obtain⟨c5,f5,z5⟩:=(zQ.ol (b2:=w.heap.size) ae 0<|.slice va n vc).oQ rfl (.int .i64 (Z.kind:Int)) (.int .i64 (Z.al:Int)) (.int .i64 (Z.to:Int));obtain⟨c6,f6,z6⟩:=(HA3.rK 0 (.slice va n vc) #[.slice va n vc] ag ag).afa (b2:=w.heap.size+1) ae (.int .i64 (Z.kind:Int)) (.int .i64 (Z.al:Int))<|.int .i64 (Z.to:Int);refine bodyPost_ret (v:=.tuple #[.agg #[.slice va n vc],MI Z]) (by simp[results,Tryz.results17,go_sem,MI,c5,c6]) rfl ?_;have kk:Fr (λb=>b=w.heap.size\/b=w.heap.size+1) w3 ((((w3.setCell ⟨w.heap.size,0,none⟩<|.slice va n vc).setCell ⟨w.heap.size+1,0,none⟩<|.int .i64 (Z.kind:Int)).setCell ⟨w.heap.size+1,1,none⟩<|.int .i64 (Z.al:Int)).setCell ⟨w.heap.size+1,2,none⟩<|.int .i64 (Z.to:Int)):=((((Fr.refl _ _).set (qh<|qh rfl) 0 _).set (qh<|qg rfl) 0 _).set (qh<|qg rfl) 1 _).set (qh<|qg rfl) 2 _;have k3:=eG.trans<|oS.mono eG.size;have z3':=oS.size;refine⟨.slice va n vc,Z,rfl,Fr.xJ k3 k3.size kk (λx q=>by obtain rfl|rfl:=q<;>omega),?_⟩;rw[hr]
   exact⟨hZ.symm,HR2.move bR (by have:=kk.size;omega) (λb p z=>(kk.block b ae (λq=>by obtain rfl|rfl:=q<;>omega)).trans (oS.block b z)) (λb p z=>ae)⟩)
def dNm:Dc->List BA
 |.ty _ _ _=>[]|.lt _ t b=>t.text::oh b
structure PG(nl:List BA)(l:List Dc)e(mks:qr):Prop where
 d3:∀d∈l,D3 d
 ml:∀d∈l,MkL d
 ok:(dx eM l e).f.kind=0
 has:sY e.mks mks
 Ee:MkFine mks
 nm:∀d∈l,∀s∈dNm d,s∈nl
 sz:Jm l<=802
def ace{u:Y4}{ty:BA->Option Nat}{own:List BA}:∀(ms:List Nd)(q:(BA->Option Nat)×Fl),(Rd u ty own ms q).2.kind=0->q.2.kind=0
 |[],q,h=>h|.mk _ s _ L _ _ a::r,q,h=>by
  rw[Rd]at h;exact(cQ aB<|zP L _<|ace r _ h).2
def akE{u:Y4}:∀(d:Dc)(e:SE),(NZ u d e).f.kind=0->e.f.kind=0
 |.ty t vs ms,e,h=>(cQ aB (PH<|ace ms _ h).1).2|.lt r t b,e,h=>mC b _ _ h
def PO{u:Y4}:∀(l:List Dc)(e:SE),(dx u l e).f.kind=0->e.f.kind=0
 |[],e,h=>h|d::r,e,h=>akE d e<|PO r _ h
def BV.up{s:BA}(h:BV s):od s:=by
 obtain⟨x,r,h1,h2,_⟩:=h;exact⟨x,r,h1,h2⟩
def NmV.quo(h:NmV s):Q' s:=by
 obtain⟨x,r,h1,_⟩:=h;exact⟨_,h1⟩
def oV d l:Jm (d::l)=Hi d+Jm l:=by simp[Jm]
def WB{ms}{m}(h:m∈ms):nn m<=cD ms:=by
 induction ms with
 |nil=>simp at h|cons x l ih=>
  simp only[cD];obtain e|e:=List.mem_cons.1 h
  .subst e;omega
  .have:=ih e;omega
def PG.ty{nl}{t}{vs}{ms}{r}{e}{mks}(h:PG nl (.ty t vs ms::r) e mks):TdF t vs ms/\PG nl r (NZ eM (.ty t vs ms) e) (In.wa t vs ms mks):=by
 have⟨d1,d2,d3,d4,d5⟩:=h.d3 _<|jc ..;have Y5:=h.ml _<|jc ..;have Lf:=h.ok;have h1:=PO r _ Lf;have⟨k1,k2,k3⟩:=acd t vs d5 h1 h.has;have⟨_,v2,_⟩:=PH k1;have hz:=h.sz;rw[oV]at hz;simp only[Hi]at hz;have hm1:=pS ms;refine⟨⟨d1.up,v2,ae,λv hv=>(d3 v hv).1.quo,ae,λi hi=>?_⟩,⟨λd hd=>h.d3 d<|by simp[hd],λd hd=>h.ml d<|by simp[hd],Lf,k2,h.Ee.add d1 Y5 k3,λd hd=>h.nm d<|by simp[hd],ae⟩⟩;have⟨s,L,f,u,a,em,g⟩:=k3 _<|ja hi;have hn:=WB<|ja hi;rw[em]at hn;simp only[nn]at hn;have hl:=pS L;refine⟨s,0,L,f,u,a,em,ae,λk hk=>⟨g.ty ae k hk,?_⟩⟩;have⟨s',L',f',u',a',em',_,_,g3⟩:=d5 _<|ja hi;rw[em]at em';injection em' with _ _ _ eL _ _ _;subst eL;obtain⟨z,hz'⟩:∃z,(v_ (eM e.ty t.text vs.length) (vs.map (·.text)) L[k] z).kind=0:=by
  have key:∀{ms:List Nd}{q:(BA->Option Nat)×Fl},(Rd eM (eM e.ty t.text vs.length) (vs.map (·.text)) ms q).2.kind=0->Nd.mk 2 s 0 L f u a∈ms->∃z,(iP (eM e.ty t.text vs.length) (vs.map (·.text)) L z).kind=0:=by
   intro ms
   induction ms with
   |nil=>grind|cons x l ih=>
    intro q hq hm;obtain q1|q1:=List.mem_cons.1 hm
    .subst q1;rw[Rd]at hq;exact⟨_,ace l _ hq⟩
    .cases x
     rw[Rd]at hq;exact ih hq q1
  have⟨z,hz⟩:=key h1<|em▸ja hi;exact oM hz _<|ja hk
 have gk:=NF (g3 _<|ja hk) z hz';exact⟨gk.st,gk.es⟩
def PG.lt{nl}{rc}{t}{b}{r}{e}{mks}(h:PG nl (.lt rc t b::r) e mks):t.text∈nl/\1+nn b+Jm r<=802/\ScE mks nl (λv=>v∈e.nm\/(rc=true/\v=t.text)) b/\PG nl r (NZ eM (.lt rc t b) e) mks:=by
 have⟨d1,d2,d3,d4⟩:=h.d3 _<|jc ..;have Lf:=h.ok;have h1:(dA e.ty e.mks b (if rc then e.nm++[t.text]else e.nm) e.f).kind=0:=PO r _ Lf;have hz:=h.sz;rw[oV]at hz;simp only[Hi]at hz;have hn:∀s∈t.text::oh b,s∈nl:=h.nm _<|jc ..;refine⟨hn _<|jc ..,ae,?_,⟨λd hd=>h.d3 d<|by simp[hd],λd hd=>h.ml d<|by simp[hd],Lf,h.has,h.Ee,λd hd=>h.nm d<|by simp[hd],ae⟩⟩;refine agu h.has d3 _ _ h1 (λs hs=>hn s<|by simp[hs]) ae _ λs hs=>?_
 cases rc with
 |true=>
  obtain q|q:=List.mem_append.1 hs
  .exact qh q
  .grind
 |false=>exact qh hs
def PG.init(hs:¬400<s.size){l}(h:bV s=.ok l)(hk:(dx eM l oP).f.kind=0):PG (l.flatMap dNm) l oP (λ_=>none)/\(l.flatMap dNm).length<=802:=by
 have h1:=pT hs;have h2:=Wz hs;rw[h]at h1 h2;refine⟨⟨h1.1,h2,hk,PL,Mb,λd hd s hs=>List.mem_flatMap.2 ⟨d,hd,hs⟩,h1.2⟩,j8 ?_ h1.2⟩;clear h h1 h2 hk
 induction l with
 |nil=>simp|cons d l ih=>
  rw[List.flatMap_cons,lM,oV];have:(dNm d).length<=Hi d:=by
   cases d with
   |ty t vs ms=>simp[dNm]|lt r t b=>simp only[dNm,yE,LL,Hi];omega
  omega
def aib:YO pN 2:=⟨aB,λ_=>rfl,.inl rfl⟩
def aic:YO m9 2:=⟨aB,λ_=>rfl,.inr<|.inl rfl⟩
def pH:∀{L:List Nd},(∀x∈L,∀ns,Wf (bt ns<|es x).1)->∀ns,Gf (aI ns<|dI L).1/\(aI ns<|dI L).1.length=L.length
 |[],_,ns=>⟨trivial,rfl⟩|x::L,h,ns=>by
  have⟨h1,h2⟩:=pH (L:=L) (λy hy=>h y<|by simp[hy]) (bt ns<|es x).2;simp only[dI,aI];exact⟨⟨h x ag ns,h1⟩,by simp[h2]⟩
def xH.wf(h:xH nd):∀ns,Wf (bt ns<|es nd).1:=by
 induction h with
 |var s n f t a h1 h2 h3=>intro ns;simp[es,bt,Wf]|up s n L f t a h1 h2 h3 h4 ih=>
  intro ns;have⟨g1,g2⟩:=pH (L:=L) ih ns;simp[es,bt,iO,Wf];exact⟨h1.YO h2 _,g1⟩
 |pr x y f t a h1 h2 dQ il=>
  intro ns
  have⟨g1,g2⟩:=pH (L:=[x,y]) (λu hu=>by
   simp only[jl,jj,or_false]at hu;obtain rfl|rfl:=hu
   .exact dQ
   .exact il) ns
  simp only[es,bt,iO];simp only[show(6:Nat)≠16 by decide,show(6:Nat)≠17 by decide,if_false,if_true];exact⟨by rw[g2];exact aic,g1⟩
 |fn x y f t a h1 h2 dQ il=>
  intro ns
  have⟨g1,g2⟩:=pH (L:=[x,y]) (λu hu=>by
   simp only[jl,jj,or_false]at hu;obtain rfl|rfl:=hu
   .exact dQ
   .exact il) ns
  simp only[es,bt,iO];simp only[show(17:Nat)≠16 by decide,if_false,if_true];exact⟨by rw[g2];exact aib,g1⟩
def acf:∀{L:List Nd},(∀x∈L,qm x)->In.NWL L
 |[],_=>trivial|x::L,h=>⟨h x ag,acf λy hy=>h y<|by simp[hy]⟩
def afK{t:Nat}{L}(hk:k≠14)(h:∀x∈L,qm x):qm (.mk k s n L f t a):=⟨λe=>absurd e hk,acf h⟩
def pI{t:Nat}(hk:k≠14)(hx:qm x)(hy:qm y):qm (.mk k s n [x,y] f t a):=⟨λe=>absurd e hk,hx,hy,trivial⟩
def acg{t:Nat}(hk:k≠14)(hx:qm x):qm (.mk k s n [x] f t a):=⟨λe=>absurd e hk,hx,trivial⟩
def gK{t:Nat}(hk:k≠14):qm (.mk k s n [] f t a):=⟨λe=>absurd e hk,trivial⟩
def xH.nw(h:xH nd):qm nd:=by
 induction h with
 |var s n f t a h1 h2 h3=>exact gK aB|up s n L f t a h1 h2 h3 h4 ih=>exact afK aB ih|pr x y f t a h1 h2 dQ il=>exact pI aB dQ il|fn x y f t a h1 h2 dQ il=>exact pI aB dQ il
def zN.nw(h:zN nd):qm nd:=by
 induction h with
 |any=>exact gK aB|low=>exact gK aB|num=>exact gK aB|word=>exact gK aB|unit=>exact gK aB|pr x y f t a h1 h2 dQ il=>exact pI aB dQ il|up s n L f t a h1 h2 h3 h4 ih=>exact afK aB ih
def Mc:∀{A:List (Nd×Nd)},(∀p∈A,qm p.1)->(∀p∈A,qm p.2)->In.NWL (aP A)
 |[],_,_=>trivial|(p,e)::A,h,k=>⟨h (p,e) ag,k (p,e) ag,Mc (λq hq=>h q<|by simp[hq]) λq hq=>k q<|by simp[hq]⟩
def iH.nw{nd}(h:iH nd):qm nd:=by
 induction h with
 |low=>exact gK aB|up=>exact gK aB|num=>exact gK aB|word=>exact gK aB|unit=>exact gK aB|pr x y f t a _ _ dQ il=>exact pI aB dQ il|of x y f t a _ hy dQ=>exact⟨λ_=>hy.wf [],dQ,hy.nw,trivial⟩|op s x y f t a _ _ _ dQ il=>exact pI aB dQ il|call x y f t a _ _ dQ il=>exact pI aB dQ il|fn s x f t a _ _ _ ih=>exact acg aB ih|lt s x z f t a _ _ _ _ dQ YR=>exact pI aB dQ YR|ltr s s' x z f t a f' t' a' _ _ _ _ _ _ dQ YR=>exact pI aB (acg aB dQ) YR|ite x y w f t a _ _ _ dQ il ihw=>exact⟨λe=>absurd e aB,dQ,il,ihw,trivial⟩|mt x A f t a _ _ hp _ dQ ihA=>exact⟨λe=>absurd e aB,dQ,Mc (λp hq=>(hp p hq).nw) ihA⟩
def MF.add{t:jt}{vs:List jt}(ht:BV t.text)(hz:t.text.size<=400):∀{ms:List Nd}{mks:qr},In.MF mks->(∀m∈ms,IW xH m)->In.MF (In.wa t vs ms mks)
 |[],mks,h,_=>h|m::r,mks,h,hm=>by
  refine MF.add ht hz (ms:=r) ?_ λx hx=>hm x (by simp[hx]);obtain⟨s,L,f,u,a,rfl,g1,g2,g3⟩:=hm m ag;intro x tk mt q;simp only at q;split at q
  .injection q with q;injection q with q1 q2;subst q1 q2;refine⟨(pH (L:=L) (λy hy=>(g3 y hy).wf) _).1,ht.YO hz _,?_⟩;have:∀(l:List Nat),Gf<|l.map λi=>xi<|i+1:=by
    intro l
    induction l with
    |nil=>trivial|cons x l ih=>exact⟨trivial,ih⟩
   exact this _
  .exact h x tk mt q
def Jp{t}(h:Wf t):Wf (In.dU t):=In.nB h λ_=>In.Gi
def PQ{rs:Bool}:∀{l:List Dc}{mk:qr}{Γ:xf}{s:qt}{B:List (BA×Ty)}{F:Option qp},(∀d∈l,D3 d)->In.MF mk->In.EF Γ->In.KF s->qy rs l mk Γ s B F->(∀p∈B,Wf p.2/\size p.2<=48)/\∀z,F=some z->xd z
 |[],mk,Γ,s,B,F,_,_,_,_,h=>by
  obtain⟨rfl,rfl⟩:=h;exact⟨ag,λz q=> lq⟩
 |.ty t vs ms::r,mk,Γ,s,B,F,hd,hm,cq,hk,h=>by
  have⟨d1,d2,d3,d4,d5⟩:=hd _<|jc ..;exact PQ (l:=r) (λd q=>hd d qBf) (MF.add d1 d2 hm d5) cq hk h
 |.lt rc t b::r,mk,Γ,s,B,F,hd,hm,cq,hk,h=>by
  have⟨d1,d2,d3,d4⟩:=hd _<|jc ..;obtain⟨o,ho,hq⟩:=h;have g:=In.zX rc t.text b (In.Y_ hm b d3.nw) Γ s hk cq o ho
  cases o with
  |error x=>
   obtain⟨rfl,rfl⟩:=hq;exact⟨ag,λz q=>by injection q with q;subst q;exact g⟩
  |ok p=>
   obtain⟨a,s1⟩:=p;obtain⟨g1,g2⟩:=g;obtain⟨_,rfl,rfl⟩|⟨z,T,B',hT,rfl,hr⟩:=hq
   .exact⟨ag,λz q=>by injection q with q;subst q;exact In.yo _ _⟩
   .have hw:=In.nB g1 g2;have hTw:Wf T/\size T<=48:=by
     rw[hT];split
     .exact⟨hw,z⟩
     .exact⟨Jp hw,by rw[lp];exact z⟩
    have⟨i1,i2⟩:=PQ (l:=r) (λd q=>hd d qBf) hm (cq.set _ hTw.1) (by
     intro n;show Wf<|(if rs then xi else s1.k) n
     cases rs
     .exact g2 n
     .exact In.kH n) hr
    refine⟨λp hp=>?_,i2⟩;obtain e|e:=List.mem_cons.1 hp
    .subst e;exact hTw
    .exact i1 p e
end
section
open Go.ChangeMaps Un
def nS(f:Fl)(l r:BA)(sa:Option Addr)(n c:Nat):Value:=.agg #[Nv f.kind,Nv f.al,Nv f.to,.string l,.string r,.slice sa n c,.slice none 0 0]
def ftL(z:qp):BA:=if z.f.kind=6 then bs (wr dec (vars [] z.l) z.l 0)else bs []
def ftR(z:qp):BA:=if z.f.kind=6 then bs (wr dec (vars (vars [] z.l) z.r) z.r 0)else bs []
def WD{z:qp}(hk:z.f.kind=7)sa n c:
 Cq 26 #[nS oj (bs []) (bs []) sa n c,Ca z.f .nilIface .nilIface] w λe w'=>e=.returned (nS z.f (ftL z) (ftR z) sa n c)/\Bq w w':=by
 have hl:ftL z=bs []:=by simp[ftL,hk]
 have hr:ftR z=bs []:=by simp[ftR,hk]
 rw[hl,hr];unfold nS;rw[hk];simp only[oj];go_enter func26,ntmps26;go_wp2_with fail;refine bodyPost_ret (v:=nS ⟨7,z.f.al,z.f.to⟩ (bs []) (bs []) sa n c) (by simp[results,Tryz.results26,go_sem,nS]) rfl ⟨rfl,?_⟩;exact((bw _).alloc ag _).alloc bF _
def WI(HAt:∀nd,WN nd->Xd nd){z:qp}(hk:z.f.kind=6)(hf:ru w (λ_=>True) z vl vr)(hz:xd z)sa n c:
 Cq 26 #[nS oj (bs []) (bs []) sa n c,Ca z.f vl vr] w λe w'=>e=.returned (nS z.f (ftL z) (ftR z) sa n c)/\Bq w w':=by
 have hl:ftL z=bs (wr dec (vars [] z.l) z.l 0):=by simp[ftL,hk]
 have hr:ftR z=bs (wr dec (vars (vars [] z.l) z.r) z.r 0):=by simp[ftR,hk]
 rw[hl,hr];have⟨⟨wl,zl⟩,wrr,zr⟩:=hz.six hk;have⟨tl,tr⟩:=hf.apart hk;have amf:=tQ z.l [];have amV:=tQ z.r<|vars [] z.l;simp only[qO]at amf;have HT:∀W:World,Bq w W->dW W (λb=>b<w.heap.size) z.l vl/\dW W (λb=>b<w.heap.size) z.r vr:=λW k=>⟨tl.move k.size (λb _ q=>k.block b q) λ_ _ q=>q,tr.move k.size (λb _ q=>k.block b q) λ_ _ q=>q⟩;obtain⟨ta,xa,rfl⟩:=tl.iface;obtain⟨tb,xb,rfl⟩:=tr.iface;unfold nS;rw[hk];simp only[oj];obtain⟨W0,HW⟩:∃W0,W0=((w.alloc<|Cv #[Iv 6,Nv z.f.al,Nv z.f.to,Sv<|bs [],Sv<|bs [],Lv sa n c,Lv none 0 0] 34).alloc<|Cv #[Iv 6,Nv z.f.al,Nv z.f.to,Fv ta xa,Fv tb xb] 89).alloc (Cv #[Iv 0,Iv 0,Iv 0,Sv ⟨#[]⟩,Sv ⟨#[]⟩,Lv none 0 0,Lv none 0 0] 34):=⟨_,rfl⟩;have K0:Bq w W0:=by rw[HW];exact((bw _).alloc ag _).alloc bF _
 have R0:Bx W0 w.heap.size #[Iv 6,Nv z.f.al,Nv z.f.to,Sv<|bs [],Sv<|bs [],Lv sa n c,Lv none 0 0]:=by rw[HW];exact((Bx.new w _ _).alloc _).alloc _
 have F0:Bx W0 (w.heap.size+1) #[Iv 6,Nv z.f.al,Nv z.f.to,Fv ta xa,Fv tb xb]:=by rw[HW];have:=(Bx.new (w.alloc<|Cv #[Iv 6,Nv z.f.al,Nv z.f.to,Sv<|bs [],Sv<|bs [],Lv sa n c,Lv none 0 0] 34) #[Iv 6,Nv z.f.al,Nv z.f.to,Fv ta xa,Fv tb xb] 89).alloc<|Cv #[Iv 0,Iv 0,Iv 0,Sv ⟨#[]⟩,Sv ⟨#[]⟩,Lv none 0 0,Lv none 0 0] 34;simpa using this
 have Z0:Bx W0 (w.heap.size+1+1) #[Iv 0,Iv 0,Iv 0,Sv ⟨#[]⟩,Sv ⟨#[]⟩,Lv none 0 0,Lv none 0 0]:=by rw[HW];have:=Bx.new ((w.alloc<|Cv #[Iv 6,Nv z.f.al,Nv z.f.to,Sv<|bs [],Sv<|bs [],Lv sa n c,Lv none 0 0] 34).alloc<|Cv #[Iv 6,Nv z.f.al,Nv z.f.to,Fv ta xa,Fv tb xb] 89) #[Iv 0,Iv 0,Iv 0,Sv ⟨#[]⟩,Sv ⟨#[]⟩,Lv none 0 0,Lv none 0 0] 34;simpa using this
 have zW:W0.heap.size=w.heap.size+3:=by rw[HW];simp
 go_enter func26,ntmps26;go_wp2_with fail;rw[<-HW];refine Sw.mono ?_;rintro e w1⟨cb,nb,mb,rfl,HC1,Fq,hm1,aid,dz⟩;have K1:=K0.trans<|dz.mono K0.size;have HR1:=R0.below dz;have F1:=F0.below dz;have HZ1:=Z0.below dz;have hcw:cb≠w.heap.size:=λe=>by have h1:=HC1.c 0;rw[e,HR1.c 0]at h1;simp at h1
 have hnw:nb≠w.heap.size:=λe=>by have h1:=Fq.bk.c 0;rw[e,HR1.c 0]at h1;simp at h1
 have hs1:=dz.size;have HWr:=Gp HAt (HT w1 K1).1 (λb p=>by have:b<w.heap.size:=p;omega) Fq HC1 aid wl zl ae;have S1:=K1.size;have BL:=ai F1;obtain⟨f1,f2,f3⟩:=F1;go_wp2_with fail;refine HWr.mono ?_;rintro e w2⟨rfl,N2,F2⟩;have K2:=Fr.xJ K1 K1.size F2 (λx q=>by subst q;omega);have R2:=HR1.fr F2 (by show ¬w.heap.size=mb;omega);have Fa2:=BL.fr F2 (by show ¬w.heap.size+1=mb;omega);have Z2:=HZ1.fr F2 (by show ¬w.heap.size+1+1=mb;omega);have C2:=HC1.fr F2 (by show ¬cb=mb;exact aid);have HR3:=R2.rK 3 (Sv<|bs<|wr dec (vars [] z.l) z.l 0) #[Iv 6,Nv z.f.al,Nv z.f.to,Sv<|bs<|wr dec (vars [] z.l) z.l 0,Sv<|bs [],Lv sa n c,Lv none 0 0] ag ag;have K3:=K2.setCell (p:=⟨w.heap.size,3,none⟩) (br _)<|Sv<|bs<|wr dec (vars [] z.l) z.l 0;have Fa3:=Fa2.ol (b2:=w.heap.size) ae 3<|Sv<|bs<|wr dec (vars [] z.l) z.l 0;have HZ3:=Z2.ol (b2:=w.heap.size) ae 3<|Sv<|bs<|wr dec (vars [] z.l) z.l 0;have C3:=C2.ol (b2:=w.heap.size) hcw 3<|Sv<|bs<|wr dec (vars [] z.l) z.l 0;have N3:=N2.set (b:=w.heap.size) (Ne.symm hnw) ae 3<|Sv<|bs<|wr dec (vars [] z.l) z.l 0;have HWr:=Gp HAt (HT _ K3).2 (λb p=>by have:b<w.heap.size:=p;omega) N3 C3 aid wrr zr ae;obtain⟨r1,r2,r3⟩:=R2;obtain⟨f1,f2,f3⟩:=Fa2;go_wp2_with fail;refine HWr.mono ?_;rintro e w4⟨rfl,N4,F4⟩;have K4:=Fr.xJ K3 K3.size F4 (λx q=>by subst q;omega)
 have R4:=HR3.fr F4 (by show ¬w.heap.size=mb;omega);have Z4:=HZ3.fr F4 (by show ¬w.heap.size+1+1=mb;omega);have R5:=R4.rK 4 (Sv<|bs<|wr dec (vars (vars [] z.l) z.r) z.r 0) #[Iv 6,Nv z.f.al,Nv z.f.to,Sv<|bs<|wr dec (vars [] z.l) z.l 0,Sv<|bs<|wr dec (vars (vars [] z.l) z.r) z.r 0,Lv sa n c,Lv none 0 0] ag ag;have K5:=K4.setCell (p:=⟨w.heap.size,4,none⟩) (br _)<|Sv<|bs<|wr dec (vars (vars [] z.l) z.r) z.r 0;have Z5:=Z4.ol (b2:=w.heap.size) ae 4<|Sv<|bs<|wr dec (vars (vars [] z.l) z.r) z.r 0;obtain⟨r1,r2,r3⟩:=R4;obtain⟨q1,q2,q3⟩:=Z4;go_wp2_with fail;have⟨p1,p2,p3⟩:=Z5.Ou rfl (Iv 6) (Nv z.f.al) (Nv z.f.to) (Sv<|bs<|wr dec (vars [] z.l) z.l 0) (Sv<|bs<|wr dec (vars (vars [] z.l) z.r) z.r 0) (Lv sa n c) (Lv none 0 0);refine bodyPost_ret (v:=Av #[Iv 6,Nv z.f.al,Nv z.f.to,Sv<|bs<|wr dec (vars [] z.l) z.l 0,Sv<|bs<|wr dec (vars (vars [] z.l) z.r) z.r 0,Lv sa n c,Lv none 0 0]) (by simp[results,Tryz.results26,go_sem,p1]) rfl ⟨rfl,?_⟩;exact(((((((K5.setCell (p:=⟨w.heap.size+1+1,0,none⟩) bF _).setCell (p:=⟨w.heap.size+1+1,1,none⟩) bF _).setCell (p:=⟨w.heap.size+1+1,2,none⟩) bF _).setCell (p:=⟨w.heap.size+1+1,3,none⟩) bF _).setCell (p:=⟨w.heap.size+1+1,4,none⟩) bF _).setCell (p:=⟨w.heap.size+1+1,5,none⟩) bF _).setCell (p:=⟨w.heap.size+1+1,6,none⟩) bF _)
def WJ(HAt:∀nd,WN nd->Xd nd){z:qp}(hf:ru w (λ_=>True) z vl vr)(hz:xd z)sa n c:
 Cq 26 #[nS oj (bs []) (bs []) sa n c,Ca z.f vl vr] w λe w'=>e=.returned (nS z.f (ftL z) (ftR z) sa n c)/\Bq w w':=by
 obtain hk|hk:=hf.k
 .exact WI HAt hk hf hz sa n c
 .obtain⟨rfl,rfl⟩:=hf.qN hk;exact WD hk sa n c
end
section
open Go.ChangeMaps Go.MapKept Un
structure TpD tl(g:f_)(cB:Nat->Nat)n l(D:Nat->Prop):Prop where
 up:∀m,D m->m∈g.ds/\g.nx m=none/\l<g.lv m/\g.lv m≠aL/\cB m=tl
 no:∀m,¬D m->cB m=g.lv m
 hd:∀h,Hd g.nx n h->D h\/g.lv h<=l
 cl:∀a,D a->∀c ps,g.str a=some (c,ps)->∀p,p∈ps->∀h,Hd g.nx p h->D h\/g.lv h<=l
section
variable {g:f_} {s:qt} {c:JC} {l cnt:Nat} {D:Nat->Prop} {T:Ty}
def afL(js:JS w g s)(r:nR l g s n T)(hD:∀R:Nat->Prop,(∀h,Hd g.nx n h->R h)->(∀a k ps p h,R a->g.str a=some (k,ps)->p∈ps->Hd g.nx p h->R h)->∀a,D a->R a):∀a,D a->g.lv a<=l:=λa d=>
 (hD (λx=>x∈g.ds/\g.nx x=none/\g.lv x<=l) (λh k=>⟨js.gl.bN r.mem k,k.head,r.lv h k⟩) (λa k ps p h q hs hp hh=>⟨js.gl.bN (js.jg.Xi a k ps q.1 hs p hp) hh,hh.head,j8 (js.lc a q.1 q.2.1 k ps hs p hp h hh) q.2.2⟩) a d).2.2
def kU.tp(js:JS w g s)(hl:l+1<aL)(r:nR (l+1) g s n T)(d:kU g.str g.nx g.ds g.lv cB n l D):TpD l g cB n l D:=
 ⟨λm q=>by have⟨h1,h2,h3,h4⟩:=d.up m q;exact⟨h1,h2,h3,by have:=afL js r d.re m q;omega,h4⟩,d.no,d.hd,d.cl⟩
def vD.tp(js:JS w g s)(hl:l+1<aL)(r:nR (l+1) g s n T)(d:vD g.str g.nx g.ds g.lv cB n l D):TpD aL g cB n l D:=
 ⟨d.up,d.no,λh k=>(d.hd h k).imp id λq=>q.resolve_right (by have:=r.lv h k;omega),λa q k ps hs p hp h hh=>(d.cl a q k ps hs p hp h hh).imp id λz=>z.resolve_right (by
  have h1:=afL js r d.re a q;have h2:=js.lc a (d.up a q).1 (d.up a q).2.1 k ps hs p hp h hh
  omega)⟩
def JS.aie(js:JS w g s)(hS:ScD g.str g.ds g.nx S)(hn:n∈g.ds)(hh:∀h,Hd g.nx n h->S h){v}(o:aw v (g.V n)):∃x,g.R v x/\S x:=by
 classical
 have⟨y,hy⟩:=js.gl.hd n hn;have⟨x,r,q⟩:=fE (lv:=λx=>if S x then 0 else 1) js.jg js.can _ n y hn hy (br _) o;refine⟨x,r,?_⟩;have:=q λa ha na k ps hs p hp h hh=>by
  by_cases z:S a
  .simp[z,hS a ha na z k ps hs p hp h hh]
  .grind
 rw[if_pos<|hh y hy]at this;exact xm λz=>by rw[if_neg z]at this;omega
def Md(aj:AJ w c nb l cnt g s)(hl:l+1<aL)(nm:∀y d,Γ y=some d->∃m,Cn g s d m)(t1:fY (l+1) c w g s w1 g1 s1)(js:JS w1 g1 s1)(hp:qn rc st x (qv c.mks x) Γ s (.ok (T,s1))){v y}(hv:aw v (sub s1.k T))(hy:g1.R v y):qs (l7 rc st Γ) s1.k v↔g1.lv y<=l:=by
 have Cj:∀z d,l7 rc st Γ z=some d->∃m,Cn g s d m:=λz d q=>by
  cases rc with
  |false=>exact nm z d q|true=>
   simp only[l7,if_true,In.lL]at q;split at q
   .cases q
   .exact nm z d q
 have t0:=t1.le<|j7 l;have hl':l<aL:=ae;constructor
 .rintro⟨z,d,q1,q2,q3⟩;have⟨m,k⟩:=Cj z d q1;have k1:=k.eZ hl' aj js t0;rw[<-k1.val]at q2;have na:¬ed g1 v:=λa=>q3<|(k1.any v).2 ⟨q2,a⟩;rw[t1.st.val m k.mem]at q2;have⟨u,ou,ov⟩:=(q9 _).1 q2;have⟨r,r1⟩:=aj.js.og k.mem ou;obtain e|e:=aj.lv r r1.1 r1.2.1
  .have⟨o1,o2,o3⟩:=t1.st.fe r r1.1;have⟨r',hr'⟩:=js.gl.hd r o1;have e':=t1.lo r r1.1 r r' (.here r1.2.1) hr' l (j7 l) e;have ov':aw v (g1.V r):=by rw[js.val r o1<|o2.trans r1.2.2.1,o3,r1.2.2.2];exact ov
   have⟨x2,r2,e2⟩:=fE (lv:=g1.lv) js.jg js.can _ r r' o1 hr' (br _) ov';have e2:=e2 js.lc;rw[r2.one js.jg hy]at e2;omega
  .exfalso;have qa:ed g u:=⟨r,r1,e⟩;rw[t1.root js qa]at ov;simp only[aw]at ov;subst ov;exact na<|t1.aez qa
 .intro e;have eb:qn rc st x (qv c.mks x) Γ=qn rc st x (qv c.mks x) (l7 rc st Γ):=by
   cases rc with
   |false=>rfl|true=>
    unfold qn;simp only[if_true];have:∀d,qx (l7 true st Γ) st d=qx Γ st d:=λd=>by
     funext z;unfold qx l7 In.lL;by_cases q:z=st<;>simp[q]
    simp only[this]
  rw[eb]at hp;have hE:In.bC (λn=>¬s.u n\/qs (l7 rc st Γ) s.k n) s (l7 rc st Γ):=λz d q=>by
   have⟨m,k⟩:=Cj z d q;refine⟨k.use,λn o=>?_,λn o=>?_,k.sub⟩
   .by_cases a:n∈d.any
    .exact qh a
    .exact qg (qg ⟨z,d,q,o,a⟩)
   .have⟨o1,o2⟩:=(k.any n).1 o;obtain⟨r,r1,r2⟩:=o2;refine⟨(aj.js.root r1).2,λb=>?_⟩;obtain b|⟨z',d',b1,b2,b3⟩:=b
    .exact b (aj.js.root r1).1
    .have⟨m',k'⟩:=Cj z' d' b1;rw[<-k'.val]at b2;exact b3<|(k'.any n).2 ⟨b2,r,r1,r2⟩
  have⟨kp,ti⟩:=In.iB rc st x (In.mn c.mks x) (l7 rc st Γ) s _ aj.js.ok (λn q=>qh q) hE T s1 hp;have lv:=ti.loc v hv;have⟨u,⟨r,r1,r2⟩,ov⟩:=(t1.st.VY l (qf l) v).1 ⟨y,hy,e⟩;have hu:=aj.js.root r1;have fu:qs (l7 rc st Γ) s.k u:=by
   refine xm λz=>?_;have nz:¬(¬s.u u\/qs (l7 rc st Γ) s.k u):=λq=>q.elim (λq=>q hu.1) z;rw[kp.fix hu.2 nz]at ov;simp only[aw]at ov;subst ov;exact nz lv
  obtain⟨z,d,q1,q2,q3⟩:=fu;have⟨m,k⟩:=Cj z d q1;refine⟨z,d,q1,?_,λa=>?_⟩
  .rw[<-GW t1.ky];exact(q9 _).2 ⟨u,q2,ov⟩
  .have⟨r',a1,a2⟩:=t1.aez ((k.any v).1 a).2;rw[a1.one js.jg hy]at a2;omega
end
def vH(g:f_)l x:=∃S:Nat->Prop,ScD g.str g.ds g.nx S/\(∀y,S y->g.lv y<=l\/g.lv y=aL)/\S x
section
variable {g:f_} {s:qt} {c:JC} {l cnt ah tl:Nat} {bi:Nx} {D:Nat->Prop} {T:Ty}
def WL(aj:AJ w c nb l cnt g s)(hl:l+1<aL)(nm:∀y d,Γ y=some d->∃m,Cn g s d m)(a1:AJ w1 c nb (l+1) ah g1 s1)(t1:fY (l+1) c w g s w1 g1 s1)(r1:nR (l+1) g1 s1 n T)(hp:qn rc st x (qv c.mks x) Γ s (.ok (T,s1)))(hg:GL w2 g1.ds g1.str bi g1.vr g1.ly cB)(e:iS g1.str g1.nx bi)(d:TpD (if xc x then aL else l) g1 cB n l D)(F:Fr (jS c g1) w1 w2)(je:JE w2 c nb l ah):
 ∃g2,AJ w2 c nb l ah g2 s1/\fY l c w g s w2 g2 s1/\Cn g2 s1 (qu (l7 rc st Γ) s1.k T<|xc x) n:=by
 obtain⟨gx,Xf⟩:∃gx:f_,gx={g1 with nx:=bi,lv:=cB}:=⟨_,rfl⟩;have e0:gx.ds=g1.ds:=by rw[Xf]
 have e1:gx.str=g1.str:=by rw[Xf]
 have e2:gx.nx=bi:=by rw[Xf]
 have e3:gx.lv=cB:=by rw[Xf]
 have e4:gx.vr=g1.vr:=by rw[Xf]
 have e5:gx.V=g1.V:=by rw[Xf]
 have hG:GL w2 gx.ds gx.str gx.nx gx.vr gx.ly gx.lv:=by rw[Xf];exact hg
 have js:=a1.js;have tl2:∀m,D m->cB m=aL\/cB m=l:=λm q=>by
  have:=(d.up m q).2.2.2.2;split at this
  .exact qh this
  .exact qg this
 have low:∀m,g1.lv m<=l->cB m=g1.lv m:=λm q=>d.no m λz=>by have:=(d.up m z).2.2.1;omega
 have any:∀m,g1.lv m=aL->cB m=aL:=λm q=>by rw[d.no m λz=>(d.up m z).2.2.2.1 q];exact q
 have bk:∀{m h},Hd gx.nx m h->Hd g1.nx m h:=λk=>e.back js.gl<|e2▸k;have fw:∀{m h},Hd g1.nx m h->Hd gx.nx m h:=λk=>e2▸e.k_ _ _ k;have lc1:∀a,a∈g1.ds->g1.nx a=none->cB a<=l->∀k ps,g1.str a=some (k,ps)->∀p,p∈ps->∀h,Hd g1.nx p h->cB h<=cB a:=λa ha hn hz k ps hs p hp h hh=>by
  by_cases q:D a
  .have ea:=(tl2 a q).resolve_left ae;obtain z|z:=d.cl a q k ps hs p hp h hh
   .obtain y|y:=tl2 h z
    .have h1:=(d.up a q).2.2.2.2;have h2:=(d.up h z).2.2.2.2;omega
    .omega
   .rw[low h z];omega
  .rw[d.no a q]at hz⊢;have z:=js.lc a ha hn k ps hs p hp h hh;rw[low h ae];exact z
 have hP:ScD gx.str gx.ds gx.nx (vH gx l):=λx hx hn⟨S,h1,h2,h3⟩k ps hs p hp h hh=>⟨S,h1,h2,h1 x hx hn h3 k ps hs p hp h hh⟩;have lcx:∀a,a∈gx.ds->gx.nx a=none->vH gx l a->∀k ps,gx.str a=some (k,ps)->∀p,p∈ps->∀h,Hd gx.nx p h->gx.lv h<=gx.lv a:=λa ha hn hN k ps hs p hp h hh=>by
  have hN':=hP a ha hn hN k ps hs p hp h hh;obtain⟨S,_,q2,q3⟩:=hN;obtain⟨S',_,q2',q3'⟩:=hN';obtain z|z:=q2 a q3
  .rw[e3]at z⊢;exact lc1 a (e0▸ha) ((e.BH a).1<|e2▸hn) z k ps (e1▸hs) p hp h<|bk hh
  .grind
 have JS2:=JS.cut hG (by rw[e1,e2];exact e.nF _ js.nF) (by rw[Xf];exact js.inj) (λm h k=>by rw[e1,e4,e5];exact js.can m h<|bk k) (by rw[Xf];exact js.val) (by rw[Xf];exact js.use) js.ok hP lcx;have kl:∀m,m∈g1.ds->(∀h,Hd g1.nx m h->g1.lv h<=l)->gx.K (vH gx l) m:=λm hm q=>by
  refine⟨e0▸hm,λh hh=>⟨λy=>y∈g1.ds/\cB y<=l,λa ha hn z k ps hs p hp h hh=>?_,λy z=>qh (by rw[e3];exact z.2),js.gl.bN hm<|bk hh,by rw[low h<|q h<|bk hh];exact q h<|bk hh⟩⟩;rw[e0]at ha;rw[e1]at hs;exact⟨js.gl.bN (js.jg.Xi a k ps ha hs p hp)<|bk hh,j8 (lc1 a ha ((e.BH a).1<|e2▸hn) z.2 k ps hs p hp h<|bk hh) z.2⟩
 have ko:∀m,m∈g.ds->gx.K (vH gx l) m:=λm hm=>by
  have hm1:=(t1.st.fe m hm).1;have key:∀m,m∈g.ds->∀h,Hd g1.nx m h->(h∈g1.ds/\cB h<=l)\/(h∈g.ds/\g.nx h=none/\g.lv h=aL):=λm hm h hh=>by
   have⟨h0,k0⟩:=aj.js.gl.hd m hm;obtain z|z:=aj.hd hm k0
   .have:=t1.lo m hm h0 h k0 hh l (j7 l) z;exact qh ⟨js.gl.bN (t1.st.fe m hm).1 hh,by rw[low h this];exact this⟩
   .rw[hh.one (t1.an m hm h0 k0 z).1];exact qg ⟨aj.js.gl.bN hm k0,k0.head,z⟩
  refine⟨e0▸hm1,λh hh=>⟨λy=>(y∈g1.ds/\cB y<=l)\/(y∈g.ds/\g.nx y=none/\g.lv y=aL),λa ha hn z k ps hs p hp h hh=>?_,λy z=>?_,key m hm h<|bk hh⟩⟩
  .rw[e0]at ha;rw[e1]at hs;obtain z|⟨z1,z2,z3⟩:=z
   .exact qh ⟨js.gl.bN (js.jg.Xi a k ps ha hs p hp)<|bk hh,j8 (lc1 a ha ((e.BH a).1<|e2▸hn) z.2 k ps hs p hp h<|bk hh) z.2⟩
   .rw[(t1.st.fe a z1).2.1]at hs;exact key p (aj.js.jg.Xi a k ps z1 hs p hp) h<|bk hh
  .rw[e3];exact z.imp (λq=>q.2) λq=>any y (t1.an y q.1 y (.here q.2.1) q.2.2).2
 have Sn:ScD g1.str g1.ds g1.nx (λy=>D y\/(y∈g1.ds/\g1.lv y<=l)):=λa ha hn z k ps hs p hp h hh=>by
  have hd:=js.gl.bN (js.jg.Xi a k ps ha hs p hp) hh;obtain z|z:=z
  .exact(d.cl a z k ps hs p hp h hh).imp id λq=>⟨hd,q⟩
  .exact qg ⟨hd,j8 (js.lc a ha hn k ps hs p hp h hh) z.2⟩
 have Snl:∀y,D y\/(y∈g1.ds/\g1.lv y<=l)->cB y<=l\/cB y=aL:=λy z=>by
  obtain z|z:=z
  .grind
  .grind
 have hn0:∀h,Hd g1.nx n h->D h\/(h∈g1.ds/\g1.lv h<=l):=λh hh=>(d.hd h hh).imp id λq=>⟨js.gl.bN r1.mem hh,q⟩;have Sx:∀y,y∈g1.ds->g1.nx y=none->D y\/(y∈g1.ds/\g1.lv y<=l)->gx.K (vH gx l) y:=λy hy ny z=>by
  refine⟨e0▸hy,λh hh=>?_⟩;rw[(bk hh).one<|.here ny];exact⟨_,λa ha hn z k ps hs p hp h hh=>Sn a (e0▸ha) ((e.BH a).1<|e2▸hn) z k ps (e1▸hs) p hp h<|bk hh,λy z=>by rw[e3];exact Snl y z,z⟩
 have kn:gx.K (vH gx l) n:=by
  refine⟨e0▸r1.mem,λh hh=>?_⟩;exact(Sx h (js.gl.bN r1.mem<|bk hh) (bk hh).head<|hn0 h<|bk hh).2 h (.here hh.head)
 have V2:∀{m},gx.K (vH gx l) m->(gx.cut<|vH gx l).V m=g1.V m:=λq=>by rw[(bJ q).2.2,e5]
 have rt:∀{v y},(gx.cut<|vH gx l).R v y↔g1.R v y/\gx.K (vH gx l) y:=λ{v y}=>by
  constructor
  .rintro⟨q1,q2,q3,q4⟩;have k:=cW.1 q1;rw[(bJ k).2.1,e2]at q2;rw[(bJ k).1,e1]at q3;exact⟨⟨e0▸k.1,(e.BH y).1 q2,q3,by have:gx.vr y=v:=q4;rw[e4]at this;exact this⟩,k⟩
  .rintro⟨⟨q1,q2,q3,q4⟩,k⟩;exact⟨cW.2 k,by rw[(bJ k).2.1,e2];exact(e.BH y).2 q2,by rw[(bJ k).1,e1];exact q3,by show gx.vr y=v;rw[e4];exact q4⟩
 have lvx:(gx.cut<|vH gx l).lv=cB:=e3;refine⟨gx.cut<|vH gx l,⟨je,JS2,a1.us,λm hm hn=>?_,λm hm=>a1.lo m<|e0▸(cW.1 hm).1⟩,⟨⟨λm hm=>?_,λm hm=>?_,λi hi v=>?_⟩,λm hm h k q=>?_,λm hm h h' k k' i hi z=>?_,λm hm=>t1.nw m<|e0▸(cW.1 hm).1,?_,t1.ky,t1.um⟩,⟨cW.2 kn,?_,λv=>?_,λv o=>?_,λv q=>(In.FI q).1⟩⟩
 .have k:=cW.1 hm;rw[(bJ k).2.1]at hn;have⟨S,_,q2,q3⟩:=k.2 m<|.here hn;rw[lvx,<-e3];exact q2 m q3
 .have⟨o1,o2,o3⟩:=t1.st.fe m hm;have k:=ko m hm;exact⟨cW.2 k,by rw[(bJ k).1,e1,o2],by show gx.vr m=_;rw[e4,o3]⟩
 .rw[V2<|ko m hm];exact t1.st.val m hm
 .rw[<-t1.st.VY i ae v];constructor
  .rintro⟨y,r,z⟩;rw[lvx]at z;refine⟨y,(rt.1 r).1,?_⟩;rw[<-d.no y λq=>by obtain h|h:=tl2 y q<;>omega];exact z
  .rintro⟨y,r,z⟩;exact⟨y,rt.2 ⟨r,kl y r.1 λh hh=>by rw[hh.one<|.here r.2.1];omega⟩,by rw[lvx,low y ae];exact z⟩
 .have⟨k1,q1⟩:=t1.an m hm h k q;exact⟨(aee hG (fw k1)<|ko m hm).1,by rw[lvx];exact any h q1⟩
 .have:=t1.lo m hm h h' k (bk<|ahK hG (ko m hm) k') i ae z;rw[lvx,low h' ae];exact this
 .exact t1.fr.trans' F λb q=>by
   obtain q|q|q:=q
   .omega
   .omega
   .exact(t1.nw b q).imp (λz=>qg<|qg z) id
 .rw[V2 kn,r1.val];exact(js.ok.qW T).symm
 .rw[V2 kn,r1.val];have ach:aw v (sub s1.k T)->∃y,g1.R v y/\(D y\/(y∈g1.ds/\g1.lv y<=l)):=λo=>js.aie Sn r1.mem hn0 (by rw[r1.val];exact o);have aif:∀{y},g1.R v y->(D y\/(y∈g1.ds/\g1.lv y<=l))->(ed (gx.cut<|vH gx l) v↔cB y=aL):=λ{y}r q=>by
   constructor
   .rintro⟨y',r',z⟩;rw[<-(rt.1 r').1.one js.jg r,<-lvx];exact z
   .exact λz=>⟨y,rt.2 ⟨r,Sx y r.1 r.2.1 q⟩,by rw[lvx];exact z⟩
  cases hv:xc x with
  |false=>
   simp only[qu];constructor
   .intro q;cases q
   .rintro⟨o,a⟩;exfalso;have⟨y,r,q⟩:=ach o;have z:=(aif r q).1 a;obtain q|q:=q
    .have:=(d.up y q).2.2.2.2;rw[hv]at this;simp only[Bool.false_eq_true,if_false]at this;omega
    .grind
  |true=>
   simp only[qu,if_true,In.yL,List.mem_filter,decide_eq_true_eq];constructor
   .rintro⟨o,nf⟩;have o:=In.aC.1 o;have⟨y,r,q⟩:=ach o;refine⟨o,(aif r q).2 ?_⟩;have nl:=λz=>nf<|(Md aj hl nm t1 js hp o r).2 z;have dy:=q.resolve_right λz=>nl z.2;have:=(d.up y dy).2.2.2.2;rw[hv]at this;exact this
   .rintro⟨o,a⟩;refine⟨In.aC.2 o,λf=>?_⟩;have⟨y,r,q⟩:=ach o;have z:=(aif r q).1 a;have:=(Md aj hl nm t1 js hp o r).1 f;rw[low y this]at z;omega
 .have o:aw v (sub s1.k T):=o;rw[<-r1.val]at o;have⟨y,r⟩:=js.og r1.mem o;exact(js.root r).1
end
end
section
open Go.ChangeMaps Un
def tV(HB:AL nd):Xd nd:=by
 intro w B pb bv l last mv Q v k h hp hq hk hl hB;have⟨tv,xv,hv⟩:=hp.bQ;have hzp:=h.lt;have n1:w.heap.size≠pb:=ae;have n2:w.heap.size+1≠pb:=ae;obtain⟨R,hR⟩:∃R,R=FV B pb mv (l++(sep last++wT nd k)) w:=⟨_,rfl⟩;obtain⟨r,hr⟩:∃r,r=rk nd:=⟨_,rfl⟩;have cr:Bq w ((w.alloc<|Cv #[Pv pb] 121).alloc<|Cv #[v] 125):=(bw _).alloc ag _;have X1:=((Bx.new w #[Pv pb] 121).alloc<|Cv #[v] 125);have X2:Bx ((w.alloc<|Cv #[Pv pb] 121).alloc<|Cv #[v] 125) (w.heap.size+1) #[v]:=by have:=Bx.new (w.alloc<|Cv #[Pv pb] 121) #[v] 125;simpa using this
 have HN:=h.af cr;have HP:=hp.af cr;have F0:=FN.of (B:=B) (pb:=pb) cr;have HQ:=hq.fn F0;subst hv;rw[<-hR];clear h hp hq cr;go_enter func37,ntmps37;go_wp2_with fail;generalize((w.alloc<|Cv #[Pv pb] 121).alloc<|Cv #[Fv tv<|Av xv] 125)=W0 at X1 X2 HN HP F0 HQ⊢;generalize w.heap.size=b1 at n1 n2 X1 X2⊢;have c1:=X1.c;have f1:=X1.f;have z1:=X1.z;have c2:=X2.c;have f2:=X2.f;have z2:=X2.z;have HRK:Hid (∀W,Bq W0 W->Cq 53 #[Fv tv<|Av xv] W λe w'=>e=Rv (Nv r)/\Bq W w'):=ai (λW hW=>by rw[hr];exact aaV<|HP.af hW)
 have HG:Hid (∀W,Bq W0 W->Cq 52 #[Pv pb,.bool<|decide (r<k),.func (.func 54) #[] #[Pv b1,Pv<|b1+1]] W λe w'=>e=Rv (.tuple #[])/\R e w'/\w'.cell? ⟨b1,0,none⟩=some (Pv pb)/\w'.cell? ⟨b1+1,0,none⟩=some (Fv tv<|Av xv)):=ai (λW hW=>by
  have FW:=FN.of (B:=B) (pb:=pb) hW;rw[hr];refine(adH HB k hk (HN.af hW) (HP.af hW) (HQ.fn FW) hl hB b1 (b1+1) (X1.below hW) (X2.below hW) n1 n2).mono ?_;rintro e w2⟨rfl,Xb,DK,ON,fi2,hF2⟩;have Y1:=hF2.lH (X1.below hW) n1 qAi;have Y2:=hF2.lH (X2.below hW) n2 qAi;refine⟨rfl,?_,Y1.c 0,Y2.c 0⟩;rw[hR]
  exact⟨rfl,Xb,DK,ON,fi2,F0.trans<|FW.trans hF2⟩)
 clear HB HN HP HQ F0 hR hr hl X1 X2 n1 n2 hzp hk hB;have k1:W0.cell? ⟨b1,0,none⟩=some (Pv pb):=c1 0;have k2:W0.cell? ⟨b1+1,0,none⟩=some (Fv tv<|Av xv):=c2 0;clear c1 c2 f1 f2;go_region_held3(λw'=>w'.cell? ⟨b1,0,none⟩=some (Pv pb)/\w'.cell? ⟨b1+1,0,none⟩=some (Fv tv<|Av xv)) (first|go_keep|(simp[*])) (first|(go_at_call 53;refine(uh HRK _ (ql _ _).drew).mono ?_;rintro e w1⟨rfl,dz⟩;have eH:=ai<|aaX dz;have k3:w1.cell? ⟨b1,0,none⟩=some (Pv pb):=(qi (a:=⟨b1,0,none⟩)<|(uh eH).block b1 z1).trans k1;have k4:w1.cell? ⟨b1+1,0,none⟩=some (Fv tv<|Av xv):=(qi (a:=⟨b1+1,0,none⟩)<|(uh eH).block (b1+1) z2).trans k2;clear dz)|(go_at_call 52;with_reducible refine(uh HG _<|uh eH).mono ?_;rintro e w2⟨rfl,hR2,k5,k6⟩;have HR2:=ai hR2;clear hR2))
 all_goals(
  go_wp2
  go_end0
  exact uh HR2)
def ahq nd(h:WN nd):Xd nd:=by
 induction h with
 |var s n f t a h=>exact tV (aa0 s n f t a h)|fn s n x y f t a hx hy dQ il=>exact tV (adN s n x y f t a dQ il)|pr s n x y f t a hx hy dQ il=>exact tV (adO s n x y f t a dQ il)|up s n L f t a h hl hL ih=>exact tV<|adM s n L f t a h hl ih
end
section
open Un
namespace In
end In
def Wd:BA:=⟨#[108,101,116,32,107,32,61,32,102,117,110,32,120,32,45,62,32,102,117,110,32,121,32,45,62,32,120,59,32,108,101,116,32,97,32,61,32,107,32,49,59]⟩
def ahT:List Dc:=[.lt false ⟨1,⟨#[107]⟩,4,5⟩<|.mk 9 ⟨#[120]⟩ 0 [.mk 9 ⟨#[121]⟩ 0 [.mk 1 ⟨#[120]⟩ 0 [] 26 27 26] 17 27 21] 8 27 12,.lt false ⟨1,⟨#[97]⟩,33,34⟩<|.mk 8 eW 0 [.mk 1 ⟨#[107]⟩ 0 [] 37 38 37,.mk 3 ⟨#[49]⟩ 1 [] 39 40 39] 37 40 37]
def abO:bV Wd=.ok ahT:=qkr
def We:(dx eM ahT oP).f=oj:=qkr
namespace In
section
variable {s:St}
def GK{g}{o:Except Ft (β×St)}(h:andM jZ g s o):∃v,¬s.u v/\g v ⟨s.k,λn=>s.u n\/n=v⟩ o:=by
 obtain⟨x,⟨v,_,e⟩,_⟩|⟨v,s1,⟨v',hv,e⟩,ho⟩:=h
 .cases e
 .grind
def pC{m}{g}{o:Except Ft (β×St)}{Q:α->St->Prop}(h:andM m g s o)(hm:∀o,m s o->∃a s',o=.ok (a,s')/\Q a s'):∃a s',Q a s'/\g a s' o:=by
 obtain⟨x,h1,_⟩|⟨a,s1,h1,ho⟩:=h
 .grind
 .grind
def aek{mk:Mks}{x}{t v:Nat}(h:Γ x=some (mono<|.var v))(hk:s.k=xi)(ho:inf mk (.mk 1 x n [] f t a) Γ s o):∃s',o=.ok (.var v,s')/\s'.k=xi/\∀n,s'.u n↔s.u n:=by
 simp only[inf,kZ,rA,h,if_true]at ho;rw[hk]at ho;obtain⟨h1,_⟩|⟨_,ρ,s',⟨dS,u',hd,e⟩,rfl⟩:=ho
 .simp[sub,size]at h1
 .cases e
  have hr:∀y,ρ y=none:=λy=>hd.out y ag;refine⟨⟨s.k,u'⟩,by simp[sub,via,hr],hk,λn=>⟨λq=>?_,λq=>(hd.use n).2<|qh q⟩⟩;obtain q|⟨y,_,q⟩:=(hd.use n).1 q
  .exact q
  .rw[hr]at q;cases q
end
def akb{mk:Mks}{u:Nat->Prop}(ho:inf mk (.mk 9 ⟨#[120]⟩ 0 [.mk 9 ⟨#[121]⟩ 0 [.mk 1 ⟨#[120]⟩ 0 [] 26 27 26] 17 27 21] 8 27 12) (λ_=>none) ⟨xi,u⟩ o):∃v v2 s',v≠v2/\o=.ok (lY (.var v)<|lY (.var v2)<|.var v,s')/\s'.k=xi/\s'.u v/\s'.u v2:=by
 have e1:∀Γ,inf mk (.mk 9 ⟨#[120]⟩ 0 [.mk 9 ⟨#[121]⟩ 0 [.mk 1 ⟨#[120]⟩ 0 [] 26 27 26] 17 27 21] 8 27 12) Γ=andM jZ λv=>andM (inf mk (.mk 9 ⟨#[121]⟩ 0 [.mk 1 ⟨#[120]⟩ 0 [] 26 27 26] 17 27 21)<|cz Γ ⟨#[120]⟩<|mono<|.var v) λa=>cZ<|lY (.var v) a:=λΓ=>by simp[inf,kZ,rh,di]
 have e2:∀Γ,inf mk (.mk 9 ⟨#[121]⟩ 0 [.mk 1 ⟨#[120]⟩ 0 [] 26 27 26] 17 27 21) Γ=andM jZ λv=>andM (inf mk (.mk 1 ⟨#[120]⟩ 0 [] 26 27 26)<|cz Γ ⟨#[121]⟩<|mono<|.var v) λa=>cZ<|lY (.var v) a:=λΓ=>by simp[inf,kZ,rh,di]
 rw[e1]at ho;have⟨v,hv,ho⟩:=GK ho
 obtain⟨a,s1,⟨v2,cV,rfl,k1,u1,u2⟩,ho⟩:=pC (Q:=λa s'=>∃v2,v≠v2/\a=lY (.var v2) (.var v)/\s'.k=xi/\s'.u v/\s'.u v2) ho (by
  intro o ho;rw[e2]at ho;have⟨v2,Ui,ho⟩:=GK ho
  obtain⟨a,s1,⟨rfl,k1,u1⟩,ho⟩:=pC (Q:=λa s'=>a=.var v/\s'.k=xi/\∀n,s'.u n↔((u n\/n=v)\/n=v2)) ho (by
   intro o ho;obtain⟨s',rfl,q1,q2⟩:=aek (v:=v) (by simp[cz]) rfl ho
   exact⟨_,_,rfl,rfl,q1,q2⟩)
  cases ho
  exact⟨_,_,rfl,v2,λe=>Ui<|qg e.symm,rfl,k1,(u1 _).2<|qh<|qg rfl,(u1 _).2<|qg rfl⟩)
 cases ho
 exact⟨v,v2,s1,cV,rfl,k1,u1,u2⟩
def akc{mk:Mks}{v v2:Nat}(cV:v≠v2)(cq:Γ ⟨#[107]⟩=some ⟨lY (.var v)<|lY (.var v2)<|.var v,vars []<|lY (.var v)<|lY (.var v2)<|.var v⟩){s:St}(hk:s.k=xi)(ho:inf mk (.mk 8 eW 0 [.mk 1 ⟨#[107]⟩ 0 [] 37 38 37,.mk 3 ⟨#[49]⟩ 1 [] 39 40 39] 37 40 37) Γ s o):∃a s' m,o=.ok (a,s')/\sub s'.k a=lY (.var m) i_:=by
 have hvs:vars [] (lY (.var v)<|lY (.var v2)<|.var v)=[v,v2]:=by simp[vars,bh,Un.seen,cV,Ne.symm cV]
 rw[hvs]at cq;have e1:inf mk (.mk 8 eW 0 [.mk 1 ⟨#[107]⟩ 0 [] 37 38 37,.mk 3 ⟨#[49]⟩ 1 [] 39 40 39] 37 40 37) Γ=andM (inf mk (.mk 1 ⟨#[107]⟩ 0 [] 37 38 37) Γ) λa=>andM (cZ i_) λb=>andM jZ λv=>andM (ur a (lY b<|.var v) 37 40) λ_=>cZ<|.var v:=by simp[inf,kZ,rh,di]
 rw[e1]at ho
 obtain⟨a,s1,⟨n,n2,rfl,hn,k1,u1,u2⟩,ho⟩:=pC (Q:=λa s'=>∃n n2,a=lY (.var n) (lY (.var n2)<|.var n)/\n≠n2/\s'.k=xi/\s'.u n/\s'.u n2) ho (by
  intro o ho;simp only[inf,kZ,rA,cq,if_true]at ho;rw[hk]at ho;obtain⟨h1,_⟩|⟨_,ρ,s',⟨dS,u',hd,e⟩,rfl⟩:=ho
  .rw[cK]at h1;simp[size,ak]at h1
  .cases e
   have⟨n,hn⟩:=Option.ne_none_iff_exists'.1<|hd.all v ag;have⟨n2,W6⟩:=Option.ne_none_iff_exists'.1<|hd.all v2 ag
   refine⟨_,_,rfl,n,n2,by rw[cK];simp[sub,aT,via,hn,W6],λe=>cV<|hd.one v v2 n rfl hn (by rw[e];exact W6),hk,(hd.use n).2<|qg ⟨v,rfl,hn⟩,(hd.use n2).2<|qg ⟨v2,rfl,W6⟩⟩)
 have⟨b,s2,⟨hb,yu⟩,ho2⟩:=pC (Q:=λb s'=>b=i_/\s'=s1) ho<|λo ho=>⟨_,_,ho,rfl,rfl⟩;rw[hb,yu]at ho2;have⟨r,hr,ho⟩:=GK ho2;have hr1:r≠n:=λe=>hr<|e▸u1;have yf:r≠n2:=λe=>hr<|e▸u2
 have⟨x,s3,⟨m,q⟩,ho3⟩:=pC (Q:=λ_ s'=>∃m,sub s'.k (.var r)=lY (.var m) i_) ho (by
  intro o ho;rw[ur]at ho;simp only[k1,cK]at ho;have σ1:sub (λw=>if w=n then i_ else if w=r then lY (.var n2) i_ else .var w) (lY (.var n)<|lY (.var n2)<|.var n)=sub (λw=>if w=n then i_ else if w=r then lY (.var n2) i_ else .var w) (lY i_<|.var r):=by
   simp[sub,aT,hn.symm,hr1,Ne.symm yf]
  obtain⟨h1,_⟩|⟨_,_,⟨θ,hm,rfl⟩|⟨h1,_⟩⟩:=ho
  .simp[size,ak]at h1
  .refine⟨_,_,rfl,?_⟩;have g:=hm.gen _ σ1 n2;simp only[if_neg<|Ne.symm hn,if_neg<|Ne.symm yf]at g;have ho:=hm.one;simp only[sub,aT,Ty.aM.injEq,List.cons.injEq,true_and,and_true]at ho
   cases vO:θ n2 with
   |var m=>exact⟨m,by show sub (λw=>sub θ<|.var w) (.var r)=_;simp only[sub];rw[<-ho.2,ho.1,vO]⟩|aM c l=>rw[vO]at g;simp[sub]at g
  .exact absurd σ1 (h1 _))
 cases ho3
 exact⟨_,_,m,rfl,q⟩
def ael{rs}{u:Nat->Prop}{B}{F}(h:td rs ahT (λ_=>none) (λ_=>none) ⟨xi,u⟩ B F):F=none/\B.map (λp=>(p.1,xn Go.Proofs.YtnldmeakhapdhaaGreatDoor.dec p.2))=[(⟨#[107]⟩,[39,118,48,32,45,62,32,39,118,49,32,45,62,32,39,118,48]),(⟨#[97]⟩,[85,110,105,116,32,45,62,32,73,110,116])]:=by
 obtain⟨o,ho,hq⟩:=h;obtain⟨v,v2,s1,cV,rfl,k1,u1,u2⟩:=akb ho;obtain⟨z,_⟩|⟨_,T,B',hT,rfl,hq⟩:=hq
 .rw[k1,cK]at z;simp[size,ak]at z
 .have Xa:T=lY (.var v) (lY (.var v2)<|.var v):=by rw[hT,k1,cK];rfl
  subst Xa;obtain⟨o,ho,hq⟩:=hq;have hk:(nxt rs s1).k=xi:=by
   show(if rs then xi else s1.k)=xi
   cases rs
   .exact k1
   .rfl
  obtain⟨a,s2,m,rfl,hs⟩:=akc cV (by simp[cz]) hk ho;obtain⟨z,_⟩|⟨_,T,B'',hT,rfl,hq⟩:=hq
  .rw[hs]at z;simp[size,ak]at z
  .obtain⟨rfl,rfl⟩:=hq;have hv:sg (.mk 8 eW 0 [.mk 1 ⟨#[107]⟩ 0 [] 37 38 37,.mk 3 ⟨#[49]⟩ 1 [] 39 40 39] 37 40 37)=false:=by simp[sg,isC,isM]
   rw[hv,hs]at hT;have Xa:T=lY nX i_:=by rw[hT];simp[dU,sub,aT]
   subst Xa;have hvs:vars [] (lY (.var v)<|lY (.var v2)<|.var v)=[v,v2]:=by simp[vars,bh,Un.seen,cV,Ne.symm cV]
   have hx:([v,v2]:List Nat).idxOf v=0:=ag;have hy:([v,v2]:List Nat).idxOf v2=1:=xY;have a1:xn Go.Proofs.YtnldmeakhapdhaaGreatDoor.dec (lY (.var v)<|lY (.var v2)<|.var v)=[39,118,48,32,45,62,32,39,118,49,32,45,62,32,39,118,48]:=by
    rw[xn];rw[hvs];simp only[Un.wr,Un.Rc,hx,hy];kernel_rfl
   have a2:xn Go.Proofs.YtnldmeakhapdhaaGreatDoor.dec (lY nX i_)=[85,110,105,116,32,45,62,32,73,110,116]:=qkr;refine⟨rfl,?_⟩;rw[jm,jm,List.map_nil,a1,a2]
end In
def GF k i j:Cq 14 #[ftV k i j,ftV k i j] w λe w'=>e=.returned (.bool true)/\Bq w w':=by
 rw[ftV];have h0:(k==k)=true:=ag;have h1:(i==i)=true:=ag;have h2:(j==j)=true:=ag;go_enter func14,ntmps14
 go_wp2
 go_ret;exact⟨rfl,(bw _).alloc ag _⟩
end
def lh(w:World)(L:List (BA×BA))(v:Value):=∃va vc,v=.slice va L.length vc/\L.length<=vc/\(L=[]\/∃g,va=some ⟨g,0,none⟩/\g<w.heap.size/\∀i(h:i<L.length),w.cell? ⟨g,i*2,none⟩=some (.string L[i].1)/\w.cell? ⟨g,i*2+1,none⟩=some (.string L[i].2))
def lh.af{L:List (BA×BA)}(h:lh w L v)(k:Bq w w'):lh w' L v:=by
 obtain⟨va,vc,rfl,hc,h⟩:=h;refine⟨va,vc,rfl,hc,h.imp id ?_⟩;rintro⟨g,rfl,hg,hc⟩;refine⟨g,rfl,qe hg k.size,λi hi=>⟨?_,?_⟩⟩
 .rw[qi (a:=⟨g,i*2,none⟩)<|k.block g hg];exact(hc i hi).1
 .rw[qi (a:=⟨g,i*2+1,none⟩)<|k.block g hg];exact(hc i hi).2
def wW{L:List (BA×BA)}(h1:lh w L u)(h2:lh w L v)(hl:L.length<=1000000):Cq 8 #[u,v] w λe w'=>e=.returned (.bool true)/\Bq w w':=by
 obtain⟨pa,pc,rfl,_,H1⟩:=h1;obtain⟨qa,qc,rfl,_,H2⟩:=h2;go_enter func8,ntmps8
 go_wp2
 go_loopg[5] L.length (λgk c wr=>∃j:Nat,Hid (gk=L.length-j)/\j<=L.length/\c=Nv j/\Bq w wr)
 case atStart=>exact⟨0,ai rfl,j9 _,rfl,ql _ _⟩
 case round=>
  obtain⟨j,dl,hj,rfl,HB⟩:=hrel;by_cases bA:j<L.length
  .have hd:(j:Int)<(L.length:Int):=ae;obtain⟨g,rfl,hg,hc⟩:=H1.resolve_left (λe=>by simp[e]at bA);obtain⟨g',rfl,Dx,hc'⟩:=H2.resolve_left (λe=>by simp[e]at bA);have a0:=(qi (a:=⟨g,j*2,none⟩)<|HB.block g hg).trans (hc j bA).1;have a1:=(qi (a:=⟨g,j*2+1,none⟩)<|HB.block g hg).trans (hc j bA).2;have b0:=(qi (a:=⟨g',j*2,none⟩)<|HB.block g' Dx).trans (hc' j bA).1;have b1:=(qi (a:=⟨g',j*2+1,none⟩)<|HB.block g' Dx).trans (hc' j bA).2;generalize L[j].1=x at a0 b0;generalize L[j].2=y at a1 b1;have e1:(x.toList==x.toList)=true:=ag;have e2:(y.toList==y.toList)=true:=ag
   go_wp2
   go_quiet(fail)
   go_wp2
   go_roundg(L.length-(j+1))
   case measure=>rw[uh dl];omega
   case rel=>exact⟨j+1,ai rfl,ae,jP,HB.drewN _⟩
  .have hd:decide ((j:Int)<(L.length:Int))=false:=bF
   go_wp2
   go_ret;exact⟨rfl,HB⟩
def LD:Cq 15 #[.slice none 0 0,.slice none 0 0] w λe w'=>e=.returned (.bool true)/\Bq w w':=by
 go_enter func15,ntmps15
 go_wp2
 go_loopg[5] 0 (λgk c wr=>c=Iv 0/\Bq w wr)
 case atStart=>exact⟨rfl,ql _ _⟩
 case round=>
  obtain⟨rfl,hb⟩:=hrel
  go_wp2
  go_ret;exact⟨rfl,hb⟩
def rpt(k i j:Int)(l r:BA)(u:Value):Value:=.agg #[Iv k,Iv i,Iv j,.string l,.string r,u,.slice none 0 0]
def ua{k i j}{l r}{L:List (BA×BA)}(h1:lh w L u)(h2:lh w L v)(hl:L.length<=1000000):Cq 9 #[rpt k i j l r u,rpt k i j l r v] w λe w'=>e=.returned (.bool true)/\Bq w w':=by
 have H1:=ai h1;have H2:=ai h2;obtain⟨pa,pc,rfl,-⟩:=h1;obtain⟨qa,qc,rfl,-⟩:=h2;have e1:(l.toList==l.toList)=true:=ag;have e2:(r.toList==r.toList)=true:=ag;unfold rpt;have k2:Bq w ((w.alloc<|Cv #[Iv k,Iv i,Iv j,Sv l,Sv r,Lv pa L.length pc,Lv none 0 0] 34).alloc<|Cv #[Iv k,Iv i,Iv j,Sv l,Sv r,Lv qa L.length qc,Lv none 0 0] 34):=(bw _).alloc ag _;obtain⟨W,HW⟩:∃W,W=((w.alloc<|Cv #[Iv k,Iv i,Iv j,Sv l,Sv r,Lv pa L.length pc,Lv none 0 0] 34).alloc<|Cv #[Iv k,Iv i,Iv j,Sv l,Sv r,Lv qa L.length qc,Lv none 0 0] 34):=⟨_,rfl⟩;have A0:Bx W w.heap.size #[Iv k,Iv i,Iv j,Sv l,Sv r,Lv pa L.length pc,Lv none 0 0]:=(by rw[HW];exact(Bx.new w _ _).alloc _);have A1:Bx W (w.heap.size+1) #[Iv k,Iv i,Iv j,Sv l,Sv r,Lv qa L.length qc,Lv none 0 0]:=(by rw[HW];have:=Bx.new (w.alloc<|Cv #[Iv k,Iv i,Iv j,Sv l,Sv r,Lv pa L.length pc,Lv none 0 0] 34) #[Iv k,Iv i,Iv j,Sv l,Sv r,Lv qa L.length qc,Lv none 0 0] 34;simpa using this);rw[<-HW]at k2;have K2:=ai k2;have HF:=GF (w:=W) k i j;simp only[ftV]at HF;go_enter func9,ntmps9;go_wp2_with fail;rw[<-HW];refine HF.mono ?_;rintro e w1⟨rfl,dz⟩;have K3:=K2.trans<|dz.mono K2.size;have B0:=ai<|A0.below dz;have B1:=ai<|A1.below dz;have HC:=wW (H1.af K3) (H2.af K3) hl;have⟨c1,f1,z1⟩:=uh B0;have⟨c2,f2,z2⟩:=uh B1;go_wp2_with fail;refine HC.mono ?_;rintro e w2⟨rfl,fs⟩;have K4:=K3.trans<|fs.mono K3.size
 have C0:=ai<|B0.below fs;have C1:=ai<|B1.below fs;have⟨c1,f1,z1⟩:=uh C0;have⟨c2,f2,z2⟩:=uh C1;go_wp2_with fail;refine LD.mono ?_;rintro e w3⟨rfl,oS⟩;have K5:=K4.trans<|oS.mono K4.size;have D0:=C0.below oS;have D1:=C1.below oS;obtain⟨c1,f1,z1⟩:=D0;obtain⟨c2,f2,z2⟩:=D1
 go_wp2
 go_ret;exact⟨rfl,K5⟩
section
open Un
def abP:(Tryz.prog.info? 9).map (λi=>(i.zero,i.size,i.bytes))=some (some<|.string ⟨#[]⟩,1,16):=qkr
def Ba:Tryz.prog.underlying 42=some (.slice 9):=qkr
abbrev kE(w:World)base v xs:=w.ownsRow base 9 1 v xs.length xs
def kE.new(w:World)C base(hb:base<=w.heap.size)(hl:C.length<=1000)n(hn:n=C.length):kE (w.alloc<|.cells C.toArray 9) base (.slice (some ⟨w.heap.size,0,none⟩) n n) C:=by
 subst hn;exact⟨ag,.inr ⟨w.heap.size,C.length,C.toArray,rfl,hb,heap_alloc_new w _,br _,ZA,ag,ag⟩⟩
def lQ{ops}{rest}{o}{a}{Q}(hgd:o.guard=none)s x(ho:o.op=.call {callee:=.builtin .append,args:=#[s,x],argTypes:=#[42,42]}){b0}{news}(hs:a.eval s=v)(fX:kE w base v xs)(hx:a.eval x=u)(hn:kE w b0 u news)(h1:∀u∈news,u.oneCell'=true)(hz:xs.length+news.length<=1000)(qU:base<=w.heap.size)(h:∀v' w',kE w' base v' (xs++news)->w.grownBy w' v.ownBlock->wpList xg ops Q rest (a.put o.dst v') w'):wpList xg ops Q (o::rest) a w:=by
 have⟨i0,hi,oR,nu,iZ⟩:=info_parts abP;have CU:=hn;obtain⟨hl,hc⟩:=hn;obtain⟨rfl,h0⟩|⟨g,cap,lZ,rfl,hg,hh,r⟩:=hc
 .have e:=List.eq_nil_of_length_eq_zero h0;subst e;refine wpList_append_own_none hgd s x 42 ho base 9 i0 1 Ba hi v xs.length xs hs fX hx ?_;exact h v w (by simpa using fX) ⟨rfl,rfl,rfl,br _,λ_ _ _=>rfl⟩
 .refine wpList_append_own w hgd s x 42 ho base 9 i0 _ 1 16 Ba hi oR nu iZ rfl aB v xs.length xs hs fX ⟨g,0,none⟩ news.length cap news hx ae (λj z e=>CU.cells rfl j z e) h1 ZA ae qU ?_;intro v' w' ho' Dx _;exact h v' w' (by rw[kE];rw[lM];exact ho') Dx
def EK(L:List UInt8):List Value:=L.map λc=>.string<|bu c
structure NSv w xb v L:Prop where
 o:∃base,kE w base v<|EK L
 n:v.ownBlock≠some xb
 k:∀c∈L,qE<|bu c
def ud L:∀u∈EK L,u.oneCell'=true:=by
 intro u hu;obtain⟨c,_,rfl⟩:=List.mem_map.1 hu;rfl
def EL(h:kE w base v xs)(hk:Ke rb w w')(hn:v.ownBlock≠some rb):kE w' base v xs:=by
 obtain⟨h1,h2⟩:=h;refine⟨h1,?_⟩;obtain h2|⟨g,cap,lZ,rfl,hg,hh,r⟩:=h2
 .exact .inl h2
 .exact .inr ⟨g,cap,lZ,rfl,hg,(hk.block g (by have:=(Array.getElem?_eq_some_iff.1 hh).1;exact this) (by intro e;exact hn<|by simp[Value.ownBlock,e])).trans hh,r⟩
def NSv.ke(h:NSv w xb v L)(hk:Ke xb w w'):NSv w' xb v L:=by
 have⟨base,ho⟩:=h.o;exact⟨⟨base,EL ho hk h.n⟩,h.n,h.k⟩
def NSv.af(h:NSv w xb v L)(hb:Bq w w'):NSv w' xb v L:=h.ke<|Ke.of hb
def fV(h:Below B W w)(hg:w.grownBy w' row)(hz:B<=w.heap.size)(hr:∀k,row=some k->B<=k):Below B W w':=
 ⟨hg.os.trans h.os,hg.tape.trans h.tape,hg.output.trans h.output,j8 h.size hg.size,λi hi=>(hg.block i ae (λe=>by have:=hr i e.symm;omega)).trans<|h.block i hi⟩
def fD(h:kE w base v xs):∀k,v.ownBlock=some k->base<=k:=λk hk=>(World.ownsRow.lt h k hk).1
section
variable {len:Nat} {p:Option Addr} {r:Nat->Int}
def MkP xb p len cap r d L w(e:Ending)w':=∃l,e=.returned (.string<|bs l)/\MXq d L l/\yj xb p len cap r w w'
def MkE xb p len cap r d:=∀(w:World)(A:Nat)(v:Value)(L:List UInt8),Src w xb p len cap r A->NSv w xb v L->L.length+d<=6->Cq 11 #[Pv xb,Nv d,v] w (MkP xb p len cap r d L w)
def xU:List Value:=[.string ⟨#[49]⟩,.string ⟨#[116,114,117,101]⟩,.string ⟨#[40,41]⟩,.string ⟨#[78]⟩,.string ⟨#[80]⟩]
def aem d L:∀u∈xU,∃l,u=.string (bs l)/\MXq d L l:=by
 have h4:=ahN d;intro u hu;simp only[xU,jl,jj,or_false]at hu;obtain rfl|rfl|rfl|rfl|rfl:=hu
 .exact⟨[49],rfl,nk.one,bF⟩
 .exact⟨[116,114,117,101],rfl,nk.tr,bF⟩
 .exact⟨[40,41],rfl,nk.unit,bF⟩
 .exact⟨[78],rfl,nk.up aB,bF⟩
 .exact⟨[80],rfl,nk.up aB,bF⟩
def abQ d L(hk:∀c∈L,qE<|bu c):∀u∈EK L,∃l,u=.string (bs l)/\MXq d L l:=by
 have h4:=ahN d;intro u hu;obtain⟨c,hc,rfl⟩:=List.mem_map.1 hu;exact⟨[c],rfl,nk.low hc<|hk c hc,bF⟩
def LN:Value->BA
 |.string s=>s|_=>⟨#[]⟩
def Tp{w}(h:kE w base v xs)(hx:∀u∈xs,∃s,u=.string s)(hn:0<xs.length):∃g cp,v=.slice (some ⟨g,0,none⟩) xs.length cp/\base<=g/\g<w.heap.size/\Txt w g xs.length (λj=>LN<|xs.getD j<|.bool false):=by
 have h':=h;obtain⟨h1,h2⟩:=h;obtain⟨rfl,q⟩|⟨g,cp,lZ,rfl,hg,hh,r⟩:=h2
 .omega
 .refine⟨g,cp,rfl,hg,(World.ownsRow.lt h' g rfl).2,λj hj=>?_⟩;have e:=h'.cells (g:=g) rfl j xs[j] (jf hj);have⟨s,hs⟩:=hx xs[j]<|ja hj;have e2:(⟨g,0,none⟩:Addr).add j=⟨g,j,none⟩:=by
   rw[Addr.add];split
   .grind
   .simp
  show w.cell? ⟨g,j,none⟩=some (Sv<|LN<|xs.getD j<|.bool false);rw[e2,hs]at e;rw[e,jd,jf hj,hs];rfl
def abR{d:Nat}(hx:∀u∈xs,∃l,u=.string (bs l)/\MXq d L l)j(hj:j<xs.length):∃l,LN (xs.getD j<|.bool false)=bs l/\MXq d L l:=by
 have⟨l,e,h⟩:=hx xs[j]<|ja hj;refine⟨l,?_,h⟩;rw[jd,jf hj,e];rfl
def DX L:=(xU++EK L)++EK L
def ue d L(hk:∀c∈L,qE<|bu c):∀u∈DX L,∃l,u=.string (bs l)/\MXq d L l:=by
 intro u hu;simp only[DX,List.mem_append]at hu;obtain  (h|h)|h:=hu
 .exact aem d L u h
 .exact abQ d L hk u h
 .exact abQ d L hk u h
def fW L:(DX L).length=5+2*L.length:=by simp[DX,xU,EK];omega
def ann{p:Prop}(h:p:=by
 have Pq:=(HK.trans<|Ke.of HB4).trans sr;rw[e5]
 go_wp2
 go_ret
 exact⟨l,rfl,HM,A5,MX,Pq⟩):p:=h
def alX:MkE xb p len cap r 0:=by
 intro w A v L hS HN hL;have HC:=yk hS 12 ae ae;go_enter func11,ntmps11;go_wp2_with fail;refine HC.mono ?_;rintro e w1⟨q,rfl,q0,q1,A1,HS,HK⟩;have Fq:=HN.ke HK;have alt:(((0:Nat):Int)==0)=true:=ag;have O1:=World.ownsRow_nil (w1.alloc<|Cv xU.toArray 9) w1.heap.size 9 1
 go_wp2_with(first
  |(at_builtin;refine lQ rfl (.tmp 32) (.tmp 33) rfl rfl O1 rfl (kE.new w1 xU 0 (j9 _) aB 5 rfl) aB aB ag ?_;intro v2 w2 o2 g2;have fs:Bq w1 w2:=fV (bw _) g2 ag<|fD O1;have⟨b2,on2⟩:=(Fq.af fs).o;have O2:=ai o2;have ON2:=ai on2;have eG:=ai fs;have z2:=fs.size;have G2:=ai<|fD o2;clear o2 on2 fs g2 O1)
  |(at_builtin;refine lQ rfl (.tmp 35) (.tmp 36) rfl rfl O2 rfl ON2 (ud L) (by simp[xU,EK];omega) z2 ?_;intro v3 w3 o3 g3;have oS:Bq w1 w3:=fV eG g3 z2 G2;have⟨b3,on3⟩:=(Fq.af oS).o;have O3:=ai o3;have ON3:=ai on3;have zQ:=ai oS;have z3:=oS.size;have G3:=ai<|fD o3;clear o3 on3 oS g3 O2 ON2 eG z2 G2)
  |(at_builtin;refine lQ rfl (.tmp 38) (.tmp 39) rfl rfl O3 rfl ON3 (ud L) (by simp[xU,EK];omega) z3 ?_;intro v4 w4 o4 g4;have Ho:Bq w1 w4:=fV zQ g4 z3 G3;have HB4:=ai Ho;have z4:=Ho.size;obtain⟨g,cp,rfl,hg,k9,htx⟩:=Tp (show kE w4 w1.heap.size v4 (DX L)from o4) (λu hu=>by have⟨l,e,_⟩:=ue 0 L Fq.k u hu;exact⟨_,e⟩) (by rw[fW];omega);rw[fW]at htx;simp only[fW];have HX:=ai htx;clear o4 g4 htx Ho O3 ON3 zQ z3 G3))
 have hxz:=HS.b.z;refine(OY (HS.af HB4) HX k9 ae ae ae).mono ?_;rintro e w5⟨j,hj,rfl,A5,MX,sr⟩;have⟨l,e5,HM⟩:=abR (ue 0 L Fq.k) j (by rw[fW];exact hj);exact ann
def kE.agx{w}(h:kE w base v xs)o:kE (w.alloc o) base v xs:=jR h<|bw o
def NSv.more{w}{xb}(o:kE w base v (EK<|L++[c]))(hx:xb<base)(hk:∀c∈L,qE<|bu c)(hc:qE (bu c)):NSv w xb v (L++[c]):=
 ⟨⟨_,o⟩,λe=>by have:=fD o xb e;omega,λx hx=>by
   obtain q|q:=List.mem_append.1 hx
   .exact hk x q
   .rw[List.mem_singleton.1 q];exact hc⟩
def abf:List Value:=[.string ⟨#[97]⟩,.string ⟨#[98]⟩,.string ⟨#[102]⟩]
def ahU j(hj:j<3):∃c,LN (abf.getD j<|.bool false)=bu c/\qE (bu c):=by
 have hc:j=0\/j=1\/j=2:=ae;obtain rfl|rfl|rfl:=hc
 .exact⟨97,rfl,nm1 97 aB qAq⟩
 .exact⟨98,rfl,nm1 98 aB qAq⟩
 .exact⟨102,rfl,nm1 102 aB qAq⟩
def aen(w1:World):Txt (w1.alloc<|.cells abf.toArray 9) w1.heap.size 3 (λj=>LN<|abf.getD j<|.bool false):=by
 intro j hj;have hc:j=0\/j=1\/j=2:=ae;rw[(Bx.new w1 abf.toArray 9).c j];obtain rfl|rfl|rfl:=hc<;>rfl
def ajf{d:Nat}(h:d+1<=3):mB d<=136:=by
 have hc:d=0\/d=1\/d=2:=ae;obtain rfl|rfl|rfl:=hc<;>decide
def QJ c:(bu c).size=1:=rfl
def jE c:bu c=bs [c]:=rfl
def zR L c:EK L++[.string<|bu c]=EK (L++[c]):=by simp[EK]
def Es{p:Prop}(h:p:=by
 have q5:=MO.2;have q6:=UX.2;simp only[mB,lM,yE,qO];omega):p:=h
def alY{d:Nat}(hd:d+1<=3)(hI:MkE xb p len cap r d):MkE xb p len cap r (d+1):=by
 intro w A v L hS HN hL;have HC:=yk hS 12 ae ae;have hd0:(((d+1:Nat):Int)==0)=false:=bF;have Dq:((d+1:Nat):Int)-1=(d:Int):=ae;go_enter func11,ntmps11;go_wp2_with fail;refine HC.mono ?_;rintro e w1⟨q,rfl,q0,q1,A1,HS,HK⟩;have Fq:=HN.ke HK;by_cases h3:q<3
 .have O1:=qk (w1.alloc<|Cv xU.toArray 9) w1.heap.size 9 1
  go_wp2_with(first
   |(at_builtin;refine lQ rfl (.tmp 32) (.tmp 33) rfl rfl O1 rfl (kE.new w1 xU 0 (j9 _) aB 5 rfl) aB aB ag ?_;intro v2 w2 o2 g2;have fs:Bq w1 w2:=fV (bw _) g2 ag<|fD O1;have⟨b2,on2⟩:=(Fq.af fs).o;have O2:=ai o2;have ON2:=ai on2;have eG:=ai fs;have z2:=fs.size;have G2:=ai<|fD o2;clear o2 on2 fs g2 O1)
   |(at_builtin;refine lQ rfl (.tmp 35) (.tmp 36) rfl rfl O2 rfl ON2 (ud L) (by simp[xU,EK];omega) z2 ?_;intro v3 w3 o3 g3;have oS:Bq w1 w3:=fV eG g3 z2 G2;have⟨b3,on3⟩:=(Fq.af oS).o;have O3:=ai o3;have ON3:=ai on3;have zQ:=ai oS;have z3:=oS.size;have G3:=ai<|fD o3;clear o3 on3 oS g3 O2 ON2 eG z2 G2)
   |(at_builtin;refine lQ rfl (.tmp 38) (.tmp 39) rfl rfl O3 rfl ON3 (ud L) (by simp[xU,EK];omega) z3 ?_;intro v4 w4 o4 g4;have Ho:Bq w1 w4:=fV zQ g4 z3 G3;have HB4:=ai Ho;have z4:=Ho.size;obtain⟨g,cp,rfl,hg,k9,htx⟩:=Tp (show kE w4 w1.heap.size v4 (DX L)from o4) (λu hu=>by have⟨l,e,_⟩:=ue 0 L Fq.k u hu;exact⟨_,e⟩) (by rw[fW];omega);rw[fW]at htx;simp only[fW];have HX:=ai htx;clear o4 g4 htx Ho O3 ON3 zQ z3 G3))
  have hxz:=HS.b.z;refine(OY (HS.af HB4) HX k9 ae ae ae).mono ?_;rintro e w5⟨j,hj,rfl,A5,MX,sr⟩;have⟨l,e5,HM⟩:=abR (ue (d+1) L Fq.k) j (by rw[fW];exact hj);exact ann
 .have h3':decide (q<3)=false:=bF;have hxz:=HS.b.z;have dz:Bq w1 (w1.alloc<|Cv abf.toArray 9):=bw _;go_wp2_with fail;refine(OY (HS.af dz) (aen w1) ag ae ae ae).mono ?_;rintro e w2⟨j,hj,rfl,A2,HS2,UD⟩;have⟨c,ec,HC⟩:=ahU j hj;have HK2:=(HK.trans<|Ke.of dz).trans UD;have Re:=(Fq.af dz).ke UD;have⟨b2,ON2⟩:=Re.o;have iZ:=HS2.b.z;have Mr:=QJ c;have O2:=qk w2 w2.heap.size 9 1;rw[ec];have hqc:q=3\/q=4\/q=5\/q=6\/q=7\/q=8\/q=9\/q=10\/q=11:=by simp at h3';omega
  obtain rfl|rfl|rfl|rfl|rfl|rfl|rfl|rfl|rfl:=hqc
  all_goals(
   go_wp2_with(first
    |(at_builtin;refine lQ rfl (.tmp 47) (.tmp 48) rfl rfl O2 rfl ON2 (ud L) (by simp[EK];omega) (br _) ?_;intro v3 w3 o3 g3;have oS:Bq w2 w3:=fV (ql _ _) g3 (br _)<|fD O2;have O3:=ai o3;have zQ:=ai oS;have z3:=oS.size;clear o3 g3 oS O2 ON2)
    |(at_builtin;refine lQ rfl (.tmp 50) (.tmp 52) rfl rfl (O3.agx _) rfl (kE.new w3 [Sv<|bu c] 0 (j9 _) ag 1 rfl) qAn (by simp[EK];omega) bF ?_;intro v4 w4 o4 g4))
   have Ho:=fV (zQ.alloc z3 _) g4 bF<|fD O3;rw[jk,zR]at o4;have HM4:=NSv.more o4 iZ Re.k HC;have Wg:=Re.af Ho;have HS4:=HS2.af Ho;have HK4:=HK2.trans<|Ke.of Ho
   clear o4 g4 Ho O3 zQ z3 HS2 HK2 Re)
  iterate 2 next=>
   refine(hI w4 A2 _ _ HS4 HM4 bF).mono ?_;rintro e w5⟨l5,rfl,MO,A5,MX,sr⟩;have Pq:=HK4.trans sr;have Tr:=Wg.ke sr;have Xn:=HM4.ke sr;have hz5:(bs l5).size<=136:=qAj
   go_wp2
   go_ret;refine⟨_,?_,⟨(nk.fn HC MO.1),?_⟩,A5,MX,Pq⟩
   .simp only[jE,<-kG];rfl
   .have q5:=MO.2;simp only[mB,lM,yE,qO];omega
  iterate 2 next=>
   refine(hI w4 A2 _ _ HS4 Wg ae).mono ?_;rintro e w5⟨l5,rfl,MO,A5,MX,sr⟩;have Pq:=HK4.trans sr;have Tr:=Wg.ke sr;have Xn:=HM4.ke sr;have hz5:(bs l5).size<=136:=qAj;go_wp2_with fail;refine(hI w5 A5 _ _ MX Tr ae).mono ?_;rintro e w6⟨l6,rfl,UX,A6,HS6,GN⟩;have HK6:=Pq.trans GN;have HN6:=Tr.ke GN;have HM6:=Xn.ke GN;have hz6:(bs l6).size<=136:=qAo
   go_wp2
   go_ret;refine⟨_,?_,⟨(MO.1.C9 UX.1),?_⟩,A6,HS6,HK6⟩
   .simp only[jE,<-kG];rfl
   .exact Es
  .refine(hI w4 A2 _ _ HS4 Wg ae).mono ?_;rintro e w5⟨l5,rfl,MO,A5,MX,sr⟩;have Pq:=HK4.trans sr;have Tr:=Wg.ke sr;have Xn:=HM4.ke sr;have hz5:(bs l5).size<=136:=qAj;go_wp2_with fail;refine(hI w5 A5 _ _ MX Xn bF).mono ?_;rintro e w6⟨l6,rfl,UX,A6,HS6,GN⟩;have HK6:=Pq.trans GN;have HN6:=Tr.ke GN;have HM6:=Xn.ke GN;have hz6:(bs l6).size<=136:=qAo
   go_wp2
   go_ret;refine⟨_,?_,⟨(nk.lt HC MO.1 UX.1),?_⟩,A6,HS6,HK6⟩
   .simp only[jE,<-kG];rfl
   .exact Es
  .refine(hI w4 A2 _ _ HS4 Wg ae).mono ?_;rintro e w5⟨l5,rfl,MO,A5,MX,sr⟩;have Pq:=HK4.trans sr;have Tr:=Wg.ke sr;have Xn:=HM4.ke sr;have hz5:(bs l5).size<=136:=qAj;go_wp2_with fail;refine(hI w5 A5 _ _ MX Tr ae).mono ?_;rintro e w6⟨l6,rfl,UX,A6,HS6,GN⟩;have HK6:=Pq.trans GN;have HN6:=Tr.ke GN;have HM6:=Xn.ke GN;have hz6:(bs l6).size<=136:=qAo
   go_wp2
   go_ret;refine⟨_,?_,⟨(MO.1.pair UX.1),?_⟩,A6,HS6,HK6⟩
   .simp only[jE,<-kG];rfl
   .exact Es
  .refine(hI w4 A2 _ _ HS4 Wg ae).mono ?_;rintro e w5⟨l5,rfl,MO,A5,MX,sr⟩;have Pq:=HK4.trans sr;have Tr:=Wg.ke sr;have Xn:=HM4.ke sr;have hz5:(bs l5).size<=136:=qAj;go_wp2_with fail;refine(hI w5 A5 _ _ MX Tr ae).mono ?_;rintro e w6⟨l6,rfl,UX,A6,HS6,GN⟩;have HK6:=Pq.trans GN;have HN6:=Tr.ke GN;have HM6:=Xn.ke GN;have hz6:(bs l6).size<=136:=qAo
   go_wp2
   go_ret;refine⟨_,?_,⟨(MO.1.aM UX.1),?_⟩,A6,HS6,HK6⟩
   .simp only[jE,<-kG];rfl
   .exact Es
  .refine(hI w4 A2 _ _ HS4 Wg ae).mono ?_;rintro e w5⟨l5,rfl,MO,A5,MX,sr⟩;have Pq:=HK4.trans sr;have Tr:=Wg.ke sr;have Xn:=HM4.ke sr;have hz5:(bs l5).size<=136:=qAj;go_wp2_with fail;refine(hI w5 A5 _ _ MX Tr ae).mono ?_;rintro e w6⟨l6,rfl,UX,A6,HS6,GN⟩;have HK6:=Pq.trans GN;have hz6:(bs l6).size<=136:=qAo
   go_wp2
   go_ret;refine⟨_,?_,⟨(MO.1.ite UX.1),?_⟩,A6,HS6,HK6⟩
   .simp only[jE,<-kG];rfl
   .exact Es
  .refine(hI w4 A2 _ _ HS4 Wg ae).mono ?_;rintro e w5⟨l5,rfl,MO,A5,MX,sr⟩;have Pq:=HK4.trans sr;have Tr:=Wg.ke sr;have Xn:=HM4.ke sr;have hz5:(bs l5).size<=136:=qAj;go_wp2_with fail;refine(hI w5 A5 _ _ MX Xn bF).mono ?_;rintro e w6⟨l6,rfl,UX,A6,HS6,GN⟩;have HK6:=Pq.trans GN;have hz6:(bs l6).size<=136:=qAo
   go_wp2
   go_ret;refine⟨_,?_,⟨(nk.mt HC MO.1 UX.1),?_⟩,A6,HS6,HK6⟩
   .simp only[jE,<-kG];rfl
   .exact Es
def YS:∀d,d<=3->MkE xb p len cap r d
 |0,_=>alX|d+1,h=>alY h<|YS d ae
end
section
variable {len:Nat} {p:Option Addr} {r:Nat->Int}
def agv:List Value:=[.string ⟨#[120]⟩,.string ⟨#[121]⟩,.string ⟨#[122]⟩]
def sZ(n:Nat):UInt8:=if n=0 then 120 else if n=1 then 121 else 122
def NH n:qE (bu<|sZ n):=by
 rw[sZ];split
 .exact nm1 120 aB qAq
 .split
  .exact nm1 121 aB qAq
  .exact nm1 122 aB qAq
def agw{w}(h:Bx w b agv.toArray)n(hn:n<3):w.cell? ⟨b,n,none⟩=some (.string<|bu<|sZ n):=by
 rw[h.c n];have hc:n=0\/n=1\/n=2:=ae;obtain rfl|rfl|rfl:=hc<;>rfl
def PrR xb p len cap r w g(s nm c:Value)wr:=
 ∃(n:Nat)(l:List UInt8)(L:List UInt8)(A:Nat),g=3-n/\n<=3/\s=.string (bs l)/\c=Nv n/\MQ L l/\kE wr (w.heap.size+1) nm (EK L)/\L.length=n/\(∀c∈L,qE<|bu c)/\Src wr xb p len cap r A/\Bx wr w.heap.size agv.toArray/\Ke xb w wr/\w.heap.size+1<=wr.heap.size
def ae6 xb p len cap r w(e:Ending)w':=∃n l L,(1<=n/\n<=3)/\L.length=n/\e=.returned (.string<|bs l)/\MQ L l/\yj xb p len cap r w w'
def Bx.ke2{w}(h:Bx w b C)(hk:Ke rb w w')(hn:b≠rb):Bx w' b C:=h.same hk.size<|hk.block b h.z hn
def Ke.grow{xb}{a b c}(h:Ke xb a b)(g:b.grownBy c row)(hr:∀k,row=some k->a.heap.size<=k):Ke xb a c:=
 ⟨g.os.trans h.os,g.tape.trans h.tape,g.output.trans h.output,j8 h.size g.size,λk hk hn=>(g.block k (qe hk h.size) (λe=>by have:=hr k e.symm;omega)).trans<|h.block k hk hn⟩
def Bx.grow{w}(h:Bx w b C)(g:w.grownBy w' row)(hr:∀k,row=some k->b<k):Bx w' b C:=h.same g.size (g.block b h.z (λe=>by have:=hr b e.symm;omega))
def ano{p:Prop}(h:p:=by
 obtain y|y:=List.mem_append.1 hx
 .exact HN x y
 .rw[List.mem_singleton.1 y];exact NH n):p:=h
def ac3{A}(hS:Src w xb p len cap r A):Cq 5 #[Pv xb] w (ae6 xb p len cap r w):=by
 have hxz:=hS.b.z;have⟨cr,HB0⟩:=rq w agv.toArray 9;have HS0:=hS.af cr;have HK0:=Ke.of (rb:=xb) cr;go_enter func5,ntmps5
 go_wp2
 go_loopg[3,5,6] 3 (λg s nm c wr=>PrR xb p len cap r w g s nm c wr)
 case atStart=>exact⟨0,rJ,[],A,rfl,ae,rfl,rfl,MQ.zero,qk _ _ _ _,rfl,ag,HS0,HB0,HK0,ag⟩
 case round=>
  obtain⟨n,l,L,A1,rfl,hn,rfl,rfl,HM,HO,hL,HN,hs,HB,HK,hz⟩:=hrel;have HC:=yk hs 3 ae ae;have NI:=HM.len;go_wp2_with fail;refine HC.mono ?_;rintro e w2⟨q,rfl,q0,q1,A2,HS2,UD⟩;have uF:u5.ownBlock≠some xb:=λe=>by have:=fD HO xb e;omega
  have HK2:=HK.trans UD;have Ip:=EL HO UD uF;have eG:=HB.ke2 UD ae;have z2:=UD.size;by_cases hq:(n:Int)<=q
  .have hn3:(n:Int)<3:=ae;have alc:n<3:=ae;have HE:=YS 3 ae w2 A2 u5 L HS2 ⟨⟨_,Ip⟩,uF,HN⟩ ae;go_wp2_with fail;refine HE.mono ?_;rintro e w3⟨m,rfl,hm,A3,YT,ul⟩;have hmz:(bs m).size<=312:=by rw[dY];exact hm.2
   have hlz:=dY l;have HME:=ai hm.1;have HK3:=HK2.trans ul;have HO3:=EL Ip ul uF;have zQ:=eG.ke2 ul ae;have z3:=ul.size;have hc3:=agw zQ n alc;have h1z:=QJ<|sZ n;by_cases ai2:(330:Int)<((bs l).size:Int)+((bs m).size:Int)
   .go_wp2_with(at_builtin;refine lQ rfl (.tmp 39) (.tmp 44) rfl rfl (HO3.agx _) rfl (kE.new w3 [Sv<|bu<|sZ n] 0 (j9 _) ag 1 rfl) qAn (by simp[EK];omega) bF ?_;intro v4 w4 o4 g4);have hr4:=fD HO3;have k4:=(HK3.alloc<|Cv #[Sv<|bu<|sZ n] 9).grow g4<|λk e=>qBt;have s4:=hS.ke k4 ((YT.b.alloc<|Cv #[Sv<|bu<|sZ n] 9).grow g4<|λk e=>qBt) YT.a;have b4:=(zQ.alloc<|Cv #[Sv<|bu<|sZ n] 9).grow g4<|λk e=>qBt;have z4:=g4.size;rw[zR]at o4;go_roundg(3-(n+1))
    case rel=>
     refine⟨n+1,_,L++[sZ n],A3,rfl,ae,?_,jP,HM.next (NH n) nk.one<|qg rfl,o4,by simp[hL],λx hx=>?_,s4,b4,k4,by simp at z4;omega⟩
     .simp only[jE,<-kG];rfl
     .exact ano
    case measure=>omega
   .go_wp2_with(at_builtin;refine lQ rfl (.tmp 39) (.tmp 44) rfl rfl (HO3.agx _) rfl (kE.new w3 [Sv<|bu<|sZ n] 0 (j9 _) ag 1 rfl) qAn (by simp[EK];omega) bF ?_;intro v4 w4 o4 g4);have hr4:=fD HO3;have k4:=(HK3.alloc<|Cv #[Sv<|bu<|sZ n] 9).grow g4<|λk e=>qBt;have s4:=hS.ke k4 ((YT.b.alloc<|Cv #[Sv<|bu<|sZ n] 9).grow g4<|λk e=>qBt) YT.a;have b4:=(zQ.alloc<|Cv #[Sv<|bu<|sZ n] 9).grow g4<|λk e=>qBt;have z4:=g4.size;rw[zR]at o4;go_roundg(3-(n+1))
    case rel=>
     refine⟨n+1,_,L++[sZ n],A3,rfl,ae,?_,jP,HM.next (NH n) HME<|qh (by rw[dY]at ai2 hlz;rw[dY]at ai2;omega),o4,by simp[hL],λx hx=>?_,s4,b4,k4,by simp at z4;omega⟩
     .simp only[jE,<-kG];rfl
     .exact ano
    case measure=>omega
  .have hq':decide ((n:Int)<=q)=false:=by simpa using hq
   go_wp2
   go_ret;exact⟨n,l,L,⟨ae,hn⟩,hL,rfl,HM,A2,HS2,HK2⟩
end
end
end Go.Proofs.YtnldmeakhapdhaaGreatDoor
