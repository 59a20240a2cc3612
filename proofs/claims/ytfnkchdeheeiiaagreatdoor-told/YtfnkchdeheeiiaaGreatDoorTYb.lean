import Derived.Test.YtfnkchdeheeiiaaGreatDoorTPp
import Derived.Test.YtfnkchdeheeiiaaGreatDoorTOg
set_option linter.all false
set_option maxRecDepth 100000
set_option maxHeartbeats 10000000
namespace Go.Proofs.YtfnkchdeheeiiaaGreatDoor
open _root_.List renaming getElem_mem->ja,mem_cons_self->jc,getD_eq_getElem?_getD->jd,getElem?_eq_getElem->jf,take_succ_eq_append_getElem->jh,take_of_length_le->ji,getElem?_eq_none->jj,map_cons->jk,not_mem_nil->jl,nil_append->jm,mem_cons->jo,append_assoc->jp,cons_append->jq
open Pu renaming bH->jt,nC->ju,Tok->jv
open _root_.Nat renaming le_succ->jx,zero_le->jy,le_trans->jz,lt_of_lt_of_le->j3,lt_succ_self->j5,le_of_lt->j6,add_zero->j7,mul_one->j8
open Or renaming inr->j9,inl->qd
open Go.World renaming cell?_of_block->qe,ownsRow_nil->qf
open Go.Proofs.Tryz renaming prog->qg,results66->qh,underlying209->qi,underlying9->qk
open Go.RowKit.Below renaming refl->ql,heap_setCell->qm
open In renaming NW->qn,cy->qp,Mks->qr,B_->qs,kR->qt,inf->qu,St->qv,Ft->qw,gD->qx,cu->qy,H9->qz,FtF->q9
open Go.ByteArray renaming toList_eq->xc
open Un renaming written->xd
open Un.Ty renaming var->xf
open Go Go.RowKit Proofs.Tryz
variable {C:Array Value} {s st:BA} {lo:BA->Nat} {F:BA->Option Nat} {rc:Bool} {o:Except qw (Un.Ty×qv)} {g g1:fW} {Γ:In.Env} {z:qw} {mk:qr} {ρ:In.Rn} {s1:qv} {c:JC} {l:List Dc} {ds:List Nat} {L ms:List Nd} {r:List UInt8} {xs:List Value} {B a b base cap cb d f k lb len mb n nb rb t tb xb:Nat} {cq vr:Nat->Nat} {ly:Nat->Option Addr×Nat} {D Q S:Nat->Prop} {m x:Nd} {p:Option Addr} {row:Option Nat} {α β:Type} {dP:Un.Nx} {str:Un.rF} {A T:Un.Ty} {u v va vb vl:Value} {w w' w1 w2:World}
section
open Go.ChangeMaps
def u_ b(hB:Bx w b zF)f:
 CallsD qg 95 #[Pv b] (.panicking [{v:=NK f,recovered:=false}]) w λe u' w'=>
  e=.returned (.tuple #[])/\u'=.panicking [{v:=NK f,recovered:=true}]/\Bx w' b #[Nv f.kind,Nv f.al,Nv f.to]/\Below b w w':=by
 have hta:=J_;have B0:=ai hB;obtain⟨c,ff,z⟩:=hB;refine callsD_of_wpS Tryz.func95 rfl λdd cs hu=>?_;apply wpS_seq;apply wpS_region;simp[wpOpsS,go_sem,recoverD,hu,Tryz.ntmps95,Exit.thenS];rw[show(#[Pv b]++((Array.replicate 16 undef).setIfInBounds 3<|NK f).setIfInBounds 0 (NK f))=#[Pv b,NK f,undef,undef,NK f,undef,undef,undef,undef,undef,undef,undef,undef,undef,undef,undef,undef]from rfl];obtain⟨CS,Be⟩:∃CS:List Frame,CS=({fn:=dd.fn,tmps:=dd.tmps,todo:=dd.todo,defers:=dd.defers,mode:=FrameMode.panicking [{v:=NK f,recovered:=true}],kind:=dd.kind,roundOf:=dd.roundOf}::cs):=⟨_,rfl⟩;rw[<-Be];refine wpS_of_wp ?_;go_wp2_with fail;refine⟨rfl,_,Be,.tuple #[],by simp[results,Tryz.results95,go_sem],rfl,rfl,?_,?_⟩
 .exact((B0.dJ rfl _ _ _).alloc _)
 .exact((((ql b w).setCell (br _) _).setCell (br _) _).setCell (br _) _).alloc (by simp[World.setCell];omega) _
def ad_ b:
 CallsD qg 95 #[Pv b] .returning w λe u' w'=>
  e=.returned (.tuple #[])/\u'=.returning/\w'=w:=by
 refine callsD_of_wpS Tryz.func95 rfl λdd cs hu=>?_;apply wpS_seq;apply wpS_region;simp[wpOpsS,go_sem,recoverD,hu,Tryz.ntmps95,Exit.thenS];rw[show(#[Pv b]++((Array.replicate 16 undef).setIfInBounds 3 Zv).setIfInBounds 0 Zv)=#[Pv b,Zv,undef,undef,Zv,undef,undef,undef,undef,undef,undef,undef,undef,undef,undef,undef,undef]from rfl];have Be:dd::cs={dd with mode:=.returning}::cs:=(by cases dd;simp at hu;subst hu;rfl);refine wpS_of_wp ?_
 go_wp2
 exact⟨rfl,_,Be,.tuple #[],by simp[results,Tryz.results95,go_sem],rfl,rfl,rfl⟩
def OJ(T:List jv)l:aR T (Jr T l):=λk h=>by rw[Jr];rw[if_neg ae];rfl
def DA(hs:¬400<s.size){f}(h:fin (jt s 0) (cU (jt s 0) (fI (jt s 0) (jt s 0).length) (jt s 0).length [] 0)=.error f):bY s=.error f:=by
 unfold bY;rw[if_neg hs];have:=bU h<|λl=>OJ (jt s 0) l;unfold fin at this;split at this
 .rename_i e;cases this;rw[e]
 .rename_i a k e;split at this
  .rename_i h6;exfalso;have⟨l,j,_,h2⟩:=aw e;unfold Jr at h2;split at h2
   .cases h2;omega
   .cases h2
  .cases this
def abe(hs:¬400<s.size)(h:fin (jt s 0) (cU (jt s 0) (fI (jt s 0) (jt s 0).length) (jt s 0).length [] 0)=.ok (l,k)):bY s=if(tk (jt s 0) k).kind=7 then .ok l else .error (dc<|tk (jt s 0) k):=by grind[fin,cU,fI,bY,tk,dc,m7,Jr]
def o6 s w(e:Ending)w':=
 ∃u f,e=.returned (.tuple #[.agg #[u],jF f])/\Bq w w'/\match bY s with
  |.error f'=>f=f'/\u=.slice none 0 0|.ok l=>f=dx/\RowV QD 1 w' (λb=>w.heap.size<=b) l u
abbrev Vq:Array Value:=#[.slice none 0 0]
theorem La s(hs:400<s.size):Cq 66 #[.string s,.func (.func 67) #[] #[]] w (o6 s w):=by
 have h1:(400:Int)<(s.size:Int):=ae;have hp:Hid (bY s=.error ⟨1,0,0⟩):=by show _=_;simp[bY,hs]
 have B0:=(Bx.new w Vq 60).alloc<|Cv zF 30;have F0:Bx ((w.alloc<|Cv Vq 60).alloc<|Cv zF 30) (w.heap.size+1) zF:=by have:=Bx.new (w.alloc<|Cv Vq 60) zF 30;simpa using this
 obtain⟨c,f,z⟩:=B0;obtain⟨c',f',z'⟩:=F0
 go_enter_defers Tryz.func66,Tryz.ntmps66
 go_wp2_with fail;simp[bodyPostD,Leaves,settle,results,qh,go_sem];refine⟨_,⟨1,0,0⟩,rfl,(bw _).alloc ag _,?_⟩;rw[uh hp];exact⟨rfl,rfl⟩
theorem abg(h:Laid w)s(hs:¬400<s.size)(hT:(jt s 0).length<=1001):Calls qg 66 #[.string s,.func (.func 67) #[] #[]] w (o6 s w):=by
 have h1:decide ((400:Int)<(s.size:Int))=false:=bB;have iO:s.size<=1000:=ae;have hT0:0<(jt s 0).length:=by
  rw[jE s 0<|jy _];split<;>simp
 have B0:=(Bx.new w Vq 60).alloc<|Cv zF 30;have F0:Bx ((w.alloc<|Cv Vq 60).alloc<|Cv zF 30) (w.heap.size+1) zF:=by have:=Bx.new (w.alloc<|Cv Vq 60) zF 30;simpa using this
 have bN:Below w.heap.size w ((w.alloc<|Cv Vq 60).alloc<|Cv zF 30):=(bw _).alloc ag _;have nJ:((w.alloc<|Cv Vq 60).alloc<|Cv zF 30).heap.size=w.heap.size+2:=ag;have HL:=h.af bN
 go_enter_defers Tryz.func66,Tryz.ntmps66
 go_wp2_with fail;refine(wv HL s iO).mono ?_;intro e w1 hp;obtain⟨aea,hp⟩:=hp;rw[nJ]at hp;have B1:=B0.below aea;have F1:=F0.below aea;have dq:=bN.trans<|aea.mono bN.size;have et:=iW s 0 hT0;rw[show aE (jt s 0) 0=0 from rfl]at et;have z1:=aea.size;rw[nJ]at z1;obtain⟨h6,rfl,N,sb,m,X1,E1⟩|⟨h6,rfl⟩:=hp
 .rw[<-et]at X1 h6;have S1:SX w1 N (w.heap.size+2) sb m s 0:=⟨by rw[show aE (jt s 0) 0=0 from rfl];exact X1,E1,hT0,h6⟩;have HA:=Ux (n:=(jt s 0).length) iO hT S1 ae;have hrb:=S1.z;go_wp2_with fail;refine HA.mono ?_;intro e w2 hp
  cases hA:fin (jt s 0) (cU (jt s 0) (fI (jt s 0) (jt s 0).length) (jt s 0).length [] 0)with
  |error f=>
   obtain⟨rfl,K2⟩:=hp.bad hA;have cS:=K2.low dq dq.size ae;refine leaves_cons (f:=95) (args:=#[.pointer<|some ⟨w.heap.size+1,0,none⟩]) ag PS ?_;refine(u_ (w.heap.size+1) (F1.sG K2 ae)<|f).mono ?_;rintro e u' w9⟨rfl,rfl,hB,hb⟩;obtain⟨c9,_,_⟩:=hB;have P9:=(B1.sG K2 ae).same hb.size<|hb.block w.heap.size<|j5 _;obtain⟨d9,_,_⟩:=P9;simp[Leaves,settle,results,qh,go_sem,c9,d9];refine⟨_,f,rfl,cS.trans<|hb.mono<|jx _,?_⟩;rw[DA hs hA];exact⟨rfl,rfl⟩
  |ok r=>
  obtain⟨l,k⟩:=r;obtain⟨v,rfl,K2,S2,u,rfl,RV⟩:=hp.ok hA;have cS:=K2.low dq dq.size ae;have z2:=K2.size;have U6:=abe hs hA;have hk:=S2.lt;have ho:=eu s k hk;have hke:=JH ho S2.ok;have⟨mI,R3⟩:=nK w2 #[u] 60;have B3:=(B1.sG K2 ae).below mI;have F3:=(F1.sG K2 ae).below mI;have HS3:=S2.af mI;have nU:=cS.trans<|mI.mono cS.size;have RV3:RowV QD 1 (w2.alloc<|Cv #[u] 60) (λb=>w1.heap.size<=b/\b<w2.heap.size) l u:=RV.move bL mI.size (λb _ z=>mI.block b z)<|λb p z=>⟨p,z⟩;have z3:(w2.alloc<|Cv #[u] 60).heap.size=w2.heap.size+1:=ag;obtain⟨va,vc,cs,hu,_,_⟩:=RV;subst hu;have alM:=ai RV3;by_cases h7:(tk (jt s 0) k).kind=7
  .have t7:((aq<|tk (jt s 0) k).toList==nE.toList)=true:=by rw[show nE.toList=[116,104,101,32,101,110,100]from toList_mk _,hke];simp[h7]
   go_wp2_with fail;refine(iA HS3.rd iO (qG s k hk) nE t7).mono ?_;intro e w3 hp;obtain⟨rfl,K3,R4⟩:=hp.ok<|J' hk h7;have zk:=K3.size;have B4:=B3.sG K3 ae;have F4:=F3.sG K3 ae;have R5:=R3.sG K3 ae;have HBB:=K3.low nU nU.size ae;have alN:=alM.move bL K3.size (λb p z=>K3.block b z ae)<|λ_ p _=>p;have alO:=ai B4;have alP:=ai F4;obtain⟨c3,f3,y3⟩:=R5;obtain⟨c4,f4,y4⟩:=B4;obtain⟨c5,f5,y5⟩:=F4;go_wp2_with fail;have B6:=(((alO.aP 0 (Lv va l.length vc) #[Lv va l.length vc] rfl ag).bO (b2:=w.heap.size+1) ae 0 (.int .i64 0)).bO (b2:=w.heap.size+1) ae 1 (.int .i64 0)).bO (b2:=w.heap.size+1) ae 2 (.int .i64 0);have F6:=(alP.bO (b2:=w.heap.size) ae 0<|Lv va l.length vc).dJ rfl (.int .i64 0) (.int .i64 0) (.int .i64 0);have RV6:=((((alN.tX bL (b:=w.heap.size) (λc p=>ae) 0<|Lv va l.length vc).tX bL (b:=w.heap.size+1) (λc p=>ae) 0<|.int .i64 0).tX bL (b:=w.heap.size+1) (λc p=>ae) 1<|.int .i64 0).tX bL (b:=w.heap.size+1) (λc p=>ae) 2<|.int .i64 0).move bL (br _) (λ_ _ _=>rfl) (P':=λb=>w.heap.size<=b)<|λb p _=>ae
   have HB6:=(((HBB.setCell (p:=⟨w.heap.size,0,none⟩) (br _)<|Lv va l.length vc).setCell (p:=⟨w.heap.size+1,0,none⟩) (jx _)<|.int .i64 0).setCell (p:=⟨w.heap.size+1,1,none⟩) (jx _)<|.int .i64 0).setCell (p:=⟨w.heap.size+1,2,none⟩) (jx _)<|.int .i64 0;refine leaves_cons (f:=95) (args:=#[.pointer<|some ⟨w.heap.size+1,0,none⟩]) ag PS ?_;refine(ad_<|w.heap.size+1).mono ?_;rintro e u' w9⟨rfl,rfl,rfl⟩;obtain⟨c7,_,_⟩:=B6;obtain⟨c8,_,_⟩:=F6;simp[Leaves,settle,results,qh,go_sem,c7,c8];refine⟨_,dx,rfl,HB6,?_⟩;rw[U6,if_pos h7];exact⟨rfl,RV6⟩
  .have t7:((aq<|tk (jt s 0) k).toList==nE.toList)=false:=by rw[show nE.toList=[116,104,101,32,101,110,100]from toList_mk _,hke];simp[h7]
   go_wp2_with fail;refine(yd HS3.rd nE t7 HS3.ok).mono ?_;rintro e w3⟨rfl,K3⟩;have Bj:=K3.low nU nU.size ae;rw[if_neg h7]at U6;refine leaves_cons (f:=95) (args:=#[.pointer<|some ⟨w.heap.size+1,0,none⟩]) ag PS ?_;refine(u_ (w.heap.size+1) (F3.sG K3 ae)<|dc<|tk (jt s 0) k).mono ?_;rintro e u' w9⟨rfl,rfl,hB,hb⟩;obtain⟨c9,_,_⟩:=hB;have P9:=(B3.sG K3 ae).same hb.size<|hb.block w.heap.size<|j5 _;obtain⟨d9,_,_⟩:=P9;simp[Leaves,settle,results,qh,go_sem,c9,d9];refine⟨_,dc<|tk (jt s 0) k,rfl,Bj.trans<|hb.mono<|jx _,?_⟩;rw[U6];exact⟨rfl,rfl⟩
 .rw[<-et]at h6⊢;have iL:fin (jt s 0) (cU (jt s 0) (fI (jt s 0) (jt s 0).length) (jt s 0).length [] 0)=.error (dc<|tk (jt s 0) 0):=vZ _ _ _ _ 0 h6;refine leaves_cons (f:=95) (args:=#[.pointer<|some ⟨w.heap.size+1,0,none⟩]) ag PS ?_;refine(u_ (w.heap.size+1) F1<|dc<|tk (jt s 0) 0).mono ?_;rintro e u' w9⟨rfl,rfl,hB,hb⟩;obtain⟨c9,_,_⟩:=hB;have P9:=B1.same hb.size<|hb.block w.heap.size<|j5 _;obtain⟨d9,_,_⟩:=P9;simp[Leaves,settle,results,qh,go_sem,c9,d9];refine⟨_,dc<|tk (jt s 0) 0,rfl,dq.trans<|hb.mono<|jx _,?_⟩;rw[DA hs iL];exact⟨rfl,rfl⟩
def OK(h:Laid w)s:Cq 66 #[.string s,.func (.func 67) #[] #[]] w (o6 s w):=by grind[o6,La,abg,Ka]
def SK{p:Prop}(h:p:=by
 cases hr:bY s with
 |error f'=>rw[hr]at hp;exact⟨_,_,_,hp.2⟩|ok l=>rw[hr]at hp;obtain⟨va,vc,cs,e,_⟩:=hp.2;exact⟨_,_,_,e⟩):p:=h
def Vr(h:Laid w)s:Cq 41 #[.string s] w (o6 s w):=by
 have bN:Bq w ((w.alloc<|Cv Vq 60).alloc<|Cv zF 30):=(bw _).alloc ag _;have nJ:((w.alloc<|Cv Vq 60).alloc<|Cv zF 30).heap.size=w.heap.size+2:=ag;have B0:=(Bx.new w Vq 60).alloc<|Cv zF 30;have F0:Bx ((w.alloc<|Cv Vq 60).alloc<|Cv zF 30) (w.heap.size+1) zF:=(by have:=Bx.new (w.alloc<|Cv Vq 60) zF 30;simpa using this);have HC:=OK (h.af bN) s;go_enter func41,ntmps41;go_wp2_with fail;refine HC.mono ?_;rintro e w1⟨u,f,rfl,b_,hp⟩;have B1:=B0.below b_;have F1:=F0.below b_;have B2:=(((B1.aP 0 u #[u] rfl ag).bO (b2:=w.heap.size+1) ae 0 (Nv f.kind)).bO (b2:=w.heap.size+1) ae 1 (Nv f.al)).bO (b2:=w.heap.size+1) ae 2 (Nv f.to);have F2:=(F1.bO (b2:=w.heap.size) ae 0 u).dJ rfl (Nv f.kind) (Nv f.al) (Nv f.to);have cS:=((((bN.trans<|b_.mono bN.size).setCell (p:=⟨w.heap.size,0,none⟩) (br _) u).setCell (p:=⟨w.heap.size+1,0,none⟩) (Nat.le_succ _)<|Nv f.kind).setCell (p:=⟨w.heap.size+1,1,none⟩) (Nat.le_succ _)<|Nv f.al).setCell (p:=⟨w.heap.size+1,2,none⟩) (Nat.le_succ _)<|Nv f.to;obtain⟨va,vc,n,hu⟩:∃va vc n,u=Lv va n vc:=by
  exact SK
 subst hu;obtain⟨c1,f1,z1⟩:=B1;obtain⟨c2,f2,z2⟩:=F1;have Hp:=ai hp;rw[jF];go_wp2_with fail;obtain⟨c3,f3,z3⟩:=B2;obtain⟨c4,f4,z4⟩:=F2;refine bodyPost_ret (v:=.tuple #[Av #[Lv va n vc],jF f]) (by simp[results,Tryz.results41,go_sem,jF,c3,c4]) rfl ⟨Lv va n vc,f,rfl,cS,?_⟩;have hp:=uh Hp
 cases hr:bY s with
 |error f'=>rw[hr]at hp;exact hp|ok l=>
  rw[hr]at hp;rw[nJ]at hp;have q:∀c,w.heap.size+2<=c->c≠w.heap.size:=λc h=>ae;have q':∀c,w.heap.size+2<=c->c≠w.heap.size+1:=λc h=>ae;exact⟨hp.1,((((hp.2.tX bL (b:=w.heap.size) q 0 _).tX bL (b:=w.heap.size+1) q' 0 _).tX bL (b:=w.heap.size+1) q' 1 _).tX bL (b:=w.heap.size+1) q' 2 _).move bL (br _) (λ_ _ _=>rfl) (λb p _=>by have p':w.heap.size+2<=b:=p;show w.heap.size<=b;omega)⟩
end
section
open Go.ChangeMaps Go.MapKept
theorem abh(h:s.toList=39::r):(s.extract 1 s.size).toList=r:=by
 rw[xc]at h⊢;rw[ByteArray.data_extract];simp;rw[h];have:s.size=(39::r).length:=by rw[<-h];simp
 rw[this];simp
def aeb{t}(hs:∃r,s.toList=39::r)(ht:∃r,t.toList=39::r)(h:s.extract 1 s.size=t.extract 1 t.size):s=t:=by grind[abh,toList_inj]
def MY.up{own}(h:MY own F)(hs:∃r,s.toList=39::r)n:MY (own++[s]) (fS F (s.extract 1 s.size) n):=λx hx=>by
 have e:fU x (own++[s])=(fU x own||decide (s=x)):=by unfold fU;rw[List.any_append];simp only[List.any_cons,List.any_nil,Bool.or_false]
 rw[e];unfold fS;by_cases q:s=x
 .subst q;simp
 .rw[if_neg<|λe=>q<|aeb hs hx e.symm,h x hx];simp[q]
structure CD cb tb mb lb ob ty mk lo F w0 xb C f wr:Prop where
 d:CK wr cb tb mb lb ty mk lo f
 k:Fr (λb=>b=cb\/b=tb\/b=mb) w0 wr
 o:FM wr ob F
 b:Bx wr xb C
section
variable {ob:Nat} {ty mk F' mk':BA->Option Nat} {w0 wr:World} {f f':Fl}
def CD.af(h:CD cb tb mb lb ob ty mk lo F w0 xb C f wr)(hb:Bq wr w'):CD cb tb mb lb ob ty mk lo F w0 xb C f w':=⟨h.d.af hb,h.k.trans<|Fr.of hb,h.o.below hb,h.b.below hb⟩
def CD.ke(h:CD cb tb mb lb ob ty mk lo F w0 xb C f wr)(hk:Ke cb wr w')(d:CK w' cb tb mb lb ty mk lo f')(ho:ob≠cb)(hx:xb≠cb):CD cb tb mb lb ob ty mk lo F w0 xb C f' w':=
 ⟨d,h.k.trans ⟨hk.os,hk.tape,hk.output,hk.size,λb hb hn=>hk.block b hb<|λe=>hn<|qd e⟩,h.o.ke hk ho,h.b.sG hk hx⟩
def CD.alQ(h:CD cb tb mb lb ob ty mk lo F w0 xb C f wr)(o:One ob wr w')(m:FM w' ob F')(n:ob≠cb/\ob≠tb/\ob≠mb/\ob≠lb)(hz:w0.heap.size<=ob)(hx:xb≠ob):CD cb tb mb lb ob ty mk lo F' w0 xb C f w':=
 ⟨h.d.one o n,h.k.trans' (⟨o.os,o.tape,o.output,LB,λb _ hn=>o.block b hn⟩:Fr (λb=>b=ob) wr w')<|λb q=>j9 (by have q:b=ob:=q;omega),m,h.b.one o hx⟩
def CD.alR(h:CD cb tb mb lb ob ty mk lo F w0 xb C f wr)(o:One mb wr w')(m:FM w' mb mk')(ho:ob≠mb)(hx:xb≠mb):CD cb tb mb lb ob ty mk' lo F w0 xb C f w':=
 ⟨h.d.ajz o m,h.k.trans ⟨o.os,o.tape,o.output,LB,λb _ hn=>o.block b<|λe=>hn<|j9<|j9 e⟩,h.o.agG o ho,h.b.one o hx⟩
def Gg.of(h:FM w b F):Gg w (Mv b) F:=by grind[FM,Gg]
def PVR cb tb mb lb ob ty mk lo w0 xb C z(vs:List jv)(own:List BA)gk c wr:=∃(i:Nat)(F:BA->Option Nat),Hid (gk=vs.length-i)/\i<=vs.length/\c=Nv i/\CD cb tb mb lb ob ty mk lo F w0 xb C (Bz [] (vs.take i) z) wr/\MY (own.take i) F
def PMR cb tb mb lb ob ty mk lo F w0 xb C z(ms:List Nd)own gk c wr:=∃j:Nat,Hid (gk=ms.length-j)/\j<=ms.length/\c=Nv j/\CD cb tb mb lb ob ty (Ag fS ty own (ms.take j) (mk,z)).1 lo F w0 xb C (Ag fS ty own (ms.take j) (mk,z)).2 wr
def abj(u:V9)(ty:BA->Option Nat)(own:List BA):Nd->(BA->Option Nat)×Fl->(BA->Option Nat)×Fl
 |.mk _ s _ L _ _ a,q=>(u q.1 s L.length,gI ty own L<|bm (q.1 s).isSome 4 a (a+s.size) q.2)
def Lb(u:V9)(ty:BA->Option Nat)(own:List BA):∀(l:List Nd)(m:Nd)(q:(BA->Option Nat)×Fl),Ag u ty own (l++[m]) q=abj u ty own m (Ag u ty own l q)
 |[],.mk _ _ _ _ _ _ _,q=>rfl|.mk _ _ _ _ _ _ _::r,m,q=>Lb u ty own r m _
def Vs u ty own(ms:List Nd)q j(h:j<ms.length):Ag u ty own (ms.take<|j+1) q=abj u ty own ms[j] (Ag u ty own (ms.take j) q):=by
 rw[jh h,Lb]
def OL{t:jv}{vs}{vv vm}{x y}(h:CK w cb tb mb lb ty mk lo f)(hB:B<=cb)(hBt:B<=tb)(hBm:B<=mb)(Bw:B<=lb)(hv:RowV QName 3 w (·<B) vs vv)(hm:RowV QMaker 6 w (·<B) ms vm)(hvs:vs.length<=1000)(hms:∀m∈ms,Sm m)(Wp:ms.length<=1000):
 Cq 122 #[cp cb,.agg #[Iv x,Iv y,Nv t.al,Nv t.to,.string t.text,vv,vm]] w λe w'=>e=.returned (.tuple #[])/\Fr (λb=>b=cb\/b=tb\/b=mb) w w'/\CK w' cb tb mb lb (fS ty t.text vs.length) (Ag fS (fS ty t.text vs.length) (vs.map (·.text)) ms (mk,Bz [] vs<|bm (ty t.text).isSome 4 t.al t.to f)).1 lo (Ag fS (fS ty t.text vs.length) (vs.map (·.text)) ms (mk,Bz [] vs<|bm (ty t.text).isSome 4 t.al t.to f)).2:=by
 obtain⟨va,vc,cv,rfl,HVR,HVQ⟩:=hv;obtain⟨ma,mc,cm,rfl,HMR,hmq⟩:=hm;obtain⟨C,hC⟩:∃C:Array Value,Hid<|C=#[Iv x,Iv y,Nv t.al,Nv t.to,Sv t.text,Lv va vs.length vc,Lv ma ms.length mc]:=⟨_,ai rfl⟩;have iN:= @run_makeMap qg;have HMQ:=ai hmq;have⟨z1,z2,z3,z4⟩:=h.lts;have⟨cx,B1⟩:=sf w #[Iv x,Iv y,Nv t.al,Nv t.to,Sv t.text,Lv va vs.length vc,Lv ma ms.length mc] 137;have D1:=ai<|h.af cx;have F1:Hid (Fr (λb=>b=cb\/b=tb\/b=mb) w<|w.alloc<|Cv #[Iv x,Iv y,Nv t.al,Nv t.to,Sv t.text,Lv va vs.length vc,Lv ma ms.length mc] 137):=ai<|Fr.of cx;obtain⟨own,fP⟩:∃own,Hid (own=vs.map (·.text)):=⟨_,ai rfl⟩;have ho:own.length=vs.length:=by rw[uh fP];simp
 obtain⟨TY,hTY⟩:∃TY,Hid<|TY=fS ty t.text vs.length:=⟨_,ai rfl⟩;obtain⟨Q,HQ⟩:∃Q,Hid<|Q=Ag fS TY own ms (mk,Bz [] vs<|bm (ty t.text).isSome 4 t.al t.to f):=⟨_,ai rfl⟩;rw[<-uh fP,<-uh hTY,<-uh HQ];have zP:∀b,b<B->¬(b=cb\/b=tb\/b=mb):=λb hb q=>ae;have hct:=h.ct;have htc:tb≠cb:=λe=>h.ct e.symm;have hmc:mb≠cb:=λe=>h.cm e.symm;have⟨c1,f1,y1⟩:=uh B1;have⟨c2,f2,y2⟩:=D1.bx;clear h hmq cx;go_enter func122,ntmps122;go_wp2_with fail;go_cut[]from 9 (λwc=>CK wc cb tb mb lb TY mk lo (bm (ty t.text).isSome 4 t.al t.to f)/\Fr (λb=>b=cb\/b=tb\/b=mb) w wc/\Bx wc w.heap.size #[Iv x,Iv y,Nv t.al,Nv t.to,Sv t.text,Lv va vs.length vc,Lv ma ms.length mc])
 case first=>
  go_region_with(go_at_call 173;refine(uH (D1.af (ql _ _).drew) (D1.af (ql _ _).drew).t htc t.al t.to vs.length t.text).mono ?_;rintro e w3⟨rfl,w2,k2,d2,o2,m2⟩;have D3:=ai<|d2.ajy o2 m2;have F3:=ai ((F1.drew.trans (⟨k2.os,k2.tape,k2.output,k2.size,λb hb hn=>k2.block b hb<|λe=>hn<|qd e⟩:Fr (λb=>b=cb\/b=tb\/b=mb) _ _)).trans (⟨o2.os,o2.tape,o2.output,by rw[o2.size];exact br _,λb _ hn=>o2.block b<|λe=>hn<|j9<|qd e⟩:Fr (λb=>b=cb\/b=tb\/b=mb) _ _));have B3:=ai<|(B1.gL.sG k2 ae).one o2 ae;clear k2 d2 o2 m2)
  all_goals(
   go_wp2_with fail
   go_meet
   case rel=>exact⟨by rw[uh hTY];exact D3,F3,B3⟩)
 case rest=>
  obtain⟨D2,F2,B2⟩:=hcut;have hw2:=F2.size;clear D1 F1 B1 c1 f1 y1 c2 f2 y2;generalize bm (ty t.text).isSome 4 t.al t.to f=z1' at D2 HQ;have X3:Hid (CD cb tb mb lb wc.heap.size TY mk lo (λ_=>none) w w.heap.size #[Iv x,Iv y,Nv t.al,Nv t.to,Sv t.text,Lv va vs.length vc,Lv ma ms.length mc] z1'<|wc.alloc<|.map #[] 0):=ai ⟨D2.af<|bw _,F2.trans<|Fr.of<|bw _,⟨[],MS.new _ wc,λx=>rfl⟩,B2.alloc _⟩;have⟨zc1,zc2,zc3,zc4⟩:=D2.lts;have zB:=B2.z;have JW:wc.heap.size≠cb/\wc.heap.size≠tb/\wc.heap.size≠mb/\wc.heap.size≠lb:=⟨ae,ae,ae,ae⟩;have hxo:w.heap.size≠wc.heap.size:=ae;have⟨c1,f1,y1⟩:=X3.b;clear D2 F2 B2;go_wp2_with fail;clear c1 f1 y1;go_loopg[24] vs.length (λgk c wr=>PVR cb tb mb lb wc.heap.size TY mk lo w w.heap.size #[Iv x,Iv y,Nv t.al,Nv t.to,Sv t.text,Lv va vs.length vc,Lv ma ms.length mc] z1' vs own gk c wr)
  case atStart=>exact⟨0,_,ai rfl,jy _,rfl,X3,λs _=>by simp[fU]⟩
  case round=>
   clear X3;obtain⟨i,F,cR,hi,rfl,hX,hO⟩:=hrel;have XR:=ai hX;have HO:=ai hO;have hsw:=hX.k.size;clear hX hO;have⟨c1,f1,y1⟩:=XR.b;by_cases bq:i<vs.length
   .have hd:(i:Int)<(vs.length:Int):=ae;obtain⟨g,rfl,Yo,hg,pi⟩:∃g,va=some ⟨g,0,none⟩/\g<B/\g<w.heap.size/\∀i,i<vs.length->∀j,j<3->w.cell? ⟨g,i*3+j,none⟩=some (cv i j):=by
     obtain e|e:=HVR
     .exact absurd bq Mm
     .exact e
    have l8:∀o,wr.cell? ⟨g,o,none⟩=w.cell? ⟨g,o,none⟩:=λo=>qe (a:=⟨g,o,none⟩)<|XR.k.block g hg<|zP g Yo;have d0:=(l8 _).trans<|pi i bq 0 ae;have d1:=(l8 _).trans<|pi i bq 1 ae;have d2:=(l8 _).trans<|pi i bq 2 ae;have⟨e0,e1,e2,e3,e4⟩:=HVQ i bq;rw[e0]at d0;rw[e1]at d1;rw[e2]at d2;simp only[j7]at d0;have Gi:=ai<|Yu vs z1' i bq;rw[<-uh fP]at Gi;have HOS:=HO vs[i].text e3
    have HOU:=ai (show MY (own.take<|i+1) (fS F (vs[i].text.extract 1 vs[i].text.size) 0) by
     have qQ:i<own.length:=ae;have eo:own[i]=vs[i].text:=by simp[uh fP]
     rw[jh qQ,eo]
     exact HO.up e3 0)
    generalize Bz [] (vs.take i) z1'=zi at XR Gi;generalize vs[i]=v at d0 d1 d2 Gi HOS HOU;have⟨cx,BA⟩:=sf wr #[Nv v.al,Nv v.to,Sv<|v.text.extract 1 v.text.size] 133;have XA:=ai<|XR.af cx;have HC:=ai<|uH XA.d XA.o JW.1 v.al v.to 0<|v.text.extract 1 v.text.size;rw[HOS,<-uh Gi]at HC;have⟨c2,f2,y2⟩:=uh BA;clear cx e0 e1 e2 e3 e4 l8 pi;go_wp2_with fail;refine HC.mono ?_;rintro e w3⟨rfl,w2,k2,dd2,o2,m2⟩;have X5:=(XA.ke k2 dd2 JW.1 ae).alQ o2 m2 JW ae hxo;clear k2 dd2 o2 m2 HC
    go_wp2
    go_roundg(vs.length-(i+1))
    case measure=>rw[uh cR];omega
    case rel=>exact⟨i+1,_,ai rfl,ae,iK,X5,HOU⟩
   .have hd:decide ((i:Int)<(vs.length:Int))=false:=bB;have he:vs.take i=vs:=ji ae;have he2:own.take i=own:=ji ae;rw[he]at XR;rw[he2]at HO;generalize Bz [] vs z1'=z2' at XR HQ;go_wp2_with fail;clear c1 f1 y1;go_loopg[36] ms.length (λgk c wr=>PMR cb tb mb lb wc.heap.size TY mk lo F w w.heap.size #[Iv x,Iv y,Nv t.al,Nv t.to,Sv t.text,Lv va vs.length vc,Lv ma ms.length mc] z2' ms own gk c wr)
    case atStart=>exact⟨0,ai rfl,jy _,rfl,XR⟩
    case round=>
     clear XR;obtain⟨j,hgj,hj,rfl,hX⟩:=hrel;have XJ:=ai hX;have hsj:=hX.k.size;clear hX;have⟨c1,f1,y1⟩:=XJ.b;by_cases hlj:j<ms.length
     .have hd':(j:Int)<(ms.length:Int):=ae;obtain⟨g,rfl,Yo,hg,pi⟩:∃g,ma=some ⟨g,0,none⟩/\g<B/\g<w.heap.size/\∀i,i<ms.length->∀j,j<6->w.cell? ⟨g,i*6+j,none⟩=some (cm i j):=by
       obtain e|e:=HMR
       .exact absurd hlj Mm
       .exact e
      have l8:∀o,wr.cell? ⟨g,o,none⟩=w.cell? ⟨g,o,none⟩:=λo=>qe (a:=⟨g,o,none⟩)<|XJ.k.block g hg<|zP g Yo;have d0:=(l8 _).trans<|pi j hlj 0 ae;have d1:=(l8 _).trans<|pi j hlj 1 ae;have d2:=(l8 _).trans<|pi j hlj 2 ae;have d3:=(l8 _).trans<|pi j hlj 3 ae;have d4:=(l8 _).trans<|pi j hlj 4 ae;have d5:=(l8 _).trans<|pi j hlj 5 ae;obtain⟨ss,nn',L,mf,mt,aa,yy,vt,e0,q0,q1,q2,q3,q4,q5,hu,hyy,ta,tc,ct,rfl,htr,HTQ⟩:=uh HMQ j hlj;rw[q0]at d0;rw[q1]at d1;rw[q2]at d2;rw[q3]at d3;rw[q4]at d4;rw[q5]at d5;simp only[j7]at d0;have HSM:=ai (show Sm (.mk 2 ss nn' L mf mt aa) by rw[<-e0];exact hms _<|ja hlj);have⟨hLl,hf4,ha4,hs4⟩:=HSM.len;have Gi:=ai<|Vs fS TY own ms (mk,z2') j hlj;rw[e0]at Gi;rw[abj]at Gi;generalize Ag fS TY own (ms.take j) (mk,z2')=qj at XJ Gi;obtain⟨mkj,zj⟩:=qj;simp only at Gi XJ;have HYY:=ai hyy;have HTR:=ai htr;have⟨cx,BA⟩:=sf wr #[Nv mf,Nv mt,Nv aa,Nv yy,Sv ss,Lv ta L.length tc] 286;have XA:=ai<|XJ.af cx;have⟨zr1,zr2,zr3,zr4⟩:=XJ.d.lts;have zro:=XJ.o.lt;have zrx:=XJ.b.z;have⟨c2,f2,y2⟩:=uh BA;have⟨c3,f3,y3⟩:=XA.d.bx;clear cx q0 q1 q2 q3 q4 q5 l8 pi hyy htr e0 XJ c1 f1 y1;go_wp2_with fail
      go_cut[]from 37 to 56 (λwd=>CD cb tb mb lb wc.heap.size TY (fS mkj ss L.length) lo F w w.heap.size #[Iv x,Iv y,Nv t.al,Nv t.to,Sv t.text,Lv va vs.length vc,Lv (some ⟨g,0,none⟩) ms.length mc] (bm (mkj ss).isSome 4 aa (aa+ss.size) zj) wd/\Bx wd wr.heap.size #[Nv mf,Nv mt,Nv aa,Nv yy,Sv ss,Lv ta L.length tc])
      case first=>
       go_region_with(go_at_call 173;refine(uH (XA.af (ql _ _).drew).d (XA.af (ql _ _).drew).d.m hmc aa yy L.length ss).mono ?_;rintro e w3⟨rfl,w2,k2,dd2,o2,m2⟩;have X3:=ai<|((XA.af (ql _ _).drew).ke k2 dd2 JW.1 ae).alR o2 m2 JW.2.2.1 ae;have B3:=ai<|(BA.gL.sG k2 ae).one o2 ae;clear k2 dd2 o2 m2)
       all_goals(
        go_wp2_with fail
        go_meet
        case rel=>exact⟨by rw[<-uh HYY];exact X3,B3⟩)
      case rest=>
       obtain⟨X4,B4⟩:=hcut;clear XA BA c2 f2 y2 c3 f3 y3;generalize bm (mkj ss).isSome 4 aa (aa+ss.size) zj=zt at X4 Gi;obtain⟨c2,f2,y2⟩:=B4
       have HC:=ai (CG (sa:=ta) (sc:=tc) (vs:=λi=>ct i 0) (own:=own) (λx _=>IQ x) X4.d hB (by
        obtain q|⟨g',e,q1,q2,q3⟩:=uh HTR
        .exact qd q
        .refine j9 ⟨g',e,q1,j3 q2 X4.k.size,λi hi=>?_⟩;have:=q3 i hi 0 ae;rw[j8,j7]at this
         exact(qe (a:=⟨g',i,none⟩)<|X4.k.block g' q2<|zP g' q1).trans this) (λi hi=>(HTQ i hi:PT w (·<B) L[i] (ct i 0)).Qy X4.k zP) (Gg.of X4.o) (λb q=>by cases q;exact JW.1) HO HSM.part hLl)
       go_wp2_with fail;refine HC.mono ?_;rintro e w5⟨rfl,k5,d5'⟩;have X5:=X4.ke k5 d5' JW.1 ae;clear k5 d5' HC
       go_wp2
       go_roundg(ms.length-(j+1))
       case measure=>rw[uh hgj];omega
       case rel=>exact⟨j+1,ai rfl,ae,iK,by rw[uh Gi];exact X5⟩
     .have hd':decide ((j:Int)<(ms.length:Int))=false:=bB;have he3:ms.take j=ms:=ji ae;rw[he3,<-uh HQ]at XJ
      go_wp2
      go_end0;exact⟨rfl,XJ.k,XJ.d⟩
end
def Fr.wide{T}{a b}(h:Fr S a b)(hS:∀x,S x->T x):Fr T a b:=⟨h.os,h.tape,h.output,h.size,λk hk hn=>h.block k hk<|λq=>hn<|hS k q⟩
section
variable {e0:SE}
def ahT:fS (fS (fS (λ_=>none) qL 0) jL 0) iM 0=ty0:=by grind[fS,ty0]
def FK:Cq 92 #[] w λe w'=>∃cb tb mb lb,e=.returned (cp cb)/\Bq w w'/\(w.heap.size<=cb/\w.heap.size<=tb/\w.heap.size<=mb/\w.heap.size<=lb)/\CK w' cb tb mb lb ty0 (λ_=>none) (λ_=>0) dx:=by
 have iN:= @run_makeMap Tryz.prog;have H:=MS.new Sv w;have HF:∀x,aX x ([]:List (BA×Value))=((λ_=>none:BA->Option Nat) x).map λ(n:Nat)=>Nv n:=(λx=>rfl);have HB:=(Below.refl w.heap.size w).alloc (br _)<|.map #[] 0;have HZ:(w.alloc<|.map #[] 0).heap.size=w.heap.size+1:=ag;go_enter func92,ntmps92
 go_wp2_with(first
  |(refine aT _ rfl _ _ _ _ (qd rfl) (KL.str qk) qi _ _ rfl H qL (.int .i64 ((0:Nat):Int)) rfl rfl trivial (λ_ _=>trivial) ?_;intro w1 H' O';have H1:=ai H';have Bp:=ai<|FM.put HF qL 0;have dq:=ai<|One.below HB O'<|br _;have HZ1:=ai<|O'.size.trans HZ;clear H' O' H HF HB HZ)|(refine aT _ rfl _ _ _ _ (qd rfl) (KL.str qk) qi _ _ rfl H1 jL (.int .i64 ((0:Nat):Int)) rfl rfl trivial (λ_ _=>trivial) ?_;intro w2 H' O';have H2:=ai H';have xF:=ai<|FM.put Bp jL 0;have cS:=ai<|One.below dq O'<|br _;have HZ2:=ai<|O'.size.trans HZ1;clear H' O' H1 Bp dq HZ1)|(refine aT _ rfl _ _ _ _ (qd rfl) (KL.str qk) qi _ _ rfl H2 iM (.int .i64 ((0:Nat):Int)) rfl rfl trivial (λ_ _=>trivial) ?_;intro w3 H' O';have H3:=ai H';have HF3:=ai<|FM.put xF iM 0;have nU:=ai<|One.below cS O'<|br _;have HZ3:=ai<|O'.size.trans HZ2;clear H' O' H2 xF cS HZ2))
 go_ret;have z3:=uh HZ3;have b4:Bq w3 (((w3.alloc<|.map #[] 0).alloc<|.map #[] 0).alloc<|Cv #[Mv w.heap.size,Mv w3.heap.size,Mv<|w3.heap.size+1,Iv 0,Iv 0,Iv 0] 211):=((bw _).alloc ag _).alloc bB _;have m1:MS Sv (((w3.alloc<|.map #[] 0).alloc<|.map #[] 0).alloc<|Cv #[Mv w.heap.size,Mv w3.heap.size,Mv<|w3.heap.size+1,Iv 0,Iv 0,Iv 0] 211) w3.heap.size []:=((MS.new Sv w3).below<|bw _).below<|bw _;have m2:MS Sv (((w3.alloc<|.map #[] 0).alloc<|.map #[] 0).alloc<|Cv #[Mv w.heap.size,Mv w3.heap.size,Mv<|w3.heap.size+1,Iv 0,Iv 0,Iv 0] 211) (w3.heap.size+1) []:=by
  have:=(MS.new Sv<|w3.alloc<|.map #[] 0).below<|bw<|Cv #[Mv w.heap.size,Mv w3.heap.size,Mv<|w3.heap.size+1,Iv 0,Iv 0,Iv 0] 211;simpa using this
 have bx:Bx (((w3.alloc<|.map #[] 0).alloc<|.map #[] 0).alloc<|Cv #[Mv w.heap.size,Mv w3.heap.size,Mv<|w3.heap.size+1,Iv 0,Iv 0,Iv 0] 211) (w3.heap.size+1+1) #[Mv w.heap.size,Mv w3.heap.size,Mv<|w3.heap.size+1,Iv 0,Iv 0,Iv 0]:=by
  have:=Bx.new ((w3.alloc<|.map #[] 0).alloc<|.map #[] 0) #[Mv w.heap.size,Mv w3.heap.size,Mv<|w3.heap.size+1,Iv 0,Iv 0,Iv 0] 211;simpa using this
 have ft:=uh HF3;rw[ahT]at ft;refine⟨w3.heap.size+1+1,w.heap.size,w3.heap.size,w3.heap.size+1,rfl,nU.trans<|b4.mono ae,⟨ae,ae,ae,ae⟩,bx,⟨_,H3.below b4,ft⟩,⟨_,m1,λx=>rfl⟩,⟨_,m2,λx=>j9 ⟨rfl,rfl⟩⟩,ae,ae,ae,ae,ae,ae⟩
def DSo:Dc->Prop
 |.ty _ vs ms=>vs.length<=1000/\(∀m∈ms,Sm m)/\ms.length<=1000|.lt _ _ b=>Sm b/\nn b<=1000
def DeP(cb tb mb lb B:Nat)d e0(lo:BA->Nat)w(e:Ending)w':=e=.returned (.tuple #[])/\∃Yp,CK w' cb tb mb lb (V_ fS d e0).ty (V_ fS d e0).mks Yp (V_ fS d e0).f/\LO Yp (V_ fS d e0).nm/\(∀x,Yp x<=lo x+1)/\Fr (λb=>b=cb\/b=tb\/b=mb\/b=lb) w w'
def LO.put{l}(h:LO lo l)s:LO (λx=>if x=s then lo s+1 else lo x) (l++[s]):=by grind[LO]
def ahU{d}(h:CK w cb tb mb lb e0.ty e0.mks lo e0.f)(hl:LO lo e0.nm)(hB:B<=cb)(hBt:B<=tb)(hBm:B<=mb)(Bw:B<=lb)(hx:PD w (·<B) d v)(hs:DSo d)(qQ:∀x,lo x<=2000):
 Cq 93 #[cp cb,v] w (DeP cb tb mb lb B d e0 lo w):=by
 have⟨z1,z2,z3,z4⟩:=h.lts
 cases d with
 |ty t vs ms=>
  obtain⟨x,u,vv,vm,rfl,hu,ht,hv,hm0,hm⟩:=hx;have HV:=hv.move df (br _) (λ_ _ _=>rfl)<|λ_ p _=>p;have HM:=hm.move bV (br _) (λ_ _ _=>rfl)<|λ_ p _=>p;obtain⟨va,vc,cv,rfl,-⟩:=hv;obtain⟨ma,mc,cm,rfl,-⟩:=hm;have⟨cx,B1⟩:=sf w #[Iv x,Iv u,Nv t.al,Nv t.to,Sv t.text,Lv va vs.length vc,Lv ma ms.length mc] 137;have HC:=ai<|OL (t:=t) (x:=x) (y:=u) (h.af cx) hB hBt hBm Bw (HV.move df cx.size (λb _ z=>cx.block b z)<|λ_ p _=>p) (HM.move bV cx.size (λb _ z=>cx.block b z)<|λ_ p _=>p) hs.1 hs.2.1 hs.2.2;have HB:=ai cx;have⟨c1,f1,y1⟩:=uh B1;clear h cx HV HM hs ht hu;go_enter func93,ntmps93;go_wp2_with fail;refine HC.mono ?_;rintro e w2⟨rfl,K2,D2⟩;clear HC
  go_wp2
  go_end0;exact⟨rfl,lo,D2,hl,λx=>jx _,(Fr.of HB).trans' K2<|λb q=>qd (by obtain q|q|q:=q;exact qd q;exact j9<|qd q;exact j9<|j9<|qd q)⟩
 |lt r t b=>
  obtain⟨x,u,vb,rfl,hu,ht,hb⟩:=hx;obtain⟨u1,x1,rfl⟩:=hb.iface;have⟨cx,B1⟩:=sf w #[Iv x,Iv u,.bool r,Nv t.al,Nv t.to,Sv t.text,Fv u1<|Av x1] 144;have X1:CE cb tb mb lb e0.ty e0.mks lo w e0.f (w.alloc<|Cv #[Iv x,Iv u,.bool r,Nv t.al,Nv t.to,Sv t.text,Fv u1<|Av x1] 144):=⟨h.af cx,Fr.of cx⟩;have HC:=ai (QV (l:=e0.nm) (agE b) (h.af cx) hB Bw (hb.af cx) hl (λx=>by have:=qQ x;have:=hs.2;omega) hs.1 r (t.al:Int) (t.to:Int) t.text);have⟨c1,f1,y1⟩:=uh B1;clear h cx hb hs ht hu;go_enter func93,ntmps93;go_wp2_with fail;refine HC.mono ?_;rintro e w2⟨rfl,k2,d2⟩;have X2:=X1.fr k2 d2;have B2:=B1.fr k2<|λq=>ae;clear k2 d2 HC c1 f1 y1;obtain⟨N,hN⟩:∃N,Hid<|N=lo t.text:=⟨_,ai rfl⟩;have X3:=X2.af (Below.refl _ _).drew;have xQ:=X3.d.l.look t.text;rw[<-uh hN]at xQ;have⟨L,hM,HLL⟩:=X3.d.l;have⟨o,amC,Bc⟩:=hM.put (KL.str Tryz.underlying9) Tryz.underlying209 t.text (Iv<|(N:Int)+1) trivial<|λ_ _=>trivial;have hN7:(N:Int)<=3000:=by have:=qQ t.text;have:=uh hN;omega
  obtain⟨c1,f1,y1⟩:=B2;have⟨c2,f2,y2⟩:=X2.d.bx;clear hM
  go_wp2
  go_region
  all_goals(
   go_wp2
   go_end0;have hv:(Iv<|(N:Int)+1)=.int .i64 ((N+1:Nat):Int):=rfl;have M3:=Bc;rw[hv]at M3;have X5:=X3.put (One.set w2.drew lb o) M3<|LM.put HLL t.text<|N+1;rw[uh hN]at X5
   exact⟨rfl,_,X5.d,hl.put t.text,λy=>by show(if y=t.text then lo t.text+1 else lo y)<=lo y+1;split;rename_i e;rw[e];exact br _;exact jx _,X5.k.wide (λb q=>by obtain q|q:=q;exact qd q;exact j9<|j9<|j9 q)⟩)
end
end
section
open Un
def sS.mem{n:Nat}:∀{l:List Nd},sS n l->∀x∈l,Bi n x
 |[],_,x,hx=>by simp at hx|y::l,h,x,hx=>by
  obtain e|e:=List.mem_cons.1 hx
  .subst e;exact h.1
  .exact sS.mem h.2 x e
def abk:Nd->Nat
 |.mk k _ _ _ _ _ _=>k
def TkP n(t:jv):=t.al<t.to/\t.to<=n
def GeZ:Dc->Prop
 |.ty _ _ ms=>∀m∈ms,Ge 0 m|.lt _ _ b=>Ge 0 b
def PlD(n:Nat):Dc->Prop
 |.ty t vs ms=>TkP n t/\(∀v∈vs,TkP n v)/\∀m∈ms,Bi n m/\abk m=2|.lt _ t b=>TkP n t/\Bi n b
def AX(s:BA):∀f i,(∀(j:Nat)(h:j+1<(ju s f i).length),i<=((ju s f i)[j]).al/\((ju s f i)[j]).al<((ju s f i)[j]).to/\((ju s f i)[j]).to<=s.size/\((ju s f i)[j]).to=((ju s f i)[j]).al+((ju s f i)[j]).text.size)/\∀(j k:Nat)(hjk:j<k)(h:k+1<(ju s f i).length),((ju s f i)[j]).to<=((ju s f i)[k]).al
 |0,i=>⟨λj h=>by simp[ju]at h,λj k _ h=>by simp[ju]at h⟩|f+1,i=>by
  unfold ju;by_cases hi:i<s.size
  .by_cases hb:Pu.dr (Pu.at_ s i)=true
   .simp only[hi,hb,if_true];have⟨h1,h2⟩:=AX s f<|i+1;exact⟨λj h=>⟨by have:=(h1 j h).1;omega,(h1 j h).2⟩,h2⟩
   .simp only[hi,hb,if_true,if_false];have⟨h1,h2⟩:=AX s f (Pu.cI s i).to;have ht:=Pu.lX s i hi;have hf:=Pu.Cz s i;have Ww:=JI s i hi;refine⟨λj h=>?_,λj k hjk h=>?_⟩
    .cases j with
     |zero=>exact⟨by simp[hf],by simp[hf];exact ht.1,by simp;exact ht.2,by simpa using Ww⟩|succ j=>
      have q:=h1 j Bm;exact⟨by have:=q.1;show i<=_;exact jz ae q.1,q.2⟩
    .cases k with
     |zero=>omega|succ k=>
      cases j with
      |zero=>simpa using(h1 k Bm).1|succ j=>simpa using h2 j k ae Bm
  .simp only[hi,if_false];exact⟨λj h=>tW,λj k _ h=>tW⟩
def aec(s:BA)(hs:s.size<=400):rf (jt s 0) ((jt s 0).length-1) s.size:=by
 have⟨l,hl,_⟩:=kZ s (s.size-0) 0;have e:jt s 0=l++[Pu.dL s]:=hl;have⟨h1,h2⟩:=AX s (s.size-0) 0;have h1:∀(j:Nat)(h:j+1<(jt s 0).length),0<=((jt s 0)[j]).al/\((jt s 0)[j]).al<((jt s 0)[j]).to/\((jt s 0)[j]).to<=s.size/\((jt s 0)[j]).to=((jt s 0)[j]).al+((jt s 0)[j]).text.size:=h1;have h2:∀(j k:Nat)(hjk:j<k)(h:k+1<(jt s 0).length),((jt s 0)[j]).to<=((jt s 0)[k]).al:=h2;have a:∀j,j<(jt s 0).length-1->(tk (jt s 0) j).al<(tk (jt s 0) j).to/\(tk (jt s 0) j).to<=s.size/\(tk (jt s 0) j).to=(tk (jt s 0) j).al+(tk (jt s 0) j).text.size:=λj hj=>by
  rw[<-IB (T:=jt s 0) (k:=j) ae];exact(h1 j ae).2
 have b:∀i j,i<j->j<(jt s 0).length-1->(tk (jt s 0) i).to<=(tk (jt s 0) j).al:=λi j hij hj=>by
  rw[<-IB (T:=jt s 0) (k:=i) ae,<-IB (T:=jt s 0) (k:=j) ae];exact h2 i j hij ae
 have c:∀j,(jt s 0).length-1<=j->(tk (jt s 0) j).al=if j=(jt s 0).length-1 then s.size else 0:=λj hj=>by
  rw[tk];rw[jd];split
  .rename_i q;rw[q,e];simp[Pu.dL]
  .rw[jj ae];rfl
 refine⟨(oK s hs).1,λi=>?_,λi j h1 h2=>?_,a,b⟩
 .by_cases q:i<(jt s 0).length-1
  .have:=a i q;omega
  .rw[c i ae];split<;>omega
 .by_cases q:i=j
  .rw[q];exact br _
  .have x:=a i ae;by_cases z:j<(jt s 0).length-1
   .have:=b i j ae z;omega
   .rw[c j ae,if_pos ae];omega
section
variable {T:List jv} {e:Nat}
theorem rf.tk(h:rf T e n)(hk:k<e):TkP n (Go.Proofs.YtfnkchdeheeiiaaGreatDoor.tk T k):=⟨(h.lt k hk).1,(h.lt k hk).2.1⟩
def BdD.pos(h:rf T e n){k j:Nat}{b:Nat×jv×Nd}(q:BdD T e k b j):TkP n b.2.1/\Bi n b.2.2/\Ge 0 b.2.2:=by
 have:=q.le;obtain⟨_,e2,_,e4⟩|⟨_,e2,_,e4⟩:=q<;>rw[e2]<;>exact⟨h.tk ae,(e4.pos h).2.1,(e4.pos h).1.mono<|jy _⟩
def Zt.pos(h:rf T e n){k j:Nat}{d:Dc}(q:Zt T e k j d):PlD n d/\GeZ d:=by
 cases q with
 |ty t1 v m h1 h2=>
  have:=m.le;exact⟨⟨h.tk ae,λx hx=>(by obtain⟨_,q,hq,rfl⟩:=v x hx;exact h.tk hq),m.all λ_ _ _ _ _ d=>⟨(d.pos h).2.1,by obtain⟨_,_,_,_,_,rfl,_⟩:=d.shp h.g;rfl⟩⟩,m.all λ_ _ _ _ _ d=>(d.pos h).1.mono<|jy _⟩
 |lt b hj=>have:=b.pos h;exact⟨⟨this.1,this.2.1⟩,this.2.2⟩
end
def DB(h:bY s=.ok l):∀d∈l,PlD s.size d/\GeZ d:=by
 have hs:¬400<s.size:=λq=>by simp[bY,q]at h
 have q:=EH hs;rw[h]at q;obtain⟨j,q⟩:=q;exact q.all λ_ _ _ d=>d.pos<|aec s ae
def abl(h:bY s=.ok l):∀d∈l,PlD s.size d:=λd hd=>(DB h d hd).1
def Lc(u:V9):∀(l m:List Dc)(e:SE),fC u (l++m) e=fC u m (fC u l e)
 |[],_,_=>rfl|d::r,m,e=>Lc u r m _
def Vt u(l:List Dc)e i(h:i<l.length):fC u (l.take<|i+1) e=V_ u l[i] (fC u (l.take i) e):=by
 rw[jh h,Lc];rfl
def DSm:Dc->Prop
 |.ty _ vs ms=>vs.length<=1000/\∀m∈ms,Sm m|.lt _ _ b=>Sm b/\iE b
def ahV(h:m∈ms):nn m<=b8 ms:=sF h
def FQ:∀{l:List Dc}{d:Dc},d∈l->LU d<=Jp l
 |x::r,d,h=>by
  simp only[Jp,jk,List.sum_cons];obtain rfl|q:=List.mem_cons.1 h
  .omega
  .have:=FQ q;simp only[Jp]at this;omega
def abm(h:bY s=.ok l):(∀d∈l,DSm d)/\Jp l<=802:=by
 have hs:¬400<s.size:=λq=>by simp[bY,q]at h
 have hg:=pJ hs;rw[h]at hg;refine⟨λd hd=>?_,hg.2⟩;have h1:=(DB h d hd).2;have h2:=FQ hd;have h3:=hg.1 d hd;have h4:=hg.2
 cases d with
 |ty t vs ms=>
  simp only[LU]at h2;exact⟨ae,λm hm=>⟨h1 m hm,by have:=ahV hm;omega⟩⟩
 |lt r t b=>
  simp only[LU]at h2;exact⟨⟨h1,ae⟩,h3.2.2.1⟩
end
section
open Go.ChangeMaps Go.MapKept
def Ld(h:bY s=.ok l):(∀d∈l,DSo d)/\l.length<=802:=by
 have⟨h1,h2⟩:=abm h;refine⟨λd hd=>?_,?_⟩
 .have h3:=h1 d hd;have h4:=FQ hd
  cases d with
  |ty t vs ms=>
   simp only[LU]at h4;have:=mU ms;exact⟨h3.1,h3.2,ae⟩
  |lt r t b=>exact⟨h3.1,h3.1.2⟩
 .have:∀l:List Dc,l.length<=Jp l:=λl=>by
   induction l with
   |nil=>simp[Jp]|cons d r ih=>
    simp only[Jp,jk,List.sum_cons,pk]at ih⊢;have:1<=LU d:=by cases d<;>simp[LU]<;>omega
    omega
  exact jz (this l) h2
def FAR w0 cb tb mb lb(l:List Dc)gk c wr:=∃(j:Nat)(lo:BA->Nat),Hid (gk=l.length-j)/\j<=l.length/\c=Nv j/\CK wr cb tb mb lb (fC fS (l.take j) w_).ty (fC fS (l.take j) w_).mks lo (fC fS (l.take j) w_).f/\LO lo (fC fS (l.take j) w_).nm/\(∀x,lo x<=j)/\Fr (λb=>b=cb\/b=tb\/b=mb\/b=lb) w0 wr
def aed(hr:RowV QD 1 w (·<w.heap.size) l u)(hS:∀d∈l,DSo d)(hl:l.length<=802):
 Cq 60 #[.agg #[u]] w λe w'=>e=.returned (jF (fC fS l w_).f)/\Bq w w':=by
 obtain⟨va,vc,cs,rfl,HW,HQ⟩:=hr;obtain⟨Z,HZ⟩:∃Z,Hid<|Z=(fC fS l w_).f:=⟨_,ai rfl⟩;rw[<-uh HZ];have b_:Bq w ((w.alloc<|Cv #[Lv va l.length vc] 60).alloc<|Cv #[Iv 0,Iv 0,Iv 0] 30):=(bw _).alloc ag _;have B1:=ai<|(Bx.new w #[Lv va l.length vc] 60).alloc<|Cv #[Iv 0,Iv 0,Iv 0] 30;have F1:Bx ((w.alloc<|Cv #[Lv va l.length vc] 60).alloc<|Cv #[Iv 0,Iv 0,Iv 0] 30) (w.heap.size+1) #[Iv 0,Iv 0,Iv 0]:=(by have:=Bx.new (w.alloc<|Cv #[Lv va l.length vc] 60) #[Iv 0,Iv 0,Iv 0] 30;simpa using this);have dq:=ai b_;have HC:=FK (w:=(w.alloc<|Cv #[Lv va l.length vc] 60).alloc<|Cv #[Iv 0,Iv 0,Iv 0] 30);have⟨c1,f1,y1⟩:=uh B1;go_enter func60,ntmps60;go_wp2_with fail;refine HC.mono ?_;rintro e w2⟨cb,tb,mb,lb,rfl,b2,hz,D2⟩;have hz':w.heap.size+2<=cb/\w.heap.size+2<=tb/\w.heap.size+2<=mb/\w.heap.size+2<=lb:=by simpa using hz
 have cS:=dq.trans<|b2.mono dq.size;have B2:=ai<|B1.below b2;have F2:=F1.below b2;have hw2:=cS.size;have⟨c1,f1,y1⟩:=uh B2
 go_wp2
 go_loopg[10] l.length (λgk c wr=>FAR w2 cb tb mb lb l gk c wr)
 case atStart=>exact⟨0,λ_=>0,ai rfl,jy _,rfl,D2,λx=>by simp[fC,w_],λx=>br _,Fr.refl _ _⟩
 case round=>
  obtain⟨j,lo,cR,hj,rfl,hD,LR,MJ,FR⟩:=hrel;have DR':=ai hD;have hBW:Bq w wr:=⟨FR.os.trans cS.os,FR.tape.trans cS.tape,FR.output.trans cS.output,jz cS.size FR.size,λb hb=>(FR.block b (j3 hb cS.size)<|λq=>ae).trans<|cS.block b hb⟩;have F3:=ai<|F2.fr FR<|λq=>ae;by_cases bq:j<l.length
  .have hd:(j:Int)<(l.length:Int):=ae;obtain⟨g,rfl,-,hg,pi⟩:∃g,va=some ⟨g,0,none⟩/\g<w.heap.size/\g<w.heap.size/\∀i,i<l.length->∀j,j<1->w.cell? ⟨g,i*1+j,none⟩=some (cs i j):=by
    obtain e|e:=HW
    .exact absurd bq Mm
    .exact e
   have d0:=(qe (a:=⟨g,j*1+0,none⟩)<|hBW.block g hg).trans<|pi j bq 0 ae;simp only[j8,j7]at d0;have LZ:=HQ j bq;have HPD:=LZ.move hBW.size (λb _ z=>hBW.block b z) (Q:=(·<w.heap.size))<|λ_ p _=>p;have⟨t1,x1,e1⟩:=LZ.iface;rw[e1]at d0 HPD;have Gi:=Vt fS l w_ j bq;generalize fC fS (l.take j) w_=e0 at DR' LR Gi;have HC:=ahU DR' LR ae ae ae ae HPD (hS _<|ja bq)<|λx=>qAv;go_wp2_with fail;refine HC.mono ?_;rintro e w3⟨rfl,Yp,D3,L3,O3,k3⟩;have K3:=FR.trans k3
   go_wp2
   go_roundg(l.length-(j+1))
   case measure=>rw[uh cR];omega
   case rel=>exact⟨j+1,Yp,ai rfl,ae,iK,by rw[Gi];exact D3,by rw[Gi];exact L3,λx=>jz (O3 x)<|Nat.succ_le_succ<|MJ x,K3⟩
  .have hd:decide ((j:Int)<(l.length:Int))=false:=bB;have he:l.take j=l:=ji ae;rw[he,<-uh HZ]at DR';have⟨c4,f4,y4⟩:=DR'.bx;have⟨c3,f3,y3⟩:=uh F3;have B5:=ai<|F3.dJ rfl (Nv Z.kind) (Nv Z.al) (Nv Z.to);go_wp2_with fail;have⟨c5,f5,z5⟩:=uh B5;refine bodyPost_ret (v:=jF Z) (by simp[results,Tryz.results60,go_sem,jF,c5]) rfl ?_;exact⟨rfl,((hBW.setCell (jx _) _).setCell (jx _) _).setCell (jx _) _⟩
end
section
open Go.ChangeMaps Un
def aee(h:O6 s):(⟨#[39]⟩:BA)++s.extract 1 s.size=s:=by
 obtain⟨r,hr⟩:=h;apply toList_inj;rw[hr];have h2:=xE hr;rw[tl]at h2;rw[xc]at h2⊢;rw[ByteArray.data_append];simp only[Array.toList_append,h2];rfl
def abn(h:O6 s):Js s:=by grind[O6,Js]
def ahW s n f t a k:wT (.mk 16 s n [] f t a) k=s.toList:=by simp[wT]
def aki s n x y f t a:wT (.mk 17 s n [x,y] f t a) 0=wT x 1++([32,45,62,32]++wT y 0):=by
 simp only[wT,fy,show ¬(17=16) by decide,if_false,if_true,bA,wTL];rfl
def akj s n x y f t a:wT (.mk 6 s n [x,y] f t a) 0=40::(wT x 0++([44,32]++(wT y 0++[41]))):=by
 have cO:¬lj=nB:=yG;simp only[wT,fy,show ¬(6=16) by decide,show ¬(6=17) by decide,if_false,if_true,bA,if_neg cO,wTL];rfl
def akk s(hu:nI s)n L f t a:wT (.mk 2 s n L f t a) 0=s.toList++(L.map wT).flatMap λp=>32::p 2:=by
 have h1:s≠nB:=λe=>cQ hu 62 [] aK (by rw[e];exact toList_mk [62]);have h2:s≠lj:=λe=>cQ hu 44 [] aK (by rw[e];exact toList_mk [44]);simp only[wT,fy,show ¬(2=16) by decide,show ¬(2=17) by decide,show ¬(2=6) by decide,if_false,bA,if_neg h1,if_neg h2,Q4];rfl
def tJ{t}(h:t.toList=r)(h1:r≠[])(h2:r≠[40]):Js t:=by grind[Js]
def abo s n f t a(hss:s.size<=1000):AP (.mk 16 s n [] f t a):=by
 intro w B pb bv l last mv Q v h hp hq hl hB
 cases hp with
 |var s n f t a x y hqu=>
 rw[ahW]at hl⊢;simp only[tQ]at hl;have hzp:=h.lt;have Zx:s.toList.length=s.size:=by rw[xc];simp
 have bN:Bq w ((w.alloc<|Cv #[Iv x,Iv y,Sv<|s.extract 1 s.size] 159).alloc<|Cv #[Sv s] 9):=(bw _).alloc ag _;have BX:Bx ((w.alloc<|Cv #[Iv x,Iv y,Sv<|s.extract 1 s.size] 159).alloc<|Cv #[Sv s] 9) (w.heap.size+1) #[Sv s]:=by have:=Bx.new (w.alloc<|Cv #[Iv x,Iv y,Sv<|s.extract 1 s.size] 159) #[Sv s] 9;simpa using this
 have HP:=vH (h.af bN) s ae ae (w.heap.size+1) BX ae;obtain⟨r,Hr⟩:=hqu;rw[oM (by rw[Hr];simp) (by rw[Hr];simp) (by rw[Hr];simp)]at HP;have F0:=FN.of (B:=B) (pb:=pb) bN;have afG:=aee ⟨r,Hr⟩;go_enter func78,ntmps78;go_wp2_with fail;refine HP.mono ?_;rintro e w1⟨rfl,bv1,N1,F1⟩
 go_wp2
 go_end0;exact⟨rfl,bv1,s,N1,abn ⟨r,Hr⟩,F0.trans F1⟩
def aef s n L f t a(hss:s.size<=1000)(hL:L.length<=1001)(IH:∀i(h:i<L.length),VY L[i]):AP (.mk 2 s n L f t a):=by
 intro w B pb bv l last mv Q v h hp hq hl hB
 cases hp with
 |up s n L f t at_ x y x' y' sa sc vs hu aM hr=>
 rw[akk s hu]at hl⊢;have Zx:s.toList.length=s.size:=by rw[xc];simp
 have bN:Bq w (w.alloc<|Cv #[Iv x,Iv y,Iv x',Iv y',Sv s,Lv sa L.length sc] 166):=bw _;have F0:=FN.of (B:=B) (pb:=pb) bN
 have HC:=ai (ac9 (Q:=Q) s hu hss x' y' L sa sc vs hL (h.af bN) (hq.fn F0) hB
  (aM.imp id λq=>by
   obtain⟨g,q1,q2,q3,q4⟩:=q
   exact⟨g,q1,q2,bB,λi hi=>(qe (a:=⟨g,i,none⟩)<|bN.block g q3).trans<|q4 i hi⟩)
  (λi hi=>(hr i hi).af bN) IH hl)
 go_enter func78,ntmps78;go_wp2_with fail;refine HC.mono ?_;rintro e w1⟨rfl,bv1,afp,N1,fi1,F1⟩
 go_wp2
 go_end0;exact⟨rfl,bv1,afp,N1,fi1,F0.trans F1⟩
def aeg s n a b f t at_(Ha:VY a)(Hb:VY b):AP (.mk 17 s n [a,b] f t at_):=by
 intro w B pb bv l last mv Q v h hp hq hl hB
 cases hp with
 |fn s n a b f t at_ x y va vb ha hb=>
 rw[aki]at hl⊢;obtain⟨ta,xa,rfl⟩:=ha.bJ;obtain⟨tb,xb,rfl⟩:=hb.bJ;have hzp:=h.lt;have hsl:=EI last;simp only[tQ,pk,ua]at hl;have⟨bN,XB⟩:=nK w #[Iv x,Iv y,Fv ta<|Av xa,Fv tb<|Av xb] 161;have F0:=FN.of (B:=B) (pb:=pb) bN;have HC:=Ha _ B pb bv l last mv Q _ 1 (h.af bN) (ha.af bN) (hq.fn F0) ae (by simp only[tQ];omega) hB;go_enter func78,ntmps78;go_wp2_with fail;refine HC.mono ?_;rintro e w1⟨rfl,bv1,afp,N1,fi1,F1⟩;have X1:=F1.lh XB ae qAi;obtain⟨c1,f1,z1⟩:=X1;have amD:=N1.lt;have b_:Bq w1 (w1.alloc<|Cv #[Sv oL] 9):=bw _;have HP:=vH (N1.af b_) oL aK (by simp only[tQ];omega) w1.heap.size (Bx.new w1 #[Sv oL] 9) ae;rw[oM (by rw[show oL.toList=[45,62]from toList_mk [45,62]];decide) (by rw[show oL.toList=[45,62]from toList_mk [45,62]];decide) (by rw[show oL.toList=[45,62]from toList_mk [45,62]];decide),show oL.toList=[45,62]from toList_mk [45,62],jX fi1]at HP;go_wp2_with fail;refine HP.mono ?_;rintro e w2⟨rfl,VO,N2,F2⟩;have F12:=(FN.of (B:=B) (pb:=pb) b_).trans F2;have FA:=(F0.trans F1).trans F12;have X2:=(F1.trans F12).lh XB ae qAi;obtain⟨c2,f2,z2⟩:=X2;have HD:=Hb w2 B pb VO _ oL mv Q _ 0 N2 (hb.fnQ hq FA) (hq.fn FA) ae (by rw[jX<|tJ (toList_mk [45,62]) aK aK];simp only[tQ,pk,ua];omega) hB;rw[jX<|tJ (toList_mk [45,62]) aK aK]at HD
 go_wp2_with fail;refine HD.mono ?_;rintro e w3⟨rfl,bv3,Q5,N3,fi3,F3⟩
 go_wp2
 go_end0;refine⟨rfl,bv3,Q5,?_,fi3,FA.trans F3⟩;have e9:l++(sep last++wT a 1)++([32]++[45,62])++([32]++wT b 0)=l++(sep last++(wT a 1++([32,45,62,32]++wT b 0))):=ag;rw[e9]at N3;simp only[jp,jq,jm]at N3⊢;exact N3
def aeh s n a b f t at_(Ha:VY a)(Hb:VY b):AP (.mk 6 s n [a,b] f t at_):=by
 intro w B pb bv l last mv Q v h hp hq hl hB
 cases hp with
 |pr s n a b f t at_ x y va vb ha hb=>
 rw[akj]at hl⊢;obtain⟨ta,xa,rfl⟩:=ha.bJ;obtain⟨tb,xb,rfl⟩:=hb.bJ;have hzp:=h.lt;have hsl:=EI last;simp only[tQ,pk,ua]at hl;have bN:Bq w ((w.alloc<|Cv #[Iv x,Iv y,Fv ta<|Av xa,Fv tb<|Av xb] 163).alloc<|Cv #[Sv gM] 9):=(bw _).alloc ag _;have F0:=FN.of (B:=B) (pb:=pb) bN;have XB:=(Bx.new w #[Iv x,Iv y,Fv ta<|Av xa,Fv tb<|Av xb] 163).alloc<|Cv #[Sv gM] 9;have BX:Bx ((w.alloc<|Cv #[Iv x,Iv y,Fv ta<|Av xa,Fv tb<|Av xb] 163).alloc<|Cv #[Sv gM] 9) (w.heap.size+1) #[Sv gM]:=by have:=Bx.new (w.alloc<|Cv #[Iv x,Iv y,Fv ta<|Av xa,Fv tb<|Av xb] 163) #[Sv gM] 9;simpa using this
 have HP:=vH (h.af bN) gM aK ae (w.heap.size+1) BX ae;rw[oM qAm qAm qAm,show gM.toList=[40]from toList_mk [40]]at HP;have nx:∀x0,(#[Iv x,Iv y,Fv ta<|Av xa,Fv tb<|Av xb])[0]? =some x0->∀c,x0≠.int .u8 c:=qAi;go_enter func78,ntmps78;go_wp2_with fail;refine HP.mono ?_;rintro e w1⟨rfl,bv1,N1,F1⟩;have G1:=F0.trans F1;have⟨c1,f1,z1⟩:=F1.lh XB ae nx;have hs1:sep gM=[]:=by rw[sep];rw[if_pos<|Or.inr<|toList_mk [40]]
 have HC:=Ha w1 B pb bv1 _ gM mv Q _ 0 N1 (ha.fnQ hq G1) (hq.fn G1) ae (by rw[hs1];simp only[tQ,pk,ua];omega) hB;rw[hs1]at HC;go_wp2_with fail;refine HC.mono ?_;rintro e w2⟨rfl,VO,C9,N2,fi2,F2⟩;have G2:=G1.trans F2;have alx:=N2.lt;have fc:Bq w2 (w2.alloc<|Cv #[Sv Ab] 9):=bw _;have HP2:=vH (N2.af fc) Ab aK (by simp only[tQ,pk,ua];omega) w2.heap.size (Bx.new w2 #[Sv Ab] 9) ae;rw[u9<|j9<|toList_mk [44],show Ab.toList=[44]from toList_mk [44]]at HP2;have⟨c2,f2,z2⟩:=(F1.trans F2).lh XB ae nx;go_wp2_with fail;refine HP2.mono ?_;rintro e w3⟨rfl,bv3,N3,F3⟩;have F23:=(FN.of (B:=B) (pb:=pb) fc).trans F3;have G3:=G2.trans F23;have⟨c3,f3,z3⟩:=((F1.trans F2).trans F23).lh XB ae nx;have HD:=Hb w3 B pb bv3 _ Ab mv Q _ 0 N3 (hb.fnQ hq G3) (hq.fn G3) ae (by rw[jX<|tJ (toList_mk [44]) aK aK];simp only[tQ,pk,ua];omega) hB;rw[jX<|tJ (toList_mk [44]) aK aK]at HD;go_wp2_with fail;refine HD.mono ?_;rintro e w4⟨rfl,bv4,amc,N4,fi4,F4⟩;have G4:=G3.trans F4;have amE:=N4.lt;have rS:Bq w4 (w4.alloc<|Cv #[Sv iJ] 9):=bw _;have HP4:=vH (N4.af rS) iJ aK (by simp only[tQ,pk,ua];omega) w4.heap.size (Bx.new w4 #[Sv iJ] 9) ae;rw[u9<|qd<|toList_mk [41],show iJ.toList=[41]from toList_mk [41]]at HP4;go_wp2_with fail;refine HP4.mono ?_
 rintro e w5⟨rfl,bv5,N5,F5⟩
 go_wp2
 go_end0;refine⟨rfl,bv5,iJ,?_,tJ (toList_mk [41]) aK aK,G4.trans<|(FN.of rS).trans F5⟩;have e9:l++(sep last++[40])++([]++wT a 0)++[44]++([32]++wT b 0)++[41]=l++(sep last++40::(wT a 0++([44,32]++(wT b 0++[41])))):=ag;rw[e9]at N5;simp only[jp,jq,jm]at N5⊢;exact N5
end
section
open Un
def AY{f}(hf:bY s=.error f):f.kind%6≠0/\f.al<=f.to/\f.to<=s.size:=by
 by_cases hs:400<s.size
 .simp[bY,hs]at hf;subst hf;simp
 .have:=pJ hs;rw[hf]at this;exact this
def ahX s w(e:Ending)w':=
 ∃u f,e=.returned (.tuple #[.agg #[u],jF f])/\Bq w w'/\match bY s with
  |.error f'=>f=f'/\u=.slice none 0 0|.ok l=>f=(fC fS l w_).f/\RowV QD 1 w' (λb=>w.heap.size<=b) l u
def Lf(h:Laid w)s:Calls qg 38 #[.string s] w (ahX s w):=by
 obtain⟨W0,hW0⟩:∃W0,W0=(w.alloc<|.cells #[.slice none 0 0] 60).alloc (.cells #[.int .i64 0,.int .i64 0,.int .i64 0] 30):=⟨_,rfl⟩;have bN:Below w.heap.size w W0:=by rw[hW0];exact(bw _).alloc ag _
 have A0:Bx W0 w.heap.size #[.slice none 0 0]:=by rw[hW0];exact(Bx.new w _ _).alloc _
 have B0:Bx W0 (w.heap.size+1) #[.int .i64 0,.int .i64 0,.int .i64 0]:=by rw[hW0];have:=Bx.new (w.alloc<|.cells #[.slice none 0 0] 60) #[.int .i64 0,.int .i64 0,.int .i64 0] 30;simpa using this
 have HC:=Vr (h.af bN) s;have HW:=ai hW0;clear h hW0;go_enter func38,ntmps38;go_wp2_with fail;rw[<-uh HW];refine HC.mono ?_;rintro e w1⟨u,f,rfl,b_,hp⟩;obtain⟨va,vc,n,hu⟩:∃va vc n,u=.slice va n vc:=by
  exact SK
 subst hu;have dq:=bN.trans<|b_.mono bN.size;obtain⟨W1,Bk⟩:∃W1,W1=(w1.alloc<|.cells #[.slice va n vc] 60).alloc (.cells #[.int .i64 (f.kind:Int),.int .i64 (f.al:Int),.int .i64 (f.to:Int)] 30):=⟨_,rfl⟩;have fc:Below w1.heap.size w1 W1:=by rw[Bk];exact(bw _).alloc ag _
 have cS:=dq.trans<|fc.mono dq.size;have A2:=ai<|(A0.below b_).below fc;have B2:=ai<|(B0.below b_).below fc;have P2:Hid (Bx W1 w1.heap.size #[.slice va n vc]):=ai (by rw[Bk];exact(Bx.new w1 _ _).alloc _);have F2:Hid (Bx W1 (w1.heap.size+1) #[.int .i64 (f.kind:Int),.int .i64 (f.al:Int),.int .i64 (f.to:Int)]):=ai (by rw[Bk];have:=Bx.new (w1.alloc<|.cells #[.slice va n vc] 60) #[.int .i64 (f.kind:Int),.int .i64 (f.al:Int),.int .i64 (f.to:Int)] 30;simpa using this);have BV:=ai Bk;have lG:=dq.size;have nJ:=B0.z;have jB:=b_.size;unfold jF
 cases hr:bY s with
 |error f'=>
  rw[hr]at hp;obtain⟨hf,hu⟩:=hp;subst hf;have hk:=(AY hr).1;have gF:((f.kind:Int)==0)=false:=bB;clear HC bN b_ fc dq A0 B0 Bk HW hk;go_wp2_with fail;rw[<-uh BV];obtain⟨c1,f1,z1⟩:=uh A2;obtain⟨c2,f2,z2⟩:=uh B2;obtain⟨c3,f3,z3⟩:=uh P2;obtain⟨c4,f4,z4⟩:=uh F2;go_region;go_wp2_with fail;obtain⟨c5,f5,z5⟩:=((B2.nO (b2:=w.heap.size) ae 0<|.slice none 0 0).dJ rfl (.int .i64 (f.kind:Int)) (.int .i64 (f.al:Int)) (.int .i64 (f.to:Int))).gL;obtain⟨c6,f6,z6⟩:=((A2.qT 0 (.slice none 0 0) #[.slice none 0 0] ag ag).aaA (b2:=w.heap.size+1) ae (.int .i64 (f.kind:Int)) (.int .i64 (f.al:Int))<|.int .i64 (f.to:Int)).gL;refine bodyPost_ret (v:=.tuple #[.agg #[.slice none 0 0],jF f]) (by simp[results,Tryz.results38,go_sem,jF,c5,c6]) rfl ?_;refine⟨.slice none 0 0,f,rfl,((((cS.setCell (br _) _).setCell (jx _) _).setCell (jx _) _).setCell (jx _) _).drew,?_⟩;rw[hr];exact⟨rfl,rfl⟩
 |ok l=>
  rw[hr]at hp;obtain⟨rfl,aM⟩:=hp;obtain⟨hS,hl⟩:=Ld hr;have yQ:RowV QD 1 W1 (λb=>W0.heap.size<=b/\b<w1.heap.size) l (.slice va n vc):=aM.move bL fc.size (λb _ z=>fc.block b z)<|λb p z=>⟨p,z⟩;have HR2:=ai yQ;have qV:∀W,Below W1.heap.size W1 W->Calls qg 60 #[.agg #[.slice va n vc]] W λe w'=>e=.returned (jF (fC fS l w_).f)/\Below W.heap.size W w':=λW k=>aed (yQ.move bL k.size (λb _ z=>k.block b z)<|λb p z=>j3 z k.size) hS hl;have hzw:=fc.size;generalize hZ:(fC fS l w_).f=Z at qV;simp only[jF]at qV;have e0:((dx.kind:Nat):Int)=0:=rfl;have e1:((dx.al:Nat):Int)=0:=rfl;have e2:((dx.to:Nat):Int)=0:=rfl;rw[e0,e1,e2]at F2 BV;clear HC bN b_ dq A0 B0 aM yQ hS fc Bk HW;go_wp2_with fail;rw[<-uh BV];obtain⟨c3,f3,z3⟩:=uh P2;go_region_with(go_at_call 60;refine(qV _ (ql _ _).drew).mono ?_;rintro e w3⟨rfl,mI⟩;have K3:=(ql W1.heap.size W1).drew.trans mI;have A3:=A2.below K3;have B3:=B2.below K3;have P3:=P2.below K3;have HK3:=ai K3;have HA3:=ai A3;have nU:=ai B3;obtain⟨a1,a2,a3⟩:=A3;obtain⟨b1,b2,b3⟩:=B3;obtain⟨p1,p2,p3⟩:=P3;clear mI K3)
  all_goals(
   go_wp2_with fail;have mI:=uh HK3;obtain⟨c5,f5,z5⟩:=(nU.nO (b2:=w.heap.size) ae 0<|.slice va n vc).dJ rfl (.int .i64 (Z.kind:Int)) (.int .i64 (Z.al:Int)) (.int .i64 (Z.to:Int));obtain⟨c6,f6,z6⟩:=(HA3.qT 0 (.slice va n vc) #[.slice va n vc] ag ag).aaA (b2:=w.heap.size+1) ae (.int .i64 (Z.kind:Int)) (.int .i64 (Z.al:Int))<|.int .i64 (Z.to:Int);refine bodyPost_ret (v:=.tuple #[.agg #[.slice va n vc],jF Z]) (by simp[results,Tryz.results38,go_sem,jF,c5,c6]) rfl ?_;have kk:Fr (λb=>b=w.heap.size\/b=w.heap.size+1) w3 ((((w3.setCell ⟨w.heap.size,0,none⟩<|.slice va n vc).setCell ⟨w.heap.size+1,0,none⟩<|.int .i64 (Z.kind:Int)).setCell ⟨w.heap.size+1,1,none⟩<|.int .i64 (Z.al:Int)).setCell ⟨w.heap.size+1,2,none⟩<|.int .i64 (Z.to:Int)):=((((Fr.refl _ _).set (qd<|qd rfl) 0 _).set (qd<|j9 rfl) 0 _).set (qd<|j9 rfl) 1 _).set (qd<|j9 rfl) 2 _;have k3:=cS.trans<|mI.mono cS.size;have z3':=mI.size;refine⟨.slice va n vc,Z,rfl,Fr.mn k3 k3.size kk (λx q=>by obtain rfl|rfl:=q<;>omega),?_⟩;rw[hr]
   exact⟨hZ.symm,HR2.move bL (by have:=kk.size;omega) (λb p z=>(kk.block b ae (λq=>by obtain rfl|rfl:=q<;>omega)).trans (mI.block b z)) (λb p z=>ae)⟩)
def dNm:Dc->List BA
 |.ty _ _ _=>[]|.lt _ t b=>t.text::nS b
structure PG(nl:List BA)(l:List Dc)e(mks:qr):Prop where
 d3:∀d∈l,D3 d
 ml:∀d∈l,MkL d
 ok:(fC fS l e).f.kind=0
 has:sW e.mks mks
 D5:MkFine mks
 nm:∀d∈l,∀s∈dNm d,s∈nl
 sz:Jp l<=802
def abp{u:V9}{ty:BA->Option Nat}{own:List BA}:∀(ms:List Nd)(q:(BA->Option Nat)×Fl),(Ag u ty own ms q).2.kind=0->q.2.kind=0
 |[],q,h=>h|.mk _ s _ L _ _ a::r,q,h=>by
  rw[Ag]at h;exact(cL aK<|Af L _<|abp r _ h).2
def akl{u:V9}:∀(d:Dc)(e:SE),(V_ u d e).f.kind=0->e.f.kind=0
 |.ty t vs ms,e,h=>(cL aK (NG<|abp ms _ h).1).2|.lt r t b,e,h=>mq b _ _ h
def OM{u:V9}:∀(l:List Dc)(e:SE),(fC u l e).f.kind=0->e.f.kind=0
 |[],e,h=>h|d::r,e,h=>akl d e<|OM r _ h
def Gh.up(h:Gh s):nI s:=by
 obtain⟨x,r,h1,h2,_⟩:=h;exact⟨x,r,h1,h2⟩
def NmV.quo(h:NmV s):O6 s:=by
 obtain⟨x,r,h1,_⟩:=h;exact⟨_,h1⟩
def o7 d l:Jp (d::l)=LU d+Jp l:=by simp[Jp]
def Vu(h:m∈ms):nn m<=b8 ms:=by
 induction ms with
 |nil=>simp at h|cons x l ih=>
  simp only[b8];obtain e|e:=List.mem_cons.1 h
  .subst e;omega
  .have:=ih e;omega
def PG.ty{nl}{t}{vs}{ms}{r}{e}{mks}(h:PG nl (.ty t vs ms::r) e mks):TdF t vs ms/\PG nl r (V_ fS (.ty t vs ms) e) (In.wi t vs ms mks):=by
 have⟨d1,d2,d3,d4,d5⟩:=h.d3 _<|jc ..;have Wp:=h.ml _<|jc ..;have Jv:=h.ok;have h1:=OM r _ Jv;have⟨k1,k2,k3⟩:=ZI t vs d5 h1 h.has;have⟨_,v2,_⟩:=NG k1;have hz:=h.sz;rw[o7]at hz;simp only[LU]at hz;have hm1:=mU ms;refine⟨⟨d1.up,v2,ae,λv hv=>(d3 v hv).1.quo,ae,λi hi=>?_⟩,⟨λd hd=>h.d3 d<|by simp[hd],λd hd=>h.ml d<|by simp[hd],Jv,k2,h.D5.add d1 Wp k3,λd hd=>h.nm d<|by simp[hd],ae⟩⟩;have⟨s,L,f,u,a,em,g⟩:=k3 _<|ja hi;have hn:=Vu<|ja hi;rw[em]at hn;simp only[nn]at hn;have hl:=mU L;refine⟨s,0,L,f,u,a,em,ae,λk hk=>⟨g.ty ae k hk,?_⟩⟩;have⟨s',L',f',u',a',em',_,_,g3⟩:=d5 _<|ja hi;rw[em]at em';injection em' with _ _ _ eL _ _ _;subst eL;obtain⟨z,hz'⟩:∃z,(tU (fS e.ty t.text vs.length) (vs.map (·.text)) L[k] z).kind=0:=by
  have key:∀{ms:List Nd}{q:(BA->Option Nat)×Fl},(Ag fS (fS e.ty t.text vs.length) (vs.map (·.text)) ms q).2.kind=0->Nd.mk 2 s 0 L f u a∈ms->∃z,(gI (fS e.ty t.text vs.length) (vs.map (·.text)) L z).kind=0:=by
   intro ms
   induction ms with
   |nil=>grind|cons x l ih=>
    intro q hq hm;obtain q1|q1:=List.mem_cons.1 hm
    .subst q1;rw[Ag]at hq;exact⟨_,abp l _ hq⟩
    .cases x
     rw[Ag]at hq;exact ih hq q1
  have⟨z,hz⟩:=key h1<|em▸ja hi;exact oN hz _<|ja hk
 have gk:=NE (g3 _<|ja hk) z hz';exact⟨gk.st,gk.es⟩
def PG.lt{nl}{t}{b}{r}{e}{mks}(h:PG nl (.lt rc t b::r) e mks):t.text∈nl/\1+nn b+Jp r<=802/\ScE mks nl (λv=>v∈e.nm\/(rc=true/\v=t.text)) b/\PG nl r (V_ fS (.lt rc t b) e) mks:=by
 have⟨d1,d2,d3,d4⟩:=h.d3 _<|jc ..;have Jv:=h.ok;have h1:(dN e.ty e.mks b (if rc then e.nm++[t.text]else e.nm) e.f).kind=0:=OM r _ Jv;have hz:=h.sz;rw[o7]at hz;simp only[LU]at hz;have hn:∀s∈t.text::nS b,s∈nl:=h.nm _<|jc ..;refine⟨hn _<|jc ..,ae,?_,⟨λd hd=>h.d3 d<|by simp[hd],λd hd=>h.ml d<|by simp[hd],Jv,h.has,h.D5,λd hd=>h.nm d<|by simp[hd],ae⟩⟩;refine agV h.has d3 _ _ h1 (λs hs=>hn s<|by simp[hs]) ae _ λs hs=>?_
 cases rc with
 |true=>
  obtain q|q:=List.mem_append.1 hs
  .exact qd q
  .grind
 |false=>exact qd hs
def PG.init(hs:¬400<s.size)(h:bY s=.ok l)(hk:(fC fS l w_).f.kind=0):PG (l.flatMap dNm) l w_ (λ_=>none)/\(l.flatMap dNm).length<=802:=by
 have h1:=pJ hs;have h2:=UF hs;rw[h]at h1 h2;refine⟨⟨h1.1,h2,hk,NI,JB,λd hd s hs=>List.mem_flatMap.2 ⟨d,hd,hs⟩,h1.2⟩,jz ?_ h1.2⟩;clear h h1 h2 hk
 induction l with
 |nil=>simp|cons d l ih=>
  rw[List.flatMap_cons,tQ,o7];have:(dNm d).length<=LU d:=by
   cases d with
   |ty t vs ms=>simp[dNm]|lt r t b=>simp only[dNm,pk,Jz,LU];omega
  omega
def ahY:VZ nB 2:=⟨aK,λ_=>rfl,.inl rfl⟩
def ahZ:VZ lj 2:=⟨aK,λ_=>rfl,.inr<|.inl rfl⟩
def o8:∀{L:List Nd},(∀x∈L,∀ns,Wf (aH ns<|es x).1)->∀ns,zX (aA ns<|vX L).1/\(aA ns<|vX L).1.length=L.length
 |[],_,ns=>⟨trivial,rfl⟩|x::L,h,ns=>by
  have⟨h1,h2⟩:=o8 (L:=L) (λy hy=>h y<|by simp[hy]) (aH ns<|es x).2;simp only[vX,aA];exact⟨⟨h x ag ns,h1⟩,by simp[h2]⟩
def tV.wf{nd:Nd}(h:tV nd):∀ns,Wf (aH ns<|es nd).1:=by
 induction h with
 |var s n f t a h1 h2 h3=>intro ns;simp[es,aH,Wf]|up s n L f t a h1 h2 h3 h4 ih=>
  intro ns;have⟨g1,g2⟩:=o8 (L:=L) ih ns;simp[es,aH,fy,Wf];exact⟨h1.VZ h2 _,g1⟩
 |pr x y f t a h1 h2 dH gJ=>
  intro ns
  have⟨g1,g2⟩:=o8 (L:=[x,y]) (λu hu=>by
   simp only[jo,jl,or_false]at hu;obtain rfl|rfl:=hu
   .exact dH
   .exact gJ) ns
  simp only[es,aH,fy];simp only[show(6:Nat)≠16 by decide,show(6:Nat)≠17 by decide,if_false,if_true];exact⟨by rw[g2];exact ahZ,g1⟩
 |fn x y f t a h1 h2 dH gJ=>
  intro ns
  have⟨g1,g2⟩:=o8 (L:=[x,y]) (λu hu=>by
   simp only[jo,jl,or_false]at hu;obtain rfl|rfl:=hu
   .exact dH
   .exact gJ) ns
  simp only[es,aH,fy];simp only[show(17:Nat)≠16 by decide,if_false,if_true];exact⟨by rw[g2];exact ahY,g1⟩
def abq:∀{L:List Nd},(∀x∈L,qn x)->In.NWL L
 |[],_=>trivial|x::L,h=>⟨h x ag,abq λy hy=>h y<|by simp[hy]⟩
def afq(hk:k≠14)(h:∀x∈L,qn x):qn (.mk k s n L f t a):=⟨λe=>absurd e hk,abq h⟩
def o9{y}(hk:k≠14)(hx:qn x)(hy:qn y):qn (.mk k s n [x,y] f t a):=⟨λe=>absurd e hk,hx,hy,trivial⟩
def abr(hk:k≠14)(hx:qn x):qn (.mk k s n [x] f t a):=⟨λe=>absurd e hk,hx,trivial⟩
def gB(hk:k≠14):qn (.mk k s n [] f t a):=⟨λe=>absurd e hk,trivial⟩
def tV.nw{nd:Nd}(h:tV nd):qn nd:=by
 induction h with
 |var s n f t a h1 h2 h3=>exact gB aK|up s n L f t a h1 h2 h3 h4 ih=>exact afq aK ih|pr x y f t a h1 h2 dH gJ=>exact o9 aK dH gJ|fn x y f t a h1 h2 dH gJ=>exact o9 aK dH gJ
def z_.nw{nd:Nd}(h:z_ nd):qn nd:=by
 induction h with
 |any=>exact gB aK|low=>exact gB aK|num=>exact gB aK|word=>exact gB aK|unit=>exact gB aK|pr x y f t a h1 h2 dH gJ=>exact o9 aK dH gJ|up s n L f t a h1 h2 h3 h4 ih=>exact afq aK ih
def Lg:∀{A:List (Nd×Nd)},(∀p∈A,qn p.1)->(∀p∈A,qn p.2)->In.NWL (aU A)
 |[],_,_=>trivial|(p,e)::A,h,k=>⟨h (p,e) ag,k (p,e) ag,Lg (λq hq=>h q<|by simp[hq]) λq hq=>k q<|by simp[hq]⟩
def iE.nw{nd}(h:iE nd):qn nd:=by
 induction h with
 |low=>exact gB aK|up=>exact gB aK|num=>exact gB aK|word=>exact gB aK|unit=>exact gB aK|pr x y f t a _ _ dH gJ=>exact o9 aK dH gJ|of x y f t a _ hy dH=>exact⟨λ_=>hy.wf [],dH,hy.nw,trivial⟩|op s x y f t a _ _ _ dH gJ=>exact o9 aK dH gJ|call x y f t a _ _ dH gJ=>exact o9 aK dH gJ|fn s x f t a _ _ _ ih=>exact abr aK ih|lt s x z f t a _ _ _ _ dH ZH=>exact o9 aK dH ZH|ltr s s' x z f t a f' t' a' _ _ _ _ _ _ dH ZH=>exact o9 aK (abr aK dH) ZH|ite x y w f t a _ _ _ dH gJ ihw=>exact⟨λe=>absurd e aK,dH,gJ,ihw,trivial⟩|mt x A f t a _ _ hp _ dH ihA=>exact⟨λe=>absurd e aK,dH,Lg (λp hq=>(hp p hq).nw) ihA⟩
def MF.add{t:jv}{vs:List jv}(ht:Gh t.text)(hz:t.text.size<=400):∀{ms:List Nd}{mks:qr},In.MF mks->(∀m∈ms,Jk tV m)->In.MF (In.wi t vs ms mks)
 |[],mks,h,_=>h|m::r,mks,h,hm=>by
  refine MF.add ht hz (ms:=r) ?_ λx hx=>hm x (by simp[hx]);obtain⟨s,L,f,u,a,rfl,g1,g2,g3⟩:=hm m ag;intro x tk mt q;simp only at q;split at q
  .injection q with q;injection q with q1 q2;subst q1 q2;refine⟨(o8 (L:=L) (λy hy=>(g3 y hy).wf) _).1,ht.VZ hz _,?_⟩;have:∀(l:List Nat),zX<|l.map λi=>xf<|i+1:=by
    intro l
    induction l with
    |nil=>trivial|cons x l ih=>exact⟨trivial,ih⟩
   exact this _
  .exact h x tk mt q
def Lh{t}(h:Wf t):Wf (In.og t):=In.nk h λ_=>In.Fw
def ON{rs:Bool}:∀{l:List Dc}{mk:qr}{Γ:In.Env}{s:qv}{B:List (BA×Ty)}{F:Option qw},(∀d∈l,D3 d)->In.MF mk->In.EF Γ->In.KF s->In.Kr rs l mk Γ s B F->(∀p∈B,Wf p.2/\size p.2<=48)/\∀z,F=some z->q9 z
 |[],mk,Γ,s,B,F,_,_,_,_,h=>by
  obtain⟨rfl,rfl⟩:=h;exact⟨ag,λz q=> lI⟩
 |.ty t vs ms::r,mk,Γ,s,B,F,hd,hm,eT,hk,h=>by
  have⟨d1,d2,d3,d4,d5⟩:=hd _<|jc ..;exact ON (l:=r) (λd q=>hd d ML) (MF.add d1 d2 hm d5) eT hk h
 |.lt rc t b::r,mk,Γ,s,B,F,hd,hm,eT,hk,h=>by
  have⟨d1,d2,d3,d4⟩:=hd _<|jc ..;obtain⟨o,ho,hq⟩:=h;have g:=In.AH rc t.text b (In.aaM hm b d3.nw) Γ s hk eT o ho
  cases o with
  |error x=>
   obtain⟨rfl,rfl⟩:=hq;exact⟨ag,λz q=>by injection q with q;subst q;exact g⟩
  |ok p=>
   obtain⟨a,s1⟩:=p;obtain⟨g1,g2⟩:=g;obtain⟨_,rfl,rfl⟩|⟨z,T,B',hT,rfl,hr⟩:=hq
   .exact⟨ag,λz q=>by injection q with q;subst q;exact In.yn _ _⟩
   .have hw:=In.nk g1 g2;have hTw:Wf T/\size T<=48:=by
     rw[hT];split
     .exact⟨hw,z⟩
     .exact⟨Lh hw,by rw[kQ];exact z⟩
    have⟨i1,i2⟩:=ON (l:=r) (λd q=>hd d ML) hm (eT.set _ hTw.1) (by
     intro n;show Wf<|(if rs then xf else s1.k) n
     cases rs
     .exact g2 n
     .exact In.kC n) hr
    refine⟨λp hp=>?_,i2⟩;obtain e|e:=List.mem_cons.1 hp
    .subst e;exact hTw
    .exact i1 p e
end
section
open Go.ChangeMaps Un
def nu(f:Fl)(l r:BA)(sa:Option Addr)(n c:Nat):Value:=.agg #[Nv f.kind,Nv f.al,Nv f.to,.string l,.string r,.slice sa n c,.slice none 0 0]
def Wh(z:qw):BA:=if z.f.kind=6 then bs (wr dec (vars [] z.l) z.l 0)else bs []
def Wi(z:qw):BA:=if z.f.kind=6 then bs (wr dec (vars (vars [] z.l) z.r) z.r 0)else bs []
def Vv(hk:z.f.kind=7)sa n c:
 Cq 65 #[nu dx (bs []) (bs []) sa n c,BQ z.f .nilIface .nilIface] w λe w'=>e=.returned (nu z.f (Wh z) (Wi z) sa n c)/\Bq w w':=by
 have hl:Wh z=bs []:=by simp[Wh,hk]
 have hr:Wi z=bs []:=by simp[Wi,hk]
 rw[hl,hr];unfold nu;rw[hk];simp only[dx];go_enter func65,ntmps65;go_wp2_with fail;refine bodyPost_ret (v:=nu ⟨7,z.f.al,z.f.to⟩ (bs []) (bs []) sa n c) (by simp[results,Tryz.results65,go_sem,nu]) rfl ⟨rfl,?_⟩;exact((bw _).alloc ag _).alloc bB _
def Vw(HAt:∀nd,WN nd->VY nd){vr:Value}(hk:z.f.kind=6)(hf:qO w (λ_=>True) z vl vr)(hz:q9 z)sa n c:
 Cq 65 #[nu dx (bs []) (bs []) sa n c,BQ z.f vl vr] w λe w'=>e=.returned (nu z.f (Wh z) (Wi z) sa n c)/\Bq w w':=by
 have hl:Wh z=bs (wr dec (vars [] z.l) z.l 0):=by simp[Wh,hk]
 have hr:Wi z=bs (wr dec (vars (vars [] z.l) z.r) z.r 0):=by simp[Wi,hk]
 rw[hl,hr];have⟨⟨wl,zl⟩,wrr,zr⟩:=hz hk;have⟨tl,tr⟩:=hf.apart hk;have alS:=oX z.l [];have amF:=oX z.r<|vars [] z.l;simp only[ua]at alS;have HT:∀W:World,Bq w W->dB W (λb=>b<w.heap.size) z.l vl/\dB W (λb=>b<w.heap.size) z.r vr:=λW k=>⟨tl.move k.size (λb _ q=>k.block b q) λ_ _ q=>q,tr.move k.size (λb _ q=>k.block b q) λ_ _ q=>q⟩;obtain⟨ta,xa,rfl⟩:=tl.iface;obtain⟨tb,xb,rfl⟩:=tr.iface;unfold nu;rw[hk];simp only[dx];obtain⟨W0,HW⟩:∃W0,W0=((w.alloc<|Cv #[Iv 6,Nv z.f.al,Nv z.f.to,Sv<|bs [],Sv<|bs [],Lv sa n c,Lv none 0 0] 34).alloc<|Cv #[Iv 6,Nv z.f.al,Nv z.f.to,Fv ta xa,Fv tb xb] 146).alloc (Cv #[Iv 0,Iv 0,Iv 0,Sv ⟨#[]⟩,Sv ⟨#[]⟩,Lv none 0 0,Lv none 0 0] 34):=⟨_,rfl⟩;have K0:Bq w W0:=by rw[HW];exact((bw _).alloc ag _).alloc bB _
 have R0:Bx W0 w.heap.size #[Iv 6,Nv z.f.al,Nv z.f.to,Sv<|bs [],Sv<|bs [],Lv sa n c,Lv none 0 0]:=by rw[HW];exact((Bx.new w _ _).alloc _).alloc _
 have F0:Bx W0 (w.heap.size+1) #[Iv 6,Nv z.f.al,Nv z.f.to,Fv ta xa,Fv tb xb]:=by rw[HW];have:=(Bx.new (w.alloc<|Cv #[Iv 6,Nv z.f.al,Nv z.f.to,Sv<|bs [],Sv<|bs [],Lv sa n c,Lv none 0 0] 34) #[Iv 6,Nv z.f.al,Nv z.f.to,Fv ta xa,Fv tb xb] 146).alloc<|Cv #[Iv 0,Iv 0,Iv 0,Sv ⟨#[]⟩,Sv ⟨#[]⟩,Lv none 0 0,Lv none 0 0] 34;simpa using this
 have Z0:Bx W0 (w.heap.size+1+1) #[Iv 0,Iv 0,Iv 0,Sv ⟨#[]⟩,Sv ⟨#[]⟩,Lv none 0 0,Lv none 0 0]:=by rw[HW];have:=Bx.new ((w.alloc<|Cv #[Iv 6,Nv z.f.al,Nv z.f.to,Sv<|bs [],Sv<|bs [],Lv sa n c,Lv none 0 0] 34).alloc<|Cv #[Iv 6,Nv z.f.al,Nv z.f.to,Fv ta xa,Fv tb xb] 146) #[Iv 0,Iv 0,Iv 0,Sv ⟨#[]⟩,Sv ⟨#[]⟩,Lv none 0 0,Lv none 0 0] 34;simpa using this
 have zW:W0.heap.size=w.heap.size+3:=by rw[HW];simp
 go_enter func65,ntmps65;go_wp2_with fail;rw[<-HW];refine EK.mono ?_;rintro e w1⟨cb,nb,mb,rfl,HC1,DJ,hm1,ah0,b_⟩;have K1:=K0.trans<|b_.mono K0.size;have HR1:=R0.below b_;have F1:=F0.below b_;have HZ1:=Z0.below b_;have hcw:cb≠w.heap.size:=λe=>by have h1:=HC1.c 0;rw[e,HR1.c 0]at h1;simp at h1
 have hnw:nb≠w.heap.size:=λe=>by have h1:=DJ.bk.c 0;rw[e,HR1.c 0]at h1;simp at h1
 have hs1:=b_.size;have HWr:=yc HAt (HT w1 K1).1 (λb p=>by have:b<w.heap.size:=p;omega) DJ HC1 ah0 wl zl ae;have S1:=K1.size;have Bp:=ai F1;obtain⟨f1,f2,f3⟩:=F1;go_wp2_with fail;refine HWr.mono ?_;rintro e w2⟨rfl,N2,F2⟩;have K2:=Fr.mn K1 K1.size F2 (λx q=>by subst q;omega);have R2:=HR1.fr F2 (by show ¬w.heap.size=mb;omega);have Fa2:=Bp.fr F2 (by show ¬w.heap.size+1=mb;omega);have Z2:=HZ1.fr F2 (by show ¬w.heap.size+1+1=mb;omega);have C2:=HC1.fr F2 (by show ¬cb=mb;exact ah0);have HR3:=R2.qT 3 (Sv<|bs<|wr dec (vars [] z.l) z.l 0) #[Iv 6,Nv z.f.al,Nv z.f.to,Sv<|bs<|wr dec (vars [] z.l) z.l 0,Sv<|bs [],Lv sa n c,Lv none 0 0] ag ag;have K3:=K2.setCell (p:=⟨w.heap.size,3,none⟩) (br _)<|Sv<|bs<|wr dec (vars [] z.l) z.l 0;have Fa3:=Fa2.nO (b2:=w.heap.size) ae 3<|Sv<|bs<|wr dec (vars [] z.l) z.l 0;have HZ3:=Z2.nO (b2:=w.heap.size) ae 3<|Sv<|bs<|wr dec (vars [] z.l) z.l 0;have C3:=C2.nO (b2:=w.heap.size) hcw 3<|Sv<|bs<|wr dec (vars [] z.l) z.l 0;have N3:=N2.set (b:=w.heap.size) (Ne.symm hnw) ae 3<|Sv<|bs<|wr dec (vars [] z.l) z.l 0;have HWr:=yc HAt (HT _ K3).2 (λb p=>by have:b<w.heap.size:=p;omega) N3 C3 ah0 wrr zr ae;obtain⟨r1,r2,r3⟩:=R2;obtain⟨f1,f2,f3⟩:=Fa2;go_wp2_with fail;refine HWr.mono ?_;rintro e w4⟨rfl,N4,F4⟩;have K4:=Fr.mn K3 K3.size F4 (λx q=>by subst q;omega)
 have R4:=HR3.fr F4 (by show ¬w.heap.size=mb;omega);have Z4:=HZ3.fr F4 (by show ¬w.heap.size+1+1=mb;omega);have R5:=R4.qT 4 (Sv<|bs<|wr dec (vars (vars [] z.l) z.r) z.r 0) #[Iv 6,Nv z.f.al,Nv z.f.to,Sv<|bs<|wr dec (vars [] z.l) z.l 0,Sv<|bs<|wr dec (vars (vars [] z.l) z.r) z.r 0,Lv sa n c,Lv none 0 0] ag ag;have K5:=K4.setCell (p:=⟨w.heap.size,4,none⟩) (br _)<|Sv<|bs<|wr dec (vars (vars [] z.l) z.r) z.r 0;have Z5:=Z4.nO (b2:=w.heap.size) ae 4<|Sv<|bs<|wr dec (vars (vars [] z.l) z.r) z.r 0;obtain⟨r1,r2,r3⟩:=R4;obtain⟨q1,q2,q3⟩:=Z4;go_wp2_with fail;have⟨p1,p2,p3⟩:=Z5.T8 rfl (Iv 6) (Nv z.f.al) (Nv z.f.to) (Sv<|bs<|wr dec (vars [] z.l) z.l 0) (Sv<|bs<|wr dec (vars (vars [] z.l) z.r) z.r 0) (Lv sa n c) (Lv none 0 0);refine bodyPost_ret (v:=Av #[Iv 6,Nv z.f.al,Nv z.f.to,Sv<|bs<|wr dec (vars [] z.l) z.l 0,Sv<|bs<|wr dec (vars (vars [] z.l) z.r) z.r 0,Lv sa n c,Lv none 0 0]) (by simp[results,Tryz.results65,go_sem,p1]) rfl ⟨rfl,?_⟩;exact(((((((K5.setCell (p:=⟨w.heap.size+1+1,0,none⟩) bB _).setCell (p:=⟨w.heap.size+1+1,1,none⟩) bB _).setCell (p:=⟨w.heap.size+1+1,2,none⟩) bB _).setCell (p:=⟨w.heap.size+1+1,3,none⟩) bB _).setCell (p:=⟨w.heap.size+1+1,4,none⟩) bB _).setCell (p:=⟨w.heap.size+1+1,5,none⟩) bB _).setCell (p:=⟨w.heap.size+1+1,6,none⟩) bB _)
def Vx(HAt:∀nd,WN nd->VY nd){vr:Value}(hf:qO w (λ_=>True) z vl vr)(hz:q9 z)sa n c:
 Cq 65 #[nu dx (bs []) (bs []) sa n c,BQ z.f vl vr] w λe w'=>e=.returned (nu z.f (Wh z) (Wi z) sa n c)/\Bq w w':=by
 obtain hk|hk:=hf.k
 .exact Vw HAt hk hf hz sa n c
 .obtain⟨rfl,rfl⟩:=hf.rK hk;exact Vv hk sa n c
def Fin.wf{str:rF}{nx:Nx}{vr:Nat->Nat}{ds:List Nat}{ty V:Nat->Ty}{F:Nat->Prop}(h:Un.Fin str nx vr F V)(ho:Un.Of str vr (λn=>n∈ds) ty)(hw:∀n∈ds,Wf<|ty n):∀(n x:Nat),size (V x)<=n->F x->Wf (V x)
 |0,x,hn,_=>absurd hn (by have:=size_pos<|V x;omega)|n+1,x,hn,hx=>by
  have⟨_,h2⟩:=h x hx
  cases e:str x with
  |none=>rw[e]at h2;rw[h2];simp[Wf]|some p=>
   obtain⟨c,l⟩:=p;rw[e]at h2;obtain⟨hs,a,b,d⟩:=h2;have⟨o1,o2,o3⟩:=ho.aJ x c l e;have w1:=hw x o1;rw[o2]at w1;rw[d]at hn⊢;have hlen:=tG a;refine⟨?_,?_⟩
   .have:=w1.1;rw[List.length_map]at this⊢;rw[<-hlen];exact this
   .rw[pM];intro t ht;obtain⟨y,hy,rfl⟩:=List.mem_map.1 ht;have:=eC (V:=V) hy;simp[size]at hn;exact Fin.wf h ho hw n y ae<|b y hy
def abt{ty:Nat->Ty}(ho:Un.Of str vr (λn=>n∈ds) ty)(hj:JR str (λ_=>none) dP a b false):∀σ,sub σ (ty a)≠sub σ (ty b):=λσ e=>hj.no rfl _ (ho.kL σ) e
def ah1{ty:Nat->Ty}(ho:Un.Of str vr (λn=>n∈ds) ty)(hj:JR str (λ_=>none) dP a b true)(hn:∀W,¬kK str dP W):∀σ,sub σ (ty a)≠sub σ (ty b):=λσ e=>hn _<|((hj.yes rfl).1 _).2 ⟨ho.kL σ,e⟩
end
section
open Go.ChangeMaps Go.MapKept Un
structure TpD tl(g:fW)(cq:Nat->Nat)n l(D:Nat->Prop):Prop where
 up:∀m,D m->m∈g.ds/\g.nx m=none/\l<g.lv m/\g.lv m≠aL/\cq m=tl
 no:∀m,¬D m->cq m=g.lv m
 hd:∀h,Hd g.nx n h->D h\/g.lv h<=l
 cl:∀a,D a->∀c ps,g.str a=some (c,ps)->∀p,p∈ps->∀h,Hd g.nx p h->D h\/g.lv h<=l
section
variable {s:qv} {l cnt:Nat}
def afr(js:JS w g s)(r:mO l g s n T)(hD:∀R:Nat->Prop,(∀h,Hd g.nx n h->R h)->(∀a k ps p h,R a->g.str a=some (k,ps)->p∈ps->Hd g.nx p h->R h)->∀a,D a->R a):∀a,D a->g.lv a<=l:=λa d=>
 (hD (λx=>x∈g.ds/\g.nx x=none/\g.lv x<=l) (λh k=>⟨js.gl.bI r.mem k,k.head,r.lv h k⟩) (λa k ps p h q hs hp hh=>⟨js.gl.bI (js.jg.VW a k ps q.1 hs p hp) hh,hh.head,jz (js.lc a q.1 q.2.1 k ps hs p hp h hh) q.2.2⟩) a d).2.2
def kH.tp(js:JS w g s)(hl:l+1<aL)(r:mO (l+1) g s n T)(d:kH g.str g.nx g.ds g.lv cq n l D):TpD l g cq n l D:=
 ⟨λm q=>by have⟨h1,h2,h3,h4⟩:=d.up m q;exact⟨h1,h2,h3,by have:=afr js r d.re m q;omega,h4⟩,d.no,d.hd,d.cl⟩
def uW.tp(js:JS w g s)(hl:l+1<aL)(r:mO (l+1) g s n T)(d:uW g.str g.nx g.ds g.lv cq n l D):TpD aL g cq n l D:=
 ⟨d.up,d.no,λh k=>(d.hd h k).imp id λq=>q.resolve_right (by have:=r.lv h k;omega),λa q k ps hs p hp h hh=>(d.cl a q k ps hs p hp h hh).imp id λz=>z.resolve_right (by
  have h1:=afr js r d.re a q;have h2:=js.lc a (d.up a q).1 (d.up a q).2.1 k ps hs p hp h hh
  omega)⟩
def JS.ah2(js:JS w g s)(hS:ScD g.str g.ds g.nx S)(hn:n∈g.ds)(hh:∀h,Hd g.nx n h->S h){v}(o:aD v (g.V n)):∃x,g.R v x/\S x:=by
 classical
 have⟨y,hy⟩:=js.gl.hd n hn;have⟨x,r,q⟩:=eZ (lv:=λx=>if S x then 0 else 1) js.jg js.can _ n y hn hy (br _) o;refine⟨x,r,?_⟩;have:=q λa ha na k ps hs p hp h hh=>by
  by_cases z:S a
  .simp[z,hS a ha na z k ps hs p hp h hh]
  .grind
 rw[if_pos<|hh y hy]at this;exact Classical.byContradiction λz=>by rw[if_neg z]at this;omega
def Li(aj:AJ w c nb l cnt g s)(hl:l+1<aL)(nm:∀y d,Γ y=some d->∃m,Bu g s d m)(t1:fQ (l+1) c w g s w1 g1 s1)(js:JS w1 g1 s1)(hp:qp rc st x (qu c.mks x) Γ s (.ok (T,s1))){v y}(hv:aD v (sub s1.k T))(hy:g1.R v y):qs (lH rc st Γ) s1.k v↔g1.lv y<=l:=by
 have BT:∀z d,lH rc st Γ z=some d->∃m,Bu g s d m:=λz d q=>by
  cases rc with
  |false=>exact nm z d q|true=>
   simp only[lH,if_true,In.qJ]at q;split at q
   .cases q
   .exact nm z d q
 have t0:=t1.le<|jx l;have hl':l<aL:=ae;constructor
 .rintro⟨z,d,q1,q2,q3⟩;have⟨m,k⟩:=BT z d q1;have k1:=k.kX hl' aj js t0;rw[<-k1.val]at q2;have na:¬dQ g1 v:=λa=>q3<|(k1.any v).2 ⟨q2,a⟩;rw[t1.st.val m k.mem]at q2;have⟨u,ou,ov⟩:=(qy _).1 q2;have⟨r,r1⟩:=aj.js.Cj k.mem ou;obtain e|e:=aj.lv r r1.1 r1.2.1
  .have⟨o1,o2,o3⟩:=t1.st.gC r r1.1;have⟨r',hr'⟩:=js.gl.hd r o1;have e':=t1.lo r r1.1 r r' (.here r1.2.1) hr' l (jx l) e;have ov':aD v (g1.V r):=by rw[js.val r o1<|o2.trans r1.2.2.1,o3,r1.2.2.2];exact ov
   have⟨x2,r2,e2⟩:=eZ (lv:=g1.lv) js.jg js.can _ r r' o1 hr' (br _) ov';have e2:=e2 js.lc;rw[r2.one js.jg hy]at e2;omega
  .exfalso;have qa:dQ g u:=⟨r,r1,e⟩;rw[t1.root js qa]at ov;simp only[aD]at ov;subst ov;exact na<|t1.adF qa
 .intro e;have eb:qp rc st x (qu c.mks x) Γ=qp rc st x (qu c.mks x) (lH rc st Γ):=by
   cases rc with
   |false=>rfl|true=>
    unfold qp;simp only[if_true];have:∀d,qx (lH true st Γ) st d=qx Γ st d:=λd=>by
     funext z;unfold qx lH In.qJ;by_cases q:z=st<;>simp[q]
    simp only[this]
  rw[eb]at hp;have hE:In.du (λn=>¬s.u n\/qs (lH rc st Γ) s.k n) s (lH rc st Γ):=λz d q=>by
   have⟨m,k⟩:=BT z d q;refine⟨k.use,λn o=>?_,λn o=>?_,k.sub⟩
   .by_cases a:n∈d.any
    .exact qd a
    .exact j9 (j9 ⟨z,d,q,o,a⟩)
   .have⟨o1,o2⟩:=(k.any n).1 o;obtain⟨r,r1,r2⟩:=o2;refine⟨(aj.js.root r1).2,λb=>?_⟩;obtain b|⟨z',d',b1,b2,b3⟩:=b
    .exact b (aj.js.root r1).1
    .have⟨m',k'⟩:=BT z' d' b1;rw[<-k'.val]at b2;exact b3<|(k'.any n).2 ⟨b2,r,r1,r2⟩
  have⟨kp,ti⟩:=In.iq rc st x (In.lU c.mks x) (lH rc st Γ) s _ aj.js.ok (λn q=>qd q) hE T s1 hp;have lv:=ti.loc v hv;have⟨u,⟨r,r1,r2⟩,ov⟩:=(t1.st.TN l (j5 l) v).1 ⟨y,hy,e⟩;have hu:=aj.js.root r1;have fu:qs (lH rc st Γ) s.k u:=by
   refine Classical.byContradiction λz=>?_;have nz:¬(¬s.u u\/qs (lH rc st Γ) s.k u):=λq=>q.elim (λq=>q hu.1) z;rw[kp.fix hu.2 nz]at ov;simp only[aD]at ov;subst ov;exact nz lv
  obtain⟨z,d,q1,q2,q3⟩:=fu;have⟨m,k⟩:=BT z d q1;refine⟨z,d,q1,?_,λa=>?_⟩
  .rw[<-Fp t1.ky];exact(qy _).2 ⟨u,q2,ov⟩
  .have⟨r',a1,a2⟩:=t1.adF ((k.any v).1 a).2;rw[a1.one js.jg hy]at a2;omega
end
def vA(g:fW)l x:=∃S:Nat->Prop,ScD g.str g.ds g.nx S/\(∀y,S y->g.lv y<=l\/g.lv y=aL)/\S x
section
variable {s:qv} {l cnt ak tl:Nat} {bi:Nx}
def TP(aj:AJ w c nb l cnt g s)(hl:l+1<aL)(nm:∀y d,Γ y=some d->∃m,Bu g s d m)(a1:AJ w1 c nb (l+1) ak g1 s1)(t1:fQ (l+1) c w g s w1 g1 s1)(r1:mO (l+1) g1 s1 n T)(hp:qp rc st x (qu c.mks x) Γ s (.ok (T,s1)))(hg:GL w2 g1.ds g1.str bi g1.vr g1.ly cq)(e:iD g1.str g1.nx bi)(d:TpD (if qz x then aL else l) g1 cq n l D)(F:Fr (jS c g1) w1 w2)(je:JE w2 c nb l ak):
 ∃g2,AJ w2 c nb l ak g2 s1/\fQ l c w g s w2 g2 s1/\Bu g2 s1 (qt (lH rc st Γ) s1.k T<|qz x) n:=by
 obtain⟨gx,V8⟩:∃gx:fW,gx={g1 with nx:=bi,lv:=cq}:=⟨_,rfl⟩;have e0:gx.ds=g1.ds:=by rw[V8]
 have e1:gx.str=g1.str:=by rw[V8]
 have e2:gx.nx=bi:=by rw[V8]
 have e3:gx.lv=cq:=by rw[V8]
 have e4:gx.vr=g1.vr:=by rw[V8]
 have e5:gx.V=g1.V:=by rw[V8]
 have hG:GL w2 gx.ds gx.str gx.nx gx.vr gx.ly gx.lv:=by rw[V8];exact hg
 have js:=a1.js;have tl2:∀m,D m->cq m=aL\/cq m=l:=λm q=>by
  have:=(d.up m q).2.2.2.2;split at this
  .exact qd this
  .exact j9 this
 have low:∀m,g1.lv m<=l->cq m=g1.lv m:=λm q=>d.no m λz=>by have:=(d.up m z).2.2.1;omega
 have any:∀m,g1.lv m=aL->cq m=aL:=λm q=>by rw[d.no m λz=>(d.up m z).2.2.2.1 q];exact q
 have bk:∀{m h},Hd gx.nx m h->Hd g1.nx m h:=λk=>e.back js.gl<|e2▸k;have fw:∀{m h},Hd g1.nx m h->Hd gx.nx m h:=λk=>e2▸e.jN _ _ k;have lc1:∀a,a∈g1.ds->g1.nx a=none->cq a<=l->∀k ps,g1.str a=some (k,ps)->∀p,p∈ps->∀h,Hd g1.nx p h->cq h<=cq a:=λa ha hn hz k ps hs p hp h hh=>by
  by_cases q:D a
  .have ea:=(tl2 a q).resolve_left ae;obtain z|z:=d.cl a q k ps hs p hp h hh
   .obtain y|y:=tl2 h z
    .have h1:=(d.up a q).2.2.2.2;have h2:=(d.up h z).2.2.2.2;omega
    .omega
   .rw[low h z];omega
  .rw[d.no a q]at hz⊢;have z:=js.lc a ha hn k ps hs p hp h hh;rw[low h ae];exact z
 have hP:ScD gx.str gx.ds gx.nx (vA gx l):=λx hx hn⟨S,h1,h2,h3⟩k ps hs p hp h hh=>⟨S,h1,h2,h1 x hx hn h3 k ps hs p hp h hh⟩;have lcx:∀a,a∈gx.ds->gx.nx a=none->vA gx l a->∀k ps,gx.str a=some (k,ps)->∀p,p∈ps->∀h,Hd gx.nx p h->gx.lv h<=gx.lv a:=λa ha hn hN k ps hs p hp h hh=>by
  have hN':=hP a ha hn hN k ps hs p hp h hh;obtain⟨S,_,q2,q3⟩:=hN;obtain⟨S',_,q2',q3'⟩:=hN';obtain z|z:=q2 a q3
  .rw[e3]at z⊢;exact lc1 a (e0▸ha) ((e.Bf a).1<|e2▸hn) z k ps (e1▸hs) p hp h<|bk hh
  .grind
 have JS2:=JS.cut hG (by rw[e1,e2];exact e.mF _ js.mF) (by rw[V8];exact js.inj) (λm h k=>by rw[e1,e4,e5];exact js.can m h<|bk k) (by rw[V8];exact js.val) (by rw[V8];exact js.use) js.ok hP lcx;have kl:∀m,m∈g1.ds->(∀h,Hd g1.nx m h->g1.lv h<=l)->gx.K (vA gx l) m:=λm hm q=>by
  refine⟨e0▸hm,λh hh=>⟨λy=>y∈g1.ds/\cq y<=l,λa ha hn z k ps hs p hp h hh=>?_,λy z=>qd (by rw[e3];exact z.2),js.gl.bI hm<|bk hh,by rw[low h<|q h<|bk hh];exact q h<|bk hh⟩⟩;rw[e0]at ha;rw[e1]at hs;exact⟨js.gl.bI (js.jg.VW a k ps ha hs p hp)<|bk hh,jz (lc1 a ha ((e.Bf a).1<|e2▸hn) z.2 k ps hs p hp h<|bk hh) z.2⟩
 have ko:∀m,m∈g.ds->gx.K (vA gx l) m:=λm hm=>by
  have hm1:=(t1.st.gC m hm).1;have key:∀m,m∈g.ds->∀h,Hd g1.nx m h->(h∈g1.ds/\cq h<=l)\/(h∈g.ds/\g.nx h=none/\g.lv h=aL):=λm hm h hh=>by
   have⟨h0,k0⟩:=aj.js.gl.hd m hm;obtain z|z:=aj.hd hm k0
   .have:=t1.lo m hm h0 h k0 hh l (jx l) z;exact qd ⟨js.gl.bI (t1.st.gC m hm).1 hh,by rw[low h this];exact this⟩
   .rw[hh.one (t1.an m hm h0 k0 z).1];exact j9 ⟨aj.js.gl.bI hm k0,k0.head,z⟩
  refine⟨e0▸hm1,λh hh=>⟨λy=>(y∈g1.ds/\cq y<=l)\/(y∈g.ds/\g.nx y=none/\g.lv y=aL),λa ha hn z k ps hs p hp h hh=>?_,λy z=>?_,key m hm h<|bk hh⟩⟩
  .rw[e0]at ha;rw[e1]at hs;obtain z|⟨z1,z2,z3⟩:=z
   .exact qd ⟨js.gl.bI (js.jg.VW a k ps ha hs p hp)<|bk hh,jz (lc1 a ha ((e.Bf a).1<|e2▸hn) z.2 k ps hs p hp h<|bk hh) z.2⟩
   .rw[(t1.st.gC a z1).2.1]at hs;exact key p (aj.js.jg.VW a k ps z1 hs p hp) h<|bk hh
  .rw[e3];exact z.imp (λq=>q.2) λq=>any y (t1.an y q.1 y (.here q.2.1) q.2.2).2
 have Sn:ScD g1.str g1.ds g1.nx (λy=>D y\/(y∈g1.ds/\g1.lv y<=l)):=λa ha hn z k ps hs p hp h hh=>by
  have hd:=js.gl.bI (js.jg.VW a k ps ha hs p hp) hh;obtain z|z:=z
  .exact(d.cl a z k ps hs p hp h hh).imp id λq=>⟨hd,q⟩
  .exact j9 ⟨hd,jz (js.lc a ha hn k ps hs p hp h hh) z.2⟩
 have Snl:∀y,D y\/(y∈g1.ds/\g1.lv y<=l)->cq y<=l\/cq y=aL:=λy z=>by
  obtain z|z:=z
  .grind
  .grind
 have hn0:∀h,Hd g1.nx n h->D h\/(h∈g1.ds/\g1.lv h<=l):=λh hh=>(d.hd h hh).imp id λq=>⟨js.gl.bI r1.mem hh,q⟩;have Sx:∀y,y∈g1.ds->g1.nx y=none->D y\/(y∈g1.ds/\g1.lv y<=l)->gx.K (vA gx l) y:=λy hy ny z=>by
  refine⟨e0▸hy,λh hh=>?_⟩;rw[(bk hh).one<|.here ny];exact⟨_,λa ha hn z k ps hs p hp h hh=>Sn a (e0▸ha) ((e.Bf a).1<|e2▸hn) z k ps (e1▸hs) p hp h<|bk hh,λy z=>by rw[e3];exact Snl y z,z⟩
 have kn:gx.K (vA gx l) n:=by
  refine⟨e0▸r1.mem,λh hh=>?_⟩;exact(Sx h (js.gl.bI r1.mem<|bk hh) (bk hh).head<|hn0 h<|bk hh).2 h (.here hh.head)
 have V2:∀{m},gx.K (vA gx l) m->(gx.cut<|vA gx l).V m=g1.V m:=λq=>by rw[(bF q).2.2,e5]
 have rt:∀{v y},(gx.cut<|vA gx l).R v y↔g1.R v y/\gx.K (vA gx l) y:=λ{v y}=>by
  constructor
  .rintro⟨q1,q2,q3,q4⟩;have k:=cN.1 q1;rw[(bF k).2.1,e2]at q2;rw[(bF k).1,e1]at q3;exact⟨⟨e0▸k.1,(e.Bf y).1 q2,q3,by have:gx.vr y=v:=q4;rw[e4]at this;exact this⟩,k⟩
  .rintro⟨⟨q1,q2,q3,q4⟩,k⟩;exact⟨cN.2 k,by rw[(bF k).2.1,e2];exact(e.Bf y).2 q2,by rw[(bF k).1,e1];exact q3,by show gx.vr y=v;rw[e4];exact q4⟩
 have lvx:(gx.cut<|vA gx l).lv=cq:=e3;refine⟨gx.cut<|vA gx l,⟨je,JS2,a1.us,λm hm hn=>?_,λm hm=>a1.lo m<|e0▸(cN.1 hm).1⟩,⟨⟨λm hm=>?_,λm hm=>?_,λi hi v=>?_⟩,λm hm h k q=>?_,λm hm h h' k k' i hi z=>?_,λm hm=>t1.nw m<|e0▸(cN.1 hm).1,?_,t1.ky,t1.um⟩,⟨cN.2 kn,?_,λv=>?_,λv o=>?_,λv q=>(In.RS q).1⟩⟩
 .have k:=cN.1 hm;rw[(bF k).2.1]at hn;have⟨S,_,q2,q3⟩:=k.2 m<|.here hn;rw[lvx,<-e3];exact q2 m q3
 .have⟨o1,o2,o3⟩:=t1.st.gC m hm;have k:=ko m hm;exact⟨cN.2 k,by rw[(bF k).1,e1,o2],by show gx.vr m=_;rw[e4,o3]⟩
 .rw[V2<|ko m hm];exact t1.st.val m hm
 .rw[<-t1.st.TN i ae v];constructor
  .rintro⟨y,r,z⟩;rw[lvx]at z;refine⟨y,(rt.1 r).1,?_⟩;rw[<-d.no y λq=>by obtain h|h:=tl2 y q<;>omega];exact z
  .rintro⟨y,r,z⟩;exact⟨y,rt.2 ⟨r,kl y r.1 λh hh=>by rw[hh.one<|.here r.2.1];omega⟩,by rw[lvx,low y ae];exact z⟩
 .have⟨k1,q1⟩:=t1.an m hm h k q;exact⟨(adh hG (fw k1)<|ko m hm).1,by rw[lvx];exact any h q1⟩
 .have:=t1.lo m hm h h' k (bk<|agX hG (ko m hm) k') i ae z;rw[lvx,low h' ae];exact this
 .exact t1.fr.trans' F λb q=>by
   obtain q|q|q:=q
   .omega
   .omega
   .exact(t1.nw b q).imp (λz=>j9<|j9 z) id
 .rw[V2 kn,r1.val];exact(js.ok.vY T).symm
 .rw[V2 kn,r1.val];have abu:aD v (sub s1.k T)->∃y,g1.R v y/\(D y\/(y∈g1.ds/\g1.lv y<=l)):=λo=>js.ah2 Sn r1.mem hn0 (by rw[r1.val];exact o);have ah3:∀{y},g1.R v y->(D y\/(y∈g1.ds/\g1.lv y<=l))->(dQ (gx.cut<|vA gx l) v↔cq y=aL):=λ{y}r q=>by
   constructor
   .rintro⟨y',r',z⟩;rw[<-(rt.1 r').1.one js.jg r,<-lvx];exact z
   .exact λz=>⟨y,rt.2 ⟨r,Sx y r.1 r.2.1 q⟩,by rw[lvx];exact z⟩
  cases hv:qz x with
  |false=>
   simp only[qt];constructor
   .intro q;cases q
   .rintro⟨o,a⟩;exfalso;have⟨y,r,q⟩:=abu o;have z:=(ah3 r q).1 a;obtain q|q:=q
    .have:=(d.up y q).2.2.2.2;rw[hv]at this;simp only[Bool.false_eq_true,if_false]at this;omega
    .grind
  |true=>
   simp only[qt,if_true,In.ys,List.mem_filter,decide_eq_true_eq];constructor
   .rintro⟨o,nf⟩;have o:=In.bC.1 o;have⟨y,r,q⟩:=abu o;refine⟨o,(ah3 r q).2 ?_⟩;have nl:=λz=>nf<|(Li aj hl nm t1 js hp o r).2 z;have dy:=q.resolve_right λz=>nl z.2;have:=(d.up y dy).2.2.2.2;rw[hv]at this;exact this
   .rintro⟨o,a⟩;refine⟨In.bC.2 o,λf=>?_⟩;have⟨y,r,q⟩:=abu o;have z:=(ah3 r q).1 a;have:=(Li aj hl nm t1 js hp o r).1 f;rw[low y this]at z;omega
 .have o:aD v (sub s1.k T):=o;rw[<-r1.val]at o;have⟨y,r⟩:=js.Cj r1.mem o;exact(js.root r).1
end
end
section
open Go.ChangeMaps Un
section
variable {nd:Nd}
def tK(HB:AP nd):VY nd:=by
 intro w B pb bv l last mv Q v k h hp hq hk hl hB;have⟨tv,xv,hv⟩:=hp.bJ;have hzp:=h.lt;have n1:w.heap.size≠pb:=ae;have n2:w.heap.size+1≠pb:=ae;obtain⟨R,hR⟩:∃R,R=uJ B pb mv (l++(sep last++wT nd k)) w:=⟨_,rfl⟩;obtain⟨r,hr⟩:∃r,r=rk nd:=⟨_,rfl⟩;have bN:Bq w ((w.alloc<|Cv #[Pv pb] 102).alloc<|Cv #[v] 92):=(bw _).alloc ag _;have X1:=((Bx.new w #[Pv pb] 102).alloc<|Cv #[v] 92);have X2:Bx ((w.alloc<|Cv #[Pv pb] 102).alloc<|Cv #[v] 92) (w.heap.size+1) #[v]:=by have:=Bx.new (w.alloc<|Cv #[Pv pb] 102) #[v] 92;simpa using this
 have HN:=h.af bN;have HP:=hp.af bN;have F0:=FN.of (B:=B) (pb:=pb) bN;have HQ:=hq.fn F0;subst hv;rw[<-hR];clear h hp hq bN;go_enter func51,ntmps51;go_wp2_with fail;generalize((w.alloc<|Cv #[Pv pb] 102).alloc<|Cv #[Fv tv<|Av xv] 92)=W0 at X1 X2 HN HP F0 HQ⊢;generalize w.heap.size=b1 at n1 n2 X1 X2⊢;have c1:=X1.c;have f1:=X1.f;have z1:=X1.z;have c2:=X2.c;have f2:=X2.f;have z2:=X2.z;have HRK:Hid (∀W,Bq W0 W->Cq 76 #[Fv tv<|Av xv] W λe w'=>e=Rv (Nv r)/\Bq W w'):=ai (λW hW=>by rw[hr];exact aaV<|HP.af hW)
 have HG:Hid (∀W,Bq W0 W->Cq 75 #[Pv pb,.bool<|decide (r<k),.func (.func 77) #[] #[Pv b1,Pv<|b1+1]] W λe w'=>e=Rv (.tuple #[])/\R e w'/\w'.cell? ⟨b1,0,none⟩=some (Pv pb)/\w'.cell? ⟨b1+1,0,none⟩=some (Fv tv<|Av xv)):=ai (λW hW=>by
  have FW:=FN.of (B:=B) (pb:=pb) hW;rw[hr];refine(adU HB k hk (HN.af hW) (HP.af hW) (HQ.fn FW) hl hB b1 (b1+1) (X1.below hW) (X2.below hW) n1 n2).mono ?_;rintro e w2⟨rfl,VO,C9,Mc,fi2,Wx⟩;have Y1:=Wx.lh (X1.below hW) n1 qAi;have Y2:=Wx.lh (X2.below hW) n2 qAi;refine⟨rfl,?_,Y1.c 0,Y2.c 0⟩;rw[hR]
  exact⟨rfl,VO,C9,Mc,fi2,F0.trans<|FW.trans Wx⟩)
 clear HB HN HP HQ F0 hR hr hl X1 X2 n1 n2 hzp hk hB;have k1:W0.cell? ⟨b1,0,none⟩=some (Pv pb):=c1 0;have k2:W0.cell? ⟨b1+1,0,none⟩=some (Fv tv<|Av xv):=c2 0;clear c1 c2 f1 f2;go_region_held3(λw'=>w'.cell? ⟨b1,0,none⟩=some (Pv pb)/\w'.cell? ⟨b1+1,0,none⟩=some (Fv tv<|Av xv)) (first|go_keep|(simp[*])) (first|(go_at_call 76;refine(uh HRK _ (ql _ _).drew).mono ?_;rintro e w1⟨rfl,b_⟩;have dq:=ai<|aaX b_;have k3:w1.cell? ⟨b1,0,none⟩=some (Pv pb):=(qe (a:=⟨b1,0,none⟩)<|(uh dq).block b1 z1).trans k1;have k4:w1.cell? ⟨b1+1,0,none⟩=some (Fv tv<|Av xv):=(qe (a:=⟨b1+1,0,none⟩)<|(uh dq).block (b1+1) z2).trans k2;clear b_)|(go_at_call 75;with_reducible refine(uh HG _<|uh dq).mono ?_;rintro e w2⟨rfl,hR2,k5,k6⟩;have HR2:=ai hR2;clear hR2))
 all_goals(
  go_wp2
  go_end0
  exact uh HR2)
end
def abv nd(h:WN nd):VY nd:=by
 induction h with
 |var s n f t a h=>exact tK (abo s n f t a h)|fn s n x y f t a hx hy dH gJ=>exact tK (aeg s n x y f t a dH gJ)|pr s n x y f t a hx hy dH gJ=>exact tK (aeh s n x y f t a dH gJ)|up s n L f t a h hl hL ih=>exact tK<|aef s n L f t a h hl ih
end
section
open Un
namespace In
def PlQ n(z:Ft):=z.f.al<z.f.to/\z.f.to<=n/\(z.f.kind=6->∀σ,sub σ z.l≠sub σ z.r)
def Hq{α:Type}n(m:MM α):=∀s o,m s o->∀z,o=.error z->PlQ n z
def Hq.ret{a:α}:Hq n (cT a):=by grind[Hq,cT]
def Hq.no:Hq n (noM:MM α):=λs o h=>h.elim
def Hq.and{m}{g:α->MM β}(h:Hq n m)(k:∀a,Hq n<|g a):Hq n (andM m g):=by grind[Hq,andM]
def Hq.ite{c:Prop}[Decidable c]{a b:MM α}(h1:Hq n a)(h2:Hq n b):Hq n (if c then a else b):=yG
def Hq.new:Hq n kM:=by grind[Hq,kM]
def Hq.draw{l}:Hq n (sK l ρ):=by grind[Hq,sK]
def Hq.inst{t}:Hq n (sE t ρ):=Hq.draw.and λ_=>.ret
def Hq.eq{a b:Ty}(h1:f<t)(h2:t<=n):Hq n (ub a b f t):=λs o h z e=>by
 obtain⟨_,rfl⟩|⟨_,_,⟨_,_,rfl⟩|⟨h3,rfl⟩⟩:=h
 .cases e;exact⟨h1,h2,nofun⟩
 .cases e
 .cases e;exact⟨h1,h2,λ_=>h3⟩
def afs(h:Bi n x):iw x<ux x/\ux x<=n:=by
 cases x;exact⟨h.1,h.2.1⟩
def Hq.at{a b:Ty}(h:Bi n x):Hq n (ub a b (iw x)<|ux x):=.eq (afs h).1 (afs h).2
def Hq.low{x:BA}(h1:f<t)(h2:t<=n):Hq n (wY Γ x f t):=by
 rw[wY];split
 .exact .no
 .rintro s o(⟨_,rfl⟩|⟨_,ρ,s',_,rfl⟩)z e
  .cases e;exact⟨h1,h2,nofun⟩
  .cases e
def abw:∀{tk:List Ty}{L:List Nd}{ps:List PM}{g:Env}{ρ:Rn},sS n L->(∀p∈ps,∀g,Hq n<|p g)->Hq n (nD tk L ps g ρ)
 |u::tk,x::L,p::ps,g,ρ,hL,hp=>by
  unfold nD;exact(hp p ag g).and λq=>Hq.inst.and λi=>(Hq.at hL.1).and λ_=>abw hL.2 λp' q=>hp p' ML
 |[],_,_,_,_,_,_=>by unfold nD;exact .ret|_::_,[],_,_,_,_,_=>by unfold nD;exact .ret|_::_,_::_,[],_,_,_,_=>by unfold nD;exact .ret
def nH{γ:Type}{ps:List (Env->MM γ)}(hp:∀p∈ps,∀g,Hq n<|p g)i g:Hq n (dv ps i g):=by
 rw[dv];by_cases hi:i<ps.length
 .rw[jd,jf hi];exact hp _ (ja hi) g
 .rw[jd,jj ae];exact .no
def ah4{ps}{g}(hL:sS n L)(hp:∀p∈ps,∀g,Hq n<|p g):Hq n (Bv mk k s L ps g):=by
 rw[Bv];repeat' split
 .exact Hq.new.and λ_=>.ret
 .exact Hq.new.and λ_=>.ret
 .exact .ret
 .exact .ret
 .exact .ret
 .exact(nH hp 0 g).and λa=>(nH hp 1 a.2).and λb=>.ret
 .exact .no
 .exact(abw hL hp).and λq=>Hq.inst.and λi=>.ret
mutual
def aft:∀nd,Bi n nd->∀g,Hq n<|dY mk nd g
 |.mk k s _ L f t a,h,g=>by
  rw[dY];exact ah4 h.2.2.2.2<|abx L h.2.2.2.2
def abx:∀L,sS n L->∀p∈l7 mk L,∀g,Hq n<|p g
 |[],_,p,hp,g=>by simp[l7]at hp|x::l,h,p,hp,g=>by
  rw[l7]at hp;obtain e|e:=List.mem_cons.1 hp
  .subst e;exact aft x h.1 g
  .exact abx l h.2 p e g
end
def Lj:∀L,(dZ mk L).length=L.length
 |[]=>by simp[dZ]|x::l=>by simp[dZ,Lj l]
def SL{p:Prop}(h:p:=by
 unfold iU;rw[jd,jf hi]
 exact hL.mem _<|ja hi):p:=h
def SM{p:Prop}(h:p:=by
 unfold dv;rw[jd,jj (by rw[Lj];omega)]
 rfl):p:=h
def SN{p:Prop}(h:p:=by
 rw[this];rintro s o(⟨x,h1,_⟩|⟨a,s',h1,_⟩)
 .exact h1.elim
 .exact h1.elim):p:=h
def AZ(hL:sS n L)(hp:∀p∈dZ mk L,∀g,Hq n<|p g)(i:Nat)(Γ:Env){g:Ty->MM β}(hg:Bi n (iU L i)->∀a,Hq n<|g a):Hq n (andM (dv (dZ mk L) i Γ) g):=by
 by_cases hi:i<L.length
 .refine(nH hp i Γ).and (hg ?_);exact SL
 .have:dv (dZ mk L) i Γ=noM:=by
   exact SM
  exact SN
def aby{Γ:Env}{t r:Ty}:∀(L:List Nd),sS n L->(∀p∈dZ mk L,∀g,Hq n<|p g)->Hq n (kS mk Γ t r L<|dZ mk L)
 |[],_,_=>by unfold kS;exact .ret|[x],_,_=>by simp only[dZ,kS];exact .ret|p::e::L,hL,hp=>by
  simp only[dZ]at hp⊢;unfold kS;exact(aft p hL.1 _).and λq=>(Hq.at hL.1).and λ_=>(hp _ ag _).and λu=>(Hq.at hL.2.1).and λ_=>aby L hL.2.2 λp' q=>hp p' ML
def SO{x:BA}{e}{pe}(he:Bi n e)(hp:∀g,Hq n<|pe g):Hq n (cy rc x e pe Γ):=by
 rw[cy];split
 .exact Hq.new.and λv=>(hp _).and λt=>(Hq.at he).and λ_=>.ret
 .exact hp _
def afu{x:BA}(hL:sS n L)(hp:∀p∈dZ mk L,∀g,Hq n<|p g):Hq n (qS rc x (iU L 0) (dv (dZ mk L) 0) (dv (dZ mk L) 1) Γ):=by
 rw[qS];refine Hq.and ?_ λt=>λs o q=>nH hp 1 _ s o q;by_cases hi:0<L.length
 .refine SO ?_ (nH hp 0);exact SL
 .have:∀Γ,dv (dZ mk L) 0 Γ=noM:=λΓ=>by
   exact SM
  rw[cy];split
  .refine Hq.new.and λv=>?_;exact SN
  .rw[this];exact .no
def ah5(h1:f<t)(h2:t<=n)(hL:sS n L)(hp:∀p∈dZ mk L,∀g,Hq n<|p g):Hq n (oB mk k s L f t (dZ mk L) Γ):=by
 unfold oB;refine .ite (.low h1 h2)<|.ite ?_<|.ite .ret<|.ite .ret<|.ite .ret<|.ite ?_<|.ite (.ite ?_ .no)<|.ite ?_<|.ite ?_<|.ite ?_<|.ite (afu hL hp)<|.ite (afu hL hp)<|.ite ?_<|.ite ?_ .no
 .unfold upM;split
  .exact .no
  .exact Hq.inst.and λ_=>.ret
 .exact(nH hp 0 Γ).and λa=>(nH hp 1 Γ).and λb=>.ret
 .exact AZ hL hp 0 Γ λh a=>(Hq.at h).and λ_=>.ret
 .exact AZ hL hp 0 Γ λh a=>(Hq.at h).and λ_=>AZ hL hp 1 Γ λh a=>(Hq.at h).and λ_=>.ret
 .exact(nH hp 0 Γ).and λa=>(nH hp 1 Γ).and λb=>Hq.new.and λv=>(Hq.eq h1 h2).and λ_=>.ret
 .exact Hq.new.and λv=>(nH hp 0 _).and λa=>.ret
 .exact AZ hL hp 0 Γ λh a=>(Hq.at h).and λ_=>(nH hp 1 Γ).and λb=>AZ hL hp 2 Γ λh c=>(Hq.at h).and λ_=>.ret
 .refine(nH hp 0 Γ).and λa=>Hq.new.and λv=>Hq.and ?_ λ_=>.ret
  cases L with
  |nil=>simp only[dZ,List.tail];unfold kS;exact .ret|cons x l=>
   simp only[dZ,List.tail]at hp⊢;exact aby l hL.2 λp q=>hp p ML
mutual
def afv:∀nd,Bi n nd->∀Γ,Hq n<|inf mk nd Γ
 |.mk k s _ L f t a,h,Γ=>by
  rw[inf];exact ah5 h.1 h.2.1 h.2.2.2.2<|abz L h.2.2.2.2
def abz:∀L,sS n L->∀p∈dZ mk L,∀g,Hq n<|p g
 |[],_,p,hp,g=>by simp[dZ]at hp|x::l,h,p,hp,g=>by
  rw[dZ]at hp;obtain e|e:=List.mem_cons.1 hp
  .subst e;exact afv x h.1 g
  .exact abz l h.2 p e g
end
def OO{rs:Bool}{n:Nat}:∀{l:List Dc}{mk:Mks}{Γ:Env}{s:St}{B:List (BA×Ty)}{F:Option Ft},(∀d∈l,PlD n d)->Kr rs l mk Γ s B F->∀z,F=some z->PlQ n z
 |[],mk,Γ,s,B,F,_,h,z,e=>by rw[h.2]at e;cases e|.ty t vs ms::r,mk,Γ,s,B,F,hd,h,z,e=>OO (l:=r) (λd q=>hd d ML) h z e|.lt rc t b::r,mk,Γ,s,B,F,hd,h,z,e=>by
  obtain⟨h1,h2⟩:TkP n t/\Bi n b:=hd _<|jc ..;obtain⟨o,ho,hq⟩:=h
  cases o with
  |error x=>
   obtain⟨rfl,rfl⟩:=hq
   cases e
   exact SO h2 (λg=>afv b h2 g) _ _ ho _ rfl
  |ok p=>
   obtain⟨a,s1⟩:=p;obtain⟨_,rfl,rfl⟩|⟨_,T,B',_,rfl,hr⟩:=hq
   .cases e;exact⟨h1.1,h1.2,nofun⟩
   .exact OO (l:=r) (λd q=>hd d ML) hr z e
end In
def nV n(z:Fl):=z.al<=z.to/\z.to<=n/\z.kind≠6
section
variable {ty mk:BA->Option Nat}
theorem nV.tell{c}{k a b}{z}(h:nV n z)(h1:a<=b)(h2:b<=n)(h3:k≠6:=by decide):nV n (bm c k a b z):=by
 rw[bm,Go.Proofs.YtfnkchdeheeiiaaGreatDoor.tell];repeat' split
 all_goals first|exact⟨h1,h2,h3⟩|exact h
def nV.abA{c}{z}(h:nV n z)(h1:c=true->a<=b/\b<=n)(h3:k≠6:=by decide):nV n (bm c k a b z):=by
 cases c with
 |false=>exact h|true=>exact h.tell (h1 rfl).1 (h1 rfl).2 h3
mutual
def afw{own:List BA}:∀nd,Bi n nd->∀z,nV n z->nV n (tU ty own nd z)
 |.mk k s _ L f t a,h,z,hz=>by
  rw[tU];refine OP L h.2.2.2.2 _<|(hz.abA λq=>⟨ae,h.2.2.2.1 ?_⟩).abA λq=>⟨ae,h.2.2.1 ?_⟩
  .simp at q;exact q.1
  .simp at q;exact q.1
def OP{own:List BA}:∀L,sS n L->∀z,nV n z->nV n (gI ty own L z)
 |[],_,z,hz=>by rw[gI];exact hz|x::l,h,z,hz=>by rw[gI];exact OP l h.2 _<|afw x h.1 z hz
end
mutual
def afx:∀nd,Bi n nd->∀q,nV n q.2->nV n (nR mk nd q).2
 |.mk k s _ L f t a,h,q,hz=>by
  rw[nR];split
  .exact hz.tell (by have:=h.1;omega) h.2.1
  .exact abB L h.2.2.2.2 _ (hz.abA λq=>⟨ae,h.2.2.1 (by simp at q;exact q.1)⟩)
def abB:∀L,sS n L->∀q,nV n q.2->nV n (dG mk L q).2
 |[],_,q,hz=>by rw[dG];exact hz|x::l,h,q,hz=>by rw[dG];exact abB l h.2 _<|afx x h.1 q hz
end
mutual
def wP:∀nd,Bi n nd->∀l z,nV n z->nV n (dN ty mk nd l z)
 |.mk k s _ L f t a,h,l,z,hz=>by
  have h1:=h.1;rw[dN];split
  .exact hz.tell ae h.2.1
  .split
   .exact hz.tell ae h.2.1
   .split
    .exact abC L h.2.2.2.2 _ z hz
    .split
     .exact abD L h.2.2.2.2 _ _ z hz
     .split
      .exact abD L h.2.2.2.2 _ _ z hz
      .split
       .exact ah6 L h.2.2.2.2 _ z hz
       .split
        .exact ah7 L h.2.2.2.2 _ z hz
        .exact abE L h.2.2.2.2 _ z hz
def abC:∀L,sS n L->∀l z,nV n z->nV n (ER ty mk L l z)
 |[],_,l,z,hz=>by rw[ER];exact hz|x::r,h,l,z,hz=>by rw[ER];exact wP x h.1 l z hz
def abD:∀L,sS n L->∀l l' z,nV n z->nV n (Jy ty mk L l l' z)
 |[],_,l,l',z,hz=>by rw[Jy];exact hz|x::r,h,l,l',z,hz=>by rw[Jy];exact abC r h.2 l' _<|wP x h.1 l z hz
def ah7:∀L,sS n L->∀l z,nV n z->nV n (ET ty mk L l z)
 |[],_,l,z,hz=>by rw[ET];exact hz|[x],h,l,z,hz=>by rw[ET];exact wP x h.1 l z hz|x::y::r,h,l,z,hz=>by rw[ET];exact afw y h.2.1 _<|wP x h.1 l z hz
def abE:∀L,sS n L->∀l z,nV n z->nV n (gY ty mk L l z)
 |[],_,l,z,hz=>by rw[gY];exact hz|x::r,h,l,z,hz=>by rw[gY];exact abE r h.2 l _<|wP x h.1 l z hz
def ah6:∀L,sS n L->∀l z,nV n z->nV n (ND ty mk L l z)
 |[],_,l,z,hz=>by rw[ND];exact hz|x::r,h,l,z,hz=>by rw[ND];exact abF r h.2 l _<|wP x h.1 l z hz
def abF:∀L,sS n L->∀l z,nV n z->nV n (mV ty mk L l z)
 |[],_,l,z,hz=>by rw[mV];exact hz|p::r,h,l,z,hz=>by rw[mV];exact ah8 r h.2 l _<|afx p h.1 ([],z) hz
def ah8:∀L,sS n L->∀l q,nV n q.2->nV n (IX ty mk L l q)
 |[],_,l,q,hz=>by rw[IX];exact hz|x::r,h,l,q,hz=>by rw[IX];exact abF r h.2 l _<|wP x h.1 _ q.2 hz
end
def afy:∀(vs:List jv),(∀v∈vs,TkP n v)->∀p z,nV n z->nV n (Bz p vs z)
 |[],_,p,z,hz=>hz|v::r,h,p,z,hz=>by
  have:=h v ag;rw[Bz];exact afy r (λx q=>h x ML) _ _ (hz.tell (by have:=this.1;omega) this.2)
def afz{u:V9}{own:List BA}:∀(ms:List Nd),(∀m∈ms,Bi n m/\abk m=2)->∀q,nV n q.2->nV n (Ag u ty own ms q).2
 |[],_,q,hz=>hz|.mk k s _ L f t a::r,h,q,hz=>by
  have⟨h1,h2⟩:=h _<|jc ..;have h2:=h2;rw[Ag];exact afz r (λx q=>h x ML) _<|OP L h1.2.2.2.2 _<|hz.tell ae<|h1.2.2.1 h2
end
def OQ{n:Nat}{u:V9}:∀(l:List Dc),(∀d∈l,PlD n d)->∀e:SE,nV n e.f->nV n (fC u l e).f
 |[],_,e,hz=>hz|.ty t vs ms::r,h,e,hz=>by
  obtain⟨h1,h2,h3⟩:TkP n t/\(∀v∈vs,TkP n v)/\∀m∈ms,Bi n m/\abk m=2:=h _<|jc ..;rw[fC];exact OQ r (λx q=>h x ML) _ (afz ms h3 _<|afy vs h2 _ _<|hz.tell (by have:=h1.1;omega) h1.2)
 |.lt rc t b::r,h,e,hz=>by
  obtain⟨h1,h2⟩:TkP n t/\Bi n b:=h _<|jc ..;rw[fC];exact OQ r (λx q=>h x ML) _<|wP b h2 _ _ hz
def Vy:BA:=⟨#[108,101,116,32,107,32,61,32,102,117,110,32,120,32,45,62,32,102,117,110,32,121,32,45,62,32,120,59,32,108,101,116,32,97,32,61,32,107,32,49,59]⟩
def ah9:List Dc:=[.lt false ⟨1,⟨#[107]⟩,4,5⟩<|.mk 9 ⟨#[120]⟩ 0 [.mk 9 ⟨#[121]⟩ 0 [.mk 1 ⟨#[120]⟩ 0 [] 26 27 26] 17 27 21] 8 27 12,.lt false ⟨1,⟨#[97]⟩,33,34⟩<|.mk 8 fX 0 [.mk 1 ⟨#[107]⟩ 0 [] 37 38 37,.mk 3 ⟨#[49]⟩ 1 [] 39 40 39] 37 40 37]
def abG:bY Vy=.ok ah9:=qkr
def Vz:(fC fS ah9 w_).f=dx:=qkr
namespace In
section
variable {s:St}
def FT{g}{o:Except Ft (β×St)}(h:andM kM g s o):∃v,¬s.u v/\g v ⟨s.k,λn=>s.u n\/n=v⟩ o:=by
 obtain⟨x,⟨v,_,e⟩,_⟩|⟨v,s1,⟨v',hv,e⟩,ho⟩:=h
 .cases e
 .grind
def o_{m}{g}{o:Except Ft (β×St)}{Q:α->St->Prop}(h:andM m g s o)(hm:∀o,m s o->∃a s',o=.ok (a,s')/\Q a s'):∃a s',Q a s'/\g a s' o:=by
 obtain⟨x,h1,_⟩|⟨a,s1,h1,ho⟩:=h
 .grind
 .grind
def aei{x}{v:Nat}(h:Γ x=some (mono<|.var v))(hk:s.k=xf)(ho:inf mk (.mk 1 x n [] f t a) Γ s o):∃s',o=.ok (.var v,s')/\s'.k=xf/\∀n,s'.u n↔s.u n:=by
 simp only[inf,oB,wY,h,if_true]at ho;rw[hk]at ho;obtain⟨h1,_⟩|⟨_,ρ,s',⟨eG,u',hd,e⟩,rfl⟩:=ho
 .simp[sub,size]at h1
 .cases e
  have hr:∀y,ρ y=none:=λy=>hd.out y ag;refine⟨⟨s.k,u'⟩,by simp[sub,via,hr],hk,λn=>⟨λq=>?_,λq=>(hd.use n).2<|qd q⟩⟩;obtain q|⟨y,_,q⟩:=(hd.use n).1 q
  .exact q
  .rw[hr]at q;cases q
end
def akm{u:Nat->Prop}(ho:inf mk (.mk 9 ⟨#[120]⟩ 0 [.mk 9 ⟨#[121]⟩ 0 [.mk 1 ⟨#[120]⟩ 0 [] 26 27 26] 17 27 21] 8 27 12) (λ_=>none) ⟨xf,u⟩ o):∃v v2 s',v≠v2/\o=.ok (nQ (.var v)<|nQ (.var v2)<|.var v,s')/\s'.k=xf/\s'.u v/\s'.u v2:=by
 have e1:∀Γ,inf mk (.mk 9 ⟨#[120]⟩ 0 [.mk 9 ⟨#[121]⟩ 0 [.mk 1 ⟨#[120]⟩ 0 [] 26 27 26] 17 27 21] 8 27 12) Γ=andM kM λv=>andM (inf mk (.mk 9 ⟨#[121]⟩ 0 [.mk 1 ⟨#[120]⟩ 0 [] 26 27 26] 17 27 21)<|gD Γ ⟨#[120]⟩<|mono<|.var v) λa=>cT<|nQ (.var v) a:=λΓ=>by simp[inf,oB,dZ,dv]
 have e2:∀Γ,inf mk (.mk 9 ⟨#[121]⟩ 0 [.mk 1 ⟨#[120]⟩ 0 [] 26 27 26] 17 27 21) Γ=andM kM λv=>andM (inf mk (.mk 1 ⟨#[120]⟩ 0 [] 26 27 26)<|gD Γ ⟨#[121]⟩<|mono<|.var v) λa=>cT<|nQ (.var v) a:=λΓ=>by simp[inf,oB,dZ,dv]
 rw[e1]at ho;have⟨v,hv,ho⟩:=FT ho
 obtain⟨a,s1,⟨v2,cO,rfl,k1,u1,u2⟩,ho⟩:=o_ (Q:=λa s'=>∃v2,v≠v2/\a=nQ (.var v2) (.var v)/\s'.k=xf/\s'.u v/\s'.u v2) ho (by
  intro o ho;rw[e2]at ho;have⟨v2,Th,ho⟩:=FT ho
  obtain⟨a,s1,⟨rfl,k1,u1⟩,ho⟩:=o_ (Q:=λa s'=>a=.var v/\s'.k=xf/\∀n,s'.u n↔((u n\/n=v)\/n=v2)) ho (by
   intro o ho;obtain⟨s',rfl,q1,q2⟩:=aei (v:=v) (by simp[gD]) rfl ho
   exact⟨_,_,rfl,rfl,q1,q2⟩)
  cases ho
  exact⟨_,_,rfl,v2,λe=>Th<|j9 e.symm,rfl,k1,(u1 _).2<|qd<|j9 rfl,(u1 _).2<|j9 rfl⟩)
 cases ho
 exact⟨v,v2,s1,cO,rfl,k1,u1,u2⟩
def akn{v v2:Nat}(cO:v≠v2)(eT:Γ ⟨#[107]⟩=some ⟨nQ (.var v)<|nQ (.var v2)<|.var v,vars []<|nQ (.var v)<|nQ (.var v2)<|.var v⟩){s:St}(hk:s.k=xf)(ho:inf mk (.mk 8 fX 0 [.mk 1 ⟨#[107]⟩ 0 [] 37 38 37,.mk 3 ⟨#[49]⟩ 1 [] 39 40 39] 37 40 37) Γ s o):∃a s' m,o=.ok (a,s')/\sub s'.k a=nQ (.var m) iy:=by
 have hvs:vars [] (nQ (.var v)<|nQ (.var v2)<|.var v)=[v,v2]:=by simp[vars,bh,Un.seen,cO,Ne.symm cO]
 rw[hvs]at eT;have e1:inf mk (.mk 8 fX 0 [.mk 1 ⟨#[107]⟩ 0 [] 37 38 37,.mk 3 ⟨#[49]⟩ 1 [] 39 40 39] 37 40 37) Γ=andM (inf mk (.mk 1 ⟨#[107]⟩ 0 [] 37 38 37) Γ) λa=>andM (cT iy) λb=>andM kM λv=>andM (ub a (nQ b<|.var v) 37 40) λ_=>cT<|.var v:=by simp[inf,oB,dZ,dv]
 rw[e1]at ho
 obtain⟨a,s1,⟨n,n2,rfl,hn,k1,u1,u2⟩,ho⟩:=o_ (Q:=λa s'=>∃n n2,a=nQ (.var n) (nQ (.var n2)<|.var n)/\n≠n2/\s'.k=xf/\s'.u n/\s'.u n2) ho (by
  intro o ho;simp only[inf,oB,wY,eT,if_true]at ho;rw[hk]at ho;obtain⟨h1,_⟩|⟨_,ρ,s',⟨eG,u',hd,e⟩,rfl⟩:=ho
  .rw[cC]at h1;simp[size,ah]at h1
  .cases e
   have⟨n,hn⟩:=Option.ne_none_iff_exists'.1<|hd.all v ag;have⟨n2,hn2⟩:=Option.ne_none_iff_exists'.1<|hd.all v2 ag
   refine⟨_,_,rfl,n,n2,by rw[cC];simp[sub,aS,via,hn,hn2],λe=>cO<|hd.one v v2 n rfl hn (by rw[e];exact hn2),hk,(hd.use n).2<|j9 ⟨v,rfl,hn⟩,(hd.use n2).2<|j9 ⟨v2,rfl,hn2⟩⟩)
 have⟨b,s2,⟨hb,sd⟩,ho2⟩:=o_ (Q:=λb s'=>b=iy/\s'=s1) ho<|λo ho=>⟨_,_,ho,rfl,rfl⟩;rw[hb,sd]at ho2;have⟨r,hr,ho⟩:=FT ho2;have hr1:r≠n:=λe=>hr<|e▸u1;have yK:r≠n2:=λe=>hr<|e▸u2
 have⟨x,s3,⟨m,q⟩,ho3⟩:=o_ (Q:=λ_ s'=>∃m,sub s'.k (.var r)=nQ (.var m) iy) ho (by
  intro o ho;rw[ub]at ho;simp only[k1,cC]at ho;have σ1:sub (λw=>if w=n then iy else if w=r then nQ (.var n2) iy else .var w) (nQ (.var n)<|nQ (.var n2)<|.var n)=sub (λw=>if w=n then iy else if w=r then nQ (.var n2) iy else .var w) (nQ iy<|.var r):=by
   simp[sub,aS,hn.symm,hr1,Ne.symm yK]
  obtain⟨h1,_⟩|⟨_,_,⟨θ,hm,rfl⟩|⟨h1,_⟩⟩:=ho
  .simp[size,ah]at h1
  .refine⟨_,_,rfl,?_⟩;have g:=hm.gen _ σ1 n2;simp only[if_neg<|Ne.symm hn,if_neg<|Ne.symm yK]at g;have ho:=hm.one;simp only[sub,aS,Ty.aJ.injEq,List.cons.injEq,true_and,and_true]at ho
   cases YB:θ n2 with
   |var m=>exact⟨m,by show sub (λw=>sub θ<|.var w) (.var r)=_;simp only[sub];rw[<-ho.2,ho.1,YB]⟩|aJ c l=>rw[YB]at g;simp[sub]at g
  .exact absurd σ1 (h1 _))
 cases ho3
 exact⟨_,_,m,rfl,q⟩
def aej{rs}{u:Nat->Prop}{B}{F}(h:Kr rs ah9 (λ_=>none) (λ_=>none) ⟨xf,u⟩ B F):F=none/\B.map (λp=>(p.1,xd Go.Proofs.YtfnkchdeheeiiaaGreatDoor.dec p.2))=[(⟨#[107]⟩,[39,118,48,32,45,62,32,39,118,49,32,45,62,32,39,118,48]),(⟨#[97]⟩,[85,110,105,116,32,45,62,32,73,110,116])]:=by
 obtain⟨o,ho,hq⟩:=h;obtain⟨v,v2,s1,cO,rfl,k1,u1,u2⟩:=akm ho;obtain⟨z,_⟩|⟨_,T,B',hT,rfl,hq⟩:=hq
 .rw[k1,cC]at z;simp[size,ah]at z
 .have hT':T=nQ (.var v) (nQ (.var v2)<|.var v):=by rw[hT,k1,cC];rfl
  subst hT';obtain⟨o,ho,hq⟩:=hq;have hk:(nxt rs s1).k=xf:=by
   show(if rs then xf else s1.k)=xf
   cases rs
   .exact k1
   .rfl
  obtain⟨a,s2,m,rfl,hs⟩:=akn cO (by simp[gD]) hk ho;obtain⟨z,_⟩|⟨_,T,B'',hT,rfl,hq⟩:=hq
  .rw[hs]at z;simp[size,ah]at z
  .obtain⟨rfl,rfl⟩:=hq;have hv:H9 (.mk 8 fX 0 [.mk 1 ⟨#[107]⟩ 0 [] 37 38 37,.mk 3 ⟨#[49]⟩ 1 [] 39 40 39] 37 40 37)=false:=by simp[H9,isC,isM]
   rw[hv,hs]at hT;have hT':T=nQ sN iy:=by rw[hT];simp[og,sub,aS]
   subst hT';have hvs:vars [] (nQ (.var v)<|nQ (.var v2)<|.var v)=[v,v2]:=by simp[vars,bh,Un.seen,cO,Ne.symm cO]
   have hx:([v,v2]:List Nat).idxOf v=0:=ag;have hy:([v,v2]:List Nat).idxOf v2=1:=yG;have a1:xd Go.Proofs.YtfnkchdeheeiiaaGreatDoor.dec (nQ (.var v)<|nQ (.var v2)<|.var v)=[39,118,48,32,45,62,32,39,118,49,32,45,62,32,39,118,48]:=by
    rw[xd];rw[hvs];simp only[Un.wr,Un.uf,hx,hy];kernel_rfl
   have a2:xd Go.Proofs.YtfnkchdeheeiiaaGreatDoor.dec (nQ sN iy)=[85,110,105,116,32,45,62,32,73,110,116]:=qkr;refine⟨rfl,?_⟩;rw[jk,jk,List.map_nil,a1,a2]
end In
end
section
open Go.ChangeMaps Un
def alT(A B:Ty)(z:List UInt8)(ok:Bool)(f:Fl):=
 (∃T,Mgu A B T/\((48<size T/\z=[]/\ok=false/\f=⟨7,0,0⟩)\/(¬48<size T/\z=xd dec T/\ok=true/\f=dx)))\/
 ((∀σ,sub σ A≠sub σ B)/\z=[]/\ok=false/\f=dx)
def alU(A B:Ty)(w:World)(e:Ending)(w':World):=
 ∃z ok f,e=.returned (.tuple #[.string<|bs z,.bool ok,jF f])/\Bq w w'/\alT A B z ok f
end
section
open Un
def FU k i j:Cq 27 #[ftV k i j,ftV k i j] w λe w'=>e=.returned (.bool true)/\Bq w w':=by
 rw[ftV];have h0:(k==k)=true:=ag;have h1:(i==i)=true:=ag;have h2:(j==j)=true:=ag;go_enter func27,ntmps27
 go_wp2
 go_ret;exact⟨rfl,(bw _).alloc ag _⟩
end
def BW(w:World)(L:List (BA×BA))(v:Value):=∃va vc,v=.slice va L.length vc/\(L=[]\/∃g,va=some ⟨g,0,none⟩/\g<w.heap.size/\∀i(h:i<L.length),w.cell? ⟨g,i*2,none⟩=some (.string L[i].1)/\w.cell? ⟨g,i*2+1,none⟩=some (.string L[i].2))
def BW.af{L:List (BA×BA)}(h:BW w L v)(k:Bq w w'):BW w' L v:=by
 obtain⟨va,vc,rfl,h⟩:=h;refine⟨va,vc,rfl,h.imp id ?_⟩;rintro⟨g,rfl,hg,hc⟩;refine⟨g,rfl,j3 hg k.size,λi hi=>⟨?_,?_⟩⟩
 .rw[qe (a:=⟨g,i*2,none⟩)<|k.block g hg];exact(hc i hi).1
 .rw[qe (a:=⟨g,i*2+1,none⟩)<|k.block g hg];exact(hc i hi).2
def Lk{L:List (BA×BA)}(h1:BW w L u)(h2:BW w L v)(hl:L.length<=1000000):Cq 15 #[u,v] w λe w'=>e=.returned (.bool true)/\Bq w w':=by
 obtain⟨pa,pc,rfl,H1⟩:=h1;obtain⟨qa,qc,rfl,H2⟩:=h2;go_enter func15,ntmps15
 go_wp2
 go_loopg[5] L.length (λgk c wr=>∃j:Nat,Hid (gk=L.length-j)/\j<=L.length/\c=Nv j/\Bq w wr)
 case atStart=>exact⟨0,ai rfl,jy _,rfl,ql _ _⟩
 case round=>
  obtain⟨j,cR,hj,rfl,HB⟩:=hrel;by_cases bq:j<L.length
  .have hd:(j:Int)<(L.length:Int):=ae;obtain⟨g,rfl,hg,hc⟩:=H1.resolve_left (λe=>by simp[e]at bq);obtain⟨g',rfl,hg',hc'⟩:=H2.resolve_left (λe=>by simp[e]at bq);have a0:=(qe (a:=⟨g,j*2,none⟩)<|HB.block g hg).trans (hc j bq).1;have a1:=(qe (a:=⟨g,j*2+1,none⟩)<|HB.block g hg).trans (hc j bq).2;have b0:=(qe (a:=⟨g',j*2,none⟩)<|HB.block g' hg').trans (hc' j bq).1;have b1:=(qe (a:=⟨g',j*2+1,none⟩)<|HB.block g' hg').trans (hc' j bq).2;generalize L[j].1=x at a0 b0;generalize L[j].2=y at a1 b1;have e1:(x.toList==x.toList)=true:=ag;have e2:(y.toList==y.toList)=true:=ag
   go_wp2
   go_quiet(fail)
   go_wp2
   go_roundg(L.length-(j+1))
   case measure=>rw[uh cR];omega
   case rel=>exact⟨j+1,ai rfl,ae,iK,HB.drewN _⟩
  .have hd:decide ((j:Int)<(L.length:Int))=false:=bB
   go_wp2
   go_ret;exact⟨rfl,HB⟩
def Ll:Cq 28 #[.slice none 0 0,.slice none 0 0] w λe w'=>e=.returned (.bool true)/\Bq w w':=by
 go_enter func28,ntmps28
 go_wp2
 go_loopg[5] 0 (λgk c wr=>c=Iv 0/\Bq w wr)
 case atStart=>exact⟨rfl,ql _ _⟩
 case round=>
  obtain⟨rfl,hb⟩:=hrel
  go_wp2
  go_ret;exact⟨rfl,hb⟩
def rpt(k i j:Int)(l r:BA)(u:Value):Value:=.agg #[Iv k,Iv i,Iv j,.string l,.string r,u,.slice none 0 0]
def tM{k i j}{l r}{L:List (BA×BA)}(h1:BW w L u)(h2:BW w L v)(hl:L.length<=1000000):Cq 13 #[rpt k i j l r u,rpt k i j l r v] w λe w'=>e=.returned (.bool true)/\Bq w w':=by
 have H1:=ai h1;have H2:=ai h2;obtain⟨pa,pc,rfl,-⟩:=h1;obtain⟨qa,qc,rfl,-⟩:=h2;have e1:(l.toList==l.toList)=true:=ag;have e2:(r.toList==r.toList)=true:=ag;unfold rpt;have k2:Bq w ((w.alloc<|Cv #[Iv k,Iv i,Iv j,Sv l,Sv r,Lv pa L.length pc,Lv none 0 0] 34).alloc<|Cv #[Iv k,Iv i,Iv j,Sv l,Sv r,Lv qa L.length qc,Lv none 0 0] 34):=(bw _).alloc ag _;obtain⟨W,HW⟩:∃W,W=((w.alloc<|Cv #[Iv k,Iv i,Iv j,Sv l,Sv r,Lv pa L.length pc,Lv none 0 0] 34).alloc<|Cv #[Iv k,Iv i,Iv j,Sv l,Sv r,Lv qa L.length qc,Lv none 0 0] 34):=⟨_,rfl⟩;have A0:Bx W w.heap.size #[Iv k,Iv i,Iv j,Sv l,Sv r,Lv pa L.length pc,Lv none 0 0]:=(by rw[HW];exact(Bx.new w _ _).alloc _);have A1:Bx W (w.heap.size+1) #[Iv k,Iv i,Iv j,Sv l,Sv r,Lv qa L.length qc,Lv none 0 0]:=(by rw[HW];have:=Bx.new (w.alloc<|Cv #[Iv k,Iv i,Iv j,Sv l,Sv r,Lv pa L.length pc,Lv none 0 0] 34) #[Iv k,Iv i,Iv j,Sv l,Sv r,Lv qa L.length qc,Lv none 0 0] 34;simpa using this);rw[<-HW]at k2;have K2:=ai k2;have HF:=FU (w:=W) k i j;simp only[ftV]at HF;go_enter func13,ntmps13;go_wp2_with fail;rw[<-HW];refine HF.mono ?_;rintro e w1⟨rfl,b_⟩;have K3:=K2.trans<|b_.mono K2.size;have B0:=ai<|A0.below b_;have B1:=ai<|A1.below b_;have HC:=Lk (H1.af K3) (H2.af K3) hl;have⟨c1,f1,z1⟩:=uh B0;have⟨c2,f2,z2⟩:=uh B1;go_wp2_with fail;refine HC.mono ?_;rintro e w2⟨rfl,fc⟩;have K4:=K3.trans<|fc.mono K3.size
 have C0:=ai<|B0.below fc;have C1:=ai<|B1.below fc;have⟨c1,f1,z1⟩:=uh C0;have⟨c2,f2,z2⟩:=uh C1;go_wp2_with fail;refine Ll.mono ?_;rintro e w3⟨rfl,mI⟩;have K5:=K4.trans<|mI.mono K4.size;have D0:=C0.below mI;have D1:=C1.below mI;obtain⟨c1,f1,z1⟩:=D0;obtain⟨c2,f2,z2⟩:=D1
 go_wp2
 go_ret;exact⟨rfl,K5⟩
section
open Un
def abH:(Tryz.prog.info? 9).map (λi=>(i.zero,i.size,i.bytes))=some (some<|.string ⟨#[]⟩,1,16):=qkr
def A8:Tryz.prog.underlying 52=some (.slice 9):=qkr
abbrev kJ(w:World)base v xs:=w.ownsRow base 9 1 v xs.length xs
def kJ.new(w:World)C base(hb:base<=w.heap.size)(hl:C.length<=1000)n(hn:n=C.length):kJ (w.alloc<|.cells C.toArray 9) base (.slice (some ⟨w.heap.size,0,none⟩) n n) C:=by
 subst hn;exact⟨ag,.inr ⟨w.heap.size,C.length,C.toArray,rfl,hb,heap_alloc_new w _,br _,Wu,ag,ag⟩⟩
def lF{ops}{rest}{o}{a}{Q}(hgd:o.guard=none)s x(ho:o.op=.call {callee:=.builtin .append,args:=#[s,x],argTypes:=#[52,52]}){b0}{news}(hs:a.eval s=v)(fP:kJ w base v xs)(hx:a.eval x=u)(hn:kJ w b0 u news)(h1:∀u∈news,u.oneCell'=true)(hz:xs.length+news.length<=1000)(p9:base<=w.heap.size)(h:∀v' w',kJ w' base v' (xs++news)->w.grownBy w' v.ownBlock->wpList qg ops Q rest (a.put o.dst v') w'):wpList qg ops Q (o::rest) a w:=by
 have⟨i0,hi,nJ,lG,jB⟩:=info_parts abH;have Mf:=hn;obtain⟨hl,hc⟩:=hn;obtain⟨rfl,h0⟩|⟨g,cap,lO,rfl,hg,hh,r⟩:=hc
 .have e:=List.eq_nil_of_length_eq_zero h0;subst e;refine wpList_append_own_none hgd s x 52 ho base 9 i0 1 A8 hi v xs.length xs hs fP hx ?_;exact h v w (by simpa using fP) ⟨rfl,rfl,rfl,br _,λ_ _ _=>rfl⟩
 .refine wpList_append_own w hgd s x 52 ho base 9 i0 _ 1 16 A8 hi nJ lG jB rfl aK v xs.length xs hs fP ⟨g,0,none⟩ news.length cap news hx ae (λj z e=>Mf.cells rfl j z e) h1 Wu ae p9 ?_;intro v' w' ho' hg' _;exact h v' w' (by rw[kJ];rw[tQ];exact ho') hg'
def FV(L:List UInt8):List Value:=L.map λc=>.string<|fB c
structure NSv w xb v L:Prop where
 o:∃base,kJ w base v<|FV L
 n:v.ownBlock≠some xb
 k:∀c∈L,x_<|fB c
def tN L:∀u∈FV L,u.oneCell'=true:=by
 intro u hu;obtain⟨c,_,rfl⟩:=List.mem_map.1 hu;rfl
def FX(h:kJ w base v xs)(hk:Ke rb w w')(hn:v.ownBlock≠some rb):kJ w' base v xs:=by
 obtain⟨h1,h2⟩:=h;refine⟨h1,?_⟩;obtain h2|⟨g,cap,lO,rfl,hg,hh,r⟩:=h2
 .exact .inl h2
 .exact .inr ⟨g,cap,lO,rfl,hg,(hk.block g (by have:=(Array.getElem?_eq_some_iff.1 hh).1;exact this) (by intro e;exact hn<|by simp[Value.ownBlock,e])).trans hh,r⟩
def NSv.ke{L:List UInt8}(h:NSv w xb v L)(hk:Ke xb w w'):NSv w' xb v L:=by
 have⟨base,ho⟩:=h.o;exact⟨⟨base,FX ho hk h.n⟩,h.n,h.k⟩
def NSv.af{L:List UInt8}(h:NSv w xb v L)(hb:Bq w w'):NSv w' xb v L:=h.ke<|Ke.of hb
def fN{W}(h:Below B W w)(hg:w.grownBy w' row)(hz:B<=w.heap.size)(hr:∀k,row=some k->B<=k):Below B W w':=
 ⟨hg.os.trans h.os,hg.tape.trans h.tape,hg.output.trans h.output,jz h.size hg.size,λi hi=>(hg.block i ae (λe=>by have:=hr i e.symm;omega)).trans<|h.block i hi⟩
def e_(h:kJ w base v xs):∀k,v.ownBlock=some k->base<=k:=λk hk=>(World.ownsRow.lt h k hk).1
section
variable {r:Nat->Int}
def MkP xb p len cap r d L w(e:Ending)w':=∃l,e=.returned (.string<|bs l)/\MXq d L l/\yi xb p len cap r w w'
def MkE xb p len cap r d:=∀(w:World)(A:Nat)(v:Value)(L:List UInt8),Src w xb p len cap r A->NSv w xb v L->L.length+d<=6->Cq 25 #[Pv xb,Nv d,v] w (MkP xb p len cap r d L w)
def xD:List Value:=[.string ⟨#[49]⟩,.string ⟨#[116,114,117,101]⟩,.string ⟨#[40,41]⟩,.string ⟨#[78]⟩,.string ⟨#[80]⟩]
def aek d L:∀u∈xD,∃l,u=.string (bs l)/\MXq d L l:=by
 have h4:=ahl d;intro u hu;simp only[xD,jo,jl,or_false]at hu;obtain rfl|rfl|rfl|rfl|rfl:=hu
 .exact⟨[49],rfl,nT.one,bB⟩
 .exact⟨[116,114,117,101],rfl,nT.tr,bB⟩
 .exact⟨[40,41],rfl,nT.unit,bB⟩
 .exact⟨[78],rfl,nT.up aK,bB⟩
 .exact⟨[80],rfl,nT.up aK,bB⟩
def abI d L(hk:∀c∈L,x_<|fB c):∀u∈FV L,∃l,u=.string (bs l)/\MXq d L l:=by
 have h4:=ahl d;intro u hu;obtain⟨c,hc,rfl⟩:=List.mem_map.1 hu;exact⟨[c],rfl,nT.low hc<|hk c hc,bB⟩
def Lp:Value->BA
 |.string s=>s|_=>⟨#[]⟩
def SQ{w}(h:kJ w base v xs)(hx:∀u∈xs,∃s,u=.string s)(hn:0<xs.length):∃g cp,v=.slice (some ⟨g,0,none⟩) xs.length cp/\base<=g/\g<w.heap.size/\Txt w g xs.length (λj=>Lp<|xs.getD j<|.bool false):=by
 have h':=h;obtain⟨h1,h2⟩:=h;obtain⟨rfl,q⟩|⟨g,cp,lO,rfl,hg,hh,r⟩:=h2
 .omega
 .refine⟨g,cp,rfl,hg,(World.ownsRow.lt h' g rfl).2,λj hj=>?_⟩;have e:=h'.cells (g:=g) rfl j xs[j] (jf hj);have⟨s,hs⟩:=hx xs[j]<|ja hj;have e2:(⟨g,0,none⟩:Addr).add j=⟨g,j,none⟩:=by
   rw[Addr.add];split
   .grind
   .simp
  show w.cell? ⟨g,j,none⟩=some (Sv<|Lp<|xs.getD j<|.bool false);rw[e2,hs]at e;rw[e,jd,jf hj,hs];rfl
def abJ{L:List UInt8}(hx:∀u∈xs,∃l,u=.string (bs l)/\MXq d L l)j(hj:j<xs.length):∃l,Lp (xs.getD j<|.bool false)=bs l/\MXq d L l:=by
 have⟨l,e,h⟩:=hx xs[j]<|ja hj;refine⟨l,?_,h⟩;rw[jd,jf hj,e];rfl
def DC L:=(xD++FV L)++FV L
def tO d L(hk:∀c∈L,x_<|fB c):∀u∈DC L,∃l,u=.string (bs l)/\MXq d L l:=by
 intro u hu;simp only[DC,List.mem_append]at hu;obtain  (h|h)|h:=hu
 .exact aek d L u h
 .exact abI d L hk u h
 .exact abI d L hk u h
def fO L:(DC L).length=5+2*L.length:=by simp[DC,xD,FV];omega
def SR{p:Prop}(h:p:=by
 have OS:=(HK.trans<|Ke.of Bj).trans rT;rw[e5]
 go_wp2
 go_ret
 exact⟨l,rfl,HM,A5,L7,OS⟩):p:=h
def alV:MkE xb p len cap r 0:=by
 intro w A v L hS HN hL;have HC:=yj hS 12 ae ae;go_enter func25,ntmps25;go_wp2_with fail;refine HC.mono ?_;rintro e w1⟨q,rfl,q0,q1,A1,HS,HK⟩;have DJ:=HN.ke HK;have akL:(((0:Nat):Int)==0)=true:=ag;have O1:=World.ownsRow_nil (w1.alloc<|Cv xD.toArray 9) w1.heap.size 9 1
 go_wp2_with(first
  |(at_builtin;refine lF rfl (.tmp 32) (.tmp 33) rfl rfl O1 rfl (kJ.new w1 xD 0 (jy _) aK 5 rfl) aK aK ag ?_;intro v2 w2 o2 g2;have fc:Bq w1 w2:=fN (bw _) g2 ag<|e_ O1;have⟨b2,on2⟩:=(DJ.af fc).o;have O2:=ai o2;have ON2:=ai on2;have cS:=ai fc;have z2:=fc.size;have G2:=ai<|e_ o2;clear o2 on2 fc g2 O1)
  |(at_builtin;refine lF rfl (.tmp 35) (.tmp 36) rfl rfl O2 rfl ON2 (tN L) (by simp[xD,FV];omega) z2 ?_;intro v3 w3 o3 g3;have mI:Bq w1 w3:=fN cS g3 z2 G2;have⟨b3,on3⟩:=(DJ.af mI).o;have O3:=ai o3;have ON3:=ai on3;have nU:=ai mI;have z3:=mI.size;have G3:=ai<|e_ o3;clear o3 on3 mI g3 O2 ON2 cS z2 G2)
  |(at_builtin;refine lF rfl (.tmp 38) (.tmp 39) rfl rfl O3 rfl ON3 (tN L) (by simp[xD,FV];omega) z3 ?_;intro v4 w4 o4 g4;have rS:Bq w1 w4:=fN nU g4 z3 G3;have Bj:=ai rS;have z4:=rS.size;obtain⟨g,cp,rfl,hg,iP,htx⟩:=SQ (show kJ w4 w1.heap.size v4 (DC L)from o4) (λu hu=>by have⟨l,e,_⟩:=tO 0 L DJ.k u hu;exact⟨_,e⟩) (by rw[fO];omega);rw[fO]at htx;simp only[fO];have HX:=ai htx;clear o4 g4 htx rS O3 ON3 nU z3 G3))
 have hxz:=HS.b.z;refine(Om (HS.af Bj) HX iP ae ae ae).mono ?_;rintro e w5⟨j,hj,rfl,A5,L7,rT⟩;have⟨l,e5,HM⟩:=abJ (tO 0 L DJ.k) j (by rw[fO];exact hj);exact SR
def kJ.ah_{w}(h:kJ w base v xs)o:kJ (w.alloc o) base v xs:=jC h<|bw o
def NSv.more{w}{xb}{L:List UInt8}{c}(o:kJ w base v (FV<|L++[c]))(hx:xb<base)(hk:∀c∈L,x_<|fB c)(hc:x_ (fB c)):NSv w xb v (L++[c]):=
 ⟨⟨_,o⟩,λe=>by have:=e_ o xb e;omega,λx hx=>by
   obtain q|q:=List.mem_append.1 hx
   .exact hk x q
   .rw[List.mem_singleton.1 q];exact hc⟩
def abf:List Value:=[.string ⟨#[97]⟩,.string ⟨#[98]⟩,.string ⟨#[102]⟩]
def aia j(hj:j<3):∃c,Lp (abf.getD j<|.bool false)=fB c/\x_ (fB c):=by
 have hc:j=0\/j=1\/j=2:=ae;obtain rfl|rfl|rfl:=hc
 .exact⟨97,rfl,nm1 97 aK qAq⟩
 .exact⟨98,rfl,nm1 98 aK qAq⟩
 .exact⟨102,rfl,nm1 102 aK qAq⟩
def ael(w1:World):Txt (w1.alloc<|.cells abf.toArray 9) w1.heap.size 3 (λj=>Lp<|abf.getD j<|.bool false):=by
 intro j hj;have hc:j=0\/j=1\/j=2:=ae;rw[(Bx.new w1 abf.toArray 9).c j];obtain rfl|rfl|rfl:=hc<;>rfl
def ai2(h:d+1<=3):mB d<=136:=by
 have hc:d=0\/d=1\/d=2:=ae;obtain rfl|rfl|rfl:=hc<;>decide
def SS c:(fB c).size=1:=rfl
def jA c:fB c=bs [c]:=rfl
def A9 L c:FV L++[.string<|fB c]=FV (L++[c]):=by simp[FV]
def pR{p:Prop}(h:p:=by
 have q5:=LH.2;have q6:=T0.2;simp only[mB,tQ,pk,ua];omega):p:=h
def alW(hd:d+1<=3)(hI:MkE xb p len cap r d):MkE xb p len cap r (d+1):=by
 intro w A v L hS HN hL;have HC:=yj hS 12 ae ae;have hd0:(((d+1:Nat):Int)==0)=false:=bB;have Mo:((d+1:Nat):Int)-1=(d:Int):=ae;go_enter func25,ntmps25;go_wp2_with fail;refine HC.mono ?_;rintro e w1⟨q,rfl,q0,q1,A1,HS,HK⟩;have DJ:=HN.ke HK;by_cases h3:q<3
 .have O1:=qf (w1.alloc<|Cv xD.toArray 9) w1.heap.size 9 1
  go_wp2_with(first
   |(at_builtin;refine lF rfl (.tmp 32) (.tmp 33) rfl rfl O1 rfl (kJ.new w1 xD 0 (jy _) aK 5 rfl) aK aK ag ?_;intro v2 w2 o2 g2;have fc:Bq w1 w2:=fN (bw _) g2 ag<|e_ O1;have⟨b2,on2⟩:=(DJ.af fc).o;have O2:=ai o2;have ON2:=ai on2;have cS:=ai fc;have z2:=fc.size;have G2:=ai<|e_ o2;clear o2 on2 fc g2 O1)
   |(at_builtin;refine lF rfl (.tmp 35) (.tmp 36) rfl rfl O2 rfl ON2 (tN L) (by simp[xD,FV];omega) z2 ?_;intro v3 w3 o3 g3;have mI:Bq w1 w3:=fN cS g3 z2 G2;have⟨b3,on3⟩:=(DJ.af mI).o;have O3:=ai o3;have ON3:=ai on3;have nU:=ai mI;have z3:=mI.size;have G3:=ai<|e_ o3;clear o3 on3 mI g3 O2 ON2 cS z2 G2)
   |(at_builtin;refine lF rfl (.tmp 38) (.tmp 39) rfl rfl O3 rfl ON3 (tN L) (by simp[xD,FV];omega) z3 ?_;intro v4 w4 o4 g4;have rS:Bq w1 w4:=fN nU g4 z3 G3;have Bj:=ai rS;have z4:=rS.size;obtain⟨g,cp,rfl,hg,iP,htx⟩:=SQ (show kJ w4 w1.heap.size v4 (DC L)from o4) (λu hu=>by have⟨l,e,_⟩:=tO 0 L DJ.k u hu;exact⟨_,e⟩) (by rw[fO];omega);rw[fO]at htx;simp only[fO];have HX:=ai htx;clear o4 g4 htx rS O3 ON3 nU z3 G3))
  have hxz:=HS.b.z;refine(Om (HS.af Bj) HX iP ae ae ae).mono ?_;rintro e w5⟨j,hj,rfl,A5,L7,rT⟩;have⟨l,e5,HM⟩:=abJ (tO (d+1) L DJ.k) j (by rw[fO];exact hj);exact SR
 .have h3':decide (q<3)=false:=bB;have hxz:=HS.b.z;have b_:Bq w1 (w1.alloc<|Cv abf.toArray 9):=bw _;go_wp2_with fail;refine(Om (HS.af b_) (ael w1) ag ae ae ae).mono ?_;rintro e w2⟨j,hj,rfl,A2,HS2,Tq⟩;have⟨c,ec,HC⟩:=aia j hj;have HK2:=(HK.trans<|Ke.of b_).trans Tq;have LA:=(DJ.af b_).ke Tq;have⟨b2,ON2⟩:=LA.o;have jB:=HS2.b.z;have Mb:=SS c;have O2:=qf w2 w2.heap.size 9 1;rw[ec];have hqc:q=3\/q=4\/q=5\/q=6\/q=7\/q=8\/q=9\/q=10\/q=11:=by simp at h3';omega
  obtain rfl|rfl|rfl|rfl|rfl|rfl|rfl|rfl|rfl:=hqc
  all_goals(
   go_wp2_with(first
    |(at_builtin;refine lF rfl (.tmp 47) (.tmp 48) rfl rfl O2 rfl ON2 (tN L) (by simp[FV];omega) (br _) ?_;intro v3 w3 o3 g3;have mI:Bq w2 w3:=fN (ql _ _) g3 (br _)<|e_ O2;have O3:=ai o3;have nU:=ai mI;have z3:=mI.size;clear o3 g3 mI O2 ON2)
    |(at_builtin;refine lF rfl (.tmp 50) (.tmp 52) rfl rfl (O3.ah_ _) rfl (kJ.new w3 [Sv<|fB c] 0 (jy _) ag 1 rfl) qAn (by simp[FV];omega) bB ?_;intro v4 w4 o4 g4))
   have rS:=fN (nU.alloc z3 _) g4 bB<|e_ O3;rw[jm,A9]at o4;have HM4:=NSv.more o4 jB LA.k HC;have VA:=LA.af rS;have HS4:=HS2.af rS;have HK4:=HK2.trans<|Ke.of rS
   clear o4 g4 rS O3 nU z3 HS2 HK2 LA)
  iterate 2 next=>
   refine(hI w4 A2 _ _ HS4 HM4 bB).mono ?_;rintro e w5⟨l5,rfl,LH,A5,L7,rT⟩;have OS:=HK4.trans rT;have SU:=VA.ke rT;have Wj:=HM4.ke rT;have hz5:(bs l5).size<=136:=qAj
   go_wp2
   go_ret;refine⟨_,?_,⟨(nT.fn HC LH.1),?_⟩,A5,L7,OS⟩
   .simp only[jA,<-lp];rfl
   .have q5:=LH.2;simp only[mB,tQ,pk,ua];omega
  iterate 2 next=>
   refine(hI w4 A2 _ _ HS4 VA ae).mono ?_;rintro e w5⟨l5,rfl,LH,A5,L7,rT⟩;have OS:=HK4.trans rT;have SU:=VA.ke rT;have Wj:=HM4.ke rT;have hz5:(bs l5).size<=136:=qAj;go_wp2_with fail;refine(hI w5 A5 _ _ L7 SU ae).mono ?_;rintro e w6⟨l6,rfl,T0,A6,HS6,FY⟩;have HK6:=OS.trans FY;have HN6:=SU.ke FY;have HM6:=Wj.ke FY;have hz6:(bs l6).size<=136:=qAo
   go_wp2
   go_ret;refine⟨_,?_,⟨(LH.1.rM T0.1),?_⟩,A6,HS6,HK6⟩
   .simp only[jA,<-lp];rfl
   .exact pR
  .refine(hI w4 A2 _ _ HS4 VA ae).mono ?_;rintro e w5⟨l5,rfl,LH,A5,L7,rT⟩;have OS:=HK4.trans rT;have SU:=VA.ke rT;have Wj:=HM4.ke rT;have hz5:(bs l5).size<=136:=qAj;go_wp2_with fail;refine(hI w5 A5 _ _ L7 Wj bB).mono ?_;rintro e w6⟨l6,rfl,T0,A6,HS6,FY⟩;have HK6:=OS.trans FY;have HN6:=SU.ke FY;have HM6:=Wj.ke FY;have hz6:(bs l6).size<=136:=qAo
   go_wp2
   go_ret;refine⟨_,?_,⟨(nT.lt HC LH.1 T0.1),?_⟩,A6,HS6,HK6⟩
   .simp only[jA,<-lp];rfl
   .exact pR
  .refine(hI w4 A2 _ _ HS4 VA ae).mono ?_;rintro e w5⟨l5,rfl,LH,A5,L7,rT⟩;have OS:=HK4.trans rT;have SU:=VA.ke rT;have Wj:=HM4.ke rT;have hz5:(bs l5).size<=136:=qAj;go_wp2_with fail;refine(hI w5 A5 _ _ L7 SU ae).mono ?_;rintro e w6⟨l6,rfl,T0,A6,HS6,FY⟩;have HK6:=OS.trans FY;have HN6:=SU.ke FY;have HM6:=Wj.ke FY;have hz6:(bs l6).size<=136:=qAo
   go_wp2
   go_ret;refine⟨_,?_,⟨(LH.1.pair T0.1),?_⟩,A6,HS6,HK6⟩
   .simp only[jA,<-lp];rfl
   .exact pR
  .refine(hI w4 A2 _ _ HS4 VA ae).mono ?_;rintro e w5⟨l5,rfl,LH,A5,L7,rT⟩;have OS:=HK4.trans rT;have SU:=VA.ke rT;have Wj:=HM4.ke rT;have hz5:(bs l5).size<=136:=qAj;go_wp2_with fail;refine(hI w5 A5 _ _ L7 SU ae).mono ?_;rintro e w6⟨l6,rfl,T0,A6,HS6,FY⟩;have HK6:=OS.trans FY;have HN6:=SU.ke FY;have HM6:=Wj.ke FY;have hz6:(bs l6).size<=136:=qAo
   go_wp2
   go_ret;refine⟨_,?_,⟨(LH.1.aJ T0.1),?_⟩,A6,HS6,HK6⟩
   .simp only[jA,<-lp];rfl
   .exact pR
  .refine(hI w4 A2 _ _ HS4 VA ae).mono ?_;rintro e w5⟨l5,rfl,LH,A5,L7,rT⟩;have OS:=HK4.trans rT;have SU:=VA.ke rT;have Wj:=HM4.ke rT;have hz5:(bs l5).size<=136:=qAj;go_wp2_with fail;refine(hI w5 A5 _ _ L7 SU ae).mono ?_;rintro e w6⟨l6,rfl,T0,A6,HS6,FY⟩;have HK6:=OS.trans FY;have hz6:(bs l6).size<=136:=qAo
   go_wp2
   go_ret;refine⟨_,?_,⟨(LH.1.ite T0.1),?_⟩,A6,HS6,HK6⟩
   .simp only[jA,<-lp];rfl
   .exact pR
  .refine(hI w4 A2 _ _ HS4 VA ae).mono ?_;rintro e w5⟨l5,rfl,LH,A5,L7,rT⟩;have OS:=HK4.trans rT;have SU:=VA.ke rT;have Wj:=HM4.ke rT;have hz5:(bs l5).size<=136:=qAj;go_wp2_with fail;refine(hI w5 A5 _ _ L7 Wj bB).mono ?_;rintro e w6⟨l6,rfl,T0,A6,HS6,FY⟩;have HK6:=OS.trans FY;have hz6:(bs l6).size<=136:=qAo
   go_wp2
   go_ret;refine⟨_,?_,⟨(nT.mt HC LH.1 T0.1),?_⟩,A6,HS6,HK6⟩
   .simp only[jA,<-lp];rfl
   .exact pR
def abK:∀d,d<=3->MkE xb p len cap r d
 |0,_=>alV|d+1,h=>alW h<|abK d ae
end
section
variable {r:Nat->Int}
def aib:List Value:=[.string ⟨#[120]⟩,.string ⟨#[121]⟩,.string ⟨#[122]⟩]
def tP(n:Nat):UInt8:=if n=0 then 120 else if n=1 then 121 else 122
def OT n:x_ (fB<|tP n):=by
 rw[tP];split
 .exact nm1 120 aK qAq
 .split
  .exact nm1 121 aK qAq
  .exact nm1 122 aK qAq
def aic{w}(h:Bx w b aib.toArray)n(hn:n<3):w.cell? ⟨b,n,none⟩=some (.string<|fB<|tP n):=by
 rw[h.c n];have hc:n=0\/n=1\/n=2:=ae;obtain rfl|rfl|rfl:=hc<;>rfl
def PrR xb p len cap r w g(s nm c:Value)wr:=
 ∃(n:Nat)(l:List UInt8)(L:List UInt8)(A:Nat),g=3-n/\n<=3/\s=.string (bs l)/\c=Nv n/\MQ L l/\kJ wr (w.heap.size+1) nm (FV L)/\L.length=n/\(∀c∈L,x_<|fB c)/\Src wr xb p len cap r A/\Bx wr w.heap.size aib.toArray/\Ke xb w wr/\w.heap.size+1<=wr.heap.size
def afA xb p len cap r w(e:Ending)w':=∃n l L,n<=3/\L.length=n/\e=.returned (.string<|bs l)/\MQ L l/\yi xb p len cap r w w'
def Bx.ke2{w}(h:Bx w b C)(hk:Ke rb w w')(hn:b≠rb):Bx w' b C:=h.same hk.size<|hk.block b h.z hn
def Ke.grow{xb}{a b c}(h:Ke xb a b)(g:b.grownBy c row)(hr:∀k,row=some k->a.heap.size<=k):Ke xb a c:=
 ⟨g.os.trans h.os,g.tape.trans h.tape,g.output.trans h.output,jz h.size g.size,λk hk hn=>(g.block k (j3 hk h.size) (λe=>by have:=hr k e.symm;omega)).trans<|h.block k hk hn⟩
def Bx.grow{w}(h:Bx w b C)(g:w.grownBy w' row)(hr:∀k,row=some k->b<k):Bx w' b C:=h.same g.size (g.block b h.z (λe=>by have:=hr b e.symm;omega))
def SV{p:Prop}(h:p:=by
 obtain y|y:=List.mem_append.1 hx
 .exact HN x y
 .rw[List.mem_singleton.1 y];exact OT n):p:=h
def aem{A}(hS:Src w xb p len cap r A):Cq 11 #[Pv xb] w (afA xb p len cap r w):=by
 have hxz:=hS.b.z;have⟨bN,HB0⟩:=nK w aib.toArray 9;have HS0:=hS.af bN;have HK0:=Ke.of (rb:=xb) bN;go_enter func11,ntmps11
 go_wp2
 go_loopg[3,5,6] 3 (λg s nm c wr=>PrR xb p len cap r w g s nm c wr)
 case atStart=>exact⟨0,ahm,[],A,rfl,ae,rfl,rfl,MQ.zero,qf _ _ _ _,rfl,ag,HS0,HB0,HK0,ag⟩
 case round=>
  obtain⟨n,l,L,A1,rfl,hn,rfl,rfl,HM,HO,hL,HN,hs,HB,HK,hz⟩:=hrel;have HC:=yj hs 3 ae ae;have L0:=HM.len;go_wp2_with fail;refine HC.mono ?_;rintro e w2⟨q,rfl,q0,q1,A2,HS2,Tq⟩;have rQ:u5.ownBlock≠some xb:=λe=>by have:=e_ HO xb e;omega
  have HK2:=HK.trans Tq;have I8:=FX HO Tq rQ;have cS:=HB.ke2 Tq ae;have z2:=Tq.size;by_cases hq:(n:Int)<=q
  .have hn3:(n:Int)<3:=ae;have alX:n<3:=ae;have HE:=abK 3 ae w2 A2 u5 L HS2 ⟨⟨_,I8⟩,rQ,HN⟩ ae;go_wp2_with fail;refine HE.mono ?_;rintro e w3⟨m,rfl,hm,A3,HS3,tT⟩;have hmz:(bs m).size<=312:=by rw[dM];exact hm.2
   have hlz:=dM l;have HME:=ai hm.1;have HK3:=HK2.trans tT;have HO3:=FX I8 tT rQ;have nU:=cS.ke2 tT ae;have z3:=tT.size;have hc3:=aic nU n alX;have h1z:=SS<|tP n;by_cases ako:(330:Int)<((bs l).size:Int)+((bs m).size:Int)
   .go_wp2_with(at_builtin;refine lF rfl (.tmp 39) (.tmp 44) rfl rfl (HO3.ah_ _) rfl (kJ.new w3 [Sv<|fB<|tP n] 0 (jy _) ag 1 rfl) qAn (by simp[FV];omega) bB ?_;intro v4 w4 o4 g4);have hr4:=e_ HO3;have k4:=(HK3.alloc<|Cv #[Sv<|fB<|tP n] 9).grow g4<|λk e=>qBt;have s4:=hS.ke k4 ((HS3.b.alloc<|Cv #[Sv<|fB<|tP n] 9).grow g4<|λk e=>qBt) HS3.a;have b4:=(nU.alloc<|Cv #[Sv<|fB<|tP n] 9).grow g4<|λk e=>qBt;have z4:=g4.size;rw[A9]at o4;go_roundg(3-(n+1))
    case rel=>
     refine⟨n+1,_,L++[tP n],A3,rfl,ae,?_,iK,HM.next (OT n) nT.one<|j9 rfl,o4,by simp[hL],λx hx=>?_,s4,b4,k4,by simp at z4;omega⟩
     .simp only[jA,<-lp];rfl
     .exact SV
    case measure=>omega
   .go_wp2_with(at_builtin;refine lF rfl (.tmp 39) (.tmp 44) rfl rfl (HO3.ah_ _) rfl (kJ.new w3 [Sv<|fB<|tP n] 0 (jy _) ag 1 rfl) qAn (by simp[FV];omega) bB ?_;intro v4 w4 o4 g4);have hr4:=e_ HO3;have k4:=(HK3.alloc<|Cv #[Sv<|fB<|tP n] 9).grow g4<|λk e=>qBt;have s4:=hS.ke k4 ((HS3.b.alloc<|Cv #[Sv<|fB<|tP n] 9).grow g4<|λk e=>qBt) HS3.a;have b4:=(nU.alloc<|Cv #[Sv<|fB<|tP n] 9).grow g4<|λk e=>qBt;have z4:=g4.size;rw[A9]at o4;go_roundg(3-(n+1))
    case rel=>
     refine⟨n+1,_,L++[tP n],A3,rfl,ae,?_,iK,HM.next (OT n) HME<|qd (by rw[dM]at ako hlz;rw[dM]at ako;omega),o4,by simp[hL],λx hx=>?_,s4,b4,k4,by simp at z4;omega⟩
     .simp only[jA,<-lp];rfl
     .exact SV
    case measure=>omega
  .have hq':decide ((n:Int)<=q)=false:=by simpa using hq
   go_wp2
   go_ret;exact⟨n,l,L,hn,hL,rfl,HM,A2,HS2,HK2⟩
end
end
section
open Go.ChangeMaps Un
def OU{oH}{ty V}{F}{h}(ho:Un.Of str vr (λn=>n∈ds) ty)(ha:a∈ds)(hb:b∈ds)(hj:JR str (λ_=>none) dP a b true)(he:iD str dP oH){lv}(G:GL w ds str oH vr ly lv)(hF:Un.Fin str oH vr F V)(hFD:∀x,F x->x∈ds)(hh:Hd dP a h)(TS:F h):Mgu (ty a) (ty b) (V h):=by
 have⟨y1,y2,y3⟩:=hj.yes rfl;refine af5 ho ha hb (λW hW e=>(he.kL W).2<|(y1 W).2 ⟨hW,e⟩) (he.mF _<|y2 _<|rL.start str []) (λn m e=>?_) (λE q=>y3 [] E<|he.eqs [] E q) hF hFD (he.jN _ _ hh) TS;by_cases q:n∈ds
 .exact G.hd n q
 .rw[(G.out n q).1]at e;cases e
section
variable {B:Ty}
def abL(hA:dB w Q A va)(hB:dB w Q B vb)(wA:Wf A)(wB:Wf B)(sA:size A<=48)(sB:size B<=48):Cq 35 #[va,vb] w (alU A B w):=by
 have⟨bN,B0⟩:=nK w zF 30;have z0:(w.alloc<|Cv zF 30).heap.size=w.heap.size+1:=Array.size_push ..;have HA:=ai hA.low;have HB:=ai hB.low;obtain⟨ta,xa,rfl⟩:=hA.iface;obtain⟨tb,xb,rfl⟩:=hB.iface;go_enter func35,ntmps35;go_wp2_with fail;refine KU.mono ?_;rintro e w1⟨kb,mb,rfl,N1,b_,rI⟩;have dq:=bN.trans<|b_.mono bN.size;have B1:=B0.below b_;rw[z0]at rI;have HC:=aa2 A w1 kb mb Ns.none _ _ N1 (HA.af dq) (λb p=>by have:=p.2;omega) ae wA;go_wp2_with fail;refine HC.mono ?_;rintro e w2⟨na,G2,rfl,N2,L2,Dz,hta,F2,x2⟩;have cS:=Fr.mn dq dq.size F2 (λx q=>by have q:x=mb:=q;omega);have B2:=B1.fr F2 (λq=>by have q:w.heap.size=mb:=q;omega);have qV:=aa2 B w2 kb mb G2 _ _ N2 (HB.af cS) (λb p=>by have:=p.2;omega) ae wB;go_wp2_with fail;refine qV.mono ?_;rintro e w3⟨nb,G3,rfl,N3,L3,rQ,htb,F3,x3⟩;have nU:=Fr.mn cS cS.size F3 (λx q=>by have q:x=mb:=q;omega);have B3:=B2.fr F3 (λq=>by have q:w.heap.size=mb:=q;omega);have⟨aen,aeo⟩:=L3 na Dz;rw[hta]at aeo;have GL3:GL w3 G3.ds G3.str (λ_=>none) G3.vr G3.ly (λ_=>0):=⟨N3.gn.nd,N3.gn.out,N3.gn.hd⟩;have HJ:=OE (hc (λ_=>none) G3.ds) w3 (λ_=>none) _ GL3 (br _) na nb aen rQ;have lD:∀x∈G3.ds,w.heap.size<x:=λx hx=>by
  obtain⟨q,_⟩|⟨q,_⟩:=x3 x hx
  .obtain⟨q,_⟩|⟨q,_⟩:=x2 x q
   .simp[Ns.none]at q
   .have:=B1.z;omega
  .have:=B2.z;omega
 have hof:=N3.of;have hwf:=N3.wf;go_wp2_with fail;refine HJ.mono ?_;rintro e w4⟨ok,AV,lv4,rfl,G4,F4,z4,hc4,J4,_⟩;have Bj:=Fr.mn nU nU.size F4 (λx q=>by have:=lD x q;omega);have B4:=B3.fr F4 (λq=>by have:=lD _ q;omega)
 cases ok with
 |false=>
  have B5:=B4.dJ rfl (Iv 0) (Iv 0) (Iv 0);obtain⟨c4,f4,z4⟩:=B4;go_wp2_with fail;obtain⟨c9,f9,z9⟩:=B5;refine bodyPost_ret (v:=.tuple #[Sv<|bs [],.bool false,jF dx]) (by simp[results,Tryz.results35,go_sem,jF,c9,bs,dx]) rfl ?_;exact⟨[],false,dx,rfl,(((Bj.setCell (br _) _).setCell (br _) _).setCell (br _) _),j9 ⟨λσ=>by have:=abt hof J4 σ;rwa[aeo,htb]at this,rfl,rfl,rfl⟩⟩
 |true=>
  have HS:=o5 G4 aen;go_wp2_with fail;refine HS.mono ?_;rintro e w5⟨Mx,G5,E5,F5,⟨F,V,h,rfl,hd,hF,aid,hFD⟩|⟨rfl,mE⟩⟩
  .have HB5:=Fr.mn Bj Bj.size F5 (λx q=>by have:=lD x q;omega);have B5:=B4.fr F5 (λq=>by have:=lD _ q;omega);have HM:=OU hof aen rQ J4 E5 G5 aid hFD hd hF;rw[aeo,htb]at HM;have hwV:=Fin.wf aid hof hwf _ h (br _) hF;obtain⟨s2,sd⟩:∃s2:Nat,Hid<|s2=min (size<|V h) 49:=⟨_,ai rfl⟩;rw[<-uh sd];by_cases TE:48<s2
   .have hbg:(48:Int)<(s2:Int):=ae;have B6:=B5.dJ rfl (Iv 7) (Iv 0) (Iv 0);obtain⟨c5,f5,z5⟩:=B5;go_wp2_with fail;obtain⟨c9,f9,z9⟩:=B6;refine bodyPost_ret (v:=.tuple #[Sv<|bs [],.bool false,jF ⟨7,0,0⟩]) (by simp[results,Tryz.results35,go_sem,jF,c9,bs,dx]) rfl ?_;exact⟨[],false,⟨7,0,0⟩,rfl,(((HB5.setCell (br _) _).setCell (br _) _).setCell (br _) _),qd ⟨V h,HM,qd ⟨by have:=uh sd;omega,rfl,rfl,rfl⟩⟩⟩
   .have hbg:decide ((48:Int)<(s2:Int))=false:=bB;go_wp2_with fail;refine EK.mono ?_;rintro e w6⟨cb,Ie,mb',rfl,C6,N6,hm6,Ga,hb6⟩;have alY:∀x∈G3.ds,x<w5.heap.size:=λx hx=>(G5.nd x hx).lt;have G6:=G5.move hb6.size<|λb i v hc=>hb6.block b<|eY hc;have HB6:=HB5.trans<|hb6.mono HB5.size;have B6:=B5.below hb6;have hT:=FE (size<|V h) w6 Mx na h G6 aid aen (E5.jN _ _ hd) hF<|br _;have hcd:¬cb∈G3.ds:=λq=>by
     have h1:=(G6.nd cb q).cells.1;have h2:=C6.c 0;rw[h2]at h1
     cases hq:Mx cb<;>simp[hq,nP]at h1
    go_wp2_with fail;refine hT.mono ?_;rintro e w7⟨u,nx7,rfl,hU,G7,E7,F7⟩;obtain⟨tu,xu,rfl⟩:=hU.iface;have HB7:=Fr.mn HB6 HB6.size F7 (λx q=>by have:=lD x q;omega);have B7:=B6.fr F7 (λq=>by have:=lD _ q;omega);have C7:=C6.fr F7 hcd;have xK:¬Ie∈G3.ds:=λq=>by
     have h1:=(G6.nd Ie q).cells.1;have h2:=N6.bk.c 0;rw[h2]at h1
     cases hq:Mx Ie<;>simp[hq,nP]at h1
    have N7:=N6.fr F7 xK (λq=>by have:=alY _ q;omega);have zm:=N6.lt;have hvs:=oX (V h) [];have alZ:size (V h)<=48:=by have:=uh sd;omega
    have HW:=yc abv hU (λb p=>by have p:w6.heap.size<=b:=p;have:=N6.mp.lt;omega) N7 C7 Ga hwV alZ (by simp at hvs;omega);go_wp2_with fail;refine HW.mono ?_;rintro e w8⟨rfl,N8,F8⟩;have HB8:=Fr.mn HB7 HB7.size F8 (λx q=>by subst q;have:=HB5.size;omega);have B8:=B7.fr F8 (by show ¬w.heap.size=mb';have:=B5.z;omega);have B9:=B8.dJ rfl (Iv 0) (Iv 0) (Iv 0);obtain⟨c8,f8,z8⟩:=B8;go_wp2_with fail;obtain⟨c9,f9,z9⟩:=B9;refine bodyPost_ret (v:=.tuple #[Sv<|bs<|xd dec<|V h,.bool true,jF dx]) (by simp[results,Tryz.results35,go_sem,jF,c9,dx,xd]) rfl ?_;exact⟨xd dec<|V h,true,dx,rfl,(((HB8.setCell (br _) _).setCell (br _) _).setCell (br _) _),qd ⟨V h,HM,j9 ⟨ae,rfl,rfl,rfl⟩⟩⟩
  .have HB5:=Fr.mn Bj Bj.size F5 (λx q=>by have:=lD x q;omega);have B5:=B4.fr F5 (λq=>by have:=lD _ q;omega);have B6:=B5.dJ rfl (Iv 0) (Iv 0) (Iv 0);obtain⟨c5,f5,z5⟩:=B5;go_wp2_with fail;obtain⟨c9,f9,z9⟩:=B6;refine bodyPost_ret (v:=.tuple #[Sv<|bs [],.bool false,jF dx]) (by simp[results,Tryz.results35,go_sem,jF,c9,bs,dx]) rfl ?_;exact⟨[],false,dx,rfl,(((HB5.setCell (br _) _).setCell (br _) _).setCell (br _) _),j9 ⟨λσ=>by have:=ah1 hof J4 mE σ;rwa[aeo,htb]at this,rfl,rfl,rfl⟩⟩
end
def DE(s:BA):match eK s with
 |.error f=>f.kind%6≠0|.ok a=>tV a/\nn a<=802:=by
 by_cases hs:400<s.size
 .rw[show eK s=.error ⟨1,0,0⟩ by simp[eK,hs]];show 1%6≠0;decide
 .have⟨h,hl⟩:=oK s ae;have g:=QX h (jt s 0).length 0<|jy _;rw[eK];rw[if_neg hs];revert g
  cases cP (jt s 0) (jt s 0).length 0 with
  |error f=>intro g;exact(ED g).1|ok p=>
   intro g;have g1:=g.shp h;have g2:=g.le;have g3:=Aa g;by_cases e:(tk (jt s 0) p.2).kind==7
   .simp only[if_pos e];exact⟨g1,ae⟩
   .simp only[if_neg e];exact(ED (s:=s) ⟨_,rfl⟩).1
def tV.nd{a:Nd}(h:tV a):nn a<=1001->sI a:=by
 induction h with
 |var s n f t a=>exact λ_=>.var ..|up s n L f t a h1 h2 h3 h4 ih=>
  intro hn;simp only[nn]at hn;exact .up _ _ _ _ _ _ (h1.VZ h2) (by have:=mU L;omega) λi hi=>ih _ (ja hi) (by have:=sF<|ja hi;omega)
 |pr x y f t a h1 h2 i1 i2=>intro hn;simp only[nn,b8]at hn;exact .two _ _ _ _ _ _ _ _ (.inr rfl) (i1 ae) (i2 ae)|fn x y f t a h1 h2 i1 i2=>intro hn;simp only[nn,b8]at hn;exact .two _ _ _ _ _ _ _ _ (.inl rfl) (i1 ae)<|i2 ae
def A_{a:Nd}(h:eK s=.ok a):sI a/\nn a<=802:=by
 have g:=DE s;rw[h]at g;exact⟨g.1.nd (by have:=g.2;omega),g.2⟩
mutual
def SW:∀(nd:Nd)(ns:List BA),size (aH ns nd).1<=nn nd/\(aH ns nd).2.length<=ns.length+nn nd
 |.mk k s n L f t a,ns=>by
  have h:=Lq L ns;rw[aH];split
  .simp only[size,nn,nW];split<;>simp<;>omega
  .simp only[size,nn];omega
def Lq:∀(L:List Nd)(ns:List BA),ah (aA ns L).1<=b8 L/\(aA ns L).2.length<=ns.length+b8 L
 |[],ns=>by simp[aA,ah,b8]|x::l,ns=>by
  have h1:=SW x ns;have h2:=Lq l (aH ns x).2;simp only[aA,ah,b8];omega
end
def DF(hs:¬400<s.size){f:Fl}(h:fin (jt s 0) (cP (jt s 0) (jt s 0).length 0)=.error f):eK s=.error f:=by
 unfold eK;rw[if_neg hs];unfold fin at h;split at h
 .rename_i f' e;cases h;rw[e]
 .rename_i a k e;split at h
  .rename_i h6
   cases h
   rw[e];simp[h6]
  .cases h
def abM(hs:¬400<s.size){a:Nd}(h:fin (jt s 0) (cP (jt s 0) (jt s 0).length 0)=.ok (a,k)):eK s=if(tk (jt s 0) k).kind==7 then .ok a else .error (dc<|tk (jt s 0) k):=by
 rw[eK];rw[if_neg hs,(q_ h).1]
def pS(s:BA)(w:World)(e:Ending)(w':World):=
 ∃v f,e=.returned (.tuple #[v,jF f])/\Bq w w'/\match eK s with
  |.error f'=>f=f'/\v=.nilIface|.ok a=>f=dx/\PT w' (λb=>w.heap.size<=b) a v
def OX s(hs:400<s.size):Cq 69 #[.string s,.func (.func 70) #[] #[]] w (pS s w):=by
 have h1:(400:Int)<(s.size:Int):=ae;have hp:Hid (eK s=.error ⟨1,0,0⟩):=by show _=_;simp[eK,hs]
 go_enter_defers Tryz.func69,Tryz.ntmps69
 go_wp2_with fail;simp[bodyPostD,Leaves,settle,results,Tryz.results69,go_sem];refine⟨_,⟨1,0,0⟩,rfl,bw _,?_⟩;rw[uh hp];exact⟨rfl,rfl⟩
def FZ{p:Prop}(h:p:=by
 rw[qm _ _ _ _ (by show b≠w.heap.size;omega),qm _ _ _ _ (by show b≠w.heap.size;omega),qm _ _ _ _ (by show b≠w.heap.size;omega)]):p:=h
def aep(h:Laid w)s(hs:¬400<s.size)(hT:(jt s 0).length<=1001):Cq 69 #[.string s,.func (.func 70) #[] #[]] w (pS s w):=by
 have h1:decide ((400:Int)<(s.size:Int))=false:=bB;have iO:s.size<=1000:=ae;have hT0:0<(jt s 0).length:=by
  rw[jE s 0<|jy _];split<;>simp
 have⟨bN,B0⟩:=nK w zF 30;have HL:=h.af bN
 go_enter_defers Tryz.func69,Tryz.ntmps69
 go_wp2_with fail;refine(wv HL s iO).mono ?_;intro e w1 hp;obtain⟨b_,hp⟩:=hp;have B1:=B0.below b_;have dq:=bN.trans<|b_.mono bN.size;have et:=iW s 0 hT0;rw[show aE (jt s 0) 0=0 from rfl]at et;obtain⟨h6,rfl,N,sb,m,R1,E1⟩|⟨h6,rfl⟩:=hp
 .have dU:(w.alloc<|Cv zF 30).heap.size=w.heap.size+1:=ag;rw[<-et,dU]at R1;rw[<-et]at h6;have lG:=R1.z;have S1:SX w1 N (w.heap.size+1) sb m s 0:=⟨by rw[show aE (jt s 0) 0=0 from rfl];exact R1,by simpa using E1,hT0,h6⟩;have HA:=Rk (n:=(jt s 0).length) iO hT S1 ae;go_wp2_with fail;refine HA.mono ?_;intro e w2 hp
  cases hA:fin (jt s 0) (cP (jt s 0) (jt s 0).length 0)with
  |error f=>
   obtain⟨rfl,K2⟩:=hp.bad hA;have cS:=K2.low dq dq.size ae;refine leaves_cons (f:=102) (args:=#[Pv w.heap.size]) ag PS ?_;refine(As w.heap.size (B1.sG K2 ae) f).mono ?_;rintro e u' w9⟨rfl,rfl,hB,hb⟩;obtain⟨c9,_,_⟩:=hB;simp[Leaves,settle,results,Tryz.results69,go_sem,c9];refine⟨_,f,rfl,cS.trans<|hb.mono qbr,?_⟩;rw[DF hs hA];exact⟨rfl,rfl⟩
  |ok r=>
  obtain⟨a,k⟩:=r;obtain⟨v,rfl,K2,S2,P2⟩:=hp.ok hA;obtain⟨tv,xv,rfl⟩:=P2.iface;have R2:=S2.rd;have hk:=S2.lt;have h62:=S2.ok;have cS:=K2.low dq dq.size ae;have B2:=B1.sG K2 ae;have U6:=abM hs hA;have ho:=eu s k hk;have hke:=JH ho h62;by_cases h7:(tk (jt s 0) k).kind=7
  .have t7:((aq<|tk (jt s 0) k).toList==nE.toList)=true:=by rw[show nE.toList=[116,104,101,32,101,110,100]from toList_mk _,hke];simp[h7]
   go_wp2_with fail;refine(iA R2 iO (qG s k hk) nE t7).mono ?_;intro e w3 hp;obtain⟨rfl,K3,R3⟩:=hp.ok<|J' hk h7;have B3:=B2.sG K3 ae;have nU:=K3.low cS cS.size ae;have P3:=P2.ke K3 (λb p=>by show b≠_;have:w1.heap.size<=b:=p;omega);have B4:=B3.dJ rfl (Iv 0) (Iv 0) (Iv 0);obtain⟨c3,f3,z3⟩:=B3;go_wp2_with fail;refine leaves_cons (f:=102) (args:=#[Pv w.heap.size]) ag PS ?_;refine(ag8 w.heap.size).mono ?_;rintro e u' w9⟨rfl,rfl,rfl⟩;obtain⟨c4,f4,z4⟩:=B4;simp[Leaves,settle,results,Tryz.results69,go_sem,c4];refine⟨_,dx,rfl,((nU.setCell (br _) _).setCell (br _) _).setCell (br _) _,?_⟩;rw[U6,if_pos<|by simp[h7]];refine⟨rfl,P3.move yw (λb p _=>?_)<|λb p _=>?_⟩
   .have p':=p;exact FZ
   .have p':=p;show w.heap.size<=b;omega
  .have t7:((aq<|tk (jt s 0) k).toList==nE.toList)=false:=by rw[show nE.toList=[116,104,101,32,101,110,100]from toList_mk _,hke];simp[h7]
   go_wp2_with fail;refine(yd R2 nE t7 h62).mono ?_;rintro e w3⟨rfl,K3⟩;have nU:=K3.low cS cS.size ae;rw[if_neg<|by simp[h7]]at U6;refine leaves_cons (f:=102) (args:=#[Pv w.heap.size]) ag PS ?_;refine(As w.heap.size (B2.sG K3 ae)<|dc<|tk (jt s 0) k).mono ?_;rintro e u' w9⟨rfl,rfl,hB,hb⟩;obtain⟨c9,_,_⟩:=hB;simp[Leaves,settle,results,Tryz.results69,go_sem,c9];refine⟨_,(dc<|tk (jt s 0) k),rfl,nU.trans<|hb.mono qbr,?_⟩;rw[U6];exact⟨rfl,rfl⟩
 .rw[<-et]at h6⊢;have iL:fin (jt s 0) (cP (jt s 0) (jt s 0).length 0)=.error (dc<|tk (jt s 0) 0):=uO _ _ 0 h6;refine leaves_cons (f:=102) (args:=#[Pv w.heap.size]) ag PS ?_;refine(As w.heap.size B1<|dc<|tk (jt s 0) 0).mono ?_;rintro e u' w9⟨rfl,rfl,hB,hb⟩;obtain⟨c9,_,_⟩:=hB;simp[Leaves,settle,results,Tryz.results69,go_sem,c9];refine⟨_,(dc<|tk (jt s 0) 0),rfl,dq.trans<|hb.mono qbr,?_⟩;rw[DF hs iL];exact⟨rfl,rfl⟩
def VB(h:Laid w)s:Cq 69 #[.string s,.func (.func 70) #[] #[]] w (pS s w):=by
 by_cases hs:400<s.size
 .exact OX s hs
 .exact aep h s hs (by have:=Ka s 0;omega)
def aie(h:Laid w)s:Cq 43 #[.string s] w (pS s w):=by
 have⟨bN,B0⟩:=nK w zF 30;have HL:=h.af bN;have HC:=VB HL s;go_enter func43,ntmps43;go_wp2_with fail;refine HC.mono ?_;rintro e w1⟨v,f,rfl,b_,hp⟩;have B1:=B0.below b_;have B2:=B1.dJ rfl (Nv f.kind) (Nv f.al) (Nv f.to);obtain⟨c1,f1,z1⟩:=B1;have Hp:=ai hp;rw[jF];go_wp2_with fail;obtain⟨c2,f2,z2⟩:=B2;refine bodyPost_ret (v:=.tuple #[v,jF f]) (by simp[results,Tryz.results43,go_sem,jF,c2]) rfl ⟨v,f,rfl,(((bN.trans<|b_.mono bN.size).setCell (br _) _).setCell (br _) _).setCell (br _) _,?_⟩;have hp:=uh Hp
 cases hr:eK s with
 |error f'=>rw[hr]at hp;exact hp|ok a=>
  rw[hr]at hp;refine⟨hp.1,hp.2.move yw (λb p _=>?_)<|λb p _=>?_⟩
  .have p':=p;simp at p';exact FZ
  .have p':=p;simp at p';show w.heap.size<=b;omega
section
variable {kb fb:Nat} {ns:List BA}
def OY{f:Fl}(h:eK s=.error f):f.kind≠0:=by
 have g:=DE s;rw[h]at g;have g:f.kind%6≠0:=g;omega
def abN(kb fb cb mb:Nat)(ns:List BA)(s:BA)(w:World)(e:Ending)(w':World):=
 ∃v f,e=.returned (.tuple #[v,jF f])/\Fr (Two cb mb) w w'/\
  ((f.kind≠0/\(eK s=.error f\/∃a,eK s=.ok a/\48<size (aH ns a).1/\f=⟨7,0,s.size⟩))\/
   (f=dx/\∃a,eK s=.ok a/\¬48<size (aH ns a).1/\NM w' kb fb cb mb (aH ns a).2/\(aH ns a).2.length<=ns.length+802/\dB w' (λb=>w.heap.size<=b) (aH ns a).1 v))
def Ba(hL:Laid w)(h:NM w kb fb cb mb ns)(hn:ns.length<=900)s:Cq 31 #[.string s,nmV kb fb] w (abN kb fb cb mb ns s w):=by
 have bq:=h.lt;have⟨bN,B0⟩:=nK w zF 30;have HC:=aie (hL.af bN) s;go_enter func31,ntmps31;go_wp2_with fail;refine HC.mono ?_;rintro e w1⟨v,f,rfl,b_,hp⟩;have dq:=bN.trans<|b_.mono bN.size;have⟨fc,L2⟩:=nK w1 #[Nv f.kind,Nv f.al,Nv f.to] 30;have cS:=dq.trans<|fc.mono dq.size;have B2:=ai<|(B0.below b_).alloc<|Cv #[Nv f.kind,Nv f.al,Nv f.to] 30;have⟨c2,f2,z2⟩:=uh B2;obtain⟨d2,g2,y2⟩:=L2;rw[jF]
 cases hr:eK s with
 |error f'=>
  rw[hr]at hp;obtain⟨rfl,rfl⟩:=hp;have hk:=OY hr;have gF:((f.kind:Int)==0)=false:=bB;have B3:=ai<|(B2.dJ rfl (Nv f.kind) (Nv f.al) (Nv f.to)).gL
  go_wp2
  go_region;go_wp2_with fail;have⟨c3,f3,z3⟩:=uh B3;refine bodyPost_ret (v:=.tuple #[Zv,jF f]) (by simp[results,Tryz.results31,go_sem,jF,c3]) rfl ⟨_,f,rfl,?_,qd ⟨hk,qd hr⟩⟩;exact((Fr.of cS).Ai (j9<|br _) _ _ _).drew
 |ok a=>
  rw[hr]at hp;obtain⟨rfl,P1⟩:=hp;obtain⟨tv,xv,rfl⟩:=P1.iface;have⟨hTy,hnz⟩:=A_ hr;have⟨hsm,hmc⟩:=SW a ns;have al0:=b_.size;simp at al0;have hQ:∀b,(w.alloc<|Cv zF 30).heap.size<=b->b≠cb/\b≠mb:=λb q=>by simp at q;omega
  have HO:=aeR a hTy _ kb fb cb mb ns _ _ (h.af cS) (P1.af fc) hQ ae;simp only[dx]at*;go_wp2_with fail;refine HO.mono ?_;rintro e w3⟨u,rfl,T3,N3,F3⟩;obtain⟨tu,xu,rfl⟩:=T3.iface;have hnt:¬Two cb mb w.heap.size:=λq=>by obtain q|q:=q<;>omega
  have B3:=B2.fr F3 hnt;have FF:=(Fr.of cS).trans F3;have z3:=F3.size;simp at z3;go_wp2_with fail;refine(Sg (aH ns a).1 w3 _ _ T3 ae).mono ?_;rintro e w4⟨rfl,rS⟩;have B4:=B3.below rS;have FG:=FF.trans<|Fr.of rS;have N4:=N3.af rS;have T4:=T3.af rS;have Bj:=ai B4;obtain⟨c4,f4,z4⟩:=B4;by_cases dU:48<size (aH ns a).1
  .have hd:(48:Int)<(size (aH ns a).1:Int):=ae;have B5:=ai<|Bj.dJ rfl (Iv 7) (Iv 0) (Nv s.size);go_wp2_with fail;have⟨c5,f5,z5⟩:=uh B5;exact bodyPost_ret (v:=.tuple #[Zv,jF ⟨7,0,s.size⟩]) (by simp[results,Tryz.results31,go_sem,jF,c5]) rfl ⟨_,⟨7,0,s.size⟩,rfl,FG.Ai (j9<|br _) _ _ _,qd ⟨ag,j9 ⟨a,hr,dU,rfl⟩⟩⟩
  .have hd:decide ((48:Int)<(size (aH ns a).1:Int))=false:=bB;have B5:=ai<|Bj.dJ rfl (Iv 0) (Iv 0) (Iv 0);go_wp2_with fail;have⟨c5,f5,z5⟩:=uh B5;refine bodyPost_ret (v:=.tuple #[Fv tu xu,jF dx]) (by simp[results,Tryz.results31,go_sem,jF,c5,dx]) rfl ⟨_,dx,rfl,FG.Ai (j9<|br _) _ _ _,j9 ⟨rfl,a,hr,dU,?_,ae,?_⟩⟩
   .exact((N4.set ae 0 _).set ae 1 _).set ae 2 _
   .refine T4.move yw (λb p _=>?_) (λb p _=>?_)
    .have p':=p;simp at p';exact FZ
    .have p':=p;simp at p';show w.heap.size<=b;omega
end
def abO(hL:Laid w)s t:Cq 19 #[.string s,.string t] w (ahD s t w):=by
 have⟨bN,B0⟩:=nK w zF 30;have b_:Bq w ((w.alloc<|Cv zF 30).alloc<|Cv #[Iv 0] 3):=bN.alloc ag _;have B1:=B0.alloc<|Cv #[Iv 0] 3;have C1:Bx ((w.alloc<|Cv zF 30).alloc<|Cv #[Iv 0] 3) (w.heap.size+1) #[Iv 0]:=by have:=Bx.new (w.alloc<|Cv zF 30) #[Iv 0] 3;simpa using this
 go_enter func19,ntmps19;go_wp2_with(go_at_call 33;refine xW.mono ?_;rintro e w'⟨rfl,rfl⟩);refine(QF (w.heap.size+1) C1).mono ?_;rintro e w2⟨kb,fb,mb,rfl,N2,fc,rI⟩;have cS:=b_.trans<|fc.mono b_.size;have B2:=B1.below fc;have HC:=Ba (hL.af cS) N2 ag s;go_wp2_with fail;refine HC.mono ?_;rintro e w3⟨v,f,rfl,F3,hp⟩;simp at rI;have hS:∀x,Two (w.heap.size+1) mb x->w.heap.size<x:=λx q=>by obtain q|q:=q<;>omega
 have nU:=Fr.mn cS cS.size F3<|λx q=>j6<|hS x q;have B3:=B2.fr F3 (λq=>by have:=hS _ q;omega);have⟨rS,L4⟩:=sf w3 #[Nv f.kind,Nv f.al,Nv f.to] 30;have Bj:=nU.trans<|rS.mono nU.size;have B4:=ai<|B3.below rS;have⟨c4,f4,z4⟩:=uh B4;have⟨d4,g4,y4⟩:=uh L4;rw[jF];obtain⟨hk,hp⟩|⟨rfl,a,hr,dU,N3,yv,T3⟩:=hp
 .have gF:((f.kind:Int)==0)=false:=bB;have hca:BH s t [] false f:=by
   rw[BH];obtain hp|⟨a,hr,dU,rfl⟩:=hp
   .rw[hp];exact⟨rfl,rfl,rfl⟩
   .rw[hr];simp[dU]
  have B5:=ai<|(B4.dJ rfl (Nv f.kind) (Nv f.al) (Nv f.to)).gL
  go_wp2
  go_region;go_wp2_with fail;have⟨c5,f5,z5⟩:=uh B5;refine bodyPost_ret (v:=.tuple #[Sv<|bs [],.bool false,jF f]) (by simp[results,Tryz.results19,go_sem,jF,c5,bs]) rfl ?_;exact⟨[],false,f,rfl,hca,(((Bj.setCell (p:=⟨w.heap.size,0,none⟩) (br _) _).setCell (p:=⟨w.heap.size,1,none⟩) (br _) _).setCell (p:=⟨w.heap.size,2,none⟩) (br _) _).drew⟩
 .obtain⟨tv,xv,rfl⟩:=T3.iface;have⟨hTy,_⟩:=A_ hr;have hW:=Q9 hTy [];have T4:=T3.low.af rS;have l3:=N3.lt;have l2:=N2.lt;have N4:=N3.af rS;have ad3:(aH [] a).2.length<=900:=by simp at yv;omega
  have HC:=Ba (hL.af Bj) N4 ad3 t;simp only[dx]at*;go_wp2_with fail;refine HC.mono ?_;rintro e w5⟨v5,g,rfl,F5,hp⟩;have HB5:=Fr.mn Bj Bj.size F5<|λx q=>j6<|hS x q;have B5:=B4.fr F5 (λq=>by have:=hS _ q;omega);have L5:=L4.fr F5 (λq=>by obtain q|q:=q<;>omega);have T5:=T4.fr F5 (λb p _ q=>by have p1:w2.heap.size<=b:=p.1;obtain q|q:=q<;>omega);have z35:=L5.z;have qW:=B3.z;have L6:=L5.dJ rfl (Nv g.kind) (Nv g.al) (Nv g.to);have B6:=ai<|B5.aaA (b2:=w3.heap.size) ae (Nv g.kind) (Nv g.al)<|Nv g.to;have HB6:=((HB5.setCell (p:=⟨w3.heap.size,0,none⟩) (j6 qW)<|Nv g.kind).setCell (p:=⟨w3.heap.size,1,none⟩) (j6 qW)<|Nv g.al).setCell (p:=⟨w3.heap.size,2,none⟩) (j6 qW)<|Nv g.to;have F6:=(Fr.refl (λx=>x=w3.heap.size) w5).Ai (b:=w3.heap.size) (qd rfl) (Nv g.kind) (Nv g.al)<|Nv g.to;have T6:=(T5.fr F6 (λb p _ q=>by have q:b=w3.heap.size:=q;have:=p.2;omega)).wide (Q:=λ_=>True) (λ_ _=>trivial);obtain⟨c5,f5,z5⟩:=L5;have⟨c6,f6,z6⟩:=uh B6;obtain⟨d6,g6,y6⟩:=L6;rw[jF];obtain⟨hk,hp⟩|⟨rfl,b,yK,aco,N5,amG,TB⟩:=hp
  .have gF:((g.kind:Int)==0)=false:=bB;have hca:BH s t [] false g:=by
    rw[BH];rw[hr];simp only[dU,if_false];obtain hp|⟨b,yK,aco,rfl⟩:=hp
    .rw[hp];simp
    .rw[yK];simp[aco]
   have B7:=ai<|(B6.dJ rfl (Nv g.kind) (Nv g.al) (Nv g.to)).gL;have hvi:∃x,v5=x:=⟨_,rfl⟩
   go_wp2
   go_region;go_wp2_with fail;have⟨c7,f7,z7⟩:=uh B7;refine bodyPost_ret (v:=.tuple #[Sv<|bs [],.bool false,jF g]) (by simp[results,Tryz.results19,go_sem,jF,c7,bs]) rfl ?_;exact⟨[],false,g,rfl,hca,(((HB6.setCell (p:=⟨w.heap.size,0,none⟩) (br _) _).setCell (p:=⟨w.heap.size,1,none⟩) (br _) _).setCell (p:=⟨w.heap.size,2,none⟩) (br _) _).drew⟩
  .obtain⟨tb,xb,rfl⟩:=TB.iface;have⟨al1,_⟩:=A_ yK;have hW2:=Q9 al1 (aH [] a).2;have TB6:=(TB.fr F6 (λb p _ q=>by have q:b=w3.heap.size:=q;have p1:w3.heap.size+1<=b:=(by simpa using p);omega)).wide (Q:=λ_=>True) (λ_ _=>trivial);have HU:=abL T6 TB6 hW hW2 ae ae;simp only[dx]at*;go_wp2_with fail;refine HU.mono ?_;rintro e w7⟨z,ok,f,rfl,hb7,hR⟩;have HB7:=HB6.trans<|hb7.mono HB6.size;have B7:=B6.below hb7;have B8:=B7.dJ rfl (Nv f.kind) (Nv f.al) (Nv f.to);obtain⟨c7,f7,z7⟩:=B7;have hca:BH s t z ok f:=by
    rw[BH];rw[hr];simp only[dU,if_false];rw[yK];simp only[aco,if_false];exact hR
   rw[jF];go_wp2_with fail;obtain⟨c8,f8,z8⟩:=B8;refine bodyPost_ret (v:=.tuple #[Sv<|bs z,.bool ok,jF f]) (by simp[results,Tryz.results19,go_sem,jF,c8]) rfl ?_;exact⟨z,ok,f,rfl,hca,((HB7.setCell (p:=⟨w.heap.size,0,none⟩) (br _) _).setCell (p:=⟨w.heap.size,1,none⟩) (br _) _).setCell (p:=⟨w.heap.size,2,none⟩) (br _) _⟩
end
end Go.Proofs.YtfnkchdeheeiiaaGreatDoor
