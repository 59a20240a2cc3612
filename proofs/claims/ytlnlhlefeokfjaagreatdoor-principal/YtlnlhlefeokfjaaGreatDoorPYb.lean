import Derived.Test.YtlnlhlefeokfjaaGreatDoorPBzw
import Derived.Test.YtlnlhlefeokfjaaGreatDoorPXz
set_option linter.all false
set_option maxRecDepth 100000
set_option maxHeartbeats 8000000
namespace Go.Proofs.YtlnlhlefeokfjaaGreatDoor
open Pu renaming bF->ja,Tok->jc,Ax->jd
open _root_.Nat renaming le_succ->jf,zero_le->jh,lt_of_lt_of_le->ji,add_zero->jj,lt_succ_self->jk,mul_one->jl
open Go.RowKit.Below renaming refl->jm,heap_setCell->jo
open Or renaming inl->jp,inr->jq
open _root_.List renaming take_succ_eq_append_getElem->jt,take_of_length_le->ju,getElem_of_mem->jv,foldl_append->jx,getElem_mem->jy
open In renaming NW->jz,Mks->j3,Ac->j5,oQ->j6,Ft->j7,FtF->j8
open Go.Proofs.Tryz renaming prog->j9,underlying9->qe
open Bx renaming new->qf
open Go.World renaming cell?_of_block->qg
open Bool renaming and_eq_true->qh
open Go Go.RowKit Proofs.Tryz
variable {s:BA} {lo:BA->Nat} {F mk ty:BA->Option Nat} {z:j7} {nl:List BA} {l:List Dc} {L ms:List Nd} {vs:List jc} {B a cb f j k lb mb n t tb:Nat} {x:Nd} {v vl vr:Value} {w:World}
section
open Go.ChangeMaps
def wQ b(hB:Bx w b zF)f:
 CallsD j9 83 #[Pv b] (.panicking [{v:=guV f,recovered:=false}]) w λe u' w'=>
  e=.returned (.tuple #[])/\u'=.panicking [{v:=guV f,recovered:=true}]/\Bx w' b #[Nv f.kind,Nv f.aF,Nv f.to]/\Below b w w':=by
 have hta:=abu;have B0:=ai hB;obtain⟨c,ff,z⟩:=hB;refine callsD_of_wpS Tryz.func83 rfl λdW cs hu=>?_;apply wpS_seq;apply wpS_region;simp[wpOpsS,go_sem,recoverD,hu,Tryz.ntmps83,Exit.thenS];rw[show(#[Pv b]++((Array.replicate 16 undef).setIfInBounds 3<|guV f).setIfInBounds 0 (guV f))=#[Pv b,guV f,undef,undef,guV f,undef,undef,undef,undef,undef,undef,undef,undef,undef,undef,undef,undef]from rfl];obtain⟨CS,EZ⟩:∃CS:List Frame,CS=({fn:=dW.fn,tmps:=dW.tmps,todo:=dW.todo,defers:=dW.defers,mode:=FrameMode.panicking [{v:=guV f,recovered:=true}],kind:=dW.kind,roundOf:=dW.roundOf}::cs):=⟨_,rfl⟩;rw[<-EZ];refine wpS_of_wp ?_;go_wp2_with fail;refine⟨rfl,_,EZ,.tuple #[],by simp[results,Tryz.results83,go_sem],rfl,rfl,?_,?_⟩
 .exact((B0.fW rfl _ _ _).alloc _)
 .exact((((jm b w).setCell (br _) _).setCell (br _) _).setCell (br _) _).alloc (by simp[World.setCell];omega) _
def aeW b:
 CallsD j9 83 #[Pv b] .returning w λe u' w'=>
  e=.returned (.tuple #[])/\u'=.returning/\w'=w:=by
 refine callsD_of_wpS Tryz.func83 rfl λdW cs hu=>?_;apply wpS_seq;apply wpS_region;simp[wpOpsS,go_sem,recoverD,hu,Tryz.ntmps83,Exit.thenS];rw[show(#[Pv b]++((Array.replicate 16 undef).setIfInBounds 3 Zv).setIfInBounds 0 Zv)=#[Pv b,Zv,undef,undef,Zv,undef,undef,undef,undef,undef,undef,undef,undef,undef,undef,undef,undef]from rfl];have EZ:dW::cs={dW with mode:=.returning}::cs:=(by cases dW;simp at hu;subst hu;rfl);refine wpS_of_wp ?_
 go_wp2
 exact⟨rfl,_,EZ,.tuple #[],by simp[results,Tryz.results83,go_sem],rfl,rfl,rfl⟩
def P7(T:List jc)l:aS T (Vf T l):=λk h=>by rw[Vf];rw[if_neg ae];rfl
def EK(hs:¬400<s.size){f}(h:fin (ja s 0) (dx (ja s 0) (eZ (ja s 0) (ja s 0).length) (ja s 0).length [] 0)=.error f):lF s=.error f:=by
 unfold lF;rw[if_neg hs];have:=b8 h<|λl=>P7 (ja s 0) l;unfold fin at this;split at this
 .rename_i e;cases this;rw[e]
 .rename_i a k e;split at this
  .rename_i h6;exfalso;have⟨l,j,_,h2⟩:=aC e;unfold Vf at h2;split at h2
   .cases h2;omega
   .cases h2
  .cases this
theorem aco(hs:¬400<s.size)(h:fin (ja s 0) (dx (ja s 0) (eZ (ja s 0) (ja s 0).length) (ja s 0).length [] 0)=.ok (l,k)):lF s=if(tk (ja s 0) k).kind=7 then .ok l else .error (eK<|tk (ja s 0) k):=by grind[fin,dx,eZ,lF,tk,eK,nH,Vf]
def pT s w(e:Ending)w':=
 ∃u f,e=.returned (.tuple #[.agg #[u],oC f])/\Bq w w'/\match lF s with
  |.error f'=>f=f'/\u=.slice none 0 0|.ok l=>f=dw/\RowV QD 1 w' (λb=>w.heap.size<=b) l u
abbrev WO:Array Value:=#[.slice none 0 0]
theorem Mw s(hs:400<s.size):Cq 68 #[.string s,.func (.func 69) #[] #[]] w (pT s w):=by
 have h1:(400:Int)<(s.size:Int):=ae;have hp:Hid (lF s=.error ⟨1,0,0⟩):=by show _=_;simp[lF,hs]
 have B0:=(qf w WO 51).alloc<|Cv zF 31;have F0:Bx ((w.alloc<|Cv WO 51).alloc<|Cv zF 31) (w.heap.size+1) zF:=by have:=qf (w.alloc<|Cv WO 51) zF 31;simpa using this
 obtain⟨c,f,z⟩:=B0;obtain⟨c',f',z'⟩:=F0
 go_enter_defers Tryz.func68,Tryz.ntmps68
 go_wp2_with fail;simp[bodyPostD,Leaves,settle,results,Tryz.results68,go_sem];refine⟨_,⟨1,0,0⟩,rfl,(bw _).alloc ag _,?_⟩;rw[uh hp];exact⟨rfl,rfl⟩
theorem acp(h:Laid w)s(hs:¬400<s.size)(hT:(ja s 0).length<=1001):Calls j9 68 #[.string s,.func (.func 69) #[] #[]] w (pT s w):=by
 have h1:decide ((400:Int)<(s.size:Int))=false:=bD;have jD:s.size<=1000:=ae;have hT0:0<(ja s 0).length:=by
  rw[jZ s 0<|jh _];split<;>simp
 have B0:=(qf w WO 51).alloc<|Cv zF 31;have F0:Bx ((w.alloc<|Cv WO 51).alloc<|Cv zF 31) (w.heap.size+1) zF:=by have:=qf (w.alloc<|Cv WO 51) zF 31;simpa using this
 have bP:Below w.heap.size w ((w.alloc<|Cv WO 51).alloc<|Cv zF 31):=(bw _).alloc ag _;have og:((w.alloc<|Cv WO 51).alloc<|Cv zF 31).heap.size=w.heap.size+2:=ag;have HL:=h.af bP
 go_enter_defers Tryz.func68,Tryz.ntmps68
 go_wp2_with fail;refine(xP HL s jD).mono ?_;intro e w1 hp;obtain⟨aeX,hp⟩:=hp;rw[og]at hp;have B1:=B0.below aeX;have F1:=F0.below aeX;have dA:=bP.trans<|aeX.mono bP.size;have et:=jM s 0 hT0;rw[show aR (ja s 0) 0=0 from rfl]at et;have z1:=aeX.size;rw[og]at z1;obtain⟨h6,rfl,N,sb,m,X1,E1⟩|⟨h6,rfl⟩:=hp
 .rw[<-et]at X1 h6;have S1:SX w1 N (w.heap.size+2) sb m s 0:=⟨by rw[show aR (ja s 0) 0=0 from rfl];exact X1,E1,hT0,h6⟩;have HA:=WD (n:=(ja s 0).length) jD hT S1 ae;have hrb:=S1.z;go_wp2_with fail;refine HA.mono ?_;intro e w2 hp
  cases hA:fin (ja s 0) (dx (ja s 0) (eZ (ja s 0) (ja s 0).length) (ja s 0).length [] 0)with
  |error f=>
   obtain⟨rfl,K2⟩:=hp.bad hA;have du:=K2.low dA dA.size ae;refine leaves_cons (f:=83) (args:=#[.pointer<|some ⟨w.heap.size+1,0,none⟩]) ag Zi ?_;refine(wQ (w.heap.size+1) (F1.Gq K2 ae)<|f).mono ?_;rintro e u' w9⟨rfl,rfl,hB,hb⟩;obtain⟨c9,_,_⟩:=hB;have P9:=(B1.Gq K2 ae).same hb.size<|hb.block w.heap.size<|jk _;obtain⟨d9,_,_⟩:=P9;simp[Leaves,settle,results,Tryz.results68,go_sem,c9,d9];refine⟨_,f,rfl,du.trans<|hb.mono<|jf _,?_⟩;rw[EK hs hA];exact⟨rfl,rfl⟩
  |ok r=>
  obtain⟨l,k⟩:=r;obtain⟨v,rfl,K2,S2,u,rfl,RV⟩:=hp.ok hA;have du:=K2.low dA dA.size ae;have z2:=K2.size;have Xl:=aco hs hA;have hk:=S2.lt;have ho:=eC s k hk;have hke:=Ka ho S2.ok;have⟨ox,R3⟩:=oF w2 #[u] 51;have B3:=(B1.Gq K2 ae).below ox;have F3:=(F1.Gq K2 ae).below ox;have Rj:=S2.af ox;have oP:=du.trans<|ox.mono du.size;have RV3:RowV QD 1 (w2.alloc<|Cv #[u] 51) (λb=>w1.heap.size<=b/\b<w2.heap.size) l u:=RV.move bT ox.size (λb _ z=>ox.block b z)<|λb p z=>⟨p,z⟩;have z3:(w2.alloc<|Cv #[u] 51).heap.size=w2.heap.size+1:=ag;obtain⟨va,vc,cs,hu,_,_⟩:=RV;subst hu;have amu:=ai RV3;by_cases h7:(tk (ja s 0) k).kind=7
  .have t7:((aA<|tk (ja s 0) k).toList==uG.toList)=true:=by rw[show uG.toList=[116,104,101,32,101,110,100]from toList_mk _,hke];simp[h7]
   go_wp2_with fail;refine(iL Rj.rd jD (rD s k hk) uG t7).mono ?_;intro e w3 hp;obtain⟨rfl,K3,R4⟩:=hp.ok<|Ld hk h7;have zk:=K3.size;have B4:=B3.Gq K3 ae;have F4:=F3.Gq K3 ae;have R5:=R3.Gq K3 ae;have HBB:=K3.low oP oP.size ae;have amv:=amu.move bT K3.size (λb p z=>K3.block b z ae)<|λ_ p _=>p;have amw:=ai B4;have amx:=ai F4;obtain⟨c3,f3,y3⟩:=R5;obtain⟨c4,f4,y4⟩:=B4;obtain⟨c5,f5,y5⟩:=F4;go_wp2_with fail;have B6:=(((amw.aT 0 (Lv va l.length vc) #[Lv va l.length vc] rfl ag).bR (b2:=w.heap.size+1) ae 0 (.int .i64 0)).bR (b2:=w.heap.size+1) ae 1 (.int .i64 0)).bR (b2:=w.heap.size+1) ae 2 (.int .i64 0);have F6:=(amx.bR (b2:=w.heap.size) ae 0<|Lv va l.length vc).fW rfl (.int .i64 0) (.int .i64 0) (.int .i64 0);have RV6:=((((amv.u_ bT (b:=w.heap.size) (λc p=>ae) 0<|Lv va l.length vc).u_ bT (b:=w.heap.size+1) (λc p=>ae) 0<|.int .i64 0).u_ bT (b:=w.heap.size+1) (λc p=>ae) 1<|.int .i64 0).u_ bT (b:=w.heap.size+1) (λc p=>ae) 2<|.int .i64 0).move bT (br _) (λ_ _ _=>rfl) (P':=λb=>w.heap.size<=b)<|λb p _=>ae
   have HB6:=(((HBB.setCell (p:=⟨w.heap.size,0,none⟩) (br _)<|Lv va l.length vc).setCell (p:=⟨w.heap.size+1,0,none⟩) (jf _)<|.int .i64 0).setCell (p:=⟨w.heap.size+1,1,none⟩) (jf _)<|.int .i64 0).setCell (p:=⟨w.heap.size+1,2,none⟩) (jf _)<|.int .i64 0;refine leaves_cons (f:=83) (args:=#[.pointer<|some ⟨w.heap.size+1,0,none⟩]) ag Zi ?_;refine(aeW<|w.heap.size+1).mono ?_;rintro e u' w9⟨rfl,rfl,rfl⟩;obtain⟨c7,_,_⟩:=B6;obtain⟨c8,_,_⟩:=F6;simp[Leaves,settle,results,Tryz.results68,go_sem,c7,c8];refine⟨_,dw,rfl,HB6,?_⟩;rw[Xl,if_pos h7];exact⟨rfl,RV6⟩
  .have t7:((aA<|tk (ja s 0) k).toList==uG.toList)=false:=by rw[show uG.toList=[116,104,101,32,101,110,100]from toList_mk _,hke];simp[h7]
   go_wp2_with fail;refine(Gs Rj.rd uG t7 Rj.ok).mono ?_;rintro e w3⟨rfl,K3⟩;have Ci:=K3.low oP oP.size ae;rw[if_neg h7]at Xl;refine leaves_cons (f:=83) (args:=#[.pointer<|some ⟨w.heap.size+1,0,none⟩]) ag Zi ?_;refine(wQ (w.heap.size+1) (F3.Gq K3 ae)<|eK<|tk (ja s 0) k).mono ?_;rintro e u' w9⟨rfl,rfl,hB,hb⟩;obtain⟨c9,_,_⟩:=hB;have P9:=(B3.Gq K3 ae).same hb.size<|hb.block w.heap.size<|jk _;obtain⟨d9,_,_⟩:=P9;simp[Leaves,settle,results,Tryz.results68,go_sem,c9,d9];refine⟨_,eK<|tk (ja s 0) k,rfl,Ci.trans<|hb.mono<|jf _,?_⟩;rw[Xl];exact⟨rfl,rfl⟩
 .rw[<-et]at h6⊢;have jA:fin (ja s 0) (dx (ja s 0) (eZ (ja s 0) (ja s 0).length) (ja s 0).length [] 0)=.error (eK<|tk (ja s 0) 0):=yg _ _ _ _ 0 h6;refine leaves_cons (f:=83) (args:=#[.pointer<|some ⟨w.heap.size+1,0,none⟩]) ag Zi ?_;refine(wQ (w.heap.size+1) F1<|eK<|tk (ja s 0) 0).mono ?_;rintro e u' w9⟨rfl,rfl,hB,hb⟩;obtain⟨c9,_,_⟩:=hB;have P9:=B1.same hb.size<|hb.block w.heap.size<|jk _;obtain⟨d9,_,_⟩:=P9;simp[Leaves,settle,results,Tryz.results68,go_sem,c9,d9];refine⟨_,eK<|tk (ja s 0) 0,rfl,dA.trans<|hb.mono<|jf _,?_⟩;rw[EK hs jA];exact⟨rfl,rfl⟩
theorem P8(h:Laid w)s:Cq 68 #[.string s,.func (.func 69) #[] #[]] w (pT s w):=by grind[pT,Mw,acp,Lf]
def WQ(h:Laid w)s:Cq 44 #[.string s] w (pT s w):=by
 have bP:Bq w ((w.alloc<|Cv WO 51).alloc<|Cv zF 31):=(bw _).alloc ag _;have og:((w.alloc<|Cv WO 51).alloc<|Cv zF 31).heap.size=w.heap.size+2:=ag;have B0:=(Bx.new w WO 51).alloc<|Cv zF 31;have F0:Bx ((w.alloc<|Cv WO 51).alloc<|Cv zF 31) (w.heap.size+1) zF:=(by have:=Bx.new (w.alloc<|Cv WO 51) zF 31;simpa using this);have HC:=P8 (h.af bP) s;go_enter func44,ntmps44;go_wp2_with fail;refine HC.mono ?_;rintro e w1⟨u,f,rfl,bZ,hp⟩;have B1:=B0.below bZ;have F1:=F0.below bZ;have B2:=(((B1.aT 0 u #[u] rfl ag).bR (b2:=w.heap.size+1) ae 0 (Nv f.kind)).bR (b2:=w.heap.size+1) ae 1 (Nv f.aF)).bR (b2:=w.heap.size+1) ae 2 (Nv f.to);have F2:=(F1.bR (b2:=w.heap.size) ae 0 u).fW rfl (Nv f.kind) (Nv f.aF) (Nv f.to);have du:=((((bP.trans<|bZ.mono bP.size).setCell (p:=⟨w.heap.size,0,none⟩) (br _) u).setCell (p:=⟨w.heap.size+1,0,none⟩) (Nat.le_succ _)<|Nv f.kind).setCell (p:=⟨w.heap.size+1,1,none⟩) (Nat.le_succ _)<|Nv f.aF).setCell (p:=⟨w.heap.size+1,2,none⟩) (Nat.le_succ _)<|Nv f.to;obtain⟨va,vc,n,hu⟩:∃va vc n,u=Lv va n vc:=by
  cases hr:lF s with
  |error f'=>rw[hr]at hp;exact⟨_,_,_,hp.2⟩|ok l=>rw[hr]at hp;have⟨va,vc,cs,e,_⟩:=hp.2;exact⟨_,_,_,e⟩
 subst hu;obtain⟨c1,f1,z1⟩:=B1;obtain⟨c2,f2,z2⟩:=F1;have Hp:=ai hp;rw[oC];go_wp2_with fail;obtain⟨c3,f3,z3⟩:=B2;obtain⟨c4,f4,z4⟩:=F2;refine bodyPost_ret (v:=.tuple #[Av #[Lv va n vc],oC f]) (by simp[results,Tryz.results44,go_sem,oC,c3,c4]) rfl ⟨Lv va n vc,f,rfl,du,?_⟩;have hp:=uh Hp
 cases hr:lF s with
 |error f'=>rw[hr]at hp;exact hp|ok l=>
  rw[hr]at hp;rw[og]at hp;have q:∀c,w.heap.size+2<=c->c≠w.heap.size:=λc h=>ae;have q':∀c,w.heap.size+2<=c->c≠w.heap.size+1:=λc h=>ae;exact⟨hp.1,((((hp.2.u_ bT (b:=w.heap.size) q 0 _).u_ bT (b:=w.heap.size+1) q' 0 _).u_ bT (b:=w.heap.size+1) q' 1 _).u_ bT (b:=w.heap.size+1) q' 2 _).move bT (br _) (λ_ _ _=>rfl) (λb p _=>by have p':w.heap.size+2<=b:=p;show w.heap.size<=b;omega)⟩
end
section
open Go.ChangeMaps Go.MapKept
def dX(v:jc):BA:=v.text.extract 1 v.text.size
def Um:Nd->List Nd|.mk _ _ _ L _ _ _=>L
def Mx(vs:List jc):BA->Option Nat:=vs.foldl (λF v=>yj F (dX v) 0) λ_=>none
def mkF(mk:BA->Option Nat)(ms:List Nd):BA->Option Nat:=ms.foldl (λm x=>yj m (j5 x) (Um x).length) mk
structure aiv(ty mk:BA->Option Nat)(t:jc)(vs:List jc)(ms:List Nd):Prop where
 tn:ty t.text=none
 vo:∀j(h:j<vs.length),Mx (vs.take j) (dX vs[j])=none
 mo:∀j(h:j<ms.length),mkF mk (ms.take j) (j5 ms[j])=none/\lP (yj ty t.text vs.length) (Mx vs) (Um ms[j])=true
 zo:vs.length<=1000/\ms.length<=1000/\bV ms<=1000
def aiw(h:j<vs.length):Mx (vs.take<|j+1)=yj (Mx<|vs.take j) (dX vs[j]) 0:=by
 rw[Mx];rw[jt h,jx];rfl
def akT(h:j<ms.length):mkF mk (ms.take<|j+1)=yj (mkF mk<|ms.take j) (j5 ms[j]) (Um ms[j]).length:=by
 rw[mkF];rw[jt h,jx];rfl
structure CD cb tb mb lb ob ty mk lo F w0 xb C wr:Prop where
 d:CK wr cb tb mb lb ty mk lo
 k:Fr (λb=>b=tb\/b=mb) w0 wr
 o:FM wr ob F
 b:Bx wr xb C
section
variable {ob xb:Nat} {C:Array Value} {F' mk':BA->Option Nat} {w0 wr w':World}
def CD.af(h:CD cb tb mb lb ob ty mk lo F w0 xb C wr)(hb:Bq wr w'):CD cb tb mb lb ob ty mk lo F w0 xb C w':=⟨h.d.af hb,h.k.trans<|Fr.of hb,h.o.below hb,h.b.below hb⟩
def CD.amy(h:CD cb tb mb lb ob ty mk lo F w0 xb C wr)(k:Fr (λb=>b=ob) wr w')(m:FM w' ob F')(n:ob≠cb/\ob≠tb/\ob≠mb/\ob≠lb)(hz:w0.heap.size<=ob)(hx:xb≠ob):CD cb tb mb lb ob ty mk lo F' w0 xb C w':=
 ⟨h.d.fr k λb q=>by subst q;exact n,h.k.trans' k<|λb q=>jq (by have q:b=ob:=q;omega),m,h.b.fr k hx⟩
def CD.amz(h:CD cb tb mb lb ob ty mk lo F w0 xb C wr)(k:Fr (λb=>b=mb) wr w')(m:FM w' mb mk')(ho:ob≠mb)(hx:xb≠mb):CD cb tb mb lb ob ty mk' lo F w0 xb C w':=
 ⟨h.d.akJ k m,h.k.trans' k<|λb q=>jp<|jq q,h.o.same<|k.block ob h.o.lt ho,h.b.fr k hx⟩
def P_{t:jc}{vv vm}{x y}(h:CK w cb tb mb lb ty mk lo)(hBt:B<=tb)(hBm:B<=mb)(hv:RowV QName 3 w (·<B) vs vv)(hm:RowV QMaker 6 w (·<B) ms vm)(HT:aiv ty mk t vs ms):
 Cq 85 #[cp cb,.agg #[Iv x,Iv y,Nv t.aF,Nv t.to,.string t.text,vv,vm]] w λe w'=>e=.returned (.tuple #[])/\Fr (λb=>b=tb\/b=mb) w w'/\CK w' cb tb mb lb (yj ty t.text vs.length) (mkF mk ms) lo:=by
 obtain⟨va,vc,cv,rfl,HVR,HVQ⟩:=hv;obtain⟨ma,mc,cm,rfl,HMR,hmq⟩:=hm;have iZ:= @run_makeMap Tryz.prog;have HMQ:=ai hmq;have⟨z1,z2,z3,z4⟩:=h.lts;have⟨hvz,hmz,hnz⟩:=HT.zo;have fN:=(Below.refl w.heap.size w).alloc (br _)<|Cv #[Iv x,Iv y,Nv t.aF,Nv t.to,Sv t.text,Lv va vs.length vc,Lv ma ms.length mc] 125;have D1:=ai<|h.af fN;have HB:=ai fN;have B1:=ai<|Bx.new w #[Iv x,Iv y,Nv t.aF,Nv t.to,Sv t.text,Lv va vs.length vc,Lv ma ms.length mc] 125;obtain⟨TY,hTY⟩:∃TY,Hid<|TY=yj ty t.text vs.length:=⟨_,ai rfl⟩;rw[<-uh hTY];have BU:∀b,b<B->¬(b=tb\/b=mb):=λb hb q=>ae;have⟨c1,f1,y1⟩:=uh B1;have⟨c2,f2,y2⟩:=D1.bx;clear h hmq fN;go_enter func85,ntmps85;go_wp2_with fail;go_cut[]from 9 (λwc=>CK wc cb tb mb lb TY mk lo/\Fr (λb=>b=tb\/b=mb) w wc/\Bx wc w.heap.size #[Iv x,Iv y,Nv t.aF,Nv t.to,Sv t.text,Lv va vs.length vc,Lv ma ms.length mc])
 case first=>
  go_region_with(go_at_call 110;refine(wO (D1.af (jm _ _).drew).t _ _ vs.length HT.tn).mono ?_;rintro e w3⟨rfl,k2,m2⟩;have D3:=ai<|(D1.af (jm _ _).drew).akI k2 m2;have F3:=ai<|(Fr.of HB.drew).trans' k2 (λb q=>jp (jp q):∀b,b=tb->(b=tb\/b=mb)\/_);have B3:=ai<|B1.oH.fr k2 ae;clear k2 m2)
  all_goals(
   go_wp2_with fail
   go_meet
   case rel=>exact⟨by rw[uh hTY];exact D3,F3,B3⟩)
 case rest=>
  obtain⟨D2,F2,B2⟩:=hcut;have hw2:=F2.size;clear D1 HB B1 c1 f1 y1 c2 f2 y2;have X3:Hid (CD cb tb mb lb wc.heap.size TY mk lo (λ_=>none) w w.heap.size #[Iv x,Iv y,Nv t.aF,Nv t.to,Sv t.text,Lv va vs.length vc,Lv ma ms.length mc]<|wc.alloc<|.map #[] 0):=ai ⟨D2.af<|bw _,F2.trans<|Fr.of<|bw _,⟨[],MS.new _ wc,λx=>rfl⟩,B2.alloc _⟩;have⟨zc1,zc2,zc3,zc4⟩:=D2.lts;have zB:=B2.z;have Xc:wc.heap.size≠cb/\wc.heap.size≠tb/\wc.heap.size≠mb/\wc.heap.size≠lb:=⟨ae,ae,ae,ae⟩;have hxo:w.heap.size≠wc.heap.size:=ae;have⟨c1,f1,y1⟩:=X3.b;clear D2 F2 B2;go_wp2_with fail;clear c1 f1 y1;go_loopg[24] vs.length (λgk c wr=>∃i:Nat,Hid (gk=vs.length-i)/\i<=vs.length/\c=Nv i/\CD cb tb mb lb wc.heap.size TY mk lo (Mx<|vs.take i) w w.heap.size #[Iv x,Iv y,Nv t.aF,Nv t.to,Sv t.text,Lv va vs.length vc,Lv ma ms.length mc] wr)
  case atStart=>exact⟨0,ai rfl,jh _,rfl,X3⟩
  case round=>
   clear X3;obtain⟨i,cV,hi,rfl,hX⟩:=hrel;have XR:=ai hX;have hsw:=hX.k.size;clear hX;have⟨c1,f1,y1⟩:=XR.b;by_cases bA:i<vs.length
   .have hd:(i:Int)<(vs.length:Int):=ae;obtain⟨g,rfl,hgB,hg,p9⟩:=HVR.resolve_left λe=>by subst e;simp at bA
    have my:∀o,wr.cell? ⟨g,o,none⟩=w.cell? ⟨g,o,none⟩:=λo=>qg (a:=⟨g,o,none⟩)<|XR.k.block g hg<|BU g hgB;have d0:=(my _).trans<|p9 i bA 0 ae;have d1:=(my _).trans<|p9 i bA 1 ae;have d2:=(my _).trans<|p9 i bA 2 ae;obtain⟨e0,e1,e2,-⟩:=HVQ i bA;rw[e0]at d0;rw[e1]at d1;rw[e2]at d2;simp only[jj]at d0;have fN:=(jm wr.heap.size wr).alloc (br _)<|Cv #[Nv<|vs[i].aF,Nv<|vs[i].to,Sv<|dX vs[i]] 121;have XA:=ai<|XR.af fN;have HC:=ai<|wO (cb:=cb) XA.o (vs[i].aF:Int) (vs[i].to:Int) 0<|HT.vo i bA;rw[<-aiw bA]at HC;have⟨c2,f2,y2⟩:=qf wr #[Nv<|vs[i].aF,Nv<|vs[i].to,Sv<|dX vs[i]] 121
    replace d2:wr.cell? ⟨g,i*3+2,none⟩=some (Sv<|dX vs[i]):=d2
    generalize vs[i]=v at d0 d1 d2 HC XA c2 f2 y2;clear fN e0 e1 e2 my p9;go_wp2_with fail;refine HC.mono ?_;rintro e w3⟨rfl,k2,m2⟩;have X5:=XA.amy k2 m2 Xc ae hxo;clear k2 m2 HC
    go_wp2
    go_roundg(vs.length-(i+1))
    case measure=>rw[uh cV];omega
    case rel=>exact⟨i+1,ai rfl,ae,i_,X5⟩
   .have hd:decide ((i:Int)<(vs.length:Int))=false:=bD;rw[ju ae]at XR;go_wp2_with fail;clear c1 f1 y1;go_loopg[36] ms.length (λgk c wr=>∃j:Nat,Hid (gk=ms.length-j)/\j<=ms.length/\c=Nv j/\CD cb tb mb lb wc.heap.size TY (mkF mk<|ms.take j) lo (Mx vs) w w.heap.size #[Iv x,Iv y,Nv t.aF,Nv t.to,Sv t.text,Lv va vs.length vc,Lv ma ms.length mc] wr)
    case atStart=>exact⟨0,ai rfl,jh _,rfl,XR⟩
    case round=>
     clear XR;obtain⟨j,hgj,hj,rfl,hX⟩:=hrel;have XJ:=ai hX;have hsj:=hX.k.size;clear hX;have⟨c1,f1,y1⟩:=XJ.b;by_cases hlj:j<ms.length
     .have Vz:(j:Int)<(ms.length:Int):=ae;obtain⟨g,rfl,hgB,hg,p9⟩:=HMR.resolve_left λe=>by subst e;simp at hlj
      have my:∀o,wr.cell? ⟨g,o,none⟩=w.cell? ⟨g,o,none⟩:=λo=>qg (a:=⟨g,o,none⟩)<|XJ.k.block g hg<|BU g hgB;have d0:=(my _).trans<|p9 j hlj 0 ae;have d1:=(my _).trans<|p9 j hlj 1 ae;have d2:=(my _).trans<|p9 j hlj 2 ae;have d3:=(my _).trans<|p9 j hlj 3 ae;have d4:=(my _).trans<|p9 j hlj 4 ae;have d5:=(my _).trans<|p9 j hlj 5 ae;obtain⟨ss,nn',L,mf,mt,aa,yy,vt,e0,q0,q1,q2,q3,q4,q5,hu,hyy,ta,tc,ct,rfl,htr,HTQ⟩:=uh HMQ j hlj;rw[q0]at d0;rw[q1]at d1;rw[q2]at d2;rw[q3]at d3;rw[q4]at d4;rw[q5]at d5;simp only[jj]at d0;have HS:=akT (mk:=mk) hlj;have⟨Cg,IC⟩:=HT.mo j hlj;have hLn:=sY<|jy hlj;rw[e0]at HS Cg IC hLn;rw[<-uh hTY]at IC;simp only[j5,Um,nn]at HS Cg IC hLn;have hn3:=ai IC;have hn4:=ai Cg;have QL:=ai HS;clear HS Cg IC;have HTR:=ai htr;have fN:=(jm wr.heap.size wr).alloc (br _)<|Cv #[Nv mf,Nv mt,Nv aa,Nv yy,Sv ss,Lv ta L.length tc] 247;have XA:=ai<|XJ.af fN;have BA:=ai<|qf wr #[Nv mf,Nv mt,Nv aa,Nv yy,Sv ss,Lv ta L.length tc] 247;have⟨zr1,zr2,zr3,zr4⟩:=XJ.d.lts;have zro:=XJ.o.lt;have zrx:=XJ.b.z;have⟨c2,f2,y2⟩:=uh BA;have⟨c3,f3,y3⟩:=XA.d.bx;clear fN q0 q1 q2 q3 q4 q5 my p9 hyy htr e0 XJ c1 f1 y1;go_wp2_with fail
      go_cut[]from 37 to 56 (λwd=>CD cb tb mb lb wc.heap.size TY (yj (mkF mk<|ms.take j) ss L.length) lo (Mx vs) w w.heap.size #[Iv x,Iv y,Nv t.aF,Nv t.to,Sv t.text,Lv va vs.length vc,Lv (some ⟨g,0,none⟩) ms.length mc] wd/\Bx wd wr.heap.size #[Nv mf,Nv mt,Nv aa,Nv yy,Sv ss,Lv ta L.length tc])
      case first=>
       go_region_with(go_at_call 110;refine(wO (XA.af (jm _ _).drew).d.m _ _ L.length hn4).mono ?_;rintro e w3⟨rfl,k2,m2⟩;have X3:=ai<|(XA.af (jm _ _).drew).amz k2 m2 Xc.2.2.1 ae;have B3:=ai<|BA.oH.fr k2 ae;clear k2 m2)
       all_goals(
        go_wp2_with fail
        go_meet
        case rel=>exact⟨X3,B3⟩)
      case rest=>
       obtain⟨X4,B4⟩:=hcut;clear XA BA c2 f2 y2 c3 f3 y3;obtain⟨c2,f2,y2⟩:=B4
       have HC:=ai (Dj (sa:=ta) (sc:=tc) (vs:=λi=>ct i 0) (P:=(·<B)) (λx _=>IU x) X4.d (by
        obtain q|⟨g',e,q1,q2,q3⟩:=uh HTR
        .exact jp q
        .refine jq ⟨g',e,q1,ji q2 X4.k.size,λi hi=>?_⟩;have:=q3 i hi 0 ae;rw[jl,jj]at this
         exact(qg (a:=⟨g',i,none⟩)<|X4.k.block g' q2<|BU g' q1).trans this) (λi hi=>(HTQ i hi:PT w (·<B) L[i] (ct i 0)).move X4.k.size (λb p z=>X4.k.block b z<|BU b p) λ_ p _=>p) (jq ⟨_,rfl,X4.o⟩) hn3 ae)
       go_wp2_with fail;refine HC.mono ?_;rintro e w5⟨rfl,k5⟩;have X5:=X4.af k5;clear k5 HC
       go_wp2
       go_roundg(ms.length-(j+1))
       case measure=>rw[uh hgj];omega
       case rel=>exact⟨j+1,ai rfl,ae,i_,by rw[uh QL];exact X5⟩
     .have Vz:decide ((j:Int)<(ms.length:Int))=false:=bD;rw[ju ae]at XJ
      go_wp2
      go_end0;exact⟨rfl,XJ.k,XJ.d⟩
end
def Fr.wide{S T}{a b}(h:Fr S a b)(hS:∀x,S x->T x):Fr T a b:=⟨h.os,h.tape,h.output,h.size,λk hk hn=>h.block k hk<|λq=>hn<|hS k q⟩
theorem aix:yj (yj (yj (λ_=>none) lh 0) gS 0) jC 0=Xb:=by grind[yj,Xb]
def Ir:Cq 70 #[] w λe w'=>∃cb tb mb lb,e=.returned (cp cb)/\Bq w w'/\(w.heap.size<=cb/\w.heap.size<=tb/\w.heap.size<=mb/\w.heap.size<=lb)/\CK w' cb tb mb lb Xb (λ_=>none) (λ_=>0):=by
 have iZ:= @run_makeMap Tryz.prog;have H:=MS.new Sv w;have HF:∀x,a_ x ([]:List (BA×Value))=((λ_=>none:BA->Option Nat) x).map λ(n:Nat)=>Nv n:=(λx=>rfl);have HB:=(Below.refl w.heap.size w).alloc (br _)<|.map #[] 0;have HZ:(w.alloc<|.map #[] 0).heap.size=w.heap.size+1:=ag;go_enter func70,ntmps70
 go_wp2_with(first
  |(refine aZ _ rfl _ _ _ _ (jp rfl) (KL.str qe) Tryz.underlying183 _ _ rfl H lh (.int .i64 ((0:Nat):Int)) rfl rfl trivial (λ_ _=>trivial) ?_;intro w1 H' O';have H1:=ai H';have Ce:=ai<|FM.put HF lh 0;have dA:=ai<|One.below HB O'<|br _;have HZ1:=ai<|O'.size.trans HZ;clear H' O' H HF HB HZ)|(refine aZ _ rfl _ _ _ _ (jp rfl) (KL.str qe) Tryz.underlying183 _ _ rfl H1 gS (.int .i64 ((0:Nat):Int)) rfl rfl trivial (λ_ _=>trivial) ?_;intro w2 H' O';have H2:=ai H';have yE:=ai<|FM.put Ce gS 0;have du:=ai<|One.below dA O'<|br _;have HZ2:=ai<|O'.size.trans HZ1;clear H' O' H1 Ce dA HZ1)|(refine aZ _ rfl _ _ _ _ (jp rfl) (KL.str qe) Tryz.underlying183 _ _ rfl H2 jC (.int .i64 ((0:Nat):Int)) rfl rfl trivial (λ_ _=>trivial) ?_;intro w3 H' O';have H3:=ai H';have HF3:=ai<|FM.put yE jC 0;have oP:=ai<|One.below du O'<|br _;have HZ3:=ai<|O'.size.trans HZ2;clear H' O' H2 yE du HZ2))
 go_ret;have z3:=uh HZ3;have b4:Bq w3 (((w3.alloc<|.map #[] 0).alloc<|.map #[] 0).alloc<|Cv #[Mv w.heap.size,Mv w3.heap.size,Mv<|w3.heap.size+1,Iv 0,Iv 0,Iv 0] 185):=((bw _).alloc ag _).alloc bD _;have m1:MS Sv (((w3.alloc<|.map #[] 0).alloc<|.map #[] 0).alloc<|Cv #[Mv w.heap.size,Mv w3.heap.size,Mv<|w3.heap.size+1,Iv 0,Iv 0,Iv 0] 185) w3.heap.size []:=((MS.new Sv w3).below<|bw _).below<|bw _;have m2:MS Sv (((w3.alloc<|.map #[] 0).alloc<|.map #[] 0).alloc<|Cv #[Mv w.heap.size,Mv w3.heap.size,Mv<|w3.heap.size+1,Iv 0,Iv 0,Iv 0] 185) (w3.heap.size+1) []:=by
  have:=(MS.new Sv<|w3.alloc<|.map #[] 0).below<|bw<|Cv #[Mv w.heap.size,Mv w3.heap.size,Mv<|w3.heap.size+1,Iv 0,Iv 0,Iv 0] 185;simpa using this
 have bx:Bx (((w3.alloc<|.map #[] 0).alloc<|.map #[] 0).alloc<|Cv #[Mv w.heap.size,Mv w3.heap.size,Mv<|w3.heap.size+1,Iv 0,Iv 0,Iv 0] 185) (w3.heap.size+1+1) #[Mv w.heap.size,Mv w3.heap.size,Mv<|w3.heap.size+1,Iv 0,Iv 0,Iv 0]:=by
  have:=qf ((w3.alloc<|.map #[] 0).alloc<|.map #[] 0) #[Mv w.heap.size,Mv w3.heap.size,Mv<|w3.heap.size+1,Iv 0,Iv 0,Iv 0] 185;simpa using this
 have ft:=uh HF3;rw[aix]at ft;refine⟨w3.heap.size+1+1,w.heap.size,w3.heap.size,w3.heap.size+1,rfl,oP.trans<|b4.mono ae,⟨ae,ae,ae,ae⟩,bx,⟨_,H3.below b4,ft⟩,⟨_,m1,λx=>rfl⟩,⟨_,m2,λx=>jq ⟨rfl,rfl⟩⟩,ae⟩
def aeY{t:jc}(h:CK w cb tb mb lb ty mk lo)(hBt:B<=tb)(hBm:B<=mb)(hx:PD w (·<B) (.ty t vs ms) v)(HT:aiv ty mk t vs ms):
 Cq 71 #[cp cb,v] w λe w'=>e=.returned (.tuple #[])/\Fr (λb=>b=tb\/b=mb\/b=lb) w w'/\CK w' cb tb mb lb (yj ty t.text vs.length) (mkF mk ms) lo:=by
 obtain⟨x,u,vv,vm,rfl,hu,ht,hv,hm0,hm⟩:=hx;have HV:=hv.move dF (br _) (λ_ _ _=>rfl)<|λ_ p _=>p;have HM:=hm.move cu (br _) (λ_ _ _=>rfl)<|λ_ p _=>p;obtain⟨va,vc,cv,rfl,-⟩:=hv;obtain⟨ma,mc,cm,rfl,-⟩:=hm;have fN:=(Below.refl w.heap.size w).alloc (br _)<|Cv #[Iv x,Iv u,Nv t.aF,Nv t.to,Sv t.text,Lv va vs.length vc,Lv ma ms.length mc] 125;have HC:=ai<|P_ (t:=t) (x:=x) (y:=u) (h.af fN) hBt hBm (HV.move dF fN.size (λb _ z=>fN.block b z)<|λ_ p _=>p) (HM.move cu fN.size (λb _ z=>fN.block b z)<|λ_ p _=>p) HT;have HB:=ai fN;have⟨c1,f1,y1⟩:=Bx.new w #[Iv x,Iv u,Nv t.aF,Nv t.to,Sv t.text,Lv va vs.length vc,Lv ma ms.length mc] 125;clear h fN HV HM HT ht hu;go_enter func71,ntmps71;go_wp2_with fail;refine HC.mono ?_;rintro e w2⟨rfl,K2,D2⟩;clear HC
 go_wp2
 go_end0;exact⟨rfl,(Fr.of HB).trans' K2<|λb q=>jp<|q.imp id jp,D2⟩
def aeZ{t:jc}{b:Nd}{mks:j3}{dom:BA->Prop}(h:CK w cb tb mb lb ty mk lo)(Dl:B<=lb)(hx:PD w (·<B) (.lt false t b) v)(hs:ScE mks nl dom b)(hl:∀x,dom x->lo x≠0)(hM:MkT mks mk ty)(hn:nn b<=1000)(sH:∀x,lo x<=2000):
 Cq 71 #[cp cb,v] w λe w'=>e=.returned (.tuple #[])/\Fr (λb=>b=tb\/b=mb\/b=lb) w w'/\CK w' cb tb mb lb ty mk (λx=>if x=t.text then lo t.text+1 else lo x):=by
 obtain⟨x,u,vb,rfl,hu,ht,hb⟩:=hx;have z:=h.lts;obtain⟨u1,x1,rfl⟩:=hb.iface;have fN:=(Below.refl w.heap.size w).alloc (br _)<|Cv #[Iv x,Iv u,.bool false,Nv t.aF,Nv t.to,Sv t.text,Fv u1<|Av x1] 132;have X1:CE cb tb mb lb ty mk lo w _:=⟨h.af fN,Fr.of fN⟩;have B1:=ai<|Bx.new w #[Iv x,Iv u,.bool false,Nv t.aF,Nv t.to,Sv t.text,Fv u1<|Av x1] 132;have HC:=ai (Ub (aim b) X1.d Dl (hb.af fN) hs hl hM (λx=>by have:=sH x;omega) (t.aF:Int) (t.to:Int) t.text);have⟨c1,f1,y1⟩:=uh B1;clear h fN hb hs ht hu;go_enter func71,ntmps71;go_wp2_with fail;refine HC.mono ?_;rintro e w2⟨rfl,k2,d2⟩;have X2:=X1.fr k2 d2;have B2:=B1.fr k2<|λq=>ae;clear k2 d2 HC c1 f1 y1;obtain⟨N,hN⟩:∃N,Hid<|N=lo t.text:=⟨_,ai rfl⟩;have X3:=X2.af (Below.refl _ _).drew;have Ds:=X3.d.l.look t.text;rw[<-uh hN]at Ds;have⟨L,hM,HLL⟩:=X3.d.l;have⟨o,anc,yk⟩:=hM.put (KL.str Tryz.underlying9) Tryz.underlying183 t.text (Iv<|(N:Int)+1) trivial<|λ_ _=>trivial;have hN7:(N:Int)<=3000:=by have:=sH t.text;have:=uh hN;omega
 obtain⟨c1,f1,y1⟩:=B2;have⟨c2,f2,y2⟩:=X2.d.bx;clear hM
 go_wp2
 go_region
 all_goals(
  go_wp2
  go_end0;have M3:=yk;rw[show(Iv<|(N:Int)+1)=.int .i64 ((N+1:Nat):Int)from rfl]at M3;have X5:=X3.put (One.set w2.drew lb o) M3<|LM.put HLL t.text<|N+1;rw[uh hN]at X5
  exact⟨rfl,X5.k.wide<|λb q=>jq<|jq q,X5.d⟩)
def rU(nl:List BA):List Dc->(BA->Option Nat)->(BA->Option Nat)->j3->List BA->Prop
 |[],_,_,_,_=>True|.ty t vs ms::r,ty,mk,mks,nm=>(aiv ty mk t vs ms/\TdF t vs ms/\MkFine (j6 t vs ms mks)/\In.MF (j6 t vs ms mks))/\rU nl r (yj ty t.text vs.length) (mkF mk ms) (j6 t vs ms mks) nm|.lt rc t b::r,ty,mk,mks,nm=>(rc=false/\ScE mks nl (λv=>v∈nm\/(rc=true/\v=t.text)) b/\MkT mks mk ty/\t.text∈nl)/\rU nl r ty mk mks (nm++[t.text])
structure pq(nl:List BA)(s:BA)(l:List Dc):Prop where
 r:lF s=.ok l
 o:rU nl l Xb (λ_=>none) (λ_=>none) []
 z:Iz l<=802
 n:nl.length<=802
end
section
open Un
def aiy:DZ m9 2:=⟨aw,λ_=>rfl,.inl rfl⟩
def aiz:DZ lq 2:=⟨aw,λ_=>rfl,.inr<|.inl rfl⟩
def My:∀{L:List Nd},(∀x∈L,∀ns,Wf (aI ns<|es x).1)->∀ns,xJ (aG ns<|dz L).1/\(aG ns<|dz L).1.length=L.length
 |[],_,ns=>⟨trivial,rfl⟩|x::L,h,ns=>by
  have⟨h1,h2⟩:=My (L:=L) (λy hy=>h y<|by simp[hy]) (aI ns<|es x).2;simp only[dz,aG];exact⟨⟨h x ag ns,h1⟩,by simp[h2]⟩
def Qa:∀{L:List Nd},(∀x∈L,jz x)->In.NWL L
 |[],_=>trivial|x::L,h=>⟨h x ag,Qa λy hy=>h y<|by simp[hy]⟩
def akU(hk:k≠14)(h:∀x∈L,jz x):jz (.mk k s n L f t a):=⟨λe=>absurd e hk,Qa h⟩
def Qb{y}(hk:k≠14)(hx:jz x)(hy:jz y):jz (.mk k s n [x,y] f t a):=⟨λe=>absurd e hk,hx,hy,trivial⟩
def aiA(hk:k≠14)(hx:jz x):jz (.mk k s n [x] f t a):=⟨λe=>absurd e hk,hx,trivial⟩
def uT(hk:k≠14):jz (.mk k s n [] f t a):=⟨λe=>absurd e hk,trivial⟩
mutual
def qH:∀(nd:Nd)(ns:List BA),size (aI ns nd).1<=nn nd/\(aI ns nd).2.length<=ns.length+nn nd
 |.mk k s n L f t a,ns=>by
  have h:=Mz L ns;rw[aI];split
  .simp only[size,nn,oV];split<;>simp<;>omega
  .simp only[size,nn];omega
def Mz:∀(L:List Nd)(ns:List BA),ah (aG ns L).1<=bV L/\(aG ns L).2.length<=ns.length+bV L
 |[],ns=>by simp[aG,ah,bV]|x::l,ns=>by
  have h1:=qH x ns;have h2:=Mz l (aI ns x).2;simp only[aG,ah,bV];omega
end
def ae0(h:∀x∈L,uV ty F x=true->jz x)(k:lP ty F L=true):In.NWL L:=Qa λx hx=>h x hx<|sX k x hx
def aiB:∀nd,uV ty F nd=true->jz nd:=by
 refine Nd.ind λk s n L f t a ih h=>?_;simp only[uV,qh]at h;exact⟨λe=>by subst e;simp at h,ae0 ih h.2⟩
def CQ.head{s:BA}(h:CQ s):∃x r,s.toList=x::r/\65<=x.toNat/\x.toNat<=90:=by
 obtain⟨x,r,h1,h2,_⟩:=h;exact⟨x,r,h1,by simp[jd]at h2;omega,by simp[jd]at h2;omega⟩
def CQ.ne(h:CQ s)y q(hy:y.toNat<65\/90<y.toNat):s≠⟨(y::q).toArray⟩:=by
 rintro rfl;have⟨x,r,h1,h2,h3⟩:=h.head;rw[toList_mk]at h1;injection h1 with e1 _;subst e1;omega
def CQ.DZ(h:CQ s)(hz:s.size<=4)n:DZ s n:=
 ⟨hz,λe=>(by
  obtain e|e:=e
  .exact absurd e (h.ne 62 [] aw)
  .exact absurd e (h.ne 44 [] aw)),.inr<|.inr h⟩
def t_(h:rN s=some n):DZ s n:=by
 have key:∀x r,s=⟨(x::r).toArray⟩->(x::r).length<=4->jd x.toNat=true->r.all (λy=>Pu.aY y.toNat)=true->DZ s n:=λx r e h1 h2 h3=>by
  refine CQ.DZ ⟨x,r,by rw[e];exact toList_mk _,h2,λy hy=>List.all_eq_true.1 h3 y hy⟩ ?_ n;rw[e];exact h1
 simp only[rN,yj,Xb]at h;split at h
 .rename_i e;exact key 83 [] e aw aw aw
 split at h
 .rename_i e;exact key 76 [] e aw aw aw
 split at h
 .rename_i e;obtain e|e|e:=e
  .exact key 73 [110,116] e aw aw aw
  .exact key 66 [111,111,108] e aw aw aw
  .exact key 85 [110,105,116] e aw aw aw
 .cases h
def ZG:∀nd,uV rN F nd=true->∀ns,Wf (aI ns<|es nd).1:=by
 refine Nd.ind λk s n L f t a ih h ns=>?_;simp only[uV,qh]at h;have⟨g1,g2⟩:=My (L:=L) (λx hx=>ih x hx<|sX h.2 x hx) ns;obtain⟨h,_⟩:=h;by_cases e:k=16
 .subst e;simp[es,aI,Wf]
 rw[if_neg e]at h;by_cases e2:k=2
 .subst e2;simp[es,aI,g_,Wf];exact⟨by rw[g2];exact t_ Fe,g1⟩
 rw[if_neg e2]at h;simp only[qh,Bool.or_eq_true,beq_iff_eq]at h;obtain⟨rfl|rfl,h⟩:=h<;>simp only[es,aI,g_]
 .exact⟨by rw[g2,h];exact aiz,g1⟩
 .exact⟨by rw[g2,h];exact aiy,g1⟩
def rf.nw{mk:j3}{nd:Nd}(h:rf mk nl nd):jz nd:=by
 induction h with
 |leaf k _ _ _ _ _ h=>exact uT ae|low=>exact uT aw|pr _ _ _ _ _ _ _ _ _ lD rq=>exact Qb aw lD rq|up _ _ L _ _ _ _ _ _ _ _ ih=>exact akU aw λx hx=>by obtain⟨i,hi,rfl⟩:=jv hx;exact ih i hi
def ME:∀{A:List (Nd×Nd)},(∀p∈A,jz p.1)->(∀p∈A,jz p.2)->In.NWL (bq A)
 |[],_,_=>trivial|(p,e)::A,h,k=>⟨h (p,e) ag,k (p,e) ag,ME (λq hq=>h q<|by simp[hq]) λq hq=>k q<|by simp[hq]⟩
def ScE.nw{mk:j3}{nl:List BA}{dom:BA->Prop}{nd:Nd}(h:ScE mk nl dom nd):jz nd:=by
 induction h with
 |low=>exact uT aw|up=>exact uT aw|leaf _ _ _ _ _ _ _ h=>exact uT ae|two _ _ _ _ _ _ _ _ _ h _ _ lD rq=>exact Qb ae lD rq|of _ _ _ _ _ _ _ _ _ _ _ _ hk _ lD=>exact⟨λ_=>ZG _ hk [],lD,aiB _ hk,trivial⟩|fn _ _ _ _ _ _ _ _ _ ih=>exact aiA aw ih|lt _ _ _ _ _ _ _ _ _ _ h _ _ lD ihz=>exact Qb ae lD ihz|ite _ _ _ _ _ _ _ _ _ _ _ _ lD rq ihw=>exact⟨λe=>absurd e aw,lD,rq,ihw,trivial⟩|mt _ _ _ _ A _ _ _ _ hp _ lD ihA=>
  refine⟨λe=>absurd e aw,lD,ME (λp hq=>?_) λp hq=>?_⟩<;>obtain⟨i,hi,rfl⟩:=jv hq
  .exact(hp i hi).1.nw
  .exact ihA i hi
def Jx{t}(h:Wf t):Wf (In.eu t):=In.nu h λ_=>In.H_
def Qc{rs:Bool}{nl:List BA}:∀{l:List Dc}{ty km:BA->Option Nat}{nm:List BA}{mk:j3}{Γ:In.Env}{s:In.St}{B:List (BA×Ty)}{F:Option j7},rU nl l ty km mk nm->In.MF mk->In.EF Γ->In.KF s->In.qV rs l mk Γ s B F->(∀p∈B,Wf p.2/\size p.2<=48)/\∀z,F=some z->j8 z
 |[],_,_,_,mk,Γ,s,B,F,_,_,_,_,h=>by
  obtain⟨rfl,rfl⟩:=h;exact⟨ag,λz q=> mE⟩
 |.ty t vs ms::r,_,_,_,mk,Γ,s,B,F,hd,hm,ck,hk,h=>Qc (l:=r) hd.2 hd.1.2.2.2 ck hk h|.lt rc t b::r,_,_,_,mk,Γ,s,B,F,hd,hm,ck,hk,h=>by
  obtain⟨o,ho,hq⟩:=h;have g:=In.Aj rc t.text b (In.YZ hm b hd.1.2.1.nw) Γ s hk ck o ho
  cases o with
  |error x=>
   obtain⟨rfl,rfl⟩:=hq;exact⟨ag,λz q=>by injection q with q;subst q;exact g⟩
  |ok p=>
   obtain⟨a,s1⟩:=p;obtain⟨g1,g2⟩:=g;obtain⟨_,rfl,rfl⟩|⟨z,T,B',hT,rfl,hr⟩:=hq
   .exact⟨ag,λz q=>by injection q with q;subst q;exact In.yJ _ _⟩
   .have hw:=In.nu g1 g2;have hTw:Wf T/\size T<=48:=by
     rw[hT];split
     .exact⟨hw,z⟩
     .exact⟨Jx hw,by rw[lE];exact z⟩
    have⟨i1,i2⟩:=Qc (l:=r) hd.2 hm (ck.set _ hTw.1) (by
     intro n;show Wf<|(if rs then Ty.var else s1.k) n
     cases rs
     .exact g2 n
     .exact In.kG n) hr
    refine⟨λp hp=>?_,i2⟩;obtain e|e:=List.mem_cons.1 hp
    .subst e;exact hTw
    .exact i1 p e
end
section
open Go.ChangeMaps Go.MapKept
def FAR w0 cb tb mb lb(nl:List BA)(l:List Dc)gk c wr:=∃(j:Nat)(ty mk:BA->Option Nat)(mks:j3)(nm:List BA)(lo:BA->Nat),Hid (gk=l.length-j)/\j<=l.length/\c=Nv j/\CK wr cb tb mb lb ty mk lo/\rU nl (l.drop j) ty mk mks nm/\(∀x∈nm,lo x≠0)/\(∀x,lo x<=j)/\Fr (λb=>b=tb\/b=mb\/b=lb) w0 wr
def ae1{u}(hr:RowV QD 1 w (·<w.heap.size) l u)(hS:rU nl l Xb (λ_=>none) (λ_=>none) [])(hl:Iz l<=802):
 Cq 45 #[.agg #[u]] w λe w'=>e=.returned (.agg #[Iv 0,Iv 0,Iv 0])/\Bq w w':=by
 obtain⟨va,vc,cs,rfl,HW,HQ⟩:=hr;have JT:=GY l;have bZ:Bq w ((w.alloc<|Cv #[Lv va l.length vc] 51).alloc<|Cv #[Iv 0,Iv 0,Iv 0] 31):=(bw _).alloc ag _;have B1:=ai<|(Bx.new w #[Lv va l.length vc] 51).alloc<|Cv #[Iv 0,Iv 0,Iv 0] 31;have F1:Bx ((w.alloc<|Cv #[Lv va l.length vc] 51).alloc<|Cv #[Iv 0,Iv 0,Iv 0] 31) (w.heap.size+1) #[Iv 0,Iv 0,Iv 0]:=(by have:=Bx.new (w.alloc<|Cv #[Lv va l.length vc] 51) #[Iv 0,Iv 0,Iv 0] 31;simpa using this);have dA:=ai bZ;have HC:=Ir (w:=(w.alloc<|Cv #[Lv va l.length vc] 51).alloc<|Cv #[Iv 0,Iv 0,Iv 0] 31);have⟨c1,f1,y1⟩:=uh B1;go_enter func45,ntmps45;go_wp2_with fail;refine HC.mono ?_;rintro e w2⟨cb,tb,mb,lb,rfl,b2,hz,D2⟩;have hz':w.heap.size+2<=cb/\w.heap.size+2<=tb/\w.heap.size+2<=mb/\w.heap.size+2<=lb:=by simpa using hz
 have du:=dA.trans<|b2.mono dA.size;have B2:=ai<|B1.below b2;have F2:=F1.below b2;have hw2:=du.size;have⟨c1,f1,y1⟩:=uh B2
 go_wp2
 go_loopg[10] l.length (λgk c wr=>FAR w2 cb tb mb lb nl l gk c wr)
 case atStart=>exact⟨0,_,_,_,_,_,ai rfl,jh _,rfl,D2,hS,ag,λx=>br _,Fr.refl _ _⟩
 case round=>
  obtain⟨j,ty,mk,mks,nm,lo,cV,hj,rfl,hD,HO,LR,Eb,FR⟩:=hrel;have DR':=ai hD;have hBW:Bq w wr:=⟨FR.os.trans du.os,FR.tape.trans du.tape,FR.output.trans du.output,Nat.le_trans du.size FR.size,λb hb=>(FR.block b (ji hb du.size)<|λq=>ae).trans<|du.block b hb⟩;have F3:=ai<|F2.fr FR<|λq=>ae;by_cases bA:j<l.length
  .have hd:(j:Int)<(l.length:Int):=ae;obtain⟨g,rfl,-,hg,p9⟩:∃g,va=some ⟨g,0,none⟩/\g<w.heap.size/\g<w.heap.size/\∀i,i<l.length->∀j,j<1->w.cell? ⟨g,i*1+j,none⟩=some (cs i j):=by
    obtain e|e:=HW
    .exact absurd bA qBq
    .exact e
   have d0:=(qg (a:=⟨g,j*1+0,none⟩)<|hBW.block g hg).trans<|p9 j bA 0 ae;simp only[jl,jj]at d0;have Nm:=HQ j bA;have HPD:=Nm.move hBW.size (λb _ z=>hBW.block b z) (Q:=(·<w.heap.size))<|λ_ p _=>p;have⟨t1,x1,e1⟩:=Nm.iface;rw[e1]at d0 HPD;rw[List.drop_eq_getElem_cons bA]at HO;have hS2:=HO;have HC:Cq 71 #[cp cb,Fv t1<|Av x1] wr λe w'=>e=Rv (.tuple #[])/\Fr (λb=>b=tb\/b=mb\/b=lb) wr w'/\∃ty' mk' ae2 nm' XI,CK w' cb tb mb lb ty' mk' XI/\rU nl (l.drop<|j+1) ty' mk' ae2 nm'/\(∀x∈nm',XI x≠0)/\∀x,XI x<=j+1:=by
    have hz:=Sl<|jy bA;generalize l[j]=d at HPD hS2 hz
    cases d with
    |ty t vs ms=>exact(aeY DR' ae ae HPD hS2.1.1).mono λe w' q=>⟨q.1,q.2.1,_,_,_,_,_,q.2.2,hS2.2,LR,λx=>Nat.le_succ_of_le<|Eb x⟩|lt r t b=>
     obtain⟨⟨rfl,h1,h2,h3⟩,h4⟩:=hS2;refine(aeZ DR' ae HPD h1 (λx q=>q.elim (LR x) λq=>absurd q.1 ag) h2 (by simp only[Nc]at hz;omega) (λx=>qAv)).mono λe w' q=>⟨q.1,q.2.1,_,_,_,_,_,q.2.2,h4,λx hx=>?_,λx=>?_⟩
     .obtain z|z:=List.mem_append.1 hx
      .have:=LR x z;show(if x=t.text then lo t.text+1 else lo x)≠0;split<;>omega
      .rw[List.mem_singleton.1 z];simp
     .show(if x=t.text then lo t.text+1 else lo x)<=j+1;have:=Eb x;have:=Eb t.text;split<;>omega
   go_wp2_with fail;refine HC.mono ?_;rintro e w3⟨rfl,k3,ty',mk',ae2,nm',XI,D3,O3,L3,H3⟩;have K3:=FR.trans k3
   go_wp2
   go_roundg(l.length-(j+1))
   case measure=>rw[uh cV];omega
   case rel=>exact⟨j+1,ty',mk',ae2,nm',XI,ai rfl,ae,i_,D3,O3,L3,H3,K3⟩
  .have hd:decide ((j:Int)<(l.length:Int))=false:=bD;have⟨c4,f4,y4⟩:=DR'.bx;have⟨c3,f3,y3⟩:=uh F3;have B5:=ai<|F3.fW rfl (Iv 0) (Iv 0) (Iv 0);go_wp2_with fail;have⟨c5,f5,z5⟩:=uh B5;refine bodyPost_ret (v:=Av #[Iv 0,Iv 0,Iv 0]) (by simp[results,Tryz.results45,go_sem,c5]) rfl ?_;exact⟨rfl,((hBW.setCell (jf _) _).setCell (jf _) _).setCell (jf _) _⟩
end
section
open Un
def MH(h:Laid w)(hr:lF s=.ok l)(hO:rU nl l Xb (λ_=>none) (λ_=>none) [])(hl:Iz l<=802):Calls j9 25 #[.string s] w λe w'=>∃u,e=.returned (.tuple #[.agg #[u],.agg #[.int .i64 0,.int .i64 0,.int .i64 0]])/\Below w.heap.size w w'/\RowV QD 1 w' (λb=>w.heap.size<=b) l u:=by
 obtain⟨W0,hW0⟩:∃W0,W0=(w.alloc<|.cells #[.slice none 0 0] 51).alloc (.cells #[.int .i64 0,.int .i64 0,.int .i64 0] 31):=⟨_,rfl⟩;have bP:Below w.heap.size w W0:=by rw[hW0];exact(bw _).alloc ag _
 have A0:Bx W0 w.heap.size #[.slice none 0 0]:=by rw[hW0];exact(qf w _ _).alloc _
 have B0:Bx W0 (w.heap.size+1) #[.int .i64 0,.int .i64 0,.int .i64 0]:=by rw[hW0];have:=qf (w.alloc<|.cells #[.slice none 0 0] 51) #[.int .i64 0,.int .i64 0,.int .i64 0] 31;simpa using this
 have HC:=WQ (h.af bP) s;have HW:=ai hW0;clear h hW0;go_enter func25,ntmps25;go_wp2_with fail;rw[<-uh HW];refine HC.mono ?_;rintro e w1⟨u,f,rfl,bZ,hp⟩;rw[hr]at hp;obtain⟨rfl,aN⟩:=hp;obtain⟨va,vc,cs,rfl,-⟩:=id aN;have dA:=bP.trans<|bZ.mono bP.size;obtain⟨W1,EL⟩:∃W1,W1=(w1.alloc<|.cells #[.slice va l.length vc] 51).alloc (.cells #[.int .i64 0,.int .i64 0,.int .i64 0] 31):=⟨_,rfl⟩;have gd:Below w1.heap.size w1 W1:=by rw[EL];exact(bw _).alloc ag _
 have du:=dA.trans<|gd.mono dA.size;have A2:=ai<|(A0.below bZ).below gd;have B2:=ai<|(B0.below bZ).below gd;have P2:Hid (Bx W1 w1.heap.size #[.slice va l.length vc]):=ai (by rw[EL];exact(qf w1 _ _).alloc _);obtain⟨c4,f4,z4⟩:Bx W1 (w1.heap.size+1) #[.int .i64 0,.int .i64 0,.int .i64 0]:=by rw[EL];have:=qf (w1.alloc<|.cells #[.slice va l.length vc] 51) #[.int .i64 0,.int .i64 0,.int .i64 0] 31;simpa using this
 have MI:=ai EL;have l8:=dA.size;have og:=B0.z;have gR:=bZ.size;unfold oC;have AX:RowV QD 1 W1 (λb=>W0.heap.size<=b/\b<w1.heap.size) l (.slice va l.length vc):=aN.move bT gd.size (λb _ z=>gd.block b z)<|λb p z=>⟨p,z⟩;have HR2:=ai AX;have MW:∀W,Below W1.heap.size W1 W->Calls j9 45 #[.agg #[.slice va l.length vc]] W λe w'=>e=.returned (.agg #[.int .i64 0,.int .i64 0,.int .i64 0])/\Below W.heap.size W w':=λW k=>ae1 (AX.move bT k.size (λb _ z=>k.block b z)<|λb p z=>ji z k.size) hO hl;have hzw:=gd.size;rw[show Nv dw.kind=Value.int .i64 0 from rfl,show Nv dw.aF=Value.int .i64 0 from rfl,show Nv dw.to=Value.int .i64 0 from rfl];clear HC bP bZ dA A0 B0 aN AX gd EL HW hO;go_wp2_with fail;rw[<-uh MI];obtain⟨c3,f3,z3⟩:=uh P2;go_region_with(go_at_call 45;refine(MW _ (jm _ _).drew).mono ?_;rintro e w3⟨rfl,ox⟩;have K3:=(jm W1.heap.size W1).drew.trans ox;have A3:=A2.below K3;have B3:=B2.below K3;have P3:=P2.below K3;have HK3:=ai K3;have HA3:=ai A3;have oP:=ai B3;obtain⟨a1,a2,a3⟩:=A3;obtain⟨b1,b2,b3⟩:=B3;obtain⟨p1,p2,p3⟩:=P3;clear ox K3)
 all_goals(
  go_wp2_with fail;have ox:=uh HK3;obtain⟨c5,f5,z5⟩:=(oP.qX (b2:=w.heap.size) ae 0<|.slice va l.length vc).fW rfl (.int .i64 0) (.int .i64 0) (.int .i64 0);obtain⟨c6,f6,z6⟩:=(HA3.vF 0 (.slice va l.length vc) #[.slice va l.length vc] ag ag).afH (b2:=w.heap.size+1) ae (.int .i64 0) (.int .i64 0)<|.int .i64 0;refine bodyPost_ret (v:=.tuple #[.agg #[.slice va l.length vc],.agg #[.int .i64 0,.int .i64 0,.int .i64 0]]) (by simp[results,Tryz.results25,go_sem,c5,c6]) rfl ?_;have kk:Fr (λb=>b=w.heap.size\/b=w.heap.size+1) w3 ((((w3.setCell ⟨w.heap.size,0,none⟩<|.slice va l.length vc).setCell ⟨w.heap.size+1,0,none⟩<|.int .i64 0).setCell ⟨w.heap.size+1,1,none⟩<|.int .i64 0).setCell ⟨w.heap.size+1,2,none⟩<|.int .i64 0):=((((Fr.refl _ _).set (jp<|jp rfl) 0 _).set (jp<|jq rfl) 0 _).set (jp<|jq rfl) 1 _).set (jp<|jq rfl) 2 _;have k3:=du.trans<|ox.mono du.size;have z3':=ox.size
  exact⟨.slice va l.length vc,rfl,Fr.ph k3 k3.size kk (λx q=>by obtain rfl|rfl:=q<;>omega),HR2.move bT (by have:=kk.size;omega) (λb p z=>(kk.block b ae (λq=>by obtain rfl|rfl:=q<;>omega)).trans (ox.block b z)) (λb p z=>ae)⟩)
end
section
open Go.ChangeMaps Un
def nY(f:Fl)(l r:BA)(sa:Option Addr)(n c:Nat):Value:=.agg #[Nv f.kind,Nv f.aF,Nv f.to,.string l,.string r,.slice sa n c,.slice none 0 0]
def YX(z:j7):BA:=if z.f.kind=6 then bs (wr dec (vars [] z.l) z.l 0)else bs []
def YY(z:j7):BA:=if z.f.kind=6 then bs (wr dec (vars (vars [] z.l) z.r) z.r 0)else bs []
def WR(hk:z.f.kind=7)sa n c:
 Cq 50 #[nY dw (bs []) (bs []) sa n c,Ck z.f .nilIface .nilIface] w λe w'=>e=.returned (nY z.f (YX z) (YY z) sa n c)/\Bq w w':=by
 have hl:YX z=bs []:=by simp[YX,hk]
 have hr:YY z=bs []:=by simp[YY,hk]
 rw[hl,hr];unfold nY;rw[hk];simp only[dw];go_enter func50,ntmps50;go_wp2_with fail;refine bodyPost_ret (v:=nY ⟨7,z.f.aF,z.f.to⟩ (bs []) (bs []) sa n c) (by simp[results,Tryz.results50,go_sem,nY]) rfl ⟨rfl,?_⟩;exact((bw _).alloc ag _).alloc bD _
def WS(HAt:∀nd,WN nd->W5 nd)(hk:z.f.kind=6)(hf:rM w (λ_=>True) z vl vr)(hz:j8 z)sa n c:
 Cq 50 #[nY dw (bs []) (bs []) sa n c,Ck z.f vl vr] w λe w'=>e=.returned (nY z.f (YX z) (YY z) sa n c)/\Bq w w':=by
 have hl:YX z=bs (wr dec (vars [] z.l) z.l 0):=by simp[YX,hk]
 have hr:YY z=bs (wr dec (vars (vars [] z.l) z.r) z.r 0):=by simp[YY,hk]
 rw[hl,hr];have⟨⟨wl,zl⟩,wrr,zr⟩:=hz.six hk;have⟨tl,tr⟩:=hf.apart hk;have amA:=e_ z.l [];have ane:=e_ z.r<|vars [] z.l;simp only[qP]at amA;have HT:∀W:World,Bq w W->dD W (λb=>b<w.heap.size) z.l vl/\dD W (λb=>b<w.heap.size) z.r vr:=λW k=>⟨tl.move k.size (λb _ q=>k.block b q) λ_ _ q=>q,tr.move k.size (λb _ q=>k.block b q) λ_ _ q=>q⟩;obtain⟨ta,xa,rfl⟩:=tl.iface;obtain⟨tb,xb,rfl⟩:=tr.iface;unfold nY;rw[hk];simp only[dw];obtain⟨W0,HW⟩:∃W0,W0=((w.alloc<|Cv #[Iv 6,Nv z.f.aF,Nv z.f.to,Sv<|bs [],Sv<|bs [],Lv sa n c,Lv none 0 0] 35).alloc<|Cv #[Iv 6,Nv z.f.aF,Nv z.f.to,Fv ta xa,Fv tb xb] 134).alloc (Cv #[Iv 0,Iv 0,Iv 0,Sv ⟨#[]⟩,Sv ⟨#[]⟩,Lv none 0 0,Lv none 0 0] 35):=⟨_,rfl⟩;have K0:Bq w W0:=by rw[HW];exact((bw _).alloc ag _).alloc bD _
 have R0:Bx W0 w.heap.size #[Iv 6,Nv z.f.aF,Nv z.f.to,Sv<|bs [],Sv<|bs [],Lv sa n c,Lv none 0 0]:=by rw[HW];exact((qf w _ _).alloc _).alloc _
 have F0:Bx W0 (w.heap.size+1) #[Iv 6,Nv z.f.aF,Nv z.f.to,Fv ta xa,Fv tb xb]:=by rw[HW];have:=(qf (w.alloc<|Cv #[Iv 6,Nv z.f.aF,Nv z.f.to,Sv<|bs [],Sv<|bs [],Lv sa n c,Lv none 0 0] 35) #[Iv 6,Nv z.f.aF,Nv z.f.to,Fv ta xa,Fv tb xb] 134).alloc<|Cv #[Iv 0,Iv 0,Iv 0,Sv ⟨#[]⟩,Sv ⟨#[]⟩,Lv none 0 0,Lv none 0 0] 35;simpa using this
 have Z0:Bx W0 (w.heap.size+1+1) #[Iv 0,Iv 0,Iv 0,Sv ⟨#[]⟩,Sv ⟨#[]⟩,Lv none 0 0,Lv none 0 0]:=by rw[HW];have:=qf ((w.alloc<|Cv #[Iv 6,Nv z.f.aF,Nv z.f.to,Sv<|bs [],Sv<|bs [],Lv sa n c,Lv none 0 0] 35).alloc<|Cv #[Iv 6,Nv z.f.aF,Nv z.f.to,Fv ta xa,Fv tb xb] 134) #[Iv 0,Iv 0,Iv 0,Sv ⟨#[]⟩,Sv ⟨#[]⟩,Lv none 0 0,Lv none 0 0] 35;simpa using this
 have zW:W0.heap.size=w.heap.size+3:=by rw[HW];simp
 go_enter func50,ntmps50;go_wp2_with fail;rw[<-HW];refine yM.mono ?_;rintro e w1⟨cb,nb,mb,rfl,HC1,Fz,hm1,aiC,bZ⟩;have K1:=K0.trans<|bZ.mono K0.size;have HR1:=R0.below bZ;have F1:=F0.below bZ;have HZ1:=Z0.below bZ;have hcw:cb≠w.heap.size:=λe=>by have h1:=HC1.c 0;rw[e,HR1.c 0]at h1;simp at h1
 have hnw:nb≠w.heap.size:=λe=>by have h1:=Fz.bk.c 0;rw[e,HR1.c 0]at h1;simp at h1
 have hs1:=bZ.size;have HWr:=tY HAt (HT w1 K1).1 (λb p=>by have:b<w.heap.size:=p;omega) Fz HC1 aiC wl zl ae;have S1:=K1.size;have Ce:=ai F1;obtain⟨f1,f2,f3⟩:=F1;go_wp2_with fail;refine HWr.mono ?_;rintro e w2⟨rfl,N2,F2⟩;have K2:=Fr.ph K1 K1.size F2 (λx q=>by subst q;omega);have R2:=HR1.fr F2 (by show ¬w.heap.size=mb;omega);have Fa2:=Ce.fr F2 (by show ¬w.heap.size+1=mb;omega);have Z2:=HZ1.fr F2 (by show ¬w.heap.size+1+1=mb;omega);have C2:=HC1.fr F2 (by show ¬cb=mb;exact aiC);have HR3:=R2.vF 3 (Sv<|bs<|wr dec (vars [] z.l) z.l 0) #[Iv 6,Nv z.f.aF,Nv z.f.to,Sv<|bs<|wr dec (vars [] z.l) z.l 0,Sv<|bs [],Lv sa n c,Lv none 0 0] ag ag;have K3:=K2.setCell (p:=⟨w.heap.size,3,none⟩) (br _)<|Sv<|bs<|wr dec (vars [] z.l) z.l 0;have Fa3:=Fa2.qX (b2:=w.heap.size) ae 3<|Sv<|bs<|wr dec (vars [] z.l) z.l 0;have HZ3:=Z2.qX (b2:=w.heap.size) ae 3<|Sv<|bs<|wr dec (vars [] z.l) z.l 0;have C3:=C2.qX (b2:=w.heap.size) hcw 3<|Sv<|bs<|wr dec (vars [] z.l) z.l 0;have N3:=N2.set (b:=w.heap.size) (Ne.symm hnw) ae 3<|Sv<|bs<|wr dec (vars [] z.l) z.l 0;have HWr:=tY HAt (HT _ K3).2 (λb p=>by have:b<w.heap.size:=p;omega) N3 C3 aiC wrr zr ae;obtain⟨r1,r2,r3⟩:=R2;obtain⟨f1,f2,f3⟩:=Fa2;go_wp2_with fail;refine HWr.mono ?_;rintro e w4⟨rfl,N4,F4⟩;have K4:=Fr.ph K3 K3.size F4 (λx q=>by subst q;omega)
 have R4:=HR3.fr F4 (by show ¬w.heap.size=mb;omega);have Z4:=HZ3.fr F4 (by show ¬w.heap.size+1+1=mb;omega);have R5:=R4.vF 4 (Sv<|bs<|wr dec (vars (vars [] z.l) z.r) z.r 0) #[Iv 6,Nv z.f.aF,Nv z.f.to,Sv<|bs<|wr dec (vars [] z.l) z.l 0,Sv<|bs<|wr dec (vars (vars [] z.l) z.r) z.r 0,Lv sa n c,Lv none 0 0] ag ag;have K5:=K4.setCell (p:=⟨w.heap.size,4,none⟩) (br _)<|Sv<|bs<|wr dec (vars (vars [] z.l) z.r) z.r 0;have Z5:=Z4.qX (b2:=w.heap.size) ae 4<|Sv<|bs<|wr dec (vars (vars [] z.l) z.r) z.r 0;obtain⟨r1,r2,r3⟩:=R4;obtain⟨q1,q2,q3⟩:=Z4;go_wp2_with fail;have⟨p1,p2,p3⟩:=Z5.aau rfl (Iv 6) (Nv z.f.aF) (Nv z.f.to) (Sv<|bs<|wr dec (vars [] z.l) z.l 0) (Sv<|bs<|wr dec (vars (vars [] z.l) z.r) z.r 0) (Lv sa n c) (Lv none 0 0);refine bodyPost_ret (v:=Av #[Iv 6,Nv z.f.aF,Nv z.f.to,Sv<|bs<|wr dec (vars [] z.l) z.l 0,Sv<|bs<|wr dec (vars (vars [] z.l) z.r) z.r 0,Lv sa n c,Lv none 0 0]) (by simp[results,Tryz.results50,go_sem,p1]) rfl ⟨rfl,?_⟩;exact(((((((K5.setCell (p:=⟨w.heap.size+1+1,0,none⟩) bD _).setCell (p:=⟨w.heap.size+1+1,1,none⟩) bD _).setCell (p:=⟨w.heap.size+1+1,2,none⟩) bD _).setCell (p:=⟨w.heap.size+1+1,3,none⟩) bD _).setCell (p:=⟨w.heap.size+1+1,4,none⟩) bD _).setCell (p:=⟨w.heap.size+1+1,5,none⟩) bD _).setCell (p:=⟨w.heap.size+1+1,6,none⟩) bD _)
def WU(HAt:∀nd,WN nd->W5 nd)(hf:rM w (λ_=>True) z vl vr)(hz:j8 z)sa n c:
 Cq 50 #[nY dw (bs []) (bs []) sa n c,Ck z.f vl vr] w λe w'=>e=.returned (nY z.f (YX z) (YY z) sa n c)/\Bq w w':=by
 obtain hk|hk:=hf.k
 .exact WS HAt hk hf hz sa n c
 .obtain⟨rfl,rfl⟩:=hf.q_ hk;exact WR hk sa n c
@[simp] theorem aiV a0 a1 a2 a3 a4 a5 a6 w:(Instr.typeAssert (.iface 125<|.agg #[a0,a1,a2,a3,a4,a5,a6]) 117 125 true).run j9 w=.ok (.tuple #[(.agg #[a0,a1,a2,a3,a4,a5,a6]),.bool true]) w:=qkr
@[simp] theorem aiW a0 a1 a2 a3 a4 a5 a6 w:(Instr.typeAssert (.iface 132<|.agg #[a0,a1,a2,a3,a4,a5,a6]) 117 132 true).run j9 w=.ok (.tuple #[(.agg #[a0,a1,a2,a3,a4,a5,a6]),.bool true]) w:=qkr
@[simp] theorem aiX a0 a1 a2 a3 a4 a5 a6 w:(Instr.typeAssert (.iface 132<|.agg #[a0,a1,a2,a3,a4,a5,a6]) 117 125 true).run j9 w=.ok (.tuple #[(.agg #[Iv 0,Iv 0,Iv 0,Iv 0,.string ⟨#[]⟩,.slice none 0 0,.slice none 0 0]),.bool false]) w:=qkr
def metW_Makers a w:(method 567 112 (.pointer<|some a) "Makers").run Tryz.prog w=.ok (239,.pointer<|some a) w:=qkr
def metW_Let a w:(method 567 112 (.pointer<|some a) "Let").run Tryz.prog w=.ok (238,.pointer<|some a) w:=qkr
def metJ_Makers a w:(method 567 114 (.pointer<|some a) "Makers").run Tryz.prog w=.ok (303,.pointer<|some a) w:=qkr
def metJ_Let a w:(method 567 114 (.pointer<|some a) "Let").run Tryz.prog w=.ok (302,.pointer<|some a) w:=qkr
def EO(hs:¬400<s.size){f:Fl}(h:fin (ja s 0) (da (ja s 0) (ja s 0).length 0)=.error f):rH s=.error f:=by
 unfold rH;rw[if_neg hs];unfold fin at h;split at h
 .rename_i f' e;cases h;rw[e]
 .rename_i a k e;split at h
  .rename_i h6
   cases h
   rw[e];simp[h6]
  .cases h
def acq(hs:¬400<s.size){a:Nd}(h:fin (ja s 0) (da (ja s 0) (ja s 0).length 0)=.ok (a,k)):rH s=if(tk (ja s 0) k).kind==7 then .ok a else .error (eK<|tk (ja s 0) k):=by
 rw[rH];rw[if_neg hs,(r9 h).1]
structure Vk(s:BA)(a:Nd):Prop where
 r:rH s=.ok a
 t:ot a
 n:nn a<=802
def EP(a:Nd)(w:World)(e:Ending)(w':World):=∃v,e=.returned (.tuple #[v,oC dw])/\Bq w w'/\PT w' (λb=>w.heap.size<=b) a v
section
variable {a:Nd}
def It{p:Prop}(h:p:=by
 rw[jo _ _ _ _ (by show b≠w.heap.size;omega),jo _ _ _ _ (by show b≠w.heap.size;omega),jo _ _ _ _ (by show b≠w.heap.size;omega)]):p:=h
def ae3(h:Laid w)(hr:rH s=.ok a):Cq 51 #[.string s,.func (.func 52) #[] #[]] w (EP a w):=by
 have hs:¬400<s.size:=λc=>by simp[rH,c]at hr
 have hT:(ja s 0).length<=1001:=by have:=Lf s 0;omega
 have h1:decide ((400:Int)<(s.size:Int))=false:=bD;have jD:s.size<=1000:=ae;have hT0:0<(ja s 0).length:=by
  rw[jZ s 0<|jh _];split<;>simp
 have⟨bP,B0⟩:=oF w zF 31;have HL:=h.af bP
 go_enter_defers Tryz.func51,Tryz.ntmps51
 go_wp2_with fail;refine(xP HL s jD).mono ?_;intro e w1 hp;obtain⟨bZ,hp⟩:=hp;have B1:=B0.below bZ;have dA:=bP.trans<|bZ.mono bP.size;have et:=jM s 0 hT0;rw[show aR (ja s 0) 0=0 from rfl]at et;obtain⟨h6,rfl,N,sb,m,R1,E1⟩|⟨h6,rfl⟩:=hp
 .have fK:(w.alloc<|Cv zF 31).heap.size=w.heap.size+1:=ag;rw[<-et,fK]at R1;rw[<-et]at h6;have l8:=R1.z;have S1:SX w1 N (w.heap.size+1) sb m s 0:=⟨by rw[show aR (ja s 0) 0=0 from rfl];exact R1,by simpa using E1,hT0,h6⟩;have HA:=RG (n:=(ja s 0).length) jD hT S1 ae;go_wp2_with fail;refine HA.mono ?_;intro e w2 hp
  cases hA:fin (ja s 0) (da (ja s 0) (ja s 0).length 0)with
  |error f=>rw[EO hs hA]at hr;cases hr|ok r=>
  obtain⟨a',k⟩:=r;obtain⟨v,rfl,K2,S2,P2⟩:=hp.ok hA;obtain⟨tv,xv,rfl⟩:=P2.iface;have R2:=S2.rd;have hk:=S2.lt;have h62:=S2.ok;have du:=K2.low dA dA.size ae;have B2:=B1.Gq K2 ae;have Xl:=acq hs hA;have ho:=eC s k hk;have hke:=Ka ho h62;have h7:(tk (ja s 0) k).kind=7:=Classical.byContradiction λc=>by rw[Xl,if_neg<|by simpa using c]at hr;cases hr
  rw[Xl,if_pos<|by simp[h7]]at hr
  cases hr
  have t7:((aA<|tk (ja s 0) k).toList==uG.toList)=true:=by rw[show uG.toList=[116,104,101,32,101,110,100]from toList_mk _,hke];simp[h7]
  go_wp2_with fail;refine(iL R2 jD (rD s k hk) uG t7).mono ?_;intro e w3 hp;obtain⟨rfl,K3,R3⟩:=hp.ok<|Ld hk h7;have B3:=B2.Gq K3 ae;have oP:=K3.low du du.size ae;have P3:=P2.ke K3 (λb p=>by show b≠_;have:w1.heap.size<=b:=p;omega);have B4:=B3.fW rfl (Iv 0) (Iv 0) (Iv 0);obtain⟨c3,f3,z3⟩:=B3;go_wp2_with fail;refine leaves_cons (f:=73) (args:=#[Pv w.heap.size]) ag Zi ?_;refine(ahO w.heap.size).mono ?_;rintro e u' w9⟨rfl,rfl,rfl⟩;obtain⟨c4,f4,z4⟩:=B4;simp[Leaves,settle,results,Tryz.results51,go_sem,c4];refine⟨_,rfl,((oP.setCell (br _) _).setCell (br _) _).setCell (br _) _,P3.move zJ (λb p _=>?_)<|λb p _=>?_⟩
  .have p':=p;exact It
  .have p':=p;show w.heap.size<=b;omega
 .rw[<-et]at h6;have jA:fin (ja s 0) (da (ja s 0) (ja s 0).length 0)=.error (eK<|tk (ja s 0) 0):=vQ _ _ 0 h6;rw[EO hs jA]at hr
  cases hr
def aiD(h:Laid w)(hr:rH s=.ok a):Cq 28 #[.string s] w (EP a w):=by
 have⟨bP,B0⟩:=oF w zF 31;have HL:=h.af bP;have HC:=ae3 HL hr;go_enter func28,ntmps28;go_wp2_with fail;refine HC.mono ?_;rintro e w1⟨v,rfl,bZ,hp⟩;have B1:=B0.below bZ;have B2:=B1.fW rfl (Iv 0) (Iv 0) (Iv 0);obtain⟨c1,f1,z1⟩:=B1;have Hp:=ai hp;rw[oC];simp only[dw];go_wp2_with fail;obtain⟨c2,f2,z2⟩:=B2;refine bodyPost_ret (v:=.tuple #[v,oC dw]) (by simp[results,Tryz.results28,go_sem,oC,c2,dw]) rfl ⟨v,rfl,(((bP.trans<|bZ.mono bP.size).setCell (br _) _).setCell (br _) _).setCell (br _) _,Hp.move zJ (λb p _=>?_)<|λb p _=>?_⟩
 .have p':=p;simp at p';exact It
 .have p':=p;simp at p';show w.heap.size<=b;omega
end
section
variable {kb fb:Nat} {ns:List BA} {a:Nd}
def acr(kb fb cb mb:Nat)(ns:List BA)(a:Nd)(w:World)(e:Ending)(w':World):=∃v,e=.returned (.tuple #[v,oC dw])/\Fr (YG cb mb) w w'/\NM w' kb fb cb mb (aI ns a).2/\dD w' (λb=>w.heap.size<=b) (aI ns a).1 v
def r8(hL:Laid w)(h:NM w kb fb cb mb ns)(hn:ns.length<=900)(hr:Vk s a)(fK:size (aI ns a).1<=48):Cq 17 #[.string s,nmV kb fb] w (acr kb fb cb mb ns a w):=by
 have bA:=h.lt;have⟨bP,B0⟩:=oF w zF 31;have HC:=aiD (hL.af bP) hr.r;have hnz:=hr.n;have hTy:=hr.t;go_enter func17,ntmps17;go_wp2_with fail;refine HC.mono ?_;rintro e w1⟨v,rfl,bZ,P1⟩;have dA:=bP.trans<|bZ.mono bP.size;have gd:Bq w1 (w1.alloc<|Cv #[Iv 0,Iv 0,Iv 0] 31):=bw _;have du:=dA.trans<|gd.mono dA.size;have B2:=ai<|(B0.below bZ).alloc<|Cv #[Iv 0,Iv 0,Iv 0] 31;have⟨c2,f2,z2⟩:=uh B2;have⟨d2,g2,y2⟩:=Bx.new w1 #[Iv 0,Iv 0,Iv 0] 31;rw[oC];obtain⟨tv,xv,rfl⟩:=P1.iface;have⟨hsm,hmc⟩:=qH a ns;have amB:=bZ.size;simp at amB;have hQ:∀b,(w.alloc<|Cv zF 31).heap.size<=b->b≠cb/\b≠mb:=λb q=>by simp at q;omega
 have HO:=afh a hTy _ kb fb cb mb ns _ _ (h.af du) (P1.af gd) hQ ae;simp only[dw]at*;go_wp2_with fail;refine HO.mono ?_;rintro e w3⟨u,rfl,T3,N3,F3⟩;obtain⟨tu,xu,rfl⟩:=T3.iface;have hnt:¬YG cb mb w.heap.size:=λq=>by obtain q|q:=q<;>omega
 have B3:=B2.fr F3 hnt;have FF:=(Fr.of du).trans F3;have z3:=F3.size;simp at z3;go_wp2_with fail;refine(Sj (aI ns a).1 w3 _ _ T3 ae).mono ?_;rintro e w4⟨rfl,ry⟩;have B4:=B3.below ry;have FG:=FF.trans<|Fr.of ry;have N4:=N3.af ry;have T4:=T3.af ry;have B5:=ai<|B4.fW rfl (Iv 0) (Iv 0) (Iv 0);obtain⟨c4,f4,z4⟩:=B4;have hd:decide ((48:Int)<(size (aI ns a).1:Int))=false:=bD;go_wp2_with fail;have⟨c5,f5,z5⟩:=uh B5;refine bodyPost_ret (v:=.tuple #[Fv tu xu,oC dw]) (by simp[results,Tryz.results17,go_sem,oC,c5,dw]) rfl ⟨_,rfl,FG.Gn (jq<|br _) _ _ _,((N4.set ae 0 _).set ae 1 _).set ae 2 _,T4.move zJ (λb p _=>?_)<|λb p _=>?_⟩
 .have p':=p;simp at p';exact It
 .have p':=p;simp at p';show w.heap.size<=b;omega
end
def ae4(hL:Laid w){a:Nd}(hs:Vk s a)(fK:size (aI [] a).1<=48):Cq 9 #[.string s] w λe w'=>e=.returned (.tuple #[.string<|bs<|Un.written dec (aI [] a).1,oC dw])/\Bq w w':=by
 have⟨bP,B0⟩:=oF w zF 31;have bZ:Bq w ((w.alloc<|Cv zF 31).alloc<|Cv #[Iv 0] 3):=bP.alloc ag _;have B1:=B0.alloc<|Cv #[Iv 0] 3;have C1:Bx ((w.alloc<|Cv zF 31).alloc<|Cv #[Iv 0] 3) (w.heap.size+1) #[Iv 0]:=by have:=qf (w.alloc<|Cv zF 31) #[Iv 0] 3;simpa using this
 have hW:=Gm hs.t [];have hvs:=e_ (aI [] a).1 [];go_enter func9,ntmps9;go_wp2_with(go_at_call 19;refine tG.mono ?_;rintro e w'⟨rfl,rfl⟩);refine(FD (w.heap.size+1) C1).mono ?_;rintro e w2⟨kb,fb,mb,rfl,N2,gd,rC⟩;have du:=bZ.trans<|gd.mono bZ.size;have B2:=B1.below gd;have HC:=r8 (hL.af du) N2 ag hs fK;go_wp2_with fail;refine HC.mono ?_;rintro e w3⟨v,rfl,F3,N3,T3⟩;simp at rC;have hS:∀x,YG (w.heap.size+1) mb x->w.heap.size<=x:=λx q=>by obtain q|q:=q<;>omega
 have oP:=Fr.ph du du.size F3 hS;have B3:=B2.fr F3 (λq=>by obtain q|q:=q<;>omega);have ry:Bq w3 (w3.alloc<|Cv #[Iv 0,Iv 0,Iv 0] 31):=bw _;have Ci:=oP.trans<|ry.mono oP.size;have B4:=ai<|B3.below ry;have⟨c4,f4,z4⟩:=uh B4;have⟨d4,g4,y4⟩:=qf w3 #[Iv 0,Iv 0,Iv 0] 31;rw[oC];obtain⟨tv,xv,rfl⟩:=T3.iface;have T4:=T3.af ry;simp only[dw]at*;go_wp2_with fail;refine yM.mono ?_;rintro e w5⟨cb5,nb5,mb5,rfl,C5,N5,hm5,amC,hb5⟩;have Zq:=Ci.trans<|hb5.mono Ci.size;have B5:=B4.below hb5;have zw:=oP.size;simp at hm5;have T5:=T4.low.af hb5;have HWr:=tY NZ T5 (λb p=>by have:=p.2;simp at this;omega) N5 C5 amC hW ae (by simp at hvs;omega);go_wp2_with fail;refine HWr.mono ?_;rintro e w6⟨rfl,N6,F6⟩;have HB6:=Fr.ph Zq Zq.size F6 (λx q=>by subst q;omega);have B6:=B5.fr F6 (by show ¬w.heap.size=mb5;omega);have B7:=B6.fW rfl (Iv 0) (Iv 0) (Iv 0);obtain⟨c6,f6,z6⟩:=B6;go_wp2_with fail;obtain⟨c7,f7,z7⟩:=B7;refine bodyPost_ret (v:=.tuple #[Sv<|bs<|wr dec (vars [] (aI [] a).1) (aI [] a).1 0,oC dw]) (by simp[results,Tryz.results9,go_sem,oC,c7,dw]) rfl ?_;exact⟨rfl,((HB6.setCell (br _) _).setCell (br _) _).setCell (br _) _⟩
end
end Go.Proofs.YtlnlhlefeokfjaaGreatDoor
