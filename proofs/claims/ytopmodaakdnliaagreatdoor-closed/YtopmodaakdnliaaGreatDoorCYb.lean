import Derived.Test.YtopmodaakdnliaaGreatDoorCQa
import Derived.Test.YtopmodaakdnliaaGreatDoorCPl
import Derived.Test.YtopmodaakdnliaaGreatDoorCAa
set_option linter.all false
set_option maxRecDepth 100000
set_option maxHeartbeats 8000000
namespace Go.Proofs.YtopmodaakdnliaaGreatDoor
open _root_.List renaming getElem_mem->ja,take_succ_eq_append_getElem->jc,getD_eq_getElem?_getD->jd,mem_cons->jf,map_cons->jh,mem_map_of_mem->ji,append_assoc->jj,take_length->jk,nodup_cons->jl,range->jm
open _root_.Nat renaming le_trans->jo,zero_add->jq,lt_of_lt_of_le->jt,zero_le->ju,reduceAdd->jv,le_succ->jx,not_lt_zero->jy
open Pu renaming bG->jz,aV->j3,Tok->j5,gI->j6,dB->j7,fN->j8,cT->j9,Bv->qd
open Go.World renaming cell?_of_block->qe
open Go.RowKit.Below renaming refl->qf
open Go.Proofs.Tryz renaming prog->qg,underlying9->qh
open Bx renaming new->qi
open Go.Value renaming string->qj,int->ql
open Bool renaming and_eq_true->qm
open _root_.Array renaming getElem?_setIfInBounds->qn,toList_modify->qp
open Go.Result renaming andThen->qr
open Go.MapKept renaming run_setObj_map->qt,heap_alloc->qu
open Go Go.RowKit Proofs.Tryz
variable {s:BA} {mk ty:BA->Option Nat} {dom:BA->Prop} {b:Bool} {Γ:In.Env} {mks:In.Mks} {L:List (BA×Value)} {R:List (List Ms.Sk)} {done nl:List BA} {K p q:List Ky} {r:List Ms.Sk} {ts:List Ms.So} {T:List j5} {F l:List UInt8} {sm:M Nd} {t:Ms.So} {B c cb f g gb j k kb lb m mb n n0 pc rc sc tb wc:Nat} {P S:Nat->Prop} {nd x y:Nd} {pa ra sa wa:Option Addr} {α β:Type} {a:Un.Ty} {mv v:Value} {w w':World}
section
open Go.ChangeMaps
def aeT b:
 CallsD qg 80 #[Pv b] .returning w λe u' w'=>
  e=.returned (.tuple #[])/\u'=.returning/\w'=w:=by
 refine callsD_of_wpS Tryz.func80 rfl λeZ cs hu=>?_;apply wpS_seq;apply wpS_region;simp[wpOpsS,go_sem,recoverD,hu,Tryz.ntmps80,Exit.thenS];rw[show(#[Pv b]++((Array.replicate 16 undef).setIfInBounds 3 Zv).setIfInBounds 0 Zv)=#[Pv b,Zv,undef,undef,Zv,undef,undef,undef,undef,undef,undef,undef,undef,undef,undef,undef,undef]from rfl];have Ti:eZ::cs={eZ with mode:=.returning}::cs:=(by cases eZ;simp at hu;subst hu;rfl);refine wpS_of_wp ?_
 go_wp2
 exact⟨rfl,_,Ti,.tuple #[],by simp[results,Tryz.results80,go_sem],rfl,rfl,rfl⟩
def Pr(T:List j5)l:aO T (V5 T l):=λk h=>by unfold V5;rw[if_neg ae];rfl
def DJ(hs:¬400<s.size){f}(h:fin (jz s 0) (dD (jz s 0) (eG (jz s 0) (jz s 0).length) (jz s 0).length [] 0)=.error f):lB s=.error f:=by
 unfold lB;rw[if_neg hs];have:=bQ h<|λl=>Pr (jz s 0) l;unfold fin at this;split at this
 .rename_i e;cases this;rw[e]
 .rename_i a k e;split at this
  .rename_i h6;exfalso;have⟨l,j,_,h2⟩:=au e;unfold V5 at h2;split at h2
   .cases h2;omega
   .cases h2
  .cases this
def abC(hs:¬400<s.size){l}(h:fin (jz s 0) (dD (jz s 0) (eG (jz s 0) (jz s 0).length) (jz s 0).length [] 0)=.ok (l,k)):lB s=if(tk (jz s 0) k).kind=7 then .ok l else .error (fD<|tk (jz s 0) k):=by grind[fin,dD,eG,lB,tk,fD,mM,V5]
def oO(l:List Dc)w(e:Ending)w':=∃u,e=.returned (.tuple #[.agg #[u],flV Vo])/\Bq w w'/\RowV QD 1 w' (λb=>w.heap.size<=b) l u
abbrev WO:Array Value:=#[.slice none 0 0]
def abD(h:Laid w){L:List Dc}(hr:lB s=.ok L):Calls qg 43 #[.string s,.func (.func 44) #[] #[]] w (oO L w):=by
 have hs:¬400<s.size:=λq=>by simp[lB,q]at hr
 have hT:(jz s 0).length<=1001:=by have:=abB s 0;omega
 have HR:=ai hr;clear hr;have h1:decide ((400:Int)<(s.size:Int))=false:=bi;have iO:s.size<=1000:=ae;have hT0:0<(jz s 0).length:=by
  rw[lV s 0<|ju _];split<;>simp
 have B0:=(qi w WO 48).alloc<|Cv zF 38;have F0:Bx ((w.alloc<|Cv WO 48).alloc<|Cv zF 38) (w.heap.size+1) zF:=by have:=qi (w.alloc<|Cv WO 48) zF 38;simpa using this
 have b8:Below w.heap.size w ((w.alloc<|Cv WO 48).alloc<|Cv zF 38):=(bw _).alloc ah _;have ku:((w.alloc<|Cv WO 48).alloc<|Cv zF 38).heap.size=w.heap.size+2:=ah;have HL:=h.af b8
 go_enter_defers Tryz.func43,Tryz.ntmps43
 go_wp2_with fail;refine(Kh HL s iO).mono ?_;intro e w1 hp;obtain⟨aeU,hp⟩:=hp;rw[ku]at hp;have B1:=B0.below aeU;have F1:=F0.below aeU;have eE:=b8.trans<|aeU.mono b8.size;have et:=kN s 0 hT0;rw[show aR (jz s 0) 0=0 from rfl]at et;have z1:=aeU.size;rw[ku]at z1;obtain⟨h6,rfl,N,sb,m,X1,E1⟩|⟨h6,rfl⟩:=hp
 .rw[<-et]at X1 h6;have S1:SX w1 N (w.heap.size+2) sb m s 0:=⟨by rw[show aR (jz s 0) 0=0 from rfl];exact X1,E1,hT0,h6⟩;have HA:=WJ (n:=(jz s 0).length) iO hT S1 ae;have hrb:=S1.z;go_wp2_with fail;refine HA.mono ?_;intro e w2 hp
  cases hA:fin (jz s 0) (dD (jz s 0) (eG (jz s 0) (jz s 0).length) (jz s 0).length [] 0)with
  |error f=>
   have hr:=uh HR;rw[DJ hs hA]at hr
   cases hr
  |ok r=>
  obtain⟨l,k⟩:=r;obtain⟨v,rfl,K2,S2,u,rfl,RV⟩:=hp.ok hA;have h_:=K2.low eE eE.size ae;have z2:=K2.size;have hrd:=abC hs hA;have hk:=S2.lt;have ho:=eH s k hk;have hke:=aaT ho S2.ok;have⟨yc,R3⟩:=Hu w2 #[u] 48;have B3:=(B1.J9 K2 ae).below yc;have F3:=(F1.J9 K2 ae).below yc;have X9:=S2.af yc;have HB3:=h_.trans<|yc.mono h_.size;have RV3:RowV QD 1 (w2.alloc<|Cv #[u] 48) (λb=>w1.heap.size<=b/\b<w2.heap.size) l u:=RV.move bA yc.size (λb _ z=>yc.block b z)<|λb p z=>⟨p,z⟩;have z3:(w2.alloc<|Cv #[u] 48).heap.size=w2.heap.size+1:=ah;obtain⟨va,vc,cs,hu,_,_⟩:=RV;subst hu;have anb:=ai RV3;by_cases h7:(tk (jz s 0) k).kind=7
  .have t7:((aq<|tk (jz s 0) k).toList==DI.toList)=true:=by rw[show DI.toList=[116,104,101,32,101,110,100]from toList_mk _,hke];simp[h7]
   go_wp2_with fail;refine(jQ X9.rd iO (sG s k hk) DI t7).mono ?_;intro e w3 hp;obtain⟨rfl,K3,R4⟩:=hp.ok<|abA hk h7;have zk:=K3.size;have B4:=B3.J9 K3 ae;have F4:=F3.J9 K3 ae;have R5:=R3.J9 K3 ae;have HBB:=K3.low HB3 HB3.size ae;have anc:=anb.move bA K3.size (λb p z=>K3.block b z ae)<|λ_ p _=>p;have ane:=ai B4;have anf:=ai F4;obtain⟨c3,f3,y3⟩:=R5;obtain⟨c4,f4,y4⟩:=B4;obtain⟨c5,f5,y5⟩:=F4;go_wp2_with fail;have B6:=(((ane.aP 0 (Lv va l.length vc) #[Lv va l.length vc] rfl ah).bJ (b2:=w.heap.size+1) ae 0 (.int .i64 0)).bJ (b2:=w.heap.size+1) ae 1 (.int .i64 0)).bJ (b2:=w.heap.size+1) ae 2 (.int .i64 0);have F6:=(anf.bJ (b2:=w.heap.size) ae 0<|Lv va l.length vc).pW rfl (.int .i64 0) (.int .i64 0) (.int .i64 0);have RV6:=((((anc.tT bA (b:=w.heap.size) (λc p=>ae) 0<|Lv va l.length vc).tT bA (b:=w.heap.size+1) (λc p=>ae) 0<|.int .i64 0).tT bA (b:=w.heap.size+1) (λc p=>ae) 1<|.int .i64 0).tT bA (b:=w.heap.size+1) (λc p=>ae) 2<|.int .i64 0).move bA (br _) (λ_ _ _=>rfl) (P':=λb=>w.heap.size<=b)<|λb p _=>ae
   have HB6:=(((HBB.setCell (p:=⟨w.heap.size,0,none⟩) (br _)<|Lv va l.length vc).setCell (p:=⟨w.heap.size+1,0,none⟩) (jx _)<|.int .i64 0).setCell (p:=⟨w.heap.size+1,1,none⟩) (jx _)<|.int .i64 0).setCell (p:=⟨w.heap.size+1,2,none⟩) (jx _)<|.int .i64 0;refine leaves_cons (f:=80) (args:=#[.pointer<|some ⟨w.heap.size+1,0,none⟩]) ah qBb ?_;refine(aeT<|w.heap.size+1).mono ?_;rintro e u' w9⟨rfl,rfl,rfl⟩;obtain⟨c7,_,_⟩:=B6;obtain⟨c8,_,_⟩:=F6;simp[Leaves,settle,results,Tryz.results43,go_sem,c7,c8];rw[uh HR,if_pos h7]at hrd
   cases hrd
   exact⟨_,rfl,HB6,RV6⟩
  .rw[uh HR,if_neg h7]at hrd
   cases hrd
 .rw[<-et]at h6⊢;have lF:fin (jz s 0) (dD (jz s 0) (eG (jz s 0) (jz s 0).length) (jz s 0).length [] 0)=.error (fD<|tk (jz s 0) 0):=wI _ _ _ _ 0 h6;have hr:=uh HR;rw[DJ hs lF]at hr
  cases hr
def Vn(h:Laid w){l:List Dc}(hr:lB s=.ok l):Cq 23 #[.string s] w (oO l w):=by
 have b8:Bq w ((w.alloc<|Cv WO 48).alloc<|Cv zF 38):=(bw _).alloc ah _;have ku:((w.alloc<|Cv WO 48).alloc<|Cv zF 38).heap.size=w.heap.size+2:=ah;have B0:=(Bx.new w WO 48).alloc<|Cv zF 38;have F0:Bx ((w.alloc<|Cv WO 48).alloc<|Cv zF 38) (w.heap.size+1) zF:=(by have:=Bx.new (w.alloc<|Cv WO 48) zF 38;simpa using this);have HC:=abD (h.af b8) hr;clear hr;go_enter func23,ntmps23;go_wp2_with fail;refine HC.mono ?_;rintro e w1⟨u,rfl,cU,hp⟩;have B1:=B0.below cU;have F1:=F0.below cU;have B2:=(((B1.aP 0 u #[u] rfl ah).bJ (b2:=w.heap.size+1) ae 0 (Iv 0)).bJ (b2:=w.heap.size+1) ae 1 (Iv 0)).bJ (b2:=w.heap.size+1) ae 2 (Iv 0);have F2:=(F1.bJ (b2:=w.heap.size) ae 0 u).pW rfl (Iv 0) (Iv 0) (Iv 0);have h_:=((((b8.trans<|cU.mono b8.size).setCell (p:=⟨w.heap.size,0,none⟩) (br _) u).setCell (p:=⟨w.heap.size+1,0,none⟩) (Nat.le_succ _)<|Iv 0).setCell (p:=⟨w.heap.size+1,1,none⟩) (Nat.le_succ _)<|Iv 0).setCell (p:=⟨w.heap.size+1,2,none⟩) (Nat.le_succ _)<|Iv 0;obtain⟨va,vc,cs,rfl,-⟩:=id hp;obtain⟨c1,f1,z1⟩:=B1;obtain⟨c2,f2,z2⟩:=F1;have Hp:=ai hp;simp only[flV,Vo];go_wp2_with fail;obtain⟨c3,f3,z3⟩:=B2;obtain⟨c4,f4,z4⟩:=F2;have q:∀c,w.heap.size+2<=c->c≠w.heap.size:=λc h=>ae;have q':∀c,w.heap.size+2<=c->c≠w.heap.size+1:=λc h=>ae;have hp:=uh Hp;rw[ku]at hp
 exact bodyPost_ret (v:=.tuple #[Av #[Lv va l.length vc],flV Vo]) (by simp[results,Tryz.results23,go_sem,flV,Vo,c3,c4]) rfl ⟨Lv va l.length vc,rfl,h_,((((hp.tT bA (b:=w.heap.size) q 0 _).tT bA (b:=w.heap.size+1) q' 0 _).tT bA (b:=w.heap.size+1) q' 1 _).tT bA (b:=w.heap.size+1) q' 2 _).move bA (br _) (λ_ _ _=>rfl) (λb p _=>by have p':w.heap.size+2<=b:=p;show w.heap.size<=b;omega)⟩
end
def Tj:∀l m,Hz (l++m)=Hz l++Hz m
 |[],m=>rfl|x::l,m=>by simp[Hz,Tj l m]
abbrev aag:Ky:=(5,[116,114,117,101])
abbrev ahJ:Ky:=(5,[95])
abbrev yEq:Ky:=(5,[61])
abbrev E_:Ky:=(5,[124])
abbrev kI:Ky:=(5,[59])
abbrev aee:Ky:=(5,[102,117,110])
abbrev aed:Ky:=(5,[108,101,116])
abbrev yIn:Ky:=(5,[105,110])
abbrev ala:Ky:=(5,[116,104,101,110])
abbrev alb:Ky:=(5,[101,108,115,101])
abbrev Ab:Ky:=(5,[109,97,116,99,104])
abbrev Dk:Ky:=(5,[119,105,116,104])
abbrev Fe:Ky:=(5,[101,110,100])
abbrev Jx:Ky:=(5,[116,121,112,101])
def aeV[BEq α][LawfulBEq α][DecidableEq α](a b:α):(a==b)=decide (a=b):=by by_cases h:a=b<;>simp[h]
def abE{t:j5}:aU t ⟨l.toArray⟩=decide (fC t=(5,l)):=by
 rw[Tk,aeV]
def R_(s:BA):(⟨s.toList.toArray⟩:BA)=s:=toList_inj<|toList_mk _
abbrev Fg(x:Ky)(f g:Nat):j5:=⟨x.1,⟨x.2.toArray⟩,f,g⟩
def fq(t:j5):t=Fg (fC t) t.aD t.t9:=by simp[fC,Fg,R_]
abbrev ais:Ky:=(5,[58])
def stops:List Ky:=[jM,Pw,yIn,ala,alb,Dk,E_,Fe,kI,ais]
def En(T:List j5)(k:Nat):Prop:=fC (tk T k)∈stops
def ait{x:Ky}(h:x∈stops)(f g:Nat):aF (Fg x f g) 3=false/\aU (Fg x f g) il=false/\(aU (Fg x f g) jI||aU (Fg x f g) fs)=false/\aU (Fg x f g) ik=false:=by
 simp only[stops,jf,List.not_mem_nil,or_false]at h;obtain rfl|rfl|rfl|rfl|rfl|rfl|rfl|rfl|rfl|rfl:=h<;>exact⟨qkr,qkr,qkr,qkr⟩
def En.no(h:En T k):aF (tk T k) 3=false/\aU (tk T k) il=false/\(aU (tk T k) jI||aU (tk T k) fs)=false/\aU (tk T k) ik=false:=by
 rw[fq<|tk T k];exact ait h _ _
def Px(t:j5):Bool:=aF t 3&& !aU t OY&& !aU t kIf&& !aU t uJ&& !aU t r9
def Bg(p:List Ky):=∃x r,p=x::r/\∀f g,Px (Fg x f g)=true
def HdK(p:List Ky):=∃x r,p=x::r/\x≠jM
def Bg.len(h:Bg p):1<=p.length:=by obtain⟨x,r,rfl,_⟩:=h;simp
def Bg.at(h:Bg p)(hs:jN T k p):Px (tk T k)=true:=by
 obtain⟨x,r,rfl,h⟩:=h;rw[fq<|tk T k,hs.hd];exact h _ _
def Bg.hd(h:Bg p):HdK p:=by obtain⟨x,r,rfl,h⟩:=h;exact⟨x,r,rfl,by rintro rfl;exact Bool.noConfusion<|(by kernel_rfl:false=Px (Fg jM 0 0)).trans<|h 0 0⟩
section
variable (T:List j5) (n:Nat)
abbrev sm3:M Nd:=aJ T (bu T n) (iz T n) 3
abbrev sm2:M Nd:=aJ T (b_ T n) (jW T) 2
end
def RdT(m:M Nd)(k:Nat)(p:List Ky)(t:Nd):=∃nd,es nd=t/\m k=.ok (nd,k+p.length)
def Ia(v:Nat)(p:List Ky)(t:Nd):Prop:=match v with
 |5=>Bg p/\∀T k n,jN T k p->p.length<=n+1->p.length<=T.length+1->RdT (sm3 T n) k p t|4=>Bg p/\∀T k n f,jN T k p->p.length<=n+1->p.length<=T.length+1->p.length<=f+1->∃nd f',es nd=t/\f+1<=f'+p.length/\aX (sm3 T n) (iN T (sm3 T n) (tk T k).aD f) k=iN T (sm3 T n) (tk T k).aD f' nd (k+p.length)|_=>HdK p/\∀T k n,jN T k p->p.length<=n->p.length<=T.length+1->En T (k+p.length)->RdT (bu T n) k p t
def Ia.d54{t:Nd}(h:Ia 5 p t):Ia 4 p t:=⟨h.1,λT k n f hs hn hT hf=>by
 have⟨nd,e,hr⟩:=h.2 T k n hs hn hT
 exact⟨nd,f,e,by have:=h.1.len;omega,by rw[aX];rw[hr]⟩⟩
def Py{fr:Nat}(h:En T k):iN T sm fr f x k=.ok (x,k):=by
 cases f with
 |zero=>rfl|succ f=>unfold iN;rw[h.no.1];rfl
def Pz{fr:Nat}(h:En T k):lX T sm fr f x k=.ok (x,k):=by
 cases f with
 |zero=>rfl|succ f=>unfold lX;rw[h.no.2.1];rfl
def WQ{fr:Nat}(h:En T k):uM T sm fr f x k=.ok (x,k):=by
 cases f with
 |zero=>rfl|succ f=>unfold uM;rw[if_neg (by have:=h.no.2.2.1;simp_all)]
def Ia.d40{t:Nd}(h:Ia 4 p t):Ia 0 p t:=⟨h.1.hd,λT k n hs hn hT he=>by
 have h1:=h.1.len;obtain⟨m,rfl⟩:∃m,n=m+1:=⟨n-1,ae⟩;have hc:=h.1.at hs;simp only[Px,qm,Bool.not_eq_true']at hc;have⟨nd,f',e,_,hr⟩:=h.2 T k m T.length hs hn hT hT;refine⟨nd,e,?_⟩;unfold bu;rw[hc.1.1.1.2,hc.1.1.2,hc.1.2,hc.2];show sQ T (sP T<|eY T<|cY T<|sm3 T m) k=_;have c1:cY T (sm3 T m) k=.ok (nd,k+p.length):=by unfold cY;rw[hr,Py he]
 have c2:eY T (cY T<|sm3 T m) k=.ok (nd,k+p.length):=by unfold eY;simp only[aX,c1,Pz he]
 have c3:sP T (eY T<|cY T<|sm3 T m) k=.ok (nd,k+p.length):=by unfold sP;simp only[aX,c2,WQ he]
 unfold sQ;simp only[aX,c3,he.no.2.2.2]
 rfl⟩
def Ia.d50{t:Nd}(h:Ia 5 p t):Ia 0 p t:=h.d54.d40
def iL(x:Ky):Nd:=es<|dG<|Fg x 0 0
def Ia.leaf{x:Ky}(h:∀f g,Px (Fg x f g)=true/\aU (Fg x f g) sH=false):Ia 5 [x] (iL x):=by
 refine⟨⟨x,[],rfl,λf g=>(h f g).1⟩,λT k n hs _ _=>⟨dG<|tk T k,?_,?_⟩⟩
 .rw[fq<|tk T k,hs.hd];rfl
 .have hb:Px (tk T k)=true/\aU (tk T k) sH=false:=by rw[fq<|tk T k,hs.hd];exact h _ _
  simp only[Px,qm]at hb;show aJ T _ _ 3 k=_;rw[aJ];rw[hb.1.1.1.1.1,hb.2];rfl
def fZ(h:fC (tk T k)=(5,l)):bm T ⟨l.toArray⟩ k=.ok ((),k+1):=by
 rw[bm];rw[abE,h,decide_eq_true rfl];rfl
def Sa(h:fC (tk T k)=(n,l)):dd T n k=.ok (tk T k,k+1)/\(tk T k).text=⟨l.toArray⟩:=by
 have h1:(tk T k).kind=n:=congrArg Prod.fst h;refine⟨by rw[dd];rw[h1];simp,toList_inj ?_⟩;exact(congrArg Prod.snd h).trans (toList_mk l).symm
def r8{x:Ky}(h:fC (tk T k)=x)(hx:x≠(5,l)):aU (tk T k) ⟨l.toArray⟩=false:=by
 rw[abE,h,decide_eq_false hx]
def qP(h:fC (tk T k)=(5,l)):aU (tk T k) ⟨l.toArray⟩=true:=by
 rw[abE,h,decide_eq_true rfl]
def OC{x:Ky}(h:fC (tk T k)=x)(hv:x∈stops):En T k:=by rw[En];rw[h];exact hv
def CV:Nd:=.mk 5 ph 0 [] 0 0 0
def aai(x y:Nd):Nd:=.mk 6 ph 0 [x,y] 0 0 0
def tFn(s:BA)(x:Nd):Nd:=.mk 9 s 0 [x] 0 0 0
section
variable {z:Nd}
def tUp(s:BA)(L:List Nd):Nd:=.mk 2 s 0 L 0 0 0
def xN(v:Nat)(p:List Ky)(t:Nd):Prop:=match v with
 |5=>(∃x r,p=x::r/\∀f g,aF (Fg x f g) 2=true)/\∀T k n,jN T k p->p.length<=n+1->p.length<=T.length+1->RdT (sm2 T n) k p t|_=>(∃s r,p=(2,s)::r)/\∀T k n f,jN T k p->p.length<=n+1->p.length<=T.length+1->p.length<=f+1->∃nd f',es nd=t/\f+1<=f'+p.length/\aX (sm2 T n) (dw T (sm2 T n) 2 f) k=dw T (sm2 T n) 2 f' nd (k+p.length)
def xN.leaf{x:Ky}(h:∀f g,aF (Fg x f g) 2=true/\aU (Fg x f g) sH=false):xN 5 [x] (iL x):=by
 refine⟨⟨x,[],rfl,λf g=>(h f g).1⟩,λT k n hs _ _=>⟨dG<|tk T k,?_,?_⟩⟩
 .rw[fq<|tk T k,hs.hd];rfl
 .have hb:aF (tk T k) 2=true/\aU (tk T k) sH=false:=by rw[fq<|tk T k,hs.hd];exact h _ _
  show aJ T _ _ 2 k=_;rw[aJ];rw[hb.1,hb.2];rfl
def xN.up(s:List UInt8):xN 4 [(2,s)] (tUp ⟨s.toArray⟩ []):=by
 refine⟨⟨s,[],rfl⟩,λT k n f hs hn hT hf=>?_⟩;have⟨nd,e,hr⟩:=(xN.leaf (x:=(2,s)) λ_ _=>⟨qkr,qkr⟩).2 T k n hs hn hT;exact⟨nd,f,e,ah,by rw[aX];rw[hr]⟩
def aiu(a b:Nd)(u:Nat)(s:BA)(L:List Nd)(h:es a=tUp s L):es (a.add b u)=tUp s (L++[es b]):=by
 obtain⟨k,s',n,L',f,t,a⟩:=a;simp only[es,tUp,Nd.mk.injEq]at h;obtain⟨rfl,h1,_,rfl,_⟩:=h;simp at h1;subst h1;simp[Nd.add,es,Tj,Hz,tUp]
def xN.arg{L:List Nd}(h:xN 4 p (tUp s L))(h':xN 5 q y):xN 4 (p++q) (tUp s<|L++[y]):=by
 obtain⟨⟨s0,r,rfl⟩,h⟩:=h;refine⟨⟨s0,r++q,rfl⟩,λT k n f hs hn hT hf=>?_⟩;simp only[dr]at hn hT hf;obtain⟨⟨y0,r0,rfl,b8⟩,h'⟩:=h';have n2:1<=(y0::r0).length:=ah;have⟨nd,f',e,hff,hr⟩:=h T k n f hs.left ae ae ae;have⟨nd2,e2,Eu⟩:=h' T _ n hs.right ae ae;obtain⟨g,rfl⟩:∃g,f'=g+1:=⟨f'-1,ae⟩;refine⟨nd.add nd2<|aR T<|k+((2,s0)::r).length+(y0::r0).length,g,by rw[aiu _ _ _ s L e,e2],by simp only[dr];omega,?_⟩;rw[hr];show(if _ then _ else _)=_;rw[if_pos (by rw[fq<|tk T _,hs.right.hd];exact b8 _ _)];rw[aX];rw[Eu,dr,<-Nat.add_assoc]
def Xq(A:List (Nd×Nd)):List (Nd×Nd):=A.map λp=>(es p.1,es p.2)
end
section
open Un
def aal(c:UInt8)(h1:j6 c.toNat=false)(h2:qd c.toNat=false)(h3:j7 c.toNat=false)(h4:c.toNat≠39)(h5:c.toNat≠45)(h6:Pu.wK c.toNat=true)(h7:Pu.cB c.toNat=false):Lx false [c] [(5,[c])]:=by
 intro s i hs hi _;have⟨h0,e⟩:=hs.hd;refine mU hs hi h0 (by rw[e];exact h7) ?_;rw[j9];rw[e,h1,h2,h3,h6,if_neg ah,if_neg ah,if_neg ae,if_neg ah,if_neg ae,if_pos rfl];rfl
def OE(x:UInt8)(r:List UInt8)(hx:j6 x.toNat=true)(hr:∀y∈r,j3 y.toNat=true):Lx true (x::r) [(if j8 ⟨(x::r).toArray⟩=true then 5 else 1,x::r)]:=by
 intro s i hs hi hn;have⟨h0,h1⟩:=hs.hd
 have he:=hs.end_ (p:=j3) (λy hy=>by
  obtain rfl|hy:=List.mem_cons.1 hy
  .simp[j3,hx]
  .exact hr y hy) (hn rfl)
 have hx2:s.extract i (i+(x::r).length)=⟨(x::r).toArray⟩:=wL (by rw[hs.ext ae,toList_mk]);refine mU hs hi h0 ?_ ?_
 .rw[h1];simp[j6]at hx;simp[Pu.cB];omega
 .rw[j9];rw[h1,he,hx2,if_pos hx];split<;>rfl
def EG.lx(h:EG s):Lx true s.toList [(2,s.toList)]:=by
 obtain⟨x,r,e,h1,h2⟩:=h;rw[e];exact Dg x r h1 h2
def NmV.lx(h:NmV s):Lx true s.toList [(3,s.toList)]:=by
 obtain⟨x,r,e,h1,h2,h3⟩:=h;rw[e];exact aiv x r h1 h2 h3
def Sc(x:UInt8)(r:List UInt8)(hx:j6 x.toNat=true)(hr:∀y∈r,j3 y.toNat=true)(hw:j8 ⟨(x::r).toArray⟩=true):Lx true (x::r) [(5,x::r)]:=by
 have:=OE x r hx hr;rw[hw]at this;simpa using this
def aaf(x:UInt8)(r:List UInt8)(hx:j7 x.toNat=true)(hr:∀y∈r,j7 y.toNat=true)(hl:r.length<=8):Lx true (x::r) [(4,x::r)]:=by
 intro s i hs hi hn;have⟨h0,h1⟩:=hs.hd;have hq:j7 (Pu.at_ s<|i+1+r.length)=false:=by
  have:=hn rfl;simp only[de]at this;rw[show i+(r.length+1)=i+1+r.length by omega]at this;rw[j3]at this;simp at this;exact this.2
 have he:=hs.tl.end_ (p:=j7) hr hq;have hd:48<=x.toNat/\x.toNat<=57:=by simpa[j7]using hx
 refine mU hs hi h0 ?_ ?_
 .rw[h1];simp[Pu.cB];omega
 .rw[j9];rw[h1,he,if_neg (by simp[j6];omega),if_neg (by simp[qd];omega),if_neg ae,if_pos hx,if_pos ae];simp[Nat.add_assoc,Nat.add_comm 1]
def Lx.pre(h:Lx false F K)(h':Lx b l p):Lx b (F++l) (K++p):=h.OB h' (λe=>by cases e)
def Lx.mid{m:List UInt8}{x:UInt8}{r:List UInt8}(h:Lx true l p)(hF:Lx false F K)(e:F=x::r)(hx:j3 x.toNat=false)(h':Lx b m q):Lx b (l++(F++m)) (p++(K++q)):=
 h.OB (hF.pre h') (λ_=>⟨x,r++m,by rw[e];rfl,hx⟩)
def Lx.post{x:UInt8}{r:List UInt8}(h:Lx true l p)(hF:Lx b F K)(e:F=x::r)(hx:j3 x.toNat=false):Lx b (l++F) (p++K):=h.OB hF<|λ_=>⟨x,r,e,hx⟩
def n9(h:Lx b l p):Lx b (32::l) p:=lP.pre h
def sgB(c:UInt8):Bool:= !j6 c.toNat&& !qd c.toNat&& !j7 c.toNat&&c.toNat !=39&&c.toNat !=45&&Pu.wK c.toNat&& !Pu.cB c.toNat
def Tl(c:UInt8)(h:sgB c=true):Lx false [c] [(5,[c])]:=by
 simp only[sgB,qm,Bool.not_eq_true',bne_iff_ne,ne_eq]at h;exact aal c h.1.1.1.1.1.1 h.1.1.1.1.1.2 h.1.1.1.1.2 h.1.1.1.2 h.1.1.2 h.1.2 h.2
def kwB(x:UInt8)(r:List UInt8):Bool:=j6 x.toNat&&r.all (λy=>j3 y.toNat)&&j8 ⟨(x::r).toArray⟩
def aah(x:UInt8)(r:List UInt8)(h:kwB x r=true):Lx true (x::r) [(5,x::r)]:=by
 simp only[kwB,qm,List.all_eq_true]at h;exact Sc x r h.1.1 h.1.2 h.2
def KN(x:UInt8)(r:List UInt8)(h:kwB x r=true):Lx false (x::r++[32]) [(5,x::r)]:=(aah x r h).post lP rfl aA
def Fb:Lx false [40] [Jy]:=Gt 40 ah
def zZ:Lx false [41] [jM]:=Gt 41 ah
def ahL:Lx false [44,32] [Pw]:=(Gt 44 ah).pre lP
def aan:Lx false [61] [yEq]:=Tl 61 qkr
def agd:Lx false [32,61,32] [yEq]:=n9<|aan.pre lP
def aac:Lx false [32,124,32] [E_]:=n9<|(Tl 124 qkr).pre lP
def ahK:Lx false [95] [ahJ]:=Tl 95 qkr
def Fc:Lx false [59] [kI]:=Tl 59 qkr
def ahN:Lx false [102,117,110,32] [aee]:=KN 102 [117,110] qkr
def ahM:Lx false [108,101,116,32] [aed]:=KN 108 [101,116] qkr
def aao:Lx false [109,97,116,99,104,32] [Ab]:=KN 109 [97,116,99,104] qkr
def RZ:Lx false [116,121,112,101,32] [Jx]:=KN 116 [121,112,101] qkr
def aeg:Lx false [32,119,105,116,104,32] [Dk]:=n9<|KN 119 [105,116,104] qkr
def aeb:Lx true [116,114,117,101] [aag]:=aah 116 [114,117,101] qkr
def qN(p:List Ky)(t:Nd):=(∃c r,p=c::r/\c≠(5,[41]))/\∀T k n,jN T k p->p.length<=n->p.length<=T.length+1->aF (tk T<|k+p.length) 2=false->RdT (b_ T n) k p t
def DK{x:Nd}(h:aF (tk T k) 2=false):dw T sm 2 f x k=.ok (x,k):=by
 cases f with
 |zero=>rfl|succ f=>unfold dw;rw[h];rfl
def qN.d4(h:xN 4 p x):qN p x:=by
 obtain⟨⟨s,r,rfl⟩,h⟩:=h;refine⟨⟨_,_,rfl,ah⟩,λT k n hs hn hT he=>?_⟩;obtain⟨m,rfl⟩:∃m,n=m+1:=⟨n-1,by simp at hn;omega⟩;have⟨nd,f',e,_,hr⟩:=h T k m T.length hs hn hT hT;refine⟨nd,e,?_⟩;unfold b_ iM;have hk:(tk T k).kind=2:=congrArg Prod.fst hs.hd;rw[hk];show aX (sm2 T m) (dw T (sm2 T m) 2 T.length) k=_;rw[hr,DK he]
def qN.d5(h:xN 5 p x):qN p x:=by
 obtain⟨⟨c,r,rfl,hb⟩,h⟩:=h;refine⟨⟨c,r,rfl,λe=>by subst e;have:=hb 0 0;rw[show aF (Fg (5,[41]) 0 0) 2=false by kernel_rfl]at this;cases this⟩,λT k n hs hn hT he=>?_⟩;obtain⟨m,rfl⟩:∃m,n=m+1:=⟨n-1,by simp at hn;omega⟩;have⟨nd,e,hr⟩:=h T k m hs hn hT;refine⟨nd,e,?_⟩;unfold b_ iM;split
 .show aX (sm2 T m) _ k=_;unfold aX;rw[hr];exact DK he
 .exact hr
def Aa{c:Ky}(h:fC (tk T k)=c)(hc:aF (Fg c (tk T k).aD (tk T k).t9) 2=false):aF (tk T k) 2=false:=by rw[fq<|tk T k,h];exact hc
def qN.xU(h:qN p x):xN 5 (Jy::(p++[jM])) x:=by
 refine⟨⟨_,_,rfl,λ_ _=>qkr⟩,λT k n hs hn hT=>?_⟩;simp only[de,dr,eF]at hn hT;have h0:=hs.hd;have hp:=hs.tl.left;have hc:=hs.tl.right.hd;obtain⟨⟨c,r,rfl,hcl⟩,hr⟩:=h;have⟨nd,e,hr⟩:=hr T (k+1) n hp ae ae<|Aa hc qkr;refine⟨nd,e,?_⟩;have hb:aF (tk T k) 2=true:=by rw[fq<|tk T k,h0];kernel_rfl
 show aJ T _ _ 2 k=_;unfold aJ;rw[hb,qP h0];show fE T _ _ 2 _ (k+1)=_;unfold fE;rw[r8 hp.hd hcl];simp only[aX,hr,jU,r8 hc<|show jM≠(5,[44]) by decide,r8 hc<|show jM≠(5,[58]) by decide,KO _ hc];simp[Nat.add_assoc,Nat.add_comm 1]
def qN.pair(h:qN p x)(h':qN q y):xN 5 (Jy::(p++(Pw::(q++[jM])))) (aai x y):=by
 refine⟨⟨_,_,rfl,λ_ _=>qkr⟩,λT k n hs hn hT=>?_⟩;simp only[de,dr,eF]at hn hT;have h0:=hs.hd;have hp:=hs.tl.left;have hm:=hs.tl.right.hd;have hq:=hs.tl.right.tl.left;have hc:=hs.tl.right.tl.right.hd;obtain⟨⟨c,r,rfl,hcl⟩,hr⟩:=h;have⟨nd,e,hr⟩:=hr T (k+1) n hp ae ae<|Aa hm qkr;have⟨nd2,e2,Eu⟩:=h'.2 T _ n hq ae ae<|Aa hc qkr;refine⟨.mk 6 ph 0 [nd,nd2] (tk T k).aD (aR T<|k+1+(c::r).length+1+q.length+1) (tk T k).aD,by simp[es,Hz,e,e2,aai],?_⟩;have hb:aF (tk T k) 2=true:=by rw[fq<|tk T k,h0];kernel_rfl
 show aJ T _ _ 2 k=_;unfold aJ;rw[hb,qP h0];show fE T _ _ 2 _ (k+1)=_;unfold fE;rw[r8 hp.hd hcl];simp only[aX,hr,jU,qP hm,Eu,KO _ hc];simp;omega
structure TdF(t:j5)(vs:List j5)(ms:List Nd):Prop where
 up:m0 t.text
 vn:(vs.map (·.text)).Nodup
 vl:vs.length<=900
 vq:∀v∈vs,UT v.text
 ml:ms.length<=900
 mt:∀i(h:i<ms.length),∃s n L f u a,ms[i]=.mk 2 s n L f u a/\L.length<=900/\∀k(hk:k<L.length),Ll L[k]/\(eJ (vs.map (·.text)) L[k]).2=vs.map (·.text)/\eJ (vs.map (·.text)) (es L[k])=eJ (vs.map (·.text)) L[k]
structure MkFine(mk:In.Mks):Prop where
 sz:∀x tk m,mk x=some (tk,m)->size (In.arr tk m)<=1000
 wh:∀x tk m,mk x=some (tk,m)->Whole (In.arr tk m)
 vs:∀x tk m,mk x=some (tk,m)->∀n,aG n (In.arr tk m)->aG n m
def In.MF(mk:In.Mks):=∀x tk m,mk x=some (tk,m)->Jz tk/\Wf m
namespace In
open Classical in
mutual
noncomputable def trim:Ty->Ty
 |.var n=>.var n|.aM c l=>if MD c l.length then .aM c (DZ l)else .var 0
noncomputable def DZ:List Ty->List Ty
 |[]=>[]|t::l=>trim t::DZ l
end
def D5(σ:Nat->Ty):∀l,(ba σ l).length=l.length
 |[]=>rfl|t::l=>by simp[ba,D5 σ l]
mutual
def AQ{θ:Nat->Ty}:∀t,Wf t->trim (sub θ t)=sub (λv=>trim<|θ v) t
 |.var n,_=>rfl|.aM c l,h=>by
  simp only[sub,trim];rw[if_pos (by rw[D5];exact h.1),D6 l h.2]
def D6{θ:Nat->Ty}:∀l,Jz l->DZ (ba θ l)=ba (λv=>trim<|θ v) l
 |[],_=>rfl|t::l,h=>by simp only[ba,DZ];rw[AQ t h.1,D6 l h.2]
end
mutual
def TK{σ:Nat->Ty}:∀t,sub σ t=trim t->Wf t
 |.var n,_=>trivial|.aM c l,h=>by
  simp only[sub,trim]at h;by_cases q:MD c l.length
  .rw[if_pos q]at h;injection h with _ h;exact⟨q,Lp l h⟩
  .rw[if_neg q]at h;cases h
def Lp{σ:Nat->Ty}:∀l,ba σ l=DZ l->Jz l
 |[],_=>trivial|t::l,h=>by
  simp only[ba,DZ]at h;injection h with h1 h2;exact⟨TK t h1,Lp l h2⟩
end
def BT.wf{θ}{b:Ty}(h:BT θ a b)(ha:Wf a)(hb:Wf b)v:Wf (θ v):=by
 refine TK _<|h.gen (λv=>trim<|θ v) ?_ v;rw[<-AQ a ha,<-AQ b hb,h.one]
def oQ n:Wf (.var n):=trivial
theorem qI{σ}{t:Ty}(h:Wf t)(k:∀n,Wf<|σ n):Wf (sub σ t):=Wf.Cf t h λn _=>k n
def FtF(z:Ft):Prop:=z.f.kind=7\/z.f.kind=6/\(Wf z.l/\size z.l<=48)/\Wf z.r/\size z.r<=48
def KF(s:St):=∀n,Wf<|s.k n
def EF(Γ:Env):=∀y c,Γ y=some c->Wf c.of
def Hf{α:Type}(m:MM α)s(Q:α->Prop):=∀o,m s o->match o with
 |.ok (a,s')=>Q a/\KF s'|.error z=>FtF z
section
variable {s:St}
def Hf.ret{a}{Q:α->Prop}(h:Q a)(k:KF s):Hf (eQ a) s Q:=by grind[KF,Hf,eQ]
def Hf.and{m}{g}{Q:α->Prop}{R:β->Prop}(h:Hf m s Q)(k:∀a s',Q a->KF s'->Hf (g a) s' R):Hf (andM m g) s R:=by grind[Hf,KF,andM]
def Hf.no{Q:α->Prop}:Hf noM s Q:=λ_ q=>q.elim
def Hf.ite{c:Prop}[Decidable c]{m m'}{Q:α->Prop}(h:c->Hf m s Q)(k:¬c->Hf m' s Q):Hf (if c then m else m') s Q:=Mn
def GP f t:FtF (tK f t):=.inl rfl
def AU(k:KF s):Hf qK s λ_=>True:=by simp_all[KF,Hf,qK]
def TL(k:KF s){b:Ty}(ha:Wf a)(hb:Wf b)f t:Hf (UN a b f t) s λ_=>True:=λo q=>by
 have h1:=qI ha k;have h2:=qI hb k;obtain⟨_,rfl⟩|⟨z1,z2,⟨θ,hm,rfl⟩|⟨_,rfl⟩⟩:=q
 .exact GP f t
 .exact⟨trivial,λn=>qI (k n)<|hm.wf h1 h2⟩
 .exact .inr ⟨rfl,⟨h1,z1⟩,h2,z2⟩
def TN(k:KF s)l ρ:Hf (zP l ρ) s λ_=>True:=by simp_all[KF,Hf,zP]
def aco{t:Ty}ρ(h:Wf t):Wf (sub (via ρ) t):=by grind[Wf,sub,via,qI]
def TO(k:KF s){t:Ty}(h:Wf t)ρ:Hf (nV t ρ) s λq=>Wf q.1:=(TN k _ _).and λdu _ _ k1=>.ret (aco du h) k1
def aiP(k:KF s)(xR:EF Γ)x f t:Hf (Ca Γ x f t) s Wf:=by
 unfold Ca
 cases hx:Γ x with
 |none=>exact .no|some c=>
  rintro o(⟨_,rfl⟩|⟨_,ρ,s',hd,rfl⟩)
  .exact GP f t
  .exact⟨aco ρ<|qI (xR x c hx) k,(TN k _ _ _ hd).2⟩
def acp:Wf n_:=⟨⟨aA,λe=>(by obtain e|e:=e<;>exact absurd e aA),.inr<|.inr ⟨_,_,toList_mk _,aA,aA⟩⟩,trivial⟩
def afh:Wf kJ:=⟨⟨aA,λe=>(by obtain e|e:=e<;>exact absurd e aA),.inr<|.inr ⟨_,_,toList_mk _,aA,aA⟩⟩,trivial⟩
def Rs:Wf CV:=⟨⟨aA,λe=>(by obtain e|e:=e<;>exact absurd e aA),.inr<|.inr ⟨_,_,toList_mk _,aA,aA⟩⟩,trivial⟩
def alB{b:Ty}(ha:Wf a)(hb:Wf b):Wf (tFn a b):=⟨⟨aA,λ_=>rfl,.inl rfl⟩,ha,hb,trivial⟩
def alC{b:Ty}(ha:Wf a)(hb:Wf b):Wf (tPr a b):=⟨⟨aA,λ_=>rfl,.inr<|.inl rfl⟩,ha,hb,trivial⟩
end
def EF.set(h:EF Γ)x{c}(hc:Wf c.of):EF (dN Γ x c):=λy d q=>by
 unfold dN at q;split at q
 .grind
 .exact h y d q
theorem EF.over{g Γ}(hg:EF g)(h:EF Γ):EF (over g Γ):=by grind[EF,over]
def PF(p:PM):=∀g s,KF s->EF g->Hf (p g) s λq=>Wf q.1/\EF q.2
def XF(p:EM):=∀Γ s,KF s->EF Γ->Hf (p Γ) s Wf
def Sw{p:Prop}(h:p:=by
 unfold rf;by_cases hi:i<ps.length
 .rw[jd,List.getElem?_eq_getElem hi];exact h _<|ja hi
 .rw[jd,List.getElem?_eq_none ae];intro _ _ _ _;exact .no):p:=h
def acq{ps}(h:∀p∈ps,PF p)i:PF (rf ps i):=by
 exact Sw
def aiQ{ps}(h:∀p∈ps,XF p)i:XF (rf ps i):=by
 exact Sw
def TQ:∀(tk:List Ty)(L:List Nd)(ps:List PM),Jz tk->(∀p∈ps,PF p)->∀(g:Env)(ρ:Rn)(s:St),KF s->EF g->Hf (p8 tk L ps g ρ) s λq=>EF q.1
 |u::tk,x::L,p::ps,hw,hp,g,ρ,s,k,hg=>by
  unfold p8;refine(hp p ah g s k hg).and λq s1⟨t1,g1⟩k1=>?_;refine(TO k1 hw.1 ρ).and λi s2 t2 k2=>?_;refine(TL k2 t1 t2 _ _).and λ_ s3 _ k3=>?_;exact TQ tk L ps hw.2 (λp h=>hp p<|by simp[h]) q.2 i.2 s3 k3 g1
 |[],_,_,_,_,g,ρ,s,k,hg=>.ret hg k|_::_,[],_,_,_,g,ρ,s,k,hg=>.ret hg k|_::_,_::_,[],_,_,g,ρ,s,k,hg=>.ret hg k
def aiR{mk:Mks}(hm:MF mk)k x L ps(hp:∀p∈ps,PF p):PF (xP mk k x L ps):=by
 intro g s h hg;unfold xP;split
 .exact(AU h).and λv s1 _ k1=>.ret ⟨trivial,hg⟩ k1
 split
 .exact(AU h).and λv s1 _ k1=>.ret ⟨trivial,hg.set _ trivial⟩ k1
 split
 .exact .ret ⟨acp,hg⟩ h
 split
 .exact .ret ⟨afh,hg⟩ h
 split
 .exact .ret ⟨Rs,hg⟩ h
 split
 .refine(acq hp 0 g s h hg).and λa s1⟨t1,g1⟩k1=>?_;refine(acq hp 1 _ s1 k1 g1).and λb s2⟨t2,g2⟩k2=>?_;exact .ret ⟨alC t1 t2,g2⟩ k2
 cases e:mk x with
 |none=>exact .no|some p=>
  obtain⟨tk,m⟩:=p;have⟨w1,w2⟩:=hm x tk m e;refine(TQ tk L ps w1 hp g My s h hg).and λq s1 g1 k1=>?_;refine(TO k1 w2 q.2).and λi s2 t2 k2=>?_;exact .ret ⟨t2,g1⟩ k2
mutual
def acr{mk:Mks}(hm:MF mk):∀nd,PF<|b_ mk nd
 |.mk k s n L f t a=>aiR hm k s L _<|TR hm L
def TR{mk:Mks}(hm:MF mk):∀L,∀p∈l_ mk L,PF p
 |[],p,h=>by simp[l_]at h|x::l,p,h=>by
  simp only[l_,jf]at h;obtain rfl|h:=h
  .exact acr hm x
  .exact TR hm l p h
end
def TS{mk:Mks}(hm:MF mk):∀(L:List Nd)(ps:List EM),(∀p∈ps,XF p)->∀(Γ:Env)(t r:Ty)(s:St),KF s->EF Γ->Wf t->Wf r->Hf (m_ mk Γ t r L ps) s λ_=>True
 |p::e::L,_::pe::ps,hp,Γ,t,r,s,h,xR,ht,hr=>by
  unfold m_;refine(acr hm p _ s h<|λ_ _ q=> eh).and λq s1⟨t1,g1⟩k1=>?_;refine(TL k1 ht t1 _ _).and λ_ s2 _ k2=>?_;refine(hp pe ah _ s2 k2<|g1.over xR).and λu s3 t3 k3=>?_;refine(TL k3 hr t3 _ _).and λ_ s4 _ k4=>?_;exact TS hm L ps (λp h=>hp p<|by simp[h]) Γ t r s4 k4 xR ht hr
 |[],_,_,_,_,_,s,h,_,_,_=>.ret trivial h|[_],_,_,_,_,_,s,h,_,_,_=>.ret trivial h|_::_::_,[],_,_,_,_,s,h,_,_,_=>.ret trivial h|_::_::_,[_],_,_,_,_,s,h,_,_,_=>.ret trivial h
def acs rc x e{pe:EM}(hp:XF pe):XF (boundM rc x e pe):=by
 intro Γ s h xR;unfold boundM
 cases rc with
 |false=>exact hp Γ s h xR|true=>
  refine(AU h).and λv s1 _ k1=>?_;refine(hp _ s1 k1<|xR.set x (c:=mono<|.var v)<|oQ v).and λt s2 t2 k2=>?_;exact(TL k2 (oQ v) t2 _ _).and λ_ s3 _ k3=>.ret t2 k3
def aiS{mk:Mks}(hm:MF mk)k x L f t ps(hp:∀p∈ps,XF p):XF (zG mk k x L f t ps):=by
 intro Γ s h xR;have h0:=aiQ hp 0;unfold zG;refine .ite (λ_=>?_) λ_=>?_
 .exact aiP h xR _ _ _
 refine .ite (λ_=>?_) λ_=>?_
 .exact .ret acp h
 refine .ite (λ_=>?_) λ_=>?_
 .refine(AU h).and λv s1 _ k1=>?_;exact(h0 _ s1 k1<|xR.set _ (c:=mono<|.var v)<|oQ v).and λa s2 t2 k2=>.ret (alB (oQ v) t2) k2
 refine .ite (λ_=>?_) λ_=>?_
 .refine(h0 Γ s h xR).and λa s1 t1 k1=>?_;refine(AU k1).and λv s2 _ k2=>?_;exact(TS hm L.tail ps.tail (λp h=>hp p<|List.mem_of_mem_tail h) Γ a _ s2 k2 xR t1<|oQ v).and λ_ s3 _ k3=>.ret (oQ v) k3
 .exact .no
mutual
def agw{mk:Mks}(hm:MF mk):∀nd,XF<|inf mk nd
 |.mk k s n L f t a=>aiS hm k s L f t _<|acu hm L
def acu{mk:Mks}(hm:MF mk):∀L,∀p∈sZ mk L,XF p
 |[],p,h=>by simp[sZ]at h|x::l,p,h=>by
  simp only[sZ,jf]at h;obtain rfl|h:=h
  .exact agw hm x
  .exact acu hm l p h
end
end In
end
section
open Go.ChangeMaps Go.MapKept
def MB(w:World)(b:Nat)(L:List (BA×Value)):=∃es clock,w.heap[b]? =some (.map es clock)/\es.toList.map (λe=>(e.key,e.val))=L.map (λp=>(qj p.1,p.2))/\(es.toList.map (·.born)).Nodup/\∀e∈es.toList,e.born<clock
section
variable {b:Nat}
def MB.ms(h:MB w b L):MS qj w b L:=by obtain⟨es,c,h1,h2,_⟩:=h;exact⟨es,c,h1,h2⟩
def MB.lt(h:MB w b L):b<w.heap.size:=h.ms.lt
def MB.same(h:MB w b L)(hb:w'.heap[b]? =w.heap[b]?):MB w' b L:=by obtain⟨es,c,h1,h2⟩:=h;exact⟨es,c,hb.trans h1,h2⟩
def MB.new(w:World):MB (w.alloc<|.map #[] 0) w.heap.size []:=⟨#[],0,(qu w _).1,rfl,ah,ah⟩
def wJ(l:List MapEntry)j f(hf:∀e,(f e).born=e.born):(l.modify j f).map (·.born)=l.map (·.born):=by
 induction l generalizing j with
 |nil=>cases j<;>simp|cons e r ih=>grind
def MB.put(h:MB w b L)x v:∃o,(Instr.mapUpdate 143 (Mv b) (.string x) v).run qg w=.ok () (setBlock w b o)/\MB (setBlock w b o) b (bn x v L):=by
 obtain⟨es,clock,hb,rY,hn,hk⟩:=h;have K:=KL.str (P:=qg) qh;have hf:=K.fin x L es.toList w trivial (λ_ _=>trivial) rY;rw[Instr.mapUpdate];simp only[Sem.run_bind,run_underlying Tryz.underlying143,qr,MapKept.run_getObj_map hb,K.chk,hf]
 cases Ju:Df x L 0 with
 |none=>
  refine⟨.map (es.push {key:=Sv x,val:=v,born:=clock})<|clock+1,by rw[Ju]at hf;simp[hf,qr];exact qt _ hb,_,_,(heap_setBlock_same hb _),?_,?_,?_⟩
  .rw[n8 x v L<|zX x L 0 Ju];simp[rY]
  .simp only[Array.toList_push,List.map_append,jh,List.map_nil];rw[List.nodup_append];refine⟨hn,ah,?_⟩;intro a ha c hc;obtain⟨e,he,rfl⟩:=List.mem_map.1 ha;simp only[List.mem_singleton]at hc;have:=hk e he;omega
  .grind
 |some p=>
  obtain⟨j,u⟩:=p;have⟨_,e0,h2,h3,h4⟩:=N' (enc:=Sv) x v L es.toList 0 j u rY Ju;have ZC:es[j]? =some e0:=by simpa using h2
  refine⟨.map (es.modify j λe=>{e with key:=Sv x,val:=v}) clock,?_,_,_,(heap_setBlock_same hb _),by simpa using h4,?_,?_⟩
  .rw[Ju]at hf;simp[hf,qr,ZC,h3,Instr.keyThatStays,K.bit];exact qt _ hb
  .rw[qp,wJ es.toList j (λe=>{e with key:=Sv x,val:=v}) (λ_=>rfl)];exact hn
  .intro e he;have:e.born∈(es.modify j λe=>{e with key:=Sv x,val:=v}).toList.map (·.born):=ji he;rw[qp,wJ es.toList j (λe=>{e with key:=Sv x,val:=v}) (λ_=>rfl)]at this;have⟨e',h1,h2⟩:=List.mem_map.1 this;rw[<-h2];exact hk e' h1
def Ih{ops}{rest}{o}{a}{Q}(hg:o.guard=none)m x v(tI:o.op=Op.insert 143 m x v\/o.op=Op.mapUpdate 143 m x v)(hm:a.eval m=Mv b)(hM:MB w b L)key val(hx:a.eval x=.string key)(hv:a.eval v=val)(hK:∀w',MB w' b (bn key val L)->One b w w'->wpList qg ops Q rest (a.put o.dst undef) w'):
 wpList qg ops Q (o::rest) a w:=by
 refine wpList_plain hg λK' hK'=>?_;have⟨ob,lT,r1⟩:=hM.put key val;rw[Oper.wp];obtain tI|tI:=tI<;>
 .simp[execOp,tI,hm,hx,hv,lT,qr];exact hK' _ _<|hK _ r1<|One.set w b ob
end
def GM w b p:=∃L,MB w b L/\(L.map (·.1)).Nodup/\∀x,bd x L=if nD x p then some (Iv 1)else none
def Pp(h:(L.map (·.1)).Nodup):((bn s v L).map (·.1)).Nodup:=by
 have hm:∀(L:List (BA×Value))x,x∈(bn s v L).map (·.1)->x=s\/x∈L.map (·.1):=by
  intro L x
  induction L with
  |nil=>simp[bn]|cons p r ih=>
   rw[bn];split
   .grind
   .grind
 induction L with
 |nil=>simp[bn]|cons p r ih=>
  simp only[jh,jl]at h;rw[bn];split
  .rename_i e;simp only[jh,jl];exact⟨e▸h.1,h.2⟩
  .rename_i e;simp only[jh,jl];refine⟨λq=>?_,ih h.2⟩;obtain q|q:=hm r _ q
   .exact e q
   .exact h.1 q
section
variable {b:Nat} {p:List BA}
def GM.lt(h:GM w b p):b<w.heap.size:=qAr
def GM.same(h:GM w b p)(hb:w'.heap[b]? =w.heap[b]?):GM w' b p:=qAs
theorem GM.bn(h2:(L.map (·.1)).Nodup)(h:∀x,bd x L=if nD x p then some (Iv 1)else none)(hM:MB w' b (Go.Proofs.YtopmodaakdnliaaGreatDoor.bn s (Iv 1) L)):GM w' b (p++[s]):=by
 refine⟨_,hM,Pp h2,λx=>?_⟩;rw[aN,h x];have e:nD x (p++[s])=(nD x p||decide (s=x)):=by unfold nD;rw[List.any_append];simp only[List.any_cons,List.any_nil,Bool.or_false]
 rw[e];by_cases q:s=x
 .simp[q]
 .simp[q]
def GM.new(w:World):GM (w.alloc<|.map #[] 0) w.heap.size []:=⟨[],MB.new w,ah,λx=>by simp[bd,nD]⟩
end
end
section
open Go.ChangeMaps
def AD:∀l m,fS (l++m)=fS l++fS m
 |[],m=>rfl|x::l,m=>by simp[fS,AD l m]
def abw{p:List BA}{L:List Nd}(h:(p++fS L).Nodup)(hj:j<L.length):(p++fS (L.take j)++kB L[j]).Nodup/\fS (L.take<|j+1)=fS (L.take j)++kB L[j]:=by
 have e:fS (L.take<|j+1)=fS (L.take j)++kB L[j]:=by rw[jc hj,AD];simp[fS]
 refine⟨?_,e⟩;rw[<-List.take_append_drop (j+1) L,AD,<-jj]at h;rw[jj,<-e];exact(List.nodup_append.1 h).1
def MkA(mks:In.Mks)(mk:BA->Option Nat):=∀s tk m,mks s=some (tk,m)->mk s=some tk.length
section
variable {lo:BA->Nat} {p:List BA}
def PP.frB(h:PP w (·<B) nd v)(k:Fr S w w')(hB:∀b,b<B->¬S b):PP w' (·<B) nd v:=h.move k.size (λb p z=>k.block b z<|hB b p)<|λ_ p _=>p
def PPC nd:=∀(w:World)(cb tb mb lb gb B:Nat)(ty mk:BA->Option Nat)(lo:BA->Nat)(v:Value)(p:List BA)(mks:In.Mks)(nl:List BA),CK w cb tb mb lb ty mk lo->B<=gb->PP w (·<B) nd v->GM w gb p->(gb≠cb/\gb≠tb/\gb≠mb/\gb≠lb)->oX mks nl nd->(p++kB nd).Nodup->MkA mks mk->nn nd<=5000->
 Cq 208 #[cp cb,v,Mv gb] w λe w'=>e=.returned (.tuple #[])/\Fr (λb=>b=gb) w w'/\GM w' gb (p++kB nd)
def UO:∀nd,PPC nd:=by
 refine Nd.ind ?_;intro k s n L fr t a Ml w cb tb mb lb gb B ty mk lo v p mks nl h hBg HA hg hn hs yS hM hN;have Hh:∀b,b<B->b≠gb:=λb hb q=>ae;have mn:=hg.lt;have hG:=ai hg;have CKF:∀{W:World},Fr (λb=>b=gb) w W->CK W cb tb mb lb ty mk lo:=λk=>h.fr k λb q=>by subst q;exact hn
 simp only[nn]at hN
 cases HA with
 |any _ _ _ _ _|num _ _ _ _ _|word _ _ _ _ _ _|unit _ _ _ _ _=>
  rw[show p++kB _=p by simp[kB,fS]];go_enter func208,ntmps208
  go_wp2
  go_end0;exact⟨rfl,Fr.refl _ _,hG⟩
 |low=>cases hs with|leaf _ _ _ _ _ _ hk=>omega
 |pr _ _ x y _ _ _ vx vy HA hy=>
  obtain⟨hsx,hsy⟩:oX mks nl x/\oX mks nl y:=by
   cases hs with
   |pr _ _ _ _ _ _ _ h1 h2=>exact⟨h1,h2⟩
  have e0:p++kB (.mk 6 s n [x,y] fr t a)=p++kB x++kB y:=by simp[kB,fS]
  rw[e0]at yS⊢;simp only[cV]at hN;obtain⟨u1,x1,rfl⟩:=HA.iface;obtain⟨u2,x2,rfl⟩:=hy.iface;have HB:=ai<|(Below.refl w.heap.size w).alloc (br _)<|Cv #[Nv fr,Nv t,Fv u1<|Av x1,Fv u2<|Av x2] 208;have B1:=ai<|Bx.new w #[Nv fr,Nv t,Fv u1<|Av x1,Fv u2<|Av x2] 208;have HC:=Ml x ah _ cb tb mb lb gb B ty mk lo _ p mks nl (h.af HB) hBg (HA.af HB) (hg.same<|HB.block gb mn) hn hsx (List.nodup_append.1 yS).1 hM ae;have⟨c1,f1,y1⟩:=uh B1;go_enter func208,ntmps208;go_wp2_with fail;refine HC.mono ?_;rintro e w2⟨rfl,k2,g2⟩;have F2:=ai<|(Fr.of HB).trans k2;have⟨c2,f2,y2⟩:=B1.fr k2 ae;have XI:=Ml y ah _ cb tb mb lb gb B ty mk lo _ _ mks nl (CKF F2) hBg (hy.frB F2 Hh) g2 hn hsy yS hM ae;clear k2 g2 HC c1 f1 y1;go_wp2_with fail;refine XI.mono ?_;rintro e w3⟨rfl,k3,g3⟩;have F3:=ai<|F2.trans k3;have G3:=ai g3;clear k3 g3 XI
  go_wp2
  go_end0;exact⟨rfl,F3,G3⟩
 |up _ _ _ _ _ _ y sa sc vs hu hy aE hr=>
  obtain⟨Hi,hsr⟩:mk s=some L.length/\∀i(h:i<L.length),oX mks nl L[i]:=by
   cases hs with
   |up _ _ _ _ _ _ tk m h1 h2 h3=>exact⟨by rw[h2];exact hM _ _ _ h1,h3⟩|leaf _ _ _ _ _ _ h=>omega
  have e0:kB (.mk 2 s n L fr t a)=fS L:=by simp[kB]
  rw[e0]at yS⊢;have hL:=Gr L;have HB:=ai<|(Below.refl w.heap.size w).alloc (br _)<|Cv #[Nv fr,Nv t,Nv a,Nv y,Sv s,Lv sa L.length sc] 185;have B1:=ai<|Bx.new w #[Nv fr,Nv t,Nv a,Nv y,Sv s,Lv sa L.length sc] 185;have⟨c1,f1,y1⟩:=uh B1;have⟨c2,f2,y2⟩:=(h.af HB).bx;have HT:=λW(k:Bq w W)=>Th (v:=Mv mb) (Or.inr ⟨mb,rfl,(h.af k).m⟩) Hi;have HND:=ai yS;clear hy yS hs h hg e0;go_enter func208,ntmps208
  go_wp2
  go_region_with(go_at_call 207;refine(HT _ HB.drew).mono ?_;rintro e w2⟨rfl,rfl⟩)
  all_goals(
   go_wp2
   go_loopg[49] L.length (λgk c wr=>∃j:Nat,Hid (gk=L.length-j)/\j<=L.length/\c=Nv j/\Fr (λb=>b=gb) w wr/\GM wr gb (p++fS (L.take j))/\Bx wr w.heap.size #[Nv fr,Nv t,Nv a,Nv y,Sv s,Lv sa L.length sc])
   case atStart=>exact⟨0,ai rfl,ju _,rfl,Fr.of HB.drew,by simpa[fS]using hG.same (HB.drew.block gb mn),B1.nE⟩
   case round=>
    clear c1 f1 y1 c2 f2 y2;obtain⟨j,bE,hj,rfl,hF,hg,hB4⟩:=hrel;have BR:=ai hB4;have XF:=ai hF;have XG:=ai hg;clear hF hg;obtain⟨c1,f1,y1⟩:=hB4;by_cases aZ:j<L.length
    .have hd:(j:Int)<(L.length:Int):=ae;obtain⟨g,rfl,hgB,air,hc⟩:=aE.resolve_left λe=>by subst e;simp at aZ
     have hcj:=(qe (a:=⟨g,j,none⟩)<|XF.block g air<|Hh g hgB).trans<|hc j aZ;have⟨q1,q2⟩:=abw (uh HND) aZ;have HC:=Ml L[j] (ja aZ) _ cb tb mb lb gb B ty mk lo (vs j) _ mks nl (CKF XF) hBg ((hr j aZ).frB XF Hh) XG hn (hsr j aZ) q1 hM (by have:=xV<|ja aZ;omega);rw[jj,<-q2]at HC;clear hc q1 q2;go_wp2_with fail;refine HC.mono ?_;rintro e w2⟨rfl,k2,g2⟩;have F4:=ai<|XF.trans k2;have G4:=ai g2;have B4:=ai<|BR.fr k2 ae;clear k2 g2
     go_wp2
     go_roundg(L.length-(j+1))
     case measure=>rw[uh bE];omega
     case rel=>exact⟨j+1,ai rfl,ae,d_,F4,G4,B4⟩
    .have hd:decide ((j:Int)<(L.length:Int))=false:=bi;rw[List.take_of_length_le ae]at XG
     go_wp2
     go_end0
     exact⟨rfl,XF,XG⟩)
end
end
section
open Go.ChangeMaps Go.MapKept
def IT(w:World)(r gb:Nat)(p done:List BA)cnt:=∃(es:Array MapEntry)(clock since:Nat)(seen:Array Nat)(c0:Nat)(L:List (BA×Value)),w.heap[gb]? =some (.map es clock)/\es.toList.map (λe=>(e.key,e.val))=L.map (λp=>(qj p.1,p.2))/\(es.toList.map (·.born)).Nodup/\(∀e∈es.toList,e.born<since)/\since<=c0/\since<=clock/\w.heap[r]? =some (.mapIter (some gb) since seen c0)/\(L.map (·.1)).Nodup/\(∀x,bd x L=if nD x p then some (Iv 1)else none)/\(leftOf es seen).size=cnt/\∀e∈es.toList,∀x,e.key=.string x->(seen.contains e.born=true↔x∈done)
def Gs{x:BA}:∀{L:List (BA×Value)},(bd x L).isSome=true↔x∈L.map (·.1)
 |[]=>by simp[bd]|p::l=>by
  rw[bd];split
  .rename_i e;simp[e]
  .rename_i e;rw[Gs (L:=l)];simp only[jh,jf];exact⟨Or.inr,λq=>q.elim (λq=>absurd q.symm e) id⟩
def aeS{es:List MapEntry}(h:es.map (λe=>(e.key,e.val))=L.map (λp=>(qj p.1,p.2))):es.map (·.key)=(L.map (·.1)).map qj:=by
 have:=congrArg (List.map Prod.fst) h;simpa[List.map_map,Function.comp_def]using this
def IT.same{r:Nat}{p:List BA}{cnt}(h:IT w r gb p done cnt)(h1:w'.heap[gb]? =w.heap[gb]?)(h2:w'.heap[r]? =w.heap[r]?):IT w' r gb p done cnt:=by
 obtain⟨es,clock,since,seen,c0,L,a1,a2,a3,a4,a5,a6,a7,a8⟩:=h;exact⟨es,clock,since,seen,c0,L,h1.trans a1,a2,a3,a4,a5,a6,h2.trans a7,a8⟩
def IT.lt{r:Nat}{p:List BA}{cnt}(h:IT w r gb p done cnt):gb<w.heap.size/\r<w.heap.size/\gb≠r:=by
 obtain⟨es,clock,since,seen,c0,L,a1,a2,a3,a4,a5,a6,a7,a8⟩:=h;refine⟨(Array.getElem?_eq_some_iff.1 a1).1,(Array.getElem?_eq_some_iff.1 a7).1,λe=>?_⟩;rw[e,a7]at a1
 cases a1
def GM.range{p:List BA}(h:GM w gb p):∃o cnt,(Instr.range 143<|Mv gb).run qg w=.ok (Pv w.heap.size) (w.alloc o)/\IT (w.alloc o) w.heap.size gb p [] cnt:=by
 obtain⟨L,⟨es,clock,a1,a2,a3,a4⟩,a5,a6⟩:=h;have aZ:=(Array.getElem?_eq_some_iff.1 a1).1;refine⟨_,_,run_range_map w 143 _ _ gb es clock Tryz.underlying143 a1,es,clock,clock,#[],clock,L,((qu w _).2 _ aZ).trans a1,a2,a3,a4,br _,br _,heap_alloc_new w _,a5,a6,rfl,λe he x hx=>ah⟩
def IT.next{r:Nat}{p:List BA}{cnt}(h:IT w r gb p done cnt):((∀x,nD x p=true->x∈done)/\(∀x,x∈done->nD x p=true->True)/\(Instr.next (Pv r) false 0).run qg w=.ok (.tuple #[.bool false]) w)\/
 ∃x v w1 aC,x∉done/\nD x p=true/\(Instr.next (Pv r) false 0).run qg w=.ok (.tuple #[.bool true,.string x,v]) w1/\IT w1 r gb p (x::done) aC/\aC<cnt/\Fr (λb=>b=r) w w1/\w1.heap.size=w.heap.size/\(Instr.entry<|Pv r).run qg w1=.ok (.tuple #[.string x,v]) w1:=by
 have⟨hg1,hr1,cJ⟩:=h.lt;obtain⟨es,clock,since,seen,c0,L,a1,a2,a3,a4,a5,a6,a7,a8,a9,a10,a11⟩:=h;have abx:=aeS a2;rcases run_next_at (P:=qg) w 0 r gb since c0 seen es clock a7 a1 a4 a5 with⟨h0,lT⟩|⟨e,he,w1,ud,lT⟩
 .left;refine⟨λx hx=>?_,λ_ _ _=>trivial,lT⟩;have hin:=Gs.1 (by rw[a9 x,hx];rfl);have:Sv x∈es.toList.map (·.key):=Mn;have⟨e,he,hk⟩:=List.mem_map.1 this;exact(a11 e he x hk).1 (all_seen es seen h0 e he)
 .right;have⟨X',he2⟩:=mem_left he;obtain⟨x,hx⟩:∃x,e.key=Sv x:=by
   have:e.key∈es.toList.map (·.key):=ji X';rw[abx]at this;have⟨x,_,q⟩:=List.mem_map.1 this;exact⟨x,q.symm⟩
  have hxL:x∈L.map (·.1):=by
   have:e.key∈es.toList.map (·.key):=ji X';rw[abx,hx]at this;have⟨y,hy,q⟩:=List.mem_map.1 this
   cases q;exact hy
  have yS:x∉done:=λq=>by
   have:=(a11 e X' x hx).2 q;rw[he2]at this;cases this
  have hp:nD x p=true:=by
   have:=Gs.2 hxL;rw[a9 x]at this
   cases hq:nD x p with
   |true=>rfl|false=>grind
  have Pq:w1.heap=w.heap:=by obtain rfl|rfl:=ud<;>rfl
  have b1:∀k,k≠r->(setBlock w1 r<|.mapIter (some gb) since (seen.push e.born) clock).heap[k]? =w.heap[k]? :=λk hk=>by
   have:(setBlock w1 r<|.mapIter (some gb) since (seen.push e.born) clock).heap[k]? =w1.heap[k]? :=by simp[setBlock,qn,Ne.symm hk]
   rw[this,Pq]
  have b2:(setBlock w1 r<|.mapIter (some gb) since (seen.push e.born) clock).heap[r]? =some (.mapIter (some gb) since (seen.push e.born) clock):=by
   have Eu:r<w1.heap.size:=by rw[Pq];exact hr1
   simp[setBlock,qn,Eu]
  have kX:(setBlock w1 r<|.mapIter (some gb) since (seen.push e.born) clock).heap.size=w.heap.size:=by simp[setBlock,Pq]
  have hnk:(es.toList.map (·.key)).Nodup:=Mn;refine⟨x,e.val,_,_,yS,hp,by rw[lT,hx],⟨es,clock,since,seen.push e.born,clock,L,(b1 gb cJ).trans a1,a2,a3,a4,a6,a6,b2,a8,a9,rfl,λe' he' y hy=>?_⟩,by rw[<-a10];exact left_shrinks es seen e he,⟨by obtain rfl|rfl:=ud<;>rfl,by obtain rfl|rfl:=ud<;>rfl,by obtain rfl|rfl:=ud<;>rfl,by rw[kX];exact br _,λk _ hk=>b1 k hk⟩,kX,?_⟩
  .rw[contains_push];simp only[Bool.or_eq_true,beq_iff_eq,jf];constructor
   .rintro(q|q)
    .grind
    .have:e'=e:=born_inj a3 he' X' q;rw[this,hx]at hy
     cases hy;exact Or.inl rfl
   .rintro(q|q)
    .right;have:e'=e:=by
      have hk:e'.key=e.key:=by rw[hy,hx,q]
      exact entry_eq_of_key (by rw[List.Nodup,List.pairwise_map]at hnk;exact hnk) he' X' hk
     rw[this]
    .grind
  .have:=run_entry_at (P:=qg) (setBlock w1 r<|.mapIter (some gb) since (seen.push e.born) clock) r gb since seen es clock e b2 ((b1 gb cJ).trans a1) X' a3;rw[hx]at this;exact this
structure CE cb tb mb lb ty mk lo w0 wr:Prop where
 d:CK wr cb tb mb lb ty mk lo
 k:Fr (λb=>b=lb) w0 wr
section
variable {lo Ye:BA->Nat} {w0 wr:World} {p:List BA}
def CE.af(h:CE cb tb mb lb ty mk lo w0 wr)(hb:Bq wr w'):CE cb tb mb lb ty mk lo w0 w':=⟨h.d.af hb,h.k.trans<|Fr.of hb⟩
def CE.fr(h:CE cb tb mb lb ty mk lo w0 wr)(k:Fr (λb=>b=lb) wr w')(d:CK w' cb tb mb lb ty mk Ye):CE cb tb mb lb ty mk Ye w0 w':=⟨d,h.k.trans k⟩
def CE.put(h:CE cb tb mb lb ty mk lo w0 wr)(o:One lb wr w')(hM:MS qj w' lb L)(hL:∀x,bd x L=some (Nv<|Ye x)\/(bd x L=none/\Ye x=0)):CE cb tb mb lb ty mk Ye w0 w':=
 ⟨⟨h.d.bx.one o h.d.n.2.2.1,h.d.t.same<|o.block tb h.d.n.2.2.2.2.1,h.d.m.same<|o.block mb h.d.n.2.2.2.2.2,⟨L,hM,hL⟩,h.d.n⟩,h.k.trans ⟨o.os,o.tape,o.output,qAg,λb _ hn=>o.block b hn⟩⟩
def CE.frN(h:CE cb tb mb lb ty mk lo w0 wr){r}(k:Fr (λb=>b=r) wr w')(n:r≠cb/\r≠tb/\r≠mb/\r≠lb)(hr:w0.heap.size<=r):CE cb tb mb lb ty mk lo w0 w':=
 ⟨h.d.fr k λb q=>by subst q;exact n,h.k.trans' k<|λb q=>Or.inr (by have q:b=r:=q;omega)⟩
def PE.frB(h:PE w (·<B) nd v)(k:Fr S w w')(hB:∀b,b<B->¬S b):PE w' (·<B) nd v:=h.move k.size (λb p z=>k.block b z<|hB b p)<|λ_ p _=>p
structure MkT(mks:In.Mks)(mk ty:BA->Option Nat):Prop where
 a:MkA mks mk
 t:mks ⟨#[78]⟩≠none->ty=adl
def PXC nd:=∀(w:World)(cb tb mb lb B:Nat)(ty mk:BA->Option Nat)(lo:BA->Nat)(v:Value)(mks:In.Mks)(nl:List BA)(dom:BA->Prop),CK w cb tb mb lb ty mk lo->B<=lb->PE w (·<B) nd v->tQ mks nl dom nd->(∀x,dom x->lo x≠0)->MkT mks mk ty->(∀x,lo x+nn nd<=5000)->
 Cq 126 #[cp cb,v] w λe w'=>e=.returned (.tuple #[])/\Fr (λb=>b=lb) w w'/\CK w' cb tb mb lb ty mk lo
def loU(lo:BA->Nat)done:=λx=>lo x+if nD x done then 1 else 0
def loD(lo:BA->Nat)done:=λx=>lo x-if nD x done then 1 else 0
def Yf{x:BA}(h:x∉done):(λy=>if y=x then loU lo done x+1 else loU lo done y)=loU lo (x::done):=by grind[loU,nD]
def Yg{x:BA}(h:x∉done):(λy=>if y=x then loD lo done x-1 else loD lo done y)=loD lo (x::done):=by grind[loD,nD]
def Ic{p}(h1:∀x,nD x p=true->x∈done)(h2:∀x∈done,nD x p=true)x:nD x done=nD x p:=by grind[nD]
def UPR cb tb mb lb ty mk(lo:List BA->BA->Nat)w0 r gb p gk wr:=∃done,IT wr r gb p done gk/\(∀x∈done,nD x p=true)/\CE cb tb mb lb ty mk (lo done) w0 wr
def SC{p:Prop}(h:p:=by
 have I5:=HI1.same (O3.block gb hn.2.2.2)<|O3.block _ hrn.2.2.2;go_roundg aC
 case measure=>exact Ie
 case rel=>exact⟨x::done,I5,by intro y hy;obtain rfl|q:=List.mem_cons.1 hy;exact HXP;exact HD y q,X5⟩):p:=h
def Ig(HE:PXC nd)(h:CK w cb tb mb lb ty mk lo)(Yh:B<=lb)(hx:PE w (·<B) nd v)(hg:GM w gb p)(hn:gb≠cb/\gb≠tb/\gb≠mb/\gb≠lb)(hs:tQ mks nl (λv=>dom v\/v∈p) nd)(hl:∀x,dom x->lo x≠0)(hM:MkT mks mk ty)(gJ:∀x,lo x+1+nn nd<=5000):
 Calls qg 124 #[cp cb,.map<|some gb,v] w λe w'=>e=.returned (.tuple #[])/\Fr (λb=>b=lb) w w'/\CK w' cb tb mb lb ty mk lo:=by
 have⟨o,cnt,hrg,ni⟩:=hg.range;have iK:Below w.heap.size w (w.alloc o):=bw _;have X0:CE cb tb mb lb ty mk lo w (w.alloc o):=⟨h.af iK,Fr.of iK⟩;have⟨z1,z2,z3,z4⟩:=h.lts;have HI:=ai ni;have mn:=hg.lt;have Hh:∀b,b<B->¬b=lb:=λb hb q=>ae;obtain⟨t1,x1,rfl⟩:=hx.iface;go_enter func124,ntmps124
 go_wp2
 go_loopg[] cnt (λgk wr=>UPR cb tb mb lb ty mk (loU lo) w w.heap.size gb p gk wr)
 case atStart=>exact⟨[],HI,ah,by have:=X0;exact this⟩
 case round=>
  obtain⟨done,ni,hdn,hX⟩:=hrel;have XR:=ai hX;have HI:=ai ni;have HD:=ai hdn;have hsw:=hX.k.size;have hiz:=ni.lt;obtain⟨ha,-,MW⟩|⟨x,u,w1,aC,hxd,Yi,MW,Yj,aZ,BE,kX,hen⟩:=HI.next
  .have eL:loU lo done=λx=>lo x+if nD x p then 1 else 0:=by funext y;rw[loU];rw[Ic ha HD y]
   rw[eL]at XR;obtain⟨lo2,Yk⟩:∃lo2,Hid<|lo2=λx=>lo x+if nD x p then 1 else 0:=⟨_,ai rfl⟩;rw[<-uh Yk]at XR
   have HC:=HE wr cb tb mb lb B ty mk lo2 _ mks nl _ XR.d Yh (hx.frB XR.k Hh) hs (λx q=>by
    rw[uh Yk];obtain q|q:=q
    .have:=hl x q;show lo x+_≠0;omega
    .show lo x+(if nD x p=true then 1 else 0)≠0;rw[adm.2 q];simp) hM (λx=>by rw[uh Yk];have:=gJ x;show lo x+(if nD x p=true then 1 else 0)+nn nd<=5000;split<;>omega)
   have GR:=hg.same<|XR.k.block gb mn hn.2.2.2;go_wp2_with fail;refine HC.mono ?_;rintro e w2⟨rfl,k2,d2⟩;have X2:=ai<|XR.fr k2 d2;have G2:=GR.same<|k2.block gb hiz.1 hn.2.2.2;have⟨o2,dI,anP,HI2⟩:=G2.range;have X3:Hid (CE cb tb mb lb ty mk lo2 w<|w2.alloc o2):=ai<|X2.af<|bw _;have z2w:=X2.k.size
   go_wp2
   go_loopg[] dI (λgk wr=>UPR cb tb mb lb ty mk (loD lo2) w w2.heap.size gb p gk wr)
   case atStart=>exact⟨[],HI2,ah,by have:=uh X3;exact this⟩
   case round=>
    obtain⟨done,HI,HD,XR⟩:=hrel;have hsw:=XR.k.size;have hiz:=HI.lt;obtain⟨ha,-,MW⟩|⟨x,u,w1,aC,HXD,HXP,MW,HI1,aZ,HFR,kX,hen⟩:=HI.next
    .have eL:loD lo2 done=lo:=by
      funext y;rw[loD];rw[Ic ha HD y,uh Yk];show lo y+(if nD y p=true then 1 else 0)-(if nD y p=true then 1 else 0)=lo y;omega
     rw[eL]at XR
     go_wp2
     go_end0;exact⟨rfl,XR.k,XR.d⟩
    .have hrn:w2.heap.size≠cb/\w2.heap.size≠tb/\w2.heap.size≠mb/\w2.heap.size≠lb:=⟨ae,ae,ae,ae⟩;have X4:=XR.frN HFR hrn ae;obtain⟨N,hN⟩:∃N,Hid<|N=loD lo2 done x:=⟨_,ai rfl⟩;have hl:=X4.d.l.look x;rw[<-uh hN]at hl;have⟨L,HM,HL⟩:=X4.d.l;have hN5:1<=N/\N<=6000:=by
      have h1:=gJ x;have h2:=adn.2 HXD;have h3:N=lo x+1:=by rw[uh hN,uh Yk];rw[loD];rw[h2];simp[HXP]
      omega
     have hN6:(1:Int)<=(N:Int):=ae;have hN7:(N:Int)<=6000:=ae;have⟨c1,f1,y1⟩:=X4.d.bx;have Ie:=aZ;go_wp2_with(refine aY _ rfl _ _ _ _ (Or.inr rfl) (KL.str qh) Tryz.underlying143 _ _ rfl HM x (.int .i64<|(N:Int)-1) rfl rfl trivial (λ_ _=>trivial) ?_;intro w3 H' O';have M3:=ai H';have O3:=ai O';clear H' O');have hv:(ql .i64<|(N:Int)-1)=.int .i64 ((N-1:Nat):Int):=by rw[Int.natCast_sub hN5.1];rfl
     rw[hv]at M3;have X5:=X4.put O3 M3<|LM.put HL x<|N-1;rw[uh hN,Yg HXD]at X5;exact SC
  .have hrn:w.heap.size≠cb/\w.heap.size≠tb/\w.heap.size≠mb/\w.heap.size≠lb:=⟨ae,ae,ae,ae⟩;have X4:=XR.frN BE hrn<|br _;obtain⟨N,hN⟩:∃N,Hid<|N=loU lo done x:=⟨_,ai rfl⟩;have hl:=X4.d.l.look x;rw[<-uh hN]at hl;have⟨L,HM,HL⟩:=X4.d.l;have hN7:(N:Int)<=6000:=by
    have h1:=gJ x;have h2:N=lo x+(if nD x done then 1 else 0):=uh hN;have h3:(if nD x done=true then 1 else 0)<=1:=by split<;>omega
    omega
   have⟨c1,f1,y1⟩:=X4.d.bx;have HI1:=ai Yj;have HXD:=ai hxd;have HXP:=ai Yi;have Ie:=aZ;go_wp2_with(refine aY _ rfl _ _ _ _ (Or.inr rfl) (KL.str qh) Tryz.underlying143 _ _ rfl HM x (.int .i64<|(N:Int)+1) rfl rfl trivial (λ_ _=>trivial) ?_;intro w3 H' O';have M3:=ai H';have O3:=ai O';clear H' O');have hv:(ql .i64<|(N:Int)+1)=.int .i64 ((N+1:Nat):Int):=rfl;rw[hv]at M3;have X5:=X4.put O3 M3<|LM.put HL x<|N+1;rw[uh hN,Yf HXD]at X5;exact SC
end
section
variable {lo:BA->Nat}
def ajx x y s:Cq 125 #[.agg #[Iv x,Iv y,.string s]] w λe w'=>∃gb,e=.returned (Mv gb)/\w.heap.size<=gb/\Bq w w'/\GM w' gb [s]:=by
 have g_:= @run_makeMap Tryz.prog;have cU:Bq w ((w.alloc<|Cv #[Iv x,Iv y,Sv s] 71).alloc<|.map #[] 0):=(bw _).alloc ah _;have M0:MB ((w.alloc<|Cv #[Iv x,Iv y,Sv s] 71).alloc<|.map #[] 0) (w.heap.size+1) []:=(by have:=MB.new<|w.alloc<|Cv #[Iv x,Iv y,Sv s] 71;simpa using this);have HB:=ai cU;have B1:=(Bx.new w #[Iv x,Iv y,Sv s] 71).alloc<|.map #[] 0;obtain⟨c1,f1,y1⟩:=B1;go_enter func125,ntmps125;go_wp2_with(refine Ih rfl _ _ _ (Or.inl rfl) rfl M0 s (Iv 1) rfl rfl ?_;intro w3 H' O';have M3:=ai H';have O3:=ai O';clear H' O');go_ret;exact⟨_,rfl,Nat.le_succ _,One.below HB O3<|Nat.le_succ _,GM.bn (p:=[]) ah (λx=>by simp[bd,nD]) M3⟩
abbrev bdA r x y s v:=#[.bool r,Iv x,Iv y,.string s,v]
def ado(HE:PXC nd)(h:CK w cb tb mb lb ty mk lo)(Yh:B<=lb)(hx:PE w (·<B) nd v)(hs:tQ mks nl dom nd)(hl:∀x,dom x->lo x≠0)(hM:MkT mks mk ty)(gJ:∀x,lo x+nn nd<=5000)x y s:
 Cq 85 #[cp cb,.agg<|bdA false x y s v] w λe w'=>e=.returned (.tuple #[])/\Fr (λb=>b=lb) w w'/\CK w' cb tb mb lb ty mk lo:=by
 have iK:Bq w (w.alloc<|Cv (bdA false x y s v) 75):=bw _;have X0:Hid (CE cb tb mb lb ty mk lo w<|w.alloc<|Cv (bdA false x y s v) 75):=ai ⟨h.af iK,Fr.of iK⟩;have HC:=ai<|HE _ cb tb mb lb B ty mk lo _ mks nl dom X0.d Yh (hx.af iK) hs hl hM gJ;obtain⟨t1,x1,rfl⟩:=hx.iface;have⟨c0,f0,y0⟩:=Bx.new w (bdA false x y s<|Fv t1<|Av x1) 75;clear h hx iK;go_enter func85,ntmps85;go_wp2_with fail;refine HC.mono ?_;rintro e w2⟨rfl,k2,d2⟩;have X2:=ai<|X0.fr k2 d2;clear k2 d2 HC
 go_wp2
 go_end0;exact⟨rfl,X2.k,X2.d⟩
end
section
variable {lo:BA->Nat}
def agH{A}{vp ve:Nat->Value}(HA:∀q∈A,PXC q.2)(h:CK w cb tb mb lb ty mk lo)(Yh:B<=lb)(hgB:g<B)(hg:g<w.heap.size)(hc:∀i,i<A.length->(∃u v,w.cell? ⟨g,i*4,none⟩=some (Iv u)/\w.cell? ⟨g,i*4+1,none⟩=some (Iv v))/\w.cell? ⟨g,i*4+2,none⟩=some (vp i)/\w.cell? ⟨g,i*4+3,none⟩=some (ve i))(hp:∀i(h:i<A.length),PP w (·<B) A[i].1<|vp i)(he:∀i(h:i<A.length),PE w (·<B) A[i].2<|ve i)(Ii:∀i(h:i<A.length),oX mks nl A[i].1/\(kB A[i].1).Nodup)(hse:∀i(h:i<A.length),tQ mks nl (λv=>dom v\/v∈kB A[i].1) A[i].2)(hl:∀x,dom x->lo x≠0)(hM:MkT mks mk ty)(gJ:∀x,lo x+1+cV (bh A)<=5000)(hL:A.length<=5000):
 Cq 179 #[cp cb,.slice (some ⟨g,0,none⟩) A.length sc] w λe w'=>e=.returned (.tuple #[])/\Fr (λb=>b=lb) w w'/\CK w' cb tb mb lb ty mk lo:=by
 have g_:= @run_makeMap Tryz.prog;have HE:=ai he;have Hh:∀b,b<B->¬b=lb:=λb hb q=>ae;have⟨z1,z2,z3,z4⟩:=h.lts;have X0:CE cb tb mb lb ty mk lo w w:=⟨h,Fr.refl _ _⟩;clear h he;go_enter func179,ntmps179
 go_wp2
 go_loopg[9] A.length (λgk c wr=>∃j:Nat,Hid (gk=A.length-j)/\j<=A.length/\c=Nv j/\CE cb tb mb lb ty mk lo w wr)
 case atStart=>exact⟨0,ai rfl,ju _,rfl,X0⟩
 case round=>
  clear X0;obtain⟨j,bE,hj,rfl,hX⟩:=hrel;have XR:=ai hX;have hsw:=hX.k.size;clear hX;by_cases aZ:j<A.length
  .have hd:(j:Int)<(A.length:Int):=ae;have jE:∀o,wr.cell? ⟨g,o,none⟩=w.cell? ⟨g,o,none⟩:=λo=>qe (a:=⟨g,o,none⟩)<|XR.k.block g hg<|Hh g hgB;have⟨⟨u,v,d0,d1⟩,d2,d3⟩:=hc j aZ;rw[<-jE]at d0 d1 d2 d3;have⟨t1,x1,e1⟩:=(hp j aZ).iface;have⟨t2,x2,e2⟩:=(HE j aZ).iface;have P1:=hp j aZ;have E1:=HE j aZ;rw[e1]at d2 P1;rw[e2]at d3 E1;have hnn:=Qm A j aZ;have iK:Bq wr ((wr.alloc<|Cv #[Iv u,Iv v,Fv t1<|Av x1,Fv t2<|Av x2] 117).alloc<|.map #[] 0):=(bw _).alloc ah _;have X1:=XR.af iK;have B1:=ai<|(qi wr #[Iv u,Iv v,Fv t1<|Av x1,Fv t2<|Av x2] 117).alloc<|.map #[] 0;have G1:GM ((wr.alloc<|Cv #[Iv u,Iv v,Fv t1<|Av x1,Fv t2<|Av x2] 117).alloc<|.map #[] 0) (wr.heap.size+1) []:=(by have:=GM.new<|wr.alloc<|Cv #[Iv u,Iv v,Fv t1<|Av x1,Fv t2<|Av x2] 117;simpa using this);have hn4:wr.heap.size+1≠cb/\wr.heap.size+1≠tb/\wr.heap.size+1≠mb/\wr.heap.size+1≠lb:=⟨ae,ae,ae,ae⟩;have HC:=ai (UO A[j].1 _ cb tb mb lb (wr.heap.size+1) B ty mk lo _ [] mks nl X1.d ae (P1.frB X1.k Hh) G1 hn4 (Ii j aZ).1 (Ii j aZ).2 hM.a (by have:=gJ lA;omega));have HA2:=HA A[j]<|ja aZ;have⟨c1,f1,y1⟩:=uh B1;clear iK jE e1 e2;go_wp2_with fail;refine HC.mono ?_;rintro e w3⟨rfl,k3,G3⟩;have X3:=X1.frN k3 hn4 ae;have B3:=ai<|B1.fr k3<|λq=>ae
   have XI:=Ig HA2 X3.d Yh (E1.frB X3.k Hh) G3 hn4 (hse j aZ) hl hM (λx=>by have:=gJ x;omega);clear k3 HC c1 f1 y1 d0 d1 d2 d3;have⟨c1,f1,y1⟩:=uh B3;go_wp2_with fail;refine XI.mono ?_;rintro e w4⟨rfl,k4,d4⟩;have X4:=X3.fr k4 d4
   go_wp2
   go_roundg(A.length-(j+1))
   case measure=>rw[uh bE];omega
   case rel=>exact⟨j+1,ai rfl,ae,d_,X4⟩
  .have hd:decide ((j:Int)<(A.length:Int))=false:=bi
   go_wp2
   go_end0;exact⟨rfl,XR.k,XR.d⟩
end
section
variable {F:BA->Option Nat} {lo:BA->Nat}
def tR(hk:FM w kb F)(a b:Int)(n:Nat)(hF:F s=none):
 Cq 122 #[cp cb,Mv kb,.agg #[Iv a,Iv b,.string s],Nv n] w λe w'=>e=.returned (.tuple #[])/\Fr (λb=>b=kb) w w'/\FM w' kb (wX F s n):=by
 have iK:=(Below.refl w.heap.size w).alloc (br _)<|Cv #[Iv a,Iv b,Sv s] 71;have M1:=hk.below iK;have HC:=afN (v:=Mv kb) (Or.inr ⟨kb,rfl,M1⟩) s;rw[hF]at HC;simp only[Option.isSome_none]at HC;have HB:=ai iK;obtain⟨L,HM,HL⟩:=M1;have⟨c1,f1,y1⟩:=Bx.new w #[Iv a,Iv b,Sv s] 71;clear iK;go_enter func122,ntmps122;go_wp2_with fail;refine HC.mono ?_;rintro e w2⟨rfl,rfl⟩;go_wp2_with(refine aY _ rfl _ _ _ _ (Or.inr rfl) (KL.str Tryz.underlying9) Tryz.underlying143 _ _ rfl HM s (Nv n) rfl rfl trivial (λ_ _=>trivial) ?_;intro w4 H' O';have M4:=ai H';have O4:=ai O';clear H' O');go_end0;exact⟨rfl,(Fr.of HB).trans ⟨O4.os,O4.tape,O4.output,by rw[O4.size];exact br _,λb _ q=>O4.block b q⟩,_,M4,FM.put HL s n⟩
def CK.ajy(h:CK w cb tb mb lb ty mk lo)(k:Fr (λb=>b=tb) w w')(m:FM w' tb F):CK w' cb tb mb lb F mk lo:=
 ⟨h.bx.fr k h.n.1,m,h.m.same<|k.block mb h.m.lt h.n.2.2.2.1.symm,h.l.same<|k.block lb h.l.lt h.n.2.2.2.2.1.symm,h.n⟩
def CK.ajz(h:CK w cb tb mb lb ty mk lo)(k:Fr (λb=>b=mb) w w')(m:FM w' mb F):CK w' cb tb mb lb ty F lo:=
 ⟨h.bx.fr k h.n.2.1,h.t.same<|k.block tb h.t.lt h.n.2.2.2.1,m,h.l.same<|k.block lb h.l.lt h.n.2.2.2.2.2.symm,h.n⟩
end
end
namespace Ms
def Ck.below{M:List (So×Nat)}(h:Ck t M)(hb:∀x<n,(t,x)∈M):n<=M.length:=by
 have:=mX (jm n) (M.map (·.2)) List.nodup_range λx hx=>by rw[h.mem];exact hb x (by simpa using hx)
 simpa using this
def aiE{M:List (So×Nat)}(h:(t,n)∉M):∀f,yk M t f n=n
 |0=>rfl|f+1=>by simp[yk,h]
def ae7{M:List (So×Nat)}(h:(t,n)∈M):yk M t (f+1) n=yk M t f (n+1):=by simp[yk,h]
end Ms
def Tr{a:Nat}{x y m n:Value}{P:Prop}(C:Bx w' c #[x,y])(A:Bx w' a #[m,n])(h:P):w'.cell? ⟨c,0,none⟩=some x/\w'.cell? ⟨c,1,none⟩=some y/\w'.cell? ⟨a,0,none⟩=some m/\P:=⟨C.c 0,C.c 1,A.c 0,h⟩
def SkP(w:World)(s:Ms.Sk)(e:Ending)(w':World):=∃pa pc,e=.returned (.agg #[.string s.kd,Nv s.pl,.slice pa s.ps.length pc])/\Ms.nL pa s.ps.length pc/\Ms.aS w' (λb=>w.heap.size<=b) s.ps pa/\Bq w w'
def PC:Cq 102 #[.agg #[Mv kb,mv],.slice sa 0 sc] w (SkP w .any):=by
 have⟨b1,b2,b3⟩:=Bx.new (w.alloc<|Cv #[Mv kb,mv] 64) #[Sv ⟨#[]⟩,Iv 0,Lv none 0 0] 122;have K:Bq w ((w.alloc<|Cv #[Mv kb,mv] 64).alloc<|Cv #[Sv ⟨#[]⟩,Iv 0,Lv none 0 0] 122):=(bw _).alloc ah _;go_enter func102,ntmps102
 go_wp2
 exact bodyPost_ret (v:=Av #[Sv ⟨#[]⟩,Iv 0,Lv none 0 0]) (by simp[results,Tryz.results102,go_sem]) rfl ⟨none,0,rfl,⟨br _,λ_=>rfl⟩,trivial,K⟩
def WX{M:List (Ms.So×Nat)}(hv:Ms.VaM w kb)(h:Ms.Ya w (λ_=>True) sa ((t,n0)::M))(hM:Ms.Ck t ((t,n0)::M))(hH:Ms.NH t (Ms.yk ((t,n0)::M) t (M.length+1) 0))(hl:M.length<=900):Cq 102 #[.agg #[Mv kb,mv],.slice sa ((t,n0)::M).length sc] w (SkP w<|Ms.uz ((t,n0)::M)):=by
 obtain⟨W,hW⟩:∃W,W=((w.alloc<|Cv #[Mv kb,mv] 64).alloc<|Cv #[Sv ⟨#[]⟩,Iv 0,Lv none 0 0] 122).alloc (Cv #[Sv<|Ms.kS t,Iv 0] 119):=⟨_,rfl⟩;have K:Bq w W:=by rw[hW];exact((bw _).alloc ah _).alloc bi _
 have A0:Bx W w.heap.size #[Mv kb,mv]:=by rw[hW];exact((qi _ _ _).alloc _).alloc _
 have B0:Bx W (w.heap.size+1) #[Sv ⟨#[]⟩,Iv 0,Lv none 0 0]:=by
  rw[hW];have:=(qi (w.alloc<|Cv #[Mv kb,mv] 64) #[Sv ⟨#[]⟩,Iv 0,Lv none 0 0] 122).alloc<|Cv #[Sv<|Ms.kS t,Iv 0] 119;simpa using this
 have C0:Bx W (w.heap.size+2) #[Sv<|Ms.kS t,Iv 0]:=by
  rw[hW];have:=qi ((w.alloc<|Cv #[Mv kb,mv] 64).alloc<|Cv #[Sv ⟨#[]⟩,Iv 0,Lv none 0 0] 122) #[Sv<|Ms.kS t,Iv 0] 119;simpa using this
 obtain⟨g,rfl,_,hz,hc⟩:=id<|h.resolve_left ah;have BZ:w.cell? ⟨g,0,none⟩=some (Sv<|Ms.kS t):=(hc 0 ah).1;have hEm:Ms.uz ((t,n0)::M)=.hd t (Ms.yk ((t,n0)::M) t (M.length+1) 0) (Ms.eK (Ms.iR t<|Ms.yk ((t,n0)::M) t (M.length+1) 0).length):=rfl;have HE:=ai hEm;clear hEm hc;obtain⟨L,hL⟩:∃L,L=(t,n0)::M:=⟨_,rfl⟩;have UU:L.length=M.length+1:=by rw[hL];rfl
 rw[<-hL,<-UU]at HE hH;rw[<-hL]at h hM;rw[<-hL];have HL:=ai UU;have hl1:L.length<=1000:=ae;have Hm:(0:Int)<(L.length:Int):=ae;have hl3:((L.length:Int)==0)=false:=by simp;intro q;rw[q]at UU;simp at UU
 have H:=ai h;clear hL UU h;go_enter func102,ntmps102;go_wp2_with fail;rw[<-hW];clear hW;go_loopg[] L.length (λgk wr=>∃n:Nat,Hid (gk=L.length-n)/\n<=L.length/\Hid (∀x<n,(t,x)∈L)/\Hid (Ms.yk L t (L.length-n) n=Ms.yk L t L.length 0)/\Hid (Bq w wr)/\Bx wr w.heap.size #[Mv kb,mv]/\Bx wr (w.heap.size+1) #[Sv ⟨#[]⟩,Iv 0,Lv none 0 0]/\Bx wr (w.heap.size+2) #[Sv<|Ms.kS t,Nv n])
 case atStart=>exact⟨0,ai rfl,ju _,ai<|λx q=>absurd q<|jy _,ai rfl,ai K,A0,B0,C0⟩
 case round=>
  clear A0 B0 C0 K hl3 Hm BZ;obtain⟨n,bE,hn,hx,hgp,K,A0,B0,C0⟩:=hrel;have A1:=ai A0;have B1:=ai B0;have C1:=ai C0;obtain⟨c1,c2,c3⟩:=C0;have d0:=c1 0;have d1:=c1 1;have HCC:=wN (sc:=sc) ((uh H).af<|uh K) ae (t,n);clear A0 B0 c1;go_wp2_with fail;refine HCC.mono ?_;rintro e w1⟨rfl,k1⟩;have A2:=ai<|(uh A1).below k1;have B2:=ai<|(uh B1).below k1;have C2:=(uh C1).below k1;have C3:=ai C2;have K1:=ai<|(uh K).trans<|k1.mono (uh K).size;have z1:=(uh K1).size;clear A1 B1 C1 K HCC k1 c2 c3 d0 d1;obtain⟨c1,c2,c3⟩:=C2;by_cases hm:(t,n)∈L
  .have aZ:n+1<=L.length:=(hM.below λx q=>by by_cases e:x=n;exact e▸hm;exact uh hx x ae);have CC:decide ((t,n)∈L)=true:=by simpa using hm
   rw[CC]
   go_wp2
   go_roundg(L.length-(n+1))
   case measure=>rw[uh bE];omega
   case rel=>exact⟨n+1,ai rfl,aZ,ai (λx q=>by by_cases e:x=n;exact e▸hm;exact uh hx x ae),ai<|by rw[<-uh hgp,show L.length-n=(L.length-(n+1))+1 by omega,Ms.ae7 hm],ai<|(uh K1).setCell (by show w.heap.size<=w.heap.size+2;omega) _,(uh A2).gE ae _ _,(uh B2).gE ae _ _,(uh C3).mE 1 _ #[Sv<|Ms.kS t,.int .i64 ((n+1:Nat):Int)] ah ah⟩
  .have CC:decide ((t,n)∈L)=false:=by simpa using hm
   have hg:Ms.yk L t L.length 0=n:=by rw[<-uh hgp,Ms.aiE hm]
   rw[hg]at hH HE;have HE':=uh HE;rw[CC];have HE2:=ai HE';clear HE HE' hg hgp hx hm;have⟨fp,pb,fw,cw,q⟩:=hv t;have IR:=q.cf;have hk1:=ags;have UP:=Ms.ia t n;have Hi:=λw':World=>agq (n:=(Ms.iR t n).length) ae w';have d0:w1.cell? ⟨w.heap.size+2,0,none⟩=some (Sv<|Ms.kS t):=c1 0;have d1:w1.cell? ⟨w.heap.size+2,1,none⟩=some (Nv n):=c1 1;have d2:w1.cell? ⟨w.heap.size,0,none⟩=some (Mv kb):=(uh A2).c 0;have vC:=q.lk w1<|uh K1;have Vq:=q.lk;have Ef:=λw'(k:Bq w1 w')=>q.pt n hH w'<|(uh K1).trans<|k.mono z1;have HLK:=ai Vq;have HPT:=ai Ef;have wY:w.heap.size+2≠w.heap.size+1:=ae;have Mm:w.heap.size≠w.heap.size+1:=ae;have Qq:w.heap.size<=w.heap.size+1:=ae;clear Vq Ef q hv c1;generalize X7:(Ms.iR t n).length=NL at*;have HNL:=ai X7;clear X7
   go_wp2
   go_region_held3(λw'=>w'.cell? ⟨w.heap.size+2,0,none⟩=some (Sv<|Ms.kS t)/\w'.cell? ⟨w.heap.size+2,1,none⟩=some (Nv n)/\w'.cell? ⟨w.heap.size,0,none⟩=some (Mv kb)/\(Instr.lookup 61 (Mv kb) (Sv<|Ms.kS t) false).run qg w'=.ok (Av #[Iv<|Ms.cI t,.func (.func fp) #[] #[Pv pb],.func (.func fw) #[] cw]) w') (first|with_reducible exact Tr ((uh C3).below (qf _ _).drew) ((uh A2).below (qf _ _).drew) (uh HLK _ (uh K1).drew)|with_reducible exact Tr f5 f6 (uh HLK _ k3)|with_reducible exact Tr (f5.alloc _) (f6.alloc _) (uh HLK _<|k3.alloc k3.size _)|with_reducible exact Tr ((((f5.alloc _).gE wY _ _).gE wY _ _).gE wY _ _) ((((f6.alloc _).gE Mm _ _).gE Mm _ _).gE Mm _ _) (uh HLK _<|(((k3.alloc k3.size _).setCell Qq _).setCell Qq _).setCell Qq _)) (first
    |(refine(uh HPT _ (qf _ _).drew).mono ?_;rintro e w2⟨rfl,k2⟩;have nM:Bq w1 w2:=(qf _ _).drew.trans k2;have f5:=(uh C3).below nM;have f6:=(uh A2).below nM;have f0:=f5.c 0;have f1:=f5.c 1;have f2:=f6.c 0;have f7:=ai<|(uh B2).below nM;have f9:∀X o,(w2.alloc X).cell? ⟨w.heap.size+1,o,none⟩=_:=λX=>((uh f7).alloc X).c;have f8:∀X o,(w2.alloc X).frozen? ⟨w.heap.size+1,o,none⟩=_:=λX=>((uh f7).alloc X).f;have k3:=(uh K1).trans<|nM.mono z1))
   have BF:=ai<|((uh f7).alloc<|Cv (madeCells Ms.Gx<|NL*3) 122).pI rfl (Sv<|Ms.kS t) (Nv n) (Lv (some ⟨w2.heap.size,0,none⟩) NL NL);have KF:=ai<|(((k3.alloc k3.size<|Cv (madeCells Ms.Gx<|NL*3) 122).setCell (p:=⟨w.heap.size+1,0,none⟩) Qq<|Sv<|Ms.kS t).setCell (p:=⟨w.heap.size+1,1,none⟩) Qq<|Nv n).setCell (p:=⟨w.heap.size+1,2,none⟩) Qq<|Lv (some ⟨w2.heap.size,0,none⟩) NL NL;have z2:=k3.size;have SF:=ai (((((Ms.aS.zero w2 122 NL).up λb p _=>show w2.heap.size<=b from p).Ey (b:=w.heap.size+1) (λb p=>by have:w2.heap.size<=b:=p;have:=f5.z;omega) 0 (Sv<|Ms.kS t)).Ey (b:=w.heap.size+1) (λb p=>by have:w2.heap.size<=b:=p;have:=f5.z;omega) 1 (Nv n)).Ey (b:=w.heap.size+1) (λb p=>by have:w2.heap.size<=b:=p;have:=f5.z;omega) 2 (Lv (some ⟨w2.heap.size,0,none⟩) NL NL));clear f0 f1 f2 f5 f6 f7 f8 f9 k3 k2 nM;go_wp2_with fail;have⟨c4,f4,z4⟩:=uh BF;have e:(Ms.Sk.hd t n<|Ms.eK NL).ps.length=NL:=by simp[Ms.Sk.ps,Ms.eK]
   refine bodyPost_ret (v:=Av #[Sv<|Ms.kS t,Nv n,Lv (some ⟨w2.heap.size,0,none⟩) NL NL]) (by simp[results,Tryz.results102,go_sem,c4]) rfl ?_;rw[uh HE2];refine⟨some ⟨w2.heap.size,0,none⟩,NL,?_,⟨by rw[e];exact br _,λq=> eh⟩,(uh SF).up λb p _=>?_,uh KF⟩
   .rw[e];rfl
   .have p:w2.heap.size<=b:=p;show w.heap.size<=b;omega
namespace Ms
def Ld{p:Sk}(h:Sk.iE (p::r) (t::ts)):(lf (iR t n).length (p::r)).length<=ts.length+2:=by
 have h1:=fe h.2;have h2:=ia t n
 cases p with
 |any=>simp[lf,eK];omega|hd t' n' ps=>
  have h3:=fe h.1.2.2;have h4:=ia t' n';simp[lf];omega
def LoR(n:Nat)(w':World)(fa:Option Addr)(fn fc:Nat)(b:Bool):Option (List Sk)->Prop
 |none=>b=false|some f=>b=true/\fn=f.length/\nL fa f.length fc/\aS w' (λ_=>True) f fa/\∀ad,fa=some ad->n<=ad.block
def LoP(w:World)(o:Option (List Sk))(e:Ending)(w':World):=∃fa fn fc b,e=.returned (.tuple #[.slice fa fn fc,.bool b])/\Bq w w'/\LoR w.heap.size w' fa fn fc b o
def ab1{fa:Option Addr}{fn fc n':Nat}{o:Option (List Sk)}(h:n<=n')(k:LoR n' w' fa fn fc b o):LoR n w' fa fn fc b o:=by
 cases o with
 |none=>exact k|some f=>exact⟨k.1,k.2.1,k.2.2.1,k.2.2.2.1,λad q=>jo h<|k.2.2.2.2 ad q⟩
def LoC(m:Nat):=∀(w:World)(kb:Nat)(mv:Value)(ra:Option Addr)(rc:Nat)(R:List (List Sk))(wa:Option Addr)(wc:Nat)(wi:List Sk)(ts:List So),VaM w kb->RowV QR 1 w (λ_=>True) R (.slice ra R.length rc)->aS w (λ_=>True) wi wa->nL wa wi.length wc->(∀r∈R,Sk.iE r ts)->Sk.iE wi ts->2*(iw R+aK wi)+wi.length<m->ts.length+m<=400->R.length<=900->Cq 35 #[.agg #[Mv kb,mv],.slice ra R.length rc,.slice wa wi.length wc] w (LoP w<|lo m R wi)
def su{a:Option Addr}(c0:w.cell? ⟨g,0,none⟩=some (.slice a r.length k))(hs:nL a r.length k)(hm:aS w P r a):Q7 QR 1 w P [r] (some ⟨g,0,none⟩) 1:=by
 refine⟨λq=> eh,λ_ _=>Lv a r.length k,.inr ⟨g,0,rfl,λi hi j hj=>?_⟩,λi hi=>⟨?_,λj hj=>rfl⟩⟩
 .obtain rfl:i=0:=yT;obtain rfl:j=0:=ae;exact c0
 .obtain rfl:i=0:=yT;exact⟨a,k,rfl,hs,hm⟩
def wO{R:List α}{f:α->Option β}(hj:j<R.length):(R.take<|j+1).filterMap f=(R.take j).filterMap f++(f R[j]).toList:=by
 rw[jc hj,List.filterMap_append]
 cases h:f R[j]<;>simp[h]
end Ms
def sk:(Tryz.prog.info? 124).map (λi=>(i.zero,i.size,i.bytes))=some (some<|.slice none 0 0,1,24):=qkr
def lS:Tryz.prog.underlying 113=some (.slice 124):=qkr
def Ts(IH:Ms.LoC m){p:Ms.Sk}(hv:Ms.VaM w kb)(hR:RowV Ms.QR 1 w (λ_=>True) R (.slice ra R.length rc))(hw:Ms.aS w (λ_=>True) (p::r) wa)(sw:Ms.nL wa (p::r).length wc)(oR:∀r∈R,Ms.Sk.iE r (t::ts))(ow:Ms.Sk.iE (p::r) (t::ts))(how:Ms.Sk.iE (Ms.lf (Ms.iR t n).length (p::r)) (Ms.iR t n++ts))(hH:Ms.NH t n)(hz:2*(Ms.iw (R.filterMap<|Ms.jO t n)+Ms.aK (Ms.lf (Ms.iR t n).length (p::r)))+(Ms.lf (Ms.iR t n).length (p::r)).length<m)(hm:ts.length+2+m<=400)(hl:R.length<=900):
 Calls qg 64 #[.agg #[.map<|some kb,mv],.agg #[.string<|Ms.kS t,.int .i64 (n:Int)],.slice ra R.length rc,.slice wa (p::r).length wc] w (Ms.LoP w<|(Ms.lo m (R.filterMap<|Ms.jO t n)<|Ms.lf (Ms.iR t n).length (p::r)).map<|Ms.iu t n):=by
 obtain⟨W,hW⟩:∃W,W=(w.alloc<|Cv #[.map<|some kb,mv] 64).alloc (Cv #[Sv<|Ms.kS t,.int .i64 (n:Int)] 119):=⟨_,rfl⟩;have K:Below w.heap.size w W:=by rw[hW];exact(bw _).alloc ah _
 have A0:Bx W w.heap.size #[.map<|some kb,mv]:=by rw[hW];exact(qi _ _ _).alloc _
 have B0:Bx W (w.heap.size+1) #[Sv<|Ms.kS t,.int .i64 (n:Int)]:=by
  rw[hW];have:=qi (w.alloc<|Cv #[.map<|some kb,mv] 64) #[Sv<|Ms.kS t,.int .i64 (n:Int)] 119;simpa using this
 have⟨fp,pb,fw,cw,q⟩:=hv t;have IR:=q.cf;have hk1:=ags;have vC:=q.lk W K;have Ef:=q.pt n hH W K;have UP:=Ms.ia t n;have HR:=ai hR;have HW:=ai hw;have HV:=ai hv;have SW:=ai sw;have zK:=K.size;have A1:=ai A0;have B1:=ai B0;obtain⟨a1,a2,a3⟩:=A0;obtain⟨b1,b2,b3⟩:=B0;clear hR hw hv sw q;generalize X7:(Ms.iR t n).length=NL at*;have HNL:=ai X7;clear X7;go_enter func64,ntmps64
 go_upto_region 1 with fail
 rw[<-hW];clear hW;go_wp2_with fail;refine Ef.mono ?_;rintro e w1⟨rfl,k1⟩;have A2:=ai<|(uh A1).below k1;have B2:=ai<|(uh B1).below k1;have K1:=ai<|K.trans<|k1.mono K.size;clear A1 B1 a1 a2 b1 b2 Ef vC IR hk1 K k1
 go_wp2
 go_loopg[11,28] R.length (λgk v c wr=>∃j:Nat,Hid (gk=R.length-j)/\j<=R.length/\c=.int .i64 (j:Int)/\Hid (dR w1.heap.size (λ_=>True) Ms.QR 124 1 wr v<|(R.take j).filterMap<|Ms.jO t n)/\Hid (Below w1.heap.size w1 wr))
 case atStart=>exact⟨0,ai rfl,ju _,rfl,ai<|dR.nil _ _ _ _ _ _,ai<|qf _ _⟩
 case round=>
  obtain⟨j,bE,hj,rfl,H,K⟩:=hrel;have z1:=(uh K1).size;by_cases aI:j<R.length
  .have hd:(j:Int)<(R.length:Int):=ae;have i0:(0:Int)<=(j:Int):=ae;have kk:=uh K;have kw:=(uh K1).trans<|kk.mono z1;obtain⟨g,a,k,rfl,hc,hs,g_⟩:=Ms.Gy (P:=λb=>b<w.heap.size) ((uh HR).move Ms.aT kw.size (λb _ z=>kw.block b z)<|λb _ z=>z) aI;have hE:=ai<|Ms.wO (f:=Ms.jO t n) aI;have hlF:=List.length_filterMap_le (Ms.jO t n)<|R.take j;have hlF:((R.take j).filterMap<|Ms.jO t n).length<=900:=by simp at hlF;omega
   have ho:=oR _<|ja aI;generalize R[j]=r1 at*;obtain⟨p1,r1,rfl⟩:∃p1 r2,r1=p1::r2:=by
    cases r1 with
    |nil=>exact ho.elim|cons a b=>exact⟨a,b,rfl⟩
   have hol:=Ms.Ld (n:=n) ho;rw[uh HNL]at hol;have hrl:=Ms.fe ho.2;have HM:=ai g_;obtain⟨g1,o1,rfl,_,gS,BH,-⟩:=g_;obtain⟨c0,c1,pa,pc,c2,-⟩:=BH.cells;have kr:(r1.length:Int)+1<=(k:Int):=by have:=hs.1;simp at this;omega
   obtain⟨W1,fV⟩:∃W1,W1=wr.alloc (Cv #[Sv p1.kd,.int .i64 (p1.pl:Int)] 119):=⟨_,rfl⟩;have KW:Below wr.heap.size wr W1:=by rw[fV];exact bw _
   obtain⟨e1,e2,e3⟩:Bx W1 wr.heap.size #[Sv p1.kd,.int .i64 (p1.pl:Int)]:=by rw[fV];exact qi _ _ _
   have KK:=ai<|kk.trans<|KW.mono kk.size;have HB:=ai<|(uh H).af Ms.aT KW;have B1:=ai<|((uh B2).below kk).below KW;have HO:=λ(w':World)(k':Below wr.heap.size wr w')=>Lc (n:=NL) ((uh HM).af k') hs ah UP bi;have HO:=ai HO;obtain⟨F,hF⟩:∃F,F=(R.take j).filterMap (Ms.jO t n):=⟨_,rfl⟩;rw[<-hF]at hlF HB hE;have zk:=kk.size;clear hF H K kk kw BH c2;have⟨b4,b5,b6⟩:=uh B1
   cases p1 with
   |any=>
    simp only[Ms.Sk.kd,Ms.Sk.pl,Int.natCast_zero]at c0 c1 e1 fV;clear hrl
    go_upto_region 7 with fail
    rw[<-fV];clear fV;have x0:=e1 0;have x1:=e1 1;have y0:=b4 0;have y1:=b4 1;have hke:=yU t;clear e1 b4;go_wp2_with fail;refine(uh HO _ KW).mono ?_;rintro e w2⟨oa,oc,rfl,k2,so,mo⟩;have h_:=ai<|(uh HB).af Ms.aT k2;have K2:=ai<|(uh KK).trans<|k2.mono (uh KK).size;have zo:=(uh HB).own;have zW:=k2.size;have z2:=(uh K2).size;have SO:=ai so;have MO:=ai mo;clear so mo k2 x0 x1 y0 y1 HO KW HM c0 c1;generalize aiF:Ms.lf NL (Ms.Sk.any::r1)=ro at*;go_wp2_with(at_builtin;refine((uh h_).af Ms.aT<|bw _).cat Ms.aT sk lS (Ms.su (P:=λb=>b<w.heap.size\/W1.heap.size<=b) ((qi w2 #[_] _).c 0) (uh SO)<|(uh MO).af<|bw _) (λb p _=>⟨trivial,λe=>by have:=zo b e;obtain p|p:=p<;>omega⟩) bi bi ?_;intro v3 w3 R3 k3);go_roundg(R.length-(j+1))
    case measure=>rw[uh bE];omega
    case rel=>exact⟨j+1,ai rfl,ae,d_,ai (by rw[uh hE,show Ms.jO t n (Ms.Sk.any::r1)=some ro by rw[<-aiF,<-uh HNL];rfl];exact R3),ai<|(uh K2).trans<|((qf _ _).alloc z2 _).trans k3⟩
   |hd t' n' ps=>
    obtain rfl:t'=t:=ho.1.1;simp only[Ms.Sk.kd,Ms.Sk.pl]at c0 c1 e1 fV;clear hrl
    go_upto_region 7 with fail
    rw[<-fV];clear fV;have x0:=e1 0;have x1:=e1 1;have y0:=b4 0;have y1:=b4 1;have hke:=yU t';clear e1 b4;by_cases hnn:n'=n
    .subst hnn;go_wp2_with fail;refine(uh HO _ KW).mono ?_;rintro e w2⟨oa,oc,rfl,k2,so,mo⟩;have h_:=ai<|(uh HB).af Ms.aT k2;have K2:=ai<|(uh KK).trans<|k2.mono (uh KK).size;have zo:=(uh HB).own;have zW:=k2.size;have z2:=(uh K2).size;have SO:=ai so;have MO:=ai mo;clear so mo k2 x0 x1 y0 y1 HO KW HM c0 c1;generalize aiF:Ms.lf NL (Ms.Sk.hd t' n' ps::r1)=ro at*;go_wp2_with(at_builtin;refine((uh h_).af Ms.aT<|bw _).cat Ms.aT sk lS (Ms.su (P:=λb=>b<w.heap.size\/W1.heap.size<=b) ((qi w2 #[_] _).c 0) (uh SO)<|(uh MO).af<|bw _) (λb p _=>⟨trivial,λe=>by have:=zo b e;obtain p|p:=p<;>omega⟩) bi bi ?_;intro v3 w3 R3 k3);go_roundg(R.length-(j+1))
     case measure=>rw[uh bE];omega
     case rel=>exact⟨j+1,ai rfl,ae,d_,ai (by rw[uh hE,show Ms.jO t' n' (Ms.Sk.hd t' n' ps::r1)=some ro by rw[<-aiF,<-uh HNL];simp[Ms.jO,Ms.lf]];exact R3),ai<|(uh K2).trans<|((qf _ _).alloc z2 _).trans k3⟩
    .have aoc:¬((n':Int)=(n:Int)):=ae
     go_wp2
     go_roundg(R.length-(j+1))
     case measure=>rw[uh bE];omega
     case rel=>exact⟨j+1,ai rfl,ae,d_,ai (by rw[uh hE,show Ms.jO t' n (Ms.Sk.hd t' n' ps::r1)=none by simp[Ms.jO,Ne.symm hnn]];simpa using uh HB),KK⟩
  .have hd:decide ((j:Int)<(R.length:Int))=false:=bi;obtain rfl:j=R.length:=ae;rw[jk]at H;clear HR;obtain⟨xa,xc,rfl,-,-⟩:=(uh H).Vd;have kw:=(uh K1).trans<|(uh K).mono z1;have HRv:=(uh H).rv Ms.aT;have hlF:=List.length_filterMap_le (Ms.jO t n) R;have hol:=Ms.Ld (n:=n) ow;rw[uh HNL]at hol;have hrl:=Ms.fe ow.2;have hoR:∀x∈R.filterMap (Ms.jO t n),Ms.Sk.iE x<|Ms.iR t n++ts:=λx hx=>by have⟨y,hy,e⟩:=List.mem_filterMap.1 hx;exact Ms.PG (oR y hy) e
   have A3:=ai<|(uh A2).below<|uh K;have B3:=ai<|(uh B2).below<|uh K;have HO:=ai<|λ(w':World)(k':Below wr.heap.size wr w')=>Lc (n:=NL) (((uh HW).af kw).af k') (uh SW) ah UP bi;have⟨a1,a2,a4⟩:=uh A3;have x0:=a1 0;have x1:=a1 1;clear a1;have tl:(Ms.iR t n++ts).length+m<=400:=by have:=Ms.ia t n;simp;omega
   have HI:=ai<|λ(w':World)(oa:Option Addr)(oc:Nat)(k':Below wr.heap.size wr w')(ho:Ms.aS w' (λ_=>True) (Ms.lf NL (p::r)) oa)(so:Ms.nL oa (Ms.lf NL (p::r)).length oc)=>IH w' kb mv xa xc _ oa oc _ _ ((uh HV).af<|kw.trans<|k'.mono kw.size) (HRv.move Ms.aT k'.size (λb _ z=>k'.block b z)<|λ_ _ _=>trivial) ho so hoR how hz tl ae;have zw:=kw.size;have KW:=ai kw;have HG:=ai<|Ms.mK m _ _ _ hoR how hz;clear kw HRv hoR how hz tl oR ow hrl H bE;generalize hRO:Ms.lf NL (p::r)=ro at*;generalize hRF:R.filterMap (Ms.jO t n)=RF at*;clear hRO hRF
   go_upto_region 10 with fail
   go_region_held3(λw'=>w'.cell? ⟨w.heap.size,0,none⟩=some (.map<|some kb)/\w'.cell? ⟨w.heap.size,1,none⟩=some mv) (first|with_reducible exact⟨x0,x1⟩|with_reducible exact⟨y0,y1⟩|with_reducible exact⟨u0,u1⟩|go_keep) (first
    |(go_at_call 98;refine(uh HO _ (qf _ _).drew).mono ?_;rintro e w2⟨oa,oc,rfl,k2,so,mo⟩;have nM:Below wr.heap.size wr w2:=(qf _ _).drew.trans k2;have y0:w2.cell? ⟨w.heap.size,0,none⟩=some (.map<|some kb):=((uh A3).below nM).c 0;have y1:w2.cell? ⟨w.heap.size,1,none⟩=some mv:=((uh A3).below nM).c 1;have HI2:=ai<|uh HI w2 oa oc nM (mo.up λ_ _ _=>trivial) so;have K2:=ai nM;clear mo so k2 nM)
    |(go_at_call 35;refine(uh HI2).mono ?_;rintro e w3⟨fa,fn,fc,b,rfl,k3,hf⟩;have GC:=(uh K2).trans<|k3.mono (uh K2).size;have u0:w3.cell? ⟨w.heap.size,0,none⟩=some (.map<|some kb):=((uh A3).below GC).c 0;have u1:w3.cell? ⟨w.heap.size,1,none⟩=some mv:=((uh A3).below GC).c 1;have B4:=ai<|(uh B3).below GC;have HF:=ai hf;have K3:=ai<|(uh KW).trans<|GC.mono zw;clear hf k3 GC))
   have HG:=uh HG;have HF:=uh HF;have⟨d0,d1,d2⟩:=uh B4;have v0:=d0 0;have v1:=d0 1;clear d0 d1 x0 x1 u0 u1 HI
   cases gJ:Ms.lo m RF ro with
   |none=>
    rw[gJ]at HF;obtain rfl:b=false:=HF;have rA:=ai gJ;clear HG HF gJ
    go_wp2
    exact bodyPost_ret (v:=.tuple #[Lv none 0 0,.bool false]) (by simp[results,Tryz.results64,go_sem]) rfl ⟨_,_,_,false,rfl,uh K3,by rw[uh rA];rfl⟩
   |some f=>
    rw[gJ]at HF HG;obtain⟨rfl,rfl,sf,mf,-⟩:=HF;have hfl:=Ms.fe HG.1;rw[dr,uh HNL]at hfl;have HC:=ai<|abV mf sf t n (n:=NL) ae ae;have zf:NL<=f.length:=ae;have rA:=ai gJ;clear HG gJ hfl mf sf;go_wp2_with fail;refine(uh HC).mono ?_;rintro e w4⟨a,c,rfl,k4,sa,ma,na⟩;have K4:=ai<|(uh K3).trans<|k4.mono (uh K3).size;have SA:=ai sa;have MA:=ai ma;have NA:=ai λad q=>jo (uh K3).size<|na ad q;clear sa ma na k4 HC;go_wp2_with fail;refine bodyPost_ret (v:=.tuple #[Lv a (f.length-NL+1) c,.bool true]) (by simp[results,Tryz.results64,go_sem]) rfl ⟨a,_,c,true,rfl,uh K4,?_⟩;rw[uh rA];refine⟨rfl,?_,?_,?_,uh NA⟩
    .simp[Ms.iu,uh HNL]
    .have e:(Ms.iu t n f).length=f.length-NL+1:=by simp[Ms.iu,uh HNL]
     rw[e];exact uh SA
    .unfold Ms.iu;rw[uh HNL];exact(uh MA).up λ_ _ _=>trivial
namespace Ms
def agt{p:Sk}{o:Nat}(h:aS w P (p::r) (some ⟨g,o,none⟩))(s:nL (some ⟨g,o,none⟩) (p::r).length c):∃qa,((c=1/\qa=⟨g,o,none⟩)\/(c≠1/\qa=⟨g,o+3,none⟩))/\aS w P r (some qa)/\nL (some qa) r.length (c-1):=by
 have s1:=s.1;simp only[de]at s1;have s2:∀qa:Addr,nL (some qa) r.length<|c-1:=λqa=>⟨ae,λq=>eh⟩;by_cases e:c=1
 .refine⟨_,.inl ⟨e,rfl⟩,?_,s2 _⟩;obtain rfl:r=[]:=List.eq_nil_of_length_eq_zero ae;trivial
 .exact⟨_,.inr ⟨e,rfl⟩,h.drop,s2 _⟩
def aiG{x y:List Sk}(h:Sk.iE x (t::ts))(e:si x=some y):Sk.iE y ts:=by
 match x,h,e with
 |.any::_,h,e=>cases e;exact h.2
end Ms
section
variable {M:List (Ms.So×Nat)}
def ab2(IH:Ms.LoC m)(hv:Ms.VaM w kb)(hR:RowV Ms.QR 1 w (λ_=>True) R (.slice ra R.length rc))(hw:Ms.aS w (λ_=>True) (.any::r) wa)(sw:Ms.nL wa (Ms.Sk.any::r).length wc)(oR:∀r∈R,Ms.Sk.iE r (t::ts))(ow:Ms.Sk.iE r ts)(HM:∀w',Bq w w'->Cq 102 #[.agg #[Mv kb,mv],.slice sa M.length sc] w' (SkP w'<|Ms.uz M))(hz:2*(Ms.iw (R.filterMap Ms.si)+Ms.aK r)+r.length<m)(hm:ts.length+m<=400)(hl:R.length<=900):
 Cq 67 #[.agg #[Mv kb,mv],.slice sa M.length sc,.slice ra R.length rc,.slice wa (Ms.Sk.any::r).length wc] w (Ms.LoP w ((Ms.lo m (R.filterMap Ms.si) r).map (Ms.uz M::·))):=by
 obtain⟨W,hW⟩:∃W,W=w.alloc (Cv #[Mv kb,mv] 64):=⟨_,rfl⟩;have K:Bq w W:=by rw[hW];exact bw _
 have A0:Bx W w.heap.size #[Mv kb,mv]:=by rw[hW];exact qi _ _ _
 have HR:=ai hR;have HW:=ai hw;have HV:=ai hv;have SW:=ai sw;have HMM:=ai HM;have zK:=K.size;have A1:=ai A0;have K1:=ai K;clear hR hw hv sw A0 K HM;go_enter func67,ntmps67
 go_upto_region 3 with fail
 rw[<-hW];clear hW;go_loopg[10,17] R.length (λgk v c wr=>∃j:Nat,Hid (gk=R.length-j)/\j<=R.length/\c=Nv j/\Hid (dR W.heap.size (λ_=>True) Ms.QR 124 1 wr v<|(R.take j).filterMap Ms.si)/\Hid (Bq W wr))
 case atStart=>exact⟨0,ai rfl,ju _,rfl,ai<|dR.nil _ _ _ _ _ _,ai<|qf _ _⟩
 case round=>
  obtain⟨j,bE,hj,rfl,H,K⟩:=hrel;by_cases aI:j<R.length
  .have hd:(j:Int)<(R.length:Int):=ae;have i0:(0:Int)<=(j:Int):=ae;have kk:=uh K;have kw:=(uh K1).trans<|kk.mono zK;obtain⟨g,a,k,rfl,hc,hs,g_⟩:=Ms.Gy (P:=λb=>b<w.heap.size) ((uh HR).move Ms.aT kw.size (λb _ z=>kw.block b z)<|λb _ z=>z) aI;have hE:=ai<|Ms.wO (f:=Ms.si) aI;have hlF:=List.length_filterMap_le Ms.si<|R.take j;have hlF:((R.take j).filterMap Ms.si).length<=900:=by simp at hlF;omega
   have ho:=oR _<|ja aI;generalize R[j]=r1 at*;obtain⟨p1,r1,rfl⟩:∃p1 r2,r1=p1::r2:=by
    cases r1 with
    |nil=>exact ho.elim|cons a b=>exact⟨a,b,rfl⟩
   have XY:=ai g_;obtain⟨g1,o1,rfl,_,gS,BH,-⟩:=g_;obtain⟨c0,c1,pa,pc,c2,-⟩:=BH.cells;have kr:(r1.length:Int)+1<=(k:Int):=by have:=hs.1;simp at this;omega
   have⟨qa,hqa,tm,st⟩:=Ms.agt (uh XY) hs;have TM:=ai tm;have ST:=ai st;have HS:=ai hs;obtain⟨F,hF⟩:∃F,F=(R.take j).filterMap Ms.si:=⟨_,rfl⟩;have zo:=(uh H).own;rw[<-hF]at hlF H hE;have zk:=kk.size;clear hF BH c2 c1 tm st hs XY kw
   cases p1 with
   |any=>
    simp only[Ms.Sk.kd]at c0;obtain⟨rfl,rfl⟩|⟨hk,rfl⟩:=hqa;all_goals
     go_wp2_with(at_builtin;refine((uh H).af Ms.aT<|bw _).cat Ms.aT sk lS (Ms.su (P:=λb=>b<w.heap.size) ((qi wr #[_] _).c 0) (uh ST)<|(uh TM).af<|bw _) (λb p _=>⟨trivial,λe=>by have:=zo b e;omega⟩) bi bi ?_;intro v3 w3 R3 k3);go_roundg(R.length-(j+1))
     case measure=>rw[uh bE];omega
     case rel=>exact⟨j+1,ai rfl,ae,d_,ai (by rw[uh hE];exact R3),ai<|(uh K).trans<|((qf _ _).alloc zk _).trans k3⟩
   |hd t' n' ps=>
    simp only[Ms.Sk.kd]at c0;have hke:=yU t'
    go_wp2
    go_roundg(R.length-(j+1))
    case measure=>rw[uh bE];omega
    case rel=>exact⟨j+1,ai rfl,ae,d_,ai (by rw[uh hE];simpa[Ms.si]using uh H),K⟩
  .have hd:decide ((j:Int)<(R.length:Int))=false:=bi;obtain rfl:j=R.length:=ae;rw[jk]at H;clear HR;obtain⟨xa,xc,rfl,-,-⟩:=(uh H).Vd;have kw:=(uh K1).trans<|(uh K).mono zK;have HRv:=(uh H).rv Ms.aT;have hlF:=List.length_filterMap_le Ms.si R;have hoR:∀x∈R.filterMap Ms.si,Ms.Sk.iE x ts:=λx hx=>by have⟨y,hy,e⟩:=List.mem_filterMap.1 hx;exact Ms.aiG (oR y hy) e
   obtain⟨g0,o0,rfl,_,_⟩:=(uh HW).ptr ah;have⟨qa,hqa,tm,st⟩:=Ms.agt ((uh HW).af kw)<|uh SW;have hrc:(r.length:Int)+1<=(wc:Int):=by have:=(uh SW).1;simp at this;omega
   have A3:=ai<|(uh A1).below<|uh K;have HI:=ai<|λ(w':World)(k':Bq wr w')=>IH w' kb mv xa xc _ (some qa) (wc-1) r _ ((uh HV).af<|kw.trans<|k'.mono kw.size) (HRv.move Ms.aT k'.size (λb _ z=>k'.block b z)<|λ_ _ _=>trivial) (tm.af k') st hoR ow hz hm ae;have HG:=ai<|Ms.mK m _ _ _ hoR ow hz;have hfl:=ai<|Ms.fe ow;have zw:=kw.size;have KW:=ai kw;have⟨a1,a2,a4⟩:=uh A3;have x0:=a1 0;have x1:=a1 1;clear kw HRv hoR ow hz oR H bE tm st a1 a2;generalize hRF:R.filterMap Ms.si=RF at*;have HRF:=ai hRF;clear hRF;have hs1:(1:Int)<=(r.length:Int)+1:=ae;have hs0:(0:Int)<=(r.length:Int):=ae;obtain⟨rfl,rfl⟩|⟨hk,rfl⟩:=hqa;all_goals
    go_upto_region 8 with fail
    go_region_held3(λw'=>w'.cell? ⟨w.heap.size,0,none⟩=some (Mv kb)/\w'.cell? ⟨w.heap.size,1,none⟩=some mv) (first|with_reducible exact⟨x0,x1⟩|with_reducible exact⟨u0,u1⟩|go_keep) (first
     |(go_at_call 35;refine(uh HI _ (qf _ _).drew).mono ?_;rintro e w3⟨fa,fn,fc,b,rfl,k3,hf⟩;have GC:=(qf wr.heap.size wr).drew.trans k3;have u0:w3.cell? ⟨w.heap.size,0,none⟩=some (Mv kb):=((uh A3).below GC).c 0;have u1:w3.cell? ⟨w.heap.size,1,none⟩=some mv:=((uh A3).below GC).c 1;have A4:=ai<|(uh A3).below GC;have HF:=ai hf;have K3:=ai<|(uh KW).trans<|GC.mono zw;clear hf k3 GC))
    have HG:=uh HG;have HF:=uh HF;clear x0 x1 HI
    cases gJ:Ms.lo m RF r with
    |none=>
     rw[gJ]at HF;obtain rfl:b=false:=HF;have rA:=ai gJ;clear HG HF gJ
     go_wp2
     exact bodyPost_ret (v:=.tuple #[Lv none 0 0,.bool false]) (by simp[results,Tryz.results67,go_sem]) rfl ⟨_,_,_,false,rfl,uh K3,by rw[uh HRF,uh rA];rfl⟩
    |some f=>
     rw[gJ]at HF HG;obtain⟨rfl,rfl,sf,mf,-⟩:=HF;have anj:=Ms.fe HG.1;have rA:=ai gJ;have hf9:f.length<=900:=ae;have SF:=ai sf;have MF:=ai mf;clear HG gJ anj mf sf;go_wp2_with fail;refine(uh HMM _<|uh K3).mono ?_;rintro e w4⟨pa,pc,rfl,sp,mp,k4⟩;have K4:=ai<|(uh K3).trans<|k4.mono (uh K3).size;have MF4:=ai<|(uh MF).af k4;have SP:=ai sp;have MP:=ai<|mp.up (Q:=λ_=>True) λ_ _ _=>trivial;obtain⟨ms,RG⟩:∃ms,ms=Ms.uz M:=⟨_,rfl⟩;rw[<-RG]at SP MP;rw[<-RG];have HMS:=ai RG;obtain⟨W5,hW5⟩:∃W5,W5=w4.alloc (Cv #[Sv ms.kd,Nv ms.pl,Lv pa ms.ps.length pc] 122):=⟨_,rfl⟩;have k5:Bq w4 W5:=by rw[hW5];exact bw _
     have B5:Bx W5 w4.heap.size #[Sv ms.kd,Nv ms.pl,Lv pa ms.ps.length pc]:=by rw[hW5];exact qi _ _ _
     have h1:Ms.aS W5 (λ_=>True) [ms] (some ⟨w4.heap.size,0,none⟩):=Ms.aS.ofC trivial B5.z (o:=0) (cs:=λ_ j=>#[Sv ms.kd,Nv ms.pl,Lv pa ms.ps.length pc].getD j Zv) (λi hi j hj=>by
      obtain rfl:i=0:=yT;rw[Nat.zero_mul,jq,jq,B5.c];obtain rfl|rfl|rfl:j=0\/j=1\/j=2:=ae
      .rfl
      .rfl
      .rfl) λi hi=>by
      obtain rfl:i=0:=yT;exact⟨rfl,rfl,pa,pc,rfl,uh SP,(uh MP).af k5⟩
     have HC:=uX h1 ((uh MF4).af k5) (pc:=1) ⟨br _,λq=> eh⟩ (uh SF) bi 124;have K5:=ai<|(uh K4).trans<|k5.mono (uh K4).size;have hz5:W5.heap.size=w4.heap.size+1:=by rw[hW5];simp
     rw[hz5,hW5]at HC;have HC:=ai HC;have HW5:=ai hW5;have HZ5:=ai hz5;clear sp mp k4 u0 u1 RG hW5 k5 B5 h1 hz5;go_wp2_with fail;refine(uh HC).mono ?_;rintro e w6⟨a,c,rfl,k6,sa',ma,na⟩;rw[<-uh HW5]at k6;have K6:=ai ((uh K5).trans<|k6.mono (by have:=(uh K5).size;have:=uh HZ5;omega));have SA:=ai sa';have MA:=ai ma;have NA:=ai λad q=>jo (n:=w.heap.size) (m:=w4.heap.size+1) (by have:=(uh K5).size;have:=uh HZ5;omega)<|na ad q;clear sa' ma na k6 HC;go_wp2_with fail;refine bodyPost_ret (v:=.tuple #[Lv a ([ms]++f).length c,.bool true]) (by simp[results,Tryz.results67,go_sem]) rfl ⟨a,_,c,true,rfl,uh K6,?_⟩;rw[uh HRF,uh rA];refine⟨rfl,ah,?_,?_,uh NA⟩
     .have:=uh SA;simpa using this
     .rw[<-uh HMS];exact(uh MA).up λ_ _ _=>trivial
end
namespace Ms
def ae8{M:List (So×Nat)}(hM:Ck t ((t,n0)::M))(ha:kK ((t,n0)::M)=false):NH t (yk ((t,n0)::M) t (M.length+1) 0):=by
 have⟨_,k2⟩:=AK hM (M.length+1) 0 (λx hx=>ae) ah;generalize yk ((t,n0)::M) t (M.length+1) 0=n at k2;refine λc hc=>Decidable.byContradiction λq=>?_;have:kK ((t,n0)::M)=true:=by
  simp only[kK,beq_iff_eq,hc,Option.some.injEq];have l1:=mX (jm c) (((t,n0)::M).map (·.2)) List.nodup_range λx hx=>by rw[hM.mem];exact k2 x (by simp at hx;omega)
  have l2:=mX (((t,n0)::M).map (·.2)) (jm c) hM.n λx hx=>by
   rw[hM.mem]at hx;simpa using(hM.k _ hx).2 c hc
  simp only[List.length_range,List.length_map]at l1 l2;omega
 rw[this]at ha
 cases ha
def JI(h:met R []≠[]):∃r∈R,(gH r).isSome=true:=by
 refine Decidable.byContradiction λq=>h ?_;have:∀(R:List (List Sk))m,(∀r∈R,(gH r).isSome≠true)->met R m=m:=λR=>by
  induction R with
  |nil=>intro m _;rfl|cons r R ih=>
   intro m hr;have h0:=hr r ah
   cases e:gH r with
   |none=>simp only[met,e];exact ih m λx hx=>hr x (by simp[hx])|some x=>rw[e]at h0;exact absurd rfl h0
 exact this R [] λr hr hs=>q ⟨r,hr,hs⟩
def JH(h:met R []≠[]):iw (R.filterMap<|jO t n)+1<=iw R:=by
 have h7:=lR (t:=t) (n:=n) R
 rwa[if_pos<|JI h]at h7
end Ms
def ahS:∀m,Ms.LoC m
 |0=>λ_ _ _ _ _ _ _ _ _ _ _ _ _ _ _ _ h=>absurd h (jy _)|m+1=>by
  have IH:=ahS m;intro w kb mv ra rc R wa wc wi ts hv hR hw sw oR ow hz hm hl;obtain⟨W,hW⟩:∃W,W=w.alloc (.cells #[.map<|some kb,mv] 64):=⟨_,rfl⟩;have K:Below w.heap.size w W:=by rw[hW];exact bw _
  cases wi with
  |nil=>
   have hb:((R.length:Int)==0)=decide (R=[]):=by cases R<;>simp;omega
   have HB:=ai hb;clear hb;go_enter func35,ntmps35;go_wp2_with fail;rw[<-hW];refine bodyPost_ret (v:=.tuple #[.slice none 0 0,.bool<|(R.length:Int)==0]) (by simp[results,Tryz.results35,go_sem]) rfl ⟨none,0,0,_,rfl,K,?_⟩;rw[uh HB,Ms.lo];by_cases e:R=[]
   .rw[if_pos e];exact⟨qBq,rfl,⟨br _,λ_=>rfl⟩,trivial,λad q=>eh⟩
   .rw[if_neg e];exact decide_eq_false e
  |cons p r=>
   obtain⟨t,ts,rfl⟩:∃t ts',ts=t::ts':=by
    cases ts with
    |nil=>exact ow.elim|cons a b=>exact⟨a,b,rfl⟩
   obtain⟨g,o,rfl,_,zg⟩:=hw.ptr ah;have HW:=ai hw;obtain⟨c0,c1,-⟩:=(hw.at 0 ah).1.cells;simp only[List.getElem_cons_zero,Nat.zero_mul,Nat.add_zero]at c0 c1;have cW:∀o,W.cell? ⟨g,o,none⟩=w.cell? ⟨g,o,none⟩:=λo=>qe (a:=⟨g,o,none⟩)<|K.block g zg;have d0:=(cW o).trans c0;have d1:=(cW<|o+1).trans c1;obtain⟨W2,gF⟩:∃W2,W2=W.alloc (Cv #[Sv p.kd,.int .i64 (p.pl:Int)] 119):=⟨_,rfl⟩;have k2:Below W.heap.size W W2:=by rw[gF];exact bw _
   have K2:=ai<|K.trans<|k2.mono K.size;have A2:Bx W2 w.heap.size #[.map<|some kb,mv]:=by rw[gF,hW];exact(qi _ _ _).alloc _
   have B2:Bx W2 W.heap.size #[Sv p.kd,.int .i64 (p.pl:Int)]:=by rw[gF];exact qi _ _ _
   have kr:(r.length:Int)+1<=(wc:Int):=by have:=sw.1;simp at this;omega
   have hr0:((r.length:Int)+1==0)=false:=bi;have HR:=ai hR;have HV:=ai hv;have SW:=ai sw;clear hw c0 c1 cW hR hv sw k2
   cases p with
   |hd t' n ps=>
    obtain rfl:t'=t:=ow.1.1;have hp:=Ms.fe ow.1.2.2;have h4:=Ms.ia t' n;have h5:=Ms.lR (t:=t') (n:=n) R;simp only[Ms.aK,Ms.bO,de]at hz hm;have HU:=ai (Ts IH (n:=n) ((uh HV).af<|uh K2) ((uh HR).move Ms.aT (uh K2).size (λb _ z=>(uh K2).block b z)<|λ_ _ _=>trivial) ((uh HW).af<|uh K2) (uh SW) oR ow (Ms.mY ow.1.2.2 ow.2) ow.1.2.1 (by show 2*(_+Ms.aK (ps++r))+(ps++r).length<m;rw[Ms.bU,dr];omega) ae hl (mv:=mv));have hke:=yU t';simp only[Ms.Sk.kd,Ms.Sk.pl]at d0 d1 A2 B2 gF;go_enter func35,ntmps35
    go_upto_region 3 with fail
    rw[<-hW];clear hW
    go_upto_region 4 with fail
    rw[<-gF];clear gF;obtain⟨a1,a2,a3⟩:=A2;obtain⟨b1,b2,b3⟩:=B2;clear h5 hz hm;go_wp2_with fail;refine(uh HU).mono ?_;rintro e w3⟨fa,fn,fc,b,rfl,k3,hf⟩;have K3:=ai<|(uh K2).trans<|k3.mono (uh K2).size;have HF:=ai hf;clear hf k3 HU
    go_wp2
    exact bodyPost_ret (v:=.tuple #[Lv fa fn fc,.bool b]) (by simp[results,Tryz.results35,go_sem]) rfl ⟨fa,fn,fc,b,rfl,uh K3,Ms.ab1 (uh K2).size<|uh HF⟩
   |any=>
    simp only[Ms.Sk.kd,Ms.Sk.pl,Int.natCast_zero]at d0 d1 A2 B2 gF;simp only[Ms.aK,Ms.bO,de,Nat.zero_add]at hz hm;have IL:=ai<|(uh HR).move Ms.aT (uh K2).size (λb _ z=>(uh K2).block b z)<|λ_ _ _=>trivial;have HF0:=ai (Gz (uh IL) (λx hx e=>by have:=oR x hx;rw[e]at this;exact this.elim) ae);have HA2:=ai A2;go_enter func35,ntmps35
    go_upto_region 3 with fail
    rw[<-hW];clear hW
    go_upto_region 4 with fail
    rw[<-gF];clear gF;obtain⟨a1,a2,a3⟩:=A2;obtain⟨b1,b2,b3⟩:=B2;go_wp2_with fail;refine(uh HF0).mono ?_;rintro e w3⟨sa,sc,rfl,hh,k3⟩;have K3:=ai<|(uh K2).trans<|k3.mono (uh K2).size;have A3:=ai<|(uh HA2).below k3;have HH:=ai hh;have⟨hM,hI⟩:=Ms.AL R oR [] ⟨λ_ q=> eh,ah⟩;have Sf:=Ms.pi R [];have Sf:(Ms.met R []).length<=900:=by simp at Sf;omega
    have HAA:=ai<|abY (mv:=mv) (sc:=sc) ((uh HV).af<|uh K3) (uh HH) ae;have gJ:Ms.lo (m+1) R (.any::r)=if Ms.kK (Ms.met R [])then match Ms.met R []with
     |[]=>none|(t,_)::_=>Ms.cR (λn=>(Ms.lo m (R.filterMap<|Ms.jO t n)<|Ms.eK (Ms.iR t n).length++r).map<|Ms.iu t n) (Ms.met R []).length 0
     else(Ms.lo m (R.filterMap Ms.si) r).map (Ms.uz (Ms.met R [])::·):=rfl
    have UG:=λn=>Ms.JH (t:=t) (n:=n) (R:=R);have rA:=ai gJ;obtain⟨M,hMe⟩:∃M,M=Ms.met R []:=⟨_,rfl⟩;rw[<-hMe]at HH hM Sf HAA rA UG;have UG:=ai UG;rw[<-hMe];have⟨x1,x2,x3⟩:=uh A3;have y0:=x1 0;have y1:=x1 1;clear hh HF0 k3 hI gJ hMe a1 a2 b1 b2 d0 d1 x1 x2;go_wp2_with fail;refine(uh HAA).mono ?_;rintro e w4⟨rfl,k4⟩;have K4:=ai<|(uh K3).trans<|k4.mono (uh K3).size;have A4:=ai<|(uh A3).below k4;have HH4:=ai<|(uh HH).af k4;have⟨x1,x2,x4⟩:=uh A4;have y0:=x1 0;have y1:=x1 1;clear HAA HH k4 x1 x2 A3 K3
    cases hal:Ms.kK M with
    |false=>
     rw[hal]at rA;have HMs:∀w',Below w4.heap.size w4 w'->Calls qg 102 #[Av #[.map<|some kb,mv],Lv sa M.length sc] w' (SkP w'<|Ms.uz M):=λw' k'=>by
      match M,hM,Sf,hal,HH4 with
      |[],_,_,_,_=>exact PC|(t',n0)::M,hM,Sf,hal,HH4=>
       obtain rfl:t'=t:=(hM.k (t',n0) ah).1;exact WX (((uh HV).af<|uh K4).af k') ((uh HH4).af k') hM (Ms.ae8 hM hal) (by simp at Sf;omega)
     have h5:=Ms.od R;have HB:=ai<|ab2 IH (mv:=mv) (sa:=sa) (sc:=sc) (M:=M) ((uh HV).af<|uh K4) ((uh HR).move Ms.aT (uh K4).size (λb _ z=>(uh K4).block b z)<|λ_ _ _=>trivial) ((uh HW).af<|uh K4) (uh SW) oR ow.2 HMs ae ae hl;clear HMs h5 hz hm UG hM hal HH4;go_wp2_with fail;refine(uh HB).mono ?_;rintro e w5⟨fa,fn,fc,b,rfl,k5,hf⟩;have K5:=ai<|(uh K4).trans<|k5.mono (uh K4).size;have HF:=ai hf;clear hf k5 HB;go_wp2_with fail;refine bodyPost_ret (v:=.tuple #[Lv fa fn fc,.bool b]) (by simp[results,Tryz.results35,go_sem]) rfl ⟨fa,fn,fc,b,rfl,uh K5,?_⟩;rw[uh rA];exact Ms.ab1 (uh K4).size<|uh HF
    |true=>
     rw[hal]at rA;obtain⟨n0,M',rfl⟩:∃n0 M',M=(t,n0)::M':=by
      match M,hM,hal with
      |[],_,hal=>cases hal|(t',n0)::M',hM,_=>exact⟨n0,M',by rw[show t'=t from(hM.k (t',n0) ah).1]⟩
     have CB:Ms.cnt t=some ((t,n0)::M').length:=by simpa[Ms.kK]using hal
     obtain⟨g9,rfl,_,z9,hc9⟩:=id<|(uh HH4).resolve_left ah;have e9:w4.cell? ⟨g9,0,none⟩=some (Sv<|Ms.kS t):=(hc9 0 ah).1;have UG:=λn=>uh UG n ah;obtain⟨G,hG⟩:∃G:Nat->Option (List Ms.Sk),G=λn=>(Ms.lo m (R.filterMap<|Ms.jO t n)<|Ms.eK (Ms.iR t n).length++r).map<|Ms.iu t n:=⟨_,rfl⟩;have alp:Ms.lo (m+1) R (.any::r)=Ms.cR G ((t,n0)::M').length 0:=by rw[uh rA,hG];rfl
     have HU:=λn(hn:n<((t,n0)::M').length)(w':World)(k':Below w.heap.size w w')=>Ts IH (n:=n) (mv:=mv) ((uh HV).af k') ((uh HR).move Ms.aT k'.size (λb _ z=>k'.block b z)<|λ_ _ _=>trivial) ((uh HW).af k') (uh SW) oR ow (Ms.mY (Ms.jZ _) ow.2) (λc q=>by rw[CB]at q;cases q;exact hn) (by have h4:=Ms.ia t n;have:=UG n;show 2*(_+Ms.aK (Ms.eK (Ms.iR t n).length++r))+(Ms.eK (Ms.iR t n).length++r).length<m;rw[Ms.bU,dr,Ms.oe];simp only[Ms.eK,List.length_replicate];omega) ae hl;have HU:Hid (∀n(_:n<((t,n0)::M').length)(w':World)(_:Below w.heap.size w w'),Calls qg 64 #[Av #[.map<|some kb,mv],Av #[Sv<|Ms.kS t,.int .i64 (n:Int)],Lv ra R.length rc,Lv (some ⟨g,o,none⟩) (Ms.Sk.any::r).length wc] w'<|Ms.LoP w'<|G n):=ai (by rw[hG];exact HU);clear rA hG UG hc9 hM hal CB HH4 hz hm y0 y1 IL HA2;generalize hL:((t,n0)::M').length=L at*;have alq:=ai alp;have z4:=(uh K4).size;have l0:(0:Int)<(L:Int):=by rw[<-hL];simp<;>omega
     have HL9:=ai hL;clear alp hL
     go_wp2
     go_loopg[48] L (λgk c wr=>∃j:Nat,Hid (gk=L-j)/\j<=L/\c=.int .i64 (j:Int)/\Hid (Ms.cR G (L-j) j=Ms.cR G L 0)/\Hid (Below w4.heap.size w4 wr))
     case atStart=>exact⟨0,ai rfl,ju _,rfl,ai rfl,ai<|qf _ _⟩
     case round=>
      obtain⟨j,bE,hj,rfl,hfo,K⟩:=hrel;by_cases aI:j<L
      .have hd:(j:Int)<(L:Int):=ae;have kk:=uh K;have A5:=ai<|(uh A4).below kk;have e5:wr.cell? ⟨g9,0,none⟩=some (Sv<|Ms.kS t):=(qe (a:=⟨g9,0,none⟩)<|kk.block g9 z9).trans e9;have HU2:=ai<|λ(w':World)(k':Below wr.heap.size wr w')=>uh HU j aI w'<|(uh K4).trans<|(kk.trans<|k'.mono kk.size).mono z4;have⟨x1,x2,x6⟩:=uh A5;have y0:wr.cell? ⟨w.heap.size,0,none⟩=some (.map<|some kb):=x1 0;have y1:wr.cell? ⟨w.heap.size,1,none⟩=some mv:=x1 1;have K5:=ai kk;have z5:=kk.size;have i0:(0:Int)<=(j:Int):=ae;have l0n:0<L:=ae;clear x1 x2 e9 kk
       go_upto_region 12 with fail
       go_region_held3(λw'=>w'.cell? ⟨w.heap.size,0,none⟩=some (.map<|some kb)/\w'.cell? ⟨w.heap.size,1,none⟩=some mv/\w'.cell? ⟨g9,0,none⟩=some (Sv<|Ms.kS t)) (first|with_reducible exact⟨y0,y1,e5⟩|with_reducible exact⟨u0,u1,u2⟩|go_keep) (first
        |(go_at_call 64;refine(uh HU2 _ (qf _ _).drew).mono ?_;rintro e w6⟨fa,fn,fc,b,rfl,k6,hf⟩;have V7:=(qf wr.heap.size wr).drew.trans k6;have u0:w6.cell? ⟨w.heap.size,0,none⟩=some (.map<|some kb):=((uh A5).below V7).c 0;have u1:w6.cell? ⟨w.heap.size,1,none⟩=some mv:=((uh A5).below V7).c 1;have u2:w6.cell? ⟨g9,0,none⟩=some (Sv<|Ms.kS t):=(qe (a:=⟨g9,0,none⟩)<|V7.block g9<|jt z9 z5).trans e5;have HF:=ai hf;have K6:=ai<|(uh K5).trans<|V7.mono z5;clear hf k6 V7))
       have HF:=uh HF;clear y0 y1 e5 u0 u1 u2 HU2
       cases hgj:G j with
       |none=>
        rw[hgj]at HF;obtain rfl:b=false:=HF;have ab3:Ms.cR G (L-(j+1)) (j+1)=Ms.cR G L 0:=by
         rw[<-uh hfo,show L-j=(L-(j+1))+1 by omega,Ms.cR,hgj]
        have HFO:=ai ab3;clear HF hgj ab3
        go_wp2
        go_roundg(L-(j+1))
        case measure=>rw[uh bE];omega
        case rel=>exact⟨j+1,ai rfl,ae,d_,HFO,K6⟩
       |some f=>
        rw[hgj]at HF;obtain⟨rfl,rfl,sf,mf,nf⟩:=HF;have ab3:Ms.cR G L 0=some f:=by
         rw[<-uh hfo,show L-j=(L-(j+1))+1 by omega,Ms.cR,hgj]
        have HFO:=ai ab3;have SF:=ai sf;have MF:=ai mf;have NF:=ai λad q=>jo (jo z4 z5)<|nf ad q;clear hgj ab3 sf mf nf;go_wp2_with fail;refine bodyPost_ret (v:=.tuple #[Lv fa f.length fc,.bool true]) (by simp[results,Tryz.results35,go_sem]) rfl ⟨fa,f.length,fc,true,rfl,(uh K4).trans<|(uh K6).mono z4,?_⟩;rw[uh alq,uh HFO];exact⟨rfl,rfl,uh SF,uh MF,uh NF⟩
      .have hd:decide ((j:Int)<(L:Int))=false:=bi;obtain rfl:j=L:=ae;have hf0:Ms.cR G j 0=none:=by rw[<-uh hfo,Nat.sub_self];rfl
       have HF0:=ai hf0;clear hf0;go_wp2_with fail;refine bodyPost_ret (v:=.tuple #[Lv none 0 0,.bool false]) (by simp[results,Tryz.results35,go_sem]) rfl ⟨none,0,0,false,rfl,(uh K4).trans<|(uh K).mono z4,?_⟩;rw[uh alq,uh HF0];exact rfl
namespace Ms
structure MkM(w:World)(mb:Nat):Prop where
 lk:∀w',Bq w w'->∀(c:UInt8)(t:So)(n:Nat),(c,t,n)∈[(78,So.l,0),(67,So.l,1),(80,So.s,0),(81,So.s,1)]->(Instr.lookup 62 (Mv mb) (.string ⟨#[c]⟩) false).run qg w'=.ok (.agg #[.string<|kS t,Nv n]) w'
def MkM.af(h:MkM w mb)(k:Bq w w'):MkM w' mb:=⟨λw2 k2=>h.lk w2<|k.trans<|k2.mono k.size⟩
def afR(nd:Nd)(s:Sk):=∀(w:World)(kb mb:Nat)(v:Value),MkM w mb->PP w (λ_=>True) nd v->Cq 34 #[.agg #[Mv kb,Mv mb],v] w (SkP w s)
def YZ{s:Sk}(B:Bx w g #[.string s.kd,Nv s.pl,.slice pa s.ps.length pc])(hs:nL pa s.ps.length pc)(hm:aS w P s.ps pa):Q7 QS 3 w P [s] (some ⟨g,0,none⟩) 1:=by
 refine⟨λq=> eh,λ_ j=>#[Sv s.kd,Nv s.pl,Lv pa s.ps.length pc].getD j Zv,.inr ⟨g,0,rfl,λi hi j hj=>?_⟩,λi hi=>⟨?_,λj hj=>?_⟩⟩
 .obtain rfl:i=0:=yT;rw[Nat.zero_mul,jq,jq,B.c];obtain rfl|rfl|rfl:j=0\/j=1\/j=2:=ae
  .rfl
  .rfl
  .rfl
 .obtain rfl:i=0:=yT;exact⟨rfl,rfl,pa,pc,rfl,hs,hm⟩
 .obtain rfl|rfl|rfl:j=0\/j=1\/j=2:=ae
  .rfl
  .rfl
  .rfl
end Ms
def rM{L:List Nd}{S:List Ms.Sk}(Y3:S.length=L.length)(ih:∀i(h:i<L.length),Ms.afR L[i]<|S.getD i .any)(hM:Ms.MkM w mb)(t:Ms.So)(n:Nat){vs:Nat->Value}(aE:L=[]\/∃g,sa=some ⟨g,0,none⟩/\g<w.heap.size/\∀i,i<L.length->w.cell? ⟨g,i,none⟩=some (vs i))(hr:∀i(h:i<L.length),PP w (λ_=>True) L[i]<|vs i)(hl:L.length<=100):
 Cq 63 #[.agg #[Mv kb,Mv mb],.agg #[.string<|Ms.kS t,Nv n],.slice sa L.length sc] w (SkP w<|.hd t n S):=by
 obtain⟨W,hW⟩:∃W,W=(((w.alloc<|Cv #[Mv kb,Mv mb] 64).alloc<|Cv #[Sv<|Ms.kS t,Nv n] 119).alloc<|Cv #[Sv ⟨#[]⟩,Iv 0,Lv none 0 0] 122).alloc (Cv #[Sv<|Ms.kS t,Nv n,Lv none 0 0] 122):=⟨_,rfl⟩;have K:Bq w W:=by rw[hW];exact(((bw _).alloc (by simp) _).alloc (by simp;omega) _).alloc (by simp;omega) _
 have zW:W.heap.size=w.heap.size+4:=by rw[hW];simp
 have A0:Bx W w.heap.size #[Mv kb,Mv mb]:=by rw[hW];exact(((qi _ _ _).alloc _).alloc _).alloc _
 have C0:Bx W (w.heap.size+2) #[Sv ⟨#[]⟩,Iv 0,Lv none 0 0]:=by
  rw[hW];have:=(qi ((w.alloc<|Cv #[Mv kb,Mv mb] 64).alloc<|Cv #[Sv<|Ms.kS t,Nv n] 119) #[Sv ⟨#[]⟩,Iv 0,Lv none 0 0] 122).alloc<|Cv #[Sv<|Ms.kS t,Nv n,Lv none 0 0] 122;simpa using this
 have D0:Bx W (w.heap.size+3) #[Sv<|Ms.kS t,Nv n,Lv none 0 0]:=by
  rw[hW];have:=qi (((w.alloc<|Cv #[Mv kb,Mv mb] 64).alloc<|Cv #[Sv<|Ms.kS t,Nv n] 119).alloc<|Cv #[Sv ⟨#[]⟩,Iv 0,Lv none 0 0] 122) #[Sv<|Ms.kS t,Nv n,Lv none 0 0] 122;simpa using this
 have HR:=ai hr;have HM:=ai hM;have HLS:=ai Y3;clear hr hM;go_enter func63,ntmps63
 go_upto_region 3 with fail
 rw[<-hW];clear hW Y3;go_loopg[14] L.length (λgk c wr=>∃(j:Nat)(v:Value),Hid (gk=L.length-j)/\j<=L.length/\c=Nv j/\Hid (Bq w wr)/\Hid (Bx wr w.heap.size #[Mv kb,Mv mb])/\Hid (Bx wr (w.heap.size+2) #[Sv ⟨#[]⟩,Iv 0,Lv none 0 0])/\Hid (Bx wr (w.heap.size+3) #[Sv<|Ms.kS t,Nv n,v])/\Hid (dR W.heap.size (λb=>W.heap.size<=b) Ms.QS 122 3 wr v<|S.take j)/\Hid (W.heap.size<=wr.heap.size))
 case atStart=>exact⟨0,_,ai rfl,ju _,rfl,ai K,ai A0,ai C0,ai D0,ai<|dR.nil _ _ _ _ _ _,ai<|br _⟩
 case round=>
  clear K A0 C0 D0;obtain⟨j,v,bE,hj,rfl,K,A1,C1,D1,R1,Z1⟩:=hrel;obtain⟨va,vc,rfl,-⟩:=(uh R1).Vd;have⟨d1,d2,d3⟩:=uh D1;have⟨a1,a2,a3⟩:=uh A1;by_cases aI:j<L.length
  .have hd:(j:Int)<(L.length:Int):=by omega
   have i0:(0:Int)<=(j:Int):=by omega
   have kk:=uh K;obtain⟨g,rfl,zg,hc⟩:=aE.resolve_left (λe=>by rw[e]at aI;simp at aI);have hcj:wr.cell? ⟨g,j,none⟩=some (vs j):=(qe (a:=⟨g,j,none⟩)<|kk.block g zg).trans<|hc j aI;have hp:=(uh HR j aI).af kk;have HS:=λ(w':World)(k':Bq wr w')=>ih j aI w' kb mb (vs j) (((uh HM).af kk).af k')<|hp.af k';have hSt:S.take (j+1)=S.take j++[S.getD j .any]:=by have q:j<S.length:=(by rw[uh HLS];exact aI);rw[jc q];simp[jd,q]
   have HST:=ai hSt;have⟨ti,xi,ei⟩:=hp.iface;rw[ei]at hcj HS;have HS:=ai HS;have aZ:(S.take j).length=j:=by simp;rw[uh HLS];omega
   have hLt:=ai aZ;generalize S.getD j .any=s at*;have z1:=uh Z1;have Zc:w.heap.size<=W.heap.size:=by omega
   have ZW:=ai zW;clear ih hp hSt hc aE zW ei aZ kk;rw[uh hLt]at d1;have d1':wr.cell? ⟨w.heap.size+3,2,none⟩=some (Lv va j vc):=d1 2;have a10:=a1 0;have a11:=a1 1;clear d1 a1
   go_upto_region 5 with fail
   go_region_law(first
    |(go_simp;go_at_call 34;refine(uh HS _ (qf _ _).drew).mono ?_;rintro e w2⟨pa,pc,rfl,sp,mp,k2⟩;have nM:Bq wr w2:=(qf _ _).drew.trans k2;have D2:=ai<|(uh D1).below nM;have A2:=ai<|(uh A1).below nM;have C2:=ai<|(uh C1).below nM;have R2:=ai<|(uh R1).af Ms.o9 nM;have e1:w2.cell? ⟨w.heap.size+3,2,none⟩=some (Lv va j vc):=(by have:=(uh D2).c 2;rw[uh hLt]at this;exact this);have e2:w2.cell? ⟨w.heap.size,0,none⟩=some (Mv kb):=(uh A2).c 0;have e3:w2.cell? ⟨w.heap.size,1,none⟩=some (Mv mb):=(uh A2).c 1;have e4:∀X,(w2.alloc X).cell? ⟨w.heap.size+3,2,none⟩=some (Lv va j vc):=(λX=>by have:=((uh D2).alloc X).c 2;rw[uh hLt]at this;exact this);have SP:=ai sp;have MP:=ai mp;have K2:=ai<|(uh K).trans<|nM.mono (uh K).size;have z2:wr.heap.size<=w2.heap.size:=nM.size;clear sp mp k2 nM;dsimp only)
    |(refine((uh R2).af Ms.o9<|bw _).step Ms.o9 Ex CG (Ms.YZ (P:=λb=>wr.heap.size<=b) (qi w2 #[_,_,_] _) (uh SP)<|(uh MP).af<|bw _) (λb p _=>⟨jo z1 p,λe=>by have:=(uh R1).own b e;have p:wr.heap.size<=b:=p;omega⟩) (by simp;omega) (by simp;omega) ?_ (hs:=by rw[uh hLt];rfl);intro v3 w3 R3 k3 _;have zz:=uh ZW;obtain⟨Ve,Vf,hv3,-⟩:=R3.Vd;obtain⟨N3,Yw⟩:∃N3,N3=(S.take j++[s]).length:=⟨_,rfl⟩;rw[<-Yw]at hv3;subst hv3;clear Yw;have D3:=ai (((uh D2).alloc<|Cv #[Sv s.kd,Nv s.pl,Lv pa s.ps.length pc] 122).same k3.size<|k3.block _<|by omega);have f1:=(uh D3).c 2;have f2:∀o,w3.frozen? ⟨w.heap.size+3,o,none⟩=false:=(uh D3).f;have RR3:=ai R3;have K3:=ai k3;clear R3 k3 zz))
   all_goals
    have zz:=uh ZW;have k2a:Below w.heap.size w2 (w2.alloc<|Cv #[Sv s.kd,Nv s.pl,Lv pa s.ps.length pc] 122):=(qf _ _).alloc (by omega) _;have KF:=ai<|((uh K2).trans<|k2a.trans<|(uh K3).mono Zc).setCell (p:=⟨w.heap.size+3,2,none⟩) (Nat.le_add_right _ _)<|Lv Ve N3 Vf;have AF:=ai ((((uh A2).alloc<|Cv #[Sv s.kd,Nv s.pl,Lv pa s.ps.length pc] 122).same (uh K3).size<|(uh K3).block _<|by omega).gE (b2:=w.heap.size+3) (by omega) 2<|Lv Ve N3 Vf);have CF:=ai ((((uh C2).alloc<|Cv #[Sv s.kd,Nv s.pl,Lv pa s.ps.length pc] 122).same (uh K3).size<|(uh K3).block _<|by omega).gE (b2:=w.heap.size+3) (by omega) 2<|Lv Ve N3 Vf);have DF:=ai ((uh D3).mE 2 (Lv Ve N3 Vf) #[Sv<|Ms.kS t,Nv n,Lv Ve N3 Vf] rfl (by simp));have RF:=ai ((uh RR3).gE Ms.o9 (b:=w.heap.size+3) (by omega) (λc p=>by have p:W.heap.size<=c:=p;omega) 2 (Lv Ve N3 Vf));have ZF:=ai (show W.heap.size<=(w3.setCell ⟨w.heap.size+3,2,none⟩<|Lv Ve N3 Vf).heap.size by have:=(uh K3).size;simp[World.setCell]at this⊢;omega);clear zz k2a
    go_wp2
    go_roundg(L.length-(j+1))
    case measure=>rw[uh bE];omega
    case rel=>exact⟨j+1,_,ai rfl,by omega,by go_num,KF,AF,CF,DF,ai (by rw[uh HST];exact uh RF),ZF⟩
  .have hd:decide ((j:Int)<(L.length:Int))=false:=by simp;omega
   obtain rfl:j=L.length:=by omega
   have hSt:S.take L.length=S:=by rw[<-uh HLS,jk]
   rw[hSt]at R1 D1 d1;have⟨nk,np,e',h1,h2⟩:=Ms.Q8<|uh R1;injection e' with q1 _ q2;subst q1 q2;have H1:=ai h1;have H2:=ai (((h2.up (Q:=λb=>W.heap.size<=b) λb p _=>p.elim id id).Ey (b:=w.heap.size+2) (λb p=>by have p:W.heap.size<=b:=p;omega) 0 (Sv<|Ms.kS t)).Ey (b:=w.heap.size+2) (λb p=>by have p:W.heap.size<=b:=p;omega) 1 (Nv n)|>.Ey (b:=w.heap.size+2) (λb p=>by have p:W.heap.size<=b:=p;omega) 2 (Lv va S.length vc));have BF:=ai<|(uh C1).pI rfl (Sv<|Ms.kS t) (Nv n) (Lv va S.length vc);have KF:=ai ((uh K).pI (b:=w.heap.size+2) (by omega) (Sv<|Ms.kS t) (Nv n)<|Lv va S.length vc);have⟨c1,c2,c3⟩:=uh C1;have ZW:=ai zW;clear h1 h2 R1 D1 K hSt aE HR HM a1 a2 ih zW;go_wp2_with fail;have⟨c4,f4,z4⟩:=uh BF;exact bodyPost_ret (v:=Av #[Sv<|Ms.kS t,Nv n,Lv va S.length vc]) (by simp[results,Tryz.results63,go_sem,c4]) rfl ⟨va,vc,rfl,uh H1,(uh H2).up λb p _=>by have p:W.heap.size<=b:=p;have:=uh ZW;show w.heap.size<=b;omega,uh KF⟩
def rN{w3:World}(K:Bq w w3){s:Ms.Sk}(sp:Ms.nL pa s.ps.length pc)(mp:Ms.aS w3 (λb=>w.heap.size+2<=b) s.ps pa):SkP w s (.returned<|.agg #[.string s.kd,Nv s.pl,.slice pa s.ps.length pc]) (((w3.setCell ⟨w.heap.size+1,0,none⟩<|.string s.kd).setCell ⟨w.heap.size+1,1,none⟩<|Nv s.pl).setCell ⟨w.heap.size+1,2,none⟩<|.slice pa s.ps.length pc):=by
 have hn:∀g,w.heap.size+2<=g->g≠w.heap.size+1:=λg p=>ae;exact⟨pa,pc,rfl,sp,(((mp.Ey hn _ _).Ey hn _ _).Ey hn _ _).up λb p _=>by have p:w.heap.size+2<=b:=p;show w.heap.size<=b;omega,K.pI ae _ _ _⟩
abbrev Ez(w:World)(kb mb:Nat):World:=(w.alloc<|.cells #[Mv kb,Mv mb] 64).alloc<|.cells #[.string ⟨#[]⟩,Iv 0,.slice none 0 0] 122
def vN(w:World)(kb mb:Nat):Bq w (Ez w kb mb):=(bw _).alloc ah _
def vO(w:World)(kb mb:Nat):Bx (Ez w kb mb) w.heap.size #[Mv kb,Mv mb]:=(qi _ _ _).alloc _
def vP(w:World)(kb mb:Nat):Bx (Ez w kb mb) (w.heap.size+1) #[.string ⟨#[]⟩,Iv 0,.slice none 0 0]:=by
 have:=qi (w.alloc<|Cv #[Mv kb,Mv mb] 64) #[Sv ⟨#[]⟩,Iv 0,Lv none 0 0] 122;simpa using this
def kh{p:Prop}(h:p:=by
 rw[<-hs0]at SP MP;rw[<-hs0];have HS0:=ai hs0;clear sp mp k3 K2 C2 hs0;go_wp2_with fail;obtain⟨c4,f4,z4⟩:=(uh C3).pI rfl (Sv s0.kd) (Nv s0.pl) (Lv pa s0.ps.length pc)
 exact bodyPost_ret (v:=Av #[Sv s0.kd,Nv s0.pl,Lv pa s0.ps.length pc]) (by simp[results,Tryz.results34,go_sem,c4]) rfl (by rw[<-uh HS0];exact rN (uh K3) (uh SP)<|uh MP)):p:=h
def ag6{s:Ms.Sk}(h:In.Pt nd s t):Ms.afR nd s:=by
 induction h with
 |any s n f t a u=>
  intro w kb mb v hM hp;have K:=vN w kb mb;have C:=vP w kb mb;have AA:=vO w kb mb;obtain⟨W,hW⟩:∃W,W=Ez w kb mb:=⟨_,rfl⟩;rw[<-hW]at C K AA;unfold Ez at hW;have zK:=K.size
  cases hp
  have⟨c1,c2,c3⟩:=id C;go_enter func34,ntmps34
  go_upto_region 1 with fail
  rw[<-hW];clear hW;go_wp2_with fail;have⟨c4,f4,z4⟩:=C.pI rfl (Sv ⟨#[]⟩) (Iv 0) (Lv none 0 0);exact bodyPost_ret (v:=Av #[Sv ⟨#[]⟩,Iv 0,Lv none 0 0]) (by simp[results,Tryz.results34,go_sem,c4]) rfl (rN (s:=.any) K ⟨br _,λ_=>rfl⟩ trivial)
 |num s n f t a=>
  intro w kb mb v hM hp;have K:=vN w kb mb;have C:=vP w kb mb;have AA:=vO w kb mb;obtain⟨W,hW⟩:∃W,W=Ez w kb mb:=⟨_,rfl⟩;rw[<-hW]at C K AA;unfold Ez at hW;have zK:=K.size
  cases hp
  have K2:Bq w (W.alloc<|Cv #[Nv f,Nv t,Nv n] 206):=K.alloc K.size _;have C2:=C.alloc<|Cv #[Nv f,Nv t,Nv n] 206;have⟨c1,c2,c3⟩:=id C2;go_enter func34,ntmps34
  go_upto_region 1 with fail
  rw[<-hW];clear hW;go_wp2_with fail;have⟨c4,f4,z4⟩:=C2.pI rfl (Sv<|Ms.kS .i) (Nv n) (Lv none 0 0);exact bodyPost_ret (v:=Av #[Sv<|Ms.kS .i,Nv n,Lv none 0 0]) (by simp[Ms.kS]at c4;simp[results,Tryz.results34,go_sem,Ms.kS,c4]) rfl (rN (s:=.hd .i n []) K2 ⟨br _,λ_=>rfl⟩ trivial)
 |Hv c n f t a=>
  intro w kb mb v hM hp;have K:=vN w kb mb;have C:=vP w kb mb;have AA:=vO w kb mb;obtain⟨W,hW⟩:∃W,W=Ez w kb mb:=⟨_,rfl⟩;rw[<-hW]at C K AA;unfold Ez at hW;have zK:=K.size;have oY:((if c=true then(⟨#[116,114,117,101]⟩:BA)else⟨#[102,97,108,115,101]⟩).toList==[116,114,117,101])=c:=by cases c<;>simp[ByteArray.toList_eq]
  generalize lF:(if c=true then(⟨#[116,114,117,101]⟩:BA)else⟨#[102,97,108,115,101]⟩)=st at*
  cases hp
  rw[oY];clear oY lF;have K2:Bq w (W.alloc<|Cv #[Nv f,Nv t,.bool c] 201):=K.alloc K.size _;have C2:=C.alloc<|Cv #[Nv f,Nv t,.bool c] 201;have HW:=NG (w:=W.alloc<|Cv #[Nv f,Nv t,.bool c] 201) c;obtain⟨N,hN⟩:∃N:Nat,N=if c=true then 1 else 0:=⟨_,rfl⟩;have e1:(if c=true then(1:Int)else 0)=(N:Int):=by rw[hN];cases c<;>rfl
  rw[e1]at HW;rw[<-hN];clear hN e1;go_enter func34,ntmps34
  go_upto_region 1 with fail
  rw[<-hW];clear hW;go_wp2_with fail;refine HW.mono ?_;rintro e w3⟨rfl,k3⟩;have K3:=ai<|K2.trans<|k3.mono K2.size;have C3:=ai<|C2.below k3;have⟨c1,c2,c3⟩:=uh C3;clear k3 K2 C2;go_wp2_with fail;have⟨c4,f4,z4⟩:=(uh C3).pI rfl (Sv<|Ms.kS .b) (Nv N) (Lv none 0 0);exact bodyPost_ret (v:=Av #[Sv<|Ms.kS .b,Nv N,Lv none 0 0]) (by simp[results,Tryz.results34,go_sem,c4]) rfl (rN (s:=.hd .b N []) (uh K3) ⟨br _,λ_=>rfl⟩ trivial)
 |nil n f t a=>
  intro w kb mb v hM hp;have K:=vN w kb mb;have C:=vP w kb mb;have AA:=vO w kb mb;obtain⟨W,hW⟩:∃W,W=Ez w kb mb:=⟨_,rfl⟩;rw[<-hW]at C K AA;unfold Ez at hW;have zK:=K.size
  cases hp with
  |up _ _ _ _ _ _ y sa sc vs hu hy aE hr=>
  have k1:Bq W (W.alloc<|Cv #[Nv f,Nv t,Nv a,Nv y,Sv ⟨#[78]⟩,Lv sa ([]:List Nd).length sc] 185):=bw _;have K2:=K.trans<|k1.mono zK;have C2:=C.below k1;have A2:=AA.below k1;have HC:=rM (w:=W.alloc<|Cv #[Nv f,Nv t,Nv a,Nv y,Sv ⟨#[78]⟩,Lv sa ([]:List Nd).length sc] 185) (kb:=kb) (sc:=sc) (L:=([]:List Nd)) (S:=([]:List Ms.Sk)) rfl (λi h=>absurd h ah) (hM.af K2) .l 0 (vs:=vs) (aE.imp id λ⟨g,e,_,z,q⟩=>⟨g,e,jt z K2.size,λi hi=>(qe (a:=⟨g,i,none⟩)<|K2.block g z).trans<|q i hi⟩) (λi hi=>(hr i hi).af K2) ah;have vC:=hM.lk _ K2 78 .l 0 ah;have z2:w.heap.size+2<=(W.alloc<|Cv #[Nv f,Nv t,Nv a,Nv y,Sv ⟨#[78]⟩,Lv sa ([]:List Nd).length sc] 185).heap.size:=by have:=C2.z;omega
  obtain⟨W2,gF⟩:∃W2,W2=W.alloc (Cv #[Nv f,Nv t,Nv a,Nv y,Sv ⟨#[78]⟩,Lv sa ([]:List Nd).length sc] 185):=⟨_,rfl⟩;have B2:Bx W2 W.heap.size #[Nv f,Nv t,Nv a,Nv y,Sv ⟨#[78]⟩,Lv sa ([]:List Nd).length sc]:=by rw[gF];exact qi _ _ _
  rw[<-gF]at K2 C2 A2 HC vC z2;obtain⟨a1,a2,a3⟩:=A2;obtain⟨b1,b2,b3⟩:=B2;clear aE hr hM k1 hu hy;go_enter func34,ntmps34
  go_upto_region 1 with fail
  rw[<-hW];clear hW
  go_upto_region 16 with fail
  try simp only[eF,de,jq,jv]at gF b1 HC
  rw[<-gF];clear gF;go_wp2_with fail;refine HC.mono ?_;rintro e w3⟨pa,pc,rfl,sp,mp,k3⟩;have K3:=ai<|K2.trans<|k3.mono K2.size;have C3:=ai<|C2.below k3;have SP:=ai sp;have MP:=ai<|mp.up (Q:=λb=>w.heap.size+2<=b) λb p _=>jo z2 p;have⟨c1,c2,c3⟩:=uh C3;obtain⟨s0,hs0⟩:∃s0,s0=Ms.Sk.hd .l 0 ([]:List Ms.Sk):=⟨_,rfl⟩;exact kh
 | @aM x1 y1 p1 q1 n f t a _ _ h1 h2=>
   intro w kb mb v hM hp;have K:=vN w kb mb;have C:=vP w kb mb;have AA:=vO w kb mb;obtain⟨W,hW⟩:∃W,W=Ez w kb mb:=⟨_,rfl⟩;rw[<-hW]at C K AA;unfold Ez at hW;have zK:=K.size
   cases hp with
   |up _ _ _ _ _ _ y sa sc vs hu hy aE hr=>
   have k1:Bq W (W.alloc<|Cv #[Nv f,Nv t,Nv a,Nv y,Sv ⟨#[67]⟩,Lv sa [x1,y1].length sc] 185):=bw _;have K2:=K.trans<|k1.mono zK;have C2:=C.below k1;have A2:=AA.below k1;have HC:=rM (w:=W.alloc<|Cv #[Nv f,Nv t,Nv a,Nv y,Sv ⟨#[67]⟩,Lv sa [x1,y1].length sc] 185) (kb:=kb) (sc:=sc) (L:=[x1,y1]) (S:=[p1,q1]) rfl (λi h=>match i,h with|0,_=>h1|1,_=>h2) (hM.af K2) .l 1 (vs:=vs) (aE.imp id λ⟨g,e,_,z,q⟩=>⟨g,e,jt z K2.size,λi hi=>(qe (a:=⟨g,i,none⟩)<|K2.block g z).trans<|q i hi⟩) (λi hi=>(hr i hi).af K2) ah;have vC:=hM.lk _ K2 67 .l 1 ah;have z2:w.heap.size+2<=(W.alloc<|Cv #[Nv f,Nv t,Nv a,Nv y,Sv ⟨#[67]⟩,Lv sa [x1,y1].length sc] 185).heap.size:=by have:=C2.z;omega
   obtain⟨W2,gF⟩:∃W2,W2=W.alloc (Cv #[Nv f,Nv t,Nv a,Nv y,Sv ⟨#[67]⟩,Lv sa [x1,y1].length sc] 185):=⟨_,rfl⟩;have B2:Bx W2 W.heap.size #[Nv f,Nv t,Nv a,Nv y,Sv ⟨#[67]⟩,Lv sa [x1,y1].length sc]:=by rw[gF];exact qi _ _ _
   rw[<-gF]at K2 C2 A2 HC vC z2;obtain⟨a1,a2,a3⟩:=A2;obtain⟨b1,b2,b3⟩:=B2;clear aE hr hM k1 hu hy;go_enter func34,ntmps34
   go_upto_region 1 with fail
   rw[<-hW];clear hW
   go_upto_region 16 with fail
   try simp only[eF,de,jq,jv]at gF b1 HC
   rw[<-gF];clear gF;go_wp2_with fail;refine HC.mono ?_;rintro e w3⟨pa,pc,rfl,sp,mp,k3⟩;have K3:=ai<|K2.trans<|k3.mono K2.size;have C3:=ai<|C2.below k3;have SP:=ai sp;have MP:=ai<|mp.up (Q:=λb=>w.heap.size+2<=b) λb p _=>jo z2 p;have⟨c1,c2,c3⟩:=uh C3;obtain⟨s0,hs0⟩:∃s0,s0=Ms.Sk.hd .l 1 [p1,q1]:=⟨_,rfl⟩;exact kh
 | @pr x1 y1 p1 q1 s n f t a _ _ h1 h2=>
   intro w kb mb v hM hp;have K:=vN w kb mb;have C:=vP w kb mb;have AA:=vO w kb mb;obtain⟨W,hW⟩:∃W,W=Ez w kb mb:=⟨_,rfl⟩;rw[<-hW]at C K AA;unfold Ez at hW;have zK:=K.size
   cases hp with
   |pr _ _ _ _ _ _ _ vx vy hx hy=>
   obtain⟨tx,ex,rfl⟩:=hx.iface;obtain⟨ty,ey,rfl⟩:=hy.iface;obtain⟨W1,fV⟩:∃W1,W1=W.alloc (Cv #[Nv f,Nv t,Fv tx<|Av ex,Fv ty<|Av ey] 208):=⟨_,rfl⟩;have k1:Bq W W1:=by rw[fV];exact bw _
   have B1:Bx W1 W.heap.size #[Nv f,Nv t,Fv tx<|Av ex,Fv ty<|Av ey]:=by rw[fV];exact qi _ _ _
   have A1:=AA.below k1;obtain⟨W2,gF⟩:∃W2,W2=W1.alloc (Cv #[Fv tx<|Av ex,Fv ty<|Av ey] 115):=⟨_,rfl⟩;have k2:Bq W1 W2:=by rw[gF];exact bw _
   have K2:=K.trans<|(k1.trans<|k2.mono k1.size).mono zK;have C2:=(C.below k1).below k2;have B2:Bx W2 W1.heap.size #[Fv tx<|Av ex,Fv ty<|Av ey]:=by rw[gF];exact qi _ _ _
   have HC:=rM (w:=W2) (kb:=kb) (sc:=2) (sa:=some ⟨W1.heap.size,0,none⟩) (L:=[x1,y1]) (S:=[p1,q1]) rfl (λi h=>match i,h with|0,_=>h1|1,_=>h2) (hM.af K2) .p 0 (vs:=λi=>if i=0 then Fv tx (Av ex)else Fv ty (Av ey)) (.inr ⟨W1.heap.size,rfl,B2.z,λi hi=>match i,hi with|0,_=>B2.c 0|1,_=>B2.c 1⟩) (λi h=>match i,h with|0,_=>hx.af K2|1,_=>hy.af K2) ah;have z2:w.heap.size+2<=W2.heap.size:=by have:=C2.z;omega
   simp only[de,eF,Nat.zero_add,Nat.reduceAdd]at HC;obtain⟨a1,a2,a3⟩:=A1;obtain⟨b1,b2,b3⟩:=B1;clear hM k1 k2 hx hy B2;go_enter func34,ntmps34
   go_upto_region 1 with fail
   rw[<-hW];clear hW
   go_upto_region 13 with fail
   rw[<-fV];clear fV;go_wp2_with fail;rw[<-gF];clear gF;refine HC.mono ?_;rintro e w3⟨pa,pc,rfl,sp,mp,k3⟩;have K3:=ai<|K2.trans<|k3.mono K2.size;have C3:=ai<|C2.below k3;have SP:=ai sp;have MP:=ai<|mp.up (Q:=λb=>w.heap.size+2<=b) λb p _=>jo z2 p;have⟨c1,c2,c3⟩:=uh C3;obtain⟨s0,hs0⟩:∃s0,s0=Ms.Sk.hd .p 0 [p1,q1]:=⟨_,rfl⟩;exact kh
 |p n f t a=>
  intro w kb mb v hM hp;have K:=vN w kb mb;have C:=vP w kb mb;have AA:=vO w kb mb;obtain⟨W,hW⟩:∃W,W=Ez w kb mb:=⟨_,rfl⟩;rw[<-hW]at C K AA;unfold Ez at hW;have zK:=K.size
  cases hp with
  |up _ _ _ _ _ _ y sa sc vs hu hy aE hr=>
  have k1:Bq W (W.alloc<|Cv #[Nv f,Nv t,Nv a,Nv y,Sv ⟨#[80]⟩,Lv sa ([]:List Nd).length sc] 185):=bw _;have K2:=K.trans<|k1.mono zK;have C2:=C.below k1;have A2:=AA.below k1;have HC:=rM (w:=W.alloc<|Cv #[Nv f,Nv t,Nv a,Nv y,Sv ⟨#[80]⟩,Lv sa ([]:List Nd).length sc] 185) (kb:=kb) (sc:=sc) (L:=([]:List Nd)) (S:=([]:List Ms.Sk)) rfl (λi h=>absurd h ah) (hM.af K2) .s 0 (vs:=vs) (aE.imp id λ⟨g,e,_,z,q⟩=>⟨g,e,jt z K2.size,λi hi=>(qe (a:=⟨g,i,none⟩)<|K2.block g z).trans<|q i hi⟩) (λi hi=>(hr i hi).af K2) ah;have vC:=hM.lk _ K2 80 .s 0 ah;have z2:w.heap.size+2<=(W.alloc<|Cv #[Nv f,Nv t,Nv a,Nv y,Sv ⟨#[80]⟩,Lv sa ([]:List Nd).length sc] 185).heap.size:=by have:=C2.z;omega
  obtain⟨W2,gF⟩:∃W2,W2=W.alloc (Cv #[Nv f,Nv t,Nv a,Nv y,Sv ⟨#[80]⟩,Lv sa ([]:List Nd).length sc] 185):=⟨_,rfl⟩;have B2:Bx W2 W.heap.size #[Nv f,Nv t,Nv a,Nv y,Sv ⟨#[80]⟩,Lv sa ([]:List Nd).length sc]:=by rw[gF];exact qi _ _ _
  rw[<-gF]at K2 C2 A2 HC vC z2;obtain⟨a1,a2,a3⟩:=A2;obtain⟨b1,b2,b3⟩:=B2;clear aE hr hM k1 hu hy;go_enter func34,ntmps34
  go_upto_region 1 with fail
  rw[<-hW];clear hW
  go_upto_region 16 with fail
  try simp only[eF,de,jq,jv]at gF b1 HC
  rw[<-gF];clear gF;go_wp2_with fail;refine HC.mono ?_;rintro e w3⟨pa,pc,rfl,sp,mp,k3⟩;have K3:=ai<|K2.trans<|k3.mono K2.size;have C3:=ai<|C2.below k3;have SP:=ai sp;have MP:=ai<|mp.up (Q:=λb=>w.heap.size+2<=b) λb p _=>jo z2 p;have⟨c1,c2,c3⟩:=uh C3;obtain⟨s0,hs0⟩:∃s0,s0=Ms.Sk.hd .s 0 ([]:List Ms.Sk):=⟨_,rfl⟩;exact kh
 | @q x1 y1 p1 q1 n f t a _ _ h1 h2=>
   intro w kb mb v hM hp;have K:=vN w kb mb;have C:=vP w kb mb;have AA:=vO w kb mb;obtain⟨W,hW⟩:∃W,W=Ez w kb mb:=⟨_,rfl⟩;rw[<-hW]at C K AA;unfold Ez at hW;have zK:=K.size
   cases hp with
   |up _ _ _ _ _ _ y sa sc vs hu hy aE hr=>
   have k1:Bq W (W.alloc<|Cv #[Nv f,Nv t,Nv a,Nv y,Sv ⟨#[81]⟩,Lv sa [x1,y1].length sc] 185):=bw _;have K2:=K.trans<|k1.mono zK;have C2:=C.below k1;have A2:=AA.below k1;have HC:=rM (w:=W.alloc<|Cv #[Nv f,Nv t,Nv a,Nv y,Sv ⟨#[81]⟩,Lv sa [x1,y1].length sc] 185) (kb:=kb) (sc:=sc) (L:=[x1,y1]) (S:=[p1,q1]) rfl (λi h=>match i,h with|0,_=>h1|1,_=>h2) (hM.af K2) .s 1 (vs:=vs) (aE.imp id λ⟨g,e,_,z,q⟩=>⟨g,e,jt z K2.size,λi hi=>(qe (a:=⟨g,i,none⟩)<|K2.block g z).trans<|q i hi⟩) (λi hi=>(hr i hi).af K2) ah;have vC:=hM.lk _ K2 81 .s 1 ah;have z2:w.heap.size+2<=(W.alloc<|Cv #[Nv f,Nv t,Nv a,Nv y,Sv ⟨#[81]⟩,Lv sa [x1,y1].length sc] 185).heap.size:=by have:=C2.z;omega
   obtain⟨W2,gF⟩:∃W2,W2=W.alloc (Cv #[Nv f,Nv t,Nv a,Nv y,Sv ⟨#[81]⟩,Lv sa [x1,y1].length sc] 185):=⟨_,rfl⟩;have B2:Bx W2 W.heap.size #[Nv f,Nv t,Nv a,Nv y,Sv ⟨#[81]⟩,Lv sa [x1,y1].length sc]:=by rw[gF];exact qi _ _ _
   rw[<-gF]at K2 C2 A2 HC vC z2;obtain⟨a1,a2,a3⟩:=A2;obtain⟨b1,b2,b3⟩:=B2;clear aE hr hM k1 hu hy;go_enter func34,ntmps34
   go_upto_region 1 with fail
   rw[<-hW];clear hW
   go_upto_region 16 with fail
   try simp only[eF,de,jq,jv]at gF b1 HC
   rw[<-gF];clear gF;go_wp2_with fail;refine HC.mono ?_;rintro e w3⟨pa,pc,rfl,sp,mp,k3⟩;have K3:=ai<|K2.trans<|k3.mono K2.size;have C3:=ai<|C2.below k3;have SP:=ai sp;have MP:=ai<|mp.up (Q:=λb=>w.heap.size+2<=b) λb p _=>jo z2 p;have⟨c1,c2,c3⟩:=uh C3;obtain⟨s0,hs0⟩:∃s0,s0=Ms.Sk.hd .s 1 [p1,q1]:=⟨_,rfl⟩;exact kh
end Go.Proofs.YtopmodaakdnliaaGreatDoor
