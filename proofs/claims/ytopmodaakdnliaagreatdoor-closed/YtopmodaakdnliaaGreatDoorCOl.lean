import Derived.Test.YtopmodaakdnliaaGreatDoorCBo
import Derived.Test.YtopmodaakdnliaaGreatDoorCMc
import Derived.Test.YtopmodaakdnliaaGreatDoorCOi
set_option linter.all false
set_option maxRecDepth 100000
set_option maxHeartbeats 8000000
namespace Go.Proofs.YtopmodaakdnliaaGreatDoor
open _root_.List renaming getElem?_eq_getElem->ja,getD_eq_getElem?_getD->jc,map_cons->jd,length->jf,range->jh,map_append->ji,cons_append->jj,nil_append->jk,take_append_drop->jl,take_succ_eq_append_getElem->jm,append_assoc->jo,getElem_mem->jq,append_nil->jt,getElem?_append_right->ju,take_length->jv,map_nil->jx
open _root_.Nat renaming lt_of_lt_of_le->jy,zero_le->jz,zero_add->j3,le_trans->j5,le_of_eq->j6,le_succ->j7,add_zero->j8
open Go.World renaming cell?_of_block->j9
open Pu renaming Tok->qd,cT->qe,bG->qf,fB->qg,words->qh,fN->qi,Bv->qj,dB->ql
open Go.Proofs.Tryz renaming prog->qm,underlying9->qn
open Go.RowKit.Below renaming refl->qp
open Go.Value renaming string->qr
open Go.Instr renaming typeAssert->qt,lookup->qu
open Bx renaming new->qv
open In renaming arr->qx,lq->qy,pG->qz,Mk->q9,Mks->xd
open Go.ByteArray renaming toList_eq->xf
open Or renaming inl->xg,inr->xh
open And renaming intro->xj
open Un renaming xU->xk
open Go.Region renaming wanted->xm
open Go Go.RowKit Proofs.Tryz
variable {K:Act->World->Prop} {ops:Array Oper} {s sm sx:BA} {r:Bool} {e:Ending} {mks:xd} {f Jw:Int} {L Lk:List (BA×Value)} {ls:List (List UInt8)} {Z:List (Nd×Ms.Sk)} {A:List (Nd×Nd)} {nl:List BA} {l:List Dc} {p:List Ky} {ms:List Nd} {X Y:List qd} {so t:Ms.So} {B B' a a1 am ax b f1 fm fx g g2 i k kb m mb mc n n1 nm o2 sc t1 tm vb wb:Nat} {g':Nat->Nat} {P S:Nat->Prop} {ve vp:Nat->Value} {nd x:Nd} {o:Oper} {E:Prop} {α:Type} {T et tv:TypeId} {F c0 c1 c2 v vv x1 x2 x3 xx y:Value} {w w' w0 w1 w2:World}
section
open Go.ChangeMaps Go.MapKept
def Fr.wide{T}{a b}(h:Fr S a b)(hS:∀x,S x->T x):Fr T a b:=⟨h.os,h.tape,h.output,h.size,λk hk hn=>h.block k hk<|λq=>hn<|hS k q⟩
section
variable {cb tb lb:Nat} {ty mk:BA->Option Nat} {lo:BA->Nat}
def agL:wX (wX (wX (λ_=>none) lA 0) kC 0) pS 0=Yo:=by grind[wX,Yo]
def Ed:Cq 45 #[] w λe w'=>∃cb tb mb lb,e=.returned (cp cb)/\Bq w w'/\(w.heap.size<=cb/\w.heap.size<=tb/\w.heap.size<=mb/\w.heap.size<=lb)/\CK w' cb tb mb lb Yo (λ_=>none) (λ_=>0):=by
 have g_:= @run_makeMap Tryz.prog;have H:=MS.new Sv w;have HF:∀x,bd x ([]:List (BA×Value))=((λ_=>none:BA->Option Nat) x).map λ(n:Nat)=>Nv n:=(λx=>rfl);have HB:=(Below.refl w.heap.size w).alloc (br _)<|.map #[] 0;have HZ:(w.alloc<|.map #[] 0).heap.size=w.heap.size+1:=ah;go_enter func45,ntmps45
 go_wp2_with(first
  |(refine aY _ rfl _ _ _ _ (xg rfl) (KL.str qn) Tryz.underlying143 _ _ rfl H lA (.int .i64 ((0:Nat):Int)) rfl rfl trivial (λ_ _=>trivial) ?_;intro w1 H' O';have H1:=ai H';have xW:=ai<|FM.put HF lA 0;have eE:=ai<|One.below HB O'<|br _;have HZ1:=ai<|O'.size.trans HZ;clear H' O' H HF HB HZ)|(refine aY _ rfl _ _ _ _ (xg rfl) (KL.str qn) Tryz.underlying143 _ _ rfl H1 kC (.int .i64 ((0:Nat):Int)) rfl rfl trivial (λ_ _=>trivial) ?_;intro w2 H' O';have H2:=ai H';have xX:=ai<|FM.put xW kC 0;have h_:=ai<|One.below eE O'<|br _;have HZ2:=ai<|O'.size.trans HZ1;clear H' O' H1 xW eE HZ1)|(refine aY _ rfl _ _ _ _ (xg rfl) (KL.str qn) Tryz.underlying143 _ _ rfl H2 pS (.int .i64 ((0:Nat):Int)) rfl rfl trivial (λ_ _=>trivial) ?_;intro w3 H' O';have H3:=ai H';have HF3:=ai<|FM.put xX pS 0;have HB3:=ai<|One.below h_ O'<|br _;have HZ3:=ai<|O'.size.trans HZ2;clear H' O' H2 xX h_ HZ2))
 go_ret;have z3:=uh HZ3;have b4:Bq w3 (((w3.alloc<|.map #[] 0).alloc<|.map #[] 0).alloc<|Cv #[Mv w.heap.size,Mv w3.heap.size,Mv<|w3.heap.size+1,Iv 0,Iv 0,Iv 0] 145):=((bw _).alloc ah _).alloc bi _;have m1:MS Sv (((w3.alloc<|.map #[] 0).alloc<|.map #[] 0).alloc<|Cv #[Mv w.heap.size,Mv w3.heap.size,Mv<|w3.heap.size+1,Iv 0,Iv 0,Iv 0] 145) w3.heap.size []:=((MS.new Sv w3).below<|bw _).below<|bw _;have m2:MS Sv (((w3.alloc<|.map #[] 0).alloc<|.map #[] 0).alloc<|Cv #[Mv w.heap.size,Mv w3.heap.size,Mv<|w3.heap.size+1,Iv 0,Iv 0,Iv 0] 145) (w3.heap.size+1) []:=by
  have:=(MS.new Sv<|w3.alloc<|.map #[] 0).below<|bw<|Cv #[Mv w.heap.size,Mv w3.heap.size,Mv<|w3.heap.size+1,Iv 0,Iv 0,Iv 0] 145;simpa using this
 have bx:Bx (((w3.alloc<|.map #[] 0).alloc<|.map #[] 0).alloc<|Cv #[Mv w.heap.size,Mv w3.heap.size,Mv<|w3.heap.size+1,Iv 0,Iv 0,Iv 0] 145) (w3.heap.size+1+1) #[Mv w.heap.size,Mv w3.heap.size,Mv<|w3.heap.size+1,Iv 0,Iv 0,Iv 0]:=by
  have:=qv ((w3.alloc<|.map #[] 0).alloc<|.map #[] 0) #[Mv w.heap.size,Mv w3.heap.size,Mv<|w3.heap.size+1,Iv 0,Iv 0,Iv 0] 145;simpa using this
 have ft:=uh HF3;rw[agL]at ft;refine⟨w3.heap.size+1+1,w.heap.size,w3.heap.size,w3.heap.size+1,rfl,HB3.trans<|b4.mono ae,⟨ae,ae,ae,ae⟩,bx,⟨_,H3.below b4,ft⟩,⟨_,m1,λx=>rfl⟩,⟨_,m2,λx=>xh ⟨rfl,rfl⟩⟩,ae⟩
def adp{t:qd}{vs:List qd}(h:CK w cb tb mb lb ty mk lo)(hBt:B<=tb)(hBm:B<=mb)(hx:PD w (·<B) (.ty t vs ms) v)(HT:agJ ty mk t vs ms):
 Cq 46 #[cp cb,v] w λe w'=>e=.returned (.tuple #[])/\Fr (λb=>b=tb\/b=mb\/b=lb) w w'/\CK w' cb tb mb lb (wX ty t.text vs.length) (mkF mk ms) lo:=by
 obtain⟨x,u,vv,vm,rfl,hu,ht,hv,hm0,hm⟩:=hx;have HV:=hv.move c_ (br _) (λ_ _ _=>rfl)<|λ_ p _=>p;have HM:=hm.move bP (br _) (λ_ _ _=>rfl)<|λ_ p _=>p;obtain⟨va,vc,cv,rfl,-⟩:=hv;obtain⟨ma,mc,cm,rfl,-⟩:=hm;have iK:=(Below.refl w.heap.size w).alloc (br _)<|Cv #[Iv x,Iv u,Nv t.aD,Nv t.t9,Sv t.text,Lv va vs.length vc,Lv ma ms.length mc] 95;have HC:=ai<|MY (t:=t) (x:=x) (y:=u) (h.af iK) hBt hBm (HV.move c_ iK.size (λb _ z=>iK.block b z)<|λ_ p _=>p) (HM.move bP iK.size (λb _ z=>iK.block b z)<|λ_ p _=>p) HT;have HB:=ai iK;have⟨c1,f1,y1⟩:=Bx.new w #[Iv x,Iv u,Nv t.aD,Nv t.t9,Sv t.text,Lv va vs.length vc,Lv ma ms.length mc] 95;clear h iK HV HM HT ht hu;go_enter func46,ntmps46;go_wp2_with fail;refine HC.mono ?_;rintro e w2⟨rfl,K2,D2⟩;clear HC
 go_wp2
 go_end0;exact⟨rfl,(Fr.of HB).trans' K2<|λb q=>xg<|q.imp id xg,D2⟩
def adq{t:qd}{b:Nd}{dom:BA->Prop}(h:CK w cb tb mb lb ty mk lo)(Yh:B<=lb)(hx:PD w (·<B) (.lt false t b) v)(hs:tQ mks nl dom b)(hl:∀x,dom x->lo x≠0)(hM:MkT mks mk ty)(hn:nn b<=1000)(gJ:∀x,lo x<=2000):
 Cq 46 #[cp cb,v] w λe w'=>e=.returned (.tuple #[])/\Fr (λb=>b=tb\/b=mb\/b=lb) w w'/\CK w' cb tb mb lb ty mk (λx=>if x=t.text then lo t.text+1 else lo x):=by
 obtain⟨x,u,vb,rfl,hu,ht,hb⟩:=hx;have z:=h.lts;obtain⟨u1,x1,rfl⟩:=hb.iface;have iK:=(Below.refl w.heap.size w).alloc (br _)<|Cv #[Iv x,Iv u,.bool false,Nv t.aD,Nv t.t9,Sv t.text,Fv u1<|Av x1] 77;have X1:CE cb tb mb lb ty mk lo w _:=⟨h.af iK,Fr.of iK⟩;have B1:=ai<|Bx.new w #[Iv x,Iv u,.bool false,Nv t.aD,Nv t.t9,Sv t.text,Fv u1<|Av x1] 77;have HC:=ai (ado (agI b) X1.d Yh (hb.af iK) hs hl hM (λx=>by have:=gJ x;omega) (t.aD:Int) (t.t9:Int) t.text);have⟨c1,f1,y1⟩:=uh B1;clear h iK hb hs ht hu;go_enter func46,ntmps46;go_wp2_with fail;refine HC.mono ?_;rintro e w2⟨rfl,k2,d2⟩;have X2:=X1.fr k2 d2;have B2:=B1.fr k2<|λq=>ae;clear k2 d2 HC c1 f1 y1;obtain⟨N,hN⟩:∃N,Hid<|N=lo t.text:=⟨_,ai rfl⟩;have X3:=X2.af (Below.refl _ _).drew;have vC:=X3.d.l.look t.text;rw[<-uh hN]at vC;have⟨L,hM,HLL⟩:=X3.d.l;have⟨o,anR,wZ⟩:=hM.put (KL.str Tryz.underlying9) Tryz.underlying143 t.text (Iv<|(N:Int)+1) trivial<|λ_ _=>trivial;have hN7:(N:Int)<=3000:=by have:=gJ t.text;have:=uh hN;omega
 obtain⟨c1,f1,y1⟩:=B2;have⟨c2,f2,y2⟩:=X2.d.bx;clear hM
 go_wp2
 go_region
 all_goals(
  go_wp2
  go_end0;have M3:=wZ;rw[show(Iv<|(N:Int)+1)=.int .i64 ((N+1:Nat):Int)from rfl]at M3;have X5:=X3.put (One.set w2.drew lb o) M3<|LM.put HLL t.text<|N+1;rw[uh hN]at X5
  exact⟨rfl,X5.k.wide<|λb q=>xh<|xh q,X5.d⟩)
def yA(nl:List BA):List Dc->(BA->Option Nat)->(BA->Option Nat)->xd->List BA->Prop
 |[],_,_,_,_=>True|.ty t vs ms::r,ty,mk,mks,nm=>(agJ ty mk t vs ms/\TdF t vs ms/\MkFine (qy t vs ms mks)/\In.MF (qy t vs ms mks))/\yA nl r (wX ty t.text vs.length) (mkF mk ms) (qy t vs ms mks) nm|.lt rc t b::r,ty,mk,mks,nm=>(rc=false/\ScV mks nl rc (λv=>v∈nm\/(rc=true/\v=t.text)) b/\MkT mks mk ty/\t.text∈nl)/\yA nl r ty mk mks (nm++[t.text])
end
structure Qr(nl:List BA)(s:BA)(l:List Dc):Prop where
 r:lB s=.ok l
 o:yA nl l Yo (λ_=>none) (λ_=>none) []
 z:XK l<=802
 n:nl.length<=802
end
section
open Un
def EG.head(h:EG s):∃x r,s.toList=x::r/\65<=x.toNat/\x.toNat<=90:=by
 obtain⟨x,r,h1,h2,_⟩:=h;exact⟨x,r,h1,by simp[qj]at h2;omega,by simp[qj]at h2;omega⟩
def EG.ne(h:EG s)y q(hy:y.toNat<65\/90<y.toNat):s≠⟨(y::q).toArray⟩:=by
 rintro rfl;have⟨x,r,h1,h2,h3⟩:=h.head;rw[toList_mk]at h1;injection h1 with e1 _;subst e1;omega
def EG.MD(h:EG s)(hz:s.size<=4)n:MD s n:=
 ⟨hz,λe=>(by
  obtain e|e:=e
  .exact absurd e (h.ne 62 [] aA)
  .exact absurd e (h.ne 44 [] aA)),.inr<|.inr h⟩
def yh(h:adl s=some n):MD s n:=by
 have key:∀x r,s=⟨(x::r).toArray⟩->(x::r).length<=4->qj x.toNat=true->r.all (λy=>Pu.aV y.toNat)=true->MD s n:=λx r e h1 h2 h3=>by
  refine EG.MD ⟨x,r,by rw[e];exact toList_mk _,h2,λy hy=>List.all_eq_true.1 h3 y hy⟩ ?_ n;rw[e];exact h1
 simp only[adl,wX,Yo]at h;split at h
 .rename_i e;exact key 83 [] e aA aA aA
 split at h
 .rename_i e;exact key 76 [] e aA aA aA
 split at h
 .rename_i e;obtain e|e|e:=e
  .exact key 73 [110,116] e aA aA aA
  .exact key 66 [111,111,108] e aA aA aA
  .exact key 85 [110,105,116] e aA aA aA
 .cases h
def Zt{t}(h:Wf t):Wf (In.tY t):=In.qI h λ_=>In.Rs
end
section
open Go.ChangeMaps Un
abbrev vA:BA:=⟨#[39,97]⟩
def aab:Lx true [39,97] [(3,[39,97])]:=by
 have h:NmV vA:=⟨97,[],toList_mk _,aA,ah,by simp[qi,qh,toList_mk,xf]⟩;have:=h.lx
 rwa[show vA.toList=[39,97]from toList_mk _]at this
def amV:Lx false [116,121,112,101,32,76,32,39,97,32,61,32,78,32,124,32,67,32,39,97,32,40,76,32,39,97,41,59] [Jx,(2,[76]),(3,[39,97]),yEq,(2,[78]),E_,(2,[67]),(3,[39,97]),Jy,(2,[76]),(3,[39,97]),jM,kI]:=
 RZ.pre ((OA 76 aA).post (n9<|aab.mid agd rfl aA ((OA 78 aA).mid aac rfl aA ((OA 67 aA).post (n9<|aab.post (n9<|Fb.pre<|(OA 76 aA).post (n9<|aab.post (zZ.pre Fc) rfl aA) rfl aA) rfl aA) rfl aA))) rfl aA)
def amW:Lx false [116,121,112,101,32,83,32,61,32,80,32,124,32,81,32,73,110,116,32,66,111,111,108,59] [Jx,(2,[83]),yEq,(2,[80]),E_,(2,[81]),(2,[73,110,116]),(2,[66,111,111,108]),kI]:=
 RZ.pre ((OA 83 aA).mid agd rfl aA ((OA 80 aA).mid aac rfl aA ((OA 81 aA).post (n9<|(Dg 73 [110,116] aA aA).post (n9<|(Dg 66 [111,111,108] aA aA).post Fc rfl aA) rfl aA) rfl aA)))
def MI(f g:Nat->Nat):Nat->List Ky->List qd
 |_,[]=>[]|i,k::p=>⟨k.1,⟨k.2.toArray⟩,f i,g i⟩::MI f g (i+1) p
def Dh{f g f' g':Nat->Nat}:∀(p:List Ky)(i:Nat),(∀j,i<=j->f j=f' j/\g j=g' j)->MI f g i p=MI f' g' i p
 |[],_,_=>rfl|k::p,i,h=>by rw[MI,MI,(h i<|br _).1,(h i<|br _).2,Dh p (i+1) λj q=>h j ae]
def aad:∀(p:List Ky)(T:List qd)(i:Nat),T.map fC=p->∃f g,T=MI f g i p
 |[],T,i,h=>⟨λ_=>0,λ_=>0,List.map_eq_nil_iff.1 h⟩|k::p,T,i,h=>by
  obtain⟨t,T,rfl,h1,h2⟩:=List.map_eq_cons_iff.1 h;have⟨f,g,e⟩:=aad p T (i+1) h2;refine⟨λj=>if j=i then t.aD else f j,λj=>if j=i then t.t9 else g j,?_⟩;have e2:=Dh (f:=λj=>if j=i then t.aD else f j) (g:=λj=>if j=i then t.t9 else g j) (f':=f) (g':=g) p (i+1) λj q=>⟨if_neg ae,if_neg ae⟩;rw[MI,e2,<-e,<-h1];simp[fC,R_]
abbrev xK:List Ky:=[Jx,(2,[76]),(3,[39,97]),yEq,(2,[78]),E_,(2,[67]),(3,[39,97]),Jy,(2,[76]),(3,[39,97]),jM,kI,Jx,(2,[83]),yEq,(2,[80]),E_,(2,[81]),(2,[73,110,116]),(2,[66,111,111,108]),kI]
abbrev dL(f g:Nat->Nat):Dc:=.ty ⟨2,⟨#[76]⟩,f 1,g 1⟩ [⟨3,vA,f 2,g 2⟩] [.mk 2 ⟨#[78]⟩ 0 [] (f 4) (g 4)<|f 4,.mk 2 ⟨#[67]⟩ 0 [.mk 16 vA 0 [] (f 7) (g 7)<|f 7,.mk 2 ⟨#[76]⟩ 0 [.mk 16 vA 0 [] (f 10) (g 10)<|f 10] (f 9) (g 10)<|f 9] (f 6) (g 11)<|f 6]
abbrev dS(f g:Nat->Nat):Dc:=.ty ⟨2,⟨#[83]⟩,f 14,g 14⟩ [] [.mk 2 ⟨#[80]⟩ 0 [] (f 16) (g 16)<|f 16,.mk 2 ⟨#[81]⟩ 0 [.mk 2 lA 0 [] (f 19) (g 19)<|f 19,.mk 2 kC 0 [] (f 20) (g 20)<|f 20] (f 18) (g 20)<|f 18]
abbrev dPs(f g:Nat->Nat):List Dc:=[dL f g,dS f g]
abbrev tyL:Ty:=.aM ⟨#[76]⟩ [.var 1]
abbrev H_:Ty:=.aM ⟨#[83]⟩ []
def mkN:xd:=λy=>if y=⟨#[67]⟩then some ([.var 1,tyL],tyL)else if y=⟨#[78]⟩then some ([],tyL)else none
def xL:xd:=λy=>if y=⟨#[81]⟩then some ([In.n_,In.kJ],H_)else if y=⟨#[80]⟩then some ([],H_)else mkN y
def mkA:BA->Option Nat:=wX (wX (wX (wX (λ_=>none) ⟨#[78]⟩ 0) ⟨#[67]⟩ 2) ⟨#[80]⟩ 0) ⟨#[81]⟩ 2
structure MkG(tk:List Ty)(m:Ty):Prop where
 z:size (qx tk m)<=1000
 w:Whole (qx tk m)
 v:∀n,aG n (qx tk m)->aG n m
 t:Jz tk
 f:Wf m
def akK(h:s.size<=4):s≠uk:=λe=>by rw[e]at h;exact absurd h aA
def ahG{y:BA}{tk:List Ty}{m:Ty}(h:xL y=some (tk,m)):MkG tk m:=by
 have oL:MD ⟨#[76]⟩ 1:=yh qkr;have oS:MD ⟨#[83]⟩ 0:=yh qkr;have oI:MD lA 0:=yh qkr;have oB:MD kC 0:=yh qkr;have w:∀s:BA,s.size<=4->∀l,nX l->Whole (.aM s l):=λs h l q=>⟨akK h,q⟩;unfold xL mkN at h;repeat' split at h
 all_goals cases h
 .exact⟨by simp[qx,size,ak],w _ aA _ ⟨w _ aA _ trivial,w _ aA _ ⟨w _ aA _ trivial,w _ aA _ trivial,trivial⟩,trivial⟩,by simp[qx,aG,ck],⟨⟨oI,trivial⟩,⟨oB,trivial⟩,trivial⟩,oS,trivial⟩
 .exact⟨by simp[qx,size,ak],w _ aA _ trivial,by simp[qx],trivial,oS,trivial⟩
 .exact⟨by simp[qx,size,ak],w _ aA _ ⟨trivial,w _ aA _ ⟨w _ aA _ ⟨trivial,trivial⟩,w _ aA _ ⟨trivial,trivial⟩,trivial⟩,trivial⟩,by simp[qx,aG,ck],⟨trivial,⟨oL,trivial,trivial⟩,trivial⟩,oL,trivial,trivial⟩
 .exact⟨by simp[qx,size,ak],w _ aA _ ⟨trivial,trivial⟩,by simp[qx],trivial,oL,trivial,trivial⟩
def akL{y:BA}{tk:List Ty}{m:Ty}(h:mkN y=some (tk,m)):MkG tk m:=by
 have h0:=h;unfold mkN at h;split at h
 .exact ahG (y:=⟨#[67]⟩) (by rw[<-h];kernel_rfl)
 split at h
 .exact ahG (y:=⟨#[78]⟩) (by rw[<-h];kernel_rfl)
 .cases h
def aae(h:∀{y tk m},mks y=some (tk,m)->MkG tk m):MkFine mks/\In.MF mks:=⟨⟨λ_ _ _ q=>(h q).z,λ_ _ _ q=>(h q).w,λ_ _ _ q=>(h q).v⟩,λ_ _ _ q=>⟨(h q).t,(h q).f⟩⟩
def akM:MkA xL mkA:=by
 intro y tk m h;unfold xL mkN at h;repeat' split at h
 all_goals cases h
 all_goals(rename_i e;subst e;kernel_rfl)
section
variable (f g:Nat->Nat)
set_option maxRecDepth 100000
def akN(T:List qd)(n:Nat):eG (MI f g 0 xK++T) (n+22) 0=.ok (dL f g,13):=qkr
def akO(T:List qd)(n:Nat):eG (MI f g 0 xK++T) (n+22) 13=.ok (dS f g,22):=qkr
def akP(T:List qd):aU (tk (MI f g 0 xK++T) 0) lO=true:=qkr
def ahH(T:List qd):aU (tk (MI f g 0 xK++T) 13) lO=true:=qkr
def ahI{B:List Dc}(h:yA nlM B adl mkA xL []):yA nlM (dPs f g++B) Yo (λ_=>none) (λ_=>none) []:=by
 have e1:qy ⟨2,⟨#[76]⟩,f 1,g 1⟩ [⟨3,vA,f 2,g 2⟩] [.mk 2 ⟨#[78]⟩ 0 [] (f 4) (g 4)<|f 4,.mk 2 ⟨#[67]⟩ 0 [.mk 16 vA 0 [] (f 7) (g 7)<|f 7,.mk 2 ⟨#[76]⟩ 0 [.mk 16 vA 0 [] (f 10) (g 10)<|f 10] (f 9) (g 10)<|f 9] (f 6) (g 11)<|f 6] (λ_=>none)=mkN:=qkr;have e2:qy ⟨2,⟨#[83]⟩,f 14,g 14⟩ [] [.mk 2 ⟨#[80]⟩ 0 [] (f 16) (g 16)<|f 16,.mk 2 ⟨#[81]⟩ 0 [.mk 2 lA 0 [] (f 19) (g 19)<|f 19,.mk 2 kC 0 [] (f 20) (g 20)<|f 20] (f 18) (g 20)<|f 18] mkN=xL:=qkr;refine⟨⟨⟨qkr,λj h=>?_,λj h=>?_,by simp[cV,nn]⟩,⟨⟨76,[],toList_mk _,aA⟩,ah,ah,λv hv=>?_,ah,λj h=>?_⟩,?_⟩,⟨⟨qkr,λj h=>absurd h ah,λj h=>?_,by simp[cV,nn]⟩,⟨⟨83,[],toList_mk _,aA⟩,ah,ah,ah,ah,λj h=>?_⟩,?_⟩,?_⟩
 .match j,h with
  |0,_=>show _=_;kernel_rfl
 .match j,h with
  |0,_=>exact⟨qkr,qkr⟩|1,_=>exact⟨qkr,qkr⟩
 .rw[List.mem_singleton.1 hv];exact⟨[97],toList_mk _⟩
 .match j,h with
  |0,_=>exact⟨_,_,_,_,_,_,rfl,ah,λk hk=>absurd hk ah⟩
  |1,_=>exact⟨_,_,_,_,_,_,rfl,ah,λk hk=>match k,hk with
   |0,_=>⟨.var ..,qkr,qkr⟩
   |1,_=>⟨.up _ _ _ _ _ _ (λn=>EG.MD ⟨76,[],toList_mk _,aA,ah⟩ aA n) ah λi h=>match i,h with
    |0,_=>.var ..,qkr,qkr⟩⟩
 .rw[e1];exact aae akL
 .match j,h with
  |0,_=>exact⟨qkr,qkr⟩|1,_=>exact⟨qkr,qkr⟩
 .match j,h with
  |0,_=>exact⟨_,_,_,_,_,_,rfl,ah,λk hk=>absurd hk ah⟩
  |1,_=>exact⟨_,_,_,_,_,_,rfl,ah,λk hk=>match k,hk with
   |0,_=>⟨.up _ _ _ _ _ _ (λn=>EG.MD ⟨73,[110,116],toList_mk _,aA,aA⟩ aA n) ah λi h=>absurd h ah,qkr,qkr⟩|1,_=>⟨.up _ _ _ _ _ _ (λn=>EG.MD ⟨66,[111,111,108],toList_mk _,aA,aA⟩ aA n) ah λi h=>absurd h ah,qkr,qkr⟩⟩
 .rw[e1,e2];exact aae ahG
 .rw[e1,e2];exact h
end
def rZ(h:es x=.mk k s 0 [] 0 0 0)(hk:k≠3/\k≠15):∃n f t a,x=.mk k s n [] f t a:=by
 obtain⟨_,n,M,f,t,a,rfl,q,e⟩:=z_ h;obtain rfl:=q hk.1 hk.2;rw[Di e];exact⟨n,f,t,a,rfl⟩
end
section
open Un
inductive nu:Nat->List UInt8->Ms.Sk->Ms.So->Prop where
 |any(t:Ms.So):nu 5 [95] .any t
 |num(c:UInt8)(r:List UInt8)(h:(ql c.toNat&&r.all λy=>ql y.toNat)=true)(hl:r.length<=8):nu 5 (c::r) (.hd .i (xM<|bs (c::r)) []) .i
 |Hv(c:Bool):nu 5 (if c then[116,114,117,101]else[102,97,108,115,101]) (.hd .b (if c then 1 else 0) []) .b
 |nil:nu 5 [78] (.hd .l 0 []) .l
 |p:nu 5 [80] (.hd .s 0 []) .s
 |aM{l m:List UInt8}{a b:Ms.Sk}:nu 5 l a .b->nu 5 m b .l->nu 4 ([67]++32::l++32::m) (.hd .l 1 [a,b]) .l
 |q{l m:List UInt8}{a b:Ms.Sk}:nu 5 l a .i->nu 5 m b .b->nu 4 ([81]++32::l++32::m) (.hd .s 1 [a,b]) .s
 |xU{l:List UInt8}{s:Ms.Sk}{t:Ms.So}:nu 4 l s t->nu 5 (40::(l++[41])) s t
 |pr{v w:Nat}{l m:List UInt8}{a b:Ms.Sk}:nu v l a .l->nu w m b .b->nu 5 (40::(l++([44,32]++(m++[41])))) (.hd .p 0 [a,b]) .p
def PtE(t:Nd)(s:Ms.Sk)(u:Ms.So):=∀nd,es nd=t->In.Pt nd s u
def num_inv{l:List Nd}(h:es nd=.mk 3 s n l 0 0 0):∃s' L f t a,nd=.mk 3 s' n L f t a/\Hz L=l:=by
 obtain⟨k',s',n',L,f,t,a⟩:=nd;simp only[es,Nd.mk.injEq]at h;obtain⟨rfl,_,h1,h2,_⟩:=h;simp at h1;exact⟨s',L,f,t,a,by rw[h1],h2⟩
def nu.read{v:Nat}{l:List UInt8}{s:Ms.Sk}(h:nu v l s t):∃p nd,Lx true l p/\PtE nd s t/\((v=5/\xN 5 p nd)\/v=4/\xN 4 p nd):=by
 have two:∀{c:UInt8}{l m:List UInt8}{p q:List Ky}{x y:Nd},qj c.toNat=true->Lx true l p->Lx true m q->xN 5 p x->xN 5 q y->∃r,Lx true ([c]++32::l++32::m) r/\xN 4 r (tUp ⟨#[c]⟩ [x,y]):=λ{c l m p q x y}hc h1 h2 h3 h4=>by
  have a:=((Dg c [] hc ah).OB (n9 h1) λ_=>⟨32,_,rfl,aA⟩).OB (n9 h2) λ_=>⟨32,_,rfl,aA⟩;exact⟨_,by simpa using a,by simpa using((xN.up [c]).arg h3).arg h4⟩
 induction h with
 |any u=>
  refine⟨[ahJ],iL ahJ,ahK.EK,λnd e=>?_,.inl ⟨rfl,xN.leaf λ_ _=>⟨qkr,qkr⟩⟩⟩;obtain⟨s',n',L,f,t,a,rfl,_,e2⟩:=z_ (k:=15)<|show es nd=.mk 15 ph 0 [] 0 0 0 from e.trans qkr;rw[Di e2];exact .any ..
 |num c r h hl=>
  simp only[Bool.and_eq_true,List.all_eq_true]at h;refine⟨[(4,c::r)],iL (4,c::r),aaf c r h.1 h.2 hl,λnd e=>?_,.inl ⟨rfl,xN.leaf λ_ _=>⟨rfl,rfl⟩⟩⟩;obtain⟨s',L,f,t,a,rfl,e2⟩:=num_inv (n:=xM<|bs (c::r))<|show es nd=.mk 3 ph _ [] 0 0 0 from e.trans rfl;rw[Di e2];exact .num ..
 |Hv c=>
  cases c with
  |true=>
   refine⟨[aag],iL aag,aeb,λnd e=>?_,.inl ⟨rfl,xN.leaf λ_ _=>⟨qkr,qkr⟩⟩⟩;obtain⟨n,f,t,a,rfl⟩:=rZ (k:=4) (s:=⟨#[116,114,117,101]⟩) (e.trans qkr) aA;exact .Hv true ..
  |false=>
   refine⟨[(5,[102,97,108,115,101])],iL (5,[102,97,108,115,101]),aah 102 [97,108,115,101] qkr,λnd e=>?_,.inl ⟨rfl,xN.leaf λ_ _=>⟨qkr,qkr⟩⟩⟩;obtain⟨n,f,t,a,rfl⟩:=rZ (k:=4) (s:=⟨#[102,97,108,115,101]⟩) (e.trans qkr) aA;exact .Hv false ..
 |nil=>
  refine⟨[(2,[78])],iL (2,[78]),Dg 78 [] aA ah,λnd e=>?_,.inl ⟨rfl,xN.leaf λ_ _=>⟨qkr,qkr⟩⟩⟩;obtain⟨n,f,t,a,rfl⟩:=rZ (k:=2) (s:=⟨#[78]⟩) (e.trans qkr) aA;exact .nil ..
 |p=>
  refine⟨[(2,[80])],iL (2,[80]),Dg 80 [] aA ah,λnd e=>?_,.inl ⟨rfl,xN.leaf λ_ _=>⟨qkr,qkr⟩⟩⟩;obtain⟨n,f,t,a,rfl⟩:=rZ (k:=2) (s:=⟨#[80]⟩) (e.trans qkr) aA;exact .p ..
 |aM _ _ h1 h2=>
  obtain⟨p,x,a1,b1,c1⟩:=h1;obtain⟨q,y,a2,b2,c2⟩:=h2;have⟨r,g1,g2⟩:=two (c:=67) aA a1 a2 (c1.elim And.right λq=>absurd q.1 aA)<|c2.elim And.right λq=>absurd q.1 aA;refine⟨r,_,g1,λnd e=>?_,.inr ⟨rfl,g2⟩⟩;obtain⟨s',n',M,f,t,a,rfl,e1,e2⟩:=z_ e;obtain rfl:=e1 aA aA;obtain⟨x',M,rfl,ex,e2⟩:=Dj e2;obtain⟨y',M,rfl,ey,e2⟩:=Dj e2;rw[Di e2];exact .aM _ _ _ _ (b1 x' ex)<|b2 y' ey
 |q _ _ h1 h2=>
  obtain⟨p,x,a1,b1,c1⟩:=h1;obtain⟨q,y,a2,b2,c2⟩:=h2;have⟨r,g1,g2⟩:=two (c:=81) aA a1 a2 (c1.elim And.right λq=>absurd q.1 aA)<|c2.elim And.right λq=>absurd q.1 aA;refine⟨r,_,g1,λnd e=>?_,.inr ⟨rfl,g2⟩⟩;obtain⟨s',n',M,f,t,a,rfl,e1,e2⟩:=z_ e;obtain rfl:=e1 aA aA;obtain⟨x',M,rfl,ex,e2⟩:=Dj e2;obtain⟨y',M,rfl,ey,e2⟩:=Dj e2;rw[Di e2];exact .q _ _ _ _ (b1 x' ex)<|b2 y' ey
 |xU _ h1=>
  obtain⟨p,x,a1,b1,c1⟩:=h1;have a:=(Fb.pre<|a1.post zZ rfl aA).EK;exact⟨_,x,by simpa using a,b1,.inl ⟨rfl,(qN.d4<|c1.elim (λq=>absurd q.1 aA) And.right).xU⟩⟩
 |pr _ _ h1 h2=>
  obtain⟨p,x,a1,b1,c1⟩:=h1;obtain⟨q,y,a2,b2,c2⟩:=h2;have a:=(Fb.pre<|a1.mid ahL rfl aA (a2.post zZ rfl aA)).EK;have r1:qN p x:=c1.elim (λq=>.d5 q.2) λq=>.d4 q.2;have r2:qN q y:=c2.elim (λq=>.d5 q.2) λq=>.d4 q.2;refine⟨_,aai x y,by simpa using a,λnd e=>?_,.inl ⟨rfl,r1.pair r2⟩⟩;obtain⟨s',n',M,f,t,a,rfl,e1,e2⟩:=z_ e;obtain⟨x',M,rfl,ex,e2⟩:=Dj e2;obtain⟨y',M,rfl,ey,e2⟩:=Dj e2;rw[Di e2];exact .pr _ _ _ _ _ (b1 x' ex)<|b2 y' ey
section
variable {q:List Ky} {y:Nd}
inductive JA:List Ky->List (Nd×Nd)->Prop where
 |one{p r:List Ky}{x y:Nd}:qN p x->Ia 0 r y->JA (p++(qO::r)) [(x,y)]
 |cons{p r q:List Ky}{x y:Nd}{A:List (Nd×Nd)}:qN p x->Ia 0 r y->JA q A->JA (p++(qO::(r++(E_::q)))) ((x,y)::A)
def JA.reads(h:JA q A):∀(T:List qd)(k n f:Nat)(l:List Nd),jN T k q->q.length<=n->q.length<=T.length+1->q.length<=f->fC (tk T<|k+q.length)=Fe->∃B,Xq B=A/\(∀b∈B,∃k' j,k<=k'/\b_ T n k'=.ok (b.1,j))/\m8 T (b_ T n) (bu T n) f l k=.ok (l++bh B,k+q.length):=by
 induction h with
 | @one p r x y hp hr=>
   intro T k n f l hs hn hT hf he;simp only[dr,de]at hn hT hf he;have hm:=hs.right.hd;obtain⟨f,rfl⟩:∃g,f=g+1:=⟨f-1,ae⟩;have⟨nd,e,h1⟩:=hp.2 T k n hs.left ae ae<|Aa hm qkr;have⟨nd2,e2,h2⟩:=hr.2 T _ n hs.right.tl ae ae (OC (x:=Fe) (by rw[<-he];congr 2;omega) aA);refine⟨[(nd,nd2)],by simp[Xq,e,e2],λb hb=>?_,?_⟩
   .obtain rfl:b=(nd,nd2):=by simpa using hb
    exact⟨k,_,br _,h1⟩
   have hb:aU (tk T<|k+p.length+1+r.length) VY=false:=r8 (by rw[<-he];congr 2;omega) (show Fe≠(5,[124]) by decide);unfold m8;simp only[aX,h1,fZ hm,h2,hb];simp[bh];omega
 | @cons p r q x y A hp hr hA ih=>
   intro T k n f l hs hn hT hf he;simp only[dr,de]at hn hT hf he;have hm:=hs.right.hd;have UB:=hs.right.tl.left;have hb:=hs.right.tl.right.hd;have hq:=hs.right.tl.right.tl;obtain⟨f,rfl⟩:∃g,f=g+1:=⟨f-1,ae⟩;have⟨nd,e,h1⟩:=hp.2 T k n hs.left ae ae<|Aa hm qkr;have⟨nd2,e2,h2⟩:=hr.2 T _ n UB ae ae<|OC hb aA;have⟨B,e3,e4,h3⟩:=ih T _ n f (l++[nd,nd2]) hq ae ae ae (by rw[<-he];congr 2;omega);refine⟨(nd,nd2)::B,by simp[Xq,e,e2];exact e3,λb hb=>?_,?_⟩
   .obtain rfl|hb:=List.mem_cons.1 hb
    .exact⟨k,_,br _,h1⟩
    .have⟨k',j,z,q⟩:=e4 b hb;exact⟨k',j,ae,q⟩
   unfold m8;simp only[aX,h1,fZ hm,h2,qP hb,h3];simp[bh];omega
def aaj(h:Ia 0 p x)(h':JA q A){T:List qd}(hs:jN T k (Ab::(p++(Dk::(q++[Fe])))))(hn:p.length+q.length+3<=m+1)(hT:p.length+q.length+3<=T.length+1):
 ∃nd B,es nd=x/\Xq B=A/\(∀b∈B,∃k' j,k<k'/\b_ T m k'=.ok (b.1,j))/\bu T (m+1) k=.ok (.mk 13 ph 0 (nd::bh B) (tk T k).aD (aR T<|k+1+p.length+1+q.length+1) (tk T k).aD,k+1+p.length+1+q.length+1):=by
 have h0:=hs.hd;have hp:=hs.tl.left;have h1:=hs.tl.right.hd;have hq:=hs.tl.right.tl.left;have h2:=hs.tl.right.tl.right.hd;have⟨nd,e,hr⟩:=h.2 T _ m hp ae ae<|OC h1 aA;have⟨B,e2,e3,Eu⟩:=h'.reads T _ m T.length [nd] hq ae ae ae h2;refine⟨nd,B,e,e2,λb hb=>by have⟨k',j,z,q⟩:=e3 b hb;exact⟨k',j,ae,q⟩,?_⟩;unfold bu;rw[r8 h0 aA,r8 h0 aA,qP h0];show uq T (b_ T m) (bu T m) k=_;unfold uq;simp only[aX,fZ h0,hr,fZ h1,Eu,fZ h2];simp
end
def dc:List (List UInt8)->List UInt8
 |[]=>[]|[a]=>a++[45,62,49]|a::b::r=>a++([45,62,49,124]++dc (b::r))
def aak:Lx true [49] [(4,[49])]:=aaf 49 [] aA ah ah
def aec:Lx false [124] [E_]:=aal 124 aA aA aA aA aA aA aA
section
variable {q:List Ky}
abbrev VZ(q:List Ky):List Ky:=aed::(1,[120])::yEq::aee::(1,[97])::qO::Ab::([((1,[97]):Ky)]++(Dk::(q++[Fe])))
def V4(h:JA q A){T:List qd}(hs:jN T k (VZ q++[kI]))(hn:q.length+11<=m)(hT:q.length+11<=T.length+1):
 ∃nd B f t,es nd=iL (1,[97])/\Xq B=A/\(∀b∈B,∃n' k' j,k+6<k'/\b_ T n' k'=.ok (b.1,j))/\eG T m k=.ok (.lt false (tk T<|k+1)<|.mk 9 (tk T<|k+4).text 0 [.mk 13 ph 0 (nd::bh B) (tk T<|k+6).aD (aR T<|k+q.length+10) (tk T<|k+6).aD] f t (tk T<|k+4).aD,k+(VZ q++[kI]).length):=by
 have iO:=hs.left;have hm:fC (tk T<|k+(VZ q).length)=kI:=hs.right.hd;have h0:=iO.hd;have h1:=iO.tl.hd;have h2:=iO.tl.tl.hd;have hf:=iO.tl.tl.tl;have f0:=hf.hd;have f1:=hf.tl.hd;have f2:=hf.tl.tl.hd;have hM:=hf.tl.tl.tl;obtain⟨m,rfl⟩:∃n,m=n+2:=⟨m-2,ae⟩;have hx:Ia 0 [((1,[97]):Ky)] (iL (1,[97])):=(Ia.leaf λ_ _=>⟨qkr,qkr⟩).d50;have⟨nd,B,e,e2,e3,hr⟩:=aaj (m:=m) hx h hM bi bi;obtain⟨g1,-⟩:=Sa h1;obtain⟨g2,-⟩:=Sa f1;simp only[de,eF,j3]at hr;have hF:bu T (m+2) (k+1+1+1)=.ok (.mk 9 (tk T<|k+4).text 0 [.mk 13 ph 0 (nd::bh B) (tk T<|k+6).aD (aR T<|k+q.length+10) (tk T<|k+6).aD] (tk T<|k+3).aD (aR T<|k+q.length+10) (tk T<|k+4).aD,k+q.length+10):=by
  unfold bu;rw[qP f0,if_pos rfl];show uv T (bu T<|m+1) _=_;unfold uv;simp only[aX,fZ f0,g2,fZ f2,hr];rw[show k+1+1+1+1+1+1+1+1+1+q.length+1=k+q.length+10 by omega]
 refine⟨nd,B,(tk T<|k+3).aD,aR T<|k+q.length+10,e,e2,λb hb=>by have⟨k',j,z,w⟩:=e3 b hb;exact⟨m,k',j,ae,w⟩,?_⟩;have CC:fC (tk T<|k+q.length+10)=kI:=by rw[<-hm];congr 2;simp;omega
 unfold eG;rw[r8 h0 aA];show Dl T (bu T<|m+2) k=_;unfold Dl boundM;simp only[aX,fZ h0,r8 h1<|show((1,[120]):Ky)≠(5,[114,101,99]) by simp,g1,fZ h2,hF,fZ CC];simp only[Bool.false_eq_true,if_false];rw[show bm T Dm (k+q.length+10)=.ok ((),k+q.length+10+1)from fZ CC];simp;omega
end
inductive Ff(t:Ms.So):List (List UInt8)->List Ms.Sk->Prop where
 |nil:Ff t [] []
 |cons{v:Nat}{l:List UInt8}{s:Ms.Sk}{ls:List (List UInt8)}{S:List Ms.Sk}:nu v l s t->Ff t ls S->Ff t (l::ls) (s::S)
def ArB(t:Ms.So)(B:List (Nd×Nd))(S:List Ms.Sk):=∃Z:List (Nd×Ms.Sk),Z.map (·.1)=B.map (·.1)/\Z.map (·.2)=S/\(∀z∈Z,In.Pt z.1 z.2 t)/\∀i(h:i<B.length),∃s n f t a,B[i].2=.mk 3 s n [] f t a
def aam:Ia 0 [((4,[49]):Ky)] (iL (4,[49])):=(Ia.leaf λ_ _=>⟨qkr,qkr⟩).d50
def Sb(h:es nd=iL (4,[49])):∃s n f t a,nd=.mk 3 s n [] f t a:=by
 obtain⟨s0,n0,e0⟩:∃s n,iL (4,[49])=.mk 3 s n [] 0 0 0:=⟨_,_,rfl⟩;rw[e0]at h;have⟨s,L,f,t,a,e,e2⟩:=num_inv h
 cases L with
 |nil=>exact⟨s,n0,f,t,a,e⟩|cons x L=>simp[Hz]at e2
def nu.rd0{v:Nat}{l:List UInt8}{s:Ms.Sk}(h:nu v l s t):∃p nd,Lx true l p/\PtE nd s t/\qN p nd:=by
 obtain⟨p,nd,h1,h2,h3⟩:=h.read;refine⟨p,nd,h1,h2,?_⟩;obtain⟨_,h⟩|⟨_,h⟩:=h3
 .exact .d5 h
 .exact .d4 h
def Ff.read{S:List Ms.Sk}(h:Ff t ls S):ls≠[]->∃q A,Lx true (dc ls) q/\JA q A/\∀B,Xq B=A->ArB t B S:=by
 induction h with
 |nil=>intro h;exact absurd rfl h| @cons v l s ls S hp hr ih=>
   intro _;have⟨p,nd,h1,h2,h3⟩:=hp.rd0
   cases ls with
   |nil=>
    cases hr
    refine⟨p++(qO::[(4,[49])]),[(nd,iL (4,[49]))],?_,.one h3 aam,λB e=>?_⟩
    .have:=h1.OB (Ac.OB aak λq=>eh) λ_=>⟨45,_,rfl,aA⟩;simpa[dc]using this
    .match B,e with
     |[(x,y)],e=>
      simp only[Xq,jd,jx,List.cons.injEq,Prod.mk.injEq,and_true]at e;refine⟨[(x,s)],rfl,rfl,λz hz=>?_,λi hi=>?_⟩
      .obtain rfl:z=(x,s):=by simpa using hz
       exact h2 x e.1
      .obtain rfl:i=0:=yT;exact Sb e.2
     |[],e=>simp[Xq]at e|_::_::_,e=>simp[Xq]at e
   |cons l' ls=>
    have⟨q,A,g1,g2,g3⟩:=ih ah;refine⟨p++(qO::([(4,[49])]++(E_::q))),(nd,iL (4,[49]))::A,?_,.cons h3 aam g2,λB e=>?_⟩
    .have:=h1.OB (Ac.OB (aak.OB (aec.OB g1 λq=>eh) λ_=>⟨124,_,rfl,aA⟩) λq=>eh) λ_=>⟨45,_,rfl,aA⟩;simpa[dc]using this
    .match B,e with
     |[],e=>simp[Xq]at e|(x,y)::B,e=>
      simp only[Xq,jd,List.cons.injEq,Prod.mk.injEq]at e;have⟨Z,z1,z2,z3,z4⟩:=g3 B e.2;refine⟨(x,s)::Z,by simp[z1],by simp[z2],λz hz=>?_,λi hi=>?_⟩
      .obtain rfl|hz:=List.mem_cons.1 hz
       .exact h2 x e.1.1
       .exact z3 z hz
      .cases i with
       |zero=>exact Sb e.1.2|succ i=>have:=z4 i yT;simpa using this
def cS(ls:List (List UInt8)):List UInt8:=OD++([108,101,116,32,120,61,102,117,110,32,97,45,62]++([109,97,116,99,104,32,97,32,119,105,116,104,32]++(dc ls++[32,101,110,100,59])))
def amX:Lx true [120] [(1,[120])]:=by
 have:=OE 120 [] aA ah;simpa[qi,qh,toList_mk,xf]using this
def akQ:Lx true [97] [(1,[97])]:=by
 have:=OE 97 [] aA ah;simpa[qi,qh,toList_mk,xf]using this
def amY:Lx true [101,110,100] [Fe]:=Sc 101 [110,100] aA aA (by simp[qi,qh,toList_mk,xf])
def aef:Lx false (OD++[108,101,116,32,120,61,102,117,110,32,97,45,62]) (xK++[aed,(1,[120]),yEq,aee,(1,[97]),qO]):=by
 have h1:Lx false OD xK:=amV.pre amW;have h2:=ahM.pre<|amX.OB (aan.pre<|ahN.pre<|akQ.OB Ac λ_=>⟨45,_,rfl,aA⟩) λ_=>⟨61,_,rfl,aA⟩;exact h1.pre (by simpa using h2)
def ahO{q:List Ky}(h:Lx true (dc ls) q):Lx false ([109,97,116,99,104,32,97,32,119,105,116,104,32]++(dc ls++[32])) (Ab::([((1,[97]):Ky)]++(Dk::q))):=by
 have h2:=h.OB lP λ_=>⟨32,_,rfl,aA⟩;have h3:=aao.pre<|akQ.OB (aeg.pre h2) λ_=>⟨32,_,rfl,aA⟩;simpa using h3
def OG(s:BA)(i:Nat):(qe s i).text=s.extract i (qe s i).t9:=by
 unfold qe;repeat' split
 all_goals rfl
def JB{T R:List qd}{c:Ky}(h:i<s.size)(hb:Pu.cB (Pu.at_ s i)=false)(e:qf s i=T++R)(k:T.map fC=c::p):∃T',T=qe s i::T':=by
 obtain⟨t,T',rfl,-,-⟩:=List.map_eq_cons_iff.1 k;rw[Pu.Ad h hb]at e;injection e with e1 _;exact⟨T',by rw[e1]⟩
def aap{q:List Ky}(h:Lx true (dc ls) q):∃T1 T2 t3 t4,qf (bs<|cS ls) 0=T1++(T2++([t3]++([t4]++[qg<|bs<|cS ls])))/\T1.map fC=xK++[aed,(1,[120]),yEq,aee,(1,[97]),qO]/\T2.map fC=Ab::([((1,[97]):Ky)]++(Dk::q))/\fC t3=Fe/\fC t4=kI/\(∃r,T2=qe (bs<|cS ls) 65::r)/\t3.t9=(cS ls).length-1:=by
 have e0:cS ls=(OD++[108,101,116,32,120,61,102,117,110,32,97,45,62])++(([109,97,116,99,104,32,97,32,119,105,116,104,32]++(dc ls++[32]))++([101,110,100]++[59])):=by simp[cS]
 have hs:=ahP<|cS ls;have hz:(bs<|cS ls).size=(cS ls).length:=bS _;generalize bs (cS ls)=s at*;have hn:(cS ls).length=65+(13+((dc ls).length+1))+4:=by rw[e0];simp[OD];omega
 rw[e0]at hs;have s1:=hs.left;have s2:=hs.right.left;have s3:=hs.right.right.left;have s4:=hs.right.right.right;have l1:(OD++[108,101,116,32,120,61,102,117,110,32,97,45,62]).length=65:=rfl;have l2:([109,97,116,99,104,32,97,32,119,105,116,104,32]++(dc ls++[32])).length=13+((dc ls).length+1):=bi;rw[l1]at s2 s3 s4;rw[l2]at s3 s4;have⟨T1,a1,k1⟩:=aef s 0 s1 (jz _)<|λq=>eh;have⟨T2,a2,k2⟩:=ahO h s (0+65) s2 ae<|λq=>eh;have⟨T3,a3,k3⟩:=amY s (0+65+(13+((dc ls).length+1))) s3 ae (λ_=>by rw[s4.hd.2];decide);have⟨T4,a4,k4⟩:=Fc s (0+65+(13+((dc ls).length+1))+3) s4 ae<|λq=>eh;rw[l1]at a1;rw[l2]at a2;have b3:qf s (0+65+(13+((dc ls).length+1)))=T3++qf s (0+65+(13+((dc ls).length+1))+3):=a3;have b4:qf s (0+65+(13+((dc ls).length+1))+3)=T4++qf s (0+65+(13+((dc ls).length+1))+3+1):=a4;rw[Pu.JD (i:=0+65+(13+((dc ls).length+1))+3+1) ae]at b4;obtain⟨t3,T3',rfl,u3,u3'⟩:=List.map_eq_cons_iff.1 k3;obtain rfl:=List.map_eq_nil_iff.1 u3';obtain⟨t4,T4',rfl,u4,u4'⟩:=List.map_eq_cons_iff.1 k4;obtain rfl:=List.map_eq_nil_iff.1 u4';have g2:=JB ae (by rw[s2.hd.2];decide) a2 k2;have⟨r3,g3⟩:=JB (c:=Fe) (p:=[]) ae (by rw[s3.hd.2];decide) b3 k3;have g3:t3=qe s (0+65+(13+((dc ls).length+1))):=by injection g3
 refine⟨T1,T2,t3,t4,by rw[a1,a2,b3,b4],k1,k2,u3,u4,by simpa using g2,?_⟩;have ht:=OG s<|0+65+(13+((dc ls).length+1));have hto:=Pu.lQ s (0+65+(13+((dc ls).length+1))) ae;rw[<-g3]at ht hto;have hx:t3.text.toList=[101,110,100]:=congrArg Prod.snd u3;have hy:t3.text.size=3:=by have:=congrArg jf hx;simpa[xf]using this
 rw[ht,ByteArray.size_extract]at hy;omega
def aaq{Z:List qd}(h:Y.map fC=p):jN (X++(Y++Z)) X.length p:=λi hi=>by
 have hl:Y.length=p.length:=by rw[<-h];simp
 have:tk (X++(Y++Z)) (X.length+i)=Y[i]'(by omega):=by
  unfold tk;rw[jc,ju ae,Nat.add_sub_cancel_left,List.getElem?_append_left ae,ja ae];rfl
 rw[this];subst h;simp
def Sd{y:qd}(h:X.length=n):tk (X++(y::Y)) n=y:=by
 subst h;unfold tk;rw[jc,ju<|br _];simp
def uw{S:List Ms.Sk}(h:Ff t ls S)(h0:ls≠[])(hz:(cS ls).length<=400):∃f g T nd B fx tx,lB (bs<|cS ls)=.ok (dPs f g++[.lt false (tk T 23)<|.mk 9 (tk T 26).text 0 [.mk 13 ph 0 (nd::bh B) 65 ((cS ls).length-1) 65] fx tx (tk T 26).aD])/\es nd=iL (1,[97])/\ArB t B S/\(∀b∈B,∃n' k' j,28<k'/\b_ T n' k'=.ok (b.1,j))/\T=qf (bs<|cS ls) 0/\((tk T 23).text=⟨#[120]⟩/\(tk T 26).text=⟨#[97]⟩)/\(tk T 28).aD=65:=by
 have⟨q,A,hx,hr,hB⟩:=h.read h0;have⟨T1,T2,t3,t4,e,k1,k2,k3,k4,⟨r,Eu⟩,h3⟩:=aap hx;obtain⟨X,Y,rfl,hX,hY⟩:=List.map_eq_append_iff.1 k1;obtain⟨f,g,rfl⟩:=aad _ _ 0 hX;have h22:(MI f g 0 xK).length=22:=rfl;have hYl:Y.length=6:=by have:=congrArg jf hY;simpa using this
 have h2l:T2.length=q.length+3:=by have:=congrArg jf k2;simpa using this
 obtain⟨T,hT⟩:∃T,T=qf (bs<|cS ls) 0:=⟨_,rfl⟩;have eT:T=MI f g 0 xK++((Y++(T2++([t3]++[t4])))++[qg<|bs<|cS ls]):=by rw[hT,e];simp
 have hs:jN T 22 (VZ q++[kI]):=by
  rw[eT];exact aaq (by simp[hY,k2,k3,k4])
 have hTl:T.length=q.length+34:=by rw[eT];simp[h22,hYl,h2l];omega
 have⟨nd,B,fx,tx,e1,e2,e3,hd⟩:=V4 hr hs (m:=q.length+34) ae ae;have p28:tk T 28=qe (bs<|cS ls) 65:=by
  rw[eT,Eu];have:=Sd (X:=MI f g 0 xK++Y) (y:=qe (bs<|cS ls) 65) (Y:=r++([t3]++([t4]++[qg<|bs<|cS ls]))) (n:=28) (by simp[h22,hYl]);simpa using this
 have pE:tk T (22+q.length+10-1)=t3:=by
  rw[eT];have:=Sd (X:=MI f g 0 xK++Y++T2) (y:=t3) (Y:=[t4]++[qg<|bs<|cS ls]) (n:=22+q.length+10-1) (by simp[h22,hYl,h2l];omega);simpa using this
 have ahQ:tk T (22+(VZ q++[kI]).length)=qg (bs<|cS ls):=by
  rw[eT];have:=Sd (X:=MI f g 0 xK++(Y++(T2++([t3]++[t4])))) (y:=qg<|bs<|cS ls) (Y:=[]) (n:=22+(VZ q++[kI]).length) (by simp[h22,hYl,h2l];omega);simpa using this
 have d1:eG T (q.length+34) 0=.ok (dL f g,13):=by rw[eT];exact akN f g _<|q.length+12
 have d2:eG T (q.length+34) 13=.ok (dS f g,22):=by rw[eT];exact akO f g _<|q.length+12
 have y0:aU (tk T 0) lO=true:=by rw[eT];exact akP f g _
 have y1:aU (tk T 13) lO=true:=by rw[eT];exact ahH f g _
 have y2:aU (tk T 22) r9=true:=qP hs.hd;have pF:(tk T<|22+6).aD=65:=by rw[p28];exact Pu.Dn _ _
 have x1:tk T 23=Fg (1,[120]) (tk T 23).aD (tk T 23).t9:=by rw[<-show fC (tk T 23)=(1,[120])from hs 1 ah];exact fq _
 have x4:tk T 26=Fg (1,[97]) (tk T 26).aD (tk T 26).t9:=by rw[<-show fC (tk T 26)=(1,[97])from hs 4 ah];exact fq _
 refine⟨f,g,T,nd,B,fx,tx,?_,e1,hB B e2,λb hb=>e3 b hb,hT,⟨by rw[x1],by rw[x4]⟩,pF⟩;have pT:aR T (22+q.length+10)=(cS ls).length-1:=by unfold aR;rw[if_neg ae,pE];exact h3
 rw[pF,pT]at hd;unfold lB;rw[if_neg (by rw[bS];omega),<-hT];unfold aX;rw[hTl,show q.length+34=q.length+33+1 from rfl,r_<|.inl y0];simp only[aX,show q.length+33+1=q.length+34 from rfl,d1];rw[show q.length+33=q.length+32+1 from rfl,r_<|.inl y1];simp only[aX,d2];rw[show q.length+32=q.length+31+1 from rfl,r_<|.inr y2];simp only[aX,hd];rw[Dp (by rw[ahQ];rfl) (by rw[ahQ];rfl)];simp only[V5,ahQ];rfl
namespace Ms
def Fh:∀{a b:List Sk},qG (a++b)↔qG a/\qG b
 |[],b=>by simp[qG]|x::a,b=>by simp only[jj,qG,Fh (a:=a),and_assoc]
def aar{a:List Sk}(n:Nat)(h:qG a):qG (a.take n)/\qG (a.drop n):=by rw[<-Fh,jl];exact h
def Fk:∀n,qG<|eK n
 |0=>trivial|n+1=>⟨trivial,Fk n⟩
def aas(M:List (So×Nat))(t:So):∀f n,yk M t f n<=n+f
 |0,n=>by simp[yk]|f+1,n=>by
  simp only[yk];split
  .have:=aas M t f<|n+1;omega
  .omega
def Se{f:List Sk}(h:t=.i->n<=9)(k:qG f):qG (iu t n f):=⟨⟨h,(aar _ k).1⟩,(aar _ k).2⟩
def JF(t:So)(n:Nat)(f:List Sk):aK (iu t n f)=1+aK f:=by
 have:aK f=aK (f.take (iR t n).length)+aK (f.drop (iR t n).length):=by rw[<-bU,jl]
 simp only[iu,aK,bO];omega
def ux:∀{R:List (List Sk)},(∃r∈R,(gH r).isSome=true)->iw (R.filterMap si)+1<=iw R
 |[],⟨_,q,_⟩=>eh|r::rs,h=>by
  have h0:=od rs
  match r with
  |.hd t n ps::r=>simp only[iw,List.filterMap_cons,si,jd,List.sum_cons,aK,bO]at h0⊢;omega|.any::r=>
   have ih:=ux (R:=rs) (by obtain⟨x,h1,h2⟩:=h;obtain rfl|h1:=List.mem_cons.1 h1;cases h2;exact⟨x,h1,h2⟩);simp only[iw,List.filterMap_cons,si,jd,List.sum_cons,aK,bO]at ih⊢;omega
  |[]=>
   have ih:=ux (R:=rs) (by obtain⟨x,h1,h2⟩:=h;obtain rfl|h1:=List.mem_cons.1 h1;cases h2;exact⟨x,h1,h2⟩);simp only[iw,List.filterMap_cons,si,jd,List.sum_cons,aK]at ih⊢;omega
def uy:∀(m:Nat)(rows:List (List Sk))(w f:List Sk),rows.length<=9->qG w->lo m rows w=some f->qG f/\aK f<=iw rows+aK w
 |0,_,_,_,_,_,h=>Dq|m+1,rows,[],f,_,_,h=>by
  simp only[lo]at h;split at h
  .cases h;exact⟨trivial,by simp[aK]⟩
  .cases h
 |m+1,rows,.hd t n ps::r,f,hl,hw,h=>by
  obtain⟨f',h1,rfl⟩:=Option.map_eq_some_iff.1<|show(lo m (rows.filterMap<|jO t n)<|ps++r).map (iu t n)=some f from h;have:=List.length_filterMap_le (jO t n) rows;have⟨g1,g2⟩:=uy m _ _ _ ae (Fh.2 ⟨hw.1.2,hw.2⟩) h1;refine⟨Se hw.1.1 g1,?_⟩;have h5:=lR (t:=t) (n:=n) rows;rw[bU]at g2;rw[JF];simp only[aK,bO];omega
 |m+1,rows,.any::r,f,hl,hw,h=>by
  simp only[lo]at h;have Sf:=pi rows [];simp only[eF,j3]at Sf;split at h
  .rename_i ha;have hd:=λt n=>JH (t:=t) (n:=n) (R:=rows);generalize met rows []=M at*
   match M,ha,h with
   |(t,n0)::M,ha,h=>
    have⟨n,h1,_,hn⟩:=mJ h;obtain⟨f',h2,rfl⟩:=Option.map_eq_some_iff.1 h1;have:=List.length_filterMap_le (jO t n) rows;have⟨g1,g2⟩:=uy m _ _ _ ae (Fh.2 ⟨Fk _,hw.2⟩) h2;have h5:=hd t n ah;refine⟨Se (λe=>?_) g1,?_⟩
    .subst e;simp[kK,cnt]at ha
    .rw[bU,oe]at g2;rw[JF];simp only[aK,bO];omega
  .obtain⟨f',h2,rfl⟩:=Option.map_eq_some_iff.1 h;have:=List.length_filterMap_le si rows;have⟨g1,g2⟩:=uy m _ _ _ ae hw.2 h2;have hr:=od rows;have hm:Sk.sm (uz<|met rows []):=by
    match hM:met rows []with
    |[]=>trivial|(t,n0)::M=>
     rw[hM]at Sf;refine⟨λ_=>?_,Fk _⟩;have:=aas ((t,n0)::M) t (M.length+1) 0;simp only[de]at Sf;omega
   refine⟨⟨hm,g1⟩,?_⟩;have hh:bO (uz<|met rows [])+iw (rows.filterMap si)<=iw rows:=by
    have h1:=λq=>ux<|JI (R:=rows) q
    match hM:met rows []with
    |[]=>simp only[uz,bO];omega|(t,n0)::M=>have:=h1 (by rw[hM];simp);simp only[uz,bO,oe];omega
   simp only[aK,bO];omega
def iy(x:Bool)(l:List UInt8):(xk x l).length=l.length+if x=true then 2 else 0:=by cases x<;>simp[xk]
def Fm:∀(N:Nat)(s:Sk)(t:So),bO s<=N->s.of t->(xk (mG s)<|tx s).length<=6*bO s+1
 |_,.any,_,_,_=>by simp[mG,tx,xk]|0,.hd _ _ _,_,h,_=>by simp[bO]at h|N+1,.hd t n ps,_,h,⟨_,hH,ho⟩=>by
  have two:∀a b u v,Sk.of a u->Sk.of b v->bO a+bO b<=N->(xk (mG a)<|tx a).length+(xk (mG b)<|tx b).length<=6*(bO a+bO b)+2:=λa b u v h1 h2 hz=>by
   have:=Fm N a u ae h1;have:=Fm N b v ae h2;omega
  simp only[bO]at h⊢
  cases t with
  |i=>simp[mG,tx,xk]|b=>rw[show mG (.hd .b n ps)=false from rfl,iy];simp only[tx];split<;>simp<;>omega|l=>
   obtain rfl|rfl:n=0\/n=1:=by have:=hH 2 rfl;omega
   .simp[mG,tx,xk]
   .match ps,ho with
    |[a,b],ho=>
     have:=two a b .b .l ho.1 ho.2.1 (by simp only[aK]at h;omega);rw[show mG (.hd .l 1 [a,b])=true from rfl,iy];simp only[tx,aK,dr,de,eF,if_true]at this⊢;omega
  |s=>
   obtain rfl|rfl:n=0\/n=1:=by have:=hH 2 rfl;omega
   .simp[mG,tx,xk]
   .match ps,ho with
    |[a,b],ho=>
     have:=two a b .i .b ho.1 ho.2.1 (by simp only[aK]at h;omega);rw[show mG (.hd .s 1 [a,b])=true from rfl,iy];simp only[tx,aK,dr,de,eF,if_true]at this⊢;omega
  |p=>
   match ps,ho with
   |[a,b],ho=>
    have:=two a b .l .b ho.1 ho.2.1 (by simp only[aK]at h;omega);rw[iy,iy]at this;rw[show mG (.hd .p n [a,b])=false from rfl,iy];simp only[tx,aK,dr,de,eF]at this⊢;simp only[Bool.false_eq_true,if_false];omega
def Ae:∀(N:Nat)(s:Sk)(t:So),bO s<=N->s.of t->s.sm->nu (if mG s=true then 4 else 5) (tx s) s t
 |_,.any,_,_,_,_=>.any _|0,.hd _ _ _,_,h,_,_=>by simp[bO]at h|N+1,.hd t n ps,_,h,⟨rfl,hH,ho⟩,hs=>by
  have aat:∀a u,Sk.of a u->bO a<=N->Sk.sm a->nu 5 (xk (mG a)<|tx a) a u:=λa u h1 hz h2=>by
   have:=Ae N a u hz h1 h2
   cases hb:mG a with
   |true=>rw[hb]at this;exact .xU this|false=>rw[hb]at this;exact this
  simp only[bO]at h
  cases t with
  |i=>
   have h9:=hs.1 rfl
   match ps,ho with
   |[],_=>
    have e:xM (bs [UInt8.ofNat<|48+n])=n:=by
     obtain rfl|rfl|rfl|rfl|rfl|rfl|rfl|rfl|rfl|rfl:n=0\/n=1\/n=2\/n=3\/n=4\/n=5\/n=6\/n=7\/n=8\/n=9:=ae;all_goals kernel_rfl
    have:=nu.num (UInt8.ofNat<|48+n) [] (by
     obtain rfl|rfl|rfl|rfl|rfl|rfl|rfl|rfl|rfl|rfl:n=0\/n=1\/n=2\/n=3\/n=4\/n=5\/n=6\/n=7\/n=8\/n=9:=ae
     all_goals kernel_rfl) ah
    rw[e]at this;exact this
  |b=>
   match ps,ho with
   |[],_=>
    obtain rfl|rfl:n=0\/n=1:=by have:=hH 2 rfl;omega
    .exact .Hv false
    .exact .Hv true
  |l=>
   obtain rfl|rfl:n=0\/n=1:=by have:=hH 2 rfl;omega
   .match ps,ho with
    |[],_=>exact .nil
   .match ps,ho with
    |[a,b],ho=>simp only[aK]at h;exact .aM (aat a .b ho.1 ae hs.2.1)<|aat b .l ho.2.1 ae hs.2.2.1
  |s=>
   obtain rfl|rfl:n=0\/n=1:=by have:=hH 2 rfl;omega
   .match ps,ho with
    |[],_=>exact .p
   .match ps,ho with
    |[a,b],ho=>simp only[aK]at h;exact .q (aat a .i ho.1 ae hs.2.1)<|aat b .b ho.2.1 ae hs.2.2.1
  |p=>
   obtain rfl:n=0:=by have:=hH 1 rfl;omega
   match ps,ho with
   |[a,b],ho=>simp only[aK]at h;exact .pr (Ae N a .l ae ho.1 hs.2.1)<|Ae N b .b ae ho.2.1 hs.2.2.1
end Ms
namespace Ms
def QW:EQ Wn:=λ_ _ x c=>c 0=Iv x.k/\c 1=Iv x.f/\c 2=Iv x.t/\c 3=.string x.s
def cx:cu QW:=λ_ _ _ _ _ _ h _ _ _=>h
def aau{x:Wn}(B:Bx w g #[Iv x.k,Iv x.f,Iv x.t,.string x.s]):Q7 QW 4 w (λ_=>False) [x] (some ⟨g,0,none⟩) 1:=by
 have hj:∀j,j<4->j=0\/j=1\/j=2\/j=3:=λj h=>ae;refine⟨λq=> eh,λ_ j=>#[Iv x.k,Iv x.f,Iv x.t,Sv x.s].getD j Zv,.inr ⟨g,0,rfl,λi hi j h=>?_⟩,λi hi=>⟨?_,λj h=>?_⟩⟩
 .obtain rfl:i=0:=yT;rw[Nat.zero_mul,j3,j3,B.c];obtain rfl|rfl|rfl|rfl:=hj j h<;>rfl
 .obtain rfl:i=0:=yT;exact⟨rfl,rfl,rfl,rfl⟩
 .obtain rfl|rfl|rfl|rfl:=hj j h<;>rfl
def Sg{L:List Wn}(h:dR B P QW 45 4 w v L):∃va vc,v=.slice va L.length vc/\Q7 QW 4 w (λ_=>False) L va vc:=by
 have⟨a,c,e,_,h1⟩:=h.Vd;have⟨va,vc,cs,e',hr,hq⟩:=h.rv cx;rw[e]at e';injection e' with e1 _ e2;subst e1 e2;refine⟨a,c,e,h1,cs,hr.imp id λ⟨g,e,_,_,q⟩=>⟨g,0,e,λi hi j hj=>by rw[j3];exact q i hi j hj⟩,λi hi=>⟨hq i hi,λj hj=>?_⟩⟩;have⟨h1,h2,h3,h4⟩:=hq i hi;obtain rfl|rfl|rfl|rfl:j=0\/j=1\/j=2\/j=3:=ae
 .rw[h1];rfl
 .rw[h2];rfl
 .rw[h3];rfl
 .rw[h4];rfl
def yl(N:Nat):List Sk->List (Nd×Sk)->List Wn
 |_,[]=>[]|B,(x,p)::r=>(if lo N (nB B) [p]=none then[⟨2,(qz x:Int),(q9 x:Int),⟨#[]⟩⟩]else[])++yl N (B++[p]) r
def JK(N:Nat)(x:Nd)(p:Sk):∀(Z:List (Nd×Sk))(B:List Sk),yl N B (Z++[(x,p)])=yl N B Z++(if lo N (nB (B++Z.map (·.2))) [p]=none then[⟨2,(qz x:Int),(q9 x:Int),⟨#[]⟩⟩]else[])
 |[],B=>by simp[yl]|(y,q)::Z,B=>by simp only[jj,yl,JK N x p Z<|B++[q],jd,jo,jk]
def ym(N:Nat):∀(Z:List (Nd×Sk))(B:List Sk),(yl N B Z).length<=Z.length
 |[],_=>by simp[yl]|(y,q)::Z,B=>by
  have:=ym N Z<|B++[q];simp only[yl,dr,de];split<;>simp<;>omega
def Fo(N:Nat)(Z:List (Nd×Sk))(f t:Int):List Wn:=yl N [] Z++match Cd N (Z.map (·.2))with
 |some (s::_)=>[⟨1,f,t,bs<|tx s⟩]|_=>[]
end Ms
def OH:(Tryz.prog.info? 45).map (λi=>(i.zero,i.size,i.bytes))=some (some<|.agg #[Iv 0,Iv 0,Iv 0,.string ⟨#[]⟩],4,40):=qkr
def Af:Tryz.prog.underlying 40=some (.slice 45):=qkr
def OI{β:Type}{P':Nat->Prop}{Q:EQ α}{Q':EQ β}{v':Value}{L:List α}{L':List β}(h:dR B P Q 124 1 w v L)(h':dR B' P' Q' 45 4 w v' L')(e:v.ownBlock=some b)(e':v'.ownBlock=some b):False:=by
 have⟨c,h1⟩:=h.ty e;have⟨c',h2⟩:=h'.ty e';rw[h1]at h2;injection h2 with h2;injection h2 with _ h2;exact absurd h2 aA
def V6(x:Bool)(l:List UInt8):(xk x l).length=l.length+if x=true then 2 else 0:=Ms.iy x l
def RC{p:Prop}(h:p:=by
 obtain rfl|rfl:n=0\/n=1:=by have:=hH 2 rfl;omega
 .simp[Ms.tx]
 .match ps,ho with
  |[a,c],_=>simp[Ms.tx]):p:=h
def Ms.Si{s:Ms.Sk}(h:s.of t):Ms.tx s≠[]:=by
 cases s with
 |any=>simp[Ms.tx]|hd u n ps=>
  obtain⟨rfl,hH,ho⟩:=h
  cases u with
  |i=>simp[Ms.tx]|b=>simp only[Ms.tx];split<;>simp|l=>
   exact RC
  |s=>
   exact RC
  |p=>
   match ps,ho with
   |[a,c],_=>simp[Ms.tx]
def wS{f t kb mb x4 x5:Value}(M:Hid (Bx w2 (b+1) #[f,t,x4,x5]))(A:Hid (Bx w2 b #[kb,mb]))(k:Bq w2 w')(c0:w2.cell? ⟨g2,o2,none⟩=some x1)(c1:w2.cell? ⟨g2,o2+1,none⟩=some x2)(c2:w2.cell? ⟨g2,o2+2,none⟩=some x3)(zg:g2<w2.heap.size):w'.cell? ⟨b+1,0,none⟩=some f/\w'.cell? ⟨b+1,1,none⟩=some t/\w'.cell? ⟨b,0,none⟩=some kb/\w'.cell? ⟨b,1,none⟩=some mb/\w'.cell? ⟨g2,o2,none⟩=some x1/\w'.cell? ⟨g2,o2+1,none⟩=some x2/\w'.cell? ⟨g2,o2+2,none⟩=some x3:=by
 have e:∀o,w'.cell? ⟨g2,o,none⟩=w2.cell? ⟨g2,o,none⟩:=λo=>j9 (a:=⟨g2,o,none⟩)<|k.block g2 zg;exact⟨((uh M).below k).c 0,((uh M).below k).c 1,((uh A).below k).c 0,((uh A).below k).c 1,(e _).trans c0,(e _).trans c1,(e _).trans c2⟩
def wS8{w8:World}{row:Option Nat}{f t kb mb:Value}(h:w'.cell? ⟨b+1,0,none⟩=some f/\w'.cell? ⟨b+1,1,none⟩=some t/\w'.cell? ⟨b,0,none⟩=some kb/\w'.cell? ⟨b,1,none⟩=some mb/\w'.cell? ⟨g2,o2,none⟩=some x1/\w'.cell? ⟨g2,o2+1,none⟩=some x2/\w'.cell? ⟨g2,o2+2,none⟩=some x3)(hb:∀k,k<n->some k≠row->w8.heap[k]? =w'.heap[k]?)(n2:some g2≠row)(n1:some b≠row)(n0:some (b+1)≠row)(z2:g2<n)(z1:b<n)(z0:b+1<n):w8.cell? ⟨b+1,0,none⟩=some f/\w8.cell? ⟨b+1,1,none⟩=some t/\w8.cell? ⟨b,0,none⟩=some kb/\w8.cell? ⟨b,1,none⟩=some mb/\w8.cell? ⟨g2,o2,none⟩=some x1/\w8.cell? ⟨g2,o2+1,none⟩=some x2/\w8.cell? ⟨g2,o2+2,none⟩=some x3:=by
 obtain⟨h1,h2,h3,h4,h5,h6,h7⟩:=h;have e0:∀o,w8.cell? ⟨b+1,o,none⟩=w'.cell? ⟨b+1,o,none⟩:=λo=>j9 (a:=⟨b+1,o,none⟩)<|hb _ z0 n0;have e1:∀o,w8.cell? ⟨b,o,none⟩=w'.cell? ⟨b,o,none⟩:=λo=>j9 (a:=⟨b,o,none⟩)<|hb _ z1 n1;have e2:∀o,w8.cell? ⟨g2,o,none⟩=w'.cell? ⟨g2,o,none⟩:=λo=>j9 (a:=⟨g2,o,none⟩)<|hb _ z2 n2;exact⟨(e0 _).trans h1,(e0 _).trans h2,(e1 _).trans h3,(e1 _).trans h4,(e2 _).trans h5,(e2 _).trans h6,(e2 _).trans h7⟩
def aeh(hv:Ms.VaW w kb)(hM:Ms.MkM w mb)(zg:g<w.heap.size)(hZ:Z.map (·.1)=A.map (·.1))(hP:∀z∈Z,In.Pt z.1 z.2 t)(hc:∀i,i<A.length->(∃u v,w.cell? ⟨g,i*4,none⟩=some (Iv u)/\w.cell? ⟨g,i*4+1,none⟩=some (Iv v))/\w.cell? ⟨g,i*4+2,none⟩=some (vp i)/\w.cell? ⟨g,i*4+3,none⟩=some (ve i))(hp:∀i(h:i<A.length),PP w (λ_=>True) A[i].1<|vp i)(he:∀i(h:i<A.length),∃ty x,ve i=.iface ty x)(hl:A.length<=9)(hz:2*Ms.aK (Z.map (·.2))+1<300):
 Cq 20 #[.agg #[Mv kb,Mv mb],.agg #[Iv f,Iv Jw,.iface tv xx,.slice (some ⟨g,0,none⟩) A.length sc]] w λe w'=>∃va vc,e=.returned (.slice va (Ms.Fo 300 Z f Jw).length vc)/\Q7 Ms.QW 4 w' (λ_=>False) (Ms.Fo 300 Z f Jw) va vc/\Bq w w':=by
 obtain⟨W,hW⟩:∃W,W=(w.alloc<|Cv #[Mv kb,Mv mb] 64).alloc (Cv #[Iv f,Iv Jw,Fv tv xx,Lv (some ⟨g,0,none⟩) A.length sc] 82):=⟨_,rfl⟩;have K:Bq w W:=by rw[hW];exact(bw _).alloc ah _
 have A0:Bx W w.heap.size #[Mv kb,Mv mb]:=by rw[hW];exact(qv _ _ _).alloc _
 have M0:Bx W (w.heap.size+1) #[Iv f,Iv Jw,Fv tv xx,Lv (some ⟨g,0,none⟩) A.length sc]:=by
  rw[hW];have:=qv (w.alloc<|Cv #[Mv kb,Mv mb] 64) #[Iv f,Iv Jw,Fv tv xx,Lv (some ⟨g,0,none⟩) A.length sc] 82;simpa using this
 have hZl:Z.length=A.length:=by have:=congrArg jf hZ;simpa using this
 have zW:=K.size;have HV:=ai hv;have HMM:=ai hM;have HZL:=ai hZl;have KW:=ai K;have HA0:=ai A0;have HM0:=ai M0;obtain⟨m1,m2,m3⟩:=M0;clear hv hM hZl K A0;go_enter func20,ntmps20
 go_upto_region 3 with fail
 rw[<-hW];clear hW;go_wp2_with fail;clear m1 m2;go_loopg[5,6,17] A.length (λgk v5 v6 c wr=>∃(j:Nat)(S:Nat->Prop),Hid (gk=A.length-j)/\j<=A.length/\c=Nv j/\Hid (dR W.heap.size (λ_=>False) Ms.QW 45 4 wr v5<|Ms.yl 300 []<|Z.take j)/\Hid (dR W.heap.size S Ms.QR 124 1 wr v6 (Ms.nB ((Z.take j).map (·.2))))/\Hid (Bq W wr)/\Hid (∀b,S b->b<wr.heap.size/\v5.ownBlock≠some b))
 case atStart=>exact⟨0,λ_=>False,ai rfl,jz _,rfl,ai<|dR.nil _ _ _ _ _ _,ai<|dR.nil _ _ _ _ _ _,ai<|qp _ _,ai λ_ q=>q.elim⟩
 case round=>
  obtain⟨j,S,bE,hj,rfl,H5,H6,K,HS⟩:=hrel;obtain⟨a5,k5,rfl,-⟩:=(uh H5).Vd;obtain⟨a6,k6,rfl,-⟩:=(uh H6).Vd;have kk:=uh K;have kw:=(uh KW).trans<|kk.mono zW;have zk:=kk.size;have A1:=(uh HA0).below kk;have oR:∀r∈Ms.nB ((Z.take j).map (·.2)),Ms.Sk.iE r [t]:=λr hr=>by
   obtain⟨q,h1,rfl⟩:=List.mem_map.1 hr;obtain⟨z,h2,rfl⟩:=List.mem_map.1 h1;exact⟨(hP z<|List.mem_of_mem_take h2).of,trivial⟩
  have HR6:=(uh H6).rv Ms.aT;have hRl:(Ms.nB ((Z.take j).map (·.2))).length<=9:=by simp[Ms.nB];omega
  by_cases aI:j<A.length
  .have hd:(j:Int)<(A.length:Int):=ae;have i0:(0:Int)<=(j:Int):=ae;have hjz:j<Z.length:=by rw[uh HZL];exact aI
   have⟨⟨u,v,c0,c1⟩,c2,c3⟩:=hc j aI;have eB:∀o,wr.cell? ⟨g,o,none⟩=w.cell? ⟨g,o,none⟩:=λo=>j9 (a:=⟨g,o,none⟩)<|kw.block g zg;have c0:=(eB _).trans c0;have c1:=(eB _).trans c1;have c2:=(eB _).trans c2;have c3:=(eB _).trans c3;have hpj:=hp j aI;have⟨ty,xy,ey⟩:=he j aI;have⟨tp,xp,ep⟩:=hpj.iface;have hxe:(Z[j]).1=(A[j]).1:=by
    have:=congrArg (λl=>l[j]?) hZ;simpa[hjz,aI]using this
   have Ef:=hP Z[j]<|jq hjz;have hTr:Z.take (j+1)=Z.take j++[Z[j]]:=jm hjz;have hzz:Ms.aK ((Z.take j).map (·.2))+Ms.bO (Z[j]).2<=Ms.aK (Z.map (·.2)):=by
    have e:Z.map (·.2)=(Z.take<|j+1).map (·.2)++(Z.drop<|j+1).map (·.2):=by rw[<-ji,jl]
    rw[e,hTr,ji,Ms.bU,Ms.bU];simp only[jd,jx,Ms.aK];omega
   have HTr:=ai (show Ms.nB ((Z.take<|j+1).map (·.2))=Ms.nB ((Z.take j).map (·.2))++[[(Z[j]).2]] by rw[hTr,ji];exact ji);have HSh:=ai (show Ms.yl 300 [] (Z.take<|j+1)=Ms.yl 300 [] (Z.take j)++_ by rw[hTr];exact Ms.JK 300 (Z[j]).1 (Z[j]).2 (Z.take j) []);clear hTr;generalize Z[j]=z at*;obtain⟨x,p⟩:=z;simp only[jk]at hxe Ef hzz HTr HSh;rw[ep]at c2 hpj;rw[ey]at c3;rw[<-hxe]at hpj;have pl:=hpj.place;dsimp only[PlF]at pl;obtain⟨W1,fV⟩:∃W1,W1=wr.alloc (Cv #[Iv u,Iv v,Fv tp<|Av xp,Fv ty xy] 117):=⟨_,rfl⟩;have k1:Bq wr W1:=by rw[fV];exact bw _
   have E1:Bx W1 wr.heap.size #[Iv u,Iv v,Fv tp<|Av xp,Fv ty xy]:=by rw[fV];exact qv _ _ _
   have A2:=ai<|A1.below k1;have HSk:=ai<|ag6 Ef W1 kb mb _ (((uh HMM).af kw).af k1)<|(hpj.af kw).af k1;have HE1:=ai E1;have K1:=ai k1;have z1:=k1.size;have hof:=Ef.of;have⟨x1,x2,x3⟩:=uh A2;obtain⟨e1,e2,e3⟩:=E1;have HKW:=ai kw;have ahR:=ai HR6;obtain⟨LS,Y3⟩:∃LS,LS=Ms.yl 300 [] (Z.take j):=⟨_,rfl⟩;have UU:LS.length<=9:=by rw[Y3];have:=Ms.ym 300 (Z.take j) [];simp at this;omega
   obtain⟨RS,hRS⟩:∃RS,RS=Ms.nB ((Z.take j).map (·.2)):=⟨_,rfl⟩;have X6:2*(Ms.iw RS+Ms.aK [p])+[p].length<300:=by rw[hRS,Ms.kL];simp only[Ms.aK,de,eF];omega
   rw[<-Y3]at HSh H5 HS;rw[<-hRS]at HTr HSh H6 ahR hRl oR;rw[<-Y3,<-hRS];clear hxe Y3 hRS hc hp he eB hpj kk kw k1 A1 HR6 Ef hzz hP hZ hz ep ey
   go_upto_region 6 with fail
   rw[<-fV];clear fV c0 c1 c2 c3;go_wp2_with fail;refine(uh HSk).mono ?_;rintro e w2⟨pa,pc,rfl,sp,mp,k2⟩;obtain⟨W3,hW3⟩:∃W3,W3=w2.alloc (Cv #[Sv p.kd,Nv p.pl,Lv pa p.ps.length pc] 122):=⟨_,rfl⟩;have k3:Bq w2 W3:=by rw[hW3];exact bw _
   have z2:=k2.size;have B3:Bx W3 w2.heap.size #[Sv p.kd,Nv p.pl,Lv pa p.ps.length pc]:=by rw[hW3];exact qv _ _ _
   have z3:=k3.size;have f_:Ms.aS W3 (λb=>W1.heap.size<=b/\b<W3.heap.size) [p] (some ⟨w2.heap.size,0,none⟩):=by
    have⟨_,cs,MJ,hqs⟩:=Ms.YZ (P:=λb=>W1.heap.size<=b/\b<W3.heap.size) B3 sp<|(mp.af k3).up λb q zz=>⟨q,zz⟩;have⟨g',o',e',MJ⟩:=MJ.resolve_left ah
    cases e'
    exact Ms.aS.ofC ⟨z2,B3.z⟩ B3.z MJ λi hi=>(hqs i hi).1
   have k13:=(uh K1).trans<|(k2.trans<|k3.mono z2).mono z1;have HLo:=ai<|ahS 300 W3 kb (Mv mb) a6 k6 RS (some ⟨w2.heap.size,0,none⟩) 1 [p] [t] (((uh HV).m.af<|uh HKW).af k13) ((uh ahR).move Ms.aT k13.size (λb _ q=>k13.block b q) λ_ _ _=>trivial) (f_.up λ_ _ _=>trivial) ⟨br _,λq=> eh⟩ oR ⟨hof,trivial⟩ X6 ah ae;have A3:=ai<|((uh A2).below k2).below k3;have E3:=ai<|((uh HE1).below k2).below k3;have HO3:=ai f_;have K13:=ai k13;have⟨y1,y2,y3⟩:=uh A3;clear sp mp k2 k3 B3 f_ k13 x1 x2 e1 e2 HSk ahR
   go_upto_region 7 with fail
   rw[<-hW3];clear hW3;go_wp2_with fail;refine(uh HLo).mono ?_;rintro e w4⟨fa,fn,fc,b,rfl,k4,hf⟩;have Tn:=(uh K13).trans<|k4.mono (uh K13).size;have z4:=k4.size;have E4:=ai<|(uh E3).below k4;have HO4:=ai<|(uh HO3).af k4;have H54:=ai<|(uh H5).af Ms.cx Tn;have H64:=ai<|((uh H6).af Ms.aT Tn).wide (P':=λb=>S b\/(W1.heap.size<=b/\b<W3.heap.size)) Ms.aT λb q _=>.inl q;have O5:=ai (λb(e:(Lv a5 LS.length k5).ownBlock=some b)(q:W1.heap.size<=b/\b<W3.heap.size)=>show False by have:=((uh H5).own b e).2;omega);have K4:=ai<|(uh K).trans<|Tn.mono zk;have HS4:=ai<|λb(q:S b)=>xj (jy (uh HS b q).1 Tn.size) (uh HS b q).2;have O6:=ai<|λb(e:(Lv a6 RS.length k6).ownBlock=some b)=>show b<W1.heap.size from jy ((uh H6).own b e).2 z1;have z14:=Tn.size;clear HLo k4 Tn y1 y2 H5 H6;have⟨f1,f2,f3⟩:=uh E4;have HF:=ai hf;clear hf
   cases gJ:Ms.lo 300 RS [p]with
   |none=>
    rw[gJ]at HF;obtain rfl:b=false:=uh HF;have aav:Ms.yl 300 [] (Z.take<|j+1)=LS++[⟨2,(qz x:Int),(q9 x:Int),⟨#[]⟩⟩]:=by rw[uh HSh,if_pos gJ]
    have ahT:=ai aav;clear HF gJ HSh aav;go_wp2_with fail;refine(my _ _).mono ?_;rintro e w5⟨rfl,k5'⟩;go_wp2_with fail;refine(aaw 2 _ _ _).mono ?_;rintro e w6⟨rfl,V7⟩;have k46:=k5'.trans<|V7.mono k5'.size;have z6:=k46.size;have H56:=ai<|(uh H54).af Ms.cx k46;have H66:=ai<|(uh H64).af Ms.aT k46;have HO6:=ai<|(uh HO4).af k46;have K6:=ai<|(uh K4).trans<|k46.mono ae;have HS6:=ai<|λb(q:S b)=>xj (jy (uh HS4 b q).1 z6) (uh HS4 b q).2;clear k5' V7 k46 H54 H64 HO4 K4 HS4
    go_upto_region 10 with(at_builtin;go_loud(refine((uh H56).af Ms.cx<|bw _).ahU Ms.cx OH Af (Ms.aau (x:=⟨2,(qz x:Int),(q9 x:Int),⟨#[]⟩⟩)<|qv w6 #[_,_,_,_] _) (λ_ q=>q.elim) bi bi ?_);intro v8 w8 R8 k8 g8 l8)
    have kbx:Bq w6 (w6.alloc<|Cv #[Iv 2,Nv<|qz x,Nv<|q9 x,Sv ⟨#[]⟩] 45):=bw _;have H6a:=(uh H66).af Ms.aT kbx;have H5a:=(uh H56).af Ms.cx kbx;have z8:w6.heap.size+1<=w8.heap.size:=by have:=g8.size;simpa using this
    have H58:=ai R8;have H68:=ai<|H6a.oth Ms.aT g8 (λb e e'=>OI H6a H5a e' e)<|λb q e=>q.elim (λq=>(uh HS6 b q).2 e)<|uh O5 b e;have HO8:=ai (Ms.aS.mv g8.size (λb q _=>g8.block b (by have:=q.2;simp;omega)<|λe=>uh O5 b e.symm q) (λ_ q _=>q) _ _<|(uh HO6).af kbx);have K8:=ai<|(uh K6).trans<|(kbx.mono ae).trans k8
    have HS8:=ai (λb(q:S b)=>xj (show b<w8.heap.size by have:=(uh HS6 b q).1;omega) (λ(e:v8.ownBlock=some b)=>show False by
     obtain l8|l8:=l8
     .exact(uh HS6 b q).2 (l8▸e)
     .rw[l8]at e
      cases e
      have:=(uh HS6 _ q).1;simp at this
      omega))
    have O58:=ai (λb(e:v8.ownBlock=some b)(q:W1.heap.size<=b/\b<W3.heap.size)=>show False by
     obtain l8|l8:=l8
     .exact uh O5 b (l8▸e) q
     .rw[l8]at e
      cases e
      simp at q
      omega)
    clear R8 k8 g8 l8 H6a H5a kbx H56 H66 HO6 K6 HS6;go_wp2_with(at_builtin;refine((uh H68).af Ms.aT<|bw _).ahU Ms.aT sk lS (Ms.su (r:=[p]) (P:=λb=>W1.heap.size<=b/\b<W3.heap.size) ((qv w8 #[_] _).c 0) ⟨br _,λq=> eh⟩<|(uh HO8).af<|bw _) (λb q _=>⟨.inr q,λe=>by have:=uh O6 b e;omega⟩) bi bi ?_;intro v7 w7 R7 k7 g7 l7);go_roundg(A.length-(j+1))
    case measure=>rw[uh bE];omega
    case rel=>
     have kax:Below W.heap.size w8 (w8.alloc<|Cv #[Lv (some ⟨w2.heap.size,0,none⟩) 1 1] 124):=(qp _ _).alloc ae _;have kbx:Bq w8 (w8.alloc<|Cv #[Lv (some ⟨w2.heap.size,0,none⟩) 1 1] 124):=bw _;have H5a:=(uh H58).af Ms.cx kbx;have H6a:=(uh H68).af Ms.aT kbx;have R7':=R7.wide (P':=λb=>S b\/(W1.heap.size<=b/\b<W3.heap.size)) Ms.aT λb q _=>q;refine⟨j+1,λb=>S b\/(W1.heap.size<=b/\b<W3.heap.size),ai rfl,ae,d_,ai (by rw[uh ahT];exact H5a.oth Ms.cx g7 (λb e e'=>OI H6a H5a e e') λ_ q=>q.elim),ai (by rw[uh HTr];exact R7'),ai<|(uh K8).trans<|kax.trans k7,ai λb q=>⟨?_,λe=>?_⟩⟩
     .have:=g7.size;simp at this;obtain q|q:=q
      .have:=(uh HS8 b q).1;omega
      .omega
     .obtain q|q:=q
      .exact(uh HS8 b q).2 e
      .exact uh O58 b e q
   |some fo=>
    rw[gJ]at HF;obtain⟨rfl,rfl,-⟩:=uh HF;have aav:Ms.yl 300 [] (Z.take<|j+1)=LS:=by rw[uh HSh,if_neg (by rw[gJ];simp),jt]
    have ahT:=ai aav;clear HF gJ HSh aav;go_wp2_with(at_builtin;refine((uh H64).af Ms.aT<|bw _).ahU Ms.aT sk lS (Ms.su (r:=[p]) (P:=λb=>W1.heap.size<=b/\b<W3.heap.size) ((qv w4 #[_] _).c 0) ⟨br _,λq=> eh⟩<|(uh HO4).af<|bw _) (λb q _=>⟨.inr q,λe=>by have:=uh O6 b e;omega⟩) bi bi ?_;intro v7 w7 R7 k7 g7 l7);go_roundg(A.length-(j+1))
    case measure=>rw[uh bE];omega
    case rel=>
     have kax:Below W.heap.size w4 (w4.alloc<|Cv #[Lv (some ⟨w2.heap.size,0,none⟩) 1 1] 124):=(qp _ _).alloc ae _;have kbx:Bq w4 (w4.alloc<|Cv #[Lv (some ⟨w2.heap.size,0,none⟩) 1 1] 124):=bw _;have H5a:=(uh H54).af Ms.cx kbx;have H6a:=(uh H64).af Ms.aT kbx;have R7':=R7.wide (P':=λb=>S b\/(W1.heap.size<=b/\b<W3.heap.size)) Ms.aT λb q _=>q;refine⟨j+1,λb=>S b\/(W1.heap.size<=b/\b<W3.heap.size),ai rfl,ae,d_,ai (by rw[uh ahT];exact H5a.oth Ms.cx g7 (λb e e'=>OI H6a H5a e e') λ_ q=>q.elim),ai (by rw[uh HTr];exact R7'),ai<|(uh K4).trans<|kax.trans k7,ai λb q=>⟨?_,λe=>?_⟩⟩
     .have:=g7.size;simp at this;obtain q|q:=q
      .have:=(uh HS4 b q).1;omega
      .omega
     .obtain q|q:=q
      .exact(uh HS4 b q).2 e
      .exact uh O5 b e q
  .have hd:decide ((j:Int)<(A.length:Int))=false:=bi;obtain rfl:j=A.length:=ae;have hZt:Z.take A.length=Z:=by rw[<-uh HZL,jv]
   rw[hZt]at H5 H6 HS oR HR6 hRl;rw[hZt];have UU:=Ms.ym 300 Z [];rw[uh HZL]at UU;have Dr:=Ms.mK 300 [t] (Ms.nB (Z.map (·.2))) [.any] oR ⟨trivial,trivial⟩ (by rw[Ms.kL];simp only[Ms.aK,Ms.bO,de,eF];omega);have aax:=λfo=>Ms.uy 300 (Ms.nB (Z.map (·.2))) [.any] fo ae ⟨trivial,trivial⟩;rw[Ms.kL]at aax;have hmt:Ms.Fo 300 Z f Jw=Ms.yl 300 [] Z++match Ms.lo 300 (Ms.nB (Z.map (·.2))) [.any]with
    |some (s::_)=>[⟨1,f,Jw,bs<|Ms.tx s⟩]|_=>[]:=rfl
   have HMT:=ai hmt;have gS:Ms.aK (Z.map (·.2))<=150:=ae;have X6:2*(Ms.iw (Ms.nB (Z.map (·.2)))+Ms.aK [Ms.Sk.any])+[Ms.Sk.any].length<300:=by rw[Ms.kL];simp only[Ms.aK,Ms.bO,de,eF];omega
   obtain⟨LS,Y3⟩:∃LS,LS=Ms.yl 300 [] Z:=⟨_,rfl⟩;obtain⟨RS,hRS⟩:∃RS,RS=Ms.nB (Z.map (·.2)):=⟨_,rfl⟩;rw[<-Y3]at HMT H5 UU;rw[<-hRS]at HMT H6 oR HR6 hRl Dr aax X6;rw[<-Y3,<-hRS];obtain⟨W1,fV⟩:∃W1,W1=wr.alloc (Cv #[Sv ⟨#[]⟩,Iv 0,Lv none 0 0] 122):=⟨_,rfl⟩;have k1:Bq wr W1:=by rw[fV];exact bw _
   have B1:Bx W1 wr.heap.size #[Sv ⟨#[]⟩,Iv 0,Lv none 0 0]:=by rw[fV];exact qv _ _ _
   have akR:Ms.aS W1 (λ_=>True) [.any] (some ⟨wr.heap.size,0,none⟩):=⟨_,_,rfl,trivial,B1.z,⟨B1.c 0,B1.c 1,none,0,B1.c 2,br _,λ_=>rfl⟩,trivial⟩;have K01:=kw.trans<|k1.mono kw.size;have HLo:=ai<|ahS 300 W1 kb (Mv mb) a6 k6 RS (some ⟨wr.heap.size,0,none⟩) 1 [.any] [t] ((uh HV).m.af K01) (HR6.move Ms.aT k1.size (λb _ q=>k1.block b q) λ_ _ _=>trivial) akR ⟨br _,λq=> eh⟩ oR ⟨trivial,trivial⟩ X6 ah ae;have O5:=ai<|λb(e:(Lv a5 LS.length k5).ownBlock=some b)=>show b<W1.heap.size from jy ((uh H5).own b e).2 k1.size;have HA1:=ai<|A1.below k1;have XY:=ai<|((uh HM0).below kk).below k1;have HK1:=ai k1;have akS:=ai K01;have z1:=k1.size;obtain⟨x1,x2,x3⟩:=A1;clear Y3 hRS hc hp he kk kw k1 HR6 hP hZ hz hmt oR X6 akR B1 K01 HZL hZt H6 HS;go_wp2_with fail;rw[<-fV];clear fV;refine(uh HLo).mono ?_;rintro e w2⟨fa,fn,fc,b,rfl,k2,hf⟩;have K02:=ai<|(uh akS).trans<|k2.mono (uh akS).size;have H52:=ai<|(uh H5).af Ms.cx<|(uh HK1).trans<|k2.mono z1;have A2:=ai<|(uh HA1).below k2;have M2:=ai<|(uh XY).below k2;have z2:=k2.size;have HF:=ai hf;clear hf k2 HLo x1 x2 H5
   cases gJ:Ms.lo 300 RS [.any]with
   |none=>
    rw[gJ]at HF HMT;obtain rfl:b=false:=uh HF;simp only[jt]at HMT;have⟨va,vc,e5,h5⟩:=Ms.Sg<|uh H52;injection e5 with e5 _ e6;subst e5 e6;have HS5:=ai h5;clear HF gJ Dr aax h5
    go_wp2
    go_ret;rw[uh HMT];exact⟨a5,k5,rfl,uh HS5,uh K02⟩
   |some fo=>
    rw[gJ]at HF HMT Dr;obtain⟨rfl,rfl,sf,mf,nf⟩:=uh HF;have⟨hg1,JM⟩:=aax fo gJ;obtain⟨s,rfl⟩:∃s,fo=[s]:=by
     have:=Ms.fe Dr.1
     match fo,this with
     |[s],_=>exact⟨s,rfl⟩
    have hso:s.of t:=Dr.1.1;have hsm:s.sm:=hg1.1;obtain⟨g2,o2,rfl,_,zg2⟩:=mf.ptr ah;have⟨c0,c1,pa,pc,c2,sp,mp⟩:=(mf.at 0 ah).1.cells;simp only[List.getElem_cons_zero,Nat.zero_mul,j8]at c0 c1 c2 sp mp;have HPS:=ai<|Y7 (Ms.bO s) s (br _) t w2.drew kb (Mv mb) pa pc hso ((uh HV).af<|(uh K02).drew) sp<|mp.af (qp _ _).drew;have hfc:(1:Int)<=(fc:Int):=by have:=sf.1;simp at this;omega
    have⟨x1,x2,x4⟩:=uh A2;have⟨m1,m2,m4⟩:=uh M2;have htl:=Ms.Fm (Ms.bO s) s t (br _) hso;have hhs:Ms.bO s<=300:=by simp only[Ms.aK,Ms.bO]at JM;omega
    have HSO:=ai hso;have HSM:=ai hsm;have HTL:=ai htl;clear HF gJ Dr aax hg1 JM sf mf sp mp hso hsm htl;have ng:W1.heap.size<=g2:=nf _ rfl;have hg5:∀b,(Lv a5 LS.length k5).ownBlock=some b->b≠g2:=λb e=>by have:=uh O5 b e;omega
    have HG5:=ai hg5;have m10:w2.cell? ⟨w.heap.size+1,0,none⟩=some (Iv f):=m1 0;have m11:w2.cell? ⟨w.heap.size+1,1,none⟩=some (Iv Jw):=m1 1;have x10:w2.cell? ⟨w.heap.size,0,none⟩=some (Mv kb):=x1 0;have x11:w2.cell? ⟨w.heap.size,1,none⟩=some (Mv mb):=x1 1;have hS:=λw'(k:Bq w2 w')=>wS (M:=M2) (A:=A2) (k:=k) c0 c1 c2 zg2;have HS7:=ai hS;clear x1 x2 m1 m2 nf hg5 hS;simp only[de,eF,j3]
    go_upto_region 14 with fail
    go_region_held3(λw'=>w'.cell? ⟨w.heap.size+1,0,none⟩=some (Iv f)/\w'.cell? ⟨w.heap.size+1,1,none⟩=some (Iv Jw)/\w'.cell? ⟨w.heap.size,0,none⟩=some (Mv kb)/\w'.cell? ⟨w.heap.size,1,none⟩=some (Mv mb)/\w'.cell? ⟨g2,o2,none⟩=some (Sv s.kd)/\w'.cell? ⟨g2,o2+1,none⟩=some (Nv s.pl)/\w'.cell? ⟨g2,o2+2,none⟩=some (Lv pa s.ps.length pc)) (first|with_reducible exact uh HS7 _ (qp _ _).drew|with_reducible exact uh HS7 _ (uh K23)|with_reducible exact uh HS7 _ (uh K24)|with_reducible exact uh HS7 _ (uh K25)|with_reducible exact uh HS7 _ ((uh K25).alloc (uh K25).size _)|with_reducible exact s8) (first
     |(go_at_call 38;refine(uh HPS).mono ?_;rintro e w3⟨nd,v3,rfl,pp3,pt3,k3⟩;have K23:=ai<|(qp w2.heap.size w2).drew.trans k3;obtain⟨tv3,xv3,rfl⟩:=pp3.iface;obtain⟨pa1,pa2,-⟩:=aj8 pt3<|uh HSM;have PP3:=ai pp3;have hsh:sh nd≠[]:=(by rw[pa2];exact Ms.Si<|uh HSO);have akT:(sh nd).length<=700000:=(by rw[pa2];have:=uh HTL;rw[V6]at this;omega);have HPC:=ai<|Vm pa1 pp3 hsh akT;rw[pa2]at HPC;clear pp3 pt3 k3 pa1 pa2 hsh akT)
     |(go_at_call 37;refine(uh HPC).mono ?_;rintro e w4⟨rfl,k4⟩;have K24:=ai<|(uh K23).trans<|k4.mono (uh K23).size;clear k4)
     |(go_at_call 36;refine(aaw 1 _ _ _).mono ?_;rintro e w5⟨rfl,k5'⟩;have K25:=ai<|(uh K24).trans<|k5'.mono (uh K24).size;have H55:=ai<|(uh H52).af Ms.cx<|uh K25;have z5:=(uh K25).size;clear k5')
     |(refine((uh H55).af Ms.cx<|bw _).step Ms.cx OH Af (Ms.aau (x:=⟨1,f,Jw,bs<|Ms.tx s⟩)<|qv w5 #[_,_,_,_] _) (λ_ q=>q.elim) bi bi ?_;intro v8 w8 R8 k8 g8;have k5a:=(uh K25).alloc (uh K25).size<|Cv #[Iv 1,Iv f,Iv Jw,Sv<|bs<|Ms.tx s] 45;have s8:=wS8 (uh HS7 _ k5a) (λb zb q=>g8.block b (by have:=k5a.size;simp at this⊢;omega) q) (λq=>uh HG5 _ q.symm rfl) (λq=>by have:=((uh H52).own _ q.symm).1;omega) (λq=>by have:=((uh H52).own _ q.symm).1;omega) zg2 x4 m4;have R9:=ai R8;have K9:=ai k8;clear R8 k8 g8 k5a))
    have⟨va,vc,e9,h9⟩:=Ms.Sg<|uh R9;have K89:=ai (((uh K02).trans<|(uh K25).mono (uh K02).size).trans<|((qp w.heap.size w5).alloc (by have:=(uh K02).size;omega)<|Cv #[Iv 1,Iv f,Iv Jw,Sv<|bs<|Ms.tx s] 45).trans<|(uh K9).mono zW);have H9:=ai h9;have E9:=ai e9;clear h9 e9 s8
    go_wp2
    go_ret;rw[uh HMT];exact⟨va,vc,by rw[show v8=_ from uh E9];rfl,uh H9,uh K89⟩
end
section
open Go.ChangeMaps Go.MapKept Un
namespace Ms
abbrev KLM:KL qm 9 qr (λ_ _=>True):=KL.str qn
def Fp:Tryz.prog.underlying 61=some (.map 9 179):=qkr
def Sj:Tryz.prog.underlying 62=some (.map 9 119):=qkr
def ahV(w:World):(zeroValue 179).run qm w=.ok (.agg #[Iv 0,.nilFunc,.nilFunc]) w:=qkr
def ahW(w:World):(zeroValue 119).run qm w=.ok (.agg #[.string ⟨#[]⟩,Iv 0]) w:=qkr
abbrev kV(c:Int)(fp:FuncId)(b:Nat)(fw:FuncId)(cw:Array Value):Value:=.agg #[Iv c,.func (.func fp) #[] #[Pv b],.func (.func fw) #[] cw]
structure GK(w0 w:World)(mb:Nat)(L:List (BA×Value))(bs:List (Nat×Int)):Prop where
 k:Bq w0 w
 n:w0.heap.size<=mb
 m:MG qr w mb L
 b:∀p∈bs,Bx w p.1 #[Iv p.2]/\p.1≠mb/\w0.heap.size<=p.1
def GK.box{bs:List (Nat×Int)}(h:GK w0 w mb L bs)(c:Int)(t:TypeId):GK w0 (w.alloc<|.cells #[Iv c] t) mb L ((w.heap.size,c)::bs):=by
 have k:Bq w (w.alloc<|Cv #[Iv c] t):=bw _;refine⟨h.k.trans<|k.mono h.k.size,h.n,h.m.af k,λp hp=>?_⟩;obtain rfl|hp:=List.mem_cons.1 hp
 .exact⟨qv _ _ _,λe=>by have e:w.heap.size=mb:=e;have:=h.m.lt;omega,h.k.size⟩
 .exact⟨(h.b p hp).1.below k,(h.b p hp).2⟩
def GK.amZ{bs:List (Nat×Int)}{c:Int}{t:TypeId}(h:GK w0 w mb L bs)(e:w1=w.alloc (.cells #[Iv c] t)):GK w0 w1 mb L ((w.heap.size,c)::bs):=by rw[e];exact h.box c t
def GK.one{w0 w w':World}{mb:Nat}{L L':List (BA×Value)}{bs:List (Nat×Int)}(h:GK w0 w mb L bs)(m:MG qr w' mb L')(o:One mb w w'):GK w0 w' mb L' bs:=
 ⟨One.below h.k o h.n,h.n,m,λp hp=>⟨(h.b p hp).1.same (j6 o.size.symm)<|o.block _ (h.b p hp).2.1,(h.b p hp).2⟩⟩
end Ms
def aay(c:Int):Cq 55 #[Iv c] w λe w'=>e=.returned (.func (.func 97) #[] #[Pv w.heap.size])/\w'=w.alloc (.cells #[Iv c] 3):=by
 go_enter func55,ntmps55
 go_wp2
 go_ret;exact⟨rfl,rfl⟩
def Fq:Cq 31 #[] w λe w'=>∃b1 b2 b3 b4,e=.returned (Mv w.heap.size)/\Ms.GK w w' w.heap.size (bn ⟨#[44]⟩ (Ms.kV 1 97 b4 59 #[])<|bn ⟨#[73,110,116]⟩ (Ms.kV (-1) 97 b3 58 #[])<|bn ⟨#[85,110,105,116]⟩ (Ms.kV 1 97 b2 57 #[])<|bn ⟨#[66,111,111,108]⟩ (Ms.kV 2 97 b1 56 #[]) []) [(b4,2),(b3,0),(b2,0),(b1,0)]:=by
 have g_:= @run_makeMap Tryz.prog;have H:Ms.GK w (w.alloc<|.map #[] 0) w.heap.size [] []:=⟨bw _,br _,MG.new _ _,λp hp=>by cases hp⟩;have H:=ai H;go_enter func31,ntmps31
 go_wp2_with(first
  |(go_at_call 55;refine(aay _).mono ?_;rintro e w1⟨rfl,ud⟩;have H1:=ai<|(uh H).amZ ud;clear H ud;have H:=H1;clear H1)
  |(refine cK Ms.KLM Ms.Fp rfl _ _ _ (xg rfl) rfl (uh H).m _ (Ms.kV _ _ _ _ _) rfl rfl ?_;intro w' H' O';have H1:=ai<|(uh H).one H' O';clear H;have H:=H1;clear H1 H' O'))
 go_ret;have H:=uh H;rw[show(w.alloc<|.map #[] 0).heap.size=w.heap.size+1 from Array.size_push ..]at H;exact⟨_,_,_,_,rfl,H⟩
namespace Ms
structure MkC(w:World)(g i:Nat)(m:Nd):Prop where
 c:∃(s:BA)(n:Nat)(L:List Nd)(f t a y:Nat)(la:Option Addr)(lc:Nat),m=.mk 2 s n L f t a/\m0 s/\y=a+s.size/\w.cell? ⟨g,i*6,none⟩=some (Nv f)/\w.cell? ⟨g,i*6+1,none⟩=some (Nv t)/\w.cell? ⟨g,i*6+2,none⟩=some (Nv a)/\w.cell? ⟨g,i*6+3,none⟩=some (Nv y)/\w.cell? ⟨g,i*6+4,none⟩=some (.string s)/\w.cell? ⟨g,i*6+5,none⟩=some (.slice la L.length lc)
structure qQ(w:World)(g:Nat)(ms:List Nd):Prop where
 z:g<w.heap.size
 m:∀i(h:i<ms.length),MkC w g i ms[i]
def qQ.same(h:qQ w g ms)(hs:w.heap.size<=w'.heap.size)(hb:w'.heap[g]? =w.heap[g]?):qQ w' g ms:=by
 refine⟨jy h.z hs,λi hi=>⟨?_⟩⟩;have c:∀o,w'.cell? ⟨g,o,none⟩=w.cell? ⟨g,o,none⟩:=λo=>j9 (a:=⟨g,o,none⟩) hb;simp only[c];exact(h.m i hi).c
def qQ.af(h:qQ w g ms)(k:Bq w w'):qQ w' g ms:=h.same k.size<|k.block g h.z
def ahX(h0:ms≠[])(h:RowV QMaker 6 w P ms v):∃g mc,v=.slice (some ⟨g,0,none⟩) ms.length mc/\P g/\qQ w g ms:=by
 obtain⟨ma,mc,ds,rfl,hr,hq⟩:=h;obtain⟨g,rfl,hP,hz,hc⟩:=hr.resolve_left h0;refine⟨g,mc,rfl,hP,hz,λi hi=>⟨?_⟩⟩;have⟨s,n,L,f,t,a,y,vL,e0,e1,e2,e3,e4,e5,e6,hu,hy,hL⟩:=hq i hi;obtain⟨la,lc,el,rfl,_,_⟩:=hL;exact⟨s,n,L,f,t,a,y,la,lc,e0,hu,hy,(hc i hi 0 aA).trans<|congrArg some e1,(hc i hi 1 aA).trans<|congrArg some e2,(hc i hi 2 aA).trans<|congrArg some e3,(hc i hi 3 aA).trans<|congrArg some e4,(hc i hi 4 aA).trans<|congrArg some e5,(hc i hi 5 aA).trans<|congrArg some e6⟩
def aaz(o:One b w w')(h:S b):Fr S w w':=⟨o.os,o.tape,o.output,j6 o.size.symm,λi _ hi=>o.block i λe=>hi<|e▸h⟩
def hL(tx:BA)(nm:Nat->BA):Nat->List (BA×Value)->List (BA×Value)
 |0,L=>L|j+1,L=>bn (nm j) (.agg #[.string tx,Nv j])<|hL tx nm j L
end Ms
section
variable {pb:Nat} {c3:Value} {tx:BA}
def OJ(B:Bx w pb #[c0,c1,c2,c3,.string tx,vv,.slice (some ⟨g,0,none⟩) ms.length mc])(R:Ms.qQ w g ms)(hn:n<ms.length)(hm:ms.length<=1000):Cq 60 #[Nv n,Pv pb] w λe w'=>(∃s m L f t a,ms[n]=.mk 2 s m L f t a/\e=.returned (Nv L.length))/\Bq w w':=by
 have⟨s,m,L,f,t,a,y,la,lc,e,hu,hy,d0,d1,d2,d3,d4,d5⟩:=(R.m n hn).c;obtain⟨b1,b2,b3⟩:=B;have aZ:(n:Int)<(ms.length:Int):=ae;have Cz:(0:Int)<=(n:Int):=ae;clear d0 d1 d2 d3 d4;go_enter func60,ntmps60
 go_wp2
 go_ret;exact⟨⟨s,m,L,f,t,a,e,rfl⟩,qp _ _⟩
def EZ{sa:Option Addr}{sl:Nat}(B:Bx w pb #[c0,c1,c2,c3,.string tx,vv,.slice (some ⟨g,0,none⟩) ms.length mc])(R:Ms.qQ w g ms)(hn:n<ms.length)(hm:ms.length<=1000):Cq 61 #[Nv n,.slice sa sl sc,Pv pb] w λe w'=>(∃s m L f t a,ms[n]=.mk 2 s m L f t a/\m0 s/\e=.returned (.iface 185<|.agg #[Iv 0,Iv 0,Nv a,.int .i64 ((a+s.size:Nat):Int),.string s,.slice sa sl sc]))/\Bq w w':=by
 have⟨s,m,L,f,t,a,y,la,lc,e,hu,hy,d0,d1,d2,d3,d4,d5⟩:=(R.m n hn).c;obtain⟨b1,b2,b3⟩:=B;have aZ:(n:Int)<(ms.length:Int):=ae;have Cz:(0:Int)<=(n:Int):=ae;rw[hy]at d3;clear d0 d1 d5 hy;go_enter func61,ntmps61
 go_wp2
 go_ret;exact⟨⟨s,m,L,f,t,a,e,hu,rfl⟩,qp _ _⟩
def DcR(W:World)(kb mb:Nat)(tx:BA)(nm:Nat->BA)(n:Nat)(Lk Lm:List (BA×Value))(gk:Nat)(v:Value)(wr:World):=
 ∃j:Nat,Hid (gk=n-j)/\j<=n/\v=Nv j/\MG qr wr kb Lk/\MG qr wr mb (Ms.hL tx nm j Lm)/\Fr (·=mb) W wr
def V8{Lm:List (BA×Value)}{nm:Nat->BA}(R:Ms.qQ w g ms)(hN:∀i(h:i<ms.length),∃m L f t a,ms[i]=.mk 2 (nm i) m L f t a)(hm:ms.length<=1000)(hk:MG qr w kb Lk)(hb:MG qr w mb Lm)(h1:kb≠mb)(h2:g≠kb)(h3:g≠mb):
 Cq 32 #[.agg #[Mv kb,Mv mb],.agg #[c0,c1,c2,c3,.string tx,vv,.slice (some ⟨g,0,none⟩) ms.length mc]] w λe w'=>e=.returned (.tuple #[])/\∃b,w.heap.size<=b/\Bx w' b #[c0,c1,c2,c3,.string tx,vv,.slice (some ⟨g,0,none⟩) ms.length mc]/\Fr (λi=>i=kb\/i=mb) w w'/\MG qr w' mb (Ms.hL tx nm ms.length Lm)/\MG qr w' kb (bn tx (Ms.kV (ms.length:Int) 60 b 61 #[Pv b]) Lk):=by
 obtain⟨W,hW⟩:∃W,W=(w.alloc<|Cv #[Mv kb,Mv mb] 64).alloc (Cv #[c0,c1,c2,c3,Sv tx,vv,Lv (some ⟨g,0,none⟩) ms.length mc] 95):=⟨_,rfl⟩;have K:Bq w W:=by rw[hW];exact(bw _).alloc ah _
 have zW:W.heap.size=w.heap.size+2:=by rw[hW];simp
 have B1:Bx W w.heap.size #[Mv kb,Mv mb]:=by rw[hW];exact(qv w _ _).alloc _
 have B2:Bx W (w.heap.size+1) #[c0,c1,c2,c3,Sv tx,vv,Lv (some ⟨g,0,none⟩) ms.length mc]:=by rw[hW];have:=qv (w.alloc<|Cv #[Mv kb,Mv mb] 64) #[c0,c1,c2,c3,Sv tx,vv,Lv (some ⟨g,0,none⟩) ms.length mc] 95;simpa using this
 have zk:=hk.lt;have zb:=hb.lt;have zg:=R.z;have hk:=ai<|hk.af K;have hb:=ai<|hb.af K;have zE:=B1;have Vs:=B2;obtain⟨b1,b2,b3⟩:=zE;obtain⟨d1,d2,d3⟩:=Vs;go_enter func32,ntmps32
 go_upto_region 1 with fail
 rw[<-hW];clear hW
 go_wp2
 go_loopg[9] ms.length (λgk v wr=>DcR W kb mb tx nm ms.length Lk Lm gk v wr)
 case atStart=>exact⟨0,ai ah,jz _,rfl,uh hk,uh hb,Fr.refl _ _⟩
 case round=>
  clear hk hb b1 b2 b3 d1 d2 d3;obtain⟨j,bE,hj,rfl,hk,hb,F⟩:=hrel;have zr:=F.size;have HK:=ai hk;have HB:=ai hb;have HF:=ai F;have⟨b1,b2,b3⟩:=B1.fr F ae;have D2:=B2.fr F ae;have RR:=(R.af K).same F.size<|F.block g ae h3;by_cases aI:j<ms.length
  .have aZ:(j:Int)<(ms.length:Int):=ae;have Cz:(0:Int)<=(j:Int):=ae;have⟨s,m,L,f,t,a,y,la,lc,e,hu,hy,e0,e1,e2,e3,e4,e5⟩:=(RR.m j aI).c;have⟨m',L',f',t',a',e'⟩:=hN j aI;obtain rfl:s=nm j:=by rw[e]at e';injection e'
   obtain⟨wA,xH⟩:∃wA,wA=wr.alloc (Cv #[Nv f,Nv t,Nv a,Nv y,Sv<|nm j,Lv la L.length lc] 182):=⟨_,rfl⟩;have kA:Bq wr wA:=by rw[xH];exact bw _
   have x4:wA.cell? ⟨wr.heap.size,4,none⟩=some (Sv<|nm j):=by rw[xH];exact(qv wr _ 182).c 4
   have x1:wA.cell? ⟨w.heap.size,1,none⟩=some (Mv mb):=((B1.fr F ae).below kA).c 1;have x2:wA.cell? ⟨w.heap.size+1,4,none⟩=some (Sv tx):=(D2.below kA).c 4;have iK:=ai<|hb.af kA;have KA:=ai kA;clear hk hb F hu hy e e' RR b1 b2 b3 D2
   go_upto_region 4 with fail
   rw[<-xH];clear xH e0 e1 e2 e3 e4 e5;go_wp2_with(refine cK Ms.KLM Ms.Sj rfl _ _ _ (xh rfl) rfl (uh iK) (nm j) (Av #[Sv tx,Nv j]) rfl rfl ?_;intro w' H' O';have H':=ai H';have O':=ai O');go_roundg(ms.length-(j+1))
   case measure=>rw[uh bE];omega
   case rel=>
    refine⟨j+1,ai rfl,ae,d_,?_,uh H',?_⟩
    .exact((uh HK).af<|uh KA).one (uh O') h1
    .exact(uh HF).trans ((Fr.of<|uh KA).trans<|Ms.aaz (uh O') rfl)
  .have aZ:decide ((j:Int)<(ms.length:Int))=false:=bi;obtain rfl:j=ms.length:=ae;have D2':=D2;obtain⟨d1,d2,d3⟩:=D2;go_wp2_with(refine cK Ms.KLM Ms.Fp rfl _ _ _ (xh rfl) rfl (uh HK) tx (Ms.kV _ _ _ _ _) rfl rfl ?_;intro w' H' O';have H':=ai H';have O':=ai O');go_end0;have o:=uh O';exact⟨rfl,w.heap.size+1,ae,(D2').same (j6 o.size.symm)<|o.block _ ae,(Fr.of K).trans<|((uh HF).wide λ_ q=>xh q).trans<|Ms.aaz o<|xg rfl,(uh HB).one o<|Ne.symm h1,uh H'⟩
end
namespace Ms
def aei(ms:List Nd)(i:Nat):BA:=match ms[i]? with|some (.mk _ s _ _ _ _ _)=>s|none=>⟨#[]⟩
def aej(h:i<ms.length){L:List Nd}{f t:Nat}(e:ms[i]=.mk k s m L f t a):aei ms i=s:=by
 unfold aei;rw[ja h,e]
def gK0(b1 b2 b3 b4:Nat):List (BA×Value):=bn ⟨#[44]⟩ (kV 1 97 b4 59 #[])<|bn ⟨#[73,110,116]⟩ (kV (-1) 97 b3 58 #[])<|bn ⟨#[85,110,105,116]⟩ (kV 1 97 b2 57 #[])<|bn ⟨#[66,111,111,108]⟩ (kV 2 97 b1 56 #[]) []
def dK(b:Nat):Dc->List (BA×Value)->List (BA×Value)
 |.ty t _ ms,L=>bn t.text (kV (ms.length:Int) 60 b 61 #[Pv b]) L|.lt _ _ _,L=>L
def dM:Dc->List (BA×Value)->List (BA×Value)
 |.ty t _ ms,L=>hL t.text (aei ms) ms.length L|.lt _ _ _,L=>L
def Sl(bs:Nat->Nat)(l:List Dc)(L:List (BA×Value)):Nat->List (BA×Value)
 |0=>L|j+1=>match l[j]? with|some d=>dK (bs j) d (Sl bs l L j)|none=>Sl bs l L j
def vMk(l:List Dc):Nat->List (BA×Value)
 |0=>[]|j+1=>match l[j]? with|some d=>dM d (vMk l j)|none=>vMk l j
def Ds{bs bs':Nat->Nat}{l:List Dc}{L:List (BA×Value)}:∀{j:Nat},(∀i,i<j->bs' i=bs i)->Sl bs' l L j=Sl bs l L j
 |0,_=>rfl|j+1,h=>by rw[Sl,Sl,h j<|Nat.lt_succ_self _,Ds λi hi=>h i ae]
def JN(w:World)(lo kb mb b:Nat):Dc->Prop
 |.ty t _ ms=>∃c0 c1 c2 c3 vv g mc,Bx w b #[c0,c1,c2,c3,.string t.text,vv,.slice (some ⟨g,0,none⟩) ms.length mc]/\qQ w g ms/\g<lo/\b≠kb/\b≠mb/\lo+1<b|.lt _ _ _=>True
def JN.same{w w':World}{lo kb mb b:Nat}{d:Dc}(h:JN w lo kb mb b d)(hk:lo<=kb)(hm:lo<=mb)(F:Fr (λi=>i=kb\/i=mb) w w'):JN w' lo kb mb b d:=by
 cases d with
 |lt=>trivial|ty t vs ms=>
  obtain⟨c0,c1,c2,c3,vv,g,mc,B,R,hg,n1,n2⟩:=h;exact⟨c0,c1,c2,c3,vv,g,mc,B.fr F<|λq=>q.elim n1 n2.1,R.same F.size<|F.block g R.z (λq=>by obtain q|q:=q<;>omega),hg,n1,n2⟩
def JN.mv{lo:Nat}{d:Dc}(h:JN w lo kb mb b d)(h1:∀i,S i->lo<=i)(h2:lo+1<b->¬S b)(F:Fr S w w'):JN w' lo kb mb b d:=by
 cases d with
 |lt=>trivial|ty t vs ms=>
  obtain⟨c0,c1,c2,c3,vv,g,mc,B,R,hg,n1,n2⟩:=h;exact⟨c0,c1,c2,c3,vv,g,mc,B.fr F<|h2 n2.2,R.same F.size<|F.block g R.z (λq=>by have:=h1 g q;omega),hg,n1,n2⟩
def VlR(W:World)(lo kb mb:Nat)(l:List Dc)(L0:List (BA×Value))(gk:Nat)(v:Value)(wr:World):=
 ∃(j:Nat)(bs:Nat->Nat),Hid (gk=l.length-j)/\j<=l.length/\v=Nv j/\MG qr wr kb (Sl bs l L0 j)/\MG qr wr mb (vMk l j)/\Fr (λi=>i=kb\/i=mb) W wr/\∀i(h:i<l.length),i<j->JN wr lo kb mb (bs i) l[i]
def VlP(w:World)(l:List Dc)(e:Ending)(w':World):=∃kb mb bs b1 b2 b3 b4,e=.returned (.agg #[Mv kb,Mv mb])/\Bq w w'/\MG qr w' mb (vMk l l.length)/\MG qr w' kb (Sl bs l (gK0 b1 b2 b3 b4) l.length)/\(∀p∈[(b4,(2:Int)),(b3,0),(b2,0),(b1,0)],Bx w' p.1 #[Iv p.2])/\∀i(h:i<l.length),JN w' w.heap.size kb mb (bs i) l[i]
end Ms
def OL(hl:l.length<=100)(RG:∀t vs ms,.ty t vs ms∈l->ms.length<=1000)(h:RowV QD 1 w P l v):
 Calls qm 17 #[.agg #[v]] w (Ms.VlP w l):=by
 obtain⟨va,vc,cs,rfl,HR,HQ⟩:=h;have g_:= @run_makeMap qm;obtain⟨W,hW⟩:∃W,W=(w.alloc<|Cv #[Lv va l.length vc] 48).alloc (Cv #[.map none,.map none] 64):=⟨_,rfl⟩;have K:Below w.heap.size w W:=by rw[hW];exact(bw _).alloc ah _
 have zW:W.heap.size=w.heap.size+2:=by rw[hW];simp
 have B0:Bx W w.heap.size #[Lv va l.length vc]:=by rw[hW];exact(qv w _ _).alloc _
 have B1:Bx W (w.heap.size+1) #[.map none,.map none]:=by rw[hW];have:=qv (w.alloc<|Cv #[Lv va l.length vc] 48) #[.map none,.map none] 64;simpa using this
 go_enter func17,ntmps17
 go_upto_region 1 with fail
 rw[<-hW];clear hW
 go_upto_region 2 with(refine(Fq).mono ?_;rintro e w1⟨p1,p2,p3,p4,rfl,G⟩;have G:=ai G)
 clear g_;obtain⟨W2,gF⟩:∃W2,W2=(w1.alloc<|.map #[] 0).alloc (Cv #[.map<|some<|w.heap.size+2,.map<|some w1.heap.size] 64):=⟨_,rfl⟩;rw[<-gF];have G:=uh G;rw[zW]at G;have k0:=G.k;have z0:=k0.size;have zk:=G.m.lt;have k2:Below w1.heap.size w1 W2:=by rw[gF];exact(bw _).alloc ah _
 have K1:Below w.heap.size w w1:=K.trans<|k0.mono K.size;have K2:Below w.heap.size w W2:=K1.trans<|k2.mono K1.size;have z2:W2.heap.size=w1.heap.size+2:=by rw[gF];simp
 have D0:=(B0.below k0).below k2;have D1:=(B1.below k0).below k2;have D3:Bx W2 (w1.heap.size+1) #[.map<|some<|w.heap.size+2,.map<|some w1.heap.size]:=by rw[gF];have:=qv (w1.alloc<|.map #[] 0) #[.map<|some<|w.heap.size+2,.map<|some w1.heap.size] 64;simpa using this
 have M0:MG Sv W2 w1.heap.size []:=by rw[gF];exact(MG.new _ _).af (bw _)
 have GM:=G.m.af k2;have GB:=λp hp=>(G.b p hp).1.below k2;have GN:=λp hp=>(G.b p hp).2.1;have GG:=λp hp=>(G.b p hp).2.2;have GL:=λp hp=>(G.b p hp).1.z;have D0':=D0;obtain⟨d0,d1,d2⟩:=D0';have HGM:=ai GM;have HM0:=ai M0;clear gF GM M0 G
 go_wp2
 go_loopg[14] l.length (λgk v wr=>Ms.VlR W2 w.heap.size (w.heap.size+2) w1.heap.size l (Ms.gK0 p1 p2 p3 p4) gk v wr)
 case atStart=>exact⟨0,λ_=>0,ai ah,jz _,rfl,uh HGM,uh HM0,Fr.refl _ _,λi _ h=>absurd h<|Nat.not_lt_zero _⟩
 case round=>
  clear d0 d1 d2;obtain⟨j,bs,bE,hj,rfl,hk,hb,F,HB⟩:=hrel;have zr:=F.size;have hb:=ai hb;have hk:=ai hk;have F:=ai F;have HB:=ai HB;have x1:=((D3.fr (uh F) ae));have D1':=D1.fr (uh F) ae;by_cases aI:j<l.length
  .have aZ:(j:Int)<(l.length:Int):=ae;have Cz:(0:Int)<=(j:Int):=ae;obtain⟨g,rfl,hP,mn,hc⟩:=HR.resolve_left<|λe=>qBs;have c0:wr.cell? ⟨g,j,none⟩=some (cs j 0):=((j9 (a:=⟨g,j,none⟩)<|(uh F).block g ae ae).trans<|j9 (a:=⟨g,j,none⟩)<|K2.block g mn).trans (by simpa using hc j aI 0 aA);have q:PD w P l[j] (cs j 0):=HQ j aI;clear hc;rcases hd:l[j]with⟨t,vs,ms⟩|⟨r,t,b⟩
   .rw[hd]at q;obtain⟨f,u,vv,vm,e,hu,hto,hvs,cJ,hrm⟩:=q;obtain⟨gm,mc,rfl,hPm,R⟩:=Ms.ahX cJ hrm;obtain⟨na,nc,ns,rfl,-,-⟩:=hvs;clear hto;rw[e]at c0;have Hm:=RG t vs ms<|hd▸jq aI;obtain⟨wA,xH⟩:∃wA,wA=wr.alloc (Cv #[.int .i64 f,.int .i64 u,.int .i64 (t.aD:Int),.int .i64 (t.t9:Int),Sv t.text,Lv na vs.length nc,Lv (some ⟨gm,0,none⟩) ms.length mc] 95):=⟨_,rfl⟩;have kA:Below wr.heap.size wr wA:=by rw[xH];exact bw _
    have BA:Bx wA wr.heap.size #[.int .i64 f,.int .i64 u,.int .i64 (t.aD:Int),.int .i64 (t.t9:Int),Sv t.text,Lv na vs.length nc,Lv (some ⟨gm,0,none⟩) ms.length mc]:=by rw[xH];exact qv _ _ _
    have hzm:=R.z;have RA:Ms.qQ wA gm ms:=((R.af K2).same (uh F).size<|(uh F).block gm ae ae).af kA;have XA:=x1.below kA;have D:=ai (V8 (c0:=.int .i64 f) (c1:=.int .i64 u) (c2:=.int .i64 (t.aD:Int)) (c3:=.int .i64 (t.t9:Int)) (vv:=Lv na vs.length nc) (tx:=t.text) (mc:=mc) (nm:=Ms.aei ms) RA (λi hi=>by have⟨s,m,L,f,t,a,y,la,lc,e,_⟩:=(RA.m i hi).c;exact⟨m,L,f,t,a,by rw[Ms.aej hi e];exact e⟩) Hm ((uh hk).af kA) ((uh hb).af kA) ae ae ae);obtain⟨y1,y2,y3⟩:=XA;obtain⟨a1,a2,a3⟩:=BA;have KA:=ai kA;clear kA RA hrm e
    go_upto_region 6 with fail
    rw[<-xH];clear xH c0 x1;go_wp2_with(refine(uh D).mono ?_;rintro e w3⟨rfl,b,yc,B3,F3,m3,k3⟩;have E3:=ai<|xj yc<|xj B3<|xj F3<|xj m3 k3;clear yc B3 F3 m3 k3);go_roundg(l.length-(j+1))
    case measure=>rw[uh bE];omega
    case rel=>
     have⟨yc,B3,F3,m3,k3⟩:=uh E3;have FF:=((uh F).trans<|Fr.of<|uh KA).trans F3;refine⟨j+1,λi=>if i=j then b else bs i,ai rfl,ae,d_,?_,?_,FF,?_⟩
     .have e:Ms.Sl (λi=>if i=j then b else bs i) l (Ms.gK0 p1 p2 p3 p4) (j+1)=Ms.dK b l[j] (Ms.Sl bs l (Ms.gK0 p1 p2 p3 p4) j):=by
       rw[Ms.Sl,ja aI,Ms.Ds (bs:=bs) λi hi=>if_neg ae];simp
      rw[e,hd];exact k3
     .have e:Ms.vMk l (j+1)=Ms.dM l[j] (Ms.vMk l j):=by rw[Ms.vMk,ja aI]
      rw[e,hd];exact m3
     .intro i hi hij;by_cases h:i=j
      .subst h;dsimp only;rw[if_pos rfl,hd];refine⟨_,_,_,_,_,gm,mc,B3,?_,ae,by have:=(uh KA).size;omega,by have:=(uh KA).size;omega,by have:=(uh KA).size;omega⟩;have RA:Ms.qQ wA gm ms:=((R.af K2).same (uh F).size<|(uh F).block gm ae ae).af<|uh KA;exact RA.same F3.size<|F3.block gm RA.z ae
      .dsimp only;rw[if_neg h];exact(uh HB i hi ae).same ae ae ((Fr.of<|uh KA).trans F3)
   .rw[hd]at q;obtain⟨f,u,vb,e,gJ,hto,hpe⟩:=q;rw[e]at c0;clear hpe e hto
    go_wp2
    go_roundg(l.length-(j+1))
    case measure=>rw[uh bE];omega
    case rel=>
     refine⟨j+1,bs,ai rfl,ae,d_,?_,?_,?_,λi hi hij=>?_⟩
     .have e:Ms.Sl bs l (Ms.gK0 p1 p2 p3 p4) (j+1)=Ms.dK (bs j) l[j] (Ms.Sl bs l (Ms.gK0 p1 p2 p3 p4) j):=by rw[Ms.Sl,ja aI]
      rw[e,hd];exact(uh hk).af (bw _)
     .have e:Ms.vMk l (j+1)=Ms.dM l[j] (Ms.vMk l j):=by rw[Ms.vMk,ja aI]
      rw[e,hd];exact(uh hb).af (bw _)
     .exact(uh F).trans (Fr.of<|bw _)
     .by_cases h:i=j
      .subst h;rw[hd];trivial
      .exact(uh HB i hi ae).same ae ae (Fr.of<|bw _)
  .have aZ:decide ((j:Int)<(l.length:Int))=false:=bi;obtain rfl:j=l.length:=ae;obtain⟨y1,y2,y3⟩:=x1;have am0:=D1';obtain⟨u1,u2,u3⟩:=am0;go_wp2_with fail;have FZ:Fr (λi=>i=w.heap.size+1) wr ((wr.setCell ⟨w.heap.size+1,0,none⟩<|.map<|some<|w.heap.size+2).setCell ⟨w.heap.size+1,1,none⟩<|.map<|some w1.heap.size):=((Fr.refl (λi=>i=w.heap.size+1) wr).set (.inl rfl) 0 _).set (.inl rfl) 1 _;refine bodyPost_ret (v:=Av #[.map<|some<|w.heap.size+2,.map<|some w1.heap.size]) (by have⟨q1,q2,q3⟩:=(D1'.aP 0 (.map<|some<|w.heap.size+2) #[.map<|some<|w.heap.size+2,.map none] rfl ah).aP 1 (.map<|some w1.heap.size) #[.map<|some<|w.heap.size+2,.map<|some w1.heap.size] rfl ah;simp[results,Tryz.results17,go_sem,q1]) rfl ⟨w.heap.size+2,w1.heap.size,bs,p1,p2,p3,p4,rfl,?_,?_,?_,?_,?_⟩
   .exact⟨(FZ.os.trans (uh F).os).trans K2.os,(FZ.tape.trans (uh F).tape).trans K2.tape,(FZ.output.trans (uh F).output).trans K2.output,by have:=K2.size;have:=FZ.size;omega,λk hk=>((FZ.block k (by have:=K2.size;omega) ae).trans<|(uh F).block k (by have:=K2.size;omega) ae).trans<|K2.block k hk⟩
   .exact(uh hb).fr FZ ae
   .exact(uh hk).fr FZ ae
   .intro p hp;have h1:=GN p hp;have h2:=GL p hp;have h3:=GG p hp;exact((GB p hp).fr (uh F) ae).fr FZ ae
   .intro i hi;exact(uh HB i hi hi).mv ae ae FZ
namespace Ms
variable {c3:Value} {tx:BA}
def aaA(h:MG qr w kb Lk){x:BA}(e:bd x Lk=some v)(k:Bq w w'):(qu 61 (Mv kb) (.string x) false).run qm w'=.ok v w':=by
 have q:=(h.af k).ms.look KLM Fp (ahV w') x trivial (λ_ _=>trivial) false;rw[e]at q;exact q
def ahY(h:MG qr w kb Lk){x:BA}(e:bd x Lk=some v)(k:Bq w w'):(qu 62 (Mv kb) (.string x) false).run qm w'=.ok v w':=by
 have q:=(h.af k).ms.look KLM Sj (ahW w') x trivial (λ_ _=>trivial) false;rw[e]at q;exact q
def Ag{fw:FuncId}{cw:Array Value}(hM:MG qr w kb Lk)(c:Nat)(B:Bx w b #[Nv c])(e:bd (kS t) Lk=some (kV (cI t) 97 b fw cw))(hp:∀n,NH t n->(iR t n).length=c):Kd w kb t 97 b fw cw:=
 ⟨λw' k=>aaA hM e k,λ_ _=>qkr,λn hn w' k=>(V9 ((B.below k).c 0) (n:Int)).mono λe w2 q=>⟨by rw[hp n hn];exact q.1,by rw[q.2];exact qp _ _⟩⟩
def Sm(hM:MG qr w kb Lk)(B:Bx w b #[c0,c1,c2,c3,.string tx,vv,.slice (some ⟨g,0,none⟩) ms.length mc])(R:qQ w g ms)(hl:ms.length<=1000)(e:bd (kS t) Lk=some (kV (cI t) 60 b 61 #[Pv b]))(hp:∀n,NH t n->∃h:n<ms.length,∀s m L f u a,ms[n]=.mk 2 s m L f u a->L.length=(iR t n).length):Kd w kb t 60 b 61 #[Pv b]:=
 ⟨λw' k=>aaA hM e k,λ_ _=>qkr,λn hn w' k=>by
  have⟨aZ,hq⟩:=hp n hn;refine(OJ (B.below k) (R.af k) aZ hl).mono ?_;rintro e w2⟨⟨s,m,L,f,u,a,e1,rfl⟩,k2⟩
  exact⟨by rw[hq s m L f u a e1],k2⟩⟩
def Sp(B:Bx w b #[c0,c1,c2,c3,.string tx,vv,.slice (some ⟨g,0,none⟩) ms.length mc])(R:qQ w g ms)(hl:ms.length<=1000)(hp:∀n S L,NH t n->IM L S (iR t n)->∃h:n<ms.length,∀s m K f u a,ms[n]=.mk 2 s m K f u a->∀a',In.Pt (.mk 2 s 0 L 0 0 a') (.hd t n S) t):Wr w t 61 #[Pv b] where
 cf _ _:=qkr
 sh:=.inr ⟨b,rfl⟩
 wr n S hn w' k P L sa sc hL hr:=by
  have⟨aZ,hq⟩:=hp n S L hn hL;obtain⟨vs,aE,y_⟩:=hr;show Calls _ _ #[_,_,_] _ _;refine(EZ (B.below k) (R.af k) aZ hl).mono ?_;rintro e w2⟨⟨s,m,K,f,u,a,e1,hu,rfl⟩,k2⟩;refine⟨.mk 2 s 0 L 0 0 a,_,rfl,?_,hq s m K f u a e1 a,k2⟩;have⟨vs,aE,y_⟩:=Vg.af ⟨vs,aE,y_⟩ k2;exact PP.up s 0 L 0 0 a _ sa sc vs hu rfl aE y_
def Sq(h:NH t n)(e:cnt t=some 2):n=0\/n=1:=by have:=h 2 e;omega
def uS{p:Prop}(h:p:=by
 exact⟨ah,λs m L f u a e=>by cases e;rfl⟩):p:=h
def VlP.va{f:Nat->Nat}{t:qd}(h:VlP w [dL f g',dS f g',.lt r t x] e w'):∃kb mb,e=.returned (.agg #[Mv kb,Mv mb])/\VaW w' kb/\MkM w' mb/\Bq w w':=by
 obtain⟨kb,mb,bs,b1,b2,b3,b4,rfl,K,hm,hk,hb,hd⟩:=h;obtain⟨a0,a1,a2,a3,av,ag,ac,AB,AR,-⟩:=hd 0 ah;obtain⟨s0,s1,s2,s3,sv,sg,sc,SB,SR,-⟩:=hd 1 ah;have B1:=hb (b1,0) ah;have B3:=hb (b3,0) ah;have B4:=hb (b4,2) ah;refine⟨kb,mb,rfl,λt=>?_,⟨λw2 k2 c t n hc=>?_⟩,K⟩
 .cases t with
  |b=>exact⟨_,_,_,_,Ag hk 0 B1 qkr<|λn _=>rfl,ajR _⟩|i=>exact⟨_,_,_,_,Ag hk 0 B3 qkr<|λn _=>rfl,amu _⟩|p=>exact⟨_,_,_,_,Ag hk 2 B4 qkr<|λn _=>rfl,ajS _⟩|l=>
   refine⟨_,_,_,_,Sm hk AB AR ah qkr λn hn=>?_,Sp AB AR ah λn S L hn hL=>?_⟩
   .obtain rfl|rfl:=Sq hn rfl
    .exact uS
    .exact uS
   .obtain rfl|rfl:=Sq hn rfl
    .obtain⟨rfl,rfl⟩:=Y4<|show IM L S []from hL;exact⟨ah,λs m L f u a e a'=>by cases e;exact .nil 0 0 0 a'⟩
    .obtain⟨x,y,p,q,rfl,rfl,h1,h2⟩:=ag7<|show IM L S [.b,.l]from hL;exact⟨ah,λs m L f u a e a'=>by cases e;exact .aM 0 0 0 a' h1 h2⟩
  |s=>
   refine⟨_,_,_,_,Sm hk SB SR ah qkr λn hn=>?_,Sp SB SR ah λn S L hn hL=>?_⟩
   .obtain rfl|rfl:=Sq hn rfl
    .exact uS
    .exact uS
   .obtain rfl|rfl:=Sq hn rfl
    .obtain⟨rfl,rfl⟩:=Y4<|show IM L S []from hL;exact⟨ah,λs m L f u a e a'=>by cases e;exact .p 0 0 0 a'⟩
    .obtain⟨x,y,p,q,rfl,rfl,h1,h2⟩:=ag7<|show IM L S [.i,.b]from hL;exact⟨ah,λs m L f u a e a'=>by cases e;exact .q 0 0 0 a' h1 h2⟩
 .simp only[List.mem_cons,List.not_mem_nil,or_false,Prod.mk.injEq]at hc;obtain⟨rfl,rfl,rfl⟩|⟨rfl,rfl,rfl⟩|⟨rfl,rfl,rfl⟩|⟨rfl,rfl,rfl⟩:=hc<;>exact ahY hm qkr k2
end Ms
end
section
open Un
def uA{P:Program}{a:Act}{Q:Exit->Act->World->Prop}(hg:o.guard=none)(s x:Operand)(t:TypeId)(tI:o.op=Op.call {callee:=Callee.builtin Builtin.append,args:=#[s,x],argTypes:=#[t,t]})(base:Nat)(e:TypeId)(i:TypeInfo)(size:Nat)(ht:P.underlying t=some (.slice e))(hi:P.info? e=some i)(v:Value)(n:Nat)(xs:List Value)(hs:a.eval s=v)(f_:w.ownsRow base e size v n xs)(hx:a.eval x=.slice none 0 0)(hK:K (a.put o.dst v) w):if xm o (yielded ops a.tmps)=true then Oper.wp P o a w K Q else E:=by
 have hw:xm o (yielded ops a.tmps)=true:=by simp[xm,hg]
 rw[if_pos hw];have lT:=run_append_owned_none (P:=P) (w:=w) base t o.type e i size ht hi v n xs f_;unfold Oper.wp;simp[execOp,tI,resolve,invoke,builtin,hs,hx,lT,Result.andThen];exact hK
section
variable {Q:EQ α} {sz:Nat} {L:List α}
def dR.akU{ac:Act}{X:Exit->Act->World->Prop}{sO xO:Operand}{t bytes:Nat}{z:Value}{M:List α}{P2:Nat->Prop}{ua:Option Addr}{uc:Nat}(H:dR B P Q et sz w v L)(hQ:cu Q)(inf:(Tryz.prog.info? et).map (λi=>(i.zero,i.size,i.bytes))=some (some z,sz,bytes))(ut:Tryz.prog.underlying t=some (.slice et))(hu:Q7 Q sz w P2 M ua uc)(hP:∀b,P2 b->b<w.heap.size->P b/\v.ownBlock≠some b)(hl:L.length+M.length<=1000000)(hB:B<=w.heap.size)(h:∀v' w',dR B P Q et sz w' v' (L++M)->Below B w w'->K (ac.put o.dst v') w')(hz:z.cells.size=sz/\0<sz/\bytes<=1000:=by decide)(JO:o.guard=none:=by rfl)(ho:o.op=.call {callee:=.builtin .append,args:=#[sO,xO],argTypes:=#[t,t]}:=by rfl)(hs:ac.eval sO=v:=by rfl)(hx:ac.eval xO=.slice ua M.length uc:=by rfl):
 if xm o (yielded ops ac.tmps)=true then Oper.wp qm o ac w K X else E:=by
 cases ua with
 |none=>
  have⟨i0,m6,ku,gS,gC⟩:=info_parts inf;have⟨va,vc,cs,e,HO,HP⟩:=id H;obtain⟨h0,c2,hc,hq⟩:=hu;obtain rfl:=h0 rfl;obtain rfl:M=[]:=hc.elim id λ⟨g,o,q,_⟩=>eh;exact uA JO sO xO t ho B et i0 sz ut m6 v L.length _ hs HO hx (h v w (by simpa using H) (qp _ _))
 |some ad=>exact H.step hQ inf ut hu hP hl hB (λv' w' a b _=>h v' w' a b) hz JO ho hs hx
end
namespace Ms
def V_(wb:Nat)(M:List Wn)(w:World)(e:Ending)(w':World):Prop:=e=.returned (.tuple #[])/\∃v,dR w.heap.size (λ_=>False) QW 45 4 w' v M/\Bx w' wb #[v]/\Fr (·=wb) w w'
end Ms
section
variable {kv mv:Value} {M:List Ms.Wn}
def aaB(hl:M.length<=1000)(hb:Bx w wb #[.slice none 0 0])(hv:Bx w vb #[kv,mv])(H:∀w1,Bq w w1->Cq 20 #[.agg #[kv,mv],.agg #[Iv f,Iv Jw,.iface tv xx,.slice (some ⟨g,0,none⟩) n sc]] w1 λe w'=>∃va vc,e=.returned (.slice va M.length vc)/\Q7 Ms.QW 4 w' (λ_=>False) M va vc/\Bq w1 w'):
 Cq 19 #[.agg #[Iv f,Iv Jw,.iface tv xx,.slice (some ⟨g,0,none⟩) n sc],Pv wb,Pv vb] w (Ms.V_ wb M w):=by
 obtain⟨W,hW⟩:∃W,W=w.alloc (Cv #[Iv f,Iv Jw,Fv tv xx,Lv (some ⟨g,0,none⟩) n sc] 82):=⟨_,rfl⟩;have K:Bq w W:=by rw[hW];exact bw _
 have A0:Bx W w.heap.size #[Iv f,Iv Jw,Fv tv xx,Lv (some ⟨g,0,none⟩) n sc]:=by rw[hW];exact qv _ _ _
 have zb:=hb.z;have zW:=K.size;have B0:=ai<|hb.below K;have V0:=ai<|hv.below K;have A0:=ai A0;have HS:=ai λ(w1:World)(k:Bq W w1)=>H w1<|K.trans<|k.mono K.size;have x0:W.cell? ⟨wb,0,none⟩=some (Lv none 0 0):=(uh B0).c 0;have x1:W.cell? ⟨vb,0,none⟩=some kv:=(uh V0).c 0;have x2:W.cell? ⟨vb,1,none⟩=some mv:=(uh V0).c 1;have⟨a1,a2,a3⟩:=uh A0;have KK:=ai K;clear H hb hv K;go_enter func19,ntmps19
 go_upto_region 1 with fail
 rw[<-hW];clear hW
 go_region_law(first
  |(go_simp;go_at_call 20;refine(uh HS _ (qp _ _).drew).mono ?_;rintro e w2⟨va,vc,rfl,sp,k2⟩;have nM:Bq W w2:=(qp _ _).drew.trans k2;have B2:=ai<|(uh B0).below nM;have V2:=ai<|(uh V0).below nM;have A2:=ai<|(uh A0).below nM;have e1:w2.cell? ⟨wb,0,none⟩=some (Lv none 0 0):=(uh B2).c 0;have e2:w2.cell? ⟨vb,0,none⟩=some kv:=(uh V2).c 0;have e3:w2.cell? ⟨vb,1,none⟩=some mv:=(uh V2).c 1;have SP:=ai sp;have K2:=ai<|(uh KK).trans<|nM.mono (uh KK).size;have z2:W.heap.size<=w2.heap.size:=nM.size;clear sp k2 nM;dsimp only)
  |(refine(dR.nil w.heap.size (λ_=>False) Ms.QW 45 4 w2).akU Ms.cx OH Af (uh SP) (λb p _=>p.elim) bi ae ?_;intro v3 w3 R3 k3;obtain⟨Ve,Vf,hv3,-⟩:=R3.Vd;obtain⟨N3,Yw⟩:∃N3,N3=([]++M).length:=⟨_,rfl⟩;rw[<-Yw]at hv3;subst hv3;clear Yw;have B3:=ai<|(uh B2).same k3.size<|k3.block _ zb;have f1:=(uh B3).c 0;have f2:∀o,w3.frozen? ⟨wb,o,none⟩=false:=(uh B3).f;have RR3:=ai R3;have K3:=ai k3;clear R3 k3))
 all_goals
  have KF:Fr (·=wb) w (w3.setCell ⟨wb,0,none⟩<|Lv Ve N3 Vf):=Fr.set (S:=(·=wb)) (Fr.of<|(uh K2).trans<|uh K3) (b:=wb) (.inl rfl) 0 _;have BF:=(uh B3).mE 0 (Lv Ve N3 Vf) #[Lv Ve N3 Vf] rfl ah;have RF:=(uh RR3).gE Ms.cx (b:=wb) zb (λc p=>p.elim) 0<|Lv Ve N3 Vf;have E:=ai<|show Ms.V_ wb M w (Rv<|.tuple #[]) (w3.setCell ⟨wb,0,none⟩<|Lv Ve N3 Vf)from⟨rfl,_,RF,BF,KF⟩;clear KF BF RF
  go_wp2
  go_end0;exact uh E
end
def uB(T:TypeId):=∀(x:Array Value)(w:World),(qt (.iface T<|.agg x) 73 187 true).run qm w=.ok (.tuple #[.agg #[Iv 0,Iv 0,.nilIface,.nilIface],.bool false]) w
def pj(T:TypeId):=∀(x:Array Value)(w:World),(qt (.iface T<|.agg x) 73 189 true).run qm w=.ok (.tuple #[.agg #[Iv 0,Iv 0,.nilIface,.nilIface],.bool false]) w
def Sr(T:TypeId):=∀(x:Array Value)(w:World),(qt (.iface T<|.agg x) 73 191 true).run qm w=.ok (.tuple #[.agg #[Iv 0,Iv 0,Iv 0,Iv 0,.string ⟨#[]⟩,.nilIface],.bool false]) w
def Ss(T:TypeId):=∀(x:Array Value)(w:World),(qt (.iface T<|.agg x) 73 193 true).run qm w=.ok (.tuple #[.agg #[Iv 0,Iv 0,.bool false,Iv 0,Iv 0,.string ⟨#[]⟩,.nilIface,.nilIface],.bool false]) w
def aek(T:TypeId):=∀(x:Array Value)(w:World),(qt (.iface T<|.agg x) 73 195 true).run qm w=.ok (.tuple #[.agg #[Iv 0,Iv 0,.nilIface,.nilIface,.nilIface],.bool false]) w
def sA(T:TypeId):=∀(x:Array Value)(w:World),(qt (.iface T<|.agg x) 73 82 true).run qm w=.ok (.tuple #[.agg #[Iv 0,Iv 0,.nilIface,.slice none 0 0],.bool false]) w
def JP(T:TypeId):=∀(x:Array Value)(w:World),(qt (.iface T<|.agg x) 73 197 true).run qm w=.ok (.tuple #[.agg #[Iv 0,Iv 0,.string ⟨#[]⟩,.nilIface,.nilIface],.bool false]) w
def aaC(T:TypeId):=∀(x:Array Value)(w:World),(qt (.iface T<|.agg x) 73 199 true).run qm w=.ok (.tuple #[.agg #[Iv 0,Iv 0,.nilIface,.nilIface],.bool false]) w
structure OM(T:TypeId):Prop where
 anL:uB T
 am1:pj T
 an_:Sr T
 let_:Ss T
 if_:aek T
 ahZ:sA T
 amb:JP T
 anM:aaC T
def Wd:OM 305:=⟨λ_ _=>qkr,λ_ _=>qkr,λ_ _=>qkr,λ_ _=>qkr,λ_ _=>qkr,λ_ _=>qkr,λ_ _=>qkr,λ_ _=>qkr⟩
def We:OM 206:=⟨λ_ _=>qkr,λ_ _=>qkr,λ_ _=>qkr,λ_ _=>qkr,λ_ _=>qkr,λ_ _=>qkr,λ_ _=>qkr,λ_ _=>qkr⟩
def ael(a0 a1 a2 a3 a4 a5:Value)(w:World):(qt (.iface 191<|.agg #[a0,a1,a2,a3,a4,a5]) 73 191 true).run qm w=.ok (.tuple #[.agg #[a0,a1,a2,a3,a4,a5],.bool true]) w:=qkr
def age(a0 a1 a2 a3:Value)(w:World):(qt (.iface 82<|.agg #[a0,a1,a2,a3]) 73 82 true).run qm w=.ok (.tuple #[.agg #[a0,a1,a2,a3],.bool true]) w:=qkr
def ah0:(Tryz.prog.info? 73).map (λi=>(i.zero,i.size,i.bytes))=some (some .nilIface,1,16):=qkr
def aaD:Tryz.prog.underlying 111=some (.slice 73):=qkr
namespace Ms
def QV:EQ Value:=λ_ _ a c=>c 0=a
def sB:cu QV:=λ_ _ _ _ _ _ h _ _ _=>h
def akV{x:Value}(h:w.cell? ⟨g,0,none⟩=some (.iface T x)):Q7 QV 1 w (λ_=>False) [.iface T x] (some ⟨g,0,none⟩) 1:=
 ⟨λq=> eh,λ_ _=>Fv T x,.inr ⟨g,0,rfl,λi hi j hj=>by obtain rfl:i=0:= yT;obtain rfl:j=0:= ae;exact h⟩,λi hi=>⟨by obtain rfl:i=0:= yT;rfl,λ_ _=>rfl⟩⟩
def aem(w:World)(hB:B<=w.heap.size)(v:Value):dR B (λ_=>False) QV 73 1 (w.alloc<|.cells #[v] 73) (.slice (some ⟨w.heap.size,0,none⟩) 1 1) [v]:=
 ⟨_,_,λ_ _=>v,rfl,by simpa[bL]using World.ownsRow_lit (e:=73) (size:=1) w #[v] 1 hB aA rfl,λi hi=>by obtain rfl:i=0:= yT;rfl⟩
end Ms
section
variable {x:Array Value}
def JQ(h:OM T):Cq 33 #[.iface T<|.agg x] w λe w'=>e=.returned (.slice none 0 0)/\Bq w w':=by
 obtain⟨h1,h2,h3,h4,h5,h6,h7,h8⟩:=h;unfold uB at h1;unfold pj at h2;unfold Sr at h3;unfold Ss at h4;unfold aek at h5;unfold sA at h6;unfold JP at h7;unfold aaC at h8;go_enter func33,ntmps33
 go_wp2
 go_ret;exact⟨rfl,qp _ _⟩
def ON{t a b:Int}{T:TypeId}:Cq 33 #[.iface 191<|.agg #[Iv f,Iv t,Iv a,Iv b,.string s,.iface T y]] w λe w'=>∃g,e=.returned (.slice (some ⟨g,0,none⟩) 1 1)/\w'.cell? ⟨g,0,none⟩=some (.iface T y)/\Bq w w':=by
 have h1:uB 191:=λ_ _=>qkr;have h2:pj 191:=λ_ _=>qkr;have h3:=ael;unfold uB at h1;unfold pj at h2;obtain⟨W,hW⟩:∃W,W=w.alloc (Cv #[Iv f,Iv t,Iv a,Iv b,Sv s,Fv T y] 191):=⟨_,rfl⟩;have K:Bq w W:=by rw[hW];exact bw _
 obtain⟨b1,b2,b3⟩:Bx W w.heap.size #[Iv f,Iv t,Iv a,Iv b,Sv s,Fv T y]:=by rw[hW];exact qv _ _ _
 go_enter func33,ntmps33
 go_upto_region 10 with fail
 rw[<-hW];clear hW
 go_wp2
 go_ret;exact⟨W.heap.size,rfl,(qv W #[Fv T y] 73).c 0,K.alloc (by have:=K.size;omega) _⟩
def Fu{t:Int}{T:TypeId}(zg:g<w.heap.size)(hn:n<=1000)(hc:∀i,i<n->(∃u v,w.cell? ⟨g,i*4,none⟩=some (Iv u)/\w.cell? ⟨g,i*4+1,none⟩=some (Iv v))/\w.cell? ⟨g,i*4+2,none⟩=some (vp i)/\w.cell? ⟨g,i*4+3,none⟩=some (ve i))(hp:∀i,i<n->∃T x,vp i=.iface T x)(he:∀i,i<n->∃T x,ve i=.iface T x):
 Cq 33 #[.iface 82<|.agg #[Iv f,Iv t,.iface T y,.slice (some ⟨g,0,none⟩) n sc]] w λe w'=>∃v,e=.returned v/\RowV Ms.QV 1 w' (λ_=>True) (.iface T y::(jh n).map ve) v/\Bq w w':=by
 have h1:uB 82:=λ_ _=>qkr;have h2:pj 82:=λ_ _=>qkr;have h3:Sr 82:=λ_ _=>qkr;have h4:Ss 82:=λ_ _=>qkr;have h5:aek 82:=λ_ _=>qkr;have h6:=age;unfold uB at h1;unfold pj at h2;unfold Sr at h3;unfold Ss at h4;unfold aek at h5;obtain⟨W0,BZ⟩:∃W,W=w.alloc (Cv #[Iv f,Iv t,Fv T y,Lv (some ⟨g,0,none⟩) n sc] 82):=⟨_,rfl⟩;have K0:Bq w W0:=by rw[BZ];exact bw _
 have B0:Bx W0 w.heap.size #[Iv f,Iv t,Fv T y,Lv (some ⟨g,0,none⟩) n sc]:=by rw[BZ];exact qv _ _ _
 obtain⟨W,hW⟩:∃W,W=W0.alloc (Cv #[Fv T y] 73):=⟨_,rfl⟩;have k1:Bq W0 W:=by rw[hW];exact bw _
 have K:Bq w W:=K0.trans<|k1.mono K0.size;have R0:dR w.heap.size (λ_=>False) Ms.QV 73 1 W (Lv (some ⟨W0.heap.size,0,none⟩) 1 1) (Fv T y::(jh 0).map ve):=by rw[hW];exact Ms.aem W0 K0.size _
 have B1:=B0.below k1;obtain⟨b1,b2,b3⟩:=B0;obtain⟨d1,d2,d3⟩:=B1;have HR:=ai R0;have HK:=ai K;have HC:=ai hc;have HP:=ai hp;have HE:=ai he;clear R0 K k1 hc hp he;go_enter func33,ntmps33
 go_upto_region 19 with fail
 rw[<-BZ];clear BZ
 go_upto_region 20 with fail
 rw[<-hW];clear hW;clear h1 h2 h3 h4 h5 h6
 go_wp2
 go_loopg[9,63] n (λgk v c wr=>∃j:Nat,Hid (gk=n-j)/\j<=n/\c=Nv j/\Hid (dR w.heap.size (λ_=>False) Ms.QV 73 1 wr v (Fv T y::(jh j).map ve))/\Hid (Bq w wr))
 case atStart=>exact⟨0,ai rfl,jz _,rfl,HR,HK⟩
 case round=>
  clear HR HK;obtain⟨j,bE,hj,rfl,HR,HK⟩:=hrel;by_cases aI:j<n
  .have hd:(j:Int)<(n:Int):=ae;have i0:(0:Int)<=(j:Int):=ae;have⟨⟨u,v',c0,c1⟩,c2,c3⟩:=uh HC j aI;have⟨tp,xp,ep⟩:=uh HP j aI;have⟨te,xe,ee⟩:=uh HE j aI;have kk:=uh HK;have hz:=kk.size;have ce:∀o,wr.cell? ⟨g,o,none⟩=w.cell? ⟨g,o,none⟩:=λo=>j9 (a:=⟨g,o,none⟩)<|kk.block g zg;rw[<-ce]at c0 c1 c2 c3;rw[ep]at c2;rw[ee]at c3;have hEE:=ai ee;obtain⟨wA,xH⟩:∃wA,wA=wr.alloc (Cv #[Iv u,Iv v',Fv tp xp,Fv te xe] 117):=⟨_,rfl⟩;have kA:Bq wr wA:=by rw[xH];exact bw _
   obtain⟨a1,a2,a3⟩:Bx wA wr.heap.size #[Iv u,Iv v',Fv tp xp,Fv te xe]:=by rw[xH];exact qv _ _ _
   have RA:=ai<|(uh HR).af Ms.sB kA;have KA:=ai<|kk.trans<|kA.mono kk.size;clear kA kk ce ep ee HR HK;obtain⟨va,vc,hv,-⟩:=(uh RA).Vd;obtain⟨NL,X7⟩:∃NL,NL=(Fv T y::(jh j).map ve).length:=⟨_,rfl⟩;rw[<-X7]at hv;subst hv;have HN:=ai X7;have zA:=(uh KA).size;clear X7
   go_upto_region 23 with fail
   rw[<-xH];clear xH c0 c1 c2 c3;go_wp2_with(at_builtin;refine((uh RA).af Ms.sB<|bw _).cat Ms.sB ah0 aaD (Ms.akV (T:=te) (x:=xe)<|(qv wA #[_] _).c 0) (λ_ q=>q.elim) bi bi ?_;intro v3 w3 R3 k3);go_roundg(n-(j+1))
   case measure=>rw[uh bE];omega
   case rel=>exact⟨j+1,ai rfl,ae,d_,ai (by rw[List.range_succ,ji,<-jj,List.map_singleton,uh hEE];exact R3),ai<|(uh KA).trans<|((qp _ _).alloc ae _).trans k3⟩
  .have hd:decide ((j:Int)<(n:Int))=false:=bi;obtain rfl:j=n:=ae;obtain⟨va,vc,hv,-⟩:=(uh HR).Vd;obtain⟨NL,X7⟩:∃NL,NL=(Fv T y::(jh j).map ve).length:=⟨_,rfl⟩;rw[<-X7]at hv;subst hv;clear X7;have RV:=ai<|((uh HR).rv Ms.sB).move Ms.sB (br _) (λ_ _ _=>rfl) (P':=λ_=>True) λ_ _ _=>trivial
   go_wp2
   go_ret;exact⟨_,rfl,uh RV,uh HK⟩
end
section
variable {x:Array Value}
def OO(h:OM T):Cq 18 #[.iface T<|.agg x,F] w λe w'=>e=.returned (.tuple #[])/\Bq w w':=by
 have h6:=h.ahZ;unfold sA at h6;have HP:=λw=>ai<|JQ (w:=w) (x:=x) h;have k1:∀o,Bq w<|w.alloc o:=λo=>bw o;go_enter func18,ntmps18;go_wp2_with(refine(uh<|HP _).mono ?_;rintro e w1⟨rfl,k⟩;have K:=ai<|(k1 _).trans<|k.mono (k1 _).size;clear k);go_loopg[20] 0 (λgk v wr=>v=Iv 0/\Hid (Bq w wr))
 case atStart=>exact⟨rfl,K⟩
 case round=>
  obtain⟨rfl,K⟩:=hrel
  go_wp2
  go_end0;exact⟨rfl,uh K⟩
def dR.base{Q:EQ α}{sz:Nat}{w:World}{L:List α}(h:dR B P Q et sz w v L)(hb:B'<=B):dR B' P Q et sz w v L:=by
 obtain⟨va,vc,cs,e,⟨h1,h2⟩,hr⟩:=h;refine⟨va,vc,cs,e,⟨h1,h2.imp id ?_⟩,hr⟩;rintro⟨g,cap,jL,e1,e2,e3⟩;exact⟨g,cap,jL,e1,j5 hb e2,e3⟩
def Ms.V_.mk'{M:List Ms.Wn}{w3:World}(k:Bq w w1)(h:Ms.V_ wb M w1 e w2)(k3:Bq w2 w3)(zb:wb<w1.heap.size):Ms.V_ wb M w (.returned<|.tuple #[]) w3:=by
 obtain⟨rfl,v,R,B,F⟩:=h;exact⟨rfl,v,(R.base k.size).af Ms.cx k3,B.below k3,((Fr.of k).trans F).trans<|Fr.of k3⟩
abbrev aaE(wb vb:Nat):Value:=.func (.func 19) #[] #[Pv wb,Pv vb]
def JT{M:List Ms.Wn}{t:Int}{y:Array Value}(hT:OM T)(zb:wb<w.heap.size)(zg:g<w.heap.size)(hgw:g≠wb)(hn:n<=100)(hc:∀i,i<n->(∃u v,w.cell? ⟨g,i*4,none⟩=some (Iv u)/\w.cell? ⟨g,i*4+1,none⟩=some (Iv v))/\w.cell? ⟨g,i*4+2,none⟩=some (vp i)/\w.cell? ⟨g,i*4+3,none⟩=some (ve i))(hp:∀i,i<n->∃T x,vp i=.iface T x)(he:∀i,i<n->∃T x,ve i=.iface T (.agg x)/\OM T)(hV:∀w1,Bq w w1->Cq 19 #[.agg #[Iv f,Iv t,.iface T<|.agg y,.slice (some ⟨g,0,none⟩) n sc],Pv wb,Pv vb] w1 (Ms.V_ wb M w1)):
 Cq 18 #[.iface 82<|.agg #[Iv f,Iv t,.iface T<|.agg y,.slice (some ⟨g,0,none⟩) n sc],aaE wb vb] w (Ms.V_ wb M w):=by
 have h6:=age;have IR:∀(args:Array Value)(w':World),(callFunc 19 args).run qm w'=.ok (.enter 19 args) w':=λ_ _=>qkr;obtain⟨W,hW⟩:∃W,W=w.alloc (Cv #[Iv f,Iv t,Fv T<|Av y,Lv (some ⟨g,0,none⟩) n sc] 82):=⟨_,rfl⟩;have K:Bq w W:=by rw[hW];exact bw _
 obtain⟨b1,b2,b3⟩:Bx W w.heap.size #[Iv f,Iv t,Fv T<|Av y,Lv (some ⟨g,0,none⟩) n sc]:=by rw[hW];exact qv _ _ _
 have HV:=ai<|hV W K;have HC:=ai hc;have HP:=ai hp;have HE:=ai he;clear hV hc hp he;go_enter func18,ntmps18
 go_upto_region 2 with fail
 rw[<-hW];clear hW
 go_upto_region 3 with(refine(uh HV).mono ?_;intro e w2 HW;obtain rfl:=HW.1;have Tw:=ai HW;clear HW)
 obtain⟨-,v0,-,-,F2⟩:=uh Tw;have jE:∀o,w2.cell? ⟨g,o,none⟩=w.cell? ⟨g,o,none⟩:=λo=>(j9 (a:=⟨g,o,none⟩)<|F2.block g (jy zg K.size) hgw).trans<|j9 (a:=⟨g,o,none⟩)<|K.block g zg;have HD:=ai (Fu (w:=w2) (f:=f) (t:=t) (T:=T) (y:=Av y) (sc:=sc) (jy (jy zg K.size) F2.size) ae (λi hi=>by rw[jE,jE,jE,jE];exact uh HC i hi) (uh HP) (λi hi=>by have⟨T,x,e,_⟩:=uh HE i hi;exact⟨T,_,e⟩));have hL:∀i(h:i<(Fv T (Av y)::(jh n).map ve).length),∃T' x',(Fv T (Av y)::(jh n).map ve)[i]=Fv T' (Av x')/\OM T':=λi hi=>by
  cases i with
  |zero=>exact⟨T,y,rfl,hT⟩|succ i=>
   have tH:i<n:=yT;have⟨T',x',e,l⟩:=uh HE i tH;exact⟨T',x',by simpa using e,l⟩
 have hLn:(Fv T (Av y)::(jh n).map ve).length<=200:=bi;have HL:=ai hL;have HLn:=ai hLn;have KK:=ai K;clear jE F2 hL hLn K;generalize(Fv T (Av y)::(jh n).map ve)=L at*;go_wp2_with(refine(uh HD).mono ?_;rintro e w3⟨v3,rfl,R3,k3⟩;obtain⟨va,vc,cs,rfl,hr,hq⟩:=R3;have R3':=ai<|xj hr hq;have K3:=ai k3;clear hr hq k3);have hLn:=uh HLn;go_loopg[20] L.length (λgk v wr=>∃j:Nat,Hid (gk=L.length-j)/\j<=L.length/\v=Nv j/\Hid (Bq w3 wr))
 case atStart=>exact⟨0,ai rfl,jz _,rfl,ai<|qp _ _⟩
 case round=>
  obtain⟨j,bE,hj,rfl,Kr⟩:=hrel;by_cases aI:j<L.length
  .have hd:(j:Int)<(L.length:Int):=ae;have i0:(0:Int)<=(j:Int):=ae;have⟨hr,hq⟩:=uh R3';obtain⟨gr,rfl,-,zr,hcr⟩:=hr.resolve_left (λe=>by rw[e]at aI;simp at aI);have⟨T',x',e',l'⟩:=uh HL j aI;have c0:wr.cell? ⟨gr,j,none⟩=some (Fv T'<|Av x'):=by
    rw[j9 (a:=⟨gr,j,none⟩)<|(uh Kr).block gr zr];have:=hcr j aI 0 aA;rw[show cs j 0=L[j]from hq j aI,e']at this;simpa using this
   have HLf:=ai<|OO (w:=wr) (x:=x') (F:=aaE wb vb) l';clear hr hq hcr e' l';go_wp2_with(refine(uh HLf).mono ?_;rintro e w4⟨rfl,k4⟩;have K4:=ai k4;clear k4);go_roundg(L.length-(j+1))
   case measure=>rw[uh bE];omega
   case rel=>exact⟨j+1,ai rfl,ae,d_,ai<|(uh Kr).trans<|(uh K4).mono (uh Kr).size⟩
  .have hd:decide ((j:Int)<(L.length:Int))=false:=bi
   go_wp2
   go_end0;exact Ms.V_.mk' (uh KK) (uh Tw) ((uh K3).trans<|(uh Kr).mono (uh K3).size)<|jy zb (uh KK).size
end
section
variable {x:Array Value}
def Wg{M:List Ms.Wn}{t a b:Int}(zb:wb<w.heap.size)(hV:∀w1,Bq w w1->Cq 18 #[.iface T y,aaE wb vb] w1 (Ms.V_ wb M w1)):
 Cq 18 #[.iface 191<|.agg #[Iv f,Iv t,Iv a,Iv b,.string s,.iface T y],aaE wb vb] w (Ms.V_ wb M w):=by
 have h6:sA 191:=λ_ _=>qkr;unfold sA at h6;have HP:=λw=>ai<|ON (w:=w) (f:=f) (t:=t) (a:=a) (b:=b) (s:=s) (T:=T) (y:=y);have k1:∀o,Bq w<|w.alloc o:=λo=>bw o;have HV:=ai hV;clear hV;go_enter func18,ntmps18;go_wp2_with(refine(uh<|HP _).mono ?_;rintro e w1⟨g,rfl,c1,k⟩;have K:=ai<|(k1 _).trans<|k.mono (k1 _).size;clear k);have C1:=ai c1;clear c1 HP k1 h6;go_loopg[20] 1 (λgk v wr=>(gk=1/\v=Iv 0/\wr=w1)\/(gk=0/\v=Iv 1/\Hid (Ms.V_ wb M w (Rv<|.tuple #[]) wr)))
 case atStart=>exact .inl ⟨rfl,rfl,rfl⟩
 case round=>
  obtain⟨rfl,rfl,rfl⟩|⟨rfl,rfl,E⟩:=hrel
  .have c1:=uh C1;have HB:=ai<|uh HV _<|uh K;go_wp2_with(refine(uh HB).mono ?_;intro e w2 HW;obtain rfl:=HW.1;have Tw:=ai HW;clear HW);go_roundg 0
   case measure=>omega
   case rel=>exact .inr ⟨rfl,rfl,ai<|Ms.V_.mk' (uh K) (uh Tw) (qp _ _)<|jy zb (uh K).size⟩
  .go_wp2
   go_end0;exact uh E
end
abbrev aaF(sx:BA)(nx:Nat)(sm:BA)(nm:Nat)(n1 f1 t1 a1:Nat)(A:List (Nd×Nd))(fm tm am fx tx ax:Nat):Nd:=.mk 9 sx nx [.mk 13 sm nm (.mk 1 sx n1 [] f1 t1 a1::bh A) fm tm am] fx tx ax
def ah1{nx tx:Nat}(h:PE w P (aaF sx nx sm nm n1 f1 t1 a1 A fm tm am fx tx ax) v):∃(y:Int)(g sc:Nat)(vp ve:Nat->Value),v=.iface 191 (.agg #[Nv fx,Nv tx,Nv ax,Iv y,.string sx,.iface 82<|.agg #[Nv fm,Nv tm,.iface 305<|.agg #[Nv f1,Nv t1,.string sx],.slice (some ⟨g,0,none⟩) A.length sc]])/\P g/\g<w.heap.size/\
 (∀i,i<A.length->(∃u v,w.cell? ⟨g,i*4,none⟩=some (Iv u)/\w.cell? ⟨g,i*4+1,none⟩=some (Iv v))/\w.cell? ⟨g,i*4+2,none⟩=some (vp i)/\w.cell? ⟨g,i*4+3,none⟩=some (ve i))/\(∀i(h:i<A.length),PP w P A[i].1<|vp i)/\(∀i(h:i<A.length),PE w P A[i].2<|ve i):=by
 generalize hx:aaF sx nx sm nm n1 f1 t1 a1 A fm tm am fx tx ax=x at h
 cases h with
 |fn s n x f t a y vx hs hy h=>
  injection hx with _ q1 q2 q3 q4 q5 q6;subst q1 q2 q4 q5 q6;injection q3 with q3 _;generalize hz:x=z at h;rw[<-q3]at hz
  cases h with
  |mt s n x A' f t a vx g sc vp ve h0 hg IA hc h hp he=>
   injection hz with _ q1 q2 q3 q4 q5 q6;subst q1 q2 q4 q5 q6;injection q3 with q3 q4;obtain rfl:=og q4;subst q3
   cases h with
   |low s n f t a hs=>exact⟨_,g,sc,vp,ve,rfl,hg,IA,hc,hp,he⟩
  |lt c s n x z f t a y vx vz hc=>injection hz with q _;obtain rfl|rfl:=hc<;>exact absurd q aA
  |_=>injection hz with q _;exact absurd q aA
 |lt c s n x z f t a y vx vz hc=>injection hx with q _;obtain rfl|rfl:=hc<;>exact absurd q aA
 |_=>injection hx with q _;exact absurd q aA
def ah2{f t:Nat}(h:PE w P (.mk 3 s n [] f t a) v):∃x,v=.iface 206 (.agg x):=by
 generalize hx:Nd.mk 3 s n [] f t a=x at h
 cases h with
 |num=>exact⟨_,rfl⟩|lt c s n x z f t a y vx vz hc=>injection hx with q _;obtain rfl|rfl:=hc<;>exact absurd q aA
 |_=>injection hx with q _;exact absurd q aA
namespace Ms
def aen{M:List Wn}(h:dR B P QW 45 4 w v M):M=[]\/∃g vc,v=.slice (some ⟨g,0,none⟩) M.length vc/\B<=g/\WnL w g M:=by
 have⟨va,vc,cs,e,⟨h1,h2⟩,hr⟩:=id h;obtain⟨_,hz⟩|⟨q,cap,jL,hv,hg,hh,_,_,_,ht⟩:=h2
 .exact .inl (List.eq_nil_of_length_eq_zero hz)
 .refine .inr ⟨q,cap,hv,hg,(Array.getElem?_eq_some_iff.1 hh).1,λo=>by simp[World.frozen?,hh],λo ho=>?_⟩;have d1:o/4<M.length:=ae;have d2:o%4<4:=Nat.mod_lt _ aA;have d3:o/4*4+o%4=o:=ae;have e1:w.cell? ⟨q,o,none⟩=some (cs (o/4)<|o%4):=by
   rw[<-sC cs 4 M.length _ _ d1 d2,<-ht,d3];simp only[World.cell?,hh];rw[List.getElem?_take_of_lt ae];simp
  rw[e1,cW,show M.getD (o/4) Wn.no=M[o/4] by simp[jc,d1]];have⟨x0,x1,x2,x3⟩:=hr _ d1;obtain e|e|e|e:o%4=0\/o%4=1\/o%4=2\/o%4=3:=ae
  .rw[e,x0];rfl
  .rw[e,x1];rfl
  .rw[e,x2];rfl
  .rw[e,x3];rfl
end Ms
def Fw{va:Option Addr}{vc:Nat}:Cq 69 #[.slice va 0 vc,Iv 0,.int .i64 ((0:Nat):Int),Ah] w λe w'=>e=.returned (.tuple #[])/\w'=w:=by
 go_enter func69,ntmps69
 go_wp2
 go_loopg[8] 0 (λgk c wr=>c=Iv 1/\wr=w)
 case atStart=>exact⟨rfl,rfl⟩
 case round=>
  obtain⟨rfl,rfl⟩:=hrel
  go_wp2
  go_end0;exact⟨rfl,rfl⟩
def aaG{M:List Ms.Wn}(h:dR B (λ_=>False) Ms.QW 45 4 w v M)(hn:M.length<=12):Cq 21 #[v,Ah] w λe w'=>e=.returned (.tuple #[])/\∃ys,ys.Perm M/\RowV Ms.QW 4 w' (λb=>B<=b) ys v/\Fr (λb=>B<=b) w w':=by
 obtain rfl|⟨g,vc,rfl,hg,H⟩:=Ms.aen h
 .obtain⟨va,vc,rfl,-⟩:=h.Vd;exact zY (n:=0) (Q:=λ_ w'=>∃ys,ys.Perm []/\RowV Ms.QW 4 w' (λb=>B<=b) ys (Lv va 0 vc)/\Fr (λb=>B<=b) w w') aA (Fw.mono λe w' q=>⟨q.1,[],List.Perm.refl _,⟨va,vc,λ_ _=>Zv,rfl,.inl rfl,λi hi=>absurd hi ah⟩,by rw[q.2];exact Fr.refl _ _⟩)
 .refine zY (n:=M.length) (Q:=λ_ w'=>∃ys,ys.Perm M/\RowV Ms.QW 4 w' (λb=>B<=b) ys (Lv (some ⟨g,0,none⟩) M.length vc)/\Fr (λb=>B<=b) w w') hn ((JU H hn).mono λe w' q=>⟨q.1,?_⟩);obtain⟨-,ys,hp,L,F⟩:=q;refine⟨ys,hp,⟨some ⟨g,0,none⟩,vc,λi j=>(ys.getD i Ms.Wn.no).at j,by rw[hp.length_eq],.inr ⟨g,rfl,hg,L.z,λi hi j hj=>?_⟩,λi hi=>?_⟩,F.wide λb q=>by rw[q];exact hg⟩
  .rw[L.c _ ae,Ms.cW,show(i*4+j)/4=i by omega,show(i*4+j)%4=j by omega]
  .dsimp only;rw[show ys.getD i Ms.Wn.no=ys[i] by simp[jc,hi]];exact⟨rfl,rfl,rfl,rfl⟩
@[simp] theorem ajw(x:Array Value)(w:World):(qt (.iface 95<|.agg x) 67 77 true).run qm w=.ok (.tuple #[.agg #[Iv 0,Iv 0,.bool false,Iv 0,Iv 0,.string ⟨#[]⟩,.nilIface],.bool false]) w:=qkr
def Ms.Su(N:Nat)(Z:List (Nd×Ms.Sk))(f t:Int):(Ms.Fo N Z f t).length<=Z.length+1:=by
 have:=Ms.ym N Z [];unfold Ms.Fo;rw[dr];split<;>simp<;>omega
def uC(zg:g<w.heap.size)(k:Bq w w')(hc:∀i,i<n->(∃u v,w.cell? ⟨g,i*4,none⟩=some (Iv u)/\w.cell? ⟨g,i*4+1,none⟩=some (Iv v))/\w.cell? ⟨g,i*4+2,none⟩=some (vp i)/\w.cell? ⟨g,i*4+3,none⟩=some (ve i)):∀i,i<n->(∃u v,w'.cell? ⟨g,i*4,none⟩=some (Iv u)/\w'.cell? ⟨g,i*4+1,none⟩=some (Iv v))/\w'.cell? ⟨g,i*4+2,none⟩=some (vp i)/\w'.cell? ⟨g,i*4+3,none⟩=some (ve i):=λi hi=>by
 have e:∀o,w'.cell? ⟨g,o,none⟩=w.cell? ⟨g,o,none⟩:=λo=>j9 (a:=⟨g,o,none⟩)<|k.block g zg;rw[e,e,e];simp only[e];exact hc i hi
def RE{p:Prop}(h:p:=by
 have:=Ms.Su 300 Z (fm:Int) (tm:Int);have e:Z.length=A.length:=by have:=congrArg jf hZ;simpa using this
 omega):p:=h
def aaH{fx tx ax y:Int}{lx:Array Value}(zg:g<w.heap.size)(gw:g≠wb)(hc:∀i,i<A.length->(∃u v,w.cell? ⟨g,i*4,none⟩=some (Iv u)/\w.cell? ⟨g,i*4+1,none⟩=some (Iv v))/\w.cell? ⟨g,i*4+2,none⟩=some (vp i)/\w.cell? ⟨g,i*4+3,none⟩=some (ve i))(hp:∀i(h:i<A.length),PP w (λ_=>True) A[i].1<|vp i)(he:∀i,i<A.length->∃x,ve i=.iface 206 (.agg x))(hZ:Z.map (·.1)=A.map (·.1))(hP:∀z∈Z,In.Pt z.1 z.2 so)(hl:A.length<=9)(hz:2*Ms.aK (Z.map (·.2))+1<300)(hv:Ms.VaW w kb)(hm:Ms.MkM w mb)(VB:Bx w vb #[Mv kb,Mv mb])(WB:Bx w wb #[.slice none 0 0]):
 Cq 18 #[.iface 191<|.agg #[Iv fx,Iv tx,Iv ax,Iv y,.string sx,.iface 82<|.agg #[Nv fm,Nv tm,.iface 305<|.agg lx,.slice (some ⟨g,0,none⟩) A.length sc]],aaE wb vb] w (Ms.V_ wb (Ms.Fo 300 Z (fm:Int) (tm:Int)) w):=by
 have hM:(Ms.Fo 300 Z (fm:Int) (tm:Int)).length<=1000:=by
  exact RE
 refine Wg WB.z λw1 k1=>?_;have BH:∀i,i<A.length->∃T x,vp i=Fv T x:=λi hi=>by have⟨T,x,e⟩:=(hp i hi).iface;exact⟨T,_,e⟩
 refine JT Wd (jy WB.z k1.size) (jy zg k1.size) gw ae (uC zg k1 hc) BH (λi hi=>by have⟨x,e⟩:=he i hi;exact⟨_,x,e,We⟩) λw2 k2=>?_;have K2:=k1.trans<|k2.mono k1.size;refine aaB hM (WB.below K2) (VB.below K2) λw3 k3=>?_;have K3:=K2.trans<|k3.mono K2.size;exact aeh (hv.af K3) (hm.af K3) (jy zg K3.size) hZ hP (uC zg K3 hc) (λi hi=>(hp i hi).af K3) (λi hi=>by have⟨x,e⟩:=he i hi;exact⟨_,_,e⟩) hl hz
def akW(w:World)(M:List Ms.Wn)(e:Ending)(w':World):=∃v ys,e=.returned v/\ys.Perm M/\RowV Ms.QW 4 w' (λb=>w.heap.size<=b) ys v/\Bq w w'
def am2(W:World)(wb:Nat)(M:List Ms.Wn)(gk:Nat)(c:Value)(wr:World):=
 (∃j:Nat,Hid (gk=3-j)/\j<=2/\c=Nv j/\Hid (Bq W wr))\/(Hid (gk=0)/\c=Iv 3/\Hid (∃v,dR W.heap.size (λ_=>False) Ms.QW 45 4 wr v M/\Bx wr wb #[v]/\Fr (·=wb) W wr))
def aeo{f:Nat->Nat}{t:qd}{nx tx:Nat}(el:l=[dL f g',dS f g',.lt r t<|aaF sx nx sm nm n1 f1 t1 a1 A fm tm am fx tx ax])(h:RowV QD 1 w P l v)(hZ:Z.map (·.1)=A.map (·.1))(hP:∀z∈Z,In.Pt z.1 z.2 so)(hA:∀i(h:i<A.length),∃s n f t a,A[i].2=.mk 3 s n [] f t a)(hl:A.length<=9)(hz:2*Ms.aK (Z.map (·.2))+1<300):
 Cq 13 #[.agg #[v]] w (akW w<|Ms.Fo 300 Z (fm:Int) (tm:Int)):=by
 have hM:(Ms.Fo 300 Z (fm:Int) (tm:Int)).length<=12:=by
  exact RE
 obtain⟨M,eM⟩:∃M,M=Ms.Fo 300 Z (fm:Int) (tm:Int):=⟨_,rfl⟩;have h':=h;obtain⟨va,vc,cs,rfl,HR,HQ⟩:=h;have e3:l.length=3:=by rw[el];rfl
 obtain⟨W,hW⟩:∃W,W=w.alloc (Cv #[Lv va l.length vc] 48):=⟨_,rfl⟩;have K:Bq w W:=by rw[hW];exact bw _
 have B0:Bx W w.heap.size #[Lv va l.length vc]:=by rw[hW];exact qv _ _ _
 obtain⟨b1,b2,b3⟩:=B0;have HV0:=(OL (w:=W) (P:=P) (l:=l) ae (λt vs ms q=>by rw[el]at q;simp at q;obtain⟨_,_,rfl⟩|⟨_,_,rfl⟩:=q<;>simp) (RowV.move h' bA K.size (λb _ z=>K.block b z) λ_ p _=>p));have HV:=ai (HV0.mono λe w1 HL=>by rw[el]at HL;exact HL.va);clear HV0;have HEL:=ai el;have HE3:=ai e3;have HHQ:=ai HQ;have HHR:=ai HR;have HHP:=ai hP;have HHZ:=ai hZ;have HEM:=ai eM;have HHM:=ai hM;have HA:=ai hA;clear el e3 HQ HR hP hZ eM hM h' hA;go_enter func13,ntmps13
 go_upto_region 1 with fail
 rw[<-hW];clear hW
 go_upto_region 2 with(go_at_call 17;refine(uh HV).mono ?_;rintro e w1⟨kb,mb,rfl,V1,M1,k1⟩;have V1:=ai V1;have M1:=ai M1;have K1:=ai k1;clear k1)
 obtain⟨W2,gF⟩:∃W2,W2=(w1.alloc<|Cv #[Mv kb,Mv mb] 64).alloc (Cv #[Lv none 0 0] 40):=⟨_,rfl⟩;have k2:Bq w1 W2:=by rw[gF];exact(bw _).alloc ah _
 have VB:Bx W2 w1.heap.size #[Mv kb,Mv mb]:=by rw[gF];exact(qv _ _ _).alloc _
 have WB:Bx W2 (w1.heap.size+1) #[Lv none 0 0]:=by rw[gF];have:=qv (w1.alloc<|Cv #[Mv kb,Mv mb] 64) #[Lv none 0 0] 40;simpa using this
 have z2:W2.heap.size=w1.heap.size+2:=by rw[gF];simp
 have KK:Bq w w1:=K.trans<|(uh K1).mono K.size;have K2:Bq w W2:=KK.trans<|k2.mono KK.size;have V2:=ai<|(uh V1).af k2;have M2:=ai<|(uh M1).af k2;have zz:=KK.size;have q1:W2.cell? ⟨w.heap.size,0,none⟩=some (Lv va l.length vc):=by
  rw[j9 (a:=⟨w.heap.size,0,none⟩)<|(k2.mono<|br _).block _<|jy b3 (uh K1).size,j9 (a:=⟨w.heap.size,0,none⟩)<|(uh K1).block _ b3];exact b1 0
 have HVB:=ai VB;have HWB:=ai WB;have Fx:=ai K2;clear V1 M1 VB WB K2 k2 b1 b2 KK HV
 go_upto_region 3 with fail
 rw[<-gF];clear gF
 go_wp2
 go_loopg[14] 3 (λgk c wr=>am2 W2 (w1.heap.size+1) M gk c wr)
 case atStart=>exact .inl ⟨0,ai rfl,ae,rfl,ai<|qp _ _⟩
 case round=>
  obtain⟨j,bE,hj,rfl,Kr⟩|⟨bE,rfl,E⟩:=hrel
  .have hE3:=uh HE3;have aI:j<l.length:=ae;have hd:(j:Int)<(l.length:Int):=ae;have i0:(0:Int)<=(j:Int):=ae;obtain⟨g,rfl,-,zg,hc⟩:=(uh HHR).resolve_left (λe=>by rw[e]at aI;simp at aI);have kr:=(uh Fx).trans<|(uh Kr).mono (uh Fx).size;have c0:wr.cell? ⟨g,j,none⟩=some (cs j 0):=(j9 (a:=⟨g,j,none⟩)<|kr.block g zg).trans (by simpa using hc j aI 0 aA);have hq:PD w P l[j] (cs j 0):=uh HHQ j aI;have HKr:=ai kr;clear hc kr;by_cases hj2:j<2
   .have ety:∃t vs ms,l[j]=.ty t vs ms:=by
     obtain rfl|rfl:j=0\/j=1:=ae
     .simp only[uh HEL];exact⟨_,_,_,rfl⟩
     .simp only[uh HEL];exact⟨_,_,_,rfl⟩
    obtain⟨t',vs,ms,et⟩:=ety;rw[et]at hq;obtain⟨f',u',vv,vm,ev,-⟩:=hq;rw[ev]at c0;have ka:∀o,Bq wr<|wr.alloc o:=λo=>bw o;have Kq:=ai λo=>(uh Kr).trans<|(ka o).mono (uh Kr).size;clear ka ev et hE3
    go_wp2
    go_roundg(3-(j+1))
    case measure=>rw[uh bE];omega
    case rel=>exact .inl ⟨j+1,ai rfl,ae,d_,ai<|uh Kq _⟩
   .obtain rfl:j=2:=ae;have elt:l[2]=.lt r t (aaF sx nx sm nm n1 f1 t1 a1 A fm tm am fx tx ax):=by simp only[uh HEL];rfl
    rw[elt]at hq;obtain⟨f',u',vb,ev,-,-,hpe⟩:=hq;obtain⟨y,ga,sc,vp,ve,rfl,-,za,hca,hpa,hea⟩:=ah1 hpe;rw[ev]at c0;obtain⟨wA,xH⟩:∃wA,wA=wr.alloc (Cv #[Iv f',Iv u',.bool r,Nv t.aD,Nv t.t9,Sv t.text,Fv 191<|Av #[Nv fx,Nv tx,Nv ax,Iv y,Sv sx,Fv 82<|Av #[Nv fm,Nv tm,Fv 305<|Av #[Nv f1,Nv t1,Sv sx],Lv (some ⟨ga,0,none⟩) A.length sc]]] 77):=⟨_,rfl⟩;have kA:Bq wr wA:=by rw[xH];exact bw _
    have BA:wA.cell? ⟨wr.heap.size,6,none⟩=some (Fv 191<|Av #[Nv fx,Nv tx,Nv ax,Iv y,Sv sx,Fv 82<|Av #[Nv fm,Nv tm,Fv 305<|Av #[Nv f1,Nv t1,Sv sx],Lv (some ⟨ga,0,none⟩) A.length sc]]):=by rw[xH];exact(qv _ _ _).c 6
    have kWA:Bq W2 wA:=(uh Kr).trans<|kA.mono (uh Kr).size;have kwA:Bq w wA:=(uh Fx).trans<|kWA.mono (uh Fx).size;have zga:ga<w.heap.size:=za;have HL:=aaH (fx:=(fx:Int)) (tx:=(tx:Int)) (ax:=(ax:Int)) (y:=y) (sx:=sx) (lx:=#[Nv f1,Nv t1,Sv sx]) (sc:=sc) (fm:=fm) (tm:=tm) (wb:=w1.heap.size+1) (vb:=w1.heap.size) (jy za kwA.size) ae (uC za kwA hca) (λi hi=>(hpa i hi).move kwA.size (λb _ z=>kwA.block b z) λ_ _ _=>trivial) (λi hi=>by have⟨s,n,f,t,a,e⟩:=uh HA i hi;have q:=hea i hi;rw[e]at q;exact ah2 q) (uh HHZ) (uh HHP) hl hz ((uh V2).af kWA) ((uh M2).af kWA) ((uh HVB).below kWA)<|(uh HWB).below kWA;rw[<-uh HEM]at HL;have HLL:=ai HL;have KWA:=ai kWA;clear hpe hca hpa hea elt ev kA kWA kwA hE3 HL
    go_upto_region 7 with fail
    rw[<-xH];clear xH c0;go_wp2_with(go_at_call 18;refine(uh HLL).mono ?_;intro e w4 HW;obtain rfl:=HW.1;have HW4:=ai HW;clear HW);go_roundg 0
    case measure=>rw[uh bE];omega
    case rel=>
     obtain⟨-,v4,R4,B4,F4⟩:=uh HW4;exact .inr ⟨ai rfl,d_,ai ⟨v4,R4.base (uh KWA).size,B4,(Fr.of<|uh KWA).trans F4⟩⟩
  .have hE3:=uh HE3;have⟨v4,R4,B4,F4⟩:=uh E;have hd:decide ((3:Int)<(l.length:Int))=false:=by rw[hE3];rfl
   have HS:=ai (aaG R4 (by rw[uh HEM];exact uh HHM));have x4:wr.cell? ⟨w1.heap.size+1,0,none⟩=some v4:=B4.c 0;obtain⟨va4,vc4,hv4,-⟩:=R4.Vd;obtain⟨N4,hN4⟩:∃N4,N4=M.length:=⟨_,rfl⟩;rw[<-hN4]at hv4;subst hv4;have HB4:=ai B4;have HF4:=ai F4;clear hE3 B4 F4 R4 hN4;go_wp2_with(go_at_call 21;refine(uh HS).mono ?_;rintro e w5⟨rfl,ys,hp,RV,F5⟩;have x5:w5.cell? ⟨w1.heap.size+1,0,none⟩=some (Lv va4 N4 vc4):=((uh HB4).fr F5 (by have:=(uh HF4).size;omega)).c 0;have H5:=ai<|xj hp<|xj RV F5;clear hp RV F5);go_ret;have⟨hp,RV,F5⟩:=uh H5;have F4:=uh HF4;have k2:=uh Fx;refine⟨_,ys,rfl,by rw[<-uh HEM];exact hp,RV.move Ms.cx (br _) (λ_ _ _=>rfl) λb q _=>j5 k2.size q,?_⟩;exact⟨(F5.os.trans F4.os).trans k2.os,(F5.tape.trans F4.tape).trans k2.tape,(F5.output.trans F4.output).trans k2.output,by have:=k2.size;have:=F4.size;have:=F5.size;omega,λk hk=>((F5.block k (by have:=k2.size;have:=F4.size;omega) (by have:=k2.size;omega)).trans<|F4.block k (by have:=k2.size;omega) ae).trans<|k2.block k hk⟩
end
section
open Go.ChangeMaps Go.MapKept
def FAR w0 cb tb mb lb(nl:List BA)(l:List Dc)gk c wr:=∃(j:Nat)(ty mk:BA->Option Nat)(mks:xd)(nm:List BA)(lo:BA->Nat),Hid (gk=l.length-j)/\j<=l.length/\c=Nv j/\CK wr cb tb mb lb ty mk lo/\yA nl (l.drop j) ty mk mks nm/\(∀x∈nm,lo x≠0)/\(∀x,lo x<=j)/\Fr (λb=>b=tb\/b=mb\/b=lb) w0 wr
def adB{u}(hr:RowV QD 1 w (·<w.heap.size) l u)(hS:yA nl l Yo (λ_=>none) (λ_=>none) [])(hl:XK l<=802):
 Cq 24 #[.agg #[u]] w λe w'=>e=.returned (.agg #[Iv 0,Iv 0,Iv 0])/\Bq w w':=by
 obtain⟨va,vc,cs,rfl,HW,HQ⟩:=hr;have Iz:=Ej l;have cU:Bq w ((w.alloc<|Cv #[Lv va l.length vc] 48).alloc<|Cv #[Iv 0,Iv 0,Iv 0] 38):=(bw _).alloc ah _;have B1:=ai<|(Bx.new w #[Lv va l.length vc] 48).alloc<|Cv #[Iv 0,Iv 0,Iv 0] 38;have F1:Bx ((w.alloc<|Cv #[Lv va l.length vc] 48).alloc<|Cv #[Iv 0,Iv 0,Iv 0] 38) (w.heap.size+1) #[Iv 0,Iv 0,Iv 0]:=(by have:=Bx.new (w.alloc<|Cv #[Lv va l.length vc] 48) #[Iv 0,Iv 0,Iv 0] 38;simpa using this);have eE:=ai cU;have HC:=Ed (w:=(w.alloc<|Cv #[Lv va l.length vc] 48).alloc<|Cv #[Iv 0,Iv 0,Iv 0] 38);have⟨c1,f1,y1⟩:=uh B1;go_enter func24,ntmps24;go_wp2_with fail;refine HC.mono ?_;rintro e w2⟨cb,tb,mb,lb,rfl,b2,hz,D2⟩;have IA:w.heap.size+2<=cb/\w.heap.size+2<=tb/\w.heap.size+2<=mb/\w.heap.size+2<=lb:=by simpa using hz
 have h_:=eE.trans<|b2.mono eE.size;have B2:=ai<|B1.below b2;have F2:=F1.below b2;have Qp:=h_.size;have⟨c1,f1,y1⟩:=uh B2
 go_wp2
 go_loopg[10] l.length (λgk c wr=>FAR w2 cb tb mb lb nl l gk c wr)
 case atStart=>exact⟨0,_,_,_,_,_,ai rfl,jz _,rfl,D2,hS,ah,λx=>br _,Fr.refl _ _⟩
 case round=>
  obtain⟨j,ty,mk,mks,nm,lo,bE,hj,rfl,hD,HO,LR,rA,FR⟩:=hrel;have DR':=ai hD;have hBW:Bq w wr:=⟨FR.os.trans h_.os,FR.tape.trans h_.tape,FR.output.trans h_.output,j5 h_.size FR.size,λb hb=>(FR.block b (jy hb h_.size)<|λq=>ae).trans<|h_.block b hb⟩;have F3:=ai<|F2.fr FR<|λq=>ae;by_cases aZ:j<l.length
  .have hd:(j:Int)<(l.length:Int):=ae;obtain⟨g,rfl,-,hg,oY⟩:∃g,va=some ⟨g,0,none⟩/\g<w.heap.size/\g<w.heap.size/\∀i,i<l.length->∀j,j<1->w.cell? ⟨g,i*1+j,none⟩=some (cs i j):=by
    obtain e|e:=HW
    .exact absurd aZ qBq
    .exact e
   have d0:=(j9 (a:=⟨g,j*1+0,none⟩)<|hBW.block g hg).trans<|oY j aZ 0 ae;simp only[Nat.mul_one,j8]at d0;have Mw:=HQ j aZ;have HPD:=Mw.move hBW.size (λb _ z=>hBW.block b z) (Q:=(·<w.heap.size))<|λ_ p _=>p;have⟨t1,x1,e1⟩:=Mw.iface;rw[e1]at d0 HPD;rw[List.drop_eq_getElem_cons aZ]at HO;have hS2:=HO;have HC:Cq 46 #[cp cb,Fv t1<|Av x1] wr λe w'=>e=Rv (.tuple #[])/\Fr (λb=>b=tb\/b=mb\/b=lb) wr w'/\∃ty' mk' adC nm' Ye,CK w' cb tb mb lb ty' mk' Ye/\yA nl (l.drop<|j+1) ty' mk' adC nm'/\(∀x∈nm',Ye x≠0)/\∀x,Ye x<=j+1:=by
    have hz:=QG<|jq aZ;generalize l[j]=d at HPD hS2 hz
    cases d with
    |ty t vs ms=>exact(adp DR' ae ae HPD hS2.1.1).mono λe w' q=>⟨q.1,q.2.1,_,_,_,_,_,q.2.2,hS2.2,LR,λx=>Nat.le_succ_of_le<|rA x⟩|lt r t b=>
     obtain⟨⟨rfl,h1,h2,h3⟩,h4⟩:=hS2;refine(adq DR' ae HPD h1.e (λx q=>q.elim (LR x) λq=>absurd q.1 ah) h2 (by simp only[nd3]at hz;omega) (λx=>qAv)).mono λe w' q=>⟨q.1,q.2.1,_,_,_,_,_,q.2.2,h4,λx hx=>?_,λx=>?_⟩
     .obtain z|z:=List.mem_append.1 hx
      .have:=LR x z;show(if x=t.text then lo t.text+1 else lo x)≠0;split<;>omega
      .rw[List.mem_singleton.1 z];simp
     .show(if x=t.text then lo t.text+1 else lo x)<=j+1;have:=rA x;have:=rA t.text;split<;>omega
   go_wp2_with fail;refine HC.mono ?_;rintro e w3⟨rfl,k3,ty',mk',adC,nm',Ye,D3,O3,L3,H3⟩;have K3:=FR.trans k3
   go_wp2
   go_roundg(l.length-(j+1))
   case measure=>rw[uh bE];omega
   case rel=>exact⟨j+1,ty',mk',adC,nm',Ye,ai rfl,ae,d_,D3,O3,L3,H3,K3⟩
  .have hd:decide ((j:Int)<(l.length:Int))=false:=bi;have⟨c4,f4,y4⟩:=DR'.bx;have⟨c3,f3,y3⟩:=uh F3;have B5:=ai<|F3.pW rfl (Iv 0) (Iv 0) (Iv 0);go_wp2_with fail;have⟨c5,f5,z5⟩:=uh B5;refine bodyPost_ret (v:=Av #[Iv 0,Iv 0,Iv 0]) (by simp[results,Tryz.results24,go_sem,c5]) rfl ?_;exact⟨rfl,((hBW.setCell (j7 _) _).setCell (j7 _) _).setCell (j7 _) _⟩
end
section
open Un
def IW(h:Laid w)(hr:lB s=.ok l)(hO:yA nl l Yo (λ_=>none) (λ_=>none) [])(hl:XK l<=802):Calls qm 14 #[.string s] w λe w'=>∃u,e=.returned (.tuple #[.agg #[u],.agg #[.int .i64 0,.int .i64 0,.int .i64 0]])/\Below w.heap.size w w'/\RowV QD 1 w' (λb=>w.heap.size<=b) l u:=by
 obtain⟨W0,BZ⟩:∃W0,W0=(w.alloc<|.cells #[.slice none 0 0] 48).alloc (.cells #[.int .i64 0,.int .i64 0,.int .i64 0] 38):=⟨_,rfl⟩;have b8:Below w.heap.size w W0:=by rw[BZ];exact(bw _).alloc ah _
 have A0:Bx W0 w.heap.size #[.slice none 0 0]:=by rw[BZ];exact(qv w _ _).alloc _
 have B0:Bx W0 (w.heap.size+1) #[.int .i64 0,.int .i64 0,.int .i64 0]:=by rw[BZ];have:=qv (w.alloc<|.cells #[.slice none 0 0] 48) #[.int .i64 0,.int .i64 0,.int .i64 0] 38;simpa using this
 have HC:=Vn (h.af b8) hr;have HW:=ai BZ;clear h BZ;go_enter func14,ntmps14;go_wp2_with fail;rw[<-uh HW];refine HC.mono ?_;rintro e w1⟨u,rfl,cU,aE⟩;obtain⟨va,vc,cs,rfl,-⟩:=id aE;have eE:=b8.trans<|cU.mono b8.size;obtain⟨W1,fV⟩:∃W1,W1=(w1.alloc<|.cells #[.slice va l.length vc] 48).alloc (.cells #[.int .i64 0,.int .i64 0,.int .i64 0] 38):=⟨_,rfl⟩;have mq:Below w1.heap.size w1 W1:=by rw[fV];exact(bw _).alloc ah _
 have h_:=eE.trans<|mq.mono eE.size;have A2:=ai<|(A0.below cU).below mq;have B2:=ai<|(B0.below cU).below mq;have P2:Hid (Bx W1 w1.heap.size #[.slice va l.length vc]):=ai (by rw[fV];exact(qv w1 _ _).alloc _);obtain⟨c4,f4,z4⟩:Bx W1 (w1.heap.size+1) #[.int .i64 0,.int .i64 0,.int .i64 0]:=by rw[fV];have:=qv (w1.alloc<|.cells #[.slice va l.length vc] 48) #[.int .i64 0,.int .i64 0,.int .i64 0] 38;simpa using this
 have Hw:=ai fV;have gS:=eE.size;have ku:=B0.z;have gC:=cU.size;unfold flV;have yX:RowV QD 1 W1 (λb=>W0.heap.size<=b/\b<w1.heap.size) l (.slice va l.length vc):=aE.move bA mq.size (λb _ z=>mq.block b z)<|λb p z=>⟨p,z⟩;have IL:=ai yX;have XI:∀W,Below W1.heap.size W1 W->Calls qm 24 #[.agg #[.slice va l.length vc]] W λe w'=>e=.returned (.agg #[.int .i64 0,.int .i64 0,.int .i64 0])/\Below W.heap.size W w':=λW k=>adB (yX.move bA k.size (λb _ z=>k.block b z)<|λb p z=>jy z k.size) hO hl;have hzw:=mq.size;rw[show Nv Vo.kind=.int .i64 0 from rfl,show Nv Vo.aD=.int .i64 0 from rfl,show Nv Vo.t9=.int .i64 0 from rfl];clear HC b8 cU eE A0 B0 aE yX mq fV HW hO;go_wp2_with fail;rw[<-uh Hw];obtain⟨c3,f3,z3⟩:=uh P2;go_region_with(go_at_call 24;refine(XI _ (qp _ _).drew).mono ?_;rintro e w3⟨rfl,yc⟩;have K3:=(qp W1.heap.size W1).drew.trans yc;have A3:=A2.below K3;have B3:=B2.below K3;have P3:=P2.below K3;have HK3:=ai K3;have HA3:=ai A3;have HB3:=ai B3;obtain⟨a1,a2,a3⟩:=A3;obtain⟨b1,b2,b3⟩:=B3;obtain⟨p1,p2,p3⟩:=P3;clear yc K3)
 all_goals(
  go_wp2_with fail;have yc:=uh HK3;obtain⟨c5,f5,z5⟩:=(HB3.gE (b2:=w.heap.size) ae 0<|.slice va l.length vc).pW rfl (.int .i64 0) (.int .i64 0) (.int .i64 0);obtain⟨c6,f6,z6⟩:=(HA3.mE 0 (.slice va l.length vc) #[.slice va l.length vc] ah ah).aj9 (b2:=w.heap.size+1) ae (.int .i64 0) (.int .i64 0)<|.int .i64 0;refine bodyPost_ret (v:=.tuple #[.agg #[.slice va l.length vc],.agg #[.int .i64 0,.int .i64 0,.int .i64 0]]) (by simp[results,Tryz.results14,go_sem,c5,c6]) rfl ?_;have kk:Fr (λb=>b=w.heap.size\/b=w.heap.size+1) w3 ((((w3.setCell ⟨w.heap.size,0,none⟩<|.slice va l.length vc).setCell ⟨w.heap.size+1,0,none⟩<|.int .i64 0).setCell ⟨w.heap.size+1,1,none⟩<|.int .i64 0).setCell ⟨w.heap.size+1,2,none⟩<|.int .i64 0):=((((Fr.refl _ _).set (xg<|xg rfl) 0 _).set (xg<|xh rfl) 0 _).set (xg<|xh rfl) 1 _).set (xg<|xh rfl) 2 _;have k3:=h_.trans<|yc.mono h_.size;have z3':=yc.size
  exact⟨.slice va l.length vc,rfl,Fr.Nj k3 k3.size kk (λx q=>by obtain rfl|rfl:=q<;>omega),IL.move bA (by have:=kk.size;omega) (λb p z=>(kk.block b ae (λq=>by obtain rfl|rfl:=q<;>omega)).trans (yc.block b z)) (λb p z=>ae)⟩)
def Ff.len{S:List Ms.Sk}(h:Ff t ls S):ls.length=S.length:=by induction h<;>simp[*]
def uE:∀(L:List (List UInt8))(a:List UInt8),L≠[]->dc (L++[a])=dc L++[124]++a++[45,62,49]
 |[],_,h=>absurd rfl h|[b],a,_=>by simp[dc]|b::c::r,a,_=>by
  have:=uE (c::r) a ah;simp only[jj,dc]at this⊢;rw[this];simp
def uF:∀(L:List (List UInt8))(i:Nat),(dc<|L.take i).length<=(dc L).length
 |[],i=>ah|_::_,0=>by simp[dc]|[b],i+1=>ah|b::c::r,1=>by simp[dc]|b::c::r,i+2=>by
  have:=uF (c::r)<|i+1;simp only[List.take_succ_cons,dc,dr]at this⊢;omega
def JZ:∀(L:List (List UInt8)),(dc L).length<=(L.map jf).sum+4*L.length
 |[]=>by simp[dc]|[b]=>by simp[dc]|b::c::r=>by
  have:=JZ (c::r);simp only[dc,dr,de,jd,List.sum_cons,eF]at this⊢;omega
def FE:List UInt8:=OD++([108,101,116,32,120,61,102,117,110,32,97,45,62]++[109,97,116,99,104,32,97,32,119,105,116,104,32])
def yo(ls:List (List UInt8)):cS ls=FE++dc ls++[32,101,110,100,59]:=by simp[cS,FE]
def sD(ls:List (List UInt8)):(cS ls).length<=83+(ls.map jf).sum+4*ls.length:=by
 have:=JZ ls;rw[yo];simp only[dr,show FE.length=78 from rfl,de,eF];omega
def aaM{lc:Nat}(ht:Txt w g ls.length (λj=>bs<|ls.getD j []))(hg:g<w.heap.size)(hz:(cS ls).length<=400)(hl:ls.length<=9):
 Cq 9 #[.slice (some ⟨g,0,none⟩) ls.length lc] w λe w'=>e=.returned (.tuple #[.string<|bs<|cS ls,Iv 65])/\Bq w w':=by
 have h78:FE.length=78:=rfl;have IA:(dc ls).length<=322:=by have:=congrArg jf<|yo ls;simp only[dr,h78,de,eF]at this;omega
 have HZ:=ai IA;clear hz IA;go_enter func9,ntmps9
 go_wp2
 go_loopg[4,6] ls.length (λgk s c wr=>∃j:Nat,Hid (gk=ls.length-j)/\j<=ls.length/\s=Sv (bs<|FE++dc (ls.take j))/\c=Nv j/\Bq w wr)
 case atStart=>exact⟨0,ai rfl,jz _,qkr,rfl,qp _ _⟩
 case round=>
  obtain⟨j,bE,hj,rfl,rfl,HB⟩:=hrel;have hs:(bs<|FE++dc (ls.take j)).size<=400:=by
   have:=uF ls j;have:=uh HZ;rw[bS,dr,h78];omega
  by_cases aZ:j<ls.length
  .have hd:(j:Int)<(ls.length:Int):=ae;have a0:wr.cell? ⟨g,j,none⟩=some (Sv<|bs<|ls.getD j []):=(j9 (a:=⟨g,j,none⟩)<|HB.block g hg).trans<|ht j aZ;have et:ls.take (j+1)=ls.take j++[ls.getD j []]:=by rw[jm aZ,jc,ja aZ];rfl
   have BU:(bs<|ls.getD j []).size<=400:=by
    have:=uF ls<|j+1;have:=uh HZ;rw[et]at*;rw[bS];by_cases h0:ls.take j=[]
    .simp only[h0,jk,dc,dr]at*;omega
    .rw[uE _ _ h0]at*;simp only[dr]at*;omega
   have ET:=ai et;clear et;generalize ls.getD j []=l at*;obtain⟨X,eX⟩:∃X,X=bs (FE++dc (ls.take j)):=⟨_,rfl⟩;rw[<-eX]at hs⊢;have EX:=ai eX;clear eX;by_cases h0:j=0
   .subst h0
    go_wp2
    go_roundg(ls.length-1)
    case measure=>rw[uh bE];omega
    case rel=>
     refine⟨1,ai rfl,ae,?_,d_,HB⟩;rw[uh ET,uh EX];simp only[List.take_zero,jk,dc,jt];show Sv (bs FE++bs l++bs [45,62,49])=_;simp only[om,jo]
   .have XP:(0:Int)<(j:Int):=ae;have cJ:ls.take j≠[]:=λe=>by have:=congrArg jf e;simp only[List.length_take,eF]at this;omega
    go_wp2
    go_roundg(ls.length-(j+1))
    case measure=>rw[uh bE];omega
    case rel=>
     refine⟨j+1,ai rfl,ae,?_,d_,HB⟩;rw[uh ET,uE _ _ cJ,uh EX];show Sv (bs (FE++dc (ls.take j))++bs [124]++bs l++bs [45,62,49])=_;simp only[om,jo]
  .have hd:decide ((j:Int)<(ls.length:Int))=false:=bi
   go_wp2
   go_ret2;refine⟨?_,HB⟩;obtain rfl:j=ls.length:=ae;rw[jv,yo,<-om];rfl
def soN:Ms.So->Int
 |.i=>0|.b=>1|.l=>2|.p=>3|.s=>4
def soH:Ms.So->Nat->Nat
 |.l,d=>2*d|.p,d=>2*d|.s,_=>3|_,_=>1
def J4:Ms.So->Nat->Nat
 |.l,d=>10*d+1|.p,d=>10*d+1|.s,_=>15|_,_=>5
structure FI(t:Ms.So)(d:Nat)(l:List UInt8)(s:Ms.Sk):Prop where
 x:nu 5 l s t
 h:Ms.bO s<=soH t d
 z:l.length<=J4 t d
def FI.any(t:Ms.So)(d:Nat):FI t d [95] .any:=⟨.any t,by simp[Ms.bO],by cases t<;>simp[J4]<;>omega⟩
def FI.aM{d:Nat}{l m:List UInt8}{a b:Ms.Sk}(h:FI .b d l a)(g:FI .l d m b):FI .l (d+1) ([40,67,32]++l++[32]++m++[41]) (.hd .l 1 [a,b]):=⟨by have:=nu.xU<|.aM h.x g.x;simpa using this,by have:=h.h;have:=g.h;simp only[Ms.bO,Ms.aK,soH]at*;omega,by have:=h.z;have:=g.z;simp only[J4,dr,de,eF]at*;omega⟩
def FI.q{d:Nat}{l m:List UInt8}{a b:Ms.Sk}(h:FI .i d l a)(g:FI .b d m b):FI .s (d+1) ([40,81,32]++l++[32]++m++[41]) (.hd .s 1 [a,b]):=⟨by have:=nu.xU<|.q h.x g.x;simpa using this,by have:=h.h;have:=g.h;simp only[Ms.bO,Ms.aK,soH]at*;omega,by have:=h.z;have:=g.z;simp only[J4,dr,de,eF]at*;omega⟩
def FI.pr{d:Nat}{l m:List UInt8}{a b:Ms.Sk}(h:FI .l d l a)(g:FI .b d m b):FI .p (d+1) ([40]++l++[44,32]++m++[41]) (.hd .p 0 [a,b]):=⟨by have:=nu.pr h.x g.x;simpa using this,by have:=h.h;have:=g.h;simp only[Ms.bO,Ms.aK,soH]at*;omega,by have:=h.z;have:=g.z;simp only[J4,dr,de,eF]at*;omega⟩
section
variable {xb len cap:Nat} {p:Option Addr} {r:Nat->Int}
def am7(xb:Nat)(p:Option Addr)(len cap:Nat)(r:Nat->Int)(t:Ms.So)(d:Nat)(w:World)(e:Ending)(w':World):=∃l s,e=.returned (.string<|bs l)/\FI t d l s/\FK xb p len cap r w w'
def iT:List (List UInt8):=[[48],[49],[50],[95]]
def bT:List (List UInt8):=[[116,114,117,101],[102,97,108,115,101],[95]]
def ak0(d j:Nat)(hj:j<4):∃s,FI .i d (iT.getD j []) s:=by
 have n:∀c,ql c.toNat=true->FI .i d [c] (.hd .i (xM<|bs [c]) []):=λc h=>⟨.num c [] (by simp[h]) ah,by simp[Ms.bO,Ms.aK,soH],by simp[J4]⟩;obtain rfl|rfl|rfl|rfl:j=0\/j=1\/j=2\/j=3:=ae
 .exact⟨_,n 48 aA⟩
 .exact⟨_,n 49 aA⟩
 .exact⟨_,n 50 aA⟩
 .exact⟨_,.any .i d⟩
def ak1(d j:Nat)(hj:j<3):∃s,FI .b d (bT.getD j []) s:=by
 obtain rfl|rfl|rfl:j=0\/j=1\/j=2:=ae
 .exact⟨_,.Hv true,by simp[Ms.bO,Ms.aK,soH],by simp[J4,bT]⟩
 .exact⟨_,.Hv false,by simp[Ms.bO,Ms.aK,soH],by simp[J4,bT]⟩
 .exact⟨_,.any .b d⟩
abbrev iV:Array Value:=#[.string ⟨#[48]⟩,.string ⟨#[49]⟩,.string ⟨#[50]⟩,.string ⟨#[95]⟩]
abbrev bV:Array Value:=#[.string ⟨#[116,114,117,101]⟩,.string ⟨#[102,97,108,115,101]⟩,.string ⟨#[95]⟩]
def aia(w1:World):Txt (w1.alloc<|.cells iV 9) w1.heap.size 4 (λj=>bs<|iT.getD j []):=by
 intro j hj;rw[(qv w1 iV 9).c j];obtain rfl|rfl|rfl|rfl:j=0\/j=1\/j=2\/j=3:=ae;all_goals rfl
def aib(w1:World):Txt (w1.alloc<|.cells bV 9) w1.heap.size 3 (λj=>bs<|bT.getD j []):=by
 intro j hj;rw[(qv w1 bV 9).c j];obtain rfl|rfl|rfl:j=0\/j=1\/j=2:=ae;all_goals rfl
def Dt{p:Prop}(h:p:=by
 rw[<-om,<-om,<-om,<-om]
 rfl):p:=h
def aic:∀(d:Nat),d<=3->∀(t:Ms.So)(w:World)(A:Nat),Src w xb p len cap r A->Cq 6 #[Pv xb,Iv<|soN t,Nv d] w (am7 xb p len cap r t d w):=by
 have al:∀(C:Array Value)(w1:World),Bq w1<|w1.alloc<|Cv C 9:=λ_ w1=>bw _;intro d
 induction d with
 |zero=>
  intro _ t w A h;have HC:=yp h 5 ae ae;go_enter func6,ntmps6;go_wp2_with fail;refine HC.mono ?_;rintro e w1⟨q,rfl,q0,q1,HS⟩
  go_wp2
  go_ret;exact⟨[95],.any,rfl,.any t 0,HS⟩
 |succ d ih=>
  intro hd t w A h;have IH:=ih ae;have HC:=yp h 5 ae ae;have XP:(((d+1:Nat):Int)==0)=false:=bi;have II:((d+1:Nat):Int)-1=(d:Int):=ae;go_enter func6,ntmps6;go_wp2_with fail;refine HC.mono ?_;rintro e w1⟨q,rfl,q0,q1,A1,HS,HK⟩;by_cases h0:q=0
  .subst h0
   go_wp2
   go_ret;exact⟨[95],.any,rfl,.any t _,A1,HS,HK⟩
  have h0':(q==0)=false:=by simpa using h0
  cases t with
  |i=>
   simp only[soN];go_wp2_with fail;refine(aaN (n:=4) (f:=λj=>bs<|iT.getD j []) (HS.af<|al iV w1) (aia w1) ah (by have:=HS.b.z;omega) ae ae).mono ?_;rintro e w2⟨j,hj,rfl,A2,MZ,Fx⟩;have⟨s,HM⟩:=ak0 (d+1) j hj
   go_wp2
   go_ret;exact⟨_,s,rfl,HM,A2,MZ,(HK.below<|al iV w1).trans Fx⟩
  |b=>
   simp only[soN];go_wp2_with fail;refine(aaN (n:=3) (f:=λj=>bs<|bT.getD j []) (HS.af<|al bV w1) (aib w1) ah (by have:=HS.b.z;omega) ae ae).mono ?_;rintro e w2⟨j,hj,rfl,A2,MZ,Fx⟩;have⟨s,HM⟩:=ak1 (d+1) j hj
   go_wp2
   go_ret;exact⟨_,s,rfl,HM,A2,MZ,(HK.below<|al bV w1).trans Fx⟩
  |l=>
   simp only[soN];by_cases h1:q=1
   .subst h1
    go_wp2
    go_ret;exact⟨[78],_,rfl,⟨.nil,by simp[Ms.bO,Ms.aK,soH];omega,by simp[J4]⟩,A1,HS,HK⟩
   have h1':(q==1)=false:=by simpa using h1
   go_wp2_with fail;refine(IH .b w1 A1 HS).mono ?_;rintro e w2⟨l,a,rfl,wZ,A2,MZ,XV⟩;have Fx:=HK.trans XV;have mq:(bs l).size<=74:=by have h1:=wZ.z;rw[bS];simp only[J4]at h1;omega
   go_wp2_with fail;refine(IH .l w2 A2 MZ).mono ?_;rintro e w3⟨m,b,rfl,HM3,A3,X9,vW⟩;have HK3:=Fx.trans vW;have yc:(bs m).size<=74:=by have h1:=HM3.z;rw[bS];simp only[J4]at h1;omega
   go_wp2
   go_ret;refine⟨_,_,?_,wZ.aM HM3,A3,X9,HK3⟩;exact Dt
  |p=>
   simp only[soN];go_wp2_with fail;refine(IH .l w1 A1 HS).mono ?_;rintro e w2⟨l,a,rfl,wZ,A2,MZ,XV⟩;have Fx:=HK.trans XV;have mq:(bs l).size<=74:=by have h1:=wZ.z;rw[bS];simp only[J4]at h1;omega
   go_wp2_with fail;refine(IH .b w2 A2 MZ).mono ?_;rintro e w3⟨m,b,rfl,HM3,A3,X9,vW⟩;have HK3:=Fx.trans vW;have yc:(bs m).size<=74:=by have h1:=HM3.z;rw[bS];simp only[J4]at h1;omega
   go_wp2
   go_ret;refine⟨_,_,?_,wZ.pr HM3,A3,X9,HK3⟩;exact Dt
  |s=>
   simp only[soN];by_cases h1:q=1
   .subst h1
    go_wp2
    go_ret;exact⟨[80],_,rfl,⟨.p,by simp[Ms.bO,Ms.aK,soH],by simp[J4]⟩,A1,HS,HK⟩
   have h1':(q==1)=false:=by simpa using h1
   go_wp2_with fail;refine(IH .i w1 A1 HS).mono ?_;rintro e w2⟨l,a,rfl,wZ,A2,MZ,XV⟩;have Fx:=HK.trans XV;have mq:(bs l).size<=74:=by have h1:=wZ.z;rw[bS];simp only[J4]at h1;omega
   go_wp2_with fail;refine(IH .b w2 A2 MZ).mono ?_;rintro e w3⟨m,b,rfl,HM3,A3,X9,vW⟩;have HK3:=Fx.trans vW;have yc:(bs m).size<=74:=by have h1:=HM3.z;rw[bS];simp only[J4]at h1;omega
   go_wp2
   go_ret;refine⟨_,_,?_,wZ.q HM3,A3,X9,HK3⟩;exact Dt
end
end
end Go.Proofs.YtopmodaakdnliaaGreatDoor
