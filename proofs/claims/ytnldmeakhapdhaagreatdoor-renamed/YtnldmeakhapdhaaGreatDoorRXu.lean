import Derived.Test.YtnldmeakhapdhaaGreatDoorRCc
import Derived.Test.YtnldmeakhapdhaaGreatDoorRPl
set_option linter.all false
set_option maxRecDepth 100000
set_option maxHeartbeats 8000000
namespace Go.Proofs.YtnldmeakhapdhaaGreatDoor
open Pu renaming bH->ja,Tok->jc
open Un renaming eu->jd,seen->jf,Fin->jh,par->ji,Eq->jj
open _root_.List renaming getElem_mem->jk,mem_cons_of_mem->jl,getElem?_eq_getElem->jm,take_succ_eq_append_getElem->jo,map_cons->jp,take_length->jq,getElem?_append_right->jt,getElem?_append_left->ju,take_append_drop->jv,map_congr_left->jx,countP_cons->jy
open Or renaming inr->jz,inl->j5
open _root_.Nat renaming le_trans->j6,zero_le->j7,lt_of_lt_of_le->j8,not_lt_zero->j9,strongRecOn->qe
open _root_.Array renaming replicate->qf,getD_eq_getD_getElem?->qg,getElem?_setIfInBounds_ne->qh,getElem?_eq_getElem->qi
open Go.World renaming cell?_of_block->qk,setCell->ql,cell?->qm,frozen?->qn
open In renaming sg->qp,isM->qr,St->qs,bO->qt,ur->qu,Vm->qv
open Go.ByteArray renaming toList_eq->qw
open Go.RowKit.Below renaming heap_setCell->qx,refl->qy
open SizeOf renaming sizeOf->qz
open Bool renaming not_eq_true->q9
open Go.Proofs.Tryz renaming prog->xc
open Un.Ty renaming aM->xd
open Go Go.RowKit Proofs.Tryz
variable {C ca cb:Array Value} {c c' last s:BA} {ds l l' ps:List Nat} {T:List jc} {d:M Dc} {e expr sS sm:M Nd} {m:MV} {B N a b f h j k kb mb n nb pb rb sb x y:Nat} {cB sq mQ vr:Nat->Nat} {ly:Nat->Option Addr×Nat} {D F P Q S:Nat->Prop} {U V VF θ:Nat->Un.Ty} {nd:Nd} {q:Option (BA×List Nat)} {sa:Option Addr} {t:jc} {α β:Type} {ta tb tx:TypeId} {bi e_ q_ gY:Un.Nx} {str:Un.xG} {v:Value} {w w':World}
section
open Go.ChangeMaps
def mR{γ:Type}m(f:α->M β)(g:β->M γ):aK (aK m f) g=aK m λa=>aK (f a) g:=by grind[aK]
def Pd(T:List jc)(sS expr:M Nd):M (Nd×Nd):=aK sS λp=>aK (bz T rG) λ_=>aK expr λe k=>.ok ((p,e),k)
def ajU w P(a:Nd×Nd)(v:Value):=∃(u1 u2:Int)(vp ve:Value),v=.agg #[Iv u1,Iv u2,vp,ve]/\PP w P a.1 vp/\PE w P a.2 ve
def Bx.ajV(h:Bx w b C)(hC:C.size=4)v0 v1 v2 v3:Bx ((((w.setCell ⟨b,0,none⟩ v0).setCell ⟨b,1,none⟩ v1).setCell ⟨b,2,none⟩ v2).setCell ⟨b,3,none⟩ v3) b #[v0,v1,v2,v3]:=by
 obtain⟨a0,a1,a2,a3,rfl⟩:∃a0 a1 a2 a3,C=#[a0,a1,a2,a3]:=by
  obtain⟨l⟩:=C
  match l,hC with
  |[a,b,c,d],_=>grind
 exact(((h.aR 0 v0 #[v0,a1,a2,a3] rfl ag).aR 1 v1 #[v0,v1,a2,a3] rfl ag).aR 2 v2 #[v0,v1,v2,a3] rfl ag).aR 3 v3 #[v0,v1,v2,v3] rfl ag
def abo(hm:mY e):mY (bindM T e):=λk a k' h=>by
 rw[bindM]at h;split at h
 .have⟨_,k2,h3,h4⟩:=aA h;have⟨_,k3,h5,h6⟩:=aA h4;have⟨_,k4,h7,h8⟩:=aA h6
  cases h8
  have:=eR _ _ _ _ h3;have:=bB _ _ _ _ h5;have:=Gl hm _ _ _ h7;omega
 .have⟨_,k2,h3,h4⟩:=aA h;have⟨_,k3,h5,h6⟩:=aA h4;have⟨_,k4,h7,h8⟩:=aA h6
  cases h8
  have:=eR _ _ _ _ h3;have:=bB _ _ _ _ h5;have:=hm _ _ _ h7;omega
def ad3(hs:s.size<=1000)(IH:fA s n)(h:SX w N rb sb m s k)(hn:(ja s 0).length<=k+1+n):
 Cq 80 #[rp rb] w (ap PE N rb sb m s (oe (ja s 0) (bq (ja s 0) n) k) w):=by
 have W5:=h_;have Zy:=kL;refine cI.Ae h rfl λH=>?_;go_enter func80,ntmps80;go_wp2_with fail;refine(H.re<|congrFun (mR _ _ _) _).take ?_;intro w1 H;go_wp2_with fail;refine H.call (DQ hs IH H.sx ae) ?_;intro b k2 v2 w2 H q V;obtain⟨ve,rfl,V,-⟩:=V;obtain⟨te,xe,rfl⟩:=V.iface;clear V;have l2:k+1<k2:=abo (kM n) _ _ _ q;go_wp2_with fail;refine H.box.take ?_;intro w3 H;go_wp2_with fail;refine H.expr IH ?_;intro c k4 t4 x4 w4 H l4;have⟨⟨_,c1,f1,z1⟩,_⟩:=H.p
 go_wp2
 go_region_with(go_at_call 133;refine H.drew.since ?_;intro w5 H;have⟨⟨_,c1,f1,z1⟩,_⟩:=H.p)
 all_goals(
  go_wp2
  go_ret;refine H.done ?_;rintro⟨⟨⟨_,ve,e,A,B,C,D⟩,_⟩,V⟩
  cases e
  exact .lt _ _ _ _ _ _ _ _ _ _ _ B C D A V)
def afw(hs:s.size<=1000)(IHP:Cd s n)(IH:fA s n)(h:SX w N rb sb m s k)(hn:(ja s 0).length<=k+n):
 Cq 137 #[rp rb] w (ap ajU N rb sb m s (Pd (ja s 0) (dv (ja s 0) n) (bq (ja s 0) n) k) w):=by
 have W5:=h_;have Zy:=kL;have o:w.heap.size≠rb:=by have:=h.z;omega
 have⟨c0,f0,z0⟩:=h.bx;refine cI.Ae h rfl λH=>?_;go_enter func137,ntmps137;go_wp2_with fail;refine H.own.sS IHP ?_;intro a k1 t1 x1 w1 H l1;go_wp2_with fail;refine H.take ?_;intro w2 H;go_wp2_with fail;refine H.expr IH ?_;intro b k3 t3 x3 w3 H l3;go_wp2_with fail;refine H.since ?_;intro w4 H;have⟨c,f,z⟩:=H.bo o;go_wp2_with fail;have B:=(H.bo o).ajV rfl (Nv (tk (Pu.bH s 0) k).al) (.int .i64 ((aG (Pu.bH s 0) k3:Nat):Int)) (Fv t1<|Av x1) (Fv t3<|Av x3);obtain⟨cF,fF,zF⟩:=B;exact bodyPost_ret (v:=Av #[Nv (tk (Pu.bH s 0) k).al,.int .i64 ((aG (Pu.bH s 0) k3:Nat):Int),Fv t1<|Av x1,Fv t3<|Av x3]) (by simp[results,Tryz.results137,go_sem,cF]) rfl
  ((H.put o ⟨cF,fF,zF⟩<|cR<|cR<|cR<|cR ⟨rfl,rfl,rfl,rfl,λ_ _=>rfl⟩).done λ⟨⟨_,A⟩,B⟩=>⟨_,_,_,_,rfl,A,B⟩)
def ad4:(Tryz.prog.info? 255).map (λi=>(i.zero,i.size,i.bytes))=some (some<|.agg #[Iv 0,Iv 0,.nilIface,.nilIface],4,48):=qkr
def VV:Tryz.prog.underlying 231=some (.slice 255):=qkr
def kT T sS expr f l:=λk=>if aU (tk T k) UA=true then lA T sS expr f l (k+1)else .ok (l,k)
def Gw T sS expr f l k:lA T sS expr (f+1) l k=aK (Pd T sS expr) (λa=>kT T sS expr f<|l++[a.1,a.2]) k:=by
 rw[Pd];rw[mR];show aK sS _ k=_;congr 1;funext p;rw[mR];congr 1;funext _;rw[mR];rfl
def DR(hp:aS T sS)(he:aS T expr):aS T (Pd T sS expr):=fU hp λ_=>fU (rM _ _) λ_=>fU he λ_=>Jz _
def gI T sS expr f l:aS T (kT T sS expr f l):=by grind[aS,kT,eI,c_]
def SV(hp:Fm sS)(he:mY expr):mY (Pd T sS expr):=λk a k' h=>by
 rw[Pd]at h;have⟨_,k1,h1,h2⟩:=aA h;have⟨_,k2,h3,h4⟩:=aA h2;have⟨_,k3,h5,h6⟩:=aA h4
 cases h6
 have:=hp _ _ _ h1;have:=bB _ _ _ _ h3;have:=he _ _ _ h5;omega
def IX A p:aP (A++[p])=aP A++[p.1,p.2]:=by
 induction A with
 |nil=>rfl|cons q l ih=>show q.1::q.2::aP (l++[p])=q.1::q.2::(aP l++_);rw[ih]
def ad5:EQ (Nd×Nd):=λw P a c=>(∃u1 u2:Int,c 0=Iv u1/\c 1=Iv u2)/\PP w P a.1 (c 2)/\PE w P a.2 (c 3)
def mS:gy ad5:=λ_ _ _ _ _ _ h h1 h2 h3=>⟨h.1,h.2.1.move h1 h2 h3,h.2.2.move h1 h2 h3⟩
def ajW x w P l v:=∃A,A≠[]/\l=x::aP A/\RowV ad5 4 w P A v
def SW:Mov ajU:=λ_ _ _ _ _ _⟨a,b,c,d,e,f,g⟩p q r=>⟨a,b,c,d,e,f.move p q r,g.move p q r⟩
def Ly(hs:s.size<=1000)(hT:(ja s 0).length<=1001)(IHP:Cd s n)(IH:fA s n)(h:SX w N rb sb m s k)(hn:(ja s 0).length<=k+n)x:
 Cq 136 #[rp rb,oZ 137 rb] w (ap (ajW x) N rb sb m s (lA (ja s 0) (dv (ja s 0) n) (bq (ja s 0) n) (ja s 0).length [x] k) w):=by
 have hcA:∀args w,(callFunc 137 args).run Tryz.prog w=.ok (.enter 137 args) w:=λ_ _=>qkr;have hk:=h.lt;obtain⟨r,hr⟩:∃r,r=lA (Pu.bH s 0) (dv (Pu.bH s 0) n) (bq (Pu.bH s 0) n) (Pu.bH s 0).length [x] k:=⟨_,rfl⟩;rw[<-hr];obtain⟨L,hL⟩:∃L,(Pu.bH s 0).length=L+1:=⟨(Pu.bH s 0).length-1,ae⟩;refine cI.Ae h (by rw[hr,hL];exact Gw _ _ _ _ _ _) λH=>?_;have HL:=ai hL;clear hr hL;go_enter func136,ntmps136;go_wp2_with fail;refine H.call (afw hs IHP IH h hn) ?_ (st:=λa=>gI _ _ _ _ _) (mv:=SW);intro a k1 v1 w1 H q V;have l1:=SV (ph (T:=(Pu.bH s 0)) n) (kM n) _ _ _ q;obtain⟨u1,u2,vp,ve,rfl,P1,E1⟩:=V;obtain⟨tp,xp,rfl⟩:=P1.iface;obtain⟨te,xe,rfl⟩:=E1.iface;have H:=(H.af<|bw _).row mS (dq.one (sz:=4) (et:=255) (lo:=w.heap.size) (c:=λj=>([Iv u1,Iv u2,Fv tp<|Av xp,Fv te<|Av xe]:List Value).getD j Zv) mS ⟨⟨u1,u2,rfl,rfl⟩,P1,E1⟩ (br _) H.ke.size aB #[Iv u1,Iv u2,Fv tp<|Av xp,Fv te<|Av xe] rfl rfl) ⟨br _,.inl rfl⟩;clear P1 E1 q
 go_wp2
 go_loopg[5] ((ja s 0).length-k1) (λgk v wr=>Fh (·≠[]) ad5 255 4 N rb sb m s (k+1) w r (λf A _=>kT (ja s 0) (dv (ja s 0) n) (bq (ja s 0) n) f (x::aP A)) gk v wr)
 case atStart=>exact⟨k1,[a],L,_,1,0,rfl,ag,H,ai rfl,l1,bF,by have:=uh HL;omega⟩
 case round=>
  clear H HL;obtain⟨kr,A,f,va,vc,_,rfl,hA,H,dl,hle,hAl,hfu⟩:=hrel;have zw:=H.ke.size;have ZH:=H.p.block;have ZG:=H.sx.lt
  cases hb:aU (tk (ja s 0) kr) UA
  .have H:=H.re (g':=λk=>.ok (x::aP A,k)) (by dsimp only[kT];rw[hb];rfl);go_wp2_with fail;refine H.Ff hb ?_
   go_wp2
   go_ret;exact H.done λR=>⟨A,hA,rfl,R.v mS⟩
  .obtain⟨f,rfl⟩:∃f',f=f'+1:=⟨f-1,ae⟩;have H:=H.re (g':=aK qT λ_=>aK (Pd (ja s 0) (dv (ja s 0) n)<|bq (ja s 0) n) λa=>kT (ja s 0) (dv (ja s 0) n) (bq (ja s 0) n) f (x::aP A++[a.1,a.2])) (by dsimp only[kT];rw[if_pos hb,Gw];rfl);go_wp2_with fail;refine H.Ce hb ?_ (st:=λ_=>fU (DR (pW _)<|nK _) λa=>gI _ _ _ _ _);intro w2 H;go_wp2_with fail;have z2:=H.ke.size;have ZH:=H.p.block;refine H.call (afw hs IHP IH H.sx ae) ?_ (st:=λa=>gI _ _ _ _ _) (mv:=SW);intro a k2 v1 w1 H q V;have l2:=SV (ph (T:=(ja s 0)) n) (kM n) _ _ _ q;obtain⟨u1,u2,vp,ve,rfl,P1,E1⟩:=V;obtain⟨tp,xp,rfl⟩:=P1.iface;obtain⟨te,xe,rfl⟩:=E1.iface;go_wp2_with(at_builtin;go_must(refine H.append (D:=[Iv u1,Iv u2,Fv tp<|Av xp,Fv te<|Av xe]) hT mS ad4 VV H.p.1 z2 (λb e=>(ZH b e).2) (c:=λj=>([Iv u1,Iv u2,Fv tp<|Av xp,Fv te<|Av xe]:List Value).getD j Zv) ⟨⟨u1,u2,rfl,rfl⟩,P1,E1⟩ ae ?_;intro q3 c3 w3 H));go_roundg((ja s 0).length-k2)
   case measure=>rw[uh dl];omega
   case rel=>exact⟨k2,A++[a],f,_,c3,0,ag,ag,H.re (by dsimp only;rw[IX];rfl),ai rfl,ae,bF,ae⟩
def RowV.mt{lo}{w w0:World}{A}{va}{vc}(h:RowV ad5 4 w (λb=>lo<=b) A (.slice va A.length vc))(h0:A≠[])(rl:w0.heap.size<=lo){x}{vx}(hx:PE w (λb=>w0.heap.size<=b) x vx)f t a:
 PE w (λb=>w0.heap.size<=b) (.mk 13 eW 0 (x::aP A) f t a) (.iface 233<|.agg #[Nv f,Nv t,vx,.slice va A.length vc]):=by
 obtain⟨qG,qH,cs,hv,aO,hr⟩:=h
 cases hv
 obtain h1|⟨g,rfl,h2,h3,h4⟩:=aO
 .exact absurd h1 h0
 have wd:∀b,lo<=b->w0.heap.size<=b:=λb p=>j6 rl p;refine .mt _ _ x A f t a vx g vc (λi=>cs i 2) (λi=>cs i 3) h0 (wd g h2) h3 (λi hi=>?_) hx (λi hi=>(hr i hi).2.1.wide wd)<|λi hi=>(hr i hi).2.2.wide wd;have⟨u1,u2,e1,e2⟩:=(hr i hi).1;exact⟨⟨u1,u2,by rw[<-e1];exact h4 i hi 0 aB,by rw[<-e2];exact h4 i hi 1 aB⟩,h4 i hi 2 aB,h4 i hi 3 aB⟩
def Oj{n}(hT:0<T.length)x:aS T (lA T (dv T n) (bq T n) T.length [x]):=by
 obtain⟨L,hL⟩:∃L,T.length=L+1:=⟨T.length-1,ae⟩;rw[hL];intro k h;rw[Gw];exact b8 (DR (pW _) (nK _) k h) λ_=>gI _ _ _ _ _
def ad6(hs:s.size<=1000)(hT:(ja s 0).length<=1001)(IHP:Cd s n)(IH:fA s n)(h:SX w N rb sb m s k)(hn:(ja s 0).length<=k+1+n):
 Cq 82 #[rp rb] w (ap PE N rb sb m s (oI (ja s 0) (dv (ja s 0) n) (bq (ja s 0) n) k) w):=by
 have W5:=h_;have Zy:=kL;have hT0:0<(ja s 0).length:=by have:=h.lt;omega
 refine cI.Ae h rfl λH=>?_;go_enter func82,ntmps82;go_wp2_with fail;refine H.take ?_;intro w1 H;go_wp2_with fail;refine H.expr IH ?_;intro x k2 t2 x2 w2 H l2;go_wp2_with fail;refine H.take ?_;intro w3 H;go_wp2_with fail;refine H.call (Ly hs hT IHP IH H.sx ae x) ?_ (mv:=λ_ _ _ _ _ _⟨A,a,b,c⟩p q r=>⟨A,a,b,c.move mS p q r⟩);intro l k4 v4 w4 H q V;obtain⟨va,L,vc,rfl⟩:∃va L vc,v4=Lv va L vc:=by obtain⟨_,-,-,_,_,_,rfl,-⟩:=V;exact⟨_,_,_,rfl⟩
 clear q V;go_wp2_with fail;refine H.take ?_;intro w5 H;go_wp2_with fail;refine H.since ?_;intro w6 H
 go_wp2
 go_ret;refine H.done ?_;rintro⟨⟨_,V⟩,A,a,rfl,_,_,cs,e,R⟩
 cases e
 exact RowV.mt ⟨_,_,cs,rfl,R⟩ a (br _) V _ _ _
def tY{F}{r}(h:SX w N rb sb m s k)(hg:a_ (aq<|tk (ja s 0) k) (QU rb)=some (oZ F rb)\/a_ (aq<|tk (ja s 0) k) (QU rb)=none/\F=159)(ZE:∀args w,(callFunc F args).run xc w=.ok (.enter F args) w)(HC:∀W,SX W N rb sb m s k->Cq F #[rp rb] W (ap PE N rb sb m s r W)):Cq 135 #[rp rb] w (ap PE N rb sb m s r w):=by
 have⟨b,wH,_,_,hM⟩:=h.ev.mp.wd;have hl:=λq=>eJ (hM.same (w':=w.drewN q) rfl) Tryz.underlying145 (tG _)<|aq<|tk (ja s 0) k;have Cu:=eJ hM Tryz.underlying145 (tG _)<|aq<|tk (ja s 0) k;have⟨c,ff,z⟩:=h.bx;obtain hg|⟨hg,rfl⟩:=hg
 all_goals(
  simp only[hg,lC]at hl Cu;clear hg;go_enter func135,ntmps135
  go_wp2
  go_quiet(fail);go_wp2_with fail;refine(HC _<|h.af<|below_drewN _ nq).mono ?_;intro e w1 hp
  cases hA:fin (ja s 0) r with
  |error f'=>
   obtain⟨rfl,QZ⟩:=hp.bad hA;exact⟨rfl,ap.fail ((Ke.of<|below_drewN _ nq).trans QZ) hA⟩
  |ok p=>
  obtain⟨a,k2⟩:=p;obtain⟨v,rfl,QZ,HS,HR⟩:=hp.ok hA;obtain⟨tv,xv,rfl⟩:=HR.iface;have HE:=ai (uL hA).1;have HK:=(Ke.of<|below_drewN w nq).trans QZ;clear hp hA QZ
  go_wp2
  go_ret
  exact ap.done HE HK HS HR)
def VW(hs:s.size<=1000)(hT:(ja s 0).length<=1001)(IH:fA s n):fA s (n+1):=by
 intro w N rb sb m k h hn;show Calls _ _ _ _<|ap PE N rb sb m s (if aU (tk (ja s 0) k) IQ=true then rF (ja s 0) (bq (ja s 0) n) k else if aU (tk (ja s 0) k) kIf=true then lz (ja s 0) (bq (ja s 0) n) k else if aU (tk (ja s 0) k) rD=true then oI (ja s 0) (dv (ja s 0) n) (bq (ja s 0) n) k else if aU (tk (ja s 0) k) sR=true then oe (ja s 0) (bq (ja s 0) n) k else(oH (ja s 0)<|rE (ja s 0)<|eE (ja s 0)<|cO (ja s 0)<|yF s n) k) w
 cases n0:aU (tk (ja s 0) k) IQ
 .cases n1:aU (tk (ja s 0) k) kIf
  .cases n2:aU (tk (ja s 0) k) rD
   .cases n3:aU (tk (ja s 0) k) sR
    .exact tY h (.inr ⟨tX (eX s k h.lt) h.ok (by simp[n0,n1,n2,n3];decide),rfl⟩) (λ_ _=>qkr) λW S=>Gv hs hT IH S ae
    .exact tY h (.inl (by rw[gC n3];rfl)) (λ_ _=>qkr) λW S=>ad3 hs IH S ae
   .exact tY h (.inl (by rw[gC n2];rfl)) (λ_ _=>qkr) λW S=>ad6 hs hT (DP hs hT n) IH S ae
  .exact tY h (.inl (by rw[gC n1];rfl)) (λ_ _=>qkr) λW S=>abc hs IH S ae
 .exact tY h (.inl (by rw[gC n0];rfl)) (λ_ _=>qkr) λW S=>rY hs IH S ae
def abp(hs:s.size<=1000)(hT:(ja s 0).length<=1001):∀n,fA s n
 |0=>λw N rb sb m k h hn=>by have:=h.lt;omega|n+1=>VW hs hT<|abp hs hT n
def mT T mk f l k:dZ T mk (f+1) l k=aK mk (λx=>lW T mk (dZ T mk f)<|l++[x]) k:=rfl
def jN T mk go l:aS T (lW T mk go l):=by grind[aS,lW,eI,c_]
def wX T sm:aS T (dr T sm):=by grind[aS,dr,fU,rO,jK]
theorem vC(hm:∀k a k',sm k=.ok (a,k')->k<k'):mY (dr T sm):=λk a k' h=>by
 rw[dr]at h;have⟨_,k1,h1,h2⟩:=aA h;have:=eR _ _ _ _ h1;have:=QI hm 1 _ _ _ _ _ h2;omega
def QMaker:EQ Nd:=λw P nd c=>∃(s:BA)(n:Nat)(L:List Nd)(f t a y:Nat)(v:Value),nd=.mk 2 s n L f t a/\c 0=Nv f/\c 1=Nv t/\c 2=Nv a/\c 3=Nv y/\c 4=.string s/\c 5=v/\od s/\y=a+s.size/\RowV (Q1 PT) 1 w P L v
def bZ:gy QMaker:=λ_ _ _ _ _ _ h h1 h2 h3=>by
 obtain⟨s,n,L,f,t,a,y,v,e0,e1,e2,e3,e4,e5,e6,e7,e8,e9⟩:=h;exact⟨s,n,L,f,t,a,y,v,e0,e1,e2,e3,e4,e5,e6,e7,e8,e9.move ZC h1 h2 h3⟩
def GG w P nd(v:Value):=∃c:Nat->Value,v=.agg #[c 0,c 1,c 2,c 3,c 4,c 5]/\QMaker w P nd c
def LF{k k'}(h:cY (ja s 0) 2 k=.ok (t,k'))(hk:k<(ja s 0).length):od t.text/\t.to=t.al+t.text.size:=by
 rw[cY]at h;split at h
 .rename_i hq
  cases h
  exact⟨(eX s k hk).v2<|by simpa using hq,(o7 s k hk).sp⟩
 .cases h
def Bx.aj8{w}(h:Bx w b C)(hC:C.size=6)v0 v1 v2 v3 v4 v5:Bx ((((((w.setCell ⟨b,0,none⟩ v0).setCell ⟨b,1,none⟩ v1).setCell ⟨b,2,none⟩ v2).setCell ⟨b,3,none⟩ v3).setCell ⟨b,4,none⟩ v4).setCell ⟨b,5,none⟩ v5) b #[v0,v1,v2,v3,v4,v5]:=by
 obtain⟨a0,a1,a2,a3,a4,a5,rfl⟩:∃a0 a1 a2 a3 a4 a5,C=#[a0,a1,a2,a3,a4,a5]:=by
  obtain⟨l⟩:=C
  match l,hC with
  |[a,b,c,d,e,f],_=>grind
 exact(((((h.aR 0 v0 #[v0,a1,a2,a3,a4,a5] rfl ag).aR 1 v1 #[v0,v1,a2,a3,a4,a5] rfl ag).aR 2 v2 #[v0,v1,v2,a3,a4,a5] rfl ag).aR 3 v3 #[v0,v1,v2,v3,a4,a5] rfl ag).aR 4 v4 #[v0,v1,v2,v3,v4,a5] rfl ag).aR 5 v5 #[v0,v1,v2,v3,v4,v5] rfl ag
def RowV.uJ{Q}{sz}{L:List α}(h:RowV Q sz w P L v)(hQ:gy Q)(hb:∀c,P c->c≠b)(j:Nat)(u:Value):RowV Q sz (w.setCell ⟨b,j,none⟩ u) P L v:=h.move hQ Dd (λc p _=>qx _ _ _ _<|hb c p)<|λ_ p _=>p
def Tl(hs:s.size<=1000)(hT:(ja s 0).length<=1001)(h:SX w N rb sb m s k)(hn:(ja s 0).length<=k+1+n):Cq 132 #[rp rb] w (ap GG N rb sb m s (dr (ja s 0) (Dj s n) k) w):=by
 have o:w.heap.size≠rb:=by have:=h.z;omega
 have alW:=h.lt;refine cI.Ae h rfl λH=>?_;go_enter func132,ntmps132;go_wp2_with fail;refine H.own.call (uM H.own.sx hs 2 Jq<|Or.inr ⟨rfl,rfl⟩) ?_ (st:=λ_ k h=>jK _ _ _ _ k h);intro t k1 v w1 H q V
 cases V
 have Ht:=ai<|LF q alW
 cases eR _ _ _ _ q
 clear q;have H:=H.box (D:=#[Nv t.al,Nv t.to,Sv t.text]) (t:=74);have⟨c1,f1,y1⟩:=H.sx.bx;go_wp2_with fail;clear c1 f1 y1;refine(H.re<|Fi (dM (ja s 0) (Dj s n) 1 (ja s 0).length<|.mk 2 t.text 0 [] t.al (aG (ja s 0)<|k+1) t.al)<|k+1).call (ZF (R:=PT) hT (.inl ⟨rfl,rfl,rfl⟩) PT.iface (λ_ _ _ _ _ _ h a b c=>h.move a b c) (cH (df (T:=(ja s 0)) n) (df n) 1) (λw k' S l=>aje hs (ZM hs hT n) S ae) H.sx t.text t.al (aG (ja s 0)<|k+1) t.al) ?_ (mv:=JP λ_ _ _ _ _ _ h a b c=>h.move a b c);intro a k2 v w3 H q V;have⟨L',hL'⟩:=rU _ _ _ _ _ q;subst hL';obtain⟨va,L,vc,rfl⟩:=V.sl;clear V q;have⟨⟨_,d3,g3,x3⟩,_⟩:=H.p;have⟨c3,f3,y3⟩:=H.bo o
 go_wp2
 go_region_with(go_at_call 133;refine H.drew.since ?_;intro w4 H;have⟨⟨_,d4,g4,x4⟩,_⟩:=H.p;have⟨c4,f4,y4⟩:=H.bo o)
 all_goals(
  go_wp2_with fail;have⟨cF,fF,zF⟩:=(H.bo o).aj8 rfl (Nv t.al) (.int .i64 ((aG (ja s 0) k2:Nat):Int)) (Nv t.al) (Nv t.to) (Sv t.text) (Lv va L vc);refine bodyPost_ret (v:=Av #[Nv t.al,.int .i64 ((aG (ja s 0) k2:Nat):Int),Nv t.al,Nv t.to,Sv t.text,Lv va L vc]) (by simp[results,Tryz.results132,go_sem,cF]) rfl ((H.put o ⟨cF,fF,zF⟩<|cR<|cR<|cR<|cR<|cR<|cR ⟨rfl,rfl,rfl,rfl,λ_ _=>rfl⟩).done ?_);rintro⟨_,L1,fr,tz,at_,e,R⟩;injection e with _ _ _ e3 e4 e5 e6;subst e3 e4 e5 e6
  exact⟨λj=>([Nv t.al,.int .i64 ((aG (ja s 0) k2:Nat):Int),Nv t.al,Nv t.to,Sv t.text,Lv va L vc]:List Value).getD j Zv,rfl,_,_,_,_,_,_,_,_,rfl,rfl,rfl,rfl,rfl,rfl,rfl,Ht.1,Ht.2,R⟩)
def V9:(Tryz.prog.info? 181).map (λi=>(i.zero,i.size,i.bytes))=some (some<|.agg #[Iv 0,Iv 0,Iv 0,Iv 0,.string ⟨#[]⟩,.slice none 0 0],6,72):=qkr
def LG:Tryz.prog.underlying 76=some (.slice 181):=qkr
def GG.open(h:GG w P nd v):∃(s:BA)(n:Nat)(L:List Nd)(f t a y:Nat)(va:Option Addr)(vc:Nat),nd=.mk 2 s n L f t a/\v=.agg #[Nv f,Nv t,Nv a,Nv y,.string s,.slice va L.length vc]/\od s/\y=a+s.size/\RowV (Q1 PT) 1 w P L (.slice va L.length vc):=by
 obtain⟨c,rfl,s,n,L,f,t,a,y,v,e0,e1,e2,e3,e4,e5,e6,e7,e8,e9⟩:=h;have e9':=e9;obtain⟨va,vc,cs,rfl,_,_⟩:=e9;exact⟨s,n,L,f,t,a,y,va,vc,e0,by rw[e1,e2,e3,e4,e5,e6],e7,e8,e9'⟩
def DU:Mov GG:=λ_ _ _ _ _ _⟨c,h1,h2⟩p q r=>⟨c,h1,bZ _ _ _ _ _ _ h2 p q r⟩
def aef w P l v:=l≠[]/\RowV QMaker 6 w P l v
def Cm(hs:s.size<=1000)(hT:(ja s 0).length<=1001)(h:SX w N rb sb m s k)(hn:(ja s 0).length<=k+1+n):
 Cq 131 #[rp rb,oZ 132 rb] w (ap aef N rb sb m s (dZ (ja s 0) (dr (ja s 0)<|Dj s n) (ja s 0).length [] k) w):=by
 have hcA:∀args w,(callFunc 132 args).run Tryz.prog w=.ok (.enter 132 args) w:=λ_ _=>qkr;have hk:=h.lt;obtain⟨r,hr⟩:∃r,r=dZ (Pu.bH s 0) (dr (Pu.bH s 0)<|Dj s n) (Pu.bH s 0).length [] k:=⟨_,rfl⟩;rw[<-hr];obtain⟨L,hL⟩:∃L,(Pu.bH s 0).length=L+1:=⟨(Pu.bH s 0).length-1,ae⟩;refine cI.Ae h (by rw[hr,hL];exact mT _ _ _ _ _) λH=>?_;have HL:=ai hL;clear hr hL;go_enter func131,ntmps131;go_wp2_with fail;refine H.call (Tl (n:=n) hs hT h hn) ?_ (st:=λa=>jN _ _ _ _) (mv:=DU);intro a k1 v1 w1 H q V;have l1:=vC (T:=(Pu.bH s 0)) (cH (df n) (df n) 1) _ _ _ q;obtain⟨s',n',L',f',t',a',y',qG,qH,rfl,rfl,hu,hy,hV⟩:=V.open;have H:=(H.af<|bw _).row bZ (dq.one (sz:=6) (et:=181) (lo:=w.heap.size) (c:=λj=>([Nv f',Nv t',Nv a',Nv y',Sv s',Lv qG L'.length qH]:List Value).getD j Zv) bZ ⟨s',n',L',f',t',a',y',_,rfl,rfl,rfl,rfl,rfl,rfl,rfl,hu,hy,hV⟩ (br _) H.ke.size aB #[Nv f',Nv t',Nv a',Nv y',Sv s',Lv qG L'.length qH] rfl rfl) ⟨br _,.inl rfl⟩;clear hu hy hV V q
 go_wp2
 go_loopg[5] ((ja s 0).length-k1) (λgk v wr=>Fh (·≠[]) QMaker 181 6 N rb sb m s (k+1) w r (λf A _=>lW (ja s 0) (dr (ja s 0)<|Dj s n) (dZ (ja s 0) (dr (ja s 0)<|Dj s n) f) A) gk v wr)
 case atStart=>exact⟨k1,[Nd.mk 2 s' n' L' f' t' a'],L,_,1,0,rfl,ag,H,ai rfl,l1,bF,by have:=uh HL;omega⟩
 case round=>
  clear H HL;obtain⟨kr,A,f,va,vc,_,rfl,hA,H,dl,hle,hAl,hfu⟩:=hrel;have zw:=H.ke.size;have ZH:=H.p.block;have ZG:=H.sx.lt
  cases hb:aU (tk (ja s 0) kr) UA
  .have H:=H.re (g':=λk=>.ok (A,k)) (by dsimp only[lW];rw[hb];rfl);go_wp2_with fail;refine H.Ff hb ?_
   go_wp2
   go_ret;exact H.done λR=>⟨hA,R.v bZ⟩
  .obtain⟨f,rfl⟩:∃f',f=f'+1:=⟨f-1,ae⟩;have H:=H.re (g':=aK qT λ_=>aK (dr (ja s 0)<|Dj s n) λa=>lW (ja s 0) (dr (ja s 0)<|Dj s n) (dZ (ja s 0) (dr (ja s 0)<|Dj s n) f)<|A++[a]) (by dsimp only[lW];rw[if_pos hb,mT];rfl);go_wp2_with fail;refine H.Ce hb ?_ (st:=λ_=>fU (wX _ _) λa=>jN _ _ _ _);intro w2 H;go_wp2_with fail;have z2:=H.ke.size;have ZH:=H.p.block;refine H.call (Tl (n:=n) hs hT H.sx ae) ?_ (st:=λa=>jN _ _ _ _) (mv:=DU);intro a k2 v1 w1 H q V;have l2:=vC (T:=(ja s 0)) (cH (df n) (df n) 1) _ _ _ q;obtain⟨s',n',L',f',t',a',y',qG,qH,rfl,rfl,hu,hy,hV⟩:=V.open
   replace hy:=ai hy
   go_wp2_with(at_builtin;go_must(refine H.append (a:=.mk 2 s' n' L' f' t' a') (D:=[Nv f',Nv t',Nv a',Nv y',Sv s',Lv qG L'.length qH]) hT bZ V9 LG H.p.1 z2 (λb e=>(ZH b e).2) (c:=λj=>([Nv f',Nv t',Nv a',Nv y',Sv s',Lv qG L'.length qH]:List Value).getD j Zv) ⟨s',n',L',f',t',a',y',_,rfl,rfl,rfl,rfl,rfl,rfl,rfl,hu,hy,hV⟩ ae ?_;intro q3 c3 w3 H));go_roundg((ja s 0).length-k2)
   case measure=>rw[uh dl];omega
   case rel=>exact⟨k2,A++[Nd.mk 2 s' n' L' f' t' a'],f,_,c3,0,ag,ag,H,ai rfl,ae,bF,ae⟩
def Ol(T:List jc):∀f l,aS T<|mN T f l
 |0,l=>λk h=>c_ _ h|f+1,l=>λk h=>by unfold mN;rw[if_neg ae];exact c_ _ h
def Bb(T:List jc):∀f l k a k',mN T f l k=.ok (a,k')->k<=k'
 |0,l,k,a,k',h=>by cases h;omega|f+1,l,k,a,k',h=>by
  unfold mN at h;split at h
  .have:=Bb T f _ _ _ _ h;omega
  .cases h;omega
def Fe(hT:0<T.length):aS T (dZ T (dr T sm) T.length []):=by
 obtain⟨L,hL⟩:∃L,T.length=L+1:=⟨T.length-1,ae⟩;rw[hL];intro k h;rw[mT];exact b8 (wX _ _ k h) λ_=>jN _ _ _ _
def wY{T:List jc}{mk:M Nd}(hm:mY mk):∀f l k a k',dZ T mk f l k=.ok (a,k')->k<=k'
 |0,l,k,a,k',h=>by cases h;omega|f+1,l,k,a,k',h=>by
  rw[mT]at h;have⟨_,k1,h1,h2⟩:=aA h;have:=hm _ _ _ h1;rw[lW]at h2;split at h2
  .have:=wY hm f _ _ _ _ h2;omega
  .cases h2;omega
def QName:EQ jc:=λ_ _ t c=>c 0=Nv t.al/\c 1=Nv t.to/\c 2=.string (t.text.extract 1 t.text.size)/\(∃r,t.text.toList=39::r)/\t.to=t.al+t.text.size
def dn:gy QName:=by grind[gy,QName]
def abS:(Tryz.prog.info? 74).map (λi=>(i.zero,i.size,i.bytes))=some (some<|.agg #[Iv 0,Iv 0,.string ⟨#[]⟩],3,32):=qkr
def Pr:Tryz.prog.underlying 75=some (.slice 74):=qkr
def PD(w:World)(P:Nat->Prop):Dc->Value->Prop
 |.ty t vs ms,v=>∃(f u:Int)(vv vm:Value),v=.iface 78 (.agg #[Iv f,Iv u,Nv t.al,Nv t.to,.string t.text,vv,vm])/\od t.text/\t.to=t.al+t.text.size/\RowV QName 3 w P vs vv/\ms≠[]/\RowV QMaker 6 w P ms vm|.lt r t b,v=>∃(f u:Int)(vb:Value),v=.iface 85 (.agg #[Iv f,Iv u,.bool r,Nv t.al,Nv t.to,.string t.text,vb])/\Cc t.text/\t.to=t.al+t.text.size/\PE w P b vb
theorem PD.move{w w'}{P Q}{d}{v}(h:PD w P d v)(hs:w.heap.size<=w'.heap.size)(hb:∀b,P b->b<w.heap.size->w'.heap[b]? =w.heap[b]?)(hq:∀b,P b->b<w.heap.size->Q b):PD w' Q d v:=by
 cases d with
 |ty t vs ms=>
  obtain⟨f,u,vv,vm,h1,h2,h3,h4,h5,h6⟩:=h;exact⟨f,u,vv,vm,h1,h2,h3,h4.move dn hs hb hq,h5,h6.move bZ hs hb hq⟩
 |lt r t b=>
  obtain⟨f,u,vb,h1,h2,h3,h4⟩:=h;exact⟨f,u,vb,h1,h2,h3,h4.move hs hb hq⟩
def PD.iface{d}(h:PD w P d v):∃t x,v=.iface t (.agg x):=by
 cases d with
 |ty t vs ms=>obtain⟨f,u,vv,vm,h1,_⟩:=h;exact⟨_,_,h1⟩
 |lt r t b=>obtain⟨f,u,vb,h1,_⟩:=h;exact⟨_,_,h1⟩
def aeo N rb sb m s k2 nb NC w r(G:List jc->M Dc)(gk:Nat)(v:Value)(wr:World):=
 ∃(kr:Nat)(V:List jc)(f:Nat)(va:Option Addr)(vc:Nat),v=.slice va V.length vc/\cI N rb sb m s r w nb NC (aK (mN (ja s 0) f V) G) (λw'=>dq QName 74 3 w' (nb+1) va vc V) kr wr/\Hid (gk=(ja s 0).length-kr)/\k2<=kr/\V.length<=kr/\(ja s 0).length<=kr+f
def abT(h:gA t)(hk:t.kind≠6):((aq t).toList==[97,32,118,97,114,105,97,98,108,101])=(t.kind==3):=by
 obtain h'|h'|h'|h'|h'|h'|h':=h.kd
 .rw[jH h'];simp[h',qw]
 .rw[im h'];simp[h',qw]
 .rw[iq h'];simp[h',qw]
 .rw[jI h'];simp[h',qw]
 .have:=mH h hk (kd:=uI) aB h';rw[show uI.toList=[97,32,118,97,114,105,97,98,108,101]from toList_mk _]at this;rw[this];simp[h']
 .exact absurd h' hk
 .rw[jJ h'];simp[h',qw]
def Bc(h:SX w N rb sb m s k)(hs:s.size<=1000)(h3:(tk (ja s 0) k).kind=3):Cq 130 #[rp rb] w (ap (Is<|.agg #[Nv (tk (ja s 0) k).al,Nv (tk (ja s 0) k).to,.string<|(tk (ja s 0) k).text.extract 1 (tk (ja s 0) k).text.size]) N rb sb m s (.ok ((),k+1)) w):=
 (kK h.rd hs (tn s k h.lt) h3<|eX s k h.lt).mono λ_ _ q=>q.x h ae rfl
def Wi(hs:s.size<=1000)(IH:fA s n)(h:SX w N rb sb m s k)(hn:(ja s 0).length<=k+1+n):
 Cq 78 #[rp rb] w (ap PD N rb sb m s (AH (ja s 0) (bq (ja s 0) n) k) w):=by
 have W5:=h_;have Zy:=kL;refine cI.Ae h rfl λH=>?_;go_enter func78,ntmps78;go_wp2_with fail;refine(H.re<|congrFun (mR _ _ _) _).take ?_;intro w1 H;go_wp2_with fail;refine H.call (DQ hs IH H.sx ae) ?_;intro b k2 v2 w2 H q V;obtain⟨ve,rfl,V,-⟩:=V;obtain⟨te,xe,rfl⟩:=V.iface;clear V;go_wp2_with fail;refine H.box.take ?_;intro w3 H;have⟨_,c1,f1,z1⟩:=H.p
 go_wp2
 go_region_with(go_at_call 133;refine H.drew.since ?_;intro w5 H;have⟨_,c1,f1,z1⟩:=H.p)
 all_goals(
  go_wp2
  go_ret;refine H.done ?_;rintro⟨⟨_,ve,e,A,_,C,D⟩,_⟩
  cases e
  exact⟨_,_,_,rfl,C,D,A⟩)
def Ps(hs:s.size<=1000)(hT:(ja s 0).length<=1001)(h:SX w N rb sb m s k)(hn:(ja s 0).length<=k+1+n):
 Cq 77 #[rp rb] w (ap PD N rb sb m s (DI (ja s 0) (dr (ja s 0)<|Dj s n) k) w):=by
 have W5:=h_;have Zy:=kL;have hT0:0<(ja s 0).length:=by have:=h.lt;omega
 have hz:=h.z;obtain⟨r,hr⟩:∃r,r=DI (Pu.bH s 0) (dr (Pu.bH s 0)<|Dj s n) k:=⟨_,rfl⟩;rw[<-hr];refine cI.Ae h hr λH=>?_;clear hr;go_enter func77,ntmps77;go_wp2_with fail;refine H.take ?_;intro w1 H;go_wp2_with fail;have lt1:=H.sx.lt;refine H.call (uM H.sx hs 2 Jq<|Or.inr ⟨rfl,rfl⟩) ?_;intro t k2 v w2 H q V
 cases V
 have Ht:=ai<|LF q lt1;have ek:=eR _ _ _ _ q;have z2:=H.ke.size;clear q;go_wp2_with fail;have H:=H.own (D:=#[Nv t.al,Nv t.to,Sv t.text]) (t:=74);have UD:=H.sx.lt;go_loopg[5] ((ja s 0).length-k2) (λgk v wr=>aeo N rb sb m s k2 w2.heap.size #[Nv t.al,Nv t.to,Sv t.text] w r (λvs=>aK (bz (ja s 0) QE) λ_=>aK (dZ (ja s 0) (dr (ja s 0)<|Dj s n) (ja s 0).length []) λms=>aK (bz (ja s 0) Aj) λ_ k=>.ok (Dc.ty t vs ms,k)) gk v wr)
 case atStart=>exact⟨k2,[],(ja s 0).length,none,0,rfl,H.row dn (dq.nil _ _ _ _ _) ⟨ae,.inr ae⟩,ai rfl,br _,ag,ae⟩
 case round=>
  clear H;obtain⟨kr,V,f,va,vc,rfl,H,dl,hle,hVl,hfu⟩:=hrel;have ZG:=H.sx.lt;have ho:=eX s kr ZG;have hkv:=abT ho H.sx.ok;have⟨c,ff,z⟩:=H.sx.bx;by_cases h3:(tk (ja s 0) kr).kind=3
  .rw[h3]at hkv;obtain⟨f,rfl⟩:∃f',f=f'+1:=⟨f-1,ae⟩;have H:=H.re (g':=aK qT λ_=>aK (mN (ja s 0) f<|V++[(tk (ja s 0) kr)])<|λvs=>aK (bz (ja s 0) QE) λ_=>aK (dZ (ja s 0) (dr (ja s 0)<|Dj s n) (ja s 0).length []) λms=>aK (bz (ja s 0) Aj) λ_ k=>.ok (Dc.ty t vs ms,k)) (by rw[aK];rw[show mN (ja s 0) (f+1) V kr=mN (ja s 0) f (V++[(tk (ja s 0) kr)]) (kr+1)from if_pos h3];rfl);have zr:=H.xz;have ZH:=H.p.block;have Hin:=ai<|And.intro (ho.v3 h3) (o7 s kr ZG).sp;go_wp2_with fail;refine H.call (Bc H.sx hs h3) ?_;intro _ _ _ w1' H q V'
   cases V'
   cases q
   clear c ff z hkv;go_wp2_with(at_builtin;go_must(refine H.append (D:=[Nv (tk (ja s 0) kr).al,Nv (tk (ja s 0) kr).to,Sv<|(tk (ja s 0) kr).text.extract 1 (tk (ja s 0) kr).text.size]) hT dn abS Pr H.p.1 (wr:=wr) zr (λb e=>(ZH b e).2) (a:=(tk (ja s 0) kr)) (c:=λj=>([Nv (tk (ja s 0) kr).al,Nv (tk (ja s 0) kr).to,Sv<|(tk (ja s 0) kr).text.extract 1 (tk (ja s 0) kr).text.size]:List Value).getD j Zv) ⟨rfl,rfl,rfl,Hin.1,Hin.2⟩ ae ?_ ⟨ae,.inr ae,H.xz⟩;intro q3 c3 w3 H));go_roundg((ja s 0).length-(kr+1))
   case measure=>rw[uh dl];omega
   case rel=>exact⟨kr+1,V++[(tk (ja s 0) kr)],f,_,c3,ag,H,ai rfl,ae,bF,ae⟩
  .rw[show((tk (ja s 0) kr).kind==3)=false by simp[h3]]at hkv;have H:=H.re (g':=(λvs=>aK (bz (ja s 0) QE) λ_=>aK (dZ (ja s 0) (dr (ja s 0)<|Dj s n) (ja s 0).length []) λms=>aK (bz (ja s 0) Aj) λ_ k=>.ok (Dc.ty t vs ms,k)) V) (by rw[aK];rw[show mN (ja s 0) f V kr=.ok (V,kr) by cases f with|zero=>rfl|succ f=>exact if_neg h3]);have H:=(H.add (Q:=λw'=>RowV QName 3 w' (λb=>w.heap.size<=b) V<|Lv va V.length vc) λw' a b=>(H.p.v dn).move dn a (λc p z=>b c z (by have p':w2.heap.size+1<=c:=p;omega) (by have p':w2.heap.size+1<=c:=p;omega)) λc p _=>by have p':w2.heap.size+1<=c:=p;show w.heap.size<=c;omega).imp λ_ h=>h.2;go_wp2_with fail;clear c ff z;refine H.take ?_;intro w3 H;go_wp2_with fail;refine H.call (Cm (n:=n) hs hT H.sx ae) ?_ (mv:=λ_ _ _ _ _ _ h a b c=>⟨h.1,h.2.move bZ a b c⟩);intro ms k4 v4 w4 H q Y;obtain⟨va4,L4,vc4,rfl⟩:∃va L vc,v4=Lv va L vc:=by obtain⟨_,_,_,_,rfl,-⟩:=Y;exact⟨_,_,_,rfl⟩
   clear q Y;go_wp2_with fail;refine H.take ?_;intro w5 H;have⟨c1,f1,y1⟩:=H.bo ae
   go_wp2
   go_region_with(go_at_call 133;refine H.drew.since ?_;intro w6 H;have⟨c6,f6,y6⟩:=H.bo ae)
   all_goals(
    go_wp2
    go_ret;refine H.done ?_;rintro⟨X,Y⟩
    exact⟨_,_,_,_,rfl,Ht.1,Ht.2,X,Y⟩)
def uf{l:List Dc}(h:aU (tk T k) nY=true\/aU (tk T k) sR=true):cT T d (f+1) l k=aK d (λx=>cT T d f<|l++[x]) k:=by grind[aU,tk,cT,aK]
def D6{l:List Dc}(h:aU (tk T k) nY=false)(h':aU (tk T k) sR=false):cT T d f l k=.ok (l,k):=by
 cases f with
 |zero=>rfl|succ f=>unfold cT;rw[h,h'];rfl
def w_(T:List jc)(d:M Dc):∀f l,aS T<|cT T d f l
 |0,l=>λk h=>c_ _ h|f+1,l=>λk h=>by unfold cT;rw[eI h,eI h,if_neg ag];exact c_ _ h
theorem abZ{mk}(hm:mY mk):mY (DI T mk):=λk a k' h=>by
 rw[DI]at h;have⟨_,k1,h1,h2⟩:=aA h;have⟨_,k2,h3,h4⟩:=aA h2;have⟨_,k3,h5,h6⟩:=aA h4;have⟨_,k4,h7,h8⟩:=aA h6;have⟨_,k5,h9,h10⟩:=aA h8;have⟨_,k6,h11,h12⟩:=aA h10
 cases h12
 have:=bB _ _ _ _ h1;have:=eR _ _ _ _ h3;have:=Bb _ _ _ _ _ _ h5;have:=bB _ _ _ _ h7;have:=wY hm _ _ _ _ _ h9;have:=bB _ _ _ _ h11;omega
theorem ab0(hm:mY e):mY (AH T e):=λk a k' h=>by
 rw[AH]at h;have⟨_,k1,h1,h2⟩:=aA h;have⟨_,k2,h3,h4⟩:=aA h2
 cases h4
 have:=DJ hm _ _ _ h1;have:=bB _ _ _ _ h3;omega
def ab1 T n:mY (dD T n):=by grind[mY,dD,abZ,vC,cH,df,ab0,kM]
def QD:EQ Dc:=λw P d c=>PD w P d<|c 0
def bR:gy QD:=by grind[gy,QD,PD.move]
def ab2:(Tryz.prog.info? 70).map (λi=>(i.zero,i.size,i.bytes))=some (some .nilIface,1,16):=qkr
def Pz:Tryz.prog.underlying 44=some (.slice 70):=qkr
def aeB w:(zeroValue 177).run xc w=.ok .nilFunc w:=qkr
def ah6 w P l v:=RowV QD 1 w P l v
def SX.decl(h:SX w N rb sb m s k)(hb:m.a=Mv b):MS Value.string w b (Jx rb):=by
 have⟨b',e,_,_,hM⟩:=h.ev.mp.d;rw[hb]at e
 cases e
 exact hM
def SX.ma(h:SX w N rb sb m s k):∃b,m.a=Mv b:=by
 have⟨b',e,_,_,hM⟩:=h.ev.mp.d;exact⟨b',e⟩
def PA(hs:s.size<=1000)(hT:(ja s 0).length<=1001)(h:SX w N rb sb m s k)(hn:(ja s 0).length<=k+1+n)(hmd:m.a=Mv b):
 Cq 43 #[rp rb,Mv b] w (ap ah6 N rb sb m s (cT (ja s 0) (dD (ja s 0) n) (ja s 0).length [] k) w):=by
 obtain⟨r,hr⟩:∃r,r=cT (Pu.bH s 0) (dD (Pu.bH s 0) n) (Pu.bH s 0).length [] k:=⟨_,rfl⟩;rw[<-hr];have H:=cI.at h hr;clear h hr;go_enter func43,ntmps43
 go_wp2
 go_loopg[5] ((ja s 0).length-k) (λgk v wr=>Fh (λ_=>True) QD 70 1 N rb sb m s k w r (λf L _=>cT (ja s 0) (dD (ja s 0) n) f L) gk v wr)
 case atStart=>exact⟨k,[],(ja s 0).length,none,0,0,rfl,trivial,H.row bR (dq.nil _ _ _ _ _) ⟨br _,.inl rfl⟩,ai rfl,br _,ag,ae⟩
 case round=>
  clear H;obtain⟨kr,L,f,va,vc,_,rfl,-,H,dl,hle,hLl,hfu⟩:=hrel;have hM:=H.sx.decl hmd;have hl:=eJ hM Tryz.underlying144 (aeB wr)<|aq<|tk (ja s 0) kr;have ZG:=H.sx.lt;have zw:=H.ke.size;have ZH:=H.p.block;have⟨c,ff,z⟩:=H.sx.bx;have Y:(aU (tk (ja s 0) kr) nY=false/\aU (tk (ja s 0) kr) sR=false)\/∃F,(∀args w,(callFunc F args).run xc w=.ok (.enter F args) w)/\a_ (aq<|tk (ja s 0) kr) (Jx rb)=some (oZ F rb)/\Cq F #[rp rb] wr (ap PD N rb sb m s ((dD (ja s 0) n) kr) wr)/\(aU (tk (ja s 0) kr) nY=true\/aU (tk (ja s 0) kr) sR=true):=by
   cases n0:aU (tk (ja s 0) kr) nY
   .cases n1:aU (tk (ja s 0) kr) sR
    .exact .inl ⟨rfl,rfl⟩
    .exact .inr ⟨78,λ_ _=>qkr,by rw[gC n1];rfl,by rw[show(dD (ja s 0) n) kr=_ from if_neg (by simp[n0])];exact Wi hs (abp hs hT n) H.sx ae,.inr rfl⟩
   .exact .inr ⟨77,λ_ _=>qkr,by rw[gC n0];rfl,by rw[show(dD (ja s 0) n) kr=_ from if_pos n0];exact Ps hs hT H.sx ae,.inl rfl⟩
  obtain⟨n0,n1⟩|⟨F,ZE,hg,HC,hb⟩:=Y
  .have H:=H.re (g':=λk=>.ok (L,k))<|D6 n0 n1;simp only[tX (L:=Jx rb) (eX s kr ZG) H.sx.ok (by simp[n0,n1];decide),lC]at hl
   go_wp2
   go_ret;exact H.done λR=>R.v bR
  .obtain⟨f,rfl⟩:∃f',f=f'+1:=⟨f-1,ae⟩;have H:=H.re<|uf hb;simp only[hg,lC]at hl;clear hg hb;go_wp2_with fail;refine H.call HC ?_ (st:=λa=>w_ _ _ _ _);intro a k2 v w1 H q V;obtain⟨tv,xv,rfl⟩:=V.iface;have l2:=ab1 _ _ _ _ _ q;clear HC c ff z hl hM q;go_wp2_with(at_builtin;go_must(refine H.append (D:=[Fv tv<|Av xv]) hT bR ab2 Pz H.p.1 zw (λb e=>(ZH b e).2) (c:=λ_=>Fv tv<|Av xv) V ae ?_;intro q3 c3 w3 H));go_roundg((ja s 0).length-k2)
   case measure=>rw[uh dl];omega
   case rel=>exact⟨k2,L++[a],f,_,c3,0,ag,trivial,H,ai rfl,ae,bF,ae⟩
def akl w P l(v:Value):=∃u,v=.agg #[u]/\RowV QD 1 w P l u
def Wq(hs:s.size<=1000)(hT:(ja s 0).length<=1001)(h:SX w N rb sb m s k)(hn:(ja s 0).length<=k+1+n):
 Cq 29 #[rp rb] w (ap akl N rb sb m s (cT (ja s 0) (dD (ja s 0) n) (ja s 0).length [] k) w):=by
 obtain⟨b,hma⟩:=h.ma;have hz:=h.z;have hNw:=h.ev.hN;have⟨b0,B0⟩:=rq w #[.slice none 0 0] 46;have HC:=PA (n:=n) hs hT (h.af b0) hn hma;obtain⟨c,f,z⟩:=(h.af b0).bx;go_enter func29,ntmps29;go_wp2_with fail;refine HC.mono ?_;intro e w1 hp
 cases hA:fin (ja s 0) (cT (ja s 0) (dD (ja s 0) n) (ja s 0).length [] k)with
 |error f=>
  obtain⟨rfl,hb⟩:=hp.bad hA;exact⟨rfl,ap.fail ((Ke.of b0).trans hb) hA⟩
 |ok rr=>
 obtain⟨l,k1⟩:=rr;obtain⟨v,rfl,hb,S1,hR⟩:=hp.ok hA;have RV:=(RowV.move hR bR (br _) (λ_ _ _=>rfl)<|λb p _=>by simpa using p);obtain⟨va,vc,cs,rfl,_,_⟩:=hR;have B1:=ai (B0.xI hb<|by omega);have K1:=(Ke.of b0).trans hb;have HE:=ai (uL hA).1;obtain⟨c,f,z⟩:=uh B1;go_wp2_with fail;obtain⟨cF,fF,zF⟩:=B1.aR 0 (.slice va l.length vc) #[.slice va l.length vc] rfl (by simp);exact bodyPost_ret (v:=.agg #[.slice va l.length vc]) (by simp[results,Tryz.results29,go_sem,cF]) rfl (ap.done HE (K1.oX (br _) 0 _) (S1.set (b:=w.heap.size) hNw 0 _) ⟨_,rfl,(RV.uJ bR (b:=w.heap.size) (λc p=>by have p':w.heap.size+1<=c:=p;omega) 0 _).move bR (br _) (λ_ _ _=>rfl) (λb p _=>by have p':w.heap.size+1<=b:=p;show w.heap.size<=b;omega)⟩)
end
def qE(s:BA):=∃x r,s.toList=x::r/\Pu.gn x.toNat=true/\(∀y∈r,Pu.aX y.toNat=true)/\Pu.fk ⟨(x::r).toArray⟩=false
def NmV(s:BA):=∃x r,s.toList=39::x::r/\Pu.gn x.toNat=true/\(∀y∈r,Pu.aX y.toNat=true)/\Pu.fk ⟨(x::r).toArray⟩=false
structure ahL(t:jc):Prop where
 low:t.kind=1->qE t.text
 up:t.kind=2->BV t.text
 var:t.kind=3->NmV t.text
 num:t.kind=4->Ab t.text<1000000000
 sz:t.text.size<=400
structure eN(T:List jc)e:Prop where
 en:(tk T e).kind=7
 tok:∀k,ahL<|tk T k
 pos:0<T.length
inductive xH:Nd->Prop where
 |var(s:BA)(n f t a:Nat):NmV s->s.size<=400->n=0->xH (.mk 16 s n [] f t a)
 |up(s:BA)(n:Nat)(L:List Nd)(f t a:Nat):BV s->s.size<=400->n=0->(∀x∈L,xH x)->xH (.mk 2 s n L f t a)
 |pr(x y:Nd)(f t a:Nat):xH x->xH y->xH (.mk 6 eW 0 [x,y] f t a)
 |fn(x y:Nd)(f t a:Nat):xH x->xH y->xH (.mk 17 eW 0 [x,y] f t a)
inductive zN:Nd->Prop where
 |any(s:BA)(f t a:Nat):s.size<=400->zN (.mk 15 s 0 [] f t a)
 |low(s:BA)(f t a:Nat):qE s->s.size<=400->zN (.mk 1 s 0 [] f t a)
 |num(s:BA)(n f t a:Nat):n<1000000000->s.size<=400->zN (.mk 3 s n [] f t a)
 |word(s:BA)(f t a:Nat):s.toList=gB.toList\/s.toList=dJ.toList->s.size<=400->zN (.mk 4 s 0 [] f t a)
 |unit(f t a:Nat):zN (.mk 5 eW 0 [] f t a)
 |pr(x y:Nd)(f t a:Nat):zN x->zN y->zN (.mk 6 eW 0 [x,y] f t a)
 |up(s:BA)(n:Nat)(L:List Nd)(f t a:Nat):BV s->s.size<=400->n=0->(∀x∈L,zN x)->zN (.mk 2 s n L f t a)
inductive iH:Nd->Prop where
 |low(s:BA)(f t a:Nat):qE s->s.size<=400->iH (.mk 1 s 0 [] f t a)
 |up(s:BA)(f t a:Nat):BV s->s.size<=400->iH (.mk 2 s 0 [] f t a)
 |num(s:BA)(n f t a:Nat):n<1000000000->s.size<=400->iH (.mk 3 s n [] f t a)
 |word(s:BA)(f t a:Nat):s.toList=gB.toList\/s.toList=dJ.toList->s.size<=400->iH (.mk 4 s 0 [] f t a)
 |unit(f t a:Nat):iH (.mk 5 eW 0 [] f t a)
 |pr(x y:Nd)(f t a:Nat):iH x->iH y->iH (.mk 6 eW 0 [x,y] f t a)
 |of(x y:Nd)(f t a:Nat):iH x->xH y->iH (.mk 14 eW 0 [x,y] f t a)
 |op(s:BA)(x y:Nd)(f t a:Nat):s=gh\/s=dE\/s=fc\/s=dL->iH x->iH y->iH (.mk 7 s 0 [x,y] f t a)
 |call(x y:Nd)(f t a:Nat):iH x->iH y->iH (.mk 8 eW 0 [x,y] f t a)
 |fn(s:BA)(x:Nd)(f t a:Nat):qE s->s.size<=400->iH x->iH (.mk 9 s 0 [x] f t a)
 |lt(s:BA)(x z:Nd)(f t a:Nat):qE s->s.size<=400->iH x->iH z->iH (.mk 10 s 0 [x,z] f t a)
 |ltr(s s':BA)(x z:Nd)(f t a f' t' a':Nat):qE s->s.size<=400->qE s'->s'.size<=400->iH x->iH z->iH (.mk 11 s 0 [.mk 9 s' 0 [x] f' t' a',z] f t a)
 |ite(x y z:Nd)(f t a:Nat):iH x->iH y->iH z->iH (.mk 12 eW 0 [x,y,z] f t a)
 |mt(x:Nd)(A:List (Nd×Nd))(f t a:Nat):A≠[]->iH x->(∀p∈A,zN p.1)->(∀p∈A,iH p.2)->iH (.mk 13 eW 0 (x::aP A) f t a)
def Fn3(nd:Nd):=∃s x f t a,nd=.mk 9 s 0 [x] f t a/\qE s/\s.size<=400/\iH x
def Fn3.ex(h:Fn3 nd):iH nd:=by
 obtain⟨s,x,f,t,a,rfl,h1,h2,h3⟩:=h;exact .fn s x f t a h1 h2 h3
def ahM(T:List jc)f:=∃j,f=d_ (tk T j)
def Gs{α:Type}(T:List jc)(r:Except Fl (α×Nat))(Q:α->Nat->Prop):Prop:=match r with
 |.error f=>ahM T f|.ok (a,k')=>Q a k'
section
variable {e:Nat}
theorem Gs.aK{m}{f}{k}{Q:α->Nat->Prop}{R:β->Nat->Prop}(h:Gs T (m k) Q)(h2:∀a k',Q a k'->Gs T (f a k') R):Gs T (Go.Proofs.YtnldmeakhapdhaaGreatDoor.aK m f k) R:=by
 rw[Go.Proofs.YtnldmeakhapdhaaGreatDoor.aK]
 cases hm:m k with
 |error e=>rw[hm]at h;exact h|ok p=>rw[hm]at h;exact h2 _ _ h
def Gs.mono{r}{Q R:α->Nat->Prop}(h:Gs T r Q)(h2:∀a k',Q a k'->R a k'):Gs T r R:=by
 cases r with
 |error f=>exact h|ok p=>exact h2 _ _ h
def fS{Q}:Gs T (.error (d_<|tk T k):Except Fl (α×Nat)) Q:=⟨k,rfl⟩
def eN.step(h:eN T e){k}(hk:k<=e)(hn:(tk T k).kind≠7):k+1<=e:=by
 have:k≠e:=λq=>hn (by rw[q];exact h.en);omega
def IU(h:aU t s=true):t.kind=5:=by grind[aU]
def cd(h:eN T e)(hk:k<=e)s:Gs T (bz T s k) (λ_ k'=>k'=k+1/\k'<=e):=by
 rw[bz];split
 .rename_i q;exact⟨rfl,h.step hk (by rw[IU q];decide)⟩
 .exact fS
def oL(h:eN T e)(hk:k<=e)n(hn:n≠7):Gs T (cY T n k) (λt k'=>t=tk T k/\t.kind=n/\k'=k+1/\k'<=e):=by
 rw[cY];split
 .rename_i q;have q':(tk T k).kind=n:=by simpa using q
  exact⟨rfl,q',rfl,h.step hk (by rw[q'];exact hn)⟩
 .exact fS
def uE(h:eN T e)(hk:k<=e)mk:Gs T (oY T mk k) (λa k'=>a=mk k'/\k'=k+1/\k'<=e):=
 (cd h hk lS).aK λ_ k' q=>⟨rfl,q.1,q.2⟩
def A_{c}(q:bI t=c):(c=1->t.kind=1)/\(c=2->t.kind=2)/\(c=16->t.kind=3)/\(c=3->t.kind=4):=by grind[bI]
def YF{sort:Nat}(h:aF t sort=true):t.kind≠7:=by
 intro h7;have e1:aU t gB=false:=by simp[aU,h7]
 have e2:aU t dJ=false:=by simp[aU,h7]
 have e3:aU t Aa=false:=by simp[aU,h7]
 have e4:aU t ls=false:=by simp[aU,h7]
 have hl:bI t=0:=by rw[bI];rw[e1,e2,e3];simp[h7]
 rw[aF]at h;rw[e4,hl]at h;revert h;simp
def YN x y u:nn (x.add y u)=nn x+nn y:=by
 obtain⟨k,s,n,L,f,t,a⟩:=x;simp[Nd.add,nn,sX,cD];omega
def IW(P:Nd->Prop)(nd:Nd):=∃s L f t a,nd=.mk 2 s 0 L f t a/\BV s/\s.size<=400/\∀x∈L,P x
def IW.add{P:Nd->Prop}{x y}(h:IW P x)(hy:P y)u:IW P (x.add y u):=by
 obtain⟨s,L,f,t,a,rfl,h1,h2,h3⟩:=h
 exact⟨s,L++[y],f,u,a,rfl,h1,h2,λz hz=>by
  obtain q|q:=List.mem_append.1 hz
  .exact h3 z q
  .rw[List.mem_singleton.1 q];exact hy⟩
def aiY(h:eN T e)(hb:aF (tk T k) 1=true)(ho:aU (tk T k) ls=false):xH (b_<|tk T k):=by
 have g:=h.tok k;rw[aF]at hb;rw[ho]at hb;simp at hb;rw[b_];obtain q|q:=hb
 .rw[q];have h3:=(A_ q).2.2.1 rfl;exact .var _ _ _ _ _ (g.var h3) g.sz (by simp[eO,h3])
 .rw[q];have h3:=(A_ q).2.1 rfl;exact .up _ _ _ _ _ _ (g.up h3) g.sz (by simp[eO,h3]) ag
def IW.ty(h:IW xH nd):xH nd:=by obtain⟨s,L,f,t,a,rfl,h1,h2,h3⟩:=h;exact .up s 0 L f t a h1 h2 rfl h3
def IW.pa(h:IW zN nd):zN nd:=by obtain⟨s,L,f,t,a,rfl,h1,h2,h3⟩:=h;exact .up s 0 L f t a h1 h2 rfl h3
def DV(h:bI t=4):t.text.toList=gB.toList\/t.text.toList=dJ.toList:=by grind[bI,aU,toList_mk]
def kX(h:bI t≠3):eO t=0:=by grind[bI,eO]
def anf{p:Prop}(h:p:=by
 intro c q hc;have:=A_ q;obtain rfl|rfl|rfl:=hc
 .exact this.1 rfl
 .exact this.2.1 rfl
 .exact this.2.2.2 rfl):p:=h
def ang{p:Prop}(h:p:=by
 rw[q];have h4:(tk T k).kind=4:=hk 3 q ae
 exact .num _ _ _ _ _ (by unfold eO;rw[if_pos h4];exact g.num h4) g.sz):p:=h
def aiZ(h:eN T e)(hb:aF (tk T k) 2=true)(ho:aU (tk T k) ls=false):zN (b_<|tk T k):=by
 have g:=h.tok k;rw[aF]at hb;rw[ho]at hb;simp at hb;rw[b_];have hk:∀c,bI (tk T k)=c->c=1\/c=2\/c=3->(tk T k).kind=if c=3 then 4 else c:=by
  exact anf
 rcases hb with(((q|q)|q)|q)|q
 .rw[kX ae,q];exact .any _ _ _ _ g.sz
 .rw[kX ae,q];exact .low _ _ _ _ (g.low<|hk 1 q ae) g.sz
 .rw[kX ae,q];exact .up _ _ _ _ _ _ (g.up<|hk 2 q ae) g.sz rfl ag
 .exact ang
 .rw[kX ae,q];exact .word _ _ _ _ (DV q) g.sz
def ai0(h:eN T e)(hb:aF (tk T k) 3=true)(ho:aU (tk T k) ls=false):iH (b_<|tk T k):=by
 have g:=h.tok k;rw[aF]at hb;rw[ho]at hb;simp at hb;rw[b_];have hk:∀c,bI (tk T k)=c->c=1\/c=2\/c=3->(tk T k).kind=if c=3 then 4 else c:=by
  exact anf
 rcases hb with((q|q)|q)|q
 .rw[kX ae,q];exact .low _ _ _ _ (g.low<|hk 1 q ae) g.sz
 .rw[kX ae,q];exact .up _ _ _ _ (g.up<|hk 2 q ae) g.sz
 .exact ang
 .rw[kX ae,q];exact .word _ _ _ _ (DV q) g.sz
def YJ(h:aU t s=true):t.text=s:=by grind[aU,toList_inj]
end
section
open Go.ChangeMaps Un
mutual
def wT:Nd->Nat->List UInt8
 |.mk k s _ L _ _ _=>if k=16 then λ_=>s.toList else bD (iO k s) (wTL L)
def wTL:List Nd->List (Nat->List UInt8)
 |[]=>[]|x::l=>wT x::wTL l
end
def sep(last:BA):List UInt8:=if last.toList=[]\/last.toList=[40]then[]else[32]
def Lc(t:BA):Prop:=t.toList≠[]/\t.toList≠[40]
def kS{t:BA}(h:Lc t):sep t=[32]:=by rw[sep];rw[if_neg (by intro q;exact q.elim h.1 h.2)]
def pu{l:List UInt8}{t:BA}(h1:t.toList≠[41])(h2:t.toList≠[44])(h3:t.toList≠[59]):tP l last t=l++(sep last++t.toList):=by
 rw[tP,spB,sep];rw[show t.data.toList=t.toList from(qw t).symm];by_cases q1:last.toList=[]
 .simp[q1,h1,h2,h3]
 .grind
def Gc{l:List UInt8}{t:BA}(h:t.toList=[41]\/t.toList=[44]):tP l last t=l++t.toList:=by
 rw[tP,spB];rw[show t.data.toList=t.toList from(qw t).symm];obtain h|h:=h<;>simp[h]
def NQ w pb(Q:Nat->Prop):=∀b,Q b->b<w.heap.size/\b≠pb/\RS w b
def NQ.fn{B pb}{w w'}{Q}(h:NQ w pb Q)(hf:FN B pb w w'):NQ w' pb Q:=λb q=>⟨j8 (h b q).1 hf.size,(h b q).2.1,(h b q).2.2.fn (h b q).1 (h b q).2.1 hf⟩
inductive mO(w:World)(P:Nat->Prop):Nd->Value->Prop where
 |var(s:BA)(n f t a:Nat)(x y:Int)(hq:∃r,s.toList=39::r):mO w P (.mk 16 s n [] f t a) (.iface 162<|.agg #[Iv x,Iv y,.string<|s.extract 1 s.size])
 |fn(s:BA)(n:Nat)(a b:Nd)(f t at_:Nat)(x y:Int)(va vb:Value)(ha:mO w P a va)(hb:mO w P b vb):mO w P (.mk 17 s n [a,b] f t at_) (.iface 192<|.agg #[Iv x,Iv y,va,vb])
 |pr(s:BA)(n:Nat)(a b:Nd)(f t at_:Nat)(x y:Int)(va vb:Value)(ha:mO w P a va)(hb:mO w P b vb):mO w P (.mk 6 s n [a,b] f t at_) (.iface 196<|.agg #[Iv x,Iv y,va,vb])
 |up(s:BA)(n:Nat)(L:List Nd)(f t at_:Nat)(x y x' y':Int)(sa:Option Addr)(sc:Nat)(vs:Nat->Value)(hu:od s)(aO:L=[]\/∃g,sa=some ⟨g,0,none⟩/\P g/\g<w.heap.size/\∀i,i<L.length->w.cell? ⟨g,i,none⟩=some (vs i))(hr:∀i(h:i<L.length),mO w P L[i]<|vs i):
  mO w P (.mk 2 s n L f t at_) (.iface 194<|.agg #[Iv x,Iv y,Iv x',Iv y',.string s,.slice sa L.length sc])
theorem mO.move(h:mO w P nd v)(hs:w.heap.size<=w'.heap.size)(hb:∀b,P b->b<w.heap.size->w'.heap[b]? =w.heap[b]?)(hq:∀b,P b->b<w.heap.size->Q b):mO w' Q nd v:=by
 induction h with
 |var s n f t a x y hq=>exact .var s n f t a x y hq|fn s n a b f t at_ x y va vb _ _ N_ N'=>exact .fn s n a b f t at_ x y va vb N_ N'|pr s n a b f t at_ x y va vb _ _ N_ N'=>exact .pr s n a b f t at_ x y va vb N_ N'|up s n L f t at_ x y x' y' sa sc vs hu aO hr ih=>
  refine .up s n L f t at_ x y x' y' sa sc vs hu ?_ ih;obtain h0|⟨g,h1,hP,hz,hc⟩:=aO
  .exact j5 h0
  .refine jz ⟨g,h1,hq g hP hz,j8 hz hs,λi hi=>?_⟩;rw[qk (a:=⟨g,i,none⟩) (w:=w)<|hb g hP hz];exact hc i hi
def mO.af(h:mO w P nd v)(hb:Bq w w'):mO w' P nd v:=h.move hb.size (λb _ hz=>hb.block b hz)<|λ_ p _=>p
def mO.wide(h:mO w P nd v)(hq:∀b,P b->Q b):mO w Q nd v:=h.move (br _) (λ_ _ _=>rfl)<|λb p _=>hq b p
def mO.fr(h:mO w P nd v)(hf:Fr S w w')(hS:∀b,P b->b<w.heap.size->¬S b):mO w' P nd v:=h.move hf.size (λb p z=>hf.block b z<|hS b p z)<|λ_ p _=>p
def mO.iface{a:Nd}(h:mO w P a v):∃t x,v=.iface t (.agg x):=by
 cases h<;>exact⟨_,_,rfl⟩
def mO.bQ{a:Nd}(h:mO w P a v):∃t x,v=.iface t (.agg x):=h.iface
def mO.fnQ(h:mO w Q nd v)(hq:NQ w pb Q)(hf:FN B pb w w'):mO w' Q nd v:=h.move hf.size (λb p z=>hf.block b z (hq b p).2.1<|jz (hq b p).2.2)<|λ_ p _=>p
def FV B pb mv txt w(e:Ending)w':=
 e=.returned (.tuple #[])/\∃bv' Ld,PN w' B pb bv' txt Ld mv/\Lc Ld/\FN B pb w w'
def Xd nd:=∀(w:World)(B pb:Nat)(bv:Value)(l:List UInt8)(last:BA)(mv:Value)(Q:Nat->Prop)(v:Value)(k:Nat),PN w B pb bv l last mv->mO w Q nd v->NQ w pb Q->k<=2->(l++(sep last++wT nd k)).length<=800000->B<=pb->
 Cq 37 #[Pv pb,v,Nv k] w (FV B pb mv (l++(sep last++wT nd k)) w)
def AL nd:=∀(w:World)(B pb:Nat)(bv:Value)(l:List UInt8)(last:BA)(mv:Value)(Q:Nat->Prop)(v:Value),PN w B pb bv l last mv->mO w Q nd v->NQ w pb Q->(l++(sep last++wT nd 0)).length<=800000->B<=pb->
 Cq 55 #[Pv pb,v] w (FV B pb mv (l++(sep last++wT nd 0)) w)
def rk:Nd->Nat
 |.mk k _ _ L _ _ _=>if k=17 then 0 else if k=2/\L≠[]then 1 else 2
def SI{p:Prop}(h:p:=by
 go_enter func53,ntmps53
 go_wp2
 go_ret
 exact⟨by simp[rk],(qy _ _)⟩):p:=h
def aaV(h:mO w Q nd v):Cq 53 #[v] w λe w'=>e=.returned (Nv<|rk nd)/\Bq w w':=by
 cases h with
 |var s n f t a x y hq=>
  exact SI
 |fn s n a b f t at_ x y va vb ha hb=>
  obtain⟨ta,xa,rfl⟩:=ha.bQ;obtain⟨tb,xb,rfl⟩:=hb.bQ;go_enter func53,ntmps53
  go_wp2
  go_ret;exact⟨by simp[rk],bw _⟩
 |pr s n a b f t at_ x y va vb ha hb=>
  obtain⟨ta,xa,rfl⟩:=ha.bQ;obtain⟨tb,xb,rfl⟩:=hb.bQ;exact SI
 |up s n L f t at_ x y x' y' sa sc vs hu aO hr=>
  by_cases hL:L=[]
  .have h3:decide ((0:Int)<(L.length:Int))=false:=by simp[hL]
   go_enter func53,ntmps53
   go_wp2
   go_ret;exact⟨by simp[rk,hL],bw _⟩
  .have h3:(0:Int)<(L.length:Int):=by have:=List.length_pos_iff.2 hL;omega
   go_enter func53,ntmps53
   go_wp2
   go_ret;exact⟨by simp[rk,hL],bw _⟩
def ahi s n L c f t a k(hc:c=16\/c=17\/c=6\/(c=2/\od s))(hk:k<=2):wT (.mk c s n L f t a) k=ji (decide (rk (.mk c s n L f t a)<k)) (wT (.mk c s n L f t a) 0):=by
 have hpf:∀x,ji false x=x:=λx=>rfl;have hup:od s->s≠pN/\s≠m9:=λh=>⟨λe=>da h 62 [] aB (by rw[e];exact toList_mk [62]),λe=>da h 44 [] aB (by rw[e];exact toList_mk [44])⟩;obtain rfl|rfl|rfl|⟨rfl,hu⟩:=hc
 .have hr:decide (rk (.mk 16 s n L f t a)<k)=false:=by simp[rk];omega
  rw[hr,hpf];simp[wT]
 .have hr:decide (rk (.mk 17 s n L f t a)<k)=decide (0<k):=by simp[rk]
  rw[hr];simp only[wT,iO,if_true,show ¬(17=16) by decide,if_false,bD];rfl
 .have hr:decide (rk (.mk 6 s n L f t a)<k)=false:=by simp[rk];omega
  rw[hr,hpf];simp only[wT,iO,show ¬(6=16) by decide,show ¬(6=17) by decide,if_false,if_true,bD];have cV:¬m9=pN:=xY;rw[if_neg cV,if_neg cV]
 .have⟨h1,h2⟩:=hup hu;have hle:(wTL L).isEmpty=L.isEmpty:=by cases L<;>simp[wTL]
  simp only[wT,iO,show ¬(2=16) by decide,show ¬(2=17) by decide,show ¬(2=6) by decide,if_false,bD,if_neg h1,if_neg h2,hle];have hr:decide (rk (.mk 2 s n L f t a)<k)=(decide (1<k)&& !L.isEmpty):=by
   cases L with
   |nil=>simp[rk];omega|cons x l=>simp[rk]
  rw[hr];rfl
def KN':Nd->Prop
 |.mk c s _ _ _ _ _=>c=16\/c=17\/c=6\/(c=2/\od s)
def mO.kn(h:mO w Q nd v):KN' nd:=by
 cases h with
 |var=>exact j5 rfl|fn=>exact jz (j5 rfl)|pr=>exact jz (jz<|j5 rfl)|up=>exact jz<|jz<|jz ⟨rfl,qas⟩
section
variable {bv:Value} {l:List UInt8} {mv:Value}
def anh{p:Prop}(h:p:=by
 go_wp2_with fail;refine HC.mono ?_;intro e w1 hp1;have hp2:=hp1;obtain⟨rfl,_⟩:=hp1
 go_wp2
 go_end0
 exact hp2):p:=h
def aaW(HB:AL nd)(h:PN w B pb bv l last mv)(hp:mO w Q nd v)(hq:NQ w pb Q)(hl:(l++(sep last++wT nd 0)).length<=800000)(hB:B<=pb)b1 b2(h1:Bx w b1 #[Pv pb])(h2:Bx w b2 #[v]):
 Cq 54 #[Pv b1,Pv b2] w (FV B pb mv (l++(sep last++wT nd 0)) w):=by
 obtain⟨tv,xv,rfl⟩:=hp.bQ;obtain⟨c1,f1,z1⟩:=h1;obtain⟨c2,f2,z2⟩:=h2;have HC:=HB w B pb bv l last mv Q _ h hp hq hl hB;go_enter func54,ntmps54;exact anh
def aaX{W w1}(h:Bq W.drew w1):Bq W w1:=((qy W.heap.size W).drew).trans h
abbrev gX:BA:=⟨#[40]⟩
abbrev iQ:BA:=⟨#[41]⟩
def Le:sep gX=[]:=by rw[sep];rw[if_pos<|jz<|toList_mk [40]]
def FN.lH{w}(hf:FN B pb w w')(h:Bx w b C)(hp:b≠pb)(hx:∀x,C[0]? =some x->∀c,x≠.int .u8 c):Bx w' b C:=h.fn hp (jz<|h.nby hx) hf
def adH(HB:AL nd)k(hk:k<=2)(h:PN w B pb bv l last mv)(hp:mO w Q nd v)(hq:NQ w pb Q)(hl:(l++(sep last++wT nd k)).length<=800000)(hB:B<=pb)b1 b2(h1:Bx w b1 #[Pv pb])(h2:Bx w b2 #[v])(n1:b1≠pb)(n2:b2≠pb):
 Cq 52 #[Pv pb,.bool<|decide (rk nd<k),.func (.func 54) #[] #[Pv b1,Pv b2]] w (FV B pb mv (l++(sep last++wT nd k)) w):=by
 have hw:wT nd k=ji (decide (rk nd<k)) (wT nd 0):=by
  obtain⟨c,s,n,L,f,t,a⟩:=nd;exact ahi s n L c f t a k hp.kn hk
 rw[hw]at hl⊢;obtain⟨tv,xv,rfl⟩:=hp.bQ
 cases hd:decide (rk nd<k)with
 |false=>
  rw[hd]at hl;have hl':=hl;have HC:=aaW HB h hp hq hl' hB b1 b2 h1 h2;go_enter func52,ntmps52;exact anh
 |true=>
  rw[hd]at hl;have alB:ji true (wT nd 0)=40::(wT nd 0++[41]):=rfl;rw[alB]at hl⊢;simp only[yE,lM,qO]at hl;have hzp:=h.lt;have cr:Bq w (w.alloc<|Cv #[Sv gX] 9):=bw _;have HP:=wQ (h.af cr) gX aB ae w.heap.size (Bx.new w #[Sv gX] 9) ae;have hpt:tP l last gX=l++(sep last++[40]):=by
   have:=pu (l:=l) (last:=last) (t:=gX) qAm qAm qAm;rw[this,show gX.toList=[40]from toList_mk [40]]
  rw[hpt]at HP;go_enter func52,ntmps52;go_wp2_with fail;refine HP.mono ?_;rintro e w1⟨rfl,bv1,N1,F1⟩;have FA:=(FN.of (B:=B) (pb:=pb) cr).trans F1;have X1:=FA.lH h1 n1 qAi;have X2:=FA.lH h2 n2 qAi;have HC:=aaW HB N1 (hp.fnQ hq FA) (hq.fn FA) (by simp only[lM,yE,qO,Le];omega) hB b1 b2 X1 X2;have hs1:sep gX=[]:=by rw[sep];rw[if_pos<|Or.inr<|toList_mk [40]]
  rw[hs1]at HC;go_wp2_with fail;refine HC.mono ?_;rintro e w2⟨rfl,Xb,DK,N2,fi2,F2⟩;have alC:=N2.lt;have fs:Bq w2 (w2.alloc<|Cv #[Sv iQ] 9):=bw _;have Xe:=wQ (N2.af fs) iQ aB (by simp only[lM,yE,qO,Le];omega) w2.heap.size (Bx.new w2 #[Sv iQ] 9) ae;rw[Gc<|j5<|toList_mk [41],show iQ.toList=[41]from toList_mk [41]]at Xe;go_wp2_with fail;refine Xe.mono ?_;rintro e w3⟨rfl,bv3,N3,F3⟩
  go_wp2
  go_end0;refine⟨rfl,bv3,iQ,?_,⟨by rw[show iQ.toList=[41]from toList_mk [41]];decide,by rw[show iQ.toList=[41]from toList_mk [41]];decide⟩,(FA.trans F2).trans<|(FN.of fs).trans F3⟩;have e9:l++(sep last++[40])++([]++wT nd 0)++[41]=l++(sep last++40::(wT nd 0++[41])):=ag;rw[<-e9];exact N3
end
def isF(c:BA):Bool:=c.toList==[62]
def isP(c:BA):Bool:=c.toList==[44]
def kd c:=if isF c=true then 17 else if isP c=true then 6 else 2
mutual
def sp(a:List Nat):Ty->Nd
 |.var n=>.mk 16 (bs (39::vT ((jf a n).idxOf n))) 0 [] 0 0 0|.aM c l=>.mk (kd c) c 0 (nN a l) 0 0 0
def nN(a:List Nat):List Ty->List Nd
 |[]=>[]|t::l=>sp a t::nN (vars a t) l
end
def pZ c:isF c=true↔c=pN:=by
 rw[isF];rw[beq_iff_eq];exact⟨λh=>toList_inj<|h.trans (toList_mk [62]).symm,λh=>by rw[h];exact toList_mk [62]⟩
def yC c:isP c=true↔c=m9:=by
 rw[isP];rw[beq_iff_eq];exact⟨λh=>toList_inj<|h.trans (toList_mk [44]).symm,λh=>by rw[h];exact toList_mk [44]⟩
def adP c:iO (kd c) c=c:=by
 rw[iO,kd];by_cases h1:isF c=true
 .simp[h1];exact((pZ c).1 h1).symm
 .by_cases h2:isP c=true
  .simp[h1,h2];exact((yC c).1 h2).symm
  .simp[h1,h2]
def ajK c:kd c≠16:=by rw[kd];split;decide;split<;>decide
mutual
def aa1:∀(T:Ty)(a:List Nat),wT (sp a T)=wr dec (vars a T) T
 |.var n,a=>by
  funext k;simp only[sp,wT,if_true,wr,vars];rw[show(bs (39::vT ((jf a n).idxOf n))).toList=39::vT ((jf a n).idxOf n)from toList_mk _];rfl
 |.aM c l,a=>by
  simp only[sp,wT,if_neg<|ajK c,adP,wr,vars];rw[aa2 l a]
def aa2:∀(l:List Ty)(a:List Nat),wTL (nN a l)=Rc dec (bh a l) l
 |[],a=>rfl|t::l,a=>by
  simp only[nN,wTL,Rc,bh];rw[aa1 t a,aa2 l<|vars a t,La<|mx l<|vars a t]
end
def eS:∀(l:List Ty)(a:List Nat),(nN a l).length=l.length
 |[],a=>rfl|t::l,a=>by simp[nN,eS l]
def tU:∀(l:List Ty)(a:List Nat)(i:Nat)(h:i<l.length),nN a (l.take<|i+1)=nN a (l.take i)++[sp (bh a<|l.take i) l[i]]/\bh a (l.take<|i+1)=vars (bh a<|l.take i) l[i]
 |[],a,i,h=>vQ|t::l,a,0,h=>by simp[nN,bh]|t::l,a,i+1,h=>by
  have:=tU l (vars a t) i Hn;simp only[List.take_succ_cons,nN,bh,this,List.getElem_cons_succ];simp
def AO:∀(a b:List Ty)(x:List Nat),bh x (a++b)=bh (bh x a) b
 |[],b,x=>rfl|t::a,b,x=>by simp[bh,AO a b]
def qZ l a i:(bh a<|l.take i).length<=(bh a l).length:=by
 have:bh a l=bh (bh a<|l.take i) (l.drop i):=by
  rw[<-AO,jv]
 rw[this];exact(mx _ _).length_le
def mO.by{w}{P}{nd}{v}(h:mO w P nd v):mO w (λb=>P b/\b<w.heap.size/\RS w b) nd v:=by
 induction h with
 |var s n f t a x y hq=>exact .var s n f t a x y hq|fn s n a b f t at_ x y va vb _ _ N_ N'=>exact .fn s n a b f t at_ x y va vb N_ N'|pr s n a b f t at_ x y va vb _ _ N_ N'=>exact .pr s n a b f t at_ x y va vb N_ N'|up s n L f t at_ x y x' y' sa sc vs hu aO hr ih=>
  refine .up s n L f t at_ x y x' y' sa sc vs hu ?_ ih;obtain h0|⟨g,h1,hP,hz,hc⟩:=aO
  .exact j5 h0
  .by_cases hL:L=[]
   .exact j5 hL
   .have hl:=List.length_pos_iff.2 hL;refine jz ⟨g,h1,⟨hP,hz,λq hq c e=>?_⟩,hz,hc⟩;have⟨t',x'',hv⟩:=(hr 0 hl).bQ;rw[hc 0 hl,hv]at hq
    cases hq
    cases e
inductive WN:Nd->Prop where
 |var(s:BA)(n f t a:Nat)(h:s.size<=1000):WN (.mk 16 s n [] f t a)
 |fn(s:BA)(n:Nat)(x y:Nd)(f t a:Nat)(hx:WN x)(hy:WN y):WN (.mk 17 s n [x,y] f t a)
 |pr(s:BA)(n:Nat)(x y:Nd)(f t a:Nat)(hx:WN x)(hy:WN y):WN (.mk 6 s n [x,y] f t a)
 |up(s:BA)(n:Nat)(L:List Nd)(f t a:Nat)(h:s.size<=1000)(hl:L.length<=1001)(hL:∀i(h:i<L.length),WN L[i]):WN (.mk 2 s n L f t a)
def ani{p:Prop}(h:p:=by
 subst ha hb;go_enter func56,ntmps56
 go_wp2
 go_region
 all_goals(
  go_wp2
  go_ret
  exact⟨rfl,(qy _ _).drew⟩)):p:=h
def adQ g sc va vb ta tb xa xb(ha:va=.iface ta xa)(hb:vb=.iface tb xb)(h0:w.cell? ⟨g,0,none⟩=some va)(h1:w.cell? ⟨g,1,none⟩=some vb):Cq 56 #[.string ⟨#[45,62]⟩,.slice (some ⟨g,0,none⟩) 2 sc] w λe w'=>e=.returned (.iface 192<|.agg #[Iv 0,Iv 0,va,vb])/\Bq w w':=by
 exact ani
def adR g sc va vb ta tb xa xb(ha:va=.iface ta xa)(hb:vb=.iface tb xb)(h0:w.cell? ⟨g,0,none⟩=some va)(h1:w.cell? ⟨g,1,none⟩=some vb):Cq 56 #[.string ⟨#[44]⟩,.slice (some ⟨g,0,none⟩) 2 sc] w λe w'=>e=.returned (.iface 196<|.agg #[Iv 0,Iv 0,va,vb])/\Bq w w':=by
 exact ani
def adS c(hu:od c)sa n sc:Cq 56 #[.string c,.slice sa n sc] w λe w'=>e=.returned (.iface 194<|.agg #[Iv 0,Iv 0,Iv 0,Iv 0,.string c,.slice sa n sc])/\Bq w w':=by
 have h1:(c.toList==[45,62])=false:=by rw[<-q9,beq_iff_eq];exact da hu 45 [62] aB
 have h2:(c.toList==[44])=false:=by rw[<-q9,beq_iff_eq];exact da hu 44 [] aB
 go_enter func56,ntmps56
 go_wp2
 go_ret;exact⟨rfl,qy _ _⟩
def ahk nb mb nd a' w(e:Ending)w':=
 ∃u,e=.returned u/\mO w' (λb=>w.heap.size<=b) nd u/\NB w' nb mb a'/\Fr (λb=>b=mb) w w'
def SpC T:=∀(w:World)(nb mb:Nat)(a:List Nat)(P:Nat->Prop)(v:Value),dW w P T v->NB w nb mb a->(∀b,P b->b≠mb)->Wf T->(vars a T).length<=96->ak [T]<=1000->
 Cq 38 #[v,nbV nb] w (ahk nb mb (sp a T) (vars a T) w)
@[simp] theorem alD a w:(Instr.typeAssert (.iface 152<|Iv a) 87 152 true).run xc w=.ok (.tuple #[Iv a,.bool true]) w:=qkr
@[simp] theorem ahl a b w:(Instr.typeAssert (.iface 165<|.agg #[a,b]) 87 152 true).run xc w=.ok (.tuple #[Iv 0,.bool false]) w:=qkr
def ahm n:SpC (.var n):=by
 intro w nb mb a P v h hN hP hW hv hs
 cases h
 simp only[vars]at hv;have HC:=VA hN n hv;go_enter func38,ntmps38;go_wp2_with fail;refine HC.mono ?_;rintro e w1⟨rfl,N1,F1⟩
 go_wp2
 go_ret;refine⟨_,rfl,?_,N1,F1⟩;have hq:Q' (bs (39::vT ((jf a n).idxOf n))):=⟨_,toList_mk _⟩;have ht:bs (vT<|(jf a n).idxOf n)=(bs (39::vT ((jf a n).idxOf n))).extract 1 (bs (39::vT ((jf a n).idxOf n))).size:=by
  apply toList_inj;have:=yr (s:=bs (39::vT ((jf a n).idxOf n)))<|toList_mk _;rw[tl]at this;rw[this];exact toList_mk _
 rw[ht];exact .var _ _ _ _ _ _ _ hq
def ajL nb mb a(L:List Ty)w pb sb M gk v wr:=
 ∃(j:Nat)(C:Array Value),Hid (gk=L.length-j)/\j<=L.length/\v=Nv j/\NB wr nb mb (bh a<|L.take j)/\Fr (λb=>b=mb) w wr/\Bx wr pb C/\Bx wr sb M/\Hid (C.size=L.length)/\
  Hid (∀i(h:i<(nN a<|L.take j).length),∃u,C[i]? =some u/\mO wr (λb=>pb<b/\b<wr.heap.size) (nN a<|L.take j)[i] u)
def NB.lt{L}(h:NB w nb mb L):nb<w.heap.size/\mb<w.heap.size:=⟨h.bk.z,h.mp.lt⟩
def NB.set{L}(h:NB w nb mb L)(h1:b≠nb)(h2:b≠mb)j v:NB (w.setCell ⟨b,j,none⟩ v) nb mb L:=
 ⟨h.bk.bT h1.symm j v,h.mp.uJ h2.symm j v,h.ne⟩
def Tj{p:Prop}(h:p:=by
 unfold kd
 rw[if_neg<|λq=>da hu 62 [] aB (by rw[(pZ c).1 q];exact toList_mk [62]),if_neg<|λq=>da hu 44 [] aB (by rw[(yC c).1 q];exact toList_mk [44])]):p:=h
def Tk{p:Prop}(h:p:=by
 simp only[sp,hk];congr 1;apply List.ext_getElem
 .simp;omega
 .intro i h1 h2;have:i=0\/i=1:=by simp at h2;omega
  obtain rfl|rfl:=this<;>rfl):p:=h
def ahn c L(IH:∀i(h:i<L.length),SpC L[i]):SpC (.aM c L):=by
 intro w nb mb a P v h HN hP hW hv hs
 cases h with
 |aM c L sa sc vs hc aO hr=>
 obtain⟨i0,yq,oR,nu,iZ⟩:=info_parts JM;have gL:ak L<=1000:=by simp[ak,size]at hs;omega
 have hLl:=uS L;have W7:=jV (by_:=16) Ah yq oR rfl nu iZ aB L.length ae;obtain⟨Hok,hWL⟩:=hW;rw[Gg]at hWL;simp only[vars]at hv;have h1:=ahl;have h2:=agS;have bA:=HN.lt;have cr:Bq w ((w.alloc<|.cells #[.string<|pn c,.slice sa L.length sc] 165).alloc<|.cells (Array.replicate L.length .nilIface) 125):=(bw _).alloc ag _;have XM:=ai<|(Bx.new w #[.string<|pn c,.slice sa L.length sc] 165).alloc<|.cells (Array.replicate L.length .nilIface) 125;obtain⟨cm,fm,zm⟩:=uh XM;go_enter func38,ntmps38
 go_wp2
 go_loopg[29] L.length (λgk v wr=>ajL nb mb a L w (w.heap.size+1) w.heap.size #[.string<|pn c,.slice sa L.length sc] gk v wr)
 case atStart=>
  have BP:Bx ((w.alloc<|.cells #[.string<|pn c,.slice sa L.length sc] 165).alloc<|.cells (qf L.length .nilIface) 125) (w.heap.size+1) (qf L.length .nilIface):=by have:=Bx.new (w.alloc<|.cells #[.string<|pn c,.slice sa L.length sc] 165) (qf L.length .nilIface) 125;simpa using this
  refine⟨0,qf L.length .nilIface,ai ag,j7 _,rfl,?_,Fr.of cr,BP,XM,ai ag,ai<|λi hi=>absurd hi<|by simp[nN]⟩;simpa[bh]using HN.af cr
 case round=>
  obtain⟨j,C,dl,hj,rfl,N1,F1,B1,BM,hC,hT⟩:=hrel;have zw:=F1.size;have n1:=N1.lt;have zpb:=B1.z;by_cases bm:j<L.length
  .have hd:(j:Int)<(L.length:Int):=ae;obtain⟨g,rfl,hg,k9,bY⟩:∃g,sa=some ⟨g,0,none⟩/\P g/\g<w.heap.size/\∀i,i<L.length->w.cell? ⟨g,i,none⟩=some (vs i):=by
    obtain h0|h0:=aO
    .subst h0;simp at bm
    .exact h0
   have cg:=(qk (a:=⟨g,j,none⟩)<|F1.block g k9<|hP g hg).trans<|bY j bm;have TJ:=(hr j bm).fr F1<|λb p _=>hP b p;obtain⟨tv,xv,Na⟩:=TJ.iface;obtain⟨mt1,mt2⟩:=tU L a j bm;have hnj:(vars (bh a<|L.take j) L[j]).length<=96:=by rw[<-mt2];exact j6 (qZ L a<|j+1) hv
   have hsj:ak [L[j]]<=1000:=by
    have e1:=pi L j bm;have e2:=lU L<|j+1;simp[ak];omega
   have HC:=IH j bm wr nb mb _ P (vs j) TJ N1 hP (hWL _<|jk bm) hnj hsj;rw[Na]at cg HC;go_wp2_with fail;refine HC.mono ?_;rintro e w1⟨u,rfl,HU,Re,HF⟩;obtain⟨tu,xu,rfl⟩:=HU.bQ;have hpm:w.heap.size+1≠mb:=ae;have B2:=B1.fr HF hpm;have wJ:j<C.size:=qBh;have cj:=(B2.c j).trans<|qi wJ;have fj:=B2.f j;have B3:=B2.aR j (.iface tu<|.agg xu) (C.setIfInBounds j<|.iface tu<|.agg xu) rfl wJ;have BM2:=(BM.fr HF<|show ¬w.heap.size=mb by omega).bT (show w.heap.size≠w.heap.size+1 by omega) j (.iface tu<|.agg xu);have Bu:=F1.trans HF;have z2:=HF.size
   go_wp2
   go_roundg(L.length-(j+1))
   case measure=>rw[uh dl];omega
   case rel=>
    have Oy:(nN a<|L.take j).length=j:=by rw[eS];simp;omega
    refine⟨j+1,C.setIfInBounds j<|.iface tu<|.agg xu,ai rfl,ae,jP,?_,?_,B3,BM2,ai (by simp;exact hC),ai<|λi hi=>?_⟩
    .rw[mt2];exact Re.set ae ae j _
    .exact Bu.set (jz ae) j _
    .have jQ:∀b,w.heap.size+1<b->b<w1.heap.size->(w1.setCell ⟨w.heap.size+1,j,none⟩<|.iface tu<|.agg xu).heap[b]? =w1.heap[b]? :=λb hb _=>qx _ _ _ _ (by show b≠w.heap.size+1;omega);have hss:(w1.setCell ⟨w.heap.size+1,j,none⟩<|.iface tu<|.agg xu).heap.size=w1.heap.size:=Dd;have Ag:i<j+1:=by rw[mt1]at hi;simp[Oy]at hi;omega
     by_cases e:i=j
     .subst e;refine⟨.iface tu<|.agg xu,by simp[wJ],?_⟩;have e1:(nN a<|L.take<|i+1)[i]'hi=sp (bh a<|L.take i) L[i]:=by
       have:(nN a<|L.take<|i+1)[i]? =some (sp (bh a<|L.take i) L[i]):=by rw[mt1,jt ae];simp[Oy]
       rw[jm hi]at this;exact Option.some.inj this
      rw[e1];exact HU.by.move ae (λb p z=>jQ b qAy z)<|λb p z=>⟨qAy,ae⟩
     .have rV:i<(nN a<|L.take j).length:=ae;obtain⟨u',wK,wL⟩:=uh hT i rV;have e1:(nN a<|L.take<|j+1)[i]'hi=(nN a<|L.take j)[i]'rV:=by
       have:(nN a<|L.take<|j+1)[i]? =some ((nN a<|L.take j)[i]'rV):=by rw[mt1,ju rV,jm rV]
       rw[jm hi]at this;exact Option.some.inj this
      refine⟨u',by rw[qh ae];exact wK,?_⟩;rw[e1];have h3:=wL.fr HF (λb p _ q=>by subst q;omega);exact h3.move ae (λb p z=>jQ b p.1 z)<|λb p z=>⟨p.1,ae⟩
  .have hd:decide ((j:Int)<(L.length:Int))=false:=bF;have ej:j=L.length:=ae;subst ej;rw[jq]at N1 hT;obtain⟨cw,fw,zw'⟩:=BM;have hsl:=eS L a;have hCs:C.size=L.length:=uh hC;obtain rfl|rfl|hu:=hc
   .have h2L:=Hok.2.1<|j5 rfl;obtain⟨u0,hu0,hp0⟩:=uh hT 0 ae;obtain⟨u1,wK,hp1⟩:=uh hT 1 ae;obtain⟨t0,x0,rfl⟩:=hp0.bQ;obtain⟨t1,x1,rfl⟩:=hp1.bQ;have HC:=adQ (w:=wr) (w.heap.size+1) L.length (.iface t0<|.agg x0) (.iface t1<|.agg x1) t0 t1 (.agg x0) (.agg x1) rfl rfl ((B1.c 0).trans hu0) ((B1.c 1).trans wK);rw[kP]at cw;rw[h2L]at HC;go_wp2_with fail;rw[h2L];refine HC.mono ?_;rintro e w9⟨rfl,OT⟩
    go_wp2
    go_ret;refine⟨_,rfl,?_,N1.af OT,F1.trans<|Fr.of OT⟩;have esp:sp a (.aM pN L)=.mk 17 pN 0 [(nN a L)[0]' ae,(nN a L)[1]' ae] 0 0 0:=by
     have hk:kd pN=17:=by unfold kd;rw[if_pos<|(pZ pN).2 rfl]
     exact Tk
    rw[esp];exact .fn _ _ _ _ _ _ _ _ _ _ _ ((hp0.af OT).wide λb p=>qAu)<|(hp1.af OT).wide λb p=>qAu
   .have h2L:=Hok.2.1<|jz rfl;obtain⟨u0,hu0,hp0⟩:=uh hT 0 ae;obtain⟨u1,wK,hp1⟩:=uh hT 1 ae;obtain⟨t0,x0,rfl⟩:=hp0.bQ;obtain⟨t1,x1,rfl⟩:=hp1.bQ;have HC:=adR (w:=wr) (w.heap.size+1) L.length (.iface t0<|.agg x0) (.iface t1<|.agg x1) t0 t1 (.agg x0) (.agg x1) rfl rfl ((B1.c 0).trans hu0) ((B1.c 1).trans wK);rw[kQ]at cw;rw[h2L]at HC;go_wp2_with fail;rw[h2L];refine HC.mono ?_;rintro e w9⟨rfl,OT⟩
    go_wp2
    go_ret;refine⟨_,rfl,?_,N1.af OT,F1.trans<|Fr.of OT⟩;have esp:sp a (.aM m9 L)=.mk 6 m9 0 [(nN a L)[0]' ae,(nN a L)[1]' ae] 0 0 0:=by
     have cV:¬m9=pN:=by intro e;have:=congrArg ByteArray.toList e;rw[show m9.toList=[44]from toList_mk [44],show pN.toList=[62]from toList_mk [62]]at this;simp at this
     have hk:kd m9=6:=by unfold kd;rw[if_neg<|λq=>cV<|(pZ m9).1 q,if_pos<|(yC m9).2 rfl]
     exact Tk
    rw[esp];exact .pr _ _ _ _ _ _ _ _ _ _ _ ((hp0.af OT).wide λb p=>qAu)<|(hp1.af OT).wide λb p=>qAu
   .have HC:=adS (w:=wr) c hu (some ⟨w.heap.size+1,0,none⟩) L.length L.length;rw[fh hu]at cw;go_wp2_with fail;refine HC.mono ?_;rintro e w9⟨rfl,OT⟩
    go_wp2
    go_ret;refine⟨_,rfl,?_,N1.af OT,F1.trans<|Fr.of OT⟩;have hk:kd c=2:=by
     exact Tj
    simp only[sp,hk];rw[<-hsl];refine .up c 0 (nN a L) 0 0 0 0 0 0 0 _ _ (λi=>C.getD i .nilIface) hu (jz ⟨w.heap.size+1,rfl,by show w.heap.size<=w.heap.size+1;omega,j8 B1.z OT.size,λi hi=>?_⟩) (λi hi=>?_)
    .obtain⟨u,Ms,_⟩:=uh hT i hi;rw[qk (a:=⟨w.heap.size+1,i,none⟩)<|OT.block _ B1.z,B1.c i,Ms];simp[qg,Ms]
    .obtain⟨u,Ms,Um⟩:=uh hT i hi;have:C.getD i .nilIface=u:=by simp[qg,Ms]
     rw[this];exact(Um.af OT).wide λb p=>qAu
def DL:∀(T:Ty),SpC T
 |.var n=>ahm n|.aM c L=>ahn c L λi h=>DL L[i]
termination_by T=>qz T
decreasing_by
 have h2:=List.sizeOf_lt_of_mem<|jk h;simp;omega
def aho i(h:i<=900):(bs (39::vT i)).size<=1000:=by
 rw[dY];have:=yz i;simp[vT];omega
def aa3{l:List α}(h:l.length=2):∃x y,l=[x,y]:=by
 match l,h with
 |[x,y],_=>exact⟨x,y,rfl⟩
def Su:∀(x y:List Ty)(a:List Nat),nN a (x++y)=nN a x++nN (bh a x) y
 |[],y,a=>rfl|t::x,y,a=>by simp[nN,bh,Su x y]
def ahp l a i h:(nN a l)[i]'(by rw[eS];exact h)=sp (bh a<|l.take i) l[i]:=by
 have h1:=(tU l a i h).1;have h2:(nN a l)[i]? =(nN a<|l.take<|i+1)[i]? :=by
  have e:nN a l=nN a (l.take<|i+1)++nN (bh a<|l.take<|i+1) (l.drop<|i+1):=by
   rw[<-Su,jv]
  rw[e,ju (by rw[eS];simp;omega)]
 rw[h1,jt (by rw[eS];simp;omega),eS]at h2;rw[jm (by rw[eS];exact h)]at h2;have h3:i-(l.take i).length=0:=bF;rw[h3]at h2;exact Option.some.inj h2
def WN.sp{w}{P}{T}{v}(h:dW w P T v):Wf T->size T<=900->∀a,(vars a T).length<=900->WN (sp a T):=by
 induction h with
 |var n=>
  intro _ _ a hv;simp only[vars]at hv;refine .var _ _ _ _ _<|aho _ ?_;have:(jf a n).idxOf n<(jf a n).length:=List.idxOf_lt_length_iff.2 (by rw[jf];split<;>simp[*]);omega
 |aM c L sa sc vs hc aO hr ih=>
  intro hW hs a hv;obtain⟨Lf,hWL⟩:=hW;rw[Gg]at hWL;simp only[size]at hs;simp only[vars]at hv;have key:∀i(h:i<L.length),WN<|(nN a L)[i]'(by rw[eS];exact h):=λi hi=>by
   rw[ahp L a i hi];have e1:=pi L i hi;have e2:=lU L<|i+1;refine ih i hi (hWL _<|jk hi) ae _ ?_;rw[<-(tU L a i hi).2];exact j6 (qZ L a<|i+1) hv
  have hl:=uS L;obtain rfl|rfl|hu:=hc
  .have h2:(nN a L).length=2:=by rw[eS];exact Lf.2.1<|j5 rfl
   have hL2:=Lf.2.1<|j5 rfl;have⟨x,y,e⟩:=aa3 h2;have hk:kd pN=17:=by rw[kd];rw[if_pos<|(pZ pN).2 rfl]
   simp only[Go.Proofs.YtnldmeakhapdhaaGreatDoor.sp,hk];have k0:=key 0 ae;have k1:=key 1 ae;simp only[e]at k0 k1⊢;exact .fn _ _ _ _ _ _ _ k0 k1
  .have h2:(nN a L).length=2:=by rw[eS];exact Lf.2.1<|jz rfl
   have hL2:=Lf.2.1<|jz rfl;have⟨x,y,e⟩:=aa3 h2;have cV:¬m9=pN:=xY;have hk:kd m9=6:=by rw[kd];rw[if_neg<|λq=>cV<|(pZ m9).1 q,if_pos<|(yC m9).2 rfl]
   simp only[Go.Proofs.YtnldmeakhapdhaaGreatDoor.sp,hk];have k0:=key 0 ae;have k1:=key 1 ae;simp only[e]at k0 k1⊢;exact .pr _ _ _ _ _ _ _ k0 k1
  .have hk:kd c=2:=by
    exact Tj
   simp only[Go.Proofs.YtnldmeakhapdhaaGreatDoor.sp,hk];refine .up _ _ _ _ _ _ Lf.1 (by rw[eS];omega) (λi hi=>key i (by rw[eS]at hi;exact hi))
def dW.ajM{T}(h:dW w P T v)L:wr dec L T 0≠[]:=by
 cases h with
 |var n=>simp[wr]|aM c l sa sc vs hc aO hr=>
  simp only[wr];rw[bD];split
  .rw[ji];simp
  .split
   .simp
   .rename_i h1 h2;obtain rfl|rfl|hu:=hc
    .exact absurd rfl h1
    .exact absurd rfl h2
    .obtain⟨x,r,e,_⟩:=hu;rw[ji];simp[e]
def adT p x y z:Cq 74 #[.pointer<|some p,Iv x,Iv y,Iv z] w λe w'=>(∃v,e=.returned v)/\Bq w w':=by
 go_enter func74,ntmps74
 go_wp2
 go_ret;exact⟨⟨_,rfl⟩,(((bw _).alloc ag _).alloc bF _).alloc bF _⟩
def OU p:Cq 51 #[.pointer<|some p] w (UM w):=by
 have H:=Ma.new (w:=w);have HB:=(Below.refl w.heap.size w).alloc (br _)<|.map #[] 0;have jA:= @run_makeMap Tryz.prog;go_enter func51,ntmps51;go_wp2_with(first|(refine aV _ rfl _ _ _ _ (Or.inl rfl) (KL.str Tryz.underlying9) Tryz.underlying132 _ _ rfl H _ _ rfl rfl trivial (λ_ _=>trivial) ?_;clear H;intro w' H' O';have H:=ai H';have HB:=ai<|One.below HB O' qbr;clear H' O')|(go_at_call 74;refine(adT _ _ _ _).mono ?_;rintro e w'⟨⟨v,rfl⟩,hb⟩;have H:=ai<|H.below hb;have HB:=ai<|HB.trans<|hb.mono HB.size;clear hb));go_ret;exact⟨_,rfl,ag,HB⟩
def aa4:Cq 36 #[] w λe w'=>e=.returned (Pv w.heap.size)/\(∃mv,PN w' w.heap.size w.heap.size (.slice none 0 0) [] ⟨#[]⟩ mv)/\Bq w w':=by
 have cr:Bq w (w.alloc<|Cv #[.pointer none,Lv none 0 0,Sv ⟨#[]⟩,.map none] 134):=bw _;have h0:(w.alloc<|Cv #[.pointer none,Lv none 0 0,Sv ⟨#[]⟩,.map none] 134).heap[w.heap.size]? =some (Cv #[.pointer none,Lv none 0 0,Sv ⟨#[]⟩,.map none] 134 (0,0)):=(MapKept.heap_alloc w _).1;have H0:=ai h0;go_enter func36,ntmps36;go_wp2_with(go_at_call 51;refine(OU _).mono ?_;rintro e w1⟨b,rfl,hle,hb⟩;have h1:w1.heap[w.heap.size]? =some (Cv #[.pointer none,Lv none 0 0,Sv ⟨#[]⟩,.map none] 134 (0,0)):=(hb.block _ ag).trans H0;have c3:w1.cell? ⟨w.heap.size,3,none⟩=some (.map none):= qBu;have f3:w1.frozen? ⟨w.heap.size,3,none⟩=false:=(by simp[World.frozen?,h1]);have H1:=ai h1;have eH:=ai<|cr.trans<|hb.mono cr.size;clear h1 hb);go_ret;have hz:=eH.size;exact⟨rfl,⟨Mv b,⟨_,(dK H1 3 _).trans ag,Or.inl rfl⟩,⟨rfl,Or.inl ⟨rfl,rfl⟩⟩,λ_=>rfl,by simp[World.setCell];exact hz⟩,eH.setCell (br _) _⟩
def Fr.xJ{a b c}(h:Below n a b)(hn:n<=b.heap.size)(k:Fr S b c)(hS:∀x,S x->n<=x):Below n a c:=
 ⟨k.os.trans h.os,k.tape.trans h.tape,k.output.trans h.output,j6 h.size k.size,λi hi=>(k.block i ae (λq=>by have:=hS i q;omega)).trans<|h.block i hi⟩
end
section
open Go.ChangeMaps Go.MapKept Un
def IvC nd:=∀(w:World)(Q:Nat->Prop)(v:Value),PE w Q nd v->Cq 217 #[v] w λe w'=>e=.returned (.bool<|qp nd)/\Bq w w'
def ImC x y:=∀(w:World)(Q:Nat->Prop)(vx vy:Value)(f t:Int),PE w Q x vx->PE w Q y vy->Cq 228 #[.agg #[Iv f,Iv t,vx,vy]] w λe w'=>e=.returned (.bool<|qr x&&qp y)/\Bq w w'
def ajN s n x y f t a(Hx:IvC x)(Hy:IvC y):IvC (.mk 6 s n [x,y] f t a):=by
 intro w Q v h;have ev:qp (.mk 6 s n [x,y] f t a)=(qp x&&qp y):=by simp[qp,In.Vl]
 rw[ev]
 cases h with
 |lt c s n x z f t a y vx vz hc hs hy hx hz=>omega|pr s n x y f t a vx vy hx hy=>
 obtain⟨tx,ax,rfl⟩:=hx.iface;obtain⟨ty,ay,rfl⟩:=hy.iface;have⟨K0,B0⟩:=rq w #[Nv f,Nv t,Fv tx<|Av ax,Fv ty<|Av ay] 221;have H1:=Hx _ Q _<|hx.af K0;go_enter func217,ntmps217;go_wp2_with fail;refine H1.mono ?_;rintro e w1⟨rfl,k1⟩;have KK:=K0.trans<|k1.mono K0.size;have H2:=Hy _ Q _<|hy.af KK;have⟨c1,f1,z1⟩:=B0.below k1
 cases hb:qp x with
 |true=>
  go_wp2_with fail;refine H2.mono ?_;rintro e w2⟨rfl,K2⟩
  go_wp2
  go_ret;exact⟨by rw[hb];rfl,KK.trans<|K2.mono KK.size⟩
 |false=>
  go_wp2
  go_ret;exact⟨by rw[hb];rfl,KK⟩
def anj{p:Prop}(h:p:=by
 go_enter func217,ntmps217;go_wp2_with fail;refine H1.mono ?_;rintro e w1⟨rfl,K1⟩
 go_wp2
 go_ret
 exact⟨rfl,K0.trans<|K1.mono K0.size⟩):p:=h
def ajO s n x y f t a(Hx:IvC x):IvC (.mk 14 s n [x,y] f t a):=by
 intro w Q v h;have ev:qp (.mk 14 s n [x,y] f t a)=qp x:=by simp[qp,qv]
 rw[ev]
 cases h with
 |lt c s n x z f t a y vx vz hc hs hy hx hz=>omega|of s n x y f t a vx vy hx hy=>
 obtain⟨tx,ax,rfl⟩:=hx.iface;obtain⟨ty,ay,rfl⟩:=hy.bQ;have K0:Bq w (w.alloc<|Cv #[Nv f,Nv t,Fv tx<|Av ax,Fv ty<|Av ay] 224):=bw _;have H1:=Hx _ Q _<|hx.af K0;exact anj
def adW s n x y f t a(Hm:ImC x y):IvC (.mk 8 s n [x,y] f t a):=by
 intro w Q v h;have ev:qp (.mk 8 s n [x,y] f t a)=(qr x&&qp y):=by simp[qp,In.isC,In.SN,qv]
 rw[ev]
 cases h with
 |lt c s n x z f t a y vx vz hc hs hy hx hz=>omega|call s n x y f t a vx vy hx hy=>
 obtain⟨tx,ax,rfl⟩:=hx.iface;obtain⟨ty,ay,rfl⟩:=hy.iface;have K0:Bq w (w.alloc<|Cv #[Nv f,Nv t,Fv tx<|Av ax,Fv ty<|Av ay] 238):=bw _;have H1:=Hm _ Q _ _ (f:Int) (t:Int) (hx.af K0)<|hy.af K0;exact anj
def PE.kinds{x}(h:PE w Q x v):(∃ax:Array Value,v=.iface 219 (.agg ax)/\(∃(a0 a1:Int)(a2:BA),ax=#[Iv a0,Iv a1,.string a2])/\qr x=true)\/(∃(s:BA)(n:Nat)(u z:Nd)(f t a:Nat)(vu vz:Value),x=.mk 8 s n [u,z] f t a/\v=.iface 238 (.agg #[Nv f,Nv t,vu,vz])/\PE w Q u vu/\PE w Q z vz)\/(qr x=false/\∃(D:TypeId)(ax:Array Value),v=.iface D (.agg ax)/\TeN 81 D 219 #[Iv 0,Iv 0,.string ⟨#[]⟩]/\TeN 81 D 238 #[Iv 0,Iv 0,.nilIface,.nilIface]):=by
 cases h with
 |up s n f t a hs=>exact j5 ⟨_,rfl,⟨_,_,_,rfl⟩,by simp[qr]⟩|call s n x y f t a vx vy hx hy=>grind|lt c s n x z f t a y vx vz hc hs hy hx hz=>exact jz (jz ⟨by obtain rfl|rfl:=hc<;>simp[qr],_,_,rfl,(YY.te aB),(QM.te aB)⟩)
 |_=>exact jz (jz ⟨by simp[qr],_,_,rfl,(YY.te aB),(QM.te aB)⟩)
def adX x y(Hy:IvC y)(IH:∀(s:BA)(n:Nat)(u z:Nd)(f t a:Nat),x=.mk 8 s n [u,z] f t a->ImC u z):ImC x y:=by
 intro w Q vx vy f t hx hy;have⟨K0,B0⟩:=rq w #[Iv f,Iv t,vx,vy] 238;have H1:=Hy _ Q _<|hy.af K0;have ML:=hx.kinds;obtain⟨tx,ax,rfl⟩:=hx.iface;obtain⟨ty,ay,rfl⟩:=hy.iface;obtain⟨Z,hZ⟩:∃Z,Hid<|Z=(In.isM x&&In.sg y):=⟨_,ai rfl⟩;rw[<-uh hZ];go_enter func228,ntmps228;go_wp2_with fail;refine H1.mono ?_;rintro e w1⟨rfl,k1⟩;have KK:=K0.trans<|k1.mono K0.size;have⟨c1,f1,z1⟩:=B0.below k1
 cases hb:qp y with
 |false=>
  go_wp2
  go_ret;exact⟨by rw[uh hZ,hb,Bool.and_false];rfl,KK⟩
 |true=>
  rw[hb,Bool.and_true]at hZ;obtain⟨bx,e1,⟨a0,a1,a2,rfl⟩,e2⟩|⟨s,n,u,z,f',t',a,vu,vz,rfl,e1,hu,hz⟩|⟨e2,D,bx,e1,h1,h2⟩:=ML
  .injection e1 with e1 e3;injection e3 with e3;subst e1 e3;rw[e2]at hZ
   go_wp2
   go_ret;exact⟨by rw[uh hZ];rfl,KK.alloc KK.size _⟩
  .injection e1 with e1 e3;injection e3 with e3;subst e1 e3;obtain⟨tu,au,rfl⟩:=hu.iface;obtain⟨tz,az,rfl⟩:=hz.iface;have k2:Bq w1 (w1.alloc<|Cv #[Nv f',Nv t',Fv tu<|Av au,Fv tz<|Av az] 238):=bw _;have H3:=IH s n u z f' t' a rfl _ Q _ _ (f':Int) (t':Int) ((hu.af KK).af k2) ((hz.af KK).af k2);have em:qr (.mk 8 s n [u,z] f' t' a)=(qr u&&qp z):=by simp[qr,In.isC,In.SN,qv]
   rw[em]at hZ;have K2:=KK.trans<|k2.mono KK.size;go_wp2_with fail;refine H3.mono ?_;rintro e w3⟨rfl,K3⟩
   go_wp2
   go_ret;exact⟨by rw[uh hZ];rfl,K2.trans<|K3.mono K2.size⟩
  .injection e1 with e1 e3;injection e3 with e3;subst e1 e3;rw[e2]at hZ
   go_wp2
   go_ret;exact⟨by rw[uh hZ];rfl,KK⟩
def SL{p:Prop}(h:p:=by
 go_enter func217,ntmps217
 go_wp2
 go_ret
 exact⟨by simp[qp],qy _ _⟩):p:=h
def Li:∀(m:Nat),(∀nd:Nd,qz nd<=m->IvC nd)/\∀x y:Nd,qz x+qz y<=m->ImC x y:=by
 intro m
 induction m using qe with
 |_ m ih=>
  have sp:∀nd:Nd,1<=qz nd:=λnd=>by cases nd;simp;omega
  have IV:∀nd:Nd,qz nd<m->IvC nd:=λnd h=>(ih (m-1) ae).1 nd ae;have IM:∀x y:Nd,qz x+qz y<m->ImC x y:=λx y h=>(ih (m-1) ae).2 x y ae;refine⟨λnd hm=>?_,λx y hm=>adX x y (IV y (by have:=sp x;omega)) λs n u z f t a e=>IM u z (by subst e;simp at hm;omega)⟩;intro w Q v h
  cases h with
  |pr s n x y f t a vx vy hx hy=>simp at hm;exact ajN s n x y f t a (IV x ae) (IV y ae) w Q _ (.pr s n x y f t a vx vy hx hy)|of s n x y f t a vx vy hx hy=>simp at hm;exact ajO s n x y f t a (IV x ae) w Q _ (.of s n x y f t a vx vy hx hy)|call s n x y f t a vx vy hx hy=>simp at hm;exact adW s n x y f t a (IM x y ae) w Q _ (.call s n x y f t a vx vy hx hy)|lt c s n x z f t a y vx vz hc=>
   obtain rfl|rfl:=hc;all_goals
    exact SL
  |_=>
   exact SL
def pP nd:IvC nd:=(Li<|qz nd).1 nd<|br _
def wPl_Low a0 a1 a2 N w:(method (N+1) 198 (.agg #[a0,a1,a2]) "Place").run Tryz.prog w=.ok (317,.agg #[a0,a1]) w:=qkr
def wPl_Up a0 a1 a2 N w:(method (N+1) 219 (.agg #[a0,a1,a2]) "Place").run Tryz.prog w=.ok (317,.agg #[a0,a1]) w:=qkr
def wPl_Number a0 a1 a2 N w:(method (N+1) 201 (.agg #[a0,a1,a2]) "Place").run Tryz.prog w=.ok (317,.agg #[a0,a1]) w:=qkr
def wPl_Bool a0 a1 a2 N w:(method (N+1) 204 (.agg #[a0,a1,a2]) "Place").run Tryz.prog w=.ok (317,.agg #[a0,a1]) w:=qkr
def wPl_Unit a0 a1 N w:(method (N+1) 259 (.agg #[a0,a1]) "Place").run Tryz.prog w=.ok (317,.agg #[a0,a1]) w:=qkr
def wPl_Pair a0 a1 a2 a3 N w:(method (N+1) 221 (.agg #[a0,a1,a2,a3]) "Place").run Tryz.prog w=.ok (317,.agg #[a0,a1]) w:=qkr
def wPl_Typed a0 a1 a2 a3 N w:(method (N+1) 224 (.agg #[a0,a1,a2,a3]) "Place").run Tryz.prog w=.ok (317,.agg #[a0,a1]) w:=qkr
def wPl_Fun a0 a1 a2 a3 a4 a5 N w:(method (N+1) 226 (.agg #[a0,a1,a2,a3,a4,a5]) "Place").run Tryz.prog w=.ok (317,.agg #[a0,a1]) w:=qkr
def wPl_Let a0 a1 a2 a3 a4 a5 a6 a7 N w:(method (N+1) 228 (.agg #[a0,a1,a2,a3,a4,a5,a6,a7]) "Place").run Tryz.prog w=.ok (317,.agg #[a0,a1]) w:=qkr
def wPl_If a0 a1 a2 a3 a4 N w:(method (N+1) 230 (.agg #[a0,a1,a2,a3,a4]) "Place").run Tryz.prog w=.ok (317,.agg #[a0,a1]) w:=qkr
def wPl_Match a0 a1 a2 a3 N w:(method (N+1) 233 (.agg #[a0,a1,a2,a3]) "Place").run Tryz.prog w=.ok (317,.agg #[a0,a1]) w:=qkr
def wPl_Binary a0 a1 a2 a3 a4 N w:(method (N+1) 236 (.agg #[a0,a1,a2,a3,a4]) "Place").run Tryz.prog w=.ok (317,.agg #[a0,a1]) w:=qkr
def wPl_Call a0 a1 a2 a3 N w:(method (N+1) 238 (.agg #[a0,a1,a2,a3]) "Place").run Tryz.prog w=.ok (317,.agg #[a0,a1]) w:=qkr
def wPl_Any a0 a1 N w:(method (N+1) 260 (.agg #[a0,a1]) "Place").run Tryz.prog w=.ok (317,.agg #[a0,a1]) w:=qkr
def wPl_PatternPair a0 a1 a2 a3 N w:(method (N+1) 265 (.agg #[a0,a1,a2,a3]) "Place").run Tryz.prog w=.ok (317,.agg #[a0,a1]) w:=qkr
def wPl_Made a0 a1 a2 a3 a4 a5 N w:(method (N+1) 263 (.agg #[a0,a1,a2,a3,a4,a5]) "Place").run Tryz.prog w=.ok (317,.agg #[a0,a1]) w:=qkr
abbrev PlF tx x(f t:Nat):=∀(N:Nat)(w:World),(method (N+1) tx x "Place").run Tryz.prog w=.ok (317,.agg #[.int .i64 (f:Int),.int .i64 (t:Int)]) w
def PE.place{x:Value}(h:PE w Q nd (.iface tx x)):PlF tx x (In.iJ nd) (In.xD nd):=by
 intro N w'
 cases h with
 |low=>exact wPl_Low _ _ _ _ _|up=>exact wPl_Up _ _ _ _ _|num=>exact wPl_Number _ _ _ _ _|word=>exact wPl_Bool _ _ _ _ _|unit=>exact wPl_Unit _ _ _ _|pr=>exact wPl_Pair _ _ _ _ _ _|of=>exact wPl_Typed _ _ _ _ _ _|op=>exact wPl_Binary _ _ _ _ _ _ _|call=>exact wPl_Call _ _ _ _ _ _|fn=>exact wPl_Fun _ _ _ _ _ _ _ _|lt=>exact wPl_Let _ _ _ _ _ _ _ _ _ _|ite=>exact wPl_If _ _ _ _ _ _ _|mt=>exact wPl_Match _ _ _ _ _ _
def PP.place{x:Value}(h:PP w Q nd (.iface tx x)):PlF tx x (In.iJ nd) (In.xD nd):=by
 intro N w'
 cases h with
 |any=>exact wPl_Any _ _ _ _|low=>exact wPl_Low _ _ _ _ _|num=>exact wPl_Number _ _ _ _ _|word=>exact wPl_Bool _ _ _ _ _|unit=>exact wPl_Unit _ _ _ _|pr=>exact wPl_PatternPair _ _ _ _ _ _|up=>exact wPl_Made _ _ _ _ _ _ _ _
def de f t:Cq 317 #[.agg #[Iv f,Iv t]] w λe w'=>e=.returned (.agg #[Iv f,Iv t])/\Bq w w':=by
 go_enter func317,ntmps317
 go_wp2
 exact bodyPost_ret (v:=Av #[Iv f,Iv t]) (by simp[results,Tryz.results317,go_sem]) rfl ⟨rfl,(bw _).alloc ag _⟩
end
section
open Un
def cQ{c}{z}(hk:k≠0)(h:(ba c k a b z).kind=0):c=false/\z.kind=0:=by
 rw[ba]at h
 cases c with
 |false=>exact⟨rfl,h⟩|true=>
  rw[if_pos rfl]at h;exact absurd h (VD k a b z hk).1
mutual
def YQ{ty:BA->Option Nat}{own:List BA}:∀(nd:Nd)(z:Fl),(v_ ty own nd z).kind=0->z.kind=0
 |.mk k s n L f t a,z,h=>by
  rw[v_]at h;exact(cQ aB (cQ aB<|zP L _ h).2).2
def zP{ty:BA->Option Nat}{own:List BA}:∀(l:List Nd)(z:Fl),(iP ty own l z).kind=0->z.kind=0
 |[],z,h=>h|x::l,z,h=>by rw[iP]at h;exact YQ x z<|zP l _ h
end
mutual
def afz{mk:BA->Option Nat}:∀(nd:Nd)(q:List BA×Fl),(oo mk nd q).2.kind=0->q.2.kind=0
 |.mk k s n L f t a,q,h=>by
  rw[oo]at h;split at h
  .exact(cQ aB h).2
  .exact(cQ aB<|EH L _ h).2
def EH{mk:BA->Option Nat}:∀(l:List Nd)(q:List BA×Fl),(dV mk l q).2.kind=0->q.2.kind=0
 |[],q,h=>h|x::l,q,h=>by rw[dV]at h;exact afz x q<|EH l _ h
end
mutual
def mC{ty mk:BA->Option Nat}:∀(nd:Nd)(l:List BA)(z:Fl),(dA ty mk nd l z).kind=0->z.kind=0
 |.mk k s n L f t a,l,z,h=>by
  rw[dA]at h;split at h
  .exact(cQ aB h).2
  split at h
  .exact(cQ aB h).2
  split at h
  .exact abL L _ z h
  split at h
  .exact abM L _ _ z h
  split at h
  .exact abM L _ _ z h
  split at h
  .exact ahQ L l z h
  split at h
  .exact ahR L l z h
  .exact abN L l z h
def abL{ty mk:BA->Option Nat}:∀(L:List Nd)(l:List BA)(z:Fl),(Ss ty mk L l z).kind=0->z.kind=0
 |[],l,z,h=>h|x::r,l,z,h=>mC x l z (by rw[Ss]at h;exact h)
def abM{ty mk:BA->Option Nat}:∀(L:List Nd)(l l':List BA)(z:Fl),(UB ty mk L l l' z).kind=0->z.kind=0
 |[],l,l',z,h=>h|x::r,l,l',z,h=>mC x l z (abL r l' _ (by rw[UB]at h;exact h))
def ahR{ty mk:BA->Option Nat}:∀(L:List Nd)(l:List BA)(z:Fl),(YP ty mk L l z).kind=0->z.kind=0
 |[],l,z,h=>h|[x],l,z,h=>mC x l z (by rw[YP]at h;exact h)|x::y::r,l,z,h=>mC x l z (YQ y _ (by rw[YP]at h;exact h))
def abN{ty mk:BA->Option Nat}:∀(L:List Nd)(l:List BA)(z:Fl),(hY ty mk L l z).kind=0->z.kind=0
 |[],l,z,h=>h|x::r,l,z,h=>mC x l z (abN r l _ (by rw[hY]at h;exact h))
def ahQ{ty mk:BA->Option Nat}:∀(L:List Nd)(l:List BA)(z:Fl),(YE ty mk L l z).kind=0->z.kind=0
 |[],l,z,h=>h|x::r,l,z,h=>mC x l z (EI r l _ (by rw[YE]at h;exact h))
def EI{ty mk:BA->Option Nat}:∀(L:List Nd)(l:List BA)(z:Fl),(oJ ty mk L l z).kind=0->z.kind=0
 |[],l,z,h=>h|p::r,l,z,h=>afz p ([],z) (ahS r l _ (by rw[oJ]at h;exact h))
def ahS{ty mk:BA->Option Nat}:∀(L:List Nd)(l:List BA)(q:List BA×Fl),(UC ty mk L l q).kind=0->q.2.kind=0
 |[],l,q,h=>h|e::r,l,q,h=>mC e _ q.2 (EI r l _ (by rw[UC]at h;exact h))
end
mutual
def oh:Nd->List BA
 |.mk _ s _ L _ _ _=>s::kC L
def kC:List Nd->List BA
 |[]=>[]|x::l=>oh x++kC l
end
mutual
def LL:∀nd,(oh nd).length=nn nd
 |.mk k s n L f t a=>by simp only[oh,nn,yE,DW L];omega
def DW:∀l,(kC l).length=cD l
 |[]=>rfl|x::l=>by simp only[kC,cD,lM,LL x,DW l]
end
end
section
open Go.ChangeMaps Un
def hc(nx:Nx)(ds:List Nat):Nat:=(ds.filter λn=>(nx n).isNone).length
def abm{nx}(h:iS str nx bi)ds:hc bi ds=hc nx ds:=by
 rw[hc];congr 1;apply List.filter_congr;intro x _;have:=h.BH x
 cases e:bi x<;>cases e':nx x<;>simp[e,e']at this⊢
def Pc{nx}(ha:nx a=none):∀{ds:List Nat},a∈ds->hc (jd nx a<|some b) ds<hc nx ds:=by
 have hle:∀ds:List Nat,hc (jd nx a<|some b) ds<=hc nx ds:=by
  intro ds
  induction ds with
  |nil=>exact br _|cons x l ih=>
   unfold hc at ih⊢;by_cases e:x=a
   .grind
   .have e1:jd nx a (some b) x=nx x:=by simp[jd,e]
    by_cases e2:(nx x).isNone=true
    .grind
    .grind
 intro ds h
 induction ds with
 |nil=>simp at h|cons x l ih=>
  by_cases e:x=a
  .subst e;have h1:hc (jd nx x<|some b) (x::l)=hc (jd nx x<|some b) l:=by
    unfold hc;rw[List.filter_cons_of_neg Q5]
   have h2:hc nx (x::l)=hc nx l+1:=by
    unfold hc;rw[List.filter_cons_of_pos<|by simp[ha]];simp
   have:=hle l;omega
  .have:=ih<|(List.mem_cons.1 h).resolve_left<|λq=>e q.symm;have e1:jd nx a (some b) x=nx x:=by simp[jd,e]
   unfold hc at this⊢;by_cases e2:(nx x).isNone=true
   .grind
   .grind
structure JR str nx bi x y ok:Prop where
 eqs:∀P E,jj bi P E->jj nx P E
 yes:ok=true->(∀V,mX str bi V↔mX str nx V/\V x=V y)/\(∀P,vW str nx P->vW str bi P)/\(∀P E,jj bi P E->E x y)
 no:ok=false->∀V,mX str nx V->V x≠V y
def JR.pA{nx}{ok}(h:JR str q_ bi a b ok)(e:iS str nx q_)(hx:Hd nx x a)(hy:Hd nx y b):JR str nx bi x y ok:=by
 refine⟨λP E q=>e.eqs P E<|h.eqs P E q,λhk=>?_,λhk V hV=>?_⟩
 .have⟨h1,h2,h3⟩:=h.yes hk;refine⟨λV=>?_,λP q=>h2 P<|e.nF P q,λP E q=>?_⟩
  .rw[h1 V,e.nW V];constructor
   .rintro⟨s,t⟩;exact⟨s,by rw[hx.nW s,hy.nW s];exact t⟩
   .rintro⟨s,t⟩;exact⟨s,by rw[<-hx.nW s,<-hy.nW s];exact t⟩
  .have q1:=e.eqs P E<|h.eqs P E q;exact q1.trans _ _ _ (hx.eq q1)<|q1.trans _ _ _ (h3 P E q)<|q1.symm _ _<|hy.eq q1
 .have:=h.no hk V<|(e.nW V).2 hV;rw[hx.nW hV,hy.nW hV];exact this
def JR.same str nx a:JR str nx nx a a true:=⟨λ_ _ q=>q,λ_=>⟨λV=>ag,λ_ q=>q,λP E q=>q.refl a⟩,λh=>Mp⟩
def JR.alJ{nx}(ha:nx a=none)(hs:str a=none):JR str nx (jd nx a<|some b) a b true:=
 ⟨λP E q=>(q.jB ha).1,λ_=>⟨λV=>mX.join ha,λP q=>q.var ha hs,λP E q=>(q.jB ha).2⟩,λh=>Mp⟩
def JR.alK{nx}(hb:nx b=none)(hs:str b=none):JR str nx (jd nx b<|some a) a b true:=
 ⟨λP E q=>(q.jB hb).1,λ_=>⟨λV=>(mX.join hb).trans (by constructor<;>rintro⟨s,t⟩<;>exact⟨s,t.symm⟩),λP q=>q.var hb hs,λP E q=>q.symm _ _ (q.jB hb).2⟩,λh=>Mp⟩
def JR.afv{nx}(ha:str a=some (c,l))(hb:str b=some (c',l'))(h:c≠c'\/l.length≠l'.length):JR str nx nx a b false:=by
 refine⟨λ_ _ q=>q,λh=> Mp,λ_ V s e=>?_⟩;rw[s.made a c l ha,s.made b c' l' hb]at e;injection e with e1 e2;obtain h|h:=h
 .exact h e1
 .exact h (by have:=congrArg List.length e2;simpa using this)
structure JL str nxu gY(l l':List Nat)j:Prop where
 eqs:∀P E,jj gY P E->jj nxu P E
 nW:∀V,mX str gY V↔mX str nxu V/\∀i(h:i<l.length)(h':i<l'.length),i<j->V l[i]=V l'[i]
 nF:∀P,vW str nxu P->vW str gY P
 prs:∀i(h:i<l.length)(h':i<l'.length),i<j->∀P E,jj gY P E->E l[i] l'[i]
def JL.start str nx l l':JL str nx nx l l' 0:=by
 refine⟨λ_ _ q=>q,λV=>⟨λs=>⟨s,?_⟩,λs=>s.1⟩,λ_ q=>q,?_⟩
 .omega
 .grind
def JL.step{str}{nxu gY bi}{l l'}{j}(h:JL str nxu gY l l' j)(hj:j<l.length)(hj':j<l'.length)(k:JR str gY bi l[j] l'[j] true):JL str nxu bi l l' (j+1):=by
 have⟨k1,k2,k3⟩:=k.yes rfl;refine⟨λP E q=>h.eqs P E<|k.eqs P E q,λV=>?_,λP q=>k2 P<|h.nF P q,λi hi Ag hij P E q=>?_⟩
 .rw[k1 V,h.nW V];constructor
  .rintro⟨⟨s,t⟩,u⟩;refine⟨s,λi hi Ag hij=>?_⟩;by_cases e:i=j
   .subst e;exact u
   .grind
  .grind
 .by_cases e:i=j
  .grind
  .exact h.prs i hi Ag ae P E (k.eqs P E q)
def nO(h:l.map V=l'.map V)i(hi:i<l.length)(Ag:i<l'.length):V l[i]=V l'[i]:=by
 have:=congrArg (λx=>x[i]?) h;simpa[hi,Ag]using this
def JL.done{nx}(ha:nx a=none)(hs:str a=some (c,l))(kY:str b=some (c,l'))(hl:l.length=l'.length)(h:JL str (jd nx a<|some b) gY l l' l.length):JR str nx gY a b true:=by
 refine⟨λP E q=>((h.eqs P E q).jB ha).1,λ_=>⟨λV=>?_,λP q=>?_,λP E q=>((h.eqs P E q).jB ha).2⟩,λh=>Mp⟩
 .rw[h.nW V,mX.join ha];constructor
  .grind
  .rintro⟨s,t⟩;refine⟨⟨s,t⟩,λi hi Ag _=>?_⟩;rw[s.made a c l hs,s.made b c l' kY]at t;injection t with _ t;exact nO t i hi Ag
 .have h1:=h.nF _<|q.aM ha hs kY hl;refine h1.ak_ λE hE m n hm=>?_;have⟨i,hi,e⟩:=List.getElem_of_mem hm;have hi1:i<l.length:=Ie;have rV:i<l'.length:=Ie;rw[List.getElem_zip]at e;injection e with e1 e2;subst e1;subst e2;exact h.prs i hi1 rV hi1 P E hE
def JL.fail{nx}(ha:nx a=none)(hs:str a=some (c,l))(kY:str b=some (c,l'))(h:JL str (jd nx a<|some b) gY l l' j)(hj:j<l.length)(hj':j<l'.length)(k:JR str gY bi l[j] l'[j] false):JR str nx bi a b false:=by
 refine⟨λP E q=>((h.eqs P E<|k.eqs P E q).jB ha).1,λh=> Mp,λ_ V s e=>?_⟩;have t:=e;rw[s.made a c l hs,s.made b c l' kY]at t;injection t with _ t;have s1:=(h.nW V).2 ⟨(mX.join ha).2 ⟨s,e⟩,λi hi Ag _=>nO t i hi Ag⟩;exact k.no rfl V s1 (nO t j hj hj')
def lH(h:CN c):(pn c).toList≠[]:=by
 obtain rfl|rfl|h:=h
 .rw[kP,show(ByteArray.mk #[45,62]).toList=[45,62]from toList_mk [45,62]];simp
 .rw[kQ,show(ByteArray.mk #[44]).toList=[44]from toList_mk [44]];simp
 .rw[fh h];obtain⟨x,r,e,_⟩:=h;rw[e];simp
def ahA(h:CN c)(h':CN c')(e:(pn c).toList=(pn c').toList):c=c':=by
 have f1:=toList_mk [45,62];have f2:=toList_mk [44];obtain rfl|rfl|h:=h<;>obtain rfl|rfl|h':=h'
 .rfl
 .rw[kP,kQ,f1,f2]at e;simp at e
 .rw[kP,fh h',f1]at e;exact absurd e.symm<|da h' 45 [62] aB
 .rw[kP,kQ,f1,f2]at e;simp at e
 .rfl
 .rw[kQ,fh h',f2]at e;exact absurd e.symm<|da h' 44 [] aB
 .rw[kP,fh h,f1]at e;exact absurd e<|da h 45 [62] aB
 .rw[kQ,fh h,f2]at e;exact absurd e<|da h 44 [] aB
 .rw[fh h,fh h']at e;exact toList_inj e
def VU:(Tryz.prog.info? 423).map (λi=>i.size)=some 5:=qkr
def Lu{P}{tp te}{j}(hu:P.underlying tp=some (.pointer te))(hj:P.info? te=some j)(hjs:j.size≠0)(ha:w.heap[a]? =some (.cells ca ta (0,0)))(hb:w.heap[b]? =some (.cells cb tb (0,0))):(binOp .eql tp (nA a)<|nA b).run P w=.ok (.bool<|decide (a=b)) w:=by
 have hq:(Op.equal tp (nA a)<|nA b).run P w=.ok (decide (a=b)) w:=by
  rw[Op.equal,Op.maxDepth,Op.equalIn];simp only[Sem.run_bind,run_underlying hu,Result.andThen,Go.sizeOf,Go.typeInfo,hj];by_cases e:a=b
  .subst e;simp[hjs,run_sameAddr_same,hj]
  .simp[e,hjs,hj,run_sameAddr_other w (a:=⟨a,0,none⟩) (b:=⟨b,0,none⟩) (by intro q;injection q with q;exact e q) ha hb]
 simp only[binOp];simp[hq]
def abn(ha:w.heap[a]? =some (.cells ca ta (0,0)))(hb:w.heap[b]? =some (.cells cb tb (0,0))):(binOp .eql 413 (nA a)<|nA b).run xc w=.ok (.bool<|decide (a=b)) w:=by
 have⟨j,hj,hjs⟩:=Option.map_eq_some_iff.1 VU;exact Lu qkr hj ae ha hb
def ahB{nx}(hm:h∈ds)(hn:nx h=none):0<hc nx ds:=by
 rw[hc];apply List.length_pos_of_mem (a:=h);rw[List.mem_filter];exact⟨hm,by simp[hn]⟩
section
variable {nx:Nx}
theorem iu.move{s:Option (BA×List Nat)}(h:iu w ds sa s)(hs:w.heap.size<=w'.heap.size)(hb:∀b i v,w.cell? ⟨b,i,none⟩=some v->w'.heap[b]? =w.heap[b]?):iu w' ds sa s:=by
 cases s with
 |none=>trivial|some p=>
  obtain⟨c,l⟩:=p;obtain⟨h1,h2,h3,h4⟩:=h;refine⟨h1,h2,h3,?_⟩;by_cases e:l=[]
  .exact j5 e
  .have⟨g,q1,q2,q3,q4⟩:=h4.resolve_left e;refine jz ⟨g,q1,q2,ae,λi hi=>?_⟩;have:=q4 i hi;rw[qk (a:=⟨g,i,none⟩) (w:=w)<|hb g i _ this];exact this
def iu.more{s:Option (BA×List Nat)}(h:iu w ds sa s)(hn:w.heap.size<=n):iu w (n::ds) sa s:=by
 cases s with
 |none=>trivial|some p=>
  obtain⟨c,l⟩:=p;obtain⟨h1,h2,h3,h4⟩:=h;refine⟨h1,h2,λm hm=>jl _<|h3 m hm,h4.imp id ?_⟩;rintro⟨g,q1,q2,q3,q4⟩;refine⟨g,q1,λhg=>?_,q3,q4⟩;obtain q|q:=List.mem_cons.1 hg
  .omega
  .exact q2 q
end
structure Ns where
 ds:List Nat
 str:xG
 vr:Nat->Nat
 ly:Nat->Option Addr×Nat
 ty:Nat->Ty
 vl:List Nat
def MS.r8{κ:Type}[DecidableEq κ]{enc}{L:List (κ×Value)}(h:MS enc w b L)(i:Nat):w.cell? ⟨b,i,none⟩=none:=by
 obtain⟨es,c,hb,_⟩:=h;simp[qm,hb]
def jM{i}(h:w.cell? ⟨b,i,none⟩=some v):b<w.heap.size:=by
 by_cases e:b<w.heap.size
 .exact e
 .have:w.heap[b]? =none:=Array.getElem?_eq_none ae;simp[qm,this]at h
section
variable {G:Ns}
def AX w:(zeroValue 413).run xc w=.ok (.pointer none) w:=qkr
end
def DS:(Tryz.prog.info? 413).map (λi=>(i.zero,i.size,i.bytes))=some (some<|.pointer none,1,8):=qkr
def wS:Tryz.prog.underlying 421=some (.slice 413):=qkr
def DT:∀(L:List Ty),L.length<=ak L
 |[]=>j7 _|t::l=>by have:=DT l;have:=size_pos t;simp[ak];omega
def AY{α β:Type}{E E':α->β->Prop}(h:∀a b,E a b->E' a b):∀{l:List α}{k:List β},dH E l k->dH E' l k
 |_,_,.nil=>.nil|_,_,.cons p q=>.cons (h _ _ p)<|AY h q
def Gx{α β:Type}{E:α->β->Prop}:∀{l:List α}{k:List β},dH E l k->∀i(h:i<l.length)(h':i<k.length),E l[i] k[i]
 |_,_,.nil,i,h,_=>absurd h (j9 _)|_,_,.cons p _,0,_,_=>p|_,_,.cons _ q,i+1,h,h'=>Gx q i Hn (by simpa using h')
def AZ{α β:Type}{E:α->β->Prop}:∀{l:List α}{k:List β},dH E l k->l.length=k.length
 |_,_,.nil=>rfl|_,_,.cons _ q=>by simp[AZ q]
def Fin.eqv{nx}(h:jh str nx vr F V)(e:iS str nx bi):jh str bi vr F V:=by
 intro x hx;have⟨h1,h2⟩:=h x hx;refine⟨(e.BH x).2 h1,?_⟩
 cases hs:str x with
 |none=>grind|some p=>
  obtain⟨c,l⟩:=p;rw[hs]at h2;obtain⟨kY,a,b,d⟩:=h2;exact⟨kY,AY (λx y q=>e.k_ x y q) a,b,d⟩
def mu(M:List (Nat×Value)):List Nat->Nat
 |[]=>0|x::l=>(if(a_ x M).isNone then 1 else 0)+mu M l
def Gy{M M':List (Nat×Value)}(h:∀x,a_ x M'=none->a_ x M=none):∀ds,mu M' ds<=mu M ds
 |[]=>br _|x::l=>by
  have:=Gy h l;unfold mu;by_cases e:a_ x M'=none
  .simp[e,h x e];exact this
  .have:(a_ x M').isNone=false:=by cases q:a_ x M' with
    |none=>exact absurd q e|some v=>rfl
   simp[this];omega
def abq{M:List (Nat×Value)}{h:Nat}(hn:a_ h M=none)(v:Value):∀{ds:List Nat},h∈ds->mu (bG h v M) ds<mu M ds
 |[],q=>by simp at q|x::l,q=>by
  have hm:=Gy (M:=M) (M':=bG h v M) (λy hy=>by
   rw[aN]at hy;split at hy
   .cases hy
   .exact hy)
  by_cases e:h=x
  .subst e;have:=hm l;unfold mu;rw[aN];simp[hn];omega
  .have hl:=(List.mem_cons.1 q).resolve_left e;have:=abq hn v hl;unfold mu;rw[aN];simp[e];omega
def ad7{M}:a_ x M=some v->∃p∈M,p.1=x:=by
 induction M with
 |nil=>intro h;cases h|cons p l ih=>
  intro h;rw[a_]at h;split at h
  .rename_i e;exact⟨p,ag,e⟩
  .grind
def Lz{M}{p}:p∈bG x v M->p∈M\/p.1=x:=by
 induction M with
 |nil=>intro h;simp[bG]at h;exact jz (by rw[h])|cons q l ih=>
  intro h;rw[bG]at h;split at h
  .grind
  .grind
structure SZ(ds:List Nat)str nx vr M F(B:List Nat)V:Prop where
 fin:jh str nx vr F V
 fg:∀x,F x->a_ x M=some (.int .i64 ((min (size<|V x) 49:Nat):Int))
 bg:∀x∈B,a_ x M=some (Iv 0)
 gm:∀x v,a_ x M=some v->F x\/x∈B
 kd:∀p∈M,p.1∈ds
section
variable {nx:Nx} {M:List (Nat×Value)} {B:List Nat}
def SZ.eqv(h:SZ ds str nx vr M F B V)(e:iS str nx bi):SZ ds str bi vr M F B V:=⟨Fin.eqv h.fin e,h.fg,h.bg,h.gm,h.kd⟩
def SZ.fd(h:SZ ds str nx vr M F B V)(hx:F x):x∈ds:=by
 have⟨p,h1,h2⟩:=ad7<|h.fg x hx;exact h2▸h.kd p h1
def SY T:(((min (size T) 49:Nat)):Int)≠0:=by have:=size_pos T;omega
def SZ.apart(h:SZ ds str nx vr M F B V)(hx:F x)(hb:x∈B):False:=by
 have h1:=h.fg x hx;rw[h.bg x hb]at h1;injection h1 with h1;injection h1 with _ h1;exact SY _ h1.symm
def SZ.begin(h:SZ ds str nx vr M F B V)(hd:x∈ds)(hn:a_ x M=none):SZ ds str nx vr (bG x (Iv 0) M) F (x::B) V:=by
 refine⟨h.fin,λy hy=>?_,λy hy=>?_,λy v hy=>?_,λp hp=>?_⟩
 .rw[aN,if_neg (λe=>by subst e;rw[h.fg _ hy]at hn;cases hn)];exact h.fg y hy
 .rw[aN];by_cases e:x=y
  .rw[if_pos e]
  .rw[if_neg e];exact h.bg y<|(List.mem_cons.1 hy).resolve_left<|λq=>e q.symm
 .rw[aN]at hy;by_cases e:x=y
  .grind
  .rw[if_neg e]at hy;exact(h.gm y v hy).imp id λq=>qBf
 .obtain q|q:=Lz hp
  .exact h.kd p q
  .rw[q];exact hd
def SZ.done(h:SZ ds str nx vr M F (x::B) V)(hxB:¬x∈B)(hd:x∈ds)(hn:nx x=none)T(hT:match str x with
 |none=>T=.var (vr x)|some (c,l)=>∃hs,dH (Hd nx) l hs/\(∀y,y∈hs->F y)/\T=.aM c (hs.map V)):
 SZ ds str nx vr (bG x (.int .i64 ((min (size T) 49:Nat):Int)) M) (λy=>F y\/y=x) B (jd V x T):=by
 have cV:∀y,F y->y≠x:=λy hy e=>by subst e;exact h.apart hy ag
 have ajX:∀hs:List Nat,(∀y,y∈hs->F y)->hs.map (jd V x T)=hs.map V:=λhs q=>by
  apply jx;intro y hy;simp[jd,cV y<|q y hy]
 refine⟨λy hy=>?_,λy hy=>?_,λy hy=>?_,λy v hy=>?_,λp hp=>?_⟩
 .by_cases e:y=x
  .subst e;refine⟨hn,?_⟩
   cases hs:str y with
   |none=>rw[hs]at hT;simpa[jd]using hT|some p=>
    obtain⟨c,l⟩:=p;rw[hs]at hT;obtain⟨k,a,b,d⟩:=hT;exact⟨k,a,λz hz=>j5<|b z hz,by rw[ajX k b];simp[jd,d]⟩
  .have hy':=hy.resolve_right e;have⟨h1,h2⟩:=h.fin y hy';refine⟨h1,?_⟩
   cases hs:str y with
   |none=>rw[hs]at h2;simpa[jd,e]using h2|some p=>
    obtain⟨c,l⟩:=p;rw[hs]at h2;obtain⟨k,a,b,d⟩:=h2;exact⟨k,a,λz hz=>j5<|b z hz,by rw[ajX k b];simp[jd,e,d]⟩
 .rw[aN];by_cases e:x=y
  .subst e;simp[jd]
  .rw[if_neg e];have e':y≠x:=λq=>e q.symm;simp only[jd,e',if_false];exact h.fg y<|hy.resolve_right e'
 .rw[aN,if_neg (λe:x=y=>hxB<|e▸hy)];exact h.bg y (by simp[hy])
 .rw[aN]at hy;by_cases e:x=y
  .omega
  .rw[if_neg e]at hy;obtain q|q:=h.gm y v hy
   .grind
   .grind
 .obtain q|q:=Lz hp
  .exact h.kd p q
  .rw[q];exact hd
end
abbrev Ck:Nat->Value:=λb=>Pv b
def VX:(Tryz.prog.info? 423).map (λi=>i.size)=some 5:=qkr
def abr:KL xc 413 Ck (λw b=>∃c t,w.heap[b]? =some (.cells c t (0,0))):=by
 obtain⟨j,hj,hs⟩:∃j,Tryz.prog.info? 423=some j/\j.size=5:=by
  have:=VX
  cases h:Tryz.prog.info? 423 with
  |none=>grind|some j=>grind
 exact KL.ptr Tryz.underlying413 hj ae
def A8 w ds(str:xG)(nx:Nx)(vr:Nat->Nat)(ly:Nat->Option Addr×Nat)(lv:Nat->Nat)n:=
 w.heap[n]? =some (.cells #[nP<|nx n,Nv<|lv n,Nv<|vr n,.string<|byS<|str n,.slice (ly n).1 (slN<|str n) (ly n).2] 423 (0,0))/\iu w ds (ly n).1 (str n)/\∀m,nx n=some m->m∈ds
structure GL w ds str nx vr ly lv:Prop where
 nd:∀n,n∈ds->A8 w ds str nx vr ly lv n
 out:∀n,¬n∈ds->nx n=none/\str n=none
 hd:∀n,n∈ds->∃h,Hd nx n h
def A8.cells{nx}{lv}(h:A8 w ds str nx vr ly lv n):w.cell? ⟨n,0,none⟩=some (nP<|nx n)/\w.frozen? ⟨n,0,none⟩=false/\w.cell? ⟨n,3,none⟩=some (.string<|byS<|str n)/\w.cell? ⟨n,2,none⟩=some (Nv<|vr n)/\w.cell? ⟨n,4,none⟩=some (.slice (ly n).1 (slN<|str n) (ly n).2):=by
 obtain⟨h1,_⟩:=h;exact⟨qBu,by simp[qn,h1],qBu,qBu,qBu⟩
def A8.lvl{nx}{lv}(h:A8 w ds str nx vr ly lv n):w.cell? ⟨n,1,none⟩=some (Nv<|lv n)/\w.frozen? ⟨n,1,none⟩=false:=⟨by simp[qm,h.1],by simp[qn,h.1]⟩
def S7{p:Prop}(h:p:=by
 cases hs:str x with
 |none=>trivial|some p=>
  obtain⟨c,l⟩:=p;rw[hs]at h2;obtain⟨p1,p2,p3,p4⟩:=h2;refine⟨p1,p2,p3,p4.imp id λq=>?_⟩;obtain⟨g,q1,q2,q3,q4⟩:=q;refine⟨g,q1,q2,by simpa[ql]using q3,λi hi=>?_⟩;rw[World.cell?_setCell_other _ _ _ _ (by intro e;injection e with e;subst e;exact q2 hn)]
  exact q4 i hi):p:=h
def GL.set{nx}{lv}(h:GL w ds str nx vr ly lv)(hn:n∈ds)(hk:k∈ds)(hhd:∀x,x∈ds->∃y,Hd (jd nx n<|some k) x y):GL (w.setCell ⟨n,0,none⟩<|nA k) ds str (jd nx n<|some k) vr ly lv:=by
 refine⟨λx hx=>?_,λx hx=>?_,hhd⟩
 .have⟨h1,h2,h3⟩:=h.nd x hx;have hp:iu (w.setCell ⟨n,0,none⟩<|nA k) ds (ly x).1 (str x):=by
   exact S7
  by_cases e:x=n
  .subst e;refine⟨(dK h1 0 _).trans<|by simp[jd,nP],hp,λm hm=>?_⟩;simp[jd]at hm;subst hm;exact hk
  .refine⟨?_,hp,λm hm=>h3 m<|by simpa[jd,e]using hm⟩;rw[qx _ _ _ _ e,h1];simp[jd,e]
 .have:x≠n:=λe=>hx<|e▸hn;simpa[jd,this]using h.out x hx
def GL.VY{nx}{lv}(h:GL w ds str nx vr ly lv)(hn:n∈ds)L:GL (w.setCell ⟨n,1,none⟩<|Nv L) ds str nx vr ly (jd lv n L):=by
 refine⟨λx hx=>?_,h.out,h.hd⟩;have⟨h1,h2,h3⟩:=h.nd x hx;have hp:iu (w.setCell ⟨n,1,none⟩<|Nv L) ds (ly x).1 (str x):=by
  exact S7
 by_cases e:x=n
 .subst e;refine⟨(dK h1 1 _).trans Q5,hp,h3⟩
 .refine⟨?_,hp,h3⟩;rw[qx _ _ _ _ e,h1];simp[jd,e]
def VZ ds str nx vr ly lv h w(e:Ending)w':=
 e=.returned (nA h)/\∃bi,GL w' ds str bi vr ly lv/\Fr (λb=>b∈ds) w w'/\iS str nx bi/\w'.heap.size=w.heap.size
def abt ds str nx vr ly lv h w gk v wr:=
 ∃n bi,v=nA n/\n∈ds/\Lt bi n h gk/\GL wr ds str bi vr ly lv/\Fr (λb=>b∈ds) w wr/\iS str nx bi/\wr.heap.size=w.heap.size
section
variable {nx:Nx} {lv:Nat->Nat}
def r9(hg:GL w ds str nx vr ly lv)(hn:n∈ds)(hh:Hd nx n h):Cq 290 #[nA n] w (VZ ds str nx vr ly lv h w):=by
 have⟨j0,hj0⟩:=Hd.len hh;have HJ:=ai hj0;clear hj0 hh;go_enter func290,ntmps290
 go_wp2
 go_loopg[0] j0 (λgk v wr=>abt ds str nx vr ly lv h w gk v wr)
 case atStart=>exact⟨n,nx,rfl,hn,HJ,hg,Fr.refl _ _,iS.refl _ _,rfl⟩
 case round=>
  clear hg HJ;obtain⟨n1,e_,rfl,Mw,hl1,G1,F1,E1,z1⟩:=hrel;have⟨c0,f0,_⟩:=(G1.nd n1 Mw).cells
  cases hl1 with
  |here e0=>
   rw[e0]at c0;have c0':wr.cell? ⟨h,0,none⟩=some (.pointer none):=c0;clear c0
   go_wp2
   go_ret;exact⟨rfl,e_,G1,F1,E1,z1⟩
  | @step _ m _ k e0 hlm=>
    have hm:m∈ds:=by
     have⟨_,_,h3⟩:=G1.nd n1 Mw;exact h3 m e0
    have cV:n1≠m:=λq=>by subst q;have:=(Lt.step e0 hlm).one hlm;omega
    rw[e0]at c0;have c0':wr.cell? ⟨n1,0,none⟩=some (Pv m):=c0;have⟨d0,_⟩:=(G1.nd m hm).cells;clear c0
    cases hlm with
    |here e1=>
     rw[e1]at d0;have d0':wr.cell? ⟨h,0,none⟩=some (.pointer none):=d0;clear d0
     go_wp2
     go_roundg 0
     case measure=>omega
     case rel=>exact⟨h,e_,rfl,hm,.here e1,G1,F1,E1,z1⟩
    | @step _ m2 _ k2 e1 Kd=>
      rw[e1]at d0;have d0':wr.cell? ⟨m,0,none⟩=some (Pv m2):=d0;have hm2:m2∈ds:=by
       have⟨_,_,h3⟩:=G1.nd m hm;exact h3 m2 e1
      clear d0;have hnm:¬m=n1:=λq=>cV q.symm
      go_wp2
      go_roundg k2
      case measure=>omega
      case rel=>
       refine⟨m2,jd e_ n1<|some m2,rfl,hm2,Kd.eu (Lt.step e0<|Lt.step e1 Kd) ae _,G1.set Mw hm2<|λx hx=>?_,F1.set (j5 Mw) 0 _,E1.trans<|iS.short str e0 e1 cV,by simp[ql];exact z1⟩;have⟨y,hy⟩:=G1.hd x hx;exact⟨y,hy.short e0 e1⟩
end
structure kU(str:xG)(nx:Nx)(ds:List Nat)(lv cB:Nat->Nat)n L(D:Nat->Prop):Prop where
 up:∀m,D m->m∈ds/\nx m=none/\L<lv m/\cB m=L
 no:∀m,¬D m->cB m=lv m
 hd:∀h,Hd nx n h->D h\/lv h<=L
 cl:∀a,D a->∀c l,str a=some (c,l)->∀p,p∈l->∀h,Hd nx p h->D h\/lv h<=L
 re:∀R:Nat->Prop,(∀h,Hd nx n h->R h)->(∀a c l p h,R a->str a=some (c,l)->p∈l->Hd nx p h->R h)->∀a,D a->R a
structure xS(str:xG)(nx:Nx)(ds:List Nat)(lv l9:Nat->Nat)h(l:List Nat)L(D:Nat->Prop):Prop where
 own:D h
 up:∀m,D m->m∈ds/\nx m=none/\L<lv m/\l9 m=L
 no:∀m,¬D m->l9 m=lv m
 pt:∀p,p∈l->∀k,Hd nx p k->D k\/lv k<=L
 cl:∀a,D a->a≠h->∀c l,str a=some (c,l)->∀p,p∈l->∀k,Hd nx p k->D k\/lv k<=L
 re:∀R:Nat->Prop,R h->(∀a c l p k,R a->str a=some (c,l)->p∈l->Hd nx p k->R k)->∀a,D a->R a
section
variable {nx:Nx} {lv l9:Nat->Nat} {L:Nat} {E:Nat->Prop}
def kU.nil(hh:Hd nx n h)(hl:lv h<=L):kU str nx ds lv lv n L (λ_=>False):=
 ⟨λ_ q=>q.elim,λ_ _=>rfl,λk q=>jz (by rw[q.one hh];exact hl),λ_ q=>q.elim,λ_ _ _ _ q=>q.elim⟩
def xS.start(hd:h∈ds)(hn:nx h=none)(hl:L<lv h):xS str nx ds lv (jd lv h L) h [] L (λm=>m=h):=
 ⟨rfl,λm q=>by subst q;exact⟨hd,hn,hl,Q5⟩,λm q=>by simp[jd,q],λp q=>by simp at q,λa q r=>absurd q r,λR q _ a r=>by subst r;exact q⟩
def xS.step{p}{c}{l0}(hs:str h=some (c,l0))(hp:p∈l0)(k:xS str nx ds lv l9 h l L D)(q:kU str nx ds l9 cB p L E):xS str nx ds lv cB h (l++[p]) L (λm=>D m\/E m):=by
 have dis:∀m,E m->¬D m:=λm e d=>by have:=(q.up m e).2.2.1;have:=(k.up m d).2.2.2;omega
 have low:∀x,l9 x<=L->D x\/lv x<=L:=λx hx=>by
  by_cases d:D x
  .exact j5 d
  .exact jz (by rw[<-k.no x d];exact hx)
 refine⟨j5 k.own,λm e=>?_,λm e=>?_,λp' l8 x hx=>?_,λa e ne c' l' kY p' l8 x hx=>?_,λR r1 r2 a e=>?_⟩
 .by_cases d:E m
  .have⟨u1,u2,u3,u4⟩:=q.up m d;exact⟨u1,u2,by rw[<-k.no m (dis m d)];exact u3,u4⟩
  .have⟨u1,u2,u3,u4⟩:=k.up m<|e.resolve_right d;exact⟨u1,u2,u3,(q.no m d).trans u4⟩
 .rw[q.no m<|λd=>e<|jz d,k.no m<|λd=>e<|j5 d]
 .obtain l8|l8:=List.mem_append.1 l8
  .exact(k.pt p' l8 x hx).imp j5 id
  .simp at l8;subst l8;obtain r|r:=q.hd x hx
   .grind
   .grind
 .obtain d|d:=e
  .exact(k.cl a d ne c' l' kY p' l8 x hx).imp j5 id
  .obtain r|r:=q.cl a d c' l' kY p' l8 x hx
   .grind
   .grind
 .obtain d|d:=e
  .exact k.re R r1 r2 a d
  .exact q.re R (λx hx=>r2 h c l0 p x r1 hs hp hx) r2 a d
def xS.done{l0}(hh:Hd nx n h)(hs:str h=some (c,l0))(k:xS str nx ds lv l9 h l0 L D):kU str nx ds lv l9 n L D:=by
 refine⟨k.up,k.no,λx hx=>j5 (by rw[hx.one hh];exact k.own),λa d c' l' kY p hp x hx=>?_,λR r1 r2 a d=>k.re R (r1 h hh) r2 a d⟩;by_cases e:a=h
 .subst e;rw[hs]at kY;injection kY with kY;injection kY with _ e2;subst e2;exact k.pt p hp x hx
 .exact k.cl a d e c' l' kY p hp x hx
def xS.abu(hh:Hd nx n h)(hs:str h=none)(k:xS str nx ds lv l9 h [] L D):kU str nx ds lv l9 n L D:=by
 refine⟨k.up,k.no,λx hx=>j5 (by rw[hx.one hh];exact k.own),λa d c' l' kY p hp x hx=>?_,λR r1 r2 a d=>k.re R (r1 h hh) r2 a d⟩;by_cases e:a=h
 .grind
 .exact k.cl a d e c' l' kY p hp x hx
end
def dp(ds:List Nat)(lv:Nat->Nat)L:=ds.countP λm=>decide (L<lv m)
def afx{lv}{L:Nat}(h:∀m,L<cB m->L<lv m):dp ds cB L<=dp ds lv L:=List.countP_mono_left λm _ q=>by simpa using h m (by simpa using q)
def afy{lv cB:Nat->Nat}{L x:Nat}(h:∀m,L<cB m->L<lv m)(hx:L<lv x)(Gt:¬L<cB x):∀{ds:List Nat},x∈ds->dp ds cB L<dp ds lv L
 |a::ds,hm=>by
  unfold dp;rw[jy,jy];have hle:ds.countP (λm=>decide (L<cB m))<=ds.countP (λm=>decide (L<lv m)):=afx h;by_cases e:a=x
  .subst e;simp[hx,Gt];omega
  .have:=afy h hx Gt (ds:=ds) (by obtain q|q:=List.mem_cons.1 hm;exact absurd q.symm e;exact q);unfold dp at this;by_cases q:L<cB a
   .simp[q,h a q];omega
   .by_cases q2:L<lv a
    .simp[q,q2];omega
    .simp[q,q2];omega
def iS.back{nx}{lv}(g:GL w ds str nx vr ly lv)(e:iS str nx bi)(k:Hd bi x h):Hd nx x h:=by
 by_cases hx:x∈ds
 .have⟨y,hy⟩:=g.hd x hx;rw[k.one<|e.k_ x y hy];exact hy
 .have h0:Hd nx x x:=.here (g.out x hx).1;rw[k.one<|e.k_ x x h0];exact h0
def kU.eqv{nx}{lv0 lv}{L:Nat}(g:GL w ds str nx vr ly lv0)(e:iS str nx bi)(q:kU str bi ds lv cB n L D):kU str nx ds lv cB n L D:=
 ⟨λm d=>⟨(q.up m d).1,(e.BH m).1 (q.up m d).2.1,(q.up m d).2.2⟩,q.no,λh k=>q.hd h<|e.k_ _ _ k,λa d c l hs p hp h k=>q.cl a d c l hs p hp h<|e.k_ _ _ k,λR r1 r2=>q.re R (λh k=>r1 h<|e.back g k)<|λa c l p h ra hs hp k=>r2 a c l p h ra hs hp<|e.back g k⟩
def LA ds str nx vr ly lv n L w(e:Ending)w':=
 e=.returned (.tuple #[])/\∃bi cB D,GL w' ds str bi vr ly cB/\Fr (λb=>b∈ds) w w'/\iS str nx bi/\w'.heap.size=w.heap.size/\kU str nx ds lv cB n L D
def ahC ds str vr ly k:=∀(w:World)(nx:Nx)(lv:Nat->Nat)(n L:Nat),GL w ds str nx vr ly lv->n∈ds->dp ds lv L<=k->Cq 287 #[nA n,Nv L] w (LA ds str nx vr ly lv n L w)
def ahD ds str nx vr ly lv h L(l:List Nat)w gk v wr:=
 ∃j gY l9 D,Hid (gk=l.length-j)/\j<=l.length/\v=Nv j/\GL wr ds str gY vr ly l9/\Fr (λb=>b∈ds) w wr/\iS str nx gY/\wr.heap.size=w.heap.size/\xS str nx ds lv l9 h (l.take j) L D
def GL.row{nx}{lv}(g:GL w ds str nx vr ly lv)(ha:a∈ds)(hs:str a=some (c,l))(hj:j<l.length):∃ga,(ly a).1=some ⟨ga,0,none⟩/\w.cell? ⟨ga,j,none⟩=some (nA l[j])/\¬ga∈ds:=by
 have⟨_,h2,_⟩:=g.nd a ha;rw[hs]at h2;obtain⟨_,_,_,p4⟩:=h2;have⟨ga,q1,q2,_,q4⟩:=p4.resolve_left (λe=>by subst e;simp at hj);exact⟨ga,q1,q4 j hj,q2⟩
def GL.part{nx}{lv}(g:GL w ds str nx vr ly lv)(ha:a∈ds)(hs:str a=some (c,l)):l.length<=1001/\∀m∈l,m∈ds:=by
 have⟨_,h2,_⟩:=g.nd a ha;rw[hs]at h2;exact⟨h2.2.1,h2.2.2.1⟩
def GL.bN{nx}{lv}(g:GL w ds str nx vr ly lv)(hn:n∈ds)(k:Hd nx n h):h∈ds:=by
 induction k with
 |here=>exact hn|step e _ ih=>exact ih<|(g.nd _ hn).2.2 _ e
def Pe(IH:∀i,i<k->ahC ds str vr ly i):ahC ds str vr ly k:=by
 intro w nx lv n L Hq hn hk;have⟨h,hh⟩:=Hq.hd n hn;have hm:=Hq.bN hn hh;have HC:=r9 Hq hn hh;go_enter func287,ntmps287;go_wp2_with fail;refine HC.mono ?_;rintro e w1⟨rfl,e_,HG,F1,E1',z1⟩;have⟨c1,f1⟩:=(HG.nd h hm).lvl;have Mw:nx h=none:=hh.head;by_cases hle:lv h<=L
 .have hd:(lv h:Int)<=(L:Int):=ae
  go_wp2
  go_end0;exact⟨rfl,e_,lv,_,HG,F1,E1',z1,kU.nil hh hle⟩
 .have hd:¬(lv h:Int)<=(L:Int):=ae;have G2:=HG.VY hm L;have⟨_,_,_,_,c4⟩:=(HG.nd h hm).cells;have F2:Hid (Fr (λb=>b∈ds) w<|w1.setCell ⟨h,1,none⟩<|Nv L):=ai<|F1.set (j5 hm) 1 _;have MW:=ai G2;have Z1:=z1;have J0:Hid (xS str nx ds lv (jd lv h L) h [] L<|λm=>m=h):=ai<|xS.start hm Mw ae
  cases hs:str h with
  |none=>
   have c4':w1.cell? ⟨h,4,none⟩=some (.slice (ly h).1 0 (ly h).2):=by rw[c4,hs];rfl
   go_wp2
   go_loopg[23] 0 (λgk v wr=>v=Iv 0/\wr=w1.setCell ⟨h,1,none⟩ (Nv L))
   case atStart=>exact⟨rfl,rfl⟩
   case round=>
    obtain⟨rfl,rfl⟩:=hrel
    go_wp2
    go_end0;exact⟨rfl,e_,_,_,uh MW,uh F2,E1',qAz,(uh J0).abu hh hs⟩
  |some q=>
   obtain⟨c,l⟩:=q;have c4':w1.cell? ⟨h,4,none⟩=some (.slice (ly h).1 l.length (ly h).2):=by rw[c4,hs];rfl
   have⟨hl1,Kd⟩:=Hq.part hm hs;have hdp:dp ds (jd lv h L) L<dp ds lv L:=afy (x:=h) (λm q=>by by_cases e:m=h;subst e;simp[jd]at q;simpa[jd,e]using q) ae Q5 hm;by_cases Cu:l=[]
   .subst Cu;have alL:=c4'
    go_wp2
    go_loopg[23] 0 (λgk v wr=>v=Iv 0/\wr=w1.setCell ⟨h,1,none⟩ (Nv L))
    case atStart=>exact⟨rfl,rfl⟩
    case round=>
     obtain⟨rfl,rfl⟩:=hrel
     go_wp2
     go_end0;exact⟨rfl,e_,_,_,uh MW,uh F2,E1',qAz,(uh J0).done hh hs⟩
   have⟨ga,EGA,_,_⟩:=Hq.row hm hs<|List.length_pos_iff.2 Cu;rw[EGA]at c4'
   go_wp2
   go_loopg[23] l.length (λgk v wr=>ahD ds str nx vr ly lv h L l w gk v wr)
   case atStart=>exact⟨0,e_,_,_,ai ag,j7 _,rfl,uh MW,uh F2,E1',qAz,by simpa using uh J0⟩
   case round=>
    obtain⟨j,gY,l9,D,dl,hj,rfl,Gj,FJ,EJ,ZJ,JJ⟩:=hrel;by_cases bm:j<l.length
    .have bA:(j:Int)<(l.length:Int):=ae;have It:(0:Int)<=(j:Int):=ae;have⟨ga',e1,cg,_⟩:=Gj.row hm hs bm;have e2:=e1.symm.trans EGA;injection e2 with e2;injection e2 with e2;subst e2
     have HCJ:=IH (dp ds (jd lv h L) L) ae wr gY l9 l[j] L Gj (Kd _<|jk bm) (afx λm q=>by
      by_cases d:D m
      .have:=(JJ.up m d).2.2.2;omega
      .have e:m≠h:=λe=>d<|e▸JJ.own;simp only[jd,e,if_false]
       rw[<-JJ.no m d];exact q)
     go_wp2_with fail;refine HCJ.mono ?_;rintro e w2⟨rfl,q_,mQ,D2,HG,F2,E2,z2,q2⟩;have HF:=FJ.trans F2;have HE:=EJ.trans E2;have HZ:=z2.trans ZJ;have HJ2:=JJ.step hs (jk bm)<|q2.eqv Hq EJ
     go_wp2
     go_roundg(l.length-(j+1))
     case measure=>rw[uh dl];omega
     case rel=>exact⟨j+1,q_,mQ,_,ai rfl,Nat.succ_le_of_lt bm,jP,HG,HF,HE,HZ,by rw[jo bm];exact HJ2⟩
    .have bA:decide ((j:Int)<(l.length:Int))=false:=bF;have ej:j=l.length:=ae;subst ej;rw[jq]at JJ;have HX:=show LA ds str nx vr ly lv n L w (Rv<|.tuple #[]) wr from⟨rfl,gY,l9,D,Gj,FJ,EJ,ZJ,JJ.done hh hs⟩
     go_wp2
     go_end0;exact HX
def Gz:∀k,ahC ds str vr ly k:=λk=>qe k λk ih=>Pe ih
def LC(str:xG)(ds:List Nat)nx(lv:Nat->Nat):=∀a,a∈ds->nx a=none->∀c l,str a=some (c,l)->∀p,p∈l->∀h,Hd nx p h->lv h<=lv a
structure wU str(ds:List Nat)nx(lv:Nat->Nat)bi(cB:Nat->Nat):Prop where
 mono:∀m,m∈ds->∀h h',Hd nx m h->Hd bi m h'->cB h'<=lv h
 lc:LC str ds nx lv->LC str ds bi cB
 low:∀(i:Nat)(U:Nat->Ty),mX str bi U->∀Lw:Ty->Prop,(∀c ts,Lw (.aM c ts)->∀t∈ts,Lw t)->(∀m,m∈ds->∀h,Hd nx m h->lv h<=i->Lw (U m))->∀m,m∈ds->∀h,Hd bi m h->cB h<=i->Lw (U m)
 gr:∀n,bi n=none->nx n=none
section
variable {nx:Nx} {lv:Nat->Nat}
def wU.trans(h:wU str ds nx lv e_ sq)(k:wU str ds e_ sq q_ mQ)(hd:∀m,m∈ds->∃x,Hd e_ m x)(hs:∀U,mX str q_ U->mX str e_ U):wU str ds nx lv q_ mQ:=
 ⟨λm hm a c ka kc=>by
  have⟨b,kb⟩:=hd m hm
  exact j6 (k.mono m hm b c kb kc)<|h.mono m hm a b ka kb,λq=>k.lc<|h.lc q,λi U hU Lw hc q=>k.low i U hU Lw hc<|h.low i U (hs U hU) Lw hc q,λn q=>h.gr n<|k.gr n q⟩
def wU.eqv(g:GL w ds str nx vr ly sq)(e:iS str nx e_):wU str ds nx lv e_ lv:=by
 refine⟨λm _ h h' k k'=>?_,λq a ha hn c l hs p hp h k=>?_,λi U hU Lw hc q m hm h k hl=>q m hm h (e.back g k) hl,λn q=>(e.BH n).1 q⟩
 .rw[k'.one<|e.k_ _ _ k];exact br _
 .exact q a ha ((e.BH a).1 hn) c l hs p hp h (e.back g k)
def kU.fwd{L:Nat}(g:GL w ds str nx vr ly mQ)(e:iS str nx e_)(q:kU str nx ds lv sq n L D):kU str e_ ds lv sq n L D:=
 ⟨λm d=>⟨(q.up m d).1,(e.BH m).2 (q.up m d).2.1,(q.up m d).2.2⟩,q.no,λh k=>q.hd h<|e.back g k,λa d c l hs p hp h k=>q.cl a d c l hs p hp h<|e.back g k,λR r1 r2=>q.re R (λh k=>r1 h<|e.k_ _ _ k)<|λa c l p h ra hs hp k=>r2 a c l p h ra hs hp<|e.k_ _ _ k⟩
def kU.le{L:Nat}(q:kU str nx ds lv sq n L D)m:sq m<=lv m:=by
 by_cases d:D m
 .have:=q.up m d;omega
 .rw[q.no m d];exact br _
def kU.lc{L:Nat}(q:kU str nx ds lv sq n L D)(h:LC str ds nx lv):LC str ds nx sq:=λa ha hn c l hs p hp k hk=>by
 have h0:=h a ha hn c l hs p hp k hk;by_cases d:D a
 .rw[(q.up a d).2.2.2];obtain r|r:=q.cl a d c l hs p hp k hk
  .rw[(q.up k r).2.2.2];exact br _
  .exact j6 (q.le k) r
 .rw[q.no a d];exact j6 (q.le k) h0
def kU.low{n L:Nat}{D:Nat->Prop}(q:kU str nx ds lv sq n L D){i}{U:Nat->Ty}(hU:mX str nx U){Lw:Ty->Prop}(hc:∀c ts,Lw (.aM c ts)->∀t∈ts,Lw t)(hb:∀m,m∈ds->∀h,Hd nx m h->lv h<=i->Lw (U m))(hn:L<=i->Lw (U n)):∀m,m∈ds->∀h,Hd nx m h->sq h<=i->Lw (U m):=λm hm h hh hl=>by
 by_cases d:D h
 .have hL:L<=i:=by rw[(q.up h d).2.2.2]at hl;exact hl
  rw[hh.nW hU];refine q.re (λx=>Lw<|U x) (λx hx=>by rw[<-hx.nW hU];exact hn hL) (λa c l p k ra hs hp hk=>?_) h d;rw[<-hk.nW hU];rw[hU.made a c l hs]at ra;exact hc c _ ra _<|List.mem_map_of_mem hp
 .rw[q.no h d]at hl;exact hb m hm h hh hl
structure r_ str nx ds lv mQ a b:Prop where
 x:∃sq D1 D2,kU str nx ds lv sq a (lv b) D1/\kU str nx ds sq mQ b (sq a) D2
def r_.lvs(h:r_ str nx ds lv mQ a b)(ha:nx a=none)(hb:nx b=none):mQ a<=lv a/\mQ a<=lv b/\mQ b<=lv a/\mQ b<=lv b/\mQ a=mQ b:=by
 have⟨sq,D1,D2,q1,q2⟩:=h.x;have n1:=q1.no b (λd=>by have:=(q1.up b d).2.2.1;omega);have n2:=q2.no a (λd=>by have:=(q2.up a d).2.2.1;omega);have l1:sq a<=lv b:=by
  obtain d|d:=q1.hd a<|.here ha
  .rw[(q1.up a d).2.2.2];exact br _
  .exact j6 (q1.le a) d
 have l1a:=q1.le a;have l2:mQ b=sq a:=by
  by_cases d:D2 b
  .exact(q2.up b d).2.2.2
  .have h2:=(q2.hd b<|.here hb).resolve_left d;rw[q2.no b d];omega
 omega
def r_.lc(h:r_ str nx ds lv mQ a b)(k:LC str ds nx lv):LC str ds nx mQ:=by
 have⟨sq,D1,D2,q1,q2⟩:=h.x;exact q2.lc<|q1.lc k
def r_.le(h:r_ str nx ds lv mQ a b)m:mQ m<=lv m:=by
 have⟨sq,D1,D2,q1,q2⟩:=h.x;exact j6 (q2.le m)<|q1.le m
def r_.low(h:r_ str nx ds lv mQ a b)(ha:a∈ds)(hb:b∈ds)(na:nx a=none)(nb:nx b=none){i}{U}(hU:mX str nx U)(oa:U a=U b){Lw:Ty->Prop}(hc:∀c ts,Lw (.aM c ts)->∀t∈ts,Lw t)(hB:∀m,m∈ds->∀h,Hd nx m h->lv h<=i->Lw (U m)):∀m,m∈ds->∀h,Hd nx m h->mQ h<=i->Lw (U m):=by
 have⟨sq,D1,D2,q1,q2⟩:=h.x;have s1:=q1.low hU hc hB (λq=>by rw[oa];exact hB b hb b (.here nb) q);exact q2.low hU hc s1 (λq=>by rw[<-oa];exact s1 a ha a (.here na) q)
def lI{h'}(na:nx a=none)(nb:nx b=none)(oa:a≠b)(hh:Hd nx x h)(k:Hd (jd nx a<|some b) x h'):h'=if h=a then b else h:=k.one<|hh.join na nb oa
def kV(nx0:nx x=none)(hU:mX str (jd nx x<|some y) U):mX str nx U:=by
 refine⟨hU.made,λn m e=>hU.bD n m ?_⟩;have cV:n≠x:=λr=>by subst r;rw[nx0]at e;cases e
 simpa[jd,cV]using e
def wU.link(h:r_ str nx ds lv mQ a b)(ha:a∈ds)(hb:b∈ds)(na:nx a=none)(nb:nx b=none)(oa:a≠b)(hd:∀m,m∈ds->∃x,Hd nx m x)(hp:∀a,a∈ds->∀c l,str a=some (c,l)->∀m∈l,m∈ds):wU str ds nx lv (jd nx a<|some b) mQ:=by
 have⟨l1,l2,l3,l4,l5⟩:=h.lvs na nb;refine⟨λm hm x x' k k'=>?_,λq e he hn c l hs p Xh x' k'=>?_,λi U hU Lw hc hB m hm x' k' hl=>?_,λn q=>by by_cases e:n=a;subst e;exact na;simpa[jd,e]using q⟩
 .rw[lI na nb oa k k'];split
  .rename_i e;rw[e];exact l3
  .exact h.le x
 .have cV:e≠a:=λr=>by subst r;simp[jd]at hn
  have hn0:nx e=none:=by simpa[jd,cV]using hn
  have⟨x,k⟩:=hd p<|hp e he c l hs p Xh;have:=h.lc q e he hn0 c l hs p Xh x k;rw[lI na nb oa k k'];split
  .rename_i r;rw[r]at this;omega
  .exact this
 .have hS:=kV na hU;have abv:=hU.bD a b Q5;have hL:=h.low ha hb na nb hS abv hc hB;have⟨x,k⟩:=hd m hm;rw[lI na nb oa k k']at hl;split at hl
  .rename_i r;subst r;rw[k.nW hS,abv];exact hL b hb b (.here nb) hl
  .exact hL m hm x k hl
def wU.abw(h:r_ str nx ds lv mQ a b)(ha:a∈ds)(hb:b∈ds)(na:nx a=none)(nb:nx b=none)(oa:a≠b)(hd:∀m,m∈ds->∃x,Hd nx m x)(hp:∀a,a∈ds->∀c l,str a=some (c,l)->∀m∈l,m∈ds):wU str ds nx lv (jd nx b<|some a) mQ:=by
 have⟨l1,l2,l3,l4,l5⟩:=h.lvs na nb;refine⟨λm hm x x' k k'=>?_,λq e he hn c l hs p Xh x' k'=>?_,λi U hU Lw hc hB m hm x' k' hl=>?_,λn q=>by by_cases e:n=b;subst e;exact nb;simpa[jd,e]using q⟩
 .rw[lI nb na (Ne.symm oa) k k'];split
  .rename_i e;rw[e];exact l2
  .exact h.le x
 .have cV:e≠b:=λr=>by subst r;simp[jd]at hn
  have hn0:nx e=none:=by simpa[jd,cV]using hn
  have⟨x,k⟩:=hd p<|hp e he c l hs p Xh;have:=h.lc q e he hn0 c l hs p Xh x k;rw[lI nb na (Ne.symm oa) k k'];split
  .rename_i r;rw[r]at this;omega
  .exact this
 .have hS:=kV nb hU;have abv:=hU.bD b a Q5;have hL:=h.low ha hb na nb hS abv.symm hc hB;have⟨x,k⟩:=hd m hm;rw[lI nb na (Ne.symm oa) k k']at hl;split at hl
  .rename_i r;subst r;rw[k.nW hS,abv];exact hL a ha a (.here na) hl
  .exact hL m hm x k hl
end
structure JG(ds:List Nat)(str:xG)nx(vr:Nat->Nat):Prop where
 Pf:∀n,∃h,Hd nx n h
 k_:∀n h,n∈ds->Hd nx n h->h∈ds
 Xi:∀a c l,a∈ds->str a=some (c,l)->∀p,p∈l->p∈ds
 inj:∀a b,a∈ds->b∈ds->str a=none->str b=none->vr a=vr b->a=b
 nF:vW str nx []
def Can(str:xG)nx(vr:Nat->Nat)(V:Nat->Ty):=∀n h,Hd nx n h->V n=match str h with
 |none=>.var (vr h)|some (c,l)=>.aM c<|l.map V
section
variable {nx:Nx} {W:Nat->Ty}
def JG.eq(g:JG ds str nx vr):jj nx [] (y_ nx):=y_.is λn _ _=>g.Pf n
def Can.same(hV:Can str nx vr V){m}(k:y_ nx m n):V m=V n:=by
 obtain rfl|⟨h,a,b⟩:=k
 .rfl
 .rw[hV m h a,hV n h b]
def Pg(g:JG ds str nx vr)(k:Hd nx n h):∀{c l},str n=some (c,l)->∃l',str h=some (c,l')/\dH (y_ nx) l l':=by
 induction k with
 |here e=>exact λ{c l}hs=>⟨l,hs,sL g.eq.refl l⟩|step e _ ih=>
  intro c l hs;have⟨l1,h1,h2⟩:=g.nF _ g.eq _ _ c l e hs;have⟨l2,h3,h4⟩:=ih h1;exact⟨l2,h3,lN g.eq.trans h2 h4⟩
def Can.nW(g:JG ds str nx vr)(hV:Can str nx vr V):mX str nx V:=by
 refine⟨λn c l hs=>?_,λn m e=>?_⟩
 .have⟨h,k⟩:=g.Pf n;have⟨l',h1,h2⟩:=Pg g k hs;have:=hV n h k;rw[h1]at this;rw[this];show xd c (l'.map V)=xd c (l.map V);rw[vY (λa b q=>hV.same q) h2]
 .have⟨h,k⟩:=g.Pf n;exact hV.same<|jz ⟨h,k,k.sM e⟩
noncomputable def V0 (nx:Nx) (n:Nat):Nat:=by
 classical
 exact if h:∃x,Hd nx n x then h.choose else n
theorem pB(k:Hd nx n h):V0 nx n=h:=by
 rw[V0];have q:∃x,Hd nx n x:=⟨h,k⟩;rw[dif_pos q];exact q.choose_spec.one k
noncomputable def vK (str:xG) (nx:Nx) (vr:Nat->Nat):Nat->Nat->Ty
 |0,_=>.var 0
 |k+1,n=>match str (V0 nx n)with
  |none=>.var (vr<|V0 nx n)|some (c,l)=>.aM c<|l.map<|vK str nx vr k
def jY{p}(hp:p∈l):size (U p)<size (.aM c<|l.map U):=by
 have:=ni (V:=U) hp;simp only[size];omega
def abx{U:Nat->Ty}(g:JG ds str nx vr)(hU:mX str nx U):∀k k' n,size (U n)<=k->size (U n)<=k'->vK str nx vr k n=vK str nx vr k' n
 |0,_,n,h,_=>by have:=size_pos<|U n;omega|_+1,0,n,_,h=>by have:=size_pos<|U n;omega|k+1,k'+1,n,h,h'=>by
  have⟨x,hx⟩:=g.Pf n;simp only[vK,pB hx]
  cases hs:str x with
  |none=>rfl|some q=>
   obtain⟨c,l⟩:=q;have e:=(hx.nW hU).trans<|hU.made x c l hs;show xd c _=xd c _;congr 1;refine eC λp hp=>abx g hU k k' p ?_ ?_;all_goals have:=jY (c:=c) (U:=U) hp;rw[<-e]at this;omega
def ahE(g:JG ds str nx vr)(hU:mX str nx U):∃V,Can str nx vr V:=by
 refine⟨λn=>vK str nx vr (size<|U n) n,λn h k=>?_⟩;have hp:=size_pos<|U n;obtain⟨j,hj⟩:∃j,size (U n)=j+1:=⟨size (U n)-1,ae⟩;show vK str nx vr (size<|U n) n=_;rw[hj];simp only[vK,pB k]
 cases hs:str h with
 |none=>rfl|some q=>
  obtain⟨c,l⟩:=q;have e:=(k.nW hU).trans<|hU.made h c l hs;show xd c _=xd c _;congr 1;refine eC λp hp=>abx g hU _ _ p ?_<|br _;have:=jY (c:=c) (U:=U) hp;rw[<-e]at this;omega
def Rt(ds:List Nat)(str:xG)(nx:Nx)(vr:Nat->Nat)v h:=h∈ds/\nx h=none/\str h=none/\vr h=v
def Rt.one(g:JG ds str nx vr){v h h':Nat}(a:Rt ds str nx vr v h)(b:Rt ds str nx vr v h'):h=h':=g.inj h h' a.1 b.1 a.2.2.1 b.2.2.1<|a.2.2.2.trans b.2.2.2.symm
def Rt.val(hV:Can str nx vr V){v:Nat}(a:Rt ds str nx vr v h):V h=.var v:=by
 have:=hV h h<|.here a.2.1;rw[a.2.2.1,a.2.2.2]at this;exact this
noncomputable def tau (ds:List Nat) (str:xG) (nx:Nx) (vr:Nat->Nat) (W:Nat->Ty) (v:Nat):Ty:=by
 classical
 exact if h:∃x,Rt ds str nx vr v x then W h.choose else .var v
def Ph(g:JG ds str nx vr){v:Nat}(a:Rt ds str nx vr v h):tau ds str nx vr W v=W h:=by
 rw[tau];have q:∃x,Rt ds str nx vr v x:=⟨h,a⟩;rw[dif_pos q,q.choose_spec.one g a]
def ahF{v:Nat}(a:¬∃x,Rt ds str nx vr v x):tau ds str nx vr W v=.var v:=by rw[tau];rw[dif_neg a]
def S9{V:Nat->Ty}{v:Nat}:∀{l:List Nat},bW v (l.map V)->∃p,p∈l/\aw v (V p)
 |[],h=>by simp[bW]at h|x::l,h=>by
  simp only[jp,bW]at h;obtain h|h:=h
  .exact⟨x,ag,h⟩
  .have⟨p,h1,h2⟩:=S9 h;exact⟨p,by simp[h1],h2⟩
def fE{lv:Nat->Nat}(g:JG ds str nx vr)(hV:Can str nx vr V){v:Nat}:∀k n h,n∈ds->Hd nx n h->size (V n)<=k->aw v (V n)->∃x,Rt ds str nx vr v x/\(LC str ds nx lv->lv x<=lv h)
 |0,n,_,_,_,h,_=>by have:=size_pos<|V n;omega|k+1,n,h,hn,hh,hz,ho=>by
  have hd:=g.k_ n h hn hh;have e:=hV n h hh
  cases hs:str h with
  |none=>
   rw[hs]at e;rw[e]at ho;exact⟨h,⟨hd,hh.head,hs,ho⟩,λ_=>br _⟩
  |some q=>
   obtain⟨c,l⟩:=q;rw[hs]at e;have e:V n=.aM c (l.map V):=e;rw[e]at ho;obtain⟨p,hp,EB⟩:=S9 (by simpa only[aw]using ho);obtain⟨y,hy⟩:=g.Pf p;have hz':size (V p)<=k:=by have:=jY (c:=c) (U:=V) hp;rw[<-e]at this;omega
   obtain⟨x,h1,h2⟩:=fE g hV k p y (g.Xi h c l hd hs p hp) hy hz' EB;exact⟨x,h1,λhl=>j6 (h2 hl)<|hl h hd hh.head c l hs p hp y hy⟩
def GB(g:JG ds str nx vr)(hV:Can str nx vr V)(hW:mX str nx W):∀k n,n∈ds->size (V n)<=k->W n=sub (tau ds str nx vr W) (V n)
 |0,n,_,h=>by have:=size_pos<|V n;omega|k+1,n,hn,hz=>by
  have⟨h,hh⟩:=g.Pf n;have hd:=g.k_ n h hn hh;have e:=hV n h hh
  cases hs:str h with
  |none=>
   rw[hs]at e;rw[e,hh.nW hW];exact(Ph g ⟨hd,hh.head,hs,rfl⟩).symm
  |some q=>
   obtain⟨c,l⟩:=q;rw[hs]at e;have e:V n=.aM c (l.map V):=e;rw[hh.nW hW,hW.made h c l hs,e];simp only[sub];rw[jU];congr 1;refine eC λp hp=>GB g hV hW k p (g.Xi h c l hd hs p hp) ?_;have:=jY (c:=c) (U:=V) hp;rw[<-e]at this;omega
end
def ScD(str:xG)(ds:List Nat)nx(S:Nat->Prop):=∀x,x∈ds->nx x=none->S x->∀c l,str x=some (c,l)->∀p,p∈l->∀h,Hd nx p h->S h
def tZ str ds nx(lv:Nat->Nat)bi(cB:Nat->Nat)a b:=∀S:Nat->Prop,ScD str ds nx S->(∀h,Hd nx a h->S h)->(∀h,Hd nx b h->S h)->∀m,m∈ds->∀h h',Hd nx m h->Hd bi m h'->(¬S h->h'=h/\cB h=lv h)/\(S h->S h')
section
variable {nx:Nx} {lv:Nat->Nat}
def tZ.eqv(e:iS str nx e_):tZ str ds nx lv e_ lv x y:=λS _ _ _ m _ h h' k k'=>by
 rw[k'.one<|e.k_ _ _ k];exact⟨λ_=>⟨rfl,rfl⟩,id⟩
def tZ.pA(g:GL w ds str nx vr ly sq)(e:iS str nx e_)(hx:Hd nx x a)(hy:Hd nx y b)(k:tZ str ds e_ lv q_ mQ a b):tZ str ds nx lv q_ mQ x y:=λS hS ha hb m hm h h' q q'=>by
 refine k S (λz hz hn sz c l hs p hp z' kz=>hS z hz ((e.BH z).1 hn) sz c l hs p hp z'<|e.back g kz) (λz kz=>?_) (λz kz=>?_) m hm h h' (e.k_ _ _ q) q'
 .have:z=a:=kz.one<|.here (e.k_ _ _ hx).head;subst this;exact ha _ hx
 .have:z=b:=kz.one<|.here (e.k_ _ _ hy).head;subst this;exact hb _ hy
def tZ.pre(g:GL w ds str nx vr ly sq)(e:iS str nx e_)(k:tZ str ds e_ lv q_ mQ x y):tZ str ds nx lv q_ mQ x y:=λS hS ha hb m hm h h' q q'=>
 k S (λz hz hn sz c l hs p hp z' kz=>hS z hz ((e.BH z).1 hn) sz c l hs p hp z'<|e.back g kz) (λz kz=>ha z<|e.back g kz) (λz kz=>hb z<|e.back g kz) m hm h h' (e.k_ _ _ q) q'
def tZ.post(g:GL w ds str e_ vr ly sq)(e:iS str e_ q_)(k:tZ str ds nx lv e_ mQ x y):tZ str ds nx lv q_ mQ x y:=λS hS ha hb m hm h h' q q'=>k S hS ha hb m hm h h' q<|e.back g q'
def r_.out(h:r_ str nx ds lv mQ a b)(ha:a∈ds)(hb:b∈ds)(na:nx a=none)(nb:nx b=none)(hp:∀a,a∈ds->∀c l,str a=some (c,l)->∀m∈l,m∈ds)(hm:∀m,m∈ds->∀x,Hd nx m x->x∈ds)(hS:ScD str ds nx S)(sa:S a)(sb:S b){x}(hx:¬S x):mQ x=lv x:=by
 have⟨sq,D1,D2,q1,q2⟩:=h.x;have cl:∀e c l p k,(S e/\e∈ds/\nx e=none)->str e=some (c,l)->p∈l->Hd nx p k->(S k/\k∈ds/\nx k=none):=λe c l p k r hs Xh hk=>⟨hS e r.2.1 r.2.2 r.1 c l hs p Xh k hk,hm p (hp e r.2.1 c l hs p Xh) k hk,hk.head⟩;have d1:¬D1 x:=λd=>hx (q1.re (λx=>S x/\x∈ds/\nx x=none) (λk hk=>by rw[hk.one<|.here na];exact⟨sa,ha,na⟩) cl x d).1;have d2:¬D2 x:=λd=>hx (q2.re (λx=>S x/\x∈ds/\nx x=none) (λk hk=>by rw[hk.one<|.here nb];exact⟨sb,hb,nb⟩) cl x d).1;rw[q2.no x d2,q1.no x d1]
def tZ.link(h:r_ str nx ds lv mQ a b)(ha:a∈ds)(hb:b∈ds)(na:nx a=none)(nb:nx b=none)(oa:a≠b)(hp:∀a,a∈ds->∀c l,str a=some (c,l)->∀m∈l,m∈ds)(hm:∀m,m∈ds->∀x,Hd nx m x->x∈ds):tZ str ds nx lv (jd nx a<|some b) mQ a b:=λS hS sa sb m _ x x' k k'=>by
 have sa:=sa a<|.here na;have sb:=sb b<|.here nb;rw[lI na nb oa k k'];refine⟨λq=>?_,λq=>?_⟩
 .have e:x≠a:=λe=>q<|e▸sa;exact⟨UH,h.out ha hb na nb hp hm hS sa sb q⟩
 .grind
def tZ.abw(h:r_ str nx ds lv mQ a b)(ha:a∈ds)(hb:b∈ds)(na:nx a=none)(nb:nx b=none)(oa:a≠b)(hp:∀a,a∈ds->∀c l,str a=some (c,l)->∀m∈l,m∈ds)(hm:∀m,m∈ds->∀x,Hd nx m x->x∈ds):tZ str ds nx lv (jd nx b<|some a) mQ a b:=λS hS sa sb m _ x x' k k'=>by
 have sa:=sa a<|.here na;have sb:=sb b<|.here nb;rw[lI nb na (Ne.symm oa) k k'];refine⟨λq=>?_,λq=>?_⟩
 .have e:x≠b:=λe=>q<|e▸sb;exact⟨UH,h.out ha hb na nb hp hm hS sa sb q⟩
 .grind
def tZ.step{p q}{c c'}{l l'}(g:wU str ds nx lv e_ sq)(h:tZ str ds nx lv e_ sq x y)(hx:Hd nx x a)(hy:Hd nx y b)(ha:a∈ds)(hb:b∈ds)(sa:str a=some (c,l))(sb:str b=some (c',l'))(hp:p∈l)(hq:q∈l')(k_:∀a,a∈ds->∀c l,str a=some (c,l)->∀m∈l,m∈ds)(hd0:∀m,m∈ds->∃x,Hd nx m x)(Dq:∀m,m∈ds->∃x,Hd e_ m x)(k:tZ str ds e_ sq q_ mQ p q):tZ str ds nx lv q_ mQ x y:=λS hS hxa hyb m hm h0 h2 k0 k2=>by
 have one:=h S hS hxa hyb;have pt:∀z,z∈ds->nx z=none->S z->∀c l,str z=some (c,l)->∀p,p∈l->∀t,Hd e_ p t->S t:=λz hz hn sz c l hs p hp t kt=>by
  have MJ:=k_ z hz c l hs p hp;have⟨t0,kt0⟩:=hd0 p MJ;exact(one p MJ t0 t kt0 kt).2 (hS z hz hn sz c l hs p hp t0 kt0)
 have⟨h1,k1⟩:=Dq m hm;have a1:=one m hm h0 h1 k0 k1;have a2:=k S (λz hz hn=>pt z hz<|g.gr z hn) (pt a ha hx.head (hxa a hx) c l sa p hp) (pt b hb hy.head (hyb b hy) c' l' sb q hq) m hm h1 h2 k1 k2;refine⟨λn0=>?_,λs0=>a2.2<|a1.2 s0⟩;have⟨e1,e2⟩:=a1.1 n0;subst e1;have⟨e3,e4⟩:=a2.1 n0;exact⟨e3,e4.trans e2⟩
end
def GL.drewN{nx}{lv}(g:GL w ds str nx vr ly lv)n:GL (w.drewN n) ds str nx vr ly lv:=⟨g.nd,g.out,g.hd⟩
def GL.drew{nx}{lv}(g:GL w ds str nx vr ly lv):GL w.drew ds str nx vr ly lv:=⟨g.nd,g.out,g.hd⟩
def ahG ds str nx vr ly lv x y w(e:Ending)w':=
 ∃ok bi cB,e=.returned (.bool ok)/\GL w' ds str bi vr ly cB/\Fr (λb=>b∈ds) w w'/\w'.heap.size=w.heap.size/\hc bi ds<=hc nx ds/\JR str nx bi x y ok/\(ok=true->wU str ds nx lv bi cB/\tZ str ds nx lv bi cB x y)
def Pj ds str vr ly k:=∀(w:World)(nx:Nx)(lv:Nat->Nat),GL w ds str nx vr ly lv->hc nx ds<=k->∀x y,x∈ds->y∈ds->Cq 309 #[nA x,nA y] w (ahG ds str nx vr ly lv x y w)
def aby ds str nx0 lv0 x y nx vr ly l l' k w gk v wr:=
 ∃j gY l9,Hid (gk=l.length-j)/\j<=l.length/\v=Nv j/\GL wr ds str gY vr ly l9/\Fr (λb=>b∈ds) w wr/\wr.heap.size=w.heap.size/\hc gY ds<=k/\JL str nx gY l l' j/\wU str ds nx0 lv0 gY l9/\tZ str ds nx0 lv0 gY l9 x y
def Pk(IH:Pj ds str vr ly k):Pj ds str vr ly (k+1):=by
 intro w nx lv G hk x y hx hy;have⟨a,Hu⟩:=G.hd x hx;have⟨b,Pl⟩:=G.hd y hy;have ha:a∈ds:=G.bN hx Hu;have hb:b∈ds:=G.bN hy Pl;have HC:=ai<|r9 G hx Hu;go_enter func309,ntmps309;go_wp2_with fail;refine HC.mono ?_;rintro e w1⟨rfl,e_,G1,F1,E1,z1⟩;have s_:=ai<|r9 G1 hy<|E1.k_ _ _ Pl;clear HC;go_wp2_with fail;refine s_.mono ?_;rintro e w2⟨rfl,q_,G2,F2,E2,z2⟩;have E:=E1.trans E2;have FF:=F1.trans F2;have hca:=abm E ds;have Hv:q_ a=none:=(E.k_ _ _ Hu).head;have uF:q_ b=none:=(E.k_ _ _ Pl).head;have heq:=abn (G2.nd a ha).1 (G2.nd b hb).1;have⟨ca0,fa0,ca2,_,ca3⟩:=(G2.nd a ha).cells;have⟨cb0,fb0,cb2,_,cb3⟩:=(G2.nd b hb).cells;have MW:=ai G2;clear s_;by_cases oa:a=b
 .subst oa;simp at heq
  go_wp2
  go_ret;exact⟨true,q_,lv,rfl,G2,FF,ae,ae,(JR.same str q_ a).pA E Hu Pl,λ_=>⟨wU.eqv G E,tZ.eqv E⟩⟩
 .have hba:¬b=a:=λq=>oa q.symm;rw[show decide (a=b)=false by simp[oa]]at heq;have⟨lb2,_⟩:=(G2.nd b hb).lvl;have HL1:=ai<|Gz _ w2 q_ lv a (lv b) G2 ha<|br _;go_wp2_with fail;refine HL1.mono ?_;rintro e w3⟨rfl,nx3,lv3,D3,G3,F3,E3,z3,q3⟩;have⟨la3,_⟩:=(G3.nd a ha).lvl;have HL2:=ai<|Gz _ w3 nx3 lv3 b (lv3 a) G3 hb<|br _;clear HL1 ca0 fa0 ca2 ca3 cb0 fb0 cb2 cb3 heq lb2 MW;go_wp2_with fail;refine HL2.mono ?_;rintro e w4⟨rfl,BI,lv4,D4,G4,F4,E4,z4,q4⟩;have V5:Hid (r_ str BI ds lv lv4 a b):=ai ⟨lv3,D3,D4,q3.fwd G2<|E3.trans E4,q4.fwd G3 E4⟩;have HEQ:Hid (wU str ds nx lv BI lv):=ai<|wU.eqv G<|(E.trans E3).trans E4;have HMM:Hid (∀m,m∈ds->∀x,Hd BI m x->x∈ds):=ai λm hm x k=>G4.bN hm k;have Hq:=ai G;have HPT:Hid (∀a,a∈ds->∀c l,str a=some (c,l)->∀m∈l,m∈ds):=ai λx hx c l hs=>(G4.part hx hs).2;clear q3 q4;have E0:=E;clear E;have E:=(E0.trans E3).trans E4;have FF4:=(FF.trans F3).trans F4;clear hca Hv uF;have hca:=abm E ds;have Hv:BI a=none:=(E.k_ _ _ Hu).head;have uF:BI b=none:=(E.k_ _ _ Pl).head;have⟨ca0,fa0,ca2,_,ca3⟩:=(G4.nd a ha).cells;have⟨cb0,fb0,cb2,_,cb3⟩:=(G4.nd b hb).cells;have HHD:Hid (∀m,m∈ds->∃x,Hd BI m x):=ai G4.hd;clear HL2 la3 F3 F4 G3 E3 E4
  cases Xj:str a with
  |none=>
   rw[Xj]at ca2;have ajY:w4.cell? ⟨a,3,none⟩=some (Sv ⟨#[]⟩):=ca2;clear ca2
   go_wp2
   go_ret;refine⟨true,jd BI a<|some b,lv4,rfl,G4.set ha hb<|λz hz=>?_,FF4.set (j5 ha) 0 _,by simp[ql];omega,by have:=Pc (b:=b) Hv ha;omega,(JR.alJ Hv Xj).pA E Hu Pl,λ_=>⟨HEQ.trans (wU.link V5 ha hb Hv uF oa HHD HPT) HHD<|λU=>kV Hv,(tZ.link V5 ha hb Hv uF oa HPT HMM).pA Hq E Hu Pl⟩⟩;have⟨q,hq⟩:=G4.hd z hz;exact⟨_,hq.join Hv uF oa⟩
  |some pa=>
   obtain⟨c,l⟩:=pa;have Xk:=(G4.nd a ha).2.1;rw[Xj]at ca2 ca3 Xk;have ajY:w4.cell? ⟨a,3,none⟩=some (Sv<|pn c):=ca2;have alM:w4.cell? ⟨a,4,none⟩=some (.slice (ly a).1 l.length (ly a).2):=ca3;obtain⟨EW,NI,hlm,aO⟩:=Xk;have hea:((pn c).toList==[])=false:=by rw[<-q9,beq_iff_eq];exact lH EW
   clear ca2 ca3
   cases Xl:str b with
   |none=>
    rw[Xl]at cb2;have ajZ:w4.cell? ⟨b,3,none⟩=some (Sv ⟨#[]⟩):=cb2;clear cb2
    go_wp2
    go_ret;refine⟨true,jd BI b<|some a,lv4,rfl,G4.set hb ha<|λz hz=>?_,FF4.set (j5 hb) 0 _,by simp[ql];omega,by have:=Pc (b:=a) uF hb;omega,(JR.alK uF Xl).pA E Hu Pl,λ_=>⟨HEQ.trans (wU.abw V5 ha hb Hv uF oa HHD HPT) HHD<|λU=>kV uF,(tZ.abw V5 ha hb Hv uF oa HPT HMM).pA Hq E Hu Pl⟩⟩;have⟨q,hq⟩:=G4.hd z hz;exact⟨_,hq.join uF Hv hba⟩
   |some pb=>
    obtain⟨c',l'⟩:=pb;have hPb:=(G4.nd b hb).2.1;rw[Xl]at cb2 cb3 hPb;have ajZ:w4.cell? ⟨b,3,none⟩=some (Sv<|pn c'):=cb2;have alN:w4.cell? ⟨b,4,none⟩=some (.slice (ly b).1 l'.length (ly b).2):=cb3;obtain⟨aj0,amK,alO,aj1⟩:=hPb;have heb:((pn c').toList==[])=false:=by rw[<-q9,beq_iff_eq];exact lH aj0
    clear cb2 cb3;by_cases qQ:c=c'
    .subst qQ;have hbb:((pn c).toList==(pn c).toList)=true:=ag;by_cases hlen:l.length=l'.length
     .have hle:((l.length:Int)==(l'.length:Int))=true:=by simp[hlen]
      have hcu:=Pc (b:=b) Hv ha;have hgs:∀z,z∈ds->∃y,Hd (jd BI a<|some b) z y:=λz hz=>by
       have⟨q,hq⟩:=G4.hd z hz;exact⟨_,hq.join Hv uF oa⟩
      clear cb0 fb0 G1 F1 F2 G
      go_wp2
      go_quiet(fail);go_wp2_with fail;have LV0:Hid (wU str ds nx lv (jd BI a<|some b) lv4/\tZ str ds nx lv (jd BI a<|some b) lv4 x y):=ai ⟨HEQ.trans (wU.link V5 ha hb Hv uF oa HHD HPT) HHD<|λU=>kV Hv,(tZ.link V5 ha hb Hv uF oa HPT HMM).pA Hq E Hu Pl⟩;have GS:=ai<|(G4.drewN nq).set ha hb hgs;have FS:=ai<|(FF4.drewN nq).set (b:=a) (j5 ha) 0<|nA b;have zs:((w4.drewN nq).setCell ⟨a,0,none⟩<|nA b).heap.size=w.heap.size:=by simp[ql];show w4.heap.size=_;omega
      go_loopg[77] l.length (λgk v wr=>aby ds str nx lv x y (jd BI a<|some b) vr ly l l' (hc (jd BI a<|some b) ds) w gk v wr)
      case atStart=>exact⟨0,jd BI a<|some b,lv4,ai ag,j7 _,rfl,GS,FS,zs,br _,JL.start _ _ _ _,LV0⟩
      case round=>
       clear GS FS zs LV0;obtain⟨j,gY,l9,dl,hj,rfl,Gj,Fj,zj,hcj,JLj,LVj⟩:=hrel;have HLV:=ai LVj;have HHJ:Hid (∀m,m∈ds->∃x,Hd gY m x):=ai Gj.hd;clear LVj;by_cases bm:j<l.length
       .have hd:(j:Int)<(l.length:Int):=ae;have xT:j<l'.length:=ae;have UI:(j:Int)<(l'.length:Int):=ae;have⟨ga,ea,ra,_⟩:=Gj.row ha Xj bm;have⟨gb,eb,rb,_⟩:=Gj.row hb Xl xT;have⟨_,_,_,_,qa⟩:=(Gj.nd a ha).cells;have⟨_,_,_,_,qb⟩:=(Gj.nd b hb).cells;rw[Xj,ea]at qa;rw[Xl,eb]at qb;have qa':wr.cell? ⟨a,4,none⟩=some (Lv (some ⟨ga,0,none⟩) l.length (ly a).2):=qa;have qb':wr.cell? ⟨b,4,none⟩=some (Lv (some ⟨gb,0,none⟩) l'.length (ly b).2):=qb
        have HJ:Hid (∀W,W=wr.drew->Cq 309 #[nA l[j],nA l'[j]] W λe w'=>∃ok bi cB,e=Rv (.bool ok)/\GL w' ds str bi vr ly cB/\Fr (λb=>b∈ds) wr w'/\w'.heap.size=wr.heap.size/\hc bi ds<=hc (jd BI a<|some b) ds/\JR str gY bi l[j] l'[j] ok/\(ok=true->wU str ds gY l9 bi cB/\tZ str ds gY l9 bi cB l[j] l'[j])/\(w'.cell? ⟨a,4,none⟩=some (Lv (some ⟨ga,0,none⟩) l.length (ly a).2)/\w'.cell? ⟨b,4,none⟩=some (Lv (some ⟨gb,0,none⟩) l'.length (ly b).2)/\w'.cell? ⟨ga,j,none⟩=some (nA l[j])/\w'.cell? ⟨gb,j,none⟩=some (nA l'[j]))):=ai (λW hW=>by
         subst hW;refine(IH wr.drew gY l9 Gj.drew ae l[j] l'[j] (hlm _<|jk _)<|alO _<|jk _).mono ?_;rintro e w5⟨ok,nx5,lv5,rfl,G5,F5,z5,h5,J5,L5⟩;have⟨ga5,ea5,ra5,_⟩:=G5.row ha Xj bm;have⟨gb5,eb5,rb5,_⟩:=G5.row hb Xl xT;have⟨_,_,_,_,pa⟩:=(G5.nd a ha).cells;have⟨_,_,_,_,pb⟩:=(G5.nd b hb).cells;rw[Xj,ea]at pa;rw[Xl,eb]at pb;rw[ea]at ea5;rw[eb]at eb5
         cases ea5
         cases eb5
         exact⟨ok,nx5,lv5,rfl,G5,(Fr.refl _ wr).drew.trans F5,z5,j6 h5 hcj,J5,L5,pa,pb,ra5,rb5⟩)
        clear ea eb qa qb aO aj1 ajY ajZ alM alN heb hea hbb hle IH
        go_wp2
        go_region_held3(λw'=>w'.cell? ⟨a,4,none⟩=some (Lv (some ⟨ga,0,none⟩) l.length (ly a).2)/\w'.cell? ⟨b,4,none⟩=some (Lv (some ⟨gb,0,none⟩) l'.length (ly b).2)/\w'.cell? ⟨ga,j,none⟩=some (nA l[j])/\w'.cell? ⟨gb,j,none⟩=some (nA l'[j])) (first|go_keep|(simp[*])) (first|(go_at_call 309;refine(HJ _ rfl).mono ?_;rintro e w5⟨ok,nx5,lv5,rfl,hG5,hF5,hz5,h5,hJ5,hL5,k1,k2,k3,k4⟩;have HL5:=ai hL5;clear hL5;have HG5:=ai hG5;have HF5:=ai hF5;have HZ5:=ai hz5;have HJ5:=ai hJ5;clear hG5 hF5 hz5 hJ5))
        all_goals(
         cases ok with
         |true=>
          go_wp2
          go_roundg(l.length-(j+1))
          case measure=>rw[uh dl];omega
          case rel=>exact⟨j+1,nx5,lv5,ai rfl,ae,jP,HG5,Fj.trans HF5,HZ5.trans zj,h5,JLj.step bm xT HJ5,HLV.1.trans (HL5 trivial).1 HHJ<|λU q=>((HJ5.yes rfl).1 U).1 q|>.1,tZ.step HLV.1 HLV.2 Hu Pl ha hb Xj Xl (jk _) (jk _) HPT Hq.hd HHJ (HL5 trivial).2⟩
         |false=>
          go_wp2
          go_ret
          exact⟨false,nx5,lv5,rfl,HG5,Fj.trans HF5,HZ5.trans zj,ae,(JL.fail Hv Xj Xl JLj bm xT HJ5).pA E Hu Pl,λq=>lq⟩)
       .have hd:decide ((j:Int)<(l.length:Int))=false:=bF;have ej:j=l.length:=ae;subst ej
        go_wp2
        go_ret;exact⟨true,gY,l9,rfl,Gj,Fj,zj,ae,(JL.done Hv Xj Xl hlen JLj).pA E Hu Pl,λ_=>HLV⟩
     .have hle:((l.length:Int)==(l'.length:Int))=false:=bF
      go_wp2
      go_quiet(fail)
      go_wp2
      go_ret;exact⟨false,BI,lv4,rfl,G4.drewN _,FF4.drewN _,by show w4.heap.size=_;omega,ae,(JR.afv Xj Xl<|jz hlen).pA E Hu Pl,λq=>lq⟩
    .have hbb:((pn c).toList==(pn c').toList)=false:=by rw[<-q9,beq_iff_eq];exact λq=>qQ<|ahA EW aj0 q
     go_wp2
     go_quiet(fail)
     go_wp2
     go_ret;exact⟨false,BI,lv4,rfl,G4.drewN _,FF4.drewN _,by show w4.heap.size=_;omega,ae,(JR.afv Xj Xl<|j5 qQ).pA E Hu Pl,λq=>lq⟩
def abz:∀k,Pj ds str vr ly k
 |0=>λw nx lv G hk x y hx hy=>by
  have⟨a,Hu⟩:=G.hd x hx;have:=ahB (G.bN hx Hu) Hu.head;omega
 |k+1=>Pk<|abz k
mutual
def abA{σ τ:Nat->Ty}{n:Nat}:∀t,sub σ t=sub τ t->aw n t->σ n=τ n
 |.var m,h,o=>by simp only[aw]at o;subst o;simpa[sub]using h|.aM c l,h,o=>by simp only[sub,Ty.aM.injEq,true_and]at h;exact S_ l h o
def S_{σ τ:Nat->Ty}{n:Nat}:∀l,aT σ l=aT τ l->bW n l->σ n=τ n
 |[],_,o=>by simp[bW]at o|t::l,h,o=>by
  simp only[aT,List.cons.injEq]at h;obtain o|o:=o
  .exact abA t h.1 o
  .exact S_ l h.2 o
end
def ad8{a b}(one:sub θ a=sub θ b)(gen:∀σ,sub σ a=sub σ b->∀v,sub σ (θ v)=σ v)(idem:∀v x,aw x (θ v)->θ x=.var x):In.xQ θ a b:=by
 classical
 let σ1:Nat->Ty:=λv=>if aw v a\/aw v b then θ v else .var v;have e1:∀v,aw v a\/aw v b->σ1 v=θ v:=λv h=>if_pos h;have e2:∀v,¬(aw v a\/aw v b)->σ1 v=.var v:=λv h=>if_neg h;have u1:sub σ1 a=sub σ1 b:=by rw[sub_congr a λn o=>e1 n<|j5 o,sub_congr b λn o=>e1 n<|jz o];exact one
 refine⟨one,gen,λv h1 h2=>?_,λv n hv hn=>?_⟩
 .have hv:¬(aw v a\/aw v b):=λq=>q.elim h1 h2;have g:=gen σ1 u1 v;rw[e2 v hv]at g
  cases ht:θ v with
  |aM c l=>rw[ht]at g;simp[sub]at g|var x=>
   rw[ht]at g;simp only[sub]at g;by_cases hx:aw x a\/aw x b
   .rw[e1 x hx,idem v x (by rw[ht];rfl)]at g;exact g
   .grind
 .refine Classical.byContradiction λnU=>?_;let σ2:Nat->Ty:=λx=>if x=n then .aM m9 []else σ1 x;have f1:∀x,x≠n->σ2 x=σ1 x:=λx h=>if_neg h;have u2:sub σ2 a=sub σ2 b:=by rw[sub_congr a λx o=>f1 x<|λe=>nU<|j5<|e▸o,sub_congr b λx o=>f1 x<|λe=>nU<|jz<|e▸o];exact u1
  have hvn:v≠n:=λe=>nU<|e▸hv;have g1:=gen σ1 u1 v;have g2:=gen σ2 u2 v;rw[f1 v hvn]at g2;have:=abA _ (g1.trans g2.symm) hn;rw[e2 n nU]at this;have f2:σ2 n=.aM m9 []:=if_pos rfl;rw[f2]at this
  cases this
section
variable {nx:Nx}
def LB(g:JG ds str nx vr){m}(k:y_ nx m n):V0 nx m=V0 nx n:=by grind[nx,y_,V0,pB]
def Ta:∀{l l' hs:List Nat},dH (y_ nx) l l'->dH (Hd nx) l' hs->dH (Hd nx) l hs
 |[],_,_,.nil,.nil=>.nil|_::_,_,_,.cons p q,.cons r s=>by
  refine .cons ?_<|Ta q s;obtain rfl|⟨x,p1,p2⟩:=p
  .exact r
  .rw[r.one p2];exact p1
def A9{E:Nat->Nat->Prop}{f k:Nat->Ty}:∀{l m:List Nat},dH E l m->(∀p x,p∈l->x∈m->E p x->f p=k x)->l.map f=m.map k
 |[],_,.nil,_=>rfl|_::_,_,.cons r s,h=>by
  simp only[jp];rw[h _ _ ag ag r,A9 s λp x hp hx=>h p x (by simp[hp])<|by simp[hx]]
def abB(g:JG ds str nx vr)(hV:Can str nx vr V)(g':JG ds str bi vr)(jr:JR str nx bi a b true)(hF:jh str bi vr F VF)(hh:Hd bi a h)(hFh:F h)(ha:a∈ds)(hb:b∈ds):∃U,mX str bi U:=by
 classical
 let σ:Nat->Ty:=λv=>if q:∃x,Rt ds str nx vr v x then(if F (V0 bi q.choose)then VF (V0 bi q.choose)else .var v)else .var v;have hσ:∀v x,Rt ds str nx vr v x->F (V0 bi x)->σ v=VF (V0 bi x):=λv x r f=>by
  have q:∃x,Rt ds str nx vr v x:=⟨x,r⟩;have e:q.choose=x:=q.choose_spec.one g r;show(if q:∃x,Rt ds str nx vr v x then _ else _)=_;rw[dif_pos q,e,if_pos f]
 have Eo:=jr.eqs [] _ g'.eq;have key:∀k n,n∈ds->size (V n)<=k->F (V0 bi n)->sub σ (V n)=VF (V0 bi n):=by
  intro k
  induction k with
  |zero=>intro n _ hz;have:=size_pos<|V n;omega|succ k ih=>
   intro n hn hz hf;have⟨x,hx⟩:=g.Pf n;have hd:=g.k_ n x hn hx;have e:=hV n x hx;have kY:=LB g'<|hx.eq Eo;rw[kY]at hf⊢
   cases hs:str x with
   |none=>
    rw[hs]at e;rw[e];exact hσ _ x ⟨hd,hx.head,hs,rfl⟩ hf
   |some q=>
    obtain⟨c,l⟩:=q;rw[hs]at e;have e:V n=.aM c (l.map V):=e;have⟨y,hy⟩:=g'.Pf x;rw[pB hy]at hf⊢;have⟨l',h1,h2⟩:=Pg g' hy hs;have⟨_,h3⟩:=hF y hf;rw[h1]at h3;obtain⟨yu,h4,h5,h6⟩:=h3;rw[e,h6];simp only[sub];rw[jU];congr 1;have h7:=Ta h2 h4;have hz':∀p,p∈l->p∈ds/\size (V p)<=k:=λp hp=>⟨g.Xi x c l hd hs p hp,by have:=jY (c:=c) (U:=V) hp;rw[<-e]at this;omega⟩;exact A9 h7 λp z hp iZ r=>by
     have:=ih p (hz' p hp).1 (hz' p hp).2 (by rw[pB r];exact h5 z iZ);rw[this,pB r]
 have sV:=hV.nW g;refine⟨λn=>sub σ<|V n,((jr.yes rfl).1 _).2 ⟨⟨λn c l hs=>?_,λn m e=>by rw[sV.bD n m e]⟩,?_⟩⟩
 .rw[sV.made n c l hs];simp only[sub];rw[jU]
 .have oa:=(jr.yes rfl).2.2 [] _ g'.eq;have eab:=LB g' oa;show sub σ (V a)=sub σ (V b);rw[key _ a ha (br _) (by rw[pB hh];exact hFh),key _ b hb (br _) (by rw[<-eab,pB hh];exact hFh),eab]
structure aj2(ds:List Nat)str nx bi vr(V V':Nat->Ty)θ a b:Prop where
 can:Can str bi vr V'
 val:∀n,n∈ds->V' n=sub θ (V n)
 mgu:In.xQ θ (V a) (V b)
 rt:∀v x,Rt ds str nx vr v x->θ v=V' x
 no:∀v,(¬∃x,Rt ds str nx vr v x)->θ v=.var v
def abC{lv}(g:JG ds str nx vr)(hV:Can str nx vr V)(g':JG ds str bi vr)(jr:JR str nx bi a b true)(lr:wU str ds nx lv bi cB)(hF:jh str bi vr F VF)(hh:Hd bi a h)(hFh:F h)(ha:a∈ds)(hb:b∈ds):∃V' θ,aj2 ds str nx bi vr V V' θ a b:=by
 have⟨U,hU⟩:=abB g hV g' jr hF hh hFh ha hb;have⟨V',hV'⟩:=ahE g' hU;have sV':=hV'.nW g';have sV:=hV.nW g;have sVn:=(((jr.yes rfl).1 V').1 sV').1;have hrt:∀v x,Rt ds str bi vr v x->Rt ds str nx vr v x:=λv x r=>⟨r.1,lr.gr x r.2.1,r.2.2⟩;have val:∀n,n∈ds->V' n=sub (tau ds str nx vr V') (V n):=λn hn=>GB g hV sVn _ n hn<|br _;have rt:∀v x,Rt ds str nx vr v x->tau ds str nx vr V' v=V' x:=λv x r=>Ph g r;have no:∀v,(¬∃x,Rt ds str nx vr v x)->tau ds str nx vr V' v=.var v:=λv q=>ahF q;have oa:=(jr.yes rfl).2.2 [] _ g'.eq;refine⟨V',tau ds str nx vr V',hV',val,ad8 ?_ (λσ e v=>?_)<|λv x o=>?_,rt,no⟩
 .rw[<-val a ha,<-val b hb];exact hV'.same oa
 .have hW:mX str bi (λn=>sub σ<|V n):=((jr.yes rfl).1 _).2 ⟨⟨λn c l hs=>by rw[sV.made n c l hs];simp only[sub];rw[jU],λn m e=>by rw[sV.bD n m e]⟩,e⟩;have hWn:∀n,n∈ds->sub σ (V n)=sub σ (V' n):=λn hn=>by
   have h1:=GB g' hV' hW _ n hn<|br _;have h1:=h1;rw[h1];refine sub_congr _ λw o=>?_;have⟨y,hy⟩:=g'.Pf n;have⟨x,r,_⟩:=fE (lv:=cB) g' hV' _ n y hn hy (br _) o;rw[Ph g' r];show sub σ (V x)=σ w;rw[(hrt w x r).val hV];rfl
  by_cases q:∃x,Rt ds str nx vr v x
  .obtain⟨x,r⟩:=q;rw[rt v x r,<-hWn x r.1,r.val hV];rfl
  .rw[no v q];rfl
 .by_cases q:∃y,Rt ds str nx vr v y
  .obtain⟨y,r⟩:=q;rw[rt v y r]at o;have⟨z,hz⟩:=g'.Pf y;have⟨x',r',_⟩:=fE (lv:=cB) g' hV' _ y z r.1 hz (br _) o;rw[rt x x'<|hrt x x' r',r'.val hV']
  .have q':=no v q;rw[q']at o;simp only[aw]at o;subst o;exact q'
def Lo ds str nx(vr lv:Nat->Nat)i v:=∃x,Rt ds str nx vr v x/\lv x<=i
def abD{lv}{V'}(g:JG ds str nx vr)(hV:Can str nx vr V)(g':JG ds str bi vr)(lr:wU str ds nx lv bi cB)(hl:LC str ds nx lv)(jw:aj2 ds str nx bi vr V V' θ a b)i w:Lo ds str bi vr cB i w↔∃v,Lo ds str nx vr lv i v/\aw w (θ v):=by
 constructor
 .rintro⟨x,r,hx⟩
  have hL:=lr.low i V' (jw.can.nW g') (λt=>∀w,aw w t->∃v,Lo ds str nx vr lv i v/\aw w (θ v)) (λc ts q t ht w o=>q w (by
   simp only[aw];clear q
   induction ts with
   |nil=>simp at ht|cons y ts ih=>
    obtain e|e:=List.mem_cons.1 ht
    .subst e;exact j5 o
    .exact jz (ih e))) (λm hm y hy Zr w o=>by
   rw[jw.val m hm]at o;have⟨v,o1,o2⟩:=(qt _).1 o;have⟨z,r1,r2⟩:=fE (lv:=lv) g hV _ m y hm hy (br _) o1
   exact⟨v,⟨z,r1,j6 (r2 hl) Zr⟩,o2⟩) x r.1 x (.here r.2.1) hx
  exact hL w (by rw[r.val jw.can];rfl)
 .rintro⟨v,⟨x,r,hx⟩,o⟩;rw[jw.rt v x r]at o;have⟨y,hy⟩:=g'.Pf x;have⟨z,r1,r2⟩:=fE (lv:=cB) g' jw.can _ x y r.1 hy (br _) o;exact⟨z,r1,j6 (r2<|lr.lc hl)<|j6 (lr.mono x r.1 x y (.here r.2.1) hy) hx⟩
end
section
variable {nx:Nx} {lv:Nat->Nat}
theorem GL.move(h:GL w ds str nx vr ly lv)(hs:w.heap.size<=w'.heap.size)(hb:∀b i v,w.cell? ⟨b,i,none⟩=some v->w'.heap[b]? =w.heap[b]?):GL w' ds str nx vr ly lv:=by
 refine⟨λn hn=>?_,h.out,h.hd⟩;have hc:=(h.nd n hn).cells.1;have⟨h1,h2,h3⟩:=h.nd n hn;exact⟨(hb n 0 _ hc).trans h1,h2.move hs hb,h3⟩
def A8.lt{n}(h:A8 w ds str nx vr ly lv n):n<w.heap.size:=(Array.getElem?_eq_some_iff.1 h.1).1
end
def GL.one{w w':World}{b}{ds:List Nat}{str:xG}{nx}{vr:Nat->Nat}{ly:Nat->Option Addr×Nat}{lv}(h:GL w ds str nx vr ly lv)(o:One b w w')(h1:¬b∈ds)(h4:∀m∈ds,∀c l g,str m=some (c,l)->l≠[]->(ly m).1=some ⟨g,0,none⟩->g≠b):GL w' ds str nx vr ly lv:=by
 refine⟨λn hn=>?_,h.out,h.hd⟩;have⟨p1,p2,p3⟩:=h.nd n hn;have cV:n≠b:=λe=>h1<|e▸hn;refine⟨(o.block n cV).trans p1,?_,p3⟩;have h5:=h4 n hn
 cases hs:str n with
 |none=>trivial|some p=>
  obtain⟨c,l⟩:=p;rw[hs]at p2;obtain⟨q1,q2,q3,q4⟩:=p2;refine⟨q1,q2,q3,?_⟩;by_cases e:l=[]
  .exact j5 e
  .have⟨g,r1,r2,r3,r4⟩:=q4.resolve_left e;have hg:=h5 c l g hs e r1;refine jz ⟨g,r1,r2,by rw[o.size];exact r3,λi hi=>?_⟩;rw[qk (a:=⟨g,i,none⟩) (w:=w)<|o.block g hg];exact r4 i hi
def GL.aj4{nx}{lv}(h:GL w ds str nx vr ly lv){m}(hm:m∈ds){g}(hs:str m=some (c,l))(hl:l≠[])(hg:(ly m).1=some ⟨g,0,none⟩):g<w.heap.size:=by
 have⟨_,p2,_⟩:=h.nd m hm;rw[hs]at p2;have⟨g',r1,_,r3,_⟩:=p2.2.2.2.resolve_left hl;rw[hg]at r1;injection r1 with r1;injection r1 with r1;subst r1;exact r3
def V7 ds str nx vr ly lv T w(e:Ending)w':=
 ∃u bi,e=.returned u/\dW w' (λb=>w.heap.size<=b) T u/\GL w' ds str bi vr ly lv/\iS str nx bi/\Fr (λb=>b∈ds) w w'
def Pm ds str vr ly lv F V k:=
 ∀(w:World)(nx:Nx)(n h:Nat),GL w ds str nx vr ly lv->jh str nx vr F V->n∈ds->Hd nx n h->F h->size (V h)<=k->Cq 284 #[nA n] w (V7 ds str nx vr ly lv (V h) w)
def abE ds str nx vr ly lv N(L:List Ty)w gk v wr:=
 ∃(j:Nat)(C:Array Value)(gY:Nx),Hid (gk=N-j)/\j<=N/\v=Nv j/\GL wr ds str gY vr ly lv/\iS str nx gY/\Fr (λb=>b∈ds) w wr/\Bx wr w.heap.size C/\Hid (C.size=N)/\
  Hid (∀i(h:i<L.length),i<j->∃u,C[i]? =some u/\dW wr (λb=>w.heap.size<b/\b<wr.heap.size) L[i] u)
section
variable {lv:Nat->Nat}
def Pn(IH:Pm ds str vr ly lv F V k):Pm ds str vr ly lv F V (k+1):=by
 intro w nx n h G0 hF hn hd hFh gL;have hh:h∈ds:=G0.bN hn hd;have HC:=ai<|r9 G0 hn hd;go_enter func284,ntmps284;go_wp2_with fail;refine HC.mono ?_;rintro e w1⟨rfl,e_,G1,F1,E1,z1⟩;have hF1:=Fin.eqv hF E1;obtain⟨c0,f0,c2,c1,c3⟩:=(G1.nd h hh).cells;have Xk:=(G1.nd h hh).2.1;obtain⟨_,hV⟩:=hF1 h hFh;have xP:∀x∈ds,x<w1.heap.size:=λx hx=>(G1.nd x hx).lt;clear HC G0 hF
 cases hs:str h with
 |none=>
  rw[hs]at c2 hV;have c2':w1.cell? ⟨h,3,none⟩=some (.string ⟨#[]⟩):=c2;clear c2 c3 Xk;have hV':V h=.var (vr h):=hV;clear hV
  go_wp2
  go_ret;refine⟨_,e_,rfl,?_,G1,E1,F1⟩;rw[hV'];exact .var _
 |some p=>
  obtain⟨c,l⟩:=p;rw[hs]at c2 hV c3 Xk;obtain⟨EW,hl,hld,_⟩:=Xk;have c2':w1.cell? ⟨h,3,none⟩=some (.string<|pn c):=c2;have c3':w1.cell? ⟨h,4,none⟩=some (.slice (ly h).1 l.length (ly h).2):=c3;have cV:((pn c).toList==[])=false:=by
   rw[<-q9,beq_iff_eq];exact lH EW
  obtain⟨kY,a2,hF2,hVh⟩:=hV;have hlen:=AZ a2;obtain⟨i0,yq,oR,nu,iZ⟩:=info_parts gE;have W7:=jV (by_:=16) eK yq oR rfl nu iZ aB l.length hl;rw[hVh]at gL;have alP:∀x∈kY,size (V x)<=k:=λx hx=>by have:=ni (V:=V) hx;simp[size]at gL;omega
  have HL:=ai hlen;have HZ:=ai z1;have HV:=ai hVh;obtain⟨sa,HA⟩:∃sa,Hid<|(ly h).1=sa:=⟨_,ai rfl⟩;rw[uh HA]at c3';clear c2 c3 hlen z1 hVh
  go_wp2
  go_loopg[29] l.length (λgk v wr=>abE ds str e_ vr ly lv l.length (kY.map V) w1 gk v wr)
  case atStart=>
   have cr:Bq w1 (w1.alloc<|.cells (qf l.length .nilIface) 87):=bw _;refine⟨0,qf l.length .nilIface,e_,ai ag,j7 _,rfl,G1.move cr.size<|λb i v hc=>cr.block b<|jM hc,iS.refl _ _,Fr.of cr,Bx.new w1 _ _,ai ag,ai<|λi _ hi=>absurd hi<|j9 _⟩
  case round=>
   obtain⟨j,C,gY,dl,hj,rfl,GJ,EJ,FJ,BJ,hC,hT⟩:=hrel;have zw:=FJ.size;have zb:=BJ.z;obtain⟨d0,e0,d2,d1,d3⟩:=(GJ.nd h hh).cells;rw[hs]at d2;have d2':wr.cell? ⟨h,3,none⟩=some (.string<|pn c):=d2;clear d0 e0 d2 d1 d3 c0 f0 c1 c2' c3' W7;by_cases bm:j<l.length
   .have hdj:(j:Int)<(l.length:Int):=ae;obtain⟨ga,ea,cg,hga⟩:=GJ.row hh hs bm;have xT:j<kY.length:=by rw[<-uh HL];exact bm
    have hdh:=EJ.k_ _ _<|Gx a2 j bm xT;have HC:=IH wr gY l[j] kY[j] GJ (Fin.eqv hF1 EJ) (hld _<|jk bm) hdh (hF2 _<|jk xT)<|alP _<|jk xT;have ea':=HA.symm.trans ea;subst ea';clear ea;go_wp2_with fail;refine HC.mono ?_;rintro e w2⟨u,q_,rfl,hU,G2,E2,F2⟩;obtain⟨tu,xu,rfl⟩:=hU.iface;have hpb:¬w1.heap.size∈ds:=λq=>by have:=xP _ q;omega
    have B2:=BJ.fr F2 hpb;have wJ:j<C.size:=qBh;have cj:w2.cell? ⟨w1.heap.size,j,none⟩=some C[j]:=(B2.c j).trans<|qi wJ;have fj:=B2.f j;have B3:=ai<|B2.aR j (.iface tu xu) (C.setIfInBounds j<|.iface tu xu) rfl wJ;have HU:=ai hU;have HF:=ai F2;have Bu:=ai<|FJ.trans F2;have HE:=ai<|EJ.trans E2;have z2:=F2.size;have G3:=ai (G2.one (One.cell w2 w1.heap.size j<|.iface tu xu) hpb (λm hm c' l' g' e1 e2 e3=>by have:=G1.aj4 hm e1 e2 e3;omega));clear HC hU G2 E2 F2 B2 cg d2'
    go_wp2
    go_roundg(l.length-(j+1))
    case measure=>rw[uh dl];omega
    case rel=>
     refine⟨j+1,C.setIfInBounds j<|.iface tu xu,q_,ai rfl,ae,jP,G3,HE,Bu.set (jz<|br _) j _,B3,ai (by simp;exact hC),ai<|λi hi hij=>?_⟩;have jQ:∀b,w1.heap.size<b->b<w2.heap.size->(w2.setCell ⟨w1.heap.size,j,none⟩<|.iface tu xu).heap[b]? =w2.heap[b]? :=λb hb _=>qx _ _ _ _ (by show b≠w1.heap.size;omega);have hss:(w2.setCell ⟨w1.heap.size,j,none⟩<|.iface tu xu).heap.size=w2.heap.size:=Dd;by_cases e:i=j
     .subst e;refine⟨.iface tu xu,by simp[wJ],?_⟩;rw[List.getElem_map];exact HU.low.move ae (λb p z=>jQ b qAy z)<|λb p z=>⟨qAy,ae⟩
     .obtain⟨u',wK,wL⟩:=uh hT i hi ae;refine⟨u',by rw[qh ae];exact wK,?_⟩;have h3:=wL.fr HF (λb p _ q=>by have:=xP _ q;omega);exact h3.move ae (λb p z=>jQ b p.1 z)<|λb p z=>⟨p.1,ae⟩
   .have hdj:decide ((j:Int)<(l.length:Int))=false:=bF;have ej:j=l.length:=ae;subst ej
    go_wp2
    go_ret;refine⟨_,gY,rfl,?_,GJ,E1.trans EJ,F1.trans FJ⟩;have hlm:(kY.map V).length=l.length:=by rw[List.length_map];exact HL.symm
    rw[uh HV,<-hlm];have z1:=uh HZ;refine .aM c _ _ _ (λi=>C.getD i .nilIface) EW (jz ⟨w1.heap.size,rfl,by show w.heap.size<=w1.heap.size;omega,zb,λi hi=>?_⟩) (λi hi=>?_)
    .obtain⟨u,hu,_⟩:=uh hT i hi ae;rw[BJ.c i,hu];simp[qg,hu]
    .obtain⟨u,hu,Um⟩:=uh hT i hi ae;have:C.getD i .nilIface=u:=qBm;rw[this];exact Um.wide λb p=>qAu
def Tc:∀k,Pm ds str vr ly lv F V k
 |0=>λw nx n h G hF hn hd hFh gL=>absurd gL (by have:=size_pos<|V h;omega)|k+1=>Pn<|Tc k
end
def Td{w:World}{ds:List Nat}{str:xG}{nx:Nx}{vr:Nat->Nat}{ly:Nat->Option Addr×Nat}{lv:Nat->Nat}(G:GL w ds str nx vr ly lv):∀l:List Nat,(∀m∈l,m∈ds)->∃hs,dH (Hd nx) l hs
 |[],_=>⟨[],.nil⟩|x::l,h=>by
  have⟨y,hy⟩:=G.hd x<|h x ag;have⟨hs,q⟩:=Td G l λm hm=>h m (by simp[hm]);exact⟨y::hs,.cons hy q⟩
def V8 ds str nx vr ly lv sb M(F:Nat->Prop)B(V:Nat->Ty)n w(e:Ending)w':=
 ∃bi,GL w' ds str bi vr ly lv/\iS str nx bi/\Fr (λb=>b∈ds\/b=sb) w w'/\
  ((∃M' F' V' h,e=.returned (.tuple #[.int .i64 ((min (size<|V' h) 49:Nat):Int),.bool true])/\Hd nx n h/\F' h/\(∀x,F x->F' x/\V' x=V x)/\SZ ds str bi vr M' F' B V'/\MS Ck w' sb M'/\(∀x,a_ x M'=none->a_ x M=none))\/
   (e=.returned (.tuple #[Iv 0,.bool false])/\∀W,¬mX str nx W))
def GC ds str vr ly lv sb k:=
 ∀(w:World)(nx:Nx)(M:List (Nat×Value))(F:Nat->Prop)(B:List Nat)(V:Nat->Ty)(n:Nat),GL w ds str nx vr ly lv->SZ ds str nx vr M F B V->MS Ck w sb M->n∈ds->(∀W,mX str nx W->∀b∈B,size (W n)<size (W b))->mu M ds<k->
  Cq 295 #[.agg #[Iv 48,Mv sb],nA n] w (V8 ds str nx vr ly lv sb M F B V n w)
def Te ds str nx vr ly lv sb bx M(F:Nat->Prop)B(V:Nat->Ty)N(hs:List Nat)w gk u v wr:=
 ∃(j:Nat)(gY:Nx)(Mj:List (Nat×Value))(Fj:Nat->Prop)(Vj:Nat->Ty)(sz:Nat),Hid (gk=N-j)/\j<=N/\u=Nv sz/\v=Nv j/\sz<=49/\Hid (sz=min (1+ak ((hs.take j).map Vj)) 49)/\GL wr ds str gY vr ly lv/\iS str nx gY/\Fr (λb=>b∈ds\/b=sb) w wr/\Bx wr bx #[Iv 48,Mv sb]/\
  Hid (SZ ds str gY vr Mj Fj B Vj)/\MS Ck wr sb Mj/\Hid ((∀x,F x->Fj x/\Vj x=V x)/\(∀x,a_ x Mj=none->a_ x M=none)/\∀x∈hs.take j,Fj x)
section
variable {lv:Nat->Nat}
def Po(IH:GC ds str vr ly lv sb k):GC ds str vr ly lv sb (k+1):=by
 intro w nx M F B V n G0 HS M0 hn hB hmu;have⟨h,HD⟩:=G0.hd n hn;have hh:=G0.bN hn HD;have⟨cr,BA⟩:=rq w #[.int .i64 48,.map<|some sb] 429;have GA:=G0.move cr.size<|λb i v hc=>cr.block b<|jM hc;have HC:=r9 GA hn HD;have zs:=M0.lt;have MA:=M0.below cr;have xP:∀x∈ds,x<w.heap.size:=λx hx=>(G0.nd x hx).lt;have hsd:¬sb∈ds:=λq=>by have:=(G0.nd sb q).cells.1;rw[M0.r8 0]at this;cases this
 have uF:¬w.heap.size∈ds:=λq=>by have:=xP _ q;omega
 go_enter func295,ntmps295;go_wp2_with fail;refine HC.mono ?_;rintro e w1⟨rfl,e_,G1,F1,E1,HZ⟩;have B1:=BA.fr F1 uF;have HM:=MA.same (F1.block sb (by have:=cr.size;omega) hsd);have HOK:∀x∈ds,∃c t,w1.heap[x]? =some (Cv c t (0,0)):=λx hx=>⟨_,_,(G1.nd x hx).1⟩;have hl:=HM.look abr Tryz.underlying427 (R8 w1) h (HOK h hh) (λp hp=>HOK p.1<|HS.kd p hp) true;have ca:=B1.c 0;have cb:=B1.c 1;have ca':=ca;have cb':=cb;have FF:Fr (λb=>b∈ds\/b=sb) w w1:=(Fr.of cr).trans' F1<|λx q=>Or.inl<|Or.inl q;have HD1:=E1.k_ _ _ HD;clear HC GA BA MA G0 M0 ca cb
 cases hg:a_ h M with
 |some v=>
  rw[hg]at hl;simp at hl;obtain q|q:=HS.gm h v hg
  .have hv:=HS.fg h q;rw[hg]at hv;injection hv with hv;subst hv;have HP:=SY<|V h;have l8:((((min (size<|V h) 49:Nat)):Int)==0)=false:=by simpa using HP
   generalize hq:(((min (size<|V h) 49:Nat)):Int)=sz at*
   go_wp2
   go_ret2;refine⟨e_,G1,E1,FF,j5 ⟨M,F,V,h,?_,HD,q,λx hx=>⟨hx,rfl⟩,HS.eqv E1,HM,λ_ hx=>hx⟩⟩;have e1:(sz !=0)=true:=by simpa using HP
   rw[hq];show Rv (Value.tuple #[.int .i64 sz,.bool<|sz !=0])=_;rw[e1]
  .have hv:=HS.bg h q;rw[hg]at hv;injection hv with hv;subst hv
   go_wp2
   go_ret2;refine⟨e_,G1,E1,FF,jz ⟨rfl,λW hW=>?_⟩⟩;have:=hB W hW h q;rw[HD.nW hW]at this;omega
 |none=>
  rw[hg]at hl;simp at hl;have⟨c0,f0,c2,c1,c3⟩:=(G1.nd h hh).cells;have Xk:=(G1.nd h hh).2.1;obtain⟨l,HLs,NI,hld⟩:∃l:List Nat,Hid ((str h=none/\l=[])\/∃c,str h=some (c,l))/\slN (str h)=l.length/\∀m∈l,m∈ds:=by
   cases hs:str h with
   |none=>exact⟨[],ai<|j5 ⟨rfl,rfl⟩,rfl,ag⟩|some p=>
    rw[hs]at Xk;exact⟨p.2,ai<|jz ⟨p.1,rfl⟩,rfl,Xk.2.2.1⟩
  have amL:l.length<=1001:=by
   obtain⟨_,e⟩|⟨c,e⟩:=uh HLs
   .subst e;simp
   .rw[e]at Xk;exact Xk.2.1
  have⟨hs,a2⟩:=Td G1 l hld;have HL:=AZ a2;obtain⟨sa,HA⟩:∃sa,Hid<|(ly h).1=sa:=⟨_,ai rfl⟩;rw[uh HA,NI]at c3;have c3':=c3;have HS:=HS.eqv E1;have kdS:=HS.kd;have hhb:h≠sb:=λe=>hsd<|e▸hh;clear c3 NI c0 c1 c2 f0 Xk;go_wp2_with(refine aV _ rfl _ _ _ _ (jz rfl) abr Tryz.underlying427 _ _ rfl HM h (.int .i64 0) rfl rfl (HOK h hh) (λp hp=>HOK p.1<|kdS p hp) ?_;intro w2 H' O';have Db:=ai H';have O2:=O';clear H' O';have alQ:w2.cell? ⟨h,4,none⟩=some (Lv sa l.length (ly h).2):=(qk (a:=⟨h,4,none⟩) (w:=w1)<|O2.block h hhb).trans c3');have FP:Fr (λb=>b∈ds\/b=sb) w w2:=⟨O2.os.trans FF.os,O2.tape.trans FF.tape,O2.output.trans FF.output,by rw[O2.size];exact FF.size,λb hz hn=>(O2.block b<|λe=>hn<|jz e).trans<|FF.block b hz hn⟩;have HBL:∀(gY:Nx),iS str e_ gY->∀j(hj:j<l.length)W,mX str gY W->∀b∈h::B,size (W l[j])<size (W b):=by
   intro gY EJ j hj W hW b hb;have hW0:=((E1.trans EJ).nW W).1 hW;have e1:=HD.nW hW0;have bA:size (W l[j])<size (W h):=by
    obtain⟨_,e⟩|⟨c,e⟩:=uh HLs
    .subst e;simp at hj
    .rw[hW0.made h c l e];have:=ni (V:=W)<|jk hj;simp[size];omega
   obtain q|q:=List.mem_cons.1 hb
   .rw[q];exact bA
   .have:=hB W hW0 b q;rw[e1]at this;omega
  have HGM:=hg;have alR:mu (bG h (.int .i64 0) M) ds<k:=by have:=abq HGM (.int .i64 0) hh;omega
  have aj5:∀b i v,w1.cell? ⟨b,i,none⟩=some v->w2.heap[b]? =w1.heap[b]? :=λb i v hc=>O2.block b (λe=>by subst e;rw[HM.r8 i]at hc;cases hc);have G2:=G1.move (by rw[O2.size];exact br _) aj5;have B2:=B1.one O2 ae;clear hl ca' cb' c3' alQ;go_loopg[8,34] l.length (λgk u v wr=>Te ds str e_ vr ly lv sb w.heap.size (bG h (.int .i64 0) M) F (h::B) V l.length hs w gk u v wr)
  case atStart=>
   exact⟨0,e_,bG h (.int .i64 0) M,F,V,1,ai ag,j7 _,rfl,rfl,ae,ai<|by simp[ak],G2,iS.refl _ _,FP,B2,ai<|HS.begin hh HGM,uh Db,ai ⟨λx hx=>⟨hx,rfl⟩,λ_ hx=>hx,ag⟩⟩
  case round=>
   obtain⟨j,gY,Mj,Fj,Vj,sz,dl,hj,rfl,rfl,gL,hsq,GJ,EJ,FJ,BJ,SJ,HMJ,hT⟩:=hrel;have zw:=FJ.size;have zb:=BJ.z;have ca:=BJ.c 0;have cb:=BJ.c 1;by_cases bm:j<l.length
   .have hdj:(j:Int)<(l.length:Int):=ae;obtain⟨c,hsc⟩:∃c,Hid<|str h=some (c,l):=by
     obtain⟨_,e⟩|⟨c,e⟩:=uh HLs
     .subst e;simp at bm
     .exact⟨c,ai e⟩
    have⟨ga,ea,cg,hga⟩:=GJ.row hh (uh hsc) bm;have xT:j<hs.length:=by rw[<-HL];exact bm
    have hdh:=EJ.k_ _ _<|Gx a2 j bm xT;have hmj:mu Mj ds<k:=Nat.lt_of_le_of_lt (Gy (uh hT).2.1 ds) alR;have HC:=IH wr gY Mj Fj (h::B) Vj l[j] GJ SJ HMJ (hld _<|jk bm) (HBL gY EJ j bm) hmj;have ea':=(uh HA).symm.trans ea;subst ea';clear ea;go_wp2_with fail;refine HC.mono ?_;rintro e w3⟨nx3,G3,E3,F3,⟨M3,F3',V3,h3,rfl,hd3,hF3,hV3,S3,MS3,hg3⟩|⟨rfl,nU⟩⟩
    .have e3:=hd3.one hdh;subst e3;obtain⟨s2,yu⟩:∃s2,Hid<|s2=min (size<|V3 hs[j]) 49:=⟨_,ai rfl⟩;rw[<-uh yu];have amM:s2<=49:=by rw[uh yu];omega
     have B3:=BJ.fr F3 (λq=>by obtain q|q:=q;exact uF q;omega);have ca3:=B3.c 0;have adE:∀(x:Bool)(w:World),(Op.unary .not<|.bool x).run xc w=.ok (.bool<|!x) w:=λ_ _=>rfl;clear HC ca cb cg
     have HR:∀sz',sz'<=49->sz'=min (sz+s2) 49->Te ds str e_ vr ly lv sb w.heap.size (bG h (.int .i64 0) M) F (h::B) V l.length hs w (l.length-(j+1)) (.int .i64 (sz':Int)) (.int .i64<|(j:Int)+1) w3:=(λsz' nu iZ=>by
      have⟨t1,t2,t3⟩:=uh hT;have alS:∀x∈hs.take (j+1),F3' x:=λx hx=>by
       rw[jo xT]at hx;obtain q|q:=List.mem_append.1 hx
       .exact(hV3 x<|t3 x q).1
       .simp at q;rw[q];exact hF3
      have hmp:(hs.take j).map V3=(hs.take j).map Vj:=by
       apply jx;intro x hx;exact(hV3 x<|t3 x hx).2
      have alT:∀(a:List Ty)(t:Ty),ak (a++[t])=ak a+size t:=by
       intro a t
       induction a with
       |nil=>simp[ak]|cons x a ih=>simp[ak,ih];omega
      refine⟨j+1,nx3,M3,F3',V3,sz',ai rfl,ae,rfl,jP,nu,ai ?_,G3,EJ.trans E3,FJ.trans F3,B3,ai S3,MS3,ai ⟨λx hx=>⟨(hV3 x (t1 x hx).1).1,((hV3 x (t1 x hx).1).2).trans (t1 x hx).2⟩,λx hx=>t2 x<|hg3 x hx,alS⟩⟩;rw[jo xT,List.map_append,hmp];simp only[jp,List.map_nil];rw[alT,iZ,uh hsq,uh yu]
      omega)
     clear hd3 hF3 hV3 S3 MS3 hg3 hT hsq yu G3 E3 F3;go_wp2_with fail;all_goals(go_roundg(l.length-(j+1)))
     all_goals(first|(rw[uh dl];omega)|exact HR 49 ae (by omega)|(have:=HR (sz+s2) ae ae;rw[Int.natCast_add]at this;exact this))
    .have adE:∀(x:Bool)(w:World),(Op.unary .not<|.bool x).run xc w=.ok (.bool<|!x) w:=λ_ _=>rfl;clear HC ca cb cg
     go_wp2
     go_ret2;exact⟨nx3,G3,(E1.trans EJ).trans E3,FJ.trans F3,jz ⟨rfl,λW hW=>nU W<|((E1.trans EJ).nW W).2 hW⟩⟩
   .have hdj:decide ((j:Int)<(l.length:Int))=false:=bF;have ej:j=l.length:=ae;subst ej;have bA:hs.take l.length=hs:=by rw[HL];exact jq
    have⟨t1,t2,t3⟩:=uh hT;have ad9:=uh hsq;rw[bA]at t3 ad9
    obtain⟨T,HT1,HT2⟩:∃T:Ty,Hid (sz=min (size T) 49)/\Hid (match str h with
     |none=>T=.var (vr h)|some (c,l)=>∃hs,dH (Hd gY) l hs/\(∀y,y∈hs->Fj y)/\T=.aM c (hs.map Vj)):=by
     obtain⟨e1,e2⟩|⟨c,e⟩:=uh HLs
     .have e3:hs=[]:=by
       have:=HL;rw[e2]at this;exact List.length_eq_zero_iff.1 this.symm
      refine⟨.var<|vr h,ai ?_,ai<|by rw[e1]⟩;rw[ad9,e3];simp[ak,size]
     .refine⟨.aM c<|hs.map Vj,ai ?_,ai ?_⟩
      .rw[ad9];simp[size]
      .rw[e];exact⟨hs,AY (λx y q=>EJ.k_ x y q) a2,t3,rfl⟩
    have hxB:¬h∈B:=λq=>by
     have:=HS.bg h q;rw[HGM]at this
     cases this
    have SD:=SJ.done hxB hh ((EJ.BH h).2<|(E1.k_ _ _ HD).head) T HT2;have aj6:∀x∈ds,∃c t,wr.heap[x]? =some (Cv c t (0,0)):=(λx hx=>⟨_,_,(GJ.nd x hx).1⟩);have kdJ:=(uh SJ).kd;have HTT:=And.intro t1 t2;clear hsq ad9 t1 t2 t3 hT bA HT2;go_wp2_with(refine aV _ rfl _ _ _ _ (jz rfl) abr Tryz.underlying427 _ _ rfl HMJ h (.int .i64 (sz:Int)) rfl rfl (aj6 h hh) (λp hp=>aj6 p.1<|kdJ p hp) ?_;intro w4 H' O';have HM4:=ai H';have O4:=O';clear H' O');go_ret2;obtain⟨t1,t2⟩:=HTT;have hsT:=uh HT1;have SD':=SD;rw[<-hsT]at SD';have hkp:∀b i v,wr.cell? ⟨b,i,none⟩=some v->w4.heap[b]? =wr.heap[b]? :=λb i v hc=>O4.block b (λe=>by subst e;rw[HMJ.r8 i]at hc;cases hc);refine⟨gY,GJ.move (by rw[O4.size];exact br _) hkp,E1.trans EJ,⟨O4.os.trans FJ.os,O4.tape.trans FJ.tape,O4.output.trans FJ.output,by rw[O4.size];exact FJ.size,λb hz hn=>(O4.block b<|λe=>hn<|jz e).trans<|FJ.block b hz hn⟩,j5 ⟨bG h (.int .i64 (sz:Int)) Mj,λy=>Fj y\/y=h,jd Vj h T,h,?_,HD,jz rfl,λx hx=>⟨j5 (t1 x hx).1,?_⟩,SD',uh HM4,λx hx=>?_⟩⟩
    .have e1:jd Vj h T h=T:=Q5;rw[e1,<-hsT];rfl
    .have cV:x≠h:=λe=>by subst e;exact(uh SJ).apart (t1 x hx).1 ag
     simp only[jd,cV,if_false];exact(t1 x hx).2
    .rw[aN]at hx;split at hx
     .cases hx
     .have:=t2 x hx;rw[aN]at this;split at this
      .cases this
      .exact this
def Tf:∀k,GC ds str vr ly lv sb k
 |0=>λw nx M F B V n _ _ _ _ _ hmu=>absurd hmu (j9 _)|k+1=>Po<|Tf k
end
section
variable {nx:Nx} {lv:Nat->Nat}
def ad_ ds str nx vr ly lv n w(e:Ending)w':=
 ∃bi,GL w' ds str bi vr ly lv/\iS str nx bi/\Fr (λb=>b∈ds) w w'/\
  ((∃F V h,e=.returned (.tuple #[.int .i64 ((min (size<|V h) 49:Nat):Int),.bool true])/\Hd nx n h/\F h/\jh str bi vr F V/\∀x,F x->x∈ds)\/
   (e=.returned (.tuple #[Iv 0,.bool false])/\∀W,¬mX str nx W))
def wV(G:GL w ds str nx vr ly lv)(hn:n∈ds):Cq 288 #[nA n,Iv 48] w (ad_ ds str nx vr ly lv n w):=by
 have jA:= @run_makeMap Tryz.prog;have cr:Bq w (w.alloc<|.map #[] 0):=bw _;have GA:=G.move cr.size<|λb i v hc=>cr.block b<|jM hc;have S0:SZ ds str nx vr [] (λ_=>False) [] (λ_=>.var 0):=⟨λ_ q=>q.elim,λ_ q=>q.elim,λ_ q=>(List.not_mem_nil q).elim,λx v q=>(by simp[a_]at q),λ_ q=>(List.not_mem_nil q).elim⟩;have HC:=Tf (mu [] ds+1) (w.alloc<|.map #[] 0) nx [] (λ_=>False) [] (λ_=>.var 0) n GA S0 (MS.new Ck w) hn (λ_ _ b hb=>by simp at hb) (Nat.lt_succ_self _);have xP:∀x∈ds,x<w.heap.size:=λx hx=>(G.nd x hx).lt;go_enter func288,ntmps288;go_wp2_with fail;refine HC.mono ?_
 have xZ:∀w',Fr (λb=>b∈ds\/b=w.heap.size) (w.alloc<|.map #[] 0) w'->Fr (λb=>b∈ds) w w':=λw' h=>(Fr.of cr).trans' h (λx q=>by
  obtain q|q:=q
  .exact j5 q
  .exact jz ae)
 rintro e w1⟨e_,G1,E1,F1,⟨M1,F',V',h,rfl,hd,hF,hV,HS,MS1,hg⟩|⟨rfl,nU⟩⟩
 .obtain⟨s2,yu⟩:∃s2:Nat,Hid<|s2=min (size<|V' h) 49:=⟨_,ai rfl⟩;rw[<-uh yu]
  go_wp2
  go_ret2;refine⟨e_,G1,E1,xZ w1 F1,j5 ⟨F',V',h,?_,hd,hF,HS.fin,λx hx=>HS.fd hx⟩⟩;rw[<-uh yu];rfl
 .clear HC
  go_wp2
  go_ret2;exact⟨e_,G1,E1,xZ w1 F1,jz ⟨rfl,nU⟩⟩
end
structure f_ where
 ds:List Nat
 str:xG
 nx:Nx
 vr:Nat->Nat
 ly:Nat->Option Addr×Nat
 lv:Nat->Nat
 V:Nat->Ty
abbrev f_.L(g:f_)i v:=Lo g.ds g.str g.nx g.vr g.lv i v
abbrev f_.R(g:f_)v x:=Rt g.ds g.str g.nx g.vr v x
structure JS w(g:f_)(s:qs):Prop where
 gl:GL w g.ds g.str g.nx g.vr g.ly g.lv
 nF:vW g.str g.nx []
 inj:∀a b,a∈g.ds->b∈g.ds->g.str a=none->g.str b=none->g.vr a=g.vr b->a=b
 can:Can g.str g.nx g.vr g.V
 lc:LC g.str g.ds g.nx g.lv
 val:∀n,n∈g.ds->g.str n=none->g.V n=s.k (g.vr n)
 use:∀n,n∈g.ds->g.str n=none->s.u (g.vr n)
 ok:In.Ok s
section
variable {g g1 g2:f_} {s s1 s2:qs}
def GL.jg{nx:Nx}{lv:Nat->Nat}(h:GL w ds str nx vr ly lv)(hc:vW str nx [])(hi:∀a b,a∈ds->b∈ds->str a=none->str b=none->vr a=vr b->a=b):JG ds str nx vr where
 Pf n:=by
  by_cases q:n∈ds
  .exact h.hd n q
  .exact⟨n,.here (h.out n q).1⟩
 k_ n x hn k:=h.bN hn k
 Xi a c l ha hs p hp:=(h.part ha hs).2 p hp
 inj:=hi
 nF:=hc
def JS.jg(h:JS w g s):JG g.ds g.str g.nx g.vr:=h.gl.jg h.nF h.inj
def JS.og(h:JS w g s){v:Nat}(hn:n∈g.ds)(o:aw v (g.V n)):∃x,g.R v x:=by
 have⟨y,hy⟩:=h.jg.Pf n;have⟨x,r,_⟩:=fE (lv:=g.lv) h.jg h.can _ n y hn hy (br _) o;exact⟨x,r⟩
def JS.root(h:JS w g s){v:Nat}(r:g.R v x):s.u v/\s.k v=.var v:=by
 rw[<-r.2.2.2];exact⟨h.use x r.1 r.2.2.1,by rw[<-h.val x r.1 r.2.2.1,r.val h.can,r.2.2.2]⟩
def JS.eqv(h:JS w g s){bi}(e:iS g.str g.nx bi)(hg:GL w' g.ds g.str bi g.vr g.ly g.lv):JS w' {g with nx:=bi} s:=
 ⟨hg,e.nF _ h.nF,h.inj,λn x k=>h.can n x<|e.back h.gl k,(wU.eqv h.gl e).lc h.lc,h.val,h.use,h.ok⟩
structure iT L(g:f_)(s:qs)(g1:f_)(s1:qs):Prop where
 fe:∀n,n∈g.ds->n∈g1.ds/\g1.str n=g.str n/\g1.vr n=g.vr n
 val:∀n,n∈g.ds->g1.V n=sub s1.k (g.V n)
 VY:∀i,i<L->∀x,g1.L i x↔∃v,g.L i v/\aw x (s1.k v)
def iT.key{L}(h:JS w g s)(k:iT L g s g1 s1)(h1:JS w' g1 s1)(hn:n∈g.ds)(hs:g.str n=none):s1.k (g.vr n)=sub s1.k (s.k<|g.vr n):=by
 have⟨b1,b2,b3⟩:=k.fe n hn;rw[<-h.val n hn hs,<-k.val n hn,h1.val n b1<|b2.trans hs,b3]
def iT.refl(h:JS w g s)L:iT L g s g s:=
 ⟨λn hn=>⟨hn,rfl,rfl⟩,λn hn=>(In.gH λv o=>by have⟨x,r⟩:=h.og hn o;exact(h.root r).2).symm,λi _ x=>⟨λq=>⟨x,q,by obtain⟨y,r,_⟩:=q;rw[(h.root r).2];rfl⟩,λ⟨v,q,o⟩=>by obtain⟨y,r,l⟩:=q;rw[(h.root r).2]at o;simp only[aw]at o;subst o;exact⟨y,r,l⟩⟩⟩
def iT.trans{L}{w2}(h:JS w g s)(h1:JS w' g1 s1)(h2:JS w2 g2 s2)(k:iT L g s g1 s1)(k1:iT L g1 s1 g2 s2):iT L g s g2 s2:=by
 have key:∀v y,g.R v y->s2.k v=sub s2.k (s1.k v):=λv y r=>by
  have⟨b1,b2,b3⟩:=k.fe y r.1;have:=k1.key h1 h2 b1<|b2.trans r.2.2.1
  rwa[b3,r.2.2.2]at this
 refine⟨λn hn=>?_,λn hn=>?_,λi hi x=>?_⟩
 .have⟨b1,b2,b3⟩:=k.fe n hn;have⟨c1,c2,c3⟩:=k1.fe n b1;exact⟨c1,c2.trans b2,c3.trans b3⟩
 .rw[k1.val n (k.fe n hn).1,k.val n hn,sub_sub];refine sub_congr _ λv o=>?_;have⟨y,r⟩:=h.og hn o;exact(key v y r).symm
 .rw[k1.VY i hi x];constructor
  .rintro⟨v1,q,o⟩;have⟨v,q0,o0⟩:=(k.VY i hi v1).1 q;refine⟨v,q0,?_⟩;obtain⟨y,r,_⟩:=q0;rw[key v y r];exact(qt _).2 ⟨v1,o0,o⟩
  .rintro⟨v,q0,o⟩;obtain⟨y,r,ly⟩:=q0;rw[key v y r]at o;have⟨v1,o0,o1⟩:=(qt _).1 o;exact⟨v1,(k.VY i hi v1).2 ⟨v,⟨y,r,ly⟩,o0⟩,o1⟩
def iT.eqv(h:JS w g s)(e:iS g.str g.nx bi)(hg:GL w' g.ds g.str bi g.vr g.ly g.lv)L:iT L g s {g with nx:=bi} s:=by
 have r:=iT.refl h L;refine⟨r.fe,r.val,λi hi x=>?_⟩;rw[<-r.VY i hi x];exact⟨λ⟨y,⟨q1,q2,q3⟩,l⟩=>⟨y,⟨q1,(e.BH y).1 q2,q3⟩,l⟩,λ⟨y,⟨q1,q2,q3⟩,l⟩=>⟨y,⟨q1,(e.BH y).2 q2,q3⟩,l⟩⟩
def Tg{str:xG}{nx:Nx}{vr:Nat->Nat}{ds:List Nat}{F:Nat->Prop}{VF V:Nat->Ty}(hF:jh str nx vr F VF)(hV:Can str nx vr V):∀k x,size (V x)<=k->F x->VF x=V x
 |0,x,h,_=>by have:=size_pos<|V x;omega|k+1,x,hz,hx=>by
  have⟨h1,h2⟩:=hF x hx;have e:=hV x x<|.here h1
  cases hs:str x with
  |none=>rw[hs]at h2 e;rw[h2,e]|some q=>
   obtain⟨c,l⟩:=q;rw[hs]at h2 e;have e:V x=.aM c (l.map V):=e;obtain⟨yu,a1,a2,a3⟩:=h2;rw[a3,e];congr 1;refine(A9 a1 λp y hp hy r=>?_).symm;have l8:V p=V y:=by rw[hV p y r,hV y y<|.here (hF y<|a2 y hy).1]
   rw[l8];refine(Tg (ds:=ds) hF hV k y ?_<|a2 y hy).symm;have:=jY (c:=c) (U:=V) hp;rw[<-e,l8]at this;omega
def aea{nx}(g:JG ds str nx vr)(hV:Can str nx vr V):jh str nx vr (λh=>h∈ds/\nx h=none) V:=λh hh=>by
 refine⟨hh.2,?_⟩;have e:=hV h h<|.here hh.2
 cases hs:str h with
 |none=>rw[hs]at e;exact e|some q=>
  obtain⟨c,l⟩:=q;rw[hs]at e;have e:V h=.aM c (l.map V):=e;have hp:=g.Xi h c l hh.1 hs;have:∀l:List Nat,(∀p,p∈l->p∈ds)->∃hs,dH (Hd nx) l hs/\(∀x,x∈hs->x∈ds/\nx x=none)/\l.map V=hs.map V:=by
   intro l
   induction l with
   |nil=>exact λ_=>⟨[],.nil,ag,rfl⟩|cons p l ih=>
    intro hl;have⟨y,hy⟩:=g.Pf p;have⟨hs,h1,h2,h3⟩:=ih λq hq=>hl q (by simp[hq]);refine⟨y::hs,.cons hy h1,λx hx=>?_,?_⟩
    .obtain e|e:=List.mem_cons.1 hx
     .subst e;exact⟨g.k_ p _ (hl p ag) hy,hy.head⟩
     .exact h2 x e
    .simp only[jp,h3];rw[show V p=V y from by rw[hV p y hy,hV y y<|.here hy.head]]
  have⟨yu,h1,h2,h3⟩:=this l hp;exact⟨yu,h1,h2,by rw[e,h3]⟩
end
abbrev guJ(f:Fl)(vl vr:Value):Value:=.iface 411<|.agg #[Nv f.kind,Nv f.al,Nv f.to,vl,vr]
abbrev Pp(f:Fl)(vl vr:Value):Ending:=.panicked [{v:=guJ f vl vr,recovered:=false}]
section
variable {g:f_} {s:qs}
def JS.lt(h:JS w g s){n}(hn:n∈g.ds):n<w.heap.size:=(h.gl.nd n hn).lt
def GL.af{nx}{lv}(h:GL w ds str nx vr ly lv)(hb:Bq w w'):GL w' ds str nx vr ly lv:=h.move hb.size λb i v hc=>hb.block b<|jM hc
def JS.af(h:JS w g s)(hb:Bq w w'):JS w' g s:=⟨h.gl.af hb,h.nF,h.inj,h.can,h.lc,h.val,h.use,h.ok⟩
def aeb(h:JS w g s)(hn:n∈g.ds):Cq 288 #[nA n,Iv 48] w (λe w'=>e=.returned (.tuple #[.int .i64 ((min (size<|g.V n) 49:Nat):Int),.bool true])/\∃bi,iS g.str g.nx bi/\JS w' {g with nx:=bi} s/\Fr (λb=>b∈g.ds) w w'):=by
 refine(wV h.gl hn).mono ?_;rintro e w'⟨bi,G,E,F,⟨Fs,VF,x,rfl,hd,hx,hF,_⟩|⟨_,nU⟩⟩
 .have js:=h.eqv E G;have e1:=Tg (ds:=g.ds) hF js.can _ x (br _) hx;have e2:g.V n=g.V x:=by rw[h.can n x hd,h.can x x<|.here hd.head]
  refine⟨by rw[e1,e2],bi,E,js,F⟩
 .exact absurd (h.can.nW h.jg) (nU _)
def sd(h:JS w g s)(hn:n∈g.ds)f t:Cq 282 #[nA n,.agg #[Nv f,Nv t]] w (λe w'=>(∃bi,iS g.str g.nx bi/\JS w' {g with nx:=bi} s)/\Fr (λb=>b∈g.ds) w w'/\((size (g.V n)<=48/\e=.returned (.tuple #[]))\/(48<size (g.V n)/\e=Pp ⟨7,f,t⟩ .nilIface .nilIface))):=by
 have⟨k0,B0⟩:=rq w #[Nv f,Nv t] 72;have HS:=aeb (h.af k0) hn;have hz:¬w.heap.size∈g.ds:=λq=>by have:=h.lt q;omega
 have K0:=ai k0;go_enter func282,ntmps282;go_wp2_with fail;refine HS.mono ?_;rintro e w1⟨rfl,e_,EE,JJ,F1⟩;have HF:=(Fr.of K0).trans F1;by_cases hb:48<size (g.V n)
 .have hm:(48:Int)<((min (size<|g.V n) 49:Nat):Int):=ae;obtain⟨M,hM⟩:∃M:Int,M=((min (size<|g.V n) 49:Nat):Int):=⟨_,rfl⟩;rw[<-hM]at hm⊢;have HT:=nh (w:=w1) (f:Int) (t:Int);have⟨c1,c2,c3⟩:=B0.fr F1 hz;go_wp2_with fail;refine HT.mono ?_;rintro e w2⟨rfl,K2⟩
  go_wp2
  exact⟨rfl,⟨e_,EE,JJ.af K2⟩,HF.trans<|Fr.of K2,jz ⟨hb,rfl⟩⟩
 .have hm:¬(48:Int)<((min (size<|g.V n) 49:Nat):Int):=ae;obtain⟨M,hM⟩:∃M:Int,M=((min (size<|g.V n) 49:Nat):Int):=⟨_,rfl⟩;rw[<-hM]at hm⊢
  go_wp2
  go_end0;exact⟨⟨e_,EE,JJ⟩,HF,j5 ⟨ae,rfl⟩⟩
def yH(h:JS w g s)(hn:n∈g.ds):Cq 284 #[nA n] w (λe w'=>∃tu xu bi,e=.returned (.iface tu xu)/\dW w' (λb=>w.heap.size<=b) (g.V n) (.iface tu xu)/\iS g.str g.nx bi/\JS w' {g with nx:=bi} s/\Fr (λb=>b∈g.ds) w w'):=by
 have⟨x,hx⟩:=h.jg.Pf n;refine(Tc _ w g.nx n x h.gl (aea h.jg h.can) hn hx ⟨h.jg.k_ n x hn hx,hx.head⟩<|br _).mono ?_;rintro e w'⟨u,bi,rfl,hu,G,E,F⟩;obtain⟨tu,xu,rfl⟩:=hu.iface;exact⟨tu,xu,bi,rfl,by rw[show g.V n=g.V x from by rw[h.can n x hx,h.can x x<|.here hx.head]];exact hu,E,h.eqv E G,F⟩
def JR.post{nx}(h:JR str nx e_ a b true)(e:iS str e_ q_):JR str nx q_ a b true:=
 ⟨λP E q=>h.eqs P E<|e.eqs P E q,λ_=>⟨λV=>(e.nW V).trans<|(h.yes rfl).1 V,λP q=>e.nF P<|(h.yes rfl).2.1 P q,λP E q=>(h.yes rfl).2.2 P E<|e.eqs P E q⟩,λq=>lq⟩
def JS.join(h:JS w g s)(hg:GL w' g.ds g.str bi g.vr g.ly cB)(jr:JR g.str g.nx bi a b true)(lr:wU g.str g.ds g.nx g.lv bi cB)(hF:jh g.str bi g.vr F VF)(hx:Hd bi a x)(hFx:F x)(ha:a∈g.ds)(hb:b∈g.ds){ta tb}(ea:g.V a=sub s.k ta)(eb:g.V b=sub s.k tb)(za:size (g.V a)<=48)(zb:size (g.V b)<=48)f t:
 ∃V' s',JS w' {g with nx:=bi,lv:=cB,V:=V'} s'/\(∀L,iT L g s {g with nx:=bi,lv:=cB,V:=V'} s')/\qu ta tb f t s (.ok ((),s'))/\s'.u=s.u:=by
 have hc':=(jr.yes rfl).2.1 [] h.nF;have g':=hg.jg hc' h.inj;have⟨V',θ,jw⟩:=abC h.jg h.can g' jr lr hF hx hFx ha hb;have tin:∀{n:Nat}{T:Ty},n∈g.ds->g.V n=sub s.k T->In.cA (λ_=>True) s (sub s.k T):=λhn e=>⟨λv o=>by rw[<-e]at o;have⟨y,r⟩:=h.og hn o;exact(h.root r).1,λ_ _=>trivial⟩;have he:∀{ta tb:Ty},g.V a=sub s.k ta->g.V b=sub s.k tb->qu ta tb f t s (.ok ((),⟨λv=>sub θ<|s.k v,s.u⟩)):=λea eb=>jz ⟨by rw[<-ea];exact za,by rw[<-eb];exact zb,j5 ⟨θ,by rw[<-ea,<-eb];exact jw.mgu,rfl⟩⟩;have FK:=(In.fH (Λ:=λ_=>True) h.ok (λ_ _=>trivial) (tin ha ea) (tin hb eb) f t _ _<|he (by rw[h.ok.qW,ea])<|by rw[h.ok.qW,eb]).1.ok;have js:JS w' {g with nx:=bi,lv:=cB,V:=V'} ⟨λv=>sub θ<|s.k v,s.u⟩:=
  ⟨hg,hc',h.inj,jw.can,lr.lc h.lc,λn hn hs=>by show V' n=sub θ (s.k<|g.vr n);rw[jw.val n hn,h.val n hn hs],h.use,FK⟩
 have hr:∀v y,g.R v y->sub θ (s.k v)=θ v:=λv y r=>by rw[(h.root r).2];rfl
 refine⟨V',⟨λv=>sub θ<|s.k v,s.u⟩,js,λL=>⟨λn hn=>⟨hn,rfl,rfl⟩,λn hn=>?_,λi _ w=>?_⟩,he ea eb,rfl⟩
 .show V' n=sub (λv=>sub θ<|s.k v) (g.V n);rw[jw.val n hn];refine sub_congr _ λv o=>?_;have⟨y,r⟩:=h.og hn o;exact(hr v y r).symm
 .show Lo g.ds g.str bi g.vr cB i w↔_;rw[abD h.jg h.can g' lr h.lc jw i w];constructor
  .rintro⟨v,⟨y,r,ly⟩,o⟩;exact⟨v,⟨y,r,ly⟩,by show aw w (sub θ<|s.k v);rw[hr v y r];exact o⟩
  .rintro⟨v,⟨y,r,ly⟩,o⟩;have o:aw w (sub θ<|s.k v):=o;rw[hr v y r]at o;exact⟨v,⟨y,r,ly⟩,o⟩
def JS.apart(h:JS w g s)(hn:∀W,mX g.str g.nx W->W a≠W b)σ:sub σ (g.V a)≠sub σ (g.V b):=by
 have sV:=h.can.nW h.jg;exact hn (λn=>sub σ<|g.V n) ⟨λn c l hs=>by rw[sV.made n c l hs];simp only[sub];rw[jU],λn m e=>by rw[sV.bD n m e]⟩
def aec{nx}{lv}(G:GL w ds str nx vr ly lv)(hn:n∈ds):Cq 310 #[nA n] w (λe w'=>∃ok bi,e=.returned (.bool ok)/\GL w' ds str bi vr ly lv/\iS str nx bi/\Fr (λb=>b∈ds) w w'/\(ok=true->∃F V x,Hd nx n x/\F x/\jh str bi vr F V)/\(ok=false->∀W,¬mX str nx W)):=by
 have HS:=wV G hn;go_enter func310,ntmps310;go_wp2_with fail;refine HS.mono ?_;rintro e w1⟨e_,G1,E1,F1,⟨F,V,x,rfl,h1,h2,h3,_⟩|⟨rfl,nU⟩⟩
 .have HX:=show∃ok bi,Rv (.bool true)=Rv (.bool ok)/\GL w1 ds str bi vr ly lv/\iS str nx bi/\Fr (λb=>b∈ds) w w1/\(ok=true->∃F V x,Hd nx n x/\F x/\jh str bi vr F V)/\(ok=false->∀W,¬mX str nx W)from⟨true,e_,rfl,G1,E1,F1,λ_=>⟨F,V,x,h1,h2,h3⟩,λq=>lq⟩;obtain⟨M,hM⟩:∃M:Int,M=((min (size<|V x) 49:Nat):Int):=⟨_,rfl⟩;rw[<-hM]
  go_wp2
  go_ret;exact HX
 .have HX:=show∃ok bi,Rv (.bool false)=Rv (.bool ok)/\GL w1 ds str bi vr ly lv/\iS str nx bi/\Fr (λb=>b∈ds) w w1/\(ok=true->∃F V x,Hd nx n x/\F x/\jh str bi vr F V)/\(ok=false->∀W,¬mX str nx W)from⟨false,e_,rfl,G1,E1,F1,(λq=>lq),λ_=>nU⟩
  go_wp2
  go_ret;exact HX
def t_ g(s:qs)a b x y f t w e w':=Fr (λb=>b∈g.ds) w w'/\
 ((e=.returned (.tuple #[])/\∃bi cB V' s',JS w' {g with nx:=bi,lv:=cB,V:=V'} s'/\(∀L,iT L g s {g with nx:=bi,lv:=cB,V:=V'} s')/\qu x y f t s (.ok ((),s'))/\s'.u=s.u/\(∀m,m∈g.ds->∀h h',Hd g.nx m h->Hd bi m h'->cB h'<=g.lv h)/\tZ g.str g.ds g.nx g.lv bi cB a b)\/
  (∃z vl vr,e=Pp z.f vl vr/\qu x y f t s (.error z)/\ru w' (λb=>w.heap.size<=b) z vl vr))
def abF(h:JS w g s)(ha:a∈g.ds)(hb:b∈g.ds){x y}(ea:g.V a=sub s.k x)(eb:g.V b=sub s.k y)f t:
 Cq 294 #[nA a,nA b,.agg #[Nv f,Nv t]] w (t_ g s a b x y f t w):=by
 have⟨k0,B0⟩:=uo w #[Nv f,Nv t] 72;have H1:=sd (h.af k0) ha f t;have hz:¬w.heap.size∈g.ds:=λq=>by have:=h.lt q;omega
 have LT:∀n,n∈g.ds->n<w.heap.size:=λn q=>h.lt q;have K0:=ai k0;have⟨c1,c2,c3⟩:=uh B0;go_enter func294,ntmps294;go_wp2_with fail;refine H1.mono ?_;rintro e w1⟨⟨e_,E1',J1⟩,F1,hs1⟩;have aj7:=(Fr.of K0).trans F1;obtain⟨hza,rfl⟩|⟨hza,rfl⟩:=hs1.symm
 .have HX:=show t_ g s a b x y f t w (Pp ⟨7,f,t⟩ Zv Zv) w1 from⟨aj7,jz ⟨In.qN f t,Zv,Zv,rfl,j5 ⟨j5 (by rw[<-ea];exact hza),rfl⟩,⟨λ_=>⟨rfl,rfl⟩,(λq=>lq),jz rfl⟩⟩⟩
  go_wp2
  exact⟨rfl,HX⟩
 have B1:=ai<|B0.fr F1 hz;have⟨c1,c2,c3⟩:=uh B1;have H2:=sd J1 hb f t;go_wp2_with fail;refine H2.mono ?_;rintro e w2⟨⟨q_,E2,J2⟩,F2,yu⟩;have ahH:=aj7.trans F2;obtain⟨hzb,rfl⟩|⟨hzb,rfl⟩:=yu.symm
 .have HX:=show t_ g s a b x y f t w (Pp ⟨7,f,t⟩ Zv Zv) w2 from⟨ahH,jz ⟨In.qN f t,Zv,Zv,rfl,j5 ⟨jz (by rw[<-eb];exact hzb),rfl⟩,⟨λ_=>⟨rfl,rfl⟩,(λq=>lq),jz rfl⟩⟩⟩
  go_wp2
  exact⟨rfl,HX⟩
 have B2:=B1.fr F2 hz;have H3:=yH J2 ha;have E2':=E1'.trans E2;have z2:=ahH.size;go_wp2_with fail;refine H3.mono ?_;rintro e w3⟨tl3,xl3,nx3,rfl,T3,E3,J3,F3⟩;have H4:=yH J3 hb;have B3:=B2.fr F3 hz;have af6:=ahH.trans F3;have E3':=E2'.trans E3;have z3:=F3.size;go_wp2_with fail;refine H4.mono ?_;rintro e w4⟨tl4,xl4,BI,rfl,T4,E4,J4',F4⟩;have H5:=abz _ w4 BI g.lv J4'.gl (br _) a b ha hb;have B4:=B3.fr F4 hz;have alU:=af6.trans F4;have ahI:=E3'.trans E4;have z4:=F4.size;have Bw:∀b:Nat,w.heap.size<=b->¬b∈g.ds:=λb hb q=>by have:=LT b q;omega
 have T3':=T3.fr F4 (λb p _=>Bw b (by have:w2.heap.size<=b:=p;omega));go_wp2_with fail;refine H5.mono ?_;rintro e w5⟨ok,nx5,lv5,rfl,G5',F5,z5,_,JR5,lr5⟩;have APX:∀(W:World)(vl:TypeId)(xl:Value)(vr:TypeId)(xr:Value),Fr (λb=>b∈g.ds) w W->dW W (λb=>w.heap.size<=b) (g.V a) (Fv vl xl)->dW W (λb=>w.heap.size<=b) (g.V b) (Fv vr xr)->(∀σ,sub σ (g.V a)≠sub σ (g.V b))->t_ g s a b x y f t w (Pp ⟨6,f,t⟩ (Fv vl xl)<|Fv vr xr) W:=λW vl xl vr xr hF h1 h2 h3=>
  ⟨hF,jz ⟨⟨⟨6,f,t⟩,g.V a,g.V b⟩,_,_,rfl,jz ⟨by rw[<-ea];exact hza,by rw[<-eb];exact hzb,jz ⟨by rw[<-ea,<-eb];exact h3,by rw[<-ea,<-eb]⟩⟩,⟨(λq=>lq),λ_=>⟨h1,h2⟩,j5 rfl⟩⟩⟩
 have T35:=(T3'.fr F5<|λb p _=>Bw b (by have:w2.heap.size<=b:=p;omega)).wide (Q:=λb=>w.heap.size<=b) λb p=>by have:w2.heap.size<=b:=p;omega
 have T45:=(T4.fr F5<|λb p _=>Bw b (by have:w3.heap.size<=b:=p;omega)).wide (Q:=λb=>w.heap.size<=b) λb p=>by have:w3.heap.size<=b:=p;omega
 have ahJ:=alU.trans F5;have B5:=B4.fr F5 hz
 cases ok with
 |false=>
  have hap:∀σ,sub σ (g.V a)≠sub σ (g.V b):=λσ=>J4'.apart (g:={g with nx:=BI}) (JR5.no rfl) σ;obtain⟨c1,c2,c3⟩:=B5;have HA:=Gq (w:=w5) (f:Int) (t:Int) tl3 tl4 xl3 xl4;go_wp2_with fail;refine HA.mono ?_;rintro e w6⟨rfl,k6⟩;have HX:=APX w6 tl3 xl3 tl4 xl4 (ahJ.trans<|Fr.of k6) (T35.af k6) (T45.af k6) hap
  go_wp2
  exact⟨rfl,HX⟩
 |true=>
  have H6:=aec G5' ha;have LR5:=lr5 rfl;go_wp2_with fail;refine H6.mono ?_;rintro e w6⟨ok6,nx6,rfl,G6,E6,F6,hy,hn⟩
  cases ok6 with
  |false=>
   have hap:∀σ,sub σ (g.V a)≠sub σ (g.V b):=λσ eσ=>by
    have j4:=J4';have sV:=j4.can.nW j4.jg;exact hn rfl (λn=>sub σ<|g.V n) (((JR5.yes rfl).1 _).2 ⟨⟨λn c l hs=>by rw[sV.made n c l hs];simp only[sub];rw[jU],λn m e=>by rw[sV.bD n m e]⟩,eσ⟩)
   have⟨c1,c2,c3⟩:=B5.fr F6 hz;have HA:=Gq (w:=w6) (f:Int) (t:Int) tl3 tl4 xl3 xl4;have T36:=T35.fr F6<|λb p _=>Bw b p;have T46:=T45.fr F6<|λb p _=>Bw b p;have alV:=ahJ.trans F6;go_wp2_with fail;refine HA.mono ?_;rintro e w7⟨rfl,k7⟩;have HX:=APX w7 tl3 xl3 tl4 xl4 (alV.trans<|Fr.of k7) (T36.af k7) (T46.af k7) hap
   go_wp2
   exact⟨rfl,HX⟩
  |true=>
   have⟨FF,VF,z,q1,q2,q3⟩:=hy rfl;have j4:=J4';have hjr:=JR5.post E6;have g5:=G5';have hlr:=LR5.1.trans (wU.eqv g5 E6) g5.hd<|λU q=>(E6.nW U).1 q;have⟨V',s',js,st,he,hu⟩:=j4.join (x:=z) G6 hjr hlr q3 (E6.k_ _ _ q1) q2 ha hb ea eb hza hzb f t;have HX:=show t_ g s a b x y f t w (Rv<|.tuple #[]) w6 from⟨ahJ.trans F6,j5 ⟨rfl,nx6,lv5,V',s',js,λL=>iT.trans h j4 js (iT.eqv h ahI j4.gl L)<|st L,he,hu,λm hm p p' k k'=>hlr.mono m hm p p' (ahI.k_ _ _ k) k',(LR5.2.post g5 E6).pre h.gl ahI⟩⟩
   go_wp2
   go_end0;exact HX
end
section
variable {g:f_} {s:qs}
def GL.add{ds}{str}{nx}{vr}{ly}{lv}(h:GL w ds str nx vr ly lv)(hw:Bq w w'){n:Nat}(hn:w.heap.size<=n)s v a l(hh:w'.heap[n]? =some (.cells #[.pointer none,Nv l,Nv v,.string<|byS s,.slice a.1 (slN s) a.2] 423 (0,0)))(hp:iu w' (n::ds) a.1 s):
 GL w' (n::ds) (jd str n s) nx (jd vr n v) (jd ly n a) (jd lv n l):=by
 have hb:∀b i v,w.cell? ⟨b,i,none⟩=some v->w'.heap[b]? =w.heap[b]? :=λb i v hc=>hw.block b<|jM hc;have nd:¬n∈ds:=λq=>by have:=(h.nd n q).lt;omega
 have nn:=(h.out n nd).1;refine⟨λx hx=>?_,λx hx=>?_,λx hx=>?_⟩
 .by_cases e:x=n
  .subst e;refine⟨by simpa[jd,nP,nn]using hh,by simpa[jd]using hp,λm hm=>by rw[nn]at hm;cases hm⟩
  .have Gt:=(List.mem_cons.1 hx).resolve_left e;have hc:=(h.nd x Gt).cells.1;have⟨h1,h2,h3⟩:=h.nd x Gt;refine⟨?_,?_,λm hm=>jl _<|h3 m hm⟩
   .rw[hb x 0 _ hc,h1];simp[jd,e]
   .simp only[jd,e,if_false];exact(h2.more hn).move hw.size hb
 .have Gt:x≠n/\¬x∈ds:=⟨λe=>hx UH,λe=>hx UH⟩;exact⟨(h.out x Gt.2).1,by simpa[jd,Gt.1]using(h.out x Gt.2).2⟩
 .by_cases e:x=n
  .subst e;exact⟨x,.here nn⟩
  .exact h.hd x ((List.mem_cons.1 hx).resolve_left e)
abbrev f_.add(g:f_)(n:Nat)(q:Option (BA×List Nat))(v:Nat)(a:Option Addr×Nat)(l:Nat)(T:Ty):f_:=⟨n::g.ds,jd g.str n q,g.nx,jd g.vr n v,jd g.ly n a,jd g.lv n l,jd g.V n T⟩
def JS.Th(h:JS w g s)(nd:¬n∈g.ds)q:vW (jd g.str n q) g.nx []:=λE hE x m c l e hs=>by
 have hx:=Classical.byContradiction λz=>by rw[(h.gl.out x z).1]at e;cases e
 have hm:=(h.gl.nd x hx).2.2 m e;have e1:x≠n:=λz=>nd<|z▸hx;have e2:m≠n:=λz=>nd<|z▸hm;simp only[jd,e1,if_false]at hs;have⟨l',h1,h2⟩:=h.nF E hE x m c l e hs;exact⟨l',by simp only[jd,e2,if_false];exact h1,h2⟩
def JS.Ti(h:JS w g s)(nd:¬n∈g.ds){v:Nat}{T:Ty}(hT:T=match q with|none=>.var v|some (c,l)=>.aM c<|l.map g.V)(hq:∀c l,q=some (c,l)->∀p,p∈l->p∈g.ds):Can (jd g.str n q) g.nx (jd g.vr n v) (jd g.V n T):=λx y k=>by
 have nn:=(h.gl.out n nd).1;have lm:∀l:List Nat,(∀p,p∈l->p∈g.ds)->l.map (jd g.V n T)=l.map g.V:=λl hl=>eC λp hp=>by
  have:p≠n:=λe=>nd<|e▸hl p hp;simp[jd,this]
 by_cases hx:x∈g.ds
 .have hy:=h.gl.bN hx k;have e1:x≠n:=λz=>nd<|z▸hx;have e2:y≠n:=λz=>nd<|z▸hy;simp only[jd,e1,e2,if_false];have:=h.can x y k;rw[this]
  cases hs:g.str y with
  |none=>rfl|some p=>
   obtain⟨c,l⟩:=p;show xd c (l.map g.V)=xd c (l.map<|jd g.V n T);rw[lm l (h.gl.part hy hs).2]
 .have e0:=(h.gl.out x hx).1;have ey:=k.one<|.here e0;subst ey;by_cases e:y=n
  .subst e;simp only[jd,if_true];rw[hT]
   cases q with
   |none=>rfl|some p=>
    obtain⟨c,l⟩:=p;show xd c (l.map g.V)=xd c (l.map<|jd g.V y _);rw[<-hT,lm l<|hq c l rfl]
  .simp only[jd,e,if_false];have:=h.can y y k;rw[(h.gl.out y hx).2]at this⊢;exact this
def JS.abG(h:JS w g s)(nd:¬n∈g.ds){L:Nat}(hq:∀c l,q=some (c,l)->∀p,p∈l->p∈g.ds/\∀x,Hd g.nx p x->g.lv x<=L):LC (jd g.str n q) (n::g.ds) g.nx (jd g.lv n L):=λa ha hn c l hs p hp x k=>by
 by_cases e:a=n
 .subst e;simp only[jd,if_true]at hs;have⟨h1,h2⟩:=hq c l hs p hp;have e2:x≠a:=λz=>nd<|z▸h.gl.bN h1 k;simp only[jd,e2,if_false,if_true];exact h2 x k
 .have ha':=(List.mem_cons.1 ha).resolve_left e;simp only[jd,e,if_false]at hs;have e2:x≠n:=λz=>nd<|z▸h.gl.bN ((h.gl.part ha' hs).2 p hp) k;simp only[jd,e,e2,if_false];exact h.lc a ha' hn c l hs p hp x k
def iT.add(h:JS w g s){n:Nat}(nd:¬n∈g.ds){q:Option (BA×List Nat)}{v:Nat}{a:Option Addr×Nat}{l L:Nat}{T:Ty}{s1}(hk:s1.k=s.k)(hl:q=none->L<=l):iT L g s (g.add n q v a l T) s1:=by
 have r:=iT.refl h L;have ne:∀m,m∈g.ds->m≠n:=λm hm e=>nd<|e▸hm;refine⟨λm hm=>⟨jl _ hm,by simp[jd,ne m hm],by simp[jd,ne m hm]⟩,λm hm=>?_,λi hi x=>?_⟩
 .rw[hk,<-r.val m hm];simp[jd,ne m hm]
 .rw[hk,<-r.VY i hi x];constructor
  .rintro⟨y,⟨q1,q2,q3,q4⟩,q5⟩;by_cases e:y=n
   .subst e;simp only[jd,if_true]at q3 q5;have:=hl q3;omega
   .have W_:=(List.mem_cons.1 q1).resolve_left e;simp only[jd,e,if_false]at q3 q4 q5;exact⟨y,⟨W_,q2,q3,q4⟩,q5⟩
  .rintro⟨y,⟨q1,q2,q3,q4⟩,q5⟩;have e:=ne y q1;exact⟨y,⟨jl _ q1,q2,by simpa[jd,e]using q3,by simpa[jd,e]using q4⟩,by simpa[jd,e]using q5⟩
def ank{p:Prop}(h:p:=by
 simp only[jd,e1,e2,if_false]at e sa sb
 exact h.inj a b ((List.mem_cons.1 ha).resolve_left e1) ((List.mem_cons.1 hb).resolve_left e2) sa sb e):p:=h
def anl{p:Prop}(h:p:=by
 simpa[jd,e]using h.val m ((List.mem_cons.1 hm).resolve_left e) (by simpa[jd,e]using hs)):p:=h
def JS.var(h:JS w g s)(hw:Bq w w'){v l:Nat}(hn:w.heap.size<=n)(hv:¬s.u v)(hh:w'.heap[n]? =some (.cells #[.pointer none,Nv l,Nv v,.string ⟨#[]⟩,.slice none 0 0] 423 (0,0))):
 JS w' (g.add n none v (none,0) l<|.var v) ⟨s.k,λm=>s.u m\/m=v⟩:=by
 have nd:¬n∈g.ds:=λq=>by have:=h.lt q;omega
 have ne:∀m,m∈g.ds->m≠n:=λm hm e=>nd<|e▸hm;refine⟨h.gl.add hw hn none v (none,0) l hh trivial,h.Th nd none,λa b ha hb sa sb e=>?_,h.Ti nd rfl (λc l q=>lq),h.abG nd<|λc l q=>lq,λm hm hs=>?_,λm hm hs=>?_,(In.ig (Λ:=λ_=>True) h.ok (λ_ _=>trivial) _ _ ⟨v,hv,rfl⟩).1.ok⟩
 .by_cases e1:a=n<;>by_cases e2:b=n
  .rw[e1,e2]
  .exfalso;have QZ:=(List.mem_cons.1 hb).resolve_left e2;simp only[jd,e1,e2,if_false,if_true]at e sb;exact hv (by rw[e];exact h.use b QZ sb)
  .exfalso;have ha':=(List.mem_cons.1 ha).resolve_left e1;simp only[jd,e1,e2,if_false,if_true]at e sa;exact hv (by rw[<-e];exact h.use a ha' sa)
  .exact ank
 .by_cases e:m=n
  .subst e;simp[jd,h.ok.out v hv]
  .exact anl
 .by_cases e:m=n
  .subst e;simp[jd]
  .have hm':=(List.mem_cons.1 hm).resolve_left e;simp only[jd,e,if_false]at hs⊢;exact j5<|h.use m hm' hs
def JS.abH(h:JS w g s)(hw:Bq w w'){l:Nat}{a:Option Addr×Nat}(hn:w.heap.size<=n)(hc:CN c)(hl:ps.length<=1001)(hp:∀p,p∈ps->p∈g.ds/\∀x,Hd g.nx p x->g.lv x<=l)(yf:ps=[]\/∃gg,a.1=some ⟨gg,0,none⟩/\¬gg∈n::g.ds/\gg<w'.heap.size/\∀i(h:i<ps.length),w'.cell? ⟨gg,i,none⟩=some (nA ps[i]))(hh:w'.heap[n]? =some (.cells #[.pointer none,Nv l,Iv 0,.string<|pn c,.slice a.1 ps.length a.2] 423 (0,0))):
 JS w' (g.add n (some (c,ps)) 0 a l<|.aM c<|ps.map g.V) s:=by
 have nd:¬n∈g.ds:=λq=>by have:=h.lt q;omega
 have ne:∀m,m∈g.ds->m≠n:=λm hm e=>nd<|e▸hm;refine⟨h.gl.add hw hn (some (c,ps)) 0 a l hh ⟨hc,hl,λm hm=>jl _ (hp m hm).1,yf⟩,h.Th nd _,λa b ha hb sa sb e=>?_,h.Ti nd rfl (λc' l' q=>by injection q with q;injection q with _ q;subst q;exact λp hq=>(hp p hq).1),h.abG nd (λc' l' q=>by injection q with q;injection q with _ q;subst q;exact hp),λm hm hs=>?_,λm hm hs=>?_,h.ok⟩
 .have e1:a≠n:=λz=>by subst z;simp[jd]at sa
  have e2:b≠n:=λz=>by subst z;simp[jd]at sb
  exact ank
 .have e:m≠n:=λz=>by subst z;simp[jd]at hs
  exact anl
 .have e:m≠n:=λz=>by subst z;simp[jd]at hs
  simp only[jd,e,if_false]at hs⊢;exact h.use m ((List.mem_cons.1 hm).resolve_left e) hs
def JS.made(h:JS w g s)(hw:Bq w w'){l:Nat}{a:Option Addr×Nat}(hn:w.heap.size<=n)(hc:CN c)(hl:ps.length<=1001)(hp:∀p,p∈ps->p∈g.ds/\∀x,Hd g.nx p x->g.lv x<=l)(hr:ps=[]\/∃gg,a.1=some ⟨gg,0,none⟩/\w.heap.size<=gg/\gg≠n/\gg<w'.heap.size/\∀i(h:i<ps.length),w'.cell? ⟨gg,i,none⟩=some (nA ps[i]))(hh:w'.heap[n]? =some (.cells #[.pointer none,Nv l,Iv 0,.string<|pn c,.slice a.1 ps.length a.2] 423 (0,0))):
 JS w' (g.add n (some (c,ps)) 0 a l<|.aM c<|ps.map g.V) s:=by
 refine h.abH hw hn hc hl hp (hr.imp id λ⟨gg,q1,q2,q3,q4,q5⟩=>⟨gg,q1,λz=>?_,q4,q5⟩) hh;obtain z|z:=List.mem_cons.1 z
 .exact q3 z
 .have:=h.lt z;omega
end
end
end Go.Proofs.YtnldmeakhapdhaaGreatDoor
