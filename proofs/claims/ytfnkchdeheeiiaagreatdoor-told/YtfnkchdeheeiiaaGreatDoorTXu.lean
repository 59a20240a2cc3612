import Derived.Test.YtfnkchdeheeiiaaGreatDoorTCc
import Derived.Test.YtfnkchdeheeiiaaGreatDoorTPl
set_option linter.all false
set_option maxRecDepth 100000
set_option maxHeartbeats 8000000
namespace Go.Proofs.YtfnkchdeheeiiaaGreatDoor
open Un renaming dR->ja,Fin->jc,seen->jd,Eq->jf,par->jh
open Pu renaming bH->ji,Tok->jj
open _root_.List renaming mem_cons_of_mem->jk,getElem_mem->jl,take_succ_eq_append_getElem->jm,map_congr_left->jo,take_length->jp,take_succ_cons->jq,map_cons->jt,getElem_cons_succ->ju,countP_cons->jv,map_append->jx
open Or renaming inr->jy,inl->jz
open _root_.Nat renaming le_trans->j3,zero_le->j5,not_lt_zero->j6,lt_of_lt_of_le->j7,strongRecOn->j8
open Go.World renaming cell?_of_block->j9,setCell->qd,cell?->qe,frozen?->qf
open In renaming H9->qg,isM->qh,St->qi,cu->qk,ub->ql,aht->qm
open Go.ByteArray renaming toList_eq->qn
open _root_.Array renaming replicate->qp,getElem?_setIfInBounds_ne->qr,getElem?_eq_getElem->qs
open Go.RowKit.Below renaming refl->qt,heap_setCell->qu
open SizeOf renaming sizeOf->qv
open Go.Proofs.Tryz renaming prog->qw,underlying233->qx,underlying188->qy
open Bool renaming not_eq_true->qz
open Go.Instr renaming typeAssert->q9
open And renaming intro->xc
open Un.Ty renaming aJ->xd
open Fr renaming of->xf,refl->xg
open Go Go.RowKit Proofs.Tryz
variable {C ca cb:Array Value} {c c' last s:BA} {ds l l' ps:List Nat} {T:List jj} {expr ur sm:M Nd} {m:MV} {B N a b g h h' i j k kb mb n pb rb sb x y:Nat} {cq rR mz vr:Nat->Nat} {ly:Nat->Option Addr×Nat} {D F P Q S:Nat->Prop} {U V VF θ:Nat->Un.Ty} {nd:Nd} {q:Option (BA×List Nat)} {sa:Option Addr} {t:jj} {α β:Type} {ta tb tx:TypeId} {bi dP oH gS:Un.Nx} {str:Un.rF} {v:Value} {w w':World}
section
open Go.ChangeMaps
def mC{γ:Type}m(f:α->M β)(g:β->M γ):aN (aN m f) g=aN m λa=>aN (f a) g:=by grind[aN]
def Ov(T:List jj)(ur expr:M Nd):M (Nd×Nd):=aN ur λp=>aN (bt T mS) λ_=>aN expr λe k=>.ok ((p,e),k)
def aj1 w P(a:Nd×Nd)(v:Value):=∃(u1 u2:Int)(vp ve:Value),v=.agg #[Iv u1,Iv u2,vp,ve]/\PP w P a.1 vp/\PE w P a.2 ve
def Bx.aj2(h:Bx w b C)(hC:C.size=4)v0 v1 v2 v3:Bx ((((w.setCell ⟨b,0,none⟩ v0).setCell ⟨b,1,none⟩ v1).setCell ⟨b,2,none⟩ v2).setCell ⟨b,3,none⟩ v3) b #[v0,v1,v2,v3]:=by
 obtain⟨a0,a1,a2,a3,rfl⟩:∃a0 a1 a2 a3,C=#[a0,a1,a2,a3]:=by
  obtain⟨l⟩:=C
  match l,hC with
  |[a,b,c,d],_=>grind
 exact(((h.aP 0 v0 #[v0,a1,a2,a3] rfl ag).aP 1 v1 #[v0,v1,a2,a3] rfl ag).aP 2 v2 #[v0,v1,v2,a3] rfl ag).aP 3 v3 #[v0,v1,v2,v3] rfl ag
def aaR{e}(hm:mH e):mH (bindM T e):=λk a k' h=>by
 rw[bindM]at h;split at h
 .have⟨_,k2,h3,h4⟩:=aw h;have⟨_,k3,h5,h6⟩:=aw h4;have⟨_,k4,h7,h8⟩:=aw h6
  cases h8
  have:=eH _ _ _ _ h3;have:=bz _ _ _ _ h5;have:=Fq hm _ _ _ h7;omega
 .have⟨_,k2,h3,h4⟩:=aw h;have⟨_,k3,h5,h6⟩:=aw h4;have⟨_,k4,h7,h8⟩:=aw h6
  cases h8
  have:=eH _ _ _ _ h3;have:=bz _ _ _ _ h5;have:=hm _ _ _ h7;omega
def adO(hs:s.size<=1000)(IH:eR s n)(h:SX w N rb sb m s k)(hn:(ji s 0).length<=k+1+n):
 Cq 181 #[rp rb] w (ap PE N rb sb m s (qS (ji s 0) (bR (ji s 0) n) k) w):=by
 have V0:=g_;have Z':=kB;refine cA.Al h rfl λH=>?_;go_enter func181,ntmps181;go_wp2_with fail;refine(H.re<|congrFun (mC _ _ _) _).take ?_;intro w1 H;go_wp2_with fail;refine H.call (Dh hs IH H.sx ae) ?_;intro b k2 v2 w2 H q V;obtain⟨ve,rfl,V,-⟩:=V;obtain⟨te,xe,rfl⟩:=V.iface;clear V;have l2:k+1<k2:=aaR (jW n) _ _ _ q;go_wp2_with fail;refine H.box.take ?_;intro w3 H;go_wp2_with fail;refine H.expr IH ?_;intro c k4 t4 x4 w4 H l4;have⟨⟨_,c1,f1,z1⟩,_⟩:=H.p
 go_wp2
 go_region_with(go_at_call 105;refine H.drew.since ?_;intro w5 H;have⟨⟨_,c1,f1,z1⟩,_⟩:=H.p)
 all_goals(
  go_wp2
  go_ret;refine H.done ?_;rintro⟨⟨⟨_,ve,e,A,B,C,D⟩,_⟩,V⟩
  cases e
  exact .lt _ _ _ _ _ _ _ _ _ _ _ B C D A V)
def afj(hs:s.size<=1000)(IHP:BO s n)(IH:eR s n)(h:SX w N rb sb m s k)(hn:(ji s 0).length<=k+n):
 Cq 251 #[rp rb] w (ap aj1 N rb sb m s (Ov (ji s 0) (dY (ji s 0) n) (bR (ji s 0) n) k) w):=by
 have V0:=g_;have Z':=kB;have o:w.heap.size≠rb:=by have:=h.z;omega
 have⟨c0,f0,z0⟩:=h.bx;refine cA.Al h rfl λH=>?_;go_enter func251,ntmps251;go_wp2_with fail;refine H.own.ur IHP ?_;intro a k1 t1 x1 w1 H l1;go_wp2_with fail;refine H.take ?_;intro w2 H;go_wp2_with fail;refine H.expr IH ?_;intro b k3 t3 x3 w3 H l3;go_wp2_with fail;refine H.since ?_;intro w4 H;have⟨c,f,z⟩:=H.bo o;go_wp2_with fail;have B:=(H.bo o).aj2 rfl (Nv (tk (Pu.bH s 0) k).al) (.int .i64 ((aE (Pu.bH s 0) k3:Nat):Int)) (Fv t1<|Av x1) (Fv t3<|Av x3);obtain⟨cF,fF,zF⟩:=B;exact bodyPost_ret (v:=Av #[Nv (tk (Pu.bH s 0) k).al,.int .i64 ((aE (Pu.bH s 0) k3:Nat):Int),Fv t1<|Av x1,Fv t3<|Av x3]) (by simp[results,Tryz.results251,go_sem,cF]) rfl
  ((H.put o ⟨cF,fF,zF⟩<|cM<|cM<|cM<|cM ⟨rfl,rfl,rfl,rfl,λ_ _=>rfl⟩).done λ⟨⟨_,A⟩,B⟩=>⟨_,_,_,_,rfl,A,B⟩)
def adP:(Tryz.prog.info? 257).map (λi=>(i.zero,i.size,i.bytes))=some (some<|.agg #[Iv 0,Iv 0,.nilIface,.nilIface],4,48):=qkr
def Vd:Tryz.prog.underlying 199=some (.slice 257):=qkr
def kE(T:List jj)ur expr f l:=λk=>if a_ (tk T k) Yc=true then oq T ur expr f l (k+1)else .ok (l,k)
def Fx(T:List jj)ur expr f l k:oq T ur expr (f+1) l k=aN (Ov T ur expr) (λa=>kE T ur expr f<|l++[a.1,a.2]) k:=by
 rw[Ov];rw[mC];show aN ur _ k=_;congr 1;funext p;rw[mC];congr 1;funext _;rw[mC];rfl
def Dv(hp:aR T ur)(he:aR T expr):aR T (Ov T ur expr):=fK hp λ_=>fK (rh _ _) λ_=>fK he λ_=>JP _
def gA(T:List jj)ur expr f l:aR T (kE T ur expr f l):=by grind[aR,kE,ed,cV]
def Sa(hp:Ea ur)(he:mH expr):mH (Ov T ur expr):=λk a k' h=>by
 rw[Ov]at h;have⟨_,k1,h1,h2⟩:=aw h;have⟨_,k2,h3,h4⟩:=aw h2;have⟨_,k3,h5,h6⟩:=aw h4
 cases h6
 have:=hp _ _ _ h1;have:=bz _ _ _ _ h3;have:=he _ _ _ h5;omega
def Jl A p:aU (A++[p])=aU A++[p.1,p.2]:=by
 induction A with
 |nil=>rfl|cons q l ih=>show q.1::q.2::aU (l++[p])=q.1::q.2::(aU l++_);rw[ih]
def adQ:EQ (Nd×Nd):=λw P a c=>(∃u1 u2:Int,c 0=Iv u1/\c 1=Iv u2)/\PP w P a.1 (c 2)/\PE w P a.2 (c 3)
def mD:gw adQ:=λ_ _ _ _ _ _ h h1 h2 h3=>⟨h.1,h.2.1.move h1 h2 h3,h.2.2.move h1 h2 h3⟩
def aj4 x w P l v:=∃A,A≠[]/\l=x::aU A/\RowV adQ 4 w P A v
def Sb:Mov aj1:=λ_ _ _ _ _ _⟨a,b,c,d,e,f,g⟩p q r=>⟨a,b,c,d,e,f.move p q r,g.move p q r⟩
def Kx(hs:s.size<=1000)(hT:(ji s 0).length<=1001)(IHP:BO s n)(IH:eR s n)(h:SX w N rb sb m s k)(hn:(ji s 0).length<=k+n)x:
 Cq 250 #[rp rb,oI 251 rb] w (ap (aj4 x) N rb sb m s (oq (ji s 0) (dY (ji s 0) n) (bR (ji s 0) n) (ji s 0).length [x] k) w):=by
 have hcA:∀args w,(callFunc 251 args).run Tryz.prog w=.ok (.enter 251 args) w:=λ_ _=>qkr;have hk:=h.lt;obtain⟨r,hr⟩:∃r,r=oq (Pu.bH s 0) (dY (Pu.bH s 0) n) (bR (Pu.bH s 0) n) (Pu.bH s 0).length [x] k:=⟨_,rfl⟩;rw[<-hr];obtain⟨L,hL⟩:∃L,(Pu.bH s 0).length=L+1:=⟨(Pu.bH s 0).length-1,ae⟩;refine cA.Al h (by rw[hr,hL];exact Fx _ _ _ _ _ _) λH=>?_;have HL:=ai hL;clear hr hL;go_enter func250,ntmps250;go_wp2_with fail;refine H.call (afj hs IHP IH h hn) ?_ (st:=λa=>gA _ _ _ _ _) (mv:=Sb);intro a k1 v1 w1 H q V;have l1:=Sa (oT (T:=(Pu.bH s 0)) n) (jW n) _ _ _ q;obtain⟨u1,u2,vp,ve,rfl,P1,E1⟩:=V;obtain⟨tp,xp,rfl⟩:=P1.iface;obtain⟨te,xe,rfl⟩:=E1.iface;have H:=(H.af<|bw _).row mD (dw.one (sz:=4) (et:=257) (lo:=w.heap.size) (c:=λj=>([Iv u1,Iv u2,Fv tp<|Av xp,Fv te<|Av xe]:List Value).getD j Zv) mD ⟨⟨u1,u2,rfl,rfl⟩,P1,E1⟩ (br _) H.ke.size aK #[Iv u1,Iv u2,Fv tp<|Av xp,Fv te<|Av xe] rfl rfl) ⟨br _,.inl rfl⟩;clear P1 E1 q
 go_wp2
 go_loopg[5] ((ji s 0).length-k1) (λgk v wr=>Ey (·≠[]) adQ 257 4 N rb sb m s (k+1) w r (λf A _=>kE (ji s 0) (dY (ji s 0) n) (bR (ji s 0) n) f (x::aU A)) gk v wr)
 case atStart=>exact⟨k1,[a],L,_,1,0,rfl,ag,H,ai rfl,l1,bB,by have:=uh HL;omega⟩
 case round=>
  clear H HL;obtain⟨kr,A,f,va,vc,_,rfl,hA,H,cR,hle,hAl,hfu⟩:=hrel;have zw:=H.ke.size;have Zf:=H.p.block;have Ze:=H.sx.lt
  cases hb:a_ (tk (ji s 0) kr) Yc
  .have H:=H.re (g':=λk=>.ok (x::aU A,k)) (by dsimp only[kE];rw[hb];rfl);go_wp2_with fail;refine H.Fe hb ?_
   go_wp2
   go_ret;exact H.done λR=>⟨A,hA,rfl,R.v mD⟩
  .obtain⟨f,rfl⟩:∃f',f=f'+1:=⟨f-1,ae⟩;have H:=H.re (g':=aN qH λ_=>aN (Ov (ji s 0) (dY (ji s 0) n)<|bR (ji s 0) n) λa=>kE (ji s 0) (dY (ji s 0) n) (bR (ji s 0) n) f (x::aU A++[a.1,a.2])) (by dsimp only[kE];rw[if_pos hb,Fx];rfl);go_wp2_with fail;refine H.Fc hb ?_ (st:=λ_=>fK (Dv (pO _)<|ng _) λa=>gA _ _ _ _ _);intro w2 H;go_wp2_with fail;have z2:=H.ke.size;have Zf:=H.p.block;refine H.call (afj hs IHP IH H.sx ae) ?_ (st:=λa=>gA _ _ _ _ _) (mv:=Sb);intro a k2 v1 w1 H q V;have l2:=Sa (oT (T:=(ji s 0)) n) (jW n) _ _ _ q;obtain⟨u1,u2,vp,ve,rfl,P1,E1⟩:=V;obtain⟨tp,xp,rfl⟩:=P1.iface;obtain⟨te,xe,rfl⟩:=E1.iface;go_wp2_with(at_builtin;go_must(refine H.append (D:=[Iv u1,Iv u2,Fv tp<|Av xp,Fv te<|Av xe]) hT mD adP Vd H.p.1 z2 (λb e=>(Zf b e).2) (c:=λj=>([Iv u1,Iv u2,Fv tp<|Av xp,Fv te<|Av xe]:List Value).getD j Zv) ⟨⟨u1,u2,rfl,rfl⟩,P1,E1⟩ ae ?_;intro q3 c3 w3 H));go_roundg((ji s 0).length-k2)
   case measure=>rw[uh cR];omega
   case rel=>exact⟨k2,A++[a],f,_,c3,0,ag,ag,H.re (by dsimp only;rw[Jl];rfl),ai rfl,ae,bB,ae⟩
def RowV.mt{lo}{w w0:World}{A}{va}{vc}(h:RowV adQ 4 w (λb=>lo<=b) A (.slice va A.length vc))(h0:A≠[])(qQ:w0.heap.size<=lo){x}{vx}(hx:PE w (λb=>w0.heap.size<=b) x vx)f t a:
 PE w (λb=>w0.heap.size<=b) (.mk 13 fX 0 (x::aU A) f t a) (.iface 201<|.agg #[Nv f,Nv t,vx,.slice va A.length vc]):=by
 obtain⟨pZ,p7,cs,hv,aM,hr⟩:=h
 cases hv
 obtain h1|⟨g,rfl,h2,h3,h4⟩:=aM
 .exact absurd h1 h0
 have wd:∀b,lo<=b->w0.heap.size<=b:=λb p=>j3 qQ p;refine .mt _ _ x A f t a vx g vc (λi=>cs i 2) (λi=>cs i 3) h0 (wd g h2) h3 (λi hi=>?_) hx (λi hi=>(hr i hi).2.1.wide wd)<|λi hi=>(hr i hi).2.2.wide wd;have⟨u1,u2,e1,e2⟩:=(hr i hi).1;exact⟨⟨u1,u2,by rw[<-e1];exact h4 i hi 0 aK,by rw[<-e2];exact h4 i hi 1 aK⟩,h4 i hi 2 aK,h4 i hi 3 aK⟩
def N'{n}(hT:0<T.length)x:aR T (oq T (dY T n) (bR T n) T.length [x]):=by
 obtain⟨L,hL⟩:∃L,T.length=L+1:=⟨T.length-1,ae⟩;rw[hL];intro k h;rw[Fx];exact bU (Dv (pO _) (ng _) k h) λ_=>gA _ _ _ _ _
def adR(hs:s.size<=1000)(hT:(ji s 0).length<=1001)(IHP:BO s n)(IH:eR s n)(h:SX w N rb sb m s k)(hn:(ji s 0).length<=k+1+n):
 Cq 183 #[rp rb] w (ap PE N rb sb m s (uv (ji s 0) (dY (ji s 0) n) (bR (ji s 0) n) k) w):=by
 have V0:=g_;have Z':=kB;have hT0:0<(ji s 0).length:=by have:=h.lt;omega
 refine cA.Al h rfl λH=>?_;go_enter func183,ntmps183;go_wp2_with fail;refine H.take ?_;intro w1 H;go_wp2_with fail;refine H.expr IH ?_;intro x k2 t2 x2 w2 H l2;go_wp2_with fail;refine H.take ?_;intro w3 H;go_wp2_with fail;refine H.call (Kx hs hT IHP IH H.sx ae x) ?_ (mv:=λ_ _ _ _ _ _⟨A,a,b,c⟩p q r=>⟨A,a,b,c.move mD p q r⟩);intro l k4 v4 w4 H q V;obtain⟨va,L,vc,rfl⟩:∃va L vc,v4=Lv va L vc:=by obtain⟨_,-,-,_,_,_,rfl,-⟩:=V;exact⟨_,_,_,rfl⟩
 clear q V;go_wp2_with fail;refine H.take ?_;intro w5 H;go_wp2_with fail;refine H.since ?_;intro w6 H
 go_wp2
 go_ret;refine H.done ?_;rintro⟨⟨_,V⟩,A,a,rfl,_,_,cs,e,R⟩
 cases e
 exact RowV.mt ⟨_,_,cs,rfl,R⟩ a (br _) V _ _ _
def tF{F}{r}(h:SX w N rb sb m s k)(hg:aX (aq<|tk (ji s 0) k) (Re rb)=some (oI F rb)\/aX (aq<|tk (ji s 0) k) (Re rb)=none/\F=273)(Zh:∀args w,(callFunc F args).run qw w=.ok (.enter F args) w)(HC:∀W,SX W N rb sb m s k->Cq F #[rp rb] W (ap PE N rb sb m s r W)):Cq 249 #[rp rb] w (ap PE N rb sb m s r w):=by
 have⟨b,rI,_,_,hM⟩:=h.ev.mp.wd;have hl:=λq=>eh (hM.same (w':=w.drewN q) rfl) qx (tq _)<|aq<|tk (ji s 0) k;have Cb:=eh hM qx (tq _)<|aq<|tk (ji s 0) k;have⟨c,ff,z⟩:=h.bx;obtain hg|⟨hg,rfl⟩:=hg
 all_goals(
  simp only[hg,kY]at hl Cb;clear hg;go_enter func249,ntmps249
  go_wp2
  go_quiet(fail);go_wp2_with fail;refine(HC _<|h.af<|below_drewN _ nq).mono ?_;intro e w1 hp
  cases hA:fin (ji s 0) r with
  |error f'=>
   obtain⟨rfl,Ym⟩:=hp.bad hA;exact⟨rfl,ap.fail ((Ke.of<|below_drewN _ nq).trans Ym) hA⟩
  |ok p=>
  obtain⟨a,k2⟩:=p;obtain⟨v,rfl,Ym,HS,HR⟩:=hp.ok hA;obtain⟨tv,xv,rfl⟩:=HR.iface;have HE:=ai (q_ hA).1;have HK:=(Ke.of<|below_drewN w nq).trans Ym;clear hp hA Ym
  go_wp2
  go_ret
  exact ap.done HE HK HS HR)
def Ve(hs:s.size<=1000)(hT:(ji s 0).length<=1001)(IH:eR s n):eR s (n+1):=by
 intro w N rb sb m k h hn;show Calls _ _ _ _<|ap PE N rb sb m s (if a_ (tk (ji s 0) k) MU=true then uq (ji s 0) (bR (ji s 0) n) k else if a_ (tk (ji s 0) k) kIf=true then pA (ji s 0) (bR (ji s 0) n) k else if a_ (tk (ji s 0) k) uo=true then uv (ji s 0) (dY (ji s 0) n) (bR (ji s 0) n) k else if a_ (tk (ji s 0) k) ul=true then qS (ji s 0) (bR (ji s 0) n) k else(sC (ji s 0)<|wW (ji s 0)<|gu (ji s 0)<|dt (ji s 0)<|yf s n) k) w
 cases n0:a_ (tk (ji s 0) k) MU
 .cases n1:a_ (tk (ji s 0) k) kIf
  .cases n2:a_ (tk (ji s 0) k) uo
   .cases n3:a_ (tk (ji s 0) k) ul
    .exact tF h (.inr ⟨sR (eu s k h.lt) h.ok (by simp[n0,n1,n2,n3];decide),rfl⟩) (λ_ _=>qkr) λW S=>Fk hs hT IH S ae
    .exact tF h (.inl (by rw[gi n3];rfl)) (λ_ _=>qkr) λW S=>adO hs IH S ae
   .exact tF h (.inl (by rw[gi n2];rfl)) (λ_ _=>qkr) λW S=>adR hs hT (Dg hs hT n) IH S ae
  .exact tF h (.inl (by rw[gi n1];rfl)) (λ_ _=>qkr) λW S=>aam hs IH S ae
 .exact tF h (.inl (by rw[gi n0];rfl)) (λ_ _=>qkr) λW S=>rA hs IH S ae
def Zg(hs:s.size<=1000)(hT:(ji s 0).length<=1001):∀n,eR s n
 |0=>λw N rb sb m k h hn=>by have:=h.lt;omega|n+1=>Ve hs hT<|Zg hs hT n
def mh(T:List jj)mk f l k:dO T mk (f+1) l k=aN mk (λx=>lC T mk (dO T mk f)<|l++[x]) k:=rfl
def i'(T:List jj)mk go l:aR T (lC T mk go l):=by grind[aR,lC,ed,cV]
def wN(T:List jj)sm:aR T (de T sm):=by grind[aR,de,fK,rj,i_]
theorem uG(hm:∀k a k',sm k=.ok (a,k')->k<k'):mH (de T sm):=λk a k' h=>by
 rw[de]at h;have⟨_,k1,h1,h2⟩:=aw h;have:=eH _ _ _ _ h1;have:=AB hm 1 _ _ _ _ _ h2;omega
def QMaker:EQ Nd:=λw P nd c=>∃(s:BA)(n:Nat)(L:List Nd)(f t a y:Nat)(v:Value),nd=.mk 2 s n L f t a/\c 0=Nv f/\c 1=Nv t/\c 2=Nv a/\c 3=Nv y/\c 4=.string s/\c 5=v/\nI s/\y=a+s.size/\RowV (Q1 PT) 1 w P L v
def bV:gw QMaker:=λ_ _ _ _ _ _ h h1 h2 h3=>by
 obtain⟨s,n,L,f,t,a,y,v,e0,e1,e2,e3,e4,e5,e6,e7,e8,e9⟩:=h;exact⟨s,n,L,f,t,a,y,v,e0,e1,e2,e3,e4,e5,e6,e7,e8,e9.move aab h1 h2 h3⟩
def Fy w P nd(v:Value):=∃c:Nat->Value,v=.agg #[c 0,c 1,c 2,c 3,c 4,c 5]/\QMaker w P nd c
def Kz{k k'}(h:di (ji s 0) 2 k=.ok (t,k'))(hk:k<(ji s 0).length):nI t.text/\t.to=t.al+t.text.size:=by
 rw[di]at h;split at h
 .rename_i hq
  cases h
  exact⟨(eu s k hk).v2<|by simpa using hq,(oP s k hk).sp⟩
 .cases h
def Bx.aj5{w}(h:Bx w b C)(hC:C.size=6)v0 v1 v2 v3 v4 v5:Bx ((((((w.setCell ⟨b,0,none⟩ v0).setCell ⟨b,1,none⟩ v1).setCell ⟨b,2,none⟩ v2).setCell ⟨b,3,none⟩ v3).setCell ⟨b,4,none⟩ v4).setCell ⟨b,5,none⟩ v5) b #[v0,v1,v2,v3,v4,v5]:=by
 obtain⟨a0,a1,a2,a3,a4,a5,rfl⟩:∃a0 a1 a2 a3 a4 a5,C=#[a0,a1,a2,a3,a4,a5]:=by
  obtain⟨l⟩:=C
  match l,hC with
  |[a,b,c,d,e,f],_=>grind
 exact(((((h.aP 0 v0 #[v0,a1,a2,a3,a4,a5] rfl ag).aP 1 v1 #[v0,v1,a2,a3,a4,a5] rfl ag).aP 2 v2 #[v0,v1,v2,a3,a4,a5] rfl ag).aP 3 v3 #[v0,v1,v2,v3,a4,a5] rfl ag).aP 4 v4 #[v0,v1,v2,v3,v4,a5] rfl ag).aP 5 v5 #[v0,v1,v2,v3,v4,v5] rfl ag
def RowV.tX{Q}{sz}{L:List α}(h:RowV Q sz w P L v)(hQ:gw Q)(hb:∀c,P c->c≠b)(j:Nat)(u:Value):RowV Q sz (w.setCell ⟨b,j,none⟩ u) P L v:=h.move hQ yw (λc p _=>qu _ _ _ _<|hb c p)<|λ_ p _=>p
def Sc(hs:s.size<=1000)(hT:(ji s 0).length<=1001)(h:SX w N rb sb m s k)(hn:(ji s 0).length<=k+1+n):Cq 247 #[rp rb] w (ap Fy N rb sb m s (de (ji s 0) (Df s n) k) w):=by
 have o:w.heap.size≠rb:=by have:=h.z;omega
 have alu:=h.lt;refine cA.Al h rfl λH=>?_;go_enter func247,ntmps247;go_wp2_with fail;refine H.own.call (uP H.own.sx hs 2 JD<|Or.inr ⟨rfl,rfl⟩) ?_ (st:=λ_ k h=>i_ _ _ _ _ k h);intro t k1 v w1 H q V
 cases V
 have Ht:=ai<|Kz q alu
 cases eH _ _ _ _ q
 clear q;have H:=H.box (D:=#[Nv t.al,Nv t.to,Sv t.text]) (t:=133);have⟨c1,f1,y1⟩:=H.sx.bx;go_wp2_with fail;clear c1 f1 y1;refine(H.re<|Fg (dA (ji s 0) (Df s n) 1 (ji s 0).length<|.mk 2 t.text 0 [] t.al (aE (ji s 0)<|k+1) t.al)<|k+1).call (aad (R:=PT) hT (.inl ⟨rfl,rfl,rfl⟩) PT.iface (λ_ _ _ _ _ _ h a b c=>h.move a b c) (cz (da (T:=(ji s 0)) n) (da n) 1) (λw k' S l=>ajJ hs (aah hs hT n) S ae) H.sx t.text t.al (aE (ji s 0)<|k+1) t.al) ?_ (mv:=JZ λ_ _ _ _ _ _ h a b c=>h.move a b c);intro a k2 v w3 H q V;have⟨L',hL'⟩:=ry _ _ _ _ _ q;subst hL';obtain⟨va,L,vc,rfl⟩:=V.sl;clear V q;have⟨⟨_,d3,g3,x3⟩,_⟩:=H.p;have⟨c3,f3,y3⟩:=H.bo o
 go_wp2
 go_region_with(go_at_call 105;refine H.drew.since ?_;intro w4 H;have⟨⟨_,d4,g4,x4⟩,_⟩:=H.p;have⟨c4,f4,y4⟩:=H.bo o)
 all_goals(
  go_wp2_with fail;have⟨cF,fF,zF⟩:=(H.bo o).aj5 rfl (Nv t.al) (.int .i64 ((aE (ji s 0) k2:Nat):Int)) (Nv t.al) (Nv t.to) (Sv t.text) (Lv va L vc);refine bodyPost_ret (v:=Av #[Nv t.al,.int .i64 ((aE (ji s 0) k2:Nat):Int),Nv t.al,Nv t.to,Sv t.text,Lv va L vc]) (by simp[results,Tryz.results247,go_sem,cF]) rfl ((H.put o ⟨cF,fF,zF⟩<|cM<|cM<|cM<|cM<|cM<|cM ⟨rfl,rfl,rfl,rfl,λ_ _=>rfl⟩).done ?_);rintro⟨_,L1,fr,tz,at_,e,R⟩;injection e with _ _ _ e3 e4 e5 e6;subst e3 e4 e5 e6
  exact⟨λj=>([Nv t.al,.int .i64 ((aE (ji s 0) k2:Nat):Int),Nv t.al,Nv t.to,Sv t.text,Lv va L vc]:List Value).getD j Zv,rfl,_,_,_,_,_,_,_,_,rfl,rfl,rfl,rfl,rfl,rfl,rfl,Ht.1,Ht.2,R⟩)
def Vf:(Tryz.prog.info? 286).map (λi=>(i.zero,i.size,i.bytes))=some (some<|.agg #[Iv 0,Iv 0,Iv 0,Iv 0,.string ⟨#[]⟩,.slice none 0 0],6,72):=qkr
def KG:Tryz.prog.underlying 135=some (.slice 286):=qkr
def Fy.open(h:Fy w P nd v):∃(s:BA)(n:Nat)(L:List Nd)(f t a y:Nat)(va:Option Addr)(vc:Nat),nd=.mk 2 s n L f t a/\v=.agg #[Nv f,Nv t,Nv a,Nv y,.string s,.slice va L.length vc]/\nI s/\y=a+s.size/\RowV (Q1 PT) 1 w P L (.slice va L.length vc):=by
 obtain⟨c,rfl,s,n,L,f,t,a,y,v,e0,e1,e2,e3,e4,e5,e6,e7,e8,e9⟩:=h;have e9':=e9;obtain⟨va,vc,cs,rfl,_,_⟩:=e9;exact⟨s,n,L,f,t,a,y,va,vc,e0,by rw[e1,e2,e3,e4,e5,e6],e7,e8,e9'⟩
def Dw:Mov Fy:=λ_ _ _ _ _ _⟨c,h1,h2⟩p q r=>⟨c,h1,bV _ _ _ _ _ _ h2 p q r⟩
def adS w P l v:=l≠[]/\RowV QMaker 6 w P l v
def BU(hs:s.size<=1000)(hT:(ji s 0).length<=1001)(h:SX w N rb sb m s k)(hn:(ji s 0).length<=k+1+n):
 Cq 246 #[rp rb,oI 247 rb] w (ap adS N rb sb m s (dO (ji s 0) (de (ji s 0)<|Df s n) (ji s 0).length [] k) w):=by
 have hcA:∀args w,(callFunc 247 args).run Tryz.prog w=.ok (.enter 247 args) w:=λ_ _=>qkr;have hk:=h.lt;obtain⟨r,hr⟩:∃r,r=dO (Pu.bH s 0) (de (Pu.bH s 0)<|Df s n) (Pu.bH s 0).length [] k:=⟨_,rfl⟩;rw[<-hr];obtain⟨L,hL⟩:∃L,(Pu.bH s 0).length=L+1:=⟨(Pu.bH s 0).length-1,ae⟩;refine cA.Al h (by rw[hr,hL];exact mh _ _ _ _ _) λH=>?_;have HL:=ai hL;clear hr hL;go_enter func246,ntmps246;go_wp2_with fail;refine H.call (Sc (n:=n) hs hT h hn) ?_ (st:=λa=>i' _ _ _ _) (mv:=Dw);intro a k1 v1 w1 H q V;have l1:=uG (T:=(Pu.bH s 0)) (cz (da n) (da n) 1) _ _ _ q;obtain⟨s',n',L',f',t',a',y',pZ,p7,rfl,rfl,hu,hy,hV⟩:=V.open;have H:=(H.af<|bw _).row bV (dw.one (sz:=6) (et:=286) (lo:=w.heap.size) (c:=λj=>([Nv f',Nv t',Nv a',Nv y',Sv s',Lv pZ L'.length p7]:List Value).getD j Zv) bV ⟨s',n',L',f',t',a',y',_,rfl,rfl,rfl,rfl,rfl,rfl,rfl,hu,hy,hV⟩ (br _) H.ke.size aK #[Nv f',Nv t',Nv a',Nv y',Sv s',Lv pZ L'.length p7] rfl rfl) ⟨br _,.inl rfl⟩;clear hu hy hV V q
 go_wp2
 go_loopg[5] ((ji s 0).length-k1) (λgk v wr=>Ey (·≠[]) QMaker 286 6 N rb sb m s (k+1) w r (λf A _=>lC (ji s 0) (de (ji s 0)<|Df s n) (dO (ji s 0) (de (ji s 0)<|Df s n) f) A) gk v wr)
 case atStart=>exact⟨k1,[Nd.mk 2 s' n' L' f' t' a'],L,_,1,0,rfl,ag,H,ai rfl,l1,bB,by have:=uh HL;omega⟩
 case round=>
  clear H HL;obtain⟨kr,A,f,va,vc,_,rfl,hA,H,cR,hle,hAl,hfu⟩:=hrel;have zw:=H.ke.size;have Zf:=H.p.block;have Ze:=H.sx.lt
  cases hb:a_ (tk (ji s 0) kr) Yc
  .have H:=H.re (g':=λk=>.ok (A,k)) (by dsimp only[lC];rw[hb];rfl);go_wp2_with fail;refine H.Fe hb ?_
   go_wp2
   go_ret;exact H.done λR=>⟨hA,R.v bV⟩
  .obtain⟨f,rfl⟩:∃f',f=f'+1:=⟨f-1,ae⟩;have H:=H.re (g':=aN qH λ_=>aN (de (ji s 0)<|Df s n) λa=>lC (ji s 0) (de (ji s 0)<|Df s n) (dO (ji s 0) (de (ji s 0)<|Df s n) f)<|A++[a]) (by dsimp only[lC];rw[if_pos hb,mh];rfl);go_wp2_with fail;refine H.Fc hb ?_ (st:=λ_=>fK (wN _ _) λa=>i' _ _ _ _);intro w2 H;go_wp2_with fail;have z2:=H.ke.size;have Zf:=H.p.block;refine H.call (Sc (n:=n) hs hT H.sx ae) ?_ (st:=λa=>i' _ _ _ _) (mv:=Dw);intro a k2 v1 w1 H q V;have l2:=uG (T:=(ji s 0)) (cz (da n) (da n) 1) _ _ _ q;obtain⟨s',n',L',f',t',a',y',pZ,p7,rfl,rfl,hu,hy,hV⟩:=V.open
   replace hy:=ai hy
   go_wp2_with(at_builtin;go_must(refine H.append (a:=.mk 2 s' n' L' f' t' a') (D:=[Nv f',Nv t',Nv a',Nv y',Sv s',Lv pZ L'.length p7]) hT bV Vf KG H.p.1 z2 (λb e=>(Zf b e).2) (c:=λj=>([Nv f',Nv t',Nv a',Nv y',Sv s',Lv pZ L'.length p7]:List Value).getD j Zv) ⟨s',n',L',f',t',a',y',_,rfl,rfl,rfl,rfl,rfl,rfl,rfl,hu,hy,hV⟩ ae ?_;intro q3 c3 w3 H));go_roundg((ji s 0).length-k2)
   case measure=>rw[uh cR];omega
   case rel=>exact⟨k2,A++[Nd.mk 2 s' n' L' f' t' a'],f,_,c3,0,ag,ag,H,ai rfl,ae,bB,ae⟩
def Oa(T:List jj):∀f l,aR T<|mi T f l
 |0,l=>λk h=>cV _ h|f+1,l=>λk h=>by unfold mi;rw[if_neg ae];exact cV _ h
def zZ(T:List jj):∀f l k a k',mi T f l k=.ok (a,k')->k<=k'
 |0,l,k,a,k',h=>by cases h;omega|f+1,l,k,a,k',h=>by
  unfold mi at h;split at h
  .have:=zZ T f _ _ _ _ h;omega
  .cases h;omega
def Fb(hT:0<T.length):aR T (dO T (de T sm) T.length []):=by
 obtain⟨L,hL⟩:∃L,T.length=L+1:=⟨T.length-1,ae⟩;rw[hL];intro k h;rw[mh];exact bU (wN _ _ k h) λ_=>i' _ _ _ _
def v_{T:List jj}{mk:M Nd}(hm:mH mk):∀f l k a k',dO T mk f l k=.ok (a,k')->k<=k'
 |0,l,k,a,k',h=>by cases h;omega|f+1,l,k,a,k',h=>by
  rw[mh]at h;have⟨_,k1,h1,h2⟩:=aw h;have:=hm _ _ _ h1;rw[lC]at h2;split at h2
  .have:=v_ hm f _ _ _ _ h2;omega
  .cases h2;omega
def QName:EQ jj:=λ_ _ t c=>c 0=Nv t.al/\c 1=Nv t.to/\c 2=.string (t.text.extract 1 t.text.size)/\(∃r,t.text.toList=39::r)/\t.to=t.al+t.text.size
def df:gw QName:=by grind[gw,QName]
def aaS:(Tryz.prog.info? 133).map (λi=>(i.zero,i.size,i.bytes))=some (some<|.agg #[Iv 0,Iv 0,.string ⟨#[]⟩],3,32):=qkr
def Ow:Tryz.prog.underlying 134=some (.slice 133):=qkr
def PD(w:World)(P:Nat->Prop):Dc->Value->Prop
 |.ty t vs ms,v=>∃(f u:Int)(vv vm:Value),v=.iface 137 (.agg #[Iv f,Iv u,Nv t.al,Nv t.to,.string t.text,vv,vm])/\nI t.text/\t.to=t.al+t.text.size/\RowV QName 3 w P vs vv/\ms≠[]/\RowV QMaker 6 w P ms vm|.lt r t b,v=>∃(f u:Int)(vb:Value),v=.iface 144 (.agg #[Iv f,Iv u,.bool r,Nv t.al,Nv t.to,.string t.text,vb])/\BN t.text/\t.to=t.al+t.text.size/\PE w P b vb
theorem PD.move{w w'}{P Q}{d}{v}(h:PD w P d v)(hs:w.heap.size<=w'.heap.size)(hb:∀b,P b->b<w.heap.size->w'.heap[b]? =w.heap[b]?)(hq:∀b,P b->b<w.heap.size->Q b):PD w' Q d v:=by
 cases d with
 |ty t vs ms=>
  obtain⟨f,u,vv,vm,h1,h2,h3,h4,h5,h6⟩:=h;exact⟨f,u,vv,vm,h1,h2,h3,h4.move df hs hb hq,h5,h6.move bV hs hb hq⟩
 |lt r t b=>
  obtain⟨f,u,vb,h1,h2,h3,h4⟩:=h;exact⟨f,u,vb,h1,h2,h3,h4.move hs hb hq⟩
def PD.iface{d}(h:PD w P d v):∃t x,v=.iface t (.agg x):=by
 cases d with
 |ty t vs ms=>obtain⟨f,u,vv,vm,h1,_⟩:=h;exact⟨_,_,h1⟩
 |lt r t b=>obtain⟨f,u,vb,h1,_⟩:=h;exact⟨_,_,h1⟩
def adT N rb sb m s k2 nb NC w r(G:List jj->M Dc)(gk:Nat)(v:Value)(wr:World):=
 ∃(kr:Nat)(V:List jj)(f:Nat)(va:Option Addr)(vc:Nat),v=.slice va V.length vc/\cA N rb sb m s r w nb NC (aN (mi (ji s 0) f V) G) (λw'=>dw QName 133 3 w' (nb+1) va vc V) kr wr/\Hid (gk=(ji s 0).length-kr)/\k2<=kr/\V.length<=kr/\(ji s 0).length<=kr+f
def aaT(h:gy t)(hk:t.kind≠6):((aq t).toList==[97,32,118,97,114,105,97,98,108,101])=(t.kind==3):=by
 obtain h'|h'|h'|h'|h'|h'|h':=h.kd
 .rw[iX h'];simp[h',qn]
 .rw[ie h'];simp[h',qn]
 .rw[ig h'];simp[h',qn]
 .rw[iY h'];simp[h',qn]
 .have:=mx h hk (kd:=uM) aK h';rw[show uM.toList=[97,32,118,97,114,105,97,98,108,101]from toList_mk _]at this;rw[this];simp[h']
 .exact absurd h' hk
 .rw[iZ h'];simp[h',qn]
def AM(h:SX w N rb sb m s k)(hs:s.size<=1000)(h3:(tk (ji s 0) k).kind=3):Cq 245 #[rp rb] w (ap (Is<|.agg #[Nv (tk (ji s 0) k).al,Nv (tk (ji s 0) k).to,.string<|(tk (ji s 0) k).text.extract 1 (tk (ji s 0) k).text.size]) N rb sb m s (.ok ((),k+1)) w):=
 (j_ h.rd hs (qG s k h.lt) h3<|eu s k h.lt).mono λ_ _ q=>q.x h ae rfl
def Uw(hs:s.size<=1000)(IH:eR s n)(h:SX w N rb sb m s k)(hn:(ji s 0).length<=k+1+n):
 Cq 179 #[rp rb] w (ap PD N rb sb m s (Ji (ji s 0) (bR (ji s 0) n) k) w):=by
 have V0:=g_;have Z':=kB;refine cA.Al h rfl λH=>?_;go_enter func179,ntmps179;go_wp2_with fail;refine(H.re<|congrFun (mC _ _ _) _).take ?_;intro w1 H;go_wp2_with fail;refine H.call (Dh hs IH H.sx ae) ?_;intro b k2 v2 w2 H q V;obtain⟨ve,rfl,V,-⟩:=V;obtain⟨te,xe,rfl⟩:=V.iface;clear V;go_wp2_with fail;refine H.box.take ?_;intro w3 H;have⟨_,c1,f1,z1⟩:=H.p
 go_wp2
 go_region_with(go_at_call 105;refine H.drew.since ?_;intro w5 H;have⟨_,c1,f1,z1⟩:=H.p)
 all_goals(
  go_wp2
  go_ret;refine H.done ?_;rintro⟨⟨_,ve,e,A,_,C,D⟩,_⟩
  cases e
  exact⟨_,_,_,rfl,C,D,A⟩)
def Ny(hs:s.size<=1000)(hT:(ji s 0).length<=1001)(h:SX w N rb sb m s k)(hn:(ji s 0).length<=k+1+n):
 Cq 178 #[rp rb] w (ap PD N rb sb m s (C5 (ji s 0) (de (ji s 0)<|Df s n) k) w):=by
 have V0:=g_;have Z':=kB;have hT0:0<(ji s 0).length:=by have:=h.lt;omega
 have hz:=h.z;obtain⟨r,hr⟩:∃r,r=C5 (Pu.bH s 0) (de (Pu.bH s 0)<|Df s n) k:=⟨_,rfl⟩;rw[<-hr];refine cA.Al h hr λH=>?_;clear hr;go_enter func178,ntmps178;go_wp2_with fail;refine H.take ?_;intro w1 H;go_wp2_with fail;have lt1:=H.sx.lt;refine H.call (uP H.sx hs 2 JD<|Or.inr ⟨rfl,rfl⟩) ?_;intro t k2 v w2 H q V
 cases V
 have Ht:=ai<|Kz q lt1;have ek:=eH _ _ _ _ q;have z2:=H.ke.size;clear q;go_wp2_with fail;have H:=H.own (D:=#[Nv t.al,Nv t.to,Sv t.text]) (t:=133);have Tq:=H.sx.lt;go_loopg[5] ((ji s 0).length-k2) (λgk v wr=>adT N rb sb m s k2 w2.heap.size #[Nv t.al,Nv t.to,Sv t.text] w r (λvs=>aN (bt (ji s 0) Qh) λ_=>aN (dO (ji s 0) (de (ji s 0)<|Df s n) (ji s 0).length []) λms=>aN (bt (ji s 0) zL) λ_ k=>.ok (Dc.ty t vs ms,k)) gk v wr)
 case atStart=>exact⟨k2,[],(ji s 0).length,none,0,rfl,H.row df (dw.nil _ _ _ _ _) ⟨ae,.inr ae⟩,ai rfl,br _,ag,ae⟩
 case round=>
  clear H;obtain⟨kr,V,f,va,vc,rfl,H,cR,hle,hVl,hfu⟩:=hrel;have Ze:=H.sx.lt;have ho:=eu s kr Ze;have hkv:=aaT ho H.sx.ok;have⟨c,ff,z⟩:=H.sx.bx;by_cases h3:(tk (ji s 0) kr).kind=3
  .rw[h3]at hkv;obtain⟨f,rfl⟩:∃f',f=f'+1:=⟨f-1,ae⟩;have H:=H.re (g':=aN qH λ_=>aN (mi (ji s 0) f<|V++[(tk (ji s 0) kr)])<|λvs=>aN (bt (ji s 0) Qh) λ_=>aN (dO (ji s 0) (de (ji s 0)<|Df s n) (ji s 0).length []) λms=>aN (bt (ji s 0) zL) λ_ k=>.ok (Dc.ty t vs ms,k)) (by rw[aN];rw[show mi (ji s 0) (f+1) V kr=mi (ji s 0) f (V++[(tk (ji s 0) kr)]) (kr+1)from if_pos h3];rfl);have zr:=H.xz;have Zf:=H.p.block;have Hin:=ai<|xc (ho.v3 h3) (oP s kr Ze).sp;go_wp2_with fail;refine H.call (AM H.sx hs h3) ?_;intro _ _ _ w1' H q V'
   cases V'
   cases q
   clear c ff z hkv;go_wp2_with(at_builtin;go_must(refine H.append (D:=[Nv (tk (ji s 0) kr).al,Nv (tk (ji s 0) kr).to,Sv<|(tk (ji s 0) kr).text.extract 1 (tk (ji s 0) kr).text.size]) hT df aaS Ow H.p.1 (wr:=wr) zr (λb e=>(Zf b e).2) (a:=(tk (ji s 0) kr)) (c:=λj=>([Nv (tk (ji s 0) kr).al,Nv (tk (ji s 0) kr).to,Sv<|(tk (ji s 0) kr).text.extract 1 (tk (ji s 0) kr).text.size]:List Value).getD j Zv) ⟨rfl,rfl,rfl,Hin.1,Hin.2⟩ ae ?_ ⟨ae,.inr ae,H.xz⟩;intro q3 c3 w3 H));go_roundg((ji s 0).length-(kr+1))
   case measure=>rw[uh cR];omega
   case rel=>exact⟨kr+1,V++[(tk (ji s 0) kr)],f,_,c3,ag,H,ai rfl,ae,bB,ae⟩
  .rw[show((tk (ji s 0) kr).kind==3)=false by simp[h3]]at hkv;have H:=H.re (g':=(λvs=>aN (bt (ji s 0) Qh) λ_=>aN (dO (ji s 0) (de (ji s 0)<|Df s n) (ji s 0).length []) λms=>aN (bt (ji s 0) zL) λ_ k=>.ok (Dc.ty t vs ms,k)) V) (by rw[aN];rw[show mi (ji s 0) f V kr=.ok (V,kr) by cases f with|zero=>rfl|succ f=>exact if_neg h3]);have H:=(H.add (Q:=λw'=>RowV QName 3 w' (λb=>w.heap.size<=b) V<|Lv va V.length vc) λw' a b=>(H.p.v df).move df a (λc p z=>b c z (by have p':w2.heap.size+1<=c:=p;omega) (by have p':w2.heap.size+1<=c:=p;omega)) λc p _=>by have p':w2.heap.size+1<=c:=p;show w.heap.size<=c;omega).imp λ_ h=>h.2;go_wp2_with fail;clear c ff z;refine H.take ?_;intro w3 H;go_wp2_with fail;refine H.call (BU (n:=n) hs hT H.sx ae) ?_ (mv:=λ_ _ _ _ _ _ h a b c=>⟨h.1,h.2.move bV a b c⟩);intro ms k4 v4 w4 H q Y;obtain⟨va4,L4,vc4,rfl⟩:∃va L vc,v4=Lv va L vc:=by obtain⟨_,_,_,_,rfl,-⟩:=Y;exact⟨_,_,_,rfl⟩
   clear q Y;go_wp2_with fail;refine H.take ?_;intro w5 H;have⟨c1,f1,y1⟩:=H.bo ae
   go_wp2
   go_region_with(go_at_call 105;refine H.drew.since ?_;intro w6 H;have⟨c6,f6,y6⟩:=H.bo ae)
   all_goals(
    go_wp2
    go_ret;refine H.done ?_;rintro⟨X,Y⟩
    exact⟨_,_,_,_,rfl,Ht.1,Ht.2,X,Y⟩)
end
def x_(s:BA):=∃x r,s.toList=x::r/\Pu.fk x.toNat=true/\(∀y∈r,Pu.aV y.toNat=true)/\Pu.eP ⟨(x::r).toArray⟩=false
def NmV(s:BA):=∃x r,s.toList=39::x::r/\Pu.fk x.toNat=true/\(∀y∈r,Pu.aV y.toNat=true)/\Pu.eP ⟨(x::r).toArray⟩=false
structure agI(t:jj):Prop where
 low:t.kind=1->x_ t.text
 up:t.kind=2->Gh t.text
 var:t.kind=3->NmV t.text
 num:t.kind=4->zJ t.text<1000000000
 sz:t.text.size<=400
structure eI(T:List jj)e:Prop where
 en:(tk T e).kind=7
 tok:∀k,agI<|tk T k
 pos:0<T.length
inductive tV:Nd->Prop where
 |var(s:BA)(n f t a:Nat):NmV s->s.size<=400->n=0->tV (.mk 16 s n [] f t a)
 |up(s:BA)(n:Nat)(L:List Nd)(f t a:Nat):Gh s->s.size<=400->n=0->(∀x∈L,tV x)->tV (.mk 2 s n L f t a)
 |pr(x y:Nd)(f t a:Nat):tV x->tV y->tV (.mk 6 fX 0 [x,y] f t a)
 |fn(x y:Nd)(f t a:Nat):tV x->tV y->tV (.mk 17 fX 0 [x,y] f t a)
inductive z_:Nd->Prop where
 |any(s:BA)(f t a:Nat):s.size<=400->z_ (.mk 15 s 0 [] f t a)
 |low(s:BA)(f t a:Nat):x_ s->s.size<=400->z_ (.mk 1 s 0 [] f t a)
 |num(s:BA)(n f t a:Nat):n<1000000000->s.size<=400->z_ (.mk 3 s n [] f t a)
 |word(s:BA)(f t a:Nat):s.toList=gp.toList\/s.toList=dE.toList->s.size<=400->z_ (.mk 4 s 0 [] f t a)
 |unit(f t a:Nat):z_ (.mk 5 fX 0 [] f t a)
 |pr(x y:Nd)(f t a:Nat):z_ x->z_ y->z_ (.mk 6 fX 0 [x,y] f t a)
 |up(s:BA)(n:Nat)(L:List Nd)(f t a:Nat):Gh s->s.size<=400->n=0->(∀x∈L,z_ x)->z_ (.mk 2 s n L f t a)
inductive iE:Nd->Prop where
 |low(s:BA)(f t a:Nat):x_ s->s.size<=400->iE (.mk 1 s 0 [] f t a)
 |up(s:BA)(f t a:Nat):Gh s->s.size<=400->iE (.mk 2 s 0 [] f t a)
 |num(s:BA)(n f t a:Nat):n<1000000000->s.size<=400->iE (.mk 3 s n [] f t a)
 |word(s:BA)(f t a:Nat):s.toList=gp.toList\/s.toList=dE.toList->s.size<=400->iE (.mk 4 s 0 [] f t a)
 |unit(f t a:Nat):iE (.mk 5 fX 0 [] f t a)
 |pr(x y:Nd)(f t a:Nat):iE x->iE y->iE (.mk 6 fX 0 [x,y] f t a)
 |of(x y:Nd)(f t a:Nat):iE x->tV y->iE (.mk 14 fX 0 [x,y] f t a)
 |op(s:BA)(x y:Nd)(f t a:Nat):s=iu\/s=dW\/s=gq\/s=dX->iE x->iE y->iE (.mk 7 s 0 [x,y] f t a)
 |call(x y:Nd)(f t a:Nat):iE x->iE y->iE (.mk 8 fX 0 [x,y] f t a)
 |fn(s:BA)(x:Nd)(f t a:Nat):x_ s->s.size<=400->iE x->iE (.mk 9 s 0 [x] f t a)
 |lt(s:BA)(x z:Nd)(f t a:Nat):x_ s->s.size<=400->iE x->iE z->iE (.mk 10 s 0 [x,z] f t a)
 |ltr(s s':BA)(x z:Nd)(f t a f' t' a':Nat):x_ s->s.size<=400->x_ s'->s'.size<=400->iE x->iE z->iE (.mk 11 s 0 [.mk 9 s' 0 [x] f' t' a',z] f t a)
 |ite(x y z:Nd)(f t a:Nat):iE x->iE y->iE z->iE (.mk 12 fX 0 [x,y,z] f t a)
 |mt(x:Nd)(A:List (Nd×Nd))(f t a:Nat):A≠[]->iE x->(∀p∈A,z_ p.1)->(∀p∈A,iE p.2)->iE (.mk 13 fX 0 (x::aU A) f t a)
def Fn3(nd:Nd):=∃s x f t a,nd=.mk 9 s 0 [x] f t a/\x_ s/\s.size<=400/\iE x
def Fn3.ex(h:Fn3 nd):iE nd:=by
 obtain⟨s,x,f,t,a,rfl,h1,h2,h3⟩:=h;exact .fn s x f t a h1 h2 h3
def agJ(T:List jj)f:=∃j,f=dc (tk T j)
def wa{α:Type}(T:List jj)(r:Except Fl (α×Nat))(Q:α->Nat->Prop):Prop:=match r with
 |.error f=>agJ T f|.ok (a,k')=>Q a k'
section
variable {e:Nat}
theorem wa.aN{m}{f}{k}{Q:α->Nat->Prop}{R:β->Nat->Prop}(h:wa T (m k) Q)(h2:∀a k',Q a k'->wa T (f a k') R):wa T (Go.Proofs.YtfnkchdeheeiiaaGreatDoor.aN m f k) R:=by
 rw[Go.Proofs.YtfnkchdeheeiiaaGreatDoor.aN]
 cases hm:m k with
 |error e=>rw[hm]at h;exact h|ok p=>rw[hm]at h;exact h2 _ _ h
def wa.mono{r}{Q R:α->Nat->Prop}(h:wa T r Q)(h2:∀a k',Q a k'->R a k'):wa T r R:=by
 cases r with
 |error f=>exact h|ok p=>exact h2 _ _ h
def fJ{Q}:wa T (.error (dc<|tk T k):Except Fl (α×Nat)) Q:=⟨k,rfl⟩
def eI.step(h:eI T e){k}(hk:k<=e)(hn:(tk T k).kind≠7):k+1<=e:=by
 have:k≠e:=λq=>hn (by rw[q];exact h.en);omega
def Ix(h:a_ t s=true):t.kind=5:=by grind[a_]
def bX(h:eI T e)(hk:k<=e)s:wa T (bt T s k) (λ_ k'=>k'=k+1/\k'<=e):=by
 rw[bt];split
 .rename_i q;exact⟨rfl,h.step hk (by rw[Ix q];decide)⟩
 .exact fJ
def oJ(h:eI T e)(hk:k<=e)n(hn:n≠7):wa T (di T n k) (λt k'=>t=tk T k/\t.kind=n/\k'=k+1/\k'<=e):=by
 rw[di];split
 .rename_i q;have q':(tk T k).kind=n:=by simpa using q
  exact⟨rfl,q',rfl,h.step hk (by rw[q'];exact hn)⟩
 .exact fJ
def uI(h:eI T e)(hk:k<=e)mk:wa T (oo T mk k) (λa k'=>a=mk k'/\k'=k+1/\k'<=e):=
 (bX h hk lz).aN λ_ k' q=>⟨rfl,q.1,q.2⟩
def AO{c}(q:bu t=c):(c=1->t.kind=1)/\(c=2->t.kind=2)/\(c=16->t.kind=3)/\(c=3->t.kind=4):=by grind[bu]
def Zi{sort:Nat}(h:aF t sort=true):t.kind≠7:=by
 intro h7;have e1:a_ t gp=false:=by simp[a_,h7]
 have e2:a_ t dE=false:=by simp[a_,h7]
 have e3:a_ t zK=false:=by simp[a_,h7]
 have e4:a_ t qB=false:=by simp[a_,h7]
 have hl:bu t=0:=by rw[bu];rw[e1,e2,e3];simp[h7]
 rw[aF]at h;rw[e4,hl]at h;revert h;simp
def Zp x y u:nn (x.add y u)=nn x+nn y:=by
 obtain⟨k,s,n,L,f,t,a⟩:=x;simp[Nd.add,nn,sT,b8];omega
def Jk(P:Nd->Prop)(nd:Nd):=∃s L f t a,nd=.mk 2 s 0 L f t a/\Gh s/\s.size<=400/\∀x∈L,P x
def Jk.add{P:Nd->Prop}{x y}(h:Jk P x)(hy:P y)u:Jk P (x.add y u):=by
 obtain⟨s,L,f,t,a,rfl,h1,h2,h3⟩:=h
 exact⟨s,L++[y],f,u,a,rfl,h1,h2,λz hz=>by
  obtain q|q:=List.mem_append.1 hz
  .exact h3 z q
  .rw[List.mem_singleton.1 q];exact hy⟩
def ajC(h:eI T e)(hb:aF (tk T k) 1=true)(ho:a_ (tk T k) qB=false):tV (bS<|tk T k):=by
 have g:=h.tok k;rw[aF]at hb;rw[ho]at hb;simp at hb;rw[bS];obtain q|q:=hb
 .rw[q];have h3:=(AO q).2.2.1 rfl;exact .var _ _ _ _ _ (g.var h3) g.sz (by simp[eE,h3])
 .rw[q];have h3:=(AO q).2.1 rfl;exact .up _ _ _ _ _ _ (g.up h3) g.sz (by simp[eE,h3]) ag
def Jk.ty(h:Jk tV nd):tV nd:=by obtain⟨s,L,f,t,a,rfl,h1,h2,h3⟩:=h;exact .up s 0 L f t a h1 h2 rfl h3
def Jk.pa(h:Jk z_ nd):z_ nd:=by obtain⟨s,L,f,t,a,rfl,h1,h2,h3⟩:=h;exact .up s 0 L f t a h1 h2 rfl h3
def Dx(h:bu t=4):t.text.toList=gp.toList\/t.text.toList=dE.toList:=by grind[bu,a_,toList_mk]
def kG(h:bu t≠3):eE t=0:=by grind[bu,eE]
def Sd{p:Prop}(h:p:=by
 intro c q hc;have:=AO q;obtain rfl|rfl|rfl:=hc
 .exact this.1 rfl
 .exact this.2.1 rfl
 .exact this.2.2.2 rfl):p:=h
def Se{p:Prop}(h:p:=by
 rw[q];have h4:(tk T k).kind=4:=hk 3 q ae
 exact .num _ _ _ _ _ (by unfold eE;rw[if_pos h4];exact g.num h4) g.sz):p:=h
def ajD(h:eI T e)(hb:aF (tk T k) 2=true)(ho:a_ (tk T k) qB=false):z_ (bS<|tk T k):=by
 have g:=h.tok k;rw[aF]at hb;rw[ho]at hb;simp at hb;rw[bS];have hk:∀c,bu (tk T k)=c->c=1\/c=2\/c=3->(tk T k).kind=if c=3 then 4 else c:=by
  exact Sd
 rcases hb with(((q|q)|q)|q)|q
 .rw[kG ae,q];exact .any _ _ _ _ g.sz
 .rw[kG ae,q];exact .low _ _ _ _ (g.low<|hk 1 q ae) g.sz
 .rw[kG ae,q];exact .up _ _ _ _ _ _ (g.up<|hk 2 q ae) g.sz rfl ag
 .exact Se
 .rw[kG ae,q];exact .word _ _ _ _ (Dx q) g.sz
def ajE(h:eI T e)(hb:aF (tk T k) 3=true)(ho:a_ (tk T k) qB=false):iE (bS<|tk T k):=by
 have g:=h.tok k;rw[aF]at hb;rw[ho]at hb;simp at hb;rw[bS];have hk:∀c,bu (tk T k)=c->c=1\/c=2\/c=3->(tk T k).kind=if c=3 then 4 else c:=by
  exact Sd
 rcases hb with((q|q)|q)|q
 .rw[kG ae,q];exact .low _ _ _ _ (g.low<|hk 1 q ae) g.sz
 .rw[kG ae,q];exact .up _ _ _ _ (g.up<|hk 2 q ae) g.sz
 .exact Se
 .rw[kG ae,q];exact .word _ _ _ _ (Dx q) g.sz
def Zl(h:a_ t s=true):t.text=s:=by grind[a_,toList_inj]
end
section
open Go.ChangeMaps Un
mutual
def nz:Nd->Nat
 |.mk _ _ _ L _ _ _=>1+nzL L
def nzL:List Nd->Nat
 |[]=>0|x::l=>nz x+nzL l
end
def k_:∀(L:List Ty)(i:Nat)(h:i<L.length),ah (L.take<|i+1)=ah (L.take i)+size L[i]
 |[],i,h=>tW|x::l,0,h=>by simp[ah]|x::l,i+1,h=>by simp only[jq,ah,ju];rw[k_ l i Bm];omega
def eQ:∀(L:List Ty)(i:Nat),ah (L.take i)<=ah L
 |[],i=>ag|x::l,0=>by simp[ah]|x::l,i+1=>by simp only[jq,ah];have:=eQ l i;omega
def pL:∀(L:List Ty),L.length<=ah L
 |[]=>ag|x::l=>by
  have h1:=pL l;have h2:1<=size x:=by cases x<;>simp[size]
  simp only[ah,pk];omega
@[simp] theorem alv a w:(q9 (.iface 98 a) 67 169 true).run qw w=.ok (.tuple #[.agg #[.string ⟨#[]⟩,.slice none 0 0],.bool false]) w:=qkr
@[simp] theorem agN a b w:(q9 (.iface 169<|.agg #[a,b]) 67 169 true).run qw w=.ok (.tuple #[.agg #[a,b],.bool true]) w:=qkr
def Sf(T:Ty):=∀(w:World)(P:Nat->Prop)(v:Value),dB w P T v->size T<=1000->Cq 45 #[v] w λe w'=>e=.returned (Nv<|size T)/\Bq w w'
def aaU(L:List Ty)(w:World)(gk:Nat)(sz v:Value)(wr:World):=
 ∃j:Nat,Hid (gk=L.length-j)/\j<=L.length/\v=Nv j/\sz=.int .i64 ((1+ah (L.take j):Nat):Int)/\Bq w wr
def Vg n:Sf (.var n):=by
 intro w P v h hs
 cases h
 go_enter func45,ntmps45
 go_wp2
 go_ret;exact⟨rfl,bw _⟩
def Vh c L(IH:∀i(h:i<L.length),Sf L[i]):Sf (.aJ c L):=by
 intro w P v h hs;simp only[size]at hs⊢
 cases h with
 |aJ c L sa sc vs hc aM hr=>
 go_enter func45,ntmps45
 go_wp2
 go_loopg[3,17] L.length (λgk sz v wr=>aaU L w gk sz v wr)
 case atStart=>exact⟨0,ai ag,j5 _,rfl,by simp[ah],bw _⟩
 case round=>
  obtain⟨j,cR,hj,rfl,rfl,hb⟩:=hrel;have hsl:=eQ L j;have L0:=pL L;by_cases aY:j<L.length
  .have hd:(j:Int)<(L.length:Int):=ae;obtain⟨g,rfl,hg,iP,bM⟩:∃g,sa=some ⟨g,0,none⟩/\P g/\g<w.heap.size/\∀i,i<L.length->w.cell? ⟨g,i,none⟩=some (vs i):=by
    obtain h0|h0:=aM
    .subst h0;simp at aY
    .exact h0
   have cg:=(j9 (a:=⟨g,j,none⟩)<|hb.block g iP).trans<|bM j aY;have TJ:=(hr j aY).af hb;have⟨tv,xv,hv⟩:=TJ.iface;have e1:=k_ L j aY;have e2:=eQ L<|j+1;have HC:=IH j aY wr P (vs j) TJ ae;rw[hv]at cg HC;go_wp2_with(go_at_call 45;refine HC.mono ?_;rintro e w1⟨rfl,b_⟩;have dq:=ai<|hb.trans<|b_.mono hb.size;clear b_);go_roundg(L.length-(j+1))
   case measure=>rw[uh cR];omega
   case rel=>exact⟨j+1,ai rfl,ae,iK,by rw[e1];go_num,dq⟩
  .have hd:decide ((j:Int)<(L.length:Int))=false:=bB;have ej:j=L.length:=ae;subst ej;rw[jp]
   go_wp2
   go_ret;exact⟨rfl,hb⟩
def Sg:∀(T:Ty),Sf T
 |.var n=>Vg n|.aJ c L=>Vh c L λi h=>Sg L[i]
termination_by T=>qv T
decreasing_by
 have h2:=List.sizeOf_lt_of_mem<|jl h;simp;omega
mutual
def wT:Nd->Nat->List UInt8
 |.mk k s _ L _ _ _=>if k=16 then λ_=>s.toList else bA (fy k s) (wTL L)
def wTL:List Nd->List (Nat->List UInt8)
 |[]=>[]|x::l=>wT x::wTL l
end
def sep(last:BA):List UInt8:=if last.toList=[]\/last.toList=[40]then[]else[32]
def Js(t:BA):Prop:=t.toList≠[]/\t.toList≠[40]
def jX{t:BA}(h:Js t):sep t=[32]:=by rw[sep];rw[if_neg (by intro q;exact q.elim h.1 h.2)]
def oM{l:List UInt8}{t:BA}(h1:t.toList≠[41])(h2:t.toList≠[44])(h3:t.toList≠[59]):rV l last t=l++(sep last++t.toList):=by
 rw[rV,spB,sep];rw[show t.data.toList=t.toList from(qn t).symm];by_cases q1:last.toList=[]
 .simp[q1,h1,h2,h3]
 .grind
def u9{l:List UInt8}{t:BA}(h:t.toList=[41]\/t.toList=[44]):rV l last t=l++t.toList:=by
 rw[rV,spB];rw[show t.data.toList=t.toList from(qn t).symm];obtain h|h:=h<;>simp[h]
def NQ w pb(Q:Nat->Prop):=∀b,Q b->b<w.heap.size/\b≠pb/\Pa w b
def NQ.fn{B pb}{w w'}{Q}(h:NQ w pb Q)(hf:FN B pb w w'):NQ w' pb Q:=λb q=>⟨j7 (h b q).1 hf.size,(h b q).2.1,(h b q).2.2.fn (h b q).1 (h b q).2.1 hf⟩
inductive mj(w:World)(P:Nat->Prop):Nd->Value->Prop where
 |var(s:BA)(n f t a:Nat)(x y:Int)(hq:∃r,s.toList=39::r):mj w P (.mk 16 s n [] f t a) (.iface 159<|.agg #[Iv x,Iv y,.string<|s.extract 1 s.size])
 |fn(s:BA)(n:Nat)(a b:Nd)(f t at_:Nat)(x y:Int)(va vb:Value)(ha:mj w P a va)(hb:mj w P b vb):mj w P (.mk 17 s n [a,b] f t at_) (.iface 161<|.agg #[Iv x,Iv y,va,vb])
 |pr(s:BA)(n:Nat)(a b:Nd)(f t at_:Nat)(x y:Int)(va vb:Value)(ha:mj w P a va)(hb:mj w P b vb):mj w P (.mk 6 s n [a,b] f t at_) (.iface 163<|.agg #[Iv x,Iv y,va,vb])
 |up(s:BA)(n:Nat)(L:List Nd)(f t at_:Nat)(x y x' y':Int)(sa:Option Addr)(sc:Nat)(vs:Nat->Value)(hu:nI s)(aM:L=[]\/∃g,sa=some ⟨g,0,none⟩/\P g/\g<w.heap.size/\∀i,i<L.length->w.cell? ⟨g,i,none⟩=some (vs i))(hr:∀i(h:i<L.length),mj w P L[i]<|vs i):
  mj w P (.mk 2 s n L f t at_) (.iface 166<|.agg #[Iv x,Iv y,Iv x',Iv y',.string s,.slice sa L.length sc])
theorem mj.move(h:mj w P nd v)(hs:w.heap.size<=w'.heap.size)(hb:∀b,P b->b<w.heap.size->w'.heap[b]? =w.heap[b]?)(hq:∀b,P b->b<w.heap.size->Q b):mj w' Q nd v:=by
 induction h with
 |var s n f t a x y hq=>exact .var s n f t a x y hq|fn s n a b f t at_ x y va vb _ _ Ni Nj=>exact .fn s n a b f t at_ x y va vb Ni Nj|pr s n a b f t at_ x y va vb _ _ Ni Nj=>exact .pr s n a b f t at_ x y va vb Ni Nj|up s n L f t at_ x y x' y' sa sc vs hu aM hr ih=>
  refine .up s n L f t at_ x y x' y' sa sc vs hu ?_ ih;obtain h0|⟨g,h1,hP,hz,hc⟩:=aM
  .exact jz h0
  .refine jy ⟨g,h1,hq g hP hz,j7 hz hs,λi hi=>?_⟩;rw[j9 (a:=⟨g,i,none⟩) (w:=w)<|hb g hP hz];exact hc i hi
def mj.af(h:mj w P nd v)(hb:Bq w w'):mj w' P nd v:=h.move hb.size (λb _ hz=>hb.block b hz)<|λ_ p _=>p
def mj.wide(h:mj w P nd v)(hq:∀b,P b->Q b):mj w Q nd v:=h.move (br _) (λ_ _ _=>rfl)<|λb p _=>hq b p
def mj.fr(h:mj w P nd v)(hf:Fr S w w')(hS:∀b,P b->b<w.heap.size->¬S b):mj w' P nd v:=h.move hf.size (λb p z=>hf.block b z<|hS b p z)<|λ_ p _=>p
def mj.iface{a:Nd}(h:mj w P a v):∃t x,v=.iface t (.agg x):=by
 cases h<;>exact⟨_,_,rfl⟩
def mj.bJ{a:Nd}(h:mj w P a v):∃t x,v=.iface t (.agg x):=h.iface
def mj.fnQ(h:mj w Q nd v)(hq:NQ w pb Q)(hf:FN B pb w w'):mj w' Q nd v:=h.move hf.size (λb p z=>hf.block b z (hq b p).2.1<|jy (hq b p).2.2)<|λ_ p _=>p
def uJ B pb mv txt w(e:Ending)w':=
 e=.returned (.tuple #[])/\∃Wq Jt,PN w' B pb Wq txt Jt mv/\Js Jt/\FN B pb w w'
def VY nd:=∀(w:World)(B pb:Nat)(bv:Value)(l:List UInt8)(last:BA)(mv:Value)(Q:Nat->Prop)(v:Value)(k:Nat),PN w B pb bv l last mv->mj w Q nd v->NQ w pb Q->k<=2->(l++(sep last++wT nd k)).length<=800000->B<=pb->
 Cq 51 #[Pv pb,v,Nv k] w (uJ B pb mv (l++(sep last++wT nd k)) w)
def AP nd:=∀(w:World)(B pb:Nat)(bv:Value)(l:List UInt8)(last:BA)(mv:Value)(Q:Nat->Prop)(v:Value),PN w B pb bv l last mv->mj w Q nd v->NQ w pb Q->(l++(sep last++wT nd 0)).length<=800000->B<=pb->
 Cq 78 #[Pv pb,v] w (uJ B pb mv (l++(sep last++wT nd 0)) w)
def rk:Nd->Nat
 |.mk k _ _ L _ _ _=>if k=17 then 0 else if k=2/\L≠[]then 1 else 2
def KH{p:Prop}(h:p:=by
 go_enter func76,ntmps76
 go_wp2
 go_ret
 exact⟨by simp[rk],(qt _ _)⟩):p:=h
def aaV(h:mj w Q nd v):Cq 76 #[v] w λe w'=>e=.returned (Nv<|rk nd)/\Bq w w':=by
 cases h with
 |var s n f t a x y hq=>
  exact KH
 |fn s n a b f t at_ x y va vb ha hb=>
  obtain⟨ta,xa,rfl⟩:=ha.bJ;obtain⟨tb,xb,rfl⟩:=hb.bJ;go_enter func76,ntmps76
  go_wp2
  go_ret;exact⟨by simp[rk],bw _⟩
 |pr s n a b f t at_ x y va vb ha hb=>
  obtain⟨ta,xa,rfl⟩:=ha.bJ;obtain⟨tb,xb,rfl⟩:=hb.bJ;exact KH
 |up s n L f t at_ x y x' y' sa sc vs hu aM hr=>
  by_cases hL:L=[]
  .have h3:decide ((0:Int)<(L.length:Int))=false:=by simp[hL]
   go_enter func76,ntmps76
   go_wp2
   go_ret;exact⟨by simp[rk,hL],bw _⟩
  .have h3:(0:Int)<(L.length:Int):=by have:=List.length_pos_iff.2 hL;omega
   go_enter func76,ntmps76
   go_wp2
   go_ret;exact⟨by simp[rk,hL],bw _⟩
def ahE s n L c f t a k(hc:c=16\/c=17\/c=6\/(c=2/\nI s))(hk:k<=2):wT (.mk c s n L f t a) k=jh (decide (rk (.mk c s n L f t a)<k)) (wT (.mk c s n L f t a) 0):=by
 have hpf:∀x,jh false x=x:=λx=>rfl;have hup:nI s->s≠nB/\s≠lj:=λh=>⟨λe=>cQ h 62 [] aK (by rw[e];exact toList_mk [62]),λe=>cQ h 44 [] aK (by rw[e];exact toList_mk [44])⟩;obtain rfl|rfl|rfl|⟨rfl,hu⟩:=hc
 .have hr:decide (rk (.mk 16 s n L f t a)<k)=false:=by simp[rk];omega
  rw[hr,hpf];simp[wT]
 .have hr:decide (rk (.mk 17 s n L f t a)<k)=decide (0<k):=by simp[rk]
  rw[hr];simp only[wT,fy,if_true,show ¬(17=16) by decide,if_false,bA];rfl
 .have hr:decide (rk (.mk 6 s n L f t a)<k)=false:=by simp[rk];omega
  rw[hr,hpf];simp only[wT,fy,show ¬(6=16) by decide,show ¬(6=17) by decide,if_false,if_true,bA];have cO:¬lj=nB:=yG;rw[if_neg cO,if_neg cO]
 .have⟨h1,h2⟩:=hup hu;have hle:(wTL L).isEmpty=L.isEmpty:=by cases L<;>simp[wTL]
  simp only[wT,fy,show ¬(2=16) by decide,show ¬(2=17) by decide,show ¬(2=6) by decide,if_false,bA,if_neg h1,if_neg h2,hle];have hr:decide (rk (.mk 2 s n L f t a)<k)=(decide (1<k)&& !L.isEmpty):=by
   cases L with
   |nil=>simp[rk];omega|cons x l=>simp[rk]
  rw[hr];rfl
def KN':Nd->Prop
 |.mk c s _ _ _ _ _=>c=16\/c=17\/c=6\/(c=2/\nI s)
def mj.kn(h:mj w Q nd v):KN' nd:=by
 cases h with
 |var=>exact jz rfl|fn=>exact jy (jz rfl)|pr=>exact jy (jy<|jz rfl)|up=>exact jy<|jy<|jy ⟨rfl,qas⟩
section
variable {bv:Value} {l:List UInt8} {mv:Value}
def KI{p:Prop}(h:p:=by
 go_wp2_with fail;refine HC.mono ?_;intro e w1 hp1;have hp2:=hp1;obtain⟨rfl,_⟩:=hp1
 go_wp2
 go_end0
 exact hp2):p:=h
def aaW(HB:AP nd)(h:PN w B pb bv l last mv)(hp:mj w Q nd v)(hq:NQ w pb Q)(hl:(l++(sep last++wT nd 0)).length<=800000)(hB:B<=pb)b1 b2(h1:Bx w b1 #[Pv pb])(h2:Bx w b2 #[v]):
 Cq 77 #[Pv b1,Pv b2] w (uJ B pb mv (l++(sep last++wT nd 0)) w):=by
 obtain⟨tv,xv,rfl⟩:=hp.bJ;obtain⟨c1,f1,z1⟩:=h1;obtain⟨c2,f2,z2⟩:=h2;have HC:=HB w B pb bv l last mv Q _ h hp hq hl hB;go_enter func77,ntmps77;exact KI
def aaX{W w1}(h:Bq W.drew w1):Bq W w1:=((qt W.heap.size W).drew).trans h
abbrev gM:BA:=⟨#[40]⟩
abbrev iJ:BA:=⟨#[41]⟩
def KJ:sep gM=[]:=by rw[sep];rw[if_pos<|jy<|toList_mk [40]]
def FN.lh{w}(hf:FN B pb w w')(h:Bx w b C)(hp:b≠pb)(hx:∀x,C[0]? =some x->∀c,x≠.int .u8 c):Bx w' b C:=h.fn hp (jy<|h.nby hx) hf
def adU(HB:AP nd)k(hk:k<=2)(h:PN w B pb bv l last mv)(hp:mj w Q nd v)(hq:NQ w pb Q)(hl:(l++(sep last++wT nd k)).length<=800000)(hB:B<=pb)b1 b2(h1:Bx w b1 #[Pv pb])(h2:Bx w b2 #[v])(n1:b1≠pb)(n2:b2≠pb):
 Cq 75 #[Pv pb,.bool<|decide (rk nd<k),.func (.func 77) #[] #[Pv b1,Pv b2]] w (uJ B pb mv (l++(sep last++wT nd k)) w):=by
 have hw:wT nd k=jh (decide (rk nd<k)) (wT nd 0):=by
  obtain⟨c,s,n,L,f,t,a⟩:=nd;exact ahE s n L c f t a k hp.kn hk
 rw[hw]at hl⊢;obtain⟨tv,xv,rfl⟩:=hp.bJ
 cases hd:decide (rk nd<k)with
 |false=>
  rw[hd]at hl;have hl':=hl;have HC:=aaW HB h hp hq hl' hB b1 b2 h1 h2;go_enter func75,ntmps75;exact KI
 |true=>
  rw[hd]at hl;have alw:jh true (wT nd 0)=40::(wT nd 0++[41]):=rfl;rw[alw]at hl⊢;simp only[pk,tQ,ua]at hl;have hzp:=h.lt;have bN:Bq w (w.alloc<|Cv #[Sv gM] 9):=bw _;have HP:=vH (h.af bN) gM aK ae w.heap.size (Bx.new w #[Sv gM] 9) ae;have hpt:rV l last gM=l++(sep last++[40]):=by
   have:=oM (l:=l) (last:=last) (t:=gM) qAm qAm qAm;rw[this,show gM.toList=[40]from toList_mk [40]]
  rw[hpt]at HP;go_enter func75,ntmps75;go_wp2_with fail;refine HP.mono ?_;rintro e w1⟨rfl,bv1,N1,F1⟩;have FA:=(FN.of (B:=B) (pb:=pb) bN).trans F1;have X1:=FA.lh h1 n1 qAi;have X2:=FA.lh h2 n2 qAi;have HC:=aaW HB N1 (hp.fnQ hq FA) (hq.fn FA) (by simp only[tQ,pk,ua,KJ];omega) hB b1 b2 X1 X2;have hs1:sep gM=[]:=by rw[sep];rw[if_pos<|Or.inr<|toList_mk [40]]
  rw[hs1]at HC;go_wp2_with fail;refine HC.mono ?_;rintro e w2⟨rfl,VO,C9,N2,fi2,F2⟩;have alx:=N2.lt;have fc:Bq w2 (w2.alloc<|Cv #[Sv iJ] 9):=bw _;have HP2:=vH (N2.af fc) iJ aK (by simp only[tQ,pk,ua,KJ];omega) w2.heap.size (Bx.new w2 #[Sv iJ] 9) ae;rw[u9<|jz<|toList_mk [41],show iJ.toList=[41]from toList_mk [41]]at HP2;go_wp2_with fail;refine HP2.mono ?_;rintro e w3⟨rfl,bv3,N3,F3⟩
  go_wp2
  go_end0;refine⟨rfl,bv3,iJ,?_,⟨by rw[show iJ.toList=[41]from toList_mk [41]];decide,by rw[show iJ.toList=[41]from toList_mk [41]];decide⟩,(FA.trans F2).trans<|(FN.of fc).trans F3⟩;have e9:l++(sep last++[40])++([]++wT nd 0)++[41]=l++(sep last++40::(wT nd 0++[41])):=ag;rw[<-e9];exact N3
end
def isF(c:BA):Bool:=c.toList==[62]
def isP(c:BA):Bool:=c.toList==[44]
def kd c:=if isF c=true then 17 else if isP c=true then 6 else 2
mutual
def sp(a:List Nat):Ty->Nd
 |.var n=>.mk 16 (bs (39::vT ((jd a n).idxOf n))) 0 [] 0 0 0|.aJ c l=>.mk (kd c) c 0 (mZ a l) 0 0 0
def mZ(a:List Nat):List Ty->List Nd
 |[]=>[]|t::l=>sp a t::mZ (vars a t) l
end
def pK c:isF c=true↔c=nB:=by
 rw[isF];rw[beq_iff_eq];exact⟨λh=>toList_inj<|h.trans (toList_mk [62]).symm,λh=>by rw[h];exact toList_mk [62]⟩
def ya c:isP c=true↔c=lj:=by
 rw[isP];rw[beq_iff_eq];exact⟨λh=>toList_inj<|h.trans (toList_mk [44]).symm,λh=>by rw[h];exact toList_mk [44]⟩
def adV c:fy (kd c) c=c:=by
 rw[fy,kd];by_cases h1:isF c=true
 .simp[h1];exact((pK c).1 h1).symm
 .by_cases h2:isP c=true
  .simp[h1,h2];exact((ya c).1 h2).symm
  .simp[h1,h2]
def aj6 c:kd c≠16:=by rw[kd];split;decide;split<;>decide
mutual
def ZA:∀(T:Ty)(a:List Nat),wT (sp a T)=wr dec (vars a T) T
 |.var n,a=>by
  funext k;simp only[sp,wT,if_true,wr,vars];rw[show(bs (39::vT ((jd a n).idxOf n))).toList=39::vT ((jd a n).idxOf n)from toList_mk _];rfl
 |.aJ c l,a=>by
  simp only[sp,wT,if_neg<|aj6 c,adV,wr,vars];rw[aaY l a]
def aaY:∀(l:List Ty)(a:List Nat),wTL (mZ a l)=uf dec (bh a l) l
 |[],a=>rfl|t::l,a=>by
  simp only[mZ,wTL,uf,bh];rw[ZA t a,aaY l<|vars a t,Kl<|lV l<|vars a t]
end
def eJ:∀(l:List Ty)(a:List Nat),(mZ a l).length=l.length
 |[],a=>rfl|t::l,a=>by simp[mZ,eJ l]
def sU:∀(l:List Ty)(a:List Nat)(i:Nat)(h:i<l.length),mZ a (l.take<|i+1)=mZ a (l.take i)++[sp (bh a<|l.take i) l[i]]/\bh a (l.take<|i+1)=vars (bh a<|l.take i) l[i]
 |[],a,i,h=>tW|t::l,a,0,h=>by simp[mZ,bh]|t::l,a,i+1,h=>by
  have:=sU l (vars a t) i Bm;simp only[jq,mZ,bh,this,ju];simp
def AQ:∀(a b:List Ty)(x:List Nat),bh x (a++b)=bh (bh x a) b
 |[],b,x=>rfl|t::a,b,x=>by simp[bh,AQ a b]
def qF l a i:(bh a<|l.take i).length<=(bh a l).length:=by
 have:bh a l=bh (bh a<|l.take i) (l.drop i):=by
  rw[<-AQ,List.take_append_drop]
 rw[this];exact(lV _ _).length_le
def mj.by{w}{P}{nd}{v}(h:mj w P nd v):mj w (λb=>P b/\b<w.heap.size/\Pa w b) nd v:=by
 induction h with
 |var s n f t a x y hq=>exact .var s n f t a x y hq|fn s n a b f t at_ x y va vb _ _ Ni Nj=>exact .fn s n a b f t at_ x y va vb Ni Nj|pr s n a b f t at_ x y va vb _ _ Ni Nj=>exact .pr s n a b f t at_ x y va vb Ni Nj|up s n L f t at_ x y x' y' sa sc vs hu aM hr ih=>
  refine .up s n L f t at_ x y x' y' sa sc vs hu ?_ ih;obtain h0|⟨g,h1,hP,hz,hc⟩:=aM
  .exact jz h0
  .by_cases hL:L=[]
   .exact jz hL
   .have hl:=List.length_pos_iff.2 hL;refine jy ⟨g,h1,⟨hP,hz,λq hq c e=>?_⟩,hz,hc⟩;have⟨t',x'',hv⟩:=(hr 0 hl).bJ;rw[hc 0 hl,hv]at hq
    cases hq
    cases e
inductive WN:Nd->Prop where
 |var(s:BA)(n f t a:Nat)(h:s.size<=1000):WN (.mk 16 s n [] f t a)
 |fn(s:BA)(n:Nat)(x y:Nd)(f t a:Nat)(hx:WN x)(hy:WN y):WN (.mk 17 s n [x,y] f t a)
 |pr(s:BA)(n:Nat)(x y:Nd)(f t a:Nat)(hx:WN x)(hy:WN y):WN (.mk 6 s n [x,y] f t a)
 |up(s:BA)(n:Nat)(L:List Nd)(f t a:Nat)(h:s.size<=1000)(hl:L.length<=1001)(hL:∀i(h:i<L.length),WN L[i]):WN (.mk 2 s n L f t a)
section
variable {nb:Nat}
def Sh{p:Prop}(h:p:=by
 subst ha hb;go_enter func79,ntmps79
 go_wp2
 go_region
 all_goals(
  go_wp2
  go_ret
  exact⟨rfl,(qt _ _).drew⟩)):p:=h
def ac_ g sc va vb ta tb xa xb(ha:va=.iface ta xa)(hb:vb=.iface tb xb)(h0:w.cell? ⟨g,0,none⟩=some va)(h1:w.cell? ⟨g,1,none⟩=some vb):Cq 79 #[.string ⟨#[45,62]⟩,.slice (some ⟨g,0,none⟩) 2 sc] w λe w'=>e=.returned (.iface 161<|.agg #[Iv 0,Iv 0,va,vb])/\Bq w w':=by
 exact Sh
def ada g sc va vb ta tb xa xb(ha:va=.iface ta xa)(hb:vb=.iface tb xb)(h0:w.cell? ⟨g,0,none⟩=some va)(h1:w.cell? ⟨g,1,none⟩=some vb):Cq 79 #[.string ⟨#[44]⟩,.slice (some ⟨g,0,none⟩) 2 sc] w λe w'=>e=.returned (.iface 163<|.agg #[Iv 0,Iv 0,va,vb])/\Bq w w':=by
 exact Sh
def adb c(hu:nI c)sa n sc:Cq 79 #[.string c,.slice sa n sc] w λe w'=>e=.returned (.iface 166<|.agg #[Iv 0,Iv 0,Iv 0,Iv 0,.string c,.slice sa n sc])/\Bq w w':=by
 have h1:(c.toList==[45,62])=false:=by rw[<-qz,beq_iff_eq];exact cQ hu 45 [62] aK
 have h2:(c.toList==[44])=false:=by rw[<-qz,beq_iff_eq];exact cQ hu 44 [] aK
 go_enter func79,ntmps79
 go_wp2
 go_ret;exact⟨rfl,qt _ _⟩
def ahF nb mb nd a' w(e:Ending)w':=
 ∃u,e=.returned u/\mj w' (λb=>w.heap.size<=b) nd u/\NB w' nb mb a'/\Fr (λb=>b=mb) w w'
def SpC T:=∀(w:World)(nb mb:Nat)(a:List Nat)(P:Nat->Prop)(v:Value),dB w P T v->NB w nb mb a->(∀b,P b->b≠mb)->Wf T->(vars a T).length<=96->ah [T]<=1000->
 Cq 52 #[v,nbV nb] w (ahF nb mb (sp a T) (vars a T) w)
@[simp] theorem aly a w:(q9 (.iface 98<|Iv a) 67 98 true).run qw w=.ok (.tuple #[Iv a,.bool true]) w:=qkr
@[simp] theorem agM a b w:(q9 (.iface 169<|.agg #[a,b]) 67 98 true).run qw w=.ok (.tuple #[Iv 0,.bool false]) w:=qkr
def agO n:SpC (.var n):=by
 intro w nb mb a P v h hN hP hW hv hs
 cases h
 simp only[vars]at hv;have HC:=Ti hN n hv;go_enter func52,ntmps52;go_wp2_with fail;refine HC.mono ?_;rintro e w1⟨rfl,N1,F1⟩
 go_wp2
 go_ret;refine⟨_,rfl,?_,N1,F1⟩;have hq:O6 (bs (39::vT ((jd a n).idxOf n))):=⟨_,toList_mk _⟩;have ht:bs (vT<|(jd a n).idxOf n)=(bs (39::vT ((jd a n).idxOf n))).extract 1 (bs (39::vT ((jd a n).idxOf n))).size:=by
  apply toList_inj;have:=xE (s:=bs (39::vT ((jd a n).idxOf n)))<|toList_mk _;rw[tl]at this;rw[this];exact toList_mk _
 rw[ht];exact .var _ _ _ _ _ _ _ hq
def ajF nb mb a(L:List Ty)w pb sb M gk v wr:=
 ∃(j:Nat)(C:Array Value),Hid (gk=L.length-j)/\j<=L.length/\v=Nv j/\NB wr nb mb (bh a<|L.take j)/\Fr (λb=>b=mb) w wr/\Bx wr pb C/\Bx wr sb M/\Hid (C.size=L.length)/\
  Hid (∀i(h:i<(mZ a<|L.take j).length),∃u,C[i]? =some u/\mj wr (λb=>pb<b/\b<wr.heap.size) (mZ a<|L.take j)[i] u)
end
end
section
open Go.ChangeMaps Go.MapKept Un
def IvC nd:=∀(w:World)(Q:Nat->Prop)(v:Value),PE w Q nd v->Cq 317 #[v] w λe w'=>e=.returned (.bool<|qg nd)/\Bq w w'
def ImC x y:=∀(w:World)(Q:Nat->Prop)(vx vy:Value)(f t:Int),PE w Q x vx->PE w Q y vy->Cq 328 #[.agg #[Iv f,Iv t,vx,vy]] w λe w'=>e=.returned (.bool<|qh x&&qg y)/\Bq w w'
def aj7 s n x y f t a(Hx:IvC x)(Hy:IvC y):IvC (.mk 6 s n [x,y] f t a):=by
 intro w Q v h;have ev:qg (.mk 6 s n [x,y] f t a)=(qg x&&qg y):=by simp[qg,In.ahs]
 rw[ev]
 cases h with
 |lt c s n x z f t a y vx vz hc hs hy hx hz=>omega|pr s n x y f t a vx vy hx hy=>
 obtain⟨tx,ax,rfl⟩:=hx.iface;obtain⟨ty,ay,rfl⟩:=hy.iface;have⟨K0,B0⟩:=nK w #[Nv f,Nv t,Fv tx<|Av ax,Fv ty<|Av ay] 309;have H1:=Hx _ Q _<|hx.af K0;go_enter func317,ntmps317;go_wp2_with fail;refine H1.mono ?_;rintro e w1⟨rfl,k1⟩;have KK:=K0.trans<|k1.mono K0.size;have H2:=Hy _ Q _<|hy.af KK;have⟨c1,f1,z1⟩:=B0.below k1
 cases hb:qg x with
 |true=>
  go_wp2_with fail;refine H2.mono ?_;rintro e w2⟨rfl,K2⟩
  go_wp2
  go_ret;exact⟨by rw[hb];rfl,KK.trans<|K2.mono KK.size⟩
 |false=>
  go_wp2
  go_ret;exact⟨by rw[hb];rfl,KK⟩
def Si{p:Prop}(h:p:=by
 go_enter func317,ntmps317;go_wp2_with fail;refine H1.mono ?_;rintro e w1⟨rfl,K1⟩
 go_wp2
 go_ret
 exact⟨rfl,K0.trans<|K1.mono K0.size⟩):p:=h
def aj8 s n x y f t a(Hx:IvC x):IvC (.mk 14 s n [x,y] f t a):=by
 intro w Q v h;have ev:qg (.mk 14 s n [x,y] f t a)=qg x:=by simp[qg,qm]
 rw[ev]
 cases h with
 |lt c s n x z f t a y vx vz hc hs hy hx hz=>omega|of s n x y f t a vx vy hx hy=>
 obtain⟨tx,ax,rfl⟩:=hx.iface;obtain⟨ty,ay,rfl⟩:=hy.bJ;have K0:Bq w (w.alloc<|Cv #[Nv f,Nv t,Fv tx<|Av ax,Fv ty<|Av ay] 311):=bw _;have H1:=Hx _ Q _<|hx.af K0;exact Si
def adW s n x y f t a(Hm:ImC x y):IvC (.mk 8 s n [x,y] f t a):=by
 intro w Q v h;have ev:qg (.mk 8 s n [x,y] f t a)=(qh x&&qg y):=by simp[qg,In.isC,In.adI,qm]
 rw[ev]
 cases h with
 |lt c s n x z f t a y vx vz hc hs hy hx hz=>omega|call s n x y f t a vx vy hx hy=>
 obtain⟨tx,ax,rfl⟩:=hx.iface;obtain⟨ty,ay,rfl⟩:=hy.iface;have K0:Bq w (w.alloc<|Cv #[Nv f,Nv t,Fv tx<|Av ax,Fv ty<|Av ay] 319):=bw _;have H1:=Hm _ Q _ _ (f:Int) (t:Int) (hx.af K0)<|hy.af K0;exact Si
def PE.kinds{x}(h:PE w Q x v):(∃ax:Array Value,v=.iface 390 (.agg ax)/\(∃(a0 a1:Int)(a2:BA),ax=#[Iv a0,Iv a1,.string a2])/\qh x=true)\/(∃(s:BA)(n:Nat)(u z:Nd)(f t a:Nat)(vu vz:Value),x=.mk 8 s n [u,z] f t a/\v=.iface 319 (.agg #[Nv f,Nv t,vu,vz])/\PE w Q u vu/\PE w Q z vz)\/(qh x=false/\∃(D:TypeId)(ax:Array Value),v=.iface D (.agg ax)/\TeN 140 D 390 #[Iv 0,Iv 0,.string ⟨#[]⟩]/\TeN 140 D 319 #[Iv 0,Iv 0,.nilIface,.nilIface]):=by
 cases h with
 |up s n f t a hs=>exact jz ⟨_,rfl,⟨_,_,_,rfl⟩,by simp[qh]⟩|call s n x y f t a vx vy hx hy=>grind|lt c s n x z f t a y vx vz hc hs hy hx hz=>exact jy (jy ⟨by obtain rfl|rfl:=hc<;>simp[qh],_,_,rfl,(Xx.te aK),(P6.te aK)⟩)
 |_=>exact jy (jy ⟨by simp[qh],_,_,rfl,(Xx.te aK),(P6.te aK)⟩)
def adX x y(Hy:IvC y)(IH:∀(s:BA)(n:Nat)(u z:Nd)(f t a:Nat),x=.mk 8 s n [u,z] f t a->ImC u z):ImC x y:=by
 intro w Q vx vy f t hx hy;have⟨K0,B0⟩:=nK w #[Iv f,Iv t,vx,vy] 319;have H1:=Hy _ Q _<|hy.af K0;have LW:=hx.kinds;obtain⟨tx,ax,rfl⟩:=hx.iface;obtain⟨ty,ay,rfl⟩:=hy.iface;obtain⟨Z,hZ⟩:∃Z,Hid<|Z=(In.isM x&&In.H9 y):=⟨_,ai rfl⟩;rw[<-uh hZ];go_enter func328,ntmps328;go_wp2_with fail;refine H1.mono ?_;rintro e w1⟨rfl,k1⟩;have KK:=K0.trans<|k1.mono K0.size;have⟨c1,f1,z1⟩:=B0.below k1
 cases hb:qg y with
 |false=>
  go_wp2
  go_ret;exact⟨by rw[uh hZ,hb,Bool.and_false];rfl,KK⟩
 |true=>
  rw[hb,Bool.and_true]at hZ;obtain⟨bx,e1,⟨a0,a1,a2,rfl⟩,e2⟩|⟨s,n,u,z,f',t',a,vu,vz,rfl,e1,hu,hz⟩|⟨e2,D,bx,e1,h1,h2⟩:=LW
  .injection e1 with e1 e3;injection e3 with e3;subst e1 e3;rw[e2]at hZ
   go_wp2
   go_ret;exact⟨by rw[uh hZ];rfl,KK.alloc KK.size _⟩
  .injection e1 with e1 e3;injection e3 with e3;subst e1 e3;obtain⟨tu,au,rfl⟩:=hu.iface;obtain⟨tz,az,rfl⟩:=hz.iface;have k2:Bq w1 (w1.alloc<|Cv #[Nv f',Nv t',Fv tu<|Av au,Fv tz<|Av az] 319):=bw _;have H3:=IH s n u z f' t' a rfl _ Q _ _ (f':Int) (t':Int) ((hu.af KK).af k2) ((hz.af KK).af k2);have em:qh (.mk 8 s n [u,z] f' t' a)=(qh u&&qg z):=by simp[qh,In.isC,In.adI,qm]
   rw[em]at hZ;have K2:=KK.trans<|k2.mono KK.size;go_wp2_with fail;refine H3.mono ?_;rintro e w3⟨rfl,K3⟩
   go_wp2
   go_ret;exact⟨by rw[uh hZ];rfl,K2.trans<|K3.mono K2.size⟩
  .injection e1 with e1 e3;injection e3 with e3;subst e1 e3;rw[e2]at hZ
   go_wp2
   go_ret;exact⟨by rw[uh hZ];rfl,KK⟩
def KN{p:Prop}(h:p:=by
 go_enter func317,ntmps317
 go_wp2
 go_ret
 exact⟨by simp[qg],qt _ _⟩):p:=h
def KO:∀(m:Nat),(∀nd:Nd,qv nd<=m->IvC nd)/\∀x y:Nd,qv x+qv y<=m->ImC x y:=by
 intro m
 induction m using j8 with
 |_ m ih=>
  have sp:∀nd:Nd,1<=qv nd:=λnd=>by cases nd;simp;omega
  have IV:∀nd:Nd,qv nd<m->IvC nd:=λnd h=>(ih (m-1) ae).1 nd ae;have IM:∀x y:Nd,qv x+qv y<m->ImC x y:=λx y h=>(ih (m-1) ae).2 x y ae;refine⟨λnd hm=>?_,λx y hm=>adX x y (IV y (by have:=sp x;omega)) λs n u z f t a e=>IM u z (by subst e;simp at hm;omega)⟩;intro w Q v h
  cases h with
  |pr s n x y f t a vx vy hx hy=>simp at hm;exact aj7 s n x y f t a (IV x ae) (IV y ae) w Q _ (.pr s n x y f t a vx vy hx hy)|of s n x y f t a vx vy hx hy=>simp at hm;exact aj8 s n x y f t a (IV x ae) w Q _ (.of s n x y f t a vx vy hx hy)|call s n x y f t a vx vy hx hy=>simp at hm;exact adW s n x y f t a (IM x y ae) w Q _ (.call s n x y f t a vx vy hx hy)|lt c s n x z f t a y vx vz hc=>
   obtain rfl|rfl:=hc;all_goals
    exact KN
  |_=>
   exact KN
def py nd:IvC nd:=(KO<|qv nd).1 nd<|br _
def wPl_Low a0 a1 a2 N w:(method (N+1) 356 (.agg #[a0,a1,a2]) "Place").run Tryz.prog w=.ok (403,.agg #[a0,a1]) w:=qkr
def wPl_Up a0 a1 a2 N w:(method (N+1) 390 (.agg #[a0,a1,a2]) "Place").run Tryz.prog w=.ok (403,.agg #[a0,a1]) w:=qkr
def wPl_Number a0 a1 a2 N w:(method (N+1) 326 (.agg #[a0,a1,a2]) "Place").run Tryz.prog w=.ok (403,.agg #[a0,a1]) w:=qkr
def wPl_Bool a0 a1 a2 N w:(method (N+1) 321 (.agg #[a0,a1,a2]) "Place").run Tryz.prog w=.ok (403,.agg #[a0,a1]) w:=qkr
def wPl_Unit a0 a1 N w:(method (N+1) 324 (.agg #[a0,a1]) "Place").run Tryz.prog w=.ok (403,.agg #[a0,a1]) w:=qkr
def wPl_Pair a0 a1 a2 a3 N w:(method (N+1) 309 (.agg #[a0,a1,a2,a3]) "Place").run Tryz.prog w=.ok (403,.agg #[a0,a1]) w:=qkr
def wPl_Typed a0 a1 a2 a3 N w:(method (N+1) 311 (.agg #[a0,a1,a2,a3]) "Place").run Tryz.prog w=.ok (403,.agg #[a0,a1]) w:=qkr
def wPl_Fun a0 a1 a2 a3 a4 a5 N w:(method (N+1) 313 (.agg #[a0,a1,a2,a3,a4,a5]) "Place").run Tryz.prog w=.ok (403,.agg #[a0,a1]) w:=qkr
def wPl_Let a0 a1 a2 a3 a4 a5 a6 a7 N w:(method (N+1) 315 (.agg #[a0,a1,a2,a3,a4,a5,a6,a7]) "Place").run Tryz.prog w=.ok (403,.agg #[a0,a1]) w:=qkr
def wPl_If a0 a1 a2 a3 a4 N w:(method (N+1) 317 (.agg #[a0,a1,a2,a3,a4]) "Place").run Tryz.prog w=.ok (403,.agg #[a0,a1]) w:=qkr
def wPl_Match a0 a1 a2 a3 N w:(method (N+1) 201 (.agg #[a0,a1,a2,a3]) "Place").run Tryz.prog w=.ok (403,.agg #[a0,a1]) w:=qkr
def wPl_Binary a0 a1 a2 a3 a4 N w:(method (N+1) 297 (.agg #[a0,a1,a2,a3,a4]) "Place").run Tryz.prog w=.ok (403,.agg #[a0,a1]) w:=qkr
def wPl_Call a0 a1 a2 a3 N w:(method (N+1) 319 (.agg #[a0,a1,a2,a3]) "Place").run Tryz.prog w=.ok (403,.agg #[a0,a1]) w:=qkr
def wPl_Any a0 a1 N w:(method (N+1) 337 (.agg #[a0,a1]) "Place").run Tryz.prog w=.ok (403,.agg #[a0,a1]) w:=qkr
def wPl_PatternPair a0 a1 a2 a3 N w:(method (N+1) 328 (.agg #[a0,a1,a2,a3]) "Place").run Tryz.prog w=.ok (403,.agg #[a0,a1]) w:=qkr
def wPl_Made a0 a1 a2 a3 a4 a5 N w:(method (N+1) 307 (.agg #[a0,a1,a2,a3,a4,a5]) "Place").run Tryz.prog w=.ok (403,.agg #[a0,a1]) w:=qkr
abbrev PlF tx x(f t:Nat):=∀(N:Nat)(w:World),(method (N+1) tx x "Place").run Tryz.prog w=.ok (403,.agg #[.int .i64 (f:Int),.int .i64 (t:Int)]) w
def PE.place{x:Value}(h:PE w Q nd (.iface tx x)):PlF tx x (In.iw nd) (In.ux nd):=by
 intro N w'
 cases h with
 |low=>exact wPl_Low _ _ _ _ _|up=>exact wPl_Up _ _ _ _ _|num=>exact wPl_Number _ _ _ _ _|word=>exact wPl_Bool _ _ _ _ _|unit=>exact wPl_Unit _ _ _ _|pr=>exact wPl_Pair _ _ _ _ _ _|of=>exact wPl_Typed _ _ _ _ _ _|op=>exact wPl_Binary _ _ _ _ _ _ _|call=>exact wPl_Call _ _ _ _ _ _|fn=>exact wPl_Fun _ _ _ _ _ _ _ _|lt=>exact wPl_Let _ _ _ _ _ _ _ _ _ _|ite=>exact wPl_If _ _ _ _ _ _ _|mt=>exact wPl_Match _ _ _ _ _ _
def PP.place{x:Value}(h:PP w Q nd (.iface tx x)):PlF tx x (In.iw nd) (In.ux nd):=by
 intro N w'
 cases h with
 |any=>exact wPl_Any _ _ _ _|low=>exact wPl_Low _ _ _ _ _|num=>exact wPl_Number _ _ _ _ _|word=>exact wPl_Bool _ _ _ _ _|unit=>exact wPl_Unit _ _ _ _|pr=>exact wPl_PatternPair _ _ _ _ _ _|up=>exact wPl_Made _ _ _ _ _ _ _ _
def c_ f t:Cq 403 #[.agg #[Iv f,Iv t]] w λe w'=>e=.returned (.agg #[Iv f,Iv t])/\Bq w w':=by
 go_enter func403,ntmps403
 go_wp2
 exact bodyPost_ret (v:=Av #[Iv f,Iv t]) (by simp[results,Tryz.results403,go_sem]) rfl ⟨rfl,(bw _).alloc ag _⟩
end
section
open Go.ChangeMaps Un
def hc(nx:Nx)(ds:List Nat):Nat:=(ds.filter λn=>(nx n).isNone).length
def aaZ{nx}(h:iD str nx bi)ds:hc bi ds=hc nx ds:=by
 rw[hc];congr 1;apply List.filter_congr;intro x _;have:=h.Bf x
 cases e:bi x<;>cases e':nx x<;>simp[e,e']at this⊢
def Ox{nx}(ha:nx a=none):∀{ds:List Nat},a∈ds->hc (ja nx a<|some b) ds<hc nx ds:=by
 have hle:∀ds:List Nat,hc (ja nx a<|some b) ds<=hc nx ds:=by
  intro ds
  induction ds with
  |nil=>exact br _|cons x l ih=>
   unfold hc at ih⊢;by_cases e:x=a
   .grind
   .have e1:ja nx a (some b) x=nx x:=by simp[ja,e]
    by_cases e2:(nx x).isNone=true
    .grind
    .grind
 intro ds h
 induction ds with
 |nil=>simp at h|cons x l ih=>
  by_cases e:x=a
  .subst e;have h1:hc (ja nx x<|some b) (x::l)=hc (ja nx x<|some b) l:=by
    unfold hc;rw[List.filter_cons_of_neg MI]
   have h2:hc nx (x::l)=hc nx l+1:=by
    unfold hc;rw[List.filter_cons_of_pos<|by simp[ha]];simp
   have:=hle l;omega
  .have:=ih<|(List.mem_cons.1 h).resolve_left<|λq=>e q.symm;have e1:ja nx a (some b) x=nx x:=by simp[ja,e]
   unfold hc at this⊢;by_cases e2:(nx x).isNone=true
   .grind
   .grind
structure JR str nx bi x y ok:Prop where
 eqs:∀P E,jf bi P E->jf nx P E
 yes:ok=true->(∀V,kK str bi V↔kK str nx V/\V x=V y)/\(∀P,rL str nx P->rL str bi P)/\(∀P E,jf bi P E->E x y)
 no:ok=false->∀V,kK str nx V->V x≠V y
def JR.oY{nx}{ok}(h:JR str oH bi a b ok)(e:iD str nx oH)(hx:Hd nx x a)(hy:Hd nx y b):JR str nx bi x y ok:=by
 refine⟨λP E q=>e.eqs P E<|h.eqs P E q,λhk=>?_,λhk V hV=>?_⟩
 .have⟨h1,h2,h3⟩:=h.yes hk;refine⟨λV=>?_,λP q=>h2 P<|e.mF P q,λP E q=>?_⟩
  .rw[h1 V,e.kL V];constructor
   .rintro⟨s,t⟩;exact⟨s,by rw[hx.kL s,hy.kL s];exact t⟩
   .rintro⟨s,t⟩;exact⟨s,by rw[<-hx.kL s,<-hy.kL s];exact t⟩
  .have q1:=e.eqs P E<|h.eqs P E q;exact q1.trans _ _ _ (hx.eq q1)<|q1.trans _ _ _ (h3 P E q)<|q1.symm _ _<|hy.eq q1
 .have:=h.no hk V<|(e.kL V).2 hV;rw[hx.kL hV,hy.kL hV];exact this
def JR.same str nx a:JR str nx nx a a true:=⟨λ_ _ q=>q,λ_=>⟨λV=>ag,λ_ q=>q,λP E q=>q.refl a⟩,λh=>Mn⟩
def JR.alz{nx}(ha:nx a=none)(hs:str a=none):JR str nx (ja nx a<|some b) a b true:=
 ⟨λP E q=>(q.iS ha).1,λ_=>⟨λV=>kK.join ha,λP q=>q.var ha hs,λP E q=>(q.iS ha).2⟩,λh=>Mn⟩
def JR.alA{nx}(hb:nx b=none)(hs:str b=none):JR str nx (ja nx b<|some a) a b true:=
 ⟨λP E q=>(q.iS hb).1,λ_=>⟨λV=>(kK.join hb).trans (by constructor<;>rintro⟨s,t⟩<;>exact⟨s,t.symm⟩),λP q=>q.var hb hs,λP E q=>q.symm _ _ (q.iS hb).2⟩,λh=>Mn⟩
def JR.afk{nx}(ha:str a=some (c,l))(hb:str b=some (c',l'))(h:c≠c'\/l.length≠l'.length):JR str nx nx a b false:=by
 refine⟨λ_ _ q=>q,λh=> Mn,λ_ V s e=>?_⟩;rw[s.made a c l ha,s.made b c' l' hb]at e;injection e with e1 e2;obtain h|h:=h
 .exact h e1
 .exact h (by have:=congrArg List.length e2;simpa using this)
structure JL str nxu gS(l l':List Nat)j:Prop where
 eqs:∀P E,jf gS P E->jf nxu P E
 kL:∀V,kK str gS V↔kK str nxu V/\∀i(h:i<l.length)(h':i<l'.length),i<j->V l[i]=V l'[i]
 mF:∀P,rL str nxu P->rL str gS P
 prs:∀i(h:i<l.length)(h':i<l'.length),i<j->∀P E,jf gS P E->E l[i] l'[i]
def JL.start str nx l l':JL str nx nx l l' 0:=by
 refine⟨λ_ _ q=>q,λV=>⟨λs=>⟨s,?_⟩,λs=>s.1⟩,λ_ q=>q,?_⟩
 .omega
 .grind
def JL.step{str}{nxu gS bi}{l l'}{j}(h:JL str nxu gS l l' j)(hj:j<l.length)(hj':j<l'.length)(k:JR str gS bi l[j] l'[j] true):JL str nxu bi l l' (j+1):=by
 have⟨k1,k2,k3⟩:=k.yes rfl;refine⟨λP E q=>h.eqs P E<|k.eqs P E q,λV=>?_,λP q=>k2 P<|h.mF P q,λi hi Bo hij P E q=>?_⟩
 .rw[k1 V,h.kL V];constructor
  .rintro⟨⟨s,t⟩,u⟩;refine⟨s,λi hi Bo hij=>?_⟩;by_cases e:i=j
   .subst e;exact u
   .grind
  .grind
 .by_cases e:i=j
  .grind
  .exact h.prs i hi Bo ae P E (k.eqs P E q)
def np(h:l.map V=l'.map V)i(hi:i<l.length)(Bo:i<l'.length):V l[i]=V l'[i]:=by
 have:=congrArg (λx=>x[i]?) h;simpa[hi,Bo]using this
def JL.done{nx}(ha:nx a=none)(hs:str a=some (c,l))(iO:str b=some (c,l'))(hl:l.length=l'.length)(h:JL str (ja nx a<|some b) gS l l' l.length):JR str nx gS a b true:=by
 refine⟨λP E q=>((h.eqs P E q).iS ha).1,λ_=>⟨λV=>?_,λP q=>?_,λP E q=>((h.eqs P E q).iS ha).2⟩,λh=>Mn⟩
 .rw[h.kL V,kK.join ha];constructor
  .grind
  .rintro⟨s,t⟩;refine⟨⟨s,t⟩,λi hi Bo _=>?_⟩;rw[s.made a c l hs,s.made b c l' iO]at t;injection t with _ t;exact np t i hi Bo
 .have h1:=h.mF _<|q.aJ ha hs iO hl;refine h1.ak4 λE hE m n hm=>?_;have⟨i,hi,e⟩:=List.getElem_of_mem hm;have hi1:i<l.length:=Gd;have qK:i<l'.length:=Gd;rw[List.getElem_zip]at e;injection e with e1 e2;subst e1;subst e2;exact h.prs i hi1 qK hi1 P E hE
def JL.fail{nx}(ha:nx a=none)(hs:str a=some (c,l))(iO:str b=some (c,l'))(h:JL str (ja nx a<|some b) gS l l' j)(hj:j<l.length)(hj':j<l'.length)(k:JR str gS bi l[j] l'[j] false):JR str nx bi a b false:=by
 refine⟨λP E q=>((h.eqs P E<|k.eqs P E q).iS ha).1,λh=> Mn,λ_ V s e=>?_⟩;have t:=e;rw[s.made a c l hs,s.made b c l' iO]at t;injection t with _ t;have s1:=(h.kL V).2 ⟨(kK.join ha).2 ⟨s,e⟩,λi hi Bo _=>np t i hi Bo⟩;exact k.no rfl V s1 (np t j hj hj')
def lh(h:CN c):(pn c).toList≠[]:=by
 obtain rfl|rfl|h:=h
 .rw[jI,show(ByteArray.mk #[45,62]).toList=[45,62]from toList_mk [45,62]];simp
 .rw[jJ,show(ByteArray.mk #[44]).toList=[44]from toList_mk [44]];simp
 .rw[eM h];obtain⟨x,r,e,_⟩:=h;rw[e];simp
def ahG(h:CN c)(h':CN c')(e:(pn c).toList=(pn c').toList):c=c':=by
 have f1:=toList_mk [45,62];have f2:=toList_mk [44];obtain rfl|rfl|h:=h<;>obtain rfl|rfl|h':=h'
 .rfl
 .rw[jI,jJ,f1,f2]at e;simp at e
 .rw[jI,eM h',f1]at e;exact absurd e.symm<|cQ h' 45 [62] aK
 .rw[jI,jJ,f1,f2]at e;simp at e
 .rfl
 .rw[jJ,eM h',f2]at e;exact absurd e.symm<|cQ h' 44 [] aK
 .rw[jI,eM h,f1]at e;exact absurd e<|cQ h 45 [62] aK
 .rw[jJ,eM h,f2]at e;exact absurd e<|cQ h 44 [] aK
 .rw[eM h,eM h']at e;exact toList_inj e
def Vi:(Tryz.prog.info? 187).map (λi=>i.size)=some 5:=qkr
def KP{P}{tp te}{j}(hu:P.underlying tp=some (.pointer te))(hj:P.info? te=some j)(hjs:j.size≠0)(ha:w.heap[a]? =some (.cells ca ta (0,0)))(hb:w.heap[b]? =some (.cells cb tb (0,0))):(binOp .eql tp (nA a)<|nA b).run P w=.ok (.bool<|decide (a=b)) w:=by
 have hq:(Op.equal tp (nA a)<|nA b).run P w=.ok (decide (a=b)) w:=by
  rw[Op.equal,Op.maxDepth,Op.equalIn];simp only[Sem.run_bind,run_underlying hu,Result.andThen,Go.sizeOf,Go.typeInfo,hj];by_cases e:a=b
  .subst e;simp[hjs,run_sameAddr_same,hj]
  .simp[e,hjs,hj,run_sameAddr_other w (a:=⟨a,0,none⟩) (b:=⟨b,0,none⟩) (by intro q;injection q with q;exact e q) ha hb]
 simp only[binOp];simp[hq]
def aa0(ha:w.heap[a]? =some (.cells ca ta (0,0)))(hb:w.heap[b]? =some (.cells cb tb (0,0))):(binOp .eql 116 (nA a)<|nA b).run qw w=.ok (.bool<|decide (a=b)) w:=by
 have⟨j,hj,hjs⟩:=Option.map_eq_some_iff.1 Vi;exact KP qkr hj ae ha hb
def ahH{nx}(hm:h∈ds)(hn:nx h=none):0<hc nx ds:=by
 rw[hc];apply List.length_pos_of_mem (a:=h);rw[List.mem_filter];exact⟨hm,by simp[hn]⟩
def KR(vr:Nat->Nat)(vl:List Nat):List (Int×Value):=vl.map λn=>((vr n:Int),nA n)
def aa1{vr:Nat->Nat}{v:Nat}:∀{vl:List Nat},(∀m∈vl,vr m≠v)->aX (v:Int) (KR vr vl)=none
 |[],_=>rfl|m::l,h=>by
  have h1:((vr m:Nat):Int)≠(v:Int):=λe=>h m ag ae;have:=aa1 (vr:=vr) (v:=v) (vl:=l) λx hx=>h x<|jk _ hx;simp only[KR]at this;simp[KR,aX,h1,this]
def Dy{vr:Nat->Nat}{n:Nat}:∀{vl:List Nat},n∈vl->(∀m∈vl,vr m=vr n->m=n)->aX (vr n:Int) (KR vr vl)=some (nA n)
 |[],h,_=>tW|m::l,h,k=>by
  by_cases e:vr m=vr n
  .have:=k m ag e;subst this;simp[KR,aX]
  .have h1:((vr m:Nat):Int)≠(vr n:Int):=λq=>e ae;have hl:n∈l:=by
    obtain q|q:=List.mem_cons.1 h
    .subst q;exact absurd rfl e
    .exact q
   have:=Dy (vr:=vr) (n:=n) hl λx hx=>k x<|jk _ hx;simp only[KR]at this;simp[KR,aX,h1,this]
def Sj{vl}{v:Nat}(h:¬n∈vl):KR (ja vr n v) vl=KR vr vl:=by
 rw[KR];apply jo;intro m hm;have:m≠n:=λe=>h<|e▸hm;simp[ja,this]
section
variable {nx:Nx}
theorem eW.move{s:Option (BA×List Nat)}(h:eW w ds sa s)(hs:w.heap.size<=w'.heap.size)(hb:∀b i v,w.cell? ⟨b,i,none⟩=some v->w'.heap[b]? =w.heap[b]?):eW w' ds sa s:=by
 cases s with
 |none=>trivial|some p=>
  obtain⟨c,l⟩:=p;obtain⟨h1,h2,h3,h4⟩:=h;refine⟨h1,h2,h3,?_⟩;by_cases e:l=[]
  .exact jz e
  .have⟨g,q1,q2,q3,q4⟩:=h4.resolve_left e;refine jy ⟨g,q1,q2,ae,λi hi=>?_⟩;have:=q4 i hi;rw[j9 (a:=⟨g,i,none⟩) (w:=w)<|hb g i _ this];exact this
def Sk{p:Prop}(h:p:=by
 refine⟨λn hn=>?_,h.out,h.hd⟩;have hc:=(h.nd n hn).cells.1;obtain⟨h1,h2,h3⟩:=h.nd n hn
 exact⟨(hb n 0 _ hc).trans h1,h2.move hs hb,h3⟩):p:=h
theorem GN.move(h:GN w ds str nx vr ly)(hs:w.heap.size<=w'.heap.size)(hb:∀b i v,w.cell? ⟨b,i,none⟩=some v->w'.heap[b]? =w.heap[b]?):GN w' ds str nx vr ly:=by
 exact Sk
def eW.more{s:Option (BA×List Nat)}(h:eW w ds sa s)(hn:w.heap.size<=n):eW w (n::ds) sa s:=by
 cases s with
 |none=>trivial|some p=>
  obtain⟨c,l⟩:=p;obtain⟨h1,h2,h3,h4⟩:=h;refine⟨h1,h2,λm hm=>jk _<|h3 m hm,h4.imp id ?_⟩;rintro⟨g,q1,q2,q3,q4⟩;refine⟨g,q1,λhg=>?_,q3,q4⟩;obtain q|q:=List.mem_cons.1 hg
  .omega
  .exact q2 q
def yW.lt(h:yW w ds str nx vr ly n):n<w.heap.size:=(Array.getElem?_eq_some_iff.1 h.1).1
def GN.add(h:GN w ds str (λ_=>none) vr ly)(hs:w.heap.size<=w'.heap.size)(hb:∀b i v,w.cell? ⟨b,i,none⟩=some v->w'.heap[b]? =w.heap[b]?){n:Nat}(hn:w.heap.size<=n)s v a(hh:w'.heap[n]? =some (.cells #[.pointer none,Iv 0,Nv v,.string<|byS s,.slice a.1 (slN s) a.2] 187 (0,0)))(hp:eW w' (n::ds) a.1 s):
 GN w' (n::ds) (ja str n s) (λ_=>none) (ja vr n v) (ja ly n a):=by
 refine⟨λx hx=>?_,λx hx=>?_,λx _=>⟨x,.here rfl⟩⟩
 .by_cases e:x=n
  .subst e;refine⟨by simpa[ja,nP]using hh,by simpa[ja]using hp,λm hm=>by cases hm⟩
  .have uk:=(List.mem_cons.1 hx).resolve_left e;have hc:=(h.nd x uk).cells.1;have⟨h1,h2,h3⟩:=h.nd x uk;refine⟨?_,?_,λm hm=>by cases hm⟩
   .rw[hb x 0 _ hc,h1];simp[ja,e]
   .simp only[ja,e,if_false];exact(h2.more hn).move hs hb
 .have uk:x≠n/\¬x∈ds:=⟨λe=>hx Mm,λe=>hx Mm⟩;exact⟨rfl,by simpa[ja,uk.1]using(h.out x uk.2).2⟩
end
structure Ns where
 ds:List Nat
 str:rF
 vr:Nat->Nat
 ly:Nat->Option Addr×Nat
 ty:Nat->Ty
 vl:List Nat
def Ns.Le(G G':Ns):=∀m∈G.ds,m∈G'.ds/\G'.ty m=G.ty m
def Ns.Le.refl(G:Ns):G.Le G:=λ_ h=>⟨h,rfl⟩
def Ns.Le.trans{A B C:Ns}(h:A.Le B)(k:B.Le C):A.Le C:=λm hm=>⟨(k m (h m hm).1).1,(k m (h m hm).1).2.trans (h m hm).2⟩
def Ns.New(b:Nat)(G G':Ns):=∀m∈G'.ds,(m∈G.ds/\G'.ly m=G.ly m/\G'.str m=G.str m)\/(b<=m/\∀g,(G'.ly m).1=some ⟨g,0,none⟩->b<=g)
def Ns.New.refl b G:Ns.New b G G:=λm hm=>jz ⟨hm,rfl,rfl⟩
def Ns.New.trans{b'}{A B C}(h:Ns.New b A B)(k:Ns.New b' B C)(hb:b<=b'):Ns.New b A C:=λm hm=>by
 obtain⟨k1,k2,k3⟩|⟨k1,k2⟩:=k m hm
 .obtain⟨h1,h2,h3⟩|⟨h1,h2⟩:=h m k1
  .grind
  .grind
 .grind
def lvB(kb:Nat):Nat:=kb-2
structure VN(w:World)(kb mb:Nat)(G:Ns):Prop where
 bk:Bx w kb #[Mv mb]
 mp:MS (λn:Int=>Iv n) w mb (KR G.vr G.vl)
 gn:GN w G.ds G.str (λ_=>none) G.vr G.ly
 of:Un.Of G.str G.vr (λn=>n∈G.ds) G.ty
 vs:∀n,n∈G.vl↔n∈G.ds/\G.str n=none
 kd:¬kb∈G.ds
 wf:∀n∈G.ds,Wf<|G.ty n
 lv:Bx w (lvB kb) #[Iv 0]
 ld:¬lvB kb∈G.ds
 lm:lvB kb≠mb
def MS.nj{κ:Type}[DecidableEq κ]{enc}{L:List (κ×Value)}(h:MS enc w b L)(i:Nat):w.cell? ⟨b,i,none⟩=none:=by
 obtain⟨es,c,hb,_⟩:=h;simp[qe,hb]
def IsM(mb:Nat)(b:Nat):Prop:=b=mb
def eY(h:w.cell? ⟨b,i,none⟩=some v):b<w.heap.size:=by
 by_cases e:b<w.heap.size
 .exact e
 .have:w.heap[b]? =none:=Array.getElem?_eq_none ae;simp[qe,this]at h
def VN.lq{G}(h:VN w kb mb G)(hf:Fr (IsM mb) w w'):∀b i v,w.cell? ⟨b,i,none⟩=some v->w'.heap[b]? =w.heap[b]? :=by
 intro b i v hc;refine hf.block b (eY hc)<|λe=>?_;have e:=e;subst e;rw[h.mp.nj i]at hc
 cases hc
def VN.fr{G}(h:VN w kb mb G)(hf:Fr S w w')(hS:∀b,S b->w.heap.size<=b):VN w' kb mb G:=by
 have hb:∀b,b<w.heap.size->w'.heap[b]? =w.heap[b]? :=λb hz=>hf.block b hz (λq=>by have:=hS b q;omega);exact⟨h.bk.same hf.size<|hb kb h.bk.z,h.mp.same<|hb mb h.mp.lt,h.gn.move hf.size<|λb i v hc=>hb b<|eY hc,h.of,h.vs,h.kd,h.wf,h.lv.same hf.size<|hb (lvB kb) h.lv.z,h.ld,h.lm⟩
def Sl{p:Prop}(h:p:=by
 obtain⟨c,l⟩:=p;rw[hs]at p2;obtain⟨q1,q2,q3,q4⟩:=p2;refine⟨q1,q2,q3,?_⟩;by_cases e:l=[]
 .exact jz e
 .obtain⟨g,r1,r2,r3,r4⟩:=q4.resolve_left e;have hg:=h5 c l g hs e r1;refine jy ⟨g,r1,r2,by rw[o.size];exact r3,λi hi=>?_⟩;rw[j9 (a:=⟨g,i,none⟩) (w:=w)<|o.block g hg]
  exact r4 i hi):p:=h
def VN.one{w w'}{kb mb b}{G}(h:VN w kb mb G)(o:One b w w')(h1:¬b∈G.ds)(h2:kb≠b)(h3:mb≠b)(h6:lvB kb≠b)(h4:∀m∈G.ds,∀c l g,G.str m=some (c,l)->l≠[]->(G.ly m).1=some ⟨g,0,none⟩->g≠b):VN w' kb mb G:=by
 refine⟨h.bk.one o h2,h.mp.one o h3,⟨λn hn=>?_,h.gn.out,h.gn.hd⟩,h.of,h.vs,h.kd,h.wf,h.lv.one o h6,h.ld,h.lm⟩;have⟨p1,p2,p3⟩:=h.gn.nd n hn;have cO:n≠b:=λe=>h1<|e▸hn;refine⟨(o.block n cO).trans p1,?_,p3⟩;have h5:=h4 n hn
 cases hs:G.str n with
 |none=>trivial|some p=>
  exact Sl
def So{p:Prop}(h:p:=by
 rw[hs]at p2;obtain⟨g',r1,_,r3,_⟩:=p2.2.2.2.resolve_left hl;rw[hg]at r1;injection r1 with r1;injection r1 with r1;subst r1
 exact r3):p:=h
def VN.row{G}(h:VN w kb mb G){m}(hm:m∈G.ds)(hs:G.str m=some (c,l))(hl:l≠[])(hg:(G.ly m).1=some ⟨g,0,none⟩):g<w.heap.size:=by
 have⟨_,p2,_⟩:=h.gn.nd m hm;exact So
def Sp{p:Prop}(h:p:=by
 simp only[ja,q,r,if_false]at e1 e2 e3
 exact h.one x y ((List.mem_cons.1 hx).resolve_left q) ((List.mem_cons.1 hy).resolve_left r) e1 e2 e3):p:=h
def KS{p:Prop}(h:p:=by
 simp only[ja,q,if_false]at e⊢
 exact h.var x ((List.mem_cons.1 hx).resolve_left q) e):p:=h
def Of.ahI{ty:Nat->Ty}(h:Un.Of str vr (λn=>n∈ds) ty){v:Nat}(hn:¬n∈ds)(hv:∀m∈ds,str m=none->vr m≠v):Un.Of (ja str n none) (ja vr n v) (λx=>x∈n::ds) (ja ty n<|.var v):=by
 refine⟨λx hx e=>?_,λx c l e=>?_,λx y hx hy e1 e2 e3=>?_⟩
 .by_cases q:x=n
  .subst q;simp[ja]
  .exact KS
 .by_cases q:x=n
  .subst q;simp[ja]at e
  .simp only[ja,q,if_false]at e⊢;have⟨a,b,d⟩:=h.aJ x c l e;refine⟨jk _ a,?_,λy hy=>jk _<|d y hy⟩;rw[b];congr 1;apply jo;intro y hy;have:y≠n:=λq=>hn<|q▸d y hy;simp[ja,this]
 .by_cases q:x=n<;>by_cases r:y=n
  .rw[q,r]
  .subst q;simp only[ja,r,if_true,if_false]at e2 e3;exact absurd e3.symm<|hv y ((List.mem_cons.1 hy).resolve_left r) e2
  .subst r;simp only[ja,q,if_true,if_false]at e1 e3;exact absurd e3<|hv x ((List.mem_cons.1 hx).resolve_left q) e1
  .exact Sp
def KT{p:Prop}(h:p:=by
 apply jo;intro y hy;have:y≠n:=λq=>hn<|q▸hl y hy
 simp[ja,this]):p:=h
def Of.ahJ{ty:Nat->Ty}(h:Un.Of str vr (λn=>n∈ds) ty)(hn:¬n∈ds)c l(hl:∀m∈l,m∈ds)v:Un.Of (ja str n<|some (c,l)) (ja vr n v) (λx=>x∈n::ds) (ja ty n<|.aJ c<|l.map ty):=by
 have ahK:∀l:List Nat,(∀m∈l,m∈ds)->l.map (ja ty n<|.aJ c<|l.map ty)=l.map ty:=by
  intro l hl;exact KT
 have afl:∀(T:Ty)(l:List Nat),(∀m∈l,m∈ds)->l.map (ja ty n T)=l.map ty:=by
  intro T l hl;exact KT
 refine⟨λx hx e=>?_,λx c' l' e=>?_,λx y hx hy e1 e2 e3=>?_⟩
 .by_cases q:x=n
  .subst q;simp[ja]at e
  .exact KS
 .by_cases q:x=n
  .subst q;simp[ja]at e;obtain⟨rfl,rfl⟩:=e;refine⟨ag,?_,λy hy=>jk _<|hl y hy⟩;rw[afl _ _ hl];simp[ja]
  .have e':str x=some (c',l'):=by simpa[ja,q]using e
   have⟨a,b,d⟩:=h.aJ x c' l' e';refine⟨jk _ a,?_,λy hy=>jk _<|d y hy⟩;rw[afl _ _ d,<-b];simp[ja,q]
 .have q:x≠n:=λq=>by subst q;simp[ja]at e1
  have r:y≠n:=λq=>by subst q;simp[ja]at e2
  exact Sp
section
variable {G:Ns}
def sQ w:(zeroValue 116).run qw w=.ok (.pointer none) w:=qkr
def Sq(kb mb:Nat)(G:Ns)(T:Ty)(w:World)(e:Ending)(w':World):=
 ∃n G',e=.returned (nA n)/\VN w' kb mb G'/\G.Le G'/\n∈G'.ds/\G'.ty n=T/\Fr (IsM mb) w w'/\Ns.New w.heap.size G G'
def adY(h:VN w kb mb G)v:Cq 80 #[Nv v,Pv kb,Pv<|lvB kb] w (Sq kb mb G (.var v) w):=by
 have hl:=h.mp.look (KL.num Tryz.underlying98) Tryz.underlying179 (sQ w) (v:Int) trivial (λ_ _=>trivial) true;have⟨c,f,z⟩:=h.bk;have pi:=c 0;have hcl:=h.lv.c 0;have hzl:=h.lv.z;by_cases hm:∃n,n∈G.vl/\G.vr n=v
 .obtain⟨n,hn,rfl⟩:=hm;have⟨n1,n2⟩:=(h.vs n).1 hn;rw[Dy hn<|λm hm e=>h.of.one m n ((h.vs m).1 hm).1 n1 ((h.vs m).1 hm).2 n2 e]at hl;simp at hl;have H:=ai h;go_enter func80,ntmps80
  go_wp2
  go_ret;exact⟨n,G,rfl,H,Ns.Le.refl _,n1,H.of.var n n1 n2,xg _ _,Ns.New.refl _ _⟩
 .have hv:∀m∈G.vl,G.vr m≠v:=λm h1 h2=>hm ⟨m,h1,h2⟩;have hg:=aa1 hv;rw[hg]at hl;simp at hl;have HM:=h.mp.below<|bw<|Cv #[.pointer none,Iv 0,Nv v,Sv ⟨#[]⟩,Lv none 0 0] 187;have BK:=h.bk.alloc<|Cv #[.pointer none,Iv 0,Nv v,Sv ⟨#[]⟩,Lv none 0 0] 187;obtain⟨c1,f1,z1⟩:=BK;have amy:=c1 0;have H:=ai h;go_enter func80,ntmps80;go_wp2_with(first|(go_at_call 81;go_in)|(refine aT _ rfl _ _ _ _ (Or.inr rfl) (KL.num Tryz.underlying98) Tryz.underlying179 _ _ rfl HM (v:Int) (nA w.heap.size) rfl rfl trivial (λ_ _=>trivial) ?_;intro w' H' O';have Bc:=ai H';have O2:=ai O';clear H' O'));go_ret;have O:=uh O2;have h:=uh H;have zm:=h.mp.lt;have hz:¬w.heap.size∈G.ds:=λq=>by have:=(h.gn.nd _ q).lt;omega
  have hzv:¬w.heap.size∈G.vl:=λq=>hz ((h.vs _).1 q).1;have dU:=O.size.trans<|Array.size_push ..;have F1:Fr (IsM mb) w w':=by
   have f1:Fr (IsM mb) w (w.alloc<|Cv #[.pointer none,Iv 0,Nv v,Sv ⟨#[]⟩,Lv none 0 0] 187):=xf<|bw _;exact⟨O.os.trans f1.os,O.tape.trans f1.tape,O.output.trans f1.output,ae,λk hk hn=>(O.block k<|λe=>hn e).trans<|f1.block k hk hn⟩
  have aj9:w'.heap[w.heap.size]? =some (Cv #[.pointer none,Iv 0,Nv v,Sv ⟨#[]⟩,Lv none 0 0] 187 (0,0)):=by
   rw[O.block _ ae];exact(MapKept.heap_alloc w _).1
  have kz:kb≠mb:=λe=>by subst e;have:=h.mp.nj 0;rw[pi]at this;cases this
  refine⟨w.heap.size,⟨w.heap.size::G.ds,ja G.str w.heap.size none,ja G.vr w.heap.size v,ja G.ly w.heap.size (none,0),ja G.ty w.heap.size<|.var v,G.vl++[w.heap.size]⟩,rfl,⟨?_,?_,?_,?_,?_,?_,?_,h.lv.fr F1<|λe=>h.lm e,λq=>(List.mem_cons.1 q).elim (λq=>ae) h.ld,h.lm⟩,?_,ag,MI,F1,λm hm=>?_⟩
  .exact h.bk.fr F1 (λe=>kz e)
  .have:=uh Bc;rw[lN _ _ _ hg]at this;have e1:KR (ja G.vr w.heap.size v) (G.vl++[w.heap.size])=KR G.vr G.vl++[((v:Int),nA w.heap.size)]:=by
    rw[<-Sj (v:=v) hzv];simp[KR,ja]
   show MS _ w' mb<|KR (ja G.vr w.heap.size v)<|G.vl++[w.heap.size];rw[e1];exact this
  .exact h.gn.add F1.size (h.lq F1) (br _) none v (none,0) aj9 trivial
  .refine Of.ahI h.of hz (λm hm e=>hv m<|(h.vs m).2 ⟨hm,e⟩)
  .intro x;show x∈G.vl++[w.heap.size]↔x∈w.heap.size::G.ds/\ja G.str w.heap.size none x=none;by_cases e:x=w.heap.size
   .simp[e,ja]
   .simp[e,ja,h.vs x]
  .show ¬kb∈w.heap.size::G.ds;intro q;obtain q|q:=List.mem_cons.1 q
   .omega
   .exact h.kd q
  .intro x hx;by_cases e:x=w.heap.size
   .subst e;simp[ja,Wf]
   .simp only[ja,e,if_false];exact h.wf x<|(List.mem_cons.1 hx).resolve_left e
  .intro m hm;have:m≠w.heap.size:=λe=>hz<|e▸hm;exact⟨jk _ hm,by simp[ja,this]⟩
  .by_cases e:m=w.heap.size
   .subst e;exact jy ⟨br _,λg q=>by simp[ja]at q⟩
   .have Ol:=(List.mem_cons.1 hm).resolve_left e;exact jz ⟨Ol,by simp[ja,e],by simp[ja,e]⟩
end
abbrev vfV(kb:Nat):Value:=.func (.func 80) #[] #[Pv kb,Pv<|lvB kb]
def Ns.none:Ns:=⟨[],λ_=>Option.none,λ_=>0,λ_=>(Option.none,0),λ_=>.var 0,[]⟩
section
variable {G:Ns}
def KU:Cq 54 #[Iv 0] w λe w'=>∃kb mb,e=.returned (vfV kb)/\VN w' kb mb Ns.none/\Bq w w'/\w.heap.size<=mb:=by
 have iN:= @run_makeMap Tryz.prog;go_enter func54,ntmps54
 go_wp2
 go_ret;have bN:=(((qt w.heap.size w).alloc (br _)<|Cv #[Iv 0] 3).alloc ag<|.map #[] 0).alloc bB<|Cv #[Mv<|w.heap.size+1] 179;have e1:lvB (w.heap.size+1+1)=w.heap.size:=rfl;refine⟨w.heap.size+1+1,w.heap.size+1,rfl,⟨?_,?_,⟨λn hn=>?_,λn _=>⟨rfl,rfl⟩,λn _=>⟨n,.here rfl⟩⟩,⟨λn hn=>?_,λn c l e=>?_,λm n hm=>?_⟩,λn=>?_,?_,?_,?_,?_,?_⟩,bN,ae⟩
 .have:=Bx.new ((w.alloc<|Cv #[Iv 0] 3).alloc<|.map #[] 0) #[Mv<|w.heap.size+1] 179;simpa using this
 .have:=(MS.new (λn:Int=>Iv n)<|w.alloc<|Cv #[Iv 0] 3).below<|bw<|Cv #[Mv<|w.heap.size+1] 179;simpa[Ns.none,KR]using this
 .simp[Ns.none]at hn
 .simp[Ns.none]at hn
 .simp[Ns.none]at e
 .simp[Ns.none]at hm
 .simp[Ns.none]
 .simp[Ns.none]
 .simp[Ns.none]
 .rw[e1];exact((Bx.new w #[Iv 0] 3).alloc _).alloc _
 .simp[Ns.none]
 .rw[e1];omega
end
def OfN(T:Ty):=∀(w:World)(kb mb:Nat)(G:Ns)(Q:Nat->Prop)(v:Value),VN w kb mb G->dB w Q T v->(∀b,Q b->b≠mb)->size T<=1000->Wf T->Cq 55 #[v,Iv 0,vfV kb] w (Sq kb mb G T w)
def uZ:(Tryz.prog.info? 116).map (λi=>(i.zero,i.size,i.bytes))=some (some<|.pointer none,1,8):=qkr
def oW:Tryz.prog.underlying 182=some (.slice 116):=qkr
def aj_(kb mb:Nat)(G:Ns)(c:BA)(L:List Ty)(sa:Option Addr)(sc:Nat)(w:World)(gk:Nat)(v:Value)(wr:World):=
 ∃(j:Nat)(C:Array Value)(G':Ns)(l:List Nat),Hid (gk=L.length-j)/\j<=L.length/\v=Nv j/\VN wr kb mb G'/\G.Le G'/\Fr (IsM mb) w wr/\Bx wr w.heap.size #[.string<|pn c,.slice sa L.length sc]/\Bx wr (w.heap.size+1) C/\Hid (C.size=L.length)/\
  Hid (Ns.New (w.heap.size+2) G G'/\l.length=j/\(∀m∈l,m∈G'.ds)/\l.map G'.ty=L.take j/\∀i(h:i<l.length),C[i]? =some (nA l[i]))
def uY:∀(L:List Ty),L.length<=ah L
 |[]=>j5 _|t::l=>by have:=uY l;have:=size_pos t;simp[ah];omega
section
variable {G:Ns}
def adZ n:OfN (.var n):=by
 intro w kb mb G Q v h hv hQ hs hwf
 cases hv
 have HC:=adY h n;go_enter func55,ntmps55;go_wp2_with fail;refine HC.mono ?_;rintro e w1⟨m,G',rfl,r⟩
 go_wp2
 go_ret;exact⟨m,G',rfl,r⟩
def ad0{G G':Ns}(h:G.Le G')(hl:∀m∈l,m∈G.ds):l.map G'.ty=l.map G.ty:=by
 apply jo;intro m hm;exact(h m<|hl m hm).2
def ad1 c L(IH:∀i(h:i<L.length),OfN L[i]):OfN (.aJ c L):=by
 intro w kb mb G Q v HN hv hQ hs HWT
 cases hv with
 |aJ _ _ sa sc vs yv aM hr=>
 have hL:L.length<=1001:=by have:=uY L;simp[size]at hs;omega
 have HS:∀i(HN:i<L.length),size L[i]<=1000:=λi hi=>by have:=rW<|jl hi;simp[size]at hs;omega
 have⟨i0,vC,nJ,lG,jB⟩:=info_parts uZ;have Te:=gT (by_:=8) oW vC nJ rfl lG jB aK L.length hL;have zk:=HN.bk.z;have zl:=HN.lv.z;have lm:=HN.lm;have zm:=HN.mp.lt;have HW:=ai aM;have HWF:=(pM L).1 HWT.2;go_enter func55,ntmps55
 go_wp2
 go_loopg[29] L.length (λgk v wr=>aj_ kb mb G c L sa sc w gk v wr)
 case atStart=>
  have bN:=((qt w.heap.size w).alloc (br _)<|Cv #[Sv<|pn c,Lv sa L.length sc] 169).alloc ag<|Cv (qp L.length<|.pointer none) 116;refine⟨0,qp L.length<|.pointer none,G,[],ai ag,j5 _,rfl,HN.fr (S:=λ_=>False) (xf bN)<|λ_ q=>q.elim,Ns.Le.refl _,xf bN,(Bx.new w _ _).alloc _,?_,ai ag,ai ⟨Ns.New.refl _ _,rfl,ag,ag,λi hi=>by simp at hi⟩⟩;have:=Bx.new (w.alloc<|Cv #[Sv<|pn c,Lv sa L.length sc] 169) (qp L.length<|.pointer none) 116;simpa using this
 case round=>
  obtain⟨j,C,G1,l,cR,hj,rfl,N1,L1,F1,B0,B1,hC,hT⟩:=hrel;have zw:=F1.size;have zb:=B1.z;by_cases aY:j<L.length
  .have hd:(j:Int)<(L.length:Int):=ae;obtain⟨g,rfl,hg,iP,bM⟩:∃g,sa=some ⟨g,0,none⟩/\Q g/\g<w.heap.size/\∀i,i<L.length->w.cell? ⟨g,i,none⟩=some (vs i):=by
    obtain h0|h0:=uh HW
    .subst h0;simp at aY
    .exact h0
   have cg:wr.cell? ⟨g,j,none⟩=some (vs j):=by
    rw[j9 (a:=⟨g,j,none⟩) (w:=w)<|F1.block g iP<|λq=>hQ g hg q];exact bM j aY
   have PJ:=(hr j aY).fr F1<|λb p _ q=>hQ b p q;have⟨tv,xv,hv⟩:=PJ.iface;have HC:=IH j aY wr kb mb G1 Q (vs j) N1 PJ hQ (HS j aY)<|HWF L[j]<|jl aY;rw[hv]at cg HC;go_wp2_with fail;refine HC.mono ?_;rintro e w1⟨m,G2,rfl,LA,HL2,HM,HT2,F2,HX⟩;have mr:w.heap.size+1≠mb:=ae;have B2:=B1.fr F2<|λq=>mr q;have B02:=B0.fr F2 (λq=>by have q:w.heap.size=mb:=q;omega);have rG:j<C.size:=qBh;have cj:=(B2.c j).trans<|qs rG;have fj:=B2.f j;have B3:=B2.aP j (nA m) (C.setIfInBounds j<|nA m) rfl rG;have B03:=B02.bO (b2:=w.heap.size+1) ae j<|nA m;have xF:=F1.trans F2;have z2:=F2.size
   go_wp2
   go_roundg(L.length-(j+1))
   case measure=>rw[uh cR];omega
   case rel=>
    have⟨x1,x2,x3,x4,x5⟩:=uh hT;have aM:=x1.trans HX ae;refine⟨j+1,C.setIfInBounds j<|nA m,G2,l++[m],ai rfl,ae,iK,?_,L1.trans HL2,xF.set (jy ae) j _,B03,B3,ai (by simp;exact hC),ai ⟨aM,by simp[x2],?_,?_,?_⟩⟩
    .have n2:=LA;have h0:=HN;refine n2.one (One.cell w1 (w.heap.size+1) j<|nA m) (λq=>?_) ae ae ae<|λy hy c' l' g' e1 e2 e3=>?_
     .obtain⟨q,_⟩|⟨q,_⟩:=aM _ q
      .have:=(h0.gn.nd _ q).lt;omega
      .omega
     .obtain⟨q1,q2,q3⟩|⟨q1,q2⟩:=aM y hy
      .have:=h0.row q1 (q3▸e1) e2<|q2▸e3;omega
      .have:=q2 g' e3;omega
    .intro y hy;obtain q|q:=List.mem_append.1 hy
     .exact(HL2 y<|x3 y q).1
     .simp at q;subst q;exact HM
    .rw[jx,ad0 HL2 x3,x4,jm aY];simp[HT2]
    .intro i hi;by_cases e:i<j
     .rw[qr ae,x5 i ae,List.getElem_append_left ae]
     .have e:i=j:=Gd;subst e;rw[List.getElem_append_right ae];simp[rG]
  .have hd:decide ((j:Int)<(L.length:Int))=false:=bB;have ej:j=L.length:=ae;subst ej;have⟨x1,x2,x3,x4,x5⟩:=uh hT;rw[jp]at x4;have HX:=xc x1<|xc x2<|xc x3<|xc x4 x5;have c0:=B0.c 0;go_wp2_with(go_at_call 82;go_in);go_ret;obtain⟨x1,x2,x3,x4,x5⟩:=HX;have hz:¬wr.heap.size∈G1.ds:=λq=>by have:=(N1.gn.nd _ q).lt;omega
   have hzl:¬wr.heap.size∈G1.vl:=λq=>hz ((N1.vs _).1 q).1;have b_:Bq wr (wr.alloc<|Cv #[.pointer none,Iv 0,Iv 0,Sv<|pn c,Lv (some ⟨w.heap.size+1,0,none⟩) L.length L.length] 187):=bw _;have F3:Fr (IsM mb) wr (wr.alloc<|Cv #[.pointer none,Iv 0,Iv 0,Sv<|pn c,Lv (some ⟨w.heap.size+1,0,none⟩) L.length L.length] 187):=xf b_;have xS:=B1.alloc<|Cv #[.pointer none,Iv 0,Iv 0,Sv<|pn c,Lv (some ⟨w.heap.size+1,0,none⟩) L.length L.length] 187;have U6:¬(w.heap.size+1)∈G1.ds:=λq=>by
    obtain⟨q,_⟩|⟨q,_⟩:=x1 _ q
    .have:=(HN.gn.nd _ q).lt;omega
    .omega
   refine⟨wr.heap.size,⟨wr.heap.size::G1.ds,ja G1.str wr.heap.size<|some (c,l),ja G1.vr wr.heap.size 0,ja G1.ly wr.heap.size (some ⟨w.heap.size+1,0,none⟩,L.length),ja G1.ty wr.heap.size<|.aJ c<|l.map G1.ty,G1.vl⟩,rfl,⟨N1.bk.alloc _,?_,?_,Of.ahJ N1.of hz c l x3 0,?_,?_,?_,N1.lv.alloc _,λq=>(List.mem_cons.1 q).elim (λq=>ae) N1.ld,N1.lm⟩,?_,ag,?_,F1.trans F3,?_⟩
   .show MS _ _ mb (KR (ja G1.vr wr.heap.size 0) G1.vl);rw[Sj hzl];exact N1.mp.below b_
   .refine N1.gn.add F3.size (N1.lq F3) (br _) (some (c,l)) 0 (some ⟨w.heap.size+1,0,none⟩,L.length) ?_ ⟨yv,ae,λm hm=>jk _<|x3 m hm,jy ⟨w.heap.size+1,rfl,?_,xS.z,λi hi=>(xS.c i).trans<|x5 i hi⟩⟩
    .have:=(MapKept.heap_alloc wr<|Cv #[.pointer none,Iv 0,Iv 0,Sv<|pn c,Lv (some ⟨w.heap.size+1,0,none⟩) L.length L.length] 187).1;simp only[byS,slN,x2];exact this
    .intro q;obtain q|q:=List.mem_cons.1 q
     .omega
     .exact U6 q
   .intro x;show x∈G1.vl↔x∈wr.heap.size::G1.ds/\ja G1.str wr.heap.size (some (c,l)) x=none;by_cases e:x=wr.heap.size
    .subst e;simp[ja,hzl]
    .simp[e,ja,N1.vs x]
   .show ¬kb∈wr.heap.size::G1.ds;intro q;obtain q|q:=List.mem_cons.1 q
    .omega
    .exact N1.kd q
   .intro x hx;by_cases e:x=wr.heap.size
    .subst e;simp only[ja,if_true,x4];exact HWT
    .simp only[ja,e,if_false];exact N1.wf x<|(List.mem_cons.1 hx).resolve_left e
   .intro m hm;have⟨q1,q2⟩:=L1 m hm;have:m≠wr.heap.size:=λe=>hz<|e▸q1;exact⟨jk _ q1,by simp[ja,this];exact q2⟩
   .simp[ja,x4]
   .intro m hm;by_cases e:m=wr.heap.size
    .subst e;refine jy ⟨ae,λg q=>?_⟩;simp[ja]at q;omega
    .have Ol:=(List.mem_cons.1 hm).resolve_left e;obtain⟨q1,q2,q3⟩|⟨q1,q2⟩:=x1 m Ol
     .exact jz ⟨q1,by simp[ja,e,q2],by simp[ja,e,q3]⟩
     .refine jy ⟨ae,λg q=>?_⟩;simp[ja,e]at q;have:=q2 g q;omega
end
mutual
def aa2:∀T:Ty,OfN T
 |.var n=>adZ n|.aJ c L=>ad1 c L<|afm L
def afm:∀(L:List Ty)(i:Nat)(h:i<L.length),OfN L[i]
 |[],i,h=>absurd h (j6 _)|t::l,0,h=>aa2 t|t::l,i+1,h=>afm l i Bm
end
def AR{α β:Type}{E E':α->β->Prop}(h:∀a b,E a b->E' a b):∀{l:List α}{k:List β},eB E l k->eB E' l k
 |_,_,.nil=>.nil|_,_,.cons p q=>.cons (h _ _ p)<|AR h q
def Fz{α β:Type}{E:α->β->Prop}:∀{l:List α}{k:List β},eB E l k->∀i(h:i<l.length)(h':i<k.length),E l[i] k[i]
 |_,_,.nil,i,h,_=>absurd h (j6 _)|_,_,.cons p _,0,_,_=>p|_,_,.cons _ q,i+1,h,h'=>Fz q i Bm (by simpa using h')
def tG{α β:Type}{E:α->β->Prop}:∀{l:List α}{k:List β},eB E l k->l.length=k.length
 |_,_,.nil=>rfl|_,_,.cons _ q=>by simp[tG q]
def Fin.eqv{nx}(h:jc str nx vr F V)(e:iD str nx bi):jc str bi vr F V:=by
 intro x hx;have⟨h1,h2⟩:=h x hx;refine⟨(e.Bf x).2 h1,?_⟩
 cases hs:str x with
 |none=>grind|some p=>
  obtain⟨c,l⟩:=p;rw[hs]at h2;obtain⟨iO,a,b,d⟩:=h2;exact⟨iO,AR (λx y q=>e.jN x y q) a,b,d⟩
def mu(M:List (Nat×Value)):List Nat->Nat
 |[]=>0|x::l=>(if(aX x M).isNone then 1 else 0)+mu M l
def FC{M M':List (Nat×Value)}(h:∀x,aX x M'=none->aX x M=none):∀ds,mu M' ds<=mu M ds
 |[]=>br _|x::l=>by
  have:=FC h l;unfold mu;by_cases e:aX x M'=none
  .simp[e,h x e];exact this
  .have:(aX x M').isNone=false:=by cases q:aX x M' with
    |none=>exact absurd q e|some v=>rfl
   simp[this];omega
def aa3{M:List (Nat×Value)}{h:Nat}(hn:aX h M=none)(v:Value):∀{ds:List Nat},h∈ds->mu (bD h v M) ds<mu M ds
 |[],q=>by simp at q|x::l,q=>by
  have hm:=FC (M:=M) (M':=bD h v M) (λy hy=>by
   rw[aO]at hy;split at hy
   .cases hy
   .exact hy)
  by_cases e:h=x
  .subst e;have:=hm l;unfold mu;rw[aO];simp[hn];omega
  .have hl:=(List.mem_cons.1 q).resolve_left e;have:=aa3 hn v hl;unfold mu;rw[aO];simp[e];omega
def ad2{M}:aX x M=some v->∃p∈M,p.1=x:=by
 induction M with
 |nil=>intro h;cases h|cons p l ih=>
  intro h;rw[aX]at h;split at h
  .rename_i e;exact⟨p,ag,e⟩
  .grind
def KY{M}{p}:p∈bD x v M->p∈M\/p.1=x:=by
 induction M with
 |nil=>intro h;simp[bD]at h;exact jy (by rw[h])|cons q l ih=>
  intro h;rw[bD]at h;split at h
  .grind
  .grind
structure SZ(ds:List Nat)str nx vr M F(B:List Nat)V:Prop where
 fin:jc str nx vr F V
 fg:∀x,F x->aX x M=some (.int .i64 ((min (size<|V x) 49:Nat):Int))
 bg:∀x∈B,aX x M=some (Iv 0)
 gm:∀x v,aX x M=some v->F x\/x∈B
 kd:∀p∈M,p.1∈ds
section
variable {nx:Nx} {M:List (Nat×Value)} {B:List Nat}
def SZ.eqv(h:SZ ds str nx vr M F B V)(e:iD str nx bi):SZ ds str bi vr M F B V:=⟨Fin.eqv h.fin e,h.fg,h.bg,h.gm,h.kd⟩
def SZ.fd(h:SZ ds str nx vr M F B V)(hx:F x):x∈ds:=by
 have⟨p,h1,h2⟩:=ad2<|h.fg x hx;exact h2▸h.kd p h1
def Sr T:(((min (size T) 49:Nat)):Int)≠0:=by have:=size_pos T;omega
def SZ.apart(h:SZ ds str nx vr M F B V)(hx:F x)(hb:x∈B):False:=by
 have h1:=h.fg x hx;rw[h.bg x hb]at h1;injection h1 with h1;injection h1 with _ h1;exact Sr _ h1.symm
def SZ.begin(h:SZ ds str nx vr M F B V)(hd:x∈ds)(hn:aX x M=none):SZ ds str nx vr (bD x (Iv 0) M) F (x::B) V:=by
 refine⟨h.fin,λy hy=>?_,λy hy=>?_,λy v hy=>?_,λp hp=>?_⟩
 .rw[aO,if_neg (λe=>by subst e;rw[h.fg _ hy]at hn;cases hn)];exact h.fg y hy
 .rw[aO];by_cases e:x=y
  .rw[if_pos e]
  .rw[if_neg e];exact h.bg y<|(List.mem_cons.1 hy).resolve_left<|λq=>e q.symm
 .rw[aO]at hy;by_cases e:x=y
  .grind
  .rw[if_neg e]at hy;exact(h.gm y v hy).imp id λq=>ML
 .obtain q|q:=KY hp
  .exact h.kd p q
  .rw[q];exact hd
def SZ.done(h:SZ ds str nx vr M F (x::B) V)(hxB:¬x∈B)(hd:x∈ds)(hn:nx x=none)T(hT:match str x with
 |none=>T=.var (vr x)|some (c,l)=>∃hs,eB (Hd nx) l hs/\(∀y,y∈hs->F y)/\T=.aJ c (hs.map V)):
 SZ ds str nx vr (bD x (.int .i64 ((min (size T) 49:Nat):Int)) M) (λy=>F y\/y=x) B (ja V x T):=by
 have cO:∀y,F y->y≠x:=λy hy e=>by subst e;exact h.apart hy ag
 have ahK:∀hs:List Nat,(∀y,y∈hs->F y)->hs.map (ja V x T)=hs.map V:=λhs q=>by
  apply jo;intro y hy;simp[ja,cO y<|q y hy]
 refine⟨λy hy=>?_,λy hy=>?_,λy hy=>?_,λy v hy=>?_,λp hp=>?_⟩
 .by_cases e:y=x
  .subst e;refine⟨hn,?_⟩
   cases hs:str y with
   |none=>rw[hs]at hT;simpa[ja]using hT|some p=>
    obtain⟨c,l⟩:=p;rw[hs]at hT;obtain⟨k,a,b,d⟩:=hT;exact⟨k,a,λz hz=>jz<|b z hz,by rw[ahK k b];simp[ja,d]⟩
  .have hy':=hy.resolve_right e;have⟨h1,h2⟩:=h.fin y hy';refine⟨h1,?_⟩
   cases hs:str y with
   |none=>rw[hs]at h2;simpa[ja,e]using h2|some p=>
    obtain⟨c,l⟩:=p;rw[hs]at h2;obtain⟨k,a,b,d⟩:=h2;exact⟨k,a,λz hz=>jz<|b z hz,by rw[ahK k b];simp[ja,e,d]⟩
 .rw[aO];by_cases e:x=y
  .subst e;simp[ja]
  .rw[if_neg e];have e':y≠x:=λq=>e q.symm;simp only[ja,e',if_false];exact h.fg y<|hy.resolve_right e'
 .rw[aO,if_neg (λe:x=y=>hxB<|e▸hy)];exact h.bg y (by simp[hy])
 .rw[aO]at hy;by_cases e:x=y
  .omega
  .rw[if_neg e]at hy;obtain q|q:=h.gm y v hy
   .grind
   .grind
 .obtain q|q:=KY hp
  .exact h.kd p q
  .rw[q];exact hd
end
abbrev BS:Nat->Value:=λb=>Pv b
def Vk:(Tryz.prog.info? 187).map (λi=>i.size)=some 5:=qkr
def aav:KL qw 116 BS (λw b=>∃c t,w.heap[b]? =some (.cells c t (0,0))):=by
 obtain⟨j,hj,hs⟩:∃j,Tryz.prog.info? 187=some j/\j.size=5:=by
  have:=Vk
  cases h:Tryz.prog.info? 187 with
  |none=>grind|some j=>grind
 exact KL.ptr Tryz.underlying116 hj ae
def AU w ds(str:rF)(nx:Nx)(vr:Nat->Nat)(ly:Nat->Option Addr×Nat)(lv:Nat->Nat)n:=
 w.heap[n]? =some (.cells #[nP<|nx n,Nv<|lv n,Nv<|vr n,.string<|byS<|str n,.slice (ly n).1 (slN<|str n) (ly n).2] 187 (0,0))/\eW w ds (ly n).1 (str n)/\∀m,nx n=some m->m∈ds
structure GL w ds str nx vr ly lv:Prop where
 nd:∀n,n∈ds->AU w ds str nx vr ly lv n
 out:∀n,¬n∈ds->nx n=none/\str n=none
 hd:∀n,n∈ds->∃h,Hd nx n h
def AU.cells{nx}{lv}(h:AU w ds str nx vr ly lv n):w.cell? ⟨n,0,none⟩=some (nP<|nx n)/\w.frozen? ⟨n,0,none⟩=false/\w.cell? ⟨n,3,none⟩=some (.string<|byS<|str n)/\w.cell? ⟨n,2,none⟩=some (Nv<|vr n)/\w.cell? ⟨n,4,none⟩=some (.slice (ly n).1 (slN<|str n) (ly n).2):=by
 obtain⟨h1,_⟩:=h;exact⟨qBu,by simp[qf,h1],qBu,qBu,qBu⟩
def AU.lvl{nx}{lv}(h:AU w ds str nx vr ly lv n):w.cell? ⟨n,1,none⟩=some (Nv<|lv n)/\w.frozen? ⟨n,1,none⟩=false:=⟨by simp[qe,h.1],by simp[qf,h.1]⟩
def Ss{p:Prop}(h:p:=by
 cases hs:str x with
 |none=>trivial|some p=>
  obtain⟨c,l⟩:=p;rw[hs]at h2;obtain⟨p1,p2,p3,p4⟩:=h2;refine⟨p1,p2,p3,p4.imp id λq=>?_⟩;obtain⟨g,q1,q2,q3,q4⟩:=q;refine⟨g,q1,q2,by simpa[qd]using q3,λi hi=>?_⟩;rw[World.cell?_setCell_other _ _ _ _ (by intro e;injection e with e;subst e;exact q2 hn)]
  exact q4 i hi):p:=h
def GL.set{nx}{lv}(h:GL w ds str nx vr ly lv)(hn:n∈ds)(hk:k∈ds)(hhd:∀x,x∈ds->∃y,Hd (ja nx n<|some k) x y):GL (w.setCell ⟨n,0,none⟩<|nA k) ds str (ja nx n<|some k) vr ly lv:=by
 refine⟨λx hx=>?_,λx hx=>?_,hhd⟩
 .have⟨h1,h2,h3⟩:=h.nd x hx;have hp:eW (w.setCell ⟨n,0,none⟩<|nA k) ds (ly x).1 (str x):=by
   exact Ss
  by_cases e:x=n
  .subst e;refine⟨(dC h1 0 _).trans<|by simp[ja,nP],hp,λm hm=>?_⟩;simp[ja]at hm;subst hm;exact hk
  .refine⟨?_,hp,λm hm=>h3 m<|by simpa[ja,e]using hm⟩;rw[qu _ _ _ _ e,h1];simp[ja,e]
 .have:x≠n:=λe=>hx<|e▸hn;simpa[ja,this]using h.out x hx
def GL.TN{nx}{lv}(h:GL w ds str nx vr ly lv)(hn:n∈ds)L:GL (w.setCell ⟨n,1,none⟩<|Nv L) ds str nx vr ly (ja lv n L):=by
 refine⟨λx hx=>?_,h.out,h.hd⟩;have⟨h1,h2,h3⟩:=h.nd x hx;have hp:eW (w.setCell ⟨n,1,none⟩<|Nv L) ds (ly x).1 (str x):=by
  exact Ss
 by_cases e:x=n
 .subst e;refine⟨(dC h1 1 _).trans MI,hp,h3⟩
 .refine⟨?_,hp,h3⟩;rw[qu _ _ _ _ e,h1];simp[ja,e]
def Vl ds str nx vr ly lv h w(e:Ending)w':=
 e=.returned (nA h)/\∃bi,GL w' ds str bi vr ly lv/\Fr (λb=>b∈ds) w w'/\iD str nx bi/\w'.heap.size=w.heap.size
def aa4 ds str nx vr ly lv h w gk v wr:=
 ∃n bi,v=nA n/\n∈ds/\Hw bi n h gk/\GL wr ds str bi vr ly lv/\Fr (λb=>b∈ds) w wr/\iD str nx bi/\wr.heap.size=w.heap.size
section
variable {nx:Nx} {lv:Nat->Nat}
def rB(hg:GL w ds str nx vr ly lv)(hn:n∈ds)(hh:Hd nx n h):Cq 83 #[nA n] w (Vl ds str nx vr ly lv h w):=by
 have⟨j0,hj0⟩:=Hd.len hh;have HJ:=ai hj0;clear hj0 hh;go_enter func83,ntmps83
 go_wp2
 go_loopg[0] j0 (λgk v wr=>aa4 ds str nx vr ly lv h w gk v wr)
 case atStart=>exact⟨n,nx,rfl,hn,HJ,hg,xg _ _,iD.refl _ _,rfl⟩
 case round=>
  clear hg HJ;obtain⟨n1,dP,rfl,LF,hl1,G1,F1,E1,z1⟩:=hrel;have⟨c0,f0,_⟩:=(G1.nd n1 LF).cells
  cases hl1 with
  |here e0=>
   rw[e0]at c0;have c0':wr.cell? ⟨h,0,none⟩=some (.pointer none):=c0;clear c0
   go_wp2
   go_ret;exact⟨rfl,dP,G1,F1,E1,z1⟩
  | @step _ m _ k e0 hlm=>
    have hm:m∈ds:=by
     have⟨_,_,h3⟩:=G1.nd n1 LF;exact h3 m e0
    have cO:n1≠m:=λq=>by subst q;have:=(Hw.step e0 hlm).one hlm;omega
    rw[e0]at c0;have c0':wr.cell? ⟨n1,0,none⟩=some (Pv m):=c0;have⟨d0,_⟩:=(G1.nd m hm).cells;clear c0
    cases hlm with
    |here e1=>
     rw[e1]at d0;have d0':wr.cell? ⟨h,0,none⟩=some (.pointer none):=d0;clear d0
     go_wp2
     go_roundg 0
     case measure=>omega
     case rel=>exact⟨h,dP,rfl,hm,.here e1,G1,F1,E1,z1⟩
    | @step _ m2 _ k2 e1 Po=>
      rw[e1]at d0;have d0':wr.cell? ⟨m,0,none⟩=some (Pv m2):=d0;have hm2:m2∈ds:=by
       have⟨_,_,h3⟩:=G1.nd m hm;exact h3 m2 e1
      clear d0;have hnm:¬m=n1:=λq=>cO q.symm
      go_wp2
      go_roundg k2
      case measure=>omega
      case rel=>
       refine⟨m2,ja dP n1<|some m2,rfl,hm2,Po.dR (Hw.step e0<|Hw.step e1 Po) ae _,G1.set LF hm2<|λx hx=>?_,F1.set (jz LF) 0 _,E1.trans<|iD.short str e0 e1 cO,by simp[qd];exact z1⟩;have⟨y,hy⟩:=G1.hd x hx;exact⟨y,hy.short e0 e1⟩
end
structure kH(str:rF)(nx:Nx)(ds:List Nat)(lv cq:Nat->Nat)n L(D:Nat->Prop):Prop where
 up:∀m,D m->m∈ds/\nx m=none/\L<lv m/\cq m=L
 no:∀m,¬D m->cq m=lv m
 hd:∀h,Hd nx n h->D h\/lv h<=L
 cl:∀a,D a->∀c l,str a=some (c,l)->∀p,p∈l->∀h,Hd nx p h->D h\/lv h<=L
 re:∀R:Nat->Prop,(∀h,Hd nx n h->R h)->(∀a c l p h,R a->str a=some (c,l)->p∈l->Hd nx p h->R h)->∀a,D a->R a
structure xB(str:rF)(nx:Nx)(ds:List Nat)(lv lK:Nat->Nat)h(l:List Nat)L(D:Nat->Prop):Prop where
 own:D h
 up:∀m,D m->m∈ds/\nx m=none/\L<lv m/\lK m=L
 no:∀m,¬D m->lK m=lv m
 pt:∀p,p∈l->∀k,Hd nx p k->D k\/lv k<=L
 cl:∀a,D a->a≠h->∀c l,str a=some (c,l)->∀p,p∈l->∀k,Hd nx p k->D k\/lv k<=L
 re:∀R:Nat->Prop,R h->(∀a c l p k,R a->str a=some (c,l)->p∈l->Hd nx p k->R k)->∀a,D a->R a
section
variable {nx:Nx} {lv lK:Nat->Nat} {L:Nat} {E:Nat->Prop}
def kH.nil(hh:Hd nx n h)(hl:lv h<=L):kH str nx ds lv lv n L (λ_=>False):=
 ⟨λ_ q=>q.elim,λ_ _=>rfl,λk q=>jy (by rw[q.one hh];exact hl),λ_ q=>q.elim,λ_ _ _ _ q=>q.elim⟩
def xB.start(hd:h∈ds)(hn:nx h=none)(hl:L<lv h):xB str nx ds lv (ja lv h L) h [] L (λm=>m=h):=
 ⟨rfl,λm q=>by subst q;exact⟨hd,hn,hl,MI⟩,λm q=>by simp[ja,q],λp q=>by simp at q,λa q r=>absurd q r,λR q _ a r=>by subst r;exact q⟩
def xB.step{p}{c}{l0}(hs:str h=some (c,l0))(hp:p∈l0)(k:xB str nx ds lv lK h l L D)(q:kH str nx ds lK cq p L E):xB str nx ds lv cq h (l++[p]) L (λm=>D m\/E m):=by
 have dis:∀m,E m->¬D m:=λm e d=>by have:=(q.up m e).2.2.1;have:=(k.up m d).2.2.2;omega
 have low:∀x,lK x<=L->D x\/lv x<=L:=λx hx=>by
  by_cases d:D x
  .exact jz d
  .exact jy (by rw[<-k.no x d];exact hx)
 refine⟨jz k.own,λm e=>?_,λm e=>?_,λp' lJ x hx=>?_,λa e ne c' l' iO p' lJ x hx=>?_,λR r1 r2 a e=>?_⟩
 .by_cases d:E m
  .have⟨u1,u2,u3,u4⟩:=q.up m d;exact⟨u1,u2,by rw[<-k.no m (dis m d)];exact u3,u4⟩
  .have⟨u1,u2,u3,u4⟩:=k.up m<|e.resolve_right d;exact⟨u1,u2,u3,(q.no m d).trans u4⟩
 .rw[q.no m<|λd=>e<|jy d,k.no m<|λd=>e<|jz d]
 .obtain lJ|lJ:=List.mem_append.1 lJ
  .exact(k.pt p' lJ x hx).imp jz id
  .simp at lJ;subst lJ;obtain r|r:=q.hd x hx
   .grind
   .grind
 .obtain d|d:=e
  .exact(k.cl a d ne c' l' iO p' lJ x hx).imp jz id
  .obtain r|r:=q.cl a d c' l' iO p' lJ x hx
   .grind
   .grind
 .obtain d|d:=e
  .exact k.re R r1 r2 a d
  .exact q.re R (λx hx=>r2 h c l0 p x r1 hs hp hx) r2 a d
def xB.done{l0}(hh:Hd nx n h)(hs:str h=some (c,l0))(k:xB str nx ds lv lK h l0 L D):kH str nx ds lv lK n L D:=by
 refine⟨k.up,k.no,λx hx=>jz (by rw[hx.one hh];exact k.own),λa d c' l' iO p hp x hx=>?_,λR r1 r2 a d=>k.re R (r1 h hh) r2 a d⟩;by_cases e:a=h
 .subst e;rw[hs]at iO;injection iO with iO;injection iO with _ e2;subst e2;exact k.pt p hp x hx
 .exact k.cl a d e c' l' iO p hp x hx
def xB.aas(hh:Hd nx n h)(hs:str h=none)(k:xB str nx ds lv lK h [] L D):kH str nx ds lv lK n L D:=by
 refine⟨k.up,k.no,λx hx=>jz (by rw[hx.one hh];exact k.own),λa d c' l' iO p hp x hx=>?_,λR r1 r2 a d=>k.re R (r1 h hh) r2 a d⟩;by_cases e:a=h
 .grind
 .exact k.cl a d e c' l' iO p hp x hx
end
def dp(ds:List Nat)(lv:Nat->Nat)L:=ds.countP λm=>decide (L<lv m)
def afn{lv}{L:Nat}(h:∀m,L<cq m->L<lv m):dp ds cq L<=dp ds lv L:=List.countP_mono_left λm _ q=>by simpa using h m (by simpa using q)
def afo{lv cq:Nat->Nat}{L x:Nat}(h:∀m,L<cq m->L<lv m)(hx:L<lv x)(uk:¬L<cq x):∀{ds:List Nat},x∈ds->dp ds cq L<dp ds lv L
 |a::ds,hm=>by
  unfold dp;rw[jv,jv];have hle:ds.countP (λm=>decide (L<cq m))<=ds.countP (λm=>decide (L<lv m)):=afn h;by_cases e:a=x
  .subst e;simp[hx,uk];omega
  .have:=afo h hx uk (ds:=ds) (by obtain q|q:=List.mem_cons.1 hm;exact absurd q.symm e;exact q);unfold dp at this;by_cases q:L<cq a
   .simp[q,h a q];omega
   .by_cases q2:L<lv a
    .simp[q,q2];omega
    .simp[q,q2];omega
def iD.back{nx}{lv}(g:GL w ds str nx vr ly lv)(e:iD str nx bi)(k:Hd bi x h):Hd nx x h:=by
 by_cases hx:x∈ds
 .have⟨y,hy⟩:=g.hd x hx;rw[k.one<|e.jN x y hy];exact hy
 .have h0:Hd nx x x:=.here (g.out x hx).1;rw[k.one<|e.jN x x h0];exact h0
def kH.eqv{nx}{lv0 lv}{L:Nat}(g:GL w ds str nx vr ly lv0)(e:iD str nx bi)(q:kH str bi ds lv cq n L D):kH str nx ds lv cq n L D:=
 ⟨λm d=>⟨(q.up m d).1,(e.Bf m).1 (q.up m d).2.1,(q.up m d).2.2⟩,q.no,λh k=>q.hd h<|e.jN _ _ k,λa d c l hs p hp h k=>q.cl a d c l hs p hp h<|e.jN _ _ k,λR r1 r2=>q.re R (λh k=>r1 h<|e.back g k)<|λa c l p h ra hs hp k=>r2 a c l p h ra hs hp<|e.back g k⟩
def KZ ds str nx vr ly lv n L w(e:Ending)w':=
 e=.returned (.tuple #[])/\∃bi cq D,GL w' ds str bi vr ly cq/\Fr (λb=>b∈ds) w w'/\iD str nx bi/\w'.heap.size=w.heap.size/\kH str nx ds lv cq n L D
def ahL ds str vr ly k:=∀(w:World)(nx:Nx)(lv:Nat->Nat)(n L:Nat),GL w ds str nx vr ly lv->n∈ds->dp ds lv L<=k->Cq 84 #[nA n,Nv L] w (KZ ds str nx vr ly lv n L w)
def ahM ds str nx vr ly lv h L(l:List Nat)w gk v wr:=
 ∃j gS lK D,Hid (gk=l.length-j)/\j<=l.length/\v=Nv j/\GL wr ds str gS vr ly lK/\Fr (λb=>b∈ds) w wr/\iD str nx gS/\wr.heap.size=w.heap.size/\xB str nx ds lv lK h (l.take j) L D
def GL.row{nx}{lv}(g:GL w ds str nx vr ly lv)(ha:a∈ds)(hs:str a=some (c,l))(hj:j<l.length):∃ga,(ly a).1=some ⟨ga,0,none⟩/\w.cell? ⟨ga,j,none⟩=some (nA l[j])/\¬ga∈ds:=by
 have⟨_,h2,_⟩:=g.nd a ha;rw[hs]at h2;obtain⟨_,_,_,p4⟩:=h2;have⟨ga,q1,q2,_,q4⟩:=p4.resolve_left (λe=>by subst e;simp at hj);exact⟨ga,q1,q4 j hj,q2⟩
def GL.part{nx}{lv}(g:GL w ds str nx vr ly lv)(ha:a∈ds)(hs:str a=some (c,l)):l.length<=1001/\∀m∈l,m∈ds:=by
 have⟨_,h2,_⟩:=g.nd a ha;rw[hs]at h2;exact⟨h2.2.1,h2.2.2.1⟩
def GL.bI{nx}{lv}(g:GL w ds str nx vr ly lv)(hn:n∈ds)(k:Hd nx n h):h∈ds:=by
 induction k with
 |here=>exact hn|step e _ ih=>exact ih<|(g.nd _ hn).2.2 _ e
def Oy(IH:∀i,i<k->ahL ds str vr ly i):ahL ds str vr ly k:=by
 intro w nx lv n L Gk hn hk;have⟨h,hh⟩:=Gk.hd n hn;have hm:=Gk.bI hn hh;have HC:=rB Gk hn hh;go_enter func84,ntmps84;go_wp2_with fail;refine HC.mono ?_;rintro e w1⟨rfl,dP,HG,F1,E1',z1⟩;have⟨c1,f1⟩:=(HG.nd h hm).lvl;have LF:nx h=none:=hh.head;by_cases hle:lv h<=L
 .have hd:(lv h:Int)<=(L:Int):=ae
  go_wp2
  go_end0;exact⟨rfl,dP,lv,_,HG,F1,E1',z1,kH.nil hh hle⟩
 .have hd:¬(lv h:Int)<=(L:Int):=ae;have G2:=HG.TN hm L;have⟨_,_,_,_,c4⟩:=(HG.nd h hm).cells;have F2:Hid (Fr (λb=>b∈ds) w<|w1.setCell ⟨h,1,none⟩<|Nv L):=ai<|F1.set (jz hm) 1 _;have LN:=ai G2;have Z1:=z1;have J0:Hid (xB str nx ds lv (ja lv h L) h [] L<|λm=>m=h):=ai<|xB.start hm LF ae
  cases hs:str h with
  |none=>
   have c4':w1.cell? ⟨h,4,none⟩=some (.slice (ly h).1 0 (ly h).2):=by rw[c4,hs];rfl
   go_wp2
   go_loopg[23] 0 (λgk v wr=>v=Iv 0/\wr=w1.setCell ⟨h,1,none⟩ (Nv L))
   case atStart=>exact⟨rfl,rfl⟩
   case round=>
    obtain⟨rfl,rfl⟩:=hrel
    go_wp2
    go_end0;exact⟨rfl,dP,_,_,uh LN,uh F2,E1',qAz,(uh J0).aas hh hs⟩
  |some q=>
   obtain⟨c,l⟩:=q;have c4':w1.cell? ⟨h,4,none⟩=some (.slice (ly h).1 l.length (ly h).2):=by rw[c4,hs];rfl
   have⟨hl1,Po⟩:=Gk.part hm hs;have hdp:dp ds (ja lv h L) L<dp ds lv L:=afo (x:=h) (λm q=>by by_cases e:m=h;subst e;simp[ja]at q;simpa[ja,e]using q) ae MI hm;by_cases Cb:l=[]
   .subst Cb;have alq:=c4'
    go_wp2
    go_loopg[23] 0 (λgk v wr=>v=Iv 0/\wr=w1.setCell ⟨h,1,none⟩ (Nv L))
    case atStart=>exact⟨rfl,rfl⟩
    case round=>
     obtain⟨rfl,rfl⟩:=hrel
     go_wp2
     go_end0;exact⟨rfl,dP,_,_,uh LN,uh F2,E1',qAz,(uh J0).done hh hs⟩
   have⟨ga,EGA,_,_⟩:=Gk.row hm hs<|List.length_pos_iff.2 Cb;rw[EGA]at c4'
   go_wp2
   go_loopg[23] l.length (λgk v wr=>ahM ds str nx vr ly lv h L l w gk v wr)
   case atStart=>exact⟨0,dP,_,_,ai ag,j5 _,rfl,uh LN,uh F2,E1',qAz,by simpa using uh J0⟩
   case round=>
    obtain⟨j,gS,lK,D,cR,hj,rfl,Gj,FJ,EJ,ZJ,JJ⟩:=hrel;by_cases aY:j<l.length
    .have bq:(j:Int)<(l.length:Int):=ae;have IF:(0:Int)<=(j:Int):=ae;have⟨ga',e1,cg,_⟩:=Gj.row hm hs aY;have e2:=e1.symm.trans EGA;injection e2 with e2;injection e2 with e2;subst e2
     have HCJ:=IH (dp ds (ja lv h L) L) ae wr gS lK l[j] L Gj (Po _<|jl aY) (afn λm q=>by
      by_cases d:D m
      .have:=(JJ.up m d).2.2.2;omega
      .have e:m≠h:=λe=>d<|e▸JJ.own;simp only[ja,e,if_false]
       rw[<-JJ.no m d];exact q)
     go_wp2_with fail;refine HCJ.mono ?_;rintro e w2⟨rfl,oH,mz,D2,HG,F2,E2,z2,q2⟩;have HF:=FJ.trans F2;have HE:=EJ.trans E2;have HZ:=z2.trans ZJ;have HJ2:=JJ.step hs (jl aY)<|q2.eqv Gk EJ
     go_wp2
     go_roundg(l.length-(j+1))
     case measure=>rw[uh cR];omega
     case rel=>exact⟨j+1,oH,mz,_,ai rfl,Nat.succ_le_of_lt aY,iK,HG,HF,HE,HZ,by rw[jm aY];exact HJ2⟩
    .have bq:decide ((j:Int)<(l.length:Int))=false:=bB;have ej:j=l.length:=ae;subst ej;rw[jp]at JJ;have HX:=show KZ ds str nx vr ly lv n L w (Rv<|.tuple #[]) wr from⟨rfl,gS,lK,D,Gj,FJ,EJ,ZJ,JJ.done hh hs⟩
     go_wp2
     go_end0;exact HX
def D6:∀k,ahL ds str vr ly k:=λk=>j8 k λk ih=>Oy ih
def LC(str:rF)(ds:List Nat)nx(lv:Nat->Nat):=∀a,a∈ds->nx a=none->∀c l,str a=some (c,l)->∀p,p∈l->∀h,Hd nx p h->lv h<=lv a
structure wO str(ds:List Nat)nx(lv:Nat->Nat)bi(cq:Nat->Nat):Prop where
 mono:∀m,m∈ds->∀h h',Hd nx m h->Hd bi m h'->cq h'<=lv h
 lc:LC str ds nx lv->LC str ds bi cq
 low:∀(i:Nat)(U:Nat->Ty),kK str bi U->∀Lw:Ty->Prop,(∀c ts,Lw (.aJ c ts)->∀t∈ts,Lw t)->(∀m,m∈ds->∀h,Hd nx m h->lv h<=i->Lw (U m))->∀m,m∈ds->∀h,Hd bi m h->cq h<=i->Lw (U m)
 gr:∀n,bi n=none->nx n=none
section
variable {nx:Nx} {lv:Nat->Nat}
def wO.trans(h:wO str ds nx lv dP rR)(k:wO str ds dP rR oH mz)(hd:∀m,m∈ds->∃x,Hd dP m x)(hs:∀U,kK str oH U->kK str dP U):wO str ds nx lv oH mz:=
 ⟨λm hm a c ka kc=>by
  have⟨b,kb⟩:=hd m hm
  exact j3 (k.mono m hm b c kb kc)<|h.mono m hm a b ka kb,λq=>k.lc<|h.lc q,λi U hU Lw hc q=>k.low i U hU Lw hc<|h.low i U (hs U hU) Lw hc q,λn q=>h.gr n<|k.gr n q⟩
def wO.eqv(g:GL w ds str nx vr ly rR)(e:iD str nx dP):wO str ds nx lv dP lv:=by
 refine⟨λm _ h h' k k'=>?_,λq a ha hn c l hs p hp h k=>?_,λi U hU Lw hc q m hm h k hl=>q m hm h (e.back g k) hl,λn q=>(e.Bf n).1 q⟩
 .rw[k'.one<|e.jN _ _ k];exact br _
 .exact q a ha ((e.Bf a).1 hn) c l hs p hp h (e.back g k)
def kH.fwd{L:Nat}(g:GL w ds str nx vr ly mz)(e:iD str nx dP)(q:kH str nx ds lv rR n L D):kH str dP ds lv rR n L D:=
 ⟨λm d=>⟨(q.up m d).1,(e.Bf m).2 (q.up m d).2.1,(q.up m d).2.2⟩,q.no,λh k=>q.hd h<|e.back g k,λa d c l hs p hp h k=>q.cl a d c l hs p hp h<|e.back g k,λR r1 r2=>q.re R (λh k=>r1 h<|e.jN _ _ k)<|λa c l p h ra hs hp k=>r2 a c l p h ra hs hp<|e.jN _ _ k⟩
def kH.le{L:Nat}(q:kH str nx ds lv rR n L D)m:rR m<=lv m:=by
 by_cases d:D m
 .have:=q.up m d;omega
 .rw[q.no m d];exact br _
def kH.lc{L:Nat}(q:kH str nx ds lv rR n L D)(h:LC str ds nx lv):LC str ds nx rR:=λa ha hn c l hs p hp k hk=>by
 have h0:=h a ha hn c l hs p hp k hk;by_cases d:D a
 .rw[(q.up a d).2.2.2];obtain r|r:=q.cl a d c l hs p hp k hk
  .rw[(q.up k r).2.2.2];exact br _
  .exact j3 (q.le k) r
 .rw[q.no a d];exact j3 (q.le k) h0
def kH.low{L:Nat}(q:kH str nx ds lv rR n L D)(hU:kK str nx U){Lw:Ty->Prop}(hc:∀c ts,Lw (.aJ c ts)->∀t∈ts,Lw t)(hb:∀m,m∈ds->∀h,Hd nx m h->lv h<=i->Lw (U m))(hn:L<=i->Lw (U n)):∀m,m∈ds->∀h,Hd nx m h->rR h<=i->Lw (U m):=λm hm h hh hl=>by
 by_cases d:D h
 .have hL:L<=i:=by rw[(q.up h d).2.2.2]at hl;exact hl
  rw[hh.kL hU];refine q.re (λx=>Lw<|U x) (λx hx=>by rw[<-hx.kL hU];exact hn hL) (λa c l p k ra hs hp hk=>?_) h d;rw[<-hk.kL hU];rw[hU.made a c l hs]at ra;exact hc c _ ra _<|List.mem_map_of_mem hp
 .rw[q.no h d]at hl;exact hb m hm h hh hl
structure rD str nx ds lv mz a b:Prop where
 x:∃rR D1 D2,kH str nx ds lv rR a (lv b) D1/\kH str nx ds rR mz b (rR a) D2
def rD.lvs(h:rD str nx ds lv mz a b)(ha:nx a=none)(hb:nx b=none):mz a<=lv a/\mz a<=lv b/\mz b<=lv a/\mz b<=lv b/\mz a=mz b:=by
 have⟨rR,D1,D2,q1,q2⟩:=h.x;have n1:=q1.no b (λd=>by have:=(q1.up b d).2.2.1;omega);have n2:=q2.no a (λd=>by have:=(q2.up a d).2.2.1;omega);have l1:rR a<=lv b:=by
  obtain d|d:=q1.hd a<|.here ha
  .rw[(q1.up a d).2.2.2];exact br _
  .exact j3 (q1.le a) d
 have l1a:=q1.le a;have l2:mz b=rR a:=by
  by_cases d:D2 b
  .exact(q2.up b d).2.2.2
  .have h2:=(q2.hd b<|.here hb).resolve_left d;rw[q2.no b d];omega
 omega
def rD.lc(h:rD str nx ds lv mz a b)(k:LC str ds nx lv):LC str ds nx mz:=by
 have⟨rR,D1,D2,q1,q2⟩:=h.x;exact q2.lc<|q1.lc k
def rD.le(h:rD str nx ds lv mz a b)m:mz m<=lv m:=by
 have⟨rR,D1,D2,q1,q2⟩:=h.x;exact j3 (q2.le m)<|q1.le m
def rD.low(h:rD str nx ds lv mz a b)(ha:a∈ds)(hb:b∈ds)(na:nx a=none)(nb:nx b=none){i}{U}(hU:kK str nx U)(nM:U a=U b){Lw:Ty->Prop}(hc:∀c ts,Lw (.aJ c ts)->∀t∈ts,Lw t)(hB:∀m,m∈ds->∀h,Hd nx m h->lv h<=i->Lw (U m)):∀m,m∈ds->∀h,Hd nx m h->mz h<=i->Lw (U m):=by
 have⟨rR,D1,D2,q1,q2⟩:=h.x;have s1:=q1.low hU hc hB (λq=>by rw[nM];exact hB b hb b (.here nb) q);exact q2.low hU hc s1 (λq=>by rw[<-nM];exact s1 a ha a (.here na) q)
def li(na:nx a=none)(nb:nx b=none)(nM:a≠b)(hh:Hd nx x h)(k:Hd (ja nx a<|some b) x h'):h'=if h=a then b else h:=k.one<|hh.join na nb nM
def kI(nx0:nx x=none)(hU:kK str (ja nx x<|some y) U):kK str nx U:=by
 refine⟨hU.made,λn m e=>hU.bA n m ?_⟩;have cO:n≠x:=λr=>by subst r;rw[nx0]at e;cases e
 simpa[ja,cO]using e
def wO.link(h:rD str nx ds lv mz a b)(ha:a∈ds)(hb:b∈ds)(na:nx a=none)(nb:nx b=none)(nM:a≠b)(hd:∀m,m∈ds->∃x,Hd nx m x)(hp:∀a,a∈ds->∀c l,str a=some (c,l)->∀m∈l,m∈ds):wO str ds nx lv (ja nx a<|some b) mz:=by
 have⟨l1,l2,l3,l4,l5⟩:=h.lvs na nb;refine⟨λm hm x x' k k'=>?_,λq e he hn c l hs p V7 x' k'=>?_,λi U hU Lw hc hB m hm x' k' hl=>?_,λn q=>by by_cases e:n=a;subst e;exact na;simpa[ja,e]using q⟩
 .rw[li na nb nM k k'];split
  .rename_i e;rw[e];exact l3
  .exact h.le x
 .have cO:e≠a:=λr=>by subst r;simp[ja]at hn
  have hn0:nx e=none:=by simpa[ja,cO]using hn
  have⟨x,k⟩:=hd p<|hp e he c l hs p V7;have:=h.lc q e he hn0 c l hs p V7 x k;rw[li na nb nM k k'];split
  .rename_i r;rw[r]at this;omega
  .exact this
 .have hS:=kI na hU;have aa5:=hU.bA a b MI;have hL:=h.low ha hb na nb hS aa5 hc hB;have⟨x,k⟩:=hd m hm;rw[li na nb nM k k']at hl;split at hl
  .rename_i r;subst r;rw[k.kL hS,aa5];exact hL b hb b (.here nb) hl
  .exact hL m hm x k hl
def wO.aa6(h:rD str nx ds lv mz a b)(ha:a∈ds)(hb:b∈ds)(na:nx a=none)(nb:nx b=none)(nM:a≠b)(hd:∀m,m∈ds->∃x,Hd nx m x)(hp:∀a,a∈ds->∀c l,str a=some (c,l)->∀m∈l,m∈ds):wO str ds nx lv (ja nx b<|some a) mz:=by
 have⟨l1,l2,l3,l4,l5⟩:=h.lvs na nb;refine⟨λm hm x x' k k'=>?_,λq e he hn c l hs p V7 x' k'=>?_,λi U hU Lw hc hB m hm x' k' hl=>?_,λn q=>by by_cases e:n=b;subst e;exact nb;simpa[ja,e]using q⟩
 .rw[li nb na (Ne.symm nM) k k'];split
  .rename_i e;rw[e];exact l2
  .exact h.le x
 .have cO:e≠b:=λr=>by subst r;simp[ja]at hn
  have hn0:nx e=none:=by simpa[ja,cO]using hn
  have⟨x,k⟩:=hd p<|hp e he c l hs p V7;have:=h.lc q e he hn0 c l hs p V7 x k;rw[li nb na (Ne.symm nM) k k'];split
  .rename_i r;rw[r]at this;omega
  .exact this
 .have hS:=kI nb hU;have aa5:=hU.bA b a MI;have hL:=h.low ha hb na nb hS aa5.symm hc hB;have⟨x,k⟩:=hd m hm;rw[li nb na (Ne.symm nM) k k']at hl;split at hl
  .rename_i r;subst r;rw[k.kL hS,aa5];exact hL a ha a (.here na) hl
  .exact hL m hm x k hl
end
structure JG(ds:List Nat)(str:rF)nx(vr:Nat->Nat):Prop where
 Oz:∀n,∃h,Hd nx n h
 jN:∀n h,n∈ds->Hd nx n h->h∈ds
 VW:∀a c l,a∈ds->str a=some (c,l)->∀p,p∈l->p∈ds
 inj:∀a b,a∈ds->b∈ds->str a=none->str b=none->vr a=vr b->a=b
 mF:rL str nx []
def Can(str:rF)nx(vr:Nat->Nat)(V:Nat->Ty):=∀n h,Hd nx n h->V n=match str h with
 |none=>.var (vr h)|some (c,l)=>.aJ c<|l.map V
section
variable {nx:Nx} {W:Nat->Ty}
def JG.eq(g:JG ds str nx vr):jf nx [] (nN nx):=nN.is λn _ _=>g.Oz n
def Can.same(hV:Can str nx vr V){m}(k:nN nx m n):V m=V n:=by
 obtain rfl|⟨h,a,b⟩:=k
 .rfl
 .rw[hV m h a,hV n h b]
def NJ(g:JG ds str nx vr)(k:Hd nx n h):∀{c l},str n=some (c,l)->∃l',str h=some (c,l')/\eB (nN nx) l l':=by
 induction k with
 |here e=>exact λ{c l}hs=>⟨l,hs,mP g.eq.refl l⟩|step e _ ih=>
  intro c l hs;have⟨l1,h1,h2⟩:=g.mF _ g.eq _ _ c l e hs;have⟨l2,h3,h4⟩:=ih h1;exact⟨l2,h3,hY g.eq.trans h2 h4⟩
def Can.kL(g:JG ds str nx vr)(hV:Can str nx vr V):kK str nx V:=by
 refine⟨λn c l hs=>?_,λn m e=>?_⟩
 .have⟨h,k⟩:=g.Oz n;have⟨l',h1,h2⟩:=NJ g k hs;have:=hV n h k;rw[h1]at this;rw[this];show xd c (l'.map V)=xd c (l.map V);rw[vR (λa b q=>hV.same q) h2]
 .have⟨h,k⟩:=g.Oz n;exact hV.same<|jy ⟨h,k,k.sq e⟩
noncomputable def Vm (nx:Nx) (n:Nat):Nat:=by
 classical
 exact if h:∃x,Hd nx n x then h.choose else n
theorem oZ(k:Hd nx n h):Vm nx n=h:=by
 rw[Vm];have q:∃x,Hd nx n x:=⟨h,k⟩;rw[dif_pos q];exact q.choose_spec.one k
noncomputable def vK (str:rF) (nx:Nx) (vr:Nat->Nat):Nat->Nat->Ty
 |0,_=>.var 0
 |k+1,n=>match str (Vm nx n)with
  |none=>.var (vr<|Vm nx n)|some (c,l)=>.aJ c<|l.map<|vK str nx vr k
def jH{p}(hp:p∈l):size (U p)<size (.aJ c<|l.map U):=by
 have:=eC (V:=U) hp;simp only[size];omega
def aa7{U:Nat->Ty}(g:JG ds str nx vr)(hU:kK str nx U):∀k k' n,size (U n)<=k->size (U n)<=k'->vK str nx vr k n=vK str nx vr k' n
 |0,_,n,h,_=>by have:=size_pos<|U n;omega|_+1,0,n,_,h=>by have:=size_pos<|U n;omega|k+1,k'+1,n,h,h'=>by
  have⟨x,hx⟩:=g.Oz n;simp only[vK,oZ hx]
  cases hs:str x with
  |none=>rfl|some q=>
   obtain⟨c,l⟩:=q;have e:=(hx.kL hU).trans<|hU.made x c l hs;show xd c _=xd c _;congr 1;refine dD λp hp=>aa7 g hU k k' p ?_ ?_;all_goals have:=jH (c:=c) (U:=U) hp;rw[<-e]at this;omega
def ahN(g:JG ds str nx vr)(hU:kK str nx U):∃V,Can str nx vr V:=by
 refine⟨λn=>vK str nx vr (size<|U n) n,λn h k=>?_⟩;have hp:=size_pos<|U n;obtain⟨j,hj⟩:∃j,size (U n)=j+1:=⟨size (U n)-1,ae⟩;show vK str nx vr (size<|U n) n=_;rw[hj];simp only[vK,oZ k]
 cases hs:str h with
 |none=>rfl|some q=>
  obtain⟨c,l⟩:=q;have e:=(k.kL hU).trans<|hU.made h c l hs;show xd c _=xd c _;congr 1;refine dD λp hp=>aa7 g hU _ _ p ?_<|br _;have:=jH (c:=c) (U:=U) hp;rw[<-e]at this;omega
def Rt(ds:List Nat)(str:rF)(nx:Nx)(vr:Nat->Nat)v h:=h∈ds/\nx h=none/\str h=none/\vr h=v
def Rt.one(g:JG ds str nx vr){v:Nat}(a:Rt ds str nx vr v h)(b:Rt ds str nx vr v h'):h=h':=g.inj h h' a.1 b.1 a.2.2.1 b.2.2.1<|a.2.2.2.trans b.2.2.2.symm
def Rt.val(hV:Can str nx vr V){v:Nat}(a:Rt ds str nx vr v h):V h=.var v:=by
 have:=hV h h<|.here a.2.1;rw[a.2.2.1,a.2.2.2]at this;exact this
noncomputable def tau (ds:List Nat) (str:rF) (nx:Nx) (vr:Nat->Nat) (W:Nat->Ty) (v:Nat):Ty:=by
 classical
 exact if h:∃x,Rt ds str nx vr v x then W h.choose else .var v
def OA(g:JG ds str nx vr){v:Nat}(a:Rt ds str nx vr v h):tau ds str nx vr W v=W h:=by
 rw[tau];have q:∃x,Rt ds str nx vr v x:=⟨h,a⟩;rw[dif_pos q,q.choose_spec.one g a]
def ahO{v:Nat}(a:¬∃x,Rt ds str nx vr v x):tau ds str nx vr W v=.var v:=by rw[tau];rw[dif_neg a]
def Su{V:Nat->Ty}{v:Nat}:∀{l:List Nat},bT v (l.map V)->∃p,p∈l/\aD v (V p)
 |[],h=>by simp[bT]at h|x::l,h=>by
  simp only[jt,bT]at h;obtain h|h:=h
  .exact⟨x,ag,h⟩
  .have⟨p,h1,h2⟩:=Su h;exact⟨p,by simp[h1],h2⟩
def eZ{lv:Nat->Nat}(g:JG ds str nx vr)(hV:Can str nx vr V){v:Nat}:∀k n h,n∈ds->Hd nx n h->size (V n)<=k->aD v (V n)->∃x,Rt ds str nx vr v x/\(LC str ds nx lv->lv x<=lv h)
 |0,n,_,_,_,h,_=>by have:=size_pos<|V n;omega|k+1,n,h,hn,hh,hz,ho=>by
  have hd:=g.jN n h hn hh;have e:=hV n h hh
  cases hs:str h with
  |none=>
   rw[hs]at e;rw[e]at ho;exact⟨h,⟨hd,hh.head,hs,ho⟩,λ_=>br _⟩
  |some q=>
   obtain⟨c,l⟩:=q;rw[hs]at e;have e:V n=.aJ c (l.map V):=e;rw[e]at ho;obtain⟨p,hp,rJ⟩:=Su (by simpa only[aD]using ho);obtain⟨y,hy⟩:=g.Oz p;have hz':size (V p)<=k:=by have:=jH (c:=c) (U:=V) hp;rw[<-e]at this;omega
   obtain⟨x,h1,h2⟩:=eZ g hV k p y (g.VW h c l hd hs p hp) hy hz' rJ;exact⟨x,h1,λhl=>j3 (h2 hl)<|hl h hd hh.head c l hs p hp y hy⟩
def FD(g:JG ds str nx vr)(hV:Can str nx vr V)(hW:kK str nx W):∀k n,n∈ds->size (V n)<=k->W n=sub (tau ds str nx vr W) (V n)
 |0,n,_,h=>by have:=size_pos<|V n;omega|k+1,n,hn,hz=>by
  have⟨h,hh⟩:=g.Oz n;have hd:=g.jN n h hn hh;have e:=hV n h hh
  cases hs:str h with
  |none=>
   rw[hs]at e;rw[e,hh.kL hW];exact(OA g ⟨hd,hh.head,hs,rfl⟩).symm
  |some q=>
   obtain⟨c,l⟩:=q;rw[hs]at e;have e:V n=.aJ c (l.map V):=e;rw[hh.kL hW,hW.made h c l hs,e];simp only[sub];rw[fG];congr 1;refine dD λp hp=>FD g hV hW k p (g.VW h c l hd hs p hp) ?_;have:=jH (c:=c) (U:=V) hp;rw[<-e]at this;omega
end
def ScD(str:rF)(ds:List Nat)nx(S:Nat->Prop):=∀x,x∈ds->nx x=none->S x->∀c l,str x=some (c,l)->∀p,p∈l->∀h,Hd nx p h->S h
def tH str ds nx(lv:Nat->Nat)bi(cq:Nat->Nat)a b:=∀S:Nat->Prop,ScD str ds nx S->(∀h,Hd nx a h->S h)->(∀h,Hd nx b h->S h)->∀m,m∈ds->∀h h',Hd nx m h->Hd bi m h'->(¬S h->h'=h/\cq h=lv h)/\(S h->S h')
section
variable {nx:Nx} {lv:Nat->Nat}
def tH.eqv(e:iD str nx dP):tH str ds nx lv dP lv x y:=λS _ _ _ m _ h h' k k'=>by
 rw[k'.one<|e.jN _ _ k];exact⟨λ_=>⟨rfl,rfl⟩,id⟩
def tH.oY(g:GL w ds str nx vr ly rR)(e:iD str nx dP)(hx:Hd nx x a)(hy:Hd nx y b)(k:tH str ds dP lv oH mz a b):tH str ds nx lv oH mz x y:=λS hS ha hb m hm h h' q q'=>by
 refine k S (λz hz hn sz c l hs p hp z' kz=>hS z hz ((e.Bf z).1 hn) sz c l hs p hp z'<|e.back g kz) (λz kz=>?_) (λz kz=>?_) m hm h h' (e.jN _ _ q) q'
 .have:z=a:=kz.one<|.here (e.jN _ _ hx).head;subst this;exact ha _ hx
 .have:z=b:=kz.one<|.here (e.jN _ _ hy).head;subst this;exact hb _ hy
def tH.pre(g:GL w ds str nx vr ly rR)(e:iD str nx dP)(k:tH str ds dP lv oH mz x y):tH str ds nx lv oH mz x y:=λS hS ha hb m hm h h' q q'=>
 k S (λz hz hn sz c l hs p hp z' kz=>hS z hz ((e.Bf z).1 hn) sz c l hs p hp z'<|e.back g kz) (λz kz=>ha z<|e.back g kz) (λz kz=>hb z<|e.back g kz) m hm h h' (e.jN _ _ q) q'
def tH.post(g:GL w ds str dP vr ly rR)(e:iD str dP oH)(k:tH str ds nx lv dP mz x y):tH str ds nx lv oH mz x y:=λS hS ha hb m hm h h' q q'=>k S hS ha hb m hm h h' q<|e.back g q'
def rD.out(h:rD str nx ds lv mz a b)(ha:a∈ds)(hb:b∈ds)(na:nx a=none)(nb:nx b=none)(hp:∀a,a∈ds->∀c l,str a=some (c,l)->∀m∈l,m∈ds)(hm:∀m,m∈ds->∀x,Hd nx m x->x∈ds)(hS:ScD str ds nx S)(sa:S a)(sb:S b){x}(hx:¬S x):mz x=lv x:=by
 have⟨rR,D1,D2,q1,q2⟩:=h.x;have cl:∀e c l p k,(S e/\e∈ds/\nx e=none)->str e=some (c,l)->p∈l->Hd nx p k->(S k/\k∈ds/\nx k=none):=λe c l p k r hs V7 hk=>⟨hS e r.2.1 r.2.2 r.1 c l hs p V7 k hk,hm p (hp e r.2.1 c l hs p V7) k hk,hk.head⟩;have d1:¬D1 x:=λd=>hx (q1.re (λx=>S x/\x∈ds/\nx x=none) (λk hk=>by rw[hk.one<|.here na];exact⟨sa,ha,na⟩) cl x d).1;have d2:¬D2 x:=λd=>hx (q2.re (λx=>S x/\x∈ds/\nx x=none) (λk hk=>by rw[hk.one<|.here nb];exact⟨sb,hb,nb⟩) cl x d).1;rw[q2.no x d2,q1.no x d1]
def tH.link(h:rD str nx ds lv mz a b)(ha:a∈ds)(hb:b∈ds)(na:nx a=none)(nb:nx b=none)(nM:a≠b)(hp:∀a,a∈ds->∀c l,str a=some (c,l)->∀m∈l,m∈ds)(hm:∀m,m∈ds->∀x,Hd nx m x->x∈ds):tH str ds nx lv (ja nx a<|some b) mz a b:=λS hS sa sb m _ x x' k k'=>by
 have sa:=sa a<|.here na;have sb:=sb b<|.here nb;rw[li na nb nM k k'];refine⟨λq=>?_,λq=>?_⟩
 .have e:x≠a:=λe=>q<|e▸sa;exact⟨Mm,h.out ha hb na nb hp hm hS sa sb q⟩
 .grind
def tH.aa6(h:rD str nx ds lv mz a b)(ha:a∈ds)(hb:b∈ds)(na:nx a=none)(nb:nx b=none)(nM:a≠b)(hp:∀a,a∈ds->∀c l,str a=some (c,l)->∀m∈l,m∈ds)(hm:∀m,m∈ds->∀x,Hd nx m x->x∈ds):tH str ds nx lv (ja nx b<|some a) mz a b:=λS hS sa sb m _ x x' k k'=>by
 have sa:=sa a<|.here na;have sb:=sb b<|.here nb;rw[li nb na (Ne.symm nM) k k'];refine⟨λq=>?_,λq=>?_⟩
 .have e:x≠b:=λe=>q<|e▸sb;exact⟨Mm,h.out ha hb na nb hp hm hS sa sb q⟩
 .grind
def tH.step{p q}{c c'}{l l'}(g:wO str ds nx lv dP rR)(h:tH str ds nx lv dP rR x y)(hx:Hd nx x a)(hy:Hd nx y b)(ha:a∈ds)(hb:b∈ds)(sa:str a=some (c,l))(sb:str b=some (c',l'))(hp:p∈l)(hq:q∈l')(jN:∀a,a∈ds->∀c l,str a=some (c,l)->∀m∈l,m∈ds)(hd0:∀m,m∈ds->∃x,Hd nx m x)(Mo:∀m,m∈ds->∃x,Hd dP m x)(k:tH str ds dP rR oH mz p q):tH str ds nx lv oH mz x y:=λS hS hxa hyb m hm h0 h2 k0 k2=>by
 have one:=h S hS hxa hyb;have pt:∀z,z∈ds->nx z=none->S z->∀c l,str z=some (c,l)->∀p,p∈l->∀t,Hd dP p t->S t:=λz hz hn sz c l hs p hp t kt=>by
  have LZ:=jN z hz c l hs p hp;have⟨t0,kt0⟩:=hd0 p LZ;exact(one p LZ t0 t kt0 kt).2 (hS z hz hn sz c l hs p hp t0 kt0)
 have⟨h1,k1⟩:=Mo m hm;have a1:=one m hm h0 h1 k0 k1;have a2:=k S (λz hz hn=>pt z hz<|g.gr z hn) (pt a ha hx.head (hxa a hx) c l sa p hp) (pt b hb hy.head (hyb b hy) c' l' sb q hq) m hm h1 h2 k1 k2;refine⟨λn0=>?_,λs0=>a2.2<|a1.2 s0⟩;have⟨e1,e2⟩:=a1.1 n0;subst e1;have⟨e3,e4⟩:=a2.1 n0;exact⟨e3,e4.trans e2⟩
end
def GL.drewN{nx}{lv}(g:GL w ds str nx vr ly lv)n:GL (w.drewN n) ds str nx vr ly lv:=⟨g.nd,g.out,g.hd⟩
def GL.drew{nx}{lv}(g:GL w ds str nx vr ly lv):GL w.drew ds str nx vr ly lv:=⟨g.nd,g.out,g.hd⟩
def ahP ds str nx vr ly lv x y w(e:Ending)w':=
 ∃ok bi cq,e=.returned (.bool ok)/\GL w' ds str bi vr ly cq/\Fr (λb=>b∈ds) w w'/\w'.heap.size=w.heap.size/\hc bi ds<=hc nx ds/\JR str nx bi x y ok/\(ok=true->wO str ds nx lv bi cq/\tH str ds nx lv bi cq x y)
def OB ds str vr ly k:=∀(w:World)(nx:Nx)(lv:Nat->Nat),GL w ds str nx vr ly lv->hc nx ds<=k->∀x y,x∈ds->y∈ds->Cq 56 #[nA x,nA y] w (ahP ds str nx vr ly lv x y w)
def aa8 ds str nx0 lv0 x y nx vr ly l l' k w gk v wr:=
 ∃j gS lK,Hid (gk=l.length-j)/\j<=l.length/\v=Nv j/\GL wr ds str gS vr ly lK/\Fr (λb=>b∈ds) w wr/\wr.heap.size=w.heap.size/\hc gS ds<=k/\JL str nx gS l l' j/\wO str ds nx0 lv0 gS lK/\tH str ds nx0 lv0 gS lK x y
def OC(IH:OB ds str vr ly k):OB ds str vr ly (k+1):=by
 intro w nx lv G hk x y hx hy;have⟨a,Gl⟩:=G.hd x hx;have⟨b,OD⟩:=G.hd y hy;have ha:a∈ds:=G.bI hx Gl;have hb:b∈ds:=G.bI hy OD;have HC:=ai<|rB G hx Gl;go_enter func56,ntmps56;go_wp2_with fail;refine HC.mono ?_;rintro e w1⟨rfl,dP,G1,F1,E1,z1⟩;have qV:=ai<|rB G1 hy<|E1.jN _ _ OD;clear HC;go_wp2_with fail;refine qV.mono ?_;rintro e w2⟨rfl,oH,G2,F2,E2,z2⟩;have E:=E1.trans E2;have FF:=F1.trans F2;have hca:=aaZ E ds;have Dz:oH a=none:=(E.jN _ _ Gl).head;have rQ:oH b=none:=(E.jN _ _ OD).head;have heq:=aa0 (G2.nd a ha).1 (G2.nd b hb).1;have⟨ca0,fa0,ca2,_,ca3⟩:=(G2.nd a ha).cells;have⟨cb0,fb0,cb2,_,cb3⟩:=(G2.nd b hb).cells;have LN:=ai G2;clear qV;by_cases nM:a=b
 .subst nM;simp at heq
  go_wp2
  go_ret;exact⟨true,oH,lv,rfl,G2,FF,ae,ae,(JR.same str oH a).oY E Gl OD,λ_=>⟨wO.eqv G E,tH.eqv E⟩⟩
 .have hba:¬b=a:=λq=>nM q.symm;rw[show decide (a=b)=false by simp[nM]]at heq;have⟨lb2,_⟩:=(G2.nd b hb).lvl;have HL1:=ai<|D6 _ w2 oH lv a (lv b) G2 ha<|br _;go_wp2_with fail;refine HL1.mono ?_;rintro e w3⟨rfl,nx3,lv3,D3,G3,F3,E3,z3,q3⟩;have⟨la3,_⟩:=(G3.nd a ha).lvl;have HL2:=ai<|D6 _ w3 nx3 lv3 b (lv3 a) G3 hb<|br _;clear HL1 ca0 fa0 ca2 ca3 cb0 fb0 cb2 cb3 heq lb2 LN;go_wp2_with fail;refine HL2.mono ?_;rintro e w4⟨rfl,AV,lv4,D4,G4,F4,E4,z4,q4⟩;have Vn:Hid (rD str AV ds lv lv4 a b):=ai ⟨lv3,D3,D4,q3.fwd G2<|E3.trans E4,q4.fwd G3 E4⟩;have HEQ:Hid (wO str ds nx lv AV lv):=ai<|wO.eqv G<|(E.trans E3).trans E4;have HMM:Hid (∀m,m∈ds->∀x,Hd AV m x->x∈ds):=ai λm hm x k=>G4.bI hm k;have Gk:=ai G;have HPT:Hid (∀a,a∈ds->∀c l,str a=some (c,l)->∀m∈l,m∈ds):=ai λx hx c l hs=>(G4.part hx hs).2;clear q3 q4;have E0:=E;clear E;have E:=(E0.trans E3).trans E4;have FF4:=(FF.trans F3).trans F4;clear hca Dz rQ;have hca:=aaZ E ds;have Dz:AV a=none:=(E.jN _ _ Gl).head;have rQ:AV b=none:=(E.jN _ _ OD).head;have⟨ca0,fa0,ca2,_,ca3⟩:=(G4.nd a ha).cells;have⟨cb0,fb0,cb2,_,cb3⟩:=(G4.nd b hb).cells;have HHD:Hid (∀m,m∈ds->∃x,Hd AV m x):=ai G4.hd;clear HL2 la3 F3 F4 G3 E3 E4
  cases Wd:str a with
  |none=>
   rw[Wd]at ca2;have aka:w4.cell? ⟨a,3,none⟩=some (Sv ⟨#[]⟩):=ca2;clear ca2
   go_wp2
   go_ret;refine⟨true,ja AV a<|some b,lv4,rfl,G4.set ha hb<|λz hz=>?_,FF4.set (jz ha) 0 _,by simp[qd];omega,by have:=Ox (b:=b) Dz ha;omega,(JR.alz Dz Wd).oY E Gl OD,λ_=>⟨HEQ.trans (wO.link Vn ha hb Dz rQ nM HHD HPT) HHD<|λU=>kI Dz,(tH.link Vn ha hb Dz rQ nM HPT HMM).oY Gk E Gl OD⟩⟩;have⟨q,hq⟩:=G4.hd z hz;exact⟨_,hq.join Dz rQ nM⟩
  |some pa=>
   obtain⟨c,l⟩:=pa;have We:=(G4.nd a ha).2.1;rw[Wd]at ca2 ca3 We;have aka:w4.cell? ⟨a,3,none⟩=some (Sv<|pn c):=ca2;have alB:w4.cell? ⟨a,4,none⟩=some (.slice (ly a).1 l.length (ly a).2):=ca3;obtain⟨yv,L0,hlm,aM⟩:=We;have hea:((pn c).toList==[])=false:=by rw[<-qz,beq_iff_eq];exact lh yv
   clear ca2 ca3
   cases Wg:str b with
   |none=>
    rw[Wg]at cb2;have akb:w4.cell? ⟨b,3,none⟩=some (Sv ⟨#[]⟩):=cb2;clear cb2
    go_wp2
    go_ret;refine⟨true,ja AV b<|some a,lv4,rfl,G4.set hb ha<|λz hz=>?_,FF4.set (jz hb) 0 _,by simp[qd];omega,by have:=Ox (b:=a) rQ hb;omega,(JR.alA rQ Wg).oY E Gl OD,λ_=>⟨HEQ.trans (wO.aa6 Vn ha hb Dz rQ nM HHD HPT) HHD<|λU=>kI rQ,(tH.aa6 Vn ha hb Dz rQ nM HPT HMM).oY Gk E Gl OD⟩⟩;have⟨q,hq⟩:=G4.hd z hz;exact⟨_,hq.join rQ Dz hba⟩
   |some pb=>
    obtain⟨c',l'⟩:=pb;have hPb:=(G4.nd b hb).2.1;rw[Wg]at cb2 cb3 hPb;have akb:w4.cell? ⟨b,3,none⟩=some (Sv<|pn c'):=cb2;have alC:w4.cell? ⟨b,4,none⟩=some (.slice (ly b).1 l'.length (ly b).2):=cb3;obtain⟨ad3,amz,alD,akc⟩:=hPb;have heb:((pn c').toList==[])=false:=by rw[<-qz,beq_iff_eq];exact lh ad3
    clear cb2 cb3;by_cases pi:c=c'
    .subst pi;have hbb:((pn c).toList==(pn c).toList)=true:=ag;by_cases hlen:l.length=l'.length
     .have hle:((l.length:Int)==(l'.length:Int))=true:=by simp[hlen]
      have hcu:=Ox (b:=b) Dz ha;have hgs:∀z,z∈ds->∃y,Hd (ja AV a<|some b) z y:=λz hz=>by
       have⟨q,hq⟩:=G4.hd z hz;exact⟨_,hq.join Dz rQ nM⟩
      clear cb0 fb0 G1 F1 F2 G
      go_wp2
      go_quiet(fail);go_wp2_with fail;have LV0:Hid (wO str ds nx lv (ja AV a<|some b) lv4/\tH str ds nx lv (ja AV a<|some b) lv4 x y):=ai ⟨HEQ.trans (wO.link Vn ha hb Dz rQ nM HHD HPT) HHD<|λU=>kI Dz,(tH.link Vn ha hb Dz rQ nM HPT HMM).oY Gk E Gl OD⟩;have GS:=ai<|(G4.drewN nq).set ha hb hgs;have FS:=ai<|(FF4.drewN nq).set (b:=a) (jz ha) 0<|nA b;have zs:((w4.drewN nq).setCell ⟨a,0,none⟩<|nA b).heap.size=w.heap.size:=by simp[qd];show w4.heap.size=_;omega
      go_loopg[77] l.length (λgk v wr=>aa8 ds str nx lv x y (ja AV a<|some b) vr ly l l' (hc (ja AV a<|some b) ds) w gk v wr)
      case atStart=>exact⟨0,ja AV a<|some b,lv4,ai ag,j5 _,rfl,GS,FS,zs,br _,JL.start _ _ _ _,LV0⟩
      case round=>
       clear GS FS zs LV0;obtain⟨j,gS,lK,cR,hj,rfl,Gj,Fj,zj,hcj,JLj,LVj⟩:=hrel;have HLV:=ai LVj;have HHJ:Hid (∀m,m∈ds->∃x,Hd gS m x):=ai Gj.hd;clear LVj;by_cases aY:j<l.length
       .have hd:(j:Int)<(l.length:Int):=ae;have xC:j<l'.length:=ae;have hd':(j:Int)<(l'.length:Int):=ae;have⟨ga,ea,ra,_⟩:=Gj.row ha Wd aY;have⟨gb,eb,rb,_⟩:=Gj.row hb Wg xC;have⟨_,_,_,_,qa⟩:=(Gj.nd a ha).cells;have⟨_,_,_,_,qb⟩:=(Gj.nd b hb).cells;rw[Wd,ea]at qa;rw[Wg,eb]at qb;have qa':wr.cell? ⟨a,4,none⟩=some (Lv (some ⟨ga,0,none⟩) l.length (ly a).2):=qa;have qb':wr.cell? ⟨b,4,none⟩=some (Lv (some ⟨gb,0,none⟩) l'.length (ly b).2):=qb
        have HJ:Hid (∀W,W=wr.drew->Cq 56 #[nA l[j],nA l'[j]] W λe w'=>∃ok bi cq,e=Rv (.bool ok)/\GL w' ds str bi vr ly cq/\Fr (λb=>b∈ds) wr w'/\w'.heap.size=wr.heap.size/\hc bi ds<=hc (ja AV a<|some b) ds/\JR str gS bi l[j] l'[j] ok/\(ok=true->wO str ds gS lK bi cq/\tH str ds gS lK bi cq l[j] l'[j])/\(w'.cell? ⟨a,4,none⟩=some (Lv (some ⟨ga,0,none⟩) l.length (ly a).2)/\w'.cell? ⟨b,4,none⟩=some (Lv (some ⟨gb,0,none⟩) l'.length (ly b).2)/\w'.cell? ⟨ga,j,none⟩=some (nA l[j])/\w'.cell? ⟨gb,j,none⟩=some (nA l'[j]))):=ai (λW hW=>by
         subst hW;refine(IH wr.drew gS lK Gj.drew ae l[j] l'[j] (hlm _<|jl _)<|alD _<|jl _).mono ?_;rintro e w5⟨ok,Mx,lv5,rfl,G5,F5,z5,h5,J5,L5⟩;have⟨ga5,ea5,ra5,_⟩:=G5.row ha Wd aY;have⟨gb5,eb5,rb5,_⟩:=G5.row hb Wg xC;have⟨_,_,_,_,pa⟩:=(G5.nd a ha).cells;have⟨_,_,_,_,pb⟩:=(G5.nd b hb).cells;rw[Wd,ea]at pa;rw[Wg,eb]at pb;rw[ea]at ea5;rw[eb]at eb5
         cases ea5
         cases eb5
         exact⟨ok,Mx,lv5,rfl,G5,(xg _ wr).drew.trans F5,z5,j3 h5 hcj,J5,L5,pa,pb,ra5,rb5⟩)
        clear ea eb qa qb aM akc aka akb alB alC heb hea hbb hle IH
        go_wp2
        go_region_held3(λw'=>w'.cell? ⟨a,4,none⟩=some (Lv (some ⟨ga,0,none⟩) l.length (ly a).2)/\w'.cell? ⟨b,4,none⟩=some (Lv (some ⟨gb,0,none⟩) l'.length (ly b).2)/\w'.cell? ⟨ga,j,none⟩=some (nA l[j])/\w'.cell? ⟨gb,j,none⟩=some (nA l'[j])) (first|go_keep|(simp[*])) (first|(go_at_call 56;refine(HJ _ rfl).mono ?_;rintro e w5⟨ok,Mx,lv5,rfl,hG5,hF5,hz5,h5,hJ5,hL5,k1,k2,k3,k4⟩;have HL5:=ai hL5;clear hL5;have HG5:=ai hG5;have HF5:=ai hF5;have HZ5:=ai hz5;have HJ5:=ai hJ5;clear hG5 hF5 hz5 hJ5))
        all_goals(
         cases ok with
         |true=>
          go_wp2
          go_roundg(l.length-(j+1))
          case measure=>rw[uh cR];omega
          case rel=>exact⟨j+1,Mx,lv5,ai rfl,ae,iK,HG5,Fj.trans HF5,HZ5.trans zj,h5,JLj.step aY xC HJ5,HLV.1.trans (HL5 trivial).1 HHJ<|λU q=>((HJ5.yes rfl).1 U).1 q|>.1,tH.step HLV.1 HLV.2 Gl OD ha hb Wd Wg (jl _) (jl _) HPT Gk.hd HHJ (HL5 trivial).2⟩
         |false=>
          go_wp2
          go_ret
          exact⟨false,Mx,lv5,rfl,HG5,Fj.trans HF5,HZ5.trans zj,ae,(JL.fail Dz Wd Wg JLj aY xC HJ5).oY E Gl OD,λq=>lI⟩)
       .have hd:decide ((j:Int)<(l.length:Int))=false:=bB;have ej:j=l.length:=ae;subst ej
        go_wp2
        go_ret;exact⟨true,gS,lK,rfl,Gj,Fj,zj,ae,(JL.done Dz Wd Wg hlen JLj).oY E Gl OD,λ_=>HLV⟩
     .have hle:((l.length:Int)==(l'.length:Int))=false:=bB
      go_wp2
      go_quiet(fail)
      go_wp2
      go_ret;exact⟨false,AV,lv4,rfl,G4.drewN _,FF4.drewN _,by show w4.heap.size=_;omega,ae,(JR.afk Wd Wg<|jy hlen).oY E Gl OD,λq=>lI⟩
    .have hbb:((pn c).toList==(pn c').toList)=false:=by rw[<-qz,beq_iff_eq];exact λq=>pi<|ahG yv ad3 q
     go_wp2
     go_quiet(fail)
     go_wp2
     go_ret;exact⟨false,AV,lv4,rfl,G4.drewN _,FF4.drewN _,by show w4.heap.size=_;omega,ae,(JR.afk Wd Wg<|jz pi).oY E Gl OD,λq=>lI⟩
def OE:∀k,OB ds str vr ly k
 |0=>λw nx lv G hk x y hx hy=>by
  have⟨a,Gl⟩:=G.hd x hx;have:=ahH (G.bI hx Gl) Gl.head;omega
 |k+1=>OC<|OE k
mutual
def aa9{σ τ:Nat->Ty}{n:Nat}:∀t,sub σ t=sub τ t->aD n t->σ n=τ n
 |.var m,h,o=>by simp only[aD]at o;subst o;simpa[sub]using h|.aJ c l,h,o=>by simp only[sub,Ty.aJ.injEq,true_and]at h;exact Sw l h o
def Sw{σ τ:Nat->Ty}{n:Nat}:∀l,aS σ l=aS τ l->bT n l->σ n=τ n
 |[],_,o=>by simp[bT]at o|t::l,h,o=>by
  simp only[aS,List.cons.injEq]at h;obtain o|o:=o
  .exact aa9 t h.1 o
  .exact Sw l h.2 o
end
def ad4{a b}(one:sub θ a=sub θ b)(gen:∀σ,sub σ a=sub σ b->∀v,sub σ (θ v)=σ v)(idem:∀v x,aD x (θ v)->θ x=.var x):In.Bt θ a b:=by
 classical
 let σ1:Nat->Ty:=λv=>if aD v a\/aD v b then θ v else .var v;have e1:∀v,aD v a\/aD v b->σ1 v=θ v:=λv h=>if_pos h;have e2:∀v,¬(aD v a\/aD v b)->σ1 v=.var v:=λv h=>if_neg h;have u1:sub σ1 a=sub σ1 b:=by rw[sub_congr a λn o=>e1 n<|jz o,sub_congr b λn o=>e1 n<|jy o];exact one
 refine⟨one,gen,λv h1 h2=>?_,λv n hv hn=>?_⟩
 .have hv:¬(aD v a\/aD v b):=λq=>q.elim h1 h2;have g:=gen σ1 u1 v;rw[e2 v hv]at g
  cases ht:θ v with
  |aJ c l=>rw[ht]at g;simp[sub]at g|var x=>
   rw[ht]at g;simp only[sub]at g;by_cases hx:aD x a\/aD x b
   .rw[e1 x hx,idem v x (by rw[ht];rfl)]at g;exact g
   .grind
 .refine Classical.byContradiction λmE=>?_;let σ2:Nat->Ty:=λx=>if x=n then .aJ lj []else σ1 x;have f1:∀x,x≠n->σ2 x=σ1 x:=λx h=>if_neg h;have u2:sub σ2 a=sub σ2 b:=by rw[sub_congr a λx o=>f1 x<|λe=>mE<|jz<|e▸o,sub_congr b λx o=>f1 x<|λe=>mE<|jy<|e▸o];exact u1
  have hvn:v≠n:=λe=>mE<|e▸hv;have g1:=gen σ1 u1 v;have g2:=gen σ2 u2 v;rw[f1 v hvn]at g2;have:=aa9 _ (g1.trans g2.symm) hn;rw[e2 n mE]at this;have f2:σ2 n=.aJ lj []:=if_pos rfl;rw[f2]at this
  cases this
section
variable {nx:Nx}
def K9(g:JG ds str nx vr){m}(k:nN nx m n):Vm nx m=Vm nx n:=by grind[nx,nN,Vm,oZ]
def Sy:∀{l l' hs:List Nat},eB (nN nx) l l'->eB (Hd nx) l' hs->eB (Hd nx) l hs
 |[],_,_,.nil,.nil=>.nil|_::_,_,_,.cons p q,.cons r s=>by
  refine .cons ?_<|Sy q s;obtain rfl|⟨x,p1,p2⟩:=p
  .exact r
  .rw[r.one p2];exact p1
def AW{E:Nat->Nat->Prop}{f k:Nat->Ty}:∀{l m:List Nat},eB E l m->(∀p x,p∈l->x∈m->E p x->f p=k x)->l.map f=m.map k
 |[],_,.nil,_=>rfl|_::_,_,.cons r s,h=>by
  simp only[jt];rw[h _ _ ag ag r,AW s λp x hp hx=>h p x (by simp[hp])<|by simp[hx]]
def aa_(g:JG ds str nx vr)(hV:Can str nx vr V)(g':JG ds str bi vr)(jr:JR str nx bi a b true)(hF:jc str bi vr F VF)(hh:Hd bi a h)(TS:F h)(ha:a∈ds)(hb:b∈ds):∃U,kK str bi U:=by
 classical
 let σ:Nat->Ty:=λv=>if q:∃x,Rt ds str nx vr v x then(if F (Vm bi q.choose)then VF (Vm bi q.choose)else .var v)else .var v;have hσ:∀v x,Rt ds str nx vr v x->F (Vm bi x)->σ v=VF (Vm bi x):=λv x r f=>by
  have q:∃x,Rt ds str nx vr v x:=⟨x,r⟩;have e:q.choose=x:=q.choose_spec.one g r;show(if q:∃x,Rt ds str nx vr v x then _ else _)=_;rw[dif_pos q,e,if_pos f]
 have Eo:=jr.eqs [] _ g'.eq;have key:∀k n,n∈ds->size (V n)<=k->F (Vm bi n)->sub σ (V n)=VF (Vm bi n):=by
  intro k
  induction k with
  |zero=>intro n _ hz;have:=size_pos<|V n;omega|succ k ih=>
   intro n hn hz hf;have⟨x,hx⟩:=g.Oz n;have hd:=g.jN n x hn hx;have e:=hV n x hx;have iO:=K9 g'<|hx.eq Eo;rw[iO]at hf⊢
   cases hs:str x with
   |none=>
    rw[hs]at e;rw[e];exact hσ _ x ⟨hd,hx.head,hs,rfl⟩ hf
   |some q=>
    obtain⟨c,l⟩:=q;rw[hs]at e;have e:V n=.aJ c (l.map V):=e;have⟨y,hy⟩:=g'.Oz x;rw[oZ hy]at hf⊢;have⟨l',h1,h2⟩:=NJ g' hy hs;have⟨_,h3⟩:=hF y hf;rw[h1]at h3;obtain⟨sd,h4,h5,h6⟩:=h3;rw[e,h6];simp only[sub];rw[fG];congr 1;have h7:=Sy h2 h4;have hz':∀p,p∈l->p∈ds/\size (V p)<=k:=λp hp=>⟨g.VW x c l hd hs p hp,by have:=jH (c:=c) (U:=V) hp;rw[<-e]at this;omega⟩;exact AW h7 λp z hp jB r=>by
     have:=ih p (hz' p hp).1 (hz' p hp).2 (by rw[oZ r];exact h5 z jB);rw[this,oZ r]
 have sV:=hV.kL g;refine⟨λn=>sub σ<|V n,((jr.yes rfl).1 _).2 ⟨⟨λn c l hs=>?_,λn m e=>by rw[sV.bA n m e]⟩,?_⟩⟩
 .rw[sV.made n c l hs];simp only[sub];rw[fG]
 .have nM:=(jr.yes rfl).2.2 [] _ g'.eq;have eab:=K9 g' nM;show sub σ (V a)=sub σ (V b);rw[key _ a ha (br _) (by rw[oZ hh];exact TS),key _ b hb (br _) (by rw[<-eab,oZ hh];exact TS),eab]
structure akd(ds:List Nat)str nx bi vr(V V':Nat->Ty)θ a b:Prop where
 can:Can str bi vr V'
 val:∀n,n∈ds->V' n=sub θ (V n)
 mgu:In.Bt θ (V a) (V b)
 rt:∀v x,Rt ds str nx vr v x->θ v=V' x
 no:∀v,(¬∃x,Rt ds str nx vr v x)->θ v=.var v
def aba{lv}(g:JG ds str nx vr)(hV:Can str nx vr V)(g':JG ds str bi vr)(jr:JR str nx bi a b true)(lr:wO str ds nx lv bi cq)(hF:jc str bi vr F VF)(hh:Hd bi a h)(TS:F h)(ha:a∈ds)(hb:b∈ds):∃V' θ,akd ds str nx bi vr V V' θ a b:=by
 have⟨U,hU⟩:=aa_ g hV g' jr hF hh TS ha hb;have⟨V',hV'⟩:=ahN g' hU;have sV':=hV'.kL g';have sV:=hV.kL g;have sVn:=(((jr.yes rfl).1 V').1 sV').1;have hrt:∀v x,Rt ds str bi vr v x->Rt ds str nx vr v x:=λv x r=>⟨r.1,lr.gr x r.2.1,r.2.2⟩;have val:∀n,n∈ds->V' n=sub (tau ds str nx vr V') (V n):=λn hn=>FD g hV sVn _ n hn<|br _;have rt:∀v x,Rt ds str nx vr v x->tau ds str nx vr V' v=V' x:=λv x r=>OA g r;have no:∀v,(¬∃x,Rt ds str nx vr v x)->tau ds str nx vr V' v=.var v:=λv q=>ahO q;have nM:=(jr.yes rfl).2.2 [] _ g'.eq;refine⟨V',tau ds str nx vr V',hV',val,ad4 ?_ (λσ e v=>?_)<|λv x o=>?_,rt,no⟩
 .rw[<-val a ha,<-val b hb];exact hV'.same nM
 .have hW:kK str bi (λn=>sub σ<|V n):=((jr.yes rfl).1 _).2 ⟨⟨λn c l hs=>by rw[sV.made n c l hs];simp only[sub];rw[fG],λn m e=>by rw[sV.bA n m e]⟩,e⟩;have hWn:∀n,n∈ds->sub σ (V n)=sub σ (V' n):=λn hn=>by
   have h1:=FD g' hV' hW _ n hn<|br _;have h1:=h1;rw[h1];refine sub_congr _ λw o=>?_;have⟨y,hy⟩:=g'.Oz n;have⟨x,r,_⟩:=eZ (lv:=cq) g' hV' _ n y hn hy (br _) o;rw[OA g' r];show sub σ (V x)=σ w;rw[(hrt w x r).val hV];rfl
  by_cases q:∃x,Rt ds str nx vr v x
  .obtain⟨x,r⟩:=q;rw[rt v x r,<-hWn x r.1,r.val hV];rfl
  .rw[no v q];rfl
 .by_cases q:∃y,Rt ds str nx vr v y
  .obtain⟨y,r⟩:=q;rw[rt v y r]at o;have⟨z,hz⟩:=g'.Oz y;have⟨x',r',_⟩:=eZ (lv:=cq) g' hV' _ y z r.1 hz (br _) o;rw[rt x x'<|hrt x x' r',r'.val hV']
  .have q':=no v q;rw[q']at o;simp only[aD]at o;subst o;exact q'
def Lo ds str nx(vr lv:Nat->Nat)i v:=∃x,Rt ds str nx vr v x/\lv x<=i
def abb{lv}{V'}(g:JG ds str nx vr)(hV:Can str nx vr V)(g':JG ds str bi vr)(lr:wO str ds nx lv bi cq)(hl:LC str ds nx lv)(jw:akd ds str nx bi vr V V' θ a b)i w:Lo ds str bi vr cq i w↔∃v,Lo ds str nx vr lv i v/\aD w (θ v):=by
 constructor
 .rintro⟨x,r,hx⟩
  have hL:=lr.low i V' (jw.can.kL g') (λt=>∀w,aD w t->∃v,Lo ds str nx vr lv i v/\aD w (θ v)) (λc ts q t ht w o=>q w (by
   simp only[aD];clear q
   induction ts with
   |nil=>simp at ht|cons y ts ih=>
    obtain e|e:=List.mem_cons.1 ht
    .subst e;exact jz o
    .exact jy (ih e))) (λm hm y hy ZY w o=>by
   rw[jw.val m hm]at o;have⟨v,o1,o2⟩:=(qk _).1 o;have⟨z,r1,r2⟩:=eZ (lv:=lv) g hV _ m y hm hy (br _) o1
   exact⟨v,⟨z,r1,j3 (r2 hl) ZY⟩,o2⟩) x r.1 x (.here r.2.1) hx
  exact hL w (by rw[r.val jw.can];rfl)
 .rintro⟨v,⟨x,r,hx⟩,o⟩;rw[jw.rt v x r]at o;have⟨y,hy⟩:=g'.Oz x;have⟨z,r1,r2⟩:=eZ (lv:=cq) g' jw.can _ x y r.1 hy (br _) o;exact⟨z,r1,j3 (r2<|lr.lc hl)<|j3 (lr.mono x r.1 x y (.here r.2.1) hy) hx⟩
end
section
variable {nx:Nx} {lv:Nat->Nat}
theorem GL.move(h:GL w ds str nx vr ly lv)(hs:w.heap.size<=w'.heap.size)(hb:∀b i v,w.cell? ⟨b,i,none⟩=some v->w'.heap[b]? =w.heap[b]?):GL w' ds str nx vr ly lv:=by
 exact Sk
def AU.lt(h:AU w ds str nx vr ly lv n):n<w.heap.size:=(Array.getElem?_eq_some_iff.1 h.1).1
end
def GL.one{nx}{lv}(h:GL w ds str nx vr ly lv)(o:One b w w')(h1:¬b∈ds)(h4:∀m∈ds,∀c l g,str m=some (c,l)->l≠[]->(ly m).1=some ⟨g,0,none⟩->g≠b):GL w' ds str nx vr ly lv:=by
 refine⟨λn hn=>?_,h.out,h.hd⟩;have⟨p1,p2,p3⟩:=h.nd n hn;have cO:n≠b:=λe=>h1<|e▸hn;refine⟨(o.block n cO).trans p1,?_,p3⟩;have h5:=h4 n hn
 cases hs:str n with
 |none=>trivial|some p=>
  exact Sl
def GL.ake{nx}{lv}(h:GL w ds str nx vr ly lv){m}(hm:m∈ds)(hs:str m=some (c,l))(hl:l≠[])(hg:(ly m).1=some ⟨g,0,none⟩):g<w.heap.size:=by
 have⟨_,p2,_⟩:=h.nd m hm;exact So
def Vo ds str nx vr ly lv T w(e:Ending)w':=
 ∃u bi,e=.returned u/\dB w' (λb=>w.heap.size<=b) T u/\GL w' ds str bi vr ly lv/\iD str nx bi/\Fr (λb=>b∈ds) w w'
def OG ds str vr ly lv F V k:=
 ∀(w:World)(nx:Nx)(n h:Nat),GL w ds str nx vr ly lv->jc str nx vr F V->n∈ds->Hd nx n h->F h->size (V h)<=k->Cq 58 #[nA n] w (Vo ds str nx vr ly lv (V h) w)
def abc ds str nx vr ly lv N(L:List Ty)w gk v wr:=
 ∃(j:Nat)(C:Array Value)(gS:Nx),Hid (gk=N-j)/\j<=N/\v=Nv j/\GL wr ds str gS vr ly lv/\iD str nx gS/\Fr (λb=>b∈ds) w wr/\Bx wr w.heap.size C/\Hid (C.size=N)/\
  Hid (∀i(h:i<L.length),i<j->∃u,C[i]? =some u/\dB wr (λb=>w.heap.size<b/\b<wr.heap.size) L[i] u)
section
variable {lv:Nat->Nat}
def OH(IH:OG ds str vr ly lv F V k):OG ds str vr ly lv F V (k+1):=by
 intro w nx n h G0 hF hn hd TS dU;have hh:h∈ds:=G0.bI hn hd;have HC:=ai<|rB G0 hn hd;go_enter func58,ntmps58;go_wp2_with fail;refine HC.mono ?_;rintro e w1⟨rfl,dP,G1,F1,E1,z1⟩;have hF1:=Fin.eqv hF E1;obtain⟨c0,f0,c2,c1,c3⟩:=(G1.nd h hh).cells;have We:=(G1.nd h hh).2.1;obtain⟨_,hV⟩:=hF1 h TS;have lD:∀x∈ds,x<w1.heap.size:=λx hx=>(G1.nd x hx).lt;clear HC G0 hF
 cases hs:str h with
 |none=>
  rw[hs]at c2 hV;have c2':w1.cell? ⟨h,3,none⟩=some (.string ⟨#[]⟩):=c2;clear c2 c3 We;have hV':V h=.var (vr h):=hV;clear hV
  go_wp2
  go_ret;refine⟨_,dP,rfl,?_,G1,E1,F1⟩;rw[hV'];exact .var _
 |some p=>
  obtain⟨c,l⟩:=p;rw[hs]at c2 hV c3 We;obtain⟨yv,hl,hld,_⟩:=We;have c2':w1.cell? ⟨h,3,none⟩=some (.string<|pn c):=c2;have c3':w1.cell? ⟨h,4,none⟩=some (.slice (ly h).1 l.length (ly h).2):=c3;have cO:((pn c).toList==[])=false:=by
   rw[<-qz,beq_iff_eq];exact lh yv
  obtain⟨iO,a2,Wx,hVh⟩:=hV;have hlen:=tG a2;obtain⟨i0,vC,nJ,lG,jB⟩:=info_parts fY;have Te:=gT (by_:=16) dS vC nJ rfl lG jB aK l.length hl;rw[hVh]at dU;have alE:∀x∈iO,size (V x)<=k:=λx hx=>by have:=eC (V:=V) hx;simp[size]at dU;omega
  have HL:=ai hlen;have HZ:=ai z1;have HV:=ai hVh;obtain⟨sa,HA⟩:∃sa,Hid<|(ly h).1=sa:=⟨_,ai rfl⟩;rw[uh HA]at c3';clear c2 c3 hlen z1 hVh
  go_wp2
  go_loopg[29] l.length (λgk v wr=>abc ds str dP vr ly lv l.length (iO.map V) w1 gk v wr)
  case atStart=>
   have bN:Bq w1 (w1.alloc<|.cells (qp l.length .nilIface) 67):=bw _;refine⟨0,qp l.length .nilIface,dP,ai ag,j5 _,rfl,G1.move bN.size<|λb i v hc=>bN.block b<|eY hc,iD.refl _ _,xf bN,Bx.new w1 _ _,ai ag,ai<|λi _ hi=>absurd hi<|j6 _⟩
  case round=>
   obtain⟨j,C,gS,cR,hj,rfl,GJ,EJ,FJ,BJ,hC,hT⟩:=hrel;have zw:=FJ.size;have zb:=BJ.z;obtain⟨d0,e0,d2,d1,d3⟩:=(GJ.nd h hh).cells;rw[hs]at d2;have d2':wr.cell? ⟨h,3,none⟩=some (.string<|pn c):=d2;clear d0 e0 d2 d1 d3 c0 f0 c1 c2' c3' Te;by_cases aY:j<l.length
   .have hdj:(j:Int)<(l.length:Int):=ae;obtain⟨ga,ea,cg,hga⟩:=GJ.row hh hs aY;have xC:j<iO.length:=by rw[<-uh HL];exact aY
    have hdh:=EJ.jN _ _<|Fz a2 j aY xC;have HC:=IH wr gS l[j] iO[j] GJ (Fin.eqv hF1 EJ) (hld _<|jl aY) hdh (Wx _<|jl xC)<|alE _<|jl xC;have ea':=HA.symm.trans ea;subst ea';clear ea;go_wp2_with fail;refine HC.mono ?_;rintro e w2⟨u,oH,rfl,hU,G2,E2,F2⟩;obtain⟨tu,xu,rfl⟩:=hU.iface;have hpb:¬w1.heap.size∈ds:=λq=>by have:=lD _ q;omega
    have B2:=BJ.fr F2 hpb;have rG:j<C.size:=qBh;have cj:w2.cell? ⟨w1.heap.size,j,none⟩=some C[j]:=(B2.c j).trans<|qs rG;have fj:=B2.f j;have B3:=ai<|B2.aP j (.iface tu xu) (C.setIfInBounds j<|.iface tu xu) rfl rG;have HU:=ai hU;have HF:=ai F2;have xF:=ai<|FJ.trans F2;have HE:=ai<|EJ.trans E2;have z2:=F2.size;have G3:=ai (G2.one (One.cell w2 w1.heap.size j<|.iface tu xu) hpb (λm hm c' l' g' e1 e2 e3=>by have:=G1.ake hm e1 e2 e3;omega));clear HC hU G2 E2 F2 B2 cg d2'
    go_wp2
    go_roundg(l.length-(j+1))
    case measure=>rw[uh cR];omega
    case rel=>
     refine⟨j+1,C.setIfInBounds j<|.iface tu xu,oH,ai rfl,ae,iK,G3,HE,xF.set (jy<|br _) j _,B3,ai (by simp;exact hC),ai<|λi hi hij=>?_⟩;have iL:∀b,w1.heap.size<b->b<w2.heap.size->(w2.setCell ⟨w1.heap.size,j,none⟩<|.iface tu xu).heap[b]? =w2.heap[b]? :=λb hb _=>qu _ _ _ _ (by show b≠w1.heap.size;omega);have hss:(w2.setCell ⟨w1.heap.size,j,none⟩<|.iface tu xu).heap.size=w2.heap.size:=yw;by_cases e:i=j
     .subst e;refine⟨.iface tu xu,by simp[rG],?_⟩;rw[List.getElem_map];exact HU.low.move ae (λb p z=>iL b qAy z)<|λb p z=>⟨qAy,ae⟩
     .obtain⟨u',vD,vE⟩:=uh hT i hi ae;refine⟨u',by rw[qr ae];exact vD,?_⟩;have h3:=vE.fr HF (λb p _ q=>by have:=lD _ q;omega);exact h3.move ae (λb p z=>iL b p.1 z)<|λb p z=>⟨p.1,ae⟩
   .have hdj:decide ((j:Int)<(l.length:Int))=false:=bB;have ej:j=l.length:=ae;subst ej
    go_wp2
    go_ret;refine⟨_,gS,rfl,?_,GJ,E1.trans EJ,F1.trans FJ⟩;have hlm:(iO.map V).length=l.length:=by rw[List.length_map];exact HL.symm
    rw[uh HV,<-hlm];have z1:=uh HZ;refine .aJ c _ _ _ (λi=>C.getD i .nilIface) yv (jy ⟨w1.heap.size,rfl,by show w.heap.size<=w1.heap.size;omega,zb,λi hi=>?_⟩) (λi hi=>?_)
    .obtain⟨u,hu,_⟩:=uh hT i hi ae;rw[BJ.c i,hu];simp[Array.getD_eq_getD_getElem?,hu]
    .obtain⟨u,hu,Tf⟩:=uh hT i hi ae;have:C.getD i .nilIface=u:=qBm;rw[this];exact Tf.wide λb p=>qAu
def FE:∀k,OG ds str vr ly lv F V k
 |0=>λw nx n h G hF hn hd TS dU=>absurd dU (by have:=size_pos<|V h;omega)|k+1=>OH<|FE k
end
def Sz{w:World}{ds:List Nat}{str:rF}{nx:Nx}{vr:Nat->Nat}{ly:Nat->Option Addr×Nat}{lv:Nat->Nat}(G:GL w ds str nx vr ly lv):∀l:List Nat,(∀m∈l,m∈ds)->∃hs,eB (Hd nx) l hs
 |[],_=>⟨[],.nil⟩|x::l,h=>by
  have⟨y,hy⟩:=G.hd x<|h x ag;have⟨hs,q⟩:=Sz G l λm hm=>h m (by simp[hm]);exact⟨y::hs,.cons hy q⟩
def Vp ds str nx vr ly lv sb M(F:Nat->Prop)B(V:Nat->Ty)n w(e:Ending)w':=
 ∃bi,GL w' ds str bi vr ly lv/\iD str nx bi/\Fr (λb=>b∈ds\/b=sb) w w'/\
  ((∃M' F' V' h,e=.returned (.tuple #[.int .i64 ((min (size<|V' h) 49:Nat):Int),.bool true])/\Hd nx n h/\F' h/\(∀x,F x->F' x/\V' x=V x)/\SZ ds str bi vr M' F' B V'/\MS BS w' sb M'/\(∀x,aX x M'=none->aX x M=none))\/
   (e=.returned (.tuple #[Iv 0,.bool false])/\∀W,¬kK str nx W))
def FI ds str vr ly lv sb k:=
 ∀(w:World)(nx:Nx)(M:List (Nat×Value))(F:Nat->Prop)(B:List Nat)(V:Nat->Ty)(n:Nat),GL w ds str nx vr ly lv->SZ ds str nx vr M F B V->MS BS w sb M->n∈ds->(∀W,kK str nx W->∀b∈B,size (W n)<size (W b))->mu M ds<k->
  Cq 85 #[.agg #[Iv 48,Mv sb],nA n] w (Vp ds str nx vr ly lv sb M F B V n w)
def SA ds str nx vr ly lv sb bx M(F:Nat->Prop)B(V:Nat->Ty)N(hs:List Nat)w gk u v wr:=
 ∃(j:Nat)(gS:Nx)(Mj:List (Nat×Value))(Fj:Nat->Prop)(Vj:Nat->Ty)(sz:Nat),Hid (gk=N-j)/\j<=N/\u=Nv sz/\v=Nv j/\sz<=49/\Hid (sz=min (1+ah ((hs.take j).map Vj)) 49)/\GL wr ds str gS vr ly lv/\iD str nx gS/\Fr (λb=>b∈ds\/b=sb) w wr/\Bx wr bx #[Iv 48,Mv sb]/\
  Hid (SZ ds str gS vr Mj Fj B Vj)/\MS BS wr sb Mj/\Hid ((∀x,F x->Fj x/\Vj x=V x)/\(∀x,aX x Mj=none->aX x M=none)/\∀x∈hs.take j,Fj x)
section
variable {lv:Nat->Nat}
def OI(IH:FI ds str vr ly lv sb k):FI ds str vr ly lv sb (k+1):=by
 intro w nx M F B V n G0 HS M0 hn hB hmu;have⟨h,HD⟩:=G0.hd n hn;have hh:=G0.bI hn HD;have⟨bN,BA⟩:=nK w #[.int .i64 48,.map<|some sb] 190;have GA:=G0.move bN.size<|λb i v hc=>bN.block b<|eY hc;have HC:=rB GA hn HD;have zs:=M0.lt;have MA:=M0.below bN;have lD:∀x∈ds,x<w.heap.size:=λx hx=>(G0.nd x hx).lt;have hsd:¬sb∈ds:=λq=>by have:=(G0.nd sb q).cells.1;rw[M0.nj 0]at this;cases this
 have rQ:¬w.heap.size∈ds:=λq=>by have:=lD _ q;omega
 go_enter func85,ntmps85;go_wp2_with fail;refine HC.mono ?_;rintro e w1⟨rfl,dP,G1,F1,E1,HZ⟩;have B1:=BA.fr F1 rQ;have HM:=MA.same (F1.block sb (by have:=bN.size;omega) hsd);have HOK:∀x∈ds,∃c t,w1.heap[x]? =some (Cv c t (0,0)):=λx hx=>⟨_,_,(G1.nd x hx).1⟩;have hl:=HM.look aav Tryz.underlying188 (Ph w1) h (HOK h hh) (λp hp=>HOK p.1<|HS.kd p hp) true;have ca:=B1.c 0;have cb:=B1.c 1;have ca':=ca;have cb':=cb;have FF:Fr (λb=>b∈ds\/b=sb) w w1:=(Fr.of bN).trans' F1<|λx q=>Or.inl<|Or.inl q;have HD1:=E1.jN _ _ HD;clear HC GA BA MA G0 M0 ca cb
 cases hg:aX h M with
 |some v=>
  rw[hg]at hl;simp at hl;obtain q|q:=HS.gm h v hg
  .have hv:=HS.fg h q;rw[hg]at hv;injection hv with hv;subst hv;have HP:=Sr<|V h;have lJ:((((min (size<|V h) 49:Nat)):Int)==0)=false:=by simpa using HP
   generalize hq:(((min (size<|V h) 49:Nat)):Int)=sz at*
   go_wp2
   go_ret2;refine⟨dP,G1,E1,FF,jz ⟨M,F,V,h,?_,HD,q,λx hx=>⟨hx,rfl⟩,HS.eqv E1,HM,λ_ hx=>hx⟩⟩;have e1:(sz !=0)=true:=by simpa using HP
   rw[hq];show Rv (Value.tuple #[.int .i64 sz,.bool<|sz !=0])=_;rw[e1]
  .have hv:=HS.bg h q;rw[hg]at hv;injection hv with hv;subst hv
   go_wp2
   go_ret2;refine⟨dP,G1,E1,FF,jy ⟨rfl,λW hW=>?_⟩⟩;have:=hB W hW h q;rw[HD.kL hW]at this;omega
 |none=>
  rw[hg]at hl;simp at hl;have⟨c0,f0,c2,c1,c3⟩:=(G1.nd h hh).cells;have We:=(G1.nd h hh).2.1;obtain⟨l,HLs,L0,hld⟩:∃l:List Nat,Hid ((str h=none/\l=[])\/∃c,str h=some (c,l))/\slN (str h)=l.length/\∀m∈l,m∈ds:=by
   cases hs:str h with
   |none=>exact⟨[],ai<|jz ⟨rfl,rfl⟩,rfl,ag⟩|some p=>
    rw[hs]at We;exact⟨p.2,ai<|jy ⟨p.1,rfl⟩,rfl,We.2.2.1⟩
  have amA:l.length<=1001:=by
   obtain⟨_,e⟩|⟨c,e⟩:=uh HLs
   .subst e;simp
   .rw[e]at We;exact We.2.1
  have⟨hs,a2⟩:=Sz G1 l hld;have HL:=tG a2;obtain⟨sa,HA⟩:∃sa,Hid<|(ly h).1=sa:=⟨_,ai rfl⟩;rw[uh HA,L0]at c3;have c3':=c3;have HS:=HS.eqv E1;have kdS:=HS.kd;have hhb:h≠sb:=λe=>hsd<|e▸hh;clear c3 L0 c0 c1 c2 f0 We;go_wp2_with(refine aT _ rfl _ _ _ _ (jy rfl) aav qy _ _ rfl HM h (.int .i64 0) rfl rfl (HOK h hh) (λp hp=>HOK p.1<|kdS p hp) ?_;intro w2 H' O';have Bc:=ai H';have O2:=O';clear H' O';have alF:w2.cell? ⟨h,4,none⟩=some (Lv sa l.length (ly h).2):=(j9 (a:=⟨h,4,none⟩) (w:=w1)<|O2.block h hhb).trans c3');have FP:Fr (λb=>b∈ds\/b=sb) w w2:=⟨O2.os.trans FF.os,O2.tape.trans FF.tape,O2.output.trans FF.output,by rw[O2.size];exact FF.size,λb hz hn=>(O2.block b<|λe=>hn<|jy e).trans<|FF.block b hz hn⟩;have HBL:∀(gS:Nx),iD str dP gS->∀j(hj:j<l.length)W,kK str gS W->∀b∈h::B,size (W l[j])<size (W b):=by
   intro gS EJ j hj W hW b hb;have hW0:=((E1.trans EJ).kL W).1 hW;have e1:=HD.kL hW0;have bq:size (W l[j])<size (W h):=by
    obtain⟨_,e⟩|⟨c,e⟩:=uh HLs
    .subst e;simp at hj
    .rw[hW0.made h c l e];have:=eC (V:=W)<|jl hj;simp[size];omega
   obtain q|q:=List.mem_cons.1 hb
   .rw[q];exact bq
   .have:=hB W hW0 b q;rw[e1]at this;omega
  have HGM:=hg;have alG:mu (bD h (.int .i64 0) M) ds<k:=by have:=aa3 HGM (.int .i64 0) hh;omega
  have akf:∀b i v,w1.cell? ⟨b,i,none⟩=some v->w2.heap[b]? =w1.heap[b]? :=λb i v hc=>O2.block b (λe=>by subst e;rw[HM.nj i]at hc;cases hc);have G2:=G1.move (by rw[O2.size];exact br _) akf;have B2:=B1.one O2 ae;clear hl ca' cb' c3' alF;go_loopg[8,34] l.length (λgk u v wr=>SA ds str dP vr ly lv sb w.heap.size (bD h (.int .i64 0) M) F (h::B) V l.length hs w gk u v wr)
  case atStart=>
   exact⟨0,dP,bD h (.int .i64 0) M,F,V,1,ai ag,j5 _,rfl,rfl,ae,ai<|by simp[ah],G2,iD.refl _ _,FP,B2,ai<|HS.begin hh HGM,uh Bc,ai ⟨λx hx=>⟨hx,rfl⟩,λ_ hx=>hx,ag⟩⟩
  case round=>
   obtain⟨j,gS,Mj,Fj,Vj,sz,cR,hj,rfl,rfl,dU,hsq,GJ,EJ,FJ,BJ,SJ,HMJ,hT⟩:=hrel;have zw:=FJ.size;have zb:=BJ.z;have ca:=BJ.c 0;have cb:=BJ.c 1;by_cases aY:j<l.length
   .have hdj:(j:Int)<(l.length:Int):=ae;obtain⟨c,hsc⟩:∃c,Hid<|str h=some (c,l):=by
     obtain⟨_,e⟩|⟨c,e⟩:=uh HLs
     .subst e;simp at aY
     .exact⟨c,ai e⟩
    have⟨ga,ea,cg,hga⟩:=GJ.row hh (uh hsc) aY;have xC:j<hs.length:=by rw[<-HL];exact aY
    have hdh:=EJ.jN _ _<|Fz a2 j aY xC;have hmj:mu Mj ds<k:=Nat.lt_of_le_of_lt (FC (uh hT).2.1 ds) alG;have HC:=IH wr gS Mj Fj (h::B) Vj l[j] GJ SJ HMJ (hld _<|jl aY) (HBL gS EJ j aY) hmj;have ea':=(uh HA).symm.trans ea;subst ea';clear ea;go_wp2_with fail;refine HC.mono ?_;rintro e w3⟨nx3,G3,E3,F3,⟨M3,F3',V3,h3,rfl,hd3,hF3,hV3,S3,MS3,hg3⟩|⟨rfl,mE⟩⟩
    .have e3:=hd3.one hdh;subst e3;obtain⟨s2,sd⟩:∃s2,Hid<|s2=min (size<|V3 hs[j]) 49:=⟨_,ai rfl⟩;rw[<-uh sd];have amB:s2<=49:=by rw[uh sd];omega
     have B3:=BJ.fr F3 (λq=>by obtain q|q:=q;exact rQ q;omega);have ca3:=B3.c 0;have alH:∀(x:Bool)(w:World),(Op.unary .not<|.bool x).run qw w=.ok (.bool<|!x) w:=λ_ _=>rfl;clear HC ca cb cg
     have HR:∀sz',sz'<=49->sz'=min (sz+s2) 49->SA ds str dP vr ly lv sb w.heap.size (bD h (.int .i64 0) M) F (h::B) V l.length hs w (l.length-(j+1)) (.int .i64 (sz':Int)) (.int .i64<|(j:Int)+1) w3:=(λsz' lG jB=>by
      have⟨t1,t2,t3⟩:=uh hT;have alI:∀x∈hs.take (j+1),F3' x:=λx hx=>by
       rw[jm xC]at hx;obtain q|q:=List.mem_append.1 hx
       .exact(hV3 x<|t3 x q).1
       .simp at q;rw[q];exact hF3
      have hmp:(hs.take j).map V3=(hs.take j).map Vj:=by
       apply jo;intro x hx;exact(hV3 x<|t3 x hx).2
      have alJ:∀(a:List Ty)(t:Ty),ah (a++[t])=ah a+size t:=by
       intro a t
       induction a with
       |nil=>simp[ah]|cons x a ih=>simp[ah,ih];omega
      refine⟨j+1,nx3,M3,F3',V3,sz',ai rfl,ae,rfl,iK,lG,ai ?_,G3,EJ.trans E3,FJ.trans F3,B3,ai S3,MS3,ai ⟨λx hx=>⟨(hV3 x (t1 x hx).1).1,((hV3 x (t1 x hx).1).2).trans (t1 x hx).2⟩,λx hx=>t2 x<|hg3 x hx,alI⟩⟩;rw[jm xC,jx,hmp];simp only[jt,List.map_nil];rw[alJ,jB,uh hsq,uh sd]
      omega)
     clear hd3 hF3 hV3 S3 MS3 hg3 hT hsq sd G3 E3 F3;go_wp2_with fail;all_goals(go_roundg(l.length-(j+1)))
     all_goals(first|(rw[uh cR];omega)|exact HR 49 ae (by omega)|(have:=HR (sz+s2) ae ae;rw[Int.natCast_add]at this;exact this))
    .have alH:∀(x:Bool)(w:World),(Op.unary .not<|.bool x).run qw w=.ok (.bool<|!x) w:=λ_ _=>rfl;clear HC ca cb cg
     go_wp2
     go_ret2;exact⟨nx3,G3,(E1.trans EJ).trans E3,FJ.trans F3,jy ⟨rfl,λW hW=>mE W<|((E1.trans EJ).kL W).2 hW⟩⟩
   .have hdj:decide ((j:Int)<(l.length:Int))=false:=bB;have ej:j=l.length:=ae;subst ej;have bq:hs.take l.length=hs:=by rw[HL];exact jp
    have⟨t1,t2,t3⟩:=uh hT;have ad5:=uh hsq;rw[bq]at t3 ad5
    obtain⟨T,HT1,HT2⟩:∃T:Ty,Hid (sz=min (size T) 49)/\Hid (match str h with
     |none=>T=.var (vr h)|some (c,l)=>∃hs,eB (Hd gS) l hs/\(∀y,y∈hs->Fj y)/\T=.aJ c (hs.map Vj)):=by
     obtain⟨e1,e2⟩|⟨c,e⟩:=uh HLs
     .have e3:hs=[]:=by
       have:=HL;rw[e2]at this;exact List.length_eq_zero_iff.1 this.symm
      refine⟨.var<|vr h,ai ?_,ai<|by rw[e1]⟩;rw[ad5,e3];simp[ah,size]
     .refine⟨.aJ c<|hs.map Vj,ai ?_,ai ?_⟩
      .rw[ad5];simp[size]
      .rw[e];exact⟨hs,AR (λx y q=>EJ.jN x y q) a2,t3,rfl⟩
    have hxB:¬h∈B:=λq=>by
     have:=HS.bg h q;rw[HGM]at this
     cases this
    have SD:=SJ.done hxB hh ((EJ.Bf h).2<|(E1.jN _ _ HD).head) T HT2;have akg:∀x∈ds,∃c t,wr.heap[x]? =some (Cv c t (0,0)):=(λx hx=>⟨_,_,(GJ.nd x hx).1⟩);have kdJ:=(uh SJ).kd;have HTT:=xc t1 t2;clear hsq ad5 t1 t2 t3 hT bq HT2;go_wp2_with(refine aT _ rfl _ _ _ _ (jy rfl) aav qy _ _ rfl HMJ h (.int .i64 (sz:Int)) rfl rfl (akg h hh) (λp hp=>akg p.1<|kdJ p hp) ?_;intro w4 H' O';have HM4:=ai H';have O4:=O';clear H' O');go_ret2;obtain⟨t1,t2⟩:=HTT;have hsT:=uh HT1;have SD':=SD;rw[<-hsT]at SD';have hkp:∀b i v,wr.cell? ⟨b,i,none⟩=some v->w4.heap[b]? =wr.heap[b]? :=λb i v hc=>O4.block b (λe=>by subst e;rw[HMJ.nj i]at hc;cases hc);refine⟨gS,GJ.move (by rw[O4.size];exact br _) hkp,E1.trans EJ,⟨O4.os.trans FJ.os,O4.tape.trans FJ.tape,O4.output.trans FJ.output,by rw[O4.size];exact FJ.size,λb hz hn=>(O4.block b<|λe=>hn<|jy e).trans<|FJ.block b hz hn⟩,jz ⟨bD h (.int .i64 (sz:Int)) Mj,λy=>Fj y\/y=h,ja Vj h T,h,?_,HD,jy rfl,λx hx=>⟨jz (t1 x hx).1,?_⟩,SD',uh HM4,λx hx=>?_⟩⟩
    .have e1:ja Vj h T h=T:=MI;rw[e1,<-hsT];rfl
    .have cO:x≠h:=λe=>by subst e;exact(uh SJ).apart (t1 x hx).1 ag
     simp only[ja,cO,if_false];exact(t1 x hx).2
    .rw[aO]at hx;split at hx
     .cases hx
     .have:=t2 x hx;rw[aO]at this;split at this
      .cases this
      .exact this
def SC:∀k,FI ds str vr ly lv sb k
 |0=>λw nx M F B V n _ _ _ _ _ hmu=>absurd hmu (j6 _)|k+1=>OI<|SC k
end
section
variable {nx:Nx} {lv:Nat->Nat}
def ad6 ds str nx vr ly lv n w(e:Ending)w':=
 ∃bi,GL w' ds str bi vr ly lv/\iD str nx bi/\Fr (λb=>b∈ds) w w'/\
  ((∃F V h,e=.returned (.tuple #[.int .i64 ((min (size<|V h) 49:Nat):Int),.bool true])/\Hd nx n h/\F h/\jc str bi vr F V/\∀x,F x->x∈ds)\/
   (e=.returned (.tuple #[Iv 0,.bool false])/\∀W,¬kK str nx W))
def o5(G:GL w ds str nx vr ly lv)(hn:n∈ds):Cq 57 #[nA n,Iv 48] w (ad6 ds str nx vr ly lv n w):=by
 have iN:= @run_makeMap Tryz.prog;have bN:Bq w (w.alloc<|.map #[] 0):=bw _;have GA:=G.move bN.size<|λb i v hc=>bN.block b<|eY hc;have S0:SZ ds str nx vr [] (λ_=>False) [] (λ_=>.var 0):=⟨λ_ q=>q.elim,λ_ q=>q.elim,λ_ q=>(List.not_mem_nil q).elim,λx v q=>(by simp[aX]at q),λ_ q=>(List.not_mem_nil q).elim⟩;have HC:=SC (mu [] ds+1) (w.alloc<|.map #[] 0) nx [] (λ_=>False) [] (λ_=>.var 0) n GA S0 (MS.new BS w) hn (λ_ _ b hb=>by simp at hb) (Nat.lt_succ_self _);have lD:∀x∈ds,x<w.heap.size:=λx hx=>(G.nd x hx).lt;go_enter func57,ntmps57;go_wp2_with fail;refine HC.mono ?_
 have xL:∀w',Fr (λb=>b∈ds\/b=w.heap.size) (w.alloc<|.map #[] 0) w'->Fr (λb=>b∈ds) w w':=λw' h=>(xf bN).trans' h (λx q=>by
  obtain q|q:=q
  .exact jz q
  .exact jy ae)
 rintro e w1⟨dP,G1,E1,F1,⟨M1,F',V',h,rfl,hd,hF,hV,HS,MS1,hg⟩|⟨rfl,mE⟩⟩
 .obtain⟨s2,sd⟩:∃s2:Nat,Hid<|s2=min (size<|V' h) 49:=⟨_,ai rfl⟩;rw[<-uh sd]
  go_wp2
  go_ret2;refine⟨dP,G1,E1,xL w1 F1,jz ⟨F',V',h,?_,hd,hF,HS.fin,λx hx=>HS.fd hx⟩⟩;rw[<-uh sd];rfl
 .clear HC
  go_wp2
  go_ret2;exact⟨dP,G1,E1,xL w1 F1,jy ⟨rfl,mE⟩⟩
end
structure fW where
 ds:List Nat
 str:rF
 nx:Nx
 vr:Nat->Nat
 ly:Nat->Option Addr×Nat
 lv:Nat->Nat
 V:Nat->Ty
abbrev fW.L(g:fW)i v:=Lo g.ds g.str g.nx g.vr g.lv i v
abbrev fW.R(g:fW)v x:=Rt g.ds g.str g.nx g.vr v x
structure JS w(g:fW)(s:qi):Prop where
 gl:GL w g.ds g.str g.nx g.vr g.ly g.lv
 mF:rL g.str g.nx []
 inj:∀a b,a∈g.ds->b∈g.ds->g.str a=none->g.str b=none->g.vr a=g.vr b->a=b
 can:Can g.str g.nx g.vr g.V
 lc:LC g.str g.ds g.nx g.lv
 val:∀n,n∈g.ds->g.str n=none->g.V n=s.k (g.vr n)
 use:∀n,n∈g.ds->g.str n=none->s.u (g.vr n)
 ok:In.Ok s
section
variable {g g1 g2:fW} {s s1 s2:qi}
def GL.jg{nx:Nx}{lv:Nat->Nat}(h:GL w ds str nx vr ly lv)(hc:rL str nx [])(hi:∀a b,a∈ds->b∈ds->str a=none->str b=none->vr a=vr b->a=b):JG ds str nx vr where
 Oz n:=by
  by_cases q:n∈ds
  .exact h.hd n q
  .exact⟨n,.here (h.out n q).1⟩
 jN n x hn k:=h.bI hn k
 VW a c l ha hs p hp:=(h.part ha hs).2 p hp
 inj:=hi
 mF:=hc
def JS.jg(h:JS w g s):JG g.ds g.str g.nx g.vr:=h.gl.jg h.mF h.inj
def JS.Cj(h:JS w g s){v:Nat}(hn:n∈g.ds)(o:aD v (g.V n)):∃x,g.R v x:=by
 have⟨y,hy⟩:=h.jg.Oz n;have⟨x,r,_⟩:=eZ (lv:=g.lv) h.jg h.can _ n y hn hy (br _) o;exact⟨x,r⟩
def JS.root(h:JS w g s){v:Nat}(r:g.R v x):s.u v/\s.k v=.var v:=by
 rw[<-r.2.2.2];exact⟨h.use x r.1 r.2.2.1,by rw[<-h.val x r.1 r.2.2.1,r.val h.can,r.2.2.2]⟩
def JS.eqv(h:JS w g s){bi}(e:iD g.str g.nx bi)(hg:GL w' g.ds g.str bi g.vr g.ly g.lv):JS w' {g with nx:=bi} s:=
 ⟨hg,e.mF _ h.mF,h.inj,λn x k=>h.can n x<|e.back h.gl k,(wO.eqv h.gl e).lc h.lc,h.val,h.use,h.ok⟩
structure iI L(g:fW)(s:qi)(g1:fW)(s1:qi):Prop where
 gC:∀n,n∈g.ds->n∈g1.ds/\g1.str n=g.str n/\g1.vr n=g.vr n
 val:∀n,n∈g.ds->g1.V n=sub s1.k (g.V n)
 TN:∀i,i<L->∀x,g1.L i x↔∃v,g.L i v/\aD x (s1.k v)
def iI.key{L}(h:JS w g s)(k:iI L g s g1 s1)(h1:JS w' g1 s1)(hn:n∈g.ds)(hs:g.str n=none):s1.k (g.vr n)=sub s1.k (s.k<|g.vr n):=by
 have⟨b1,b2,b3⟩:=k.gC n hn;rw[<-h.val n hn hs,<-k.val n hn,h1.val n b1<|b2.trans hs,b3]
def iI.refl(h:JS w g s)L:iI L g s g s:=
 ⟨λn hn=>⟨hn,rfl,rfl⟩,λn hn=>(In.pE λv o=>by have⟨x,r⟩:=h.Cj hn o;exact(h.root r).2).symm,λi _ x=>⟨λq=>⟨x,q,by obtain⟨y,r,_⟩:=q;rw[(h.root r).2];rfl⟩,λ⟨v,q,o⟩=>by obtain⟨y,r,l⟩:=q;rw[(h.root r).2]at o;simp only[aD]at o;subst o;exact⟨y,r,l⟩⟩⟩
def iI.trans{L}{w2}(h:JS w g s)(h1:JS w' g1 s1)(h2:JS w2 g2 s2)(k:iI L g s g1 s1)(k1:iI L g1 s1 g2 s2):iI L g s g2 s2:=by
 have key:∀v y,g.R v y->s2.k v=sub s2.k (s1.k v):=λv y r=>by
  have⟨b1,b2,b3⟩:=k.gC y r.1;have:=k1.key h1 h2 b1<|b2.trans r.2.2.1
  rwa[b3,r.2.2.2]at this
 refine⟨λn hn=>?_,λn hn=>?_,λi hi x=>?_⟩
 .have⟨b1,b2,b3⟩:=k.gC n hn;have⟨c1,c2,c3⟩:=k1.gC n b1;exact⟨c1,c2.trans b2,c3.trans b3⟩
 .rw[k1.val n (k.gC n hn).1,k.val n hn,sub_sub];refine sub_congr _ λv o=>?_;have⟨y,r⟩:=h.Cj hn o;exact(key v y r).symm
 .rw[k1.TN i hi x];constructor
  .rintro⟨v1,q,o⟩;have⟨v,q0,o0⟩:=(k.TN i hi v1).1 q;refine⟨v,q0,?_⟩;obtain⟨y,r,_⟩:=q0;rw[key v y r];exact(qk _).2 ⟨v1,o0,o⟩
  .rintro⟨v,q0,o⟩;obtain⟨y,r,ly⟩:=q0;rw[key v y r]at o;have⟨v1,o0,o1⟩:=(qk _).1 o;exact⟨v1,(k.TN i hi v1).2 ⟨v,⟨y,r,ly⟩,o0⟩,o1⟩
def iI.eqv(h:JS w g s)(e:iD g.str g.nx bi)(hg:GL w' g.ds g.str bi g.vr g.ly g.lv)L:iI L g s {g with nx:=bi} s:=by
 have r:=iI.refl h L;refine⟨r.gC,r.val,λi hi x=>?_⟩;rw[<-r.TN i hi x];exact⟨λ⟨y,⟨q1,q2,q3⟩,l⟩=>⟨y,⟨q1,(e.Bf y).1 q2,q3⟩,l⟩,λ⟨y,⟨q1,q2,q3⟩,l⟩=>⟨y,⟨q1,(e.Bf y).2 q2,q3⟩,l⟩⟩
def SF{str:rF}{nx:Nx}{vr:Nat->Nat}{ds:List Nat}{F:Nat->Prop}{VF V:Nat->Ty}(hF:jc str nx vr F VF)(hV:Can str nx vr V):∀k x,size (V x)<=k->F x->VF x=V x
 |0,x,h,_=>by have:=size_pos<|V x;omega|k+1,x,hz,hx=>by
  have⟨h1,h2⟩:=hF x hx;have e:=hV x x<|.here h1
  cases hs:str x with
  |none=>rw[hs]at h2 e;rw[h2,e]|some q=>
   obtain⟨c,l⟩:=q;rw[hs]at h2 e;have e:V x=.aJ c (l.map V):=e;obtain⟨sd,a1,a2,a3⟩:=h2;rw[a3,e];congr 1;refine(AW a1 λp y hp hy r=>?_).symm;have lJ:V p=V y:=by rw[hV p y r,hV y y<|.here (hF y<|a2 y hy).1]
   rw[lJ];refine(SF (ds:=ds) hF hV k y ?_<|a2 y hy).symm;have:=jH (c:=c) (U:=V) hp;rw[<-e,lJ]at this;omega
def ad7{nx}(g:JG ds str nx vr)(hV:Can str nx vr V):jc str nx vr (λh=>h∈ds/\nx h=none) V:=λh hh=>by
 refine⟨hh.2,?_⟩;have e:=hV h h<|.here hh.2
 cases hs:str h with
 |none=>rw[hs]at e;exact e|some q=>
  obtain⟨c,l⟩:=q;rw[hs]at e;have e:V h=.aJ c (l.map V):=e;have hp:=g.VW h c l hh.1 hs;have:∀l:List Nat,(∀p,p∈l->p∈ds)->∃hs,eB (Hd nx) l hs/\(∀x,x∈hs->x∈ds/\nx x=none)/\l.map V=hs.map V:=by
   intro l
   induction l with
   |nil=>exact λ_=>⟨[],.nil,ag,rfl⟩|cons p l ih=>
    intro hl;have⟨y,hy⟩:=g.Oz p;have⟨hs,h1,h2,h3⟩:=ih λq hq=>hl q (by simp[hq]);refine⟨y::hs,.cons hy h1,λx hx=>?_,?_⟩
    .obtain e|e:=List.mem_cons.1 hx
     .subst e;exact⟨g.jN p _ (hl p ag) hy,hy.head⟩
     .exact h2 x e
    .simp only[jt,h3];rw[show V p=V y from by rw[hV p y hy,hV y y<|.here hy.head]]
  have⟨sd,h1,h2,h3⟩:=this l hp;exact⟨sd,h1,h2,by rw[e,h3]⟩
end
abbrev guJ(f:Fl)(vl vr:Value):Value:=.iface 516<|.agg #[Nv f.kind,Nv f.al,Nv f.to,vl,vr]
abbrev Np(f:Fl)(vl vr:Value):Ending:=.panicked [{v:=guJ f vl vr,recovered:=false}]
section
variable {g:fW} {s:qi}
def JS.lt(h:JS w g s){n}(hn:n∈g.ds):n<w.heap.size:=(h.gl.nd n hn).lt
def GL.af{nx}{lv}(h:GL w ds str nx vr ly lv)(hb:Bq w w'):GL w' ds str nx vr ly lv:=h.move hb.size λb i v hc=>hb.block b<|eY hc
def JS.af(h:JS w g s)(hb:Bq w w'):JS w' g s:=⟨h.gl.af hb,h.mF,h.inj,h.can,h.lc,h.val,h.use,h.ok⟩
def ad8(h:JS w g s)(hn:n∈g.ds):Cq 57 #[nA n,Iv 48] w (λe w'=>e=.returned (.tuple #[.int .i64 ((min (size<|g.V n) 49:Nat):Int),.bool true])/\∃bi,iD g.str g.nx bi/\JS w' {g with nx:=bi} s/\Fr (λb=>b∈g.ds) w w'):=by
 refine(o5 h.gl hn).mono ?_;rintro e w'⟨bi,G,E,F,⟨Fs,VF,x,rfl,hd,hx,hF,_⟩|⟨_,mE⟩⟩
 .have js:=h.eqv E G;have e1:=SF (ds:=g.ds) hF js.can _ x (br _) hx;have e2:g.V n=g.V x:=by rw[h.can n x hd,h.can x x<|.here hd.head]
  refine⟨by rw[e1,e2],bi,E,js,F⟩
 .exact absurd (h.can.kL h.jg) (mE _)
def qY(h:JS w g s)(hn:n∈g.ds)f t:Cq 378 #[nA n,.agg #[Nv f,Nv t]] w (λe w'=>(∃bi,iD g.str g.nx bi/\JS w' {g with nx:=bi} s)/\Fr (λb=>b∈g.ds) w w'/\((size (g.V n)<=48/\e=.returned (.tuple #[]))\/(48<size (g.V n)/\e=Np ⟨7,f,t⟩ .nilIface .nilIface))):=by
 have⟨k0,B0⟩:=nK w #[Nv f,Nv t] 131;have HS:=ad8 (h.af k0) hn;have hz:¬w.heap.size∈g.ds:=λq=>by have:=h.lt q;omega
 have K0:=ai k0;go_enter func378,ntmps378;go_wp2_with fail;refine HS.mono ?_;rintro e w1⟨rfl,dP,EE,JJ,F1⟩;have HF:=(Fr.of K0).trans F1;by_cases hb:48<size (g.V n)
 .have hm:(48:Int)<((min (size<|g.V n) 49:Nat):Int):=ae;obtain⟨M,hM⟩:∃M:Int,M=((min (size<|g.V n) 49:Nat):Int):=⟨_,rfl⟩;rw[<-hM]at hm⊢;have HT:=mM (w:=w1) (f:Int) (t:Int);have⟨c1,c2,c3⟩:=B0.fr F1 hz;go_wp2_with fail;refine HT.mono ?_;rintro e w2⟨rfl,K2⟩
  go_wp2
  exact⟨rfl,⟨dP,EE,JJ.af K2⟩,HF.trans<|xf K2,jy ⟨hb,rfl⟩⟩
 .have hm:¬(48:Int)<((min (size<|g.V n) 49:Nat):Int):=ae;obtain⟨M,hM⟩:∃M:Int,M=((min (size<|g.V n) 49:Nat):Int):=⟨_,rfl⟩;rw[<-hM]at hm⊢
  go_wp2
  go_end0;exact⟨⟨dP,EE,JJ⟩,HF,jz ⟨ae,rfl⟩⟩
def yq(h:JS w g s)(hn:n∈g.ds):Cq 58 #[nA n] w (λe w'=>∃tu xu bi,e=.returned (.iface tu xu)/\dB w' (λb=>w.heap.size<=b) (g.V n) (.iface tu xu)/\iD g.str g.nx bi/\JS w' {g with nx:=bi} s/\Fr (λb=>b∈g.ds) w w'):=by
 have⟨x,hx⟩:=h.jg.Oz n;refine(FE _ w g.nx n x h.gl (ad7 h.jg h.can) hn hx ⟨h.jg.jN n x hn hx,hx.head⟩<|br _).mono ?_;rintro e w'⟨u,bi,rfl,hu,G,E,F⟩;obtain⟨tu,xu,rfl⟩:=hu.iface;exact⟨tu,xu,bi,rfl,by rw[show g.V n=g.V x from by rw[h.can n x hx,h.can x x<|.here hx.head]];exact hu,E,h.eqv E G,F⟩
def JR.post{nx}(h:JR str nx dP a b true)(e:iD str dP oH):JR str nx oH a b true:=
 ⟨λP E q=>h.eqs P E<|e.eqs P E q,λ_=>⟨λV=>(e.kL V).trans<|(h.yes rfl).1 V,λP q=>e.mF P<|(h.yes rfl).2.1 P q,λP E q=>(h.yes rfl).2.2 P E<|e.eqs P E q⟩,λq=>lI⟩
def JS.join(h:JS w g s)(hg:GL w' g.ds g.str bi g.vr g.ly cq)(jr:JR g.str g.nx bi a b true)(lr:wO g.str g.ds g.nx g.lv bi cq)(hF:jc g.str bi g.vr F VF)(hx:Hd bi a x)(hFx:F x)(ha:a∈g.ds)(hb:b∈g.ds){ta tb}(ea:g.V a=sub s.k ta)(eb:g.V b=sub s.k tb)(za:size (g.V a)<=48)(zb:size (g.V b)<=48)f t:
 ∃V' s',JS w' {g with nx:=bi,lv:=cq,V:=V'} s'/\(∀L,iI L g s {g with nx:=bi,lv:=cq,V:=V'} s')/\ql ta tb f t s (.ok ((),s'))/\s'.u=s.u:=by
 have hc':=(jr.yes rfl).2.1 [] h.mF;have g':=hg.jg hc' h.inj;have⟨V',θ,jw⟩:=aba h.jg h.can g' jr lr hF hx hFx ha hb;have tin:∀{n:Nat}{T:Ty},n∈g.ds->g.V n=sub s.k T->In.gH (λ_=>True) s (sub s.k T):=λhn e=>⟨λv o=>by rw[<-e]at o;have⟨y,r⟩:=h.Cj hn o;exact(h.root r).1,λ_ _=>trivial⟩;have he:∀{ta tb:Ty},g.V a=sub s.k ta->g.V b=sub s.k tb->ql ta tb f t s (.ok ((),⟨λv=>sub θ<|s.k v,s.u⟩)):=λea eb=>jy ⟨by rw[<-ea];exact za,by rw[<-eb];exact zb,jz ⟨θ,by rw[<-ea,<-eb];exact jw.mgu,rfl⟩⟩;have ok':=(In.gZ (Λ:=λ_=>True) h.ok (λ_ _=>trivial) (tin ha ea) (tin hb eb) f t _ _<|he (by rw[h.ok.vY,ea])<|by rw[h.ok.vY,eb]).1.ok;have js:JS w' {g with nx:=bi,lv:=cq,V:=V'} ⟨λv=>sub θ<|s.k v,s.u⟩:=
  ⟨hg,hc',h.inj,jw.can,lr.lc h.lc,λn hn hs=>by show V' n=sub θ (s.k<|g.vr n);rw[jw.val n hn,h.val n hn hs],h.use,ok'⟩
 have hr:∀v y,g.R v y->sub θ (s.k v)=θ v:=λv y r=>by rw[(h.root r).2];rfl
 refine⟨V',⟨λv=>sub θ<|s.k v,s.u⟩,js,λL=>⟨λn hn=>⟨hn,rfl,rfl⟩,λn hn=>?_,λi _ w=>?_⟩,he ea eb,rfl⟩
 .show V' n=sub (λv=>sub θ<|s.k v) (g.V n);rw[jw.val n hn];refine sub_congr _ λv o=>?_;have⟨y,r⟩:=h.Cj hn o;exact(hr v y r).symm
 .show Lo g.ds g.str bi g.vr cq i w↔_;rw[abb h.jg h.can g' lr h.lc jw i w];constructor
  .rintro⟨v,⟨y,r,ly⟩,o⟩;exact⟨v,⟨y,r,ly⟩,by show aD w (sub θ<|s.k v);rw[hr v y r];exact o⟩
  .rintro⟨v,⟨y,r,ly⟩,o⟩;have o:aD w (sub θ<|s.k v):=o;rw[hr v y r]at o;exact⟨v,⟨y,r,ly⟩,o⟩
def JS.apart(h:JS w g s)(hn:∀W,kK g.str g.nx W->W a≠W b)σ:sub σ (g.V a)≠sub σ (g.V b):=by
 have sV:=h.can.kL h.jg;exact hn (λn=>sub σ<|g.V n) ⟨λn c l hs=>by rw[sV.made n c l hs];simp only[sub];rw[fG],λn m e=>by rw[sV.bA n m e]⟩
def ad9{nx}{lv}(G:GL w ds str nx vr ly lv)(hn:n∈ds):Cq 396 #[nA n] w (λe w'=>∃ok bi,e=.returned (.bool ok)/\GL w' ds str bi vr ly lv/\iD str nx bi/\Fr (λb=>b∈ds) w w'/\(ok=true->∃F V x,Hd nx n x/\F x/\jc str bi vr F V)/\(ok=false->∀W,¬kK str nx W)):=by
 have HS:=o5 G hn;go_enter func396,ntmps396;go_wp2_with fail;refine HS.mono ?_;rintro e w1⟨dP,G1,E1,F1,⟨F,V,x,rfl,h1,h2,h3,_⟩|⟨rfl,mE⟩⟩
 .have HX:=show∃ok bi,Rv (.bool true)=Rv (.bool ok)/\GL w1 ds str bi vr ly lv/\iD str nx bi/\Fr (λb=>b∈ds) w w1/\(ok=true->∃F V x,Hd nx n x/\F x/\jc str bi vr F V)/\(ok=false->∀W,¬kK str nx W)from⟨true,dP,rfl,G1,E1,F1,λ_=>⟨F,V,x,h1,h2,h3⟩,λq=>lI⟩;obtain⟨M,hM⟩:∃M:Int,M=((min (size<|V x) 49:Nat):Int):=⟨_,rfl⟩;rw[<-hM]
  go_wp2
  go_ret;exact HX
 .have HX:=show∃ok bi,Rv (.bool false)=Rv (.bool ok)/\GL w1 ds str bi vr ly lv/\iD str nx bi/\Fr (λb=>b∈ds) w w1/\(ok=true->∃F V x,Hd nx n x/\F x/\jc str bi vr F V)/\(ok=false->∀W,¬kK str nx W)from⟨false,dP,rfl,G1,E1,F1,(λq=>lI),λ_=>mE⟩
  go_wp2
  go_ret;exact HX
def tI g(s:qi)a b x y f t w e w':=Fr (λb=>b∈g.ds) w w'/\
 ((e=.returned (.tuple #[])/\∃bi cq V' s',JS w' {g with nx:=bi,lv:=cq,V:=V'} s'/\(∀L,iI L g s {g with nx:=bi,lv:=cq,V:=V'} s')/\ql x y f t s (.ok ((),s'))/\s'.u=s.u/\(∀m,m∈g.ds->∀h h',Hd g.nx m h->Hd bi m h'->cq h'<=g.lv h)/\tH g.str g.ds g.nx g.lv bi cq a b)\/
  (∃z vl vr,e=Np z.f vl vr/\ql x y f t s (.error z)/\qO w' (λb=>w.heap.size<=b) z vl vr))
def YY(h:JS w g s)(ha:a∈g.ds)(hb:b∈g.ds){x y}(ea:g.V a=sub s.k x)(eb:g.V b=sub s.k y)f t:
 Cq 384 #[nA a,nA b,.agg #[Nv f,Nv t]] w (tI g s a b x y f t w):=by
 have⟨k0,B0⟩:=sf w #[Nv f,Nv t] 131;have H1:=qY (h.af k0) ha f t;have hz:¬w.heap.size∈g.ds:=λq=>by have:=h.lt q;omega
 have LT:∀n,n∈g.ds->n<w.heap.size:=λn q=>h.lt q;have K0:=ai k0;have⟨c1,c2,c3⟩:=uh B0;go_enter func384,ntmps384;go_wp2_with fail;refine H1.mono ?_;rintro e w1⟨⟨dP,E1',J1⟩,F1,hs1⟩;have akh:=(Fr.of K0).trans F1;obtain⟨hza,rfl⟩|⟨hza,rfl⟩:=hs1.symm
 .have HX:=show tI g s a b x y f t w (Np ⟨7,f,t⟩ Zv Zv) w1 from⟨akh,jy ⟨In.rK f t,Zv,Zv,rfl,jz ⟨jz (by rw[<-ea];exact hza),rfl⟩,⟨λ_=>⟨rfl,rfl⟩,(λq=>lI),jy rfl⟩⟩⟩
  go_wp2
  exact⟨rfl,HX⟩
 have B1:=ai<|B0.fr F1 hz;have⟨c1,c2,c3⟩:=uh B1;have H2:=qY J1 hb f t;go_wp2_with fail;refine H2.mono ?_;rintro e w2⟨⟨oH,E2,J2⟩,F2,sd⟩;have ahQ:=akh.trans F2;obtain⟨hzb,rfl⟩|⟨hzb,rfl⟩:=sd.symm
 .have HX:=show tI g s a b x y f t w (Np ⟨7,f,t⟩ Zv Zv) w2 from⟨ahQ,jy ⟨In.rK f t,Zv,Zv,rfl,jz ⟨jy (by rw[<-eb];exact hzb),rfl⟩,⟨λ_=>⟨rfl,rfl⟩,(λq=>lI),jy rfl⟩⟩⟩
  go_wp2
  exact⟨rfl,HX⟩
 have B2:=B1.fr F2 hz;have H3:=yq J2 ha;have E2':=E1'.trans E2;have z2:=ahQ.size;go_wp2_with fail;refine H3.mono ?_;rintro e w3⟨tl3,xl3,nx3,rfl,T3,E3,J3,F3⟩;have H4:=yq J3 hb;have B3:=B2.fr F3 hz;have agq:=ahQ.trans F3;have E3':=E2'.trans E3;have z3:=F3.size;go_wp2_with fail;refine H4.mono ?_;rintro e w4⟨tl4,xl4,AV,rfl,T4,E4,J4',F4⟩;have H5:=OE _ w4 AV g.lv J4'.gl (br _) a b ha hb;have B4:=B3.fr F4 hz;have alK:=agq.trans F4;have ahR:=E3'.trans E4;have z4:=F4.size;have xK:∀b:Nat,w.heap.size<=b->¬b∈g.ds:=λb hb q=>by have:=LT b q;omega
 have T3':=T3.fr F4 (λb p _=>xK b (by have:w2.heap.size<=b:=p;omega));go_wp2_with fail;refine H5.mono ?_;rintro e w5⟨ok,Mx,lv5,rfl,G5',F5,z5,_,JR5,lr5⟩;have APX:∀(W:World)(vl:TypeId)(xl:Value)(vr:TypeId)(xr:Value),Fr (λb=>b∈g.ds) w W->dB W (λb=>w.heap.size<=b) (g.V a) (Fv vl xl)->dB W (λb=>w.heap.size<=b) (g.V b) (Fv vr xr)->(∀σ,sub σ (g.V a)≠sub σ (g.V b))->tI g s a b x y f t w (Np ⟨6,f,t⟩ (Fv vl xl)<|Fv vr xr) W:=λW vl xl vr xr hF h1 h2 h3=>
  ⟨hF,jy ⟨⟨⟨6,f,t⟩,g.V a,g.V b⟩,_,_,rfl,jy ⟨by rw[<-ea];exact hza,by rw[<-eb];exact hzb,jy ⟨by rw[<-ea,<-eb];exact h3,by rw[<-ea,<-eb]⟩⟩,⟨(λq=>lI),λ_=>⟨h1,h2⟩,jz rfl⟩⟩⟩
 have T35:=(T3'.fr F5<|λb p _=>xK b (by have:w2.heap.size<=b:=p;omega)).wide (Q:=λb=>w.heap.size<=b) λb p=>by have:w2.heap.size<=b:=p;omega
 have T45:=(T4.fr F5<|λb p _=>xK b (by have:w3.heap.size<=b:=p;omega)).wide (Q:=λb=>w.heap.size<=b) λb p=>by have:w3.heap.size<=b:=p;omega
 have ahS:=alK.trans F5;have B5:=B4.fr F5 hz
 cases ok with
 |false=>
  have hap:∀σ,sub σ (g.V a)≠sub σ (g.V b):=λσ=>J4'.apart (g:={g with nx:=AV}) (JR5.no rfl) σ;obtain⟨c1,c2,c3⟩:=B5;have HA:=DW (w:=w5) (f:Int) (t:Int) tl3 tl4 xl3 xl4;go_wp2_with fail;refine HA.mono ?_;rintro e w6⟨rfl,k6⟩;have HX:=APX w6 tl3 xl3 tl4 xl4 (ahS.trans<|xf k6) (T35.af k6) (T45.af k6) hap
  go_wp2
  exact⟨rfl,HX⟩
 |true=>
  have H6:=ad9 G5' ha;have LR5:=lr5 rfl;go_wp2_with fail;refine H6.mono ?_;rintro e w6⟨ok6,nx6,rfl,G6,E6,F6,hy,hn⟩
  cases ok6 with
  |false=>
   have hap:∀σ,sub σ (g.V a)≠sub σ (g.V b):=λσ eσ=>by
    have j4:=J4';have sV:=j4.can.kL j4.jg;exact hn rfl (λn=>sub σ<|g.V n) (((JR5.yes rfl).1 _).2 ⟨⟨λn c l hs=>by rw[sV.made n c l hs];simp only[sub];rw[fG],λn m e=>by rw[sV.bA n m e]⟩,eσ⟩)
   have⟨c1,c2,c3⟩:=B5.fr F6 hz;have HA:=DW (w:=w6) (f:Int) (t:Int) tl3 tl4 xl3 xl4;have T36:=T35.fr F6<|λb p _=>xK b p;have T46:=T45.fr F6<|λb p _=>xK b p;have alL:=ahS.trans F6;go_wp2_with fail;refine HA.mono ?_;rintro e w7⟨rfl,k7⟩;have HX:=APX w7 tl3 xl3 tl4 xl4 (alL.trans<|xf k7) (T36.af k7) (T46.af k7) hap
   go_wp2
   exact⟨rfl,HX⟩
  |true=>
   have⟨FF,VF,z,q1,q2,q3⟩:=hy rfl;have j4:=J4';have hjr:=JR5.post E6;have g5:=G5';have hlr:=LR5.1.trans (wO.eqv g5 E6) g5.hd<|λU q=>(E6.kL U).1 q;have⟨V',s',js,st,he,hu⟩:=j4.join (x:=z) G6 hjr hlr q3 (E6.jN _ _ q1) q2 ha hb ea eb hza hzb f t;have HX:=show tI g s a b x y f t w (Rv<|.tuple #[]) w6 from⟨ahS.trans F6,jz ⟨rfl,nx6,lv5,V',s',js,λL=>iI.trans h j4 js (iI.eqv h ahR j4.gl L)<|st L,he,hu,λm hm p p' k k'=>hlr.mono m hm p p' (ahR.jN _ _ k) k',(LR5.2.post g5 E6).pre h.gl ahR⟩⟩
   go_wp2
   go_end0;exact HX
end
section
variable {g:fW} {s:qi}
def GL.add{ds}{str}{nx}{vr}{ly}{lv}(h:GL w ds str nx vr ly lv)(hw:Bq w w'){n:Nat}(hn:w.heap.size<=n)s v a l(hh:w'.heap[n]? =some (.cells #[.pointer none,Nv l,Nv v,.string<|byS s,.slice a.1 (slN s) a.2] 187 (0,0)))(hp:eW w' (n::ds) a.1 s):
 GL w' (n::ds) (ja str n s) nx (ja vr n v) (ja ly n a) (ja lv n l):=by
 have hb:∀b i v,w.cell? ⟨b,i,none⟩=some v->w'.heap[b]? =w.heap[b]? :=λb i v hc=>hw.block b<|eY hc;have nd:¬n∈ds:=λq=>by have:=(h.nd n q).lt;omega
 have nn:=(h.out n nd).1;refine⟨λx hx=>?_,λx hx=>?_,λx hx=>?_⟩
 .by_cases e:x=n
  .subst e;refine⟨by simpa[ja,nP,nn]using hh,by simpa[ja]using hp,λm hm=>by rw[nn]at hm;cases hm⟩
  .have uk:=(List.mem_cons.1 hx).resolve_left e;have hc:=(h.nd x uk).cells.1;have⟨h1,h2,h3⟩:=h.nd x uk;refine⟨?_,?_,λm hm=>jk _<|h3 m hm⟩
   .rw[hb x 0 _ hc,h1];simp[ja,e]
   .simp only[ja,e,if_false];exact(h2.more hn).move hw.size hb
 .have uk:x≠n/\¬x∈ds:=⟨λe=>hx Mm,λe=>hx Mm⟩;exact⟨(h.out x uk.2).1,by simpa[ja,uk.1]using(h.out x uk.2).2⟩
 .by_cases e:x=n
  .subst e;exact⟨x,.here nn⟩
  .exact h.hd x ((List.mem_cons.1 hx).resolve_left e)
abbrev fW.add(g:fW)(n:Nat)(q:Option (BA×List Nat))(v:Nat)(a:Option Addr×Nat)(l:Nat)(T:Ty):fW:=⟨n::g.ds,ja g.str n q,g.nx,ja g.vr n v,ja g.ly n a,ja g.lv n l,ja g.V n T⟩
def JS.SG(h:JS w g s)(nd:¬n∈g.ds)q:rL (ja g.str n q) g.nx []:=λE hE x m c l e hs=>by
 have hx:=Classical.byContradiction λz=>by rw[(h.gl.out x z).1]at e;cases e
 have hm:=(h.gl.nd x hx).2.2 m e;have e1:x≠n:=λz=>nd<|z▸hx;have e2:m≠n:=λz=>nd<|z▸hm;simp only[ja,e1,if_false]at hs;have⟨l',h1,h2⟩:=h.mF E hE x m c l e hs;exact⟨l',by simp only[ja,e2,if_false];exact h1,h2⟩
def JS.SH(h:JS w g s)(nd:¬n∈g.ds){v:Nat}{T:Ty}(hT:T=match q with|none=>.var v|some (c,l)=>.aJ c<|l.map g.V)(hq:∀c l,q=some (c,l)->∀p,p∈l->p∈g.ds):Can (ja g.str n q) g.nx (ja g.vr n v) (ja g.V n T):=λx y k=>by
 have nn:=(h.gl.out n nd).1;have lm:∀l:List Nat,(∀p,p∈l->p∈g.ds)->l.map (ja g.V n T)=l.map g.V:=λl hl=>dD λp hp=>by
  have:p≠n:=λe=>nd<|e▸hl p hp;simp[ja,this]
 by_cases hx:x∈g.ds
 .have hy:=h.gl.bI hx k;have e1:x≠n:=λz=>nd<|z▸hx;have e2:y≠n:=λz=>nd<|z▸hy;simp only[ja,e1,e2,if_false];have:=h.can x y k;rw[this]
  cases hs:g.str y with
  |none=>rfl|some p=>
   obtain⟨c,l⟩:=p;show xd c (l.map g.V)=xd c (l.map<|ja g.V n T);rw[lm l (h.gl.part hy hs).2]
 .have e0:=(h.gl.out x hx).1;have ey:=k.one<|.here e0;subst ey;by_cases e:y=n
  .subst e;simp only[ja,if_true];rw[hT]
   cases q with
   |none=>rfl|some p=>
    obtain⟨c,l⟩:=p;show xd c (l.map g.V)=xd c (l.map<|ja g.V y _);rw[<-hT,lm l<|hq c l rfl]
  .simp only[ja,e,if_false];have:=h.can y y k;rw[(h.gl.out y hx).2]at this⊢;exact this
def JS.abd(h:JS w g s)(nd:¬n∈g.ds){L:Nat}(hq:∀c l,q=some (c,l)->∀p,p∈l->p∈g.ds/\∀x,Hd g.nx p x->g.lv x<=L):LC (ja g.str n q) (n::g.ds) g.nx (ja g.lv n L):=λa ha hn c l hs p hp x k=>by
 by_cases e:a=n
 .subst e;simp only[ja,if_true]at hs;have⟨h1,h2⟩:=hq c l hs p hp;have e2:x≠a:=λz=>nd<|z▸h.gl.bI h1 k;simp only[ja,e2,if_false,if_true];exact h2 x k
 .have ha':=(List.mem_cons.1 ha).resolve_left e;simp only[ja,e,if_false]at hs;have e2:x≠n:=λz=>nd<|z▸h.gl.bI ((h.gl.part ha' hs).2 p hp) k;simp only[ja,e,e2,if_false];exact h.lc a ha' hn c l hs p hp x k
def iI.add(h:JS w g s){n:Nat}(nd:¬n∈g.ds){q:Option (BA×List Nat)}{v:Nat}{a:Option Addr×Nat}{l L:Nat}{T:Ty}{s1}(hk:s1.k=s.k)(hl:q=none->L<=l):iI L g s (g.add n q v a l T) s1:=by
 have r:=iI.refl h L;have ne:∀m,m∈g.ds->m≠n:=λm hm e=>nd<|e▸hm;refine⟨λm hm=>⟨jk _ hm,by simp[ja,ne m hm],by simp[ja,ne m hm]⟩,λm hm=>?_,λi hi x=>?_⟩
 .rw[hk,<-r.val m hm];simp[ja,ne m hm]
 .rw[hk,<-r.TN i hi x];constructor
  .rintro⟨y,⟨q1,q2,q3,q4⟩,q5⟩;by_cases e:y=n
   .subst e;simp only[ja,if_true]at q3 q5;have:=hl q3;omega
   .have q1':=(List.mem_cons.1 q1).resolve_left e;simp only[ja,e,if_false]at q3 q4 q5;exact⟨y,⟨q1',q2,q3,q4⟩,q5⟩
  .rintro⟨y,⟨q1,q2,q3,q4⟩,q5⟩;have e:=ne y q1;exact⟨y,⟨jk _ q1,q2,by simpa[ja,e]using q3,by simpa[ja,e]using q4⟩,by simpa[ja,e]using q5⟩
def SI{p:Prop}(h:p:=by
 simp only[ja,e1,e2,if_false]at e sa sb
 exact h.inj a b ((List.mem_cons.1 ha).resolve_left e1) ((List.mem_cons.1 hb).resolve_left e2) sa sb e):p:=h
def K_{p:Prop}(h:p:=by
 simpa[ja,e]using h.val m ((List.mem_cons.1 hm).resolve_left e) (by simpa[ja,e]using hs)):p:=h
def JS.var(h:JS w g s)(hw:Bq w w'){v l:Nat}(hn:w.heap.size<=n)(hv:¬s.u v)(hh:w'.heap[n]? =some (.cells #[.pointer none,Nv l,Nv v,.string ⟨#[]⟩,.slice none 0 0] 187 (0,0))):
 JS w' (g.add n none v (none,0) l<|.var v) ⟨s.k,λm=>s.u m\/m=v⟩:=by
 have nd:¬n∈g.ds:=λq=>by have:=h.lt q;omega
 have ne:∀m,m∈g.ds->m≠n:=λm hm e=>nd<|e▸hm;refine⟨h.gl.add hw hn none v (none,0) l hh trivial,h.SG nd none,λa b ha hb sa sb e=>?_,h.SH nd rfl (λc l q=>lI),h.abd nd<|λc l q=>lI,λm hm hs=>?_,λm hm hs=>?_,(In.kV (Λ:=λ_=>True) h.ok (λ_ _=>trivial) _ _ ⟨v,hv,rfl⟩).1.ok⟩
 .by_cases e1:a=n<;>by_cases e2:b=n
  .rw[e1,e2]
  .exfalso;have Ym:=(List.mem_cons.1 hb).resolve_left e2;simp only[ja,e1,e2,if_false,if_true]at e sb;exact hv (by rw[e];exact h.use b Ym sb)
  .exfalso;have ha':=(List.mem_cons.1 ha).resolve_left e1;simp only[ja,e1,e2,if_false,if_true]at e sa;exact hv (by rw[<-e];exact h.use a ha' sa)
  .exact SI
 .by_cases e:m=n
  .subst e;simp[ja,h.ok.out v hv]
  .exact K_
 .by_cases e:m=n
  .subst e;simp[ja]
  .have Ol:=(List.mem_cons.1 hm).resolve_left e;simp only[ja,e,if_false]at hs⊢;exact jz<|h.use m Ol hs
def JS.aau(h:JS w g s)(hw:Bq w w'){l:Nat}{a:Option Addr×Nat}(hn:w.heap.size<=n)(hc:CN c)(hl:ps.length<=1001)(hp:∀p,p∈ps->p∈g.ds/\∀x,Hd g.nx p x->g.lv x<=l)(yK:ps=[]\/∃gg,a.1=some ⟨gg,0,none⟩/\¬gg∈n::g.ds/\gg<w'.heap.size/\∀i(h:i<ps.length),w'.cell? ⟨gg,i,none⟩=some (nA ps[i]))(hh:w'.heap[n]? =some (.cells #[.pointer none,Nv l,Iv 0,.string<|pn c,.slice a.1 ps.length a.2] 187 (0,0))):
 JS w' (g.add n (some (c,ps)) 0 a l<|.aJ c<|ps.map g.V) s:=by
 have nd:¬n∈g.ds:=λq=>by have:=h.lt q;omega
 have ne:∀m,m∈g.ds->m≠n:=λm hm e=>nd<|e▸hm;refine⟨h.gl.add hw hn (some (c,ps)) 0 a l hh ⟨hc,hl,λm hm=>jk _ (hp m hm).1,yK⟩,h.SG nd _,λa b ha hb sa sb e=>?_,h.SH nd rfl (λc' l' q=>by injection q with q;injection q with _ q;subst q;exact λp hq=>(hp p hq).1),h.abd nd (λc' l' q=>by injection q with q;injection q with _ q;subst q;exact hp),λm hm hs=>?_,λm hm hs=>?_,h.ok⟩
 .have e1:a≠n:=λz=>by subst z;simp[ja]at sa
  have e2:b≠n:=λz=>by subst z;simp[ja]at sb
  exact SI
 .have e:m≠n:=λz=>by subst z;simp[ja]at hs
  exact K_
 .have e:m≠n:=λz=>by subst z;simp[ja]at hs
  simp only[ja,e,if_false]at hs⊢;exact h.use m ((List.mem_cons.1 hm).resolve_left e) hs
def JS.made(h:JS w g s)(hw:Bq w w'){l:Nat}{a:Option Addr×Nat}(hn:w.heap.size<=n)(hc:CN c)(hl:ps.length<=1001)(hp:∀p,p∈ps->p∈g.ds/\∀x,Hd g.nx p x->g.lv x<=l)(hr:ps=[]\/∃gg,a.1=some ⟨gg,0,none⟩/\w.heap.size<=gg/\gg≠n/\gg<w'.heap.size/\∀i(h:i<ps.length),w'.cell? ⟨gg,i,none⟩=some (nA ps[i]))(hh:w'.heap[n]? =some (.cells #[.pointer none,Nv l,Iv 0,.string<|pn c,.slice a.1 ps.length a.2] 187 (0,0))):
 JS w' (g.add n (some (c,ps)) 0 a l<|.aJ c<|ps.map g.V) s:=by
 refine h.aau hw hn hc hl hp (hr.imp id λ⟨gg,q1,q2,q3,q4,q5⟩=>⟨gg,q1,λz=>?_,q4,q5⟩) hh;obtain z|z:=List.mem_cons.1 z
 .exact q3 z
 .have:=h.lt z;omega
end
end
end Go.Proofs.YtfnkchdeheeiiaaGreatDoor
