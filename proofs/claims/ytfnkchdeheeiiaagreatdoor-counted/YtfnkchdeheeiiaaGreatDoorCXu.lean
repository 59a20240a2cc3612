import Derived.Test.YtfnkchdeheeiiaaGreatDoorCVd
import Derived.Test.YtfnkchdeheeiiaaGreatDoorCXo
import Derived.Test.YtfnkchdeheeiiaaGreatDoorCXk
set_option linter.all false
set_option maxRecDepth 100000
set_option maxHeartbeats 4000000
namespace Go.Proofs.YtfnkchdeheeiiaaGreatDoor
open Un renaming dQ->ja,Fin->jc
open Pu renaming bC->jd,Tok->jf
open _root_.List renaming getElem_mem->jh,take_succ_eq_append_getElem->ji,mem_cons_of_mem->jj,map_cons->jk,map_congr_left->jl,take_length->jm,countP_cons->jo
open Or renaming inl->jp,inr->jq
open _root_.Nat renaming le_trans->jt,zero_le->ju,not_lt_zero->jv
open Classical renaming byContradiction->jx
open Go.World renaming setCell->jy,cell?_of_block->jz,frozen?->j3
open Go.Proofs.Tryz renaming prog->j5,underlying233->j6,underlying188->j7
open Bool renaming not_eq_true->j8
open Un.Ty renaming aH->j9
open In renaming St->qc,bZ->qd,p_->qe
open Go Go.RowKit Go.ChangeMaps Proofs.Tryz
variable {c:BA} {s:qc} {ds l ps:List Nat} {T:List jf} {expr uk:M Nd} {N a b h h' k kb m mb n p rb sb v x y:Nat} {cq qE lF vr:Nat->Nat} {ly:Nat->Option Addr×Nat} {D F Q:Nat->Prop} {U V VF θ:Nat->Un.Ty} {G:Ns} {q:Option (BA×List Nat)} {ba eI pw:Un.Nx} {str:Un.vB} {A B:Un.Ty} {va vb:Value} {w w':World}
def lG{α β γ:Type}m(f:α->M β)(g:β->M γ):aM (aM m f) g=aM m λa=>aM (f a) g:=by grind[aM]
def Ly(T:List jf)(uk expr:M Nd):M (Nd×Nd):=aM uk λp=>aM (bt T pE) λ_=>aM expr λe k=>.ok ((p,e),k)
def ahn w P(a:Nd×Nd)(v:Value):=∃(u1 u2:Int)(vp ve:Value),v=.agg #[Iv u1,Iv u2,vp,ve]/\PP w P a.1 vp/\PE w P a.2 ve
section
def Bx.aho{C}(h:Bx w b C)(hC:C.size=4)v0 v1 v2 v3:Bx ((((w.setCell ⟨b,0,none⟩ v0).setCell ⟨b,1,none⟩ v1).setCell ⟨b,2,none⟩ v2).setCell ⟨b,3,none⟩ v3) b #[v0,v1,v2,v3]:=by
 obtain⟨a0,a1,a2,a3,rfl⟩:∃a0 a1 a2 a3,C=#[a0,a1,a2,a3]:=by
  obtain⟨l⟩:=C
  match l,hC with
  |[a,b,c,d],_=>grind
 exact(((h.aO 0 v0 #[v0,a1,a2,a3] rfl ag).aO 1 v1 #[v0,v1,a2,a3] rfl ag).aO 2 v2 #[v0,v1,v2,a3] rfl ag).aO 3 v3 #[v0,v1,v2,v3] rfl ag
variable {m:MV} {s:BA}
def XU{e}(hm:lN e):lN (bindM T e):=λk a k' h=>by
 rw[bindM]at h;split at h
 .have⟨_,k2,h3,h4⟩:=aw h;have⟨_,k3,h5,h6⟩:=aw h4;have⟨_,k4,h7,h8⟩:=aw h6
  cases h8
  have:=eE _ _ _ _ h3;have:=bq _ _ _ _ h5;have:=Df hm _ _ _ h7;omega
 .have⟨_,k2,h3,h4⟩:=aw h;have⟨_,k3,h5,h6⟩:=aw h4;have⟨_,k4,h7,h8⟩:=aw h6
  cases h8
  have:=eE _ _ _ _ h3;have:=bq _ _ _ _ h5;have:=hm _ _ _ h7;omega
def abf(hs:s.size<=1000)(IH:eP s n)(h:SX w N rb sb m s k)(hn:(jd s 0).length<=k+1+n):
 Cq 181 #[rp rb] w (ap PE N rb sb m s (sv (jd s 0) (bP (jd s 0) n) k) w):=by
 have Th:=gK;have VL:=jI;refine cz.xN h rfl λH=>?_;go_enter func181,ntmps181;go_wp2_with fail;refine(H.re<|congrFun (lG _ _ _) _).take ?_;intro w1 H;go_wp2_with fail;refine H.call (Bi hs IH H.sx ae) ?_;intro b k2 v2 w2 H q V;obtain⟨ve,rfl,V,-⟩:=V;obtain⟨te,xe,rfl⟩:=V.iface;clear V;have l2:k+1<k2:=XU (jJ n) _ _ _ q;go_wp2_with fail;refine H.box.take ?_;intro w3 H;go_wp2_with fail;refine H.expr IH ?_;intro c k4 t4 x4 w4 H l4;have⟨⟨_,c1,f1,z1⟩,_⟩:=H.p
 go_wp2
 go_region_with(go_at_call 105;refine H.drew.since ?_;intro w5 H;have⟨⟨_,c1,f1,z1⟩,_⟩:=H.p)
 all_goals(
  go_wp2
  go_ret;refine H.done ?_;rintro⟨⟨⟨_,ve,e,A,B,C,D⟩,_⟩,V⟩
  cases e
  exact .lt _ _ _ _ _ _ _ _ _ _ _ B C D A V)
def acN(hs:s.size<=1000)(IHP:zN s n)(IH:eP s n)(h:SX w N rb sb m s k)(hn:(jd s 0).length<=k+n):
 Cq 251 #[rp rb] w (ap ahn N rb sb m s (Ly (jd s 0) (eh (jd s 0) n) (bP (jd s 0) n) k) w):=by
 have Th:=gK;have VL:=jI;have o:w.heap.size≠rb:=by have:=h.z;omega
 have⟨c0,f0,z0⟩:=h.bx;refine cz.xN h rfl λH=>?_;go_enter func251,ntmps251;go_wp2_with fail;refine H.own.uk IHP ?_;intro a k1 t1 x1 w1 H l1;go_wp2_with fail;refine H.take ?_;intro w2 H;go_wp2_with fail;refine H.expr IH ?_;intro b k3 t3 x3 w3 H l3;go_wp2_with fail;refine H.since ?_;intro w4 H;have⟨c,f,z⟩:=H.bo o;go_wp2_with fail;have B:=(H.bo o).aho rfl (Nv (tk (Pu.bC s 0) k).al) (.int .i64 ((aF (Pu.bC s 0) k3:Nat):Int)) (Fv t1<|Av x1) (Fv t3<|Av x3);obtain⟨cF,fF,zF⟩:=B;exact bodyPost_ret (v:=Av #[Nv (tk (Pu.bC s 0) k).al,.int .i64 ((aF (Pu.bC s 0) k3:Nat):Int),Fv t1<|Av x1,Fv t3<|Av x3]) (by simp[results,Tryz.results251,go_sem,cF]) rfl
  ((H.put o ⟨cF,fF,zF⟩<|cJ<|cJ<|cJ<|cJ ⟨rfl,rfl,rfl,rfl,λ_ _=>rfl⟩).done λ⟨⟨_,A⟩,B⟩=>⟨_,_,_,_,rfl,A,B⟩)
end
def abg:(Tryz.prog.info? 257).map (λi=>(i.zero,i.size,i.bytes))=some (some<|.agg #[Iv 0,Iv 0,.nilIface,.nilIface],4,48):=qkr
def Sc:Tryz.prog.underlying 199=some (.slice 257):=qkr
def jP(T:List jf)uk expr f l:=λk=>if a_ (tk T k) Wd=true then np T uk expr f l (k+1)else .ok (l,k)
def Dq(T:List jf)uk expr f l k:np T uk expr (f+1) l k=aM (Ly T uk expr) (λa=>jP T uk expr f<|l++[a.1,a.2]) k:=by
 rw[Ly];rw[lG];show aM uk _ k=_;congr 1;funext p;rw[lG];congr 1;funext _;rw[lG];rfl
def Bj(hp:aR T uk)(he:aR T expr):aR T (Ly T uk expr):=fq hp λ_=>fq (pL _ _) λ_=>fq he λ_=>Gi _
def fX(T:List jf)uk expr f l:aR T (jP T uk expr f l):=by grind[aR,jP,dY,cO]
def Pn(hp:CQ uk)(he:lN expr):lN (Ly T uk expr):=λk a k' h=>by
 rw[Ly]at h;have⟨_,k1,h1,h2⟩:=aw h;have⟨_,k2,h3,h4⟩:=aw h2;have⟨_,k3,h5,h6⟩:=aw h4
 cases h6
 have:=hp _ _ _ h1;have:=bq _ _ _ _ h3;have:=he _ _ _ h5;omega
def EK A p:aT (A++[p])=aT A++[p.1,p.2]:=by
 induction A with
 |nil=>rfl|cons q l ih=>show q.1::q.2::aT (l++[p])=q.1::q.2::(aT l++_);rw[ih]
def abh:EQ (Nd×Nd):=λw P a c=>(∃u1 u2:Int,c 0=Iv u1/\c 1=Iv u2)/\PP w P a.1 (c 2)/\PE w P a.2 (c 3)
def lH:fO abh:=λ_ _ _ _ _ _ h h1 h2 h3=>⟨h.1,h.2.1.move h1 h2 h3,h.2.2.move h1 h2 h3⟩
def ahp x w P l v:=∃A,A≠[]/\l=x::aT A/\RowV abh 4 w P A v
section
variable {m:MV} {s:BA}
def Po:Mov ahn:=λ_ _ _ _ _ _⟨a,b,c,d,e,f,g⟩p q r=>⟨a,b,c,d,e,f.move p q r,g.move p q r⟩
def Ix(hs:s.size<=1000)(hT:(jd s 0).length<=1001)(IHP:zN s n)(IH:eP s n)(h:SX w N rb sb m s k)(hn:(jd s 0).length<=k+n)x:
 Cq 250 #[rp rb,nM 251 rb] w (ap (ahp x) N rb sb m s (np (jd s 0) (eh (jd s 0) n) (bP (jd s 0) n) (jd s 0).length [x] k) w):=by
 have hcA:∀args w,(callFunc 251 args).run Tryz.prog w=.ok (.enter 251 args) w:=λ_ _=>qkr;have hk:=h.lt;obtain⟨r,hr⟩:∃r,r=np (Pu.bC s 0) (eh (Pu.bC s 0) n) (bP (Pu.bC s 0) n) (Pu.bC s 0).length [x] k:=⟨_,rfl⟩;rw[<-hr];obtain⟨L,hL⟩:∃L,(Pu.bC s 0).length=L+1:=⟨(Pu.bC s 0).length-1,ae⟩;refine cz.xN h (by rw[hr,hL];exact Dq _ _ _ _ _ _) λH=>?_;have HL:=ai hL;clear hr hL;go_enter func250,ntmps250;go_wp2_with fail;refine H.call (acN hs IHP IH h hn) ?_ (st:=λa=>fX _ _ _ _ _) (mv:=Po);intro a k1 v1 w1 H q V;have l1:=Pn (nU (T:=(Pu.bC s 0)) n) (jJ n) _ _ _ q;obtain⟨u1,u2,vp,ve,rfl,P1,E1⟩:=V;obtain⟨tp,xp,rfl⟩:=P1.iface;obtain⟨te,xe,rfl⟩:=E1.iface;have H:=(H.af<|bw _).row lH (dt.one (sz:=4) (et:=257) (lo:=w.heap.size) (c:=λj=>([Iv u1,Iv u2,Fv tp<|Av xp,Fv te<|Av xe]:List Value).getD j Zv) lH ⟨⟨u1,u2,rfl,rfl⟩,P1,E1⟩ (br _) H.ke.size aK #[Iv u1,Iv u2,Fv tp<|Av xp,Fv te<|Av xe] rfl rfl) ⟨br _,.inl rfl⟩;clear P1 E1 q
 go_wp2
 go_loopg[5] ((jd s 0).length-k1) (λgk v wr=>CL (·≠[]) abh 257 4 N rb sb m s (k+1) w r (λf A _=>jP (jd s 0) (eh (jd s 0) n) (bP (jd s 0) n) f (x::aT A)) gk v wr)
 case atStart=>exact⟨k1,[a],L,_,1,0,rfl,ag,H,ai rfl,l1,bQ,by have:=uh HL;omega⟩
 case round=>
  clear H HL;obtain⟨kr,A,f,va,vc,_,rfl,hA,H,c_,hle,hAl,hfu⟩:=hrel;have zw:=H.ke.size;have VU:=H.p.block;have VT:=H.sx.lt
  cases hb:a_ (tk (jd s 0) kr) Wd
  .have H:=H.re (g':=λk=>.ok (x::aT A,k)) (by dsimp only[jP];rw[hb];rfl);go_wp2_with fail;refine H.CI hb ?_
   go_wp2
   go_ret;exact H.done λR=>⟨A,hA,rfl,R.v lH⟩
  .obtain⟨f,rfl⟩:∃f',f=f'+1:=⟨f-1,ae⟩;have H:=H.re (g':=aM pi λ_=>aM (Ly (jd s 0) (eh (jd s 0) n)<|bP (jd s 0) n) λa=>jP (jd s 0) (eh (jd s 0) n) (bP (jd s 0) n) f (x::aT A++[a.1,a.2])) (by dsimp only[jP];rw[if_pos hb,Dq];rfl);go_wp2_with fail;refine H.zO hb ?_ (st:=λ_=>fq (Bj (oJ _)<|mq _) λa=>fX _ _ _ _ _);intro w2 H;go_wp2_with fail;have z2:=H.ke.size;have VU:=H.p.block;refine H.call (acN hs IHP IH H.sx ae) ?_ (st:=λa=>fX _ _ _ _ _) (mv:=Po);intro a k2 v1 w1 H q V;have l2:=Pn (nU (T:=(jd s 0)) n) (jJ n) _ _ _ q;obtain⟨u1,u2,vp,ve,rfl,P1,E1⟩:=V;obtain⟨tp,xp,rfl⟩:=P1.iface;obtain⟨te,xe,rfl⟩:=E1.iface;go_wp2_with(at_builtin;go_must(refine H.append (D:=[Iv u1,Iv u2,Fv tp<|Av xp,Fv te<|Av xe]) hT lH abg Sc H.p.1 z2 (λb e=>(VU b e).2) (c:=λj=>([Iv u1,Iv u2,Fv tp<|Av xp,Fv te<|Av xe]:List Value).getD j Zv) ⟨⟨u1,u2,rfl,rfl⟩,P1,E1⟩ ae ?_;intro q3 c3 w3 H));go_roundg((jd s 0).length-k2)
   case measure=>rw[uh c_];omega
   case rel=>exact⟨k2,A++[a],f,_,c3,0,ag,ag,H.re (by dsimp only;rw[EK];rfl),ai rfl,ae,bQ,ae⟩
end
section
variable {m:MV} {s:BA}
def RowV.mt{lo}{w w0:World}{A}{va}{vc}(h:RowV abh 4 w (λb=>lo<=b) A (.slice va A.length vc))(h0:A≠[])(pC:w0.heap.size<=lo){x}{vx}(hx:PE w (λb=>w0.heap.size<=b) x vx)f t a:
 PE w (λb=>w0.heap.size<=b) (.mk 13 iq 0 (x::aT A) f t a) (.iface 201<|.agg #[Nv f,Nv t,vx,.slice va A.length vc]):=by
 obtain⟨oX,oY,cs,hv,aN,hr⟩:=h
 cases hv
 obtain h1|⟨g,rfl,h2,h3,h4⟩:=aN
 .exact absurd h1 h0
 have wd:∀b,lo<=b->w0.heap.size<=b:=λb p=>jt pC p;refine .mt _ _ x A f t a vx g vc (λi=>cs i 2) (λi=>cs i 3) h0 (wd g h2) h3 (λi hi=>?_) hx (λi hi=>(hr i hi).2.1.wide wd)<|λi hi=>(hr i hi).2.2.wide wd;have⟨u1,u2,e1,e2⟩:=(hr i hi).1;exact⟨⟨u1,u2,by rw[<-e1];exact h4 i hi 0 aK,by rw[<-e2];exact h4 i hi 1 aK⟩,h4 i hi 2 aK,h4 i hi 3 aK⟩
def Kw{n}(hT:0<T.length)x:aR T (np T (eh T n) (bP T n) T.length [x]):=by
 obtain⟨L,hL⟩:∃L,T.length=L+1:=⟨T.length-1,ae⟩;rw[hL];intro k h;rw[Dq];exact bT (Bj (oJ _) (mq _) k h) λ_=>fX _ _ _ _ _
def abj(hs:s.size<=1000)(hT:(jd s 0).length<=1001)(IHP:zN s n)(IH:eP s n)(h:SX w N rb sb m s k)(hn:(jd s 0).length<=k+1+n):
 Cq 183 #[rp rb] w (ap PE N rb sb m s (sH (jd s 0) (eh (jd s 0) n) (bP (jd s 0) n) k) w):=by
 have Th:=gK;have VL:=jI;have hT0:0<(jd s 0).length:=by have:=h.lt;omega
 refine cz.xN h rfl λH=>?_;go_enter func183,ntmps183;go_wp2_with fail;refine H.take ?_;intro w1 H;go_wp2_with fail;refine H.expr IH ?_;intro x k2 t2 x2 w2 H l2;go_wp2_with fail;refine H.take ?_;intro w3 H;go_wp2_with fail;refine H.call (Ix hs hT IHP IH H.sx ae x) ?_ (mv:=λ_ _ _ _ _ _⟨A,a,b,c⟩p q r=>⟨A,a,b,c.move lH p q r⟩);intro l k4 v4 w4 H q V;obtain⟨va,L,vc,rfl⟩:∃va L vc,v4=Lv va L vc:=by obtain⟨_,-,-,_,_,_,rfl,-⟩:=V;exact⟨_,_,_,rfl⟩
 clear q V;go_wp2_with fail;refine H.take ?_;intro w5 H;go_wp2_with fail;refine H.since ?_;intro w6 H
 go_wp2
 go_ret;refine H.done ?_;rintro⟨⟨_,V⟩,A,a,rfl,_,_,cs,e,R⟩
 cases e
 exact RowV.mt ⟨_,_,cs,rfl,R⟩ a (br _) V _ _ _
def rZ{F}{r}(h:SX w N rb sb m s k)(hg:aY (aq<|tk (jd s 0) k) (Np rb)=some (nM F rb)\/aY (aq<|tk (jd s 0) k) (Np rb)=none/\F=273)(VQ:∀args w,(callFunc F args).run j5 w=.ok (.enter F args) w)(HC:∀W,SX W N rb sb m s k->Cq F #[rp rb] W (ap PE N rb sb m s r W)):Cq 249 #[rp rb] w (ap PE N rb sb m s r w):=by
 have⟨b,so,_,_,hM⟩:=h.ev.mp.wd;have hl:=λq=>dZ (hM.same (w':=w.drewN q) rfl) j6 (rI _)<|aq<|tk (jd s 0) k;have wo:=dZ hM j6 (rI _)<|aq<|tk (jd s 0) k;have⟨c,ff,z⟩:=h.bx;obtain hg|⟨hg,rfl⟩:=hg
 all_goals(
  simp only[hg,kh]at hl wo;clear hg;go_enter func249,ntmps249
  go_wp2
  go_quiet(fail);go_wp2_with fail;refine(HC _<|h.af<|below_drewN _ nq).mono ?_;intro e w1 hp
  cases hA:fin (jd s 0) r with
  |error f'=>
   obtain⟨rfl,VR⟩:=hp.bad hA;exact⟨rfl,ap.fail ((Ke.of<|below_drewN _ nq).trans VR) hA⟩
  |ok p=>
  obtain⟨a,k2⟩:=p;obtain⟨v,rfl,VR,HS,HR⟩:=hp.ok hA;obtain⟨tv,xv,rfl⟩:=HR.iface;have HE:=ai (pK hA).1;have HK:=(Ke.of<|below_drewN w nq).trans VR;clear hp hA VR
  go_wp2
  go_ret
  exact ap.done HE HK HS HR)
def Sd(hs:s.size<=1000)(hT:(jd s 0).length<=1001)(IH:eP s n):eP s (n+1):=by
 intro w N rb sb m k h hn;show Calls _ _ _ _<|ap PE N rb sb m s (if a_ (tk (jd s 0) k) JW=true then sF (jd s 0) (bP (jd s 0) n) k else if a_ (tk (jd s 0) k) kIf=true then oG (jd s 0) (bP (jd s 0) n) k else if a_ (tk (jd s 0) k) sI=true then sH (jd s 0) (eh (jd s 0) n) (bP (jd s 0) n) k else if a_ (tk (jd s 0) k) sG=true then sv (jd s 0) (bP (jd s 0) n) k else(qV (jd s 0)<|uV (jd s 0)<|fK (jd s 0)<|dr (jd s 0)<|vX s n) k) w
 cases n0:a_ (tk (jd s 0) k) JW
 .cases n1:a_ (tk (jd s 0) k) kIf
  .cases n2:a_ (tk (jd s 0) k) sI
   .cases n3:a_ (tk (jd s 0) k) sG
    .exact rZ h (.inr ⟨rY (dX s k h.lt) h.ok (by simp[n0,n1,n2,n3];decide),rfl⟩) (λ_ _=>qkr) λW S=>Dp hs hT IH S ae
    .exact rZ h (.inl (by rw[fQ n3];rfl)) (λ_ _=>qkr) λW S=>abf hs IH S ae
   .exact rZ h (.inl (by rw[fQ n2];rfl)) (λ_ _=>qkr) λW S=>abj hs hT (Bh hs hT n) IH S ae
  .exact rZ h (.inl (by rw[fQ n1];rfl)) (λ_ _=>qkr) λW S=>XG hs IH S ae
 .exact rZ h (.inl (by rw[fQ n0];rfl)) (λ_ _=>qkr) λW S=>pW hs IH S ae
def XV(hs:s.size<=1000)(hT:(jd s 0).length<=1001):∀n,eP s n
 |0=>λw N rb sb m k h hn=>by have:=h.lt;omega|n+1=>Sd hs hT<|XV hs hT n
end
section
open Un
def Bk:(Tryz.prog.info? 116).map (λi=>(i.zero,i.size,i.bytes))=some (some<|.pointer none,1,8):=qkr
def uG:Tryz.prog.underlying 182=some (.slice 116):=qkr
def Bl:∀(L:List Ty),L.length<=ah L
 |[]=>ju _|t::l=>by have:=Bl l;have:=size_pos t;simp[ah];omega
def yv{α β:Type}{E E':α->β->Prop}(h:∀a b,E a b->E' a b):∀{l:List α}{k:List β},gJ E l k->gJ E' l k
 |_,_,.nil=>.nil|_,_,.cons p q=>.cons (h _ _ p)<|yv h q
def Dr{α β:Type}{E:α->β->Prop}:∀{l:List α}{k:List β},gJ E l k->∀i(h:i<l.length)(h':i<k.length),E l[i] k[i]
 |_,_,.nil,i,h,_=>absurd h (jv _)|_,_,.cons p _,0,_,_=>p|_,_,.cons _ q,i+1,h,h'=>Dr q i DQ (by simpa using h')
def yw{α β:Type}{E:α->β->Prop}:∀{l:List α}{k:List β},gJ E l k->l.length=k.length
 |_,_,.nil=>rfl|_,_,.cons _ q=>by simp[yw q]
def Fin.eqv{nx}(h:jc str nx vr F V)(e:im str nx ba):jc str ba vr F V:=by
 intro x hx;have⟨h1,h2⟩:=h x hx;refine⟨(e.yT x).2 h1,?_⟩
 cases hs:str x with
 |none=>grind|some p=>
  obtain⟨c,l⟩:=p;rw[hs]at h2;obtain⟨iD,a,b,d⟩:=h2;exact⟨iD,yv (λx y q=>e.jU x y q) a,b,d⟩
def mu(M:List (Nat×Value)):List Nat->Nat
 |[]=>0|x::l=>(if(aY x M).isNone then 1 else 0)+mu M l
def Ds{M M':List (Nat×Value)}(h:∀x,aY x M'=none->aY x M=none):∀ds,mu M' ds<=mu M ds
 |[]=>br _|x::l=>by
  have:=Ds h l;unfold mu;by_cases e:aY x M'=none
  .simp[e,h x e];exact this
  .have:(aY x M').isNone=false:=by cases q:aY x M' with
    |none=>exact absurd q e|some v=>rfl
   simp[this];omega
def XW{M:List (Nat×Value)}{h:Nat}(hn:aY h M=none)(v:Value):∀{ds:List Nat},h∈ds->mu (bD h v M) ds<mu M ds
 |[],q=>by simp at q|x::l,q=>by
  have hm:=Ds (M:=M) (M':=bD h v M) (λy hy=>by
   rw[aJ]at hy;split at hy
   .cases hy
   .exact hy)
  by_cases e:h=x
  .subst e;have:=hm l;unfold mu;rw[aJ];simp[hn];omega
  .have hl:=(List.mem_cons.1 q).resolve_left e;have:=XW hn v hl;unfold mu;rw[aJ];simp[e];omega
def abk{M}{v:Value}:aY x M=some v->∃p∈M,p.1=x:=by
 induction M with
 |nil=>intro h;cases h|cons p l ih=>
  intro h;rw[aY]at h;split at h
  .rename_i e;exact⟨p,ag,e⟩
  .grind
def Iy{M}{v:Value}{p}:p∈bD x v M->p∈M\/p.1=x:=by
 induction M with
 |nil=>intro h;simp[bD]at h;exact jq (by rw[h])|cons q l ih=>
  intro h;rw[bD]at h;split at h
  .grind
  .grind
structure SZ(ds:List Nat)str nx vr M F(B:List Nat)V:Prop where
 fin:jc str nx vr F V
 fg:∀x,F x->aY x M=some (.int .i64 ((min (size<|V x) 49:Nat):Int))
 bg:∀x∈B,aY x M=some (Iv 0)
 gm:∀x v,aY x M=some v->F x\/x∈B
 kd:∀p∈M,p.1∈ds
section
variable {nx:Nx} {M:List (Nat×Value)} {B:List Nat}
def SZ.eqv(h:SZ ds str nx vr M F B V)(e:im str nx ba):SZ ds str ba vr M F B V:=⟨Fin.eqv h.fin e,h.fg,h.bg,h.gm,h.kd⟩
def SZ.fd(h:SZ ds str nx vr M F B V)(hx:F x):x∈ds:=by
 have⟨p,h1,h2⟩:=abk<|h.fg x hx;exact h2▸h.kd p h1
def Pp T:(((min (size T) 49:Nat)):Int)≠0:=by have:=size_pos T;omega
def SZ.apart(h:SZ ds str nx vr M F B V)(hx:F x)(hb:x∈B):False:=by
 have h1:=h.fg x hx;rw[h.bg x hb]at h1;injection h1 with h1;injection h1 with _ h1;exact Pp _ h1.symm
def SZ.begin(h:SZ ds str nx vr M F B V)(hd:x∈ds)(hn:aY x M=none):SZ ds str nx vr (bD x (Iv 0) M) F (x::B) V:=by
 refine⟨h.fin,λy hy=>?_,λy hy=>?_,λy v hy=>?_,λp hp=>?_⟩
 .rw[aJ,if_neg (λe=>by subst e;rw[h.fg _ hy]at hn;cases hn)];exact h.fg y hy
 .rw[aJ];by_cases e:x=y
  .rw[if_pos e]
  .rw[if_neg e];exact h.bg y<|(List.mem_cons.1 hy).resolve_left<|λq=>e q.symm
 .rw[aJ]at hy;by_cases e:x=y
  .grind
  .rw[if_neg e]at hy;exact(h.gm y v hy).imp id λq=>qBf
 .obtain q|q:=Iy hp
  .exact h.kd p q
  .rw[q];exact hd
def SZ.done(h:SZ ds str nx vr M F (x::B) V)(hxB:¬x∈B)(hd:x∈ds)(hn:nx x=none)T(hT:match str x with
 |none=>T=.var (vr x)|some (c,l)=>∃hs,gJ (Hd nx) l hs/\(∀y,y∈hs->F y)/\T=.aH c (hs.map V)):
 SZ ds str nx vr (bD x (.int .i64 ((min (size T) 49:Nat):Int)) M) (λy=>F y\/y=x) B (ja V x T):=by
 have dw:∀y,F y->y≠x:=λy hy e=>by subst e;exact h.apart hy ag
 have ahq:∀hs:List Nat,(∀y,y∈hs->F y)->hs.map (ja V x T)=hs.map V:=λhs q=>by
  apply jl;intro y hy;simp[ja,dw y<|q y hy]
 refine⟨λy hy=>?_,λy hy=>?_,λy hy=>?_,λy v hy=>?_,λp hp=>?_⟩
 .by_cases e:y=x
  .subst e;refine⟨hn,?_⟩
   cases hs:str y with
   |none=>rw[hs]at hT;simpa[ja]using hT|some p=>
    obtain⟨c,l⟩:=p;rw[hs]at hT;obtain⟨k,a,b,d⟩:=hT;exact⟨k,a,λz hz=>jp<|b z hz,by rw[ahq k b];simp[ja,d]⟩
  .have Zf:=hy.resolve_right e;have⟨h1,h2⟩:=h.fin y Zf;refine⟨h1,?_⟩
   cases hs:str y with
   |none=>rw[hs]at h2;simpa[ja,e]using h2|some p=>
    obtain⟨c,l⟩:=p;rw[hs]at h2;obtain⟨k,a,b,d⟩:=h2;exact⟨k,a,λz hz=>jp<|b z hz,by rw[ahq k b];simp[ja,e,d]⟩
 .rw[aJ];by_cases e:x=y
  .subst e;simp[ja]
  .rw[if_neg e];have e':y≠x:=λq=>e q.symm;simp only[ja,e',if_false];exact h.fg y<|hy.resolve_right e'
 .rw[aJ,if_neg (λe:x=y=>hxB<|e▸hy)];exact h.bg y (by simp[hy])
 .rw[aJ]at hy;by_cases e:x=y
  .omega
  .rw[if_neg e]at hy;obtain q|q:=h.gm y v hy
   .grind
   .grind
 .obtain q|q:=Iy hp
  .exact h.kd p q
  .rw[q];exact hd
end
abbrev zV:Nat->Value:=λb=>Pv b
def Se:(Tryz.prog.info? 187).map (λi=>i.size)=some 5:=qkr
def XX:KL j5 116 zV (λw b=>∃c t,w.heap[b]? =some (.cells c t (0,0))):=by
 obtain⟨j,hj,hs⟩:∃j,Tryz.prog.info? 187=some j/\j.size=5:=by
  have:=Se
  cases h:Tryz.prog.info? 187 with
  |none=>grind|some j=>grind
 exact KL.ptr Tryz.underlying116 hj ae
def yx w ds(str:vB)(nx:Nx)(vr:Nat->Nat)(ly:Nat->Option Addr×Nat)(lv:Nat->Nat)n:=
 w.heap[n]? =some (.cells #[nP<|nx n,Nv<|lv n,Nv<|vr n,.string<|byS<|str n,.slice (ly n).1 (slN<|str n) (ly n).2] 187 (0,0))/\gQ w ds (ly n).1 (str n)/\∀m,nx n=some m->m∈ds
structure GL w ds str nx vr ly lv:Prop where
 nd:∀n,n∈ds->yx w ds str nx vr ly lv n
 out:∀n,¬n∈ds->nx n=none/\str n=none
 hd:∀n,n∈ds->∃h,Hd nx n h
def yx.cells{nx}{lv}(h:yx w ds str nx vr ly lv n):w.cell? ⟨n,0,none⟩=some (nP<|nx n)/\w.frozen? ⟨n,0,none⟩=false/\w.cell? ⟨n,3,none⟩=some (.string<|byS<|str n)/\w.cell? ⟨n,2,none⟩=some (Nv<|vr n)/\w.cell? ⟨n,4,none⟩=some (.slice (ly n).1 (slN<|str n) (ly n).2):=by
 obtain⟨h1,_⟩:=h;exact⟨qBu,by simp[j3,h1],qBu,qBu,qBu⟩
def yx.lvl{nx}{lv}(h:yx w ds str nx vr ly lv n):w.cell? ⟨n,1,none⟩=some (Nv<|lv n)/\w.frozen? ⟨n,1,none⟩=false:=⟨by simp[World.cell?,h.1],by simp[j3,h.1]⟩
def Pq{p:Prop}(h:p:=by
 cases hs:str x with
 |none=>trivial|some p=>
  obtain⟨c,l⟩:=p;rw[hs]at h2;obtain⟨p1,p2,p3,p4⟩:=h2;refine⟨p1,p2,p3,p4.imp id λq=>?_⟩;obtain⟨g,q1,q2,q3,q4⟩:=q;refine⟨g,q1,q2,by simpa[jy]using q3,λi hi=>?_⟩;rw[World.cell?_setCell_other _ _ _ _ (by intro e;injection e with e;subst e;exact q2 hn)]
  exact q4 i hi):p:=h
def GL.set{nx}{lv}(h:GL w ds str nx vr ly lv)(hn:n∈ds)(hk:k∈ds)(hhd:∀x,x∈ds->∃y,Hd (ja nx n<|some k) x y):GL (w.setCell ⟨n,0,none⟩<|nA k) ds str (ja nx n<|some k) vr ly lv:=by
 refine⟨λx hx=>?_,λx hx=>?_,hhd⟩
 .have⟨h1,h2,h3⟩:=h.nd x hx;have hp:gQ (w.setCell ⟨n,0,none⟩<|nA k) ds (ly x).1 (str x):=by
   exact Pq
  by_cases e:x=n
  .subst e;refine⟨(dB h1 0 _).trans<|by simp[ja,nP],hp,λm hm=>?_⟩;simp[ja]at hm;subst hm;exact hk
  .refine⟨?_,hp,λm hm=>h3 m<|by simpa[ja,e]using hm⟩;rw[Below.heap_setCell _ _ _ _ e,h1];simp[ja,e]
 .have:x≠n:=λe=>hx<|e▸hn;simpa[ja,this]using h.out x hx
def GL.QB{nx}{lv}(h:GL w ds str nx vr ly lv)(hn:n∈ds)L:GL (w.setCell ⟨n,1,none⟩<|Nv L) ds str nx vr ly (ja lv n L):=by
 refine⟨λx hx=>?_,h.out,h.hd⟩;have⟨h1,h2,h3⟩:=h.nd x hx;have hp:gQ (w.setCell ⟨n,1,none⟩<|Nv L) ds (ly x).1 (str x):=by
  exact Pq
 by_cases e:x=n
 .subst e;refine⟨(dB h1 1 _).trans Nz,hp,h3⟩
 .refine⟨?_,hp,h3⟩;rw[Below.heap_setCell _ _ _ _ e,h1];simp[ja,e]
def Sf ds str nx vr ly lv h w(e:Ending)w':=
 e=.returned (nA h)/\∃ba,GL w' ds str ba vr ly lv/\Fr (λb=>b∈ds) w w'/\im str nx ba/\w'.heap.size=w.heap.size
def XY ds str nx vr ly lv h w gk v wr:=
 ∃n ba,v=nA n/\n∈ds/\Iu ba n h gk/\GL wr ds str ba vr ly lv/\Fr (λb=>b∈ds) w wr/\im str nx ba/\wr.heap.size=w.heap.size
section
variable {nx:Nx} {lv:Nat->Nat}
def pZ(hg:GL w ds str nx vr ly lv)(hn:n∈ds)(hh:Hd nx n h):Cq 83 #[nA n] w (Sf ds str nx vr ly lv h w):=by
 have⟨j0,hj0⟩:=Hd.len hh;have HJ:=ai hj0;clear hj0 hh;go_enter func83,ntmps83
 go_wp2
 go_loopg[0] j0 (λgk v wr=>XY ds str nx vr ly lv h w gk v wr)
 case atStart=>exact⟨n,nx,rfl,hn,HJ,hg,Fr.refl _ _,im.refl _ _,rfl⟩
 case round=>
  clear hg HJ;obtain⟨n1,eI,rfl,Jh,hl1,G1,F1,E1,z1⟩:=hrel;have⟨c0,f0,_⟩:=(G1.nd n1 Jh).cells
  cases hl1 with
  |here e0=>
   rw[e0]at c0;have c0':wr.cell? ⟨h,0,none⟩=some (.pointer none):=c0;clear c0
   go_wp2
   go_ret;exact⟨rfl,eI,G1,F1,E1,z1⟩
  | @step _ m _ k e0 hlm=>
    have hm:m∈ds:=by
     have⟨_,_,h3⟩:=G1.nd n1 Jh;exact h3 m e0
    have dw:n1≠m:=λq=>by subst q;have:=(Iu.step e0 hlm).one hlm;omega
    rw[e0]at c0;have c0':wr.cell? ⟨n1,0,none⟩=some (Pv m):=c0;have⟨d0,_⟩:=(G1.nd m hm).cells;clear c0
    cases hlm with
    |here e1=>
     rw[e1]at d0;have d0':wr.cell? ⟨h,0,none⟩=some (.pointer none):=d0;clear d0
     go_wp2
     go_roundg 0
     case measure=>omega
     case rel=>exact⟨h,eI,rfl,hm,.here e1,G1,F1,E1,z1⟩
    | @step _ m2 _ k2 e1 NZ=>
      rw[e1]at d0;have d0':wr.cell? ⟨m,0,none⟩=some (Pv m2):=d0;have hm2:m2∈ds:=by
       have⟨_,_,h3⟩:=G1.nd m hm;exact h3 m2 e1
      clear d0;have hnm:¬m=n1:=λq=>dw q.symm
      go_wp2
      go_roundg k2
      case measure=>omega
      case rel=>
       refine⟨m2,ja eI n1<|some m2,rfl,hm2,NZ.dQ (Iu.step e0<|Iu.step e1 NZ) ae _,G1.set Jh hm2<|λx hx=>?_,F1.set (jp Jh) 0 _,E1.trans<|im.short str e0 e1 dw,by simp[jy];exact z1⟩;have⟨y,hy⟩:=G1.hd x hx;exact⟨y,hy.short e0 e1⟩
end
structure jQ(str:vB)(nx:Nx)(ds:List Nat)(lv cq:Nat->Nat)n L(D:Nat->Prop):Prop where
 up:∀m,D m->m∈ds/\nx m=none/\L<lv m/\cq m=L
 no:∀m,¬D m->cq m=lv m
 hd:∀h,Hd nx n h->D h\/lv h<=L
 cl:∀a,D a->∀c l,str a=some (c,l)->∀p,p∈l->∀h,Hd nx p h->D h\/lv h<=L
 re:∀R:Nat->Prop,(∀h,Hd nx n h->R h)->(∀a c l p h,R a->str a=some (c,l)->p∈l->Hd nx p h->R h)->∀a,D a->R a
structure uZ(str:vB)(nx:Nx)(ds:List Nat)(lv kP:Nat->Nat)h(l:List Nat)L(D:Nat->Prop):Prop where
 own:D h
 up:∀m,D m->m∈ds/\nx m=none/\L<lv m/\kP m=L
 no:∀m,¬D m->kP m=lv m
 pt:∀p,p∈l->∀k,Hd nx p k->D k\/lv k<=L
 cl:∀a,D a->a≠h->∀c l,str a=some (c,l)->∀p,p∈l->∀k,Hd nx p k->D k\/lv k<=L
 re:∀R:Nat->Prop,R h->(∀a c l p k,R a->str a=some (c,l)->p∈l->Hd nx p k->R k)->∀a,D a->R a
section
variable {nx:Nx} {lv kP:Nat->Nat} {L:Nat} {E:Nat->Prop}
def jQ.nil(hh:Hd nx n h)(hl:lv h<=L):jQ str nx ds lv lv n L (λ_=>False):=
 ⟨λ_ q=>q.elim,λ_ _=>rfl,λk q=>jq (by rw[q.one hh];exact hl),λ_ q=>q.elim,λ_ _ _ _ q=>q.elim⟩
def uZ.start(hd:h∈ds)(hn:nx h=none)(hl:L<lv h):uZ str nx ds lv (ja lv h L) h [] L (λm=>m=h):=
 ⟨rfl,λm q=>by subst q;exact⟨hd,hn,hl,Nz⟩,λm q=>by simp[ja,q],λp q=>by simp at q,λa q r=>absurd q r,λR q _ a r=>by subst r;exact q⟩
def uZ.step{p}{c}{l0}(hs:str h=some (c,l0))(hp:p∈l0)(k:uZ str nx ds lv kP h l L D)(q:jQ str nx ds kP cq p L E):uZ str nx ds lv cq h (l++[p]) L (λm=>D m\/E m):=by
 have dis:∀m,E m->¬D m:=λm e d=>by have:=(q.up m e).2.2.1;have:=(k.up m d).2.2.2;omega
 have low:∀x,kP x<=L->D x\/lv x<=L:=λx hx=>by
  by_cases d:D x
  .exact jp d
  .exact jq (by rw[<-k.no x d];exact hx)
 refine⟨jp k.own,λm e=>?_,λm e=>?_,λp' kO x hx=>?_,λa e ne c' l' iD p' kO x hx=>?_,λR r1 r2 a e=>?_⟩
 .by_cases d:E m
  .have⟨u1,u2,u3,u4⟩:=q.up m d;exact⟨u1,u2,by rw[<-k.no m (dis m d)];exact u3,u4⟩
  .have⟨u1,u2,u3,u4⟩:=k.up m<|e.resolve_right d;exact⟨u1,u2,u3,(q.no m d).trans u4⟩
 .rw[q.no m<|λd=>e<|jq d,k.no m<|λd=>e<|jp d]
 .obtain kO|kO:=List.mem_append.1 kO
  .exact(k.pt p' kO x hx).imp jp id
  .simp at kO;subst kO;obtain r|r:=q.hd x hx
   .grind
   .grind
 .obtain d|d:=e
  .exact(k.cl a d ne c' l' iD p' kO x hx).imp jp id
  .obtain r|r:=q.cl a d c' l' iD p' kO x hx
   .grind
   .grind
 .obtain d|d:=e
  .exact k.re R r1 r2 a d
  .exact q.re R (λx hx=>r2 h c l0 p x r1 hs hp hx) r2 a d
def uZ.done{l0}(hh:Hd nx n h)(hs:str h=some (c,l0))(k:uZ str nx ds lv kP h l0 L D):jQ str nx ds lv kP n L D:=by
 refine⟨k.up,k.no,λx hx=>jp (by rw[hx.one hh];exact k.own),λa d c' l' iD p hp x hx=>?_,λR r1 r2 a d=>k.re R (r1 h hh) r2 a d⟩;by_cases e:a=h
 .subst e;rw[hs]at iD;injection iD with iD;injection iD with _ e2;subst e2;exact k.pt p hp x hx
 .exact k.cl a d e c' l' iD p hp x hx
def uZ.XZ(hh:Hd nx n h)(hs:str h=none)(k:uZ str nx ds lv kP h [] L D):jQ str nx ds lv kP n L D:=by
 refine⟨k.up,k.no,λx hx=>jp (by rw[hx.one hh];exact k.own),λa d c' l' iD p hp x hx=>?_,λR r1 r2 a d=>k.re R (r1 h hh) r2 a d⟩;by_cases e:a=h
 .grind
 .exact k.cl a d e c' l' iD p hp x hx
end
def dp(ds:List Nat)(lv:Nat->Nat)L:=ds.countP λm=>decide (L<lv m)
def acO{lv}{L:Nat}(h:∀m,L<cq m->L<lv m):dp ds cq L<=dp ds lv L:=List.countP_mono_left λm _ q=>by simpa using h m (by simpa using q)
def acP{lv cq:Nat->Nat}{L x:Nat}(h:∀m,L<cq m->L<lv m)(hx:L<lv x)(Dm:¬L<cq x):∀{ds:List Nat},x∈ds->dp ds cq L<dp ds lv L
 |a::ds,hm=>by
  unfold dp;rw[jo,jo];have hle:ds.countP (λm=>decide (L<cq m))<=ds.countP (λm=>decide (L<lv m)):=acO h;by_cases e:a=x
  .subst e;simp[hx,Dm];omega
  .have:=acP h hx Dm (ds:=ds) (by obtain q|q:=List.mem_cons.1 hm;exact absurd q.symm e;exact q);unfold dp at this;by_cases q:L<cq a
   .simp[q,h a q];omega
   .by_cases q2:L<lv a
    .simp[q,q2];omega
    .simp[q,q2];omega
def im.back{nx}{lv}(g:GL w ds str nx vr ly lv)(e:im str nx ba)(k:Hd ba x h):Hd nx x h:=by
 by_cases hx:x∈ds
 .have⟨y,hy⟩:=g.hd x hx;rw[k.one<|e.jU x y hy];exact hy
 .have h0:Hd nx x x:=.here (g.out x hx).1;rw[k.one<|e.jU x x h0];exact h0
def jQ.eqv{nx}{lv0 lv}{L:Nat}(g:GL w ds str nx vr ly lv0)(e:im str nx ba)(q:jQ str ba ds lv cq n L D):jQ str nx ds lv cq n L D:=
 ⟨λm d=>⟨(q.up m d).1,(e.yT m).1 (q.up m d).2.1,(q.up m d).2.2⟩,q.no,λh k=>q.hd h<|e.jU _ _ k,λa d c l hs p hp h k=>q.cl a d c l hs p hp h<|e.jU _ _ k,λR r1 r2=>q.re R (λh k=>r1 h<|e.back g k)<|λa c l p h ra hs hp k=>r2 a c l p h ra hs hp<|e.back g k⟩
def Iz ds str nx vr ly lv n L w(e:Ending)w':=
 e=.returned (.tuple #[])/\∃ba cq D,GL w' ds str ba vr ly cq/\Fr (λb=>b∈ds) w w'/\im str nx ba/\w'.heap.size=w.heap.size/\jQ str nx ds lv cq n L D
def afa ds str vr ly k:=∀(w:World)(nx:Nx)(lv:Nat->Nat)(n L:Nat),GL w ds str nx vr ly lv->n∈ds->dp ds lv L<=k->Cq 84 #[nA n,Nv L] w (Iz ds str nx vr ly lv n L w)
def afb ds str nx vr ly lv h L(l:List Nat)w gk v wr:=
 ∃j gB kP D,Hid (gk=l.length-j)/\j<=l.length/\v=Nv j/\GL wr ds str gB vr ly kP/\Fr (λb=>b∈ds) w wr/\im str nx gB/\wr.heap.size=w.heap.size/\uZ str nx ds lv kP h (l.take j) L D
def GL.row{nx}{lv}(g:GL w ds str nx vr ly lv)(ha:a∈ds)(hs:str a=some (c,l)){j}(hj:j<l.length):∃ga,(ly a).1=some ⟨ga,0,none⟩/\w.cell? ⟨ga,j,none⟩=some (nA l[j])/\¬ga∈ds:=by
 have⟨_,h2,_⟩:=g.nd a ha;rw[hs]at h2;obtain⟨_,_,_,p4⟩:=h2;have⟨ga,q1,q2,_,q4⟩:=p4.resolve_left (λe=>by subst e;simp at hj);exact⟨ga,q1,q4 j hj,q2⟩
def GL.part{nx}{lv}(g:GL w ds str nx vr ly lv)(ha:a∈ds)(hs:str a=some (c,l)):l.length<=1001/\∀m∈l,m∈ds:=by
 have⟨_,h2,_⟩:=g.nd a ha;rw[hs]at h2;exact⟨h2.2.1,h2.2.2.1⟩
def GL.bH{nx}{lv}(g:GL w ds str nx vr ly lv)(hn:n∈ds)(k:Hd nx n h):h∈ds:=by
 induction k with
 |here=>exact hn|step e _ ih=>exact ih<|(g.nd _ hn).2.2 _ e
def Lz(IH:∀i,i<k->afa ds str vr ly i):afa ds str vr ly k:=by
 intro w nx lv n L DT hn hk;have⟨h,hh⟩:=DT.hd n hn;have hm:=DT.bH hn hh;have HC:=pZ DT hn hh;go_enter func84,ntmps84;go_wp2_with fail;refine HC.mono ?_;rintro e w1⟨rfl,eI,HG,F1,X6,z1⟩;have⟨c1,f1⟩:=(HG.nd h hm).lvl;have Jh:nx h=none:=hh.head;by_cases hle:lv h<=L
 .have hd:(lv h:Int)<=(L:Int):=ae
  go_wp2
  go_end0;exact⟨rfl,eI,lv,_,HG,F1,X6,z1,jQ.nil hh hle⟩
 .have hd:¬(lv h:Int)<=(L:Int):=ae;have G2:=HG.QB hm L;have⟨_,_,_,_,c4⟩:=(HG.nd h hm).cells;have F2:Hid (Fr (λb=>b∈ds) w<|w1.setCell ⟨h,1,none⟩<|Nv L):=ai<|F1.set (jp hm) 1 _;have Jt:=ai G2;have Z1:=z1;have J0:Hid (uZ str nx ds lv (ja lv h L) h [] L<|λm=>m=h):=ai<|uZ.start hm Jh ae
  cases hs:str h with
  |none=>
   have c4':w1.cell? ⟨h,4,none⟩=some (.slice (ly h).1 0 (ly h).2):=by rw[c4,hs];rfl
   go_wp2
   go_loopg[23] 0 (λgk v wr=>v=Iv 0/\wr=w1.setCell ⟨h,1,none⟩ (Nv L))
   case atStart=>exact⟨rfl,rfl⟩
   case round=>
    obtain⟨rfl,rfl⟩:=hrel
    go_wp2
    go_end0;exact⟨rfl,eI,_,_,uh Jt,uh F2,X6,qAz,(uh J0).XZ hh hs⟩
  |some q=>
   obtain⟨c,l⟩:=q;have c4':w1.cell? ⟨h,4,none⟩=some (.slice (ly h).1 l.length (ly h).2):=by rw[c4,hs];rfl
   have⟨hl1,NZ⟩:=DT.part hm hs;have hdp:dp ds (ja lv h L) L<dp ds lv L:=acP (x:=h) (λm q=>by by_cases e:m=h;subst e;simp[ja]at q;simpa[ja,e]using q) ae Nz hm;by_cases wo:l=[]
   .subst wo;have aiW:=c4'
    go_wp2
    go_loopg[23] 0 (λgk v wr=>v=Iv 0/\wr=w1.setCell ⟨h,1,none⟩ (Nv L))
    case atStart=>exact⟨rfl,rfl⟩
    case round=>
     obtain⟨rfl,rfl⟩:=hrel
     go_wp2
     go_end0;exact⟨rfl,eI,_,_,uh Jt,uh F2,X6,qAz,(uh J0).done hh hs⟩
   have⟨ga,EGA,_,_⟩:=DT.row hm hs<|List.length_pos_iff.2 wo;rw[EGA]at c4'
   go_wp2
   go_loopg[23] l.length (λgk v wr=>afb ds str nx vr ly lv h L l w gk v wr)
   case atStart=>exact⟨0,eI,_,_,ai ag,ju _,rfl,uh Jt,uh F2,X6,qAz,by simpa using uh J0⟩
   case round=>
    obtain⟨j,gB,kP,D,c_,hj,rfl,Gj,FJ,EJ,ZJ,JJ⟩:=hrel;by_cases bh:j<l.length
    .have bA:(j:Int)<(l.length:Int):=ae;have Ej:(0:Int)<=(j:Int):=ae;have⟨ga',e1,cg,_⟩:=Gj.row hm hs bh;have e2:=e1.symm.trans EGA;injection e2 with e2;injection e2 with e2;subst e2
     have HCJ:=IH (dp ds (ja lv h L) L) ae wr gB kP l[j] L Gj (NZ _<|jh bh) (acO λm q=>by
      by_cases d:D m
      .have:=(JJ.up m d).2.2.2;omega
      .have e:m≠h:=λe=>d<|e▸JJ.own;simp only[ja,e,if_false]
       rw[<-JJ.no m d];exact q)
     go_wp2_with fail;refine HCJ.mono ?_;rintro e w2⟨rfl,pw,lF,D2,HG,F2,E2,z2,q2⟩;have HF:=FJ.trans F2;have HE:=EJ.trans E2;have HZ:=z2.trans ZJ;have HJ2:=JJ.step hs (jh bh)<|q2.eqv DT EJ
     go_wp2
     go_roundg(l.length-(j+1))
     case measure=>rw[uh c_];omega
     case rel=>exact⟨j+1,pw,lF,_,ai rfl,Nat.succ_le_of_lt bh,iF,HG,HF,HE,HZ,by rw[ji bh];exact HJ2⟩
    .have bA:decide ((j:Int)<(l.length:Int))=false:=bQ;have ej:j=l.length:=ae;subst ej;rw[jm]at JJ;have HX:=show Iz ds str nx vr ly lv n L w (Rv<|.tuple #[]) wr from⟨rfl,gB,kP,D,Gj,FJ,EJ,ZJ,JJ.done hh hs⟩
     go_wp2
     go_end0;exact HX
def B_:∀k,afa ds str vr ly k:=λk=>Nat.strongRecOn k λk ih=>Lz ih
def LC(str:vB)(ds:List Nat)nx(lv:Nat->Nat):=∀a,a∈ds->nx a=none->∀c l,str a=some (c,l)->∀p,p∈l->∀h,Hd nx p h->lv h<=lv a
structure uH str(ds:List Nat)nx(lv:Nat->Nat)ba(cq:Nat->Nat):Prop where
 mono:∀m,m∈ds->∀h h',Hd nx m h->Hd ba m h'->cq h'<=lv h
 lc:LC str ds nx lv->LC str ds ba cq
 low:∀(i:Nat)(U:Nat->Ty),lM str ba U->∀Lw:Ty->Prop,(∀c ts,Lw (.aH c ts)->∀t∈ts,Lw t)->(∀m,m∈ds->∀h,Hd nx m h->lv h<=i->Lw (U m))->∀m,m∈ds->∀h,Hd ba m h->cq h<=i->Lw (U m)
 gr:∀n,ba n=none->nx n=none
section
variable {nx:Nx} {lv:Nat->Nat}
def uH.trans(h:uH str ds nx lv eI qE)(k:uH str ds eI qE pw lF)(hd:∀m,m∈ds->∃x,Hd eI m x)(hs:∀U,lM str pw U->lM str eI U):uH str ds nx lv pw lF:=
 ⟨λm hm a c ka kc=>by
  have⟨b,kb⟩:=hd m hm
  exact jt (k.mono m hm b c kb kc)<|h.mono m hm a b ka kb,λq=>k.lc<|h.lc q,λi U hU Lw hc q=>k.low i U hU Lw hc<|h.low i U (hs U hU) Lw hc q,λn q=>h.gr n<|k.gr n q⟩
def uH.eqv(g:GL w ds str nx vr ly qE)(e:im str nx eI):uH str ds nx lv eI lv:=by
 refine⟨λm _ h h' k k'=>?_,λq a ha hn c l hs p hp h k=>?_,λi U hU Lw hc q m hm h k hl=>q m hm h (e.back g k) hl,λn q=>(e.yT n).1 q⟩
 .rw[k'.one<|e.jU _ _ k];exact br _
 .exact q a ha ((e.yT a).1 hn) c l hs p hp h (e.back g k)
def jQ.fwd{L:Nat}(g:GL w ds str nx vr ly lF)(e:im str nx eI)(q:jQ str nx ds lv qE n L D):jQ str eI ds lv qE n L D:=
 ⟨λm d=>⟨(q.up m d).1,(e.yT m).2 (q.up m d).2.1,(q.up m d).2.2⟩,q.no,λh k=>q.hd h<|e.back g k,λa d c l hs p hp h k=>q.cl a d c l hs p hp h<|e.back g k,λR r1 r2=>q.re R (λh k=>r1 h<|e.jU _ _ k)<|λa c l p h ra hs hp k=>r2 a c l p h ra hs hp<|e.jU _ _ k⟩
def jQ.le{L:Nat}(q:jQ str nx ds lv qE n L D)m:qE m<=lv m:=by
 by_cases d:D m
 .have:=q.up m d;omega
 .rw[q.no m d];exact br _
def jQ.lc{L:Nat}(q:jQ str nx ds lv qE n L D)(h:LC str ds nx lv):LC str ds nx qE:=λa ha hn c l hs p hp k hk=>by
 have h0:=h a ha hn c l hs p hp k hk;by_cases d:D a
 .rw[(q.up a d).2.2.2];obtain r|r:=q.cl a d c l hs p hp k hk
  .rw[(q.up k r).2.2.2];exact br _
  .exact jt (q.le k) r
 .rw[q.no a d];exact jt (q.le k) h0
def jQ.low{L:Nat}(q:jQ str nx ds lv qE n L D){i}(hU:lM str nx U){Lw:Ty->Prop}(hc:∀c ts,Lw (.aH c ts)->∀t∈ts,Lw t)(hb:∀m,m∈ds->∀h,Hd nx m h->lv h<=i->Lw (U m))(hn:L<=i->Lw (U n)):∀m,m∈ds->∀h,Hd nx m h->qE h<=i->Lw (U m):=λm hm h hh hl=>by
 by_cases d:D h
 .have hL:L<=i:=by rw[(q.up h d).2.2.2]at hl;exact hl
  rw[hh.mF hU];refine q.re (λx=>Lw<|U x) (λx hx=>by rw[<-hx.mF hU];exact hn hL) (λa c l p k ra hs hp hk=>?_) h d;rw[<-hk.mF hU];rw[hU.made a c l hs]at ra;exact hc c _ ra _<|List.mem_map_of_mem hp
 .rw[q.no h d]at hl;exact hb m hm h hh hl
structure p7 str nx ds lv lF a b:Prop where
 x:∃qE D1 D2,jQ str nx ds lv qE a (lv b) D1/\jQ str nx ds qE lF b (qE a) D2
def p7.lvs(h:p7 str nx ds lv lF a b)(ha:nx a=none)(hb:nx b=none):lF a<=lv a/\lF a<=lv b/\lF b<=lv a/\lF b<=lv b/\lF a=lF b:=by
 have⟨qE,D1,D2,q1,q2⟩:=h.x;have n1:=q1.no b (λd=>by have:=(q1.up b d).2.2.1;omega);have n2:=q2.no a (λd=>by have:=(q2.up a d).2.2.1;omega);have l1:qE a<=lv b:=by
  obtain d|d:=q1.hd a<|.here ha
  .rw[(q1.up a d).2.2.2];exact br _
  .exact jt (q1.le a) d
 have l1a:=q1.le a;have l2:lF b=qE a:=by
  by_cases d:D2 b
  .exact(q2.up b d).2.2.2
  .have h2:=(q2.hd b<|.here hb).resolve_left d;rw[q2.no b d];omega
 omega
def p7.lc(h:p7 str nx ds lv lF a b)(k:LC str ds nx lv):LC str ds nx lF:=by
 have⟨qE,D1,D2,q1,q2⟩:=h.x;exact q2.lc<|q1.lc k
def p7.le(h:p7 str nx ds lv lF a b)m:lF m<=lv m:=by
 have⟨qE,D1,D2,q1,q2⟩:=h.x;exact jt (q2.le m)<|q1.le m
def p7.low(h:p7 str nx ds lv lF a b)(ha:a∈ds)(hb:b∈ds)(na:nx a=none)(nb:nx b=none){i}{U}(hU:lM str nx U)(mK:U a=U b){Lw:Ty->Prop}(hc:∀c ts,Lw (.aH c ts)->∀t∈ts,Lw t)(hB:∀m,m∈ds->∀h,Hd nx m h->lv h<=i->Lw (U m)):∀m,m∈ds->∀h,Hd nx m h->lF h<=i->Lw (U m):=by
 have⟨qE,D1,D2,q1,q2⟩:=h.x;have s1:=q1.low hU hc hB (λq=>by rw[mK];exact hB b hb b (.here nb) q);exact q2.low hU hc s1 (λq=>by rw[<-mK];exact s1 a ha a (.here na) q)
def kx(na:nx a=none)(nb:nx b=none)(mK:a≠b)(hh:Hd nx x h)(k:Hd (ja nx a<|some b) x h'):h'=if h=a then b else h:=k.one<|hh.join na nb mK
def jR(nx0:nx x=none)(hU:lM str (ja nx x<|some y) U):lM str nx U:=by
 refine⟨hU.made,λn m e=>hU.bz n m ?_⟩;have dw:n≠x:=λr=>by subst r;rw[nx0]at e;cases e
 simpa[ja,dw]using e
def uH.link(h:p7 str nx ds lv lF a b)(ha:a∈ds)(hb:b∈ds)(na:nx a=none)(nb:nx b=none)(mK:a≠b)(hd:∀m,m∈ds->∃x,Hd nx m x)(hp:∀a,a∈ds->∀c l,str a=some (c,l)->∀m∈l,m∈ds):uH str ds nx lv (ja nx a<|some b) lF:=by
 have⟨l1,l2,l3,l4,l5⟩:=h.lvs na nb;refine⟨λm hm x x' k k'=>?_,λq e he hn c l hs p To x' k'=>?_,λi U hU Lw hc hB m hm x' k' hl=>?_,λn q=>by by_cases e:n=a;subst e;exact na;simpa[ja,e]using q⟩
 .rw[kx na nb mK k k'];split
  .rename_i e;rw[e];exact l3
  .exact h.le x
 .have dw:e≠a:=λr=>by subst r;simp[ja]at hn
  have X7:nx e=none:=by simpa[ja,dw]using hn
  have⟨x,k⟩:=hd p<|hp e he c l hs p To;have:=h.lc q e he X7 c l hs p To x k;rw[kx na nb mK k k'];split
  .rename_i r;rw[r]at this;omega
  .exact this
 .have hS:=jR na hU;have X8:=hU.bz a b Nz;have hL:=h.low ha hb na nb hS X8 hc hB;have⟨x,k⟩:=hd m hm;rw[kx na nb mK k k']at hl;split at hl
  .rename_i r;subst r;rw[k.mF hS,X8];exact hL b hb b (.here nb) hl
  .exact hL m hm x k hl
def uH.X9(h:p7 str nx ds lv lF a b)(ha:a∈ds)(hb:b∈ds)(na:nx a=none)(nb:nx b=none)(mK:a≠b)(hd:∀m,m∈ds->∃x,Hd nx m x)(hp:∀a,a∈ds->∀c l,str a=some (c,l)->∀m∈l,m∈ds):uH str ds nx lv (ja nx b<|some a) lF:=by
 have⟨l1,l2,l3,l4,l5⟩:=h.lvs na nb;refine⟨λm hm x x' k k'=>?_,λq e he hn c l hs p To x' k'=>?_,λi U hU Lw hc hB m hm x' k' hl=>?_,λn q=>by by_cases e:n=b;subst e;exact nb;simpa[ja,e]using q⟩
 .rw[kx nb na (Ne.symm mK) k k'];split
  .rename_i e;rw[e];exact l2
  .exact h.le x
 .have dw:e≠b:=λr=>by subst r;simp[ja]at hn
  have X7:nx e=none:=by simpa[ja,dw]using hn
  have⟨x,k⟩:=hd p<|hp e he c l hs p To;have:=h.lc q e he X7 c l hs p To x k;rw[kx nb na (Ne.symm mK) k k'];split
  .rename_i r;rw[r]at this;omega
  .exact this
 .have hS:=jR nb hU;have X8:=hU.bz b a Nz;have hL:=h.low ha hb na nb hS X8.symm hc hB;have⟨x,k⟩:=hd m hm;rw[kx nb na (Ne.symm mK) k k']at hl;split at hl
  .rename_i r;subst r;rw[k.mF hS,X8];exact hL a ha a (.here na) hl
  .exact hL m hm x k hl
end
structure JG(ds:List Nat)(str:vB)nx(vr:Nat->Nat):Prop where
 LA:∀n,∃h,Hd nx n h
 jU:∀n h,n∈ds->Hd nx n h->h∈ds
 Tp:∀a c l,a∈ds->str a=some (c,l)->∀p,p∈l->p∈ds
 inj:∀a b,a∈ds->b∈ds->str a=none->str b=none->vr a=vr b->a=b
 mh:tX str nx []
def Can(str:vB)nx(vr:Nat->Nat)(V:Nat->Ty):=∀n h,Hd nx n h->V n=match str h with
 |none=>.var (vr h)|some (c,l)=>.aH c<|l.map V
section
variable {nx:Nx} {W:Nat->Ty}
def JG.eq(g:JG ds str nx vr):Un.Eq nx [] (xA nx):=xA.is λn _ _=>g.LA n
def Can.same(hV:Can str nx vr V)(k:xA nx m n):V m=V n:=by
 obtain rfl|⟨h,a,b⟩:=k
 .rfl
 .rw[hV m h a,hV n h b]
def LB(g:JG ds str nx vr)(k:Hd nx n h):∀{c l},str n=some (c,l)->∃l',str h=some (c,l')/\gJ (xA nx) l l':=by
 induction k with
 |here e=>exact λ{c l}hs=>⟨l,hs,qZ g.eq.refl l⟩|step e _ ih=>
  intro c l hs;have⟨l1,h1,h2⟩:=g.mh _ g.eq _ _ c l e hs;have⟨l2,h3,h4⟩:=ih h1;exact⟨l2,h3,kH g.eq.trans h2 h4⟩
def Can.mF(g:JG ds str nx vr)(hV:Can str nx vr V):lM str nx V:=by
 refine⟨λn c l hs=>?_,λn m e=>?_⟩
 .have⟨h,k⟩:=g.LA n;have⟨l',h1,h2⟩:=LB g k hs;have:=hV n h k;rw[h1]at this;rw[this];show j9 c (l'.map V)=j9 c (l.map V);rw[tZ (λa b q=>hV.same q) h2]
 .have⟨h,k⟩:=g.LA n;exact hV.same<|jq ⟨h,k,k.q_ e⟩
noncomputable def Sg (nx:Nx) (n:Nat):Nat:=by
 classical
 exact if h:∃x,Hd nx n x then h.choose else n
theorem n_(k:Hd nx n h):Sg nx n=h:=by
 rw[Sg];have q:∃x,Hd nx n x:=⟨h,k⟩;rw[dif_pos q];exact q.choose_spec.one k
noncomputable def vK (str:vB) (nx:Nx) (vr:Nat->Nat):Nat->Nat->Ty
 |0,_=>.var 0
 |k+1,n=>match str (Sg nx n)with
  |none=>.var (vr<|Sg nx n)|some (c,l)=>.aH c<|l.map<|vK str nx vr k
def iW(hp:p∈l):size (U p)<size (.aH c<|l.map U):=by
 have:=l8 (V:=U) hp;simp only[size];omega
def X_{U:Nat->Ty}(g:JG ds str nx vr)(hU:lM str nx U):∀k k' n,size (U n)<=k->size (U n)<=k'->vK str nx vr k n=vK str nx vr k' n
 |0,_,n,h,_=>by have:=size_pos<|U n;omega|_+1,0,n,_,h=>by have:=size_pos<|U n;omega|k+1,k'+1,n,h,h'=>by
  have⟨x,hx⟩:=g.LA n;simp only[vK,n_ hx]
  cases hs:str x with
  |none=>rfl|some q=>
   obtain⟨c,l⟩:=q;have e:=(hx.mF hU).trans<|hU.made x c l hs;show j9 c _=j9 c _;congr 1;refine dW λp hp=>X_ g hU k k' p ?_ ?_;all_goals have:=iW (c:=c) (U:=U) hp;rw[<-e]at this;omega
def afc(g:JG ds str nx vr)(hU:lM str nx U):∃V,Can str nx vr V:=by
 refine⟨λn=>vK str nx vr (size<|U n) n,λn h k=>?_⟩;have hp:=size_pos<|U n;obtain⟨j,hj⟩:∃j,size (U n)=j+1:=⟨size (U n)-1,ae⟩;show vK str nx vr (size<|U n) n=_;rw[hj];simp only[vK,n_ k]
 cases hs:str h with
 |none=>rfl|some q=>
  obtain⟨c,l⟩:=q;have e:=(k.mF hU).trans<|hU.made h c l hs;show j9 c _=j9 c _;congr 1;refine dW λp hp=>X_ g hU _ _ p ?_<|br _;have:=iW (c:=c) (U:=U) hp;rw[<-e]at this;omega
def Rt(ds:List Nat)(str:vB)(nx:Nx)(vr:Nat->Nat)v h:=h∈ds/\nx h=none/\str h=none/\vr h=v
def Rt.one(g:JG ds str nx vr)(a:Rt ds str nx vr v h)(b:Rt ds str nx vr v h'):h=h':=g.inj h h' a.1 b.1 a.2.2.1 b.2.2.1<|a.2.2.2.trans b.2.2.2.symm
def Rt.val(hV:Can str nx vr V)(a:Rt ds str nx vr v h):V h=.var v:=by
 have:=hV h h<|.here a.2.1;rw[a.2.2.1,a.2.2.2]at this;exact this
noncomputable def tau (ds:List Nat) (str:vB) (nx:Nx) (vr:Nat->Nat) (W:Nat->Ty) (v:Nat):Ty:=by
 classical
 exact if h:∃x,Rt ds str nx vr v x then W h.choose else .var v
def LD(g:JG ds str nx vr)(a:Rt ds str nx vr v h):tau ds str nx vr W v=W h:=by
 rw[tau];have q:∃x,Rt ds str nx vr v x:=⟨h,a⟩;rw[dif_pos q,q.choose_spec.one g a]
def afd(a:¬∃x,Rt ds str nx vr v x):tau ds str nx vr W v=.var v:=by rw[tau];rw[dif_neg a]
def Pr{V:Nat->Ty}{v:Nat}:∀{l:List Nat},bK v (l.map V)->∃p,p∈l/\aD v (V p)
 |[],h=>by simp[bK]at h|x::l,h=>by
  simp only[jk,bK]at h;obtain h|h:=h
  .exact⟨x,ag,h⟩
  .have⟨p,h1,h2⟩:=Pr h;exact⟨p,by simp[h1],h2⟩
def eT{lv:Nat->Nat}(g:JG ds str nx vr)(hV:Can str nx vr V){v:Nat}:∀k n h,n∈ds->Hd nx n h->size (V n)<=k->aD v (V n)->∃x,Rt ds str nx vr v x/\(LC str ds nx lv->lv x<=lv h)
 |0,n,_,_,_,h,_=>by have:=size_pos<|V n;omega|k+1,n,h,hn,hh,hz,ho=>by
  have hd:=g.jU n h hn hh;have e:=hV n h hh
  cases hs:str h with
  |none=>
   rw[hs]at e;rw[e]at ho;exact⟨h,⟨hd,hh.head,hs,ho⟩,λ_=>br _⟩
  |some q=>
   obtain⟨c,l⟩:=q;rw[hs]at e;have e:V n=.aH c (l.map V):=e;rw[e]at ho;obtain⟨p,hp,qB⟩:=Pr (by simpa only[aD]using ho);obtain⟨y,hy⟩:=g.LA p;have Zk:size (V p)<=k:=by have:=iW (c:=c) (U:=V) hp;rw[<-e]at this;omega
   obtain⟨x,h1,h2⟩:=eT g hV k p y (g.Tp h c l hd hs p hp) hy Zk qB;exact⟨x,h1,λhl=>jt (h2 hl)<|hl h hd hh.head c l hs p hp y hy⟩
def Dt(g:JG ds str nx vr)(hV:Can str nx vr V)(hW:lM str nx W):∀k n,n∈ds->size (V n)<=k->W n=sub (tau ds str nx vr W) (V n)
 |0,n,_,h=>by have:=size_pos<|V n;omega|k+1,n,hn,hz=>by
  have⟨h,hh⟩:=g.LA n;have hd:=g.jU n h hn hh;have e:=hV n h hh
  cases hs:str h with
  |none=>
   rw[hs]at e;rw[e,hh.mF hW];exact(LD g ⟨hd,hh.head,hs,rfl⟩).symm
  |some q=>
   obtain⟨c,l⟩:=q;rw[hs]at e;have e:V n=.aH c (l.map V):=e;rw[hh.mF hW,hW.made h c l hs,e];simp only[sub];rw[iT];congr 1;refine dW λp hp=>Dt g hV hW k p (g.Tp h c l hd hs p hp) ?_;have:=iW (c:=c) (U:=V) hp;rw[<-e]at this;omega
end
def ScD(str:vB)(ds:List Nat)nx(S:Nat->Prop):=∀x,x∈ds->nx x=none->S x->∀c l,str x=some (c,l)->∀p,p∈l->∀h,Hd nx p h->S h
def r8 str ds nx(lv:Nat->Nat)ba(cq:Nat->Nat)a b:=∀S:Nat->Prop,ScD str ds nx S->(∀h,Hd nx a h->S h)->(∀h,Hd nx b h->S h)->∀m,m∈ds->∀h h',Hd nx m h->Hd ba m h'->(¬S h->h'=h/\cq h=lv h)/\(S h->S h')
section
variable {nx:Nx} {lv:Nat->Nat}
def r8.eqv(e:im str nx eI):r8 str ds nx lv eI lv x y:=λS _ _ _ m _ h h' k k'=>by
 rw[k'.one<|e.jU _ _ k];exact⟨λ_=>⟨rfl,rfl⟩,id⟩
def r8.n9(g:GL w ds str nx vr ly qE)(e:im str nx eI)(hx:Hd nx x a)(hy:Hd nx y b)(k:r8 str ds eI lv pw lF a b):r8 str ds nx lv pw lF x y:=λS hS ha hb m hm h h' q q'=>by
 refine k S (λz hz hn sz c l hs p hp z' kz=>hS z hz ((e.yT z).1 hn) sz c l hs p hp z'<|e.back g kz) (λz kz=>?_) (λz kz=>?_) m hm h h' (e.jU _ _ q) q'
 .have:z=a:=kz.one<|.here (e.jU _ _ hx).head;subst this;exact ha _ hx
 .have:z=b:=kz.one<|.here (e.jU _ _ hy).head;subst this;exact hb _ hy
def r8.pre(g:GL w ds str nx vr ly qE)(e:im str nx eI)(k:r8 str ds eI lv pw lF x y):r8 str ds nx lv pw lF x y:=λS hS ha hb m hm h h' q q'=>
 k S (λz hz hn sz c l hs p hp z' kz=>hS z hz ((e.yT z).1 hn) sz c l hs p hp z'<|e.back g kz) (λz kz=>ha z<|e.back g kz) (λz kz=>hb z<|e.back g kz) m hm h h' (e.jU _ _ q) q'
def r8.post(g:GL w ds str eI vr ly qE)(e:im str eI pw)(k:r8 str ds nx lv eI lF x y):r8 str ds nx lv pw lF x y:=λS hS ha hb m hm h h' q q'=>k S hS ha hb m hm h h' q<|e.back g q'
def p7.out(h:p7 str nx ds lv lF a b)(ha:a∈ds)(hb:b∈ds)(na:nx a=none)(nb:nx b=none)(hp:∀a,a∈ds->∀c l,str a=some (c,l)->∀m∈l,m∈ds)(hm:∀m,m∈ds->∀x,Hd nx m x->x∈ds){S}(hS:ScD str ds nx S)(sa:S a)(sb:S b){x}(hx:¬S x):lF x=lv x:=by
 have⟨qE,D1,D2,q1,q2⟩:=h.x;have cl:∀e c l p k,(S e/\e∈ds/\nx e=none)->str e=some (c,l)->p∈l->Hd nx p k->(S k/\k∈ds/\nx k=none):=λe c l p k r hs To hk=>⟨hS e r.2.1 r.2.2 r.1 c l hs p To k hk,hm p (hp e r.2.1 c l hs p To) k hk,hk.head⟩;have d1:¬D1 x:=λd=>hx (q1.re (λx=>S x/\x∈ds/\nx x=none) (λk hk=>by rw[hk.one<|.here na];exact⟨sa,ha,na⟩) cl x d).1;have d2:¬D2 x:=λd=>hx (q2.re (λx=>S x/\x∈ds/\nx x=none) (λk hk=>by rw[hk.one<|.here nb];exact⟨sb,hb,nb⟩) cl x d).1;rw[q2.no x d2,q1.no x d1]
def r8.link(h:p7 str nx ds lv lF a b)(ha:a∈ds)(hb:b∈ds)(na:nx a=none)(nb:nx b=none)(mK:a≠b)(hp:∀a,a∈ds->∀c l,str a=some (c,l)->∀m∈l,m∈ds)(hm:∀m,m∈ds->∀x,Hd nx m x->x∈ds):r8 str ds nx lv (ja nx a<|some b) lF a b:=λS hS sa sb m _ x x' k k'=>by
 have sa:=sa a<|.here na;have sb:=sb b<|.here nb;rw[kx na nb mK k k'];refine⟨λq=>?_,λq=>?_⟩
 .have e:x≠a:=λe=>q<|e▸sa;exact⟨QX,h.out ha hb na nb hp hm hS sa sb q⟩
 .grind
def r8.X9(h:p7 str nx ds lv lF a b)(ha:a∈ds)(hb:b∈ds)(na:nx a=none)(nb:nx b=none)(mK:a≠b)(hp:∀a,a∈ds->∀c l,str a=some (c,l)->∀m∈l,m∈ds)(hm:∀m,m∈ds->∀x,Hd nx m x->x∈ds):r8 str ds nx lv (ja nx b<|some a) lF a b:=λS hS sa sb m _ x x' k k'=>by
 have sa:=sa a<|.here na;have sb:=sb b<|.here nb;rw[kx nb na (Ne.symm mK) k k'];refine⟨λq=>?_,λq=>?_⟩
 .have e:x≠b:=λe=>q<|e▸sb;exact⟨QX,h.out ha hb na nb hp hm hS sa sb q⟩
 .grind
def r8.step{p q}{c c'}{l l'}(g:uH str ds nx lv eI qE)(h:r8 str ds nx lv eI qE x y)(hx:Hd nx x a)(hy:Hd nx y b)(ha:a∈ds)(hb:b∈ds)(sa:str a=some (c,l))(sb:str b=some (c',l'))(hp:p∈l)(hq:q∈l')(jU:∀a,a∈ds->∀c l,str a=some (c,l)->∀m∈l,m∈ds)(hd0:∀m,m∈ds->∃x,Hd nx m x)(Od:∀m,m∈ds->∃x,Hd eI m x)(k:r8 str ds eI qE pw lF p q):r8 str ds nx lv pw lF x y:=λS hS hxa hyb m hm h0 h2 k0 k2=>by
 have one:=h S hS hxa hyb;have pt:∀z,z∈ds->nx z=none->S z->∀c l,str z=some (c,l)->∀p,p∈l->∀t,Hd eI p t->S t:=λz hz hn sz c l hs p hp t kt=>by
  have Jp:=jU z hz c l hs p hp;have⟨t0,kt0⟩:=hd0 p Jp;exact(one p Jp t0 t kt0 kt).2 (hS z hz hn sz c l hs p hp t0 kt0)
 have⟨h1,k1⟩:=Od m hm;have a1:=one m hm h0 h1 k0 k1;have a2:=k S (λz hz hn=>pt z hz<|g.gr z hn) (pt a ha hx.head (hxa a hx) c l sa p hp) (pt b hb hy.head (hyb b hy) c' l' sb q hq) m hm h1 h2 k1 k2;refine⟨λn0=>?_,λs0=>a2.2<|a1.2 s0⟩;have⟨e1,e2⟩:=a1.1 n0;subst e1;have⟨e3,e4⟩:=a2.1 n0;exact⟨e3,e4.trans e2⟩
end
def GL.drewN{nx}{lv}(g:GL w ds str nx vr ly lv)n:GL (w.drewN n) ds str nx vr ly lv:=⟨g.nd,g.out,g.hd⟩
def GL.drew{nx}{lv}(g:GL w ds str nx vr ly lv):GL w.drew ds str nx vr ly lv:=⟨g.nd,g.out,g.hd⟩
def afe ds str nx vr ly lv x y w(e:Ending)w':=
 ∃ok ba cq,e=.returned (.bool ok)/\GL w' ds str ba vr ly cq/\Fr (λb=>b∈ds) w w'/\w'.heap.size=w.heap.size/\hc ba ds<=hc nx ds/\JR str nx ba x y ok/\(ok=true->uH str ds nx lv ba cq/\r8 str ds nx lv ba cq x y)
def LF ds str vr ly k:=∀(w:World)(nx:Nx)(lv:Nat->Nat),GL w ds str nx vr ly lv->hc nx ds<=k->∀x y,x∈ds->y∈ds->Cq 56 #[nA x,nA y] w (afe ds str nx vr ly lv x y w)
def X' ds str nx0 lv0 x y nx vr ly l l' k w gk v wr:=
 ∃j gB kP,Hid (gk=l.length-j)/\j<=l.length/\v=Nv j/\GL wr ds str gB vr ly kP/\Fr (λb=>b∈ds) w wr/\wr.heap.size=w.heap.size/\hc gB ds<=k/\JL str nx gB l l' j/\uH str ds nx0 lv0 gB kP/\r8 str ds nx0 lv0 gB kP x y
def LG(IH:LF ds str vr ly k):LF ds str vr ly (k+1):=by
 intro w nx lv G hk x y hx hy;have⟨a,DU⟩:=G.hd x hx;have⟨b,LH⟩:=G.hd y hy;have ha:a∈ds:=G.bH hx DU;have hb:b∈ds:=G.bH hy LH;have HC:=ai<|pZ G hx DU;go_enter func56,ntmps56;go_wp2_with fail;refine HC.mono ?_;rintro e w1⟨rfl,eI,G1,F1,E1,z1⟩;have rl:=ai<|pZ G1 hy<|E1.jU _ _ LH;clear HC;go_wp2_with fail;refine rl.mono ?_;rintro e w2⟨rfl,pw,G2,F2,E2,z2⟩;have E:=E1.trans E2;have FF:=F1.trans F2;have hca:=XS E ds;have DV:pw a=none:=(E.jU _ _ DU).head;have yz:pw b=none:=(E.jU _ _ LH).head;have heq:=XT (G2.nd a ha).1 (G2.nd b hb).1;have⟨ca0,fa0,ca2,_,ca3⟩:=(G2.nd a ha).cells;have⟨cb0,fb0,cb2,_,cb3⟩:=(G2.nd b hb).cells;have Jt:=ai G2;clear rl;by_cases mK:a=b
 .subst mK;simp at heq
  go_wp2
  go_ret;exact⟨true,pw,lv,rfl,G2,FF,ae,ae,(JR.same str pw a).n9 E DU LH,λ_=>⟨uH.eqv G E,r8.eqv E⟩⟩
 .have hba:¬b=a:=λq=>mK q.symm;rw[show decide (a=b)=false by simp[mK]]at heq;have⟨lb2,_⟩:=(G2.nd b hb).lvl;have HL1:=ai<|B_ _ w2 pw lv a (lv b) G2 ha<|br _;go_wp2_with fail;refine HL1.mono ?_;rintro e w3⟨rfl,nx3,lv3,D3,G3,F3,E3,z3,q3⟩;have⟨la3,_⟩:=(G3.nd a ha).lvl;have HL2:=ai<|B_ _ w3 nx3 lv3 b (lv3 a) G3 hb<|br _;clear HL1 ca0 fa0 ca2 ca3 cb0 fb0 cb2 cb3 heq lb2 Jt;go_wp2_with fail;refine HL2.mono ?_;rintro e w4⟨rfl,yU,lv4,D4,G4,F4,E4,z4,q4⟩;have Sh:Hid (p7 str yU ds lv lv4 a b):=ai ⟨lv3,D3,D4,q3.fwd G2<|E3.trans E4,q4.fwd G3 E4⟩;have HEQ:Hid (uH str ds nx lv yU lv):=ai<|uH.eqv G<|(E.trans E3).trans E4;have HMM:Hid (∀m,m∈ds->∀x,Hd yU m x->x∈ds):=ai λm hm x k=>G4.bH hm k;have DT:=ai G;have HPT:Hid (∀a,a∈ds->∀c l,str a=some (c,l)->∀m∈l,m∈ds):=ai λx hx c l hs=>(G4.part hx hs).2;clear q3 q4;have E0:=E;clear E;have E:=(E0.trans E3).trans E4;have FF4:=(FF.trans F3).trans F4;clear hca DV yz;have hca:=XS E ds;have DV:yU a=none:=(E.jU _ _ DU).head;have yz:yU b=none:=(E.jU _ _ LH).head;have⟨ca0,fa0,ca2,_,ca3⟩:=(G4.nd a ha).cells;have⟨cb0,fb0,cb2,_,cb3⟩:=(G4.nd b hb).cells;have HHD:Hid (∀m,m∈ds->∃x,Hd yU m x):=ai G4.hd;clear HL2 la3 F3 F4 G3 E3 E4
  cases Tq:str a with
  |none=>
   rw[Tq]at ca2;have ahr:w4.cell? ⟨a,3,none⟩=some (Sv ⟨#[]⟩):=ca2;clear ca2
   go_wp2
   go_ret;refine⟨true,ja yU a<|some b,lv4,rfl,G4.set ha hb<|λz hz=>?_,FF4.set (jp ha) 0 _,by simp[jy];omega,by have:=Lx (b:=b) DV ha;omega,(JR.aiU DV Tq).n9 E DU LH,λ_=>⟨HEQ.trans (uH.link Sh ha hb DV yz mK HHD HPT) HHD<|λU=>jR DV,(r8.link Sh ha hb DV yz mK HPT HMM).n9 DT E DU LH⟩⟩;have⟨q,hq⟩:=G4.hd z hz;exact⟨_,hq.join DV yz mK⟩
  |some pa=>
   obtain⟨c,l⟩:=pa;have Tr:=(G4.nd a ha).2.1;rw[Tq]at ca2 ca3 Tr;have ahr:w4.cell? ⟨a,3,none⟩=some (Sv<|pn c):=ca2;have aiX:w4.cell? ⟨a,4,none⟩=some (.slice (ly a).1 l.length (ly a).2):=ca3;obtain⟨AE,KU,hlm,aN⟩:=Tr;have hea:((pn c).toList==[])=false:=by rw[<-j8,beq_iff_eq];exact kw AE
   clear ca2 ca3
   cases Ts:str b with
   |none=>
    rw[Ts]at cb2;have ahs:w4.cell? ⟨b,3,none⟩=some (Sv ⟨#[]⟩):=cb2;clear cb2
    go_wp2
    go_ret;refine⟨true,ja yU b<|some a,lv4,rfl,G4.set hb ha<|λz hz=>?_,FF4.set (jp hb) 0 _,by simp[jy];omega,by have:=Lx (b:=a) yz hb;omega,(JR.aiV yz Ts).n9 E DU LH,λ_=>⟨HEQ.trans (uH.X9 Sh ha hb DV yz mK HHD HPT) HHD<|λU=>jR yz,(r8.X9 Sh ha hb DV yz mK HPT HMM).n9 DT E DU LH⟩⟩;have⟨q,hq⟩:=G4.hd z hz;exact⟨_,hq.join yz DV hba⟩
   |some pb=>
    obtain⟨c',l'⟩:=pb;have hPb:=(G4.nd b hb).2.1;rw[Ts]at cb2 cb3 hPb;have ahs:w4.cell? ⟨b,3,none⟩=some (Sv<|pn c'):=cb2;have aiY:w4.cell? ⟨b,4,none⟩=some (.slice (ly b).1 l'.length (ly b).2):=cb3;obtain⟨aht,ajY,aiZ,ahu⟩:=hPb;have heb:((pn c').toList==[])=false:=by rw[<-j8,beq_iff_eq];exact kw aht
    clear cb2 cb3;by_cases o8:c=c'
    .subst o8;have hbb:((pn c).toList==(pn c).toList)=true:=ag;by_cases hlen:l.length=l'.length
     .have hle:((l.length:Int)==(l'.length:Int))=true:=by simp[hlen]
      have hcu:=Lx (b:=b) DV ha;have hgs:∀z,z∈ds->∃y,Hd (ja yU a<|some b) z y:=λz hz=>by
       have⟨q,hq⟩:=G4.hd z hz;exact⟨_,hq.join DV yz mK⟩
      clear cb0 fb0 G1 F1 F2 G
      go_wp2
      go_quiet(fail);go_wp2_with fail;have LV0:Hid (uH str ds nx lv (ja yU a<|some b) lv4/\r8 str ds nx lv (ja yU a<|some b) lv4 x y):=ai ⟨HEQ.trans (uH.link Sh ha hb DV yz mK HHD HPT) HHD<|λU=>jR DV,(r8.link Sh ha hb DV yz mK HPT HMM).n9 DT E DU LH⟩;have GS:=ai<|(G4.drewN nq).set ha hb hgs;have FS:=ai<|(FF4.drewN nq).set (b:=a) (jp ha) 0<|nA b;have zs:((w4.drewN nq).setCell ⟨a,0,none⟩<|nA b).heap.size=w.heap.size:=by simp[jy];show w4.heap.size=_;omega
      go_loopg[77] l.length (λgk v wr=>X' ds str nx lv x y (ja yU a<|some b) vr ly l l' (hc (ja yU a<|some b) ds) w gk v wr)
      case atStart=>exact⟨0,ja yU a<|some b,lv4,ai ag,ju _,rfl,GS,FS,zs,br _,JL.start _ _ _ _,LV0⟩
      case round=>
       clear GS FS zs LV0;obtain⟨j,gB,kP,c_,hj,rfl,Gj,Fj,zj,hcj,JLj,LVj⟩:=hrel;have HLV:=ai LVj;have HHJ:Hid (∀m,m∈ds->∃x,Hd gB m x):=ai Gj.hd;clear LVj;by_cases bh:j<l.length
       .have hd:(j:Int)<(l.length:Int):=ae;have u7:j<l'.length:=ae;have hd':(j:Int)<(l'.length:Int):=ae;have⟨ga,ea,ra,_⟩:=Gj.row ha Tq bh;have⟨gb,eb,rb,_⟩:=Gj.row hb Ts u7;have⟨_,_,_,_,qa⟩:=(Gj.nd a ha).cells;have⟨_,_,_,_,qb⟩:=(Gj.nd b hb).cells;rw[Tq,ea]at qa;rw[Ts,eb]at qb;have qa':wr.cell? ⟨a,4,none⟩=some (Lv (some ⟨ga,0,none⟩) l.length (ly a).2):=qa;have qb':wr.cell? ⟨b,4,none⟩=some (Lv (some ⟨gb,0,none⟩) l'.length (ly b).2):=qb
        have HJ:Hid (∀W,W=wr.drew->Cq 56 #[nA l[j],nA l'[j]] W λe w'=>∃ok ba cq,e=Rv (.bool ok)/\GL w' ds str ba vr ly cq/\Fr (λb=>b∈ds) wr w'/\w'.heap.size=wr.heap.size/\hc ba ds<=hc (ja yU a<|some b) ds/\JR str gB ba l[j] l'[j] ok/\(ok=true->uH str ds gB kP ba cq/\r8 str ds gB kP ba cq l[j] l'[j])/\(w'.cell? ⟨a,4,none⟩=some (Lv (some ⟨ga,0,none⟩) l.length (ly a).2)/\w'.cell? ⟨b,4,none⟩=some (Lv (some ⟨gb,0,none⟩) l'.length (ly b).2)/\w'.cell? ⟨ga,j,none⟩=some (nA l[j])/\w'.cell? ⟨gb,j,none⟩=some (nA l'[j]))):=ai (λW hW=>by
         subst hW;refine(IH wr.drew gB kP Gj.drew ae l[j] l'[j] (hlm _<|jh _)<|aiZ _<|jh _).mono ?_;rintro e w5⟨ok,Ur,Ze,rfl,G5,F5,z5,h5,J5,L5⟩;have⟨ga5,ea5,ra5,_⟩:=G5.row ha Tq bh;have⟨gb5,eb5,rb5,_⟩:=G5.row hb Ts u7;have⟨_,_,_,_,pa⟩:=(G5.nd a ha).cells;have⟨_,_,_,_,pb⟩:=(G5.nd b hb).cells;rw[Tq,ea]at pa;rw[Ts,eb]at pb;rw[ea]at ea5;rw[eb]at eb5
         cases ea5
         cases eb5
         exact⟨ok,Ur,Ze,rfl,G5,(Fr.refl _ wr).drew.trans F5,z5,jt h5 hcj,J5,L5,pa,pb,ra5,rb5⟩)
        clear ea eb qa qb aN ahu ahr ahs aiX aiY heb hea hbb hle IH
        go_wp2
        go_region_held3(λw'=>w'.cell? ⟨a,4,none⟩=some (Lv (some ⟨ga,0,none⟩) l.length (ly a).2)/\w'.cell? ⟨b,4,none⟩=some (Lv (some ⟨gb,0,none⟩) l'.length (ly b).2)/\w'.cell? ⟨ga,j,none⟩=some (nA l[j])/\w'.cell? ⟨gb,j,none⟩=some (nA l'[j])) (first|go_keep|(simp[*])) (first|(go_at_call 56;refine(HJ _ rfl).mono ?_;rintro e w5⟨ok,Ur,Ze,rfl,hG5,hF5,hz5,h5,hJ5,hL5,k1,k2,k3,k4⟩;have HL5:=ai hL5;clear hL5;have HG5:=ai hG5;have HF5:=ai hF5;have HZ5:=ai hz5;have HJ5:=ai hJ5;clear hG5 hF5 hz5 hJ5))
        all_goals(
         cases ok with
         |true=>
          go_wp2
          go_roundg(l.length-(j+1))
          case measure=>rw[uh c_];omega
          case rel=>exact⟨j+1,Ur,Ze,ai rfl,ae,iF,HG5,Fj.trans HF5,HZ5.trans zj,h5,JLj.step bh u7 HJ5,HLV.1.trans (HL5 trivial).1 HHJ<|λU q=>((HJ5.yes rfl).1 U).1 q|>.1,r8.step HLV.1 HLV.2 DU LH ha hb Tq Ts (jh _) (jh _) HPT DT.hd HHJ (HL5 trivial).2⟩
         |false=>
          go_wp2
          go_ret
          exact⟨false,Ur,Ze,rfl,HG5,Fj.trans HF5,HZ5.trans zj,ae,(JL.fail DV Tq Ts JLj bh u7 HJ5).n9 E DU LH,λq=>mD⟩)
       .have hd:decide ((j:Int)<(l.length:Int))=false:=bQ;have ej:j=l.length:=ae;subst ej
        go_wp2
        go_ret;exact⟨true,gB,kP,rfl,Gj,Fj,zj,ae,(JL.done DV Tq Ts hlen JLj).n9 E DU LH,λ_=>HLV⟩
     .have hle:((l.length:Int)==(l'.length:Int))=false:=bQ
      go_wp2
      go_quiet(fail)
      go_wp2
      go_ret;exact⟨false,yU,lv4,rfl,G4.drewN _,FF4.drewN _,by show w4.heap.size=_;omega,ae,(JR.acM Tq Ts<|jq hlen).n9 E DU LH,λq=>mD⟩
    .have hbb:((pn c).toList==(pn c').toList)=false:=by rw[<-j8,beq_iff_eq];exact λq=>o8<|ae9 AE aht q
     go_wp2
     go_quiet(fail)
     go_wp2
     go_ret;exact⟨false,yU,lv4,rfl,G4.drewN _,FF4.drewN _,by show w4.heap.size=_;omega,ae,(JR.acM Tq Ts<|jp o8).n9 E DU LH,λq=>mD⟩
def Ya:∀k,LF ds str vr ly k
 |0=>λw nx lv G hk x y hx hy=>by
  have⟨a,DU⟩:=G.hd x hx;have:=ae_ (G.bH hx DU) DU.head;omega
 |k+1=>LG<|Ya k
mutual
def Yb{σ τ:Nat->Ty}{n:Nat}:∀t,sub σ t=sub τ t->aD n t->σ n=τ n
 |.var m,h,o=>by simp only[aD]at o;subst o;simpa[sub]using h|.aH c l,h,o=>by simp only[sub,Ty.aH.injEq,true_and]at h;exact Ps l h o
def Ps{σ τ:Nat->Ty}{n:Nat}:∀l,aS σ l=aS τ l->bK n l->σ n=τ n
 |[],_,o=>by simp[bK]at o|t::l,h,o=>by
  simp only[aS,List.cons.injEq]at h;obtain o|o:=o
  .exact Yb t h.1 o
  .exact Ps l h.2 o
end
def abl{a b}(one:sub θ a=sub θ b)(gen:∀σ,sub σ a=sub σ b->∀v,sub σ (θ v)=σ v)(idem:∀v x,aD x (θ v)->θ x=.var x):In.zS θ a b:=by
 classical
 let σ1:Nat->Ty:=λv=>if aD v a\/aD v b then θ v else .var v;have e1:∀v,aD v a\/aD v b->σ1 v=θ v:=λv h=>if_pos h;have e2:∀v,¬(aD v a\/aD v b)->σ1 v=.var v:=λv h=>if_neg h;have u1:sub σ1 a=sub σ1 b:=by rw[sub_congr a λn o=>e1 n<|jp o,sub_congr b λn o=>e1 n<|jq o];exact one
 refine⟨one,gen,λv h1 h2=>?_,λv n hv hn=>?_⟩
 .have hv:¬(aD v a\/aD v b):=λq=>q.elim h1 h2;have g:=gen σ1 u1 v;rw[e2 v hv]at g
  cases ht:θ v with
  |aH c l=>rw[ht]at g;simp[sub]at g|var x=>
   rw[ht]at g;simp only[sub]at g;by_cases hx:aD x a\/aD x b
   .rw[e1 x hx,idem v x (by rw[ht];rfl)]at g;exact g
   .grind
 .refine jx λmS=>?_;let σ2:Nat->Ty:=λx=>if x=n then .aH lT []else σ1 x;have f1:∀x,x≠n->σ2 x=σ1 x:=λx h=>if_neg h;have u2:sub σ2 a=sub σ2 b:=by rw[sub_congr a λx o=>f1 x<|λe=>mS<|jp<|e▸o,sub_congr b λx o=>f1 x<|λe=>mS<|jq<|e▸o];exact u1
  have hvn:v≠n:=λe=>mS<|e▸hv;have g1:=gen σ1 u1 v;have g2:=gen σ2 u2 v;rw[f1 v hvn]at g2;have:=Yb _ (g1.trans g2.symm) hn;rw[e2 n mS]at this;have f2:σ2 n=.aH lT []:=if_pos rfl;rw[f2]at this
  cases this
section
variable {nx:Nx}
def IA(g:JG ds str nx vr)(k:xA nx m n):Sg nx m=Sg nx n:=by grind[nx,xA,Sg,n_]
def Pt:∀{l l' hs:List Nat},gJ (xA nx) l l'->gJ (Hd nx) l' hs->gJ (Hd nx) l hs
 |[],_,_,.nil,.nil=>.nil|_::_,_,_,.cons p q,.cons r s=>by
  refine .cons ?_<|Pt q s;obtain rfl|⟨x,p1,p2⟩:=p
  .exact r
  .rw[r.one p2];exact p1
def yA{E:Nat->Nat->Prop}{f k:Nat->Ty}:∀{l m:List Nat},gJ E l m->(∀p x,p∈l->x∈m->E p x->f p=k x)->l.map f=m.map k
 |[],_,.nil,_=>rfl|_::_,_,.cons r s,h=>by
  simp only[jk];rw[h _ _ ag ag r,yA s λp x hp hx=>h p x (by simp[hp])<|by simp[hx]]
def Yc(g:JG ds str nx vr)(hV:Can str nx vr V)(g':JG ds str ba vr)(jr:JR str nx ba a b true)(hF:jc str ba vr F VF)(hh:Hd ba a h)(hFh:F h)(ha:a∈ds)(hb:b∈ds):∃U,lM str ba U:=by
 classical
 let σ:Nat->Ty:=λv=>if q:∃x,Rt ds str nx vr v x then(if F (Sg ba q.choose)then VF (Sg ba q.choose)else .var v)else .var v;have hσ:∀v x,Rt ds str nx vr v x->F (Sg ba x)->σ v=VF (Sg ba x):=λv x r f=>by
  have q:∃x,Rt ds str nx vr v x:=⟨x,r⟩;have e:q.choose=x:=q.choose_spec.one g r;show(if q:∃x,Rt ds str nx vr v x then _ else _)=_;rw[dif_pos q,e,if_pos f]
 have Eo:=jr.eqs [] _ g'.eq;have key:∀k n,n∈ds->size (V n)<=k->F (Sg ba n)->sub σ (V n)=VF (Sg ba n):=by
  intro k
  induction k with
  |zero=>intro n _ hz;have:=size_pos<|V n;omega|succ k ih=>
   intro n hn hz hf;have⟨x,hx⟩:=g.LA n;have hd:=g.jU n x hn hx;have e:=hV n x hx;have iD:=IA g'<|hx.eq Eo;rw[iD]at hf⊢
   cases hs:str x with
   |none=>
    rw[hs]at e;rw[e];exact hσ _ x ⟨hd,hx.head,hs,rfl⟩ hf
   |some q=>
    obtain⟨c,l⟩:=q;rw[hs]at e;have e:V n=.aH c (l.map V):=e;have⟨y,hy⟩:=g'.LA x;rw[n_ hy]at hf⊢;have⟨l',h1,h2⟩:=LB g' hy hs;have⟨_,h3⟩:=hF y hf;rw[h1]at h3;obtain⟨AR,h4,h5,h6⟩:=h3;rw[e,h6];simp only[sub];rw[iT];congr 1;have h7:=Pt h2 h4;have Zk:∀p,p∈l->p∈ds/\size (V p)<=k:=λp hp=>⟨g.Tp x c l hd hs p hp,by have:=iW (c:=c) (U:=V) hp;rw[<-e]at this;omega⟩;exact yA h7 λp z hp kE r=>by
     have:=ih p (Zk p hp).1 (Zk p hp).2 (by rw[n_ r];exact h5 z kE);rw[this,n_ r]
 have sV:=hV.mF g;refine⟨λn=>sub σ<|V n,((jr.yes rfl).1 _).2 ⟨⟨λn c l hs=>?_,λn m e=>by rw[sV.bz n m e]⟩,?_⟩⟩
 .rw[sV.made n c l hs];simp only[sub];rw[iT]
 .have mK:=(jr.yes rfl).2.2 [] _ g'.eq;have eab:=IA g' mK;show sub σ (V a)=sub σ (V b);rw[key _ a ha (br _) (by rw[n_ hh];exact hFh),key _ b hb (br _) (by rw[<-eab,n_ hh];exact hFh),eab]
structure ahv(ds:List Nat)str nx ba vr(V V':Nat->Ty)θ a b:Prop where
 can:Can str ba vr V'
 val:∀n,n∈ds->V' n=sub θ (V n)
 mgu:In.zS θ (V a) (V b)
 rt:∀v x,Rt ds str nx vr v x->θ v=V' x
 no:∀v,(¬∃x,Rt ds str nx vr v x)->θ v=.var v
def Yd{lv}(g:JG ds str nx vr)(hV:Can str nx vr V)(g':JG ds str ba vr)(jr:JR str nx ba a b true)(lr:uH str ds nx lv ba cq)(hF:jc str ba vr F VF)(hh:Hd ba a h)(hFh:F h)(ha:a∈ds)(hb:b∈ds):∃V' θ,ahv ds str nx ba vr V V' θ a b:=by
 have⟨U,hU⟩:=Yc g hV g' jr hF hh hFh ha hb;have⟨V',hV'⟩:=afc g' hU;have sV':=hV'.mF g';have sV:=hV.mF g;have sVn:=(((jr.yes rfl).1 V').1 sV').1;have hrt:∀v x,Rt ds str ba vr v x->Rt ds str nx vr v x:=λv x r=>⟨r.1,lr.gr x r.2.1,r.2.2⟩;have val:∀n,n∈ds->V' n=sub (tau ds str nx vr V') (V n):=λn hn=>Dt g hV sVn _ n hn<|br _;have rt:∀v x,Rt ds str nx vr v x->tau ds str nx vr V' v=V' x:=λv x r=>LD g r;have no:∀v,(¬∃x,Rt ds str nx vr v x)->tau ds str nx vr V' v=.var v:=λv q=>afd q;have mK:=(jr.yes rfl).2.2 [] _ g'.eq;refine⟨V',tau ds str nx vr V',hV',val,abl ?_ (λσ e v=>?_)<|λv x o=>?_,rt,no⟩
 .rw[<-val a ha,<-val b hb];exact hV'.same mK
 .have hW:lM str ba (λn=>sub σ<|V n):=((jr.yes rfl).1 _).2 ⟨⟨λn c l hs=>by rw[sV.made n c l hs];simp only[sub];rw[iT],λn m e=>by rw[sV.bz n m e]⟩,e⟩;have hWn:∀n,n∈ds->sub σ (V n)=sub σ (V' n):=λn hn=>by
   have h1:=Dt g' hV' hW _ n hn<|br _;have h1:=h1;rw[h1];refine sub_congr _ λw o=>?_;have⟨y,hy⟩:=g'.LA n;have⟨x,r,_⟩:=eT (lv:=cq) g' hV' _ n y hn hy (br _) o;rw[LD g' r];show sub σ (V x)=σ w;rw[(hrt w x r).val hV];rfl
  by_cases q:∃x,Rt ds str nx vr v x
  .obtain⟨x,r⟩:=q;rw[rt v x r,<-hWn x r.1,r.val hV];rfl
  .rw[no v q];rfl
 .by_cases q:∃y,Rt ds str nx vr v y
  .obtain⟨y,r⟩:=q;rw[rt v y r]at o;have⟨z,hz⟩:=g'.LA y;have⟨x',r',_⟩:=eT (lv:=cq) g' hV' _ y z r.1 hz (br _) o;rw[rt x x'<|hrt x x' r',r'.val hV']
  .have q':=no v q;rw[q']at o;simp only[aD]at o;subst o;exact q'
def Lo ds str nx(vr lv:Nat->Nat)i v:=∃x,Rt ds str nx vr v x/\lv x<=i
def Ye{lv}{V'}(g:JG ds str nx vr)(hV:Can str nx vr V)(g':JG ds str ba vr)(lr:uH str ds nx lv ba cq)(hl:LC str ds nx lv)(jw:ahv ds str nx ba vr V V' θ a b)i w:Lo ds str ba vr cq i w↔∃v,Lo ds str nx vr lv i v/\aD w (θ v):=by
 constructor
 .rintro⟨x,r,hx⟩
  have hL:=lr.low i V' (jw.can.mF g') (λt=>∀w,aD w t->∃v,Lo ds str nx vr lv i v/\aD w (θ v)) (λc ts q t ht w o=>q w (by
   simp only[aD];clear q
   induction ts with
   |nil=>simp at ht|cons y ts ih=>
    obtain e|e:=List.mem_cons.1 ht
    .subst e;exact jp o
    .exact jq (ih e))) (λm hm y hy VD w o=>by
   rw[jw.val m hm]at o;have⟨v,o1,o2⟩:=(qd _).1 o;have⟨z,r1,r2⟩:=eT (lv:=lv) g hV _ m y hm hy (br _) o1
   exact⟨v,⟨z,r1,jt (r2 hl) VD⟩,o2⟩) x r.1 x (.here r.2.1) hx
  exact hL w (by rw[r.val jw.can];rfl)
 .rintro⟨v,⟨x,r,hx⟩,o⟩;rw[jw.rt v x r]at o;have⟨y,hy⟩:=g'.LA x;have⟨z,r1,r2⟩:=eT (lv:=cq) g' jw.can _ x y r.1 hy (br _) o;exact⟨z,r1,jt (r2<|lr.lc hl)<|jt (lr.mono x r.1 x y (.here r.2.1) hy) hx⟩
end
section
variable {nx:Nx} {lv:Nat->Nat}
theorem GL.move(h:GL w ds str nx vr ly lv)(hs:w.heap.size<=w'.heap.size)(hb:∀b i v,w.cell? ⟨b,i,none⟩=some v->w'.heap[b]? =w.heap[b]?):GL w' ds str nx vr ly lv:=by
 refine⟨λn hn=>?_,h.out,h.hd⟩;have hc:=(h.nd n hn).cells.1;have⟨h1,h2,h3⟩:=h.nd n hn;exact⟨(hb n 0 _ hc).trans h1,h2.move hs hb,h3⟩
def yx.lt(h:yx w ds str nx vr ly lv n):n<w.heap.size:=(Array.getElem?_eq_some_iff.1 h.1).1
end
def GL.one{nx}{lv}(h:GL w ds str nx vr ly lv)(o:One b w w')(h1:¬b∈ds)(h4:∀m∈ds,∀c l g,str m=some (c,l)->l≠[]->(ly m).1=some ⟨g,0,none⟩->g≠b):GL w' ds str nx vr ly lv:=by
 refine⟨λn hn=>?_,h.out,h.hd⟩;have⟨p1,p2,p3⟩:=h.nd n hn;have dw:n≠b:=λe=>h1<|e▸hn;refine⟨(o.block n dw).trans p1,?_,p3⟩;have h5:=h4 n hn
 cases hs:str n with
 |none=>trivial|some p=>
  obtain⟨c,l⟩:=p;rw[hs]at p2;obtain⟨q1,q2,q3,q4⟩:=p2;refine⟨q1,q2,q3,?_⟩;by_cases e:l=[]
  .exact jp e
  .have⟨g,r1,r2,r3,r4⟩:=q4.resolve_left e;have hg:=h5 c l g hs e r1;refine jq ⟨g,r1,r2,by rw[o.size];exact r3,λi hi=>?_⟩;rw[jz (a:=⟨g,i,none⟩) (w:=w)<|o.block g hg];exact r4 i hi
def GL.ahw{nx}{lv}(h:GL w ds str nx vr ly lv)(hm:m∈ds){g}(hs:str m=some (c,l))(hl:l≠[])(hg:(ly m).1=some ⟨g,0,none⟩):g<w.heap.size:=by
 have⟨_,p2,_⟩:=h.nd m hm;rw[hs]at p2;have⟨g',r1,_,r3,_⟩:=p2.2.2.2.resolve_left hl;rw[hg]at r1;injection r1 with r1;injection r1 with r1;subst r1;exact r3
def Si ds str nx vr ly lv T w(e:Ending)w':=
 ∃u ba,e=.returned u/\dE w' (λb=>w.heap.size<=b) T u/\GL w' ds str ba vr ly lv/\im str nx ba/\Fr (λb=>b∈ds) w w'
def LI ds str vr ly lv F V k:=
 ∀(w:World)(nx:Nx)(n h:Nat),GL w ds str nx vr ly lv->jc str nx vr F V->n∈ds->Hd nx n h->F h->size (V h)<=k->Cq 58 #[nA n] w (Si ds str nx vr ly lv (V h) w)
def Yf ds str nx vr ly lv N(L:List Ty)w gk v wr:=
 ∃(j:Nat)(C:Array Value)(gB:Nx),Hid (gk=N-j)/\j<=N/\v=Nv j/\GL wr ds str gB vr ly lv/\im str nx gB/\Fr (λb=>b∈ds) w wr/\Bx wr w.heap.size C/\Hid (C.size=N)/\
  Hid (∀i(h:i<L.length),i<j->∃u,C[i]? =some u/\dE wr (λb=>w.heap.size<b/\b<wr.heap.size) L[i] u)
section
variable {lv:Nat->Nat}
def LJ(IH:LI ds str vr ly lv F V k):LI ds str vr ly lv F V (k+1):=by
 intro w nx n h G0 hF hn hd hFh eG;have hh:h∈ds:=G0.bH hn hd;have HC:=ai<|pZ G0 hn hd;go_enter func58,ntmps58;go_wp2_with fail;refine HC.mono ?_;rintro e w1⟨rfl,eI,G1,F1,E1,z1⟩;have hF1:=Fin.eqv hF E1;obtain⟨c0,f0,c2,c1,c3⟩:=(G1.nd h hh).cells;have Tr:=(G1.nd h hh).2.1;obtain⟨_,hV⟩:=hF1 h hFh;have zU:∀x∈ds,x<w1.heap.size:=λx hx=>(G1.nd x hx).lt;clear HC G0 hF
 cases hs:str h with
 |none=>
  rw[hs]at c2 hV;have c2':w1.cell? ⟨h,3,none⟩=some (.string ⟨#[]⟩):=c2;clear c2 c3 Tr;have hV':V h=.var (vr h):=hV;clear hV
  go_wp2
  go_ret;refine⟨_,eI,rfl,?_,G1,E1,F1⟩;rw[hV'];exact .var _
 |some p=>
  obtain⟨c,l⟩:=p;rw[hs]at c2 hV c3 Tr;obtain⟨AE,hl,hld,_⟩:=Tr;have c2':w1.cell? ⟨h,3,none⟩=some (.string<|pn c):=c2;have c3':w1.cell? ⟨h,4,none⟩=some (.slice (ly h).1 l.length (ly h).2):=c3;have dw:((pn c).toList==[])=false:=by
   rw[<-j8,beq_iff_eq];exact kw AE
  obtain⟨iD,a2,W_,hVh⟩:=hV;have hlen:=yw a2;obtain⟨i0,vH,oW,lY,kE⟩:=info_parts fU;have Ti:=iV (by_:=16) d_ vH oW rfl lY kE aK l.length hl;rw[hVh]at eG;have ai0:∀x∈iD,size (V x)<=k:=λx hx=>by have:=l8 (V:=V) hx;simp[size]at eG;omega
  have HL:=ai hlen;have HZ:=ai z1;have HV:=ai hVh;obtain⟨sa,HA⟩:∃sa,Hid<|(ly h).1=sa:=⟨_,ai rfl⟩;rw[uh HA]at c3';clear c2 c3 hlen z1 hVh
  go_wp2
  go_loopg[29] l.length (λgk v wr=>Yf ds str eI vr ly lv l.length (iD.map V) w1 gk v wr)
  case atStart=>
   have bR:Bq w1 (w1.alloc<|.cells (Array.replicate l.length .nilIface) 67):=bw _;refine⟨0,Array.replicate l.length .nilIface,eI,ai ag,ju _,rfl,G1.move bR.size<|λb i v hc=>bR.block b<|iQ hc,im.refl _ _,Fr.of bR,Bx.new w1 _ _,ai ag,ai<|λi _ hi=>absurd hi<|jv _⟩
  case round=>
   obtain⟨j,C,gB,c_,hj,rfl,GJ,EJ,FJ,BJ,hC,hT⟩:=hrel;have zw:=FJ.size;have zb:=BJ.z;obtain⟨d0,e0,d2,d1,d3⟩:=(GJ.nd h hh).cells;rw[hs]at d2;have d2':wr.cell? ⟨h,3,none⟩=some (.string<|pn c):=d2;clear d0 e0 d2 d1 d3 c0 f0 c1 c2' c3' Ti;by_cases bh:j<l.length
   .have hdj:(j:Int)<(l.length:Int):=ae;obtain⟨ga,ea,cg,hga⟩:=GJ.row hh hs bh;have u7:j<iD.length:=by rw[<-uh HL];exact bh
    have hdh:=EJ.jU _ _<|Dr a2 j bh u7;have HC:=IH wr gB l[j] iD[j] GJ (Fin.eqv hF1 EJ) (hld _<|jh bh) hdh (W_ _<|jh u7)<|ai0 _<|jh u7;have ea':=HA.symm.trans ea;subst ea';clear ea;go_wp2_with fail;refine HC.mono ?_;rintro e w2⟨u,pw,rfl,hU,G2,E2,F2⟩;obtain⟨tu,xu,rfl⟩:=hU.iface;have hpb:¬w1.heap.size∈ds:=λq=>by have:=zU _ q;omega
    have B2:=BJ.fr F2 hpb;have uw:j<C.size:=qBh;have cj:w2.cell? ⟨w1.heap.size,j,none⟩=some C[j]:=(B2.c j).trans<|Array.getElem?_eq_getElem uw;have fj:=B2.f j;have B3:=ai<|B2.aO j (.iface tu xu) (C.setIfInBounds j<|.iface tu xu) rfl uw;have HU:=ai hU;have HF:=ai F2;have yN:=ai<|FJ.trans F2;have HE:=ai<|EJ.trans E2;have z2:=F2.size;have G3:=ai (G2.one (One.cell w2 w1.heap.size j<|.iface tu xu) hpb (λm hm c' l' g' e1 e2 e3=>by have:=G1.ahw hm e1 e2 e3;omega));clear HC hU G2 E2 F2 B2 cg d2'
    go_wp2
    go_roundg(l.length-(j+1))
    case measure=>rw[uh c_];omega
    case rel=>
     refine⟨j+1,C.setIfInBounds j<|.iface tu xu,pw,ai rfl,ae,iF,G3,HE,yN.set (jq<|br _) j _,B3,ai (by simp;exact hC),ai<|λi hi Y'=>?_⟩;have iC:∀b,w1.heap.size<b->b<w2.heap.size->(w2.setCell ⟨w1.heap.size,j,none⟩<|.iface tu xu).heap[b]? =w2.heap[b]? :=λb hb _=>Below.heap_setCell _ _ _ _ (by show b≠w1.heap.size;omega);have Zq:(w2.setCell ⟨w1.heap.size,j,none⟩<|.iface tu xu).heap.size=w2.heap.size:=xH;by_cases e:i=j
     .subst e;refine⟨.iface tu xu,by simp[uw],?_⟩;rw[List.getElem_map];exact HU.low.move ae (λb p z=>iC b qAy z)<|λb p z=>⟨qAy,ae⟩
     .obtain⟨u',ux,uy⟩:=uh hT i hi ae;refine⟨u',by rw[Array.getElem?_setIfInBounds_ne ae];exact ux,?_⟩;have h3:=uy.fr HF (λb p _ q=>by have:=zU _ q;omega);exact h3.move ae (λb p z=>iC b p.1 z)<|λb p z=>⟨p.1,ae⟩
   .have hdj:decide ((j:Int)<(l.length:Int))=false:=bQ;have ej:j=l.length:=ae;subst ej
    go_wp2
    go_ret;refine⟨_,gB,rfl,?_,GJ,E1.trans EJ,F1.trans FJ⟩;have hlm:(iD.map V).length=l.length:=by rw[List.length_map];exact HL.symm
    rw[uh HV,<-hlm];have z1:=uh HZ;refine .aH c _ _ _ (λi=>C.getD i .nilIface) AE (jq ⟨w1.heap.size,rfl,by show w.heap.size<=w1.heap.size;omega,zb,λi hi=>?_⟩) (λi hi=>?_)
    .obtain⟨u,hu,_⟩:=uh hT i hi ae;rw[BJ.c i,hu];simp[Array.getD_eq_getD_getElem?,hu]
    .obtain⟨u,hu,Qv⟩:=uh hT i hi ae;have:C.getD i .nilIface=u:=qBm;rw[this];exact Qv.wide λb p=>qAu
def Pw:∀k,LI ds str vr ly lv F V k
 |0=>λw nx n h G hF hn hd hFh eG=>absurd eG (by have:=size_pos<|V h;omega)|k+1=>LJ<|Pw k
end
def Px{w:World}{ds:List Nat}{str:vB}{nx:Nx}{vr:Nat->Nat}{ly:Nat->Option Addr×Nat}{lv:Nat->Nat}(G:GL w ds str nx vr ly lv):∀l:List Nat,(∀m∈l,m∈ds)->∃hs,gJ (Hd nx) l hs
 |[],_=>⟨[],.nil⟩|x::l,h=>by
  have⟨y,hy⟩:=G.hd x<|h x ag;have⟨hs,q⟩:=Px G l λm hm=>h m (by simp[hm]);exact⟨y::hs,.cons hy q⟩
def Sj ds str nx vr ly lv sb M(F:Nat->Prop)B(V:Nat->Ty)n w(e:Ending)w':=
 ∃ba,GL w' ds str ba vr ly lv/\im str nx ba/\Fr (λb=>b∈ds\/b=sb) w w'/\
  ((∃M' F' V' h,e=.returned (.tuple #[.int .i64 ((min (size<|V' h) 49:Nat):Int),.bool true])/\Hd nx n h/\F' h/\(∀x,F x->F' x/\V' x=V x)/\SZ ds str ba vr M' F' B V'/\MS zV w' sb M'/\(∀x,aY x M'=none->aY x M=none))\/
   (e=.returned (.tuple #[Iv 0,.bool false])/\∀W,¬lM str nx W))
def Du ds str vr ly lv sb k:=
 ∀(w:World)(nx:Nx)(M:List (Nat×Value))(F:Nat->Prop)(B:List Nat)(V:Nat->Ty)(n:Nat),GL w ds str nx vr ly lv->SZ ds str nx vr M F B V->MS zV w sb M->n∈ds->(∀W,lM str nx W->∀b∈B,size (W n)<size (W b))->mu M ds<k->
  Cq 85 #[.agg #[Iv 48,Mv sb],nA n] w (Sj ds str nx vr ly lv sb M F B V n w)
def Py ds str nx vr ly lv sb bx M(F:Nat->Prop)B(V:Nat->Ty)N(hs:List Nat)w gk u v wr:=
 ∃(j:Nat)(gB:Nx)(Mj:List (Nat×Value))(Fj:Nat->Prop)(Vj:Nat->Ty)(sz:Nat),Hid (gk=N-j)/\j<=N/\u=Nv sz/\v=Nv j/\sz<=49/\Hid (sz=min (1+ah ((hs.take j).map Vj)) 49)/\GL wr ds str gB vr ly lv/\im str nx gB/\Fr (λb=>b∈ds\/b=sb) w wr/\Bx wr bx #[Iv 48,Mv sb]/\
  Hid (SZ ds str gB vr Mj Fj B Vj)/\MS zV wr sb Mj/\Hid ((∀x,F x->Fj x/\Vj x=V x)/\(∀x,aY x Mj=none->aY x M=none)/\∀x∈hs.take j,Fj x)
section
variable {lv:Nat->Nat}
def LK(IH:Du ds str vr ly lv sb k):Du ds str vr ly lv sb (k+1):=by
 intro w nx M F B V n G0 HS M0 hn hB hmu;have⟨h,HD⟩:=G0.hd n hn;have hh:=G0.bH hn HD;have⟨bR,BA⟩:=mM w #[.int .i64 48,.map<|some sb] 190;have GA:=G0.move bR.size<|λb i v hc=>bR.block b<|iQ hc;have HC:=pZ GA hn HD;have zs:=M0.lt;have MA:=M0.below bR;have zU:∀x∈ds,x<w.heap.size:=λx hx=>(G0.nd x hx).lt;have hsd:¬sb∈ds:=λq=>by have:=(G0.nd sb q).cells.1;rw[M0.pY 0]at this;cases this
 have yz:¬w.heap.size∈ds:=λq=>by have:=zU _ q;omega
 go_enter func85,ntmps85;go_wp2_with fail;refine HC.mono ?_;rintro e w1⟨rfl,eI,G1,F1,E1,HZ⟩;have B1:=BA.fr F1 yz;have HM:=MA.same (F1.block sb (by have:=bR.size;omega) hsd);have HOK:∀x∈ds,∃c t,w1.heap[x]? =some (Cv c t (0,0)):=λx hx=>⟨_,_,(G1.nd x hx).1⟩;have hl:=HM.look XX Tryz.underlying188 (Oz w1) h (HOK h hh) (λp hp=>HOK p.1<|HS.kd p hp) true;have ca:=B1.c 0;have cb:=B1.c 1;have ca':=ca;have cb':=cb;have FF:Fr (λb=>b∈ds\/b=sb) w w1:=(Fr.of bR).trans' F1<|λx q=>Or.inl<|Or.inl q;have HD1:=E1.jU _ _ HD;clear HC GA BA MA G0 M0 ca cb
 cases hg:aY h M with
 |some v=>
  rw[hg]at hl;simp at hl;obtain q|q:=HS.gm h v hg
  .have hv:=HS.fg h q;rw[hg]at hv;injection hv with hv;subst hv;have HP:=Pp<|V h;have kO:((((min (size<|V h) 49:Nat)):Int)==0)=false:=by simpa using HP
   generalize hq:(((min (size<|V h) 49:Nat)):Int)=sz at*
   go_wp2
   go_ret2;refine⟨eI,G1,E1,FF,jp ⟨M,F,V,h,?_,HD,q,λx hx=>⟨hx,rfl⟩,HS.eqv E1,HM,λ_ hx=>hx⟩⟩;have e1:(sz !=0)=true:=by simpa using HP
   rw[hq];show Rv (Value.tuple #[.int .i64 sz,.bool<|sz !=0])=_;rw[e1]
  .have hv:=HS.bg h q;rw[hg]at hv;injection hv with hv;subst hv
   go_wp2
   go_ret2;refine⟨eI,G1,E1,FF,jq ⟨rfl,λW hW=>?_⟩⟩;have:=hB W hW h q;rw[HD.mF hW]at this;omega
 |none=>
  rw[hg]at hl;simp at hl;have⟨c0,f0,c2,c1,c3⟩:=(G1.nd h hh).cells;have Tr:=(G1.nd h hh).2.1;obtain⟨l,HLs,KU,hld⟩:∃l:List Nat,Hid ((str h=none/\l=[])\/∃c,str h=some (c,l))/\slN (str h)=l.length/\∀m∈l,m∈ds:=by
   cases hs:str h with
   |none=>exact⟨[],ai<|jp ⟨rfl,rfl⟩,rfl,ag⟩|some p=>
    rw[hs]at Tr;exact⟨p.2,ai<|jq ⟨p.1,rfl⟩,rfl,Tr.2.2.1⟩
  have ajZ:l.length<=1001:=by
   obtain⟨_,e⟩|⟨c,e⟩:=uh HLs
   .subst e;simp
   .rw[e]at Tr;exact Tr.2.1
  have⟨hs,a2⟩:=Px G1 l hld;have HL:=yw a2;obtain⟨sa,HA⟩:∃sa,Hid<|(ly h).1=sa:=⟨_,ai rfl⟩;rw[uh HA,KU]at c3;have c3':=c3;have HS:=HS.eqv E1;have kdS:=HS.kd;have hhb:h≠sb:=λe=>hsd<|e▸hh;clear c3 KU c0 c1 c2 f0 Tr;go_wp2_with(refine aU _ rfl _ _ _ _ (jq rfl) XX j7 _ _ rfl HM h (.int .i64 0) rfl rfl (HOK h hh) (λp hp=>HOK p.1<|kdS p hp) ?_;intro w2 H' O';have AD:=ai H';have O2:=O';clear H' O';have ai1:w2.cell? ⟨h,4,none⟩=some (Lv sa l.length (ly h).2):=(jz (a:=⟨h,4,none⟩) (w:=w1)<|O2.block h hhb).trans c3');have FP:Fr (λb=>b∈ds\/b=sb) w w2:=⟨O2.os.trans FF.os,O2.tape.trans FF.tape,O2.output.trans FF.output,by rw[O2.size];exact FF.size,λb hz hn=>(O2.block b<|λe=>hn<|jq e).trans<|FF.block b hz hn⟩;have HBL:∀(gB:Nx),im str eI gB->∀j(hj:j<l.length)W,lM str gB W->∀b∈h::B,size (W l[j])<size (W b):=by
   intro gB EJ j hj W hW b hb;have hW0:=((E1.trans EJ).mF W).1 hW;have e1:=HD.mF hW0;have bA:size (W l[j])<size (W h):=by
    obtain⟨_,e⟩|⟨c,e⟩:=uh HLs
    .subst e;simp at hj
    .rw[hW0.made h c l e];have:=l8 (V:=W)<|jh hj;simp[size];omega
   obtain q|q:=List.mem_cons.1 hb
   .rw[q];exact bA
   .have:=hB W hW0 b q;rw[e1]at this;omega
  have HGM:=hg;have ai2:mu (bD h (.int .i64 0) M) ds<k:=by have:=XW HGM (.int .i64 0) hh;omega
  have ahx:∀b i v,w1.cell? ⟨b,i,none⟩=some v->w2.heap[b]? =w1.heap[b]? :=λb i v hc=>O2.block b (λe=>by subst e;rw[HM.pY i]at hc;cases hc);have G2:=G1.move (by rw[O2.size];exact br _) ahx;have B2:=B1.one O2 ae;clear hl ca' cb' c3' ai1;go_loopg[8,34] l.length (λgk u v wr=>Py ds str eI vr ly lv sb w.heap.size (bD h (.int .i64 0) M) F (h::B) V l.length hs w gk u v wr)
  case atStart=>
   exact⟨0,eI,bD h (.int .i64 0) M,F,V,1,ai ag,ju _,rfl,rfl,ae,ai<|by simp[ah],G2,im.refl _ _,FP,B2,ai<|HS.begin hh HGM,uh AD,ai ⟨λx hx=>⟨hx,rfl⟩,λ_ hx=>hx,ag⟩⟩
  case round=>
   obtain⟨j,gB,Mj,Fj,Vj,sz,c_,hj,rfl,rfl,eG,hsq,GJ,EJ,FJ,BJ,SJ,HMJ,hT⟩:=hrel;have zw:=FJ.size;have zb:=BJ.z;have ca:=BJ.c 0;have cb:=BJ.c 1;by_cases bh:j<l.length
   .have hdj:(j:Int)<(l.length:Int):=ae;obtain⟨c,hsc⟩:∃c,Hid<|str h=some (c,l):=by
     obtain⟨_,e⟩|⟨c,e⟩:=uh HLs
     .subst e;simp at bh
     .exact⟨c,ai e⟩
    have⟨ga,ea,cg,hga⟩:=GJ.row hh (uh hsc) bh;have u7:j<hs.length:=by rw[<-HL];exact bh
    have hdh:=EJ.jU _ _<|Dr a2 j bh u7;have hmj:mu Mj ds<k:=Nat.lt_of_le_of_lt (Ds (uh hT).2.1 ds) ai2;have HC:=IH wr gB Mj Fj (h::B) Vj l[j] GJ SJ HMJ (hld _<|jh bh) (HBL gB EJ j bh) hmj;have ea':=(uh HA).symm.trans ea;subst ea';clear ea;go_wp2_with fail;refine HC.mono ?_;rintro e w3⟨nx3,G3,E3,F3,⟨M3,F3',V3,h3,rfl,hd3,hF3,hV3,S3,MS3,hg3⟩|⟨rfl,mS⟩⟩
    .have e3:=hd3.one hdh;subst e3;obtain⟨s2,AR⟩:∃s2,Hid<|s2=min (size<|V3 hs[j]) 49:=⟨_,ai rfl⟩;rw[<-uh AR];have aj0:s2<=49:=by rw[uh AR];omega
     have B3:=BJ.fr F3 (λq=>by obtain q|q:=q;exact yz q;omega);have ca3:=B3.c 0;have ai3:∀(x:Bool)(w:World),(Op.unary .not<|.bool x).run j5 w=.ok (.bool<|!x) w:=λ_ _=>rfl;clear HC ca cb cg
     have HR:∀sz',sz'<=49->sz'=min (sz+s2) 49->Py ds str eI vr ly lv sb w.heap.size (bD h (.int .i64 0) M) F (h::B) V l.length hs w (l.length-(j+1)) (.int .i64 (sz':Int)) (.int .i64<|(j:Int)+1) w3:=(λsz' lY kE=>by
      have⟨t1,t2,t3⟩:=uh hT;have ai4:∀x∈hs.take (j+1),F3' x:=λx hx=>by
       rw[ji u7]at hx;obtain q|q:=List.mem_append.1 hx
       .exact(hV3 x<|t3 x q).1
       .simp at q;rw[q];exact hF3
      have hmp:(hs.take j).map V3=(hs.take j).map Vj:=by
       apply jl;intro x hx;exact(hV3 x<|t3 x hx).2
      have ai5:∀(a:List Ty)(t:Ty),ah (a++[t])=ah a+size t:=by
       intro a t
       induction a with
       |nil=>simp[ah]|cons x a ih=>simp[ah,ih];omega
      refine⟨j+1,nx3,M3,F3',V3,sz',ai rfl,ae,rfl,iF,lY,ai ?_,G3,EJ.trans E3,FJ.trans F3,B3,ai S3,MS3,ai ⟨λx hx=>⟨(hV3 x (t1 x hx).1).1,((hV3 x (t1 x hx).1).2).trans (t1 x hx).2⟩,λx hx=>t2 x<|hg3 x hx,ai4⟩⟩;rw[ji u7,List.map_append,hmp];simp only[jk,List.map_nil];rw[ai5,kE,uh hsq,uh AR]
      omega)
     clear hd3 hF3 hV3 S3 MS3 hg3 hT hsq AR G3 E3 F3;go_wp2_with fail;all_goals(go_roundg(l.length-(j+1)))
     all_goals(first|(rw[uh c_];omega)|exact HR 49 ae (by omega)|(have:=HR (sz+s2) ae ae;rw[Int.natCast_add]at this;exact this))
    .have ai3:∀(x:Bool)(w:World),(Op.unary .not<|.bool x).run j5 w=.ok (.bool<|!x) w:=λ_ _=>rfl;clear HC ca cb cg
     go_wp2
     go_ret2;exact⟨nx3,G3,(E1.trans EJ).trans E3,FJ.trans F3,jq ⟨rfl,λW hW=>mS W<|((E1.trans EJ).mF W).2 hW⟩⟩
   .have hdj:decide ((j:Int)<(l.length:Int))=false:=bQ;have ej:j=l.length:=ae;subst ej;have bA:hs.take l.length=hs:=by rw[HL];exact jm
    have⟨t1,t2,t3⟩:=uh hT;have abm:=uh hsq;rw[bA]at t3 abm
    obtain⟨T,HT1,HT2⟩:∃T:Ty,Hid (sz=min (size T) 49)/\Hid (match str h with
     |none=>T=.var (vr h)|some (c,l)=>∃hs,gJ (Hd gB) l hs/\(∀y,y∈hs->Fj y)/\T=.aH c (hs.map Vj)):=by
     obtain⟨e1,e2⟩|⟨c,e⟩:=uh HLs
     .have e3:hs=[]:=by
       have:=HL;rw[e2]at this;exact List.length_eq_zero_iff.1 this.symm
      refine⟨.var<|vr h,ai ?_,ai<|by rw[e1]⟩;rw[abm,e3];simp[ah,size]
     .refine⟨.aH c<|hs.map Vj,ai ?_,ai ?_⟩
      .rw[abm];simp[size]
      .rw[e];exact⟨hs,yv (λx y q=>EJ.jU x y q) a2,t3,rfl⟩
    have hxB:¬h∈B:=λq=>by
     have:=HS.bg h q;rw[HGM]at this
     cases this
    have SD:=SJ.done hxB hh ((EJ.yT h).2<|(E1.jU _ _ HD).head) T HT2;have ahy:∀x∈ds,∃c t,wr.heap[x]? =some (Cv c t (0,0)):=(λx hx=>⟨_,_,(GJ.nd x hx).1⟩);have kdJ:=(uh SJ).kd;have HTT:=And.intro t1 t2;clear hsq abm t1 t2 t3 hT bA HT2;go_wp2_with(refine aU _ rfl _ _ _ _ (jq rfl) XX j7 _ _ rfl HMJ h (.int .i64 (sz:Int)) rfl rfl (ahy h hh) (λp hp=>ahy p.1<|kdJ p hp) ?_;intro w4 H' O';have HM4:=ai H';have O4:=O';clear H' O');go_ret2;obtain⟨t1,t2⟩:=HTT;have hsT:=uh HT1;have SD':=SD;rw[<-hsT]at SD';have hkp:∀b i v,wr.cell? ⟨b,i,none⟩=some v->w4.heap[b]? =wr.heap[b]? :=λb i v hc=>O4.block b (λe=>by subst e;rw[HMJ.pY i]at hc;cases hc);refine⟨gB,GJ.move (by rw[O4.size];exact br _) hkp,E1.trans EJ,⟨O4.os.trans FJ.os,O4.tape.trans FJ.tape,O4.output.trans FJ.output,by rw[O4.size];exact FJ.size,λb hz hn=>(O4.block b<|λe=>hn<|jq e).trans<|FJ.block b hz hn⟩,jp ⟨bD h (.int .i64 (sz:Int)) Mj,λy=>Fj y\/y=h,ja Vj h T,h,?_,HD,jq rfl,λx hx=>⟨jp (t1 x hx).1,?_⟩,SD',uh HM4,λx hx=>?_⟩⟩
    .have e1:ja Vj h T h=T:=Nz;rw[e1,<-hsT];rfl
    .have dw:x≠h:=λe=>by subst e;exact(uh SJ).apart (t1 x hx).1 ag
     simp only[ja,dw,if_false];exact(t1 x hx).2
    .rw[aJ]at hx;split at hx
     .cases hx
     .have:=t2 x hx;rw[aJ]at this;split at this
      .cases this
      .exact this
def Pz:∀k,Du ds str vr ly lv sb k
 |0=>λw nx M F B V n _ _ _ _ _ hmu=>absurd hmu (jv _)|k+1=>LK<|Pz k
end
section
variable {nx:Nx} {lv:Nat->Nat}
def abn ds str nx vr ly lv n w(e:Ending)w':=
 ∃ba,GL w' ds str ba vr ly lv/\im str nx ba/\Fr (λb=>b∈ds) w w'/\
  ((∃F V h,e=.returned (.tuple #[.int .i64 ((min (size<|V h) 49:Nat):Int),.bool true])/\Hd nx n h/\F h/\jc str ba vr F V/\∀x,F x->x∈ds)\/
   (e=.returned (.tuple #[Iv 0,.bool false])/\∀W,¬lM str nx W))
def uI(G:GL w ds str nx vr ly lv)(hn:n∈ds):Cq 57 #[nA n,Iv 48] w (abn ds str nx vr ly lv n w):=by
 have iE:= @run_makeMap Tryz.prog;have bR:Bq w (w.alloc<|.map #[] 0):=bw _;have GA:=G.move bR.size<|λb i v hc=>bR.block b<|iQ hc;have S0:SZ ds str nx vr [] (λ_=>False) [] (λ_=>.var 0):=⟨λ_ q=>q.elim,λ_ q=>q.elim,λ_ q=>(List.not_mem_nil q).elim,λx v q=>(by simp[aY]at q),λ_ q=>(List.not_mem_nil q).elim⟩;have HC:=Pz (mu [] ds+1) (w.alloc<|.map #[] 0) nx [] (λ_=>False) [] (λ_=>.var 0) n GA S0 (MS.new zV w) hn (λ_ _ b hb=>by simp at hb) (Nat.lt_succ_self _);have zU:∀x∈ds,x<w.heap.size:=λx hx=>(G.nd x hx).lt;go_enter func57,ntmps57;go_wp2_with fail;refine HC.mono ?_
 have u_:∀w',Fr (λb=>b∈ds\/b=w.heap.size) (w.alloc<|.map #[] 0) w'->Fr (λb=>b∈ds) w w':=λw' h=>(Fr.of bR).trans' h (λx q=>by
  obtain q|q:=q
  .exact jp q
  .exact jq ae)
 rintro e w1⟨eI,G1,E1,F1,⟨M1,F',V',h,rfl,hd,hF,hV,HS,MS1,hg⟩|⟨rfl,mS⟩⟩
 .obtain⟨s2,AR⟩:∃s2:Nat,Hid<|s2=min (size<|V' h) 49:=⟨_,ai rfl⟩;rw[<-uh AR]
  go_wp2
  go_ret2;refine⟨eI,G1,E1,u_ w1 F1,jp ⟨F',V',h,?_,hd,hF,HS.fin,λx hx=>HS.fd hx⟩⟩;rw[<-uh AR];rfl
 .clear HC
  go_wp2
  go_ret2;exact⟨eI,G1,E1,u_ w1 F1,jq ⟨rfl,mS⟩⟩
end
structure fB where
 ds:List Nat
 str:vB
 nx:Nx
 vr:Nat->Nat
 ly:Nat->Option Addr×Nat
 lv:Nat->Nat
 V:Nat->Ty
abbrev fB.L(g:fB)i v:=Lo g.ds g.str g.nx g.vr g.lv i v
abbrev fB.R(g:fB)v x:=Rt g.ds g.str g.nx g.vr v x
structure JS w(g:fB)(s:qc):Prop where
 gl:GL w g.ds g.str g.nx g.vr g.ly g.lv
 mh:tX g.str g.nx []
 inj:∀a b,a∈g.ds->b∈g.ds->g.str a=none->g.str b=none->g.vr a=g.vr b->a=b
 can:Can g.str g.nx g.vr g.V
 lc:LC g.str g.ds g.nx g.lv
 val:∀n,n∈g.ds->g.str n=none->g.V n=s.k (g.vr n)
 use:∀n,n∈g.ds->g.str n=none->s.u (g.vr n)
 ok:In.Ok s
section
variable {g g1 g2:fB} {s1 s2:qc}
def GL.jg{nx:Nx}{lv:Nat->Nat}(h:GL w ds str nx vr ly lv)(hc:tX str nx [])(hi:∀a b,a∈ds->b∈ds->str a=none->str b=none->vr a=vr b->a=b):JG ds str nx vr where
 LA n:=by
  by_cases q:n∈ds
  .exact h.hd n q
  .exact⟨n,.here (h.out n q).1⟩
 jU n x hn k:=h.bH hn k
 Tp a c l ha hs p hp:=(h.part ha hs).2 p hp
 inj:=hi
 mh:=hc
def JS.jg(h:JS w g s):JG g.ds g.str g.nx g.vr:=h.gl.jg h.mh h.inj
def JS.An(h:JS w g s)(hn:n∈g.ds)(o:aD v (g.V n)):∃x,g.R v x:=by
 have⟨y,hy⟩:=h.jg.LA n;have⟨x,r,_⟩:=eT (lv:=g.lv) h.jg h.can _ n y hn hy (br _) o;exact⟨x,r⟩
def JS.root(h:JS w g s)(r:g.R v x):s.u v/\s.k v=.var v:=by
 rw[<-r.2.2.2];exact⟨h.use x r.1 r.2.2.1,by rw[<-h.val x r.1 r.2.2.1,r.val h.can,r.2.2.2]⟩
def JS.eqv(h:JS w g s){ba}(e:im g.str g.nx ba)(hg:GL w' g.ds g.str ba g.vr g.ly g.lv):JS w' {g with nx:=ba} s:=
 ⟨hg,e.mh _ h.mh,h.inj,λn x k=>h.can n x<|e.back h.gl k,(uH.eqv h.gl e).lc h.lc,h.val,h.use,h.ok⟩
structure iy L(g:fB)(s:qc)(g1:fB)(s1:qc):Prop where
 fZ:∀n,n∈g.ds->n∈g1.ds/\g1.str n=g.str n/\g1.vr n=g.vr n
 val:∀n,n∈g.ds->g1.V n=sub s1.k (g.V n)
 QB:∀i,i<L->∀x,g1.L i x↔∃v,g.L i v/\aD x (s1.k v)
def iy.key{L}(h:JS w g s)(k:iy L g s g1 s1)(h1:JS w' g1 s1)(hn:n∈g.ds)(hs:g.str n=none):s1.k (g.vr n)=sub s1.k (s.k<|g.vr n):=by
 have⟨b1,b2,b3⟩:=k.fZ n hn;rw[<-h.val n hn hs,<-k.val n hn,h1.val n b1<|b2.trans hs,b3]
def iy.refl(h:JS w g s)L:iy L g s g s:=
 ⟨λn hn=>⟨hn,rfl,rfl⟩,λn hn=>(In.oN λv o=>by have⟨x,r⟩:=h.An hn o;exact(h.root r).2).symm,λi _ x=>⟨λq=>⟨x,q,by obtain⟨y,r,_⟩:=q;rw[(h.root r).2];rfl⟩,λ⟨v,q,o⟩=>by obtain⟨y,r,l⟩:=q;rw[(h.root r).2]at o;simp only[aD]at o;subst o;exact⟨y,r,l⟩⟩⟩
def iy.trans{L}{w2}(h:JS w g s)(h1:JS w' g1 s1)(h2:JS w2 g2 s2)(k:iy L g s g1 s1)(k1:iy L g1 s1 g2 s2):iy L g s g2 s2:=by
 have key:∀v y,g.R v y->s2.k v=sub s2.k (s1.k v):=λv y r=>by
  have⟨b1,b2,b3⟩:=k.fZ y r.1;have:=k1.key h1 h2 b1<|b2.trans r.2.2.1
  rwa[b3,r.2.2.2]at this
 refine⟨λn hn=>?_,λn hn=>?_,λi hi x=>?_⟩
 .have⟨b1,b2,b3⟩:=k.fZ n hn;have⟨c1,c2,c3⟩:=k1.fZ n b1;exact⟨c1,c2.trans b2,c3.trans b3⟩
 .rw[k1.val n (k.fZ n hn).1,k.val n hn,sub_sub];refine sub_congr _ λv o=>?_;have⟨y,r⟩:=h.An hn o;exact(key v y r).symm
 .rw[k1.QB i hi x];constructor
  .rintro⟨v1,q,o⟩;have⟨v,q0,o0⟩:=(k.QB i hi v1).1 q;refine⟨v,q0,?_⟩;obtain⟨y,r,_⟩:=q0;rw[key v y r];exact(qd _).2 ⟨v1,o0,o⟩
  .rintro⟨v,q0,o⟩;obtain⟨y,r,ly⟩:=q0;rw[key v y r]at o;have⟨v1,o0,o1⟩:=(qd _).1 o;exact⟨v1,(k.QB i hi v1).2 ⟨v,⟨y,r,ly⟩,o0⟩,o1⟩
def iy.eqv(h:JS w g s)(e:im g.str g.nx ba)(hg:GL w' g.ds g.str ba g.vr g.ly g.lv)L:iy L g s {g with nx:=ba} s:=by
 have r:=iy.refl h L;refine⟨r.fZ,r.val,λi hi x=>?_⟩;rw[<-r.QB i hi x];exact⟨λ⟨y,⟨q1,q2,q3⟩,l⟩=>⟨y,⟨q1,(e.yT y).1 q2,q3⟩,l⟩,λ⟨y,⟨q1,q2,q3⟩,l⟩=>⟨y,⟨q1,(e.yT y).2 q2,q3⟩,l⟩⟩
def PA{str:vB}{nx:Nx}{vr:Nat->Nat}{ds:List Nat}{F:Nat->Prop}{VF V:Nat->Ty}(hF:jc str nx vr F VF)(hV:Can str nx vr V):∀k x,size (V x)<=k->F x->VF x=V x
 |0,x,h,_=>by have:=size_pos<|V x;omega|k+1,x,hz,hx=>by
  have⟨h1,h2⟩:=hF x hx;have e:=hV x x<|.here h1
  cases hs:str x with
  |none=>rw[hs]at h2 e;rw[h2,e]|some q=>
   obtain⟨c,l⟩:=q;rw[hs]at h2 e;have e:V x=.aH c (l.map V):=e;obtain⟨AR,a1,a2,a3⟩:=h2;rw[a3,e];congr 1;refine(yA a1 λp y hp hy r=>?_).symm;have kO:V p=V y:=by rw[hV p y r,hV y y<|.here (hF y<|a2 y hy).1]
   rw[kO];refine(PA (ds:=ds) hF hV k y ?_<|a2 y hy).symm;have:=iW (c:=c) (U:=V) hp;rw[<-e,kO]at this;omega
def abo{nx}(g:JG ds str nx vr)(hV:Can str nx vr V):jc str nx vr (λh=>h∈ds/\nx h=none) V:=λh hh=>by
 refine⟨hh.2,?_⟩;have e:=hV h h<|.here hh.2
 cases hs:str h with
 |none=>rw[hs]at e;exact e|some q=>
  obtain⟨c,l⟩:=q;rw[hs]at e;have e:V h=.aH c (l.map V):=e;have hp:=g.Tp h c l hh.1 hs;have:∀l:List Nat,(∀p,p∈l->p∈ds)->∃hs,gJ (Hd nx) l hs/\(∀x,x∈hs->x∈ds/\nx x=none)/\l.map V=hs.map V:=by
   intro l
   induction l with
   |nil=>exact λ_=>⟨[],.nil,ag,rfl⟩|cons p l ih=>
    intro hl;have⟨y,hy⟩:=g.LA p;have⟨hs,h1,h2,h3⟩:=ih λq hq=>hl q (by simp[hq]);refine⟨y::hs,.cons hy h1,λx hx=>?_,?_⟩
    .obtain e|e:=List.mem_cons.1 hx
     .subst e;exact⟨g.jU p _ (hl p ag) hy,hy.head⟩
     .exact h2 x e
    .simp only[jk,h3];rw[show V p=V y from by rw[hV p y hy,hV y y<|.here hy.head]]
  have⟨AR,h1,h2,h3⟩:=this l hp;exact⟨AR,h1,h2,by rw[e,h3]⟩
end
abbrev guJ(f:Fl)(vl vr:Value):Value:=.iface 516<|.agg #[Nv f.kind,Nv f.al,Nv f.to,vl,vr]
abbrev LL(f:Fl)(vl vr:Value):Ending:=.panicked [{v:=guJ f vl vr,recovered:=false}]
section
variable {g:fB}
def JS.lt(h:JS w g s){n}(hn:n∈g.ds):n<w.heap.size:=(h.gl.nd n hn).lt
def GL.af{nx}{lv}(h:GL w ds str nx vr ly lv)(hb:Bq w w'):GL w' ds str nx vr ly lv:=h.move hb.size λb i v hc=>hb.block b<|iQ hc
def JS.af(h:JS w g s)(hb:Bq w w'):JS w' g s:=⟨h.gl.af hb,h.mh,h.inj,h.can,h.lc,h.val,h.use,h.ok⟩
def abp(h:JS w g s)(hn:n∈g.ds):Cq 57 #[nA n,Iv 48] w (λe w'=>e=.returned (.tuple #[.int .i64 ((min (size<|g.V n) 49:Nat):Int),.bool true])/\∃ba,im g.str g.nx ba/\JS w' {g with nx:=ba} s/\Fr (λb=>b∈g.ds) w w'):=by
 refine(uI h.gl hn).mono ?_;rintro e w'⟨ba,G,E,F,⟨Fs,VF,x,rfl,hd,hx,hF,_⟩|⟨_,mS⟩⟩
 .have js:=h.eqv E G;have e1:=PA (ds:=g.ds) hF js.can _ x (br _) hx;have e2:g.V n=g.V x:=by rw[h.can n x hd,h.can x x<|.here hd.head]
  refine⟨by rw[e1,e2],ba,E,js,F⟩
 .exact absurd (h.can.mF h.jg) (mS _)
def p8(h:JS w g s)(hn:n∈g.ds)f t:Cq 378 #[nA n,.agg #[Nv f,Nv t]] w (λe w'=>(∃ba,im g.str g.nx ba/\JS w' {g with nx:=ba} s)/\Fr (λb=>b∈g.ds) w w'/\((size (g.V n)<=48/\e=.returned (.tuple #[]))\/(48<size (g.V n)/\e=LL ⟨7,f,t⟩ .nilIface .nilIface))):=by
 have⟨k0,B0⟩:=mM w #[Nv f,Nv t] 131;have HS:=abp (h.af k0) hn;have hz:¬w.heap.size∈g.ds:=λq=>by have:=h.lt q;omega
 have K0:=ai k0;go_enter func378,ntmps378;go_wp2_with fail;refine HS.mono ?_;rintro e w1⟨rfl,eI,EE,JJ,F1⟩;have HF:=(Fr.of K0).trans F1;by_cases hb:48<size (g.V n)
 .have hm:(48:Int)<((min (size<|g.V n) 49:Nat):Int):=ae;obtain⟨M,hM⟩:∃M:Int,M=((min (size<|g.V n) 49:Nat):Int):=⟨_,rfl⟩;rw[<-hM]at hm⊢;have HT:=lW (w:=w1) (f:Int) (t:Int);have⟨c1,c2,c3⟩:=B0.fr F1 hz;go_wp2_with fail;refine HT.mono ?_;rintro e w2⟨rfl,K2⟩
  go_wp2
  exact⟨rfl,⟨eI,EE,JJ.af K2⟩,HF.trans<|Fr.of K2,jq ⟨hb,rfl⟩⟩
 .have hm:¬(48:Int)<((min (size<|g.V n) 49:Nat):Int):=ae;obtain⟨M,hM⟩:∃M:Int,M=((min (size<|g.V n) 49:Nat):Int):=⟨_,rfl⟩;rw[<-hM]at hm⊢
  go_wp2
  go_end0;exact⟨⟨eI,EE,JJ⟩,HF,jp ⟨ae,rfl⟩⟩
def vZ(h:JS w g s)(hn:n∈g.ds):Cq 58 #[nA n] w (λe w'=>∃tu xu ba,e=.returned (.iface tu xu)/\dE w' (λb=>w.heap.size<=b) (g.V n) (.iface tu xu)/\im g.str g.nx ba/\JS w' {g with nx:=ba} s/\Fr (λb=>b∈g.ds) w w'):=by
 have⟨x,hx⟩:=h.jg.LA n;refine(Pw _ w g.nx n x h.gl (abo h.jg h.can) hn hx ⟨h.jg.jU n x hn hx,hx.head⟩<|br _).mono ?_;rintro e w'⟨u,ba,rfl,hu,G,E,F⟩;obtain⟨tu,xu,rfl⟩:=hu.iface;exact⟨tu,xu,ba,rfl,by rw[show g.V n=g.V x from by rw[h.can n x hx,h.can x x<|.here hx.head]];exact hu,E,h.eqv E G,F⟩
def JR.post{nx}(h:JR str nx eI a b true)(e:im str eI pw):JR str nx pw a b true:=
 ⟨λP E q=>h.eqs P E<|e.eqs P E q,λ_=>⟨λV=>(e.mF V).trans<|(h.yes rfl).1 V,λP q=>e.mh P<|(h.yes rfl).2.1 P q,λP E q=>(h.yes rfl).2.2 P E<|e.eqs P E q⟩,λq=>mD⟩
def JS.join(h:JS w g s)(hg:GL w' g.ds g.str ba g.vr g.ly cq)(jr:JR g.str g.nx ba a b true)(lr:uH g.str g.ds g.nx g.lv ba cq)(hF:jc g.str ba g.vr F VF)(hx:Hd ba a x)(hFx:F x)(ha:a∈g.ds)(hb:b∈g.ds){ta tb}(ea:g.V a=sub s.k ta)(eb:g.V b=sub s.k tb)(za:size (g.V a)<=48)(zb:size (g.V b)<=48)f t:
 ∃V' s',JS w' {g with nx:=ba,lv:=cq,V:=V'} s'/\(∀L,iy L g s {g with nx:=ba,lv:=cq,V:=V'} s')/\qe ta tb f t s (.ok ((),s'))/\s'.u=s.u:=by
 have hc':=(jr.yes rfl).2.1 [] h.mh;have g':=hg.jg hc' h.inj;have⟨V',θ,jw⟩:=Yd h.jg h.can g' jr lr hF hx hFx ha hb;have tin:∀{n:Nat}{T:Ty},n∈g.ds->g.V n=sub s.k T->In.gC (λ_=>True) s (sub s.k T):=λhn e=>⟨λv o=>by rw[<-e]at o;have⟨y,r⟩:=h.An hn o;exact(h.root r).1,λ_ _=>trivial⟩;have he:∀{ta tb:Ty},g.V a=sub s.k ta->g.V b=sub s.k tb->qe ta tb f t s (.ok ((),⟨λv=>sub θ<|s.k v,s.u⟩)):=λea eb=>jq ⟨by rw[<-ea];exact za,by rw[<-eb];exact zb,jp ⟨θ,by rw[<-ea,<-eb];exact jw.mgu,rfl⟩⟩;have ok':=(In.gE (Λ:=λ_=>True) h.ok (λ_ _=>trivial) (tin ha ea) (tin hb eb) f t _ _<|he (by rw[h.ok.uB,ea])<|by rw[h.ok.uB,eb]).1.ok;have js:JS w' {g with nx:=ba,lv:=cq,V:=V'} ⟨λv=>sub θ<|s.k v,s.u⟩:=
  ⟨hg,hc',h.inj,jw.can,lr.lc h.lc,λn hn hs=>by show V' n=sub θ (s.k<|g.vr n);rw[jw.val n hn,h.val n hn hs],h.use,ok'⟩
 have hr:∀v y,g.R v y->sub θ (s.k v)=θ v:=λv y r=>by rw[(h.root r).2];rfl
 refine⟨V',⟨λv=>sub θ<|s.k v,s.u⟩,js,λL=>⟨λn hn=>⟨hn,rfl,rfl⟩,λn hn=>?_,λi _ w=>?_⟩,he ea eb,rfl⟩
 .show V' n=sub (λv=>sub θ<|s.k v) (g.V n);rw[jw.val n hn];refine sub_congr _ λv o=>?_;have⟨y,r⟩:=h.An hn o;exact(hr v y r).symm
 .show Lo g.ds g.str ba g.vr cq i w↔_;rw[Ye h.jg h.can g' lr h.lc jw i w];constructor
  .rintro⟨v,⟨y,r,ly⟩,o⟩;exact⟨v,⟨y,r,ly⟩,by show aD w (sub θ<|s.k v);rw[hr v y r];exact o⟩
  .rintro⟨v,⟨y,r,ly⟩,o⟩;have o:aD w (sub θ<|s.k v):=o;rw[hr v y r]at o;exact⟨v,⟨y,r,ly⟩,o⟩
def JS.apart(h:JS w g s)(hn:∀W,lM g.str g.nx W->W a≠W b)σ:sub σ (g.V a)≠sub σ (g.V b):=by
 have sV:=h.can.mF h.jg;exact hn (λn=>sub σ<|g.V n) ⟨λn c l hs=>by rw[sV.made n c l hs];simp only[sub];rw[iT],λn m e=>by rw[sV.bz n m e]⟩
def abq{nx}{lv}(G:GL w ds str nx vr ly lv)(hn:n∈ds):Cq 396 #[nA n] w (λe w'=>∃ok ba,e=.returned (.bool ok)/\GL w' ds str ba vr ly lv/\im str nx ba/\Fr (λb=>b∈ds) w w'/\(ok=true->∃F V x,Hd nx n x/\F x/\jc str ba vr F V)/\(ok=false->∀W,¬lM str nx W)):=by
 have HS:=uI G hn;go_enter func396,ntmps396;go_wp2_with fail;refine HS.mono ?_;rintro e w1⟨eI,G1,E1,F1,⟨F,V,x,rfl,h1,h2,h3,_⟩|⟨rfl,mS⟩⟩
 .have HX:=show∃ok ba,Rv (.bool true)=Rv (.bool ok)/\GL w1 ds str ba vr ly lv/\im str nx ba/\Fr (λb=>b∈ds) w w1/\(ok=true->∃F V x,Hd nx n x/\F x/\jc str ba vr F V)/\(ok=false->∀W,¬lM str nx W)from⟨true,eI,rfl,G1,E1,F1,λ_=>⟨F,V,x,h1,h2,h3⟩,λq=>mD⟩;obtain⟨M,hM⟩:∃M:Int,M=((min (size<|V x) 49:Nat):Int):=⟨_,rfl⟩;rw[<-hM]
  go_wp2
  go_ret;exact HX
 .have HX:=show∃ok ba,Rv (.bool false)=Rv (.bool ok)/\GL w1 ds str ba vr ly lv/\im str nx ba/\Fr (λb=>b∈ds) w w1/\(ok=true->∃F V x,Hd nx n x/\F x/\jc str ba vr F V)/\(ok=false->∀W,¬lM str nx W)from⟨false,eI,rfl,G1,E1,F1,(λq=>mD),λ_=>mS⟩
  go_wp2
  go_ret;exact HX
def r9 g(s:qc)a b x y f t w e w':=Fr (λb=>b∈g.ds) w w'/\
 ((e=.returned (.tuple #[])/\∃ba cq V' s',JS w' {g with nx:=ba,lv:=cq,V:=V'} s'/\(∀L,iy L g s {g with nx:=ba,lv:=cq,V:=V'} s')/\qe x y f t s (.ok ((),s'))/\s'.u=s.u/\(∀m,m∈g.ds->∀h h',Hd g.nx m h->Hd ba m h'->cq h'<=g.lv h)/\r8 g.str g.ds g.nx g.lv ba cq a b)\/
  (∃z vl vr,e=LL z.f vl vr/\qe x y f t s (.error z)/\pD w' (λb=>w.heap.size<=b) z vl vr))
def Yg(h:JS w g s)(ha:a∈g.ds)(hb:b∈g.ds){x y}(ea:g.V a=sub s.k x)(eb:g.V b=sub s.k y)f t:
 Cq 384 #[nA a,nA b,.agg #[Nv f,Nv t]] w (r9 g s a b x y f t w):=by
 have⟨k0,B0⟩:=sf w #[Nv f,Nv t] 131;have H1:=p8 (h.af k0) ha f t;have hz:¬w.heap.size∈g.ds:=λq=>by have:=h.lt q;omega
 have LT:∀n,n∈g.ds->n<w.heap.size:=λn q=>h.lt q;have K0:=ai k0;have⟨c1,c2,c3⟩:=uh B0;go_enter func384,ntmps384;go_wp2_with fail;refine H1.mono ?_;rintro e w1⟨⟨eI,X6,J1⟩,F1,hs1⟩;have ahz:=(Fr.of K0).trans F1;obtain⟨hza,rfl⟩|⟨hza,rfl⟩:=hs1.symm
 .have HX:=show r9 g s a b x y f t w (LL ⟨7,f,t⟩ Zv Zv) w1 from⟨ahz,jq ⟨In.qA f t,Zv,Zv,rfl,jp ⟨jp (by rw[<-ea];exact hza),rfl⟩,⟨λ_=>⟨rfl,rfl⟩,(λq=>mD),jq rfl⟩⟩⟩
  go_wp2
  exact⟨rfl,HX⟩
 have B1:=ai<|B0.fr F1 hz;have⟨c1,c2,c3⟩:=uh B1;have H2:=p8 J1 hb f t;go_wp2_with fail;refine H2.mono ?_;rintro e w2⟨⟨pw,E2,J2⟩,F2,AR⟩;have aff:=ahz.trans F2;obtain⟨hzb,rfl⟩|⟨hzb,rfl⟩:=AR.symm
 .have HX:=show r9 g s a b x y f t w (LL ⟨7,f,t⟩ Zv Zv) w2 from⟨aff,jq ⟨In.qA f t,Zv,Zv,rfl,jp ⟨jq (by rw[<-eb];exact hzb),rfl⟩,⟨λ_=>⟨rfl,rfl⟩,(λq=>mD),jq rfl⟩⟩⟩
  go_wp2
  exact⟨rfl,HX⟩
 have B2:=B1.fr F2 hz;have H3:=vZ J2 ha;have E2':=X6.trans E2;have z2:=aff.size;go_wp2_with fail;refine H3.mono ?_;rintro e w3⟨tl3,xl3,nx3,rfl,T3,E3,J3,F3⟩;have H4:=vZ J3 hb;have B3:=B2.fr F3 hz;have adk:=aff.trans F3;have E3':=E2'.trans E3;have z3:=F3.size;go_wp2_with fail;refine H4.mono ?_;rintro e w4⟨tl4,xl4,yU,rfl,T4,E4,J4',F4⟩;have H5:=Ya _ w4 yU g.lv J4'.gl (br _) a b ha hb;have B4:=B3.fr F4 hz;have ai6:=adk.trans F4;have afg:=E3'.trans E4;have z4:=F4.size;have yP:∀b:Nat,w.heap.size<=b->¬b∈g.ds:=λb hb q=>by have:=LT b q;omega
 have T3':=T3.fr F4 (λb p _=>yP b (by have:w2.heap.size<=b:=p;omega));go_wp2_with fail;refine H5.mono ?_;rintro e w5⟨ok,Ur,Ze,rfl,G5',F5,z5,_,JR5,lr5⟩;have APX:∀(W:World)(vl:TypeId)(xl:Value)(vr:TypeId)(xr:Value),Fr (λb=>b∈g.ds) w W->dE W (λb=>w.heap.size<=b) (g.V a) (Fv vl xl)->dE W (λb=>w.heap.size<=b) (g.V b) (Fv vr xr)->(∀σ,sub σ (g.V a)≠sub σ (g.V b))->r9 g s a b x y f t w (LL ⟨6,f,t⟩ (Fv vl xl)<|Fv vr xr) W:=λW vl xl vr xr hF h1 h2 h3=>
  ⟨hF,jq ⟨⟨⟨6,f,t⟩,g.V a,g.V b⟩,_,_,rfl,jq ⟨by rw[<-ea];exact hza,by rw[<-eb];exact hzb,jq ⟨by rw[<-ea,<-eb];exact h3,by rw[<-ea,<-eb]⟩⟩,⟨(λq=>mD),λ_=>⟨h1,h2⟩,jp rfl⟩⟩⟩
 have T35:=(T3'.fr F5<|λb p _=>yP b (by have:w2.heap.size<=b:=p;omega)).wide (Q:=λb=>w.heap.size<=b) λb p=>by have:w2.heap.size<=b:=p;omega
 have T45:=(T4.fr F5<|λb p _=>yP b (by have:w3.heap.size<=b:=p;omega)).wide (Q:=λb=>w.heap.size<=b) λb p=>by have:w3.heap.size<=b:=p;omega
 have afh:=ai6.trans F5;have B5:=B4.fr F5 hz
 cases ok with
 |false=>
  have hap:∀σ,sub σ (g.V a)≠sub σ (g.V b):=λσ=>J4'.apart (g:={g with nx:=yU}) (JR5.no rfl) σ;obtain⟨c1,c2,c3⟩:=B5;have HA:=Dj (w:=w5) (f:Int) (t:Int) tl3 tl4 xl3 xl4;go_wp2_with fail;refine HA.mono ?_;rintro e w6⟨rfl,k6⟩;have HX:=APX w6 tl3 xl3 tl4 xl4 (afh.trans<|Fr.of k6) (T35.af k6) (T45.af k6) hap
  go_wp2
  exact⟨rfl,HX⟩
 |true=>
  have H6:=abq G5' ha;have LR5:=lr5 rfl;go_wp2_with fail;refine H6.mono ?_;rintro e w6⟨ok6,nx6,rfl,G6,E6,F6,hy,hn⟩
  cases ok6 with
  |false=>
   have hap:∀σ,sub σ (g.V a)≠sub σ (g.V b):=λσ eσ=>by
    have j4:=J4';have sV:=j4.can.mF j4.jg;exact hn rfl (λn=>sub σ<|g.V n) (((JR5.yes rfl).1 _).2 ⟨⟨λn c l hs=>by rw[sV.made n c l hs];simp only[sub];rw[iT],λn m e=>by rw[sV.bz n m e]⟩,eσ⟩)
   have⟨c1,c2,c3⟩:=B5.fr F6 hz;have HA:=Dj (w:=w6) (f:Int) (t:Int) tl3 tl4 xl3 xl4;have T36:=T35.fr F6<|λb p _=>yP b p;have T46:=T45.fr F6<|λb p _=>yP b p;have ai7:=afh.trans F6;go_wp2_with fail;refine HA.mono ?_;rintro e w7⟨rfl,k7⟩;have HX:=APX w7 tl3 xl3 tl4 xl4 (ai7.trans<|Fr.of k7) (T36.af k7) (T46.af k7) hap
   go_wp2
   exact⟨rfl,HX⟩
  |true=>
   have⟨FF,VF,z,q1,q2,q3⟩:=hy rfl;have j4:=J4';have hjr:=JR5.post E6;have g5:=G5';have hlr:=LR5.1.trans (uH.eqv g5 E6) g5.hd<|λU q=>(E6.mF U).1 q;have⟨V',s',js,st,he,hu⟩:=j4.join (x:=z) G6 hjr hlr q3 (E6.jU _ _ q1) q2 ha hb ea eb hza hzb f t;have HX:=show r9 g s a b x y f t w (Rv<|.tuple #[]) w6 from⟨afh.trans F6,jp ⟨rfl,nx6,Ze,V',s',js,λL=>iy.trans h j4 js (iy.eqv h afg j4.gl L)<|st L,he,hu,λm hm p p' k k'=>hlr.mono m hm p p' (afg.jU _ _ k) k',(LR5.2.post g5 E6).pre h.gl afg⟩⟩
   go_wp2
   go_end0;exact HX
end
section
variable {g:fB}
def GL.add{ds}{str}{nx}{vr}{ly}{lv}(h:GL w ds str nx vr ly lv)(hw:Bq w w'){n:Nat}(hn:w.heap.size<=n)s v a l(hh:w'.heap[n]? =some (.cells #[.pointer none,Nv l,Nv v,.string<|byS s,.slice a.1 (slN s) a.2] 187 (0,0)))(hp:gQ w' (n::ds) a.1 s):
 GL w' (n::ds) (ja str n s) nx (ja vr n v) (ja ly n a) (ja lv n l):=by
 have hb:∀b i v,w.cell? ⟨b,i,none⟩=some v->w'.heap[b]? =w.heap[b]? :=λb i v hc=>hw.block b<|iQ hc;have nd:¬n∈ds:=λq=>by have:=(h.nd n q).lt;omega
 have nn:=(h.out n nd).1;refine⟨λx hx=>?_,λx hx=>?_,λx hx=>?_⟩
 .by_cases e:x=n
  .subst e;refine⟨by simpa[ja,nP,nn]using hh,by simpa[ja]using hp,λm hm=>by rw[nn]at hm;cases hm⟩
  .have Dm:=(List.mem_cons.1 hx).resolve_left e;have hc:=(h.nd x Dm).cells.1;have⟨h1,h2,h3⟩:=h.nd x Dm;refine⟨?_,?_,λm hm=>jj _<|h3 m hm⟩
   .rw[hb x 0 _ hc,h1];simp[ja,e]
   .simp only[ja,e,if_false];exact(h2.more hn).move hw.size hb
 .have Dm:x≠n/\¬x∈ds:=⟨λe=>hx QX,λe=>hx QX⟩;exact⟨(h.out x Dm.2).1,by simpa[ja,Dm.1]using(h.out x Dm.2).2⟩
 .by_cases e:x=n
  .subst e;exact⟨x,.here nn⟩
  .exact h.hd x ((List.mem_cons.1 hx).resolve_left e)
abbrev fB.add(g:fB)(n:Nat)(q:Option (BA×List Nat))(v:Nat)(a:Option Addr×Nat)(l:Nat)(T:Ty):fB:=⟨n::g.ds,ja g.str n q,g.nx,ja g.vr n v,ja g.ly n a,ja g.lv n l,ja g.V n T⟩
def JS.PB(h:JS w g s)(nd:¬n∈g.ds)q:tX (ja g.str n q) g.nx []:=λE hE x m c l e hs=>by
 have hx:=jx λz=>by rw[(h.gl.out x z).1]at e;cases e
 have hm:=(h.gl.nd x hx).2.2 m e;have e1:x≠n:=λz=>nd<|z▸hx;have e2:m≠n:=λz=>nd<|z▸hm;simp only[ja,e1,if_false]at hs;have⟨l',h1,h2⟩:=h.mh E hE x m c l e hs;exact⟨l',by simp only[ja,e2,if_false];exact h1,h2⟩
def JS.PC(h:JS w g s)(nd:¬n∈g.ds){T:Ty}(hT:T=match q with|none=>.var v|some (c,l)=>.aH c<|l.map g.V)(hq:∀c l,q=some (c,l)->∀p,p∈l->p∈g.ds):Can (ja g.str n q) g.nx (ja g.vr n v) (ja g.V n T):=λx y k=>by
 have nn:=(h.gl.out n nd).1;have lm:∀l:List Nat,(∀p,p∈l->p∈g.ds)->l.map (ja g.V n T)=l.map g.V:=λl hl=>dW λp hp=>by
  have:p≠n:=λe=>nd<|e▸hl p hp;simp[ja,this]
 by_cases hx:x∈g.ds
 .have hy:=h.gl.bH hx k;have e1:x≠n:=λz=>nd<|z▸hx;have e2:y≠n:=λz=>nd<|z▸hy;simp only[ja,e1,e2,if_false];have:=h.can x y k;rw[this]
  cases hs:g.str y with
  |none=>rfl|some p=>
   obtain⟨c,l⟩:=p;show j9 c (l.map g.V)=j9 c (l.map<|ja g.V n T);rw[lm l (h.gl.part hy hs).2]
 .have e0:=(h.gl.out x hx).1;have ey:=k.one<|.here e0;subst ey;by_cases e:y=n
  .subst e;simp only[ja,if_true];rw[hT]
   cases q with
   |none=>rfl|some p=>
    obtain⟨c,l⟩:=p;show j9 c (l.map g.V)=j9 c (l.map<|ja g.V y _);rw[<-hT,lm l<|hq c l rfl]
  .simp only[ja,e,if_false];have:=h.can y y k;rw[(h.gl.out y hx).2]at this⊢;exact this
def JS.Yh(h:JS w g s)(nd:¬n∈g.ds){L:Nat}(hq:∀c l,q=some (c,l)->∀p,p∈l->p∈g.ds/\∀x,Hd g.nx p x->g.lv x<=L):LC (ja g.str n q) (n::g.ds) g.nx (ja g.lv n L):=λa ha hn c l hs p hp x k=>by
 by_cases e:a=n
 .subst e;simp only[ja,if_true]at hs;have⟨h1,h2⟩:=hq c l hs p hp;have e2:x≠a:=λz=>nd<|z▸h.gl.bH h1 k;simp only[ja,e2,if_false,if_true];exact h2 x k
 .have ha':=(List.mem_cons.1 ha).resolve_left e;simp only[ja,e,if_false]at hs;have e2:x≠n:=λz=>nd<|z▸h.gl.bH ((h.gl.part ha' hs).2 p hp) k;simp only[ja,e,e2,if_false];exact h.lc a ha' hn c l hs p hp x k
def iy.add(h:JS w g s){n:Nat}(nd:¬n∈g.ds){q:Option (BA×List Nat)}{v:Nat}{a:Option Addr×Nat}{l L:Nat}{T:Ty}{s1}(hk:s1.k=s.k)(hl:q=none->L<=l):iy L g s (g.add n q v a l T) s1:=by
 have r:=iy.refl h L;have ne:∀m,m∈g.ds->m≠n:=λm hm e=>nd<|e▸hm;refine⟨λm hm=>⟨jj _ hm,by simp[ja,ne m hm],by simp[ja,ne m hm]⟩,λm hm=>?_,λi hi x=>?_⟩
 .rw[hk,<-r.val m hm];simp[ja,ne m hm]
 .rw[hk,<-r.QB i hi x];constructor
  .rintro⟨y,⟨q1,q2,q3,q4⟩,q5⟩;by_cases e:y=n
   .subst e;simp only[ja,if_true]at q3 q5;have:=hl q3;omega
   .have q1':=(List.mem_cons.1 q1).resolve_left e;simp only[ja,e,if_false]at q3 q4 q5;exact⟨y,⟨q1',q2,q3,q4⟩,q5⟩
  .rintro⟨y,⟨q1,q2,q3,q4⟩,q5⟩;have e:=ne y q1;exact⟨y,⟨jj _ q1,q2,by simpa[ja,e]using q3,by simpa[ja,e]using q4⟩,by simpa[ja,e]using q5⟩
def PH{p:Prop}(h:p:=by
 simp only[ja,e1,e2,if_false]at e sa sb
 exact h.inj a b ((List.mem_cons.1 ha).resolve_left e1) ((List.mem_cons.1 hb).resolve_left e2) sa sb e):p:=h
def PK{p:Prop}(h:p:=by
 simpa[ja,e]using h.val m ((List.mem_cons.1 hm).resolve_left e) (by simpa[ja,e]using hs)):p:=h
def JS.var(h:JS w g s)(hw:Bq w w'){l:Nat}(hn:w.heap.size<=n)(hv:¬s.u v)(hh:w'.heap[n]? =some (.cells #[.pointer none,Nv l,Nv v,.string ⟨#[]⟩,.slice none 0 0] 187 (0,0))):
 JS w' (g.add n none v (none,0) l<|.var v) ⟨s.k,λm=>s.u m\/m=v⟩:=by
 have nd:¬n∈g.ds:=λq=>by have:=h.lt q;omega
 have ne:∀m,m∈g.ds->m≠n:=λm hm e=>nd<|e▸hm;refine⟨h.gl.add hw hn none v (none,0) l hh trivial,h.PB nd none,λa b ha hb sa sb e=>?_,h.PC nd rfl (λc l q=>mD),h.Yh nd<|λc l q=>mD,λm hm hs=>?_,λm hm hs=>?_,(In.jX (Λ:=λ_=>True) h.ok (λ_ _=>trivial) _ _ ⟨v,hv,rfl⟩).1.ok⟩
 .by_cases e1:a=n<;>by_cases e2:b=n
  .rw[e1,e2]
  .exfalso;have VR:=(List.mem_cons.1 hb).resolve_left e2;simp only[ja,e1,e2,if_false,if_true]at e sb;exact hv (by rw[e];exact h.use b VR sb)
  .exfalso;have ha':=(List.mem_cons.1 ha).resolve_left e1;simp only[ja,e1,e2,if_false,if_true]at e sa;exact hv (by rw[<-e];exact h.use a ha' sa)
  .exact PH
 .by_cases e:m=n
  .subst e;simp[ja,h.ok.out v hv]
  .exact PK
 .by_cases e:m=n
  .subst e;simp[ja]
  .have Yi:=(List.mem_cons.1 hm).resolve_left e;simp only[ja,e,if_false]at hs⊢;exact jp<|h.use m Yi hs
def JS.Yj(h:JS w g s)(hw:Bq w w'){l:Nat}{a:Option Addr×Nat}(hn:w.heap.size<=n)(hc:CN c)(hl:ps.length<=1001)(hp:∀p,p∈ps->p∈g.ds/\∀x,Hd g.nx p x->g.lv x<=l)(hr2:ps=[]\/∃gg,a.1=some ⟨gg,0,none⟩/\¬gg∈n::g.ds/\gg<w'.heap.size/\∀i(h:i<ps.length),w'.cell? ⟨gg,i,none⟩=some (nA ps[i]))(hh:w'.heap[n]? =some (.cells #[.pointer none,Nv l,Iv 0,.string<|pn c,.slice a.1 ps.length a.2] 187 (0,0))):
 JS w' (g.add n (some (c,ps)) 0 a l<|.aH c<|ps.map g.V) s:=by
 have nd:¬n∈g.ds:=λq=>by have:=h.lt q;omega
 have ne:∀m,m∈g.ds->m≠n:=λm hm e=>nd<|e▸hm;refine⟨h.gl.add hw hn (some (c,ps)) 0 a l hh ⟨hc,hl,λm hm=>jj _ (hp m hm).1,hr2⟩,h.PB nd _,λa b ha hb sa sb e=>?_,h.PC nd rfl (λc' l' q=>by injection q with q;injection q with _ q;subst q;exact λp hq=>(hp p hq).1),h.Yh nd (λc' l' q=>by injection q with q;injection q with _ q;subst q;exact hp),λm hm hs=>?_,λm hm hs=>?_,h.ok⟩
 .have e1:a≠n:=λz=>by subst z;simp[ja]at sa
  have e2:b≠n:=λz=>by subst z;simp[ja]at sb
  exact PH
 .have e:m≠n:=λz=>by subst z;simp[ja]at hs
  exact PK
 .have e:m≠n:=λz=>by subst z;simp[ja]at hs
  simp only[ja,e,if_false]at hs⊢;exact h.use m ((List.mem_cons.1 hm).resolve_left e) hs
def JS.made(h:JS w g s)(hw:Bq w w'){l:Nat}{a:Option Addr×Nat}(hn:w.heap.size<=n)(hc:CN c)(hl:ps.length<=1001)(hp:∀p,p∈ps->p∈g.ds/\∀x,Hd g.nx p x->g.lv x<=l)(hr:ps=[]\/∃gg,a.1=some ⟨gg,0,none⟩/\w.heap.size<=gg/\gg≠n/\gg<w'.heap.size/\∀i(h:i<ps.length),w'.cell? ⟨gg,i,none⟩=some (nA ps[i]))(hh:w'.heap[n]? =some (.cells #[.pointer none,Nv l,Iv 0,.string<|pn c,.slice a.1 ps.length a.2] 187 (0,0))):
 JS w' (g.add n (some (c,ps)) 0 a l<|.aH c<|ps.map g.V) s:=by
 refine h.Yj hw hn hc hl hp (hr.imp id λ⟨gg,q1,q2,q3,q4,q5⟩=>⟨gg,q1,λz=>?_,q4,q5⟩) hh;obtain z|z:=List.mem_cons.1 z
 .exact q3 z
 .have:=h.lt z;omega
end
def fB.K(g:fB)(P:Nat->Prop)n:=n∈g.ds/\∀x,Hd g.nx n x->P x
open Classical in
noncomputable def fB.cut (g:fB) (P:Nat->Prop):fB:=⟨g.ds.filter λn=>decide (g.K P n),λn=>if g.K P n then g.str n else none,λn=>if g.K P n then g.nx n else none,g.vr,g.ly,g.lv,λn=>if g.K P n then g.V n else .var (g.vr n)⟩
section
variable {g:fB} {P:Nat->Prop}
def cM:n∈(g.cut P).ds↔g.K P n:=by
 simp only[fB.cut,List.mem_filter,decide_eq_true_eq];exact⟨λq=>q.2,λq=>⟨q.1,q⟩⟩
def bF(h:g.K P n):(g.cut P).str n=g.str n/\(g.cut P).nx n=g.nx n/\(g.cut P).V n=g.V n:=by simp[fB.cut,h]
def tD(h:¬g.K P n):(g.cut P).str n=none/\(g.cut P).nx n=none/\(g.cut P).V n=.var (g.vr n):=by simp[fB.cut,h]
def abr(hg:GL w g.ds g.str g.nx g.vr g.ly g.lv)(hn:n∈g.ds)(e:g.nx n=some m):g.K P n↔g.K P m:=
 ⟨λq=>⟨(hg.nd n hn).2.2 m e,λx k=>q.2 x<|.step e k⟩,λq=>⟨hn,λx k=>q.2 x<|k.q_ e⟩⟩
def abt(hg:GL w g.ds g.str g.nx g.vr g.ly g.lv)(k:Hd g.nx n x)(hn:g.K P n):Hd (g.cut P).nx n x/\g.K P x:=by
 induction k with
 |here e=>exact⟨.here<|by rw[(bF hn).2.1,e],hn⟩|step e k ih=>
  have⟨h1,h2⟩:=ih<|(abr hg hn.1 e).1 hn;exact⟨.step (by rw[(bF hn).2.1,e]) h1,h2⟩
def afi(hg:GL w g.ds g.str g.nx g.vr g.ly g.lv)(hn:g.K P n)(k:Hd (g.cut P).nx n x):Hd g.nx n x:=by
 have⟨y,hy⟩:=hg.hd n hn.1;rw[k.one (abt hg hy hn).1];exact hy
def Dv(hg:GL w g.ds g.str g.nx g.vr g.ly g.lv)(j:JG g.ds g.str g.nx g.vr)(hP:ScD g.str g.ds g.nx P)(hn:g.K P n)(hs:g.str n=some (c,l))(hp:p∈l):g.K P p:=by
 have⟨x,hx⟩:=hg.hd n hn.1;have⟨l',h1,h2⟩:=LB j hx hs;refine⟨j.Tp n c l hn.1 hs p hp,λy hy=>?_⟩;have:∀{l l':List Nat},gJ (xA g.nx) l l'->p∈l->∃q,q∈l'/\xA g.nx p q:=by
  intro l l' a
  induction a with
  |nil=>simp|cons e _ ih=>
   intro hp;obtain rfl|hp:=List.mem_cons.1 hp
   .grind
   .grind
 have⟨q,hq,e⟩:=this h2 hp;have Zf:Hd g.nx q y:=by
  obtain rfl|⟨z,z1,z2⟩:=e
  .exact hy
  .rw[hy.one z1];exact z2
 exact hP x (j.jU n x hn.1 hx) hx.head (hn.2 x hx) c l' h1 q hq y Zf
def JS.cut(hg:GL w g.ds g.str g.nx g.vr g.ly g.lv)(mh:tX g.str g.nx [])(inj:∀a b,a∈g.ds->b∈g.ds->g.str a=none->g.str b=none->g.vr a=g.vr b->a=b)(can:Can g.str g.nx g.vr g.V)(val:∀n,n∈g.ds->g.str n=none->g.V n=s.k (g.vr n))(use:∀n,n∈g.ds->g.str n=none->s.u (g.vr n))(ok:In.Ok s)(hP:ScD g.str g.ds g.nx P)(lc:∀a,a∈g.ds->g.nx a=none->P a->∀c l,g.str a=some (c,l)->∀p,p∈l->∀h,Hd g.nx p h->g.lv h<=g.lv a):JS w (g.cut P) s:=by
 have j:=hg.jg mh inj;refine⟨⟨λn hn=>?_,λn hn=>?_,λn hn=>?_⟩,λE hE n m c l e hs=>?_,λa b ha hb sa sb e=>?_,λn x k=>?_,λa ha hn c l hs p hp x hx=>?_,λn hn hs=>?_,λn hn hs=>?_,ok⟩
 .have hn:=cM.1 hn;have⟨q1,q2,q3⟩:=hg.nd n hn.1;refine⟨by rw[(bF hn).1,(bF hn).2.1];exact q1,?_,λm e=>cM.2<|(abr hg hn.1 (by rw[<-(bF hn).2.1];exact e)).1 hn⟩;rw[(bF hn).1]
  cases e:g.str n with
  |none=>trivial|some q=>
   obtain⟨c,l⟩:=q;rw[e]at q2;obtain⟨r1,r2,r3,r4⟩:=q2;exact⟨r1,r2,λm hm=>cM.2<|Dv hg j hP hn e hm,r4.imp id λ⟨gg,z1,z2,z3,z4⟩=>⟨gg,z1,λz=>z2 (cM.1 z).1,z3,z4⟩⟩
 .have hn:¬g.K P n:=λq=>hn<|cM.2 q;exact⟨(tD hn).2.1,(tD hn).1⟩
 .have hn:=cM.1 hn;have⟨x,hx⟩:=hg.hd n hn.1;exact⟨x,(abt hg hx hn).1⟩
 .have hn:=jx λq=>by rw[(tD q).2.1]at e;cases e
  rw[(bF hn).2.1]at e;rw[(bF hn).1]at hs;have hm:=(abr hg hn.1 e).1 hn;have hE':Un.Eq g.nx [] (λa b=>(g.K P a↔g.K P b)/\(g.K P a->E a b)):=by
   refine⟨λa=>⟨Iff.rfl,λ_=>hE.refl a⟩,λa b q=>⟨q.1.symm,λz=>hE.symm _ _<|q.2<|q.1.2 z⟩,λa b d q r=>⟨q.1.trans r.1,λz=>hE.trans _ _ _ (q.2 z)<|r.2<|q.1.1 z⟩,λa b q=>?_,λa b q=>by simp at q⟩;have ha:=jx λz=>by rw[(hg.out a z).1]at q;cases q
   exact⟨abr hg ha q,λz=>hE.bz a b (by rw[(bF z).2.1];exact q)⟩
  have⟨l',h1,h2⟩:=mh _ hE' n m c l e hs;refine⟨l',by rw[(bF hm).1];exact h1,?_⟩;have:∀{l l':List Nat},gJ (λa b=>(g.K P a↔g.K P b)/\(g.K P a->E a b)) l l'->(∀p,p∈l->g.K P p)->gJ E l l':=by
   intro l l' a
   induction a with
   |nil=>exact λ_=>.nil|cons e _ ih=>exact λh=>.cons (e.2<|h _ ag) (ih λp hp=>h p<|by simp[hp])
  exact this h2 λp hp=>Dv hg j hP hn hs hp
 .have ha:=cM.1 ha;have hb:=cM.1 hb;rw[(bF ha).1]at sa;rw[(bF hb).1]at sb;exact inj a b ha.1 hb.1 sa sb e
 .by_cases hn:g.K P n
  .have k':=afi hg hn k;have hx:=(abt hg k' hn).2;rw[(bF hn).2.2,(bF hx).1,can n x k']
   cases e:g.str x with
   |none=>rfl|some q=>
    obtain⟨c,l⟩:=q;show j9 c (l.map g.V)=.aH c (l.map (g.cut P).V);rw[dW λp hp=>(bF<|Dv hg j hP hx e hp).2.2]
  .rw[k.one<|.here (tD hn).2.1,(tD hn).2.2,(tD hn).1];rfl
 .have ha:=cM.1 ha;rw[(bF ha).1]at hs;rw[(bF ha).2.1]at hn;exact lc a ha.1 hn (ha.2 a<|.here hn) c l hs p hp x<|afi hg (Dv hg j hP ha hs hp) hx
 .have hn:=cM.1 hn;rw[(bF hn).1]at hs;rw[(bF hn).2.2];exact val n hn.1 hs
 .have hn:=cM.1 hn;rw[(bF hn).1]at hs;exact use n hn.1 hs
end
end
end Go.Proofs.YtfnkchdeheeiiaaGreatDoor
