import Derived.Test.YtlnlhlefeokfjaaGreatDoorPBl
import Derived.Test.YtlnlhlefeokfjaaGreatDoorPXk
import Derived.Test.YtlnlhlefeokfjaaGreatDoorPXo
set_option linter.all false
set_option maxRecDepth 100000
set_option maxHeartbeats 4000000
namespace Go.Proofs.YtlnlhlefeokfjaaGreatDoor
open _root_.List renaming getElem_mem->ja,take_succ_eq_append_getElem->jc,mem_cons_of_mem->jd,map_cons->jf,getElem?_eq_getElem->jh,take_length->ji,map_append->jj,take_append_drop->jk,map_congr_left->jl,getElem?_append_right->jm,getElem?_append_left->jo,append_assoc->jp,countP_cons->jq,cons_append->jt,nil_append->ju,length_map->jv,map_nil->jx
open Un renaming d_->jy,Fin->jz,seen->j3
open Or renaming inr->j5,inl->j6
open Pu renaming bF->j7,Tok->j8
open _root_.Nat renaming le_trans->j9,zero_le->qe,not_lt_zero->qf
open Go.World renaming cell?_of_block->qg,setCell->qh,frozen?->qi
open _root_.Array renaming replicate->qj,getElem?_setIfInBounds_ne->qk,getElem?_eq_getElem->ql
open Classical renaming byContradiction->qm
open Go.ByteArray renaming toList_eq->qn
open Go.RowKit.Below renaming heap_setCell->qp,refl->qr
open Bool renaming not_eq_true->qs
open Un.Ty renaming aJ->qt
open In renaming St->qu,bN->qv,sW->qw
open And renaming intro->qx
open Go Go.RowKit Proofs.Tryz
variable {c s:BA} {s1:qu} {ds l ps:List Nat} {T:List j8} {expr uw:M Nd} {N a b h k kb m mb n p rb sb v x y:Nat} {cB sS mS vr:Nat->Nat} {ly:Nat->Option Addr×Nat} {D F P Q S:Nat->Prop} {U V VF ty θ:Nat->Un.Ty} {G:Ns} {q:Option (BA×List Nat)} {α:Type} {bm dV oD:Un.Nx} {str:Un.sN} {u:Value} {w w':World}
section
open Go.ChangeMaps
def mT{β γ:Type}m(f:α->M β)(g:β->M γ):aV (aV m f) g=aV m λa=>aV (f a) g:=by grind[aV]
def Ps(T:List j8)(uw expr:M Nd):M (Nd×Nd):=aV uw λp=>aV (bz T sr) λ_=>aV expr λe k=>.ok ((p,e),k)
def akn w P(a:Nd×Nd)(v:Value):=∃(u1 u2:Int)(vp ve:Value),v=.agg #[Iv u1,Iv u2,vp,ve]/\PP w P a.1 vp/\PE w P a.2 ve
section
def Bx.ako{C}(h:Bx w b C)(hC:C.size=4)v0 v1 v2 v3:Bx ((((w.setCell ⟨b,0,none⟩ v0).setCell ⟨b,1,none⟩ v1).setCell ⟨b,2,none⟩ v2).setCell ⟨b,3,none⟩ v3) b #[v0,v1,v2,v3]:=by
 obtain⟨a0,a1,a2,a3,rfl⟩:∃a0 a1 a2 a3,C=#[a0,a1,a2,a3]:=by
  obtain⟨l⟩:=C
  match l,hC with
  |[a,b,c,d],_=>grind
 exact(((h.aT 0 v0 #[v0,a1,a2,a3] rfl ag).aT 1 v1 #[v0,v1,a2,a3] rfl ag).aT 2 v2 #[v0,v1,v2,a3] rfl ag).aT 3 v3 #[v0,v1,v2,v3] rfl ag
variable {m:MV}
def abH{e}(hm:mZ e):mZ (bindM T e):=λk a k' h=>by
 rw[bindM]at h;split at h
 .have⟨_,k2,h3,h4⟩:=aC h;have⟨_,k3,h5,h6⟩:=aC h4;have⟨_,k4,h7,h8⟩:=aC h6
  cases h8
  have:=eN _ _ _ _ h3;have:=bB _ _ _ _ h5;have:=Hu hm _ _ _ h7;omega
 .have⟨_,k2,h3,h4⟩:=aC h;have⟨_,k3,h5,h6⟩:=aC h4;have⟨_,k4,h7,h8⟩:=aC h6
  cases h8
  have:=eN _ _ _ _ h3;have:=bB _ _ _ _ h5;have:=hm _ _ _ h7;omega
def aee(hs:s.size<=1000)(IH:fc s n)(h:SX w N rb sb m s k)(hn:(j7 s 0).length<=k+1+n):
 Cq 118 #[rp rb] w (ap PE N rb sb m s (qR (j7 s 0) (bt (j7 s 0) n) k) w):=by
 have Xh:=ij;have hf2:=kQ;refine cG.AK h rfl λH=>?_;go_enter func118,ntmps118;go_wp2_with fail;refine(H.re<|congrFun (mT _ _ _) _).take ?_;intro w1 H;go_wp2_with fail;refine H.call (Ev hs IH H.sx ae) ?_;intro b k2 v2 w2 H q V;obtain⟨ve,rfl,V,-⟩:=V;obtain⟨te,xe,rfl⟩:=V.iface;clear V;have l2:k+1<k2:=abH (kR n) _ _ _ q;go_wp2_with fail;refine H.box.take ?_;intro w3 H;go_wp2_with fail;refine H.expr IH ?_;intro c k4 t4 x4 w4 H l4;have⟨⟨_,c1,f1,z1⟩,_⟩:=H.p
 go_wp2
 go_region_with(go_at_call 78;refine H.drew.since ?_;intro w5 H;have⟨⟨_,c1,f1,z1⟩,_⟩:=H.p)
 all_goals(
  go_wp2
  go_ret;refine H.done ?_;rintro⟨⟨⟨_,ve,e,A,B,C,D⟩,_⟩,V⟩
  cases e
  exact .lt _ _ _ _ _ _ _ _ _ _ _ B C D A V)
def afZ(hs:s.size<=1000)(IHP:CY s n)(IH:fc s n)(h:SX w N rb sb m s k)(hn:(j7 s 0).length<=k+n):
 Cq 174 #[rp rb] w (ap akn N rb sb m s (Ps (j7 s 0) (dv (j7 s 0) n) (bt (j7 s 0) n) k) w):=by
 have Xh:=ij;have hf2:=kQ;have o:w.heap.size≠rb:=by have:=h.z;omega
 have⟨c0,f0,z0⟩:=h.bx;refine cG.AK h rfl λH=>?_;go_enter func174,ntmps174;go_wp2_with fail;refine H.own.uw IHP ?_;intro a k1 t1 x1 w1 H l1;go_wp2_with fail;refine H.take ?_;intro w2 H;go_wp2_with fail;refine H.expr IH ?_;intro b k3 t3 x3 w3 H l3;go_wp2_with fail;refine H.since ?_;intro w4 H;have⟨c,f,z⟩:=H.bo o;go_wp2_with fail;have B:=(H.bo o).ako rfl (Nv (tk (Pu.bF s 0) k).aF) (.int .i64 ((aR (Pu.bF s 0) k3:Nat):Int)) (Fv t1<|Av x1) (Fv t3<|Av x3);obtain⟨cF,fF,zF⟩:=B;exact bodyPost_ret (v:=Av #[Nv (tk (Pu.bF s 0) k).aF,.int .i64 ((aR (Pu.bF s 0) k3:Nat):Int),Fv t1<|Av x1,Fv t3<|Av x3]) (by simp[results,Tryz.results174,go_sem,cF]) rfl
  ((H.put o ⟨cF,fF,zF⟩<|cO<|cO<|cO<|cO ⟨rfl,rfl,rfl,rfl,λ_ _=>rfl⟩).done λ⟨⟨_,A⟩,B⟩=>⟨_,_,_,_,rfl,A,B⟩)
end
def aef:(Tryz.prog.info? 306).map (λi=>(i.zero,i.size,i.bytes))=some (some<|.agg #[Iv 0,Iv 0,.nilIface,.nilIface],4,48):=qkr
def Wm:Tryz.prog.underlying 294=some (.slice 306):=qkr
def kV(T:List j8)uw expr f l:=λk=>if aX (tk T k) Vw=true then oa T uw expr f l (k+1)else .ok (l,k)
def Ia(T:List j8)uw expr f l k:oa T uw expr (f+1) l k=aV (Ps T uw expr) (λa=>kV T uw expr f<|l++[a.1,a.2]) k:=by
 rw[Ps];rw[mT];show aV uw _ k=_;congr 1;funext p;rw[mT];congr 1;funext _;rw[mT];rfl
def EA(hp:aS T uw)(he:aS T expr):aS T (Ps T uw expr):=fZ hp λ_=>fZ (r_ _ _) λ_=>fZ he λ_=>Kh _
def gK(T:List j8)uw expr f l:aS T (kV T uw expr f l):=by grind[aS,kV,eE,cW]
def Tq(hp:GH uw)(he:mZ expr):mZ (Ps T uw expr):=λk a k' h=>by
 rw[Ps]at h;have⟨_,k1,h1,h2⟩:=aC h;have⟨_,k2,h3,h4⟩:=aC h2;have⟨_,k3,h5,h6⟩:=aC h4
 cases h6
 have:=hp _ _ _ h1;have:=bB _ _ _ _ h3;have:=he _ _ _ h5;omega
def abI A p:bq (A++[p])=bq A++[p.1,p.2]:=by
 induction A with
 |nil=>rfl|cons q l ih=>show q.1::q.2::bq (l++[p])=q.1::q.2::(bq l++_);rw[ih]
def aeg:EQ (Nd×Nd):=λw P a c=>(∃u1 u2:Int,c 0=Iv u1/\c 1=Iv u2)/\PP w P a.1 (c 2)/\PE w P a.2 (c 3)
def mU:gq aeg:=λ_ _ _ _ _ _ h h1 h2 h3=>⟨h.1,h.2.1.move h1 h2 h3,h.2.2.move h1 h2 h3⟩
def akp x w P l v:=∃A,A≠[]/\l=x::bq A/\RowV aeg 4 w P A v
section
variable {m:MV}
def Tr:Mov akn:=λ_ _ _ _ _ _⟨a,b,c,d,e,f,g⟩p q r=>⟨a,b,c,d,e,f.move p q r,g.move p q r⟩
def L9(hs:s.size<=1000)(hT:(j7 s 0).length<=1001)(IHP:CY s n)(IH:fc s n)(h:SX w N rb sb m s k)(hn:(j7 s 0).length<=k+n)x:
 Cq 173 #[rp rb,pA 174 rb] w (ap (akp x) N rb sb m s (oa (j7 s 0) (dv (j7 s 0) n) (bt (j7 s 0) n) (j7 s 0).length [x] k) w):=by
 have hcA:∀args w,(callFunc 174 args).run Tryz.prog w=.ok (.enter 174 args) w:=λ_ _=>qkr;have hk:=h.lt;obtain⟨r,hr⟩:∃r,r=oa (Pu.bF s 0) (dv (Pu.bF s 0) n) (bt (Pu.bF s 0) n) (Pu.bF s 0).length [x] k:=⟨_,rfl⟩;rw[<-hr];obtain⟨L,hL⟩:∃L,(Pu.bF s 0).length=L+1:=⟨(Pu.bF s 0).length-1,ae⟩;refine cG.AK h (by rw[hr,hL];exact Ia _ _ _ _ _ _) λH=>?_;have HL:=ai hL;clear hr hL;go_enter func173,ntmps173;go_wp2_with fail;refine H.call (afZ hs IHP IH h hn) ?_ (st:=λa=>gK _ _ _ _ _) (mv:=Tr);intro a k1 v1 w1 H q V;have l1:=Tq (pI (T:=(Pu.bF s 0)) n) (kR n) _ _ _ q;obtain⟨u1,u2,vp,ve,rfl,P1,E1⟩:=V;obtain⟨tp,xp,rfl⟩:=P1.iface;obtain⟨te,xe,rfl⟩:=E1.iface;have H:=(H.af<|bw _).row mU (dh.one (sz:=4) (et:=306) (lo:=w.heap.size) (c:=λj=>([Iv u1,Iv u2,Fv tp<|Av xp,Fv te<|Av xe]:List Value).getD j Zv) mU ⟨⟨u1,u2,rfl,rfl⟩,P1,E1⟩ (br _) H.ke.size aw #[Iv u1,Iv u2,Fv tp<|Av xp,Fv te<|Av xe] rfl rfl) ⟨br _,.inl rfl⟩;clear P1 E1 q
 go_wp2
 go_loopg[5] ((j7 s 0).length-k1) (λgk v wr=>GD (·≠[]) aeg 306 4 N rb sb m s (k+1) w r (λf A _=>kV (j7 s 0) (dv (j7 s 0) n) (bt (j7 s 0) n) f (x::bq A)) gk v wr)
 case atStart=>exact⟨k1,[a],L,_,1,0,rfl,ag,H,ai rfl,l1,bD,by have:=uh HL;omega⟩
 case round=>
  clear H HL;obtain⟨kr,A,f,va,vc,_,rfl,hA,H,cV,hle,hAl,hfu⟩:=hrel;have zw:=H.ke.size;have hrw:=H.p.block;have hkr:=H.sx.lt
  cases hb:aX (tk (j7 s 0) kr) Vw
  .have H:=H.re (g':=λk=>.ok (x::bq A,k)) (by dsimp only[kV];rw[hb];rfl);go_wp2_with fail;refine H.GB hb ?_
   go_wp2
   go_ret;exact H.done λR=>⟨A,hA,rfl,R.v mU⟩
  .obtain⟨f,rfl⟩:∃f',f=f'+1:=⟨f-1,ae⟩;have H:=H.re (g':=aV rE λ_=>aV (Ps (j7 s 0) (dv (j7 s 0) n)<|bt (j7 s 0) n) λa=>kV (j7 s 0) (dv (j7 s 0) n) (bt (j7 s 0) n) f (x::bq A++[a.1,a.2])) (by dsimp only[kV];rw[if_pos hb,Ia];rfl);go_wp2_with fail;refine H.C8 hb ?_ (st:=λ_=>fZ (EA (qJ _)<|nN _) λa=>gK _ _ _ _ _);intro w2 H;go_wp2_with fail;have z2:=H.ke.size;have hrw:=H.p.block;refine H.call (afZ hs IHP IH H.sx ae) ?_ (st:=λa=>gK _ _ _ _ _) (mv:=Tr);intro a k2 v1 w1 H q V;have l2:=Tq (pI (T:=(j7 s 0)) n) (kR n) _ _ _ q;obtain⟨u1,u2,vp,ve,rfl,P1,E1⟩:=V;obtain⟨tp,xp,rfl⟩:=P1.iface;obtain⟨te,xe,rfl⟩:=E1.iface;go_wp2_with(at_builtin;go_must(refine H.append (D:=[Iv u1,Iv u2,Fv tp<|Av xp,Fv te<|Av xe]) hT mU aef Wm H.p.1 z2 (λb e=>(hrw b e).2) (c:=λj=>([Iv u1,Iv u2,Fv tp<|Av xp,Fv te<|Av xe]:List Value).getD j Zv) ⟨⟨u1,u2,rfl,rfl⟩,P1,E1⟩ ae ?_;intro q3 c3 w3 H));go_roundg((j7 s 0).length-k2)
   case measure=>rw[uh cV];omega
   case rel=>exact⟨k2,A++[a],f,_,c3,0,ag,ag,H.re (by dsimp only;rw[abI];rfl),ai rfl,ae,bD,ae⟩
end
section
variable {m:MV}
def RowV.mt{lo}{w w0:World}{A}{va}{vc}(h:RowV aeg 4 w (λb=>lo<=b) A (.slice va A.length vc))(h0:A≠[])(sH:w0.heap.size<=lo){x}{vx}(hx:PE w (λb=>w0.heap.size<=b) x vx)f t a:
 PE w (λb=>w0.heap.size<=b) (.mk 13 jY 0 (x::bq A) f t a) (.iface 296<|.agg #[Nv f,Nv t,vx,.slice va A.length vc]):=by
 obtain⟨oR,oU,cs,hv,aN,hr⟩:=h
 cases hv
 obtain h1|⟨g,rfl,h2,h3,h4⟩:=aN
 .exact absurd h1 h0
 have wd:∀b,lo<=b->w0.heap.size<=b:=λb p=>j9 sH p;refine .mt _ _ x A f t a vx g vc (λi=>cs i 2) (λi=>cs i 3) h0 (wd g h2) h3 (λi hi=>?_) hx (λi hi=>(hr i hi).2.1.wide wd)<|λi hi=>(hr i hi).2.2.wide wd;have⟨u1,u2,e1,e2⟩:=(hr i hi).1;exact⟨⟨u1,u2,by rw[<-e1];exact h4 i hi 0 aw,by rw[<-e2];exact h4 i hi 1 aw⟩,h4 i hi 2 aw,h4 i hi 3 aw⟩
def OK{n}(hT:0<T.length)x:aS T (oa T (dv T n) (bt T n) T.length [x]):=by
 obtain⟨L,hL⟩:∃L,T.length=L+1:=⟨T.length-1,ae⟩;rw[hL];intro k h;rw[Ia];exact b8 (EA (qJ _) (nN _) k h) λ_=>gK _ _ _ _ _
def aeh(hs:s.size<=1000)(hT:(j7 s 0).length<=1001)(IHP:CY s n)(IH:fc s n)(h:SX w N rb sb m s k)(hn:(j7 s 0).length<=k+1+n):
 Cq 120 #[rp rb] w (ap PE N rb sb m s (v8 (j7 s 0) (dv (j7 s 0) n) (bt (j7 s 0) n) k) w):=by
 have Xh:=ij;have hf2:=kQ;have hT0:0<(j7 s 0).length:=by have:=h.lt;omega
 refine cG.AK h rfl λH=>?_;go_enter func120,ntmps120;go_wp2_with fail;refine H.take ?_;intro w1 H;go_wp2_with fail;refine H.expr IH ?_;intro x k2 t2 x2 w2 H l2;go_wp2_with fail;refine H.take ?_;intro w3 H;go_wp2_with fail;refine H.call (L9 hs hT IHP IH H.sx ae x) ?_ (mv:=λ_ _ _ _ _ _⟨A,a,b,c⟩p q r=>⟨A,a,b,c.move mU p q r⟩);intro l k4 v4 w4 H q V;obtain⟨va,L,vc,rfl⟩:∃va L vc,v4=Lv va L vc:=by obtain⟨_,-,-,_,_,_,rfl,-⟩:=V;exact⟨_,_,_,rfl⟩
 clear q V;go_wp2_with fail;refine H.take ?_;intro w5 H;go_wp2_with fail;refine H.since ?_;intro w6 H
 go_wp2
 go_ret;refine H.done ?_;rintro⟨⟨_,V⟩,A,a,rfl,_,_,cs,e,R⟩
 cases e
 exact RowV.mt ⟨_,_,cs,rfl,R⟩ a (br _) V _ _ _
def uM{F}{r}(h:SX w N rb sb m s k)(hg:a_ (aA<|tk (j7 s 0) k) (Rx rb)=some (pA F rb)\/a_ (aA<|tk (j7 s 0) k) (Rx rb)=none/\F=194)(hcf:∀args w,(callFunc F args).run Tryz.prog w=.ok (.enter F args) w)(HC:∀W,SX W N rb sb m s k->Cq F #[rp rb] W (ap PE N rb sb m s r W)):Cq 172 #[rp rb] w (ap PE N rb sb m s r w):=by
 have⟨b,rC,_,_,hM⟩:=h.ev.mp.wd;have hl:=λq=>eG (hM.same (w':=w.drewN q) rfl) Tryz.underlying206 (uz _)<|aA<|tk (j7 s 0) k;have Dr:=eG hM Tryz.underlying206 (uz _)<|aA<|tk (j7 s 0) k;have⟨c,ff,z⟩:=h.bx;obtain hg|⟨hg,rfl⟩:=hg
 all_goals(
  simp only[hg,lH]at hl Dr;clear hg;go_enter func172,ntmps172
  go_wp2
  go_quiet(fail);go_wp2_with fail;refine(HC _<|h.af<|below_drewN _ nq).mono ?_;intro e w1 hp
  cases hA:fin (j7 s 0) r with
  |error f'=>
   obtain⟨rfl,IB⟩:=hp.bad hA;exact⟨rfl,ap.fail ((Ke.of<|below_drewN _ nq).trans IB) hA⟩
  |ok p=>
  obtain⟨a,k2⟩:=p;obtain⟨v,rfl,IB,HS,HR⟩:=hp.ok hA;obtain⟨tv,xv,rfl⟩:=HR.iface;have HE:=ai (r9 hA).1;have HK:=(Ke.of<|below_drewN w nq).trans IB;clear hp hA IB
  go_wp2
  go_ret
  exact ap.done HE HK HS HR)
def Wn(hs:s.size<=1000)(hT:(j7 s 0).length<=1001)(IH:fc s n):fc s (n+1):=by
 intro w N rb sb m k h hn;show Calls _ _ _ _<|ap PE N rb sb m s (if aX (tk (j7 s 0) k) OD=true then vX (j7 s 0) (bt (j7 s 0) n) k else if aX (tk (j7 s 0) k) kIf=true then qL (j7 s 0) (bt (j7 s 0) n) k else if aX (tk (j7 s 0) k) vS=true then v8 (j7 s 0) (dv (j7 s 0) n) (bt (j7 s 0) n) k else if aX (tk (j7 s 0) k) vR=true then qR (j7 s 0) (bt (j7 s 0) n) k else(uv (j7 s 0)<|ur (j7 s 0)<|fe (j7 s 0)<|db (j7 s 0)<|yX s n) k) w
 cases n0:aX (tk (j7 s 0) k) OD
 .cases n1:aX (tk (j7 s 0) k) kIf
  .cases n2:aX (tk (j7 s 0) k) vS
   .cases n3:aX (tk (j7 s 0) k) vR
    .exact uM h (.inr ⟨uL (eC s k h.lt) h.ok (by simp[n0,n1,n2,n3];decide),rfl⟩) (λ_ _=>qkr) λW S=>H8 hs hT IH S ae
    .exact uM h (.inl (by rw[gG n3];rfl)) (λ_ _=>qkr) λW S=>aee hs IH S ae
   .exact uM h (.inl (by rw[gG n2];rfl)) (λ_ _=>qkr) λW S=>aeh hs hT (Eu hs hT n) IH S ae
  .exact uM h (.inl (by rw[gG n1];rfl)) (λ_ _=>qkr) λW S=>abt hs IH S ae
 .exact uM h (.inl (by rw[gG n0];rfl)) (λ_ _=>qkr) λW S=>sw hs IH S ae
def abJ(hs:s.size<=1000)(hT:(j7 s 0).length<=1001):∀n,fc s n
 |0=>λw N rb sb m k h hn=>by have:=h.lt;omega|n+1=>Wn hs hT<|abJ hs hT n
end
end
section
open Go.ChangeMaps Un
def aei(h:oA c):IZ c:=⟨λe=>(by obtain⟨x,r,h1,_⟩:=h;rw[h1]at e;cases e),cJ h 40 [] aw⟩
abbrev pO:BA:=⟨#[45,62]⟩
abbrev Bp:BA:=⟨#[44]⟩
def Ts:∀L:List Nd,wTL L=L.map wT
 |[]=>rfl|x::l=>by simp[wTL,Ts l]
def Ib t:(sep t).length<=1:=by rw[sep];split<;>simp
def abK B pb mv l(L:List Nd)w gk v wr:=
 ∃(j:Nat)(XO:Value)(I0:BA),Hid (gk=L.length-j)/\j<=L.length/\v=Nv j/\PN wr B pb XO (l++((L.take j).map wT).flatMap λp=>32::p 2) I0 mv/\IZ I0/\FN B pb w wr
def Wo(L:List Nd)j(h:j<L.length):(((L.take<|j+1).map wT).flatMap λp=>32::p 2)=(((L.take j).map wT).flatMap λp=>32::p 2)++32::wT L[j] 2:=by
 rw[List.take_add_one,jh h];simp only[jj,List.flatMap_append,Option.toList_some,jf,jx,List.flatMap_cons,List.flatMap_nil,List.append_nil]
def aej(L:List Nd)j:(((L.take j).map wT).flatMap λp=>32::p 2).length<=((L.map wT).flatMap λp=>32::p 2).length:=by
 have e:((L.map wT).flatMap λp=>32::p 2)=(((L.take j).map wT).flatMap λp=>32::p 2)++(((L.drop j).map wT).flatMap λp=>32::p 2):=by
  rw[<-List.flatMap_append,<-jj,jk]
 rw[e,lz];omega
section
variable {B pb:Nat} {bv:Value} {l:List UInt8} {last:BA} {mv:Value}
def aek s(hu:oA s)(hss:s.size<=1000)x y L sa sc(vs:Nat->Value)(hL:L.length<=1001)(h:PN w B pb bv l last mv)(hq:NQ w pb Q)(hB:B<=pb)(aN:L=[]\/∃g,sa=some ⟨g,0,none⟩/\Q g/\g<w.heap.size/\∀i,i<L.length->w.cell? ⟨g,i,none⟩=some (vs i))(hr:∀i(h:i<L.length),mz w Q L[i]<|vs i)(IH:∀i(h:i<L.length),W5 L[i])(hl:(l++(sep last++(s.toList++(L.map wT).flatMap λp=>32::p 2))).length<=800000):
 Cq 82 #[Pv pb,.agg #[Iv x,Iv y,.string s],.slice sa L.length sc] w (u9 B pb mv (l++(sep last++(s.toList++(L.map wT).flatMap λp=>32::p 2))) w):=by
 have hzp:=h.lt;have hsl:=Ib last;simp only[lz]at hl;have bP:Bq w ((w.alloc<|Cv #[Iv x,Iv y,Sv s] 121).alloc<|Cv #[Sv s] 9):=(bw _).alloc ag _;have BX:Bx ((w.alloc<|Cv #[Iv x,Iv y,Sv s] 121).alloc<|Cv #[Sv s] 9) (w.heap.size+1) #[Sv s]:=by have:=Bx.new (w.alloc<|Cv #[Iv x,Iv y,Sv s] 121) #[Sv s] 9;simpa using this
 have HP:=wX (h.af bP) s ae ae (w.heap.size+1) BX ae;rw[oJ (cJ hu 41 [] aw) (cJ hu 44 [] aw)<|cJ hu 59 [] aw]at HP;have F0:=FN.of (B:=B) (pb:=pb) bP;have stl:s.toList.length=s.size:=by rw[qn];simp
 go_enter func82,ntmps82;go_wp2_with fail;refine HP.mono ?_;rintro e w1⟨rfl,bv1,N1,F1⟩;have FA:=F0.trans F1
 go_wp2
 go_loopg[15] L.length (λgk v wr=>abK B pb mv (l++(sep last++s.toList)) L w gk v wr)
 case atStart=>exact⟨0,bv1,s,ai ag,qe _,rfl,by simpa using N1,aei hu,FA⟩
 case round=>
  obtain⟨j,W6,Dm,cV,hj,rfl,N2,fi2,F2⟩:=hrel;by_cases bh:j<L.length
  .have hd:(j:Int)<(L.length:Int):=ae;obtain⟨g,rfl,hg,iP,bQ⟩:∃g,sa=some ⟨g,0,none⟩/\Q g/\g<w.heap.size/\∀i,i<L.length->w.cell? ⟨g,i,none⟩=some (vs i):=by
    obtain h0|h0:=aN
    .subst h0;simp at bh
    .exact h0
   have cg:=(qg (a:=⟨g,j,none⟩)<|F2.block g iP (hq g hg).2.1<|j5 (hq g hg).2.2).trans<|bQ j bh;have PJ:=(hr j bh).fnQ hq F2;have⟨tv,xv,hv⟩:=PJ.bO;have ft:=Wo L j bh;have fl:=aej L<|j+1;rw[ft]at fl;simp only[lz,kh]at fl;have HC:=IH j bh wr B pb W6 _ Dm mv Q (vs j) 2 N2 PJ (hq.fn F2) (br _) (by rw[ki fi2];simp only[lz,kh,qP];omega) hB;rw[hv]at cg HC;rw[ki fi2]at HC;go_wp2_with(go_at_call 36;refine HC.mono ?_;rintro e w3⟨rfl,bv3,Tt,hN3,fi3,hF3⟩;have HN3:=ai hN3;have HF3:=ai<|F2.trans hF3;clear hN3 hF3);go_roundg(L.length-(j+1))
   case measure=>rw[uh cV];omega
   case rel=>
    refine⟨j+1,bv3,Tt,ai rfl,ae,i_,?_,fi3,HF3⟩;rw[ft];have e9:l++(sep last++s.toList)++((((L.take j).map wT).flatMap λp=>32::p 2)++32::wT L[j] 2)=l++(sep last++s.toList)++(((L.take j).map wT).flatMap λp=>32::p 2)++([32]++wT L[j] 2):=ag;rw[e9];exact HN3
  .have hd:decide ((j:Int)<(L.length:Int))=false:=bD;have ej:j=L.length:=ae;subst ej;rw[ji]at N2
   go_wp2
   go_end0;refine⟨rfl,W6,Dm,?_,fi2,F2⟩;have e9:l++(sep last++(s.toList++(L.map wT).flatMap λp=>32::p 2))=l++(sep last++s.toList)++(L.map wT).flatMap λp=>32::p 2:=ag;rw[e9];exact N2
end
def ael(h:UG s):(⟨#[39]⟩:BA)++s.extract 1 s.size=s:=by
 obtain⟨r,hr⟩:=h;apply toList_inj;rw[hr];have h2:=yD hr;rw[tl]at h2;rw[qn]at h2⊢;rw[ByteArray.data_append];simp only[Array.toList_append,h2];rfl
def abL(h:UG s):IZ s:=by grind[UG,IZ]
def ah2 s n f t a k:wT (.mk 16 s n [] f t a) k=s.toList:=by simp[wT]
def akq s n x y f t a:wT (.mk 17 s n [x,y] f t a) 0=wT x 1++([32,45,62,32]++wT y 0):=by
 simp only[wT,g_,show ¬(17=16) by decide,if_false,if_true,bu,wTL];rfl
def akr s n x y f t a:wT (.mk 6 s n [x,y] f t a) 0=40::(wT x 0++([44,32]++(wT y 0++[41]))):=by
 have cR:¬lq=m9:=Cc;simp only[wT,g_,show ¬(6=16) by decide,show ¬(6=17) by decide,if_false,if_true,bu,if_neg cR,wTL];rfl
def aks s(hu:oA s)n L f t a:wT (.mk 2 s n L f t a) 0=s.toList++(L.map wT).flatMap λp=>32::p 2:=by
 have h1:s≠m9:=λe=>cJ hu 62 [] aw (by rw[e];exact toList_mk [62]);have h2:s≠lq:=λe=>cJ hu 44 [] aw (by rw[e];exact toList_mk [44]);simp only[wT,g_,show ¬(2=16) by decide,show ¬(2=17) by decide,show ¬(2=6) by decide,if_false,bu,if_neg h1,if_neg h2,Ts];rfl
def uN{t}{r}(h:t.toList=r)(h1:r≠[])(h2:r≠[40]):IZ t:=by grind[IZ]
def Ys s n f t a(hss:s.size<=1000):zG (.mk 16 s n [] f t a):=by
 intro w B pb bv l last mv Q v h hp hq hl hB
 cases hp with
 |var s n f t a x y hqu=>
 rw[ah2]at hl⊢;simp only[lz]at hl;have hzp:=h.lt;have stl:s.toList.length=s.size:=by rw[qn];simp
 have bP:Bq w ((w.alloc<|Cv #[Iv x,Iv y,Sv<|s.extract 1 s.size] 143).alloc<|Cv #[Sv s] 9):=(bw _).alloc ag _;have BX:Bx ((w.alloc<|Cv #[Iv x,Iv y,Sv<|s.extract 1 s.size] 143).alloc<|Cv #[Sv s] 9) (w.heap.size+1) #[Sv s]:=by have:=Bx.new (w.alloc<|Cv #[Iv x,Iv y,Sv<|s.extract 1 s.size] 143) #[Sv s] 9;simpa using this
 have HP:=wX (h.af bP) s ae ae (w.heap.size+1) BX ae;obtain⟨r,Hr⟩:=hqu;rw[oJ (by rw[Hr];simp) (by rw[Hr];simp) (by rw[Hr];simp)]at HP;have F0:=FN.of (B:=B) (pb:=pb) bP;have ahL:=ael ⟨r,Hr⟩;go_enter func60,ntmps60;go_wp2_with fail;refine HP.mono ?_;rintro e w1⟨rfl,bv1,N1,F1⟩
 go_wp2
 go_end0;exact⟨rfl,bv1,s,N1,abL ⟨r,Hr⟩,F0.trans F1⟩
def ac_ s n L f t a(hss:s.size<=1000)(hL:L.length<=1001)(IH:∀i(h:i<L.length),W5 L[i]):zG (.mk 2 s n L f t a):=by
 intro w B pb bv l last mv Q v h hp hq hl hB
 cases hp with
 |up s n L f t at_ x y x' y' sa sc vs hu aN hr=>
 rw[aks s hu]at hl⊢;have stl:s.toList.length=s.size:=by rw[qn];simp
 have bP:Bq w (w.alloc<|Cv #[Iv x,Iv y,Iv x',Iv y',Sv s,Lv sa L.length sc] 150):=bw _;have F0:=FN.of (B:=B) (pb:=pb) bP
 have HC:=ai (aek (Q:=Q) s hu hss x' y' L sa sc vs hL (h.af bP) (hq.fn F0) hB
  (aN.imp id λq=>by
   obtain⟨g,q1,q2,q3,q4⟩:=q
   exact⟨g,q1,q2,bD,λi hi=>(qg (a:=⟨g,i,none⟩)<|bP.block g q3).trans<|q4 i hi⟩)
  (λi hi=>(hr i hi).af bP) IH hl)
 go_enter func60,ntmps60;go_wp2_with fail;refine HC.mono ?_;rintro e w1⟨rfl,bv1,af0,N1,fi1,F1⟩
 go_wp2
 go_end0;exact⟨rfl,bv1,af0,N1,fi1,F0.trans F1⟩
def ac8 s n a b f t at_(Ha:W5 a)(Hb:W5 b):zG (.mk 17 s n [a,b] f t at_):=by
 intro w B pb bv l last mv Q v h hp hq hl hB
 cases hp with
 |fn s n a b f t at_ x y va vb ha hb=>
 rw[akq]at hl⊢;obtain⟨ta,xa,rfl⟩:=ha.bO;obtain⟨tb,xb,rfl⟩:=hb.bO;have hzp:=h.lt;have hsl:=Ib last;simp only[lz,kh,qP]at hl;have⟨bP,XB⟩:=oF w #[Iv x,Iv y,Fv ta<|Av xa,Fv tb<|Av xb] 145;have F0:=FN.of (B:=B) (pb:=pb) bP;have HC:=Ha _ B pb bv l last mv Q _ 1 (h.af bP) (ha.af bP) (hq.fn F0) ae (by simp only[lz];omega) hB;go_enter func60,ntmps60;go_wp2_with fail;refine HC.mono ?_;rintro e w1⟨rfl,bv1,af0,N1,fi1,F1⟩;have X1:=F1.ls XB ae qAi;obtain⟨c1,f1,z1⟩:=X1;have am1:=N1.lt;have bZ:Bq w1 (w1.alloc<|Cv #[Sv pO] 9):=bw _;have HP:=wX (N1.af bZ) pO aw (by simp only[lz];omega) w1.heap.size (Bx.new w1 #[Sv pO] 9) ae;rw[oJ (by rw[show pO.toList=[45,62]from toList_mk [45,62]];decide) (by rw[show pO.toList=[45,62]from toList_mk [45,62]];decide) (by rw[show pO.toList=[45,62]from toList_mk [45,62]];decide),show pO.toList=[45,62]from toList_mk [45,62],ki fi1]at HP;go_wp2_with fail;refine HP.mono ?_;rintro e w2⟨rfl,W6,N2,F2⟩;have F12:=(FN.of (B:=B) (pb:=pb) bZ).trans F2;have FA:=(F0.trans F1).trans F12;have X2:=(F1.trans F12).ls XB ae qAi;obtain⟨c2,f2,z2⟩:=X2;have HD:=Hb w2 B pb W6 _ pO mv Q _ 0 N2 (hb.fnQ hq FA) (hq.fn FA) ae (by rw[ki<|uN (toList_mk [45,62]) aw aw];simp only[lz,kh,qP];omega) hB;rw[ki<|uN (toList_mk [45,62]) aw aw]at HD
 go_wp2_with fail;refine HD.mono ?_;rintro e w3⟨rfl,bv3,Tt,N3,fi3,F3⟩
 go_wp2
 go_end0;refine⟨rfl,bv3,Tt,?_,fi3,FA.trans F3⟩;have e9:l++(sep last++wT a 1)++([32]++[45,62])++([32]++wT b 0)=l++(sep last++(wT a 1++([32,45,62,32]++wT b 0))):=ag;rw[e9]at N3;simp only[jp,jt,ju]at N3⊢;exact N3
def ac9 s n a b f t at_(Ha:W5 a)(Hb:W5 b):zG (.mk 6 s n [a,b] f t at_):=by
 intro w B pb bv l last mv Q v h hp hq hl hB
 cases hp with
 |pr s n a b f t at_ x y va vb ha hb=>
 rw[akr]at hl⊢;obtain⟨ta,xa,rfl⟩:=ha.bO;obtain⟨tb,xb,rfl⟩:=hb.bO;have hzp:=h.lt;have hsl:=Ib last;simp only[lz,kh,qP]at hl;have bP:Bq w ((w.alloc<|Cv #[Iv x,Iv y,Fv ta<|Av xa,Fv tb<|Av xb] 147).alloc<|Cv #[Sv gQ] 9):=(bw _).alloc ag _;have F0:=FN.of (B:=B) (pb:=pb) bP;have XB:=(Bx.new w #[Iv x,Iv y,Fv ta<|Av xa,Fv tb<|Av xb] 147).alloc<|Cv #[Sv gQ] 9;have BX:Bx ((w.alloc<|Cv #[Iv x,Iv y,Fv ta<|Av xa,Fv tb<|Av xb] 147).alloc<|Cv #[Sv gQ] 9) (w.heap.size+1) #[Sv gQ]:=by have:=Bx.new (w.alloc<|Cv #[Iv x,Iv y,Fv ta<|Av xa,Fv tb<|Av xb] 147) #[Sv gQ] 9;simpa using this
 have HP:=wX (h.af bP) gQ aw ae (w.heap.size+1) BX ae;rw[oJ qAm qAm qAm,show gQ.toList=[40]from toList_mk [40]]at HP;have nx:∀x0,(#[Iv x,Iv y,Fv ta<|Av xa,Fv tb<|Av xb])[0]? =some x0->∀c,x0≠.int .u8 c:=qAi;go_enter func60,ntmps60;go_wp2_with fail;refine HP.mono ?_;rintro e w1⟨rfl,bv1,N1,F1⟩;have G1:=F0.trans F1;have⟨c1,f1,z1⟩:=F1.ls XB ae nx;have hs1:sep gQ=[]:=by rw[sep];rw[if_pos<|Or.inr<|toList_mk [40]]
 have HC:=Ha w1 B pb bv1 _ gQ mv Q _ 0 N1 (ha.fnQ hq G1) (hq.fn G1) ae (by rw[hs1];simp only[lz,kh,qP];omega) hB;rw[hs1]at HC;go_wp2_with fail;refine HC.mono ?_;rintro e w2⟨rfl,W6,Dm,N2,fi2,F2⟩;have G2:=G1.trans F2;have alg:=N2.lt;have gd:Bq w2 (w2.alloc<|Cv #[Sv Bp] 9):=bw _;have HP2:=wX (N2.af gd) Bp aw (by simp only[lz,kh,qP];omega) w2.heap.size (Bx.new w2 #[Sv Bp] 9) ae;rw[u7<|j5<|toList_mk [44],show Bp.toList=[44]from toList_mk [44]]at HP2;have⟨c2,f2,z2⟩:=(F1.trans F2).ls XB ae nx;go_wp2_with fail;refine HP2.mono ?_;rintro e w3⟨rfl,bv3,N3,F3⟩;have F23:=(FN.of (B:=B) (pb:=pb) gd).trans F3;have G3:=G2.trans F23;have⟨c3,f3,z3⟩:=((F1.trans F2).trans F23).ls XB ae nx;have HD:=Hb w3 B pb bv3 _ Bp mv Q _ 0 N3 (hb.fnQ hq G3) (hq.fn G3) ae (by rw[ki<|uN (toList_mk [44]) aw aw];simp only[lz,kh,qP];omega) hB;rw[ki<|uN (toList_mk [44]) aw aw]at HD;go_wp2_with fail;refine HD.mono ?_;rintro e w4⟨rfl,bv4,amN,N4,fi4,F4⟩;have G4:=G3.trans F4;have am2:=N4.lt;have ry:Bq w4 (w4.alloc<|Cv #[Sv iS] 9):=bw _;have HP4:=wX (N4.af ry) iS aw (by simp only[lz,kh,qP];omega) w4.heap.size (Bx.new w4 #[Sv iS] 9) ae;rw[u7<|j6<|toList_mk [41],show iS.toList=[41]from toList_mk [41]]at HP4;go_wp2_with fail;refine HP4.mono ?_
 rintro e w5⟨rfl,bv5,N5,F5⟩
 go_wp2
 go_end0;refine⟨rfl,bv5,iS,?_,uN (toList_mk [41]) aw aw,G4.trans<|(FN.of ry).trans F5⟩;have e9:l++(sep last++[40])++([]++wT a 0)++[44]++([32]++wT b 0)++[41]=l++(sep last++40::(wT a 0++([44,32]++(wT b 0++[41])))):=ag;rw[e9]at N5;simp only[jp,jt,ju]at N5⊢;exact N5
def ah3 i(h:i<=900):(bs (39::vT i)).size<=1000:=by
 rw[cq];have:=yU i;simp[vT];omega
def abM{l:List α}(h:l.length=2):∃x y,l=[x,y]:=by
 match l,h with
 |[x,y],_=>exact⟨x,y,rfl⟩
def Tu:∀(x y:List Ty)(a:List Nat),m_ a (x++y)=m_ a x++m_ (aU a x) y
 |[],y,a=>rfl|t::x,y,a=>by simp[m_,aU,Tu x y]
def ah4 l a i h:(m_ a l)[i]'(by rw[eH];exact h)=sp (aU a<|l.take i) l[i]:=by
 have h1:=(td l a i h).1;have h2:(m_ a l)[i]? =(m_ a<|l.take<|i+1)[i]? :=by
  have e:m_ a l=m_ a (l.take<|i+1)++m_ (aU a<|l.take<|i+1) (l.drop<|i+1):=by
   rw[<-Tu,jk]
  rw[e,jo (by rw[eH];simp;omega)]
 rw[h1,jm (by rw[eH];simp;omega),eH]at h2;rw[jh (by rw[eH];exact h)]at h2;have h3:i-(l.take i).length=0:=bD;rw[h3]at h2;exact Option.some.inj h2
def WN.sp{w}{P}{T}{v}(h:dD w P T v):Wf T->size T<=900->∀a,(vars a T).length<=900->WN (sp a T):=by
 induction h with
 |var n=>
  intro _ _ a hv;simp only[vars]at hv;refine .var _ _ _ _ _<|ah3 _ ?_;have:(j3 a n).idxOf n<(j3 a n).length:=List.idxOf_lt_length_iff.2 (by rw[j3];split<;>simp[*]);omega
 |aJ c L sa sc vs hc aN hr ih=>
  intro hW hs a hv;obtain⟨Nl,hWL⟩:=hW;rw[pY]at hWL;simp only[size]at hs;simp only[vars]at hv;have key:∀i(h:i<L.length),WN<|(m_ a L)[i]'(by rw[eH];exact h):=λi hi=>by
   rw[ah4 L a i hi];have e1:=lA L i hi;have e2:=eR L<|i+1;refine ih i hi (hWL _<|ja hi) ae _ ?_;rw[<-(td L a i hi).2];exact j9 (ri L a<|i+1) hv
  have hl:=pX L;obtain rfl|rfl|hu:=hc
  .have h2:(m_ a L).length=2:=by rw[eH];exact Nl.2.1<|j6 rfl
   have hL2:=Nl.2.1<|j6 rfl;have⟨x,y,e⟩:=abM h2;have hk:kd m9=17:=by rw[kd];rw[if_pos<|(ng m9).2 rfl]
   simp only[Go.Proofs.YtlnlhlefeokfjaaGreatDoor.sp,hk];have k0:=key 0 ae;have k1:=key 1 ae;simp only[e]at k0 k1⊢;exact .fn _ _ _ _ _ _ _ k0 k1
  .have h2:(m_ a L).length=2:=by rw[eH];exact Nl.2.1<|j5 rfl
   have hL2:=Nl.2.1<|j5 rfl;have⟨x,y,e⟩:=abM h2;have cR:¬lq=m9:=Cc;have hk:kd lq=6:=by rw[kd];rw[if_neg<|λq=>cR<|(ng lq).1 q,if_pos<|(s_ lq).2 rfl]
   simp only[Go.Proofs.YtlnlhlefeokfjaaGreatDoor.sp,hk];have k0:=key 0 ae;have k1:=key 1 ae;simp only[e]at k0 k1⊢;exact .pr _ _ _ _ _ _ _ k0 k1
  .have hk:kd c=2:=by
    rw[kd];rw[if_neg<|λq=>cJ hu 62 [] aw (by rw[(ng c).1 q];exact toList_mk [62]),if_neg<|λq=>cJ hu 44 [] aw (by rw[(s_ c).1 q];exact toList_mk [44])]
   simp only[Go.Proofs.YtlnlhlefeokfjaaGreatDoor.sp,hk];refine .up _ _ _ _ _ _ (by have:=Nl.1;omega) (by rw[eH];omega) (λi hi=>key i (by rw[eH]at hi;exact hi))
def dD.akt{T}{v}(h:dD w P T v)L:wr dec L T 0≠[]:=by
 cases h with
 |var n=>simp[wr]|aJ c l sa sc vs hc aN hr=>
  simp only[wr];rw[bu];split
  .rw[Un.rL];simp
  .split
   .simp
   .rename_i h1 h2;obtain rfl|rfl|hu:=hc
    .exact absurd rfl h1
    .exact absurd rfl h2
    .obtain⟨x,r,e,_⟩:=hu;rw[Un.rL];simp[e]
def aem p x y z:Cq 80 #[.pointer<|some p,Iv x,Iv y,Iv z] w λe w'=>(∃v,e=.returned v)/\Bq w w':=by
 go_enter func80,ntmps80
 go_wp2
 go_ret;exact⟨⟨_,rfl⟩,(((bw _).alloc ag _).alloc bD _).alloc bD _⟩
def Pt p:Cq 56 #[.pointer<|some p] w (Vl w):=by
 have H:=Ma.new (w:=w);have HB:=(Below.refl w.heap.size w).alloc (br _)<|.map #[] 0;have iZ:= @run_makeMap Tryz.prog;go_enter func56,ntmps56;go_wp2_with(first|(refine aZ _ rfl _ _ _ _ (Or.inl rfl) (KL.str Tryz.underlying9) Tryz.underlying98 _ _ rfl H _ _ rfl rfl trivial (λ_ _=>trivial) ?_;clear H;intro w' H' O';have H:=ai H';have HB:=ai<|One.below HB O' qbr;clear H' O')|(go_at_call 80;refine(aem _ _ _ _).mono ?_;rintro e w'⟨⟨v,rfl⟩,hb⟩;have H:=ai<|H.below hb;have HB:=ai<|HB.trans<|hb.mono HB.size;clear hb));go_ret;exact⟨_,rfl,ag,HB⟩
def abN:Cq 35 #[] w λe w'=>e=.returned (Pv w.heap.size)/\(∃mv,PN w' w.heap.size w.heap.size (.slice none 0 0) [] ⟨#[]⟩ mv)/\Bq w w':=by
 have bP:Bq w (w.alloc<|Cv #[.pointer none,Lv none 0 0,Sv ⟨#[]⟩,.map none] 100):=bw _;have h0:(w.alloc<|Cv #[.pointer none,Lv none 0 0,Sv ⟨#[]⟩,.map none] 100).heap[w.heap.size]? =some (Cv #[.pointer none,Lv none 0 0,Sv ⟨#[]⟩,.map none] 100 (0,0)):=(MapKept.heap_alloc w _).1;have H0:=ai h0;go_enter func35,ntmps35;go_wp2_with(go_at_call 56;refine(Pt _).mono ?_;rintro e w1⟨b,rfl,hle,hb⟩;have h1:w1.heap[w.heap.size]? =some (Cv #[.pointer none,Lv none 0 0,Sv ⟨#[]⟩,.map none] 100 (0,0)):=(hb.block _ ag).trans H0;have c3:w1.cell? ⟨w.heap.size,3,none⟩=some (.map none):= qBu;have f3:w1.frozen? ⟨w.heap.size,3,none⟩=false:=(by simp[World.frozen?,h1]);have H1:=ai h1;have dA:=ai<|bP.trans<|hb.mono bP.size;clear h1 hb);go_ret;have hz:=dA.size;exact⟨rfl,⟨Mv b,⟨_,(dI H1 3 _).trans ag,Or.inl rfl⟩,⟨rfl,Or.inl ⟨rfl,rfl⟩⟩,λ_=>rfl,by simp[World.setCell];exact hz⟩,dA.setCell (br _) _⟩
def L_:Cq 33 #[] w λe w'=>e=.returned (.func (.func 54) #[] #[Pv<|w.heap.size+1])/\NB w' (w.heap.size+1) w.heap.size []/\Bq w w':=by
 have iZ:= @run_makeMap Tryz.prog;go_enter func33,ntmps33
 go_wp2
 go_ret;refine⟨rfl,⟨?_,?_,ae⟩,(bw _).alloc ag _⟩
 .have:=Bx.new (w.alloc<|.map #[] 0) #[Mv w.heap.size] 155;simpa using this
 .exact(MS.new akj w).below (bw _)
def yM:Cq 20 #[] w λe w'=>∃cb nb mb,e=.returned (.func (.func 34) #[] #[Pv cb])/\Bx w' cb #[nbV nb]/\NB w' nb mb []/\w.heap.size<=mb/\cb≠mb/\Bq w w':=by
 go_enter func20,ntmps20;go_wp2_with(go_at_call 33;refine L_.mono ?_;rintro e w1⟨rfl,hN,hb⟩;have HN:=ai hN;have HB:=ai hb;clear hN hb);go_ret;have hz:=HN.lt;have bZ:Bq w1 (w1.alloc<|Cv #[nbV<|w.heap.size+1] 87):=bw _;exact⟨w1.heap.size,w.heap.size+1,w.heap.size,rfl,Bx.new _ _ _,HN.af bZ,br _,ae,HB.trans<|bZ.mono HB.size⟩
def Wp nb mb a T w(e:Ending)w':=
 e=.returned (.string<|bs<|wr dec (vars a T) T 0)/\NB w' nb mb (vars a T)/\Fr (λb=>b=mb) w w'
def tY(HAt:∀nd,WN nd->W5 nd){nb cb}{a}{T}{v}(hT:dD w P T v)(hP:∀b,P b->b≠mb)(hN:NB w nb mb a)(hC:Bx w cb #[nbV nb])(Ix:cb≠mb)(hW:Wf T)(hs:size T<=48)(hv:(vars a T).length<=96):
 Cq 34 #[v,Pv cb] w (Wp nb mb a T w):=by
 have bA:=hN.lt;have hcz:=hC.z;obtain⟨tv,xv,rfl⟩:=hT.iface;go_enter func34,ntmps34;go_wp2_with fail;refine abN.mono ?_;rintro e w1⟨rfl,⟨mv,hPN⟩,bZ⟩;have C1:=hC.below bZ;obtain⟨c1,f1,z1⟩:=C1;have zw1:=hPN.lt;have HC:=Dn T w1 nb mb a P _ (hT.af bZ) (hN.af bZ) hP hW hv (by simp[ah];omega);go_wp2_with fail;refine HC.mono ?_;rintro e w2⟨u,rfl,hU,N2,F2⟩;obtain⟨tu,xu,rfl⟩:=hU.bO
 have P2:=hPN.same F2.size (λb hb q=>F2.block b hb (λe=>by
  obtain q|q:=q
  .omega
  .simp[Value.ownBlock]at q))
 have hwn:=WN.sp hT hW ae a ae;have hwl:=wE (L:=vars a T) ae T hW 0;have hnq:NQ w2 w.heap.size (λb=>w1.heap.size<=b/\b<w2.heap.size/\Qs w2 b):=λb q=>⟨q.2.1,ae,q.2.2⟩;have W4:sep ⟨#[]⟩=[]:=by rw[sep];rw[if_pos<|j6<|toList_mk []]
 have HA:=HAt _ hwn w2 w.heap.size w.heap.size _ [] ⟨#[]⟩ mv _ _ 0 P2 hU.by hnq ae (by rw[W4,XT];simp;omega)<|br _;rw[W4,XT]at HA;go_wp2_with fail;refine HA.mono ?_;rintro e w3⟨rfl,bv3,Tt,N3,fi3,F3⟩;have cR:=hT.akt<|vars a T;have HS:=abe N3 (by simpa using cR);have⟨ad,hbk,_⟩:=N3.bk;go_wp2_with fail;refine HS.mono ?_;rintro e w4⟨rfl,F4⟩
 go_wp2
 go_ret;have lY:∀k,k<w.heap.size->k≠mb->w4.heap[k]? =w.heap[k]? :=λk hk hm=>by
  have e1:=bZ.block k hk;have e2:=F2.block k ae hm;have e3:=F3.block k (by have:=F2.size;omega) ae<|j6 hk
  have e4:=F4.block k (by have:=F2.size;have:=F3.size;omega) (λq=>by
   obtain q|q:=q
   .omega
   .have:=(fU N3.ow k q).1;omega)
  exact e4.trans<|e3.trans<|e2.trans e1
 have rC:w4.heap[mb]? =w2.heap[mb]? :=by
  have e3:=F3.block mb (by have:=F2.size;omega) ae<|j6 bA.2
  have e4:=F4.block mb (by have:=F2.size;have:=F3.size;omega) (λq=>by
   obtain q|q:=q
   .omega
   .have:=(fU N3.ow mb q).1;omega)
  exact e4.trans e3
 have hs4:=j9 bZ.size<|j9 F2.size<|j9 F3.size F4.size;refine⟨ag,⟨?_,N2.mp.same rC,N2.ne⟩,⟨?_,?_,?_,hs4,lY⟩⟩
 .exact N2.bk.same (j9 F3.size F4.size) (by
   have e2:=F2.block nb ae N2.ne;have e1:=bZ.block nb bA.1
   rw[lY nb bA.1 N2.ne,<-e1,<-e2])
 .exact F4.os.trans (F3.os.trans<|F2.os.trans bZ.os)
 .exact F4.tape.trans (F3.tape.trans<|F2.tape.trans bZ.tape)
 .exact F4.output.trans (F3.output.trans<|F2.output.trans bZ.output)
def Br:∀(ns:List BA)(x y:List Nd),(aG ns<|x++y).1=(aG ns x).1++(aG (aG ns x).2 y).1
 |ns,[],y=>rfl|ns,t::x,y=>by simp[aG,Br (aI ns t).2 x y]
def Gm{nd}(h:ot nd):∀ns,Wf (aI ns nd).1:=by
 induction h with
 |var s n f t a=>intro ns;simp[aI,Wf]|two k s n x y f t a hk hx hy lD rq=>
  intro ns;obtain rfl|rfl:=hk
  .simp only[aI,g_,show ¬(17=16) by decide,if_false,if_true,aG,Wf];exact⟨⟨aw,λ_=>rfl,.inl rfl⟩,lD ns,rq _,trivial⟩
  .simp only[aI,g_,show ¬(6=16) by decide,show ¬(6=17) by decide,if_false,if_true,aG,Wf];exact⟨⟨aw,λ_=>rfl,.inr<|.inl rfl⟩,lD ns,rq _,trivial⟩
 |up s n L f t a hw hl hL ih=>
  intro ns;simp only[aI,g_,show ¬(2=16) by decide,show ¬(2=17) by decide,show ¬(2=6) by decide,if_false,Wf];refine⟨hw _,?_⟩;rw[pY];intro t ht;obtain⟨i,hi,rfl⟩:=List.getElem_of_mem ht;rw[il]at hi;have⟨h1,h2⟩:=xX ns L i hi;have hlen:(aG ns<|L.take i).1.length=i:=by rw[il];simp;omega
  have e:(aG ns L).1[i]? =some (aI (aG ns<|L.take i).2 L[i]).1:=by
   have e2:(aG ns L).1[i]? =(aG ns<|L.take<|i+1).1[i]? :=by
    have:=Br ns (L.take<|i+1)<|L.drop<|i+1;rw[jk]at this;rw[this,jo (by rw[il];simp;omega)]
   rw[e2,h1,jm ae,hlen];simp
  rw[jh (by rw[il];exact hi)]at e;rw[Option.some.inj e];exact ih i hi _
def Fr.ph{a b c}(h:Below n a b)(hn:n<=b.heap.size)(k:Fr S b c)(hS:∀x,S x->n<=x):Below n a c:=
 ⟨k.os.trans h.os,k.tape.trans h.tape,k.output.trans h.output,j9 h.size k.size,λi hi=>(k.block i ae (λq=>by have:=hS i q;omega)).trans<|h.block i hi⟩
abbrev vfV(kb:Nat):Value:=.func (.func 62) #[] #[Pv kb,Pv<|lvB kb]
def Ns.none:Ns:=⟨[],λ_=>Option.none,λ_=>0,λ_=>(Option.none,0),λ_=>.var 0,[]⟩
def JU:Cq 39 #[Iv 0] w λe w'=>∃kb mb,e=.returned (vfV kb)/\VN w' kb mb Ns.none/\Bq w w'/\w.heap.size<=mb:=by
 have iZ:= @run_makeMap Tryz.prog;go_enter func39,ntmps39
 go_wp2
 go_ret;have bP:=(((qr w.heap.size w).alloc (br _)<|Cv #[Iv 0] 3).alloc ag<|.map #[] 0).alloc bD<|Cv #[Mv<|w.heap.size+1] 163;have e1:lvB (w.heap.size+1+1)=w.heap.size:=rfl;refine⟨w.heap.size+1+1,w.heap.size+1,rfl,⟨?_,?_,⟨λn hn=>?_,λn _=>⟨rfl,rfl⟩,λn _=>⟨n,.here rfl⟩⟩,⟨λn hn=>?_,λn c l e=>?_,λm n hm=>?_⟩,λn=>?_,?_,?_,?_,?_,?_⟩,bP,ae⟩
 .have:=Bx.new ((w.alloc<|Cv #[Iv 0] 3).alloc<|.map #[] 0) #[Mv<|w.heap.size+1] 163;simpa using this
 .have:=(MS.new (λn:Int=>Iv n)<|w.alloc<|Cv #[Iv 0] 3).below<|bw<|Cv #[Mv<|w.heap.size+1] 163;simpa[Ns.none,L8]using this
 .simp[Ns.none]at hn
 .simp[Ns.none]at hn
 .simp[Ns.none]at e
 .simp[Ns.none]at hm
 .simp[Ns.none]
 .simp[Ns.none]
 .simp[Ns.none]
 .rw[e1];exact((Bx.new w #[Iv 0] 3).alloc _).alloc _
 .simp[Ns.none]
 .rw[e1];omega
def OfN(T:Ty):=∀(w:World)(kb mb:Nat)(G:Ns)(Q:Nat->Prop)(v:Value),VN w kb mb G->dD w Q T v->(∀b,Q b->b≠mb)->size T<=1000->Wf T->Cq 40 #[v,Iv 0,vfV kb] w (Tp kb mb G T w)
def wJ:(Tryz.prog.info? 103).map (λi=>(i.zero,i.size,i.bytes))=some (some<|.pointer none,1,8):=qkr
def pP:Tryz.prog.underlying 166=some (.slice 103):=qkr
def aku(kb mb:Nat)(G:Ns)(c:BA)(L:List Ty)(sa:Option Addr)(sc:Nat)(w:World)(gk:Nat)(v:Value)(wr:World):=
 ∃(j:Nat)(C:Array Value)(G':Ns)(l:List Nat),Hid (gk=L.length-j)/\j<=L.length/\v=Nv j/\VN wr kb mb G'/\G.Le G'/\Fr (IsM mb) w wr/\Bx wr w.heap.size #[.string<|pn c,.slice sa L.length sc]/\Bx wr (w.heap.size+1) C/\Hid (C.size=L.length)/\
  Hid (Ns.New (w.heap.size+2) G G'/\l.length=j/\(∀m∈l,m∈G'.ds)/\l.map G'.ty=L.take j/\∀i(h:i<l.length),C[i]? =some (nA l[i]))
def wK:∀(L:List Ty),L.length<=ah L
 |[]=>qe _|t::l=>by have:=wK l;have:=size_pos t;simp[ah];omega
def aen n:OfN (.var n):=by
 intro w kb mb G Q v h hv hQ hs hwf
 cases hv
 have HC:=aed h n;go_enter func40,ntmps40;go_wp2_with fail;refine HC.mono ?_;rintro e w1⟨m,G',rfl,r⟩
 go_wp2
 go_ret;exact⟨m,G',rfl,r⟩
def aeo{G G':Ns}(h:G.Le G')(hl:∀m∈l,m∈G.ds):l.map G'.ty=l.map G.ty:=by
 apply jl;intro m hm;exact(h m<|hl m hm).2
def aep c L(IH:∀i(h:i<L.length),OfN L[i]):OfN (.aJ c L):=by
 intro w kb mb G Q v HN hv hQ hs HWT
 cases hv with
 |aJ _ _ sa sc vs Ae aN hr=>
 have hL:L.length<=1001:=by have:=wK L;simp[size]at hs;omega
 have HS:∀i(HN:i<L.length),size L[i]<=1000:=λi hi=>by have:=tO<|ja hi;simp[size]at hs;omega
 have⟨i0,wY,og,l8,gR⟩:=info_parts wJ;have Nw:=hH (by_:=8) pP wY og rfl l8 gR aw L.length hL;have zk:=HN.bk.z;have zl:=HN.lv.z;have lm:=HN.lm;have zm:=HN.mp.lt;have HW:=ai aN;have HWF:=(pY L).1 HWT.2;go_enter func40,ntmps40
 go_wp2
 go_loopg[29] L.length (λgk v wr=>aku kb mb G c L sa sc w gk v wr)
 case atStart=>
  have bP:=((qr w.heap.size w).alloc (br _)<|Cv #[Sv<|pn c,Lv sa L.length sc] 153).alloc ag<|Cv (qj L.length<|.pointer none) 103;refine⟨0,qj L.length<|.pointer none,G,[],ai ag,qe _,rfl,HN.fr (S:=λ_=>False) (Fr.of bP)<|λ_ q=>q.elim,Ns.Le.refl _,Fr.of bP,(Bx.new w _ _).alloc _,?_,ai ag,ai ⟨Ns.New.refl _ _,rfl,ag,ag,λi hi=>by simp at hi⟩⟩;have:=Bx.new (w.alloc<|Cv #[Sv<|pn c,Lv sa L.length sc] 153) (qj L.length<|.pointer none) 103;simpa using this
 case round=>
  obtain⟨j,C,G1,l,cV,hj,rfl,N1,L1,F1,B0,B1,hC,hT⟩:=hrel;have zw:=F1.size;have zb:=B1.z;by_cases bh:j<L.length
  .have hd:(j:Int)<(L.length:Int):=ae;obtain⟨g,rfl,hg,iP,bQ⟩:∃g,sa=some ⟨g,0,none⟩/\Q g/\g<w.heap.size/\∀i,i<L.length->w.cell? ⟨g,i,none⟩=some (vs i):=by
    obtain h0|h0:=uh HW
    .subst h0;simp at bh
    .exact h0
   have cg:wr.cell? ⟨g,j,none⟩=some (vs j):=by
    rw[qg (a:=⟨g,j,none⟩) (w:=w)<|F1.block g iP<|λq=>hQ g hg q];exact bQ j bh
   have PJ:=(hr j bh).fr F1<|λb p _ q=>hQ b p q;have⟨tv,xv,hv⟩:=PJ.iface;have HC:=IH j bh wr kb mb G1 Q (vs j) N1 PJ hQ (HS j bh)<|HWF L[j]<|ja bh;rw[hv]at cg HC;go_wp2_with fail;refine HC.mono ?_;rintro e w1⟨m,G2,rfl,Fb,HL2,HM,HT2,F2,HX⟩;have mr:w.heap.size+1≠mb:=ae;have B2:=B1.fr F2<|λq=>mr q;have B02:=B0.fr F2 (λq=>by have q:w.heap.size=mb:=q;omega);have sI:j<C.size:=qBh;have cj:=(B2.c j).trans<|ql sI;have fj:=B2.f j;have B3:=B2.aT j (nA m) (C.setIfInBounds j<|nA m) rfl sI;have B03:=B02.bR (b2:=w.heap.size+1) ae j<|nA m;have yE:=F1.trans F2;have z2:=F2.size
   go_wp2
   go_roundg(L.length-(j+1))
   case measure=>rw[uh cV];omega
   case rel=>
    have⟨x1,x2,x3,x4,x5⟩:=uh hT;have aN:=x1.trans HX ae;refine⟨j+1,C.setIfInBounds j<|nA m,G2,l++[m],ai rfl,ae,i_,?_,L1.trans HL2,yE.set (j5 ae) j _,B03,B3,ai (by simp;exact hC),ai ⟨aN,by simp[x2],?_,?_,?_⟩⟩
    .have n2:=Fb;have h0:=HN;refine n2.one (One.cell w1 (w.heap.size+1) j<|nA m) (λq=>?_) ae ae ae<|λy hy c' l' g' e1 e2 e3=>?_
     .obtain⟨q,_⟩|⟨q,_⟩:=aN _ q
      .have:=(h0.gn.nd _ q).lt;omega
      .omega
     .obtain⟨q1,q2,q3⟩|⟨q1,q2⟩:=aN y hy
      .have:=h0.row q1 (q3▸e1) e2<|q2▸e3;omega
      .have:=q2 g' e3;omega
    .intro y hy;obtain q|q:=List.mem_append.1 hy
     .exact(HL2 y<|x3 y q).1
     .simp at q;subst q;exact HM
    .rw[jj,aeo HL2 x3,x4,jc bh];simp[HT2]
    .intro i hi;by_cases e:i<j
     .rw[qk ae,x5 i ae,List.getElem_append_left ae]
     .have e:i=j:=MZ;subst e;rw[List.getElem_append_right ae];simp[sI]
  .have hd:decide ((j:Int)<(L.length:Int))=false:=bD;have ej:j=L.length:=ae;subst ej;have⟨x1,x2,x3,x4,x5⟩:=uh hT;rw[ji]at x4;have HX:=qx x1<|qx x2<|qx x3<|qx x4 x5;have c0:=B0.c 0;go_wp2_with(go_at_call 64;go_in);go_ret;obtain⟨x1,x2,x3,x4,x5⟩:=HX;have hz:¬wr.heap.size∈G1.ds:=λq=>by have:=(N1.gn.nd _ q).lt;omega
   have hzl:¬wr.heap.size∈G1.vl:=λq=>hz ((N1.vs _).1 q).1;have bZ:Bq wr (wr.alloc<|Cv #[.pointer none,Iv 0,Iv 0,Sv<|pn c,Lv (some ⟨w.heap.size+1,0,none⟩) L.length L.length] 171):=bw _;have F3:Fr (IsM mb) wr (wr.alloc<|Cv #[.pointer none,Iv 0,Iv 0,Sv<|pn c,Lv (some ⟨w.heap.size+1,0,none⟩) L.length L.length] 171):=Fr.of bZ;have yL:=B1.alloc<|Cv #[.pointer none,Iv 0,Iv 0,Sv<|pn c,Lv (some ⟨w.heap.size+1,0,none⟩) L.length L.length] 171;have Xl:¬(w.heap.size+1)∈G1.ds:=λq=>by
    obtain⟨q,_⟩|⟨q,_⟩:=x1 _ q
    .have:=(HN.gn.nd _ q).lt;omega
    .omega
   refine⟨wr.heap.size,⟨wr.heap.size::G1.ds,jy G1.str wr.heap.size<|some (c,l),jy G1.vr wr.heap.size 0,jy G1.ly wr.heap.size (some ⟨w.heap.size+1,0,none⟩,L.length),jy G1.ty wr.heap.size<|.aJ c<|l.map G1.ty,G1.vl⟩,rfl,⟨N1.bk.alloc _,?_,?_,Of.ah0 N1.of hz c l x3 0,?_,?_,?_,N1.lv.alloc _,λq=>(List.mem_cons.1 q).elim (λq=>ae) N1.ld,N1.lm⟩,?_,ag,?_,F1.trans F3,?_⟩
   .show MS _ _ mb (L8 (jy G1.vr wr.heap.size 0) G1.vl);rw[Tl hzl];exact N1.mp.below bZ
   .refine N1.gn.add F3.size (N1.lU F3) (br _) (some (c,l)) 0 (some ⟨w.heap.size+1,0,none⟩,L.length) ?_ ⟨Ae,ae,λm hm=>jd _<|x3 m hm,j5 ⟨w.heap.size+1,rfl,?_,yL.z,λi hi=>(yL.c i).trans<|x5 i hi⟩⟩
    .have:=(MapKept.heap_alloc wr<|Cv #[.pointer none,Iv 0,Iv 0,Sv<|pn c,Lv (some ⟨w.heap.size+1,0,none⟩) L.length L.length] 171).1;simp only[byS,slN,x2];exact this
    .intro q;obtain q|q:=List.mem_cons.1 q
     .omega
     .exact Xl q
   .intro x;show x∈G1.vl↔x∈wr.heap.size::G1.ds/\jy G1.str wr.heap.size (some (c,l)) x=none;by_cases e:x=wr.heap.size
    .subst e;simp[jy,hzl]
    .simp[e,jy,N1.vs x]
   .show ¬kb∈wr.heap.size::G1.ds;intro q;obtain q|q:=List.mem_cons.1 q
    .omega
    .exact N1.kd q
   .intro x hx;by_cases e:x=wr.heap.size
    .subst e;simp only[jy,if_true,x4];exact HWT
    .simp only[jy,e,if_false];exact N1.wf x<|(List.mem_cons.1 hx).resolve_left e
   .intro m hm;have⟨q1,q2⟩:=L1 m hm;have:m≠wr.heap.size:=λe=>hz<|e▸q1;exact⟨jd _ q1,by simp[jy,this];exact q2⟩
   .simp[jy,x4]
   .intro m hm;by_cases e:m=wr.heap.size
    .subst e;refine j5 ⟨ae,λg q=>?_⟩;simp[jy]at q;omega
    .have Pr:=(List.mem_cons.1 hm).resolve_left e;obtain⟨q1,q2,q3⟩|⟨q1,q2⟩:=x1 m Pr
     .exact j6 ⟨q1,by simp[jy,e,q2],by simp[jy,e,q3]⟩
     .refine j5 ⟨ae,λg q=>?_⟩;simp[jy,e]at q;have:=q2 g q;omega
mutual
def Zo:∀T:Ty,OfN T
 |.var n=>aen n|.aJ c L=>aep c L<|af1 L
def af1:∀(L:List Ty)(i:Nat)(h:i<L.length),OfN L[i]
 |[],i,h=>absurd h (qf _)|t::l,0,h=>Zo t|t::l,i+1,h=>af1 l i Fe
end
def Bs{α β:Type}{E E':α->β->Prop}(h:∀a b,E a b->E' a b):∀{l:List α}{k:List β},cU E l k->cU E' l k
 |_,_,.nil=>.nil|_,_,.cons p q=>.cons (h _ _ p)<|Bs h q
def Ic{α β:Type}{E:α->β->Prop}:∀{l:List α}{k:List β},cU E l k->∀i(h:i<l.length)(h':i<k.length),E l[i] k[i]
 |_,_,.nil,i,h,_=>absurd h (qf _)|_,_,.cons p _,0,_,_=>p|_,_,.cons _ q,i+1,h,h'=>Ic q i Fe (by simpa using h')
def uO{α β:Type}{E:α->β->Prop}:∀{l:List α}{k:List β},cU E l k->l.length=k.length
 |_,_,.nil=>rfl|_,_,.cons _ q=>by simp[uO q]
def Fin.eqv{nx}(h:jz str nx vr F V)(e:iQ str nx bm):jz str bm vr F V:=by
 intro x hx;have⟨h1,h2⟩:=h x hx;refine⟨(e.B_ x).2 h1,?_⟩
 cases hs:str x with
 |none=>grind|some p=>
  obtain⟨c,l⟩:=p;rw[hs]at h2;obtain⟨jD,a,b,d⟩:=h2;exact⟨jD,Bs (λx y q=>e.kK x y q) a,b,d⟩
def mu(M:List (Nat×Value)):List Nat->Nat
 |[]=>0|x::l=>(if(a_ x M).isNone then 1 else 0)+mu M l
def Ie{M M':List (Nat×Value)}(h:∀x,a_ x M'=none->a_ x M=none):∀ds,mu M' ds<=mu M ds
 |[]=>br _|x::l=>by
  have:=Ie h l;unfold mu;by_cases e:a_ x M'=none
  .simp[e,h x e];exact this
  .have:(a_ x M').isNone=false:=by cases q:a_ x M' with
    |none=>exact absurd q e|some v=>rfl
   simp[this];omega
def abO{M:List (Nat×Value)}{h:Nat}(hn:a_ h M=none)(v:Value):∀{ds:List Nat},h∈ds->mu (bG h v M) ds<mu M ds
 |[],q=>by simp at q|x::l,q=>by
  have hm:=Ie (M:=M) (M':=bG h v M) (λy hy=>by
   rw[aO]at hy;split at hy
   .cases hy
   .exact hy)
  by_cases e:h=x
  .subst e;have:=hm l;unfold mu;rw[aO];simp[hn];omega
  .have hl:=(List.mem_cons.1 q).resolve_left e;have:=abO hn v hl;unfold mu;rw[aO];simp[e];omega
def aeq{M}{v:Value}:a_ x M=some v->∃p∈M,p.1=x:=by
 induction M with
 |nil=>intro h;cases h|cons p l ih=>
  intro h;rw[a_]at h;split at h
  .rename_i e;exact⟨p,ag,e⟩
  .grind
def Mb{M}{v:Value}{p}:p∈bG x v M->p∈M\/p.1=x:=by
 induction M with
 |nil=>intro h;simp[bG]at h;exact j5 (by rw[h])|cons q l ih=>
  intro h;rw[bG]at h;split at h
  .grind
  .grind
structure SZ(ds:List Nat)str nx vr M F(B:List Nat)V:Prop where
 fin:jz str nx vr F V
 fg:∀x,F x->a_ x M=some (.int .i64 ((min (size<|V x) 49:Nat):Int))
 bg:∀x∈B,a_ x M=some (Iv 0)
 gm:∀x v,a_ x M=some v->F x\/x∈B
 kd:∀p∈M,p.1∈ds
section
variable {nx:Nx} {M:List (Nat×Value)} {B:List Nat}
def SZ.eqv(h:SZ ds str nx vr M F B V)(e:iQ str nx bm):SZ ds str bm vr M F B V:=⟨Fin.eqv h.fin e,h.fg,h.bg,h.gm,h.kd⟩
def SZ.fd(h:SZ ds str nx vr M F B V)(hx:F x):x∈ds:=by
 have⟨p,h1,h2⟩:=aeq<|h.fg x hx;exact h2▸h.kd p h1
def Tv T:(((min (size T) 49:Nat)):Int)≠0:=by have:=size_pos T;omega
def SZ.apart(h:SZ ds str nx vr M F B V)(hx:F x)(hb:x∈B):False:=by
 have h1:=h.fg x hx;rw[h.bg x hb]at h1;injection h1 with h1;injection h1 with _ h1;exact Tv _ h1.symm
def SZ.begin(h:SZ ds str nx vr M F B V)(hd:x∈ds)(hn:a_ x M=none):SZ ds str nx vr (bG x (Iv 0) M) F (x::B) V:=by
 refine⟨h.fin,λy hy=>?_,λy hy=>?_,λy v hy=>?_,λp hp=>?_⟩
 .rw[aO,if_neg (λe=>by subst e;rw[h.fg _ hy]at hn;cases hn)];exact h.fg y hy
 .rw[aO];by_cases e:x=y
  .rw[if_pos e]
  .rw[if_neg e];exact h.bg y<|(List.mem_cons.1 hy).resolve_left<|λq=>e q.symm
 .rw[aO]at hy;by_cases e:x=y
  .grind
  .rw[if_neg e]at hy;exact(h.gm y v hy).imp id λq=>qBf
 .obtain q|q:=Mb hp
  .exact h.kd p q
  .rw[q];exact hd
def SZ.done(h:SZ ds str nx vr M F (x::B) V)(hxB:¬x∈B)(hd:x∈ds)(hn:nx x=none)T(hT:match str x with
 |none=>T=.var (vr x)|some (c,l)=>∃hs,cU (Hd nx) l hs/\(∀y,y∈hs->F y)/\T=.aJ c (hs.map V)):
 SZ ds str nx vr (bG x (.int .i64 ((min (size T) 49:Nat):Int)) M) (λy=>F y\/y=x) B (jy V x T):=by
 have cR:∀y,F y->y≠x:=λy hy e=>by subst e;exact h.apart hy ag
 have ah1:∀hs:List Nat,(∀y,y∈hs->F y)->hs.map (jy V x T)=hs.map V:=λhs q=>by
  apply jl;intro y hy;simp[jy,cR y<|q y hy]
 refine⟨λy hy=>?_,λy hy=>?_,λy hy=>?_,λy v hy=>?_,λp hp=>?_⟩
 .by_cases e:y=x
  .subst e;refine⟨hn,?_⟩
   cases hs:str y with
   |none=>rw[hs]at hT;simpa[jy]using hT|some p=>
    obtain⟨c,l⟩:=p;rw[hs]at hT;obtain⟨k,a,b,d⟩:=hT;exact⟨k,a,λz hz=>j6<|b z hz,by rw[ah1 k b];simp[jy,d]⟩
  .have hy':=hy.resolve_right e;have⟨h1,h2⟩:=h.fin y hy';refine⟨h1,?_⟩
   cases hs:str y with
   |none=>rw[hs]at h2;simpa[jy,e]using h2|some p=>
    obtain⟨c,l⟩:=p;rw[hs]at h2;obtain⟨k,a,b,d⟩:=h2;exact⟨k,a,λz hz=>j6<|b z hz,by rw[ah1 k b];simp[jy,e,d]⟩
 .rw[aO];by_cases e:x=y
  .subst e;simp[jy]
  .rw[if_neg e];have e':y≠x:=λq=>e q.symm;simp only[jy,e',if_false];exact h.fg y<|hy.resolve_right e'
 .rw[aO,if_neg (λe:x=y=>hxB<|e▸hy)];exact h.bg y (by simp[hy])
 .rw[aO]at hy;by_cases e:x=y
  .omega
  .rw[if_neg e]at hy;obtain q|q:=h.gm y v hy
   .grind
   .grind
 .obtain q|q:=Mb hp
  .exact h.kd p q
  .rw[q];exact hd
end
abbrev Db:Nat->Value:=λb=>Pv b
def Wq:(Tryz.prog.info? 171).map (λi=>i.size)=some 5:=qkr
def abP:KL Tryz.prog 103 Db (λw b=>∃c t,w.heap[b]? =some (.cells c t (0,0))):=by
 obtain⟨j,hj,hs⟩:∃j,Tryz.prog.info? 171=some j/\j.size=5:=by
  have:=Wq
  cases h:Tryz.prog.info? 171 with
  |none=>grind|some j=>grind
 exact KL.ptr Tryz.underlying103 hj ae
def Fin.wf{str:sN}{nx:Nx}{vr:Nat->Nat}{ds:List Nat}{ty V:Nat->Ty}{F:Nat->Prop}(h:jz str nx vr F V)(ho:Un.Of str vr (λn=>n∈ds) ty)(hw:∀n∈ds,Wf<|ty n):∀(n x:Nat),size (V x)<=n->F x->Wf (V x)
 |0,x,hn,_=>absurd hn (by have:=size_pos<|V x;omega)|n+1,x,hn,hx=>by
  have⟨_,h2⟩:=h x hx
  cases e:str x with
  |none=>rw[e]at h2;rw[h2];simp[Wf]|some p=>
   obtain⟨c,l⟩:=p;rw[e]at h2;obtain⟨hs,a,b,d⟩:=h2;have⟨o1,o2,o3⟩:=ho.aJ x c l e;have w1:=hw x o1;rw[o2]at w1;rw[d]at hn⊢;have hlen:=uO a;refine⟨?_,?_⟩
   .have:=w1.1;rw[jv]at this⊢;rw[<-hlen];exact this
   .rw[pY];intro t ht;obtain⟨y,hy,rfl⟩:=List.mem_map.1 ht;have:=eI (V:=V) hy;simp[size]at hn;exact Fin.wf h ho hw n y ae<|b y hy
def Zp(ho:Un.Of str vr (λn=>n∈ds) ty)(hj:JR str (λ_=>none) dV a b false):∀σ,sub σ (ty a)≠sub σ (ty b):=λσ e=>hj.no rfl _ (ho.lj σ) e
def ag2(ho:Un.Of str vr (λn=>n∈ds) ty)(hj:JR str (λ_=>none) dV a b true)(hn:∀W,¬kY str dV W):∀σ,sub σ (ty a)≠sub σ (ty b):=λσ e=>hn _<|((hj.yes rfl).1 _).2 ⟨ho.lj σ,e⟩
def Bt w ds(str:sN)(nx:Nx)(vr:Nat->Nat)(ly:Nat->Option Addr×Nat)(lv:Nat->Nat)n:=
 w.heap[n]? =some (.cells #[nP<|nx n,Nv<|lv n,Nv<|vr n,.string<|byS<|str n,.slice (ly n).1 (slN<|str n) (ly n).2] 171 (0,0))/\fB w ds (ly n).1 (str n)/\∀m,nx n=some m->m∈ds
structure GL w ds str nx vr ly lv:Prop where
 nd:∀n,n∈ds->Bt w ds str nx vr ly lv n
 out:∀n,¬n∈ds->nx n=none/\str n=none
 hd:∀n,n∈ds->∃h,Hd nx n h
def Bt.cells{nx}{lv}(h:Bt w ds str nx vr ly lv n):w.cell? ⟨n,0,none⟩=some (nP<|nx n)/\w.frozen? ⟨n,0,none⟩=false/\w.cell? ⟨n,3,none⟩=some (.string<|byS<|str n)/\w.cell? ⟨n,2,none⟩=some (Nv<|vr n)/\w.cell? ⟨n,4,none⟩=some (.slice (ly n).1 (slN<|str n) (ly n).2):=by
 obtain⟨h1,_⟩:=h;exact⟨qBu,by simp[qi,h1],qBu,qBu,qBu⟩
def Bt.lvl{nx}{lv}(h:Bt w ds str nx vr ly lv n):w.cell? ⟨n,1,none⟩=some (Nv<|lv n)/\w.frozen? ⟨n,1,none⟩=false:=⟨by simp[World.cell?,h.1],by simp[qi,h.1]⟩
def Tw{p:Prop}(h:p:=by
 cases hs:str x with
 |none=>trivial|some p=>
  obtain⟨c,l⟩:=p;rw[hs]at h2;obtain⟨p1,p2,p3,p4⟩:=h2;refine⟨p1,p2,p3,p4.imp id λq=>?_⟩;obtain⟨g,q1,q2,q3,q4⟩:=q;refine⟨g,q1,q2,by simpa[qh]using q3,λi hi=>?_⟩;rw[World.cell?_setCell_other _ _ _ _ (by intro e;injection e with e;subst e;exact q2 hn)]
  exact q4 i hi):p:=h
def GL.set{nx}{lv}(h:GL w ds str nx vr ly lv)(hn:n∈ds)(hk:k∈ds)(hhd:∀x,x∈ds->∃y,Hd (jy nx n<|some k) x y):GL (w.setCell ⟨n,0,none⟩<|nA k) ds str (jy nx n<|some k) vr ly lv:=by
 refine⟨λx hx=>?_,λx hx=>?_,hhd⟩
 .have⟨h1,h2,h3⟩:=h.nd x hx;have hp:fB (w.setCell ⟨n,0,none⟩<|nA k) ds (ly x).1 (str x):=by
   exact Tw
  by_cases e:x=n
  .subst e;refine⟨(dI h1 0 _).trans<|by simp[jy,nP],hp,λm hm=>?_⟩;simp[jy]at hm;subst hm;exact hk
  .refine⟨?_,hp,λm hm=>h3 m<|by simpa[jy,e]using hm⟩;rw[qp _ _ _ _ e,h1];simp[jy,e]
 .have:x≠n:=λe=>hx<|e▸hn;simpa[jy,this]using h.out x hx
def GL.Vh{nx}{lv}(h:GL w ds str nx vr ly lv)(hn:n∈ds)L:GL (w.setCell ⟨n,1,none⟩<|Nv L) ds str nx vr ly (jy lv n L):=by
 refine⟨λx hx=>?_,h.out,h.hd⟩;have⟨h1,h2,h3⟩:=h.nd x hx;have hp:fB (w.setCell ⟨n,1,none⟩<|Nv L) ds (ly x).1 (str x):=by
  exact Tw
 by_cases e:x=n
 .subst e;refine⟨(dI h1 1 _).trans Ob,hp,h3⟩
 .refine⟨?_,hp,h3⟩;rw[qp _ _ _ _ e,h1];simp[jy,e]
def Wr ds str nx vr ly lv h w(e:Ending)w':=
 e=.returned (nA h)/\∃bm,GL w' ds str bm vr ly lv/\Fr (λb=>b∈ds) w w'/\iQ str nx bm/\w'.heap.size=w.heap.size
def abQ ds str nx vr ly lv h w gk v wr:=
 ∃n bm,v=nA n/\n∈ds/\L0 bm n h gk/\GL wr ds str bm vr ly lv/\Fr (λb=>b∈ds) w wr/\iQ str nx bm/\wr.heap.size=w.heap.size
section
variable {nx:Nx} {lv:Nat->Nat}
def sC(hg:GL w ds str nx vr ly lv)(hn:n∈ds)(hh:Hd nx n h):Cq 65 #[nA n] w (Wr ds str nx vr ly lv h w):=by
 have⟨j0,hj0⟩:=Hd.len hh;have HJ:=ai hj0;clear hj0 hh;go_enter func65,ntmps65
 go_wp2
 go_loopg[0] j0 (λgk v wr=>abQ ds str nx vr ly lv h w gk v wr)
 case atStart=>exact⟨n,nx,rfl,hn,HJ,hg,Fr.refl _ _,iQ.refl _ _,rfl⟩
 case round=>
  clear hg HJ;obtain⟨n1,dV,rfl,Cg,hl1,G1,F1,E1,z1⟩:=hrel;have⟨c0,f0,_⟩:=(G1.nd n1 Cg).cells
  cases hl1 with
  |here e0=>
   rw[e0]at c0;have c0':wr.cell? ⟨h,0,none⟩=some (.pointer none):=c0;clear c0
   go_wp2
   go_ret;exact⟨rfl,dV,G1,F1,E1,z1⟩
  | @step _ m _ k e0 hlm=>
    have hm:m∈ds:=by
     have⟨_,_,h3⟩:=G1.nd n1 Cg;exact h3 m e0
    have cR:n1≠m:=λq=>by subst q;have:=(L0.step e0 hlm).one hlm;omega
    rw[e0]at c0;have c0':wr.cell? ⟨n1,0,none⟩=some (Pv m):=c0;have⟨d0,_⟩:=(G1.nd m hm).cells;clear c0
    cases hlm with
    |here e1=>
     rw[e1]at d0;have d0':wr.cell? ⟨h,0,none⟩=some (.pointer none):=d0;clear d0
     go_wp2
     go_roundg 0
     case measure=>omega
     case rel=>exact⟨h,dV,rfl,hm,.here e1,G1,F1,E1,z1⟩
    | @step _ m2 _ k2 e1 Nk=>
      rw[e1]at d0;have d0':wr.cell? ⟨m,0,none⟩=some (Pv m2):=d0;have hm2:m2∈ds:=by
       have⟨_,_,h3⟩:=G1.nd m hm;exact h3 m2 e1
      clear d0;have hnm:¬m=n1:=λq=>cR q.symm
      go_wp2
      go_roundg k2
      case measure=>omega
      case rel=>
       refine⟨m2,jy dV n1<|some m2,rfl,hm2,Nk.d_ (L0.step e0<|L0.step e1 Nk) ae _,G1.set Cg hm2<|λx hx=>?_,F1.set (j6 Cg) 0 _,E1.trans<|iQ.short str e0 e1 cR,by simp[qh];exact z1⟩;have⟨y,hy⟩:=G1.hd x hx;exact⟨y,hy.short e0 e1⟩
end
structure kN(str:sN)(nx:Nx)(ds:List Nat)(lv cB:Nat->Nat)n L(D:Nat->Prop):Prop where
 up:∀m,D m->m∈ds/\nx m=none/\L<lv m/\cB m=L
 no:∀m,¬D m->cB m=lv m
 hd:∀h,Hd nx n h->D h\/lv h<=L
 cl:∀a,D a->∀c l,str a=some (c,l)->∀p,p∈l->∀h,Hd nx p h->D h\/lv h<=L
 re:∀R:Nat->Prop,(∀h,Hd nx n h->R h)->(∀a c l p h,R a->str a=some (c,l)->p∈l->Hd nx p h->R h)->∀a,D a->R a
structure ys(str:sN)(nx:Nx)(ds:List Nat)(lv mj:Nat->Nat)h(l:List Nat)L(D:Nat->Prop):Prop where
 own:D h
 up:∀m,D m->m∈ds/\nx m=none/\L<lv m/\mj m=L
 no:∀m,¬D m->mj m=lv m
 pt:∀p,p∈l->∀k,Hd nx p k->D k\/lv k<=L
 cl:∀a,D a->a≠h->∀c l,str a=some (c,l)->∀p,p∈l->∀k,Hd nx p k->D k\/lv k<=L
 re:∀R:Nat->Prop,R h->(∀a c l p k,R a->str a=some (c,l)->p∈l->Hd nx p k->R k)->∀a,D a->R a
section
variable {nx:Nx} {lv mj:Nat->Nat} {L:Nat} {E:Nat->Prop}
def kN.nil(hh:Hd nx n h)(hl:lv h<=L):kN str nx ds lv lv n L (λ_=>False):=
 ⟨λ_ q=>q.elim,λ_ _=>rfl,λk q=>j5 (by rw[q.one hh];exact hl),λ_ q=>q.elim,λ_ _ _ _ q=>q.elim⟩
def ys.start(hd:h∈ds)(hn:nx h=none)(hl:L<lv h):ys str nx ds lv (jy lv h L) h [] L (λm=>m=h):=
 ⟨rfl,λm q=>by subst q;exact⟨hd,hn,hl,Ob⟩,λm q=>by simp[jy,q],λp q=>by simp at q,λa q r=>absurd q r,λR q _ a r=>by subst r;exact q⟩
def ys.step{p}{c}{l0}(hs:str h=some (c,l0))(hp:p∈l0)(k:ys str nx ds lv mj h l L D)(q:kN str nx ds mj cB p L E):ys str nx ds lv cB h (l++[p]) L (λm=>D m\/E m):=by
 have dis:∀m,E m->¬D m:=λm e d=>by have:=(q.up m e).2.2.1;have:=(k.up m d).2.2.2;omega
 have low:∀x,mj x<=L->D x\/lv x<=L:=λx hx=>by
  by_cases d:D x
  .exact j6 d
  .exact j5 (by rw[<-k.no x d];exact hx)
 refine⟨j6 k.own,λm e=>?_,λm e=>?_,λp' mh x hx=>?_,λa e ne c' l' jD p' mh x hx=>?_,λR r1 r2 a e=>?_⟩
 .by_cases d:E m
  .have⟨u1,u2,u3,u4⟩:=q.up m d;exact⟨u1,u2,by rw[<-k.no m (dis m d)];exact u3,u4⟩
  .have⟨u1,u2,u3,u4⟩:=k.up m<|e.resolve_right d;exact⟨u1,u2,u3,(q.no m d).trans u4⟩
 .rw[q.no m<|λd=>e<|j5 d,k.no m<|λd=>e<|j6 d]
 .obtain mh|mh:=List.mem_append.1 mh
  .exact(k.pt p' mh x hx).imp j6 id
  .simp at mh;subst mh;obtain r|r:=q.hd x hx
   .grind
   .grind
 .obtain d|d:=e
  .exact(k.cl a d ne c' l' jD p' mh x hx).imp j6 id
  .obtain r|r:=q.cl a d c' l' jD p' mh x hx
   .grind
   .grind
 .obtain d|d:=e
  .exact k.re R r1 r2 a d
  .exact q.re R (λx hx=>r2 h c l0 p x r1 hs hp hx) r2 a d
def ys.done{l0}(hh:Hd nx n h)(hs:str h=some (c,l0))(k:ys str nx ds lv mj h l0 L D):kN str nx ds lv mj n L D:=by
 refine⟨k.up,k.no,λx hx=>j6 (by rw[hx.one hh];exact k.own),λa d c' l' jD p hp x hx=>?_,λR r1 r2 a d=>k.re R (r1 h hh) r2 a d⟩;by_cases e:a=h
 .subst e;rw[hs]at jD;injection jD with jD;injection jD with _ e2;subst e2;exact k.pt p hp x hx
 .exact k.cl a d e c' l' jD p hp x hx
def ys.abR(hh:Hd nx n h)(hs:str h=none)(k:ys str nx ds lv mj h [] L D):kN str nx ds lv mj n L D:=by
 refine⟨k.up,k.no,λx hx=>j6 (by rw[hx.one hh];exact k.own),λa d c' l' jD p hp x hx=>?_,λR r1 r2 a d=>k.re R (r1 h hh) r2 a d⟩;by_cases e:a=h
 .grind
 .exact k.cl a d e c' l' jD p hp x hx
end
def dp(ds:List Nat)(lv:Nat->Nat)L:=ds.countP λm=>decide (L<lv m)
def af2{lv}{L:Nat}(h:∀m,L<cB m->L<lv m):dp ds cB L<=dp ds lv L:=List.countP_mono_left λm _ q=>by simpa using h m (by simpa using q)
def af3{lv cB:Nat->Nat}{L x:Nat}(h:∀m,L<cB m->L<lv m)(hx:L<lv x)(uZ:¬L<cB x):∀{ds:List Nat},x∈ds->dp ds cB L<dp ds lv L
 |a::ds,hm=>by
  unfold dp;rw[jq,jq];have hle:ds.countP (λm=>decide (L<cB m))<=ds.countP (λm=>decide (L<lv m)):=af2 h;by_cases e:a=x
  .subst e;simp[hx,uZ];omega
  .have:=af3 h hx uZ (ds:=ds) (by obtain q|q:=List.mem_cons.1 hm;exact absurd q.symm e;exact q);unfold dp at this;by_cases q:L<cB a
   .simp[q,h a q];omega
   .by_cases q2:L<lv a
    .simp[q,q2];omega
    .simp[q,q2];omega
def iQ.back{nx}{lv}(g:GL w ds str nx vr ly lv)(e:iQ str nx bm)(k:Hd bm x h):Hd nx x h:=by
 by_cases hx:x∈ds
 .have⟨y,hy⟩:=g.hd x hx;rw[k.one<|e.kK x y hy];exact hy
 .have h0:Hd nx x x:=.here (g.out x hx).1;rw[k.one<|e.kK x x h0];exact h0
def kN.eqv{nx}{lv0 lv}{L:Nat}(g:GL w ds str nx vr ly lv0)(e:iQ str nx bm)(q:kN str bm ds lv cB n L D):kN str nx ds lv cB n L D:=
 ⟨λm d=>⟨(q.up m d).1,(e.B_ m).1 (q.up m d).2.1,(q.up m d).2.2⟩,q.no,λh k=>q.hd h<|e.kK _ _ k,λa d c l hs p hp h k=>q.cl a d c l hs p hp h<|e.kK _ _ k,λR r1 r2=>q.re R (λh k=>r1 h<|e.back g k)<|λa c l p h ra hs hp k=>r2 a c l p h ra hs hp<|e.back g k⟩
def Mc ds str nx vr ly lv n L w(e:Ending)w':=
 e=.returned (.tuple #[])/\∃bm cB D,GL w' ds str bm vr ly cB/\Fr (λb=>b∈ds) w w'/\iQ str nx bm/\w'.heap.size=w.heap.size/\kN str nx ds lv cB n L D
def ah5 ds str vr ly k:=∀(w:World)(nx:Nx)(lv:Nat->Nat)(n L:Nat),GL w ds str nx vr ly lv->n∈ds->dp ds lv L<=k->Cq 66 #[nA n,Nv L] w (Mc ds str nx vr ly lv n L w)
def ah6 ds str nx vr ly lv h L(l:List Nat)w gk v wr:=
 ∃j gY mj D,Hid (gk=l.length-j)/\j<=l.length/\v=Nv j/\GL wr ds str gY vr ly mj/\Fr (λb=>b∈ds) w wr/\iQ str nx gY/\wr.heap.size=w.heap.size/\ys str nx ds lv mj h (l.take j) L D
def GL.row{nx}{lv}(g:GL w ds str nx vr ly lv)(ha:a∈ds)(hs:str a=some (c,l)){j}(hj:j<l.length):∃ga,(ly a).1=some ⟨ga,0,none⟩/\w.cell? ⟨ga,j,none⟩=some (nA l[j])/\¬ga∈ds:=by
 have⟨_,h2,_⟩:=g.nd a ha;rw[hs]at h2;obtain⟨_,_,_,p4⟩:=h2;have⟨ga,q1,q2,_,q4⟩:=p4.resolve_left (λe=>by subst e;simp at hj);exact⟨ga,q1,q4 j hj,q2⟩
def GL.part{nx}{lv}(g:GL w ds str nx vr ly lv)(ha:a∈ds)(hs:str a=some (c,l)):l.length<=1001/\∀m∈l,m∈ds:=by
 have⟨_,h2,_⟩:=g.nd a ha;rw[hs]at h2;exact⟨h2.2.1,h2.2.2.1⟩
def GL.bM{nx}{lv}(g:GL w ds str nx vr ly lv)(hn:n∈ds)(k:Hd nx n h):h∈ds:=by
 induction k with
 |here=>exact hn|step e _ ih=>exact ih<|(g.nd _ hn).2.2 _ e
def Pw(IH:∀i,i<k->ah5 ds str vr ly i):ah5 ds str vr ly k:=by
 intro w nx lv n L ID hn hk;have⟨h,hh⟩:=ID.hd n hn;have hm:=ID.bM hn hh;have HC:=sC ID hn hh;go_enter func66,ntmps66;go_wp2_with fail;refine HC.mono ?_;rintro e w1⟨rfl,dV,HG,F1,E1',z1⟩;have⟨c1,f1⟩:=(HG.nd h hm).lvl;have Cg:nx h=none:=hh.head;by_cases hle:lv h<=L
 .have hd:(lv h:Int)<=(L:Int):=ae
  go_wp2
  go_end0;exact⟨rfl,dV,lv,_,HG,F1,E1',z1,kN.nil hh hle⟩
 .have hd:¬(lv h:Int)<=(L:Int):=ae;have G2:=HG.Vh hm L;have⟨_,_,_,_,c4⟩:=(HG.nd h hm).cells;have F2:Hid (Fr (λb=>b∈ds) w<|w1.setCell ⟨h,1,none⟩<|Nv L):=ai<|F1.set (j6 hm) 1 _;have HG2:=ai G2;have Z1:=z1;have J0:Hid (ys str nx ds lv (jy lv h L) h [] L<|λm=>m=h):=ai<|ys.start hm Cg ae
  cases hs:str h with
  |none=>
   have c4':w1.cell? ⟨h,4,none⟩=some (.slice (ly h).1 0 (ly h).2):=by rw[c4,hs];rfl
   go_wp2
   go_loopg[23] 0 (λgk v wr=>v=Iv 0/\wr=w1.setCell ⟨h,1,none⟩ (Nv L))
   case atStart=>exact⟨rfl,rfl⟩
   case round=>
    obtain⟨rfl,rfl⟩:=hrel
    go_wp2
    go_end0;exact⟨rfl,dV,_,_,uh HG2,uh F2,E1',qAz,(uh J0).abR hh hs⟩
  |some q=>
   obtain⟨c,l⟩:=q;have c4':w1.cell? ⟨h,4,none⟩=some (.slice (ly h).1 l.length (ly h).2):=by rw[c4,hs];rfl
   have⟨hl1,Nk⟩:=ID.part hm hs;have hdp:dp ds (jy lv h L) L<dp ds lv L:=af3 (x:=h) (λm q=>by by_cases e:m=h;subst e;simp[jy]at q;simpa[jy,e]using q) ae Ob hm;by_cases Dr:l=[]
   .subst Dr;have amh:=c4'
    go_wp2
    go_loopg[23] 0 (λgk v wr=>v=Iv 0/\wr=w1.setCell ⟨h,1,none⟩ (Nv L))
    case atStart=>exact⟨rfl,rfl⟩
    case round=>
     obtain⟨rfl,rfl⟩:=hrel
     go_wp2
     go_end0;exact⟨rfl,dV,_,_,uh HG2,uh F2,E1',qAz,(uh J0).done hh hs⟩
   have⟨ga,EGA,_,_⟩:=ID.row hm hs<|List.length_pos_iff.2 Dr;rw[EGA]at c4'
   go_wp2
   go_loopg[23] l.length (λgk v wr=>ah6 ds str nx vr ly lv h L l w gk v wr)
   case atStart=>exact⟨0,dV,_,_,ai ag,qe _,rfl,uh HG2,uh F2,E1',qAz,by simpa using uh J0⟩
   case round=>
    obtain⟨j,gY,mj,D,cV,hj,rfl,Gj,FJ,EJ,ZJ,JJ⟩:=hrel;by_cases bh:j<l.length
    .have bA:(j:Int)<(l.length:Int):=ae;have Jl:(0:Int)<=(j:Int):=ae;have⟨ga',e1,cg,_⟩:=Gj.row hm hs bh;have e2:=e1.symm.trans EGA;injection e2 with e2;injection e2 with e2;subst e2
     have HCJ:=IH (dp ds (jy lv h L) L) ae wr gY mj l[j] L Gj (Nk _<|ja bh) (af2 λm q=>by
      by_cases d:D m
      .have:=(JJ.up m d).2.2.2;omega
      .have e:m≠h:=λe=>d<|e▸JJ.own;simp only[jy,e,if_false]
       rw[<-JJ.no m d];exact q)
     go_wp2_with fail;refine HCJ.mono ?_;rintro e w2⟨rfl,oD,mS,D2,HG,F2,E2,z2,q2⟩;have HF:=FJ.trans F2;have HE:=EJ.trans E2;have HZ:=z2.trans ZJ;have HJ2:=JJ.step hs (ja bh)<|q2.eqv ID EJ
     go_wp2
     go_roundg(l.length-(j+1))
     case measure=>rw[uh cV];omega
     case rel=>exact⟨j+1,oD,mS,_,ai rfl,Nat.succ_le_of_lt bh,i_,HG,HF,HE,HZ,by rw[jc bh];exact HJ2⟩
    .have bA:decide ((j:Int)<(l.length:Int))=false:=bD;have ej:j=l.length:=ae;subst ej;rw[ji]at JJ;have HX:=show Mc ds str nx vr ly lv n L w (Rv<|.tuple #[]) wr from⟨rfl,gY,mj,D,Gj,FJ,EJ,ZJ,JJ.done hh hs⟩
     go_wp2
     go_end0;exact HX
def Gi:∀k,ah5 ds str vr ly k:=λk=>Nat.strongRecOn k λk ih=>Pw ih
def LC(str:sN)(ds:List Nat)nx(lv:Nat->Nat):=∀a,a∈ds->nx a=none->∀c l,str a=some (c,l)->∀p,p∈l->∀h,Hd nx p h->lv h<=lv a
structure yc str(ds:List Nat)nx(lv:Nat->Nat)bm(cB:Nat->Nat):Prop where
 mono:∀m,m∈ds->∀h h',Hd nx m h->Hd bm m h'->cB h'<=lv h
 lc:LC str ds nx lv->LC str ds bm cB
 low:∀(i:Nat)(U:Nat->Ty),kY str bm U->∀Lw:Ty->Prop,(∀c ts,Lw (.aJ c ts)->∀t∈ts,Lw t)->(∀m,m∈ds->∀h,Hd nx m h->lv h<=i->Lw (U m))->∀m,m∈ds->∀h,Hd bm m h->cB h<=i->Lw (U m)
 gr:∀n,bm n=none->nx n=none
section
variable {nx:Nx} {lv:Nat->Nat}
def yc.trans(h:yc str ds nx lv dV sS)(k:yc str ds dV sS oD mS)(hd:∀m,m∈ds->∃x,Hd dV m x)(hs:∀U,kY str oD U->kY str dV U):yc str ds nx lv oD mS:=
 ⟨λm hm a c ka kc=>by
  have⟨b,kb⟩:=hd m hm
  exact j9 (k.mono m hm b c kb kc)<|h.mono m hm a b ka kb,λq=>k.lc<|h.lc q,λi U hU Lw hc q=>k.low i U hU Lw hc<|h.low i U (hs U hU) Lw hc q,λn q=>h.gr n<|k.gr n q⟩
def yc.eqv(g:GL w ds str nx vr ly sS)(e:iQ str nx dV):yc str ds nx lv dV lv:=by
 refine⟨λm _ h h' k k'=>?_,λq a ha hn c l hs p hp h k=>?_,λi U hU Lw hc q m hm h k hl=>q m hm h (e.back g k) hl,λn q=>(e.B_ n).1 q⟩
 .rw[k'.one<|e.kK _ _ k];exact br _
 .exact q a ha ((e.B_ a).1 hn) c l hs p hp h (e.back g k)
def kN.fwd{L:Nat}(g:GL w ds str nx vr ly mS)(e:iQ str nx dV)(q:kN str nx ds lv sS n L D):kN str dV ds lv sS n L D:=
 ⟨λm d=>⟨(q.up m d).1,(e.B_ m).2 (q.up m d).2.1,(q.up m d).2.2⟩,q.no,λh k=>q.hd h<|e.back g k,λa d c l hs p hp h k=>q.cl a d c l hs p hp h<|e.back g k,λR r1 r2=>q.re R (λh k=>r1 h<|e.kK _ _ k)<|λa c l p h ra hs hp k=>r2 a c l p h ra hs hp<|e.kK _ _ k⟩
def kN.le{L:Nat}(q:kN str nx ds lv sS n L D)m:sS m<=lv m:=by
 by_cases d:D m
 .have:=q.up m d;omega
 .rw[q.no m d];exact br _
def kN.lc{L:Nat}(q:kN str nx ds lv sS n L D)(h:LC str ds nx lv):LC str ds nx sS:=λa ha hn c l hs p hp k hk=>by
 have h0:=h a ha hn c l hs p hp k hk;by_cases d:D a
 .rw[(q.up a d).2.2.2];obtain r|r:=q.cl a d c l hs p hp k hk
  .rw[(q.up k r).2.2.2];exact br _
  .exact j9 (q.le k) r
 .rw[q.no a d];exact j9 (q.le k) h0
def kN.low{n L:Nat}{D:Nat->Prop}(q:kN str nx ds lv sS n L D){i}{U:Nat->Ty}(hU:kY str nx U){Lw:Ty->Prop}(hc:∀c ts,Lw (.aJ c ts)->∀t∈ts,Lw t)(hb:∀m,m∈ds->∀h,Hd nx m h->lv h<=i->Lw (U m))(hn:L<=i->Lw (U n)):∀m,m∈ds->∀h,Hd nx m h->sS h<=i->Lw (U m):=λm hm h hh hl=>by
 by_cases d:D h
 .have hL:L<=i:=by rw[(q.up h d).2.2.2]at hl;exact hl
  rw[hh.lj hU];refine q.re (λx=>Lw<|U x) (λx hx=>by rw[<-hx.lj hU];exact hn hL) (λa c l p k ra hs hp hk=>?_) h d;rw[<-hk.lj hU];rw[hU.made a c l hs]at ra;exact hc c _ ra _<|List.mem_map_of_mem hp
 .rw[q.no h d]at hl;exact hb m hm h hh hl
structure sD str nx ds lv mS a b:Prop where
 x:∃sS D1 D2,kN str nx ds lv sS a (lv b) D1/\kN str nx ds sS mS b (sS a) D2
def sD.lvs(h:sD str nx ds lv mS a b)(ha:nx a=none)(hb:nx b=none):mS a<=lv a/\mS a<=lv b/\mS b<=lv a/\mS b<=lv b/\mS a=mS b:=by
 have⟨sS,D1,D2,q1,q2⟩:=h.x;have n1:=q1.no b (λd=>by have:=(q1.up b d).2.2.1;omega);have n2:=q2.no a (λd=>by have:=(q2.up a d).2.2.1;omega);have l1:sS a<=lv b:=by
  obtain d|d:=q1.hd a<|.here ha
  .rw[(q1.up a d).2.2.2];exact br _
  .exact j9 (q1.le a) d
 have l1a:=q1.le a;have l2:mS b=sS a:=by
  by_cases d:D2 b
  .exact(q2.up b d).2.2.2
  .have h2:=(q2.hd b<|.here hb).resolve_left d;rw[q2.no b d];omega
 omega
def sD.lc(h:sD str nx ds lv mS a b)(k:LC str ds nx lv):LC str ds nx mS:=by
 have⟨sS,D1,D2,q1,q2⟩:=h.x;exact q2.lc<|q1.lc k
def sD.le(h:sD str nx ds lv mS a b)m:mS m<=lv m:=by
 have⟨sS,D1,D2,q1,q2⟩:=h.x;exact j9 (q2.le m)<|q1.le m
def sD.low(h:sD str nx ds lv mS a b)(ha:a∈ds)(hb:b∈ds)(na:nx a=none)(nb:nx b=none){i}{U}(hU:kY str nx U)(oj:U a=U b){Lw:Ty->Prop}(hc:∀c ts,Lw (.aJ c ts)->∀t∈ts,Lw t)(hB:∀m,m∈ds->∀h,Hd nx m h->lv h<=i->Lw (U m)):∀m,m∈ds->∀h,Hd nx m h->mS h<=i->Lw (U m):=by
 have⟨sS,D1,D2,q1,q2⟩:=h.x;have s1:=q1.low hU hc hB (λq=>by rw[oj];exact hB b hb b (.here nb) q);exact q2.low hU hc s1 (λq=>by rw[<-oj];exact s1 a ha a (.here na) q)
def lN{h'}(na:nx a=none)(nb:nx b=none)(oj:a≠b)(hh:Hd nx x h)(k:Hd (jy nx a<|some b) x h'):h'=if h=a then b else h:=k.one<|hh.join na nb oj
def kX(nx0:nx x=none)(hU:kY str (jy nx x<|some y) U):kY str nx U:=by
 refine⟨hU.made,λn m e=>hU.bu n m ?_⟩;have cR:n≠x:=λr=>by subst r;rw[nx0]at e;cases e
 simpa[jy,cR]using e
def yc.link(h:sD str nx ds lv mS a b)(ha:a∈ds)(hb:b∈ds)(na:nx a=none)(nb:nx b=none)(oj:a≠b)(hd:∀m,m∈ds->∃x,Hd nx m x)(hp:∀a,a∈ds->∀c l,str a=some (c,l)->∀m∈l,m∈ds):yc str ds nx lv (jy nx a<|some b) mS:=by
 have⟨l1,l2,l3,l4,l5⟩:=h.lvs na nb;refine⟨λm hm x x' k k'=>?_,λq e he hn c l hs p Xm x' k'=>?_,λi U hU Lw hc hB m hm x' k' hl=>?_,λn q=>by by_cases e:n=a;subst e;exact na;simpa[jy,e]using q⟩
 .rw[lN na nb oj k k'];split
  .rename_i e;rw[e];exact l3
  .exact h.le x
 .have cR:e≠a:=λr=>by subst r;simp[jy]at hn
  have ZK:nx e=none:=by simpa[jy,cR]using hn
  have⟨x,k⟩:=hd p<|hp e he c l hs p Xm;have:=h.lc q e he ZK c l hs p Xm x k;rw[lN na nb oj k k'];split
  .rename_i r;rw[r]at this;omega
  .exact this
 .have hS:=kX na hU;have abS:=hU.bu a b Ob;have hL:=h.low ha hb na nb hS abS hc hB;have⟨x,k⟩:=hd m hm;rw[lN na nb oj k k']at hl;split at hl
  .rename_i r;subst r;rw[k.lj hS,abS];exact hL b hb b (.here nb) hl
  .exact hL m hm x k hl
def yc.abT(h:sD str nx ds lv mS a b)(ha:a∈ds)(hb:b∈ds)(na:nx a=none)(nb:nx b=none)(oj:a≠b)(hd:∀m,m∈ds->∃x,Hd nx m x)(hp:∀a,a∈ds->∀c l,str a=some (c,l)->∀m∈l,m∈ds):yc str ds nx lv (jy nx b<|some a) mS:=by
 have⟨l1,l2,l3,l4,l5⟩:=h.lvs na nb;refine⟨λm hm x x' k k'=>?_,λq e he hn c l hs p Xm x' k'=>?_,λi U hU Lw hc hB m hm x' k' hl=>?_,λn q=>by by_cases e:n=b;subst e;exact nb;simpa[jy,e]using q⟩
 .rw[lN nb na (Ne.symm oj) k k'];split
  .rename_i e;rw[e];exact l2
  .exact h.le x
 .have cR:e≠b:=λr=>by subst r;simp[jy]at hn
  have ZK:nx e=none:=by simpa[jy,cR]using hn
  have⟨x,k⟩:=hd p<|hp e he c l hs p Xm;have:=h.lc q e he ZK c l hs p Xm x k;rw[lN nb na (Ne.symm oj) k k'];split
  .rename_i r;rw[r]at this;omega
  .exact this
 .have hS:=kX nb hU;have abS:=hU.bu b a Ob;have hL:=h.low ha hb na nb hS abS.symm hc hB;have⟨x,k⟩:=hd m hm;rw[lN nb na (Ne.symm oj) k k']at hl;split at hl
  .rename_i r;subst r;rw[k.lj hS,abS];exact hL a ha a (.here na) hl
  .exact hL m hm x k hl
end
structure JG(ds:List Nat)(str:sN)nx(vr:Nat->Nat):Prop where
 Px:∀n,∃h,Hd nx n h
 kK:∀n h,n∈ds->Hd nx n h->h∈ds
 Xa:∀a c l,a∈ds->str a=some (c,l)->∀p,p∈l->p∈ds
 inj:∀a b,a∈ds->b∈ds->str a=none->str b=none->vr a=vr b->a=b
 mY:sP str nx []
def Can(str:sN)nx(vr:Nat->Nat)(V:Nat->Ty):=∀n h,Hd nx n h->V n=match str h with
 |none=>.var (vr h)|some (c,l)=>.aJ c<|l.map V
section
variable {nx:Nx} {W:Nat->Ty}
def JG.eq(g:JG ds str nx vr):Un.Eq nx [] (oo nx):=oo.is λn _ _=>g.Px n
def Can.same(hV:Can str nx vr V)(k:oo nx m n):V m=V n:=by
 obtain rfl|⟨h,a,b⟩:=k
 .rfl
 .rw[hV m h a,hV n h b]
def Py(g:JG ds str nx vr)(k:Hd nx n h):∀{c l},str n=some (c,l)->∃l',str h=some (c,l')/\cU (oo nx) l l':=by
 induction k with
 |here e=>exact λ{c l}hs=>⟨l,hs,nB g.eq.refl l⟩|step e _ ih=>
  intro c l hs;have⟨l1,h1,h2⟩:=g.mY _ g.eq _ _ c l e hs;have⟨l2,h3,h4⟩:=ih h1;exact⟨l2,h3,iq g.eq.trans h2 h4⟩
def Can.lj(g:JG ds str nx vr)(hV:Can str nx vr V):kY str nx V:=by
 refine⟨λn c l hs=>?_,λn m e=>?_⟩
 .have⟨h,k⟩:=g.Px n;have⟨l',h1,h2⟩:=Py g k hs;have:=hV n h k;rw[h1]at this;rw[this];show qt c (l'.map V)=qt c (l.map V);rw[xH (λa b q=>hV.same q) h2]
 .have⟨h,k⟩:=g.Px n;exact hV.same<|j5 ⟨h,k,k.tU e⟩
noncomputable def Ws (nx:Nx) (n:Nat):Nat:=by
 classical
 exact if h:∃x,Hd nx n x then h.choose else n
theorem pQ(k:Hd nx n h):Ws nx n=h:=by
 rw[Ws];have q:∃x,Hd nx n x:=⟨h,k⟩;rw[dif_pos q];exact q.choose_spec.one k
noncomputable def vK (str:sN) (nx:Nx) (vr:Nat->Nat):Nat->Nat->Ty
 |0,_=>.var 0
 |k+1,n=>match str (Ws nx n)with
  |none=>.var (vr<|Ws nx n)|some (c,l)=>.aJ c<|l.map<|vK str nx vr k
def kg(hp:p∈l):size (U p)<size (.aJ c<|l.map U):=by
 have:=eI (V:=U) hp;simp only[size];omega
def abU{U:Nat->Ty}(g:JG ds str nx vr)(hU:kY str nx U):∀k k' n,size (U n)<=k->size (U n)<=k'->vK str nx vr k n=vK str nx vr k' n
 |0,_,n,h,_=>by have:=size_pos<|U n;omega|_+1,0,n,_,h=>by have:=size_pos<|U n;omega|k+1,k'+1,n,h,h'=>by
  have⟨x,hx⟩:=g.Px n;simp only[vK,pQ hx]
  cases hs:str x with
  |none=>rfl|some q=>
   obtain⟨c,l⟩:=q;have e:=(hx.lj hU).trans<|hU.made x c l hs;show qt c _=qt c _;congr 1;refine dG λp hp=>abU g hU k k' p ?_ ?_;all_goals have:=kg (c:=c) (U:=U) hp;rw[<-e]at this;omega
def ah7(g:JG ds str nx vr)(hU:kY str nx U):∃V,Can str nx vr V:=by
 refine⟨λn=>vK str nx vr (size<|U n) n,λn h k=>?_⟩;have hp:=size_pos<|U n;obtain⟨j,hj⟩:∃j,size (U n)=j+1:=⟨size (U n)-1,ae⟩;show vK str nx vr (size<|U n) n=_;rw[hj];simp only[vK,pQ k]
 cases hs:str h with
 |none=>rfl|some q=>
  obtain⟨c,l⟩:=q;have e:=(k.lj hU).trans<|hU.made h c l hs;show qt c _=qt c _;congr 1;refine dG λp hp=>abU g hU _ _ p ?_<|br _;have:=kg (c:=c) (U:=U) hp;rw[<-e]at this;omega
def Rt(ds:List Nat)(str:sN)(nx:Nx)(vr:Nat->Nat)v h:=h∈ds/\nx h=none/\str h=none/\vr h=v
def Rt.one(g:JG ds str nx vr){v h h':Nat}(a:Rt ds str nx vr v h)(b:Rt ds str nx vr v h'):h=h':=g.inj h h' a.1 b.1 a.2.2.1 b.2.2.1<|a.2.2.2.trans b.2.2.2.symm
def Rt.val(hV:Can str nx vr V)(a:Rt ds str nx vr v h):V h=.var v:=by
 have:=hV h h<|.here a.2.1;rw[a.2.2.1,a.2.2.2]at this;exact this
noncomputable def tau (ds:List Nat) (str:sN) (nx:Nx) (vr:Nat->Nat) (W:Nat->Ty) (v:Nat):Ty:=by
 classical
 exact if h:∃x,Rt ds str nx vr v x then W h.choose else .var v
def Pz(g:JG ds str nx vr)(a:Rt ds str nx vr v h):tau ds str nx vr W v=W h:=by
 rw[tau];have q:∃x,Rt ds str nx vr v x:=⟨h,a⟩;rw[dif_pos q,q.choose_spec.one g a]
def ah8(a:¬∃x,Rt ds str nx vr v x):tau ds str nx vr W v=.var v:=by rw[tau];rw[dif_neg a]
def Tx{V:Nat->Ty}{v:Nat}:∀{l:List Nat},bX v (l.map V)->∃p,p∈l/\aB v (V p)
 |[],h=>by simp[bX]at h|x::l,h=>by
  simp only[jf,bX]at h;obtain h|h:=h
  .exact⟨x,ag,h⟩
  .have⟨p,h1,h2⟩:=Tx h;exact⟨p,by simp[h1],h2⟩
def fA{lv:Nat->Nat}(g:JG ds str nx vr)(hV:Can str nx vr V){v:Nat}:∀k n h,n∈ds->Hd nx n h->size (V n)<=k->aB v (V n)->∃x,Rt ds str nx vr v x/\(LC str ds nx lv->lv x<=lv h)
 |0,n,_,_,_,h,_=>by have:=size_pos<|V n;omega|k+1,n,h,hn,hh,hz,ho=>by
  have hd:=g.kK n h hn hh;have e:=hV n h hh
  cases hs:str h with
  |none=>
   rw[hs]at e;rw[e]at ho;exact⟨h,⟨hd,hh.head,hs,ho⟩,λ_=>br _⟩
  |some q=>
   obtain⟨c,l⟩:=q;rw[hs]at e;have e:V n=.aJ c (l.map V):=e;rw[e]at ho;obtain⟨p,hp,sG⟩:=Tx (by simpa only[aB]using ho);obtain⟨y,hy⟩:=g.Px p;have hz':size (V p)<=k:=by have:=kg (c:=c) (U:=V) hp;rw[<-e]at this;omega
   obtain⟨x,h1,h2⟩:=fA g hV k p y (g.Xa h c l hd hs p hp) hy hz' sG;exact⟨x,h1,λhl=>j9 (h2 hl)<|hl h hd hh.head c l hs p hp y hy⟩
def Ig(g:JG ds str nx vr)(hV:Can str nx vr V)(hW:kY str nx W):∀k n,n∈ds->size (V n)<=k->W n=sub (tau ds str nx vr W) (V n)
 |0,n,_,h=>by have:=size_pos<|V n;omega|k+1,n,hn,hz=>by
  have⟨h,hh⟩:=g.Px n;have hd:=g.kK n h hn hh;have e:=hV n h hh
  cases hs:str h with
  |none=>
   rw[hs]at e;rw[e,hh.lj hW];exact(Pz g ⟨hd,hh.head,hs,rfl⟩).symm
  |some q=>
   obtain⟨c,l⟩:=q;rw[hs]at e;have e:V n=.aJ c (l.map V):=e;rw[hh.lj hW,hW.made h c l hs,e];simp only[sub];rw[fV];congr 1;refine dG λp hp=>Ig g hV hW k p (g.Xa h c l hd hs p hp) ?_;have:=kg (c:=c) (U:=V) hp;rw[<-e]at this;omega
end
def ScD(str:sN)(ds:List Nat)nx(S:Nat->Prop):=∀x,x∈ds->nx x=none->S x->∀c l,str x=some (c,l)->∀p,p∈l->∀h,Hd nx p h->S h
def uP str ds nx(lv:Nat->Nat)bm(cB:Nat->Nat)a b:=∀S:Nat->Prop,ScD str ds nx S->(∀h,Hd nx a h->S h)->(∀h,Hd nx b h->S h)->∀m,m∈ds->∀h h',Hd nx m h->Hd bm m h'->(¬S h->h'=h/\cB h=lv h)/\(S h->S h')
section
variable {nx:Nx} {lv:Nat->Nat}
def uP.eqv(e:iQ str nx dV):uP str ds nx lv dV lv x y:=λS _ _ _ m _ h h' k k'=>by
 rw[k'.one<|e.kK _ _ k];exact⟨λ_=>⟨rfl,rfl⟩,id⟩
def uP.pN(g:GL w ds str nx vr ly sS)(e:iQ str nx dV)(hx:Hd nx x a)(hy:Hd nx y b)(k:uP str ds dV lv oD mS a b):uP str ds nx lv oD mS x y:=λS hS ha hb m hm h h' q q'=>by
 refine k S (λz hz hn sz c l hs p hp z' kz=>hS z hz ((e.B_ z).1 hn) sz c l hs p hp z'<|e.back g kz) (λz kz=>?_) (λz kz=>?_) m hm h h' (e.kK _ _ q) q'
 .have:z=a:=kz.one<|.here (e.kK _ _ hx).head;subst this;exact ha _ hx
 .have:z=b:=kz.one<|.here (e.kK _ _ hy).head;subst this;exact hb _ hy
def uP.pre(g:GL w ds str nx vr ly sS)(e:iQ str nx dV)(k:uP str ds dV lv oD mS x y):uP str ds nx lv oD mS x y:=λS hS ha hb m hm h h' q q'=>
 k S (λz hz hn sz c l hs p hp z' kz=>hS z hz ((e.B_ z).1 hn) sz c l hs p hp z'<|e.back g kz) (λz kz=>ha z<|e.back g kz) (λz kz=>hb z<|e.back g kz) m hm h h' (e.kK _ _ q) q'
def uP.post(g:GL w ds str dV vr ly sS)(e:iQ str dV oD)(k:uP str ds nx lv dV mS x y):uP str ds nx lv oD mS x y:=λS hS ha hb m hm h h' q q'=>k S hS ha hb m hm h h' q<|e.back g q'
def sD.out(h:sD str nx ds lv mS a b)(ha:a∈ds)(hb:b∈ds)(na:nx a=none)(nb:nx b=none)(hp:∀a,a∈ds->∀c l,str a=some (c,l)->∀m∈l,m∈ds)(hm:∀m,m∈ds->∀x,Hd nx m x->x∈ds)(hS:ScD str ds nx S)(sa:S a)(sb:S b){x}(hx:¬S x):mS x=lv x:=by
 have⟨sS,D1,D2,q1,q2⟩:=h.x;have cl:∀e c l p k,(S e/\e∈ds/\nx e=none)->str e=some (c,l)->p∈l->Hd nx p k->(S k/\k∈ds/\nx k=none):=λe c l p k r hs Xm hk=>⟨hS e r.2.1 r.2.2 r.1 c l hs p Xm k hk,hm p (hp e r.2.1 c l hs p Xm) k hk,hk.head⟩;have d1:¬D1 x:=λd=>hx (q1.re (λx=>S x/\x∈ds/\nx x=none) (λk hk=>by rw[hk.one<|.here na];exact⟨sa,ha,na⟩) cl x d).1;have d2:¬D2 x:=λd=>hx (q2.re (λx=>S x/\x∈ds/\nx x=none) (λk hk=>by rw[hk.one<|.here nb];exact⟨sb,hb,nb⟩) cl x d).1;rw[q2.no x d2,q1.no x d1]
def uP.link(h:sD str nx ds lv mS a b)(ha:a∈ds)(hb:b∈ds)(na:nx a=none)(nb:nx b=none)(oj:a≠b)(hp:∀a,a∈ds->∀c l,str a=some (c,l)->∀m∈l,m∈ds)(hm:∀m,m∈ds->∀x,Hd nx m x->x∈ds):uP str ds nx lv (jy nx a<|some b) mS a b:=λS hS sa sb m _ x x' k k'=>by
 have sa:=sa a<|.here na;have sb:=sb b<|.here nb;rw[lN na nb oj k k'];refine⟨λq=>?_,λq=>?_⟩
 .have e:x≠a:=λe=>q<|e▸sa;exact⟨qBq,h.out ha hb na nb hp hm hS sa sb q⟩
 .grind
def uP.abT(h:sD str nx ds lv mS a b)(ha:a∈ds)(hb:b∈ds)(na:nx a=none)(nb:nx b=none)(oj:a≠b)(hp:∀a,a∈ds->∀c l,str a=some (c,l)->∀m∈l,m∈ds)(hm:∀m,m∈ds->∀x,Hd nx m x->x∈ds):uP str ds nx lv (jy nx b<|some a) mS a b:=λS hS sa sb m _ x x' k k'=>by
 have sa:=sa a<|.here na;have sb:=sb b<|.here nb;rw[lN nb na (Ne.symm oj) k k'];refine⟨λq=>?_,λq=>?_⟩
 .have e:x≠b:=λe=>q<|e▸sb;exact⟨qBq,h.out ha hb na nb hp hm hS sa sb q⟩
 .grind
def uP.step{p q}{c c'}{l l'}(g:yc str ds nx lv dV sS)(h:uP str ds nx lv dV sS x y)(hx:Hd nx x a)(hy:Hd nx y b)(ha:a∈ds)(hb:b∈ds)(sa:str a=some (c,l))(sb:str b=some (c',l'))(hp:p∈l)(hq:q∈l')(kK:∀a,a∈ds->∀c l,str a=some (c,l)->∀m∈l,m∈ds)(hd0:∀m,m∈ds->∃x,Hd nx m x)(BW:∀m,m∈ds->∃x,Hd dV m x)(k:uP str ds dV sS oD mS p q):uP str ds nx lv oD mS x y:=λS hS hxa hyb m hm h0 h2 k0 k2=>by
 have one:=h S hS hxa hyb;have pt:∀z,z∈ds->nx z=none->S z->∀c l,str z=some (c,l)->∀p,p∈l->∀t,Hd dV p t->S t:=λz hz hn sz c l hs p hp t kt=>by
  have Nm:=kK z hz c l hs p hp;have⟨t0,kt0⟩:=hd0 p Nm;exact(one p Nm t0 t kt0 kt).2 (hS z hz hn sz c l hs p hp t0 kt0)
 have⟨h1,k1⟩:=BW m hm;have a1:=one m hm h0 h1 k0 k1;have a2:=k S (λz hz hn=>pt z hz<|g.gr z hn) (pt a ha hx.head (hxa a hx) c l sa p hp) (pt b hb hy.head (hyb b hy) c' l' sb q hq) m hm h1 h2 k1 k2;refine⟨λn0=>?_,λs0=>a2.2<|a1.2 s0⟩;have⟨e1,e2⟩:=a1.1 n0;subst e1;have⟨e3,e4⟩:=a2.1 n0;exact⟨e3,e4.trans e2⟩
end
def GL.drewN{nx}{lv}(g:GL w ds str nx vr ly lv)n:GL (w.drewN n) ds str nx vr ly lv:=⟨g.nd,g.out,g.hd⟩
def GL.drew{nx}{lv}(g:GL w ds str nx vr ly lv):GL w.drew ds str nx vr ly lv:=⟨g.nd,g.out,g.hd⟩
def ah9 ds str nx vr ly lv x y w(e:Ending)w':=
 ∃ok bm cB,e=.returned (.bool ok)/\GL w' ds str bm vr ly cB/\Fr (λb=>b∈ds) w w'/\w'.heap.size=w.heap.size/\hc bm ds<=hc nx ds/\JR str nx bm x y ok/\(ok=true->yc str ds nx lv bm cB/\uP str ds nx lv bm cB x y)
def PA ds str vr ly k:=∀(w:World)(nx:Nx)(lv:Nat->Nat),GL w ds str nx vr ly lv->hc nx ds<=k->∀x y,x∈ds->y∈ds->Cq 41 #[nA x,nA y] w (ah9 ds str nx vr ly lv x y w)
def abV ds str nx0 lv0 x y nx vr ly l l' k w gk v wr:=
 ∃j gY mj,Hid (gk=l.length-j)/\j<=l.length/\v=Nv j/\GL wr ds str gY vr ly mj/\Fr (λb=>b∈ds) w wr/\wr.heap.size=w.heap.size/\hc gY ds<=k/\JL str nx gY l l' j/\yc str ds nx0 lv0 gY mj/\uP str ds nx0 lv0 gY mj x y
def PB(IH:PA ds str vr ly k):PA ds str vr ly (k+1):=by
 intro w nx lv G hk x y hx hy;have⟨a,IE⟩:=G.hd x hx;have⟨b,PC⟩:=G.hd y hy;have ha:a∈ds:=G.bM hx IE;have hb:b∈ds:=G.bM hy PC;have HC:=ai<|sC G hx IE;go_enter func41,ntmps41;go_wp2_with fail;refine HC.mono ?_;rintro e w1⟨rfl,dV,G1,F1,E1,z1⟩;have MW:=ai<|sC G1 hy<|E1.kK _ _ PC;clear HC;go_wp2_with fail;refine MW.mono ?_;rintro e w2⟨rfl,oD,G2,F2,E2,z2⟩;have E:=E1.trans E2;have FF:=F1.trans F2;have hca:=abE E ds;have DW:oD a=none:=(E.kK _ _ IE).head;have sQ:oD b=none:=(E.kK _ _ PC).head;have heq:=abF (G2.nd a ha).1 (G2.nd b hb).1;have⟨ca0,fa0,ca2,_,ca3⟩:=(G2.nd a ha).cells;have⟨cb0,fb0,cb2,_,cb3⟩:=(G2.nd b hb).cells;have HG2:=ai G2;clear MW;by_cases oj:a=b
 .subst oj;simp at heq
  go_wp2
  go_ret;exact⟨true,oD,lv,rfl,G2,FF,ae,ae,(JR.same str oD a).pN E IE PC,λ_=>⟨yc.eqv G E,uP.eqv E⟩⟩
 .have hba:¬b=a:=λq=>oj q.symm;rw[show decide (a=b)=false by simp[oj]]at heq;have⟨lb2,_⟩:=(G2.nd b hb).lvl;have HL1:=ai<|Gi _ w2 oD lv a (lv b) G2 ha<|br _;go_wp2_with fail;refine HL1.mono ?_;rintro e w3⟨rfl,nx3,lv3,D3,G3,F3,E3,z3,q3⟩;have⟨la3,_⟩:=(G3.nd a ha).lvl;have HL2:=ai<|Gi _ w3 nx3 lv3 b (lv3 a) G3 hb<|br _;clear HL1 ca0 fa0 ca2 ca3 cb0 fb0 cb2 cb3 heq lb2 HG2;go_wp2_with fail;refine HL2.mono ?_;rintro e w4⟨rfl,As,lv4,D4,G4,F4,E4,z4,q4⟩;have Wt:Hid (sD str As ds lv lv4 a b):=ai ⟨lv3,D3,D4,q3.fwd G2<|E3.trans E4,q4.fwd G3 E4⟩;have HEQ:Hid (yc str ds nx lv As lv):=ai<|yc.eqv G<|(E.trans E3).trans E4;have HMM:Hid (∀m,m∈ds->∀x,Hd As m x->x∈ds):=ai λm hm x k=>G4.bM hm k;have ID:=ai G;have HPT:Hid (∀a,a∈ds->∀c l,str a=some (c,l)->∀m∈l,m∈ds):=ai λx hx c l hs=>(G4.part hx hs).2;clear q3 q4;have E0:=E;clear E;have E:=(E0.trans E3).trans E4;have FF4:=(FF.trans F3).trans F4;clear hca DW sQ;have hca:=abE E ds;have DW:As a=none:=(E.kK _ _ IE).head;have sQ:As b=none:=(E.kK _ _ PC).head;have⟨ca0,fa0,ca2,_,ca3⟩:=(G4.nd a ha).cells;have⟨cb0,fb0,cb2,_,cb3⟩:=(G4.nd b hb).cells;have HHD:Hid (∀m,m∈ds->∃x,Hd As m x):=ai G4.hd;clear HL2 la3 F3 F4 G3 E3 E4
  cases Xn:str a with
  |none=>
   rw[Xn]at ca2;have akv:w4.cell? ⟨a,3,none⟩=some (Sv ⟨#[]⟩):=ca2;clear ca2
   go_wp2
   go_ret;refine⟨true,jy As a<|some b,lv4,rfl,G4.set ha hb<|λz hz=>?_,FF4.set (j6 ha) 0 _,by simp[qh];omega,by have:=Pq (b:=b) DW ha;omega,(JR.amf DW Xn).pN E IE PC,λ_=>⟨HEQ.trans (yc.link Wt ha hb DW sQ oj HHD HPT) HHD<|λU=>kX DW,(uP.link Wt ha hb DW sQ oj HPT HMM).pN ID E IE PC⟩⟩;have⟨q,hq⟩:=G4.hd z hz;exact⟨_,hq.join DW sQ oj⟩
  |some pa=>
   obtain⟨c,l⟩:=pa;have Xo:=(G4.nd a ha).2.1;rw[Xn]at ca2 ca3 Xo;have akv:w4.cell? ⟨a,3,none⟩=some (Sv<|pn c):=ca2;have ami:w4.cell? ⟨a,4,none⟩=some (.slice (ly a).1 l.length (ly a).2):=ca3;obtain⟨Ae,JT,hlm,aN⟩:=Xo;have hea:((pn c).toList==[])=false:=by rw[<-qs,beq_iff_eq];exact ls Ae
   clear ca2 ca3
   cases Xp:str b with
   |none=>
    rw[Xp]at cb2;have akw:w4.cell? ⟨b,3,none⟩=some (Sv ⟨#[]⟩):=cb2;clear cb2
    go_wp2
    go_ret;refine⟨true,jy As b<|some a,lv4,rfl,G4.set hb ha<|λz hz=>?_,FF4.set (j6 hb) 0 _,by simp[qh];omega,by have:=Pq (b:=a) sQ hb;omega,(JR.amg sQ Xp).pN E IE PC,λ_=>⟨HEQ.trans (yc.abT Wt ha hb DW sQ oj HHD HPT) HHD<|λU=>kX sQ,(uP.abT Wt ha hb DW sQ oj HPT HMM).pN ID E IE PC⟩⟩;have⟨q,hq⟩:=G4.hd z hz;exact⟨_,hq.join sQ DW hba⟩
   |some pb=>
    obtain⟨c',l'⟩:=pb;have hPb:=(G4.nd b hb).2.1;rw[Xp]at cb2 cb3 hPb;have akw:w4.cell? ⟨b,3,none⟩=some (Sv<|pn c'):=cb2;have amj:w4.cell? ⟨b,4,none⟩=some (.slice (ly b).1 l'.length (ly b).2):=cb3;obtain⟨akx,am3,amk,aky⟩:=hPb;have heb:((pn c').toList==[])=false:=by rw[<-qs,beq_iff_eq];exact ls akx
    clear cb2 cb3;by_cases p9:c=c'
    .subst p9;have hbb:((pn c).toList==(pn c).toList)=true:=ag;by_cases hlen:l.length=l'.length
     .have hle:((l.length:Int)==(l'.length:Int))=true:=by simp[hlen]
      have hcu:=Pq (b:=b) DW ha;have hgs:∀z,z∈ds->∃y,Hd (jy As a<|some b) z y:=λz hz=>by
       have⟨q,hq⟩:=G4.hd z hz;exact⟨_,hq.join DW sQ oj⟩
      clear cb0 fb0 G1 F1 F2 G
      go_wp2
      go_quiet(fail);go_wp2_with fail;have LV0:Hid (yc str ds nx lv (jy As a<|some b) lv4/\uP str ds nx lv (jy As a<|some b) lv4 x y):=ai ⟨HEQ.trans (yc.link Wt ha hb DW sQ oj HHD HPT) HHD<|λU=>kX DW,(uP.link Wt ha hb DW sQ oj HPT HMM).pN ID E IE PC⟩;have GS:=ai<|(G4.drewN nq).set ha hb hgs;have FS:=ai<|(FF4.drewN nq).set (b:=a) (j6 ha) 0<|nA b;have zs:((w4.drewN nq).setCell ⟨a,0,none⟩<|nA b).heap.size=w.heap.size:=by simp[qh];show w4.heap.size=_;omega
      go_loopg[77] l.length (λgk v wr=>abV ds str nx lv x y (jy As a<|some b) vr ly l l' (hc (jy As a<|some b) ds) w gk v wr)
      case atStart=>exact⟨0,jy As a<|some b,lv4,ai ag,qe _,rfl,GS,FS,zs,br _,JL.start _ _ _ _,LV0⟩
      case round=>
       clear GS FS zs LV0;obtain⟨j,gY,mj,cV,hj,rfl,Gj,Fj,zj,hcj,JLj,LVj⟩:=hrel;have HLV:=ai LVj;have HHJ:Hid (∀m,m∈ds->∃x,Hd gY m x):=ai Gj.hd;clear LVj;by_cases bh:j<l.length
       .have hd:(j:Int)<(l.length:Int):=ae;have yt:j<l'.length:=ae;have Vz:(j:Int)<(l'.length:Int):=ae;have⟨ga,ea,ra,_⟩:=Gj.row ha Xn bh;have⟨gb,eb,rb,_⟩:=Gj.row hb Xp yt;have⟨_,_,_,_,qa⟩:=(Gj.nd a ha).cells;have⟨_,_,_,_,qb⟩:=(Gj.nd b hb).cells;rw[Xn,ea]at qa;rw[Xp,eb]at qb;have qa':wr.cell? ⟨a,4,none⟩=some (Lv (some ⟨ga,0,none⟩) l.length (ly a).2):=qa;have qb':wr.cell? ⟨b,4,none⟩=some (Lv (some ⟨gb,0,none⟩) l'.length (ly b).2):=qb
        have HJ:Hid (∀W,W=wr.drew->Cq 41 #[nA l[j],nA l'[j]] W λe w'=>∃ok bm cB,e=Rv (.bool ok)/\GL w' ds str bm vr ly cB/\Fr (λb=>b∈ds) wr w'/\w'.heap.size=wr.heap.size/\hc bm ds<=hc (jy As a<|some b) ds/\JR str gY bm l[j] l'[j] ok/\(ok=true->yc str ds gY mj bm cB/\uP str ds gY mj bm cB l[j] l'[j])/\(w'.cell? ⟨a,4,none⟩=some (Lv (some ⟨ga,0,none⟩) l.length (ly a).2)/\w'.cell? ⟨b,4,none⟩=some (Lv (some ⟨gb,0,none⟩) l'.length (ly b).2)/\w'.cell? ⟨ga,j,none⟩=some (nA l[j])/\w'.cell? ⟨gb,j,none⟩=some (nA l'[j]))):=ai (λW hW=>by
         subst hW;refine(IH wr.drew gY mj Gj.drew ae l[j] l'[j] (hlm _<|ja _)<|amk _<|ja _).mono ?_;rintro e w5⟨ok,Ot,lv5,rfl,G5,F5,z5,h5,J5,L5⟩;have⟨ga5,ea5,ra5,_⟩:=G5.row ha Xn bh;have⟨gb5,eb5,rb5,_⟩:=G5.row hb Xp yt;have⟨_,_,_,_,pa⟩:=(G5.nd a ha).cells;have⟨_,_,_,_,pb⟩:=(G5.nd b hb).cells;rw[Xn,ea]at pa;rw[Xp,eb]at pb;rw[ea]at ea5;rw[eb]at eb5
         cases ea5
         cases eb5
         exact⟨ok,Ot,lv5,rfl,G5,(Fr.refl _ wr).drew.trans F5,z5,j9 h5 hcj,J5,L5,pa,pb,ra5,rb5⟩)
        clear ea eb qa qb aN aky akv akw ami amj heb hea hbb hle IH
        go_wp2
        go_region_held3(λw'=>w'.cell? ⟨a,4,none⟩=some (Lv (some ⟨ga,0,none⟩) l.length (ly a).2)/\w'.cell? ⟨b,4,none⟩=some (Lv (some ⟨gb,0,none⟩) l'.length (ly b).2)/\w'.cell? ⟨ga,j,none⟩=some (nA l[j])/\w'.cell? ⟨gb,j,none⟩=some (nA l'[j])) (first|go_keep|(simp[*])) (first|(go_at_call 41;refine(HJ _ rfl).mono ?_;rintro e w5⟨ok,Ot,lv5,rfl,hG5,hF5,hz5,h5,hJ5,hL5,k1,k2,k3,k4⟩;have HL5:=ai hL5;clear hL5;have HG5:=ai hG5;have HF5:=ai hF5;have HZ5:=ai hz5;have HJ5:=ai hJ5;clear hG5 hF5 hz5 hJ5))
        all_goals(
         cases ok with
         |true=>
          go_wp2
          go_roundg(l.length-(j+1))
          case measure=>rw[uh cV];omega
          case rel=>exact⟨j+1,Ot,lv5,ai rfl,ae,i_,HG5,Fj.trans HF5,HZ5.trans zj,h5,JLj.step bh yt HJ5,HLV.1.trans (HL5 trivial).1 HHJ<|λU q=>((HJ5.yes rfl).1 U).1 q|>.1,uP.step HLV.1 HLV.2 IE PC ha hb Xn Xp (ja _) (ja _) HPT ID.hd HHJ (HL5 trivial).2⟩
         |false=>
          go_wp2
          go_ret
          exact⟨false,Ot,lv5,rfl,HG5,Fj.trans HF5,HZ5.trans zj,ae,(JL.fail DW Xn Xp JLj bh yt HJ5).pN E IE PC,λq=>mE⟩)
       .have hd:decide ((j:Int)<(l.length:Int))=false:=bD;have ej:j=l.length:=ae;subst ej
        go_wp2
        go_ret;exact⟨true,gY,mj,rfl,Gj,Fj,zj,ae,(JL.done DW Xn Xp hlen JLj).pN E IE PC,λ_=>HLV⟩
     .have hle:((l.length:Int)==(l'.length:Int))=false:=bD
      go_wp2
      go_quiet(fail)
      go_wp2
      go_ret;exact⟨false,As,lv4,rfl,G4.drewN _,FF4.drewN _,by show w4.heap.size=_;omega,ae,(JR.afX Xn Xp<|j5 hlen).pN E IE PC,λq=>mE⟩
    .have hbb:((pn c).toList==(pn c').toList)=false:=by rw[<-qs,beq_iff_eq];exact λq=>p9<|ahX Ae akx q
     go_wp2
     go_quiet(fail)
     go_wp2
     go_ret;exact⟨false,As,lv4,rfl,G4.drewN _,FF4.drewN _,by show w4.heap.size=_;omega,ae,(JR.afX Xn Xp<|j6 p9).pN E IE PC,λq=>mE⟩
def Oq:∀k,PA ds str vr ly k
 |0=>λw nx lv G hk x y hx hy=>by
  have⟨a,IE⟩:=G.hd x hx;have:=ahY (G.bM hx IE) IE.head;omega
 |k+1=>PB<|Oq k
mutual
def abW{σ τ:Nat->Ty}{n:Nat}:∀t,sub σ t=sub τ t->aB n t->σ n=τ n
 |.var m,h,o=>by simp only[aB]at o;subst o;simpa[sub]using h|.aJ c l,h,o=>by simp only[sub,Ty.aJ.injEq,true_and]at h;exact Tz l h o
def Tz{σ τ:Nat->Ty}{n:Nat}:∀l,aP σ l=aP τ l->bX n l->σ n=τ n
 |[],_,o=>by simp[bX]at o|t::l,h,o=>by
  simp only[aP,List.cons.injEq]at h;obtain o|o:=o
  .exact abW t h.1 o
  .exact Tz l h.2 o
end
def aer{a b}(one:sub θ a=sub θ b)(gen:∀σ,sub σ a=sub σ b->∀v,sub σ (θ v)=σ v)(idem:∀v x,aB x (θ v)->θ x=.var x):In.yi θ a b:=by
 classical
 let σ1:Nat->Ty:=λv=>if aB v a\/aB v b then θ v else .var v;have e1:∀v,aB v a\/aB v b->σ1 v=θ v:=λv h=>if_pos h;have e2:∀v,¬(aB v a\/aB v b)->σ1 v=.var v:=λv h=>if_neg h;have u1:sub σ1 a=sub σ1 b:=by rw[sub_congr a λn o=>e1 n<|j6 o,sub_congr b λn o=>e1 n<|j5 o];exact one
 refine⟨one,gen,λv h1 h2=>?_,λv n hv hn=>?_⟩
 .have hv:¬(aB v a\/aB v b):=λq=>q.elim h1 h2;have g:=gen σ1 u1 v;rw[e2 v hv]at g
  cases ht:θ v with
  |aJ c l=>rw[ht]at g;simp[sub]at g|var x=>
   rw[ht]at g;simp only[sub]at g;by_cases hx:aB x a\/aB x b
   .rw[e1 x hx,idem v x (by rw[ht];rfl)]at g;exact g
   .grind
 .refine qm λmX=>?_;let σ2:Nat->Ty:=λx=>if x=n then .aJ lq []else σ1 x;have f1:∀x,x≠n->σ2 x=σ1 x:=λx h=>if_neg h;have u2:sub σ2 a=sub σ2 b:=by rw[sub_congr a λx o=>f1 x<|λe=>mX<|j6<|e▸o,sub_congr b λx o=>f1 x<|λe=>mX<|j5<|e▸o];exact u1
  have hvn:v≠n:=λe=>mX<|e▸hv;have g1:=gen σ1 u1 v;have g2:=gen σ2 u2 v;rw[f1 v hvn]at g2;have:=abW _ (g1.trans g2.symm) hn;rw[e2 n mX]at this;have f2:σ2 n=.aJ lq []:=if_pos rfl;rw[f2]at this
  cases this
section
variable {nx:Nx}
def Md(g:JG ds str nx vr)(k:oo nx m n):Ws nx m=Ws nx n:=by grind[nx,oo,Ws,pQ]
def TD:∀{l l' hs:List Nat},cU (oo nx) l l'->cU (Hd nx) l' hs->cU (Hd nx) l hs
 |[],_,_,.nil,.nil=>.nil|_::_,_,_,.cons p q,.cons r s=>by
  refine .cons ?_<|TD q s;obtain rfl|⟨x,p1,p2⟩:=p
  .exact r
  .rw[r.one p2];exact p1
def Bu{E:Nat->Nat->Prop}{f k:Nat->Ty}:∀{l m:List Nat},cU E l m->(∀p x,p∈l->x∈m->E p x->f p=k x)->l.map f=m.map k
 |[],_,.nil,_=>rfl|_::_,_,.cons r s,h=>by
  simp only[jf];rw[h _ _ ag ag r,Bu s λp x hp hx=>h p x (by simp[hp])<|by simp[hx]]
def abX(g:JG ds str nx vr)(hV:Can str nx vr V)(g':JG ds str bm vr)(jr:JR str nx bm a b true)(hF:jz str bm vr F VF)(hh:Hd bm a h)(Vc:F h)(ha:a∈ds)(hb:b∈ds):∃U,kY str bm U:=by
 classical
 let σ:Nat->Ty:=λv=>if q:∃x,Rt ds str nx vr v x then(if F (Ws bm q.choose)then VF (Ws bm q.choose)else .var v)else .var v;have hσ:∀v x,Rt ds str nx vr v x->F (Ws bm x)->σ v=VF (Ws bm x):=λv x r f=>by
  have q:∃x,Rt ds str nx vr v x:=⟨x,r⟩;have e:q.choose=x:=q.choose_spec.one g r;show(if q:∃x,Rt ds str nx vr v x then _ else _)=_;rw[dif_pos q,e,if_pos f]
 have Eo:=jr.eqs [] _ g'.eq;have key:∀k n,n∈ds->size (V n)<=k->F (Ws bm n)->sub σ (V n)=VF (Ws bm n):=by
  intro k
  induction k with
  |zero=>intro n _ hz;have:=size_pos<|V n;omega|succ k ih=>
   intro n hn hz hf;have⟨x,hx⟩:=g.Px n;have hd:=g.kK n x hn hx;have e:=hV n x hx;have jD:=Md g'<|hx.eq Eo;rw[jD]at hf⊢
   cases hs:str x with
   |none=>
    rw[hs]at e;rw[e];exact hσ _ x ⟨hd,hx.head,hs,rfl⟩ hf
   |some q=>
    obtain⟨c,l⟩:=q;rw[hs]at e;have e:V n=.aJ c (l.map V):=e;have⟨y,hy⟩:=g'.Px x;rw[pQ hy]at hf⊢;have⟨l',h1,h2⟩:=Py g' hy hs;have⟨_,h3⟩:=hF y hf;rw[h1]at h3;obtain⟨rY,h4,h5,h6⟩:=h3;rw[e,h6];simp only[sub];rw[fV];congr 1;have h7:=TD h2 h4;have hz':∀p,p∈l->p∈ds/\size (V p)<=k:=λp hp=>⟨g.Xa x c l hd hs p hp,by have:=kg (c:=c) (U:=V) hp;rw[<-e]at this;omega⟩;exact Bu h7 λp z hp gR r=>by
     have:=ih p (hz' p hp).1 (hz' p hp).2 (by rw[pQ r];exact h5 z gR);rw[this,pQ r]
 have sV:=hV.lj g;refine⟨λn=>sub σ<|V n,((jr.yes rfl).1 _).2 ⟨⟨λn c l hs=>?_,λn m e=>by rw[sV.bu n m e]⟩,?_⟩⟩
 .rw[sV.made n c l hs];simp only[sub];rw[fV]
 .have oj:=(jr.yes rfl).2.2 [] _ g'.eq;have eab:=Md g' oj;show sub σ (V a)=sub σ (V b);rw[key _ a ha (br _) (by rw[pQ hh];exact Vc),key _ b hb (br _) (by rw[<-eab,pQ hh];exact Vc),eab]
structure akz(ds:List Nat)str nx bm vr(V V':Nat->Ty)θ a b:Prop where
 can:Can str bm vr V'
 val:∀n,n∈ds->V' n=sub θ (V n)
 mgu:In.yi θ (V a) (V b)
 rt:∀v x,Rt ds str nx vr v x->θ v=V' x
 no:∀v,(¬∃x,Rt ds str nx vr v x)->θ v=.var v
def abY{lv}(g:JG ds str nx vr)(hV:Can str nx vr V)(g':JG ds str bm vr)(jr:JR str nx bm a b true)(lr:yc str ds nx lv bm cB)(hF:jz str bm vr F VF)(hh:Hd bm a h)(Vc:F h)(ha:a∈ds)(hb:b∈ds):∃V' θ,akz ds str nx bm vr V V' θ a b:=by
 have⟨U,hU⟩:=abX g hV g' jr hF hh Vc ha hb;have⟨V',hV'⟩:=ah7 g' hU;have sV':=hV'.lj g';have sV:=hV.lj g;have sVn:=(((jr.yes rfl).1 V').1 sV').1;have hrt:∀v x,Rt ds str bm vr v x->Rt ds str nx vr v x:=λv x r=>⟨r.1,lr.gr x r.2.1,r.2.2⟩;have val:∀n,n∈ds->V' n=sub (tau ds str nx vr V') (V n):=λn hn=>Ig g hV sVn _ n hn<|br _;have rt:∀v x,Rt ds str nx vr v x->tau ds str nx vr V' v=V' x:=λv x r=>Pz g r;have no:∀v,(¬∃x,Rt ds str nx vr v x)->tau ds str nx vr V' v=.var v:=λv q=>ah8 q;have oj:=(jr.yes rfl).2.2 [] _ g'.eq;refine⟨V',tau ds str nx vr V',hV',val,aer ?_ (λσ e v=>?_)<|λv x o=>?_,rt,no⟩
 .rw[<-val a ha,<-val b hb];exact hV'.same oj
 .have hW:kY str bm (λn=>sub σ<|V n):=((jr.yes rfl).1 _).2 ⟨⟨λn c l hs=>by rw[sV.made n c l hs];simp only[sub];rw[fV],λn m e=>by rw[sV.bu n m e]⟩,e⟩;have hWn:∀n,n∈ds->sub σ (V n)=sub σ (V' n):=λn hn=>by
   have h1:=Ig g' hV' hW _ n hn<|br _;have h1:=h1;rw[h1];refine sub_congr _ λw o=>?_;have⟨y,hy⟩:=g'.Px n;have⟨x,r,_⟩:=fA (lv:=cB) g' hV' _ n y hn hy (br _) o;rw[Pz g' r];show sub σ (V x)=σ w;rw[(hrt w x r).val hV];rfl
  by_cases q:∃x,Rt ds str nx vr v x
  .obtain⟨x,r⟩:=q;rw[rt v x r,<-hWn x r.1,r.val hV];rfl
  .rw[no v q];rfl
 .by_cases q:∃y,Rt ds str nx vr v y
  .obtain⟨y,r⟩:=q;rw[rt v y r]at o;have⟨z,hz⟩:=g'.Px y;have⟨x',r',_⟩:=fA (lv:=cB) g' hV' _ y z r.1 hz (br _) o;rw[rt x x'<|hrt x x' r',r'.val hV']
  .have q':=no v q;rw[q']at o;simp only[aB]at o;subst o;exact q'
def Lo ds str nx(vr lv:Nat->Nat)i v:=∃x,Rt ds str nx vr v x/\lv x<=i
def abZ{lv}{V'}(g:JG ds str nx vr)(hV:Can str nx vr V)(g':JG ds str bm vr)(lr:yc str ds nx lv bm cB)(hl:LC str ds nx lv)(jw:akz ds str nx bm vr V V' θ a b)i w:Lo ds str bm vr cB i w↔∃v,Lo ds str nx vr lv i v/\aB w (θ v):=by
 constructor
 .rintro⟨x,r,hx⟩
  have hL:=lr.low i V' (jw.can.lj g') (λt=>∀w,aB w t->∃v,Lo ds str nx vr lv i v/\aB w (θ v)) (λc ts q t ht w o=>q w (by
   simp only[aB];clear q
   induction ts with
   |nil=>simp at ht|cons y ts ih=>
    obtain e|e:=List.mem_cons.1 ht
    .subst e;exact j6 o
    .exact j5 (ih e))) (λm hm y hy hly w o=>by
   rw[jw.val m hm]at o;have⟨v,o1,o2⟩:=(qv _).1 o;have⟨z,r1,r2⟩:=fA (lv:=lv) g hV _ m y hm hy (br _) o1
   exact⟨v,⟨z,r1,j9 (r2 hl) hly⟩,o2⟩) x r.1 x (.here r.2.1) hx
  exact hL w (by rw[r.val jw.can];rfl)
 .rintro⟨v,⟨x,r,hx⟩,o⟩;rw[jw.rt v x r]at o;have⟨y,hy⟩:=g'.Px x;have⟨z,r1,r2⟩:=fA (lv:=cB) g' jw.can _ x y r.1 hy (br _) o;exact⟨z,r1,j9 (r2<|lr.lc hl)<|j9 (lr.mono x r.1 x y (.here r.2.1) hy) hx⟩
end
section
variable {nx:Nx} {lv:Nat->Nat}
theorem GL.move(h:GL w ds str nx vr ly lv)(hs:w.heap.size<=w'.heap.size)(hb:∀b i v,w.cell? ⟨b,i,none⟩=some v->w'.heap[b]? =w.heap[b]?):GL w' ds str nx vr ly lv:=by
 refine⟨λn hn=>?_,h.out,h.hd⟩;have hc:=(h.nd n hn).cells.1;have⟨h1,h2,h3⟩:=h.nd n hn;exact⟨(hb n 0 _ hc).trans h1,h2.move hs hb,h3⟩
def Bt.lt{n}(h:Bt w ds str nx vr ly lv n):n<w.heap.size:=(Array.getElem?_eq_some_iff.1 h.1).1
end
def GL.one{w w':World}{b}{ds:List Nat}{str:sN}{nx}{vr:Nat->Nat}{ly:Nat->Option Addr×Nat}{lv}(h:GL w ds str nx vr ly lv)(o:One b w w')(h1:¬b∈ds)(h4:∀m∈ds,∀c l g,str m=some (c,l)->l≠[]->(ly m).1=some ⟨g,0,none⟩->g≠b):GL w' ds str nx vr ly lv:=by
 refine⟨λn hn=>?_,h.out,h.hd⟩;have⟨p1,p2,p3⟩:=h.nd n hn;have cR:n≠b:=λe=>h1<|e▸hn;refine⟨(o.block n cR).trans p1,?_,p3⟩;have h5:=h4 n hn
 cases hs:str n with
 |none=>trivial|some p=>
  obtain⟨c,l⟩:=p;rw[hs]at p2;obtain⟨q1,q2,q3,q4⟩:=p2;refine⟨q1,q2,q3,?_⟩;by_cases e:l=[]
  .exact j6 e
  .have⟨g,r1,r2,r3,r4⟩:=q4.resolve_left e;have hg:=h5 c l g hs e r1;refine j5 ⟨g,r1,r2,by rw[o.size];exact r3,λi hi=>?_⟩;rw[qg (a:=⟨g,i,none⟩) (w:=w)<|o.block g hg];exact r4 i hi
def GL.akA{nx}{lv}(h:GL w ds str nx vr ly lv)(hm:m∈ds){g}(hs:str m=some (c,l))(hl:l≠[])(hg:(ly m).1=some ⟨g,0,none⟩):g<w.heap.size:=by
 have⟨_,p2,_⟩:=h.nd m hm;rw[hs]at p2;have⟨g',r1,_,r3,_⟩:=p2.2.2.2.resolve_left hl;rw[hg]at r1;injection r1 with r1;injection r1 with r1;subst r1;exact r3
def Wu ds str nx vr ly lv T w(e:Ending)w':=
 ∃u bm,e=.returned u/\dD w' (λb=>w.heap.size<=b) T u/\GL w' ds str bm vr ly lv/\iQ str nx bm/\Fr (λb=>b∈ds) w w'
def PG ds str vr ly lv F V k:=
 ∀(w:World)(nx:Nx)(n h:Nat),GL w ds str nx vr ly lv->jz str nx vr F V->n∈ds->Hd nx n h->F h->size (V h)<=k->Cq 43 #[nA n] w (Wu ds str nx vr ly lv (V h) w)
def ab0 ds str nx vr ly lv N(L:List Ty)w gk v wr:=
 ∃(j:Nat)(C:Array Value)(gY:Nx),Hid (gk=N-j)/\j<=N/\v=Nv j/\GL wr ds str gY vr ly lv/\iQ str nx gY/\Fr (λb=>b∈ds) w wr/\Bx wr w.heap.size C/\Hid (C.size=N)/\
  Hid (∀i(h:i<L.length),i<j->∃u,C[i]? =some u/\dD wr (λb=>w.heap.size<b/\b<wr.heap.size) L[i] u)
section
variable {lv:Nat->Nat}
def PH(IH:PG ds str vr ly lv F V k):PG ds str vr ly lv F V (k+1):=by
 intro w nx n h G0 hF hn hd Vc fK;have hh:h∈ds:=G0.bM hn hd;have HC:=ai<|sC G0 hn hd;go_enter func43,ntmps43;go_wp2_with fail;refine HC.mono ?_;rintro e w1⟨rfl,dV,G1,F1,E1,z1⟩;have hF1:=Fin.eqv hF E1;obtain⟨c0,f0,c2,c1,c3⟩:=(G1.nd h hh).cells;have Xo:=(G1.nd h hh).2.1;obtain⟨_,hV⟩:=hF1 h Vc;have lY:∀x∈ds,x<w1.heap.size:=λx hx=>(G1.nd x hx).lt;clear HC G0 hF
 cases hs:str h with
 |none=>
  rw[hs]at c2 hV;have c2':w1.cell? ⟨h,3,none⟩=some (.string ⟨#[]⟩):=c2;clear c2 c3 Xo;have hV':V h=.var (vr h):=hV;clear hV
  go_wp2
  go_ret;refine⟨_,dV,rfl,?_,G1,E1,F1⟩;rw[hV'];exact .var _
 |some p=>
  obtain⟨c,l⟩:=p;rw[hs]at c2 hV c3 Xo;obtain⟨Ae,hl,hld,_⟩:=Xo;have c2':w1.cell? ⟨h,3,none⟩=some (.string<|pn c):=c2;have c3':w1.cell? ⟨h,4,none⟩=some (.slice (ly h).1 l.length (ly h).2):=c3;have cR:((pn c).toList==[])=false:=by
   rw[<-qs,beq_iff_eq];exact ls Ae
  obtain⟨jD,a2,hF2,hVh⟩:=hV;have hlen:=uO a2;obtain⟨i0,wY,og,l8,gR⟩:=info_parts gu;have Nw:=hH (by_:=16) eh wY og rfl l8 gR aw l.length hl;rw[hVh]at fK;have aml:∀x∈jD,size (V x)<=k:=λx hx=>by have:=eI (V:=V) hx;simp[size]at fK;omega
  have HL:=ai hlen;have HZ:=ai z1;have HV:=ai hVh;obtain⟨sa,HA⟩:∃sa,Hid<|(ly h).1=sa:=⟨_,ai rfl⟩;rw[uh HA]at c3';clear c2 c3 hlen z1 hVh
  go_wp2
  go_loopg[29] l.length (λgk v wr=>ab0 ds str dV vr ly lv l.length (jD.map V) w1 gk v wr)
  case atStart=>
   have bP:Bq w1 (w1.alloc<|.cells (qj l.length .nilIface) 56):=bw _;refine⟨0,qj l.length .nilIface,dV,ai ag,qe _,rfl,G1.move bP.size<|λb i v hc=>bP.block b<|fy hc,iQ.refl _ _,Fr.of bP,Bx.new w1 _ _,ai ag,ai<|λi _ hi=>absurd hi<|qf _⟩
  case round=>
   obtain⟨j,C,gY,cV,hj,rfl,GJ,EJ,FJ,BJ,hC,hT⟩:=hrel;have zw:=FJ.size;have zb:=BJ.z;obtain⟨d0,e0,d2,d1,d3⟩:=(GJ.nd h hh).cells;rw[hs]at d2;have d2':wr.cell? ⟨h,3,none⟩=some (.string<|pn c):=d2;clear d0 e0 d2 d1 d3 c0 f0 c1 c2' c3' Nw;by_cases bh:j<l.length
   .have hdj:(j:Int)<(l.length:Int):=ae;obtain⟨ga,ea,cg,hga⟩:=GJ.row hh hs bh;have yt:j<jD.length:=by rw[<-uh HL];exact bh
    have hdh:=EJ.kK _ _<|Ic a2 j bh yt;have HC:=IH wr gY l[j] jD[j] GJ (Fin.eqv hF1 EJ) (hld _<|ja bh) hdh (hF2 _<|ja yt)<|aml _<|ja yt;have ea':=HA.symm.trans ea;subst ea';clear ea;go_wp2_with fail;refine HC.mono ?_;rintro e w2⟨u,oD,rfl,hU,G2,E2,F2⟩;obtain⟨tu,xu,rfl⟩:=hU.iface;have hpb:¬w1.heap.size∈ds:=λq=>by have:=lY _ q;omega
    have B2:=BJ.fr F2 hpb;have sI:j<C.size:=qBh;have cj:w2.cell? ⟨w1.heap.size,j,none⟩=some C[j]:=(B2.c j).trans<|ql sI;have fj:=B2.f j;have B3:=ai<|B2.aT j (.iface tu xu) (C.setIfInBounds j<|.iface tu xu) rfl sI;have HU:=ai hU;have HF:=ai F2;have yE:=ai<|FJ.trans F2;have HE:=ai<|EJ.trans E2;have z2:=F2.size;have G3:=ai (G2.one (One.cell w2 w1.heap.size j<|.iface tu xu) hpb (λm hm c' l' g' e1 e2 e3=>by have:=G1.akA hm e1 e2 e3;omega));clear HC hU G2 E2 F2 B2 cg d2'
    go_wp2
    go_roundg(l.length-(j+1))
    case measure=>rw[uh cV];omega
    case rel=>
     refine⟨j+1,C.setIfInBounds j<|.iface tu xu,oD,ai rfl,ae,i_,G3,HE,yE.set (j5<|br _) j _,B3,ai (by simp;exact hC),ai<|λi hi hij=>?_⟩;have jA:∀b,w1.heap.size<b->b<w2.heap.size->(w2.setCell ⟨w1.heap.size,j,none⟩<|.iface tu xu).heap[b]? =w2.heap[b]? :=λb hb _=>qp _ _ _ _ (by show b≠w1.heap.size;omega);have hss:(w2.setCell ⟨w1.heap.size,j,none⟩<|.iface tu xu).heap.size=w2.heap.size:=zJ;by_cases e:i=j
     .subst e;refine⟨.iface tu xu,by simp[sI],?_⟩;rw[List.getElem_map];exact HU.low.move ae (λb p z=>jA b qAy z)<|λb p z=>⟨qAy,ae⟩
     .obtain⟨u',wS,wU⟩:=uh hT i hi ae;refine⟨u',by rw[qk ae];exact wS,?_⟩;have h3:=wU.fr HF (λb p _ q=>by have:=lY _ q;omega);exact h3.move ae (λb p z=>jA b p.1 z)<|λb p z=>⟨p.1,ae⟩
   .have hdj:decide ((j:Int)<(l.length:Int))=false:=bD;have ej:j=l.length:=ae;subst ej
    go_wp2
    go_ret;refine⟨_,gY,rfl,?_,GJ,E1.trans EJ,F1.trans FJ⟩;have hlm:(jD.map V).length=l.length:=by rw[jv];exact HL.symm
    rw[uh HV,<-hlm];have z1:=uh HZ;refine .aJ c _ _ _ (λi=>C.getD i .nilIface) Ae (j5 ⟨w1.heap.size,rfl,by show w.heap.size<=w1.heap.size;omega,zb,λi hi=>?_⟩) (λi hi=>?_)
    .obtain⟨u,hu,_⟩:=uh hT i hi ae;rw[BJ.c i,hu];simp[Array.getD_eq_getD_getElem?,hu]
    .obtain⟨u,hu,UB⟩:=uh hT i hi ae;have:C.getD i .nilIface=u:=qBm;rw[this];exact UB.wide λb p=>qAu
def Ga:∀k,PG ds str vr ly lv F V k
 |0=>λw nx n h G hF hn hd Vc fK=>absurd fK (by have:=size_pos<|V h;omega)|k+1=>PH<|Ga k
end
def TH{w:World}{ds:List Nat}{str:sN}{nx:Nx}{vr:Nat->Nat}{ly:Nat->Option Addr×Nat}{lv:Nat->Nat}(G:GL w ds str nx vr ly lv):∀l:List Nat,(∀m∈l,m∈ds)->∃hs,cU (Hd nx) l hs
 |[],_=>⟨[],.nil⟩|x::l,h=>by
  have⟨y,hy⟩:=G.hd x<|h x ag;have⟨hs,q⟩:=TH G l λm hm=>h m (by simp[hm]);exact⟨y::hs,.cons hy q⟩
def Wv ds str nx vr ly lv sb M(F:Nat->Prop)B(V:Nat->Ty)n w(e:Ending)w':=
 ∃bm,GL w' ds str bm vr ly lv/\iQ str nx bm/\Fr (λb=>b∈ds\/b=sb) w w'/\
  ((∃M' F' V' h,e=.returned (.tuple #[.int .i64 ((min (size<|V' h) 49:Nat):Int),.bool true])/\Hd nx n h/\F' h/\(∀x,F x->F' x/\V' x=V x)/\SZ ds str bm vr M' F' B V'/\MS Db w' sb M'/\(∀x,a_ x M'=none->a_ x M=none))\/
   (e=.returned (.tuple #[Iv 0,.bool false])/\∀W,¬kY str nx W))
def Ih ds str vr ly lv sb k:=
 ∀(w:World)(nx:Nx)(M:List (Nat×Value))(F:Nat->Prop)(B:List Nat)(V:Nat->Ty)(n:Nat),GL w ds str nx vr ly lv->SZ ds str nx vr M F B V->MS Db w sb M->n∈ds->(∀W,kY str nx W->∀b∈B,size (W n)<size (W b))->mu M ds<k->
  Cq 67 #[.agg #[Iv 48,Mv sb],nA n] w (Wv ds str nx vr ly lv sb M F B V n w)
def TK ds str nx vr ly lv sb bx M(F:Nat->Prop)B(V:Nat->Ty)N(hs:List Nat)w gk u v wr:=
 ∃(j:Nat)(gY:Nx)(Mj:List (Nat×Value))(Fj:Nat->Prop)(Vj:Nat->Ty)(sz:Nat),Hid (gk=N-j)/\j<=N/\u=Nv sz/\v=Nv j/\sz<=49/\Hid (sz=min (1+ah ((hs.take j).map Vj)) 49)/\GL wr ds str gY vr ly lv/\iQ str nx gY/\Fr (λb=>b∈ds\/b=sb) w wr/\Bx wr bx #[Iv 48,Mv sb]/\
  Hid (SZ ds str gY vr Mj Fj B Vj)/\MS Db wr sb Mj/\Hid ((∀x,F x->Fj x/\Vj x=V x)/\(∀x,a_ x Mj=none->a_ x M=none)/\∀x∈hs.take j,Fj x)
section
variable {lv:Nat->Nat}
def PK(IH:Ih ds str vr ly lv sb k):Ih ds str vr ly lv sb (k+1):=by
 intro w nx M F B V n G0 HS M0 hn hB hmu;have⟨h,HD⟩:=G0.hd n hn;have hh:=G0.bM hn HD;have⟨bP,BA⟩:=oF w #[.int .i64 48,.map<|some sb] 174;have GA:=G0.move bP.size<|λb i v hc=>bP.block b<|fy hc;have HC:=sC GA hn HD;have zs:=M0.lt;have MA:=M0.below bP;have lY:∀x∈ds,x<w.heap.size:=λx hx=>(G0.nd x hx).lt;have hsd:¬sb∈ds:=λq=>by have:=(G0.nd sb q).cells.1;rw[M0.nW 0]at this;cases this
 have sQ:¬w.heap.size∈ds:=λq=>by have:=lY _ q;omega
 go_enter func67,ntmps67;go_wp2_with fail;refine HC.mono ?_;rintro e w1⟨rfl,dV,G1,F1,E1,HZ⟩;have B1:=BA.fr F1 sQ;have HM:=MA.same (F1.block sb (by have:=bP.size;omega) hsd);have HOK:∀x∈ds,∃c t,w1.heap[x]? =some (Cv c t (0,0)):=λx hx=>⟨_,_,(G1.nd x hx).1⟩;have hl:=HM.look abP Tryz.underlying172 (SS w1) h (HOK h hh) (λp hp=>HOK p.1<|HS.kd p hp) true;have ca:=B1.c 0;have cb:=B1.c 1;have ca':=ca;have cb':=cb;have FF:Fr (λb=>b∈ds\/b=sb) w w1:=(Fr.of bP).trans' F1<|λx q=>Or.inl<|Or.inl q;have HD1:=E1.kK _ _ HD;clear HC GA BA MA G0 M0 ca cb
 cases hg:a_ h M with
 |some v=>
  rw[hg]at hl;simp at hl;obtain q|q:=HS.gm h v hg
  .have hv:=HS.fg h q;rw[hg]at hv;injection hv with hv;subst hv;have HP:=Tv<|V h;have mh:((((min (size<|V h) 49:Nat)):Int)==0)=false:=by simpa using HP
   generalize hq:(((min (size<|V h) 49:Nat)):Int)=sz at*
   go_wp2
   go_ret2;refine⟨dV,G1,E1,FF,j6 ⟨M,F,V,h,?_,HD,q,λx hx=>⟨hx,rfl⟩,HS.eqv E1,HM,λ_ hx=>hx⟩⟩;have e1:(sz !=0)=true:=by simpa using HP
   rw[hq];show Rv (Value.tuple #[.int .i64 sz,.bool<|sz !=0])=_;rw[e1]
  .have hv:=HS.bg h q;rw[hg]at hv;injection hv with hv;subst hv
   go_wp2
   go_ret2;refine⟨dV,G1,E1,FF,j5 ⟨rfl,λW hW=>?_⟩⟩;have:=hB W hW h q;rw[HD.lj hW]at this;omega
 |none=>
  rw[hg]at hl;simp at hl;have⟨c0,f0,c2,c1,c3⟩:=(G1.nd h hh).cells;have Xo:=(G1.nd h hh).2.1;obtain⟨l,HLs,JT,hld⟩:∃l:List Nat,Hid ((str h=none/\l=[])\/∃c,str h=some (c,l))/\slN (str h)=l.length/\∀m∈l,m∈ds:=by
   cases hs:str h with
   |none=>exact⟨[],ai<|j6 ⟨rfl,rfl⟩,rfl,ag⟩|some p=>
    rw[hs]at Xo;exact⟨p.2,ai<|j5 ⟨p.1,rfl⟩,rfl,Xo.2.2.1⟩
  have am4:l.length<=1001:=by
   obtain⟨_,e⟩|⟨c,e⟩:=uh HLs
   .subst e;simp
   .rw[e]at Xo;exact Xo.2.1
  have⟨hs,a2⟩:=TH G1 l hld;have HL:=uO a2;obtain⟨sa,HA⟩:∃sa,Hid<|(ly h).1=sa:=⟨_,ai rfl⟩;rw[uh HA,JT]at c3;have c3':=c3;have HS:=HS.eqv E1;have kdS:=HS.kd;have hhb:h≠sb:=λe=>hsd<|e▸hh;clear c3 JT c0 c1 c2 f0 Xo;go_wp2_with(refine aZ _ rfl _ _ _ _ (j5 rfl) abP Tryz.underlying172 _ _ rfl HM h (.int .i64 0) rfl rfl (HOK h hh) (λp hp=>HOK p.1<|kdS p hp) ?_;intro w2 H' O';have yk:=ai H';have O2:=O';clear H' O';have amm:w2.cell? ⟨h,4,none⟩=some (Lv sa l.length (ly h).2):=(qg (a:=⟨h,4,none⟩) (w:=w1)<|O2.block h hhb).trans c3');have FP:Fr (λb=>b∈ds\/b=sb) w w2:=⟨O2.os.trans FF.os,O2.tape.trans FF.tape,O2.output.trans FF.output,by rw[O2.size];exact FF.size,λb hz hn=>(O2.block b<|λe=>hn<|j5 e).trans<|FF.block b hz hn⟩;have HBL:∀(gY:Nx),iQ str dV gY->∀j(hj:j<l.length)W,kY str gY W->∀b∈h::B,size (W l[j])<size (W b):=by
   intro gY EJ j hj W hW b hb;have hW0:=((E1.trans EJ).lj W).1 hW;have e1:=HD.lj hW0;have bA:size (W l[j])<size (W h):=by
    obtain⟨_,e⟩|⟨c,e⟩:=uh HLs
    .subst e;simp at hj
    .rw[hW0.made h c l e];have:=eI (V:=W)<|ja hj;simp[size];omega
   obtain q|q:=List.mem_cons.1 hb
   .rw[q];exact bA
   .have:=hB W hW0 b q;rw[e1]at this;omega
  have HGM:=hg;have amn:mu (bG h (.int .i64 0) M) ds<k:=by have:=abO HGM (.int .i64 0) hh;omega
  have akB:∀b i v,w1.cell? ⟨b,i,none⟩=some v->w2.heap[b]? =w1.heap[b]? :=λb i v hc=>O2.block b (λe=>by subst e;rw[HM.nW i]at hc;cases hc);have G2:=G1.move (by rw[O2.size];exact br _) akB;have B2:=B1.one O2 ae;clear hl ca' cb' c3' amm;go_loopg[8,34] l.length (λgk u v wr=>TK ds str dV vr ly lv sb w.heap.size (bG h (.int .i64 0) M) F (h::B) V l.length hs w gk u v wr)
  case atStart=>
   exact⟨0,dV,bG h (.int .i64 0) M,F,V,1,ai ag,qe _,rfl,rfl,ae,ai<|by simp[ah],G2,iQ.refl _ _,FP,B2,ai<|HS.begin hh HGM,uh yk,ai ⟨λx hx=>⟨hx,rfl⟩,λ_ hx=>hx,ag⟩⟩
  case round=>
   obtain⟨j,gY,Mj,Fj,Vj,sz,cV,hj,rfl,rfl,fK,hsq,GJ,EJ,FJ,BJ,SJ,HMJ,hT⟩:=hrel;have zw:=FJ.size;have zb:=BJ.z;have ca:=BJ.c 0;have cb:=BJ.c 1;by_cases bh:j<l.length
   .have hdj:(j:Int)<(l.length:Int):=ae;obtain⟨c,hsc⟩:∃c,Hid<|str h=some (c,l):=by
     obtain⟨_,e⟩|⟨c,e⟩:=uh HLs
     .subst e;simp at bh
     .exact⟨c,ai e⟩
    have⟨ga,ea,cg,hga⟩:=GJ.row hh (uh hsc) bh;have yt:j<hs.length:=by rw[<-HL];exact bh
    have hdh:=EJ.kK _ _<|Ic a2 j bh yt;have hmj:mu Mj ds<k:=Nat.lt_of_le_of_lt (Ie (uh hT).2.1 ds) amn;have HC:=IH wr gY Mj Fj (h::B) Vj l[j] GJ SJ HMJ (hld _<|ja bh) (HBL gY EJ j bh) hmj;have ea':=(uh HA).symm.trans ea;subst ea';clear ea;go_wp2_with fail;refine HC.mono ?_;rintro e w3⟨nx3,G3,E3,F3,⟨M3,F3',V3,h3,rfl,hd3,hF3,hV3,S3,MS3,hg3⟩|⟨rfl,mX⟩⟩
    .have e3:=hd3.one hdh;subst e3;obtain⟨s2,rY⟩:∃s2,Hid<|s2=min (size<|V3 hs[j]) 49:=⟨_,ai rfl⟩;rw[<-uh rY];have am5:s2<=49:=by rw[uh rY];omega
     have B3:=BJ.fr F3 (λq=>by obtain q|q:=q;exact sQ q;omega);have ca3:=B3.c 0;have ad3:∀(x:Bool)(w:World),(Op.unary .not<|.bool x).run Tryz.prog w=.ok (.bool<|!x) w:=λ_ _=>rfl;clear HC ca cb cg
     have HR:∀sz',sz'<=49->sz'=min (sz+s2) 49->TK ds str dV vr ly lv sb w.heap.size (bG h (.int .i64 0) M) F (h::B) V l.length hs w (l.length-(j+1)) (.int .i64 (sz':Int)) (.int .i64<|(j:Int)+1) w3:=(λsz' l8 gR=>by
      have⟨t1,t2,t3⟩:=uh hT;have amo:∀x∈hs.take (j+1),F3' x:=λx hx=>by
       rw[jc yt]at hx;obtain q|q:=List.mem_append.1 hx
       .exact(hV3 x<|t3 x q).1
       .simp at q;rw[q];exact hF3
      have hmp:(hs.take j).map V3=(hs.take j).map Vj:=by
       apply jl;intro x hx;exact(hV3 x<|t3 x hx).2
      have amp:∀(a:List Ty)(t:Ty),ah (a++[t])=ah a+size t:=by
       intro a t
       induction a with
       |nil=>simp[ah]|cons x a ih=>simp[ah,ih];omega
      refine⟨j+1,nx3,M3,F3',V3,sz',ai rfl,ae,rfl,i_,l8,ai ?_,G3,EJ.trans E3,FJ.trans F3,B3,ai S3,MS3,ai ⟨λx hx=>⟨(hV3 x (t1 x hx).1).1,((hV3 x (t1 x hx).1).2).trans (t1 x hx).2⟩,λx hx=>t2 x<|hg3 x hx,amo⟩⟩;rw[jc yt,jj,hmp];simp only[jf,jx];rw[amp,gR,uh hsq,uh rY]
      omega)
     clear hd3 hF3 hV3 S3 MS3 hg3 hT hsq rY G3 E3 F3;go_wp2_with fail;all_goals(go_roundg(l.length-(j+1)))
     all_goals(first|(rw[uh cV];omega)|exact HR 49 ae (by omega)|(have:=HR (sz+s2) ae ae;rw[Int.natCast_add]at this;exact this))
    .have ad3:∀(x:Bool)(w:World),(Op.unary .not<|.bool x).run Tryz.prog w=.ok (.bool<|!x) w:=λ_ _=>rfl;clear HC ca cb cg
     go_wp2
     go_ret2;exact⟨nx3,G3,(E1.trans EJ).trans E3,FJ.trans F3,j5 ⟨rfl,λW hW=>mX W<|((E1.trans EJ).lj W).2 hW⟩⟩
   .have hdj:decide ((j:Int)<(l.length:Int))=false:=bD;have ej:j=l.length:=ae;subst ej;have bA:hs.take l.length=hs:=by rw[HL];exact ji
    have⟨t1,t2,t3⟩:=uh hT;have aes:=uh hsq;rw[bA]at t3 aes
    obtain⟨T,HT1,HT2⟩:∃T:Ty,Hid (sz=min (size T) 49)/\Hid (match str h with
     |none=>T=.var (vr h)|some (c,l)=>∃hs,cU (Hd gY) l hs/\(∀y,y∈hs->Fj y)/\T=.aJ c (hs.map Vj)):=by
     obtain⟨e1,e2⟩|⟨c,e⟩:=uh HLs
     .have e3:hs=[]:=by
       have:=HL;rw[e2]at this;exact List.length_eq_zero_iff.1 this.symm
      refine⟨.var<|vr h,ai ?_,ai<|by rw[e1]⟩;rw[aes,e3];simp[ah,size]
     .refine⟨.aJ c<|hs.map Vj,ai ?_,ai ?_⟩
      .rw[aes];simp[size]
      .rw[e];exact⟨hs,Bs (λx y q=>EJ.kK x y q) a2,t3,rfl⟩
    have hxB:¬h∈B:=λq=>by
     have:=HS.bg h q;rw[HGM]at this
     cases this
    have SD:=SJ.done hxB hh ((EJ.B_ h).2<|(E1.kK _ _ HD).head) T HT2;have akC:∀x∈ds,∃c t,wr.heap[x]? =some (Cv c t (0,0)):=(λx hx=>⟨_,_,(GJ.nd x hx).1⟩);have kdJ:=(uh SJ).kd;have HTT:=qx t1 t2;clear hsq aes t1 t2 t3 hT bA HT2;go_wp2_with(refine aZ _ rfl _ _ _ _ (j5 rfl) abP Tryz.underlying172 _ _ rfl HMJ h (.int .i64 (sz:Int)) rfl rfl (akC h hh) (λp hp=>akC p.1<|kdJ p hp) ?_;intro w4 H' O';have HM4:=ai H';have O4:=O';clear H' O');go_ret2;obtain⟨t1,t2⟩:=HTT;have hsT:=uh HT1;have SD':=SD;rw[<-hsT]at SD';have hkp:∀b i v,wr.cell? ⟨b,i,none⟩=some v->w4.heap[b]? =wr.heap[b]? :=λb i v hc=>O4.block b (λe=>by subst e;rw[HMJ.nW i]at hc;cases hc);refine⟨gY,GJ.move (by rw[O4.size];exact br _) hkp,E1.trans EJ,⟨O4.os.trans FJ.os,O4.tape.trans FJ.tape,O4.output.trans FJ.output,by rw[O4.size];exact FJ.size,λb hz hn=>(O4.block b<|λe=>hn<|j5 e).trans<|FJ.block b hz hn⟩,j6 ⟨bG h (.int .i64 (sz:Int)) Mj,λy=>Fj y\/y=h,jy Vj h T,h,?_,HD,j5 rfl,λx hx=>⟨j6 (t1 x hx).1,?_⟩,SD',uh HM4,λx hx=>?_⟩⟩
    .have e1:jy Vj h T h=T:=Ob;rw[e1,<-hsT];rfl
    .have cR:x≠h:=λe=>by subst e;exact(uh SJ).apart (t1 x hx).1 ag
     simp only[jy,cR,if_false];exact(t1 x hx).2
    .rw[aO]at hx;split at hx
     .cases hx
     .have:=t2 x hx;rw[aO]at this;split at this
      .cases this
      .exact this
def TL:∀k,Ih ds str vr ly lv sb k
 |0=>λw nx M F B V n _ _ _ _ _ hmu=>absurd hmu (qf _)|k+1=>PK<|TL k
end
section
variable {nx:Nx} {lv:Nat->Nat}
def aet ds str nx vr ly lv n w(e:Ending)w':=
 ∃bm,GL w' ds str bm vr ly lv/\iQ str nx bm/\Fr (λb=>b∈ds) w w'/\
  ((∃F V h,e=.returned (.tuple #[.int .i64 ((min (size<|V h) 49:Nat):Int),.bool true])/\Hd nx n h/\F h/\jz str bm vr F V/\∀x,F x->x∈ds)\/
   (e=.returned (.tuple #[Iv 0,.bool false])/\∀W,¬kY str nx W))
def pj(G:GL w ds str nx vr ly lv)(hn:n∈ds):Cq 42 #[nA n,Iv 48] w (aet ds str nx vr ly lv n w):=by
 have iZ:= @run_makeMap Tryz.prog;have bP:Bq w (w.alloc<|.map #[] 0):=bw _;have GA:=G.move bP.size<|λb i v hc=>bP.block b<|fy hc;have S0:SZ ds str nx vr [] (λ_=>False) [] (λ_=>.var 0):=⟨λ_ q=>q.elim,λ_ q=>q.elim,λ_ q=>(List.not_mem_nil q).elim,λx v q=>(by simp[a_]at q),λ_ q=>(List.not_mem_nil q).elim⟩;have HC:=TL (mu [] ds+1) (w.alloc<|.map #[] 0) nx [] (λ_=>False) [] (λ_=>.var 0) n GA S0 (MS.new Db w) hn (λ_ _ b hb=>by simp at hb) (Nat.lt_succ_self _);have lY:∀x∈ds,x<w.heap.size:=λx hx=>(G.nd x hx).lt;go_enter func42,ntmps42;go_wp2_with fail;refine HC.mono ?_
 have yv:∀w',Fr (λb=>b∈ds\/b=w.heap.size) (w.alloc<|.map #[] 0) w'->Fr (λb=>b∈ds) w w':=λw' h=>(Fr.of bP).trans' h (λx q=>by
  obtain q|q:=q
  .exact j6 q
  .exact j5 ae)
 rintro e w1⟨dV,G1,E1,F1,⟨M1,F',V',h,rfl,hd,hF,hV,HS,MS1,hg⟩|⟨rfl,mX⟩⟩
 .obtain⟨s2,rY⟩:∃s2:Nat,Hid<|s2=min (size<|V' h) 49:=⟨_,ai rfl⟩;rw[<-uh rY]
  go_wp2
  go_ret2;refine⟨dV,G1,E1,yv w1 F1,j6 ⟨F',V',h,?_,hd,hF,HS.fin,λx hx=>HS.fd hx⟩⟩;rw[<-uh rY];rfl
 .clear HC
  go_wp2
  go_ret2;exact⟨dV,G1,E1,yv w1 F1,j5 ⟨rfl,mX⟩⟩
end
structure f_ where
 ds:List Nat
 str:sN
 nx:Nx
 vr:Nat->Nat
 ly:Nat->Option Addr×Nat
 lv:Nat->Nat
 V:Nat->Ty
abbrev f_.L(g:f_)i v:=Lo g.ds g.str g.nx g.vr g.lv i v
abbrev f_.R(g:f_)v x:=Rt g.ds g.str g.nx g.vr v x
structure JS w(g:f_)(s:qu):Prop where
 gl:GL w g.ds g.str g.nx g.vr g.ly g.lv
 mY:sP g.str g.nx []
 inj:∀a b,a∈g.ds->b∈g.ds->g.str a=none->g.str b=none->g.vr a=g.vr b->a=b
 can:Can g.str g.nx g.vr g.V
 lc:LC g.str g.ds g.nx g.lv
 val:∀n,n∈g.ds->g.str n=none->g.V n=s.k (g.vr n)
 use:∀n,n∈g.ds->g.str n=none->s.u (g.vr n)
 ok:In.Ok s
section
variable {g g1 g2:f_} {s s2:qu}
def GL.jg{nx:Nx}{lv:Nat->Nat}(h:GL w ds str nx vr ly lv)(hc:sP str nx [])(hi:∀a b,a∈ds->b∈ds->str a=none->str b=none->vr a=vr b->a=b):JG ds str nx vr where
 Px n:=by
  by_cases q:n∈ds
  .exact h.hd n q
  .exact⟨n,.here (h.out n q).1⟩
 kK n x hn k:=h.bM hn k
 Xa a c l ha hs p hp:=(h.part ha hs).2 p hp
 inj:=hi
 mY:=hc
def JS.jg(h:JS w g s):JG g.ds g.str g.nx g.vr:=h.gl.jg h.mY h.inj
def JS.om(h:JS w g s)(hn:n∈g.ds)(o:aB v (g.V n)):∃x,g.R v x:=by
 have⟨y,hy⟩:=h.jg.Px n;have⟨x,r,_⟩:=fA (lv:=g.lv) h.jg h.can _ n y hn hy (br _) o;exact⟨x,r⟩
def JS.root(h:JS w g s)(r:g.R v x):s.u v/\s.k v=.var v:=by
 rw[<-r.2.2.2];exact⟨h.use x r.1 r.2.2.1,by rw[<-h.val x r.1 r.2.2.1,r.val h.can,r.2.2.2]⟩
def JS.eqv(h:JS w g s){bm}(e:iQ g.str g.nx bm)(hg:GL w' g.ds g.str bm g.vr g.ly g.lv):JS w' {g with nx:=bm} s:=
 ⟨hg,e.mY _ h.mY,h.inj,λn x k=>h.can n x<|e.back h.gl k,(yc.eqv h.gl e).lc h.lc,h.val,h.use,h.ok⟩
structure iY L(g:f_)(s:qu)(g1:f_)(s1:qu):Prop where
 eW:∀n,n∈g.ds->n∈g1.ds/\g1.str n=g.str n/\g1.vr n=g.vr n
 val:∀n,n∈g.ds->g1.V n=sub s1.k (g.V n)
 Vh:∀i,i<L->∀x,g1.L i x↔∃v,g.L i v/\aB x (s1.k v)
def iY.key{L}(h:JS w g s)(k:iY L g s g1 s1)(h1:JS w' g1 s1)(hn:n∈g.ds)(hs:g.str n=none):s1.k (g.vr n)=sub s1.k (s.k<|g.vr n):=by
 have⟨b1,b2,b3⟩:=k.eW n hn;rw[<-h.val n hn hs,<-k.val n hn,h1.val n b1<|b2.trans hs,b3]
def iY.refl(h:JS w g s)L:iY L g s g s:=
 ⟨λn hn=>⟨hn,rfl,rfl⟩,λn hn=>(In.fs λv o=>by have⟨x,r⟩:=h.om hn o;exact(h.root r).2).symm,λi _ x=>⟨λq=>⟨x,q,by obtain⟨y,r,_⟩:=q;rw[(h.root r).2];rfl⟩,λ⟨v,q,o⟩=>by obtain⟨y,r,l⟩:=q;rw[(h.root r).2]at o;simp only[aB]at o;subst o;exact⟨y,r,l⟩⟩⟩
def iY.trans{L}{w2}(h:JS w g s)(h1:JS w' g1 s1)(h2:JS w2 g2 s2)(k:iY L g s g1 s1)(k1:iY L g1 s1 g2 s2):iY L g s g2 s2:=by
 have key:∀v y,g.R v y->s2.k v=sub s2.k (s1.k v):=λv y r=>by
  have⟨b1,b2,b3⟩:=k.eW y r.1;have:=k1.key h1 h2 b1<|b2.trans r.2.2.1
  rwa[b3,r.2.2.2]at this
 refine⟨λn hn=>?_,λn hn=>?_,λi hi x=>?_⟩
 .have⟨b1,b2,b3⟩:=k.eW n hn;have⟨c1,c2,c3⟩:=k1.eW n b1;exact⟨c1,c2.trans b2,c3.trans b3⟩
 .rw[k1.val n (k.eW n hn).1,k.val n hn,sub_sub];refine sub_congr _ λv o=>?_;have⟨y,r⟩:=h.om hn o;exact(key v y r).symm
 .rw[k1.Vh i hi x];constructor
  .rintro⟨v1,q,o⟩;have⟨v,q0,o0⟩:=(k.Vh i hi v1).1 q;refine⟨v,q0,?_⟩;obtain⟨y,r,_⟩:=q0;rw[key v y r];exact(qv _).2 ⟨v1,o0,o⟩
  .rintro⟨v,q0,o⟩;obtain⟨y,r,ly⟩:=q0;rw[key v y r]at o;have⟨v1,o0,o1⟩:=(qv _).1 o;exact⟨v1,(k.Vh i hi v1).2 ⟨v,⟨y,r,ly⟩,o0⟩,o1⟩
def iY.eqv(h:JS w g s)(e:iQ g.str g.nx bm)(hg:GL w' g.ds g.str bm g.vr g.ly g.lv)L:iY L g s {g with nx:=bm} s:=by
 have r:=iY.refl h L;refine⟨r.eW,r.val,λi hi x=>?_⟩;rw[<-r.Vh i hi x];exact⟨λ⟨y,⟨q1,q2,q3⟩,l⟩=>⟨y,⟨q1,(e.B_ y).1 q2,q3⟩,l⟩,λ⟨y,⟨q1,q2,q3⟩,l⟩=>⟨y,⟨q1,(e.B_ y).2 q2,q3⟩,l⟩⟩
def TN{str:sN}{nx:Nx}{vr:Nat->Nat}{ds:List Nat}{F:Nat->Prop}{VF V:Nat->Ty}(hF:jz str nx vr F VF)(hV:Can str nx vr V):∀k x,size (V x)<=k->F x->VF x=V x
 |0,x,h,_=>by have:=size_pos<|V x;omega|k+1,x,hz,hx=>by
  have⟨h1,h2⟩:=hF x hx;have e:=hV x x<|.here h1
  cases hs:str x with
  |none=>rw[hs]at h2 e;rw[h2,e]|some q=>
   obtain⟨c,l⟩:=q;rw[hs]at h2 e;have e:V x=.aJ c (l.map V):=e;obtain⟨rY,a1,a2,a3⟩:=h2;rw[a3,e];congr 1;refine(Bu a1 λp y hp hy r=>?_).symm;have mh:V p=V y:=by rw[hV p y r,hV y y<|.here (hF y<|a2 y hy).1]
   rw[mh];refine(TN (ds:=ds) hF hV k y ?_<|a2 y hy).symm;have:=kg (c:=c) (U:=V) hp;rw[<-e,mh]at this;omega
def aeu{nx}(g:JG ds str nx vr)(hV:Can str nx vr V):jz str nx vr (λh=>h∈ds/\nx h=none) V:=λh hh=>by
 refine⟨hh.2,?_⟩;have e:=hV h h<|.here hh.2
 cases hs:str h with
 |none=>rw[hs]at e;exact e|some q=>
  obtain⟨c,l⟩:=q;rw[hs]at e;have e:V h=.aJ c (l.map V):=e;have hp:=g.Xa h c l hh.1 hs;have:∀l:List Nat,(∀p,p∈l->p∈ds)->∃hs,cU (Hd nx) l hs/\(∀x,x∈hs->x∈ds/\nx x=none)/\l.map V=hs.map V:=by
   intro l
   induction l with
   |nil=>exact λ_=>⟨[],.nil,ag,rfl⟩|cons p l ih=>
    intro hl;have⟨y,hy⟩:=g.Px p;have⟨hs,h1,h2,h3⟩:=ih λq hq=>hl q (by simp[hq]);refine⟨y::hs,.cons hy h1,λx hx=>?_,?_⟩
    .obtain e|e:=List.mem_cons.1 hx
     .subst e;exact⟨g.kK p _ (hl p ag) hy,hy.head⟩
     .exact h2 x e
    .simp only[jf,h3];rw[show V p=V y from by rw[hV p y hy,hV y y<|.here hy.head]]
  have⟨rY,h1,h2,h3⟩:=this l hp;exact⟨rY,h1,h2,by rw[e,h3]⟩
end
abbrev guJ(f:Fl)(vl vr:Value):Value:=.iface 442<|.agg #[Nv f.kind,Nv f.aF,Nv f.to,vl,vr]
abbrev Oa(f:Fl)(vl vr:Value):Ending:=.panicked [{v:=guJ f vl vr,recovered:=false}]
section
variable {g:f_} {s:qu}
def JS.lt(h:JS w g s){n}(hn:n∈g.ds):n<w.heap.size:=(h.gl.nd n hn).lt
def GL.af{nx}{lv}(h:GL w ds str nx vr ly lv)(hb:Bq w w'):GL w' ds str nx vr ly lv:=h.move hb.size λb i v hc=>hb.block b<|fy hc
def JS.af(h:JS w g s)(hb:Bq w w'):JS w' g s:=⟨h.gl.af hb,h.mY,h.inj,h.can,h.lc,h.val,h.use,h.ok⟩
def aev(h:JS w g s)(hn:n∈g.ds):Cq 42 #[nA n,Iv 48] w (λe w'=>e=.returned (.tuple #[.int .i64 ((min (size<|g.V n) 49:Nat):Int),.bool true])/\∃bm,iQ g.str g.nx bm/\JS w' {g with nx:=bm} s/\Fr (λb=>b∈g.ds) w w'):=by
 refine(pj h.gl hn).mono ?_;rintro e w'⟨bm,G,E,F,⟨Fs,VF,x,rfl,hd,hx,hF,_⟩|⟨_,mX⟩⟩
 .have js:=h.eqv E G;have e1:=TN (ds:=g.ds) hF js.can _ x (br _) hx;have e2:g.V n=g.V x:=by rw[h.can n x hd,h.can x x<|.here hd.head]
  refine⟨by rw[e1,e2],bm,E,js,F⟩
 .exact absurd (h.can.lj h.jg) (mX _)
def rT(h:JS w g s)(hn:n∈g.ds)f t:Cq 306 #[nA n,.agg #[Nv f,Nv t]] w (λe w'=>(∃bm,iQ g.str g.nx bm/\JS w' {g with nx:=bm} s)/\Fr (λb=>b∈g.ds) w w'/\((size (g.V n)<=48/\e=.returned (.tuple #[]))\/(48<size (g.V n)/\e=Oa ⟨7,f,t⟩ .nilIface .nilIface))):=by
 have⟨k0,B0⟩:=oF w #[Nv f,Nv t] 119;have HS:=aev (h.af k0) hn;have hz:¬w.heap.size∈g.ds:=λq=>by have:=h.lt q;omega
 have K0:=ai k0;go_enter func306,ntmps306;go_wp2_with fail;refine HS.mono ?_;rintro e w1⟨rfl,dV,EE,JJ,F1⟩;have HF:=(Fr.of K0).trans F1;by_cases hb:48<size (g.V n)
 .have hm:(48:Int)<((min (size<|g.V n) 49:Nat):Int):=ae;obtain⟨M,hM⟩:∃M:Int,M=((min (size<|g.V n) 49:Nat):Int):=⟨_,rfl⟩;rw[<-hM]at hm⊢;have HT:=m5 (w:=w1) (f:Int) (t:Int);have⟨c1,c2,c3⟩:=B0.fr F1 hz;go_wp2_with fail;refine HT.mono ?_;rintro e w2⟨rfl,K2⟩
  go_wp2
  exact⟨rfl,⟨dV,EE,JJ.af K2⟩,HF.trans<|Fr.of K2,j5 ⟨hb,rfl⟩⟩
 .have hm:¬(48:Int)<((min (size<|g.V n) 49:Nat):Int):=ae;obtain⟨M,hM⟩:∃M:Int,M=((min (size<|g.V n) 49:Nat):Int):=⟨_,rfl⟩;rw[<-hM]at hm⊢
  go_wp2
  go_end0;exact⟨⟨dV,EE,JJ⟩,HF,j6 ⟨ae,rfl⟩⟩
def y8(h:JS w g s)(hn:n∈g.ds):Cq 43 #[nA n] w (λe w'=>∃tu xu bm,e=.returned (.iface tu xu)/\dD w' (λb=>w.heap.size<=b) (g.V n) (.iface tu xu)/\iQ g.str g.nx bm/\JS w' {g with nx:=bm} s/\Fr (λb=>b∈g.ds) w w'):=by
 have⟨x,hx⟩:=h.jg.Px n;refine(Ga _ w g.nx n x h.gl (aeu h.jg h.can) hn hx ⟨h.jg.kK n x hn hx,hx.head⟩<|br _).mono ?_;rintro e w'⟨u,bm,rfl,hu,G,E,F⟩;obtain⟨tu,xu,rfl⟩:=hu.iface;exact⟨tu,xu,bm,rfl,by rw[show g.V n=g.V x from by rw[h.can n x hx,h.can x x<|.here hx.head]];exact hu,E,h.eqv E G,F⟩
def JR.post{nx}(h:JR str nx dV a b true)(e:iQ str dV oD):JR str nx oD a b true:=
 ⟨λP E q=>h.eqs P E<|e.eqs P E q,λ_=>⟨λV=>(e.lj V).trans<|(h.yes rfl).1 V,λP q=>e.mY P<|(h.yes rfl).2.1 P q,λP E q=>(h.yes rfl).2.2 P E<|e.eqs P E q⟩,λq=>mE⟩
def JS.join(h:JS w g s)(hg:GL w' g.ds g.str bm g.vr g.ly cB)(jr:JR g.str g.nx bm a b true)(lr:yc g.str g.ds g.nx g.lv bm cB)(hF:jz g.str bm g.vr F VF)(hx:Hd bm a x)(hFx:F x)(ha:a∈g.ds)(hb:b∈g.ds){ta tb}(ea:g.V a=sub s.k ta)(eb:g.V b=sub s.k tb)(za:size (g.V a)<=48)(zb:size (g.V b)<=48)f t:
 ∃V' s',JS w' {g with nx:=bm,lv:=cB,V:=V'} s'/\(∀L,iY L g s {g with nx:=bm,lv:=cB,V:=V'} s')/\qw ta tb f t s (.ok ((),s'))/\s'.u=s.u:=by
 have hc':=(jr.yes rfl).2.1 [] h.mY;have g':=hg.jg hc' h.inj;have⟨V',θ,jw⟩:=abY h.jg h.can g' jr lr hF hx hFx ha hb;have tin:∀{n:Nat}{T:Ty},n∈g.ds->g.V n=sub s.k T->In.cA (λ_=>True) s (sub s.k T):=λhn e=>⟨λv o=>by rw[<-e]at o;have⟨y,r⟩:=h.om hn o;exact(h.root r).1,λ_ _=>trivial⟩;have he:∀{ta tb:Ty},g.V a=sub s.k ta->g.V b=sub s.k tb->qw ta tb f t s (.ok ((),⟨λv=>sub θ<|s.k v,s.u⟩)):=λea eb=>j5 ⟨by rw[<-ea];exact za,by rw[<-eb];exact zb,j6 ⟨θ,by rw[<-ea,<-eb];exact jw.mgu,rfl⟩⟩;have Ge:=(In.fG (Λ:=λ_=>True) h.ok (λ_ _=>trivial) (tin ha ea) (tin hb eb) f t _ _<|he (by rw[h.ok.rA,ea])<|by rw[h.ok.rA,eb]).1.ok;have js:JS w' {g with nx:=bm,lv:=cB,V:=V'} ⟨λv=>sub θ<|s.k v,s.u⟩:=
  ⟨hg,hc',h.inj,jw.can,lr.lc h.lc,λn hn hs=>by show V' n=sub θ (s.k<|g.vr n);rw[jw.val n hn,h.val n hn hs],h.use,Ge⟩
 have hr:∀v y,g.R v y->sub θ (s.k v)=θ v:=λv y r=>by rw[(h.root r).2];rfl
 refine⟨V',⟨λv=>sub θ<|s.k v,s.u⟩,js,λL=>⟨λn hn=>⟨hn,rfl,rfl⟩,λn hn=>?_,λi _ w=>?_⟩,he ea eb,rfl⟩
 .show V' n=sub (λv=>sub θ<|s.k v) (g.V n);rw[jw.val n hn];refine sub_congr _ λv o=>?_;have⟨y,r⟩:=h.om hn o;exact(hr v y r).symm
 .show Lo g.ds g.str bm g.vr cB i w↔_;rw[abZ h.jg h.can g' lr h.lc jw i w];constructor
  .rintro⟨v,⟨y,r,ly⟩,o⟩;exact⟨v,⟨y,r,ly⟩,by show aB w (sub θ<|s.k v);rw[hr v y r];exact o⟩
  .rintro⟨v,⟨y,r,ly⟩,o⟩;have o:aB w (sub θ<|s.k v):=o;rw[hr v y r]at o;exact⟨v,⟨y,r,ly⟩,o⟩
def JS.apart(h:JS w g s)(hn:∀W,kY g.str g.nx W->W a≠W b)σ:sub σ (g.V a)≠sub σ (g.V b):=by
 have sV:=h.can.lj h.jg;exact hn (λn=>sub σ<|g.V n) ⟨λn c l hs=>by rw[sV.made n c l hs];simp only[sub];rw[fV],λn m e=>by rw[sV.bu n m e]⟩
def aew{nx}{lv}(G:GL w ds str nx vr ly lv)(hn:n∈ds):Cq 324 #[nA n] w (λe w'=>∃ok bm,e=.returned (.bool ok)/\GL w' ds str bm vr ly lv/\iQ str nx bm/\Fr (λb=>b∈ds) w w'/\(ok=true->∃F V x,Hd nx n x/\F x/\jz str bm vr F V)/\(ok=false->∀W,¬kY str nx W)):=by
 have HS:=pj G hn;go_enter func324,ntmps324;go_wp2_with fail;refine HS.mono ?_;rintro e w1⟨dV,G1,E1,F1,⟨F,V,x,rfl,h1,h2,h3,_⟩|⟨rfl,mX⟩⟩
 .have HX:=show∃ok bm,Rv (.bool true)=Rv (.bool ok)/\GL w1 ds str bm vr ly lv/\iQ str nx bm/\Fr (λb=>b∈ds) w w1/\(ok=true->∃F V x,Hd nx n x/\F x/\jz str bm vr F V)/\(ok=false->∀W,¬kY str nx W)from⟨true,dV,rfl,G1,E1,F1,λ_=>⟨F,V,x,h1,h2,h3⟩,λq=>mE⟩;obtain⟨M,hM⟩:∃M:Int,M=((min (size<|V x) 49:Nat):Int):=⟨_,rfl⟩;rw[<-hM]
  go_wp2
  go_ret;exact HX
 .have HX:=show∃ok bm,Rv (.bool false)=Rv (.bool ok)/\GL w1 ds str bm vr ly lv/\iQ str nx bm/\Fr (λb=>b∈ds) w w1/\(ok=true->∃F V x,Hd nx n x/\F x/\jz str bm vr F V)/\(ok=false->∀W,¬kY str nx W)from⟨false,dV,rfl,G1,E1,F1,(λq=>mE),λ_=>mX⟩
  go_wp2
  go_ret;exact HX
def uQ g(s:qu)a b x y f t w e w':=Fr (λb=>b∈g.ds) w w'/\
 ((e=.returned (.tuple #[])/\∃bm cB V' s',JS w' {g with nx:=bm,lv:=cB,V:=V'} s'/\(∀L,iY L g s {g with nx:=bm,lv:=cB,V:=V'} s')/\qw x y f t s (.ok ((),s'))/\s'.u=s.u/\(∀m,m∈g.ds->∀h h',Hd g.nx m h->Hd bm m h'->cB h'<=g.lv h)/\uP g.str g.ds g.nx g.lv bm cB a b)\/
  (∃z vl vr,e=Oa z.f vl vr/\qw x y f t s (.error z)/\rM w' (λb=>w.heap.size<=b) z vl vr))
def YM(h:JS w g s)(ha:a∈g.ds)(hb:b∈g.ds){x y}(ea:g.V a=sub s.k x)(eb:g.V b=sub s.k y)f t:
 Cq 312 #[nA a,nA b,.agg #[Nv f,Nv t]] w (uQ g s a b x y f t w):=by
 have⟨k0,B0⟩:=nbh w #[Nv f,Nv t] 119;have H1:=rT (h.af k0) ha f t;have hz:¬w.heap.size∈g.ds:=λq=>by have:=h.lt q;omega
 have LT:∀n,n∈g.ds->n<w.heap.size:=λn q=>h.lt q;have K0:=ai k0;have⟨c1,c2,c3⟩:=uh B0;go_enter func312,ntmps312;go_wp2_with fail;refine H1.mono ?_;rintro e w1⟨⟨dV,E1',J1⟩,F1,hs1⟩;have akD:=(Fr.of K0).trans F1;obtain⟨hza,rfl⟩|⟨hza,rfl⟩:=hs1.symm
 .have HX:=show uQ g s a b x y f t w (Oa ⟨7,f,t⟩ Zv Zv) w1 from⟨akD,j5 ⟨In.q_ f t,Zv,Zv,rfl,j6 ⟨j6 (by rw[<-ea];exact hza),rfl⟩,⟨λ_=>⟨rfl,rfl⟩,(λq=>mE),j5 rfl⟩⟩⟩
  go_wp2
  exact⟨rfl,HX⟩
 have B1:=ai<|B0.fr F1 hz;have⟨c1,c2,c3⟩:=uh B1;have H2:=rT J1 hb f t;go_wp2_with fail;refine H2.mono ?_;rintro e w2⟨⟨oD,E2,J2⟩,F2,rY⟩;have ah_:=akD.trans F2;obtain⟨hzb,rfl⟩|⟨hzb,rfl⟩:=rY.symm
 .have HX:=show uQ g s a b x y f t w (Oa ⟨7,f,t⟩ Zv Zv) w2 from⟨ah_,j5 ⟨In.q_ f t,Zv,Zv,rfl,j6 ⟨j5 (by rw[<-eb];exact hzb),rfl⟩,⟨λ_=>⟨rfl,rfl⟩,(λq=>mE),j5 rfl⟩⟩⟩
  go_wp2
  exact⟨rfl,HX⟩
 have B2:=B1.fr F2 hz;have H3:=y8 J2 ha;have E2':=E1'.trans E2;have z2:=ah_.size;go_wp2_with fail;refine H3.mono ?_;rintro e w3⟨tl3,xl3,nx3,rfl,T3,E3,J3,F3⟩;have H4:=y8 J3 hb;have B3:=B2.fr F3 hz;have agw:=ah_.trans F3;have E3':=E2'.trans E3;have z3:=F3.size;go_wp2_with fail;refine H4.mono ?_;rintro e w4⟨tl4,xl4,As,rfl,T4,E4,J4',F4⟩;have H5:=Oq _ w4 As g.lv J4'.gl (br _) a b ha hb;have B4:=B3.fr F4 hz;have amq:=agw.trans F4;have aia:=E3'.trans E4;have z4:=F4.size;have pW:∀b:Nat,w.heap.size<=b->¬b∈g.ds:=λb hb q=>by have:=LT b q;omega
 have T3':=T3.fr F4 (λb p _=>pW b (by have:w2.heap.size<=b:=p;omega));go_wp2_with fail;refine H5.mono ?_;rintro e w5⟨ok,Ot,lv5,rfl,G5',F5,z5,_,JR5,lr5⟩;have APX:∀(W:World)(vl:TypeId)(xl:Value)(vr:TypeId)(xr:Value),Fr (λb=>b∈g.ds) w W->dD W (λb=>w.heap.size<=b) (g.V a) (Fv vl xl)->dD W (λb=>w.heap.size<=b) (g.V b) (Fv vr xr)->(∀σ,sub σ (g.V a)≠sub σ (g.V b))->uQ g s a b x y f t w (Oa ⟨6,f,t⟩ (Fv vl xl)<|Fv vr xr) W:=λW vl xl vr xr hF h1 h2 h3=>
  ⟨hF,j5 ⟨⟨⟨6,f,t⟩,g.V a,g.V b⟩,_,_,rfl,j5 ⟨by rw[<-ea];exact hza,by rw[<-eb];exact hzb,j5 ⟨by rw[<-ea,<-eb];exact h3,by rw[<-ea,<-eb]⟩⟩,⟨(λq=>mE),λ_=>⟨h1,h2⟩,j6 rfl⟩⟩⟩
 have T35:=(T3'.fr F5<|λb p _=>pW b (by have:w2.heap.size<=b:=p;omega)).wide (Q:=λb=>w.heap.size<=b) λb p=>by have:w2.heap.size<=b:=p;omega
 have T45:=(T4.fr F5<|λb p _=>pW b (by have:w3.heap.size<=b:=p;omega)).wide (Q:=λb=>w.heap.size<=b) λb p=>by have:w3.heap.size<=b:=p;omega
 have aib:=amq.trans F5;have B5:=B4.fr F5 hz
 cases ok with
 |false=>
  have hap:∀σ,sub σ (g.V a)≠sub σ (g.V b):=λσ=>J4'.apart (g:={g with nx:=As}) (JR5.no rfl) σ;obtain⟨c1,c2,c3⟩:=B5;have HA:=EW (w:=w5) (f:Int) (t:Int) tl3 tl4 xl3 xl4;go_wp2_with fail;refine HA.mono ?_;rintro e w6⟨rfl,k6⟩;have HX:=APX w6 tl3 xl3 tl4 xl4 (aib.trans<|Fr.of k6) (T35.af k6) (T45.af k6) hap
  go_wp2
  exact⟨rfl,HX⟩
 |true=>
  have H6:=aew G5' ha;have LR5:=lr5 rfl;go_wp2_with fail;refine H6.mono ?_;rintro e w6⟨ok6,nx6,rfl,G6,E6,F6,hy,hn⟩
  cases ok6 with
  |false=>
   have hap:∀σ,sub σ (g.V a)≠sub σ (g.V b):=λσ eσ=>by
    have j4:=J4';have sV:=j4.can.lj j4.jg;exact hn rfl (λn=>sub σ<|g.V n) (((JR5.yes rfl).1 _).2 ⟨⟨λn c l hs=>by rw[sV.made n c l hs];simp only[sub];rw[fV],λn m e=>by rw[sV.bu n m e]⟩,eσ⟩)
   have⟨c1,c2,c3⟩:=B5.fr F6 hz;have HA:=EW (w:=w6) (f:Int) (t:Int) tl3 tl4 xl3 xl4;have T36:=T35.fr F6<|λb p _=>pW b p;have T46:=T45.fr F6<|λb p _=>pW b p;have amr:=aib.trans F6;go_wp2_with fail;refine HA.mono ?_;rintro e w7⟨rfl,k7⟩;have HX:=APX w7 tl3 xl3 tl4 xl4 (amr.trans<|Fr.of k7) (T36.af k7) (T46.af k7) hap
   go_wp2
   exact⟨rfl,HX⟩
  |true=>
   have⟨FF,VF,z,q1,q2,q3⟩:=hy rfl;have j4:=J4';have hjr:=JR5.post E6;have g5:=G5';have hlr:=LR5.1.trans (yc.eqv g5 E6) g5.hd<|λU q=>(E6.lj U).1 q;have⟨V',s',js,st,he,hu⟩:=j4.join (x:=z) G6 hjr hlr q3 (E6.kK _ _ q1) q2 ha hb ea eb hza hzb f t;have HX:=show uQ g s a b x y f t w (Rv<|.tuple #[]) w6 from⟨aib.trans F6,j6 ⟨rfl,nx6,lv5,V',s',js,λL=>iY.trans h j4 js (iY.eqv h aia j4.gl L)<|st L,he,hu,λm hm p p' k k'=>hlr.mono m hm p p' (aia.kK _ _ k) k',(LR5.2.post g5 E6).pre h.gl aia⟩⟩
   go_wp2
   go_end0;exact HX
end
section
variable {g:f_} {s:qu}
def GL.add{nx}{lv}(h:GL w ds str nx vr ly lv)(hw:Bq w w')(hn:w.heap.size<=n)s v a l(hh:w'.heap[n]? =some (.cells #[.pointer none,Nv l,Nv v,.string<|byS s,.slice a.1 (slN s) a.2] 171 (0,0)))(hp:fB w' (n::ds) a.1 s):
 GL w' (n::ds) (jy str n s) nx (jy vr n v) (jy ly n a) (jy lv n l):=by
 have hb:∀b i v,w.cell? ⟨b,i,none⟩=some v->w'.heap[b]? =w.heap[b]? :=λb i v hc=>hw.block b<|fy hc;have nd:¬n∈ds:=λq=>by have:=(h.nd n q).lt;omega
 have nn:=(h.out n nd).1;refine⟨λx hx=>?_,λx hx=>?_,λx hx=>?_⟩
 .by_cases e:x=n
  .subst e;refine⟨by simpa[jy,nP,nn]using hh,by simpa[jy]using hp,λm hm=>by rw[nn]at hm;cases hm⟩
  .have uZ:=(List.mem_cons.1 hx).resolve_left e;have hc:=(h.nd x uZ).cells.1;have⟨h1,h2,h3⟩:=h.nd x uZ;refine⟨?_,?_,λm hm=>jd _<|h3 m hm⟩
   .rw[hb x 0 _ hc,h1];simp[jy,e]
   .simp only[jy,e,if_false];exact(h2.more hn).move hw.size hb
 .have uZ:x≠n/\¬x∈ds:=⟨λe=>hx qBq,λe=>hx qBq⟩;exact⟨(h.out x uZ.2).1,by simpa[jy,uZ.1]using(h.out x uZ.2).2⟩
 .by_cases e:x=n
  .subst e;exact⟨x,.here nn⟩
  .exact h.hd x ((List.mem_cons.1 hx).resolve_left e)
abbrev f_.add(g:f_)(n:Nat)(q:Option (BA×List Nat))(v:Nat)(a:Option Addr×Nat)(l:Nat)(T:Ty):f_:=⟨n::g.ds,jy g.str n q,g.nx,jy g.vr n v,jy g.ly n a,jy g.lv n l,jy g.V n T⟩
def JS.TO(h:JS w g s)(nd:¬n∈g.ds)q:sP (jy g.str n q) g.nx []:=λE hE x m c l e hs=>by
 have hx:=qm λz=>by rw[(h.gl.out x z).1]at e;cases e
 have hm:=(h.gl.nd x hx).2.2 m e;have e1:x≠n:=λz=>nd<|z▸hx;have e2:m≠n:=λz=>nd<|z▸hm;simp only[jy,e1,if_false]at hs;have⟨l',h1,h2⟩:=h.mY E hE x m c l e hs;exact⟨l',by simp only[jy,e2,if_false];exact h1,h2⟩
def JS.TP(h:JS w g s)(nd:¬n∈g.ds){T:Ty}(hT:T=match q with|none=>.var v|some (c,l)=>.aJ c<|l.map g.V)(hq:∀c l,q=some (c,l)->∀p,p∈l->p∈g.ds):Can (jy g.str n q) g.nx (jy g.vr n v) (jy g.V n T):=λx y k=>by
 have nn:=(h.gl.out n nd).1;have lm:∀l:List Nat,(∀p,p∈l->p∈g.ds)->l.map (jy g.V n T)=l.map g.V:=λl hl=>dG λp hp=>by
  have:p≠n:=λe=>nd<|e▸hl p hp;simp[jy,this]
 by_cases hx:x∈g.ds
 .have hy:=h.gl.bM hx k;have e1:x≠n:=λz=>nd<|z▸hx;have e2:y≠n:=λz=>nd<|z▸hy;simp only[jy,e1,e2,if_false];have:=h.can x y k;rw[this]
  cases hs:g.str y with
  |none=>rfl|some p=>
   obtain⟨c,l⟩:=p;show qt c (l.map g.V)=qt c (l.map<|jy g.V n T);rw[lm l (h.gl.part hy hs).2]
 .have e0:=(h.gl.out x hx).1;have ey:=k.one<|.here e0;subst ey;by_cases e:y=n
  .subst e;simp only[jy,if_true];rw[hT]
   cases q with
   |none=>rfl|some p=>
    obtain⟨c,l⟩:=p;show qt c (l.map g.V)=qt c (l.map<|jy g.V y _);rw[<-hT,lm l<|hq c l rfl]
  .simp only[jy,e,if_false];have:=h.can y y k;rw[(h.gl.out y hx).2]at this⊢;exact this
def JS.ab1(h:JS w g s)(nd:¬n∈g.ds){L:Nat}(hq:∀c l,q=some (c,l)->∀p,p∈l->p∈g.ds/\∀x,Hd g.nx p x->g.lv x<=L):LC (jy g.str n q) (n::g.ds) g.nx (jy g.lv n L):=λa ha hn c l hs p hp x k=>by
 by_cases e:a=n
 .subst e;simp only[jy,if_true]at hs;have⟨h1,h2⟩:=hq c l hs p hp;have e2:x≠a:=λz=>nd<|z▸h.gl.bM h1 k;simp only[jy,e2,if_false,if_true];exact h2 x k
 .have ha':=(List.mem_cons.1 ha).resolve_left e;simp only[jy,e,if_false]at hs;have e2:x≠n:=λz=>nd<|z▸h.gl.bM ((h.gl.part ha' hs).2 p hp) k;simp only[jy,e,e2,if_false];exact h.lc a ha' hn c l hs p hp x k
def iY.add(h:JS w g s)(nd:¬n∈g.ds){a:Option Addr×Nat}{l L:Nat}{T:Ty}(hk:s1.k=s.k)(hl:q=none->L<=l):iY L g s (g.add n q v a l T) s1:=by
 have r:=iY.refl h L;have ne:∀m,m∈g.ds->m≠n:=λm hm e=>nd<|e▸hm;refine⟨λm hm=>⟨jd _ hm,by simp[jy,ne m hm],by simp[jy,ne m hm]⟩,λm hm=>?_,λi hi x=>?_⟩
 .rw[hk,<-r.val m hm];simp[jy,ne m hm]
 .rw[hk,<-r.Vh i hi x];constructor
  .rintro⟨y,⟨q1,q2,q3,q4⟩,q5⟩;by_cases e:y=n
   .subst e;simp only[jy,if_true]at q3 q5;have:=hl q3;omega
   .have Xj:=(List.mem_cons.1 q1).resolve_left e;simp only[jy,e,if_false]at q3 q4 q5;exact⟨y,⟨Xj,q2,q3,q4⟩,q5⟩
  .rintro⟨y,⟨q1,q2,q3,q4⟩,q5⟩;have e:=ne y q1;exact⟨y,⟨jd _ q1,q2,by simpa[jy,e]using q3,by simpa[jy,e]using q4⟩,by simpa[jy,e]using q5⟩
def TR{p:Prop}(h:p:=by
 simp only[jy,e1,e2,if_false]at e sa sb
 exact h.inj a b ((List.mem_cons.1 ha).resolve_left e1) ((List.mem_cons.1 hb).resolve_left e2) sa sb e):p:=h
def TS{p:Prop}(h:p:=by
 simpa[jy,e]using h.val m ((List.mem_cons.1 hm).resolve_left e) (by simpa[jy,e]using hs)):p:=h
def JS.var(h:JS w g s)(hw:Bq w w'){l:Nat}(hn:w.heap.size<=n)(hv:¬s.u v)(hh:w'.heap[n]? =some (.cells #[.pointer none,Nv l,Nv v,.string ⟨#[]⟩,.slice none 0 0] 171 (0,0))):
 JS w' (g.add n none v (none,0) l<|.var v) ⟨s.k,λm=>s.u m\/m=v⟩:=by
 have nd:¬n∈g.ds:=λq=>by have:=h.lt q;omega
 have ne:∀m,m∈g.ds->m≠n:=λm hm e=>nd<|e▸hm;refine⟨h.gl.add hw hn none v (none,0) l hh trivial,h.TO nd none,λa b ha hb sa sb e=>?_,h.TP nd rfl (λc l q=>mE),h.ab1 nd<|λc l q=>mE,λm hm hs=>?_,λm hm hs=>?_,(In.im (Λ:=λ_=>True) h.ok (λ_ _=>trivial) _ _ ⟨v,hv,rfl⟩).1.ok⟩
 .by_cases e1:a=n<;>by_cases e2:b=n
  .rw[e1,e2]
  .exfalso;have IB:=(List.mem_cons.1 hb).resolve_left e2;simp only[jy,e1,e2,if_false,if_true]at e sb;exact hv (by rw[e];exact h.use b IB sb)
  .exfalso;have ha':=(List.mem_cons.1 ha).resolve_left e1;simp only[jy,e1,e2,if_false,if_true]at e sa;exact hv (by rw[<-e];exact h.use a ha' sa)
  .exact TR
 .by_cases e:m=n
  .subst e;simp[jy,h.ok.out v hv]
  .exact TS
 .by_cases e:m=n
  .subst e;simp[jy]
  .have Pr:=(List.mem_cons.1 hm).resolve_left e;simp only[jy,e,if_false]at hs⊢;exact j6<|h.use m Pr hs
def JS.ab2(h:JS w g s)(hw:Bq w w'){l:Nat}{a:Option Addr×Nat}(hn:w.heap.size<=n)(hc:CN c)(hl:ps.length<=1001)(hp:∀p,p∈ps->p∈g.ds/\∀x,Hd g.nx p x->g.lv x<=l)(rh:ps=[]\/∃gg,a.1=some ⟨gg,0,none⟩/\¬gg∈n::g.ds/\gg<w'.heap.size/\∀i(h:i<ps.length),w'.cell? ⟨gg,i,none⟩=some (nA ps[i]))(hh:w'.heap[n]? =some (.cells #[.pointer none,Nv l,Iv 0,.string<|pn c,.slice a.1 ps.length a.2] 171 (0,0))):
 JS w' (g.add n (some (c,ps)) 0 a l<|.aJ c<|ps.map g.V) s:=by
 have nd:¬n∈g.ds:=λq=>by have:=h.lt q;omega
 have ne:∀m,m∈g.ds->m≠n:=λm hm e=>nd<|e▸hm;refine⟨h.gl.add hw hn (some (c,ps)) 0 a l hh ⟨hc,hl,λm hm=>jd _ (hp m hm).1,rh⟩,h.TO nd _,λa b ha hb sa sb e=>?_,h.TP nd rfl (λc' l' q=>by injection q with q;injection q with _ q;subst q;exact λp hq=>(hp p hq).1),h.ab1 nd (λc' l' q=>by injection q with q;injection q with _ q;subst q;exact hp),λm hm hs=>?_,λm hm hs=>?_,h.ok⟩
 .have e1:a≠n:=λz=>by subst z;simp[jy]at sa
  have e2:b≠n:=λz=>by subst z;simp[jy]at sb
  exact TR
 .have e:m≠n:=λz=>by subst z;simp[jy]at hs
  exact TS
 .have e:m≠n:=λz=>by subst z;simp[jy]at hs
  simp only[jy,e,if_false]at hs⊢;exact h.use m ((List.mem_cons.1 hm).resolve_left e) hs
def JS.made(h:JS w g s)(hw:Bq w w'){l:Nat}{a:Option Addr×Nat}(hn:w.heap.size<=n)(hc:CN c)(hl:ps.length<=1001)(hp:∀p,p∈ps->p∈g.ds/\∀x,Hd g.nx p x->g.lv x<=l)(hr:ps=[]\/∃gg,a.1=some ⟨gg,0,none⟩/\w.heap.size<=gg/\gg≠n/\gg<w'.heap.size/\∀i(h:i<ps.length),w'.cell? ⟨gg,i,none⟩=some (nA ps[i]))(hh:w'.heap[n]? =some (.cells #[.pointer none,Nv l,Iv 0,.string<|pn c,.slice a.1 ps.length a.2] 171 (0,0))):
 JS w' (g.add n (some (c,ps)) 0 a l<|.aJ c<|ps.map g.V) s:=by
 refine h.ab2 hw hn hc hl hp (hr.imp id λ⟨gg,q1,q2,q3,q4,q5⟩=>⟨gg,q1,λz=>?_,q4,q5⟩) hh;obtain z|z:=List.mem_cons.1 z
 .exact q3 z
 .have:=h.lt z;omega
end
def f_.K(g:f_)(P:Nat->Prop)n:=n∈g.ds/\∀x,Hd g.nx n x->P x
open Classical in
noncomputable def f_.cut (g:f_) (P:Nat->Prop):f_:=⟨g.ds.filter λn=>decide (g.K P n),λn=>if g.K P n then g.str n else none,λn=>if g.K P n then g.nx n else none,g.vr,g.ly,g.lv,λn=>if g.K P n then g.V n else .var (g.vr n)⟩
section
variable {g:f_} {s:qu}
def cS:n∈(g.cut P).ds↔g.K P n:=by
 simp only[f_.cut,List.mem_filter,decide_eq_true_eq];exact⟨λq=>q.2,λq=>⟨q.1,q⟩⟩
def bI(h:g.K P n):(g.cut P).str n=g.str n/\(g.cut P).nx n=g.nx n/\(g.cut P).V n=g.V n:=by simp[f_.cut,h]
def wL(h:¬g.K P n):(g.cut P).str n=none/\(g.cut P).nx n=none/\(g.cut P).V n=.var (g.vr n):=by simp[f_.cut,h]
def aex(hg:GL w g.ds g.str g.nx g.vr g.ly g.lv)(hn:n∈g.ds)(e:g.nx n=some m):g.K P n↔g.K P m:=
 ⟨λq=>⟨(hg.nd n hn).2.2 m e,λx k=>q.2 x<|.step e k⟩,λq=>⟨hn,λx k=>q.2 x<|k.tU e⟩⟩
def adz(hg:GL w g.ds g.str g.nx g.vr g.ly g.lv)(k:Hd g.nx n x)(hn:g.K P n):Hd (g.cut P).nx n x/\g.K P x:=by
 induction k with
 |here e=>exact⟨.here<|by rw[(bI hn).2.1,e],hn⟩|step e k ih=>
  have⟨h1,h2⟩:=ih<|(aex hg hn.1 e).1 hn;exact⟨.step (by rw[(bI hn).2.1,e]) h1,h2⟩
def ag_(hg:GL w g.ds g.str g.nx g.vr g.ly g.lv)(hn:g.K P n)(k:Hd (g.cut P).nx n x):Hd g.nx n x:=by
 have⟨y,hy⟩:=hg.hd n hn.1;rw[k.one (adz hg hy hn).1];exact hy
def Ii(hg:GL w g.ds g.str g.nx g.vr g.ly g.lv)(j:JG g.ds g.str g.nx g.vr)(hP:ScD g.str g.ds g.nx P)(hn:g.K P n)(hs:g.str n=some (c,l))(hp:p∈l):g.K P p:=by
 have⟨x,hx⟩:=hg.hd n hn.1;have⟨l',h1,h2⟩:=Py j hx hs;refine⟨j.Xa n c l hn.1 hs p hp,λy hy=>?_⟩;have:∀{l l':List Nat},cU (oo g.nx) l l'->p∈l->∃q,q∈l'/\oo g.nx p q:=by
  intro l l' a
  induction a with
  |nil=>simp|cons e _ ih=>
   intro hp;obtain rfl|hp:=List.mem_cons.1 hp
   .grind
   .grind
 have⟨q,hq,e⟩:=this h2 hp;have hy':Hd g.nx q y:=by
  obtain rfl|⟨z,z1,z2⟩:=e
  .exact hy
  .rw[hy.one z1];exact z2
 exact hP x (j.kK n x hn.1 hx) hx.head (hn.2 x hx) c l' h1 q hq y hy'
def JS.cut(hg:GL w g.ds g.str g.nx g.vr g.ly g.lv)(mY:sP g.str g.nx [])(inj:∀a b,a∈g.ds->b∈g.ds->g.str a=none->g.str b=none->g.vr a=g.vr b->a=b)(can:Can g.str g.nx g.vr g.V)(val:∀n,n∈g.ds->g.str n=none->g.V n=s.k (g.vr n))(use:∀n,n∈g.ds->g.str n=none->s.u (g.vr n))(ok:In.Ok s)(hP:ScD g.str g.ds g.nx P)(lc:∀a,a∈g.ds->g.nx a=none->P a->∀c l,g.str a=some (c,l)->∀p,p∈l->∀h,Hd g.nx p h->g.lv h<=g.lv a):JS w (g.cut P) s:=by
 have j:=hg.jg mY inj;refine⟨⟨λn hn=>?_,λn hn=>?_,λn hn=>?_⟩,λE hE n m c l e hs=>?_,λa b ha hb sa sb e=>?_,λn x k=>?_,λa ha hn c l hs p hp x hx=>?_,λn hn hs=>?_,λn hn hs=>?_,ok⟩
 .have hn:=cS.1 hn;have⟨q1,q2,q3⟩:=hg.nd n hn.1;refine⟨by rw[(bI hn).1,(bI hn).2.1];exact q1,?_,λm e=>cS.2<|(aex hg hn.1 (by rw[<-(bI hn).2.1];exact e)).1 hn⟩;rw[(bI hn).1]
  cases e:g.str n with
  |none=>trivial|some q=>
   obtain⟨c,l⟩:=q;rw[e]at q2;obtain⟨r1,r2,r3,r4⟩:=q2;exact⟨r1,r2,λm hm=>cS.2<|Ii hg j hP hn e hm,r4.imp id λ⟨gg,z1,z2,z3,z4⟩=>⟨gg,z1,λz=>z2 (cS.1 z).1,z3,z4⟩⟩
 .have hn:¬g.K P n:=λq=>hn<|cS.2 q;exact⟨(wL hn).2.1,(wL hn).1⟩
 .have hn:=cS.1 hn;have⟨x,hx⟩:=hg.hd n hn.1;exact⟨x,(adz hg hx hn).1⟩
 .have hn:=qm λq=>by rw[(wL q).2.1]at e;cases e
  rw[(bI hn).2.1]at e;rw[(bI hn).1]at hs;have hm:=(aex hg hn.1 e).1 hn;have hE':Un.Eq g.nx [] (λa b=>(g.K P a↔g.K P b)/\(g.K P a->E a b)):=by
   refine⟨λa=>⟨Iff.rfl,λ_=>hE.refl a⟩,λa b q=>⟨q.1.symm,λz=>hE.symm _ _<|q.2<|q.1.2 z⟩,λa b d q r=>⟨q.1.trans r.1,λz=>hE.trans _ _ _ (q.2 z)<|r.2<|q.1.1 z⟩,λa b q=>?_,λa b q=>by simp at q⟩;have ha:=qm λz=>by rw[(hg.out a z).1]at q;cases q
   exact⟨aex hg ha q,λz=>hE.bu a b (by rw[(bI z).2.1];exact q)⟩
  have⟨l',h1,h2⟩:=mY _ hE' n m c l e hs;refine⟨l',by rw[(bI hm).1];exact h1,?_⟩;have:∀{l l':List Nat},cU (λa b=>(g.K P a↔g.K P b)/\(g.K P a->E a b)) l l'->(∀p,p∈l->g.K P p)->cU E l l':=by
   intro l l' a
   induction a with
   |nil=>exact λ_=>.nil|cons e _ ih=>exact λh=>.cons (e.2<|h _ ag) (ih λp hp=>h p<|by simp[hp])
  exact this h2 λp hp=>Ii hg j hP hn hs hp
 .have ha:=cS.1 ha;have hb:=cS.1 hb;rw[(bI ha).1]at sa;rw[(bI hb).1]at sb;exact inj a b ha.1 hb.1 sa sb e
 .by_cases hn:g.K P n
  .have k':=ag_ hg hn k;have hx:=(adz hg k' hn).2;rw[(bI hn).2.2,(bI hx).1,can n x k']
   cases e:g.str x with
   |none=>rfl|some q=>
    obtain⟨c,l⟩:=q;show qt c (l.map g.V)=.aJ c (l.map (g.cut P).V);rw[dG λp hp=>(bI<|Ii hg j hP hx e hp).2.2]
  .rw[k.one<|.here (wL hn).2.1,(wL hn).2.2,(wL hn).1];rfl
 .have ha:=cS.1 ha;rw[(bI ha).1]at hs;rw[(bI ha).2.1]at hn;exact lc a ha.1 hn (ha.2 a<|.here hn) c l hs p hp x<|ag_ hg (Ii hg j hP ha hs hp) hx
 .have hn:=cS.1 hn;rw[(bI hn).1]at hs;rw[(bI hn).2.2];exact val n hn.1 hs
 .have hn:=cS.1 hn;rw[(bI hn).1]at hs;exact use n hn.1 hs
end
end
section
open Un
def Ij k i j:Cq 22 #[ftV k i j,ftV k i j] w λe w'=>e=.returned (.bool true)/\Bq w w':=by
 rw[ftV];have h0:(k==k)=true:=ag;have h1:(i==i)=true:=ag;have h2:(j==j)=true:=ag;go_enter func22,ntmps22
 go_wp2
 go_ret;exact⟨rfl,(bw _).alloc ag _⟩
end
def sE(w:World)(L:List (BA×BA))(v:Value):=∃va vc,v=.slice va L.length vc/\L.length<=vc/\(L=[]\/∃g,va=some ⟨g,0,none⟩/\g<w.heap.size/\∀i(h:i<L.length),w.cell? ⟨g,i*2,none⟩=some (.string L[i].1)/\w.cell? ⟨g,i*2+1,none⟩=some (.string L[i].2))
def sE.af{L:List (BA×BA)}{v:Value}(h:sE w L v)(k:Bq w w'):sE w' L v:=by
 obtain⟨va,vc,rfl,hc,h⟩:=h;refine⟨va,vc,rfl,hc,h.imp id ?_⟩;rintro⟨g,rfl,hg,hc⟩;refine⟨g,rfl,Nat.lt_of_lt_of_le hg k.size,λi hi=>⟨?_,?_⟩⟩
 .rw[qg (a:=⟨g,i*2,none⟩)<|k.block g hg];exact(hc i hi).1
 .rw[qg (a:=⟨g,i*2+1,none⟩)<|k.block g hg];exact(hc i hi).2
def Me{L:List (BA×BA)}{v:Value}(h1:sE w L u)(h2:sE w L v)(hl:L.length<=1000000):Cq 23 #[u,v] w λe w'=>e=.returned (.bool true)/\Bq w w':=by
 obtain⟨pa,pc,rfl,_,H1⟩:=h1;obtain⟨qa,qc,rfl,_,H2⟩:=h2;go_enter func23,ntmps23
 go_wp2
 go_loopg[5] L.length (λgk c wr=>∃j:Nat,Hid (gk=L.length-j)/\j<=L.length/\c=Nv j/\Bq w wr)
 case atStart=>exact⟨0,ai rfl,qe _,rfl,qr _ _⟩
 case round=>
  obtain⟨j,cV,hj,rfl,HB⟩:=hrel;by_cases bA:j<L.length
  .have hd:(j:Int)<(L.length:Int):=ae;obtain⟨g,rfl,hg,hc⟩:=H1.resolve_left (λe=>by simp[e]at bA);obtain⟨g',rfl,BV,hc'⟩:=H2.resolve_left (λe=>by simp[e]at bA);have a0:=(qg (a:=⟨g,j*2,none⟩)<|HB.block g hg).trans (hc j bA).1;have a1:=(qg (a:=⟨g,j*2+1,none⟩)<|HB.block g hg).trans (hc j bA).2;have b0:=(qg (a:=⟨g',j*2,none⟩)<|HB.block g' BV).trans (hc' j bA).1;have b1:=(qg (a:=⟨g',j*2+1,none⟩)<|HB.block g' BV).trans (hc' j bA).2;generalize L[j].1=x at a0 b0;generalize L[j].2=y at a1 b1;have e1:(x.toList==x.toList)=true:=ag;have e2:(y.toList==y.toList)=true:=ag
   go_wp2
   go_quiet(fail)
   go_wp2
   go_roundg(L.length-(j+1))
   case measure=>rw[uh cV];omega
   case rel=>exact⟨j+1,ai rfl,ae,i_,HB.drewN _⟩
  .have hd:decide ((j:Int)<(L.length:Int))=false:=bD
   go_wp2
   go_ret;exact⟨rfl,HB⟩
def Mf:Cq 24 #[.slice none 0 0,.slice none 0 0] w λe w'=>e=.returned (.bool true)/\Bq w w':=by
 go_enter func24,ntmps24
 go_wp2
 go_loopg[5] 0 (λgk c wr=>c=Iv 0/\Bq w wr)
 case atStart=>exact⟨rfl,qr _ _⟩
 case round=>
  obtain⟨rfl,hb⟩:=hrel
  go_wp2
  go_ret;exact⟨rfl,hb⟩
def rpt(k i j:Int)(l r:BA)(u:Value):Value:=.agg #[Iv k,Iv i,Iv j,.string l,.string r,u,.slice none 0 0]
def uR{k i j}{l r}{L:List (BA×BA)}{v:Value}(h1:sE w L u)(h2:sE w L v)(hl:L.length<=1000000):Cq 11 #[rpt k i j l r u,rpt k i j l r v] w λe w'=>e=.returned (.bool true)/\Bq w w':=by
 have H1:=ai h1;have H2:=ai h2;obtain⟨pa,pc,rfl,-⟩:=h1;obtain⟨qa,qc,rfl,-⟩:=h2;have e1:(l.toList==l.toList)=true:=ag;have e2:(r.toList==r.toList)=true:=ag;unfold rpt;have k2:Bq w ((w.alloc<|Cv #[Iv k,Iv i,Iv j,Sv l,Sv r,Lv pa L.length pc,Lv none 0 0] 35).alloc<|Cv #[Iv k,Iv i,Iv j,Sv l,Sv r,Lv qa L.length qc,Lv none 0 0] 35):=(bw _).alloc ag _;obtain⟨W,HW⟩:∃W,W=((w.alloc<|Cv #[Iv k,Iv i,Iv j,Sv l,Sv r,Lv pa L.length pc,Lv none 0 0] 35).alloc<|Cv #[Iv k,Iv i,Iv j,Sv l,Sv r,Lv qa L.length qc,Lv none 0 0] 35):=⟨_,rfl⟩;have A0:Bx W w.heap.size #[Iv k,Iv i,Iv j,Sv l,Sv r,Lv pa L.length pc,Lv none 0 0]:=(by rw[HW];exact(Bx.new w _ _).alloc _);have A1:Bx W (w.heap.size+1) #[Iv k,Iv i,Iv j,Sv l,Sv r,Lv qa L.length qc,Lv none 0 0]:=(by rw[HW];have:=Bx.new (w.alloc<|Cv #[Iv k,Iv i,Iv j,Sv l,Sv r,Lv pa L.length pc,Lv none 0 0] 35) #[Iv k,Iv i,Iv j,Sv l,Sv r,Lv qa L.length qc,Lv none 0 0] 35;simpa using this);rw[<-HW]at k2;have K2:=ai k2;have HF:=Ij (w:=W) k i j;simp only[ftV]at HF;go_enter func11,ntmps11;go_wp2_with fail;rw[<-HW];refine HF.mono ?_;rintro e w1⟨rfl,bZ⟩;have K3:=K2.trans<|bZ.mono K2.size;have B0:=ai<|A0.below bZ;have B1:=ai<|A1.below bZ;have HC:=Me (H1.af K3) (H2.af K3) hl;have⟨c1,f1,z1⟩:=uh B0;have⟨c2,f2,z2⟩:=uh B1;go_wp2_with fail;refine HC.mono ?_;rintro e w2⟨rfl,gd⟩;have K4:=K3.trans<|gd.mono K3.size
 have C0:=ai<|B0.below gd;have C1:=ai<|B1.below gd;have⟨c1,f1,z1⟩:=uh C0;have⟨c2,f2,z2⟩:=uh C1;go_wp2_with fail;refine Mf.mono ?_;rintro e w3⟨rfl,ox⟩;have K5:=K4.trans<|ox.mono K4.size;have D0:=C0.below ox;have D1:=C1.below ox;obtain⟨c1,f1,z1⟩:=D0;obtain⟨c2,f2,z2⟩:=D1
 go_wp2
 go_ret;exact⟨rfl,K5⟩
end Go.Proofs.YtlnlhlefeokfjaaGreatDoor
