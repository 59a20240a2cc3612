import Derived.Test.YtlnlhlefeokfjaaGreatDoorPBo
import Derived.Test.YtlnlhlefeokfjaaGreatDoorPXx
import Derived.Test.YtlnlhlefeokfjaaGreatDoorPXu
set_option linter.all false
set_option maxRecDepth 100000
set_option maxHeartbeats 8000000
namespace Go.Proofs.YtlnlhlefeokfjaaGreatDoor
open In renaming via->ja,St->jc,Env->jd,andM->jf,Rn->jh,dv->ji,arr->jj,inf->jk,Mks->jl,over->jm,kZ->jo,cA->jp,MM->jq,BT->jt,sW->ju,dq->jv,bN->jx,cz->jy,cH->jz,qQ->j3,mP->j5,rP->j6,Ft->j7
open _root_.List renaming take_succ_eq_append_getElem->j8,mem_cons_of_mem->j9,drop_eq_getElem_cons->qe,getElem_mem->qf,getElem_cons_zero->qg,getElem_cons_succ->qh,map_append->qi,take_length->qj,drop_zero->qk,take_append_drop->ql,mem_append_right->qm,mem_append_left->qn,mem_map_of_mem->qp,map_congr_left->qr,countP_cons->qs,mem_append->qt,map_map->qu
open Pu renaming bF->qv,Tok->qw
open Or renaming inl->qx,inr->qy
open And renaming intro->qz
open Un renaming d_->q9
open _root_.Nat renaming le_of_eq->xc,le_trans->xd,lt_of_lt_of_le->xf,succ_le_of_lt->xg,zero_le->xh,le_succ->xi
open Go.World renaming cell?_of_block->xj
open Go.ByteArray renaming toList_eq->xk
open Go.MapKept renaming heap_alloc->xm
open Go.RowKit.Below renaming refl->xn
open Fr renaming of->xo
open _root_.Array renaming getElem?_eq_getElem->xq,replicate->xt
open Go Go.RowKit Go.ChangeMaps Proofs.Tryz
variable {st:BA} {dom:BA->Prop} {e:Ending} {g g1 g2:f_} {Γ:jd} {mk:jl} {ρ bH:jh} {s s0 s1 s2:jc} {A:List (Nd×Nd)} {nl:List BA} {ds ps:List Nat} {T:List qw} {d:M Dc} {B B' D K Kb L N S b ak f gb gv h j k kb l l' m n nb Iy p rb sb sc v x:Nat} {cB vr:Nat->Nat} {ly:Nat->Option Addr×Nat} {E P Q Λ:Nat->Prop} {nd y:Nd} {κ:Type} {bm:Un.Nx} {str:Un.sN} {t:Un.Ty} {vx vy:Value} {c:WC} {V W w w' w0 w1 w2:World}
def OL(T:List qw):∀f l,aS T<|pM T f l
 |0,l=>λk h=>cW _ h|f+1,l=>λk h=>by unfold pM;rw[if_neg ae];exact cW _ h
def Bz(T:List qw):∀f l k a k',pM T f l k=.ok (a,k')->k<=k'
 |0,l,k,a,k',h=>by cases h;omega|f+1,l,k,a,k',h=>by
  unfold pM at h;split at h
  .have:=Bz T f _ _ _ _ h;omega
  .cases h;omega
def Gz(hT:0<T.length){sm}:aS T (eP T (dJ T sm) T.length []):=by
 obtain⟨L,hL⟩:∃L,T.length=L+1:=⟨T.length-1,ae⟩;rw[hL];intro k h;rw[qN];exact b8 (yd _ _ k h) λ_=>jT _ _ _ _
def yf{T:List qw}{mk:M Nd}(hm:mZ mk):∀f l k a k',eP T mk f l k=.ok (a,k')->k<=k'
 |0,l,k,a,k',h=>by cases h;omega|f+1,l,k,a,k',h=>by
  rw[qN]at h;have⟨_,k1,h1,h2⟩:=aC h;have:=hm _ _ _ h1;rw[nT]at h2;split at h2
  .have:=yf hm f _ _ _ _ h2;omega
  .cases h2;omega
def QName:EQ qw:=λ_ _ t c=>c 0=Nv t.aF/\c 1=Nv t.to/\c 2=.string (t.text.extract 1 t.text.size)/\(∃r,t.text.toList=39::r)/\t.to=t.aF+t.text.size
theorem dF:gq QName:=by grind[gq,QName]
def ace:(Tryz.prog.info? 121).map (λi=>(i.zero,i.size,i.bytes))=some (some<|.agg #[Iv 0,Iv 0,.string ⟨#[]⟩],3,32):=qkr
def PV:Tryz.prog.underlying 122=some (.slice 121):=qkr
def PD(w:World)(P:Nat->Prop):Dc->Value->Prop
 |.ty t vs ms,v=>∃(f u:Int)(vv vm:Value),v=.iface 125 (.agg #[Iv f,Iv u,Nv t.aF,Nv t.to,.string t.text,vv,vm])/\oA t.text/\t.to=t.aF+t.text.size/\RowV QName 3 w P vs vv/\ms≠[]/\RowV QMaker 6 w P ms vm|.lt r t b,v=>∃(f u:Int)(vb:Value),v=.iface 132 (.agg #[Iv f,Iv u,.bool r,Nv t.aF,Nv t.to,.string t.text,vb])/\CX t.text/\t.to=t.aF+t.text.size/\PE w P b vb
theorem PD.move{w w'}{P Q}{d}{v}(h:PD w P d v)(hs:w.heap.size<=w'.heap.size)(hb:∀b,P b->b<w.heap.size->w'.heap[b]? =w.heap[b]?)(hq:∀b,P b->b<w.heap.size->Q b):PD w' Q d v:=by
 cases d with
 |ty t vs ms=>
  obtain⟨f,u,vv,vm,h1,h2,h3,h4,h5,h6⟩:=h;exact⟨f,u,vv,vm,h1,h2,h3,h4.move dF hs hb hq,h5,h6.move cu hs hb hq⟩
 |lt r t b=>
  obtain⟨f,u,vb,h1,h2,h3,h4⟩:=h;exact⟨f,u,vb,h1,h2,h3,h4.move hs hb hq⟩
def PD.iface{d}{v}(h:PD w P d v):∃t x,v=.iface t (.agg x):=by
 cases d with
 |ty t vs ms=>obtain⟨f,u,vv,vm,h1,_⟩:=h;exact⟨_,_,h1⟩
 |lt r t b=>obtain⟨f,u,vb,h1,_⟩:=h;exact⟨_,_,h1⟩
def aeM N rb sb m s k2 nb NC w r(G:List qw->M Dc)(gk:Nat)(v:Value)(wr:World):=
 ∃(kr:Nat)(V:List qw)(f:Nat)(va:Option Addr)(vc:Nat),v=.slice va V.length vc/\cG N rb sb m s r w nb NC (aV (pM (qv s 0) f V) G) (λw'=>dh QName 121 3 w' (nb+1) va vc V) kr wr/\Hid (gk=(qv s 0).length-kr)/\k2<=kr/\V.length<=kr/\(qv s 0).length<=kr+f
section
variable {m:MV} {s:BA}
def acf{t}(h:gF t)(hk:t.kind≠6):((aA t).toList==[97,32,118,97,114,105,97,98,108,101])=(t.kind==3):=by
 obtain h'|h'|h'|h'|h'|h'|h':=h.kd
 .rw[jN h'];simp[h',xk]
 .rw[iw h'];simp[h',xk]
 .rw[iy h'];simp[h',xk]
 .rw[jO h'];simp[h',xk]
 .have:=mJ h hk (kd:=vM) aw h';rw[show vM.toList=[97,32,118,97,114,105,97,98,108,101]from toList_mk _]at this;rw[this];simp[h']
 .exact absurd h' hk
 .rw[jP h'];simp[h',xk]
def BE(h:SX w N rb sb m s k)(hs:s.size<=1000)(h3:(tk (qv s 0) k).kind=3):Cq 168 #[rp rb] w (ap (Is<|.agg #[Nv (tk (qv s 0) k).aF,Nv (tk (qv s 0) k).to,.string<|(tk (qv s 0) k).text.extract 1 (tk (qv s 0) k).text.size]) N rb sb m s (.ok ((),k+1)) w):=
 (kP h.rd hs (rD s k h.lt) h3<|eC s k h.lt).mono λ_ _ q=>q.x h ae rfl
def WB(hs:s.size<=1000)(IH:fc s n)(h:SX w N rb sb m s k)(hn:(qv s 0).length<=k+1+n):
 Cq 116 #[rp rb] w (ap PD N rb sb m s (DT (qv s 0) (bt (qv s 0) n) k) w):=by
 have Xh:=ij;have hf2:=kQ;refine cG.AK h rfl λH=>?_;go_enter func116,ntmps116;go_wp2_with fail;refine(H.re<|congrFun (mT _ _ _) _).take ?_;intro w1 H;go_wp2_with fail;refine H.call (Ev hs IH H.sx ae) ?_;intro b k2 v2 w2 H q V;obtain⟨ve,rfl,V,-⟩:=V;obtain⟨te,xe,rfl⟩:=V.iface;clear V;go_wp2_with fail;refine H.box.take ?_;intro w3 H;have⟨_,c1,f1,z1⟩:=H.p
 go_wp2
 go_region_with(go_at_call 78;refine H.drew.since ?_;intro w5 H;have⟨_,c1,f1,z1⟩:=H.p)
 all_goals(
  go_wp2
  go_ret;refine H.done ?_;rintro⟨⟨_,ve,e,A,_,C,D⟩,_⟩
  cases e
  exact⟨_,_,_,rfl,C,D,A⟩)
def PW(hs:s.size<=1000)(hT:(qv s 0).length<=1001)(h:SX w N rb sb m s k)(hn:(qv s 0).length<=k+1+n):
 Cq 115 #[rp rb] w (ap PD N rb sb m s (LS (qv s 0) (dJ (qv s 0)<|Ea s n) k) w):=by
 have Xh:=ij;have hf2:=kQ;have hT0:0<(qv s 0).length:=by have:=h.lt;omega
 have hz:=h.z;obtain⟨r,hr⟩:∃r,r=LS (Pu.bF s 0) (dJ (Pu.bF s 0)<|Ea s n) k:=⟨_,rfl⟩;rw[<-hr];refine cG.AK h hr λH=>?_;clear hr;go_enter func115,ntmps115;go_wp2_with fail;refine H.take ?_;intro w1 H;go_wp2_with fail;have lt1:=H.sx.lt;refine H.call (vU H.sx hs 2 J9<|Or.inr ⟨rfl,rfl⟩) ?_;intro t k2 v w2 H q V
 cases V
 have Ht:=ai<|Mg q lt1;have ek:=eN _ _ _ _ q;have z2:=H.ke.size;clear q;go_wp2_with fail;have H:=H.own (D:=#[Nv t.aF,Nv t.to,Sv t.text]) (t:=121);have Na:=H.sx.lt;go_loopg[5] ((qv s 0).length-k2) (λgk v wr=>aeM N rb sb m s k2 w2.heap.size #[Nv t.aF,Nv t.to,Sv t.text] w r (λvs=>aV (bz (qv s 0) kEq) λ_=>aV (eP (qv s 0) (dJ (qv s 0)<|Ea s n) (qv s 0).length []) λms=>aV (bz (qv s 0) Kx) λ_ k=>.ok (Dc.ty t vs ms,k)) gk v wr)
 case atStart=>exact⟨k2,[],(qv s 0).length,none,0,rfl,H.row dF (dh.nil _ _ _ _ _) ⟨ae,.inr ae⟩,ai rfl,br _,ag,ae⟩
 case round=>
  clear H;obtain⟨kr,V,f,va,vc,rfl,H,cV,hle,hVl,hfu⟩:=hrel;have hkr:=H.sx.lt;have ho:=eC s kr hkr;have hkv:=acf ho H.sx.ok;have⟨c,ff,z⟩:=H.sx.bx;by_cases h3:(tk (qv s 0) kr).kind=3
  .rw[h3]at hkv;obtain⟨f,rfl⟩:∃f',f=f'+1:=⟨f-1,ae⟩;have H:=H.re (g':=aV rE λ_=>aV (pM (qv s 0) f<|V++[(tk (qv s 0) kr)])<|λvs=>aV (bz (qv s 0) kEq) λ_=>aV (eP (qv s 0) (dJ (qv s 0)<|Ea s n) (qv s 0).length []) λms=>aV (bz (qv s 0) Kx) λ_ k=>.ok (Dc.ty t vs ms,k)) (by rw[aV];rw[show pM (qv s 0) (f+1) V kr=pM (qv s 0) f (V++[(tk (qv s 0) kr)]) (kr+1)from if_pos h3];rfl);have zr:=H.xz;have hrw:=H.p.block;have Hin:=ai<|qz (ho.v3 h3) (pD s kr hkr).sp;go_wp2_with fail;refine H.call (BE H.sx hs h3) ?_;intro _ _ _ w1' H q V'
   cases V'
   cases q
   clear c ff z hkv;go_wp2_with(at_builtin;go_must(refine H.append (D:=[Nv (tk (qv s 0) kr).aF,Nv (tk (qv s 0) kr).to,Sv<|(tk (qv s 0) kr).text.extract 1 (tk (qv s 0) kr).text.size]) hT dF ace PV H.p.1 (wr:=wr) zr (λb e=>(hrw b e).2) (a:=(tk (qv s 0) kr)) (c:=λj=>([Nv (tk (qv s 0) kr).aF,Nv (tk (qv s 0) kr).to,Sv<|(tk (qv s 0) kr).text.extract 1 (tk (qv s 0) kr).text.size]:List Value).getD j Zv) ⟨rfl,rfl,rfl,Hin.1,Hin.2⟩ ae ?_ ⟨ae,.inr ae,H.xz⟩;intro q3 c3 w3 H));go_roundg((qv s 0).length-(kr+1))
   case measure=>rw[uh cV];omega
   case rel=>exact⟨kr+1,V++[(tk (qv s 0) kr)],f,_,c3,ag,H,ai rfl,ae,bD,ae⟩
  .rw[show((tk (qv s 0) kr).kind==3)=false by simp[h3]]at hkv;have H:=H.re (g':=(λvs=>aV (bz (qv s 0) kEq) λ_=>aV (eP (qv s 0) (dJ (qv s 0)<|Ea s n) (qv s 0).length []) λms=>aV (bz (qv s 0) Kx) λ_ k=>.ok (Dc.ty t vs ms,k)) V) (by rw[aV];rw[show pM (qv s 0) f V kr=.ok (V,kr) by cases f with|zero=>rfl|succ f=>exact if_neg h3]);have H:=(H.add (Q:=λw'=>RowV QName 3 w' (λb=>w.heap.size<=b) V<|Lv va V.length vc) λw' a b=>(H.p.v dF).move dF a (λc p z=>b c z (by have p':w2.heap.size+1<=c:=p;omega) (by have p':w2.heap.size+1<=c:=p;omega)) λc p _=>by have p':w2.heap.size+1<=c:=p;show w.heap.size<=c;omega).imp λ_ h=>h.2;go_wp2_with fail;clear c ff z;refine H.take ?_;intro w3 H;go_wp2_with fail;refine H.call (Dd (n:=n) hs hT H.sx ae) ?_ (mv:=λ_ _ _ _ _ _ h a b c=>⟨h.1,h.2.move cu a b c⟩);intro ms k4 v4 w4 H q Y;obtain⟨va4,L4,vc4,rfl⟩:∃va L vc,v4=Lv va L vc:=by obtain⟨_,_,_,_,rfl,-⟩:=Y;exact⟨_,_,_,rfl⟩
   clear q Y;go_wp2_with fail;refine H.take ?_;intro w5 H;have⟨c1,f1,y1⟩:=H.bo ae
   go_wp2
   go_region_with(go_at_call 78;refine H.drew.since ?_;intro w6 H;have⟨c6,f6,y6⟩:=H.bo ae)
   all_goals(
    go_wp2
    go_ret;refine H.done ?_;rintro⟨X,Y⟩
    exact⟨_,_,_,_,rfl,Ht.1,Ht.2,X,Y⟩)
end
theorem tV{l:List Dc}(h:aX (tk T k) po=true\/aX (tk T k) vR=true):dx T d (f+1) l k=aV d (λx=>dx T d f<|l++[x]) k:=by grind[aX,tk,dx,aV]
def DU{l:List Dc}(h:aX (tk T k) po=false)(h':aX (tk T k) vR=false):dx T d f l k=.ok (l,k):=by
 cases f with
 |zero=>rfl|succ f=>unfold dx;rw[h,h'];rfl
def yg(T:List qw)(d:M Dc):∀f l,aS T<|dx T d f l
 |0,l=>λk h=>cW _ h|f+1,l=>λk h=>by unfold dx;rw[eE h,eE h,if_neg ag];exact cW _ h
theorem acg{mk}(hm:mZ mk):mZ (LS T mk):=λk a k' h=>by
 rw[LS]at h;have⟨_,k1,h1,h2⟩:=aC h;have⟨_,k2,h3,h4⟩:=aC h2;have⟨_,k3,h5,h6⟩:=aC h4;have⟨_,k4,h7,h8⟩:=aC h6;have⟨_,k5,h9,h10⟩:=aC h8;have⟨_,k6,h11,h12⟩:=aC h10
 cases h12
 have:=bB _ _ _ _ h1;have:=eN _ _ _ _ h3;have:=Bz _ _ _ _ _ _ h5;have:=bB _ _ _ _ h7;have:=yf hm _ _ _ _ _ h9;have:=bB _ _ _ _ h11;omega
theorem ach{e}(hm:mZ e):mZ (DT T e):=λk a k' h=>by
 rw[DT]at h;have⟨_,k1,h1,h2⟩:=aC h;have⟨_,k2,h3,h4⟩:=aC h2
 cases h4
 have:=Et hm _ _ _ h1;have:=bB _ _ _ _ h3;omega
theorem aci(T:List qw)n:mZ (eZ T n):=by grind[mZ,eZ,acg,wM,cE,dc,ach,kR]
def QD:EQ Dc:=λw P d c=>PD w P d<|c 0
theorem bT:gq QD:=by grind[gq,QD,PD.move]
def acj:(Tryz.prog.info? 117).map (λi=>(i.zero,i.size,i.bytes))=some (some .nilIface,1,16):=qkr
def PX:Tryz.prog.underlying 49=some (.slice 117):=qkr
def aeN w:(zeroValue 243).run Tryz.prog w=.ok .nilFunc w:=qkr
def ain w P l v:=RowV QD 1 w P l v
section
variable {m:MV} {s:BA}
def SX.decl(h:SX w N rb sb m s k)(hb:m.a=Mv b):MS Value.string w b (Kf rb):=by
 have⟨b',e,_,_,hM⟩:=h.ev.mp.d;rw[hb]at e
 cases e
 exact hM
def SX.ma(h:SX w N rb sb m s k):∃b,m.a=Mv b:=by
 have⟨b',e,_,_,hM⟩:=h.ev.mp.d;exact⟨b',e⟩
def PY(hs:s.size<=1000)(hT:(qv s 0).length<=1001)(h:SX w N rb sb m s k)(hn:(qv s 0).length<=k+1+n)(hmd:m.a=Mv b):
 Cq 84 #[rp rb,Mv b] w (ap ain N rb sb m s (dx (qv s 0) (eZ (qv s 0) n) (qv s 0).length [] k) w):=by
 obtain⟨r,hr⟩:∃r,r=dx (Pu.bF s 0) (eZ (Pu.bF s 0) n) (Pu.bF s 0).length [] k:=⟨_,rfl⟩;rw[<-hr];have H:=cG.at h hr;clear h hr;go_enter func84,ntmps84
 go_wp2
 go_loopg[5] ((qv s 0).length-k) (λgk v wr=>GD (λ_=>True) QD 117 1 N rb sb m s k w r (λf L _=>dx (qv s 0) (eZ (qv s 0) n) f L) gk v wr)
 case atStart=>exact⟨k,[],(qv s 0).length,none,0,0,rfl,trivial,H.row bT (dh.nil _ _ _ _ _) ⟨br _,.inl rfl⟩,ai rfl,br _,ag,ae⟩
 case round=>
  clear H;obtain⟨kr,L,f,va,vc,_,rfl,-,H,cV,hle,hLl,hfu⟩:=hrel;have hM:=H.sx.decl hmd;have hl:=eG hM Tryz.underlying205 (aeN wr)<|aA<|tk (qv s 0) kr;have hkr:=H.sx.lt;have zw:=H.ke.size;have hrw:=H.p.block;have⟨c,ff,z⟩:=H.sx.bx;have Y:(aX (tk (qv s 0) kr) po=false/\aX (tk (qv s 0) kr) vR=false)\/∃F,(∀args w,(callFunc F args).run Tryz.prog w=.ok (.enter F args) w)/\a_ (aA<|tk (qv s 0) kr) (Kf rb)=some (pA F rb)/\Cq F #[rp rb] wr (ap PD N rb sb m s ((eZ (qv s 0) n) kr) wr)/\(aX (tk (qv s 0) kr) po=true\/aX (tk (qv s 0) kr) vR=true):=by
   cases n0:aX (tk (qv s 0) kr) po
   .cases n1:aX (tk (qv s 0) kr) vR
    .exact .inl ⟨rfl,rfl⟩
    .exact .inr ⟨116,λ_ _=>qkr,by rw[gG n1];rfl,by rw[show(eZ (qv s 0) n) kr=_ from if_neg (by simp[n0])];exact WB hs (abJ hs hT n) H.sx ae,.inr rfl⟩
   .exact .inr ⟨115,λ_ _=>qkr,by rw[gG n0];rfl,by rw[show(eZ (qv s 0) n) kr=_ from if_pos n0];exact PW hs hT H.sx ae,.inl rfl⟩
  obtain⟨n0,n1⟩|⟨F,hcf,hg,HC,hb⟩:=Y
  .have H:=H.re (g':=λk=>.ok (L,k))<|DU n0 n1;simp only[uL (L:=Kf rb) (eC s kr hkr) H.sx.ok (by simp[n0,n1];decide),lH]at hl
   go_wp2
   go_ret;exact H.done λR=>R.v bT
  .obtain⟨f,rfl⟩:∃f',f=f'+1:=⟨f-1,ae⟩;have H:=H.re<|tV hb;simp only[hg,lH]at hl;clear hg hb;go_wp2_with fail;refine H.call HC ?_ (st:=λa=>yg _ _ _ _);intro a k2 v w1 H q V;obtain⟨tv,xv,rfl⟩:=V.iface;have l2:=aci _ _ _ _ _ q;clear HC c ff z hl hM q;go_wp2_with(at_builtin;go_must(refine H.append (D:=[Fv tv<|Av xv]) hT bT acj PX H.p.1 zw (λb e=>(hrw b e).2) (c:=λ_=>Fv tv<|Av xv) V ae ?_;intro q3 c3 w3 H));go_roundg((qv s 0).length-k2)
   case measure=>rw[uh cV];omega
   case rel=>exact⟨k2,L++[a],f,_,c3,0,ag,trivial,H,ai rfl,ae,bD,ae⟩
def akM w P l(v:Value):=∃u,v=.agg #[u]/\RowV QD 1 w P l u
def WD(hs:s.size<=1000)(hT:(qv s 0).length<=1001)(h:SX w N rb sb m s k)(hn:(qv s 0).length<=k+1+n):
 Cq 69 #[rp rb] w (ap akM N rb sb m s (dx (qv s 0) (eZ (qv s 0) n) (qv s 0).length [] k) w):=by
 obtain⟨b,hma⟩:=h.ma;have hz:=h.z;have hNw:=h.ev.hN;have⟨b0,B0⟩:=oF w #[.slice none 0 0] 51;have HC:=PY (n:=n) hs hT (h.af b0) hn hma;obtain⟨c,f,z⟩:=(h.af b0).bx;go_enter func69,ntmps69;go_wp2_with fail;refine HC.mono ?_;intro e w1 hp
 cases hA:fin (qv s 0) (dx (qv s 0) (eZ (qv s 0) n) (qv s 0).length [] k)with
 |error f=>
  obtain⟨rfl,hb⟩:=hp.bad hA;exact⟨rfl,ap.fail ((Ke.of b0).trans hb) hA⟩
 |ok rr=>
 obtain⟨l,k1⟩:=rr;obtain⟨v,rfl,hb,S1,hR⟩:=hp.ok hA;have RV:=(RowV.move hR bT (br _) (λ_ _ _=>rfl)<|λb p _=>by simpa using p);obtain⟨va,vc,cs,rfl,_,_⟩:=hR;have B1:=ai (B0.Gq hb<|by omega);have K1:=(Ke.of b0).trans hb;have HE:=ai (r9 hA).1;obtain⟨c,f,z⟩:=uh B1;go_wp2_with fail;obtain⟨cF,fF,zF⟩:=B1.aT 0 (.slice va l.length vc) #[.slice va l.length vc] rfl (by simp);exact bodyPost_ret (v:=.agg #[.slice va l.length vc]) (by simp[results,Tryz.results69,go_sem,cF]) rfl (ap.done HE (K1.py (br _) 0 _) (S1.set (b:=w.heap.size) hNw 0 _) ⟨_,rfl,(RV.u_ bT (b:=w.heap.size) (λc p=>by have p':w.heap.size+1<=c:=p;omega) 0 _).move bT (br _) (λ_ _ _=>rfl) (λb p _=>by have p':w.heap.size+1<=b:=p;show w.heap.size<=b;omega)⟩)
end
section
open Go.MapKept Un
section
variable {cnt:Nat} {g:jd}
def WI w C1 C2 v wc:=∃p,v=Pv p/\w.heap.size<p/\Bx wc w.heap.size C1/\Bx wc p C2/\Bq w wc
theorem WI.a w C1 C2 t1 t2:WI w C1 C2 (Pv<|w.heap.size+1) ((w.alloc<|.cells C1 t1).alloc<|.cells C2 t2).drew:=by
 have⟨p,q,h1,h2,h3,h4,h5,h6,h7⟩:=rG.a w C1 C2 t1 t2;injection h1 with h1;injection h1 with h1;injection h1 with h1;injection h2 with h2;injection h2 with h2;injection h2 with h2;subst h1 h2;exact⟨_,rfl,Nat.lt_succ_self _,h5,h6,h7⟩
def af7{R}{ab}(hs:fC w (qS c gv) ab (λv=>(R v).map Ty.var))(oj:qS c gv ab){v}(ht:cX w P t v)(hz:size t<=1000)(Iw:Whole t)(hcb:c.cb<w.heap.size)(hgv:gv<w.heap.size):
 Cq 242 #[Mv ab,v] w (λe w'=>∃tr xr,e=.returned (.iface tr xr)/\TW w' (qS c gv) 1100 (sub (ja R) t) (.iface tr xr)/\Bq w w'):=by
 have ev:EV (λv=>(R v).map Ty.var)=ja R:=by
  funext v;show((R v).map Ty.var).getD (.var v)=_;rw[ja]
  cases R v<;>rfl
 have Jj:=IP hs oj ht ae (by rw[ev,iE];omega);rw[ev]at Jj;refine Jj.mono ?_;rintro e w'⟨u,rfl,MX,hk⟩;obtain⟨tr,xr,rfl⟩:=MX.iface;have hw':=p8 R _ Iw;refine⟨tr,xr,rfl,⟨⟨_,MX.wide λi p=>by obtain p|p:=p;exact p;exact⟨ae,ae⟩,(dO.refl _).cut hw',?_⟩,hw'⟩,hk⟩;have hlq:(vars []<|sub (ja R) t).length<=1000:=by
  rw[cC];have h2:=cY (occs<|sub (ja R) t) [];have h3:=cZ<|sub (ja R) t;rw[iE]at h3;simp only[qP]at h2;omega
 have:=fD hw' hlq ae;omega
def akN c gv cnt(s:jc)w(R:jh)(p:jq (Ty×jd))Λ tk m L C1 C2 pb ab gk v1 v31 wr:=
 ∃j cj sj kj g D,Hid (gk=L.length-j)/\j<=L.length/\v1=Mv kj/\v31=Nv j/\MdS c gv cnt s w R p Λ tk m L j wr cj sj kj g D/\Bx wr w.heap.size C1/\Bx wr pb C2/\fC wr (qS c gv) ab (λv=>(R v).map Ty.var)
def BG tk m i(h:i<tk.length):size tk[i]<=size (jj tk m)/\(Whole (jj tk m)->Whole tk[i])/\∀v,aB v tk[i]->aB v (jj tk m):=by
 induction tk generalizing i with
 |nil=>simp at h|cons t tk ih=>
  have e:jj (t::tk) m=In.l9 t (jj tk m):=rfl;rw[e]
  cases i with
  |zero=>
   refine⟨by simp only[qg,size,ah];omega,λq=>q.2.1,λv q=>?_⟩;simp only[aB,bX,or_false];exact qx q
  |succ i=>
   have⟨h1,h2,h3⟩:=ih i Fe;refine⟨by simp only[qh,size,ah];omega,λq=>h2 q.2.2.1,λv q=>?_⟩;simp only[aB,bX,or_false];exact qy<|h3 v q
def ack tk m:Whole (jj tk m)->Whole m:=by
 induction tk with
 |nil=>exact id|cons t tk ih=>exact λq=>ih q.2.2.1
def Ud{p:Prop}(h:p:=by
 rw[cC];have h2:=cY (occs m) [];have h3:=cZ m;simp only[qP]at h2
 omega):p:=h
def aeO{t a y}{L}{sa}{vs:Nat->Value}(H:∀i(h:i<L.length),Yf L[i])(h:PaA (.mk 2 st n L f t a) c w cnt s kb Λ g gv Q (.iface 313<|.agg #[Nv f,Nv t,Nv a,Nv y,.string st,.slice sa L.length sc]))(aN:L=[]\/∃g,sa=some ⟨g,0,none⟩/\Q g/\g<w.heap.size/\∀i,i<L.length->w.cell? ⟨g,i,none⟩=some (vs i))(hr:∀i(h:i<L.length),PP w Q L[i]<|vs i):
 Cq 288 #[Pv c.eb,Mv kb,Mv gv,.agg #[Nv f,Nv t,Nv a,Nv y,.string st,.slice sa L.length sc]] w (ed c gv (1100*nn (.mk 2 st n L f t a)) (1000*nn (.mk 2 st n L f t a)) (ji c.mks (.mk 2 st n L f t a) g) s cnt w):=by
 have en:nn (.mk 2 st n L f t a)=1+bV L:=by simp[nn]
 obtain⟨tk,m,hx,hl,hsc⟩:∃tk m,c.mks st=some (tk,m)/\L.length=tk.length/\∀i(h:i<L.length),rf c.mks c.nl L[i]:=by
  cases h.sc with
  |up _ _ _ _ _ _ tk m hx hl hr=>exact⟨tk,m,hx,hl,hr⟩|leaf _ _ _ _ _ _ hk=>omega
 obtain⟨p,hp⟩:∃p,p=ji c.mks (.mk 2 st n L f t a) g:=⟨_,rfl⟩;have mh:=hp;rw[zY hx]at mh;rw[<-hp,en];have W8:=h.ft.a;have ftb:=h.ft.b;rw[en]at W8 ftb;have fK:=h.mf.sz st tk m hx;have Iw:=h.mf.wh st tk m hx;have hvs:=h.mf.vs st tk m hx;have has:=tw tk m;have zP:(vars [] m).length<=size m:=by
  exact Ud
 obtain⟨R,hR⟩:∃R,R=rl cnt (vars [] m):=⟨_,rfl⟩;have MR:MdR c cnt tk m R:=⟨hR,λi hi v o=>hvs v<|(BG tk m i hi).2.2 v o⟩;have hta:∀i(h:i<tk.length),size tk[i]<=1000/\Whole tk[i]:=λi hi=>⟨Nat.le_trans (BG tk m i hi).1 fK,(BG tk m i hi).2.1 Iw⟩;have hwm:=ack tk m Iw;have k0:Bq w (w.alloc<|Cv #[Nv f,Nv t,Nv a,Nv y,Sv st,Lv sa L.length sc] 313):=bw _;have⟨v,hv,Ds⟩:=h.we.ms.look hx;obtain⟨ma,mc,ta,xa,rfl,hmr,iZ⟩:=hv;have zc:=h.we.di;have lg:=h.e.lt;have lgl:=h.l;have⟨l1,l2,l3,l4,l5⟩:=h.we.l;have⟨d1,d2,d3⟩:=h.we.d;have aeP:=Ds (w.alloc<|Cv #[Nv f,Nv t,Nv a,Nv y,Sv st,Lv sa L.length sc] 313).drew<|k0.drew.block c.mb ae;have k00:Bq w ((w.alloc<|Cv #[Nv f,Nv t,Nv a,Nv y,Sv st,Lv sa L.length sc] 313).alloc<|Cv #[Lv none 0 0,Zv] 396):=k0.alloc k0.size _;have aeQ:=Ds _<|k00.drew.block c.mb ae;have⟨e1,e2,e3⟩:=h.we.bx;have am6:size m<=1000:=ae;have hln:L.length<=1000:=ae;clear k00;have HA:=ai h;have HL:=ai hl;have HM:=ai<|And.intro hmr iZ;have HT:=ai hta;have HS:=ai hsc;have HP':=ai mh;have MR':=ai MR;clear h Ds hmr iZ hta hsc k0 hp mh hvs Iw fK MR hl;go_enter func288,ntmps288;go_wp2_with fail;go_cut[10]from 16 (λv1 wc=>WI w #[Nv f,Nv t,Nv a,Nv y,Sv st,Lv sa L.length sc] #[Lv ma tk.length mc,Fv ta xa] v1 wc)
 case first=>
  go_region
  all_goals(
   go_wp2_with fail
   go_meet
   case rel=>exact WI.a w _ _ _ _)
 case rest=>
  obtain⟨pb,rfl,zp,X1,X2,kc⟩:=hcut;clear aeP aeQ e1 e2 e3;have h:=uh HA;have HRN:=DA (h.we.af kc) ((HM.2.w.af kc)) ae ae;obtain⟨x1,x2,x3⟩:=X2;have X1':=ai X1;have X2':=show Bx wc pb #[Lv ma tk.length mc,Fv ta xa]from⟨x1,x2,x3⟩;have KC:=ai kc;clear X1 kc h;go_wp2_with fail;refine HRN.mono ?_;rintro e w2⟨ab,rfl,oj,hw2,rY,F2⟩;clear HRN x1 x2 x3;have h:=uh HA;have zkc:=KC.size;have F02:Fr (λi=>i=c.cb\/i=gv) w w2:=((xo KC).trans F2).gh λ_ q=>qx q;have FB:=(xo (S:=λi=>i=c.cb) KC).trans F2;have X1:=X1'.fr F2 ae;have X2:=X2'.fr F2 ae;rw[<-hR]at rY;have SB:fC w2 (qS c gv) ab (λv=>(R v).map Ty.var):=rY.bare;have M0':MdS c gv cnt s w R p Λ tk m L 0 w2 (cnt+(vars [] m).length) s kb g (λ_=>False):=by
   have k2:=h.wk.fr F02;refine⟨F02,hw2,⟨k2.k,k2.n,λn q=>by have:=k2.u n q;unfold us at*;omega,k2.ok,k2.wh⟩,h.hn,h.e.move F02.size (FB.block _ h.e.lt ae) (λb p z=>FB.block b z p.1)<|λ_ p _=>p,h.i,by rw[zV];exact In.iF.zero Λ s,λv n _ q z=>?_,λn q=>qx q,br _,by rw[qk];omega,λo ho=>by rw[zV]at ho;rw[uh HP'];exact ho⟩;have:=MR'.num q;have:=h.wk.u n z;rw[us]at this;omega
  have SB':=ai SB;have T1:=ai X1;have T2:=ai X2;obtain⟨y1,y2,y3⟩:=X1;clear h hw2 rY F2 F02 FB X2 SB X1' X2' KC
  go_wp2
  go_loopg[1,31] L.length (λgk v1 v31 wr=>akN c gv cnt s w R p Λ tk m L #[Nv f,Nv t,Nv a,Nv y,Sv st,Lv sa L.length sc] #[Lv ma tk.length mc,Fv ta xa] pb ab gk v1 v31 wr)
  case atStart=>exact⟨0,_,_,_,_,_,ai ag,xh _,rfl,rfl,M0',T1,T2,SB'⟩
  case round=>
   clear M0' SB' T1 T2 y1 y2 y3;obtain⟨j,cj,sj,kj,gj,D,cV,hj,rfl,rfl,MS,X1,X2,SB2⟩:=hrel;have h:=uh HA;have zcr:=MS.we.di;have lgr:=MS.e.lt;have zab:=SB2.lt;have nab:qS c gv ab:=⟨ae,ae⟩;by_cases bh:j<L.length
   .have bA:(j:Int)<(L.length:Int):=ae;have Jl:(0:Int)<=(j:Int):=ae;have hjt:j<tk.length:=by have:=uh HL;omega
    have agF:(j:Int)<(tk.length:Int):=ae;obtain⟨gg,rfl,hQ,hz,bQ⟩:=aN.resolve_left<|λe=>qBs;have PZ:=hr j bh;have cg:=(xj (a:=⟨gg,j,none⟩)<|MS.F.block gg hz λq=>q.elim (h.hq gg hQ).1 (h.hq gg hQ).2).trans<|bQ j bh;have⟨tx,ax,evs⟩:=PZ.iface;rw[evs]at cg PZ;have UR:=PZ.place;dsimp only[PlF]at UR;have hdn:bV (L.drop j)=nn L[j]+bV (L.drop<|j+1):=by rw[qe bh];rfl
    have mc2:=MS.c2;have mc1:=MS.c1;have hnj:nn L[j]<=bV L:=by
     have:bV (L.take j)+bV (L.drop j)=bV L:=by rw[<-SW,ql]
     omega
    have H1:=H j bh c wr cj sj kj Λ gj gv Q _ ⟨MS.we,MS.wk,MS.n,MS.e,MS.i,h.l,PZ.move MS.F.size (λb p z=>MS.F.block b z λq=>q.elim (h.hq b p).1 (h.hq b p).2)<|λ_ p _=>p,h.hq,HS j bh,⟨ae,ae,h.ft.l⟩,h.mf⟩;obtain⟨gt,vt,rfl,pgt,zgt,hct⟩:=HM.1.resolve_left (λe=>by subst e;simp at hjt);have⟨CT,TT⟩:=hct j hjt;have⟨tb,xb,evt⟩:=TT.w.iface;rw[evt]at CT TT;have B1:=ai X1;have B2:=ai X2;have HWU:=ai h.wk.u;obtain⟨y1,y2,y3⟩:=X1;clear X2 h PZ bQ hct;go_wp2_with fail;refine H1.mono ?_;intro e w3 hp3;clear H1 y1 y2 y3 cg;obtain⟨c3,zz,vl,vr,rfl,q⟩|⟨c3,T3,g3,s3,ta3,xa3,kb3,rfl,q⟩:=hp3.split
    .have HP:=MS.no (S:=1100*(1+bV L)) (DD:=1000*(1+bV L)) HL bh (br _) q;clear hp3 q
     go_wp2
     exact⟨rfl,HP⟩
    have⟨s4,mt⟩:=MS.arg (DD:=0) MR' HL bh HWU q;have am7:=mt.c1;have am8:=mt.c2;have zmt:=mt.we.di;have zgm:=mt.e.lt;have F3:=q.F;have M6:=mt.F;have akO:=SB2.fr F3 (λr=>r.elim nab.1 nab.2)<|λb p _ r=>r.elim p.1 p.2;have ct3:=(xj (a:=⟨gt,j,none⟩)<|M6.block gt zgt (by have:=pgt;omega)).trans CT;have tt3:=TT.w.move (Q:=λ_=>True) M6.size (λb p z=>M6.block b z (by have:=p;omega))<|λ_ _ _=>trivial;have⟨ht1,ht2⟩:=uh HT j hjt;have Ad:=af7 akO nab tt3 ht1 ht2 zmt zgm;have yL:=B1.fr F3 ae;have X2:=B2.fr F3 ae;obtain⟨x1,x2,x3⟩:=X2;have Zl:=show Bx w3 pb #[Lv (some ⟨gt,0,none⟩) tk.length mc,Fv ta xa]from⟨x1,x2,x3⟩;have MT:=ai mt;have T3':=ai q.t;clear hp3 q mt F3 M6 tt3 B1 B2 SB2 MS CT TT;go_wp2_with fail;refine Ad.mono ?_;rintro e w4⟨tr,xr,rfl,U4,K4⟩;clear Ad x1 x2 x3 ct3;go_wp2_with fail;refine(dR _ _).mono ?_;rintro e w5⟨rfl,k5⟩;have K5:=K4.trans<|k5.mono K4.size;have mt:=uh MT;have HEQ:=ai7 (mt.we.af K5) (xf zgm K5.size) (mt.wk.af K5) mt.n ae (S:=1100*nn L[j]+1100) ae ((T3'.af K5).le ae) ((U4.af k5).le ae) mt.ti mt.ui (jo L[j])<|jt L[j];clear mt k5 U4;go_wp2_with fail;refine HEQ.mono ?_;intro e w6 hq6;clear HEQ;obtain hn|hq6:=hq6
    .obtain⟨fl,vl,vr,rfl,k6,z,rfl,he,hf⟩:=hn;have HP:=MT.no (S:=1100*(1+bV L)) (DD:=1000*(1+bV L)) (K5.trans<|k6.mono K5.size) (br _) he hf;clear k6 he hf
     go_wp2
     exact⟨rfl,HP⟩
    .obtain⟨b6,rfl,k6,s6,he6,kp6,wk6,hu6⟩:=hq6;have K6:=K5.trans<|k6.mono K5.size;have MS6:=MT.next K6 he6 kp6 wk6 hu6;clear k6 he6 kp6 wk6 hu6
     go_wp2
     go_roundg(L.length-(j+1))
     case measure=>rw[uh cV];omega
     case rel=>exact⟨j+1,_,_,_,_,_,ai rfl,xg bh,rfl,i_,MS6,yL.below K6,Zl.below K6,akO.af K6⟩
   .have bA:¬(j:Int)<(L.length:Int):=ae;have ej:j=L.length:=ae;subst ej;have tmm:=HM.2.w.move (Q:=λ_=>True) MS.F.size (λb p z=>MS.F.block b z (by have:=p;omega))<|λ_ _ _=>trivial;have Ad:=af7 SB2 nab tmm ae hwm zcr lgr;obtain⟨x1,x2,x3⟩:=X2;clear X1 h tmm;go_wp2_with fail;refine Ad.mono ?_;rintro e w4⟨tr,xr,rfl,hu4,k4⟩;have HD:=MS.done (DD:=1000*(1+bV L)) MR' HL k4 (br _) (hu4.le<|show 1100<=1100*(1+bV L) by omega);clear hu4 k4 Ad
    go_wp2
    go_ret2;exact HD
end
section
variable {cnt:Nat} {p:jq (Ty×jd)}
def ed.below(h:ed c gv S D p s cnt w0 e w')(hb:Bq w w0):ed c gv S D p s cnt w e w':=⟨(xo hb).trans h.1,h.2⟩
end
def akP st n f t a{L}(H:∀i(h:i<L.length),Yf L[i]):Yf (.mk 2 st n L f t a):=by
 intro c w cnt s kb Λ g gv Q v h;obtain⟨y,sa,sc,vs,rfl,aN,hr⟩:∃(y:Nat)(sa:Option Addr)(sc:Nat)(vs:Nat->Value),v=Fv 313 (Av #[Nv f,Nv t,Nv a,Nv y,Sv st,Lv sa L.length sc])/\(L=[]\/∃g,sa=some ⟨g,0,none⟩/\Q g/\g<w.heap.size/\∀i,i<L.length->w.cell? ⟨g,i,none⟩=some (vs i))/\∀i(h:i<L.length),PP w Q L[i]<|vs i:=by
  cases h.pp with
  |up _ _ _ _ _ _ y sa sc vs hu hy aN hr=>exact⟨_,sa,sc,vs,rfl,aN,hr⟩
 have k0:Bq w (w.alloc<|Cv #[Nv f,Nv t,Nv a,Nv y,Sv st,Lv sa L.length sc] 313):=bw _
 have H1:=aeO H (h.part k0 h.pp h.sc<|br _) (aN.imp id λq=>by
  obtain⟨g,q1,q2,q3,q4⟩:=q
  exact⟨g,q1,q2,xf q3 k0.size,λi hi=>(xj (a:=⟨g,i,none⟩)<|k0.block g q3).trans<|q4 i hi⟩)<|λi hi=>(hr i hi).af k0
 have K0:=ai k0;have q1:=Zd;have q2:=DR;have q3:=Rf;have q4:=Rg;go_enter func281,ntmps281;go_wp2_with fail;refine H1.mono ?_;intro e w1 hp;have mh:=hp.below K0;obtain⟨ak,zz,vl,vr,rfl,q⟩|⟨ak,T1,g1,s1,BQ,BS,jI,rfl,q⟩:=hp.split
 .have HP:=ai mh
  go_wp2
  exact⟨rfl,HP⟩
 .have HP:=ai mh
  go_wp2
  go_ret2;exact HP
def P0:∀(L:List Nd)(i:Nat)(h:i<L.length),nn L[i]<=bV L
 |x::l,0,_=>by simp only[qg,bV];omega|x::l,i+1,h=>by simp only[qh,bV];have:=P0 l i Fe;omega
def aeR:∀(k:Nat)(nd:Nd),nn nd<=k->Yf nd:=by
 intro k
 induction k with
 |zero=>intro nd h;cases nd;simp only[nn]at h;omega|succ k ih=>
  intro nd hk c w cnt s kb Λ g gv Q v h;have hp:=h.pp
  cases hp with
  |any st n f t a=>exact agv st n f t a c w cnt s kb Λ g gv Q _ h|low st n f t a=>exact agx st n f t a c w cnt s kb Λ g gv Q _ h|num st n f t a=>exact Fq (qx ⟨rfl,rfl⟩) st _ f t a c w cnt s kb Λ g gv Q _ h|word st n f t a b=>exact Fq (qy<|qx ⟨rfl,rfl⟩) st n f t a c w cnt s kb Λ g gv Q _ h|unit st n f t a=>exact Fq (qy<|qy ⟨rfl,rfl⟩) st n f t a c w cnt s kb Λ g gv Q _ h|pr st n x y f t a vx vy hx hy=>exact aja st n f t a (ih x IA) (ih y IA) c w cnt s kb Λ g gv Q _ h|up st n L f t a y sa sc vs hu hy aN hr=>exact akP st n f t a (λi hi=>ih _ (by have:=P0 L i hi;simp only[nn]at hk;omega)) c w cnt s kb Λ g gv Q _ h
def aio nd:Yf nd:=aeR _ nd<|br _
def sF(l:List BA)(g g':jd):=(∀y,g' y≠none↔g y≠none\/y∈l)/\∀y d,g' y=some d->g y=some d\/d.any=[]
def sF.refl(g:jd):sF [] g g:=⟨λy=>ag,λy d h=>qx h⟩
def sF.and{l l'}{g g1 g2:jd}(h:sF l g g1)(k:sF l' g1 g2):sF (l++l') g g2:=⟨λy=>by rw[k.1,h.1,qt,or_assoc],λy d q=>(k.2 y d q).elim (λq=>h.2 y d q) qy⟩
theorem sF.set(g:jd)s t:sF [s] g (jy g s<|In.mono t):=by
 refine⟨λy=>?_,λy d h=>?_⟩
 .rw[jy];by_cases q:y=s
  .simp[q]
  .simp[q]
 .rw[jy]at h;split at h
  .grind
  .exact qx h
def mV{α:Type}{m:jq α}:jv m s λ_ _=>True:=λ_ _ _=>trivial
def Mn(mk:jl):∀(tk:List Ty)(L:List Nd),L.length=tk.length->(∀i(h:i<L.length),∀g s,jv (ji mk L[i] g) s λq _=>sF (k_ L[i]) g q.2)->∀g ρ s,jv (In.kB tk L (In.mA mk L) g ρ) s λq _=>sF (fE L) g q.1
 |[],[],_,_,g,ρ,s=>.ret (sF.refl g)|[],_::_,h,_,_,_,_=>yl|_::_,[],h,_,_,_,_=>yl|u::tk,x::L,hl,H,g,ρ,s=>by
  refine(H 0 ag g s).and λq s1 h1=>mV.and λi s2 _=>mV.and λ_ s3 _=>?_;exact(Mn mk tk L (by simpa using hl) (λi hi=>H (i+1) bD) q.2 i.2 s3).imp λa s' h=>h1.and h
def Im{p:Prop}(h:p:=by
 simp[ji,j6]
 exact .ret<|sF.refl g):p:=h
def Io(h:rf mk nl nd):∀g s,jv (ji mk nd g) s λq _=>sF (k_ nd) g q.2:=by
 induction h with
 |leaf k st n f t a hk=>
  intro g s;have e:k_ (.mk k st n [] f t a)=[]:=by
   have:¬k=1:=ae;simp[k_,fE,this]
  rw[e];obtain rfl|rfl|rfl|rfl:=hk
  .simp only[ji,j6,if_true];exact mV.and λv s' _=>.ret<|sF.refl g
  .exact Im
  .exact Im
  .exact Im
 |low st n f t a hs=>
  intro g s;simp[ji,j6,k_];exact mV.and λv s' _=>.ret<|sF.set g st _
 |pr st n x y f t a hx hy lD rq=>
  intro g s;rw[Yh];have e:k_ (.mk 6 st n [x,y] f t a)=k_ x++k_ y:=by simp[k_,fE]
  rw[e];exact(lD g s).and λq s1 h1=>(rq q.2 s1).and λr s2 h2=>.ret<|h1.and h2
 |up st n L f t a tk m hm hl hr ih=>
  intro g s;rw[zY hm];have e:k_ (.mk 2 st n L f t a)=fE L:=by simp[k_]
  rw[e];rw[gU];rw[qk,qk];exact(Mn mk tk L hl ih g In.Cd s).and λq s1 h1=>mV.and λi s2 _=>.ret h1
def Mo{nl:List BA}:∀(L:List Nd),(∀i(h:i<L.length),∀y,y∈k_ L[i]->y∈nl)->∀y,y∈fE L->y∈nl
 |[],_,y,h=>by simp[fE]at h|x::l,H,y,h=>by
  simp only[fE,qt]at h;obtain h|h:=h
  .exact H 0 ag y h
  .exact Mo l (λi hi=>H (i+1) bD) y h
def aeS(h:rf mk nl nd):∀y,y∈k_ nd->y∈nl:=by
 induction h with
 |leaf k st n f t a hk=>intro y q;have:¬k=1:=ae
                        simp[k_,fE,this]at q
 |low st n f t a hs=>intro y q;simp[k_]at q;subst q;exact hs|pr st n x y f t a hx hy lD rq=>
  intro z q;simp[k_,fE]at q;exact q.elim (lD z)<|rq z
 |up st n L f t a tk m hm hl hr ih=>
  intro y q;have e:k_ (.mk 2 st n L f t a)=fE L:=by simp[k_]
  rw[e]at q;exact Mo L ih y q
noncomputable def mW (mk:jl) (Γ:jd) (T r:Ty) (A:List (Nd×Nd)) (j:Nat):jq Ty:=jf (In.n_ mk Γ T r (bq<|A.drop j)<|j3 mk<|bq<|A.drop j) λ_=>jz r
def P6(mk:jl)s n x A f t a(Γ:jd):jk mk (.mk 13 s n (x::bq A) f t a) Γ=jf (jk mk x Γ) λa=>jf In.jH λv=>mW mk Γ a (.var v) A 0:=by
 simp[jk,In.li,j3,In.dr,mW]
noncomputable def acm (mk:jl) (Γ:jd) (T r:Ty) (A:List (Nd×Nd)) (j:Nat) (h:j<A.length):jq Ty:=jf (ji mk A[j].1 λ_=>none) λq=>jf (ju T q.1 (jo A[j].1)<|jt A[j].1) λ_=>jf (jk mk A[j].2<|jm q.2 Γ) λu=>jf (ju r u (jo A[j].2)<|jt A[j].2) λ_=>mW mk Γ T r A<|j+1
def EG{T r:Ty}hj{o}(h:acm mk Γ T r A j hj s o):mW mk Γ T r A j s o:=by
 unfold acm mW at*;rw[qe hj];show jf (jf (ji mk A[j].1 λ_=>none) λq=>jf (ju T q.1 (jo A[j].1)<|jt A[j].1) λ_=>jf (jk mk A[j].2<|jm q.2 Γ) λu=>jf (ju r u (jo A[j].2)<|jt A[j].2) λ_=>In.n_ mk Γ T r (bq<|A.drop<|j+1)<|j3 mk<|bq<|A.drop<|j+1) (λ_=>jz r) s o;refine fH ?_;obtain⟨x,q1,rfl⟩|⟨a,s1,q1,h⟩:=h
 .exact qx ⟨x,q1,rfl⟩
 refine qy ⟨a,s1,q1,fH ?_⟩;obtain⟨x,q1,rfl⟩|⟨b,s2,q2,h⟩:=h
 .exact qx ⟨x,q1,rfl⟩
 refine qy ⟨b,s2,q2,fH ?_⟩;obtain⟨x,q1,rfl⟩|⟨b,s2,q2,h⟩:=h
 .exact qx ⟨x,q1,rfl⟩
 exact qy ⟨b,s2,q2,fH h⟩
def Mp(mk:jl)(Γ:jd)T r A(s:jc)(o:Except j7 (Ty×jc))(h:jz r s o):mW mk Γ T r A A.length s o:=by
 rw[mW];rw[List.drop_length];exact qy ⟨(),s,rfl,h⟩
section
variable {cnt:Nat} {jI:Nat} {g1:jd} {D1:Nat} {p p1 p2:jq Ty}
def Cl.imp(h:Cl c S D p s cnt w D1 p1 s1 ak w1)(k:∀o,p2 s1 o->p1 s1 o):Cl c S D p s cnt w D1 p2 s1 ak w1:=λe w' q=>h e w' (by obtain⟨a1,c',o,a2,a3,a4,a5,a6⟩:=q;exact⟨a1,c',o,a2,a3,a4,k o a5,a6⟩)
def acn(hb:Bq w w0)(hg:w.heap.size<=gv)(hf:Fr (λi=>i=c.cb\/i=gv) w0 w'):Fr (λi=>i=c.cb) w w':=⟨hf.os.trans hb.os,hf.tape.trans hb.tape,hf.output.trans hb.output,xd hb.size hf.size,λk hk hn=>(hf.block k (xf hk hb.size)<|λq=>q.elim hn ae).trans<|hb.block k hk⟩
theorem WG.over{mk:jl}{nd:Nd}{T:Ty}{Yb:Nat}(h:WG w c s Λ Γ gb)(hs:rf mk c.nl nd){s0:jc}(hm:ji mk nd (λ_=>none) s0 (.ok ((T,g1),s1)))(hi:In.bC Λ s g1)(he:bS w' (dt c) Yb (jm g1 Γ))(hn:Yb≠c.cb):WG w' c s Λ (jm g1 Γ) Yb where
 e:=he
 n:=hn
 i:=hi.over h.i
 nd y d q:=by
  have⟨_,h2⟩:=Io hs _ _ _ _ hm;rw[jm]at q;split at q
  .rename_i c' hc;injection q with q;subst q;obtain r|r:=h2 y c' hc
   .cases r
   .grind
  .exact h.nd y d q
 dm y q:=by
  have⟨h1,_⟩:=Io hs _ _ _ _ hm;rw[jm]at q;split at q
  .rename_i c' hc;rcases(h1 y).1 (by show g1 y≠none;rw[hc];simp)with r|r
   .exact absurd rfl r
   .exact aeS hs y r
  .exact h.dm y q
def Mq{T:Ty}(hs:rf mk nl nd)(hm:ji mk nd (λ_=>none) s0 (.ok ((T,g1),s1)))(hd:∀x,dom x->Γ x≠none):∀x,dom x\/x∈k_ nd->jm g1 Γ x≠none:=λx q=>by
 have⟨h1,_⟩:=Io hs _ _ _ _ hm;rw[jm];split
 .simp
 .rename_i hc;obtain q|q:=q
  .exact hd x q
  .grind
end
section
variable {n0:Nat} {M:jq Ty} {cnt0 cnt D2:Nat} {q q2:jq Ty} {P:World->jc->Prop} {post:Ending->World->Prop}
def gV.to(H:gV n0 M c w0 cnt0 s0 Λ Γ gb Q dom D q P s cnt kb w)(k:∀o,q2 s o->q s o):gV n0 M c w0 cnt0 s0 Λ Γ gb Q dom D q2 P s cnt kb w:=⟨H.wg,H.hq,H.hd,H.ft,H.mf,H.f,H.we,H.st,H.cl.imp k,H.lv,H.cn⟩
def gV.imp{P'}(H:gV n0 M c w0 cnt0 s0 Λ Γ gb Q dom D q P s cnt kb w)(k:∀w s,P w s->P' w s):gV n0 M c w0 cnt0 s0 Λ Γ gb Q dom D q P' s cnt kb w:=⟨H.wg,H.hq,H.hd,H.ft,H.mf,H.f,H.we,H.st,H.cl,λw s a b=>k _ _<|H.lv w s a b,H.cn⟩
def gV.uw{g}(H:gV n0 M c w0 cnt0 s0 Λ Γ gb Q dom D (jf (ji c.mks y λ_=>none) g) P s cnt kb w)(K:Bq w W)(E:bS W (qS c gv) gv λ_=>none)(hg:w.heap.size<=gv)(hy:PP w0 Q y vy)(sy:rf c.mks c.nl y)(ok:∀T g1 ta xa s' aE NV w',gV n0 M c w0 cnt0 s0 Λ Γ gb Q dom D2 (g (T,g1)) (λw s=>P w s/\(TW w (dt c) (1100*nn y) T (.iface ta xa)/\jp Λ s T)/\bS w (dt c) gv g1/\In.bC Λ s g1) s' aE NV w'->ji c.mks y (λ_=>none) s (.ok ((T,g1),s'))->w.heap.size<=w'.heap.size->post (.returned<|.tuple #[.iface ta xa,Mv NV]) w')(hD:D2+1000*nn y<=D)(hn:nn y<=n0)(bad:∀f l r w',bi c (1100*n0) (1000*n0) M s0 cnt0 w0 (Dx f l r) w'->post (Dx f l r) w':=by exact λ_ _ _ _ h=>⟨rfl,h⟩):
 Cq 281 #[Pv c.eb,Mv kb,Mv gv,vy] W post:=by
 have cn:=H.cn;have zc:=H.we.di;have k:=(Dz.of H.st.k hg).af K;have pp:=(hy.move (Q:=λb=>Q b/\b<w.heap.size) H.f.size (λb p z=>H.f.block b z<|H.hq b p)<|λb p z=>⟨p,xf z H.f.size⟩).af K;refine(aio y c W cnt s kb Λ (λ_=>none) gv _ _ ⟨H.we.af K,k,H.st.n,E,(λy d q=>mE),by have:=H.we.l.2.2.2.2;omega,pp,(λb q=>⟨H.hq b q.1,by have:=q.2;omega⟩),sy,H.ft.le ae hn,H.mf⟩).mono λe w' hp=>?_;obtain⟨c3,zz,vl,vr,rfl,q⟩|⟨c3,T3,g3,s3,ta3,xa3,kb3,rfl,q⟩:=hp.split
 .exact bad _ _ _ _ (H.cl _ _ ⟨acn K hg q.F,c3,.error zz,q.c1,by have:=q.c2;omega,q.we,qx ⟨zz,q.m,rfl⟩,vl,vr,rfl,q.f⟩)
 .have st:=q.step k H.st.n<|λy d q=>mE;have F:=acn (c:=c) K hg q.F;have:=q.c1;have:=q.c2;exact ok T3 g3 ta3 xa3 s3 c3 kb3 w' ⟨H.wg,H.hq,H.hd,H.ft,H.mf,H.f.trans F,q.we,H.st.and ⟨st.k.wk,st.n,st.p⟩,H.cl.and q.m F q.c1 q.u ae,λw2 s2 a b=>⟨H.lv w2 s2 (F.trans a)<|st.p.trans b,⟨(q.t.wide (Q:=dt c) λi p=>p.1).fr a<|λ_ p _=>p,st.t.run b.run⟩,(q.e.wide (Q:=dt c) λi p=>p.1).fr a ae<|λ_ p _=>p,st.i.run b.run⟩,ae⟩ q.m F.size
end
def akQ n0(M:jq Ty)c w0 cnt0 s0 Λ(Γ:jd)gb Q dom T ts xs rv nx A gk v1 v35 wr:=
 ∃j cj sj kj,Hid (gk=A.length-j)/\j<=A.length/\v1=Mv kj/\v35=Nv j/\gV n0 M c w0 cnt0 s0 Λ Γ gb Q dom (1000*bV (bq<|A.drop j)) (mW c.mks Γ T (.var rv) A j) (λw s=>(TW w (dt c) (1100*nx) T (.iface ts xs)/\jp Λ s T)/\jp Λ s (.var rv)) sj cj kj wr
def EH(h:j<A.length):bV (bq<|A.drop j)=nn A[j].1+nn A[j].2+bV (bq<|A.drop<|j+1):=by
 rw[qe h];simp only[bq,bV];omega
def pS:∀A:List (Nd×Nd),A.length<=bV (bq A)
 |[]=>ag|p::r=>by have:=pS r;have:=rZ p.1;simp only[kh,bq,bV];omega
def tW:∀(A:List (Nd×Nd))(j:Nat)(h:j<A.length),nn A[j].1+nn A[j].2<=bV (bq A)
 |p::r,0,_=>by simp only[qg,bq,bV];omega|p::r,j+1,h=>by have:=tW r j Fe;simp only[qh,bq,bV];omega
section
variable {cnt:Nat}
def agV{t a}{x}{g}{vp ve:Nat->Value}(Hx:Dy x)(He:∀i(h:i<A.length),Dy A[i].2)(h:Fk (.mk 13 st n (x::bq A) f t a) c w cnt s kb Λ Γ gb Q dom (.iface 296<|.agg #[Nv f,Nv t,vx,.slice (some ⟨g,0,none⟩) A.length sc]))(hg:Q g)(iP:g<w.heap.size)(hc:∀i,i<A.length->(∃u v,w.cell? ⟨g,i*4,none⟩=some (Iv u)/\w.cell? ⟨g,i*4+1,none⟩=some (Iv v))/\w.cell? ⟨g,i*4+2,none⟩=some (vp i)/\w.cell? ⟨g,i*4+3,none⟩=some (ve i))(hx:PE w Q x vx)(hp:∀i(h:i<A.length),PP w Q A[i].1<|vp i)(he:∀i(h:i<A.length),PE w Q A[i].2<|ve i):
 Cq 269 #[Pv c.eb,Mv kb,Mv gb,.agg #[Nv f,Nv t,vx,.slice (some ⟨g,0,none⟩) A.length sc]] w (bi c (1100*nn (.mk 13 st n (x::bq A) f t a)) (1000*nn (.mk 13 st n (x::bq A) f t a)) (jk c.mks (.mk 13 st n (x::bq A) f t a) Γ) s cnt w):=by
 have en:nn (.mk 13 st n (x::bq A) f t a)=1+nn x+bV (bq A):=QG;have⟨sx,SP,SE⟩:=aa2 h.sc;have SP:=λi h=>(SP i h).1;have fb:=h.ft.b;rw[en]at fb;have hAl:=pS A;have iZ:= @run_makeMap Tryz.prog;have HX:=ai hx;obtain⟨tx,ax,rfl⟩:=hx.iface;have H:=gV.start h<|P6 ..;obtain⟨n0,ZK⟩:∃n0,n0=nn (.mk 13 st n (x::bq A) f t a):=⟨_,rfl⟩;obtain⟨M,hM⟩:∃M,M=In.inf c.mks (.mk 13 st n (x::bq A) f t a) Γ:=⟨_,rfl⟩;rw[<-hM,<-ZK]at H⊢;rw[en]at ZK;have EN:=ai ZK;have HP:=ai hp;have HE:=ai he;have HC:=ai hc;clear h hx en ZK hM hp he hc;go_enter func269,ntmps269;go_wp2_with fail;refine H.box.ex (D2:=1000*(1+bV (bq A))) Hx HX sx ?_ (by rw[uh EN];omega) (by rw[uh EN];omega);intro T1 BQ BS s1 ak jI w1 H;have⟨⟨_,b1,b2,b3⟩,_⟩:=H.p;have⟨e1,e2,e3⟩:=H.we.bx;go_wp2_with fail;refine H.new (D2:=1000*bV (bq A)) ?_ ae;intro s3 w3 H;clear e1 e2 e3 b1 b2 b3;have⟨⟨⟨_,b1,b2,b3⟩,_⟩,_⟩:=H.p
 go_wp2
 go_loopg[1,35] A.length (λgk v1 v35 wr=>akQ n0 M c w cnt s Λ Γ gb Q dom T1 BQ BS (ak+1) (nn x) A gk v1 v35 wr)
 case atStart=>exact⟨0,_,_,_,ai ag,xh _,rfl,rfl,H.imp λ_ _ h=>⟨h.1.2,h.2⟩⟩
 case round=>
  clear H b1 b2 b3;obtain⟨j,cj,sj,kj,cV,hj,rfl,rfl,H⟩:=hrel;by_cases bh:j<A.length
  .have bA:(j:Int)<(A.length:Int):=ae;have Jl:(0:Int)<=(j:Int):=ae;have⟨⟨u,v,d0,d1⟩,d2,d3⟩:=HC j bh;rw[<-xj (a:=⟨g,_,none⟩) (H.f.block g iP<|H.hq g hg)]at d0 d1 d2 d3;have⟨t1,x1,e1⟩:=(HP j bh).iface;have⟨t2,x2,e2⟩:=(HE j bh).iface;have PP1:=HP j bh;have PE2:=HE j bh;rw[e1]at d2 PP1;rw[e2]at d3 PE2;have pl1:=PP1.place;have pl2:=PE2.place;dsimp only[PlF]at pl1 pl2
   replace PP1:=ai PP1
   replace PE2:=ai PE2
   have hdn:=EH bh;have hnn:=tW A j bh;have l5:=H.we.l.2.2.2.2;have H:=H.to λo q=>EG bh q;have zc:=H.we.di;go_wp2_with fail;refine(H.box (C:=#[Iv u,Iv v,Fv t1<|Av x1,Fv t2<|Av x2]) (t:=306)).uw (D2:=1000*(nn A[j].2+bV (bq<|A.drop<|j+1))) (gv:=wr.heap.size+1) (bw _) (by have:=bS.new (wr.alloc<|Cv #[Iv u,Iv v,Fv t1<|Av x1,Fv t2<|Av x2] 306)<|qS c<|wr.heap.size+1;simpa using this) ag PP1 (SP j bh) ?_ ae (by rw[uh EN];omega);intro T3 g3 ta3 xa3 s3 c3 kb3 w3 H hm3 z3;clear d0 d1 d2 d3;have⟨⟨_,b1,b2,b3⟩,_⟩:=H.p;go_wp2_with fail;refine(dR _ _).mono ?_;rintro e w4⟨rfl,K4⟩;have H:=H.af K4;clear b1 b2 b3;have⟨⟨_,b1,b2,b3⟩,_⟩:=H.p;go_wp2_with fail;refine H.eq (S:=900000) (H.p.1.1.1.1.le ae) (H.p.2.1.1.le ae) H.p.1.1.1.2 H.p.2.1.2 ?_;intro b5 s5 w5 H;clear b1 b2 b3;have⟨⟨_,b1,b2,b3⟩,_⟩:=H.p
   replace hm3:=ai hm3
   go_wp2_with fail;go_cut[16,17]from 56 to 75 (λv16 v17 wc=>∃T6 s6 c6 Yq Yr W9,v16=Mv W9/\v17=Fv Yq Yr/\gV n0 M c w cnt s Λ Γ gb Q dom (1000*bV (bq<|A.drop<|j+1)) (jf (ju (.var<|ak+1) T6 (jo A[j].2)<|jt A[j].2) λ_=>mW c.mks Γ T1 (.var<|ak+1) A<|j+1) (λw' s=>(((TW w' (dt c) (1100*nn x) T1 (Fv BQ BS)/\jp Λ s T1)/\jp Λ s (.var<|ak+1))/\Bx w' wr.heap.size #[Iv u,Iv v,Fv t1<|Av x1,Fv t2<|Av x2])/\TW w' (dt c) (1100*nn A[j].2) T6 (Fv Yq Yr)/\jp Λ s T6) s6 c6 W9 wc)
   case first=>
    go_region_with(first
     |(go_at_call 259;go_loud(refine(Dq ((H.wg.fr H.f H.st.p.run).e.af (xn _ _).drew)<|H.p.2.2.1.af (xn _ _).drew).mono ?_);rintro e w6⟨b6,rfl,z6,h6,k6⟩;have K6:=ai<|(xn w5.heap.size w5).drew.trans k6;have⟨⟨_,d1,d2,d3⟩,_⟩:=(H.af K6).p;have E6:=ai h6;have Z6:=ai z6;clear k6 h6 z6)
     |(go_at_call 251;go_loud(refine H.exG (D2:=1000*bV (bq<|A.drop<|j+1)) K6 (He j bh) ⟨H.we.af K6,H.st.k.af K6,H.st.n,(H.wg.fr H.f H.st.p.run).over (SP j bh) hm3 H.p.2.2.2 E6 (by have z:=uh Z6;have:=H.we.di;have q:w5.heap.size<=b6:=z;omega),(PE2.move H.f.size (λb p z=>H.f.block b z<|H.hq b p)<|λ_ p _=>p).af K6,H.hq,SE j bh,Mq (SP j bh) hm3 H.hd,H.ft.le qBw (by rw[uh EN];omega),H.mf⟩ ?_ ae);intro T6 Yq Yr s6 c6 W9 w7 H7))
    all_goals(
     go_wp2_with fail
     go_meet
     case rel=>exact⟨_,_,_,_,_,_,rfl,rfl,H7.imp λ_ _ h=>⟨h.1.1,h.2⟩⟩)
   case rest=>
    obtain⟨T6,s6,c6,Yq,Yr,W9,rfl,rfl,H⟩:=hcut;clear b1 b2 b3;have⟨⟨_,b1,b2,b3⟩,_⟩:=H.p;go_wp2_with fail;refine(dR _ _).mono ?_;rintro e w8⟨rfl,K8⟩;have H:=H.af K8;go_wp2_with fail;refine H.eq (S:=900000) (p_ w8 c ak _ ae) (H.p.2.1.le ae) H.p.1.1.2 H.p.2.2 ?_;intro b9 s9 w9 H
    go_wp2
    go_roundg(A.length-(j+1))
    case measure=>rw[uh cV];omega
    case rel=>exact⟨j+1,_,_,_,ai rfl,xg bh,rfl,i_,H.imp λ_ _ h=>h.1.1⟩
  .have bA:¬(j:Int)<(A.length:Int):=ae;have ej:j=A.length:=ae;subst ej;have H:=H.to λo q=>Mp c.mks Γ T1 (.var<|ak+1) A sj o q
   go_wp2
   go_ret2;exact H.ret (p_ wr c ak 1<|br _) (by rw[uh EN];omega)
end
section
variable {cnt:Nat}
def ZN(mk:jl)s n x y f t a(Γ:jd)(hv:vars [] (aI []<|es y).1=[]):jk mk (.mk 14 s n [x,y] f t a) Γ=jf (jk mk x Γ) λa=>jf (ju a (aI []<|es y).1 (jo x)<|jt x) λ_=>jz (aI []<|es y).1:=by simp[jk,In.li,j3,In.dr,In.iV,hv]
def Zh{t a}{x}(Hx:Dy x)(h:Fk (.mk 14 st n [x,y] f t a) c w cnt s kb Λ Γ gb Q dom (.iface 287<|.agg #[Nv f,Nv t,vx,vy]))(hx:PE w Q x vx)(hy:PT w Q y vy):
 Cq 265 #[Pv c.eb,Mv kb,Mv gb,.agg #[Nv f,Nv t,vx,vy]] w (bi c (1100*nn (.mk 14 st n [x,y] f t a)) (1000*nn (.mk 14 st n [x,y] f t a)) (jk c.mks (.mk 14 st n [x,y] f t a) Γ) s cnt w):=by
 have en:nn (.mk 14 st n [x,y] f t a)=1+nn x+nn y:=QG;obtain⟨sx,hv,hz,hw⟩:ScE c.mks c.nl dom x/\vars [] (aI []<|es y).1=[]/\size (aI []<|es y).1<=1000/\Whole (aI []<|es y).1:=by
  cases h.sc with
  |of _ _ _ _ _ _ _ _ hx hv hz hw=>exact⟨hx,hv,hz,hw⟩|two _ _ _ _ _ _ _ _ _ hk=>omega|lt _ _ _ _ _ _ _ _ _ _ hk=>omega
 obtain⟨n0,em⟩:=afF hy [] (λm o=>by have:=In.aq.2 o;rw[hv]at this;cases this) hz;have ei:=ZN c.mks st n x y f t a Γ hv;rw[em]at hz hw hv ei;obtain⟨M,hM⟩:∃M,M=m0 y:=⟨_,rfl⟩;have Ad:=afG y n0;unfold Gl at Ad;rw[<-hM]at hv hz hw Ad ei;dsimp only at hv hz hw ei;have tiM:∀s,jp Λ s M:=λs=>by
  have mX:∀m,¬aB m M:=λm o=>by have:=In.aq.2 o;rw[hv]at this;cases this
  refine⟨λm o=>(mX m o).elim,λm o=>?_⟩;obtain⟨m',o1,_⟩:=(jx _).1 o;exact(mX m' o1).elim
 have hny:=rZ y;have ET:=rZ x;have fb:=h.ft.b;rw[en]at fb;have H:=gV.start h ei
 replace en:=ai en
 clear h ei hM em;have HX:=ai hx;have HY:=ai hy;have TI:=ai tiM;have PR:=ai<|And.intro hw hz;obtain⟨tx,ax,rfl⟩:=hx.iface;obtain⟨ty,ay,rfl⟩:=hy.bO;have UR:=hx.place;dsimp only[PlF]at UR;clear hx hy tiM hv hw hz;go_enter func265,ntmps265;go_wp2_with fail;refine H.box.ex (D2:=1000) Hx HX sx ?_ uX uX;intro T1 BQ BS s1 ak jI w1 H;obtain⟨⟨_,b1,b2,b3⟩,_⟩:=H.p;have HO:=Ad w1 Q _<|HY.fr H.f<|λb p _=>H.hq b p;have z1:=H.we.di;go_wp2_with fail;refine HO.mono ?_;rintro e w2⟨u2,rfl,wU,F2⟩;obtain⟨tu,xu,rfl⟩:=wU.iface;have TM:=TW.of (wU.w.wide λb p=>by show b≠c.cb;have:w1.heap.size<=b:=p;omega) PR.1 PR.2;have H:=(H.af ⟨F2.os,F2.tape,F2.output,F2.size,λb z=>F2.block b z id⟩).add λw' _ f _=>TM.fr f<|λ_ p _=>p;clear b1 b2 b3 wU TM HO;obtain⟨⟨⟨_,b1,b2,b3⟩,_⟩,_⟩:=H.p;go_wp2_with fail;refine(dR _ _).mono ?_;rintro e w4⟨rfl,K4⟩;have H:=H.af K4;go_wp2_with fail;refine H.eq (S:=900000) (H.p.1.2.1.le ae) (H.p.2.le ae) H.p.1.2.2 (TI _) ?_;intro kb5 s5 w5 H
 go_wp2
 go_ret2;exact H.ret H.p.2 uX
end
section
variable {cnt:Nat}
def adp{x}{t a}(h:Fk (.mk 2 x n [] f t a) c w cnt s kb Λ Γ gb Q dom (.iface 282<|.agg #[Nv f,Nv t,.string x])):
 Cq 251 #[Pv c.eb,Mv kb,Mv gb,.iface 282<|.agg #[Nv f,Nv t,.string x]] w (bi c (1100*nn (.mk 2 x n [] f t a)) (1000*nn (.mk 2 x n [] f t a)) (jk c.mks (.mk 2 x n [] f t a) Γ) s cnt w):=by
 have en:nn (.mk 2 x n [] f t a)=1:=qBi;obtain⟨tk,m,hx⟩:∃tk m,c.mks x=some (tk,m):=by
  cases h.sc with
  |up _ _ _ _ _ _ tk m hx=>exact⟨tk,m,hx⟩|leaf _ _ _ _ _ _ _ hk=>omega
 rw[en,Yk c.mks x n f t a Γ hx];have W8:=h.ft.a;rw[en]at W8;have fK:=h.mf.sz x tk m hx;have Iw:=h.mf.wh x tk m hx;have HVS:=h.mf.vs x tk m hx;have has:=tw tk m;have zP:(vars [] m).length<=size m:=by
  exact Ud
 have hla:(vars []<|jj tk m).length<=1000:=by
  rw[cC];have h2:=cY (occs<|jj tk m) [];have h3:=cZ<|jj tk m;simp only[qP]at h2;omega
 have⟨k0,B0⟩:=oF w #[Nv f,Nv t,Sv x] 282;obtain⟨w0,yn⟩:∃w0,w0=w.alloc (Cv #[Nv f,Nv t,Sv x] 282):=⟨_,rfl⟩;have Zk:=h.we.af k0;have wk0:=h.wk.af k0;rw[<-yn]at k0 B0 Zk wk0;have⟨v,hv,Ds⟩:=Zk.ms.look hx;have ld:=Zk.d;have ll:=Zk.l;have ND:=hv;obtain⟨sa,sc,ta,xa,rfl,hr,hm⟩:=ND;have HRN:∀W:World,Bq w0 W->Cq 262 #[Pv c.eb,Fv ta xa] W (λe w'=>∃b,e=Rv (Mv b)/\RnA c cnt (vars [] m) w0 w' b):=λW hb=>by
  refine(DA (Zk.af hb) (hm.w.af hb) ae ae).mono ?_;rintro e w'⟨b,rfl,h1,h2,h3,h4⟩;exact⟨b,rfl,by have:=hb.size;omega,h2,h3,(xo hb).trans h4⟩
 have HTY:∀W:World,Fr (λi=>i=c.cb) w0 W->Cq 263 #[Av #[Lv sa tk.length sc,Fv ta xa]] W (λe w'=>∃tu xu,e=Rv (Fv tu xu)/\cX w' (dt c) (jj tk m) (Fv tu xu)/\Bq W w'):=λW hF=>by
  refine(xA (hv.move (Q:=dt c) hF.size (λb p z=>hF.block b z p.1)<|λb p _=>p.1) ae).mono ?_;rintro e w'⟨u,rfl,hu,hk⟩;obtain⟨tu,xu,rfl⟩:=hu.iface;exact⟨tu,xu,rfl,hu.wide λi p=>by obtain p|p:=p;exact p;show i≠c.cb;have:=hF.size;omega,hk⟩
 have Ad:∀(W:World)(b:Nat)(tu:TypeId)(xu:Value),RnA c cnt (vars [] m) w0 W b->cX W (dt c) (jj tk m) (Fv tu xu)->Cq 242 #[Mv b,Fv tu xu] W (λe w'=>∃tr xr,e=Rv (Fv tr xr)/\TW w' (dt c) 1100 (sub (ja<|rl cnt<|vars [] m)<|jj tk m) (Fv tr xr)/\Bq W w'):=λW b tu xu hA hu=>by
  have ev:=Qy cnt<|vars [] m;have Jj:=IP hA.sb (show dt c b by have:=hA.z;show b≠c.cb;omega) hu ae (by rw[ev,iE];omega);rw[ev]at Jj;refine Jj.mono ?_;rintro e w'⟨u,rfl,MX,hk⟩;obtain⟨tr,xr,rfl⟩:=MX.iface;have hw':=p8 (rl cnt<|vars [] m) _ Iw;refine⟨tr,xr,rfl,⟨⟨_,MX.wide λi p=>by obtain p|p:=p;exact p;show i≠c.cb;have:=hA.F.size;omega,(dO.refl _).cut hw',?_⟩,hw'⟩,hk⟩;have hlq:(vars []<|sub (ja<|rl cnt<|vars [] m)<|jj tk m).length<=1000:=by
   rw[cC];have h2:=cY (occs<|sub (ja<|rl cnt<|vars [] m)<|jj tk m) [];have h3:=cZ<|sub (ja<|rl cnt<|vars [] m)<|jj tk m;rw[iE]at h3;simp only[qP]at h2;omega
  have:=fD hw' hlq ae;omega
 have HLK:∀W:World,Fr (λi=>i=c.cb) w0 W->(Instr.lookup 188 (Mv c.mb) (Sv x) false).run Tryz.prog W=.ok (Av #[Lv sa tk.length sc,Fv ta xa]) W:=λW hF=>Ds W<|hF.block _ ae ae;have aeP:=HLK w0.drew<|Fr.of (Below.refl _ _).drew;obtain⟨b1,b2,b3⟩:=B0;have⟨e1,e2,e3⟩:=Zk.bx;have BB:=show Bx w0 w.heap.size #[Nv f,Nv t,Sv x]from⟨b1,b2,b3⟩;have K0:=ai k0;have WK0:=ai wk0;have HU:=ai h.wk.u;have nz:=ld.1;have zc:=h.we.di;clear h k0 Zk wk0 hv Ds hr hm Iw ld ll;go_enter func251,ntmps251;go_wp2_with fail;rw[<-yn];clear yn;have am9:=ajc;have ne0:¬w.heap.size=c.cb:=ae;have f1:=e1 2;have f2:=b1 2;clear e1 e2 e3 b1 b2 b3
 go_region_held3(λw'=>w'.cell? ⟨c.eb,2,none⟩=some (Mv c.mb)/\w'.cell? ⟨w.heap.size,2,none⟩=some (Sv x)/\(Instr.lookup 188 (Mv c.mb) (Sv x) false).run Tryz.prog w'=.ok (Av #[Lv sa tk.length sc,Fv ta xa]) w') (first|go_keep|(simp[*])) (first
  |(go_at_call 262;go_loud(refine(HRN _ (xn _ _).drew).mono ?_);rintro e w2⟨b5,rfl,hA⟩;have g1:w2.cell? ⟨c.eb,2,none⟩=some (Mv c.mb):=hA.we.bx.c 2;have g2:w2.cell? ⟨w.heap.size,2,none⟩=some (Sv x):=(BB.fr hA.F ne0).c 2;have aeQ:=HLK w2 hA.F;have HA:=ai hA;clear hA)
  |(go_at_call 263;go_loud(refine(HTY _ HA.F).mono ?_);rintro e w3⟨tu,xu,rfl,hu,k3⟩;have A3:Hid (RnA c cnt (vars [] m) w0 w3 b5):=ai ⟨HA.z,HA.we.af k3,HA.sb.af k3,HA.F.trans<|xo k3⟩;have g3:w3.cell? ⟨c.eb,2,none⟩=some (Mv c.mb):=A3.we.bx.c 2;have g4:w3.cell? ⟨w.heap.size,2,none⟩=some (Sv x):=(BB.fr A3.F ne0).c 2;have am_:=HLK w3 A3.F;have U3:=ai hu;clear hu k3)
  |(go_at_call 242;go_loud(refine(Ad _ _ _ _ A3 U3).mono ?_);rintro e w4⟨tr,xr,rfl,ht,k4⟩;have A4:=A3.F.trans<|xo k4;have g5:w4.cell? ⟨c.eb,2,none⟩=some (Mv c.mb):=(A3.we.af k4).bx.c 2;have g6:w4.cell? ⟨w.heap.size,2,none⟩=some (Sv x):=(BB.fr A4 ne0).c 2;have ana:=HLK w4 A4;have K4:=ai k4;have T4:=ai ht;clear ht k4 A4))
 all_goals
  go_wp2
  go_ret2;have a3:=uh A3;have k4:=uh K4;have wk0:=uh WK0;refine⟨(xo K0).trans<|a3.F.trans<|xo k4,cnt+(vars [] m).length,.ok (sub (ja<|rl cnt<|vars [] m)<|jj tk m,⟨s.k,λn=>s.u n\/(cnt<n/\n<=cnt+(vars [] m).length)⟩),ae,ae,a3.we.af k4,qy ⟨(_,rl cnt<|vars [] m),_,qy ⟨rl cnt<|vars [] m,_,⟨_,_,Jm (Dv cnt (vars [] m) (de m List.nodup_nil) HU) λv=>?_,rfl⟩,rfl⟩,rfl⟩,λn q=>q,wk0.wh,tr,xr,kb,rfl,wk0.n,(wk0.k.fr a3.F wk0.n<|λ_ p _=>p).af k4,T4.le ae⟩;rw[bJ,bJ];simp only[List.not_mem_nil,false_or];exact⟨ac4 tk m v,HVS v⟩
end
structure WT w c cnt(u:Nat->Prop)(Γ:jd):Prop where
 we:WE w c cnt
 e:bS w (λi=>i≠c.cb/\i≠c.eb) c.nb Γ
 n:c.nb≠c.cb/\c.nb≠c.eb
 hu:∀n,u n->us cnt n
 top:In.Zm ⟨Ty.var,u⟩ Γ
 dm:∀x,Γ x≠none->x∈c.nl
structure LtA rc st x c w cnt u(Γ:jd)Q(dom:BA->Prop)v:Prop where
 wt:WT w c cnt u Γ
 pe:PE w Q x v
 hq:∀b,Q b->b≠c.cb/\b≠c.eb
 sc:ScE c.mks c.nl (λv=>dom v\/(rc=true/\v=st)) x
 hd:∀x,dom x->Γ x≠none
 ft:Fit c cnt (1+nn x)
 mf:MkFine c.mks
 jA:st∈c.nl
def Ue{p:Prop}(h:p:=by
 induction h with
 |var n=>exact .var n|aJ c L sa sc vs hc aN hr ih=>
  refine .aJ c L sa sc vs hc ?_ ih;obtain h0|⟨g,h1,h2,h3,h4⟩:=aN
  .exact qx h0
  .by_cases h0:L=[]
   .exact qx h0
   .refine qy ⟨g,h1,⟨h2,λe=>?_⟩,h3,h4⟩;have hl:=List.length_pos_iff.2 h0;have q:=h4 0 hl;rw[e,hb]at q;injection q with q;obtain⟨a,y,r⟩:=(hr 0 hl).iface
    exact hx a y<|q.trans r):p:=h
def cX.not{v x:Value}(h:cX w P t v)(hb:w.cell? ⟨b,0,none⟩=some x)(hx:∀a y,x≠.iface a y):cX w (λi=>P i/\i≠b) t v:=by
 exact Ue
def dD.not{v x:Value}(h:dD w P t v)(hb:w.cell? ⟨b,0,none⟩=some x)(hx:∀a y,x≠.iface a y):dD w (λi=>P i/\i≠b) t v:=by
 exact Ue
def rM.hv{z:j7}{vl vr:Value}(h:rM w P z vl vr):(vl=.nilIface/\vr=.nilIface)\/∃a b c d,vl=.iface a b/\vr=.iface c d:=by
 obtain k|k:=h.k
 .have⟨h1,h2⟩:=h.apart k;have⟨a,b,e1⟩:=h1.iface;have⟨c,d,e2⟩:=h2.iface;exact qy ⟨a,b,c,d,e1,e2⟩
 .exact qx (h.q_ k)
def rM.one{w w':World}{P:Nat->Prop}{z:j7}{vl vr x:Value}{b:Nat}(h:rM w P z vl vr)(hb:w.cell? ⟨b,0,none⟩=some x)(hx:∀a y,x≠.iface a y)(hf:Fr (λi=>i=b) w w'):rM w' P z vl vr:=
 ⟨h.q_,λk=>⟨((h.apart k).1.not hb hx).move hf.size (λi p q=>hf.block i q p.2)<|λ_ p _=>p.1,((h.apart k).2.not hb hx).move hf.size (λi p q=>hf.block i q p.2)<|λ_ p _=>p.1⟩,h.k⟩
abbrev Ck(f:Fl)(vl vr:Value):Value:=.agg #[Nv f.kind,Nv f.aF,Nv f.to,vl,vr]
def Zj c cnt u(Γ:jd)rc st a y x w(e:Ending)w':=Fr (λi=>i=c.cb\/i=c.eb) w w'/\∃o,In.ch rc st x (jk c.mks x) Γ ⟨Ty.var,u⟩ o/\match o with
 |.error z=>∃vl vr,e=.returned (.tuple #[.nilIface,Ck z.f vl vr])/\rM w' (dt c) z vl vr
 |.ok (t,s)=>(48<size (sub s.k t)/\e=.returned (.tuple #[.nilIface,Ck ⟨7,a,y⟩ .nilIface .nilIface]))\/
  (size (sub s.k t)<=48/\∃T ta xa aE Iy,T=(if In.rK x then sub s.k t else In.eu (sub s.k t))/\e=.returned (.tuple #[.iface ta xa,.agg MU])/\cX w' (dt c) T (.iface ta xa)/\Whole T/\aE<=cnt+1000*(1+nn x)/\WT w' {c with nb:=Iy} aE s.u (jy Γ st ⟨T,vars [] T⟩))
def nh.not{w}{P}{mb b}{mk}{x}(h:nh w P mb mk)(hb:w.cell? ⟨b,0,none⟩=some x)(hx:∀a y,x≠.iface a y):nh w (λi=>P i/\i≠b) mb mk:=by
 obtain⟨L,h1,h2,h3⟩:=h;refine⟨L,h1,h2,λk v hk=>?_⟩;obtain⟨tk,m,e,sa,sc,ta,xa,rfl,q1,q2⟩:=h3 k v hk;refine⟨tk,m,e,sa,sc,ta,xa,rfl,?_,q2.not hb hx⟩;obtain q1|⟨g,vs,q3,q4,q5,q6⟩:=q1
 .exact qx q1
 .by_cases h0:tk=[]
  .exact qx h0
  .have hl:=List.length_pos_iff.2 h0;refine qy ⟨g,vs,q3,⟨q4,λe=>?_⟩,q5,λi hi=>⟨(q6 i hi).1,(q6 i hi).2.not hb hx⟩⟩;have⟨q7,q8⟩:=q6 0 hl;rw[e,hb]at q7;injection q7 with q7;have⟨a,y,r⟩:=q8.iface;exact hx a y<|q7.trans r
def MG.bE{enc}{L:List (κ×Value)}(h:MG enc w b L)(o:Nat):w.cell? ⟨b,o,none⟩=none:=by
 obtain⟨es,c,h1,_⟩:=h;simp[World.cell?,h1]
def Uf{p:Prop}(h:p:=by
 have:=h.bx.c 0;rw[<-e]at this
 exact absurd this (by rw[hM.bE 0];simp)):p:=h
def WE.put{cnt}(h:WE w c cnt)(hf:Fr (λi=>i=c.eb\/c.gh<=i) w w')(he:Bx w' c.eb (agp {c with nb:=nb})):WE w' {c with nb:=nb} cnt:=by
 have⟨l1,l2,l3,l4,l5⟩:=h.l;have⟨d1,d2,d3⟩:=h.d;have ne1:c.rb≠c.eb:=λe=>by
  have⟨L,hM,_⟩:=h.rs;exact Uf
 have ne2:c.mb≠c.eb:=λe=>by
  have⟨L,hM,_⟩:=h.ms;exact Uf
 refine⟨he,h.ct.fr hf ae,h.rs.same<|hf.block _ h.rs.lt ae,?_,h.d,⟨l1,l2,l3,l4,xd l5 hf.size⟩⟩;exact(h.ms.not (h.bx.c 0) ag).move hf.size (hf.block _ h.ms.lt ae) (λb p z=>hf.block b z (by have:=p;omega)) (λb p _=>p.1)
mutual
def BH:∀t,size (sub (λ_=>j5) t)=size t
 |.var n=>by simp[sub,size,ah]|.aJ c l=>by simp only[sub,size,yh l]
def yh:∀l,ah (aP (λ_=>j5) l)=ah l
 |[]=>rfl|t::l=>by simp only[aP,ah,BH t,yh l]
end
def lE t:size (In.eu t)=size t:=BH t
def Ar:Whole j5:=⟨λe=>by have:=congrArg ByteArray.size e;revert this;decide,trivial⟩
structure JC where
 (eb cb rb mb lo gh:Nat)
 mks:jl
 nl:List BA
abbrev UX(c:JC)nb l:=#[.func (.func 32) #[] #[Pv c.cb],Mv c.rb,Mv c.mb,Mv nb,Nv l]
structure JE w c nb l cnt:Prop where
 bx:Bx w c.eb (UX c nb l)
 ct:Bx w c.cb #[Nv cnt]
 rs:Ja w c.rb
 ms:nh w (λi=>i≠c.cb/\i<c.gh) c.mb c.mks
 z:c.lo<=c.eb/\c.lo<=c.cb/\c.gh<=w.heap.size
section
variable {c:JC} {cnt:Nat}
def GL.rB{nx}{lv}(h:GL w ds str nx vr ly lv)(hn:n∈ds):∃p,w.cell? ⟨n,0,none⟩=some (.pointer p):=by
 have:=(h.nd n hn).cells.1
 cases e:nx n with
 |none=>rw[e]at this;exact⟨none,this⟩|some m=>rw[e]at this;exact⟨_,this⟩
def JE.Af(h:JE w c nb l cnt)(j:JS w g s):¬c.eb∈g.ds:=λq=>by
 have⟨p,hp⟩:=j.gl.rB q;have:=h.bx.c 0;rw[hp]at this;simp at this
def JE.Ag(h:JE w c nb l cnt)(j:JS w g s):¬c.cb∈g.ds:=λq=>by
 have⟨p,hp⟩:=j.gl.rB q;have:=h.ct.c 0;rw[hp]at this;simp at this
theorem JE.ne(h:JE w c nb l cnt):c.eb≠c.cb/\c.rb≠c.cb/\c.rb≠c.eb/\c.mb≠c.cb/\c.mb≠c.eb:=by
 have⟨L,m1,_⟩:=h.rs;have⟨L',m2,_⟩:=h.ms;have a:=h.bx.c 0;have b:=h.ct.c 0;refine⟨λe=>?_,λe=>?_,λe=>?_,λe=>?_,λe=>?_⟩
 .grind
 .rw[<-e,m1.bE 0]at b;simp at b
 .rw[<-e,m1.bE 0]at a;simp at a
 .rw[<-e,m2.bE 0]at b;simp at b
 .rw[<-e,m2.bE 0]at a;simp at a
def JE.nX(h:JE w c nb l cnt)(j:JS w g s):¬c.rb∈g.ds/\¬c.mb∈g.ds:=by
 have⟨L,m1,_⟩:=h.rs;have⟨L',m2,_⟩:=h.ms;refine⟨λq=>?_,λq=>?_⟩
 .have⟨p,hp⟩:=j.gl.rB q;rw[m1.bE 0]at hp
  cases hp
 .have⟨p,hp⟩:=j.gl.rB q;rw[m2.bE 0]at hp
  cases hp
def dD.UY{S:Nat->Prop}{v}(h:dD w P t v)(hS:∀b,S b->∀a y,w.cell? ⟨b,0,none⟩≠some (.iface a y)):dD w (λi=>P i/\¬S i) t v:=by
 induction h with
 |var n=>exact .var n|aJ c L sa sc vs hc aN hr ih=>
  refine .aJ c L sa sc vs hc ?_ ih;obtain h0|⟨g,h1,h2,h3,h4⟩:=aN
  .exact qx h0
  .by_cases h0:L=[]
   .exact qx h0
   .refine qy ⟨g,h1,⟨h2,λe=>?_⟩,h3,h4⟩;have hl:=List.length_pos_iff.2 h0;have⟨a,y,r⟩:=(hr 0 hl).iface;exact hS g e a y (by rw[h4 0 hl,r])
def nh.UY{P S:Nat->Prop}{mb}{mk}(h:nh w P mb mk)(hS:∀b,S b->∀a y,w.cell? ⟨b,0,none⟩≠some (.iface a y)):nh w (λi=>P i/\¬S i) mb mk:=by
 obtain⟨L,h1,h2,h3⟩:=h;refine⟨L,h1,h2,λk v hk=>?_⟩;obtain⟨tk,m,e,sa,sc,ta,xa,rfl,q1,q2⟩:=h3 k v hk;refine⟨tk,m,e,sa,sc,ta,xa,rfl,?_,q2.UY hS⟩;obtain q1|⟨g,vs,q3,q4,q5,q6⟩:=q1
 .exact qx q1
 .by_cases h0:tk=[]
  .exact qx h0
  .have hl:=List.length_pos_iff.2 h0;refine qy ⟨g,vs,q3,⟨q4,λe=>?_⟩,q5,λi hi=>⟨(q6 i hi).1,(q6 i hi).2.UY hS⟩⟩;have⟨q7,q8⟩:=q6 0 hl;have⟨a,y,r⟩:=q8.iface;exact hS g e a y (by rw[q7,r])
abbrev jS(c:JC)(g:f_)b:=b=c.cb\/b=c.eb\/b∈g.ds
def JE.fr(h:JE w c nb l cnt)(j:JS w g s)(hf:Fr (jS c g) w w'){aE}(he:Bx w' c.eb (UX c Iy l'))(hc:Bx w' c.cb #[Nv aE]):JE w' c Iy l' aE:=by
 have⟨n1,n2,n3,n4,n5⟩:=h.ne;have⟨n6,n7⟩:=h.nX j;refine⟨he,hc,h.rs.same<|hf.block _ h.rs.lt<|λq=>q.elim n2<|λq=>q.elim n3 n6,?_,⟨h.z.1,h.z.2.1,xd h.z.2.2 hf.size⟩⟩;refine(h.ms.UY (S:=jS c g) ?_).move hf.size (hf.block _ h.ms.lt<|λq=>q.elim n4<|λq=>q.elim n5 n7) (λb p z=>hf.block b z p.2) (λb p _=>p.1);rintro b(rfl|rfl|q)a y e
 .have:=h.ct.c 0;rw[e]at this;simp at this
 .have:=h.bx.c 0;rw[e]at this;simp at this
 .have⟨p,hp⟩:=j.gl.rB q;rw[e]at hp
  cases hp
def JE.af(h:JE w c nb l cnt)(hb:Bq w w'):JE w' c nb l cnt:=⟨h.bx.below hb,h.ct.below hb,h.rs.same<|hb.block _ h.rs.lt,h.ms.move hb.size (hb.block _ h.ms.lt) (λb _ z=>hb.block b z)<|λ_ p _=>p,⟨h.z.1,h.z.2.1,xd h.z.2.2 hb.size⟩⟩
def Mr v l:Cq 63 #[Iv v,Iv l] w λe w'=>e=.returned (nA w.heap.size)/\w'=w.alloc (.cells #[.pointer none,Iv l,Iv v,.string ⟨#[]⟩,.slice none 0 0] 171):=by
 go_enter func63,ntmps63
 go_wp2
 go_ret;exact⟨rfl,rfl⟩
def Ip b l a n k:Cq 64 #[.string b,Iv l,.slice a n k] w λe w'=>e=.returned (nA w.heap.size)/\w'=w.alloc (.cells #[.pointer none,Iv l,Iv 0,.string b,.slice a n k] 171):=by
 go_enter func64,ntmps64
 go_wp2
 go_ret;exact⟨rfl,rfl⟩
end
section
variable {c:JC} {cnt:Nat}
def oZ(h:JE w c nb l cnt)(j:JS w g s)(hu:∀n,s.u n->us cnt n)(hc:cnt<=1000000):Cq 310 #[Pv c.eb] w (λe w'=>∃n,e=.returned (nA n)/\w.heap.size<=n/\JE w' c nb l (cnt+1)/\JS w' (g.add n none (cnt+1) (none,0) l<|.var<|cnt+1) ⟨s.k,λm=>s.u m\/m=cnt+1⟩/\Fr (λb=>b=c.cb) w w'):=by
 have f0:=h.bx.c 0;have f1:=h.bx.c 4;have⟨n1,_,_,_,_⟩:=h.ne;have dt:=h.Ag j;have zc:=h.ct.z;have HE:=ai h;have HFR:∀W:World,W=w.drew->Cq 32 #[Pv c.cb] W λe w'=>e=Rv (Iv<|(cnt:Int)+1)/\∃_:JE w' c nb l (cnt+1),Fr (λb=>b=c.cb) w w'/\JS w' g s/\w'.heap.size=w.heap.size:=λW hW=>by
  subst hW;refine(oO cnt hc<|h.ct.oH).mono ?_;rintro e w'⟨rfl,rfl⟩;have F:Fr (λb=>b=c.cb) w (w.drew.setCell ⟨c.cb,0,none⟩<|Iv<|(cnt:Int)+1):=(xo (S:=λb=>b=c.cb) (xn _ w).drew).set (b:=c.cb) (qx rfl) 0 _;have B:Bx (w.drew.setCell ⟨c.cb,0,none⟩<|Iv<|(cnt:Int)+1) c.cb #[.int .i64 ((cnt+1:Nat):Int)]:=h.ct.oH.aT 0 _ _ rfl ag;have hF:Fr (jS c g) w (w.drew.setCell ⟨c.cb,0,none⟩<|Iv<|(cnt:Int)+1):=F.gh λb q=>qx q;have hG:GL (w.drew.setCell ⟨c.cb,0,none⟩<|Iv<|(cnt:Int)+1) g.ds g.str g.nx g.vr g.ly g.lv:=by
   refine j.gl.one (b:=c.cb) ⟨rfl,rfl,rfl,zJ,λi hi=>Below.heap_setCell _ _ _ _ hi⟩ dt<|λm hm c' l' gg hs hl hg e=>?_;have⟨ga,q1,q2,_⟩:=j.gl.row hm hs<|List.length_pos_iff.2 hl;rw[hg]at q1;injection q1 with q1;injection q1 with q1;subst q1;have:=h.ct.c 0;rw[<-e,q2]at this;simp at this
  exact⟨rfl,h.fr j hF (h.bx.fr F n1) B,F,⟨hG,j.mY,j.inj,j.can,j.lc,j.val,j.use,j.ok⟩,zJ⟩
 go_enter func310,ntmps310
 go_wp2
 go_region_held3(λw'=>w'.cell? ⟨c.eb,0,none⟩=some (.func (.func 32) #[] #[Pv c.cb])/\w'.cell? ⟨c.eb,4,none⟩=some (Nv l)) (first|go_keep|(simp[*])) (first
  |(go_at_call 32;go_loud(refine(HFR _ rfl).mono ?_);rintro e w2⟨rfl,e2,F2,j2,z2⟩;have s0:w2.cell? ⟨c.eb,0,none⟩=some (.func (.func 32) #[] #[Pv c.cb]):=e2.bx.c 0;have s1:w2.cell? ⟨c.eb,4,none⟩=some (Nv l):=e2.bx.c 4;have E2:=ai e2;have UI:=ai F2;have J2:=ai j2;have Z2:=ai z2;clear e2 F2 j2 z2)
  |(go_at_call 63;go_loud(refine(Mr _ _).mono ?_);rintro e w3⟨rfl,rS⟩;have k3:Bq w2 w3:=(by rw[rS];exact bw _);have B3:w3.heap[w2.heap.size]? =some (Cv #[.pointer none,Nv l,Iv<|(cnt:Int)+1,Sv ⟨#[]⟩,Lv none 0 0] 171 (0,0)):=(by rw[rS];exact(xm w2 _).1);have s2:w3.cell? ⟨c.eb,0,none⟩=some (.func (.func 32) #[] #[Pv c.cb]):=(E2.af k3).bx.c 0;have s3:w3.cell? ⟨c.eb,4,none⟩=some (Nv l):=(E2.af k3).bx.c 4;have K3:=ai k3;have B3':=ai B3;clear rS k3 B3))
 go_wp2
 go_ret;have k3:=uh K3;have hv:¬s.u (cnt+1):=λq=>by have:=hu _ q;rw[us]at this;omega
 exact⟨w2.heap.size,rfl,by rw[uh Z2];exact br _,(uh E2).af k3,(uh J2).var k3 (br _) hv<|by simpa using uh B3',(uh UI).trans<|xo k3⟩
def Jv{fn}{cn}(hk:fn=317/\cn=m9\/fn=315/\cn=lq)(h:JE w c nb l cnt)(j:JS w g s){a}(ha:a∈g.ds/\∀x,Hd g.nx a x->g.lv x<=l)(hb:b∈g.ds/\∀x,Hd g.nx b x->g.lv x<=l):Cq fn #[Pv c.eb,nA a,nA b] w (λe w'=>∃n ar,e=.returned (nA n)/\w.heap.size<=n/\JE w' c nb l cnt/\JS w' (g.add n (some (cn,[a,b])) 0 ar l<|.aJ cn [g.V a,g.V b]) s/\Bq w w'):=by
 have Ae:CN cn:=by obtain⟨-,rfl⟩|⟨-,rfl⟩:=hk;exact qx rfl;exact qy<|qx rfl
 have f1:w.cell? ⟨c.eb,4,none⟩=some (Nv l):=h.bx.c 4;have⟨k0,B0⟩:=nbh w #[nA a,nA b] 103;have HM:=Ip (w:=w.alloc<|Cv #[nA a,nA b] 103) (pn cn) (l:Int) (some ⟨w.heap.size,0,none⟩) 2 2;have K0:=ai k0;have HE:=ai h;have HJ:=ai j;clear h j k0;obtain⟨rfl,ec⟩|⟨rfl,ec⟩:=hk;all_goals
  first|(rw[ec,kq]at HM;go_enter func317,ntmps317)|(rw[ec,ku]at HM;go_enter func315,ntmps315)
  go_wp2_with fail;refine HM.mono ?_;rintro e w2⟨rfl,hw2⟩;have k2:Bq (w.alloc<|Cv #[nA a,nA b] 103) w2:=by rw[hw2];exact bw _
  have B2:w2.heap[w.heap.size+1]? =some (Cv #[.pointer none,Nv l,Iv 0,Sv<|pn cn,Lv (some ⟨w.heap.size,0,none⟩) 2 2] 171 (0,0)):=by
   rw[hw2];have:=(xm (w.alloc<|Cv #[nA a,nA b] 103)<|Cv #[.pointer none,Nv l,Iv 0,Sv<|pn cn,Lv (some ⟨w.heap.size,0,none⟩) 2 2] 171).1;simpa[ec,kq,ku]using this
  have R2:=B0.below k2;have k02:=K0.trans<|k2.mono K0.size;have HX:=ai<|qz k02<|qz B2 R2;clear HM hw2 k2 B2 R2 k02 B0
  go_wp2
  go_ret;have⟨k02,B2,R2⟩:=uh HX;refine⟨w.heap.size+1,(some ⟨w.heap.size,0,none⟩,2),rfl,xi _,HE.af k02,HJ.made (c:=cn) (ps:=[a,b]) (a:=(some ⟨w.heap.size,0,none⟩,2)) k02 (xi _) Ae ag (λp hp=>?_) (qy ⟨w.heap.size,rfl,br _,ae,R2.z,λi hi=>?_⟩) B2,k02⟩
  .obtain e|e:=List.mem_cons.1 hp
   .subst e;exact ha
   .simp at e;subst e;exact hb
  .have rO:i=0\/i=1:=MZ;rw[R2.c i];obtain rfl|rfl:=rO<;>rfl
end
end
section
open Un
abbrev aL:Nat:=9223372036854775807
def Nf(lv:Nat->Nat)L h:=lv h<=L\/lv h=aL
structure vI(str:sN)(nx:Nx)(ds:List Nat)(lv cB:Nat->Nat)n L(D:Nat->Prop):Prop where
 up:∀m,D m->m∈ds/\nx m=none/\L<lv m/\lv m≠aL/\cB m=aL
 no:∀m,¬D m->cB m=lv m
 hd:∀h,Hd nx n h->D h\/Nf lv L h
 cl:∀a,D a->∀c l,str a=some (c,l)->∀p,p∈l->∀h,Hd nx p h->D h\/Nf lv L h
 re:∀R:Nat->Prop,(∀h,Hd nx n h->R h)->(∀a c l p h,R a->str a=some (c,l)->p∈l->Hd nx p h->R h)->∀a,D a->R a
structure yu(str:sN)(nx:Nx)(ds:List Nat)(lv mj:Nat->Nat)h(l:List Nat)L(D:Nat->Prop):Prop where
 own:D h
 up:∀m,D m->m∈ds/\nx m=none/\L<lv m/\lv m≠aL/\mj m=aL
 no:∀m,¬D m->mj m=lv m
 pt:∀p,p∈l->∀k,Hd nx p k->D k\/Nf lv L k
 cl:∀a,D a->a≠h->∀c l,str a=some (c,l)->∀p,p∈l->∀k,Hd nx p k->D k\/Nf lv L k
 re:∀R:Nat->Prop,R h->(∀a c l p k,R a->str a=some (c,l)->p∈l->Hd nx p k->R k)->∀a,D a->R a
section
variable {nx:Nx} {lv mj:Nat->Nat} {l:List Nat} {D:Nat->Prop}
def vI.nil(hh:Hd nx n h)(hl:Nf lv L h):vI str nx ds lv lv n L (λ_=>False):=
 ⟨λ_ q=>q.elim,λ_ _=>rfl,λk q=>qy (by rw[q.one hh];exact hl),λ_ q=>q.elim,λ_ _ _ _ q=>q.elim⟩
def yu.start(hd:h∈ds)(hn:nx h=none)(hl:L<lv h)(ha:lv h≠aL):yu str nx ds lv (q9 lv h aL) h [] L (λm=>m=h):=
 ⟨rfl,λm q=>by subst q;exact⟨hd,hn,hl,ha,Ob⟩,λm q=>by simp[q9,q],λp q=>by simp at q,λa q r=>absurd q r,λR q _ a r=>by subst r;exact q⟩
theorem yu.step{p}{c}{l0}(hs:str h=some (c,l0))(hp:p∈l0)(k:yu str nx ds lv mj h l L D)(q:vI str nx ds mj cB p L E):yu str nx ds lv cB h (l++[p]) L (λm=>D m\/E m):=by
 have dis:∀m,E m->¬D m:=λm e d=>(q.up m e).2.2.2.1 (k.up m d).2.2.2.2;have low:∀x,Nf mj L x->D x\/Nf lv L x:=λx hx=>by
  by_cases d:D x
  .exact qx d
  .exact qy (by unfold Nf at*;rw[<-k.no x d];exact hx)
 refine⟨qx k.own,λm e=>?_,λm e=>?_,λp' mh x hx=>?_,λa e ne c' l' jD p' mh x hx=>?_,λR r1 r2 a e=>?_⟩
 .by_cases d:E m
  .have⟨u1,u2,u3,u4,u5⟩:=q.up m d;rw[k.no m<|dis m d]at u3 u4;exact⟨u1,u2,u3,u4,u5⟩
  .have⟨u1,u2,u3,u4,u5⟩:=k.up m<|e.resolve_right d;exact⟨u1,u2,u3,u4,(q.no m d).trans u5⟩
 .rw[q.no m<|λd=>e<|qy d,k.no m<|λd=>e<|qx d]
 .obtain mh|mh:=List.mem_append.1 mh
  .exact(k.pt p' mh x hx).imp qx id
  .simp at mh;subst mh;obtain r|r:=q.hd x hx
   .grind
   .grind
 .obtain d|d:=e
  .exact(k.cl a d ne c' l' jD p' mh x hx).imp qx id
  .obtain r|r:=q.cl a d c' l' jD p' mh x hx
   .grind
   .grind
 .obtain d|d:=e
  .exact k.re R r1 r2 a d
  .exact q.re R (λx hx=>r2 h c l0 p x r1 hs hp hx) r2 a d
def yu.done{c}{l0}(hh:Hd nx n h)(hs:str h=some (c,l0))(k:yu str nx ds lv mj h l0 L D):vI str nx ds lv mj n L D:=by
 refine⟨k.up,k.no,λx hx=>qx (by rw[hx.one hh];exact k.own),λa d c' l' jD p hp x hx=>?_,λR r1 r2 a d=>k.re R (r1 h hh) r2 a d⟩;by_cases e:a=h
 .subst e;rw[hs]at jD;injection jD with jD;injection jD with _ e2;subst e2;exact k.pt p hp x hx
 .exact k.cl a d e c' l' jD p hp x hx
theorem yu.abR(hh:Hd nx n h)(hs:str h=none)(k:yu str nx ds lv mj h [] L D):vI str nx ds lv mj n L D:=by
 refine⟨k.up,k.no,λx hx=>qx (by rw[hx.one hh];exact k.own),λa d c' l' jD p hp x hx=>?_,λR r1 r2 a d=>k.re R (r1 h hh) r2 a d⟩;by_cases e:a=h
 .grind
 .exact k.cl a d e c' l' jD p hp x hx
end
def fp(ds:List Nat)(lv:Nat->Nat)L:=ds.countP λm=>decide (L<lv m/\lv m≠aL)
def af8{lv}(h:∀m,L<cB m/\cB m≠aL->L<lv m/\lv m≠aL):fp ds cB L<=fp ds lv L:=List.countP_mono_left λm _ q=>by simpa using h m (by simpa using q)
def af9{lv cB:Nat->Nat}{L x:Nat}(h:∀m,L<cB m/\cB m≠aL->L<lv m/\lv m≠aL)(hx:L<lv x/\lv x≠aL)(uZ:¬(L<cB x/\cB x≠aL)):∀{ds:List Nat},x∈ds->fp ds cB L<fp ds lv L
 |a::ds,hm=>by
  unfold fp;rw[qs,qs];have hle:ds.countP (λm=>decide (L<cB m/\cB m≠aL))<=ds.countP (λm=>decide (L<lv m/\lv m≠aL)):=af8 h;by_cases e:a=x
  .subst e;rw[if_pos<|decide_eq_true hx,if_neg<|by simpa using uZ];omega
  .have:=af9 h hx uZ (ds:=ds) (by obtain q|q:=List.mem_cons.1 hm;exact absurd q.symm e;exact q);unfold fp at this;by_cases q:L<cB a/\cB a≠aL
   .rw[if_pos<|decide_eq_true q,if_pos<|decide_eq_true<|h a q];omega
   .rw[if_neg<|by simpa using q];split<;>omega
def vI.eqv{nx}{lv0 lv}{D:Nat->Prop}(g:GL w ds str nx vr ly lv0)(e:iQ str nx bm)(q:vI str bm ds lv cB n L D):vI str nx ds lv cB n L D:=
 ⟨λm d=>⟨(q.up m d).1,(e.B_ m).1 (q.up m d).2.1,(q.up m d).2.2⟩,q.no,λh k=>q.hd h<|e.kK _ _ k,λa d c l hs p hp h k=>q.cl a d c l hs p hp h<|e.kK _ _ k,λR r1 r2=>q.re R (λh k=>r1 h<|e.back g k)<|λa c l p h ra hs hp k=>r2 a c l p h ra hs hp<|e.back g k⟩
def Ms ds str nx vr ly lv n L w(e:Ending)w':=
 e=.returned (.tuple #[])/\∃bm cB D,GL w' ds str bm vr ly cB/\Fr (λb=>b∈ds) w w'/\iQ str nx bm/\w'.heap.size=w.heap.size/\vI str nx ds lv cB n L D
def aip ds str vr ly k:=∀(w:World)(nx:Nx)(lv:Nat->Nat)(n L:Nat),GL w ds str nx vr ly lv->n∈ds->fp ds lv L<=k->Cq 237 #[nA n,Nv L] w (Ms ds str nx vr ly lv n L w)
def aiq ds str nx vr ly lv h L(l:List Nat)w gk v wr:=
 ∃j gY mj D,Hid (gk=l.length-j)/\j<=l.length/\v=Nv j/\GL wr ds str gY vr ly mj/\Fr (λb=>b∈ds) w wr/\iQ str nx gY/\wr.heap.size=w.heap.size/\yu str nx ds lv mj h (l.take j) L D
def WJ(IH:∀i,i<k->aip ds str vr ly i):aip ds str vr ly k:=by
 intro w nx lv n L ID hn hk;have⟨h,hh⟩:=ID.hd n hn;have hm:=ID.bM hn hh;have HC:=sC ID hn hh;go_enter func237,ntmps237;go_wp2_with fail;refine HC.mono ?_;rintro e w1⟨rfl,dV,G1,F1,E1,z1⟩;clear HC;have⟨c1,f1⟩:=(G1.nd h hm).lvl;have Cg:nx h=none:=hh.head;by_cases hle:lv h<=L
 .have hd:(lv h:Int)<=(L:Int):=ae;have HG:=ai G1;clear G1
  go_wp2
  go_end0;exact⟨rfl,dV,lv,_,uh HG,F1,E1,z1,vI.nil hh<|qx hle⟩
 .have hd:decide ((lv h:Int)<=(L:Int))=false:=bD;by_cases han:lv h=aL
  .have he:((lv h:Int)==(9223372036854775807:Int))=true:=by rw[han];rfl
   have HAN:=ai han;have HG:=ai G1;clear G1 han
   go_wp2
   go_end0;exact⟨rfl,dV,lv,_,uh HG,F1,E1,z1,vI.nil hh<|qy<|uh HAN⟩
  have he:((lv h:Int)==(9223372036854775807:Int))=false:=by simp;intro q;exact han (by show lv h=9223372036854775807;omega)
  have G2:=G1.Vh hm aL;have⟨_,_,_,_,c4⟩:=(G1.nd h hm).cells;have F2:Hid (Fr (λb=>b∈ds) w<|w1.setCell ⟨h,1,none⟩<|Iv 9223372036854775807):=ai<|F1.set (qx hm) 1 _;have HG2:=ai G2;have Z1:=z1;have E1':=ai E1;have J0:Hid (yu str nx ds lv (q9 lv h aL) h [] L<|λm=>m=h):=ai<|yu.start hm Cg ae han;clear G1 G2 F1 z1 E1
  cases hs:str h with
  |none=>
   have c4':w1.cell? ⟨h,4,none⟩=some (.slice (ly h).1 0 (ly h).2):=by rw[c4,hs];rfl
   clear c4
   go_wp2
   go_loopg[29] 0 (λgk v wr=>v=Iv 0/\wr=w1.setCell ⟨h,1,none⟩ (Iv 9223372036854775807))
   case atStart=>exact⟨rfl,rfl⟩
   case round=>
    obtain⟨rfl,rfl⟩:=hrel
    go_wp2
    go_end0;exact⟨rfl,dV,_,_,uh HG2,uh F2,uh E1',qAz,(uh J0).abR hh hs⟩
  |some q=>
   obtain⟨c,l⟩:=q;have c4':w1.cell? ⟨h,4,none⟩=some (.slice (ly h).1 l.length (ly h).2):=by rw[c4,hs];rfl
   have⟨hl1,Nk⟩:=ID.part hm hs;have hdp:fp ds (q9 lv h aL) L<fp ds lv L:=af9 (x:=h) (λm q=>by by_cases e:m=h;subst e;exact⟨ae,han⟩;simpa[q9,e]using q) ⟨ae,han⟩ Ob hm;clear c4;by_cases Dr:l=[]
   .subst Dr;have amh:=c4';clear c4'
    go_wp2
    go_loopg[29] 0 (λgk v wr=>v=Iv 0/\wr=w1.setCell ⟨h,1,none⟩ (Iv 9223372036854775807))
    case atStart=>exact⟨rfl,rfl⟩
    case round=>
     obtain⟨rfl,rfl⟩:=hrel
     go_wp2
     go_end0;exact⟨rfl,dV,_,_,uh HG2,uh F2,uh E1',qAz,(uh J0).done hh hs⟩
   have⟨ga,EGA,_,_⟩:=ID.row hm hs<|List.length_pos_iff.2 Dr;rw[EGA]at c4'
   go_wp2
   go_loopg[29] l.length (λgk v wr=>aiq ds str nx vr ly lv h L l w gk v wr)
   case atStart=>exact⟨0,dV,_,_,ai ag,xh _,rfl,uh HG2,uh F2,uh E1',qAz,by simpa using uh J0⟩
   case round=>
    clear HG2 F2 E1' J0 c4' c1 f1;obtain⟨j,gY,mj,D,cV,hj,rfl,Gj,FJ,EJ,ZJ,JJ⟩:=hrel;by_cases bh:j<l.length
    .have bA:(j:Int)<(l.length:Int):=ae;have Jl:(0:Int)<=(j:Int):=ae;have⟨ga',e1,cg,_⟩:=Gj.row hm hs bh;have e2:=e1.symm.trans EGA;injection e2 with e2;injection e2 with e2;subst e2
     have HCJ:=IH (fp ds (q9 lv h aL) L) ae wr gY mj l[j] L Gj (Nk _<|qf bh) (af8 λm q=>by
      by_cases d:D m
      .exact absurd (JJ.up m d).2.2.2.2 q.2
      .have e:m≠h:=λe=>d<|e▸JJ.own;simp only[q9,e,if_false]
       rw[<-JJ.no m d];exact q)
     clear e1;clear Gj;go_wp2_with fail;refine HCJ.mono ?_;rintro e w2⟨rfl,oD,mS,D2,G2,F2,E2,z2,q2⟩;have HG:=ai G2;have HF:=FJ.trans F2;have HE:=EJ.trans E2;have HZ:=z2.trans ZJ;have HJ2:=JJ.step hs (qf bh)<|q2.eqv ID EJ
     go_wp2
     go_roundg(l.length-(j+1))
     case measure=>rw[uh cV];omega
     case rel=>exact⟨j+1,oD,mS,_,ai rfl,xg bh,i_,uh HG,HF,HE,HZ,by rw[j8 bh];exact HJ2⟩
    .have bA:decide ((j:Int)<(l.length:Int))=false:=bD;have ej:j=l.length:=ae;subst ej;rw[qj]at JJ;have HX:=show Ms ds str nx vr ly lv n L w (Rv<|.tuple #[]) wr from⟨rfl,gY,mj,D,Gj,FJ,EJ,ZJ,JJ.done hh hs⟩
     go_wp2
     go_end0;exact HX
def ahb:∀k,aip ds str vr ly k:=λk=>Nat.strongRecOn k λk ih=>WJ ih
end
section
open Go.MapKept Un
structure OR l B g(s:jc)cnt(ρ:jh)g'(s':jc)(aE:Nat)(dP:jh):Prop where
 st:iY l g s g' s'
 hd:∀m,m∈g.ds->∀x,Hd g'.nx m x↔Hd g.nx m x
 kk:s'.k=s.k
 ext:∀v n,ρ v=some n->dP v=some n
 cc:cnt<=aE
 uu:∀m,s'.u m->s.u m\/(cnt<m/\m<=aE)
 nw:∀v n,ρ v=none->dP v=some n->¬s.u n
 on:∀v v' n,ρ v=none->dP v=some n->dP v'=some n->v=v'
 YK:∀n,s'.u n↔s.u n\/∃v,ρ v=none/\dP v=some n
 eW:∀m,m∈g.ds->g'.lv m=g.lv m/\g'.V m=g.V m
 new:∀m,m∈g'.ds->(m∈g.ds/\g'.ly m=g.ly m/\g'.str m=g.str m)\/(B<=m/\∀gg,(g'.ly m).1=some ⟨gg,0,none⟩->B<=gg)
 nl:∀m,m∈g'.ds->¬m∈g.ds->g'.lv m<=l
section
variable {cnt cT:Nat} {lG:jh}
def OR.refl(h:JS w g s)l B cnt(ρ:jh):OR l B g s cnt ρ g s cnt ρ:=⟨iY.refl h l,λ_ _ _=>Iff.rfl,rfl,λ_ _ q=>q,br _,λ_ q=>qx q,(λv n q r=>qAw),(λv v' n q r=>qAw),λn=>⟨qx,λq=>q.elim id λ⟨v,q,r⟩=>qAw⟩,λ_ _=>⟨rfl,rfl⟩,λm hm=>qx ⟨hm,rfl,rfl⟩,λm hm q=>absurd hm q⟩
theorem OR.trans(h:JS w g s)(h1:JS w1 g1 s1)(h2:JS w2 g2 s2)(a:OR l B g s cnt ρ g1 s1 ak bH)(b:OR l B' g1 s1 ak bH g2 s2 cT lG)(hB:B<=B'):OR l B g s cnt ρ g2 s2 cT lG where
 st:=iY.trans h h1 h2 a.st b.st
 hd m hm x:=(b.hd m (a.st.eW m hm).1 x).trans<|a.hd m hm x
 kk:=b.kk.trans a.kk
 ext v n q:=b.ext v n<|a.ext v n q
 cc:=xd a.cc b.cc
 uu m q:=by
  have:=a.cc;have:=b.cc;obtain q|q:=b.uu m q
  .exact(a.uu m q).imp id λr=>ae
  .omega
 nw v n h0 h2:=by
  cases e:bH v with
  |none=>exact λq=>b.nw v n e h2 ((a.YK n).2<|qx q)|some n'=>
   have:=b.ext v n' e;rw[h2]at this;injection this with this;subst this;exact a.nw v _ h0 e
 on v v' n h0 h2 UC:=by
  cases e:bH v with
  |none=>exact b.on v v' n e h2 UC|some n'=>
   have:=b.ext v n' e;rw[h2]at this;injection this with this;subst this
   cases e':bH v' with
   |none=>exact(b.on v' v n e' UC h2).symm|some n''=>
    have:=b.ext v' n'' e';rw[UC]at this;injection this with this;subst this;exact a.on v v' _ h0 e e'
 YK n:=by
  rw[b.YK n,a.YK n];constructor
  .rintro((q|⟨v,q,r⟩)|⟨v,q,r⟩)
   .exact qx q
   .exact qy ⟨v,q,b.ext v n r⟩
   .refine qy ⟨v,?_,r⟩
    cases e:ρ v with
    |none=>rfl|some n'=>rw[a.ext v n' e]at q;cases q
  .rintro(q|⟨v,q,r⟩)
   .grind
   .cases e:bH v with
    |none=>grind|some n'=>
     have:=b.ext v n' e;rw[r]at this;injection this with this;subst this;exact qx<|qy ⟨v,q,e⟩
 eW m hm:=⟨(b.eW m (a.st.eW m hm).1).1.trans (a.eW m hm).1,(b.eW m (a.st.eW m hm).1).2.trans (a.eW m hm).2⟩
 new m hm:=by
  obtain⟨q1,q2,q3⟩|⟨q1,q2⟩:=b.new m hm
  .obtain⟨r1,r2,r3⟩|⟨r1,r2⟩:=a.new m q1
   .grind
   .grind
  .grind
 nl m hm q:=by
  by_cases q1:m∈g1.ds
  .rw[(b.eW m q1).1];exact a.nl m q1 q
  .exact b.nl m hm q1
end
section
variable {c:JC} {cnt:Nat}
def OR.used(a:OR l B g s cnt ρ g1 s1 ak bH)(h:∀n,s.u n->us cnt n):∀n,s1.u n->us ak n:=λn q=>by
 have:=a.cc;obtain q|q:=a.uu n q
 .have:=h n q;rw[us]at this⊢;omega
 .rw[us];omega
def OR.tJ(a:OR l B' g s cnt ρ g1 s1 ak bH)(h:B<=B'):OR l B g s cnt ρ g1 s1 ak bH:={a with new:=λm hm=>(a.new m hm).imp id λq=>⟨ae,λgg e=>by have:=q.2 gg e;omega⟩}
def JS.one(h:JS w g s)(o:One b w w')(h1:¬b∈g.ds)(h4:∀m∈g.ds,∀c l gg,g.str m=some (c,l)->l≠[]->(g.ly m).1=some ⟨gg,0,none⟩->gg≠b):JS w' g s:=⟨h.gl.one o h1 h4,h.mY,h.inj,h.can,h.lc,h.val,h.use,h.ok⟩
def JE.one(h:JE w c nb l cnt)(o:One b w w')(h1:c.gh<=b)(h2:c.eb<b)(h3:c.cb<b)(h4:c.rb<b)(h5:c.mb<b):JE w' c nb l cnt:=
 ⟨h.bx.same (xc o.size.symm)<|o.block c.eb ae,h.ct.same (xc o.size.symm)<|o.block c.cb ae,h.rs.same<|o.block _ ae,h.ms.move (xc o.size.symm) (o.block _ ae) (λb' p _=>o.block _ (by have:=p.2;omega))<|λ_ p _=>p,⟨h.z.1,h.z.2.1,by rw[o.size];exact h.z.2.2⟩⟩
def JS.air(h:JS w g s)(hm:m∈g.ds){k}{gg}(hs:g.str m=some (k,ps))(hl:ps≠[])(hg:(g.ly m).1=some ⟨gg,0,none⟩):gg<w.heap.size:=by
 have⟨ga,q1,q2,_⟩:=h.gl.row hm hs<|List.length_pos_iff.2 hl;rw[hg]at q1;injection q1 with q1;injection q1 with q1;subst q1;exact fy q2
def Ug{p:Prop}(h:p:=by
 exact qx ⟨(List.mem_cons.1 hm).resolve_left e,by simp[q9,e],by simp[q9,e]⟩):p:=h
def OR.add(h:JS w g s){n:Nat}(hn:B<=n)(nd:¬n∈g.ds){q:BA×List Nat}{a:Option Addr×Nat}{T:Ty}(ha:∀gg,a.1=some ⟨gg,0,none⟩->B<=gg):OR l B g s cnt ρ (g.add n (some q) 0 a l T) s cnt ρ where
 st:=iY.add h nd rfl (λe=>by cases e)
 hd _ _ _:=Iff.rfl
 kk:=rfl
 ext _ _ q:=q
 cc:=br _
 uu _ q:=qx q
 nw v n q r:=qAw
 on v v' n q r:=qAw
 YK n:=⟨qx,λq=>q.elim id λ⟨v,q,r⟩=>qAw⟩
 eW m hm:=by
  have e:m≠n:=λe=>nd<|e▸hm;simp[q9,e]
 new m hm:=by
  by_cases e:m=n
  .subst e;exact qy ⟨hn,λgg q=>ha gg<|by simpa[q9]using q⟩
  .exact Ug
 nl m hm q:=by
  rw[(List.mem_cons.1 hm).resolve_right q];simp[q9]
end
structure OKs(c:JC)l Kb(Tb:Nat->Prop)(K:World->f_->jc->Nat->jh->Prop):Prop where
 af:∀w w' g s cnt ρ,K w g s cnt ρ->Bq w w'->K w' g s cnt ρ
 one:∀w w' g s cnt ρ b,K w g s cnt ρ->One b w w'->Kb<=b->K w' g s cnt ρ
 add:∀w g s cnt ρ n q v a T,K w g s cnt ρ->¬n∈g.ds->K w (g.add n (some q) v a l T) s cnt ρ
 tb:∀b,Tb b->b<Kb
def Jt c nb l(Tb:Nat->Prop)(K:World->f_->jc->Nat->jh->Prop)g(s:jc)cnt(ρ:jh)T w(e:Ending)w':=
 ∃n g' s' aE dP,e=.returned (nA n)/\JE w' c nb l aE/\JS w' g' s'/\K w' g' s' aE dP/\OR l w.heap.size g s cnt ρ g' s' aE dP/\n∈g'.ds/\g'.V n=sub s.k (sub (ja dP) T)/\(∀x,Hd g'.nx n x->g'.lv x<=l)/\(∀v,(aB v T->dP v≠none)/\(¬aB v T->dP v=ρ v))/\aE<=cnt+size T/\Fr (λb=>b=c.cb\/Tb b) w w'
def OfJ c nb l Kb Tb(K:World->f_->jc->Nat->jh->Prop)F(A:Nat->Prop)T:=∀(w:World)(g:f_)(s:jc)(cnt:Nat)(ρ:jh)(Q:Nat->Prop)(v:Value),JE w c nb l cnt->JS w g s->(∀n,s.u n->us cnt n)->K w g s cnt ρ->Kb<=w.heap.size->dD w Q T v->(∀b,Q b->b≠c.cb/\¬Tb b)->size T<=1000->(∀n,aB n T->A n)->cnt+size T<=900000->Cq 40 #[v,Nv l,F] w (Jt c nb l Tb K g s cnt ρ T w)
def akR c nb l(Tb:Nat->Prop)(K:World->f_->jc->Nat->jh->Prop)g(s:jc)cnt(ρ:jh)k(L:List Ty)sa sc w gk v wr:=
 ∃(j:Nat)(C:Array Value)(g':f_)(s':jc)(aE:Nat)(dP:jh)(ps:List Nat),Hid (gk=L.length-j)/\j<=L.length/\v=Nv j/\JE wr c nb l aE/\JS wr g' s'/\K wr g' s' aE dP/\OR l (w.heap.size+2) g s cnt ρ g' s' aE dP/\Fr (λb=>b=c.cb\/Tb b) w wr/\Bx wr w.heap.size #[.string<|pn k,.slice sa L.length sc]/\Bx wr (w.heap.size+1) C/\Hid (C.size=L.length)/\
  Hid (ps.length=j/\(∀m,m∈ps->m∈g'.ds/\∀x,Hd g'.nx m x->g'.lv x<=l)/\ps.map g'.V=(L.take j).map (λt=>sub s.k<|sub (ja dP) t)/\(∀i(h:i<ps.length),C[i]? =some (nA ps[i]))/\(∀v,((∃t,t∈L.take j/\aB v t)->dP v≠none)/\((∀t,t∈L.take j->¬aB v t)->dP v=ρ v))/\aE<=cnt+ah (L.take j))
def wP:∀a b:List Ty,ah (a++b)=ah a+ah b
 |[],b=>by simp[ah]|t::a,b=>by simp only[List.cons_append,ah,wP a b];omega
def BI L(h:j<L.length):ah (L.take<|j+1)=ah (L.take j)+size L[j]/\ah (L.take<|j+1)<=ah L:=by
 have e:ah (L.take<|j+1)=ah (L.take j)+size L[j]:=by rw[j8 h,wP];simp[ah]
 refine⟨e,?_⟩;have:ah (L.take<|j+1)+ah (L.drop<|j+1)=ah L:=by rw[<-wP,ql]
 omega
section
variable {c:JC} {Tb:Nat->Prop} {K:World->f_->jc->Nat->jh->Prop} {F:Value} {A:Nat->Prop}
def aeT{dP}(hc:∀v,aB v t->ρ v≠none)(he:∀v n,ρ v=some n->dP v=some n):sub (ja ρ) t=sub (ja dP) t:=sub_congr t λv o=>by
 unfold ja
 cases e:ρ v with
 |none=>exact absurd e (hc v o)|some n=>rw[he v n e]
def Uh{p:Prop}(h:p:=by
 refine js2.one oc (λq=>?_)<|λy hy c' l' gg e1 e2 e3 e4=>?_
 .obtain⟨q,_⟩|⟨q,_⟩:=or3.new _ q
  .have:=js.lt q;omega
  .omega
 .obtain⟨q1,q2,q3⟩|⟨q1,q2⟩:=or3.new y hy
  .have:=js.air q1 (q3▸e1) e2<|q2▸e3;omega
  .have:=q2 gg e3;omega):p:=h
def Ui{p:Prop}(h:p:=by
 intro y hy;obtain q|q:=List.mem_append.1 hy
 .obtain⟨r1,r2⟩:=x2 y q;refine⟨(Np.st.eW y r1).1,λx k=>?_⟩;have k:=(Np.hd y r1 x).1 k;rw[(Np.eW x<|mn.gl.bM r1 k).1];exact r2 x k
 .simp at q;subst q;exact⟨hm,zP⟩):p:=h
def Uj{p:Prop}(h:p:=by
 intro i hi;by_cases e:i<j
 .rw[Array.getElem?_setIfInBounds_ne ae,x4 i ae,List.getElem_append_left ae]
 .have e:i=j:=MZ;subst e;rw[List.getElem_append_right ae]
  simp[sI,x1]):p:=h
def Uk{p:Prop}(h:p:=by
 cases e:bH v with
 |none=>exact absurd e this|some n=>rw[Np.ext v n e];simp):p:=h
def YI(hF:F=.nilFunc\/∃fn cap,F=.func fn #[] cap)(hK:OKs c l Kb Tb K)k L(IH:∀i(h:i<L.length),OfJ c nb l Kb Tb K F A L[i]):OfJ c nb l Kb Tb K F A (.aJ k L):=by
 intro w g s cnt ρ Q v je js HU hk0 hkb hv hQ hs HA anb
 cases hv with
 |aJ _ _ sa sc vs Ae aN hr=>
 have hL:L.length<=1001:=by have:=wK L;simp[size]at hs;omega
 have fK:ah L<size (.aJ k L):=by simp only[size];omega
 have⟨i0,wY,og,l8,gR⟩:=info_parts wJ;have Nw:=hH (by_:=8) pP wY og rfl l8 gR aw L.length hL;have zc:=je.ct.z;have bP:Bq w ((w.alloc<|Cv #[Sv<|pn k,Lv sa L.length sc] 153).alloc<|Cv (Array.replicate L.length<|.pointer none) 103):=(bw _).alloc ag _;have ST:akR c nb l Tb K g s cnt ρ k L sa sc w L.length (Iv 0) ((w.alloc<|Cv #[Sv<|pn k,Lv sa L.length sc] 153).alloc<|Cv (Array.replicate L.length<|.pointer none) 103):=⟨0,Array.replicate L.length<|.pointer none,g,s,cnt,ρ,[],ai ag,Nat.zero_le _,rfl,je.af bP,js.af bP,hK.af _ _ _ _ _ _ hk0 bP,OR.refl js _ _ _ _,Fr.of bP,(Bx.new w _ _).alloc _,by have:=Bx.new (w.alloc<|Cv #[Sv<|pn k,Lv sa L.length sc] 153) (Array.replicate L.length<|.pointer none) 103;simpa using this,ai ag,ai ⟨rfl,ag,ag,λi hi=>by simp at hi,λv=>⟨ag,λ_=>rfl⟩,by simp[ah]⟩⟩;have HJ:=ai js;have HQ:=ai hQ;have HZ:=And.intro je.z.2.2<|And.intro je.bx.z<|And.intro je.ct.z<|And.intro je.rs.lt je.ms.lt;go_enter func40,ntmps40
 go_wp2
 go_loopg[29] L.length (λgk v wr=>akR c nb l Tb K g s cnt ρ k L sa sc w gk v wr)
 case atStart=>exact ST
 case round=>
  obtain⟨j,C,g1,s1,ak,bH,ps,cV,hj,rfl,EI,mn,k1,sU,F1,HB0,B1,hC,hT⟩:=hrel;have zw:=F1.size;have zb:=B1.z;by_cases bh:j<L.length
  .have hd:(j:Int)<(L.length:Int):=ae;obtain⟨gg,rfl,hg,iP,bQ⟩:∃g,sa=some ⟨g,0,none⟩/\Q g/\g<w.heap.size/\∀i,i<L.length->w.cell? ⟨g,i,none⟩=some (vs i):=by
    obtain h0|h0:=aN
    .subst h0;simp at bh
    .exact h0
   have hQ:=uh HQ;have cg:wr.cell? ⟨gg,j,none⟩=some (vs j):=by
    rw[xj (a:=⟨gg,j,none⟩) (w:=w)<|F1.block gg iP<|λq=>q.elim (hQ gg hg).1 (hQ gg hg).2];exact bQ j bh
   have PJ:=(hr j bh).fr F1<|λb p _ q=>q.elim (hQ b p).1 (hQ b p).2;have⟨tv,xv,hv⟩:=PJ.iface;have⟨x1,x2,x3,x4,x5,x6⟩:=uh hT;have⟨y1,y2⟩:=BI L bh;have HC:=IH j bh wr g1 s1 ak bH Q (vs j) EI mn (sU.used HU) k1 ae PJ hQ ae (λn o=>HA n (by simp only[aB];exact(mR _ _).2 ⟨_,qf bh,o⟩)) ae;rw[hv]at cg HC;have HJ1:=ai mn;have HO1:=ai sU;have Ce:=ai F1;have dA:=ai B1;go_wp2_with fail;refine HC.mono ?_;rintro e w1⟨m,g2,s2,cT,lG,rfl,je2,js2,k2,Np,hm,hV,zP,Iq,BL,F2⟩;have nmr:∀b,w.heap.size<=b->¬(b=c.cb\/Tb b):=λb hb q=>q.elim (λq=>ae) (λq=>by have:=hK.tb b q;omega);have B2:=dA.fr F2<|nmr _ ae;have B02:=HB0.fr F2<|nmr _ ae;have sI:j<C.size:=qBh;have cj:=(B2.c j).trans<|xq sI;have fj:=B2.f j;have B3:=B2.aT j (nA m) (C.setIfInBounds j<|nA m) rfl sI;have B03:=B02.bR (b2:=w.heap.size+1) ae j<|nA m;have Jj:=HO1.trans HJ HJ1 js2 Np ae;have HX:=qz je2<|qz js2<|qz k2<|qz Np<|qz hm<|qz hV<|qz zP<|qz Iq BL;have yE:=Ce.trans F2;have z2:=F2.size
   go_wp2
   go_roundg(L.length-(j+1))
   case measure=>rw[uh cV];omega
   case rel=>
    have⟨x1,x2,x3,x4,x5,x6⟩:=uh hT;obtain⟨je2,js2,k2,Np,hm,hV,zP,Iq,BL⟩:=HX;have or3:=Jj;have mn:=uh HJ1;have js:=uh HJ;have oc:=One.cell w1 (w.heap.size+1) j<|nA m;obtain⟨u1,u2,u3,u4,u5⟩:=HZ;refine⟨j+1,C.setIfInBounds j<|nA m,g2,s2,cT,lG,ps++[m],ai rfl,ae,i_,je2.one oc ae ae ae ae ae,?_,hK.one _ _ _ _ _ _ _ k2 oc ae,or3,yE.set (qy ae) j _,B03,B3,ai (by simp;exact hC),ai ⟨by simp[x1],?_,?_,?_,?_,ae⟩⟩
    .exact Uh
    .exact Ui
    .rw[qi,j8 bh,qi];have e1:=dG λp hp=>(Np.eW p (x2 p hp).1).2;have e2:(L.take j).map (λt=>sub s.k<|sub (ja bH) t)=(L.take j).map (λt=>sub s.k<|sub (ja lG) t):=qr λt ht=>by rw[aeT (λv o=>(x5 v).1 ⟨t,ht,o⟩) Np.ext]
     rw[e1,x3,e2];have:=HO1.kk;simp[hV,this]
    .exact Uj
    .intro v;rw[j8 bh];refine⟨?_,λq=>?_⟩
     .rintro⟨t,ht,o⟩;obtain q|q:=List.mem_append.1 ht
      .have:=(x5 v).1 ⟨t,q,o⟩;exact Uk
      .simp at q;subst q;exact(Iq v).1 o
     .rw[(Iq v).2<|q _<|qm _<|List.mem_singleton.2 rfl,(x5 v).2 λt ht=>q t<|qn _ ht]
  .have hd:decide ((j:Int)<(L.length:Int))=false:=bD;have ej:j=L.length:=ae;subst ej;have c0:=HB0.c 0;have HX:=qz EI<|qz mn<|qz k1<|qz sU<|qz F1<|qz B1 hT;go_wp2_with fail;refine(Ip (w:=wr) (pn k) (l:Int) (some ⟨w.heap.size+1,0,none⟩) L.length L.length).mono ?_;rintro e w3⟨rfl,rfl⟩
   go_wp2
   go_ret;obtain⟨EI,mn,k1,sU,F1,B1,x1,x2,x3,x4,x5,x6⟩:=HX;simp only[qj]at x3 x5 x6;have bZ:Bq wr (wr.alloc<|Cv #[.pointer none,Nv l,Iv 0,Sv<|pn k,Lv (some ⟨w.heap.size+1,0,none⟩) L.length L.length] 171):=bw _;have yL:=B1.alloc<|Cv #[.pointer none,Nv l,Iv 0,Sv<|pn k,Lv (some ⟨w.heap.size+1,0,none⟩) L.length L.length] 171;have hz:¬wr.heap.size∈g1.ds:=λq=>by have:=mn.lt q;omega
   have Xl:¬(w.heap.size+1)∈g1.ds:=λq=>by
    obtain⟨q,_⟩|⟨q,_⟩:=sU.new _ q
    .have:=HJ.lt q;omega
    .omega
   have js3:=mn.ab2 bZ (n:=wr.heap.size) (l:=l) (c:=k) (ps:=ps) (a:=(some ⟨w.heap.size+1,0,none⟩,L.length)) (br _) Ae ae x2 (qy ⟨w.heap.size+1,rfl,(λq=>by
    obtain q|q:=List.mem_cons.1 q
    .omega
    .exact Xl q),yL.z,λi hi=>(yL.c i).trans<|x4 i hi⟩) (by rw[x1];exact(xm wr _).1)
   have or3:OR l w.heap.size g1 s1 ak bH (g1.add wr.heap.size (some (k,ps)) 0 (some ⟨w.heap.size+1,0,none⟩,L.length) l<|.aJ k<|ps.map g1.V) s1 ak bH:=OR.add mn ae hz (λgg e=>by injection e with e;injection e with e;omega);refine⟨wr.heap.size,_,s1,ak,bH,rfl,EI.af bZ,js3,hK.add _ _ _ _ _ _ _ _ _ _ (hK.af _ _ _ _ _ _ k1 bZ) hz,(sU.tJ ae).trans HJ mn js3 or3<|br _,ag,?_,λx q=>?_,λv=>?_,ae,F1.trans<|xo bZ⟩
   .simp only[q9,if_true,sub,iI,x3,qu];rfl
   .have:x=wr.heap.size:=q.one<|.here (mn.gl.out _ hz).1;subst this;simp[q9]
   .simp only[aB];rw[mR];exact⟨(x5 v).1,λq=>(x5 v).2 λt h1 h2=>q ⟨t,h1,h2⟩⟩
end
abbrev anV(kb jb:Nat):Value:=.func (.func 326) #[] #[Pv kb,Pv jb]
structure sM(c:JC)l kb jb mb w(g:f_)(s:jc)(cnt:Nat)(ρ:jh):Prop where
 bk:Bx w kb #[Mv mb]
 bj:Bx w jb #[Pv c.eb]
 mp:∃L:List (Int×Value),MS (λn:Int=>Iv n) w mb L/\∀v:Nat,(ρ v=none/\a_ (v:Int) L=none)\/∃n m,ρ v=some n/\a_ (v:Int) L=some (nA m)/\m∈g.ds/\g.str m=none/\g.vr m=n/\∀x,Hd g.nx m x->g.lv x<=l
 far:c.gh<=mb/\c.eb<mb/\c.cb<mb/\c.rb<mb/\c.mb<mb
section
variable {c:JC} {cnt jb mb:Nat}
def Ul{p:Prop}(h:p:=by
 refine⟨n',m,r1,r2,j9 _ r3,by simp[q9,e,r4],by simp[q9,e,r5],λx k=>?_⟩;by_cases ex:x=n
 .simp[q9,ex]
 .simp only[q9,ex,if_false];exact r6 x k):p:=h
def sM.ks(hk:kb<Kb)(hj:jb<Kb)(hm:mb<Kb):OKs c l Kb (λb=>b=mb) (sM c l kb jb mb) where
 af w w' g s cnt ρ h hb:=by
  have⟨L,h1,h2⟩:=h.mp;exact⟨h.bk.below hb,h.bj.below hb,⟨L,h1.below hb,h2⟩,h.far⟩
 one w w' g s cnt ρ b h o hb:=by
  have⟨L,h1,h2⟩:=h.mp;exact⟨h.bk.same (xc o.size.symm)<|o.block kb ae,h.bj.same (xc o.size.symm)<|o.block jb ae,⟨L,h1.one o ae,h2⟩,h.far⟩
 add w g s cnt ρ n q v a T h hn:=by
  have⟨L,h1,h2⟩:=h.mp;refine⟨h.bk,h.bj,⟨L,h1,λv=>(h2 v).imp id ?_⟩,h.far⟩;rintro⟨n',m,r1,r2,r3,r4,r5,r6⟩;have e:m≠n:=λe=>hn<|e▸r3;exact Ul
 tb b e:=ae
def JS.O7(h:JS w g s)(hm:m∈g.ds)(hs:g.str m=none):g.V m=s.k (g.vr m):=h.val m hm hs
def JS.nX(h:JS w g s)[DecidableEq κ]{enc}{L:List (κ×Value)}(hm:MS enc w b L):¬b∈g.ds/\∀m∈g.ds,∀c l gg,g.str m=some (c,l)->l≠[]->(g.ly m).1=some ⟨gg,0,none⟩->gg≠b:=by
 refine⟨λq=>?_,λm Pr c l gg hs hl hg e=>?_⟩
 .have⟨p,hp⟩:=h.gl.rB q;rw[hm.nW 0]at hp
  cases hp
 .have⟨ga,q1,q2,_⟩:=h.gl.row Pr hs<|List.length_pos_iff.2 hl;rw[hg]at q1;injection q1 with q1;injection q1 with q1;subst q1;rw[e,hm.nW _]at q2
  cases q2
theorem OR.var(h:JS w g s)(hn:B<=n)(nd:¬n∈g.ds)(hu:∀n,s.u n->us cnt n)(hv:ρ v=none)(hr:∀y n',ρ y=some n'->s.u n'):OR l B g s cnt ρ (g.add n none (cnt+1) (none,0) l<|.var<|cnt+1) ⟨s.k,λm=>s.u m\/m=cnt+1⟩ (cnt+1) (λy=>if y=v then some (cnt+1)else ρ y):=by
 have hnu:¬s.u (cnt+1):=λq=>by have:=hu _ q;rw[us]at this;omega
 have hor:∀y n',ρ y=some n'->y≠v:=λy n' q e=>by rw[e,hv]at q;cases q
 refine⟨iY.add h nd rfl (λ_=>br _),λ_ _ _=>Iff.rfl,rfl,λy n' q=>by simp[hor y n' q,q],ae,λm q=>q.imp id λe=>ae,λy n' h0 h1=>?_,λy y' n' h0 h1 h2=>?_,λn'=>⟨?_,?_⟩,λm hm=>?_,λm hm=>?_,λm hm q=>by rw[(List.mem_cons.1 hm).resolve_right q];simp[q9]⟩
 .grind
 .grind
 .grind
 .grind
 .have e:m≠n:=λe=>nd<|e▸hm;simp[q9,e]
 .by_cases e:m=n
  .subst e;exact qy ⟨hn,λgg q=>by simp[q9]at q⟩
  .exact Ug
def sM.rng(h:sM c l kb jb mb w g s cnt ρ)(j:JS w g s):∀y n',ρ y=some n'->s.u n':=λy n' q=>by
 have⟨L,h1,h2⟩:=h.mp;obtain⟨r,_⟩|⟨n,m,r1,r2,r3,r4,r5,r6⟩:=h2 y
 .rw[r]at q;cases q
 .rw[r1]at q;injection q with q;subst q;rw[<-r5];exact j.use m r3 r4
def adf(h:JE w c nb l cnt)(j:JS w g s)(hu:∀n,s.u n->us cnt n)(ha:sM c l kb jb mb w g s cnt ρ)v(hc:cnt+1<=900000):Cq 326 #[Nv v,Pv kb,Pv jb] w (Jt c nb l (λb=>b=mb) (sM c l kb jb mb) g s cnt ρ (.var v) w):=by
 have⟨L,HM,HL⟩:=ha.mp;have hl:=HM.look (KL.num Tryz.underlying85) Tryz.underlying163 (tK w) (v:Int) trivial (λ_ _=>trivial) true;have p9:=ha.bk.c 0;have hcj:=ha.bj.c 0;have hkm:kb≠mb:=λe=>by have:=HM.nW 0;rw[<-e,p9]at this;cases this
 have hjm:jb≠mb:=λe=>by have:=HM.nW 0;rw[<-e,hcj]at this;cases this
 have Ix:c.cb≠mb:=by have:=ha.far.2.2.1;omega
 obtain⟨HR,q⟩|⟨n,m,r1,r2,r3,r4,r5,r6⟩:=HL v
 .rw[q]at hl;simp at hl;have hkc:kb≠c.cb:=λe=>by have:=h.ct.c 0;rw[<-e,p9]at this;simp at this
  have hjc:jb≠c.cb:=λe=>by have:=h.ct.c 0;rw[<-e,hcj]at this;simp at this
  have HV:=oZ h j hu ae;have HA:=ai ha;have HJ:=ai j;go_enter func326,ntmps326;go_wp2_with fail;refine HV.mono ?_;rintro e w1⟨n,rfl,hn,EI,mn,F1⟩;have hc1:=(HA.bk.fr F1 hkc).c 0;have BK1:=HA.bk.fr F1 hkc;have BJ1:=HA.bj.fr F1 hjc;have HM1:=HM.same<|F1.block mb HM.lt<|λe=>Ix e.symm;have HX:=And.intro EI<|And.intro mn F1;go_wp2_with(refine aZ _ rfl _ _ _ _ (Or.inr rfl) (KL.num Tryz.underlying85) Tryz.underlying163 _ _ rfl HM1 (v:Int) (nA n) rfl rfl trivial (λ_ _=>trivial) ?_;intro w' H' O';have yk:=ai H';have O2:=ai O';clear H' O');go_ret;obtain⟨EI,mn,F1⟩:=HX;have O:=uh O2;have j:=uh HJ;have nd:¬n∈g.ds:=λq=>by have:=j.lt q;omega
  have ha:=uh HA;have⟨f1,f2,f3,f4,f5⟩:=ha.far;have⟨n1,n2⟩:=mn.nX HM1;refine⟨n,_,_,cnt+1,_,rfl,EI.one O f1 f2 f3 f4 f5,mn.one O n1 n2,⟨BK1.same (xc O.size.symm)<|O.block kb hkm,BJ1.same (xc O.size.symm)<|O.block jb hjm,⟨_,yk,λy=>?_⟩,ha.far⟩,OR.var j (v:=v) hn nd hu HR<|ha.rng j,ag,?_,λx k=>?_,λy=>⟨λo=>?_,λo=>?_⟩,by simp[size],?_⟩
  .rw[aO];by_cases e:y=v
   .subst e;refine qy ⟨cnt+1,n,ag,ag,ag,Ob,Ob,λx k=>?_⟩;have:x=n:=k.one<|.here (j.gl.out _ nd).1;subst this;simp[q9]
   .have e':¬(v:Int)=(y:Int):=ae;simp only[e,e',if_false];refine(HL y).imp id ?_;rintro⟨n',m,r1,r2,r3,r4,r5,r6⟩;have e:m≠n:=λe=>nd<|e▸r3;exact Ul
  .have hnu:¬s.u (cnt+1):=λq=>by have:=hu _ q;rw[us]at this;omega
   simp[q9,sub,ja,j.ok.out _ hnu]
  .have:x=n:=k.one<|.here (j.gl.out _ nd).1;subst this;simp[q9]
  .simp only[aB]at o;subst o;simp
  .simp only[aB]at o;simp[Ne.symm o]
  .exact⟨O.os.trans F1.os,O.tape.trans F1.tape,O.output.trans F1.output,by rw[O.size];exact F1.size,λk hk hn=>(O.block k<|λe=>hn<|qy e).trans<|F1.block k hk<|λe=>hn<|qx e⟩
 .rw[r2]at hl;simp at hl;have HX:=show Jt c nb l (λb=>b=mb) (sM c l kb jb mb) g s cnt ρ (.var v) w (Rv<|nA m) w from⟨m,g,s,cnt,ρ,rfl,h,j,ha,OR.refl j _ _ _ _,r3,by simp[sub,In.via,r1,j.O7 r3 r4,r5],r6,λy=>⟨λo=>by simp only[aB]at o;subst o;simp[r1],λ_=>rfl⟩,ae,Fr.refl _ _⟩;go_enter func326,ntmps326
  go_wp2
  go_ret;exact HX
end
def Fa(g:f_)l n:=∃S:Nat->Prop,ScD g.str g.ds g.nx S/\(∀x,S x->g.lv x<=l\/g.lv x=aL)/\∀h,Hd g.nx n h->S h
def dY(g:f_)v:=∃x,g.R v x/\g.lv x=aL
structure vE(E:Nat->Prop)l sb w(g:f_)(s:jc)(ρ:jh)M:Prop where
 ms:MS Db w sb M
 kd:∀p,p∈M->p.1∈g.ds
 gm:∀h v,a_ h M=some v->∃m,v=nA m/\m∈g.ds/\g.V m=sub (ja ρ) (g.V h)/\(∀x,Hd g.nx m x->g.lv x<=l)/\∀y,aB y (g.V h)->dY g y->ρ y≠none
 rn:∀v n,ρ v=some n->s.u n/\∃x,g.R v x/\g.lv x=aL/\(a_ x M≠none\/E x)
section
variable {c:JC} {cnt:Nat} {M:List (Nat×Value)}
def vE.any(h:vE E l sb w g s ρ M)(q:ρ v=some n):dY g v:=by
 have⟨_,x,r,q,_⟩:=h.rn v n q;exact⟨x,r,q⟩
def Fa.mv(h:JS w g s)(h1:JS w1 g1 s1)(o:OR l B g s cnt ρ g1 s1 ak bH)(hn:n∈g.ds)(f:Fa g L n):Fa g1 L n:=by
 obtain⟨S,f1,f2,f3⟩:=f;refine⟨λx=>S x/\x∈g.ds,λx hx ET hS k l hs p hp y ky=>?_,λx hx=>by rw[(o.eW x hx.2).1];exact f2 x hx.1,λy ky=>?_⟩
 .have e:=(o.st.eW x hS.2).2.1;rw[e]at hs;have Nm:=(h.gl.part hS.2 hs).2 p hp;have ky':=(o.hd p Nm y).1 ky;exact⟨f1 x hS.2 ((o.hd x hS.2 x).1<|.here ET).head hS.1 k l hs p hp y ky',h.gl.bM Nm ky'⟩
 .have ky':=(o.hd n hn y).1 ky;exact⟨f3 y ky',h.gl.bM hn ky'⟩
def Fa.part{a}{k}(f:Fa g L n)(ha:Hd g.nx n a)(had:a∈g.ds)(hs:g.str a=some (k,ps))(hp:p∈ps):Fa g L p:=by
 obtain⟨S,f1,f2,f3⟩:=f;exact⟨S,f1,f2,λy ky=>f1 a had ha.head (f3 a ha) k ps hs p hp y ky⟩
def dY.back(h:JS w g s)(h1:JS w1 g1 s1)(o:OR l B g s cnt ρ g1 s1 ak bH)(hp:p∈g.ds)(hv:aB v (g.V p))(a:dY g1 v):dY g v:=by
 obtain⟨x,r,q⟩:=a;have⟨y,r0⟩:=h.om hp hv;have⟨b1,b2,b3⟩:=o.st.eW y r0.1;have e:=h1.inj y x b1 r.1 (b2.trans r0.2.2.1) r.2.2.1 (by rw[b3,r0.2.2.2,r.2.2.2]);subst e;exact⟨y,r0,by rw[<-(o.eW y r0.1).1];exact q⟩
def dY.fwd(h:JS w g s)(o:OR l B g s cnt ρ g1 s1 ak bH)(a:dY g v):dY g1 v:=by
 obtain⟨x,r,q⟩:=a;have⟨b1,b2,b3⟩:=o.st.eW x r.1;exact⟨x,⟨b1,((o.hd x r.1 x).2<|.here r.2.1).head,b2.trans r.2.2.1,b3.trans r.2.2.2⟩,by rw[(o.eW x r.1).1];exact q⟩
def aeU(h:JS w g s)(h1:JS w1 g1 s1)(o:OR l B g s cnt ρ g1 s1 ak bH)(hr:∀v n,bH v=some n->dY g1 v)(hp:p∈g.ds)(hc:∀v,aB v (g.V p)->dY g v->ρ v≠none):sub (ja ρ) (g.V p)=sub (ja bH) (g.V p):=sub_congr _ λv ov=>by
 unfold ja
 cases e:ρ v with
 |some n=>rw[o.ext v n e]|none=>
  cases e1:bH v with
  |none=>rfl|some n=>exact absurd e<|hc v ov<|dY.back h h1 o hp ov<|hr v n e1
theorem ais(h:JS w g s)(hr:∀v n,ρ v=some n->dY g v)(hn:n∈g.ds)(hx:Hd g.nx n x)(hl:g.lv x<aL):(∀v,aB v (g.V n)->¬dY g v)/\sub (ja ρ) (g.V n)=g.V n:=by
 have a:∀v,aB v (g.V n)->¬dY g v:=λv ov⟨y,r,q⟩=>by
  have⟨z,r1,q1⟩:=fA (lv:=g.lv) h.jg h.can _ n x hn hx (br _) ov;have e:=h.inj z y r1.1 r.1 r1.2.2.1 r.2.2.1<|r1.2.2.2.trans r.2.2.2.symm;subst e;have:=q1 h.lc;omega
 refine⟨a,In.fs λv ov=>?_⟩;rw[ja]
 cases e:ρ v with
 |none=>rfl|some n=>grind
end
abbrev vrV(c:JC):Value:=.func (.func 310) #[Pv c.eb] #[]
abbrev Mt c l sb:=#[Nv l,vrV c,Mv sb]
def Oc E c nb l sb g(s:jc)cnt(ρ:jh)n w(e:Ending)w':=
 ∃m g' s' aE dP M',e=.returned (nA m)/\JE w' c nb l aE/\JS w' g' s'/\vE E l sb w' g' s' dP M'/\OR l w.heap.size g s cnt ρ g' s' aE dP/\m∈g'.ds/\g'.V m=sub (ja dP) (g.V n)/\(∀x,Hd g'.nx m x->g'.lv x<=l)/\(∀v,aB v (g.V n)->dY g v->dP v≠none)/\(∀v,ρ v=none->dP v≠none->aB v (g.V n))/\aE<=cnt+size (g.V n)/\Fr (λb=>b=c.cb\/b∈g.ds\/b=sb) w w'
def UZ(c:JC)sb:=c.gh<=sb/\c.eb<sb/\c.cb<sb/\c.rb<sb/\c.mb<sb
def aeV c nb l sb k:=∀(w:World)(g:f_)(s:jc)(cnt:Nat)(ρ:jh)(M:List (Nat×Value))(n:Nat),JE w c nb l cnt->JS w g s->(∀n,s.u n->us cnt n)->vE (λ_=>False) l sb w g s ρ M->n∈g.ds->Fa g l n->size (g.V n)<=k->cnt+size (g.V n)<=900000->Cq 328 #[.agg<|Mt c l sb,nA n] w (Oc (λ_=>False) c nb l sb g s cnt ρ n w)
def akS c nb l sb k:=∀(w:World)(g:f_)(s:jc)(cnt:Nat)(ρ:jh)(M:List (Nat×Value))(h:Nat),JE w c nb l cnt->JS w g s->(∀n,s.u n->us cnt n)->vE (λ_=>False) l sb w g s ρ M->h∈g.ds->g.nx h=none->g.lv h=aL->a_ h M=none->Fa g l h->size (g.V h)<=k->cnt+size (g.V h)<=900000->Cq 330 #[.agg<|Mt c l sb,nA h] w (Oc (λx=>x=h) c nb l sb g s cnt ρ h w)
section
variable {c:JC} {cnt:Nat} {M:List (Nat×Value)}
def OR.eqv{bm:Nx}(h:JS w g s)(e:iQ g.str g.nx bm)(hg:GL w' g.ds g.str bm g.vr g.ly g.lv)(B:Nat):OR l B g s cnt ρ {g with nx:=bm} s cnt ρ where
 st:=iY.eqv h e hg l
 hd m _ x:=⟨e.back h.gl,e.kK m x⟩
 kk:=rfl
 ext _ _ q:=q
 cc:=br _
 uu _ q:=qx q
 nw v n q r:=qAw
 on v v' n q r:=qAw
 YK n:=⟨qx,λq=>q.elim id λ⟨v,q,r⟩=>qAw⟩
 eW m _:=⟨rfl,rfl⟩
 new m hm:=qx ⟨hm,rfl,rfl⟩
 nl m hm q:=absurd hm q
def vE.eqv(h:vE E l sb w g s ρ M)(j:JS w g s)(e:iQ g.str g.nx bm)(hms:MS Db w' sb M):vE E l sb w' {g with nx:=bm} s ρ M where
 ms:=hms
 kd:=h.kd
 gm y v q:=by
  have⟨m,r1,r2,r3,r4,r5⟩:=h.gm y v q;exact⟨m,r1,r2,r3,λx k=>r4 x<|e.back j.gl k,λz oz⟨x,⟨a1,a2,a3,a4⟩,b⟩=>r5 z oz ⟨x,⟨a1,(e.B_ x).1 a2,a3,a4⟩,b⟩⟩
 rn v n q:=by
  have⟨q1,x,⟨a1,a2,a3,a4⟩,q2,q3⟩:=h.rn v n q;exact⟨q1,x,⟨a1,(e.B_ x).2 a2,a3,a4⟩,q2,q3⟩
def vE.put{a:Nat}(h:vE (λx=>x=a) l sb w g s ρ M)(hms:MS Db w' sb (bG a (nA m) M))(ha:a∈g.ds)(hm:m∈g.ds)(hV:g.V m=sub (ja ρ) (g.V a))(hl:∀x,Hd g.nx m x->g.lv x<=l)(ho:∀y,aB y (g.V a)->dY g y->ρ y≠none):vE (λ_=>False) l sb w' g s ρ (bG a (nA m) M) where
 ms:=hms
 kd p hp:=by
  have:a_ p.1 (bG a (nA m) M)≠none:=λq=>by
   have:=(uF (x:=p.1) (L:=bG a (nA m) M)).2<|qp hp;rw[q]at this
   cases this
  rw[aO]at this;split at this
  .rename_i e;rw[<-e];exact ha
  .cases e:a_ p.1 M with
   |none=>exact absurd e this|some v=>exact h.kd (p.1,v)<|qM e
 gm y v q:=by
  rw[aO]at q;split at q
  .rename_i e;subst e;injection q with q;exact⟨m,q.symm,hm,hV,hl,ho⟩
  .exact h.gm y v q
 rn v n q:=by
  have⟨q1,x,r,q2,q3⟩:=h.rn v n q;refine⟨q1,x,r,q2,qx ?_⟩;rw[aO];split
  .simp
  .rename_i e;exact q3.resolve_right<|λq=>e q.symm
def Mu{p:Prop}(h:p:=by
 by_cases e:z=n
 .simp[q9,e]
 .simp only[q9,e,if_false];exact r4 z k):p:=h
def vE.var{w1}(h:vE (λ_=>False) l sb w g s ρ M)(j:JS w g s)(hms:MS Db w1 sb M){x n}(hx:x∈g.ds)(hn:g.nx x=none)(hs:g.str x=none)(hl:g.lv x=aL)(hg:a_ x M=none)(nd:¬n∈g.ds)(JT:l<aL):ρ (g.vr x)=none/\vE (λy=>y=x) l sb w1 (g.add n none (cnt+1) (none,0) l<|.var<|cnt+1) ⟨s.k,λm=>s.u m\/m=cnt+1⟩ (λy=>if y=g.vr x then some (cnt+1)else ρ y) M:=by
 have hr:ρ (g.vr x)=none:=by
  cases e:ρ (g.vr x)with
  |none=>rfl|some n'=>
   have⟨_,y,r,_,q⟩:=h.rn _ _ e;have:=j.inj x y hx r.1 hs r.2.2.1 r.2.2.2.symm;subst this;exact(q.resolve_right id hg).elim
 have ne:∀m,m∈g.ds->m≠n:=λm hm e=>nd<|e▸hm;have agI:∀v,dY (g.add n none (cnt+1) (none,0) l<|.var<|cnt+1) v->dY g v:=λv⟨y,⟨r1,r2,r3,r4⟩,q⟩=>by
  by_cases e:y=n
  .subst e;simp[q9]at q;omega
  .exact⟨y,⟨(List.mem_cons.1 r1).resolve_left e,r2,by simpa[q9,e]using r3,by simpa[q9,e]using r4⟩,by simpa[q9,e]using q⟩
 refine⟨hr,hms,λp hp=>j9 _<|h.kd p hp,λy v q=>?_,λv n' q=>?_⟩
 .have⟨m,r1,r2,r3,r4,r5⟩:=h.gm y v q;have hy:y∈g.ds:=by
   have:(y,v)∈M:=qM q;exact h.kd _ this
  refine⟨m,r1,j9 _ r2,?_,λz k=>?_,λz oz az=>?_⟩
  .simp only[q9,ne m r2,ne y hy,if_false];rw[r3];refine sub_congr _ λz oz=>?_;unfold ja;by_cases e:z=g.vr x
   .exact absurd hr (by rw[<-e];exact r5 z oz ⟨x,⟨hx,hn,hs,e.symm⟩,hl⟩)
   .simp[e]
  .exact Mu
  .simp only[q9,ne y hy,if_false]at oz;have:=r5 z oz<|agI z az;by_cases e:z=g.vr x
   .simp[e]
   .simpa[e]using this
 .by_cases e:v=g.vr x
  .simp[e]at q;exact⟨qy q.symm,x,⟨j9 _ hx,hn,by simp[q9,ne x hx,hs],by simp[q9,ne x hx,e]⟩,by simp[q9,ne x hx,hl],qy rfl⟩
  .simp[e]at q;have⟨q1,y,⟨r1,r2,r3,r4⟩,q2,q3⟩:=h.rn v n' q;exact⟨qx q1,y,⟨j9 _ r1,r2,by simp[q9,ne y r1,r3],by simp[q9,ne y r1,r4]⟩,by simp[q9,ne y r1,q2],q3.imp id False.elim⟩
def WL(hf:UZ c sb)(JT:l<aL)(h:JE w c nb l cnt)(j:JS w g s)(hu:∀n,s.u n->us cnt n)(cp:vE (λ_=>False) l sb w g s ρ M)(hx:x∈g.ds)(hn:g.nx x=none)(hl:g.lv x=aL)(hg:a_ x M=none)(hs:g.str x=none)(hc:cnt+1<=900000):Cq 330 #[.agg<|Mt c l sb,nA x] w (Oc (λy=>y=x) c nb l sb g s cnt ρ x w):=by
 have k0:Bq w (w.alloc<|Cv (Mt c l sb) 464):=bw _;have⟨_,_,c3,_,_⟩:=((j.af k0).gl.nd x hx).cells;rw[hs]at c3;have c3':(w.alloc<|Cv (Mt c l sb) 464).cell? ⟨x,3,none⟩=some (Sv ⟨#[]⟩):=c3;have b1:(w.alloc<|Cv (Mt c l sb) 464).cell? ⟨w.heap.size,1,none⟩=some (vrV c):=(Bx.new w (Mt c l sb) 464).c 1;have HV:=oZ (h.af k0) (j.af k0) hu ae;have zc:=h.ct.z;have HX:=ai<|And.intro h<|And.intro j<|And.intro hu cp;have K0:=ai k0;clear h j hu cp k0 c3;go_enter func330,ntmps330;go_wp2_with fail;refine HV.mono ?_;rintro e w1⟨n,rfl,hnn,EI,mn,F1⟩;have HY:=ai<|And.intro EI<|And.intro mn F1;clear HV EI mn F1
 go_wp2
 go_ret;have⟨h,j,hu,cp⟩:=uh HX;have⟨EI,mn,F1⟩:=uh HY;have k0:=uh K0;have zk:=k0.size;have nd:¬n∈g.ds:=λq=>by have:=j.lt q;omega
 have zs:=cp.ms.lt;obtain⟨f1,f2,f3,f4,f5⟩:=hf;have hms:MS Db w1 sb M:=(cp.ms.below k0).same (F1.block sb ae (λe=>by have e:sb=c.cb:=e;omega));have⟨hr,FT⟩:=cp.var j (cnt:=cnt) hms hx hn hs hl hg nd JT;have hV:g.V x=.var (g.vr x):=by have:=j.can x x<|.here hn;rw[hs]at this;exact this
 refine⟨n,_,_,cnt+1,_,M,rfl,EI,mn,FT,OR.var j (v:=g.vr x) ae nd hu hr<|λy n' q=>(cp.rn y n' q).1,ag,?_,λz k=>?_,λv o _=>?_,λv q q'=>?_,by rw[hV];simp[size],?_⟩
 .simp[q9,hV,sub,ja]
 .have:z=n:=k.one<|.here (j.gl.out _ nd).1;subst this;simp[q9]
 .rw[hV]at o;simp only[aB]at o;simp[o]
 .rw[hV];simp only[aB];exact Classical.byContradiction λe=>q' (by simp[Ne.symm e,q])
 .exact(xo k0).trans (F1.gh λb q=>qx q)
def ait(hf:UZ c sb)(JT:l<aL)(HM:akS c nb l sb k):aeV c nb l sb k:=by
 intro w g s cnt ρ M n h j hu cp hn fa hk hc;have⟨a,hd⟩:=j.gl.hd n hn;have ha:=j.gl.bM hn hd;have⟨k0,BA⟩:=oF w (Mt c l sb) 464;have HC:=sC (j.af k0).gl hn hd;have zs:=cp.ms.lt;have lY:∀x∈g.ds,x<w.heap.size:=λx hx=>j.lt hx;have HX:=And.intro h<|And.intro j<|And.intro hu<|And.intro cp fa;have HHD:=ai hd;have K0:=ai k0;go_enter func328,ntmps328;go_wp2_with fail;refine HC.mono ?_;rintro e w1⟨rfl,dV,G1,F1,E1,z1⟩;have j:=HX.2.1;have cp:=HX.2.2.2.1;have hd:=uh HHD;have k0:=uh K0;have zk:=k0.size;have hsd:=(j.nX cp.ms).1;have sQ:¬w.heap.size∈g.ds:=λq=>by have:=lY _ q;omega
 have yL:=BA.fr F1 sQ;have M1:=(cp.ms.below k0).same<|F1.block sb ae hsd;have j1:=j.eqv E1 G1;have FT:=cp.eqv j E1 M1;have o1:OR l w.heap.size g s cnt ρ {g with nx:=dV} s cnt ρ:=OR.eqv j E1 G1 _;have hcb:=HX.1.Ag j;have heb:=HX.1.Af j;have e1:=(HX.1.af k0).fr (j.af k0) (F1.gh λb q=>qy<|qy q) ((HX.1.af k0).bx.fr F1 heb)<|(HX.1.af k0).ct.fr F1 hcb;have FF:Fr (λb=>b=c.cb\/b∈g.ds\/b=sb) w w1:=(xo k0).trans' F1<|λx q=>qx<|qy<|qx q;have⟨sS,_⟩:=(G1.nd a ha).lvl;have hVa:g.V n=g.V a:=by rw[j.can n a hd,j.can a a<|.here hd.head]
 have b2:=yL.c 2;by_cases hla:g.lv a=aL
 .have Nl:∀x∈g.ds,∃c t,w1.heap[x]? =some (Cv c t (0,0)):=λx hx=>⟨_,_,(G1.nd x hx).1⟩;have hl:=M1.look abP Tryz.underlying462 (tK w1) a (Nl a ha) (λp hp=>Nl p.1<|cp.kd p hp) true;rw[hla]at sS
  cases hg:a_ a M with
  |some v=>
   rw[hg]at hl;obtain⟨m,rfl,r2,r3,r4,r5⟩:=FT.gm a v hg;simp at hl;have HY:=show Oc (λ_=>False) c nb l sb g s cnt ρ n w (Rv<|nA m) w1 from⟨m,{g with nx:=dV},s,cnt,ρ,M,rfl,e1,j1,FT,o1,r2,by rw[hVa];exact r3,r4,λv o av=>r5 v (by rw[<-hVa];exact o)<|dY.fwd j o1 av,λv q q'=>absurd q q',ae,FF⟩
   go_wp2
   go_ret;exact HY
  |none=>
   rw[hg]at hl;simp at hl;have fa1:Fa {g with nx:=dV} l a:=by
    have⟨S,f1,f2,f3⟩:=HX.2.2.2.2.mv j j1 o1 hn;exact⟨S,f1,f2,λy ky=>by rw[ky.one<|.here (E1.kK _ _ hd).head];exact f3 a<|E1.kK _ _ hd⟩
   have HD:=HM w1 {g with nx:=dV} s cnt ρ M a e1 j1 HX.2.2.1 FT ha (E1.kK _ _ hd).head hla hg fa1 (by rw[hVa]at hk;exact hk) (by rw[hVa]at hc;exact hc);have b0:=yL.c 0;have b1:=yL.c 1;have zb1:=yL.z;have HY:=qz j1<|qz o1 FF;have HJ0:=ai j;have nbx:¬(w.heap.size=c.cb\/w.heap.size∈g.ds\/w.heap.size=sb):=by
    have:=HX.1.ct.z;rintro(q|q|q)
    .omega
    .exact sQ q
    .omega
   go_wp2_with fail;refine HD.mono ?_;rintro e w2⟨m,g2,s2,cT,lG,M2,rfl,e2,j2,Rc,o2,r1,r2,r3,r4,r5,r6,F2⟩;have b2':=(yL.fr F2 nbx).c 2;have HMS:=ai Rc.ms;have HOK:∀x∈g2.ds,∃c t,w2.heap[x]? =some (Cv c t (0,0)):=λx hx=>⟨_,_,(j2.gl.nd x hx).1⟩;have ha2:=(o2.st.eW a ha).1;have kd2:=ai Rc.kd;have HZ:=qz e2<|qz j2<|qz Rc<|qz o2<|qz r1<|qz r2<|qz r3<|qz r4<|qz r5<|qz r6 F2;go_wp2_with(refine aZ _ rfl _ _ _ _ (qy rfl) abP Tryz.underlying462 _ _ rfl HMS a (nA m) rfl rfl (HOK a ha2) (λp hp=>HOK p.1<|kd2 p hp) ?_;intro w3 H' O';have HM3:=ai H';have O3:=ai O';clear H' O');go_ret;obtain⟨e2,j2,Rc,o2,r1,r2,r3,r4,r5,r6,F2⟩:=HZ;obtain⟨j1,o1,FF⟩:=HY;have O:=uh O3;have j:=uh HJ0;obtain⟨f1,f2,f3,f4,f5⟩:=hf;have⟨n1,n2⟩:=j2.nX Rc.ms;have eV:=(o2.eW a ha).2;refine⟨m,g2,s2,cT,lG,_,rfl,e2.one O f1 f2 f3 f4 f5,j2.one O n1 n2,Rc.put HM3 ha2 r1 (by rw[eV];exact r2) r3<|λy oy ay=>?_,o1.trans j j1 j2 o2 ae,r1,by rw[hVa];exact r2,r3,λv o av=>r4 v (by show aB v (g.V a);rw[<-hVa];exact o) (dY.fwd j o1 av),λv q q'=>by rw[hVa];exact r5 v q q',by rw[hVa];exact r6,?_⟩
   .rw[eV]at oy;exact r4 y oy<|dY.back j1 j2 o2 ha oy ay
   .have F3:=FF.trans F2;exact⟨O.os.trans F3.os,O.tape.trans F3.tape,O.output.trans F3.output,by rw[O.size];exact F3.size,λk hk hn=>(O.block k<|λe=>hn<|qy<|qy e).trans<|F3.block k hk hn⟩
 .have hle:g.lv a<=l:=by
   have⟨S,f1,f2,f3⟩:=HX.2.2.2.2;exact(f2 a<|f3 a hd).resolve_right hla
  have cR:¬((g.lv a:Nat):Int)=9223372036854775807:=by have:l<9223372036854775807:=JT;omega
  have⟨v1,v2⟩:=ais j (λv n=>cp.any) hn hd ae;have HY:=show Oc (λ_=>False) c nb l sb g s cnt ρ n w (Rv<|nA a) w1 from⟨a,{g with nx:=dV},s,cnt,ρ,M,rfl,e1,j1,FT,o1,ha,by rw[v2];exact hVa.symm,(λx k=>by rw[k.one<|.here (E1.kK _ _ hd).head];exact hle),λv o av=>absurd av<|v1 v o,λv q q'=>absurd q q',ae,FF⟩
  go_wp2
  go_ret;exact HY
end
def CpR c nb l sb g(s:jc)cnt(ρ:jh)(L:List Nat)w gk v wr:=
 ∃(j:Nat)(C:Array Value)(g':f_)(s':jc)(aE:Nat)(dP:jh)(M':List (Nat×Value))(ps:List Nat),Hid (gk=L.length-j)/\j<=L.length/\v=Nv j/\JE wr c nb l aE/\JS wr g' s'/\vE (λ_=>False) l sb wr g' s' dP M'/\OR l (w.heap.size+2) g s cnt ρ g' s' aE dP/\Fr (λb=>b=c.cb\/b∈g.ds\/b=sb) w wr/\Bx wr w.heap.size (Mt c l sb)/\Bx wr (w.heap.size+1) C/\Hid (C.size=L.length)/\
  Hid (ps.length=j/\(∀m,m∈ps->m∈g'.ds/\∀x,Hd g'.nx m x->g'.lv x<=l)/\ps.map g'.V=(L.take j).map (λp=>sub (ja dP)<|g.V p)/\(∀i(h:i<ps.length),C[i]? =some (nA ps[i]))/\(∀v,(∃p,p∈L.take j/\aB v (g.V p))->dY g v->dP v≠none)/\(∀v,ρ v=none->dP v≠none->∃p,p∈L.take j/\aB v (g.V p))/\aE<=cnt+ah ((L.take j).map g.V))
def vE.af{M}(h:vE E l sb w g s ρ M)(hb:Bq w w'):vE E l sb w' g s ρ M:=⟨h.ms.below hb,h.kd,h.gm,h.rn⟩
def vE.one{E}{l sb b}{w w'}{g}{s}{ρ}{M}(h:vE E l sb w g s ρ M)(o:One b w w')(hb:sb≠b):vE E l sb w' g s ρ M:=⟨h.ms.one o hb,h.kd,h.gm,h.rn⟩
def vE.add{M}(h:vE (λ_=>False) l sb w g s ρ M)(nd:¬n∈g.ds)q v a T:vE E l sb w (g.add n (some q) v a l T) s ρ M:=by
 have ne:∀m,m∈g.ds->m≠n:=λm hm e=>nd<|e▸hm;refine⟨h.ms,λp hp=>j9 _<|h.kd p hp,λy u r=>?_,λu n' r=>?_⟩
 .have⟨m,r1,r2,r3,r4,r5⟩:=h.gm y u r;have hy:=h.kd _<|qM r;refine⟨m,r1,j9 _ r2,by simp[q9,ne m r2,ne y hy,r3],λz k=>?_,λz oz⟨t,⟨b1,b2,b3,b4⟩,b5⟩=>?_⟩
  .exact Mu
  .simp only[q9,ne y hy,if_false]at oz;have e:t≠n:=λe=>by subst e;simp[q9]at b3
   exact r5 z oz ⟨t,⟨(List.mem_cons.1 b1).resolve_left e,b2,by simpa[q9,e]using b3,by simpa[q9,e]using b4⟩,by simpa[q9,e]using b5⟩
 .have⟨q1,y,⟨r1,r2,r3,r4⟩,q2,q3⟩:=h.rn u n' r;exact⟨q1,y,⟨j9 _ r1,r2,by simp[q9,ne y r1,r3],by simp[q9,ne y r1,r4]⟩,by simp[q9,ne y r1,q2],q3.imp id False.elim⟩
section
variable {c:JC} {cnt:Nat} {M:List (Nat×Value)}
def WM(hf:UZ c sb)(IH:aeV c nb l sb K)(h:JE w c nb l cnt)(js:JS w g s)(hu:∀n,s.u n->us cnt n)(cp:vE (λ_=>False) l sb w g s ρ M)(hx:x∈g.ds)(hn:g.nx x=none)(fa:Fa g l x){k}{L}(hs:g.str x=some (k,L))(hz:size (g.V x)<=K+1)(hc:cnt+size (g.V x)<=900000):Cq 330 #[.agg<|Mt c l sb,nA x] w (Oc (λy=>y=x) c nb l sb g s cnt ρ x w):=by
 have hP:=(js.gl.nd x hx).2.1;rw[hs]at hP;obtain⟨Ae,hL,HLM,aN⟩:=hP;have hV:g.V x=.aJ k (L.map g.V):=by have:=js.can x x<|.here hn;rw[hs]at this;exact this
 have HSZ:size (g.V x)=1+ah (L.map g.V):=by rw[hV];simp[size]
 have⟨i0,wY,og,l8,gR⟩:=info_parts wJ;have Nw:=hH (by_:=8) pP wY og rfl l8 gR aw L.length hL;have k0:Bq w (w.alloc<|Cv (Mt c l sb) 464):=bw _;have bP:Bq w ((w.alloc<|Cv (Mt c l sb) 464).alloc<|Cv (xt L.length<|.pointer none) 103):=(bw _).alloc ag _;have⟨_,_,a3,_,a4⟩:=((js.af k0).gl.nd x hx).cells;rw[hs]at a3 a4;have a3':(w.alloc<|Cv (Mt c l sb) 464).cell? ⟨x,3,none⟩=some (Sv<|pn k):=a3;have a4':(w.alloc<|Cv (Mt c l sb) 464).cell? ⟨x,4,none⟩=some (.slice (g.ly x).1 L.length (g.ly x).2):=a4;have⟨_,_,_,_,d4⟩:=((js.af bP).gl.nd x hx).cells;rw[hs]at d4;have d4':((w.alloc<|Cv (Mt c l sb) 464).alloc<|Cv (xt L.length<|.pointer none) 103).cell? ⟨x,4,none⟩=some (.slice (g.ly x).1 L.length (g.ly x).2):=d4;obtain⟨⟨sa,sc⟩,hly⟩:∃q,g.ly x=q:=⟨_,rfl⟩;rw[hly]at a4' d4';have HLY:=ai hly;have hea:((pn k).toList==[])=false:=by rw[<-Bool.not_eq_true,beq_iff_eq];exact ls Ae
 have zc:=h.ct.z;have zs:=cp.ms.lt;have ST:Hid (CpR c nb l sb g s cnt ρ L w L.length (Iv 0)<|(w.alloc<|Cv (Mt c l sb) 464).alloc<|Cv (Array.replicate L.length<|.pointer none) 103):=ai ⟨0,Array.replicate L.length<|.pointer none,g,s,cnt,ρ,M,[],ai ag,Nat.zero_le _,rfl,h.af bP,js.af bP,cp.af bP,OR.refl js _ _ _ _,Fr.of bP,(Bx.new w _ _).alloc _,by have:=Bx.new (w.alloc<|Cv (Mt c l sb) 464) (Array.replicate L.length<|.pointer none) 103;simpa using this,ai ag,ai ⟨rfl,ag,ag,(λi hi=>by simp at hi),(λv⟨p,q,_⟩=>by simp at q),(λv q q'=>absurd q q'),by simp[ah]⟩⟩;have HJ:=ai js;have HV:=ai hV;have HZ:=ai<|And.intro h.z.2.2<|And.intro h.bx.z<|And.intro h.ct.z<|And.intro h.rs.lt h.ms.lt;have xlt:=js.lt hx;clear h js cp k0 bP a3 a4 d4 aN hV hly;go_enter func330,ntmps330
 go_wp2
 go_loopg[27] L.length (λgk v wr=>CpR c nb l sb g s cnt ρ L w gk v wr)
 case atStart=>exact ST
 case round=>
  clear ST a3' a4' d4' hea Nw;obtain⟨j,C,g1,s1,ak,bH,M1,ps,cV,hj,rfl,EI,mn,FT,sU,F1,B0,B1,hC,hT⟩:=hrel;have zw:=F1.size;have zb:=B1.z;have VO:x∈g1.ds/\g1.ly x=g.ly x/\g1.str x=some (k,L):=by
   have⟨b1,b2,b3⟩:=sU.st.eW x hx;obtain⟨_,q2,_⟩|⟨q,_⟩:=sU.new x b1
   .exact⟨b1,q2,b2.trans hs⟩
   .omega
  have Xq:∀p,p∈L->g1.V p=g.V p:=λp hp=>(sU.eW p<|HLM p hp).2;have sz:=HSZ;by_cases bh:j<L.length
  .have hd:(j:Int)<(L.length:Int):=ae;have⟨ga,ea,ra,_⟩:=mn.gl.row VO.1 VO.2.2 bh;rw[VO.2.1,uh HLY]at ea;have ea:=ea;subst ea;have⟨x1,x2,x3,x4,x5,x6,x7⟩:=uh hT;have hjm:j<(L.map g.V).length:=by simpa using bh
   have⟨y1,y2⟩:=BI (L.map g.V) hjm;simp only[List.getElem_map,<-List.map_take]at y1 y2;have hpm:=qf bh;have Nm:=HLM _ hpm;have HC:=IH wr g1 s1 ak bH M1 L[j] EI mn (sU.used hu) FT (sU.st.eW _ Nm).1 ((fa.part (.here hn) hx hs hpm).mv HJ mn sU Nm) (by rw[Xq _ hpm];omega) (by rw[Xq _ hpm];omega);have b0:=B0.c 0;have b1:=B0.c 1;have b2:=B0.c 2;have HY:=ai<|qz mn<|qz sU<|qz F1<|qz B0<|qz B1 FT;have EQV:=ai Xq;have nm:∀b,w.heap.size<=b->b<w.heap.size+2->¬(b=c.cb\/b∈g1.ds\/b=sb):=λb q1 q2=>by
    rintro(q|q|q)
    .omega
    .obtain⟨q,_⟩|⟨q,_⟩:=sU.new b q
     .have:=HJ.lt q;omega
     .omega
    .omega
   clear EI mn FT sU F1 B0 B1 x1 x2 x3 x4 x5 x6 x7 Xq VO sz;go_wp2_with fail;refine HC.mono ?_;rintro e w1⟨m,g2,s2,cT,lG,M2,rfl,je2,js2,Rc,Np,hm,hVm,zP,Iq,Cf,BL,F2⟩;have⟨mn,sU,F1,B0,B1,FT⟩:=uh HY;have B2:=B1.fr F2<|nm _ ae ae;have B02:=B0.fr F2<|nm _ ae ae;have sI:j<C.size:=qBh;have cj:=(B2.c j).trans<|xq sI;have fj:=B2.f j;have B3:=B2.aT j (nA m) (C.setIfInBounds j<|nA m) rfl sI;have B03:=B02.bR (b2:=w.heap.size+1) ae j<|nA m;have Jj:=sU.trans HJ mn js2 Np ae;have HD:=qz je2<|qz js2<|qz Rc<|qz Np<|qz hm<|qz hVm<|qz zP<|qz Iq<|qz Cf BL
   have yE:=ai (F1.trans' F2 (λb q=>by
    obtain q|q|q:=q
    .exact qx (qx q)
    .obtain⟨q,_⟩|⟨q,_⟩:=sU.new b q
     .exact qx (qy<|qx q)
     .exact qy ae
    .exact qx (qy<|qy q)))
   have z2:=F2.size;clear HC F2 F1 B0 B1 B2 B02 mn sU FT je2 js2 Rc Np hm hVm zP Iq Cf BL nm b0 b1 b2 ra
   go_wp2
   go_roundg(L.length-(j+1))
   case measure=>rw[uh cV];omega
   case rel=>
    have⟨x1,x2,x3,x4,x5,x6,x7⟩:=uh hT;obtain⟨je2,js2,Rc,Np,hm,hVm,zP,Iq,Cf,BL⟩:=HD;have⟨mn,sU,F1,B0,B1,FT⟩:=uh HY;have or3:=Jj;have js:=uh HJ;have Xq:=uh EQV;have oc:=One.cell w1 (w.heap.size+1) j<|nA m;have⟨u1,u2,u3,u4,u5⟩:=uh HZ;have hp1:=(sU.st.eW _ Nm).1;refine⟨j+1,C.setIfInBounds j<|nA m,g2,s2,cT,lG,M2,ps++[m],ai rfl,ae,i_,je2.one oc ae ae ae ae ae,?_,Rc.one oc ae,or3,yE.set (qy ae) j _,B03,B3,ai (by simp;exact hC),ai ⟨by simp[x1],?_,?_,?_,?_,?_,by rw[Xq _ hpm]at BL;omega⟩⟩
    .exact Uh
    .exact Ui
    .rw[qi,j8 bh,qi];have e1:ps.map g2.V=ps.map g1.V:=dG λp hp=>(Np.eW p (x2 p hp).1).2;have e2:(L.take j).map (λp=>sub (ja bH)<|g.V p)=(L.take j).map (λp=>sub (ja lG)<|g.V p):=qr λp hp=>by
      have Xm:p∈L:=List.mem_of_mem_take hp;have hpg:=HLM p Xm
      have:=aeU mn js2 Np (λv n=>Rc.any) (sU.st.eW p hpg).1 (λv ov av=>by
       rw[Xq p Xm]at ov
       exact x5 v ⟨p,hp,ov⟩<|dY.back js mn sU hpg ov av)
      rw[Xq p Xm]at this;exact this
     rw[e1,x3,e2];simp[hVm,Xq _ hpm]
    .exact Uj
    .rintro v⟨p,hp,o⟩av;rw[j8 bh]at hp;obtain q|q:=List.mem_append.1 hp
     .have:=x5 v ⟨p,q,o⟩ av;exact Uk
     .simp at q;subst q;exact Iq v (by rw[Xq _ hpm];exact o)<|dY.fwd js sU av
    .intro v q q';rw[j8 bh]
     cases e:bH v with
     |none=>
      have:=Cf v e q';rw[Xq _ hpm]at this;exact⟨L[j],qm _<|List.mem_singleton.2 rfl,this⟩
     |some n=>
      have⟨p,hp,o⟩:=x6 v q (by rw[e];simp);exact⟨p,qn _ hp,o⟩
  .have hd:decide ((j:Int)<(L.length:Int))=false:=bD;have ej:j=L.length:=ae;subst ej;have b0:=B0.c 0;have⟨_,_,a3,_,_⟩:=(mn.gl.nd x VO.1).cells;rw[VO.2.2]at a3;have a3':wr.cell? ⟨x,3,none⟩=some (Sv<|pn k):=a3;have HY:=ai<|qz EI<|qz mn<|qz FT<|qz sU<|qz F1<|qz B1 hT;clear EI mn FT sU F1 B0 B1 hT Xq VO sz a3
   go_wp2
   go_region_held3(λw'=>w'.cell? ⟨w.heap.size,0,none⟩=some (Nv l)/\w'.cell? ⟨x,3,none⟩=some (Sv<|pn k)) (first|go_keep|(simp[*])) (first
    |(go_at_call 64;go_loud(refine(Ip _ _ _ _ _).mono ?_);rintro e w3⟨rfl,rS⟩;have k3:Bq wr w3:=(by rw[rS];exact(xn _ _).drew.alloc (br _) _);have N3:w3.heap[wr.heap.size]? =some (Cv #[.pointer none,Nv l,Iv 0,Sv<|pn k,Lv (some ⟨w.heap.size+1,0,none⟩) L.length L.length] 171 (0,0)):=(by rw[rS];exact(xm wr.drew _).1);have s2:w3.cell? ⟨w.heap.size,0,none⟩=some (Nv l):=(xj (a:=⟨w.heap.size,0,none⟩) (w:=wr)<|k3.block w.heap.size ae).trans b0;have s3:w3.cell? ⟨x,3,none⟩=some (Sv<|pn k):=(xj (a:=⟨x,3,none⟩) (w:=wr)<|k3.block x ae).trans a3';have K3:=ai k3;have N3':=ai N3;clear rS k3 N3))
   go_wp2
   go_ret;have⟨EI,mn,FT,sU,F1,B1,x1,x2,x3,x4,x5,x6,x7⟩:=uh HY;simp only[qj]at x3 x5 x6 x7;have bZ:=uh K3;have yL:=B1.below bZ;have js:=uh HJ;have hV:=uh HV;have hz:¬wr.heap.size∈g1.ds:=λq=>by have:=mn.lt q;omega
   have Xl:¬(w.heap.size+1)∈g1.ds:=λq=>by
    obtain⟨q,_⟩|⟨q,_⟩:=sU.new _ q
    .have:=js.lt q;omega
    .omega
   have js3:=mn.ab2 bZ (n:=wr.heap.size) (l:=l) (c:=k) (ps:=ps) (a:=(some ⟨w.heap.size+1,0,none⟩,L.length)) (br _) Ae ae x2 (qy ⟨w.heap.size+1,rfl,(λq=>by
    obtain q|q:=List.mem_cons.1 q
    .omega
    .exact Xl q),yL.z,λi hi=>(yL.c i).trans<|x4 i hi⟩) (by rw[x1];exact N3')
   have or3:OR l w.heap.size g1 s1 ak bH (g1.add wr.heap.size (some (k,ps)) 0 (some ⟨w.heap.size+1,0,none⟩,L.length) l<|.aJ k<|ps.map g1.V) s1 ak bH:=OR.add mn ae hz (λgg e=>by injection e with e;injection e with e;omega);refine⟨wr.heap.size,_,s1,ak,bH,M1,rfl,EI.af bZ,js3,(FT.af bZ).add hz _ _ _ _,(sU.tJ ae).trans js mn js3 or3<|br _,ag,?_,λz q=>?_,λv o av=>?_,λv q q'=>?_,by rw[HSZ];omega,F1.trans<|xo bZ⟩
   .rw[hV];simp only[q9,if_true,sub,iI,x3,qu];rfl
   .have:z=wr.heap.size:=q.one<|.here (mn.gl.out _ hz).1;subst this;simp[q9]
   .rw[hV]at o;simp only[aB]at o;have⟨t,h1,h2⟩:=(mR _ _).1 o;obtain⟨p,h3,rfl⟩:=List.mem_map.1 h1;exact x5 v ⟨p,h3,h2⟩ av
   .have⟨p,h1,h2⟩:=x6 v q q';rw[hV];simp only[aB];exact(mR _ _).2 ⟨_,qp h1,h2⟩
def aiu(hf:UZ c sb)(JT:l<aL)(IH:aeV c nb l sb K):akS c nb l sb (K+1):=by
 intro w g s cnt ρ M x h j hu cp hx hn hl hg fa hz hc
 cases hs:g.str x with
 |none=>exact WL hf JT h j hu cp hx hn hl hg hs (by have:=size_pos<|g.V x;omega)|some q=>
  obtain⟨k,L⟩:=q;exact WM hf IH h j hu cp hx hn fa hs hz hc
def afq(hf:UZ c sb)(JT:l<aL):∀K,aeV c nb l sb K
 |0=>λw g s cnt ρ M n h j hu cp hn fa hk hc=>by have:=size_pos<|g.V n;omega|K+1=>ait hf JT<|aiu hf JT<|afq hf JT K
end
structure AJ w c nb l cnt g(s:jc):Prop where
 je:JE w c nb l cnt
 js:JS w g s
 us:∀n,s.u n->us cnt n
 lv:∀n,n∈g.ds->g.nx n=none->g.lv n<=l\/g.lv n=aL
 lo:∀n,n∈g.ds->c.lo<=n
structure gi l c(w:World)g(s:jc)w1 g1(s1:jc):Prop where
 st:iY l g s g1 s1
 an:∀m,m∈g.ds->∀h,Hd g.nx m h->g.lv h=aL->Hd g1.nx m h/\g1.lv h=aL
 lo:∀m,m∈g.ds->∀h h',Hd g.nx m h->Hd g1.nx m h'->∀i,i<=l->g.lv h<=i->g1.lv h'<=i
 nw:∀m,m∈g1.ds->m∈g.ds\/w.heap.size<=m
 fr:Fr (jS c g) w w1
 ky:∀v,s1.k v=sub s1.k (s.k v)
 um:∀n,s.u n->s1.u n
structure np l(g:f_)(s:jc)n T:Prop where
 mem:n∈g.ds
 val:g.V n=sub s.k T
 lv:∀x,Hd g.nx n x->g.lv x<=l
structure Cj(g:f_)(s:jc)(d:In.I7)m:Prop where
 mem:m∈g.ds
 val:g.V m=sub s.k d.of
 any:∀v,v∈d.any↔aB v (g.V m)/\dY g v
 use:∀n,aB n d.of->s.u n
 sub:∀v,v∈d.any->aB v d.of
def b_ w nb(Γ:jd)g(s:jc):=∃L,MG Value.string w nb L/\∀x,(Γ x=none/\a_ x L=none)\/∃d m,Γ x=some d/\a_ x L=some (nA m)/\Cj g s d m
section
variable {c:JC} {cnt:Nat}
def Gg(h:∀v,s1.k v=sub s1.k (s.k v))T:sub s1.k (sub s.k T)=sub s1.k T:=by
 rw[sub_sub];exact sub_congr _ λv _=>(h v).symm
def AJ.hd(a:AJ w c nb l cnt g s)(hm:m∈g.ds)(k:Hd g.nx m h):g.lv h<=l\/g.lv h=aL:=a.lv h (a.js.gl.bM hm k) k.head
def gi.refl(h:JS w g s)c l:gi l c w g s w g s:=⟨.refl h l,λm _ h k e=>⟨k,e⟩,λm _ h h' k k' i _ z=>by rw[k'.one k];exact z,λm hm=>qx hm,.refl _ _,λv=>(h.ok.rA<|.var v).symm,λ_ q=>q⟩
def gi.trans{Wa Wb Wc:World}(h:JS Wa g s)(h1:JS Wb g1 s1)(h2:JS Wc g2 s2)(a:gi l c w g s w1 g1 s1)(b:gi l c w1 g1 s1 w2 g2 s2):gi l c w g s w2 g2 s2 where
 st:=a.st.trans h h1 h2 b.st
 an m hm x k e:=by have⟨k1,e1⟩:=a.an m hm x k e;exact b.an m (a.st.eW m hm).1 x k1 e1
 lo m hm x x' k k' i hi z:=by
  have⟨y,hy⟩:=h1.gl.hd m (a.st.eW m hm).1;exact b.lo m (a.st.eW m hm).1 y x' hy k' i hi<|a.lo m hm x y k hy i hi z
 nw m hm:=by
  obtain q|q:=b.nw m hm
  .exact a.nw m q
  .exact qy (xd a.fr.size q)
 fr:=a.fr.trans' b.fr λx q=>by
  obtain q|q|q:=q
  .omega
  .omega
  .exact(a.nw x q).imp (λz=>qy<|qy z) id
 ky v:=by rw[b.ky v,a.ky v,Gg b.ky]
 um n q:=b.um n<|a.um n q
def gi.le(a:gi l c w g s w1 g1 s1)(hl:l'<=l):gi l' c w g s w1 g1 s1:={a with st:=⟨a.st.eW,a.st.val,λi hi=>a.st.Vh i ae⟩,lo:=λm hm x x' k k' i hi=>a.lo m hm x x' k k' i<|by omega}
def np.dX{T}(r:np l g s n T)(h:JS W g s)(a:gi l c w g s w1 g1 s1):np l g1 s1 n T:=by
 have⟨x,hx⟩:=h.gl.hd n r.mem;exact⟨(a.st.eW n r.mem).1,by rw[a.st.val n r.mem,r.val,Gg a.ky],λy hy=>a.lo n r.mem x y hx hy l (br _)<|r.lv x hx⟩
def gi.ady(a:gi l c w g s w1 g1 s1)(q:dY g v):dY g1 v:=by
 obtain⟨x,⟨r1,r2,r3,r4⟩,e⟩:=q;have⟨k,e1⟩:=a.an x r1 x (.here r2) e;have⟨o1,o2,o3⟩:=a.st.eW x r1;exact⟨x,⟨o1,k.head,o2.trans r3,o3.trans r4⟩,e1⟩
def gi.root{W}(a:gi l c w g s w1 g1 s1)(h1:JS W g1 s1){v}(q:dY g v):s1.k v=.var v:=by
 have⟨x,r,_⟩:=a.ady q;exact(h1.root r).2
def gi.back(hl:l<aL)(aj:AJ V c nb l cnt g s)(h1:JS W g1 s1)(a:gi l c w g s w1 g1 s1)(hm:m∈g.ds)(o:aB v (g1.V m))(q:dY g1 v):aB v (g.V m)/\dY g v:=by
 rw[a.st.val m hm]at o;have⟨u,ou,ov⟩:=(jx _).1 o;have⟨y,hy⟩:=aj.js.gl.hd m hm;have⟨x,r,_⟩:=fA (lv:=g.lv) aj.js.jg aj.js.can _ m y hm hy (br _) ou;obtain z|z:=aj.lv x r.1 r.2.1
 .exfalso;have⟨o1,o2,o3⟩:=a.st.eW x r.1;have⟨x',uZ⟩:=h1.gl.hd x o1;have ez:=a.lo x r.1 x x' (.here r.2.1) uZ l (br _) z;have ov':aB v (g1.V x):=by rw[h1.val x o1<|o2.trans r.2.2.1,o3,r.2.2.2];exact ov
  have⟨x2,r2,e2⟩:=fA (lv:=g1.lv) h1.jg h1.can _ x x' o1 uZ (br _) ov';obtain⟨x3,r3,e3⟩:=q;have e2:=e2 h1.lc;rw[r2.one h1.jg r3,e3]at e2;omega
 .have qa:dY g u:=⟨x,r,z⟩;rw[a.root h1 qa]at ov;simp only[aB]at ov;subst ov;exact⟨ou,qa⟩
def Cj.dX{d:In.I7}(n:Cj g s d m)(hl:l<aL)(aj:AJ V c nb l cnt g s)(h1:JS W g1 s1)(a:gi l c w g s w1 g1 s1):Cj g1 s1 d m where
 mem:=(a.st.eW m n.mem).1
 val:=by rw[a.st.val m n.mem,n.val,Gg a.ky]
 any v:=by
  rw[n.any v];refine⟨λq=>⟨?_,a.ady q.2⟩,λq=>a.back hl aj h1 n.mem q.1 q.2⟩;rw[a.st.val m n.mem];exact(jx _).2 ⟨v,q.1,by rw[a.root h1 q.2];rfl⟩
 use k q:=a.um k<|n.use k q
 sub:=n.sub
def b_.dX{Γ}(e:b_ w nb Γ g s)(hl:l<aL)(aj:AJ w c Iy l cnt g s)(h1:JS w1 g1 s1)(a:gi l c w g s w1 g1 s1):b_ w1 nb Γ g1 s1:=by
 obtain⟨L,h,q⟩:=e;refine⟨L,h.fr a.fr ?_,λx=>(q x).imp id λ⟨d,m,q1,q2,q3⟩=>⟨d,m,q1,q2,q3.dX hl aj h1 a⟩⟩;rintro(z|z|z)
 .have:=aj.je.ct.c 0;rw[<-z,h.bE 0]at this;simp at this
 .have:=aj.je.bx.c 0;rw[<-z,h.bE 0]at this;simp at this
 .exact(aj.js.nX h.ms).1 z
def OR.stj(o:OR l B g s cnt ρ g1 s1 ak bH)(h:JS w g s)(hB:w.heap.size<=B)(hf:Fr (jS c g) w w1):gi l c w g s w1 g1 s1 where
 st:=o.st
 an m hm x k e:=⟨(o.hd m hm x).2 k,by rw[(o.eW x<|h.gl.bM hm k).1];exact e⟩
 lo m hm x x' k k' i _ z:=by
  rw[((o.hd m hm x').1 k').one k,(o.eW x<|h.gl.bM hm k).1];exact z
 nw m hm:=(o.new m hm).imp (λq=>q.1) λq=>by have:=q.1;omega
 fr:=hf
 ky v:=by rw[o.kk];exact(h.ok.rA<|.var v).symm
 um n q:=(o.YK n).2<|qx q
def OR.aj(o:OR l B g s cnt ρ g1 s1 ak bH)(a:AJ w c nb l cnt g s)(hB:w.heap.size<=B)(je:JE w1 c nb l ak)(js:JS w1 g1 s1):AJ w1 c nb l ak g1 s1 where
 je:=je
 js:=js
 us:=o.used a.us
 lv n hm e:=by
  by_cases q:n∈g.ds
  .have k:=(o.hd n q n).1<|.here e;rw[(o.eW n q).1];exact a.lv n q k.head
  .exact qx (o.nl n hm q)
 lo n hm:=by
  obtain q|q:=o.new n hm
  .exact a.lo n q.1
  .have h1:=q.1;have h2:=a.je.z;have:=a.je.bx.z;omega
end
end
end Go.Proofs.YtlnlhlefeokfjaaGreatDoor
