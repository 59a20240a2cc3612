import Derived.Test.YtfnkchdeheeiiaaGreatDoorCBo
import Derived.Test.YtfnkchdeheeiiaaGreatDoorCXx
import Derived.Test.YtfnkchdeheeiiaaGreatDoorCXu
set_option linter.all false
set_option maxRecDepth 100000
set_option maxHeartbeats 8000000
namespace Go.Proofs.YtfnkchdeheeiiaaGreatDoor
open In renaming via->ja,St->jc,Env->jd,Rn->jf,andM->jh,eh->ji,arr->jj,inf->jk,Mks->jl,over->jm,ij->jo,gC->jp,MM->jq,uQ->jt,p_->ju,dl->jv,oN->jx,Me->jy,bZ->jz,gR->j3,cS->j5,pA->j6,ya->j7,DW->j8
open _root_.List renaming take_succ_eq_append_getElem->j9,mem_cons_of_mem->qc,getElem_mem->qd,drop_eq_getElem_cons->qe,getElem_cons_zero->qf,getElem_cons_succ->qg,map_append->qh,take_length->qi,drop_zero->qk,take_append_drop->ql,mem_append_right->qm,mem_append_left->qn,mem_map_of_mem->qp,map_congr_left->qr,countP_cons->qs,mem_append->qt,map_map->qu
open Or renaming inl->qv,inr->qw
open And renaming intro->qx
open Pu renaming bC->qy,Tok->qz
open _root_.Nat renaming le_of_eq->q9,le_trans->xc,lt_of_lt_of_le->xd,succ_le_of_lt->xf,zero_le->xg,not_lt_zero->xh,le_succ->xi
open Un renaming dQ->xj
open Go.World renaming cell?_of_block->xk
open Go.ByteArray renaming toList_eq->xm
open Go.RowKit.Below renaming refl->xn,heap_setCell->xo
open Go.MapKept renaming heap_alloc->xq
open Go.Value renaming string->xt
open Fr renaming of->xw
open _root_.Array renaming getElem?_eq_getElem->xy,replicate->zd
open Ne renaming symm->zh
open Go Go.RowKit Go.ChangeMaps Proofs.Tryz
variable {k st:BA} {dom:BA->Prop} {e:Ending} {g g1 g2:fB} {Γ:jd} {z:In.Ft} {mk:jl} {ρ lB:jf} {s s0 s1 s2:jc} {A:List (Nd×Nd)} {nl:List BA} {ds ps:List Nat} {B B' D K Kb L b ak f gb gv h j jb kb l l' m mb n nb QA p sb sc:Nat} {cq vr:Nat->Nat} {ly:Nat->Option Addr×Nat} {E P Q S Λ:Nat->Prop} {nd y:Nd} {κ:Type} {ba:Un.Nx} {str:Un.vB} {T t:Un.Ty} {v vl vx vy x:Value} {c:WC} {V W w w' w0 w1 w2:World}
def Kx(T:List qz):∀f l,aR T<|lC T f l
 |0,l=>λk h=>cO _ h|f+1,l=>λk h=>by unfold lC;rw[if_neg ae];exact cO _ h
def yB(T:List qz):∀f l k a k',lC T f l k=.ok (a,k')->k<=k'
 |0,l,k,a,k',h=>by cases h;omega|f+1,l,k,a,k',h=>by
  unfold lC at h;split at h
  .have:=yB T f _ _ _ _ h;omega
  .cases h;omega
def CH{T}(hT:0<T.length){sm}:aR T (dJ T (dd T sm) T.length []):=by
 obtain⟨L,hL⟩:∃L,T.length=L+1:=⟨T.length-1,ae⟩;rw[hL];intro k h;rw[lI];exact bT (uJ _ _ k h) λ_=>iR _ _ _ _
def uK{T:List qz}{mk:M Nd}(hm:lN mk):∀f l k a k',dJ T mk f l k=.ok (a,k')->k<=k'
 |0,l,k,a,k',h=>by cases h;omega|f+1,l,k,a,k',h=>by
  rw[lI]at h;have⟨_,k1,h1,h2⟩:=aw h;have:=hm _ _ _ h1;rw[kL]at h2;split at h2
  .have:=uK hm f _ _ _ _ h2;omega
  .cases h2;omega
def QName:EQ qz:=λ_ _ t c=>c 0=Nv t.al/\c 1=Nv t.to/\c 2=.string (t.text.extract 1 t.text.size)/\(∃r,t.text.toList=39::r)/\t.to=t.al+t.text.size
def dc:fO QName:=by grind[fO,QName]
def Yo:(Tryz.prog.info? 133).map (λi=>(i.zero,i.size,i.bytes))=some (some<|.agg #[Iv 0,Iv 0,.string ⟨#[]⟩],3,32):=qkr
def LN:Tryz.prog.underlying 134=some (.slice 133):=qkr
def PD(w:World)(P:Nat->Prop):Dc->Value->Prop
 |.ty t vs ms,v=>∃(f u:Int)(vv vm:Value),v=.iface 137 (.agg #[Iv f,Iv u,Nv t.al,Nv t.to,.string t.text,vv,vm])/\mN t.text/\t.to=t.al+t.text.size/\RowV QName 3 w P vs vv/\ms≠[]/\RowV QMaker 6 w P ms vm|.lt r t b,v=>∃(f u:Int)(vb:Value),v=.iface 144 (.agg #[Iv f,Iv u,.bool r,Nv t.al,Nv t.to,.string t.text,vb])/\zM t.text/\t.to=t.al+t.text.size/\PE w P b vb
theorem PD.move{w w'}{P Q}{d}{v}(h:PD w P d v)(hs:w.heap.size<=w'.heap.size)(hb:∀b,P b->b<w.heap.size->w'.heap[b]? =w.heap[b]?)(hq:∀b,P b->b<w.heap.size->Q b):PD w' Q d v:=by
 cases d with
 |ty t vs ms=>
  obtain⟨f,u,vv,vm,h1,h2,h3,h4,h5,h6⟩:=h;exact⟨f,u,vv,vm,h1,h2,h3,h4.move dc hs hb hq,h5,h6.move bS hs hb hq⟩
 |lt r t b=>
  obtain⟨f,u,vb,h1,h2,h3,h4⟩:=h;exact⟨f,u,vb,h1,h2,h3,h4.move hs hb hq⟩
def PD.iface{d}(h:PD w P d v):∃t x,v=.iface t (.agg x):=by
 cases d with
 |ty t vs ms=>obtain⟨f,u,vv,vm,h1,_⟩:=h;exact⟨_,_,h1⟩
 |lt r t b=>obtain⟨f,u,vb,h1,_⟩:=h;exact⟨_,_,h1⟩
def abw N rb sb m s k2 nb NC w r(G:List qz->M Dc)(gk:Nat)(v:Value)(wr:World):=
 ∃(kr:Nat)(V:List qz)(f:Nat)(va:Option Addr)(vc:Nat),v=.slice va V.length vc/\cz N rb sb m s r w nb NC (aM (lC (qy s 0) f V) G) (λw'=>dt QName 133 3 w' (nb+1) va vc V) kr wr/\Hid (gk=(qy s 0).length-kr)/\k2<=kr/\V.length<=kr/\(qy s 0).length<=kr+f
section
variable {N rb:Nat} {m:MV} {s:BA} {k:Nat}
def Yp{t}(h:fP t)(hk:t.kind≠6):((aq t).toList==[97,32,118,97,114,105,97,98,108,101])=(t.kind==3):=by
 obtain h'|h'|h'|h'|h'|h'|h':=h.kd
 .rw[iL h'];simp[h',xm]
 .rw[gO h'];simp[h',xm]
 .rw[gP h'];simp[h',xm]
 .rw[iM h'];simp[h',xm]
 .have:=lj h hk (kd:=sP) aK h';rw[show sP.toList=[97,32,118,97,114,105,97,98,108,101]from toList_mk _]at this;rw[this];simp[h']
 .exact absurd h' hk
 .rw[iN h'];simp[h',xm]
def yC(h:SX w N rb sb m s k)(hs:s.size<=1000)(h3:(tk (qy s 0) k).kind=3):Cq 245 #[rp rb] w (ap (Is<|.agg #[Nv (tk (qy s 0) k).al,Nv (tk (qy s 0) k).to,.string<|(tk (qy s 0) k).text.extract 1 (tk (qy s 0) k).text.size]) N rb sb m s (.ok ((),k+1)) w):=
 (jH h.rd hs (pd s k h.lt) h3<|dX s k h.lt).mono λ_ _ q=>q.x h ae rfl
def So(hs:s.size<=1000)(IH:eP s n)(h:SX w N rb sb m s k)(hn:(qy s 0).length<=k+1+n):
 Cq 179 #[rp rb] w (ap PD N rb sb m s (Ia (qy s 0) (bP (qy s 0) n) k) w):=by
 have Th:=gK;have VL:=jI;refine cz.xN h rfl λH=>?_;go_enter func179,ntmps179;go_wp2_with fail;refine(H.re<|congrFun (lG _ _ _) _).take ?_;intro w1 H;go_wp2_with fail;refine H.call (Bi hs IH H.sx ae) ?_;intro b k2 v2 w2 H q V;obtain⟨ve,rfl,V,-⟩:=V;obtain⟨te,xe,rfl⟩:=V.iface;clear V;go_wp2_with fail;refine H.box.take ?_;intro w3 H;have⟨_,c1,f1,z1⟩:=H.p
 go_wp2
 go_region_with(go_at_call 105;refine H.drew.since ?_;intro w5 H;have⟨_,c1,f1,z1⟩:=H.p)
 all_goals(
  go_wp2
  go_ret;refine H.done ?_;rintro⟨⟨_,ve,e,A,_,C,D⟩,_⟩
  cases e
  exact⟨_,_,_,rfl,C,D,A⟩)
def LO(hs:s.size<=1000)(hT:(qy s 0).length<=1001)(h:SX w N rb sb m s k)(hn:(qy s 0).length<=k+1+n):
 Cq 178 #[rp rb] w (ap PD N rb sb m s (Bb (qy s 0) (dd (qy s 0)<|AL s n) k) w):=by
 have Th:=gK;have VL:=jI;have hT0:0<(qy s 0).length:=by have:=h.lt;omega
 have hz:=h.z;obtain⟨r,hr⟩:∃r,r=Bb (Pu.bC s 0) (dd (Pu.bC s 0)<|AL s n) k:=⟨_,rfl⟩;rw[<-hr];refine cz.xN h hr λH=>?_;clear hr;go_enter func178,ntmps178;go_wp2_with fail;refine H.take ?_;intro w1 H;go_wp2_with fail;have lt1:=H.sx.lt;refine H.call (sT H.sx hs 2 FY<|Or.inr ⟨rfl,rfl⟩) ?_;intro t k2 v w2 H q V
 cases V
 have Ht:=ai<|IB q lt1;have ek:=eE _ _ _ _ q;have z2:=H.ke.size;clear q;go_wp2_with fail;have H:=H.own (D:=#[Nv t.al,Nv t.to,Sv t.text]) (t:=133);have hk2:=H.sx.lt;go_loopg[5] ((qy s 0).length-k2) (λgk v wr=>abw N rb sb m s k2 w2.heap.size #[Nv t.al,Nv t.to,Sv t.text] w r (λvs=>aM (bt (qy s 0) MO) λ_=>aM (dJ (qy s 0) (dd (qy s 0)<|AL s n) (qy s 0).length []) λms=>aM (bt (qy s 0) xR) λ_ k=>.ok (Dc.ty t vs ms,k)) gk v wr)
 case atStart=>exact⟨k2,[],(qy s 0).length,none,0,rfl,H.row dc (dt.nil _ _ _ _ _) ⟨ae,.inr ae⟩,ai rfl,br _,ag,ae⟩
 case round=>
  clear H;obtain⟨kr,V,f,va,vc,rfl,H,c_,hle,hVl,hfu⟩:=hrel;have VT:=H.sx.lt;have ho:=dX s kr VT;have hkv:=Yp ho H.sx.ok;have⟨c,ff,z⟩:=H.sx.bx;by_cases h3:(tk (qy s 0) kr).kind=3
  .rw[h3]at hkv;obtain⟨f,rfl⟩:∃f',f=f'+1:=⟨f-1,ae⟩;have H:=H.re (g':=aM pi λ_=>aM (lC (qy s 0) f<|V++[(tk (qy s 0) kr)])<|λvs=>aM (bt (qy s 0) MO) λ_=>aM (dJ (qy s 0) (dd (qy s 0)<|AL s n) (qy s 0).length []) λms=>aM (bt (qy s 0) xR) λ_ k=>.ok (Dc.ty t vs ms,k)) (by rw[aM];rw[show lC (qy s 0) (f+1) V kr=lC (qy s 0) f (V++[(tk (qy s 0) kr)]) (kr+1)from if_pos h3];rfl);have zr:=H.xz;have VU:=H.p.block;have Hin:=ai<|qx (ho.v3 h3) (nO s kr VT).sp;go_wp2_with fail;refine H.call (yC H.sx hs h3) ?_;intro _ _ _ w1' H q V'
   cases V'
   cases q
   clear c ff z hkv;go_wp2_with(at_builtin;go_must(refine H.append (D:=[Nv (tk (qy s 0) kr).al,Nv (tk (qy s 0) kr).to,Sv<|(tk (qy s 0) kr).text.extract 1 (tk (qy s 0) kr).text.size]) hT dc Yo LN H.p.1 (wr:=wr) zr (λb e=>(VU b e).2) (a:=(tk (qy s 0) kr)) (c:=λj=>([Nv (tk (qy s 0) kr).al,Nv (tk (qy s 0) kr).to,Sv<|(tk (qy s 0) kr).text.extract 1 (tk (qy s 0) kr).text.size]:List Value).getD j Zv) ⟨rfl,rfl,rfl,Hin.1,Hin.2⟩ ae ?_ ⟨ae,.inr ae,H.xz⟩;intro q3 c3 w3 H));go_roundg((qy s 0).length-(kr+1))
   case measure=>rw[uh c_];omega
   case rel=>exact⟨kr+1,V++[(tk (qy s 0) kr)],f,_,c3,ag,H,ai rfl,ae,bQ,ae⟩
  .rw[show((tk (qy s 0) kr).kind==3)=false by simp[h3]]at hkv;have H:=H.re (g':=(λvs=>aM (bt (qy s 0) MO) λ_=>aM (dJ (qy s 0) (dd (qy s 0)<|AL s n) (qy s 0).length []) λms=>aM (bt (qy s 0) xR) λ_ k=>.ok (Dc.ty t vs ms,k)) V) (by rw[aM];rw[show lC (qy s 0) f V kr=.ok (V,kr) by cases f with|zero=>rfl|succ f=>exact if_neg h3]);have H:=(H.add (Q:=λw'=>RowV QName 3 w' (λb=>w.heap.size<=b) V<|Lv va V.length vc) λw' a b=>(H.p.v dc).move dc a (λc p z=>b c z (by have p':w2.heap.size+1<=c:=p;omega) (by have p':w2.heap.size+1<=c:=p;omega)) λc p _=>by have p':w2.heap.size+1<=c:=p;show w.heap.size<=c;omega).imp λ_ h=>h.2;go_wp2_with fail;clear c ff z;refine H.take ?_;intro w3 H;go_wp2_with fail;refine H.call (zX (n:=n) hs hT H.sx ae) ?_ (mv:=λ_ _ _ _ _ _ h a b c=>⟨h.1,h.2.move bS a b c⟩);intro ms k4 v4 w4 H q Y;obtain⟨va4,L4,vc4,rfl⟩:∃va L vc,v4=Lv va L vc:=by obtain⟨_,_,_,_,rfl,-⟩:=Y;exact⟨_,_,_,rfl⟩
   clear q Y;go_wp2_with fail;refine H.take ?_;intro w5 H;have⟨c1,f1,y1⟩:=H.bo ae
   go_wp2
   go_region_with(go_at_call 105;refine H.drew.since ?_;intro w6 H;have⟨c6,f6,y6⟩:=H.bo ae)
   all_goals(
    go_wp2
    go_ret;refine H.done ?_;rintro⟨X,Y⟩
    exact⟨_,_,_,_,rfl,Ht.1,Ht.2,X,Y⟩)
end
section
open Go.MapKept Un
section
variable {cnt:Nat} {g:jd}
def Sp w C1 C2 v wc:=∃p,v=Pv p/\w.heap.size<p/\Bx wc w.heap.size C1/\Bx wc p C2/\Bq w wc
theorem Sp.a w C1 C2 t1 t2:Sp w C1 C2 (Pv<|w.heap.size+1) ((w.alloc<|.cells C1 t1).alloc<|.cells C2 t2).drew:=by
 have⟨p,q,h1,h2,h3,h4,h5,h6,h7⟩:=pk.a w C1 C2 t1 t2;injection h1 with h1;injection h1 with h1;injection h1 with h1;injection h2 with h2;injection h2 with h2;injection h2 with h2;subst h1 h2;exact⟨_,rfl,Nat.lt_succ_self _,h5,h6,h7⟩
def acR{R}{ab}(hs:eU w (oT c gv) ab (λv=>(R v).map Ty.var))(mK:oT c gv ab)(ht:cR w P t v)(hz:size t<=1000)(DL:Whole t)(hcb:c.cb<w.heap.size)(hgv:gv<w.heap.size):
 Cq 314 #[Mv ab,v] w (λe w'=>∃tr xr,e=.returned (.iface tr xr)/\TW w' (oT c gv) 1100 (sub (ja R) t) (.iface tr xr)/\Bq w w'):=by
 have ev:BL (λv=>(R v).map Ty.var)=ja R:=by
  funext v;show((R v).map Ty.var).getD (.var v)=_;rw[ja]
  cases R v<;>rfl
 have Mq:=Eh hs mK ht ae (by rw[ev,gW];omega);rw[ev]at Mq;refine Mq.mono ?_;rintro e w'⟨u,rfl,Qw,hk⟩;obtain⟨tr,xr,rfl⟩:=Qw.iface;have QJ:=oo R _ DL;refine⟨tr,xr,rfl,⟨⟨_,Qw.wide λi p=>by obtain p|p:=p;exact p;exact⟨ae,ae⟩,(dF.refl _).cut QJ,?_⟩,QJ⟩,hk⟩;have hlq:(vars []<|sub (ja R) t).length<=1000:=by
  rw[cr];have h2:=cU (occs<|sub (ja R) t) [];have h3:=cV<|sub (ja R) t;rw[gW]at h3;simp only[vf]at h2;omega
 have:=eW QJ hlq ae;omega
def ahE c gv cnt(s:jc)w(R:jf)(p:jq (Ty×jd))Λ tk m L C1 C2 pb ab gk v1 v31 wr:=
 ∃j cj sj kj g D,Hid (gk=L.length-j)/\j<=L.length/\v1=Mv kj/\v31=Nv j/\ZX c gv cnt s w R p Λ tk m L j wr cj sj kj g D/\Bx wr w.heap.size C1/\Bx wr pb C2/\eU wr (oT c gv) ab (λv=>(R v).map Ty.var)
def yD tk m i(h:i<tk.length):size tk[i]<=size (jj tk m)/\(Whole (jj tk m)->Whole tk[i])/\∀v,aD v tk[i]->aD v (jj tk m):=by
 induction tk generalizing i with
 |nil=>simp at h|cons t tk ih=>
  have e:jj (t::tk) m=In.v9 t (jj tk m):=rfl;rw[e]
  cases i with
  |zero=>
   refine⟨by simp only[qf,size,ah];omega,λq=>q.2.1,λv q=>?_⟩;simp only[aD,bK,or_false];exact qv q
  |succ i=>
   have⟨h1,h2,h3⟩:=ih i DQ;refine⟨by simp only[qg,size,ah];omega,λq=>h2 q.2.2.1,λv q=>?_⟩;simp only[aD,bK,or_false];exact qw<|h3 v q
def Yq tk m:Whole (jj tk m)->Whole m:=by
 induction tk with
 |nil=>exact id|cons t tk ih=>exact λq=>ih q.2.2.1
def PQ{p:Prop}(h:p:=by
 rw[cr];have h2:=cU (occs m) [];have h3:=cV m;simp only[vf]at h2
 omega):p:=h
def abx{t a y}{L}{sa}{vs:Nat->Value}(H:∀i(h:i<L.length),T8 L[i])(h:PaA (.mk 2 st n L f t a) c w cnt s kb Λ g gv Q (.iface 307<|.agg #[Nv f,Nv t,Nv a,Nv y,.string st,.slice sa L.length sc]))(aN:L=[]\/∃g,sa=some ⟨g,0,none⟩/\Q g/\g<w.heap.size/\∀i,i<L.length->w.cell? ⟨g,i,none⟩=some (vs i))(hr:∀i(h:i<L.length),PP w Q L[i]<|vs i):
 Cq 360 #[Pv c.eb,Mv kb,Mv gv,.agg #[Nv f,Nv t,Nv a,Nv y,.string st,.slice sa L.length sc]] w (dR c gv (1100*nn (.mk 2 st n L f t a)) (1000*nn (.mk 2 st n L f t a)) (ji c.mks (.mk 2 st n L f t a) g) s cnt w):=by
 have en:nn (.mk 2 st n L f t a)=1+bY L:=by simp[nn]
 obtain⟨tk,m,hx,hl,hsc⟩:∃tk m,c.mks st=some (tk,m)/\L.length=tk.length/\∀i(h:i<L.length),qC c.mks c.nl L[i]:=by
  cases h.sc with
  |up _ _ _ _ _ _ tk m hx hl hr=>exact⟨tk,m,hx,hl,hr⟩|leaf _ _ _ _ _ _ hk=>omega
 obtain⟨p,hp⟩:∃p,p=ji c.mks (.mk 2 st n L f t a) g:=⟨_,rfl⟩;have kO:=hp;rw[wK hx]at kO;rw[<-hp,en];have Tc:=h.ft.a;have ftb:=h.ft.b;rw[en]at Tc ftb;have eG:=h.mf.sz st tk m hx;have DL:=h.mf.wh st tk m hx;have hvs:=h.mf.vs st tk m hx;have has:=qN tk m;have wj:(vars [] m).length<=size m:=by
  exact PQ
 obtain⟨R,hR⟩:∃R,R=o7 cnt (vars [] m):=⟨_,rfl⟩;have MR:ZW c cnt tk m R:=⟨hR,λi hi v o=>hvs v<|(yD tk m i hi).2.2 v o⟩;have hta:∀i(h:i<tk.length),size tk[i]<=1000/\Whole tk[i]:=λi hi=>⟨Nat.le_trans (yD tk m i hi).1 eG,(yD tk m i hi).2.1 DL⟩;have hwm:=Yq tk m DL;have k0:Bq w (w.alloc<|Cv #[Nv f,Nv t,Nv a,Nv y,Sv st,Lv sa L.length sc] 307):=bw _;have⟨v,hv,sg⟩:=h.we.ms.look hx;obtain⟨ma,mc,ta,xa,rfl,hmr,iE⟩:=hv;have zc:=h.we.dh;have lg:=h.e.lt;have lgl:=h.l;have⟨l1,l2,l3,l4,l5⟩:=h.we.l;have⟨d1,d2,d3⟩:=h.we.d;have aby:=sg (w.alloc<|Cv #[Nv f,Nv t,Nv a,Nv y,Sv st,Lv sa L.length sc] 307).drew<|k0.drew.block c.mb ae;have k00:Bq w ((w.alloc<|Cv #[Nv f,Nv t,Nv a,Nv y,Sv st,Lv sa L.length sc] 307).alloc<|Cv #[Lv none 0 0,Zv] 470):=k0.alloc k0.size _;have abz:=sg _<|k00.drew.block c.mb ae;have⟨e1,e2,e3⟩:=h.we.bx;have aj1:size m<=1000:=ae;have hln:L.length<=1000:=ae;clear k00;have HA:=ai h;have HL:=ai hl;have HM:=ai<|And.intro hmr iE;have HT:=ai hta;have HS:=ai hsc;have HP':=ai kO;have MR':=ai MR;clear h sg hmr iE hta hsc k0 hp kO hvs DL eG MR hl;go_enter func360,ntmps360;go_wp2_with fail;go_cut[10]from 16 (λv1 wc=>Sp w #[Nv f,Nv t,Nv a,Nv y,Sv st,Lv sa L.length sc] #[Lv ma tk.length mc,Fv ta xa] v1 wc)
 case first=>
  go_region
  all_goals(
   go_wp2_with fail
   go_meet
   case rel=>exact Sp.a w _ _ _ _)
 case rest=>
  obtain⟨pb,rfl,zp,X1,X2,kc⟩:=hcut;clear aby abz e1 e2 e3;have h:=uh HA;have HRN:=Aj (h.we.af kc) ((HM.2.w.af kc)) ae ae;obtain⟨x1,x2,x3⟩:=X2;have X1':=ai X1;have X2':=show Bx wc pb #[Lv ma tk.length mc,Fv ta xa]from⟨x1,x2,x3⟩;have KC:=ai kc;clear X1 kc h;go_wp2_with fail;refine HRN.mono ?_;rintro e w2⟨ab,rfl,mK,Zi,AR,F2⟩;clear HRN x1 x2 x3;have h:=uh HA;have zkc:=KC.size;have F02:Fr (λi=>i=c.cb\/i=gv) w w2:=((xw KC).trans F2).fD λ_ q=>qv q;have FB:=(xw (S:=λi=>i=c.cb) KC).trans F2;have X1:=X1'.fr F2 ae;have X2:=X2'.fr F2 ae;rw[<-hR]at AR;have SB:eU w2 (oT c gv) ab (λv=>(R v).map Ty.var):=AR.bare;have M0':ZX c gv cnt s w R p Λ tk m L 0 w2 (cnt+(vars [] m).length) s kb g (λ_=>False):=by
   have k2:=h.wk.fr F02;refine⟨F02,Zi,⟨k2.k,k2.n,λn q=>by have:=k2.u n q;unfold us at*;omega,k2.ok,k2.wh⟩,h.hn,h.e.move F02.size (FB.block _ h.e.lt ae) (λb p z=>FB.block b z p.1)<|λ_ p _=>p,h.i,by rw[wJ];exact In.m5.zero Λ s,λv n _ q z=>?_,λn q=>qv q,br _,by rw[qk];omega,λo ho=>by rw[wJ]at ho;rw[uh HP'];exact ho⟩;have:=MR'.num q;have:=h.wk.u n z;rw[us]at this;omega
  have SB':=ai SB;have T1:=ai X1;have T2:=ai X2;obtain⟨y1,y2,y3⟩:=X1;clear h Zi AR F2 F02 FB X2 SB X1' X2' KC
  go_wp2
  go_loopg[1,31] L.length (λgk v1 v31 wr=>ahE c gv cnt s w R p Λ tk m L #[Nv f,Nv t,Nv a,Nv y,Sv st,Lv sa L.length sc] #[Lv ma tk.length mc,Fv ta xa] pb ab gk v1 v31 wr)
  case atStart=>exact⟨0,_,_,_,_,_,ai ag,xg _,rfl,rfl,M0',T1,T2,SB'⟩
  case round=>
   clear M0' SB' T1 T2 y1 y2 y3;obtain⟨j,cj,sj,kj,gj,D,c_,hj,rfl,rfl,MS,X1,X2,SB2⟩:=hrel;have h:=uh HA;have zcr:=MS.we.dh;have lgr:=MS.e.lt;have zab:=SB2.lt;have nab:oT c gv ab:=⟨ae,ae⟩;by_cases bh:j<L.length
   .have bA:(j:Int)<(L.length:Int):=ae;have Ej:(0:Int)<=(j:Int):=ae;have hjt:j<tk.length:=by have:=uh HL;omega
    have afo:(j:Int)<(tk.length:Int):=ae;obtain⟨gg,rfl,hQ,hz,bU⟩:=aN.resolve_left<|λe=>qBs;have LQ:=hr j bh;have cg:=(xk (a:=⟨gg,j,none⟩)<|MS.F.block gg hz λq=>q.elim (h.hq gg hQ).1 (h.hq gg hQ).2).trans<|bU j bh;have⟨tx,ax,evs⟩:=LQ.iface;rw[evs]at cg LQ;have Ji:=LQ.place;dsimp only[PlF]at Ji;have hdn:bY (L.drop j)=nn L[j]+bY (L.drop<|j+1):=by rw[qe bh];rfl
    have mc2:=MS.c2;have mc1:=MS.c1;have hnj:nn L[j]<=bY L:=by
     have:bY (L.take j)+bY (L.drop j)=bY L:=by rw[<-qT,ql]
     omega
    have H1:=H j bh c wr cj sj kj Λ gj gv Q _ ⟨MS.we,MS.wk,MS.n,MS.e,MS.i,h.l,LQ.move MS.F.size (λb p z=>MS.F.block b z λq=>q.elim (h.hq b p).1 (h.hq b p).2)<|λ_ p _=>p,h.hq,HS j bh,⟨ae,ae,h.ft.l⟩,h.mf⟩;obtain⟨gt,vt,rfl,pgt,zgt,hct⟩:=HM.1.resolve_left (λe=>by subst e;simp at hjt);have⟨CT,TT⟩:=hct j hjt;have⟨tb,xb,evt⟩:=TT.w.iface;rw[evt]at CT TT;have B1:=ai X1;have B2:=ai X2;have HWU:=ai h.wk.u;obtain⟨y1,y2,y3⟩:=X1;clear X2 h LQ bU hct;go_wp2_with fail;refine H1.mono ?_;intro e w3 hp3;clear H1 y1 y2 y3 cg;obtain⟨c3,zz,vl,vr,rfl,q⟩|⟨c3,T3,g3,s3,ta3,xa3,kb3,rfl,q⟩:=hp3.split
    .have HP:=MS.no (S:=1100*(1+bY L)) (DD:=1000*(1+bY L)) HL bh (br _) q;clear hp3 q
     go_wp2
     exact⟨rfl,HP⟩
    have⟨s4,mt⟩:=MS.arg (DD:=0) MR' HL bh HWU q;have aj2:=mt.c1;have aj4:=mt.c2;have zmt:=mt.we.dh;have zgm:=mt.e.lt;have F3:=q.F;have Jf:=mt.F;have ahF:=SB2.fr F3 (λr=>r.elim nab.1 nab.2)<|λb p _ r=>r.elim p.1 p.2;have ct3:=(xk (a:=⟨gt,j,none⟩)<|Jf.block gt zgt (by have:=pgt;omega)).trans CT;have tt3:=TT.w.move (Q:=λ_=>True) Jf.size (λb p z=>Jf.block b z (by have:=p;omega))<|λ_ _ _=>trivial;have⟨ht1,ht2⟩:=uh HT j hjt;have yE:=acR ahF nab tt3 ht1 ht2 zmt zgm;have y9:=B1.fr F3 ae;have X2:=B2.fr F3 ae;obtain⟨x1,x2,x3⟩:=X2;have UF:=show Bx w3 pb #[Lv (some ⟨gt,0,none⟩) tk.length mc,Fv ta xa]from⟨x1,x2,x3⟩;have MT:=ai mt;have T3':=ai q.t;clear hp3 q mt F3 Jf tt3 B1 B2 SB2 MS CT TT;go_wp2_with fail;refine yE.mono ?_;rintro e w4⟨tr,xr,rfl,U4,K4⟩;clear yE x1 x2 x3 ct3;go_wp2_with fail;refine(cW _ _).mono ?_;rintro e w5⟨rfl,k5⟩;have K5:=K4.trans<|k5.mono K4.size;have mt:=uh MT;have HEQ:=af7 (mt.we.af K5) (xd zgm K5.size) (mt.wk.af K5) mt.n ae (S:=1100*nn L[j]+1100) ae ((T3'.af K5).le ae) ((U4.af k5).le ae) mt.ti mt.ui (jo L[j])<|jt L[j];clear mt k5 U4;go_wp2_with fail;refine HEQ.mono ?_;intro e w6 hq6;clear HEQ;obtain hn|hq6:=hq6
    .obtain⟨fl,vl,vr,rfl,k6,z,rfl,he,hf⟩:=hn;have HP:=MT.no (S:=1100*(1+bY L)) (DD:=1000*(1+bY L)) (K5.trans<|k6.mono K5.size) (br _) he hf;clear k6 he hf
     go_wp2
     exact⟨rfl,HP⟩
    .obtain⟨b6,rfl,k6,s6,he6,kp6,wk6,hu6⟩:=hq6;have K6:=K5.trans<|k6.mono K5.size;have MS6:=MT.next K6 he6 kp6 wk6 hu6;clear k6 he6 kp6 wk6 hu6
     go_wp2
     go_roundg(L.length-(j+1))
     case measure=>rw[uh c_];omega
     case rel=>exact⟨j+1,_,_,_,_,_,ai rfl,xf bh,rfl,iF,MS6,y9.below K6,UF.below K6,ahF.af K6⟩
   .have bA:¬(j:Int)<(L.length:Int):=ae;have ej:j=L.length:=ae;subst ej;have tmm:=HM.2.w.move (Q:=λ_=>True) MS.F.size (λb p z=>MS.F.block b z (by have:=p;omega))<|λ_ _ _=>trivial;have yE:=acR SB2 nab tmm ae hwm zcr lgr;obtain⟨x1,x2,x3⟩:=X2;clear X1 h tmm;go_wp2_with fail;refine yE.mono ?_;rintro e w4⟨tr,xr,rfl,hu4,k4⟩;have HD:=MS.done (DD:=1000*(1+bY L)) MR' HL k4 (br _) (hu4.le<|show 1100<=1100*(1+bY L) by omega);clear hu4 k4 yE
    go_wp2
    go_ret2;exact HD
end
section
variable {cnt:Nat} {S:Nat} {p:jq (Ty×jd)}
def dR.below(h:dR c gv S D p s cnt w0 e w')(hb:Bq w w0):dR c gv S D p s cnt w e w':=⟨(xw hb).trans h.1,h.2⟩
end
def ahG st n f t a{L}(H:∀i(h:i<L.length),T8 L[i]):T8 (.mk 2 st n L f t a):=by
 intro c w cnt s kb Λ g gv Q v h;obtain⟨y,sa,sc,vs,rfl,aN,hr⟩:∃(y:Nat)(sa:Option Addr)(sc:Nat)(vs:Nat->Value),v=Fv 307 (Av #[Nv f,Nv t,Nv a,Nv y,Sv st,Lv sa L.length sc])/\(L=[]\/∃g,sa=some ⟨g,0,none⟩/\Q g/\g<w.heap.size/\∀i,i<L.length->w.cell? ⟨g,i,none⟩=some (vs i))/\∀i(h:i<L.length),PP w Q L[i]<|vs i:=by
  cases h.pp with
  |up _ _ _ _ _ _ y sa sc vs hu hy aN hr=>exact⟨_,sa,sc,vs,rfl,aN,hr⟩
 have k0:Bq w (w.alloc<|Cv #[Nv f,Nv t,Nv a,Nv y,Sv st,Lv sa L.length sc] 307):=bw _
 have H1:=abx H (h.part k0 h.pp h.sc<|br _) (aN.imp id λq=>by
  obtain⟨g,q1,q2,q3,q4⟩:=q
  exact⟨g,q1,q2,xd q3 k0.size,λi hi=>(xk (a:=⟨g,i,none⟩)<|k0.block g q3).trans<|q4 i hi⟩)<|λi hi=>(hr i hi).af k0
 have K0:=ai k0;have q1:=Vb;have q2:=sK;have q3:=Ng;have q4:=Ni;go_enter func353,ntmps353;go_wp2_with fail;refine H1.mono ?_;intro e w1 hp;have kO:=hp.below K0;obtain⟨ak,zz,vl,vr,rfl,q⟩|⟨ak,T1,g1,s1,wE,wF,iz,rfl,q⟩:=hp.split
 .have HP:=ai kO
  go_wp2
  exact⟨rfl,HP⟩
 .have HP:=ai kO
  go_wp2
  go_ret2;exact HP
def LS:∀(L:List Nd)(i:Nat)(h:i<L.length),nn L[i]<=bY L
 |x::l,0,_=>by simp only[qf,bY];omega|x::l,i+1,h=>by simp only[qg,bY];have:=LS l i DQ;omega
def abA:∀(k:Nat)(nd:Nd),nn nd<=k->T8 nd:=by
 intro k
 induction k with
 |zero=>intro nd h;cases nd;simp only[nn]at h;omega|succ k ih=>
  intro nd hk c w cnt s kb Λ g gv Q v h;have hp:=h.pp
  cases hp with
  |any st n f t a=>exact adj st n f t a c w cnt s kb Λ g gv Q _ h|low st n f t a=>exact adl st n f t a c w cnt s kb Λ g gv Q _ h|num st n f t a=>exact BT (qv ⟨rfl,rfl⟩) st _ f t a c w cnt s kb Λ g gv Q _ h|word st n f t a b=>exact BT (qw<|qv ⟨rfl,rfl⟩) st n f t a c w cnt s kb Λ g gv Q _ h|unit st n f t a=>exact BT (qw<|qw ⟨rfl,rfl⟩) st n f t a c w cnt s kb Λ g gv Q _ h|pr st n x y f t a vx vy hx hy=>exact aga st n f t a (ih x Al) (ih y Al) c w cnt s kb Λ g gv Q _ h|up st n L f t a y sa sc vs hu hy aN hr=>exact ahG st n f t a (λi hi=>ih _ (by have:=LS L i hi;simp only[nn]at hk;omega)) c w cnt s kb Λ g gv Q _ h
def afp nd:T8 nd:=abA _ nd<|br _
def p9(l:List BA)(g g':jd):=(∀y,g' y≠none↔g y≠none\/y∈l)/\∀y d,g' y=some d->g y=some d\/d.any=[]
def p9.refl(g:jd):p9 [] g g:=⟨λy=>ag,λy d h=>qv h⟩
def p9.and{l l'}{g g1 g2:jd}(h:p9 l g g1)(k:p9 l' g1 g2):p9 (l++l') g g2:=⟨λy=>by rw[k.1,h.1,qt,or_assoc],λy d q=>(k.2 y d q).elim (λq=>h.2 y d q) qw⟩
def p9.set(g:jd)s t:p9 [s] g (j3 g s<|In.mono t):=by
 refine⟨λy=>?_,λy d h=>?_⟩
 .rw[j3];by_cases q:y=s
  .simp[q]
  .simp[q]
 .rw[j3]at h;split at h
  .grind
  .exact qv h
def lJ{α:Type}{m:jq α}:jv m s λ_ _=>True:=λ_ _ _=>trivial
def II(mk:jl):∀(tk:List Ty)(L:List Nd),L.length=tk.length->(∀i(h:i<L.length),∀g s,jv (ji mk L[i] g) s λq _=>p9 (oq L[i]) g q.2)->∀g ρ s,jv (In.qO tk L (In.mT mk L) g ρ) s λq _=>p9 (lS L) g q.1
 |[],[],_,_,g,ρ,s=>.ret (p9.refl g)|[],_::_,h,_,_,_,_=>tP|_::_,[],h,_,_,_,_=>tP|u::tk,x::L,hl,H,g,ρ,s=>by
  refine(H 0 ag g s).and λq s1 h1=>lJ.and λi s2 _=>lJ.and λ_ s3 _=>?_;exact(II mk tk L (by simpa using hl) (λi hi=>H (i+1) bQ) q.2 i.2 s3).imp λa s' h=>h1.and h
def Dz{p:Prop}(h:p:=by
 simp[ji,j8]
 exact .ret<|p9.refl g):p:=h
def DA(h:qC mk nl nd):∀g s,jv (ji mk nd g) s λq _=>p9 (oq nd) g q.2:=by
 induction h with
 |leaf k st n f t a hk=>
  intro g s;have e:oq (.mk k st n [] f t a)=[]:=by
   have:¬k=1:=ae;simp[oq,lS,this]
  rw[e];obtain rfl|rfl|rfl|rfl:=hk
  .simp only[ji,j8,if_true];exact lJ.and λv s' _=>.ret<|p9.refl g
  .exact Dz
  .exact Dz
  .exact Dz
 |low st n f t a hs=>
  intro g s;simp[ji,j8,oq];exact lJ.and λv s' _=>.ret<|p9.set g st _
 |pr st n x y f t a hx hy dA gi=>
  intro g s;rw[T_];have e:oq (.mk 6 st n [x,y] f t a)=oq x++oq y:=by simp[oq,lS]
  rw[e];exact(dA g s).and λq s1 h1=>(gi q.2 s1).and λr s2 h2=>.ret<|h1.and h2
 |up st n L f t a tk m hm hl hr ih=>
  intro g s;rw[wK hm];have e:oq (.mk 2 st n L f t a)=lS L:=by simp[oq]
  rw[e];rw[gq];rw[qk,qk];exact(II mk tk L hl ih g jy s).and λq s1 h1=>lJ.and λi s2 _=>.ret h1
def IJ{nl:List BA}:∀(L:List Nd),(∀i(h:i<L.length),∀y,y∈oq L[i]->y∈nl)->∀y,y∈lS L->y∈nl
 |[],_,y,h=>by simp[lS]at h|x::l,H,y,h=>by
  simp only[lS,qt]at h;obtain h|h:=h
  .exact H 0 ag y h
  .exact IJ l (λi hi=>H (i+1) bQ) y h
def abB(h:qC mk nl nd):∀y,y∈oq nd->y∈nl:=by
 induction h with
 |leaf k st n f t a hk=>intro y q;have:¬k=1:=ae
                        simp[oq,lS,this]at q
 |low st n f t a hs=>intro y q;simp[oq]at q;subst q;exact hs|pr st n x y f t a hx hy dA gi=>
  intro z q;simp[oq,lS]at q;exact q.elim (dA z)<|gi z
 |up st n L f t a tk m hm hl hr ih=>
  intro y q;have e:oq (.mk 2 st n L f t a)=lS L:=by simp[oq]
  rw[e]at q;exact IJ L ih y q
noncomputable def lK (mk:jl) (Γ:jd) (T r:Ty) (A:List (Nd×Nd)) (j:Nat):jq Ty:=jh (In.rJ mk Γ T r (aT<|A.drop j)<|j6 mk<|aT<|A.drop j) λ_=>j5 r
def LU(mk:jl)s n x A f t a(Γ:jd):jk mk (.mk 13 s n (x::aT A) f t a) Γ=jh (jk mk x Γ) λa=>jh In.kS λv=>lK mk Γ a (.var v) A 0:=by
 simp[jk,In.mI,j6,In.fy,lK]
noncomputable def Yr (mk:jl) (Γ:jd) (T r:Ty) (A:List (Nd×Nd)) (j:Nat) (h:j<A.length):jq Ty:=jh (ji mk A[j].1 λ_=>none) λq=>jh (ju T q.1 (jo A[j].1)<|jt A[j].1) λ_=>jh (jk mk A[j].2<|jm q.2 Γ) λu=>jh (ju r u (jo A[j].2)<|jt A[j].2) λ_=>lK mk Γ T r A<|j+1
def Bo{r}hj{o}(h:Yr mk Γ T r A j hj s o):lK mk Γ T r A j s o:=by
 unfold Yr lK at*;rw[qe hj];show jh (jh (ji mk A[j].1 λ_=>none) λq=>jh (ju T q.1 (jo A[j].1)<|jt A[j].1) λ_=>jh (jk mk A[j].2<|jm q.2 Γ) λu=>jh (ju r u (jo A[j].2)<|jt A[j].2) λ_=>In.rJ mk Γ T r (aT<|A.drop<|j+1)<|j6 mk<|aT<|A.drop<|j+1) (λ_=>j5 r) s o;refine dS ?_;obtain⟨x,q1,rfl⟩|⟨a,s1,q1,h⟩:=h
 .exact qv ⟨x,q1,rfl⟩
 refine qw ⟨a,s1,q1,dS ?_⟩;obtain⟨x,q1,rfl⟩|⟨b,s2,q2,h⟩:=h
 .exact qv ⟨x,q1,rfl⟩
 refine qw ⟨b,s2,q2,dS ?_⟩;obtain⟨x,q1,rfl⟩|⟨b,s2,q2,h⟩:=h
 .exact qv ⟨x,q1,rfl⟩
 exact qw ⟨b,s2,q2,dS h⟩
def IK(mk:jl)(Γ:jd)T r A(s:jc)(o:Except In.Ft (Ty×jc))(h:j5 r s o):lK mk Γ T r A A.length s o:=by
 rw[lK];rw[List.drop_length];exact qw ⟨(),s,rfl,h⟩
section
variable {cnt:Nat} {iz:Nat} {g1:jd} {S D1:Nat} {p p1 p2:jq Ty}
def Cl.imp(h:Cl c S D p s cnt w D1 p1 s1 ak w1)(k:∀o,p2 s1 o->p1 s1 o):Cl c S D p s cnt w D1 p2 s1 ak w1:=λe w' q=>h e w' (by obtain⟨a1,c',o,a2,a3,a4,a5,a6⟩:=q;exact⟨a1,c',o,a2,a3,a4,k o a5,a6⟩)
def Ys(hb:Bq w w0)(hg:w.heap.size<=gv)(hf:Fr (λi=>i=c.cb\/i=gv) w0 w'):Fr (λi=>i=c.cb) w w':=⟨hf.os.trans hb.os,hf.tape.trans hb.tape,hf.output.trans hb.output,xc hb.size hf.size,λk hk hn=>(hf.block k (xd hk hb.size)<|λq=>q.elim hn ae).trans<|hb.block k hk⟩
theorem WG.over{mk:jl}{nd:Nd}{T:Ty}{TU:Nat}(h:WG w c s Λ Γ gb)(hs:qC mk c.nl nd){s0:jc}(hm:ji mk nd (λ_=>none) s0 (.ok ((T,g1),s1)))(hi:In.df Λ s g1)(he:bM w' (dn c) TU (jm g1 Γ))(hn:TU≠c.cb):WG w' c s Λ (jm g1 Γ) TU where
 e:=he
 n:=hn
 i:=hi.over h.i
 nd y d q:=by
  have⟨_,h2⟩:=DA hs _ _ _ _ hm;rw[jm]at q;split at q
  .rename_i c' hc;injection q with q;subst q;obtain r|r:=h2 y c' hc
   .cases r
   .grind
  .exact h.nd y d q
 dm y q:=by
  have⟨h1,_⟩:=DA hs _ _ _ _ hm;rw[jm]at q;split at q
  .rename_i c' hc;rcases(h1 y).1 (by show g1 y≠none;rw[hc];simp)with r|r
   .exact absurd rfl r
   .exact abB hs y r
  .exact h.dm y q
def IL(hs:qC mk nl nd)(hm:ji mk nd (λ_=>none) s0 (.ok ((T,g1),s1)))(hd:∀x,dom x->Γ x≠none):∀x,dom x\/x∈oq nd->jm g1 Γ x≠none:=λx q=>by
 have⟨h1,_⟩:=DA hs _ _ _ _ hm;rw[jm];split
 .simp
 .rename_i hc;obtain q|q:=q
  .exact hd x q
  .grind
end
section
variable {n0:Nat} {M:jq Ty} {cnt0 cnt D2:Nat} {q q2:jq Ty} {P:World->jc->Prop} {post:Ending->World->Prop}
def gd.to(H:gd n0 M c w0 cnt0 s0 Λ Γ gb Q dom D q P s cnt kb w)(k:∀o,q2 s o->q s o):gd n0 M c w0 cnt0 s0 Λ Γ gb Q dom D q2 P s cnt kb w:=⟨H.wg,H.hq,H.hd,H.ft,H.mf,H.f,H.we,H.st,H.cl.imp k,H.lv,H.cn⟩
def gd.imp{P'}(H:gd n0 M c w0 cnt0 s0 Λ Γ gb Q dom D q P s cnt kb w)(k:∀w s,P w s->P' w s):gd n0 M c w0 cnt0 s0 Λ Γ gb Q dom D q P' s cnt kb w:=⟨H.wg,H.hq,H.hd,H.ft,H.mf,H.f,H.we,H.st,H.cl,λw s a b=>k _ _<|H.lv w s a b,H.cn⟩
def gd.uk{g}(H:gd n0 M c w0 cnt0 s0 Λ Γ gb Q dom D (jh (ji c.mks y λ_=>none) g) P s cnt kb w)(K:Bq w W)(E:bM W (oT c gv) gv λ_=>none)(hg:w.heap.size<=gv)(hy:PP w0 Q y vy)(sy:qC c.mks c.nl y)(ok:∀T g1 ta xa s' aB JM w',gd n0 M c w0 cnt0 s0 Λ Γ gb Q dom D2 (g (T,g1)) (λw s=>P w s/\(TW w (dn c) (1100*nn y) T (.iface ta xa)/\jp Λ s T)/\bM w (dn c) gv g1/\In.df Λ s g1) s' aB JM w'->ji c.mks y (λ_=>none) s (.ok ((T,g1),s'))->w.heap.size<=w'.heap.size->post (.returned<|.tuple #[.iface ta xa,Mv JM]) w')(hD:D2+1000*nn y<=D)(hn:nn y<=n0)(bad:∀f l r w',aX c (1100*n0) (1000*n0) M s0 cnt0 w0 (Ag f l r) w'->post (Ag f l r) w':=by exact λ_ _ _ _ h=>⟨rfl,h⟩):
 Cq 353 #[Pv c.eb,Mv kb,Mv gv,vy] W post:=by
 have cn:=H.cn;have zc:=H.we.dh;have k:=(Ai.of H.st.k hg).af K;have pp:=(hy.move (Q:=λb=>Q b/\b<w.heap.size) H.f.size (λb p z=>H.f.block b z<|H.hq b p)<|λb p z=>⟨p,xd z H.f.size⟩).af K;refine(afp y c W cnt s kb Λ (λ_=>none) gv _ _ ⟨H.we.af K,k,H.st.n,E,(λy d q=>mD),by have:=H.we.l.2.2.2.2;omega,pp,(λb q=>⟨H.hq b q.1,by have:=q.2;omega⟩),sy,H.ft.le ae hn,H.mf⟩).mono λe w' hp=>?_;obtain⟨c3,zz,vl,vr,rfl,q⟩|⟨c3,T3,g3,s3,ta3,xa3,kb3,rfl,q⟩:=hp.split
 .exact bad _ _ _ _ (H.cl _ _ ⟨Ys K hg q.F,c3,.error zz,q.c1,by have:=q.c2;omega,q.we,qv ⟨zz,q.m,rfl⟩,vl,vr,rfl,q.f⟩)
 .have st:=q.step k H.st.n<|λy d q=>mD;have F:=Ys (c:=c) K hg q.F;have:=q.c1;have:=q.c2;exact ok T3 g3 ta3 xa3 s3 c3 kb3 w' ⟨H.wg,H.hq,H.hd,H.ft,H.mf,H.f.trans F,q.we,H.st.and ⟨st.k.wk,st.n,st.p⟩,H.cl.and q.m F q.c1 q.u ae,λw2 s2 a b=>⟨H.lv w2 s2 (F.trans a)<|st.p.trans b,⟨(q.t.wide (Q:=dn c) λi p=>p.1).fr a<|λ_ p _=>p,st.t.run b.run⟩,(q.e.wide (Q:=dn c) λi p=>p.1).fr a ae<|λ_ p _=>p,st.i.run b.run⟩,ae⟩ q.m F.size
end
def ahH n0(M:jq Ty)c w0 cnt0 s0 Λ(Γ:jd)gb Q dom T ts xs rv nx A gk v1 v35 wr:=
 ∃j cj sj kj,Hid (gk=A.length-j)/\j<=A.length/\v1=Mv kj/\v35=Nv j/\gd n0 M c w0 cnt0 s0 Λ Γ gb Q dom (1000*bY (aT<|A.drop j)) (lK c.mks Γ T (.var rv) A j) (λw s=>(TW w (dn c) (1100*nx) T (.iface ts xs)/\jp Λ s T)/\jp Λ s (.var rv)) sj cj kj wr
def Bp(h:j<A.length):bY (aT<|A.drop j)=nn A[j].1+nn A[j].2+bY (aT<|A.drop<|j+1):=by
 rw[qe h];simp only[aT,bY];omega
def oa:∀A:List (Nd×Nd),A.length<=bY (aT A)
 |[]=>ag|p::r=>by have:=oa r;have:=tq p.1;simp only[mV,aT,bY];omega
def qS:∀(A:List (Nd×Nd))(j:Nat)(h:j<A.length),nn A[j].1+nn A[j].2<=bY (aT A)
 |p::r,0,_=>by simp only[qf,aT,bY];omega|p::r,j+1,h=>by have:=qS r j DQ;simp only[qg,aT,bY];omega
section
variable {cnt:Nat}
def adZ{t a}{x}{g}{vp ve:Nat->Value}(Hx:yO x)(He:∀i(h:i<A.length),yO A[i].2)(h:Ah (.mk 13 st n (x::aT A) f t a) c w cnt s kb Λ Γ gb Q dom (.iface 201<|.agg #[Nv f,Nv t,vx,.slice (some ⟨g,0,none⟩) A.length sc]))(hg:Q g)(kC:g<w.heap.size)(hc:∀i,i<A.length->(∃u v,w.cell? ⟨g,i*4,none⟩=some (Iv u)/\w.cell? ⟨g,i*4+1,none⟩=some (Iv v))/\w.cell? ⟨g,i*4+2,none⟩=some (vp i)/\w.cell? ⟨g,i*4+3,none⟩=some (ve i))(hx:PE w Q x vx)(hp:∀i(h:i<A.length),PP w Q A[i].1<|vp i)(he:∀i(h:i<A.length),PE w Q A[i].2<|ve i):
 Cq 341 #[Pv c.eb,Mv kb,Mv gb,.agg #[Nv f,Nv t,vx,.slice (some ⟨g,0,none⟩) A.length sc]] w (aX c (1100*nn (.mk 13 st n (x::aT A) f t a)) (1000*nn (.mk 13 st n (x::aT A) f t a)) (jk c.mks (.mk 13 st n (x::aT A) f t a) Γ) s cnt w):=by
 have en:nn (.mk 13 st n (x::aT A) f t a)=1+nn x+bY (aT A):=Jg;obtain⟨sx,SP,SE⟩:ScE c.mks c.nl dom x/\(∀i(h:i<A.length),qC c.mks c.nl A[i].1)/\∀i(h:i<A.length),ScE c.mks c.nl (λv=>dom v\/v∈oq A[i].1) A[i].2:=by
  have hs:=h.sc;generalize hL:x::aT A=L at hs
  cases hs with
  |mt _ _ _ x' A' _ _ _ hx hp he=>
   injection hL with h1 h2;subst h1;have hA:A=A':=by
    have:∀(A A':List (Nd×Nd)),aT A=aT A'->A=A':=by
     intro A
     induction A with
     |nil=>intro A' e;cases A' with|nil=>rfl|cons=>simp[aT]at e
     |cons p r ih=>
      intro A' e
      cases A' with
      |nil=>simp[aT]at e|cons p' r'=>
       simp only[aT,List.cons.injEq]at e;obtain⟨e1,e2,e3⟩:=e;rw[ih r' e3,Prod.ext e1 e2]
    exact this A A' h2
   subst hA;exact⟨hx,hp,he⟩
  |leaf _ _ _ _ _ _ _ hk=>omega|two _ _ _ _ _ _ _ _ _ hk=>omega|lt _ _ _ _ _ _ _ _ _ _ hk=>omega
 have fb:=h.ft.b;rw[en]at fb;have hAl:=oa A;have iE:= @run_makeMap Tryz.prog;have HX:=ai hx;obtain⟨tx,ax,rfl⟩:=hx.iface;have H:=gd.start h<|LU ..;obtain⟨n0,X7⟩:∃n0,n0=nn (.mk 13 st n (x::aT A) f t a):=⟨_,rfl⟩;obtain⟨M,hM⟩:∃M,M=In.inf c.mks (.mk 13 st n (x::aT A) f t a) Γ:=⟨_,rfl⟩;rw[<-hM,<-X7]at H⊢;rw[en]at X7;have EN:=ai X7;have HP:=ai hp;have HE:=ai he;have HC:=ai hc;clear h hx en X7 hM hp he hc;go_enter func341,ntmps341;go_wp2_with fail;refine H.box.ex (D2:=1000*(1+bY (aT A))) Hx HX sx ?_ (by rw[uh EN];omega) (by rw[uh EN];omega);intro T1 wE wF s1 ak iz w1 H;have⟨⟨_,b1,b2,b3⟩,_⟩:=H.p;have⟨e1,e2,e3⟩:=H.we.bx;go_wp2_with fail;refine H.new (D2:=1000*bY (aT A)) ?_ ae;intro s3 w3 H;clear e1 e2 e3 b1 b2 b3;have⟨⟨⟨_,b1,b2,b3⟩,_⟩,_⟩:=H.p
 go_wp2
 go_loopg[1,35] A.length (λgk v1 v35 wr=>ahH n0 M c w cnt s Λ Γ gb Q dom T1 wE wF (ak+1) (nn x) A gk v1 v35 wr)
 case atStart=>exact⟨0,_,_,_,ai ag,xg _,rfl,rfl,H.imp λ_ _ h=>⟨h.1.2,h.2⟩⟩
 case round=>
  clear H b1 b2 b3;obtain⟨j,cj,sj,kj,c_,hj,rfl,rfl,H⟩:=hrel;by_cases bh:j<A.length
  .have bA:(j:Int)<(A.length:Int):=ae;have Ej:(0:Int)<=(j:Int):=ae;have⟨⟨u,v,d0,d1⟩,d2,d3⟩:=HC j bh;rw[<-xk (a:=⟨g,_,none⟩) (H.f.block g kC<|H.hq g hg)]at d0 d1 d2 d3;have⟨t1,x1,e1⟩:=(HP j bh).iface;have⟨t2,x2,e2⟩:=(HE j bh).iface;have PP1:=HP j bh;have PE2:=HE j bh;rw[e1]at d2 PP1;rw[e2]at d3 PE2;have pl1:=PP1.place;have pl2:=PE2.place;dsimp only[PlF]at pl1 pl2
   replace PP1:=ai PP1
   replace PE2:=ai PE2
   have hdn:=Bp bh;have hnn:=qS A j bh;have l5:=H.we.l.2.2.2.2;have H:=H.to λo q=>Bo bh q;have zc:=H.we.dh;go_wp2_with fail;refine(H.box (C:=#[Iv u,Iv v,Fv t1<|Av x1,Fv t2<|Av x2]) (t:=257)).uk (D2:=1000*(nn A[j].2+bY (aT<|A.drop<|j+1))) (gv:=wr.heap.size+1) (bw _) (by have:=bM.new (wr.alloc<|Cv #[Iv u,Iv v,Fv t1<|Av x1,Fv t2<|Av x2] 257)<|oT c<|wr.heap.size+1;simpa using this) ag PP1 (SP j bh) ?_ ae (by rw[uh EN];omega);intro T3 g3 ta3 xa3 s3 c3 kb3 w3 H hm3 z3;clear d0 d1 d2 d3;have⟨⟨_,b1,b2,b3⟩,_⟩:=H.p;go_wp2_with fail;refine(cW _ _).mono ?_;rintro e w4⟨rfl,K4⟩;have H:=H.af K4;clear b1 b2 b3;have⟨⟨_,b1,b2,b3⟩,_⟩:=H.p;go_wp2_with fail;refine H.eq (S:=900000) (H.p.1.1.1.1.le ae) (H.p.2.1.1.le ae) H.p.1.1.1.2 H.p.2.1.2 ?_;intro b5 s5 w5 H;clear b1 b2 b3;have⟨⟨_,b1,b2,b3⟩,_⟩:=H.p
   replace hm3:=ai hm3
   go_wp2_with fail;go_cut[16,17]from 56 to 75 (λv16 v17 wc=>∃T6 s6 c6 Ui Uj Td,v16=Mv Td/\v17=Fv Ui Uj/\gd n0 M c w cnt s Λ Γ gb Q dom (1000*bY (aT<|A.drop<|j+1)) (jh (ju (.var<|ak+1) T6 (jo A[j].2)<|jt A[j].2) λ_=>lK c.mks Γ T1 (.var<|ak+1) A<|j+1) (λw' s=>(((TW w' (dn c) (1100*nn x) T1 (Fv wE wF)/\jp Λ s T1)/\jp Λ s (.var<|ak+1))/\Bx w' wr.heap.size #[Iv u,Iv v,Fv t1<|Av x1,Fv t2<|Av x2])/\TW w' (dn c) (1100*nn A[j].2) T6 (Fv Ui Uj)/\jp Λ s T6) s6 c6 Td wc)
   case first=>
    go_region_with(first
     |(go_at_call 331;go_loud(refine(Ab ((H.wg.fr H.f H.st.p.run).e.af (xn _ _).drew)<|H.p.2.2.1.af (xn _ _).drew).mono ?_);rintro e w6⟨b6,rfl,z6,h6,k6⟩;have K6:=ai<|(xn w5.heap.size w5).drew.trans k6;have⟨⟨_,d1,d2,d3⟩,_⟩:=(H.af K6).p;have E6:=ai h6;have Z6:=ai z6;clear k6 h6 z6)
     |(go_at_call 323;go_loud(refine H.exG (D2:=1000*bY (aT<|A.drop<|j+1)) K6 (He j bh) ⟨H.we.af K6,H.st.k.af K6,H.st.n,(H.wg.fr H.f H.st.p.run).over (SP j bh) hm3 H.p.2.2.2 E6 (by have z:=uh Z6;have:=H.we.dh;have q:w5.heap.size<=b6:=z;omega),(PE2.move H.f.size (λb p z=>H.f.block b z<|H.hq b p)<|λ_ p _=>p).af K6,H.hq,SE j bh,IL (SP j bh) hm3 H.hd,H.ft.le qBw (by rw[uh EN];omega),H.mf⟩ ?_ ae);intro T6 Ui Uj s6 c6 Td w7 H7))
    all_goals(
     go_wp2_with fail
     go_meet
     case rel=>exact⟨_,_,_,_,_,_,rfl,rfl,H7.imp λ_ _ h=>⟨h.1.1,h.2⟩⟩)
   case rest=>
    obtain⟨T6,s6,c6,Ui,Uj,Td,rfl,rfl,H⟩:=hcut;clear b1 b2 b3;have⟨⟨_,b1,b2,b3⟩,_⟩:=H.p;go_wp2_with fail;refine(cW _ _).mono ?_;rintro e w8⟨rfl,K8⟩;have H:=H.af K8;go_wp2_with fail;refine H.eq (S:=900000) (ox w8 c ak _ ae) (H.p.2.1.le ae) H.p.1.1.2 H.p.2.2 ?_;intro b9 s9 w9 H
    go_wp2
    go_roundg(A.length-(j+1))
    case measure=>rw[uh c_];omega
    case rel=>exact⟨j+1,_,_,_,ai rfl,xf bh,rfl,iF,H.imp λ_ _ h=>h.1.1⟩
  .have bA:¬(j:Int)<(A.length:Int):=ae;have ej:j=A.length:=ae;subst ej;have H:=H.to λo q=>IK c.mks Γ T1 (.var<|ak+1) A sj o q
   go_wp2
   go_ret2;exact H.ret (ox wr c ak 1<|br _) (by rw[uh EN];omega)
end
section
variable {cnt:Nat}
def Yt(mk:jl)s n x y f t a(Γ:jd)(hv:vars [] (aI []<|es y).1=[]):jk mk (.mk 14 s n [x,y] f t a) Γ=jh (jk mk x Γ) λa=>jh (ju a (aI []<|es y).1 (jo x)<|jt x) λ_=>j5 (aI []<|es y).1:=by simp[jk,In.mI,j6,In.fy,In.lP,hv]
def UC{t a}{x}(Hx:yO x)(h:Ah (.mk 14 st n [x,y] f t a) c w cnt s kb Λ Γ gb Q dom (.iface 311<|.agg #[Nv f,Nv t,vx,vy]))(hx:PE w Q x vx)(hy:PT w Q y vy):
 Cq 337 #[Pv c.eb,Mv kb,Mv gb,.agg #[Nv f,Nv t,vx,vy]] w (aX c (1100*nn (.mk 14 st n [x,y] f t a)) (1000*nn (.mk 14 st n [x,y] f t a)) (jk c.mks (.mk 14 st n [x,y] f t a) Γ) s cnt w):=by
 have en:nn (.mk 14 st n [x,y] f t a)=1+nn x+nn y:=Jg;obtain⟨sx,hv,hz,hw⟩:ScE c.mks c.nl dom x/\vars [] (aI []<|es y).1=[]/\size (aI []<|es y).1<=1000/\Whole (aI []<|es y).1:=by
  cases h.sc with
  |of _ _ _ _ _ _ _ _ hx hv hz hw=>exact⟨hx,hv,hz,hw⟩|two _ _ _ _ _ _ _ _ _ hk=>omega|lt _ _ _ _ _ _ _ _ _ _ hk=>omega
 obtain⟨n0,em⟩:=acD hy [] (λm o=>by have:=In.bu.2 o;rw[hv]at this;cases this) hz;have ei:=Yt c.mks st n x y f t a Γ hv;rw[em]at hz hw hv ei;obtain⟨M,hM⟩:∃M,M=m0 y:=⟨_,rfl⟩;have yE:=acE y n0;unfold C7 at yE;rw[<-hM]at hv hz hw yE ei;dsimp only at hv hz hw ei;have tiM:∀s,jp Λ s M:=λs=>by
  have mS:∀m,¬aD m M:=λm o=>by have:=In.bu.2 o;rw[hv]at this;cases this
  refine⟨λm o=>(mS m o).elim,λm o=>?_⟩;obtain⟨m',o1,_⟩:=(jz _).1 o;exact(mS m' o1).elim
 have hny:=tq y;have Bz:=tq x;have fb:=h.ft.b;rw[en]at fb;have H:=gd.start h ei
 replace en:=ai en
 clear h ei hM em;have HX:=ai hx;have HY:=ai hy;have TI:=ai tiM;have PR:=ai<|And.intro hw hz;obtain⟨tx,ax,rfl⟩:=hx.iface;obtain⟨ty,ay,rfl⟩:=hy.bJ;have Ji:=hx.place;dsimp only[PlF]at Ji;clear hx hy tiM hv hw hz;go_enter func337,ntmps337;go_wp2_with fail;refine H.box.ex (D2:=1000) Hx HX sx ?_ o_ o_;intro T1 wE wF s1 ak iz w1 H;obtain⟨⟨_,b1,b2,b3⟩,_⟩:=H.p;have HO:=yE w1 Q _<|HY.fr H.f<|λb p _=>H.hq b p;have z1:=H.we.dh;go_wp2_with fail;refine HO.mono ?_;rintro e w2⟨u2,rfl,uy,F2⟩;obtain⟨tu,xu,rfl⟩:=uy.iface;have TM:=TW.of (uy.w.wide λb p=>by show b≠c.cb;have:w1.heap.size<=b:=p;omega) PR.1 PR.2;have H:=(H.af ⟨F2.os,F2.tape,F2.output,F2.size,λb z=>F2.block b z id⟩).add λw' _ f _=>TM.fr f<|λ_ p _=>p;clear b1 b2 b3 uy TM HO;obtain⟨⟨⟨_,b1,b2,b3⟩,_⟩,_⟩:=H.p;go_wp2_with fail;refine(cW _ _).mono ?_;rintro e w4⟨rfl,K4⟩;have H:=H.af K4;go_wp2_with fail;refine H.eq (S:=900000) (H.p.1.2.1.le ae) (H.p.2.le ae) H.p.1.2.2 (TI _) ?_;intro kb5 s5 w5 H
 go_wp2
 go_ret2;exact H.ret H.p.2 o_
end
section
variable {cnt:Nat}
def Z8{x}{t a}(h:Ah (.mk 2 x n [] f t a) c w cnt s kb Λ Γ gb Q dom (.iface 390<|.agg #[Nv f,Nv t,.string x])):
 Cq 323 #[Pv c.eb,Mv kb,Mv gb,.iface 390<|.agg #[Nv f,Nv t,.string x]] w (aX c (1100*nn (.mk 2 x n [] f t a)) (1000*nn (.mk 2 x n [] f t a)) (jk c.mks (.mk 2 x n [] f t a) Γ) s cnt w):=by
 have en:nn (.mk 2 x n [] f t a)=1:=Za;obtain⟨tk,m,hx⟩:∃tk m,c.mks x=some (tk,m):=by
  cases h.sc with
  |up _ _ _ _ _ _ tk m hx=>exact⟨tk,m,hx⟩|leaf _ _ _ _ _ _ _ hk=>omega
 rw[en,Ud c.mks x n f t a Γ hx];have Tc:=h.ft.a;rw[en]at Tc;have eG:=h.mf.sz x tk m hx;have DL:=h.mf.wh x tk m hx;have HVS:=h.mf.vs x tk m hx;have has:=qN tk m;have wj:(vars [] m).length<=size m:=by
  exact PQ
 have hla:(vars []<|jj tk m).length<=1000:=by
  rw[cr];have h2:=cU (occs<|jj tk m) [];have h3:=cV<|jj tk m;simp only[vf]at h2;omega
 have⟨k0,B0⟩:=mM w #[Nv f,Nv t,Sv x] 390;obtain⟨w0,uS⟩:∃w0,w0=w.alloc (Cv #[Nv f,Nv t,Sv x] 390):=⟨_,rfl⟩;have UE:=h.we.af k0;have wk0:=h.wk.af k0;rw[<-uS]at k0 B0 UE wk0;have⟨v,hv,sg⟩:=UE.ms.look hx;have ld:=UE.d;have ll:=UE.l;have hv':=hv;obtain⟨sa,sc,ta,xa,rfl,hr,hm⟩:=hv';have HRN:∀W:World,Bq w0 W->Cq 334 #[Pv c.eb,Fv ta xa] W (λe w'=>∃b,e=Rv (Mv b)/\RnA c cnt (vars [] m) w0 w' b):=λW hb=>by
  refine(Aj (UE.af hb) (hm.w.af hb) ae ae).mono ?_;rintro e w'⟨b,rfl,h1,h2,h3,h4⟩;exact⟨b,rfl,by have:=hb.size;omega,h2,h3,(xw hb).trans h4⟩
 have HTY:∀W:World,Fr (λi=>i=c.cb) w0 W->Cq 335 #[Av #[Lv sa tk.length sc,Fv ta xa]] W (λe w'=>∃tu xu,e=Rv (Fv tu xu)/\cR w' (dn c) (jj tk m) (Fv tu xu)/\Bq W w'):=λW hF=>by
  refine(tQ (hv.move (Q:=dn c) hF.size (λb p z=>hF.block b z p.1)<|λb p _=>p.1) ae).mono ?_;rintro e w'⟨u,rfl,hu,hk⟩;obtain⟨tu,xu,rfl⟩:=hu.iface;exact⟨tu,xu,rfl,hu.wide λi p=>by obtain p|p:=p;exact p;show i≠c.cb;have:=hF.size;omega,hk⟩
 have yE:∀(W:World)(b:Nat)(tu:TypeId)(xu:Value),RnA c cnt (vars [] m) w0 W b->cR W (dn c) (jj tk m) (Fv tu xu)->Cq 314 #[Mv b,Fv tu xu] W (λe w'=>∃tr xr,e=Rv (Fv tr xr)/\TW w' (dn c) 1100 (sub (ja<|o7 cnt<|vars [] m)<|jj tk m) (Fv tr xr)/\Bq W w'):=λW b tu xu hA hu=>by
  have ev:=Mi cnt<|vars [] m;have Mq:=Eh hA.sb (show dn c b by have:=hA.z;show b≠c.cb;omega) hu ae (by rw[ev,gW];omega);rw[ev]at Mq;refine Mq.mono ?_;rintro e w'⟨u,rfl,Qw,hk⟩;obtain⟨tr,xr,rfl⟩:=Qw.iface;have QJ:=oo (o7 cnt<|vars [] m) _ DL;refine⟨tr,xr,rfl,⟨⟨_,Qw.wide λi p=>by obtain p|p:=p;exact p;show i≠c.cb;have:=hA.F.size;omega,(dF.refl _).cut QJ,?_⟩,QJ⟩,hk⟩;have hlq:(vars []<|sub (ja<|o7 cnt<|vars [] m)<|jj tk m).length<=1000:=by
   rw[cr];have h2:=cU (occs<|sub (ja<|o7 cnt<|vars [] m)<|jj tk m) [];have h3:=cV<|sub (ja<|o7 cnt<|vars [] m)<|jj tk m;rw[gW]at h3;simp only[vf]at h2;omega
  have:=eW QJ hlq ae;omega
 have HLK:∀W:World,Fr (λi=>i=c.cb) w0 W->(Instr.lookup 214 (Mv c.mb) (Sv x) false).run Tryz.prog W=.ok (Av #[Lv sa tk.length sc,Fv ta xa]) W:=λW hF=>sg W<|hF.block _ ae ae;have aby:=HLK w0.drew<|Fr.of (Below.refl _ _).drew;obtain⟨b1,b2,b3⟩:=B0;have⟨e1,e2,e3⟩:=UE.bx;have BB:=show Bx w0 w.heap.size #[Nv f,Nv t,Sv x]from⟨b1,b2,b3⟩;have K0:=ai k0;have WK0:=ai wk0;have HU:=ai h.wk.u;have nz:=ld.1;have zc:=h.we.dh;clear h k0 UE wk0 hv sg hr hm DL ld ll;go_enter func323,ntmps323;go_wp2_with fail;rw[<-uS];clear uS;have aj5:=agc;have ne0:¬w.heap.size=c.cb:=ae;have f1:=e1 2;have f2:=b1 2;clear e1 e2 e3 b1 b2 b3
 go_region_held3(λw'=>w'.cell? ⟨c.eb,2,none⟩=some (Mv c.mb)/\w'.cell? ⟨w.heap.size,2,none⟩=some (Sv x)/\(Instr.lookup 214 (Mv c.mb) (Sv x) false).run Tryz.prog w'=.ok (Av #[Lv sa tk.length sc,Fv ta xa]) w') (first|go_keep|(simp[*])) (first
  |(go_at_call 334;go_loud(refine(HRN _ (xn _ _).drew).mono ?_);rintro e w2⟨b5,rfl,hA⟩;have g1:w2.cell? ⟨c.eb,2,none⟩=some (Mv c.mb):=hA.we.bx.c 2;have g2:w2.cell? ⟨w.heap.size,2,none⟩=some (Sv x):=(BB.fr hA.F ne0).c 2;have abz:=HLK w2 hA.F;have HA:=ai hA;clear hA)
  |(go_at_call 335;go_loud(refine(HTY _ HA.F).mono ?_);rintro e w3⟨tu,xu,rfl,hu,k3⟩;have A3:Hid (RnA c cnt (vars [] m) w0 w3 b5):=ai ⟨HA.z,HA.we.af k3,HA.sb.af k3,HA.F.trans<|xw k3⟩;have g3:w3.cell? ⟨c.eb,2,none⟩=some (Mv c.mb):=A3.we.bx.c 2;have g4:w3.cell? ⟨w.heap.size,2,none⟩=some (Sv x):=(BB.fr A3.F ne0).c 2;have aj6:=HLK w3 A3.F;have U3:=ai hu;clear hu k3)
  |(go_at_call 314;go_loud(refine(yE _ _ _ _ A3 U3).mono ?_);rintro e w4⟨tr,xr,rfl,ht,k4⟩;have A4:=A3.F.trans<|xw k4;have g5:w4.cell? ⟨c.eb,2,none⟩=some (Mv c.mb):=(A3.we.af k4).bx.c 2;have g6:w4.cell? ⟨w.heap.size,2,none⟩=some (Sv x):=(BB.fr A4 ne0).c 2;have aj7:=HLK w4 A4;have K4:=ai k4;have T4:=ai ht;clear ht k4 A4))
 all_goals
  go_wp2
  go_ret2;have a3:=uh A3;have k4:=uh K4;have wk0:=uh WK0;refine⟨(xw K0).trans<|a3.F.trans<|xw k4,cnt+(vars [] m).length,.ok (sub (ja<|o7 cnt<|vars [] m)<|jj tk m,⟨s.k,λn=>s.u n\/(cnt<n/\n<=cnt+(vars [] m).length)⟩),ae,ae,a3.we.af k4,qw ⟨(_,o7 cnt<|vars [] m),_,qw ⟨o7 cnt<|vars [] m,_,⟨_,_,Ek (Ae cnt (vars [] m) (dx m List.nodup_nil) HU) λv=>?_,rfl⟩,rfl⟩,rfl⟩,λn q=>q,wk0.wh,tr,xr,kb,rfl,wk0.n,(wk0.k.fr a3.F wk0.n<|λ_ p _=>p).af k4,T4.le ae⟩;rw[bI,bI];simp only[List.not_mem_nil,false_or];exact⟨ZU tk m v,HVS v⟩
end
structure WT w c cnt(u:Nat->Prop)(Γ:jd):Prop where
 we:WE w c cnt
 e:bM w (λi=>i≠c.cb/\i≠c.eb) c.nb Γ
 n:c.nb≠c.cb/\c.nb≠c.eb
 hu:∀n,u n->us cnt n
 top:In.Top ⟨Ty.var,u⟩ Γ
 dm:∀x,Γ x≠none->x∈c.nl
structure LtA rc st x c w cnt u(Γ:jd)Q(dom:BA->Prop)v:Prop where
 wt:WT w c cnt u Γ
 pe:PE w Q x v
 hq:∀b,Q b->b≠c.cb/\b≠c.eb
 sc:ScE c.mks c.nl (λv=>dom v\/(rc=true/\v=st)) x
 hd:∀x,dom x->Γ x≠none
 ft:Fit c cnt (1+nn x)
 mf:MkFine c.mks
 iC:st∈c.nl
def PS{p:Prop}(h:p:=by
 induction h with
 |var n=>exact .var n|aH c L sa sc vs hc aN hr ih=>
  refine .aH c L sa sc vs hc ?_ ih;obtain h0|⟨g,h1,h2,h3,h4⟩:=aN
  .exact qv h0
  .by_cases h0:L=[]
   .exact qv h0
   .refine qw ⟨g,h1,⟨h2,λe=>?_⟩,h3,h4⟩;have hl:=List.length_pos_iff.2 h0;have q:=h4 0 hl;rw[e,hb]at q;injection q with q;obtain⟨a,y,r⟩:=(hr 0 hl).iface
    exact hx a y<|q.trans r):p:=h
def cR.not(h:cR w P t v)(hb:w.cell? ⟨b,0,none⟩=some x)(hx:∀a y,x≠.iface a y):cR w (λi=>P i/\i≠b) t v:=by
 exact PS
def dE.not(h:dE w P t v)(hb:w.cell? ⟨b,0,none⟩=some x)(hx:∀a y,x≠.iface a y):dE w (λi=>P i/\i≠b) t v:=by
 exact PS
def pD.hv{vr:Value}(h:pD w P z vl vr):(vl=.nilIface/\vr=.nilIface)\/∃a b c d,vl=.iface a b/\vr=.iface c d:=by
 obtain k|k:=h.k
 .have⟨h1,h2⟩:=h.apart k;have⟨a,b,e1⟩:=h1.iface;have⟨c,d,e2⟩:=h2.iface;exact qw ⟨a,b,c,d,e1,e2⟩
 .exact qv (h.qA k)
def pD.one{vr:Value}(h:pD w P z vl vr)(hb:w.cell? ⟨b,0,none⟩=some x)(hx:∀a y,x≠.iface a y)(hf:Fr (λi=>i=b) w w'):pD w' P z vl vr:=
 ⟨h.qA,λk=>⟨((h.apart k).1.not hb hx).move hf.size (λi p q=>hf.block i q p.2)<|λ_ p _=>p.1,((h.apart k).2.not hb hx).move hf.size (λi p q=>hf.block i q p.2)<|λ_ p _=>p.1⟩,h.k⟩
abbrev zJ(f:Fl)(vl vr:Value):Value:=.agg #[Nv f.kind,Nv f.al,Nv f.to,vl,vr]
def UD c cnt u(Γ:jd)rc st a y x w(e:Ending)w':=Fr (λi=>i=c.cb\/i=c.eb) w w'/\∃o,In.cH rc st x (jk c.mks x) Γ ⟨Ty.var,u⟩ o/\match o with
 |.error z=>∃vl vr,e=.returned (.tuple #[.nilIface,zJ z.f vl vr])/\pD w' (dn c) z vl vr
 |.ok (t,s)=>(48<size (sub s.k t)/\e=.returned (.tuple #[.nilIface,zJ ⟨7,a,y⟩ .nilIface .nilIface]))\/
  (size (sub s.k t)<=48/\∃T ta xa aB QA,T=(if In.Jw x then sub s.k t else In.lZ (sub s.k t))/\e=.returned (.tuple #[.iface ta xa,.agg Jj])/\cR w' (dn c) T (.iface ta xa)/\Whole T/\aB<=cnt+1000*(1+nn x)/\WT w' {c with nb:=QA} aB s.u (j3 Γ st ⟨T,vars [] T⟩))
def lQ.not{w}{P}{mb b}{mk}{x}(h:lQ w P mb mk)(hb:w.cell? ⟨b,0,none⟩=some x)(hx:∀a y,x≠.iface a y):lQ w (λi=>P i/\i≠b) mb mk:=by
 obtain⟨L,h1,h2,h3⟩:=h;refine⟨L,h1,h2,λk v hk=>?_⟩;obtain⟨tk,m,e,sa,sc,ta,xa,rfl,q1,q2⟩:=h3 k v hk;refine⟨tk,m,e,sa,sc,ta,xa,rfl,?_,q2.not hb hx⟩;obtain q1|⟨g,vs,q3,q4,q5,q6⟩:=q1
 .exact qv q1
 .by_cases h0:tk=[]
  .exact qv h0
  .have hl:=List.length_pos_iff.2 h0;refine qw ⟨g,vs,q3,⟨q4,λe=>?_⟩,q5,λi hi=>⟨(q6 i hi).1,(q6 i hi).2.not hb hx⟩⟩;have⟨q7,q8⟩:=q6 0 hl;rw[e,hb]at q7;injection q7 with q7;have⟨a,y,r⟩:=q8.iface;exact hx a y<|q7.trans r
def MG.bB{enc}{L:List (κ×Value)}(h:MG enc w b L)(o:Nat):w.cell? ⟨b,o,none⟩=none:=by
 obtain⟨es,c,h1,_⟩:=h;simp[World.cell?,h1]
def PV{p:Prop}(h:p:=by
 have:=h.bx.c 0;rw[<-e]at this
 exact absurd this (by rw[hM.bB 0];simp)):p:=h
def WE.put{cnt}(h:WE w c cnt)(hf:Fr (λi=>i=c.eb\/c.fD<=i) w w')(he:Bx w' c.eb (ada {c with nb:=nb})):WE w' {c with nb:=nb} cnt:=by
 have⟨l1,l2,l3,l4,l5⟩:=h.l;have⟨d1,d2,d3⟩:=h.d;have ne1:c.rb≠c.eb:=λe=>by
  have⟨L,hM,_⟩:=h.rs;exact PV
 have ne2:c.mb≠c.eb:=λe=>by
  have⟨L,hM,_⟩:=h.ms;exact PV
 refine⟨he,h.ct.fr hf ae,h.rs.same<|hf.block _ h.rs.lt ae,?_,h.d,⟨l1,l2,l3,l4,xc l5 hf.size⟩⟩;exact(h.ms.not (h.bx.c 0) ag).move hf.size (hf.block _ h.ms.lt ae) (λb p z=>hf.block b z (by have:=p;omega)) (λb p _=>p.1)
mutual
def yF:∀t,size (sub (λ_=>j7) t)=size t
 |.var n=>by simp[sub,size,ah]|.aH c l=>by simp only[sub,size,uL l]
def uL:∀l,ah (aS (λ_=>j7) l)=ah l
 |[]=>rfl|t::l=>by simp only[aS,ah,yF t,uL l]
end
def ng t:size (In.lZ t)=size t:=yF t
def wP:Whole j7:=⟨λe=>by have:=congrArg ByteArray.size e;revert this;decide,trivial⟩
structure Oth(x:Value):Prop where
 i:∀a y,x≠.iface a y
 n:∀n:Nat,1<=n->x≠Nv n
 p:∀q,x≠.pointer q
def bM.other(h:bM w P nb Γ)(hv:∀y d,Γ y=some d->∀n∈d.any,1<=n)(hb:w.cell? ⟨b,0,none⟩=some x)(hx:Oth x):bM w (λi=>P i/\i≠b) nb Γ:=by
 obtain⟨L,h1,h2,h3⟩:=h;refine⟨L,h1,h2,λk v hk=>?_⟩;obtain⟨d,e,ta,xa,sa,sc,rfl,⟨⟨x',q1,q2⟩,q4⟩,q3⟩:=h3 k v hk;refine⟨d,e,ta,xa,sa,sc,rfl,⟨⟨x',q1.not hb hx.i,q2⟩,q4⟩,?_⟩;obtain q3|⟨g,r1,r2,r3,r4⟩:=q3
 .exact qv q3
 .by_cases h0:d.any=[]
  .exact qv h0
  .refine qw ⟨g,r1,⟨r2,λeg=>?_⟩,r3,r4⟩;have hl:=List.length_pos_iff.2 h0;have r5:=r4 0 hl;rw[eg,hb]at r5;injection r5 with r5;exact hx.n _ (hv k d e _<|qd hl) r5
def gM{enc}{b'}{L:List (κ×Value)}(h:MG enc w b' L)(hb:w.cell? ⟨b,0,none⟩=some x):b'≠b:=λe=>by
 have:=h.bB 0;rw[e,hb]at this
 cases this
def WT.other{w w'}{c}{cnt}{u}{Γ}{b}{x}(h:WT w c cnt u Γ)(hn:b≠c.cb/\b≠c.eb)(hb:w.cell? ⟨b,0,none⟩=some x)(hx:Oth x)(f:Fr (λi=>i=b) w w'):WT w' c cnt u Γ:=by
 have⟨Lr,hr,_⟩:=id h.we.rs;have⟨Lm,hm,_⟩:=id h.we.ms;have⟨Ln,hnn,_⟩:=id h.e;have nr:=gM hr hb;have nm:=gM hm hb;have nn:=gM hnn hb;have⟨l1,l2,l3,l4,l5⟩:=h.we.l;have hz:=f.size;refine⟨⟨h.we.bx.fr f<|zh hn.2,h.we.ct.fr f<|zh hn.1,h.we.rs.same<|f.block _ h.we.rs.lt nr,(h.we.ms.not hb hx.i).move f.size (f.block _ h.we.ms.lt nm) (λi p z=>f.block i z p.2)<|λi p _=>p.1,h.we.d,l1,l2,l3,l4,ae⟩,?_,h.n,h.hu,h.top,h.dm⟩;refine(h.e.other ?_ hb hx).move f.size (f.block _ h.e.lt nn) (λi p z=>f.block i z p.2) (λi p _=>p.1);intro y d q n hq;exact(h.hu n<|(h.top.env y d q).use n<|(h.top.env y d q).sub n hq).1
end
section
open Un
@[simp] theorem afZ a0 a1 a2 a3 a4 a5 a6 w:(Instr.typeAssert (.iface 137<|.agg #[a0,a1,a2,a3,a4,a5,a6]) 129 137 true).run Tryz.prog w=.ok (.tuple #[(.agg #[a0,a1,a2,a3,a4,a5,a6]),.bool true]) w:=qkr
@[simp] theorem af0 a0 a1 a2 a3 a4 a5 a6 w:(Instr.typeAssert (.iface 144<|.agg #[a0,a1,a2,a3,a4,a5,a6]) 129 144 true).run Tryz.prog w=.ok (.tuple #[(.agg #[a0,a1,a2,a3,a4,a5,a6]),.bool true]) w:=qkr
@[simp] theorem af1 a0 a1 a2 a3 a4 a5 a6 w:(Instr.typeAssert (.iface 144<|.agg #[a0,a1,a2,a3,a4,a5,a6]) 129 137 true).run Tryz.prog w=.ok (.tuple #[(.agg #[Iv 0,Iv 0,Iv 0,Iv 0,.string ⟨#[]⟩,.slice none 0 0,.slice none 0 0]),.bool false]) w:=qkr
def metW_Makers a w:(method 641 124 (.pointer<|some a) "Makers").run Tryz.prog w=.ok (311,.pointer<|some a) w:=qkr
def metW_Let a w:(method 641 124 (.pointer<|some a) "Let").run Tryz.prog w=.ok (310,.pointer<|some a) w:=qkr
def metJ_Makers a w:(method 641 126 (.pointer<|some a) "Makers").run Tryz.prog w=.ok (375,.pointer<|some a) w:=qkr
def metJ_Let a w:(method 641 126 (.pointer<|some a) "Let").run Tryz.prog w=.ok (374,.pointer<|some a) w:=qkr
end
section
open Go.MapKept Un
structure JC where
 (eb cb rb mb lo fD:Nat)
 mks:jl
 nl:List BA
abbrev QC(c:JC)nb l:=#[.func (.func 47) #[] #[Pv c.cb],Mv c.rb,Mv c.mb,Mv nb,Nv l]
structure JE w c nb l cnt:Prop where
 bx:Bx w c.eb (QC c nb l)
 ct:Bx w c.cb #[Nv cnt]
 rs:sr w c.rb
 ms:lQ w (λi=>i≠c.cb/\i<c.fD) c.mb c.mks
 z:c.lo<=c.eb/\c.lo<=c.cb/\c.fD<=w.heap.size
section
variable {c:JC} {cnt:Nat}
def GL.py{nx}{lv}(h:GL w ds str nx vr ly lv)(hn:n∈ds):∃p,w.cell? ⟨n,0,none⟩=some (.pointer p):=by
 have:=(h.nd n hn).cells.1
 cases e:nx n with
 |none=>rw[e]at this;exact⟨none,this⟩|some m=>rw[e]at this;exact⟨_,this⟩
def JE.wL(h:JE w c nb l cnt)(j:JS w g s):¬c.eb∈g.ds:=λq=>by
 have⟨p,hp⟩:=j.gl.py q;have:=h.bx.c 0;rw[hp]at this;simp at this
def JE.wM(h:JE w c nb l cnt)(j:JS w g s):¬c.cb∈g.ds:=λq=>by
 have⟨p,hp⟩:=j.gl.py q;have:=h.ct.c 0;rw[hp]at this;simp at this
def JE.ne(h:JE w c nb l cnt):c.eb≠c.cb/\c.rb≠c.cb/\c.rb≠c.eb/\c.mb≠c.cb/\c.mb≠c.eb:=by
 have⟨L,m1,_⟩:=h.rs;have⟨L',m2,_⟩:=h.ms;have a:=h.bx.c 0;have b:=h.ct.c 0;refine⟨λe=>?_,λe=>?_,λe=>?_,λe=>?_,λe=>?_⟩
 .grind
 .rw[<-e,m1.bB 0]at b;simp at b
 .rw[<-e,m1.bB 0]at a;simp at a
 .rw[<-e,m2.bB 0]at b;simp at b
 .rw[<-e,m2.bB 0]at a;simp at a
def JE.mz(h:JE w c nb l cnt)(j:JS w g s):¬c.rb∈g.ds/\¬c.mb∈g.ds:=by
 have⟨L,m1,_⟩:=h.rs;have⟨L',m2,_⟩:=h.ms;refine⟨λq=>?_,λq=>?_⟩
 .have⟨p,hp⟩:=j.gl.py q;rw[m1.bB 0]at hp
  cases hp
 .have⟨p,hp⟩:=j.gl.py q;rw[m2.bB 0]at hp
  cases hp
def dE.Sq(h:dE w P t v)(hS:∀b,S b->∀a y,w.cell? ⟨b,0,none⟩≠some (.iface a y)):dE w (λi=>P i/\¬S i) t v:=by
 induction h with
 |var n=>exact .var n|aH c L sa sc vs hc aN hr ih=>
  refine .aH c L sa sc vs hc ?_ ih;obtain h0|⟨g,h1,h2,h3,h4⟩:=aN
  .exact qv h0
  .by_cases h0:L=[]
   .exact qv h0
   .refine qw ⟨g,h1,⟨h2,λe=>?_⟩,h3,h4⟩;have hl:=List.length_pos_iff.2 h0;have⟨a,y,r⟩:=(hr 0 hl).iface;exact hS g e a y (by rw[h4 0 hl,r])
def lQ.Sq{P S:Nat->Prop}{mb}{mk}(h:lQ w P mb mk)(hS:∀b,S b->∀a y,w.cell? ⟨b,0,none⟩≠some (.iface a y)):lQ w (λi=>P i/\¬S i) mb mk:=by
 obtain⟨L,h1,h2,h3⟩:=h;refine⟨L,h1,h2,λk v hk=>?_⟩;obtain⟨tk,m,e,sa,sc,ta,xa,rfl,q1,q2⟩:=h3 k v hk;refine⟨tk,m,e,sa,sc,ta,xa,rfl,?_,q2.Sq hS⟩;obtain q1|⟨g,vs,q3,q4,q5,q6⟩:=q1
 .exact qv q1
 .by_cases h0:tk=[]
  .exact qv h0
  .have hl:=List.length_pos_iff.2 h0;refine qw ⟨g,vs,q3,⟨q4,λe=>?_⟩,q5,λi hi=>⟨(q6 i hi).1,(q6 i hi).2.Sq hS⟩⟩;have⟨q7,q8⟩:=q6 0 hl;have⟨a,y,r⟩:=q8.iface;exact hS g e a y (by rw[q7,r])
abbrev jS(c:JC)(g:fB)b:=b=c.cb\/b=c.eb\/b∈g.ds
def JE.fr(h:JE w c nb l cnt)(j:JS w g s)(hf:Fr (jS c g) w w'){aB}(he:Bx w' c.eb (QC c QA l'))(hc:Bx w' c.cb #[Nv aB]):JE w' c QA l' aB:=by
 have⟨n1,n2,n3,n4,n5⟩:=h.ne;have⟨n6,n7⟩:=h.mz j;refine⟨he,hc,h.rs.same<|hf.block _ h.rs.lt<|λq=>q.elim n2<|λq=>q.elim n3 n6,?_,⟨h.z.1,h.z.2.1,xc h.z.2.2 hf.size⟩⟩;refine(h.ms.Sq (S:=jS c g) ?_).move hf.size (hf.block _ h.ms.lt<|λq=>q.elim n4<|λq=>q.elim n5 n7) (λb p z=>hf.block b z p.2) (λb p _=>p.1);rintro b(rfl|rfl|q)a y e
 .have:=h.ct.c 0;rw[e]at this;simp at this
 .have:=h.bx.c 0;rw[e]at this;simp at this
 .have⟨p,hp⟩:=j.gl.py q;rw[e]at hp
  cases hp
def JE.af(h:JE w c nb l cnt)(hb:Bq w w'):JE w' c nb l cnt:=⟨h.bx.below hb,h.ct.below hb,h.rs.same<|hb.block _ h.rs.lt,h.ms.move hb.size (hb.block _ h.ms.lt) (λb _ z=>hb.block b z)<|λ_ p _=>p,⟨h.z.1,h.z.2.1,xc h.z.2.2 hb.size⟩⟩
def IP v l:Cq 81 #[Iv v,Iv l] w λe w'=>e=.returned (nA w.heap.size)/\w'=w.alloc (.cells #[.pointer none,Iv l,Iv v,.string ⟨#[]⟩,.slice none 0 0] 187):=by
 go_enter func81,ntmps81
 go_wp2
 go_ret;exact⟨rfl,rfl⟩
def DB b l a n k:Cq 82 #[.string b,Iv l,.slice a n k] w λe w'=>e=.returned (nA w.heap.size)/\w'=w.alloc (.cells #[.pointer none,Iv l,Iv 0,.string b,.slice a n k] 187):=by
 go_enter func82,ntmps82
 go_wp2
 go_ret;exact⟨rfl,rfl⟩
end
section
variable {c:JC} {cnt:Nat}
def od(h:JE w c nb l cnt)(j:JS w g s)(hu:∀n,s.u n->us cnt n)(hc:cnt<=1000000):Cq 382 #[Pv c.eb] w (λe w'=>∃n,e=.returned (nA n)/\w.heap.size<=n/\JE w' c nb l (cnt+1)/\JS w' (g.add n none (cnt+1) (none,0) l<|.var<|cnt+1) ⟨s.k,λm=>s.u m\/m=cnt+1⟩/\Fr (λb=>b=c.cb) w w'):=by
 have f0:=h.bx.c 0;have f1:=h.bx.c 4;have⟨n1,_,_,_,_⟩:=h.ne;have dn:=h.wM j;have zc:=h.ct.z;have HE:=ai h;have HFR:∀W:World,W=w.drew->Cq 47 #[Pv c.cb] W λe w'=>e=Rv (Iv<|(cnt:Int)+1)/\∃_:JE w' c nb l (cnt+1),Fr (λb=>b=c.cb) w w'/\JS w' g s/\w'.heap.size=w.heap.size:=λW hW=>by
  subst hW;refine(mY cnt hc<|h.ct.g_).mono ?_;rintro e w'⟨rfl,rfl⟩;have F:Fr (λb=>b=c.cb) w (w.drew.setCell ⟨c.cb,0,none⟩<|Iv<|(cnt:Int)+1):=(xw (S:=λb=>b=c.cb) (xn _ w).drew).set (b:=c.cb) (qv rfl) 0 _;have B:Bx (w.drew.setCell ⟨c.cb,0,none⟩<|Iv<|(cnt:Int)+1) c.cb #[.int .i64 ((cnt+1:Nat):Int)]:=h.ct.g_.aO 0 _ _ rfl ag;have hF:Fr (jS c g) w (w.drew.setCell ⟨c.cb,0,none⟩<|Iv<|(cnt:Int)+1):=F.fD λb q=>qv q;have hG:GL (w.drew.setCell ⟨c.cb,0,none⟩<|Iv<|(cnt:Int)+1) g.ds g.str g.nx g.vr g.ly g.lv:=by
   refine j.gl.one (b:=c.cb) ⟨rfl,rfl,rfl,xH,λi hi=>xo _ _ _ _ hi⟩ dn<|λm hm c' l' gg hs hl hg e=>?_;have⟨ga,q1,q2,_⟩:=j.gl.row hm hs<|List.length_pos_iff.2 hl;rw[hg]at q1;injection q1 with q1;injection q1 with q1;subst q1;have:=h.ct.c 0;rw[<-e,q2]at this;simp at this
  exact⟨rfl,h.fr j hF (h.bx.fr F n1) B,F,⟨hG,j.mh,j.inj,j.can,j.lc,j.val,j.use,j.ok⟩,xH⟩
 go_enter func382,ntmps382
 go_wp2
 go_region_held3(λw'=>w'.cell? ⟨c.eb,0,none⟩=some (.func (.func 47) #[] #[Pv c.cb])/\w'.cell? ⟨c.eb,4,none⟩=some (Nv l)) (first|go_keep|(simp[*])) (first
  |(go_at_call 47;go_loud(refine(HFR _ rfl).mono ?_);rintro e w2⟨rfl,e2,F2,j2,z2⟩;have s0:w2.cell? ⟨c.eb,0,none⟩=some (.func (.func 47) #[] #[Pv c.cb]):=e2.bx.c 0;have s1:w2.cell? ⟨c.eb,4,none⟩=some (Nv l):=e2.bx.c 4;have E2:=ai e2;have Qq:=ai F2;have J2:=ai j2;have Z2:=ai z2;clear e2 F2 j2 z2)
  |(go_at_call 81;go_loud(refine(IP _ _).mono ?_);rintro e w3⟨rfl,sw⟩;have k3:Bq w2 w3:=(by rw[sw];exact bw _);have B3:w3.heap[w2.heap.size]? =some (Cv #[.pointer none,Nv l,Iv<|(cnt:Int)+1,Sv ⟨#[]⟩,Lv none 0 0] 187 (0,0)):=(by rw[sw];exact(xq w2 _).1);have s2:w3.cell? ⟨c.eb,0,none⟩=some (.func (.func 47) #[] #[Pv c.cb]):=(E2.af k3).bx.c 0;have s3:w3.cell? ⟨c.eb,4,none⟩=some (Nv l):=(E2.af k3).bx.c 4;have K3:=ai k3;have B3':=ai B3;clear sw k3 B3))
 go_wp2
 go_ret;have k3:=uh K3;have hv:¬s.u (cnt+1):=λq=>by have:=hu _ q;rw[us]at this;omega
 exact⟨w2.heap.size,rfl,by rw[uh Z2];exact br _,(uh E2).af k3,(uh J2).var k3 (br _) hv<|by simpa using uh B3',(uh Qq).trans<|xw k3⟩
def IQ{fn}{cn}(hk:fn=389/\cn=ot\/fn=387/\cn=lT)(h:JE w c nb l cnt)(j:JS w g s){a}(ha:a∈g.ds/\∀x,Hd g.nx a x->g.lv x<=l)(hb:b∈g.ds/\∀x,Hd g.nx b x->g.lv x<=l):Cq fn #[Pv c.eb,nA a,nA b] w (λe w'=>∃n ar,e=.returned (nA n)/\w.heap.size<=n/\JE w' c nb l cnt/\JS w' (g.add n (some (cn,[a,b])) 0 ar l<|.aH cn [g.V a,g.V b]) s/\Bq w w'):=by
 have AE:CN cn:=by obtain⟨-,rfl⟩|⟨-,rfl⟩:=hk;exact qv rfl;exact qw<|qv rfl
 have f1:w.cell? ⟨c.eb,4,none⟩=some (Nv l):=h.bx.c 4;have⟨k0,B0⟩:=sf w #[nA a,nA b] 116;have HM:=DB (w:=w.alloc<|Cv #[nA a,nA b] 116) (pn cn) (l:Int) (some ⟨w.heap.size,0,none⟩) 2 2;have K0:=ai k0;have HE:=ai h;have HJ:=ai j;clear h j k0;obtain⟨rfl,ec⟩|⟨rfl,ec⟩:=hk;all_goals
  first|(rw[ec,jM]at HM;go_enter func389,ntmps389)|(rw[ec,jN]at HM;go_enter func387,ntmps387)
  go_wp2_with fail;refine HM.mono ?_;rintro e w2⟨rfl,Zi⟩;have k2:Bq (w.alloc<|Cv #[nA a,nA b] 116) w2:=by rw[Zi];exact bw _
  have B2:w2.heap[w.heap.size+1]? =some (Cv #[.pointer none,Nv l,Iv 0,Sv<|pn cn,Lv (some ⟨w.heap.size,0,none⟩) 2 2] 187 (0,0)):=by
   rw[Zi];have:=(xq (w.alloc<|Cv #[nA a,nA b] 116)<|Cv #[.pointer none,Nv l,Iv 0,Sv<|pn cn,Lv (some ⟨w.heap.size,0,none⟩) 2 2] 187).1;simpa[ec,jM,jN]using this
  have R2:=B0.below k2;have k02:=K0.trans<|k2.mono K0.size;have HX:=ai<|qx k02<|qx B2 R2;clear HM Zi k2 B2 R2 k02 B0
  go_wp2
  go_ret;have⟨k02,B2,R2⟩:=uh HX;refine⟨w.heap.size+1,(some ⟨w.heap.size,0,none⟩,2),rfl,xi _,HE.af k02,HJ.made (c:=cn) (ps:=[a,b]) (a:=(some ⟨w.heap.size,0,none⟩,2)) k02 (xi _) AE ag (λp hp=>?_) (qw ⟨w.heap.size,rfl,br _,ae,R2.z,λi hi=>?_⟩) B2,k02⟩
  .obtain e|e:=List.mem_cons.1 hp
   .subst e;exact ha
   .simp at e;subst e;exact hb
  .have pT:i=0\/i=1:=D9;rw[R2.c i];obtain rfl|rfl:=pT<;>rfl
end
end
section
open Un
abbrev aL:Nat:=9223372036854775807
def Nf(lv:Nat->Nat)L h:=lv h<=L\/lv h=aL
structure tF(str:vB)(nx:Nx)(ds:List Nat)(lv cq:Nat->Nat)n L(D:Nat->Prop):Prop where
 up:∀m,D m->m∈ds/\nx m=none/\L<lv m/\lv m≠aL/\cq m=aL
 no:∀m,¬D m->cq m=lv m
 hd:∀h,Hd nx n h->D h\/Nf lv L h
 cl:∀a,D a->∀c l,str a=some (c,l)->∀p,p∈l->∀h,Hd nx p h->D h\/Nf lv L h
 re:∀R:Nat->Prop,(∀h,Hd nx n h->R h)->(∀a c l p h,R a->str a=some (c,l)->p∈l->Hd nx p h->R h)->∀a,D a->R a
structure u9(str:vB)(nx:Nx)(ds:List Nat)(lv kP:Nat->Nat)h(l:List Nat)L(D:Nat->Prop):Prop where
 own:D h
 up:∀m,D m->m∈ds/\nx m=none/\L<lv m/\lv m≠aL/\kP m=aL
 no:∀m,¬D m->kP m=lv m
 pt:∀p,p∈l->∀k,Hd nx p k->D k\/Nf lv L k
 cl:∀a,D a->a≠h->∀c l,str a=some (c,l)->∀p,p∈l->∀k,Hd nx p k->D k\/Nf lv L k
 re:∀R:Nat->Prop,R h->(∀a c l p k,R a->str a=some (c,l)->p∈l->Hd nx p k->R k)->∀a,D a->R a
section
variable {nx:Nx} {lv kP:Nat->Nat} {l:List Nat} {D:Nat->Prop}
def tF.nil(hh:Hd nx n h)(hl:Nf lv L h):tF str nx ds lv lv n L (λ_=>False):=
 ⟨λ_ q=>q.elim,λ_ _=>rfl,λk q=>qw (by rw[q.one hh];exact hl),λ_ q=>q.elim,λ_ _ _ _ q=>q.elim⟩
def u9.start(hd:h∈ds)(hn:nx h=none)(hl:L<lv h)(ha:lv h≠aL):u9 str nx ds lv (xj lv h aL) h [] L (λm=>m=h):=
 ⟨rfl,λm q=>by subst q;exact⟨hd,hn,hl,ha,Nz⟩,λm q=>by simp[xj,q],λp q=>by simp at q,λa q r=>absurd q r,λR q _ a r=>by subst r;exact q⟩
def u9.step{p}{c}{l0}(hs:str h=some (c,l0))(hp:p∈l0)(k:u9 str nx ds lv kP h l L D)(q:tF str nx ds kP cq p L E):u9 str nx ds lv cq h (l++[p]) L (λm=>D m\/E m):=by
 have dis:∀m,E m->¬D m:=λm e d=>(q.up m e).2.2.2.1 (k.up m d).2.2.2.2;have low:∀x,Nf kP L x->D x\/Nf lv L x:=λx hx=>by
  by_cases d:D x
  .exact qv d
  .exact qw (by unfold Nf at*;rw[<-k.no x d];exact hx)
 refine⟨qv k.own,λm e=>?_,λm e=>?_,λp' kO x hx=>?_,λa e ne c' l' iD p' kO x hx=>?_,λR r1 r2 a e=>?_⟩
 .by_cases d:E m
  .have⟨u1,u2,u3,u4,u5⟩:=q.up m d;rw[k.no m<|dis m d]at u3 u4;exact⟨u1,u2,u3,u4,u5⟩
  .have⟨u1,u2,u3,u4,u5⟩:=k.up m<|e.resolve_right d;exact⟨u1,u2,u3,u4,(q.no m d).trans u5⟩
 .rw[q.no m<|λd=>e<|qw d,k.no m<|λd=>e<|qv d]
 .obtain kO|kO:=List.mem_append.1 kO
  .exact(k.pt p' kO x hx).imp qv id
  .simp at kO;subst kO;obtain r|r:=q.hd x hx
   .grind
   .grind
 .obtain d|d:=e
  .exact(k.cl a d ne c' l' iD p' kO x hx).imp qv id
  .obtain r|r:=q.cl a d c' l' iD p' kO x hx
   .grind
   .grind
 .obtain d|d:=e
  .exact k.re R r1 r2 a d
  .exact q.re R (λx hx=>r2 h c l0 p x r1 hs hp hx) r2 a d
def u9.done{c}{l0}(hh:Hd nx n h)(hs:str h=some (c,l0))(k:u9 str nx ds lv kP h l0 L D):tF str nx ds lv kP n L D:=by
 refine⟨k.up,k.no,λx hx=>qv (by rw[hx.one hh];exact k.own),λa d c' l' iD p hp x hx=>?_,λR r1 r2 a d=>k.re R (r1 h hh) r2 a d⟩;by_cases e:a=h
 .subst e;rw[hs]at iD;injection iD with iD;injection iD with _ e2;subst e2;exact k.pt p hp x hx
 .exact k.cl a d e c' l' iD p hp x hx
def u9.XZ(hh:Hd nx n h)(hs:str h=none)(k:u9 str nx ds lv kP h [] L D):tF str nx ds lv kP n L D:=by
 refine⟨k.up,k.no,λx hx=>qv (by rw[hx.one hh];exact k.own),λa d c' l' iD p hp x hx=>?_,λR r1 r2 a d=>k.re R (r1 h hh) r2 a d⟩;by_cases e:a=h
 .grind
 .exact k.cl a d e c' l' iD p hp x hx
end
def fp(ds:List Nat)(lv:Nat->Nat)L:=ds.countP λm=>decide (L<lv m/\lv m≠aL)
def acS{lv}(h:∀m,L<cq m/\cq m≠aL->L<lv m/\lv m≠aL):fp ds cq L<=fp ds lv L:=List.countP_mono_left λm _ q=>by simpa using h m (by simpa using q)
def acT{lv cq:Nat->Nat}{L x:Nat}(h:∀m,L<cq m/\cq m≠aL->L<lv m/\lv m≠aL)(hx:L<lv x/\lv x≠aL)(Dm:¬(L<cq x/\cq x≠aL)):∀{ds:List Nat},x∈ds->fp ds cq L<fp ds lv L
 |a::ds,hm=>by
  unfold fp;rw[qs,qs];have hle:ds.countP (λm=>decide (L<cq m/\cq m≠aL))<=ds.countP (λm=>decide (L<lv m/\lv m≠aL)):=acS h;by_cases e:a=x
  .subst e;rw[if_pos<|decide_eq_true hx,if_neg<|by simpa using Dm];omega
  .have:=acT h hx Dm (ds:=ds) (by obtain q|q:=List.mem_cons.1 hm;exact absurd q.symm e;exact q);unfold fp at this;by_cases q:L<cq a/\cq a≠aL
   .rw[if_pos<|decide_eq_true q,if_pos<|decide_eq_true<|h a q];omega
   .rw[if_neg<|by simpa using q];split<;>omega
def tF.eqv{nx}{lv0 lv}{D:Nat->Prop}(g:GL w ds str nx vr ly lv0)(e:im str nx ba)(q:tF str ba ds lv cq n L D):tF str nx ds lv cq n L D:=
 ⟨λm d=>⟨(q.up m d).1,(e.yT m).1 (q.up m d).2.1,(q.up m d).2.2⟩,q.no,λh k=>q.hd h<|e.jU _ _ k,λa d c l hs p hp h k=>q.cl a d c l hs p hp h<|e.jU _ _ k,λR r1 r2=>q.re R (λh k=>r1 h<|e.back g k)<|λa c l p h ra hs hp k=>r2 a c l p h ra hs hp<|e.back g k⟩
def IR ds str nx vr ly lv n L w(e:Ending)w':=
 e=.returned (.tuple #[])/\∃ba cq D,GL w' ds str ba vr ly cq/\Fr (λb=>b∈ds) w w'/\im str nx ba/\w'.heap.size=w.heap.size/\tF str nx ds lv cq n L D
def afq ds str vr ly k:=∀(w:World)(nx:Nx)(lv:Nat->Nat)(n L:Nat),GL w ds str nx vr ly lv->n∈ds->fp ds lv L<=k->Cq 309 #[nA n,Nv L] w (IR ds str nx vr ly lv n L w)
def afr ds str nx vr ly lv h L(l:List Nat)w gk v wr:=
 ∃j gB kP D,Hid (gk=l.length-j)/\j<=l.length/\v=Nv j/\GL wr ds str gB vr ly kP/\Fr (λb=>b∈ds) w wr/\im str nx gB/\wr.heap.size=w.heap.size/\u9 str nx ds lv kP h (l.take j) L D
section
variable {k:Nat}
def Sr(IH:∀i,i<k->afq ds str vr ly i):afq ds str vr ly k:=by
 intro w nx lv n L DT hn hk;have⟨h,hh⟩:=DT.hd n hn;have hm:=DT.bH hn hh;have HC:=pZ DT hn hh;go_enter func309,ntmps309;go_wp2_with fail;refine HC.mono ?_;rintro e w1⟨rfl,eI,G1,F1,E1,z1⟩;clear HC;have⟨c1,f1⟩:=(G1.nd h hm).lvl;have Jh:nx h=none:=hh.head;by_cases hle:lv h<=L
 .have hd:(lv h:Int)<=(L:Int):=ae;have HG:=ai G1;clear G1
  go_wp2
  go_end0;exact⟨rfl,eI,lv,_,uh HG,F1,E1,z1,tF.nil hh<|qv hle⟩
 .have hd:decide ((lv h:Int)<=(L:Int))=false:=bQ;by_cases han:lv h=aL
  .have he:((lv h:Int)==(9223372036854775807:Int))=true:=by rw[han];rfl
   have HAN:=ai han;have HG:=ai G1;clear G1 han
   go_wp2
   go_end0;exact⟨rfl,eI,lv,_,uh HG,F1,E1,z1,tF.nil hh<|qw<|uh HAN⟩
  have he:((lv h:Int)==(9223372036854775807:Int))=false:=by simp;intro q;exact han (by show lv h=9223372036854775807;omega)
  have G2:=G1.QB hm aL;have⟨_,_,_,_,c4⟩:=(G1.nd h hm).cells;have F2:Hid (Fr (λb=>b∈ds) w<|w1.setCell ⟨h,1,none⟩<|Iv 9223372036854775807):=ai<|F1.set (qv hm) 1 _;have Jt:=ai G2;have Z1:=z1;have X6:=ai E1;have J0:Hid (u9 str nx ds lv (xj lv h aL) h [] L<|λm=>m=h):=ai<|u9.start hm Jh ae han;clear G1 G2 F1 z1 E1
  cases hs:str h with
  |none=>
   have c4':w1.cell? ⟨h,4,none⟩=some (.slice (ly h).1 0 (ly h).2):=by rw[c4,hs];rfl
   clear c4
   go_wp2
   go_loopg[29] 0 (λgk v wr=>v=Iv 0/\wr=w1.setCell ⟨h,1,none⟩ (Iv 9223372036854775807))
   case atStart=>exact⟨rfl,rfl⟩
   case round=>
    obtain⟨rfl,rfl⟩:=hrel
    go_wp2
    go_end0;exact⟨rfl,eI,_,_,uh Jt,uh F2,uh X6,qAz,(uh J0).XZ hh hs⟩
  |some q=>
   obtain⟨c,l⟩:=q;have c4':w1.cell? ⟨h,4,none⟩=some (.slice (ly h).1 l.length (ly h).2):=by rw[c4,hs];rfl
   have⟨hl1,NZ⟩:=DT.part hm hs;have hdp:fp ds (xj lv h aL) L<fp ds lv L:=acT (x:=h) (λm q=>by by_cases e:m=h;subst e;exact⟨ae,han⟩;simpa[xj,e]using q) ⟨ae,han⟩ Nz hm;clear c4;by_cases wo:l=[]
   .subst wo;have aiW:=c4';clear c4'
    go_wp2
    go_loopg[29] 0 (λgk v wr=>v=Iv 0/\wr=w1.setCell ⟨h,1,none⟩ (Iv 9223372036854775807))
    case atStart=>exact⟨rfl,rfl⟩
    case round=>
     obtain⟨rfl,rfl⟩:=hrel
     go_wp2
     go_end0;exact⟨rfl,eI,_,_,uh Jt,uh F2,uh X6,qAz,(uh J0).done hh hs⟩
   have⟨ga,EGA,_,_⟩:=DT.row hm hs<|List.length_pos_iff.2 wo;rw[EGA]at c4'
   go_wp2
   go_loopg[29] l.length (λgk v wr=>afr ds str nx vr ly lv h L l w gk v wr)
   case atStart=>exact⟨0,eI,_,_,ai ag,xg _,rfl,uh Jt,uh F2,uh X6,qAz,by simpa using uh J0⟩
   case round=>
    clear Jt F2 X6 J0 c4' c1 f1;obtain⟨j,gB,kP,D,c_,hj,rfl,Gj,FJ,EJ,ZJ,JJ⟩:=hrel;by_cases bh:j<l.length
    .have bA:(j:Int)<(l.length:Int):=ae;have Ej:(0:Int)<=(j:Int):=ae;have⟨ga',e1,cg,_⟩:=Gj.row hm hs bh;have e2:=e1.symm.trans EGA;injection e2 with e2;injection e2 with e2;subst e2
     have HCJ:=IH (fp ds (xj lv h aL) L) ae wr gB kP l[j] L Gj (NZ _<|qd bh) (acS λm q=>by
      by_cases d:D m
      .exact absurd (JJ.up m d).2.2.2.2 q.2
      .have e:m≠h:=λe=>d<|e▸JJ.own;simp only[xj,e,if_false]
       rw[<-JJ.no m d];exact q)
     clear e1;clear Gj;go_wp2_with fail;refine HCJ.mono ?_;rintro e w2⟨rfl,pw,lF,D2,G2,F2,E2,z2,q2⟩;have HG:=ai G2;have HF:=FJ.trans F2;have HE:=EJ.trans E2;have HZ:=z2.trans ZJ;have HJ2:=JJ.step hs (qd bh)<|q2.eqv DT EJ
     go_wp2
     go_roundg(l.length-(j+1))
     case measure=>rw[uh c_];omega
     case rel=>exact⟨j+1,pw,lF,_,ai rfl,xf bh,iF,uh HG,HF,HE,HZ,by rw[j9 bh];exact HJ2⟩
    .have bA:decide ((j:Int)<(l.length:Int))=false:=bQ;have ej:j=l.length:=ae;subst ej;rw[qi]at JJ;have HX:=show IR ds str nx vr ly lv n L w (Rv<|.tuple #[]) wr from⟨rfl,gB,kP,D,Gj,FJ,EJ,ZJ,JJ.done hh hs⟩
     go_wp2
     go_end0;exact HX
def adJ:∀k,afq ds str vr ly k:=λk=>Nat.strongRecOn k λk ih=>Sr ih
end
end
section
open Go.MapKept Un
structure OR l B g(s:jc)cnt(ρ:jf)g'(s':jc)(aB:Nat)(eu:jf):Prop where
 st:iy l g s g' s'
 hd:∀m,m∈g.ds->∀x,Hd g'.nx m x↔Hd g.nx m x
 kk:s'.k=s.k
 ext:∀v n,ρ v=some n->eu v=some n
 cc:cnt<=aB
 uu:∀m,s'.u m->s.u m\/(cnt<m/\m<=aB)
 nw:∀v n,ρ v=none->eu v=some n->¬s.u n
 on:∀v v' n,ρ v=none->eu v=some n->eu v'=some n->v=v'
 Yu:∀n,s'.u n↔s.u n\/∃v,ρ v=none/\eu v=some n
 fZ:∀m,m∈g.ds->g'.lv m=g.lv m/\g'.V m=g.V m
 new:∀m,m∈g'.ds->(m∈g.ds/\g'.ly m=g.ly m/\g'.str m=g.str m)\/(B<=m/\∀gg,(g'.ly m).1=some ⟨gg,0,none⟩->B<=gg)
 nl:∀m,m∈g'.ds->¬m∈g.ds->g'.lv m<=l
section
variable {cnt cA:Nat} {W4:jf}
def OR.refl(h:JS w g s)l B cnt(ρ:jf):OR l B g s cnt ρ g s cnt ρ:=⟨iy.refl h l,λ_ _ _=>Iff.rfl,rfl,λ_ _ q=>q,br _,λ_ q=>qv q,(λv n q r=>qAw),(λv v' n q r=>qAw),λn=>⟨qv,λq=>q.elim id λ⟨v,q,r⟩=>qAw⟩,λ_ _=>⟨rfl,rfl⟩,λm hm=>qv ⟨hm,rfl,rfl⟩,λm hm q=>absurd hm q⟩
def OR.trans(h:JS w g s)(h1:JS w1 g1 s1)(h2:JS w2 g2 s2)(a:OR l B g s cnt ρ g1 s1 ak lB)(b:OR l B' g1 s1 ak lB g2 s2 cA W4)(hB:B<=B'):OR l B g s cnt ρ g2 s2 cA W4 where
 st:=iy.trans h h1 h2 a.st b.st
 hd m hm x:=(b.hd m (a.st.fZ m hm).1 x).trans<|a.hd m hm x
 kk:=b.kk.trans a.kk
 ext v n q:=b.ext v n<|a.ext v n q
 cc:=xc a.cc b.cc
 uu m q:=by
  have:=a.cc;have:=b.cc;obtain q|q:=b.uu m q
  .exact(a.uu m q).imp id λr=>ae
  .omega
 nw v n h0 h2:=by
  cases e:lB v with
  |none=>exact λq=>b.nw v n e h2 ((a.Yu n).2<|qv q)|some n'=>
   have:=b.ext v n' e;rw[h2]at this;injection this with this;subst this;exact a.nw v _ h0 e
 on v v' n h0 h2 Jl:=by
  cases e:lB v with
  |none=>exact b.on v v' n e h2 Jl|some n'=>
   have:=b.ext v n' e;rw[h2]at this;injection this with this;subst this
   cases e':lB v' with
   |none=>exact(b.on v' v n e' Jl h2).symm|some n''=>
    have:=b.ext v' n'' e';rw[Jl]at this;injection this with this;subst this;exact a.on v v' _ h0 e e'
 Yu n:=by
  rw[b.Yu n,a.Yu n];constructor
  .rintro((q|⟨v,q,r⟩)|⟨v,q,r⟩)
   .exact qv q
   .exact qw ⟨v,q,b.ext v n r⟩
   .refine qw ⟨v,?_,r⟩
    cases e:ρ v with
    |none=>rfl|some n'=>rw[a.ext v n' e]at q;cases q
  .rintro(q|⟨v,q,r⟩)
   .grind
   .cases e:lB v with
    |none=>grind|some n'=>
     have:=b.ext v n' e;rw[r]at this;injection this with this;subst this;exact qv<|qw ⟨v,q,e⟩
 fZ m hm:=⟨(b.fZ m (a.st.fZ m hm).1).1.trans (a.fZ m hm).1,(b.fZ m (a.st.fZ m hm).1).2.trans (a.fZ m hm).2⟩
 new m hm:=by
  obtain⟨q1,q2,q3⟩|⟨q1,q2⟩:=b.new m hm
  .obtain⟨r1,r2,r3⟩|⟨r1,r2⟩:=a.new m q1
   .grind
   .grind
  .grind
 nl m hm q:=by
  by_cases q1:m∈g1.ds
  .rw[(b.fZ m q1).1];exact a.nl m q1 q
  .exact b.nl m hm q1
end
section
variable {c:JC} {cnt:Nat}
def OR.used(a:OR l B g s cnt ρ g1 s1 ak lB)(h:∀n,s.u n->us cnt n):∀n,s1.u n->us ak n:=λn q=>by
 have:=a.cc;obtain q|q:=a.uu n q
 .have:=h n q;rw[us]at this⊢;omega
 .rw[us];omega
def OR.Ss(a:OR l B' g s cnt ρ g1 s1 ak lB)(h:B<=B'):OR l B g s cnt ρ g1 s1 ak lB:={a with new:=λm hm=>(a.new m hm).imp id λq=>⟨ae,λgg e=>by have:=q.2 gg e;omega⟩}
def JS.one(h:JS w g s)(o:One b w w')(h1:¬b∈g.ds)(h4:∀m∈g.ds,∀c l gg,g.str m=some (c,l)->l≠[]->(g.ly m).1=some ⟨gg,0,none⟩->gg≠b):JS w' g s:=⟨h.gl.one o h1 h4,h.mh,h.inj,h.can,h.lc,h.val,h.use,h.ok⟩
def JE.one(h:JE w c nb l cnt)(o:One b w w')(h1:c.fD<=b)(h2:c.eb<b)(h3:c.cb<b)(h4:c.rb<b)(h5:c.mb<b):JE w' c nb l cnt:=
 ⟨h.bx.same (q9 o.size.symm)<|o.block c.eb ae,h.ct.same (q9 o.size.symm)<|o.block c.cb ae,h.rs.same<|o.block _ ae,h.ms.move (q9 o.size.symm) (o.block _ ae) (λb' p _=>o.block _ (by have:=p.2;omega))<|λ_ p _=>p,⟨h.z.1,h.z.2.1,by rw[o.size];exact h.z.2.2⟩⟩
def JS.afs(h:JS w g s)(hm:m∈g.ds){gg}(hs:g.str m=some (k,ps))(hl:ps≠[])(hg:(g.ly m).1=some ⟨gg,0,none⟩):gg<w.heap.size:=by
 have⟨ga,q1,q2,_⟩:=h.gl.row hm hs<|List.length_pos_iff.2 hl;rw[hg]at q1;injection q1 with q1;injection q1 with q1;subst q1;exact iQ q2
def PW{p:Prop}(h:p:=by
 exact qv ⟨(List.mem_cons.1 hm).resolve_left e,by simp[xj,e],by simp[xj,e]⟩):p:=h
def OR.add(h:JS w g s){n:Nat}(hn:B<=n)(nd:¬n∈g.ds){q:BA×List Nat}{a:Option Addr×Nat}{T:Ty}(ha:∀gg,a.1=some ⟨gg,0,none⟩->B<=gg):OR l B g s cnt ρ (g.add n (some q) 0 a l T) s cnt ρ where
 st:=iy.add h nd rfl (λe=>by cases e)
 hd _ _ _:=Iff.rfl
 kk:=rfl
 ext _ _ q:=q
 cc:=br _
 uu _ q:=qv q
 nw v n q r:=qAw
 on v v' n q r:=qAw
 Yu n:=⟨qv,λq=>q.elim id λ⟨v,q,r⟩=>qAw⟩
 fZ m hm:=by
  have e:m≠n:=λe=>nd<|e▸hm;simp[xj,e]
 new m hm:=by
  by_cases e:m=n
  .subst e;exact qw ⟨hn,λgg q=>ha gg<|by simpa[xj]using q⟩
  .exact PW
 nl m hm q:=by
  rw[(List.mem_cons.1 hm).resolve_right q];simp[xj]
end
structure OKs(c:JC)l Kb(Tb:Nat->Prop)(K:World->fB->jc->Nat->jf->Prop):Prop where
 af:∀w w' g s cnt ρ,K w g s cnt ρ->Bq w w'->K w' g s cnt ρ
 one:∀w w' g s cnt ρ b,K w g s cnt ρ->One b w w'->Kb<=b->K w' g s cnt ρ
 add:∀w g s cnt ρ n q v a T,K w g s cnt ρ->¬n∈g.ds->K w (g.add n (some q) v a l T) s cnt ρ
 tb:∀b,Tb b->b<Kb
def IU c nb l(Tb:Nat->Prop)(K:World->fB->jc->Nat->jf->Prop)g(s:jc)cnt(ρ:jf)T w(e:Ending)w':=
 ∃n g' s' aB eu,e=.returned (nA n)/\JE w' c nb l aB/\JS w' g' s'/\K w' g' s' aB eu/\OR l w.heap.size g s cnt ρ g' s' aB eu/\n∈g'.ds/\g'.V n=sub s.k (sub (ja eu) T)/\(∀x,Hd g'.nx n x->g'.lv x<=l)/\(∀v,(aD v T->eu v≠none)/\(¬aD v T->eu v=ρ v))/\aB<=cnt+size T/\Fr (λb=>b=c.cb\/Tb b) w w'
def OfJ c nb l Kb Tb(K:World->fB->jc->Nat->jf->Prop)F(A:Nat->Prop)T:=∀(w:World)(g:fB)(s:jc)(cnt:Nat)(ρ:jf)(Q:Nat->Prop)(v:Value),JE w c nb l cnt->JS w g s->(∀n,s.u n->us cnt n)->K w g s cnt ρ->Kb<=w.heap.size->dE w Q T v->(∀b,Q b->b≠c.cb/\¬Tb b)->size T<=1000->(∀n,aD n T->A n)->cnt+size T<=900000->Cq 55 #[v,Nv l,F] w (IU c nb l Tb K g s cnt ρ T w)
def ahI c nb l(Tb:Nat->Prop)(K:World->fB->jc->Nat->jf->Prop)g(s:jc)cnt(ρ:jf)k(L:List Ty)sa sc w gk v wr:=
 ∃(j:Nat)(C:Array Value)(g':fB)(s':jc)(aB:Nat)(eu:jf)(ps:List Nat),Hid (gk=L.length-j)/\j<=L.length/\v=Nv j/\JE wr c nb l aB/\JS wr g' s'/\K wr g' s' aB eu/\OR l (w.heap.size+2) g s cnt ρ g' s' aB eu/\Fr (λb=>b=c.cb\/Tb b) w wr/\Bx wr w.heap.size #[.string<|pn k,.slice sa L.length sc]/\Bx wr (w.heap.size+1) C/\Hid (C.size=L.length)/\
  Hid (ps.length=j/\(∀m,m∈ps->m∈g'.ds/\∀x,Hd g'.nx m x->g'.lv x<=l)/\ps.map g'.V=(L.take j).map (λt=>sub s.k<|sub (ja eu) t)/\(∀i(h:i<ps.length),C[i]? =some (nA ps[i]))/\(∀v,((∃t,t∈L.take j/\aD v t)->eu v≠none)/\((∀t,t∈L.take j->¬aD v t)->eu v=ρ v))/\aB<=cnt+ah (L.take j))
def tG:∀a b:List Ty,ah (a++b)=ah a+ah b
 |[],b=>by simp[ah]|t::a,b=>by simp only[List.cons_append,ah,tG a b];omega
def yG L(h:j<L.length):ah (L.take<|j+1)=ah (L.take j)+size L[j]/\ah (L.take<|j+1)<=ah L:=by
 have e:ah (L.take<|j+1)=ah (L.take j)+size L[j]:=by rw[j9 h,tG];simp[ah]
 refine⟨e,?_⟩;have:ah (L.take<|j+1)+ah (L.drop<|j+1)=ah L:=by rw[<-tG,ql]
 omega
section
variable {c:JC} {Tb:Nat->Prop} {K:World->fB->jc->Nat->jf->Prop} {F:Value} {A:Nat->Prop}
def abC{eu}(hc:∀v,aD v t->ρ v≠none)(he:∀v n,ρ v=some n->eu v=some n):sub (ja ρ) t=sub (ja eu) t:=sub_congr t λv o=>by
 unfold ja
 cases e:ρ v with
 |none=>exact absurd e (hc v o)|some n=>rw[he v n e]
def PX{p:Prop}(h:p:=by
 refine Zx.one oc (λq=>?_)<|λy hy c' l' gg e1 e2 e3 e4=>?_
 .obtain⟨q,_⟩|⟨q,_⟩:=or3.new _ q
  .have:=js.lt q;omega
  .omega
 .obtain⟨q1,q2,q3⟩|⟨q1,q2⟩:=or3.new y hy
  .have:=js.afs q1 (q3▸e1) e2<|q2▸e3;omega
  .have:=q2 gg e3;omega):p:=h
def PY{p:Prop}(h:p:=by
 intro y hy;obtain q|q:=List.mem_append.1 hy
 .obtain⟨r1,r2⟩:=x2 y q;refine⟨(Ju.st.fZ y r1).1,λx k=>?_⟩;have k:=(Ju.hd y r1 x).1 k;rw[(Ju.fZ x<|kQ.gl.bH r1 k).1];exact r2 x k
 .simp at q;subst q;exact⟨hm,wj⟩):p:=h
def PZ{p:Prop}(h:p:=by
 intro i hi;by_cases e:i<j
 .rw[Array.getElem?_setIfInBounds_ne ae,x4 i ae,List.getElem_append_left ae]
 .have e:i=j:=D9;subst e;rw[List.getElem_append_right ae]
  simp[uw,x1]):p:=h
def P0{p:Prop}(h:p:=by
 cases e:lB v with
 |none=>exact absurd e this|some n=>rw[Ju.ext v n e];simp):p:=h
def Yv(hF:F=.nilFunc\/∃fn cap,F=.func fn #[] cap)(hK:OKs c l Kb Tb K)k L(IH:∀i(h:i<L.length),OfJ c nb l Kb Tb K F A L[i]):OfJ c nb l Kb Tb K F A (.aH k L):=by
 intro w g s cnt ρ Q v je js HU hk0 hkb hv hQ hs HA aj8
 cases hv with
 |aH _ _ sa sc vs AE aN hr=>
 have hL:L.length<=1001:=by have:=Bl L;simp[size]at hs;omega
 have eG:ah L<size (.aH k L):=by simp only[size];omega
 have⟨i0,vH,oW,lY,kE⟩:=info_parts Bk;have Ti:=iV (by_:=8) uG vH oW rfl lY kE aK L.length hL;have zc:=je.ct.z;have bR:Bq w ((w.alloc<|Cv #[Sv<|pn k,Lv sa L.length sc] 169).alloc<|Cv (Array.replicate L.length<|.pointer none) 116):=(bw _).alloc ag _;have ST:ahI c nb l Tb K g s cnt ρ k L sa sc w L.length (Iv 0) ((w.alloc<|Cv #[Sv<|pn k,Lv sa L.length sc] 169).alloc<|Cv (Array.replicate L.length<|.pointer none) 116):=⟨0,Array.replicate L.length<|.pointer none,g,s,cnt,ρ,[],ai ag,Nat.zero_le _,rfl,je.af bR,js.af bR,hK.af _ _ _ _ _ _ hk0 bR,OR.refl js _ _ _ _,Fr.of bR,(Bx.new w _ _).alloc _,by have:=Bx.new (w.alloc<|Cv #[Sv<|pn k,Lv sa L.length sc] 169) (Array.replicate L.length<|.pointer none) 116;simpa using this,ai ag,ai ⟨rfl,ag,ag,λi hi=>by simp at hi,λv=>⟨ag,λ_=>rfl⟩,by simp[ah]⟩⟩;have HJ:=ai js;have HQ:=ai hQ;have HZ:=And.intro je.z.2.2<|And.intro je.bx.z<|And.intro je.ct.z<|And.intro je.rs.lt je.ms.lt;go_enter func55,ntmps55
 go_wp2
 go_loopg[29] L.length (λgk v wr=>ahI c nb l Tb K g s cnt ρ k L sa sc w gk v wr)
 case atStart=>exact ST
 case round=>
  obtain⟨j,C,g1,s1,ak,lB,ps,c_,hj,rfl,Br,kQ,k1,qF,F1,HB0,B1,hC,hT⟩:=hrel;have zw:=F1.size;have zb:=B1.z;by_cases bh:j<L.length
  .have hd:(j:Int)<(L.length:Int):=ae;obtain⟨gg,rfl,hg,kC,bU⟩:∃g,sa=some ⟨g,0,none⟩/\Q g/\g<w.heap.size/\∀i,i<L.length->w.cell? ⟨g,i,none⟩=some (vs i):=by
    obtain h0|h0:=aN
    .subst h0;simp at bh
    .exact h0
   have hQ:=uh HQ;have cg:wr.cell? ⟨gg,j,none⟩=some (vs j):=by
    rw[xk (a:=⟨gg,j,none⟩) (w:=w)<|F1.block gg kC<|λq=>q.elim (hQ gg hg).1 (hQ gg hg).2];exact bU j bh
   have PJ:=(hr j bh).fr F1<|λb p _ q=>q.elim (hQ b p).1 (hQ b p).2;have⟨tv,xv,hv⟩:=PJ.iface;have⟨x1,x2,x3,x4,x5,x6⟩:=uh hT;have⟨y1,y2⟩:=yG L bh;have HC:=IH j bh wr g1 s1 ak lB Q (vs j) Br kQ (qF.used HU) k1 ae PJ hQ ae (λn o=>HA n (by simp only[aD];exact(lE _ _).2 ⟨_,qd bh,o⟩)) ae;rw[hv]at cg HC;have HJ1:=ai kQ;have HO1:=ai qF;have yW:=ai F1;have dC:=ai B1;go_wp2_with fail;refine HC.mono ?_;rintro e w1⟨m,g2,s2,cA,W4,rfl,je2,Zx,k2,Ju,hm,hV,wj,DC,yH,F2⟩;have nmr:∀b,w.heap.size<=b->¬(b=c.cb\/Tb b):=λb hb q=>q.elim (λq=>ae) (λq=>by have:=hK.tb b q;omega);have B2:=dC.fr F2<|nmr _ ae;have B02:=HB0.fr F2<|nmr _ ae;have uw:j<C.size:=qBh;have cj:=(B2.c j).trans<|xy uw;have fj:=B2.f j;have B3:=B2.aO j (nA m) (C.setIfInBounds j<|nA m) rfl uw;have B03:=B02.bN (b2:=w.heap.size+1) ae j<|nA m;have Mq:=HO1.trans HJ HJ1 Zx Ju ae;have HX:=qx je2<|qx Zx<|qx k2<|qx Ju<|qx hm<|qx hV<|qx wj<|qx DC yH;have yN:=yW.trans F2;have z2:=F2.size
   go_wp2
   go_roundg(L.length-(j+1))
   case measure=>rw[uh c_];omega
   case rel=>
    have⟨x1,x2,x3,x4,x5,x6⟩:=uh hT;obtain⟨je2,Zx,k2,Ju,hm,hV,wj,DC,yH⟩:=HX;have or3:=Mq;have kQ:=uh HJ1;have js:=uh HJ;have oc:=One.cell w1 (w.heap.size+1) j<|nA m;obtain⟨u1,u2,u3,u4,u5⟩:=HZ;refine⟨j+1,C.setIfInBounds j<|nA m,g2,s2,cA,W4,ps++[m],ai rfl,ae,iF,je2.one oc ae ae ae ae ae,?_,hK.one _ _ _ _ _ _ _ k2 oc ae,or3,yN.set (qw ae) j _,B03,B3,ai (by simp;exact hC),ai ⟨by simp[x1],?_,?_,?_,?_,ae⟩⟩
    .exact PX
    .exact PY
    .rw[qh,j9 bh,qh];have e1:=dW λp hp=>(Ju.fZ p (x2 p hp).1).2;have e2:(L.take j).map (λt=>sub s.k<|sub (ja lB) t)=(L.take j).map (λt=>sub s.k<|sub (ja W4) t):=qr λt ht=>by rw[abC (λv o=>(x5 v).1 ⟨t,ht,o⟩) Ju.ext]
     rw[e1,x3,e2];have:=HO1.kk;simp[hV,this]
    .exact PZ
    .intro v;rw[j9 bh];refine⟨?_,λq=>?_⟩
     .rintro⟨t,ht,o⟩;obtain q|q:=List.mem_append.1 ht
      .have:=(x5 v).1 ⟨t,q,o⟩;exact P0
      .simp at q;subst q;exact(DC v).1 o
     .rw[(DC v).2<|q _<|qm _<|List.mem_singleton.2 rfl,(x5 v).2 λt ht=>q t<|qn _ ht]
  .have hd:decide ((j:Int)<(L.length:Int))=false:=bQ;have ej:j=L.length:=ae;subst ej;have c0:=HB0.c 0;have HX:=qx Br<|qx kQ<|qx k1<|qx qF<|qx F1<|qx B1 hT;go_wp2_with fail;refine(DB (w:=wr) (pn k) (l:Int) (some ⟨w.heap.size+1,0,none⟩) L.length L.length).mono ?_;rintro e w3⟨rfl,rfl⟩
   go_wp2
   go_ret;obtain⟨Br,kQ,k1,qF,F1,B1,x1,x2,x3,x4,x5,x6⟩:=HX;simp only[qi]at x3 x5 x6;have da:Bq wr (wr.alloc<|Cv #[.pointer none,Nv l,Iv 0,Sv<|pn k,Lv (some ⟨w.heap.size+1,0,none⟩) L.length L.length] 187):=bw _;have y9:=B1.alloc<|Cv #[.pointer none,Nv l,Iv 0,Sv<|pn k,Lv (some ⟨w.heap.size+1,0,none⟩) L.length L.length] 187;have hz:¬wr.heap.size∈g1.ds:=λq=>by have:=kQ.lt q;omega
   have Yw:¬(w.heap.size+1)∈g1.ds:=λq=>by
    obtain⟨q,_⟩|⟨q,_⟩:=qF.new _ q
    .have:=HJ.lt q;omega
    .omega
   have js3:=kQ.Yj da (n:=wr.heap.size) (l:=l) (c:=k) (ps:=ps) (a:=(some ⟨w.heap.size+1,0,none⟩,L.length)) (br _) AE ae x2 (qw ⟨w.heap.size+1,rfl,(λq=>by
    obtain q|q:=List.mem_cons.1 q
    .omega
    .exact Yw q),y9.z,λi hi=>(y9.c i).trans<|x4 i hi⟩) (by rw[x1];exact(xq wr _).1)
   have or3:OR l w.heap.size g1 s1 ak lB (g1.add wr.heap.size (some (k,ps)) 0 (some ⟨w.heap.size+1,0,none⟩,L.length) l<|.aH k<|ps.map g1.V) s1 ak lB:=OR.add kQ ae hz (λgg e=>by injection e with e;injection e with e;omega);refine⟨wr.heap.size,_,s1,ak,lB,rfl,Br.af da,js3,hK.add _ _ _ _ _ _ _ _ _ _ (hK.af _ _ _ _ _ _ k1 da) hz,(qF.Ss ae).trans HJ kQ js3 or3<|br _,ag,?_,λx q=>?_,λv=>?_,ae,F1.trans<|xw da⟩
   .simp only[xj,if_true,sub,gY,x3,qu];rfl
   .have:x=wr.heap.size:=q.one<|.here (kQ.gl.out _ hz).1;subst this;simp[xj]
   .simp only[aD];rw[lE];exact⟨(x5 v).1,λq=>(x5 v).2 λt h1 h2=>q ⟨t,h1,h2⟩⟩
end
abbrev anV(kb jb:Nat):Value:=.func (.func 398) #[] #[Pv kb,Pv jb]
structure qG(c:JC)l kb jb mb w(g:fB)(s:jc)(cnt:Nat)(ρ:jf):Prop where
 bk:Bx w kb #[Mv mb]
 bj:Bx w jb #[Pv c.eb]
 mp:∃L:List (Int×Value),MS (λn:Int=>Iv n) w mb L/\∀v:Nat,(ρ v=none/\aY (v:Int) L=none)\/∃n m,ρ v=some n/\aY (v:Int) L=some (nA m)/\m∈g.ds/\g.str m=none/\g.vr m=n/\∀x,Hd g.nx m x->g.lv x<=l
 XC:c.fD<=mb/\c.eb<mb/\c.cb<mb/\c.rb<mb/\c.mb<mb
section
variable {c:JC} {cnt:Nat}
def P6{p:Prop}(h:p:=by
 refine⟨n',m,r1,r2,qc _ r3,by simp[xj,e,r4],by simp[xj,e,r5],λx k=>?_⟩;by_cases ex:x=n
 .simp[xj,ex]
 .simp only[xj,ex,if_false];exact r6 x k):p:=h
def qG.ks(hk:kb<Kb)(hj:jb<Kb)(hm:mb<Kb):OKs c l Kb (λb=>b=mb) (qG c l kb jb mb) where
 af w w' g s cnt ρ h hb:=by
  have⟨L,h1,h2⟩:=h.mp;exact⟨h.bk.below hb,h.bj.below hb,⟨L,h1.below hb,h2⟩,h.XC⟩
 one w w' g s cnt ρ b h o hb:=by
  have⟨L,h1,h2⟩:=h.mp;exact⟨h.bk.same (q9 o.size.symm)<|o.block kb ae,h.bj.same (q9 o.size.symm)<|o.block jb ae,⟨L,h1.one o ae,h2⟩,h.XC⟩
 add w g s cnt ρ n q v a T h hn:=by
  have⟨L,h1,h2⟩:=h.mp;refine⟨h.bk,h.bj,⟨L,h1,λv=>(h2 v).imp id ?_⟩,h.XC⟩;rintro⟨n',m,r1,r2,r3,r4,r5,r6⟩;have e:m≠n:=λe=>hn<|e▸r3;exact P6
 tb b e:=ae
def JS.KT(h:JS w g s)(hm:m∈g.ds)(hs:g.str m=none):g.V m=s.k (g.vr m):=h.val m hm hs
def JS.mz(h:JS w g s)[DecidableEq κ]{enc}{L:List (κ×Value)}(hm:MS enc w b L):¬b∈g.ds/\∀m∈g.ds,∀c l gg,g.str m=some (c,l)->l≠[]->(g.ly m).1=some ⟨gg,0,none⟩->gg≠b:=by
 refine⟨λq=>?_,λm Yi c l gg hs hl hg e=>?_⟩
 .have⟨p,hp⟩:=h.gl.py q;rw[hm.pY 0]at hp
  cases hp
 .have⟨ga,q1,q2,_⟩:=h.gl.row Yi hs<|List.length_pos_iff.2 hl;rw[hg]at q1;injection q1 with q1;injection q1 with q1;subst q1;rw[e,hm.pY _]at q2
  cases q2
def OR.var(h:JS w g s){v}(hn:B<=n)(nd:¬n∈g.ds)(hu:∀n,s.u n->us cnt n)(hv:ρ v=none)(hr:∀y n',ρ y=some n'->s.u n'):OR l B g s cnt ρ (g.add n none (cnt+1) (none,0) l<|.var<|cnt+1) ⟨s.k,λm=>s.u m\/m=cnt+1⟩ (cnt+1) (λy=>if y=v then some (cnt+1)else ρ y):=by
 have hnu:¬s.u (cnt+1):=λq=>by have:=hu _ q;rw[us]at this;omega
 have hor:∀y n',ρ y=some n'->y≠v:=λy n' q e=>by rw[e,hv]at q;cases q
 refine⟨iy.add h nd rfl (λ_=>br _),λ_ _ _=>Iff.rfl,rfl,λy n' q=>by simp[hor y n' q,q],ae,λm q=>q.imp id λe=>ae,λy n' h0 h1=>?_,λy y' n' h0 h1 h2=>?_,λn'=>⟨?_,?_⟩,λm hm=>?_,λm hm=>?_,λm hm q=>by rw[(List.mem_cons.1 hm).resolve_right q];simp[xj]⟩
 .grind
 .grind
 .grind
 .grind
 .have e:m≠n:=λe=>nd<|e▸hm;simp[xj,e]
 .by_cases e:m=n
  .subst e;exact qw ⟨hn,λgg q=>by simp[xj]at q⟩
  .exact PW
def qG.rng(h:qG c l kb jb mb w g s cnt ρ)(j:JS w g s):∀y n',ρ y=some n'->s.u n':=λy n' q=>by
 have⟨L,h1,h2⟩:=h.mp;obtain⟨r,_⟩|⟨n,m,r1,r2,r3,r4,r5,r6⟩:=h2 y
 .rw[r]at q;cases q
 .rw[r1]at q;injection q with q;subst q;rw[<-r5];exact j.use m r3 r4
def abD(h:JE w c nb l cnt)(j:JS w g s)(hu:∀n,s.u n->us cnt n)(ha:qG c l kb jb mb w g s cnt ρ)v(hc:cnt+1<=900000):Cq 398 #[Nv v,Pv kb,Pv jb] w (IU c nb l (λb=>b=mb) (qG c l kb jb mb) g s cnt ρ (.var v) w):=by
 have⟨L,HM,HL⟩:=ha.mp;have hl:=HM.look (KL.num Tryz.underlying98) Tryz.underlying179 (yu w) (v:Int) trivial (λ_ _=>trivial) true;have o8:=ha.bk.c 0;have hcj:=ha.bj.c 0;have hkm:kb≠mb:=λe=>by have:=HM.pY 0;rw[<-e,o8]at this;cases this
 have hjm:jb≠mb:=λe=>by have:=HM.pY 0;rw[<-e,hcj]at this;cases this
 have Jd:c.cb≠mb:=by have:=ha.XC.2.2.1;omega
 obtain⟨HR,q⟩|⟨n,m,r1,r2,r3,r4,r5,r6⟩:=HL v
 .rw[q]at hl;simp at hl;have hkc:kb≠c.cb:=λe=>by have:=h.ct.c 0;rw[<-e,o8]at this;simp at this
  have hjc:jb≠c.cb:=λe=>by have:=h.ct.c 0;rw[<-e,hcj]at this;simp at this
  have HV:=od h j hu ae;have HA:=ai ha;have HJ:=ai j;go_enter func398,ntmps398;go_wp2_with fail;refine HV.mono ?_;rintro e w1⟨n,rfl,hn,Br,kQ,F1⟩;have hc1:=(HA.bk.fr F1 hkc).c 0;have BK1:=HA.bk.fr F1 hkc;have BJ1:=HA.bj.fr F1 hjc;have HM1:=HM.same<|F1.block mb HM.lt<|λe=>Jd e.symm;have HX:=And.intro Br<|And.intro kQ F1;go_wp2_with(refine aU _ rfl _ _ _ _ (Or.inr rfl) (KL.num Tryz.underlying98) Tryz.underlying179 _ _ rfl HM1 (v:Int) (nA n) rfl rfl trivial (λ_ _=>trivial) ?_;intro w' H' O';have AD:=ai H';have O2:=ai O';clear H' O');go_ret;obtain⟨Br,kQ,F1⟩:=HX;have O:=uh O2;have j:=uh HJ;have nd:¬n∈g.ds:=λq=>by have:=j.lt q;omega
  have ha:=uh HA;have⟨f1,f2,f3,f4,f5⟩:=ha.XC;have⟨n1,n2⟩:=kQ.mz HM1;refine⟨n,_,_,cnt+1,_,rfl,Br.one O f1 f2 f3 f4 f5,kQ.one O n1 n2,⟨BK1.same (q9 O.size.symm)<|O.block kb hkm,BJ1.same (q9 O.size.symm)<|O.block jb hjm,⟨_,AD,λy=>?_⟩,ha.XC⟩,OR.var j (v:=v) hn nd hu HR<|ha.rng j,ag,?_,λx k=>?_,λy=>⟨λo=>?_,λo=>?_⟩,by simp[size],?_⟩
  .rw[aJ];by_cases e:y=v
   .subst e;refine qw ⟨cnt+1,n,ag,ag,ag,Nz,Nz,λx k=>?_⟩;have:x=n:=k.one<|.here (j.gl.out _ nd).1;subst this;simp[xj]
   .have e':¬(v:Int)=(y:Int):=ae;simp only[e,e',if_false];refine(HL y).imp id ?_;rintro⟨n',m,r1,r2,r3,r4,r5,r6⟩;have e:m≠n:=λe=>nd<|e▸r3;exact P6
  .have hnu:¬s.u (cnt+1):=λq=>by have:=hu _ q;rw[us]at this;omega
   simp[xj,sub,ja,j.ok.out _ hnu]
  .have:x=n:=k.one<|.here (j.gl.out _ nd).1;subst this;simp[xj]
  .simp only[aD]at o;subst o;simp
  .simp only[aD]at o;simp[zh o]
  .exact⟨O.os.trans F1.os,O.tape.trans F1.tape,O.output.trans F1.output,by rw[O.size];exact F1.size,λk hk hn=>(O.block k<|λe=>hn<|qw e).trans<|F1.block k hk<|λe=>hn<|qv e⟩
 .rw[r2]at hl;simp at hl;have HX:=show IU c nb l (λb=>b=mb) (qG c l kb jb mb) g s cnt ρ (.var v) w (Rv<|nA m) w from⟨m,g,s,cnt,ρ,rfl,h,j,ha,OR.refl j _ _ _ _,r3,by simp[sub,In.via,r1,j.KT r3 r4,r5],r6,λy=>⟨λo=>by simp only[aD]at o;subst o;simp[r1],λ_=>rfl⟩,ae,Fr.refl _ _⟩;go_enter func398,ntmps398
  go_wp2
  go_ret;exact HX
end
section
variable {c:JC} {cnt:Nat}
def aft n:OfJ c nb l Kb (λb=>b=mb) (qG c l kb jb mb) (anV kb jb) (λ_=>True) (.var n):=by
 intro w g s cnt ρ Q v je js hu hk0 hkb hv hQ hs hA AE
 cases hv
 have HC:=abD je js hu hk0 n (by simpa[size]using AE);go_enter func55,ntmps55;go_wp2_with fail;refine HC.mono ?_;rintro e w1⟨m,g',s',aB,eu,rfl,r⟩
 go_wp2
 go_ret;exact⟨m,g',s',aB,eu,rfl,r⟩
mutual
def P7(hk:kb<Kb)(hj:jb<Kb)(hm:mb<Kb):∀T:Ty,OfJ c nb l Kb (λb=>b=mb) (qG c l kb jb mb) (anV kb jb) (λ_=>True) T
 |.var n=>aft n|.aH k L=>Yv (qw ⟨_,_,rfl⟩) (qG.ks hk hj hm) k L<|acU hk hj hm L
def acU(hk:kb<Kb)(hj:jb<Kb)(hm:mb<Kb):∀(L:List Ty)(i:Nat)(h:i<L.length),OfJ c nb l Kb (λb=>b=mb) (qG c l kb jb mb) (anV kb jb) (λ_=>True) L[i]
 |[],i,h=>absurd h (xh _)|t::L,0,h=>P7 hk hj hm t|t::L,i+1,h=>acU hk hj hm L i<|Nat.lt_of_succ_lt_succ h
end
abbrev noK:World->fB->jc->Nat->jf->Prop:=λ_ _ _ _ _=>True
def ai9:OKs c l 0 (λ_=>False) noK:=⟨λ_ _ _ _ _ _ _ _=>trivial,λ_ _ _ _ _ _ _ _ _ _=>trivial,λ_ _ _ _ _ _ _ _ _ _ _ _=>trivial,λ_ h=>h.elim⟩
mutual
def acV:∀T:Ty,OfJ c nb l 0 (λ_=>False) noK .nilFunc (λ_=>False) T
 |.var n=>λw g s cnt ρ Q v _ _ _ _ _ _ _ _ hA _=>(hA n rfl).elim|.aH k L=>Yv (qv rfl) ai9 k L<|acW L
def acW:∀(L:List Ty)(i:Nat)(h:i<L.length),OfJ c nb l 0 (λ_=>False) noK .nilFunc (λ_=>False) L[i]
 |[],i,h=>absurd h (xh _)|t::L,0,h=>acV t|t::L,i+1,h=>acW L i<|Nat.lt_of_succ_lt_succ h
end
def ahJ c nb l g(s:jc)cnt T w(e:Ending)w':=
 ∃n g' aB,e=.returned (nA n)/\JE w' c nb l aB/\JS w' g' s/\OR l w.heap.size g s cnt jy g' s aB jy/\n∈g'.ds/\g'.V n=T/\(∀x,Hd g'.nx n x->g'.lv x<=l)/\aB<=cnt+size T/\Fr (λb=>b=c.cb) w w'
def ai_ (hT:∀v,¬aD v T) (h:IU c nb l (λ_=>False) noK g s cnt jy T w e w'):ahJ c nb l g s cnt T w e w':=by
 obtain ⟨n,g',s',aB,eu,rfl,h1,h2,_,h4,h5,h6,h7,h8,h9,h10⟩:=h;have WX:=funext λv=>(h8 v).2 (hT v);subst WX;have hs:s'=s:=by
  obtain ⟨k',u'⟩:=s';obtain ⟨k,u⟩:=s;have e1:k'=k:=h4.kk;have e2:u'=u:=funext λn=>propext ⟨λq=>((h4.Yu n).1 q).elim id (λ⟨v,_,r⟩=>nomatch r),λq=>(h4.Yu n).2 (qv q)⟩;rw [e1,e2]
 subst hs;refine ⟨n,g',aB,rfl,h1,h2,h4,h5,?_,h7,h9,h10.fD λb q=>q.elim id False.elim⟩;rw [h6,jx (t:=T) λv o=>(hT v o).elim,jx λv o=>(hT v o).elim]
def abE(h:JE w c nb l cnt)(j:JS w g s)(hu:∀n,s.u n->us cnt n)(hv:dE w Q T v)(hQ:∀b,Q b->b≠c.cb)(hs:size T<=1000)(hT:∀n,¬aD n T)(hc:cnt+size T<=900000):Cq 379 #[Pv c.eb,v] w (ahJ c nb l g s cnt T w):=by
 have f1:=h.bx.c 4;have HC:=acV T w g s cnt In.Me Q v h j hu trivial (Nat.zero_le _) hv (λb q=>⟨hQ b q,id⟩) hs (λn o=>hT n o) hc;obtain⟨tv,xv,rfl⟩:=hv.iface;go_enter func379,ntmps379;go_wp2_with fail;refine HC.mono ?_;rintro e w1 r;have r':=ai_ hT r;obtain⟨n,g',aB,rfl,R⟩:=r'
 go_wp2
 go_ret;exact⟨n,g',aB,rfl,R⟩
def P8(h:JE w c nb l cnt)(g:fB)(s:jc):Cq 386 #[Pv c.eb] w λe w'=>∃kb jb mb,e=.returned (anV kb jb)/\qG c l kb jb mb w' g s cnt jy/\Bq w w'/\(kb<w'.heap.size/\jb<w'.heap.size/\mb<w'.heap.size)/\w.heap.size<=mb/\w.heap.size<=jb/\w.heap.size<=kb:=by
 have iE:= @run_makeMap Tryz.prog;have HE:=ai h;go_enter func386,ntmps386
 go_wp2
 go_ret;have h:=uh HE;have bR:=(((xn w.heap.size w).alloc (br _)<|Cv #[Pv c.eb] 126).alloc ag<|.map #[] 0).alloc bQ<|Cv #[Mv<|w.heap.size+1] 179;have z1:=h.z.2.2;have z2:=h.bx.z;have z3:=h.ct.z;have z4:=h.rs.lt;have z5:=h.ms.lt;refine⟨w.heap.size+1+1,w.heap.size,w.heap.size+1,rfl,⟨?_,?_,⟨[],?_,λv=>qv ⟨rfl,rfl⟩⟩,ae,ae,ae,ae,ae⟩,bR,bQ,ae,ae,ae⟩
 .have:=Bx.new ((w.alloc<|Cv #[Pv c.eb] 126).alloc<|.map #[] 0) #[Mv<|w.heap.size+1] 179;simpa using this
 .exact((Bx.new w #[Pv c.eb] 126).alloc _).alloc _
 .have:=(MS.new (λn:Int=>Iv n)<|w.alloc<|Cv #[Pv c.eb] 126).below<|bw<|Cv #[Mv<|w.heap.size+1] 179;simpa using this
def OR.drawn(h:OR l B g s cnt ρ g1 s1 ak lB)(hT:∀v,(aD v T->lB v≠none)/\(¬aD v T->lB v=ρ v)):In.qI T ρ s (.ok ((sub (ja lB) T,lB),s1)):=by
 refine qw ⟨lB,s1,⟨lB,s1.u,⟨h.ext,λv q=>(hT v).2 λo=>q<|In.bu.2 o,λv q=>(hT v).1<|In.bu.1 q,h.nw,h.on,h.Yu⟩,?_⟩,rfl⟩;have:=h.kk;obtain⟨k',u'⟩:=s1;simp only at this;rw[this]
end
def Fa(g:fB)l n:=∃S:Nat->Prop,ScD g.str g.ds g.nx S/\(∀x,S x->g.lv x<=l\/g.lv x=aL)/\∀h,Hd g.nx n h->S h
def dL(g:fB)v:=∃x,g.R v x/\g.lv x=aL
structure tH(E:Nat->Prop)l sb w(g:fB)(s:jc)(ρ:jf)M:Prop where
 ms:MS zV w sb M
 kd:∀p,p∈M->p.1∈g.ds
 gm:∀h v,aY h M=some v->∃m,v=nA m/\m∈g.ds/\g.V m=sub (ja ρ) (g.V h)/\(∀x,Hd g.nx m x->g.lv x<=l)/\∀y,aD y (g.V h)->dL g y->ρ y≠none
 rn:∀v n,ρ v=some n->s.u n/\∃x,g.R v x/\g.lv x=aL/\(aY x M≠none\/E x)
section
variable {c:JC} {cnt:Nat} {M:List (Nat×Value)}
def tH.any(h:tH E l sb w g s ρ M){v:Nat}(q:ρ v=some n):dL g v:=by
 have⟨_,x,r,q,_⟩:=h.rn v n q;exact⟨x,r,q⟩
def Fa.mv(h:JS w g s)(h1:JS w1 g1 s1)(o:OR l B g s cnt ρ g1 s1 ak lB)(hn:n∈g.ds)(f:Fa g L n):Fa g1 L n:=by
 obtain⟨S,f1,f2,f3⟩:=f;refine⟨λx=>S x/\x∈g.ds,λx hx Bz hS k l hs p hp y ky=>?_,λx hx=>by rw[(o.fZ x hx.2).1];exact f2 x hx.1,λy ky=>?_⟩
 .have e:=(o.st.fZ x hS.2).2.1;rw[e]at hs;have Jp:=(h.gl.part hS.2 hs).2 p hp;have ky':=(o.hd p Jp y).1 ky;exact⟨f1 x hS.2 ((o.hd x hS.2 x).1<|.here Bz).head hS.1 k l hs p hp y ky',h.gl.bH Jp ky'⟩
 .have ky':=(o.hd n hn y).1 ky;exact⟨f3 y ky',h.gl.bH hn ky'⟩
def Fa.part{a}(f:Fa g L n)(ha:Hd g.nx n a)(Zr:a∈g.ds)(hs:g.str a=some (k,ps))(hp:p∈ps):Fa g L p:=by
 obtain⟨S,f1,f2,f3⟩:=f;exact⟨S,f1,f2,λy ky=>f1 a Zr ha.head (f3 a ha) k ps hs p hp y ky⟩
def dL.back(h:JS w g s)(h1:JS w1 g1 s1)(o:OR l B g s cnt ρ g1 s1 ak lB){v:Nat}(hp:p∈g.ds)(hv:aD v (g.V p))(a:dL g1 v):dL g v:=by
 obtain⟨x,r,q⟩:=a;have⟨y,r0⟩:=h.An hp hv;have⟨b1,b2,b3⟩:=o.st.fZ y r0.1;have e:=h1.inj y x b1 r.1 (b2.trans r0.2.2.1) r.2.2.1 (by rw[b3,r0.2.2.2,r.2.2.2]);subst e;exact⟨y,r0,by rw[<-(o.fZ y r0.1).1];exact q⟩
def dL.fwd(h:JS w g s)(o:OR l B g s cnt ρ g1 s1 ak lB){v:Nat}(a:dL g v):dL g1 v:=by
 obtain⟨x,r,q⟩:=a;have⟨b1,b2,b3⟩:=o.st.fZ x r.1;exact⟨x,⟨b1,((o.hd x r.1 x).2<|.here r.2.1).head,b2.trans r.2.2.1,b3.trans r.2.2.2⟩,by rw[(o.fZ x r.1).1];exact q⟩
def abF(h:JS w g s)(h1:JS w1 g1 s1)(o:OR l B g s cnt ρ g1 s1 ak lB)(hr:∀v n,lB v=some n->dL g1 v)(hp:p∈g.ds)(hc:∀v,aD v (g.V p)->dL g v->ρ v≠none):sub (ja ρ) (g.V p)=sub (ja lB) (g.V p):=sub_congr _ λv ov=>by
 unfold ja
 cases e:ρ v with
 |some n=>rw[o.ext v n e]|none=>
  cases e1:lB v with
  |none=>rfl|some n=>exact absurd e<|hc v ov<|dL.back h h1 o hp ov<|hr v n e1
def afu(h:JS w g s)(hr:∀v n,ρ v=some n->dL g v){x}(hn:n∈g.ds)(hx:Hd g.nx n x)(hl:g.lv x<aL):(∀v,aD v (g.V n)->¬dL g v)/\sub (ja ρ) (g.V n)=g.V n:=by
 have a:∀v,aD v (g.V n)->¬dL g v:=λv ov⟨y,r,q⟩=>by
  have⟨z,r1,q1⟩:=eT (lv:=g.lv) h.jg h.can _ n x hn hx (br _) ov;have e:=h.inj z y r1.1 r.1 r1.2.2.1 r.2.2.1<|r1.2.2.2.trans r.2.2.2.symm;subst e;have:=q1 h.lc;omega
 refine⟨a,jx λv ov=>?_⟩;rw[ja]
 cases e:ρ v with
 |none=>rfl|some n=>grind
end
abbrev vrV(c:JC):Value:=.func (.func 382) #[Pv c.eb] #[]
abbrev IW c l sb:=#[Nv l,vrV c,Mv sb]
def LV E c nb l sb g(s:jc)cnt(ρ:jf)n w(e:Ending)w':=
 ∃m g' s' aB eu M',e=.returned (nA m)/\JE w' c nb l aB/\JS w' g' s'/\tH E l sb w' g' s' eu M'/\OR l w.heap.size g s cnt ρ g' s' aB eu/\m∈g'.ds/\g'.V m=sub (ja eu) (g.V n)/\(∀x,Hd g'.nx m x->g'.lv x<=l)/\(∀v,aD v (g.V n)->dL g v->eu v≠none)/\(∀v,ρ v=none->eu v≠none->aD v (g.V n))/\aB<=cnt+size (g.V n)/\Fr (λb=>b=c.cb\/b∈g.ds\/b=sb) w w'
def Su(c:JC)sb:=c.fD<=sb/\c.eb<sb/\c.cb<sb/\c.rb<sb/\c.mb<sb
def abG c nb l sb k:=∀(w:World)(g:fB)(s:jc)(cnt:Nat)(ρ:jf)(M:List (Nat×Value))(n:Nat),JE w c nb l cnt->JS w g s->(∀n,s.u n->us cnt n)->tH (λ_=>False) l sb w g s ρ M->n∈g.ds->Fa g l n->size (g.V n)<=k->cnt+size (g.V n)<=900000->Cq 400 #[.agg<|IW c l sb,nA n] w (LV (λ_=>False) c nb l sb g s cnt ρ n w)
def ahK c nb l sb k:=∀(w:World)(g:fB)(s:jc)(cnt:Nat)(ρ:jf)(M:List (Nat×Value))(h:Nat),JE w c nb l cnt->JS w g s->(∀n,s.u n->us cnt n)->tH (λ_=>False) l sb w g s ρ M->h∈g.ds->g.nx h=none->g.lv h=aL->aY h M=none->Fa g l h->size (g.V h)<=k->cnt+size (g.V h)<=900000->Cq 402 #[.agg<|IW c l sb,nA h] w (LV (λx=>x=h) c nb l sb g s cnt ρ h w)
section
variable {c:JC} {cnt:Nat} {M:List (Nat×Value)}
def OR.eqv{ba:Nx}(h:JS w g s)(e:im g.str g.nx ba)(hg:GL w' g.ds g.str ba g.vr g.ly g.lv)(B:Nat):OR l B g s cnt ρ {g with nx:=ba} s cnt ρ where
 st:=iy.eqv h e hg l
 hd m _ x:=⟨e.back h.gl,e.jU m x⟩
 kk:=rfl
 ext _ _ q:=q
 cc:=br _
 uu _ q:=qv q
 nw v n q r:=qAw
 on v v' n q r:=qAw
 Yu n:=⟨qv,λq=>q.elim id λ⟨v,q,r⟩=>qAw⟩
 fZ m _:=⟨rfl,rfl⟩
 new m hm:=qv ⟨hm,rfl,rfl⟩
 nl m hm q:=absurd hm q
def tH.eqv(h:tH E l sb w g s ρ M)(j:JS w g s)(e:im g.str g.nx ba)(hms:MS zV w' sb M):tH E l sb w' {g with nx:=ba} s ρ M where
 ms:=hms
 kd:=h.kd
 gm y v q:=by
  have⟨m,r1,r2,r3,r4,r5⟩:=h.gm y v q;exact⟨m,r1,r2,r3,λx k=>r4 x<|e.back j.gl k,λz oz⟨x,⟨a1,a2,a3,a4⟩,b⟩=>r5 z oz ⟨x,⟨a1,(e.yT x).1 a2,a3,a4⟩,b⟩⟩
 rn v n q:=by
  have⟨q1,x,⟨a1,a2,a3,a4⟩,q2,q3⟩:=h.rn v n q;exact⟨q1,x,⟨a1,(e.yT x).2 a2,a3,a4⟩,q2,q3⟩
def tH.put{a:Nat}(h:tH (λx=>x=a) l sb w g s ρ M)(hms:MS zV w' sb (bD a (nA m) M))(ha:a∈g.ds)(hm:m∈g.ds)(hV:g.V m=sub (ja ρ) (g.V a))(hl:∀x,Hd g.nx m x->g.lv x<=l)(ho:∀y,aD y (g.V a)->dL g y->ρ y≠none):tH (λ_=>False) l sb w' g s ρ (bD a (nA m) M) where
 ms:=hms
 kd p hp:=by
  have:aY p.1 (bD a (nA m) M)≠none:=λq=>by
   have:=(rP (x:=p.1) (L:=bD a (nA m) M)).2<|qp hp;rw[q]at this
   cases this
  rw[aJ]at this;split at this
  .rename_i e;rw[<-e];exact ha
  .cases e:aY p.1 M with
   |none=>exact absurd e this|some v=>exact h.kd (p.1,v)<|oM e
 gm y v q:=by
  rw[aJ]at q;split at q
  .rename_i e;subst e;injection q with q;exact⟨m,q.symm,hm,hV,hl,ho⟩
  .exact h.gm y v q
 rn v n q:=by
  have⟨q1,x,r,q2,q3⟩:=h.rn v n q;refine⟨q1,x,r,q2,qv ?_⟩;rw[aJ];split
  .simp
  .rename_i e;exact q3.resolve_right<|λq=>e q.symm
def IX{p:Prop}(h:p:=by
 by_cases e:z=n
 .simp[xj,e]
 .simp only[xj,e,if_false];exact r4 z k):p:=h
def tH.var{w1}(h:tH (λ_=>False) l sb w g s ρ M)(j:JS w g s)(hms:MS zV w1 sb M){x n}(hx:x∈g.ds)(hn:g.nx x=none)(hs:g.str x=none)(hl:g.lv x=aL)(hg:aY x M=none)(nd:¬n∈g.ds)(KU:l<aL):ρ (g.vr x)=none/\tH (λy=>y=x) l sb w1 (g.add n none (cnt+1) (none,0) l<|.var<|cnt+1) ⟨s.k,λm=>s.u m\/m=cnt+1⟩ (λy=>if y=g.vr x then some (cnt+1)else ρ y) M:=by
 have hr:ρ (g.vr x)=none:=by
  cases e:ρ (g.vr x)with
  |none=>rfl|some n'=>
   have⟨_,y,r,_,q⟩:=h.rn _ _ e;have:=j.inj x y hx r.1 hs r.2.2.1 r.2.2.2.symm;subst this;exact(q.resolve_right id hg).elim
 have ne:∀m,m∈g.ds->m≠n:=λm hm e=>nd<|e▸hm;have afv:∀v,dL (g.add n none (cnt+1) (none,0) l<|.var<|cnt+1) v->dL g v:=λv⟨y,⟨r1,r2,r3,r4⟩,q⟩=>by
  by_cases e:y=n
  .subst e;simp[xj]at q;omega
  .exact⟨y,⟨(List.mem_cons.1 r1).resolve_left e,r2,by simpa[xj,e]using r3,by simpa[xj,e]using r4⟩,by simpa[xj,e]using q⟩
 refine⟨hr,hms,λp hp=>qc _<|h.kd p hp,λy v q=>?_,λv n' q=>?_⟩
 .have⟨m,r1,r2,r3,r4,r5⟩:=h.gm y v q;have hy:y∈g.ds:=by
   have:(y,v)∈M:=oM q;exact h.kd _ this
  refine⟨m,r1,qc _ r2,?_,λz k=>?_,λz oz az=>?_⟩
  .simp only[xj,ne m r2,ne y hy,if_false];rw[r3];refine sub_congr _ λz oz=>?_;unfold ja;by_cases e:z=g.vr x
   .exact absurd hr (by rw[<-e];exact r5 z oz ⟨x,⟨hx,hn,hs,e.symm⟩,hl⟩)
   .simp[e]
  .exact IX
  .simp only[xj,ne y hy,if_false]at oz;have:=r5 z oz<|afv z az;by_cases e:z=g.vr x
   .simp[e]
   .simpa[e]using this
 .by_cases e:v=g.vr x
  .simp[e]at q;exact⟨qw q.symm,x,⟨qc _ hx,hn,by simp[xj,ne x hx,hs],by simp[xj,ne x hx,e]⟩,by simp[xj,ne x hx,hl],qw rfl⟩
  .simp[e]at q;have⟨q1,y,⟨r1,r2,r3,r4⟩,q2,q3⟩:=h.rn v n' q;exact⟨qv q1,y,⟨qc _ r1,r2,by simp[xj,ne y r1,r3],by simp[xj,ne y r1,r4]⟩,by simp[xj,ne y r1,q2],q3.imp id False.elim⟩
def Sw(hf:Su c sb)(KU:l<aL)(h:JE w c nb l cnt)(j:JS w g s)(hu:∀n,s.u n->us cnt n)(cp:tH (λ_=>False) l sb w g s ρ M){x}(hx:x∈g.ds)(hn:g.nx x=none)(hl:g.lv x=aL)(hg:aY x M=none)(hs:g.str x=none)(hc:cnt+1<=900000):Cq 402 #[.agg<|IW c l sb,nA x] w (LV (λy=>y=x) c nb l sb g s cnt ρ x w):=by
 have k0:Bq w (w.alloc<|Cv (IW c l sb) 538):=bw _;have⟨_,_,c3,_,_⟩:=((j.af k0).gl.nd x hx).cells;rw[hs]at c3;have c3':(w.alloc<|Cv (IW c l sb) 538).cell? ⟨x,3,none⟩=some (Sv ⟨#[]⟩):=c3;have b1:(w.alloc<|Cv (IW c l sb) 538).cell? ⟨w.heap.size,1,none⟩=some (vrV c):=(Bx.new w (IW c l sb) 538).c 1;have HV:=od (h.af k0) (j.af k0) hu ae;have zc:=h.ct.z;have HX:=ai<|And.intro h<|And.intro j<|And.intro hu cp;have K0:=ai k0;clear h j hu cp k0 c3;go_enter func402,ntmps402;go_wp2_with fail;refine HV.mono ?_;rintro e w1⟨n,rfl,hnn,Br,kQ,F1⟩;have HY:=ai<|And.intro Br<|And.intro kQ F1;clear HV Br kQ F1
 go_wp2
 go_ret;have⟨h,j,hu,cp⟩:=uh HX;have⟨Br,kQ,F1⟩:=uh HY;have k0:=uh K0;have zk:=k0.size;have nd:¬n∈g.ds:=λq=>by have:=j.lt q;omega
 have zs:=cp.ms.lt;obtain⟨f1,f2,f3,f4,f5⟩:=hf;have hms:MS zV w1 sb M:=(cp.ms.below k0).same (F1.block sb ae (λe=>by have e:sb=c.cb:=e;omega));have⟨hr,Cs⟩:=cp.var j (cnt:=cnt) hms hx hn hs hl hg nd KU;have hV:g.V x=.var (g.vr x):=by have:=j.can x x<|.here hn;rw[hs]at this;exact this
 refine⟨n,_,_,cnt+1,_,M,rfl,Br,kQ,Cs,OR.var j (v:=g.vr x) ae nd hu hr<|λy n' q=>(cp.rn y n' q).1,ag,?_,λz k=>?_,λv o _=>?_,λv q q'=>?_,by rw[hV];simp[size],?_⟩
 .simp[xj,hV,sub,ja]
 .have:z=n:=k.one<|.here (j.gl.out _ nd).1;subst this;simp[xj]
 .rw[hV]at o;simp only[aD]at o;simp[o]
 .rw[hV];simp only[aD];exact Classical.byContradiction λe=>q' (by simp[zh e,q])
 .exact(xw k0).trans (F1.fD λb q=>qv q)
def afw{k}(hf:Su c sb)(KU:l<aL)(HM:ahK c nb l sb k):abG c nb l sb k:=by
 intro w g s cnt ρ M n h j hu cp hn fa hk hc;have⟨a,hd⟩:=j.gl.hd n hn;have ha:=j.gl.bH hn hd;have⟨k0,BA⟩:=mM w (IW c l sb) 538;have HC:=pZ (j.af k0).gl hn hd;have zs:=cp.ms.lt;have zU:∀x∈g.ds,x<w.heap.size:=λx hx=>j.lt hx;have HX:=And.intro h<|And.intro j<|And.intro hu<|And.intro cp fa;have HHD:=ai hd;have K0:=ai k0;go_enter func400,ntmps400;go_wp2_with fail;refine HC.mono ?_;rintro e w1⟨rfl,eI,G1,F1,E1,z1⟩;have j:=HX.2.1;have cp:=HX.2.2.2.1;have hd:=uh HHD;have k0:=uh K0;have zk:=k0.size;have hsd:=(j.mz cp.ms).1;have yz:¬w.heap.size∈g.ds:=λq=>by have:=zU _ q;omega
 have y9:=BA.fr F1 yz;have M1:=(cp.ms.below k0).same<|F1.block sb ae hsd;have j1:=j.eqv E1 G1;have Cs:=cp.eqv j E1 M1;have o1:OR l w.heap.size g s cnt ρ {g with nx:=eI} s cnt ρ:=OR.eqv j E1 G1 _;have hcb:=HX.1.wM j;have heb:=HX.1.wL j;have e1:=(HX.1.af k0).fr (j.af k0) (F1.fD λb q=>qw<|qw q) ((HX.1.af k0).bx.fr F1 heb)<|(HX.1.af k0).ct.fr F1 hcb;have FF:Fr (λb=>b=c.cb\/b∈g.ds\/b=sb) w w1:=(xw k0).trans' F1<|λx q=>qv<|qw<|qv q;have⟨qE,_⟩:=(G1.nd a ha).lvl;have hVa:g.V n=g.V a:=by rw[j.can n a hd,j.can a a<|.here hd.head]
 have b2:=y9.c 2;by_cases hla:g.lv a=aL
 .have Ih:∀x∈g.ds,∃c t,w1.heap[x]? =some (Cv c t (0,0)):=λx hx=>⟨_,_,(G1.nd x hx).1⟩;have hl:=M1.look XX Tryz.underlying536 (yu w1) a (Ih a ha) (λp hp=>Ih p.1<|cp.kd p hp) true;rw[hla]at qE
  cases hg:aY a M with
  |some v=>
   rw[hg]at hl;obtain⟨m,rfl,r2,r3,r4,r5⟩:=Cs.gm a v hg;simp at hl;have HY:=show LV (λ_=>False) c nb l sb g s cnt ρ n w (Rv<|nA m) w1 from⟨m,{g with nx:=eI},s,cnt,ρ,M,rfl,e1,j1,Cs,o1,r2,by rw[hVa];exact r3,r4,λv o av=>r5 v (by rw[<-hVa];exact o)<|dL.fwd j o1 av,λv q q'=>absurd q q',ae,FF⟩
   go_wp2
   go_ret;exact HY
  |none=>
   rw[hg]at hl;simp at hl;have fa1:Fa {g with nx:=eI} l a:=by
    have⟨S,f1,f2,f3⟩:=HX.2.2.2.2.mv j j1 o1 hn;exact⟨S,f1,f2,λy ky=>by rw[ky.one<|.here (E1.jU _ _ hd).head];exact f3 a<|E1.jU _ _ hd⟩
   have HD:=HM w1 {g with nx:=eI} s cnt ρ M a e1 j1 HX.2.2.1 Cs ha (E1.jU _ _ hd).head hla hg fa1 (by rw[hVa]at hk;exact hk) (by rw[hVa]at hc;exact hc);have b0:=y9.c 0;have b1:=y9.c 1;have zb1:=y9.z;have HY:=qx j1<|qx o1 FF;have HJ0:=ai j;have nbx:¬(w.heap.size=c.cb\/w.heap.size∈g.ds\/w.heap.size=sb):=by
    have:=HX.1.ct.z;rintro(q|q|q)
    .omega
    .exact yz q
    .omega
   go_wp2_with fail;refine HD.mono ?_;rintro e w2⟨m,g2,s2,cA,W4,M2,rfl,e2,j2,Nb,o2,r1,r2,r3,r4,r5,r6,F2⟩;have b2':=(y9.fr F2 nbx).c 2;have HMS:=ai Nb.ms;have HOK:∀x∈g2.ds,∃c t,w2.heap[x]? =some (Cv c t (0,0)):=λx hx=>⟨_,_,(j2.gl.nd x hx).1⟩;have ha2:=(o2.st.fZ a ha).1;have kd2:=ai Nb.kd;have HZ:=qx e2<|qx j2<|qx Nb<|qx o2<|qx r1<|qx r2<|qx r3<|qx r4<|qx r5<|qx r6 F2;go_wp2_with(refine aU _ rfl _ _ _ _ (qw rfl) XX Tryz.underlying536 _ _ rfl HMS a (nA m) rfl rfl (HOK a ha2) (λp hp=>HOK p.1<|kd2 p hp) ?_;intro w3 H' O';have HM3:=ai H';have O3:=ai O';clear H' O');go_ret;obtain⟨e2,j2,Nb,o2,r1,r2,r3,r4,r5,r6,F2⟩:=HZ;obtain⟨j1,o1,FF⟩:=HY;have O:=uh O3;have j:=uh HJ0;obtain⟨f1,f2,f3,f4,f5⟩:=hf;have⟨n1,n2⟩:=j2.mz Nb.ms;have eV:=(o2.fZ a ha).2;refine⟨m,g2,s2,cA,W4,_,rfl,e2.one O f1 f2 f3 f4 f5,j2.one O n1 n2,Nb.put HM3 ha2 r1 (by rw[eV];exact r2) r3<|λy oy ay=>?_,o1.trans j j1 j2 o2 ae,r1,by rw[hVa];exact r2,r3,λv o av=>r4 v (by show aD v (g.V a);rw[<-hVa];exact o) (dL.fwd j o1 av),λv q q'=>by rw[hVa];exact r5 v q q',by rw[hVa];exact r6,?_⟩
   .rw[eV]at oy;exact r4 y oy<|dL.back j1 j2 o2 ha oy ay
   .have F3:=FF.trans F2;exact⟨O.os.trans F3.os,O.tape.trans F3.tape,O.output.trans F3.output,by rw[O.size];exact F3.size,λk hk hn=>(O.block k<|λe=>hn<|qw<|qw e).trans<|F3.block k hk hn⟩
 .have hle:g.lv a<=l:=by
   have⟨S,f1,f2,f3⟩:=HX.2.2.2.2;exact(f2 a<|f3 a hd).resolve_right hla
  have dw:¬((g.lv a:Nat):Int)=9223372036854775807:=by have:l<9223372036854775807:=KU;omega
  have⟨v1,v2⟩:=afu j (λv n=>cp.any) hn hd ae;have HY:=show LV (λ_=>False) c nb l sb g s cnt ρ n w (Rv<|nA a) w1 from⟨a,{g with nx:=eI},s,cnt,ρ,M,rfl,e1,j1,Cs,o1,ha,by rw[v2];exact hVa.symm,(λx k=>by rw[k.one<|.here (E1.jU _ _ hd).head];exact hle),λv o av=>absurd av<|v1 v o,λv q q'=>absurd q q',ae,FF⟩
  go_wp2
  go_ret;exact HY
end
def CpR c nb l sb g(s:jc)cnt(ρ:jf)(L:List Nat)w gk v wr:=
 ∃(j:Nat)(C:Array Value)(g':fB)(s':jc)(aB:Nat)(eu:jf)(M':List (Nat×Value))(ps:List Nat),Hid (gk=L.length-j)/\j<=L.length/\v=Nv j/\JE wr c nb l aB/\JS wr g' s'/\tH (λ_=>False) l sb wr g' s' eu M'/\OR l (w.heap.size+2) g s cnt ρ g' s' aB eu/\Fr (λb=>b=c.cb\/b∈g.ds\/b=sb) w wr/\Bx wr w.heap.size (IW c l sb)/\Bx wr (w.heap.size+1) C/\Hid (C.size=L.length)/\
  Hid (ps.length=j/\(∀m,m∈ps->m∈g'.ds/\∀x,Hd g'.nx m x->g'.lv x<=l)/\ps.map g'.V=(L.take j).map (λp=>sub (ja eu)<|g.V p)/\(∀i(h:i<ps.length),C[i]? =some (nA ps[i]))/\(∀v,(∃p,p∈L.take j/\aD v (g.V p))->dL g v->eu v≠none)/\(∀v,ρ v=none->eu v≠none->∃p,p∈L.take j/\aD v (g.V p))/\aB<=cnt+ah ((L.take j).map g.V))
def tH.af{M}(h:tH E l sb w g s ρ M)(hb:Bq w w'):tH E l sb w' g s ρ M:=⟨h.ms.below hb,h.kd,h.gm,h.rn⟩
def tH.one{E}{l sb b}{w w'}{g}{s}{ρ}{M}(h:tH E l sb w g s ρ M)(o:One b w w')(hb:sb≠b):tH E l sb w' g s ρ M:=⟨h.ms.one o hb,h.kd,h.gm,h.rn⟩
def tH.add{E:Nat->Prop}{l sb:Nat}{w:World}{g:fB}{s:jc}{ρ:jf}{M}(h:tH (λ_=>False) l sb w g s ρ M){n}(nd:¬n∈g.ds)q v a T:tH E l sb w (g.add n (some q) v a l T) s ρ M:=by
 have ne:∀m,m∈g.ds->m≠n:=λm hm e=>nd<|e▸hm;refine⟨h.ms,λp hp=>qc _<|h.kd p hp,λy u r=>?_,λu n' r=>?_⟩
 .have⟨m,r1,r2,r3,r4,r5⟩:=h.gm y u r;have hy:=h.kd _<|oM r;refine⟨m,r1,qc _ r2,by simp[xj,ne m r2,ne y hy,r3],λz k=>?_,λz oz⟨t,⟨b1,b2,b3,b4⟩,b5⟩=>?_⟩
  .exact IX
  .simp only[xj,ne y hy,if_false]at oz;have e:t≠n:=λe=>by subst e;simp[xj]at b3
   exact r5 z oz ⟨t,⟨(List.mem_cons.1 b1).resolve_left e,b2,by simpa[xj,e]using b3,by simpa[xj,e]using b4⟩,by simpa[xj,e]using b5⟩
 .have⟨q1,y,⟨r1,r2,r3,r4⟩,q2,q3⟩:=h.rn u n' r;exact⟨q1,y,⟨qc _ r1,r2,by simp[xj,ne y r1,r3],by simp[xj,ne y r1,r4]⟩,by simp[xj,ne y r1,q2],q3.imp id False.elim⟩
section
variable {c:JC} {cnt:Nat} {M:List (Nat×Value)}
def Sy(hf:Su c sb)(IH:abG c nb l sb K)(h:JE w c nb l cnt)(js:JS w g s)(hu:∀n,s.u n->us cnt n)(cp:tH (λ_=>False) l sb w g s ρ M){x}(hx:x∈g.ds)(hn:g.nx x=none)(fa:Fa g l x){L}(hs:g.str x=some (k,L))(hz:size (g.V x)<=K+1)(hc:cnt+size (g.V x)<=900000):Cq 402 #[.agg<|IW c l sb,nA x] w (LV (λy=>y=x) c nb l sb g s cnt ρ x w):=by
 have hP:=(js.gl.nd x hx).2.1;rw[hs]at hP;obtain⟨AE,hL,HLM,aN⟩:=hP;have hV:g.V x=.aH k (L.map g.V):=by have:=js.can x x<|.here hn;rw[hs]at this;exact this
 have HSZ:size (g.V x)=1+ah (L.map g.V):=by rw[hV];simp[size]
 have⟨i0,vH,oW,lY,kE⟩:=info_parts Bk;have Ti:=iV (by_:=8) uG vH oW rfl lY kE aK L.length hL;have k0:Bq w (w.alloc<|Cv (IW c l sb) 538):=bw _;have bR:Bq w ((w.alloc<|Cv (IW c l sb) 538).alloc<|Cv (zd L.length<|.pointer none) 116):=(bw _).alloc ag _;have⟨_,_,a3,_,a4⟩:=((js.af k0).gl.nd x hx).cells;rw[hs]at a3 a4;have a3':(w.alloc<|Cv (IW c l sb) 538).cell? ⟨x,3,none⟩=some (Sv<|pn k):=a3;have a4':(w.alloc<|Cv (IW c l sb) 538).cell? ⟨x,4,none⟩=some (.slice (g.ly x).1 L.length (g.ly x).2):=a4;have⟨_,_,_,_,d4⟩:=((js.af bR).gl.nd x hx).cells;rw[hs]at d4;have d4':((w.alloc<|Cv (IW c l sb) 538).alloc<|Cv (zd L.length<|.pointer none) 116).cell? ⟨x,4,none⟩=some (.slice (g.ly x).1 L.length (g.ly x).2):=d4;obtain⟨⟨sa,sc⟩,VD⟩:∃q,g.ly x=q:=⟨_,rfl⟩;rw[VD]at a4' d4';have HLY:=ai VD;have hea:((pn k).toList==[])=false:=by rw[<-Bool.not_eq_true,beq_iff_eq];exact kw AE
 have zc:=h.ct.z;have zs:=cp.ms.lt;have ST:Hid (CpR c nb l sb g s cnt ρ L w L.length (Iv 0)<|(w.alloc<|Cv (IW c l sb) 538).alloc<|Cv (Array.replicate L.length<|.pointer none) 116):=ai ⟨0,Array.replicate L.length<|.pointer none,g,s,cnt,ρ,M,[],ai ag,Nat.zero_le _,rfl,h.af bR,js.af bR,cp.af bR,OR.refl js _ _ _ _,Fr.of bR,(Bx.new w _ _).alloc _,by have:=Bx.new (w.alloc<|Cv (IW c l sb) 538) (Array.replicate L.length<|.pointer none) 116;simpa using this,ai ag,ai ⟨rfl,ag,ag,(λi hi=>by simp at hi),(λv⟨p,q,_⟩=>by simp at q),(λv q q'=>absurd q q'),by simp[ah]⟩⟩;have HJ:=ai js;have HV:=ai hV;have HZ:=ai<|And.intro h.z.2.2<|And.intro h.bx.z<|And.intro h.ct.z<|And.intro h.rs.lt h.ms.lt;have xlt:=js.lt hx;clear h js cp k0 bR a3 a4 d4 aN hV VD;go_enter func402,ntmps402
 go_wp2
 go_loopg[27] L.length (λgk v wr=>CpR c nb l sb g s cnt ρ L w gk v wr)
 case atStart=>exact ST
 case round=>
  clear ST a3' a4' d4' hea Ti;obtain⟨j,C,g1,s1,ak,lB,M1,ps,c_,hj,rfl,Br,kQ,Cs,qF,F1,B0,B1,hC,hT⟩:=hrel;have zw:=F1.size;have zb:=B1.z;have Rs:x∈g1.ds/\g1.ly x=g.ly x/\g1.str x=some (k,L):=by
   have⟨b1,b2,b3⟩:=qF.st.fZ x hx;obtain⟨_,q2,_⟩|⟨q,_⟩:=qF.new x b1
   .exact⟨b1,q2,b2.trans hs⟩
   .omega
  have Tu:∀p,p∈L->g1.V p=g.V p:=λp hp=>(qF.fZ p<|HLM p hp).2;have sz:=HSZ;by_cases bh:j<L.length
  .have hd:(j:Int)<(L.length:Int):=ae;have⟨ga,ea,ra,_⟩:=kQ.gl.row Rs.1 Rs.2.2 bh;rw[Rs.2.1,uh HLY]at ea;have ea:=ea;subst ea;have⟨x1,x2,x3,x4,x5,x6,x7⟩:=uh hT;have hjm:j<(L.map g.V).length:=by simpa using bh
   have⟨y1,y2⟩:=yG (L.map g.V) hjm;simp only[List.getElem_map,<-List.map_take]at y1 y2;have Zu:=qd bh;have Jp:=HLM _ Zu;have HC:=IH wr g1 s1 ak lB M1 L[j] Br kQ (qF.used hu) Cs (qF.st.fZ _ Jp).1 ((fa.part (.here hn) hx hs Zu).mv HJ kQ qF Jp) (by rw[Tu _ Zu];omega) (by rw[Tu _ Zu];omega);have b0:=B0.c 0;have b1:=B0.c 1;have b2:=B0.c 2;have HY:=ai<|qx kQ<|qx qF<|qx F1<|qx B0<|qx B1 Cs;have EQV:=ai Tu;have nm:∀b,w.heap.size<=b->b<w.heap.size+2->¬(b=c.cb\/b∈g1.ds\/b=sb):=λb q1 q2=>by
    rintro(q|q|q)
    .omega
    .obtain⟨q,_⟩|⟨q,_⟩:=qF.new b q
     .have:=HJ.lt q;omega
     .omega
    .omega
   clear Br kQ Cs qF F1 B0 B1 x1 x2 x3 x4 x5 x6 x7 Tu Rs sz;go_wp2_with fail;refine HC.mono ?_;rintro e w1⟨m,g2,s2,cA,W4,M2,rfl,je2,Zx,Nb,Ju,hm,hVm,wj,DC,yY,yH,F2⟩;have⟨kQ,qF,F1,B0,B1,Cs⟩:=uh HY;have B2:=B1.fr F2<|nm _ ae ae;have B02:=B0.fr F2<|nm _ ae ae;have uw:j<C.size:=qBh;have cj:=(B2.c j).trans<|xy uw;have fj:=B2.f j;have B3:=B2.aO j (nA m) (C.setIfInBounds j<|nA m) rfl uw;have B03:=B02.bN (b2:=w.heap.size+1) ae j<|nA m;have Mq:=qF.trans HJ kQ Zx Ju ae;have HD:=qx je2<|qx Zx<|qx Nb<|qx Ju<|qx hm<|qx hVm<|qx wj<|qx DC<|qx yY yH
   have yN:=ai (F1.trans' F2 (λb q=>by
    obtain q|q|q:=q
    .exact qv (qv q)
    .obtain⟨q,_⟩|⟨q,_⟩:=qF.new b q
     .exact qv (qw<|qv q)
     .exact qw ae
    .exact qv (qw<|qw q)))
   have z2:=F2.size;clear HC F2 F1 B0 B1 B2 B02 kQ qF Cs je2 Zx Nb Ju hm hVm wj DC yY yH nm b0 b1 b2 ra
   go_wp2
   go_roundg(L.length-(j+1))
   case measure=>rw[uh c_];omega
   case rel=>
    have⟨x1,x2,x3,x4,x5,x6,x7⟩:=uh hT;obtain⟨je2,Zx,Nb,Ju,hm,hVm,wj,DC,yY,yH⟩:=HD;have⟨kQ,qF,F1,B0,B1,Cs⟩:=uh HY;have or3:=Mq;have js:=uh HJ;have Tu:=uh EQV;have oc:=One.cell w1 (w.heap.size+1) j<|nA m;have⟨u1,u2,u3,u4,u5⟩:=uh HZ;have hp1:=(qF.st.fZ _ Jp).1;refine⟨j+1,C.setIfInBounds j<|nA m,g2,s2,cA,W4,M2,ps++[m],ai rfl,ae,iF,je2.one oc ae ae ae ae ae,?_,Nb.one oc ae,or3,yN.set (qw ae) j _,B03,B3,ai (by simp;exact hC),ai ⟨by simp[x1],?_,?_,?_,?_,?_,by rw[Tu _ Zu]at yH;omega⟩⟩
    .exact PX
    .exact PY
    .rw[qh,j9 bh,qh];have e1:ps.map g2.V=ps.map g1.V:=dW λp hp=>(Ju.fZ p (x2 p hp).1).2;have e2:(L.take j).map (λp=>sub (ja lB)<|g.V p)=(L.take j).map (λp=>sub (ja W4)<|g.V p):=qr λp hp=>by
      have To:p∈L:=List.mem_of_mem_take hp;have hpg:=HLM p To
      have:=abF kQ Zx Ju (λv n=>Nb.any) (qF.st.fZ p hpg).1 (λv ov av=>by
       rw[Tu p To]at ov
       exact x5 v ⟨p,hp,ov⟩<|dL.back js kQ qF hpg ov av)
      rw[Tu p To]at this;exact this
     rw[e1,x3,e2];simp[hVm,Tu _ Zu]
    .exact PZ
    .rintro v⟨p,hp,o⟩av;rw[j9 bh]at hp;obtain q|q:=List.mem_append.1 hp
     .have:=x5 v ⟨p,q,o⟩ av;exact P0
     .simp at q;subst q;exact DC v (by rw[Tu _ Zu];exact o)<|dL.fwd js qF av
    .intro v q q';rw[j9 bh]
     cases e:lB v with
     |none=>
      have:=yY v e q';rw[Tu _ Zu]at this;exact⟨L[j],qm _<|List.mem_singleton.2 rfl,this⟩
     |some n=>
      have⟨p,hp,o⟩:=x6 v q (by rw[e];simp);exact⟨p,qn _ hp,o⟩
  .have hd:decide ((j:Int)<(L.length:Int))=false:=bQ;have ej:j=L.length:=ae;subst ej;have b0:=B0.c 0;have⟨_,_,a3,_,_⟩:=(kQ.gl.nd x Rs.1).cells;rw[Rs.2.2]at a3;have a3':wr.cell? ⟨x,3,none⟩=some (Sv<|pn k):=a3;have HY:=ai<|qx Br<|qx kQ<|qx Cs<|qx qF<|qx F1<|qx B1 hT;clear Br kQ Cs qF F1 B0 B1 hT Tu Rs sz a3
   go_wp2
   go_region_held3(λw'=>w'.cell? ⟨w.heap.size,0,none⟩=some (Nv l)/\w'.cell? ⟨x,3,none⟩=some (Sv<|pn k)) (first|go_keep|(simp[*])) (first
    |(go_at_call 82;go_loud(refine(DB _ _ _ _ _).mono ?_);rintro e w3⟨rfl,sw⟩;have k3:Bq wr w3:=(by rw[sw];exact(xn _ _).drew.alloc (br _) _);have N3:w3.heap[wr.heap.size]? =some (Cv #[.pointer none,Nv l,Iv 0,Sv<|pn k,Lv (some ⟨w.heap.size+1,0,none⟩) L.length L.length] 187 (0,0)):=(by rw[sw];exact(xq wr.drew _).1);have s2:w3.cell? ⟨w.heap.size,0,none⟩=some (Nv l):=(xk (a:=⟨w.heap.size,0,none⟩) (w:=wr)<|k3.block w.heap.size ae).trans b0;have s3:w3.cell? ⟨x,3,none⟩=some (Sv<|pn k):=(xk (a:=⟨x,3,none⟩) (w:=wr)<|k3.block x ae).trans a3';have K3:=ai k3;have N3':=ai N3;clear sw k3 N3))
   go_wp2
   go_ret;have⟨Br,kQ,Cs,qF,F1,B1,x1,x2,x3,x4,x5,x6,x7⟩:=uh HY;simp only[qi]at x3 x5 x6 x7;have da:=uh K3;have y9:=B1.below da;have js:=uh HJ;have hV:=uh HV;have hz:¬wr.heap.size∈g1.ds:=λq=>by have:=kQ.lt q;omega
   have Yw:¬(w.heap.size+1)∈g1.ds:=λq=>by
    obtain⟨q,_⟩|⟨q,_⟩:=qF.new _ q
    .have:=js.lt q;omega
    .omega
   have js3:=kQ.Yj da (n:=wr.heap.size) (l:=l) (c:=k) (ps:=ps) (a:=(some ⟨w.heap.size+1,0,none⟩,L.length)) (br _) AE ae x2 (qw ⟨w.heap.size+1,rfl,(λq=>by
    obtain q|q:=List.mem_cons.1 q
    .omega
    .exact Yw q),y9.z,λi hi=>(y9.c i).trans<|x4 i hi⟩) (by rw[x1];exact N3')
   have or3:OR l w.heap.size g1 s1 ak lB (g1.add wr.heap.size (some (k,ps)) 0 (some ⟨w.heap.size+1,0,none⟩,L.length) l<|.aH k<|ps.map g1.V) s1 ak lB:=OR.add kQ ae hz (λgg e=>by injection e with e;injection e with e;omega);refine⟨wr.heap.size,_,s1,ak,lB,M1,rfl,Br.af da,js3,(Cs.af da).add hz _ _ _ _,(qF.Ss ae).trans js kQ js3 or3<|br _,ag,?_,λz q=>?_,λv o av=>?_,λv q q'=>?_,by rw[HSZ];omega,F1.trans<|xw da⟩
   .rw[hV];simp only[xj,if_true,sub,gY,x3,qu];rfl
   .have:z=wr.heap.size:=q.one<|.here (kQ.gl.out _ hz).1;subst this;simp[xj]
   .rw[hV]at o;simp only[aD]at o;have⟨t,h1,h2⟩:=(lE _ _).1 o;obtain⟨p,h3,rfl⟩:=List.mem_map.1 h1;exact x5 v ⟨p,h3,h2⟩ av
   .have⟨p,h1,h2⟩:=x6 v q q';rw[hV];simp only[aD];exact(lE _ _).2 ⟨_,qp h1,h2⟩
def afx(hf:Su c sb)(KU:l<aL)(IH:abG c nb l sb K):ahK c nb l sb (K+1):=by
 intro w g s cnt ρ M x h j hu cp hx hn hl hg fa hz hc
 cases hs:g.str x with
 |none=>exact Sw hf KU h j hu cp hx hn hl hg hs (by have:=size_pos<|g.V x;omega)|some q=>
  obtain⟨k,L⟩:=q;exact Sy hf IH h j hu cp hx hn fa hs hz hc
def acX(hf:Su c sb)(KU:l<aL):∀K,abG c nb l sb K
 |0=>λw g s cnt ρ M n h j hu cp hn fa hk hc=>by have:=size_pos<|g.V n;omega|K+1=>afw hf KU<|afx hf KU<|acX hf KU K
end
structure AJ w c nb l cnt g(s:jc):Prop where
 je:JE w c nb l cnt
 js:JS w g s
 us:∀n,s.u n->us cnt n
 lv:∀n,n∈g.ds->g.nx n=none->g.lv n<=l\/g.lv n=aL
 lo:∀n,n∈g.ds->c.lo<=n
structure fA l c(w:World)g(s:jc)w1 g1(s1:jc):Prop where
 st:iy l g s g1 s1
 an:∀m,m∈g.ds->∀h,Hd g.nx m h->g.lv h=aL->Hd g1.nx m h/\g1.lv h=aL
 lo:∀m,m∈g.ds->∀h h',Hd g.nx m h->Hd g1.nx m h'->∀i,i<=l->g.lv h<=i->g1.lv h'<=i
 nw:∀m,m∈g1.ds->m∈g.ds\/w.heap.size<=m
 fr:Fr (jS c g) w w1
 ky:∀v,s1.k v=sub s1.k (s.k v)
 um:∀n,s.u n->s1.u n
structure lX l(g:fB)(s:jc)n T:Prop where
 mem:n∈g.ds
 val:g.V n=sub s.k T
 lv:∀x,Hd g.nx n x->g.lv x<=l
structure yZ(g:fB)(s:jc)(d:In.Tw)m:Prop where
 mem:m∈g.ds
 val:g.V m=sub s.k d.of
 any:∀v,v∈d.any↔aD v (g.V m)/\dL g v
 use:∀n,aD n d.of->s.u n
 sub:∀v,v∈d.any->aD v d.of
def bV w nb(Γ:jd)g(s:jc):=∃L,MG xt w nb L/\∀x,(Γ x=none/\aY x L=none)\/∃d m,Γ x=some d/\aY x L=some (nA m)/\yZ g s d m
section
variable {c:JC} {cnt:Nat}
def DE(h:∀v,s1.k v=sub s1.k (s.k v))T:sub s1.k (sub s.k T)=sub s1.k T:=by
 rw[sub_sub];exact sub_congr _ λv _=>(h v).symm
def AJ.hd(a:AJ w c nb l cnt g s)(hm:m∈g.ds)(k:Hd g.nx m h):g.lv h<=l\/g.lv h=aL:=a.lv h (a.js.gl.bH hm k) k.head
def fA.refl(h:JS w g s)c l:fA l c w g s w g s:=⟨.refl h l,λm _ h k e=>⟨k,e⟩,λm _ h h' k k' i _ z=>by rw[k'.one k];exact z,λm hm=>qv hm,.refl _ _,λv=>(h.ok.uB<|.var v).symm,λ_ q=>q⟩
def fA.trans{Wa Wb Wc:World}(h:JS Wa g s)(h1:JS Wb g1 s1)(h2:JS Wc g2 s2)(a:fA l c w g s w1 g1 s1)(b:fA l c w1 g1 s1 w2 g2 s2):fA l c w g s w2 g2 s2 where
 st:=a.st.trans h h1 h2 b.st
 an m hm x k e:=by have⟨k1,e1⟩:=a.an m hm x k e;exact b.an m (a.st.fZ m hm).1 x k1 e1
 lo m hm x x' k k' i hi z:=by
  have⟨y,hy⟩:=h1.gl.hd m (a.st.fZ m hm).1;exact b.lo m (a.st.fZ m hm).1 y x' hy k' i hi<|a.lo m hm x y k hy i hi z
 nw m hm:=by
  obtain q|q:=b.nw m hm
  .exact a.nw m q
  .exact qw (xc a.fr.size q)
 fr:=a.fr.trans' b.fr λx q=>by
  obtain q|q|q:=q
  .omega
  .omega
  .exact(a.nw x q).imp (λz=>qw<|qw z) id
 ky v:=by rw[b.ky v,a.ky v,DE b.ky]
 um n q:=b.um n<|a.um n q
def fA.le(a:fA l c w g s w1 g1 s1)(hl:l'<=l):fA l' c w g s w1 g1 s1:={a with st:=⟨a.st.fZ,a.st.val,λi hi=>a.st.QB i ae⟩,lo:=λm hm x x' k k' i hi=>a.lo m hm x x' k k' i<|by omega}
def lX.kB(r:lX l g s n T)(h:JS W g s)(a:fA l c w g s w1 g1 s1):lX l g1 s1 n T:=by
 have⟨x,hx⟩:=h.gl.hd n r.mem;exact⟨(a.st.fZ n r.mem).1,by rw[a.st.val n r.mem,r.val,DE a.ky],λy hy=>a.lo n r.mem x y hx hy l (br _)<|r.lv x hx⟩
def fA.abH(a:fA l c w g s w1 g1 s1){v:Nat}(q:dL g v):dL g1 v:=by
 obtain⟨x,⟨r1,r2,r3,r4⟩,e⟩:=q;have⟨k,e1⟩:=a.an x r1 x (.here r2) e;have⟨o1,o2,o3⟩:=a.st.fZ x r1;exact⟨x,⟨o1,k.head,o2.trans r3,o3.trans r4⟩,e1⟩
def fA.root{W}(a:fA l c w g s w1 g1 s1)(h1:JS W g1 s1){v}(q:dL g v):s1.k v=.var v:=by
 have⟨x,r,_⟩:=a.abH q;exact(h1.root r).2
def fA.back(hl:l<aL)(aj:AJ V c nb l cnt g s)(h1:JS W g1 s1)(a:fA l c w g s w1 g1 s1){v:Nat}(hm:m∈g.ds)(o:aD v (g1.V m))(q:dL g1 v):aD v (g.V m)/\dL g v:=by
 rw[a.st.val m hm]at o;have⟨u,ou,ov⟩:=(jz _).1 o;have⟨y,hy⟩:=aj.js.gl.hd m hm;have⟨x,r,_⟩:=eT (lv:=g.lv) aj.js.jg aj.js.can _ m y hm hy (br _) ou;obtain z|z:=aj.lv x r.1 r.2.1
 .exfalso;have⟨o1,o2,o3⟩:=a.st.fZ x r.1;have⟨x',Dm⟩:=h1.gl.hd x o1;have ez:=a.lo x r.1 x x' (.here r.2.1) Dm l (br _) z;have ov':aD v (g1.V x):=by rw[h1.val x o1<|o2.trans r.2.2.1,o3,r.2.2.2];exact ov
  have⟨x2,r2,e2⟩:=eT (lv:=g1.lv) h1.jg h1.can _ x x' o1 Dm (br _) ov';obtain⟨x3,r3,e3⟩:=q;have e2:=e2 h1.lc;rw[r2.one h1.jg r3,e3]at e2;omega
 .have qa:dL g u:=⟨x,r,z⟩;rw[a.root h1 qa]at ov;simp only[aD]at ov;subst ov;exact⟨ou,qa⟩
def yZ.kB{d:In.Tw}(n:yZ g s d m)(hl:l<aL)(aj:AJ V c nb l cnt g s)(h1:JS W g1 s1)(a:fA l c w g s w1 g1 s1):yZ g1 s1 d m where
 mem:=(a.st.fZ m n.mem).1
 val:=by rw[a.st.val m n.mem,n.val,DE a.ky]
 any v:=by
  rw[n.any v];refine⟨λq=>⟨?_,a.abH q.2⟩,λq=>a.back hl aj h1 n.mem q.1 q.2⟩;rw[a.st.val m n.mem];exact(jz _).2 ⟨v,q.1,by rw[a.root h1 q.2];rfl⟩
 use k q:=a.um k<|n.use k q
 sub:=n.sub
def bV.kB{Γ}(e:bV w nb Γ g s)(hl:l<aL)(aj:AJ w c QA l cnt g s)(h1:JS w1 g1 s1)(a:fA l c w g s w1 g1 s1):bV w1 nb Γ g1 s1:=by
 obtain⟨L,h,q⟩:=e;refine⟨L,h.fr a.fr ?_,λx=>(q x).imp id λ⟨d,m,q1,q2,q3⟩=>⟨d,m,q1,q2,q3.kB hl aj h1 a⟩⟩;rintro(z|z|z)
 .have:=aj.je.ct.c 0;rw[<-z,h.bB 0]at this;simp at this
 .have:=aj.je.bx.c 0;rw[<-z,h.bB 0]at this;simp at this
 .exact(aj.js.mz h.ms).1 z
def OR.stj(o:OR l B g s cnt ρ g1 s1 ak lB)(h:JS w g s)(hB:w.heap.size<=B)(hf:Fr (jS c g) w w1):fA l c w g s w1 g1 s1 where
 st:=o.st
 an m hm x k e:=⟨(o.hd m hm x).2 k,by rw[(o.fZ x<|h.gl.bH hm k).1];exact e⟩
 lo m hm x x' k k' i _ z:=by
  rw[((o.hd m hm x').1 k').one k,(o.fZ x<|h.gl.bH hm k).1];exact z
 nw m hm:=(o.new m hm).imp (λq=>q.1) λq=>by have:=q.1;omega
 fr:=hf
 ky v:=by rw[o.kk];exact(h.ok.uB<|.var v).symm
 um n q:=(o.Yu n).2<|qv q
def OR.aj(o:OR l B g s cnt ρ g1 s1 ak lB)(a:AJ w c nb l cnt g s)(hB:w.heap.size<=B)(je:JE w1 c nb l ak)(js:JS w1 g1 s1):AJ w1 c nb l ak g1 s1 where
 je:=je
 js:=js
 us:=o.used a.us
 lv n hm e:=by
  by_cases q:n∈g.ds
  .have k:=(o.hd n q n).1<|.here e;rw[(o.fZ n q).1];exact a.lv n q k.head
  .exact qv (o.nl n hm q)
 lo n hm:=by
  obtain q|q:=o.new n hm
  .exact a.lo n q.1
  .have h1:=q.1;have h2:=a.je.z;have:=a.je.bx.z;omega
end
section
variable {c:JC} {cnt:Nat} {uR:jd}
def One.fr(o:One b w w')(h:S b):Fr S w w':=⟨o.os,o.tape,o.output,q9 o.size.symm,λk _ hn=>o.block k λe=>hn<|e▸h⟩
def JS.eb(j:JS w g s)(h:JE w c nb l cnt)(o:One c.eb w w'):JS w' g s:=by
 refine j.one o (h.wL j) λm hm k l' gg hs hl hg e=>?_;have⟨ga,q1,q2,_⟩:=j.gl.row hm hs<|List.length_pos_iff.2 hl;rw[hg]at q1;injection q1 with q1;injection q1 with q1;subst q1;have:=h.bx.c 0;rw[<-e,q2]at this;simp at this
def AJ.eng(a:AJ w c nb l cnt g s)(o:One c.eb w w')(hb:Bx w' c.eb (QC c QA l'))(hl:l<=l'):AJ w' c QA l' cnt g s:=
 ⟨a.je.fr a.js (o.fr<|qw<|qv rfl) hb<|a.je.ct.one o<|zh a.je.ne.1,a.js.eb a.je o,a.us,λn hn e=>(a.lv n hn e).imp (λq=>ae) id,a.lo⟩
def fH w b j v:One b w (w.setCell ⟨b,j,none⟩ v):=⟨rfl,rfl,rfl,xH,λi hi=>xo _ _ _ _ hi⟩
def AJ.given(a:AJ w c nb l cnt g s)QA:AJ (w.setCell ⟨c.eb,3,none⟩<|Mv QA) c QA l cnt g s:=a.eng (fH _ _ _ _) (a.je.bx.aO 3 _ _ rfl ag) (br _)
def AJ.af(a:AJ w c nb l cnt g s)(k:Bq w w'):AJ w' c nb l cnt g s:=⟨a.je.af k,a.js.af k,a.us,a.lv,a.lo⟩
def bV.af(e:bV w nb Γ g s)(k:Bq w w'):bV w' nb Γ g s:=by obtain⟨L,h,q⟩:=e;exact⟨L,h.af k,q⟩
def bV.one(e:bV w nb Γ g s)(o:One b w w')(h:nb≠b):bV w' nb Γ g s:=by obtain⟨L,m,q⟩:=e;exact⟨L,m.one o h,q⟩
def bV.ab5(e:bV w nb Γ g s)(a:JE w c QA l cnt):nb≠c.eb:=λz=>by
 obtain⟨L,h,_⟩:=e;have:=a.bx.c 0;rw[<-z,h.bB 0]at this;simp at this
def bV.lt(e:bV w nb Γ g s):nb<w.heap.size:=by obtain⟨L,h,_⟩:=e;exact h.lt
def bV.new(w:World)g(s:jc):bV (w.alloc<|.map #[] 0) w.heap.size (λ_=>none) g s:=⟨[],MG.new _ w,λx=>qv ⟨rfl,rfl⟩⟩
def ahL b1 b2 L1 L w gk wr:=
 ∃done L',IG xt wr w.heap.size b2 L done gk/\MG xt wr b1 L'/\(∀x,x∈done->aY x L'=aY x L/\aY x L≠none)/\(∀x,¬x∈done->aY x L'=aY x L1)/\Fr (λi=>i=b1) w wr
def abI{b1 b2}{L1 L}(h1:MG xt w b1 L1)(h2:MG xt w b2 L)(hn:b1≠b2):
 Cq 395 #[Mv b1,Mv b2] w λe w'=>e=.returned (.tuple #[])/\(∃L',MG xt w' b1 L'/\∀x,aY x L'=match aY x L with|some v=>some v|none=>aY x L1)/\Fr (λi=>i=b1) w w':=by
 have l1:=h1.lt;have⟨o,cnt,Y_,kT⟩:=h2.range cG;have k1:Bq w (w.alloc o):=bw _;have ST:ahL b1 b2 L1 L w cnt (w.alloc o):=⟨[],L1,kT,h1.af k1,λx q=>by simp at q,λx _=>rfl,Fr.of k1⟩;go_enter func395,ntmps395
 go_wp2
 go_loopg[] cnt (λgk wr=>ahL b1 b2 L1 L w gk wr)
 case atStart=>exact ST
 case round=>
  obtain⟨done,L',kT,hM,H3,H4,HF⟩:=hrel;have hiz:=kT.lt;have zr:=HF.size;rcases kT.next (P:=Tryz.prog) str_inj with⟨HA,Bz⟩|⟨x,u,w2,aB,hxd,HX,Bz,I2,DZ,u_,eG,hen⟩
  .have HM:=ai hM
   go_wp2
   go_end0;refine⟨rfl,⟨L',HM,λx=>?_⟩,HF⟩
   cases e:aY x L with
   |some v=>rw[(H3 x<|HA x v e).1,e]|none=>
    exact H4 x λq=>(H3 x q).2 e
  .have F2:=u_;have M2:=hM.fr F2 ae;go_wp2_with(refine b8 Mf cG rfl _ _ _ (qw rfl) rfl M2 x u rfl rfl ?_;intro w4 H' O';have S4:=ai H';have O4:=ai O';clear H' O');go_roundg aB
   case measure=>exact DZ
   case rel=>
    have o:=uh O4;refine⟨x::done,_,I2.same (o.block b2<|zh hn)<|o.block _ ae,S4,λy hy=>?_,λy hy=>?_,(HF.gH F2<|λi e=>qw ae).trans<|o.fr rfl⟩
    .rw[aJ];by_cases q:x=y
     .subst q;rw[if_pos rfl,HX];simp
     .rw[if_neg q];exact H3 y<|(List.mem_cons.1 hy).resolve_left<|zh q
    .rw[aJ,if_neg λe=>hy QX];exact H4 y λq=>hy qBf
end
end
end Go.Proofs.YtfnkchdeheeiiaaGreatDoor
