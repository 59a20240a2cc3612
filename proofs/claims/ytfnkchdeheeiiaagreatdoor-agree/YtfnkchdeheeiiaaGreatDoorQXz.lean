import Derived.Test.YtfnkchdeheeiiaaGreatDoorQBo
import Derived.Test.YtfnkchdeheeiiaaGreatDoorQOg
import Derived.Test.YtfnkchdeheeiiaaGreatDoorQXu
set_option linter.all false
set_option maxRecDepth 100000
set_option maxHeartbeats 8000000
namespace Go.Proofs.YtfnkchdeheeiiaaGreatDoor
open In renaming via->ja,St->jc,Env->jd,andM->jf,Rn->jh,du->ji,arr->jj,inf->jk,Mks->jl,over->jm,gW->jo,cB->jp,MM->jq,ue->jt,sv->ju,dz->jv,iu->jx,Cj->jy,bR->jz,cJ->j5,cU->j6,dY->j7,sH->j8,qH->j9
open _root_.List renaming take_succ_eq_append_getElem->qe,mem_cons_of_mem->qf,getElem_mem->qg,drop_eq_getElem_cons->qh,getElem_cons_zero->qi,getElem_cons_succ->qk,map_append->ql,take_length->qm,drop_zero->qn,take_append_drop->qp,mem_append_right->qr,mem_append_left->qs,mem_map_of_mem->qt,map_congr_left->qu,countP_cons->qv,mem_append->qw,map_map->qx
open Or renaming inl->qy,inr->qz
open And renaming intro->q9
open Pu renaming bG->xc,Tok->xd
open _root_.Nat renaming le_of_eq->xf,le_trans->xg,lt_of_lt_of_le->xh,succ_le_of_lt->xi,zero_le->xj,not_lt_zero->xk,le_succ->xm
open Un renaming eh->xn
open Go.World renaming cell?_of_block->xo
open Go.ByteArray renaming toList_eq->xq
open Go.RowKit.Below renaming refl->xt,heap_setCell->xw
open Go.MapKept renaming heap_alloc->xy
open Go.Value renaming string->zd
open Fr renaming of->zh
open _root_.Array renaming getElem?_eq_getElem->zo,replicate->zu
open Ne renaming symm->zv
open Go Go.RowKit Go.ChangeMaps Proofs.Tryz
variable {k st:BA} {dom:BA->Prop} {e:Ending} {g g1 g2:gC} {Γ:jd} {z:In.Ft} {mk:jl} {ρ bJ:jh} {s s0 s1 s2:jc} {A:List (Nd×Nd)} {nl:List BA} {ds ps:List Nat} {B B' D K Kb L b al f gb gv h j jb kb l l' m mb n nb VX p sb sc:Nat} {cC vr:Nat->Nat} {ly:Nat->Option Addr×Nat} {E P Q S Λ:Nat->Prop} {nd y:Nd} {κ:Type} {bi:Un.Nx} {str:Un.ya} {T t:Un.Ty} {v vl vx vy x:Value} {c:WC} {V W w w' w0 w1 w2:World}
def Nw(T:List xd):∀f l,aR T<|iM T f l
 |0,l=>λk h=>dc _ h|f+1,l=>λk h=>by unfold iM;rw[if_neg ae];exact dc _ h
def AO(T:List xd):∀f l k a k',iM T f l k=.ok (a,k')->k<=k'
 |0,l,k,a,k',h=>by cases h;omega|f+1,l,k,a,k',h=>by
  unfold iM at h;split at h
  .have:=AO T f _ _ _ _ h;omega
  .cases h;omega
def Fo{T}(hT:0<T.length){sm}:aR T (cZ T (ch T sm) T.length []):=by
 obtain⟨L,hL⟩:∃L,T.length=L+1:=⟨T.length-1,ae⟩;rw[hL];intro k h;rw[h_];exact b_ (v7 _ _ k h) λ_=>jF _ _ _ _
def wU{T:List xd}{mk:M Nd}(hm:mQ mk):∀f l k a k',cZ T mk f l k=.ok (a,k')->k<=k'
 |0,l,k,a,k',h=>by cases h;omega|f+1,l,k,a,k',h=>by
  rw[h_]at h;have⟨_,k1,h1,h2⟩:=aB h;have:=hm _ _ _ h1;rw[ie]at h2;split at h2
  .have:=wU hm f _ _ _ _ h2;omega
  .cases h2;omega
def QName:EQ xd:=λ_ _ t c=>c 0=Nv t.ak/\c 1=Nv t.to/\c 2=.string (t.text.extract 1 t.text.size)/\(∃r,t.text.toList=39::r)/\t.to=t.ak+t.text.size
def dw:gn QName:=by grind[gn,QName]
def abt:(Tryz.prog.info? 133).map (λi=>(i.zero,i.size,i.bytes))=some (some<|.agg #[Iv 0,Iv 0,.string ⟨#[]⟩],3,32):=qkr
def OD:Tryz.prog.underlying 134=some (.slice 133):=qkr
def PD(w:World)(P:Nat->Prop):Dc->Value->Prop
 |.ty t vs ms,v=>∃(f u:Int)(vv vm:Value),v=.iface 137 (.agg #[Iv f,Iv u,Nv t.ak,Nv t.to,.string t.text,vv,vm])/\nY t.text/\t.to=t.ak+t.text.size/\RowV QName 3 w P vs vv/\ms≠[]/\RowV QMaker 6 w P ms vm|.lt r t b,v=>∃(f u:Int)(vb:Value),v=.iface 144 (.agg #[Iv f,Iv u,.bool r,Nv t.ak,Nv t.to,.string t.text,vb])/\BQ t.text/\t.to=t.ak+t.text.size/\PE w P b vb
theorem PD.move{w w'}{P Q}{d}{v}(h:PD w P d v)(hs:w.heap.size<=w'.heap.size)(hb:∀b,P b->b<w.heap.size->w'.heap[b]? =w.heap[b]?)(hq:∀b,P b->b<w.heap.size->Q b):PD w' Q d v:=by
 cases d with
 |ty t vs ms=>
  obtain⟨f,u,vv,vm,h1,h2,h3,h4,h5,h6⟩:=h;exact⟨f,u,vv,vm,h1,h2,h3,h4.move dw hs hb hq,h5,h6.move cd hs hb hq⟩
 |lt r t b=>
  obtain⟨f,u,vb,h1,h2,h3,h4⟩:=h;exact⟨f,u,vb,h1,h2,h3,h4.move hs hb hq⟩
def PD.iface{d}(h:PD w P d v):∃t x,v=.iface t (.agg x):=by
 cases d with
 |ty t vs ms=>obtain⟨f,u,vv,vm,h1,_⟩:=h;exact⟨_,_,h1⟩
 |lt r t b=>obtain⟨f,u,vb,h1,_⟩:=h;exact⟨_,_,h1⟩
def aeg N rb sb m s k2 nb NC w r(G:List xd->M Dc)(gk:Nat)(v:Value)(wr:World):=
 ∃(kr:Nat)(V:List xd)(f:Nat)(va:Option Addr)(vc:Nat),v=.slice va V.length vc/\cM N rb sb m s r w nb NC (aq (iM (xc s 0) f V) G) (λw'=>dC QName 133 3 w' (nb+1) va vc V) kr wr/\Hid (gk=(xc s 0).length-kr)/\k2<=kr/\V.length<=kr/\(xc s 0).length<=kr+f
section
variable {N rb:Nat} {m:MV} {s:BA} {k:Nat}
def abu{t}(h:gp t)(hk:t.kind≠6):((aw t).toList==[97,32,118,97,114,105,97,98,108,101])=(t.kind==3):=by
 obtain h'|h'|h'|h'|h'|h'|h':=h.kd
 .rw[jK h'];simp[h',xq]
 .rw[iq h'];simp[h',xq]
 .rw[ir h'];simp[h',xq]
 .rw[jL h'];simp[h',xq]
 .have:=mx h hk (kd:=uL) aH h';rw[show uL.toList=[97,32,118,97,114,105,97,98,108,101]from toList_mk _]at this;rw[this];simp[h']
 .exact absurd h' hk
 .rw[jM h'];simp[h',xq]
def AP(h:SX w N rb sb m s k)(hs:s.size<=1000)(h3:(tk (xc s 0) k).kind=3):Cq 245 #[rp rb] w (ap (Is<|.agg #[Nv (tk (xc s 0) k).ak,Nv (tk (xc s 0) k).to,.string<|(tk (xc s 0) k).text.extract 1 (tk (xc s 0) k).text.size]) N rb sb m s (.ok ((),k+1)) w):=
 (kP h.rd hs (pd s k h.lt) h3<|eM s k h.lt).mono λ_ _ q=>q.x h ae rfl
def VY(hs:s.size<=1000)(IH:eW s n)(h:SX w N rb sb m s k)(hn:(xc s 0).length<=k+1+n):
 Cq 179 #[rp rb] w (ap PD N rb sb m s (wP (xc s 0) (bO (xc s 0) n) k) w):=by
 have WS:=hY;have YN:=kM;refine cM.zN h rfl λH=>?_;go_enter func179,ntmps179;go_wp2_with fail;refine(H.re<|congrFun (mJ _ _ _) _).take ?_;intro w1 H;go_wp2_with fail;refine H.call (C7 hs IH H.sx ae) ?_;intro b k2 v2 w2 H q V;obtain⟨ve,rfl,V,-⟩:=V;obtain⟨te,xe,rfl⟩:=V.iface;clear V;go_wp2_with fail;refine H.box.take ?_;intro w3 H;have⟨_,c1,f1,z1⟩:=H.p
 go_wp2
 go_region_with(go_at_call 105;refine H.drew.since ?_;intro w5 H;have⟨_,c1,f1,z1⟩:=H.p)
 all_goals(
  go_wp2
  go_ret;refine H.done ?_;rintro⟨⟨_,ve,e,A,_,C,D⟩,_⟩
  cases e
  exact⟨_,_,_,rfl,C,D,A⟩)
def OE(hs:s.size<=1000)(hT:(xc s 0).length<=1001)(h:SX w N rb sb m s k)(hn:(xc s 0).length<=k+1+n):
 Cq 178 #[rp rb] w (ap PD N rb sb m s (tQ (xc s 0) (ch (xc s 0)<|C_ s n) k) w):=by
 have WS:=hY;have YN:=kM;have hT0:0<(xc s 0).length:=by have:=h.lt;omega
 have hz:=h.z;obtain⟨r,hr⟩:∃r,r=tQ (Pu.bG s 0) (ch (Pu.bG s 0)<|C_ s n) k:=⟨_,rfl⟩;rw[<-hr];refine cM.zN h hr λH=>?_;clear hr;go_enter func178,ntmps178;go_wp2_with fail;refine H.take ?_;intro w1 H;go_wp2_with fail;have lt1:=H.sx.lt;refine H.call (uJ H.sx hs 2 I4<|Or.inr ⟨rfl,rfl⟩) ?_;intro t k2 v w2 H q V
 cases V
 have Ht:=ai<|I1 q lt1;have ek:=eH _ _ _ _ q;have z2:=H.ke.size;clear q;go_wp2_with fail;have H:=H.own (D:=#[Nv t.ak,Nv t.to,Sv t.text]) (t:=133);have mY:=H.sx.lt;go_loopg[5] ((xc s 0).length-k2) (λgk v wr=>aeg N rb sb m s k2 w2.heap.size #[Nv t.ak,Nv t.to,Sv t.text] w r (λvs=>aq (bu (xc s 0) BI) λ_=>aq (cZ (xc s 0) (ch (xc s 0)<|C_ s n) (xc s 0).length []) λms=>aq (bu (xc s 0) mD) λ_ k=>.ok (Dc.ty t vs ms,k)) gk v wr)
 case atStart=>exact⟨k2,[],(xc s 0).length,none,0,rfl,H.row dw (dC.nil _ _ _ _ _) ⟨ae,.inr ae⟩,ai rfl,br _,ag,ae⟩
 case round=>
  clear H;obtain⟨kr,V,f,va,vc,rfl,H,dv,hle,hVl,hfu⟩:=hrel;have YX:=H.sx.lt;have ho:=eM s kr YX;have hkv:=abu ho H.sx.ok;have⟨c,ff,z⟩:=H.sx.bx;by_cases h3:(tk (xc s 0) kr).kind=3
  .rw[h3]at hkv;obtain⟨f,rfl⟩:∃f',f=f'+1:=⟨f-1,ae⟩;have H:=H.re (g':=aq qX λ_=>aq (iM (xc s 0) f<|V++[(tk (xc s 0) kr)])<|λvs=>aq (bu (xc s 0) BI) λ_=>aq (cZ (xc s 0) (ch (xc s 0)<|C_ s n) (xc s 0).length []) λms=>aq (bu (xc s 0) mD) λ_ k=>.ok (Dc.ty t vs ms,k)) (by rw[aq];rw[show iM (xc s 0) (f+1) V kr=iM (xc s 0) f (V++[(tk (xc s 0) kr)]) (kr+1)from if_pos h3];rfl);have zr:=H.xz;have YW:=H.p.block;have Hin:=ai<|q9 (ho.v3 h3) (oX s kr YX).sp;go_wp2_with fail;refine H.call (AP H.sx hs h3) ?_;intro _ _ _ w1' H q V'
   cases V'
   cases q
   clear c ff z hkv;go_wp2_with(at_builtin;go_must(refine H.append (D:=[Nv (tk (xc s 0) kr).ak,Nv (tk (xc s 0) kr).to,Sv<|(tk (xc s 0) kr).text.extract 1 (tk (xc s 0) kr).text.size]) hT dw abt OD H.p.1 (wr:=wr) zr (λb e=>(YW b e).2) (a:=(tk (xc s 0) kr)) (c:=λj=>([Nv (tk (xc s 0) kr).ak,Nv (tk (xc s 0) kr).to,Sv<|(tk (xc s 0) kr).text.extract 1 (tk (xc s 0) kr).text.size]:List Value).getD j Zv) ⟨rfl,rfl,rfl,Hin.1,Hin.2⟩ ae ?_ ⟨ae,.inr ae,H.xz⟩;intro q3 c3 w3 H));go_roundg((xc s 0).length-(kr+1))
   case measure=>rw[uh dv];omega
   case rel=>exact⟨kr+1,V++[(tk (xc s 0) kr)],f,_,c3,ag,H,ai rfl,ae,bP,ae⟩
  .rw[show((tk (xc s 0) kr).kind==3)=false by simp[h3]]at hkv;have H:=H.re (g':=(λvs=>aq (bu (xc s 0) BI) λ_=>aq (cZ (xc s 0) (ch (xc s 0)<|C_ s n) (xc s 0).length []) λms=>aq (bu (xc s 0) mD) λ_ k=>.ok (Dc.ty t vs ms,k)) V) (by rw[aq];rw[show iM (xc s 0) f V kr=.ok (V,kr) by cases f with|zero=>rfl|succ f=>exact if_neg h3]);have H:=(H.add (Q:=λw'=>RowV QName 3 w' (λb=>w.heap.size<=b) V<|Lv va V.length vc) λw' a b=>(H.p.v dw).move dw a (λc p z=>b c z (by have p':w2.heap.size+1<=c:=p;omega) (by have p':w2.heap.size+1<=c:=p;omega)) λc p _=>by have p':w2.heap.size+1<=c:=p;show w.heap.size<=c;omega).imp λ_ h=>h.2;go_wp2_with fail;clear c ff z;refine H.take ?_;intro w3 H;go_wp2_with fail;refine H.call (BT (n:=n) hs hT H.sx ae) ?_ (mv:=λ_ _ _ _ _ _ h a b c=>⟨h.1,h.2.move cd a b c⟩);intro ms k4 v4 w4 H q Y;obtain⟨va4,L4,vc4,rfl⟩:∃va L vc,v4=Lv va L vc:=by obtain⟨_,_,_,_,rfl,-⟩:=Y;exact⟨_,_,_,rfl⟩
   clear q Y;go_wp2_with fail;refine H.take ?_;intro w5 H;have⟨c1,f1,y1⟩:=H.bo ae
   go_wp2
   go_region_with(go_at_call 105;refine H.drew.since ?_;intro w6 H;have⟨c6,f6,y6⟩:=H.bo ae)
   all_goals(
    go_wp2
    go_ret;refine H.done ?_;rintro⟨X,Y⟩
    exact⟨_,_,_,_,rfl,Ht.1,Ht.2,X,Y⟩)
end
section
open Go.MapKept Un
section
variable {cnt:Nat} {g:jd}
def VZ w C1 C2 v wc:=∃p,v=Pv p/\w.heap.size<p/\Bx wc w.heap.size C1/\Bx wc p C2/\Bq w wc
theorem VZ.a w C1 C2 t1 t2:VZ w C1 C2 (Pv<|w.heap.size+1) ((w.alloc<|.cells C1 t1).alloc<|.cells C2 t2).drew:=by
 have⟨p,q,h1,h2,h3,h4,h5,h6,h7⟩:=qY.a w C1 C2 t1 t2;injection h1 with h1;injection h1 with h1;injection h1 with h1;injection h2 with h2;injection h2 with h2;injection h2 with h2;subst h1 h2;exact⟨_,rfl,Nat.lt_succ_self _,h5,h6,h7⟩
def afu{R}{ab}(hs:fh w (qK c gv) ab (λv=>(R v).map Ty.var))(nX:qK c gv ab)(ht:de w P t v)(hz:size t<=1000)(GW:Whole t)(hcb:c.cb<w.heap.size)(hgv:gv<w.heap.size):
 Cq 314 #[Mv ab,v] w (λe w'=>∃tr xr,e=.returned (.iface tr xr)/\TW w' (qK c gv) 1100 (sub (ja R) t) (.iface tr xr)/\Bq w w'):=by
 have ev:D7 (λv=>(R v).map Ty.var)=ja R:=by
  funext v;show((R v).map Ty.var).getD (.var v)=_;rw[ja]
  cases R v<;>rfl
 have Ig:=Ih hs nX ht ae (by rw[ev,iD];omega);rw[ev]at Ig;refine Ig.mono ?_;rintro e w'⟨u,rfl,LW,hk⟩;obtain⟨tr,xr,rfl⟩:=LW.iface;have hw':=pQ R _ GW;refine⟨tr,xr,rfl,⟨⟨_,LW.wide λi p=>by obtain p|p:=p;exact p;exact⟨ae,ae⟩,(dD.refl _).cut hw',?_⟩,hw'⟩,hk⟩;have hlq:(vars []<|sub (ja R) t).length<=1000:=by
  rw[cD];have h2:=dh (occs<|sub (ja R) t) [];have h3:=di<|sub (ja R) t;rw[iD]at h3;simp only[uq]at h2;omega
 have:=fq hw' hlq ae;omega
def aj_ c gv cnt(s:jc)w(R:jh)(p:jq (Ty×jd))Λ tk m L C1 C2 pb ab gk v1 v31 wr:=
 ∃j cj sj kj g D,Hid (gk=L.length-j)/\j<=L.length/\v1=Mv kj/\v31=Nv j/\MdS c gv cnt s w R p Λ tk m L j wr cj sj kj g D/\Bx wr w.heap.size C1/\Bx wr pb C2/\fh wr (qK c gv) ab (λv=>(R v).map Ty.var)
def AQ tk m i(h:i<tk.length):size tk[i]<=size (jj tk m)/\(Whole (jj tk m)->Whole tk[i])/\∀v,aA v tk[i]->aA v (jj tk m):=by
 induction tk generalizing i with
 |nil=>simp at h|cons t tk ih=>
  have e:jj (t::tk) m=In.nV t (jj tk m):=rfl;rw[e]
  cases i with
  |zero=>
   refine⟨by simp only[qi,size,ah];omega,λq=>q.2.1,λv q=>?_⟩;simp only[aA,bY,or_false];exact qy q
  |succ i=>
   have⟨h1,h2,h3⟩:=ih i G_;refine⟨by simp only[qk,size,ah];omega,λq=>h2 q.2.2.1,λv q=>?_⟩;simp only[aA,bY,or_false];exact qz<|h3 v q
def abv tk m:Whole (jj tk m)->Whole m:=by
 induction tk with
 |nil=>exact id|cons t tk ih=>exact λq=>ih q.2.2.1
def Sy{p:Prop}(h:p:=by
 rw[cD];have h2:=dh (occs m) [];have h3:=di m;simp only[uq]at h2
 omega):p:=h
def aeh{t a y}{L}{sa}{vs:Nat->Value}(H:∀i(h:i<L.length),Xz L[i])(h:PaA (.mk 2 st n L f t a) c w cnt s kb Λ g gv Q (.iface 307<|.agg #[Nv f,Nv t,Nv a,Nv y,.string st,.slice sa L.length sc]))(aN:L=[]\/∃g,sa=some ⟨g,0,none⟩/\Q g/\g<w.heap.size/\∀i,i<L.length->w.cell? ⟨g,i,none⟩=some (vs i))(hr:∀i(h:i<L.length),PP w Q L[i]<|vs i):
 Cq 360 #[Pv c.eb,Mv kb,Mv gv,.agg #[Nv f,Nv t,Nv a,Nv y,.string st,.slice sa L.length sc]] w (eu c gv (1100*nn (.mk 2 st n L f t a)) (1000*nn (.mk 2 st n L f t a)) (ji c.mks (.mk 2 st n L f t a) g) s cnt w):=by
 have en:nn (.mk 2 st n L f t a)=1+ck L:=by simp[nn]
 obtain⟨tk,m,hx,hl,hsc⟩:∃tk m,c.mks st=some (tk,m)/\L.length=tk.length/\∀i(h:i<L.length),sg c.mks c.nl L[i]:=by
  cases h.sc with
  |up _ _ _ _ _ _ tk m hx hl hr=>exact⟨tk,m,hx,hl,hr⟩|leaf _ _ _ _ _ _ hk=>omega
 obtain⟨p,hp⟩:∃p,p=ji c.mks (.mk 2 st n L f t a) g:=⟨_,rfl⟩;have lU:=hp;rw[yO hx]at lU;rw[<-hp,en];have WI:=h.ft.a;have ftb:=h.ft.b;rw[en]at WI ftb;have fW:=h.mf.sz st tk m hx;have GW:=h.mf.wh st tk m hx;have hvs:=h.mf.vs st tk m hx;have has:=sC tk m;have yE:(vars [] m).length<=size m:=by
  exact Sy
 obtain⟨R,hR⟩:∃R,R=qS cnt (vars [] m):=⟨_,rfl⟩;have MR:MdR c cnt tk m R:=⟨hR,λi hi v o=>hvs v<|(AQ tk m i hi).2.2 v o⟩;have hta:∀i(h:i<tk.length),size tk[i]<=1000/\Whole tk[i]:=λi hi=>⟨Nat.le_trans (AQ tk m i hi).1 fW,(AQ tk m i hi).2.1 GW⟩;have hwm:=abv tk m GW;have k0:Bq w (w.alloc<|Cv #[Nv f,Nv t,Nv a,Nv y,Sv st,Lv sa L.length sc] 307):=bw _;have⟨v,hv,xU⟩:=h.we.ms.look hx;obtain⟨ma,mc,ta,xa,rfl,hmr,jB⟩:=hv;have zc:=h.we.dx;have lg:=h.e.lt;have lgl:=h.l;have⟨l1,l2,l3,l4,l5⟩:=h.we.l;have⟨d1,d2,d3⟩:=h.we.d;have aei:=xU (w.alloc<|Cv #[Nv f,Nv t,Nv a,Nv y,Sv st,Lv sa L.length sc] 307).drew<|k0.drew.block c.mb ae;have k00:Bq w ((w.alloc<|Cv #[Nv f,Nv t,Nv a,Nv y,Sv st,Lv sa L.length sc] 307).alloc<|Cv #[Lv none 0 0,Zv] 470):=k0.alloc k0.size _;have aej:=xU _<|k00.drew.block c.mb ae;have⟨e1,e2,e3⟩:=h.we.bx;have amJ:size m<=1000:=ae;have hln:L.length<=1000:=ae;clear k00;have HA:=ai h;have HL:=ai hl;have HM:=ai<|And.intro hmr jB;have HT:=ai hta;have HS:=ai hsc;have HP':=ai lU;have MR':=ai MR;clear h xU hmr jB hta hsc k0 hp lU hvs GW fW MR hl;go_enter func360,ntmps360;go_wp2_with fail;go_cut[10]from 16 (λv1 wc=>VZ w #[Nv f,Nv t,Nv a,Nv y,Sv st,Lv sa L.length sc] #[Lv ma tk.length mc,Fv ta xa] v1 wc)
 case first=>
  go_region
  all_goals(
   go_wp2_with fail
   go_meet
   case rel=>exact VZ.a w _ _ _ _)
 case rest=>
  obtain⟨pb,rfl,zp,X1,X2,kc⟩:=hcut;clear aei aej e1 e2 e3;have h:=uh HA;have HRN:=Cx (h.we.af kc) ((HM.2.w.af kc)) ae ae;obtain⟨x1,x2,x3⟩:=X2;have X1':=ai X1;have X2':=show Bx wc pb #[Lv ma tk.length mc,Fv ta xa]from⟨x1,x2,x3⟩;have KC:=ai kc;clear X1 kc h;go_wp2_with fail;refine HRN.mono ?_;rintro e w2⟨ab,rfl,nX,hw2,Bl,F2⟩;clear HRN x1 x2 x3;have h:=uh HA;have zkc:=KC.size;have F02:Fr (λi=>i=c.cb\/i=gv) w w2:=((zh KC).trans F2).fX λ_ q=>qy q;have FB:=(zh (S:=λi=>i=c.cb) KC).trans F2;have X1:=X1'.fr F2 ae;have X2:=X2'.fr F2 ae;rw[<-hR]at Bl;have SB:fh w2 (qK c gv) ab (λv=>(R v).map Ty.var):=Bl.bare;have M0':MdS c gv cnt s w R p Λ tk m L 0 w2 (cnt+(vars [] m).length) s kb g (λ_=>False):=by
   have k2:=h.wk.fr F02;refine⟨F02,hw2,⟨k2.k,k2.n,λn q=>by have:=k2.u n q;unfold us at*;omega,k2.ok,k2.wh⟩,h.hn,h.e.move F02.size (FB.block _ h.e.lt ae) (λb p z=>FB.block b z p.1)<|λ_ p _=>p,h.i,by rw[yN];exact In.iE.zero Λ s,λv n _ q z=>?_,λn q=>qy q,br _,by rw[qn];omega,λo ho=>by rw[yN]at ho;rw[uh HP'];exact ho⟩;have:=MR'.num q;have:=h.wk.u n z;rw[us]at this;omega
  have SB':=ai SB;have T1:=ai X1;have T2:=ai X2;obtain⟨y1,y2,y3⟩:=X1;clear h hw2 Bl F2 F02 FB X2 SB X1' X2' KC
  go_wp2
  go_loopg[1,31] L.length (λgk v1 v31 wr=>aj_ c gv cnt s w R p Λ tk m L #[Nv f,Nv t,Nv a,Nv y,Sv st,Lv sa L.length sc] #[Lv ma tk.length mc,Fv ta xa] pb ab gk v1 v31 wr)
  case atStart=>exact⟨0,_,_,_,_,_,ai ag,xj _,rfl,rfl,M0',T1,T2,SB'⟩
  case round=>
   clear M0' SB' T1 T2 y1 y2 y3;obtain⟨j,cj,sj,kj,gj,D,dv,hj,rfl,rfl,MS,X1,X2,SB2⟩:=hrel;have h:=uh HA;have zcr:=MS.we.dx;have lgr:=MS.e.lt;have zab:=SB2.lt;have nab:qK c gv ab:=⟨ae,ae⟩;by_cases bq:j<L.length
   .have bz:(j:Int)<(L.length:Int):=ae;have Ij:(0:Int)<=(j:Int):=ae;have hjt:j<tk.length:=by have:=uh HL;omega
    have ahO:(j:Int)<(tk.length:Int):=ae;obtain⟨gg,rfl,hQ,hz,b8⟩:=aN.resolve_left<|λe=>qBs;have OG:=hr j bq;have cg:=(xo (a:=⟨gg,j,none⟩)<|MS.F.block gg hz λq=>q.elim (h.hq gg hQ).1 (h.hq gg hQ).2).trans<|b8 j bq;have⟨tx,ax,evs⟩:=OG.iface;rw[evs]at cg OG;have LZ:=OG.place;dsimp only[PlF]at LZ;have hdn:ck (L.drop j)=nn L[j]+ck (L.drop<|j+1):=by rw[qh bq];rfl
    have mc2:=MS.c2;have mc1:=MS.c1;have hnj:nn L[j]<=ck L:=by
     have:ck (L.take j)+ck (L.drop j)=ck L:=by rw[<-xY,qp]
     omega
    have H1:=H j bq c wr cj sj kj Λ gj gv Q _ ⟨MS.we,MS.wk,MS.n,MS.e,MS.i,h.l,OG.move MS.F.size (λb p z=>MS.F.block b z λq=>q.elim (h.hq b p).1 (h.hq b p).2)<|λ_ p _=>p,h.hq,HS j bq,⟨ae,ae,h.ft.l⟩,h.mf⟩;obtain⟨gt,vt,rfl,pgt,zgt,hct⟩:=HM.1.resolve_left (λe=>by subst e;simp at hjt);have⟨CT,TT⟩:=hct j hjt;have⟨tb,xb,evt⟩:=TT.w.iface;rw[evt]at CT TT;have B1:=ai X1;have B2:=ai X2;have HWU:=ai h.wk.u;obtain⟨y1,y2,y3⟩:=X1;clear X2 h OG b8 hct;go_wp2_with fail;refine H1.mono ?_;intro e w3 hp3;clear H1 y1 y2 y3 cg;obtain⟨c3,zz,vl,vr,rfl,q⟩|⟨c3,T3,g3,s3,ta3,xa3,kb3,rfl,q⟩:=hp3.split
    .have HP:=MS.no (S:=1100*(1+ck L)) (DD:=1000*(1+ck L)) HL bq (br _) q;clear hp3 q
     go_wp2
     exact⟨rfl,HP⟩
    have⟨s4,mt⟩:=MS.arg (DD:=0) MR' HL bq HWU q;have amK:=mt.c1;have amL:=mt.c2;have zmt:=mt.we.dx;have zgm:=mt.e.lt;have F3:=q.F;have LX:=mt.F;have aka:=SB2.fr F3 (λr=>r.elim nab.1 nab.2)<|λb p _ r=>r.elim p.1 p.2;have ct3:=(xo (a:=⟨gt,j,none⟩)<|LX.block gt zgt (by have:=pgt;omega)).trans CT;have tt3:=TT.w.move (Q:=λ_=>True) LX.size (λb p z=>LX.block b z (by have:=p;omega))<|λ_ _ _=>trivial;have⟨ht1,ht2⟩:=uh HT j hjt;have AR:=afu aka nab tt3 ht1 ht2 zmt zgm;have BE:=B1.fr F3 ae;have X2:=B2.fr F3 ae;obtain⟨x1,x2,x3⟩:=X2;have XX:=show Bx w3 pb #[Lv (some ⟨gt,0,none⟩) tk.length mc,Fv ta xa]from⟨x1,x2,x3⟩;have MT:=ai mt;have T3':=ai q.t;clear hp3 q mt F3 LX tt3 B1 B2 SB2 MS CT TT;go_wp2_with fail;refine AR.mono ?_;rintro e w4⟨tr,xr,rfl,U4,K4⟩;clear AR x1 x2 x3 ct3;go_wp2_with fail;refine(dl _ _).mono ?_;rintro e w5⟨rfl,k5⟩;have K5:=K4.trans<|k5.mono K4.size;have mt:=uh MT;have HEQ:=aiM (mt.we.af K5) (xh zgm K5.size) (mt.wk.af K5) mt.n ae (S:=1100*nn L[j]+1100) ae ((T3'.af K5).le ae) ((U4.af k5).le ae) mt.ti mt.ui (jo L[j])<|jt L[j];clear mt k5 U4;go_wp2_with fail;refine HEQ.mono ?_;intro e w6 hq6;clear HEQ;obtain hn|hq6:=hq6
    .obtain⟨fl,vl,vr,rfl,k6,z,rfl,he,hf⟩:=hn;have HP:=MT.no (S:=1100*(1+ck L)) (DD:=1000*(1+ck L)) (K5.trans<|k6.mono K5.size) (br _) he hf;clear k6 he hf
     go_wp2
     exact⟨rfl,HP⟩
    .obtain⟨b6,rfl,k6,s6,he6,kp6,wk6,hu6⟩:=hq6;have K6:=K5.trans<|k6.mono K5.size;have MS6:=MT.next K6 he6 kp6 wk6 hu6;clear k6 he6 kp6 wk6 hu6
     go_wp2
     go_roundg(L.length-(j+1))
     case measure=>rw[uh dv];omega
     case rel=>exact⟨j+1,_,_,_,_,_,ai rfl,xi bq,rfl,jT,MS6,BE.below K6,XX.below K6,aka.af K6⟩
   .have bz:¬(j:Int)<(L.length:Int):=ae;have ej:j=L.length:=ae;subst ej;have tmm:=HM.2.w.move (Q:=λ_=>True) MS.F.size (λb p z=>MS.F.block b z (by have:=p;omega))<|λ_ _ _=>trivial;have AR:=afu SB2 nab tmm ae hwm zcr lgr;obtain⟨x1,x2,x3⟩:=X2;clear X1 h tmm;go_wp2_with fail;refine AR.mono ?_;rintro e w4⟨tr,xr,rfl,hu4,k4⟩;have HD:=MS.done (DD:=1000*(1+ck L)) MR' HL k4 (br _) (hu4.le<|show 1100<=1100*(1+ck L) by omega);clear hu4 k4 AR
    go_wp2
    go_ret2;exact HD
end
section
variable {cnt:Nat} {S:Nat} {p:jq (Ty×jd)}
def eu.below(h:eu c gv S D p s cnt w0 e w')(hb:Bq w w0):eu c gv S D p s cnt w e w':=⟨(zh hb).trans h.1,h.2⟩
end
def akb st n f t a{L}(H:∀i(h:i<L.length),Xz L[i]):Xz (.mk 2 st n L f t a):=by
 intro c w cnt s kb Λ g gv Q v h;obtain⟨y,sa,sc,vs,rfl,aN,hr⟩:∃(y:Nat)(sa:Option Addr)(sc:Nat)(vs:Nat->Value),v=Fv 307 (Av #[Nv f,Nv t,Nv a,Nv y,Sv st,Lv sa L.length sc])/\(L=[]\/∃g,sa=some ⟨g,0,none⟩/\Q g/\g<w.heap.size/\∀i,i<L.length->w.cell? ⟨g,i,none⟩=some (vs i))/\∀i(h:i<L.length),PP w Q L[i]<|vs i:=by
  cases h.pp with
  |up _ _ _ _ _ _ y sa sc vs hu hy aN hr=>exact⟨_,sa,sc,vs,rfl,aN,hr⟩
 have k0:Bq w (w.alloc<|Cv #[Nv f,Nv t,Nv a,Nv y,Sv st,Lv sa L.length sc] 307):=bw _
 have H1:=aeh H (h.part k0 h.pp h.sc<|br _) (aN.imp id λq=>by
  obtain⟨g,q1,q2,q3,q4⟩:=q
  exact⟨g,q1,q2,xh q3 k0.size,λi hi=>(xo (a:=⟨g,i,none⟩)<|k0.block g q3).trans<|q4 i hi⟩)<|λi hi=>(hr i hi).af k0
 have K0:=ai k0;have q1:=YC;have q2:=uF;have q3:=P_;have q4:=Qb;go_enter func353,ntmps353;go_wp2_with fail;refine H1.mono ?_;intro e w1 hp;have lU:=hp.below K0;obtain⟨al,zz,vl,vr,rfl,q⟩|⟨al,T1,g1,s1,yI,yJ,iY,rfl,q⟩:=hp.split
 .have HP:=ai lU
  go_wp2
  exact⟨rfl,HP⟩
 .have HP:=ai lU
  go_wp2
  go_ret2;exact HP
def OH:∀(L:List Nd)(i:Nat)(h:i<L.length),nn L[i]<=ck L
 |x::l,0,_=>by simp only[qi,ck];omega|x::l,i+1,h=>by simp only[qk,ck];have:=OH l i G_;omega
def aek:∀(k:Nat)(nd:Nd),nn nd<=k->Xz nd:=by
 intro k
 induction k with
 |zero=>intro nd h;cases nd;simp only[nn]at h;omega|succ k ih=>
  intro nd hk c w cnt s kb Λ g gv Q v h;have hp:=h.pp
  cases hp with
  |any st n f t a=>exact af7 st n f t a c w cnt s kb Λ g gv Q _ h|low st n f t a=>exact af9 st n f t a c w cnt s kb Λ g gv Q _ h|num st n f t a=>exact Eb (qy ⟨rfl,rfl⟩) st _ f t a c w cnt s kb Λ g gv Q _ h|word st n f t a b=>exact Eb (qz<|qy ⟨rfl,rfl⟩) st n f t a c w cnt s kb Λ g gv Q _ h|unit st n f t a=>exact Eb (qz<|qz ⟨rfl,rfl⟩) st n f t a c w cnt s kb Λ g gv Q _ h|pr st n x y f t a vx vy hx hy=>exact aiQ st n f t a (ih x Cz) (ih y Cz) c w cnt s kb Λ g gv Q _ h|up st n L f t a y sa sc vs hu hy aN hr=>exact akb st n f t a (λi hi=>ih _ (by have:=OH L i hi;simp only[nn]at hk;omega)) c w cnt s kb Λ g gv Q _ h
def ahP nd:Xz nd:=aek _ nd<|br _
def rZ(l:List BA)(g g':jd):=(∀y,g' y≠none↔g y≠none\/y∈l)/\∀y d,g' y=some d->g y=some d\/d.any=[]
def rZ.refl(g:jd):rZ [] g g:=⟨λy=>ag,λy d h=>qy h⟩
def rZ.and{l l'}{g g1 g2:jd}(h:rZ l g g1)(k:rZ l' g1 g2):rZ (l++l') g g2:=⟨λy=>by rw[k.1,h.1,qw,or_assoc],λy d q=>(k.2 y d q).elim (λq=>h.2 y d q) qz⟩
def rZ.set(g:jd)s t:rZ [s] g (j5 g s<|In.mono t):=by
 refine⟨λy=>?_,λy d h=>?_⟩
 .rw[j5];by_cases q:y=s
  .simp[q]
  .simp[q]
 .rw[j5]at h;split at h
  .grind
  .exact qy h
def mL{α:Type}{m:jq α}:jv m s λ_ _=>True:=λ_ _ _=>trivial
def K_(mk:jl):∀(tk:List Ty)(L:List Nd),L.length=tk.length->(∀i(h:i<L.length),∀g s,jv (ji mk L[i] g) s λq _=>rZ (pR L[i]) g q.2)->∀g ρ s,jv (In.fH tk L (In.iX mk L) g ρ) s λq _=>rZ (mU L) g q.1
 |[],[],_,_,g,ρ,s=>.ret (rZ.refl g)|[],_::_,h,_,_,_,_=>vR|_::_,[],h,_,_,_,_=>vR|u::tk,x::L,hl,H,g,ρ,s=>by
  refine(H 0 ag g s).and λq s1 h1=>mL.and λi s2 _=>mL.and λ_ s3 _=>?_;exact(K_ mk tk L (by simpa using hl) (λi hi=>H (i+1) bP) q.2 i.2 s3).imp λa s' h=>h1.and h
def GB{p:Prop}(h:p:=by
 simp[ji,j9]
 exact .ret<|rZ.refl g):p:=h
def GC(h:sg mk nl nd):∀g s,jv (ji mk nd g) s λq _=>rZ (pR nd) g q.2:=by
 induction h with
 |leaf k st n f t a hk=>
  intro g s;have e:pR (.mk k st n [] f t a)=[]:=by
   have:¬k=1:=ae;simp[pR,mU,this]
  rw[e];obtain rfl|rfl|rfl|rfl:=hk
  .simp only[ji,j9,if_true];exact mL.and λv s' _=>.ret<|rZ.refl g
  .exact GB
  .exact GB
  .exact GB
 |low st n f t a hs=>
  intro g s;simp[ji,j9,pR];exact mL.and λv s' _=>.ret<|rZ.set g st _
 |pr st n x y f t a hx hy dR im=>
  intro g s;rw[XD];have e:pR (.mk 6 st n [x,y] f t a)=pR x++pR y:=by simp[pR,mU]
  rw[e];exact(dR g s).and λq s1 h1=>(im q.2 s1).and λr s2 h2=>.ret<|h1.and h2
 |up st n L f t a tk m hm hl hr ih=>
  intro g s;rw[yO hm];have e:pR (.mk 2 st n L f t a)=mU L:=by simp[pR]
  rw[e];rw[gO];rw[qn,qn];exact(K_ mk tk L hl ih g jy s).and λq s1 h1=>mL.and λi s2 _=>.ret h1
def La{nl:List BA}:∀(L:List Nd),(∀i(h:i<L.length),∀y,y∈pR L[i]->y∈nl)->∀y,y∈mU L->y∈nl
 |[],_,y,h=>by simp[mU]at h|x::l,H,y,h=>by
  simp only[mU,qw]at h;obtain h|h:=h
  .exact H 0 ag y h
  .exact La l (λi hi=>H (i+1) bP) y h
def ael(h:sg mk nl nd):∀y,y∈pR nd->y∈nl:=by
 induction h with
 |leaf k st n f t a hk=>intro y q;have:¬k=1:=ae
                        simp[pR,mU,this]at q
 |low st n f t a hs=>intro y q;simp[pR]at q;subst q;exact hs|pr st n x y f t a hx hy dR im=>
  intro z q;simp[pR,mU]at q;exact q.elim (dR z)<|im z
 |up st n L f t a tk m hm hl hr ih=>
  intro y q;have e:pR (.mk 2 st n L f t a)=mU L:=by simp[pR]
  rw[e]at q;exact La L ih y q
noncomputable def mM (mk:jl) (Γ:jd) (T r:Ty) (A:List (Nd×Nd)) (j:Nat):jq Ty:=jf (In.iK mk Γ T r (aU<|A.drop j)<|j7 mk<|aU<|A.drop j) λ_=>j6 r
def OI(mk:jl)s n x A f t a(Γ:jd):jk mk (.mk 13 s n (x::aU A) f t a) Γ=jf (jk mk x Γ) λa=>jf In.iP λv=>mM mk Γ a (.var v) A 0:=by
 simp[jk,In.kh,j7,In.cK,mM]
noncomputable def abw (mk:jl) (Γ:jd) (T r:Ty) (A:List (Nd×Nd)) (j:Nat) (h:j<A.length):jq Ty:=jf (ji mk A[j].1 λ_=>none) λq=>jf (ju T q.1 (jo A[j].1)<|jt A[j].1) λ_=>jf (jk mk A[j].2<|jm q.2 Γ) λu=>jf (ju r u (jo A[j].2)<|jt A[j].2) λ_=>mM mk Γ T r A<|j+1
def DL{r}hj{o}(h:abw mk Γ T r A j hj s o):mM mk Γ T r A j s o:=by
 unfold abw mM at*;rw[qh hj];show jf (jf (ji mk A[j].1 λ_=>none) λq=>jf (ju T q.1 (jo A[j].1)<|jt A[j].1) λ_=>jf (jk mk A[j].2<|jm q.2 Γ) λu=>jf (ju r u (jo A[j].2)<|jt A[j].2) λ_=>In.iK mk Γ T r (aU<|A.drop<|j+1)<|j7 mk<|aU<|A.drop<|j+1) (λ_=>j6 r) s o;refine ew ?_;obtain⟨x,q1,rfl⟩|⟨a,s1,q1,h⟩:=h
 .exact qy ⟨x,q1,rfl⟩
 refine qz ⟨a,s1,q1,ew ?_⟩;obtain⟨x,q1,rfl⟩|⟨b,s2,q2,h⟩:=h
 .exact qy ⟨x,q1,rfl⟩
 refine qz ⟨b,s2,q2,ew ?_⟩;obtain⟨x,q1,rfl⟩|⟨b,s2,q2,h⟩:=h
 .exact qy ⟨x,q1,rfl⟩
 exact qz ⟨b,s2,q2,ew h⟩
def Lb(mk:jl)(Γ:jd)T r A(s:jc)(o:Except In.Ft (Ty×jc))(h:j6 r s o):mM mk Γ T r A A.length s o:=by
 rw[mM];rw[List.drop_length];exact qz ⟨(),s,rfl,h⟩
section
variable {cnt:Nat} {iY:Nat} {g1:jd} {S D1:Nat} {p p1 p2:jq Ty}
def Cl.imp(h:Cl c S D p s cnt w D1 p1 s1 al w1)(k:∀o,p2 s1 o->p1 s1 o):Cl c S D p s cnt w D1 p2 s1 al w1:=λe w' q=>h e w' (by obtain⟨a1,c',o,a2,a3,a4,a5,a6⟩:=q;exact⟨a1,c',o,a2,a3,a4,k o a5,a6⟩)
def abx(hb:Bq w w0)(hg:w.heap.size<=gv)(hf:Fr (λi=>i=c.cb\/i=gv) w0 w'):Fr (λi=>i=c.cb) w w':=⟨hf.os.trans hb.os,hf.tape.trans hb.tape,hf.output.trans hb.output,xg hb.size hf.size,λk hk hn=>(hf.block k (xh hk hb.size)<|λq=>q.elim hn ae).trans<|hb.block k hk⟩
theorem WG.over{mk:jl}{nd:Nd}{T:Ty}{Xv:Nat}(h:WG w c s Λ Γ gb)(hs:sg mk c.nl nd){s0:jc}(hm:ji mk nd (λ_=>none) s0 (.ok ((T,g1),s1)))(hi:In.bB Λ s g1)(he:bU w' (dB c) Xv (jm g1 Γ))(hn:Xv≠c.cb):WG w' c s Λ (jm g1 Γ) Xv where
 e:=he
 n:=hn
 i:=hi.over h.i
 nd y d q:=by
  have⟨_,h2⟩:=GC hs _ _ _ _ hm;rw[jm]at q;split at q
  .rename_i c' hc;injection q with q;subst q;obtain r|r:=h2 y c' hc
   .cases r
   .grind
  .exact h.nd y d q
 dm y q:=by
  have⟨h1,_⟩:=GC hs _ _ _ _ hm;rw[jm]at q;split at q
  .rename_i c' hc;rcases(h1 y).1 (by show g1 y≠none;rw[hc];simp)with r|r
   .exact absurd rfl r
   .exact ael hs y r
  .exact h.dm y q
def Lc(hs:sg mk nl nd)(hm:ji mk nd (λ_=>none) s0 (.ok ((T,g1),s1)))(hd:∀x,dom x->Γ x≠none):∀x,dom x\/x∈pR nd->jm g1 Γ x≠none:=λx q=>by
 have⟨h1,_⟩:=GC hs _ _ _ _ hm;rw[jm];split
 .simp
 .rename_i hc;obtain q|q:=q
  .exact hd x q
  .grind
end
section
variable {n0:Nat} {M:jq Ty} {cnt0 cnt D2:Nat} {q q2:jq Ty} {P:World->jc->Prop} {post:Ending->World->Prop}
def gH.to(H:gH n0 M c w0 cnt0 s0 Λ Γ gb Q dom D q P s cnt kb w)(k:∀o,q2 s o->q s o):gH n0 M c w0 cnt0 s0 Λ Γ gb Q dom D q2 P s cnt kb w:=⟨H.wg,H.hq,H.hd,H.ft,H.mf,H.f,H.we,H.st,H.cl.imp k,H.lv,H.cn⟩
def gH.imp{P'}(H:gH n0 M c w0 cnt0 s0 Λ Γ gb Q dom D q P s cnt kb w)(k:∀w s,P w s->P' w s):gH n0 M c w0 cnt0 s0 Λ Γ gb Q dom D q P' s cnt kb w:=⟨H.wg,H.hq,H.hd,H.ft,H.mf,H.f,H.we,H.st,H.cl,λw s a b=>k _ _<|H.lv w s a b,H.cn⟩
def gH.wv{g}(H:gH n0 M c w0 cnt0 s0 Λ Γ gb Q dom D (jf (ji c.mks y λ_=>none) g) P s cnt kb w)(K:Bq w W)(E:bU W (qK c gv) gv λ_=>none)(hg:w.heap.size<=gv)(hy:PP w0 Q y vy)(sy:sg c.mks c.nl y)(ok:∀T g1 ta xa s' aE Mw w',gH n0 M c w0 cnt0 s0 Λ Γ gb Q dom D2 (g (T,g1)) (λw s=>P w s/\(TW w (dB c) (1100*nn y) T (.iface ta xa)/\jp Λ s T)/\bU w (dB c) gv g1/\In.bB Λ s g1) s' aE Mw w'->ji c.mks y (λ_=>none) s (.ok ((T,g1),s'))->w.heap.size<=w'.heap.size->post (.returned<|.tuple #[.iface ta xa,Mv Mw]) w')(hD:D2+1000*nn y<=D)(hn:nn y<=n0)(bad:∀f l r w',aY c (1100*n0) (1000*n0) M s0 cnt0 w0 (Ct f l r) w'->post (Ct f l r) w':=by exact λ_ _ _ _ h=>⟨rfl,h⟩):
 Cq 353 #[Pv c.eb,Mv kb,Mv gv,vy] W post:=by
 have cn:=H.cn;have zc:=H.we.dx;have k:=(Cw.of H.st.k hg).af K;have pp:=(hy.move (Q:=λb=>Q b/\b<w.heap.size) H.f.size (λb p z=>H.f.block b z<|H.hq b p)<|λb p z=>⟨p,xh z H.f.size⟩).af K;refine(ahP y c W cnt s kb Λ (λ_=>none) gv _ _ ⟨H.we.af K,k,H.st.n,E,(λy d q=>mO),by have:=H.we.l.2.2.2.2;omega,pp,(λb q=>⟨H.hq b q.1,by have:=q.2;omega⟩),sy,H.ft.le ae hn,H.mf⟩).mono λe w' hp=>?_;obtain⟨c3,zz,vl,vr,rfl,q⟩|⟨c3,T3,g3,s3,ta3,xa3,kb3,rfl,q⟩:=hp.split
 .exact bad _ _ _ _ (H.cl _ _ ⟨abx K hg q.F,c3,.error zz,q.c1,by have:=q.c2;omega,q.we,qy ⟨zz,q.m,rfl⟩,vl,vr,rfl,q.f⟩)
 .have st:=q.step k H.st.n<|λy d q=>mO;have F:=abx (c:=c) K hg q.F;have:=q.c1;have:=q.c2;exact ok T3 g3 ta3 xa3 s3 c3 kb3 w' ⟨H.wg,H.hq,H.hd,H.ft,H.mf,H.f.trans F,q.we,H.st.and ⟨st.k.wk,st.n,st.p⟩,H.cl.and q.m F q.c1 q.u ae,λw2 s2 a b=>⟨H.lv w2 s2 (F.trans a)<|st.p.trans b,⟨(q.t.wide (Q:=dB c) λi p=>p.1).fr a<|λ_ p _=>p,st.t.run b.run⟩,(q.e.wide (Q:=dB c) λi p=>p.1).fr a ae<|λ_ p _=>p,st.i.run b.run⟩,ae⟩ q.m F.size
end
def akc n0(M:jq Ty)c w0 cnt0 s0 Λ(Γ:jd)gb Q dom T ts xs rv nx A gk v1 v35 wr:=
 ∃j cj sj kj,Hid (gk=A.length-j)/\j<=A.length/\v1=Mv kj/\v35=Nv j/\gH n0 M c w0 cnt0 s0 Λ Γ gb Q dom (1000*ck (aU<|A.drop j)) (mM c.mks Γ T (.var rv) A j) (λw s=>(TW w (dB c) (1100*nx) T (.iface ts xs)/\jp Λ s T)/\jp Λ s (.var rv)) sj cj kj wr
def DN(h:j<A.length):ck (aU<|A.drop j)=nn A[j].1+nn A[j].2+ck (aU<|A.drop<|j+1):=by
 rw[qh h];simp only[aU,ck];omega
def pG:∀A:List (Nd×Nd),A.length<=ck (aU A)
 |[]=>ag|p::r=>by have:=pG r;have:=uG p.1;simp only[ot,aU,ck];omega
def sE:∀(A:List (Nd×Nd))(j:Nat)(h:j<A.length),nn A[j].1+nn A[j].2<=ck (aU A)
 |p::r,0,_=>by simp only[qi,aU,ck];omega|p::r,j+1,h=>by have:=sE r j G_;simp only[qk,aU,ck];omega
section
variable {cnt:Nat}
def agd{t a}{x}{g}{vp ve:Nat->Value}(Hx:Bj x)(He:∀i(h:i<A.length),Bj A[i].2)(h:Cu (.mk 13 st n (x::aU A) f t a) c w cnt s kb Λ Γ gb Q dom (.iface 201<|.agg #[Nv f,Nv t,vx,.slice (some ⟨g,0,none⟩) A.length sc]))(hg:Q g)(lh:g<w.heap.size)(hc:∀i,i<A.length->(∃u v,w.cell? ⟨g,i*4,none⟩=some (Iv u)/\w.cell? ⟨g,i*4+1,none⟩=some (Iv v))/\w.cell? ⟨g,i*4+2,none⟩=some (vp i)/\w.cell? ⟨g,i*4+3,none⟩=some (ve i))(hx:PE w Q x vx)(hp:∀i(h:i<A.length),PP w Q A[i].1<|vp i)(he:∀i(h:i<A.length),PE w Q A[i].2<|ve i):
 Cq 341 #[Pv c.eb,Mv kb,Mv gb,.agg #[Nv f,Nv t,vx,.slice (some ⟨g,0,none⟩) A.length sc]] w (aY c (1100*nn (.mk 13 st n (x::aU A) f t a)) (1000*nn (.mk 13 st n (x::aU A) f t a)) (jk c.mks (.mk 13 st n (x::aU A) f t a) Γ) s cnt w):=by
 have en:nn (.mk 13 st n (x::aU A) f t a)=1+nn x+ck (aU A):=yL;obtain⟨sx,SP,SE⟩:ScE c.mks c.nl dom x/\(∀i(h:i<A.length),sg c.mks c.nl A[i].1)/\∀i(h:i<A.length),ScE c.mks c.nl (λv=>dom v\/v∈pR A[i].1) A[i].2:=by
  have hs:=h.sc;generalize hL:x::aU A=L at hs
  cases hs with
  |mt _ _ _ x' A' _ _ _ hx hp he=>
   injection hL with h1 h2;subst h1;have hA:A=A':=by
    have:∀(A A':List (Nd×Nd)),aU A=aU A'->A=A':=by
     intro A
     induction A with
     |nil=>intro A' e;cases A' with|nil=>rfl|cons=>simp[aU]at e
     |cons p r ih=>
      intro A' e
      cases A' with
      |nil=>simp[aU]at e|cons p' r'=>
       simp only[aU,List.cons.injEq]at e;obtain⟨e1,e2,e3⟩:=e;rw[ih r' e3,Prod.ext e1 e2]
    exact this A A' h2
   subst hA;exact⟨hx,hp,he⟩
  |leaf _ _ _ _ _ _ _ hk=>omega|two _ _ _ _ _ _ _ _ _ hk=>omega|lt _ _ _ _ _ _ _ _ _ _ hk=>omega
 have fb:=h.ft.b;rw[en]at fb;have hAl:=pG A;have jB:= @run_makeMap Tryz.prog;have HX:=ai hx;obtain⟨tx,ax,rfl⟩:=hx.iface;have H:=gH.start h<|OI ..;obtain⟨n0,hn0⟩:∃n0,n0=nn (.mk 13 st n (x::aU A) f t a):=⟨_,rfl⟩;obtain⟨M,hM⟩:∃M,M=In.inf c.mks (.mk 13 st n (x::aU A) f t a) Γ:=⟨_,rfl⟩;rw[<-hM,<-hn0]at H⊢;rw[en]at hn0;have EN:=ai hn0;have HP:=ai hp;have HE:=ai he;have HC:=ai hc;clear h hx en hn0 hM hp he hc;go_enter func341,ntmps341;go_wp2_with fail;refine H.box.ex (D2:=1000*(1+ck (aU A))) Hx HX sx ?_ (by rw[uh EN];omega) (by rw[uh EN];omega);intro T1 yI yJ s1 al iY w1 H;have⟨⟨_,b1,b2,b3⟩,_⟩:=H.p;have⟨e1,e2,e3⟩:=H.we.bx;go_wp2_with fail;refine H.new (D2:=1000*ck (aU A)) ?_ ae;intro s3 w3 H;clear e1 e2 e3 b1 b2 b3;have⟨⟨⟨_,b1,b2,b3⟩,_⟩,_⟩:=H.p
 go_wp2
 go_loopg[1,35] A.length (λgk v1 v35 wr=>akc n0 M c w cnt s Λ Γ gb Q dom T1 yI yJ (al+1) (nn x) A gk v1 v35 wr)
 case atStart=>exact⟨0,_,_,_,ai ag,xj _,rfl,rfl,H.imp λ_ _ h=>⟨h.1.2,h.2⟩⟩
 case round=>
  clear H b1 b2 b3;obtain⟨j,cj,sj,kj,dv,hj,rfl,rfl,H⟩:=hrel;by_cases bq:j<A.length
  .have bz:(j:Int)<(A.length:Int):=ae;have Ij:(0:Int)<=(j:Int):=ae;have⟨⟨u,v,d0,d1⟩,d2,d3⟩:=HC j bq;rw[<-xo (a:=⟨g,_,none⟩) (H.f.block g lh<|H.hq g hg)]at d0 d1 d2 d3;have⟨t1,x1,e1⟩:=(HP j bq).iface;have⟨t2,x2,e2⟩:=(HE j bq).iface;have PP1:=HP j bq;have PE2:=HE j bq;rw[e1]at d2 PP1;rw[e2]at d3 PE2;have pl1:=PP1.place;have pl2:=PE2.place;dsimp only[PlF]at pl1 pl2
   replace PP1:=ai PP1
   replace PE2:=ai PE2
   have hdn:=DN bq;have hnn:=sE A j bq;have l5:=H.we.l.2.2.2.2;have H:=H.to λo q=>DL bq q;have zc:=H.we.dx;go_wp2_with fail;refine(H.box (C:=#[Iv u,Iv v,Fv t1<|Av x1,Fv t2<|Av x2]) (t:=257)).wv (D2:=1000*(nn A[j].2+ck (aU<|A.drop<|j+1))) (gv:=wr.heap.size+1) (bw _) (by have:=bU.new (wr.alloc<|Cv #[Iv u,Iv v,Fv t1<|Av x1,Fv t2<|Av x2] 257)<|qK c<|wr.heap.size+1;simpa using this) ag PP1 (SP j bq) ?_ ae (by rw[uh EN];omega);intro T3 g3 ta3 xa3 s3 c3 kb3 w3 H hm3 z3;clear d0 d1 d2 d3;have⟨⟨_,b1,b2,b3⟩,_⟩:=H.p;go_wp2_with fail;refine(dl _ _).mono ?_;rintro e w4⟨rfl,K4⟩;have H:=H.af K4;clear b1 b2 b3;have⟨⟨_,b1,b2,b3⟩,_⟩:=H.p;go_wp2_with fail;refine H.eq (S:=900000) (H.p.1.1.1.1.le ae) (H.p.2.1.1.le ae) H.p.1.1.1.2 H.p.2.1.2 ?_;intro b5 s5 w5 H;clear b1 b2 b3;have⟨⟨_,b1,b2,b3⟩,_⟩:=H.p
   replace hm3:=ai hm3
   go_wp2_with fail;go_cut[16,17]from 56 to 75 (λv16 v17 wc=>∃T6 s6 c6 XQ XS WJ,v16=Mv WJ/\v17=Fv XQ XS/\gH n0 M c w cnt s Λ Γ gb Q dom (1000*ck (aU<|A.drop<|j+1)) (jf (ju (.var<|al+1) T6 (jo A[j].2)<|jt A[j].2) λ_=>mM c.mks Γ T1 (.var<|al+1) A<|j+1) (λw' s=>(((TW w' (dB c) (1100*nn x) T1 (Fv yI yJ)/\jp Λ s T1)/\jp Λ s (.var<|al+1))/\Bx w' wr.heap.size #[Iv u,Iv v,Fv t1<|Av x1,Fv t2<|Av x2])/\TW w' (dB c) (1100*nn A[j].2) T6 (Fv XQ XS)/\jp Λ s T6) s6 c6 WJ wc)
   case first=>
    go_region_with(first
     |(go_at_call 331;go_loud(refine(Cm ((H.wg.fr H.f H.st.p.run).e.af (xt _ _).drew)<|H.p.2.2.1.af (xt _ _).drew).mono ?_);rintro e w6⟨b6,rfl,z6,h6,k6⟩;have K6:=ai<|(xt w5.heap.size w5).drew.trans k6;have⟨⟨_,d1,d2,d3⟩,_⟩:=(H.af K6).p;have E6:=ai h6;have Z6:=ai z6;clear k6 h6 z6)
     |(go_at_call 323;go_loud(refine H.exG (D2:=1000*ck (aU<|A.drop<|j+1)) K6 (He j bq) ⟨H.we.af K6,H.st.k.af K6,H.st.n,(H.wg.fr H.f H.st.p.run).over (SP j bq) hm3 H.p.2.2.2 E6 (by have z:=uh Z6;have:=H.we.dx;have q:w5.heap.size<=b6:=z;omega),(PE2.move H.f.size (λb p z=>H.f.block b z<|H.hq b p)<|λ_ p _=>p).af K6,H.hq,SE j bq,Lc (SP j bq) hm3 H.hd,H.ft.le qBw (by rw[uh EN];omega),H.mf⟩ ?_ ae);intro T6 XQ XS s6 c6 WJ w7 H7))
    all_goals(
     go_wp2_with fail
     go_meet
     case rel=>exact⟨_,_,_,_,_,_,rfl,rfl,H7.imp λ_ _ h=>⟨h.1.1,h.2⟩⟩)
   case rest=>
    obtain⟨T6,s6,c6,XQ,XS,WJ,rfl,rfl,H⟩:=hcut;clear b1 b2 b3;have⟨⟨_,b1,b2,b3⟩,_⟩:=H.p;go_wp2_with fail;refine(dl _ _).mono ?_;rintro e w8⟨rfl,K8⟩;have H:=H.af K8;go_wp2_with fail;refine H.eq (S:=900000) (pS w8 c al _ ae) (H.p.2.1.le ae) H.p.1.1.2 H.p.2.2 ?_;intro b9 s9 w9 H
    go_wp2
    go_roundg(A.length-(j+1))
    case measure=>rw[uh dv];omega
    case rel=>exact⟨j+1,_,_,_,ai rfl,xi bq,rfl,jT,H.imp λ_ _ h=>h.1.1⟩
  .have bz:¬(j:Int)<(A.length:Int):=ae;have ej:j=A.length:=ae;subst ej;have H:=H.to λo q=>Lb c.mks Γ T1 (.var<|al+1) A sj o q
   go_wp2
   go_ret2;exact H.ret (pS wr c al 1<|br _) (by rw[uh EN];omega)
end
section
variable {cnt:Nat}
def aby(mk:jl)s n x y f t a(Γ:jd)(hv:vars [] (bt []<|es y).1=[]):jk mk (.mk 14 s n [x,y] f t a) Γ=jf (jk mk x Γ) λa=>jf (ju a (bt []<|es y).1 (jo x)<|jt x) λ_=>j6 (bt []<|es y).1:=by simp[jk,In.kh,j7,In.cK,In.iA,hv]
def XU{t a}{x}(Hx:Bj x)(h:Cu (.mk 14 st n [x,y] f t a) c w cnt s kb Λ Γ gb Q dom (.iface 311<|.agg #[Nv f,Nv t,vx,vy]))(hx:PE w Q x vx)(hy:PT w Q y vy):
 Cq 337 #[Pv c.eb,Mv kb,Mv gb,.agg #[Nv f,Nv t,vx,vy]] w (aY c (1100*nn (.mk 14 st n [x,y] f t a)) (1000*nn (.mk 14 st n [x,y] f t a)) (jk c.mks (.mk 14 st n [x,y] f t a) Γ) s cnt w):=by
 have en:nn (.mk 14 st n [x,y] f t a)=1+nn x+nn y:=yL;obtain⟨sx,hv,hz,hw⟩:ScE c.mks c.nl dom x/\vars [] (bt []<|es y).1=[]/\size (bt []<|es y).1<=1000/\Whole (bt []<|es y).1:=by
  cases h.sc with
  |of _ _ _ _ _ _ _ _ hx hv hz hw=>exact⟨hx,hv,hz,hw⟩|two _ _ _ _ _ _ _ _ _ hk=>omega|lt _ _ _ _ _ _ _ _ _ _ hk=>omega
 obtain⟨n0,em⟩:=afk hy [] (λm o=>by have:=In.aC.2 o;rw[hv]at this;cases this) hz;have ei:=aby c.mks st n x y f t a Γ hv;rw[em]at hz hw hv ei;obtain⟨M,hM⟩:∃M,M=m0 y:=⟨_,rfl⟩;have AR:=afl y n0;unfold FE at AR;rw[<-hM]at hv hz hw AR ei;dsimp only at hv hz hw ei;have tiM:∀s,jp Λ s M:=λs=>by
  have nM:∀m,¬aA m M:=λm o=>by have:=In.aC.2 o;rw[hv]at this;cases this
  refine⟨λm o=>(nM m o).elim,λm o=>?_⟩;obtain⟨m',o1,_⟩:=(jz _).1 o;exact(nM m' o1).elim
 have hny:=uG y;have DX:=uG x;have fb:=h.ft.b;rw[en]at fb;have H:=gH.start h ei
 replace en:=ai en
 clear h ei hM em;have HX:=ai hx;have HY:=ai hy;have TI:=ai tiM;have PR:=ai<|And.intro hw hz;obtain⟨tx,ax,rfl⟩:=hx.iface;obtain⟨ty,ay,rfl⟩:=hy.bQ;have LZ:=hx.place;dsimp only[PlF]at LZ;clear hx hy tiM hv hw hz;go_enter func337,ntmps337;go_wp2_with fail;refine H.box.ex (D2:=1000) Hx HX sx ?_ qV qV;intro T1 yI yJ s1 al iY w1 H;obtain⟨⟨_,b1,b2,b3⟩,_⟩:=H.p;have HO:=AR w1 Q _<|HY.fr H.f<|λb p _=>H.hq b p;have z1:=H.we.dx;go_wp2_with fail;refine HO.mono ?_;rintro e w2⟨u2,rfl,wJ,F2⟩;obtain⟨tu,xu,rfl⟩:=wJ.iface;have TM:=TW.of (wJ.w.wide λb p=>by show b≠c.cb;have:w1.heap.size<=b:=p;omega) PR.1 PR.2;have H:=(H.af ⟨F2.os,F2.tape,F2.output,F2.size,λb z=>F2.block b z id⟩).add λw' _ f _=>TM.fr f<|λ_ p _=>p;clear b1 b2 b3 wJ TM HO;obtain⟨⟨⟨_,b1,b2,b3⟩,_⟩,_⟩:=H.p;go_wp2_with fail;refine(dl _ _).mono ?_;rintro e w4⟨rfl,K4⟩;have H:=H.af K4;go_wp2_with fail;refine H.eq (S:=900000) (H.p.1.2.1.le ae) (H.p.2.le ae) H.p.1.2.2 (TI _) ?_;intro kb5 s5 w5 H
 go_wp2
 go_ret2;exact H.ret H.p.2 qV
end
section
variable {cnt:Nat}
def acQ{x}{t a}(h:Cu (.mk 2 x n [] f t a) c w cnt s kb Λ Γ gb Q dom (.iface 390<|.agg #[Nv f,Nv t,.string x])):
 Cq 323 #[Pv c.eb,Mv kb,Mv gb,.iface 390<|.agg #[Nv f,Nv t,.string x]] w (aY c (1100*nn (.mk 2 x n [] f t a)) (1000*nn (.mk 2 x n [] f t a)) (jk c.mks (.mk 2 x n [] f t a) Γ) s cnt w):=by
 have en:nn (.mk 2 x n [] f t a)=1:=qBi;obtain⟨tk,m,hx⟩:∃tk m,c.mks x=some (tk,m):=by
  cases h.sc with
  |up _ _ _ _ _ _ tk m hx=>exact⟨tk,m,hx⟩|leaf _ _ _ _ _ _ _ hk=>omega
 rw[en,XK c.mks x n f t a Γ hx];have WI:=h.ft.a;rw[en]at WI;have fW:=h.mf.sz x tk m hx;have GW:=h.mf.wh x tk m hx;have HVS:=h.mf.vs x tk m hx;have has:=sC tk m;have yE:(vars [] m).length<=size m:=by
  exact Sy
 have hla:(vars []<|jj tk m).length<=1000:=by
  rw[cD];have h2:=dh (occs<|jj tk m) [];have h3:=di<|jj tk m;simp only[uq]at h2;omega
 have⟨k0,B0⟩:=sd w #[Nv f,Nv t,Sv x] 390;obtain⟨w0,xD⟩:∃w0,w0=w.alloc (Cv #[Nv f,Nv t,Sv x] 390):=⟨_,rfl⟩;have XW:=h.we.af k0;have wk0:=h.wk.af k0;rw[<-xD]at k0 B0 XW wk0;have⟨v,hv,xU⟩:=XW.ms.look hx;have ld:=XW.d;have ll:=XW.l;have Mn:=hv;obtain⟨sa,sc,ta,xa,rfl,hr,hm⟩:=Mn;have HRN:∀W:World,Bq w0 W->Cq 334 #[Pv c.eb,Fv ta xa] W (λe w'=>∃b,e=Rv (Mv b)/\RnA c cnt (vars [] m) w0 w' b):=λW hb=>by
  refine(Cx (XW.af hb) (hm.w.af hb) ae ae).mono ?_;rintro e w'⟨b,rfl,h1,h2,h3,h4⟩;exact⟨b,rfl,by have:=hb.size;omega,h2,h3,(zh hb).trans h4⟩
 have HTY:∀W:World,Fr (λi=>i=c.cb) w0 W->Cq 335 #[Av #[Lv sa tk.length sc,Fv ta xa]] W (λe w'=>∃tu xu,e=Rv (Fv tu xu)/\de w' (dB c) (jj tk m) (Fv tu xu)/\Bq W w'):=λW hF=>by
  refine(vS (hv.move (Q:=dB c) hF.size (λb p z=>hF.block b z p.1)<|λb p _=>p.1) ae).mono ?_;rintro e w'⟨u,rfl,hu,hk⟩;obtain⟨tu,xu,rfl⟩:=hu.iface;exact⟨tu,xu,rfl,hu.wide λi p=>by obtain p|p:=p;exact p;show i≠c.cb;have:=hF.size;omega,hk⟩
 have AR:∀(W:World)(b:Nat)(tu:TypeId)(xu:Value),RnA c cnt (vars [] m) w0 W b->de W (dB c) (jj tk m) (Fv tu xu)->Cq 314 #[Mv b,Fv tu xu] W (λe w'=>∃tr xr,e=Rv (Fv tr xr)/\TW w' (dB c) 1100 (sub (ja<|qS cnt<|vars [] m)<|jj tk m) (Fv tr xr)/\Bq W w'):=λW b tu xu hA hu=>by
  have ev:=Pe cnt<|vars [] m;have Ig:=Ih hA.sb (show dB c b by have:=hA.z;show b≠c.cb;omega) hu ae (by rw[ev,iD];omega);rw[ev]at Ig;refine Ig.mono ?_;rintro e w'⟨u,rfl,LW,hk⟩;obtain⟨tr,xr,rfl⟩:=LW.iface;have hw':=pQ (qS cnt<|vars [] m) _ GW;refine⟨tr,xr,rfl,⟨⟨_,LW.wide λi p=>by obtain p|p:=p;exact p;show i≠c.cb;have:=hA.F.size;omega,(dD.refl _).cut hw',?_⟩,hw'⟩,hk⟩;have hlq:(vars []<|sub (ja<|qS cnt<|vars [] m)<|jj tk m).length<=1000:=by
   rw[cD];have h2:=dh (occs<|sub (ja<|qS cnt<|vars [] m)<|jj tk m) [];have h3:=di<|sub (ja<|qS cnt<|vars [] m)<|jj tk m;rw[iD]at h3;simp only[uq]at h2;omega
  have:=fq hw' hlq ae;omega
 have HLK:∀W:World,Fr (λi=>i=c.cb) w0 W->(Instr.lookup 214 (Mv c.mb) (Sv x) false).run Tryz.prog W=.ok (Av #[Lv sa tk.length sc,Fv ta xa]) W:=λW hF=>xU W<|hF.block _ ae ae;have aei:=HLK w0.drew<|Fr.of (Below.refl _ _).drew;obtain⟨b1,b2,b3⟩:=B0;have⟨e1,e2,e3⟩:=XW.bx;have BB:=show Bx w0 w.heap.size #[Nv f,Nv t,Sv x]from⟨b1,b2,b3⟩;have K0:=ai k0;have WK0:=ai wk0;have HU:=ai h.wk.u;have nz:=ld.1;have zc:=h.we.dx;clear h k0 XW wk0 hv xU hr hm GW ld ll;go_enter func323,ntmps323;go_wp2_with fail;rw[<-xD];clear xD;have amM:=aiS;have ne0:¬w.heap.size=c.cb:=ae;have f1:=e1 2;have f2:=b1 2;clear e1 e2 e3 b1 b2 b3
 go_region_held3(λw'=>w'.cell? ⟨c.eb,2,none⟩=some (Mv c.mb)/\w'.cell? ⟨w.heap.size,2,none⟩=some (Sv x)/\(Instr.lookup 214 (Mv c.mb) (Sv x) false).run Tryz.prog w'=.ok (Av #[Lv sa tk.length sc,Fv ta xa]) w') (first|go_keep|(simp[*])) (first
  |(go_at_call 334;go_loud(refine(HRN _ (xt _ _).drew).mono ?_);rintro e w2⟨b5,rfl,hA⟩;have g1:w2.cell? ⟨c.eb,2,none⟩=some (Mv c.mb):=hA.we.bx.c 2;have g2:w2.cell? ⟨w.heap.size,2,none⟩=some (Sv x):=(BB.fr hA.F ne0).c 2;have aej:=HLK w2 hA.F;have HA:=ai hA;clear hA)
  |(go_at_call 335;go_loud(refine(HTY _ HA.F).mono ?_);rintro e w3⟨tu,xu,rfl,hu,k3⟩;have A3:Hid (RnA c cnt (vars [] m) w0 w3 b5):=ai ⟨HA.z,HA.we.af k3,HA.sb.af k3,HA.F.trans<|zh k3⟩;have g3:w3.cell? ⟨c.eb,2,none⟩=some (Mv c.mb):=A3.we.bx.c 2;have g4:w3.cell? ⟨w.heap.size,2,none⟩=some (Sv x):=(BB.fr A3.F ne0).c 2;have amN:=HLK w3 A3.F;have U3:=ai hu;clear hu k3)
  |(go_at_call 314;go_loud(refine(AR _ _ _ _ A3 U3).mono ?_);rintro e w4⟨tr,xr,rfl,ht,k4⟩;have A4:=A3.F.trans<|zh k4;have g5:w4.cell? ⟨c.eb,2,none⟩=some (Mv c.mb):=(A3.we.af k4).bx.c 2;have g6:w4.cell? ⟨w.heap.size,2,none⟩=some (Sv x):=(BB.fr A4 ne0).c 2;have amO:=HLK w4 A4;have K4:=ai k4;have T4:=ai ht;clear ht k4 A4))
 all_goals
  go_wp2
  go_ret2;have a3:=uh A3;have k4:=uh K4;have wk0:=uh WK0;refine⟨(zh K0).trans<|a3.F.trans<|zh k4,cnt+(vars [] m).length,.ok (sub (ja<|qS cnt<|vars [] m)<|jj tk m,⟨s.k,λn=>s.u n\/(cnt<n/\n<=cnt+(vars [] m).length)⟩),ae,ae,a3.we.af k4,qz ⟨(_,qS cnt<|vars [] m),_,qz ⟨qS cnt<|vars [] m,_,⟨_,_,Ik (Cr cnt (vars [] m) (dG m List.nodup_nil) HU) λv=>?_,rfl⟩,rfl⟩,rfl⟩,λn q=>q,wk0.wh,tr,xr,kb,rfl,wk0.n,(wk0.k.fr a3.F wk0.n<|λ_ p _=>p).af k4,T4.le ae⟩;rw[bE,bE];simp only[List.not_mem_nil,false_or];exact⟨acN tk m v,HVS v⟩
end
structure WT w c cnt(u:Nat->Prop)(Γ:jd):Prop where
 we:WE w c cnt
 e:bU w (λi=>i≠c.cb/\i≠c.eb) c.nb Γ
 n:c.nb≠c.cb/\c.nb≠c.eb
 hu:∀n,u n->us cnt n
 top:In.XY ⟨Ty.var,u⟩ Γ
 dm:∀x,Γ x≠none->x∈c.nl
structure LtA rc st x c w cnt u(Γ:jd)Q(dom:BA->Prop)v:Prop where
 wt:WT w c cnt u Γ
 pe:PE w Q x v
 hq:∀b,Q b->b≠c.cb/\b≠c.eb
 sc:ScE c.mks c.nl (λv=>dom v\/(rc=true/\v=st)) x
 hd:∀x,dom x->Γ x≠none
 ft:Fit c cnt (1+nn x)
 mf:MkFine c.mks
 jU:st∈c.nl
def Sz{p:Prop}(h:p:=by
 induction h with
 |var n=>exact .var n|aK c L sa sc vs hc aN hr ih=>
  refine .aK c L sa sc vs hc ?_ ih;obtain h0|⟨g,h1,h2,h3,h4⟩:=aN
  .exact qy h0
  .by_cases h0:L=[]
   .exact qy h0
   .refine qz ⟨g,h1,⟨h2,λe=>?_⟩,h3,h4⟩;have hl:=List.length_pos_iff.2 h0;have q:=h4 0 hl;rw[e,hb]at q;injection q with q;obtain⟨a,y,r⟩:=(hr 0 hl).iface
    exact hx a y<|q.trans r):p:=h
def de.not(h:de w P t v)(hb:w.cell? ⟨b,0,none⟩=some x)(hx:∀a y,x≠.iface a y):de w (λi=>P i/\i≠b) t v:=by
 exact Sz
def dW.not(h:dW w P t v)(hb:w.cell? ⟨b,0,none⟩=some x)(hx:∀a y,x≠.iface a y):dW w (λi=>P i/\i≠b) t v:=by
 exact Sz
def sf.hv{vr:Value}(h:sf w P z vl vr):(vl=.nilIface/\vr=.nilIface)\/∃a b c d,vl=.iface a b/\vr=.iface c d:=by
 obtain k|k:=h.k
 .have⟨h1,h2⟩:=h.apart k;have⟨a,b,e1⟩:=h1.iface;have⟨c,d,e2⟩:=h2.iface;exact qz ⟨a,b,c,d,e1,e2⟩
 .exact qy (h.pN k)
def sf.one{vr:Value}(h:sf w P z vl vr)(hb:w.cell? ⟨b,0,none⟩=some x)(hx:∀a y,x≠.iface a y)(hf:Fr (λi=>i=b) w w'):sf w' P z vl vr:=
 ⟨h.pN,λk=>⟨((h.apart k).1.not hb hx).move hf.size (λi p q=>hf.block i q p.2)<|λ_ p _=>p.1,((h.apart k).2.not hb hx).move hf.size (λi p q=>hf.block i q p.2)<|λ_ p _=>p.1⟩,h.k⟩
abbrev BW(f:Fl)(vl vr:Value):Value:=.agg #[Nv f.kind,Nv f.ak,Nv f.to,vl,vr]
def XV c cnt u(Γ:jd)rc st a y x w(e:Ending)w':=Fr (λi=>i=c.cb\/i=c.eb) w w'/\∃o,In.bM rc st x (jk c.mks x) Γ ⟨Ty.var,u⟩ o/\match o with
 |.error z=>∃vl vr,e=.returned (.tuple #[.nilIface,BW z.f vl vr])/\sf w' (dB c) z vl vr
 |.ok (t,s)=>(48<size (sub s.k t)/\e=.returned (.tuple #[.nilIface,BW ⟨7,a,y⟩ .nilIface .nilIface]))\/
  (size (sub s.k t)<=48/\∃T ta xa aE VX,T=(if In.sw x then sub s.k t else In.dS (sub s.k t))/\e=.returned (.tuple #[.iface ta xa,.agg L0])/\de w' (dB c) T (.iface ta xa)/\Whole T/\aE<=cnt+1000*(1+nn x)/\WT w' {c with nb:=VX} aE s.u (j5 Γ st ⟨T,vars [] T⟩))
def mS.not{w}{P}{mb b}{mk}{x}(h:mS w P mb mk)(hb:w.cell? ⟨b,0,none⟩=some x)(hx:∀a y,x≠.iface a y):mS w (λi=>P i/\i≠b) mb mk:=by
 obtain⟨L,h1,h2,h3⟩:=h;refine⟨L,h1,h2,λk v hk=>?_⟩;obtain⟨tk,m,e,sa,sc,ta,xa,rfl,q1,q2⟩:=h3 k v hk;refine⟨tk,m,e,sa,sc,ta,xa,rfl,?_,q2.not hb hx⟩;obtain q1|⟨g,vs,q3,q4,q5,q6⟩:=q1
 .exact qy q1
 .by_cases h0:tk=[]
  .exact qy h0
  .have hl:=List.length_pos_iff.2 h0;refine qz ⟨g,vs,q3,⟨q4,λe=>?_⟩,q5,λi hi=>⟨(q6 i hi).1,(q6 i hi).2.not hb hx⟩⟩;have⟨q7,q8⟩:=q6 0 hl;rw[e,hb]at q7;injection q7 with q7;have⟨a,y,r⟩:=q8.iface;exact hx a y<|q7.trans r
def MG.bD{enc}{L:List (κ×Value)}(h:MG enc w b L)(o:Nat):w.cell? ⟨b,o,none⟩=none:=by
 obtain⟨es,c,h1,_⟩:=h;simp[World.cell?,h1]
def SA{p:Prop}(h:p:=by
 have:=h.bx.c 0;rw[<-e]at this
 exact absurd this (by rw[hM.bD 0];simp)):p:=h
def WE.put{cnt}(h:WE w c cnt)(hf:Fr (λi=>i=c.eb\/c.fX<=i) w w')(he:Bx w' c.eb (af0 {c with nb:=nb})):WE w' {c with nb:=nb} cnt:=by
 have⟨l1,l2,l3,l4,l5⟩:=h.l;have⟨d1,d2,d3⟩:=h.d;have ne1:c.rb≠c.eb:=λe=>by
  have⟨L,hM,_⟩:=h.rs;exact SA
 have ne2:c.mb≠c.eb:=λe=>by
  have⟨L,hM,_⟩:=h.ms;exact SA
 refine⟨he,h.ct.fr hf ae,h.rs.same<|hf.block _ h.rs.lt ae,?_,h.d,⟨l1,l2,l3,l4,xg l5 hf.size⟩⟩;exact(h.ms.not (h.bx.c 0) ag).move hf.size (hf.block _ h.ms.lt ae) (λb p z=>hf.block b z (by have:=p;omega)) (λb p _=>p.1)
mutual
def AU:∀t,size (sub (λ_=>j8) t)=size t
 |.var n=>by simp[sub,size,ah]|.aK c l=>by simp only[sub,size,wV l]
def wV:∀l,ah (aT (λ_=>j8) l)=ah l
 |[]=>rfl|t::l=>by simp only[aT,ah,AU t,wV l]
end
def oH t:size (In.dS t)=size t:=AU t
def yP:Whole j8:=⟨λe=>by have:=congrArg ByteArray.size e;revert this;decide,trivial⟩
structure Oth(x:Value):Prop where
 i:∀a y,x≠.iface a y
 n:∀n:Nat,1<=n->x≠Nv n
 p:∀q,x≠.pointer q
def bU.other(h:bU w P nb Γ)(hv:∀y d,Γ y=some d->∀n∈d.any,1<=n)(hb:w.cell? ⟨b,0,none⟩=some x)(hx:Oth x):bU w (λi=>P i/\i≠b) nb Γ:=by
 obtain⟨L,h1,h2,h3⟩:=h;refine⟨L,h1,h2,λk v hk=>?_⟩;obtain⟨d,e,ta,xa,sa,sc,rfl,⟨⟨x',q1,q2⟩,q4⟩,q3⟩:=h3 k v hk;refine⟨d,e,ta,xa,sa,sc,rfl,⟨⟨x',q1.not hb hx.i,q2⟩,q4⟩,?_⟩;obtain q3|⟨g,r1,r2,r3,r4⟩:=q3
 .exact qy q3
 .by_cases h0:d.any=[]
  .exact qy h0
  .refine qz ⟨g,r1,⟨r2,λeg=>?_⟩,r3,r4⟩;have hl:=List.length_pos_iff.2 h0;have r5:=r4 0 hl;rw[eg,hb]at r5;injection r5 with r5;exact hx.n _ (hv k d e _<|qg hl) r5
def ig{enc}{b'}{L:List (κ×Value)}(h:MG enc w b' L)(hb:w.cell? ⟨b,0,none⟩=some x):b'≠b:=λe=>by
 have:=h.bD 0;rw[e,hb]at this
 cases this
def WT.other{w w'}{c}{cnt}{u}{Γ}{b}{x}(h:WT w c cnt u Γ)(hn:b≠c.cb/\b≠c.eb)(hb:w.cell? ⟨b,0,none⟩=some x)(hx:Oth x)(f:Fr (λi=>i=b) w w'):WT w' c cnt u Γ:=by
 have⟨Lr,hr,_⟩:=id h.we.rs;have⟨Lm,hm,_⟩:=id h.we.ms;have⟨Ln,hnn,_⟩:=id h.e;have nr:=ig hr hb;have nm:=ig hm hb;have nn:=ig hnn hb;have⟨l1,l2,l3,l4,l5⟩:=h.we.l;have hz:=f.size;refine⟨⟨h.we.bx.fr f<|zv hn.2,h.we.ct.fr f<|zv hn.1,h.we.rs.same<|f.block _ h.we.rs.lt nr,(h.we.ms.not hb hx.i).move f.size (f.block _ h.we.ms.lt nm) (λi p z=>f.block i z p.2)<|λi p _=>p.1,h.we.d,l1,l2,l3,l4,ae⟩,?_,h.n,h.hu,h.top,h.dm⟩;refine(h.e.other ?_ hb hx).move f.size (f.block _ h.e.lt nn) (λi p z=>f.block i z p.2) (λi p _=>p.1);intro y d q n hq;exact(h.hu n<|(h.top.env y d q).use n<|(h.top.env y d q).sub n hq).1
end
section
open Un
@[simp] theorem aiE a0 a1 a2 a3 a4 a5 a6 w:(Instr.typeAssert (.iface 137<|.agg #[a0,a1,a2,a3,a4,a5,a6]) 129 137 true).run Tryz.prog w=.ok (.tuple #[(.agg #[a0,a1,a2,a3,a4,a5,a6]),.bool true]) w:=qkr
@[simp] theorem aiF a0 a1 a2 a3 a4 a5 a6 w:(Instr.typeAssert (.iface 144<|.agg #[a0,a1,a2,a3,a4,a5,a6]) 129 144 true).run Tryz.prog w=.ok (.tuple #[(.agg #[a0,a1,a2,a3,a4,a5,a6]),.bool true]) w:=qkr
@[simp] theorem aiG a0 a1 a2 a3 a4 a5 a6 w:(Instr.typeAssert (.iface 144<|.agg #[a0,a1,a2,a3,a4,a5,a6]) 129 137 true).run Tryz.prog w=.ok (.tuple #[(.agg #[Iv 0,Iv 0,Iv 0,Iv 0,.string ⟨#[]⟩,.slice none 0 0,.slice none 0 0]),.bool false]) w:=qkr
def metW_Makers a w:(method 641 124 (.pointer<|some a) "Makers").run Tryz.prog w=.ok (311,.pointer<|some a) w:=qkr
def metW_Let a w:(method 641 124 (.pointer<|some a) "Let").run Tryz.prog w=.ok (310,.pointer<|some a) w:=qkr
def metJ_Makers a w:(method 641 126 (.pointer<|some a) "Makers").run Tryz.prog w=.ok (375,.pointer<|some a) w:=qkr
def metJ_Let a w:(method 641 126 (.pointer<|some a) "Let").run Tryz.prog w=.ok (374,.pointer<|some a) w:=qkr
end
section
open Go.MapKept Un
structure JC where
 (eb cb rb mb lo fX:Nat)
 mks:jl
 nl:List BA
abbrev V0(c:JC)nb l:=#[.func (.func 47) #[] #[Pv c.cb],Mv c.rb,Mv c.mb,Mv nb,Nv l]
structure JE w c nb l cnt:Prop where
 bx:Bx w c.eb (V0 c nb l)
 ct:Bx w c.cb #[Nv cnt]
 rs:ur w c.rb
 ms:mS w (λi=>i≠c.cb/\i<c.fX) c.mb c.mks
 z:c.lo<=c.eb/\c.lo<=c.cb/\c.fX<=w.heap.size
section
variable {c:JC} {cnt:Nat}
def GL.rj{nx}{lv}(h:GL w ds str nx vr ly lv)(hn:n∈ds):∃p,w.cell? ⟨n,0,none⟩=some (.pointer p):=by
 have:=(h.nd n hn).cells.1
 cases e:nx n with
 |none=>rw[e]at this;exact⟨none,this⟩|some m=>rw[e]at this;exact⟨_,this⟩
def JE.AV(h:JE w c nb l cnt)(j:JS w g s):¬c.eb∈g.ds:=λq=>by
 have⟨p,hp⟩:=j.gl.rj q;have:=h.bx.c 0;rw[hp]at this;simp at this
def JE.AW(h:JE w c nb l cnt)(j:JS w g s):¬c.cb∈g.ds:=λq=>by
 have⟨p,hp⟩:=j.gl.rj q;have:=h.ct.c 0;rw[hp]at this;simp at this
def JE.ne(h:JE w c nb l cnt):c.eb≠c.cb/\c.rb≠c.cb/\c.rb≠c.eb/\c.mb≠c.cb/\c.mb≠c.eb:=by
 have⟨L,m1,_⟩:=h.rs;have⟨L',m2,_⟩:=h.ms;have a:=h.bx.c 0;have b:=h.ct.c 0;refine⟨λe=>?_,λe=>?_,λe=>?_,λe=>?_,λe=>?_⟩
 .grind
 .rw[<-e,m1.bD 0]at b;simp at b
 .rw[<-e,m1.bD 0]at a;simp at a
 .rw[<-e,m2.bD 0]at b;simp at b
 .rw[<-e,m2.bD 0]at a;simp at a
def JE.nI(h:JE w c nb l cnt)(j:JS w g s):¬c.rb∈g.ds/\¬c.mb∈g.ds:=by
 have⟨L,m1,_⟩:=h.rs;have⟨L',m2,_⟩:=h.ms;refine⟨λq=>?_,λq=>?_⟩
 .have⟨p,hp⟩:=j.gl.rj q;rw[m1.bD 0]at hp
  cases hp
 .have⟨p,hp⟩:=j.gl.rj q;rw[m2.bD 0]at hp
  cases hp
def dW.V5(h:dW w P t v)(hS:∀b,S b->∀a y,w.cell? ⟨b,0,none⟩≠some (.iface a y)):dW w (λi=>P i/\¬S i) t v:=by
 induction h with
 |var n=>exact .var n|aK c L sa sc vs hc aN hr ih=>
  refine .aK c L sa sc vs hc ?_ ih;obtain h0|⟨g,h1,h2,h3,h4⟩:=aN
  .exact qy h0
  .by_cases h0:L=[]
   .exact qy h0
   .refine qz ⟨g,h1,⟨h2,λe=>?_⟩,h3,h4⟩;have hl:=List.length_pos_iff.2 h0;have⟨a,y,r⟩:=(hr 0 hl).iface;exact hS g e a y (by rw[h4 0 hl,r])
def mS.V5{P S:Nat->Prop}{mb}{mk}(h:mS w P mb mk)(hS:∀b,S b->∀a y,w.cell? ⟨b,0,none⟩≠some (.iface a y)):mS w (λi=>P i/\¬S i) mb mk:=by
 obtain⟨L,h1,h2,h3⟩:=h;refine⟨L,h1,h2,λk v hk=>?_⟩;obtain⟨tk,m,e,sa,sc,ta,xa,rfl,q1,q2⟩:=h3 k v hk;refine⟨tk,m,e,sa,sc,ta,xa,rfl,?_,q2.V5 hS⟩;obtain q1|⟨g,vs,q3,q4,q5,q6⟩:=q1
 .exact qy q1
 .by_cases h0:tk=[]
  .exact qy h0
  .have hl:=List.length_pos_iff.2 h0;refine qz ⟨g,vs,q3,⟨q4,λe=>?_⟩,q5,λi hi=>⟨(q6 i hi).1,(q6 i hi).2.V5 hS⟩⟩;have⟨q7,q8⟩:=q6 0 hl;have⟨a,y,r⟩:=q8.iface;exact hS g e a y (by rw[q7,r])
abbrev jS(c:JC)(g:gC)b:=b=c.cb\/b=c.eb\/b∈g.ds
def JE.fr(h:JE w c nb l cnt)(j:JS w g s)(hf:Fr (jS c g) w w'){aE}(he:Bx w' c.eb (V0 c VX l'))(hc:Bx w' c.cb #[Nv aE]):JE w' c VX l' aE:=by
 have⟨n1,n2,n3,n4,n5⟩:=h.ne;have⟨n6,n7⟩:=h.nI j;refine⟨he,hc,h.rs.same<|hf.block _ h.rs.lt<|λq=>q.elim n2<|λq=>q.elim n3 n6,?_,⟨h.z.1,h.z.2.1,xg h.z.2.2 hf.size⟩⟩;refine(h.ms.V5 (S:=jS c g) ?_).move hf.size (hf.block _ h.ms.lt<|λq=>q.elim n4<|λq=>q.elim n5 n7) (λb p z=>hf.block b z p.2) (λb p _=>p.1);rintro b(rfl|rfl|q)a y e
 .have:=h.ct.c 0;rw[e]at this;simp at this
 .have:=h.bx.c 0;rw[e]at this;simp at this
 .have⟨p,hp⟩:=j.gl.rj q;rw[e]at hp
  cases hp
def JE.af(h:JE w c nb l cnt)(hb:Bq w w'):JE w' c nb l cnt:=⟨h.bx.below hb,h.ct.below hb,h.rs.same<|hb.block _ h.rs.lt,h.ms.move hb.size (hb.block _ h.ms.lt) (λb _ z=>hb.block b z)<|λ_ p _=>p,⟨h.z.1,h.z.2.1,xg h.z.2.2 hb.size⟩⟩
def Ld v l:Cq 81 #[Iv v,Iv l] w λe w'=>e=.returned (nA w.heap.size)/\w'=w.alloc (.cells #[.pointer none,Iv l,Iv v,.string ⟨#[]⟩,.slice none 0 0] 187):=by
 go_enter func81,ntmps81
 go_wp2
 go_ret;exact⟨rfl,rfl⟩
def GD b l a n k:Cq 82 #[.string b,Iv l,.slice a n k] w λe w'=>e=.returned (nA w.heap.size)/\w'=w.alloc (.cells #[.pointer none,Iv l,Iv 0,.string b,.slice a n k] 187):=by
 go_enter func82,ntmps82
 go_wp2
 go_ret;exact⟨rfl,rfl⟩
end
section
variable {c:JC} {cnt:Nat}
def pH(h:JE w c nb l cnt)(j:JS w g s)(hu:∀n,s.u n->us cnt n)(hc:cnt<=1000000):Cq 382 #[Pv c.eb] w (λe w'=>∃n,e=.returned (nA n)/\w.heap.size<=n/\JE w' c nb l (cnt+1)/\JS w' (g.add n none (cnt+1) (none,0) l<|.var<|cnt+1) ⟨s.k,λm=>s.u m\/m=cnt+1⟩/\Fr (λb=>b=c.cb) w w'):=by
 have f0:=h.bx.c 0;have f1:=h.bx.c 4;have⟨n1,_,_,_,_⟩:=h.ne;have dB:=h.AW j;have zc:=h.ct.z;have HE:=ai h;have HFR:∀W:World,W=w.drew->Cq 47 #[Pv c.cb] W λe w'=>e=Rv (Iv<|(cnt:Int)+1)/\∃_:JE w' c nb l (cnt+1),Fr (λb=>b=c.cb) w w'/\JS w' g s/\w'.heap.size=w.heap.size:=λW hW=>by
  subst hW;refine(oB cnt hc<|h.ct.kL).mono ?_;rintro e w'⟨rfl,rfl⟩;have F:Fr (λb=>b=c.cb) w (w.drew.setCell ⟨c.cb,0,none⟩<|Iv<|(cnt:Int)+1):=(zh (S:=λb=>b=c.cb) (xt _ w).drew).set (b:=c.cb) (qy rfl) 0 _;have B:Bx (w.drew.setCell ⟨c.cb,0,none⟩<|Iv<|(cnt:Int)+1) c.cb #[.int .i64 ((cnt+1:Nat):Int)]:=h.ct.kL.aP 0 _ _ rfl ag;have hF:Fr (jS c g) w (w.drew.setCell ⟨c.cb,0,none⟩<|Iv<|(cnt:Int)+1):=F.fX λb q=>qy q;have hG:GL (w.drew.setCell ⟨c.cb,0,none⟩<|Iv<|(cnt:Int)+1) g.ds g.str g.nx g.vr g.ly g.lv:=by
   refine j.gl.one (b:=c.cb) ⟨rfl,rfl,rfl,C9,λi hi=>xw _ _ _ _ hi⟩ dB<|λm hm c' l' gg hs hl hg e=>?_;have⟨ga,q1,q2,_⟩:=j.gl.row hm hs<|List.length_pos_iff.2 hl;rw[hg]at q1;injection q1 with q1;injection q1 with q1;subst q1;have:=h.ct.c 0;rw[<-e,q2]at this;simp at this
  exact⟨rfl,h.fr j hF (h.bx.fr F n1) B,F,⟨hG,j.nk,j.inj,j.can,j.lc,j.val,j.use,j.ok⟩,C9⟩
 go_enter func382,ntmps382
 go_wp2
 go_region_held3(λw'=>w'.cell? ⟨c.eb,0,none⟩=some (.func (.func 47) #[] #[Pv c.cb])/\w'.cell? ⟨c.eb,4,none⟩=some (Nv l)) (first|go_keep|(simp[*])) (first
  |(go_at_call 47;go_loud(refine(HFR _ rfl).mono ?_);rintro e w2⟨rfl,e2,F2,j2,z2⟩;have s0:w2.cell? ⟨c.eb,0,none⟩=some (.func (.func 47) #[] #[Pv c.cb]):=e2.bx.c 0;have s1:w2.cell? ⟨c.eb,4,none⟩=some (Nv l):=e2.bx.c 4;have E2:=ai e2;have Tu:=ai F2;have J2:=ai j2;have Z2:=ai z2;clear e2 F2 j2 z2)
  |(go_at_call 81;go_loud(refine(Ld _ _).mono ?_);rintro e w3⟨rfl,uw⟩;have k3:Bq w2 w3:=(by rw[uw];exact bw _);have B3:w3.heap[w2.heap.size]? =some (Cv #[.pointer none,Nv l,Iv<|(cnt:Int)+1,Sv ⟨#[]⟩,Lv none 0 0] 187 (0,0)):=(by rw[uw];exact(xy w2 _).1);have s2:w3.cell? ⟨c.eb,0,none⟩=some (.func (.func 47) #[] #[Pv c.cb]):=(E2.af k3).bx.c 0;have s3:w3.cell? ⟨c.eb,4,none⟩=some (Nv l):=(E2.af k3).bx.c 4;have K3:=ai k3;have B3':=ai B3;clear uw k3 B3))
 go_wp2
 go_ret;have k3:=uh K3;have hv:¬s.u (cnt+1):=λq=>by have:=hu _ q;rw[us]at this;omega
 exact⟨w2.heap.size,rfl,by rw[uh Z2];exact br _,(uh E2).af k3,(uh J2).var k3 (br _) hv<|by simpa using uh B3',(uh Tu).trans<|zh k3⟩
def Le{fn}{cn}(hk:fn=389/\cn=qJ\/fn=387/\cn=nO)(h:JE w c nb l cnt)(j:JS w g s){a}(ha:a∈g.ds/\∀x,Hd g.nx a x->g.lv x<=l)(hb:b∈g.ds/\∀x,Hd g.nx b x->g.lv x<=l):Cq fn #[Pv c.eb,nA a,nA b] w (λe w'=>∃n ar,e=.returned (nA n)/\w.heap.size<=n/\JE w' c nb l cnt/\JS w' (g.add n (some (cn,[a,b])) 0 ar l<|.aK cn [g.V a,g.V b]) s/\Bq w w'):=by
 have Fb:CN cn:=by obtain⟨-,rfl⟩|⟨-,rfl⟩:=hk;exact qy rfl;exact qz<|qy rfl
 have f1:w.cell? ⟨c.eb,4,none⟩=some (Nv l):=h.bx.c 4;have⟨k0,B0⟩:=ul w #[nA a,nA b] 116;have HM:=GD (w:=w.alloc<|Cv #[nA a,nA b] 116) (pn cn) (l:Int) (some ⟨w.heap.size,0,none⟩) 2 2;have K0:=ai k0;have HE:=ai h;have HJ:=ai j;clear h j k0;obtain⟨rfl,ec⟩|⟨rfl,ec⟩:=hk;all_goals
  first|(rw[ec,kT]at HM;go_enter func389,ntmps389)|(rw[ec,kU]at HM;go_enter func387,ntmps387)
  go_wp2_with fail;refine HM.mono ?_;rintro e w2⟨rfl,hw2⟩;have k2:Bq (w.alloc<|Cv #[nA a,nA b] 116) w2:=by rw[hw2];exact bw _
  have B2:w2.heap[w.heap.size+1]? =some (Cv #[.pointer none,Nv l,Iv 0,Sv<|pn cn,Lv (some ⟨w.heap.size,0,none⟩) 2 2] 187 (0,0)):=by
   rw[hw2];have:=(xy (w.alloc<|Cv #[nA a,nA b] 116)<|Cv #[.pointer none,Nv l,Iv 0,Sv<|pn cn,Lv (some ⟨w.heap.size,0,none⟩) 2 2] 187).1;simpa[ec,kT,kU]using this
  have R2:=B0.below k2;have k02:=K0.trans<|k2.mono K0.size;have HX:=ai<|q9 k02<|q9 B2 R2;clear HM hw2 k2 B2 R2 k02 B0
  go_wp2
  go_ret;have⟨k02,B2,R2⟩:=uh HX;refine⟨w.heap.size+1,(some ⟨w.heap.size,0,none⟩,2),rfl,xm _,HE.af k02,HJ.made (c:=cn) (ps:=[a,b]) (a:=(some ⟨w.heap.size,0,none⟩,2)) k02 (xm _) Fb ag (λp hp=>?_) (qz ⟨w.heap.size,rfl,br _,ae,R2.z,λi hi=>?_⟩) B2,k02⟩
  .obtain e|e:=List.mem_cons.1 hp
   .subst e;exact ha
   .simp at e;subst e;exact hb
  .have rS:i=0\/i=1:=Hv;rw[R2.c i];obtain rfl|rfl:=rS<;>rfl
end
end
section
open Un
abbrev aL:Nat:=9223372036854775807
def Nf(lv:Nat->Nat)L h:=lv h<=L\/lv h=aL
structure vE(str:ya)(nx:Nx)(ds:List Nat)(lv cC:Nat->Nat)n L(D:Nat->Prop):Prop where
 up:∀m,D m->m∈ds/\nx m=none/\L<lv m/\lv m≠aL/\cC m=aL
 no:∀m,¬D m->cC m=lv m
 hd:∀h,Hd nx n h->D h\/Nf lv L h
 cl:∀a,D a->∀c l,str a=some (c,l)->∀p,p∈l->∀h,Hd nx p h->D h\/Nf lv L h
 re:∀R:Nat->Prop,(∀h,Hd nx n h->R h)->(∀a c l p h,R a->str a=some (c,l)->p∈l->Hd nx p h->R h)->∀a,D a->R a
structure xQ(str:ya)(nx:Nx)(ds:List Nat)(lv lV:Nat->Nat)h(l:List Nat)L(D:Nat->Prop):Prop where
 own:D h
 up:∀m,D m->m∈ds/\nx m=none/\L<lv m/\lv m≠aL/\lV m=aL
 no:∀m,¬D m->lV m=lv m
 pt:∀p,p∈l->∀k,Hd nx p k->D k\/Nf lv L k
 cl:∀a,D a->a≠h->∀c l,str a=some (c,l)->∀p,p∈l->∀k,Hd nx p k->D k\/Nf lv L k
 re:∀R:Nat->Prop,R h->(∀a c l p k,R a->str a=some (c,l)->p∈l->Hd nx p k->R k)->∀a,D a->R a
section
variable {nx:Nx} {lv lV:Nat->Nat} {l:List Nat} {D:Nat->Prop}
def vE.nil(hh:Hd nx n h)(hl:Nf lv L h):vE str nx ds lv lv n L (λ_=>False):=
 ⟨λ_ q=>q.elim,λ_ _=>rfl,λk q=>qz (by rw[q.one hh];exact hl),λ_ q=>q.elim,λ_ _ _ _ q=>q.elim⟩
def xQ.start(hd:h∈ds)(hn:nx h=none)(hl:L<lv h)(ha:lv h≠aL):xQ str nx ds lv (xn lv h aL) h [] L (λm=>m=h):=
 ⟨rfl,λm q=>by subst q;exact⟨hd,hn,hl,ha,QG⟩,λm q=>by simp[xn,q],λp q=>by simp at q,λa q r=>absurd q r,λR q _ a r=>by subst r;exact q⟩
def xQ.step{p}{c}{l0}(hs:str h=some (c,l0))(hp:p∈l0)(k:xQ str nx ds lv lV h l L D)(q:vE str nx ds lV cC p L E):xQ str nx ds lv cC h (l++[p]) L (λm=>D m\/E m):=by
 have dis:∀m,E m->¬D m:=λm e d=>(q.up m e).2.2.2.1 (k.up m d).2.2.2.2;have low:∀x,Nf lV L x->D x\/Nf lv L x:=λx hx=>by
  by_cases d:D x
  .exact qy d
  .exact qz (by unfold Nf at*;rw[<-k.no x d];exact hx)
 refine⟨qy k.own,λm e=>?_,λm e=>?_,λp' lU x hx=>?_,λa e ne c' l' lf p' lU x hx=>?_,λR r1 r2 a e=>?_⟩
 .by_cases d:E m
  .have⟨u1,u2,u3,u4,u5⟩:=q.up m d;rw[k.no m<|dis m d]at u3 u4;exact⟨u1,u2,u3,u4,u5⟩
  .have⟨u1,u2,u3,u4,u5⟩:=k.up m<|e.resolve_right d;exact⟨u1,u2,u3,u4,(q.no m d).trans u5⟩
 .rw[q.no m<|λd=>e<|qz d,k.no m<|λd=>e<|qy d]
 .obtain lU|lU:=List.mem_append.1 lU
  .exact(k.pt p' lU x hx).imp qy id
  .simp at lU;subst lU;obtain r|r:=q.hd x hx
   .grind
   .grind
 .obtain d|d:=e
  .exact(k.cl a d ne c' l' lf p' lU x hx).imp qy id
  .obtain r|r:=q.cl a d c' l' lf p' lU x hx
   .grind
   .grind
 .obtain d|d:=e
  .exact k.re R r1 r2 a d
  .exact q.re R (λx hx=>r2 h c l0 p x r1 hs hp hx) r2 a d
def xQ.done{c}{l0}(hh:Hd nx n h)(hs:str h=some (c,l0))(k:xQ str nx ds lv lV h l0 L D):vE str nx ds lv lV n L D:=by
 refine⟨k.up,k.no,λx hx=>qy (by rw[hx.one hh];exact k.own),λa d c' l' lf p hp x hx=>?_,λR r1 r2 a d=>k.re R (r1 h hh) r2 a d⟩;by_cases e:a=h
 .subst e;rw[hs]at lf;injection lf with lf;injection lf with _ e2;subst e2;exact k.pt p hp x hx
 .exact k.cl a d e c' l' lf p hp x hx
def xQ.abc(hh:Hd nx n h)(hs:str h=none)(k:xQ str nx ds lv lV h [] L D):vE str nx ds lv lV n L D:=by
 refine⟨k.up,k.no,λx hx=>qy (by rw[hx.one hh];exact k.own),λa d c' l' lf p hp x hx=>?_,λR r1 r2 a d=>k.re R (r1 h hh) r2 a d⟩;by_cases e:a=h
 .grind
 .exact k.cl a d e c' l' lf p hp x hx
end
def fp(ds:List Nat)(lv:Nat->Nat)L:=ds.countP λm=>decide (L<lv m/\lv m≠aL)
def afv{lv}(h:∀m,L<cC m/\cC m≠aL->L<lv m/\lv m≠aL):fp ds cC L<=fp ds lv L:=List.countP_mono_left λm _ q=>by simpa using h m (by simpa using q)
def afw{lv cC:Nat->Nat}{L x:Nat}(h:∀m,L<cC m/\cC m≠aL->L<lv m/\lv m≠aL)(hx:L<lv x/\lv x≠aL)(EK:¬(L<cC x/\cC x≠aL)):∀{ds:List Nat},x∈ds->fp ds cC L<fp ds lv L
 |a::ds,hm=>by
  unfold fp;rw[qv,qv];have hle:ds.countP (λm=>decide (L<cC m/\cC m≠aL))<=ds.countP (λm=>decide (L<lv m/\lv m≠aL)):=afv h;by_cases e:a=x
  .subst e;rw[if_pos<|decide_eq_true hx,if_neg<|by simpa using EK];omega
  .have:=afw h hx EK (ds:=ds) (by obtain q|q:=List.mem_cons.1 hm;exact absurd q.symm e;exact q);unfold fp at this;by_cases q:L<cC a/\cC a≠aL
   .rw[if_pos<|decide_eq_true q,if_pos<|decide_eq_true<|h a q];omega
   .rw[if_neg<|by simpa using q];split<;>omega
def vE.eqv{nx}{lv0 lv}{D:Nat->Prop}(g:GL w ds str nx vr ly lv0)(e:iU str nx bi)(q:vE str bi ds lv cC n L D):vE str nx ds lv cC n L D:=
 ⟨λm d=>⟨(q.up m d).1,(e.Bt m).1 (q.up m d).2.1,(q.up m d).2.2⟩,q.no,λh k=>q.hd h<|e.lj _ _ k,λa d c l hs p hp h k=>q.cl a d c l hs p hp h<|e.lj _ _ k,λR r1 r2=>q.re R (λh k=>r1 h<|e.back g k)<|λa c l p h ra hs hp k=>r2 a c l p h ra hs hp<|e.back g k⟩
def Lf ds str nx vr ly lv n L w(e:Ending)w':=
 e=.returned (.tuple #[])/\∃bi cC D,GL w' ds str bi vr ly cC/\Fr (λb=>b∈ds) w w'/\iU str nx bi/\w'.heap.size=w.heap.size/\vE str nx ds lv cC n L D
def ahQ ds str vr ly k:=∀(w:World)(nx:Nx)(lv:Nat->Nat)(n L:Nat),GL w ds str nx vr ly lv->n∈ds->fp ds lv L<=k->Cq 309 #[nA n,Nv L] w (Lf ds str nx vr ly lv n L w)
def ahR ds str nx vr ly lv h L(l:List Nat)w gk v wr:=
 ∃j gV lV D,Hid (gk=l.length-j)/\j<=l.length/\v=Nv j/\GL wr ds str gV vr ly lV/\Fr (λb=>b∈ds) w wr/\iU str nx gV/\wr.heap.size=w.heap.size/\xQ str nx ds lv lV h (l.take j) L D
section
variable {k:Nat}
def V7(IH:∀i,i<k->ahQ ds str vr ly i):ahQ ds str vr ly k:=by
 intro w nx lv n L Hc hn hk;have⟨h,hh⟩:=Hc.hd n hn;have hm:=Hc.bN hn hh;have HC:=rW Hc hn hh;go_enter func309,ntmps309;go_wp2_with fail;refine HC.mono ?_;rintro e w1⟨rfl,eP,G1,F1,E1,z1⟩;clear HC;have⟨c1,f1⟩:=(G1.nd h hm).lvl;have LY:nx h=none:=hh.head;by_cases hle:lv h<=L
 .have hd:(lv h:Int)<=(L:Int):=ae;have HG:=ai G1;clear G1
  go_wp2
  go_end0;exact⟨rfl,eP,lv,_,uh HG,F1,E1,z1,vE.nil hh<|qy hle⟩
 .have hd:decide ((lv h:Int)<=(L:Int))=false:=bP;by_cases han:lv h=aL
  .have he:((lv h:Int)==(9223372036854775807:Int))=true:=by rw[han];rfl
   have HAN:=ai han;have HG:=ai G1;clear G1 han
   go_wp2
   go_end0;exact⟨rfl,eP,lv,_,uh HG,F1,E1,z1,vE.nil hh<|qz<|uh HAN⟩
  have he:((lv h:Int)==(9223372036854775807:Int))=false:=by simp;intro q;exact han (by show lv h=9223372036854775807;omega)
  have G2:=G1.VR hm aL;have⟨_,_,_,_,c4⟩:=(G1.nd h hm).cells;have F2:Hid (Fr (λb=>b∈ds) w<|w1.setCell ⟨h,1,none⟩<|Iv 9223372036854775807):=ai<|F1.set (qy hm) 1 _;have L9:=ai G2;have Z1:=z1;have E1':=ai E1;have J0:Hid (xQ str nx ds lv (xn lv h aL) h [] L<|λm=>m=h):=ai<|xQ.start hm LY ae han;clear G1 G2 F1 z1 E1
  cases hs:str h with
  |none=>
   have c4':w1.cell? ⟨h,4,none⟩=some (.slice (ly h).1 0 (ly h).2):=by rw[c4,hs];rfl
   clear c4
   go_wp2
   go_loopg[29] 0 (λgk v wr=>v=Iv 0/\wr=w1.setCell ⟨h,1,none⟩ (Iv 9223372036854775807))
   case atStart=>exact⟨rfl,rfl⟩
   case round=>
    obtain⟨rfl,rfl⟩:=hrel
    go_wp2
    go_end0;exact⟨rfl,eP,_,_,uh L9,uh F2,uh E1',qAz,(uh J0).abc hh hs⟩
  |some q=>
   obtain⟨c,l⟩:=q;have c4':w1.cell? ⟨h,4,none⟩=some (.slice (ly h).1 l.length (ly h).2):=by rw[c4,hs];rfl
   have⟨hl1,JQ⟩:=Hc.part hm hs;have hdp:fp ds (xn lv h aL) L<fp ds lv L:=afw (x:=h) (λm q=>by by_cases e:m=h;subst e;exact⟨ae,han⟩;simpa[xn,e]using q) ⟨ae,han⟩ QG hm;clear c4;by_cases Cn:l=[]
   .subst Cn;have alx:=c4';clear c4'
    go_wp2
    go_loopg[29] 0 (λgk v wr=>v=Iv 0/\wr=w1.setCell ⟨h,1,none⟩ (Iv 9223372036854775807))
    case atStart=>exact⟨rfl,rfl⟩
    case round=>
     obtain⟨rfl,rfl⟩:=hrel
     go_wp2
     go_end0;exact⟨rfl,eP,_,_,uh L9,uh F2,uh E1',qAz,(uh J0).done hh hs⟩
   have⟨ga,EGA,_,_⟩:=Hc.row hm hs<|List.length_pos_iff.2 Cn;rw[EGA]at c4'
   go_wp2
   go_loopg[29] l.length (λgk v wr=>ahR ds str nx vr ly lv h L l w gk v wr)
   case atStart=>exact⟨0,eP,_,_,ai ag,xj _,rfl,uh L9,uh F2,uh E1',qAz,by simpa using uh J0⟩
   case round=>
    clear L9 F2 E1' J0 c4' c1 f1;obtain⟨j,gV,lV,D,dv,hj,rfl,Gj,FJ,EJ,ZJ,JJ⟩:=hrel;by_cases bq:j<l.length
    .have bz:(j:Int)<(l.length:Int):=ae;have Ij:(0:Int)<=(j:Int):=ae;have⟨ga',e1,cg,_⟩:=Gj.row hm hs bq;have e2:=e1.symm.trans EGA;injection e2 with e2;injection e2 with e2;subst e2
     have HCJ:=IH (fp ds (xn lv h aL) L) ae wr gV lV l[j] L Gj (JQ _<|qg bq) (afv λm q=>by
      by_cases d:D m
      .exact absurd (JJ.up m d).2.2.2.2 q.2
      .have e:m≠h:=λe=>d<|e▸JJ.own;simp only[xn,e,if_false]
       rw[<-JJ.no m d];exact q)
     clear e1;clear Gj;go_wp2_with fail;refine HCJ.mono ?_;rintro e w2⟨rfl,ri,mI,D2,G2,F2,E2,z2,q2⟩;have HG:=ai G2;have HF:=FJ.trans F2;have HE:=EJ.trans E2;have HZ:=z2.trans ZJ;have HJ2:=JJ.step hs (qg bq)<|q2.eqv Hc EJ
     go_wp2
     go_roundg(l.length-(j+1))
     case measure=>rw[uh dv];omega
     case rel=>exact⟨j+1,ri,mI,_,ai rfl,xi bq,jT,uh HG,HF,HE,HZ,by rw[qe bq];exact HJ2⟩
    .have bz:decide ((j:Int)<(l.length:Int))=false:=bP;have ej:j=l.length:=ae;subst ej;rw[qm]at JJ;have HX:=show Lf ds str nx vr ly lv n L w (Rv<|.tuple #[]) wr from⟨rfl,gV,lV,D,Gj,FJ,EJ,ZJ,JJ.done hh hs⟩
     go_wp2
     go_end0;exact HX
def ahS:∀k,ahQ ds str vr ly k:=λk=>Nat.strongRecOn k λk ih=>V7 ih
end
end
section
open Go.MapKept Un
structure OR l B g(s:jc)cnt(ρ:jh)g'(s':jc)(aE:Nat)(d_:jh):Prop where
 st:iV l g s g' s'
 hd:∀m,m∈g.ds->∀x,Hd g'.nx m x↔Hd g.nx m x
 kk:s'.k=s.k
 ext:∀v n,ρ v=some n->d_ v=some n
 cc:cnt<=aE
 uu:∀m,s'.u m->s.u m\/(cnt<m/\m<=aE)
 nw:∀v n,ρ v=none->d_ v=some n->¬s.u n
 on:∀v v' n,ρ v=none->d_ v=some n->d_ v'=some n->v=v'
 usd:∀n,s'.u n↔s.u n\/∃v,ρ v=none/\d_ v=some n
 eR:∀m,m∈g.ds->g'.lv m=g.lv m/\g'.V m=g.V m
 new:∀m,m∈g'.ds->(m∈g.ds/\g'.ly m=g.ly m/\g'.str m=g.str m)\/(B<=m/\∀gg,(g'.ly m).1=some ⟨gg,0,none⟩->B<=gg)
 nl:∀m,m∈g'.ds->¬m∈g.ds->g'.lv m<=l
section
variable {cnt cN:Nat} {ol:jh}
def OR.refl(h:JS w g s)l B cnt(ρ:jh):OR l B g s cnt ρ g s cnt ρ:=⟨iV.refl h l,λ_ _ _=>Iff.rfl,rfl,λ_ _ q=>q,br _,λ_ q=>qy q,(λv n q r=>qAw),(λv v' n q r=>qAw),λn=>⟨qy,λq=>q.elim id λ⟨v,q,r⟩=>qAw⟩,λ_ _=>⟨rfl,rfl⟩,λm hm=>qy ⟨hm,rfl,rfl⟩,λm hm q=>absurd hm q⟩
def OR.trans(h:JS w g s)(h1:JS w1 g1 s1)(h2:JS w2 g2 s2)(a:OR l B g s cnt ρ g1 s1 al bJ)(b:OR l B' g1 s1 al bJ g2 s2 cN ol)(hB:B<=B'):OR l B g s cnt ρ g2 s2 cN ol where
 st:=iV.trans h h1 h2 a.st b.st
 hd m hm x:=(b.hd m (a.st.eR m hm).1 x).trans<|a.hd m hm x
 kk:=b.kk.trans a.kk
 ext v n q:=b.ext v n<|a.ext v n q
 cc:=xg a.cc b.cc
 uu m q:=by
  have:=a.cc;have:=b.cc;obtain q|q:=b.uu m q
  .exact(a.uu m q).imp id λr=>ae
  .omega
 nw v n h0 h2:=by
  cases e:bJ v with
  |none=>exact λq=>b.nw v n e h2 ((a.usd n).2<|qy q)|some n'=>
   have:=b.ext v n' e;rw[h2]at this;injection this with this;subst this;exact a.nw v _ h0 e
 on v v' n h0 h2 Ek:=by
  cases e:bJ v with
  |none=>exact b.on v v' n e h2 Ek|some n'=>
   have:=b.ext v n' e;rw[h2]at this;injection this with this;subst this
   cases e':bJ v' with
   |none=>exact(b.on v' v n e' Ek h2).symm|some n''=>
    have:=b.ext v' n'' e';rw[Ek]at this;injection this with this;subst this;exact a.on v v' _ h0 e e'
 usd n:=by
  rw[b.usd n,a.usd n];constructor
  .rintro((q|⟨v,q,r⟩)|⟨v,q,r⟩)
   .exact qy q
   .exact qz ⟨v,q,b.ext v n r⟩
   .refine qz ⟨v,?_,r⟩
    cases e:ρ v with
    |none=>rfl|some n'=>rw[a.ext v n' e]at q;cases q
  .rintro(q|⟨v,q,r⟩)
   .grind
   .cases e:bJ v with
    |none=>grind|some n'=>
     have:=b.ext v n' e;rw[r]at this;injection this with this;subst this;exact qy<|qz ⟨v,q,e⟩
 eR m hm:=⟨(b.eR m (a.st.eR m hm).1).1.trans (a.eR m hm).1,(b.eR m (a.st.eR m hm).1).2.trans (a.eR m hm).2⟩
 new m hm:=by
  obtain⟨q1,q2,q3⟩|⟨q1,q2⟩:=b.new m hm
  .obtain⟨r1,r2,r3⟩|⟨r1,r2⟩:=a.new m q1
   .grind
   .grind
  .grind
 nl m hm q:=by
  by_cases q1:m∈g1.ds
  .rw[(b.eR m q1).1];exact a.nl m q1 q
  .exact b.nl m hm q1
end
section
variable {c:JC} {cnt:Nat}
def OR.used(a:OR l B g s cnt ρ g1 s1 al bJ)(h:∀n,s.u n->us cnt n):∀n,s1.u n->us al n:=λn q=>by
 have:=a.cc;obtain q|q:=a.uu n q
 .have:=h n q;rw[us]at this⊢;omega
 .rw[us];omega
def OR.V8(a:OR l B' g s cnt ρ g1 s1 al bJ)(h:B<=B'):OR l B g s cnt ρ g1 s1 al bJ:={a with new:=λm hm=>(a.new m hm).imp id λq=>⟨ae,λgg e=>by have:=q.2 gg e;omega⟩}
def JS.one(h:JS w g s)(o:One b w w')(h1:¬b∈g.ds)(h4:∀m∈g.ds,∀c l gg,g.str m=some (c,l)->l≠[]->(g.ly m).1=some ⟨gg,0,none⟩->gg≠b):JS w' g s:=⟨h.gl.one o h1 h4,h.nk,h.inj,h.can,h.lc,h.val,h.use,h.ok⟩
def JE.one(h:JE w c nb l cnt)(o:One b w w')(h1:c.fX<=b)(h2:c.eb<b)(h3:c.cb<b)(h4:c.rb<b)(h5:c.mb<b):JE w' c nb l cnt:=
 ⟨h.bx.same (xf o.size.symm)<|o.block c.eb ae,h.ct.same (xf o.size.symm)<|o.block c.cb ae,h.rs.same<|o.block _ ae,h.ms.move (xf o.size.symm) (o.block _ ae) (λb' p _=>o.block _ (by have:=p.2;omega))<|λ_ p _=>p,⟨h.z.1,h.z.2.1,by rw[o.size];exact h.z.2.2⟩⟩
def JS.ahT(h:JS w g s)(hm:m∈g.ds){gg}(hs:g.str m=some (k,ps))(hl:ps≠[])(hg:(g.ly m).1=some ⟨gg,0,none⟩):gg<w.heap.size:=by
 have⟨ga,q1,q2,_⟩:=h.gl.row hm hs<|List.length_pos_iff.2 hl;rw[hg]at q1;injection q1 with q1;injection q1 with q1;subst q1;exact jP q2
def SC{p:Prop}(h:p:=by
 exact qy ⟨(List.mem_cons.1 hm).resolve_left e,by simp[xn,e],by simp[xn,e]⟩):p:=h
def OR.add(h:JS w g s){n:Nat}(hn:B<=n)(nd:¬n∈g.ds){q:BA×List Nat}{a:Option Addr×Nat}{T:Ty}(ha:∀gg,a.1=some ⟨gg,0,none⟩->B<=gg):OR l B g s cnt ρ (g.add n (some q) 0 a l T) s cnt ρ where
 st:=iV.add h nd rfl (λe=>by cases e)
 hd _ _ _:=Iff.rfl
 kk:=rfl
 ext _ _ q:=q
 cc:=br _
 uu _ q:=qy q
 nw v n q r:=qAw
 on v v' n q r:=qAw
 usd n:=⟨qy,λq=>q.elim id λ⟨v,q,r⟩=>qAw⟩
 eR m hm:=by
  have e:m≠n:=λe=>nd<|e▸hm;simp[xn,e]
 new m hm:=by
  by_cases e:m=n
  .subst e;exact qz ⟨hn,λgg q=>ha gg<|by simpa[xn]using q⟩
  .exact SC
 nl m hm q:=by
  rw[(List.mem_cons.1 hm).resolve_right q];simp[xn]
end
structure OKs(c:JC)l Kb(Tb:Nat->Prop)(K:World->gC->jc->Nat->jh->Prop):Prop where
 af:∀w w' g s cnt ρ,K w g s cnt ρ->Bq w w'->K w' g s cnt ρ
 one:∀w w' g s cnt ρ b,K w g s cnt ρ->One b w w'->Kb<=b->K w' g s cnt ρ
 add:∀w g s cnt ρ n q v a T,K w g s cnt ρ->¬n∈g.ds->K w (g.add n (some q) v a l T) s cnt ρ
 tb:∀b,Tb b->b<Kb
def Lg c nb l(Tb:Nat->Prop)(K:World->gC->jc->Nat->jh->Prop)g(s:jc)cnt(ρ:jh)T w(e:Ending)w':=
 ∃n g' s' aE d_,e=.returned (nA n)/\JE w' c nb l aE/\JS w' g' s'/\K w' g' s' aE d_/\OR l w.heap.size g s cnt ρ g' s' aE d_/\n∈g'.ds/\g'.V n=sub s.k (sub (ja d_) T)/\(∀x,Hd g'.nx n x->g'.lv x<=l)/\(∀v,(aA v T->d_ v≠none)/\(¬aA v T->d_ v=ρ v))/\aE<=cnt+size T/\Fr (λb=>b=c.cb\/Tb b) w w'
def OfJ c nb l Kb Tb(K:World->gC->jc->Nat->jh->Prop)F(A:Nat->Prop)T:=∀(w:World)(g:gC)(s:jc)(cnt:Nat)(ρ:jh)(Q:Nat->Prop)(v:Value),JE w c nb l cnt->JS w g s->(∀n,s.u n->us cnt n)->K w g s cnt ρ->Kb<=w.heap.size->dW w Q T v->(∀b,Q b->b≠c.cb/\¬Tb b)->size T<=1000->(∀n,aA n T->A n)->cnt+size T<=900000->Cq 55 #[v,Nv l,F] w (Lg c nb l Tb K g s cnt ρ T w)
def akd c nb l(Tb:Nat->Prop)(K:World->gC->jc->Nat->jh->Prop)g(s:jc)cnt(ρ:jh)k(L:List Ty)sa sc w gk v wr:=
 ∃(j:Nat)(C:Array Value)(g':gC)(s':jc)(aE:Nat)(d_:jh)(ps:List Nat),Hid (gk=L.length-j)/\j<=L.length/\v=Nv j/\JE wr c nb l aE/\JS wr g' s'/\K wr g' s' aE d_/\OR l (w.heap.size+2) g s cnt ρ g' s' aE d_/\Fr (λb=>b=c.cb\/Tb b) w wr/\Bx wr w.heap.size #[.string<|pn k,.slice sa L.length sc]/\Bx wr (w.heap.size+1) C/\Hid (C.size=L.length)/\
  Hid (ps.length=j/\(∀m,m∈ps->m∈g'.ds/\∀x,Hd g'.nx m x->g'.lv x<=l)/\ps.map g'.V=(L.take j).map (λt=>sub s.k<|sub (ja d_) t)/\(∀i(h:i<ps.length),C[i]? =some (nA ps[i]))/\(∀v,((∃t,t∈L.take j/\aA v t)->d_ v≠none)/\((∀t,t∈L.take j->¬aA v t)->d_ v=ρ v))/\aE<=cnt+ah (L.take j))
def vF:∀a b:List Ty,ah (a++b)=ah a+ah b
 |[],b=>by simp[ah]|t::a,b=>by simp only[List.cons_append,ah,vF a b];omega
def AX L(h:j<L.length):ah (L.take<|j+1)=ah (L.take j)+size L[j]/\ah (L.take<|j+1)<=ah L:=by
 have e:ah (L.take<|j+1)=ah (L.take j)+size L[j]:=by rw[qe h,vF];simp[ah]
 refine⟨e,?_⟩;have:ah (L.take<|j+1)+ah (L.drop<|j+1)=ah L:=by rw[<-vF,qp]
 omega
section
variable {c:JC} {Tb:Nat->Prop} {K:World->gC->jc->Nat->jh->Prop} {F:Value} {A:Nat->Prop}
def aem{d_}(hc:∀v,aA v t->ρ v≠none)(he:∀v n,ρ v=some n->d_ v=some n):sub (ja ρ) t=sub (ja d_) t:=sub_congr t λv o=>by
 unfold ja
 cases e:ρ v with
 |none=>exact absurd e (hc v o)|some n=>rw[he v n e]
def SF{p:Prop}(h:p:=by
 refine js2.one oc (λq=>?_)<|λy hy c' l' gg e1 e2 e3 e4=>?_
 .obtain⟨q,_⟩|⟨q,_⟩:=or3.new _ q
  .have:=js.lt q;omega
  .omega
 .obtain⟨q1,q2,q3⟩|⟨q1,q2⟩:=or3.new y hy
  .have:=js.ahT q1 (q3▸e1) e2<|q2▸e3;omega
  .have:=q2 gg e3;omega):p:=h
def SG{p:Prop}(h:p:=by
 intro y hy;obtain q|q:=List.mem_append.1 hy
 .obtain⟨r1,r2⟩:=x2 y q;refine⟨(Mg.st.eR y r1).1,λx k=>?_⟩;have k:=(Mg.hd y r1 x).1 k;rw[(Mg.eR x<|lW.gl.bN r1 k).1];exact r2 x k
 .simp at q;subst q;exact⟨hm,yE⟩):p:=h
def SH{p:Prop}(h:p:=by
 intro i hi;by_cases e:i<j
 .rw[Array.getElem?_setIfInBounds_ne ae,x4 i ae,List.getElem_append_left ae]
 .have e:i=j:=Hv;subst e;rw[List.getElem_append_right ae]
  simp[wH,x1]):p:=h
def SI{p:Prop}(h:p:=by
 cases e:bJ v with
 |none=>exact absurd e this|some n=>rw[Mg.ext v n e];simp):p:=h
def abz(hF:F=.nilFunc\/∃fn cap,F=.func fn #[] cap)(hK:OKs c l Kb Tb K)k L(IH:∀i(h:i<L.length),OfJ c nb l Kb Tb K F A L[i]):OfJ c nb l Kb Tb K F A (.aK k L):=by
 intro w g s cnt ρ Q v je js HU hk0 hkb hv hQ hs HA amP
 cases hv with
 |aK _ _ sa sc vs Fb aN hr=>
 have hL:L.length<=1001:=by have:=DK L;simp[size]at hs;omega
 have fW:ah L<size (.aK k L):=by simp only[size];omega
 have⟨i0,yi,oh,m7,i_⟩:=info_parts DJ;have WZ:=jZ (by_:=8) wQ yi oh rfl m7 i_ aH L.length hL;have zc:=je.ct.z;have cz:Bq w ((w.alloc<|Cv #[Sv<|pn k,Lv sa L.length sc] 169).alloc<|Cv (Array.replicate L.length<|.pointer none) 116):=(bw _).alloc ag _;have ST:akd c nb l Tb K g s cnt ρ k L sa sc w L.length (Iv 0) ((w.alloc<|Cv #[Sv<|pn k,Lv sa L.length sc] 169).alloc<|Cv (Array.replicate L.length<|.pointer none) 116):=⟨0,Array.replicate L.length<|.pointer none,g,s,cnt,ρ,[],ai ag,Nat.zero_le _,rfl,je.af cz,js.af cz,hK.af _ _ _ _ _ _ hk0 cz,OR.refl js _ _ _ _,Fr.of cz,(Bx.new w _ _).alloc _,by have:=Bx.new (w.alloc<|Cv #[Sv<|pn k,Lv sa L.length sc] 169) (Array.replicate L.length<|.pointer none) 116;simpa using this,ai ag,ai ⟨rfl,ag,ag,λi hi=>by simp at hi,λv=>⟨ag,λ_=>rfl⟩,by simp[ah]⟩⟩;have HJ:=ai js;have HQ:=ai hQ;have HZ:=And.intro je.z.2.2<|And.intro je.bx.z<|And.intro je.ct.z<|And.intro je.rs.lt je.ms.lt;go_enter func55,ntmps55
 go_wp2
 go_loopg[29] L.length (λgk v wr=>akd c nb l Tb K g s cnt ρ k L sa sc w gk v wr)
 case atStart=>exact ST
 case round=>
  obtain⟨j,C,g1,s1,al,bJ,ps,dv,hj,rfl,DO,lW,k1,sr,F1,HB0,B1,hC,hT⟩:=hrel;have zw:=F1.size;have zb:=B1.z;by_cases bq:j<L.length
  .have hd:(j:Int)<(L.length:Int):=ae;obtain⟨gg,rfl,hg,lh,b8⟩:∃g,sa=some ⟨g,0,none⟩/\Q g/\g<w.heap.size/\∀i,i<L.length->w.cell? ⟨g,i,none⟩=some (vs i):=by
    obtain h0|h0:=aN
    .subst h0;simp at bq
    .exact h0
   have hQ:=uh HQ;have cg:wr.cell? ⟨gg,j,none⟩=some (vs j):=by
    rw[xo (a:=⟨gg,j,none⟩) (w:=w)<|F1.block gg lh<|λq=>q.elim (hQ gg hg).1 (hQ gg hg).2];exact b8 j bq
   have PJ:=(hr j bq).fr F1<|λb p _ q=>q.elim (hQ b p).1 (hQ b p).2;have⟨tv,xv,hv⟩:=PJ.iface;have⟨x1,x2,x3,x4,x5,x6⟩:=uh hT;have⟨y1,y2⟩:=AX L bq;have HC:=IH j bq wr g1 s1 al bJ Q (vs j) DO lW (sr.used HU) k1 ae PJ hQ ae (λn o=>HA n (by simp only[aA];exact(mH _ _).2 ⟨_,qg bq,o⟩)) ae;rw[hv]at cg HC;have HJ1:=ai lW;have HO1:=ai sr;have Bv:=ai F1;have eN:=ai B1;go_wp2_with fail;refine HC.mono ?_;rintro e w1⟨m,g2,s2,cN,ol,rfl,je2,js2,k2,Mg,hm,hV,yE,GF,AY,F2⟩;have nmr:∀b,w.heap.size<=b->¬(b=c.cb\/Tb b):=λb hb q=>q.elim (λq=>ae) (λq=>by have:=hK.tb b q;omega);have B2:=eN.fr F2<|nmr _ ae;have B02:=HB0.fr F2<|nmr _ ae;have wH:j<C.size:=qBh;have cj:=(B2.c j).trans<|zo wH;have fj:=B2.f j;have B3:=B2.aP j (nA m) (C.setIfInBounds j<|nA m) rfl wH;have B03:=B02.bV (b2:=w.heap.size+1) ae j<|nA m;have Ig:=HO1.trans HJ HJ1 js2 Mg ae;have HX:=q9 je2<|q9 js2<|q9 k2<|q9 Mg<|q9 hm<|q9 hV<|q9 yE<|q9 GF AY;have Bi:=Bv.trans F2;have z2:=F2.size
   go_wp2
   go_roundg(L.length-(j+1))
   case measure=>rw[uh dv];omega
   case rel=>
    have⟨x1,x2,x3,x4,x5,x6⟩:=uh hT;obtain⟨je2,js2,k2,Mg,hm,hV,yE,GF,AY⟩:=HX;have or3:=Ig;have lW:=uh HJ1;have js:=uh HJ;have oc:=One.cell w1 (w.heap.size+1) j<|nA m;obtain⟨u1,u2,u3,u4,u5⟩:=HZ;refine⟨j+1,C.setIfInBounds j<|nA m,g2,s2,cN,ol,ps++[m],ai rfl,ae,jT,je2.one oc ae ae ae ae ae,?_,hK.one _ _ _ _ _ _ _ k2 oc ae,or3,Bi.set (qz ae) j _,B03,B3,ai (by simp;exact hC),ai ⟨by simp[x1],?_,?_,?_,?_,ae⟩⟩
    .exact SF
    .exact SG
    .rw[ql,qe bq,ql];have e1:=eC λp hp=>(Mg.eR p (x2 p hp).1).2;have e2:(L.take j).map (λt=>sub s.k<|sub (ja bJ) t)=(L.take j).map (λt=>sub s.k<|sub (ja ol) t):=qu λt ht=>by rw[aem (λv o=>(x5 v).1 ⟨t,ht,o⟩) Mg.ext]
     rw[e1,x3,e2];have:=HO1.kk;simp[hV,this]
    .exact SH
    .intro v;rw[qe bq];refine⟨?_,λq=>?_⟩
     .rintro⟨t,ht,o⟩;obtain q|q:=List.mem_append.1 ht
      .have:=(x5 v).1 ⟨t,q,o⟩;exact SI
      .simp at q;subst q;exact(GF v).1 o
     .rw[(GF v).2<|q _<|qr _<|List.mem_singleton.2 rfl,(x5 v).2 λt ht=>q t<|qs _ ht]
  .have hd:decide ((j:Int)<(L.length:Int))=false:=bP;have ej:j=L.length:=ae;subst ej;have c0:=HB0.c 0;have HX:=q9 DO<|q9 lW<|q9 k1<|q9 sr<|q9 F1<|q9 B1 hT;go_wp2_with fail;refine(GD (w:=wr) (pn k) (l:Int) (some ⟨w.heap.size+1,0,none⟩) L.length L.length).mono ?_;rintro e w3⟨rfl,rfl⟩
   go_wp2
   go_ret;obtain⟨DO,lW,k1,sr,F1,B1,x1,x2,x3,x4,x5,x6⟩:=HX;simp only[qm]at x3 x5 x6;have dA:Bq wr (wr.alloc<|Cv #[.pointer none,Nv l,Iv 0,Sv<|pn k,Lv (some ⟨w.heap.size+1,0,none⟩) L.length L.length] 187):=bw _;have BE:=B1.alloc<|Cv #[.pointer none,Nv l,Iv 0,Sv<|pn k,Lv (some ⟨w.heap.size+1,0,none⟩) L.length L.length] 187;have hz:¬wr.heap.size∈g1.ds:=λq=>by have:=lW.lt q;omega
   have hrd:¬(w.heap.size+1)∈g1.ds:=λq=>by
    obtain⟨q,_⟩|⟨q,_⟩:=sr.new _ q
    .have:=HJ.lt q;omega
    .omega
   have js3:=lW.abr dA (n:=wr.heap.size) (l:=l) (c:=k) (ps:=ps) (a:=(some ⟨w.heap.size+1,0,none⟩,L.length)) (br _) Fb ae x2 (qz ⟨w.heap.size+1,rfl,(λq=>by
    obtain q|q:=List.mem_cons.1 q
    .omega
    .exact hrd q),BE.z,λi hi=>(BE.c i).trans<|x4 i hi⟩) (by rw[x1];exact(xy wr _).1)
   have or3:OR l w.heap.size g1 s1 al bJ (g1.add wr.heap.size (some (k,ps)) 0 (some ⟨w.heap.size+1,0,none⟩,L.length) l<|.aK k<|ps.map g1.V) s1 al bJ:=OR.add lW ae hz (λgg e=>by injection e with e;injection e with e;omega);refine⟨wr.heap.size,_,s1,al,bJ,rfl,DO.af dA,js3,hK.add _ _ _ _ _ _ _ _ _ _ (hK.af _ _ _ _ _ _ k1 dA) hz,(sr.V8 ae).trans HJ lW js3 or3<|br _,ag,?_,λx q=>?_,λv=>?_,ae,F1.trans<|zh dA⟩
   .simp only[xn,if_true,sub,iH,x3,qx];rfl
   .have:x=wr.heap.size:=q.one<|.here (lW.gl.out _ hz).1;subst this;simp[xn]
   .simp only[aA];rw[mH];exact⟨(x5 v).1,λq=>(x5 v).2 λt h1 h2=>q ⟨t,h1,h2⟩⟩
end
abbrev anV(kb jb:Nat):Value:=.func (.func 398) #[] #[Pv kb,Pv jb]
structure su(c:JC)l kb jb mb w(g:gC)(s:jc)(cnt:Nat)(ρ:jh):Prop where
 bk:Bx w kb #[Mv mb]
 bj:Bx w jb #[Pv c.eb]
 mp:∃L:List (Int×Value),MS (λn:Int=>Iv n) w mb L/\∀v:Nat,(ρ v=none/\aZ (v:Int) L=none)\/∃n m,ρ v=some n/\aZ (v:Int) L=some (nA m)/\m∈g.ds/\g.str m=none/\g.vr m=n/\∀x,Hd g.nx m x->g.lv x<=l
 far:c.fX<=mb/\c.eb<mb/\c.cb<mb/\c.rb<mb/\c.mb<mb
section
variable {c:JC} {cnt:Nat}
def SK{p:Prop}(h:p:=by
 refine⟨n',m,r1,r2,qf _ r3,by simp[xn,e,r4],by simp[xn,e,r5],λx k=>?_⟩;by_cases ex:x=n
 .simp[xn,ex]
 .simp only[xn,ex,if_false];exact r6 x k):p:=h
def su.ks(hk:kb<Kb)(hj:jb<Kb)(hm:mb<Kb):OKs c l Kb (λb=>b=mb) (su c l kb jb mb) where
 af w w' g s cnt ρ h hb:=by
  have⟨L,h1,h2⟩:=h.mp;exact⟨h.bk.below hb,h.bj.below hb,⟨L,h1.below hb,h2⟩,h.far⟩
 one w w' g s cnt ρ b h o hb:=by
  have⟨L,h1,h2⟩:=h.mp;exact⟨h.bk.same (xf o.size.symm)<|o.block kb ae,h.bj.same (xf o.size.symm)<|o.block jb ae,⟨L,h1.one o ae,h2⟩,h.far⟩
 add w g s cnt ρ n q v a T h hn:=by
  have⟨L,h1,h2⟩:=h.mp;refine⟨h.bk,h.bj,⟨L,h1,λv=>(h2 v).imp id ?_⟩,h.far⟩;rintro⟨n',m,r1,r2,r3,r4,r5,r6⟩;have e:m≠n:=λe=>hn<|e▸r3;exact SK
 tb b e:=ae
def JS.NO(h:JS w g s)(hm:m∈g.ds)(hs:g.str m=none):g.V m=s.k (g.vr m):=h.val m hm hs
def JS.nI(h:JS w g s)[DecidableEq κ]{enc}{L:List (κ×Value)}(hm:MS enc w b L):¬b∈g.ds/\∀m∈g.ds,∀c l gg,g.str m=some (c,l)->l≠[]->(g.ly m).1=some ⟨gg,0,none⟩->gg≠b:=by
 refine⟨λq=>?_,λm hm' c l gg hs hl hg e=>?_⟩
 .have⟨p,hp⟩:=h.gl.rj q;rw[hm.rV 0]at hp
  cases hp
 .have⟨ga,q1,q2,_⟩:=h.gl.row hm' hs<|List.length_pos_iff.2 hl;rw[hg]at q1;injection q1 with q1;injection q1 with q1;subst q1;rw[e,hm.rV _]at q2
  cases q2
def OR.var(h:JS w g s){v}(hn:B<=n)(nd:¬n∈g.ds)(hu:∀n,s.u n->us cnt n)(hv:ρ v=none)(hr:∀y n',ρ y=some n'->s.u n'):OR l B g s cnt ρ (g.add n none (cnt+1) (none,0) l<|.var<|cnt+1) ⟨s.k,λm=>s.u m\/m=cnt+1⟩ (cnt+1) (λy=>if y=v then some (cnt+1)else ρ y):=by
 have hnu:¬s.u (cnt+1):=λq=>by have:=hu _ q;rw[us]at this;omega
 have hor:∀y n',ρ y=some n'->y≠v:=λy n' q e=>by rw[e,hv]at q;cases q
 refine⟨iV.add h nd rfl (λ_=>br _),λ_ _ _=>Iff.rfl,rfl,λy n' q=>by simp[hor y n' q,q],ae,λm q=>q.imp id λe=>ae,λy n' h0 h1=>?_,λy y' n' h0 h1 h2=>?_,λn'=>⟨?_,?_⟩,λm hm=>?_,λm hm=>?_,λm hm q=>by rw[(List.mem_cons.1 hm).resolve_right q];simp[xn]⟩
 .grind
 .grind
 .grind
 .grind
 .have e:m≠n:=λe=>nd<|e▸hm;simp[xn,e]
 .by_cases e:m=n
  .subst e;exact qz ⟨hn,λgg q=>by simp[xn]at q⟩
  .exact SC
def su.rng(h:su c l kb jb mb w g s cnt ρ)(j:JS w g s):∀y n',ρ y=some n'->s.u n':=λy n' q=>by
 have⟨L,h1,h2⟩:=h.mp;obtain⟨r,_⟩|⟨n,m,r1,r2,r3,r4,r5,r6⟩:=h2 y
 .rw[r]at q;cases q
 .rw[r1]at q;injection q with q;subst q;rw[<-r5];exact j.use m r3 r4
def aen(h:JE w c nb l cnt)(j:JS w g s)(hu:∀n,s.u n->us cnt n)(ha:su c l kb jb mb w g s cnt ρ)v(hc:cnt+1<=900000):Cq 398 #[Nv v,Pv kb,Pv jb] w (Lg c nb l (λb=>b=mb) (su c l kb jb mb) g s cnt ρ (.var v) w):=by
 have⟨L,HM,HL⟩:=ha.mp;have hl:=HM.look (KL.num Tryz.underlying98) Tryz.underlying179 (AG w) (v:Int) trivial (λ_ _=>trivial) true;have qT:=ha.bk.c 0;have hcj:=ha.bj.c 0;have hkm:kb≠mb:=λe=>by have:=HM.rV 0;rw[<-e,qT]at this;cases this
 have hjm:jb≠mb:=λe=>by have:=HM.rV 0;rw[<-e,hcj]at this;cases this
 have LU:c.cb≠mb:=by have:=ha.far.2.2.1;omega
 obtain⟨HR,q⟩|⟨n,m,r1,r2,r3,r4,r5,r6⟩:=HL v
 .rw[q]at hl;simp at hl;have hkc:kb≠c.cb:=λe=>by have:=h.ct.c 0;rw[<-e,qT]at this;simp at this
  have hjc:jb≠c.cb:=λe=>by have:=h.ct.c 0;rw[<-e,hcj]at this;simp at this
  have HV:=pH h j hu ae;have HA:=ai ha;have HJ:=ai j;go_enter func398,ntmps398;go_wp2_with fail;refine HV.mono ?_;rintro e w1⟨n,rfl,hn,DO,lW,F1⟩;have hc1:=(HA.bk.fr F1 hkc).c 0;have BK1:=HA.bk.fr F1 hkc;have BJ1:=HA.bj.fr F1 hjc;have HM1:=HM.same<|F1.block mb HM.lt<|λe=>LU e.symm;have HX:=And.intro DO<|And.intro lW F1;go_wp2_with(refine aV _ rfl _ _ _ _ (Or.inr rfl) (KL.num Tryz.underlying98) Tryz.underlying179 _ _ rfl HM1 (v:Int) (nA n) rfl rfl trivial (λ_ _=>trivial) ?_;intro w' H' O';have C5:=ai H';have O2:=ai O';clear H' O');go_ret;obtain⟨DO,lW,F1⟩:=HX;have O:=uh O2;have j:=uh HJ;have nd:¬n∈g.ds:=λq=>by have:=j.lt q;omega
  have ha:=uh HA;have⟨f1,f2,f3,f4,f5⟩:=ha.far;have⟨n1,n2⟩:=lW.nI HM1;refine⟨n,_,_,cnt+1,_,rfl,DO.one O f1 f2 f3 f4 f5,lW.one O n1 n2,⟨BK1.same (xf O.size.symm)<|O.block kb hkm,BJ1.same (xf O.size.symm)<|O.block jb hjm,⟨_,C5,λy=>?_⟩,ha.far⟩,OR.var j (v:=v) hn nd hu HR<|ha.rng j,ag,?_,λx k=>?_,λy=>⟨λo=>?_,λo=>?_⟩,by simp[size],?_⟩
  .rw[aM];by_cases e:y=v
   .subst e;refine qz ⟨cnt+1,n,ag,ag,ag,QG,QG,λx k=>?_⟩;have:x=n:=k.one<|.here (j.gl.out _ nd).1;subst this;simp[xn]
   .have e':¬(v:Int)=(y:Int):=ae;simp only[e,e',if_false];refine(HL y).imp id ?_;rintro⟨n',m,r1,r2,r3,r4,r5,r6⟩;have e:m≠n:=λe=>nd<|e▸r3;exact SK
  .have hnu:¬s.u (cnt+1):=λq=>by have:=hu _ q;rw[us]at this;omega
   simp[xn,sub,ja,j.ok.out _ hnu]
  .have:x=n:=k.one<|.here (j.gl.out _ nd).1;subst this;simp[xn]
  .simp only[aA]at o;subst o;simp
  .simp only[aA]at o;simp[zv o]
  .exact⟨O.os.trans F1.os,O.tape.trans F1.tape,O.output.trans F1.output,by rw[O.size];exact F1.size,λk hk hn=>(O.block k<|λe=>hn<|qz e).trans<|F1.block k hk<|λe=>hn<|qy e⟩
 .rw[r2]at hl;simp at hl;have HX:=show Lg c nb l (λb=>b=mb) (su c l kb jb mb) g s cnt ρ (.var v) w (Rv<|nA m) w from⟨m,g,s,cnt,ρ,rfl,h,j,ha,OR.refl j _ _ _ _,r3,by simp[sub,In.via,r1,j.NO r3 r4,r5],r6,λy=>⟨λo=>by simp only[aA]at o;subst o;simp[r1],λ_=>rfl⟩,ae,Fr.refl _ _⟩;go_enter func398,ntmps398
  go_wp2
  go_ret;exact HX
end
section
variable {c:JC} {cnt:Nat}
def ahU n:OfJ c nb l Kb (λb=>b=mb) (su c l kb jb mb) (anV kb jb) (λ_=>True) (.var n):=by
 intro w g s cnt ρ Q v je js hu hk0 hkb hv hQ hs hA Fb
 cases hv
 have HC:=aen je js hu hk0 n (by simpa[size]using Fb);go_enter func55,ntmps55;go_wp2_with fail;refine HC.mono ?_;rintro e w1⟨m,g',s',aE,d_,rfl,r⟩
 go_wp2
 go_ret;exact⟨m,g',s',aE,d_,rfl,r⟩
mutual
def SL(hk:kb<Kb)(hj:jb<Kb)(hm:mb<Kb):∀T:Ty,OfJ c nb l Kb (λb=>b=mb) (su c l kb jb mb) (anV kb jb) (λ_=>True) T
 |.var n=>ahU n|.aK k L=>abz (qz ⟨_,_,rfl⟩) (su.ks hk hj hm) k L<|afx hk hj hm L
def afx(hk:kb<Kb)(hj:jb<Kb)(hm:mb<Kb):∀(L:List Ty)(i:Nat)(h:i<L.length),OfJ c nb l Kb (λb=>b=mb) (su c l kb jb mb) (anV kb jb) (λ_=>True) L[i]
 |[],i,h=>absurd h (xk _)|t::L,0,h=>SL hk hj hm t|t::L,i+1,h=>afx hk hj hm L i<|Nat.lt_of_succ_lt_succ h
end
abbrev noK:World->gC->jc->Nat->jh->Prop:=λ_ _ _ _ _=>True
def alI:OKs c l 0 (λ_=>False) noK:=⟨λ_ _ _ _ _ _ _ _=>trivial,λ_ _ _ _ _ _ _ _ _ _=>trivial,λ_ _ _ _ _ _ _ _ _ _ _ _=>trivial,λ_ h=>h.elim⟩
mutual
def afy:∀T:Ty,OfJ c nb l 0 (λ_=>False) noK .nilFunc (λ_=>False) T
 |.var n=>λw g s cnt ρ Q v _ _ _ _ _ _ _ _ hA _=>(hA n rfl).elim|.aK k L=>abz (qy rfl) alI k L<|afz L
def afz:∀(L:List Ty)(i:Nat)(h:i<L.length),OfJ c nb l 0 (λ_=>False) noK .nilFunc (λ_=>False) L[i]
 |[],i,h=>absurd h (xk _)|t::L,0,h=>afy t|t::L,i+1,h=>afz L i<|Nat.lt_of_succ_lt_succ h
end
def ake c nb l g(s:jc)cnt T w(e:Ending)w':=
 ∃n g' aE,e=.returned (nA n)/\JE w' c nb l aE/\JS w' g' s/\OR l w.heap.size g s cnt jy g' s aE jy/\n∈g'.ds/\g'.V n=T/\(∀x,Hd g'.nx n x->g'.lv x<=l)/\aE<=cnt+size T/\Fr (λb=>b=c.cb) w w'
def alJ (hT:∀v,¬aA v T) (h:Lg c nb l (λ_=>False) noK g s cnt jy T w e w'):ake c nb l g s cnt T w e w':=by
 obtain ⟨n,g',s',aE,d_,rfl,h1,h2,_,h4,h5,h6,h7,h8,h9,h10⟩:=h;have hρ:=funext λv=>(h8 v).2 (hT v);subst hρ;have hs:s'=s:=by
  obtain ⟨k',u'⟩:=s';obtain ⟨k,u⟩:=s;have e1:k'=k:=h4.kk;have e2:u'=u:=funext λn=>propext ⟨λq=>((h4.usd n).1 q).elim id (λ⟨v,_,r⟩=>nomatch r),λq=>(h4.usd n).2 (qy q)⟩;rw [e1,e2]
 subst hs;refine ⟨n,g',aE,rfl,h1,h2,h4,h5,?_,h7,h9,h10.fX λb q=>q.elim id False.elim⟩;rw [h6,jx (t:=T) λv o=>(hT v o).elim,jx λv o=>(hT v o).elim]
def aeo(h:JE w c nb l cnt)(j:JS w g s)(hu:∀n,s.u n->us cnt n)(hv:dW w Q T v)(hQ:∀b,Q b->b≠c.cb)(hs:size T<=1000)(hT:∀n,¬aA n T)(hc:cnt+size T<=900000):Cq 379 #[Pv c.eb,v] w (ake c nb l g s cnt T w):=by
 have f1:=h.bx.c 4;have HC:=afy T w g s cnt In.Cj Q v h j hu trivial (Nat.zero_le _) hv (λb q=>⟨hQ b q,id⟩) hs (λn o=>hT n o) hc;obtain⟨tv,xv,rfl⟩:=hv.iface;go_enter func379,ntmps379;go_wp2_with fail;refine HC.mono ?_;rintro e w1 r;have r':=alJ hT r;obtain⟨n,g',aE,rfl,R⟩:=r'
 go_wp2
 go_ret;exact⟨n,g',aE,rfl,R⟩
def SM(h:JE w c nb l cnt)(g:gC)(s:jc):Cq 386 #[Pv c.eb] w λe w'=>∃kb jb mb,e=.returned (anV kb jb)/\su c l kb jb mb w' g s cnt jy/\Bq w w'/\(kb<w'.heap.size/\jb<w'.heap.size/\mb<w'.heap.size)/\w.heap.size<=mb/\w.heap.size<=jb/\w.heap.size<=kb:=by
 have jB:= @run_makeMap Tryz.prog;have HE:=ai h;go_enter func386,ntmps386
 go_wp2
 go_ret;have h:=uh HE;have cz:=(((xt w.heap.size w).alloc (br _)<|Cv #[Pv c.eb] 126).alloc ag<|.map #[] 0).alloc bP<|Cv #[Mv<|w.heap.size+1] 179;have z1:=h.z.2.2;have z2:=h.bx.z;have z3:=h.ct.z;have z4:=h.rs.lt;have z5:=h.ms.lt;refine⟨w.heap.size+1+1,w.heap.size,w.heap.size+1,rfl,⟨?_,?_,⟨[],?_,λv=>qy ⟨rfl,rfl⟩⟩,ae,ae,ae,ae,ae⟩,cz,bP,ae,ae,ae⟩
 .have:=Bx.new ((w.alloc<|Cv #[Pv c.eb] 126).alloc<|.map #[] 0) #[Mv<|w.heap.size+1] 179;simpa using this
 .exact((Bx.new w #[Pv c.eb] 126).alloc _).alloc _
 .have:=(MS.new (λn:Int=>Iv n)<|w.alloc<|Cv #[Pv c.eb] 126).below<|bw<|Cv #[Mv<|w.heap.size+1] 179;simpa using this
def OR.drawn(h:OR l B g s cnt ρ g1 s1 al bJ)(hT:∀v,(aA v T->bJ v≠none)/\(¬aA v T->bJ v=ρ v)):In.oo T ρ s (.ok ((sub (ja bJ) T,bJ),s1)):=by
 refine qz ⟨bJ,s1,⟨bJ,s1.u,⟨h.ext,λv q=>(hT v).2 λo=>q<|In.aC.2 o,λv q=>(hT v).1<|In.aC.1 q,h.nw,h.on,h.usd⟩,?_⟩,rfl⟩;have:=h.kk;obtain⟨k',u'⟩:=s1;simp only at this;rw[this]
end
def Fa(g:gC)l n:=∃S:Nat->Prop,ScD g.str g.ds g.nx S/\(∀x,S x->g.lv x<=l\/g.lv x=aL)/\∀h,Hd g.nx n h->S h
def dZ(g:gC)v:=∃x,g.R v x/\g.lv x=aL
structure vG(E:Nat->Prop)l sb w(g:gC)(s:jc)(ρ:jh)M:Prop where
 ms:MS Cf w sb M
 kd:∀p,p∈M->p.1∈g.ds
 gm:∀h v,aZ h M=some v->∃m,v=nA m/\m∈g.ds/\g.V m=sub (ja ρ) (g.V h)/\(∀x,Hd g.nx m x->g.lv x<=l)/\∀y,aA y (g.V h)->dZ g y->ρ y≠none
 rn:∀v n,ρ v=some n->s.u n/\∃x,g.R v x/\g.lv x=aL/\(aZ x M≠none\/E x)
section
variable {c:JC} {cnt:Nat} {M:List (Nat×Value)}
def vG.any(h:vG E l sb w g s ρ M){v:Nat}(q:ρ v=some n):dZ g v:=by
 have⟨_,x,r,q,_⟩:=h.rn v n q;exact⟨x,r,q⟩
def Fa.mv(h:JS w g s)(h1:JS w1 g1 s1)(o:OR l B g s cnt ρ g1 s1 al bJ)(hn:n∈g.ds)(f:Fa g L n):Fa g1 L n:=by
 obtain⟨S,f1,f2,f3⟩:=f;refine⟨λx=>S x/\x∈g.ds,λx hx DX hS k l hs p hp y ky=>?_,λx hx=>by rw[(o.eR x hx.2).1];exact f2 x hx.1,λy ky=>?_⟩
 .have e:=(o.st.eR x hS.2).2.1;rw[e]at hs;have Mc:=(h.gl.part hS.2 hs).2 p hp;have ky':=(o.hd p Mc y).1 ky;exact⟨f1 x hS.2 ((o.hd x hS.2 x).1<|.here DX).head hS.1 k l hs p hp y ky',h.gl.bN Mc ky'⟩
 .have ky':=(o.hd n hn y).1 ky;exact⟨f3 y ky',h.gl.bN hn ky'⟩
def Fa.part{a}(f:Fa g L n)(ha:Hd g.nx n a)(had:a∈g.ds)(hs:g.str a=some (k,ps))(hp:p∈ps):Fa g L p:=by
 obtain⟨S,f1,f2,f3⟩:=f;exact⟨S,f1,f2,λy ky=>f1 a had ha.head (f3 a ha) k ps hs p hp y ky⟩
def dZ.back(h:JS w g s)(h1:JS w1 g1 s1)(o:OR l B g s cnt ρ g1 s1 al bJ){v:Nat}(hp:p∈g.ds)(hv:aA v (g.V p))(a:dZ g1 v):dZ g v:=by
 obtain⟨x,r,q⟩:=a;have⟨y,r0⟩:=h.nZ hp hv;have⟨b1,b2,b3⟩:=o.st.eR y r0.1;have e:=h1.inj y x b1 r.1 (b2.trans r0.2.2.1) r.2.2.1 (by rw[b3,r0.2.2.2,r.2.2.2]);subst e;exact⟨y,r0,by rw[<-(o.eR y r0.1).1];exact q⟩
def dZ.fwd(h:JS w g s)(o:OR l B g s cnt ρ g1 s1 al bJ){v:Nat}(a:dZ g v):dZ g1 v:=by
 obtain⟨x,r,q⟩:=a;have⟨b1,b2,b3⟩:=o.st.eR x r.1;exact⟨x,⟨b1,((o.hd x r.1 x).2<|.here r.2.1).head,b2.trans r.2.2.1,b3.trans r.2.2.2⟩,by rw[(o.eR x r.1).1];exact q⟩
def aep(h:JS w g s)(h1:JS w1 g1 s1)(o:OR l B g s cnt ρ g1 s1 al bJ)(hr:∀v n,bJ v=some n->dZ g1 v)(hp:p∈g.ds)(hc:∀v,aA v (g.V p)->dZ g v->ρ v≠none):sub (ja ρ) (g.V p)=sub (ja bJ) (g.V p):=sub_congr _ λv ov=>by
 unfold ja
 cases e:ρ v with
 |some n=>rw[o.ext v n e]|none=>
  cases e1:bJ v with
  |none=>rfl|some n=>exact absurd e<|hc v ov<|dZ.back h h1 o hp ov<|hr v n e1
def ahV(h:JS w g s)(hr:∀v n,ρ v=some n->dZ g v){x}(hn:n∈g.ds)(hx:Hd g.nx n x)(hl:g.lv x<aL):(∀v,aA v (g.V n)->¬dZ g v)/\sub (ja ρ) (g.V n)=g.V n:=by
 have a:∀v,aA v (g.V n)->¬dZ g v:=λv ov⟨y,r,q⟩=>by
  have⟨z,r1,q1⟩:=fc (lv:=g.lv) h.jg h.can _ n x hn hx (br _) ov;have e:=h.inj z y r1.1 r.1 r1.2.2.1 r.2.2.1<|r1.2.2.2.trans r.2.2.2.symm;subst e;have:=q1 h.lc;omega
 refine⟨a,jx λv ov=>?_⟩;rw[ja]
 cases e:ρ v with
 |none=>rfl|some n=>grind
end
abbrev vrV(c:JC):Value:=.func (.func 382) #[Pv c.eb] #[]
abbrev Lh c l sb:=#[Nv l,vrV c,Mv sb]
def OJ E c nb l sb g(s:jc)cnt(ρ:jh)n w(e:Ending)w':=
 ∃m g' s' aE d_ M',e=.returned (nA m)/\JE w' c nb l aE/\JS w' g' s'/\vG E l sb w' g' s' d_ M'/\OR l w.heap.size g s cnt ρ g' s' aE d_/\m∈g'.ds/\g'.V m=sub (ja d_) (g.V n)/\(∀x,Hd g'.nx m x->g'.lv x<=l)/\(∀v,aA v (g.V n)->dZ g v->d_ v≠none)/\(∀v,ρ v=none->d_ v≠none->aA v (g.V n))/\aE<=cnt+size (g.V n)/\Fr (λb=>b=c.cb\/b∈g.ds\/b=sb) w w'
def V9(c:JC)sb:=c.fX<=sb/\c.eb<sb/\c.cb<sb/\c.rb<sb/\c.mb<sb
def aeq c nb l sb k:=∀(w:World)(g:gC)(s:jc)(cnt:Nat)(ρ:jh)(M:List (Nat×Value))(n:Nat),JE w c nb l cnt->JS w g s->(∀n,s.u n->us cnt n)->vG (λ_=>False) l sb w g s ρ M->n∈g.ds->Fa g l n->size (g.V n)<=k->cnt+size (g.V n)<=900000->Cq 400 #[.agg<|Lh c l sb,nA n] w (OJ (λ_=>False) c nb l sb g s cnt ρ n w)
def akf c nb l sb k:=∀(w:World)(g:gC)(s:jc)(cnt:Nat)(ρ:jh)(M:List (Nat×Value))(h:Nat),JE w c nb l cnt->JS w g s->(∀n,s.u n->us cnt n)->vG (λ_=>False) l sb w g s ρ M->h∈g.ds->g.nx h=none->g.lv h=aL->aZ h M=none->Fa g l h->size (g.V h)<=k->cnt+size (g.V h)<=900000->Cq 402 #[.agg<|Lh c l sb,nA h] w (OJ (λx=>x=h) c nb l sb g s cnt ρ h w)
section
variable {c:JC} {cnt:Nat} {M:List (Nat×Value)}
def OR.eqv{bi:Nx}(h:JS w g s)(e:iU g.str g.nx bi)(hg:GL w' g.ds g.str bi g.vr g.ly g.lv)(B:Nat):OR l B g s cnt ρ {g with nx:=bi} s cnt ρ where
 st:=iV.eqv h e hg l
 hd m _ x:=⟨e.back h.gl,e.lj m x⟩
 kk:=rfl
 ext _ _ q:=q
 cc:=br _
 uu _ q:=qy q
 nw v n q r:=qAw
 on v v' n q r:=qAw
 usd n:=⟨qy,λq=>q.elim id λ⟨v,q,r⟩=>qAw⟩
 eR m _:=⟨rfl,rfl⟩
 new m hm:=qy ⟨hm,rfl,rfl⟩
 nl m hm q:=absurd hm q
def vG.eqv(h:vG E l sb w g s ρ M)(j:JS w g s)(e:iU g.str g.nx bi)(hms:MS Cf w' sb M):vG E l sb w' {g with nx:=bi} s ρ M where
 ms:=hms
 kd:=h.kd
 gm y v q:=by
  have⟨m,r1,r2,r3,r4,r5⟩:=h.gm y v q;exact⟨m,r1,r2,r3,λx k=>r4 x<|e.back j.gl k,λz oz⟨x,⟨a1,a2,a3,a4⟩,b⟩=>r5 z oz ⟨x,⟨a1,(e.Bt x).1 a2,a3,a4⟩,b⟩⟩
 rn v n q:=by
  have⟨q1,x,⟨a1,a2,a3,a4⟩,q2,q3⟩:=h.rn v n q;exact⟨q1,x,⟨a1,(e.Bt x).2 a2,a3,a4⟩,q2,q3⟩
def vG.put{a:Nat}(h:vG (λx=>x=a) l sb w g s ρ M)(hms:MS Cf w' sb (bF a (nA m) M))(ha:a∈g.ds)(hm:m∈g.ds)(hV:g.V m=sub (ja ρ) (g.V a))(hl:∀x,Hd g.nx m x->g.lv x<=l)(ho:∀y,aA y (g.V a)->dZ g y->ρ y≠none):vG (λ_=>False) l sb w' g s ρ (bF a (nA m) M) where
 ms:=hms
 kd p hp:=by
  have:aZ p.1 (bF a (nA m) M)≠none:=λq=>by
   have:=(tH (x:=p.1) (L:=bF a (nA m) M)).2<|qt hp;rw[q]at this
   cases this
  rw[aM]at this;split at this
  .rename_i e;rw[<-e];exact ha
  .cases e:aZ p.1 M with
   |none=>exact absurd e this|some v=>exact h.kd (p.1,v)<|qA e
 gm y v q:=by
  rw[aM]at q;split at q
  .rename_i e;subst e;injection q with q;exact⟨m,q.symm,hm,hV,hl,ho⟩
  .exact h.gm y v q
 rn v n q:=by
  have⟨q1,x,r,q2,q3⟩:=h.rn v n q;refine⟨q1,x,r,q2,qy ?_⟩;rw[aM];split
  .simp
  .rename_i e;exact q3.resolve_right<|λq=>e q.symm
def Li{p:Prop}(h:p:=by
 by_cases e:z=n
 .simp[xn,e]
 .simp only[xn,e,if_false];exact r4 z k):p:=h
def vG.var{w1}(h:vG (λ_=>False) l sb w g s ρ M)(j:JS w g s)(hms:MS Cf w1 sb M){x n}(hx:x∈g.ds)(hn:g.nx x=none)(hs:g.str x=none)(hl:g.lv x=aL)(hg:aZ x M=none)(nd:¬n∈g.ds)(Oy:l<aL):ρ (g.vr x)=none/\vG (λy=>y=x) l sb w1 (g.add n none (cnt+1) (none,0) l<|.var<|cnt+1) ⟨s.k,λm=>s.u m\/m=cnt+1⟩ (λy=>if y=g.vr x then some (cnt+1)else ρ y) M:=by
 have hr:ρ (g.vr x)=none:=by
  cases e:ρ (g.vr x)with
  |none=>rfl|some n'=>
   have⟨_,y,r,_,q⟩:=h.rn _ _ e;have:=j.inj x y hx r.1 hs r.2.2.1 r.2.2.2.symm;subst this;exact(q.resolve_right id hg).elim
 have ne:∀m,m∈g.ds->m≠n:=λm hm e=>nd<|e▸hm;have ahW:∀v,dZ (g.add n none (cnt+1) (none,0) l<|.var<|cnt+1) v->dZ g v:=λv⟨y,⟨r1,r2,r3,r4⟩,q⟩=>by
  by_cases e:y=n
  .subst e;simp[xn]at q;omega
  .exact⟨y,⟨(List.mem_cons.1 r1).resolve_left e,r2,by simpa[xn,e]using r3,by simpa[xn,e]using r4⟩,by simpa[xn,e]using q⟩
 refine⟨hr,hms,λp hp=>qf _<|h.kd p hp,λy v q=>?_,λv n' q=>?_⟩
 .have⟨m,r1,r2,r3,r4,r5⟩:=h.gm y v q;have hy:y∈g.ds:=by
   have:(y,v)∈M:=qA q;exact h.kd _ this
  refine⟨m,r1,qf _ r2,?_,λz k=>?_,λz oz az=>?_⟩
  .simp only[xn,ne m r2,ne y hy,if_false];rw[r3];refine sub_congr _ λz oz=>?_;unfold ja;by_cases e:z=g.vr x
   .exact absurd hr (by rw[<-e];exact r5 z oz ⟨x,⟨hx,hn,hs,e.symm⟩,hl⟩)
   .simp[e]
  .exact Li
  .simp only[xn,ne y hy,if_false]at oz;have:=r5 z oz<|ahW z az;by_cases e:z=g.vr x
   .simp[e]
   .simpa[e]using this
 .by_cases e:v=g.vr x
  .simp[e]at q;exact⟨qz q.symm,x,⟨qf _ hx,hn,by simp[xn,ne x hx,hs],by simp[xn,ne x hx,e]⟩,by simp[xn,ne x hx,hl],qz rfl⟩
  .simp[e]at q;have⟨q1,y,⟨r1,r2,r3,r4⟩,q2,q3⟩:=h.rn v n' q;exact⟨qy q1,y,⟨qf _ r1,r2,by simp[xn,ne y r1,r3],by simp[xn,ne y r1,r4]⟩,by simp[xn,ne y r1,q2],q3.imp id False.elim⟩
def V_(hf:V9 c sb)(Oy:l<aL)(h:JE w c nb l cnt)(j:JS w g s)(hu:∀n,s.u n->us cnt n)(cp:vG (λ_=>False) l sb w g s ρ M){x}(hx:x∈g.ds)(hn:g.nx x=none)(hl:g.lv x=aL)(hg:aZ x M=none)(hs:g.str x=none)(hc:cnt+1<=900000):Cq 402 #[.agg<|Lh c l sb,nA x] w (OJ (λy=>y=x) c nb l sb g s cnt ρ x w):=by
 have k0:Bq w (w.alloc<|Cv (Lh c l sb) 538):=bw _;have⟨_,_,c3,_,_⟩:=((j.af k0).gl.nd x hx).cells;rw[hs]at c3;have c3':(w.alloc<|Cv (Lh c l sb) 538).cell? ⟨x,3,none⟩=some (Sv ⟨#[]⟩):=c3;have b1:(w.alloc<|Cv (Lh c l sb) 538).cell? ⟨w.heap.size,1,none⟩=some (vrV c):=(Bx.new w (Lh c l sb) 538).c 1;have HV:=pH (h.af k0) (j.af k0) hu ae;have zc:=h.ct.z;have HX:=ai<|And.intro h<|And.intro j<|And.intro hu cp;have K0:=ai k0;clear h j hu cp k0 c3;go_enter func402,ntmps402;go_wp2_with fail;refine HV.mono ?_;rintro e w1⟨n,rfl,hnn,DO,lW,F1⟩;have HY:=ai<|And.intro DO<|And.intro lW F1;clear HV DO lW F1
 go_wp2
 go_ret;have⟨h,j,hu,cp⟩:=uh HX;have⟨DO,lW,F1⟩:=uh HY;have k0:=uh K0;have zk:=k0.size;have nd:¬n∈g.ds:=λq=>by have:=j.lt q;omega
 have zs:=cp.ms.lt;obtain⟨f1,f2,f3,f4,f5⟩:=hf;have hms:MS Cf w1 sb M:=(cp.ms.below k0).same (F1.block sb ae (λe=>by have e:sb=c.cb:=e;omega));have⟨hr,EI⟩:=cp.var j (cnt:=cnt) hms hx hn hs hl hg nd Oy;have hV:g.V x=.var (g.vr x):=by have:=j.can x x<|.here hn;rw[hs]at this;exact this
 refine⟨n,_,_,cnt+1,_,M,rfl,DO,lW,EI,OR.var j (v:=g.vr x) ae nd hu hr<|λy n' q=>(cp.rn y n' q).1,ag,?_,λz k=>?_,λv o _=>?_,λv q q'=>?_,by rw[hV];simp[size],?_⟩
 .simp[xn,hV,sub,ja]
 .have:z=n:=k.one<|.here (j.gl.out _ nd).1;subst this;simp[xn]
 .rw[hV]at o;simp only[aA]at o;simp[o]
 .rw[hV];simp only[aA];exact Classical.byContradiction λe=>q' (by simp[zv e,q])
 .exact(zh k0).trans (F1.fX λb q=>qy q)
def ahX{k}(hf:V9 c sb)(Oy:l<aL)(HM:akf c nb l sb k):aeq c nb l sb k:=by
 intro w g s cnt ρ M n h j hu cp hn fa hk hc;have⟨a,hd⟩:=j.gl.hd n hn;have ha:=j.gl.bN hn hd;have⟨k0,BA⟩:=sd w (Lh c l sb) 538;have HC:=rW (j.af k0).gl hn hd;have zs:=cp.ms.lt;have Ca:∀x∈g.ds,x<w.heap.size:=λx hx=>j.lt hx;have HX:=And.intro h<|And.intro j<|And.intro hu<|And.intro cp fa;have HHD:=ai hd;have K0:=ai k0;go_enter func400,ntmps400;go_wp2_with fail;refine HC.mono ?_;rintro e w1⟨rfl,eP,G1,F1,E1,z1⟩;have j:=HX.2.1;have cp:=HX.2.2.2.1;have hd:=uh HHD;have k0:=uh K0;have zk:=k0.size;have hsd:=(j.nI cp.ms).1;have vC:¬w.heap.size∈g.ds:=λq=>by have:=Ca _ q;omega
 have BE:=BA.fr F1 vC;have M1:=(cp.ms.below k0).same<|F1.block sb ae hsd;have j1:=j.eqv E1 G1;have EI:=cp.eqv j E1 M1;have o1:OR l w.heap.size g s cnt ρ {g with nx:=eP} s cnt ρ:=OR.eqv j E1 G1 _;have hcb:=HX.1.AW j;have heb:=HX.1.AV j;have e1:=(HX.1.af k0).fr (j.af k0) (F1.fX λb q=>qz<|qz q) ((HX.1.af k0).bx.fr F1 heb)<|(HX.1.af k0).ct.fr F1 hcb;have FF:Fr (λb=>b=c.cb\/b∈g.ds\/b=sb) w w1:=(zh k0).trans' F1<|λx q=>qy<|qz<|qy q;have⟨sq,_⟩:=(G1.nd a ha).lvl;have hVa:g.V n=g.V a:=by rw[j.can n a hd,j.can a a<|.here hd.head]
 have b2:=BE.c 2;by_cases hla:g.lv a=aL
 .have Ka:∀x∈g.ds,∃c t,w1.heap[x]? =some (Cv c t (0,0)):=λx hx=>⟨_,_,(G1.nd x hx).1⟩;have hl:=M1.look aba Tryz.underlying536 (AG w1) a (Ka a ha) (λp hp=>Ka p.1<|cp.kd p hp) true;rw[hla]at sq
  cases hg:aZ a M with
  |some v=>
   rw[hg]at hl;obtain⟨m,rfl,r2,r3,r4,r5⟩:=EI.gm a v hg;simp at hl;have HY:=show OJ (λ_=>False) c nb l sb g s cnt ρ n w (Rv<|nA m) w1 from⟨m,{g with nx:=eP},s,cnt,ρ,M,rfl,e1,j1,EI,o1,r2,by rw[hVa];exact r3,r4,λv o av=>r5 v (by rw[<-hVa];exact o)<|dZ.fwd j o1 av,λv q q'=>absurd q q',ae,FF⟩
   go_wp2
   go_ret;exact HY
  |none=>
   rw[hg]at hl;simp at hl;have fa1:Fa {g with nx:=eP} l a:=by
    have⟨S,f1,f2,f3⟩:=HX.2.2.2.2.mv j j1 o1 hn;exact⟨S,f1,f2,λy ky=>by rw[ky.one<|.here (E1.lj _ _ hd).head];exact f3 a<|E1.lj _ _ hd⟩
   have HD:=HM w1 {g with nx:=eP} s cnt ρ M a e1 j1 HX.2.2.1 EI ha (E1.lj _ _ hd).head hla hg fa1 (by rw[hVa]at hk;exact hk) (by rw[hVa]at hc;exact hc);have b0:=BE.c 0;have b1:=BE.c 1;have zb1:=BE.z;have HY:=q9 j1<|q9 o1 FF;have HJ0:=ai j;have nbx:¬(w.heap.size=c.cb\/w.heap.size∈g.ds\/w.heap.size=sb):=by
    have:=HX.1.ct.z;rintro(q|q|q)
    .omega
    .exact vC q
    .omega
   go_wp2_with fail;refine HD.mono ?_;rintro e w2⟨m,g2,s2,cN,ol,M2,rfl,e2,j2,Qc,o2,r1,r2,r3,r4,r5,r6,F2⟩;have b2':=(BE.fr F2 nbx).c 2;have HMS:=ai Qc.ms;have HOK:∀x∈g2.ds,∃c t,w2.heap[x]? =some (Cv c t (0,0)):=λx hx=>⟨_,_,(j2.gl.nd x hx).1⟩;have ha2:=(o2.st.eR a ha).1;have kd2:=ai Qc.kd;have HZ:=q9 e2<|q9 j2<|q9 Qc<|q9 o2<|q9 r1<|q9 r2<|q9 r3<|q9 r4<|q9 r5<|q9 r6 F2;go_wp2_with(refine aV _ rfl _ _ _ _ (qz rfl) aba Tryz.underlying536 _ _ rfl HMS a (nA m) rfl rfl (HOK a ha2) (λp hp=>HOK p.1<|kd2 p hp) ?_;intro w3 H' O';have HM3:=ai H';have O3:=ai O';clear H' O');go_ret;obtain⟨e2,j2,Qc,o2,r1,r2,r3,r4,r5,r6,F2⟩:=HZ;obtain⟨j1,o1,FF⟩:=HY;have O:=uh O3;have j:=uh HJ0;obtain⟨f1,f2,f3,f4,f5⟩:=hf;have⟨n1,n2⟩:=j2.nI Qc.ms;have eV:=(o2.eR a ha).2;refine⟨m,g2,s2,cN,ol,_,rfl,e2.one O f1 f2 f3 f4 f5,j2.one O n1 n2,Qc.put HM3 ha2 r1 (by rw[eV];exact r2) r3<|λy oy ay=>?_,o1.trans j j1 j2 o2 ae,r1,by rw[hVa];exact r2,r3,λv o av=>r4 v (by show aA v (g.V a);rw[<-hVa];exact o) (dZ.fwd j o1 av),λv q q'=>by rw[hVa];exact r5 v q q',by rw[hVa];exact r6,?_⟩
   .rw[eV]at oy;exact r4 y oy<|dZ.back j1 j2 o2 ha oy ay
   .have F3:=FF.trans F2;exact⟨O.os.trans F3.os,O.tape.trans F3.tape,O.output.trans F3.output,by rw[O.size];exact F3.size,λk hk hn=>(O.block k<|λe=>hn<|qz<|qz e).trans<|F3.block k hk hn⟩
 .have hle:g.lv a<=l:=by
   have⟨S,f1,f2,f3⟩:=HX.2.2.2.2;exact(f2 a<|f3 a hd).resolve_right hla
  have df:¬((g.lv a:Nat):Int)=9223372036854775807:=by have:l<9223372036854775807:=Oy;omega
  have⟨v1,v2⟩:=ahV j (λv n=>cp.any) hn hd ae;have HY:=show OJ (λ_=>False) c nb l sb g s cnt ρ n w (Rv<|nA a) w1 from⟨a,{g with nx:=eP},s,cnt,ρ,M,rfl,e1,j1,EI,o1,ha,by rw[v2];exact hVa.symm,(λx k=>by rw[k.one<|.here (E1.lj _ _ hd).head];exact hle),λv o av=>absurd av<|v1 v o,λv q q'=>absurd q q',ae,FF⟩
  go_wp2
  go_ret;exact HY
end
def CpR c nb l sb g(s:jc)cnt(ρ:jh)(L:List Nat)w gk v wr:=
 ∃(j:Nat)(C:Array Value)(g':gC)(s':jc)(aE:Nat)(d_:jh)(M':List (Nat×Value))(ps:List Nat),Hid (gk=L.length-j)/\j<=L.length/\v=Nv j/\JE wr c nb l aE/\JS wr g' s'/\vG (λ_=>False) l sb wr g' s' d_ M'/\OR l (w.heap.size+2) g s cnt ρ g' s' aE d_/\Fr (λb=>b=c.cb\/b∈g.ds\/b=sb) w wr/\Bx wr w.heap.size (Lh c l sb)/\Bx wr (w.heap.size+1) C/\Hid (C.size=L.length)/\
  Hid (ps.length=j/\(∀m,m∈ps->m∈g'.ds/\∀x,Hd g'.nx m x->g'.lv x<=l)/\ps.map g'.V=(L.take j).map (λp=>sub (ja d_)<|g.V p)/\(∀i(h:i<ps.length),C[i]? =some (nA ps[i]))/\(∀v,(∃p,p∈L.take j/\aA v (g.V p))->dZ g v->d_ v≠none)/\(∀v,ρ v=none->d_ v≠none->∃p,p∈L.take j/\aA v (g.V p))/\aE<=cnt+ah ((L.take j).map g.V))
def vG.af{M}(h:vG E l sb w g s ρ M)(hb:Bq w w'):vG E l sb w' g s ρ M:=⟨h.ms.below hb,h.kd,h.gm,h.rn⟩
def vG.one{E}{l sb b}{w w'}{g}{s}{ρ}{M}(h:vG E l sb w g s ρ M)(o:One b w w')(hb:sb≠b):vG E l sb w' g s ρ M:=⟨h.ms.one o hb,h.kd,h.gm,h.rn⟩
def vG.add{M}(h:vG (λ_=>False) l sb w g s ρ M)(nd:¬n∈g.ds)q v a T:vG E l sb w (g.add n (some q) v a l T) s ρ M:=by
 have ne:∀m,m∈g.ds->m≠n:=λm hm e=>nd<|e▸hm;refine⟨h.ms,λp hp=>qf _<|h.kd p hp,λy u r=>?_,λu n' r=>?_⟩
 .have⟨m,r1,r2,r3,r4,r5⟩:=h.gm y u r;have hy:=h.kd _<|qA r;refine⟨m,r1,qf _ r2,by simp[xn,ne m r2,ne y hy,r3],λz k=>?_,λz oz⟨t,⟨b1,b2,b3,b4⟩,b5⟩=>?_⟩
  .exact Li
  .simp only[xn,ne y hy,if_false]at oz;have e:t≠n:=λe=>by subst e;simp[xn]at b3
   exact r5 z oz ⟨t,⟨(List.mem_cons.1 b1).resolve_left e,b2,by simpa[xn,e]using b3,by simpa[xn,e]using b4⟩,by simpa[xn,e]using b5⟩
 .have⟨q1,y,⟨r1,r2,r3,r4⟩,q2,q3⟩:=h.rn u n' r;exact⟨q1,y,⟨qf _ r1,r2,by simp[xn,ne y r1,r3],by simp[xn,ne y r1,r4]⟩,by simp[xn,ne y r1,q2],q3.imp id False.elim⟩
section
variable {c:JC} {cnt:Nat} {M:List (Nat×Value)}
def Wd(hf:V9 c sb)(IH:aeq c nb l sb K)(h:JE w c nb l cnt)(js:JS w g s)(hu:∀n,s.u n->us cnt n)(cp:vG (λ_=>False) l sb w g s ρ M){x}(hx:x∈g.ds)(hn:g.nx x=none)(fa:Fa g l x){L}(hs:g.str x=some (k,L))(hz:size (g.V x)<=K+1)(hc:cnt+size (g.V x)<=900000):Cq 402 #[.agg<|Lh c l sb,nA x] w (OJ (λy=>y=x) c nb l sb g s cnt ρ x w):=by
 have hP:=(js.gl.nd x hx).2.1;rw[hs]at hP;obtain⟨Fb,hL,HLM,aN⟩:=hP;have hV:g.V x=.aK k (L.map g.V):=by have:=js.can x x<|.here hn;rw[hs]at this;exact this
 have HSZ:size (g.V x)=1+ah (L.map g.V):=by rw[hV];simp[size]
 have⟨i0,yi,oh,m7,i_⟩:=info_parts DJ;have WZ:=jZ (by_:=8) wQ yi oh rfl m7 i_ aH L.length hL;have k0:Bq w (w.alloc<|Cv (Lh c l sb) 538):=bw _;have cz:Bq w ((w.alloc<|Cv (Lh c l sb) 538).alloc<|Cv (zu L.length<|.pointer none) 116):=(bw _).alloc ag _;have⟨_,_,a3,_,a4⟩:=((js.af k0).gl.nd x hx).cells;rw[hs]at a3 a4;have a3':(w.alloc<|Cv (Lh c l sb) 538).cell? ⟨x,3,none⟩=some (Sv<|pn k):=a3;have a4':(w.alloc<|Cv (Lh c l sb) 538).cell? ⟨x,4,none⟩=some (.slice (g.ly x).1 L.length (g.ly x).2):=a4;have⟨_,_,_,_,d4⟩:=((js.af cz).gl.nd x hx).cells;rw[hs]at d4;have d4':((w.alloc<|Cv (Lh c l sb) 538).alloc<|Cv (zu L.length<|.pointer none) 116).cell? ⟨x,4,none⟩=some (.slice (g.ly x).1 L.length (g.ly x).2):=d4;obtain⟨⟨sa,sc⟩,Zs⟩:∃q,g.ly x=q:=⟨_,rfl⟩;rw[Zs]at a4' d4';have HLY:=ai Zs;have hea:((pn k).toList==[])=false:=by rw[<-Bool.not_eq_true,beq_iff_eq];exact lD Fb
 have zc:=h.ct.z;have zs:=cp.ms.lt;have ST:Hid (CpR c nb l sb g s cnt ρ L w L.length (Iv 0)<|(w.alloc<|Cv (Lh c l sb) 538).alloc<|Cv (Array.replicate L.length<|.pointer none) 116):=ai ⟨0,Array.replicate L.length<|.pointer none,g,s,cnt,ρ,M,[],ai ag,Nat.zero_le _,rfl,h.af cz,js.af cz,cp.af cz,OR.refl js _ _ _ _,Fr.of cz,(Bx.new w _ _).alloc _,by have:=Bx.new (w.alloc<|Cv (Lh c l sb) 538) (Array.replicate L.length<|.pointer none) 116;simpa using this,ai ag,ai ⟨rfl,ag,ag,(λi hi=>by simp at hi),(λv⟨p,q,_⟩=>by simp at q),(λv q q'=>absurd q q'),by simp[ah]⟩⟩;have HJ:=ai js;have HV:=ai hV;have HZ:=ai<|And.intro h.z.2.2<|And.intro h.bx.z<|And.intro h.ct.z<|And.intro h.rs.lt h.ms.lt;have xlt:=js.lt hx;clear h js cp k0 cz a3 a4 d4 aN hV Zs;go_enter func402,ntmps402
 go_wp2
 go_loopg[27] L.length (λgk v wr=>CpR c nb l sb g s cnt ρ L w gk v wr)
 case atStart=>exact ST
 case round=>
  clear ST a3' a4' d4' hea WZ;obtain⟨j,C,g1,s1,al,bJ,M1,ps,dv,hj,rfl,DO,lW,EI,sr,F1,B0,B1,hC,hT⟩:=hrel;have zw:=F1.size;have zb:=B1.z;have Vf:x∈g1.ds/\g1.ly x=g.ly x/\g1.str x=some (k,L):=by
   have⟨b1,b2,b3⟩:=sr.st.eR x hx;obtain⟨_,q2,_⟩|⟨q,_⟩:=sr.new x b1
   .exact⟨b1,q2,b2.trans hs⟩
   .omega
  have Xd:∀p,p∈L->g1.V p=g.V p:=λp hp=>(sr.eR p<|HLM p hp).2;have sz:=HSZ;by_cases bq:j<L.length
  .have hd:(j:Int)<(L.length:Int):=ae;have⟨ga,ea,ra,_⟩:=lW.gl.row Vf.1 Vf.2.2 bq;rw[Vf.2.1,uh HLY]at ea;have ea:=ea;subst ea;have⟨x1,x2,x3,x4,x5,x6,x7⟩:=uh hT;have hjm:j<(L.map g.V).length:=by simpa using bq
   have⟨y1,y2⟩:=AX (L.map g.V) hjm;simp only[List.getElem_map,<-List.map_take]at y1 y2;have hpm:=qg bq;have Mc:=HLM _ hpm;have HC:=IH wr g1 s1 al bJ M1 L[j] DO lW (sr.used hu) EI (sr.st.eR _ Mc).1 ((fa.part (.here hn) hx hs hpm).mv HJ lW sr Mc) (by rw[Xd _ hpm];omega) (by rw[Xd _ hpm];omega);have b0:=B0.c 0;have b1:=B0.c 1;have b2:=B0.c 2;have HY:=ai<|q9 lW<|q9 sr<|q9 F1<|q9 B0<|q9 B1 EI;have EQV:=ai Xd;have nm:∀b,w.heap.size<=b->b<w.heap.size+2->¬(b=c.cb\/b∈g1.ds\/b=sb):=λb q1 q2=>by
    rintro(q|q|q)
    .omega
    .obtain⟨q,_⟩|⟨q,_⟩:=sr.new b q
     .have:=HJ.lt q;omega
     .omega
    .omega
   clear DO lW EI sr F1 B0 B1 x1 x2 x3 x4 x5 x6 x7 Xd Vf sz;go_wp2_with fail;refine HC.mono ?_;rintro e w1⟨m,g2,s2,cN,ol,M2,rfl,je2,js2,Qc,Mg,hm,hVm,yE,GF,Bz,AY,F2⟩;have⟨lW,sr,F1,B0,B1,EI⟩:=uh HY;have B2:=B1.fr F2<|nm _ ae ae;have B02:=B0.fr F2<|nm _ ae ae;have wH:j<C.size:=qBh;have cj:=(B2.c j).trans<|zo wH;have fj:=B2.f j;have B3:=B2.aP j (nA m) (C.setIfInBounds j<|nA m) rfl wH;have B03:=B02.bV (b2:=w.heap.size+1) ae j<|nA m;have Ig:=sr.trans HJ lW js2 Mg ae;have HD:=q9 je2<|q9 js2<|q9 Qc<|q9 Mg<|q9 hm<|q9 hVm<|q9 yE<|q9 GF<|q9 Bz AY
   have Bi:=ai (F1.trans' F2 (λb q=>by
    obtain q|q|q:=q
    .exact qy (qy q)
    .obtain⟨q,_⟩|⟨q,_⟩:=sr.new b q
     .exact qy (qz<|qy q)
     .exact qz ae
    .exact qy (qz<|qz q)))
   have z2:=F2.size;clear HC F2 F1 B0 B1 B2 B02 lW sr EI je2 js2 Qc Mg hm hVm yE GF Bz AY nm b0 b1 b2 ra
   go_wp2
   go_roundg(L.length-(j+1))
   case measure=>rw[uh dv];omega
   case rel=>
    have⟨x1,x2,x3,x4,x5,x6,x7⟩:=uh hT;obtain⟨je2,js2,Qc,Mg,hm,hVm,yE,GF,Bz,AY⟩:=HD;have⟨lW,sr,F1,B0,B1,EI⟩:=uh HY;have or3:=Ig;have js:=uh HJ;have Xd:=uh EQV;have oc:=One.cell w1 (w.heap.size+1) j<|nA m;have⟨u1,u2,u3,u4,u5⟩:=uh HZ;have hp1:=(sr.st.eR _ Mc).1;refine⟨j+1,C.setIfInBounds j<|nA m,g2,s2,cN,ol,M2,ps++[m],ai rfl,ae,jT,je2.one oc ae ae ae ae ae,?_,Qc.one oc ae,or3,Bi.set (qz ae) j _,B03,B3,ai (by simp;exact hC),ai ⟨by simp[x1],?_,?_,?_,?_,?_,by rw[Xd _ hpm]at AY;omega⟩⟩
    .exact SF
    .exact SG
    .rw[ql,qe bq,ql];have e1:ps.map g2.V=ps.map g1.V:=eC λp hp=>(Mg.eR p (x2 p hp).1).2;have e2:(L.take j).map (λp=>sub (ja bJ)<|g.V p)=(L.take j).map (λp=>sub (ja ol)<|g.V p):=qu λp hp=>by
      have W9:p∈L:=List.mem_of_mem_take hp;have hpg:=HLM p W9
      have:=aep lW js2 Mg (λv n=>Qc.any) (sr.st.eR p hpg).1 (λv ov av=>by
       rw[Xd p W9]at ov
       exact x5 v ⟨p,hp,ov⟩<|dZ.back js lW sr hpg ov av)
      rw[Xd p W9]at this;exact this
     rw[e1,x3,e2];simp[hVm,Xd _ hpm]
    .exact SH
    .rintro v⟨p,hp,o⟩av;rw[qe bq]at hp;obtain q|q:=List.mem_append.1 hp
     .have:=x5 v ⟨p,q,o⟩ av;exact SI
     .simp at q;subst q;exact GF v (by rw[Xd _ hpm];exact o)<|dZ.fwd js sr av
    .intro v q q';rw[qe bq]
     cases e:bJ v with
     |none=>
      have:=Bz v e q';rw[Xd _ hpm]at this;exact⟨L[j],qr _<|List.mem_singleton.2 rfl,this⟩
     |some n=>
      have⟨p,hp,o⟩:=x6 v q (by rw[e];simp);exact⟨p,qs _ hp,o⟩
  .have hd:decide ((j:Int)<(L.length:Int))=false:=bP;have ej:j=L.length:=ae;subst ej;have b0:=B0.c 0;have⟨_,_,a3,_,_⟩:=(lW.gl.nd x Vf.1).cells;rw[Vf.2.2]at a3;have a3':wr.cell? ⟨x,3,none⟩=some (Sv<|pn k):=a3;have HY:=ai<|q9 DO<|q9 lW<|q9 EI<|q9 sr<|q9 F1<|q9 B1 hT;clear DO lW EI sr F1 B0 B1 hT Xd Vf sz a3
   go_wp2
   go_region_held3(λw'=>w'.cell? ⟨w.heap.size,0,none⟩=some (Nv l)/\w'.cell? ⟨x,3,none⟩=some (Sv<|pn k)) (first|go_keep|(simp[*])) (first
    |(go_at_call 82;go_loud(refine(GD _ _ _ _ _).mono ?_);rintro e w3⟨rfl,uw⟩;have k3:Bq wr w3:=(by rw[uw];exact(xt _ _).drew.alloc (br _) _);have N3:w3.heap[wr.heap.size]? =some (Cv #[.pointer none,Nv l,Iv 0,Sv<|pn k,Lv (some ⟨w.heap.size+1,0,none⟩) L.length L.length] 187 (0,0)):=(by rw[uw];exact(xy wr.drew _).1);have s2:w3.cell? ⟨w.heap.size,0,none⟩=some (Nv l):=(xo (a:=⟨w.heap.size,0,none⟩) (w:=wr)<|k3.block w.heap.size ae).trans b0;have s3:w3.cell? ⟨x,3,none⟩=some (Sv<|pn k):=(xo (a:=⟨x,3,none⟩) (w:=wr)<|k3.block x ae).trans a3';have K3:=ai k3;have N3':=ai N3;clear uw k3 N3))
   go_wp2
   go_ret;have⟨DO,lW,EI,sr,F1,B1,x1,x2,x3,x4,x5,x6,x7⟩:=uh HY;simp only[qm]at x3 x5 x6 x7;have dA:=uh K3;have BE:=B1.below dA;have js:=uh HJ;have hV:=uh HV;have hz:¬wr.heap.size∈g1.ds:=λq=>by have:=lW.lt q;omega
   have hrd:¬(w.heap.size+1)∈g1.ds:=λq=>by
    obtain⟨q,_⟩|⟨q,_⟩:=sr.new _ q
    .have:=js.lt q;omega
    .omega
   have js3:=lW.abr dA (n:=wr.heap.size) (l:=l) (c:=k) (ps:=ps) (a:=(some ⟨w.heap.size+1,0,none⟩,L.length)) (br _) Fb ae x2 (qz ⟨w.heap.size+1,rfl,(λq=>by
    obtain q|q:=List.mem_cons.1 q
    .omega
    .exact hrd q),BE.z,λi hi=>(BE.c i).trans<|x4 i hi⟩) (by rw[x1];exact N3')
   have or3:OR l w.heap.size g1 s1 al bJ (g1.add wr.heap.size (some (k,ps)) 0 (some ⟨w.heap.size+1,0,none⟩,L.length) l<|.aK k<|ps.map g1.V) s1 al bJ:=OR.add lW ae hz (λgg e=>by injection e with e;injection e with e;omega);refine⟨wr.heap.size,_,s1,al,bJ,M1,rfl,DO.af dA,js3,(EI.af dA).add hz _ _ _ _,(sr.V8 ae).trans js lW js3 or3<|br _,ag,?_,λz q=>?_,λv o av=>?_,λv q q'=>?_,by rw[HSZ];omega,F1.trans<|zh dA⟩
   .rw[hV];simp only[xn,if_true,sub,iH,x3,qx];rfl
   .have:z=wr.heap.size:=q.one<|.here (lW.gl.out _ hz).1;subst this;simp[xn]
   .rw[hV]at o;simp only[aA]at o;have⟨t,h1,h2⟩:=(mH _ _).1 o;obtain⟨p,h3,rfl⟩:=List.mem_map.1 h1;exact x5 v ⟨p,h3,h2⟩ av
   .have⟨p,h1,h2⟩:=x6 v q q';rw[hV];simp only[aA];exact(mH _ _).2 ⟨_,qt h1,h2⟩
def ahY(hf:V9 c sb)(Oy:l<aL)(IH:aeq c nb l sb K):akf c nb l sb (K+1):=by
 intro w g s cnt ρ M x h j hu cp hx hn hl hg fa hz hc
 cases hs:g.str x with
 |none=>exact V_ hf Oy h j hu cp hx hn hl hg hs (by have:=size_pos<|g.V x;omega)|some q=>
  obtain⟨k,L⟩:=q;exact Wd hf IH h j hu cp hx hn fa hs hz hc
def afA(hf:V9 c sb)(Oy:l<aL):∀K,aeq c nb l sb K
 |0=>λw g s cnt ρ M n h j hu cp hn fa hk hc=>by have:=size_pos<|g.V n;omega|K+1=>ahX hf Oy<|ahY hf Oy<|afA hf Oy K
end
structure AJ w c nb l cnt g(s:jc):Prop where
 je:JE w c nb l cnt
 js:JS w g s
 us:∀n,s.u n->us cnt n
 lv:∀n,n∈g.ds->g.nx n=none->g.lv n<=l\/g.lv n=aL
 lo:∀n,n∈g.ds->c.lo<=n
structure fV l c(w:World)g(s:jc)w1 g1(s1:jc):Prop where
 st:iV l g s g1 s1
 an:∀m,m∈g.ds->∀h,Hd g.nx m h->g.lv h=aL->Hd g1.nx m h/\g1.lv h=aL
 lo:∀m,m∈g.ds->∀h h',Hd g.nx m h->Hd g1.nx m h'->∀i,i<=l->g.lv h<=i->g1.lv h'<=i
 nw:∀m,m∈g1.ds->m∈g.ds\/w.heap.size<=m
 fr:Fr (jS c g) w w1
 ky:∀v,s1.k v=sub s1.k (s.k v)
 um:∀n,s.u n->s1.u n
structure nJ l(g:gC)(s:jc)n T:Prop where
 mem:n∈g.ds
 val:g.V n=sub s.k T
 lv:∀x,Hd g.nx n x->g.lv x<=l
structure Cg(g:gC)(s:jc)(d:In.LO)m:Prop where
 mem:m∈g.ds
 val:g.V m=sub s.k d.of
 any:∀v,v∈d.any↔aA v (g.V m)/\dZ g v
 use:∀n,aA n d.of->s.u n
 sub:∀v,v∈d.any->aA v d.of
def cq w nb(Γ:jd)g(s:jc):=∃L,MG zd w nb L/\∀x,(Γ x=none/\aZ x L=none)\/∃d m,Γ x=some d/\aZ x L=some (nA m)/\Cg g s d m
section
variable {c:JC} {cnt:Nat}
def GG(h:∀v,s1.k v=sub s1.k (s.k v))T:sub s1.k (sub s.k T)=sub s1.k T:=by
 rw[sub_sub];exact sub_congr _ λv _=>(h v).symm
def AJ.hd(a:AJ w c nb l cnt g s)(hm:m∈g.ds)(k:Hd g.nx m h):g.lv h<=l\/g.lv h=aL:=a.lv h (a.js.gl.bN hm k) k.head
def fV.refl(h:JS w g s)c l:fV l c w g s w g s:=⟨.refl h l,λm _ h k e=>⟨k,e⟩,λm _ h h' k k' i _ z=>by rw[k'.one k];exact z,λm hm=>qy hm,.refl _ _,λv=>(h.ok.rf<|.var v).symm,λ_ q=>q⟩
def fV.trans{Wa Wb Wc:World}(h:JS Wa g s)(h1:JS Wb g1 s1)(h2:JS Wc g2 s2)(a:fV l c w g s w1 g1 s1)(b:fV l c w1 g1 s1 w2 g2 s2):fV l c w g s w2 g2 s2 where
 st:=a.st.trans h h1 h2 b.st
 an m hm x k e:=by have⟨k1,e1⟩:=a.an m hm x k e;exact b.an m (a.st.eR m hm).1 x k1 e1
 lo m hm x x' k k' i hi z:=by
  have⟨y,hy⟩:=h1.gl.hd m (a.st.eR m hm).1;exact b.lo m (a.st.eR m hm).1 y x' hy k' i hi<|a.lo m hm x y k hy i hi z
 nw m hm:=by
  obtain q|q:=b.nw m hm
  .exact a.nw m q
  .exact qz (xg a.fr.size q)
 fr:=a.fr.trans' b.fr λx q=>by
  obtain q|q|q:=q
  .omega
  .omega
  .exact(a.nw x q).imp (λz=>qz<|qz z) id
 ky v:=by rw[b.ky v,a.ky v,GG b.ky]
 um n q:=b.um n<|a.um n q
def fV.le(a:fV l c w g s w1 g1 s1)(hl:l'<=l):fV l' c w g s w1 g1 s1:={a with st:=⟨a.st.eR,a.st.val,λi hi=>a.st.VR i ae⟩,lo:=λm hm x x' k k' i hi=>a.lo m hm x x' k k' i<|by omega}
def nJ.eO(r:nJ l g s n T)(h:JS W g s)(a:fV l c w g s w1 g1 s1):nJ l g1 s1 n T:=by
 have⟨x,hx⟩:=h.gl.hd n r.mem;exact⟨(a.st.eR n r.mem).1,by rw[a.st.val n r.mem,r.val,GG a.ky],λy hy=>a.lo n r.mem x y hx hy l (br _)<|r.lv x hx⟩
def fV.aer(a:fV l c w g s w1 g1 s1){v:Nat}(q:dZ g v):dZ g1 v:=by
 obtain⟨x,⟨r1,r2,r3,r4⟩,e⟩:=q;have⟨k,e1⟩:=a.an x r1 x (.here r2) e;have⟨o1,o2,o3⟩:=a.st.eR x r1;exact⟨x,⟨o1,k.head,o2.trans r3,o3.trans r4⟩,e1⟩
def fV.root{W}(a:fV l c w g s w1 g1 s1)(h1:JS W g1 s1){v}(q:dZ g v):s1.k v=.var v:=by
 have⟨x,r,_⟩:=a.aer q;exact(h1.root r).2
def fV.back(hl:l<aL)(aj:AJ V c nb l cnt g s)(h1:JS W g1 s1)(a:fV l c w g s w1 g1 s1){v:Nat}(hm:m∈g.ds)(o:aA v (g1.V m))(q:dZ g1 v):aA v (g.V m)/\dZ g v:=by
 rw[a.st.val m hm]at o;have⟨u,ou,ov⟩:=(jz _).1 o;have⟨y,hy⟩:=aj.js.gl.hd m hm;have⟨x,r,_⟩:=fc (lv:=g.lv) aj.js.jg aj.js.can _ m y hm hy (br _) ou;obtain z|z:=aj.lv x r.1 r.2.1
 .exfalso;have⟨o1,o2,o3⟩:=a.st.eR x r.1;have⟨x',EK⟩:=h1.gl.hd x o1;have ez:=a.lo x r.1 x x' (.here r.2.1) EK l (br _) z;have ov':aA v (g1.V x):=by rw[h1.val x o1<|o2.trans r.2.2.1,o3,r.2.2.2];exact ov
  have⟨x2,r2,e2⟩:=fc (lv:=g1.lv) h1.jg h1.can _ x x' o1 EK (br _) ov';obtain⟨x3,r3,e3⟩:=q;have e2:=e2 h1.lc;rw[r2.one h1.jg r3,e3]at e2;omega
 .have qa:dZ g u:=⟨x,r,z⟩;rw[a.root h1 qa]at ov;simp only[aA]at ov;subst ov;exact⟨ou,qa⟩
def Cg.eO{d:In.LO}(n:Cg g s d m)(hl:l<aL)(aj:AJ V c nb l cnt g s)(h1:JS W g1 s1)(a:fV l c w g s w1 g1 s1):Cg g1 s1 d m where
 mem:=(a.st.eR m n.mem).1
 val:=by rw[a.st.val m n.mem,n.val,GG a.ky]
 any v:=by
  rw[n.any v];refine⟨λq=>⟨?_,a.aer q.2⟩,λq=>a.back hl aj h1 n.mem q.1 q.2⟩;rw[a.st.val m n.mem];exact(jz _).2 ⟨v,q.1,by rw[a.root h1 q.2];rfl⟩
 use k q:=a.um k<|n.use k q
 sub:=n.sub
def cq.eO{Γ}(e:cq w nb Γ g s)(hl:l<aL)(aj:AJ w c VX l cnt g s)(h1:JS w1 g1 s1)(a:fV l c w g s w1 g1 s1):cq w1 nb Γ g1 s1:=by
 obtain⟨L,h,q⟩:=e;refine⟨L,h.fr a.fr ?_,λx=>(q x).imp id λ⟨d,m,q1,q2,q3⟩=>⟨d,m,q1,q2,q3.eO hl aj h1 a⟩⟩;rintro(z|z|z)
 .have:=aj.je.ct.c 0;rw[<-z,h.bD 0]at this;simp at this
 .have:=aj.je.bx.c 0;rw[<-z,h.bD 0]at this;simp at this
 .exact(aj.js.nI h.ms).1 z
def OR.stj(o:OR l B g s cnt ρ g1 s1 al bJ)(h:JS w g s)(hB:w.heap.size<=B)(hf:Fr (jS c g) w w1):fV l c w g s w1 g1 s1 where
 st:=o.st
 an m hm x k e:=⟨(o.hd m hm x).2 k,by rw[(o.eR x<|h.gl.bN hm k).1];exact e⟩
 lo m hm x x' k k' i _ z:=by
  rw[((o.hd m hm x').1 k').one k,(o.eR x<|h.gl.bN hm k).1];exact z
 nw m hm:=(o.new m hm).imp (λq=>q.1) λq=>by have:=q.1;omega
 fr:=hf
 ky v:=by rw[o.kk];exact(h.ok.rf<|.var v).symm
 um n q:=(o.usd n).2<|qy q
def OR.aj(o:OR l B g s cnt ρ g1 s1 al bJ)(a:AJ w c nb l cnt g s)(hB:w.heap.size<=B)(je:JE w1 c nb l al)(js:JS w1 g1 s1):AJ w1 c nb l al g1 s1 where
 je:=je
 js:=js
 us:=o.used a.us
 lv n hm e:=by
  by_cases q:n∈g.ds
  .have k:=(o.hd n q n).1<|.here e;rw[(o.eR n q).1];exact a.lv n q k.head
  .exact qy (o.nl n hm q)
 lo n hm:=by
  obtain q|q:=o.new n hm
  .exact a.lo n q.1
  .have h1:=q.1;have h2:=a.je.z;have:=a.je.bx.z;omega
end
section
variable {c:JC} {cnt:Nat} {xB:jd}
def One.fr(o:One b w w')(h:S b):Fr S w w':=⟨o.os,o.tape,o.output,xf o.size.symm,λk _ hn=>o.block k λe=>hn<|e▸h⟩
def JS.eb(j:JS w g s)(h:JE w c nb l cnt)(o:One c.eb w w'):JS w' g s:=by
 refine j.one o (h.AV j) λm hm k l' gg hs hl hg e=>?_;have⟨ga,q1,q2,_⟩:=j.gl.row hm hs<|List.length_pos_iff.2 hl;rw[hg]at q1;injection q1 with q1;injection q1 with q1;subst q1;have:=h.bx.c 0;rw[<-e,q2]at this;simp at this
def AJ.eng(a:AJ w c nb l cnt g s)(o:One c.eb w w')(hb:Bx w' c.eb (V0 c VX l'))(hl:l<=l'):AJ w' c VX l' cnt g s:=
 ⟨a.je.fr a.js (o.fr<|qz<|qy rfl) hb<|a.je.ct.one o<|zv a.je.ne.1,a.js.eb a.je o,a.us,λn hn e=>(a.lv n hn e).imp (λq=>ae) id,a.lo⟩
def gD w b j v:One b w (w.setCell ⟨b,j,none⟩ v):=⟨rfl,rfl,rfl,C9,λi hi=>xw _ _ _ _ hi⟩
def AJ.given(a:AJ w c nb l cnt g s)VX:AJ (w.setCell ⟨c.eb,3,none⟩<|Mv VX) c VX l cnt g s:=a.eng (gD _ _ _ _) (a.je.bx.aP 3 _ _ rfl ag) (br _)
def AJ.af(a:AJ w c nb l cnt g s)(k:Bq w w'):AJ w' c nb l cnt g s:=⟨a.je.af k,a.js.af k,a.us,a.lv,a.lo⟩
def cq.af(e:cq w nb Γ g s)(k:Bq w w'):cq w' nb Γ g s:=by obtain⟨L,h,q⟩:=e;exact⟨L,h.af k,q⟩
def cq.one(e:cq w nb Γ g s)(o:One b w w')(h:nb≠b):cq w' nb Γ g s:=by obtain⟨L,m,q⟩:=e;exact⟨L,m.one o h,q⟩
def cq.afB(e:cq w nb Γ g s)(a:JE w c VX l cnt):nb≠c.eb:=λz=>by
 obtain⟨L,h,_⟩:=e;have:=a.bx.c 0;rw[<-z,h.bD 0]at this;simp at this
def cq.lt(e:cq w nb Γ g s):nb<w.heap.size:=by obtain⟨L,h,_⟩:=e;exact h.lt
def cq.new(w:World)g(s:jc):cq (w.alloc<|.map #[] 0) w.heap.size (λ_=>none) g s:=⟨[],MG.new _ w,λx=>qy ⟨rfl,rfl⟩⟩
def akg b1 b2 L1 L w gk wr:=
 ∃done L',IG zd wr w.heap.size b2 L done gk/\MG zd wr b1 L'/\(∀x,x∈done->aZ x L'=aZ x L/\aZ x L≠none)/\(∀x,¬x∈done->aZ x L'=aZ x L1)/\Fr (λi=>i=b1) w wr
def aes{b1 b2}{L1 L}(h1:MG zd w b1 L1)(h2:MG zd w b2 L)(hn:b1≠b2):
 Cq 395 #[Mv b1,Mv b2] w λe w'=>e=.returned (.tuple #[])/\(∃L',MG zd w' b1 L'/\∀x,aZ x L'=match aZ x L with|some v=>some v|none=>aZ x L1)/\Fr (λi=>i=b1) w w':=by
 have l1:=h1.lt;have⟨o,cnt,hrg,lY⟩:=h2.range cS;have k1:Bq w (w.alloc o):=bw _;have ST:akg b1 b2 L1 L w cnt (w.alloc o):=⟨[],L1,lY,h1.af k1,λx q=>by simp at q,λx _=>rfl,Fr.of k1⟩;go_enter func395,ntmps395
 go_wp2
 go_loopg[] cnt (λgk wr=>akg b1 b2 L1 L w gk wr)
 case atStart=>exact ST
 case round=>
  obtain⟨done,L',lY,hM,H3,H4,HF⟩:=hrel;have Xh:=lY.lt;have zr:=HF.size;rcases lY.next (P:=Tryz.prog) str_inj with⟨HA,DX⟩|⟨x,u,w2,aE,hxd,HX,DX,I2,Hj,xS,fW,hen⟩
  .have HM:=ai hM
   go_wp2
   go_end0;refine⟨rfl,⟨L',HM,λx=>?_⟩,HF⟩
   cases e:aZ x L with
   |some v=>rw[(H3 x<|HA x v e).1,e]|none=>
    exact H4 x λq=>(H3 x q).2 e
  .have F2:=xS;have M2:=hM.fr F2 ae;go_wp2_with(refine cu Pb cS rfl _ _ _ (qz rfl) rfl M2 x u rfl rfl ?_;intro w4 H' O';have S4:=ai H';have O4:=ai O';clear H' O');go_roundg aE
   case measure=>exact Hj
   case rel=>
    have o:=uh O4;refine⟨x::done,_,I2.same (o.block b2<|zv hn)<|o.block _ ae,S4,λy hy=>?_,λy hy=>?_,(HF.gZ F2<|λi e=>qz ae).trans<|o.fr rfl⟩
    .rw[aM];by_cases q:x=y
     .subst q;rw[if_pos rfl,HX];simp
     .rw[if_neg q];exact H3 y<|(List.mem_cons.1 hy).resolve_left<|zv q
    .rw[aM,if_neg λe=>hy Us];exact H4 y λq=>hy Mf
end
end
end Go.Proofs.YtfnkchdeheeiiaaGreatDoor
