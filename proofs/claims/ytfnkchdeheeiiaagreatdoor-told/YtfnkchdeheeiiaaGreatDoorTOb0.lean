import Derived.Test.YtfnkchdeheeiiaaGreatDoorTPp
import Derived.Test.YtfnkchdeheeiiaaGreatDoorTOg
set_option linter.all false
set_option maxRecDepth 100000
set_option maxHeartbeats 8000000
namespace Go.Proofs.YtfnkchdeheeiiaaGreatDoor
open In renaming inf->ja,MM->jc,St->jd,gD->jf,andM->jh,Env->ji,cT->jj,cy->jk,kR->jl,dY->jm,over->jo,Qo->jp,wY->jq,H9->jt,iw->ju,ux->jv,kM->jx,pE->jy,ub->jz
open Or renaming inr->j3,inl->j5
open _root_.Nat renaming le_trans->j6
open Fr renaming of->j7
open Un renaming dR->j8
open Go Go.RowKit Proofs.Tryz
variable {C xs:Array Value} {cn k st:BA} {dom:BA->Prop} {rc:Bool} {e:Ending} {g g0 g1:fW} {G Γ:ji} {p:jc Un.Ty} {d:In.Td} {s s0 s1:jd} {c:JC} {D D' S a b cnt0 ak f gb kb l m n nb t y:Nat} {Q Λ:Nat->Prop} {nd x:Nd} {α β:Type} {T:Un.Ty} {u v vx:Value} {W w w' w0 w1:World}
section
open Go.ChangeMaps Go.MapKept Un
section
variable {c:WC} {cnt:Nat}
def Ic(Hx:Bh x)(h:BdA rc st x c w cnt s kb Λ Γ gb Q dom vx):
 Cq 313 #[Pv c.eb,Mv kb,Mv gb,.agg #[.bool rc,Nv a,Nv y,.string st,vx]] w (ba c (1100*(1+nn x)) (1000*(1+nn x)) (jk rc st x (ja c.mks x) Γ) s cnt w):=by
 cases rc
 .exact YS Hx h
 .exact YT Hx h
def Nl{ta}{xa}{iQ}(q:acG c S D (jk rc st x (ja c.mks x) Γ) s cnt w0 ak T s1 ta xa iQ w1)(hk:WK w c cnt s kb)(hn:∀n,¬s.u n->Λ n)(hg:WG w c s Λ Γ gb):Eg w w1 c ak s s1 Λ iQ/\In.gH Λ s1 T:=by
 have⟨g1,g2⟩:=In.iq rc st x (In.lU c.mks x) Γ s Λ hk.ok hn hg.i T s1 q.m;exact⟨⟨⟨q.k,q.n,λn p=>by obtain r|r:=q.u n p;have:=hk.u n r;have:=q.c1;unfold us at*;omega;rw[us];omega,g1.ok,q.wh⟩,g1.new,g1⟩,g2⟩
def ba.wide{S'}(h:ba c S D p s cnt w0 e w')(hS:S<=S')(hD:D<=D')(hb:Bq w w0):ba c S' D' p s cnt w e w':=by
 obtain⟨F,aB,o,h1,h2,h3,h4,h5⟩:=h;refine⟨(j7 hb).trans F,aB,o,h1,ae,h3,h4,?_⟩;unfold agm at*;split
 .obtain⟨q1,q2,ta,xa,kb,q3,q4,q5,q6⟩:=h5;exact⟨q1,q2,ta,xa,kb,q3,q4,q5,q6.le hS⟩
 .exact h5
def Uo(Γ:ji)k t v:(jl Γ k t v).any.Nodup:=by
 cases v
 .simp[jl]
 .simp only[jl,if_true,In.ys];exact(cH _ List.nodup_nil).filter _
def agw{K}(hK:K=if rc then 11 else 10){z}{vz}(Hx:Bh x)(Hz:Bh z)(h:CO (.mk K st n [x,z] f t a) c w cnt s kb Λ Γ gb Q dom (.iface 315<|.agg #[Nv f,Nv t,.bool rc,Nv a,Nv y,.string st,vx,vz]))(hx:PE w Q x vx)(hz:PE w Q z vz):
 Cq 339 #[Pv c.eb,Mv kb,Mv gb,.agg #[Nv f,Nv t,.bool rc,Nv a,Nv y,.string st,vx,vz]] w (ba c (1100*nn (.mk K st n [x,z] f t a)) (1000*nn (.mk K st n [x,z] f t a)) (ja c.mks (.mk K st n [x,z] f t a) Γ) s cnt w):=by
 have en:nn (.mk K st n [x,z] f t a)=1+nn x+nn z:=LG;have ei:ja c.mks (.mk K st n [x,z] f t a) Γ=jh (jk rc st x (ja c.mks x) Γ) λt=>λs1=>ja c.mks z (jf Γ st<|jl (lH rc st Γ) s1.k t<|jt x) s1:=by rw[hK];exact Nm _ _ _ _ _ _ _ _ _ _
 have C0:=ai<|Cl.refl c (1100*(1+nn x+nn z)) (1000*(1+nn x+nn z)) (ja c.mks (.mk K st n [x,z] f t a) Γ) s cnt w;rw[ei]at C0;rw[en,ei];obtain⟨iL,sx,sz⟩:st∈c.nl/\ScE c.mks c.nl (λv=>dom v\/(rc=true/\v=st)) x/\ScE c.mks c.nl (λv=>dom v\/v=st) z:=by
  have⟨hs,hx,hz⟩:=h.sc.agx (by cases rc<;>simp[hK]);have e:(λv=>dom v\/(K=11/\v=st))=(λv=>dom v\/(rc=true/\v=st)):=by cases rc<;>simp[hK]
  rw[e]at hx;exact⟨hs,hx,hz⟩
 have⟨k0,B0⟩:=sf w #[Nv f,Nv t,.bool rc,Nv a,Nv y,Sv st,vx,vz] 315;have bd:BdA rc st x c w cnt s kb Λ Γ gb Q dom vx:=⟨h.we,h.wk,h.hn,h.wg,hx,h.hq,sx,h.hd,h.ft.le D8 D8,h.mf,iL⟩;have H1:=Ic (a:=a) (y:=y) Hx<|bd.af k0;have zc:=h.we.dh;have VR:=h.ft.a;have ftb:=h.ft.b;rw[en]at VR ftb;have HA:=ai h;have HX:=ai hx;have HZ:=ai hz;have K0:=ai k0;obtain⟨tx,ax,rfl⟩:=hx.iface;obtain⟨tz,az,rfl⟩:=hz.iface;clear h hx hz k0 bd Hx ei;go_enter func339,ntmps339;go_wp2_with fail;refine H1.mono ?_;intro e w1 hp;clear H1;obtain⟨ak,zz,vl,vr,rfl,q1⟩|⟨ak,T1,s1,yO,yP,iQ,rfl,q1⟩:=hp.split
 .clear hp
  go_wp2
  exact⟨rfl,q1.post (j7 K0) ae⟩
 have h:=uh HA;have F1:=(j7 (S:=λi=>i=c.cb) K0).trans q1.F;have⟨st1,ty1⟩:=Nl q1 h.wk h.hn h.wg;have c1:=q1.c1;have c2:=q1.c2;have C1:=C0.and q1.m F1 q1.c1 q1.u (D2:=1000*nn z) ae;have wg1:=h.wg.fr F1 st1.p.run;have px:=HX.move (Q:=Q) F1.size (λb p z=>F1.block b z<|h.hq b p)<|λ_ p _=>p;have pz:=HZ.move (Q:=Q) F1.size (λb p z=>F1.block b z<|h.hq b p)<|λ_ p _=>p;have z1:=q1.we.dh;have⟨se,sn⟩:=In.QN st1.k.ok st1.n wg1.i ty1 rc st<|jt x;have HS:∀W:World,Bq w1 W->Cq 352 #[Mv iQ,Mv gb,Av #[.bool rc,Nv a,Nv y,Sv st,Fv tx<|Av ax],Fv yO yP] W (SoP c (jl (lH rc st Γ) s1.k T1<|jt x) W):=λW hb=>Nn (q1.we.af hb) (st1.k.af hb) (wg1.af hb) (px.af hb) (S:=1100*(1+nn x)) ae (q1.t.af hb) ty1 ae h.ft.l;obtain⟨d,hd⟩:∃d,d=jl (lH rc st Γ) s1.k T1 (jt x):=⟨_,rfl⟩;have xK:d.any.Nodup:=by rw[hd];exact Uo _ _ _ _
 rw[<-hd]at HS;have HWI:∀(W:World)(u:Value),Bq w1 W->nL W (dn c) d u->Cq 319 #[Mv gb,Sv st,u] W (pu (dn c) (jf Γ st d) W):=λW u hb hu=>xP (wg1.e.af hb) st hu;have HXC:∀(W:World)(b:Nat),Bq w1 W->w1.heap.size<=b->bP W (dn c) b (jf Γ st d)->Cq 323 #[Pv c.eb,Mv iQ,Mv b,Fv tz<|Av az] W (ba c (1100*nn z) (1000*nn z) (ja c.mks z<|jf Γ st d) s1 ak W):=λW b hb hzb he=>
  Hz c W ak s1 iQ (In.less Λ d.any) _ b Q _ _ ⟨q1.we.af hb,st1.k.af hb,by rw[hd];exact sn,⟨he,ae,by rw[hd];exact se,λy d' q=>by
   rw[jf]at q;split at q
   .injection q with q;rw[<-q];exact xK
   .exact h.wg.nd y d' q,λy q=>by
   rw[jf]at q;split at q
   .rename_i e;rw[e];exact iL
   .exact h.wg.dm y q⟩,pz.af hb,h.hq,sz,Ei h.hd,h.ft.le D8 D8,h.mf⟩
 have CE:∀e w',ba c (1100*(1+nn x+nn z)) (1000*nn z) (ja c.mks z<|jf Γ st d) s1 ak w1 e w'->ba c (1100*(1+nn x+nn z)) (1000*(1+nn x+nn z)) (jh (jk rc st x (ja c.mks x) Γ) λt=>λs1=>ja c.mks z (jf Γ st<|jl (lH rc st Γ) s1.k t<|jt x) s1) s cnt w e w':=λe w' hh=>C1 e w' (by rw[hd]at hh;exact hh);have B1:=ai<|B0.fr q1.F ae;clear h F1 q1 st1 ty1 hp B0 C0 C1 wg1 px pz se sn hd xK HA HX HZ Hz K0;have⟨b1,b2,b3⟩:=uh B1
 go_wp2
 go_region_with(first
  |(go_at_call 352;go_loud(refine(HS _ (Below.refl _ _).drew).mono ?_);rintro e w4⟨u4,rfl,h4,k4⟩;have K4:Hid (Bq w1 w4):=ai<|(Below.refl _ _).drew.trans k4;have⟨d1,d2,d3⟩:=B1.below K4;have S4:=ai h4;clear k4 h4)
  |(go_at_call 319;go_loud(refine(HWI _ _ K4 S4).mono ?_);rintro e w5⟨b5,rfl,z5,h5,k5⟩;have K5:Hid (Bq w1 w5):=ai<|K4.trans<|k5.mono K4.size;have⟨g1,g2,g3⟩:=B1.below K5;have E5:=ai h5;have Z5:=ai<|j6 K4.size z5;clear k5 h5 z5)
  |(go_at_call 323;go_loud(refine(HXC _ _ K5 Z5 E5).mono ?_);intro e w6 hp;have lJ:=CE _ _<|hp.wide (S':=1100*(1+nn x+nn z)) (D':=1000*nn z) ae (br _) K5;obtain⟨Jf,zz,vl,vr,rfl,q6⟩|⟨Jf,T6,s6,YU,YV,VV,rfl,q6⟩:=hp.split;go_loud(exact⟨rfl,lJ⟩);have HPP:=ai lJ;clear hp lJ q6))
 all_goals
  go_wp2
  go_ret2;exact HPP
end
section
variable {c:WC} {cnt:Nat}
def CO.self(h:CO nd c w cnt s kb Λ Γ gb Q dom v)(hb:Bq w W):CO nd c W cnt s kb Λ Γ gb Q dom v:=h.part hb h.pe h.sc<|br _
def me mk k s n f t a(Γ:ji)K(h:(k=3/\K=qL)\/(k=4/\K=jL)\/(k=5/\K=iM)):ja mk (.mk k s n [] f t a) Γ=jj (.aJ K []):=by
 obtain⟨rfl,rfl⟩|⟨rfl,rfl⟩|⟨rfl,rfl⟩:=h<;>simp[ja,In.oB]
def h_ k s n f t a:nn (.mk k s n [] f t a)=1:=qBi
end
def YW:∀(k:Nat)(nd:Nd),nn nd<=k->Bh nd:=by
 intro k
 induction k with
 |zero=>intro nd h;cases nd;simp only[nn]at h;omega|succ k ih=>
  intro nd hk c w cnt s kb Λ Γ gb Q dom v h;have hp:=h.pe
  cases hp with
  |low st n f t a hs=>exact YK h|up st n f t a hs=>exact acO h|num st n f t a=>
   rw[me c.mks 3 st n f t a Γ qL<|j5 ⟨rfl,rfl⟩,h_];exact(YF h.we h.wk ae).1 _
  |word st n f t a hs=>
   rw[me c.mks 4 st n f t a Γ jL<|j3<|j5 ⟨rfl,rfl⟩,h_];exact(YF h.we h.wk ae).2.1 _
  |unit st n f t a=>
   rw[me c.mks 5 st n f t a Γ iM<|j3<|j3 ⟨rfl,rfl⟩,h_];exact(YF h.we h.wk ae).2.2
  |pr st n x y f t a vx vy hx hy=>
   have gF:nn x<=k/\nn y<=k:=Cy;obtain⟨tx,ax,rfl⟩:=hx.iface;obtain⟨ty,ay,rfl⟩:=hy.iface;exact I7.1 λW hb=>acR (ih x gF.1) (ih y gF.2) (h.self hb) (hx.af hb)<|hy.af hb
  |of st n x y f t a vx vy hx hy=>
   have gF:nn x<=k/\nn y<=k:=Cy;obtain⟨tx,ax,rfl⟩:=hx.iface;obtain⟨ty,ay,rfl⟩:=hy.bJ;exact I7.2.1 λW hb=>YX (ih x gF.1) (h.self hb) (hx.af hb)<|hy.af hb
  |op st n x y f t a vx vy hs hx hy=>
   have gF:nn x<=k/\nn y<=k:=Cy;obtain⟨tx,ax,rfl⟩:=hx.iface;obtain⟨ty,ay,rfl⟩:=hy.iface;exact I7.2.2.2.2.2.2.2 λW hb=>Up (ih x gF.1) (ih y gF.2) (h.self hb) (hx.af hb) (hy.af hb) hs
  |call st n x y f t a vx vy hx hy=>
   have gF:nn x<=k/\nn y<=k:=Cy;obtain⟨tx,ax,rfl⟩:=hx.iface;obtain⟨ty,ay,rfl⟩:=hy.iface;exact I7.2.2.1 λW hb=>acS (ih x gF.1) (ih y gF.2) (h.self hb) (hx.af hb)<|hy.af hb
  |fn st n x f t a y vx hs hy hx=>
   have gF:nn x<=k:=Cy;obtain⟨tx,ax,rfl⟩:=hx.iface;exact I7.2.2.2.1 λW hb=>ajo (ih x gF) (h.self hb)<|hx.af hb
  |lt K st n x z f t a y vx vz hc hs hy hx hz=>
   have gF:nn x<=k/\nn z<=k:=Cy;obtain⟨tx,ax,rfl⟩:=hx.iface;obtain⟨tz,az,rfl⟩:=hz.iface;have hK:K=if(K==11)=true then 11 else 10:=yG;exact I7.2.2.2.2.1 λW hb=>agw (rc:=K==11) hK (ih x gF.1) (ih z gF.2) (h.self hb) (hx.af hb)<|hz.af hb
  |ite st n x y z f t a vx vy vz hx hy hz=>
   have gF:nn x<=k/\nn y<=k/\nn z<=k:=Cy;obtain⟨tx,ax,rfl⟩:=hx.iface;obtain⟨ty,ay,rfl⟩:=hy.iface;obtain⟨tz,az,rfl⟩:=hz.iface;exact I7.2.2.2.2.2.1 λW hb=>Uq (ih x gF.1) (ih y gF.2.1) (ih z gF.2.2) (h.self hb) (hx.af hb) (hy.af hb)<|hz.af hb
  |mt st n x A f t a vx g sc vp ve h0 hg hz hc hx hp he=>
   have gF:nn x<=k/\b8 (aU A)<=k:=Cy;obtain⟨tx,ax,rfl⟩:=hx.iface
   exact I7.2.2.2.2.2.2.1 λW hb=>agy (ih x gF.1) (λi hi=>ih _ (by have:=sP A i hi;omega)) (h.self hb) hg (Nat.lt_of_lt_of_le hz hb.size) (λi hi=>by
    have l8:∀o,W.cell? ⟨g,o,none⟩=w.cell? ⟨g,o,none⟩:=λo=>World.cell?_of_block (a:=⟨g,o,none⟩)<|hb.block g hz;simp only[l8]
    exact hc i hi) (hx.af hb) (λi hi=>(hp i hi).af hb) (λi hi=>(he i hi).af hb)
def acr nd:Bh nd:=YW _ nd<|br _
def sg{α:Type}c(p:jc α)g(s:jd)w e w':=∃z vl vr,e=Np z.f vl vr/\p s (.error z)/\qO w' (λ_=>True) z vl vr/\Fr (jS c g) w w'
def cK c nb l D(p:jc Ty)g(s:jd)cnt w e w':=
 (∃n g' s' aB T,e=.returned (nA n)/\p s (.ok (T,s'))/\AJ w' c nb l aB g' s'/\fQ l c w g s w' g' s'/\aB<=cnt+D/\mO l g' s' n T)\/sg c p g s w e w'
structure mY nd c w nb l cnt g(s:jd)Γ dom v:Prop where
 aj:AJ w c nb l cnt g s
 en:bW w nb Γ g s
 pe:PE w (λb=>b<c.lo) nd v
 sc:ScE c.mks c.nl dom nd
 hd:∀x,dom x->Γ x≠none
 fa:cnt+1000*nn nd<=850000
 fb:l+nn nd<=805
 mf:MkFine c.mks
def iR nd:=∀(c:JC)(w:World)(nb l cnt:Nat)(g:fW)(s:jd)(Γ:ji)(dom:BA->Prop)(v:Value),mY nd c w nb l cnt g s Γ dom v->
 Cq 381 #[nA c.eb,v] w (cK c nb l (1000*nn nd) (ja c.mks nd Γ) g s cnt w)
structure xY c nb l w0 g0(s0:jd)w g(s:jd)cnt:Prop where
 a:AJ w c nb l cnt g s
 t:fQ l c w0 g0 s0 w g s
 z:∃k,AJ w0 c nb l k g0 s0
def qO.wide{P}{x}{vl vr}(h:qO w P x vl vr)(q:∀b,P b->Q b):qO w Q x vl vr:=⟨h.rK,λk=>⟨(h.apart k).1.move (br _) (λ_ _ _=>rfl)<|λb p _=>q b p,(h.apart k).2.move (br _) (λ_ _ _=>rfl)<|λb p _=>q b p⟩,h.k⟩
section
variable {cnt:Nat}
def xY.refl(a:AJ w c nb l cnt g s):xY c nb l w g s w g s cnt:=⟨a,.refl a.js c l,_,a⟩
def xY.next(n:xY c nb l w0 g0 s0 w g s cnt)(a:AJ w1 c nb l ak g1 s1)(t:fQ l c w g s w1 g1 s1):xY c nb l w0 g0 s0 w1 g1 s1 ak:=by
 have⟨k,z⟩:=n.z;exact⟨a,n.t.trans z.js n.a.js a.js t,n.z⟩
def xY.fr(n:xY c nb l w0 g0 s0 w g s cnt)(f:Fr (jS c g) w w1):Fr (jS c g0) w0 w1:=n.t.fr.trans' f λx q=>by
 obtain q|q|q:=q
 .omega
 .omega
 .exact(n.t.nw x q).imp (λz=>j3<|j3 z) id
def xY.af(n:xY c nb l w0 g0 s0 w g s cnt)(k:Bq w w1):xY c nb l w0 g0 s0 w1 g s cnt:=n.next (n.a.af k) {fQ.refl n.a.js c l with fr:=j7 k}
def xY.bad{p:jc α}{q:jc β}(n:xY c nb l w0 g0 s0 w g s cnt)(b:sg c p g s w e w')(hp:∀z,p s (.error z)->q s0 (.error z)):sg c q g0 s0 w0 e w':=by
 obtain⟨z,vl,vr,h1,h2,h3,h4⟩:=b;exact⟨z,vl,vr,h1,hp z h2,h3,n.fr h4⟩
def xY.bx(n:xY c nb l w0 g0 s0 w g s cnt)(h:Bx w0 b C)(hb:¬jS c g0 b):Bx w b C:=h.fr n.t.fr hb
def AJ.iG(a:AJ w c nb l cnt g s)(hb:w.heap.size<=b):¬jS c g b:=by
 have h1:=a.je.ct.z;have h2:=a.je.bx.z;rintro(q|q|q)
 .omega
 .omega
 .have:=a.js.lt q;omega
def AJ.Xr(a:AJ w c nb l cnt g s)(hb:b<c.lo):¬jS c g b:=by
 have h1:=a.je.z;rintro(q|q|q)
 .omega
 .omega
 .have:=a.lo b q;omega
def xY.pe(n:xY c nb l w0 g0 s0 w g s cnt)(h:PE w0 (λb=>b<c.lo) x u):PE w (λb=>b<c.lo) x u:=by
 have⟨k,z⟩:=n.z;exact h.move n.t.fr.size (λb p q=>n.t.fr.block b q<|z.Xr p)<|λ_ p _=>p
def mY.part(h:mY nd c w0 nb l cnt0 g0 s0 Γ dom v)(n:xY c nb l w0 g0 s0 w g s cnt)(hp:PE w0 (λb=>b<c.lo) x u)(hs:ScE c.mks c.nl dom x)(hz:cnt+1000*nn x<=cnt0+1000*nn nd)(hx:nn x<=nn nd):mY x c w nb l cnt g s Γ dom u:=
 have:=h.fa;have:=h.fb
 ⟨n.a,h.en.kX Xq h.aj n.a.js n.t,n.pe hp,hs,h.hd,ae,ae,h.mf⟩
def mY.up(h:mY nd c w nb l cnt g s Γ dom v)(k:Bq w w1):mY nd c w1 nb l cnt g s Γ dom v:=⟨h.aj.af k,h.en.af k,h.pe.af k,h.sc,h.hd,h.fa,h.fb,h.mf⟩
def cK.up(h:cK c nb l D p g s cnt w1 e w')(k:Bq w w1):cK c nb l D p g s cnt w e w':=by
 obtain⟨n,g',s',aB,T,h1,h2,h3,h4,h5,h6⟩|⟨z,vl,vr,h1,h2,h3,h4⟩:=h
 .exact j5 ⟨n,g',s',aB,T,h1,h2,h3,{h4 with nw:=λm hm=>(h4.nw m hm).imp id<|j6 k.size,fr:=(j7 k).trans h4.fr},h5,h6⟩
 .exact j3 ⟨z,vl,vr,h1,h2,h3,(j7 k).trans h4⟩
def cK.ok(n:xY c nb l w0 g0 s0 w g s cnt)(hp:p s0 (.ok (T,s)))(r:mO l g s m T)(hc:cnt<=cnt0+D):cK c nb l D p g0 s0 cnt0 w0 (.returned<|nA m) w:=j5 ⟨m,g,s,cnt,T,rfl,hp,n.a,n.t,hc,r⟩
def alc c nb l(p:jc Unit)g(s:jd)cnt w e w':=
 (e=.returned (.tuple #[])/\∃g' s',p s (.ok ((),s'))/\AJ w' c nb l cnt g' s'/\fQ l c w g s w' g' s')\/sg c p g s w e w'
def CX(aj:AJ w c nb l cnt g s)(hl:l<aL){x y:Ty}(ra:mO l g s a x)(rb:mO l g s b y)f t:
 Cq 384 #[nA a,nA b,.agg #[Nv f,Nv t]] w (alc c nb l (jz x y f t) g s cnt w):=by
 refine(YY aj.js ra.mem rb.mem ra.val rb.val f t).mono ?_;rintro e w'⟨F,⟨rfl,bi,cq,V',s',js,st,hp,hu,mo,ln⟩|⟨z,vl,vr,rfl,hp,hF⟩⟩
 .have F':Fr (jS c g) w w':=F.fV λb q=>j3<|j3 q;have ln:=ln (λx=>g.lv x<=l) (λx hx hn q k ps hs p hp h hh=>j6 (aj.js.lc x hx hn k ps hs p hp h hh) q) ra.lv rb.lv;have any:∀m,m∈g.ds->∀h h',Hd g.nx m h->Hd bi m h'->g.lv h=aL->h'=h/\cq h=aL:=λm hm h h' k k' e=>by
   have⟨q1,q2⟩:=(ln m hm h h' k k').1 (by rw[e];unfold aL at*;omega);exact⟨q1,q2.trans e⟩
  refine j5 ⟨rfl,_,s',hp,⟨aj.je.fr aj.js F' (aj.je.bx.fr F<|aj.je.yY aj.js)<|aj.je.ct.fr F<|aj.je.yZ aj.js,js,by rw[hu];exact aj.us,λn hn e=>?_,aj.lo⟩,⟨st l,λm hm h k e=>?_,λm hm h h' k k' i hi z=>j6 (mo m hm h h' k k') z,λm hm=>j5 hm,F',λv=>?_,λn q=>by rw[hu];exact q⟩⟩
  .have⟨h,k⟩:=aj.js.gl.hd n hn;have k':Hd bi n n:=.here e;obtain q|q:=aj.hd hn k
   .grind
   .grind
  .have⟨h',k'⟩:=js.gl.hd m hm;have⟨q1,q2⟩:=any m hm h h' k k' e;exact⟨q1▸k',q2⟩
  .obtain⟨_,q⟩|⟨_,_,⟨θ,_,q⟩|⟨_,q⟩⟩:=hp
   .cases q
   .cases q
    show sub θ (s.k v)=sub (λv=>sub θ<|s.k v) (s.k v);exact sub_congr _ λn o=>by rw[aj.js.ok.idem v n o];rfl
   .cases q
 .exact j3 ⟨z,vl,vr,rfl,hp,hF.wide λ_ _=>trivial,F.fV λb q=>j3<|j3 q⟩
def ajp c nb l g(s:jd)cnt w(e:Ending)w':=∃n g',e=.returned (nA n)/\jx s (.ok (cnt+1,⟨s.k,λm=>s.u m\/m=cnt+1⟩))/\AJ w' c nb l (cnt+1) g' ⟨s.k,λm=>s.u m\/m=cnt+1⟩/\fQ l c w g s w' g' ⟨s.k,λm=>s.u m\/m=cnt+1⟩/\mO l g' ⟨s.k,λm=>s.u m\/m=cnt+1⟩ n (.var<|cnt+1)/\g'.str n=none/\g'.vr n=cnt+1/\g'.nx n=none
def uD(aj:AJ w c nb l cnt g s)(hc:cnt<=1000000):Cq 382 #[nA c.eb] w (ajp c nb l g s cnt w):=by
 refine(oG aj.je aj.js aj.us hc).mono ?_;rintro e w'⟨n,rfl,hn,je,js,F⟩;have nd:¬n∈g.ds:=λq=>by have:=aj.js.lt q;omega
 have o:OR l w.heap.size g s cnt (λ_=>none) _ _ _ _:=OR.var (v:=0) aj.js hn nd aj.us rfl (λy n' q=>lI);have nx:=(aj.js.gl.out n nd).1;have hu:¬s.u (cnt+1):=λq=>by have:=aj.us _ q;rw[us]at this;omega
 refine⟨n,_,rfl,⟨cnt+1,hu,rfl⟩,o.aj aj (br _) je js,o.stj aj.js (br _)<|F.fV λb q=>j5 q,⟨ag,?_,λx k=>?_⟩,MI,MI,nx⟩
 .show j8 g.V n (.var<|cnt+1) n=s.k (cnt+1);simp[j8,aj.js.ok.out _ hu]
 .rw[k.one<|.here nx];simp[j8]
def agz(aj:AJ w c nb l cnt g s)(hn:w.heap.size<=n){q}{ar}(je:JE w' c nb l cnt)(js:JS w' (g.add n (some q) 0 ar l T) s)(k:Bq w w'):AJ w' c nb l cnt (g.add n (some q) 0 ar l T) s/\fQ l c w g s w' (g.add n (some q) 0 ar l T) s/\n∈(g.add n (some q) 0 ar l T).ds/\(g.add n (some q) 0 ar l T).V n=T/\∀x,Hd (g.add n (some q) 0 ar l T).nx n x->(g.add n (some q) 0 ar l T).lv x<=l:=by
 have nd:¬n∈g.ds:=λq=>by have:=aj.js.lt q;omega
 have nx:=(aj.js.gl.out n nd).1;refine⟨⟨je,js,aj.us,λm hm e=>?_,λm hm=>?_⟩,⟨.add aj.js nd rfl (λe=>by cases e),λm hm h hk e=>⟨hk,?_⟩,λm hm h h' hk gF i _ z=>?_,λm hm=>?_,j7 k,λv=>(aj.js.ok.vY<|.var v).symm,λ_ q=>q⟩,ag,MI,λx hx=>?_⟩
 .by_cases z:m=n
  .exact j5 (by simp[j8,z])
  .simp only[j8,z,if_false];exact aj.lv m ((List.mem_cons.1 hm).resolve_left z) e
 .obtain z|z:=List.mem_cons.1 hm
  .have:=aj.je.z;have:=aj.je.bx.z;omega
  .exact aj.lo m z
 .have z:h≠n:=λz=>nd<|z▸aj.js.gl.bI hm hk;simpa[j8,z]using e
 .have gF:=gF;rw[gF.one hk];have y:h≠n:=λz=>nd<|z▸aj.js.gl.bI hm hk;simpa[j8,y]using z
 .grind
 .have hx:=hx;rw[hx.one<|.here nx];simp[j8]
def aeW k c nb l g(s:jd)cnt x y w(e:Ending)w':=∃n g',e=.returned (nA n)/\AJ w' c nb l cnt g' s/\fQ l c w g s w' g' s/\mO l g' s n (.aJ k [x,y])
def QO{p:Prop}(h:p:=by
 rintro e w'⟨n,ar,rfl,hn,je,js,k⟩;obtain⟨h1,h2,h3,h4,h5⟩:=agz aj hn je js k
 exact⟨n,_,rfl,h1,h2,h3,by rw[h4,ra.val,rb.val];rfl,h5⟩):p:=h
def aeX(aj:AJ w c nb l cnt g s){x y:Ty}(ra:mO l g s a x)(rb:mO l g s b y):Cq 389 #[nA c.eb,nA a,nA b] w (aeW nB c nb l g s cnt x y w):=by
 refine(Jg (j5 ⟨rfl,rfl⟩) aj.je aj.js ⟨ra.mem,ra.lv⟩ ⟨rb.mem,rb.lv⟩).mono ?_;exact QO
def aeY(aj:AJ w c nb l cnt g s){x y:Ty}(ra:mO l g s a x)(rb:mO l g s b y):Cq 387 #[nA c.eb,nA a,nA b] w (aeW lj c nb l g s cnt x y w):=by
 refine(Jg (j3 ⟨rfl,rfl⟩) aj.je aj.js ⟨ra.mem,ra.lv⟩ ⟨rb.mem,rb.lv⟩).mono ?_;exact QO
def ajq c nb l D T g(s:jd)cnt w(e:Ending)w':=∃n g' aB,e=.returned (nA n)/\AJ w' c nb l aB g' s/\fQ l c w g s w' g' s/\aB<=cnt+D/\mO l g' s n T
def YZ(aj:AJ w c nb l cnt g s){v}(hv:dB w Q T v)(hQ:∀b,Q b->b≠c.cb)(hs:size T<=1000)(hT:∀n,¬aD n T)(hc:cnt+size T<=900000):Cq 379 #[nA c.eb,v] w (ajq c nb l (size T) T g s cnt w):=by
 refine(acT aj.je aj.js aj.us hv hQ hs hT hc).mono ?_;rintro e w'⟨n,g',aB,rfl,je,js,o,hn,hV,hl,pi,F⟩;exact⟨n,g',aB,rfl,o.aj aj (br _) je js,o.stj aj.js (br _)<|F.fV λb q=>j5 q,pi,hn,by rw[hV];exact(jy λn o=>absurd o<|hT n).symm,hl⟩
end
section
variable {cnt:Nat} {wQ:ji}
def GL.lq{ds}{str}{nx}{vr}{ly}{lv}(h:GL w ds str nx vr ly lv)(hs:w.heap.size<=w'.heap.size)(hb:∀b p,w.cell? ⟨b,0,none⟩=some (.pointer p)->w'.heap[b]? =w.heap[b]?):GL w' ds str nx vr ly lv:=by
 refine⟨λn hn=>?_,h.out,h.hd⟩;have⟨p1,p2,p3⟩:=h.nd n hn;have⟨p,hp⟩:=h.qE hn;refine⟨(hb n p hp).trans p1,?_,p3⟩
 cases e:str n with
 |none=>trivial|some q=>
  obtain⟨k,ps⟩:=q;rw[e]at p2;obtain⟨q1,q2,q3,q4⟩:=p2;refine⟨q1,q2,q3,?_⟩;by_cases e0:ps=[]
  .exact j5 e0
  .have⟨gg,r1,r2,r3,r4⟩:=q4.resolve_left e0;have hl:=List.length_pos_iff.2 e0;have:=hb gg _<|r4 0 hl;exact j3 ⟨gg,r1,r2,ae,λi hi=>by rw[<-r4 i hi];simp only[World.cell?,this]⟩
def AJ.lq{S}(a:AJ w c nb l cnt g s)(f:Fr S w w')(h:∀b,S b->b≠c.rb/\b≠c.mb/\∀o,w.cell? ⟨b,o,none⟩=none):AJ w' c nb l cnt g s:=by
 have nc:∀{b o v},w.cell? ⟨b,o,none⟩=some v->w'.heap[b]? =w.heap[b]? :=λ{b o v}q=>f.block b (eY q) λz=>by rw[(h b z).2.2 o]at q;cases q
 obtain⟨⟨bx,ct,rs,ms,z⟩,js,q1,q2,q3⟩:=a;have e1:=nc<|bx.c 0;have e2:=nc<|ct.c 0;exact⟨⟨bx.same f.size e1,ct.same f.size e2,rs.same<|f.block _ rs.lt λz=>(h _ z).1 rfl,(ms.Ur (S:=S) λb q a y e=>by rw[(h b q).2.2 0]at e;cases e).move f.size (f.block _ ms.lt λz=>(h _ z).2.1 rfl) (λb p y=>f.block b y p.2)<|λ_ p _=>p.1,⟨z.1,z.2.1,j6 z.2.2 f.size⟩⟩,⟨js.gl.lq f.size λb p q=>nc q,js.mF,js.inj,js.can,js.lc,js.val,js.use,js.ok⟩,q1,q2,q3⟩
theorem bW.over{nb1}{L L2 L'}(q:∀x,(Γ x=none/\aX x L=none)\/∃d m,Γ x=some d/\aX x L=some (nA m)/\Bu g s d m)(q2:∀x,(wQ x=none/\aX x L2=none)\/∃d m,wQ x=some d/\aX x L2=some (nA m)/\Bu g s d m)(h:MG Value.string w nb1 L')(e:∀x,aX x L'=match aX x L2 with|some v=>some v|none=>aX x L):bW w nb1 (jo wQ Γ) g s:=by
 refine⟨L',h,λx=>?_⟩;rw[e x];rw[jo];obtain⟨h1,h2⟩|⟨d,m,h1,h2,h3⟩:=q2 x
 .grind
 .grind
def pF{mb}(Hx:iR x)(aj:AJ w c nb l cnt g s)(en:bW w nb Γ g s)(em:bW w mb wQ g s)(hx:PE w (λb=>b<c.lo) x v)(sc:ScE c.mks c.nl dom x)(hd:∀y,dom y->jo wQ Γ y≠none)(fa:cnt+1000*nn x<=850000)(fb:l+nn x<=805)(mf:MkFine c.mks):
 Cq 383 #[nA c.eb,Mv mb,v] w (cK c nb l (1000*nn x) (ja c.mks x<|jo wQ Γ) g s cnt w):=by
 have f3:=aj.je.bx.c 3;have ze:=aj.je.bx.z;have fV:=aj.je.z.2.2;have zr:=aj.je.rs.lt;have zm:=aj.je.ms.lt;have n2:=em.aeF aj.je;have z2:=em.lt;obtain⟨L,m1,q1⟩:=en;obtain⟨L2,M2,q2⟩:=em;have HC:=WU m1;have HK:∀w1 w3 L',Bq w w1->w1.heap.size=w.heap.size+1->MG Sv w1 w.heap.size L->MG Sv w3 w.heap.size L'->(∀x,aX x L'=match aX x L2 with|some v=>some v|none=>aX x L)->Fr (λi=>i=w.heap.size) (w1.setCell ⟨c.eb,3,none⟩<|Mv w.heap.size) w3->xY c w.heap.size l w3 g s w3 g s cnt/\fQ l c w g s w3 g s/\Cq 381 #[nA c.eb,v] w3 (cK c w.heap.size l (1000*nn x) (ja c.mks x<|jo wQ Γ) g s cnt w3):=λw1 w3 L' k1 z1 mc m3 e3 f=>by
  have o:=gd w1 c.eb 3<|Mv w.heap.size;have aj3:=((aj.af k1).given w.heap.size).lq f λb e=>by
   have mc':=mc.one o ae;exact⟨ae,ae,λi=>by rw[e];exact mc'.bE i⟩
  have F:Fr (jS c g) w w3:=((j7 k1).trans<|o.fr<|j3<|j5 rfl).gV f λi e=>j3 ae;exact⟨.refl aj3,{fQ.refl aj.js c l with fr:=F},Hx c w3 w.heap.size l cnt g s _ dom v ⟨aj3,.over q1 q2 m3 e3,hx.move F.size (λb p q=>F.block b q<|aj.Xr p)<|λ_ p _=>p,sc,hd,fa,fb,mf⟩⟩
 obtain⟨tx,ax,rfl⟩:=hx.iface;go_enter func383,ntmps383;go_wp2_with fail;refine HC.mono ?_;rintro e w1⟨rfl,MC,K1,Z1⟩;have HD:=acU (w:=w1.setCell ⟨c.eb,3,none⟩<|Mv w.heap.size) (MC.one (gd _ _ _ _) ae) ((M2.af K1).one (gd _ _ _ _) n2) ae;have c1:=(aj.je.bx.below K1).c;have c2:=(aj.je.bx.below K1).f;go_wp2_with fail;refine HD.mono ?_;rintro e w3⟨rfl,⟨L',m3,e3⟩,F3⟩;have⟨NX,st,HE⟩:=HK w1 w3 L' K1 Z1 MC m3 e3 F3;have ST:=ai st;go_wp2_with fail;refine HE.mono ?_;rintro e w4(⟨n,g4,s4,ajr,T,rfl,HP,a4,t4,hc,R4⟩|⟨z,vl,vr,rfl,HP,hF,xL⟩)
 .have d1:=a4.je.bx.c;have d2:=a4.je.bx.f;have A5:=a4.given nb;have S5:=ST.trans aj.js NX.a.js a4.js t4
  go_wp2
  go_ret;have st:=S5;exact j5 ⟨n,g4,s4,ajr,T,rfl,HP,A5,{st with fr:=st.fr.set (j5<|j3<|j5 rfl) 3 _},hc,R4⟩
 .have HX:=show sg c (ja c.mks x<|jo wQ Γ) g s w (Np z.f vl vr) w4 from⟨z,vl,vr,rfl,HP,hF,ST.fr.trans xL⟩
  go_wp2
  exact⟨rfl,j3 HX⟩
end
structure mG{β:Type}c nb l w0 g0(s0:jd)(p:jc β)w g(s:jd)cnt(q:jc β):Prop where
 n:xY c nb l w0 g0 s0 w g s cnt
 p:∀o,q s o->p s0 o
section
variable {cnt:Nat} {q:jc Ty} {p' q':jc β} {m:jc α} {k:α->jc β} {a:α}
def mG.start(a:AJ w c nb l cnt g s)(p':jc β):mG c nb l w g s p' w g s cnt p':=⟨.refl a,λ_ h=>h⟩
def mG.and(n:mG c nb l w0 g0 s0 p' w g s cnt (jh m k))(hm:m s (.ok (a,s1)))(a1:AJ w1 c nb l ak g1 s1)(t1:fQ l c w g s w1 g1 s1):mG c nb l w0 g0 s0 p' w1 g1 s1 ak (k a):=⟨n.n.next a1 t1,λo ho=>n.p o<|j3 ⟨a,s1,hm,ho⟩⟩
def mG.bad(n:mG c nb l w0 g0 s0 p' w g s cnt (jh m k))(b:sg c m g s w e w'):sg c p' g0 s0 w0 e w':=n.n.bad b λz h=>n.p _<|j5 ⟨z,h,rfl⟩
def mG.ret{x}(n:mG c nb l w0 g0 s0 p w g s cnt (jj T))(r:mO l g s x T)(hc:cnt<=cnt0+D):cK c nb l D p g0 s0 cnt0 w0 (.returned<|nA x) w:=.ok n.n (n.p _ rfl) r hc
def mG.af(n:mG c nb l w0 g0 s0 p' w g s cnt q')(k:Bq w w1):mG c nb l w0 g0 s0 p' w1 g s cnt q':=⟨n.n.af k,n.p⟩
def mG.step(n:mG c nb l w0 g0 s0 p' w g s cnt q')(a1:AJ w1 c nb l ak g1 s)(t1:fQ l c w g s w1 g1 s):mG c nb l w0 g0 s0 p' w1 g1 s ak q':=⟨n.n.next a1 t1,n.p⟩
def mG.last(n:mG c nb l w0 g0 s0 p w g s cnt q)(h:cK c nb l D' q g s cnt w e w')(hc:cnt+D'<=cnt0+D):cK c nb l D p g0 s0 cnt0 w0 e w':=by
 obtain⟨x,g',s',aB,T,h1,h2,h3,h4,h5,h6⟩|h:=h
 .obtain rfl:=h1;exact .ok (n.n.next h3 h4) (n.p _ h2) h6 ae
 .exact j3 (n.n.bad h λz h=>n.p _ h)
def aeZ(d:In.Td)c nb l g(s:jd)cnt w(e:Ending)w':=∃n g' s' aB ρ,e=.returned (nA n)/\In.sK d.any jp s (.ok (ρ,s'))/\AJ w' c nb l aB g' s'/\fQ l c w g s w' g' s'/\aB<=cnt+48/\mO l g' s' n (sub (In.via ρ)<|sub s.k d.of)
def acV(aj:AJ w c nb l cnt g s)(hl:l<aL){m}(nm:Bu g s d m)(hz:size (g.V m)<=48)(hc:cnt+48<=900000):Cq 397 #[nA m,Nv l,vrV c] w (aeZ d c nb l g s cnt w):=by
 have iN:= @run_makeMap Tryz.prog;have k0:Bq w (w.alloc<|.map #[] 0):=bw _;have a0:=aj.af k0;have z:=aj.je.z.2.2;have hf:Us c w.heap.size:=⟨z,aj.je.bx.z,aj.je.ct.z,aj.je.rs.lt,aj.je.ms.lt⟩;have cp:uE (λ_=>False) l w.heap.size (w.alloc<|.map #[] 0) g s jp []:=⟨MS.new _ w,λp q=>by simp at q,λh v q=>by simp[aX]at q,λv n q=>lI⟩;have fa:Fa g l m:=⟨λx=>x∈g.ds/\g.nx x=none,λx hx _ _ k ps hs p hp h hh=>⟨aj.js.gl.bI (aj.js.jg.VW x k ps hx hs p hp) hh,hh.head⟩,λx q=>aj.lv x q.1 q.2,λh hh=>⟨aj.js.gl.bI nm.mem hh,hh.head⟩⟩;have HI:=ae0 (nb:=nb) hf hl 48 _ g s cnt jp [] m a0.je a0.js aj.us cp nm.mem fa hz ae;have HK:Hid (∀e w',Nq (λ_=>False) c nb l w.heap.size g s cnt jp m (w.alloc<|.map #[] 0) e w'->(∃n,e=Rv (nA n))/\aeZ d c nb l g s cnt w e w'):=ai λe w' hp=>by
  obtain⟨n,g',s',aB,eG,M',rfl,je,js,cp',o,hn,hV,yJ,h1,h2,h3,F⟩:=hp;have F':Fr (jS c g) w w':=(j7 k0).gV F λb q=>by
   obtain q|q|q:=q
   .exact j5 (j5 q)
   .exact j5 (j3<|j3 q)
   .exact j3 ae
  have o':=o.Ep k0.size;have agA:∀v,eG v≠none->aD v (g.V m)/\dQ g v:=λv q=>by
   have ov:=h2 v rfl q
   cases e:eG v with
   |none=>exact absurd e q|some x=>exact⟨ov,dQ.back aj.js js o' nm.mem ov<|cp'.any e⟩
  refine⟨⟨n,rfl⟩,n,g',s',aB,eG,rfl,⟨eG,s'.u,⟨λv n q=> lI,λv hv=>?_,λv hv=>h1 v ((nm.any v).1 hv).1 ((nm.any v).1 hv).2,λv n _ q=>o.nw v n rfl q,λv v' n _ q q'=>o.on v v' n rfl q q',o.Y3⟩,by rw[<-o.kk]⟩,o'.aj aj (br _) je js,o'.stj aj.js (br _) F',ae,hn,?_,yJ⟩
  .cases e:eG v with
   |none=>rfl|some x=>exact absurd ((nm.any v).2<|agA v (by rw[e];simp)) hv
  .rw[<-nm.val,<-hV];exact(jy λv ov=>by have⟨x,r⟩:=js.Cj hn ov;exact(js.root r).2).symm
 go_enter func397,ntmps397;go_wp2_with fail;refine HI.mono ?_;intro e w1 hp;obtain⟨⟨n,rfl⟩,Q⟩:=uh HK e w1 hp
 go_wp2
 go_ret;exact Q
def ae1(aj:AJ w c nb l cnt g s)(hn:n∈g.ds)f t:Cq 378 #[nA n,.agg #[Nv f,Nv t]] w (λe w'=>(∃bi,AJ w' c nb l cnt {g with nx:=bi} s/\fQ l c w g s w' {g with nx:=bi} s)/\((size (g.V n)<=48/\e=.returned (.tuple #[]))\/(48<size (g.V n)/\e=Np ⟨7,f,t⟩ .nilIface .nilIface))):=by
 refine(qY aj.js hn f t).mono ?_;rintro e w'⟨⟨bi,E,js⟩,F,h⟩;have o:OR l w.heap.size g s cnt jp {g with nx:=bi} s cnt jp:=OR.eqv aj.js E js.gl _;have F':Fr (jS c g) w w':=F.fV λb q=>j3<|j3 q;exact⟨⟨bi,o.aj aj (br _) (aj.je.fr aj.js F' (aj.je.bx.fr F<|aj.je.yY aj.js)<|aj.je.ct.fr F<|aj.je.yZ aj.js) js,o.stj aj.js (br _) F'⟩,h⟩
def agB(aj:AJ w c nb l cnt g s)(hl:l<aL)(en:bW w nb Γ g s){x}(hx:Γ x≠none)f t(hc:cnt+48<=900000):Cq 385 #[nA c.eb,.agg #[Nv f,Nv t,.string x]] w (cK c nb l 48 (jq Γ x f t) g s cnt w):=by
 obtain⟨L,hM,hq⟩:=en;have⟨d,m,e1,e2,NM⟩:=(hq x).resolve_left λq=>hx q.1;have⟨k0,b0⟩:=nK w #[Nv f,Nv t,Sv x] 356;have HL:∀n,(Instr.lookup 220 (Mv nb) (Sv x) false).run Tryz.prog ((w.alloc<|Cv #[Nv f,Nv t,Sv x] 356).drewN n)=.ok (nA m) ((w.alloc<|Cv #[Nv f,Nv t,Sv x] 356).drewN n):=λn=>by
  have:=(hM.af<|k0.drewN n).ms.look PL cE (sQ _) x trivial (λ_ _=>trivial) false;rw[e2]at this;exact this
 have f3:=(aj.af k0).je.bx.c 3;obtain⟨c1,c2,c3⟩:=b0;have K0:=ai k0;go_enter func385,ntmps385
 go_wp2
 go_quiet(fail);have KQ:=K0.drewN nq;have aQ:=aj.af KQ;have HM:=ae1 aQ NM.mem f t;have N0:=xY.refl aQ;go_wp2_with fail;refine HM.mono ?_;rintro e w2⟨⟨oH,a2,t2⟩,⟨hz,rfl⟩|⟨hz,rfl⟩⟩
 .have N2:=N0.next a2 t2;have nm2:=NM.kX hl N0.a a2.js t2;have HI:=acV a2 hl nm2 hz hc;have HV:=ai nm2.val;have f4:=a2.je.bx.c 4;go_wp2_with fail;refine HI.mono ?_;rintro e w3⟨n,g3,s3,qZ,ρ,rfl,hd,a3,t3,hc3,r3⟩;have n3:=N2.next a3 t3;have hp:jq Γ x f t s (.ok (sub (In.via ρ)<|sub s.k d.of,s3)):=by
   rw[jq];rw[e1];exact j3 ⟨by rw[<-(uh HV)];exact hz,ρ,s3,hd,rfl⟩
  have HX:=(cK.ok (D:=48) (cnt0:=cnt) n3 hp r3 hc3).up KQ
  go_wp2
  go_ret;exact HX
 .have HX:=show cK c nb l 48 (jq Γ x f t) g s cnt w (Np ⟨7,f,t⟩ Zv Zv) w2 from j3 ⟨In.rK f t,Zv,Zv,rfl,by rw[jq];rw[e1];exact j5 ⟨by rw[<-NM.val];exact hz,rfl⟩,⟨λ_=>⟨rfl,rfl⟩,λq=>by simp[In.rK]at q,j3 rfl⟩,(j7 KQ).trans t2.fr⟩
  go_wp2
  exact⟨rfl,HX⟩
end
def ajs c nb l D(p:jc Unit)g(s:jd)cnt w e w':=
 (e=.returned (.tuple #[])/\∃g' s' aB,p s (.ok ((),s'))/\AJ w' c nb l aB g' s'/\fQ l c w g s w' g' s'/\aB<=cnt+D)\/sg c p g s w e w'
def ajt(hu:nI k)w:dB w (λ_=>False) (.aJ k []) (.iface 169<|.agg #[.string k,.slice none 0 0]):=by
 have:=dB.aJ (w:=w) (P:=λ_=>False) k [] none 0 (λ_=>Zv) (j3<|j3 hu) (j5 rfl)<|λi h=>tW
 rwa[eM hu]at this
section
variable {cnt:Nat}
def Ut(aj:AJ w c nb l cnt g s)(hu:nI k)(hc:cnt+1<=900000):Cq 379 #[nA c.eb,.iface 169<|.agg #[.string k,.slice none 0 0]] w (ajq c nb l 1 (.aJ k []) g s cnt w):=by
 have:=YZ aj (ajt hu w) (λb q=>q.elim) (by simp[size,ah]) (λn q=>by simp[aD,bT]at q) (by simpa[size,ah]using hc);simpa[size,ah]using this
def Y4{tx}{ax}(Hx:iR x)(h:mY x c w nb l cnt g s Γ dom (.iface tx ax)):Cq 392 #[nA c.eb,.iface tx ax] w (ajs c nb l (1000*nn x+1) (jh (ja c.mks x Γ) λa=>jz a In.iy (ju x)<|jv x) g s cnt w):=by
 have H1:=Hx c w nb l cnt g s Γ dom _ h;have fa:=h.fa;have fb:=h.fb;have pl:=h.pe.place;dsimp only[PlF]at pl;have N0:=mG.start h.aj<|In.andM (In.inf c.mks x Γ) λa=>In.ub a In.iy (In.iw x)<|In.ux x;go_enter func392,ntmps392;go_wp2_with fail;refine H1.mono ?_;rintro e w1(⟨n1,g1,s1,ak,T1,rfl,p1,A1,t1,c1,R1⟩|hb)
 .have H2:=Ut A1 mJ ae;have N1:=N0.and p1 A1 t1;go_wp2_with fail;refine(rX).mono ?_;rintro e w1'⟨rfl,rfl⟩;go_wp2_with fail;refine H2.mono ?_;rintro e w2⟨n2,g2,cD,rfl,a2,t2,c2,r2⟩;have N2:=N1.step a2 t2;have R2:=And.intro (R1.kX A1.js t2) r2;go_wp2_with fail;refine(c_ _ _).mono ?_;rintro e w3⟨rfl,k3⟩;have N3:=N2.af k3;have H3:=CX N3.n.a Xq R2.1 R2.2 (ju x)<|jv x;go_wp2_with fail;refine H3.mono ?_;rintro e w4(⟨rfl,g4,s4,p4,a4,t4⟩|hb)
  .have n4:=N3.n.next a4 t4;have HX:=show ajs c nb l (1000*nn x+1) (jh (ja c.mks x Γ) λa=>jz a In.iy (ju x)<|jv x) g s cnt w (Rv<|.tuple #[]) w4 from j5 ⟨rfl,g4,s4,cD,N3.p _ p4,n4.a,n4.t,ae⟩
   go_wp2
   go_end0;exact HX
  .have HX:=N3.n.bad hb<|λz q=>N3.p _ q;obtain⟨z,vl,vr,rfl,-⟩:=hb
   go_wp2
   exact⟨rfl,j3 HX⟩
 .have HX:=N0.bad hb;obtain⟨z,vl,vr,rfl,-⟩:=hb
  go_wp2
  exact⟨rfl,j3 HX⟩
end
structure BdJ rc st x c w nb l cnt g(s:jd)(Γ:ji)(dom:BA->Prop)v:Prop where
 aj:AJ w c nb l cnt g s
 en:bW w nb Γ g s
 pe:PE w (λb=>b<c.lo) x v
 sc:ScE c.mks c.nl (λy=>dom y\/(rc=true/\y=st)) x
 hd:∀y,dom y->Γ y≠none
 fa:cnt+1000*(1+nn x)<=850000
 fb:l+nn x<=805
 mf:MkFine c.mks
section
variable {cnt:Nat}
def One.af(o:One b W w')(k:Bq w W)(hb:w.heap.size<=b):Bq w w':=⟨o.os.trans k.os,o.tape.trans k.tape,o.output.trans k.output,by rw[o.size];exact k.size,λi hi=>(o.block i ae).trans<|k.block i hi⟩
def mO.nm{n:Nat}{T:Ty}(r:mO l g s n T)(js:JS w g s)(hl:l<aL)(hu:∀k,aD k T->s.u k):Bu g s (In.mono T) n where
 mem:=r.mem
 val:=r.val
 any v:=⟨λq=> lI,λ⟨o,x,rx,e⟩=>by
  have⟨y,hy⟩:=js.gl.hd n r.mem;have⟨z,rz,q⟩:=eZ (lv:=g.lv) js.jg js.can _ n y r.mem hy (br _) o;have q:=q js.lc;have:=r.lv y hy;rw[rz.one js.jg rx,e]at q
  omega⟩
 use:=hu
 sub v q:=lI
def bW.lit{y}(h:MG Value.string w b (bD y (nA m) []))(n:Bu g s d m):bW w b (jf (λ_=>none) y d) g s:=by
 refine⟨_,h,λz=>?_⟩;rw[aO];rw[jf];by_cases e:y=z
 .grind
 .rw[if_neg e,if_neg<|Ne.symm e];exact j5 ⟨rfl,rfl⟩
def BdJ.up(h:BdJ rc st x c w nb l cnt g s Γ dom v)(k:Bq w w1):BdJ rc st x c w1 nb l cnt g s Γ dom v:=⟨h.aj.af k,h.en.af k,h.pe.af k,h.sc,h.hd,h.fa,h.fb,h.mf⟩
def Y5(Hx:iR x)(h:BdJ false st x c w nb l cnt g s Γ dom v):Cq 380 #[nA c.eb,.agg #[.bool false,Nv a,Nv y,.string st,v]] w (cK c nb l (1000*(1+nn x)) (jk false st x (ja c.mks x) Γ) g s cnt w):=by
 have k0:Bq w (w.alloc<|Cv #[.bool false,Nv a,Nv y,Sv st,v] 142):=bw _;have h0:=h.up k0;have fa:=h.fa;have fb:=h.fb;have H1:=Hx c _ nb l cnt g s Γ _ v ⟨h0.aj,h0.en,h0.pe,h0.sc,λz q=>h.hd z (q.resolve_right λq=>by cases q.1),ae,ae,h.mf⟩;obtain⟨tx,ax,rfl⟩:=h.pe.iface;have N0:=mG.start h0.aj<|In.inf c.mks x Γ;have K0:=ai k0;go_enter func380,ntmps380;go_wp2_with fail;refine H1.mono ?_;intro e w1 hq;have HX:=(N0.last (cnt0:=cnt) (D:=1000*(1+nn x)) hq ae).up K0;obtain⟨n1,g1,s1,ak,T1,rfl,-⟩|⟨z,vl,vr,rfl,-⟩:=hq
 .clear H1
  go_wp2
  go_ret;exact HX
 .clear H1
  go_wp2
  exact⟨rfl,HX⟩
def QP{p:Prop}(h:p:=by
 obtain⟨z,vl,vr,rfl,-⟩:=hb
 go_wp2
 exact⟨rfl,cK.up (j3 HX) K0⟩):p:=h
def Y6(Hx:iR x)(h:BdJ true st x c w nb l cnt g s Γ dom v):Cq 380 #[nA c.eb,.agg #[.bool true,Nv a,Nv y,.string st,v]] w (cK c nb l (1000*(1+nn x)) (jk true st x (ja c.mks x) Γ) g s cnt w):=by
 have iN:= @run_makeMap Tryz.prog;have fa:=h.fa;have fb:=h.fb;have hl:l<aL:=Xq;have⟨k0,B0⟩:=nK w #[.bool true,Nv a,Nv y,Sv st,v] 142;have HA:=h.up k0;have CY:=h.aj.iG<|br _;have N0:=mG.start HA.aj<|In.cy true st x (In.inf c.mks x) Γ;rw[Er]at N0;rw[Er];have H1:=uD HA.aj ae;obtain⟨tx,ax,rfl⟩:=h.pe.iface;have pl:=h.pe.place;dsimp only[PlF]at pl;have K0:=ai k0;go_enter func380,ntmps380;go_wp2_with fail;refine H1.mono ?_;rintro e w1⟨n1,g1,rfl,p1,a1,t1,R1,-⟩;have N1:=N0.and p1 a1 t1;have nm:=R1.nm a1.js hl (λk o=>by simp only[aD]at o;exact Or.inr o.symm);have HW:∀(w2:World)(mb:Nat),Bq w1 w2->MG Sv w2 mb (bD st (nA n1) [])->Cq 383 #[nA c.eb,Mv mb,Fv tx<|Av ax] w2 (cK c nb l (1000*nn x) (In.inf c.mks x<|In.gD Γ st<|In.mono<|.var<|cnt+1) g1 ⟨s.k,λm=>s.u m\/m=cnt+1⟩ (cnt+1) w2):=λw2 mb k hM=>by
  have h:=HA;have n1:=N1.n;have:=pF Hx (a1.af k) ((h.en.kX hl h.aj a1.js t1).af k) (bW.lit hM nm) ((n1.pe h.pe).af k) h.sc (λz q=>?_) ae ae h.mf
  .rw[jM]at this;exact this
  .rw[jM];rw[jf];split
   .simp
   .exact h.hd z (q.resolve_right λq=>by have:=q.2;contradiction)
 have⟨b1,b2,b3⟩:=N1.n.bx B0 CY;go_wp2_with(refine cd PL cE rfl _ _ _ (j5 rfl) rfl (MG.new _ _) st (nA n1) rfl rfl ?_;intro w2 hM o;have k2:=o.af ((Below.refl _ w1).alloc (br _)<|.map #[] 0)<|br _;have⟨d1,d2,d3⟩:=N1.af k2|>.n.bx B0 CY;have HM:=ai hM;have K2:=ai k2;clear hM o k2);refine(HW _ _ K2 HM).mono ?_;rintro e w3(⟨n3,g3,s3,qZ,T3,rfl,p3,a3,t3,c3,r3⟩|hb)
 .have N3:=(N1.af K2).and p3 a3 t3;have R3:=And.intro (R1.kX N1.n.a.js t3) r3;have⟨d1',d2',d3'⟩:=N3.n.bx B0 CY;go_wp2_with fail;refine(c_ _ _).mono ?_;rintro e w4⟨rfl,k4⟩;have N4:=N3.af k4;have H4:=CX N4.n.a hl R3.1 R3.2 (ju x)<|jv x;go_wp2_with fail;refine H4.mono ?_;rintro e w5(⟨rfl,g5,s5,p5,a5,t5⟩|hb)
  .have N5:=N4.and p5 a5 t5;have R5:=R3.2.kX N4.n.a.js t5
   go_wp2
   go_ret;exact(N5.ret R5 ae).up K0
  .have HX:=N4.bad hb;exact QP
 .have HX:=(N1.af K2).bad hb;exact QP
def Xp(Hx:iR x)(h:BdJ rc st x c w nb l cnt g s Γ dom v):Cq 380 #[nA c.eb,.agg #[.bool rc,Nv a,Nv y,.string st,v]] w (cK c nb l (1000*(1+nn x)) (jk rc st x (ja c.mks x) Γ) g s cnt w):=by
 cases rc
 .exact Y5 Hx h
 .exact Y6 Hx h
end
abbrev jG c g gb b:=jS c g b\/b=gb
def Y7{α:Type}c gb(p:jc α)g s w e w':=∃z vl vr,e=Np z.f vl vr/\p s (.error z)/\qO w' (λ_=>True) z vl vr/\Fr (jG c g gb) w w'
def pW c nb l gb D(p:jc (Ty×ji))g s cnt w e w':=
 (∃n g' s' aB T G,e=.returned (nA n)/\p s (.ok ((T,G),s'))/\AJ w' c nb l aB g' s'/\fQ l c w g s w g' s'/\Fr (jG c g gb) w w'/\bW w' gb G g' s'/\aB<=cnt+D/\mO l g' s' n T)\/Y7 c gb p g s w e w'
structure Es nd c w nb l cnt g s gb(G:ji)v:Prop where
 aj:AJ w c nb l cnt g s
 en:bW w gb G g s
 pp:PP w (λb=>b<c.lo) nd v
 sc:rN c.mks c.nl nd
 fg:c.fV<=gb/\gb≠c.rb/\gb≠c.mb/\c.lo<=gb
 fa:cnt+1000*nn nd<=850000
 fl:l<aL
 mf:MkFine c.mks
def Nr nd:=∀(c:JC)(w:World)(nb l cnt:Nat)(g:fW)(s:jd)(gb:Nat)(G:ji)(v:Value),Es nd c w nb l cnt g s gb G v->
 Cq 399 #[nA c.eb,Mv gb,v] w (pW c nb l gb (1000*nn nd) (jm c.mks nd G) g s cnt w)
structure mg{β:Type}c nb l gb w0 g0 s0(p:jc β)w g s cnt(q:jc β):Prop where
 a:AJ w c nb l cnt g s
 t:fQ l c w0 g0 s0 w0 g s
 f:Fr (jG c g0 gb) w0 w
 z:∃k,AJ w0 c nb l k g0 s0
 p:∀o,q s o->p s0 o
section
variable {W1:World} {cnt:Nat} {p' q':jc β} {m:jc α} {k:α->jc β} {a:α}
def fQ.fg(t:fQ l c w g s w1 g1 s1):Fr (jG c g gb) w w1:=t.fr.fV λ_ q=>j5 q
def mg.start(a:AJ w c nb l cnt g s)(p':jc β):mg c nb l gb w g s p' w g s cnt p':=⟨a,.refl a.js c l,.refl _ _,⟨_,a⟩,λ_ h=>h⟩
def mg.fr(n:mg c nb l gb w0 g0 s0 p' w g s cnt q')(f:Fr (jG c g gb) w w1):Fr (jG c g0 gb) w0 w1:=n.f.trans' f λx q=>by
 obtain  (q|q|q)|q:=q
 .omega
 .omega
 .exact(n.t.nw x q).imp (λz=>j5<|j3<|j3 z) id
 .omega
def mg.gr(n:mg c nb l gb w0 g0 s0 p' w g s cnt q')(a1:AJ w1 c nb l ak g1 s1)(t1:fQ l c w g s W g1 s1):fQ l c w0 g0 s0 w0 g1 s1:=by
 have⟨k,z⟩:=n.z;exact n.t.trans z.js n.a.js a1.js {t1 with nw:=λm hm=>(t1.nw m hm).imp id<|j6 n.f.size,fr:=.refl _ _}
def mg.and(n:mg c nb l gb w0 g0 s0 p' w g s cnt (jh m k))(hm:m s (.ok (a,s1)))(a1:AJ w1 c nb l ak g1 s1)(t1:fQ l c w g s W g1 s1)(f:Fr (jG c g gb) w w1):mg c nb l gb w0 g0 s0 p' w1 g1 s1 ak (k a):=⟨a1,n.gr a1 t1,n.fr f,n.z,λo ho=>n.p o<|j3 ⟨a,s1,hm,ho⟩⟩
def mg.step{W}(n:mg c nb l gb w0 g0 s0 p' w g s cnt q')(a1:AJ w1 c nb l ak g1 s)(t1:fQ l c w g s W g1 s)(f:Fr (jG c g gb) w w1):mg c nb l gb w0 g0 s0 p' w1 g1 s ak q':=⟨a1,n.gr a1 t1,n.fr f,n.z,n.p⟩
def mg.af(n:mg c nb l gb w0 g0 s0 p' w g s cnt q')(k:Bq w w1):mg c nb l gb w0 g0 s0 p' w1 g s cnt q':=n.step (n.a.af k) (.refl n.a.js c l)<|j7 k
def sg.bp{p:jc α}(b:sg c p g s w e w'):Y7 c gb p g s w e w':=by
 obtain⟨z,vl,vr,h1,h2,h3,h4⟩:=b;exact⟨z,vl,vr,h1,h2,h3,h4.fV λ_ q=>j5 q⟩
def mg.bad(n:mg c nb l gb w0 g0 s0 p' w g s cnt (jh m k))(b:Y7 c gb m g s w e w'):Y7 c gb p' g0 s0 w0 e w':=by
 obtain⟨z,vl,vr,h1,h2,h3,h4⟩:=b;exact⟨z,vl,vr,h1,n.p _<|j5 ⟨z,h2,rfl⟩,h3,n.fr h4⟩
def mg.bx(n:mg c nb l gb w0 g0 s0 p' w g s cnt q')(h:Bx w0 b C)(hb:¬jG c g0 gb b):Bx w b C:=h.fr n.f hb
def mg.ret{p:jc (Ty×ji)}{x}(n:mg c nb l gb w0 g0 s0 p w g s cnt (jj (T,G)))(en:bW w gb G g s)(r:mO l g s x T)(hc:cnt<=cnt0+D):pW c nb l gb D p g0 s0 cnt0 w0 (.returned<|nA x) w:=j5 ⟨x,g,s,cnt,T,G,rfl,n.p _ rfl,n.a,n.t,n.f,en,hc,r⟩
def pW.up{p:jc (Ty×ji)}(h:pW c nb l gb D p g s cnt w1 e w')(k:Bq w w1):pW c nb l gb D p g s cnt w e w':=by
 obtain⟨n,g',s',aB,T,G,h1,h2,h3,h4,h5,h6⟩|⟨z,vl,vr,h1,h2,h3,h4⟩:=h
 .exact j5 ⟨n,g',s',aB,T,G,h1,h2,h3,{h4 with nw:=λm hm=>(h4.nw m hm).imp id<|j6 k.size,fr:=.refl _ _},(j7 k).trans h5,h6⟩
 .exact j3 ⟨z,vl,vr,h1,h2,h3,(j7 k).trans h4⟩
def AJ.gno(aj:AJ w c nb l cnt g s)(en:bW w gb G g s)(hb:w.heap.size<=b):¬jG c g gb b:=λq=>q.elim (aj.iG hb) λq=>by have:=en.lt;omega
def Es.up(h:Es nd c w nb l cnt g s gb G v)(k:Bq w w1):Es nd c w1 nb l cnt g s gb G v:=⟨h.aj.af k,h.en.af k,h.pp.af k,h.sc,h.fg,h.fa,h.fl,h.mf⟩
def Es.part{G1}(h:Es nd c w0 nb l cnt0 g0 s0 gb G v)(n:mg c nb l gb w0 g0 s0 p' w g s cnt q')(en:bW w gb G1 g s)(hp:PP w0 (λb=>b<c.lo) x u)(hs:rN c.mks c.nl x)(hz:cnt+1000*nn x<=cnt0+1000*nn nd):Es x c w nb l cnt g s gb G1 u:=
 ⟨n.a,en,hp.move n.f.size (λb p q=>n.f.block b q λz=>z.elim (h.aj.Xr p) λz=>by have:=h.fg;omega)<|λ_ p _=>p,hs,h.fg,by have:=h.fa;omega,h.fl,h.mf⟩
end
section
variable {cnt:Nat}
def bW.put{x:BA}{L}(q:∀y,(G y=none/\aX y L=none)\/∃d m,G y=some d/\aX y L=some (nA m)/\Bu g s d m)(h:MG Value.string w1 gb (bD x (nA m) L))(n:Bu g s d m):bW w1 gb (jf G x d) g s:=by
 refine⟨_,h,λz=>?_⟩;rw[aO];rw[jf];by_cases e:x=z
 .grind
 .grind
def zV{T}(hq:T=326/\cn=qL/\(∃n:Nat,xs=#[Nv f,Nv t,Nv n])\/T=321/\cn=jL/\(∃n:Bool,xs=#[Nv f,Nv t,.bool n])\/T=324/\cn=iM/\xs=#[Nv f,Nv t])(aj:AJ w c nb l cnt g s)(en:bW w gb G g s)(hl:l<aL)(hc:cnt+1<=900000):Cq 399 #[nA c.eb,Mv gb,.iface T<|.agg xs] w (pW c nb l gb 1000 (jj (.aJ cn [],G)) g s cnt w):=by
 have hu:nI cn:=by obtain⟨-,rfl,-⟩|⟨-,rfl,-⟩|⟨-,rfl,-⟩:=hq;exact mJ;exact kN;exact rY
 have k0:Bq w (w.alloc<|Cv xs T):=bw _;have H1:=Ut (aj.af k0) hu hc;have N0:=mg.start (gb:=gb) (aj.af k0)<|jj (Ty.aJ cn [],G);have EN:=en.af k0;have K0:=ai k0;obtain⟨rfl,rfl,n,rfl⟩|⟨rfl,rfl,n,rfl⟩|⟨rfl,rfl,rfl⟩:=hq;all_goals
  go_enter func399,ntmps399;go_wp2_with fail;first|refine rX.mono ?_|refine nY.mono ?_|refine yE.mono ?_
  rintro e w1⟨rfl,rfl⟩;go_wp2_with fail;refine H1.mono ?_;rintro e w2⟨n2,g2,cD,rfl,a2,t2,c2,r2⟩;have HX:=((N0.step a2 t2 t2.fg).ret (D:=1000) (cnt0:=cnt) (EN.kX hl N0.a a2.js t2) r2 ae).up K0
  go_wp2
  go_ret;exact HX
def acW(aj:AJ w c nb l cnt g s)(en:bW w gb G g s)(hl:l<aL)(hc:cnt<=1000000):Cq 399 #[nA c.eb,Mv gb,.iface 337<|.agg #[Nv f,Nv t]] w (pW c nb l gb 1000 (jh jx λv=>jj (.var v,G)) g s cnt w):=by
 have k0:Bq w (w.alloc<|Cv #[Nv f,Nv t] 337):=bw _;have H1:=uD (aj.af k0) hc;have N0:=mg.start (gb:=gb) (aj.af k0)<|In.andM In.kM λv=>In.cT (Ty.var v,G);have EN:=en.af k0;have K0:=ai k0;go_enter func399,ntmps399;go_wp2_with fail;refine H1.mono ?_;rintro e w2⟨n2,g2,rfl,p2,a2,t2,r2,-⟩;have HX:=((N0.and p2 a2 t2 t2.fg).ret (D:=1000) (cnt0:=cnt) (EN.kX hl N0.a a2.js t2) r2 ae).up K0
 go_wp2
 go_ret;exact HX
def acX{x:BA}(aj:AJ w c nb l cnt g s)(en:bW w gb G g s)(hl:l<aL)(hc:cnt<=1000000)(hg:c.fV<=gb/\gb≠c.rb/\gb≠c.mb):Cq 399 #[nA c.eb,Mv gb,.iface 356<|.agg #[Nv f,Nv t,.string x]] w (pW c nb l gb 1000 (jh jx λv=>jj (.var v,jf G x<|In.mono<|.var v)) g s cnt w):=by
 have⟨k0,B0⟩:=nK w #[Nv f,Nv t,Sv x] 356;have H1:=uD (aj.af k0) hc;have CY:=aj.gno en<|br _;have N0:=mg.start (gb:=gb) (aj.af k0)<|In.andM In.kM λv=>In.cT (Ty.var v,In.gD G x<|In.mono<|.var v);have EN:=en.af k0;have K0:=ai k0;go_enter func399,ntmps399;go_wp2_with fail;refine H1.mono ?_;rintro e w2⟨n2,g2,rfl,p2,a2,t2,r2,-⟩;have⟨L,hM,hq⟩:=EN.kX hl N0.a a2.js t2;have HK:∀w3,MG Sv w3 gb (bD x (nA n2) L)->One gb w2 w3->pW c nb l gb 1000 (In.andM In.kM λv=>In.cT (Ty.var v,In.gD G x<|In.mono<|.var v)) g s cnt w (Rv<|nA n2) w3:=λw3 h3 o=>by
  have f3:Fr (λb=>b=gb) w2 w3:=o.fr rfl;have a3:=a2.lq f3 λb e=>⟨ae,ae,λi=>by rw[e];exact hM.bE i⟩;have nm:=r2.nm a2.js hl (λk o=>by simp only[aD]at o;exact j3 o.symm);exact((N0.and p2 a3 t2<|(t2.fg (gb:=gb)).trans' (f3.fV λb e=>(j3 e:jG c g gb b)) λb q=>j5 q).ret (D:=1000) (cnt0:=cnt) (bW.put hq h3 nm) r2 ae).up K0
 have⟨b1,b2,b3⟩:=B0.fr t2.fr λq=>CY<|j5 q;have HM:=ai hM;go_wp2_with(refine cd PL cE rfl _ _ _ (j3 rfl) rfl HM x (nA n2) rfl rfl ?_;intro w3 h3 o;have HX:=ai<|HK w3 h3 o;clear h3 o);go_ret;exact HX
def QR{p:Prop}(h:p:=by
 obtain⟨z,vl,vr,rfl,-⟩:=hb
 go_wp2
 exact⟨rfl,pW.up (j3 HX) K0⟩):p:=h
def Y8{y}{vy}(Hx:Nr x)(Hy:Nr y)(h:Es (.mk 6 st n [x,y] f t a) c w nb l cnt g s gb G v)(hx:PP w (λb=>b<c.lo) x vx)(hy:PP w (λb=>b<c.lo) y vy):
 Cq 399 #[nA c.eb,Mv gb,.iface 328<|.agg #[Nv f,Nv t,vx,vy]] w (pW c nb l gb (1000*nn (.mk 6 st n [x,y] f t a)) (jm c.mks (.mk 6 st n [x,y] f t a) G) g s cnt w):=by
 have en:nn (.mk 6 st n [x,y] f t a)=1+nn x+nn y:=LG;have ep:jm c.mks (.mk 6 st n [x,y] f t a) G=jh (jm c.mks x G) λa=>jh (jm c.mks y a.2) λb=>jj (In.tPr a.1 b.1,b.2):=by simp[jm,In.Bv,In.l7,In.dv]
 obtain⟨sx,sy⟩:rN c.mks c.nl x/\rN c.mks c.nl y:=by
  cases h.sc with
  |pr _ _ _ _ _ _ _ hx hy=>exact⟨hx,hy⟩
 have fa:=h.fa;have hl:=h.fl;rw[en]at fa;have⟨k0,B0⟩:=nK w #[Nv f,Nv t,vx,vy] 328;have HA:=h.up k0;have CY:=h.aj.gno h.en<|br _;have N0:=mg.start (gb:=gb) HA.aj<|In.dY c.mks (.mk 6 st n [x,y] f t a) G;rw[ep]at N0;have H1:=Hx c _ nb l cnt g s gb G vx<|HA.part N0 HA.en (hx.af k0) sx D8;rw[en,ep];have HY:=hy.af k0;obtain⟨tx,ax,rfl⟩:=hx.iface;obtain⟨ty,ay,rfl⟩:=hy.iface;have K0:=ai k0;go_enter func399,ntmps399;go_wp2_with fail;refine H1.mono ?_;rintro e w1(⟨n1,g1,s1,ak,T1,G1,rfl,p1,a1,t1,f1,e1,c1,R1⟩|hb)
 .have N1:=N0.and p1 a1 t1 f1;have H2:=Hy c w1 nb l ak g1 s1 gb G1 _<|HA.part N1 e1 HY sy D8;have⟨b1,b2,b3⟩:=N1.bx B0 CY;go_wp2_with fail;refine H2.mono ?_;rintro e w2(⟨n2,g2,s2,cD,T2,G2,rfl,p2,a2,t2,f2,E2,c2,r2⟩|hb)
  .have N2:=N1.and p2 a2 t2 f2;have H3:=aeY a2 (R1.kX N1.a.js t2) r2;go_wp2_with fail;refine H3.mono ?_;rintro e w3⟨n3,g3,rfl,a3,t3,r3⟩;have HX:=((N2.step a3 t3 t3.fg).ret (D:=1000*(1+nn x+nn y)) (cnt0:=cnt) (E2.kX hl N2.a a3.js t3) r3 ae).up K0
   go_wp2
   go_ret;exact HX
  .have HX:=N1.bad hb;exact QR
 .have HX:=N0.bad hb;exact QR
end
section
variable {cnt:Nat}
def Dsj w c nb l cnt D(p:jc Ty)g(s:jd)fn T xs:=
 (∀W:World,Bq w W->Cq fn #[nA c.eb,.agg xs] W (cK c nb l D p g s cnt W))->Cq 381 #[nA c.eb,.iface T<|.agg xs] w (cK c nb l D p g s cnt w)
def dj:
 (∀{st},Dsj w c nb l cnt D p g s 385 356 #[Nv f,Nv t,.string st])/\
 (∀{tx ty ax ay},Dsj w c nb l cnt D p g s 388 311 #[Nv f,Nv t,.iface tx<|.agg ax,.iface ty<|.agg ay])/\
 (∀{tx ty ax ay},Dsj w c nb l cnt D p g s 393 319 #[Nv f,Nv t,.iface tx<|.agg ax,.iface ty<|.agg ay])/\
 (∀{tx ty tz ax ay az},Dsj w c nb l cnt D p g s 390 317 #[Nv f,Nv t,.iface tx<|.agg ax,.iface ty<|.agg ay,.iface tz<|.agg az])/\
 (∀{n sc sa tx ax},Dsj w c nb l cnt D p g s 391 201 #[Nv f,Nv t,.iface tx<|.agg ax,.slice sa n sc]):=by
 refine⟨?_,?_,?_,?_,?_⟩;all_goals
  intros;intro H;go_enter func381,ntmps381;go_wp2_with fail;refine(H _<|bw _).mono ?_;intro e w1 hp;have HP:=ai<|hp.up<|bw _;obtain⟨n1,-,-,-,-,rfl,-⟩|⟨z,vl,vr,rfl,-⟩:=hp
  .go_wp2
   go_ret;exact HP
  .go_wp2
   exact⟨rfl,HP⟩
def Et{T}(hq:T=326/\cn=qL/\(∃n:Nat,xs=#[Nv f,Nv t,Nv n])\/T=321/\cn=jL/\(∃n:Bool,xs=#[Nv f,Nv t,.bool n])\/T=324/\cn=iM/\xs=#[Nv f,Nv t])(aj:AJ w c nb l cnt g s)(hc:cnt+1<=900000):Cq 381 #[nA c.eb,.iface T<|.agg xs] w (cK c nb l 1000 (jj<|.aJ cn []) g s cnt w):=by
 have hu:nI cn:=by obtain⟨-,rfl,-⟩|⟨-,rfl,-⟩|⟨-,rfl,-⟩:=hq;exact mJ;exact kN;exact rY
 have k0:Bq w (w.alloc<|Cv xs T):=bw _;have H1:=Ut (aj.af k0) hu hc;have N0:=mG.start (aj.af k0)<|jj<|Ty.aJ cn [];have K0:=ai k0;obtain⟨rfl,rfl,n,rfl⟩|⟨rfl,rfl,n,rfl⟩|⟨rfl,rfl,rfl⟩:=hq;all_goals
  go_enter func381,ntmps381;go_wp2_with fail;first|refine rX.mono ?_|refine nY.mono ?_|refine yE.mono ?_
  rintro e w1⟨rfl,rfl⟩;go_wp2_with fail;refine H1.mono ?_;rintro e w2⟨n2,g2,cD,rfl,a2,t2,c2,r2⟩;have HX:=((N0.step a2 t2).ret (D:=1000) (cnt0:=cnt) r2 ae).up K0
  go_wp2
  go_ret;exact HX
end
end
section
open Un
mutual
def Wf.Uu:∀t,Wf t->Good t
 |.var _,_=>trivial|.aJ c l,h=>⟨by
  obtain⟨⟨_,h1,h2⟩,_⟩:=h;rw[okC];split
  .rw[h1<|.inl ‹_›];rfl
  .split
   .rw[h1<|.inr ‹_›];rfl
   .obtain q|q|⟨x,r,q,q1,q2⟩:=h2
    .exact absurd q ‹_›
    .exact absurd q ‹_›
    .simp only[acY,q,q1,Bool.true_and,List.all_eq_true];exact q2,zX.Uu l h.2⟩
def zX.Uu:∀l,zX l->QS l
 |[],_=>trivial|t::l,h=>⟨Wf.Uu t h.1,zX.Uu l h.2⟩
end
def acZ{l r}(wl:Wf l)(wr':Wf r)(sl:size l<=48)(sr:size r<=48)(mE:∀σ,sub σ l≠sub σ r)(zl:(wr dec (vars [] l) l 0).length<=400)(zr:(wr dec (vars (vars [] l) r) r 0).length<=400){x}{ok}{f}(hu:BH (bs<|wr dec (vars [] l) l 0) (bs<|wr dec (vars (vars [] l) r) r 0) x ok f):ok=false/\f=dx:=by
 have nd:(vars (vars [] l) r).Nodup:=cH r<|cH l List.nodup_nil;have hp:=Ik r<|vars [] l;have ew:=Mz (dec:=dec) hp l<|λn o=>(bK l [] n).2<|j3 o;rw[<-ew]at zl hu;have⟨p,h1,h2⟩:=Eu (vars (vars [] l) r) l (Wf.Uu l wl) 0 ae;have⟨na,e1,r1⟩:=Jh h1 h2 zl;have⟨q,h3,h4⟩:=Eu (vars (vars [] l) r) r (Wf.Uu r wr') 0 ae;have⟨nb,e2,r2⟩:=Jh h3 h4 zr;have m1:=zY _ nd l [] hp;have m2:=zY _ nd r (vars [] l)<|List.prefix_refl _;rw[<-r1,Ev]at m1;rw[<-r2,Ev]at m2;have m1:aH [] na=_:=m1;rw[BH]at hu;rw[e1,e2]at hu;simp only[m1,m2,Il,show ¬48<size l by omega,show ¬48<size r by omega,if_false]at hu;obtain⟨T,⟨⟨R,q1,q2⟩,_⟩,_⟩|⟨_,_,h5,h6⟩:=hu
 .rw[sub_sub]at q1 q2;exact absurd (q1.trans q2.symm)<|mE _
 .exact⟨h5,h6⟩
end
end Go.Proofs.YtfnkchdeheeiiaaGreatDoor
