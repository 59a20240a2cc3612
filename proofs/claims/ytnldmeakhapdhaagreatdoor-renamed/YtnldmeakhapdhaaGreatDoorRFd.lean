import Derived.Test.YtnldmeakhapdhaaGreatDoorRPp
import Derived.Test.YtnldmeakhapdhaaGreatDoorRKb
set_option linter.all false
set_option maxRecDepth 100000
set_option maxHeartbeats 8000000
namespace Go.Proofs.YtnldmeakhapdhaaGreatDoor
open In renaming inf->ja,MM->jc,St->jd,cz->jf,andM->jh,Env->ji,cZ->jj,bX->jk,gd->jl,dv->jm,over->jo,Cr->jp,rA->jq,sg->jt,iJ->ju,xD->jv,jZ->jx,gH->jy,ur->jz
open Or renaming inr->j5,inl->j6
open _root_.Nat renaming le_trans->j7
open Fr renaming of->j8
open Un renaming eu->j9
open Go Go.RowKit Go.ChangeMaps Go.MapKept Un Proofs.Tryz
variable {C xs:Array Value} {cn k st:BA} {dom:BA->Prop} {rc:Bool} {e:Ending} {g g0 g1:f_} {G Γ:ji} {p:jc Un.Ty} {d:In.Ml} {s s0 s1:jd} {c:JC} {D D' S a b cnt0 ah f gb kb l m n nb t y:Nat} {Q Λ:Nat->Prop} {nd x:Nd} {α β:Type} {T:Un.Ty} {u v vx:Value} {W w w' w0 w1:World}
section
variable {c:WC} {cnt:Nat}
def Iz(Hx:Bv x)(h:BdA rc st x c w cnt s kb Λ Γ gb Q dom vx):
 Cq 213 #[Pv c.eb,Mv kb,Mv gb,.agg #[.bool rc,Nv a,Nv y,.string st,vx]] w (aZ c (1100*(1+nn x)) (1000*(1+nn x)) (jk rc st x (ja c.mks x) Γ) s cnt w):=by
 cases rc
 .exact X7 Hx h
 .exact X8 Hx h
def Nm{ta}{xa}{iV}(q:acF c S D (jk rc st x (ja c.mks x) Γ) s cnt w0 ah T s1 ta xa iV w1)(hk:WK w c cnt s kb)(hn:∀n,¬s.u n->Λ n)(hg:WG w c s Λ Γ gb):Eg w w1 c ah s s1 Λ iV/\In.cA Λ s1 T:=by
 have⟨g1,g2⟩:=In.iB rc st x (In.mn c.mks x) Γ s Λ hk.ok hn hg.i T s1 q.m;exact⟨⟨⟨q.k,q.n,λn p=>by obtain r|r:=q.u n p;have:=hk.u n r;have:=q.c1;unfold us at*;omega;rw[us];omega,g1.ok,q.wh⟩,g1.new,g1⟩,g2⟩
def aZ.wide{S'}(h:aZ c S D p s cnt w0 e w')(hS:S<=S')(hD:D<=D')(hb:Bq w w0):aZ c S' D' p s cnt w e w':=by
 obtain⟨F,aD,o,h1,h2,h3,h4,h5⟩:=h;refine⟨(j8 hb).trans F,aD,o,h1,ae,h3,h4,?_⟩;unfold af0 at*;split
 .obtain⟨q1,q2,ta,xa,kb,q3,q4,q5,q6⟩:=h5;exact⟨q1,q2,ta,xa,kb,q3,q4,q5,q6.le hS⟩
 .exact h5
def Uq(Γ:ji)k t v:(jl Γ k t v).any.Nodup:=by
 cases v
 .simp[jl]
 .simp only[jl,if_true,In.yL];exact(dF _ List.nodup_nil).filter _
def aga{K}(hK:K=if rc then 11 else 10){z}{vz}(Hx:Bv x)(Hz:Bv z)(h:CB (.mk K st n [x,z] f t a) c w cnt s kb Λ Γ gb Q dom (.iface 228<|.agg #[Nv f,Nv t,.bool rc,Nv a,Nv y,.string st,vx,vz]))(hx:PE w Q x vx)(hz:PE w Q z vz):
 Cq 241 #[Pv c.eb,Mv kb,Mv gb,.agg #[Nv f,Nv t,.bool rc,Nv a,Nv y,.string st,vx,vz]] w (aZ c (1100*nn (.mk K st n [x,z] f t a)) (1000*nn (.mk K st n [x,z] f t a)) (ja c.mks (.mk K st n [x,z] f t a) Γ) s cnt w):=by
 have en:nn (.mk K st n [x,z] f t a)=1+nn x+nn z:=Mu;have ei:ja c.mks (.mk K st n [x,z] f t a) Γ=jh (jk rc st x (ja c.mks x) Γ) λt=>λs1=>ja c.mks z (jf Γ st<|jl (l7 rc st Γ) s1.k t<|jt x) s1:=by rw[hK];exact Ng _ _ _ _ _ _ _ _ _ _
 have C0:=ai<|Cl.refl c (1100*(1+nn x+nn z)) (1000*(1+nn x+nn z)) (ja c.mks (.mk K st n [x,z] f t a) Γ) s cnt w;rw[ei]at C0;rw[en,ei];obtain⟨jQ,sx,sz⟩:st∈c.nl/\ScE c.mks c.nl (λv=>dom v\/(rc=true/\v=st)) x/\ScE c.mks c.nl (λv=>dom v\/v=st) z:=by
  have⟨hs,hx,hz⟩:=h.sc.af4 (by cases rc<;>simp[hK]);have e:(λv=>dom v\/(K=11/\v=st))=(λv=>dom v\/(rc=true/\v=st)):=by cases rc<;>simp[hK]
  rw[e]at hx;exact⟨hs,hx,hz⟩
 have⟨k0,B0⟩:=uo w #[Nv f,Nv t,.bool rc,Nv a,Nv y,Sv st,vx,vz] 228;have bd:BdA rc st x c w cnt s kb Λ Γ gb Q dom vx:=⟨h.we,h.wk,h.hn,h.wg,hx,h.hq,sx,h.hd,h.ft.le El El,h.mf,jQ⟩;have H1:=Iz (a:=a) (y:=y) Hx<|bd.af k0;have zc:=h.we.dt;have WZ:=h.ft.a;have ftb:=h.ft.b;rw[en]at WZ ftb;have HA:=ai h;have HX:=ai hx;have HZ:=ai hz;have K0:=ai k0;obtain⟨tx,ax,rfl⟩:=hx.iface;obtain⟨tz,az,rfl⟩:=hz.iface;clear h hx hz k0 bd Hx ei;go_enter func241,ntmps241;go_wp2_with fail;refine H1.mono ?_;intro e w1 hp;clear H1;obtain⟨ah,zz,vl,vr,rfl,q1⟩|⟨ah,T1,s1,yT,yU,iV,rfl,q1⟩:=hp.split
 .clear hp
  go_wp2
  exact⟨rfl,q1.post (j8 K0) ae⟩
 have h:=uh HA;have F1:=(j8 (S:=λi=>i=c.cb) K0).trans q1.F;have⟨dP,ty1⟩:=Nm q1 h.wk h.hn h.wg;have c1:=q1.c1;have c2:=q1.c2;have C1:=C0.and q1.m F1 q1.c1 q1.u (D2:=1000*nn z) ae;have wg1:=h.wg.fr F1 dP.p.run;have px:=HX.move (Q:=Q) F1.size (λb p z=>F1.block b z<|h.hq b p)<|λ_ p _=>p;have pz:=HZ.move (Q:=Q) F1.size (λb p z=>F1.block b z<|h.hq b p)<|λ_ p _=>p;have z1:=q1.we.dt;have⟨se,sn⟩:=In.yc dP.k.ok dP.n wg1.i ty1 rc st<|jt x;have HS:∀W:World,Bq w1 W->Cq 256 #[Mv iV,Mv gb,Av #[.bool rc,Nv a,Nv y,Sv st,Fv tx<|Av ax],Fv yT yU] W (SoP c (jl (l7 rc st Γ) s1.k T1<|jt x) W):=λW hb=>Nh (q1.we.af hb) (dP.k.af hb) (wg1.af hb) (px.af hb) (S:=1100*(1+nn x)) ae (q1.t.af hb) ty1 ae h.ft.l;obtain⟨d,hd⟩:∃d,d=jl (l7 rc st Γ) s1.k T1 (jt x):=⟨_,rfl⟩;have Bw:d.any.Nodup:=by rw[hd];exact Uq _ _ _ _
 rw[<-hd]at HS;have HWI:∀(W:World)(u:Value),Bq w1 W->n_ W (dw c) d u->Cq 219 #[Mv gb,Sv st,u] W (pJ (dw c) (jf Γ st d) W):=λW u hb hu=>x_ (wg1.e.af hb) st hu;have HXC:∀(W:World)(b:Nat),Bq w1 W->w1.heap.size<=b->bS W (dw c) b (jf Γ st d)->Cq 223 #[Pv c.eb,Mv iV,Mv b,Fv tz<|Av az] W (aZ c (1100*nn z) (1000*nn z) (ja c.mks z<|jf Γ st d) s1 ah W):=λW b hb hzb he=>
  Hz c W ah s1 iV (In.less Λ d.any) _ b Q _ _ ⟨q1.we.af hb,dP.k.af hb,by rw[hd];exact sn,⟨he,ae,by rw[hd];exact se,λy d' q=>by
   rw[jf]at q;split at q
   .injection q with q;rw[<-q];exact Bw
   .exact h.wg.nd y d' q,λy q=>by
   rw[jf]at q;split at q
   .rename_i e;rw[e];exact jQ
   .exact h.wg.dm y q⟩,pz.af hb,h.hq,sz,Ei h.hd,h.ft.le El El,h.mf⟩
 have CE:∀e w',aZ c (1100*(1+nn x+nn z)) (1000*nn z) (ja c.mks z<|jf Γ st d) s1 ah w1 e w'->aZ c (1100*(1+nn x+nn z)) (1000*(1+nn x+nn z)) (jh (jk rc st x (ja c.mks x) Γ) λt=>λs1=>ja c.mks z (jf Γ st<|jl (l7 rc st Γ) s1.k t<|jt x) s1) s cnt w e w':=λe w' hh=>C1 e w' (by rw[hd]at hh;exact hh);have B1:=ai<|B0.fr q1.F ae;clear h F1 q1 dP ty1 hp B0 C0 C1 wg1 px pz se sn hd Bw HA HX HZ Hz K0;have⟨b1,b2,b3⟩:=uh B1
 go_wp2
 go_region_with(first
  |(go_at_call 256;go_loud(refine(HS _ (Below.refl _ _).drew).mono ?_);rintro e w4⟨u4,rfl,h4,k4⟩;have K4:Hid (Bq w1 w4):=ai<|(Below.refl _ _).drew.trans k4;have⟨d1,d2,d3⟩:=B1.below K4;have S4:=ai h4;clear k4 h4)
  |(go_at_call 219;go_loud(refine(HWI _ _ K4 S4).mono ?_);rintro e w5⟨b5,rfl,z5,h5,k5⟩;have K5:Hid (Bq w1 w5):=ai<|K4.trans<|k5.mono K4.size;have⟨g1,g2,g3⟩:=B1.below K5;have E5:=ai h5;have Z5:=ai<|j7 K4.size z5;clear k5 h5 z5)
  |(go_at_call 223;go_loud(refine(HXC _ _ K5 Z5 E5).mono ?_);intro e w6 hp;have l8:=CE _ _<|hp.wide (S':=1100*(1+nn x+nn z)) (D':=1000*nn z) ae (br _) K5;obtain⟨Iy,zz,vl,vr,rfl,q6⟩|⟨Iy,T6,s6,X9,X_,W4,rfl,q6⟩:=hp.split;go_loud(exact⟨rfl,l8⟩);have HPP:=ai l8;clear hp l8 q6))
 all_goals
  go_wp2
  go_ret2;exact HPP
end
section
variable {c:WC} {cnt:Nat}
def CB.self(h:CB nd c w cnt s kb Λ Γ gb Q dom v)(hb:Bq w W):CB nd c W cnt s kb Λ Γ gb Q dom v:=h.part hb h.pe h.sc<|br _
def mr mk k s n f t a(Γ:ji)K(h:(k=3/\K=ry)\/(k=4/\K=ys)\/(k=5/\K=iW)):ja mk (.mk k s n [] f t a) Γ=jj (.aM K []):=by
 obtain⟨rfl,rfl⟩|⟨rfl,rfl⟩|⟨rfl,rfl⟩:=h<;>simp[ja,In.kZ]
def ij k s n f t a:nn (.mk k s n [] f t a)=1:=qBi
end
def X':∀(k:Nat)(nd:Nd),nn nd<=k->Bv nd:=by
 intro k
 induction k with
 |zero=>intro nd h;cases nd;simp only[nn]at h;omega|succ k ih=>
  intro nd hk c w cnt s kb Λ Γ gb Q dom v h;have hp:=h.pe
  cases hp with
  |low st n f t a hs=>exact XX h|up st n f t a hs=>exact acN h|num st n f t a=>
   rw[mr c.mks 3 st n f t a Γ ry<|j6 ⟨rfl,rfl⟩,ij];exact(XP h.we h.wk ae).1 _
  |word st n f t a hs=>
   rw[mr c.mks 4 st n f t a Γ ys<|j5<|j6 ⟨rfl,rfl⟩,ij];exact(XP h.we h.wk ae).2.1 _
  |unit st n f t a=>
   rw[mr c.mks 5 st n f t a Γ iW<|j5<|j5 ⟨rfl,rfl⟩,ij];exact(XP h.we h.wk ae).2.2
  |pr st n x y f t a vx vy hx hy=>
   have gi:nn x<=k/\nn y<=k:=CH;obtain⟨tx,ax,rfl⟩:=hx.iface;obtain⟨ty,ay,rfl⟩:=hy.iface;exact Im.1 λW hb=>acO (ih x gi.1) (ih y gi.2) (h.self hb) (hx.af hb)<|hy.af hb
  |of st n x y f t a vx vy hx hy=>
   have gi:nn x<=k/\nn y<=k:=CH;obtain⟨tx,ax,rfl⟩:=hx.iface;obtain⟨ty,ay,rfl⟩:=hy.bQ;exact Im.2.1 λW hb=>Ya (ih x gi.1) (h.self hb) (hx.af hb)<|hy.af hb
  |op st n x y f t a vx vy hs hx hy=>
   have gi:nn x<=k/\nn y<=k:=CH;obtain⟨tx,ax,rfl⟩:=hx.iface;obtain⟨ty,ay,rfl⟩:=hy.iface;exact Im.2.2.2.2.2.2.2 λW hb=>Ur (ih x gi.1) (ih y gi.2) (h.self hb) (hx.af hb) (hy.af hb) hs
  |call st n x y f t a vx vy hx hy=>
   have gi:nn x<=k/\nn y<=k:=CH;obtain⟨tx,ax,rfl⟩:=hx.iface;obtain⟨ty,ay,rfl⟩:=hy.iface;exact Im.2.2.1 λW hb=>acP (ih x gi.1) (ih y gi.2) (h.self hb) (hx.af hb)<|hy.af hb
  |fn st n x f t a y vx hs hy hx=>
   have gi:nn x<=k:=CH;obtain⟨tx,ax,rfl⟩:=hx.iface;exact Im.2.2.2.1 λW hb=>aiQ (ih x gi) (h.self hb)<|hx.af hb
  |lt K st n x z f t a y vx vz hc hs hy hx hz=>
   have gi:nn x<=k/\nn z<=k:=CH;obtain⟨tx,ax,rfl⟩:=hx.iface;obtain⟨tz,az,rfl⟩:=hz.iface;have hK:K=if(K==11)=true then 11 else 10:=xY;exact Im.2.2.2.2.1 λW hb=>aga (rc:=K==11) hK (ih x gi.1) (ih z gi.2) (h.self hb) (hx.af hb)<|hz.af hb
  |ite st n x y z f t a vx vy vz hx hy hz=>
   have gi:nn x<=k/\nn y<=k/\nn z<=k:=CH;obtain⟨tx,ax,rfl⟩:=hx.iface;obtain⟨ty,ay,rfl⟩:=hy.iface;obtain⟨tz,az,rfl⟩:=hz.iface;exact Im.2.2.2.2.2.1 λW hb=>Us (ih x gi.1) (ih y gi.2.1) (ih z gi.2.2) (h.self hb) (hx.af hb) (hy.af hb)<|hz.af hb
  |mt st n x A f t a vx g sc vp ve h0 hg hz hc hx hp he=>
   have gi:nn x<=k/\cD (aP A)<=k:=CH;obtain⟨tx,ax,rfl⟩:=hx.iface
   exact Im.2.2.2.2.2.2.1 λW hb=>agb (ih x gi.1) (λi hi=>ih _ (by have:=sG A i hi;omega)) (h.self hb) hg (Nat.lt_of_lt_of_le hz hb.size) (λi hi=>by
    have mw:∀o,W.cell? ⟨g,o,none⟩=w.cell? ⟨g,o,none⟩:=λo=>World.cell?_of_block (a:=⟨g,o,none⟩)<|hb.block g hz;simp only[mw]
    exact hc i hi) (hx.af hb) (λi hi=>(hp i hi).af hb) (λi hi=>(he i hi).af hb)
def acQ nd:Bv nd:=X' _ nd<|br _
def uk{α:Type}c(p:jc α)g(s:jd)w e w':=∃z vl vr,e=Pp z.f vl vr/\p s (.error z)/\ru w' (λ_=>True) z vl vr/\Fr (jS c g) w w'
def cU c nb l D(p:jc Ty)g(s:jd)cnt w e w':=
 (∃n g' s' aD T,e=.returned (nA n)/\p s (.ok (T,s'))/\AJ w' c nb l aD g' s'/\fY l c w g s w' g' s'/\aD<=cnt+D/\nR l g' s' n T)\/uk c p g s w e w'
structure nT nd c w nb l cnt g(s:jd)Γ dom v:Prop where
 aj:AJ w c nb l cnt g s
 en:ch w nb Γ g s
 pe:PE w (λb=>b<c.lo) nd v
 sc:ScE c.mks c.nl dom nd
 hd:∀x,dom x->Γ x≠none
 fa:cnt+1000*nn nd<=850000
 fb:l+nn nd<=805
 mf:MkFine c.mks
def jO nd:=∀(c:JC)(w:World)(nb l cnt:Nat)(g:f_)(s:jd)(Γ:ji)(dom:BA->Prop)(v:Value),nT nd c w nb l cnt g s Γ dom v->
 Cq 291 #[nA c.eb,v] w (cU c nb l (1000*nn nd) (ja c.mks nd Γ) g s cnt w)
structure yJ c nb l w0 g0(s0:jd)w g(s:jd)cnt:Prop where
 a:AJ w c nb l cnt g s
 t:fY l c w0 g0 s0 w g s
 z:∃k,AJ w0 c nb l k g0 s0
def ru.wide{P}{x}{vl vr}(h:ru w P x vl vr)(q:∀b,P b->Q b):ru w Q x vl vr:=⟨h.qN,λk=>⟨(h.apart k).1.move (br _) (λ_ _ _=>rfl)<|λb p _=>q b p,(h.apart k).2.move (br _) (λ_ _ _=>rfl)<|λb p _=>q b p⟩,h.k⟩
section
variable {cnt:Nat}
def yJ.refl(a:AJ w c nb l cnt g s):yJ c nb l w g s w g s cnt:=⟨a,.refl a.js c l,_,a⟩
def yJ.next(n:yJ c nb l w0 g0 s0 w g s cnt)(a:AJ w1 c nb l ah g1 s1)(t:fY l c w g s w1 g1 s1):yJ c nb l w0 g0 s0 w1 g1 s1 ah:=by
 have⟨k,z⟩:=n.z;exact⟨a,n.t.trans z.js n.a.js a.js t,n.z⟩
def yJ.fr(n:yJ c nb l w0 g0 s0 w g s cnt)(f:Fr (jS c g) w w1):Fr (jS c g0) w0 w1:=n.t.fr.trans' f λx q=>by
 obtain q|q|q:=q
 .omega
 .omega
 .exact(n.t.nw x q).imp (λz=>j5<|j5 z) id
def yJ.af(n:yJ c nb l w0 g0 s0 w g s cnt)(k:Bq w w1):yJ c nb l w0 g0 s0 w1 g s cnt:=n.next (n.a.af k) {fY.refl n.a.js c l with fr:=j8 k}
def yJ.bad{p:jc α}{q:jc β}(n:yJ c nb l w0 g0 s0 w g s cnt)(b:uk c p g s w e w')(hp:∀z,p s (.error z)->q s0 (.error z)):uk c q g0 s0 w0 e w':=by
 obtain⟨z,vl,vr,h1,h2,h3,h4⟩:=b;exact⟨z,vl,vr,h1,hp z h2,h3,n.fr h4⟩
def yJ.bx(n:yJ c nb l w0 g0 s0 w g s cnt)(h:Bx w0 b C)(hb:¬jS c g0 b):Bx w b C:=h.fr n.t.fr hb
def AJ.iU(a:AJ w c nb l cnt g s)(hb:w.heap.size<=b):¬jS c g b:=by
 have h1:=a.je.ct.z;have h2:=a.je.bx.z;rintro(q|q|q)
 .omega
 .omega
 .have:=a.js.lt q;omega
def AJ.jlo(a:AJ w c nb l cnt g s)(hb:b<c.lo):¬jS c g b:=by
 have h1:=a.je.z;rintro(q|q|q)
 .omega
 .omega
 .have:=a.lo b q;omega
def yJ.pe(n:yJ c nb l w0 g0 s0 w g s cnt)(h:PE w0 (λb=>b<c.lo) x u):PE w (λb=>b<c.lo) x u:=by
 have⟨k,z⟩:=n.z;exact h.move n.t.fr.size (λb p q=>n.t.fr.block b q<|z.jlo p)<|λ_ p _=>p
def nT.part(h:nT nd c w0 nb l cnt0 g0 s0 Γ dom v)(n:yJ c nb l w0 g0 s0 w g s cnt)(hp:PE w0 (λb=>b<c.lo) x u)(hs:ScE c.mks c.nl dom x)(hz:cnt+1000*nn x<=cnt0+1000*nn nd)(hx:nn x<=nn nd):nT x c w nb l cnt g s Γ dom u:=
 have:=h.fa;have:=h.fb
 ⟨n.a,h.en.eZ ZQ h.aj n.a.js n.t,n.pe hp,hs,h.hd,ae,ae,h.mf⟩
def nT.up(h:nT nd c w nb l cnt g s Γ dom v)(k:Bq w w1):nT nd c w1 nb l cnt g s Γ dom v:=⟨h.aj.af k,h.en.af k,h.pe.af k,h.sc,h.hd,h.fa,h.fb,h.mf⟩
def cU.up{p:jc Ty}(h:cU c nb l D p g s cnt w1 e w')(k:Bq w w1):cU c nb l D p g s cnt w e w':=by
 obtain⟨n,g',s',aD,T,h1,h2,h3,h4,h5,h6⟩|⟨z,vl,vr,h1,h2,h3,h4⟩:=h
 .exact j6 ⟨n,g',s',aD,T,h1,h2,h3,{h4 with nw:=λm hm=>(h4.nw m hm).imp id<|j7 k.size,fr:=(j8 k).trans h4.fr},h5,h6⟩
 .exact j5 ⟨z,vl,vr,h1,h2,h3,(j8 k).trans h4⟩
def cU.ok(n:yJ c nb l w0 g0 s0 w g s cnt)(hp:p s0 (.ok (T,s)))(r:nR l g s m T)(hc:cnt<=cnt0+D):cU c nb l D p g0 s0 cnt0 w0 (.returned<|nA m) w:=j6 ⟨m,g,s,cnt,T,rfl,hp,n.a,n.t,hc,r⟩
def amg c nb l(p:jc Unit)g(s:jd)cnt w e w':=
 (e=.returned (.tuple #[])/\∃g' s',p s (.ok ((),s'))/\AJ w' c nb l cnt g' s'/\fY l c w g s w' g' s')\/uk c p g s w e w'
def D9(aj:AJ w c nb l cnt g s)(hl:l<aL){x y:Ty}(ra:nR l g s a x)(rb:nR l g s b y)f t:
 Cq 294 #[nA a,nA b,.agg #[Nv f,Nv t]] w (amg c nb l (jz x y f t) g s cnt w):=by
 refine(abF aj.js ra.mem rb.mem ra.val rb.val f t).mono ?_;rintro e w'⟨F,⟨rfl,bi,cB,V',s',js,st,hp,hu,mo,ln⟩|⟨z,vl,vr,rfl,hp,hF⟩⟩
 .have F':Fr (jS c g) w w':=F.fZ λb q=>j5<|j5 q;have ln:=ln (λx=>g.lv x<=l) (λx hx hn q k ps hs p hp h hh=>j7 (aj.js.lc x hx hn k ps hs p hp h hh) q) ra.lv rb.lv;have any:∀m,m∈g.ds->∀h h',Hd g.nx m h->Hd bi m h'->g.lv h=aL->h'=h/\cB h=aL:=λm hm h h' k k' e=>by
   have⟨q1,q2⟩:=(ln m hm h h' k k').1 (by rw[e];unfold aL at*;omega);exact⟨q1,q2.trans e⟩
  refine j6 ⟨rfl,_,s',hp,⟨aj.je.fr aj.js F' (aj.je.bx.fr F<|aj.je.Bh aj.js)<|aj.je.ct.fr F<|aj.je.Bi aj.js,js,by rw[hu];exact aj.us,λn hn e=>?_,aj.lo⟩,⟨st l,λm hm h k e=>?_,λm hm h h' k k' i hi z=>j7 (mo m hm h h' k k') z,λm hm=>j6 hm,F',λv=>?_,λn q=>by rw[hu];exact q⟩⟩
  .have⟨h,k⟩:=aj.js.gl.hd n hn;have k':Hd bi n n:=.here e;obtain q|q:=aj.hd hn k
   .grind
   .grind
  .have⟨h',k'⟩:=js.gl.hd m hm;have⟨q1,q2⟩:=any m hm h h' k k' e;exact⟨q1▸k',q2⟩
  .obtain⟨_,q⟩|⟨_,_,⟨θ,_,q⟩|⟨_,q⟩⟩:=hp
   .cases q
   .cases q
    show sub θ (s.k v)=sub (λv=>sub θ<|s.k v) (s.k v);exact sub_congr _ λn o=>by rw[aj.js.ok.idem v n o];rfl
   .cases q
 .exact j5 ⟨z,vl,vr,rfl,hp,hF.wide λ_ _=>trivial,F.fZ λb q=>j5<|j5 q⟩
def akF c nb l g(s:jd)cnt w(e:Ending)w':=∃n g',e=.returned (nA n)/\jx s (.ok (cnt+1,⟨s.k,λm=>s.u m\/m=cnt+1⟩))/\AJ w' c nb l (cnt+1) g' ⟨s.k,λm=>s.u m\/m=cnt+1⟩/\fY l c w g s w' g' ⟨s.k,λm=>s.u m\/m=cnt+1⟩/\nR l g' ⟨s.k,λm=>s.u m\/m=cnt+1⟩ n (.var<|cnt+1)/\g'.str n=none/\g'.vr n=cnt+1/\g'.nx n=none
def vI(aj:AJ w c nb l cnt g s)(hc:cnt<=1000000):Cq 292 #[nA c.eb] w (akF c nb l g s cnt w):=by
 refine(pE aj.je aj.js aj.us hc).mono ?_;rintro e w'⟨n,rfl,hn,je,js,F⟩;have nd:¬n∈g.ds:=λq=>by have:=aj.js.lt q;omega
 have o:OR l w.heap.size g s cnt (λ_=>none) _ _ _ _:=OR.var (v:=0) aj.js hn nd aj.us rfl (λy n' q=>lq);have nx:=(aj.js.gl.out n nd).1;have hu:¬s.u (cnt+1):=λq=>by have:=aj.us _ q;rw[us]at this;omega
 refine⟨n,_,rfl,⟨cnt+1,hu,rfl⟩,o.aj aj (br _) je js,o.stj aj.js (br _)<|F.fZ λb q=>j6 q,⟨ag,?_,λx k=>?_⟩,Q5,Q5,nx⟩
 .show j9 g.V n (.var<|cnt+1) n=s.k (cnt+1);simp[j9,aj.js.ok.out _ hu]
 .rw[k.one<|.here nx];simp[j9]
def aih(aj:AJ w c nb l cnt g s)(hn:w.heap.size<=n){q}{ar}(je:JE w' c nb l cnt)(js:JS w' (g.add n (some q) 0 ar l T) s)(k:Bq w w'):AJ w' c nb l cnt (g.add n (some q) 0 ar l T) s/\fY l c w g s w' (g.add n (some q) 0 ar l T) s/\n∈(g.add n (some q) 0 ar l T).ds/\(g.add n (some q) 0 ar l T).V n=T/\∀x,Hd (g.add n (some q) 0 ar l T).nx n x->(g.add n (some q) 0 ar l T).lv x<=l:=by
 have nd:¬n∈g.ds:=λq=>by have:=aj.js.lt q;omega
 have nx:=(aj.js.gl.out n nd).1;refine⟨⟨je,js,aj.us,λm hm e=>?_,λm hm=>?_⟩,⟨.add aj.js nd rfl (λe=>by cases e),λm hm h hk e=>⟨hk,?_⟩,λm hm h h' hk gi i _ z=>?_,λm hm=>?_,j8 k,λv=>(aj.js.ok.qW<|.var v).symm,λ_ q=>q⟩,ag,Q5,λx hx=>?_⟩
 .by_cases z:m=n
  .exact j6 (by simp[j9,z])
  .simp only[j9,z,if_false];exact aj.lv m ((List.mem_cons.1 hm).resolve_left z) e
 .obtain z|z:=List.mem_cons.1 hm
  .have:=aj.je.z;have:=aj.je.bx.z;omega
  .exact aj.lo m z
 .have z:h≠n:=λz=>nd<|z▸aj.js.gl.bN hm hk;simpa[j9,z]using e
 .have gi:=gi;rw[gi.one hk];have y:h≠n:=λz=>nd<|z▸aj.js.gl.bN hm hk;simpa[j9,y]using z
 .grind
 .have hx:=hx;rw[hx.one<|.here nx];simp[j9]
def afM k c nb l g(s:jd)cnt x y w(e:Ending)w':=∃n g',e=.returned (nA n)/\AJ w' c nb l cnt g' s/\fY l c w g s w' g' s/\nR l g' s n (.aM k [x,y])
def Tw{p:Prop}(h:p:=by
 rintro e w'⟨n,ar,rfl,hn,je,js,k⟩;obtain⟨h1,h2,h3,h4,h5⟩:=aih aj hn je js k
 exact⟨n,_,rfl,h1,h2,h3,by rw[h4,ra.val,rb.val];rfl,h5⟩):p:=h
def afN(aj:AJ w c nb l cnt g s){x y:Ty}(ra:nR l g s a x)(rb:nR l g s b y):Cq 301 #[nA c.eb,nA a,nA b] w (afM pN c nb l g s cnt x y w):=by
 refine(LW (j6 ⟨rfl,rfl⟩) aj.je aj.js ⟨ra.mem,ra.lv⟩ ⟨rb.mem,rb.lv⟩).mono ?_;exact Tw
def afO(aj:AJ w c nb l cnt g s){x y:Ty}(ra:nR l g s a x)(rb:nR l g s b y):Cq 299 #[nA c.eb,nA a,nA b] w (afM m9 c nb l g s cnt x y w):=by
 refine(LW (j5 ⟨rfl,rfl⟩) aj.je aj.js ⟨ra.mem,ra.lv⟩ ⟨rb.mem,rb.lv⟩).mono ?_;exact Tw
def akG c nb l D T g(s:jd)cnt w(e:Ending)w':=∃n g' aD,e=.returned (nA n)/\AJ w' c nb l aD g' s/\fY l c w g s w' g' s/\aD<=cnt+D/\nR l g' s n T
def aci(aj:AJ w c nb l cnt g s){v}(hv:dW w Q T v)(hQ:∀b,Q b->b≠c.cb)(hs:size T<=1000)(hT:∀n,¬aw n T)(hc:cnt+size T<=900000):Cq 283 #[nA c.eb,v] w (akG c nb l (size T) T g s cnt w):=by
 refine(aew aj.je aj.js aj.us hv hQ hs hT hc).mono ?_;rintro e w'⟨n,g',aD,rfl,je,js,o,hn,hV,hl,qQ,F⟩;exact⟨n,g',aD,rfl,o.aj aj (br _) je js,o.stj aj.js (br _)<|F.fZ λb q=>j6 q,qQ,hn,by rw[hV];exact(jy λn o=>absurd o<|hT n).symm,hl⟩
end
section
variable {cnt:Nat} {xE:ji}
def GL.om{ds}{str}{nx}{vr}{ly}{lv}(h:GL w ds str nx vr ly lv)(hs:w.heap.size<=w'.heap.size)(hb:∀b p,w.cell? ⟨b,0,none⟩=some (.pointer p)->w'.heap[b]? =w.heap[b]?):GL w' ds str nx vr ly lv:=by
 refine⟨λn hn=>?_,h.out,h.hd⟩;have⟨p1,p2,p3⟩:=h.nd n hn;have⟨p,hp⟩:=h.rf hn;refine⟨(hb n p hp).trans p1,?_,p3⟩
 cases e:str n with
 |none=>trivial|some q=>
  obtain⟨k,ps⟩:=q;rw[e]at p2;obtain⟨q1,q2,q3,q4⟩:=p2;refine⟨q1,q2,q3,?_⟩;by_cases e0:ps=[]
  .exact j6 e0
  .have⟨gg,r1,r2,r3,r4⟩:=q4.resolve_left e0;have hl:=List.length_pos_iff.2 e0;have:=hb gg _<|r4 0 hl;exact j5 ⟨gg,r1,r2,ae,λi hi=>by rw[<-r4 i hi];simp only[World.cell?,this]⟩
def AJ.om{S}(a:AJ w c nb l cnt g s)(f:Fr S w w')(h:∀b,S b->b≠c.rb/\b≠c.mb/\∀o,w.cell? ⟨b,o,none⟩=none):AJ w' c nb l cnt g s:=by
 have nc:∀{b o v},w.cell? ⟨b,o,none⟩=some v->w'.heap[b]? =w.heap[b]? :=λ{b o v}q=>f.block b (jM q) λz=>by rw[(h b z).2.2 o]at q;cases q
 obtain⟨⟨bx,ct,rs,ms,z⟩,js,q1,q2,q3⟩:=a;have e1:=nc<|bx.c 0;have e2:=nc<|ct.c 0;exact⟨⟨bx.same f.size e1,ct.same f.size e2,rs.same<|f.block _ rs.lt λz=>(h _ z).1 rfl,(ms.Wl (S:=S) λb q a y e=>by rw[(h b q).2.2 0]at e;cases e).move f.size (f.block _ ms.lt λz=>(h _ z).2.1 rfl) (λb p y=>f.block b y p.2)<|λ_ p _=>p.1,⟨z.1,z.2.1,j7 z.2.2 f.size⟩⟩,⟨js.gl.om f.size λb p q=>nc q,js.nF,js.inj,js.can,js.lc,js.val,js.use,js.ok⟩,q1,q2,q3⟩
theorem ch.over{nb1}{L L2 L'}(q:∀x,(Γ x=none/\a_ x L=none)\/∃d m,Γ x=some d/\a_ x L=some (nA m)/\Cn g s d m)(q2:∀x,(xE x=none/\a_ x L2=none)\/∃d m,xE x=some d/\a_ x L2=some (nA m)/\Cn g s d m)(h:MG Value.string w nb1 L')(e:∀x,a_ x L'=match a_ x L2 with|some v=>some v|none=>a_ x L):ch w nb1 (jo xE Γ) g s:=by
 refine⟨L',h,λx=>?_⟩;rw[e x];rw[jo];obtain⟨h1,h2⟩|⟨d,m,h1,h2,h3⟩:=q2 x
 .grind
 .grind
def qA{mb}(Hx:jO x)(aj:AJ w c nb l cnt g s)(en:ch w nb Γ g s)(em:ch w mb xE g s)(hx:PE w (λb=>b<c.lo) x v)(sc:ScE c.mks c.nl dom x)(hd:∀y,dom y->jo xE Γ y≠none)(fa:cnt+1000*nn x<=850000)(fb:l+nn x<=805)(mf:MkFine c.mks):
 Cq 293 #[nA c.eb,Mv mb,v] w (cU c nb l (1000*nn x) (ja c.mks x<|jo xE Γ) g s cnt w):=by
 have f3:=aj.je.bx.c 3;have ze:=aj.je.bx.z;have fZ:=aj.je.z.2.2;have zr:=aj.je.rs.lt;have zm:=aj.je.ms.lt;have n2:=em.afI aj.je;have z2:=em.lt;obtain⟨L,m1,q1⟩:=en;obtain⟨L2,M2,q2⟩:=em;have HC:=aal m1;have HK:∀w1 w3 L',Bq w w1->w1.heap.size=w.heap.size+1->MG Sv w1 w.heap.size L->MG Sv w3 w.heap.size L'->(∀x,a_ x L'=match a_ x L2 with|some v=>some v|none=>a_ x L)->Fr (λi=>i=w.heap.size) (w1.setCell ⟨c.eb,3,none⟩<|Mv w.heap.size) w3->yJ c w.heap.size l w3 g s w3 g s cnt/\fY l c w g s w3 g s/\Cq 291 #[nA c.eb,v] w3 (cU c w.heap.size l (1000*nn x) (ja c.mks x<|jo xE Γ) g s cnt w3):=λw1 w3 L' k1 z1 mc m3 e3 f=>by
  have o:=gJ w1 c.eb 3<|Mv w.heap.size;have aj3:=((aj.af k1).given w.heap.size).om f λb e=>by
   have mc':=mc.one o ae;exact⟨ae,ae,λi=>by rw[e];exact mc'.bE i⟩
  have F:Fr (jS c g) w w3:=((j8 k1).trans<|o.fr<|j5<|j6 rfl).g_ f λi e=>j5 ae;exact⟨.refl aj3,{fY.refl aj.js c l with fr:=F},Hx c w3 w.heap.size l cnt g s _ dom v ⟨aj3,.over q1 q2 m3 e3,hx.move F.size (λb p q=>F.block b q<|aj.jlo p)<|λ_ p _=>p,sc,hd,fa,fb,mf⟩⟩
 obtain⟨tx,ax,rfl⟩:=hx.iface;go_enter func293,ntmps293;go_wp2_with fail;refine HC.mono ?_;rintro e w1⟨rfl,MC,K1,Z1⟩;have HD:=aeA (w:=w1.setCell ⟨c.eb,3,none⟩<|Mv w.heap.size) (MC.one (gJ _ _ _ _) ae) ((M2.af K1).one (gJ _ _ _ _) n2) ae;have c1:=(aj.je.bx.below K1).c;have c2:=(aj.je.bx.below K1).f;go_wp2_with fail;refine HD.mono ?_;rintro e w3⟨rfl,⟨L',m3,e3⟩,F3⟩;have⟨NX,st,HE⟩:=HK w1 w3 L' K1 Z1 MC m3 e3 F3;have ST:=ai st;go_wp2_with fail;refine HE.mono ?_;rintro e w4(⟨n,g4,s4,ai1,T,rfl,HP,a4,t4,hc,R4⟩|⟨z,vl,vr,rfl,HP,hF,xZ⟩)
 .have d1:=a4.je.bx.c;have d2:=a4.je.bx.f;have A5:=a4.given nb;have S5:=ST.trans aj.js NX.a.js a4.js t4
  go_wp2
  go_ret;have st:=S5;exact j6 ⟨n,g4,s4,ai1,T,rfl,HP,A5,{st with fr:=st.fr.set (j6<|j5<|j6 rfl) 3 _},hc,R4⟩
 .have HX:=show uk c (ja c.mks x<|jo xE Γ) g s w (Pp z.f vl vr) w4 from⟨z,vl,vr,rfl,HP,hF,ST.fr.trans xZ⟩
  go_wp2
  exact⟨rfl,j5 HX⟩
end
structure mZ{β:Type}c nb l w0 g0(s0:jd)(p:jc β)w g(s:jd)cnt(q:jc β):Prop where
 n:yJ c nb l w0 g0 s0 w g s cnt
 p:∀o,q s o->p s0 o
section
variable {cnt:Nat} {q:jc Ty} {p' q':jc β} {m:jc α} {k:α->jc β} {a:α}
def mZ.start(a:AJ w c nb l cnt g s)(p':jc β):mZ c nb l w g s p' w g s cnt p':=⟨.refl a,λ_ h=>h⟩
def mZ.and(n:mZ c nb l w0 g0 s0 p' w g s cnt (jh m k))(hm:m s (.ok (a,s1)))(a1:AJ w1 c nb l ah g1 s1)(t1:fY l c w g s w1 g1 s1):mZ c nb l w0 g0 s0 p' w1 g1 s1 ah (k a):=⟨n.n.next a1 t1,λo ho=>n.p o<|j5 ⟨a,s1,hm,ho⟩⟩
def mZ.bad(n:mZ c nb l w0 g0 s0 p' w g s cnt (jh m k))(b:uk c m g s w e w'):uk c p' g0 s0 w0 e w':=n.n.bad b λz h=>n.p _<|j6 ⟨z,h,rfl⟩
def mZ.ret{x}(n:mZ c nb l w0 g0 s0 p w g s cnt (jj T))(r:nR l g s x T)(hc:cnt<=cnt0+D):cU c nb l D p g0 s0 cnt0 w0 (.returned<|nA x) w:=.ok n.n (n.p _ rfl) r hc
def mZ.af(n:mZ c nb l w0 g0 s0 p' w g s cnt q')(k:Bq w w1):mZ c nb l w0 g0 s0 p' w1 g s cnt q':=⟨n.n.af k,n.p⟩
def mZ.step(n:mZ c nb l w0 g0 s0 p' w g s cnt q')(a1:AJ w1 c nb l ah g1 s)(t1:fY l c w g s w1 g1 s):mZ c nb l w0 g0 s0 p' w1 g1 s ah q':=⟨n.n.next a1 t1,n.p⟩
def mZ.last(n:mZ c nb l w0 g0 s0 p w g s cnt q)(h:cU c nb l D' q g s cnt w e w')(hc:cnt+D'<=cnt0+D):cU c nb l D p g0 s0 cnt0 w0 e w':=by
 obtain⟨x,g',s',aD,T,h1,h2,h3,h4,h5,h6⟩|h:=h
 .obtain rfl:=h1;exact .ok (n.n.next h3 h4) (n.p _ h2) h6 ae
 .exact j5 (n.n.bad h λz h=>n.p _ h)
def afP(d:In.Ml)c nb l g(s:jd)cnt w(e:Ending)w':=∃n g' s' aD ρ,e=.returned (nA n)/\In.sC d.any jp s (.ok (ρ,s'))/\AJ w' c nb l aD g' s'/\fY l c w g s w' g' s'/\aD<=cnt+48/\nR l g' s' n (sub (In.via ρ)<|sub s.k d.of)
def aeJ(aj:AJ w c nb l cnt g s)(hl:l<aL){m}(nm:Cn g s d m)(hz:size (g.V m)<=48)(hc:cnt+48<=900000):Cq 311 #[nA m,Nv l,vrV c] w (afP d c nb l g s cnt w):=by
 have jA:= @run_makeMap Tryz.prog;have k0:Bq w (w.alloc<|.map #[] 0):=bw _;have a0:=aj.af k0;have z:=aj.je.z.2.2;have hf:Wn c w.heap.size:=⟨z,aj.je.bx.z,aj.je.ct.z,aj.je.rs.lt,aj.je.ms.lt⟩;have cp:vF (λ_=>False) l w.heap.size (w.alloc<|.map #[] 0) g s jp []:=⟨MS.new _ w,λp q=>by simp at q,λh v q=>by simp[a_]at q,λv n q=>lq⟩;have fa:Fa g l m:=⟨λx=>x∈g.ds/\g.nx x=none,λx hx _ _ k ps hs p hp h hh=>⟨aj.js.gl.bN (aj.js.jg.Xi x k ps hx hs p hp) hh,hh.head⟩,λx q=>aj.lv x q.1 q.2,λh hh=>⟨aj.js.gl.bN nm.mem hh,hh.head⟩⟩;have HI:=afG (nb:=nb) hf hl 48 _ g s cnt jp [] m a0.je a0.js aj.us cp nm.mem fa hz ae;have HK:Hid (∀e w',Py (λ_=>False) c nb l w.heap.size g s cnt jp m (w.alloc<|.map #[] 0) e w'->(∃n,e=Rv (nA n))/\afP d c nb l g s cnt w e w'):=ai λe w' hp=>by
  obtain⟨n,g',s',aD,dS,M',rfl,je,js,cp',o,hn,hV,yP,h1,h2,h3,F⟩:=hp;have F':Fr (jS c g) w w':=(j8 k0).g_ F λb q=>by
   obtain q|q|q:=q
   .exact j6 (j6 q)
   .exact j6 (j5<|j5 q)
   .exact j5 ae
  have o':=o.zK k0.size;have ah3:∀v,dS v≠none->aw v (g.V m)/\ed g v:=λv q=>by
   have ov:=h2 v rfl q
   cases e:dS v with
   |none=>exact absurd e q|some x=>exact⟨ov,ed.back aj.js js o' nm.mem ov<|cp'.any e⟩
  refine⟨⟨n,rfl⟩,n,g',s',aD,dS,rfl,⟨dS,s'.u,⟨λv n q=> lq,λv hv=>?_,λv hv=>h1 v ((nm.any v).1 hv).1 ((nm.any v).1 hv).2,λv n _ q=>o.nw v n rfl q,λv v' n _ q q'=>o.on v v' n rfl q q',o.usd⟩,by rw[<-o.kk]⟩,o'.aj aj (br _) je js,o'.stj aj.js (br _) F',ae,hn,?_,yP⟩
  .cases e:dS v with
   |none=>rfl|some x=>exact absurd ((nm.any v).2<|ah3 v (by rw[e];simp)) hv
  .rw[<-nm.val,<-hV];exact(jy λv ov=>by have⟨x,r⟩:=js.og hn ov;exact(js.root r).2).symm
 go_enter func311,ntmps311;go_wp2_with fail;refine HI.mono ?_;intro e w1 hp;obtain⟨⟨n,rfl⟩,Q⟩:=uh HK e w1 hp
 go_wp2
 go_ret;exact Q
def afQ(aj:AJ w c nb l cnt g s)(hn:n∈g.ds)f t:Cq 282 #[nA n,.agg #[Nv f,Nv t]] w (λe w'=>(∃bi,AJ w' c nb l cnt {g with nx:=bi} s/\fY l c w g s w' {g with nx:=bi} s)/\((size (g.V n)<=48/\e=.returned (.tuple #[]))\/(48<size (g.V n)/\e=Pp ⟨7,f,t⟩ .nilIface .nilIface))):=by
 refine(sd aj.js hn f t).mono ?_;rintro e w'⟨⟨bi,E,js⟩,F,h⟩;have o:OR l w.heap.size g s cnt jp {g with nx:=bi} s cnt jp:=OR.eqv aj.js E js.gl _;have F':Fr (jS c g) w w':=F.fZ λb q=>j5<|j5 q;exact⟨⟨bi,o.aj aj (br _) (aj.je.fr aj.js F' (aj.je.bx.fr F<|aj.je.Bh aj.js)<|aj.je.ct.fr F<|aj.je.Bi aj.js) js,o.stj aj.js (br _) F'⟩,h⟩
def aii(aj:AJ w c nb l cnt g s)(hl:l<aL)(en:ch w nb Γ g s){x}(hx:Γ x≠none)f t(hc:cnt+48<=900000):Cq 297 #[nA c.eb,.agg #[Nv f,Nv t,.string x]] w (cU c nb l 48 (jq Γ x f t) g s cnt w):=by
 obtain⟨L,hM,hq⟩:=en;have⟨d,m,e1,e2,NM⟩:=(hq x).resolve_left λq=>hx q.1;have⟨k0,b0⟩:=rq w #[Nv f,Nv t,Sv x] 198;have HL:∀n,(Instr.lookup 116 (Mv nb) (Sv x) false).run Tryz.prog ((w.alloc<|Cv #[Nv f,Nv t,Sv x] 198).drewN n)=.ok (nA m) ((w.alloc<|Cv #[Nv f,Nv t,Sv x] 198).drewN n):=λn=>by
  have:=(hM.af<|k0.drewN n).ms.look PW cP (AX _) x trivial (λ_ _=>trivial) false;rw[e2]at this;exact this
 have f3:=(aj.af k0).je.bx.c 3;obtain⟨c1,c2,c3⟩:=b0;have K0:=ai k0;go_enter func297,ntmps297
 go_wp2
 go_quiet(fail);have KQ:=K0.drewN nq;have aQ:=aj.af KQ;have HM:=afQ aQ NM.mem f t;have N0:=yJ.refl aQ;go_wp2_with fail;refine HM.mono ?_;rintro e w2⟨⟨q_,a2,t2⟩,⟨hz,rfl⟩|⟨hz,rfl⟩⟩
 .have N2:=N0.next a2 t2;have nm2:=NM.eZ hl N0.a a2.js t2;have HI:=aeJ a2 hl nm2 hz hc;have HV:=ai nm2.val;have f4:=a2.je.bx.c 4;go_wp2_with fail;refine HI.mono ?_;rintro e w3⟨n,g3,s3,rI,ρ,rfl,hd,a3,t3,hc3,r3⟩;have n3:=N2.next a3 t3;have hp:jq Γ x f t s (.ok (sub (In.via ρ)<|sub s.k d.of,s3)):=by
   rw[jq];rw[e1];exact j5 ⟨by rw[<-(uh HV)];exact hz,ρ,s3,hd,rfl⟩
  have HX:=(cU.ok (D:=48) (cnt0:=cnt) n3 hp r3 hc3).up KQ
  go_wp2
  go_ret;exact HX
 .have HX:=show cU c nb l 48 (jq Γ x f t) g s cnt w (Pp ⟨7,f,t⟩ Zv Zv) w2 from j5 ⟨In.qN f t,Zv,Zv,rfl,by rw[jq];rw[e1];exact j6 ⟨by rw[<-NM.val];exact hz,rfl⟩,⟨λ_=>⟨rfl,rfl⟩,λq=>by simp[In.qN]at q,j5 rfl⟩,(j8 KQ).trans t2.fr⟩
  go_wp2
  exact⟨rfl,HX⟩
end
def akH c nb l D(p:jc Unit)g(s:jd)cnt w e w':=
 (e=.returned (.tuple #[])/\∃g' s' aD,p s (.ok ((),s'))/\AJ w' c nb l aD g' s'/\fY l c w g s w' g' s'/\aD<=cnt+D)\/uk c p g s w e w'
def akI(hu:od k)w:dW w (λ_=>False) (.aM k []) (.iface 165<|.agg #[.string k,.slice none 0 0]):=by
 have:=dW.aM (w:=w) (P:=λ_=>False) k [] none 0 (λ_=>Zv) (j5<|j5 hu) (j6 rfl)<|λi h=>vQ
 rwa[fh hu]at this
section
variable {cnt:Nat}
def WM(aj:AJ w c nb l cnt g s)(hu:od k)(hc:cnt+1<=900000):Cq 283 #[nA c.eb,.iface 165<|.agg #[.string k,.slice none 0 0]] w (akG c nb l 1 (.aM k []) g s cnt w):=by
 have:=aci aj (akI hu w) (λb q=>q.elim) (by simp[size,ak]) (λn q=>by simp[aw,bW]at q) (by simpa[size,ak]using hc);simpa[size,ak]using this
def acj{tx}{ax}(Hx:jO x)(h:nT x c w nb l cnt g s Γ dom (.iface tx ax)):Cq 304 #[nA c.eb,.iface tx ax] w (akH c nb l (1000*nn x+1) (jh (ja c.mks x Γ) λa=>jz a In.i_ (ju x)<|jv x) g s cnt w):=by
 have H1:=Hx c w nb l cnt g s Γ dom _ h;have fa:=h.fa;have fb:=h.fb;have pl:=h.pe.place;dsimp only[PlF]at pl;have N0:=mZ.start h.aj<|In.andM (In.inf c.mks x Γ) λa=>In.ur a In.i_ (In.iJ x)<|In.xD x;go_enter func304,ntmps304;go_wp2_with fail;refine H1.mono ?_;rintro e w1(⟨n1,g1,s1,ah,T1,rfl,p1,A1,t1,c1,R1⟩|hb)
 .have H2:=WM A1 ng ae;have N1:=N0.and p1 A1 t1;go_wp2_with fail;refine(sA).mono ?_;rintro e w1'⟨rfl,rfl⟩;go_wp2_with fail;refine H2.mono ?_;rintro e w2⟨n2,g2,cJ,rfl,a2,t2,c2,r2⟩;have N2:=N1.step a2 t2;have R2:=And.intro (R1.eZ A1.js t2) r2;go_wp2_with fail;refine(de _ _).mono ?_;rintro e w3⟨rfl,k3⟩;have N3:=N2.af k3;have H3:=D9 N3.n.a ZQ R2.1 R2.2 (ju x)<|jv x;go_wp2_with fail;refine H3.mono ?_;rintro e w4(⟨rfl,g4,s4,p4,a4,t4⟩|hb)
  .have n4:=N3.n.next a4 t4;have HX:=show akH c nb l (1000*nn x+1) (jh (ja c.mks x Γ) λa=>jz a In.i_ (ju x)<|jv x) g s cnt w (Rv<|.tuple #[]) w4 from j6 ⟨rfl,g4,s4,cJ,N3.p _ p4,n4.a,n4.t,ae⟩
   go_wp2
   go_end0;exact HX
  .have HX:=N3.n.bad hb<|λz q=>N3.p _ q;obtain⟨z,vl,vr,rfl,-⟩:=hb
   go_wp2
   exact⟨rfl,j5 HX⟩
 .have HX:=N0.bad hb;obtain⟨z,vl,vr,rfl,-⟩:=hb
  go_wp2
  exact⟨rfl,j5 HX⟩
end
structure BdJ rc st x c w nb l cnt g(s:jd)(Γ:ji)(dom:BA->Prop)v:Prop where
 aj:AJ w c nb l cnt g s
 en:ch w nb Γ g s
 pe:PE w (λb=>b<c.lo) x v
 sc:ScE c.mks c.nl (λy=>dom y\/(rc=true/\y=st)) x
 hd:∀y,dom y->Γ y≠none
 fa:cnt+1000*(1+nn x)<=850000
 fb:l+nn x<=805
 mf:MkFine c.mks
section
variable {cnt:Nat}
def One.af(o:One b W w')(k:Bq w W)(hb:w.heap.size<=b):Bq w w':=⟨o.os.trans k.os,o.tape.trans k.tape,o.output.trans k.output,by rw[o.size];exact k.size,λi hi=>(o.block i ae).trans<|k.block i hi⟩
def nR.nm{n:Nat}{T:Ty}(r:nR l g s n T)(js:JS w g s)(hl:l<aL)(hu:∀k,aw k T->s.u k):Cn g s (In.mono T) n where
 mem:=r.mem
 val:=r.val
 any v:=⟨λq=> lq,λ⟨o,x,rx,e⟩=>by
  have⟨y,hy⟩:=js.gl.hd n r.mem;have⟨z,rz,q⟩:=fE (lv:=g.lv) js.jg js.can _ n y r.mem hy (br _) o;have q:=q js.lc;have:=r.lv y hy;rw[rz.one js.jg rx,e]at q
  omega⟩
 use:=hu
 sub v q:=lq
def ch.lit{y}(h:MG Value.string w b (bG y (nA m) []))(n:Cn g s d m):ch w b (jf (λ_=>none) y d) g s:=by
 refine⟨_,h,λz=>?_⟩;rw[aN];rw[jf];by_cases e:y=z
 .grind
 .rw[if_neg e,if_neg<|Ne.symm e];exact j6 ⟨rfl,rfl⟩
def BdJ.up(h:BdJ rc st x c w nb l cnt g s Γ dom v)(k:Bq w w1):BdJ rc st x c w1 nb l cnt g s Γ dom v:=⟨h.aj.af k,h.en.af k,h.pe.af k,h.sc,h.hd,h.fa,h.fb,h.mf⟩
def ack(Hx:jO x)(h:BdJ false st x c w nb l cnt g s Γ dom v):Cq 285 #[nA c.eb,.agg #[.bool false,Nv a,Nv y,.string st,v]] w (cU c nb l (1000*(1+nn x)) (jk false st x (ja c.mks x) Γ) g s cnt w):=by
 have k0:Bq w (w.alloc<|Cv #[.bool false,Nv a,Nv y,Sv st,v] 83):=bw _;have h0:=h.up k0;have fa:=h.fa;have fb:=h.fb;have H1:=Hx c _ nb l cnt g s Γ _ v ⟨h0.aj,h0.en,h0.pe,h0.sc,λz q=>h.hd z (q.resolve_right λq=>by cases q.1),ae,ae,h.mf⟩;obtain⟨tx,ax,rfl⟩:=h.pe.iface;have N0:=mZ.start h0.aj<|In.inf c.mks x Γ;have K0:=ai k0;go_enter func285,ntmps285;go_wp2_with fail;refine H1.mono ?_;intro e w1 hq;have HX:=(N0.last (cnt0:=cnt) (D:=1000*(1+nn x)) hq ae).up K0;obtain⟨n1,g1,s1,ah,T1,rfl,-⟩|⟨z,vl,vr,rfl,-⟩:=hq
 .clear H1
  go_wp2
  go_ret;exact HX
 .clear H1
  go_wp2
  exact⟨rfl,HX⟩
def Tx{p:Prop}(h:p:=by
 obtain⟨z,vl,vr,rfl,-⟩:=hb
 go_wp2
 exact⟨rfl,cU.up (j5 HX) K0⟩):p:=h
def acm(Hx:jO x)(h:BdJ true st x c w nb l cnt g s Γ dom v):Cq 285 #[nA c.eb,.agg #[.bool true,Nv a,Nv y,.string st,v]] w (cU c nb l (1000*(1+nn x)) (jk true st x (ja c.mks x) Γ) g s cnt w):=by
 have jA:= @run_makeMap Tryz.prog;have fa:=h.fa;have fb:=h.fb;have hl:l<aL:=ZQ;have⟨k0,B0⟩:=rq w #[.bool true,Nv a,Nv y,Sv st,v] 83;have HA:=h.up k0;have D_:=h.aj.iU<|br _;have N0:=mZ.start HA.aj<|In.bX true st x (In.inf c.mks x) Γ;rw[Ep]at N0;rw[Ep];have H1:=vI HA.aj ae;obtain⟨tx,ax,rfl⟩:=h.pe.iface;have pl:=h.pe.place;dsimp only[PlF]at pl;have K0:=ai k0;go_enter func285,ntmps285;go_wp2_with fail;refine H1.mono ?_;rintro e w1⟨n1,g1,rfl,p1,a1,t1,R1,-⟩;have N1:=N0.and p1 a1 t1;have nm:=R1.nm a1.js hl (λk o=>by simp only[aw]at o;exact Or.inr o.symm);have HW:∀(w2:World)(mb:Nat),Bq w1 w2->MG Sv w2 mb (bG st (nA n1) [])->Cq 293 #[nA c.eb,Mv mb,Fv tx<|Av ax] w2 (cU c nb l (1000*nn x) (In.inf c.mks x<|In.cz Γ st<|In.mono<|.var<|cnt+1) g1 ⟨s.k,λm=>s.u m\/m=cnt+1⟩ (cnt+1) w2):=λw2 mb k hM=>by
  have h:=HA;have n1:=N1.n;have:=qA Hx (a1.af k) ((h.en.eZ hl h.aj a1.js t1).af k) (ch.lit hM nm) ((n1.pe h.pe).af k) h.sc (λz q=>?_) ae ae h.mf
  .rw[yt]at this;exact this
  .rw[yt];rw[jf];split
   .simp
   .exact h.hd z (q.resolve_right λq=>by have:=q.2;contradiction)
 have⟨b1,b2,b3⟩:=N1.n.bx B0 D_;go_wp2_with(refine cu PW cP rfl _ _ _ (j6 rfl) rfl (MG.new _ _) st (nA n1) rfl rfl ?_;intro w2 hM o;have k2:=o.af ((Below.refl _ w1).alloc (br _)<|.map #[] 0)<|br _;have⟨d1,d2,d3⟩:=N1.af k2|>.n.bx B0 D_;have HM:=ai hM;have K2:=ai k2;clear hM o k2);refine(HW _ _ K2 HM).mono ?_;rintro e w3(⟨n3,g3,s3,rI,T3,rfl,p3,a3,t3,c3,r3⟩|hb)
 .have N3:=(N1.af K2).and p3 a3 t3;have R3:=And.intro (R1.eZ N1.n.a.js t3) r3;have⟨d1',d2',d3'⟩:=N3.n.bx B0 D_;go_wp2_with fail;refine(de _ _).mono ?_;rintro e w4⟨rfl,k4⟩;have N4:=N3.af k4;have H4:=D9 N4.n.a hl R3.1 R3.2 (ju x)<|jv x;go_wp2_with fail;refine H4.mono ?_;rintro e w5(⟨rfl,g5,s5,p5,a5,t5⟩|hb)
  .have N5:=N4.and p5 a5 t5;have R5:=R3.2.eZ N4.n.a.js t5
   go_wp2
   go_ret;exact(N5.ret R5 ae).up K0
  .have HX:=N4.bad hb;exact Tx
 .have HX:=(N1.af K2).bad hb;exact Tx
def acn(Hx:jO x)(h:BdJ rc st x c w nb l cnt g s Γ dom v):Cq 285 #[nA c.eb,.agg #[.bool rc,Nv a,Nv y,.string st,v]] w (cU c nb l (1000*(1+nn x)) (jk rc st x (ja c.mks x) Γ) g s cnt w):=by
 cases rc
 .exact ack Hx h
 .exact acm Hx h
end
abbrev jG c g gb b:=jS c g b\/b=gb
def aco{α:Type}c gb(p:jc α)g s w e w':=∃z vl vr,e=Pp z.f vl vr/\p s (.error z)/\ru w' (λ_=>True) z vl vr/\Fr (jG c g gb) w w'
def qL c nb l gb D(p:jc (Ty×ji))g s cnt w e w':=
 (∃n g' s' aD T G,e=.returned (nA n)/\p s (.ok ((T,G),s'))/\AJ w' c nb l aD g' s'/\fY l c w g s w g' s'/\Fr (jG c g gb) w w'/\ch w' gb G g' s'/\aD<=cnt+D/\nR l g' s' n T)\/aco c gb p g s w e w'
structure GZ nd c w nb l cnt g s gb(G:ji)v:Prop where
 aj:AJ w c nb l cnt g s
 en:ch w gb G g s
 pp:PP w (λb=>b<c.lo) nd v
 sc:si c.mks c.nl nd
 fg:c.fZ<=gb/\gb≠c.rb/\gb≠c.mb/\c.lo<=gb
 fa:cnt+1000*nn nd<=850000
 fl:l<aL
 mf:MkFine c.mks
def PS nd:=∀(c:JC)(w:World)(nb l cnt:Nat)(g:f_)(s:jd)(gb:Nat)(G:ji)(v:Value),GZ nd c w nb l cnt g s gb G v->
 Cq 313 #[nA c.eb,Mv gb,v] w (qL c nb l gb (1000*nn nd) (jm c.mks nd G) g s cnt w)
structure mW{β:Type}c nb l gb w0 g0 s0(p:jc β)w g s cnt(q:jc β):Prop where
 a:AJ w c nb l cnt g s
 t:fY l c w0 g0 s0 w0 g s
 f:Fr (jG c g0 gb) w0 w
 z:∃k,AJ w0 c nb l k g0 s0
 p:∀o,q s o->p s0 o
section
variable {W1:World} {cnt:Nat} {p' q':jc β} {m:jc α} {k:α->jc β} {a:α}
def fY.fg(t:fY l c w g s w1 g1 s1):Fr (jG c g gb) w w1:=t.fr.fZ λ_ q=>j6 q
def mW.start(a:AJ w c nb l cnt g s)(p':jc β):mW c nb l gb w g s p' w g s cnt p':=⟨a,.refl a.js c l,.refl _ _,⟨_,a⟩,λ_ h=>h⟩
def mW.fr(n:mW c nb l gb w0 g0 s0 p' w g s cnt q')(f:Fr (jG c g gb) w w1):Fr (jG c g0 gb) w0 w1:=n.f.trans' f λx q=>by
 obtain  (q|q|q)|q:=q
 .omega
 .omega
 .exact(n.t.nw x q).imp (λz=>j6<|j5<|j5 z) id
 .omega
def mW.gr(n:mW c nb l gb w0 g0 s0 p' w g s cnt q')(a1:AJ w1 c nb l ah g1 s1)(t1:fY l c w g s W g1 s1):fY l c w0 g0 s0 w0 g1 s1:=by
 have⟨k,z⟩:=n.z;exact n.t.trans z.js n.a.js a1.js {t1 with nw:=λm hm=>(t1.nw m hm).imp id<|j7 n.f.size,fr:=.refl _ _}
def mW.and(n:mW c nb l gb w0 g0 s0 p' w g s cnt (jh m k))(hm:m s (.ok (a,s1)))(a1:AJ w1 c nb l ah g1 s1)(t1:fY l c w g s W g1 s1)(f:Fr (jG c g gb) w w1):mW c nb l gb w0 g0 s0 p' w1 g1 s1 ah (k a):=⟨a1,n.gr a1 t1,n.fr f,n.z,λo ho=>n.p o<|j5 ⟨a,s1,hm,ho⟩⟩
def mW.step{W}(n:mW c nb l gb w0 g0 s0 p' w g s cnt q')(a1:AJ w1 c nb l ah g1 s)(t1:fY l c w g s W g1 s)(f:Fr (jG c g gb) w w1):mW c nb l gb w0 g0 s0 p' w1 g1 s ah q':=⟨a1,n.gr a1 t1,n.fr f,n.z,n.p⟩
def mW.af(n:mW c nb l gb w0 g0 s0 p' w g s cnt q')(k:Bq w w1):mW c nb l gb w0 g0 s0 p' w1 g s cnt q':=n.step (n.a.af k) (.refl n.a.js c l)<|j8 k
def uk.bp{p:jc α}(b:uk c p g s w e w'):aco c gb p g s w e w':=by
 obtain⟨z,vl,vr,h1,h2,h3,h4⟩:=b;exact⟨z,vl,vr,h1,h2,h3,h4.fZ λ_ q=>j6 q⟩
def mW.bad(n:mW c nb l gb w0 g0 s0 p' w g s cnt (jh m k))(b:aco c gb m g s w e w'):aco c gb p' g0 s0 w0 e w':=by
 obtain⟨z,vl,vr,h1,h2,h3,h4⟩:=b;exact⟨z,vl,vr,h1,n.p _<|j6 ⟨z,h2,rfl⟩,h3,n.fr h4⟩
def mW.bx(n:mW c nb l gb w0 g0 s0 p' w g s cnt q')(h:Bx w0 b C)(hb:¬jG c g0 gb b):Bx w b C:=h.fr n.f hb
def mW.ret{p:jc (Ty×ji)}{x}(n:mW c nb l gb w0 g0 s0 p w g s cnt (jj (T,G)))(en:ch w gb G g s)(r:nR l g s x T)(hc:cnt<=cnt0+D):qL c nb l gb D p g0 s0 cnt0 w0 (.returned<|nA x) w:=j6 ⟨x,g,s,cnt,T,G,rfl,n.p _ rfl,n.a,n.t,n.f,en,hc,r⟩
def qL.up{p:jc (Ty×ji)}(h:qL c nb l gb D p g s cnt w1 e w')(k:Bq w w1):qL c nb l gb D p g s cnt w e w':=by
 obtain⟨n,g',s',aD,T,G,h1,h2,h3,h4,h5,h6⟩|⟨z,vl,vr,h1,h2,h3,h4⟩:=h
 .exact j6 ⟨n,g',s',aD,T,G,h1,h2,h3,{h4 with nw:=λm hm=>(h4.nw m hm).imp id<|j7 k.size,fr:=.refl _ _},(j8 k).trans h5,h6⟩
 .exact j5 ⟨z,vl,vr,h1,h2,h3,(j8 k).trans h4⟩
def AJ.gno(aj:AJ w c nb l cnt g s)(en:ch w gb G g s)(hb:w.heap.size<=b):¬jG c g gb b:=λq=>q.elim (aj.iU hb) λq=>by have:=en.lt;omega
def GZ.up{nd:Nd}{v:Value}(h:GZ nd c w nb l cnt g s gb G v)(k:Bq w w1):GZ nd c w1 nb l cnt g s gb G v:=⟨h.aj.af k,h.en.af k,h.pp.af k,h.sc,h.fg,h.fa,h.fl,h.mf⟩
def GZ.part{G1}(h:GZ nd c w0 nb l cnt0 g0 s0 gb G v)(n:mW c nb l gb w0 g0 s0 p' w g s cnt q')(en:ch w gb G1 g s)(hp:PP w0 (λb=>b<c.lo) x u)(hs:si c.mks c.nl x)(hz:cnt+1000*nn x<=cnt0+1000*nn nd):GZ x c w nb l cnt g s gb G1 u:=
 ⟨n.a,en,hp.move n.f.size (λb p q=>n.f.block b q λz=>z.elim (h.aj.jlo p) λz=>by have:=h.fg;omega)<|λ_ p _=>p,hs,h.fg,by have:=h.fa;omega,h.fl,h.mf⟩
end
section
variable {cnt:Nat}
def ch.put{x:BA}{L}(q:∀y,(G y=none/\a_ y L=none)\/∃d m,G y=some d/\a_ y L=some (nA m)/\Cn g s d m)(h:MG Value.string w1 gb (bG x (nA m) L))(n:Cn g s d m):ch w1 gb (jf G x d) g s:=by
 refine⟨_,h,λz=>?_⟩;rw[aN];rw[jf];by_cases e:x=z
 .grind
 .grind
def Br{T}(hq:T=201/\cn=ry/\(∃n:Nat,xs=#[Nv f,Nv t,Nv n])\/T=204/\cn=ys/\(∃n:Bool,xs=#[Nv f,Nv t,.bool n])\/T=259/\cn=iW/\xs=#[Nv f,Nv t])(aj:AJ w c nb l cnt g s)(en:ch w gb G g s)(hl:l<aL)(hc:cnt+1<=900000):Cq 313 #[nA c.eb,Mv gb,.iface T<|.agg xs] w (qL c nb l gb 1000 (jj (.aM cn [],G)) g s cnt w):=by
 have hu:od cn:=by obtain⟨-,rfl,-⟩|⟨-,rfl,-⟩|⟨-,rfl,-⟩:=hq;exact ng;exact lj;exact sB
 have k0:Bq w (w.alloc<|Cv xs T):=bw _;have H1:=WM (aj.af k0) hu hc;have N0:=mW.start (gb:=gb) (aj.af k0)<|jj (Ty.aM cn [],G);have EN:=en.af k0;have K0:=ai k0;obtain⟨rfl,rfl,n,rfl⟩|⟨rfl,rfl,n,rfl⟩|⟨rfl,rfl,rfl⟩:=hq;all_goals
  go_enter func313,ntmps313;go_wp2_with fail;first|refine sA.mono ?_|refine oC.mono ?_|refine yV.mono ?_
  rintro e w1⟨rfl,rfl⟩;go_wp2_with fail;refine H1.mono ?_;rintro e w2⟨n2,g2,cJ,rfl,a2,t2,c2,r2⟩;have HX:=((N0.step a2 t2 t2.fg).ret (D:=1000) (cnt0:=cnt) (EN.eZ hl N0.a a2.js t2) r2 ae).up K0
  go_wp2
  go_ret;exact HX
def aeK(aj:AJ w c nb l cnt g s)(en:ch w gb G g s)(hl:l<aL)(hc:cnt<=1000000):Cq 313 #[nA c.eb,Mv gb,.iface 260<|.agg #[Nv f,Nv t]] w (qL c nb l gb 1000 (jh jx λv=>jj (.var v,G)) g s cnt w):=by
 have k0:Bq w (w.alloc<|Cv #[Nv f,Nv t] 260):=bw _;have H1:=vI (aj.af k0) hc;have N0:=mW.start (gb:=gb) (aj.af k0)<|In.andM In.jZ λv=>In.cZ (Ty.var v,G);have EN:=en.af k0;have K0:=ai k0;go_enter func313,ntmps313;go_wp2_with fail;refine H1.mono ?_;rintro e w2⟨n2,g2,rfl,p2,a2,t2,r2,-⟩;have HX:=((N0.and p2 a2 t2 t2.fg).ret (D:=1000) (cnt0:=cnt) (EN.eZ hl N0.a a2.js t2) r2 ae).up K0
 go_wp2
 go_ret;exact HX
def aeL{x:BA}(aj:AJ w c nb l cnt g s)(en:ch w gb G g s)(hl:l<aL)(hc:cnt<=1000000)(hg:c.fZ<=gb/\gb≠c.rb/\gb≠c.mb):Cq 313 #[nA c.eb,Mv gb,.iface 198<|.agg #[Nv f,Nv t,.string x]] w (qL c nb l gb 1000 (jh jx λv=>jj (.var v,jf G x<|In.mono<|.var v)) g s cnt w):=by
 have⟨k0,B0⟩:=rq w #[Nv f,Nv t,Sv x] 198;have H1:=vI (aj.af k0) hc;have D_:=aj.gno en<|br _;have N0:=mW.start (gb:=gb) (aj.af k0)<|In.andM In.jZ λv=>In.cZ (Ty.var v,In.cz G x<|In.mono<|.var v);have EN:=en.af k0;have K0:=ai k0;go_enter func313,ntmps313;go_wp2_with fail;refine H1.mono ?_;rintro e w2⟨n2,g2,rfl,p2,a2,t2,r2,-⟩;have⟨L,hM,hq⟩:=EN.eZ hl N0.a a2.js t2;have HK:∀w3,MG Sv w3 gb (bG x (nA n2) L)->One gb w2 w3->qL c nb l gb 1000 (In.andM In.jZ λv=>In.cZ (Ty.var v,In.cz G x<|In.mono<|.var v)) g s cnt w (Rv<|nA n2) w3:=λw3 h3 o=>by
  have f3:Fr (λb=>b=gb) w2 w3:=o.fr rfl;have a3:=a2.om f3 λb e=>⟨ae,ae,λi=>by rw[e];exact hM.bE i⟩;have nm:=r2.nm a2.js hl (λk o=>by simp only[aw]at o;exact j5 o.symm);exact((N0.and p2 a3 t2<|(t2.fg (gb:=gb)).trans' (f3.fZ λb e=>(j5 e:jG c g gb b)) λb q=>j6 q).ret (D:=1000) (cnt0:=cnt) (ch.put hq h3 nm) r2 ae).up K0
 have⟨b1,b2,b3⟩:=B0.fr t2.fr λq=>D_<|j6 q;have HM:=ai hM;go_wp2_with(refine cu PW cP rfl _ _ _ (j5 rfl) rfl HM x (nA n2) rfl rfl ?_;intro w3 h3 o;have HX:=ai<|HK w3 h3 o;clear h3 o);go_ret;exact HX
def Tz{p:Prop}(h:p:=by
 obtain⟨z,vl,vr,rfl,-⟩:=hb
 go_wp2
 exact⟨rfl,qL.up (j5 HX) K0⟩):p:=h
def acp{y}{vy}(Hx:PS x)(Hy:PS y)(h:GZ (.mk 6 st n [x,y] f t a) c w nb l cnt g s gb G v)(hx:PP w (λb=>b<c.lo) x vx)(hy:PP w (λb=>b<c.lo) y vy):
 Cq 313 #[nA c.eb,Mv gb,.iface 265<|.agg #[Nv f,Nv t,vx,vy]] w (qL c nb l gb (1000*nn (.mk 6 st n [x,y] f t a)) (jm c.mks (.mk 6 st n [x,y] f t a) G) g s cnt w):=by
 have en:nn (.mk 6 st n [x,y] f t a)=1+nn x+nn y:=Mu;have ep:jm c.mks (.mk 6 st n [x,y] f t a) G=jh (jm c.mks x G) λa=>jh (jm c.mks y a.2) λb=>jj (In.tPr a.1 b.1,b.2):=by simp[jm,In.sw,In.mh,In.di]
 obtain⟨sx,sy⟩:si c.mks c.nl x/\si c.mks c.nl y:=by
  cases h.sc with
  |pr _ _ _ _ _ _ _ hx hy=>exact⟨hx,hy⟩
 have fa:=h.fa;have hl:=h.fl;rw[en]at fa;have⟨k0,B0⟩:=rq w #[Nv f,Nv t,vx,vy] 265;have HA:=h.up k0;have D_:=h.aj.gno h.en<|br _;have N0:=mW.start (gb:=gb) HA.aj<|In.dv c.mks (.mk 6 st n [x,y] f t a) G;rw[ep]at N0;have H1:=Hx c _ nb l cnt g s gb G vx<|HA.part N0 HA.en (hx.af k0) sx El;rw[en,ep];have HY:=hy.af k0;obtain⟨tx,ax,rfl⟩:=hx.iface;obtain⟨ty,ay,rfl⟩:=hy.iface;have K0:=ai k0;go_enter func313,ntmps313;go_wp2_with fail;refine H1.mono ?_;rintro e w1(⟨n1,g1,s1,ah,T1,G1,rfl,p1,a1,t1,f1,e1,c1,R1⟩|hb)
 .have N1:=N0.and p1 a1 t1 f1;have H2:=Hy c w1 nb l ah g1 s1 gb G1 _<|HA.part N1 e1 HY sy El;have⟨b1,b2,b3⟩:=N1.bx B0 D_;go_wp2_with fail;refine H2.mono ?_;rintro e w2(⟨n2,g2,s2,cJ,T2,G2,rfl,p2,a2,t2,f2,E2,c2,r2⟩|hb)
  .have N2:=N1.and p2 a2 t2 f2;have H3:=afO a2 (R1.eZ N1.a.js t2) r2;go_wp2_with fail;refine H3.mono ?_;rintro e w3⟨n3,g3,rfl,a3,t3,r3⟩;have HX:=((N2.step a3 t3 t3.fg).ret (D:=1000*(1+nn x+nn y)) (cnt0:=cnt) (E2.eZ hl N2.a a3.js t3) r3 ae).up K0
   go_wp2
   go_ret;exact HX
  .have HX:=N1.bad hb;exact Tz
 .have HX:=N0.bad hb;exact Tz
end
section
variable {cnt:Nat}
def Dsj w c nb l cnt D(p:jc Ty)g(s:jd)fn T xs:=
 (∀W:World,Bq w W->Cq fn #[nA c.eb,.agg xs] W (cU c nb l D p g s cnt W))->Cq 291 #[nA c.eb,.iface T<|.agg xs] w (cU c nb l D p g s cnt w)
def dj:
 (∀{st},Dsj w c nb l cnt D p g s 297 198 #[Nv f,Nv t,.string st])/\
 (∀{tx ty ax ay},Dsj w c nb l cnt D p g s 300 224 #[Nv f,Nv t,.iface tx<|.agg ax,.iface ty<|.agg ay])/\
 (∀{tx ty ax ay},Dsj w c nb l cnt D p g s 305 238 #[Nv f,Nv t,.iface tx<|.agg ax,.iface ty<|.agg ay])/\
 (∀{tx ty tz ax ay az},Dsj w c nb l cnt D p g s 302 230 #[Nv f,Nv t,.iface tx<|.agg ax,.iface ty<|.agg ay,.iface tz<|.agg az])/\
 (∀{n sc sa tx ax},Dsj w c nb l cnt D p g s 303 233 #[Nv f,Nv t,.iface tx<|.agg ax,.slice sa n sc]):=by
 refine⟨?_,?_,?_,?_,?_⟩;all_goals
  intros;intro H;go_enter func291,ntmps291;go_wp2_with fail;refine(H _<|bw _).mono ?_;intro e w1 hp;have HP:=ai<|hp.up<|bw _;obtain⟨n1,-,-,-,-,rfl,-⟩|⟨z,vl,vr,rfl,-⟩:=hp
  .go_wp2
   go_ret;exact HP
  .go_wp2
   exact⟨rfl,HP⟩
def G7{T}(hq:T=201/\cn=ry/\(∃n:Nat,xs=#[Nv f,Nv t,Nv n])\/T=204/\cn=ys/\(∃n:Bool,xs=#[Nv f,Nv t,.bool n])\/T=259/\cn=iW/\xs=#[Nv f,Nv t])(aj:AJ w c nb l cnt g s)(hc:cnt+1<=900000):Cq 291 #[nA c.eb,.iface T<|.agg xs] w (cU c nb l 1000 (jj<|.aM cn []) g s cnt w):=by
 have hu:od cn:=by obtain⟨-,rfl,-⟩|⟨-,rfl,-⟩|⟨-,rfl,-⟩:=hq;exact ng;exact lj;exact sB
 have k0:Bq w (w.alloc<|Cv xs T):=bw _;have H1:=WM (aj.af k0) hu hc;have N0:=mZ.start (aj.af k0)<|jj<|Ty.aM cn [];have K0:=ai k0;obtain⟨rfl,rfl,n,rfl⟩|⟨rfl,rfl,n,rfl⟩|⟨rfl,rfl,rfl⟩:=hq;all_goals
  go_enter func291,ntmps291;go_wp2_with fail;first|refine sA.mono ?_|refine oC.mono ?_|refine yV.mono ?_
  rintro e w1⟨rfl,rfl⟩;go_wp2_with fail;refine H1.mono ?_;rintro e w2⟨n2,g2,cJ,rfl,a2,t2,c2,r2⟩;have HX:=((N0.step a2 t2).ret (D:=1000) (cnt0:=cnt) r2 ae).up K0
  go_wp2
  go_ret;exact HX
end
end Go.Proofs.YtnldmeakhapdhaaGreatDoor
