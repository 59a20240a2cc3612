import Derived.Test.YtlnlhlefeokfjaaGreatDoorPBo
set_option linter.all false
set_option maxRecDepth 100000
set_option maxHeartbeats 4000000
namespace Go.Proofs.YtlnlhlefeokfjaaGreatDoor
open In renaming inf->ja,eU->jc,cz->jd,ch->jf,rK->jh
open Go Go.RowKit Go.ChangeMaps Go.MapKept Un
variable {st:BA} {rc:Bool} {D S a y:Nat} {x:Nd} {vx:Value} {w0:World}
section
variable {w:World} {c:WC} {cnt:Nat} {s:In.St} {kb gb:Nat} {Λ:Nat->Prop} {Γ:In.Env} {Q:Nat->Prop} {dom:BA->Prop}
def Jq(Hx:Dy x)(h:BdA rc st x c w cnt s kb Λ Γ gb Q dom vx):
 Cq 241 #[Pv c.eb,Mv kb,Mv gb,.agg #[.bool rc,Nv a,Nv y,.string st,vx]] w (bi c (1100*(1+nn x)) (1000*(1+nn x)) (jf rc st x (ja c.mks x) Γ) s cnt w):=by
 cases rc
 .exact Yo Hx h
 .exact Yp Hx h
def N_{T}{s1}{ta}{xa}{jI ak}{w1}(q:acZ c S D (jf rc st x (ja c.mks x) Γ) s cnt w0 ak T s1 ta xa jI w1)(hk:WK w c cnt s kb)(hn:∀n,¬s.u n->Λ n)(hg:WG w c s Λ Γ gb):Fh w w1 c ak s s1 Λ jI/\In.cA Λ s1 T:=by
 have⟨g1,g2⟩:=In.iG rc st x (In.mD c.mks x) Γ s Λ hk.ok hn hg.i T s1 q.m;exact⟨⟨⟨q.k,q.n,λn p=>by obtain r|r:=q.u n p;have:=hk.u n r;have:=q.c1;unfold us at*;omega;rw[us];omega,g1.ok,q.wh⟩,g1.new,g1⟩,g2⟩
def bi.wide{S' D'}{p}{w'}{e}(h:bi c S D p s cnt w0 e w')(hS:S<=S')(hD:D<=D')(hb:Bq w w0):bi c S' D' p s cnt w e w':=by
 obtain⟨F,aE,o,h1,h2,h3,h4,h5⟩:=h;refine⟨(Fr.of hb).trans F,aE,o,h1,ae,h3,h4,?_⟩;unfold agr at*;split
 .obtain⟨q1,q2,ta,xa,kb,q3,q4,q5,q6⟩:=h5;exact⟨q1,q2,ta,xa,kb,q3,q4,q5,q6.le hS⟩
 .exact h5
def UW(Γ:In.Env)k t v:(jc Γ k t v).any.Nodup:=by
 cases v
 .simp[jc]
 .simp only[jc,if_true,In.zL];exact(de _ List.nodup_nil).filter _
def agE{K}(hK:K=if rc then 11 else 10){n f t}{z}{vz}(Hx:Dy x)(Hz:Dy z)(h:Fk (.mk K st n [x,z] f t a) c w cnt s kb Λ Γ gb Q dom (.iface 291<|.agg #[Nv f,Nv t,.bool rc,Nv a,Nv y,.string st,vx,vz]))(hx:PE w Q x vx)(hz:PE w Q z vz):
 Cq 267 #[Pv c.eb,Mv kb,Mv gb,.agg #[Nv f,Nv t,.bool rc,Nv a,Nv y,.string st,vx,vz]] w (bi c (1100*nn (.mk K st n [x,z] f t a)) (1000*nn (.mk K st n [x,z] f t a)) (ja c.mks (.mk K st n [x,z] f t a) Γ) s cnt w):=by
 have en:nn (.mk K st n [x,z] f t a)=1+nn x+nn z:=QG;have ei:ja c.mks (.mk K st n [x,z] f t a) Γ=In.andM (jf rc st x (ja c.mks x) Γ) λt=>λs1=>ja c.mks z (jd Γ st<|jc (mg rc st Γ) s1.k t<|jh x) s1:=by rw[hK];exact NO _ _ _ _ _ _ _ _ _ _
 have C0:=ai<|Cl.refl c (1100*(1+nn x+nn z)) (1000*(1+nn x+nn z)) (ja c.mks (.mk K st n [x,z] f t a) Γ) s cnt w;rw[ei]at C0;rw[en,ei];obtain⟨jA,sx,sz⟩:st∈c.nl/\ScE c.mks c.nl (λv=>dom v\/(rc=true/\v=st)) x/\ScE c.mks c.nl (λv=>dom v\/v=st) z:=by
  obtain⟨-,hs,hx,hz⟩:=h.sc.YB (by cases rc<;>simp[hK]);have e:(λv=>dom v\/(K=11/\v=st))=(λv=>dom v\/(rc=true/\v=st)):=by cases rc<;>simp[hK]
  rw[e]at hx;exact⟨hs,hx,hz⟩
 have⟨k0,B0⟩:=nbh w #[Nv f,Nv t,.bool rc,Nv a,Nv y,Sv st,vx,vz] 291;have bd:BdA rc st x c w cnt s kb Λ Γ gb Q dom vx:=⟨h.we,h.wk,h.hn,h.wg,hx,h.hq,sx,h.hd,h.ft.le NT NT,h.mf,jA⟩;have H1:=Jq (a:=a) (y:=y) Hx<|bd.af k0;have zc:=h.we.di;have W8:=h.ft.a;have ftb:=h.ft.b;rw[en]at W8 ftb;have HA:=ai h;have HX:=ai hx;have HZ:=ai hz;have K0:=ai k0;obtain⟨tx,ax,rfl⟩:=hx.iface;obtain⟨tz,az,rfl⟩:=hz.iface;clear h hx hz k0 bd Hx ei;go_enter Tryz.func267,Tryz.ntmps267;go_wp2_with fail;refine H1.mono ?_;intro e w1 hp;clear H1;obtain⟨ak,zz,vl,vr,rfl,q1⟩|⟨ak,T1,s1,BQ,BS,jI,rfl,q1⟩:=hp.split
 .clear hp
  go_wp2
  exact⟨rfl,q1.post (Fr.of K0) ae⟩
 have h:=uh HA;have F1:=(Fr.of (S:=λi=>i=c.cb) K0).trans q1.F;have⟨dN,ty1⟩:=N_ q1 h.wk h.hn h.wg;have c1:=q1.c1;have c2:=q1.c2;have C1:=C0.and q1.m F1 q1.c1 q1.u (D2:=1000*nn z) ae;have wg1:=h.wg.fr F1 dN.p.run;have px:=HX.move (Q:=Q) F1.size (λb p z=>F1.block b z<|h.hq b p)<|λ_ p _=>p;have pz:=HZ.move (Q:=Q) F1.size (λb p z=>F1.block b z<|h.hq b p)<|λ_ p _=>p;have z1:=q1.we.di;have⟨se,sn⟩:=In.yH dN.k.ok dN.n wg1.i ty1 rc st<|jh x;have HS:∀W:World,Bq w1 W->Cq 280 #[Mv jI,Mv gb,Av #[.bool rc,Nv a,Nv y,Sv st,Fv tx<|Av ax],Fv BQ BS] W (SoP c (jc (mg rc st Γ) s1.k T1<|jh x) W):=λW hb=>NP (q1.we.af hb) (dN.k.af hb) (wg1.af hb) (px.af hb) (S:=1100*(1+nn x)) ae (q1.t.af hb) ty1 ae h.ft.l;obtain⟨d,hd⟩:∃d,d=jc (mg rc st Γ) s1.k T1 (jh x):=⟨_,rfl⟩;have pW:d.any.Nodup:=by rw[hd];exact UW _ _ _ _
 rw[<-hd]at HS;have HWI:∀(W:World)(u:Value),Bq w1 W->oh W (dt c) d u->Cq 247 #[Mv gb,Sv st,u] W (pZ (dt c) (jd Γ st d) W):=λW u hb hu=>yG (wg1.e.af hb) st hu;have HXC:∀(W:World)(b:Nat),Bq w1 W->w1.heap.size<=b->bS W (dt c) b (jd Γ st d)->Cq 251 #[Pv c.eb,Mv jI,Mv b,Fv tz<|Av az] W (bi c (1100*nn z) (1000*nn z) (ja c.mks z<|jd Γ st d) s1 ak W):=λW b hb hzb he=>
  Hz c W ak s1 jI (In.less Λ d.any) _ b Q _ _ ⟨q1.we.af hb,dN.k.af hb,by rw[hd];exact sn,⟨he,ae,by rw[hd];exact se,λy d' q=>by
   rw[jd]at q;split at q
   .injection q with q;rw[<-q];exact pW
   .exact h.wg.nd y d' q,λy q=>by
   rw[jd]at q;split at q
   .rename_i e;rw[e];exact jA
   .exact h.wg.dm y q⟩,pz.af hb,h.hq,sz,Fm h.hd,h.ft.le NT NT,h.mf⟩
 have CE:∀e w',bi c (1100*(1+nn x+nn z)) (1000*nn z) (ja c.mks z<|jd Γ st d) s1 ak w1 e w'->bi c (1100*(1+nn x+nn z)) (1000*(1+nn x+nn z)) (In.andM (jf rc st x (ja c.mks x) Γ) λt=>λs1=>ja c.mks z (jd Γ st<|jc (mg rc st Γ) s1.k t<|jh x) s1) s cnt w e w':=λe w' hh=>C1 e w' (by rw[hd]at hh;exact hh);have B1:=ai<|B0.fr q1.F ae;clear h F1 q1 dN ty1 hp B0 C0 C1 wg1 px pz se sn hd pW HA HX HZ Hz K0;have⟨b1,b2,b3⟩:=uh B1
 go_wp2
 go_region_with(first
  |(go_at_call 280;go_loud(refine(HS _ (Below.refl _ _).drew).mono ?_);rintro e w4⟨u4,rfl,h4,k4⟩;have K4:Hid (Bq w1 w4):=ai<|(Below.refl _ _).drew.trans k4;have⟨d1,d2,d3⟩:=B1.below K4;have S4:=ai h4;clear k4 h4)
  |(go_at_call 247;go_loud(refine(HWI _ _ K4 S4).mono ?_);rintro e w5⟨b5,rfl,z5,h5,k5⟩;have K5:Hid (Bq w1 w5):=ai<|K4.trans<|k5.mono K4.size;have⟨g1,g2,g3⟩:=B1.below K5;have E5:=ai h5;have Z5:=ai<|Nat.le_trans K4.size z5;clear k5 h5 z5)
  |(go_at_call 251;go_loud(refine(HXC _ _ K5 Z5 E5).mono ?_);intro e w6 hp;have mh:=CE _ _<|hp.wide (S':=1100*(1+nn x+nn z)) (D':=1000*nn z) ae (br _) K5;obtain⟨Jo,zz,vl,vr,rfl,q6⟩|⟨Jo,T6,s6,Yq,Yr,W9,rfl,q6⟩:=hp.split;go_loud(exact⟨rfl,mh⟩);have HPP:=ai mh;clear hp mh q6))
 all_goals
  go_wp2
  go_ret2;exact HPP
end
end Go.Proofs.YtlnlhlefeokfjaaGreatDoor
