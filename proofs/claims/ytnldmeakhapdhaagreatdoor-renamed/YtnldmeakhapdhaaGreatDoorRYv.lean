import Derived.Test.YtnldmeakhapdhaaGreatDoorRFx
import Derived.Test.YtnldmeakhapdhaaGreatDoorRYr
set_option linter.all false
set_option maxRecDepth 100000
set_option maxHeartbeats 4000000
namespace Go.Proofs.YtnldmeakhapdhaaGreatDoor
open In renaming inf->ja,andM->jc,dU->jd,cz->jf,Cr->jh,sg->ji,Ye->jj,gd->jk,bX->jl,iB->jm,arr->jo,i_->jp,mn->jq,St->jt,gH->ju,bO->jv,Env->jx
open Or renaming inr->jy,inl->jz
open Go.RowKit.Below renaming refl->j5
open _root_.Nat renaming le_trans->j6
open Go Go.RowKit Go.ChangeMaps Go.MapKept Un Proofs.Tryz
variable {st:BA} {dom:BA->Prop} {rc:Bool} {g:f_} {Γ:jx} {s s1:jt} {c:JC} {nl:List BA} {a b f l n nb t y:Nat} {x z:Nd} {T1:Un.Ty} {v vx vy:Value} {w:World}
def Mf{α β γ:Type}{m}{k:α->In.MM β}{h:β->In.MM γ}{o:Except In.Ft (γ×jt)}:jc (jc m k) h s o↔jc m (λa=>jc (k a) h) s o:=by
 refine⟨?_,eA⟩;rintro(⟨x,⟨y,q,e⟩|⟨a,s',q,r⟩,rfl⟩|⟨b,s',⟨y,q,e⟩|⟨a,s1,q,r⟩,z⟩)
 .injection e with e;subst e;exact jz ⟨x,q,rfl⟩
 .exact jy ⟨a,s',q,jz ⟨x,r,rfl⟩⟩
 .cases e
 .exact jy ⟨a,s1,q,jy ⟨b,s',r,z⟩⟩
def Ub{p:Prop}(h:p:=by
 cases h with
 |lt _ _ _ _ _ _ _ _ _ hs hc hx hz=>grind|two _ _ _ _ _ _ _ _ _ hk=>simp at hk):p:=h
def akK{mk}(h:ScE mk nl dom (.mk (if rc then 11 else 10) st n [x,z] f t a)):ScE mk nl (λv=>dom v\/(rc=true/\v=st)) x/\ScE mk nl (λv=>dom v\/v=st) z:=by
 cases rc with
 |false=>
  exact Ub
 |true=>
  exact Ub
section
variable {cnt:Nat}
def yK{p:Prop}(h:p:=by
 obtain⟨z,vl,vr,rfl,-⟩:=hb
 go_wp2
 exact⟨rfl,cU.up (jy HX) K0⟩):p:=h
def Uc{p:Prop}(h:p:=by
 cases h.sc with
 |two _ _ _ _ _ _ _ _ _ _ hx hy=>exact⟨hx,hy⟩|lt _ _ _ _ _ _ _ _ _ _ hc=>omega):p:=h
def aeP{y:Nd}(Hx:jO x)(Hy:jO y)(h:nT (.mk 6 st n [x,y] f t a) c w nb l cnt g s Γ dom v)(hx:PE w (λb=>b<c.lo) x vx)(hy:PE w (λb=>b<c.lo) y vy):
 Cq 291 #[nA c.eb,.iface 221<|.agg #[Nv f,Nv t,vx,vy]] w (cU c nb l (1000*nn (.mk 6 st n [x,y] f t a)) (ja c.mks (.mk 6 st n [x,y] f t a) Γ) g s cnt w):=by
 have en:nn (.mk 6 st n [x,y] f t a)=1+nn x+nn y:=Mu;obtain⟨sx,sy⟩:ScE c.mks c.nl dom x/\ScE c.mks c.nl dom y:=by
  exact Uc
 have fa:=h.fa;have fb:=h.fb;rw[en]at fa fb;have hl:l<aL:=ZQ;have⟨k0,B0⟩:=rq w #[Nv f,Nv t,vx,vy] 221;have HA:=h.up k0;have D_:=h.aj.iU<|br _;have N0:=mZ.start HA.aj<|In.inf c.mks (.mk 6 st n [x,y] f t a) Γ;rw[Nk]at N0;have H1:=Hx c _ nb l cnt g s Γ dom vx<|HA.part N0.n (hx.af k0) sx El El;rw[en,Nk];have HY:=hy.af k0;obtain⟨tx,ax,rfl⟩:=hx.iface;obtain⟨ty,ay,rfl⟩:=hy.iface;have K0:=ai k0;go_enter func291,ntmps291;go_wp2_with fail;refine H1.mono ?_;rintro e w1(⟨n1,g1,s1,ah,T1,rfl,p1,a1,t1,c1,R1⟩|hb)
 .have N1:=N0.and p1 a1 t1;have H2:=Hy c w1 nb l ah g1 s1 Γ dom _<|HA.part N1.n HY sy El El;have⟨b1,b2,b3⟩:=N1.n.bx B0 D_;go_wp2_with fail;refine H2.mono ?_;rintro e w2(⟨n2,g2,s2,cJ,T2,rfl,p2,a2,t2,c2,r2⟩|hb)
  .have N2:=N1.and p2 a2 t2;have H3:=afO a2 (R1.eZ N1.n.a.js t2) r2;go_wp2_with fail;refine H3.mono ?_;rintro e w3⟨n3,g3,rfl,a3,t3,r3⟩;have HX:=((N2.step a3 t3).ret (D:=1000*(1+nn x+nn y)) (cnt0:=cnt) r3 ae).up K0
   go_wp2
   go_ret;exact HX
  .have HX:=N1.bad hb;exact yK
 .have HX:=N0.bad hb;exact yK
def ail(Hx:jO x)(h:nT (.mk 9 st n [x] f t a) c w nb l cnt g s Γ dom v)(hx:PE w (λb=>b<c.lo) x vx):
 Cq 291 #[nA c.eb,.iface 226<|.agg #[Nv f,Nv t,Nv a,Nv y,.string st,vx]] w (cU c nb l (1000*nn (.mk 9 st n [x] f t a)) (ja c.mks (.mk 9 st n [x] f t a) Γ) g s cnt w):=by
 have en:nn (.mk 9 st n [x] f t a)=1+nn x:=qBi;have sx:ScE c.mks c.nl (λv=>dom v\/v=st) x:=by
  cases h.sc with
  |fn _ _ _ _ _ _ _ hs hx=>exact hx
 have jA:= @run_makeMap Tryz.prog;have fa:=h.fa;have fb:=h.fb;rw[en]at fa fb;have hl:l<aL:=ZQ;have⟨k0,B0⟩:=rq w #[Nv f,Nv t,Nv a,Nv y,Sv st,vx] 226;have HA:=h.up k0;have D_:=h.aj.iU<|br _;have N0:=mZ.start HA.aj<|In.inf c.mks (.mk 9 st n [x] f t a) Γ;rw[Nc]at N0;have H1:=vI HA.aj ae;rw[en,Nc];have HXE:=hx.af k0;obtain⟨tx,ax,rfl⟩:=hx.iface;have K0:=ai k0;go_enter func291,ntmps291;go_wp2_with fail;refine H1.mono ?_;rintro e w1⟨n1,g1,rfl,p1,a1,t1,R1,-⟩;have N1:=N0.and p1 a1 t1;have nm:=R1.nm a1.js hl (λk o=>by simp only[aw]at o;exact Or.inr o.symm);have HW:∀(w2:World)(mb:Nat),Bq w1 w2->MG Sv w2 mb (bG st (nA n1) [])->Cq 293 #[nA c.eb,Mv mb,Fv tx<|Av ax] w2 (cU c nb l (1000*nn x) (In.inf c.mks x<|In.cz Γ st<|In.mono<|.var<|cnt+1) g1 ⟨s.k,λm=>s.u m\/m=cnt+1⟩ (cnt+1) w2):=λw2 mb k hM=>by
  have h:=HA;have:=qA Hx (a1.af k) ((h.en.eZ hl h.aj a1.js t1).af k) (ch.lit hM nm) ((N1.n.pe HXE).af k) sx (by rw[yt];exact Ei h.hd) ae ae h.mf;rw[yt]at this;exact this
 have⟨b1,b2,b3⟩:=N1.n.bx B0 D_;go_wp2_with(refine cu PW cP rfl _ _ _ (jz rfl) rfl (MG.new _ _) st (nA n1) rfl rfl ?_;intro w2 hM o;have k2:=o.af ((j5 _ w1).alloc (br _)<|.map #[] 0)<|br _;have⟨d1,d2,d3⟩:=N1.af k2|>.n.bx B0 D_;have HM:=ai hM;have K2:=ai k2;clear hM o k2);refine(HW _ _ K2 HM).mono ?_;rintro e w3(⟨n3,g3,s3,rI,T3,rfl,p3,a3,t3,c3,r3⟩|hb)
 .have N3:=(N1.af K2).and p3 a3 t3;have H4:=afN a3 (R1.eZ N1.n.a.js t3) r3;go_wp2_with fail;refine H4.mono ?_;rintro e w4⟨n4,g4,rfl,a4,t4,r4⟩;have HX:=((N3.step a4 t4).ret (D:=1000*(1+nn x)) (cnt0:=cnt) r4 ae).up K0
  go_wp2
  go_ret;exact HX
 .have HX:=(N1.af K2).bad hb;exact yK
def acu{vz}(Hx:jO x)(Hz:jO z)(h:nT (.mk (if rc then 11 else 10) st n [x,z] f t a) c w nb l cnt g s Γ dom v)(hx:PE w (λb=>b<c.lo) x vx)(hz:PE w (λb=>b<c.lo) z vz):
 Cq 291 #[nA c.eb,.iface 228<|.agg #[Nv f,Nv t,.bool rc,Nv a,Nv y,.string st,vx,vz]] w (cU c nb l (1000*nn (.mk (if rc then 11 else 10) st n [x,z] f t a)) (ja c.mks (.mk (if rc then 11 else 10) st n [x,z] f t a) Γ) g s cnt w):=by
 have en:nn (.mk (if rc then 11 else 10) st n [x,z] f t a)=1+nn x+nn z:=Mu;obtain⟨sx,sz⟩:ScE c.mks c.nl (λv=>dom v\/(rc=true/\v=st)) x/\ScE c.mks c.nl (λv=>dom v\/v=st) z:=akK h.sc;have jA:= @run_makeMap Tryz.prog;have fa:=h.fa;have fb:=h.fb;rw[en]at fa fb;have hl:l<aL:=ZQ;have⟨k0,B0⟩:=rq w #[Nv f,Nv t,.bool rc,Nv a,Nv y,Sv st,vx,vz] 228;have HA:=h.up k0;have D_:=h.aj.iU<|br _;have N0:=mZ.start HA.aj<|In.inf c.mks (.mk (if rc then 11 else 10) st n [x,z] f t a) Γ;rw[Ng]at N0;have H1:=Mg (a:=a) (y:=y) Hx ⟨HA.aj,HA.en,hx.af k0,sx,h.hd,ae,ae,h.mf⟩ ae;rw[en,Ng];have HZ:=hz.af k0;obtain⟨tx,ax,rfl⟩:=hx.iface;obtain⟨tz,az,rfl⟩:=hz.iface;have K0:=ai k0;go_enter func291,ntmps291;go_wp2_with fail;refine H1.mono ?_;rintro e w1(⟨n1,g1,s1,ah,T1,rfl,p1,a1,t1,hc1,nm⟩|hb)
 .have N1:=N0.and p1 a1 t1;have HW:∀(w2:World)(mb:Nat),Bq w1 w2->MG Sv w2 mb (bG st (nA n1) [])->Cq 293 #[nA c.eb,Mv mb,Fv tz<|Av az] w2 (cU c nb l (1000*nn z) (ja c.mks z<|jf Γ st<|jk (l7 rc st Γ) s1.k T1<|ji x) g1 s1 ah w2):=λw2 mb k hM=>by
   have h:=HA;have:=qA Hz (a1.af k) ((h.en.eZ hl h.aj a1.js t1).af k) (ch.lit hM nm) ((N1.n.pe HZ).af k) sz (by rw[yt];exact Ei h.hd) ae ae h.mf;rw[yt]at this;exact this
  have⟨b1,b2,b3⟩:=N1.n.bx B0 D_;go_wp2_with(refine cu PW cP rfl _ _ _ (jz rfl) rfl (MG.new _ _) st (nA n1) rfl rfl ?_;intro w2 hM o;have k2:=o.af ((j5 _ w1).alloc (br _)<|.map #[] 0)<|br _;have⟨d1,d2,d3⟩:=N1.af k2|>.n.bx B0 D_;have HM:=ai hM;have K2:=ai k2;clear hM o k2);refine(HW _ _ K2 HM).mono ?_;intro e w3 hq;have HX:=(((N1.af K2).imp (r:=ja c.mks z<|jf Γ st<|jk (l7 rc st Γ) s1.k T1<|ji x) λo ho=>ho).last (cnt0:=cnt) (D:=1000*(1+nn x+nn z)) hq ae).up K0;obtain⟨n3,-,-,-,-,rfl,-⟩|⟨z,vl,vr,rfl,-⟩:=hq
  .clear HW HM
   go_wp2
   go_ret;exact HX
  .clear HW HM
   go_wp2
   exact⟨rfl,HX⟩
 .have HX:=N0.bad hb;exact yK
def WR{y:Nd}(Hx:jO x)(Hy:jO y)(h:nT (.mk 7 st n [x,y] f t a) c w nb l cnt g s Γ dom v)(hx:PE w (λb=>b<c.lo) x vx)(hy:PE w (λb=>b<c.lo) y vy)(hs:st=gh\/st=dE\/st=fc\/st=dL):
 Cq 291 #[nA c.eb,.iface 236<|.agg #[Nv f,Nv t,.string st,vx,vy]] w (cU c nb l (1000*nn (.mk 7 st n [x,y] f t a)) (ja c.mks (.mk 7 st n [x,y] f t a) Γ) g s cnt w):=by
 have en:nn (.mk 7 st n [x,y] f t a)=1+nn x+nn y:=Mu;obtain⟨sx,sy⟩:ScE c.mks c.nl dom x/\ScE c.mks c.nl dom y:=by
  exact Uc
 have fa:=h.fa;have fb:=h.fb;rw[en]at fa fb;have hl:l<aL:=ZQ;have⟨k0,B0⟩:=rq w #[Nv f,Nv t,Sv st,vx,vy] 236;have HA:=h.up k0;have D_:=h.aj.iU<|br _;have n0:=mZ.start HA.aj<|ja c.mks (.mk 7 st n [x,y] f t a) Γ;rw[Nl]at n0;rw[en,Nl];have HY:=hy.af k0;obtain⟨tx,ax,rfl⟩:=hx.iface;obtain⟨ty,ay,rfl⟩:=hy.iface;have H1:=acj Hx<|HA.part n0.n (hx.af k0) sx El El
 have N0:=ai (n0.imp (r:=jc (jc (ja c.mks x Γ) λa=>In.ur a jp (In.iJ x)<|In.xD x) λ_=>jc (jc (ja c.mks y Γ) λb=>In.ur b jp (In.iJ y)<|In.xD y) λ_=>In.cZ<|opT st) λo q=>by
  refine Mf.1 ?_;obtain q|⟨a,s',q1,q2⟩:=q
  .exact jz q
  .exact jy ⟨a,s',q1,Mf.1 q2⟩)
 have K0:=ai k0;clear h n0 k0 hx hy;have q1:=YY;have q2:=uG;go_enter func291,ntmps291;go_wp2_with fail;refine H1.mono ?_;rintro e w1(⟨rfl,g1,s1,ah,p1,a1,t1,c1⟩|hb)
 .have N1:=N0.and p1 a1 t1;have H2:=acj Hy<|HA.part N1.n HY sy El El;have⟨b1,b2,b3⟩:=N1.n.bx B0 D_;clear H1 p1 a1 t1 HY HA Hx Hy;go_wp2_with fail;refine H2.mono ?_;rintro e w2(⟨rfl,g2,s2,cJ,p2,a2,t2,c2⟩|hb)
  .have N2:=(N1.and p2 a2 t2).af (j5 _ _).drew;have⟨d1,d2,d3⟩:=(N1.and p2 a2 t2).n.bx B0 D_;have⟨e1,e2,e3⟩:=a2.je.bx;obtain⟨hk,ya⟩|⟨hk,ya⟩:=a2.je.rs.drew.look hs
   .have eo:opT st=In.oB:=if_pos hk;have EO:=ai eo;clear H2 p2 a2 t2 b1 b2 b3 hk eo
    go_wp2
    go_region_with(first
     |(go_at_call 48;refine(oC).mono ?_;rintro e w4⟨rfl,rfl⟩)
     |(go_at_call 283;go_loud(refine(WM N2.n.a lj ae).mono ?_);rintro e w5⟨n5,g5,amh,rfl,a5,t5,c5,r5⟩;have HX:=ai (((N2.step a5 t5).ret (D:=1000*(1+nn x+nn y)) (cnt0:=cnt) (by rw[uh EO];exact r5) ae).up K0);clear a5 t5 r5))
    all_goals
     go_wp2
     go_ret;exact HX
   .have eo:opT st=jp:=if_neg hk;have EO:=ai eo;clear H2 p2 a2 t2 b1 b2 b3 hk eo
    go_wp2
    go_region_with(first
     |(go_at_call 47;refine(sA).mono ?_;rintro e w4⟨rfl,rfl⟩)
     |(go_at_call 283;go_loud(refine(WM N2.n.a ng ae).mono ?_);rintro e w5⟨n5,g5,amh,rfl,a5,t5,c5,r5⟩;have HX:=ai (((N2.step a5 t5).ret (D:=1000*(1+nn x+nn y)) (cnt0:=cnt) (by rw[uh EO];exact r5) ae).up K0);clear a5 t5 r5))
    all_goals
     go_wp2
     go_ret;exact HX
  .have HX:=N1.bad hb;obtain⟨z,vl,vr,rfl,-⟩:=hb;clear H2
   go_wp2
   exact⟨rfl,cU.up (jy HX) K0⟩
 .have HX:=N0.bad hb;obtain⟨z,vl,vr,rfl,-⟩:=hb;clear H1
  go_wp2
  exact⟨rfl,cU.up (jy HX) K0⟩
end
section
variable {cnt:Nat}
def akL{x}(h:nT (.mk 2 x n [] f t a) c w nb l cnt g s Γ dom v):Cq 291 #[nA c.eb,.iface 219<|.agg #[Nv f,Nv t,.string x]] w (cU c nb l (1000*nn (.mk 2 x n [] f t a)) (ja c.mks (.mk 2 x n [] f t a) Γ) g s cnt w):=by
 have en:nn (.mk 2 x n [] f t a)=1:=qBi;obtain⟨tk,m,hx⟩:∃tk m,c.mks x=some (tk,m):=by
  cases h.sc with
  |up _ _ _ _ _ _ tk m hx=>exact⟨tk,m,hx⟩|leaf _ _ _ _ _ _ _ hk=>omega
 have fa:=h.fa;rw[en]at fa;rw[en,XY c.mks x n f t a Γ hx];have gL:=h.mf.sz x tk m hx;have Hg:=h.mf.wh x tk m hx;have has:=sD tk m;have⟨k0,B0⟩:=rq w #[Nv f,Nv t,Sv x] 219;obtain⟨w0,xF⟩:∃w0,w0=w.alloc (Cv #[Nv f,Nv t,Sv x] 219):=⟨_,rfl⟩;have a0:=h.aj.af k0;rw[<-xF]at k0 B0 a0;have⟨v,hv,ya⟩:=a0.je.ms.look hx;have ya:=ya w0.drew rfl;have zcb:=a0.je.ct.z;have zlm:=a0.je.z.2.2;obtain⟨sa,sc,ta,xa,rfl,-⟩:=id hv;have HTY:∀W:World,Bq w0 W->Cq 237 #[Av #[Lv sa tk.length sc,Fv ta xa]] W (λe w'=>∃tu xu,e=Rv (Fv tu xu)/\dW w' (λi=>i≠c.cb/\i<w'.heap.size) (jo tk m) (Fv tu xu)/\Bq W w'):=λW k=>by
  refine(vR (hv.move (Q:=λi=>i≠c.cb) k.size (λb _ z=>k.block b z)<|λb p _=>p.1) ae).mono ?_;rintro e w'⟨u,rfl,hu,hk⟩;obtain⟨tu,xu,rfl⟩:=hu.iface;exact⟨tu,xu,rfl,(hu.v Hg).move (br _) (λ_ _ _=>rfl)<|λb p z=>⟨p.elim id λp=>by have:=k.size;omega,z⟩,hk⟩
 have Be:∀(W w3:World)(kb jb mb:Nat)(tu:TypeId)(xu:Value),Bq w0 W->dW w3 (λi=>i≠c.cb/\i<w3.heap.size) (jo tk m) (Fv tu xu)->Bq w3 W->sv c l kb jb mb W g s cnt jh->w3.heap.size<=mb->w0.heap.size<=mb->Cq 289 #[Fv tu xu,Nv l,anV kb jb] W (λe w'=>∃n,e=Rv (nA n)/\cU c nb l 1000 (jc (In.qM (jo tk m) jh) λq=>In.cZ q.1) g s cnt w (Rv<|nA n) w'):=λW w3 kb jb mb tu xu k ht k3 an hm hm0=>by
  have zk:kb<W.heap.size/\jb<W.heap.size/\mb<W.heap.size:=⟨an.bk.z,an.bj.z,by have⟨L',hm',_⟩:=an.mp;exact hm'.lt⟩;refine(TH zk.1 zk.2.1 zk.2.2 (jo tk m) W g s cnt jh _ _ (a0.af k).je (a0.af k).js a0.us an (br _) (ht.move k3.size (λb _ z=>k3.block b z)<|λ_ p _=>p) (λb p=>⟨p.1,by have:=p.2;omega⟩) gL (λ_ _=>trivial) ae).mono ?_;rintro e w'⟨n4,g4,s4,c4,Dy,rfl,je,js,-,o,hn,hV,yP,hT,qQ,F⟩;have o':=o.zK k.size;have F':Fr (jS c g) w0 w':=(Fr.of k).g_ F λb q=>q.imp (λq=>jz q) λq=>ae;have a4:=o'.aj a0 (br _) je js;exact⟨n4,rfl,(((mZ.start a0 _).and (o'.drawn hT) a4<|o'.stj a0.js (br _) F').ret ⟨hn,by rw[hV,o.kk],yP⟩ ae).up k0⟩
 have HAN:Hid (∀W:World,Bq w0 W->Cq 298 #[nA c.eb] W λe w'=>∃kb jb mb,e=Rv (anV kb jb)/\sv c l kb jb mb w' g s cnt In.Cr/\Bq W w'/\(kb<w'.heap.size/\jb<w'.heap.size/\mb<w'.heap.size)/\W.heap.size<=mb/\W.heap.size<=jb/\W.heap.size<=kb):=ai λW k=>TK (a0.af k).je g s;have HL:Hid (∀W:World,Bq w0 W->W.cell? ⟨c.eb,4,none⟩=some (Nv l)):=ai λW k=>(a0.af k).je.bx.c 4;obtain⟨b1,b2,b3⟩:=B0;have⟨e1,e2,e3⟩:=a0.je.bx;have HW:=ai xF;clear h k0 a0 hv xF;go_enter func291,ntmps291;go_wp2_with fail;rw[<-uh HW]
 go_region_with(first
  |(go_at_call 237;go_loud(refine(HTY _ (j5 _ _).drew).mono ?_);rintro e w3⟨tu,xu,rfl,hu,k3⟩;have k3':Bq w0 w3:=(j5 _ _).drew.trans k3;have f3:=uh HL _ k3';have U3:=ai hu;have K3:=ai k3';clear hu k3 k3')
  |(go_at_call 298;go_loud(refine(HAN _ K3).mono ?_);rintro e w4⟨kb,jb,mb,rfl,an,k4,-,hm,-,-⟩;have k4':Bq w0 w4:=K3.trans<|k4.mono K3.size;have f4:=uh HL _ k4';have HO:=ai<|Be w4 w3 kb jb mb tu xu k4' U3 k4 an hm<|j6 K3.size hm;clear k4 an hm k4')
  |(go_at_call 289;go_loud(refine HO.mono ?_);rintro e w5⟨n5,rfl,hp⟩;have HP:=ai hp;clear hp))
 all_goals
  go_wp2
  go_ret;exact HP
end
def WS:∀(k:Nat)(nd:Nd),nn nd<=k->jO nd:=by
 intro k
 induction k with
 |zero=>intro nd h;cases nd;simp only[nn]at h;omega|succ k ih=>
  intro nd hk c w nb l cnt g s Γ dom v h;have hp:=h.pe;have fa:=h.fa;have fb:=h.fb;have hl:l<aL:=ZQ
  cases hp with
  |low st n f t a hs=>
   rw[ij]at fa⊢;have hd:Γ st≠none:=by
    cases h.sc with
    |low _ _ _ _ _ _ hx=>exact h.hd _ hx|leaf _ _ _ _ _ _ _ hk=>omega
   rw[show ja c.mks (.mk 1 st n [] f t a) Γ=In.rA Γ st f t by simp[ja,In.kZ]];exact dj.1 λW hb=>(aii (h.aj.af hb) hl (h.en.af hb) hd f t ae).mono λe w' q=>mZ.last (mZ.start (h.aj.af hb) _) q ae
  |up st n f t a hs=>exact akL h|num st n f t a=>
   rw[ij]at fa;rw[mr c.mks 3 st n f t a Γ ry<|jz ⟨rfl,rfl⟩,ij];exact G7 (jz ⟨rfl,rfl,_,rfl⟩) h.aj ae
  |word st n f t a hs=>
   rw[ij]at fa;rw[mr c.mks 4 st n f t a Γ ys<|jy<|jz ⟨rfl,rfl⟩,ij];exact G7 (jy<|jz ⟨rfl,rfl,_,rfl⟩) h.aj ae
  |unit st n f t a=>
   rw[ij]at fa;rw[mr c.mks 5 st n f t a Γ iW<|jy<|jy ⟨rfl,rfl⟩,ij];exact G7 (jy<|jy ⟨rfl,rfl,rfl⟩) h.aj ae
  |pr st n x y f t a vx vy hx hy=>
   have gi:nn x<=k/\nn y<=k:=CH;exact aeP (ih x gi.1) (ih y gi.2) h hx hy
  |of st n x y f t a vx vy hx hy=>
   have gi:nn x<=k:=CH;obtain⟨tx,ax,rfl⟩:=hx.iface;obtain⟨ty,ay,rfl⟩:=hy.bQ;exact dj.2.1 λW hb=>acs (ih x gi) (h.up hb) (hx.af hb)<|hy.af hb
  |op st n x y f t a vx vy hs hx hy=>
   have gi:nn x<=k/\nn y<=k:=CH;exact WR (ih x gi.1) (ih y gi.2) h hx hy hs
  |call st n x y f t a vx vy hx hy=>
   have gi:nn x<=k/\nn y<=k:=CH;obtain⟨tx,ax,rfl⟩:=hx.iface;obtain⟨ty,ay,rfl⟩:=hy.iface;exact dj.2.2.1 λW hb=>aeN (ih x gi.1) (ih y gi.2) (h.up hb) (hx.af hb)<|hy.af hb
  |fn st n x f t a y vx hs hy hx=>
   have gi:nn x<=k:=CH;exact ail (ih x gi) h hx
  |lt K st n x z f t a y vx vz hc hs hy hx hz=>
   have gi:nn x<=k/\nn z<=k:=CH;obtain rfl|rfl:=hc
   .exact acu (rc:=false) (ih x gi.1) (ih z gi.2) h hx hz
   .exact acu (rc:=true) (ih x gi.1) (ih z gi.2) h hx hz
  |ite st n x y z f t a vx vy vz hx hy hz=>
   have gi:nn x<=k/\nn y<=k/\nn z<=k:=CH;obtain⟨tx,ax,rfl⟩:=hx.iface;obtain⟨ty,ay,rfl⟩:=hy.iface;obtain⟨tz,az,rfl⟩:=hz.iface;exact dj.2.2.2.1 λW hb=>WQ (ih x gi.1) (ih y gi.2.1) (ih z gi.2.2) (h.up hb) (hx.af hb) (hy.af hb)<|hz.af hb
  |mt st n x A f t a vx rb sc vp ve h0 hg hz hc hx hp he=>
   have gi:nn x<=k/\cD (aP A)<=k:=CH;obtain⟨tx,ax,rfl⟩:=hx.iface
   exact dj.2.2.2.2 λW hb=>aik (ih x gi.1) (λi hi=>ih _ (by have:=sG A i hi;omega)) (h.up hb) hg (Nat.lt_of_lt_of_le hz hb.size) (λi hi=>by
    have mw:∀o,W.cell? ⟨rb,o,none⟩=w.cell? ⟨rb,o,none⟩:=λo=>World.cell?_of_block (a:=⟨rb,o,none⟩)<|hb.block rb hz;simp only[mw]
    exact hc i hi) (hx.af hb) (λi hi=>(hp i hi).af hb) (λi hi=>(he i hi).af hb)
def aeQ nd:jO nd:=WS _ nd<|br _
def afR c nb cnt g(s:jt)(Γ:jx)rc st a y x w(e:Ending)w':=Fr (jG c g nb) w w'/\∃o,jl rc st x (ja c.mks x) Γ s o/\match o with
 |.error z=>∃vl vr,e=.returned (.tuple #[.nilIface,Ca z.f vl vr])/\ru w' (λ_=>True) z vl vr
 |.ok (t,s1)=>(48<size (sub s1.k t)/\e=.returned (.tuple #[.nilIface,Ca ⟨7,a,y⟩ .nilIface .nilIface]))\/
  (size (sub s1.k t)<=48/\∃T ta xa aD g',T=(if ji x then sub s1.k t else jd (sub s1.k t))/\e=.returned (.tuple #[.iface ta xa,.agg My])/\dW w' (λ_=>True) T (.iface ta xa)/\aD<=cnt+1000*(1+nn x)+48/\AJ w' c nb 0 aD g' s1/\ch w' nb (jf Γ st ⟨T,vars [] T⟩) g' s1/\jj s1 (jf Γ st ⟨T,vars [] T⟩))
section
variable {w':World} {cnt:Nat}
def aim{g1}(tp:jj s Γ)(ok:In.Ok s)(hp:jl rc st x (ja c.mks x) Γ s (.ok (T1,s1)))(nm:Cn g1 s1 (jk (l7 rc st Γ) s1.k T1 true) n):Cn g1 s1 ⟨sub s1.k T1,vars []<|sub s1.k T1⟩ n:=by
 have⟨kp,ti⟩:=jm rc st x (jq c.mks x) Γ s _ ok (λ_ q=>q) tp.env T1 s1 hp;have nf:∀v,¬In.vJ (l7 rc st Γ) s1.k v:=λv⟨y,d,q1,q2,q3⟩=>by
  have W_:Γ y=some d:=by
   cases rc with
   |false=>exact q1|true=>
    simp only[l7,if_true,In.lL]at q1;split at q1
    .cases q1
    .exact q1
  have⟨t1,t2⟩:=tp y d W_;have fx:=ju λk hk=>by
   have:=t2 k (by rw[t1];exact In.aC.2 hk);exact kp.fix this.2<|λz=>z this.1
  rw[fx]at q2;exact q3 (by rw[t1];exact In.aC.2 q2)
 refine⟨nm.mem,nm.val,λv=>?_,nm.use,λv q=>In.aC.1 q⟩;rw[<-nm.any v];simp only[jk,if_true,In.yL,List.mem_filter,decide_eq_true_eq];exact⟨λq=>⟨q,nf v⟩,λq=>q.1⟩
def aeR{T}(tp:jj s Γ)(ok:In.Ok s)(hp:jl rc st x (ja c.mks x) Γ s (.ok (T1,s1)))(hT:T=(if ji x then sub s1.k T1 else jd (sub s1.k T1))):jj s1 (jf Γ st ⟨T,vars [] T⟩):=λy d hd=>by
 have⟨kp,ti⟩:=jm rc st x (jq c.mks x) Γ s _ ok (λ_ q=>q) tp.env T1 s1 hp;rw[jf]at hd;split at hd
 .injection hd with hd;subst hd;refine⟨rfl,λv hv=>?_⟩;have hv:=In.aC.1 hv;rw[hT]at hv;split at hv
  .exact kp.ok.og ti.use hv
  .have⟨m,_,o⟩:=(jv _).1 hv;simp[aw,bW]at o
 .have⟨q1,q2⟩:=tp y d hd;exact⟨q1,λv hv=>⟨kp.run.mono v (q2 v hv).1,kp.fix (q2 v hv).2 λz=>z (q2 v hv).1⟩⟩
def dW.whole{P}{t}{v}(h:dW w P t v):Whole t:=by
 induction h with
 |var n=>trivial|aM k L sa sc vs hc aO hr ih=>
  refine⟨λe=>?_,?_⟩
  .obtain q|q|q:=hc
   .exact XI (q▸e)
   .exact XK (q▸e)
   .obtain⟨a,r,h1,h2⟩:=q;rw[e,show sk.toList=[116,111,111,32,108,97,114,103,101]from toList_mk _]at h1;injection h1 with h1 _;subst h1;revert h2;decide
  .have:∀l:List Ty,(∀i(h:i<l.length),Whole l[i])->p9 l:=by
    intro l
    induction l with
    |nil=>exact λ_=>trivial|cons t l ih=>exact λq=>⟨q 0 ag,ih λi hi=>q (i+1) qBl⟩
   exact this L ih
def AJ.off{S}(a:AJ w c nb l cnt g s)(f:Fr S w w')(h:∀b,S b->b≠c.rb/\b≠c.mb/\b≠c.eb/\b≠c.cb/\(∀p,w.cell? ⟨b,0,none⟩≠some (.pointer p))/\∀t y,w.cell? ⟨b,0,none⟩≠some (.iface t y)):AJ w' c nb l cnt g s:=by
 obtain⟨⟨bx,ct,rs,ms,z⟩,js,q1,q2,q3⟩:=a;exact⟨⟨bx.fr f λz=>(h _ z).2.2.1 rfl,ct.fr f λz=>(h _ z).2.2.2.1 rfl,rs.same<|f.block _ rs.lt λz=>(h _ z).1 rfl,(ms.Wl (S:=S) λb q=>(h b q).2.2.2.2.2).move f.size (f.block _ ms.lt λz=>(h _ z).2.1 rfl) (λb p y=>f.block b y p.2)<|λ_ p _=>p.1,⟨z.1,z.2.1,j6 z.2.2 f.size⟩⟩,⟨js.gl.om f.size λb p q=>f.block b (jM q) λz=>(h b z).2.2.2.2.1 p q,js.nF,js.inj,js.can,js.lc,js.val,js.use,js.ok⟩,q1,q2,q3⟩
def AJ.glo(a:AJ w c nb l cnt g s)(q:jS c g b):c.lo<=b:=Nat.le_of_not_lt λp=>a.jlo p q
def Ud{p:Prop}(h:p:=by
 go_wp2_with fail;refine wp_region_noPanic ?_;go_region;all_goals
  refine NoPanic.normal ?_;go_wp2_with fail;refine HTT.mono ?_;rintro e w5⟨tu,xu,rfl,fz5,HPO⟩;have FZ5:=ai fz5;obtain⟨f1,f2,f3⟩:=fz5;go_wp2_with fail;have F8:=FZ5.Qb rfl (Iv 0) (Iv 0) (Iv 0) Zv .nilIface;have G8:=(((((Fr.refl (λi=>i=w.heap.size+1) w5).set (b:=w.heap.size+1) (jz rfl) 0<|Iv 0).set (b:=w.heap.size+1) (jz rfl) 1<|Iv 0).set (b:=w.heap.size+1) (jz rfl) 2<|Iv 0).set (b:=w.heap.size+1) (jz rfl) 3 Zv).set (b:=w.heap.size+1) (jz rfl) 4 .nilIface;refine leaves_cons (f:=280) (args:=#[Pv<|w.heap.size+1]) ag qBb ?_;refine(adY<|w.heap.size+1).mono ?_;rintro e u' w9⟨rfl,rfl,rfl⟩;obtain⟨c9,_,_⟩:=F8;simp[Leaves,settle,results,Tryz.results278,go_sem,c9]
  exact HPO _ G8):p:=h
def ain(h:BdJ rc st x c w nb 0 cnt g s Γ dom v)(fb:1+nn x<=805)(tp:jj s Γ)(uF:nb≠c.rb/\nb≠c.mb/\c.lo<=nb):
 Cq 278 #[nA c.eb,.agg #[.bool rc,Nv a,Nv y,.string st,v]] w (afR c nb cnt g s Γ rc st a y x w):=by
 obtain⟨tx,ax,rfl⟩:=h.pe.iface;have fa:=h.fa;have hl:0<aL:=ZQ;obtain⟨w0,HW⟩:∃w0,w0=(w.alloc<|Cv #[.bool rc,Nv a,Nv y,Sv st,Fv tx<|Av ax] 83).alloc (Cv My 89):=⟨_,rfl⟩;have K0:Bq w w0:=by rw[HW];exact(bw _).alloc ag _
 have HB0:Bx w0 w.heap.size #[.bool rc,Nv a,Nv y,Sv st,Fv tx<|Av ax]:=by rw[HW];exact(Bx.new w #[.bool rc,Nv a,Nv y,Sv st,Fv tx<|Av ax] 83).alloc _
 have HF0:Bx w0 (w.heap.size+1) My:=by
  rw[HW];have:=Bx.new (w.alloc<|Cv #[.bool rc,Nv a,Nv y,Sv st,Fv tx<|Av ax] 83) My 89;simpa using this
 have HA:=h.up K0;have zrm:c.rb<w.heap.size/\c.mb<w.heap.size:=⟨h.aj.je.rs.lt,h.aj.je.ms.lt⟩;have Lf:=h.aj.js.ok;have n1:=h.aj.iU<|br _;have n2:=h.aj.iU<|Nat.le_succ _;have HB:=Mg (a:=a) (y:=y) (aeQ x) HA ae;have N7:∀w',Fr (jS c g) w0 w'->c.lo<=w.heap.size/\Fr (jG c g nb) w w':=λw' f=>⟨by have:=h.aj.je.z;have:=h.aj.je.bx.z;omega,(Fr.of K0).trans<|f.fZ λb q=>jz q⟩
 go_enter_defers Tryz.func278,Tryz.ntmps278
 go_wp2_with fail;rw[<-HW];refine HB.mono ?_;rintro e w1(⟨m1,g1,s1,ah,T1,rfl,P1,A1,Uo,hc1,NM⟩|⟨z,vl,vr,rfl,hp,hF,xZ⟩)
 .have fz1:=HF0.fr Uo.fr n2;have HM:=afQ A1 NM.mem a y;have bb:=HB0.fr Uo.fr n1;obtain⟨b1,b2,b3⟩:=bb;have HV1:g1.V m1=sub s1.k T1:=(by rw[NM.val];exact A1.js.ok.qW T1);go_wp2_with fail;refine HM.mono ?_;rintro e w2⟨⟨q_,a2,t2⟩,⟨hz,rfl⟩|⟨hz,rfl⟩⟩
  .obtain⟨g2,MP⟩:∃g2:f_,g2={g1 with nx:=q_}:=⟨_,rfl⟩;have HV2:g2.V m1=sub s1.k T1:=(by rw[MP];exact HV1);rw[<-MP]at a2 t2;have h:=HA;have NN2:=yJ.next ⟨A1,Uo,_,h.aj⟩ a2 t2;have HI:=pP x _ _ _<|NN2.pe h.pe;have NM2:=NM.eZ hl A1 a2.js t2;have ne0:nb≠w.heap.size+1:=by have⟨L,q,_⟩:=h.en;intro e;have z:=HF0.c 0;rw[<-e,q.bE 0]at z;simp at z
   have zl:=(N7 w2 NN2.t.fr).1;have HK:∀(w3:World)(g3:f_)(rI m3:Nat)(T:Ty),yJ c nb 0 w0 g s w3 g3 s1 rI->Cn g3 s1 ⟨T,vars [] T⟩ m3->g3.V m3=T->T=(if ji x then sub s1.k T1 else jd (sub s1.k T1))->rI<=cnt+1000*(1+nn x)+48->∃o,(Instr.mapUpdate 116 (Mv nb) (Sv st)<|nA m3).run Tryz.prog w3.drew=.ok () (setBlock w3.drew nb o)/\Cq 284 #[nA m3] (setBlock w3.drew nb o) (λe w5=>∃tu xu,e=Rv (Fv tu xu)/\Bx w5 (w.heap.size+1) My/\∀w6,Fr (λb=>b=w.heap.size+1) w5 w6->afR c nb cnt g s Γ rc st a y x w (Rv<|.tuple #[Fv tu xu,Av My]) w6):=λw3 g3 rI m3 T n3 nm3 hV hT hc=>by
    have a3:=n3.a;have⟨L,hM,hq⟩:=h.en.eZ hl h.aj a3.js n3.t;have kd:Bq w3 w3.drew:=(j5 _ _).drew;have⟨o,lR,hM4⟩:=(hM.af kd).put PW cP st<|nA m3;refine⟨o,lR,?_⟩;have o4:=One.set w3.drew nb o;have a4:AJ (setBlock w3.drew nb o) c nb 0 rI g3 s1:=(a3.af kd).om (o4.fr (S:=λb=>b=nb) rfl) λb e=>⟨by rw[e];exact uF.1,by rw[e];exact uF.2.1,λi=>by rw[e];exact(hM.af kd).bE i⟩;have e4:=ch.put hq hM4 nm3;have fz4:=((n3.bx HF0 n2).below kd).one o4<|Ne.symm ne0;refine(yH a4.js nm3.mem).mono ?_;rintro e w5⟨tu,xu,nx5,rfl,ht,E5,js5,F5⟩;have or5:OR 0 (setBlock w3.drew nb o).heap.size g3 s1 rI jh {g3 with nx:=nx5} s1 rI jh:=OR.eqv a4.js E5 js5.gl _;have F5':Fr (jS c g3) (setBlock w3.drew nb o) w5:=F5.fZ λb q=>jy<|jy q;have a5:=or5.aj a4 (br _) (a4.je.fr a4.js F5' (a4.je.bx.fr F5<|a4.je.Bh a4.js)<|a4.je.ct.fr F5<|a4.je.Bi a4.js) js5;have e5:=e4.eZ hl a4 a5.js<|or5.stj a4.js (br _) F5';have fz5:=fz4.fr F5 λq=>by
     have⟨p,hp⟩:=a4.js.gl.rf q;rw[fz4.c 0]at hp;simp at hp
    have zw5:=fz4.z;refine⟨tu,xu,rfl,fz5,λw6 F6=>⟨?_,.ok (T1,s1),P1,jy ⟨by rw[<-HV1];exact hz,T,tu,xu,rI,_,hT,rfl,?_,hc,a5.off F6 ?_,?_,aeR tp Lf P1 hT⟩⟩⟩
    .refine((((N7 w3 n3.t.fr).2.trans<|Fr.of kd).trans<|o4.fr<|jy rfl).g_ F5 λb q=>?_).g_ F6 λb e=>jy ae;exact(n3.t.nw b q).imp (λz=>jz<|jy<|jy z) λz=>j6 K0.size z
    .rw[<-hV];exact ht.move F6.size (λb p z=>F6.block b z λe=>by have:(setBlock w3.drew nb o).heap.size<=b:=p;omega)<|λ_ _ _=>trivial
    .rintro b rfl;have q:=fz5.c 0;exact⟨ae,ae,λe=>n2<|jy<|jz e,λe=>n2<|jz e,λp e=>by rw[q]at e;simp at e,λp y e=>by rw[q]at e;simp at e⟩
    .obtain⟨L5,hM5,hq5⟩:=e5;exact⟨L5,hM5.fr F6 ne0,hq5⟩
   have⟨b1',b2',b3'⟩:=NN2.bx HB0 n1;go_wp2_with fail;refine HI.mono ?_;rintro e w3⟨rfl,k3⟩;have n3:=NN2.af k3;have nm3:=NM2;have⟨y1,y2,y3⟩:=n3.bx HB0 n1
   cases hv:ji x with
   |true=>
    have⟨o,lR,HTT⟩:=HK w3 g2 ah m1 (sub s1.k T1) n3 (aim tp Lf P1 (by rw[hv]at nm3;exact nm3)) HV2 (by rw[hv];rfl) ae;have⟨z1,z2,z3⟩:=n3.a.je.bx;exact Ud
   |false=>
    obtain⟨T,HTE⟩:∃T,T=jd (sub s1.k T1):=⟨_,rfl⟩;have HVT:T=if ji x=true then sub s1.k T1 else jd (sub s1.k T1):=(by rw[hv,HTE];rfl);have HY:=yH n3.a.js nm3.mem;have hz':size T<=48:=by rw[HTE,lp,<-HV1];exact hz
    have hnT:∀n,¬aw n T:=λn o=>by
     rw[HTE]at o;have⟨m,_,o⟩:=(jv _).1 o;simp[aw,bW]at o
    have N3:=ai n3;go_wp2_with fail;refine HY.mono ?_;rintro e w4⟨tu,xu,BI,rfl,ht,E4,js4,F4⟩;have n3:=uh N3;have a3:=n3.a;have or4:OR 0 w3.heap.size g2 s1 ah jh {g2 with nx:=BI} s1 ah jh:=OR.eqv a3.js E4 js4.gl _;have F4':=F4.fZ λb q=>(jy (jy q):jS c g2 b);have N4:=n3.next (or4.aj a3 (br _) (a3.je.fr a3.js F4' (a3.je.bx.fr F4<|a3.je.Bh a3.js)<|a3.je.ct.fr F4<|a3.je.Bi a3.js) js4)<|or4.stj a3.js (br _) F4';have HCL:=CJ ht.w (by rw[HV2,<-HV1];exact j6 hz aB);have whT:Whole T:=by rw[HTE,<-HV2];exact ck _ ht.whole λn _=>yZ
    rw[show jd (g2.V m1)=T by rw[HTE,HV2]]at HCL;go_wp2_with fail;refine HCL.mono ?_;rintro e w5⟨u5,rfl,hu5,k5⟩;obtain⟨t5,x5,rfl⟩:=hu5.iface;have N5:=N4.af k5;have zc4:=N4.a.je.ct.z;have HN:=aci N5.a (hu5.v whT) (λb p=>by have:w4.heap.size<=b:=p;omega) ae hnT ae;go_wp2_with fail;refine HN.mono ?_;rintro e w6⟨m6,g6,Iy,rfl,a6,t6,hc6,r6⟩;have n6:=N5.next a6 t6;have nm6:Cn g6 s1 ⟨T,vars [] T⟩ m6:=by
     have e0:=List.eq_nil_iff_forall_not_mem.2 λn q=>hnT n<|In.aC.1 q;rw[e0];exact r6.nm a6.js hl λn o=>absurd o<|hnT n
    have⟨o,lR,HTT⟩:=HK w6 g6 Iy m6 T n6 nm6 (by rw[r6.val];exact ju λn o=>absurd o<|hnT n) HVT ae;have⟨y1,y2,y3⟩:=n6.bx HB0 n1;have⟨z1,z2,z3⟩:=a6.je.bx;exact Ud
  .have f2:=Uo.fr.trans' t2.fr λb q=>by
    obtain q|q|q:=q
    .exact jz (jz q)
    .exact jz (jy<|jz q)
    .exact(Uo.nw b q).imp (λz=>jy<|jy z) id
   have F2:=HF0.fr f2 n2;have⟨zl,FL⟩:=N7 w2 f2;go_wp2_with fail;refine leaves_cons (f:=280) (args:=#[Pv<|w.heap.size+1]) ag qBb ?_;refine(DO (w.heap.size+1) F2 ⟨7,a,y⟩ Zv Zv<|jz ⟨rfl,rfl⟩).mono ?_;rintro e u' w9⟨rfl,rfl,hB,hF⟩;obtain⟨c9,_,_⟩:=hB;simp[Leaves,settle,results,Tryz.results278,go_sem,c9];exact⟨FL.g_ hF<|λi r=>jy ae,.ok (T1,s1),P1,jz ⟨by rw[<-HV1];exact hz,rfl⟩⟩
 .have F1:=HF0.fr xZ n2;have⟨zl,FL⟩:=N7 w1 xZ;have HFT:=ai hF;have HP:=ai hp;go_wp2_with fail;refine leaves_cons (f:=280) (args:=#[Pv<|w.heap.size+1]) ag qBb ?_;refine(DO (w.heap.size+1) F1 z.f vl vr HFT.hv).mono ?_;rintro e u' w9⟨rfl,rfl,hB,hF⟩;obtain⟨c9,_,_⟩:=hB;simp[Leaves,settle,results,Tryz.results278,go_sem,c9];exact⟨FL.g_ hF<|λi r=>jy ae,.error z,HP,vl,vr,rfl,HFT.one (F1.c 0) ag hF⟩
end
def akM eb lo base nl w cnt mks(s:jt)(Γ:jx):=∃(c:JC)(nb:Nat)(g:f_),c.eb=eb/\(c.lo=lo/\lo<=c.mb)/\(c.cb<base/\c.eb<base)/\c.mks=mks/\c.nl=nl/\c.rb≠c.mb/\(nb≠c.rb/\nb≠c.mb/\c.lo<=nb)/\jj s Γ/\AJ w c nb 0 cnt g s/\ch w nb Γ g s
def aio{cnt}{x}(a:AJ w c nb l cnt g s)(hx:w.cell? ⟨b,0,none⟩=some x)(ho:∀q,x≠.pointer q):¬b∈g.ds:=λq=>by
 have⟨p,hp⟩:=a.js.gl.rf q;rw[hx]at hp;injection hp with hp;exact ho p hp
def aip{eb lo base}(hl:nl.length<=1000000):Za 67 eb lo base false nl (akM eb lo base nl):=by
 refine⟨?_,?_,⟨_,λw=>metJ_Makers _ w,λ_ _=>qkr,?_⟩,⟨_,λw=>metJ_Let _ w,λ_ _=>qkr,?_⟩⟩
 .rintro w w' cnt mks s Γ⟨c,nb,g,h1,h2,h3,h4,h5,h6,h7,h8,ha,he⟩hb;exact⟨c,nb,g,h1,h2,h3,h4,h5,h6,h7,h8,ha.af hb,he.af hb⟩
 .rintro w w' cnt mks s Γ b x⟨c,nb,g,h1,h2,h3,h4,h5,h6,h7,h8,ha,he⟩hb hx ho f;have⟨Lr,hr,_⟩:=id ha.je.rs;have⟨Lm,hm,_⟩:=id ha.je.ms;have⟨Ln,hn,hq⟩:=id he;have nr:=ie hr hx;have nm:=ie hm hx;have nn:=ie hn hx;refine⟨c,nb,g,h1,h2,h3,h4,h5,h6,h7,h8,ha.off f ?_,Ln,hn.fr f nn,hq⟩;rintro d rfl;exact⟨Ne.symm nr,Ne.symm nm,ae,ae,λp e=>by rw[hx]at e;injection e with e;exact ho.p p e,λt y e=>by rw[hx]at e;injection e with e;exact ho.i t y e⟩
 .rintro w cnt mks s Γ t vs ms f x vv vm⟨c,nb,g,rfl,⟨rfl,h2⟩,h3,rfl,rfl,h6,h7,h8,ha,he⟩hv hm hd;have⟨Lm,hMG,_⟩:=id ha.je.ms;have⟨Ln,hn,hq⟩:=id he;refine(WU ha h6 hv hm hd).mono ?_;rintro e w'⟨rfl,hf,hw⟩;refine⟨rfl,.of hf (λb q=>by subst q;exact h2) (λb y q _ e _=>by subst q;rw[hMG.bE 0]at e;cases e),?_⟩;exact⟨G9 c t vs ms w'.heap.size,nb,g,rfl,⟨rfl,h2⟩,h3,rfl,rfl,h6,h7,h8,hw,Ln,hn.fr hf h7.2.1,hq⟩
 .rintro w cnt mks s Γ rc st x v a y dom⟨c,nb,g,rfl,⟨rfl,h2⟩,h3,rfl,rfl,h6,h7,h8,ha,he⟩hp hs hd jQ hA hB hm;refine(ain (a:=a) (y:=y) (dom:=dom) ⟨ha,he,hp,hs,hd,hA,ae,hm⟩ hB h8 h7).mono ?_;rintro e w'⟨hf,o,ho,hq⟩;refine⟨.of hf (λb q=>?_)<|λb z q hz hx ho=>?_,o,ho,?_⟩
  .obtain q|q:=q
   .exact ha.glo q
   .subst q;exact h7.2.2
  .obtain  (q|q|q)|q:=q
   .omega
   .omega
   .exact aio ha hx ho q
   .subst q;have⟨Ln,hn,_⟩:=id he;exact ie hn hx rfl
  .cases o with
   |error z=>exact hq|ok p=>
    obtain⟨t,s1⟩:=p;obtain⟨z,e1⟩|⟨z,T,ta,xa,aD,g',e1,e2,e3,e5,e6,e7,e8⟩:=hq
    .grind
    .exact jy ⟨z,T,ta,xa,aD,e1,e2,e3,e5,c,nb,g',rfl,⟨rfl,h2⟩,h3,rfl,rfl,h6,h7,e8,e6,e7⟩
def aiq nl:Cq 23 #[] w λe w'=>∃eb,e=.returned (Pv eb)/\Bq w w'/\StW eb w.heap.size w'.heap.size nl w' 0 (λ_=>none) ⟨Ty.var,λ_=>False⟩ (λ_=>none):=by
 refine(agf nl).mono ?_;rintro e w'⟨c,rfl,k,h,h1,h2,h3,h4,h5,h6⟩;have⟨l1,l2,l3,l4,l5⟩:=h.we.l;exact⟨c.eb,rfl,k,c,_,rfl,⟨h4,h5,h6⟩,⟨ae,ae⟩,h2,h3,rfl,h1,h⟩
def air nl:Cq 25 #[] w λe w'=>∃eb,e=.returned (Pv eb)/\Bq w w'/\akM eb w.heap.size w'.heap.size nl w' 0 (λ_=>none) ⟨Ty.var,λ_=>False⟩ (λ_=>none):=by
 refine(ais nl).mono ?_;rintro e w'⟨c,nb,g,rfl,k,a,en,h1,h2,h3,h4,h5,h6,h7,h8⟩;exact⟨c.eb,rfl,k,c,nb,g,rfl,⟨h3,ae⟩,⟨a.je.ct.z,a.je.bx.z⟩,h1,h2,h4,⟨h5,h6,h7⟩,λy c q=> lq,a,en⟩
end Go.Proofs.YtnldmeakhapdhaaGreatDoor
