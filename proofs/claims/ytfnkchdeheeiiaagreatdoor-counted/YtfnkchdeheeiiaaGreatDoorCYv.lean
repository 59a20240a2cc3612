import Derived.Test.YtfnkchdeheeiiaaGreatDoorCCu6
import Derived.Test.YtfnkchdeheeiiaaGreatDoorCYt
set_option linter.all false
set_option maxRecDepth 100000
set_option maxHeartbeats 4000000
namespace Go.Proofs.YtfnkchdeheeiiaaGreatDoor
open In renaming inf->ja,andM->jc,lZ->jd,gR->jf,Me->jh,Jw->ji,Top->jj,jV->jk,cH->jl,gX->jm,arr->jo,dN->jp,kV->jq,St->jt,oN->ju,bZ->jv,Env->jx
open Or renaming inr->jy,inl->jz
open Go.RowKit.Below renaming refl->j3
open _root_.Nat renaming le_trans->j5
open Go Go.RowKit Go.ChangeMaps Go.MapKept Un Proofs.Tryz
variable {st:BA} {dom:BA->Prop} {rc:Bool} {g:fB} {Γ:jx} {s s1:jt} {c:JC} {nl:List BA} {a b f l n nb t y:Nat} {x z:Nd} {T1:Un.Ty} {v vx vy:Value} {w:World}
def Ja{α β γ:Type}{m}{k:α->In.MM β}{h:β->In.MM γ}{o:Except In.Ft (γ×jt)}:jc (jc m k) h s o↔jc m (λa=>jc (k a) h) s o:=by
 refine⟨?_,dS⟩;rintro(⟨x,⟨y,q,e⟩|⟨a,s',q,r⟩,rfl⟩|⟨b,s',⟨y,q,e⟩|⟨a,s1,q,r⟩,z⟩)
 .injection e with e;subst e;exact jz ⟨x,q,rfl⟩
 .exact jy ⟨a,s',q,jz ⟨x,r,rfl⟩⟩
 .cases e
 .exact jy ⟨a,s1,q,jy ⟨b,s',r,z⟩⟩
def Qm{p:Prop}(h:p:=by
 cases h with
 |lt _ _ _ _ _ _ _ _ _ hs hc hx hz=>grind|two _ _ _ _ _ _ _ _ _ hk=>simp at hk):p:=h
def ahY{mk}(h:ScE mk nl dom (.mk (if rc then 11 else 10) st n [x,z] f t a)):ScE mk nl (λv=>dom v\/(rc=true/\v=st)) x/\ScE mk nl (λv=>dom v\/v=st) z:=by
 cases rc with
 |false=>
  exact Qm
 |true=>
  exact Qm
section
variable {cnt:Nat}
def v8{p:Prop}(h:p:=by
 obtain⟨z,vl,vr,rfl,-⟩:=hb
 go_wp2
 exact⟨rfl,cL.up (jy HX) K0⟩):p:=h
def Qn{p:Prop}(h:p:=by
 cases h.sc with
 |two _ _ _ _ _ _ _ _ _ _ hx hy=>exact⟨hx,hy⟩|lt _ _ _ _ _ _ _ _ _ _ hc=>omega):p:=h
def abX{y:Nd}(Hx:iG x)(Hy:iG y)(h:mB (.mk 6 st n [x,y] f t a) c w nb l cnt g s Γ dom v)(hx:PE w (λb=>b<c.lo) x vx)(hy:PE w (λb=>b<c.lo) y vy):
 Cq 381 #[nA c.eb,.iface 309<|.agg #[Nv f,Nv t,vx,vy]] w (cL c nb l (1000*nn (.mk 6 st n [x,y] f t a)) (ja c.mks (.mk 6 st n [x,y] f t a) Γ) g s cnt w):=by
 have en:nn (.mk 6 st n [x,y] f t a)=1+nn x+nn y:=Jg;obtain⟨sx,sy⟩:ScE c.mks c.nl dom x/\ScE c.mks c.nl dom y:=by
  exact Qn
 have fa:=h.fa;have fb:=h.fb;rw[en]at fa fb;have hl:l<aL:=Up;have⟨k0,B0⟩:=mM w #[Nv f,Nv t,vx,vy] 309;have HA:=h.up k0;have Bw:=h.aj.il<|br _;have N0:=lO.start HA.aj<|In.inf c.mks (.mk 6 st n [x,y] f t a) Γ;rw[JN]at N0;have H1:=Hx c _ nb l cnt g s Γ dom vx<|HA.part N0.n (hx.af k0) sx BU BU;rw[en,JN];have HY:=hy.af k0;obtain⟨tx,ax,rfl⟩:=hx.iface;obtain⟨ty,ay,rfl⟩:=hy.iface;have K0:=ai k0;go_enter func381,ntmps381;go_wp2_with fail;refine H1.mono ?_;rintro e w1(⟨n1,g1,s1,ak,T1,rfl,p1,a1,t1,c1,R1⟩|hb)
 .have N1:=N0.and p1 a1 t1;have H2:=Hy c w1 nb l ak g1 s1 Γ dom _<|HA.part N1.n HY sy BU BU;have⟨b1,b2,b3⟩:=N1.n.bx B0 Bw;go_wp2_with fail;refine H2.mono ?_;rintro e w2(⟨n2,g2,s2,cA,T2,rfl,p2,a2,t2,c2,r2⟩|hb)
  .have N2:=N1.and p2 a2 t2;have H3:=ac2 a2 (R1.kB N1.n.a.js t2) r2;go_wp2_with fail;refine H3.mono ?_;rintro e w3⟨n3,g3,rfl,a3,t3,r3⟩;have HX:=((N2.step a3 t3).ret (D:=1000*(1+nn x+nn y)) (cnt0:=cnt) r3 ae).up K0
   go_wp2
   go_ret;exact HX
  .have HX:=N1.bad hb;exact v8
 .have HX:=N0.bad hb;exact v8
def afO(Hx:iG x)(h:mB (.mk 9 st n [x] f t a) c w nb l cnt g s Γ dom v)(hx:PE w (λb=>b<c.lo) x vx):
 Cq 381 #[nA c.eb,.iface 313<|.agg #[Nv f,Nv t,Nv a,Nv y,.string st,vx]] w (cL c nb l (1000*nn (.mk 9 st n [x] f t a)) (ja c.mks (.mk 9 st n [x] f t a) Γ) g s cnt w):=by
 have en:nn (.mk 9 st n [x] f t a)=1+nn x:=Za;have sx:ScE c.mks c.nl (λv=>dom v\/v=st) x:=by
  cases h.sc with
  |fn _ _ _ _ _ _ _ hs hx=>exact hx
 have iE:= @run_makeMap Tryz.prog;have fa:=h.fa;have fb:=h.fb;rw[en]at fa fb;have hl:l<aL:=Up;have⟨k0,B0⟩:=mM w #[Nv f,Nv t,Nv a,Nv y,Sv st,vx] 313;have HA:=h.up k0;have Bw:=h.aj.il<|br _;have N0:=lO.start HA.aj<|In.inf c.mks (.mk 9 st n [x] f t a) Γ;rw[JF]at N0;have H1:=tK HA.aj ae;rw[en,JF];have HXE:=hx.af k0;obtain⟨tx,ax,rfl⟩:=hx.iface;have K0:=ai k0;go_enter func381,ntmps381;go_wp2_with fail;refine H1.mono ?_;rintro e w1⟨n1,g1,rfl,p1,a1,t1,R1,-⟩;have N1:=N0.and p1 a1 t1;have nm:=R1.nm a1.js hl (λk o=>by simp only[aD]at o;exact Or.inr o.symm);have HW:∀(w2:World)(mb:Nat),Bq w1 w2->MG Sv w2 mb (bD st (nA n1) [])->Cq 383 #[nA c.eb,Mv mb,Fv tx<|Av ax] w2 (cL c nb l (1000*nn x) (In.inf c.mks x<|In.gR Γ st<|In.mono<|.var<|cnt+1) g1 ⟨s.k,λm=>s.u m\/m=cnt+1⟩ (cnt+1) w2):=λw2 mb k hM=>by
  have h:=HA;have:=oR Hx (a1.af k) ((h.en.kB hl h.aj a1.js t1).af k) (bV.lit hM nm) ((N1.n.pe HXE).af k) sx (by rw[iX];exact BQ h.hd) ae ae h.mf;rw[iX]at this;exact this
 have⟨b1,b2,b3⟩:=N1.n.bx B0 Bw;go_wp2_with(refine b8 Mf cG rfl _ _ _ (jz rfl) rfl (MG.new _ _) st (nA n1) rfl rfl ?_;intro w2 hM o;have k2:=o.af ((j3 _ w1).alloc (br _)<|.map #[] 0)<|br _;have⟨d1,d2,d3⟩:=N1.af k2|>.n.bx B0 Bw;have HM:=ai hM;have K2:=ai k2;clear hM o k2);refine(HW _ _ K2 HM).mono ?_;rintro e w3(⟨n3,g3,s3,pG,T3,rfl,p3,a3,t3,c3,r3⟩|hb)
 .have N3:=(N1.af K2).and p3 a3 t3;have H4:=ac1 a3 (R1.kB N1.n.a.js t3) r3;go_wp2_with fail;refine H4.mono ?_;rintro e w4⟨n4,g4,rfl,a4,t4,r4⟩;have HX:=((N3.step a4 t4).ret (D:=1000*(1+nn x)) (cnt0:=cnt) r4 ae).up K0
  go_wp2
  go_ret;exact HX
 .have HX:=(N1.af K2).bad hb;exact v8
def Y5{vz}(Hx:iG x)(Hz:iG z)(h:mB (.mk (if rc then 11 else 10) st n [x,z] f t a) c w nb l cnt g s Γ dom v)(hx:PE w (λb=>b<c.lo) x vx)(hz:PE w (λb=>b<c.lo) z vz):
 Cq 381 #[nA c.eb,.iface 315<|.agg #[Nv f,Nv t,.bool rc,Nv a,Nv y,.string st,vx,vz]] w (cL c nb l (1000*nn (.mk (if rc then 11 else 10) st n [x,z] f t a)) (ja c.mks (.mk (if rc then 11 else 10) st n [x,z] f t a) Γ) g s cnt w):=by
 have en:nn (.mk (if rc then 11 else 10) st n [x,z] f t a)=1+nn x+nn z:=Jg;obtain⟨sx,sz⟩:ScE c.mks c.nl (λv=>dom v\/(rc=true/\v=st)) x/\ScE c.mks c.nl (λv=>dom v\/v=st) z:=ahY h.sc;have iE:= @run_makeMap Tryz.prog;have fa:=h.fa;have fb:=h.fb;rw[en]at fa fb;have hl:l<aL:=Up;have⟨k0,B0⟩:=mM w #[Nv f,Nv t,.bool rc,Nv a,Nv y,Sv st,vx,vz] 315;have HA:=h.up k0;have Bw:=h.aj.il<|br _;have N0:=lO.start HA.aj<|In.inf c.mks (.mk (if rc then 11 else 10) st n [x,z] f t a) Γ;rw[JH]at N0;have H1:=Ep (a:=a) (y:=y) Hx ⟨HA.aj,HA.en,hx.af k0,sx,h.hd,ae,ae,h.mf⟩ ae;rw[en,JH];have HZ:=hz.af k0;obtain⟨tx,ax,rfl⟩:=hx.iface;obtain⟨tz,az,rfl⟩:=hz.iface;have K0:=ai k0;go_enter func381,ntmps381;go_wp2_with fail;refine H1.mono ?_;rintro e w1(⟨n1,g1,s1,ak,T1,rfl,p1,a1,t1,hc1,nm⟩|hb)
 .have N1:=N0.and p1 a1 t1;have HW:∀(w2:World)(mb:Nat),Bq w1 w2->MG Sv w2 mb (bD st (nA n1) [])->Cq 383 #[nA c.eb,Mv mb,Fv tz<|Av az] w2 (cL c nb l (1000*nn z) (ja c.mks z<|jf Γ st<|jk (kN rc st Γ) s1.k T1<|ji x) g1 s1 ak w2):=λw2 mb k hM=>by
   have h:=HA;have:=oR Hz (a1.af k) ((h.en.kB hl h.aj a1.js t1).af k) (bV.lit hM nm) ((N1.n.pe HZ).af k) sz (by rw[iX];exact BQ h.hd) ae ae h.mf;rw[iX]at this;exact this
  have⟨b1,b2,b3⟩:=N1.n.bx B0 Bw;go_wp2_with(refine b8 Mf cG rfl _ _ _ (jz rfl) rfl (MG.new _ _) st (nA n1) rfl rfl ?_;intro w2 hM o;have k2:=o.af ((j3 _ w1).alloc (br _)<|.map #[] 0)<|br _;have⟨d1,d2,d3⟩:=N1.af k2|>.n.bx B0 Bw;have HM:=ai hM;have K2:=ai k2;clear hM o k2);refine(HW _ _ K2 HM).mono ?_;intro e w3 hq;have HX:=(((N1.af K2).imp (r:=ja c.mks z<|jf Γ st<|jk (kN rc st Γ) s1.k T1<|ji x) λo ho=>ho).last (cnt0:=cnt) (D:=1000*(1+nn x+nn z)) hq ae).up K0;obtain⟨n3,-,-,-,-,rfl,-⟩|⟨z,vl,vr,rfl,-⟩:=hq
  .clear HW HM
   go_wp2
   go_ret;exact HX
  .clear HW HM
   go_wp2
   exact⟨rfl,HX⟩
 .have HX:=N0.bad hb;exact v8
def SY{y:Nd}(Hx:iG x)(Hy:iG y)(h:mB (.mk 7 st n [x,y] f t a) c w nb l cnt g s Γ dom v)(hx:PE w (λb=>b<c.lo) x vx)(hy:PE w (λb=>b<c.lo) y vy)(hs:st=gU\/st=dP\/st=fG\/st=du):
 Cq 381 #[nA c.eb,.iface 297<|.agg #[Nv f,Nv t,.string st,vx,vy]] w (cL c nb l (1000*nn (.mk 7 st n [x,y] f t a)) (ja c.mks (.mk 7 st n [x,y] f t a) Γ) g s cnt w):=by
 have en:nn (.mk 7 st n [x,y] f t a)=1+nn x+nn y:=Jg;obtain⟨sx,sy⟩:ScE c.mks c.nl dom x/\ScE c.mks c.nl dom y:=by
  exact Qn
 have fa:=h.fa;have fb:=h.fb;rw[en]at fa fb;have hl:l<aL:=Up;have⟨k0,B0⟩:=mM w #[Nv f,Nv t,Sv st,vx,vy] 297;have HA:=h.up k0;have Bw:=h.aj.il<|br _;have n0:=lO.start HA.aj<|ja c.mks (.mk 7 st n [x,y] f t a) Γ;rw[JO]at n0;rw[en,JO];have HY:=hy.af k0;obtain⟨tx,ax,rfl⟩:=hx.iface;obtain⟨ty,ay,rfl⟩:=hy.iface;have H1:=YT Hx<|HA.part n0.n (hx.af k0) sx BU BU
 have N0:=ai (n0.imp (r:=jc (jc (ja c.mks x Γ) λa=>In.p_ a jp (In.ij x)<|In.uQ x) λ_=>jc (jc (ja c.mks y Γ) λb=>In.p_ b jp (In.ij y)<|In.uQ y) λ_=>In.cS<|opT st) λo q=>by
  refine Ja.1 ?_;obtain q|⟨a,s',q1,q2⟩:=q
  .exact jz q
  .exact jy ⟨a,s',q1,Ja.1 q2⟩)
 have K0:=ai k0;clear h n0 k0 hx hy;have q1:=Ve;have q2:=sK;go_enter func381,ntmps381;go_wp2_with fail;refine H1.mono ?_;rintro e w1(⟨rfl,g1,s1,ak,p1,a1,t1,c1⟩|hb)
 .have N1:=N0.and p1 a1 t1;have H2:=YT Hy<|HA.part N1.n HY sy BU BU;have⟨b1,b2,b3⟩:=N1.n.bx B0 Bw;clear H1 p1 a1 t1 HY HA Hx Hy;go_wp2_with fail;refine H2.mono ?_;rintro e w2(⟨rfl,g2,s2,cA,p2,a2,t2,c2⟩|hb)
  .have N2:=(N1.and p2 a2 t2).af (j3 _ _).drew;have⟨d1,d2,d3⟩:=(N1.and p2 a2 t2).n.bx B0 Bw;have⟨e1,e2,e3⟩:=a2.je.bx;obtain⟨hk,sg⟩|⟨hk,sg⟩:=a2.je.rs.drew.look hs
   .have eo:opT st=In.iZ:=if_pos hk;have EO:=ai eo;clear H2 p2 a2 t2 b1 b2 b3 hk eo
    go_wp2
    go_region_with(first
     |(go_at_call 125;refine(mZ).mono ?_;rintro e w4⟨rfl,rfl⟩)
     |(go_at_call 379;go_loud(refine(SS N2.n.a jY ae).mono ?_);rintro e w5⟨n5,g5,ajr,rfl,a5,t5,c5,r5⟩;have HX:=ai (((N2.step a5 t5).ret (D:=1000*(1+nn x+nn y)) (cnt0:=cnt) (by rw[uh EO];exact r5) ae).up K0);clear a5 t5 r5))
    all_goals
     go_wp2
     go_ret;exact HX
   .have eo:opT st=jp:=if_neg hk;have EO:=ai eo;clear H2 p2 a2 t2 b1 b2 b3 hk eo
    go_wp2
    go_region_with(first
     |(go_at_call 124;refine(qL).mono ?_;rintro e w4⟨rfl,rfl⟩)
     |(go_at_call 379;go_loud(refine(SS N2.n.a lV ae).mono ?_);rintro e w5⟨n5,g5,ajr,rfl,a5,t5,c5,r5⟩;have HX:=ai (((N2.step a5 t5).ret (D:=1000*(1+nn x+nn y)) (cnt0:=cnt) (by rw[uh EO];exact r5) ae).up K0);clear a5 t5 r5))
    all_goals
     go_wp2
     go_ret;exact HX
  .have HX:=N1.bad hb;obtain⟨z,vl,vr,rfl,-⟩:=hb;clear H2
   go_wp2
   exact⟨rfl,cL.up (jy HX) K0⟩
 .have HX:=N0.bad hb;obtain⟨z,vl,vr,rfl,-⟩:=hb;clear H1
  go_wp2
  exact⟨rfl,cL.up (jy HX) K0⟩
end
section
variable {cnt:Nat}
def ahZ{x}(h:mB (.mk 2 x n [] f t a) c w nb l cnt g s Γ dom v):Cq 381 #[nA c.eb,.iface 390<|.agg #[Nv f,Nv t,.string x]] w (cL c nb l (1000*nn (.mk 2 x n [] f t a)) (ja c.mks (.mk 2 x n [] f t a) Γ) g s cnt w):=by
 have en:nn (.mk 2 x n [] f t a)=1:=Za;obtain⟨tk,m,hx⟩:∃tk m,c.mks x=some (tk,m):=by
  cases h.sc with
  |up _ _ _ _ _ _ tk m hx=>exact⟨tk,m,hx⟩|leaf _ _ _ _ _ _ _ hk=>omega
 have fa:=h.fa;rw[en]at fa;rw[en,Ud c.mks x n f t a Γ hx];have eG:=h.mf.sz x tk m hx;have DL:=h.mf.wh x tk m hx;have has:=qN tk m;have⟨k0,B0⟩:=mM w #[Nv f,Nv t,Sv x] 390;obtain⟨w0,uS⟩:∃w0,w0=w.alloc (Cv #[Nv f,Nv t,Sv x] 390):=⟨_,rfl⟩;have a0:=h.aj.af k0;rw[<-uS]at k0 B0 a0;have⟨v,hv,sg⟩:=a0.je.ms.look hx;have sg:=sg w0.drew rfl;have zcb:=a0.je.ct.z;have zlm:=a0.je.z.2.2;obtain⟨sa,sc,ta,xa,rfl,-⟩:=id hv;have HTY:∀W:World,Bq w0 W->Cq 335 #[Av #[Lv sa tk.length sc,Fv ta xa]] W (λe w'=>∃tu xu,e=Rv (Fv tu xu)/\dE w' (λi=>i≠c.cb/\i<w'.heap.size) (jo tk m) (Fv tu xu)/\Bq W w'):=λW k=>by
  refine(tQ (hv.move (Q:=λi=>i≠c.cb) k.size (λb _ z=>k.block b z)<|λb p _=>p.1) ae).mono ?_;rintro e w'⟨u,rfl,hu,hk⟩;obtain⟨tu,xu,rfl⟩:=hu.iface;exact⟨tu,xu,rfl,(hu.v DL).move (br _) (λ_ _ _=>rfl)<|λb p z=>⟨p.elim id λp=>by have:=k.size;omega,z⟩,hk⟩
 have yE:∀(W w3:World)(kb jb mb:Nat)(tu:TypeId)(xu:Value),Bq w0 W->dE w3 (λi=>i≠c.cb/\i<w3.heap.size) (jo tk m) (Fv tu xu)->Bq w3 W->qG c l kb jb mb W g s cnt jh->w3.heap.size<=mb->w0.heap.size<=mb->Cq 55 #[Fv tu xu,Nv l,anV kb jb] W (λe w'=>∃n,e=Rv (nA n)/\cL c nb l 1000 (jc (In.qI (jo tk m) jh) λq=>In.cS q.1) g s cnt w (Rv<|nA n) w'):=λW w3 kb jb mb tu xu k ht k3 an hm hm0=>by
  have zk:kb<W.heap.size/\jb<W.heap.size/\mb<W.heap.size:=⟨an.bk.z,an.bj.z,by have⟨L',Yi,_⟩:=an.mp;exact Yi.lt⟩;refine(P7 zk.1 zk.2.1 zk.2.2 (jo tk m) W g s cnt jh _ _ (a0.af k).je (a0.af k).js a0.us an (br _) (ht.move k3.size (λb _ z=>k3.block b z)<|λ_ p _=>p) (λb p=>⟨p.1,by have:=p.2;omega⟩) eG (λ_ _=>trivial) ae).mono ?_;rintro e w'⟨n4,g4,s4,c4,YY,rfl,je,js,-,o,hn,hV,wj,hT,o8,F⟩;have o':=o.Ss k.size;have F':Fr (jS c g) w0 w':=(Fr.of k).gH F λb q=>q.imp (λq=>jz q) λq=>ae;have a4:=o'.aj a0 (br _) je js;exact⟨n4,rfl,(((lO.start a0 _).and (o'.drawn hT) a4<|o'.stj a0.js (br _) F').ret ⟨hn,by rw[hV,o.kk],wj⟩ ae).up k0⟩
 have HAN:Hid (∀W:World,Bq w0 W->Cq 386 #[nA c.eb] W λe w'=>∃kb jb mb,e=Rv (anV kb jb)/\qG c l kb jb mb w' g s cnt In.Me/\Bq W w'/\(kb<w'.heap.size/\jb<w'.heap.size/\mb<w'.heap.size)/\W.heap.size<=mb/\W.heap.size<=jb/\W.heap.size<=kb):=ai λW k=>P8 (a0.af k).je g s;have HL:Hid (∀W:World,Bq w0 W->W.cell? ⟨c.eb,4,none⟩=some (Nv l)):=ai λW k=>(a0.af k).je.bx.c 4;obtain⟨b1,b2,b3⟩:=B0;have⟨e1,e2,e3⟩:=a0.je.bx;have HW:=ai uS;clear h k0 a0 hv uS;go_enter func381,ntmps381;go_wp2_with fail;rw[<-uh HW]
 go_region_with(first
  |(go_at_call 335;go_loud(refine(HTY _ (j3 _ _).drew).mono ?_);rintro e w3⟨tu,xu,rfl,hu,k3⟩;have Y6:Bq w0 w3:=(j3 _ _).drew.trans k3;have f3:=uh HL _ Y6;have U3:=ai hu;have K3:=ai Y6;clear hu k3 Y6)
  |(go_at_call 386;go_loud(refine(HAN _ K3).mono ?_);rintro e w4⟨kb,jb,mb,rfl,an,k4,-,hm,-,-⟩;have k4':Bq w0 w4:=K3.trans<|k4.mono K3.size;have f4:=uh HL _ k4';have HO:=ai<|yE w4 w3 kb jb mb tu xu k4' U3 k4 an hm<|j5 K3.size hm;clear k4 an hm k4')
  |(go_at_call 55;go_loud(refine HO.mono ?_);rintro e w5⟨n5,rfl,hp⟩;have HP:=ai hp;clear hp))
 all_goals
  go_wp2
  go_ret;exact HP
end
def S7:∀(k:Nat)(nd:Nd),nn nd<=k->iG nd:=by
 intro k
 induction k with
 |zero=>intro nd h;cases nd;simp only[nn]at h;omega|succ k ih=>
  intro nd hk c w nb l cnt g s Γ dom v h;have hp:=h.pe;have fa:=h.fa;have fb:=h.fb;have hl:l<aL:=Up
  cases hp with
  |low st n f t a hs=>
   rw[gN]at fa⊢;have hd:Γ st≠none:=by
    cases h.sc with
    |low _ _ _ _ _ _ hx=>exact h.hd _ hx|leaf _ _ _ _ _ _ _ hk=>omega
   rw[show ja c.mks (.mk 1 st n [] f t a) Γ=In.BW Γ st f t by simp[ja,In.mI]];exact dj.1 λW hb=>(afK (h.aj.af hb) hl (h.en.af hb) hd f t ae).mono λe w' q=>lO.last (lO.start (h.aj.af hb) _) q ae
  |up st n f t a hs=>exact ahZ h|num st n f t a=>
   rw[gN]at fa;rw[kY c.mks 3 st n f t a Γ mO<|jz ⟨rfl,rfl⟩,gN];exact DJ (jz ⟨rfl,rfl,_,rfl⟩) h.aj ae
  |word st n f t a hs=>
   rw[gN]at fa;rw[kY c.mks 4 st n f t a Γ iA<|jy<|jz ⟨rfl,rfl⟩,gN];exact DJ (jy<|jz ⟨rfl,rfl,_,rfl⟩) h.aj ae
  |unit st n f t a=>
   rw[gN]at fa;rw[kY c.mks 5 st n f t a Γ iB<|jy<|jy ⟨rfl,rfl⟩,gN];exact DJ (jy<|jy ⟨rfl,rfl,rfl⟩) h.aj ae
  |pr st n x y f t a vx vy hx hy=>
   have gG:nn x<=k/\nn y<=k:=Al;exact abX (ih x gG.1) (ih y gG.2) h hx hy
  |of st n x y f t a vx vy hx hy=>
   have gG:nn x<=k:=Al;obtain⟨tx,ax,rfl⟩:=hx.iface;obtain⟨ty,ay,rfl⟩:=hy.bJ;exact dj.2.1 λW hb=>Y4 (ih x gG) (h.up hb) (hx.af hb)<|hy.af hb
  |op st n x y f t a vx vy hs hx hy=>
   have gG:nn x<=k/\nn y<=k:=Al;exact SY (ih x gG.1) (ih y gG.2) h hx hy hs
  |call st n x y f t a vx vy hx hy=>
   have gG:nn x<=k/\nn y<=k:=Al;obtain⟨tx,ax,rfl⟩:=hx.iface;obtain⟨ty,ay,rfl⟩:=hy.iface;exact dj.2.2.1 λW hb=>abV (ih x gG.1) (ih y gG.2) (h.up hb) (hx.af hb)<|hy.af hb
  |fn st n x f t a y vx hs hy hx=>
   have gG:nn x<=k:=Al;exact afO (ih x gG) h hx
  |lt K st n x z f t a y vx vz hc hs hy hx hz=>
   have gG:nn x<=k/\nn z<=k:=Al;obtain rfl|rfl:=hc
   .exact Y5 (rc:=false) (ih x gG.1) (ih z gG.2) h hx hz
   .exact Y5 (rc:=true) (ih x gG.1) (ih z gG.2) h hx hz
  |ite st n x y z f t a vx vy vz hx hy hz=>
   have gG:nn x<=k/\nn y<=k/\nn z<=k:=Al;obtain⟨tx,ax,rfl⟩:=hx.iface;obtain⟨ty,ay,rfl⟩:=hy.iface;obtain⟨tz,az,rfl⟩:=hz.iface;exact dj.2.2.2.1 λW hb=>SV (ih x gG.1) (ih y gG.2.1) (ih z gG.2.2) (h.up hb) (hx.af hb) (hy.af hb)<|hz.af hb
  |mt st n x A f t a vx rb sc vp ve h0 hg hz hc hx hp he=>
   have gG:nn x<=k/\bY (aT A)<=k:=Al;obtain⟨tx,ax,rfl⟩:=hx.iface
   exact dj.2.2.2.2 λW hb=>afM (ih x gG.1) (λi hi=>ih _ (by have:=qS A i hi;omega)) (h.up hb) hg (Nat.lt_of_lt_of_le hz hb.size) (λi hi=>by
    have kZ:∀o,W.cell? ⟨rb,o,none⟩=w.cell? ⟨rb,o,none⟩:=λo=>World.cell?_of_block (a:=⟨rb,o,none⟩)<|hb.block rb hz;simp only[kZ]
    exact hc i hi) (hx.af hb) (λi hi=>(hp i hi).af hb) (λi hi=>(he i hi).af hb)
def abY nd:iG nd:=S7 _ nd<|br _
def ac5 c nb cnt g(s:jt)(Γ:jx)rc st a y x w(e:Ending)w':=Fr (jG c g nb) w w'/\∃o,jl rc st x (ja c.mks x) Γ s o/\match o with
 |.error z=>∃vl vr,e=.returned (.tuple #[.nilIface,zJ z.f vl vr])/\pD w' (λ_=>True) z vl vr
 |.ok (t,s1)=>(48<size (sub s1.k t)/\e=.returned (.tuple #[.nilIface,zJ ⟨7,a,y⟩ .nilIface .nilIface]))\/
  (size (sub s1.k t)<=48/\∃T ta xa aB g',T=(if ji x then sub s1.k t else jd (sub s1.k t))/\e=.returned (.tuple #[.iface ta xa,.agg Jj])/\dE w' (λ_=>True) T (.iface ta xa)/\aB<=cnt+1000*(1+nn x)+48/\AJ w' c nb 0 aB g' s1/\bV w' nb (jf Γ st ⟨T,vars [] T⟩) g' s1/\jj s1 (jf Γ st ⟨T,vars [] T⟩))
section
variable {w':World} {cnt:Nat}
def afP{g1}(tp:jj s Γ)(ok:In.Ok s)(hp:jl rc st x (ja c.mks x) Γ s (.ok (T1,s1)))(nm:yZ g1 s1 (jk (kN rc st Γ) s1.k T1 true) n):yZ g1 s1 ⟨sub s1.k T1,vars []<|sub s1.k T1⟩ n:=by
 have⟨kp,ti⟩:=jm rc st x (jq c.mks x) Γ s _ ok (λ_ q=>q) tp.env T1 s1 hp;have nf:∀v,¬In.z_ (kN rc st Γ) s1.k v:=λv⟨y,d,q1,q2,q3⟩=>by
  have q1':Γ y=some d:=by
   cases rc with
   |false=>exact q1|true=>
    simp only[kN,if_true,In.qH]at q1;split at q1
    .cases q1
    .exact q1
  have⟨t1,t2⟩:=tp y d q1';have fx:=ju λk hk=>by
   have:=t2 k (by rw[t1];exact In.bu.2 hk);exact kp.fix this.2<|λz=>z this.1
  rw[fx]at q2;exact q3 (by rw[t1];exact In.bu.2 q2)
 refine⟨nm.mem,nm.val,λv=>?_,nm.use,λv q=>In.bu.1 q⟩;rw[<-nm.any v];simp only[jk,if_true,In.zZ,List.mem_filter,decide_eq_true_eq];exact⟨λq=>⟨q,nf v⟩,λq=>q.1⟩
def abZ{T}(tp:jj s Γ)(ok:In.Ok s)(hp:jl rc st x (ja c.mks x) Γ s (.ok (T1,s1)))(hT:T=(if ji x then sub s1.k T1 else jd (sub s1.k T1))):jj s1 (jf Γ st ⟨T,vars [] T⟩):=λy d hd=>by
 have⟨kp,ti⟩:=jm rc st x (jq c.mks x) Γ s _ ok (λ_ q=>q) tp.env T1 s1 hp;rw[jf]at hd;split at hd
 .injection hd with hd;subst hd;refine⟨rfl,λv hv=>?_⟩;have hv:=In.bu.1 hv;rw[hT]at hv;split at hv
  .exact kp.ok.An ti.use hv
  .have⟨m,_,o⟩:=(jv _).1 hv;simp[aD,bK]at o
 .have⟨q1,q2⟩:=tp y d hd;exact⟨q1,λv hv=>⟨kp.run.mono v (q2 v hv).1,kp.fix (q2 v hv).2 λz=>z (q2 v hv).1⟩⟩
def dE.whole{P}{t}{v}(h:dE w P t v):Whole t:=by
 induction h with
 |var n=>trivial|aH k L sa sc vs hc aN hr ih=>
  refine⟨λe=>?_,?_⟩
  .obtain q|q|q:=hc
   .exact TR (q▸e)
   .exact TS (q▸e)
   .obtain⟨a,r,h1,h2⟩:=q;rw[e,show qD.toList=[116,111,111,32,108,97,114,103,101]from toList_mk _]at h1;injection h1 with h1 _;subst h1;revert h2;decide
  .have:∀l:List Ty,(∀i(h:i<l.length),Whole l[i])->jD l:=by
    intro l
    induction l with
    |nil=>exact λ_=>trivial|cons t l ih=>exact λq=>⟨q 0 ag,ih λi hi=>q (i+1) qBl⟩
   exact this L ih
def AJ.off{S}(a:AJ w c nb l cnt g s)(f:Fr S w w')(h:∀b,S b->b≠c.rb/\b≠c.mb/\b≠c.eb/\b≠c.cb/\(∀p,w.cell? ⟨b,0,none⟩≠some (.pointer p))/\∀t y,w.cell? ⟨b,0,none⟩≠some (.iface t y)):AJ w' c nb l cnt g s:=by
 obtain⟨⟨bx,ct,rs,ms,z⟩,js,q1,q2,q3⟩:=a;exact⟨⟨bx.fr f λz=>(h _ z).2.2.1 rfl,ct.fr f λz=>(h _ z).2.2.2.1 rfl,rs.same<|f.block _ rs.lt λz=>(h _ z).1 rfl,(ms.Sq (S:=S) λb q=>(h b q).2.2.2.2.2).move f.size (f.block _ ms.lt λz=>(h _ z).2.1 rfl) (λb p y=>f.block b y p.2)<|λ_ p _=>p.1,⟨z.1,z.2.1,j5 z.2.2 f.size⟩⟩,⟨js.gl.mR f.size λb p q=>f.block b (iQ q) λz=>(h b z).2.2.2.2.1 p q,js.mh,js.inj,js.can,js.lc,js.val,js.use,js.ok⟩,q1,q2,q3⟩
def AJ.glo(a:AJ w c nb l cnt g s)(q:jS c g b):c.lo<=b:=Nat.le_of_not_lt λp=>a.Uq p q
def Qo{p:Prop}(h:p:=by
 go_wp2_with fail;refine wp_region_noPanic ?_;go_region;all_goals
  refine NoPanic.normal ?_;go_wp2_with fail;refine HTT.mono ?_;rintro e w5⟨tu,xu,rfl,fz5,HPO⟩;have FZ5:=ai fz5;obtain⟨f1,f2,f3⟩:=fz5;go_wp2_with fail;have F8:=FZ5.Mu rfl (Iv 0) (Iv 0) (Iv 0) Zv .nilIface;have G8:=(((((Fr.refl (λi=>i=w.heap.size+1) w5).set (b:=w.heap.size+1) (jz rfl) 0<|Iv 0).set (b:=w.heap.size+1) (jz rfl) 1<|Iv 0).set (b:=w.heap.size+1) (jz rfl) 2<|Iv 0).set (b:=w.heap.size+1) (jz rfl) 3 Zv).set (b:=w.heap.size+1) (jz rfl) 4 .nilIface;refine leaves_cons (f:=376) (args:=#[Pv<|w.heap.size+1]) ag Mw ?_;refine(abb<|w.heap.size+1).mono ?_;rintro e u' w9⟨rfl,rfl,rfl⟩;obtain⟨c9,_,_⟩:=F8;simp[Leaves,settle,results,Tryz.results374,go_sem,c9]
  exact HPO _ G8):p:=h
def afQ(h:BdJ rc st x c w nb 0 cnt g s Γ dom v)(fb:1+nn x<=805)(tp:jj s Γ)(yz:nb≠c.rb/\nb≠c.mb/\c.lo<=nb):
 Cq 374 #[nA c.eb,.agg #[.bool rc,Nv a,Nv y,.string st,v]] w (ac5 c nb cnt g s Γ rc st a y x w):=by
 obtain⟨tx,ax,rfl⟩:=h.pe.iface;have fa:=h.fa;have hl:0<aL:=Up;obtain⟨w0,HW⟩:∃w0,w0=(w.alloc<|Cv #[.bool rc,Nv a,Nv y,Sv st,Fv tx<|Av ax] 142).alloc (Cv Jj 146):=⟨_,rfl⟩;have K0:Bq w w0:=by rw[HW];exact(bw _).alloc ag _
 have HB0:Bx w0 w.heap.size #[.bool rc,Nv a,Nv y,Sv st,Fv tx<|Av ax]:=by rw[HW];exact(Bx.new w #[.bool rc,Nv a,Nv y,Sv st,Fv tx<|Av ax] 142).alloc _
 have HF0:Bx w0 (w.heap.size+1) Jj:=by
  rw[HW];have:=Bx.new (w.alloc<|Cv #[.bool rc,Nv a,Nv y,Sv st,Fv tx<|Av ax] 142) Jj 146;simpa using this
 have HA:=h.up K0;have zrm:c.rb<w.heap.size/\c.mb<w.heap.size:=⟨h.aj.je.rs.lt,h.aj.je.ms.lt⟩;have Ih:=h.aj.js.ok;have n1:=h.aj.il<|br _;have n2:=h.aj.il<|Nat.le_succ _;have HB:=Ep (a:=a) (y:=y) (abY x) HA ae;have Kh:∀w',Fr (jS c g) w0 w'->c.lo<=w.heap.size/\Fr (jG c g nb) w w':=λw' f=>⟨by have:=h.aj.je.z;have:=h.aj.je.bx.z;omega,(Fr.of K0).trans<|f.fD λb q=>jz q⟩
 go_enter_defers Tryz.func374,Tryz.ntmps374
 go_wp2_with fail;rw[<-HW];refine HB.mono ?_;rintro e w1(⟨m1,g1,s1,ak,T1,rfl,P1,A1,Qx,hc1,NM⟩|⟨z,vl,vr,rfl,hp,hF,u_⟩)
 .have fz1:=HF0.fr Qx.fr n2;have HM:=ac4 A1 NM.mem a y;have bb:=HB0.fr Qx.fr n1;obtain⟨b1,b2,b3⟩:=bb;have HV1:g1.V m1=sub s1.k T1:=(by rw[NM.val];exact A1.js.ok.uB T1);go_wp2_with fail;refine HM.mono ?_;rintro e w2⟨⟨pw,a2,t2⟩,⟨hz,rfl⟩|⟨hz,rfl⟩⟩
  .obtain⟨g2,Rw⟩:∃g2:fB,g2={g1 with nx:=pw}:=⟨_,rfl⟩;have HV2:g2.V m1=sub s1.k T1:=(by rw[Rw];exact HV1);rw[<-Rw]at a2 t2;have h:=HA;have NN2:=v7.next ⟨A1,Qx,_,h.aj⟩ a2 t2;have HI:=oB x _ _ _<|NN2.pe h.pe;have NM2:=NM.kB hl A1 a2.js t2;have ne0:nb≠w.heap.size+1:=by have⟨L,q,_⟩:=h.en;intro e;have z:=HF0.c 0;rw[<-e,q.bB 0]at z;simp at z
   have zl:=(Kh w2 NN2.t.fr).1;have HK:∀(w3:World)(g3:fB)(pG m3:Nat)(T:Ty),v7 c nb 0 w0 g s w3 g3 s1 pG->yZ g3 s1 ⟨T,vars [] T⟩ m3->g3.V m3=T->T=(if ji x then sub s1.k T1 else jd (sub s1.k T1))->pG<=cnt+1000*(1+nn x)+48->∃o,(Instr.mapUpdate 220 (Mv nb) (Sv st)<|nA m3).run Tryz.prog w3.drew=.ok () (setBlock w3.drew nb o)/\Cq 58 #[nA m3] (setBlock w3.drew nb o) (λe w5=>∃tu xu,e=Rv (Fv tu xu)/\Bx w5 (w.heap.size+1) Jj/\∀w6,Fr (λb=>b=w.heap.size+1) w5 w6->ac5 c nb cnt g s Γ rc st a y x w (Rv<|.tuple #[Fv tu xu,Av Jj]) w6):=λw3 g3 pG m3 T n3 nm3 hV hT hc=>by
    have a3:=n3.a;have⟨L,hM,hq⟩:=h.en.kB hl h.aj a3.js n3.t;have kd:Bq w3 w3.drew:=(j3 _ _).drew;have⟨o,kJ,hM4⟩:=(hM.af kd).put Mf cG st<|nA m3;refine⟨o,kJ,?_⟩;have o4:=One.set w3.drew nb o;have a4:AJ (setBlock w3.drew nb o) c nb 0 pG g3 s1:=(a3.af kd).mR (o4.fr (S:=λb=>b=nb) rfl) λb e=>⟨by rw[e];exact yz.1,by rw[e];exact yz.2.1,λi=>by rw[e];exact(hM.af kd).bB i⟩;have e4:=bV.put hq hM4 nm3;have fz4:=((n3.bx HF0 n2).below kd).one o4<|Ne.symm ne0;refine(vZ a4.js nm3.mem).mono ?_;rintro e w5⟨tu,xu,Ur,rfl,ht,E5,js5,F5⟩;have or5:OR 0 (setBlock w3.drew nb o).heap.size g3 s1 pG jh {g3 with nx:=Ur} s1 pG jh:=OR.eqv a4.js E5 js5.gl _;have F5':Fr (jS c g3) (setBlock w3.drew nb o) w5:=F5.fD λb q=>jy<|jy q;have a5:=or5.aj a4 (br _) (a4.je.fr a4.js F5' (a4.je.bx.fr F5<|a4.je.wL a4.js)<|a4.je.ct.fr F5<|a4.je.wM a4.js) js5;have e5:=e4.kB hl a4 a5.js<|or5.stj a4.js (br _) F5';have fz5:=fz4.fr F5 λq=>by
     have⟨p,hp⟩:=a4.js.gl.py q;rw[fz4.c 0]at hp;simp at hp
    have zw5:=fz4.z;refine⟨tu,xu,rfl,fz5,λw6 F6=>⟨?_,.ok (T1,s1),P1,jy ⟨by rw[<-HV1];exact hz,T,tu,xu,pG,_,hT,rfl,?_,hc,a5.off F6 ?_,?_,abZ tp Ih P1 hT⟩⟩⟩
    .refine((((Kh w3 n3.t.fr).2.trans<|Fr.of kd).trans<|o4.fr<|jy rfl).gH F5 λb q=>?_).gH F6 λb e=>jy ae;exact(n3.t.nw b q).imp (λz=>jz<|jy<|jy z) λz=>j5 K0.size z
    .rw[<-hV];exact ht.move F6.size (λb p z=>F6.block b z λe=>by have:(setBlock w3.drew nb o).heap.size<=b:=p;omega)<|λ_ _ _=>trivial
    .rintro b rfl;have q:=fz5.c 0;exact⟨ae,ae,λe=>n2<|jy<|jz e,λe=>n2<|jz e,λp e=>by rw[q]at e;simp at e,λp y e=>by rw[q]at e;simp at e⟩
    .obtain⟨L5,hM5,hq5⟩:=e5;exact⟨L5,hM5.fr F6 ne0,hq5⟩
   have⟨b1',b2',b3'⟩:=NN2.bx HB0 n1;go_wp2_with fail;refine HI.mono ?_;rintro e w3⟨rfl,k3⟩;have n3:=NN2.af k3;have nm3:=NM2;have⟨y1,y2,y3⟩:=n3.bx HB0 n1
   cases hv:ji x with
   |true=>
    have⟨o,kJ,HTT⟩:=HK w3 g2 ak m1 (sub s1.k T1) n3 (afP tp Ih P1 (by rw[hv]at nm3;exact nm3)) HV2 (by rw[hv];rfl) ae;have⟨z1,z2,z3⟩:=n3.a.je.bx;exact Qo
   |false=>
    obtain⟨T,HTE⟩:∃T,T=jd (sub s1.k T1):=⟨_,rfl⟩;have HVT:T=if ji x=true then sub s1.k T1 else jd (sub s1.k T1):=(by rw[hv,HTE];rfl);have HY:=vZ n3.a.js nm3.mem;have Zk:size T<=48:=by rw[HTE,ng,<-HV1];exact hz
    have hnT:∀n,¬aD n T:=λn o=>by
     rw[HTE]at o;have⟨m,_,o⟩:=(jv _).1 o;simp[aD,bK]at o
    have N3:=ai n3;go_wp2_with fail;refine HY.mono ?_;rintro e w4⟨tu,xu,yU,rfl,ht,E4,js4,F4⟩;have n3:=uh N3;have a3:=n3.a;have or4:OR 0 w3.heap.size g2 s1 ak jh {g2 with nx:=yU} s1 ak jh:=OR.eqv a3.js E4 js4.gl _;have F4':=F4.fD λb q=>(jy (jy q):jS c g2 b);have N4:=n3.next (or4.aj a3 (br _) (a3.je.fr a3.js F4' (a3.je.bx.fr F4<|a3.je.wL a3.js)<|a3.je.ct.fr F4<|a3.je.wM a3.js) js4)<|or4.stj a3.js (br _) F4';have HCL:=Ao ht.w (by rw[HV2,<-HV1];exact j5 hz aK);have whT:Whole T:=by rw[HTE,<-HV2];exact bX _ ht.whole λn _=>wP
    rw[show jd (g2.V m1)=T by rw[HTE,HV2]]at HCL;go_wp2_with fail;refine HCL.mono ?_;rintro e w5⟨u5,rfl,hu5,k5⟩;obtain⟨t5,x5,rfl⟩:=hu5.iface;have N5:=N4.af k5;have zc4:=N4.a.je.ct.z;have HN:=YS N5.a (hu5.v whT) (λb p=>by have:w4.heap.size<=b:=p;omega) ae hnT ae;go_wp2_with fail;refine HN.mono ?_;rintro e w6⟨m6,g6,En,rfl,a6,t6,hc6,r6⟩;have n6:=N5.next a6 t6;have nm6:yZ g6 s1 ⟨T,vars [] T⟩ m6:=by
     have e0:=List.eq_nil_iff_forall_not_mem.2 λn q=>hnT n<|In.bu.1 q;rw[e0];exact r6.nm a6.js hl λn o=>absurd o<|hnT n
    have⟨o,kJ,HTT⟩:=HK w6 g6 En m6 T n6 nm6 (by rw[r6.val];exact ju λn o=>absurd o<|hnT n) HVT ae;have⟨y1,y2,y3⟩:=n6.bx HB0 n1;have⟨z1,z2,z3⟩:=a6.je.bx;exact Qo
  .have f2:=Qx.fr.trans' t2.fr λb q=>by
    obtain q|q|q:=q
    .exact jz (jz q)
    .exact jz (jy<|jz q)
    .exact(Qx.nw b q).imp (λz=>jy<|jy z) id
   have F2:=HF0.fr f2 n2;have⟨zl,FL⟩:=Kh w2 f2;go_wp2_with fail;refine leaves_cons (f:=376) (args:=#[Pv<|w.heap.size+1]) ag Mw ?_;refine(Bg (w.heap.size+1) F2 ⟨7,a,y⟩ Zv Zv<|jz ⟨rfl,rfl⟩).mono ?_;rintro e u' w9⟨rfl,rfl,hB,hF⟩;obtain⟨c9,_,_⟩:=hB;simp[Leaves,settle,results,Tryz.results374,go_sem,c9];exact⟨FL.gH hF<|λi r=>jy ae,.ok (T1,s1),P1,jz ⟨by rw[<-HV1];exact hz,rfl⟩⟩
 .have F1:=HF0.fr u_ n2;have⟨zl,FL⟩:=Kh w1 u_;have HFT:=ai hF;have HP:=ai hp;go_wp2_with fail;refine leaves_cons (f:=376) (args:=#[Pv<|w.heap.size+1]) ag Mw ?_;refine(Bg (w.heap.size+1) F1 z.f vl vr HFT.hv).mono ?_;rintro e u' w9⟨rfl,rfl,hB,hF⟩;obtain⟨c9,_,_⟩:=hB;simp[Leaves,settle,results,Tryz.results374,go_sem,c9];exact⟨FL.gH hF<|λi r=>jy ae,.error z,HP,vl,vr,rfl,HFT.one (F1.c 0) ag hF⟩
end
def ah0 eb lo base nl w cnt mks(s:jt)(Γ:jx):=∃(c:JC)(nb:Nat)(g:fB),c.eb=eb/\(c.lo=lo/\lo<=c.mb)/\(c.cb<base/\c.eb<base)/\c.mks=mks/\c.nl=nl/\c.rb≠c.mb/\(nb≠c.rb/\nb≠c.mb/\c.lo<=nb)/\jj s Γ/\AJ w c nb 0 cnt g s/\bV w nb Γ g s
def afR{cnt}{x}(a:AJ w c nb l cnt g s)(hx:w.cell? ⟨b,0,none⟩=some x)(ho:∀q,x≠.pointer q):¬b∈g.ds:=λq=>by
 have⟨p,hp⟩:=a.js.gl.py q;rw[hx]at hp;injection hp with hp;exact ho p hp
def afS{eb lo base}(hl:nl.length<=1000000):Uk 126 eb lo base false nl (ah0 eb lo base nl):=by
 refine⟨?_,?_,⟨_,λw=>metJ_Makers _ w,λ_ _=>qkr,?_⟩,⟨_,λw=>metJ_Let _ w,λ_ _=>qkr,?_⟩⟩
 .rintro w w' cnt mks s Γ⟨c,nb,g,h1,h2,h3,h4,h5,h6,h7,h8,ha,he⟩hb;exact⟨c,nb,g,h1,h2,h3,h4,h5,h6,h7,h8,ha.af hb,he.af hb⟩
 .rintro w w' cnt mks s Γ b x⟨c,nb,g,h1,h2,h3,h4,h5,h6,h7,h8,ha,he⟩hb hx ho f;have⟨Lr,hr,_⟩:=id ha.je.rs;have⟨Lm,hm,_⟩:=id ha.je.ms;have⟨Ln,hn,hq⟩:=id he;have nr:=gM hr hx;have nm:=gM hm hx;have nn:=gM hn hx;refine⟨c,nb,g,h1,h2,h3,h4,h5,h6,h7,h8,ha.off f ?_,Ln,hn.fr f nn,hq⟩;rintro d rfl;exact⟨Ne.symm nr,Ne.symm nm,ae,ae,λp e=>by rw[hx]at e;injection e with e;exact ho.p p e,λt y e=>by rw[hx]at e;injection e with e;exact ho.i t y e⟩
 .rintro w cnt mks s Γ t vs ms f x vv vm⟨c,nb,g,rfl,⟨rfl,h2⟩,h3,rfl,rfl,h6,h7,h8,ha,he⟩hv hm hd;have⟨Lm,Zc,_⟩:=id ha.je.ms;have⟨Ln,hn,hq⟩:=id he;refine(SW ha h6 hv hm hd).mono ?_;rintro e w'⟨rfl,hf,hw⟩;refine⟨rfl,.of hf (λb q=>by subst q;exact h2) (λb y q _ e _=>by subst q;rw[Zc.bB 0]at e;cases e),?_⟩;exact⟨DK c t vs ms w'.heap.size,nb,g,rfl,⟨rfl,h2⟩,h3,rfl,rfl,h6,h7,h8,hw,Ln,hn.fr hf h7.2.1,hq⟩
 .rintro w cnt mks s Γ rc st x v a y dom⟨c,nb,g,rfl,⟨rfl,h2⟩,h3,rfl,rfl,h6,h7,h8,ha,he⟩hp hs hd iC hA hB hm;refine(afQ (a:=a) (y:=y) (dom:=dom) ⟨ha,he,hp,hs,hd,hA,ae,hm⟩ hB h8 h7).mono ?_;rintro e w'⟨hf,o,ho,hq⟩;refine⟨.of hf (λb q=>?_)<|λb z q hz hx ho=>?_,o,ho,?_⟩
  .obtain q|q:=q
   .exact ha.glo q
   .subst q;exact h7.2.2
  .obtain  (q|q|q)|q:=q
   .omega
   .omega
   .exact afR ha hx ho q
   .subst q;have⟨Ln,hn,_⟩:=id he;exact gM hn hx rfl
  .cases o with
   |error z=>exact hq|ok p=>
    obtain⟨t,s1⟩:=p;obtain⟨z,e1⟩|⟨z,T,ta,xa,aB,g',e1,e2,e3,e5,e6,e7,e8⟩:=hq
    .grind
    .exact jy ⟨z,T,ta,xa,aB,e1,e2,e3,e5,c,nb,g',rfl,⟨rfl,h2⟩,h3,rfl,rfl,h6,h7,e8,e6,e7⟩
def afT nl:Cq 62 #[] w λe w'=>∃eb,e=.returned (Pv eb)/\Bq w w'/\StW eb w.heap.size w'.heap.size nl w' 0 (λ_=>none) ⟨Ty.var,λ_=>False⟩ (λ_=>none):=by
 refine(ad2 nl).mono ?_;rintro e w'⟨c,rfl,k,h,h1,h2,h3,h4,h5,h6⟩;have⟨l1,l2,l3,l4,l5⟩:=h.we.l;exact⟨c.eb,rfl,k,c,_,rfl,⟨h4,h5,h6⟩,⟨ae,ae⟩,h2,h3,rfl,h1,h⟩
def afU nl:Cq 64 #[] w λe w'=>∃eb,e=.returned (Pv eb)/\Bq w w'/\ah0 eb w.heap.size w'.heap.size nl w' 0 (λ_=>none) ⟨Ty.var,λ_=>False⟩ (λ_=>none):=by
 refine(afN nl).mono ?_;rintro e w'⟨c,nb,g,rfl,k,a,en,h1,h2,h3,h4,h5,h6,h7,h8⟩;exact⟨c.eb,rfl,k,c,nb,g,rfl,⟨h3,ae⟩,⟨a.je.ct.z,a.je.bx.z⟩,h1,h2,h4,⟨h5,h6,h7⟩,λy c q=> mD,a,en⟩
end Go.Proofs.YtfnkchdeheeiiaaGreatDoor
