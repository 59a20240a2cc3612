import Derived.Test.YtonaidfgokhmoaaGreatDoorYFd
set_option linter.all false
set_option maxRecDepth 100000
set_option maxHeartbeats 4000000
namespace Go.Proofs.YtonaidfgokhmoaaGreatDoor
open Go renaming Calls->aa,World->ca
open In renaming inf->ja,andM->jc,fW->jd,cV->jf,Bt->jh,xD->ji,VE->jj,iq->jk,cG->jl,kP->jm,arr->jo,iT->jp,oj->jq,St->jt,gZ->ju,bS->jv,Env->jx
open Or renaming inr->jy,inl->jz
open Go.Proofs.Tryz renaming prog->j3
open Go.RowKit.Below renaming refl->j5
open _root_.Nat renaming le_trans->j6
open Go Go.RowKit Go.ChangeMaps Go.MapKept Un Proofs.Tryz
variable {st:BA} {dom:BA->Prop} {rc:Bool} {g:gD} {Γ:jx} {s s1:jt} {c:JC} {nl:List BA} {a b f l n nb t y:Nat} {x z:Nd} {T1:Un.Ty} {v vx vy:Value} {w:ca}
def Lk{α β γ:Type}{m}{k:α->In.MM β}{h:β->In.MM γ}{o:Except In.Ft (γ×jt)}:jc (jc m k) h s o↔jc m (λa=>jc (k a) h) s o:=by
 refine⟨?_,fG⟩;rintro(⟨x,⟨y,q,e⟩|⟨a,d,q,r⟩,rfl⟩|⟨b,d,⟨y,q,e⟩|⟨a,s1,q,r⟩,z⟩)
 .injection e with e;subst e;exact jz ⟨x,q,rfl⟩
 .exact jy ⟨a,d,q,jz ⟨x,r,rfl⟩⟩
 .cases e
 .exact jy ⟨a,s1,q,jy ⟨b,d,r,z⟩⟩
def Si{p:Prop}(h:p:=by
 cases h with
 |lt _ _ _ _ _ _ _ _ _ hs hc hx hz=>grind|two _ _ _ _ _ _ _ _ _ hk=>simp at hk):p:=h
def ahX{mk}(h:ScE mk nl dom (.mk (if rc then 11 else 10) st n [x,z] f t a)):ScE mk nl (λv=>dom v\/(rc=true/\v=st)) x/\ScE mk nl (λv=>dom v\/v=st) z:=by
 cases rc with
 |false=>
  exact Si
 |true=>
  exact Si
section
variable {cnt:Nat}
def yk{p:Prop}(h:p:=by
 obtain⟨z,vl,vr,rfl,-⟩:=hb
 go_wp2
 exact⟨rfl,di.up (jy HX) K0⟩):p:=h
def Sj{p:Prop}(h:p:=by
 cases h.sc with
 |two _ _ _ _ _ _ _ _ _ _ hx hy=>exact⟨hx,hy⟩|lt _ _ _ _ _ _ _ _ _ _ hc=>omega):p:=h
def acT{y:Nd}(W:iW x)(X:iW y)(h:mP (.mk 6 st n [x,y] f t a) c w nb l cnt g s Γ dom v)(hx:PE w (λb=>b<c.lo) x vx)(hy:PE w (λb=>b<c.lo) y vy):
 aa j3 298 #[nA c.eb,.iface 256<|.agg #[Nv f,Nv t,vx,vy]] w (di c nb l (1000*nn (.mk 6 st n [x,y] f t a)) (ja c.mks (.mk 6 st n [x,y] f t a) Γ) g s cnt w):=by
 have en:nn (.mk 6 st n [x,y] f t a)=1+nn x+nn y:=Lq;obtain⟨r,u⟩:ScE c.mks c.nl dom x/\ScE c.mks c.nl dom y:=by
  exact Sj
 have A:=h.fa;have B:=h.fb;rw[en]at A B;have hl:l<aL:=Wi;have⟨j,C⟩:=rF w #[Nv f,Nv t,vx,vy] 256;have k:=h.up j;have m:=h.aj.iM<|br _;have N0:=mE.start k.aj<|In.inf c.mks (.mk 6 st n [x,y] f t a) Γ;rw[LL]at N0;have E:=W c _ nb l cnt g s Γ dom vx<|k.part N0.n (hx.af j) r DH DH;rw[en,LL];have F:=hy.af j;obtain⟨tx,ax,rfl⟩:=hx.iface;obtain⟨ty,ay,rfl⟩:=hy.iface;have K0:=ai j;go_in;go_wp;refine E.mono ?_;rintro e G(⟨n1,I,s1,d,T1,rfl,J,K,L,c1,N⟩|hb)
 .have i:=N0.and J K L;have O:=X c G nb l d I s1 Γ dom _<|k.part i.n F u DH DH;have⟨b1,b2,b3⟩:=i.n.bx C m;go_wp2_with fail;refine O.mono ?_;rintro e w2(⟨n2,g2,s2,dH,T2,rfl,P,o,p,c2,Q⟩|hb)
  .have R:=i.and P o p;have S:=ada o (N.e8 i.n.a.js p) Q;go_wp2_with fail;refine S.mono ?_;rintro e w3⟨n3,g3,rfl,T,U,V⟩;have HX:=((R.step T U).ret (D:=1000*(1+nn x+nn y)) (cnt0:=cnt) V ae).up K0
   go_wp2
   go_ret;exact HX
  .have HX:=i.bad hb;exact yk
 .have HX:=N0.bad hb;exact yk
def af4(Hx:iW x)(h:mP (.mk 9 st n [x] f t a) c w nb l cnt g s Γ dom v)(r:PE w (λb=>b<c.lo) x vx):
 aa j3 298 #[nA c.eb,.iface 239<|.agg #[Nv f,Nv t,Nv a,Nv y,.string st,vx]] w (di c nb l (1000*nn (.mk 9 st n [x] f t a)) (ja c.mks (.mk 9 st n [x] f t a) Γ) g s cnt w):=by
 have en:nn (.mk 9 st n [x] f t a)=1+nn x:=qBi;have R:ScE c.mks c.nl (λv=>dom v\/v=st) x:=by
  cases h.sc with
  |fn _ _ _ _ _ _ _ hs r=>exact r
 have S:=h.fa;have T:=h.fb;rw[en]at S T;have I:l<aL:=Wi;have⟨A,J⟩:=rF w #[Nv f,Nv t,Nv a,Nv y,Sv st,vx] 239;have B:=h.up A;have j:=h.aj.iM<|br _;have N0:=mE.start B.aj<|In.inf c.mks (.mk 9 st n [x] f t a) Γ;rw[LN]at N0;have U:=ua B.aj ae;rw[en,LN];have C:=r.af A;obtain⟨V,W,rfl⟩:=r.iface;have K0:=ai A;go_in;go_wp;refine U.mono ?_;rintro e K⟨L,X,rfl,Y,p,N,O,-⟩;have d:=N0.and Y p N;have nm:=O.nm p.js I (λk o=>by simp only[aA]at o;exact Or.inr o.symm);have Z:∀(i:ca)(G:Nat),Bq K i->MG Sv i G (bF st (nA L) [])->aa Tryz.prog 300 #[nA c.eb,Mv G,Fv V<|Av W] i (di c nb l (1000*nn x) (In.inf c.mks x<|In.cV Γ st<|In.mono<|.var<|cnt+1) X ⟨s.k,λm=>s.u m\/m=cnt+1⟩ (cnt+1) i):=λi G k hM=>by
  have h:=B;have:=py Hx (p.af k) ((h.en.e8 I h.aj p.js N).af k) (ch.lit hM nm) ((d.n.pe C).af k) R (by rw[jR];exact DI h.hd) ae ae h.mf;rw[jR]at this;exact this
 have⟨b1,b2,b3⟩:=d.n.bx J j;go_wp2_with(refine cz Oq cT rfl _ _ _ (jz rfl) rfl (MG.new _ _) st (nA L) rfl rfl ?_;intro i hM o;have E:=o.af ((j5 _ K).alloc (br _)<|.map #[] 0)<|br _;have⟨d1,d2,d3⟩:=d.af E|>.n.bx J j;have HM:=ai hM;have F:=ai E;clear hM o E);refine(Z _ _ F HM).mono ?_;rintro e w3(⟨n3,g3,s3,Vz,T3,rfl,p3,P,Q,c3,r3⟩|hb)
 .have N3:=(d.af F).and p3 P Q;have H4:=ac_ P (O.e8 d.n.a.js Q) r3;go_wp2_with fail;refine H4.mono ?_;rintro e w4⟨n4,g4,rfl,a4,t4,r4⟩;have HX:=((N3.step a4 t4).ret (D:=1000*(1+nn x)) (cnt0:=cnt) r4 ae).up K0
  go_wp2
  go_ret;exact HX
 .have HX:=(d.af F).bad hb;exact yk
def aaF{vz}(Hx:iW x)(Hz:iW z)(h:mP (.mk (if rc then 11 else 10) st n [x,z] f t a) c w nb l cnt g s Γ dom v)(O:PE w (λb=>b<c.lo) x vx)(P:PE w (λb=>b<c.lo) z vz):
 aa j3 298 #[nA c.eb,.iface 241<|.agg #[Nv f,Nv t,.bool rc,Nv a,Nv y,.string st,vx,vz]] w (di c nb l (1000*nn (.mk (if rc then 11 else 10) st n [x,z] f t a)) (ja c.mks (.mk (if rc then 11 else 10) st n [x,z] f t a) Γ) g s cnt w):=by
 have en:nn (.mk (if rc then 11 else 10) st n [x,z] f t a)=1+nn x+nn z:=Lq;obtain⟨Q,sz⟩:ScE c.mks c.nl (λv=>dom v\/(rc=true/\v=st)) x/\ScE c.mks c.nl (λv=>dom v\/v=st) z:=ahX h.sc;have R:=h.fa;have S:=h.fb;rw[en]at R S;have T:l<aL:=Wi;have⟨m,G⟩:=rF w #[Nv f,Nv t,.bool rc,Nv a,Nv y,Sv st,vx,vz] 241;have p:=h.up m;have i:=h.aj.iM<|br _;have N0:=mE.start p.aj<|In.inf c.mks (.mk (if rc then 11 else 10) st n [x,z] f t a) Γ;rw[LH]at N0;have U:=GH (a:=a) (y:=y) Hx ⟨p.aj,p.en,O.af m,Q,h.hd,ae,ae,h.mf⟩ ae;rw[en,LH];have V:=P.af m;obtain⟨tx,ax,rfl⟩:=O.iface;obtain⟨W,X,rfl⟩:=P.iface;have K0:=ai m;go_in;go_wp;refine U.mono ?_;rintro e I(⟨J,Y,s1,j,T1,rfl,Z,A,K,hc1,nm⟩|hb)
 .have u:=N0.and Z A K;have B:∀(d:ca)(F:Nat),Bq I d->MG Sv d F (bF st (nA J) [])->aa j3 300 #[nA c.eb,Mv F,Fv W<|Av X] d (di c nb l (1000*nn z) (ja c.mks z<|jf Γ st<|jk (lI rc st Γ) s1.k T1<|ji x) Y s1 j d):=λd F k hM=>by
   have h:=p;have:=py Hz (A.af k) ((h.en.e8 T h.aj A.js K).af k) (ch.lit hM nm) ((u.n.pe V).af k) sz (by rw[jR];exact DI h.hd) ae ae h.mf;rw[jR]at this;exact this
  have⟨b1,b2,b3⟩:=u.n.bx G i;go_wp2_with(refine cz Oq cT rfl _ _ _ (jz rfl) rfl (MG.new _ _) st (nA J) rfl rfl ?_;intro d hM o;have C:=o.af ((j5 _ I).alloc (br _)<|.map #[] 0)<|br _;have⟨d1,d2,d3⟩:=u.af C|>.n.bx G i;have E:=ai hM;have L:=ai C;clear hM o C);refine(B _ _ L E).mono ?_;intro e w3 N;have HX:=(((u.af L).imp (r:=ja c.mks z<|jf Γ st<|jk (lI rc st Γ) s1.k T1<|ji x) λo ho=>ho).last (cnt0:=cnt) (D:=1000*(1+nn x+nn z)) N ae).up K0;obtain⟨n3,-,-,-,-,rfl,-⟩|⟨z,vl,vr,rfl,-⟩:=N
  .clear B E
   go_wp2
   go_ret;exact HX
  .clear B E
   go_wp2
   exact⟨rfl,HX⟩
 .have HX:=N0.bad hb;exact yk
def U_{y:Nd}(Hx:iW x)(Hy:iW y)(h:mP (.mk 7 st n [x,y] f t a) c w nb l cnt g s Γ dom v)(hx:PE w (λb=>b<c.lo) x vx)(hy:PE w (λb=>b<c.lo) y vy)(hs:st=cY\/st=bM\/st=cD\/st=b8):
 aa j3 298 #[nA c.eb,.iface 216<|.agg #[Nv f,Nv t,.string st,vx,vy]] w (di c nb l (1000*nn (.mk 7 st n [x,y] f t a)) (ja c.mks (.mk 7 st n [x,y] f t a) Γ) g s cnt w):=by
 have en:nn (.mk 7 st n [x,y] f t a)=1+nn x+nn y:=Lq;obtain⟨sx,sy⟩:ScE c.mks c.nl dom x/\ScE c.mks c.nl dom y:=by
  exact Sj
 have fa:=h.fa;have fb:=h.fb;rw[en]at fa fb;have hl:l<aL:=Wi;have⟨j,S⟩:=rF w #[Nv f,Nv t,Sv st,vx,vy] 216;have G:=h.up j;have k:=h.aj.iM<|br _;have I:=mE.start G.aj<|ja c.mks (.mk 7 st n [x,y] f t a) Γ;rw[LK]at I;rw[en,LK];have T:=hy.af j;obtain⟨tx,ax,rfl⟩:=hx.iface;obtain⟨ty,ay,rfl⟩:=hy.iface;have P:=Wm Hx<|G.part I.n (hx.af j) sx DH DH
 have N0:=ai (I.imp (r:=jc (jc (ja c.mks x Γ) λa=>In.tG a jp (In.iG x)<|In.wO x) λ_=>jc (jc (ja c.mks y Γ) λb=>In.tG b jp (In.iG y)<|In.wO y) λ_=>In.dl<|opT st) λo q=>by
  refine Lk.1 ?_;obtain q|⟨a,d,U,V⟩:=q
  .exact jz q
  .exact jy ⟨a,d,U,Lk.1 V⟩)
 have J:=ai j;clear h I j hx hy;have U:=WN;have V:=tQ;go_in;go_wp;refine P.mono ?_;rintro e w1(⟨rfl,g1,s1,al,W,X,Y,c1⟩|m)
 .have p:=N0.and W X Y;have K:=Wm Hy<|G.part p.n T sy DH DH;have⟨Z,b2,b3⟩:=p.n.bx S k;clear P W X Y T G Hx Hy;go_wp2_with fail;refine K.mono ?_;rintro e w2(⟨rfl,g2,s2,dH,L,i,N,c2⟩|m)
  .have O:=(p.and L i N).af (j5 _ _).drew;have⟨d1,d2,d3⟩:=(p.and L i N).n.bx S k;have⟨e1,e2,e3⟩:=i.je.bx;obtain⟨u,Q⟩|⟨u,Q⟩:=i.je.rs.drew.look hs
   .have A:opT st=In.nX:=if_pos u;have R:=ai A;clear K L i N Z b2 b3 u A
    go_wp2
    go_region_with(first
     |(go_at_call 73;refine(nY).mono ?_;rintro e w4⟨rfl,rfl⟩)
     |(go_at_call 290;go_loud(refine(SY O.n.a kO ae).mono ?_);rintro e w5⟨n5,g5,B,rfl,C,E,c5,F⟩;have d:=ai (((O.step C E).ret (D:=1000*(1+nn x+nn y)) (cnt0:=cnt) (by rw[uh R];exact F) ae).up J);clear C E F))
    all_goals
     go_wp2
     go_ret;exact d
   .have A:opT st=jp:=if_neg u;have R:=ai A;clear K L i N Z b2 b3 u A
    go_wp2
    go_region_with(first
     |(go_at_call 72;refine(rN).mono ?_;rintro e w4⟨rfl,rfl⟩)
     |(go_at_call 290;go_loud(refine(SY O.n.a mH ae).mono ?_);rintro e w5⟨n5,g5,B,rfl,C,E,c5,F⟩;have d:=ai (((O.step C E).ret (D:=1000*(1+nn x+nn y)) (cnt0:=cnt) (by rw[uh R];exact F) ae).up J);clear C E F))
    all_goals
     go_wp2
     go_ret;exact d
  .have d:=p.bad m;obtain⟨z,u,A,rfl,-⟩:=m;clear K
   go_wp2
   exact⟨rfl,di.up (jy d) J⟩
 .have d:=N0.bad m;obtain⟨z,u,A,rfl,-⟩:=m;clear P
  go_wp2
  exact⟨rfl,di.up (jy d) J⟩
end
section
variable {cnt:Nat}
def ahY{x}(h:mP (.mk 2 x n [] f t a) c w nb l cnt g s Γ dom v):aa j3 298 #[nA c.eb,.iface 251<|.agg #[Nv f,Nv t,.string x]] w (di c nb l (1000*nn (.mk 2 x n [] f t a)) (ja c.mks (.mk 2 x n [] f t a) Γ) g s cnt w):=by
 have en:nn (.mk 2 x n [] f t a)=1:=qBi;obtain⟨tk,m,G⟩:∃tk m,c.mks x=some (tk,m):=by
  cases h.sc with
  |up _ _ _ _ _ _ tk m G=>exact⟨tk,m,G⟩|leaf _ _ _ _ _ _ _ hk=>omega
 have Y:=h.fa;rw[en]at Y;rw[en,Xq c.mks x n f t a Γ G];have N:=h.mf.sz x tk m G;have O:=h.mf.wh x tk m G;have has:=rL tk m;have⟨K,V⟩:=rF w #[Nv f,Nv t,Sv x] 251;obtain⟨j,D⟩:∃j,j=w.alloc (Cv #[Nv f,Nv t,Sv x] 251):=⟨_,rfl⟩;have d:=h.aj.af K;rw[<-D]at K V d;have⟨v,P,I⟩:=d.je.ms.look G;have I:=I j.drew rfl;have zcb:=d.je.ct.z;have zlm:=d.je.z.2.2;obtain⟨Z,sc,ta,xa,rfl,-⟩:=id P;have R:∀W:ca,Bq j W->aa j3 244 #[Av #[Lv Z tk.length sc,Fv ta xa]] W (λe w'=>∃tu xu,e=Rv (Fv tu xu)/\eh w' (λi=>i≠c.cb/\i<w'.heap.size) (jo tk m) (Fv tu xu)/\Bq W w'):=λW k=>by
  refine(vU (P.move (Q:=λi=>i≠c.cb) k.size (λb _ z=>k.block b z)<|λb p _=>p.1) ae).mono ?_;rintro e w'⟨u,rfl,J,hk⟩;obtain⟨tu,xu,rfl⟩:=J.iface;exact⟨tu,xu,rfl,(J.v O).move (br _) (λ_ _ _=>rfl)<|λb p z=>⟨p.elim id λp=>by have:=k.size;omega,z⟩,hk⟩
 have S:∀(W C:ca)(r A B:Nat)(tu:TypeId)(xu:Value),Bq j W->eh C (λi=>i≠c.cb/\i<C.heap.size) (jo tk m) (Fv tu xu)->Bq C W->rH c l r A B W g s cnt jh->C.heap.size<=B->j.heap.size<=B->aa j3 296 #[Fv tu xu,Nv l,anV r A] W (λe w'=>∃n,e=Rv (nA n)/\di c nb l 1000 (jc (In.qD (jo tk m) jh) λq=>In.dl q.1) g s cnt w (Rv<|nA n) w'):=λW C r A B tu xu k ht k3 an hm hm0=>by
  have E:r<W.heap.size/\A<W.heap.size/\B<W.heap.size:=⟨an.bk.z,an.bj.z,by have⟨L',L,_⟩:=an.mp;exact L.lt⟩;refine(OH E.1 E.2.1 E.2.2 (jo tk m) W g s cnt jh _ _ (d.af k).je (d.af k).js d.us an (br _) (ht.move k3.size (λb _ z=>k3.block b z)<|λ_ p _=>p) (λb p=>⟨p.1,by have:=p.2;omega⟩) N (λ_ _=>trivial) ae).mono ?_;rintro e w'⟨X,g4,s4,c4,BW,rfl,je,js,-,o,hn,hV,T,hT,hcc,F⟩;have U:=o.DB k.size;have F':Fr (jS c g) j w':=(Fr.of k).gR F λb q=>q.imp (λq=>jz q) λq=>ae;have a4:=U.aj d (br _) je js;exact⟨X,rfl,(((mE.start d _).and (U.drawn hT) a4<|U.stj d.js (br _) F').ret ⟨hn,by rw[hV,o.kk],T⟩ ae).up K⟩
 have T:Hid (∀W:ca,Bq j W->aa Tryz.prog 305 #[nA c.eb] W λe w'=>∃r A B,e=Rv (anV r A)/\rH c l r A B w' g s cnt In.Bt/\Bq W w'/\(r<w'.heap.size/\A<w'.heap.size/\B<w'.heap.size)/\W.heap.size<=B/\W.heap.size<=A/\W.heap.size<=r):=ai λW k=>OI (d.af k).je g s;have U:Hid (∀W:ca,Bq j W->W.cell? ⟨c.eb,4,none⟩=some (Nv l)):=ai λW k=>(d.af k).je.bx.c 4;obtain⟨b1,b2,b3⟩:=V;have⟨e1,e2,e3⟩:=d.je.bx;have HW:=ai D;clear h K d P D;go_in;go_wp;rw[<-uh HW]
 go_region_with(first
  |(go_at_call 244;go_loud(refine(R _ (j5 _ _).drew).mono ?_);rintro e C⟨tu,xu,rfl,J,k3⟩;have E:Bq j C:=(j5 _ _).drew.trans k3;have f3:=uh U _ E;have U3:=ai J;have L:=ai E;clear J k3 E)
  |(go_at_call 305;go_loud(refine(T _ L).mono ?_);rintro e X⟨r,A,B,rfl,an,J,-,hm,-,-⟩;have E:Bq j X:=L.trans<|J.mono L.size;have f4:=uh U _ E;have HO:=ai<|S X C r A B tu xu E U3 J an hm<|j6 L.size hm;clear J an hm E)
  |(go_at_call 296;go_loud(refine HO.mono ?_);rintro e w5⟨n5,rfl,E⟩;have J:=ai E;clear E))
 all_goals
  go_wp2
  go_ret;exact J
end
def Va:∀(k:Nat)(j:Nd),nn j<=k->iW j:=by
 intro k
 induction k with
 |zero=>intro j h;cases j;simp only[nn]at h;omega|succ k ih=>
  intro j hk c w nb l cnt g s Γ dom v h;have p:=h.pe;have m:=h.fa;have fb:=h.fb;have D:l<aL:=Wi
  cases p with
  |low st n f t a hs=>
   rw[hH]at m⊢;have d:Γ st≠none:=by
    cases h.sc with
    |low _ _ _ _ _ _ hx=>exact h.hd _ hx|leaf _ _ _ _ _ _ _ hk=>omega
   rw[show ja c.mks (.mk 1 st n [] f t a) Γ=In.rY Γ st f t by simp[ja,In.ls]];exact dj.1 λW hb=>(aeo (h.aj.af hb) D (h.en.af hb) d f t ae).mono λe w' q=>mE.last (mE.start (h.aj.af hb) _) q ae
  |up st n f t a hs=>exact ahY h|num st n f t a=>
   rw[hH]at m;rw[lU c.mks 3 st n f t a Γ t_<|jz ⟨rfl,rfl⟩,hH];exact DR (jz ⟨rfl,rfl,_,rfl⟩) h.aj ae
  |word st n f t a hs=>
   rw[hH]at m;rw[lU c.mks 4 st n f t a Γ lV<|jy<|jz ⟨rfl,rfl⟩,hH];exact DR (jy<|jz ⟨rfl,rfl,_,rfl⟩) h.aj ae
  |unit st n f t a=>
   rw[hH]at m;rw[lU c.mks 5 st n f t a Γ kQ<|jy<|jy ⟨rfl,rfl⟩,hH];exact DR (jy<|jy ⟨rfl,rfl,rfl⟩) h.aj ae
  |pr st n x y f t a vx vy hx hy=>
   have d:nn x<=k/\nn y<=k:=Bw;exact acT (ih x d.1) (ih y d.2) h hx hy
  |of st n x y f t a vx vy hx hy=>
   have d:nn x<=k:=Bw;obtain⟨r,u,rfl⟩:=hx.iface;obtain⟨B,C,rfl⟩:=hy.dI;exact dj.2.1 λW hb=>Ww (ih x d) (h.up hb) (hx.af hb)<|hy.af hb
  |op st n x y f t a vx vy hs hx hy=>
   have d:nn x<=k/\nn y<=k:=Bw;exact U_ (ih x d.1) (ih y d.2) h hx hy hs
  |call st n x y f t a vx vy hx hy=>
   have d:nn x<=k/\nn y<=k:=Bw;obtain⟨r,u,rfl⟩:=hx.iface;obtain⟨B,C,rfl⟩:=hy.iface;exact dj.2.2.1 λW hb=>abe (ih x d.1) (ih y d.2) (h.up hb) (hx.af hb)<|hy.af hb
  |fn st n x f t a y vx hs hy hx=>
   have d:nn x<=k:=Bw;exact af4 (ih x d) h hx
  |lt K st n x z f t a y vx vz hc hs hy hx hz=>
   have d:nn x<=k/\nn z<=k:=Bw;obtain rfl|rfl:=hc
   .exact aaF (rc:=false) (ih x d.1) (ih z d.2) h hx hz
   .exact aaF (rc:=true) (ih x d.1) (ih z d.2) h hx hz
  |ite st n x y z f t a vx vy vz hx hy hz=>
   have d:nn x<=k/\nn y<=k/\nn z<=k:=Bw;obtain⟨r,u,rfl⟩:=hx.iface;obtain⟨B,C,rfl⟩:=hy.iface;obtain⟨tz,az,rfl⟩:=hz.iface;exact dj.2.2.2.1 λW hb=>S9 (ih x d.1) (ih y d.2.1) (ih z d.2.2) (h.up hb) (hx.af hb) (hy.af hb)<|hz.af hb
  |mt st n x A f t a vx rb sc vp ve h0 hg hz hc hx p he=>
   have d:nn x<=k/\cr (aN A)<=k:=Bw;obtain⟨r,u,rfl⟩:=hx.iface
   exact dj.2.2.2.2 λW hb=>aeq (ih x d.1) (λi hi=>ih _ (by have:=rO A i hi;omega)) (h.up hb) hg (Nat.lt_of_lt_of_le hz hb.size) (λi hi=>by
    have B:∀o,W.cell? ⟨rb,o,none⟩=w.cell? ⟨rb,o,none⟩:=λo=>World.cell?_of_block (a:=⟨rb,o,none⟩)<|hb.block rb hz;simp only[B]
    exact hc i hi) (hx.af hb) (λi hi=>(p i hi).af hb) (λi hi=>(he i hi).af hb)
def acU nd:iW nd:=Va _ nd<|br _
def adU c nb cnt g(s:jt)(Γ:jx)rc st a y x w(e:Ending)w':=Fr (jG c g nb) w w'/\∃o,jl rc st x (ja c.mks x) Γ s o/\match o with
 |.error z=>∃vl vr,e=.returned (.tuple #[.nilIface,AX z.f vl vr])/\qM w' (λ_=>True) z vl vr
 |.ok (t,s1)=>(48<size (sub s1.k t)/\e=.returned (.tuple #[.nilIface,AX ⟨7,a,y⟩ .nilIface .nilIface]))\/
  (size (sub s1.k t)<=48/\∃T ta xa aR g',T=(if ji x then sub s1.k t else jd (sub s1.k t))/\e=.returned (.tuple #[.iface ta xa,.agg Ls])/\eh w' (λ_=>True) T (.iface ta xa)/\aR<=cnt+1000*(1+nn x)+48/\AJ w' c nb 0 aR g' s1/\ch w' nb (jf Γ st ⟨T,vars [] T⟩) g' s1/\jj s1 (jf Γ st ⟨T,vars [] T⟩))
section
variable {w':ca} {cnt:Nat}
def af5{g1}(j:jj s Γ)(r:In.Ok s)(u:jl rc st x (ja c.mks x) Γ s (.ok (T1,s1)))(nm:A9 g1 s1 (jk (lI rc st Γ) s1.k T1 true) n):A9 g1 s1 ⟨sub s1.k T1,vars []<|sub s1.k T1⟩ n:=by
 have⟨m,ti⟩:=jm rc st x (jq c.mks x) Γ s _ r (λ_ q=>q) j.env T1 s1 u;have o:∀v,¬In.uX (lI rc st Γ) s1.k v:=λv⟨y,d,q1,q2,q3⟩=>by
  have e:Γ y=some d:=by
   cases rc with
   |false=>exact q1|true=>
    simp only[lI,if_true,In.lN]at q1;split at q1
    .cases q1
    .exact q1
  have⟨i,p⟩:=j y d e;have fx:=ju λk hk=>by
   have:=p k (by rw[i];exact In.aE.2 hk);exact m.fix this.2<|λz=>z this.1
  rw[fx]at q2;exact q3 (by rw[i];exact In.aE.2 q2)
 refine⟨nm.mem,nm.val,λv=>?_,nm.use,λv q=>In.aE.1 q⟩;rw[<-nm.any v];simp only[jk,if_true,In.yl,List.mem_filter,decide_eq_true_eq];exact⟨λq=>⟨q,o v⟩,λq=>q.1⟩
def acV{T}(j:jj s Γ)(u:In.Ok s)(A:jl rc st x (ja c.mks x) Γ s (.ok (T1,s1)))(B:T=(if ji x then sub s1.k T1 else jd (sub s1.k T1))):jj s1 (jf Γ st ⟨T,vars [] T⟩):=λy d hd=>by
 have⟨e,p⟩:=jm rc st x (jq c.mks x) Γ s _ u (λ_ q=>q) j.env T1 s1 A;unfold jf at hd;split at hd
 .injection hd with hd;subst hd;refine⟨rfl,λv hv=>?_⟩;have hv:=In.aE.1 hv;rw[B]at hv;split at hv
  .exact e.ok.nR p.use hv
  .have⟨m,_,o⟩:=(jv _).1 hv;simp[aA,bZ]at o
 .have⟨r,i⟩:=j y d hd;exact⟨r,λv hv=>⟨e.run.mono v (i v hv).1,e.fix (i v hv).2 λz=>z (i v hv).1⟩⟩
def eh.whole{P}{t}{v}(h:eh w P t v):Whole t:=by
 induction h with
 |var n=>trivial|aM k L sa sc vs hc bK hr ih=>
  refine⟨λe=>?_,?_⟩
  .obtain q|q|q:=hc
   .exact Xm (q▸e)
   .exact Xn (q▸e)
   .obtain⟨a,r,d,j⟩:=q;rw[e,show rI.toList=[116,111,111,32,108,97,114,103,101]from toList_mk _]at d;injection d with d _;subst d;revert j;decide
  .have:∀l:List Ty,(∀i(h:i<l.length),Whole l[i])->jT l:=by
    intro l
    induction l with
    |nil=>exact λ_=>trivial|cons t l ih=>exact λq=>⟨q 0 ag,ih λi hi=>q (i+1) WW⟩
   exact this L ih
def AJ.off{S}(a:AJ w c nb l cnt g s)(f:Fr S w w')(h:∀b,S b->b≠c.rb/\b≠c.mb/\b≠c.eb/\b≠c.cb/\(∀p,w.cell? ⟨b,0,none⟩≠some (.pointer p))/\∀t y,w.cell? ⟨b,0,none⟩≠some (.iface t y)):AJ w' c nb l cnt g s:=by
 obtain⟨⟨j,k,e,i,z⟩,d,m,o,r⟩:=a;exact⟨⟨j.fr f λz=>(h _ z).2.2.1 rfl,k.fr f λz=>(h _ z).2.2.2.1 rfl,e.same<|f.block _ e.lt λz=>(h _ z).1 rfl,(i.SM (S:=S) λb q=>(h b q).2.2.2.2.2).move f.size (f.block _ i.lt λz=>(h _ z).2.1 rfl) (λb p y=>f.block b y p.2)<|λ_ p _=>p.1,⟨z.1,z.2.1,j6 z.2.2 f.size⟩⟩,⟨d.gl.fB f.size λb p q=>f.block b (iV q) λz=>(h b z).2.2.2.2.1 p q,d.mM,d.inj,d.can,d.lc,d.val,d.use,d.ok⟩,m,o,r⟩
def AJ.glo(a:AJ w c nb l cnt g s)(q:jS c g b):c.lo<=b:=Nat.le_of_not_lt λp=>a.Wh p q
def Sk{p:Prop}(h:p:=by
 go_wp2_with fail;refine wp_region_noPanic ?_;go_region;all_goals
  refine NoPanic.normal ?_;go_wp2_with fail;refine HTT.mono ?_;rintro e w5⟨tu,xu,rfl,fz5,HPO⟩;have FZ5:=ai fz5;obtain⟨f1,f2,f3⟩:=fz5;go_wp2_with fail;have F8:=FZ5.OM rfl (Iv 0) (Iv 0) (Iv 0) Zv .nilIface;have G8:=(((((Fr.refl (λi=>i=w.heap.size+1) w5).set (b:=w.heap.size+1) (jz rfl) 0<|Iv 0).set (b:=w.heap.size+1) (jz rfl) 1<|Iv 0).set (b:=w.heap.size+1) (jz rfl) 2<|Iv 0).set (b:=w.heap.size+1) (jz rfl) 3 Zv).set (b:=w.heap.size+1) (jz rfl) 4 .nilIface;refine leaves_cons (f:=287) (args:=#[Pv<|w.heap.size+1]) ag qBb ?_;refine(aby<|w.heap.size+1).mono ?_;rintro e u' w9⟨rfl,rfl,rfl⟩;obtain⟨c9,_,_⟩:=F8;simp[Leaves,settle,results,Tryz.results285,go_sem,c9]
  exact HPO _ G8):p:=h
def af6(h:BdJ rc st x c w nb 0 cnt g s Γ dom v)(fb:1+nn x<=805)(tp:jj s Γ)(i0:nb≠c.rb/\nb≠c.mb/\c.lo<=nb):
 aa j3 285 #[nA c.eb,.agg #[.bool rc,Nv a,Nv y,.string st,v]] w (adU c nb cnt g s Γ rc st a y x w):=by
 obtain⟨tx,ax,rfl⟩:=h.pe.iface;have fa:=h.fa;have hl:0<aL:=Wi;obtain⟨Q,HW⟩:∃Q,Q=(w.alloc<|Cv #[.bool rc,Nv a,Nv y,Sv st,Fv tx<|Av ax] 101).alloc (Cv Ls 107):=⟨_,rfl⟩;have K0:Bq w Q:=by rw[HW];exact(bw _).alloc ag _
 have G:Bx Q w.heap.size #[.bool rc,Nv a,Nv y,Sv st,Fv tx<|Av ax]:=by rw[HW];exact(Bx.new w #[.bool rc,Nv a,Nv y,Sv st,Fv tx<|Av ax] 101).alloc _
 have B:Bx Q (w.heap.size+1) Ls:=by
  rw[HW];have:=Bx.new (w.alloc<|Cv #[.bool rc,Nv a,Nv y,Sv st,Fv tx<|Av ax] 101) Ls 107;simpa using this
 have HA:=h.up K0;have zrm:c.rb<w.heap.size/\c.mb<w.heap.size:=⟨h.aj.je.rs.lt,h.aj.je.ms.lt⟩;have X:=h.aj.js.ok;have n1:=h.aj.iM<|br _;have R:=h.aj.iM<|Nat.le_succ _;have HB:=GH (a:=a) (y:=y) (acU x) HA ae;have I:∀w',Fr (jS c g) Q w'->c.lo<=w.heap.size/\Fr (jG c g nb) w w':=λw' f=>⟨by have:=h.aj.je.z;have:=h.aj.je.bx.z;omega,(Fr.of K0).trans<|f.fU λb q=>jz q⟩
 go_enter_defers Tryz.func285,Tryz.ntmps285
 go_wp2_with fail;rw[<-HW];refine HB.mono ?_;rintro e w1(⟨m1,g1,s1,C,T1,rfl,P1,A1,D,hc1,NM⟩|⟨z,vl,vr,rfl,hp,U,Y⟩)
 .have fz1:=B.fr D.fr R;have HM:=ade A1 NM.mem a y;have bb:=G.fr D.fr n1;obtain⟨b1,b2,b3⟩:=bb;have E:g1.V m1=sub s1.k T1:=(by rw[NM.val];exact A1.js.ok.qE T1);go_wp2_with fail;refine HM.mono ?_;rintro e w2⟨⟨j0,a2,t2⟩,⟨hz,rfl⟩|⟨hz,rfl⟩⟩
  .obtain⟨O,Z⟩:∃O:gD,O={g1 with nx:=j0}:=⟨_,rfl⟩;have J:O.V m1=sub s1.k T1:=(by rw[Z];exact E);rw[<-Z]at a2 t2;have h:=HA;have K:=xJ.next ⟨A1,D,_,h.aj⟩ a2 t2;have HI:=pf x _ _ _<|K.pe h.pe;have k0:=NM.e8 hl A1 a2.js t2;have a0:nb≠w.heap.size+1:=by have⟨L,q,_⟩:=h.en;intro e;have z:=B.c 0;rw[<-e,q.bE 0]at z;simp at z
   have zl:=(I w2 K.t.fr).1;have HK:∀(j:ca)(P:gD)(d W:Nat)(T:Ty),xJ c nb 0 Q g s j P s1 d->A9 P s1 ⟨T,vars [] T⟩ W->P.V W=T->T=(if ji x then sub s1.k T1 else jd (sub s1.k T1))->d<=cnt+1000*(1+nn x)+48->∃o,(Instr.mapUpdate 148 (Mv nb) (Sv st)<|nA W).run j3 j.drew=.ok () (setBlock j.drew nb o)/\aa j3 291 #[nA W] (setBlock j.drew nb o) (λe w5=>∃tu xu,e=Rv (Fv tu xu)/\Bx w5 (w.heap.size+1) Ls/\∀w6,Fr (λb=>b=w.heap.size+1) w5 w6->adU c nb cnt g s Γ rc st a y x w (Rv<|.tuple #[Fv tu xu,Av Ls]) w6):=λj P d W T n3 nm3 hV hT hc=>by
    have u:=n3.a;have⟨L,hM,hq⟩:=h.en.e8 hl h.aj u.js n3.t;have kd:Bq j j.drew:=(j5 _ _).drew;have⟨o,F,f0⟩:=(hM.af kd).put Oq cT st<|nA W;refine⟨o,F,?_⟩;have o4:=One.set j.drew nb o;have A:AJ (setBlock j.drew nb o) c nb 0 d P s1:=(u.af kd).fB (o4.fr (S:=λb=>b=nb) rfl) λb e=>⟨by rw[e];exact i0.1,by rw[e];exact i0.2.1,λi=>by rw[e];exact(hM.af kd).bE i⟩;have e4:=ch.put hq f0 nm3;have N:=((n3.bx B R).below kd).one o4<|Ne.symm a0;refine(xV A.js nm3.mem).mono ?_;rintro e w5⟨tu,xu,g0,rfl,ht,E5,b0,F5⟩;have c0:OR 0 (setBlock j.drew nb o).heap.size P s1 d jh {P with nx:=g0} s1 d jh:=OR.eqv A.js E5 b0.gl _;have d0:Fr (jS c P) (setBlock j.drew nb o) w5:=F5.fU λb q=>jy<|jy q;have a5:=c0.aj A (br _) (A.je.fr A.js d0 (A.je.bx.fr F5<|A.je.yA A.js)<|A.je.ct.fr F5<|A.je.yB A.js) b0;have e5:=e4.e8 hl A a5.js<|c0.stj A.js (br _) d0;have fz5:=N.fr F5 λq=>by
     have⟨p,hp⟩:=A.js.gl.qB q;rw[N.c 0]at hp;simp at hp
    have zw5:=N.z;refine⟨tu,xu,rfl,fz5,λw6 F6=>⟨?_,.ok (T1,s1),P1,jy ⟨by rw[<-E];exact hz,T,tu,xu,d,_,hT,rfl,?_,hc,a5.off F6 ?_,?_,acV tp X P1 hT⟩⟩⟩
    .refine((((I j n3.t.fr).2.trans<|Fr.of kd).trans<|o4.fr<|jy rfl).gR F5 λb q=>?_).gR F6 λb e=>jy ae;exact(n3.t.nw b q).imp (λz=>jz<|jy<|jy z) λz=>j6 K0.size z
    .rw[<-hV];exact ht.move F6.size (λb p z=>F6.block b z λe=>by have:(setBlock j.drew nb o).heap.size<=b:=p;omega)<|λ_ _ _=>trivial
    .rintro b rfl;have q:=fz5.c 0;exact⟨ae,ae,λe=>R<|jy<|jz e,λe=>R<|jz e,λp e=>by rw[q]at e;simp at e,λp y e=>by rw[q]at e;simp at e⟩
    .obtain⟨L5,N,b0⟩:=e5;exact⟨L5,N.fr F6 a0,b0⟩
   have⟨b1',b2',b3'⟩:=K.bx G n1;go_wp2_with fail;refine HI.mono ?_;rintro e j⟨rfl,k3⟩;have n3:=K.af k3;have nm3:=k0;have⟨y1,y2,y3⟩:=n3.bx G n1
   cases hv:ji x with
   |true=>
    have⟨o,F,HTT⟩:=HK j O C m1 (sub s1.k T1) n3 (af5 tp X P1 (by rw[hv]at nm3;exact nm3)) J (by rw[hv];rfl) ae;have⟨z1,z2,z3⟩:=n3.a.je.bx;exact Sk
   |false=>
    obtain⟨T,A⟩:∃T,T=jd (sub s1.k T1):=⟨_,rfl⟩;have l0:T=if ji x=true then sub s1.k T1 else jd (sub s1.k T1):=(by rw[hv,A];rfl);have HY:=xV n3.a.js nm3.mem;have hz':size T<=48:=by rw[A,n8,<-E];exact hz
    have N:∀n,¬aA n T:=λn o=>by
     rw[A]at o;have⟨m,_,o⟩:=(jv _).1 o;simp[aA,bZ]at o
    have N3:=ai n3;go_wp2_with fail;refine HY.mono ?_;rintro e w4⟨tu,xu,n0,rfl,ht,E4,b0,F4⟩;have n3:=uh N3;have u:=n3.a;have c0:OR 0 j.heap.size O s1 C jh {O with nx:=n0} s1 C jh:=OR.eqv u.js E4 b0.gl _;have d0:=F4.fU λb q=>(jy (jy q):jS c O b);have N4:=n3.next (c0.aj u (br _) (u.je.fr u.js d0 (u.je.bx.fr F4<|u.je.yA u.js)<|u.je.ct.fr F4<|u.je.yB u.js) b0)<|c0.stj u.js (br _) d0;have f0:=BU ht.w (by rw[J,<-E];exact j6 hz aD);have o0:Whole T:=by rw[A,<-J];exact cu _ ht.whole λn _=>yr
    rw[show jd (O.V m1)=T by rw[A,J]]at f0;go_wp2_with fail;refine f0.mono ?_;rintro e w5⟨u5,rfl,g0,k5⟩;obtain⟨t5,x5,rfl⟩:=g0.iface;have N5:=N4.af k5;have zc4:=N4.a.je.ct.z;have HN:=Wk N5.a (g0.v o0) (λb p=>by have:w4.heap.size<=b:=p;omega) ae N ae;go_wp2_with fail;refine HN.mono ?_;rintro e w6⟨m6,g6,h0,rfl,a6,t6,hc6,r6⟩;have n6:=N5.next a6 t6;have p0:A9 g6 s1 ⟨T,vars [] T⟩ m6:=by
     have e0:=List.eq_nil_iff_forall_not_mem.2 λn q=>N n<|In.aE.1 q;rw[e0];exact r6.nm a6.js hl λn o=>absurd o<|N n
    have⟨o,F,HTT⟩:=HK w6 g6 h0 m6 T n6 p0 (by rw[r6.val];exact ju λn o=>absurd o<|N n) l0 ae;have⟨y1,y2,y3⟩:=n6.bx G n1;have⟨z1,z2,z3⟩:=a6.je.bx;exact Sk
  .have f2:=D.fr.trans' t2.fr λb q=>by
    obtain q|q|q:=q
    .exact jz (jz q)
    .exact jz (jy<|jz q)
    .exact(D.nw b q).imp (λz=>jy<|jy z) id
   have d:=B.fr f2 R;have⟨zl,j⟩:=I w2 f2;go_wp2_with fail;refine leaves_cons (f:=287) (args:=#[Pv<|w.heap.size+1]) ag qBb ?_;refine(Cs (w.heap.size+1) d ⟨7,a,y⟩ Zv Zv<|jz ⟨rfl,rfl⟩).mono ?_;rintro e u' w9⟨rfl,rfl,u,U⟩;obtain⟨c9,_,_⟩:=u;simp[Leaves,settle,results,Tryz.results285,go_sem,c9];exact⟨j.gR U<|λi r=>jy ae,.ok (T1,s1),P1,jz ⟨by rw[<-E];exact hz,rfl⟩⟩
 .have A:=B.fr Y R;have⟨zl,j⟩:=I w1 Y;have d:=ai U;have E:=ai hp;go_wp2_with fail;refine leaves_cons (f:=287) (args:=#[Pv<|w.heap.size+1]) ag qBb ?_;refine(Cs (w.heap.size+1) A z.f vl vr d.hv).mono ?_;rintro e u' w9⟨rfl,rfl,u,U⟩;obtain⟨c9,_,_⟩:=u;simp[Leaves,settle,results,Tryz.results285,go_sem,c9];exact⟨j.gR U<|λi r=>jy ae,.error z,E,vl,vr,rfl,d.one (A.c 0) ag U⟩
end
def ahZ eb lo base nl w cnt mks(s:jt)(Γ:jx):=∃(c:JC)(nb:Nat)(g:gD),c.eb=eb/\(c.lo=lo/\lo<=c.mb)/\(c.cb<base/\c.eb<base)/\c.mks=mks/\c.nl=nl/\c.rb≠c.mb/\(nb≠c.rb/\nb≠c.mb/\c.lo<=nb)/\jj s Γ/\AJ w c nb 0 cnt g s/\ch w nb Γ g s
def af7{cnt}{x}(a:AJ w c nb l cnt g s)(e:w.cell? ⟨b,0,none⟩=some x)(i:∀q,x≠.pointer q):¬b∈g.ds:=λq=>by
 have⟨p,d⟩:=a.js.gl.qB q;rw[e]at d;injection d with d;exact i p d
def af8{eb lo base}(hl:nl.length<=1000000):VW 87 eb lo base false nl (ahZ eb lo base nl):=by
 refine⟨?_,?_,⟨_,λw=>metJ_Makers _ w,λ_ _=>qkr,?_⟩,⟨_,λw=>metJ_Let _ w,λ_ _=>qkr,?_⟩⟩
 .rintro w w' cnt B s Γ⟨c,nb,g,K,m,C,L,N,r,k,D,j,u⟩O;exact⟨c,nb,g,K,m,C,L,N,r,k,D,j.af O,u.af O⟩
 .rintro w w' cnt B s Γ b x⟨c,nb,g,K,m,C,L,N,r,k,D,j,u⟩O A E f;have⟨Lr,P,_⟩:=id j.je.rs;have⟨Q,I,_⟩:=id j.je.ms;have⟨J,F,G⟩:=id u;have R:=gS P A;have nm:=gS I A;have nn:=gS F A;refine⟨c,nb,g,K,m,C,L,N,r,k,D,j.off f ?_,J,F.fr f nn,G⟩;rintro d rfl;exact⟨Ne.symm R,Ne.symm nm,ae,ae,λp e=>by rw[A]at e;injection e with e;exact E.p p e,λt y e=>by rw[A]at e;injection e with e;exact E.i t y e⟩
 .rintro w cnt B s Γ t O P f x vv vm⟨c,nb,g,rfl,⟨rfl,m⟩,C,rfl,rfl,r,k,D,j,u⟩R I L;have⟨Q,N,_⟩:=id j.je.ms;have⟨J,F,G⟩:=id u;refine(S_ j r R I L).mono ?_;rintro e w'⟨rfl,K,S⟩;refine⟨rfl,.of K (λb q=>by subst q;exact m) (λb y q _ e _=>by subst q;rw[N.bE 0]at e;cases e),?_⟩;exact⟨DT c t O P w'.heap.size,nb,g,rfl,⟨rfl,m⟩,C,rfl,rfl,r,k,D,S,J,F.fr K k.2.1,G⟩
 .rintro w cnt B s Γ rc st x v a y dom⟨c,nb,g,rfl,⟨rfl,m⟩,C,rfl,rfl,r,k,D,j,u⟩N O L LS P Q I;refine(af6 (a:=a) (y:=y) (dom:=dom) ⟨j,u,N,O,L,P,ae,I⟩ Q D k).mono ?_;rintro e w'⟨K,o,E,G⟩;refine⟨.of K (λb q=>?_)<|λb z q hz A E=>?_,o,E,?_⟩
  .obtain q|q:=q
   .exact j.glo q
   .subst q;exact k.2.2
  .obtain  (q|q|q)|q:=q
   .omega
   .omega
   .exact af7 j A E q
   .subst q;have⟨J,F,_⟩:=id u;exact gS F A rfl
  .cases o with
   |error z=>exact G|ok p=>
    obtain⟨t,s1⟩:=p;obtain⟨z,F⟩|⟨z,T,J,R,A,S,F,U,V,W,X,Y,Z⟩:=G
    .grind
    .exact jy ⟨z,T,J,R,A,F,U,V,W,c,nb,S,rfl,⟨rfl,m⟩,C,rfl,rfl,r,k,Z,X,Y⟩
def af9 nl:aa j3 31 #[] w λe w'=>∃eb,e=.returned (Pv eb)/\Bq w w'/\StW eb w.heap.size w'.heap.size nl w' 0 (λ_=>none) ⟨Ty.var,λ_=>False⟩ (λ_=>none):=by
 refine(ad3 nl).mono ?_;rintro e w'⟨c,rfl,k,h,d,i,j,m,o,p⟩;have⟨l1,l2,l3,l4,l5⟩:=h.we.l;exact⟨c.eb,rfl,k,c,_,rfl,⟨m,o,p⟩,⟨ae,ae⟩,i,j,rfl,d,h⟩
def af_ nl:aa j3 33 #[] w λe w'=>∃eb,e=.returned (Pv eb)/\Bq w w'/\ahZ eb w.heap.size w'.heap.size nl w' 0 (λ_=>none) ⟨Ty.var,λ_=>False⟩ (λ_=>none):=by
 refine(aer nl).mono ?_;rintro e w'⟨c,nb,g,rfl,k,a,en,d,i,j,m,o,p,r,h8⟩;exact⟨c.eb,rfl,k,c,nb,g,rfl,⟨j,ae⟩,⟨a.je.ct.z,a.je.bx.z⟩,d,i,m,⟨o,p,r⟩,λy c q=> iP,a,en⟩
end Go.Proofs.YtonaidfgokhmoaaGreatDoor
