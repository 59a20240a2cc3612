import Derived.Test.YtonaidfgokhmoaaGreatDoorYRtd
import Derived.Test.YtonaidfgokhmoaaGreatDoorYFc
set_option linter.all false
set_option maxRecDepth 100000
set_option maxHeartbeats 8000000
namespace Go.Proofs.YtonaidfgokhmoaaGreatDoor
open Go renaming Calls->aa,World->ca,Value->ea,Ending->ga
open _root_.Option renaming some->ia,none->ka
open _root_.Bool renaming true->la,false->na
open In renaming inf->ja,MM->jc,cV->jd,andM->jf,St->jh,dG->ji,Env->jj,cG->jk,dl->jl,Bt->jm,xD->jo,iq->jp,over->jq,Mks->jt,lC->ju,fW->jv,tZ->jx,iG->jy,rK->jz,Ft->j3,wO->j5,rY->j6,tG->j7,rZ->j8,p9->j9,via->qe,kP->qf,arr->qg,iT->qh,mono->qi,oj->qj,gZ->qk
open _root_.List renaming setIfInBounds_toArray->ql,set_cons_zero->qm,set_cons_succ->qn,append_nil->qp,mem_cons_self->qr,nodup_nil->qs
open Or renaming inr->qt,inl->qu
open Go.Proofs.Tryz renaming prog->qv,results217->qw
open Go.RowKit.Below renaming refl->qx
open _root_.Nat renaming le_trans->qy,le_of_eq->qz,lt_of_lt_of_le->q9,zero_le->xf
open And renaming intro->xg
open Fr renaming of->xh
open Go.World renaming cell?_of_block->xi
open Go.Value renaming slice->xj,string->xk
open Un.Ty renaming var->xm
open Go.Act renaming put->xn
open Pu renaming Tok->xo
open Ne renaming symm->xq
open Un renaming eE->xt
open Go Go.RowKit Go.ChangeMaps Go.MapKept Un Proofs.Tryz
variable {C xs:Array ea} {cn k st:BA} {dom:BA->Prop} {rc:Bool} {e:ga} {fn:Func} {g g0 g1:gD} {G Γ:jj} {q r:jc Un.Ty} {mks:jt} {d:In.Lp} {s s0 s1:jh} {c:JC} {B:List (BA×Un.Ty)} {A:List (Nd×Nd)} {nl:List BA} {L:List Nd} {D D' S a b base cnt0 al eb f gb kb l lo m mb n nb sc t y:Nat} {Q Λ:Nat->Prop} {nd x z:Nd} {P:Program} {α β:Type} {T X:Un.Ty} {u v vl vr vx vy vz:ea} {V W w w' w0 w1:ca}
section
variable {c:WC} {cnt:Nat}
def Gz(i:AP x)(h:BdA rc st x c w cnt s kb Λ Γ gb Q dom vx):
 aa qv 220 #[Pv c.eb,Mv kb,Mv gb,.agg #[.bool rc,Nv a,Nv y,.string st,vx]] w (aZ c (1100*(1+nn x)) (1000*(1+nn x)) (jk rc st x (ja c.mks x) Γ) s cnt w):=by
 cases rc
 .exact V9 i h
 .exact V_ i h
def L6{ta}{xa}{lP}(q:aa6 c S D (jk rc st x (ja c.mks x) Γ) s cnt w0 al T s1 ta xa lP w1)(j:WK w c cnt s kb)(E:∀n,¬s.u n->Λ n)(F:WG w c s Λ Γ gb):DG w w1 c al s s1 Λ lP/\In.cy Λ s1 T:=by
 have⟨g1,o⟩:=qf rc st x (qj c.mks x) Γ s Λ j.ok E F.i T s1 q.m;exact⟨⟨⟨q.k,q.n,λn p=>by obtain r|r:=q.u n p;have:=j.u n r;have:=q.c1;unfold us at*;omega;rw[us];omega,g1.ok,q.wh⟩,g1.new,g1⟩,o⟩
def aZ.wide{S'}{p}(h:aZ c S D p s cnt w0 e w')(hS:S<=S')(hD:D<=D')(hb:Bq w w0):aZ c S' D' p s cnt w e w':=by
 obtain⟨F,i,o,E,h2,I,J,j⟩:=h;refine⟨(xh hb).trans F,i,o,E,ae,I,J,?_⟩;unfold aeh at*;split
 .obtain⟨K,q2,N,O,kb,R,U,Y,Z⟩:=j;exact⟨K,q2,N,O,kb,R,U,Y,Z.le hS⟩
 .exact j
def SV Γ k t v:(jp Γ k t v).any.Nodup:=by
 cases v
 .simp[jp]
 .simp only[jp,if_true,In.yl];exact(dO _ qs).filter _
def aei{K}(hK:K=if rc then 11 else 10)(Hx:AP x)(Hz:AP z)(h:Bz (.mk K st n [x,z] f t a) c w cnt s kb Λ Γ gb Q dom (.iface 241<|.agg #[Nv f,Nv t,.bool rc,Nv a,Nv y,.string st,vx,vz]))(I:PE w Q x vx)(hz:PE w Q z vz):
 aa qv 248 #[Pv c.eb,Mv kb,Mv gb,.agg #[Nv f,Nv t,.bool rc,Nv a,Nv y,.string st,vx,vz]] w (aZ c (1100*nn (.mk K st n [x,z] f t a)) (1000*nn (.mk K st n [x,z] f t a)) (ja c.mks (.mk K st n [x,z] f t a) Γ) s cnt w):=by
 have en:nn (.mk K st n [x,z] f t a)=1+nn x+nn z:=Lq;have ei:ja c.mks (.mk K st n [x,z] f t a) Γ=jf (jk rc st x (ja c.mks x) Γ) λt=>λs1=>ja c.mks z (jd Γ st<|jp (lI rc st Γ) s1.k t<|jo x) s1:=by rw[hK];exact LH _ _ _ _ _ _ _ _ _ _
 have C0:=ai<|Cl.refl c (1100*(1+nn x+nn z)) (1000*(1+nn x+nn z)) (ja c.mks (.mk K st n [x,z] f t a) Γ) s cnt w;rw[ei]at C0;rw[en,ei];obtain⟨Z,sx,sz⟩:st∈c.nl/\ScE c.mks c.nl (λv=>dom v\/(rc=la/\v=st)) x/\ScE c.mks c.nl (λv=>dom v\/v=st) z:=by
  have⟨j,I,hz⟩:=h.sc.adV (by cases rc<;>simp[hK]);have e:(λv=>dom v\/(K=11/\v=st))=(λv=>dom v\/(rc=la/\v=st)):=by cases rc<;>simp[hK]
  rw[e]at I;exact⟨j,I,hz⟩
 have⟨k0,B0⟩:=nbh w #[Nv f,Nv t,.bool rc,Nv a,Nv y,Sv st,vx,vz] 241;have bd:BdA rc st x c w cnt s kb Λ Γ gb Q dom vx:=⟨h.we,h.wk,h.hn,h.wg,I,h.hq,sx,h.hd,h.ft.le DH DH,h.mf,Z⟩;have H1:=Gz (a:=a) (y:=y) Hx<|bd.af k0;have zc:=h.we.dE;have c0:=h.ft.a;have d0:=h.ft.b;rw[en]at c0 d0;have HA:=ai h;have HX:=ai I;have HZ:=ai hz;have K0:=ai k0;obtain⟨tx,ax,rfl⟩:=I.iface;obtain⟨tz,az,rfl⟩:=hz.iface;clear h I hz k0 bd Hx ei;go_in;go_wp;refine H1.mono ?_;intro e w1 J;clear H1;obtain⟨al,zz,vl,vr,rfl,j⟩|⟨al,T1,s1,e0,f0,N,rfl,j⟩:=J.split
 .clear J
  go_wp2
  exact⟨rfl,j.post (xh K0) ae⟩
 have h:=uh HA;have O:=(xh (S:=λi=>i=c.cb) K0).trans j.F;have⟨o,R⟩:=L6 j h.wk h.hn h.wg;have c1:=j.c1;have c2:=j.c2;have C1:=C0.and j.m O j.c1 j.u (D2:=1000*nn z) ae;have E:=h.wg.fr O o.p.run;have px:=HX.move (Q:=Q) O.size (λb p z=>O.block b z<|h.hq b p)<|λ_ p _=>p;have pz:=HZ.move (Q:=Q) O.size (λb p z=>O.block b z<|h.hq b p)<|λ_ p _=>p;have z1:=j.we.dE;have⟨se,sn⟩:=In.xI o.k.ok o.n E.i R rc st<|jo x;have HS:∀W:ca,Bq w1 W->aa qv 263 #[Mv N,Mv gb,Av #[.bool rc,Nv a,Nv y,Sv st,Fv tx<|Av ax],Fv e0 f0] W (SoP c (jp (lI rc st Γ) s1.k T1<|jo x) W):=λW hb=>LI (j.we.af hb) (o.k.af hb) (E.af hb) (px.af hb) (S:=1100*(1+nn x)) ae (j.t.af hb) R ae h.ft.l;obtain⟨d,Y⟩:∃d,d=jp (lI rc st Γ) s1.k T1 (jo x):=⟨_,rfl⟩;have a0:d.any.Nodup:=by rw[Y];exact SV _ _ _ _
 rw[<-Y]at HS;have h0:∀(W:ca)(u:ea),Bq w1 W->nL W (dF c) d u->aa qv 226 #[Mv gb,Sv st,u] W (pd (dF c) (jd Γ st d) W):=λW u hb hu=>xE (E.e.af hb) st hu;have i0:∀(W:ca)(b:Nat),Bq w1 W->w1.heap.size<=b->bW W (dF c) b (jd Γ st d)->aa qv 230 #[Pv c.eb,Mv N,Mv b,Fv tz<|Av az] W (aZ c (1100*nn z) (1000*nn z) (ja c.mks z<|jd Γ st d) s1 al W):=λW b hb hzb he=>
  Hz c W al s1 N (In.less Λ d.any) _ b Q _ _ ⟨j.we.af hb,o.k.af hb,by rw[Y];exact sn,⟨he,ae,by rw[Y];exact se,λy d' q=>by
   rw[jd]at q;split at q
   .injection q with q;rw[<-q];exact a0
   .exact h.wg.nd y d' q,λy q=>by
   rw[jd]at q;split at q
   .rename_i e;rw[e];exact Z
   .exact h.wg.dm y q⟩,pz.af hb,h.hq,sz,DI h.hd,h.ft.le DH DH,h.mf⟩
 have CE:∀e w',aZ c (1100*(1+nn x+nn z)) (1000*nn z) (ja c.mks z<|jd Γ st d) s1 al w1 e w'->aZ c (1100*(1+nn x+nn z)) (1000*(1+nn x+nn z)) (jf (jk rc st x (ja c.mks x) Γ) λt=>λs1=>ja c.mks z (jd Γ st<|jp (lI rc st Γ) s1.k t<|jo x) s1) s cnt w e w':=λe w' hh=>C1 e w' (by rw[Y]at hh;exact hh);have B1:=ai<|B0.fr j.F ae;clear h O j o R J B0 C0 C1 E px pz se sn Y a0 HA HX HZ Hz K0;have⟨b1,b2,b3⟩:=uh B1
 go_wp2
 go_region_with(first
  |(go_at_call 263;go_loud(refine(HS _ (qx _ _).drew).mono ?_);rintro e w4⟨u4,rfl,h4,k4⟩;have U:Hid (Bq w1 w4):=ai<|(qx _ _).drew.trans k4;have⟨d1,d2,d3⟩:=B1.below U;have S4:=ai h4;clear k4 h4)
  |(go_at_call 226;go_loud(refine(h0 _ _ U S4).mono ?_);rintro e w5⟨b5,rfl,z5,h5,k5⟩;have K5:Hid (Bq w1 w5):=ai<|U.trans<|k5.mono U.size;have⟨g1,g2,g3⟩:=B1.below K5;have E5:=ai h5;have Z5:=ai<|qy U.size z5;clear k5 h5 z5)
  |(go_at_call 230;go_loud(refine(i0 _ _ K5 Z5 E5).mono ?_);intro e w6 J;have U:=CE _ _<|J.wide (S':=1100*(1+nn x+nn z)) (D':=1000*nn z) ae (br _) K5;obtain⟨b0,zz,vl,vr,rfl,q6⟩|⟨b0,T6,s6,VB,VC,Vd,rfl,q6⟩:=J.split;go_loud(exact⟨rfl,U⟩);have j0:=ai U;clear J U q6))
 all_goals
  go_wp2
  go_ret2;exact j0
end
section
variable {c:WC} {cnt:Nat}
def Bz.self(h:Bz nd c w cnt s kb Λ Γ gb Q dom v)(i:Bq w W):Bz nd c W cnt s kb Λ Γ gb Q dom v:=h.part i h.pe h.sc<|br _
def lU(mk:jt)k s n f t a(Γ:jj)K(h:(k=3/\K=t_)\/(k=4/\K=lV)\/(k=5/\K=kQ)):ja mk (.mk k s n [] f t a) Γ=jl (.aM K []):=by
 obtain⟨rfl,rfl⟩|⟨rfl,rfl⟩|⟨rfl,rfl⟩:=h<;>simp[ja,In.ls]
def hH k s n f t a:nn (.mk k s n [] f t a)=1:=qBi
end
def Wa:∀(k:Nat)(nd:Nd),nn nd<=k->AP nd:=by
 intro k
 induction k with
 |zero=>intro nd h;cases nd;simp only[nn]at h;omega|succ k ih=>
  intro nd hk c w cnt s kb Λ Γ gb Q dom v h;have N:=h.pe
  cases N with
  |low st n f t a hs=>exact Wb h|up st n f t a hs=>exact aa7 h|num st n f t a=>
   rw[lU c.mks 3 st n f t a Γ t_<|qu ⟨rfl,rfl⟩,hH];exact(Wc h.we h.wk ae).1 _
  |word st n f t a hs=>
   rw[lU c.mks 4 st n f t a Γ lV<|qt<|qu ⟨rfl,rfl⟩,hH];exact(Wc h.we h.wk ae).2.1 _
  |unit st n f t a=>
   rw[lU c.mks 5 st n f t a Γ kQ<|qt<|qt ⟨rfl,rfl⟩,hH];exact(Wc h.we h.wk ae).2.2
  |pr st n x y f t a vx vy hx hy=>
   have j:nn x<=k/\nn y<=k:=Bw;obtain⟨E,F,rfl⟩:=hx.iface;obtain⟨I,J,rfl⟩:=hy.iface;exact GB.1 λW hb=>aaT (ih x j.1) (ih y j.2) (h.self hb) (hx.af hb)<|hy.af hb
  |of st n x y f t a vx vy hx hy=>
   have j:nn x<=k/\nn y<=k:=Bw;obtain⟨E,F,rfl⟩:=hx.iface;obtain⟨I,J,rfl⟩:=hy.dI;exact GB.2.1 λW hb=>We (ih x j.1) (h.self hb) (hx.af hb)<|hy.af hb
  |op st n x y f t a vx vy hs hx hy=>
   have j:nn x<=k/\nn y<=k:=Bw;obtain⟨E,F,rfl⟩:=hx.iface;obtain⟨I,J,rfl⟩:=hy.iface;exact GB.2.2.2.2.2.2.2 λW hb=>Su (ih x j.1) (ih y j.2) (h.self hb) (hx.af hb) (hy.af hb) hs
  |call st n x y f t a vx vy hx hy=>
   have j:nn x<=k/\nn y<=k:=Bw;obtain⟨E,F,rfl⟩:=hx.iface;obtain⟨I,J,rfl⟩:=hy.iface;exact GB.2.2.1 λW hb=>aaR (ih x j.1) (ih y j.2) (h.self hb) (hx.af hb)<|hy.af hb
  |fn st n x f t a y vx hs hy hx=>
   have j:nn x<=k:=Bw;obtain⟨E,F,rfl⟩:=hx.iface;exact GB.2.2.2.1 λW hb=>ago (ih x j) (h.self hb)<|hx.af hb
  |lt K st n x z f t a y vx vz hc hs hy hx hz=>
   have j:nn x<=k/\nn z<=k:=Bw;obtain⟨E,F,rfl⟩:=hx.iface;obtain⟨O,R,rfl⟩:=hz.iface;have U:K=if(K==11)=la then 11 else 10:=BS;exact GB.2.2.2.2.1 λW hb=>aei (rc:=K==11) U (ih x j.1) (ih z j.2) (h.self hb) (hx.af hb)<|hz.af hb
  |ite st n x y z f t a vx vy vz hx hy hz=>
   have j:nn x<=k/\nn y<=k/\nn z<=k:=Bw;obtain⟨E,F,rfl⟩:=hx.iface;obtain⟨I,J,rfl⟩:=hy.iface;obtain⟨O,R,rfl⟩:=hz.iface;exact GB.2.2.2.2.2.1 λW hb=>Ss (ih x j.1) (ih y j.2.1) (ih z j.2.2) (h.self hb) (hx.af hb) (hy.af hb)<|hz.af hb
  |mt st n x A f t a vx g sc vp ve h0 hg hz hc hx N he=>
   have j:nn x<=k/\cr (aN A)<=k:=Bw;obtain⟨E,F,rfl⟩:=hx.iface
   exact GB.2.2.2.2.2.2.1 λW hb=>ad0 (ih x j.1) (λi hi=>ih _ (by have:=rO A i hi;omega)) (h.self hb) hg (q9 hz hb.size) (λi hi=>by
    have I:∀o,W.cell? ⟨g,o,ka⟩=w.cell? ⟨g,o,ka⟩:=λo=>xi (a:=⟨g,o,ka⟩)<|hb.block g hz;simp only[I]
    exact hc i hi) (hx.af hb) (λi hi=>(N i hi).af hb) (λi hi=>(he i hi).af hb)
def aa8 nd:AP nd:=Wa _ nd<|br _
def GC{P:Program}(o:fn.results=#[.tmp 4,.cell 5 107])(T:Array ea)(i:Nat)(v:ea)(h:i≠4/\i≠5):results fn (T.setIfInBounds i v)=results fn T:=by
 have e:∀j,j≠i->(T.setIfInBounds i v).getD j undef=T.getD j undef:=λj hj=>by
  simp only[Array.getD_eq_getD_getElem?,Array.getElem?_setIfInBounds_ne<|xq hj]
 unfold results;rw[o];simp only[Array.mapM_eq_mapM_toList,List.mapM_cons,List.mapM_nil,e 4<|xq h.1,e 5<|xq h.2]
def L7(N:fn.results=#[.tmp 4,.cell 5 107])T i v(h:i≠4/\i≠5)R:∀(ds:List Deferred)(u:FrameMode)(w:ca),Leaves P fn (T.setIfInBounds i v) R ds u w->Leaves P fn T R ds u w:=by
 intro ds
 induction ds with
 |nil=>
  intro u w q
  cases u with
  |returning=>simp only[Leaves]at q⊢;rw[GC (P:=P) N T i v h]at q;exact q|panicking c=>exact q|run=>exact q
 |cons d ds ih=>
  intro u w q;simp only[Leaves]at q⊢;obtain⟨F,I,o,f,j,q2,J,K⟩:=q;refine⟨F,I,o,f,j,q2,J,K.mono ?_⟩;intro e u' w' E
  cases e with
  |returned v=>exact ih _ _ E|panicked c=>exact ih _ _ E|outgrown=>exact E
def SW(j:fn.results=#[.tmp 4,.cell 5 107]){K}{R}{i}(h:i≠4/\i≠5)v c a w(q:(Exit.then K<|bodyPostD P fn R) (.panic c) (a.put (ia i) v) w):(Exit.then K<|bodyPostD P fn R) (.panic c) a w:=L7 j a.tmps i v h R a.defers _ w q
section
variable {c:WC} {cnt:Nat} {u:Nat->Prop}
def ol{ops}{Q}{md}{S}{oi}{fuel}{listed}{a}{w}i(h:wpAnyH P md ops Q S fuel (listed.setIfInBounds i la) (a.put oi.dst v) w)(j:ops[i]? =ia oi:=by rfl)(o:Region.noSelect ops=la:=by kernel_rfl)(E:Region.free md ops listed i=la:=by kernel_rfl)(F:(Region.ready md ops listed).contains i=la:=by kernel_rfl)(I:YieldsIf P ops S oi v a:=by exact .inl ⟨by rfl,by intro w hSw;(try dsimp only at hSw);go_simp;try with_reducible rfl⟩)(J:∀c a w,Q (.panic c) (a.put oi.dst v) w->Q (.panic c) a w:=by exact λc a w q=>SW aij aD _ c a w q)(K:S w:=by assumption):wpAnyH P md ops Q S (fuel+1) listed a w:=wpAnyH_take j o E F J I K h
def OL{p:Prop}(h:p:=by
 go_wp2_with fail;have nm:=NM5.below KW;have fb:=FB5.below KW;have we:=WE5.af KW;have env:=aik.af KW;have tt:dq wz (λi=>i≠c.cb/\i≠c.eb/\i≠w.heap.size+1) T (Fv tz xz):=((TZ.not (we.bx.c 0) ag).not (fb.c 0) ag).wide λi p=>⟨p.1.1,p.1.2,p.2⟩;have HVA:Hid (∀W':ca,Bq wz W'->aa qv 227 #[Fv tz xz] W' (λe w'=>∃sa sc,e=Rv (Lv sa (vars [] T).length sc)/\qL w' (λi=>i≠c.cb/\i≠c.eb/\i≠w.heap.size+1) sa (vars [] T)/\Bq W' w')):=ai λW' hb=>by
  refine(fI (tt.af hb) ae).mono ?_;rintro e w'⟨V,rfl,ho,k⟩;obtain⟨sa,sc,rfl,hr⟩:=GD ho;exact⟨sa,sc,rfl,hr.move (br _) (λ_ _ _=>rfl) (λi p _=>by have:=hb.size;have:=KW.size;have:=FB5.z;omega),k⟩
 have HWI:Hid (∀(W':ca)(sa:Option Addr)(sc:Nat),Bq wz W'->qL W' (λi=>i≠c.cb/\i≠c.eb/\i≠w.heap.size+1) sa (vars [] T)->aa qv 226 #[Mv c.nb,Sv st,Av #[Fv tz xz,Lv sa (vars [] T).length sc]] W' (pd (λi=>i≠c.cb/\i≠c.eb/\i≠w.heap.size+1) (jd Γ st ⟨T,vars [] T⟩) W')):=ai λW' sa sc hb hr=>xE (env.af hb) st ⟨tz,xz,sa,sc,rfl,TW.of (tt.af hb) hTw<|show size T<=_ by omega,hr⟩;have f0:wz.cell? ⟨c.eb,3,ka⟩=ia (Mv c.nb):=we.bx.c 3;have f1:wz.cell? ⟨w.heap.size,3,ka⟩=ia (Sv st):=nm.c 3;have NM:=ai nm;have FB:=ai fb;have WEW:=ai we;have TT:=ai tt;clear nm fb we env tt;refine wp_region_noPanic ?_
 go_region_with(first
  |(go_at_call 227;go_loud(refine(HVA _ (qx _ _).drew).mono ?_);rintro e w6⟨sa,sc,rfl,hr6,k6⟩;have k6':=(qx _ _).drew.trans k6;have g0:w6.cell? ⟨c.eb,3,ka⟩=ia (Mv c.nb):=(WEW.af k6').bx.c 3;have g1:w6.cell? ⟨w.heap.size,3,ka⟩=ia (Sv st):=(NM.below k6').c 3;have K6:=ai k6';have R6:=ai hr6;clear k6 k6' hr6)
  |(go_at_call 226;go_loud(refine(HWI _ _ _ K6 R6).mono ?_);rintro e w7⟨b7,rfl,z7,h7,k7⟩;have k7':=K6.trans<|k7.mono K6.size;have g2:w7.cell? ⟨c.eb,3,ka⟩=ia (Mv c.nb):=(WEW.af k7').bx.c 3;have g3:w7.cell? ⟨w.heap.size,3,ka⟩=ia (Sv st):=(NM.below k7').c 3;have g4:w7.frozen? ⟨c.eb,3,ka⟩=na:=(WEW.af k7').bx.f 3;have K7:=ai k7';have E7:=ai h7;have Z7:=ai z7;clear k7 k7' h7 z7))
 all_goals(
  refine NoPanic.normal ?_;have fb7:=FB.below K7;have FB7:=ai fb7;obtain⟨y1,y2,y3⟩:=fb7;go_wp2_with fail;have z7:=uh Z7;have z6:=K6.size;have zw:=FB.z;have l5:=HA.wt.we.l.2.2.2.2;have F8:=(FB7.bU (b2:=c.eb) ae 3<|Mv b7).OM rfl (Iv 0) (Iv 0) (Iv 0) Zv .nilIface;have we7:=WEW.af K7;have E8:=(((((we7.bx.aW 3 (Mv b7) (ad1 {c with nb:=b7}) rfl ag).bU (b2:=w.heap.size+1) ae 0 (Iv 0)).bU (b2:=w.heap.size+1) ae 1 (Iv 0)).bU (b2:=w.heap.size+1) ae 2 (Iv 0)).bU (b2:=w.heap.size+1) ae 3 Zv).bU (b2:=w.heap.size+1) ae 4 .nilIface;have G8:=((((((Fr.refl (λi=>i=c.eb\/i=w.heap.size+1) w7).set (b:=c.eb) (qu<|qu rfl) 3<|Mv b7).set (b:=w.heap.size+1) (qu<|qt rfl) 0<|Iv 0).set (b:=w.heap.size+1) (qu<|qt rfl) 1<|Iv 0).set (b:=w.heap.size+1) (qu<|qt rfl) 2<|Iv 0).set (b:=w.heap.size+1) (qu<|qt rfl) 3 Zv).set (b:=w.heap.size+1) (qu<|qt rfl) 4 .nilIface;refine leaves_cons (f:=219) (args:=#[Pv<|w.heap.size+1]) ag qBb ?_;refine(aa9<|w.heap.size+1).mono ?_;rintro e u' w9⟨rfl,rfl,rfl⟩;obtain⟨c9,_,_⟩:=F8;simp[Leaves,settle,results,qw,go_sem,c9];have k7:=uh K7;have FW:=ail.trans<|xh KW
  refine⟨((FW.fU λ_ r=>qu r).trans<|xh k7).gR G8<|λi r=>r.elim (λr=>qu<|qt r)<|λr=>qt ae,.ok (T1,s1),Q2.m,qt ⟨hs,T,tz,xz,al,b7,HVT,rfl,(TT.af k7).move G8.size (λb p z=>G8.block b z<|λr=>r.elim p.2.1 p.2.2)<|λb p _=>p.1,hTw,ae,?_⟩⟩
  exact⟨we7.put (G8.fU λi r=>r.imp id λr=>ae) E8,E7.move G8.size (G8.block _ E7.lt ae) (λb p z=>G8.block b z<|λr=>r.elim p.2.1 p.2.2)<|λb p _=>⟨p.1,p.2.1⟩,⟨by show b7≠c.cb;omega,by show b7≠c.eb;omega⟩,us2,TOP T HVT,DM _⟩)):p:=h
def aej(h:LtA rc st x c w cnt u Γ Q dom v):
 aa qv 217 #[Pv c.eb,.agg #[.bool rc,Nv a,Nv y,.string st,v]] w (VG c cnt u Γ rc st a y x w):=by
 obtain⟨tx,ax,rfl⟩:=h.pe.iface;obtain⟨w0,I⟩:∃w0,w0=(w.alloc<|Cv #[.bool rc,Nv a,Nv y,Sv st,Fv tx<|Av ax] 101).alloc (Cv Ls 107):=⟨_,rfl⟩;have k0:Bq w w0:=by rw[I];exact(bw _).alloc ag _
 have B0:Bx w0 w.heap.size #[.bool rc,Nv a,Nv y,Sv st,Fv tx<|Av ax]:=by rw[I];exact(Bx.new w #[.bool rc,Nv a,Nv y,Sv st,Fv tx<|Av ax] 101).alloc (Cv Ls 107)
 have d0:=h.wt.we.af k0;have f0:w0.cell? ⟨c.eb,3,ka⟩=ia (Mv c.nb):=d0.bx.c 3;have f1:w0.cell? ⟨w.heap.size,0,ka⟩=ia (.bool rc):=B0.c 0;have f2:=B0.c 1;have f3:=B0.c 2;have f4:=B0.c 3;have f5:=B0.c 4;have k1:Bq w0 (w0.alloc<|.map #[] 0).drew:=(bw _).drew;have e0:=d0.af k1;have E:=B0.below k1;have O:=k0.trans<|k1.mono k0.size;have zc:=h.wt.we.dE;have ze:=h.wt.we.bx.z;have A0:w0.heap.size=w.heap.size+2:=by rw[I];simp
 have h0:Bx (w0.alloc<|.map #[] 0).drew (w.heap.size+1) Ls:=by
  have q:Bx w0 (w.heap.size+1) Ls:=by
   rw[I];have:=Bx.new (w.alloc<|Cv #[.bool rc,Nv a,Nv y,Sv st,Fv tx<|Av ax] 101) Ls 107;simpa using this
  exact q.below k1
 have g0:=e0.bx.c 3;have g1:=E.c 0;have g2:=E.c 1;have g3:=E.c 2;have g4:=E.c 3;have g5:=E.c 4;have GS:=xg g0<|xg g1<|xg g2<|xg g3<|xg g4 g5;have KE:KW (w0.alloc<|.map #[] 0).drew (dF c) w0.heap.size xm:=⟨λ_=>ka,(fA.new w0<|dF c).af (qx _ _).drew,λn=>⟨λ_=>rfl,λq=>absurd rfl q⟩⟩;have p0:WK (w0.alloc<|.map #[] 0).drew c cnt ⟨xm,u⟩ w0.heap.size:=⟨KE,ae,h.wt.hu,j8 u,λn=>trivial⟩;have q0:WG (w0.alloc<|.map #[] 0).drew c ⟨xm,u⟩ (λn=>¬u n) Γ c.nb:=⟨(h.wt.e.af O).wide λi p=>p.1,h.wt.n.1,h.wt.top.env,λy d q=>by rw[(h.wt.top y d q).1];exact dO _ qs,h.wt.dm⟩;have j:=Gz (a:=a) (y:=y) (aa8 x) (⟨e0,p0,λn q=>q,q0,h.pe.af O,λb q=>(h.hq b q).1,h.sc,h.hd,h.ft,h.mf,h.LS⟩:BdA rc st x c _ cnt ⟨xm,u⟩ w0.heap.size (λn=>¬u n) Γ c.nb Q dom (Fv tx<|Av ax));rw[A0]at j;have HA:=ai h;clear k0 k1 d0 e0 B0 KE p0 q0 g0 g1 g2 g3 g4 g5 h;have aij:Tryz.f217.results=#[.tmp 4,.cell 5 107]:=rfl
 go_enter_defers Tryz.func217,Tryz.ntmps217
 go_wp2_with fail;rw[<-I];clear I;refine wp_region_held_drew (S:=λw'=>w'.cell? ⟨c.eb,3,ka⟩=ia (Mv c.nb)/\w'.cell? ⟨w.heap.size,0,ka⟩=ia (.bool rc)/\w'.cell? ⟨w.heap.size,1,ka⟩=ia (Nv a)/\w'.cell? ⟨w.heap.size,2,ka⟩=ia (Nv y)/\w'.cell? ⟨w.heap.size,3,ka⟩=ia (Sv st)/\w'.cell? ⟨w.heap.size,4,ka⟩=ia (Fv tx<|Av ax)) qkr ⟨f0,f1,f2,f3,f4,f5⟩<|λhHeld=>?_;refine ol 0 ?_;try simp only[xn,ql,qm,qn]
 refine ol 2 ?_;try simp only[xn,ql,qm,qn]
 refine ol 3 ?_;try simp only[xn,ql,qm,qn]
 refine ol 4 ?_;try simp only[xn,ql,qm,qn]
 refine ol 5 ?_;try simp only[xn,ql,qm,qn]
 refine ol 6 ?_;try simp only[xn,ql,qm,qn]
 refine wpAnyH_ready (rs:=[1]) qkr ag ?_;refine AllReadyH.cons rfl (λK hK=>?_) AllReadyH.nil;go_simp;refine hK.out _ _ GS<|λaek=>?_;clear hK K hHeld f0 f1 f2 f3 f4 f5;refine wpAnyH_ready (rs:=[7]) qkr ag ?_;refine AllReadyH.cons rfl (λK hK=>?_) AllReadyH.nil;go_simp;refine j.mono ?_;intro e w2 hp;clear j aek GS;obtain⟨al,z,vl,vr,rfl,q⟩|⟨al,T1,s1,ta1,xa1,C0,rfl,q⟩:=hp.split
 .clear hK;have j:=h0.fr q.F ae;refine leaves_cons (f:=219) (args:=#[Pv<|w.heap.size+1]) ag qBb ?_;refine(BT (w.heap.size+1) j z.f vl vr q.f.hv).mono ?_;rintro e u' w9⟨rfl,rfl,hB,hF⟩;obtain⟨c9,_,_⟩:=hB;simp[Leaves,settle,results,qw,go_sem,c9];exact⟨(((xh O).trans<|q.F.fU λ_ r=>qu r)).gR hF<|λi r=>qt ae,.error z,q.m,vl,vr,rfl,q.f.one (j.c 0) ag hF⟩
 have h:=uh HA;have j:=E.fr q.F ae;refine hK.out _ _ ⟨q.we.bx.c 3,j.c 0,j.c 1,j.c 2,j.c 3,j.c 4⟩<|λael=>?_;clear hK K;refine ol 8 ?_;try simp only[xn,ql,qm,qn]
 refine ol 9 ?_;try simp only[xn,ql,qm,qn]
 refine ol 10 ?_;try simp only[xn,ql,qm,qn]
 refine ol 11 ?_;try simp only[xn,ql,qm,qn]
 refine ol 12 ?_;try simp only[xn,ql,qm,qn]
 refine wpAnyH_done qkr ?_ _;clear ael;have R:=h0.fr q.F ae;have⟨U,r0⟩:=qf rc st x (qj c.mks x) Γ ⟨xm,u⟩ (λn=>¬u n) (j8 u) (λn r=>r) h.wt.top.env T1 s1 q.m;have c1:=q.c1;have c2:=q.c2;have fta:=h.ft.a;have ftb:=h.ft.b;have us2:∀n,s1.u n->us al n:=λn p=>by obtain r|r:=q.u n p;have:=h.wt.hu n r;unfold us at*;omega;unfold us;omega
 have Y:WK w2 c al s1 C0:=⟨q.k,q.n,us2,U.ok,q.wh⟩;have hf:=Y.Dq ae<|qt trivial;have HO:=tP Y.k Y.n hf ae q.t;have t0:=q.t.Wg hf ae;have i0:=cu _ q.t.wh λn _=>q.wh n;have Q2:=ai q;have Z:=((xh O).trans q.F);have zc2:=q.we.dE;have zq2:=R.z;clear hp q h Y hf h0 E;go_wp2_with fail;refine HO.mono ?_;rintro e w3⟨u3,rfl,a0,K3⟩;clear HO;have HS:=pw _ w3 _ _ a0 t0;obtain⟨n1,j0⟩:∃n,n=sz (bJ<|sub s1.k T1):=⟨_,rfl⟩;rw[<-j0]at HS;have E1:=DK (sub s1.k T1) i0;rw[<-j0]at E1;obtain⟨t3,x3,rfl⟩:=a0.iface;have U3:=a0.wide (Q:=dF c) λi p=>by obtain p|p:=p;exact p;show i≠c.cb;omega
 clear a0 j0;go_wp2_with fail;refine HS.mono ?_;rintro e w4⟨rfl,k4⟩;clear HS;have K4:=K3.trans<|k4.mono K3.size;have U4:=U3.af k4;clear k4 K3 U3;by_cases b0:48<n1
 .have hm:=kK b0;have HT:=mO (w:=w4) (a:Int) (y:Int);have⟨b1,b2,b3⟩:=j.below K4;go_wp2_with fail;refine HT.mono ?_;rintro e J⟨rfl,k5⟩;have N:=K4.trans<|k5.mono K4.size;have F5:=R.below N;clear HT b1 b2 b3;go_wp2_with fail;refine leaves_cons (f:=219) (args:=#[Pv<|w.heap.size+1]) ag qBb ?_;refine(BT (w.heap.size+1) F5 ⟨7,a,y⟩ Zv Zv<|qu ⟨rfl,rfl⟩).mono ?_;rintro e u' w9⟨rfl,rfl,hB,hF⟩;obtain⟨c9,_,_⟩:=hB;simp[Leaves,settle,results,qw,go_sem,c9];exact⟨(((Z.fU λ_ r=>qu r).trans<|xh N)).gR hF<|λi r=>qt ae,.ok (T1,s1),Q2.m,qu ⟨E1.1.1 b0,rfl⟩⟩
 have hm:¬(48:Int)<(n1:Int):=ae;have hs:size (sub s1.k T1)<=48:=by have:=E1.1;omega
 have u0:=E1.2 hs;rw[u0]at U4;clear u0 E1 t0;have v0:=i0;have h:=uh HA;have l0:=Z.trans<|xh K4;have HV:=pf x w4 Q _<|h.pe.move l0.size (λb p z=>l0.block b z (h.hq b p).1)<|λ_ p _=>p;have⟨b1,b2,b3⟩:=j.below K4;clear h l0;go_wp2_with fail;refine HV.mono ?_;rintro e J⟨rfl,k5⟩;have K5:=K4.trans<|k5.mono K4.size;have U5:=ai<|U4.af k5;clear HV k5 b1 b2 b3 U4 K4;have h:=uh HA;have N:=Z.trans<|xh K5;have x0:=Q2.we.af K5;have y0:=R.below K5;have z0:=j.below K5;have nee:¬c.eb=w.heap.size:=ae;have neb:¬c.eb=w.heap.size+1:=ae;have c0:bW J (λi=>i≠c.cb/\i≠c.eb/\i≠w.heap.size+1) c.nb Γ:=h.wt.e.move N.size (N.block _ h.wt.e.lt h.wt.n.1) (λb p z=>N.block b z p.1)<|λb p z=>⟨p.1,p.2,ae⟩;have TOP:∀T:Ty,T=(if jo x then sub s1.k T1 else jv (sub s1.k T1))->In.VE ⟨xm,s1.u⟩ (jd Γ st ⟨T,vars [] T⟩):=λT hT y d hd=>by
  unfold jd at hd;split at hd
  .injection hd with hd;subst hd;refine⟨rfl,λv hv=>?_⟩;have hv:=In.aE.1 hv;rw[hT]at hv;split at hv
   .exact⟨(U.ok.nR r0.use hv).1,rfl⟩
   .have⟨m,_,o⟩:=(In.bS _).1 hv;simp[aA,bZ]at o
  .exact⟨(h.wt.top y d hd).1,λv hv=>⟨U.run.mono v ((h.wt.top y d hd).2 v hv).1,rfl⟩⟩
 have DM:∀d z,jd Γ st d z≠ka->z∈c.nl:=λd z hz=>by
  unfold jd at hz;split at hz
  .rename_i e;rw[e];exact h.LS
  .exact h.wt.dm z hz
 have WE5:=ai x0;have FB5:=ai y0;have NM5:=ai z0;have aik:=ai c0;have ail:=ai N;clear h N x0 y0 z0 c0 j R Z U r0 i0
 cases hV:jo x with
 |true=>
  have D0:(Op.unary .not<|.bool la).run qv J=.ok (.bool na) J:=rfl;obtain⟨T,hT⟩:∃T,T=sub s1.k T1:=⟨_,rfl⟩;have HVT:Hid (T=if jo x=la then sub s1.k T1 else jv (sub s1.k T1)):=ai (by rw[hV,hT];rfl);obtain⟨tz,xz,hz⟩:∃tz xz,tz=t3/\xz=x3:=⟨_,_,rfl,rfl⟩;obtain⟨rfl,rfl⟩:=hz;have E0:size T<=48:=by rw[hT];exact hs
  have hTw:Whole T:=by rw[hT];exact v0
  have TZ:Hid (dq J (dF c) T<|Fv tz xz):=by rw[hT];exact U5
  have KW:Hid (Bq J J):=ai<|qx _ _;clear hV hT U5;obtain⟨wz,hz⟩:∃wz,wz=J:=⟨_,rfl⟩;subst hz;exact OL
 |false=>
  have D0:(Op.unary .not<|.bool na).run qv J=.ok (.bool la) J:=rfl;have n0:=BU U5 ae;obtain⟨T,hT⟩:∃T,T=jv (sub s1.k T1):=⟨_,rfl⟩;have HVT:Hid (T=if jo x=la then sub s1.k T1 else jv (sub s1.k T1)):=ai (by rw[hV,hT];rfl);have E0:size T<=48:=by rw[hT,n8];exact hs
  have hTw:Whole T:=by rw[hT];exact cu _ v0 λn _=>yr
  rw[<-hT]at n0;have zc5:=WE5.dE;clear hV hT U5;go_wp2_with fail;refine n0.mono ?_;rintro e wz⟨uc,rfl,o0,kc⟩;clear n0;obtain⟨tz,xz,rfl⟩:=o0.iface;have TZ:Hid (dq wz (dF c) T<|Fv tz xz):=ai (o0.wide λi p=>by show i≠c.cb;have:J.heap.size<=i:=p;omega);have KW:=ai kc;clear o0 kc;exact OL
end
section
variable {c:WC} {cnt:Nat} {u:Nat->Prop} {P:Nat->Prop}
def WT.below(h:WT w c cnt u Γ)(i:Bq w w'):WT w' c cnt u Γ:=⟨h.we.af i,h.e.move i.size (i.block _ h.e.lt) (λb _ z=>i.block b z)<|λ_ p _=>p,h.n,h.hu,h.top,h.dm⟩
def aem(h:bW w P nb Γ)(k:mI w Q mb mks)(q:Γ st=ia d):nb≠mb:=by
 rintro rfl;obtain⟨L,i,h2,j⟩:=h;obtain⟨L',o,k2,E⟩:=k
 cases i.agr o
 cases hg:ba st L with
 |none=>grind|some v=>
  obtain⟨_,_,ta,xa,sa,sc,rfl,_⟩:=j st v hg;have⟨_,_,_,_,_,_,_,e,_⟩:=E st _ hg;simp at e
def qM.all{z}(h:qM w P z vl vr):qM w (λ_=>True) z vl vr:=
 ⟨h.p9,λq=>⟨(h.apart q).1.move (br _) (λ_ _ _=>rfl)<|λ_ _ _=>trivial,(h.apart q).2.move (br _) (λ_ _ _=>rfl)<|λ_ _ _=>trivial⟩,h.k⟩
end
def StW eb lo base nl w cnt(mks:jt)(s:jh)(Γ:jj):=∃(c:WC)(u:Nat->Prop),c.eb=eb/\(lo<=c.cb/\lo<=c.eb/\lo<=c.mb)/\(c.cb<base/\c.eb<base)/\c.mks=mks/\c.nl=nl/\s=⟨xm,u⟩/\c.nb≠c.mb/\WT w c cnt u Γ
def aim(hl:nl.length<=1000000):VW 85 eb lo base la nl (StW eb lo base nl):=by
 refine⟨?_,?_,⟨_,λw=>metW_Makers _ w,λ_ _=>qkr,?_⟩,⟨_,λw=>metW_Let _ w,λ_ _=>qkr,?_⟩⟩
 .rintro w w' cnt mks s Γ⟨c,u,F,i,j,J,K,N,E,h⟩I;exact⟨c,u,F,i,j,J,K,N,E,h.below I⟩
 .rintro w w' cnt mks s Γ b x⟨c,u,F,i,j,J,K,N,E,h⟩I R O f;exact⟨c,u,F,i,j,J,K,N,E,h.other ⟨ae,ae⟩ R O f⟩
 .rintro w cnt mks s Γ t K U f x vv vm⟨c,u,rfl,i,j,rfl,rfl,rfl,E,h⟩Y N R;have⟨Lm,F,_⟩:=id h.we.ms;refine(Sw h Y N R).mono ?_;rintro e w'⟨rfl,J,Z⟩;refine⟨rfl,.of J (λb q=>by subst q;exact i.2.2) (λb y q _ e _=>by subst q;rw[F.bE 0]at e;cases e),?_⟩;exact⟨VO c t K U w'.heap.size,u,rfl,i,j,rfl,rfl,rfl,E,h.VN E J Z⟩
 .rintro w cnt mks s Γ rc st x v a y dom⟨c,u,rfl,i,j,rfl,rfl,rfl,E,h⟩hp hs R U ha I N;refine(aej (Q:=(·<lo)) (a:=a) (y:=y) ⟨h,hp,λb q=>by have:b<lo:=q;omega,hs,R,⟨ha,I,hl⟩,N,U⟩).mono ?_;rintro e w'⟨J,o,O,hq⟩;refine⟨.of J (λb q=>by obtain rfl|rfl:=q;exact i.1;exact i.2.1) (λb z q hz _ _=>by obtain rfl|rfl:=q<;>omega),o,O,?_⟩
  cases o with
  |error z=>
   obtain⟨vl,vr,K,Y⟩:=hq;exact⟨vl,vr,K,Y.all⟩
  |ok p=>
   obtain⟨t,s1⟩:=p;obtain⟨z,K⟩|⟨z,T,ta,xa,F,Z,K,Y,e3,e4,e5,e6⟩:=hq
   .grind
   .refine qt ⟨z,T,ta,xa,F,K,Y,(e3.v e4).move (br _) (λ_ _ _=>rfl)<|λ_ _ _=>trivial,ae,{c with nb:=Z},s1.u,rfl,i,j,rfl,rfl,rfl,aem e6.e e6.we.ms (st:=st) (d:=⟨T,vars [] T⟩)<|by simp[jd],e6⟩
def r8{α:Type}c(p:jc α)g(s:jh)w e w':=∃z vl vr,e=L8 z.f vl vr/\p s (.error z)/\qM w' (λ_=>True) z vl vr/\Fr (jS c g) w w'
def di c nb l D(p:jc Ty)g(s:jh)cnt w e w':=
 (∃n g' s' aR T,e=.returned (nA n)/\p s (.ok (T,s'))/\AJ w' c nb l aR g' s'/\fS l c w g s w' g' s'/\aR<=cnt+D/\mN l g' s' n T)\/r8 c p g s w e w'
structure mP nd c w nb l cnt g(s:jh)(Γ:jj)dom v:Prop where
 aj:AJ w c nb l cnt g s
 en:ch w nb Γ g s
 pe:PE w (λb=>b<c.lo) nd v
 sc:ScE c.mks c.nl dom nd
 hd:∀x,dom x->Γ x≠ka
 fa:cnt+1000*nn nd<=850000
 fb:l+nn nd<=805
 mf:MkFine c.mks
def iW nd:=∀(c:JC)(w:ca)(nb l cnt:Nat)(g:gD)(s:jh)(Γ:jj)(dom:BA->Prop)(v:ea),mP nd c w nb l cnt g s Γ dom v->
 aa qv 298 #[nA c.eb,v] w (di c nb l (1000*nn nd) (ja c.mks nd Γ) g s cnt w)
structure xJ c nb l w0 g0(s0:jh)w g(s:jh)cnt:Prop where
 a:AJ w c nb l cnt g s
 t:fS l c w0 g0 s0 w g s
 z:∃k,AJ w0 c nb l k g0 s0
def qM.wide{P}{x}(h:qM w P x vl vr)(q:∀b,P b->Q b):qM w Q x vl vr:=⟨h.p9,λk=>⟨(h.apart k).1.move (br _) (λ_ _ _=>rfl)<|λb p _=>q b p,(h.apart k).2.move (br _) (λ_ _ _=>rfl)<|λb p _=>q b p⟩,h.k⟩
section
variable {cnt:Nat}
def xJ.refl(a:AJ w c nb l cnt g s):xJ c nb l w g s w g s cnt:=⟨a,.refl a.js c l,_,a⟩
def xJ.next(n:xJ c nb l w0 g0 s0 w g s cnt)(a:AJ w1 c nb l al g1 s1)(t:fS l c w g s w1 g1 s1):xJ c nb l w0 g0 s0 w1 g1 s1 al:=by
 have⟨k,z⟩:=n.z;exact⟨a,n.t.trans z.js n.a.js a.js t,n.z⟩
def xJ.fr(n:xJ c nb l w0 g0 s0 w g s cnt)(f:Fr (jS c g) w w1):Fr (jS c g0) w0 w1:=n.t.fr.trans' f λx q=>by
 obtain q|q|q:=q
 .omega
 .omega
 .exact(n.t.nw x q).imp (λz=>qt<|qt z) id
def xJ.af(n:xJ c nb l w0 g0 s0 w g s cnt)(k:Bq w w1):xJ c nb l w0 g0 s0 w1 g s cnt:=n.next (n.a.af k) {fS.refl n.a.js c l with fr:=xh k}
def xJ.bad{p:jc α}{q:jc β}(n:xJ c nb l w0 g0 s0 w g s cnt)(b:r8 c p g s w e w')(F:∀z,p s (.error z)->q s0 (.error z)):r8 c q g0 s0 w0 e w':=by
 obtain⟨z,vl,vr,i,j,o,E⟩:=b;exact⟨z,vl,vr,i,F z j,o,n.fr E⟩
def xJ.bx(n:xJ c nb l w0 g0 s0 w g s cnt)(h:Bx w0 b C)(i:¬jS c g0 b):Bx w b C:=h.fr n.t.fr i
def AJ.iM(a:AJ w c nb l cnt g s)(hb:w.heap.size<=b):¬jS c g b:=by
 have h1:=a.je.ct.z;have h2:=a.je.bx.z;rintro(q|q|q)
 .omega
 .omega
 .have:=a.js.lt q;omega
def AJ.Wh(a:AJ w c nb l cnt g s)(hb:b<c.lo):¬jS c g b:=by
 have h1:=a.je.z;rintro(q|q|q)
 .omega
 .omega
 .have:=a.lo b q;omega
def xJ.pe(n:xJ c nb l w0 g0 s0 w g s cnt)(h:PE w0 (λb=>b<c.lo) x u):PE w (λb=>b<c.lo) x u:=by
 have⟨k,z⟩:=n.z;exact h.move n.t.fr.size (λb p q=>n.t.fr.block b q<|z.Wh p)<|λ_ p _=>p
def mP.part(h:mP nd c w0 nb l cnt0 g0 s0 Γ dom v)(n:xJ c nb l w0 g0 s0 w g s cnt)(i:PE w0 (λb=>b<c.lo) x u)(j:ScE c.mks c.nl dom x)(hz:cnt+1000*nn x<=cnt0+1000*nn nd)(hx:nn x<=nn nd):mP x c w nb l cnt g s Γ dom u:=
 have:=h.fa;have:=h.fb
 ⟨n.a,h.en.e8 Wi h.aj n.a.js n.t,n.pe i,j,h.hd,ae,ae,h.mf⟩
def mP.up(h:mP nd c w nb l cnt g s Γ dom v)(k:Bq w w1):mP nd c w1 nb l cnt g s Γ dom v:=⟨h.aj.af k,h.en.af k,h.pe.af k,h.sc,h.hd,h.fa,h.fb,h.mf⟩
def di.up{p:jc Ty}(h:di c nb l D p g s cnt w1 e w')(k:Bq w w1):di c nb l D p g s cnt w e w':=by
 obtain⟨n,I,J,i,T,o,E,F,j,K,N⟩|⟨z,vl,vr,o,E,F,j⟩:=h
 .exact qu ⟨n,I,J,i,T,o,E,F,{j with nw:=λm hm=>(j.nw m hm).imp id<|qy k.size,fr:=(xh k).trans j.fr},K,N⟩
 .exact qt ⟨z,vl,vr,o,E,F,(xh k).trans j⟩
def di.ok{p:jc Ty}(n:xJ c nb l w0 g0 s0 w g s cnt)(i:p s0 (.ok (T,s)))(r:mN l g s m T)(hc:cnt<=cnt0+D):di c nb l D p g0 s0 cnt0 w0 (.returned<|nA m) w:=qu ⟨m,g,s,cnt,T,rfl,i,n.a,n.t,hc,r⟩
def ain c nb l(p:jc Unit)g(s:jh)cnt w e w':=
 (e=.returned (.tuple #[])/\∃g' s',p s (.ok ((),s'))/\AJ w' c nb l cnt g' s'/\fS l c w g s w' g' s')\/r8 c p g s w e w'
def BV(j:AJ w c nb l cnt g s)(hl:l<aL){x y:Ty}(R:mN l g s a x)(rb:mN l g s b y)f t:
 aa qv 301 #[nA a,nA b,.agg #[Nv f,Nv t]] w (ain c nb l (j7 x y f t) g s cnt w):=by
 refine(Wj j.js R.mem rb.mem R.val rb.val f t).mono ?_;rintro e w'⟨F,⟨rfl,I,J,V',s',U,st,E,Y,mo,K⟩|⟨z,vl,vr,rfl,E,hF⟩⟩
 .have Z:Fr (jS c g) w w':=F.fU λb q=>qt<|qt q;have K:=K (λx=>g.lv x<=l) (λx hx hn q k ps hs p E h hh=>qy (j.js.lc x hx hn k ps hs p E h hh) q) R.lv rb.lv;have N:∀m,m∈g.ds->∀h h',Hd g.nx m h->Hd I m h'->g.lv h=aL->h'=h/\J h=aL:=λm hm h h' k k' e=>by
   have⟨O,q2⟩:=(K m hm h h' k k').1 (by rw[e];unfold aL at*;omega);exact⟨O,q2.trans e⟩
  refine qu ⟨rfl,_,s',E,⟨j.je.fr j.js Z (j.je.bx.fr F<|j.je.yA j.js)<|j.je.ct.fr F<|j.je.yB j.js,U,by rw[Y];exact j.us,λn hn e=>?_,j.lo⟩,⟨st l,λm hm h k e=>?_,λm hm h h' k k' i hi z=>qy (mo m hm h h' k k') z,λm hm=>qu hm,Z,λv=>?_,λn q=>by rw[Y];exact q⟩⟩
  .have⟨h,k⟩:=j.js.gl.hd n hn;have k':Hd I n n:=.here e;obtain q|q:=j.hd hn k
   .grind
   .grind
  .have⟨h',k'⟩:=U.gl.hd m hm;have⟨O,q2⟩:=N m hm h h' k k' e;exact⟨O▸k',q2⟩
  .obtain⟨_,q⟩|⟨_,_,⟨θ,_,q⟩|⟨_,q⟩⟩:=E
   .cases q
   .cases q
    show sub θ (s.k v)=sub (λv=>sub θ<|s.k v) (s.k v);exact sub_congr _ λn o=>by rw[j.js.ok.idem v n o];rfl
   .cases q
 .exact qt ⟨z,vl,vr,rfl,E,hF.wide λ_ _=>trivial,F.fU λb q=>qt<|qt q⟩
def agx c nb l g(s:jh)cnt w(e:ga)w':=∃n g',e=.returned (nA n)/\ju s (.ok (cnt+1,⟨s.k,λm=>s.u m\/m=cnt+1⟩))/\AJ w' c nb l (cnt+1) g' ⟨s.k,λm=>s.u m\/m=cnt+1⟩/\fS l c w g s w' g' ⟨s.k,λm=>s.u m\/m=cnt+1⟩/\mN l g' ⟨s.k,λm=>s.u m\/m=cnt+1⟩ n (.var<|cnt+1)/\g'.str n=ka/\g'.vr n=cnt+1/\g'.nx n=ka
def ua(i:AJ w c nb l cnt g s)(hc:cnt<=1000000):aa qv 299 #[nA c.eb] w (agx c nb l g s cnt w):=by
 refine(og i.je i.js i.us hc).mono ?_;rintro e w'⟨n,rfl,E,I,J,F⟩;have nd:¬n∈g.ds:=λq=>by have:=i.js.lt q;omega
 have o:OR l w.heap.size g s cnt (λ_=>ka) _ _ _ _:=OR.var (v:=0) i.js E nd i.us rfl (λy n' q=>iP);have nx:=(i.js.gl.out n nd).1;have j:¬s.u (cnt+1):=λq=>by have:=i.us _ q;rw[us]at this;omega
 refine⟨n,_,rfl,⟨cnt+1,j,rfl⟩,o.aj i (br _) I J,o.stj i.js (br _)<|F.fU λb q=>qu q,⟨ag,?_,λx k=>?_⟩,Oy,Oy,nx⟩
 .show xt g.V n (.var<|cnt+1) n=s.k (cnt+1);simp[xt,i.js.ok.out _ j]
 .rw[k.one<|.here nx];simp[xt]
def aen(j:AJ w c nb l cnt g s)(hn:w.heap.size<=n){q}{ar}(je:JE w' c nb l cnt)(js:JS w' (g.add n (ia q) 0 ar l T) s)(k:Bq w w'):AJ w' c nb l cnt (g.add n (ia q) 0 ar l T) s/\fS l c w g s w' (g.add n (ia q) 0 ar l T) s/\n∈(g.add n (ia q) 0 ar l T).ds/\(g.add n (ia q) 0 ar l T).V n=T/\∀x,Hd (g.add n (ia q) 0 ar l T).nx n x->(g.add n (ia q) 0 ar l T).lv x<=l:=by
 have nd:¬n∈g.ds:=λq=>by have:=j.js.lt q;omega
 have nx:=(j.js.gl.out n nd).1;refine⟨⟨je,js,j.us,λm hm e=>?_,λm hm=>?_⟩,⟨.add j.js nd rfl (λe=>by cases e),λm hm h hk e=>⟨hk,?_⟩,λm hm h h' hk hk' i _ z=>?_,λm hm=>?_,xh k,λv=>(j.js.ok.qE<|.var v).symm,λ_ q=>q⟩,ag,Oy,λx hx=>?_⟩
 .by_cases z:m=n
  .exact qu (by simp[xt,z])
  .simp only[xt,z,if_false];exact j.lv m ((List.mem_cons.1 hm).resolve_left z) e
 .obtain z|z:=List.mem_cons.1 hm
  .have:=j.je.z;have:=j.je.bx.z;omega
  .exact j.lo m z
 .have z:h≠n:=λz=>nd<|z▸j.js.gl.bN hm hk;simpa[xt,z]using e
 .have hk':=hk';rw[hk'.one hk];have y:h≠n:=λz=>nd<|z▸j.js.gl.bN hm hk;simpa[xt,y]using z
 .grind
 .have hx:=hx;rw[hx.one<|.here nx];simp[xt]
def ac9 k c nb l g(s:jh)cnt x y w(e:ga)w':=∃n g',e=.returned (nA n)/\AJ w' c nb l cnt g' s/\fS l c w g s w' g' s/\mN l g' s n (.aM k [x,y])
def ON{p:Prop}(h:p:=by
 rintro e w'⟨n,ar,rfl,hn,je,js,k⟩;obtain⟨h1,h2,h3,h4,h5⟩:=aen aj hn je js k
 exact⟨n,_,rfl,h1,h2,h3,by rw[h4,ra.val,rb.val];rfl,h5⟩):p:=h
def ac_(aj:AJ w c nb l cnt g s){x y:Ty}(ra:mN l g s a x)(rb:mN l g s b y):aa qv 308 #[nA c.eb,nA a,nA b] w (ac9 rG c nb l g s cnt x y w):=by
 refine(Gt (qu ⟨rfl,rfl⟩) aj.je aj.js ⟨ra.mem,ra.lv⟩ ⟨rb.mem,rb.lv⟩).mono ?_;exact ON
def ada(aj:AJ w c nb l cnt g s){x y:Ty}(ra:mN l g s a x)(rb:mN l g s b y):aa qv 306 #[nA c.eb,nA a,nA b] w (ac9 pq c nb l g s cnt x y w):=by
 refine(Gt (qt ⟨rfl,rfl⟩) aj.je aj.js ⟨ra.mem,ra.lv⟩ ⟨rb.mem,rb.lv⟩).mono ?_;exact ON
def agy c nb l D T g(s:jh)cnt w(e:ga)w':=∃n g' aR,e=.returned (nA n)/\AJ w' c nb l aR g' s/\fS l c w g s w' g' s/\aR<=cnt+D/\mN l g' s n T
def Wk(j:AJ w c nb l cnt g s){v}(Y:eh w Q T v)(Z:∀b,Q b->b≠c.cb)(hs:size T<=1000)(I:∀n,¬aA n T)(hc:cnt+size T<=900000):aa qv 290 #[nA c.eb,v] w (agy c nb l (size T) T g s cnt w):=by
 refine(aa0 j.je j.js j.us Y Z hs I hc).mono ?_;rintro e w'⟨n,J,i,rfl,K,N,o,O,R,U,E,F⟩;exact⟨n,J,i,rfl,o.aj j (br _) K N,o.stj j.js (br _)<|F.fU λb q=>qu q,E,O,by rw[R];exact(qk λn o=>absurd o<|I n).symm,U⟩
end
section
variable {cnt:Nat} {wS:jj}
def GL.fB{ds}{str}{nx}{vr}{ly}{lv}(h:GL w ds str nx vr ly lv)(hs:w.heap.size<=w'.heap.size)(I:∀b p,w.cell? ⟨b,0,ka⟩=ia (.pointer p)->w'.heap[b]? =w.heap[b]?):GL w' ds str nx vr ly lv:=by
 refine⟨λn hn=>?_,h.out,h.hd⟩;have⟨J,o,K⟩:=h.nd n hn;have⟨p,N⟩:=h.qB hn;refine⟨(I n p N).trans J,?_,K⟩
 cases e:str n with
 |none=>trivial|some q=>
  obtain⟨k,O⟩:=q;rw[e]at o;obtain⟨R,q2,U,Y⟩:=o;refine⟨R,q2,U,?_⟩;by_cases j:O=[]
  .exact qu j
  .have⟨E,Z,r2,r3,F⟩:=Y.resolve_left j;have hl:=List.length_pos_iff.2 j;have:=I E _<|F 0 hl;exact qt ⟨E,Z,r2,ae,λi hi=>by rw[<-F i hi];simp only[World.cell?,this]⟩
def AJ.fB{S}(a:AJ w c nb l cnt g s)(f:Fr S w w')(h:∀b,S b->b≠c.rb/\b≠c.mb/\∀o,w.cell? ⟨b,o,ka⟩=ka):AJ w' c nb l cnt g s:=by
 have j:∀{b o v},w.cell? ⟨b,o,ka⟩=ia v->w'.heap[b]? =w.heap[b]? :=λ{b o v}q=>f.block b (iV q) λz=>by rw[(h b z).2.2 o]at q;cases q
 obtain⟨⟨E,F,rs,I,z⟩,i,J,q2,K⟩:=a;have N:=j<|E.c 0;have O:=j<|F.c 0;exact⟨⟨E.same f.size N,F.same f.size O,rs.same<|f.block _ rs.lt λz=>(h _ z).1 rfl,(I.SM (S:=S) λb q a y e=>by rw[(h b q).2.2 0]at e;cases e).move f.size (f.block _ I.lt λz=>(h _ z).2.1 rfl) (λb p y=>f.block b y p.2)<|λ_ p _=>p.1,⟨z.1,z.2.1,qy z.2.2 f.size⟩⟩,⟨i.gl.fB f.size λb p q=>j q,i.mM,i.inj,i.can,i.lc,i.val,i.use,i.ok⟩,J,q2,K⟩
theorem ch.over{nb1}{L L2 L'}(q:∀x,(Γ x=ka/\ba x L=ka)\/∃d m,Γ x=ia d/\ba x L=ia (nA m)/\A9 g s d m)(q2:∀x,(wS x=ka/\ba x L2=ka)\/∃d m,wS x=ia d/\ba x L2=ia (nA m)/\A9 g s d m)(h:MG xk w nb1 L')(e:∀x,ba x L'=match ba x L2 with|some v=>ia v|none=>ba x L):ch w nb1 (jq wS Γ) g s:=by
 refine⟨L',h,λx=>?_⟩;rw[e x];rw[jq];obtain⟨i,j⟩|⟨d,m,i,j,h3⟩:=q2 x
 .grind
 .grind
def py(Hx:iW x)(j:AJ w c nb l cnt g s)(en:ch w nb Γ g s)(O:ch w mb wS g s)(Y:PE w (λb=>b<c.lo) x v)(sc:ScE c.mks c.nl dom x)(hd:∀y,dom y->jq wS Γ y≠ka)(fa:cnt+1000*nn x<=850000)(fb:l+nn x<=805)(mf:MkFine c.mks):
 aa qv 300 #[nA c.eb,Mv mb,v] w (di c nb l (1000*nn x) (ja c.mks x<|jq wS Γ) g s cnt w):=by
 have f3:=j.je.bx.c 3;have ze:=j.je.bx.z;have fU:=j.je.z.2.2;have zr:=j.je.rs.lt;have zm:=j.je.ms.lt;have Z:=O.ac7 j.je;have z2:=O.lt;obtain⟨L,m1,q1⟩:=en;obtain⟨L2,M2,q2⟩:=O;have HC:=Wl m1;have HK:∀w1 w3 L',Bq w w1->w1.heap.size=w.heap.size+1->MG Sv w1 w.heap.size L->MG Sv w3 w.heap.size L'->(∀x,ba x L'=match ba x L2 with|some v=>ia v|none=>ba x L)->Fr (λi=>i=w.heap.size) (w1.setCell ⟨c.eb,3,ka⟩<|Mv w.heap.size) w3->xJ c w.heap.size l w3 g s w3 g s cnt/\fS l c w g s w3 g s/\aa qv 298 #[nA c.eb,v] w3 (di c w.heap.size l (1000*nn x) (ja c.mks x<|jq wS Γ) g s cnt w3):=λw1 w3 L' k1 z1 mc m3 e3 f=>by
  have o:=f_ w1 c.eb 3<|Mv w.heap.size;have E:=((j.af k1).given w.heap.size).fB f λb e=>by
   have I:=mc.one o ae;exact⟨ae,ae,λi=>by rw[e];exact I.bE i⟩
  have F:Fr (jS c g) w w3:=((xh k1).trans<|o.fr<|qt<|qu rfl).gR f λi e=>qt ae;exact⟨.refl E,{fS.refl j.js c l with fr:=F},Hx c w3 w.heap.size l cnt g s _ dom v ⟨E,.over q1 q2 m3 e3,Y.move F.size (λb p q=>F.block b q<|j.Wh p)<|λ_ p _=>p,sc,hd,fa,fb,mf⟩⟩
 obtain⟨tx,ax,rfl⟩:=Y.iface;go_in;go_wp;refine HC.mono ?_;rintro e w1⟨rfl,R,I,Z1⟩;have HD:=aa4 (w:=w1.setCell ⟨c.eb,3,ka⟩<|Mv w.heap.size) (R.one (f_ _ _ _ _) ae) ((M2.af I).one (f_ _ _ _ _) Z) ae;have c1:=(j.je.bx.below I).c;have c2:=(j.je.bx.below I).f;go_wp2_with fail;refine HD.mono ?_;rintro e w3⟨rfl,⟨L',m3,e3⟩,F3⟩;have⟨NX,st,HE⟩:=HK w1 w3 L' I Z1 R m3 e3 F3;have U:=ai st;go_wp2_with fail;refine HE.mono ?_;rintro e w4(⟨n,g4,s4,E,T,rfl,K,J,t4,hc,R4⟩|⟨z,vl,vr,rfl,K,hF,N⟩)
 .have d1:=J.je.bx.c;have d2:=J.je.bx.f;have A5:=J.given nb;have S5:=U.trans j.js NX.a.js J.js t4
  go_wp2
  go_ret;have st:=S5;exact qu ⟨n,g4,s4,E,T,rfl,K,A5,{st with fr:=st.fr.set (qu<|qt<|qu rfl) 3 _},hc,R4⟩
 .have HX:=show r8 c (ja c.mks x<|jq wS Γ) g s w (L8 z.f vl vr) w4 from⟨z,vl,vr,rfl,K,hF,U.fr.trans N⟩
  go_wp2
  exact⟨rfl,qt HX⟩
end
structure mE{β:Type}c nb l w0 g0(s0:jh)(p:jc β)w g(s:jh)cnt(q:jc β):Prop where
 n:xJ c nb l w0 g0 s0 w g s cnt
 p:∀o,q s o->p s0 o
section
variable {cnt:Nat} {p:jc Ty} {p' q':jc β} {m:jc α} {k:α->jc β} {a:α}
def mE.start(a:AJ w c nb l cnt g s)(p':jc β):mE c nb l w g s p' w g s cnt p':=⟨.refl a,λ_ h=>h⟩
def mE.and(n:mE c nb l w0 g0 s0 p' w g s cnt (jf m k))(i:m s (.ok (a,s1)))(j:AJ w1 c nb l al g1 s1)(E:fS l c w g s w1 g1 s1):mE c nb l w0 g0 s0 p' w1 g1 s1 al (k a):=⟨n.n.next j E,λo ho=>n.p o<|qt ⟨a,s1,i,ho⟩⟩
def mE.bad(n:mE c nb l w0 g0 s0 p' w g s cnt (jf m k))(b:r8 c m g s w e w'):r8 c p' g0 s0 w0 e w':=n.n.bad b λz h=>n.p _<|qu ⟨z,h,rfl⟩
def mE.ret{x}(n:mE c nb l w0 g0 s0 p w g s cnt (jl T))(r:mN l g s x T)(hc:cnt<=cnt0+D):di c nb l D p g0 s0 cnt0 w0 (.returned<|nA x) w:=.ok n.n (n.p _ rfl) r hc
def mE.af(n:mE c nb l w0 g0 s0 p' w g s cnt q')(k:Bq w w1):mE c nb l w0 g0 s0 p' w1 g s cnt q':=⟨n.n.af k,n.p⟩
def mE.step(n:mE c nb l w0 g0 s0 p' w g s cnt q')(i:AJ w1 c nb l al g1 s)(j:fS l c w g s w1 g1 s):mE c nb l w0 g0 s0 p' w1 g1 s al q':=⟨n.n.next i j,n.p⟩
def mE.last(n:mE c nb l w0 g0 s0 p w g s cnt q)(h:di c nb l D' q g s cnt w e w')(hc:cnt+D'<=cnt0+D):di c nb l D p g0 s0 cnt0 w0 e w':=by
 obtain⟨x,g',s',aR,T,i,j,o,E,h5,F⟩|h:=h
 .obtain rfl:=i;exact .ok (n.n.next o E) (n.p _ j) F ae
 .exact qt (n.n.bad h λz h=>n.p _ h)
def adb(d:In.Lp)c nb l g(s:jh)cnt w(e:ga)w':=∃n g' s' aR ρ,e=.returned (nA n)/\In.r9 d.any jm s (.ok (ρ,s'))/\AJ w' c nb l aR g' s'/\fS l c w g s w' g' s'/\aR<=cnt+48/\mN l g' s' n (sub (qe ρ)<|sub s.k d.of)
def aa_(i:AJ w c nb l cnt g s)(hl:l<aL){m}(nm:A9 g s d m)(hz:size (g.V m)<=48)(hc:cnt+48<=900000):aa qv 318 #[nA m,Nv l,vrV c] w (adb d c nb l g s cnt w):=by
 have N:Bq w (w.alloc<|.map #[] 0):=bw _;have Y:=i.af N;have z:=i.je.z.2.2;have hf:SQ c w.heap.size:=⟨z,i.je.bx.z,i.je.ct.z,i.je.rs.lt,i.je.ms.lt⟩;have cp:tX (λ_=>False) l w.heap.size (w.alloc<|.map #[] 0) g s jm []:=⟨MS.new _ w,λp q=>by simp at q,λh v q=>by simp[ba]at q,λv n q=>iP⟩;have j:Fa g l m:=⟨λx=>x∈g.ds/\g.nx x=ka,λx hx _ _ k ps hs p hp h hh=>⟨i.js.gl.bN (i.js.jg.Vi x k ps hx hs p hp) hh,hh.head⟩,λx q=>i.lv x q.1 q.2,λh hh=>⟨i.js.gl.bN nm.mem hh,hh.head⟩⟩;have HI:=ac6 (nb:=nb) hf hl 48 _ g s cnt jm [] m Y.je Y.js i.us cp nm.mem j hz ae;have HK:Hid (∀e w',L3 (λ_=>False) c nb l w.heap.size g s cnt jm m (w.alloc<|.map #[] 0) e w'->(∃n,e=Rv (nA n))/\adb d c nb l g s cnt w e w'):=ai λe w' hp=>by
  obtain⟨n,g',Z,E,j,M',rfl,je,J,O,o,hn,hV,R,h1,h2,h3,F⟩:=hp;have F':Fr (jS c g) w w':=(xh N).gR F λb q=>by
   obtain q|q|q:=q
   .exact qu (qu q)
   .exact qu (qt<|qt q)
   .exact qt ae
  have U:=o.DB N.size;have I:∀v,j v≠ka->aA v (g.V m)/\ew g v:=λv q=>by
   have K:=h2 v rfl q
   cases e:j v with
   |none=>exact absurd e q|some x=>exact⟨K,ew.back i.js J U nm.mem K<|O.any e⟩
  refine⟨⟨n,rfl⟩,n,g',Z,E,j,rfl,⟨j,Z.u,⟨λv n q=> iP,λv hv=>?_,λv hv=>h1 v ((nm.any v).1 hv).1 ((nm.any v).1 hv).2,λv n _ q=>o.nw v n rfl q,λv v' n _ q q'=>o.on v v' n rfl q q',o.VY⟩,by rw[<-o.kk]⟩,U.aj i (br _) je J,U.stj i.js (br _) F',ae,hn,?_,R⟩
  .cases e:j v with
   |none=>rfl|some x=>exact absurd ((nm.any v).2<|I v (by rw[e];simp)) hv
  .rw[<-nm.val,<-hV];exact(qk λv K=>by have⟨x,r⟩:=J.nR hn K;exact(J.root r).2).symm
 go_in;go_wp;refine HI.mono ?_;intro e w1 hp;obtain⟨⟨n,rfl⟩,Q⟩:=uh HK e w1 hp
 go_wp2
 go_ret;exact Q
def ade(i:AJ w c nb l cnt g s)(J:n∈g.ds)f t:aa qv 289 #[nA n,.agg #[Nv f,Nv t]] w (λe w'=>(∃bh,AJ w' c nb l cnt {g with nx:=bh} s/\fS l c w g s w' {g with nx:=bh} s)/\((size (g.V n)<=48/\e=.returned (.tuple #[]))\/(48<size (g.V n)/\e=L8 ⟨7,f,t⟩ .nilIface .nilIface))):=by
 refine(qR i.js J f t).mono ?_;rintro e w'⟨⟨bh,E,j⟩,F,h⟩;have o:OR l w.heap.size g s cnt jm {g with nx:=bh} s cnt jm:=OR.eqv i.js E j.gl _;have I:Fr (jS c g) w w':=F.fU λb q=>qt<|qt q;exact⟨⟨bh,o.aj i (br _) (i.je.fr i.js I (i.je.bx.fr F<|i.je.yA i.js)<|i.je.ct.fr F<|i.je.yB i.js) j,o.stj i.js (br _) I⟩,h⟩
def aeo(R:AJ w c nb l cnt g s)(U:l<aL)(en:ch w nb Γ g s){x}(hx:Γ x≠ka)f t(hc:cnt+48<=900000):aa qv 304 #[nA c.eb,.agg #[Nv f,Nv t,.string x]] w (di c nb l 48 (j6 Γ x f t) g s cnt w):=by
 obtain⟨L,Y,Z⟩:=en;have⟨d,m,K,e2,NM⟩:=(Z x).resolve_left λq=>hx q.1;have⟨o,b0⟩:=rF w #[Nv f,Nv t,Sv x] 197;have HL:∀n,(Instr.lookup 148 (Mv nb) (Sv x) na).run qv ((w.alloc<|Cv #[Nv f,Nv t,Sv x] 197).drewN n)=.ok (nA m) ((w.alloc<|Cv #[Nv f,Nv t,Sv x] 197).drewN n):=λn=>by
  have:=(Y.af<|o.drewN n).ms.look Oq cT (yD _) x trivial (λ_ _=>trivial) na;rw[e2]at this;exact this
 have f3:=(R.af o).je.bx.c 3;obtain⟨c1,c2,c3⟩:=b0;have K0:=ai o;go_wp2
 go_quiet(fail);have E:=K0.drewN nq;have N:=R.af E;have HM:=ade N NM.mem f t;have N0:=xJ.refl N;go_wp2_with fail;refine HM.mono ?_;rintro e w2⟨⟨tI,j,F⟩,⟨hz,rfl⟩|⟨hz,rfl⟩⟩
 .have N2:=N0.next j F;have i:=NM.e8 U N0.a j.js F;have HI:=aa_ j U i hz hc;have HV:=ai i.val;have f4:=j.je.bx.c 4;go_wp2_with fail;refine HI.mono ?_;rintro e w3⟨n,g3,O,Vz,ρ,rfl,hd,a3,t3,I,r3⟩;have n3:=N2.next a3 t3;have hp:j6 Γ x f t s (.ok (sub (qe ρ)<|sub s.k d.of,O)):=by
   rw[j6];rw[K];exact qt ⟨by rw[<-(uh HV)];exact hz,ρ,O,hd,rfl⟩
  have J:=(di.ok (D:=48) (cnt0:=cnt) n3 hp r3 I).up E
  go_wp2
  go_ret;exact J
 .have J:=show di c nb l 48 (j6 Γ x f t) g s cnt w (L8 ⟨7,f,t⟩ Zv Zv) w2 from qt ⟨j9 f t,Zv,Zv,rfl,by rw[j6];rw[K];exact qu ⟨by rw[<-NM.val];exact hz,rfl⟩,⟨λ_=>⟨rfl,rfl⟩,λq=>by simp[j9]at q,qt rfl⟩,(xh E).trans F.fr⟩
  go_wp2
  exact⟨rfl,J⟩
end
def agz c nb l D(p:jc Unit)g(s:jh)cnt w e w':=
 (e=.returned (.tuple #[])/\∃g' s' aR,p s (.ok ((),s'))/\AJ w' c nb l aR g' s'/\fS l c w g s w' g' s'/\aR<=cnt+D)\/r8 c p g s w e w'
def agA(j:p_ k)w:eh w (λ_=>False) (.aM k []) (.iface 194<|.agg #[.string k,.slice ka 0 0]):=by
 have:=eh.aM (w:=w) (P:=λ_=>False) k [] ka 0 (λ_=>Zv) (qt<|qt j) (qu rfl)<|λi h=>vB
 rwa[e9 j]at this
section
variable {cnt:Nat}
def SY(i:AJ w c nb l cnt g s)(j:p_ k)(hc:cnt+1<=900000):aa qv 290 #[nA c.eb,.iface 194<|.agg #[.string k,.slice ka 0 0]] w (agy c nb l 1 (.aM k []) g s cnt w):=by
 have:=Wk i (agA j w) (λb q=>q.elim) (by simp[size,ak]) (λn q=>by simp[aA,bZ]at q) (by simpa[size,ak]using hc);simpa[size,ak]using this
def DL{p:Prop}(h:p:=by
 obtain⟨z,vl,vr,rfl,-⟩:=hb
 go_wp2
 exact⟨rfl,qt HX⟩):p:=h
def Wm{tx}{ax}(Hx:iW x)(h:mP x c w nb l cnt g s Γ dom (.iface tx ax)):aa qv 311 #[nA c.eb,.iface tx ax] w (agz c nb l (1000*nn x+1) (jf (ja c.mks x Γ) λa=>j7 a qh (jy x)<|j5 x) g s cnt w):=by
 have J:=Hx c w nb l cnt g s Γ dom _ h;have fa:=h.fa;have fb:=h.fb;have K:=h.pe.place;dsimp only[PlF]at K;have N0:=mE.start h.aj<|In.andM (In.inf c.mks x Γ) λa=>In.tG a In.iT (In.iG x)<|In.wO x;go_in;go_wp;refine J.mono ?_;rintro e w1(⟨n1,g1,s1,al,T1,rfl,N,o,O,c1,R⟩|hb)
 .have U:=SY o mH ae;have Y:=N0.and N o O;go_wp2_with fail;refine(rN).mono ?_;rintro e w1'⟨rfl,rfl⟩;go_wp2_with fail;refine U.mono ?_;rintro e w2⟨n2,g2,i,rfl,Z,E,c2,r2⟩;have N2:=Y.step Z E;have F:=xg (R.e8 o.js E) r2;go_wp2_with fail;refine(dv _ _).mono ?_;rintro e w3⟨rfl,k3⟩;have j:=N2.af k3;have H3:=BV j.n.a Wi F.1 F.2 (jy x)<|j5 x;go_wp2_with fail;refine H3.mono ?_;rintro e w4(⟨rfl,g4,s4,p4,a4,t4⟩|hb)
  .have I:=j.n.next a4 t4;have HX:=show agz c nb l (1000*nn x+1) (jf (ja c.mks x Γ) λa=>j7 a qh (jy x)<|j5 x) g s cnt w (Rv<|.tuple #[]) w4 from qu ⟨rfl,g4,s4,i,j.p _ p4,I.a,I.t,ae⟩
   go_wp2
   go_end0;exact HX
  .have HX:=j.n.bad hb<|λz q=>j.p _ q;exact DL
 .have HX:=N0.bad hb;exact DL
end
structure BdJ rc st x c w nb l cnt g(s:jh)(Γ:jj)(dom:BA->Prop)v:Prop where
 aj:AJ w c nb l cnt g s
 en:ch w nb Γ g s
 pe:PE w (λb=>b<c.lo) x v
 sc:ScE c.mks c.nl (λy=>dom y\/(rc=la/\y=st)) x
 hd:∀y,dom y->Γ y≠ka
 fa:cnt+1000*(1+nn x)<=850000
 fb:l+nn x<=805
 mf:MkFine c.mks
section
variable {cnt:Nat}
def One.af(o:One b W w')(k:Bq w W)(hb:w.heap.size<=b):Bq w w':=⟨o.os.trans k.os,o.tape.trans k.tape,o.output.trans k.output,by rw[o.size];exact k.size,λi hi=>(o.block i ae).trans<|k.block i hi⟩
def mN.nm{n:Nat}{T:Ty}(r:mN l g s n T)(js:JS w g s)(hl:l<aL)(F:∀k,aA k T->s.u k):A9 g s (qi T) n where
 mem:=r.mem
 val:=r.val
 any v:=⟨λq=> iP,λ⟨o,x,j,e⟩=>by
  have⟨y,i⟩:=js.gl.hd n r.mem;have⟨z,E,q⟩:=fq (lv:=g.lv) js.jg js.can _ n y r.mem i (br _) o;have q:=q js.lc;have:=r.lv y i;rw[E.one js.jg j,e]at q
  omega⟩
 use:=F
 sub v q:=iP
def ch.lit{y}(h:MG xk w b (bF y (nA m) []))(n:A9 g s d m):ch w b (jd (λ_=>ka) y d) g s:=by
 refine⟨_,h,λz=>?_⟩;rw[aO];unfold jd;by_cases e:y=z
 .grind
 .rw[if_neg e,if_neg<|xq e];exact qu ⟨rfl,rfl⟩
def BdJ.up(h:BdJ rc st x c w nb l cnt g s Γ dom v)(k:Bq w w1):BdJ rc st x c w1 nb l cnt g s Γ dom v:=⟨h.aj.af k,h.en.af k,h.pe.af k,h.sc,h.hd,h.fa,h.fb,h.mf⟩
def Wo(J:iW x)(h:BdJ na st x c w nb l cnt g s Γ dom v):aa qv 292 #[nA c.eb,.agg #[.bool na,Nv a,Nv y,.string st,v]] w (di c nb l (1000*(1+nn x)) (jk na st x (ja c.mks x) Γ) g s cnt w):=by
 have o:Bq w (w.alloc<|Cv #[.bool na,Nv a,Nv y,Sv st,v] 101):=bw _;have i:=h.up o;have fa:=h.fa;have fb:=h.fb;have j:=J c _ nb l cnt g s Γ _ v ⟨i.aj,i.en,i.pe,i.sc,λz q=>h.hd z (q.resolve_right λq=>by cases q.1),ae,ae,h.mf⟩;obtain⟨tx,ax,rfl⟩:=h.pe.iface;have N0:=mE.start i.aj<|In.inf c.mks x Γ;have I:=ai o;go_in;go_wp;refine j.mono ?_;intro e w1 E;have F:=(N0.last (cnt0:=cnt) (D:=1000*(1+nn x)) E ae).up I;obtain⟨n1,g1,s1,al,T1,rfl,-⟩|⟨z,vl,vr,rfl,-⟩:=E
 .clear j
  go_wp2
  go_ret;exact F
 .clear j
  go_wp2
  exact⟨rfl,F⟩
def DN{p:Prop}(h:p:=by
 go_wp2
 exact⟨rfl,di.up (qt HX) K0⟩):p:=h
def Wp(Hx:iW x)(h:BdJ la st x c w nb l cnt g s Γ dom v):aa qv 292 #[nA c.eb,.agg #[.bool la,Nv a,Nv y,.string st,v]] w (di c nb l (1000*(1+nn x)) (jk la st x (ja c.mks x) Γ) g s cnt w):=by
 have fa:=h.fa;have fb:=h.fb;have N:l<aL:=Wi;have⟨k0,O⟩:=rF w #[.bool la,Nv a,Nv y,Sv st,v] 101;have R:=h.up k0;have i:=h.aj.iM<|br _;have N0:=mE.start R.aj<|In.cG la st x (In.inf c.mks x) Γ;rw[DO]at N0;rw[DO];have H1:=ua R.aj ae;obtain⟨tx,ax,rfl⟩:=h.pe.iface;have pl:=h.pe.place;dsimp only[PlF]at pl;have K0:=ai k0;go_in;go_wp;refine H1.mono ?_;rintro e w1⟨I,g1,rfl,p1,J,t1,R1,-⟩;have j:=N0.and p1 J t1;have nm:=R1.nm J.js N (λk o=>by simp only[aA]at o;exact Or.inr o.symm);have HW:∀(E:ca)(mb:Nat),Bq w1 E->MG Sv E mb (bF st (nA I) [])->aa Tryz.prog 300 #[nA c.eb,Mv mb,Fv tx<|Av ax] E (di c nb l (1000*nn x) (In.inf c.mks x<|In.cV Γ st<|In.mono<|.var<|cnt+1) g1 ⟨s.k,λm=>s.u m\/m=cnt+1⟩ (cnt+1) E):=λE mb k hM=>by
  have h:=R;have I:=j.n;have:=py Hx (J.af k) ((h.en.e8 N h.aj J.js t1).af k) (ch.lit hM nm) ((I.pe h.pe).af k) h.sc (λz q=>?_) ae ae h.mf
  .rw[jR]at this;exact this
  .rw[jR];rw[jd];split
   .simp
   .exact h.hd z (q.resolve_right λq=>by have:=q.2;contradiction)
 have⟨b1,b2,b3⟩:=j.n.bx O i;go_wp2_with(refine cz Oq cT rfl _ _ _ (qu rfl) rfl (MG.new _ _) st (nA I) rfl rfl ?_;intro E hM o;have U:=o.af ((qx _ w1).alloc (br _)<|.map #[] 0)<|br _;have⟨d1,d2,d3⟩:=j.af U|>.n.bx O i;have HM:=ai hM;have Y:=ai U;clear hM o U);refine(HW _ _ Y HM).mono ?_;rintro e w3(⟨n3,g3,s3,Vz,T3,rfl,p3,a3,t3,c3,r3⟩|F)
 .have N3:=(j.af Y).and p3 a3 t3;have Z:=xg (R1.e8 j.n.a.js t3) r3;have⟨d1',d2',d3'⟩:=N3.n.bx O i;go_wp2_with fail;refine(dv _ _).mono ?_;rintro e w4⟨rfl,k4⟩;have K:=N3.af k4;have H4:=BV K.n.a N Z.1 Z.2 (jy x)<|j5 x;go_wp2_with fail;refine H4.mono ?_;rintro e w5(⟨rfl,g5,s5,p5,a5,t5⟩|F)
  .have N5:=K.and p5 a5 t5;have R5:=Z.2.e8 K.n.a.js t5
   go_wp2
   go_ret;exact(N5.ret R5 ae).up K0
  .have HX:=K.bad F;obtain⟨z,vl,vr,rfl,-⟩:=F;exact DN
 .have HX:=(j.af Y).bad F;obtain⟨z,vl,vr,rfl,-⟩:=F;exact DN
def Wq(i:iW x)(h:BdJ rc st x c w nb l cnt g s Γ dom v):aa qv 292 #[nA c.eb,.agg #[.bool rc,Nv a,Nv y,.string st,v]] w (di c nb l (1000*(1+nn x)) (jk rc st x (ja c.mks x) Γ) g s cnt w):=by
 cases rc
 .exact Wo i h
 .exact Wp i h
end
abbrev jG c g gb b:=jS c g b\/b=gb
def Wr{α:Type}c gb(p:jc α)g(s:jh)w e w':=∃z vl vr,e=L8 z.f vl vr/\p s (.error z)/\qM w' (λ_=>True) z vl vr/\Fr (jG c g gb) w w'
def pQ c nb l gb D(p:jc (Ty×jj))g(s:jh)cnt w e w':=
 (∃n g' s' aR T G,e=.returned (nA n)/\p s (.ok ((T,G),s'))/\AJ w' c nb l aR g' s'/\fS l c w g s w g' s'/\Fr (jG c g gb) w w'/\ch w' gb G g' s'/\aR<=cnt+D/\mN l g' s' n T)\/Wr c gb p g s w e w'
structure DP nd c w nb l cnt g(s:jh)gb(G:jj)v:Prop where
 aj:AJ w c nb l cnt g s
 en:ch w gb G g s
 pp:PP w (λb=>b<c.lo) nd v
 sc:rE c.mks c.nl nd
 fg:c.fU<=gb/\gb≠c.rb/\gb≠c.mb/\c.lo<=gb
 fa:cnt+1000*nn nd<=850000
 fl:l<aL
 mf:MkFine c.mks
def L9 nd:=∀(c:JC)(w:ca)(nb l cnt:Nat)(g:gD)(s:jh)(gb:Nat)(G:jj)(v:ea),DP nd c w nb l cnt g s gb G v->
 aa qv 320 #[nA c.eb,Mv gb,v] w (pQ c nb l gb (1000*nn nd) (ji c.mks nd G) g s cnt w)
structure lW{β:Type}c nb l gb w0 g0(s0:jh)(p:jc β)w g(s:jh)cnt(q:jc β):Prop where
 a:AJ w c nb l cnt g s
 t:fS l c w0 g0 s0 w0 g s
 f:Fr (jG c g0 gb) w0 w
 z:∃k,AJ w0 c nb l k g0 s0
 p:∀o,q s o->p s0 o
section
variable {W1:ca} {cnt:Nat} {p' q':jc β} {m:jc α} {k:α->jc β} {a:α}
def fS.fg(t:fS l c w g s w1 g1 s1):Fr (jG c g gb) w w1:=t.fr.fU λ_ q=>qu q
def lW.start(a:AJ w c nb l cnt g s)(p':jc β):lW c nb l gb w g s p' w g s cnt p':=⟨a,.refl a.js c l,.refl _ _,⟨_,a⟩,λ_ h=>h⟩
def lW.fr(n:lW c nb l gb w0 g0 s0 p' w g s cnt q')(f:Fr (jG c g gb) w w1):Fr (jG c g0 gb) w0 w1:=n.f.trans' f λx q=>by
 obtain  (q|q|q)|q:=q
 .omega
 .omega
 .exact(n.t.nw x q).imp (λz=>qu<|qt<|qt z) id
 .omega
def lW.gr(n:lW c nb l gb w0 g0 s0 p' w g s cnt q')(j:AJ w1 c nb l al g1 s1)(i:fS l c w g s W g1 s1):fS l c w0 g0 s0 w0 g1 s1:=by
 have⟨k,z⟩:=n.z;exact n.t.trans z.js n.a.js j.js {i with nw:=λm hm=>(i.nw m hm).imp id<|qy n.f.size,fr:=.refl _ _}
def lW.and(n:lW c nb l gb w0 g0 s0 p' w g s cnt (jf m k))(j:m s (.ok (a,s1)))(i:AJ w1 c nb l al g1 s1)(E:fS l c w g s W g1 s1)(f:Fr (jG c g gb) w w1):lW c nb l gb w0 g0 s0 p' w1 g1 s1 al (k a):=⟨i,n.gr i E,n.fr f,n.z,λo ho=>n.p o<|qt ⟨a,s1,j,ho⟩⟩
def lW.step{W}(n:lW c nb l gb w0 g0 s0 p' w g s cnt q')(i:AJ w1 c nb l al g1 s)(j:fS l c w g s W g1 s)(f:Fr (jG c g gb) w w1):lW c nb l gb w0 g0 s0 p' w1 g1 s al q':=⟨i,n.gr i j,n.fr f,n.z,n.p⟩
def lW.af(n:lW c nb l gb w0 g0 s0 p' w g s cnt q')(k:Bq w w1):lW c nb l gb w0 g0 s0 p' w1 g s cnt q':=n.step (n.a.af k) (.refl n.a.js c l)<|xh k
def r8.bp{p:jc α}(b:r8 c p g s w e w'):Wr c gb p g s w e w':=by
 obtain⟨z,vl,vr,i,j,o,E⟩:=b;exact⟨z,vl,vr,i,j,o,E.fU λ_ q=>qu q⟩
def lW.bad(n:lW c nb l gb w0 g0 s0 p' w g s cnt (jf m k))(b:Wr c gb m g s w e w'):Wr c gb p' g0 s0 w0 e w':=by
 obtain⟨z,vl,vr,i,j,o,E⟩:=b;exact⟨z,vl,vr,i,n.p _<|qu ⟨z,j,rfl⟩,o,n.fr E⟩
def lW.bx(n:lW c nb l gb w0 g0 s0 p' w g s cnt q')(h:Bx w0 b C)(i:¬jG c g0 gb b):Bx w b C:=h.fr n.f i
def lW.ret{p:jc (Ty×jj)}{x}(n:lW c nb l gb w0 g0 s0 p w g s cnt (jl (T,G)))(en:ch w gb G g s)(r:mN l g s x T)(hc:cnt<=cnt0+D):pQ c nb l gb D p g0 s0 cnt0 w0 (.returned<|nA x) w:=qu ⟨x,g,s,cnt,T,G,rfl,n.p _ rfl,n.a,n.t,n.f,en,hc,r⟩
def pQ.up{p:jc (Ty×jj)}(h:pQ c nb l gb D p g s cnt w1 e w')(k:Bq w w1):pQ c nb l gb D p g s cnt w e w':=by
 obtain⟨n,I,J,i,T,G,o,E,F,j,K,N⟩|⟨z,vl,vr,o,E,F,j⟩:=h
 .exact qu ⟨n,I,J,i,T,G,o,E,F,{j with nw:=λm hm=>(j.nw m hm).imp id<|qy k.size,fr:=.refl _ _},(xh k).trans K,N⟩
 .exact qt ⟨z,vl,vr,o,E,F,(xh k).trans j⟩
def AJ.gno(i:AJ w c nb l cnt g s)(en:ch w gb G g s)(j:w.heap.size<=b):¬jG c g gb b:=λq=>q.elim (i.iM j) λq=>by have:=en.lt;omega
def DP.up(h:DP nd c w nb l cnt g s gb G v)(k:Bq w w1):DP nd c w1 nb l cnt g s gb G v:=⟨h.aj.af k,h.en.af k,h.pp.af k,h.sc,h.fg,h.fa,h.fl,h.mf⟩
def DP.part{G1}(h:DP nd c w0 nb l cnt0 g0 s0 gb G v)(n:lW c nb l gb w0 g0 s0 p' w g s cnt q')(en:ch w gb G1 g s)(i:PP w0 (λb=>b<c.lo) x u)(j:rE c.mks c.nl x)(hz:cnt+1000*nn x<=cnt0+1000*nn nd):DP x c w nb l cnt g s gb G1 u:=
 ⟨n.a,en,i.move n.f.size (λb p q=>n.f.block b q λz=>z.elim (h.aj.Wh p) λz=>by have:=h.fg;omega)<|λ_ p _=>p,j,h.fg,by have:=h.fa;omega,h.fl,h.mf⟩
end
section
variable {cnt:Nat}
def ch.put{x:BA}{L}(q:∀y,(G y=ka/\ba y L=ka)\/∃d m,G y=ia d/\ba y L=ia (nA m)/\A9 g s d m)(h:MG xk w1 gb (bF x (nA m) L))(n:A9 g s d m):ch w1 gb (jd G x d) g s:=by
 refine⟨_,h,λz=>?_⟩;rw[aO];rw[jd];by_cases e:x=z
 .grind
 .grind
def yE{T}(E:T=200/\cn=t_/\(∃n:Nat,xs=#[Nv f,Nv t,Nv n])\/T=203/\cn=lV/\(∃n:Bool,xs=#[Nv f,Nv t,.bool n])\/T=254/\cn=kQ/\xs=#[Nv f,Nv t])(F:AJ w c nb l cnt g s)(en:ch w gb G g s)(U:l<aL)(hc:cnt+1<=900000):aa qv 320 #[nA c.eb,Mv gb,.iface T<|.agg xs] w (pQ c nb l gb 1000 (jl (.aM cn [],G)) g s cnt w):=by
 have I:p_ cn:=by obtain⟨-,rfl,-⟩|⟨-,rfl,-⟩|⟨-,rfl,-⟩:=E;exact mH;exact kO;exact r_
 have i:Bq w (w.alloc<|Cv xs T):=bw _;have J:=SY (F.af i) I hc;have N0:=lW.start (gb:=gb) (F.af i)<|jl (Ty.aM cn [],G);have K:=en.af i;have N:=ai i;obtain⟨rfl,rfl,n,rfl⟩|⟨rfl,rfl,n,rfl⟩|⟨rfl,rfl,rfl⟩:=E;all_goals
  go_in;go_wp;first|refine rN.mono ?_|refine nY.mono ?_|refine yF.mono ?_
  rintro e w1⟨rfl,rfl⟩;go_wp2_with fail;refine J.mono ?_;rintro e w2⟨n2,g2,dH,rfl,o,j,c2,O⟩;have R:=((N0.step o j j.fg).ret (D:=1000) (cnt0:=cnt) (K.e8 U N0.a o.js j) O ae).up N
  go_wp2
  go_ret;exact R
def aba(E:AJ w c nb l cnt g s)(en:ch w gb G g s)(R:l<aL)(hc:cnt<=1000000):aa qv 320 #[nA c.eb,Mv gb,.iface 259<|.agg #[Nv f,Nv t]] w (pQ c nb l gb 1000 (jf ju λv=>jl (.var v,G)) g s cnt w):=by
 have i:Bq w (w.alloc<|Cv #[Nv f,Nv t] 259):=bw _;have F:=ua (E.af i) hc;have N0:=lW.start (gb:=gb) (E.af i)<|In.andM In.lC λv=>In.dl (Ty.var v,G);have I:=en.af i;have J:=ai i;go_in;go_wp;refine F.mono ?_;rintro e w2⟨n2,g2,rfl,K,o,j,N,-⟩;have O:=((N0.and K o j j.fg).ret (D:=1000) (cnt0:=cnt) (I.e8 R N0.a o.js j) N ae).up J
 go_wp2
 go_ret;exact O
def abb{x:BA}(K:AJ w c nb l cnt g s)(en:ch w gb G g s)(Y:l<aL)(hc:cnt<=1000000)(hg:c.fU<=gb/\gb≠c.rb/\gb≠c.mb):aa qv 320 #[nA c.eb,Mv gb,.iface 197<|.agg #[Nv f,Nv t,.string x]] w (pQ c nb l gb 1000 (jf ju λv=>jl (.var v,jd G x<|qi<|.var v)) g s cnt w):=by
 have⟨j,Z⟩:=rF w #[Nv f,Nv t,Sv x] 197;have H1:=ua (K.af j) hc;have F:=K.gno en<|br _;have N0:=lW.start (gb:=gb) (K.af j)<|In.andM In.lC λv=>In.dl (Ty.var v,In.cV G x<|In.mono<|.var v);have EN:=en.af j;have K0:=ai j;go_in;go_wp;refine H1.mono ?_;rintro e N⟨I,g2,rfl,p2,J,E,O,-⟩;have⟨L,R,hq⟩:=EN.e8 Y N0.a J.js E;have HK:∀w3,MG Sv w3 gb (bF x (nA I) L)->One gb N w3->pQ c nb l gb 1000 (In.andM In.lC λv=>In.dl (Ty.var v,In.cV G x<|In.mono<|.var v)) g s cnt w (Rv<|nA I) w3:=λw3 h3 o=>by
  have U:Fr (λb=>b=gb) N w3:=o.fr rfl;have a3:=J.fB U λb e=>⟨ae,ae,λi=>by rw[e];exact R.bE i⟩;have nm:=O.nm J.js Y (λk o=>by simp only[aA]at o;exact qt o.symm);exact((N0.and p2 a3 E<|(E.fg (gb:=gb)).trans' (U.fU λb e=>(qt e:jG c g gb b)) λb q=>qu q).ret (D:=1000) (cnt0:=cnt) (ch.put hq h3 nm) O ae).up K0
 have⟨b1,b2,b3⟩:=Z.fr E.fr λq=>F<|qu q;have U:=ai R;go_wp2_with(refine cz Oq cT rfl _ _ _ (qt rfl) rfl U x (nA I) rfl rfl ?_;intro w3 h3 o;have HX:=ai<|HK w3 h3 o;clear h3 o);go_ret;exact HX
def OO{p:Prop}(h:p:=by
 obtain⟨z,vl,vr,rfl,-⟩:=hb
 go_wp2
 exact⟨rfl,pQ.up (qt HX) K0⟩):p:=h
def Ws{y}(Hx:L9 x)(Hy:L9 y)(h:DP (.mk 6 st n [x,y] f t a) c w nb l cnt g s gb G v)(E:PP w (λb=>b<c.lo) x vx)(F:PP w (λb=>b<c.lo) y vy):
 aa qv 320 #[nA c.eb,Mv gb,.iface 264<|.agg #[Nv f,Nv t,vx,vy]] w (pQ c nb l gb (1000*nn (.mk 6 st n [x,y] f t a)) (ji c.mks (.mk 6 st n [x,y] f t a) G) g s cnt w):=by
 have en:nn (.mk 6 st n [x,y] f t a)=1+nn x+nn y:=Lq;have K:ji c.mks (.mk 6 st n [x,y] f t a) G=jf (ji c.mks x G) λa=>jf (ji c.mks y a.2) λb=>jl (In.tPr a.1 b.1,b.2):=by simp[ji,jx,In.nC,In.dB]
 obtain⟨Y,Z⟩:rE c.mks c.nl x/\rE c.mks c.nl y:=by
  cases h.sc with
  |pr _ _ _ _ _ _ _ E F=>exact⟨E,F⟩
 have fa:=h.fa;have hl:=h.fl;rw[en]at fa;have⟨j,B0⟩:=rF w #[Nv f,Nv t,vx,vy] 264;have o:=h.up j;have I:=h.aj.gno h.en<|br _;have N0:=lW.start (gb:=gb) o.aj<|In.dG c.mks (.mk 6 st n [x,y] f t a) G;rw[K]at N0;have H1:=Hx c _ nb l cnt g s gb G vx<|o.part N0 o.en (E.af j) Y DH;rw[en,K];have HY:=F.af j;obtain⟨tx,ax,rfl⟩:=E.iface;obtain⟨ty,ay,rfl⟩:=F.iface;have K0:=ai j;go_in;go_wp;refine H1.mono ?_;rintro e w1(⟨n1,g1,s1,al,T1,G1,rfl,p1,a1,t1,f1,e1,c1,R1⟩|hb)
 .have i:=N0.and p1 a1 t1 f1;have H2:=Hy c w1 nb l al g1 s1 gb G1 _<|o.part i e1 HY Z DH;have⟨b1,b2,b3⟩:=i.bx B0 I;go_wp2_with fail;refine H2.mono ?_;rintro e w2(⟨n2,g2,s2,dH,T2,G2,rfl,p2,N,O,f2,E2,c2,r2⟩|hb)
  .have R:=i.and p2 N O f2;have H3:=ada N (R1.e8 i.a.js O) r2;go_wp2_with fail;refine H3.mono ?_;rintro e w3⟨n3,g3,rfl,U,J,r3⟩;have HX:=((R.step U J J.fg).ret (D:=1000*(1+nn x+nn y)) (cnt0:=cnt) (E2.e8 hl R.a U.js J) r3 ae).up K0
   go_wp2
   go_ret;exact HX
  .have HX:=i.bad hb;exact OO
 .have HX:=N0.bad hb;exact OO
end
section
variable {cnt jb:Nat} {ρ:In.Rn} {p' q':jc β} {m:jc α} {k:α->jc β} {a:α}
def rH.e8(h:rH c l kb jb mb w g s cnt ρ)(js:JS W g s)(t:fS l c w' g s V g1 s1){S:Nat->Prop}(f:Fr S w w1)(j:¬S kb/\¬S jb/\¬S mb):rH c l kb jb mb w1 g1 s1 al ρ:=by
 have⟨L,o,F⟩:=h.mp;refine⟨h.bk.fr f j.1,h.bj.fr f j.2.1,⟨L,o.same<|f.block _ o.lt j.2.2,λv=>(F v).imp id λ⟨n,m,I,q2,i,J,K,N⟩=>?_⟩,h.V7⟩;have⟨O,R,U⟩:=t.st.fV m i;have⟨x,E⟩:=js.gl.hd m i;exact⟨n,m,I,q2,O,R.trans J,U.trans K,λy hy=>t.lo m i x y E hy l (br _)<|N x E⟩
def lW.and'(n:lW c nb l gb w0 g0 s0 p' w g s cnt (jf m k))(j:m s (.ok (a,s1)))(i:AJ w1 c nb l al g1 s1)(E:fS l c w g s V g1 s1)(f:Fr (jG c g0 gb) w0 w1):lW c nb l gb w0 g0 s0 p' w1 g1 s1 al (k a):=⟨i,n.gr i E,f,n.z,λo ho=>n.p o<|qt ⟨a,s1,j,ho⟩⟩
def GF(a:AJ w c nb l cnt g s)(F:AJ w' c nb l al g1 s1)(e:w'.heap[c.mb]? =w.heap[c.mb]?){x}{tk}{mt}(I:c.mks x=ia (tk,mt))(J:∀w':ca,w'.heap[c.mb]? =w.heap[c.mb]? ->(Instr.lookup 142 (Mv c.mb) (.string x) na).run qv w'=.ok v w'):Vf w' (λi=>i≠c.cb/\i<c.fU) tk mt v:=by
 have⟨v',o,E⟩:=F.je.ms.look I;have j:=J w' e;rw[E w' rfl]at j;injection j with j;rw[<-j];exact o
def MdJ c nb l gb w0 g(s:jh)cnt(p:jc (Ty×jj))tk m L kb jb mb gk v wr:=
 ∃j cj gj sj ρ G,Hid (gk=L.length-j)/\j<=L.length/\v=Nv j/\lW c nb l gb w0 g s p wr gj sj cj (gK c.mks tk m L j G ρ)/\ch wr gb G gj sj/\rH c l kb jb mb wr gj sj cj ρ/\Hid (cj+1000*cr (L.drop j)<=cnt+1000*cr L+ak (tk.take j))
def lW.imp(n:lW c nb l gb w0 g0 s0 p' w g s cnt q'){r}(h:∀o,r s o->q' s o):lW c nb l gb w0 g0 s0 p' w g s cnt r:={n with p:=λo ho=>n.p o<|h o ho}
def ch.stg{S:Nat->Prop}{V'}(e:ch w gb G g s)(o:l<aL)(E:AJ V c nb l cnt g s)(F:JS w1 g1 s1)(t:fS l c V g s V' g1 s1)(f:Fr S w w1)(I:¬S gb):ch w1 gb G g1 s1:=by
 obtain⟨L,h,q⟩:=e;exact⟨L,h.fr f I,λx=>(q x).imp id λ⟨d,m,i,q2,j⟩=>⟨d,m,i,q2,j.e8 o E F t⟩⟩
def rH.no(j:rH c l kb jb mb w g s cnt ρ)(i:AJ w c nb l cnt g s)(en:ch w gb G g s)(N:mb≠gb):¬jG c g gb kb/\¬jG c g gb jb/\¬jG c g gb mb:=by
 obtain⟨L,F,_⟩:=en;have⟨L',E,_⟩:=j.mp;have⟨f1,f2,f3,_⟩:=j.V7;have e0:=i.je.bx.c 0;have e1:=i.je.bx.c 1;have c0:=i.je.ct.c 0;have o:=j.bk.c 0;have I:=j.bj.c 0;have J:=j.bj.c 1;refine⟨?_,?_,?_⟩
 .rintro((q|q|q)|q)
  .grind
  .grind
  .have⟨p,K⟩:=i.js.gl.qB q;rw[K]at o;simp at o
  .rw[q,F.bE 0]at o;simp at o
 .rintro((q|q|q)|q)
  .grind
  .grind
  .have:=(i.js.gl.nd jb q).lvl.1;rw[J]at this;simp at this
  .rw[q,F.bE 0]at I;simp at I
 .rintro((q|q|q)|q)
  .omega
  .omega
  .exact(i.js.mL E).1 q
  .exact N q
def S7 tk m:ak tk+size m<=size (qg tk m):=by
 induction tk with
 |nil=>simp[qg,ak]|cons t tk ih=>
  have:qg (t::tk) m=In.mD t (qg tk m):=rfl;rw[this];simp only[ak,size];omega
def OP{p:Prop}(h:p:=by
 obtain⟨_,_,_,q4,q5⟩:=h.aj.je.ne;rintro((q|q|q)|q)
 .exact q4 q
 .exact q5 q
 .exact(h.aj.je.mL h.aj.js).2 q
 .exact h.fg.2.2.1 q.symm):p:=h
def abc{a}{sa}{vs:Nat->ea}(H:∀i(h:i<L.length),L9 L[i])(h:DP (.mk 2 st n L f t a) c w nb l cnt g s gb G v)(E0:L=[]\/∃g,sa=ia ⟨g,0,ka⟩/\g<c.lo/\g<w.heap.size/\∀i,i<L.length->w.cell? ⟨g,i,ka⟩=ia (vs i))(hr:∀i(h:i<L.length),PP w (λb=>b<c.lo) L[i]<|vs i):
 aa qv 322 #[nA c.eb,Mv gb,.agg #[Nv f,Nv t,Nv a,Nv y,.string st,.slice sa L.length sc]] w (pQ c nb l gb (1000*nn (.mk 2 st n L f t a)) (ji c.mks (.mk 2 st n L f t a) G) g s cnt w):=by
 have en:nn (.mk 2 st n L f t a)=1+cr L:=by simp[nn]
 obtain⟨tk,m,hx,hl,HS⟩:∃tk m,c.mks st=ia (tk,m)/\L.length=tk.length/\∀i(h:i<L.length),rE c.mks c.nl L[i]:=by
  cases h.sc with
  |up _ _ _ _ _ _ tk m hx hl hr=>exact⟨tk,m,hx,hl,hr⟩|leaf _ _ _ _ _ _ hk=>omega
 have fa:=h.fa;rw[en]at fa;have Bu:=h.mf.sz st tk m hx;have hsl:=S7 tk m;have k0:Bq w (w.alloc<|.cells #[Nv f,Nv t,Nv a,Nv y,.string st,.slice sa L.length sc] 262):=bw _;obtain⟨v,hv,b0⟩:=h.aj.je.ms.look hx;obtain⟨ma,mc,ta,xa,rfl,-⟩:=hv;have c0:=h.aj.je.ms.lt;have r0:=b0 (w.alloc<|.cells #[Nv f,Nv t,Nv a,Nv y,.string st,.slice sa L.length sc] 262).drew<|k0.drew.block c.mb c0;have t0:Bq w ((w.alloc<|.cells #[Nv f,Nv t,Nv a,Nv y,.string st,.slice sa L.length sc] 262).alloc<|.cells #[.slice ka 0 0,.nilIface] 361):=k0.alloc k0.size _;have u0:=b0 _<|t0.drew.block c.mb c0;obtain⟨e1,e2,e3⟩:=h.aj.je.bx;have hln:L.length<=1000:=by have:=rL tk m;omega
 rw[yo hx,en];have HA:=ai h;have HL:=ai hl;have v0:=ai b0;have HX:=ai hx;clear h b0 k0 t0 hl hx;go_in;go_wp;go_cut[7]from 12 (λv1 wc=>Sr w #[Nv f,Nv t,Nv a,Nv y,.string st,.slice sa L.length sc] #[.slice ma tk.length mc,.iface ta xa] v1 wc)
 case first=>
  go_region
  all_goals(
   go_wp2_with fail
   go_meet
   case rel=>exact Sr.a w _ _ _ _)
 case rest=>
  obtain⟨pb,rfl,zp,X1,T2,KC⟩:=hcut;clear r0 u0 e1 e2 e3;have h:=uh HA;have zgb:=h.en.lt;have zkc:=KC.size;have x0:=h.aj.gno h.en<|br _;have y0:=h.aj.gno h.en<|Nat.le_of_lt zp;have N0:=lW.start (gb:=gb) (h.aj.af KC)<|gK c.mks tk m L 0 G jm;have HN:=OI (l:=l) (h.aj.af KC).je g s;have T1:=ai X1;clear X1 h;go_wp2_with fail;refine HN.mono ?_;rintro e w2⟨kb,jb,mb,rfl,K,k2,z2,h1,h2,h3⟩;have N2:=N0.af k2;have X1:=N2.bx T1 x0;have ST:MdJ c nb l gb wc g s cnt (gK c.mks tk m L 0 G jm) tk m L kb jb mb L.length (Iv 0) w2:=⟨0,cnt,g,s,jm,G,ai ag,xf _,rfl,N2,(HA.en.af KC).af k2,K,ai<|by simp[ak]⟩;obtain⟨y1,y2,y3⟩:=X1;clear HN K k2 N2 N0
  go_wp2
  go_loopg[25] L.length (λgk v wr=>MdJ c nb l gb wc g s cnt (gK c.mks tk m L 0 G jm) tk m L kb jb mb gk v wr)
  case atStart=>exact ST
  case round=>
   clear ST y1 y2 y3;obtain⟨j,cj,gj,sj,ρ,Gj,F0,hj,rfl,at_,EJ,K,e0⟩:=hrel;have e0:=uh e0;by_cases bY:j<L.length
   .have G0:=kK bY;have hge:(0:Int)<=(j:Int):=ae;have f0:j<tk.length:=by have:=uh HL;omega
    have aia:(j:Int)<(tk.length:Int):=ae;have h:=uh HA;have FF:=(xh (S:=jG c g gb) KC).trans at_.f;have h0:∀b,b<c.lo->¬jG c g gb b:=λb p z=>z.elim (h.aj.Wh p) λz=>by have:=h.fg;omega
    obtain⟨gg,rfl,hQ,hz,N⟩:=E0.resolve_left<|λe=>qBs;have O:=hr j bY;have cg:=(xi (a:=⟨gg,j,ka⟩)<|FF.block gg hz<|h0 gg hQ).trans<|N j bY;obtain⟨tx,ax,H0⟩:=O.iface;rw[H0]at cg O;have I0:=O.place;dsimp only[PlF]at I0;have hdn:cr (L.drop j)=nn L[j]+cr (L.drop<|j+1):=by rw[List.drop_eq_getElem_cons bY];rfl
    have J0:=yC tk f0;have H1:=H j bY c wr nb l cj gj sj gb Gj _ ⟨at_.a,EJ,O.move FF.size (λb p z=>FF.block b z<|h0 b p)<|λ_ p _=>p,HS j bY,h.fg,ae,h.fl,h.mf⟩;have AT:=ai<|at_.imp λo ho=>ub HL bY ho;have AN:=ai K;have R:=h.fl;obtain⟨y1,y2,y3⟩:=at_.bx T1 x0;clear at_ K h O N FF h0;go_wp2_with fail;refine H1.mono ?_;rintro e w3(⟨n3,g3,s3,c3,T3,G3,rfl,p3,E,t3,f3,e3,hc3,r3⟩|hb)
    .have h:=uh HA;have zj:=AT.a.je.z.2.2;have U:mb≠gb:=ae;have nG:=AN.no AT.a EJ U;have I:rH c l kb jb mb w3 g3 s3 c3 ρ:=AN.e8 AT.a.js t3 f3 nG;have at3:=AT.and p3 E t3 f3;have Y:¬jG c g gb c.mb:=by
      exact OP
     have i0:=GF h.aj E (((xh (S:=jG c g gb) KC).trans at3.f).block _ c0 Y) HX v0;obtain⟨K0,L0,z0,A0,ee,j0,Z⟩:=i0;obtain⟨gt,vt,M0,pgt,zgt,B0⟩:=j0.resolve_left (λe=>by subst e;simp at f0);obtain⟨ct,tt⟩:=B0 j f0;obtain⟨tb,xb,O0⟩:=tt.iface;rw[O0]at ct tt;have l0:ma=ia ⟨gt,0,ka⟩:=by
      injection ee with ee;have:=congrArg (λa:Array ea=>a[0]?) ee;simp at this;rw[this.1,M0]
     subst l0;have zk:kb<w3.heap.size/\jb<w3.heap.size/\mb<w3.heap.size:=⟨I.bk.z,I.bj.z,by obtain⟨L',n0,_⟩:=I.mp;exact n0.lt⟩;have o0:∀W:ca,Bq w3 W->aa qv 296 #[.iface tb xb,Nv l,anV kb jb] W (Gv c nb l (λb=>b=mb) (rH c l kb jb mb) g3 s3 c3 ρ tk[j] W):=λW hk=>OH zk.1 zk.2.1 zk.2.2 tk[j] W g3 s3 c3 ρ _ _ (E.af hk).je (E.af hk).js E.us (rH.e8 (W:=w3) (w':=w3) I E.js (.refl E.js c l) (xh (S:=λ_=>False) hk) ⟨id,id,id⟩) hk.size (tt.move hk.size (λb _ z=>hk.block b z)<|λ_ p _=>p) (λb p=>⟨p.1,by have:=I.V7.1;have:=p.2;omega⟩) ae (λ_ _=>trivial) ae;have HK:∀W e w4,Bq w3 W->Gv c nb l (λb=>b=mb) (rH c l kb jb mb) g3 s3 c3 ρ tk[j] W e w4->∃n4 g4 s4 c4 BW,e=.returned (nA n4)/\lW c nb l gb wc g s (gK c.mks tk m L 0 G jm) w4 g4 s4 c4 (jf (j7 T3 (sub (qe BW) tk[j]) (jy L[j])<|j5 L[j]) λ_=>gK c.mks tk m L (j+1) G3 BW)/\mN l g4 s4 n3 T3/\mN l g4 s4 n4 (sub (qe BW) tk[j])/\rH c l kb jb mb w4 g4 s4 c4 BW/\ch w4 gb G3 g4 s4/\c4<=c3+size tk[j]:=λW e w4 hk hp=>by
      obtain⟨n4,g4,s4,c4,BW,rfl,je,js,a0,o,hn,hV,p0,hT,C0,F⟩:=hp;have o':=o.DB hk.size;have a4:=o'.aj E (br _) je js;have t4:fS l c w3 g3 s3 w3 g4 s4:=o'.stj E.js (br _)<|.refl _ _;have F4:=(xh (S:=λb=>b=c.cb\/b=mb) hk).trans F;refine⟨n4,g4,s4,c4,BW,rfl,at3.and' (o'.drawn hT) a4 t4<|at3.f.trans' F4 λx q=>q.imp (λq=>qu<|qu q) λq=>ae,r3.e8 E.js t4,⟨hn,?_,p0⟩,a0,e3.stg R E js t4 F4<|λq=>q.elim (λq=>?_)<|λq=>U q.symm,C0⟩
      .rw[hV,o.kk]
      .obtain⟨L',hM,_⟩:=e3;have:=E.je.ct.c 0;rw[<-q,hM.bE 0]at this;simp at this
     obtain⟨x1,x2,x3⟩:=at3.bx T2 y0;have l3:=E.je.bx.c 4;clear h Z B0 tt I at3 E t3 f3 e3 r3 p3 H1 nG Y
     go_wp2
     go_region_with(first
      |(go_at_call 296;go_loud(refine(o0 _ (qx _ _).drew).mono ?_);intro e w4 hp;obtain⟨n4,g4,s4,c4,BW,rfl,J,r4,d0,a0,e4,hc4⟩:=HK _ _ _ (qx _ _).drew hp;have q0:=ai J;have R4:=ai<|xg r4 d0;have D0:=ai<|xg a0 e4;clear hp J r4 d0 a0 e4)
      |(go_at_call 324;refine(dv _ _).mono ?_;rintro e w5⟨rfl,k5⟩;have J:=ai<|q0.af k5;have d0:Hid (rH c l kb jb mb w5 g4 s4 c4 BW/\ch w5 gb G3 g4 s4):=ai ⟨rH.e8 D0.1 q0.a.js (.refl q0.a.js c l) (xh (S:=λ_=>False) k5) ⟨id,id,id⟩,D0.2.af k5⟩;clear k5)
      |(go_at_call 301;go_loud(refine(BV J.a R R4.1 R4.2 _ _).mono ?_);intro e w6 hq;obtain hb|⟨he,g6,s6,p6,a6,t6⟩:=hq.symm;go_loud(have HP:=J.bad hb.bp;obtain⟨z,vl,vr,rfl,-⟩:=hb;exact⟨rfl,pQ.up (qt HP) KC⟩);subst he;go_loud(have N6:Hid (MdJ c nb l gb wc g s cnt (gK c.mks tk m L 0 G jm) tk m L kb jb mb (L.length-(j+1)) (.int .i64 ((j+1:Nat):Int)) w6):=ai ⟨j+1,c4,g6,s6,BW,G3,ai rfl,bY,rfl,J.and p6 a6 t6 t6.fg,d0.2.e8 R J.a a6.js t6,d0.1.e8 J.a.js t6 t6.fr (let q:=d0.1.no J.a d0.2 U;⟨λz=>q.1<|qu z,λz=>q.2.1<|qu z,λz=>q.2.2<|qu z⟩),ai ae⟩);clear p6 a6 t6))
     all_goals
      go_wp2
      go_roundg(L.length-(j+1))
      case measure=>rw[uh F0];omega
      case rel=>exact N6
    .have HP:=AT.bad hb;obtain⟨z,vl,vr,rfl,-⟩:=hb;clear H1
     go_wp2
     exact⟨rfl,pQ.up (qt HP) KC⟩
   .have G0:¬(j:Int)<(L.length:Int):=ae;have I:j=L.length:=ae;subst I;have h:=uh HA;have R:=h.fl;have zj:=at_.a.je.z.2.2;have U:mb≠gb:=ae;have J0:ak (tk.take L.length)<=ak tk:=by rw[uh HL,List.take_length];exact br _
    have Y:¬jG c g gb c.mb:=by
     exact OP
    have i0:=GF h.aj at_.a (((xh (S:=jG c g gb) KC).trans at_.f).block _ c0 Y) HX v0;obtain⟨K0,L0,z0,A0,ee,j0,Z⟩:=i0;have l0:(Value.iface ta xa)=.iface z0 A0:=by
     injection ee with ee;have:=congrArg (λa:Array ea=>a[1]?) ee;simpa using this
    rw[<-l0]at Z;have E:=at_.imp λo ho=>GG HL ho;have zk:kb<wr.heap.size/\jb<wr.heap.size/\mb<wr.heap.size:=⟨K.bk.z,K.bj.z,by obtain⟨L',n0,_⟩:=K.mp;exact n0.lt⟩;have o0:∀W:ca,Bq wr W->aa qv 296 #[.iface ta xa,Nv l,anV kb jb] W (Gv c nb l (λb=>b=mb) (rH c l kb jb mb) gj sj cj ρ m W):=λW hk=>OH zk.1 zk.2.1 zk.2.2 m W gj sj cj ρ _ _ (at_.a.af hk).je (at_.a.af hk).js at_.a.us (rH.e8 (W:=wr) (w':=wr) K at_.a.js (.refl at_.a.js c l) (xh (S:=λ_=>False) hk) ⟨id,id,id⟩) hk.size (Z.move hk.size (λb _ z=>hk.block b z)<|λ_ p _=>p) (λb p=>⟨p.1,by have:=K.V7.1;have:=p.2;omega⟩) ae (λ_ _=>trivial) ae;have HK:∀W e w4,Bq wr W->Gv c nb l (λb=>b=mb) (rH c l kb jb mb) gj sj cj ρ m W e w4->∃n4,e=.returned (nA n4)/\pQ c nb l gb (1000*(1+cr L)) (gK c.mks tk m L 0 G jm) g s cnt w (.returned<|nA n4) w4:=λW e w4 hk hp=>by
     obtain⟨n4,g4,s4,c4,BW,rfl,je,js,a0,o,hn,hV,p0,hT,C0,F⟩:=hp;have o':=o.DB hk.size;have a4:=o'.aj at_.a (br _) je js;have t4:fS l c wr gj sj wr g4 s4:=o'.stj at_.a.js (br _)<|.refl _ _;have F4:=(xh (S:=λb=>b=c.cb\/b=mb) hk).trans F
     have e4:=EJ.stg R at_.a js t4 F4 (λq=>q.elim (λq=>by
      obtain⟨L',hM,_⟩:=EJ;have:=at_.a.je.ct.c 0;rw[<-q,hM.bE 0]at this
      simp at this) (λq=>U q.symm))
     exact⟨n4,rfl,((E.and' (o'.drawn hT) a4 t4<|at_.f.trans' F4 λx q=>q.imp (λq=>qu<|qu q) λq=>ae).ret e4 ⟨hn,by rw[hV,o.kk],p0⟩ (by simp at e0;omega)).up KC⟩
    obtain⟨x1,x2,x3⟩:=at_.bx T2 y0;have l3:=at_.a.je.bx.c 4;clear h at_ E K Z j0 Y
    go_wp2
    go_region_with(first
     |(go_at_call 296;go_loud(refine(o0 _ (qx _ _).drew).mono ?_);intro e w4 hp;obtain⟨n4,rfl,J⟩:=HK _ _ _ (qx _ _).drew hp;have HP:=ai J;clear hp J))
    all_goals
     go_wp2
     go_ret;exact HP
end
def Wt st n f t a(H:∀i(h:i<L.length),L9 L[i]):L9 (.mk 2 st n L f t a):=by
 intro c w nb l cnt g s gb G v h;obtain⟨y,o,sc,E,rfl,j,I⟩:∃(y:Nat)(o:Option Addr)(sc:Nat)(E:Nat->ea),v=Fv 262 (Av #[Nv f,Nv t,Nv a,Nv y,Sv st,Lv o L.length sc])/\(L=[]\/∃g,o=ia ⟨g,0,ka⟩/\g<c.lo/\g<w.heap.size/\∀i,i<L.length->w.cell? ⟨g,i,ka⟩=ia (E i))/\∀i(h:i<L.length),PP w (λb=>b<c.lo) L[i]<|E i:=by
  cases h.pp with
  |up _ _ _ _ _ _ y o sc E hu hy j I=>exact⟨_,o,sc,E,rfl,j,I⟩
 have F:Bq w (w.alloc<|Cv #[Nv f,Nv t,Nv a,Nv y,Sv st,Lv o L.length sc] 262):=bw _
 have J:=abc (y:=y) (sc:=sc) H (h.up F) (j.imp id λq=>by
  obtain⟨g,N,q2,K,O⟩:=q
  exact⟨g,N,q2,q9 K F.size,λi hi=>(xi (a:=⟨g,i,ka⟩)<|F.block g K).trans<|O i hi⟩)<|λi hi=>(I i hi).af F
 have Y:=ai F;have N:=Vy;have q2:=tQ;have K:=Oi;have O:=Oj;go_in;go_wp;refine J.mono ?_;intro e w1 R;have U:=R.up Y;obtain⟨n1,-,-,-,-,-,rfl,-⟩|⟨z,vl,vr,rfl,-⟩:=R
 .clear J
  go_wp2
  go_ret;exact U
 .clear J
  go_wp2
  exact⟨rfl,U⟩
def Wu:∀(k:Nat)(nd:Nd),nn nd<=k->L9 nd:=by
 intro k
 induction k with
 |zero=>intro nd h;cases nd;simp only[nn]at h;omega|succ k ih=>
  intro nd hk c w nb l cnt g s gb G v h;have E:=h.pp;have j:=h.fa;have o:∀k s n f t a,nn (.mk k s n [] f t a)=1:=λ_ _ _ _ _ _=>qBi
  cases E with
  |any st n f t a=>
   rw[o]at j⊢;rw[show ji c.mks (.mk 15 st n [] f t a) G=jf ju λv=>jl (.var v,G) by simp[ji,jx]];exact aba h.aj h.en h.fl ae
  |low st n f t a=>
   rw[o]at j⊢;rw[show ji c.mks (.mk 1 st n [] f t a) G=jf ju λv=>jl (.var v,jd G st<|qi<|.var v) by simp[ji,jx]];exact abb h.aj h.en h.fl ae ⟨h.fg.1,h.fg.2.1,h.fg.2.2.1⟩
  |num st n f t a=>
   rw[o]at j⊢;rw[show ji c.mks (.mk 3 st n [] f t a) G=jl (qh,G) by simp[ji,jx]];exact yE (qu ⟨rfl,rfl,_,rfl⟩) h.aj h.en h.fl ae
  |word st n f t a b=>
   rw[o]at j⊢;rw[show ji c.mks (.mk 4 st n [] f t a) G=jl (In.nX,G) by simp[ji,jx]];exact yE (qt<|qu ⟨rfl,rfl,_,rfl⟩) h.aj h.en h.fl ae
  |unit st n f t a=>
   rw[o]at j⊢;rw[show ji c.mks (.mk 5 st n [] f t a) G=jl (In.kM,G) by simp[ji,jx]];exact yE (qt<|qt ⟨rfl,rfl,rfl⟩) h.aj h.en h.fl ae
  |pr st n x y f t a vx vy hx hy=>exact Ws (ih x Bw) (ih y Bw) h hx hy|up st n L f t a y sa sc vs hu hy bK hr=>exact Wt st n f t a (λi hi=>ih _ (by have:=LJ L i hi;simp only[nn]at hk;omega)) c w nb l cnt g s gb G _ h
def aep nd:L9 nd:=Wu _ nd<|br _
def MtJ c nb l w0 g(s:jh)D(p:jc Ty)(Γ:jj)n1 n2 T U A gk v wr:=
 ∃j cj gj sj,Hid (gk=A.length-j)/\j<=A.length/\v=Nv j/\mE c nb l w0 g s p wr gj sj cj (lQ c.mks Γ T U A j)/\mN l gj sj n1 T/\mN l gj sj n2 U/\Hid (cj+1000*cr (aN<|A.drop j)<=D)
section
variable {cnt:Nat} {p:jc Ty}
def mE.imp(n:mE c nb l w0 g0 s0 p w g s cnt q)(h:∀o,r s o->q s o):mE c nb l w0 g0 s0 p w g s cnt r:={n with p:=λo ho=>n.p o<|h o ho}
def lW.out(n:xJ c nb l w0 g0 s0 w g s cnt)(f:Fr (jG c g gb) w w1)(hg:w0.heap.size<=gb):Fr (jS c g0) w0 w1:=n.t.fr.trans' f λx q=>by
 obtain  (q|q|q)|q:=q
 .omega
 .omega
 .exact(n.t.nw x q).imp (λz=>qt<|qt z) id
 .omega
def mE.ofP(n:mE c nb l w0 g0 s0 p w g s cnt q)(m:lW c nb l gb w g s q w1 g1 s1 al r)(i:w0.heap.size<=gb):mE c nb l w0 g0 s0 p w1 g1 s1 al r:=by
 have⟨k0,z⟩:=n.n.z;have t:=n.n.t.trans z.js n.n.a.js m.a.js m.t;exact⟨⟨m.a,{t with fr:=lW.out n.n m.f i},n.n.z⟩,λo ho=>n.p o<|m.p o ho⟩
def mE.abd(n:mE c nb l w0 g0 s0 p w g s cnt q)(b:Wr c gb q g s w e w')(F:w0.heap.size<=gb):r8 c p g0 s0 w0 e w':=by
 obtain⟨z,vl,vr,i,j,o,E⟩:=b;exact⟨z,vl,vr,i,n.p _ j,o,lW.out n.n E F⟩
def ch.nob(en:ch w nb Γ g s)(i:AJ w c nb l cnt g s):¬jS c g nb:=by
 obtain⟨L,h,q⟩:=en;rintro(z|z|z)
 .have:=i.je.ct.c 0;rw[<-z,h.bE 0]at this;simp at this
 .have:=i.je.bx.c 0;rw[<-z,h.bE 0]at this;simp at this
 .exact(i.js.mL h.ms).1 z
def agB{mk}(j:ScE mk nl dom (.mk 13 st n (x::aN A) f t a)):ScE mk nl dom x/\(∀i(h:i<A.length),rE mk nl A[i].1)/\∀i(h:i<A.length),ScE mk nl (λv=>dom v\/v∈pj A[i].1) A[i].2:=by
 generalize hL:x::aN A=L at j
 cases j with
 |mt _ _ _ x' A' _ _ _ hx hp he=>
  injection hL with o E;subst o;have:∀(A A':List (Nd×Nd)),aN A=aN A'->A=A':=by
   intro A
   induction A with
   |nil=>intro A' e;cases A' with|nil=>rfl|cons=>simp[aN]at e
   |cons p r ih=>
    intro A' e
    cases A' with
    |nil=>simp[aN]at e|cons p' r'=>
     simp only[aN,List.cons.injEq]at e;obtain⟨F,I,J⟩:=e;rw[ih r' J,Prod.ext F I]
  obtain rfl:=this A A' E;exact⟨hx,hp,he⟩
 |leaf _ _ _ _ _ _ _ hk=>omega|two _ _ _ _ _ _ _ _ _ hk=>omega|lt _ _ _ _ _ _ _ _ _ _ hk=>omega
def aeq{rb}{vp ve:Nat->ea}(Hx:iW x)(He:∀i(h:i<A.length),iW A[i].2)(h:mP (.mk 13 st n (x::aN A) f t a) c w nb l cnt g s Γ dom v)(hg:rb<c.lo)(u0:rb<w.heap.size)(hc:∀i,i<A.length->(∃u v,w.cell? ⟨rb,i*4,ka⟩=ia (Iv u)/\w.cell? ⟨rb,i*4+1,ka⟩=ia (Iv v))/\w.cell? ⟨rb,i*4+2,ka⟩=ia (vp i)/\w.cell? ⟨rb,i*4+3,ka⟩=ia (ve i))(hx:PE w (λb=>b<c.lo) x vx)(hp:∀i(h:i<A.length),PP w (λb=>b<c.lo) A[i].1<|vp i)(he:∀i(h:i<A.length),PE w (λb=>b<c.lo) A[i].2<|ve i):
 aa qv 310 #[nA c.eb,.agg #[Nv f,Nv t,vx,.slice (ia ⟨rb,0,ka⟩) A.length sc]] w (di c nb l (1000*nn (.mk 13 st n (x::aN A) f t a)) (ja c.mks (.mk 13 st n (x::aN A) f t a) Γ) g s cnt w):=by
 have en:nn (.mk 13 st n (x::aN A) f t a)=1+nn x+cr (aN A):=Lq;have⟨sx,SP,SE⟩:=agB h.sc;have fa:=h.fa;have fb:=h.fb;rw[en]at fa fb;have hl:l<aL:=Wi;have hAl:=nZ A;have⟨O,B0⟩:=rF w #[Nv f,Nv t,vx,Lv (ia ⟨rb,0,ka⟩) A.length sc] 250;have HA:=h.up O;have v0:=h.aj.iM<|br _;have n0:=mE.start HA.aj<|ja c.mks (.mk 13 st n (x::aN A) f t a) Γ;have H1:=Hx c _ nb l cnt g s Γ dom vx<|HA.part n0.n (hx.af O) sx DH DH;rw[LR]at n0;rw[en,LR];obtain⟨p,a0⟩:∃p,p=(jf (ja c.mks x Γ) λa=>jf ju λv=>lQ c.mks Γ a (.var v) A 0):=⟨_,rfl⟩;have N0:mE c nb l (w.alloc<|Cv #[Nv f,Nv t,vx,Lv (ia ⟨rb,0,ka⟩) A.length sc] 250) g s p (w.alloc<|Cv #[Nv f,Nv t,vx,Lv (ia ⟨rb,0,ka⟩) A.length sc] 250) g s cnt (jf (ja c.mks x Γ) λa=>jf ju λv=>lQ c.mks Γ a (.var v) A 0):=(by rw[a0];exact n0);rw[<-a0];obtain⟨tx,ax,rfl⟩:=hx.iface;obtain⟨W0,HW⟩:∃W,W=w.alloc (Cv #[Nv f,Nv t,Fv tx<|Av ax,Lv (ia ⟨rb,0,ka⟩) A.length sc] 250):=⟨_,rfl⟩;rw[<-HW]at HA N0 B0 O H1;have CZ:∀o,W0.cell? ⟨rb,o,ka⟩=w.cell? ⟨rb,o,ka⟩:=λo=>xi (a:=⟨rb,o,ka⟩)<|O.block rb u0;have HP:∀i(h:i<A.length),PP W0 (λb=>b<c.lo) A[i].1<|vp i:=λi hi=>(hp i hi).af O;have HE:∀i(h:i<A.length),PE W0 (λb=>b<c.lo) A[i].2<|ve i:=λi hi=>(he i hi).af O;have f0:=q9 u0 O.size
 have x0:=h.aj.Wh hg;have K0:=ai O;clear h n0 O hp he hx Hx a0;go_in;go_wp;rw[<-HW];refine H1.mono ?_;rintro e w1(⟨n1,g1,s1,al,T1,rfl,p1,a1,t1,hc1,R⟩|hb)
 .have N1:=N0.and p1 a1 t1;have H2:=ua a1 ae;have R1:=ai R;clear H1 p1 a1 t1 R N0;go_wp2_with fail;refine H2.mono ?_;rintro e w2⟨n2,g2,rfl,p2,a2,U,K,-⟩;have N2:=N1.and p2 a2 U;have⟨b1,b2,b3⟩:=N2.n.bx B0 v0;have ST:MtJ c nb l W0 g s (cnt+1000*(1+nn x+cr (aN A))) p Γ n1 n2 T1 (.var<|al+1) A A.length (Iv 0) w2:=⟨0,al+1,g2,_,ai ag,xf _,rfl,N2,R1.e8 N1.n.a.js U,K,ai (by rw[List.drop_zero];omega)⟩;clear H2 p2 a2 U K N2 N1 R1
  go_wp2
  go_loopg[19] A.length (λgk v wr=>MtJ c nb l W0 g s (cnt+1000*(1+nn x+cr (aN A))) p Γ n1 n2 T1 (.var<|al+1) A gk v wr)
  case atStart=>exact ST
  case round=>
   clear ST b1 b2 b3;obtain⟨j,cj,gj,sj,y0,hj,rfl,at_,R,K,h0⟩:=hrel;have h0:=uh h0;by_cases E:j<A.length
   .have A0:=kK E;have hge:(0:Int)<=(j:Int):=ae;have i0:∀o,wr.cell? ⟨rb,o,ka⟩=w.cell? ⟨rb,o,ka⟩:=λo=>(xi (a:=⟨rb,o,ka⟩)<|at_.n.t.fr.block rb f0 x0).trans<|CZ o;have⟨⟨u,v,d0,d1⟩,d2,d3⟩:=hc j E;rw[<-i0]at d0 d1 d2 d3;clear i0;have pp:=HP j E;have pe:=HE j E;have⟨t1,x1,e1⟩:=pp.iface;have⟨U,x2,e2⟩:=pe.iface;rw[e1]at d2 pp;rw[e2]at d3 pe;have C0:=pp.place;have D0:=pe.place;dsimp only[PlF]at C0 D0;have hdn:=BH E;have hnn:=rO A j E;have k1:Bq wr ((wr.alloc<|Cv #[Iv u,Iv v,Fv t1<|Av x1,Fv U<|Av x2] 247).alloc<|.map #[] 0):=(bw _).alloc ag _;obtain⟨W1,Y⟩:∃W,W=(wr.alloc<|Cv #[Iv u,Iv v,Fv t1<|Av x1,Fv U<|Av x2] 247).alloc (.map #[] 0):=⟨_,rfl⟩;have B1:=(Bx.new wr #[Iv u,Iv v,Fv t1<|Av x1,Fv U<|Av x2] 247).alloc<|.map #[] 0;have E1:ch W1 (wr.heap.size+1) (λ_=>ka) gj sj:=by
     have:=ch.new (wr.alloc<|Cv #[Iv u,Iv v,Fv t1<|Av x1,Fv U<|Av x2] 247) gj sj;rw[Y];simpa using this
    rw[<-Y]at k1 B1;have F:=(at_.af k1).imp λo q=>BI E q;have z0:=at_.n.t.fr.size;have zb:=at_.n.a.je.bx.z;have zz:=at_.n.a.je.z;have zr:=at_.n.a.je.rs.lt;have zm:=at_.n.a.je.ms.lt;have E0:=at_.n.a.iM<|br _;have h:=HA;have j0:∀W:ca,Bq W1 W->aa qv 320 #[nA c.eb,Mv<|wr.heap.size+1,Fv t1<|Av x1] W (pQ c nb l (wr.heap.size+1) (1000*nn A[j].1) (ji c.mks A[j].1 λ_=>ka) gj sj cj W):=λW k=>aep A[j].1 c W nb l cj gj sj _ (λ_=>ka) _ ⟨F.n.a.af k,E1.af k,(pp.move (Q:=λb=>b<c.lo) F.n.t.fr.size (λb p q=>F.n.t.fr.block b q<|h.aj.Wh p)<|λ_ p _=>p).af k,SP j E,⟨ae,ae,ae,ae⟩,ae,hl,h.mf⟩;have b0:=h.en.e8 hl h.aj F.n.a.js F.n.t;have l0:=b0.nob F.n.a;have zen:=b0.lt;have c0:¬jG c gj (wr.heap.size+1) wr.heap.size:=λq=>q.elim E0 λq=>ae;have F0:¬jG c gj (wr.heap.size+1) nb:=λq=>q.elim l0 λq=>by have:=(h.en.e8 hl h.aj at_.n.a.js at_.n.t).lt;omega
    have LP:=lW.start (gb:=wr.heap.size+1) F.n.a<|Wv c.mks Γ T1 (.var<|al+1) A j E;rw[Wv]at LP;have J:=ai F;have RR:=xg R K;have o0:=pe.move (Q:=λb=>b<c.lo) F.n.t.fr.size (λb p q=>F.n.t.fr.block b q<|h.aj.Wh p)<|λ_ p _=>p;have G0:∀b,b<c.lo->¬jG c gj (wr.heap.size+1) b:=λb p q=>q.elim (F.n.a.Wh p) λq=>ae;have e0:=ai B1;have H0:=ai Y;have p0:=ai<|xg h.hd h.mf;obtain⟨c1,c2,c3⟩:=B1;clear at_ F R K pp pe h k1 E1 Y l0;go_wp2_with fail;rw[<-uh H0];go_cut[]from 24 to 33 (λwc=>∃g3 s3 c3 T3 G3 s2,ji c.mks A[j].1 (λ_=>ka) sj (.ok ((T3,G3),s2))/\lW c nb l (wr.heap.size+1) W1 gj sj (Wv c.mks Γ T1 (.var<|al+1) A j E) wc g3 s3 c3 (jf (ja c.mks A[j].2<|jq G3 Γ) λu=>jf (j7 (.var<|al+1) u (jy A[j].2)<|j5 A[j].2) λ_=>lQ c.mks Γ T1 (.var<|al+1) A<|j+1)/\ch wc (wr.heap.size+1) G3 g3 s3/\mN l g3 s3 n1 T1/\mN l g3 s3 n2 (.var<|al+1)/\c3<=cj+1000*nn A[j].1)
    case first=>
     go_region_with(first
      |(go_at_call 320;go_loud(refine(j0 _ (qx _ _).drew).mono ?_);intro e w3 hq;obtain hb|⟨n3,g3,s3,q0,T3,G3,he,p3,Z,N,f3,e3,I0,r3⟩:=hq.symm;go_loud(have HX:=J.abd ((LP.af (qx _ _).drew).bad hb) ae;obtain⟨z,vl,vr,rfl,-⟩:=hb;exact⟨rfl,di.up (qt HX) K0⟩);subst he;have I:=ai<|(LP.af (qx _ _).drew).and p3 Z N f3;have P3:=ai p3;have R3:=ai<|xg (RR.1.e8 LP.a.js N)<|xg (RR.2.e8 LP.a.js N) r3;have E3:=ai e3;have⟨f1,f2,f3⟩:=I.bx e0 c0;clear p3 Z N e3 r3)
      |(go_at_call 324;refine(dv _ _).mono ?_;rintro e w4⟨rfl,k4⟩;have Z:=ai<|I.af k4;have E4:=ai<|E3.af k4;clear k4)
      |(go_at_call 301;go_loud(refine(BV Z.a hl R3.1 R3.2.2 _ _).mono ?_);intro e w5 hq;obtain hb|⟨he,g5,s5,p5,a5,t5⟩:=hq.symm;go_loud(have HX:=J.abd (Z.bad hb.bp) ae;obtain⟨z,vl,vr,rfl,-⟩:=hb;exact⟨rfl,di.up (qt HX) K0⟩);subst he;have N:=ai<|xg (Z.and p5 a5 t5 t5.fg)<|xg (E4.e8 hl Z.a a5.js t5)<|xg (R3.1.e8 Z.a.js t5)<|R3.2.1.e8 Z.a.js t5;clear p5 a5 t5))
     all_goals
      go_wp2_with fail
      go_meet
      case rel=>
       refine⟨_,_,_,_,_,_,P3,N.1,N.2.1,N.2.2.1,N.2.2.2,?_⟩;omega
    case rest=>
     obtain⟨g3,s3,q0,T3,G3,s2,p3,I,e3,R,K,I0⟩:=hcut;have dm:=Gh (SP j E) p3 p0.1;have r0:=b0.stg hl LP.a I.a.js I.t I.f F0;have t0:=o0.move (Q:=λb=>b<c.lo) I.f.size (λb p q=>I.f.block b q<|G0 b p)<|λ_ p _=>p;have J0:∀W:ca,Bq wc W->aa qv 300 #[nA c.eb,Mv<|wr.heap.size+1,Fv U<|Av x2] W (di c nb l (1000*nn A[j].2) (ja c.mks A[j].2<|jq G3 Γ) g3 s3 q0 W):=λW k=>py (He j E) (I.a.af k) (r0.af k) (e3.af k) (t0.af k) (SE j E) dm ae ae p0.2;have R3:=xg R K;have⟨f1,f2,f3⟩:=I.bx e0 c0;clear e3 R K r0 t0 dm p3 j0 LP RR c1 c2 c3 o0
     go_wp2
     go_region_with(first
      |(go_at_call 300;go_loud(refine(J0 _ (qx _ _).drew).mono ?_);intro e w3 hq;obtain hb|⟨n4,g4,s4,c4,T4,he,p4,a4,t4,hc4,r4⟩:=hq.symm;go_loud(have HX:=J.abd ((I.af (qx _ _).drew).bad hb.bp) ae;obtain⟨z,vl,vr,rfl,-⟩:=hb;exact⟨rfl,di.up (qt HX) K0⟩);subst he;have Z:=ai<|(I.af (qx _ _).drew).and p4 a4 t4 t4.fg;have R4:=ai<|xg (R3.1.e8 I.a.js t4)<|xg (R3.2.e8 I.a.js t4) r4;have⟨m1,m2,m3⟩:=Z.bx e0 c0;clear p4 a4 t4 r4)
      |(go_at_call 324;refine(dv _ _).mono ?_;rintro e w4⟨rfl,k4⟩;have N:=ai<|Z.af k4;clear k4)
      |(go_at_call 301;go_loud(refine(BV N.a hl R4.2.1 R4.2.2 _ _).mono ?_);intro e w5 hq;obtain hb|⟨he,g6,s6,p6,a6,Z⟩:=hq.symm;go_loud(have HX:=J.abd (N.bad hb.bp) ae;obtain⟨z,vl,vr,rfl,-⟩:=hb;exact⟨rfl,di.up (qt HX) K0⟩);subst he;have N6:Hid (MtJ c nb l W0 g s (cnt+1000*(1+nn x+cr (aN A))) p Γ n1 n2 T1 (.var<|al+1) A (A.length-(j+1)) (.int .i64 ((j+1:Nat):Int)) w5):=ai ⟨j+1,c4,g6,s6,ai rfl,E,rfl,J.ofP (N.and p6 a6 Z Z.fg) ae,R4.1.e8 N.a.js Z,R4.2.1.e8 N.a.js Z,ai ae⟩;clear p6 a6 Z))
     all_goals
      go_wp2
      go_roundg(A.length-(j+1))
      case measure=>rw[uh y0];omega
      case rel=>exact N6
   .have A0:¬(j:Int)<(A.length:Int):=ae;have F:j=A.length:=ae;subst F;have HX:=(((at_.imp λo q=>Gi _ _ _ _ _ _ _ q).ret K (D:=1000*(1+nn x+cr (aN A))) (cnt0:=cnt) ae)).up K0;clear at_ R K
    go_wp2
    go_ret;exact HX
 .have HX:=N0.bad hb;obtain⟨z,vl,vr,rfl,-⟩:=hb;clear H1;exact DN
end
def agC rc st x(Γ:jj)c nb l D g(s:jh)cnt w e w':=
 (∃n g' s' aR T,e=.returned (nA n)/\jk rc st x (ja c.mks x) Γ s (.ok (T,s'))/\AJ w' c nb l aR g' s'/\fS l c w g s w' g' s'/\aR<=cnt+D/\A9 g' s' (jp (lI rc st Γ) s'.k T<|jo x) n)\/r8 c (jk rc st x (ja c.mks x) Γ) g s w e w'
section
variable {cnt:Nat}
def AJ.SO(a:AJ w c nb l cnt g s)l'(i:l<=l'):AJ (w.setCell ⟨c.eb,4,ka⟩<|Nv l') c nb l' cnt g s:=a.eng (f_ _ _ _ _) (a.je.bx.aW 4 _ _ rfl ag) i
def GH(Hx:iW x)(h:BdJ rc st x c w nb l cnt g s Γ dom v)(fb:l+1+nn x<=805):aa qv 288 #[nA c.eb,.agg #[.bool rc,Nv a,Nv y,.string st,v]] w (agC rc st x Γ c nb l (1000*(1+nn x)) g s cnt w):=by
 have fa:=h.fa;have U:=f_ w c.eb 4<|Iv<|(l:Int)+1;have k1:Bq (w.setCell ⟨c.eb,4,ka⟩<|Iv<|(l:Int)+1) ((w.setCell ⟨c.eb,4,ka⟩<|Iv<|(l:Int)+1).alloc<|Cv #[.bool rc,Nv a,Nv y,Sv st,v] 101):=bw _;have h1:=h.aj.iM<|br _;have b1:=Bx.at (w.setCell ⟨c.eb,4,ka⟩<|Iv<|(l:Int)+1) #[.bool rc,Nv a,Nv y,Sv st,v] 101 w.heap.size U.size.symm;have ze:=h.aj.je.bx.z;have a1:=(h.aj.SO (l+1)<|Nat.le_succ l).af k1;have I:=(h.pe.move (w':=w.setCell ⟨c.eb,4,ka⟩<|Iv<|(l:Int)+1) (Q:=λb=>b<c.lo) (qz U.size.symm) (λb p _=>U.block b λe=>by have:=h.aj.je.z;omega)<|λ_ p _=>p).af k1;have J:=(h.en.one U<|h.en.ac7 h.aj.je).af k1;obtain⟨W1,O⟩:∃W,W=(w.setCell ⟨c.eb,4,ka⟩<|Iv<|(l:Int)+1).alloc (Cv #[.bool rc,Nv a,Nv y,Sv st,v] 101):=⟨_,rfl⟩;have a0:Fr (jS c g) w W1:=by rw[O];exact(U.fr<|qt<|qu rfl).trans (xh k1)
 have a1:AJ W1 c nb (l+1) cnt g s:=by rw[O];exact a1
 have J:ch W1 nb Γ g s:=by rw[O];exact J
 have I:PE W1 (λb=>b<c.lo) x v:=by rw[O];exact I
 have b1:Bx W1 w.heap.size #[.bool rc,Nv a,Nv y,Sv st,v]:=by rw[O];exact b1
 have t1:fS (l+1) c w g s W1 g s:={fS.refl h.aj.js c (l+1)with fr:=a0};have H1:=Wq (a:=a) (y:=y) Hx ⟨a1,J,I,h.sc,h.hd,h.fa,fb,h.mf⟩;have nm:∀y d,Γ y=ia d->∃m,A9 g s d m:=λy d q=>by
  have⟨L,_,i⟩:=h.en;obtain⟨Y,_⟩|⟨d',m,Y,_,q3⟩:=i y
  .rw[Y]at q;cases q
  .rw[Y]at q;injection q with q;subst q;exact⟨m,q3⟩
 have l1:l+1<aL:=Wi;have HK:∀w2 w4 w5 n2 g2 s2 dH T2 bh cJ D,jk rc st x (ja c.mks x) Γ s (.ok (T2,s2))->AJ w2 c nb (l+1) dH g2 s2->fS (l+1) c W1 g s w2 g2 s2->mN (l+1) g2 s2 n2 T2->dH<=cnt+1000*(1+nn x)->Below w2.heap.size (w2.setCell ⟨c.eb,4,ka⟩<|Nv l) w4->GL w5 g2.ds g2.str bh g2.vr g2.ly cJ->Fr (λb=>b∈g2.ds) w4 w5->iK g2.str g2.nx bh->TpD (if jo x then aL else l) g2 cJ n2 l D->agC rc st x Γ c nb l (1000*(1+nn x)) g s cnt w (Rv<|nA n2) w5:=λw2 w4 w5 n2 g2 s2 dH T2 bh cJ D p2 a2 t2 r2 hc k4 hg F e d=>by
  have o:=f_ w2 c.eb 4<|Nv l;have i:Fr (jS c g2) w2 w5:=((o.fr<|qt<|qu rfl).trans<|xh<|k4.mono<|qz o.size).trans<|F.fU λb q=>qt<|qt q;have j:=((a2.je.bx.aW 4 (Nv l) (SL c nb l) rfl ag).below (k4.mono<|qz o.size)).fr F (a2.je.yA a2.js);have K:=(((a2.je.ct.one o<|xq a2.je.ne.1).below<|k4.mono<|qz o.size).fr F<|a2.je.yB a2.js);have⟨N,R,Z,n5⟩:=SU h.aj l1 nm a2 (t1.trans h.aj.js a1.js a2.js t2) r2 p2 hg e d i<|a2.je.fr a2.js i j K;exact qu ⟨n2,N,s2,dH,T2,rfl,p2,R,Z,hc,n5⟩
 have HF:=And.intro t1.fr<|λb=>h.aj.Wh (b:=b);have f4:=h.aj.je.bx.c 4;have f5:=h.aj.je.bx.f 4;have HV:=And.intro I b1;obtain⟨tx,ax,rfl⟩:=h.pe.iface;obtain⟨c1,c2,c3⟩:=b1;go_in;go_wp;rw[<-O];refine H1.mono ?_;rintro e w2(⟨n2,g2,s2,dH,T2,rfl,P2,i,j,Z,R⟩|hb)
 .have o:=f_ w2 c.eb 4<|Nv l;have f6:=i.je.bx.c 4;have f7:=i.je.bx.f 4;have zl:=c3;have bb:=HV.2.fr j.fr h1;have⟨d1,d2,d3⟩:=bb.one o ae;have b0:=(HV.1.move (Q:=λb=>b<c.lo) j.fr.size (λb p q=>j.fr.block b q<|HF.2 b p)<|λ_ p _=>p).move (w':=w2.setCell ⟨c.eb,4,ka⟩<|Nv l) (Q:=λb=>b<c.lo) (qz o.size.symm) (λb p _=>o.block b λe=>by have:=i.je.z;omega)<|λ_ p _=>p;have HI:=pf x _ _ _ b0;have b3:=((i.je.bx.aW 4 (Nv l) (SL c nb l) rfl ag).c 4);go_wp2_with fail;refine HI.mono ?_;rintro e w4⟨rfl,K4⟩;have g4:=((i.js.eb i.je<|f_ w2 c.eb 4<|Nv l).af K4).gl;have l4:=((i.je.bx.aW 4 (Nv l) (SL c nb l) rfl ag).below K4).c 4
  cases hv:jo x with
  |true=>
   have HG:=ad_ (fp g2.ds g2.lv l) w4 g2.nx g2.lv n2 l g4 R.mem<|br _;go_wp2_with fail;refine HG.mono ?_;rintro e w5⟨rfl,K,N,D,hg,F,E,z5,d⟩;have HX:=HK w2 w4 w5 n2 g2 s2 dH T2 K N D P2 i j R Z (K4.mono<|qz (f_ w2 c.eb 4<|Nv l).size.symm) hg F E (by rw[hv,if_pos rfl];exact d.tp i.js l1 R)
   go_wp2
   go_ret;exact HX
  |false=>
   have HG:=DQ (dp g2.ds g2.lv l) w4 g2.nx g2.lv n2 l g4 R.mem<|br _;go_wp2_with fail;refine HG.mono ?_;rintro e w5⟨rfl,K,N,D,hg,F,E,z5,d⟩;have HX:=HK w2 w4 w5 n2 g2 s2 dH T2 K N D P2 i j R Z (K4.mono<|qz (f_ w2 c.eb 4<|Nv l).size.symm) hg F E (by rw[hv,if_neg ag];exact d.tp i.js l1 R)
   go_wp2
   go_ret;exact HX
 .have HX:=show r8 c (jk rc st x (ja c.mks x) Γ) g s w e w2 from by obtain⟨z,vl,vr,Y,q2,q3,K⟩:=hb;exact⟨z,vl,vr,Y,q2,q3,HF.1.trans K⟩
  exact DL
end
section
variable {cnt:Nat} {p:jc Ty}
def Dsj w c nb l cnt D(p:jc Ty)g(s:jh)fn T xs:=
 (∀W:ca,Bq w W->aa qv fn #[nA c.eb,.agg xs] W (di c nb l D p g s cnt W))->aa qv 298 #[nA c.eb,.iface T<|.agg xs] w (di c nb l D p g s cnt w)
def dj:
 (∀{st},Dsj w c nb l cnt D p g s 304 197 #[Nv f,Nv t,.string st])/\
 (∀{tx ty ax ay},Dsj w c nb l cnt D p g s 307 258 #[Nv f,Nv t,.iface tx<|.agg ax,.iface ty<|.agg ay])/\
 (∀{tx ty ax ay},Dsj w c nb l cnt D p g s 312 269 #[Nv f,Nv t,.iface tx<|.agg ax,.iface ty<|.agg ay])/\
 (∀{tx ty tz ax ay az},Dsj w c nb l cnt D p g s 309 243 #[Nv f,Nv t,.iface tx<|.agg ax,.iface ty<|.agg ay,.iface tz<|.agg az])/\
 (∀{n sc sa tx ax},Dsj w c nb l cnt D p g s 310 250 #[Nv f,Nv t,.iface tx<|.agg ax,.slice sa n sc]):=by
 refine⟨?_,?_,?_,?_,?_⟩;all_goals
  intros;intro H;go_in;go_wp;refine(H _<|bw _).mono ?_;intro e w1 i;have j:=ai<|i.up<|bw _;obtain⟨n1,-,-,-,-,rfl,-⟩|⟨z,vl,vr,rfl,-⟩:=i
  .go_wp2
   go_ret;exact j
  .go_wp2
   exact⟨rfl,j⟩
def DR{T}(j:T=200/\cn=t_/\(∃n:Nat,xs=#[Nv f,Nv t,Nv n])\/T=203/\cn=lV/\(∃n:Bool,xs=#[Nv f,Nv t,.bool n])\/T=254/\cn=kQ/\xs=#[Nv f,Nv t])(o:AJ w c nb l cnt g s)(hc:cnt+1<=900000):aa qv 298 #[nA c.eb,.iface T<|.agg xs] w (di c nb l 1000 (jl<|.aM cn []) g s cnt w):=by
 have E:p_ cn:=by obtain⟨-,rfl,-⟩|⟨-,rfl,-⟩|⟨-,rfl,-⟩:=j;exact mH;exact kO;exact r_
 have i:Bq w (w.alloc<|Cv xs T):=bw _;have F:=SY (o.af i) E hc;have N0:=mE.start (o.af i)<|jl<|Ty.aM cn [];have I:=ai i;obtain⟨rfl,rfl,n,rfl⟩|⟨rfl,rfl,n,rfl⟩|⟨rfl,rfl,rfl⟩:=j;all_goals
  go_in;go_wp;first|refine rN.mono ?_|refine nY.mono ?_|refine yF.mono ?_
  rintro e w1⟨rfl,rfl⟩;go_wp2_with fail;refine F.mono ?_;rintro e w2⟨n2,g2,dH,rfl,J,K,c2,N⟩;have O:=((N0.step J K).ret (D:=1000) (cnt0:=cnt) N ae).up I
  go_wp2
  go_ret;exact O
end
structure lM nd c nb l w0 cnt0 g0(s0:jh)(Γ:jj)dom v D(q:jc Ty)(P:ca->gD->jh->Prop)(s:jh)cnt g w:Prop where
 h:mP nd c w0 nb l cnt0 g0 s0 Γ dom v
 n:mE c nb l w0 g0 s0 (ja c.mks nd Γ) w g s cnt q
 lv:∀w' g' s' k,AJ w' c nb l k g' s'->fS l c w g s w' g' s'->P w' g' s'
 cn:cnt+D<=cnt0+1000*nn nd
section
variable {cnt D2:Nat} {q2:jc Ty} {P P':ca->gD->jh->Prop} {post:ga->ca->Prop}
def lM.start(h:mP nd c w0 nb l cnt0 g0 s0 Γ dom v)(e:ja c.mks nd Γ=q):lM nd c nb l w0 cnt0 g0 s0 Γ dom v (1000*nn nd) q (λ_ _ _=>True) s0 cnt0 g0 w0:=⟨h,⟨.refl h.aj,λo k=>e▸k⟩,λ_ _ _ _ _ _=>trivial,br _⟩
def lM.p(H:lM nd c nb l w0 cnt0 g0 s0 Γ dom v D q P s cnt g w):P w g s:=H.lv w g s _ H.n.n.a<|.refl H.n.n.a.js c l
def lM.hl(H:lM nd c nb l w0 cnt0 g0 s0 Γ dom v D q P s cnt g w):l<aL:=by have:=H.h.fb;rw[aL];omega
def lM.next(H:lM nd c nb l w0 cnt0 g0 s0 Γ dom v D q P s cnt g w)(i:AJ w1 c nb l al g1 s1)(j:fS l c w g s w1 g1 s1)(E:∀o,q2 s1 o->q s o)(hc:al+D2<=cnt+D):lM nd c nb l w0 cnt0 g0 s0 Γ dom v D2 q2 P s1 al g1 w1:=
 ⟨H.h,⟨H.n.n.next i j,λo k=>H.n.p o<|E o k⟩,λw' g' s' k a t=>H.lv w' g' s' k a<|fS.trans H.n.n.a.js i.js a.js j t,qBw⟩
def lM.add(H:lM nd c nb l w0 cnt0 g0 s0 Γ dom v D q P s cnt g w)(h:∀w' g' s' k,AJ w' c nb l k g' s'->fS l c w g s w' g' s'->P' w' g' s'):lM nd c nb l w0 cnt0 g0 s0 Γ dom v D q (λw g s=>P w g s/\P' w g s) s cnt g w:=⟨H.h,H.n,λw g s k a t=>⟨H.lv w g s k a t,h w g s k a t⟩,H.cn⟩
def lM.rs(H:lM nd c nb l w0 cnt0 g0 s0 Γ dom v D q P s cnt g w)(r:mN l g s m T):lM nd c nb l w0 cnt0 g0 s0 Γ dom v D q (λw g s=>P w g s/\mN l g s m T) s cnt g w:=H.add λ_ _ _ _ _ t=>r.e8 H.n.n.a.js t
def lM.af(H:lM nd c nb l w0 cnt0 g0 s0 Γ dom v D q P s cnt g w)(k:Bq w w1):lM nd c nb l w0 cnt0 g0 s0 Γ dom v D q P s cnt g w1:=H.next (H.n.n.a.af k) {fS.refl H.n.n.a.js c l with fr:=xh k} (λ_ h=>h) (br _)
def lM.box{t}(H:lM nd c nb l w0 cnt0 g0 s0 Γ dom v D q P s cnt g w):lM nd c nb l w0 cnt0 g0 s0 Γ dom v D q (λw' g s=>P w' g s/\Bx w' w.heap.size C) s cnt g (w.alloc<|.cells C t):=
 (H.af<|bw _).add λ_ _ _ _ _ u=>(Bx.new w C t).fr u.fr<|H.n.n.a.iM<|br _
def lM.no{m}{k:α->jc Ty}(H:lM nd c nb l w0 cnt0 g0 s0 Γ dom v D (jf m k) P s cnt g w)(b:r8 c m g s w e w1):∃f a r,e=L8 f a r/\di c nb l (1000*nn nd) (ja c.mks nd Γ) g0 s0 cnt0 w0 e w1:=by
 have B:=H.n.bad b;obtain⟨z,vl,vr,rfl,-⟩:=b;exact⟨_,_,_,rfl,qt B⟩
def lM.ex{k}(H:lM nd c nb l w0 cnt0 g0 s0 Γ dom v D (jf (ja c.mks x Γ) k) P s cnt g w)(J:iW x)(K:PE w0 (λb=>b<c.lo) x vx)(N:ScE c.mks c.nl dom x)(O:∀T m s' aR g' w',lM nd c nb l w0 cnt0 g0 s0 Γ dom v D2 (k T) (λw g s=>P w g s/\mN l g s m T) s' aR g' w'->post (.returned<|nA m) w')(hD:D2+1000*nn x<=D)(R:nn x<=nn nd)(i:∀f a r w',di c nb l (1000*nn nd) (ja c.mks nd Γ) g0 s0 cnt0 w0 (L8 f a r) w'->post (L8 f a r) w':=by exact λ_ _ _ _ h=>⟨rfl,h⟩):aa qv 298 #[nA c.eb,vx] w post:=by
 refine(J c w nb l cnt g s Γ dom vx<|H.h.part H.n.n K N qBw R).mono ?_;rintro e w1(⟨m,g1,s1,al,T,rfl,j,E,F,c1,I⟩|hb)
 .exact O T m s1 al g1 w1 ((H.next E F (λo h=>qt ⟨T,s1,j,h⟩) ae).rs I)
 .obtain⟨f,a,r,rfl,B⟩:=H.no hb;exact i _ _ _ _ B
def lM.eq{k}{Y}(H:lM nd c nb l w0 cnt0 g0 s0 Γ dom v D (jf (j7 X Y f t) k) P s cnt g w)(I:mN l g s a X)(rb:mN l g s b Y)(J:∀s' g' w',lM nd c nb l w0 cnt0 g0 s0 Γ dom v D (k ()) P s' cnt g' w'->post (.returned<|.tuple #[]) w')(i:∀f a r w',di c nb l (1000*nn nd) (ja c.mks nd Γ) g0 s0 cnt0 w0 (L8 f a r) w'->post (L8 f a r) w':=by exact λ_ _ _ _ h=>⟨rfl,h⟩):aa qv 301 #[nA a,nA b,.agg #[Nv f,Nv t]] w post:=by
 refine(BV H.n.n.a H.hl I rb f t).mono ?_;rintro e w1(⟨rfl,g1,s1,j,E,F⟩|hb)
 .exact J s1 g1 w1 (H.next E F (λo h=>qt ⟨(),s1,j,h⟩)<|br _)
 .obtain⟨f,a,r,rfl,B⟩:=H.no hb;exact i _ _ _ _ B
def lM.ret{X}{m}(H:lM nd c nb l w0 cnt0 g0 s0 Γ dom v D (jl X) P s cnt g w)(r:mN l g s m X):di c nb l (1000*nn nd) (ja c.mks nd Γ) g0 s0 cnt0 w0 (.returned<|nA m) w:=H.n.ret r qBw
def lM.nde{D3 al}(H:lM nd c nb l w0 cnt0 g0 s0 Γ dom v D q P s cnt g w)(i:AJ w1 c nb l al g1 s)(j:fS l c w g s w1 g1 s)(hc:al<=cnt+D3)(r:mN l g1 s m X)(hD:D2+D3<=D):lM nd c nb l w0 cnt0 g0 s0 Γ dom v D2 q (λw g s=>P w g s/\mN l g s m X) s al g1 w1:=(H.next i j (λ_ h=>h) ae).rs r
end
section
variable {cnt:Nat} {y:Nd}
def abe(Hx:iW x)(Hy:iW y)(h:mP (.mk 8 st n [x,y] f t a) c w nb l cnt g s Γ dom v)(i:PE w (λb=>b<c.lo) x vx)(j:PE w (λb=>b<c.lo) y vy):
 aa qv 312 #[nA c.eb,.agg #[Nv f,Nv t,vx,vy]] w (di c nb l (1000*nn (.mk 8 st n [x,y] f t a)) (ja c.mks (.mk 8 st n [x,y] f t a) Γ) g s cnt w):=by
 have en:nn (.mk 8 st n [x,y] f t a)=1+nn x+nn y:=Lq;obtain⟨Z,sy⟩:ScE c.mks c.nl dom x/\ScE c.mks c.nl dom y:=by
  cases h.sc with
  |two _ _ _ _ _ _ _ _ _ _ i j=>exact⟨i,j⟩|lt _ _ _ _ _ _ _ _ _ _ hc=>omega
 have fa:=h.fa;rw[en]at fa;have H:=lM.start h<|Gf ..
 replace en:=ai en
 clear h;have HX:=ai i;have HY:=ai j;obtain⟨tx,ax,rfl⟩:=i.iface;obtain⟨ty,ay,rfl⟩:=j.iface;clear i j;go_in;go_wp;refine H.box.ex (D2:=1000*(1+nn y)) Hx HX Z ?_ p8 p8;intro T1 n1 s1 al g1 w1 H;have⟨⟨_,F,I,J⟩,_⟩:=H.p;go_wp2_with fail;refine H.ex (D2:=1000) Hy HY sy ?_ ae p8;intro T2 n2 s2 dH g2 w2 H;have cn:=H.cn;go_wp2_with fail;refine(ua H.n.n.a (by rw[uh en]at cn;omega)).mono ?_;rintro e w3⟨n3,g3,rfl,p3,K,N,O,-⟩;have H:=(H.next (D2:=999) K N (λo h=>Or.inr ⟨_,_,p3,h⟩) ae).rs O;clear F I J K N O;have⟨⟨⟨⟨_,F,I,J⟩,_⟩,_⟩,_⟩:=H.p
 go_wp2
 go_region_with(first
  |(go_at_call 308;go_loud(refine(ac_ (H.n.n.a.af (qx _ _).drew) H.p.1.2 H.p.2).mono ?_);rintro e w4⟨n4,g4,rfl,R,U,Y⟩;have E:=ai<|(H.af (qx _ _).drew).nde (D2:=999) (D3:=0) R U ae Y ae;have⟨⟨⟨⟨⟨_,d1,d2,d3⟩,_⟩,_⟩,_⟩,_⟩:=E.p;clear R U Y)
  |(go_at_call 301;go_loud(refine lM.eq (uh E) E.p.1.1.1.2 E.p.2 ?_);intro s5 g5 w5 E))
 all_goals
  go_wp2
  go_ret;exact E.ret E.p.1.2
def S9(Hx:iW x)(Hy:iW y)(Hz:iW z)(h:mP (.mk 12 st n [x,y,z] f t a) c w nb l cnt g s Γ dom v)(j:PE w (λb=>b<c.lo) x vx)(F:PE w (λb=>b<c.lo) y vy)(o:PE w (λb=>b<c.lo) z vz):
 aa qv 309 #[nA c.eb,.agg #[Nv f,Nv t,vx,vy,vz]] w (di c nb l (1000*nn (.mk 12 st n [x,y,z] f t a)) (ja c.mks (.mk 12 st n [x,y,z] f t a) Γ) g s cnt w):=by
 have en:nn (.mk 12 st n [x,y,z] f t a)=1+nn x+nn y+nn z:=Lq;obtain⟨sx,sy,sz⟩:ScE c.mks c.nl dom x/\ScE c.mks c.nl dom y/\ScE c.mks c.nl dom z:=by
  cases h.sc with
  |ite _ _ _ _ _ _ _ _ _ j F o=>exact⟨j,F,o⟩
 have fa:=h.fa;rw[en]at fa;have H:=lM.start h<|Ol ..
 replace en:=ai en
 clear h;have HX:=ai j;have HY:=ai F;have HZ:=ai o;obtain⟨O,R,rfl⟩:=j.iface;obtain⟨U,Y,rfl⟩:=F.iface;obtain⟨Z,az,rfl⟩:=o.iface;have K:=j.place;have N:=o.place;dsimp only[PlF]at K N;clear j F o;go_in;go_wp;have H:=H.box (C:=#[Nv f,Nv t,Fv O<|Av R,Fv U<|Av Y,Fv Z<|Av az]) (t:=243);go_cut[]from 7 (λwc=>∃s1 al g1,lM (.mk 12 st n [x,y,z] f t a) c nb l w cnt g s Γ dom v (1000*(nn y+nn z)+500) (In.andM (In.inf c.mks y Γ) λb=>In.andM (In.inf c.mks z Γ) λd=>In.andM (In.tG b d (In.iG z)<|In.wO z) λ_=>In.dl b) (λw' _ _=>Bx w' w.heap.size #[Nv f,Nv t,Fv O<|Av R,Fv U<|Av Y,Fv Z<|Av az]) s1 al g1 wc)
 case first=>
  have⟨_,c1,c2,c3⟩:=H.p
  go_region_with(first
   |(go_at_call 298;go_loud(refine(H.af (qx _ _).drew).ex (D2:=1000*(nn y+nn z)+1000) Hx HX sx ?_ p8 p8);intro T1 n1 s1 al g1 w1 i;replace i:=ai i;have⟨⟨_,d1,d2,d3⟩,_⟩:=i.p)
   |(go_at_call 73;refine(nY).mono ?_;rintro e w4⟨rfl,rfl⟩)
   |(go_at_call 290;go_loud(refine(SY i.n.n.a kO (by have cn:=i.cn;rw[uh en]at cn;omega)).mono ?_);rintro e w2⟨n2,g2,E,rfl,J,t2,I,r2⟩;have H2:=ai<|lM.nde (D2:=1000*(nn y+nn z)+500) (uh i) J t2 I r2 ae;have⟨⟨⟨_,e1,e2,e3⟩,_⟩,_⟩:=H2.p;clear J t2 r2)
   |(go_at_call 324;refine(dv _ _).mono ?_;rintro e w5⟨rfl,I⟩;have i:=ai<|lM.af (uh H2) I;clear I)
   |(go_at_call 301;go_loud(refine lM.eq (uh i) i.p.1.2 i.p.2 ?_);intro s6 g6 w6 i))
  all_goals
   go_wp2_with fail
   go_meet
   case rel=>exact⟨_,_,_,i.h,i.n,λw' g' s' k a t=>(i.lv w' g' s' k a t).1.1.2,i.cn⟩
 case rest=>
  clear H;obtain⟨s1,al,g1,H⟩:=hcut;have⟨i,I,J⟩:=H.p;go_wp2_with fail;refine H.ex (D2:=1000*nn z+500) Hy HY sy ?_ ae p8;intro T2 n2 s2 E g2 w2 H;clear i I J;have⟨⟨i,I,J⟩,_⟩:=H.p;go_wp2_with fail;refine H.ex (D2:=500) Hz HZ sz ?_ ae p8;intro T3 n3 s3 Vz g3 w3 H;clear i I J;have⟨⟨⟨i,I,J⟩,_⟩,_⟩:=H.p;go_wp2_with fail;refine(dv _ _).mono ?_;rintro e w4⟨rfl,k4⟩;have H:=H.af k4;go_wp2_with fail;refine H.eq H.p.1.2 H.p.2 ?_;intro s5 g5 w5 H
  go_wp2
  go_ret;exact H.ret H.p.1.2
end
section
variable {cnt:Nat}
def Ww{y}(Hx:iW x)(h:mP (.mk 14 st n [x,y] f t a) c w nb l cnt g s Γ dom v)(F:PE w (λb=>b<c.lo) x vx)(N:PT w (λb=>b<c.lo) y vy):
 aa qv 307 #[nA c.eb,.agg #[Nv f,Nv t,vx,vy]] w (di c nb l (1000*nn (.mk 14 st n [x,y] f t a)) (ja c.mks (.mk 14 st n [x,y] f t a) Γ) g s cnt w):=by
 have en:nn (.mk 14 st n [x,y] f t a)=1+nn x+nn y:=Lq;obtain⟨sx,i,j⟩:ScE c.mks c.nl dom x/\vars [] (bm []<|es y).1=[]/\size (bm []<|es y).1<=1000:=by
  cases h.sc with
  |of _ _ _ _ _ _ _ _ F i j _=>exact⟨F,i,j⟩|two _ _ _ _ _ _ _ _ _ hk=>omega|lt _ _ _ _ _ _ _ _ _ _ hk=>omega
 have⟨n0,R⟩:=adf N [] (λm o=>by have:=In.aE.2 o;rw[i]at this;cases this) j;have I:=Wx c.mks st n x y f t a Γ i;rw[R]at j i I;obtain⟨M,U⟩:∃M,M=m0 y:=⟨_,rfl⟩;have E:=adg y n0;rw[DS]at E;rw[<-U]at i j E I;dsimp only at i j I;have hT:∀v,¬aA v M:=λv o=>by have:=In.aE.2 o;rw[i]at this;cases this
 have fa:=h.fa;rw[en]at fa;have hny:=tT y;have H:=lM.start h I;have HL:∀b,b<c.lo->¬jS c g b:=λb p=>h.aj.Wh p
 replace en:=ai en
 clear h I U R;have HX:=ai F;have HY:=ai N;obtain⟨tx,ax,rfl⟩:=F.iface;obtain⟨ty,ay,rfl⟩:=N.dI;have O:=F.place;dsimp only[PlF]at O;clear F N;go_in;go_wp;refine H.box.ex (D2:=2000) Hx HX sx ?_ p8 p8;intro T1 n1 s1 al g1 w1 H;have⟨⟨_,Y,Z,b3⟩,_⟩:=H.p;have J:=H.n.n.t.fr;have HO:=E w1 _ _<|HY.move (Q:=λb=>b<c.lo) J.size (λb p q=>J.block b q<|HL b p)<|λ_ p _=>p;go_wp2_with fail;refine HO.mono ?_;rintro e w2⟨u2,rfl,K,F2⟩;obtain⟨tu,xu,rfl⟩:=K.iface;have zc:=H.n.n.a.je.ct.z;have H:=H.af<|F2.none λ_ q=>q;have cn:=H.cn;go_wp2_with fail;refine(Wk H.n.n.a K (λb p=>by have:w1.heap.size<=b:=p;omega) j hT (by rw[uh en]at cn;omega)).mono ?_;rintro e w3⟨n3,g3,Vz,rfl,a3,t3,c3,r3⟩;have H:=H.nde (D2:=500) a3 t3 c3 r3 ae;clear Y Z b3 a3 t3 r3;have⟨⟨⟨_,Y,Z,b3⟩,_⟩,_⟩:=H.p;go_wp2_with fail;refine(dv _ _).mono ?_;rintro e w4⟨rfl,k4⟩;have H:=H.af k4;go_wp2_with fail;refine H.eq H.p.1.2 H.p.2 ?_;intro s5 g5 w5 H
 go_wp2
 go_ret;exact H.ret H.p.2
end
section
variable {cnt:Nat} {P:Nat->Prop}
abbrev DT(c:JC)(t:xo)(vs:List xo)ms fU:={c with mks:=jz t vs ms c.mks,fU:=fU}
def S_(h:AJ w c nb l cnt g s)(R:c.rb≠c.mb){t}{vs}{ms}{f x}{vv vm}(U:RowV QName 3 w P vs vv)(Y:RowV QMaker 6 w P ms vm)(hd:TdF t vs ms):
 aa qv 286 #[nA c.eb,.agg #[Iv f,Iv x,Nv t.ah,Nv t.to,.string t.text,vv,vm]] w (λe w'=>e=.returned (.tuple #[])/\Fr (λi=>i=c.mb) w w'/\AJ w' (DT c t vs ms w'.heap.size) nb l cnt g s):=by
 obtain⟨w0,o⟩:∃w0,w0=w.alloc (Cv #[Iv f,Iv x,Nv t.ah,Nv t.to,Sv t.text,vv,vm] 96):=⟨_,rfl⟩;have F:Bq w w0:=by rw[o];exact bw _
 have Z:Bx w0 w.heap.size #[Iv f,Iv x,Nv t.ah,Nv t.to,Sv t.text,vv,vm]:=by rw[o];exact Bx.new w #[Iv f,Iv x,Nv t.ah,Nv t.to,Sv t.text,vv,vm] 96
 have I:=h.af F;have zm:=I.je.ms.lt;have zc:=I.je.ct.z;have N:∀W:ca,Bq w0 W->aa qv 229 #[Av #[Iv f,Iv x,Nv t.ah,Nv t.to,Sv t.text,vv,vm]] W (λe w'=>∃b,e=Rv (Mv b)/\Bq W w'/\W.heap.size<=b/\mI w' (λi=>W.heap.size<=i) b (jz t vs ms λ_=>ka)):=λW hb=>by
  have j:=F.trans<|hb.mono F.size;exact Gk (U.move eI j.size (λb _ z=>j.block b z)<|λ_ p _=>p) (Y.move cS j.size (λb _ z=>j.block b z)<|λ_ p _=>p) hd
 have O:Hid (∀(W:ca)(b:Nat),Bq w0 W->w0.heap.size<=b->mI W (λi=>w0.heap.size<=i) b (jz t vs ms λ_=>ka)->aa qv 228 #[Mv c.mb,Mv b] W (λe w'=>e=Rv (.tuple #[])/\Fr (λi=>i=c.mb) w w'/\AJ w' (DT c t vs ms w'.heap.size) nb l cnt g s)):=ai λW b hb hz hM=>by
  have j:=I.af hb;have⟨L,J,_⟩:=id j.je.ms;have zb:=hM.lt;have zs:=hb.size;have h1:mI W (λi=>i≠c.cb/\i≠c.mb/\i<W.heap.size) c.mb c.mks:=(j.je.ms.rT<|J.bE 0).move (br _) rfl (λ_ _ _=>rfl) (λi p z=>⟨p.1.1,p.2,z⟩);have h2:mI W (λi=>i≠c.cb/\i≠c.mb/\i<W.heap.size) b (jz t vs ms λ_=>ka):=hM.move (br _) rfl (λ_ _ _=>rfl) (λi p z=>⟨qBv,qBv,z⟩);refine(Ou h1 h2 (λq=>q.2.1 rfl) (λi p=>p.2.2) ae).mono ?_;rintro e w'⟨rfl,K,E⟩;rw[<-yv]at K;have⟨n1,n2,n3,n4,n5⟩:=j.je.ne;have z3:=E.size;refine⟨rfl,(xh<|F.trans<|hb.mono F.size).trans E,⟨j.je.bx.fr E<|xq n5,j.je.ct.fr E<|xq n4,j.je.rs.same<|E.block _ j.je.rs.lt R,K.move (br _) rfl (λ_ _ _=>rfl) (λi p _=>⟨p.1,by show i<w'.heap.size;omega⟩),⟨j.je.z.1,j.je.z.2.1,br _⟩⟩,⟨j.js.gl.fB E.size λb p q=>E.block b (iV q) λe=>(by rw[e,J.bE 0]at q;cases q),j.js.mM,j.js.inj,j.js.can,j.js.lc,j.js.val,j.js.use,j.js.ok⟩,j.us,j.lv,j.lo⟩
 have HL:Hid (∀W:ca,Bq w0 W->W.cell? ⟨c.eb,2,ka⟩=ia (Mv c.mb)):=ai λW k=>(I.af k).je.bx.c 2;obtain⟨b1,b2,b3⟩:=Z;have⟨e1,e2,e3⟩:=I.je.bx;obtain⟨pa,pc,cs,rfl,-⟩:=U;obtain⟨ma,mc,ds,rfl,-⟩:=Y;have HW:=ai o;clear h F I o;go_in;go_wp;rw[<-uh HW]
 go_region_with(first
  |(go_at_call 229;go_loud(refine(N _ (qx _ _).drew).mono ?_);rintro e E⟨b,rfl,J,K,hM⟩;have j:Bq w0 E:=(qx _ _).drew.trans J;have s0:=uh HL _ j;have HC:=ai<|O E b j K hM;clear J j K hM)
  |(go_at_call 228;go_loud(refine HC.mono ?_);rintro e w3⟨rfl,j⟩;have E:=ai j;clear j))
 all_goals
  go_wp2
  go_end0;exact⟨rfl,E⟩
def aer nl:aa qv 33 #[] w λe w'=>∃(c:JC)(nb:Nat)(g:gD),e=.returned (nA c.eb)/\Bq w w'/\AJ w' c nb 0 0 g ⟨xm,λ_=>False⟩/\ch w' nb (λ_=>ka) g ⟨xm,λ_=>False⟩/\c.mks=(λ_=>ka)/\c.nl=nl/\c.lo=w.heap.size/\c.rb≠c.mb/\nb≠c.rb/\nb≠c.mb/\c.lo<=nb/\c.lo<=c.mb:=by
 go_in;go_wp;refine(Du).mono ?_;rintro e w1⟨rfl,o⟩;have K:Bq w w1:=by rw[o];exact bw _
 have a0:Bx w1 w.heap.size #[Iv 0]:=by rw[o];exact Bx.new w #[Iv 0] 3
 have z1:w1.heap.size=w.heap.size+1:=by rw[o];simp
 have K1:=ai K;clear o K;go_wp2_with fail;refine(BN).mono ?_;rintro e N⟨rfl,R2,O,z2⟩;have K2:=ai O;clear O
 go_wp2
 go_ret;obtain⟨i,E⟩:∃i,i=N.alloc (.map #[] 0):=⟨_,rfl⟩;obtain⟨F,I⟩:∃F,F=i.alloc (.map #[] 0):=⟨_,rfl⟩;have k3:Bq N i:=by rw[E];exact bw _
 have k4:Bq i F:=by rw[I];exact bw _
 have z3:i.heap.size=N.heap.size+1:=by rw[E];simp
 have z4:F.heap.size=i.heap.size+1:=by rw[I];simp
 have O:=uh K2;have K:=uh K1;have m3:MG Sv i (w.heap.size+2) []:=by rw[E,show w.heap.size+2=N.heap.size by omega];exact MG.new _ N
 have m4:MG Sv F (w.heap.size+3) []:=by rw[I,show w.heap.size+3=i.heap.size by omega];exact MG.new _ i
 rw[<-E,<-I];obtain⟨j,J⟩:∃j,j=F.alloc (Cv #[.func (.func 71) #[] #[Pv w.heap.size],Mv<|w.heap.size+1,Mv<|w.heap.size+2,Mv<|w.heap.size+3,Iv 0] 150):=⟨_,rfl⟩;have k5:Bq F j:=by rw[J];exact bw _
 have z5:j.heap.size=w.heap.size+5:=by rw[J];simp;omega
 have b5:Bx j (w.heap.size+4) #[.func (.func 71) #[] #[Pv w.heap.size],Mv<|w.heap.size+1,Mv<|w.heap.size+2,Mv<|w.heap.size+3,Iv 0]:=by
  have:=Bx.new F #[.func (.func 71) #[] #[Pv w.heap.size],Mv<|w.heap.size+1,Mv<|w.heap.size+2,Mv<|w.heap.size+3,Iv 0] 150;rw[<-J,show F.heap.size=w.heap.size+4 by omega]at this;exact this
 have R:=k4.trans<|k5.mono k4.size;have U:=k3.trans<|R.mono k3.size;have Y:=O.trans<|U.mono O.size;have kk:=K.trans<|Y.mono K.size;have js:JS j ⟨[],λ_=>ka,λ_=>ka,λ_=>0,λ_=>(ka,0),λ_=>0,λ_=>.var 0⟩ ⟨xm,λ_=>False⟩:=by
  refine⟨⟨λn h=>vB,λn _=>⟨rfl,rfl⟩,λn h=>vB⟩,.start _ _,λa b h=>vB,λn x k=>?_,λa h=>vB,λn h=>vB,λn h=>vB,j8 _⟩;rfl
 have Z:∃(c:JC)(nb:Nat)(g:gD),Rv (Pv<|w.heap.size+4)=Rv (nA c.eb)/\Bq w j/\AJ j c nb 0 0 g ⟨xm,λ_=>False⟩/\ch j nb (λ_=>ka) g ⟨xm,λ_=>False⟩/\c.mks=(λ_=>ka)/\c.nl=nl/\c.lo=w.heap.size/\c.rb≠c.mb/\nb≠c.rb/\nb≠c.mb/\c.lo<=nb/\c.lo<=c.mb:=by
  refine⟨⟨w.heap.size+4,w.heap.size,w.heap.size+1,w.heap.size+2,w.heap.size,w.heap.size+5,λ_=>ka,nl⟩,w.heap.size+3,_,rfl,kk,⟨⟨b5,a0.below Y,?_,⟨[],m3.same<|R.block _ ae,λ_ _=>rfl,λx v h=>qBg⟩,?_⟩,js,λn q=>q.elim,λn h=>vB,λn h=>vB⟩,⟨[],m4.same<|k5.block _ ae,λx=>qu ⟨rfl,rfl⟩⟩,rfl,rfl,rfl,?_,?_,?_,?_,?_⟩
  .have:=R2.same (w':=j)<|U.block _ ae
   rwa[z1]at this
  all_goals(dsimp only;omega)
 rw[J]at Z;exact Z
end
def QBd:EQ (BA×Ty):=λ_ _ p c=>c 0=.string p.1/\c 1=.string (bs<|wr dec (vars [] p.2) p.2 0)
def om:fX QBd:=λ_ _ _ _ _ _ h _ _ _=>h
def A_(w:ca)(P:Nat->Prop)(B:List (BA×Ty))(va:Option Addr)(vc:Nat):Prop:=RowV QBd 2 w P B (.slice va B.length vc)/\B.length<=vc
theorem A_.move{w w':ca}{P P':Nat->Prop}{B:List (BA×Ty)}{va:Option Addr}{vc:Nat}(h:A_ w P B va vc)(i:w.heap.size<=w'.heap.size)(j:∀b,P b->b<w.heap.size->w'.heap[b]? =w.heap[b]?)(o:∀b,P b->b<w.heap.size->P' b):A_ w' P' B va vc:=⟨h.1.move om i j o,h.2⟩
def dC.cap{w:ca}{b6:Nat}{B:List (BA×Ty)}{va:Option Addr}{vc:Nat}(h:dC QBd 31 2 w b6 va vc B):B.length<=vc:=by
 obtain⟨cs,⟨_,h⟩,_⟩:=h;obtain⟨_,h⟩|⟨g,cap,Wy,e,_,_,h,_⟩:=h
 .omega
 .simp only[Value.slice.injEq]at e;omega
def fF:Option j3->Fl
 |none=>lA|some z=>z.f
def fL:Option j3->BA
 |none=>bs []|some z=>SC z
def fR:Option j3->BA
 |none=>bs []|some z=>SF z
structure PI nl rs(Q:List (BA×Ty)->Option j3->Prop)r cnt(mks:jt)(s:jh)(Γ:jj)e B:Prop where
 pg:PG nl r e mks
 nm:∀x,x∈e.nm->Γ x≠ka
 mf:In.MF mks
 ef:In.EF Γ
 kf:In.KF s
 qq:∀B' F,In.ud rs r mks Γ s B' F->Q (B++B') F
 cn:cnt+1048*Dv r<=850000
section
variable {rs:Bool} {Q:List (BA×Ty)->Option j3->Prop} {r:List Dc} {cnt:Nat} {e:SE}
def PI.end(h:PI nl rs Q [] cnt mks s Γ e B):Q B ka:=by
 have:=h.qq [] ka ⟨rfl,rfl⟩
 rwa[qp]at this
def PI.ty{t}{vs}{ms}(h:PI nl rs Q (.ty t vs ms::r) cnt mks s Γ e B):TdF t vs ms/\PI nl rs Q r cnt (jz t vs ms mks) s Γ (Ow iy (.ty t vs ms) e) B:=by
 have⟨i,j,d3,d4,o⟩:=h.pg.d3 _<|qr ..;have⟨g1,E⟩:=h.pg.ty;have hc:=h.cn;rw[n_]at hc;exact⟨g1,E,h.nm,MF.add i j h.mf o,h.ef,h.kf,h.qq,ae⟩
def LtI(nl:List BA)(rs:Bool)(Q:List (BA×Ty)->Option j3->Prop)(r:List Dc)(cnt:Nat)(mks:jt)(s:jh)(Γ:jj)(e:SE)(B:List (BA×Ty))(rc:Bool)(t:xo)(b:Nd):=∀o,jk rc t.text b (ja mks b) Γ s o->match o with
 |.error z=>In.FtF z/\Q B (ia z)|.ok (a,s1)=>(48<size (sub s1.k a)->Q B (ia<|j9 t.ah t.to))/\∀T aR,size (sub s1.k a)<=48->T=(if jo b then sub s1.k a else jv (sub s1.k a))->aR<=cnt+1000*(1+nn b)+48->Wf T/\size T<=48/\PI nl rs Q r aR mks (In.nxt rs s1) (jd Γ t.text ⟨T,vars [] T⟩) (Ow iy (.lt rc t b) e) (B++[(t.text,T)])
def PI.lt{rc:Bool}{t:xo}{b:Nd}(h:PI nl rs Q (.lt rc t b::r) cnt mks s Γ e B):t.text∈nl/\cnt+1000*(1+nn b)<=850000/\1+nn b<=805/\MkFine mks/\ScE mks nl (λv=>v∈e.nm\/(rc=la/\v=t.text)) b/\LtI nl rs Q r cnt mks s Γ e B rc t b:=by
 have⟨d1,d2,I,d4⟩:=h.pg.d3 _<|qr ..;have⟨g1,g2,J,K⟩:=h.pg.lt;have hc:=h.cn;rw[n_]at hc;simp only[AY]at hc;refine⟨g1,ae,ae,h.pg.Dq,J,λo ho=>?_⟩;have g:=In.GI rc t.text b (In.adh h.mf b I.nw) Γ s h.kf h.ef o ho
 cases o with
 |error z=>
  refine⟨g,?_⟩;have:=h.qq [] (ia z) ⟨_,ho,rfl,rfl⟩
  rwa[qp]at this
 |ok p=>
  obtain⟨a,s1⟩:=p;obtain⟨N,j⟩:=g;refine⟨λhz=>?_,λT aR hz hT hcn=>?_⟩
  .have:=h.qq [] (ia<|j9 t.ah t.to) ⟨_,ho,qu ⟨hz,rfl,rfl⟩⟩
   rwa[qp]at this
  .have E:=In.oe N j;have i:Wf T/\size T<=48:=by
    rw[hT];split
    .exact⟨E,hz⟩
    .exact⟨VV E,by rw[n8];exact hz⟩
   refine⟨i.1,i.2,K,λx hx=>?_,h.mf,h.ef.set _ i.1,λn=>?_,λB' F q=>?_,ae⟩
   .unfold jd;split
    .simp
    .rename_i hne;obtain q|q:=List.mem_append.1<|show x∈e.nm++[t.text]from hx
     .exact h.nm x q
     .grind
   .show Wf ((if rs then xm else s1.k) n)
    cases rs
    .exact j n
    .exact In.lD n
   .rw[List.append_assoc];exact h.qq _ F ⟨_,ho,qt ⟨hz,T,B',hT,rfl,q⟩⟩
end
def PI.init{s}(i:¬400<s.size){l}(h:bq s=.ok l)(j:(fQ iy l yx).f.kind=0)rs u{cnt}(hc:cnt<=1000):PI (l.flatMap dNm) rs (In.ud rs l (λ_=>ka) (λ_=>ka) ⟨xm,u⟩) l cnt (λ_=>ka) ⟨xm,u⟩ (λ_=>ka) yx []:=by
 have⟨g,_⟩:=PG.init i h j;have:=g.sz;exact⟨g,λx hx=>by simp[yx]at hx,λx tk m q=> iP,λy c q=> iP,In.lD,λB' F q=>q,ae⟩
def oo va n vc:=#[Iv 0,Iv 0,Iv 0,.string ⟨#[]⟩,.string ⟨#[]⟩,.slice va n vc,.slice ka 0 0]
structure qS w b4 b5 b6(B:List (BA×Ty))va vc:Prop where
 r4:Bx w b4 (oo ka 0 0)
 r5:Bx w b5 (oo va B.length vc)
 row:dC QBd 31 2 w b6 va vc B
 fst:∀b,(xj va B.length vc).ownBlock=ia b->∃x,w.cell? ⟨b,0,ka⟩=ia (.string x)
def OQ x:Oth (.string x):=⟨λ_ _ q=> iP,λ_ _ q=> iP,λ_ q=> iP⟩
def Wz:Oth (Iv 0):=⟨λ_ _ q=> iP,λn h q=>(by injection q with _ q;omega),λ_ q=> iP⟩
section
variable {b4 b5 b6:Nat} {va:Option Addr} {vc:Nat}
def qS.same(h:qS w b4 b5 b6 B va vc)(i:w.heap.size<=w'.heap.size)(I:w'.heap[b4]? =w.heap[b4]?)(J:w'.heap[b5]? =w.heap[b5]?)(j:∀b,(xj va B.length vc).ownBlock=ia b->w'.heap[b]? =w.heap[b]?):qS w' b4 b5 b6 B va vc:=by
 refine⟨h.r4.same i I,h.r5.same i J,?_,λb q=>?_⟩
 .have⟨o,E,F⟩:=h.row;exact⟨o,rQ E j,F⟩
 .have⟨x,o⟩:=h.fst b q;exact⟨x,by rw[xi (a:=⟨b,0,ka⟩)<|j b q];exact o⟩
def qS.af(h:qS w b4 b5 b6 B va vc)(k:Bq w w'):qS w' b4 b5 b6 B va vc:=
 h.same k.size (k.block _ h.r4.z) (k.block _ h.r5.z) λb q=>k.block b (h.row.block b q).2
def qS.kp(h:qS w b4 b5 b6 B va vc)(k:KpI lo base w w')(j:base<=b4)(o:base<=b5)(h6:base<=b6):qS w' b4 b5 b6 B va vc:=
 h.same k.size (k.box _ _ h.r4.z j (by rw[h.r4.c 0];rfl) Wz.p) (k.box _ _ h.r5.z o (by rw[h.r5.c 0];rfl) Wz.p) λb q=>by
  have⟨x,i⟩:=h.fst b q;have:=h.row.block b q;exact k.box _ _ this.2 ae i (OQ x).p
def dC.fst(h:dC QBd 31 2 w b6 va vc B)(o:B≠[]):∀b,(xj va B.length vc).ownBlock=ia b->∃x,w.cell? ⟨b,0,ka⟩=ia (.string x):=λb q=>by
 have⟨va',vc',cs,e,i,E⟩:=h.v om;injection e with F _ I;subst F I;have j:=List.length_pos_iff.2 o;obtain e|⟨g,rfl,h1,h2,J⟩:=i
 .exact absurd e o
 .have K:g=b:=by simpa[Value.ownBlock]using q
  subst K;have:=J 0 j 0 aD;rw[(E 0 j).1]at this;exact⟨_,by simpa using this⟩
def qS.grow{S}{ty}{rs}(E:VW ty eb lo base rs nl S){cnt}{w5 w6}{n}{q3 c3}{cs}(h:qS w b4 b5 b6 B va vc)(hS:S w cnt mks s Γ)(h45:b4<b5/\b5<b6)(hb6:b6<=w.heap.size)(Z:base<=b4)(hlo:lo<=base)(k:Bq w w5)(a0:∀i(h:i<B.length),QBd w (λb=>b6<=b/\b<w.heap.size/\(xj va B.length vc).ownBlock≠ia b) B[i]<|cs i)(h6:w6.ownsRow b6 31 2 (.slice (ia ⟨q3,0,ka⟩) (B.length+1) c3) (B.length+1) (gJ cs 2 B.length++[.string n,.string<|bs<|wr dec (vars [] T) T 0]))(O:(w5.alloc<|.cells #[.string n,.string<|bs<|wr dec (vars [] T) T 0] 31).grownBy w6 (xj va B.length vc).ownBlock)(N:(xj (ia ⟨q3,0,ka⟩) (B.length+1) c3).ownBlock=(xj va B.length vc).ownBlock\/(xj (ia ⟨q3,0,ka⟩) (B.length+1) c3).ownBlock=ia (w5.alloc<|.cells #[.string n,.string<|bs<|wr dec (vars [] T) T 0] 31).heap.size):
 S (w6.setCell ⟨b5,5,ka⟩<|.slice (ia ⟨q3,0,ka⟩) (B.length+1) c3) cnt mks s Γ/\qS (w6.setCell ⟨b5,5,ka⟩<|.slice (ia ⟨q3,0,ka⟩) (B.length+1) c3) b4 b5 b6 (B++[(n,T)]) (ia ⟨q3,0,ka⟩) c3/\Below lo w (w6.setCell ⟨b5,5,ka⟩<|.slice (ia ⟨q3,0,ka⟩) (B.length+1) c3):=by
 obtain⟨W,hW⟩:∃W,W=w5.alloc (Cv #[Sv n,Sv<|bs<|wr dec (vars [] T) T 0] 31):=⟨_,rfl⟩;rw[<-hW]at O N;have k5:Bq w5 W:=by rw[hW];exact bw _
 have K:=k.trans<|k5.mono k.size;have Y:=h.af K;have o:=h.row.block;have z5:=h.r5.z;have zW:=K.size;have I:Fr (λi=>(Lv va B.length vc).ownBlock=ia i) W w6:=⟨O.os,O.tape,O.output,O.size,λb Z hn=>O.block b Z<|λe=>hn e.symm⟩;have S6:S w6 cnt mks s Γ:=by
  cases ho:(Lv va B.length vc).ownBlock with
  |none=>exact E.af (E.af hS K) (I.none λb q=>by rw[ho]at q;cases q)|some b=>
   have⟨x,F⟩:=Y.fst b ho;have:=o b ho;exact E.oth (E.af hS K) ae F (OQ x) (I.fU λi q=>by rw[ho]at q;injection q with q;exact q.symm)
 have R4:=Y.r4.fr I (λq=>by have:=o _ q;omega);have R5:=Y.r5.fr I (λq=>by have:=o _ q;omega);have J:Fr (λi=>i=b5) w6 (w6.setCell ⟨b5,5,ka⟩<|Lv (ia ⟨q3,0,ka⟩) (B.length+1) c3):=(Fr.refl (λi=>i=b5) w6).set (qu rfl) 5 _;have R:dC QBd 31 2 w6 b6 (ia ⟨q3,0,ka⟩) c3 (B++[(n,T)]):=
  dC.push (w1:=w5) (W:=W) (lo:=w5.heap.size) (a:=(n,T)) (c:=λj=>if j=0 then Sv n else Sv (bs<|wr dec (vars [] T) T 0)) (cs:=cs) om (λi hi=>a0 i hi) ⟨rfl,rfl⟩ (by have:=k.size;omega) (λb e=>by have:=o b e;have:=k.size;omega) k5 h6 O N
 have Bu:1<=(B++[(n,T)]).length:=ag;have U:(B++[(n,T)]).length=B.length+1:=ag;have F:=R.fB (w':=w6.setCell ⟨b5,5,ka⟩<|Lv (ia ⟨q3,0,ka⟩) (B.length+1) c3) om J.size (λb q z=>J.block b z (by show b≠b5;omega));refine⟨E.oth S6 ae (by rw[R5.c 0];rfl) Wz J,⟨R4.fr J (by show ¬b4=b5;omega),?_,F,F.fst ag⟩,?_⟩
 .rw[U];exact R5.qO 5 _ _ (by simp[oo]) (by simp[oo])
 .have hz:=h.r4.z;refine⟨J.os.trans<|I.os.trans K.os,J.tape.trans<|I.tape.trans K.tape,J.output.trans<|I.output.trans K.output,qy zW<|qy I.size J.size,λb Z=>?_⟩;have h6z:=I.size;exact(J.block b ae (by show ¬b=b5;omega)).trans ((I.block b ae (λq=>by have:=o b q;omega)).trans<|K.block b ae)
end
def ad7.cases{S}{lo base}{rs}{nl}{Q}{r}{cnt}{mks}{s}{Γ}{se}{B}{rc}{t}{b}{w w'}{e}(h:ad7 S lo base rs cnt mks s Γ rc t.text t.ah t.to b w e w')(K:LtI nl rs Q r cnt mks s Γ se B rc t b):KpI lo base w w'/\((∃z vl vr,e=.returned (.tuple #[.nilIface,AX z.f vl vr])/\qM w' (λ_=>True) z vl vr/\In.FtF z/\Q B (ia z))\/
  ∃T ta xa aR s1,e=.returned (.tuple #[.iface ta xa,.agg Ls])/\eh w' (λ_=>True) T (.iface ta xa)/\Wf T/\size T<=48/\S w' aR mks s1 (jd Γ t.text ⟨T,vars [] T⟩)/\PI nl rs Q r aR mks s1 (jd Γ t.text ⟨T,vars [] T⟩) (Ow iy (.lt rc t b) se) (B++[(t.text,T)])):=by
 obtain⟨I,o,J,j⟩:=h;have E:=K o J;refine⟨I,?_⟩
 cases o with
 |error z=>
  obtain⟨vl,vr,i,F⟩:=j;exact qu ⟨z,vl,vr,i,F,E⟩
 |ok p=>
  obtain⟨a,s1⟩:=p;obtain⟨z,i⟩|⟨z,T,ta,xa,aR,hT,i,F,e3,e4⟩:=j
  .exact qu ⟨j9 t.ah t.to,Zv,Zv,i,⟨λ_=>⟨rfl,rfl⟩,λq=> iP,qt rfl⟩,In.DU _ _,E.1 z⟩
  .grind
end Go.Proofs.YtonaidfgokhmoaaGreatDoor
