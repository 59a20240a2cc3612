import Derived.Test.YtlnlhlefeokfjaaGreatDoorPFy
set_option linter.all false
set_option maxRecDepth 100000
set_option maxHeartbeats 4000000
namespace Go.Proofs.YtlnlhlefeokfjaaGreatDoor
open In renaming Cd->ja,arr->jc,MM->jd
open Go Go.RowKit Go.ChangeMaps Go.MapKept Un
variable {S:Nat->Prop} {v:Value} {V:World}
section
variable {w w' w0 w1 W:World} {g g0 g1:f_} {s s0 s1:In.St} {c:JC} {nb l gb cnt ak cnt0 kb jb mb:Nat} {ρ:In.Rn} {G:In.Env} {α β:Type} {p' q':jd β} {m:jd α} {k:α->jd β} {a:α}
def sM.dX(h:sM c l kb jb mb w g s cnt ρ)(js:JS W g s)(t:gi l c w' g s V g1 s1)(f:Fr S w w1)(hS:¬S kb/\¬S jb/\¬S mb):sM c l kb jb mb w1 g1 s1 ak ρ:=by
 have⟨L,hm,hq⟩:=h.mp;refine⟨h.bk.fr f hS.1,h.bj.fr f hS.2.1,⟨L,hm.same<|f.block _ hm.lt hS.2.2,λv=>(hq v).imp id λ⟨n,m,q1,q2,q3,q4,q5,q6⟩=>?_⟩,h.far⟩;have⟨o1,o2,o3⟩:=t.st.eW m q3;have⟨x,hx⟩:=js.gl.hd m q3;exact⟨n,m,q1,q2,o1,o2.trans q4,o3.trans q5,λy hy=>t.lo m q3 x y hx hy l (br _)<|q6 x hx⟩
def mF.and'(n:mF c nb l gb w0 g0 s0 p' w g s cnt (In.andM m k))(hm:m s (.ok (a,s1)))(a1:AJ w1 c nb l ak g1 s1)(t1:gi l c w g s V g1 s1)(f:Fr (jG c g0 gb) w0 w1):mF c nb l gb w0 g0 s0 p' w1 g1 s1 ak (k a):=⟨a1,n.gr a1 t1,f,n.z,λo ho=>n.p o<|Or.inr ⟨a,s1,hm,ho⟩⟩
def MJ(a:AJ w c nb l cnt g s)(a':AJ w' c nb l ak g1 s1)(e:w'.heap[c.mb]? =w.heap[c.mb]?){x}{tk}{mt}(hx:c.mks x=some (tk,mt))(hv:∀w':World,w'.heap[c.mb]? =w.heap[c.mb]? ->(Instr.lookup 188 (Mv c.mb) (.string x) false).run Tryz.prog w'=.ok v w'):W7 w' (λi=>i≠c.cb/\i<c.gh) tk mt v:=by
 have⟨v',h1,h2⟩:=a'.je.ms.look hx;have e1:=hv w' e;rw[h2 w' rfl]at e1;injection e1 with e1;rw[<-e1];exact h1
def MdJ c nb l gb w0 g s cnt p tk m L kb jb mb gk v wr:=
 ∃j cj gj sj ρ G,Hid (gk=L.length-j)/\j<=L.length/\v=Nv j/\mF c nb l gb w0 g s p wr gj sj cj (gU c.mks tk m L j G ρ)/\b_ wr gb G gj sj/\sM c l kb jb mb wr gj sj cj ρ/\Hid (cj+1000*bV (L.drop j)<=cnt+1000*bV L+ah (tk.take j))
def mF.imp(n:mF c nb l gb w0 g0 s0 p' w g s cnt q'){r}(h:∀o,r s o->q' s o):mF c nb l gb w0 g0 s0 p' w g s cnt r:={n with p:=λo ho=>n.p o<|h o ho}
def b_.stg{V'}(e:b_ w gb G g s)(hl:l<aL)(aj:AJ V c nb l cnt g s)(h1:JS w1 g1 s1)(t:gi l c V g s V' g1 s1)(f:Fr S w w1)(hS:¬S gb):b_ w1 gb G g1 s1:=by
 obtain⟨L,h,q⟩:=e;exact⟨L,h.fr f hS,λx=>(q x).imp id λ⟨d,m,q1,q2,q3⟩=>⟨d,m,q1,q2,q3.dX hl aj h1 t⟩⟩
theorem sM.no(an:sM c l kb jb mb w g s cnt ρ)(aj:AJ w c nb l cnt g s)(en:b_ w gb G g s)(hm:mb≠gb):¬jG c g gb kb/\¬jG c g gb jb/\¬jG c g gb mb:=by
 obtain⟨L,hM,_⟩:=en;have⟨L',Pr,_⟩:=an.mp;have⟨f1,f2,f3,_⟩:=an.far;have e0:=aj.je.bx.c 0;have e1:=aj.je.bx.c 1;have c0:=aj.je.ct.c 0;have k0:=an.bk.c 0;have j0:=an.bj.c 0;have j1:=an.bj.c 1;refine⟨?_,?_,?_⟩
 .rintro((q|q|q)|q)
  .grind
  .grind
  .have⟨p,hp⟩:=aj.js.gl.rB q;rw[hp]at k0;simp at k0
  .rw[q,hM.bE 0]at k0;simp at k0
 .rintro((q|q|q)|q)
  .grind
  .grind
  .have:=(aj.js.gl.nd jb q).lvl.1;rw[j1]at this;simp at this
  .rw[q,hM.bE 0]at j0;simp at j0
 .rintro((q|q|q)|q)
  .omega
  .omega
  .exact(aj.js.nX Pr).1 q
  .exact hm q
def WV tk m:ah tk+size m<=size (jc tk m):=by
 induction tk with
 |nil=>simp[jc,ah]|cons t tk ih=>
  have:jc (t::tk) m=In.l9 t (jc tk m):=rfl;rw[this];simp only[ah,size];omega
def Uo{p:Prop}(h:p:=by
 obtain⟨_,_,_,q4,q5⟩:=h.aj.je.ne;rintro((q|q|q)|q)
 .exact q4 q
 .exact q5 q
 .exact(h.aj.je.nX h.aj.js).2 q
 .exact h.fg.2.2.1 q.symm):p:=h
def ae5{st}{n f t a y}{L}{sa}{sc}{vs:Nat->Value}(H:∀i(h:i<L.length),Od L[i])(h:FE (.mk 2 st n L f t a) c w nb l cnt g s gb G v)(aN:L=[]\/∃g,sa=some ⟨g,0,none⟩/\g<c.lo/\g<w.heap.size/\∀i,i<L.length->w.cell? ⟨g,i,none⟩=some (vs i))(hr:∀i(h:i<L.length),PP w (λb=>b<c.lo) L[i]<|vs i):
 Cq 329 #[nA c.eb,Mv gb,.agg #[Nv f,Nv t,Nv a,Nv y,.string st,.slice sa L.length sc]] w (qU c nb l gb (1000*nn (.mk 2 st n L f t a)) (In.dv c.mks (.mk 2 st n L f t a) G) g s cnt w):=by
 have en:nn (.mk 2 st n L f t a)=1+bV L:=by simp[nn]
 obtain⟨tk,m,hx,hl,HS⟩:∃tk m,c.mks st=some (tk,m)/\L.length=tk.length/\∀i(h:i<L.length),rf c.mks c.nl L[i]:=by
  cases h.sc with
  |up _ _ _ _ _ _ tk m hx hl hr=>exact⟨tk,m,hx,hl,hr⟩|leaf _ _ _ _ _ _ hk=>omega
 have fa:=h.fa;rw[en]at fa;have fK:=h.mf.sz st tk m hx;have hsl:=WV tk m;have k0:Bq w (w.alloc<|.cells #[Nv f,Nv t,Nv a,Nv y,.string st,.slice sa L.length sc] 313):=bw _;obtain⟨v,hv,Ds⟩:=h.aj.je.ms.look hx;obtain⟨ma,mc,ta,xa,rfl,-⟩:=hv;have zmb:=h.aj.je.ms.lt;have aeP:=Ds (w.alloc<|.cells #[Nv f,Nv t,Nv a,Nv y,.string st,.slice sa L.length sc] 313).drew<|k0.drew.block c.mb zmb;have k00:Bq w ((w.alloc<|.cells #[Nv f,Nv t,Nv a,Nv y,.string st,.slice sa L.length sc] 313).alloc<|.cells #[.slice none 0 0,.nilIface] 396):=k0.alloc k0.size _;have aeQ:=Ds _<|k00.drew.block c.mb zmb;obtain⟨e1,e2,e3⟩:=h.aj.je.bx;have hln:L.length<=1000:=by have:=tw tk m;omega
 rw[zY hx,en];have HA:=ai h;have HL:=ai hl;have HLK:=ai Ds;have HX:=ai hx;clear h Ds k0 k00 hl hx;go_enter Tryz.func329,Tryz.ntmps329;go_wp2_with fail;go_cut[7]from 12 (λv1 wc=>WI w #[Nv f,Nv t,Nv a,Nv y,.string st,.slice sa L.length sc] #[.slice ma tk.length mc,.iface ta xa] v1 wc)
 case first=>
  go_region
  all_goals(
   go_wp2_with fail
   go_meet
   case rel=>exact WI.a w _ _ _ _)
 case rest=>
  obtain⟨pb,rfl,zp,X1,T2,KC⟩:=hcut;clear aeP aeQ e1 e2 e3;have h:=uh HA;have zgb:=h.en.lt;have zkc:=KC.size;have nb1:=h.aj.gno h.en<|br _;have nb2:=h.aj.gno h.en<|Nat.le_of_lt zp;have N0:=mF.start (gb:=gb) (h.aj.af KC)<|gU c.mks tk m L 0 G ja;have HN:=QR (l:=l) (h.aj.af KC).je g s;have T1:=ai X1;clear X1 h;go_wp2_with fail;refine HN.mono ?_;rintro e w2⟨kb,jb,mb,rfl,an,k2,z2,h1,h2,h3⟩;have N2:=N0.af k2;have X1:=N2.bx T1 nb1;have ST:MdJ c nb l gb wc g s cnt (gU c.mks tk m L 0 G ja) tk m L kb jb mb L.length (Iv 0) w2:=⟨0,cnt,g,s,ja,G,ai ag,Nat.zero_le _,rfl,N2,(HA.en.af KC).af k2,an,ai<|by simp[ah]⟩;obtain⟨y1,y2,y3⟩:=X1;clear HN an k2 N2 N0
  go_wp2
  go_loopg[25] L.length (λgk v wr=>MdJ c nb l gb wc g s cnt (gU c.mks tk m L 0 G ja) tk m L kb jb mb gk v wr)
  case atStart=>exact ST
  case round=>
   clear ST y1 y2 y3;obtain⟨j,cj,gj,sj,ρ,Gj,cV,hj,rfl,at_,EJ,an,hbd⟩:=hrel;have hbd:=uh hbd;by_cases bh:j<L.length
   .have bA:(j:Int)<(L.length:Int):=ae;have Jl:(0:Int)<=(j:Int):=ae;have hjt:j<tk.length:=by have:=uh HL;omega
    have agF:(j:Int)<(tk.length:Int):=ae;have h:=uh HA;have FF:=(Fr.of (S:=jG c g gb) KC).trans at_.f;have nlo:∀b,b<c.lo->¬jG c g gb b:=λb p z=>z.elim (h.aj.YL p) λz=>by have:=h.fg;omega
    obtain⟨gg,rfl,hQ,hz,bQ⟩:=aN.resolve_left<|λe=>qBs;have PZ:=hr j bh;have cg:=(World.cell?_of_block (a:=⟨gg,j,none⟩)<|FF.block gg hz<|nlo gg hQ).trans<|bQ j bh;obtain⟨tx,ax,evs⟩:=PZ.iface;rw[evs]at cg PZ;have UR:=PZ.place;dsimp only[PlF]at UR;have hdn:bV (L.drop j)=nn L[j]+bV (L.drop<|j+1):=by rw[List.drop_eq_getElem_cons bh];rfl
    have jA:=BI tk hjt;have H1:=H j bh c wr nb l cj gj sj gb Gj _ ⟨at_.a,EJ,PZ.move FF.size (λb p z=>FF.block b z<|nlo b p)<|λ_ p _=>p,HS j bh,h.fg,ae,h.fl,h.mf⟩;have AT:=ai<|at_.imp λo ho=>vh HL bh ho;have AN:=ai an;have hfl:=h.fl;obtain⟨y1,y2,y3⟩:=at_.bx T1 nb1;clear at_ an h PZ bQ FF nlo;go_wp2_with fail;refine H1.mono ?_;rintro e w3(⟨n3,g3,s3,c3,T3,G3,rfl,p3,a3,t3,f3,e3,hc3,r3⟩|hb)
    .have h:=uh HA;have zj:=AT.a.je.z.2.2;have emb:mb≠gb:=ae;have nG:=AN.no AT.a EJ emb;have an3:sM c l kb jb mb w3 g3 s3 c3 ρ:=AN.dX AT.a.js t3 f3 nG;have at3:=AT.and p3 a3 t3 f3;have nmb:¬jG c g gb c.mb:=by
      exact Uo
     have Nw:=MJ h.aj a3 (((Fr.of (S:=jG c g gb) KC).trans at3.f).block _ zmb nmb) HX HLK;obtain⟨ma',mc',ta',xa',ee,hmr,iZ⟩:=Nw;obtain⟨gt,vt,hgt,pgt,zgt,hct⟩:=hmr.resolve_left (λe=>by subst e;simp at hjt);obtain⟨ct,tt⟩:=hct j hjt;obtain⟨tb,xb,evt⟩:=tt.iface;rw[evt]at ct tt;have ema:ma=some ⟨gt,0,none⟩:=by
      injection ee with ee;have:=congrArg (λa:Array Value=>a[0]?) ee;simp at this;rw[this.1,hgt]
     subst ema;have zk:kb<w3.heap.size/\jb<w3.heap.size/\mb<w3.heap.size:=⟨an3.bk.z,an3.bj.z,by obtain⟨L',Pr,_⟩:=an3.mp;exact Pr.lt⟩;have Ad:∀W:World,Bq w3 W->Cq 40 #[.iface tb xb,Nv l,anV kb jb] W (Jt c nb l (λb=>b=mb) (sM c l kb jb mb) g3 s3 c3 ρ tk[j] W):=λW hk=>QP zk.1 zk.2.1 zk.2.2 tk[j] W g3 s3 c3 ρ _ _ (a3.af hk).je (a3.af hk).js a3.us (sM.dX (W:=w3) (w':=w3) an3 a3.js (.refl a3.js c l) (Fr.of (S:=λ_=>False) hk) ⟨id,id,id⟩) hk.size (tt.move hk.size (λb _ z=>hk.block b z)<|λ_ p _=>p) (λb p=>⟨p.1,by have:=an3.far.1;have:=p.2;omega⟩) ae (λ_ _=>trivial) ae;have HK:∀W e w4,Bq w3 W->Jt c nb l (λb=>b=mb) (sM c l kb jb mb) g3 s3 c3 ρ tk[j] W e w4->∃n4 g4 s4 c4 El,e=.returned (nA n4)/\mF c nb l gb wc g s (gU c.mks tk m L 0 G ja) w4 g4 s4 c4 (In.andM (In.sW T3 (sub (In.via El) tk[j]) (In.kZ L[j])<|In.BT L[j]) λ_=>gU c.mks tk m L (j+1) G3 El)/\np l g4 s4 n3 T3/\np l g4 s4 n4 (sub (In.via El) tk[j])/\sM c l kb jb mb w4 g4 s4 c4 El/\b_ w4 gb G3 g4 s4/\c4<=c3+size tk[j]:=λW e w4 hk hp=>by
      obtain⟨n4,g4,s4,c4,El,rfl,je,js,an4,o,hn,hV,zP,hT,p9,F⟩:=hp;have o':=o.tJ hk.size;have a4:=o'.aj a3 (br _) je js;have t4:gi l c w3 g3 s3 w3 g4 s4:=o'.stj a3.js (br _)<|.refl _ _;have F4:=(Fr.of (S:=λb=>b=c.cb\/b=mb) hk).trans F;refine⟨n4,g4,s4,c4,El,rfl,at3.and' (o'.drawn hT) a4 t4<|at3.f.trans' F4 λx q=>q.imp (λq=>Or.inl<|Or.inl q) λq=>ae,r3.dX a3.js t4,⟨hn,?_,zP⟩,an4,e3.stg hfl a3 js t4 F4<|λq=>q.elim (λq=>?_)<|λq=>emb q.symm,p9⟩
      .rw[hV,o.kk]
      .obtain⟨L',hM,_⟩:=e3;have:=a3.je.ct.c 0;rw[<-q,hM.bE 0]at this;simp at this
     obtain⟨x1,x2,x3⟩:=at3.bx T2 nb2;have l3:=a3.je.bx.c 4;clear h iZ hct tt an3 at3 a3 t3 f3 e3 r3 p3 H1 nG nmb
     go_wp2
     go_region_with(first
      |(go_at_call 40;go_loud(refine(Ad _ (Below.refl _ _).drew).mono ?_);intro e w4 hp;obtain⟨n4,g4,s4,c4,El,rfl,at4,r4,r4',an4,e4,hc4⟩:=HK _ _ _ (Below.refl _ _).drew hp;have AT4:=ai at4;have R4:=ai<|And.intro r4 r4';have AN4:=ai<|And.intro an4 e4;clear hp at4 r4 r4' an4 e4)
      |(go_at_call 331;refine(dR _ _).mono ?_;rintro e w5⟨rfl,k5⟩;have AT5:=ai<|AT4.af k5;have AN5:Hid (sM c l kb jb mb w5 g4 s4 c4 El/\b_ w5 gb G3 g4 s4):=ai ⟨sM.dX AN4.1 AT4.a.js (.refl AT4.a.js c l) (Fr.of (S:=λ_=>False) k5) ⟨id,id,id⟩,AN4.2.af k5⟩;clear k5)
      |(go_at_call 312;go_loud(refine(Ju AT5.a hfl R4.1 R4.2 _ _).mono ?_);intro e w6 hq;obtain hb|⟨he,g6,s6,p6,a6,t6⟩:=hq.symm;go_loud(have HP:=AT5.bad hb.bp;obtain⟨z,vl,vr,rfl,-⟩:=hb;exact⟨rfl,qU.up (Or.inr HP) KC⟩);subst he;go_loud(have N6:Hid (MdJ c nb l gb wc g s cnt (gU c.mks tk m L 0 G ja) tk m L kb jb mb (L.length-(j+1)) (.int .i64 ((j+1:Nat):Int)) w6):=ai ⟨j+1,c4,g6,s6,El,G3,ai rfl,bh,rfl,AT5.and p6 a6 t6 t6.fg,AN5.2.dX hfl AT5.a a6.js t6,AN5.1.dX AT5.a.js t6 t6.fr (let q:=AN5.1.no AT5.a AN5.2 emb;⟨λz=>q.1<|Or.inl z,λz=>q.2.1<|Or.inl z,λz=>q.2.2<|Or.inl z⟩),ai ae⟩);clear p6 a6 t6))
     all_goals
      go_wp2
      go_roundg(L.length-(j+1))
      case measure=>rw[uh cV];omega
      case rel=>exact N6
    .have HP:=AT.bad hb;obtain⟨z,vl,vr,rfl,-⟩:=hb;clear H1
     go_wp2
     exact⟨rfl,qU.up (Or.inr HP) KC⟩
   .have bA:¬(j:Int)<(L.length:Int):=ae;have ej':j=L.length:=ae;subst ej';have h:=uh HA;have hfl:=h.fl;have zj:=at_.a.je.z.2.2;have emb:mb≠gb:=ae;have jA:ah (tk.take L.length)<=ah tk:=by rw[uh HL,List.take_length];exact br _
    have nmb:¬jG c g gb c.mb:=by
     exact Uo
    have Nw:=MJ h.aj at_.a (((Fr.of (S:=jG c g gb) KC).trans at_.f).block _ zmb nmb) HX HLK;obtain⟨ma',mc',ta',xa',ee,hmr,iZ⟩:=Nw;have ema:(Value.iface ta xa)=.iface ta' xa':=by
     injection ee with ee;have:=congrArg (λa:Array Value=>a[1]?) ee;simpa using this
    rw[<-ema]at iZ;have at2:=at_.imp λo ho=>Jn HL ho;have zk:kb<wr.heap.size/\jb<wr.heap.size/\mb<wr.heap.size:=⟨an.bk.z,an.bj.z,by obtain⟨L',Pr,_⟩:=an.mp;exact Pr.lt⟩;have Ad:∀W:World,Bq wr W->Cq 40 #[.iface ta xa,Nv l,anV kb jb] W (Jt c nb l (λb=>b=mb) (sM c l kb jb mb) gj sj cj ρ m W):=λW hk=>QP zk.1 zk.2.1 zk.2.2 m W gj sj cj ρ _ _ (at_.a.af hk).je (at_.a.af hk).js at_.a.us (sM.dX (W:=wr) (w':=wr) an at_.a.js (.refl at_.a.js c l) (Fr.of (S:=λ_=>False) hk) ⟨id,id,id⟩) hk.size (iZ.move hk.size (λb _ z=>hk.block b z)<|λ_ p _=>p) (λb p=>⟨p.1,by have:=an.far.1;have:=p.2;omega⟩) ae (λ_ _=>trivial) ae;have HK:∀W e w4,Bq wr W->Jt c nb l (λb=>b=mb) (sM c l kb jb mb) gj sj cj ρ m W e w4->∃n4,e=.returned (nA n4)/\qU c nb l gb (1000*(1+bV L)) (gU c.mks tk m L 0 G ja) g s cnt w (.returned<|nA n4) w4:=λW e w4 hk hp=>by
     obtain⟨n4,g4,s4,c4,El,rfl,je,js,an4,o,hn,hV,zP,hT,p9,F⟩:=hp;have o':=o.tJ hk.size;have a4:=o'.aj at_.a (br _) je js;have t4:gi l c wr gj sj wr g4 s4:=o'.stj at_.a.js (br _)<|.refl _ _;have F4:=(Fr.of (S:=λb=>b=c.cb\/b=mb) hk).trans F
     have e4:=EJ.stg hfl at_.a js t4 F4 (λq=>q.elim (λq=>by
      obtain⟨L',hM,_⟩:=EJ;have:=at_.a.je.ct.c 0;rw[<-q,hM.bE 0]at this
      simp at this) (λq=>emb q.symm))
     exact⟨n4,rfl,((at2.and' (o'.drawn hT) a4 t4<|at_.f.trans' F4 λx q=>q.imp (λq=>Or.inl<|Or.inl q) λq=>ae).ret e4 ⟨hn,by rw[hV,o.kk],zP⟩ (by simp at hbd;omega)).up KC⟩
    obtain⟨x1,x2,x3⟩:=at_.bx T2 nb2;have l3:=at_.a.je.bx.c 4;clear h at_ at2 an iZ hmr nmb
    go_wp2
    go_region_with(first
     |(go_at_call 40;go_loud(refine(Ad _ (Below.refl _ _).drew).mono ?_);intro e w4 hp;obtain⟨n4,rfl,hP⟩:=HK _ _ _ (Below.refl _ _).drew hp;have HP:=ai hP;clear hp hP))
    all_goals
     go_wp2
     go_ret;exact HP
end
end Go.Proofs.YtlnlhlefeokfjaaGreatDoor
