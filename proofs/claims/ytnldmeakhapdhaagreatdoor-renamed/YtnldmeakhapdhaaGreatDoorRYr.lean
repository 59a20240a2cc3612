import Derived.Test.YtnldmeakhapdhaaGreatDoorRFd
import Derived.Test.YtnldmeakhapdhaaGreatDoorRYb
set_option linter.all false
set_option maxRecDepth 100000
set_option maxHeartbeats 4000000
namespace Go.Proofs.YtnldmeakhapdhaaGreatDoor
open In renaming inf->ja,dv->jc,andM->jd,MM->jf,Env->jh,St->ji,cZ->jj,Cr->jk,wa->jl,Mks->jm,cz->jo,sw->jp,Ft->jq,jZ->jt,arr->ju,ur->jv,qN->jx
open Go.RowKit.Below renaming refl->jy
open Or renaming inr->jz,inl->j5
open And renaming intro->j6
open Go.World renaming cell?_of_block->j7
open Go.Value renaming slice->j8
open _root_.List renaming append_nil->j9,mem_cons_self->qe
open Pu renaming Tok->qf
open Fr renaming of->qg
open Go Go.RowKit Go.ChangeMaps Go.MapKept Un Proofs.Tryz
variable {st:BA} {dom:BA->Prop} {e:Ending} {g g0 g1:f_} {Γ:jh} {q r:jf Un.Ty} {mks:jm} {s s0 s1:ji} {c:JC} {B:List (BA×Un.Ty)} {A:List (Nd×Nd)} {nl:List BA} {L:List Nd} {a cnt0 ah f gb l m n nb sc t:Nat} {S:Nat->Prop} {x y:Nd} {α:Type} {T X:Un.Ty} {v vx vy:Value} {V w w' w0 w1:World}
section
variable {W:World} {cnt kb jb mb:Nat} {ρ:In.Rn} {G:jh} {β:Type} {p' q':jf β} {m:jf α} {k:α->jf β} {a:α}
def sv.eZ(h:sv c l kb jb mb w g s cnt ρ)(js:JS W g s)(t:fY l c w' g s V g1 s1)(f:Fr S w w1)(hS:¬S kb/\¬S jb/\¬S mb):sv c l kb jb mb w1 g1 s1 ah ρ:=by
 have⟨L,hm,hq⟩:=h.mp;refine⟨h.bk.fr f hS.1,h.bj.fr f hS.2.1,⟨L,hm.same<|f.block _ hm.lt hS.2.2,λv=>(hq v).imp id λ⟨n,m,q1,q2,q3,q4,q5,q6⟩=>?_⟩,h.far⟩;have⟨o1,o2,o3⟩:=t.st.fe m q3;have⟨x,hx⟩:=js.gl.hd m q3;exact⟨n,m,q1,q2,o1,o2.trans q4,o3.trans q5,λy hy=>t.lo m q3 x y hx hy l (br _)<|q6 x hx⟩
def mW.and'(n:mW c nb l gb w0 g0 s0 p' w g s cnt (jd m k))(hm:m s (.ok (a,s1)))(a1:AJ w1 c nb l ah g1 s1)(t1:fY l c w g s V g1 s1)(f:Fr (jG c g0 gb) w0 w1):mW c nb l gb w0 g0 s0 p' w1 g1 s1 ah (k a):=⟨a1,n.gr a1 t1,f,n.z,λo ho=>n.p o<|jz ⟨a,s1,hm,ho⟩⟩
def Me(a:AJ w c nb l cnt g s)(a':AJ w' c nb l ah g1 s1)(e:w'.heap[c.mb]? =w.heap[c.mb]?){x}{tk}{mt}(hx:c.mks x=some (tk,mt))(hv:∀w':World,w'.heap[c.mb]? =w.heap[c.mb]? ->(Instr.lookup 110 (Mv c.mb) (.string x) false).run Tryz.prog w'=.ok v w'):WY w' (λi=>i≠c.cb/\i<c.fZ) tk mt v:=by
 have⟨v',h1,h2⟩:=a'.je.ms.look hx;have e1:=hv w' e;rw[h2 w' rfl]at e1;injection e1 with e1;rw[<-e1];exact h1
def MdJ c nb l gb w0 g(s:ji)cnt(p:jf (Ty×jh))tk m L kb jb mb gk v wr:=
 ∃j cj gj sj ρ G,Hid (gk=L.length-j)/\j<=L.length/\v=Nv j/\mW c nb l gb w0 g s p wr gj sj cj (gT c.mks tk m L j G ρ)/\ch wr gb G gj sj/\sv c l kb jb mb wr gj sj cj ρ/\Hid (cj+1000*cD (L.drop j)<=cnt+1000*cD L+ak (tk.take j))
def mW.imp(n:mW c nb l gb w0 g0 s0 p' w g s cnt q'){r}(h:∀o,r s o->q' s o):mW c nb l gb w0 g0 s0 p' w g s cnt r:={n with p:=λo ho=>n.p o<|h o ho}
def ch.stg{V'}(e:ch w gb G g s)(hl:l<aL)(aj:AJ V c nb l cnt g s)(h1:JS w1 g1 s1)(t:fY l c V g s V' g1 s1)(f:Fr S w w1)(hS:¬S gb):ch w1 gb G g1 s1:=by
 obtain⟨L,h,q⟩:=e;exact⟨L,h.fr f hS,λx=>(q x).imp id λ⟨d,m,q1,q2,q3⟩=>⟨d,m,q1,q2,q3.eZ hl aj h1 t⟩⟩
def sv.no(an:sv c l kb jb mb w g s cnt ρ)(aj:AJ w c nb l cnt g s)(en:ch w gb G g s)(hm:mb≠gb):¬jG c g gb kb/\¬jG c g gb jb/\¬jG c g gb mb:=by
 obtain⟨L,hM,_⟩:=en;have⟨L',hm',_⟩:=an.mp;have⟨f1,f2,f3,_⟩:=an.far;have e0:=aj.je.bx.c 0;have e1:=aj.je.bx.c 1;have c0:=aj.je.ct.c 0;have k0:=an.bk.c 0;have j0:=an.bj.c 0;have j1:=an.bj.c 1;refine⟨?_,?_,?_⟩
 .rintro((q|q|q)|q)
  .grind
  .grind
  .have⟨p,hp⟩:=aj.js.gl.rf q;rw[hp]at k0;simp at k0
  .rw[q,hM.bE 0]at k0;simp at k0
 .rintro((q|q|q)|q)
  .grind
  .grind
  .have:=(aj.js.gl.nd jb q).lvl.1;rw[j1]at this;simp at this
  .rw[q,hM.bE 0]at j0;simp at j0
 .rintro((q|q|q)|q)
  .omega
  .omega
  .exact(aj.js.nQ hm').1 q
  .exact hm q
def WO tk m:ak tk+size m<=size (ju tk m):=by
 induction tk with
 |nil=>simp[ju,ak]|cons t tk ih=>
  have:ju (t::tk) m=In.lY t (ju tk m):=rfl;rw[this];simp only[ak,size];omega
def anp{p:Prop}(h:p:=by
 obtain⟨_,_,_,q4,q5⟩:=h.aj.je.ne;rintro((q|q|q)|q)
 .exact q4 q
 .exact q5 q
 .exact(h.aj.je.nQ h.aj.js).2 q
 .exact h.fg.2.2.1 q.symm):p:=h
def aeM{a y}{sa}{vs:Nat->Value}(H:∀i(h:i<L.length),PS L[i])(h:GZ (.mk 2 st n L f t a) c w nb l cnt g s gb G v)(aO:L=[]\/∃g,sa=some ⟨g,0,none⟩/\g<c.lo/\g<w.heap.size/\∀i,i<L.length->w.cell? ⟨g,i,none⟩=some (vs i))(hr:∀i(h:i<L.length),PP w (λb=>b<c.lo) L[i]<|vs i):
 Cq 315 #[nA c.eb,Mv gb,.agg #[Nv f,Nv t,Nv a,Nv y,.string st,.slice sa L.length sc]] w (qL c nb l gb (1000*nn (.mk 2 st n L f t a)) (jc c.mks (.mk 2 st n L f t a) G) g s cnt w):=by
 have en:nn (.mk 2 st n L f t a)=1+cD L:=by simp[nn]
 obtain⟨tk,m,hx,hl,HS⟩:∃tk m,c.mks st=some (tk,m)/\L.length=tk.length/\∀i(h:i<L.length),si c.mks c.nl L[i]:=by
  cases h.sc with
  |up _ _ _ _ _ _ tk m hx hl hr=>exact⟨tk,m,hx,hl,hr⟩|leaf _ _ _ _ _ _ hk=>omega
 have fa:=h.fa;rw[en]at fa;have gL:=h.mf.sz st tk m hx;have hsl:=WO tk m;have k0:Bq w (w.alloc<|.cells #[Nv f,Nv t,Nv a,Nv y,.string st,.slice sa L.length sc] 263):=bw _;obtain⟨v,hv,ya⟩:=h.aj.je.ms.look hx;obtain⟨ma,mc,ta,xa,rfl,-⟩:=hv;have zmb:=h.aj.je.ms.lt;have aeq:=ya (w.alloc<|.cells #[Nv f,Nv t,Nv a,Nv y,.string st,.slice sa L.length sc] 263).drew<|k0.drew.block c.mb zmb;have k00:Bq w ((w.alloc<|.cells #[Nv f,Nv t,Nv a,Nv y,.string st,.slice sa L.length sc] 263).alloc<|.cells #[.slice none 0 0,.nilIface] 357):=k0.alloc k0.size _;have aer:=ya _<|k00.drew.block c.mb zmb;obtain⟨e1,e2,e3⟩:=h.aj.je.bx;have hln:L.length<=1000:=by have:=sD tk m;omega
 rw[yY hx,en];have HA:=ai h;have HL:=ai hl;have HLK:=ai ya;have HX:=ai hx;clear h ya k0 k00 hl hx;go_enter func315,ntmps315;go_wp2_with fail;go_cut[7]from 12 (λv1 wc=>Wj w #[Nv f,Nv t,Nv a,Nv y,.string st,.slice sa L.length sc] #[.slice ma tk.length mc,.iface ta xa] v1 wc)
 case first=>
  go_region
  all_goals(
   go_wp2_with fail
   go_meet
   case rel=>exact Wj.a w _ _ _ _)
 case rest=>
  obtain⟨pb,rfl,zp,X1,T2,KC⟩:=hcut;clear aeq aer e1 e2 e3;have h:=uh HA;have zgb:=h.en.lt;have zkc:=KC.size;have nb1:=h.aj.gno h.en<|br _;have nb2:=h.aj.gno h.en<|Nat.le_of_lt zp;have N0:=mW.start (gb:=gb) (h.aj.af KC)<|gT c.mks tk m L 0 G jk;have HN:=TK (l:=l) (h.aj.af KC).je g s;have T1:=ai X1;clear X1 h;go_wp2_with fail;refine HN.mono ?_;rintro e w2⟨kb,jb,mb,rfl,an,k2,z2,h1,h2,h3⟩;have N2:=N0.af k2;have X1:=N2.bx T1 nb1;have ST:MdJ c nb l gb wc g s cnt (gT c.mks tk m L 0 G jk) tk m L kb jb mb L.length (Iv 0) w2:=⟨0,cnt,g,s,jk,G,ai ag,Nat.zero_le _,rfl,N2,(HA.en.af KC).af k2,an,ai<|by simp[ak]⟩;obtain⟨y1,y2,y3⟩:=X1;clear HN an k2 N2 N0
  go_wp2
  go_loopg[25] L.length (λgk v wr=>MdJ c nb l gb wc g s cnt (gT c.mks tk m L 0 G jk) tk m L kb jb mb gk v wr)
  case atStart=>exact ST
  case round=>
   clear ST y1 y2 y3;obtain⟨j,cj,gj,sj,ρ,Gj,dl,hj,rfl,at_,EJ,an,hbd⟩:=hrel;have hbd:=uh hbd;by_cases bm:j<L.length
   .have bA:(j:Int)<(L.length:Int):=ae;have It:(0:Int)<=(j:Int):=ae;have hjt:j<tk.length:=by have:=uh HL;omega
    have ahV:(j:Int)<(tk.length:Int):=ae;have h:=uh HA;have FF:=(qg (S:=jG c g gb) KC).trans at_.f;have nlo:∀b,b<c.lo->¬jG c g gb b:=λb p z=>z.elim (h.aj.jlo p) λz=>by have:=h.fg;omega
    obtain⟨gg,rfl,hQ,hz,bY⟩:=aO.resolve_left<|λe=>qBs;have Pt:=hr j bm;have cg:=(j7 (a:=⟨gg,j,none⟩)<|FF.block gg hz<|nlo gg hQ).trans<|bY j bm;obtain⟨tx,ax,evs⟩:=Pt.iface;rw[evs]at cg Pt;have Mx:=Pt.place;dsimp only[PlF]at Mx;have hdn:cD (L.drop j)=nn L[j]+cD (L.drop<|j+1):=by rw[List.drop_eq_getElem_cons bm];rfl
    have jQ:=Bj tk hjt;have H1:=H j bm c wr nb l cj gj sj gb Gj _ ⟨at_.a,EJ,Pt.move FF.size (λb p z=>FF.block b z<|nlo b p)<|λ_ p _=>p,HS j bm,h.fg,ae,h.fl,h.mf⟩;have AT:=ai<|at_.imp λo ho=>uB HL bm ho;have AN:=ai an;have hfl:=h.fl;obtain⟨y1,y2,y3⟩:=at_.bx T1 nb1;clear at_ an h Pt bY FF nlo;go_wp2_with fail;refine H1.mono ?_;rintro e w3(⟨n3,g3,s3,c3,T3,G3,rfl,p3,a3,t3,f3,e3,hc3,r3⟩|hb)
    .have h:=uh HA;have zj:=AT.a.je.z.2.2;have emb:mb≠gb:=ae;have nG:=AN.no AT.a EJ emb;have an3:sv c l kb jb mb w3 g3 s3 c3 ρ:=AN.eZ AT.a.js t3 f3 nG;have at3:=AT.and p3 a3 t3 f3;have nmb:¬jG c g gb c.mb:=by
      exact anp
     have W7:=Me h.aj a3 (((qg (S:=jG c g gb) KC).trans at3.f).block _ zmb nmb) HX HLK;obtain⟨ma',mc',ta',xa',ee,hmr,jA⟩:=W7;obtain⟨gt,vt,hgt,pgt,zgt,hct⟩:=hmr.resolve_left (λe=>by subst e;simp at hjt);obtain⟨ct,tt⟩:=hct j hjt;obtain⟨tb,xb,evt⟩:=tt.iface;rw[evt]at ct tt;have ema:ma=some ⟨gt,0,none⟩:=by
      injection ee with ee;have:=congrArg (λa:Array Value=>a[0]?) ee;simp at this;rw[this.1,hgt]
     subst ema;have zk:kb<w3.heap.size/\jb<w3.heap.size/\mb<w3.heap.size:=⟨an3.bk.z,an3.bj.z,by obtain⟨L',hm',_⟩:=an3.mp;exact hm'.lt⟩;have Be:∀W:World,Bq w3 W->Cq 289 #[.iface tb xb,Nv l,anV kb jb] W (LY c nb l (λb=>b=mb) (sv c l kb jb mb) g3 s3 c3 ρ tk[j] W):=λW hk=>TH zk.1 zk.2.1 zk.2.2 tk[j] W g3 s3 c3 ρ _ _ (a3.af hk).je (a3.af hk).js a3.us (sv.eZ (W:=w3) (w':=w3) an3 a3.js (.refl a3.js c l) (qg (S:=λ_=>False) hk) ⟨id,id,id⟩) hk.size (tt.move hk.size (λb _ z=>hk.block b z)<|λ_ p _=>p) (λb p=>⟨p.1,by have:=an3.far.1;have:=p.2;omega⟩) ae (λ_ _=>trivial) ae;have HK:∀W e w4,Bq w3 W->LY c nb l (λb=>b=mb) (sv c l kb jb mb) g3 s3 c3 ρ tk[j] W e w4->∃n4 g4 s4 c4 Dy,e=.returned (nA n4)/\mW c nb l gb wc g s (gT c.mks tk m L 0 G jk) w4 g4 s4 c4 (jd (jv T3 (sub (In.via Dy) tk[j]) (In.iJ L[j])<|In.xD L[j]) λ_=>gT c.mks tk m L (j+1) G3 Dy)/\nR l g4 s4 n3 T3/\nR l g4 s4 n4 (sub (In.via Dy) tk[j])/\sv c l kb jb mb w4 g4 s4 c4 Dy/\ch w4 gb G3 g4 s4/\c4<=c3+size tk[j]:=λW e w4 hk hp=>by
      obtain⟨n4,g4,s4,c4,Dy,rfl,je,js,an4,o,hn,hV,yP,hT,qQ,F⟩:=hp;have o':=o.zK hk.size;have a4:=o'.aj a3 (br _) je js;have t4:fY l c w3 g3 s3 w3 g4 s4:=o'.stj a3.js (br _)<|.refl _ _;have F4:=(qg (S:=λb=>b=c.cb\/b=mb) hk).trans F;refine⟨n4,g4,s4,c4,Dy,rfl,at3.and' (o'.drawn hT) a4 t4<|at3.f.trans' F4 λx q=>q.imp (λq=>j5<|j5 q) λq=>ae,r3.eZ a3.js t4,⟨hn,?_,yP⟩,an4,e3.stg hfl a3 js t4 F4<|λq=>q.elim (λq=>?_)<|λq=>emb q.symm,qQ⟩
      .rw[hV,o.kk]
      .obtain⟨L',hM,_⟩:=e3;have:=a3.je.ct.c 0;rw[<-q,hM.bE 0]at this;simp at this
     obtain⟨x1,x2,x3⟩:=at3.bx T2 nb2;have l3:=a3.je.bx.c 4;clear h jA hct tt an3 at3 a3 t3 f3 e3 r3 p3 H1 nG nmb
     go_wp2
     go_region_with(first
      |(go_at_call 289;go_loud(refine(Be _ (jy _ _).drew).mono ?_);intro e w4 hp;obtain⟨n4,g4,s4,c4,Dy,rfl,at4,r4,r4',an4,e4,hc4⟩:=HK _ _ _ (jy _ _).drew hp;have AT4:=ai at4;have R4:=ai<|j6 r4 r4';have AN4:=ai<|j6 an4 e4;clear hp at4 r4 r4' an4 e4)
      |(go_at_call 317;refine(de _ _).mono ?_;rintro e w5⟨rfl,k5⟩;have AT5:=ai<|AT4.af k5;have AN5:Hid (sv c l kb jb mb w5 g4 s4 c4 Dy/\ch w5 gb G3 g4 s4):=ai ⟨sv.eZ AN4.1 AT4.a.js (.refl AT4.a.js c l) (qg (S:=λ_=>False) k5) ⟨id,id,id⟩,AN4.2.af k5⟩;clear k5)
      |(go_at_call 294;go_loud(refine(D9 AT5.a hfl R4.1 R4.2 _ _).mono ?_);intro e w6 hq;obtain hb|⟨he,g6,s6,p6,a6,t6⟩:=hq.symm;go_loud(have HP:=AT5.bad hb.bp;obtain⟨z,vl,vr,rfl,-⟩:=hb;exact⟨rfl,qL.up (jz HP) KC⟩);subst he;go_loud(have N6:Hid (MdJ c nb l gb wc g s cnt (gT c.mks tk m L 0 G jk) tk m L kb jb mb (L.length-(j+1)) (.int .i64 ((j+1:Nat):Int)) w6):=ai ⟨j+1,c4,g6,s6,Dy,G3,ai rfl,bm,rfl,AT5.and p6 a6 t6 t6.fg,AN5.2.eZ hfl AT5.a a6.js t6,AN5.1.eZ AT5.a.js t6 t6.fr (let q:=AN5.1.no AT5.a AN5.2 emb;⟨λz=>q.1<|j5 z,λz=>q.2.1<|j5 z,λz=>q.2.2<|j5 z⟩),ai ae⟩);clear p6 a6 t6))
     all_goals
      go_wp2
      go_roundg(L.length-(j+1))
      case measure=>rw[uh dl];omega
      case rel=>exact N6
    .have HP:=AT.bad hb;obtain⟨z,vl,vr,rfl,-⟩:=hb;clear H1
     go_wp2
     exact⟨rfl,qL.up (jz HP) KC⟩
   .have bA:¬(j:Int)<(L.length:Int):=ae;have ej':j=L.length:=ae;subst ej';have h:=uh HA;have hfl:=h.fl;have zj:=at_.a.je.z.2.2;have emb:mb≠gb:=ae;have jQ:ak (tk.take L.length)<=ak tk:=by rw[uh HL,List.take_length];exact br _
    have nmb:¬jG c g gb c.mb:=by
     exact anp
    have W7:=Me h.aj at_.a (((qg (S:=jG c g gb) KC).trans at_.f).block _ zmb nmb) HX HLK;obtain⟨ma',mc',ta',xa',ee,hmr,jA⟩:=W7;have ema:(Value.iface ta xa)=.iface ta' xa':=by
     injection ee with ee;have:=congrArg (λa:Array Value=>a[1]?) ee;simpa using this
    rw[<-ema]at jA;have at2:=at_.imp λo ho=>Iw HL ho;have zk:kb<wr.heap.size/\jb<wr.heap.size/\mb<wr.heap.size:=⟨an.bk.z,an.bj.z,by obtain⟨L',hm',_⟩:=an.mp;exact hm'.lt⟩;have Be:∀W:World,Bq wr W->Cq 289 #[.iface ta xa,Nv l,anV kb jb] W (LY c nb l (λb=>b=mb) (sv c l kb jb mb) gj sj cj ρ m W):=λW hk=>TH zk.1 zk.2.1 zk.2.2 m W gj sj cj ρ _ _ (at_.a.af hk).je (at_.a.af hk).js at_.a.us (sv.eZ (W:=wr) (w':=wr) an at_.a.js (.refl at_.a.js c l) (qg (S:=λ_=>False) hk) ⟨id,id,id⟩) hk.size (jA.move hk.size (λb _ z=>hk.block b z)<|λ_ p _=>p) (λb p=>⟨p.1,by have:=an.far.1;have:=p.2;omega⟩) ae (λ_ _=>trivial) ae;have HK:∀W e w4,Bq wr W->LY c nb l (λb=>b=mb) (sv c l kb jb mb) gj sj cj ρ m W e w4->∃n4,e=.returned (nA n4)/\qL c nb l gb (1000*(1+cD L)) (gT c.mks tk m L 0 G jk) g s cnt w (.returned<|nA n4) w4:=λW e w4 hk hp=>by
     obtain⟨n4,g4,s4,c4,Dy,rfl,je,js,an4,o,hn,hV,yP,hT,qQ,F⟩:=hp;have o':=o.zK hk.size;have a4:=o'.aj at_.a (br _) je js;have t4:fY l c wr gj sj wr g4 s4:=o'.stj at_.a.js (br _)<|.refl _ _;have F4:=(qg (S:=λb=>b=c.cb\/b=mb) hk).trans F
     have e4:=EJ.stg hfl at_.a js t4 F4 (λq=>q.elim (λq=>by
      obtain⟨L',hM,_⟩:=EJ;have:=at_.a.je.ct.c 0;rw[<-q,hM.bE 0]at this
      simp at this) (λq=>emb q.symm))
     exact⟨n4,rfl,((at2.and' (o'.drawn hT) a4 t4<|at_.f.trans' F4 λx q=>q.imp (λq=>j5<|j5 q) λq=>ae).ret e4 ⟨hn,by rw[hV,o.kk],yP⟩ (by simp at hbd;omega)).up KC⟩
    obtain⟨x1,x2,x3⟩:=at_.bx T2 nb2;have l3:=at_.a.je.bx.c 4;clear h at_ at2 an jA hmr nmb
    go_wp2
    go_region_with(first
     |(go_at_call 289;go_loud(refine(Be _ (jy _ _).drew).mono ?_);intro e w4 hp;obtain⟨n4,rfl,hP⟩:=HK _ _ _ (jy _ _).drew hp;have HP:=ai hP;clear hp hP))
    all_goals
     go_wp2
     go_ret;exact HP
end
def acq st n f t a(H:∀i(h:i<L.length),PS L[i]):PS (.mk 2 st n L f t a):=by
 intro c w nb l cnt g s gb G v h;obtain⟨y,sa,sc,vs,rfl,aO,hr⟩:∃(y:Nat)(sa:Option Addr)(sc:Nat)(vs:Nat->Value),v=Fv 263 (Av #[Nv f,Nv t,Nv a,Nv y,Sv st,Lv sa L.length sc])/\(L=[]\/∃g,sa=some ⟨g,0,none⟩/\g<c.lo/\g<w.heap.size/\∀i,i<L.length->w.cell? ⟨g,i,none⟩=some (vs i))/\∀i(h:i<L.length),PP w (λb=>b<c.lo) L[i]<|vs i:=by
  cases h.pp with
  |up _ _ _ _ _ _ y sa sc vs hu hy aO hr=>exact⟨_,sa,sc,vs,rfl,aO,hr⟩
 have k0:Bq w (w.alloc<|Cv #[Nv f,Nv t,Nv a,Nv y,Sv st,Lv sa L.length sc] 263):=bw _
 have H1:=aeM (y:=y) (sc:=sc) H (h.up k0) (aO.imp id λq=>by
  obtain⟨g,q1,q2,q3,q4⟩:=q
  exact⟨g,q1,q2,Nat.lt_of_lt_of_le q3 k0.size,λi hi=>(j7 (a:=⟨g,i,none⟩)<|k0.block g q3).trans<|q4 i hi⟩)<|λi hi=>(hr i hi).af k0
 have K0:=ai k0;have q1:=YV;have q2:=uG;have q3:=QL;have q4:=QN;go_enter func313,ntmps313;go_wp2_with fail;refine H1.mono ?_;intro e w1 hp;have HP:=hp.up K0;obtain⟨n1,-,-,-,-,-,rfl,-⟩|⟨z,vl,vr,rfl,-⟩:=hp
 .clear H1
  go_wp2
  go_ret;exact HP
 .clear H1
  go_wp2
  exact⟨rfl,HP⟩
def acr:∀(k:Nat)(nd:Nd),nn nd<=k->PS nd:=by
 intro k
 induction k with
 |zero=>intro nd h;cases nd;simp only[nn]at h;omega|succ k ih=>
  intro nd hk c w nb l cnt g s gb G v h;have hp:=h.pp;have fa:=h.fa;have n1:∀k s n f t a,nn (.mk k s n [] f t a)=1:=λ_ _ _ _ _ _=>qBi
  cases hp with
  |any st n f t a=>
   rw[n1]at fa⊢;rw[show jc c.mks (.mk 15 st n [] f t a) G=jd jt λv=>jj (.var v,G) by simp[jc,jp]];exact aeK h.aj h.en h.fl ae
  |low st n f t a=>
   rw[n1]at fa⊢;rw[show jc c.mks (.mk 1 st n [] f t a) G=jd jt λv=>jj (.var v,jo G st<|In.mono<|.var v) by simp[jc,jp]];exact aeL h.aj h.en h.fl ae ⟨h.fg.1,h.fg.2.1,h.fg.2.2.1⟩
  |num st n f t a=>
   rw[n1]at fa⊢;rw[show jc c.mks (.mk 3 st n [] f t a) G=jj (In.i_,G) by simp[jc,jp]];exact Br (j5 ⟨rfl,rfl,_,rfl⟩) h.aj h.en h.fl ae
  |word st n f t a b=>
   rw[n1]at fa⊢;rw[show jc c.mks (.mk 4 st n [] f t a) G=jj (In.oB,G) by simp[jc,jp]];exact Br (jz<|j5 ⟨rfl,rfl,_,rfl⟩) h.aj h.en h.fl ae
  |unit st n f t a=>
   rw[n1]at fa⊢;rw[show jc c.mks (.mk 5 st n [] f t a) G=jj (In.nX,G) by simp[jc,jp]];exact Br (jz<|jz ⟨rfl,rfl,rfl⟩) h.aj h.en h.fl ae
  |pr st n x y f t a vx vy hx hy=>exact acp (ih x CH) (ih y CH) h hx hy|up st n L f t a y sa sc vs hu hy aO hr=>exact acq st n f t a (λi hi=>ih _ (by have:=Pw L i hi;simp only[nn]at hk;omega)) c w nb l cnt g s gb G _ h
def aij nd:PS nd:=acr _ nd<|br _
def MtJ c nb l w0 g(s:ji)D(p:jf Ty)(Γ:jh)n1 n2 T U A gk v wr:=
 ∃j cj gj sj,Hid (gk=A.length-j)/\j<=A.length/\v=Nv j/\mZ c nb l w0 g s p wr gj sj cj (mV c.mks Γ T U A j)/\nR l gj sj n1 T/\nR l gj sj n2 U/\Hid (cj+1000*cD (aP<|A.drop j)<=D)
section
variable {cnt:Nat} {p:jf Ty}
def mZ.imp(n:mZ c nb l w0 g0 s0 p w g s cnt q)(h:∀o,r s o->q s o):mZ c nb l w0 g0 s0 p w g s cnt r:={n with p:=λo ho=>n.p o<|h o ho}
def mW.out(n:yJ c nb l w0 g0 s0 w g s cnt)(f:Fr (jG c g gb) w w1)(hg:w0.heap.size<=gb):Fr (jS c g0) w0 w1:=n.t.fr.trans' f λx q=>by
 obtain  (q|q|q)|q:=q
 .omega
 .omega
 .exact(n.t.nw x q).imp (λz=>jz<|jz z) id
 .omega
def mZ.ofP(n:mZ c nb l w0 g0 s0 p w g s cnt q)(m:mW c nb l gb w g s q w1 g1 s1 ah r)(hg:w0.heap.size<=gb):mZ c nb l w0 g0 s0 p w1 g1 s1 ah r:=by
 have⟨k0,z⟩:=n.n.z;have t:=n.n.t.trans z.js n.n.a.js m.a.js m.t;exact⟨⟨m.a,{t with fr:=mW.out n.n m.f hg},n.n.z⟩,λo ho=>n.p o<|m.p o ho⟩
def mZ.aeO(n:mZ c nb l w0 g0 s0 p w g s cnt q)(b:aco c gb q g s w e w')(hg:w0.heap.size<=gb):uk c p g0 s0 w0 e w':=by
 obtain⟨z,vl,vr,h1,h2,h3,h4⟩:=b;exact⟨z,vl,vr,h1,n.p _ h2,h3,mW.out n.n h4 hg⟩
def ch.nob(en:ch w nb Γ g s)(aj:AJ w c nb l cnt g s):¬jS c g nb:=by
 obtain⟨L,h,q⟩:=en;rintro(z|z|z)
 .have:=aj.je.ct.c 0;rw[<-z,h.bE 0]at this;simp at this
 .have:=aj.je.bx.c 0;rw[<-z,h.bE 0]at this;simp at this
 .exact(aj.js.nQ h.ms).1 z
def akJ{mk}(hs:ScE mk nl dom (.mk 13 st n (x::aP A) f t a)):ScE mk nl dom x/\(∀i(h:i<A.length),si mk nl A[i].1)/\∀i(h:i<A.length),ScE mk nl (λv=>dom v\/v∈pM A[i].1) A[i].2:=by
 generalize hL:x::aP A=L at hs
 cases hs with
 |mt _ _ _ x' A' _ _ _ hx hp he=>
  injection hL with h1 h2;subst h1;have:∀(A A':List (Nd×Nd)),aP A=aP A'->A=A':=by
   intro A
   induction A with
   |nil=>intro A' e;cases A' with|nil=>rfl|cons=>simp[aP]at e
   |cons p r ih=>
    intro A' e
    cases A' with
    |nil=>simp[aP]at e|cons p' r'=>
     simp only[aP,List.cons.injEq]at e;obtain⟨e1,e2,e3⟩:=e;rw[ih r' e3,Prod.ext e1 e2]
  obtain rfl:=this A A' h2;exact⟨hx,hp,he⟩
 |leaf _ _ _ _ _ _ _ hk=>omega|two _ _ _ _ _ _ _ _ _ hk=>omega|lt _ _ _ _ _ _ _ _ _ _ hk=>omega
def aik{rb}{vp ve:Nat->Value}(Hx:jO x)(He:∀i(h:i<A.length),jO A[i].2)(h:nT (.mk 13 st n (x::aP A) f t a) c w nb l cnt g s Γ dom v)(hg:rb<c.lo)(k9:rb<w.heap.size)(hc:∀i,i<A.length->(∃u v,w.cell? ⟨rb,i*4,none⟩=some (Iv u)/\w.cell? ⟨rb,i*4+1,none⟩=some (Iv v))/\w.cell? ⟨rb,i*4+2,none⟩=some (vp i)/\w.cell? ⟨rb,i*4+3,none⟩=some (ve i))(hx:PE w (λb=>b<c.lo) x vx)(hp:∀i(h:i<A.length),PP w (λb=>b<c.lo) A[i].1<|vp i)(he:∀i(h:i<A.length),PE w (λb=>b<c.lo) A[i].2<|ve i):
 Cq 303 #[nA c.eb,.agg #[Nv f,Nv t,vx,.slice (some ⟨rb,0,none⟩) A.length sc]] w (cU c nb l (1000*nn (.mk 13 st n (x::aP A) f t a)) (ja c.mks (.mk 13 st n (x::aP A) f t a) Γ) g s cnt w):=by
 have en:nn (.mk 13 st n (x::aP A) f t a)=1+nn x+cD (aP A):=Mu;have⟨sx,SP,SE⟩:=akJ h.sc;have fa:=h.fa;have fb:=h.fb;rw[en]at fa fb;have hl:l<aL:=ZQ;have hAl:=pD A;have⟨k0,B0⟩:=rq w #[Nv f,Nv t,vx,Lv (some ⟨rb,0,none⟩) A.length sc] 233;have HA:=h.up k0;have D_:=h.aj.iU<|br _;have n0:=mZ.start HA.aj<|ja c.mks (.mk 13 st n (x::aP A) f t a) Γ;have H1:=Hx c _ nb l cnt g s Γ dom vx<|HA.part n0.n (hx.af k0) sx El El;rw[Px]at n0;rw[en,Px];obtain⟨p,Pt⟩:∃p,p=(jd (ja c.mks x Γ) λa=>jd jt λv=>mV c.mks Γ a (.var v) A 0):=⟨_,rfl⟩;have N0:mZ c nb l (w.alloc<|Cv #[Nv f,Nv t,vx,Lv (some ⟨rb,0,none⟩) A.length sc] 233) g s p (w.alloc<|Cv #[Nv f,Nv t,vx,Lv (some ⟨rb,0,none⟩) A.length sc] 233) g s cnt (jd (ja c.mks x Γ) λa=>jd jt λv=>mV c.mks Γ a (.var v) A 0):=(by rw[Pt];exact n0);rw[<-Pt];have jA:= @run_makeMap Tryz.prog;obtain⟨tx,ax,rfl⟩:=hx.iface;obtain⟨W0,HW⟩:∃W,W=w.alloc (Cv #[Nv f,Nv t,Fv tx<|Av ax,Lv (some ⟨rb,0,none⟩) A.length sc] 233):=⟨_,rfl⟩;rw[<-HW]at HA N0 B0 k0 H1;have CZ:∀o,W0.cell? ⟨rb,o,none⟩=w.cell? ⟨rb,o,none⟩:=λo=>j7 (a:=⟨rb,o,none⟩)<|k0.block rb k9;have HP:∀i(h:i<A.length),PP W0 (λb=>b<c.lo) A[i].1<|vp i:=λi hi=>(hp i hi).af k0;have HE:∀i(h:i<A.length),PE W0 (λb=>b<c.lo) A[i].2<|ve i:=λi hi=>(he i hi).af k0
 have ahu:=Nat.lt_of_lt_of_le k9 k0.size;have nrb:=h.aj.jlo hg;have K0:=ai k0;clear h n0 k0 hp he hx Hx Pt;go_enter func303,ntmps303;go_wp2_with fail;rw[<-HW];refine H1.mono ?_;rintro e w1(⟨n1,g1,s1,ah,T1,rfl,p1,a1,t1,hc1,r1⟩|hb)
 .have N1:=N0.and p1 a1 t1;have H2:=vI a1 ae;have R1:=ai r1;clear H1 p1 a1 t1 r1 N0;go_wp2_with fail;refine H2.mono ?_;rintro e w2⟨n2,g2,rfl,p2,a2,t2,r2,-⟩;have N2:=N1.and p2 a2 t2;have⟨b1,b2,b3⟩:=N2.n.bx B0 D_;have ST:MtJ c nb l W0 g s (cnt+1000*(1+nn x+cD (aP A))) p Γ n1 n2 T1 (.var<|ah+1) A A.length (Iv 0) w2:=⟨0,ah+1,g2,_,ai ag,Nat.zero_le _,rfl,N2,R1.eZ N1.n.a.js t2,r2,ai (by rw[List.drop_zero];omega)⟩;clear H2 p2 a2 t2 r2 N2 N1 R1
  go_wp2
  go_loopg[19] A.length (λgk v wr=>MtJ c nb l W0 g s (cnt+1000*(1+nn x+cD (aP A))) p Γ n1 n2 T1 (.var<|ah+1) A gk v wr)
  case atStart=>exact ST
  case round=>
   clear ST b1 b2 b3;obtain⟨j,cj,gj,sj,dl,hj,rfl,at_,r1,r2,hbd⟩:=hrel;have hbd:=uh hbd;by_cases bm:j<A.length
   .have bA:(j:Int)<(A.length:Int):=ae;have It:(0:Int)<=(j:Int):=ae;have mw:∀o,wr.cell? ⟨rb,o,none⟩=w.cell? ⟨rb,o,none⟩:=λo=>(j7 (a:=⟨rb,o,none⟩)<|at_.n.t.fr.block rb ahu nrb).trans<|CZ o;have⟨⟨u,v,d0,d1⟩,d2,d3⟩:=hc j bm;rw[<-mw]at d0 d1 d2 d3;clear mw;have pp:=HP j bm;have pe:=HE j bm;have⟨t1,x1,e1⟩:=pp.iface;have⟨t2,x2,e2⟩:=pe.iface;rw[e1]at d2 pp;rw[e2]at d3 pe;have pl1:=pp.place;have pl2:=pe.place;dsimp only[PlF]at pl1 pl2;have hdn:=DZ bm;have hnn:=sG A j bm;have k1:Bq wr ((wr.alloc<|Cv #[Iv u,Iv v,Fv t1<|Av x1,Fv t2<|Av x2] 255).alloc<|.map #[] 0):=(bw _).alloc ag _;obtain⟨W1,BE⟩:∃W,W=(wr.alloc<|Cv #[Iv u,Iv v,Fv t1<|Av x1,Fv t2<|Av x2] 255).alloc (.map #[] 0):=⟨_,rfl⟩;have B1:=(Bx.new wr #[Iv u,Iv v,Fv t1<|Av x1,Fv t2<|Av x2] 255).alloc<|.map #[] 0;have E1:ch W1 (wr.heap.size+1) (λ_=>none) gj sj:=by
     have:=ch.new (wr.alloc<|Cv #[Iv u,Iv v,Fv t1<|Av x1,Fv t2<|Av x2] 255) gj sj;rw[BE];simpa using this
    rw[<-BE]at k1 B1;have Xq:=(at_.af k1).imp λo q=>DY bm q;have z0:=at_.n.t.fr.size;have zb:=at_.n.a.je.bx.z;have zz:=at_.n.a.je.z;have zr:=at_.n.a.je.rs.lt;have zm:=at_.n.a.je.ms.lt;have nbx:=at_.n.a.iU<|br _;have h:=HA;have HPA:∀W:World,Bq W1 W->Cq 313 #[nA c.eb,Mv<|wr.heap.size+1,Fv t1<|Av x1] W (qL c nb l (wr.heap.size+1) (1000*nn A[j].1) (jc c.mks A[j].1 λ_=>none) gj sj cj W):=λW k=>aij A[j].1 c W nb l cj gj sj _ (λ_=>none) _ ⟨Xq.n.a.af k,E1.af k,(pp.move (Q:=λb=>b<c.lo) Xq.n.t.fr.size (λb p q=>Xq.n.t.fr.block b q<|h.aj.jlo p)<|λ_ p _=>p).af k,SP j bm,⟨ae,ae,ae,ae⟩,ae,hl,h.mf⟩;have EN1:=h.en.eZ hl h.aj Xq.n.a.js Xq.n.t;have nen:=EN1.nob Xq.n.a;have zen:=EN1.lt;have ngb:¬jG c gj (wr.heap.size+1) wr.heap.size:=λq=>q.elim nbx λq=>ae;have neg:¬jG c gj (wr.heap.size+1) nb:=λq=>q.elim nen λq=>by have:=(h.en.eZ hl h.aj at_.n.a.js at_.n.t).lt;omega
    have LP:=mW.start (gb:=wr.heap.size+1) Xq.n.a<|abV c.mks Γ T1 (.var<|ah+1) A j bm;rw[abV]at LP;have AT1:=ai Xq;have RR:=j6 r1 r2;have PE2:=pe.move (Q:=λb=>b<c.lo) Xq.n.t.fr.size (λb p q=>Xq.n.t.fr.block b q<|h.aj.jlo p)<|λ_ p _=>p;have nlo:∀b,b<c.lo->¬jG c gj (wr.heap.size+1) b:=λb p q=>q.elim (Xq.n.a.jlo p) λq=>ae;have eH:=ai B1;have B7:=ai BE;have hdm:=ai<|j6 h.hd h.mf;obtain⟨c1,c2,c3⟩:=B1;clear at_ Xq r1 r2 pp pe h k1 E1 BE nen;go_wp2_with fail;rw[<-uh B7];go_cut[]from 24 to 33 (λwc=>∃g3 s3 c3 T3 G3 s2,jc c.mks A[j].1 (λ_=>none) sj (.ok ((T3,G3),s2))/\mW c nb l (wr.heap.size+1) W1 gj sj (abV c.mks Γ T1 (.var<|ah+1) A j bm) wc g3 s3 c3 (jd (ja c.mks A[j].2<|In.over G3 Γ) λu=>jd (jv (.var<|ah+1) u (In.iJ A[j].2)<|In.xD A[j].2) λ_=>mV c.mks Γ T1 (.var<|ah+1) A<|j+1)/\ch wc (wr.heap.size+1) G3 g3 s3/\nR l g3 s3 n1 T1/\nR l g3 s3 n2 (.var<|ah+1)/\c3<=cj+1000*nn A[j].1)
    case first=>
     go_region_with(first
      |(go_at_call 313;go_loud(refine(HPA _ (jy _ _).drew).mono ?_);intro e w3 hq;obtain hb|⟨n3,g3,s3,c3',T3,G3,he,p3,a3,t3,f3,e3,hc3,r3⟩:=hq.symm;go_loud(have HX:=AT1.aeO ((LP.af (jy _ _).drew).bad hb) ae;obtain⟨z,vl,vr,rfl,-⟩:=hb;exact⟨rfl,cU.up (jz HX) K0⟩);subst he;have L3:=ai<|(LP.af (jy _ _).drew).and p3 a3 t3 f3;have P3:=ai p3;have R3:=ai<|j6 (RR.1.eZ LP.a.js t3)<|j6 (RR.2.eZ LP.a.js t3) r3;have E3:=ai e3;have⟨f1,f2,f3⟩:=L3.bx eH ngb;clear p3 a3 t3 e3 r3)
      |(go_at_call 317;refine(de _ _).mono ?_;rintro e w4⟨rfl,k4⟩;have L4:=ai<|L3.af k4;have E4:=ai<|E3.af k4;clear k4)
      |(go_at_call 294;go_loud(refine(D9 L4.a hl R3.1 R3.2.2 _ _).mono ?_);intro e w5 hq;obtain hb|⟨he,g5,s5,p5,a5,t5⟩:=hq.symm;go_loud(have HX:=AT1.aeO (L4.bad hb.bp) ae;obtain⟨z,vl,vr,rfl,-⟩:=hb;exact⟨rfl,cU.up (jz HX) K0⟩);subst he;have L5:=ai<|j6 (L4.and p5 a5 t5 t5.fg)<|j6 (E4.eZ hl L4.a a5.js t5)<|j6 (R3.1.eZ L4.a.js t5)<|R3.2.1.eZ L4.a.js t5;clear p5 a5 t5))
     all_goals
      go_wp2_with fail
      go_meet
      case rel=>
       refine⟨_,_,_,_,_,_,P3,L5.1,L5.2.1,L5.2.2.1,L5.2.2.2,?_⟩;omega
    case rest=>
     obtain⟨g3,s3,c3',T3,G3,s2,p3,L3,e3,r1,r2,hc3⟩:=hcut;have dm:=LU (SP j bm) p3 hdm.1;have en3:=EN1.stg hl LP.a L3.a.js L3.t L3.f neg;have pe3:=PE2.move (Q:=λb=>b<c.lo) L3.f.size (λb p q=>L3.f.block b q<|nlo b p)<|λ_ p _=>p;have HWI:∀W:World,Bq wc W->Cq 293 #[nA c.eb,Mv<|wr.heap.size+1,Fv t2<|Av x2] W (cU c nb l (1000*nn A[j].2) (ja c.mks A[j].2<|In.over G3 Γ) g3 s3 c3' W):=λW k=>qA (He j bm) (L3.a.af k) (en3.af k) (e3.af k) (pe3.af k) (SE j bm) dm ae ae hdm.2;have R3:=j6 r1 r2;have⟨f1,f2,f3⟩:=L3.bx eH ngb;clear e3 r1 r2 en3 pe3 dm p3 HPA LP RR c1 c2 c3 PE2
     go_wp2
     go_region_with(first
      |(go_at_call 293;go_loud(refine(HWI _ (jy _ _).drew).mono ?_);intro e w3 hq;obtain hb|⟨n4,g4,s4,c4,T4,he,p4,a4,t4,hc4,r4⟩:=hq.symm;go_loud(have HX:=AT1.aeO ((L3.af (jy _ _).drew).bad hb.bp) ae;obtain⟨z,vl,vr,rfl,-⟩:=hb;exact⟨rfl,cU.up (jz HX) K0⟩);subst he;have L4:=ai<|(L3.af (jy _ _).drew).and p4 a4 t4 t4.fg;have R4:=ai<|j6 (R3.1.eZ L3.a.js t4)<|j6 (R3.2.eZ L3.a.js t4) r4;have⟨m1,m2,m3⟩:=L4.bx eH ngb;clear p4 a4 t4 r4)
      |(go_at_call 317;refine(de _ _).mono ?_;rintro e w4⟨rfl,k4⟩;have L5:=ai<|L4.af k4;clear k4)
      |(go_at_call 294;go_loud(refine(D9 L5.a hl R4.2.1 R4.2.2 _ _).mono ?_);intro e w5 hq;obtain hb|⟨he,g6,s6,p6,a6,t6⟩:=hq.symm;go_loud(have HX:=AT1.aeO (L5.bad hb.bp) ae;obtain⟨z,vl,vr,rfl,-⟩:=hb;exact⟨rfl,cU.up (jz HX) K0⟩);subst he;have N6:Hid (MtJ c nb l W0 g s (cnt+1000*(1+nn x+cD (aP A))) p Γ n1 n2 T1 (.var<|ah+1) A (A.length-(j+1)) (.int .i64 ((j+1:Nat):Int)) w5):=ai ⟨j+1,c4,g6,s6,ai rfl,bm,rfl,AT1.ofP (L5.and p6 a6 t6 t6.fg) ae,R4.1.eZ L5.a.js t6,R4.2.1.eZ L5.a.js t6,ai ae⟩;clear p6 a6 t6))
     all_goals
      go_wp2
      go_roundg(A.length-(j+1))
      case measure=>rw[uh dl];omega
      case rel=>exact N6
   .have bA:¬(j:Int)<(A.length:Int):=ae;have ej:j=A.length:=ae;subst ej;have HX:=(((at_.imp λo q=>LS _ _ _ _ _ _ _ q).ret r2 (D:=1000*(1+nn x+cD (aP A))) (cnt0:=cnt) ae)).up K0;clear at_ r1 r2
    go_wp2
    go_ret;exact HX
 .have HX:=N0.bad hb;obtain⟨z,vl,vr,rfl,-⟩:=hb;clear H1
  go_wp2
  exact⟨rfl,cU.up (jz HX) K0⟩
end
structure mg nd c nb l w0 cnt0 g0(s0:ji)(Γ:jh)dom v D(q:jf Ty)(P:World->f_->ji->Prop)(s:ji)cnt g w:Prop where
 h:nT nd c w0 nb l cnt0 g0 s0 Γ dom v
 n:mZ c nb l w0 g0 s0 (ja c.mks nd Γ) w g s cnt q
 lv:∀w' g' s' k,AJ w' c nb l k g' s'->fY l c w g s w' g' s'->P w' g' s'
 cn:cnt+D<=cnt0+1000*nn nd
section
variable {nd:Nd} {cnt D D2:Nat} {q2:jf Ty} {P P':World->f_->ji->Prop} {post:Ending->World->Prop}
def mg.start(h:nT nd c w0 nb l cnt0 g0 s0 Γ dom v)(e:ja c.mks nd Γ=q):mg nd c nb l w0 cnt0 g0 s0 Γ dom v (1000*nn nd) q (λ_ _ _=>True) s0 cnt0 g0 w0:=⟨h,⟨.refl h.aj,λo k=>e▸k⟩,λ_ _ _ _ _ _=>trivial,br _⟩
def mg.p(H:mg nd c nb l w0 cnt0 g0 s0 Γ dom v D q P s cnt g w):P w g s:=H.lv w g s _ H.n.n.a<|.refl H.n.n.a.js c l
def mg.hl(H:mg nd c nb l w0 cnt0 g0 s0 Γ dom v D q P s cnt g w):l<aL:=by have:=H.h.fb;rw[aL];omega
def mg.next(H:mg nd c nb l w0 cnt0 g0 s0 Γ dom v D q P s cnt g w)(a1:AJ w1 c nb l ah g1 s1)(t1:fY l c w g s w1 g1 s1)(hq:∀o,q2 s1 o->q s o)(hc:ah+D2<=cnt+D):mg nd c nb l w0 cnt0 g0 s0 Γ dom v D2 q2 P s1 ah g1 w1:=
 ⟨H.h,⟨H.n.n.next a1 t1,λo k=>H.n.p o<|hq o k⟩,λw' g' s' k a t=>H.lv w' g' s' k a<|fY.trans H.n.n.a.js a1.js a.js t1 t,qBw⟩
def mg.add(H:mg nd c nb l w0 cnt0 g0 s0 Γ dom v D q P s cnt g w)(h:∀w' g' s' k,AJ w' c nb l k g' s'->fY l c w g s w' g' s'->P' w' g' s'):mg nd c nb l w0 cnt0 g0 s0 Γ dom v D q (λw g s=>P w g s/\P' w g s) s cnt g w:=⟨H.h,H.n,λw g s k a t=>⟨H.lv w g s k a t,h w g s k a t⟩,H.cn⟩
def mg.rs(H:mg nd c nb l w0 cnt0 g0 s0 Γ dom v D q P s cnt g w)(r:nR l g s m T):mg nd c nb l w0 cnt0 g0 s0 Γ dom v D q (λw g s=>P w g s/\nR l g s m T) s cnt g w:=H.add λ_ _ _ _ _ t=>r.eZ H.n.n.a.js t
def mg.af(H:mg nd c nb l w0 cnt0 g0 s0 Γ dom v D q P s cnt g w)(k:Bq w w1):mg nd c nb l w0 cnt0 g0 s0 Γ dom v D q P s cnt g w1:=H.next (H.n.n.a.af k) {fY.refl H.n.n.a.js c l with fr:=qg k} (λ_ h=>h) (br _)
def mg.box{C}{t}(H:mg nd c nb l w0 cnt0 g0 s0 Γ dom v D q P s cnt g w):mg nd c nb l w0 cnt0 g0 s0 Γ dom v D q (λw' g s=>P w' g s/\Bx w' w.heap.size C) s cnt g (w.alloc<|.cells C t):=
 (H.af<|bw _).add λ_ _ _ _ _ u=>(Bx.new w C t).fr u.fr<|H.n.n.a.iU<|br _
def mg.no{m}{k:α->jf Ty}(H:mg nd c nb l w0 cnt0 g0 s0 Γ dom v D (jd m k) P s cnt g w)(b:uk c m g s w e w1):∃f a r,e=Pp f a r/\cU c nb l (1000*nn nd) (ja c.mks nd Γ) g0 s0 cnt0 w0 e w1:=by
 have B:=H.n.bad b;obtain⟨z,vl,vr,rfl,-⟩:=b;exact⟨_,_,_,rfl,jz B⟩
def mg.ex{k}(H:mg nd c nb l w0 cnt0 g0 s0 Γ dom v D (jd (ja c.mks x Γ) k) P s cnt g w)(Hx:jO x)(hx:PE w0 (λb=>b<c.lo) x vx)(sx:ScE c.mks c.nl dom x)(ok:∀T m s' aD g' w',mg nd c nb l w0 cnt0 g0 s0 Γ dom v D2 (k T) (λw g s=>P w g s/\nR l g s m T) s' aD g' w'->post (.returned<|nA m) w')(hD:D2+1000*nn x<=D)(hn:nn x<=nn nd)(bad:∀f a r w',cU c nb l (1000*nn nd) (ja c.mks nd Γ) g0 s0 cnt0 w0 (Pp f a r) w'->post (Pp f a r) w':=by exact λ_ _ _ _ h=>⟨rfl,h⟩):Cq 291 #[nA c.eb,vx] w post:=by
 refine(Hx c w nb l cnt g s Γ dom vx<|H.h.part H.n.n hx sx qBw hn).mono ?_;rintro e w1(⟨m,g1,s1,ah,T,rfl,p1,a1,t1,c1,r1⟩|hb)
 .exact ok T m s1 ah g1 w1 ((H.next a1 t1 (λo h=>jz ⟨T,s1,p1,h⟩) ae).rs r1)
 .obtain⟨f,a,r,rfl,B⟩:=H.no hb;exact bad _ _ _ _ B
def mg.eq{k}{b}{Y}(H:mg nd c nb l w0 cnt0 g0 s0 Γ dom v D (jd (jv X Y f t) k) P s cnt g w)(ra:nR l g s a X)(rb:nR l g s b Y)(ok:∀s' g' w',mg nd c nb l w0 cnt0 g0 s0 Γ dom v D (k ()) P s' cnt g' w'->post (.returned<|.tuple #[]) w')(bad:∀f a r w',cU c nb l (1000*nn nd) (ja c.mks nd Γ) g0 s0 cnt0 w0 (Pp f a r) w'->post (Pp f a r) w':=by exact λ_ _ _ _ h=>⟨rfl,h⟩):Cq 294 #[nA a,nA b,.agg #[Nv f,Nv t]] w post:=by
 refine(D9 H.n.n.a H.hl ra rb f t).mono ?_;rintro e w1(⟨rfl,g1,s1,p1,a1,t1⟩|hb)
 .exact ok s1 g1 w1 (H.next a1 t1 (λo h=>jz ⟨(),s1,p1,h⟩)<|br _)
 .obtain⟨f,a,r,rfl,B⟩:=H.no hb;exact bad _ _ _ _ B
def mg.ret{X}{m}(H:mg nd c nb l w0 cnt0 g0 s0 Γ dom v D (jj X) P s cnt g w)(r:nR l g s m X):cU c nb l (1000*nn nd) (ja c.mks nd Γ) g0 s0 cnt0 w0 (.returned<|nA m) w:=H.n.ret r qBw
def mg.nde{D3 ah}(H:mg nd c nb l w0 cnt0 g0 s0 Γ dom v D q P s cnt g w)(a1:AJ w1 c nb l ah g1 s)(t1:fY l c w g s w1 g1 s)(hc:ah<=cnt+D3)(r:nR l g1 s m X)(hD:D2+D3<=D):mg nd c nb l w0 cnt0 g0 s0 Γ dom v D2 q (λw g s=>P w g s/\nR l g s m X) s ah g1 w1:=(H.next a1 t1 (λ_ h=>h) ae).rs r
end
section
variable {cnt:Nat} {z:Nd} {vz:Value}
def aeN(Hx:jO x)(Hy:jO y)(h:nT (.mk 8 st n [x,y] f t a) c w nb l cnt g s Γ dom v)(hx:PE w (λb=>b<c.lo) x vx)(hy:PE w (λb=>b<c.lo) y vy):
 Cq 305 #[nA c.eb,.agg #[Nv f,Nv t,vx,vy]] w (cU c nb l (1000*nn (.mk 8 st n [x,y] f t a)) (ja c.mks (.mk 8 st n [x,y] f t a) Γ) g s cnt w):=by
 have en:nn (.mk 8 st n [x,y] f t a)=1+nn x+nn y:=Mu;obtain⟨sx,sy⟩:ScE c.mks c.nl dom x/\ScE c.mks c.nl dom y:=by
  cases h.sc with
  |two _ _ _ _ _ _ _ _ _ _ hx hy=>exact⟨hx,hy⟩|lt _ _ _ _ _ _ _ _ _ _ hc=>omega
 have fa:=h.fa;rw[en]at fa;have H:=mg.start h<|Ij ..
 replace en:=ai en
 clear h;have HX:=ai hx;have HY:=ai hy;obtain⟨tx,ax,rfl⟩:=hx.iface;obtain⟨ty,ay,rfl⟩:=hy.iface;clear hx hy;go_enter func305,ntmps305;go_wp2_with fail;refine H.box.ex (D2:=1000*(1+nn y)) Hx HX sx ?_ qS qS;intro T1 n1 s1 ah g1 w1 H;have⟨⟨_,b1,b2,b3⟩,_⟩:=H.p;go_wp2_with fail;refine H.ex (D2:=1000) Hy HY sy ?_ ae qS;intro T2 n2 s2 cJ g2 w2 H;have cn:=H.cn;go_wp2_with fail;refine(vI H.n.n.a (by rw[uh en]at cn;omega)).mono ?_;rintro e w3⟨n3,g3,rfl,p3,a3,t3,r3,-⟩;have H:=(H.next (D2:=999) a3 t3 (λo h=>Or.inr ⟨_,_,p3,h⟩) ae).rs r3;clear b1 b2 b3 a3 t3 r3;have⟨⟨⟨⟨_,b1,b2,b3⟩,_⟩,_⟩,_⟩:=H.p
 go_wp2
 go_region_with(first
  |(go_at_call 301;go_loud(refine(afN (H.n.n.a.af (jy _ _).drew) H.p.1.2 H.p.2).mono ?_);rintro e w4⟨n4,g4,rfl,a4,t4,r4⟩;have H4:=ai<|(H.af (jy _ _).drew).nde (D2:=999) (D3:=0) a4 t4 ae r4 ae;have⟨⟨⟨⟨⟨_,d1,d2,d3⟩,_⟩,_⟩,_⟩,_⟩:=H4.p;clear a4 t4 r4)
  |(go_at_call 294;go_loud(refine mg.eq (uh H4) H4.p.1.1.1.2 H4.p.2 ?_);intro s5 g5 w5 H5))
 all_goals
  go_wp2
  go_ret;exact H5.ret H5.p.1.2
def WQ(Hx:jO x)(Hy:jO y)(Hz:jO z)(h:nT (.mk 12 st n [x,y,z] f t a) c w nb l cnt g s Γ dom v)(hx:PE w (λb=>b<c.lo) x vx)(hy:PE w (λb=>b<c.lo) y vy)(hz:PE w (λb=>b<c.lo) z vz):
 Cq 302 #[nA c.eb,.agg #[Nv f,Nv t,vx,vy,vz]] w (cU c nb l (1000*nn (.mk 12 st n [x,y,z] f t a)) (ja c.mks (.mk 12 st n [x,y,z] f t a) Γ) g s cnt w):=by
 have en:nn (.mk 12 st n [x,y,z] f t a)=1+nn x+nn y+nn z:=Mu;obtain⟨sx,sy,sz⟩:ScE c.mks c.nl dom x/\ScE c.mks c.nl dom y/\ScE c.mks c.nl dom z:=by
  cases h.sc with
  |ite _ _ _ _ _ _ _ _ _ hx hy hz=>exact⟨hx,hy,hz⟩
 have fa:=h.fa;rw[en]at fa;have H:=mg.start h<|P8 ..
 replace en:=ai en
 clear h;have HX:=ai hx;have HY:=ai hy;have HZ:=ai hz;obtain⟨tx,ax,rfl⟩:=hx.iface;obtain⟨ty,ay,rfl⟩:=hy.iface;obtain⟨tz,az,rfl⟩:=hz.iface;have Mx:=hx.place;have plz:=hz.place;dsimp only[PlF]at Mx plz;clear hx hy hz;go_enter func302,ntmps302;go_wp2_with fail;have H:=H.box (C:=#[Nv f,Nv t,Fv tx<|Av ax,Fv ty<|Av ay,Fv tz<|Av az]) (t:=230);go_cut[]from 7 (λwc=>∃s1 ah g1,mg (.mk 12 st n [x,y,z] f t a) c nb l w cnt g s Γ dom v (1000*(nn y+nn z)+500) (In.andM (In.inf c.mks y Γ) λb=>In.andM (In.inf c.mks z Γ) λd=>In.andM (In.ur b d (In.iJ z)<|In.xD z) λ_=>In.cZ b) (λw' _ _=>Bx w' w.heap.size #[Nv f,Nv t,Fv tx<|Av ax,Fv ty<|Av ay,Fv tz<|Av az]) s1 ah g1 wc)
 case first=>
  have⟨_,c1,c2,c3⟩:=H.p
  go_region_with(first
   |(go_at_call 291;go_loud(refine(H.af (jy _ _).drew).ex (D2:=1000*(nn y+nn z)+1000) Hx HX sx ?_ qS qS);intro T1 n1 s1 ah g1 w1 H1;replace H1:=ai H1;have⟨⟨_,d1,d2,d3⟩,_⟩:=H1.p)
   |(go_at_call 48;refine(oC).mono ?_;rintro e w4⟨rfl,rfl⟩)
   |(go_at_call 283;go_loud(refine(WM H1.n.n.a lj (by have cn:=H1.cn;rw[uh en]at cn;omega)).mono ?_);rintro e w2⟨n2,g2,cJ,rfl,a2,t2,UE,r2⟩;have H2:=ai<|mg.nde (D2:=1000*(nn y+nn z)+500) (uh H1) a2 t2 UE r2 ae;have⟨⟨⟨_,e1,e2,e3⟩,_⟩,_⟩:=H2.p;clear a2 t2 r2)
   |(go_at_call 317;refine(de _ _).mono ?_;rintro e w5⟨rfl,k5⟩;have H5:=ai<|mg.af (uh H2) k5;clear k5)
   |(go_at_call 294;go_loud(refine mg.eq (uh H5) H5.p.1.2 H5.p.2 ?_);intro s6 g6 w6 H6))
  all_goals
   go_wp2_with fail
   go_meet
   case rel=>exact⟨_,_,_,H6.h,H6.n,λw' g' s' k a t=>(H6.lv w' g' s' k a t).1.1.2,H6.cn⟩
 case rest=>
  clear H;obtain⟨s1,ah,g1,H⟩:=hcut;have⟨b1,b2,b3⟩:=H.p;go_wp2_with fail;refine H.ex (D2:=1000*nn z+500) Hy HY sy ?_ ae qS;intro T2 n2 s2 cJ g2 w2 H;clear b1 b2 b3;have⟨⟨b1,b2,b3⟩,_⟩:=H.p;go_wp2_with fail;refine H.ex (D2:=500) Hz HZ sz ?_ ae qS;intro T3 n3 s3 rI g3 w3 H;clear b1 b2 b3;have⟨⟨⟨b1,b2,b3⟩,_⟩,_⟩:=H.p;go_wp2_with fail;refine(de _ _).mono ?_;rintro e w4⟨rfl,k4⟩;have H:=H.af k4;go_wp2_with fail;refine H.eq H.p.1.2 H.p.2 ?_;intro s5 g5 w5 H
  go_wp2
  go_ret;exact H.ret H.p.1.2
end
section
variable {cnt:Nat}
def acs(Hx:jO x)(h:nT (.mk 14 st n [x,y] f t a) c w nb l cnt g s Γ dom v)(hx:PE w (λb=>b<c.lo) x vx)(hy:PT w (λb=>b<c.lo) y vy):
 Cq 300 #[nA c.eb,.agg #[Nv f,Nv t,vx,vy]] w (cU c nb l (1000*nn (.mk 14 st n [x,y] f t a)) (ja c.mks (.mk 14 st n [x,y] f t a) Γ) g s cnt w):=by
 have en:nn (.mk 14 st n [x,y] f t a)=1+nn x+nn y:=Mu;obtain⟨sx,hv,hz⟩:ScE c.mks c.nl dom x/\vars [] (bt []<|es y).1=[]/\size (bt []<|es y).1<=1000:=by
  cases h.sc with
  |of _ _ _ _ _ _ _ _ hx hv hz _=>exact⟨hx,hv,hz⟩|two _ _ _ _ _ _ _ _ _ hk=>omega|lt _ _ _ _ _ _ _ _ _ _ hk=>omega
 have⟨n0,em⟩:=afo hy [] (λm o=>by have:=In.aC.2 o;rw[hv]at this;cases this) hz;have ei:=abX c.mks st n x y f t a Γ hv;rw[em]at hz hv ei;obtain⟨M,hM⟩:∃M,M=m0 y:=⟨_,rfl⟩;have Be:=afp y n0;rw[FC]at Be;rw[<-hM]at hv hz Be ei;dsimp only at hv hz ei;have hT:∀v,¬aw v M:=λv o=>by have:=In.aC.2 o;rw[hv]at this;cases this
 have fa:=h.fa;rw[en]at fa;have hny:=FY y;have H:=mg.start h ei;have HL:∀b,b<c.lo->¬jS c g b:=λb p=>h.aj.jlo p
 replace en:=ai en
 clear h ei hM em;have HX:=ai hx;have HY:=ai hy;obtain⟨tx,ax,rfl⟩:=hx.iface;obtain⟨ty,ay,rfl⟩:=hy.bQ;have Mx:=hx.place;dsimp only[PlF]at Mx;clear hx hy;go_enter func300,ntmps300;go_wp2_with fail;refine H.box.ex (D2:=2000) Hx HX sx ?_ qS qS;intro T1 n1 s1 ah g1 w1 H;have⟨⟨_,b1,b2,b3⟩,_⟩:=H.p;have fr1:=H.n.n.t.fr;have HO:=Be w1 _ _<|HY.move (Q:=λb=>b<c.lo) fr1.size (λb p q=>fr1.block b q<|HL b p)<|λ_ p _=>p;go_wp2_with fail;refine HO.mono ?_;rintro e w2⟨u2,rfl,wL,F2⟩;obtain⟨tu,xu,rfl⟩:=wL.iface;have zc:=H.n.n.a.je.ct.z;have H:=H.af<|F2.none λ_ q=>q;have cn:=H.cn;go_wp2_with fail;refine(aci H.n.n.a wL (λb p=>by have:w1.heap.size<=b:=p;omega) hz hT (by rw[uh en]at cn;omega)).mono ?_;rintro e w3⟨n3,g3,rI,rfl,a3,t3,c3,r3⟩;have H:=H.nde (D2:=500) a3 t3 c3 r3 ae;clear b1 b2 b3 a3 t3 r3;have⟨⟨⟨_,b1,b2,b3⟩,_⟩,_⟩:=H.p;go_wp2_with fail;refine(de _ _).mono ?_;rintro e w4⟨rfl,k4⟩;have H:=H.af k4;go_wp2_with fail;refine H.eq H.p.1.2 H.p.2 ?_;intro s5 g5 w5 H
 go_wp2
 go_ret;exact H.ret H.p.2
end
section
variable {cnt:Nat} {P:Nat->Prop}
abbrev G9(c:JC)(t:qf)(vs:List qf)ms fZ:={c with mks:=jl t vs ms c.mks,fZ:=fZ}
def WU(h:AJ w c nb l cnt g s)(hrm:c.rb≠c.mb){t}{vs}{ms}{f x}{vv vm}(hv:RowV QName 3 w P vs vv)(hm:RowV QMaker 6 w P ms vm)(hd:TdF t vs ms):
 Cq 279 #[nA c.eb,.agg #[Iv f,Iv x,Nv t.al,Nv t.to,.string t.text,vv,vm]] w (λe w'=>e=.returned (.tuple #[])/\Fr (λi=>i=c.mb) w w'/\AJ w' (G9 c t vs ms w'.heap.size) nb l cnt g s):=by
 obtain⟨w0,xF⟩:∃w0,w0=w.alloc (Cv #[Iv f,Iv x,Nv t.al,Nv t.to,Sv t.text,vv,vm] 78):=⟨_,rfl⟩;have k0:Bq w w0:=by rw[xF];exact bw _
 have B0:Bx w0 w.heap.size #[Iv f,Iv x,Nv t.al,Nv t.to,Sv t.text,vv,vm]:=by rw[xF];exact Bx.new w #[Iv f,Iv x,Nv t.al,Nv t.to,Sv t.text,vv,vm] 78
 have a0:=h.af k0;have zm:=a0.je.ms.lt;have zc:=a0.je.ct.z;have HMK:∀W:World,Bq w0 W->Cq 222 #[Av #[Iv f,Iv x,Nv t.al,Nv t.to,Sv t.text,vv,vm]] W (λe w'=>∃b,e=Rv (Mv b)/\Bq W w'/\W.heap.size<=b/\m5 w' (λi=>W.heap.size<=i) b (jl t vs ms λ_=>none)):=λW hb=>by
  have kW:=k0.trans<|hb.mono k0.size;exact L9 (hv.move dn kW.size (λb _ z=>kW.block b z)<|λ_ p _=>p) (hm.move bZ kW.size (λb _ z=>kW.block b z)<|λ_ p _=>p) hd
 have HCP:Hid (∀(W:World)(b:Nat),Bq w0 W->w0.heap.size<=b->m5 W (λi=>w0.heap.size<=i) b (jl t vs ms λ_=>none)->Cq 221 #[Mv c.mb,Mv b] W (λe w'=>e=Rv (.tuple #[])/\Fr (λi=>i=c.mb) w w'/\AJ w' (G9 c t vs ms w'.heap.size) nb l cnt g s)):=ai λW b hb hz hM=>by
  have aW:=a0.af hb;have⟨L,hMG,_⟩:=id aW.je.ms;have zb:=hM.lt;have zs:=hb.size;have h1:m5 W (λi=>i≠c.cb/\i≠c.mb/\i<W.heap.size) c.mb c.mks:=(aW.je.ms.uj<|hMG.bE 0).move (br _) rfl (λ_ _ _=>rfl) (λi p z=>⟨p.1.1,p.2,z⟩);have h2:m5 W (λi=>i≠c.cb/\i≠c.mb/\i<W.heap.size) b (jl t vs ms λ_=>none):=hM.move (br _) rfl (λ_ _ _=>rfl) (λi p z=>⟨qBv,qBv,z⟩);refine(TR h1 h2 (λq=>q.2.1 rfl) (λi p=>p.2.2) ae).mono ?_;rintro e w'⟨rfl,hM3,F3⟩;rw[<-Bp]at hM3;have⟨n1,n2,n3,n4,n5⟩:=aW.je.ne;have z3:=F3.size;refine⟨rfl,(qg<|k0.trans<|hb.mono k0.size).trans F3,⟨aW.je.bx.fr F3<|Ne.symm n5,aW.je.ct.fr F3<|Ne.symm n4,aW.je.rs.same<|F3.block _ aW.je.rs.lt hrm,hM3.move (br _) rfl (λ_ _ _=>rfl) (λi p _=>⟨p.1,by show i<w'.heap.size;omega⟩),⟨aW.je.z.1,aW.je.z.2.1,br _⟩⟩,⟨aW.js.gl.om F3.size λb p q=>F3.block b (jM q) λe=>(by rw[e,hMG.bE 0]at q;cases q),aW.js.nF,aW.js.inj,aW.js.can,aW.js.lc,aW.js.val,aW.js.use,aW.js.ok⟩,aW.us,aW.lv,aW.lo⟩
 have HL:Hid (∀W:World,Bq w0 W->W.cell? ⟨c.eb,2,none⟩=some (Mv c.mb)):=ai λW k=>(a0.af k).je.bx.c 2;obtain⟨b1,b2,b3⟩:=B0;have⟨e1,e2,e3⟩:=a0.je.bx;obtain⟨pa,pc,cs,rfl,-⟩:=hv;obtain⟨ma,mc,ds,rfl,-⟩:=hm;have HW:=ai xF;clear h k0 a0 xF;go_enter func279,ntmps279;go_wp2_with fail;rw[<-uh HW]
 go_region_with(first
  |(go_at_call 222;go_loud(refine(HMK _ (jy _ _).drew).mono ?_);rintro e w2⟨b,rfl,k2,z2,hM⟩;have k2':Bq w0 w2:=(jy _ _).drew.trans k2;have s0:=uh HL _ k2';have HC:=ai<|HCP w2 b k2' z2 hM;clear k2 k2' z2 hM)
  |(go_at_call 221;go_loud(refine HC.mono ?_);rintro e w3⟨rfl,hp⟩;have HP:=ai hp;clear hp))
 all_goals
  go_wp2
  go_end0;exact⟨rfl,HP⟩
def ais nl:Cq 25 #[] w λe w'=>∃(c:JC)(nb:Nat)(g:f_),e=.returned (nA c.eb)/\Bq w w'/\AJ w' c nb 0 0 g ⟨Ty.var,λ_=>False⟩/\ch w' nb (λ_=>none) g ⟨Ty.var,λ_=>False⟩/\c.mks=(λ_=>none)/\c.nl=nl/\c.lo=w.heap.size/\c.rb≠c.mb/\nb≠c.rb/\nb≠c.mb/\c.lo<=nb/\c.lo<=c.mb:=by
 have jA:= @run_makeMap Tryz.prog;go_enter func25,ntmps25;go_wp2_with fail;refine(Er).mono ?_;rintro e w1⟨rfl,yd⟩;have k1:Bq w w1:=by rw[yd];exact bw _
 have C1':Bx w1 w.heap.size #[Iv 0]:=by rw[yd];exact Bx.new w #[Iv 0] 3
 have z1:w1.heap.size=w.heap.size+1:=by rw[yd];simp
 have K1:=ai k1;clear yd k1;go_wp2_with fail;refine(CL).mono ?_;rintro e w2⟨rfl,R2,k2,z2⟩;have K2:=ai k2;clear k2
 go_wp2
 go_ret;obtain⟨w3,uy⟩:∃w3,w3=w2.alloc (.map #[] 0):=⟨_,rfl⟩;obtain⟨w4,hw4⟩:∃w4,w4=w3.alloc (.map #[] 0):=⟨_,rfl⟩;have k3:Bq w2 w3:=by rw[uy];exact bw _
 have k4:Bq w3 w4:=by rw[hw4];exact bw _
 have z3:w3.heap.size=w2.heap.size+1:=by rw[uy];simp
 have z4:w4.heap.size=w3.heap.size+1:=by rw[hw4];simp
 have k2:=uh K2;have k1:=uh K1;have m3:MG Sv w3 (w.heap.size+2) []:=by rw[uy,show w.heap.size+2=w2.heap.size by omega];exact MG.new _ w2
 have m4:MG Sv w4 (w.heap.size+3) []:=by rw[hw4,show w.heap.size+3=w3.heap.size by omega];exact MG.new _ w3
 rw[<-uy,<-hw4];obtain⟨w5,hw5⟩:∃w5,w5=w4.alloc (Cv #[.func (.func 46) #[] #[Pv w.heap.size],Mv<|w.heap.size+1,Mv<|w.heap.size+2,Mv<|w.heap.size+3,Iv 0] 118):=⟨_,rfl⟩;have k5:Bq w4 w5:=by rw[hw5];exact bw _
 have z5:w5.heap.size=w.heap.size+5:=by rw[hw5];simp;omega
 have b5:Bx w5 (w.heap.size+4) #[.func (.func 46) #[] #[Pv w.heap.size],Mv<|w.heap.size+1,Mv<|w.heap.size+2,Mv<|w.heap.size+3,Iv 0]:=by
  have:=Bx.new w4 #[.func (.func 46) #[] #[Pv w.heap.size],Mv<|w.heap.size+1,Mv<|w.heap.size+2,Mv<|w.heap.size+3,Iv 0] 118;rw[<-hw5,show w4.heap.size=w.heap.size+4 by omega]at this;exact this
 have M5:=k4.trans<|k5.mono k4.size;have k35:=k3.trans<|M5.mono k3.size;have k25:=k2.trans<|k35.mono k2.size;have kk:=k1.trans<|k25.mono k1.size;have js:JS w5 ⟨[],λ_=>none,λ_=>none,λ_=>0,λ_=>(none,0),λ_=>0,λ_=>.var 0⟩ ⟨Ty.var,λ_=>False⟩:=by
  refine⟨⟨λn h=>vQ,λn _=>⟨rfl,rfl⟩,λn h=>vQ⟩,.start _ _,λa b h=>vQ,λn x k=>?_,λa h=>vQ,λn h=>vQ,λn h=>vQ,In.sF _⟩;rfl
 have res:∃(c:JC)(nb:Nat)(g:f_),Rv (Pv<|w.heap.size+4)=Rv (nA c.eb)/\Bq w w5/\AJ w5 c nb 0 0 g ⟨Ty.var,λ_=>False⟩/\ch w5 nb (λ_=>none) g ⟨Ty.var,λ_=>False⟩/\c.mks=(λ_=>none)/\c.nl=nl/\c.lo=w.heap.size/\c.rb≠c.mb/\nb≠c.rb/\nb≠c.mb/\c.lo<=nb/\c.lo<=c.mb:=by
  refine⟨⟨w.heap.size+4,w.heap.size,w.heap.size+1,w.heap.size+2,w.heap.size,w.heap.size+5,λ_=>none,nl⟩,w.heap.size+3,_,rfl,kk,⟨⟨b5,C1'.below k25,?_,⟨[],m3.same<|M5.block _ ae,λ_ _=>rfl,λx v h=>qBg⟩,?_⟩,js,λn q=>q.elim,λn h=>vQ,λn h=>vQ⟩,⟨[],m4.same<|k5.block _ ae,λx=>j5 ⟨rfl,rfl⟩⟩,rfl,rfl,rfl,?_,?_,?_,?_,?_⟩
  .have:=R2.same (w':=w5)<|k35.block _ ae
   rwa[z1]at this
  all_goals(dsimp only;omega)
 rw[hw5]at res;exact res
end
def QBd:EQ (BA×Ty):=λ_ _ p c=>c 0=.string p.1/\c 1=.string (bs<|wr dec (vars [] p.2) p.2 0)
def oU:gy QBd:=λ_ _ _ _ _ _ h _ _ _=>h
def B_(w:World)(P:Nat->Prop)(B:List (BA×Ty))(va:Option Addr)(vc:Nat):Prop:=RowV QBd 2 w P B (.slice va B.length vc)/\B.length<=vc
theorem B_.move{w w':World}{P P':Nat->Prop}{B:List (BA×Ty)}{va:Option Addr}{vc:Nat}(h:B_ w P B va vc)(hs:w.heap.size<=w'.heap.size)(hb:∀b,P b->b<w.heap.size->w'.heap[b]? =w.heap[b]?)(hq:∀b,P b->b<w.heap.size->P' b):B_ w' P' B va vc:=⟨h.1.move oU hs hb hq,h.2⟩
def dq.cap{w:World}{b6:Nat}{B:List (BA×Ty)}{va:Option Addr}{vc:Nat}(h:dq QBd 38 2 w b6 va vc B):B.length<=vc:=by
 obtain⟨cs,⟨_,h⟩,_⟩:=h;obtain⟨_,h⟩|⟨g,cap,lZ,e,_,_,h,_⟩:=h
 .omega
 .simp only[Value.slice.injEq]at e;omega
def fF:Option jq->Fl
 |none=>oj|some z=>z.f
def fL:Option jq->BA
 |none=>bs []|some z=>ftL z
def fR:Option jq->BA
 |none=>bs []|some z=>ftR z
structure PI nl rs(Q:List (BA×Ty)->Option jq->Prop)r cnt(mks:jm)(s:ji)(Γ:jh)e B:Prop where
 pg:PG nl r e mks
 nm:∀x,x∈e.nm->Γ x≠none
 mf:In.MF mks
 ef:In.EF Γ
 kf:In.KF s
 qq:∀B' F,In.td rs r mks Γ s B' F->Q (B++B') F
 cn:cnt+1048*Jm r<=850000
section
variable {rs:Bool} {Q:List (BA×Ty)->Option jq->Prop} {r:List Dc} {cnt:Nat} {e:SE}
def PI.end(h:PI nl rs Q [] cnt mks s Γ e B):Q B none:=by
 have:=h.qq [] none ⟨rfl,rfl⟩
 rwa[j9]at this
def PI.ty{t}{vs}{ms}(h:PI nl rs Q (.ty t vs ms::r) cnt mks s Γ e B):TdF t vs ms/\PI nl rs Q r cnt (jl t vs ms mks) s Γ (NZ eM (.ty t vs ms) e) B:=by
 have⟨d1,d2,d3,d4,d5⟩:=h.pg.d3 _<|qe ..;have⟨g1,g2⟩:=h.pg.ty;have hc:=h.cn;rw[oV]at hc;exact⟨g1,g2,h.nm,MF.add d1 d2 h.mf d5,h.ef,h.kf,h.qq,ae⟩
def LtI nl rs(Q:List (BA×Ty)->Option jq->Prop)r cnt(mks:jm)(s:ji)(Γ:jh)e B rc(t:qf)b:=∀o,In.bX rc t.text b (ja mks b) Γ s o->match o with
 |.error z=>In.FtF z/\Q B (some z)|.ok (a,s1)=>(48<size (sub s1.k a)->Q B (some<|jx t.al t.to))/\∀T aD,size (sub s1.k a)<=48->T=(if In.sg b then sub s1.k a else In.dU (sub s1.k a))->aD<=cnt+1000*(1+nn b)+48->Wf T/\size T<=48/\PI nl rs Q r aD mks (In.nxt rs s1) (jo Γ t.text ⟨T,vars [] T⟩) (NZ eM (.lt rc t b) e) (B++[(t.text,T)])
def PI.lt{rc}{t}{b}(h:PI nl rs Q (.lt rc t b::r) cnt mks s Γ e B):t.text∈nl/\cnt+1000*(1+nn b)<=850000/\1+nn b<=805/\MkFine mks/\ScE mks nl (λv=>v∈e.nm\/(rc=true/\v=t.text)) b/\LtI nl rs Q r cnt mks s Γ e B rc t b:=by
 have⟨d1,d2,d3,d4⟩:=h.pg.d3 _<|qe ..;have⟨g1,g2,g3,g4⟩:=h.pg.lt;have hc:=h.cn;rw[oV]at hc;simp only[Hi]at hc;refine⟨g1,ae,ae,h.pg.Ee,g3,λo ho=>?_⟩;have g:=In.zX rc t.text b (In.Y_ h.mf b d3.nw) Γ s h.kf h.ef o ho
 cases o with
 |error z=>
  refine⟨g,?_⟩;have:=h.qq [] (some z) ⟨_,ho,rfl,rfl⟩
  rwa[j9]at this
 |ok p=>
  obtain⟨a,s1⟩:=p;obtain⟨k1,k2⟩:=g;refine⟨λhz=>?_,λT aD hz hT EW=>?_⟩
  .have:=h.qq [] (some<|jx t.al t.to) ⟨_,ho,j5 ⟨hz,rfl,rfl⟩⟩
   rwa[j9]at this
  .have hw:=In.nB k1 k2;have hTw:Wf T/\size T<=48:=by
    rw[hT];split
    .exact⟨hw,hz⟩
    .exact⟨Jp hw,by rw[lp];exact hz⟩
   refine⟨hTw.1,hTw.2,g4,λx hx=>?_,h.mf,h.ef.set _ hTw.1,λn=>?_,λB' F q=>?_,ae⟩
   .rw[jo];split
    .simp
    .rename_i cV;obtain q|q:=List.mem_append.1<|show x∈e.nm++[t.text]from hx
     .exact h.nm x q
     .grind
   .show Wf ((if rs then Ty.var else s1.k) n)
    cases rs
    .exact k2 n
    .exact In.kH n
   .rw[List.append_assoc];exact h.qq _ F ⟨_,ho,jz ⟨hz,T,B',hT,rfl,q⟩⟩
end
def PI.init{s}(hs:¬400<s.size){l}(h:bV s=.ok l)(hk:(dx eM l oP).f.kind=0)rs u{cnt}(hc:cnt<=1000):PI (l.flatMap dNm) rs (In.td rs l (λ_=>none) (λ_=>none) ⟨Ty.var,u⟩) l cnt (λ_=>none) ⟨Ty.var,u⟩ (λ_=>none) oP []:=by
 have⟨g,_⟩:=PG.init hs h hk;have:=g.sz;exact⟨g,λx hx=>by simp[oP]at hx,λx tk m q=> lq,λy c q=> lq,In.kH,λB' F q=>q,ae⟩
def oW va n vc:=#[Iv 0,Iv 0,Iv 0,.string ⟨#[]⟩,.string ⟨#[]⟩,.slice va n vc,.slice none 0 0]
structure rL w b4 b5 b6(B:List (BA×Ty))va vc:Prop where
 r4:Bx w b4 (oW none 0 0)
 r5:Bx w b5 (oW va B.length vc)
 row:dq QBd 38 2 w b6 va vc B
 fst:∀b,(j8 va B.length vc).ownBlock=some b->∃x,w.cell? ⟨b,0,none⟩=some (.string x)
def QR x:Oth (.string x):=⟨λ_ _ q=> lq,λ_ _ q=> lq,λ_ q=> lq⟩
def Y':Oth (Iv 0):=⟨λ_ _ q=> lq,λn h q=>(by injection q with _ q;omega),λ_ q=> lq⟩
section
variable {b4 b5 b6 lo base:Nat} {va:Option Addr} {vc:Nat}
def rL.same(h:rL w b4 b5 b6 B va vc)(hs:w.heap.size<=w'.heap.size)(h4:w'.heap[b4]? =w.heap[b4]?)(h5:w'.heap[b5]? =w.heap[b5]?)(h6:∀b,(j8 va B.length vc).ownBlock=some b->w'.heap[b]? =w.heap[b]?):rL w' b4 b5 b6 B va vc:=by
 refine⟨h.r4.same hs h4,h.r5.same hs h5,?_,λb q=>?_⟩
 .have⟨cs,ho,hr⟩:=h.row;exact⟨cs,th ho h6,hr⟩
 .have⟨x,hx⟩:=h.fst b q;exact⟨x,by rw[j7 (a:=⟨b,0,none⟩)<|h6 b q];exact hx⟩
def rL.af(h:rL w b4 b5 b6 B va vc)(k:Bq w w'):rL w' b4 b5 b6 B va vc:=
 h.same k.size (k.block _ h.r4.z) (k.block _ h.r5.z) λb q=>k.block b (h.row.block b q).2
def rL.kp(h:rL w b4 b5 b6 B va vc)(k:KpI lo base w w')(h4:base<=b4)(h5:base<=b5)(h6:base<=b6):rL w' b4 b5 b6 B va vc:=
 h.same k.size (k.box _ _ h.r4.z h4 (by rw[h.r4.c 0];rfl) Y'.p) (k.box _ _ h.r5.z h5 (by rw[h.r5.c 0];rfl) Y'.p) λb q=>by
  have⟨x,hx⟩:=h.fst b q;have:=h.row.block b q;exact k.box _ _ this.2 ae hx (QR x).p
def dq.fst(h:dq QBd 38 2 w b6 va vc B)(hB:B≠[]):∀b,(j8 va B.length vc).ownBlock=some b->∃x,w.cell? ⟨b,0,none⟩=some (.string x):=λb q=>by
 have⟨qG,qH,cs,e,aO,hq⟩:=h.v oU;injection e with e1 _ e2;subst e1 e2;have hl:=List.length_pos_iff.2 hB;obtain e|⟨g,rfl,h1,h2,h3⟩:=aO
 .exact absurd e hB
 .have hg:g=b:=by simpa[Value.ownBlock]using q
  subst hg;have:=h3 0 hl 0 aB;rw[(hq 0 hl).1]at this;exact⟨_,by simpa using this⟩
def rL.grow{S}{ty}{eb}{rs}(E:Za ty eb lo base rs nl S){cnt}{w5 w6}{n}{q3 c3}{cs}(h:rL w b4 b5 b6 B va vc)(hS:S w cnt mks s Γ)(h45:b4<b5/\b5<b6)(hb6:b6<=w.heap.size)(hb:base<=b4)(rl:lo<=base)(k:Bq w w5)(Mr:∀i(h:i<B.length),QBd w (λb=>b6<=b/\b<w.heap.size/\(j8 va B.length vc).ownBlock≠some b) B[i]<|cs i)(h6:w6.ownsRow b6 38 2 (.slice (some ⟨q3,0,none⟩) (B.length+1) c3) (B.length+1) (gU cs 2 B.length++[.string n,.string<|bs<|wr dec (vars [] T) T 0]))(hg:(w5.alloc<|.cells #[.string n,.string<|bs<|wr dec (vars [] T) T 0] 38).grownBy w6 (j8 va B.length vc).ownBlock)(UL:(j8 (some ⟨q3,0,none⟩) (B.length+1) c3).ownBlock=(j8 va B.length vc).ownBlock\/(j8 (some ⟨q3,0,none⟩) (B.length+1) c3).ownBlock=some (w5.alloc<|.cells #[.string n,.string<|bs<|wr dec (vars [] T) T 0] 38).heap.size):
 S (w6.setCell ⟨b5,5,none⟩<|.slice (some ⟨q3,0,none⟩) (B.length+1) c3) cnt mks s Γ/\rL (w6.setCell ⟨b5,5,none⟩<|.slice (some ⟨q3,0,none⟩) (B.length+1) c3) b4 b5 b6 (B++[(n,T)]) (some ⟨q3,0,none⟩) c3/\Below lo w (w6.setCell ⟨b5,5,none⟩<|.slice (some ⟨q3,0,none⟩) (B.length+1) c3):=by
 obtain⟨W,hW⟩:∃W,W=w5.alloc (Cv #[Sv n,Sv<|bs<|wr dec (vars [] T) T 0] 38):=⟨_,rfl⟩;rw[<-hW]at hg UL;have k5:Bq w5 W:=by rw[hW];exact bw _
 have kW:=k.trans<|k5.mono k.size;have RW:=h.af kW;have Jk:=h.row.block;have z5:=h.r5.z;have zW:=kW.size;have F6:Fr (λi=>(Lv va B.length vc).ownBlock=some i) W w6:=⟨hg.os,hg.tape,hg.output,hg.size,λb hb hn=>hg.block b hb<|λe=>hn e.symm⟩;have S6:S w6 cnt mks s Γ:=by
  cases ho:(Lv va B.length vc).ownBlock with
  |none=>exact E.af (E.af hS kW) (F6.none λb q=>by rw[ho]at q;cases q)|some b=>
   have⟨x,hx⟩:=RW.fst b ho;have:=Jk b ho;exact E.oth (E.af hS kW) ae hx (QR x) (F6.fZ λi q=>by rw[ho]at q;injection q with q;exact q.symm)
 have R4:=RW.r4.fr F6 (λq=>by have:=Jk _ q;omega);have R5:=RW.r5.fr F6 (λq=>by have:=Jk _ q;omega);have F7:Fr (λi=>i=b5) w6 (w6.setCell ⟨b5,5,none⟩<|Lv (some ⟨q3,0,none⟩) (B.length+1) c3):=(Fr.refl (λi=>i=b5) w6).set (j5 rfl) 5 _;have aO:dq QBd 38 2 w6 b6 (some ⟨q3,0,none⟩) c3 (B++[(n,T)]):=
  dq.push (w1:=w5) (W:=W) (lo:=w5.heap.size) (a:=(n,T)) (c:=λj=>if j=0 then Sv n else Sv (bs<|wr dec (vars [] T) T 0)) (cs:=cs) oU (λi hi=>Mr i hi) ⟨rfl,rfl⟩ (by have:=k.size;omega) (λb e=>by have:=Jk b e;have:=k.size;omega) k5 h6 hg UL
 have gL:1<=(B++[(n,T)]).length:=ag;have hlen:(B++[(n,T)]).length=B.length+1:=ag;have afb:=aO.om (w':=w6.setCell ⟨b5,5,none⟩<|Lv (some ⟨q3,0,none⟩) (B.length+1) c3) oU F7.size (λb q z=>F7.block b z (by show b≠b5;omega));refine⟨E.oth S6 ae (by rw[R5.c 0];rfl) Y' F7,⟨R4.fr F7 (by show ¬b4=b5;omega),?_,afb,afb.fst ag⟩,?_⟩
 .rw[hlen];exact R5.rK 5 _ _ (by simp[oW]) (by simp[oW])
 .have hz:=h.r4.z;refine⟨F7.os.trans<|F6.os.trans kW.os,F7.tape.trans<|F6.tape.trans kW.tape,F7.output.trans<|F6.output.trans kW.output,Nat.le_trans zW<|Nat.le_trans F6.size F7.size,λb hb=>?_⟩;have h6z:=F6.size;exact(F7.block b ae (by show ¬b=b5;omega)).trans ((F6.block b ae (λq=>by have:=Jk b q;omega)).trans<|kW.block b ae)
end
def agG.cases{S}{lo base}{rs}{nl}{Q}{r}{cnt}{mks}{s}{Γ}{se}{B}{rc}{t}{b}{w w'}{e}(h:agG S lo base rs cnt mks s Γ rc t.text t.al t.to b w e w')(hP:LtI nl rs Q r cnt mks s Γ se B rc t b):KpI lo base w w'/\((∃z vl vr,e=.returned (.tuple #[.nilIface,Ca z.f vl vr])/\ru w' (λ_=>True) z vl vr/\In.FtF z/\Q B (some z))\/
  ∃T ta xa aD s1,e=.returned (.tuple #[.iface ta xa,.agg My])/\dW w' (λ_=>True) T (.iface ta xa)/\Wf T/\size T<=48/\S w' aD mks s1 (jo Γ t.text ⟨T,vars [] T⟩)/\PI nl rs Q r aD mks s1 (jo Γ t.text ⟨T,vars [] T⟩) (NZ eM (.lt rc t b) se) (B++[(t.text,T)])):=by
 obtain⟨hk,o,ho,hq⟩:=h;have hp:=hP o ho;refine⟨hk,?_⟩
 cases o with
 |error z=>
  obtain⟨vl,vr,e1,e2⟩:=hq;exact j5 ⟨z,vl,vr,e1,e2,hp⟩
 |ok p=>
  obtain⟨a,s1⟩:=p;obtain⟨z,e1⟩|⟨z,T,ta,xa,aD,hT,e1,e2,e3,e4⟩:=hq
  .exact j5 ⟨jx t.al t.to,Zv,Zv,e1,⟨λ_=>⟨rfl,rfl⟩,λq=> lq,jz rfl⟩,In.yo _ _,hp.1 z⟩
  .grind
end Go.Proofs.YtnldmeakhapdhaaGreatDoor
