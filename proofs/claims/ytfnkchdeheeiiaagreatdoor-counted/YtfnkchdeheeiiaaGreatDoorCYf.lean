import Derived.Test.YtfnkchdeheeiiaaGreatDoorCFd
import Derived.Test.YtfnkchdeheeiiaaGreatDoorCXz
set_option linter.all false
set_option maxRecDepth 100000
set_option maxHeartbeats 8000000
namespace Go.Proofs.YtfnkchdeheeiiaaGreatDoor
open In renaming MM->ja,St->jc,eh->jd,andM->jf,inf->jh,cS->ji,Me->jj,Env->jk,gR->jl,DW->jm,over->jo,kS->jp,BW->jq,ij->jt,uQ->ju,p_->jv,cH->jx,via->jy,arr->jz,dN->j3,mono->j5,oN->j6
open Or renaming inr->j7,inl->j8
open Go.RowKit.Below renaming refl->j9
open Fr renaming of->qc
open _root_.Nat renaming le_trans->qd
open Un renaming dQ->qe
open Go Go.RowKit Go.ChangeMaps Go.MapKept Un Proofs.Tryz
variable {C xs:Array Value} {cn k st:BA} {dom:BA->Prop} {e:Ending} {g g0 g1:fB} {G Γ:jk} {q:ja Un.Ty} {d:In.Tw} {s s0 s1:jc} {c:JC} {L:List Nd} {D D' a b cnt0 ak f gb l m mb n nb t y:Nat} {Q S:Nat->Prop} {nd x:Nd} {α β:Type} {T X:Un.Ty} {u v vx vy:Value} {V W w w' w0 w1:World}
def qQ{α:Type}c(p:ja α)g(s:jc)w e w':=∃z vl vr,e=LL z.f vl vr/\p s (.error z)/\pD w' (λ_=>True) z vl vr/\Fr (jS c g) w w'
def cL c nb l D(p:ja Ty)g(s:jc)cnt w e w':=
 (∃n g' s' aB T,e=.returned (nA n)/\p s (.ok (T,s'))/\AJ w' c nb l aB g' s'/\fA l c w g s w' g' s'/\aB<=cnt+D/\lX l g' s' n T)\/qQ c p g s w e w'
structure mB nd c w nb l cnt g(s:jc)(Γ:jk)dom v:Prop where
 aj:AJ w c nb l cnt g s
 en:bV w nb Γ g s
 pe:PE w (λb=>b<c.lo) nd v
 sc:ScE c.mks c.nl dom nd
 hd:∀x,dom x->Γ x≠none
 fa:cnt+1000*nn nd<=850000
 fb:l+nn nd<=805
 mf:MkFine c.mks
def iG nd:=∀(c:JC)(w:World)(nb l cnt:Nat)(g:fB)(s:jc)(Γ:jk)(dom:BA->Prop)(v:Value),mB nd c w nb l cnt g s Γ dom v->
 Cq 381 #[nA c.eb,v] w (cL c nb l (1000*nn nd) (jh c.mks nd Γ) g s cnt w)
structure v7 c nb l w0 g0(s0:jc)w g(s:jc)cnt:Prop where
 a:AJ w c nb l cnt g s
 t:fA l c w0 g0 s0 w g s
 z:∃k,AJ w0 c nb l k g0 s0
def pD.wide{P}{x}{vl vr}(h:pD w P x vl vr)(q:∀b,P b->Q b):pD w Q x vl vr:=⟨h.qA,λk=>⟨(h.apart k).1.move (br _) (λ_ _ _=>rfl)<|λb p _=>q b p,(h.apart k).2.move (br _) (λ_ _ _=>rfl)<|λb p _=>q b p⟩,h.k⟩
section
variable {cnt:Nat}
def v7.refl(a:AJ w c nb l cnt g s):v7 c nb l w g s w g s cnt:=⟨a,.refl a.js c l,_,a⟩
def v7.next(n:v7 c nb l w0 g0 s0 w g s cnt)(a:AJ w1 c nb l ak g1 s1)(t:fA l c w g s w1 g1 s1):v7 c nb l w0 g0 s0 w1 g1 s1 ak:=by
 have⟨k,z⟩:=n.z;exact⟨a,n.t.trans z.js n.a.js a.js t,n.z⟩
def v7.fr(n:v7 c nb l w0 g0 s0 w g s cnt)(f:Fr (jS c g) w w1):Fr (jS c g0) w0 w1:=n.t.fr.trans' f λx q=>by
 obtain q|q|q:=q
 .omega
 .omega
 .exact(n.t.nw x q).imp (λz=>j7<|j7 z) id
def v7.af(n:v7 c nb l w0 g0 s0 w g s cnt)(k:Bq w w1):v7 c nb l w0 g0 s0 w1 g s cnt:=n.next (n.a.af k) {fA.refl n.a.js c l with fr:=qc k}
def v7.bad{p:ja α}{q:ja β}(n:v7 c nb l w0 g0 s0 w g s cnt)(b:qQ c p g s w e w')(hp:∀z,p s (.error z)->q s0 (.error z)):qQ c q g0 s0 w0 e w':=by
 obtain⟨z,vl,vr,h1,h2,h3,h4⟩:=b;exact⟨z,vl,vr,h1,hp z h2,h3,n.fr h4⟩
def v7.bx(n:v7 c nb l w0 g0 s0 w g s cnt)(h:Bx w0 b C)(hb:¬jS c g0 b):Bx w b C:=h.fr n.t.fr hb
def AJ.il(a:AJ w c nb l cnt g s)(hb:w.heap.size<=b):¬jS c g b:=by
 have h1:=a.je.ct.z;have h2:=a.je.bx.z;rintro(q|q|q)
 .omega
 .omega
 .have:=a.js.lt q;omega
def AJ.Uq(a:AJ w c nb l cnt g s)(hb:b<c.lo):¬jS c g b:=by
 have h1:=a.je.z;rintro(q|q|q)
 .omega
 .omega
 .have:=a.lo b q;omega
def v7.pe(n:v7 c nb l w0 g0 s0 w g s cnt)(h:PE w0 (λb=>b<c.lo) x u):PE w (λb=>b<c.lo) x u:=by
 have⟨k,z⟩:=n.z;exact h.move n.t.fr.size (λb p q=>n.t.fr.block b q<|z.Uq p)<|λ_ p _=>p
def mB.part(h:mB nd c w0 nb l cnt0 g0 s0 Γ dom v)(n:v7 c nb l w0 g0 s0 w g s cnt)(hp:PE w0 (λb=>b<c.lo) x u)(hs:ScE c.mks c.nl dom x)(hz:cnt+1000*nn x<=cnt0+1000*nn nd)(hx:nn x<=nn nd):mB x c w nb l cnt g s Γ dom u:=
 have:=h.fa;have:=h.fb
 ⟨n.a,h.en.kB Up h.aj n.a.js n.t,n.pe hp,hs,h.hd,ae,ae,h.mf⟩
def mB.up(h:mB nd c w nb l cnt g s Γ dom v)(k:Bq w w1):mB nd c w1 nb l cnt g s Γ dom v:=⟨h.aj.af k,h.en.af k,h.pe.af k,h.sc,h.hd,h.fa,h.fb,h.mf⟩
def cL.up{p:ja Ty}(h:cL c nb l D p g s cnt w1 e w')(k:Bq w w1):cL c nb l D p g s cnt w e w':=by
 obtain⟨n,g',s',aB,T,h1,h2,h3,h4,h5,h6⟩|⟨z,vl,vr,h1,h2,h3,h4⟩:=h
 .exact j8 ⟨n,g',s',aB,T,h1,h2,h3,{h4 with nw:=λm hm=>(h4.nw m hm).imp id<|qd k.size,fr:=(qc k).trans h4.fr},h5,h6⟩
 .exact j7 ⟨z,vl,vr,h1,h2,h3,(qc k).trans h4⟩
def cL.ok{p:ja Ty}(n:v7 c nb l w0 g0 s0 w g s cnt)(hp:p s0 (.ok (T,s)))(r:lX l g s m T)(hc:cnt<=cnt0+D):cL c nb l D p g0 s0 cnt0 w0 (.returned<|nA m) w:=j8 ⟨m,g,s,cnt,T,rfl,hp,n.a,n.t,hc,r⟩
def ajq c nb l(p:ja Unit)g(s:jc)cnt w e w':=
 (e=.returned (.tuple #[])/\∃g' s',p s (.ok ((),s'))/\AJ w' c nb l cnt g' s'/\fA l c w g s w' g' s')\/qQ c p g s w e w'
def Bv(aj:AJ w c nb l cnt g s)(hl:l<aL){x y:Ty}(ra:lX l g s a x)(rb:lX l g s b y)f t:
 Cq 384 #[nA a,nA b,.agg #[Nv f,Nv t]] w (ajq c nb l (jv x y f t) g s cnt w):=by
 refine(Yg aj.js ra.mem rb.mem ra.val rb.val f t).mono ?_;rintro e w'⟨F,⟨rfl,ba,cq,V',s',js,st,hp,hu,mo,ln⟩|⟨z,vl,vr,rfl,hp,hF⟩⟩
 .have F':Fr (jS c g) w w':=F.fD λb q=>j7<|j7 q;have ln:=ln (λx=>g.lv x<=l) (λx hx hn q k ps hs p hp h hh=>qd (aj.js.lc x hx hn k ps hs p hp h hh) q) ra.lv rb.lv;have any:∀m,m∈g.ds->∀h h',Hd g.nx m h->Hd ba m h'->g.lv h=aL->h'=h/\cq h=aL:=λm hm h h' k k' e=>by
   have⟨q1,q2⟩:=(ln m hm h h' k k').1 (by rw[e];unfold aL at*;omega);exact⟨q1,q2.trans e⟩
  refine j8 ⟨rfl,_,s',hp,⟨aj.je.fr aj.js F' (aj.je.bx.fr F<|aj.je.wL aj.js)<|aj.je.ct.fr F<|aj.je.wM aj.js,js,by rw[hu];exact aj.us,λn hn e=>?_,aj.lo⟩,⟨st l,λm hm h k e=>?_,λm hm h h' k k' i hi z=>qd (mo m hm h h' k k') z,λm hm=>j8 hm,F',λv=>?_,λn q=>by rw[hu];exact q⟩⟩
  .have⟨h,k⟩:=aj.js.gl.hd n hn;have k':Hd ba n n:=.here e;obtain q|q:=aj.hd hn k
   .grind
   .grind
  .have⟨h',k'⟩:=js.gl.hd m hm;have⟨q1,q2⟩:=any m hm h h' k k' e;exact⟨q1▸k',q2⟩
  .obtain⟨_,q⟩|⟨_,_,⟨θ,_,q⟩|⟨_,q⟩⟩:=hp
   .cases q
   .cases q
    show sub θ (s.k v)=sub (λv=>sub θ<|s.k v) (s.k v);exact sub_congr _ λn o=>by rw[aj.js.ok.idem v n o];rfl
   .cases q
 .exact j7 ⟨z,vl,vr,rfl,hp,hF.wide λ_ _=>trivial,F.fD λb q=>j7<|j7 q⟩
def ahT c nb l g(s:jc)cnt w(e:Ending)w':=∃n g',e=.returned (nA n)/\jp s (.ok (cnt+1,⟨s.k,λm=>s.u m\/m=cnt+1⟩))/\AJ w' c nb l (cnt+1) g' ⟨s.k,λm=>s.u m\/m=cnt+1⟩/\fA l c w g s w' g' ⟨s.k,λm=>s.u m\/m=cnt+1⟩/\lX l g' ⟨s.k,λm=>s.u m\/m=cnt+1⟩ n (.var<|cnt+1)/\g'.str n=none/\g'.vr n=cnt+1/\g'.nx n=none
def tK(aj:AJ w c nb l cnt g s)(hc:cnt<=1000000):Cq 382 #[nA c.eb] w (ahT c nb l g s cnt w):=by
 refine(od aj.je aj.js aj.us hc).mono ?_;rintro e w'⟨n,rfl,hn,je,js,F⟩;have nd:¬n∈g.ds:=λq=>by have:=aj.js.lt q;omega
 have o:OR l w.heap.size g s cnt (λ_=>none) _ _ _ _:=OR.var (v:=0) aj.js hn nd aj.us rfl (λy n' q=>mD);have nx:=(aj.js.gl.out n nd).1;have hu:¬s.u (cnt+1):=λq=>by have:=aj.us _ q;rw[us]at this;omega
 refine⟨n,_,rfl,⟨cnt+1,hu,rfl⟩,o.aj aj (br _) je js,o.stj aj.js (br _)<|F.fD λb q=>j8 q,⟨ag,?_,λx k=>?_⟩,Nz,Nz,nx⟩
 .show qe g.V n (.var<|cnt+1) n=s.k (cnt+1);simp[qe,aj.js.ok.out _ hu]
 .rw[k.one<|.here nx];simp[qe]
def afJ(aj:AJ w c nb l cnt g s)(hn:w.heap.size<=n){q}{ar}(je:JE w' c nb l cnt)(js:JS w' (g.add n (some q) 0 ar l T) s)(k:Bq w w'):AJ w' c nb l cnt (g.add n (some q) 0 ar l T) s/\fA l c w g s w' (g.add n (some q) 0 ar l T) s/\n∈(g.add n (some q) 0 ar l T).ds/\(g.add n (some q) 0 ar l T).V n=T/\∀x,Hd (g.add n (some q) 0 ar l T).nx n x->(g.add n (some q) 0 ar l T).lv x<=l:=by
 have nd:¬n∈g.ds:=λq=>by have:=aj.js.lt q;omega
 have nx:=(aj.js.gl.out n nd).1;refine⟨⟨je,js,aj.us,λm hm e=>?_,λm hm=>?_⟩,⟨.add aj.js nd rfl (λe=>by cases e),λm hm h hk e=>⟨hk,?_⟩,λm hm h h' hk gG i _ z=>?_,λm hm=>?_,qc k,λv=>(aj.js.ok.uB<|.var v).symm,λ_ q=>q⟩,ag,Nz,λx hx=>?_⟩
 .by_cases z:m=n
  .exact j8 (by simp[qe,z])
  .simp only[qe,z,if_false];exact aj.lv m ((List.mem_cons.1 hm).resolve_left z) e
 .obtain z|z:=List.mem_cons.1 hm
  .have:=aj.je.z;have:=aj.je.bx.z;omega
  .exact aj.lo m z
 .have z:h≠n:=λz=>nd<|z▸aj.js.gl.bH hm hk;simpa[qe,z]using e
 .have gG:=gG;rw[gG.one hk];have y:h≠n:=λz=>nd<|z▸aj.js.gl.bH hm hk;simpa[qe,y]using z
 .grind
 .have hx:=hx;rw[hx.one<|.here nx];simp[qe]
def ac0 k c nb l g(s:jc)cnt x y w(e:Ending)w':=∃n g',e=.returned (nA n)/\AJ w' c nb l cnt g' s/\fA l c w g s w' g' s/\lX l g' s n (.aH k [x,y])
def Qi{p:Prop}(h:p:=by
 rintro e w'⟨n,ar,rfl,hn,je,js,k⟩;obtain⟨h1,h2,h3,h4,h5⟩:=afJ aj hn je js k
 exact⟨n,_,rfl,h1,h2,h3,by rw[h4,ra.val,rb.val];rfl,h5⟩):p:=h
def ac1(aj:AJ w c nb l cnt g s){x y:Ty}(ra:lX l g s a x)(rb:lX l g s b y):Cq 389 #[nA c.eb,nA a,nA b] w (ac0 ot c nb l g s cnt x y w):=by
 refine(IQ (j8 ⟨rfl,rfl⟩) aj.je aj.js ⟨ra.mem,ra.lv⟩ ⟨rb.mem,rb.lv⟩).mono ?_;exact Qi
def ac2(aj:AJ w c nb l cnt g s){x y:Ty}(ra:lX l g s a x)(rb:lX l g s b y):Cq 387 #[nA c.eb,nA a,nA b] w (ac0 lT c nb l g s cnt x y w):=by
 refine(IQ (j7 ⟨rfl,rfl⟩) aj.je aj.js ⟨ra.mem,ra.lv⟩ ⟨rb.mem,rb.lv⟩).mono ?_;exact Qi
def ahU c nb l D T g(s:jc)cnt w(e:Ending)w':=∃n g' aB,e=.returned (nA n)/\AJ w' c nb l aB g' s/\fA l c w g s w' g' s/\aB<=cnt+D/\lX l g' s n T
def YS(aj:AJ w c nb l cnt g s){v}(hv:dE w Q T v)(hQ:∀b,Q b->b≠c.cb)(hs:size T<=1000)(hT:∀n,¬aD n T)(hc:cnt+size T<=900000):Cq 379 #[nA c.eb,v] w (ahU c nb l (size T) T g s cnt w):=by
 refine(abE aj.je aj.js aj.us hv hQ hs hT hc).mono ?_;rintro e w'⟨n,g',aB,rfl,je,js,o,hn,hV,hl,o8,F⟩;exact⟨n,g',aB,rfl,o.aj aj (br _) je js,o.stj aj.js (br _)<|F.fD λb q=>j8 q,o8,hn,by rw[hV];exact(j6 λn o=>absurd o<|hT n).symm,hl⟩
end
section
variable {cnt:Nat} {uR:jk}
def GL.mR{ds}{str}{nx}{vr}{ly}{lv}(h:GL w ds str nx vr ly lv)(hs:w.heap.size<=w'.heap.size)(hb:∀b p,w.cell? ⟨b,0,none⟩=some (.pointer p)->w'.heap[b]? =w.heap[b]?):GL w' ds str nx vr ly lv:=by
 refine⟨λn hn=>?_,h.out,h.hd⟩;have⟨p1,p2,p3⟩:=h.nd n hn;have⟨p,hp⟩:=h.py hn;refine⟨(hb n p hp).trans p1,?_,p3⟩
 cases e:str n with
 |none=>trivial|some q=>
  obtain⟨k,ps⟩:=q;rw[e]at p2;obtain⟨q1,q2,q3,q4⟩:=p2;refine⟨q1,q2,q3,?_⟩;by_cases e0:ps=[]
  .exact j8 e0
  .have⟨gg,r1,r2,r3,r4⟩:=q4.resolve_left e0;have hl:=List.length_pos_iff.2 e0;have:=hb gg _<|r4 0 hl;exact j7 ⟨gg,r1,r2,ae,λi hi=>by rw[<-r4 i hi];simp only[World.cell?,this]⟩
def AJ.mR{S}(a:AJ w c nb l cnt g s)(f:Fr S w w')(h:∀b,S b->b≠c.rb/\b≠c.mb/\∀o,w.cell? ⟨b,o,none⟩=none):AJ w' c nb l cnt g s:=by
 have nc:∀{b o v},w.cell? ⟨b,o,none⟩=some v->w'.heap[b]? =w.heap[b]? :=λ{b o v}q=>f.block b (iQ q) λz=>by rw[(h b z).2.2 o]at q;cases q
 obtain⟨⟨bx,ct,rs,ms,z⟩,js,q1,q2,q3⟩:=a;have e1:=nc<|bx.c 0;have e2:=nc<|ct.c 0;exact⟨⟨bx.same f.size e1,ct.same f.size e2,rs.same<|f.block _ rs.lt λz=>(h _ z).1 rfl,(ms.Sq (S:=S) λb q a y e=>by rw[(h b q).2.2 0]at e;cases e).move f.size (f.block _ ms.lt λz=>(h _ z).2.1 rfl) (λb p y=>f.block b y p.2)<|λ_ p _=>p.1,⟨z.1,z.2.1,qd z.2.2 f.size⟩⟩,⟨js.gl.mR f.size λb p q=>nc q,js.mh,js.inj,js.can,js.lc,js.val,js.use,js.ok⟩,q1,q2,q3⟩
theorem bV.over{nb1}{L L2 L'}(q:∀x,(Γ x=none/\aY x L=none)\/∃d m,Γ x=some d/\aY x L=some (nA m)/\yZ g s d m)(q2:∀x,(uR x=none/\aY x L2=none)\/∃d m,uR x=some d/\aY x L2=some (nA m)/\yZ g s d m)(h:MG Value.string w nb1 L')(e:∀x,aY x L'=match aY x L2 with|some v=>some v|none=>aY x L):bV w nb1 (jo uR Γ) g s:=by
 refine⟨L',h,λx=>?_⟩;rw[e x];rw[jo];obtain⟨h1,h2⟩|⟨d,m,h1,h2,h3⟩:=q2 x
 .grind
 .grind
def oR(Hx:iG x)(aj:AJ w c nb l cnt g s)(en:bV w nb Γ g s)(em:bV w mb uR g s)(hx:PE w (λb=>b<c.lo) x v)(sc:ScE c.mks c.nl dom x)(hd:∀y,dom y->jo uR Γ y≠none)(fa:cnt+1000*nn x<=850000)(fb:l+nn x<=805)(mf:MkFine c.mks):
 Cq 383 #[nA c.eb,Mv mb,v] w (cL c nb l (1000*nn x) (jh c.mks x<|jo uR Γ) g s cnt w):=by
 have f3:=aj.je.bx.c 3;have ze:=aj.je.bx.z;have fD:=aj.je.z.2.2;have zr:=aj.je.rs.lt;have zm:=aj.je.ms.lt;have n2:=em.ab5 aj.je;have z2:=em.lt;obtain⟨L,m1,q1⟩:=en;obtain⟨L2,M2,q2⟩:=em;have HC:=WA m1;have HK:∀w1 w3 L',Bq w w1->w1.heap.size=w.heap.size+1->MG Sv w1 w.heap.size L->MG Sv w3 w.heap.size L'->(∀x,aY x L'=match aY x L2 with|some v=>some v|none=>aY x L)->Fr (λi=>i=w.heap.size) (w1.setCell ⟨c.eb,3,none⟩<|Mv w.heap.size) w3->v7 c w.heap.size l w3 g s w3 g s cnt/\fA l c w g s w3 g s/\Cq 381 #[nA c.eb,v] w3 (cL c w.heap.size l (1000*nn x) (jh c.mks x<|jo uR Γ) g s cnt w3):=λw1 w3 L' k1 z1 mc m3 e3 f=>by
  have o:=fH w1 c.eb 3<|Mv w.heap.size;have aj3:=((aj.af k1).given w.heap.size).mR f λb e=>by
   have mc':=mc.one o ae;exact⟨ae,ae,λi=>by rw[e];exact mc'.bB i⟩
  have F:Fr (jS c g) w w3:=((qc k1).trans<|o.fr<|j7<|j8 rfl).gH f λi e=>j7 ae;exact⟨.refl aj3,{fA.refl aj.js c l with fr:=F},Hx c w3 w.heap.size l cnt g s _ dom v ⟨aj3,.over q1 q2 m3 e3,hx.move F.size (λb p q=>F.block b q<|aj.Uq p)<|λ_ p _=>p,sc,hd,fa,fb,mf⟩⟩
 obtain⟨tx,ax,rfl⟩:=hx.iface;go_enter func383,ntmps383;go_wp2_with fail;refine HC.mono ?_;rintro e w1⟨rfl,MC,K1,Z1⟩;have HD:=abI (w:=w1.setCell ⟨c.eb,3,none⟩<|Mv w.heap.size) (MC.one (fH _ _ _ _) ae) ((M2.af K1).one (fH _ _ _ _) n2) ae;have c1:=(aj.je.bx.below K1).c;have c2:=(aj.je.bx.below K1).f;go_wp2_with fail;refine HD.mono ?_;rintro e w3⟨rfl,⟨L',m3,e3⟩,F3⟩;have⟨NX,st,HE⟩:=HK w1 w3 L' K1 Z1 MC m3 e3 F3;have ST:=ai st;go_wp2_with fail;refine HE.mono ?_;rintro e w4(⟨n,g4,s4,agy,T,rfl,HP,a4,t4,hc,R4⟩|⟨z,vl,vr,rfl,HP,hF,u_⟩)
 .have d1:=a4.je.bx.c;have d2:=a4.je.bx.f;have A5:=a4.given nb;have S5:=ST.trans aj.js NX.a.js a4.js t4
  go_wp2
  go_ret;have st:=S5;exact j8 ⟨n,g4,s4,agy,T,rfl,HP,A5,{st with fr:=st.fr.set (j8<|j7<|j8 rfl) 3 _},hc,R4⟩
 .have HX:=show qQ c (jh c.mks x<|jo uR Γ) g s w (LL z.f vl vr) w4 from⟨z,vl,vr,rfl,HP,hF,ST.fr.trans u_⟩
  go_wp2
  exact⟨rfl,j7 HX⟩
end
structure lO{β:Type}c nb l w0 g0(s0:jc)(p:ja β)w g(s:jc)cnt(q:ja β):Prop where
 n:v7 c nb l w0 g0 s0 w g s cnt
 p:∀o,q s o->p s0 o
section
variable {cnt:Nat} {p:ja Ty} {p' q':ja β} {m:ja α} {k:α->ja β} {a:α}
def lO.start(a:AJ w c nb l cnt g s)(p':ja β):lO c nb l w g s p' w g s cnt p':=⟨.refl a,λ_ h=>h⟩
def lO.and(n:lO c nb l w0 g0 s0 p' w g s cnt (jf m k))(hm:m s (.ok (a,s1)))(a1:AJ w1 c nb l ak g1 s1)(t1:fA l c w g s w1 g1 s1):lO c nb l w0 g0 s0 p' w1 g1 s1 ak (k a):=⟨n.n.next a1 t1,λo ho=>n.p o<|j7 ⟨a,s1,hm,ho⟩⟩
def lO.bad(n:lO c nb l w0 g0 s0 p' w g s cnt (jf m k))(b:qQ c m g s w e w'):qQ c p' g0 s0 w0 e w':=n.n.bad b λz h=>n.p _<|j8 ⟨z,h,rfl⟩
def lO.ret{x}(n:lO c nb l w0 g0 s0 p w g s cnt (ji T))(r:lX l g s x T)(hc:cnt<=cnt0+D):cL c nb l D p g0 s0 cnt0 w0 (.returned<|nA x) w:=.ok n.n (n.p _ rfl) r hc
def lO.af(n:lO c nb l w0 g0 s0 p' w g s cnt q')(k:Bq w w1):lO c nb l w0 g0 s0 p' w1 g s cnt q':=⟨n.n.af k,n.p⟩
def lO.step(n:lO c nb l w0 g0 s0 p' w g s cnt q')(a1:AJ w1 c nb l ak g1 s)(t1:fA l c w g s w1 g1 s):lO c nb l w0 g0 s0 p' w1 g1 s ak q':=⟨n.n.next a1 t1,n.p⟩
def lO.last(n:lO c nb l w0 g0 s0 p w g s cnt q)(h:cL c nb l D' q g s cnt w e w')(hc:cnt+D'<=cnt0+D):cL c nb l D p g0 s0 cnt0 w0 e w':=by
 obtain⟨x,g',s',aB,T,h1,h2,h3,h4,h5,h6⟩|h:=h
 .obtain rfl:=h1;exact .ok (n.n.next h3 h4) (n.p _ h2) h6 ae
 .exact j7 (n.n.bad h λz h=>n.p _ h)
def ac3(d:In.Tw)c nb l g(s:jc)cnt w(e:Ending)w':=∃n g' s' aB ρ,e=.returned (nA n)/\In.wI d.any jj s (.ok (ρ,s'))/\AJ w' c nb l aB g' s'/\fA l c w g s w' g' s'/\aB<=cnt+48/\lX l g' s' n (sub (jy ρ)<|sub s.k d.of)
def abR(aj:AJ w c nb l cnt g s)(hl:l<aL){m}(nm:yZ g s d m)(hz:size (g.V m)<=48)(hc:cnt+48<=900000):Cq 397 #[nA m,Nv l,vrV c] w (ac3 d c nb l g s cnt w):=by
 have iE:= @run_makeMap Tryz.prog;have k0:Bq w (w.alloc<|.map #[] 0):=bw _;have a0:=aj.af k0;have z:=aj.je.z.2.2;have hf:Su c w.heap.size:=⟨z,aj.je.bx.z,aj.je.ct.z,aj.je.rs.lt,aj.je.ms.lt⟩;have cp:tH (λ_=>False) l w.heap.size (w.alloc<|.map #[] 0) g s jj []:=⟨MS.new _ w,λp q=>by simp at q,λh v q=>by simp[aY]at q,λv n q=>mD⟩;have fa:Fa g l m:=⟨λx=>x∈g.ds/\g.nx x=none,λx hx _ _ k ps hs p hp h hh=>⟨aj.js.gl.bH (aj.js.jg.Tp x k ps hx hs p hp) hh,hh.head⟩,λx q=>aj.lv x q.1 q.2,λh hh=>⟨aj.js.gl.bH nm.mem hh,hh.head⟩⟩;have HI:=acX (nb:=nb) hf hl 48 _ g s cnt jj [] m a0.je a0.js aj.us cp nm.mem fa hz ae;have HK:Hid (∀e w',LV (λ_=>False) c nb l w.heap.size g s cnt jj m (w.alloc<|.map #[] 0) e w'->(∃n,e=Rv (nA n))/\ac3 d c nb l g s cnt w e w'):=ai λe w' hp=>by
  obtain⟨n,g',s',aB,eu,M',rfl,je,js,cp',o,hn,hV,wj,h1,h2,h3,F⟩:=hp;have F':Fr (jS c g) w w':=(qc k0).gH F λb q=>by
   obtain q|q|q:=q
   .exact j8 (j8 q)
   .exact j8 (j7<|j7 q)
   .exact j7 ae
  have o':=o.Ss k0.size;have afv:∀v,eu v≠none->aD v (g.V m)/\dL g v:=λv q=>by
   have ov:=h2 v rfl q
   cases e:eu v with
   |none=>exact absurd e q|some x=>exact⟨ov,dL.back aj.js js o' nm.mem ov<|cp'.any e⟩
  refine⟨⟨n,rfl⟩,n,g',s',aB,eu,rfl,⟨eu,s'.u,⟨λv n q=> mD,λv hv=>?_,λv hv=>h1 v ((nm.any v).1 hv).1 ((nm.any v).1 hv).2,λv n _ q=>o.nw v n rfl q,λv v' n _ q q'=>o.on v v' n rfl q q',o.Yu⟩,by rw[<-o.kk]⟩,o'.aj aj (br _) je js,o'.stj aj.js (br _) F',ae,hn,?_,wj⟩
  .cases e:eu v with
   |none=>rfl|some x=>exact absurd ((nm.any v).2<|afv v (by rw[e];simp)) hv
  .rw[<-nm.val,<-hV];exact(j6 λv ov=>by have⟨x,r⟩:=js.An hn ov;exact(js.root r).2).symm
 go_enter func397,ntmps397;go_wp2_with fail;refine HI.mono ?_;intro e w1 hp;obtain⟨⟨n,rfl⟩,Q⟩:=uh HK e w1 hp
 go_wp2
 go_ret;exact Q
def ac4(aj:AJ w c nb l cnt g s)(hn:n∈g.ds)f t:Cq 378 #[nA n,.agg #[Nv f,Nv t]] w (λe w'=>(∃ba,AJ w' c nb l cnt {g with nx:=ba} s/\fA l c w g s w' {g with nx:=ba} s)/\((size (g.V n)<=48/\e=.returned (.tuple #[]))\/(48<size (g.V n)/\e=LL ⟨7,f,t⟩ .nilIface .nilIface))):=by
 refine(p8 aj.js hn f t).mono ?_;rintro e w'⟨⟨ba,E,js⟩,F,h⟩;have o:OR l w.heap.size g s cnt jj {g with nx:=ba} s cnt jj:=OR.eqv aj.js E js.gl _;have F':Fr (jS c g) w w':=F.fD λb q=>j7<|j7 q;exact⟨⟨ba,o.aj aj (br _) (aj.je.fr aj.js F' (aj.je.bx.fr F<|aj.je.wL aj.js)<|aj.je.ct.fr F<|aj.je.wM aj.js) js,o.stj aj.js (br _) F'⟩,h⟩
def afK(aj:AJ w c nb l cnt g s)(hl:l<aL)(en:bV w nb Γ g s){x}(hx:Γ x≠none)f t(hc:cnt+48<=900000):Cq 385 #[nA c.eb,.agg #[Nv f,Nv t,.string x]] w (cL c nb l 48 (jq Γ x f t) g s cnt w):=by
 obtain⟨L,hM,hq⟩:=en;have⟨d,m,e1,e2,NM⟩:=(hq x).resolve_left λq=>hx q.1;have⟨k0,b0⟩:=mM w #[Nv f,Nv t,Sv x] 356;have HL:∀n,(Instr.lookup 220 (Mv nb) (Sv x) false).run Tryz.prog ((w.alloc<|Cv #[Nv f,Nv t,Sv x] 356).drewN n)=.ok (nA m) ((w.alloc<|Cv #[Nv f,Nv t,Sv x] 356).drewN n):=λn=>by
  have:=(hM.af<|k0.drewN n).ms.look Mf cG (yu _) x trivial (λ_ _=>trivial) false;rw[e2]at this;exact this
 have f3:=(aj.af k0).je.bx.c 3;obtain⟨c1,c2,c3⟩:=b0;have K0:=ai k0;go_enter func385,ntmps385
 go_wp2
 go_quiet(fail);have KQ:=K0.drewN nq;have aQ:=aj.af KQ;have HM:=ac4 aQ NM.mem f t;have N0:=v7.refl aQ;go_wp2_with fail;refine HM.mono ?_;rintro e w2⟨⟨pw,a2,t2⟩,⟨hz,rfl⟩|⟨hz,rfl⟩⟩
 .have N2:=N0.next a2 t2;have nm2:=NM.kB hl N0.a a2.js t2;have HI:=abR a2 hl nm2 hz hc;have HV:=ai nm2.val;have f4:=a2.je.bx.c 4;go_wp2_with fail;refine HI.mono ?_;rintro e w3⟨n,g3,s3,pG,ρ,rfl,hd,a3,t3,hc3,r3⟩;have n3:=N2.next a3 t3;have hp:jq Γ x f t s (.ok (sub (jy ρ)<|sub s.k d.of,s3)):=by
   rw[jq];rw[e1];exact j7 ⟨by rw[<-(uh HV)];exact hz,ρ,s3,hd,rfl⟩
  have HX:=(cL.ok (D:=48) (cnt0:=cnt) n3 hp r3 hc3).up KQ
  go_wp2
  go_ret;exact HX
 .have HX:=show cL c nb l 48 (jq Γ x f t) g s cnt w (LL ⟨7,f,t⟩ Zv Zv) w2 from j7 ⟨In.qA f t,Zv,Zv,rfl,by rw[jq];rw[e1];exact j8 ⟨by rw[<-NM.val];exact hz,rfl⟩,⟨λ_=>⟨rfl,rfl⟩,λq=>by simp[In.qA]at q,j7 rfl⟩,(qc KQ).trans t2.fr⟩
  go_wp2
  exact⟨rfl,HX⟩
end
def ahV c nb l D(p:ja Unit)g(s:jc)cnt w e w':=
 (e=.returned (.tuple #[])/\∃g' s' aB,p s (.ok ((),s'))/\AJ w' c nb l aB g' s'/\fA l c w g s w' g' s'/\aB<=cnt+D)\/qQ c p g s w e w'
def ahW(hu:mN k)w:dE w (λ_=>False) (.aH k []) (.iface 169<|.agg #[.string k,.slice none 0 0]):=by
 have:=dE.aH (w:=w) (P:=λ_=>False) k [] none 0 (λ_=>Zv) (j7<|j7 hu) (j8 rfl)<|λi h=>tP
 rwa[eJ hu]at this
section
variable {cnt:Nat}
def SS(aj:AJ w c nb l cnt g s)(hu:mN k)(hc:cnt+1<=900000):Cq 379 #[nA c.eb,.iface 169<|.agg #[.string k,.slice none 0 0]] w (ahU c nb l 1 (.aH k []) g s cnt w):=by
 have:=YS aj (ahW hu w) (λb q=>q.elim) (by simp[size,ah]) (λn q=>by simp[aD,bK]at q) (by simpa[size,ah]using hc);simpa[size,ah]using this
def YT{tx}{ax}(Hx:iG x)(h:mB x c w nb l cnt g s Γ dom (.iface tx ax)):Cq 392 #[nA c.eb,.iface tx ax] w (ahV c nb l (1000*nn x+1) (jf (jh c.mks x Γ) λa=>jv a j3 (jt x)<|ju x) g s cnt w):=by
 have H1:=Hx c w nb l cnt g s Γ dom _ h;have fa:=h.fa;have fb:=h.fb;have pl:=h.pe.place;dsimp only[PlF]at pl;have N0:=lO.start h.aj<|In.andM (In.inf c.mks x Γ) λa=>In.p_ a In.dN (In.ij x)<|In.uQ x;go_enter func392,ntmps392;go_wp2_with fail;refine H1.mono ?_;rintro e w1(⟨n1,g1,s1,ak,T1,rfl,p1,A1,t1,c1,R1⟩|hb)
 .have H2:=SS A1 lV ae;have N1:=N0.and p1 A1 t1;go_wp2_with fail;refine(qL).mono ?_;rintro e w1'⟨rfl,rfl⟩;go_wp2_with fail;refine H2.mono ?_;rintro e w2⟨n2,g2,cA,rfl,a2,t2,c2,r2⟩;have N2:=N1.step a2 t2;have R2:=And.intro (R1.kB A1.js t2) r2;go_wp2_with fail;refine(cW _ _).mono ?_;rintro e w3⟨rfl,k3⟩;have N3:=N2.af k3;have H3:=Bv N3.n.a Up R2.1 R2.2 (jt x)<|ju x;go_wp2_with fail;refine H3.mono ?_;rintro e w4(⟨rfl,g4,s4,p4,a4,t4⟩|hb)
  .have n4:=N3.n.next a4 t4;have HX:=show ahV c nb l (1000*nn x+1) (jf (jh c.mks x Γ) λa=>jv a j3 (jt x)<|ju x) g s cnt w (Rv<|.tuple #[]) w4 from j8 ⟨rfl,g4,s4,cA,N3.p _ p4,n4.a,n4.t,ae⟩
   go_wp2
   go_end0;exact HX
  .have HX:=N3.n.bad hb<|λz q=>N3.p _ q;obtain⟨z,vl,vr,rfl,-⟩:=hb
   go_wp2
   exact⟨rfl,j7 HX⟩
 .have HX:=N0.bad hb;obtain⟨z,vl,vr,rfl,-⟩:=hb
  go_wp2
  exact⟨rfl,j7 HX⟩
end
structure BdJ rc st x c w nb l cnt g(s:jc)(Γ:jk)(dom:BA->Prop)v:Prop where
 aj:AJ w c nb l cnt g s
 en:bV w nb Γ g s
 pe:PE w (λb=>b<c.lo) x v
 sc:ScE c.mks c.nl (λy=>dom y\/(rc=true/\y=st)) x
 hd:∀y,dom y->Γ y≠none
 fa:cnt+1000*(1+nn x)<=850000
 fb:l+nn x<=805
 mf:MkFine c.mks
section
variable {cnt:Nat} {rc:Bool}
def One.af(o:One b W w')(k:Bq w W)(hb:w.heap.size<=b):Bq w w':=⟨o.os.trans k.os,o.tape.trans k.tape,o.output.trans k.output,by rw[o.size];exact k.size,λi hi=>(o.block i ae).trans<|k.block i hi⟩
def lX.nm{n:Nat}{T:Ty}(r:lX l g s n T)(js:JS w g s)(hl:l<aL)(hu:∀k,aD k T->s.u k):yZ g s (j5 T) n where
 mem:=r.mem
 val:=r.val
 any v:=⟨λq=> mD,λ⟨o,x,rx,e⟩=>by
  have⟨y,hy⟩:=js.gl.hd n r.mem;have⟨z,rz,q⟩:=eT (lv:=g.lv) js.jg js.can _ n y r.mem hy (br _) o;have q:=q js.lc;have:=r.lv y hy;rw[rz.one js.jg rx,e]at q
  omega⟩
 use:=hu
 sub v q:=mD
def bV.lit{y}(h:MG Value.string w b (bD y (nA m) []))(n:yZ g s d m):bV w b (jl (λ_=>none) y d) g s:=by
 refine⟨_,h,λz=>?_⟩;rw[aJ];rw[jl];by_cases e:y=z
 .grind
 .rw[if_neg e,if_neg<|Ne.symm e];exact j8 ⟨rfl,rfl⟩
def BdJ.up(h:BdJ rc st x c w nb l cnt g s Γ dom v)(k:Bq w w1):BdJ rc st x c w1 nb l cnt g s Γ dom v:=⟨h.aj.af k,h.en.af k,h.pe.af k,h.sc,h.hd,h.fa,h.fb,h.mf⟩
def YU(Hx:iG x)(h:BdJ false st x c w nb l cnt g s Γ dom v):Cq 380 #[nA c.eb,.agg #[.bool false,Nv a,Nv y,.string st,v]] w (cL c nb l (1000*(1+nn x)) (jx false st x (jh c.mks x) Γ) g s cnt w):=by
 have k0:Bq w (w.alloc<|Cv #[.bool false,Nv a,Nv y,Sv st,v] 142):=bw _;have h0:=h.up k0;have fa:=h.fa;have fb:=h.fb;have H1:=Hx c _ nb l cnt g s Γ _ v ⟨h0.aj,h0.en,h0.pe,h0.sc,λz q=>h.hd z (q.resolve_right λq=>by cases q.1),ae,ae,h.mf⟩;obtain⟨tx,ax,rfl⟩:=h.pe.iface;have N0:=lO.start h0.aj<|In.inf c.mks x Γ;have K0:=ai k0;go_enter func380,ntmps380;go_wp2_with fail;refine H1.mono ?_;intro e w1 hq;have HX:=(N0.last (cnt0:=cnt) (D:=1000*(1+nn x)) hq ae).up K0;obtain⟨n1,g1,s1,ak,T1,rfl,-⟩|⟨z,vl,vr,rfl,-⟩:=hq
 .clear H1
  go_wp2
  go_ret;exact HX
 .clear H1
  go_wp2
  exact⟨rfl,HX⟩
def Qj{p:Prop}(h:p:=by
 obtain⟨z,vl,vr,rfl,-⟩:=hb
 go_wp2
 exact⟨rfl,cL.up (j7 HX) K0⟩):p:=h
def YV(Hx:iG x)(h:BdJ true st x c w nb l cnt g s Γ dom v):Cq 380 #[nA c.eb,.agg #[.bool true,Nv a,Nv y,.string st,v]] w (cL c nb l (1000*(1+nn x)) (jx true st x (jh c.mks x) Γ) g s cnt w):=by
 have iE:= @run_makeMap Tryz.prog;have fa:=h.fa;have fb:=h.fb;have hl:l<aL:=Up;have⟨k0,B0⟩:=mM w #[.bool true,Nv a,Nv y,Sv st,v] 142;have HA:=h.up k0;have Bw:=h.aj.il<|br _;have N0:=lO.start HA.aj<|In.cH true st x (In.inf c.mks x) Γ;rw[BZ]at N0;rw[BZ];have H1:=tK HA.aj ae;obtain⟨tx,ax,rfl⟩:=h.pe.iface;have pl:=h.pe.place;dsimp only[PlF]at pl;have K0:=ai k0;go_enter func380,ntmps380;go_wp2_with fail;refine H1.mono ?_;rintro e w1⟨n1,g1,rfl,p1,a1,t1,R1,-⟩;have N1:=N0.and p1 a1 t1;have nm:=R1.nm a1.js hl (λk o=>by simp only[aD]at o;exact Or.inr o.symm);have HW:∀(w2:World)(mb:Nat),Bq w1 w2->MG Sv w2 mb (bD st (nA n1) [])->Cq 383 #[nA c.eb,Mv mb,Fv tx<|Av ax] w2 (cL c nb l (1000*nn x) (In.inf c.mks x<|In.gR Γ st<|In.mono<|.var<|cnt+1) g1 ⟨s.k,λm=>s.u m\/m=cnt+1⟩ (cnt+1) w2):=λw2 mb k hM=>by
  have h:=HA;have n1:=N1.n;have:=oR Hx (a1.af k) ((h.en.kB hl h.aj a1.js t1).af k) (bV.lit hM nm) ((n1.pe h.pe).af k) h.sc (λz q=>?_) ae ae h.mf
  .rw[iX]at this;exact this
  .rw[iX];rw[jl];split
   .simp
   .exact h.hd z (q.resolve_right λq=>by have:=q.2;contradiction)
 have⟨b1,b2,b3⟩:=N1.n.bx B0 Bw;go_wp2_with(refine b8 Mf cG rfl _ _ _ (j8 rfl) rfl (MG.new _ _) st (nA n1) rfl rfl ?_;intro w2 hM o;have k2:=o.af ((j9 _ w1).alloc (br _)<|.map #[] 0)<|br _;have⟨d1,d2,d3⟩:=N1.af k2|>.n.bx B0 Bw;have HM:=ai hM;have K2:=ai k2;clear hM o k2);refine(HW _ _ K2 HM).mono ?_;rintro e w3(⟨n3,g3,s3,pG,T3,rfl,p3,a3,t3,c3,r3⟩|hb)
 .have N3:=(N1.af K2).and p3 a3 t3;have R3:=And.intro (R1.kB N1.n.a.js t3) r3;have⟨d1',d2',d3'⟩:=N3.n.bx B0 Bw;go_wp2_with fail;refine(cW _ _).mono ?_;rintro e w4⟨rfl,k4⟩;have N4:=N3.af k4;have H4:=Bv N4.n.a hl R3.1 R3.2 (jt x)<|ju x;go_wp2_with fail;refine H4.mono ?_;rintro e w5(⟨rfl,g5,s5,p5,a5,t5⟩|hb)
  .have N5:=N4.and p5 a5 t5;have R5:=R3.2.kB N4.n.a.js t5
   go_wp2
   go_ret;exact(N5.ret R5 ae).up K0
  .have HX:=N4.bad hb;exact Qj
 .have HX:=(N1.af K2).bad hb;exact Qj
def Uo(Hx:iG x)(h:BdJ rc st x c w nb l cnt g s Γ dom v):Cq 380 #[nA c.eb,.agg #[.bool rc,Nv a,Nv y,.string st,v]] w (cL c nb l (1000*(1+nn x)) (jx rc st x (jh c.mks x) Γ) g s cnt w):=by
 cases rc
 .exact YU Hx h
 .exact YV Hx h
end
abbrev jG c g gb b:=jS c g b\/b=gb
def YW{α:Type}c gb(p:ja α)g(s:jc)w e w':=∃z vl vr,e=LL z.f vl vr/\p s (.error z)/\pD w' (λ_=>True) z vl vr/\Fr (jG c g gb) w w'
def o6 c nb l gb D(p:ja (Ty×jk))g(s:jc)cnt w e w':=
 (∃n g' s' aB T G,e=.returned (nA n)/\p s (.ok ((T,G),s'))/\AJ w' c nb l aB g' s'/\fA l c w g s w g' s'/\Fr (jG c g gb) w w'/\bV w' gb G g' s'/\aB<=cnt+D/\lX l g' s' n T)\/YW c gb p g s w e w'
structure DI nd c w nb l cnt g(s:jc)gb(G:jk)v:Prop where
 aj:AJ w c nb l cnt g s
 en:bV w gb G g s
 pp:PP w (λb=>b<c.lo) nd v
 sc:qC c.mks c.nl nd
 fg:c.fD<=gb/\gb≠c.rb/\gb≠c.mb/\c.lo<=gb
 fa:cnt+1000*nn nd<=850000
 fl:l<aL
 mf:MkFine c.mks
def Mc nd:=∀(c:JC)(w:World)(nb l cnt:Nat)(g:fB)(s:jc)(gb:Nat)(G:jk)(v:Value),DI nd c w nb l cnt g s gb G v->
 Cq 399 #[nA c.eb,Mv gb,v] w (o6 c nb l gb (1000*nn nd) (jd c.mks nd G) g s cnt w)
structure lL{β:Type}c nb l gb w0 g0(s0:jc)(p:ja β)w g(s:jc)cnt(q:ja β):Prop where
 a:AJ w c nb l cnt g s
 t:fA l c w0 g0 s0 w0 g s
 f:Fr (jG c g0 gb) w0 w
 z:∃k,AJ w0 c nb l k g0 s0
 p:∀o,q s o->p s0 o
section
variable {W1:World} {cnt:Nat} {p' q':ja β} {m:ja α} {k:α->ja β} {a:α}
def fA.fg(t:fA l c w g s w1 g1 s1):Fr (jG c g gb) w w1:=t.fr.fD λ_ q=>j8 q
def lL.start(a:AJ w c nb l cnt g s)(p':ja β):lL c nb l gb w g s p' w g s cnt p':=⟨a,.refl a.js c l,.refl _ _,⟨_,a⟩,λ_ h=>h⟩
def lL.fr(n:lL c nb l gb w0 g0 s0 p' w g s cnt q')(f:Fr (jG c g gb) w w1):Fr (jG c g0 gb) w0 w1:=n.f.trans' f λx q=>by
 obtain  (q|q|q)|q:=q
 .omega
 .omega
 .exact(n.t.nw x q).imp (λz=>j8<|j7<|j7 z) id
 .omega
def lL.gr(n:lL c nb l gb w0 g0 s0 p' w g s cnt q')(a1:AJ w1 c nb l ak g1 s1)(t1:fA l c w g s W g1 s1):fA l c w0 g0 s0 w0 g1 s1:=by
 have⟨k,z⟩:=n.z;exact n.t.trans z.js n.a.js a1.js {t1 with nw:=λm hm=>(t1.nw m hm).imp id<|qd n.f.size,fr:=.refl _ _}
def lL.and(n:lL c nb l gb w0 g0 s0 p' w g s cnt (jf m k))(hm:m s (.ok (a,s1)))(a1:AJ w1 c nb l ak g1 s1)(t1:fA l c w g s W g1 s1)(f:Fr (jG c g gb) w w1):lL c nb l gb w0 g0 s0 p' w1 g1 s1 ak (k a):=⟨a1,n.gr a1 t1,n.fr f,n.z,λo ho=>n.p o<|j7 ⟨a,s1,hm,ho⟩⟩
def lL.step{W}(n:lL c nb l gb w0 g0 s0 p' w g s cnt q')(a1:AJ w1 c nb l ak g1 s)(t1:fA l c w g s W g1 s)(f:Fr (jG c g gb) w w1):lL c nb l gb w0 g0 s0 p' w1 g1 s ak q':=⟨a1,n.gr a1 t1,n.fr f,n.z,n.p⟩
def lL.af(n:lL c nb l gb w0 g0 s0 p' w g s cnt q')(k:Bq w w1):lL c nb l gb w0 g0 s0 p' w1 g s cnt q':=n.step (n.a.af k) (.refl n.a.js c l)<|qc k
def qQ.bp{p:ja α}(b:qQ c p g s w e w'):YW c gb p g s w e w':=by
 obtain⟨z,vl,vr,h1,h2,h3,h4⟩:=b;exact⟨z,vl,vr,h1,h2,h3,h4.fD λ_ q=>j8 q⟩
def lL.bad(n:lL c nb l gb w0 g0 s0 p' w g s cnt (jf m k))(b:YW c gb m g s w e w'):YW c gb p' g0 s0 w0 e w':=by
 obtain⟨z,vl,vr,h1,h2,h3,h4⟩:=b;exact⟨z,vl,vr,h1,n.p _<|j8 ⟨z,h2,rfl⟩,h3,n.fr h4⟩
def lL.bx(n:lL c nb l gb w0 g0 s0 p' w g s cnt q')(h:Bx w0 b C)(hb:¬jG c g0 gb b):Bx w b C:=h.fr n.f hb
def lL.ret{p:ja (Ty×jk)}{x}(n:lL c nb l gb w0 g0 s0 p w g s cnt (ji (T,G)))(en:bV w gb G g s)(r:lX l g s x T)(hc:cnt<=cnt0+D):o6 c nb l gb D p g0 s0 cnt0 w0 (.returned<|nA x) w:=j8 ⟨x,g,s,cnt,T,G,rfl,n.p _ rfl,n.a,n.t,n.f,en,hc,r⟩
def o6.up{p:ja (Ty×jk)}(h:o6 c nb l gb D p g s cnt w1 e w')(k:Bq w w1):o6 c nb l gb D p g s cnt w e w':=by
 obtain⟨n,g',s',aB,T,G,h1,h2,h3,h4,h5,h6⟩|⟨z,vl,vr,h1,h2,h3,h4⟩:=h
 .exact j8 ⟨n,g',s',aB,T,G,h1,h2,h3,{h4 with nw:=λm hm=>(h4.nw m hm).imp id<|qd k.size,fr:=.refl _ _},(qc k).trans h5,h6⟩
 .exact j7 ⟨z,vl,vr,h1,h2,h3,(qc k).trans h4⟩
def AJ.gno(aj:AJ w c nb l cnt g s)(en:bV w gb G g s)(hb:w.heap.size<=b):¬jG c g gb b:=λq=>q.elim (aj.il hb) λq=>by have:=en.lt;omega
def DI.up(h:DI nd c w nb l cnt g s gb G v)(k:Bq w w1):DI nd c w1 nb l cnt g s gb G v:=⟨h.aj.af k,h.en.af k,h.pp.af k,h.sc,h.fg,h.fa,h.fl,h.mf⟩
def DI.part{G1}(h:DI nd c w0 nb l cnt0 g0 s0 gb G v)(n:lL c nb l gb w0 g0 s0 p' w g s cnt q')(en:bV w gb G1 g s)(hp:PP w0 (λb=>b<c.lo) x u)(hs:qC c.mks c.nl x)(hz:cnt+1000*nn x<=cnt0+1000*nn nd):DI x c w nb l cnt g s gb G1 u:=
 ⟨n.a,en,hp.move n.f.size (λb p q=>n.f.block b q λz=>z.elim (h.aj.Uq p) λz=>by have:=h.fg;omega)<|λ_ p _=>p,hs,h.fg,by have:=h.fa;omega,h.fl,h.mf⟩
end
section
variable {cnt:Nat}
def bV.put{x:BA}{L}(q:∀y,(G y=none/\aY y L=none)\/∃d m,G y=some d/\aY y L=some (nA m)/\yZ g s d m)(h:MG Value.string w1 gb (bD x (nA m) L))(n:yZ g s d m):bV w1 gb (jl G x d) g s:=by
 refine⟨_,h,λz=>?_⟩;rw[aJ];rw[jl];by_cases e:x=z
 .grind
 .grind
def yL{T}(hq:T=326/\cn=mO/\(∃n:Nat,xs=#[Nv f,Nv t,Nv n])\/T=321/\cn=iA/\(∃n:Bool,xs=#[Nv f,Nv t,.bool n])\/T=324/\cn=iB/\xs=#[Nv f,Nv t])(aj:AJ w c nb l cnt g s)(en:bV w gb G g s)(hl:l<aL)(hc:cnt+1<=900000):Cq 399 #[nA c.eb,Mv gb,.iface T<|.agg xs] w (o6 c nb l gb 1000 (ji (.aH cn [],G)) g s cnt w):=by
 have hu:mN cn:=by obtain⟨-,rfl,-⟩|⟨-,rfl,-⟩|⟨-,rfl,-⟩:=hq;exact lV;exact jY;exact qM
 have k0:Bq w (w.alloc<|Cv xs T):=bw _;have H1:=SS (aj.af k0) hu hc;have N0:=lL.start (gb:=gb) (aj.af k0)<|ji (Ty.aH cn [],G);have EN:=en.af k0;have K0:=ai k0;obtain⟨rfl,rfl,n,rfl⟩|⟨rfl,rfl,n,rfl⟩|⟨rfl,rfl,rfl⟩:=hq;all_goals
  go_enter func399,ntmps399;go_wp2_with fail;first|refine qL.mono ?_|refine mZ.mono ?_|refine wG.mono ?_
  rintro e w1⟨rfl,rfl⟩;go_wp2_with fail;refine H1.mono ?_;rintro e w2⟨n2,g2,cA,rfl,a2,t2,c2,r2⟩;have HX:=((N0.step a2 t2 t2.fg).ret (D:=1000) (cnt0:=cnt) (EN.kB hl N0.a a2.js t2) r2 ae).up K0
  go_wp2
  go_ret;exact HX
def abS(aj:AJ w c nb l cnt g s)(en:bV w gb G g s)(hl:l<aL)(hc:cnt<=1000000):Cq 399 #[nA c.eb,Mv gb,.iface 337<|.agg #[Nv f,Nv t]] w (o6 c nb l gb 1000 (jf jp λv=>ji (.var v,G)) g s cnt w):=by
 have k0:Bq w (w.alloc<|Cv #[Nv f,Nv t] 337):=bw _;have H1:=tK (aj.af k0) hc;have N0:=lL.start (gb:=gb) (aj.af k0)<|In.andM In.kS λv=>In.cS (Ty.var v,G);have EN:=en.af k0;have K0:=ai k0;go_enter func399,ntmps399;go_wp2_with fail;refine H1.mono ?_;rintro e w2⟨n2,g2,rfl,p2,a2,t2,r2,-⟩;have HX:=((N0.and p2 a2 t2 t2.fg).ret (D:=1000) (cnt0:=cnt) (EN.kB hl N0.a a2.js t2) r2 ae).up K0
 go_wp2
 go_ret;exact HX
def abT{x:BA}(aj:AJ w c nb l cnt g s)(en:bV w gb G g s)(hl:l<aL)(hc:cnt<=1000000)(hg:c.fD<=gb/\gb≠c.rb/\gb≠c.mb):Cq 399 #[nA c.eb,Mv gb,.iface 356<|.agg #[Nv f,Nv t,.string x]] w (o6 c nb l gb 1000 (jf jp λv=>ji (.var v,jl G x<|j5<|.var v)) g s cnt w):=by
 have⟨k0,B0⟩:=mM w #[Nv f,Nv t,Sv x] 356;have H1:=tK (aj.af k0) hc;have Bw:=aj.gno en<|br _;have N0:=lL.start (gb:=gb) (aj.af k0)<|In.andM In.kS λv=>In.cS (Ty.var v,In.gR G x<|In.mono<|.var v);have EN:=en.af k0;have K0:=ai k0;go_enter func399,ntmps399;go_wp2_with fail;refine H1.mono ?_;rintro e w2⟨n2,g2,rfl,p2,a2,t2,r2,-⟩;have⟨L,hM,hq⟩:=EN.kB hl N0.a a2.js t2;have HK:∀w3,MG Sv w3 gb (bD x (nA n2) L)->One gb w2 w3->o6 c nb l gb 1000 (In.andM In.kS λv=>In.cS (Ty.var v,In.gR G x<|In.mono<|.var v)) g s cnt w (Rv<|nA n2) w3:=λw3 h3 o=>by
  have f3:Fr (λb=>b=gb) w2 w3:=o.fr rfl;have a3:=a2.mR f3 λb e=>⟨ae,ae,λi=>by rw[e];exact hM.bB i⟩;have nm:=r2.nm a2.js hl (λk o=>by simp only[aD]at o;exact j7 o.symm);exact((N0.and p2 a3 t2<|(t2.fg (gb:=gb)).trans' (f3.fD λb e=>(j7 e:jG c g gb b)) λb q=>j8 q).ret (D:=1000) (cnt0:=cnt) (bV.put hq h3 nm) r2 ae).up K0
 have⟨b1,b2,b3⟩:=B0.fr t2.fr λq=>Bw<|j8 q;have HM:=ai hM;go_wp2_with(refine b8 Mf cG rfl _ _ _ (j7 rfl) rfl HM x (nA n2) rfl rfl ?_;intro w3 h3 o;have HX:=ai<|HK w3 h3 o;clear h3 o);go_ret;exact HX
def Qk{p:Prop}(h:p:=by
 obtain⟨z,vl,vr,rfl,-⟩:=hb
 go_wp2
 exact⟨rfl,o6.up (j7 HX) K0⟩):p:=h
def YX{y}(Hx:Mc x)(Hy:Mc y)(h:DI (.mk 6 st n [x,y] f t a) c w nb l cnt g s gb G v)(hx:PP w (λb=>b<c.lo) x vx)(hy:PP w (λb=>b<c.lo) y vy):
 Cq 399 #[nA c.eb,Mv gb,.iface 328<|.agg #[Nv f,Nv t,vx,vy]] w (o6 c nb l gb (1000*nn (.mk 6 st n [x,y] f t a)) (jd c.mks (.mk 6 st n [x,y] f t a) G) g s cnt w):=by
 have en:nn (.mk 6 st n [x,y] f t a)=1+nn x+nn y:=Jg;have ep:jd c.mks (.mk 6 st n [x,y] f t a) G=jf (jd c.mks x G) λa=>jf (jd c.mks y a.2) λb=>ji (In.S_ a.1 b.1,b.2):=by simp[jd,jm,In.mT,In.fy]
 obtain⟨sx,sy⟩:qC c.mks c.nl x/\qC c.mks c.nl y:=by
  cases h.sc with
  |pr _ _ _ _ _ _ _ hx hy=>exact⟨hx,hy⟩
 have fa:=h.fa;have hl:=h.fl;rw[en]at fa;have⟨k0,B0⟩:=mM w #[Nv f,Nv t,vx,vy] 328;have HA:=h.up k0;have Bw:=h.aj.gno h.en<|br _;have N0:=lL.start (gb:=gb) HA.aj<|In.eh c.mks (.mk 6 st n [x,y] f t a) G;rw[ep]at N0;have H1:=Hx c _ nb l cnt g s gb G vx<|HA.part N0 HA.en (hx.af k0) sx BU;rw[en,ep];have HY:=hy.af k0;obtain⟨tx,ax,rfl⟩:=hx.iface;obtain⟨ty,ay,rfl⟩:=hy.iface;have K0:=ai k0;go_enter func399,ntmps399;go_wp2_with fail;refine H1.mono ?_;rintro e w1(⟨n1,g1,s1,ak,T1,G1,rfl,p1,a1,t1,f1,e1,c1,R1⟩|hb)
 .have N1:=N0.and p1 a1 t1 f1;have H2:=Hy c w1 nb l ak g1 s1 gb G1 _<|HA.part N1 e1 HY sy BU;have⟨b1,b2,b3⟩:=N1.bx B0 Bw;go_wp2_with fail;refine H2.mono ?_;rintro e w2(⟨n2,g2,s2,cA,T2,G2,rfl,p2,a2,t2,f2,E2,c2,r2⟩|hb)
  .have N2:=N1.and p2 a2 t2 f2;have H3:=ac2 a2 (R1.kB N1.a.js t2) r2;go_wp2_with fail;refine H3.mono ?_;rintro e w3⟨n3,g3,rfl,a3,t3,r3⟩;have HX:=((N2.step a3 t3 t3.fg).ret (D:=1000*(1+nn x+nn y)) (cnt0:=cnt) (E2.kB hl N2.a a3.js t3) r3 ae).up K0
   go_wp2
   go_ret;exact HX
  .have HX:=N1.bad hb;exact Qk
 .have HX:=N0.bad hb;exact Qk
end
section
variable {cnt kb jb:Nat} {ρ:In.Rn} {p' q':ja β} {m:ja α} {k:α->ja β} {a:α}
def qG.kB(h:qG c l kb jb mb w g s cnt ρ)(js:JS W g s)(t:fA l c w' g s V g1 s1)(f:Fr S w w1)(hS:¬S kb/\¬S jb/\¬S mb):qG c l kb jb mb w1 g1 s1 ak ρ:=by
 have⟨L,hm,hq⟩:=h.mp;refine⟨h.bk.fr f hS.1,h.bj.fr f hS.2.1,⟨L,hm.same<|f.block _ hm.lt hS.2.2,λv=>(hq v).imp id λ⟨n,m,q1,q2,q3,q4,q5,q6⟩=>?_⟩,h.XC⟩;have⟨o1,o2,o3⟩:=t.st.fZ m q3;have⟨x,hx⟩:=js.gl.hd m q3;exact⟨n,m,q1,q2,o1,o2.trans q4,o3.trans q5,λy hy=>t.lo m q3 x y hx hy l (br _)<|q6 x hx⟩
def lL.and'(n:lL c nb l gb w0 g0 s0 p' w g s cnt (jf m k))(hm:m s (.ok (a,s1)))(a1:AJ w1 c nb l ak g1 s1)(t1:fA l c w g s V g1 s1)(f:Fr (jG c g0 gb) w0 w1):lL c nb l gb w0 g0 s0 p' w1 g1 s1 ak (k a):=⟨a1,n.gr a1 t1,f,n.z,λo ho=>n.p o<|j7 ⟨a,s1,hm,ho⟩⟩
def I'(a:AJ w c nb l cnt g s)(a':AJ w' c nb l ak g1 s1)(e:w'.heap[c.mb]? =w.heap[c.mb]?){x}{tk}{mt}(hx:c.mks x=some (tk,mt))(hv:∀w':World,w'.heap[c.mb]? =w.heap[c.mb]? ->(Instr.lookup 214 (Mv c.mb) (.string x) false).run Tryz.prog w'=.ok v w'):Ta w' (λi=>i≠c.cb/\i<c.fD) tk mt v:=by
 have⟨v',h1,h2⟩:=a'.je.ms.look hx;have e1:=hv w' e;rw[h2 w' rfl]at e1;injection e1 with e1;rw[<-e1];exact h1
def MdJ c nb l gb w0 g(s:jc)cnt(p:ja (Ty×jk))tk m L kb jb mb gk v wr:=
 ∃j cj gj sj ρ G,Hid (gk=L.length-j)/\j<=L.length/\v=Nv j/\lL c nb l gb w0 g s p wr gj sj cj (gq c.mks tk m L j G ρ)/\bV wr gb G gj sj/\qG c l kb jb mb wr gj sj cj ρ/\Hid (cj+1000*bY (L.drop j)<=cnt+1000*bY L+ah (tk.take j))
def lL.imp(n:lL c nb l gb w0 g0 s0 p' w g s cnt q'){r}(h:∀o,r s o->q' s o):lL c nb l gb w0 g0 s0 p' w g s cnt r:={n with p:=λo ho=>n.p o<|h o ho}
def bV.stg{V'}(e:bV w gb G g s)(hl:l<aL)(aj:AJ V c nb l cnt g s)(h1:JS w1 g1 s1)(t:fA l c V g s V' g1 s1)(f:Fr S w w1)(hS:¬S gb):bV w1 gb G g1 s1:=by
 obtain⟨L,h,q⟩:=e;exact⟨L,h.fr f hS,λx=>(q x).imp id λ⟨d,m,q1,q2,q3⟩=>⟨d,m,q1,q2,q3.kB hl aj h1 t⟩⟩
def qG.no(an:qG c l kb jb mb w g s cnt ρ)(aj:AJ w c nb l cnt g s)(en:bV w gb G g s)(hm:mb≠gb):¬jG c g gb kb/\¬jG c g gb jb/\¬jG c g gb mb:=by
 obtain⟨L,hM,_⟩:=en;have⟨L',Yi,_⟩:=an.mp;have⟨f1,f2,f3,_⟩:=an.XC;have e0:=aj.je.bx.c 0;have e1:=aj.je.bx.c 1;have c0:=aj.je.ct.c 0;have k0:=an.bk.c 0;have j0:=an.bj.c 0;have j1:=an.bj.c 1;refine⟨?_,?_,?_⟩
 .rintro((q|q|q)|q)
  .grind
  .grind
  .have⟨p,hp⟩:=aj.js.gl.py q;rw[hp]at k0;simp at k0
  .rw[q,hM.bB 0]at k0;simp at k0
 .rintro((q|q|q)|q)
  .grind
  .grind
  .have:=(aj.js.gl.nd jb q).lvl.1;rw[j1]at this;simp at this
  .rw[q,hM.bB 0]at j0;simp at j0
 .rintro((q|q|q)|q)
  .omega
  .omega
  .exact(aj.js.mz Yi).1 q
  .exact hm q
def SU tk m:ah tk+size m<=size (jz tk m):=by
 induction tk with
 |nil=>simp[jz,ah]|cons t tk ih=>
  have:jz (t::tk) m=In.v9 t (jz tk m):=rfl;rw[this];simp only[ah,size];omega
def Ql{p:Prop}(h:p:=by
 obtain⟨_,_,_,q4,q5⟩:=h.aj.je.ne;rintro((q|q|q)|q)
 .exact q4 q
 .exact q5 q
 .exact(h.aj.je.mz h.aj.js).2 q
 .exact h.fg.2.2.1 q.symm):p:=h
def abU{a}{sa}{sc}{vs:Nat->Value}(H:∀i(h:i<L.length),Mc L[i])(h:DI (.mk 2 st n L f t a) c w nb l cnt g s gb G v)(aN:L=[]\/∃g,sa=some ⟨g,0,none⟩/\g<c.lo/\g<w.heap.size/\∀i,i<L.length->w.cell? ⟨g,i,none⟩=some (vs i))(hr:∀i(h:i<L.length),PP w (λb=>b<c.lo) L[i]<|vs i):
 Cq 401 #[nA c.eb,Mv gb,.agg #[Nv f,Nv t,Nv a,Nv y,.string st,.slice sa L.length sc]] w (o6 c nb l gb (1000*nn (.mk 2 st n L f t a)) (jd c.mks (.mk 2 st n L f t a) G) g s cnt w):=by
 have en:nn (.mk 2 st n L f t a)=1+bY L:=by simp[nn]
 obtain⟨tk,m,hx,hl,HS⟩:∃tk m,c.mks st=some (tk,m)/\L.length=tk.length/\∀i(h:i<L.length),qC c.mks c.nl L[i]:=by
  cases h.sc with
  |up _ _ _ _ _ _ tk m hx hl hr=>exact⟨tk,m,hx,hl,hr⟩|leaf _ _ _ _ _ _ hk=>omega
 have fa:=h.fa;rw[en]at fa;have eG:=h.mf.sz st tk m hx;have hsl:=SU tk m;have k0:Bq w (w.alloc<|.cells #[Nv f,Nv t,Nv a,Nv y,.string st,.slice sa L.length sc] 307):=bw _;obtain⟨v,hv,sg⟩:=h.aj.je.ms.look hx;obtain⟨ma,mc,ta,xa,rfl,-⟩:=hv;have zmb:=h.aj.je.ms.lt;have aby:=sg (w.alloc<|.cells #[Nv f,Nv t,Nv a,Nv y,.string st,.slice sa L.length sc] 307).drew<|k0.drew.block c.mb zmb;have k00:Bq w ((w.alloc<|.cells #[Nv f,Nv t,Nv a,Nv y,.string st,.slice sa L.length sc] 307).alloc<|.cells #[.slice none 0 0,.nilIface] 470):=k0.alloc k0.size _;have abz:=sg _<|k00.drew.block c.mb zmb;obtain⟨e1,e2,e3⟩:=h.aj.je.bx;have hln:L.length<=1000:=by have:=qN tk m;omega
 rw[wK hx,en];have HA:=ai h;have HL:=ai hl;have HLK:=ai sg;have HX:=ai hx;clear h sg k0 k00 hl hx;go_enter func401,ntmps401;go_wp2_with fail;go_cut[7]from 12 (λv1 wc=>Sp w #[Nv f,Nv t,Nv a,Nv y,.string st,.slice sa L.length sc] #[.slice ma tk.length mc,.iface ta xa] v1 wc)
 case first=>
  go_region
  all_goals(
   go_wp2_with fail
   go_meet
   case rel=>exact Sp.a w _ _ _ _)
 case rest=>
  obtain⟨pb,rfl,zp,X1,T2,KC⟩:=hcut;clear aby abz e1 e2 e3;have h:=uh HA;have zgb:=h.en.lt;have zkc:=KC.size;have nb1:=h.aj.gno h.en<|br _;have nb2:=h.aj.gno h.en<|Nat.le_of_lt zp;have N0:=lL.start (gb:=gb) (h.aj.af KC)<|gq c.mks tk m L 0 G jj;have HN:=P8 (l:=l) (h.aj.af KC).je g s;have T1:=ai X1;clear X1 h;go_wp2_with fail;refine HN.mono ?_;rintro e w2⟨kb,jb,mb,rfl,an,k2,z2,h1,h2,h3⟩;have N2:=N0.af k2;have X1:=N2.bx T1 nb1;have ST:MdJ c nb l gb wc g s cnt (gq c.mks tk m L 0 G jj) tk m L kb jb mb L.length (Iv 0) w2:=⟨0,cnt,g,s,jj,G,ai ag,Nat.zero_le _,rfl,N2,(HA.en.af KC).af k2,an,ai<|by simp[ah]⟩;obtain⟨y1,y2,y3⟩:=X1;clear HN an k2 N2 N0
  go_wp2
  go_loopg[25] L.length (λgk v wr=>MdJ c nb l gb wc g s cnt (gq c.mks tk m L 0 G jj) tk m L kb jb mb gk v wr)
  case atStart=>exact ST
  case round=>
   clear ST y1 y2 y3;obtain⟨j,cj,gj,sj,ρ,Gj,c_,hj,rfl,at_,EJ,an,hbd⟩:=hrel;have hbd:=uh hbd;by_cases bh:j<L.length
   .have bA:(j:Int)<(L.length:Int):=ae;have Ej:(0:Int)<=(j:Int):=ae;have hjt:j<tk.length:=by have:=uh HL;omega
    have afo:(j:Int)<(tk.length:Int):=ae;have h:=uh HA;have FF:=(qc (S:=jG c g gb) KC).trans at_.f;have nlo:∀b,b<c.lo->¬jG c g gb b:=λb p z=>z.elim (h.aj.Uq p) λz=>by have:=h.fg;omega
    obtain⟨gg,rfl,hQ,hz,bU⟩:=aN.resolve_left<|λe=>qBs;have LQ:=hr j bh;have cg:=(World.cell?_of_block (a:=⟨gg,j,none⟩)<|FF.block gg hz<|nlo gg hQ).trans<|bU j bh;obtain⟨tx,ax,evs⟩:=LQ.iface;rw[evs]at cg LQ;have Ji:=LQ.place;dsimp only[PlF]at Ji;have hdn:bY (L.drop j)=nn L[j]+bY (L.drop<|j+1):=by rw[List.drop_eq_getElem_cons bh];rfl
    have iC:=yG tk hjt;have H1:=H j bh c wr nb l cj gj sj gb Gj _ ⟨at_.a,EJ,LQ.move FF.size (λb p z=>FF.block b z<|nlo b p)<|λ_ p _=>p,HS j bh,h.fg,ae,h.fl,h.mf⟩;have AT:=ai<|at_.imp λo ho=>sC HL bh ho;have AN:=ai an;have hfl:=h.fl;obtain⟨y1,y2,y3⟩:=at_.bx T1 nb1;clear at_ an h LQ bU FF nlo;go_wp2_with fail;refine H1.mono ?_;rintro e w3(⟨n3,g3,s3,c3,T3,G3,rfl,p3,a3,t3,f3,e3,hc3,r3⟩|hb)
    .have h:=uh HA;have zj:=AT.a.je.z.2.2;have emb:mb≠gb:=ae;have nG:=AN.no AT.a EJ emb;have an3:qG c l kb jb mb w3 g3 s3 c3 ρ:=AN.kB AT.a.js t3 f3 nG;have at3:=AT.and p3 a3 t3 f3;have nmb:¬jG c g gb c.mb:=by
      exact Ql
     have Ti:=I' h.aj a3 (((qc (S:=jG c g gb) KC).trans at3.f).block _ zmb nmb) HX HLK;obtain⟨ma',mc',ta',xa',ee,hmr,iE⟩:=Ti;obtain⟨gt,vt,hgt,pgt,zgt,hct⟩:=hmr.resolve_left (λe=>by subst e;simp at hjt);obtain⟨ct,tt⟩:=hct j hjt;obtain⟨tb,xb,evt⟩:=tt.iface;rw[evt]at ct tt;have ema:ma=some ⟨gt,0,none⟩:=by
      injection ee with ee;have:=congrArg (λa:Array Value=>a[0]?) ee;simp at this;rw[this.1,hgt]
     subst ema;have zk:kb<w3.heap.size/\jb<w3.heap.size/\mb<w3.heap.size:=⟨an3.bk.z,an3.bj.z,by obtain⟨L',Yi,_⟩:=an3.mp;exact Yi.lt⟩;have yE:∀W:World,Bq w3 W->Cq 55 #[.iface tb xb,Nv l,anV kb jb] W (IU c nb l (λb=>b=mb) (qG c l kb jb mb) g3 s3 c3 ρ tk[j] W):=λW hk=>P7 zk.1 zk.2.1 zk.2.2 tk[j] W g3 s3 c3 ρ _ _ (a3.af hk).je (a3.af hk).js a3.us (qG.kB (W:=w3) (w':=w3) an3 a3.js (.refl a3.js c l) (qc (S:=λ_=>False) hk) ⟨id,id,id⟩) hk.size (tt.move hk.size (λb _ z=>hk.block b z)<|λ_ p _=>p) (λb p=>⟨p.1,by have:=an3.XC.1;have:=p.2;omega⟩) ae (λ_ _=>trivial) ae;have HK:∀W e w4,Bq w3 W->IU c nb l (λb=>b=mb) (qG c l kb jb mb) g3 s3 c3 ρ tk[j] W e w4->∃n4 g4 s4 c4 YY,e=.returned (nA n4)/\lL c nb l gb wc g s (gq c.mks tk m L 0 G jj) w4 g4 s4 c4 (jf (jv T3 (sub (jy YY) tk[j]) (jt L[j])<|ju L[j]) λ_=>gq c.mks tk m L (j+1) G3 YY)/\lX l g4 s4 n3 T3/\lX l g4 s4 n4 (sub (jy YY) tk[j])/\qG c l kb jb mb w4 g4 s4 c4 YY/\bV w4 gb G3 g4 s4/\c4<=c3+size tk[j]:=λW e w4 hk hp=>by
      obtain⟨n4,g4,s4,c4,YY,rfl,je,js,an4,o,hn,hV,wj,hT,o8,F⟩:=hp;have o':=o.Ss hk.size;have a4:=o'.aj a3 (br _) je js;have t4:fA l c w3 g3 s3 w3 g4 s4:=o'.stj a3.js (br _)<|.refl _ _;have F4:=(qc (S:=λb=>b=c.cb\/b=mb) hk).trans F;refine⟨n4,g4,s4,c4,YY,rfl,at3.and' (o'.drawn hT) a4 t4<|at3.f.trans' F4 λx q=>q.imp (λq=>j8<|j8 q) λq=>ae,r3.kB a3.js t4,⟨hn,?_,wj⟩,an4,e3.stg hfl a3 js t4 F4<|λq=>q.elim (λq=>?_)<|λq=>emb q.symm,o8⟩
      .rw[hV,o.kk]
      .obtain⟨L',hM,_⟩:=e3;have:=a3.je.ct.c 0;rw[<-q,hM.bB 0]at this;simp at this
     obtain⟨x1,x2,x3⟩:=at3.bx T2 nb2;have l3:=a3.je.bx.c 4;clear h iE hct tt an3 at3 a3 t3 f3 e3 r3 p3 H1 nG nmb
     go_wp2
     go_region_with(first
      |(go_at_call 55;go_loud(refine(yE _ (j9 _ _).drew).mono ?_);intro e w4 hp;obtain⟨n4,g4,s4,c4,YY,rfl,at4,r4,r4',an4,e4,hc4⟩:=HK _ _ _ (j9 _ _).drew hp;have AT4:=ai at4;have R4:=ai<|And.intro r4 r4';have AN4:=ai<|And.intro an4 e4;clear hp at4 r4 r4' an4 e4)
      |(go_at_call 403;refine(cW _ _).mono ?_;rintro e w5⟨rfl,k5⟩;have AT5:=ai<|AT4.af k5;have AN5:Hid (qG c l kb jb mb w5 g4 s4 c4 YY/\bV w5 gb G3 g4 s4):=ai ⟨qG.kB AN4.1 AT4.a.js (.refl AT4.a.js c l) (qc (S:=λ_=>False) k5) ⟨id,id,id⟩,AN4.2.af k5⟩;clear k5)
      |(go_at_call 384;go_loud(refine(Bv AT5.a hfl R4.1 R4.2 _ _).mono ?_);intro e w6 hq;obtain hb|⟨he,g6,s6,p6,a6,t6⟩:=hq.symm;go_loud(have HP:=AT5.bad hb.bp;obtain⟨z,vl,vr,rfl,-⟩:=hb;exact⟨rfl,o6.up (j7 HP) KC⟩);subst he;go_loud(have N6:Hid (MdJ c nb l gb wc g s cnt (gq c.mks tk m L 0 G jj) tk m L kb jb mb (L.length-(j+1)) (.int .i64 ((j+1:Nat):Int)) w6):=ai ⟨j+1,c4,g6,s6,YY,G3,ai rfl,bh,rfl,AT5.and p6 a6 t6 t6.fg,AN5.2.kB hfl AT5.a a6.js t6,AN5.1.kB AT5.a.js t6 t6.fr (let q:=AN5.1.no AT5.a AN5.2 emb;⟨λz=>q.1<|j8 z,λz=>q.2.1<|j8 z,λz=>q.2.2<|j8 z⟩),ai ae⟩);clear p6 a6 t6))
     all_goals
      go_wp2
      go_roundg(L.length-(j+1))
      case measure=>rw[uh c_];omega
      case rel=>exact N6
    .have HP:=AT.bad hb;obtain⟨z,vl,vr,rfl,-⟩:=hb;clear H1
     go_wp2
     exact⟨rfl,o6.up (j7 HP) KC⟩
   .have bA:¬(j:Int)<(L.length:Int):=ae;have ej':j=L.length:=ae;subst ej';have h:=uh HA;have hfl:=h.fl;have zj:=at_.a.je.z.2.2;have emb:mb≠gb:=ae;have iC:ah (tk.take L.length)<=ah tk:=by rw[uh HL,List.take_length];exact br _
    have nmb:¬jG c g gb c.mb:=by
     exact Ql
    have Ti:=I' h.aj at_.a (((qc (S:=jG c g gb) KC).trans at_.f).block _ zmb nmb) HX HLK;obtain⟨ma',mc',ta',xa',ee,hmr,iE⟩:=Ti;have ema:(Value.iface ta xa)=.iface ta' xa':=by
     injection ee with ee;have:=congrArg (λa:Array Value=>a[1]?) ee;simpa using this
    rw[<-ema]at iE;have at2:=at_.imp λo ho=>El HL ho;have zk:kb<wr.heap.size/\jb<wr.heap.size/\mb<wr.heap.size:=⟨an.bk.z,an.bj.z,by obtain⟨L',Yi,_⟩:=an.mp;exact Yi.lt⟩;have yE:∀W:World,Bq wr W->Cq 55 #[.iface ta xa,Nv l,anV kb jb] W (IU c nb l (λb=>b=mb) (qG c l kb jb mb) gj sj cj ρ m W):=λW hk=>P7 zk.1 zk.2.1 zk.2.2 m W gj sj cj ρ _ _ (at_.a.af hk).je (at_.a.af hk).js at_.a.us (qG.kB (W:=wr) (w':=wr) an at_.a.js (.refl at_.a.js c l) (qc (S:=λ_=>False) hk) ⟨id,id,id⟩) hk.size (iE.move hk.size (λb _ z=>hk.block b z)<|λ_ p _=>p) (λb p=>⟨p.1,by have:=an.XC.1;have:=p.2;omega⟩) ae (λ_ _=>trivial) ae;have HK:∀W e w4,Bq wr W->IU c nb l (λb=>b=mb) (qG c l kb jb mb) gj sj cj ρ m W e w4->∃n4,e=.returned (nA n4)/\o6 c nb l gb (1000*(1+bY L)) (gq c.mks tk m L 0 G jj) g s cnt w (.returned<|nA n4) w4:=λW e w4 hk hp=>by
     obtain⟨n4,g4,s4,c4,YY,rfl,je,js,an4,o,hn,hV,wj,hT,o8,F⟩:=hp;have o':=o.Ss hk.size;have a4:=o'.aj at_.a (br _) je js;have t4:fA l c wr gj sj wr g4 s4:=o'.stj at_.a.js (br _)<|.refl _ _;have F4:=(qc (S:=λb=>b=c.cb\/b=mb) hk).trans F
     have e4:=EJ.stg hfl at_.a js t4 F4 (λq=>q.elim (λq=>by
      obtain⟨L',hM,_⟩:=EJ;have:=at_.a.je.ct.c 0;rw[<-q,hM.bB 0]at this
      simp at this) (λq=>emb q.symm))
     exact⟨n4,rfl,((at2.and' (o'.drawn hT) a4 t4<|at_.f.trans' F4 λx q=>q.imp (λq=>j8<|j8 q) λq=>ae).ret e4 ⟨hn,by rw[hV,o.kk],wj⟩ (by simp at hbd;omega)).up KC⟩
    obtain⟨x1,x2,x3⟩:=at_.bx T2 nb2;have l3:=at_.a.je.bx.c 4;clear h at_ at2 an iE hmr nmb
    go_wp2
    go_region_with(first
     |(go_at_call 55;go_loud(refine(yE _ (j9 _ _).drew).mono ?_);intro e w4 hp;obtain⟨n4,rfl,hP⟩:=HK _ _ _ (j9 _ _).drew hp;have HP:=ai hP;clear hp hP))
    all_goals
     go_wp2
     go_ret;exact HP
end
def YZ st n f t a(H:∀i(h:i<L.length),Mc L[i]):Mc (.mk 2 st n L f t a):=by
 intro c w nb l cnt g s gb G v h;obtain⟨y,sa,sc,vs,rfl,aN,hr⟩:∃(y:Nat)(sa:Option Addr)(sc:Nat)(vs:Nat->Value),v=Fv 307 (Av #[Nv f,Nv t,Nv a,Nv y,Sv st,Lv sa L.length sc])/\(L=[]\/∃g,sa=some ⟨g,0,none⟩/\g<c.lo/\g<w.heap.size/\∀i,i<L.length->w.cell? ⟨g,i,none⟩=some (vs i))/\∀i(h:i<L.length),PP w (λb=>b<c.lo) L[i]<|vs i:=by
  cases h.pp with
  |up _ _ _ _ _ _ y sa sc vs hu hy aN hr=>exact⟨_,sa,sc,vs,rfl,aN,hr⟩
 have k0:Bq w (w.alloc<|Cv #[Nv f,Nv t,Nv a,Nv y,Sv st,Lv sa L.length sc] 307):=bw _
 have H1:=abU (y:=y) (sc:=sc) H (h.up k0) (aN.imp id λq=>by
  obtain⟨g,q1,q2,q3,q4⟩:=q
  exact⟨g,q1,q2,Nat.lt_of_lt_of_le q3 k0.size,λi hi=>(World.cell?_of_block (a:=⟨g,i,none⟩)<|k0.block g q3).trans<|q4 i hi⟩)<|λi hi=>(hr i hi).af k0
 have K0:=ai k0;have q1:=Vb;have q2:=sK;have q3:=Ng;have q4:=Ni;go_enter func399,ntmps399;go_wp2_with fail;refine H1.mono ?_;intro e w1 hp;have HP:=hp.up K0;obtain⟨n1,-,-,-,-,-,rfl,-⟩|⟨z,vl,vr,rfl,-⟩:=hp
 .clear H1
  go_wp2
  go_ret;exact HP
 .clear H1
  go_wp2
  exact⟨rfl,HP⟩
def Y3:∀(k:Nat)(nd:Nd),nn nd<=k->Mc nd:=by
 intro k
 induction k with
 |zero=>intro nd h;cases nd;simp only[nn]at h;omega|succ k ih=>
  intro nd hk c w nb l cnt g s gb G v h;have hp:=h.pp;have fa:=h.fa;have n1:∀k s n f t a,nn (.mk k s n [] f t a)=1:=λ_ _ _ _ _ _=>Za
  cases hp with
  |any st n f t a=>
   rw[n1]at fa⊢;rw[show jd c.mks (.mk 15 st n [] f t a) G=jf jp λv=>ji (.var v,G) by simp[jd,jm]];exact abS h.aj h.en h.fl ae
  |low st n f t a=>
   rw[n1]at fa⊢;rw[show jd c.mks (.mk 1 st n [] f t a) G=jf jp λv=>ji (.var v,jl G st<|j5<|.var v) by simp[jd,jm]];exact abT h.aj h.en h.fl ae ⟨h.fg.1,h.fg.2.1,h.fg.2.2.1⟩
  |num st n f t a=>
   rw[n1]at fa⊢;rw[show jd c.mks (.mk 3 st n [] f t a) G=ji (j3,G) by simp[jd,jm]];exact yL (j8 ⟨rfl,rfl,_,rfl⟩) h.aj h.en h.fl ae
  |word st n f t a b=>
   rw[n1]at fa⊢;rw[show jd c.mks (.mk 4 st n [] f t a) G=ji (In.iZ,G) by simp[jd,jm]];exact yL (j7<|j8 ⟨rfl,rfl,_,rfl⟩) h.aj h.en h.fl ae
  |unit st n f t a=>
   rw[n1]at fa⊢;rw[show jd c.mks (.mk 5 st n [] f t a) G=ji (In.ya,G) by simp[jd,jm]];exact yL (j7<|j7 ⟨rfl,rfl,rfl⟩) h.aj h.en h.fl ae
  |pr st n x y f t a vx vy hx hy=>exact YX (ih x Al) (ih y Al) h hx hy|up st n L f t a y sa sc vs hu hy aN hr=>exact YZ st n f t a (λi hi=>ih _ (by have:=LS L i hi;simp only[nn]at hk;omega)) c w nb l cnt g s gb G _ h
def afL nd:Mc nd:=Y3 _ nd<|br _
section
variable {cnt:Nat} {p:ja Ty}
def Dsj w c nb l cnt D(p:ja Ty)g(s:jc)fn T xs:=
 (∀W:World,Bq w W->Cq fn #[nA c.eb,.agg xs] W (cL c nb l D p g s cnt W))->Cq 381 #[nA c.eb,.iface T<|.agg xs] w (cL c nb l D p g s cnt w)
def dj:
 (∀{st},Dsj w c nb l cnt D p g s 385 356 #[Nv f,Nv t,.string st])/\
 (∀{tx ty ax ay},Dsj w c nb l cnt D p g s 388 311 #[Nv f,Nv t,.iface tx<|.agg ax,.iface ty<|.agg ay])/\
 (∀{tx ty ax ay},Dsj w c nb l cnt D p g s 393 319 #[Nv f,Nv t,.iface tx<|.agg ax,.iface ty<|.agg ay])/\
 (∀{tx ty tz ax ay az},Dsj w c nb l cnt D p g s 390 317 #[Nv f,Nv t,.iface tx<|.agg ax,.iface ty<|.agg ay,.iface tz<|.agg az])/\
 (∀{n sc sa tx ax},Dsj w c nb l cnt D p g s 391 201 #[Nv f,Nv t,.iface tx<|.agg ax,.slice sa n sc]):=by
 refine⟨?_,?_,?_,?_,?_⟩;all_goals
  intros;intro H;go_enter func381,ntmps381;go_wp2_with fail;refine(H _<|bw _).mono ?_;intro e w1 hp;have HP:=ai<|hp.up<|bw _;obtain⟨n1,-,-,-,-,rfl,-⟩|⟨z,vl,vr,rfl,-⟩:=hp
  .go_wp2
   go_ret;exact HP
  .go_wp2
   exact⟨rfl,HP⟩
def DJ{T}(hq:T=326/\cn=mO/\(∃n:Nat,xs=#[Nv f,Nv t,Nv n])\/T=321/\cn=iA/\(∃n:Bool,xs=#[Nv f,Nv t,.bool n])\/T=324/\cn=iB/\xs=#[Nv f,Nv t])(aj:AJ w c nb l cnt g s)(hc:cnt+1<=900000):Cq 381 #[nA c.eb,.iface T<|.agg xs] w (cL c nb l 1000 (ji<|.aH cn []) g s cnt w):=by
 have hu:mN cn:=by obtain⟨-,rfl,-⟩|⟨-,rfl,-⟩|⟨-,rfl,-⟩:=hq;exact lV;exact jY;exact qM
 have k0:Bq w (w.alloc<|Cv xs T):=bw _;have H1:=SS (aj.af k0) hu hc;have N0:=lO.start (aj.af k0)<|ji<|Ty.aH cn [];have K0:=ai k0;obtain⟨rfl,rfl,n,rfl⟩|⟨rfl,rfl,n,rfl⟩|⟨rfl,rfl,rfl⟩:=hq;all_goals
  go_enter func381,ntmps381;go_wp2_with fail;first|refine qL.mono ?_|refine mZ.mono ?_|refine wG.mono ?_
  rintro e w1⟨rfl,rfl⟩;go_wp2_with fail;refine H1.mono ?_;rintro e w2⟨n2,g2,cA,rfl,a2,t2,c2,r2⟩;have HX:=((N0.step a2 t2).ret (D:=1000) (cnt0:=cnt) r2 ae).up K0
  go_wp2
  go_ret;exact HX
end
structure kR nd c nb l w0 cnt0 g0 s0(Γ:jk)dom v D(q:ja Ty)(P:World->fB->jc->Prop)s cnt g w:Prop where
 h:mB nd c w0 nb l cnt0 g0 s0 Γ dom v
 n:lO c nb l w0 g0 s0 (jh c.mks nd Γ) w g s cnt q
 lv:∀w' g' s' k,AJ w' c nb l k g' s'->fA l c w g s w' g' s'->P w' g' s'
 cn:cnt+D<=cnt0+1000*nn nd
section
variable {cnt D2:Nat} {q2:ja Ty} {P P':World->fB->jc->Prop} {post:Ending->World->Prop}
def kR.start(h:mB nd c w0 nb l cnt0 g0 s0 Γ dom v)(e:jh c.mks nd Γ=q):kR nd c nb l w0 cnt0 g0 s0 Γ dom v (1000*nn nd) q (λ_ _ _=>True) s0 cnt0 g0 w0:=⟨h,⟨.refl h.aj,λo k=>e▸k⟩,λ_ _ _ _ _ _=>trivial,br _⟩
def kR.p(H:kR nd c nb l w0 cnt0 g0 s0 Γ dom v D q P s cnt g w):P w g s:=H.lv w g s _ H.n.n.a<|.refl H.n.n.a.js c l
def kR.hl(H:kR nd c nb l w0 cnt0 g0 s0 Γ dom v D q P s cnt g w):l<aL:=by have:=H.h.fb;rw[aL];omega
def kR.next(H:kR nd c nb l w0 cnt0 g0 s0 Γ dom v D q P s cnt g w)(a1:AJ w1 c nb l ak g1 s1)(t1:fA l c w g s w1 g1 s1)(hq:∀o,q2 s1 o->q s o)(hc:ak+D2<=cnt+D):kR nd c nb l w0 cnt0 g0 s0 Γ dom v D2 q2 P s1 ak g1 w1:=
 ⟨H.h,⟨H.n.n.next a1 t1,λo k=>H.n.p o<|hq o k⟩,λw' g' s' k a t=>H.lv w' g' s' k a<|fA.trans H.n.n.a.js a1.js a.js t1 t,qBw⟩
def kR.add(H:kR nd c nb l w0 cnt0 g0 s0 Γ dom v D q P s cnt g w)(h:∀w' g' s' k,AJ w' c nb l k g' s'->fA l c w g s w' g' s'->P' w' g' s'):kR nd c nb l w0 cnt0 g0 s0 Γ dom v D q (λw g s=>P w g s/\P' w g s) s cnt g w:=⟨H.h,H.n,λw g s k a t=>⟨H.lv w g s k a t,h w g s k a t⟩,H.cn⟩
def kR.rs(H:kR nd c nb l w0 cnt0 g0 s0 Γ dom v D q P s cnt g w)(r:lX l g s m T):kR nd c nb l w0 cnt0 g0 s0 Γ dom v D q (λw g s=>P w g s/\lX l g s m T) s cnt g w:=H.add λ_ _ _ _ _ t=>r.kB H.n.n.a.js t
def kR.af(H:kR nd c nb l w0 cnt0 g0 s0 Γ dom v D q P s cnt g w)(k:Bq w w1):kR nd c nb l w0 cnt0 g0 s0 Γ dom v D q P s cnt g w1:=H.next (H.n.n.a.af k) {fA.refl H.n.n.a.js c l with fr:=qc k} (λ_ h=>h) (br _)
def kR.box{t}(H:kR nd c nb l w0 cnt0 g0 s0 Γ dom v D q P s cnt g w):kR nd c nb l w0 cnt0 g0 s0 Γ dom v D q (λw' g s=>P w' g s/\Bx w' w.heap.size C) s cnt g (w.alloc<|.cells C t):=
 (H.af<|bw _).add λ_ _ _ _ _ u=>(Bx.new w C t).fr u.fr<|H.n.n.a.il<|br _
def kR.no{m}{k:α->ja Ty}(H:kR nd c nb l w0 cnt0 g0 s0 Γ dom v D (jf m k) P s cnt g w)(b:qQ c m g s w e w1):∃f a r,e=LL f a r/\cL c nb l (1000*nn nd) (jh c.mks nd Γ) g0 s0 cnt0 w0 e w1:=by
 have B:=H.n.bad b;obtain⟨z,vl,vr,rfl,-⟩:=b;exact⟨_,_,_,rfl,j7 B⟩
def kR.ex{k}(H:kR nd c nb l w0 cnt0 g0 s0 Γ dom v D (jf (jh c.mks x Γ) k) P s cnt g w)(Hx:iG x)(hx:PE w0 (λb=>b<c.lo) x vx)(sx:ScE c.mks c.nl dom x)(ok:∀T m s' aB g' w',kR nd c nb l w0 cnt0 g0 s0 Γ dom v D2 (k T) (λw g s=>P w g s/\lX l g s m T) s' aB g' w'->post (.returned<|nA m) w')(hD:D2+1000*nn x<=D)(hn:nn x<=nn nd)(bad:∀f a r w',cL c nb l (1000*nn nd) (jh c.mks nd Γ) g0 s0 cnt0 w0 (LL f a r) w'->post (LL f a r) w':=by exact λ_ _ _ _ h=>⟨rfl,h⟩):Cq 381 #[nA c.eb,vx] w post:=by
 refine(Hx c w nb l cnt g s Γ dom vx<|H.h.part H.n.n hx sx qBw hn).mono ?_;rintro e w1(⟨m,g1,s1,ak,T,rfl,p1,a1,t1,c1,r1⟩|hb)
 .exact ok T m s1 ak g1 w1 ((H.next a1 t1 (λo h=>j7 ⟨T,s1,p1,h⟩) ae).rs r1)
 .obtain⟨f,a,r,rfl,B⟩:=H.no hb;exact bad _ _ _ _ B
def kR.eq{k}{Y}(H:kR nd c nb l w0 cnt0 g0 s0 Γ dom v D (jf (jv X Y f t) k) P s cnt g w)(ra:lX l g s a X)(rb:lX l g s b Y)(ok:∀s' g' w',kR nd c nb l w0 cnt0 g0 s0 Γ dom v D (k ()) P s' cnt g' w'->post (.returned<|.tuple #[]) w')(bad:∀f a r w',cL c nb l (1000*nn nd) (jh c.mks nd Γ) g0 s0 cnt0 w0 (LL f a r) w'->post (LL f a r) w':=by exact λ_ _ _ _ h=>⟨rfl,h⟩):Cq 384 #[nA a,nA b,.agg #[Nv f,Nv t]] w post:=by
 refine(Bv H.n.n.a H.hl ra rb f t).mono ?_;rintro e w1(⟨rfl,g1,s1,p1,a1,t1⟩|hb)
 .exact ok s1 g1 w1 (H.next a1 t1 (λo h=>j7 ⟨(),s1,p1,h⟩)<|br _)
 .obtain⟨f,a,r,rfl,B⟩:=H.no hb;exact bad _ _ _ _ B
def kR.ret{X}{m}(H:kR nd c nb l w0 cnt0 g0 s0 Γ dom v D (ji X) P s cnt g w)(r:lX l g s m X):cL c nb l (1000*nn nd) (jh c.mks nd Γ) g0 s0 cnt0 w0 (.returned<|nA m) w:=H.n.ret r qBw
def kR.nde{D3 ak}(H:kR nd c nb l w0 cnt0 g0 s0 Γ dom v D q P s cnt g w)(a1:AJ w1 c nb l ak g1 s)(t1:fA l c w g s w1 g1 s)(hc:ak<=cnt+D3)(r:lX l g1 s m X)(hD:D2+D3<=D):kR nd c nb l w0 cnt0 g0 s0 Γ dom v D2 q (λw g s=>P w g s/\lX l g s m X) s ak g1 w1:=(H.next a1 t1 (λ_ h=>h) ae).rs r
end
section
variable {cnt:Nat} {y z:Nd} {vz:Value}
def abV(Hx:iG x)(Hy:iG y)(h:mB (.mk 8 st n [x,y] f t a) c w nb l cnt g s Γ dom v)(hx:PE w (λb=>b<c.lo) x vx)(hy:PE w (λb=>b<c.lo) y vy):
 Cq 393 #[nA c.eb,.agg #[Nv f,Nv t,vx,vy]] w (cL c nb l (1000*nn (.mk 8 st n [x,y] f t a)) (jh c.mks (.mk 8 st n [x,y] f t a) Γ) g s cnt w):=by
 have en:nn (.mk 8 st n [x,y] f t a)=1+nn x+nn y:=Jg;obtain⟨sx,sy⟩:ScE c.mks c.nl dom x/\ScE c.mks c.nl dom y:=by
  cases h.sc with
  |two _ _ _ _ _ _ _ _ _ _ hx hy=>exact⟨hx,hy⟩|lt _ _ _ _ _ _ _ _ _ _ hc=>omega
 have fa:=h.fa;rw[en]at fa;have H:=kR.start h<|Ec ..
 replace en:=ai en
 clear h;have HX:=ai hx;have HY:=ai hy;obtain⟨tx,ax,rfl⟩:=hx.iface;obtain⟨ty,ay,rfl⟩:=hy.iface;clear hx hy;go_enter func393,ntmps393;go_wp2_with fail;refine H.box.ex (D2:=1000*(1+nn y)) Hx HX sx ?_ o_ o_;intro T1 n1 s1 ak g1 w1 H;have⟨⟨_,b1,b2,b3⟩,_⟩:=H.p;go_wp2_with fail;refine H.ex (D2:=1000) Hy HY sy ?_ ae o_;intro T2 n2 s2 cA g2 w2 H;have cn:=H.cn;go_wp2_with fail;refine(tK H.n.n.a (by rw[uh en]at cn;omega)).mono ?_;rintro e w3⟨n3,g3,rfl,p3,a3,t3,r3,-⟩;have H:=(H.next (D2:=999) a3 t3 (λo h=>Or.inr ⟨_,_,p3,h⟩) ae).rs r3;clear b1 b2 b3 a3 t3 r3;have⟨⟨⟨⟨_,b1,b2,b3⟩,_⟩,_⟩,_⟩:=H.p
 go_wp2
 go_region_with(first
  |(go_at_call 389;go_loud(refine(ac1 (H.n.n.a.af (j9 _ _).drew) H.p.1.2 H.p.2).mono ?_);rintro e w4⟨n4,g4,rfl,a4,t4,r4⟩;have H4:=ai<|(H.af (j9 _ _).drew).nde (D2:=999) (D3:=0) a4 t4 ae r4 ae;have⟨⟨⟨⟨⟨_,d1,d2,d3⟩,_⟩,_⟩,_⟩,_⟩:=H4.p;clear a4 t4 r4)
  |(go_at_call 384;go_loud(refine kR.eq (uh H4) H4.p.1.1.1.2 H4.p.2 ?_);intro s5 g5 w5 H5))
 all_goals
  go_wp2
  go_ret;exact H5.ret H5.p.1.2
def SV(Hx:iG x)(Hy:iG y)(Hz:iG z)(h:mB (.mk 12 st n [x,y,z] f t a) c w nb l cnt g s Γ dom v)(hx:PE w (λb=>b<c.lo) x vx)(hy:PE w (λb=>b<c.lo) y vy)(hz:PE w (λb=>b<c.lo) z vz):
 Cq 390 #[nA c.eb,.agg #[Nv f,Nv t,vx,vy,vz]] w (cL c nb l (1000*nn (.mk 12 st n [x,y,z] f t a)) (jh c.mks (.mk 12 st n [x,y,z] f t a) Γ) g s cnt w):=by
 have en:nn (.mk 12 st n [x,y,z] f t a)=1+nn x+nn y+nn z:=Jg;obtain⟨sx,sy,sz⟩:ScE c.mks c.nl dom x/\ScE c.mks c.nl dom y/\ScE c.mks c.nl dom z:=by
  cases h.sc with
  |ite _ _ _ _ _ _ _ _ _ hx hy hz=>exact⟨hx,hy,hz⟩
 have fa:=h.fa;rw[en]at fa;have H:=kR.start h<|Mn ..
 replace en:=ai en
 clear h;have HX:=ai hx;have HY:=ai hy;have HZ:=ai hz;obtain⟨tx,ax,rfl⟩:=hx.iface;obtain⟨ty,ay,rfl⟩:=hy.iface;obtain⟨tz,az,rfl⟩:=hz.iface;have Ji:=hx.place;have plz:=hz.place;dsimp only[PlF]at Ji plz;clear hx hy hz;go_enter func390,ntmps390;go_wp2_with fail;have H:=H.box (C:=#[Nv f,Nv t,Fv tx<|Av ax,Fv ty<|Av ay,Fv tz<|Av az]) (t:=317);go_cut[]from 7 (λwc=>∃s1 ak g1,kR (.mk 12 st n [x,y,z] f t a) c nb l w cnt g s Γ dom v (1000*(nn y+nn z)+500) (In.andM (In.inf c.mks y Γ) λb=>In.andM (In.inf c.mks z Γ) λd=>In.andM (In.p_ b d (In.ij z)<|In.uQ z) λ_=>In.cS b) (λw' _ _=>Bx w' w.heap.size #[Nv f,Nv t,Fv tx<|Av ax,Fv ty<|Av ay,Fv tz<|Av az]) s1 ak g1 wc)
 case first=>
  have⟨_,c1,c2,c3⟩:=H.p
  go_region_with(first
   |(go_at_call 381;go_loud(refine(H.af (j9 _ _).drew).ex (D2:=1000*(nn y+nn z)+1000) Hx HX sx ?_ o_ o_);intro T1 n1 s1 ak g1 w1 H1;replace H1:=ai H1;have⟨⟨_,d1,d2,d3⟩,_⟩:=H1.p)
   |(go_at_call 125;refine(mZ).mono ?_;rintro e w4⟨rfl,rfl⟩)
   |(go_at_call 379;go_loud(refine(SS H1.n.n.a jY (by have cn:=H1.cn;rw[uh en]at cn;omega)).mono ?_);rintro e w2⟨n2,g2,cA,rfl,a2,t2,Zd,r2⟩;have H2:=ai<|kR.nde (D2:=1000*(nn y+nn z)+500) (uh H1) a2 t2 Zd r2 ae;have⟨⟨⟨_,e1,e2,e3⟩,_⟩,_⟩:=H2.p;clear a2 t2 r2)
   |(go_at_call 403;refine(cW _ _).mono ?_;rintro e w5⟨rfl,k5⟩;have H5:=ai<|kR.af (uh H2) k5;clear k5)
   |(go_at_call 384;go_loud(refine kR.eq (uh H5) H5.p.1.2 H5.p.2 ?_);intro s6 g6 w6 H6))
  all_goals
   go_wp2_with fail
   go_meet
   case rel=>exact⟨_,_,_,H6.h,H6.n,λw' g' s' k a t=>(H6.lv w' g' s' k a t).1.1.2,H6.cn⟩
 case rest=>
  clear H;obtain⟨s1,ak,g1,H⟩:=hcut;have⟨b1,b2,b3⟩:=H.p;go_wp2_with fail;refine H.ex (D2:=1000*nn z+500) Hy HY sy ?_ ae o_;intro T2 n2 s2 cA g2 w2 H;clear b1 b2 b3;have⟨⟨b1,b2,b3⟩,_⟩:=H.p;go_wp2_with fail;refine H.ex (D2:=500) Hz HZ sz ?_ ae o_;intro T3 n3 s3 pG g3 w3 H;clear b1 b2 b3;have⟨⟨⟨b1,b2,b3⟩,_⟩,_⟩:=H.p;go_wp2_with fail;refine(cW _ _).mono ?_;rintro e w4⟨rfl,k4⟩;have H:=H.af k4;go_wp2_with fail;refine H.eq H.p.1.2 H.p.2 ?_;intro s5 g5 w5 H
  go_wp2
  go_ret;exact H.ret H.p.1.2
end
section
variable {cnt:Nat}
def Y4{y}(Hx:iG x)(h:mB (.mk 14 st n [x,y] f t a) c w nb l cnt g s Γ dom v)(hx:PE w (λb=>b<c.lo) x vx)(hy:PT w (λb=>b<c.lo) y vy):
 Cq 388 #[nA c.eb,.agg #[Nv f,Nv t,vx,vy]] w (cL c nb l (1000*nn (.mk 14 st n [x,y] f t a)) (jh c.mks (.mk 14 st n [x,y] f t a) Γ) g s cnt w):=by
 have en:nn (.mk 14 st n [x,y] f t a)=1+nn x+nn y:=Jg;obtain⟨sx,hv,hz⟩:ScE c.mks c.nl dom x/\vars [] (aI []<|es y).1=[]/\size (aI []<|es y).1<=1000:=by
  cases h.sc with
  |of _ _ _ _ _ _ _ _ hx hv hz _=>exact⟨hx,hv,hz⟩|two _ _ _ _ _ _ _ _ _ hk=>omega|lt _ _ _ _ _ _ _ _ _ _ hk=>omega
 have⟨n0,em⟩:=acD hy [] (λm o=>by have:=In.bu.2 o;rw[hv]at this;cases this) hz;have ei:=Yt c.mks st n x y f t a Γ hv;rw[em]at hz hv ei;obtain⟨M,hM⟩:∃M,M=m0 y:=⟨_,rfl⟩;have yE:=acE y n0;rw[C7]at yE;rw[<-hM]at hv hz yE ei;dsimp only at hv hz ei;have hT:∀v,¬aD v M:=λv o=>by have:=In.bu.2 o;rw[hv]at this;cases this
 have fa:=h.fa;rw[en]at fa;have hny:=tq y;have H:=kR.start h ei;have HL:∀b,b<c.lo->¬jS c g b:=λb p=>h.aj.Uq p
 replace en:=ai en
 clear h ei hM em;have HX:=ai hx;have HY:=ai hy;obtain⟨tx,ax,rfl⟩:=hx.iface;obtain⟨ty,ay,rfl⟩:=hy.bJ;have Ji:=hx.place;dsimp only[PlF]at Ji;clear hx hy;go_enter func388,ntmps388;go_wp2_with fail;refine H.box.ex (D2:=2000) Hx HX sx ?_ o_ o_;intro T1 n1 s1 ak g1 w1 H;have⟨⟨_,b1,b2,b3⟩,_⟩:=H.p;have fr1:=H.n.n.t.fr;have HO:=yE w1 _ _<|HY.move (Q:=λb=>b<c.lo) fr1.size (λb p q=>fr1.block b q<|HL b p)<|λ_ p _=>p;go_wp2_with fail;refine HO.mono ?_;rintro e w2⟨u2,rfl,uy,F2⟩;obtain⟨tu,xu,rfl⟩:=uy.iface;have zc:=H.n.n.a.je.ct.z;have H:=H.af<|F2.none λ_ q=>q;have cn:=H.cn;go_wp2_with fail;refine(YS H.n.n.a uy (λb p=>by have:w1.heap.size<=b:=p;omega) hz hT (by rw[uh en]at cn;omega)).mono ?_;rintro e w3⟨n3,g3,pG,rfl,a3,t3,c3,r3⟩;have H:=H.nde (D2:=500) a3 t3 c3 r3 ae;clear b1 b2 b3 a3 t3 r3;have⟨⟨⟨_,b1,b2,b3⟩,_⟩,_⟩:=H.p;go_wp2_with fail;refine(cW _ _).mono ?_;rintro e w4⟨rfl,k4⟩;have H:=H.af k4;go_wp2_with fail;refine H.eq H.p.1.2 H.p.2 ?_;intro s5 g5 w5 H
 go_wp2
 go_ret;exact H.ret H.p.2
end
end Go.Proofs.YtfnkchdeheeiiaaGreatDoor
