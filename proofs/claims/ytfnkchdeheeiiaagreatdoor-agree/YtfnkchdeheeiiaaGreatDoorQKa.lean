import Derived.Test.YtfnkchdeheeiiaaGreatDoorQBo
import Derived.Test.YtfnkchdeheeiiaaGreatDoorQOg
import Derived.Test.YtfnkchdeheeiiaaGreatDoorQXu
set_option linter.all false
set_option maxRecDepth 100000
set_option maxHeartbeats 8000000
namespace Go.Proofs.YtfnkchdeheeiiaaGreatDoor
open _root_.List renaming mem_cons->ja,mem_append->jc,append_nil->jd,getElem?_eq_getElem->jf,not_mem_nil->jh,getD_eq_getElem?_getD->ji,getElem_mem->jj,nil_append->jk
open Or renaming inr->jl,inl->jm
open _root_.Nat renaming not_lt_zero->jo,zero_le->jp
open Go.RowKit.Below renaming refl->jq
open Pu renaming Tok->jt,gP->ju,a_->jv,gI->jx,Ei->jy
open Go Go.RowKit Proofs.Tryz
variable {s:BA} {mk:BA->Option Nat} {mks:In.Mks} {nl:List BA} {L:List UInt8} {xs:List Value} {part sm uA:M Nd} {base d k sort xb:Nat} {nd x y:Nd} {P:Nd->Prop} {t:jt} {v:Value} {w w':World}
def xX(s:BA):=∃x r,s.toList=x::r/\jx x.toNat=true/\(∀y∈r,jv y.toNat=true)/\ju ⟨(x::r).toArray⟩=false
def Iu(s:BA):=∃x r,s.toList=x::r/\jy x.toNat=true/\(∀y∈r,jv y.toNat=true)
def NmV(s:BA):=∃x r,s.toList=39::x::r/\jx x.toNat=true/\(∀y∈r,jv y.toNat=true)/\ju ⟨(x::r).toArray⟩=false
structure agk(t:jt):Prop where
 low:t.kind=1->xX t.text
 up:t.kind=2->Iu t.text
 var:t.kind=3->NmV t.text
 num:t.kind=4->yQ t.text<1000000000
 sz:t.text.size<=400
structure dU(T:List jt)e:Prop where
 en:(tk T e).kind=7
 tok:∀k,agk<|tk T k
 pos:0<T.length
inductive sI:Nd->Prop where
 |var(s:BA)(n f t a:Nat):NmV s->s.size<=400->n=0->sI (.mk 16 s n [] f t a)
 |up(s:BA)(n:Nat)(L:List Nd)(f t a:Nat):Iu s->s.size<=400->n=0->(∀x∈L,sI x)->sI (.mk 2 s n L f t a)
 |pr(x y:Nd)(f t a:Nat):sI x->sI y->sI (.mk 6 ls 0 [x,y] f t a)
 |fn(x y:Nd)(f t a:Nat):sI x->sI y->sI (.mk 17 ls 0 [x,y] f t a)
inductive Bn:Nd->Prop where
 |any(s:BA)(f t a:Nat):s.size<=400->Bn (.mk 15 s 0 [] f t a)
 |low(s:BA)(f t a:Nat):xX s->s.size<=400->Bn (.mk 1 s 0 [] f t a)
 |num(s:BA)(n f t a:Nat):n<1000000000->s.size<=400->Bn (.mk 3 s n [] f t a)
 |word(s:BA)(f t a:Nat):s.toList=gd.toList\/s.toList=dH.toList->s.size<=400->Bn (.mk 4 s 0 [] f t a)
 |unit(f t a:Nat):Bn (.mk 5 ls 0 [] f t a)
 |pr(x y:Nd)(f t a:Nat):Bn x->Bn y->Bn (.mk 6 ls 0 [x,y] f t a)
 |up(s:BA)(n:Nat)(L:List Nd)(f t a:Nat):Iu s->s.size<=400->n=0->(∀x∈L,Bn x)->Bn (.mk 2 s n L f t a)
inductive eK:Nd->Prop where
 |low(s:BA)(f t a:Nat):xX s->s.size<=400->eK (.mk 1 s 0 [] f t a)
 |up(s:BA)(f t a:Nat):Iu s->s.size<=400->eK (.mk 2 s 0 [] f t a)
 |num(s:BA)(n f t a:Nat):n<1000000000->s.size<=400->eK (.mk 3 s n [] f t a)
 |word(s:BA)(f t a:Nat):s.toList=gd.toList\/s.toList=dH.toList->s.size<=400->eK (.mk 4 s 0 [] f t a)
 |unit(f t a:Nat):eK (.mk 5 ls 0 [] f t a)
 |pr(x y:Nd)(f t a:Nat):eK x->eK y->eK (.mk 6 ls 0 [x,y] f t a)
 |of(x y:Nd)(f t a:Nat):eK x->sI y->eK (.mk 14 ls 0 [x,y] f t a)
 |op(s:BA)(x y:Nd)(f t a:Nat):s=kq\/s=fe\/s=gM\/s=eQ->eK x->eK y->eK (.mk 7 s 0 [x,y] f t a)
 |call(x y:Nd)(f t a:Nat):eK x->eK y->eK (.mk 8 ls 0 [x,y] f t a)
 |fn(s:BA)(x:Nd)(f t a:Nat):xX s->s.size<=400->eK x->eK (.mk 9 s 0 [x] f t a)
 |lt(s:BA)(x z:Nd)(f t a:Nat):xX s->s.size<=400->eK x->eK z->eK (.mk 10 s 0 [x,z] f t a)
 |ltr(s s':BA)(x z:Nd)(f t a f' t' a':Nat):xX s->s.size<=400->xX s'->s'.size<=400->eK x->eK z->eK (.mk 11 s 0 [.mk 9 s' 0 [x] f' t' a',z] f t a)
 |ite(x y z:Nd)(f t a:Nat):eK x->eK y->eK z->eK (.mk 12 ls 0 [x,y,z] f t a)
 |mt(x:Nd)(A:List (Nd×Nd))(f t a:Nat):A≠[]->eK x->(∀p∈A,Bn p.1)->(∀p∈A,eK p.2)->eK (.mk 13 ls 0 (x::aU A) f t a)
def Fn3(nd:Nd):=∃s x f t a,nd=.mk 9 s 0 [x] f t a/\xX s/\s.size<=400/\eK x
def Fn3.ex(h:Fn3 nd):eK nd:=by
 obtain⟨s,x,f,t,a,rfl,h1,h2,h3⟩:=h;exact .fn s x f t a h1 h2 h3
def aiY(T:List jt)f:=∃j,f=dM (tk T j)
def jV{α:Type}(T:List jt)(r:Except Fl (α×Nat))(Q:α->Nat->Prop):Prop:=match r with
 |.error f=>aiY T f|.ok (a,k')=>Q a k'
section
variable {T:List jt} {e:Nat} {α β:Type}
theorem jV.aq{m}{f}{k}{Q:α->Nat->Prop}{R:β->Nat->Prop}(h:jV T (m k) Q)(h2:∀a k',Q a k'->jV T (f a k') R):jV T (Go.Proofs.YtfnkchdeheeiiaaGreatDoor.aq m f k) R:=by
 rw[Go.Proofs.YtfnkchdeheeiiaaGreatDoor.aq]
 cases hm:m k with
 |error e=>rw[hm]at h;exact h|ok p=>rw[hm]at h;exact h2 _ _ h
def jV.mono{r}{Q R:α->Nat->Prop}(h:jV T r Q)(h2:∀a k',Q a k'->R a k'):jV T r R:=by
 cases r with
 |error f=>exact h|ok p=>exact h2 _ _ h
def bZ{Q}:jV T (.error (dM<|tk T k):Except Fl (α×Nat)) Q:=⟨k,rfl⟩
def dU.step(h:dU T e){k}(hk:k<=e)(hn:(tk T k).kind≠7):k+1<=e:=by
 have:k≠e:=λq=>hn (by rw[q];exact h.en);omega
def qU(h:bh t s=true):t.kind=5:=by grind[bh]
def aI(h:dU T e)(hk:k<=e)s:jV T (bu T s k) (λ_ k'=>k'=k+1/\k'<=e):=by
 rw[bu];split
 .rename_i q;exact⟨rfl,h.step hk (by rw[qU q];decide)⟩
 .exact bZ
def dN(h:dU T e)(hk:k<=e)n(hn:n≠7):jV T (db T n k) (λt k'=>t=tk T k/\t.kind=n/\k'=k+1/\k'<=e):=by
 rw[db];split
 .rename_i q;have q':(tk T k).kind=n:=by simpa using q
  exact⟨rfl,q',rfl,h.step hk (by rw[q'];exact hn)⟩
 .exact bZ
def Sp e(P:Nd->Prop)k a k':=P a/\k<k'/\k'<=e/\nn a+1<=2*(k'-k)
def oK(T:List jt)e P(m:M Nd):=∀k,k<=e->jV T (m k) (Sp e P k)
def mg(h:dU T e)(hk:k<=e)mk:jV T (rA T mk k) (λa k'=>a=mk k'/\k'=k+1/\k'<=e):=
 (aI h hk kx).aq λ_ k' q=>⟨rfl,q.1,q.2⟩
structure Ej(T:List jt)sort(P:Nd->Prop):Prop where
 leaf:∀k,aO (tk T k) sort=true->bh (tk T k) yR=false->P (cE<|tk T k)
 unit:sort≠1->∀f t a,P<|.mk 5 ls 0 [] f t a
 pair:∀x y f t a,P x->P y->P (.mk 6 ls 0 [x,y] f t a)
 of:sort=3->∀x y f t a,P x->sI y->P (.mk 14 ls 0 [x,y] f t a)
def yS{c}(q:bH t=c):(c=1->t.kind=1)/\(c=2->t.kind=2)/\(c=16->t.kind=3)/\(c=3->t.kind=4):=by grind[bH]
def yT(h:aO t sort=true):t.kind≠7:=by
 intro h7;have e1:bh t gd=false:=by simp[bh,h7]
 have e2:bh t dH=false:=by simp[bh,h7]
 have e3:bh t yU=false:=by simp[bh,h7]
 have e4:bh t yR=false:=by simp[bh,h7]
 have hl:bH t=0:=by rw[bH];rw[e1,e2,e3];simp[h7]
 rw[aO]at h;rw[e4,hl]at h;revert h;simp
def oL(h:dU T e)(hs:Ej T sort P)(hp:oK T e P part)(ht:oK T e sI uA):oK T e P (aJ T part uA sort):=by
 intro k hk;rw[aJ];split
 .rename_i hb;have uB:=h.step hk<|yT hb;split
  .rw[g_];split
   .rename_i hc;have:=h.step uB qBn;exact⟨hs.unit hc.1 _ _ _,ae,this,yL⟩
   .refine(hp (k+1) uB).aq ?_;rintro x k1⟨p1,p2,p3,p4⟩;rw[kB];split
    .rename_i hc;have mY:=h.step p3 Bo;refine(hp (k1+1) mY).aq ?_;rintro y k2⟨q1,q2,q3,q4⟩;refine(mg h q3 _).mono ?_;rintro a k3⟨rfl,rfl,r3⟩;exact⟨hs.pair _ _ _ _ _ p1 q1,ae,r3,yL⟩
    .split
     .rename_i hc;have mY:=h.step p3 qBn;refine(ht (k1+1) mY).aq ?_;rintro y k2⟨q1,q2,q3,q4⟩;refine(mg h q3 _).mono ?_;rintro a k3⟨rfl,rfl,r3⟩;exact⟨hs.of hc.1 _ _ _ _ _ p1 q1,ae,r3,yL⟩
     .refine(mg h p3 _).mono ?_;rintro a k3⟨rfl,rfl,r3⟩;exact⟨p1,ae,r3,ae⟩
  .rename_i ho;have hn:nn (cE<|tk T k)=1:=by simp[cE,nn,ck]
   exact⟨hs.leaf k hb<|by simpa using ho,ae,uB,ae⟩
 .exact bZ
def X7 x y u:nn (x.add y u)=nn x+nn y:=by
 obtain⟨k,s,n,L,f,t,a⟩:=x;simp[Nd.add,nn,xY,ck];omega
def GX(P:Nd->Prop)(nd:Nd):=∃s L f t a,nd=.mk 2 s 0 L f t a/\Iu s/\s.size<=400/\∀x∈L,P x
def GX.add(h:GX P x)(hy:P y)u:GX P (x.add y u):=by
 obtain⟨s,L,f,t,a,rfl,h1,h2,h3⟩:=h
 exact⟨s,L++[y],f,u,a,rfl,h1,h2,λz hz=>by
  obtain q|q:=List.mem_append.1 hz
  .exact h3 z q
  .rw[List.mem_singleton.1 q];exact hy⟩
def uC(h:dU T e){sort:Nat}{P:Nd->Prop}{sm:M Nd}(hm:oK T e P sm):∀f x k,k<=e->GX P x->jV T (cQ T sm sort f x k) (λa k'=>GX P a/\k<=k'/\k'<=e/\nn a<=nn x+2*(k'-k))
 |0,x,k,hk,hx=>⟨hx,br _,hk,ae⟩|f+1,x,k,hk,hx=>by
  unfold cQ;split
  .refine(hm k hk).aq ?_;rintro y k1⟨p1,p2,p3,p4⟩;refine(uC h hm f _ k1 p3<|hx.add p1 _).mono ?_;rintro a k2⟨q1,q2,q3,q4⟩;rw[X7]at q4;exact⟨q1,ae,q3,ae⟩
  .exact⟨hx,br _,hk,ae⟩
def Po(h:dU T e)(hu:∀nd,GX P nd->P nd)(hm:oK T e P (aJ T part uA sort)):oK T e P (gh T (aJ T part uA sort) sort):=by
 intro k hk;rw[gh];split
 .rename_i h2;have Ek:(tk T k).kind=2:=by simpa using h2
  have hsm:aJ T part uA sort k=.error (dM<|tk T k)\/aJ T part uA sort k=.ok (cE<|tk T k,k+1):=by
   rw[aJ];split
   .rw[if_neg (by rw[bh];simp[Ek])];exact jl rfl
   .exact jm rfl
  obtain q|q:=hsm
  .rw[aq];rw[q];exact bZ
  .rw[aq];rw[q];have uB:=h.step hk (by rw[Ek];decide);refine(uC h hm T.length _ (k+1) uB ?_).mono ?_
   .exact⟨(tk T k).text,[],(tk T k).ak,(tk T k).to,(tk T k).ak,by simp[cE,bH,Ek,eG],(h.tok k).up Ek,(h.tok k).sz,ag⟩
   .rintro a k'⟨q1,q2,q3,q4⟩;have:nn (cE<|tk T k)=1:=by simp[cE,nn,ck]
    exact⟨hu _ q1,ae,q3,ae⟩
 .exact hm k hk
def X8(h:dU T e):Ej T 1 sI:=by
 refine⟨λk hb ho=>?_,λq=>absurd rfl q,λx y f t a hx hy=>.pr x y f t a hx hy,λq=>mO⟩;have g:=h.tok k;rw[aO]at hb;rw[ho]at hb;simp at hb;rw[cE];obtain q|q:=hb
 .rw[q];have h3:=(yS q).2.2.1 rfl;exact .var _ _ _ _ _ (g.var h3) g.sz (by simp[eG,h3])
 .rw[q];have h3:=(yS q).2.1 rfl;exact .up _ _ _ _ _ _ (g.up h3) g.sz (by simp[eG,h3]) ag
def GX.ty(h:GX sI nd):sI nd:=by obtain⟨s,L,f,t,a,rfl,h1,h2,h3⟩:=h;exact .up s 0 L f t a h1 h2 rfl h3
def GX.pa(h:GX Bn nd):Bn nd:=by obtain⟨s,L,f,t,a,rfl,h1,h2,h3⟩:=h;exact .up s 0 L f t a h1 h2 rfl h3
def El(h:dU T e):∀n,oK T e sI<|fy T n
 |0=>λk hk=>bZ|n+1=>λk hk=>by
  have ih:=El h n;rw[fy];refine(Po h (λ_=>GX.ty) (oL h (X8 h) ih ih) k hk).aq ?_;rintro x k1⟨p1,p2,p3,p4⟩;rw[lI];split
  .rename_i hc;have mY:=h.step p3 Bo;refine(ih (k1+1) mY).aq ?_;rintro y k2⟨q1,q2,q3,q4⟩;exact⟨.fn _ _ _ _ _ p1 q1,ae,q3,yL⟩
  .exact⟨p1,p2,p3,p4⟩
def CG(h:bH t=4):t.text.toList=gd.toList\/t.text.toList=dH.toList:=by grind[bH,bh,toList_mk]
def kC(h:bH t≠3):eG t=0:=by grind[bH,eG]
def Pp{p:Prop}(h:p:=by
 intro c q hc;have:=yS q;obtain rfl|rfl|rfl:=hc
 .exact this.1 rfl
 .exact this.2.1 rfl
 .exact this.2.2.2 rfl):p:=h
def Pq{p:Prop}(h:p:=by
 rw[q];have h4:(tk T k).kind=4:=hk 3 q ae
 exact .num _ _ _ _ _ (by unfold eG;rw[if_pos h4];exact g.num h4) g.sz):p:=h
def aiZ(h:dU T e):Ej T 2 Bn:=by
 refine⟨λk hb ho=>?_,λ_ f t a=>.unit f t a,λx y f t a hx hy=>.pr x y f t a hx hy,λq=>mO⟩;have g:=h.tok k;rw[aO]at hb;rw[ho]at hb;simp at hb;rw[cE];have hk:∀c,bH (tk T k)=c->c=1\/c=2\/c=3->(tk T k).kind=if c=3 then 4 else c:=by
  exact Pp
 rcases hb with(((q|q)|q)|q)|q
 .rw[kC ae,q];exact .any _ _ _ _ g.sz
 .rw[kC ae,q];exact .low _ _ _ _ (g.low<|hk 1 q ae) g.sz
 .rw[kC ae,q];exact .up _ _ _ _ _ _ (g.up<|hk 2 q ae) g.sz rfl ag
 .exact Pq
 .rw[kC ae,q];exact .word _ _ _ _ (CG q) g.sz
def ai0(h:dU T e):Ej T 3 eK:=by
 refine⟨λk hb ho=>?_,λ_ f t a=>.unit f t a,λx y f t a hx hy=>.pr x y f t a hx hy,λ_ x y f t a hx hy=>.of x y f t a hx hy⟩;have g:=h.tok k;rw[aO]at hb;rw[ho]at hb;simp at hb;rw[cE];have hk:∀c,bH (tk T k)=c->c=1\/c=2\/c=3->(tk T k).kind=if c=3 then 4 else c:=by
  exact Pp
 rcases hb with((q|q)|q)|q
 .rw[kC ae,q];exact .low _ _ _ _ (g.low<|hk 1 q ae) g.sz
 .rw[kC ae,q];exact .up _ _ _ _ (g.up<|hk 2 q ae) g.sz
 .exact Pq
 .rw[kC ae,q];exact .word _ _ _ _ (CG q) g.sz
def X9(h:dU T e):∀n,oK T e Bn<|du T n
 |0=>λk hk=>bZ|n+1=>λk hk=>by
  rw[du];exact Po h (λ_=>GX.pa) (oL h (aiZ h) (X9 h n)<|λk _=>bZ) k hk
def Em{p:Prop}(h:p:=by
 rintro a k2⟨q1,q2,q3,q4⟩;simp only[nn,ck]at q4
 exact⟨q1,ae,q3,ae⟩):p:=h
def mh(h:dU T e){sm:M Nd}(hm:oK T e eK sm)(ak:Nat):∀f x k,k<=e->eK x->jV T (gi T sm ak f x k) (λa k'=>eK a/\k<=k'/\k'<=e/\nn a<=nn x+2*(k'-k))
 |0,x,k,hk,hx=>⟨hx,br _,hk,ae⟩|f+1,x,k,hk,hx=>by
  unfold gi;split
  .refine(hm k hk).aq ?_;rintro y k1⟨p1,p2,p3,p4⟩;refine(mh h hm ak f _ k1 p3<|.call _ _ _ _ _ hx p1).mono ?_;exact Em
  .exact⟨hx,br _,hk,ae⟩
def uD(h:dU T e){sm:M Nd}(hm:oK T e eK sm)(ak:Nat):∀f x k,k<=e->eK x->jV T (gQ T sm ak f x k) (λa k'=>eK a/\k<=k'/\k'<=e/\nn a<=nn x+2*(k'-k))
 |0,x,k,hk,hx=>⟨hx,br _,hk,ae⟩|f+1,x,k,hk,hx=>by
  unfold gQ;split
  .rename_i hc;refine(hm (k+1)<|h.step hk Bo).aq ?_;rintro y k1⟨p1,p2,p3,p4⟩;refine(uD h hm ak f _ k1 p3<|.op _ _ _ _ _ _ ag hx p1).mono ?_;exact Em
  .exact⟨hx,br _,hk,ae⟩
def X_(h:bh t s=true):t.text=s:=by grind[bh,toList_inj]
def Iw(h:dU T e){sm:M Nd}(hm:oK T e eK sm)(ak:Nat):∀f x k,k<=e->eK x->jV T (n8 T sm ak f x k) (λa k'=>eK a/\k<=k'/\k'<=e/\nn a<=nn x+2*(k'-k))
 |0,x,k,hk,hx=>⟨hx,br _,hk,ae⟩|f+1,x,k,hk,hx=>by
  unfold n8;split
  .rename_i hc;have h5:=hc.elim qU qU;refine(hm (k+1)<|h.step hk (by rw[h5];decide)).aq ?_;rintro y k1⟨p1,p2,p3,p4⟩;refine(Iw h hm ak f _ k1 p3<|.op _ _ _ _ _ _ (by obtain q|q:=hc<;>rw[X_ q]<;>simp) hx p1).mono ?_;exact Em
  .exact⟨hx,br _,hk,ae⟩
def kE{F:Nat->Nd->M Nd}(hm:oK T e eK sm)(hF:∀fr x k,k<=e->eK x->jV T (F fr x k) (λa k'=>eK a/\k<=k'/\k'<=e/\nn a<=nn x+2*(k'-k))):oK T e eK (λk=>aq sm (F (tk T k).ak) k):=by
 intro k hk;refine(hm k hk).aq ?_;rintro x k1⟨p1,p2,p3,p4⟩;refine(hF _ x k1 p3 p1).mono ?_;rintro a k2⟨q1,q2,q3,q4⟩;exact⟨q1,ae,q3,ae⟩
def agl(h:dU T e)(hm:oK T e eK sm):oK T e eK (sJ T<|eU T<|dn T sm):=
 kE (kE (kE hm<|λfr x k=>mh h hm fr T.length x k)<|λfr x k=>uD h (kE hm<|λfr x k=>mh h hm fr T.length x k) fr T.length x k) (λfr x k=>Iw h (kE (kE hm<|λfr x k=>mh h hm fr T.length x k)<|λfr x k=>uD h (kE hm<|λfr x k=>mh h hm fr T.length x k) fr T.length x k) fr T.length x k)
def acX(h:dU T e)(hm:oK T e eK sm):oK T e eK (mi T sm):=by
 intro k hk;rw[mi];refine(hm k hk).aq ?_;rintro x k1⟨p1,p2,p3,p4⟩;show jV T (if _ then _ else _) _;split
 .rename_i hc;refine(hm (k1+1)<|h.step p3 Bo).aq ?_;rintro y k2⟨q1,q2,q3,q4⟩;exact⟨.op _ _ _ _ _ _ ag p1 q1,ae,q3,yL⟩
 .exact⟨p1,p2,p3,p4⟩
def X'(h:dU T e){ex}(hm:oK T e eK ex):oK T e Fn3 (oM T ex):=by
 intro k hk;rw[oM];refine(aI h hk En).aq ?_;rintro _ k1⟨rfl,p1⟩;refine(dN h p1 1 aH).aq ?_;rintro t k2⟨rfl,t1,rfl,p2⟩;refine(aI h p2 kG).aq ?_;rintro _ k3⟨rfl,p3⟩;refine(hm _ p3).aq ?_;rintro x k4⟨q1,q2,q3,q4⟩;exact⟨⟨_,x,_,_,_,rfl,(h.tok _).low t1,(h.tok _).sz,q1⟩,ae,q3,yL⟩
def B3(b:Nat×jt×Nd):Prop:=xX b.2.1.text/\b.2.1.text.size<=400/\(b.1=10/\eK b.2.2\/b.1=11/\Fn3 b.2.2)
def yV(h:dU T e){ex}(hm:oK T e eK ex)(hk:k<=e):jV T (bM T ex k) (λb k'=>B3 b/\k<k'/\k'<=e/\nn b.2.2+3<=2*(k'-k)):=by
 rw[bM];refine(aI h hk rB).aq ?_;rintro _ k1⟨rfl,p1⟩;show jV T (if _ then _ else _) _;split
 .rename_i hc;refine(dN h (h.step p1 Bo) 1 aH).aq ?_;rintro t k2⟨rfl,t1,rfl,p2⟩;refine(aI h p2 BI).aq ?_;rintro _ k3⟨rfl,p3⟩;refine(X' h hm _ p3).aq ?_;rintro x k4⟨q1,q2,q3,q4⟩;exact⟨⟨(h.tok _).low t1,(h.tok _).sz,jl ⟨rfl,q1⟩⟩,ae,q3,bP⟩
 .refine(dN h p1 1 aH).aq ?_;rintro t k2⟨rfl,t1,rfl,p2⟩;refine(aI h p2 BI).aq ?_;rintro _ k3⟨rfl,p3⟩;refine(hm _ p3).aq ?_;rintro x k4⟨q1,q2,q3,q4⟩;exact⟨⟨(h.tok _).low t1,(h.tok _).sz,jm ⟨rfl,q1⟩⟩,ae,q3,bP⟩
def TP(h:dU T e){ex}(hm:oK T e eK ex):oK T e eK (il T ex):=by
 intro k hk;rw[il];refine(aI h hk kIf).aq ?_;rintro _ k1⟨rfl,p1⟩;refine(hm _ p1).aq ?_;rintro x k2⟨a1,a2,a3,a4⟩;refine(aI h a3 Pr).aq ?_;rintro _ k3⟨rfl,p3⟩;refine(hm _ p3).aq ?_;rintro y k4⟨b1,b2,b3,b4⟩;refine(aI h b3 Ps).aq ?_;rintro _ k5⟨rfl,p5⟩;refine(hm _ p5).aq ?_;rintro z k6⟨c1,c2,c3,c4⟩;exact⟨.ite _ _ _ _ _ _ a1 b1 c1,ae,c3,yL⟩
def agm(h:dU T e){ex}(hm:oK T e eK ex):oK T e eK (li T ex):=by
 intro k hk;rw[li];refine(yV h hm hk).aq ?_;rintro⟨c,t,x⟩k1⟨⟨s1,s2,s3⟩,p2,p3,p4⟩;refine(aI h p3 kIn).aq ?_;rintro _ k2⟨rfl,p5⟩;refine(hm _ p5).aq ?_;rintro z k3⟨q1,q2,q3,q4⟩;refine⟨?_,ae,q3,by simp[nn,ck]at p4⊢;omega⟩;obtain⟨e1,e2⟩|⟨e1,e2⟩:=s3
 .simp only at e1 e2⊢;rw[e1];exact .lt _ _ _ _ _ _ s1 s2 e2 q1
 .simp only at e1 e2⊢;rw[e1];obtain⟨s',x',f',t',a',rfl,h1,h2,h3⟩:=e2;exact .ltr _ _ _ _ _ _ _ _ _ _ s1 s2 h1 h2 h3 q1
def Ix(h:dU T e){pa ex:M Nd}(hp:oK T e Bn pa)(hm:oK T e eK ex):∀f l k,k<=e->jV T (kH T pa ex f l k) (λl' k'=>∃A,l'=l++aU A/\(∀p∈A,Bn p.1)/\(∀p∈A,eK p.2)/\(f≠0->A≠[])/\k<=k'/\k'<=e/\ck l'<=ck l+2*(k'-k))
 |0,l,k,hk=>⟨[],by simp[aU],ag,ag,ag,br _,hk,ae⟩|f+1,l,k,hk=>by
  rw[kH];refine(hp k hk).aq ?_;rintro p k1⟨a1,a2,a3,a4⟩;refine(aI h a3 kG).aq ?_;rintro _ k2⟨rfl,p2⟩;refine(hm _ p2).aq ?_;rintro x k3⟨b1,b2,b3,b4⟩;show jV T (if _ then _ else _) _;have hl:ck (l++[p,x])=ck l+(nn p+nn x):=by simp[xY,ck]
  split
  .rename_i hc;refine(Ix h hp hm f _ (k3+1)<|h.step b3 Bo).mono ?_;rintro l' k4⟨A,rfl,c1,c2,c3,c4,c5,c6⟩;refine⟨(p,x)::A,by simp[aU],λq hq=>?_,λq hq=>?_,ag,ae,c5,by rw[hl]at c6;omega⟩
   .obtain rfl|hq:=List.mem_cons.1 hq
    .exact a1
    .exact c1 q hq
   .obtain rfl|hq:=List.mem_cons.1 hq
    .exact b1
    .exact c2 q hq
  .exact⟨[(p,x)],by simp[aU],by simp[a1],by simp[b1],ag,ae,b3,by rw[hl];omega⟩
def Ya(h:dU T e){pa ex}(hp:oK T e Bn pa)(hm:oK T e eK ex):oK T e eK (lJ T pa ex):=by
 intro k hk;rw[lJ];refine(aI h hk oN).aq ?_;rintro _ k1⟨rfl,p1⟩;refine(hm _ p1).aq ?_;rintro x k2⟨a1,a2,a3,a4⟩;refine(aI h a3 Pt).aq ?_;rintro _ k3⟨rfl,p3⟩;refine(Ix h hp hm T.length [x] _ p3).aq ?_;rintro l k4⟨A,rfl,c1,c2,c3,c4,c5,c6⟩;refine(aI h c5 acY).aq ?_;rintro _ k5⟨rfl,p5⟩;exact⟨.mt x A _ _ _ (c3 (by have:=h.pos;omega)) a1 c1 c2,ae,p5,by simp[nn,ck]at c6⊢;omega⟩
def Ep(h:dU T e):∀n,oK T e eK<|bO T n
 |0=>λk hk=>bZ|n+1=>λk hk=>by
  have ih:=Ep h n;unfold bO;split
  .exact(X' h ih k hk).mono λa k' q=>⟨q.1.ex,q.2⟩
  split
  .exact TP h ih k hk
  split
  .exact Ya h (X9 h n) ih k hk
  split
  .exact agm h ih k hk
  .exact acX h (agl h<|oL h (ai0 h) ih<|El h n) k hk
end
section
open Go.ChangeMaps Go.MapKept Un
section
variable {c:WC} {cnt:Nat} {s:In.St} {kb gb:Nat} {Λ:Nat->Prop} {Γ:In.Env} {Q:Nat->Prop} {dom:BA->Prop} {st:BA} {n f t a:Nat} {z:Nd} {vx vy vz:Value}
def Er{p:Prop}(h:p:=by
 go_wp2_with fail
 go_meet
 case rel=>exact HQ):p:=h
def TK(Hx:Bj x)(Hy:Bj y)(Hz:Bj z)(h:Cu (.mk 12 st n [x,y,z] f t a) c w cnt s kb Λ Γ gb Q dom (.iface 317<|.agg #[Nv f,Nv t,vx,vy,vz]))(hx:PE w Q x vx)(hy:PE w Q y vy)(hz:PE w Q z vz):
 Cq 340 #[Pv c.eb,Mv kb,Mv gb,.agg #[Nv f,Nv t,vx,vy,vz]] w (aY c (1100*nn (.mk 12 st n [x,y,z] f t a)) (1000*nn (.mk 12 st n [x,y,z] f t a)) (In.inf c.mks (.mk 12 st n [x,y,z] f t a) Γ) s cnt w):=by
 have en:nn (.mk 12 st n [x,y,z] f t a)=1+nn x+nn y+nn z:=yL;obtain⟨sx,sy,sz⟩:ScE c.mks c.nl dom x/\ScE c.mks c.nl dom y/\ScE c.mks c.nl dom z:=by
  cases h.sc with
  |ite _ _ _ _ _ _ _ _ _ hx hy hz=>exact⟨hx,hy,hz⟩
 have fb:=h.ft.b;rw[en]at fb;have H:=gH.start h<|Pk ..
 replace en:=ai en
 clear h;have HX:=ai hx;have HY:=ai hy;have HZ:=ai hz;obtain⟨tx,ax,rfl⟩:=hx.iface;obtain⟨ty,ay,rfl⟩:=hy.iface;obtain⟨tz,az,rfl⟩:=hz.iface;have LZ:=hx.place;have plz:=hz.place;dsimp only[PlF]at LZ plz;clear hx hy hz;go_enter func340,ntmps340;go_wp2_with fail;refine H.box.ex (D2:=1000*(1+nn y+nn z)) Hx HX sx ?_ qV qV;intro T1 yI yJ s1 al iY w1 H;have⟨⟨_,b1,b2,b3⟩,_⟩:=H.p;go_wp2_with fail;go_cut[1]from 13 (λv wc=>Bw c al s1 Λ T1 In.oC (In.gW x) (In.ue x) w1 (Rv v) wc)
 case first=>
  go_region_with(first
   |(go_at_call 125;refine(oD).mono ?_;rintro e w4⟨rfl,rfl⟩)
   |(go_at_call 403;refine(dl _ _).mono ?_;rintro e w5⟨rfl,k5⟩;have K5:Hid (Bq w1 w5):=ai<|(jq _ _).drew.trans k5;clear k5)
   |(go_at_call 324;go_loud(refine(H.eqc K5 ((H.af K5).p.2.1.le (S':=900000) ae) (vQ lq _ c _ ae) H.p.2.2<|uv _).mono ?_);intro e w6 hq;obtain⟨fl,vl,vr,rfl,hE⟩|hq:=hq;go_loud(exact⟨rfl,hE⟩);have HQ:=ai hq;obtain⟨b6,rfl,-⟩:=hq))
  all_goals
   exact Er
 case rest=>
  obtain⟨b6,s6,rfl,H⟩:=H.eqd hcut;clear hcut b1 b2 b3;have⟨⟨_,b1,b2,b3⟩,_⟩:=H.p;go_wp2_with fail;refine H.ex (D2:=1000*(1+nn z)) Hy HY sy ?_ ae qV;intro T3 ta3 xa3 s3 rC kb3 w3 H;clear b1 b2 b3;have⟨⟨⟨_,b1,b2,b3⟩,_⟩,_⟩:=H.p;go_wp2_with fail;refine H.ex (D2:=1000) Hz HZ sz ?_ ae qV;intro T4 ta4 xa4 s4 ai1 kb4 w4 H;clear b1 b2 b3;have⟨⟨⟨⟨_,b1,b2,b3⟩,_⟩,_⟩,_⟩:=H.p;go_wp2_with fail;refine(dl _ _).mono ?_;rintro e w5⟨rfl,K5⟩;have H:=H.af K5;go_wp2_with fail;refine H.eq (H.p.1.2.1.le (S':=900000) ae) (H.p.2.1.le ae) H.p.1.2.2 H.p.2.2 ?_;intro WJ s6 w6 H
  go_wp2
  go_ret2;exact H.ret H.p.1.2.1 qV
def acS(Hx:Bj x)(Hy:Bj y)(h:Cu (.mk 8 st n [x,y] f t a) c w cnt s kb Λ Γ gb Q dom (.iface 319<|.agg #[Nv f,Nv t,vx,vy]))(hx:PE w Q x vx)(hy:PE w Q y vy):
 Cq 343 #[Pv c.eb,Mv kb,Mv gb,.agg #[Nv f,Nv t,vx,vy]] w (aY c (1100*nn (.mk 8 st n [x,y] f t a)) (1000*nn (.mk 8 st n [x,y] f t a)) (In.inf c.mks (.mk 8 st n [x,y] f t a) Γ) s cnt w):=by
 have en:nn (.mk 8 st n [x,y] f t a)=1+nn x+nn y:=yL;have⟨sx,sy⟩:=h.sc.agb<|.inr<|.inr rfl;have fb:=h.ft.b;rw[en]at fb;have H:=gH.start h<|H_ ..
 replace en:=ai en
 clear h;have HX:=ai hx;have HY:=ai hy;obtain⟨tx,ax,rfl⟩:=hx.iface;obtain⟨ty,ay,rfl⟩:=hy.iface;clear hx hy;go_enter func343,ntmps343;go_wp2_with fail;refine H.box.ex (D2:=1000*(1+nn y)) Hx HX sx ?_ qV qV;intro T1 yI yJ s1 al iY w1 H;have⟨⟨_,b1,b2,b3⟩,_⟩:=H.p;go_wp2_with fail;refine H.ex (D2:=1000) Hy HY sy ?_ ae qV;intro T2 ta2 xa2 s2 cN kb2 w2 H;clear b1 b2 b3;have⟨e1,e2,e3⟩:=H.we.bx;go_wp2_with fail;refine H.new (D2:=999) ?_;intro s3 w3 H;clear e1 e2 e3;have⟨⟨⟨⟨_,b1,b2,b3⟩,_⟩,_⟩,_⟩:=H.p;have zc:=H.we.dx
 go_wp2
 go_region_with(first
  |(go_at_call 350;go_loud(refine(aiT H.drew.p.1.2.1 (by simpa using XN w3.drew c (cN+1)) (show c.cb<w3.drew.heap.size from zc)).mono ?_);rintro e w5⟨g,rfl,k5,t5⟩;have K5:=ai<|(jq w3.heap.size w3).drew.trans k5;have T5:=ai t5;have⟨⟨⟨⟨_,d1,d2,d3⟩,_⟩,_⟩,_⟩:=(H.af K5).p;clear k5 t5)
  |(go_at_call 324;go_loud(refine(H.eqc K5 ((H.af K5).p.1.1.2.1.le (S':=900000) ae) (T5.le ae) H.p.1.1.2.2<|acH H.p.1.2.2 H.p.2).mono ?_);intro e w6 hq;obtain⟨fl,vl,vr,rfl,hE⟩|hq:=hq;go_loud(exact⟨rfl,hE⟩);have HQ:=ai hq;obtain⟨b6,rfl,-⟩:=hq))
 all_goals
  go_wp2
  go_ret2;have⟨_,s6,e,H⟩:=H.eqd HQ
  cases e
  exact H.ret (by simpa using XN w6 c (cN+1)) qV
def TH(Hx:Bj x)(Hy:Bj y)(h:Cu (.mk 7 st n [x,y] f t a) c w cnt s kb Λ Γ gb Q dom (.iface 297<|.agg #[Nv f,Nv t,.string st,vx,vy]))(hx:PE w Q x vx)(hy:PE w Q y vy)(hs:st=kq\/st=fe\/st=gM\/st=eQ):
 Cq 342 #[Pv c.eb,Mv kb,Mv gb,.agg #[Nv f,Nv t,.string st,vx,vy]] w (aY c (1100*nn (.mk 7 st n [x,y] f t a)) (1000*nn (.mk 7 st n [x,y] f t a)) (In.inf c.mks (.mk 7 st n [x,y] f t a) Γ) s cnt w):=by
 have en:nn (.mk 7 st n [x,y] f t a)=1+nn x+nn y:=yL;have⟨sx,sy⟩:=h.sc.agb<|.inr<|.inl rfl;have fb:=h.ft.b;rw[en]at fb;have H:=gH.start h<|My ..
 replace en:=ai en
 clear h;have HX:=ai hx;have HY:=ai hy;obtain⟨tx,ax,rfl⟩:=hx.iface;obtain⟨ty,ay,rfl⟩:=hy.iface;have LZ:=hx.place;have ply:=hy.place;dsimp only[PlF]at LZ ply;clear hx hy;go_enter func342,ntmps342;go_wp2_with fail;refine H.box.ex (D2:=1000*(1+nn y)) Hx HX sx ?_ qV qV;intro T1 yI yJ s1 al iY w1 H;have⟨⟨_,b1,b2,b3⟩,_⟩:=H.p;go_wp2_with fail;go_cut[1]from 12 (λv wc=>Bw c al s1 Λ T1 In.jA (In.gW x) (In.ue x) w1 (Rv v) wc)
 case first=>
  go_region_with(first
   |(go_at_call 124;refine(sA).mono ?_;rintro e w4⟨rfl,rfl⟩)
   |(go_at_call 403;refine(dl _ _).mono ?_;rintro e w5⟨rfl,k5⟩;have K5:Hid (Bq w1 w5):=ai<|(jq _ _).drew.trans k5;clear k5)
   |(go_at_call 324;go_loud(refine(H.eqc K5 ((H.af K5).p.2.1.le (S':=900000) ae) (vQ mW _ c _ ae) H.p.2.2<|uv _).mono ?_);intro e w6 hq;obtain⟨fl,vl,vr,rfl,hE⟩|hq:=hq;go_loud(exact⟨rfl,hE⟩);have HQ:=ai hq;obtain⟨b6,rfl,-⟩:=hq))
  all_goals
   exact Er
 case rest=>
  obtain⟨b6,s6,rfl,H⟩:=H.eqd hcut;clear hcut b1 b2 b3 LZ;have⟨⟨_,b1,b2,b3⟩,_⟩:=H.p;go_wp2_with fail;refine H.ex (D2:=1000) Hy HY sy ?_ ae qV;intro T3 ta3 xa3 s3 rC kb3 w3 H;clear b1 b2 b3;have⟨⟨⟨_,b1,b2,b3⟩,_⟩,_⟩:=H.p;go_wp2_with fail;go_cut[1]from 12 (λv wd=>Bw c rC s3 Λ T3 In.jA (In.gW y) (In.ue y) w3 (Rv v) wd)
  case first=>
   go_region_with(first
    |(go_at_call 124;refine(sA).mono ?_;rintro e w4⟨rfl,rfl⟩)
    |(go_at_call 403;refine(dl _ _).mono ?_;rintro e w5⟨rfl,k5⟩;have K5:Hid (Bq w3 w5):=ai<|(jq _ _).drew.trans k5;clear k5)
    |(go_at_call 324;go_loud(refine(H.eqc K5 ((H.af K5).p.2.1.le (S':=900000) ae) (vQ mW _ c _ ae) H.p.2.2<|uv _).mono ?_);intro e w6 hq;obtain⟨fl,vl,vr,rfl,hE⟩|hq:=hq;go_loud(exact⟨rfl,hE⟩);have HQ:=ai hq;obtain⟨b6,rfl,-⟩:=hq))
   all_goals
    exact Er
  case rest=>
   obtain⟨b7,s7,rfl,H⟩:=H.eqd hcut;clear hcut b1 b2 b3 ply;have⟨⟨⟨_,b1,b2,b3⟩,_⟩,_⟩:=H.p;have⟨e1,e2,e3⟩:=H.we.bx;obtain⟨hk,xU⟩|⟨hk,xU⟩:=H.we.rs.drew.look hs
   all_goals(
    first|have EO:Hid (opT st=In.oC):=ai (if_pos hk)|have EO:Hid (opT st=In.jA):=ai<|if_neg hk
    clear hk
    go_wp2
    go_region_with(first|(go_at_call 125;refine(oD).mono ?_;rintro e w4⟨rfl,rfl⟩)|(go_at_call 124;refine(sA).mono ?_;rintro e w4⟨rfl,rfl⟩));all_goals
     go_wp2
     go_ret2
     exact H.drew.ret (by rw[uh EO];first|exact vQ lq _ c 1 (by omega)|exact vQ mW _ c 1 ae) qV)
def acR(Hx:Bj x)(Hy:Bj y)(h:Cu (.mk 6 st n [x,y] f t a) c w cnt s kb Λ Γ gb Q dom (.iface 309<|.agg #[Nv f,Nv t,vx,vy]))(hx:PE w Q x vx)(hy:PE w Q y vy):
 Cq 336 #[Pv c.eb,Mv kb,Mv gb,.agg #[Nv f,Nv t,vx,vy]] w (aY c (1100*nn (.mk 6 st n [x,y] f t a)) (1000*nn (.mk 6 st n [x,y] f t a)) (In.inf c.mks (.mk 6 st n [x,y] f t a) Γ) s cnt w):=by
 have en:nn (.mk 6 st n [x,y] f t a)=1+nn x+nn y:=yL;have⟨sx,sy⟩:=h.sc.agb<|.inl rfl;have H:=gH.start h<|Mx ..
 replace en:=ai en
 clear h;have HX:=ai hx;have HY:=ai hy;obtain⟨tx,ax,rfl⟩:=hx.iface;obtain⟨ty,ay,rfl⟩:=hy.iface;clear hx hy;go_enter func336,ntmps336;go_wp2_with fail;refine H.box.ex (D2:=1000*(1+nn y)) Hx HX sx ?_ qV qV;intro T1 yI yJ s1 al iY w1 H;have⟨⟨_,b1,b2,b3⟩,_⟩:=H.p;go_wp2_with fail;refine H.ex (D2:=1000) Hy HY sy ?_ ae qV;intro T2 ta2 xa2 s2 cN kb2 w2 H;have zc:=H.we.dx;go_wp2_with fail;refine(Pl (w:=w2) yI ta2 yJ xa2).mono ?_;rintro e w3⟨rfl,rfl⟩
 go_wp2
 go_ret2;exact(H.af<|bw _).ret (TW.pr H.p.1.2.1 H.p.2.1 zc) qV
def aiU{y}(Hx:Bj x)(h:Cu (.mk 9 st n [x] f t a) c w cnt s kb Λ Γ gb Q dom (.iface 313<|.agg #[Nv f,Nv t,Nv a,Nv y,.string st,vx]))(hx:PE w Q x vx):
 Cq 338 #[Pv c.eb,Mv kb,Mv gb,.agg #[Nv f,Nv t,Nv a,Nv y,.string st,vx]] w (aY c (1100*nn (.mk 9 st n [x] f t a)) (1000*nn (.mk 9 st n [x] f t a)) (In.inf c.mks (.mk 9 st n [x] f t a) Γ) s cnt w):=by
 have en:nn (.mk 9 st n [x] f t a)=1+nn x:=qBi;have fW:=ku;obtain⟨jU,sx⟩:st∈c.nl/\ScE c.mks c.nl (λv=>dom v\/v=st) x:=by
  cases h.sc with
  |fn _ _ _ _ _ _ _ hs hx=>exact⟨hs,hx⟩
 have H:=gH.start h<|Mq ..
 replace en:=ai en
 clear h;have HX:=ai hx;obtain⟨tx,ax,rfl⟩:=hx.iface;clear hx;have⟨e1,e2,e3⟩:=H.we.bx;go_enter func338,ntmps338;go_wp2_with fail;refine H.box.new (D2:=1000*nn x+999) ?_ qV;intro s3 w3 H;clear e1 e2 e3;have⟨⟨_,b1,b2,b3⟩,_⟩:=H.p
 go_wp2
 go_region_with(first
  |(go_at_call 319;go_loud(refine(xT ((H.wg.fr H.f H.st.p.run).e.af (jq _ _).drew) st<|Ia (pS w3.drew c cnt 1<|br _) ae).mono ?_);rintro e w5⟨b5,rfl,z5,h5,k5⟩;have K5:=ai<|(jq w3.heap.size w3).drew.trans k5;have⟨⟨_,d1,d2,d3⟩,_⟩:=(H.af K5).p;have E5:=ai h5;have Z5:=ai z5;clear k5 h5 z5)
  |(go_at_call 323;go_loud(refine H.exG (D2:=999) K5 Hx (H.asks K5 E5 Z5 H.p.2.mono List.nodup_nil jU HX sx (λ_ q=>q) ae qV) ?_);intro T6 XQ XS s6 Io WJ w6 H6))
 all_goals
  have z6:=H6.we.dx;go_wp2_with fail;refine(aiT (pS w6 c cnt 1<|br _) H6.p.2.1 z6).mono ?_;rintro e w7⟨g,rfl,k7,t7⟩
  go_wp2
  go_ret2;exact(H6.af k7).ret t7 qV
end
end
section
open Un
def Iu.head(h:Iu s):∃x r,s.toList=x::r/\65<=x.toNat/\x.toNat<=90:=by
 obtain⟨x,r,h1,h2,_⟩:=h;exact⟨x,r,h1,by simp[jy]at h2;omega,by simp[jy]at h2;omega⟩
def Iu.ne(h:Iu s)y q(hy:y.toNat<65\/90<y.toNat):s≠⟨(y::q).toArray⟩:=by
 rintro rfl;have⟨x,r,h1,h2,h3⟩:=h.head;rw[toList_mk]at h1;injection h1 with e1 _;subst e1;omega
def Iu.Yb(h:Iu s)(hz:s.size<=400)n:Yb s n:=
 ⟨ae,λe=>by
  obtain e|e:=e
  .exact absurd e (h.ne 62 [] aH)
  .exact absurd e (h.ne 44 [] aH)⟩
structure TyG own nd:Prop where
 st:(bt own nd).2=own
 oc:∀n,aA n (bt own nd).1->1<=n/\n<=own.length
 es:bt own (es nd)=bt own nd
 sz:size (bt own nd).1<=nn nd
 wh:Whole (bt own nd).1
 ty:nn nd<=1001->yW nd
structure BL own L:Prop where
 st:(aF own L).2=own
 oc:∀n,bY n (aF own L).1->1<=n/\n<=own.length
 es:aF own (fZ L)=aF own L
 sz:ah (aF own L).1<=ck L
 wh:kI (aF own L).1
 ty:ck L<=1001->∀i(h:i<L.length),yW L[i]
def BL.of{own:List BA}:∀{L:List Nd},(∀x∈L,TyG own x)->BL own L
 |[],_=>⟨rfl,λn h=>h.elim,rfl,br _,trivial,λ_ i h=>absurd h<|jo i⟩|x::L,h=>by
  have hx:=h x ag;have hL:=BL.of (L:=L) λy hy=>h y (by simp[hy]);refine⟨?_,?_,?_,?_,?_,λhn i hi=>?_⟩
  .simp only[aF];rw[hx.st];exact hL.st
  .simp only[aF];rw[hx.st];exact λn q=>q.elim (hx.oc n)<|hL.oc n
  .simp only[aF,fZ];rw[hx.es,hx.st,hL.es]
  .simp only[aF,ah,ck];rw[hx.st];have:=hx.sz;have:=hL.sz;omega
  .simp only[aF];rw[hx.st];exact⟨hx.wh,hL.wh⟩
  .simp only[ck]at hn
   cases i with
   |zero=>exact hx.ty ae|succ i=>exact hL.ty ae i qBl
def TyG.aK{own}{k}{s}{n f t a}{L}(hk:k=2\/k=6\/k=17)(hs:iR k s≠si)(hL:BL own L)(TB:nn (.mk k s n L f t a)<=1001->yW (.mk k s n L f t a)):TyG own (.mk k s n L f t a):=by
 have h16:k≠16:=ae;have h3:¬(k=3\/k=15):=ae;have em:∀(s:BA)n(M:List Nd)f t a,bt own (.mk k s n M f t a)=(.aK (iR k s) (aF own M).1,(aF own M).2):=λs n M f t a=>by simp[bt,h16]
 refine⟨?_,?_,?_,?_,?_,TB⟩
 .rw[em];exact hL.st
 .rw[em];exact hL.oc
 .simp only[Go.Proofs.YtfnkchdeheeiiaaGreatDoor.es];rw[if_neg h3,em,em,hL.es]
 .rw[em];simp only[size,nn];have:=hL.sz;omega
 .rw[em];exact⟨hs,hL.wh⟩
def oO{ty:BA->Option Nat}{own:List BA}:∀{L:List Nd}{z:Fl},(gJ ty own L z).kind=0->∀x∈L,∃z',(uj ty own x z').kind=0
 |y::L,z,h,x,hx=>by
  rw[gJ]at h;obtain e|e:=List.mem_cons.1 hx
  .subst e;exact⟨z,yX L _ h⟩
  .exact oO h x e
def Pw{p:Prop}(h:p:=by
 obtain⟨z',q⟩:=oO hz u hu;simp only[ja,jh,or_false]at hu;obtain rfl|rfl:=hu
 .exact dR z' q
 .exact im z' q):p:=h
def ME{ty:BA->Option Nat}{own}(h:sI nd):∀z,(uj ty own nd z).kind=0->TyG own nd:=by
 induction h with
 |var s n f t a h1 h2 h3=>
  intro z hz;rw[uj,gJ]at hz;have hi:s∈own:=by
   have:=(cV aH (cV aH hz).2).1;simpa[fU]using this
  have em:∀n f t a,bt own (.mk 16 s n [] f t a)=(.var<|ix s own+1,own):=λn f t a=>by simp[bt,Px hi]
  refine⟨by rw[em],?_,?_,by rw[em];simp[size,nn],by rw[em];trivial,λ_=>.var s n f t a⟩
  .rw[em];intro n q;have q:n=ix s own+1:=by first|exact q|exact q.symm
   have:=MH hi;omega
  .simp only[Go.Proofs.YtfnkchdeheeiiaaGreatDoor.es,fZ];rw[em,if_neg aH,em]
 |up s n L f t a h1 h2 h3 h4 ih=>
  intro z hz;rw[uj]at hz;have hL:BL own L:=.of λx hx=>by
   have⟨z',q⟩:=oO hz x hx;exact ih x hx z' q
  refine .aK (jm rfl) ?_ hL λhn=>?_
  .rw[show iR 2 s=s from rfl];exact h1.ne 116 [111,111,32,108,97,114,103,101] aH
  .simp only[nn]at hn;have:=pW L;exact .up s n L f t a (h1.Yb h2) ae<|hL.ty ae
 |pr x y f t a h1 h2 dR im=>
  intro z hz;rw[uj]at hz;have hL:BL own [x,y]:=.of λu hu=>by
   exact Pw
  refine .aK (jl<|jm rfl) aH hL λhn=>?_;simp only[nn]at hn;exact .two 6 ls 0 x y f t a (jl rfl) (hL.ty ae 0 ag)<|hL.ty ae 1 ag
 |fn x y f t a h1 h2 dR im=>
  intro z hz;rw[uj]at hz;have hL:BL own [x,y]:=.of λu hu=>by
   exact Pw
  refine .aK (jl<|jl rfl) aH hL λhn=>?_;simp only[nn]at hn;exact .two 17 ls 0 x y f t a (jm rfl) (hL.ty ae 0 ag)<|hL.ty ae 1 ag
def TyG.shut(h:TyG [] nd):vars [] (bt []<|Go.Proofs.YtfnkchdeheeiiaaGreatDoor.es nd).1=[]:=by
 rw[h.es];exact yY _ [] λn hn=>by have:=h.oc n hn;simp at this;omega
def sK(mk:BA->Option Nat)(mks:In.Mks):=∀s n,mk s=some n->∃tk m,mks s=some (tk,m)/\tk.length=n
section
variable {ty:BA->Option Nat}
def Es(hr:sK mk mks):∀{L:List Nd},(∀x∈L,∀q,(n9 mk x q).2.kind=0->(∀s∈n_ x,s∈nl)->(n9 mk x q).1=q.1++pR x/\sg mks nl x)->∀q,(dI mk L q).2.kind=0->(∀s∈kJ L,s∈nl)->(dI mk L q).1=q.1++mU L/\∀i(h:i<L.length),sg mks nl L[i]
 |[],_,q,_,_=>⟨by simp[dI,mU],λi h=>absurd h<|jo i⟩|x::L,ih,q,hz,hn=>by
  rw[dI]at hz⊢;have⟨h1,h2⟩:=ih x ag q (Et L _ hz) λs hs=>hn s (by simp[kJ,hs]);have⟨h3,h4⟩:=Es hr (L:=L) (λy hy=>ih y<|by simp[hy]) _ hz λs hs=>hn s (by simp[kJ,hs]);refine⟨by rw[h3,h1];simp[mU],λi hi=>?_⟩
  cases i with
  |zero=>exact h2|succ i=>exact h4 i qBl
def agn(hr:sK mk mks)(h:Bn nd):∀q,(n9 mk nd q).2.kind=0->(∀s∈n_ nd,s∈nl)->(n9 mk nd q).1=q.1++pR nd/\sg mks nl nd:=by
 induction h with
 |any s f t a _=>exact λq _ _=>⟨by simp[n9,dI,pR,mU],.leaf 15 s 0 f t a ag⟩|low s f t a _ _=>exact λq _ hn=>⟨by simp[n9,pR],.low s 0 f t a<|hn s<|by simp[n_]⟩|num s n f t a _ _=>exact λq _ _=>⟨by simp[n9,dI,pR,mU],.leaf 3 s n f t a ag⟩|word s f t a _ _=>exact λq _ _=>⟨by simp[n9,dI,pR,mU],.leaf 4 s 0 f t a ag⟩|unit f t a=>exact λq _ _=>⟨by simp[n9,dI,pR,mU],.leaf 5 ls 0 f t a ag⟩|pr x y f t a _ _ dR im=>
  intro q hz hn;have e:n9 mk (.mk 6 ls 0 [x,y] f t a) q=dI mk [x,y] q:=by simp[n9,bm]
  rw[e]at hz⊢
  have⟨h1,h2⟩:=Es hr (L:=[x,y]) (λu hu=>by
   simp only[ja,jh,or_false]at hu;obtain rfl|rfl:=hu
   .exact dR
   .exact im) q hz λs hs=>hn s (by simp only[n_,ja];exact jl hs)
  exact⟨by rw[h1];simp[pR],.pr ls 0 x y f t a (h2 0 ag)<|h2 1 ag⟩
 |up s n L f t a _ _ _ _ ih=>
  intro q hz hn;have e:n9 mk (.mk 2 s n L f t a) q=dI mk L (q.1,bm (mk s !=some L.length) 5 a (a+s.size) q.2):=by simp[n9]
  rw[e]at hz⊢;have hm:=(cV aH<|Et L _ hz).1;have⟨h1,h2⟩:=Es hr (L:=L) (λu hu=>ih u hu) _ hz λs hs=>hn s (by simp only[n_,ja];exact jl hs);have⟨tk,m,g1,g2⟩:=hr s L.length (by simpa using hm);exact⟨by rw[h1];simp[pR],.up s n L f t a tk m g1 g2.symm h2⟩
def Py(hr:sK mk mks){l:List BA}{dom:BA->Prop}(hd:∀s∈l,dom s):∀{A:List (Nd×Nd)},(∀p∈A,Bn p.1)->(∀p∈A,∀l z,(dX ty mk p.2 l z).kind=0->(∀s∈n_ p.2,s∈nl)->nn p.2<=1000->∀dom:BA->Prop,(∀s∈l,dom s)->ScE mks nl dom p.2)->∀z,(mZ ty mk (aU A) l z).kind=0->(∀s∈kJ (aU A),s∈nl)->ck (aU A)<=1000->(∀i(h:i<A.length),sg mks nl A[i].1)/\∀i(h:i<A.length),ScE mks nl (λv=>dom v\/v∈pR A[i].1) A[i].2
 |[],_,_,z,_,_,_=>⟨λi h=>absurd h<|jo i,λi h=>absurd h<|jo i⟩|(p,e)::A,hp,he,z,hz,hn,hl=>by
  simp only[aU]at hz hn hl;simp only[kJ,jc]at hn;simp only[ck]at hl;rw[mZ,Iy]at hz;have h1:=Eu (aU A) l _ hz;have⟨g1,g2⟩:=agn hr (hp (p,e) ag) _ (mj e _ _ h1) λs hs=>hn s<|jm hs;simp only[jk]at g1;have⟨f1,f2⟩:=Py hr hd (A:=A) (λq hq=>hp q<|by simp[hq]) (λq hq=>he q<|by simp[hq]) _ hz (λs hs=>hn s<|jl<|jl hs) ae;have g3:=he (p,e) ag _ _ h1 (λs hs=>hn s<|jl<|jm hs) (by show nn e<=1000;omega) (λv=>dom v\/v∈pR p) λs hs=>by
   obtain q|q:=List.mem_append.1 hs
   .exact jm (hd s q)
   .rw[g1]at q;exact jl q
  refine⟨λi hi=>?_,λi hi=>?_⟩
  .cases i with
   |zero=>exact g2|succ i=>exact f1 i qBl
  .cases i with
   |zero=>exact g3|succ i=>exact f2 i qBl
end
section
variable {ty:BA->Option Nat}
def EG ty mk mks nl nd:=∀l z,(dX ty mk nd l z).kind=0->(∀s∈n_ nd,s∈nl)->nn nd<=1000->∀dom:BA->Prop,(∀s∈l,dom s)->ScE mks nl dom nd
def EG.two{k}{s}{n f t a}{x y}(hk:k=6\/k=7\/k=8)(hx:EG ty mk mks nl x)(hy:EG ty mk mks nl y):EG ty mk mks nl (.mk k s n [x,y] f t a):=by
 intro l z hz hn hl dom hd;have e:dX ty mk (.mk k s n [x,y] f t a) l z=dX ty mk y l (dX ty mk x l z):=by obtain rfl|rfl|rfl:=hk<;>simp[dX,hH]
 rw[e]at hz;simp only[n_,kJ,ja,jc,jd]at hn;simp only[nn,ck]at hl;exact .two dom k s n x y f t a hk (hx l z (mj y _ _ hz) (λs hs=>hn s<|jl<|jm hs) ae dom hd)<|hy l _ hz (λs hs=>hn s<|jl<|jl hs) ae dom hd
def EG.fn{s}{n f t a}{x}(hx:EG ty mk mks nl x):EG ty mk mks nl (.mk 9 s n [x] f t a):=by
 intro l z hz hn hl dom hd;have e:dX ty mk (.mk 9 s n [x] f t a) l z=dX ty mk x (l++[s]) z:=by simp[dX,Ev]
 rw[e]at hz;simp only[n_,kJ,ja,jd]at hn;simp only[nn,ck]at hl;refine .fn dom s n x f t a (hn s<|jm rfl)<|hx _ z hz (λs hs=>hn s<|jl hs) ae _ λv hv=>?_;obtain q|q:=List.mem_append.1 hv
 .exact jm (hd v q)
 .grind
def EG.lt{c}{s}{n f t a}{x y}(hc:c=10\/c=11)(hx:EG ty mk mks nl x)(hy:EG ty mk mks nl y):EG ty mk mks nl (.mk c s n [x,y] f t a):=by
 intro l z hz hn hl dom hd;have e:dX ty mk (.mk c s n [x,y] f t a) l z=dX ty mk y (l++[s]) (dX ty mk x (if c=11 then l++[s]else l) z):=by obtain rfl|rfl:=hc<;>simp[dX,Iz,Ev]
 rw[e]at hz;simp only[n_,kJ,ja,jc,jd]at hn;simp only[nn,ck]at hl;have hs:∀v∈l++[s],dom v\/v=s:=λv hv=>by
  obtain q|q:=List.mem_append.1 hv
  .exact jm (hd v q)
  .grind
 refine .lt dom c s n x y f t a (hn s<|jm rfl) hc (hx _ z (mj y _ _ hz) (λs hs=>hn s<|jl<|jm hs) ae _ λv hv=>?_)<|hy _ _ hz (λs hs=>hn s<|jl<|jl hs) ae _ hs;split at hv
 .rename_i q;exact(hs v hv).imp id λe=>⟨q,e⟩
 .grind
def ago(hr:sK mk mks)(h:eK nd):EG ty mk mks nl nd:=by
 induction h with
 |low s f t a _ _=>
  intro l z hz hn hl dom hd;have e:dX ty mk (.mk 1 s 0 [] f t a) l z=bm (!fU s l) 5 f t z:=by simp[dX]
  rw[e]at hz;exact .low dom s 0 f t a (hd s<|Pz.1<|by simpa using(cV aH hz).1)
 |up s f t a _ _=>
  intro l z hz hn hl dom hd;have e:dX ty mk (.mk 2 s 0 [] f t a) l z=bm (mk s).isNone 5 f t z:=by simp[dX]
  rw[e]at hz;have h1:=(cV aH hz).1
  cases hm:mk s with
  |none=>grind|some n=>
   have⟨tk,m,g1,_⟩:=hr s n hm;exact .up dom s 0 f t a tk m g1
 |num s n f t a _ _=>exact λl z _ _ _ dom _=>.leaf dom 3 s n f t a ag|word s f t a _ _=>exact λl z _ _ _ dom _=>.leaf dom 4 s 0 f t a ag|unit f t a=>exact λl z _ _ _ dom _=>.leaf dom 5 ls 0 f t a ag|pr x y f t a _ _ dR im=>exact .two ag dR im|of x y f t a _ hy dR=>
  intro l z hz hn hl dom hd;have e:dX ty mk (.mk 14 ls 0 [x,y] f t a) l z=uj ty [] y (dX ty mk x l z):=by simp[dX,Ew]
  rw[e]at hz;simp only[n_,kJ,ja,jc,jd]at hn;simp only[nn,ck]at hl;have g:=ME hy _ hz;have gz:=g.sz;exact .of dom ls 0 x y f t a (dR l z (Yc y _ hz) (λs hs=>hn s<|jl<|jm hs) ae dom hd) g.shut (by rw[g.es];omega) (by rw[g.es];exact g.wh)
 |op s x y f t a _ _ _ dR im=>exact .two ag dR im|call x y f t a _ _ dR im=>exact .two ag dR im|fn s x f t a _ _ _ ih=>exact ih.fn|lt s x z f t a _ _ _ _ dR Yd=>exact .lt (jm rfl) dR Yd|ltr s s' x z f t a f' t' a' _ _ _ _ _ _ dR Yd=>exact .lt (jl rfl) dR.fn Yd|ite x y w f t a _ _ _ dR im ihw=>
  intro l z hz hn hl dom hd;have e:dX ty mk (.mk 12 ls 0 [x,y,w] f t a) l z=dX ty mk w l (dX ty mk y l<|dX ty mk x l z):=by simp[dX,hH]
  rw[e]at hz;simp only[n_,kJ,ja,jc,jd]at hn;simp only[nn,ck]at hl;have h1:=mj w _ _ hz;exact .ite dom ls 0 x y w f t a (dR l z (mj y _ _ h1) (λs hs=>hn s<|jl<|jm hs) ae dom hd) (im l _ h1 (λs hs=>hn s<|jl<|jl<|jm hs) ae dom hd)<|ihw l _ hz (λs hs=>hn s<|jl<|jl<|jl hs) ae dom hd
 |mt x A f t a _ _ hp _ dR ihA=>
  intro l z hz hn hl dom hd;have e:dX ty mk (.mk 13 ls 0 (x::aU A) f t a) l z=mZ ty mk (aU A) l (dX ty mk x l z):=by simp[dX,MI]
  rw[e]at hz;simp only[n_,kJ,ja,jc]at hn;simp only[nn,ck]at hl;have⟨g1,g2⟩:=Py hr hd hp (λp hq=>ihA p hq) _ hz (λs hs=>hn s<|jl<|jl hs) ae;exact .mt dom ls 0 x A f t a (dR l z (Eu (aU A) l _ hz) (λs hs=>hn s<|jl<|jm hs) ae dom hd) g1 g2
end
def fA(c:UInt8):BA:=⟨#[c]⟩
def agp c:(fA c).toList=[c]:=by rw[fA];exact toList_mk _
def nm1 c(h:jx c.toNat=true)(hw:ju ⟨#[c]⟩=false):xX (fA c):=⟨c,[],agp c,h,ag,hw⟩
inductive oa:List UInt8->List UInt8->Prop where
 |low{L:List UInt8}{c:UInt8}(hc:c∈L)(h:xX (fA c)):oa L [c]
 |up{L:List UInt8}{c:UInt8}(h:c=78\/c=80):oa L [c]
 |tr{L:List UInt8}:oa L [116,114,117,101]
 |one{L:List UInt8}:oa L [49]
 |unit{L:List UInt8}:oa L [40,41]
 |fn{L:List UInt8}{c:UInt8}{l:List UInt8}(hc:xX (fA c))(h:oa (L++[c]) l):oa L ([40,102,117,110,32]++[c]++[32,45,62,32]++l++[41])
 |PA{L:List UInt8}{l m:List UInt8}(h:oa L l)(k:oa L m):oa L ([40]++l++[32]++m++[41])
 |lt{L:List UInt8}{c:UInt8}{l m:List UInt8}(hc:xX (fA c))(h:oa L l)(k:oa (L++[c]) m):oa L ([40,108,101,116,32]++[c]++[32,61,32]++l++[32,105,110,32]++m++[41])
 |pair{L:List UInt8}{l m:List UInt8}(h:oa L l)(k:oa L m):oa L ([40]++l++[44,32]++m++[41])
 |aK{L:List UInt8}{l m:List UInt8}(h:oa L l)(k:oa L m):oa L ([40,67,32]++l++[32]++m++[41])
 |ite{L:List UInt8}{l m:List UInt8}(h:oa L l)(k:oa L m):oa L ([40,105,102,32,116,114,117,101,32,116,104,101,110,32]++l++[32,101,108,115,101,32]++m++[41])
 |mt{L:List UInt8}{c:UInt8}{l m:List UInt8}(hc:xX (fA c))(h:oa L l)(k:oa (L++[c]) m):oa L ([40,109,97,116,99,104,32]++l++[32,119,105,116,104,32,78,32,45,62,32,49,32,124,32,67,32]++[c]++[32,95,32,45,62,32]++m++[32,101,110,100,41])
def mB:Nat->Nat
 |0=>4|d+1=>2*mB d+40
def MXq d L l:=oa L l/\l.length<=mB d
def agq:∀d,4<=mB d
 |0=>br _|d+1=>by have:=agq d;simp only[mB];omega
def agr:List UInt8:=[116,121,112,101,32,76,32,39,97,32,61,32,78,32,124,32,67,32,39,97,32,40,76,32,39,97,41,59,116,121,112,101,32,83,32,61,32,80,32,124,32,81,32,73,110,116,32,66,111,111,108,59]
inductive MQ:List UInt8->List UInt8->Prop where
 |zero:MQ [] agr
 |next{L:List UInt8}{c:UInt8}{l m:List UInt8}(h:MQ L l)(hc:xX (fA c))(k:oa L m)(hz:l.length+m.length<=330\/m=[49]):MQ (L++[c]) (l++[108,101,116,32]++[c]++[61]++m++[59])
def MQ.len{l}(h:MQ L l):l.length<=337+8*L.length:=by
 induction h with
 |zero=>simp[agr]|next h hc k hz ih=>
  simp only[ug,ot,uq];obtain q|q:=hz
  .omega
  .subst q;simp;omega
def Ye:(Tryz.prog.info? 9).map (λi=>(i.zero,i.size,i.bytes))=some (some<|.string ⟨#[]⟩,1,16):=qkr
def yZ:Tryz.prog.underlying 52=some (.slice 9):=qkr
abbrev kK(w:World)base v xs:=w.ownsRow base 9 1 v xs.length xs
def kK.new(w:World)C base(hb:base<=w.heap.size)(hl:C.length<=1000)n(hn:n=C.length):kK (w.alloc<|.cells C.toArray 9) base (.slice (some ⟨w.heap.size,0,none⟩) n n) C:=by
 subst hn;exact⟨ag,.inr ⟨w.heap.size,C.length,C.toArray,rfl,hb,heap_alloc_new w _,br _,Yf,ag,ag⟩⟩
def lK{ops}{rest}{o}{a}{Q}(hgd:o.guard=none)s x(ho:o.op=.call {callee:=.builtin .append,args:=#[s,x],argTypes:=#[52,52]}){b0}{u}{news}(hs:a.eval s=v)(fS:kK w base v xs)(hx:a.eval x=u)(hn:kK w b0 u news)(h1:∀u∈news,u.oneCell'=true)(hz:xs.length+news.length<=1000)(qW:base<=w.heap.size)(h:∀v' w',kK w' base v' (xs++news)->w.grownBy w' v.ownBlock->wpList Tryz.prog ops Q rest (a.put o.dst v') w'):wpList Tryz.prog ops Q (o::rest) a w:=by
 have⟨i0,hi,oh,m7,i_⟩:=info_parts Ye;have IA:=hn;obtain⟨hl,hc⟩:=hn;obtain⟨rfl,h0⟩|⟨g,cap,l7,rfl,hg,hh,r⟩:=hc
 .have e:=List.eq_nil_of_length_eq_zero h0;subst e;refine wpList_append_own_none hgd s x 52 ho base 9 i0 1 yZ hi v xs.length xs hs fS hx ?_;exact h v w (by simpa using fS) ⟨rfl,rfl,rfl,br _,λ_ _ _=>rfl⟩
 .refine wpList_append_own w hgd s x 52 ho base 9 i0 _ 1 16 yZ hi oh m7 i_ rfl aH v xs.length xs hs fS ⟨g,0,none⟩ news.length cap news hx ae (λj z e=>IA.cells rfl j z e) h1 Yf ae qW ?_;intro v' w' ho' CF _;exact h v' w' (by rw[kK];rw[ug];exact ho') CF
def Ex(L:List UInt8):List Value:=L.map λc=>.string<|fA c
structure NSv w xb v L:Prop where
 o:∃base,kK w base v<|Ex L
 n:v.ownBlock≠some xb
 k:∀c∈L,xX<|fA c
def sL L:∀u∈Ex L,u.oneCell'=true:=by
 intro u hu;obtain⟨c,_,rfl⟩:=List.mem_map.1 hu;rfl
def Ey{rb}(h:kK w base v xs)(hk:Ke rb w w')(hn:v.ownBlock≠some rb):kK w' base v xs:=by
 obtain⟨h1,h2⟩:=h;refine⟨h1,?_⟩;obtain h2|⟨g,cap,l7,rfl,hg,hh,r⟩:=h2
 .exact .inl h2
 .exact .inr ⟨g,cap,l7,rfl,hg,(hk.block g (by have:=(Array.getElem?_eq_some_iff.1 hh).1;exact this) (by intro e;exact hn<|by simp[Value.ownBlock,e])).trans hh,r⟩
def NSv.ke(h:NSv w xb v L)(hk:Ke xb w w'):NSv w' xb v L:=by
 have⟨base,ho⟩:=h.o;exact⟨⟨base,Ey ho hk h.n⟩,h.n,h.k⟩
def NSv.af(h:NSv w xb v L)(hb:Bq w w'):NSv w' xb v L:=h.ke<|Ke.of hb
def fI{W}{B}{row}(h:Below B W w)(hg:w.grownBy w' row)(hz:B<=w.heap.size)(hr:∀k,row=some k->B<=k):Below B W w':=
 ⟨hg.os.trans h.os,hg.tape.trans h.tape,hg.output.trans h.output,Nat.le_trans h.size hg.size,λi hi=>(hg.block i ae (λe=>by have:=hr i e.symm;omega)).trans<|h.block i hi⟩
def e_(h:kK w base v xs):∀k,v.ownBlock=some k->base<=k:=λk hk=>(World.ownsRow.lt h k hk).1
section
variable {len cap:Nat} {p:Option Addr} {r:Nat->Int}
def MkP xb p len cap r d L w(e:Ending)w':=∃l,e=.returned (.string<|bs l)/\MXq d L l/\xZ xb p len cap r w w'
def MkE xb p len cap r d:=∀(w:World)(A:Nat)(v:Value)(L:List UInt8),Src w xb p len cap r A->NSv w xb v L->L.length+d<=6->Cq 25 #[Pv xb,Nv d,v] w (MkP xb p len cap r d L w)
def xF:List Value:=[.string ⟨#[49]⟩,.string ⟨#[116,114,117,101]⟩,.string ⟨#[40,41]⟩,.string ⟨#[78]⟩,.string ⟨#[80]⟩]
def acZ d L:∀u∈xF,∃l,u=.string (bs l)/\MXq d L l:=by
 have h4:=agq d;intro u hu;simp only[xF,ja,jh,or_false]at hu;obtain rfl|rfl|rfl|rfl|rfl:=hu
 .exact⟨[49],rfl,oa.one,bP⟩
 .exact⟨[116,114,117,101],rfl,oa.tr,bP⟩
 .exact⟨[40,41],rfl,oa.unit,bP⟩
 .exact⟨[78],rfl,oa.up aH,bP⟩
 .exact⟨[80],rfl,oa.up aH,bP⟩
def Yg d L(hk:∀c∈L,xX<|fA c):∀u∈Ex L,∃l,u=.string (bs l)/\MXq d L l:=by
 have h4:=agq d;intro u hu;obtain⟨c,hc,rfl⟩:=List.mem_map.1 hu;exact⟨[c],rfl,oa.low hc<|hk c hc,bP⟩
def IB:Value->BA
 |.string s=>s|_=>⟨#[]⟩
def PB{w}(h:kK w base v xs)(hx:∀u∈xs,∃s,u=.string s)(hn:0<xs.length):∃g cp,v=.slice (some ⟨g,0,none⟩) xs.length cp/\base<=g/\g<w.heap.size/\Txt w g xs.length (λj=>IB<|xs.getD j<|.bool false):=by
 have h':=h;obtain⟨h1,h2⟩:=h;obtain⟨rfl,q⟩|⟨g,cp,l7,rfl,hg,hh,r⟩:=h2
 .omega
 .refine⟨g,cp,rfl,hg,(World.ownsRow.lt h' g rfl).2,λj hj=>?_⟩;have e:=h'.cells (g:=g) rfl j xs[j] (jf hj);have⟨s,hs⟩:=hx xs[j]<|jj hj;have e2:(⟨g,0,none⟩:Addr).add j=⟨g,j,none⟩:=by
   rw[Addr.add];split
   .grind
   .simp
  show w.cell? ⟨g,j,none⟩=some (Sv<|IB<|xs.getD j<|.bool false);rw[e2,hs]at e;rw[e,ji,jf hj,hs];rfl
def Yh(hx:∀u∈xs,∃l,u=.string (bs l)/\MXq d L l)j(hj:j<xs.length):∃l,IB (xs.getD j<|.bool false)=bs l/\MXq d L l:=by
 have⟨l,e,h⟩:=hx xs[j]<|jj hj;refine⟨l,?_,h⟩;rw[ji,jf hj,e];rfl
def CH L:=(xF++Ex L)++Ex L
def sM d L(hk:∀c∈L,xX<|fA c):∀u∈CH L,∃l,u=.string (bs l)/\MXq d L l:=by
 intro u hu;simp only[CH,jc]at hu;obtain  (h|h)|h:=hu
 .exact acZ d L u h
 .exact Yg d L hk u h
 .exact Yg d L hk u h
def fJ L:(CH L).length=5+2*L.length:=by simp[CH,xF,Ex];omega
def PC{p:Prop}(h:p:=by
 have MJ:=(HK.trans<|Ke.of HB4).trans sk;rw[e5]
 go_wp2
 go_ret
 exact⟨l,rfl,HM,A5,L6,MJ⟩):p:=h
def akU:MkE xb p len cap r 0:=by
 intro w A v L hS HN hL;have HC:=x_ hS 12 ae ae;go_enter func25,ntmps25;go_wp2_with fail;refine HC.mono ?_;rintro e w1⟨q,rfl,q0,q1,A1,HS,HK⟩;have Ez:=HN.ke HK;have akV:(((0:Nat):Int)==0)=true:=ag;have O1:=World.ownsRow_nil (w1.alloc<|Cv xF.toArray 9) w1.heap.size 9 1
 go_wp2_with(first
  |(at_builtin;refine lK rfl (.tmp 32) (.tmp 33) rfl rfl O1 rfl (kK.new w1 xF 0 (jp _) aH 5 rfl) aH aH ag ?_;intro v2 w2 o2 g2;have iG:Bq w1 w2:=fI (bw _) g2 ag<|e_ O1;have⟨b2,on2⟩:=(Ez.af iG).o;have O2:=ai o2;have ON2:=ai on2;have eA:=ai iG;have z2:=iG.size;have G2:=ai<|e_ o2;clear o2 on2 iG g2 O1)
  |(at_builtin;refine lK rfl (.tmp 35) (.tmp 36) rfl rfl O2 rfl ON2 (sL L) (by simp[xF,Ex];omega) z2 ?_;intro v3 w3 o3 g3;have oJ:Bq w1 w3:=fI eA g3 z2 G2;have⟨b3,on3⟩:=(Ez.af oJ).o;have O3:=ai o3;have ON3:=ai on3;have y8:=ai oJ;have z3:=oJ.size;have G3:=ai<|e_ o3;clear o3 on3 oJ g3 O2 ON2 eA z2 G2)
  |(at_builtin;refine lK rfl (.tmp 38) (.tmp 39) rfl rfl O3 rfl ON3 (sL L) (by simp[xF,Ex];omega) z3 ?_;intro v4 w4 o4 g4;have GY:Bq w1 w4:=fI y8 g4 z3 G3;have HB4:=ai GY;have z4:=GY.size;obtain⟨g,cp,rfl,hg,lh,htx⟩:=PB (show kK w4 w1.heap.size v4 (CH L)from o4) (λu hu=>by have⟨l,e,_⟩:=sM 0 L Ez.k u hu;exact⟨_,e⟩) (by rw[fJ];omega);rw[fJ]at htx;simp only[fJ];have HX:=ai htx;clear o4 g4 htx GY O3 ON3 y8 z3 G3))
 have hxz:=HS.b.z;refine(ML (HS.af HB4) HX lh ae ae ae).mono ?_;rintro e w5⟨j,hj,rfl,A5,L6,sk⟩;have⟨l,e5,HM⟩:=Yh (sM 0 L Ez.k) j (by rw[fJ];exact hj);exact PC
def kK.ags{w}(h:kK w base v xs)o:kK (w.alloc o) base v xs:=jW h<|bw o
def NSv.more{w}{xb}{c}(o:kK w base v (Ex<|L++[c]))(hx:xb<base)(hk:∀c∈L,xX<|fA c)(hc:xX (fA c)):NSv w xb v (L++[c]):=
 ⟨⟨_,o⟩,λe=>by have:=e_ o xb e;omega,λx hx=>by
   obtain q|q:=List.mem_append.1 hx
   .exact hk x q
   .rw[List.mem_singleton.1 q];exact hc⟩
def abf:List Value:=[.string ⟨#[97]⟩,.string ⟨#[98]⟩,.string ⟨#[102]⟩]
def agt j(hj:j<3):∃c,IB (abf.getD j<|.bool false)=fA c/\xX (fA c):=by
 have hc:j=0\/j=1\/j=2:=ae;obtain rfl|rfl|rfl:=hc
 .exact⟨97,rfl,nm1 97 aH qAq⟩
 .exact⟨98,rfl,nm1 98 aH qAq⟩
 .exact⟨102,rfl,nm1 102 aH qAq⟩
def ac0(w1:World):Txt (w1.alloc<|.cells abf.toArray 9) w1.heap.size 3 (λj=>IB<|abf.getD j<|.bool false):=by
 intro j hj;have hc:j=0\/j=1\/j=2:=ae;rw[(Bx.new w1 abf.toArray 9).c j];obtain rfl|rfl|rfl:=hc<;>rfl
def ai2(h:d+1<=3):mB d<=136:=by
 have hc:d=0\/d=1\/d=2:=ae;obtain rfl|rfl|rfl:=hc<;>decide
def PH c:(fA c).size=1:=rfl
def jD c:fA c=bs [c]:=rfl
def y9 L c:Ex L++[.string<|fA c]=Ex (L++[c]):=by simp[Ex]
def pX{p:Prop}(h:p:=by
 have q5:=L7.2;have q6:=TQ.2;simp only[mB,ug,ot,uq];omega):p:=h
def akW(hd:d+1<=3)(hI:MkE xb p len cap r d):MkE xb p len cap r (d+1):=by
 intro w A v L hS HN hL;have HC:=x_ hS 12 ae ae;have hd0:(((d+1:Nat):Int)==0)=false:=bP;have MN:((d+1:Nat):Int)-1=(d:Int):=ae;go_enter func25,ntmps25;go_wp2_with fail;refine HC.mono ?_;rintro e w1⟨q,rfl,q0,q1,A1,HS,HK⟩;have Ez:=HN.ke HK;by_cases h3:q<3
 .have O1:=World.ownsRow_nil (w1.alloc<|Cv xF.toArray 9) w1.heap.size 9 1
  go_wp2_with(first
   |(at_builtin;refine lK rfl (.tmp 32) (.tmp 33) rfl rfl O1 rfl (kK.new w1 xF 0 (jp _) aH 5 rfl) aH aH ag ?_;intro v2 w2 o2 g2;have iG:Bq w1 w2:=fI (bw _) g2 ag<|e_ O1;have⟨b2,on2⟩:=(Ez.af iG).o;have O2:=ai o2;have ON2:=ai on2;have eA:=ai iG;have z2:=iG.size;have G2:=ai<|e_ o2;clear o2 on2 iG g2 O1)
   |(at_builtin;refine lK rfl (.tmp 35) (.tmp 36) rfl rfl O2 rfl ON2 (sL L) (by simp[xF,Ex];omega) z2 ?_;intro v3 w3 o3 g3;have oJ:Bq w1 w3:=fI eA g3 z2 G2;have⟨b3,on3⟩:=(Ez.af oJ).o;have O3:=ai o3;have ON3:=ai on3;have y8:=ai oJ;have z3:=oJ.size;have G3:=ai<|e_ o3;clear o3 on3 oJ g3 O2 ON2 eA z2 G2)
   |(at_builtin;refine lK rfl (.tmp 38) (.tmp 39) rfl rfl O3 rfl ON3 (sL L) (by simp[xF,Ex];omega) z3 ?_;intro v4 w4 o4 g4;have GY:Bq w1 w4:=fI y8 g4 z3 G3;have HB4:=ai GY;have z4:=GY.size;obtain⟨g,cp,rfl,hg,lh,htx⟩:=PB (show kK w4 w1.heap.size v4 (CH L)from o4) (λu hu=>by have⟨l,e,_⟩:=sM 0 L Ez.k u hu;exact⟨_,e⟩) (by rw[fJ];omega);rw[fJ]at htx;simp only[fJ];have HX:=ai htx;clear o4 g4 htx GY O3 ON3 y8 z3 G3))
  have hxz:=HS.b.z;refine(ML (HS.af HB4) HX lh ae ae ae).mono ?_;rintro e w5⟨j,hj,rfl,A5,L6,sk⟩;have⟨l,e5,HM⟩:=Yh (sM (d+1) L Ez.k) j (by rw[fJ];exact hj);exact PC
 .have h3':decide (q<3)=false:=bP;have hxz:=HS.b.z;have dA:Bq w1 (w1.alloc<|Cv abf.toArray 9):=bw _;go_wp2_with fail;refine(ML (HS.af dA) (ac0 w1) ag ae ae ae).mono ?_;rintro e w2⟨j,hj,rfl,A2,HS2,mY⟩;have⟨c,ec,HC⟩:=agt j hj;have HK2:=(HK.trans<|Ke.of dA).trans mY;have PK:=(Ez.af dA).ke mY;have⟨b2,ON2⟩:=PK.o;have i_:=HS2.b.z;have Mt:=PH c;have O2:=World.ownsRow_nil w2 w2.heap.size 9 1;rw[ec];have hqc:q=3\/q=4\/q=5\/q=6\/q=7\/q=8\/q=9\/q=10\/q=11:=by simp at h3';omega
  obtain rfl|rfl|rfl|rfl|rfl|rfl|rfl|rfl|rfl:=hqc
  all_goals(
   go_wp2_with(first
    |(at_builtin;refine lK rfl (.tmp 47) (.tmp 48) rfl rfl O2 rfl ON2 (sL L) (by simp[Ex];omega) (br _) ?_;intro v3 w3 o3 g3;have oJ:Bq w2 w3:=fI (jq _ _) g3 (br _)<|e_ O2;have O3:=ai o3;have y8:=ai oJ;have z3:=oJ.size;clear o3 g3 oJ O2 ON2)
    |(at_builtin;refine lK rfl (.tmp 50) (.tmp 52) rfl rfl (O3.ags _) rfl (kK.new w3 [Sv<|fA c] 0 (jp _) ag 1 rfl) qAn (by simp[Ex];omega) bP ?_;intro v4 w4 o4 g4))
   have GY:=fI (y8.alloc z3 _) g4 bP<|e_ O3;rw[jk,y9]at o4;have HM4:=NSv.more o4 i_ PK.k HC;have TR:=PK.af GY;have HS4:=HS2.af GY;have HK4:=HK2.trans<|Ke.of GY
   clear o4 g4 GY O3 y8 z3 HS2 HK2 PK)
  iterate 2 next=>
   refine(hI w4 A2 _ _ HS4 HM4 bP).mono ?_;rintro e w5⟨l5,rfl,L7,A5,L6,sk⟩;have MJ:=HK4.trans sk;have PL:=TR.ke sk;have WM:=HM4.ke sk;have hz5:(bs l5).size<=136:=qAj
   go_wp2
   go_ret;refine⟨_,?_,⟨(oa.fn HC L7.1),?_⟩,A5,L6,MJ⟩
   .simp only[jD,<-lL];rfl
   .have q5:=L7.2;simp only[mB,ug,ot,uq];omega
  iterate 2 next=>
   refine(hI w4 A2 _ _ HS4 TR ae).mono ?_;rintro e w5⟨l5,rfl,L7,A5,L6,sk⟩;have MJ:=HK4.trans sk;have PL:=TR.ke sk;have WM:=HM4.ke sk;have hz5:(bs l5).size<=136:=qAj;go_wp2_with fail;refine(hI w5 A5 _ _ L6 PL ae).mono ?_;rintro e w6⟨l6,rfl,TQ,A6,Yi,EA⟩;have Yj:=MJ.trans EA;have HN6:=PL.ke EA;have HM6:=WM.ke EA;have hz6:(bs l6).size<=136:=qAo
   go_wp2
   go_ret;refine⟨_,?_,⟨(L7.1.PA TQ.1),?_⟩,A6,Yi,Yj⟩
   .simp only[jD,<-lL];rfl
   .exact pX
  .refine(hI w4 A2 _ _ HS4 TR ae).mono ?_;rintro e w5⟨l5,rfl,L7,A5,L6,sk⟩;have MJ:=HK4.trans sk;have PL:=TR.ke sk;have WM:=HM4.ke sk;have hz5:(bs l5).size<=136:=qAj;go_wp2_with fail;refine(hI w5 A5 _ _ L6 WM bP).mono ?_;rintro e w6⟨l6,rfl,TQ,A6,Yi,EA⟩;have Yj:=MJ.trans EA;have HN6:=PL.ke EA;have HM6:=WM.ke EA;have hz6:(bs l6).size<=136:=qAo
   go_wp2
   go_ret;refine⟨_,?_,⟨(oa.lt HC L7.1 TQ.1),?_⟩,A6,Yi,Yj⟩
   .simp only[jD,<-lL];rfl
   .exact pX
  .refine(hI w4 A2 _ _ HS4 TR ae).mono ?_;rintro e w5⟨l5,rfl,L7,A5,L6,sk⟩;have MJ:=HK4.trans sk;have PL:=TR.ke sk;have WM:=HM4.ke sk;have hz5:(bs l5).size<=136:=qAj;go_wp2_with fail;refine(hI w5 A5 _ _ L6 PL ae).mono ?_;rintro e w6⟨l6,rfl,TQ,A6,Yi,EA⟩;have Yj:=MJ.trans EA;have HN6:=PL.ke EA;have HM6:=WM.ke EA;have hz6:(bs l6).size<=136:=qAo
   go_wp2
   go_ret;refine⟨_,?_,⟨(L7.1.pair TQ.1),?_⟩,A6,Yi,Yj⟩
   .simp only[jD,<-lL];rfl
   .exact pX
  .refine(hI w4 A2 _ _ HS4 TR ae).mono ?_;rintro e w5⟨l5,rfl,L7,A5,L6,sk⟩;have MJ:=HK4.trans sk;have PL:=TR.ke sk;have WM:=HM4.ke sk;have hz5:(bs l5).size<=136:=qAj;go_wp2_with fail;refine(hI w5 A5 _ _ L6 PL ae).mono ?_;rintro e w6⟨l6,rfl,TQ,A6,Yi,EA⟩;have Yj:=MJ.trans EA;have HN6:=PL.ke EA;have HM6:=WM.ke EA;have hz6:(bs l6).size<=136:=qAo
   go_wp2
   go_ret;refine⟨_,?_,⟨(L7.1.aK TQ.1),?_⟩,A6,Yi,Yj⟩
   .simp only[jD,<-lL];rfl
   .exact pX
  .refine(hI w4 A2 _ _ HS4 TR ae).mono ?_;rintro e w5⟨l5,rfl,L7,A5,L6,sk⟩;have MJ:=HK4.trans sk;have PL:=TR.ke sk;have WM:=HM4.ke sk;have hz5:(bs l5).size<=136:=qAj;go_wp2_with fail;refine(hI w5 A5 _ _ L6 PL ae).mono ?_;rintro e w6⟨l6,rfl,TQ,A6,Yi,EA⟩;have Yj:=MJ.trans EA;have hz6:(bs l6).size<=136:=qAo
   go_wp2
   go_ret;refine⟨_,?_,⟨(L7.1.ite TQ.1),?_⟩,A6,Yi,Yj⟩
   .simp only[jD,<-lL];rfl
   .exact pX
  .refine(hI w4 A2 _ _ HS4 TR ae).mono ?_;rintro e w5⟨l5,rfl,L7,A5,L6,sk⟩;have MJ:=HK4.trans sk;have PL:=TR.ke sk;have WM:=HM4.ke sk;have hz5:(bs l5).size<=136:=qAj;go_wp2_with fail;refine(hI w5 A5 _ _ L6 WM bP).mono ?_;rintro e w6⟨l6,rfl,TQ,A6,Yi,EA⟩;have Yj:=MJ.trans EA;have hz6:(bs l6).size<=136:=qAo
   go_wp2
   go_ret;refine⟨_,?_,⟨(oa.mt HC L7.1 TQ.1),?_⟩,A6,Yi,Yj⟩
   .simp only[jD,<-lL];rfl
   .exact pX
def Yk:∀d,d<=3->MkE xb p len cap r d
 |0,_=>akU|d+1,h=>akW h<|Yk d ae
end
end
end Go.Proofs.YtfnkchdeheeiiaaGreatDoor
