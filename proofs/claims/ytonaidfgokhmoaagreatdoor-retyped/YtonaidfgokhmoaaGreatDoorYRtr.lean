import Derived.Test.YtonaidfgokhmoaaGreatDoorYRtd
set_option linter.all false
set_option maxRecDepth 100000
set_option maxHeartbeats 200000
namespace Go.Proofs.YtonaidfgokhmoaaGreatDoor
open _root_.Bool renaming false->aa
open _root_.List renaming length_map->ja,getD_eq_getElem?_getD->jc
open Pu renaming fD->jd
open Go Go.RowKit Un
def CY:∀(ms:List Nd)(b:Bool),ms≠[]->(∀m∈ms,Dx qN m)->∃q,(EU b ms).map ky=ky (if b then tN else oN)::q/\RdK q (bB ms)
 |[],b,h,_=>absurd rfl h|m::ms,b,_,h=>by
  obtain⟨_,_,⟨i,_⟩,_⟩:=kyS;have⟨s,L,f,t,a,e,j,h2,k⟩:=h m ag;have d:=(Y7 (h m ag).ty).2;have g:Gr 3 (kN m) (er m):=by rw[e];exact adE j 0 f t a λx hx=>(Y7<|k x hx).1
  rw[<-J7 m d]at g d
  cases ms with
  |nil=>exact⟨kN m,by simp[EU,kN],by simpa[bB]using RdK.one g d⟩|cons c ms=>
   have⟨q,e,l⟩:=CY (c::ms) aa ag λx hx=>h x (by simp[hx]);refine⟨kN m++(NE::q),?_,RdK.cons g d l⟩;have n:List.map ky (EU aa (c::ms))=NE::q:=by rw[<-i];exact e
   rw[EU,List.map_cons,List.map_append,n];rfl
def D3.re{d:Dc}(h:D3 d):RdE (dcK d) (eD d):=by
 obtain⟨⟨a1,a2,a3,a4,a5,a6,a7,l⟩,⟨m,_⟩,⟨d1,g,n,i,_⟩,_⟩:=kyS
 cases d with
 |lt q t b=>
  obtain⟨f,o,j,k⟩:=h;have⟨p,r⟩:=aht j
  cases q with
  |true=>
   have:=RdE.lt (c:=11) (s:=t.text.toList) ⟨_,.inr ⟨rfl,rfl,r<|k rfl⟩⟩;rw[il]at this;simpa[dcK,sQ,eD,l,m,g,i,f.ky,kN]using this
  |false=>
   have:=RdE.lt (c:=10) (s:=t.text.toList) ⟨_,.inl ⟨rfl,rfl,sT p⟩⟩;rw[il]at this;simpa[dcK,sQ,eD,l,g,i,f.ky,kN]using this
 |ty t vs ms=>
  obtain⟨f,o,j,k,p⟩:=h;have⟨q,e,r⟩:=CY ms true k p;have:=RdE.ty t.text.toList (vs.map λv=>v.text.toList) r;rw[il]at this;have u:List.map ky (EU true ms)=yEq::q:=by rw[<-g];exact e
  have x:vs.map (λv=>ky v.text)=vs.map λv=>((3,v.text.toList):Ky):=List.map_congr_left λv hv=>(j v hv).1.ky;simpa[dcK,sQ,eD,n,i,f.ky,u,x,Function.comp_def,il]using this
def afB{l:List Dc}(h:∀d∈l,D3 d)(n:(ru [] l).length<=400):∃B,bq (bs<|ru [] l)=.ok B/\B.map eD=l.map eD:=by
 have f:=YN (lh _<|by simp[fx]) (L:=l) (l:=[]) (p:=[]) (λd hd=>(h d hd).all.1)<|λs i _ _ _=>⟨[],ag,rfl⟩;have j:RdG (l.flatMap dcK) (l.map eD):=by
  clear n f
  induction l with
  |nil=>exact .nil|cons d l ih=>exact .cons (h d ag).re (ih λx hx=>h x<|by simp[hx])
 rw[List.nil_append]at f;generalize l.flatMap dcK=p at f j;generalize ru [] l=m at f n⊢;have⟨T,e,k⟩:=f (bs m) 0 (YI m) (Nat.zero_le _) nofun;rw[Pu.Ii (s:=bs m) (i:=0+m.length) (by rw[gq];omega)]at e;have g:T.length=p.length:=by rw[<-k];simp
 have o:dX (T++[jd<|bs m]) 0 p:=λi hi=>by
  have:tk (T++[jd<|bs m]) (0+i)=T[i]'(by omega):=by
   rw[tk];rw[Nat.zero_add,jc,List.getElem?_append_left ae,List.getElem?_eq_getElem ae];rfl
  rw[this];subst k;simp
 have b:tk (T++[jd<|bs m]) (0+p.length)=jd (bs m):=by
  rw[tk];rw[Nat.zero_add,jc,List.getElem?_append_right ae,g];simp
 have⟨B,r,t⟩:=j.reads (T++[jd<|bs m]) 0 (T++[jd<|bs m]).length (T++[jd<|bs m]).length [] o bQ bQ bQ (by rw[b];rfl);refine⟨B,?_,r⟩;rw[bq];rw[if_neg (by rw[gq];omega),e];rw[aI];rw[t];simp only[D7,b];rfl
def nW(lo:Nat)(z y:Fl):Prop:=z.kind=y.kind/\(z.kind≠0->z.ah<=lo/\y.ah=0)
section
variable {ty mk:BA->Option Nat} {own:List BA}
def nW.mono{lo b:Nat}{z y:Fl}(h:nW lo z y)(d:lo<=b):nW b z y:=⟨h.1,λq=>⟨Nat.le_trans (h.2 q).1 d,(h.2 q).2⟩⟩
theorem nW.tell{lo:Nat}{z y:Fl}(h:nW lo z y){a:Nat}(d:lo<=a)(c:Bool){k:Nat}(hk:k≠0)(b e:Nat):nW a (bR c k a b z) (bR c k 0 e y):=by
 unfold bR
 cases c with
 |false=>exact h.mono d|true=>
  simp only[if_true];unfold Go.Proofs.YtonaidfgokhmoaaGreatDoor.tell;by_cases q:z.kind=0
  .rw[if_pos<|.inl q,if_pos<|.inl (by rw[<-h.1];exact q)];exact⟨rfl,λ_=>⟨br _,rfl⟩⟩
  .have g:=h.2 q;rw[if_neg ae,if_neg (by have:=h.1;omega)];exact h.mono d
mutual
def Ag.le:∀{d:Nd}{lo b:Nat},Ag lo d b->lo<=b
 |.mk k s n L f t a,lo,b,g=>by
  rw[Ag]at g;split at g
  .exact Nat.le_trans g.1 g.2.2.le
  .exact pV.le g
def pV.le:∀{L:List Nd}{lo b:Nat},pV lo L b->lo<=b
 |[],_,_,g=>g|x::l,_,_,⟨m,g1,g2⟩=>Nat.le_trans g1.le<|pV.le g2
end
def nr:∀L:List Nd,(bB L).length=L.length
 |[]=>rfl|x::l=>by simp[bB,nr l]
mutual
def Rq:∀{b:Nd}{lo d:Nat}{z y:Fl},Ag lo b d->nW lo z y->nW d (rV ty own b z) (rV ty own (es b) y)
 |.mk k s n L f t a,lo,d,z,y,g,r=>by
  unfold Ag at g;simp only[es];unfold rV;rw[nr];by_cases h:k=1\/k=2\/k=16
  .rw[if_pos h]at g;obtain⟨e,rfl,i⟩:=g;have j:(if k=3\/k=15 then cX else s)=s:=if_neg ae;rw[j];exact sY i<|(r.tell e _ aD _ _).tell (br _) _ aD _ _
  .rw[if_neg h]at g;have e:(k==2)=aa:=bQ;have i:(k==16)=aa:=bQ;rw[e,i];exact sY g r
def sY:∀{L:List Nd}{lo b:Nat}{z y:Fl},pV lo L b->nW lo z y->nW b (iJ ty own L z) (iJ ty own (bB L) y)
 |[],_,_,_,_,g,r=>r.mono g|x::l,_,_,_,_,⟨m,g1,g2⟩,r=>sY (L:=l) g2<|Rq g1 r
end
mutual
def Rr:∀{d:Nd}{lo e:Nat}{p:List BA}{z y:Fl},Ag lo d e->nW lo z y->(jJ mk d (p,z)).1=(jJ mk (es d) (p,y)).1/\nW e (jJ mk d (p,z)).2 (jJ mk (es d) (p,y)).2
 |.mk k s n L f t a,lo,e,p,z,y,g,r=>by
  unfold Ag at g;simp only[es];unfold jJ;rw[nr];by_cases h:k=1\/k=2\/k=16
  .rw[if_pos h]at g;obtain⟨i,rfl,j⟩:=g;have l:(if k=3\/k=15 then cX else s)=s:=if_neg ae;rw[l];by_cases b:k=1
   .subst b;exact⟨rfl,(r.tell i _ aD _ _).mono j.le⟩
   .rw[if_neg<|by simpa using b,if_neg<|by simpa using b];exact Aj j<|r.tell i _ aD _ _
  .rw[if_neg h]at g;have b:(k==1)=aa:=bQ;have i:(k==2)=aa:=bQ;rw[b,i];exact Aj g r
def Aj:∀{L:List Nd}{lo b:Nat}{p:List BA}{z y:Fl},pV lo L b->nW lo z y->(dW mk L (p,z)).1=(dW mk (bB L) (p,y)).1/\nW b (dW mk L (p,z)).2 (dW mk (bB L) (p,y)).2
 |[],_,_,_,_,_,g,r=>⟨rfl,r.mono g⟩|x::l,_,_,p,z,y,⟨m,g1,g2⟩,r=>by
  have h:=Rr (p:=p) g1 r;simp only[dW,bB];rw[show jJ mk x (p,z)=((jJ mk x (p,z)).1,(jJ mk x (p,z)).2)from rfl,show jJ mk (es x) (p,y)=((jJ mk x (p,z)).1,(jJ mk (es x) (p,y)).2) by rw[h.1]];exact Aj g2 h.2
end
mutual
def lj:∀{e:Nd}{l:List BA}{lo i:Nat}{z y:Fl},Ag lo e i->nW lo z y->nW i (dV ty mk e l z) (dV ty mk (es e) l y)
 |.mk k s n L f t a,l,lo,i,z,y,g,r=>by
  unfold Ag at g;simp only[es];unfold dV;by_cases h:k=1\/k=2\/k=16
  .rw[if_pos h]at g;obtain⟨b,rfl,d⟩:=g;obtain rfl|rfl|rfl:=h
   .exact(r.tell b _ aD _ _).mono d.le
   .exact(r.tell b _ aD _ _).mono d.le
   .exact Ak d (r.mono b)
  .rw[if_neg h]at g;have b:(k==1)=aa:=bQ;have d:(k==2)=aa:=bQ;rw[b,d];by_cases q:k=9\/k=10\/k=11\/k=13\/k=14
   .obtain rfl|rfl|rfl|rfl|rfl:=q
    .exact Kr g r
    .exact Kt g r
    .exact Kt g r
    .exact Zo g r
    .exact Zp g r
   .have j:(k==9)=aa:=bQ;have m:(k==10)=aa:=bQ;have o:(k==11)=aa:=bQ;have p:(k==13)=aa:=bQ;have u:(k==14)=aa:=bQ;rw[j,m,o,p,u];exact Ak g r
def Kr:∀{L:List Nd}{l:List BA}{lo b:Nat}{z y:Fl},pV lo L b->nW lo z y->nW b (Bc ty mk L l z) (Bc ty mk (bB L) l y)
 |[],_,_,_,_,_,g,r=>by simp only[Bc,bB];exact r.mono g|x::l,_,_,_,_,_,⟨m,g1,g2⟩,r=>by simp only[Bc,bB];exact(lj g1 r).mono g2.le
def Kt:∀{L:List Nd}{l b:List BA}{lo d:Nat}{z y:Fl},pV lo L d->nW lo z y->nW d (Eg ty mk L l b z) (Eg ty mk (bB L) l b y)
 |[],_,_,_,_,_,_,g,r=>by simp only[Eg,bB];exact r.mono g|x::l,_,_,_,_,_,_,⟨m,g1,g2⟩,r=>by simp only[Eg,bB];exact Kr g2<|lj g1 r
def Zp:∀{L:List Nd}{l:List BA}{lo b:Nat}{z y:Fl},pV lo L b->nW lo z y->nW b (Bd ty mk L l z) (Bd ty mk (bB L) l y)
 |[],_,_,_,_,_,g,r=>by simp only[Bd,bB];exact r.mono g|[x],_,_,_,_,_,⟨m,g1,g2⟩,r=>by simp only[Bd,bB];exact(lj g1 r).mono g2|x::w::l,_,_,_,_,_,⟨m,g1,p,g2,g3⟩,r=>by simp only[Bd,bB];exact(Rq g2<|lj g1 r).mono g3.le
def Ak:∀{L:List Nd}{l:List BA}{lo b:Nat}{z y:Fl},pV lo L b->nW lo z y->nW b (gn ty mk L l z) (gn ty mk (bB L) l y)
 |[],_,_,_,_,_,g,r=>by simp only[gn,bB];exact r.mono g|x::l,_,_,_,_,_,⟨m,g1,g2⟩,r=>by simp only[gn,bB];exact Ak g2<|lj g1 r
def Zo:∀{L:List Nd}{l:List BA}{lo b:Nat}{z y:Fl},pV lo L b->nW lo z y->nW b (Ib ty mk L l z) (Ib ty mk (bB L) l y)
 |[],_,_,_,_,_,g,r=>by simp only[Ib,bB];exact r.mono g|x::l,_,_,_,_,_,⟨m,g1,g2⟩,r=>by simp only[Ib,bB];exact Ku g2<|lj g1 r
def Ku:∀{L:List Nd}{l:List BA}{lo b:Nat}{z y:Fl},pV lo L b->nW lo z y->nW b (mi ty mk L l z) (mi ty mk (bB L) l y)
 |[],_,_,_,_,_,g,r=>by simp only[mi,bB];exact r.mono g|x::l,_,_,_,z,y,⟨m,g1,g2⟩,r=>by
  have h:=Rr (mk:=mk) (p:=[]) g1 r;simp only[mi,bB];rw[show jJ mk x ([],z)=((jJ mk x ([],z)).1,(jJ mk x ([],z)).2)from rfl,show jJ mk (es x) ([],y)=((jJ mk x ([],z)).1,(jJ mk (es x) ([],y)).2) by rw[h.1]];exact Zq g2 h.2
def Zq:∀{L:List Nd}{l p:List BA}{lo b:Nat}{z y:Fl},pV lo L b->nW lo z y->nW b (Ee ty mk L l (p,z)) (Ee ty mk (bB L) l (p,y))
 |[],_,_,_,_,_,_,g,r=>by simp only[Ee,bB];exact r.mono g|x::l,_,_,_,_,_,_,⟨m,g1,g2⟩,r=>by simp only[Ee,bB];exact Ku g2<|lj g1 r
end
def Rs:∀{vs:List Pu.Tok}{p:List BA}{lo b:Nat}{z y:Fl},AsV lo vs b->nW lo z y->nW b (F9 p vs z) (F9 p (vs.map λv=>Uo v.text) y)
 |[],_,_,_,_,_,g,r=>r.mono g|v::l,_,_,_,_,_,g,r=>Rs (vs:=l) g.2<|r.tell g.1 _ aD _ _
def Ru(u:Sy):∀{ms:List Nd}{lo b:Nat}{q:BA->Option Nat}{z y:Fl},(∀m∈ms,Zr m=2)->pV lo ms b->nW lo z y->(xG u ty own ms (q,z)).1=(xG u ty own (bB ms) (q,y)).1/\nW b (xG u ty own ms (q,z)).2 (xG u ty own (bB ms) (q,y)).2
 |[],_,_,_,_,_,_,g,r=>⟨rfl,r.mono g⟩|.mk k s n L f t a::l,lo,b,q,z,y,hk,⟨m,g1,g2⟩,r=>by
  obtain rfl:k=2:=hk (.mk k s n L f t a) ag;obtain⟨d,rfl,e⟩:lo<=f/\f=a/\pV f L m:=by unfold Ag at g1;rw[if_pos ag]at g1;exact g1
  simp only[bB,es];unfold xG;rw[nr];exact Ru u (λx hx=>hk x<|by simp[hx]) g2<|sY e<|r.tell d _ aD _ _
end
def Al(u:Sy):∀{l:List Dc}{lo i:Nat}{e d:SE},(∀x∈l,D3 x)->Za lo l i->e.ty=d.ty/\e.mks=d.mks/\e.nm=d.nm->nW lo e.f d.f->nW i (fQ u l e).f (fQ u (l.map eD) d).f
 |[],_,_,_,_,_,g,_,r=>r.mono g|.ty t vs ms::l,lo,i,e,d,hd,⟨g1,m,p,g2,g3,g4⟩,⟨e1,e2,e3⟩,r=>by
  have j:D3 (.ty t vs ms):=hd _ ag;have o:∀m∈ms,Zr m=2:=λm hm=>by obtain⟨_,_,_,_,_,rfl,_⟩:=j.2.2.2.2 m hm;rfl
  have n:(vs.map λv=>Uo v.text).map (λv=>v.text)=vs.map λv=>v.text:=by simp[Uo]
  have h:=Ru u (ty:=u e.ty t.text vs.length) (own:=vs.map λv=>v.text) (q:=e.mks) o g3<|Rs (p:=[]) g2<|r.tell g1 (e.ty t.text).isSome (k:=4) aD t.to 0;refine Al u (l:=l) (λx hx=>hd x<|by simp[hx]) g4 ⟨?_,?_,e3⟩ ?_
  .simp only[Ow,eD,e1,ja];rfl
  .simp only[Ow,eD,ja,n,<-e1,<-e2];exact h.1
  .simp only[Ow,eD,ja,n,<-e1,<-e2];exact h.2
 |.lt q t b::l,lo,i,e,d,hd,⟨p,g1,g2⟩,⟨e1,e2,e3⟩,r=>by
  refine Al u (l:=l) (λx hx=>hd x<|by simp[hx]) g2 ⟨e1,e2,?_⟩ ?_
  .simp only[Ow,eD,e3];rfl
  .simp only[Ow,eD,<-e1,<-e2,<-e3];exact lj g1 r
def NI{s i:BA}{l d:List Dc}(h:bq s=.ok l)(j:bq i=.ok d)(e:d.map eD=l.map eD):(fQ iy d yx).f.kind=(fQ iy l yx).f.kind:=by
 have b:∀{s:BA}{l:List Dc},bq s=.ok l->(fQ iy l yx).f.kind=(fQ iy (l.map eD) yx).f.kind:=λh=>by
  have⟨hi,g⟩:=Zc h;exact(Al iy (z_ h).1 g ⟨rfl,rfl,rfl⟩ ⟨rfl,λq=>absurd rfl q⟩).1
 rw[b h,b j,e]
end Go.Proofs.YtonaidfgokhmoaaGreatDoor
