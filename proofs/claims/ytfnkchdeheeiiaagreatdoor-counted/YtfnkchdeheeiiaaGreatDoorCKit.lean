import Derived.JoinedOf
import Derived.Test.YtfnkchdeheeiiaaGreatDoorRows
import Derived.WalkLawsBesides
import Derived.WalkSpells
set_option linter.all false
set_option maxRecDepth 100000
set_option maxHeartbeats 200000
namespace Go.Proofs.YtfnkchdeheeiiaaGreatDoor
open Or renaming inr->ja,inl->jc
open _root_.List renaming foldl_cons->jd,map_cons->jf
open _root_.Nat renaming lt_of_lt_of_le->jh
open Go
variable {c d:ByteArray} {P:List (Nat×Nat)} {xs:List Value} {a b base h k m n v x:Nat} {E:Nat->Nat->Prop} {e:TypeId} {w:World}
section
open Go.RowKit
def QR(w:World)(C:List Value)t:∀j u,C[j]? =some u->(w.alloc<|.cells C.toArray t).cell? ((⟨w.heap.size,0,none⟩:Addr).add j)=some u:=by
 intro j u hj;rw[Addr.add];split
 .next h=>subst h;simpa using hj
 .simpa using hj
def lh{w'}{size}{v}(h:w.ownsRow base e size v n xs)(hb:Below w.heap.size w w'):w'.ownsRow base e size v n xs:=by
 obtain⟨h1,h2⟩:=h;refine⟨h1,?_⟩;obtain h2|⟨g,cap,mL,hv,hg,hh,r⟩:=h2
 .exact jc h2
 .refine ja ⟨g,cap,mL,hv,hg,?_,r⟩;have bA:g<w.heap.size:=by
   have:=Array.getElem?_eq_some_iff.1 hh;exact this.1
  rw[hb.block g bA,hh]
def nC(w:World)(C:List Value)t b(hb:b=w.heap.size):∀j u,C[j]? =some u->(w.alloc<|.cells C.toArray t).cell? ((⟨b,0,none⟩:Addr).add j)=some u:=by
 subst hb;exact QR w C t
def fk{size}{v}(h:w.ownsRow base e size v n xs):∀k,v.ownBlock=some k->base<=k/\k<w.heap.size:=by
 intro k hk;obtain⟨h1,h2⟩:=h;obtain⟨rfl,_⟩|⟨g,cap,mL,rfl,hg,hh,r⟩:=h2
 .simp[Value.ownBlock]at hk
 .simp[Value.ownBlock]at hk;subst hk;exact⟨hg,(Array.getElem?_eq_some_iff.1 hh).1⟩
end
namespace Un
inductive Ty where
 |var(n:Nat):Ty
 |aH(c:ByteArray)(l:List Ty):Ty
mutual
def sub(σ:Nat->Ty):Ty->Ty
 |.var n=>σ n|.aH c l=>.aH c<|aS σ l
def aS(σ:Nat->Ty):List Ty->List Ty
 |[]=>[]|t::l=>sub σ t::aS σ l
end
mutual
def size:Ty->Nat
 |.var _=>1|.aH _ l=>1+ah l
def ah:List Ty->Nat
 |[]=>0|t::l=>size t+ah l
end
mutual
def aD(v:Nat):Ty->Prop
 |.var n=>n=v|.aH _ l=>bK v l
def bK(v:Nat):List Ty->Prop
 |[]=>False|t::l=>aD v t\/bK v l
end
def seen l(v:Nat):=if v∈l then l else l++[v]
mutual
def vars(a:List Nat):Ty->List Nat
 |.var n=>seen a n|.aH _ l=>bm a l
def bm(a:List Nat):List Ty->List Nat
 |[]=>a|t::l=>bm (vars a t) l
end
def gY(σ:Nat->Ty):∀l,aS σ l=l.map (sub σ)
 |[]=>rfl|t::l=>by simp[aS,gY σ l]
def dV σ l:(aS σ l).length=l.length:=by simp[gY]
mutual
theorem sub_sub(τ σ:Nat->Ty):∀t,sub τ (sub σ t)=sub (λn=>sub τ<|σ n) t
 |.var n=>by simp[sub]|.aH c l=>by simp[sub,wZ τ σ l]
theorem wZ(τ σ:Nat->Ty):∀l,aS τ (aS σ l)=aS (λn=>sub τ<|σ n) l
 |[]=>by simp[aS]|t::l=>by simp[aS,sub_sub τ σ t,wZ τ σ l]
end
mutual
def dq:∀t,sub Ty.var t=t
 |.var n=>by simp[sub]|.aH c l=>by simp[sub,EL l]
def EL:∀l,aS Ty.var l=l
 |[]=>by simp[aS]|t::l=>by simp[aS,dq t,EL l]
end
mutual
theorem sub_congr{σ τ:Nat->Ty}:∀t,(∀n,aD n t->σ n=τ n)->sub σ t=sub τ t
 |.var n,h=>by simpa[sub]using h n (by simp[aD])|.aH c l,h=>by simp[sub,pH l<|λn hn=>h n<|by simpa[aD]using hn]
theorem pH{σ τ:Nat->Ty}:∀l,(∀n,bK n l->σ n=τ n)->aS σ l=aS τ l
 |[],_=>by simp[aS]|t::l,h=>by simp[aS,sub_congr t<|λn hn=>h n<|jc hn,pH l<|λn hn=>h n<|ja hn]
end
mutual
def MX{σ τ:Nat->Ty}:∀t,sub σ t=sub τ t->∀n,aD n t->σ n=τ n
 |.var m,h,n,hn=>by simp[aD]at hn;subst hn;simpa[sub]using h|.aH c l,h,n,hn=>EP l (by simpa[sub]using h) n (by simpa[aD]using hn)
def EP{σ τ:Nat->Ty}:∀l,aS σ l=aS τ l->∀n,bK n l->σ n=τ n
 |[],_,n,hn=>by simp[bK]at hn|t::l,h,n,hn=>by
   simp[aS]at h
   cases hn with
   |inl a=>exact MX t h.1 n a|inr a=>exact EP l h.2 n a
end
def size_pos:∀t,1<=size t
 |.var n=>by simp[size]|.aH c l=>by simp[size]<;>omega
def w_{t:Ty}:∀{l},t∈l->size t<=ah l
 |a::l,h=>by
   simp[ah]
   cases List.mem_cons.1 h with
   |inl e=>subst e;omega|inr e=>have:=w_ e;omega
mutual
def ER(σ:Nat->Ty)(v:Nat):∀t,aD v t->size (σ v)<=size (sub σ t)
 |.var n,h=>by simp[aD]at h;subst h;simp[sub]|.aH c l,h=>by have:=iS σ v l (by simpa[aD]using h);simp[sub,size];omega
def iS(σ:Nat->Ty)(v:Nat):∀l,bK v l->size (σ v)<=ah (aS σ l)
 |[],h=>by simp[bK]at h|t::l,h=>by
   simp[aS,ah]
   cases h with
   |inl a=>have:=ER σ v t a;omega|inr a=>have:=iS σ v l a;omega
end
def QS{σ}{l}(h:bK v l):σ v≠sub σ (.aH c l):=λe=>by
 have:=iS σ v l h;have e':=congrArg size e;simp[sub,size]at e';omega
def ET{a:List Nat}:n∈seen a v↔n∈a\/n=v:=by
 rw[seen];split
 .grind
 .simp
mutual
def bI:∀(t:Ty)(a:List Nat)(n:Nat),n∈vars a t↔n∈a\/aD n t
 |.var m,a,n=>by simp[vars,aD,ET,eq_comm]|.aH c l,a,n=>by simp[vars,aD,As l a n]
def As:∀(l:List Ty)(a:List Nat)(n:Nat),n∈bm a l↔n∈a\/bK n l
 |[],a,n=>by simp[bm,bK]|t::l,a,n=>by simp[bm,bK,As l,bI t,or_assoc]
end
def JZ{a:List Nat}(h:a.Nodup)v:(seen a v).Nodup:=by
 rw[seen];split
 .exact h
 .rename_i hv;rw[List.nodup_append];refine⟨h,by simp,?_⟩;intro x hx y hy e;simp at hy;subst e;subst hy;exact hv hx
mutual
theorem dx:∀(t:Ty){a:List Nat},a.Nodup->(vars a t).Nodup
 |.var m,a,h=>by simpa[vars]using JZ h m|.aH c l,a,h=>by simpa[vars]using tW l h
theorem tW:∀(l:List Ty){a:List Nat},a.Nodup->(bm a l).Nodup
 |[],a,h=>by simpa[bm]using h|t::l,a,h=>by simpa[bm]using tW l (dx t h)
end
def UZ a v:a<+:seen a v:=by
 rw[seen];split
 .grind
 .grind
mutual
def U0:∀(t:Ty)(a:List Nat),a<+:vars a t
 |.var m,a=>by simpa[vars]using UZ a m|.aH c l,a=>by simpa[vars]using oH l a
def oH:∀(l:List Ty)(a:List Nat),a<+:bm a l
 |[],a=>by simp[bm]|t::l,a=>by simpa[bm]using(U0 t a).trans (oH l _)
end
end Un
namespace Un
abbrev ot:ByteArray:=⟨#[62]⟩
abbrev lT:ByteArray:=⟨#[44]⟩
def par p(s:List UInt8):=if p=true then 40::(s++[41])else s
def nth(ps:List (Nat->List UInt8))i:=ps.getD i λ_=>[]
def bz c ps tight:=
 if c=ot then par (decide (0<tight)) (nth ps 0 1++([32,45,62,32]++nth ps 1 0))
 else if c=lT then 40::(nth ps 0 0++([44,32]++(nth ps 1 0++[41])))
 else par (decide (1<tight)&& !ps.isEmpty) (c.toList++ps.flatMap λp=>32::p 2)
section
variable (dec:Nat->List UInt8)
mutual
def wr(L:List Nat):Ty->Nat->List UInt8
 |.var n=>λ_=>39::118::dec (L.idxOf n)|.aH c l=>bz c<|EU L l
def EU(L:List Nat):List Ty->List (Nat->List UInt8)
 |[]=>[]|t::l=>wr L t::EU L l
end
def written(t:Ty):List UInt8:=wr dec (vars [] t) t 0
def MY{v:Nat}:∀{a b:List Nat},a<+:b->v∈a->b.idxOf v=a.idxOf v
 |[],_,_,h=>by simp at h|x::a,b,h,hv=>by
   obtain⟨r,rfl⟩:=h;by_cases e:x=v
   .subst e;simp
   .have b1:(x==v)=false:=by simpa using e
    have hv':v∈a:=by
     cases List.mem_cons.1 hv with
     |inl k=>exact absurd k.symm e|inr k=>exact k
    have:=MY (List.prefix_append a r) hv';simp only[List.cons_append,List.idxOf_cons,b1,this]
mutual
def U6{a b:List Nat}(h:a<+:b):∀t,(∀n,aD n t->n∈a)->wr dec b t=wr dec a t
 |.var n,k=>by simp only[wr,MY h<|k n<|by simp[aD]]|.aH c l,k=>by simp only[wr,MZ h l<|λn hn=>k n<|by simpa[aD]using hn]
def MZ{a b:List Nat}(h:a<+:b):∀l,(∀n,bK n l->n∈a)->EU dec b l=EU dec a l
 |[],_=>by simp[EU]|t::l,k=>by simp only[EU,U6 h t<|λn hn=>k n<|jc hn,MZ h l<|λn hn=>k n<|ja hn]
end
end
end Un
namespace Un
structure sk(K:Nat->Option Ty)(R:Nat->Ty)(rk:Nat->Nat):Prop where
 open_:∀n,K n=none->R n=.var n
 shut:∀n t,K n=some t->R n=sub R t
 U7:∀n u,K n=some (.var u)->rk u<rk n
def sk.start:sk (λ_=>none) Ty.var (λ_=>0):=⟨λ_ _=>rfl,λ_ _ h=>by simp at h,λ_ _ h=>by simp at h⟩
def dQ{α:Type}(K:Nat->α)a t:=λn=>if n=a then t else K n
def qY a(B:Ty):=λn=>if n=a then B else .var n
def EV{B t:Ty}(h:¬aD a t):sub (qY a B) t=t:=by
 refine(sub_congr t λn hn=>?_).trans (dq t);have:n≠a:=λe=>h<|e▸hn;simp[qY,this]
def U8{B t:Ty}{σ:Nat->Ty}(h:σ a=sub σ B):sub σ (sub (qY a B) t)=sub σ t:=by
 rw[sub_sub];refine sub_congr t λn _=>?_;by_cases e:n=a
 .subst e;simp[qY,h]
 .simp[qY,e,sub]
def sk.bind{K:Nat->Option Ty}{R:Nat->Ty}{rk}(h:sk K R rk){b:Ty}(ha:K a=none)(hn:¬aD a (sub R b))(hb:∀u,b=.var u->K u=none):
 ∃M5,sk (dQ K a<|some b) (λn=>sub (qY a<|sub R b)<|R n) M5:=by
 have hN:∀t,sub (λn=>sub (qY a<|sub R b)<|R n) t=sub (qY a<|sub R b) (sub R t):=λt=>(sub_sub _ _ t).symm
 classical
 refine⟨λn=>if R n=.var a then rk n+(match b with|.var u=>rk u+1|.aH _ _=>0)else rk n,?_,?_,?_⟩
 .intro n QT;by_cases e:n=a
  .simp[dQ,e]at QT
  .simp[dQ,e]at QT;simp[h.open_ n QT,sub,qY,e]
 .intro n t ht;by_cases e:n=a
  .subst e;simp[dQ]at ht;subst ht;simp only[hN];rw[EV hn,h.open_ n ha];simp[sub,qY]
  .simp[dQ,e]at ht;simp only[hN];rw[h.shut n t ht]
 .intro n u ht;by_cases e:n=a
  .subst e;simp[dQ]at ht;subst ht;have h1:=h.open_ n ha;have h2:=h.open_ u<|hb u rfl;have h3:¬u=n:=λe=>hn (by rw[sub,h2,aD];exact e);simp[h1,h2,h3];omega
  .simp[dQ,e]at ht;have h1:=h.U7 n u ht;have h2:R n=R u:=by simpa[sub]using h.shut n _ ht
   simp only[h2];split<;>omega
structure Made(R R':Nat->Ty)a b:Prop where
 same:sub R' a=sub R' b
 of_:∃δ,∀n,R' n=sub δ (R n)
 least:∀σ,sub σ (sub R a)=sub σ (sub R b)->∀n,sub σ (R' n)=sub σ (R n)
def Made.refl{R:Nat->Ty}{a b:Ty}(h:sub R a=sub R b):Made R R a b:=⟨h,⟨Ty.var,λ_=>(dq _).symm⟩,λ_ _ _=>rfl⟩
def Made.swap{R R':Nat->Ty}{a b:Ty}(h:Made R R' a b):Made R R' b a:=⟨h.same.symm,h.of_,λσ e=>h.least σ e.symm⟩
def Made.aaj{R R':Nat->Ty}{a b a' b':Ty}(h:Made R R' a' b')(ea:sub R a'=sub R a)(eb:sub R b'=sub R b):Made R R' a b:=by
 obtain⟨h1,⟨δ,h2⟩,h3⟩:=h;have hN:∀t,sub R' t=sub δ (sub R t):=λt=>by rw[sub_sub];exact sub_congr t λn _=>h2 n
 refine⟨?_,⟨δ,h2⟩,λσ e=>h3 σ (by rw[ea,eb];exact e)⟩;rw[hN a,hN b,<-ea,<-eb,<-hN,<-hN,h1]
def Made.bind{K:Nat->Option Ty}{R:Nat->Ty}{rk}(h:sk K R rk){b:Ty}(ha:K a=none)(hn:¬aD a (sub R b)):
 Made R (λn=>sub (qY a<|sub R b)<|R n) (.var a) b:=by
 have hN:∀t,sub (λn=>sub (qY a<|sub R b)<|R n) t=sub (qY a<|sub R b) (sub R t):=λt=>(sub_sub _ _ t).symm;refine⟨?_,⟨_,λn=>rfl⟩,λσ e n=>U8 ?_⟩
 .rw[hN,hN,EV hn];simp[sub,h.open_ a ha,qY]
 .simpa[sub,h.open_ a ha]using e
def aak{K:Nat->Option Ty}{R:Nat->Ty}{rk}(h:sk K R rk){l}(ha:K a=none)(hn:aD a (sub R<|.aH c l))σ:
 sub σ (sub R<|.var a)≠sub σ (sub R<|.aH c l):=by
 have e1:sub R (.var a)=.var a:=by simpa[sub]using h.open_ a ha
 rw[e1];simp only[sub,aD]at hn⊢;have:=QS (σ:=σ) (c:=c) hn;simpa[sub]using this
structure nD(R R':Nat->Ty)a b:Prop where
 same:aS R' a=aS R' b
 of_:∃δ,∀n,R' n=sub δ (R n)
 least:∀σ,aS σ (aS R a)=aS σ (aS R b)->∀n,sub σ (R' n)=sub σ (R n)
def M6{R R' δ:Nat->Ty}(h:∀n,R' n=sub δ (R n))l:aS R' l=aS δ (aS R l):=by
 rw[wZ];exact pH l λn _=>h n
def nD.nil R:nD R R [] []:=⟨rfl,⟨Ty.var,λ_=>(dq _).symm⟩,λ_ _ _=>rfl⟩
def cD σ a b:aS σ (a++b)=aS σ a++aS σ b:=by simp[gY]
def nD.snoc{R R' R'':Nat->Ty}{a b}{x y:Ty}(hl:a.length=b.length)(h:nD R R' a b)(k:Made R' R'' x y):nD R R'' (a++[x]) (b++[y]):=by
 have⟨δ,h2⟩:=h.of_;have⟨ε,k2⟩:=k.of_;refine⟨?_,⟨λn=>sub ε<|δ n,λn=>?_⟩,λσ e n=>?_⟩
 .rw[cD,cD,M6 k2 a,M6 k2 b,h.same];simp[aS,k.same]
 .rw[k2 n,h2 n,sub_sub]
 .rw[cD,cD,cD,cD]at e;have e1:=List.append_inj e (by simp[dV,hl]);have e2:=h.least σ e1.1;have e3:sub σ (sub R' x)=sub σ (sub R' y):=by
   have:∀t,sub σ (sub R' t)=sub σ (sub R t):=λt=>by
    rw[sub_sub,sub_sub];exact sub_congr t λn _=>e2 n
   rw[this,this];simpa[aS]using e1.2
  rw[k.least σ e3 n,e2 n]
def nD.aH{R R':Nat->Ty}{a b}c(h:nD R R' a b):Made R R' (.aH c a) (.aH c b):=
 ⟨by simp[sub,h.same],h.of_,λσ e=>h.least σ<|by simpa[sub]using e⟩
def nD.no{R R':Nat->Ty}{a b a' b'}{x y:Ty}(hl:a.length=b.length)(h:nD R R' a b)(k:∀σ,sub σ (sub R' x)≠sub σ (sub R' y))c d σ:
 sub σ (sub R<|.aH c (a++x::a'))≠sub σ (sub R<|.aH d (b++y::b')):=by
 intro e;simp only[sub,Ty.aH.injEq]at e;have e:=e.2;rw[cD,cD,cD,cD]at e;have e1:=List.append_inj e (by simp[dV,hl]);have e2:=h.least σ e1.1;refine k σ ?_;have:∀t,sub σ (sub R' t)=sub σ (sub R t):=λt=>by
  rw[sub_sub,sub_sub];exact sub_congr t λn _=>e2 n
 rw[this,this];have e3:=e1.2;simp only[aS,List.cons.injEq]at e3;exact e3.1
def J4{R σ:Nat->Ty}{a b}(h:c≠d):sub σ (sub R<|.aH c a)≠sub σ (sub R<|.aH d b):=λe=>by
 simp only[sub,Ty.aH.injEq]at e;exact h e.1
def QU{R σ:Nat->Ty}{a b}(h:a.length≠b.length):sub σ (sub R<|.aH c a)≠sub σ (sub R<|.aH d b):=λe=>by
 simp only[sub,Ty.aH.injEq]at e;have:=congrArg List.length e.2;simp[dV]at this;exact h this
end Un
namespace Un
inductive gJ{α β:Type}(E:α->β->Prop):List α->List β->Prop where
 |nil:gJ E [] []
 |cons{x:α}{y:β}{l:List α}{k:List β}:E x y->gJ E l k->gJ E (x::l) (y::k)
abbrev vB:=Nat->Option (ByteArray×List Nat)
abbrev Nx:=Nat->Option Nat
structure lM(str:vB)(nx:Nx)(V:Nat->Ty):Prop where
 made:∀n c l,str n=some (c,l)->V n=.aH c (l.map V)
 bz:∀n m,nx n=some m->V n=V m
structure Eq(nx:Nx)(P:List (Nat×Nat))(E:Nat->Nat->Prop):Prop where
 refl:∀n,E n n
 symm:∀m n,E m n->E n m
 trans:∀k m n,E k m->E m n->E k n
 bz:∀n m,nx n=some m->E n m
 U9:∀m n,(m,n)∈P->E m n
def tX(str:vB)nx P:=
 ∀E,Eq nx P E->∀n m c l,nx n=some m->str n=some (c,l)->∃l',str m=some (c,l')/\gJ E l l'
def tX.start str P:tX str (λ_=>none) P:=by grind[tX]
def qZ{E:Nat->Nat->Prop}(h:∀n,E n n):∀l,gJ E l l
 |[]=>.nil|x::l=>.cons (h x)<|qZ h l
def kH{E:Nat->Nat->Prop}(h:∀k m n,E k m->E m n->E k n):∀{a b c:List Nat},gJ E a b->gJ E b c->gJ E a c
 |[],_,_,.nil,.nil=>.nil|_::_,_,_,.cons p q,.cons r s=>.cons (h _ _ _ p r)<|kH h q s
def tY{E:Nat->Nat->Prop}:∀{a b:List Nat},a.length=b.length->(∀x y,(x,y)∈a.zip b->E x y)->gJ E a b
 |[],[],_,_=>.nil|x::a,y::b,h,k=>.cons (k x y<|by simp) (tY (by simpa using h) λx' y' h'=>k x' y'<|by simp[h'])
def tZ{E:Nat->Nat->Prop}{V:Nat->Ty}(h:∀m n,E m n->V m=V n):∀{a b:List Nat},gJ E a b->a.map V=b.map V
 |[],_,.nil=>rfl|_::_,_,.cons p q=>by simp[h _ _ p,tZ h q]
section
variable {str:vB} {nx:Nx}
def lM.join(ha:nx a=none){V:Nat->Ty}:lM str (dQ nx a<|some b) V↔lM str nx V/\V a=V b:=by
 constructor
 .intro h;refine⟨⟨h.made,λn m e=>?_⟩,h.bz a b<|by simp[dQ]⟩;by_cases k:n=a
  .grind
  .exact h.bz n m (by simpa[dQ,k]using e)
 .rintro⟨h,e⟩;refine⟨h.made,λn m k=>?_⟩;by_cases j:n=a
  .subst j;simp[dQ]at k;subst k;exact e
  .exact h.bz n m (by simpa[dQ,j]using k)
def Eq.iJ(ha:nx a=none)(h:Eq (dQ nx a<|some b) P E):Eq nx P E/\E a b:=by
 refine⟨⟨h.refl,h.symm,h.trans,λn m e=>h.bz n m ?_,h.U9⟩,h.bz a b<|by simp[dQ]⟩;by_cases k:n=a
 .grind
 .simpa[dQ,k]using e
def tX.var(h:tX str nx P)(ha:nx a=none)(hs:str a=none):tX str (dQ nx a<|some b) P:=by
 intro E hE n m c l e1 e2;by_cases k:n=a
 .grind
 .exact h E (hE.iJ ha).1 n m c l (by simpa[dQ,k]using e1) e2
def tX.aH{l l':List Nat}(h:tX str nx P)(ha:nx a=none)(hs:str a=some (c,l))(iD:str b=some (c,l'))(hl:l.length=l'.length):
 tX str (dQ nx a<|some b) (l.zip l'++P):=by
 intro E hE n m c' k e1 e2;have h1:=(hE.iJ ha).1;by_cases j:n=a
 .subst j;simp[dQ]at e1;subst e1;rw[hs]at e2;injection e2 with e2;injection e2 with e2 e3;subst e2;subst e3;exact⟨l',iD,tY hl λx y hx=>hE.U9 x y<|List.mem_append_left _ hx⟩
 .exact h E ⟨h1.refl,h1.symm,h1.trans,h1.bz,λm n k=>hE.U9 m n<|List.mem_append_right _ k⟩ n m c' k (by simpa[dQ,j]using e1) e2
def Cr{p:Prop}(h:p:=by
 exact h.bz x y<|by simpa[dQ,j]using e):p:=h
def lM.short(h1:nx n=some m)(h2:nx m=some k)(dw:n≠m){V:Nat->Ty}:lM str (dQ nx n<|some k) V↔lM str nx V:=by
 constructor
 .intro h;have hm:=h.bz m k (by simp[dQ,Ne.symm dw,h2]);have hn:=h.bz n k (by simp[dQ]);refine⟨h.made,λx y e=>?_⟩;by_cases j:x=n
  .grind
  .exact Cr
 .intro h;refine⟨h.made,λx y e=>?_⟩;by_cases j:x=n
  .subst j;simp[dQ]at e;subst e;rw[h.bz x m h1,h.bz m _ h2]
  .exact Cr
def Eq.EW(h1:nx n=some m)(h2:nx m=some k)(dw:n≠m)(h:Eq (dQ nx n<|some k) P E):Eq nx P E:=by
 refine⟨h.refl,h.symm,h.trans,λx y e=>?_,h.U9⟩;by_cases j:x=n
 .subst j;rw[h1]at e;injection e with e;subst e;exact h.trans _ k _ (h.bz _ k<|by simp[dQ]) (h.symm _ _<|h.bz _ k<|by simp[dQ,Ne.symm dw,h2])
 .exact Cr
def tX.short(h:tX str nx P)(h1:nx n=some m)(h2:nx m=some k)(dw:n≠m):tX str (dQ nx n<|some k) P:=by
 intro E hE x y c l e1 e2;have hE':=hE.EW h1 h2 dw;by_cases j:x=n
 .subst j;simp[dQ]at e1;subst e1;have⟨l1,a1,a2⟩:=h E hE' x m c l h1 e2;have⟨l2,b1,b2⟩:=h E hE' m _ c l1 h2 a1;exact⟨l2,b1,kH hE.trans a2 b2⟩
 .exact h E hE' x y c l (by simpa[dQ,j]using e1) e2
def tX.ain{Q}(h:tX str nx (Q++P))(k:∀E,Eq nx P E->∀m n,(m,n)∈Q->E m n):tX str nx P:=by
 intro E hE
 exact h E ⟨hE.refl,hE.symm,hE.trans,hE.bz,λm n hm=>by
  cases List.mem_append.1 hm with
  |inl a=>exact k E hE m n a|inr a=>exact hE.U9 m n a⟩
end
inductive Hd(nx:Nx):Nat->Nat->Prop where
 |here{n:Nat}:nx n=none->Hd nx n n
 |step{n m h:Nat}:nx n=some m->Hd nx m h->Hd nx n h
def Hd.head{nx}(k:Hd nx n h):nx h=none:=by
 induction k with
 |here e=>exact e|step _ _ ih=>exact ih
def Hd.one{nx}{h'}(k:Hd nx n h)(j:Hd nx n h'):h=h':=by
 induction k with
 |here e=>cases j with
  |here=>rfl|step e' _=>grind
 |step e _ ih=>cases j with
  |here e'=>grind|step e' j=>grind
def Hd.mF{str}{nx}{V:Nat->Ty}(s:lM str nx V)(k:Hd nx n h):V n=V h:=by
 induction k with
 |here=>rfl|step e _ ih=>rw[s.bz _ _ e,ih]
def Hd.eq{nx}(s:Eq nx P E)(k:Hd nx n h):E n h:=by
 induction k with
 |here=>exact s.refl _|step e _ ih=>exact s.trans _ _ _ (s.bz _ _ e) ih
def Hd.q_{nx}(k:Hd nx n h)(e:nx n=some m):Hd nx m h:=by
 cases k with
 |here e'=>grind|step e' k=>grind
def Hd.short{nx}(h1:nx n=some m)(h2:nx m=some k)(j:Hd nx x h):Hd (dQ nx n<|some k) x h:=by
 induction j with
 | @here x e=>
   have:x≠n:=λe'=>by subst e';rw[h1]at e;simp at e
   exact .here (by simpa[dQ,this]using e)
 | @step x y h e j ih=>
   by_cases c:x=n
   .subst c;rw[h1]at e;injection e with e;subst e;by_cases c2:m=x
    .subst c2;exact ih
    .exact .step (m:=k) (by simp[dQ]) (ih.q_<|by simp[dQ,c2,h2])
   .exact .step (m:=y) (by simpa[dQ,c]using e) ih
def Hd.join{nx}(ha:nx a=none)(hb:nx b=none)(dw:a≠b)(j:Hd nx x h):Hd (dQ nx a<|some b) x (if h=a then b else h):=by
 induction j with
 | @here x e=>
   by_cases c:x=a
   .subst c;simp;exact .step (m:=b) (by simp[dQ]) (.here<|by simp[dQ,Ne.symm dw,hb])
   .simp[c];exact .here (by simpa[dQ,c]using e)
 | @step x y h e j ih=>
   have c:x≠a:=λc=>by subst c;rw[ha]at e;simp at e
   exact .step (m:=y) (by simpa[dQ,c]using e) ih
def xA nx m n:=m=n\/∃h,Hd nx m h/\Hd nx n h
def xA.is{nx}(t:∀n m,nx n=some m->∃h,Hd nx n h):Eq nx [] (xA nx):=by
 refine⟨λn=>jc rfl,?_,?_,?_,λ_ _ h=>by simp at h⟩
 .rintro m n(h|⟨h,a,b⟩)
  .exact jc h.symm
  .exact ja ⟨h,b,a⟩
 .rintro k m n(rfl|⟨h,a,b⟩)
  .exact id
  .rintro(rfl|⟨h',a',b'⟩)
   .exact ja ⟨h,a,b⟩
   .have:=b.one a';subst this;exact ja ⟨h,a,b'⟩
 .intro n m e;have⟨h,hh⟩:=t n m e;exact ja ⟨h,hh,hh.q_ e⟩
def Fin(str:vB)nx(vr:Nat->Nat)(F:Nat->Prop)(V:Nat->Ty):=
 ∀h,F h->nx h=none/\match str h with
  |none=>V h=.var (vr h)|some (c,l)=>∃hs,gJ (Hd nx) l hs/\(∀x,x∈hs->F x)/\V h=.aH c (hs.map V)
def l8{V:Nat->Ty}:∀{l:List Nat}{x},x∈l->size (V x)<=ah (l.map V)
 |_,_,h=>w_<|List.mem_map.2 ⟨_,h,rfl⟩
structure Of(str:vB)(vr:Nat->Nat)(D:Nat->Prop)(ty:Nat->Ty):Prop where
 var:∀n,D n->str n=none->ty n=.var (vr n)
 aH:∀n c l,str n=some (c,l)->D n/\ty n=.aH c (l.map ty)/\∀x,x∈l->D x
 one:∀m n,D m->D n->str m=none->str n=none->vr m=vr n->m=n
def dW{V W:Nat->Ty}:∀{l:List Nat},(∀x,x∈l->V x=W x)->l.map V=l.map W
 |[],_=>rfl|x::l,h=>by
   have k:=dW (V:=V) (W:=W) (l:=l) λy hy=>h y<|List.mem_cons_of_mem _ hy;simp[h x<|by simp,k]
def iT σ V(l:List Nat):aS σ (l.map V)=l.map λx=>sub σ<|V x:=by
 rw[gY,List.map_map];rfl
end Un
namespace Un
def qD:ByteArray:=⟨#[116,111,111,32,108,97,114,103,101]⟩
mutual
def sz:Ty->Nat
 |.var _=>1|.aH c l=>if c=qD then 49 else 1+pI l
def pI:List Ty->Nat
 |[]=>0|t::l=>sz t+pI l
end
mutual
def Whole:Ty->Prop
 |.var _=>True|.aH c l=>c≠qD/\jD l
def jD:List Ty->Prop
 |[]=>True|t::l=>Whole t/\jD l
end
mutual
theorem nE:∀t,Whole t->sz t=size t
 |.var n,_=>by simp[sz,size]|.aH c l,h=>by simp only[sz,size];rw[if_neg h.1,At l h.2]
theorem At:∀l,jD l->pI l=ah l
 |[],_=>by simp[pI,ah]|t::l,h=>by simp only[pI,ah];rw[nE t h.1,At l h.2]
end
mutual
def ace:∀t,sz t<=49*size t
 |.var n=>by simp[sz,size]|.aH c l=>by
  have:=J6 l;simp only[sz,size];split<;>omega
def J6:∀l,pI l<=49*ah l
 |[]=>by simp[pI,ah]|t::l=>by have:=ace t;have:=J6 l;simp only[pI,ah];omega
end
mutual
def bX{σ:Nat->Ty}:∀t,Whole t->(∀n,aD n t->Whole (σ n))->Whole (sub σ t)
 |.var n,_,k=>k n rfl|.aH c l,h,k=>⟨h.1,xB l h.2 λn hn=>k n hn⟩
def xB{σ:Nat->Ty}:∀l,jD l->(∀n,bK n l->Whole (σ n))->jD (aS σ l)
 |[],_,_=>trivial|t::l,h,k=>⟨bX t h.1 λn hn=>k n<|jc hn,xB l h.2 λn hn=>k n<|ja hn⟩
end
mutual
theorem EX:∀t,sz t<=48->Whole t
 |.var n,_=>trivial|.aH c l,h=>by
  by_cases e:c=qD
  .simp only[sz]at h;rw[if_pos e]at h;omega
  .simp only[sz]at h;rw[if_neg e]at h;exact⟨e,Au l<|by omega⟩
theorem Au:∀l,pI l<=48->jD l
 |[],_=>trivial|t::l,h=>by simp only[pI]at h;exact⟨EX t<|by omega,Au l<|by omega⟩
end
def ad9 t:1<=sz t:=by
 cases t with
 |var n=>simp[sz]|aH c l=>simp only[sz];split<;>omega
mutual
def U_(σ:Nat->Ty):∀t,sz t<=sz (sub σ t)
 |.var n=>by simpa[sub,sz]using ad9 (σ n)|.aH c l=>by
  have:=M7 σ l;simp only[sub,sz];split<;>omega
def M7(σ:Nat->Ty):∀l,pI l<=pI (aS σ l)
 |[]=>by simp[aS,pI]|t::l=>by have:=U_ σ t;have:=M7 σ l;simp only[aS,pI];omega
end
mutual
def EY(σ:Nat->Ty):∀t,size t<=size (sub σ t)
 |.var n=>by simpa[sub,size]using size_pos (σ n)|.aH c l=>by have:=Aw σ l;simp only[sub,size];omega
def Aw(σ:Nat->Ty):∀l,ah l<=ah (aS σ l)
 |[]=>by simp[aS,ah]|t::l=>by have:=EY σ t;have:=Aw σ l;simp only[aS,ah];omega
end
mutual
def gZ(σ:Nat->Ty)(C:Nat):∀t,(∀n,aD n t->size (σ n)<=C)->1<=C->size (sub σ t)<=C*size t
 |.var n,h,_=>by simpa[sub,size]using h n rfl|.aH c l,h,hC=>by
  have:=rf σ C l (λn hn=>h n hn) hC;simp only[sub,size,Nat.mul_add,Nat.mul_one];omega
def rf(σ:Nat->Ty)(C:Nat):∀l,(∀n,bK n l->size (σ n)<=C)->1<=C->ah (aS σ l)<=C*ah l
 |[],_,_=>by simp[aS,ah]|t::l,h,hC=>by
  have:=gZ σ C t (λn hn=>h n<|jc hn) hC;have:=rf σ C l (λn hn=>h n<|ja hn) hC;simp only[aS,ah,Nat.mul_add];omega
end
mutual
def U'(σ:Nat->Ty)(v:Nat):∀t,aD v t->sz (σ v)<=sz (sub σ t)\/48<sz (sub σ t)
 |.var n,h=>by simp[aD]at h;subst h;simp[sub]|.aH c l,h=>by
  simp only[sub,sz];split
  .exact ja (by omega)
  .obtain q|q:=M_ σ v l h
   .exact jc (by omega)
   .exact ja (by omega)
def M_(σ:Nat->Ty)(v:Nat):∀l,bK v l->sz (σ v)<=pI (aS σ l)\/48<pI (aS σ l)
 |[],h=>by simp[bK]at h|t::l,h=>by
  simp only[aS,pI];obtain a|a:=h
  .obtain q|q:=U' σ v t a
   .exact jc (by omega)
   .exact ja (by omega)
  .obtain q|q:=M_ σ v l a
   .exact jc (by omega)
   .exact ja (by omega)
end
mutual
def kX{n:Nat}{σ:Nat->Ty}:∀t,aD n (sub σ t)↔∃m,aD m t/\aD n (σ m)
 |.var m=>by simp[sub,aD]|.aH c l=>by simp[sub,aD,Ax l]
def Ax{n:Nat}{σ:Nat->Ty}:∀l,bK n (aS σ l)↔∃m,bK m l/\aD n (σ m)
 |[]=>by simp[aS,bK]|t::l=>by
  simp only[aS,bK,kX t,Ax l];constructor
  .rintro(⟨m,a,b⟩|⟨m,a,b⟩)
   .exact⟨m,jc a,b⟩
   .exact⟨m,ja a,b⟩
  .rintro⟨m,a|a,b⟩
   .exact jc ⟨m,a,b⟩
   .exact ja ⟨m,a,b⟩
end
def EZ{a}(h:v∈a):seen a v=a:=by simp[seen,h]
mutual
def wY:∀(t:Ty)(a:List Nat),(∀n,aD n t->n∈a)->vars a t=a
 |.var n,a,h=>EZ (h n rfl)|.aH c l,a,h=>by simpa[vars]using Ay l a λn hn=>h n hn
def Ay:∀(l:List Ty)(a:List Nat),(∀n,bK n l->n∈a)->bm a l=a
 |[],a,_=>rfl|t::l,a,h=>by
  simp only[bm];rw[wY t a λn hn=>h n<|jc hn];exact Ay l a λn hn=>h n<|ja hn
end
def rh(σ:Nat->Ty)a(l:List Nat):=l.foldl (λa v=>vars a<|σ v) a
def E9{σ:Nat->Ty}{n:Nat}:∀(l:List Nat)(a:List Nat),n∈rh σ a l↔n∈a\/∃v,v∈l/\aD n (σ v)
 |[],a=>by simp[rh]|v::l,a=>by
  have:=E9 (σ:=σ) (n:=n) l<|vars a<|σ v;simp only[rh,jd]at this⊢;rw[this,bI];constructor
  .rintro((h|h)|⟨x,h1,h2⟩)
   .exact jc h
   .exact ja ⟨v,by simp,h⟩
   .exact ja ⟨x,by simp[h1],h2⟩
  .rintro(h|⟨x,h1,h2⟩)
   .exact jc (jc h)
   .obtain e|e:=List.mem_cons.1 h1
    .subst e;exact jc<|ja h2
    .exact ja ⟨x,e,h2⟩
mutual
def E_(σ:Nat->Ty)(b:List Nat):∀(t:Ty)(a:List Nat),vars (rh σ b a) (sub σ t)=rh σ b (vars a t)
 |.var n,a=>by
  simp only[sub,vars,seen];split
  .rename_i h;exact wY _ _ λm hm=>(E9 a b).2<|ja ⟨n,h,hm⟩
  .simp[rh,List.foldl_append]
 |.aH c l,a=>by simpa[sub,vars]using Az σ b l a
def Az(σ:Nat->Ty)(b:List Nat):∀(l:List Ty)(a:List Nat),bm (rh σ b a) (aS σ l)=rh σ b (bm a l)
 |[],a=>by simp[aS,bm]|t::l,a=>by
  simp only[aS,bm];rw[E_ σ b t a];exact Az σ b l<|vars a t
end
def sJ σ a t:vars a (sub σ t)=rh σ a (vars [] t):=by simpa[rh]using E_ σ a t []
def xC{σ τ:Nat->Ty}:∀(l a:List Nat),(∀v,v∈l->∀a,vars a (σ v)=vars a (τ v))->rh σ a l=rh τ a l
 |[],a,_=>rfl|v::l,a,h=>by
  have:=xC (σ:=σ) (τ:=τ) l (vars a<|τ v) λx hx=>h x (by simp[hx]);simp only[rh,jd]at this⊢;rw[h v (by simp) a];exact this
theorem Va t a:vars a t=rh Ty.var a (vars [] t):=by simpa[dq]using sJ Ty.var a t
def dF t' t:=t'=t\/(48<sz t'/\48<size t/\vars [] t'=vars [] t)
def dF.refl t:dF t t:=jc rfl
theorem dF.vars{t' t}(h:dF t' t)a:vars a t'=vars a t:=by grind[dF,vars,Va]
def dF.acf{t' t:Ty}(h:dF t' t)(hw:Whole t):48<sz t'↔48<size t:=by grind[dF,Whole,sz,size,nE]
theorem dF.sub{t' t}{σ' σ}(h:dF t' t)(hs:∀n,aD n t->dF (σ' n) (σ n)):dF (sub σ' t') (sub σ t):=by
 have hv:Un.vars [] (Un.sub σ' t')=Un.vars [] (Un.sub σ t):=by
  rw[sJ σ' [] t',sJ σ [] t,h.vars];refine xC _ _ λv hv a=>(hs v ?_).vars a;simpa using(bI t [] v).1 hv
 obtain rfl|⟨h1,h2,_⟩:=h
 .by_cases ac_:∀n,aD n t'->σ' n=σ n
  .exact jc (sub_congr t' ac_)
  .have:∃n,aD n t'/\σ' n≠σ n:=by grind
   obtain⟨n,hn,he⟩:=this;obtain e|⟨e1,e2,_⟩:=hs n hn
   .exact absurd e he
   .refine ja ⟨?_,jh e2<|ER σ n t' hn,hv⟩;obtain q|q:=U' σ' n t' hn<;>omega
 .exact ja ⟨jh h1<|U_ σ' t',jh h2<|EY σ t,hv⟩
def bG t:=if sz t<=48 then t else .aH qD ((vars [] t).map Ty.var)
theorem AA:∀(l a:List Nat),bm a (l.map Ty.var)=l.foldl seen a
 |[],a=>rfl|v::l,a=>by simp only[jf,bm,jd,vars];exact AA l<|seen a v
theorem xD:∀(l a:List Nat),l.Nodup->(∀v,v∈l->v∉a)->l.foldl seen a=a++l
 |[],a,_,_=>by simp|v::l,a,h,k=>by
  have e:seen a v=a++[v]:=by simp[seen,k v<|by simp]
  rw[jd,e,xD l (a++[v]) (List.nodup_cons.1 h).2 ?_]
  .simp
  .grind
def gD t:vars [] (bG t)=vars [] t:=by grind[vars,bG,AA,xD,dx]
def dF.cut{t' t:Ty}(h:dF t' t)(hw:Whole t):dF (bG t') t:=by
 by_cases e:sz t'<=48
 .rw[bG];rw[if_pos e];exact h
 .refine ja ⟨by rw[bG];rw[if_neg e];simp[sz],(h.acf hw).1<|by omega,?_⟩;rw[gD];exact h.vars []
def QV{t:Ty}{C}(h:(vars [] t).length<=C)(hC:48<=C)(hw:sz t<=48->size t<=48):size (bG t)<=1+C:=by
 rw[bG];split
 .rename_i q;have:=hw q;omega
 .simp only[size];have:∀l:List Nat,ah (l.map Ty.var)=l.length:=λl=>by
   induction l with
   |nil=>rfl|cons x l ih=>simp only[jf,ah,size,ih,List.length_cons];omega
  rw[this];omega
def J7{t:Ty}(h:sz t<=48):size t<=48:=by grind[sz,size,nE,EX]
def Na{p:Prop}(h:p:=by
 refine ja ⟨?_,?_,hv⟩
 .simp only[sz];rw[if_neg hc];simp only[pI];omega
 .simp only[size,ah];omega):p:=h
def dF.adg c(hc:c≠qD){a' a b' b}(ha:dF a' a)(hb:dF b' b):dF (.aH c [a',b']) (.aH c [a,b]):=by
 have hv:Un.vars [] (.aH c [a',b'])=Un.vars [] (.aH c [a,b]):=by
  simp only[Un.vars,bm];rw[ha.vars,hb.vars]
 obtain rfl|⟨a1,a2,_⟩:=ha
 .obtain rfl|⟨b1,b2,_⟩:=hb
  .exact jc rfl
  .exact Na
 .exact Na
end Un
def eY{a b}(h:a=true)(k:b=true):(a&&b)=true:=by rw[h,k];rfl
def Cs:(laidOutB Tryz.prog)=true:=by kernel_rfl
def Nb:(mapsRowed Tryz.prog)=true:=by kernel_rfl
def cp6:((Tryz.prog.stops==[]))=true:=by kernel_rfl
def cp8:((Tryz.prog.stopKnobs==[]))=true:=by kernel_rfl
def aio:(Tryz.prog.stopsHeard)=true:=by kernel_rfl
def aip:(Tryz.prog.mayEnter)=true:=by kernel_rfl
end Go.Proofs.YtfnkchdeheeiiaaGreatDoor
