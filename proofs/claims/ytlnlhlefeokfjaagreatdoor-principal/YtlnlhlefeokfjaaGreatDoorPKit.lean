import Derived.JoinedOf
import Derived.Test.YtlnlhlefeokfjaaGreatDoorRows
import Derived.WalkLawsBesides
import Derived.WalkSpells
set_option linter.all false
set_option maxRecDepth 100000
set_option maxHeartbeats 200000
namespace Go.Proofs.YtlnlhlefeokfjaaGreatDoor
open Or renaming inr->ja,inl->jc
open _root_.List renaming mem_cons_of_mem->jd,foldl_cons->jf,map_cons->jh,idxOf_cons->ji
open _root_.Nat renaming lt_of_lt_of_le->jj,le_refl->jk
open Go
variable {c d:ByteArray} {P:List (Nat×Nat)} {l:List Nat} {xs:List Value} {a b base h k m n v x:Nat} {vr ρ:Nat->Nat} {E:Nat->Nat->Prop} {D:Nat->Prop} {e:TypeId} {w:World}
section
open Go.RowKit
def U_(w:World)(C:List Value)t:∀j u,C[j]? =some u->(w.alloc<|.cells C.toArray t).cell? ((⟨w.heap.size,0,none⟩:Addr).add j)=some u:=by
 intro j u hj;rw[Addr.add];split
 .next h=>subst h;simpa using hj
 .simpa using hj
def jX{w'}{size}{v}(h:w.ownsRow base e size v n xs)(hb:Below w.heap.size w w'):w'.ownsRow base e size v n xs:=by
 obtain⟨h1,h2⟩:=h;refine⟨h1,?_⟩;obtain h2|⟨g,cap,l_,hv,hg,hh,r⟩:=h2
 .exact jc h2
 .refine ja ⟨g,cap,l_,hv,hg,?_,r⟩;have bA:g<w.heap.size:=by
   have:=Array.getElem?_eq_some_iff.1 hh;exact this.1
  rw[hb.block g bA,hh]
def oW(w:World)(C:List Value)t b(hb:b=w.heap.size):∀j u,C[j]? =some u->(w.alloc<|.cells C.toArray t).cell? ((⟨b,0,none⟩:Addr).add j)=some u:=by
 subst hb;exact U_ w C t
def fU{size}{v}(h:w.ownsRow base e size v n xs):∀k,v.ownBlock=some k->base<=k/\k<w.heap.size:=by
 intro k hk;obtain⟨h1,h2⟩:=h;obtain⟨rfl,_⟩|⟨g,cap,l_,rfl,hg,hh,r⟩:=h2
 .simp[Value.ownBlock]at hk
 .simp[Value.ownBlock]at hk;subst hk;exact⟨hg,(Array.getElem?_eq_some_iff.1 hh).1⟩
end
namespace Un
inductive Ty where
 |var(n:Nat):Ty
 |aJ(c:ByteArray)(l:List Ty):Ty
mutual
def sub(σ:Nat->Ty):Ty->Ty
 |.var n=>σ n|.aJ c l=>.aJ c<|aP σ l
def aP(σ:Nat->Ty):List Ty->List Ty
 |[]=>[]|t::l=>sub σ t::aP σ l
end
mutual
def size:Ty->Nat
 |.var _=>1|.aJ _ l=>1+ah l
def ah:List Ty->Nat
 |[]=>0|t::l=>size t+ah l
end
mutual
def aB(v:Nat):Ty->Prop
 |.var n=>n=v|.aJ _ l=>bX v l
def bX(v:Nat):List Ty->Prop
 |[]=>False|t::l=>aB v t\/bX v l
end
def seen l(v:Nat):=if v∈l then l else l++[v]
mutual
def vars(a:List Nat):Ty->List Nat
 |.var n=>seen a n|.aJ _ l=>aU a l
def aU(a:List Nat):List Ty->List Nat
 |[]=>a|t::l=>aU (vars a t) l
end
def iI(σ:Nat->Ty):∀l,aP σ l=l.map (sub σ)
 |[]=>rfl|t::l=>by simp[aP,iI σ l]
def ew σ l:(aP σ l).length=l.length:=by simp[iI]
mutual
theorem sub_sub(τ σ:Nat->Ty):∀t,sub τ (sub σ t)=sub (λn=>sub τ<|σ n) t
 |.var n=>by simp[sub]|.aJ c l=>by simp[sub,Ak τ σ l]
theorem Ak(τ σ:Nat->Ty):∀l,aP τ (aP σ l)=aP (λn=>sub τ<|σ n) l
 |[]=>by simp[aP]|t::l=>by simp[aP,sub_sub τ σ t,Ak τ σ l]
end
mutual
def cI:∀t,sub Ty.var t=t
 |.var n=>by simp[sub]|.aJ c l=>by simp[sub,Jy l]
def Jy:∀l,aP Ty.var l=l
 |[]=>by simp[aP]|t::l=>by simp[aP,cI t,Jy l]
end
mutual
theorem sub_congr{σ τ:Nat->Ty}:∀t,(∀n,aB n t->σ n=τ n)->sub σ t=sub τ t
 |.var n,h=>by simpa[sub]using h n (by simp[aB])|.aJ c l,h=>by simp[sub,rW l<|λn hn=>h n<|by simpa[aB]using hn]
theorem rW{σ τ:Nat->Ty}:∀l,(∀n,bX n l->σ n=τ n)->aP σ l=aP τ l
 |[],_=>by simp[aP]|t::l,h=>by simp[aP,sub_congr t<|λn hn=>h n<|jc hn,rW l<|λn hn=>h n<|ja hn]
end
mutual
def Q0{σ τ:Nat->Ty}:∀t,sub σ t=sub τ t->∀n,aB n t->σ n=τ n
 |.var m,h,n,hn=>by simp[aB]at hn;subst hn;simpa[sub]using h|.aJ c l,h,n,hn=>Jz l (by simpa[sub]using h) n (by simpa[aB]using hn)
def Jz{σ τ:Nat->Ty}:∀l,aP σ l=aP τ l->∀n,bX n l->σ n=τ n
 |[],_,n,hn=>by simp[bX]at hn|t::l,h,n,hn=>by
   simp[aP]at h
   cases hn with
   |inl a=>exact Q0 t h.1 n a|inr a=>exact Jz l h.2 n a
end
def size_pos:∀t,1<=size t
 |.var n=>by simp[size]|.aJ c l=>by simp[size]<;>omega
def tO{t:Ty}:∀{l},t∈l->size t<=ah l
 |a::l,h=>by
   simp[ah]
   cases List.mem_cons.1 h with
   |inl e=>subst e;omega|inr e=>have:=tO e;omega
mutual
def JA(σ:Nat->Ty)(v:Nat):∀t,aB v t->size (σ v)<=size (sub σ t)
 |.var n,h=>by simp[aB]at h;subst h;simp[sub]|.aJ c l,h=>by have:=jV σ v l (by simpa[aB]using h);simp[sub,size];omega
def jV(σ:Nat->Ty)(v:Nat):∀l,bX v l->size (σ v)<=ah (aP σ l)
 |[],h=>by simp[bX]at h|t::l,h=>by
   simp[aP,ah]
   cases h with
   |inl a=>have:=JA σ v t a;omega|inr a=>have:=jV σ v l a;omega
end
def U'{σ}{l}(h:bX v l):σ v≠sub σ (.aJ c l):=λe=>by
 have:=jV σ v l h;have e':=congrArg size e;simp[sub,size]at e';omega
def o7{a:List Nat}:n∈seen a v↔n∈a\/n=v:=by
 rw[seen];split
 .grind
 .simp
mutual
def bJ:∀(t:Ty)(a:List Nat)(n:Nat),n∈vars a t↔n∈a\/aB n t
 |.var m,a,n=>by simp[vars,aB,o7,eq_comm]|.aJ c l,a,n=>by simp[vars,aB,DG l a n]
def DG:∀(l:List Ty)(a:List Nat)(n:Nat),n∈aU a l↔n∈a\/bX n l
 |[],a,n=>by simp[aU,bX]|t::l,a,n=>by simp[aU,bX,DG l,bJ t,or_assoc]
end
def Oe{a:List Nat}(h:a.Nodup)v:(seen a v).Nodup:=by
 rw[seen];split
 .exact h
 .rename_i hv;rw[List.nodup_append];refine⟨h,by simp,?_⟩;intro x hx y hy e;simp at hy;subst e;subst hy;exact hv hx
mutual
theorem de:∀(t:Ty){a:List Nat},a.Nodup->(vars a t).Nodup
 |.var m,a,h=>by simpa[vars]using Oe h m|.aJ c l,a,h=>by simpa[vars]using xF l h
theorem xF:∀(l:List Ty){a:List Nat},a.Nodup->(aU a l).Nodup
 |[],a,h=>by simpa[aU]using h|t::l,a,h=>by simpa[aU]using xF l (de t h)
end
def Y4 a v:a<+:seen a v:=by
 rw[seen];split
 .grind
 .grind
mutual
def Y5:∀(t:Ty)(a:List Nat),a<+:vars a t
 |.var m,a=>by simpa[vars]using Y4 a m|.aJ c l,a=>by simpa[vars]using jW l a
def jW:∀(l:List Ty)(a:List Nat),a<+:aU a l
 |[],a=>by simp[aU]|t::l,a=>by simpa[aU]using(Y5 t a).trans (jW l _)
end
def Ren(ρ:Nat->Nat)(a:List Nat):=∀m,m∈a->∀n,n∈a->ρ m=ρ n->m=n
abbrev jK(ρ:Nat->Nat):Nat->Ty:=λn=>.var<|ρ n
def Y6{a:List Nat}(h:Ren ρ (seen a v)):seen (a.map ρ) (ρ v)=(seen a v).map ρ:=by
 by_cases hv:v∈a
 .have h1:ρ v∈a.map ρ:=List.mem_map.2 ⟨v,hv,rfl⟩;rw[seen,seen,if_pos hv,if_pos h1]
 .have h1:¬ρ v∈a.map ρ:=by
   intro hm;have⟨u,hu,e⟩:=List.mem_map.1 hm;have:=h u (o7.2<|jc hu) v (o7.2<|ja rfl) e;subst this;exact hv hu
  rw[seen,seen,if_neg hv,if_neg h1];simp
def Ren.pre{a b:List Nat}(h:Ren ρ b)(k:a<+:b):Ren ρ a:=λm hm n hn e=>h m (k.subset hm) n (k.subset hn) e
mutual
def tP{ρ:Nat->Nat}:∀(t:Ty){a:List Nat},Ren ρ (vars a t)->vars (a.map ρ) (sub (jK ρ) t)=(vars a t).map ρ
 |.var m,a,h=>by simpa[vars,sub]using Y6 (by simpa[vars]using h)|.aJ c l,a,h=>by simpa[vars,sub]using DH l (by simpa[vars]using h)
def DH{ρ:Nat->Nat}:∀(l:List Ty){a:List Nat},Ren ρ (aU a l)->aU (a.map ρ) (aP (jK ρ) l)=(aU a l).map ρ
 |[],a,h=>by simp[aU,aP]|t::l,a,h=>by
   simp only[aU,aP]at h⊢;rw[tP t<|h.pre<|jW l _,DH l h]
end
def Q3{p:Prop}(h:p:=by
 cases List.mem_cons.1 hv with
 |inl k=>exact absurd k.symm e|inr k=>exact k):p:=h
def Q4{ρ:Nat->Nat}{v:Nat}:∀{a:List Nat},Ren ρ a->v∈a->(a.map ρ).idxOf (ρ v)=a.idxOf v
 |[],_,h=>by simp at h|x::a,h,hv=>by
   by_cases e:x=v
   .subst e;simp
   .have e':¬ρ x=ρ v:=λk=>e (h x (by simp) v hv k);have ND:v∈a:=by
     exact Q3
    have b1:(x==v)=false:=by simpa using e
    have b2:(ρ x==ρ v)=false:=by simpa using e'
    have:=Q4 (λm hm n hn=>h m (jd _ hm) n<|jd _ hn) ND;simp only[jh,ji,b1,b2,this]
mutual
def o8(ρ:Nat->Nat):∀t,size (sub (jK ρ) t)=size t
 |.var n=>by simp[sub,size]|.aJ c l=>by simp[sub,size,DI ρ l]
def DI(ρ:Nat->Nat):∀l,ah (aP (jK ρ) l)=ah l
 |[]=>by simp[aP,ah]|t::l=>by simp[aP,ah,o8 ρ t,DI ρ l]
end
end Un
namespace Un
abbrev m9:ByteArray:=⟨#[62]⟩
abbrev lq:ByteArray:=⟨#[44]⟩
def rL p(s:List UInt8):=if p=true then 40::(s++[41])else s
def nth(ps:List (Nat->List UInt8))i:=ps.getD i λ_=>[]
def bu c ps tight:=
 if c=m9 then rL (decide (0<tight)) (nth ps 0 1++([32,45,62,32]++nth ps 1 0))
 else if c=lq then 40::(nth ps 0 0++([44,32]++(nth ps 1 0++[41])))
 else rL (decide (1<tight)&& !ps.isEmpty) (c.toList++ps.flatMap λp=>32::p 2)
section
variable (dec:Nat->List UInt8)
mutual
def wr(L:List Nat):Ty->Nat->List UInt8
 |.var n=>λ_=>39::118::dec (L.idxOf n)|.aJ c l=>bu c<|oe L l
def oe(L:List Nat):List Ty->List (Nat->List UInt8)
 |[]=>[]|t::l=>wr L t::oe L l
end
def written(t:Ty):List UInt8:=wr dec (vars [] t) t 0
def yK{v:Nat}:∀{a b:List Nat},a<+:b->v∈a->b.idxOf v=a.idxOf v
 |[],_,_,h=>by simp at h|x::a,b,h,hv=>by
   obtain⟨r,rfl⟩:=h;by_cases e:x=v
   .subst e;simp
   .have b1:(x==v)=false:=by simpa using e
    have ND:v∈a:=by
     exact Q3
    have:=yK (List.prefix_append a r) ND;simp only[List.cons_append,ji,b1,this]
mutual
def Y7{a b:List Nat}(h:a<+:b):∀t,(∀n,aB n t->n∈a)->wr dec b t=wr dec a t
 |.var n,k=>by simp only[wr,yK h<|k n<|by simp[aB]]|.aJ c l,k=>by simp only[wr,Q5 h l<|λn hn=>k n<|by simpa[aB]using hn]
def Q5{a b:List Nat}(h:a<+:b):∀l,(∀n,bX n l->n∈a)->oe dec b l=oe dec a l
 |[],_=>by simp[oe]|t::l,k=>by simp only[oe,Y7 h t<|λn hn=>k n<|jc hn,Q5 h l<|λn hn=>k n<|ja hn]
end
mutual
def Y8{ρ:Nat->Nat}{L:List Nat}(h:Ren ρ L):∀t,(∀n,aB n t->n∈L)->wr dec (L.map ρ) (sub (jK ρ) t)=wr dec L t
 |.var n,k=>by simp only[wr,sub,jK,Q4 h<|k n<|by simp[aB]]|.aJ c l,k=>by simp only[wr,sub,Q6 h l<|λn hn=>k n<|by simpa[aB]using hn]
def Q6{ρ:Nat->Nat}{L:List Nat}(h:Ren ρ L):∀l,(∀n,bX n l->n∈L)->oe dec (L.map ρ) (aP (jK ρ) l)=oe dec L l
 |[],_=>by simp[oe,aP]|t::l,k=>by simp only[oe,aP,Y8 h t<|λn hn=>k n<|jc hn,Q6 h l<|λn hn=>k n<|ja hn]
end
def kH(L:List Nat):∀l,(oe dec L l).length=l.length
 |[]=>rfl|t::l=>by simp[oe,kH L l]
def Q7(L:List Nat):∀l,oe dec L l=l.map (wr dec L)
 |[]=>rfl|t::l=>by simp[oe,Q7 L l]
def JB{t:Ty}(h:Ren ρ (vars [] t)):written dec (sub (jK ρ) t)=written dec t:=by
 have e:=tP (ρ:=ρ) t (a:=[]) h;simp only[List.map_nil]at e;rw[written,e,Y8 dec h t<|λn hn=>(bJ t [] n).2<|ja hn,<-written]
def Mgu(a b T:Ty):=(∃R,sub R a=T/\sub R b=T)/\∀σ,sub σ a=sub σ b->∃τ,sub τ T=sub σ a
end
end Un
namespace Un
structure uU(K:Nat->Option Ty)(R:Nat->Ty)(rk:Nat->Nat):Prop where
 open_:∀n,K n=none->R n=.var n
 shut:∀n t,K n=some t->R n=sub R t
 Xs:∀n u,K n=some (.var u)->rk u<rk n
def uU.start:uU (λ_=>none) Ty.var (λ_=>0):=⟨λ_ _=>rfl,λ_ _ h=>by simp at h,λ_ _ h=>by simp at h⟩
def d_{α:Type}(K:Nat->α)a t:=λn=>if n=a then t else K n
def tQ a(B:Ty):=λn=>if n=a then B else .var n
def JD{B t:Ty}(h:¬aB a t):sub (tQ a B) t=t:=by
 refine(sub_congr t λn hn=>?_).trans (cI t);have:n≠a:=λe=>h<|e▸hn;simp[tQ,this]
def Y9{B t:Ty}{σ:Nat->Ty}(h:σ a=sub σ B):sub σ (sub (tQ a B) t)=sub σ t:=by
 rw[sub_sub];refine sub_congr t λn _=>?_;by_cases e:n=a
 .subst e;simp[tQ,h]
 .simp[tQ,e,sub]
def uU.bind{K:Nat->Option Ty}{R:Nat->Ty}{rk}(h:uU K R rk){b:Ty}(ha:K a=none)(hn:¬aB a (sub R b))(hb:∀u,b=.var u->K u=none):
 ∃Qg,uU (d_ K a<|some b) (λn=>sub (tQ a<|sub R b)<|R n) Qg:=by
 have hN:∀t,sub (λn=>sub (tQ a<|sub R b)<|R n) t=sub (tQ a<|sub R b) (sub R t):=λt=>(sub_sub _ _ t).symm
 classical
 refine⟨λn=>if R n=.var a then rk n+(match b with|.var u=>rk u+1|.aJ _ _=>0)else rk n,?_,?_,?_⟩
 .intro n Fw;by_cases e:n=a
  .simp[d_,e]at Fw
  .simp[d_,e]at Fw;simp[h.open_ n Fw,sub,tQ,e]
 .intro n t ht;by_cases e:n=a
  .subst e;simp[d_]at ht;subst ht;simp only[hN];rw[JD hn,h.open_ n ha];simp[sub,tQ]
  .simp[d_,e]at ht;simp only[hN];rw[h.shut n t ht]
 .intro n u ht;by_cases e:n=a
  .subst e;simp[d_]at ht;subst ht;have h1:=h.open_ n ha;have h2:=h.open_ u<|hb u rfl;have h3:¬u=n:=λe=>hn (by rw[sub,h2,aB];exact e);simp[h1,h2,h3];omega
  .simp[d_,e]at ht;have h1:=h.Xs n u ht;have h2:R n=R u:=by simpa[sub]using h.shut n _ ht
   simp only[h2];split<;>omega
structure Made(R R':Nat->Ty)a b:Prop where
 same:sub R' a=sub R' b
 of_:∃δ,∀n,R' n=sub δ (R n)
 least:∀σ,sub σ (sub R a)=sub σ (sub R b)->∀n,sub σ (R' n)=sub σ (R n)
def Made.refl{R:Nat->Ty}{a b:Ty}(h:sub R a=sub R b):Made R R a b:=⟨h,⟨Ty.var,λ_=>(cI _).symm⟩,λ_ _ _=>rfl⟩
def Made.swap{R R':Nat->Ty}{a b:Ty}(h:Made R R' a b):Made R R' b a:=⟨h.same.symm,h.of_,λσ e=>h.least σ e.symm⟩
def Made.adm{R R':Nat->Ty}{a b a' b':Ty}(h:Made R R' a' b')(ea:sub R a'=sub R a)(eb:sub R b'=sub R b):Made R R' a b:=by
 obtain⟨h1,⟨δ,h2⟩,h3⟩:=h;have hN:∀t,sub R' t=sub δ (sub R t):=λt=>by rw[sub_sub];exact sub_congr t λn _=>h2 n
 refine⟨?_,⟨δ,h2⟩,λσ e=>h3 σ (by rw[ea,eb];exact e)⟩;rw[hN a,hN b,<-ea,<-eb,<-hN,<-hN,h1]
def Made.bind{K:Nat->Option Ty}{R:Nat->Ty}{rk}(h:uU K R rk){b:Ty}(ha:K a=none)(hn:¬aB a (sub R b)):
 Made R (λn=>sub (tQ a<|sub R b)<|R n) (.var a) b:=by
 have hN:∀t,sub (λn=>sub (tQ a<|sub R b)<|R n) t=sub (tQ a<|sub R b) (sub R t):=λt=>(sub_sub _ _ t).symm;refine⟨?_,⟨_,λn=>rfl⟩,λσ e n=>Y9 ?_⟩
 .rw[hN,hN,JD hn];simp[sub,h.open_ a ha,tQ]
 .simpa[sub,h.open_ a ha]using e
def adn{K:Nat->Option Ty}{R:Nat->Ty}{rk}(h:uU K R rk){l}(ha:K a=none)(hn:aB a (sub R<|.aJ c l))σ:
 sub σ (sub R<|.var a)≠sub σ (sub R<|.aJ c l):=by
 have e1:sub R (.var a)=.var a:=by simpa[sub]using h.open_ a ha
 rw[e1];simp only[sub,aB]at hn⊢;have:=U' (σ:=σ) (c:=c) hn;simpa[sub]using this
structure o9(R R':Nat->Ty)a b:Prop where
 same:aP R' a=aP R' b
 of_:∃δ,∀n,R' n=sub δ (R n)
 least:∀σ,aP σ (aP R a)=aP σ (aP R b)->∀n,sub σ (R' n)=sub σ (R n)
def Q8{R R' δ:Nat->Ty}(h:∀n,R' n=sub δ (R n))l:aP R' l=aP δ (aP R l):=by
 rw[Ak];exact rW l λn _=>h n
def o9.nil R:o9 R R [] []:=⟨rfl,⟨Ty.var,λ_=>(cI _).symm⟩,λ_ _ _=>rfl⟩
def cM σ a b:aP σ (a++b)=aP σ a++aP σ b:=by simp[iI]
def o9.snoc{R R' R'':Nat->Ty}{a b}{x y:Ty}(hl:a.length=b.length)(h:o9 R R' a b)(k:Made R' R'' x y):o9 R R'' (a++[x]) (b++[y]):=by
 have⟨δ,h2⟩:=h.of_;have⟨ε,k2⟩:=k.of_;refine⟨?_,⟨λn=>sub ε<|δ n,λn=>?_⟩,λσ e n=>?_⟩
 .rw[cM,cM,Q8 k2 a,Q8 k2 b,h.same];simp[aP,k.same]
 .rw[k2 n,h2 n,sub_sub]
 .rw[cM,cM,cM,cM]at e;have e1:=List.append_inj e (by simp[ew,hl]);have e2:=h.least σ e1.1;have e3:sub σ (sub R' x)=sub σ (sub R' y):=by
   have:∀t,sub σ (sub R' t)=sub σ (sub R t):=λt=>by
    rw[sub_sub,sub_sub];exact sub_congr t λn _=>e2 n
   rw[this,this];simpa[aP]using e1.2
  rw[k.least σ e3 n,e2 n]
def o9.aJ{R R':Nat->Ty}{a b}c(h:o9 R R' a b):Made R R' (.aJ c a) (.aJ c b):=
 ⟨by simp[sub,h.same],h.of_,λσ e=>h.least σ<|by simpa[sub]using e⟩
def o9.no{R R':Nat->Ty}{a b a' b'}{x y:Ty}(hl:a.length=b.length)(h:o9 R R' a b)(k:∀σ,sub σ (sub R' x)≠sub σ (sub R' y))c d σ:
 sub σ (sub R<|.aJ c (a++x::a'))≠sub σ (sub R<|.aJ d (b++y::b')):=by
 intro e;simp only[sub,Ty.aJ.injEq]at e;have e:=e.2;rw[cM,cM,cM,cM]at e;have e1:=List.append_inj e (by simp[ew,hl]);have e2:=h.least σ e1.1;refine k σ ?_;have:∀t,sub σ (sub R' t)=sub σ (sub R t):=λt=>by
  rw[sub_sub,sub_sub];exact sub_congr t λn _=>e2 n
 rw[this,this];have e3:=e1.2;simp only[aP,List.cons.injEq]at e3;exact e3.1
def Og{R σ:Nat->Ty}{a b}(h:c≠d):sub σ (sub R<|.aJ c a)≠sub σ (sub R<|.aJ d b):=λe=>by
 simp only[sub,Ty.aJ.injEq]at e;exact h e.1
def Va{R σ:Nat->Ty}{a b}(h:a.length≠b.length):sub σ (sub R<|.aJ c a)≠sub σ (sub R<|.aJ d b):=λe=>by
 simp only[sub,Ty.aJ.injEq]at e;have:=congrArg List.length e.2;simp[ew]at this;exact h this
end Un
namespace Un
def sK:ByteArray:=⟨#[116,111,111,32,108,97,114,103,101]⟩
mutual
def sz:Ty->Nat
 |.var _=>1|.aJ c l=>if c=sK then 49 else 1+rX l
def rX:List Ty->Nat
 |[]=>0|t::l=>sz t+rX l
end
mutual
def Whole:Ty->Prop
 |.var _=>True|.aJ c l=>c≠sK/\lX l
def lX:List Ty->Prop
 |[]=>True|t::l=>Whole t/\lX l
end
mutual
theorem o_:∀t,Whole t->sz t=size t
 |.var n,_=>by simp[sz,size]|.aJ c l,h=>by simp only[sz,size];rw[if_neg h.1,DJ l h.2]
theorem DJ:∀l,lX l->rX l=ah l
 |[],_=>by simp[rX,ah]|t::l,h=>by simp only[rX,ah];rw[o_ t h.1,DJ l h.2]
end
mutual
def aft:∀t,sz t<=49*size t
 |.var n=>by simp[sz,size]|.aJ c l=>by
  have:=Oh l;simp only[sz,size];split<;>omega
def Oh:∀l,rX l<=49*ah l
 |[]=>by simp[rX,ah]|t::l=>by have:=aft t;have:=Oh l;simp only[rX,ah];omega
end
mutual
def cd{σ:Nat->Ty}:∀t,Whole t->(∀n,aB n t->Whole (σ n))->Whole (sub σ t)
 |.var n,_,k=>k n rfl|.aJ c l,h,k=>⟨h.1,Al l h.2 λn hn=>k n hn⟩
def Al{σ:Nat->Ty}:∀l,lX l->(∀n,bX n l->Whole (σ n))->lX (aP σ l)
 |[],_,_=>trivial|t::l,h,k=>⟨cd t h.1 λn hn=>k n<|jc hn,Al l h.2 λn hn=>k n<|ja hn⟩
end
mutual
theorem JF:∀t,sz t<=48->Whole t
 |.var n,_=>trivial|.aJ c l,h=>by
  by_cases e:c=sK
  .simp only[sz]at h;rw[if_pos e]at h;omega
  .simp only[sz]at h;rw[if_neg e]at h;exact⟨e,DK l<|by omega⟩
theorem DK:∀l,rX l<=48->lX l
 |[],_=>trivial|t::l,h=>by simp only[rX]at h;exact⟨JF t<|by omega,DK l<|by omega⟩
end
def agQ t:1<=sz t:=by
 cases t with
 |var n=>simp[sz]|aJ c l=>simp only[sz];split<;>omega
mutual
def Y_(σ:Nat->Ty):∀t,sz t<=sz (sub σ t)
 |.var n=>by simpa[sub,sz]using agQ (σ n)|.aJ c l=>by
  have:=Q9 σ l;simp only[sub,sz];split<;>omega
def Q9(σ:Nat->Ty):∀l,rX l<=rX (aP σ l)
 |[]=>by simp[aP,rX]|t::l=>by have:=Y_ σ t;have:=Q9 σ l;simp only[aP,rX];omega
end
mutual
def JH(σ:Nat->Ty):∀t,size t<=size (sub σ t)
 |.var n=>by simpa[sub,size]using size_pos (σ n)|.aJ c l=>by have:=DL σ l;simp only[sub,size];omega
def DL(σ:Nat->Ty):∀l,ah l<=ah (aP σ l)
 |[]=>by simp[aP,ah]|t::l=>by have:=JH σ t;have:=DL σ l;simp only[aP,ah];omega
end
mutual
def iA(σ:Nat->Ty)(C:Nat):∀t,(∀n,aB n t->size (σ n)<=C)->1<=C->size (sub σ t)<=C*size t
 |.var n,h,_=>by simpa[sub,size]using h n rfl|.aJ c l,h,hC=>by
  have:=tS σ C l (λn hn=>h n hn) hC;simp only[sub,size,Nat.mul_add,Nat.mul_one];omega
def tS(σ:Nat->Ty)(C:Nat):∀l,(∀n,bX n l->size (σ n)<=C)->1<=C->ah (aP σ l)<=C*ah l
 |[],_,_=>by simp[aP,ah]|t::l,h,hC=>by
  have:=iA σ C t (λn hn=>h n<|jc hn) hC;have:=tS σ C l (λn hn=>h n<|ja hn) hC;simp only[aP,ah,Nat.mul_add];omega
end
mutual
def Y'(σ:Nat->Ty)(v:Nat):∀t,aB v t->sz (σ v)<=sz (sub σ t)\/48<sz (sub σ t)
 |.var n,h=>by simp[aB]at h;subst h;simp[sub]|.aJ c l,h=>by
  simp only[sub,sz];split
  .exact ja (by omega)
  .obtain q|q:=Q_ σ v l h
   .exact jc (by omega)
   .exact ja (by omega)
def Q_(σ:Nat->Ty)(v:Nat):∀l,bX v l->sz (σ v)<=rX (aP σ l)\/48<rX (aP σ l)
 |[],h=>by simp[bX]at h|t::l,h=>by
  simp only[aP,rX];obtain a|a:=h
  .obtain q|q:=Y' σ v t a
   .exact jc (by omega)
   .exact ja (by omega)
  .obtain q|q:=Q_ σ v l a
   .exact jc (by omega)
   .exact ja (by omega)
end
mutual
def mq{n:Nat}{σ:Nat->Ty}:∀t,aB n (sub σ t)↔∃m,aB m t/\aB n (σ m)
 |.var m=>by simp[sub,aB]|.aJ c l=>by simp[sub,aB,DN l]
def DN{n:Nat}{σ:Nat->Ty}:∀l,bX n (aP σ l)↔∃m,bX m l/\aB n (σ m)
 |[]=>by simp[aP,bX]|t::l=>by
  simp only[aP,bX,mq t,DN l];constructor
  .rintro(⟨m,a,b⟩|⟨m,a,b⟩)
   .exact⟨m,jc a,b⟩
   .exact⟨m,ja a,b⟩
  .rintro⟨m,a|a,b⟩
   .exact jc ⟨m,a,b⟩
   .exact ja ⟨m,a,b⟩
end
def JI{a}(h:v∈a):seen a v=a:=by simp[seen,h]
mutual
def JK:∀(t:Ty)(a:List Nat),(∀n,aB n t->n∈a)->vars a t=a
 |.var n,a,h=>JI (h n rfl)|.aJ c l,a,h=>by simpa[vars]using DO l a λn hn=>h n hn
def DO:∀(l:List Ty)(a:List Nat),(∀n,bX n l->n∈a)->aU a l=a
 |[],a,_=>rfl|t::l,a,h=>by
  simp only[aU];rw[JK t a λn hn=>h n<|jc hn];exact DO l a λn hn=>h n<|ja hn
end
def tT(σ:Nat->Ty)a(l:List Nat):=l.foldl (λa v=>vars a<|σ v) a
def JM{σ:Nat->Ty}{n:Nat}:∀(l:List Nat)(a:List Nat),n∈tT σ a l↔n∈a\/∃v,v∈l/\aB n (σ v)
 |[],a=>by simp[tT]|v::l,a=>by
  have:=JM (σ:=σ) (n:=n) l<|vars a<|σ v;simp only[tT,jf]at this⊢;rw[this,bJ];constructor
  .rintro((h|h)|⟨x,h1,h2⟩)
   .exact jc h
   .exact ja ⟨v,by simp,h⟩
   .exact ja ⟨x,by simp[h1],h2⟩
  .rintro(h|⟨x,h1,h2⟩)
   .exact jc (jc h)
   .obtain e|e:=List.mem_cons.1 h1
    .subst e;exact jc<|ja h2
    .exact ja ⟨x,e,h2⟩
mutual
def JN(σ:Nat->Ty)(b:List Nat):∀(t:Ty)(a:List Nat),vars (tT σ b a) (sub σ t)=tT σ b (vars a t)
 |.var n,a=>by
  simp only[sub,vars,seen];split
  .rename_i h;exact JK _ _ λm hm=>(JM a b).2<|ja ⟨n,h,hm⟩
  .simp[tT,List.foldl_append]
 |.aJ c l,a=>by simpa[sub,vars]using DP σ b l a
def DP(σ:Nat->Ty)(b:List Nat):∀(l:List Ty)(a:List Nat),aU (tT σ b a) (aP σ l)=tT σ b (aU a l)
 |[],a=>by simp[aP,aU]|t::l,a=>by
  simp only[aP,aU];rw[JN σ b t a];exact DP σ b l<|vars a t
end
def vG σ a t:vars a (sub σ t)=tT σ a (vars [] t):=by simpa[tT]using JN σ a t []
def Am{σ τ:Nat->Ty}:∀(l a:List Nat),(∀v,v∈l->∀a,vars a (σ v)=vars a (τ v))->tT σ a l=tT τ a l
 |[],a,_=>rfl|v::l,a,h=>by
  have:=Am (σ:=σ) (τ:=τ) l (vars a<|τ v) λx hx=>h x (by simp[hx]);simp only[tT,jf]at this⊢;rw[h v (by simp) a];exact this
theorem Za t a:vars a t=tT Ty.var a (vars [] t):=by simpa[cI]using vG Ty.var a t
def dO t' t:=t'=t\/(48<sz t'/\48<size t/\vars [] t'=vars [] t)
def dO.refl t:dO t t:=jc rfl
theorem dO.vars{t' t}(h:dO t' t)a:vars a t'=vars a t:=by grind[dO,vars,Za]
def dO.afd{t' t:Ty}(h:dO t' t)(hw:Whole t):48<sz t'↔48<size t:=by grind[dO,Whole,sz,size,o_]
theorem dO.sub{t' t}{σ' σ}(h:dO t' t)(hs:∀n,aB n t->dO (σ' n) (σ n)):dO (sub σ' t') (sub σ t):=by
 have hv:Un.vars [] (Un.sub σ' t')=Un.vars [] (Un.sub σ t):=by
  rw[vG σ' [] t',vG σ [] t,h.vars];refine Am _ _ λv hv a=>(hs v ?_).vars a;simpa using(bJ t [] v).1 hv
 obtain rfl|⟨h1,h2,_⟩:=h
 .by_cases UM:∀n,aB n t'->σ' n=σ n
  .exact jc (sub_congr t' UM)
  .have:∃n,aB n t'/\σ' n≠σ n:=by grind
   obtain⟨n,hn,he⟩:=this;obtain e|⟨e1,e2,_⟩:=hs n hn
   .exact absurd e he
   .refine ja ⟨?_,jj e2<|JA σ n t' hn,hv⟩;obtain q|q:=Y' σ' n t' hn<;>omega
 .exact ja ⟨jj h1<|Y_ σ' t',jj h2<|JH σ t,hv⟩
def bK t:=if sz t<=48 then t else .aJ sK ((vars [] t).map Ty.var)
theorem DQ:∀(l a:List Nat),aU a (l.map Ty.var)=l.foldl seen a
 |[],a=>rfl|v::l,a=>by simp only[jh,aU,jf,vars];exact DQ l<|seen a v
theorem An:∀(l a:List Nat),l.Nodup->(∀v,v∈l->v∉a)->l.foldl seen a=a++l
 |[],a,_,_=>by simp|v::l,a,h,k=>by
  have e:seen a v=a++[v]:=by simp[seen,k v<|by simp]
  rw[jf,e,An l (a++[v]) (List.nodup_cons.1 h).2 ?_]
  .simp
  .grind
def gZ t:vars [] (bK t)=vars [] t:=by grind[vars,bK,DQ,An,de]
def dO.cut{t' t:Ty}(h:dO t' t)(hw:Whole t):dO (bK t') t:=by
 by_cases e:sz t'<=48
 .rw[bK];rw[if_pos e];exact h
 .refine ja ⟨by rw[bK];rw[if_neg e];simp[sz],(h.afd hw).1<|by omega,?_⟩;rw[gZ];exact h.vars []
def Vb{t:Ty}{C}(h:(vars [] t).length<=C)(hC:48<=C)(hw:sz t<=48->size t<=48):size (bK t)<=1+C:=by
 rw[bK];split
 .rename_i q;have:=hw q;omega
 .simp only[size];have:∀l:List Nat,ah (l.map Ty.var)=l.length:=λl=>by
   induction l with
   |nil=>rfl|cons x l ih=>simp only[jh,ah,size,ih,List.length_cons];omega
  rw[this];omega
def Oi{t:Ty}(h:sz t<=48):size t<=48:=by grind[sz,size,o_,JF]
def Q'{p:Prop}(h:p:=by
 refine ja ⟨?_,?_,hv⟩
 .simp only[sz];rw[if_neg hc];simp only[rX];omega
 .simp only[size,ah];omega):p:=h
def dO.agt c(hc:c≠sK){a' a b' b}(ha:dO a' a)(hb:dO b' b):dO (.aJ c [a',b']) (.aJ c [a,b]):=by
 have hv:Un.vars [] (.aJ c [a',b'])=Un.vars [] (.aJ c [a,b]):=by
  simp only[Un.vars,aU];rw[ha.vars,hb.vars]
 obtain rfl|⟨a1,a2,_⟩:=ha
 .obtain rfl|⟨b1,b2,_⟩:=hb
  .exact jc rfl
  .exact Q'
 .exact Q'
end Un
namespace Un
inductive cU{α β:Type}(E:α->β->Prop):List α->List β->Prop where
 |nil:cU E [] []
 |cons{x:α}{y:β}{l:List α}{k:List β}:E x y->cU E l k->cU E (x::l) (y::k)
abbrev sN:=Nat->Option (ByteArray×List Nat)
abbrev Nx:=Nat->Option Nat
structure kY(str:sN)(nx:Nx)(V:Nat->Ty):Prop where
 made:∀n c l,str n=some (c,l)->V n=.aJ c (l.map V)
 bu:∀n m,nx n=some m->V n=V m
structure Eq(nx:Nx)(P:List (Nat×Nat))(E:Nat->Nat->Prop):Prop where
 refl:∀n,E n n
 symm:∀m n,E m n->E n m
 trans:∀k m n,E k m->E m n->E k n
 bu:∀n m,nx n=some m->E n m
 Zb:∀m n,(m,n)∈P->E m n
def sP(str:sN)nx P:=
 ∀E,Eq nx P E->∀n m c l,nx n=some m->str n=some (c,l)->∃l',str m=some (c,l')/\cU E l l'
def sP.start str P:sP str (λ_=>none) P:=by grind[sP]
def nB{E:Nat->Nat->Prop}(h:∀n,E n n):∀l,cU E l l
 |[]=>.nil|x::l=>.cons (h x)<|nB h l
def iq{E:Nat->Nat->Prop}(h:∀k m n,E k m->E m n->E k n):∀{a b c:List Nat},cU E a b->cU E b c->cU E a c
 |[],_,_,.nil,.nil=>.nil|_::_,_,_,.cons p q,.cons r s=>.cons (h _ _ _ p r)<|iq h q s
def xG{E:Nat->Nat->Prop}:∀{a b:List Nat},a.length=b.length->(∀x y,(x,y)∈a.zip b->E x y)->cU E a b
 |[],[],_,_=>.nil|x::a,y::b,h,k=>.cons (k x y<|by simp) (xG (by simpa using h) λx' y' h'=>k x' y'<|by simp[h'])
def xH{E:Nat->Nat->Prop}{V:Nat->Ty}(h:∀m n,E m n->V m=V n):∀{a b:List Nat},cU E a b->a.map V=b.map V
 |[],_,.nil=>rfl|_::_,_,.cons p q=>by simp[h _ _ p,xH h q]
section
variable {str:sN} {nx:Nx}
def kY.join(ha:nx a=none){V:Nat->Ty}:kY str (d_ nx a<|some b) V↔kY str nx V/\V a=V b:=by
 constructor
 .intro h;refine⟨⟨h.made,λn m e=>?_⟩,h.bu a b<|by simp[d_]⟩;by_cases k:n=a
  .grind
  .exact h.bu n m (by simpa[d_,k]using e)
 .rintro⟨h,e⟩;refine⟨h.made,λn m k=>?_⟩;by_cases j:n=a
  .subst j;simp[d_]at k;subst k;exact e
  .exact h.bu n m (by simpa[d_,j]using k)
def Eq.jL(ha:nx a=none)(h:Eq (d_ nx a<|some b) P E):Eq nx P E/\E a b:=by
 refine⟨⟨h.refl,h.symm,h.trans,λn m e=>h.bu n m ?_,h.Zb⟩,h.bu a b<|by simp[d_]⟩;by_cases k:n=a
 .grind
 .simpa[d_,k]using e
def sP.var(h:sP str nx P)(ha:nx a=none)(hs:str a=none):sP str (d_ nx a<|some b) P:=by
 intro E hE n m c l e1 e2;by_cases k:n=a
 .grind
 .exact h E (hE.jL ha).1 n m c l (by simpa[d_,k]using e1) e2
def sP.aJ{l'}(h:sP str nx P)(ha:nx a=none)(hs:str a=some (c,l))(jD:str b=some (c,l'))(hl:l.length=l'.length):
 sP str (d_ nx a<|some b) (l.zip l'++P):=by
 intro E hE n m c' k e1 e2;have h1:=(hE.jL ha).1;by_cases j:n=a
 .subst j;simp[d_]at e1;subst e1;rw[hs]at e2;injection e2 with e2;injection e2 with e2 e3;subst e2;subst e3;exact⟨l',jD,xG hl λx y hx=>hE.Zb x y<|List.mem_append_left _ hx⟩
 .exact h E ⟨h1.refl,h1.symm,h1.trans,h1.bu,λm n k=>hE.Zb m n<|List.mem_append_right _ k⟩ n m c' k (by simpa[d_,j]using e1) e2
def FQ{p:Prop}(h:p:=by
 exact h.bu x y<|by simpa[d_,j]using e):p:=h
def kY.short(h1:nx n=some m)(h2:nx m=some k)(cR:n≠m){V:Nat->Ty}:kY str (d_ nx n<|some k) V↔kY str nx V:=by
 constructor
 .intro h;have hm:=h.bu m k (by simp[d_,Ne.symm cR,h2]);have hn:=h.bu n k (by simp[d_]);refine⟨h.made,λx y e=>?_⟩;by_cases j:x=n
  .grind
  .exact FQ
 .intro h;refine⟨h.made,λx y e=>?_⟩;by_cases j:x=n
  .subst j;simp[d_]at e;subst e;rw[h.bu x m h1,h.bu m _ h2]
  .exact FQ
def Eq.JO(h1:nx n=some m)(h2:nx m=some k)(cR:n≠m)(h:Eq (d_ nx n<|some k) P E):Eq nx P E:=by
 refine⟨h.refl,h.symm,h.trans,λx y e=>?_,h.Zb⟩;by_cases j:x=n
 .subst j;rw[h1]at e;injection e with e;subst e;exact h.trans _ k _ (h.bu _ k<|by simp[d_]) (h.symm _ _<|h.bu _ k<|by simp[d_,Ne.symm cR,h2])
 .exact FQ
def sP.short(h:sP str nx P)(h1:nx n=some m)(h2:nx m=some k)(cR:n≠m):sP str (d_ nx n<|some k) P:=by
 intro E hE x y c l e1 e2;have hE':=hE.JO h1 h2 cR;by_cases j:x=n
 .subst j;simp[d_]at e1;subst e1;have⟨l1,a1,a2⟩:=h E hE' x m c l h1 e2;have⟨l2,b1,b2⟩:=h E hE' m _ c l1 h2 a1;exact⟨l2,b1,iq hE.trans a2 b2⟩
 .exact h E hE' x y c l (by simpa[d_,j]using e1) e2
def sP.alE{Q}(h:sP str nx (Q++P))(k:∀E,Eq nx P E->∀m n,(m,n)∈Q->E m n):sP str nx P:=by
 intro E hE
 exact h E ⟨hE.refl,hE.symm,hE.trans,hE.bu,λm n hm=>by
  cases List.mem_append.1 hm with
  |inl a=>exact k E hE m n a|inr a=>exact hE.Zb m n a⟩
end
inductive Hd(nx:Nx):Nat->Nat->Prop where
 |here{n:Nat}:nx n=none->Hd nx n n
 |step{n m h:Nat}:nx n=some m->Hd nx m h->Hd nx n h
def Hd.head{nx}{n h}(k:Hd nx n h):nx h=none:=by
 induction k with
 |here e=>exact e|step _ _ ih=>exact ih
def Hd.one{nx}{n h h':Nat}(k:Hd nx n h)(j:Hd nx n h'):h=h':=by
 induction k with
 |here e=>cases j with
  |here=>rfl|step e' _=>grind
 |step e _ ih=>cases j with
  |here e'=>grind|step e' j=>grind
def Hd.lj{str}{nx}{V:Nat->Ty}(s:kY str nx V)(k:Hd nx n h):V n=V h:=by
 induction k with
 |here=>rfl|step e _ ih=>rw[s.bu _ _ e,ih]
def Hd.eq{nx}(s:Eq nx P E)(k:Hd nx n h):E n h:=by
 induction k with
 |here=>exact s.refl _|step e _ ih=>exact s.trans _ _ _ (s.bu _ _ e) ih
def Hd.tU{nx}(k:Hd nx n h)(e:nx n=some m):Hd nx m h:=by
 cases k with
 |here e'=>grind|step e' k=>grind
def Hd.short{nx}(h1:nx n=some m)(h2:nx m=some k)(j:Hd nx x h):Hd (d_ nx n<|some k) x h:=by
 induction j with
 | @here x e=>
   have:x≠n:=λe'=>by subst e';rw[h1]at e;simp at e
   exact .here (by simpa[d_,this]using e)
 | @step x y h e j ih=>
   by_cases c:x=n
   .subst c;rw[h1]at e;injection e with e;subst e;by_cases c2:m=x
    .subst c2;exact ih
    .exact .step (m:=k) (by simp[d_]) (ih.tU<|by simp[d_,c2,h2])
   .exact .step (m:=y) (by simpa[d_,c]using e) ih
def Hd.join{nx}(ha:nx a=none)(hb:nx b=none)(cR:a≠b)(j:Hd nx x h):Hd (d_ nx a<|some b) x (if h=a then b else h):=by
 induction j with
 | @here x e=>
   by_cases c:x=a
   .subst c;simp;exact .step (m:=b) (by simp[d_]) (.here<|by simp[d_,Ne.symm cR,hb])
   .simp[c];exact .here (by simpa[d_,c]using e)
 | @step x y h e j ih=>
   have c:x≠a:=λc=>by subst c;rw[ha]at e;simp at e
   exact .step (m:=y) (by simpa[d_,c]using e) ih
def oo nx m n:=m=n\/∃h,Hd nx m h/\Hd nx n h
def oo.is{nx}(t:∀n m,nx n=some m->∃h,Hd nx n h):Eq nx [] (oo nx):=by
 refine⟨λn=>jc rfl,?_,?_,?_,λ_ _ h=>by simp at h⟩
 .rintro m n(h|⟨h,a,b⟩)
  .exact jc h.symm
  .exact ja ⟨h,b,a⟩
 .rintro k m n(rfl|⟨h,a,b⟩)
  .exact id
  .rintro(rfl|⟨h',a',b'⟩)
   .exact ja ⟨h,a,b⟩
   .have:=b.one a';subst this;exact ja ⟨h,a,b'⟩
 .intro n m e;have⟨h,hh⟩:=t n m e;exact ja ⟨h,hh,hh.tU e⟩
def sP.done{str}{nx}(h:sP str nx [])(t:∀n m,nx n=some m->∃h,Hd nx n h)(hk:Hd nx n k)(e:str n=some (c,l)):
 ∃l',str k=some (c,l')/\cU (oo nx) l l':=by
 induction hk generalizing l with
 |here=>exact⟨l,e,nB (oo.is t).refl l⟩|step e1 _ ih=>
  have⟨l1,a,b⟩:=h _ (oo.is t) _ _ _ _ e1 e;have⟨l2,a2,b2⟩:=ih a;exact⟨l2,a2,iq (oo.is t).trans b b2⟩
def Fin(str:sN)nx(vr:Nat->Nat)(F:Nat->Prop)(V:Nat->Ty):=
 ∀h,F h->nx h=none/\match str h with
  |none=>V h=.var (vr h)|some (c,l)=>∃hs,cU (Hd nx) l hs/\(∀x,x∈hs->F x)/\V h=.aJ c (hs.map V)
def eI{V:Nat->Ty}:∀{l:List Nat}{x},x∈l->size (V x)<=ah (l.map V)
 |_,_,h=>tO<|List.mem_map.2 ⟨_,h,rfl⟩
def pd{str:sN}{nx:Nx}{V:Nat->Ty}(s:kY str nx V):∀{l hs:List Nat},cU (Hd nx) l hs->l.map V=hs.map V
 |[],_,.nil=>rfl|_::_,_,.cons p q=>by simp[p.lj s,pd s q]
def Ao{W V:Nat->Ty}{τ:Nat->Ty}:∀{l:List Nat},(∀x,x∈l->W x=sub τ (V x))->l.map W=aP τ (l.map V)
 |[],_=>by simp[aP]|x::l,h=>by
   have k:=Ao (W:=W) (V:=V) (τ:=τ) (l:=l) λy hy=>h y<|jd _ hy;simp[aP,h x<|by simp,k]
def Fin.gen{str:sN}{nx:Nx}{vr:Nat->Nat}{F:Nat->Prop}{V W τ:Nat->Ty}(h:Fin str nx vr F V)(s:kY str nx W)(hv:∀x,F x->str x=none->W x=τ (vr x)):∀(n x:Nat),size (V x)<=n->F x->W x=sub τ (V x)
 |n,x,hn,hx=>by
  have h1:=(h x hx).2
  cases e:str x with
  |none=>rw[e]at h1;rw[h1,hv x hx e,sub]|some p=>
   obtain⟨c,l⟩:=p;rw[e]at h1;obtain⟨hs,a,b,d⟩:=h1;rw[s.made x c l e,d,sub,pd s a];congr 1;refine Ao λy hy=>?_;have z:=eI (V:=V) hy;rw[d]at hn;simp[size]at hn
   match n,hn with
   |0,hn=>omega|n+1,hn=>exact Fin.gen h s hv n y (by omega)<|b y hy
structure Of(str:sN)(vr:Nat->Nat)(D:Nat->Prop)(ty:Nat->Ty):Prop where
 var:∀n,D n->str n=none->ty n=.var (vr n)
 aJ:∀n c l,str n=some (c,l)->D n/\ty n=.aJ c (l.map ty)/\∀x,x∈l->D x
 one:∀m n,D m->D n->str m=none->str n=none->vr m=vr n->m=n
def dG{V W:Nat->Ty}:∀{l:List Nat},(∀x,x∈l->V x=W x)->l.map V=l.map W
 |[],_=>rfl|x::l,h=>by
   have k:=dG (V:=V) (W:=W) (l:=l) λy hy=>h y<|jd _ hy;simp[h x<|by simp,k]
def fV σ V(l:List Nat):aP σ (l.map V)=l.map λx=>sub σ<|V x:=by
 rw[iI,List.map_map];rfl
def Of.lj{str}{ty:Nat->Ty}(h:Of str vr D ty)σ:kY str (λ_=>none) λn=>sub σ<|ty n:=
 ⟨λn c l e=>by
  have h1:=(h.aJ n c l e).2.1;show sub σ (ty n)=_
  rw[h1,sub,fV],λ_ _ e=>by simp at e⟩
def ado{nx}{y z}(h:oo nx x y)(k:Hd nx y z):Hd nx x z:=by
 obtain rfl|⟨h,a,b⟩:=h
 .exact k
 .exact b.one k▸a
def JP{nx:Nx}:∀{l l' hs:List Nat},cU (oo nx) l l'->cU (Hd nx) l' hs->cU (Hd nx) l hs
 |_,_,_,.nil,.nil=>.nil|_,_,_,.cons p q,.cons r s=>.cons (ado p r)<|JP q s
def Ra{nx:Nx}{V W:Nat->Ty}(hW:∀n k,Hd nx n k->W n=V k):∀{l hs:List Nat},cU (Hd nx) l hs->l.map W=hs.map V
 |_,_,.nil=>rfl|_,_,.cons p q=>by simp[hW _ _ p,Ra hW q]
def Rb{nx:Nx}:∀{l hs:List Nat},cU (Hd nx) l hs->∀x,x∈l->∃k,Hd nx x k/\k∈hs
 |_,_,.nil,x,h=>by simp at h|_,_,.cons p q,x,h=>by
  cases List.mem_cons.1 h with
  |inl e=>subst e;exact⟨_,p,by simp⟩|inr e=>have⟨k,a,b⟩:=Rb q x e;exact⟨k,a,by simp[b]⟩
def agR{str}{nx}{F}{ty V:Nat->Ty}(ho:Of str vr D ty)(ha:D a)(hb:D b)(hs:∀W,kY str (λ_=>none) W->W a=W b->kY str nx W)(hc:sP str nx [])(ht:∀n m,nx n=some m->∃h,Hd nx n h)(hE:∀E,Eq nx [] E->E a b)(hF:Fin str nx vr F V)(hFD:∀n,F n->D n)(hh:Hd nx a h)(Vc:F h):Mgu (ty a) (ty b) (V h):=by
 classical
 have hbh:Hd nx b h:=by
  have:=hE _<|oo.is ht;obtain rfl|⟨k,p,q⟩:=this
  .exact hh
  .exact hh.one p▸q
 obtain⟨W,hW⟩:∃W:Nat->Ty,∀n k,Hd nx n k->W n=V k:=by
  refine⟨λn=>if e:∃k,Hd nx n k then V e.choose else .var 0,λn k hk=>?_⟩;have e:∃k,Hd nx n k:=⟨k,hk⟩;simp only[e,dite_true];rw[e.choose_spec.one hk]
 have hA:∀n k c l,Hd nx n k->F k->str n=some (c,l)->W n=.aJ c (l.map W)/\∀x,x∈l->∃k,Hd nx x k/\F k:=by
  intro n k c l hk hFk e;have⟨l',e',p⟩:=hc.done ht hk e;have q:=(hF k hFk).2;rw[e']at q;obtain⟨hs,q1,q2,q3⟩:=q;have r:=JP p q1;refine⟨by rw[hW n k hk,q3,Ra hW r],λx hx=>?_⟩;have⟨k',a',b'⟩:=Rb r x hx;exact⟨k',a',q2 k' b'⟩
 obtain⟨R,hR⟩:∃R:Nat->Ty,∀n,D n->str n=none->R (vr n)=W n:=by
  refine⟨λv=>if e:∃n,D n/\str n=none/\vr n=v then W e.choose else .var 0,λn hn hs=>?_⟩;have e:∃m,D m/\str m=none/\vr m=vr n:=⟨n,hn,hs,rfl⟩;simp only[e,dite_true];have⟨x,y,z⟩:=e.choose_spec;rw[ho.one _ _ x hn y hs z]
 have hB:∀(s n k:Nat),size (ty n)<=s->D n->Hd nx n k->F k->sub R (ty n)=W n:=by
  intro s
  induction s with
  |zero=>intro n k hs;have:=size_pos<|ty n;omega|succ s ih=>
   intro n k hs hn hk hFk
   cases e:str n with
   |none=>rw[ho.var n hn e,sub,hR n hn e]|some p=>
    obtain⟨c,l⟩:=p;have⟨_,o2,o3⟩:=ho.aJ n c l e;have⟨p1,p2⟩:=hA n k c l hk hFk e;rw[o2,p1,sub,fV];congr 1;refine dG λx hx=>?_;have⟨k',a',b'⟩:=p2 x hx;have z:=eI (V:=ty) hx;rw[o2]at hs;simp[size]at hs;exact ih x k' (by omega) (o3 x hx) a' b'
 refine⟨⟨R,?_,?_⟩,λσ e=>⟨σ,?_⟩⟩
 .rw[hB _ a h (jk _) ha hh Vc,hW a h hh]
 .rw[hB _ b h (jk _) hb hbh Vc,hW b h hbh]
 .have s:=hs _ (ho.lj σ) e;rw[<-hF.gen s (λx hx uZ=>by rw[ho.var x (hFD x hx) uZ,sub]) _ h (jk _) Vc];exact(hh.lj s).symm
end Un
def fI{a b}(h:a=true)(k:b=true):(a&&b)=true:=by rw[h,k];rfl
def FT:(laidOutB Tryz.prog)=true:=by kernel_rfl
def Rc:(mapsRowed Tryz.prog)=true:=by kernel_rfl
def cp6:((Tryz.prog.stops==[]))=true:=by kernel_rfl
def cp8:((Tryz.prog.stopKnobs==[]))=true:=by kernel_rfl
def alF:(Tryz.prog.stopsHeard)=true:=by kernel_rfl
def alG:(Tryz.prog.mayEnter)=true:=by kernel_rfl
end Go.Proofs.YtlnlhlefeokfjaaGreatDoor
