import Derived.JoinedOf
import Derived.Test.YtopmodaakdnliaaGreatDoorProg
import Derived.Test.YtopmodaakdnliaaGreatDoorRows
import Derived.WalkLawsBesides
import Derived.WalkSpells
set_option linter.all false
set_option maxRecDepth 100000
set_option maxHeartbeats 200000
namespace Go.Proofs.YtopmodaakdnliaaGreatDoor
open Or renaming inr->ja,inl->jc
open _root_.List renaming foldl_cons->jd,map_cons->jf
open _root_.Nat renaming lt_of_lt_of_le->jh
open Go
variable {c d:ByteArray} {P:List (Nat×Nat)} {xs:List Value} {a b base h k m n v x:Nat} {E:Nat->Nat->Prop} {e:TypeId} {w:World}
section
open Go.RowKit
def VN(w:World)(C:List Value)t:∀j u,C[j]? =some u->(w.alloc<|.cells C.toArray t).cell? ((⟨w.heap.size,0,none⟩:Addr).add j)=some u:=by
 intro j u hj;rw[Addr.add];split
 .next h=>subst h;simpa using hj
 .simpa using hj
def gT{w'}{size}{v}(h:w.ownsRow base e size v n xs)(hb:Below w.heap.size w w'):w'.ownsRow base e size v n xs:=by
 obtain⟨h1,h2⟩:=h;refine⟨h1,?_⟩;obtain h2|⟨g,cap,jL,hv,hg,hh,r⟩:=h2
 .exact jc h2
 .refine ja ⟨g,cap,jL,hv,hg,?_,r⟩;have aZ:g<w.heap.size:=by
   have:=Array.getElem?_eq_some_iff.1 hh;exact this.1
  rw[hb.block g aZ,hh]
def nS(w:World)(C:List Value)t b(hb:b=w.heap.size):∀j u,C[j]? =some u->(w.alloc<|.cells C.toArray t).cell? ((⟨b,0,none⟩:Addr).add j)=some u:=by
 subst hb;exact VN w C t
def cN{size}{v}(h:w.ownsRow base e size v n xs):∀k,v.ownBlock=some k->base<=k/\k<w.heap.size:=by
 intro k hk;obtain⟨h1,h2⟩:=h;obtain⟨rfl,_⟩|⟨g,cap,jL,rfl,hg,hh,r⟩:=h2
 .simp[Value.ownBlock]at hk
 .simp[Value.ownBlock]at hk;subst hk;exact⟨hg,(Array.getElem?_eq_some_iff.1 hh).1⟩
end
namespace Un
inductive Ty where
 |var(n:Nat):Ty
 |aM(c:ByteArray)(l:List Ty):Ty
mutual
def sub(σ:Nat->Ty):Ty->Ty
 |.var n=>σ n|.aM c l=>.aM c<|ba σ l
def ba(σ:Nat->Ty):List Ty->List Ty
 |[]=>[]|t::l=>sub σ t::ba σ l
end
mutual
def size:Ty->Nat
 |.var _=>1|.aM _ l=>1+ak l
def ak:List Ty->Nat
 |[]=>0|t::l=>size t+ak l
end
mutual
def aG(v:Nat):Ty->Prop
 |.var n=>n=v|.aM _ l=>ck v l
def ck(v:Nat):List Ty->Prop
 |[]=>False|t::l=>aG v t\/ck v l
end
def seen l(v:Nat):=if v∈l then l else l++[v]
mutual
def vars(a:List Nat):Ty->List Nat
 |.var n=>seen a n|.aM _ l=>bt a l
def bt(a:List Nat):List Ty->List Nat
 |[]=>a|t::l=>bt (vars a t) l
end
def iq(σ:Nat->Ty):∀l,ba σ l=l.map (sub σ)
 |[]=>rfl|t::l=>by simp[ba,iq σ l]
def dW σ l:(ba σ l).length=l.length:=by simp[iq]
mutual
theorem sub_sub(τ σ:Nat->Ty):∀t,sub τ (sub σ t)=sub (λn=>sub τ<|σ n) t
 |.var n=>by simp[sub]|.aM c l=>by simp[sub,zR τ σ l]
theorem zR(τ σ:Nat->Ty):∀l,ba τ (ba σ l)=ba (λn=>sub τ<|σ n) l
 |[]=>by simp[ba]|t::l=>by simp[ba,sub_sub τ σ t,zR τ σ l]
end
mutual
def df:∀t,sub Ty.var t=t
 |.var n=>by simp[sub]|.aM c l=>by simp[sub,Jk l]
def Jk:∀l,ba Ty.var l=l
 |[]=>by simp[ba]|t::l=>by simp[ba,df t,Jk l]
end
mutual
theorem sub_congr{σ τ:Nat->Ty}:∀t,(∀n,aG n t->σ n=τ n)->sub σ t=sub τ t
 |.var n,h=>by simpa[sub]using h n (by simp[aG])|.aM c l,h=>by simp[sub,qL l<|λn hn=>h n<|by simpa[aG]using hn]
theorem qL{σ τ:Nat->Ty}:∀l,(∀n,ck n l->σ n=τ n)->ba σ l=ba τ l
 |[],_=>by simp[ba]|t::l,h=>by simp[ba,sub_congr t<|λn hn=>h n<|jc hn,qL l<|λn hn=>h n<|ja hn]
end
mutual
def RL{σ τ:Nat->Ty}:∀t,sub σ t=sub τ t->∀n,aG n t->σ n=τ n
 |.var m,h,n,hn=>by simp[aG]at hn;subst hn;simpa[sub]using h|.aM c l,h,n,hn=>Jl l (by simpa[sub]using h) n (by simpa[aG]using hn)
def Jl{σ τ:Nat->Ty}:∀l,ba σ l=ba τ l->∀n,ck n l->σ n=τ n
 |[],_,n,hn=>by simp[ck]at hn|t::l,h,n,hn=>by
   simp[ba]at h
   cases hn with
   |inl a=>exact RL t h.1 n a|inr a=>exact Jl l h.2 n a
end
def size_pos:∀t,1<=size t
 |.var n=>by simp[size]|.aM c l=>by simp[size]<;>omega
def zS{t:Ty}:∀{l},t∈l->size t<=ak l
 |a::l,h=>by
   simp[ak]
   cases List.mem_cons.1 h with
   |inl e=>subst e;omega|inr e=>have:=zS e;omega
mutual
def Jm(σ:Nat->Ty)(v:Nat):∀t,aG v t->size (σ v)<=size (sub σ t)
 |.var n,h=>by simp[aG]at h;subst h;simp[sub]|.aM c l,h=>by have:=lM σ v l (by simpa[aG]using h);simp[sub,size];omega
def lM(σ:Nat->Ty)(v:Nat):∀l,ck v l->size (σ v)<=ak (ba σ l)
 |[],h=>by simp[ck]at h|t::l,h=>by
   simp[ba,ak]
   cases h with
   |inl a=>have:=Jm σ v t a;omega|inr a=>have:=lM σ v l a;omega
end
def VO{σ}{l}(h:ck v l):σ v≠sub σ (.aM c l):=λe=>by
 have:=lM σ v l h;have e':=congrArg size e;simp[sub,size]at e';omega
def Jn{a:List Nat}:n∈seen a v↔n∈a\/n=v:=by
 rw[seen];split
 .grind
 .simp
mutual
def cE:∀(t:Ty)(a:List Nat)(n:Nat),n∈vars a t↔n∈a\/aG n t
 |.var m,a,n=>by simp[vars,aG,Jn,eq_comm]|.aM c l,a,n=>by simp[vars,aG,C7 l a n]
def C7:∀(l:List Ty)(a:List Nat)(n:Nat),n∈bt a l↔n∈a\/ck n l
 |[],a,n=>by simp[bt,ck]|t::l,a,n=>by simp[bt,ck,C7 l,cE t,or_assoc]
end
def NZ{a:List Nat}(h:a.Nodup)v:(seen a v).Nodup:=by
 rw[seen];split
 .exact h
 .rename_i hv;rw[List.nodup_append];refine⟨h,by simp,?_⟩;intro x hx y hy e;simp at hy;subst e;subst hy;exact hv hx
mutual
theorem gV:∀(t:Ty){a:List Nat},a.Nodup->(vars a t).Nodup
 |.var m,a,h=>by simpa[vars]using NZ h m|.aM c l,a,h=>by simpa[vars]using vX l h
theorem vX:∀(l:List Ty){a:List Nat},a.Nodup->(bt a l).Nodup
 |[],a,h=>by simpa[bt]using h|t::l,a,h=>by simpa[bt]using vX l (gV t h)
end
def ZT a v:a<+:seen a v:=by
 rw[seen];split
 .grind
 .grind
mutual
def ZU:∀(t:Ty)(a:List Nat),a<+:vars a t
 |.var m,a=>by simpa[vars]using ZT a m|.aM c l,a=>by simpa[vars]using o8 l a
def o8:∀(l:List Ty)(a:List Nat),a<+:bt a l
 |[],a=>by simp[bt]|t::l,a=>by simpa[bt]using(ZU t a).trans (o8 l _)
end
end Un
namespace Un
abbrev pH:ByteArray:=⟨#[62]⟩
abbrev o6:ByteArray:=⟨#[44]⟩
def xU p(s:List UInt8):=if p=true then 40::(s++[41])else s
def nth(ps:List (Nat->List UInt8))i:=ps.getD i λ_=>[]
def bz c ps tight:=
 if c=pH then xU (decide (0<tight)) (nth ps 0 1++([32,45,62,32]++nth ps 1 0))
 else if c=o6 then 40::(nth ps 0 0++([44,32]++(nth ps 1 0++[41])))
 else xU (decide (1<tight)&& !ps.isEmpty) (c.toList++ps.flatMap λp=>32::p 2)
section
variable (dec:Nat->List UInt8)
mutual
def wr(L:List Nat):Ty->Nat->List UInt8
 |.var n=>λ_=>39::118::dec (L.idxOf n)|.aM c l=>bz c<|Io L l
def Io(L:List Nat):List Ty->List (Nat->List UInt8)
 |[]=>[]|t::l=>wr L t::Io L l
end
def written(t:Ty):List UInt8:=wr dec (vars [] t) t 0
def RM{v:Nat}:∀{a b:List Nat},a<+:b->v∈a->b.idxOf v=a.idxOf v
 |[],_,_,h=>by simp at h|x::a,b,h,hv=>by
   obtain⟨r,rfl⟩:=h;by_cases e:x=v
   .subst e;simp
   .have b1:(x==v)=false:=by simpa using e
    have hv':v∈a:=by
     cases List.mem_cons.1 hv with
     |inl k=>exact absurd k.symm e|inr k=>exact k
    have:=RM (List.prefix_append a r) hv';simp only[List.cons_append,List.idxOf_cons,b1,this]
mutual
def ZV{a b:List Nat}(h:a<+:b):∀t,(∀n,aG n t->n∈a)->wr dec b t=wr dec a t
 |.var n,k=>by simp only[wr,RM h<|k n<|by simp[aG]]|.aM c l,k=>by simp only[wr,RN h l<|λn hn=>k n<|by simpa[aG]using hn]
def RN{a b:List Nat}(h:a<+:b):∀l,(∀n,ck n l->n∈a)->Io dec b l=Io dec a l
 |[],_=>by simp[Io]|t::l,k=>by simp only[Io,ZV h t<|λn hn=>k n<|jc hn,RN h l<|λn hn=>k n<|ja hn]
end
end
end Un
namespace Un
structure tN(K:Nat->Option Ty)(R:Nat->Ty)(rk:Nat->Nat):Prop where
 open_:∀n,K n=none->R n=.var n
 shut:∀n t,K n=some t->R n=sub R t
 ZX:∀n u,K n=some (.var u)->rk u<rk n
def tN.start:tN (λ_=>none) Ty.var (λ_=>0):=⟨λ_ _=>rfl,λ_ _ h=>by simp at h,λ_ _ h=>by simp at h⟩
def dZ{α:Type}(K:Nat->α)a t:=λn=>if n=a then t else K n
def rV a(B:Ty):=λn=>if n=a then B else .var n
def Jo{B t:Ty}(h:¬aG a t):sub (rV a B) t=t:=by
 refine(sub_congr t λn hn=>?_).trans (df t);have:n≠a:=λe=>h<|e▸hn;simp[rV,this]
def ZY{B t:Ty}{σ:Nat->Ty}(h:σ a=sub σ B):sub σ (sub (rV a B) t)=sub σ t:=by
 rw[sub_sub];refine sub_congr t λn _=>?_;by_cases e:n=a
 .subst e;simp[rV,h]
 .simp[rV,e,sub]
def tN.bind{K:Nat->Option Ty}{R:Nat->Ty}{rk}(h:tN K R rk){b:Ty}(ha:K a=none)(hn:¬aG a (sub R b))(hb:∀u,b=.var u->K u=none):
 ∃RP,tN (dZ K a<|some b) (λn=>sub (rV a<|sub R b)<|R n) RP:=by
 have hN:∀t,sub (λn=>sub (rV a<|sub R b)<|R n) t=sub (rV a<|sub R b) (sub R t):=λt=>(sub_sub _ _ t).symm
 classical
 refine⟨λn=>if R n=.var a then rk n+(match b with|.var u=>rk u+1|.aM _ _=>0)else rk n,?_,?_,?_⟩
 .intro n H8;by_cases e:n=a
  .simp[dZ,e]at H8
  .simp[dZ,e]at H8;simp[h.open_ n H8,sub,rV,e]
 .intro n t ht;by_cases e:n=a
  .subst e;simp[dZ]at ht;subst ht;simp only[hN];rw[Jo hn,h.open_ n ha];simp[sub,rV]
  .simp[dZ,e]at ht;simp only[hN];rw[h.shut n t ht]
 .intro n u ht;by_cases e:n=a
  .subst e;simp[dZ]at ht;subst ht;have h1:=h.open_ n ha;have h2:=h.open_ u<|hb u rfl;have h3:¬u=n:=λe=>hn (by rw[sub,h2,aG];exact e);simp[h1,h2,h3];omega
  .simp[dZ,e]at ht;have h1:=h.ZX n u ht;have h2:R n=R u:=by simpa[sub]using h.shut n _ ht
   simp only[h2];split<;>omega
structure Made(R R':Nat->Ty)a b:Prop where
 same:sub R' a=sub R' b
 of_:∃δ,∀n,R' n=sub δ (R n)
 least:∀σ,sub σ (sub R a)=sub σ (sub R b)->∀n,sub σ (R' n)=sub σ (R n)
def Made.refl{R:Nat->Ty}{a b:Ty}(h:sub R a=sub R b):Made R R a b:=⟨h,⟨Ty.var,λ_=>(df _).symm⟩,λ_ _ _=>rfl⟩
def Made.swap{R R':Nat->Ty}{a b:Ty}(h:Made R R' a b):Made R R' b a:=⟨h.same.symm,h.of_,λσ e=>h.least σ e.symm⟩
def Made.ad9{R R':Nat->Ty}{a b a' b':Ty}(h:Made R R' a' b')(ea:sub R a'=sub R a)(eb:sub R b'=sub R b):Made R R' a b:=by
 obtain⟨h1,⟨δ,h2⟩,h3⟩:=h;have hN:∀t,sub R' t=sub δ (sub R t):=λt=>by rw[sub_sub];exact sub_congr t λn _=>h2 n
 refine⟨?_,⟨δ,h2⟩,λσ e=>h3 σ (by rw[ea,eb];exact e)⟩;rw[hN a,hN b,<-ea,<-eb,<-hN,<-hN,h1]
def Made.bind{K:Nat->Option Ty}{R:Nat->Ty}{rk}(h:tN K R rk){b:Ty}(ha:K a=none)(hn:¬aG a (sub R b)):
 Made R (λn=>sub (rV a<|sub R b)<|R n) (.var a) b:=by
 have hN:∀t,sub (λn=>sub (rV a<|sub R b)<|R n) t=sub (rV a<|sub R b) (sub R t):=λt=>(sub_sub _ _ t).symm;refine⟨?_,⟨_,λn=>rfl⟩,λσ e n=>ZY ?_⟩
 .rw[hN,hN,Jo hn];simp[sub,h.open_ a ha,rV]
 .simpa[sub,h.open_ a ha]using e
def ad_{K:Nat->Option Ty}{R:Nat->Ty}{rk}(h:tN K R rk){l}(ha:K a=none)(hn:aG a (sub R<|.aM c l))σ:
 sub σ (sub R<|.var a)≠sub σ (sub R<|.aM c l):=by
 have e1:sub R (.var a)=.var a:=by simpa[sub]using h.open_ a ha
 rw[e1];simp only[sub,aG]at hn⊢;have:=VO (σ:=σ) (c:=c) hn;simpa[sub]using this
structure nW(R R':Nat->Ty)a b:Prop where
 same:ba R' a=ba R' b
 of_:∃δ,∀n,R' n=sub δ (R n)
 least:∀σ,ba σ (ba R a)=ba σ (ba R b)->∀n,sub σ (R' n)=sub σ (R n)
def RQ{R R' δ:Nat->Ty}(h:∀n,R' n=sub δ (R n))l:ba R' l=ba δ (ba R l):=by
 rw[zR];exact qL l λn _=>h n
def nW.nil R:nW R R [] []:=⟨rfl,⟨Ty.var,λ_=>(df _).symm⟩,λ_ _ _=>rfl⟩
def cL σ a b:ba σ (a++b)=ba σ a++ba σ b:=by simp[iq]
def nW.snoc{R R' R'':Nat->Ty}{a b}{x y:Ty}(hl:a.length=b.length)(h:nW R R' a b)(k:Made R' R'' x y):nW R R'' (a++[x]) (b++[y]):=by
 have⟨δ,h2⟩:=h.of_;have⟨ε,k2⟩:=k.of_;refine⟨?_,⟨λn=>sub ε<|δ n,λn=>?_⟩,λσ e n=>?_⟩
 .rw[cL,cL,RQ k2 a,RQ k2 b,h.same];simp[ba,k.same]
 .rw[k2 n,h2 n,sub_sub]
 .rw[cL,cL,cL,cL]at e;have e1:=List.append_inj e (by simp[dW,hl]);have e2:=h.least σ e1.1;have e3:sub σ (sub R' x)=sub σ (sub R' y):=by
   have:∀t,sub σ (sub R' t)=sub σ (sub R t):=λt=>by
    rw[sub_sub,sub_sub];exact sub_congr t λn _=>e2 n
   rw[this,this];simpa[ba]using e1.2
  rw[k.least σ e3 n,e2 n]
def nW.aM{R R':Nat->Ty}{a b}c(h:nW R R' a b):Made R R' (.aM c a) (.aM c b):=
 ⟨by simp[sub,h.same],h.of_,λσ e=>h.least σ<|by simpa[sub]using e⟩
def nW.no{R R':Nat->Ty}{a b a' b'}{x y:Ty}(hl:a.length=b.length)(h:nW R R' a b)(k:∀σ,sub σ (sub R' x)≠sub σ (sub R' y))c d σ:
 sub σ (sub R<|.aM c (a++x::a'))≠sub σ (sub R<|.aM d (b++y::b')):=by
 intro e;simp only[sub,Ty.aM.injEq]at e;have e:=e.2;rw[cL,cL,cL,cL]at e;have e1:=List.append_inj e (by simp[dW,hl]);have e2:=h.least σ e1.1;refine k σ ?_;have:∀t,sub σ (sub R' t)=sub σ (sub R t):=λt=>by
  rw[sub_sub,sub_sub];exact sub_congr t λn _=>e2 n
 rw[this,this];have e3:=e1.2;simp only[ba,List.cons.injEq]at e3;exact e3.1
def N7{R σ:Nat->Ty}{a b}(h:c≠d):sub σ (sub R<|.aM c a)≠sub σ (sub R<|.aM d b):=λe=>by
 simp only[sub,Ty.aM.injEq]at e;exact h e.1
def VP{R σ:Nat->Ty}{a b}(h:a.length≠b.length):sub σ (sub R<|.aM c a)≠sub σ (sub R<|.aM d b):=λe=>by
 simp only[sub,Ty.aM.injEq]at e;have:=congrArg List.length e.2;simp[dW]at this;exact h this
end Un
namespace Un
def uk:ByteArray:=⟨#[116,111,111,32,108,97,114,103,101]⟩
mutual
def sz:Ty->Nat
 |.var _=>1|.aM c l=>if c=uk then 49 else 1+qM l
def qM:List Ty->Nat
 |[]=>0|t::l=>sz t+qM l
end
mutual
def Whole:Ty->Prop
 |.var _=>True|.aM c l=>c≠uk/\nX l
def nX:List Ty->Prop
 |[]=>True|t::l=>Whole t/\nX l
end
mutual
theorem nY:∀t,Whole t->sz t=size t
 |.var n,_=>by simp[sz,size]|.aM c l,h=>by simp only[sz,size];rw[if_neg h.1,C8 l h.2]
theorem C8:∀l,nX l->qM l=ak l
 |[],_=>by simp[qM,ak]|t::l,h=>by simp only[qM,ak];rw[nY t h.1,C8 l h.2]
end
mutual
def af8:∀t,sz t<=49*size t
 |.var n=>by simp[sz,size]|.aM c l=>by
  have:=N8 l;simp only[sz,size];split<;>omega
def N8:∀l,qM l<=49*ak l
 |[]=>by simp[qM,ak]|t::l=>by have:=af8 t;have:=N8 l;simp only[qM,ak];omega
end
mutual
def dn{σ:Nat->Ty}:∀t,Whole t->(∀n,aG n t->Whole (σ n))->Whole (sub σ t)
 |.var n,_,k=>k n rfl|.aM c l,h,k=>⟨h.1,zT l h.2 λn hn=>k n hn⟩
def zT{σ:Nat->Ty}:∀l,nX l->(∀n,ck n l->Whole (σ n))->nX (ba σ l)
 |[],_,_=>trivial|t::l,h,k=>⟨dn t h.1 λn hn=>k n<|jc hn,zT l h.2 λn hn=>k n<|ja hn⟩
end
mutual
theorem Jp:∀t,sz t<=48->Whole t
 |.var n,_=>trivial|.aM c l,h=>by
  by_cases e:c=uk
  .simp only[sz]at h;rw[if_pos e]at h;omega
  .simp only[sz]at h;rw[if_neg e]at h;exact⟨e,C9 l<|by omega⟩
theorem C9:∀l,qM l<=48->nX l
 |[],_=>trivial|t::l,h=>by simp only[qM]at h;exact⟨Jp t<|by omega,C9 l<|by omega⟩
end
def ahC t:1<=sz t:=by
 cases t with
 |var n=>simp[sz]|aM c l=>simp only[sz];split<;>omega
mutual
def Z3(σ:Nat->Ty):∀t,sz t<=sz (sub σ t)
 |.var n=>by simpa[sub,sz]using ahC (σ n)|.aM c l=>by
  have:=RT σ l;simp only[sub,sz];split<;>omega
def RT(σ:Nat->Ty):∀l,qM l<=qM (ba σ l)
 |[]=>by simp[ba,qM]|t::l=>by have:=Z3 σ t;have:=RT σ l;simp only[ba,qM];omega
end
mutual
def lN(σ:Nat->Ty):∀t,size t<=size (sub σ t)
 |.var n=>by simpa[sub,size]using size_pos (σ n)|.aM c l=>by have:=C_ σ l;simp only[sub,size];omega
def C_(σ:Nat->Ty):∀l,ak l<=ak (ba σ l)
 |[]=>by simp[ba,ak]|t::l=>by have:=lN σ t;have:=C_ σ l;simp only[ba,ak];omega
end
mutual
def ir(σ:Nat->Ty)(C:Nat):∀t,(∀n,aG n t->size (σ n)<=C)->1<=C->size (sub σ t)<=C*size t
 |.var n,h,_=>by simpa[sub,size]using h n rfl|.aM c l,h,hC=>by
  have:=rW σ C l (λn hn=>h n hn) hC;simp only[sub,size,Nat.mul_add,Nat.mul_one];omega
def rW(σ:Nat->Ty)(C:Nat):∀l,(∀n,ck n l->size (σ n)<=C)->1<=C->ak (ba σ l)<=C*ak l
 |[],_,_=>by simp[ba,ak]|t::l,h,hC=>by
  have:=ir σ C t (λn hn=>h n<|jc hn) hC;have:=rW σ C l (λn hn=>h n<|ja hn) hC;simp only[ba,ak,Nat.mul_add];omega
end
mutual
def Z4(σ:Nat->Ty)(v:Nat):∀t,aG v t->sz (σ v)<=sz (sub σ t)\/48<sz (sub σ t)
 |.var n,h=>by simp[aG]at h;subst h;simp[sub]|.aM c l,h=>by
  simp only[sub,sz];split
  .exact ja (by omega)
  .obtain q|q:=RU σ v l h
   .exact jc (by omega)
   .exact ja (by omega)
def RU(σ:Nat->Ty)(v:Nat):∀l,ck v l->sz (σ v)<=qM (ba σ l)\/48<qM (ba σ l)
 |[],h=>by simp[ck]at h|t::l,h=>by
  simp only[ba,qM];obtain a|a:=h
  .obtain q|q:=Z4 σ v t a
   .exact jc (by omega)
   .exact ja (by omega)
  .obtain q|q:=RU σ v l a
   .exact jc (by omega)
   .exact ja (by omega)
end
mutual
def nZ{n:Nat}{σ:Nat->Ty}:∀t,aG n (sub σ t)↔∃m,aG m t/\aG n (σ m)
 |.var m=>by simp[sub,aG]|.aM c l=>by simp[sub,aG,Da l]
def Da{n:Nat}{σ:Nat->Ty}:∀l,ck n (ba σ l)↔∃m,ck m l/\aG n (σ m)
 |[]=>by simp[ba,ck]|t::l=>by
  simp only[ba,ck,nZ t,Da l];constructor
  .rintro(⟨m,a,b⟩|⟨m,a,b⟩)
   .exact⟨m,jc a,b⟩
   .exact⟨m,ja a,b⟩
  .rintro⟨m,a|a,b⟩
   .exact jc ⟨m,a,b⟩
   .exact ja ⟨m,a,b⟩
end
def Jq{a}(h:v∈a):seen a v=a:=by simp[seen,h]
mutual
def Jr:∀(t:Ty)(a:List Nat),(∀n,aG n t->n∈a)->vars a t=a
 |.var n,a,h=>Jq (h n rfl)|.aM c l,a,h=>by simpa[vars]using Db l a λn hn=>h n hn
def Db:∀(l:List Ty)(a:List Nat),(∀n,ck n l->n∈a)->bt a l=a
 |[],a,_=>rfl|t::l,a,h=>by
  simp only[bt];rw[Jr t a λn hn=>h n<|jc hn];exact Db l a λn hn=>h n<|ja hn
end
def rX(σ:Nat->Ty)a(l:List Nat):=l.foldl (λa v=>vars a<|σ v) a
def Js{σ:Nat->Ty}{n:Nat}:∀(l:List Nat)(a:List Nat),n∈rX σ a l↔n∈a\/∃v,v∈l/\aG n (σ v)
 |[],a=>by simp[rX]|v::l,a=>by
  have:=Js (σ:=σ) (n:=n) l<|vars a<|σ v;simp only[rX,jd]at this⊢;rw[this,cE];constructor
  .rintro((h|h)|⟨x,h1,h2⟩)
   .exact jc h
   .exact ja ⟨v,by simp,h⟩
   .exact ja ⟨x,by simp[h1],h2⟩
  .rintro(h|⟨x,h1,h2⟩)
   .exact jc (jc h)
   .obtain e|e:=List.mem_cons.1 h1
    .subst e;exact jc<|ja h2
    .exact ja ⟨x,e,h2⟩
mutual
def Jt(σ:Nat->Ty)(b:List Nat):∀(t:Ty)(a:List Nat),vars (rX σ b a) (sub σ t)=rX σ b (vars a t)
 |.var n,a=>by
  simp only[sub,vars,seen];split
  .rename_i h;exact Jr _ _ λm hm=>(Js a b).2<|ja ⟨n,h,hm⟩
  .simp[rX,List.foldl_append]
 |.aM c l,a=>by simpa[sub,vars]using Dd σ b l a
def Dd(σ:Nat->Ty)(b:List Nat):∀(l:List Ty)(a:List Nat),bt (rX σ b a) (ba σ l)=rX σ b (bt a l)
 |[],a=>by simp[ba,bt]|t::l,a=>by
  simp only[ba,bt];rw[Jt σ b t a];exact Dd σ b l<|vars a t
end
def ul σ a t:vars a (sub σ t)=rX σ a (vars [] t):=by simpa[rX]using Jt σ a t []
def zU{σ τ:Nat->Ty}:∀(l a:List Nat),(∀v,v∈l->∀a,vars a (σ v)=vars a (τ v))->rX σ a l=rX τ a l
 |[],a,_=>rfl|v::l,a,h=>by
  have:=zU (σ:=σ) (τ:=τ) l (vars a<|τ v) λx hx=>h x (by simp[hx]);simp only[rX,jd]at this⊢;rw[h v (by simp) a];exact this
theorem Z8 t a:vars a t=rX Ty.var a (vars [] t):=by simpa[df]using ul Ty.var a t
def dl t' t:=t'=t\/(48<sz t'/\48<size t/\vars [] t'=vars [] t)
def dl.refl t:dl t t:=jc rfl
theorem dl.vars{t' t}(h:dl t' t)a:vars a t'=vars a t:=by grind[dl,vars,Z8]
def dl.af9{t' t:Ty}(h:dl t' t)(hw:Whole t):48<sz t'↔48<size t:=by grind[dl,Whole,sz,size,nY]
theorem dl.sub{t' t}{σ' σ}(h:dl t' t)(hs:∀n,aG n t->dl (σ' n) (σ n)):dl (sub σ' t') (sub σ t):=by
 have hv:Un.vars [] (Un.sub σ' t')=Un.vars [] (Un.sub σ t):=by
  rw[ul σ' [] t',ul σ [] t,h.vars];refine zU _ _ λv hv a=>(hs v ?_).vars a;simpa using(cE t [] v).1 hv
 obtain rfl|⟨h1,h2,_⟩:=h
 .by_cases amK:∀n,aG n t'->σ' n=σ n
  .exact jc (sub_congr t' amK)
  .have:∃n,aG n t'/\σ' n≠σ n:=by grind
   obtain⟨n,hn,he⟩:=this;obtain e|⟨e1,e2,_⟩:=hs n hn
   .exact absurd e he
   .refine ja ⟨?_,jh e2<|Jm σ n t' hn,hv⟩;obtain q|q:=Z4 σ' n t' hn<;>omega
 .exact ja ⟨jh h1<|Z3 σ' t',jh h2<|lN σ t,hv⟩
def bN t:=if sz t<=48 then t else .aM uk ((vars [] t).map Ty.var)
theorem De:∀(l a:List Nat),bt a (l.map Ty.var)=l.foldl seen a
 |[],a=>rfl|v::l,a=>by simp only[jf,bt,jd,vars];exact De l<|seen a v
theorem zV:∀(l a:List Nat),l.Nodup->(∀v,v∈l->v∉a)->l.foldl seen a=a++l
 |[],a,_,_=>by simp|v::l,a,h,k=>by
  have e:seen a v=a++[v]:=by simp[seen,k v<|by simp]
  rw[jd,e,zV l (a++[v]) (List.nodup_cons.1 h).2 ?_]
  .simp
  .grind
def uo t:vars [] (bN t)=vars [] t:=by grind[vars,bN,De,zV,gV]
def dl.cut{t' t:Ty}(h:dl t' t)(hw:Whole t):dl (bN t') t:=by
 by_cases e:sz t'<=48
 .rw[bN];rw[if_pos e];exact h
 .refine ja ⟨by rw[bN];rw[if_neg e];simp[sz],(h.af9 hw).1<|by omega,?_⟩;rw[uo];exact h.vars []
def VQ{t:Ty}{C}(h:(vars [] t).length<=C)(hC:48<=C)(hw:sz t<=48->size t<=48):size (bN t)<=1+C:=by
 rw[bN];split
 .rename_i q;have:=hw q;omega
 .simp only[size];have:∀l:List Nat,ak (l.map Ty.var)=l.length:=λl=>by
   induction l with
   |nil=>rfl|cons x l ih=>simp only[jf,ak,size,ih,List.length_cons];omega
  rw[this];omega
def N_{t:Ty}(h:sz t<=48):size t<=48:=by grind[sz,size,nY,Jp]
def Rr{p:Prop}(h:p:=by
 refine ja ⟨?_,?_,hv⟩
 .simp only[sz];rw[if_neg hc];simp only[qM];omega
 .simp only[size,ak];omega):p:=h
def dl.akA c(hc:c≠uk){a' a b' b}(ha:dl a' a)(hb:dl b' b):dl (.aM c [a',b']) (.aM c [a,b]):=by
 have hv:Un.vars [] (.aM c [a',b'])=Un.vars [] (.aM c [a,b]):=by
  simp only[Un.vars,bt];rw[ha.vars,hb.vars]
 obtain rfl|⟨a1,a2,_⟩:=ha
 .obtain rfl|⟨b1,b2,_⟩:=hb
  .exact jc rfl
  .exact Rr
 .exact Rr
end Un
namespace Un
inductive gD{α β:Type}(E:α->β->Prop):List α->List β->Prop where
 |nil:gD E [] []
 |cons{x:α}{y:β}{l:List α}{k:List β}:E x y->gD E l k->gD E (x::l) (y::k)
abbrev tO:=Nat->Option (ByteArray×List Nat)
abbrev Nx:=Nat->Option Nat
structure mr(str:tO)(nx:Nx)(V:Nat->Ty):Prop where
 made:∀n c l,str n=some (c,l)->V n=.aM c (l.map V)
 bz:∀n m,nx n=some m->V n=V m
structure Eq(nx:Nx)(P:List (Nat×Nat))(E:Nat->Nat->Prop):Prop where
 refl:∀n,E n n
 symm:∀m n,E m n->E n m
 trans:∀k m n,E k m->E m n->E k n
 bz:∀n m,nx n=some m->E n m
 aaa:∀m n,(m,n)∈P->E m n
def vH(str:tO)nx P:=
 ∀E,Eq nx P E->∀n m c l,nx n=some m->str n=some (c,l)->∃l',str m=some (c,l')/\gD E l l'
def vH.start str P:vH str (λ_=>none) P:=by grind[vH]
def rG{E:Nat->Nat->Prop}(h:∀n,E n n):∀l,gD E l l
 |[]=>.nil|x::l=>.cons (h x)<|rG h l
def k_{E:Nat->Nat->Prop}(h:∀k m n,E k m->E m n->E k n):∀{a b c:List Nat},gD E a b->gD E b c->gD E a c
 |[],_,_,.nil,.nil=>.nil|_::_,_,_,.cons p q,.cons r s=>.cons (h _ _ _ p r)<|k_ h q s
def vY{E:Nat->Nat->Prop}:∀{a b:List Nat},a.length=b.length->(∀x y,(x,y)∈a.zip b->E x y)->gD E a b
 |[],[],_,_=>.nil|x::a,y::b,h,k=>.cons (k x y<|by simp) (vY (by simpa using h) λx' y' h'=>k x' y'<|by simp[h'])
def vI{E:Nat->Nat->Prop}{V:Nat->Ty}(h:∀m n,E m n->V m=V n):∀{a b:List Nat},gD E a b->a.map V=b.map V
 |[],_,.nil=>rfl|_::_,_,.cons p q=>by simp[h _ _ p,vI h q]
section
variable {str:tO} {nx:Nx}
def mr.join(ha:nx a=none){V:Nat->Ty}:mr str (dZ nx a<|some b) V↔mr str nx V/\V a=V b:=by
 constructor
 .intro h;refine⟨⟨h.made,λn m e=>?_⟩,h.bz a b<|by simp[dZ]⟩;by_cases k:n=a
  .grind
  .exact h.bz n m (by simpa[dZ,k]using e)
 .rintro⟨h,e⟩;refine⟨h.made,λn m k=>?_⟩;by_cases j:n=a
  .subst j;simp[dZ]at k;subst k;exact e
  .exact h.bz n m (by simpa[dZ,j]using k)
def Eq.iS(ha:nx a=none)(h:Eq (dZ nx a<|some b) P E):Eq nx P E/\E a b:=by
 refine⟨⟨h.refl,h.symm,h.trans,λn m e=>h.bz n m ?_,h.aaa⟩,h.bz a b<|by simp[dZ]⟩;by_cases k:n=a
 .grind
 .simpa[dZ,k]using e
def vH.var(h:vH str nx P)(ha:nx a=none)(hs:str a=none):vH str (dZ nx a<|some b) P:=by
 intro E hE n m c l e1 e2;by_cases k:n=a
 .grind
 .exact h E (hE.iS ha).1 n m c l (by simpa[dZ,k]using e1) e2
def vH.aM{a b:Nat}{c:ByteArray}{l l':List Nat}(h:vH str nx P)(ha:nx a=none)(hs:str a=some (c,l))(iO:str b=some (c,l'))(hl:l.length=l'.length):
 vH str (dZ nx a<|some b) (l.zip l'++P):=by
 intro E hE n m c' k e1 e2;have h1:=(hE.iS ha).1;by_cases j:n=a
 .subst j;simp[dZ]at e1;subst e1;rw[hs]at e2;injection e2 with e2;injection e2 with e2 e3;subst e2;subst e3;exact⟨l',iO,vY hl λx y hx=>hE.aaa x y<|List.mem_append_left _ hx⟩
 .exact h E ⟨h1.refl,h1.symm,h1.trans,h1.bz,λm n k=>hE.aaa m n<|List.mem_append_right _ k⟩ n m c' k (by simpa[dZ,j]using e1) e2
def CS{p:Prop}(h:p:=by
 exact h.bz x y<|by simpa[dZ,j]using e):p:=h
def mr.short(h1:nx n=some m)(h2:nx m=some k)(cJ:n≠m){V:Nat->Ty}:mr str (dZ nx n<|some k) V↔mr str nx V:=by
 constructor
 .intro h;have hm:=h.bz m k (by simp[dZ,Ne.symm cJ,h2]);have hn:=h.bz n k (by simp[dZ]);refine⟨h.made,λx y e=>?_⟩;by_cases j:x=n
  .grind
  .exact CS
 .intro h;refine⟨h.made,λx y e=>?_⟩;by_cases j:x=n
  .subst j;simp[dZ]at e;subst e;rw[h.bz x m h1,h.bz m _ h2]
  .exact CS
def Eq.Jv(h1:nx n=some m)(h2:nx m=some k)(cJ:n≠m)(h:Eq (dZ nx n<|some k) P E):Eq nx P E:=by
 refine⟨h.refl,h.symm,h.trans,λx y e=>?_,h.aaa⟩;by_cases j:x=n
 .subst j;rw[h1]at e;injection e with e;subst e;exact h.trans _ k _ (h.bz _ k<|by simp[dZ]) (h.symm _ _<|h.bz _ k<|by simp[dZ,Ne.symm cJ,h2])
 .exact CS
def vH.short(h:vH str nx P)(h1:nx n=some m)(h2:nx m=some k)(cJ:n≠m):vH str (dZ nx n<|some k) P:=by
 intro E hE x y c l e1 e2;have hE':=hE.Jv h1 h2 cJ;by_cases j:x=n
 .subst j;simp[dZ]at e1;subst e1;have⟨l1,a1,a2⟩:=h E hE' x m c l h1 e2;have⟨l2,b1,b2⟩:=h E hE' m _ c l1 h2 a1;exact⟨l2,b1,k_ hE.trans a2 b2⟩
 .exact h E hE' x y c l (by simpa[dZ,j]using e1) e2
def vH.amS{Q}(h:vH str nx (Q++P))(k:∀E,Eq nx P E->∀m n,(m,n)∈Q->E m n):vH str nx P:=by
 intro E hE
 exact h E ⟨hE.refl,hE.symm,hE.trans,hE.bz,λm n hm=>by
  cases List.mem_append.1 hm with
  |inl a=>exact k E hE m n a|inr a=>exact hE.aaa m n a⟩
end
inductive Hd(nx:Nx):Nat->Nat->Prop where
 |here{n:Nat}:nx n=none->Hd nx n n
 |step{n m h:Nat}:nx n=some m->Hd nx m h->Hd nx n h
def Hd.head{nx}(k:Hd nx n h):nx h=none:=by
 induction k with
 |here e=>exact e|step _ _ ih=>exact ih
def Hd.one{nx}{n h h':Nat}(k:Hd nx n h)(j:Hd nx n h'):h=h':=by
 induction k with
 |here e=>cases j with
  |here=>rfl|step e' _=>grind
 |step e _ ih=>cases j with
  |here e'=>grind|step e' j=>grind
def Hd.m7{str}{nx}{V:Nat->Ty}(s:mr str nx V)(k:Hd nx n h):V n=V h:=by
 induction k with
 |here=>rfl|step e _ ih=>rw[s.bz _ _ e,ih]
def Hd.eq{nx}(s:Eq nx P E)(k:Hd nx n h):E n h:=by
 induction k with
 |here=>exact s.refl _|step e _ ih=>exact s.trans _ _ _ (s.bz _ _ e) ih
def Hd.rH{nx}(k:Hd nx n h)(e:nx n=some m):Hd nx m h:=by
 cases k with
 |here e'=>grind|step e' k=>grind
def Hd.short{nx}(h1:nx n=some m)(h2:nx m=some k)(j:Hd nx x h):Hd (dZ nx n<|some k) x h:=by
 induction j with
 | @here x e=>
   have:x≠n:=λe'=>by subst e';rw[h1]at e;simp at e
   exact .here (by simpa[dZ,this]using e)
 | @step x y h e j ih=>
   by_cases c:x=n
   .subst c;rw[h1]at e;injection e with e;subst e;by_cases c2:m=x
    .subst c2;exact ih
    .exact .step (m:=k) (by simp[dZ]) (ih.rH<|by simp[dZ,c2,h2])
   .exact .step (m:=y) (by simpa[dZ,c]using e) ih
def Hd.join{nx}(ha:nx a=none)(hb:nx b=none)(cJ:a≠b)(j:Hd nx x h):Hd (dZ nx a<|some b) x (if h=a then b else h):=by
 induction j with
 | @here x e=>
   by_cases c:x=a
   .subst c;simp;exact .step (m:=b) (by simp[dZ]) (.here<|by simp[dZ,Ne.symm cJ,hb])
   .simp[c];exact .here (by simpa[dZ,c]using e)
 | @step x y h e j ih=>
   have c:x≠a:=λc=>by subst c;rw[ha]at e;simp at e
   exact .step (m:=y) (by simpa[dZ,c]using e) ih
def yO nx m n:=m=n\/∃h,Hd nx m h/\Hd nx n h
def yO.is{nx}(t:∀n m,nx n=some m->∃h,Hd nx n h):Eq nx [] (yO nx):=by
 refine⟨λn=>jc rfl,?_,?_,?_,λ_ _ h=>by simp at h⟩
 .rintro m n(h|⟨h,a,b⟩)
  .exact jc h.symm
  .exact ja ⟨h,b,a⟩
 .rintro k m n(rfl|⟨h,a,b⟩)
  .exact id
  .rintro(rfl|⟨h',a',b'⟩)
   .exact ja ⟨h,a,b⟩
   .have:=b.one a';subst this;exact ja ⟨h,a,b'⟩
 .intro n m e;have⟨h,hh⟩:=t n m e;exact ja ⟨h,hh,hh.rH e⟩
def Fin(str:tO)nx(vr:Nat->Nat)(F:Nat->Prop)(V:Nat->Ty):=
 ∀h,F h->nx h=none/\match str h with
  |none=>V h=.var (vr h)|some (c,l)=>∃hs,gD (Hd nx) l hs/\(∀x,x∈hs->F x)/\V h=.aM c (hs.map V)
def mB{V:Nat->Ty}:∀{l:List Nat}{x},x∈l->size (V x)<=ak (l.map V)
 |_,_,h=>zS<|List.mem_map.2 ⟨_,h,rfl⟩
structure Of(str:tO)(vr:Nat->Nat)(D:Nat->Prop)(ty:Nat->Ty):Prop where
 var:∀n,D n->str n=none->ty n=.var (vr n)
 aM:∀n c l,str n=some (c,l)->D n/\ty n=.aM c (l.map ty)/\∀x,x∈l->D x
 one:∀m n,D m->D n->str m=none->str n=none->vr m=vr n->m=n
def dQ{V W:Nat->Ty}:∀{l:List Nat},(∀x,x∈l->V x=W x)->l.map V=l.map W
 |[],_=>rfl|x::l,h=>by
   have k:=dQ (V:=V) (W:=W) (l:=l) λy hy=>h y<|List.mem_cons_of_mem _ hy;simp[h x<|by simp,k]
def jC σ V(l:List Nat):ba σ (l.map V)=l.map λx=>sub σ<|V x:=by
 rw[iq,List.map_map];rfl
def yj{nx:Nx}:∀{l hs:List Nat},gD (Hd nx) l hs->∀x,x∈l->∃k,Hd nx x k/\k∈hs
 |_,_,.nil,x,h=>by simp at h|_,_,.cons p q,x,h=>by
  cases List.mem_cons.1 h with
  |inl e=>subst e;exact⟨_,p,by simp⟩|inr e=>have⟨k,a,b⟩:=yj q x e;exact⟨k,a,by simp[b]⟩
end Un
def fA{a b}(h:a=true)(k:b=true):(a&&b)=true:=by rw[h,k];rfl
def EO:(laidOutB Tryz.prog)=true:=by kernel_rfl
def RH:(mapsRowed Tryz.prog)=true:=by kernel_rfl
def cp6:((Tryz.prog.stops==[]))=true:=by kernel_rfl
def cp8:((Tryz.prog.stopKnobs==[]))=true:=by kernel_rfl
def amT:(Tryz.prog.stopsHeard)=true:=by kernel_rfl
def amU:(Tryz.prog.mayEnter)=true:=by kernel_rfl
end Go.Proofs.YtopmodaakdnliaaGreatDoor
