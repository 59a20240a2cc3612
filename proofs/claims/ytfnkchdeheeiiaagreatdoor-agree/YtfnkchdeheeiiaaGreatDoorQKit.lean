import Derived.JoinedOf
import Derived.Test.YtfnkchdeheeiiaaGreatDoorRows
import Derived.WalkLawsBesides
import Derived.WalkSpells
set_option linter.all false
set_option maxRecDepth 100000
set_option maxHeartbeats 200000
namespace Go.Proofs.YtfnkchdeheeiiaaGreatDoor
open Or renaming inr->ja,inl->jc
open _root_.List renaming foldl_cons->jd,mem_cons_of_mem->jf,map_cons->jh,idxOf_cons->ji
open Go.Proofs.Tryz renaming prog->jj
open _root_.Nat renaming lt_of_lt_of_le->jk
open Go
variable {c d:ByteArray} {P:List (Nat×Nat)} {xs:List Value} {a b base h k m n v x:Nat} {ρ:Nat->Nat} {E:Nat->Nat->Prop} {e:TypeId} {w:World}
section
open Go.RowKit
def TS(w:World)(C:List Value)t:∀j u,C[j]? =some u->(w.alloc<|.cells C.toArray t).cell? ((⟨w.heap.size,0,none⟩:Addr).add j)=some u:=by
 intro j u hj;rw[Addr.add];split
 .next h=>subst h;simpa using hj
 .simpa using hj
def jW{w'}{size}{v}(h:w.ownsRow base e size v n xs)(hb:Below w.heap.size w w'):w'.ownsRow base e size v n xs:=by
 obtain⟨h1,h2⟩:=h;refine⟨h1,?_⟩;obtain h2|⟨g,cap,l7,hv,hg,hh,r⟩:=h2
 .exact jc h2
 .refine ja ⟨g,cap,l7,hv,hg,?_,r⟩;have bz:g<w.heap.size:=by
   have:=Array.getElem?_eq_some_iff.1 hh;exact this.1
  rw[hb.block g bz,hh]
def oP(w:World)(C:List Value)t b(hb:b=w.heap.size):∀j u,C[j]? =some u->(w.alloc<|.cells C.toArray t).cell? ((⟨b,0,none⟩:Addr).add j)=some u:=by
 subst hb;exact TS w C t
def fK{size}{v}(h:w.ownsRow base e size v n xs):∀k,v.ownBlock=some k->base<=k/\k<w.heap.size:=by
 intro k hk;obtain⟨h1,h2⟩:=h;obtain⟨rfl,_⟩|⟨g,cap,l7,rfl,hg,hh,r⟩:=h2
 .simp[Value.ownBlock]at hk
 .simp[Value.ownBlock]at hk;subst hk;exact⟨hg,(Array.getElem?_eq_some_iff.1 hh).1⟩
end
namespace Un
inductive Ty where
 |var(n:Nat):Ty
 |aK(c:ByteArray)(l:List Ty):Ty
mutual
def sub(σ:Nat->Ty):Ty->Ty
 |.var n=>σ n|.aK c l=>.aK c<|aT σ l
def aT(σ:Nat->Ty):List Ty->List Ty
 |[]=>[]|t::l=>sub σ t::aT σ l
end
mutual
def size:Ty->Nat
 |.var _=>1|.aK _ l=>1+ah l
def ah:List Ty->Nat
 |[]=>0|t::l=>size t+ah l
end
mutual
def aA(v:Nat):Ty->Prop
 |.var n=>n=v|.aK _ l=>bY v l
def bY(v:Nat):List Ty->Prop
 |[]=>False|t::l=>aA v t\/bY v l
end
def seen l(v:Nat):=if v∈l then l else l++[v]
mutual
def vars(a:List Nat):Ty->List Nat
 |.var n=>seen a n|.aK _ l=>ba a l
def ba(a:List Nat):List Ty->List Nat
 |[]=>a|t::l=>ba (vars a t) l
end
def iH(σ:Nat->Ty):∀l,aT σ l=l.map (sub σ)
 |[]=>rfl|t::l=>by simp[aT,iH σ l]
def eB σ l:(aT σ l).length=l.length:=by simp[iH]
mutual
theorem sub_sub(τ σ:Nat->Ty):∀t,sub τ (sub σ t)=sub (λn=>sub τ<|σ n) t
 |.var n=>by simp[sub]|.aK c l=>by simp[sub,y_ τ σ l]
theorem y_(τ σ:Nat->Ty):∀l,aT τ (aT σ l)=aT (λn=>sub τ<|σ n) l
 |[]=>by simp[aT]|t::l=>by simp[aT,sub_sub τ σ t,y_ τ σ l]
end
mutual
def cO:∀t,sub Ty.var t=t
 |.var n=>by simp[sub]|.aK c l=>by simp[sub,IC l]
def IC:∀l,aT Ty.var l=l
 |[]=>by simp[aT]|t::l=>by simp[aT,cO t,IC l]
end
mutual
theorem sub_congr{σ τ:Nat->Ty}:∀t,(∀n,aA n t->σ n=τ n)->sub σ t=sub τ t
 |.var n,h=>by simpa[sub]using h n (by simp[aA])|.aK c l,h=>by simp[sub,rD l<|λn hn=>h n<|by simpa[aA]using hn]
theorem rD{σ τ:Nat->Ty}:∀l,(∀n,bY n l->σ n=τ n)->aT σ l=aT τ l
 |[],_=>by simp[aT]|t::l,h=>by simp[aT,sub_congr t<|λn hn=>h n<|jc hn,rD l<|λn hn=>h n<|ja hn]
end
mutual
def PO{σ τ:Nat->Ty}:∀t,sub σ t=sub τ t->∀n,aA n t->σ n=τ n
 |.var m,h,n,hn=>by simp[aA]at hn;subst hn;simpa[sub]using h|.aK c l,h,n,hn=>ID l (by simpa[sub]using h) n (by simpa[aA]using hn)
def ID{σ τ:Nat->Ty}:∀l,aT σ l=aT τ l->∀n,bY n l->σ n=τ n
 |[],_,n,hn=>by simp[bY]at hn|t::l,h,n,hn=>by
   simp[aT]at h
   cases hn with
   |inl a=>exact PO t h.1 n a|inr a=>exact ID l h.2 n a
end
def size_pos:∀t,1<=size t
 |.var n=>by simp[size]|.aK c l=>by simp[size]<;>omega
def zC{t:Ty}:∀{l},t∈l->size t<=ah l
 |a::l,h=>by
   simp[ah]
   cases List.mem_cons.1 h with
   |inl e=>subst e;omega|inr e=>have:=zC e;omega
mutual
def IE(σ:Nat->Ty)(v:Nat):∀t,aA v t->size (σ v)<=size (sub σ t)
 |.var n,h=>by simp[aA]at h;subst h;simp[sub]|.aK c l,h=>by have:=jX σ v l (by simpa[aA]using h);simp[sub,size];omega
def jX(σ:Nat->Ty)(v:Nat):∀l,bY v l->size (σ v)<=ah (aT σ l)
 |[],h=>by simp[bY]at h|t::l,h=>by
   simp[aT,ah]
   cases h with
   |inl a=>have:=IE σ v t a;omega|inr a=>have:=jX σ v l a;omega
end
def TU{σ}{l}(h:bY v l):σ v≠sub σ (.aK c l):=λe=>by
 have:=jX σ v l h;have e':=congrArg size e;simp[sub,size]at e';omega
def sN{a:List Nat}:n∈seen a v↔n∈a\/n=v:=by
 rw[seen];split
 .grind
 .simp
mutual
def bE:∀(t:Ty)(a:List Nat)(n:Nat),n∈vars a t↔n∈a\/aA n t
 |.var m,a,n=>by simp[vars,aA,sN,eq_comm]|.aK c l,a,n=>by simp[vars,aA,CI l a n]
def CI:∀(l:List Ty)(a:List Nat)(n:Nat),n∈ba a l↔n∈a\/bY n l
 |[],a,n=>by simp[ba,bY]|t::l,a,n=>by simp[ba,bY,CI l,bE t,or_assoc]
end
def MO{a:List Nat}(h:a.Nodup)v:(seen a v).Nodup:=by
 rw[seen];split
 .exact h
 .rename_i hv;rw[List.nodup_append];refine⟨h,by simp,?_⟩;intro x hx y hy e;simp at hy;subst e;subst hy;exact hv hx
mutual
theorem dG:∀(t:Ty){a:List Nat},a.Nodup->(vars a t).Nodup
 |.var m,a,h=>by simpa[vars]using MO h m|.aK c l,a,h=>by simpa[vars]using vV l h
theorem vV:∀(l:List Ty){a:List Nat},a.Nodup->(ba a l).Nodup
 |[],a,h=>by simpa[ba]using h|t::l,a,h=>by simpa[ba]using vV l (dG t h)
end
def Yl a v:a<+:seen a v:=by
 rw[seen];split
 .grind
 .grind
mutual
def Ym:∀(t:Ty)(a:List Nat),a<+:vars a t
 |.var m,a=>by simpa[vars]using Yl a m|.aK c l,a=>by simpa[vars]using mn l a
def mn:∀(l:List Ty)(a:List Nat),a<+:ba a l
 |[],a=>by simp[ba]|t::l,a=>by simpa[ba]using(Ym t a).trans (mn l _)
end
def Ren(ρ:Nat->Nat)(a:List Nat):=∀m,m∈a->∀n,n∈a->ρ m=ρ n->m=n
abbrev pY(ρ:Nat->Nat):Nat->Ty:=λn=>.var<|ρ n
def Yn{a:List Nat}(h:Ren ρ (seen a v)):seen (a.map ρ) (ρ v)=(seen a v).map ρ:=by
 by_cases hv:v∈a
 .have h1:ρ v∈a.map ρ:=List.mem_map.2 ⟨v,hv,rfl⟩;rw[seen,seen,if_pos hv,if_pos h1]
 .have h1:¬ρ v∈a.map ρ:=by
   intro hm;have⟨u,hu,e⟩:=List.mem_map.1 hm;have:=h u (sN.2<|jc hu) v (sN.2<|ja rfl) e;subst this;exact hv hu
  rw[seen,seen,if_neg hv,if_neg h1];simp
def Ren.pre{a b:List Nat}(h:Ren ρ b)(k:a<+:b):Ren ρ a:=λm hm n hn e=>h m (k.subset hm) n (k.subset hn) e
mutual
def mq{ρ:Nat->Nat}:∀(t:Ty){a:List Nat},Ren ρ (vars a t)->vars (a.map ρ) (sub (pY ρ) t)=(vars a t).map ρ
 |.var m,a,h=>by simpa[vars,sub]using Yn (by simpa[vars]using h)|.aK c l,a,h=>by simpa[vars,sub]using CJ l (by simpa[vars]using h)
def CJ{ρ:Nat->Nat}:∀(l:List Ty){a:List Nat},Ren ρ (ba a l)->ba (a.map ρ) (aT (pY ρ) l)=(ba a l).map ρ
 |[],a,h=>by simp[ba,aT]|t::l,a,h=>by
   simp only[ba,aT]at h⊢;rw[mq t<|h.pre<|mn l _,CJ l h]
end
def PQ{p:Prop}(h:p:=by
 cases List.mem_cons.1 hv with
 |inl k=>exact absurd k.symm e|inr k=>exact k):p:=h
def PS{ρ:Nat->Nat}{v:Nat}:∀{a:List Nat},Ren ρ a->v∈a->(a.map ρ).idxOf (ρ v)=a.idxOf v
 |[],_,h=>by simp at h|x::a,h,hv=>by
   by_cases e:x=v
   .subst e;simp
   .have e':¬ρ x=ρ v:=λk=>e (h x (by simp) v hv k);have Mn:v∈a:=by
     exact PQ
    have b1:(x==v)=false:=by simpa using e
    have b2:(ρ x==ρ v)=false:=by simpa using e'
    have:=PS (λm hm n hn=>h m (jf _ hm) n<|jf _ hn) Mn;simp only[jh,ji,b1,b2,this]
mutual
def IF(ρ:Nat->Nat):∀t,size (sub (pY ρ) t)=size t
 |.var n=>by simp[sub,size]|.aK c l=>by simp[sub,size,CL ρ l]
def CL(ρ:Nat->Nat):∀l,ah (aT (pY ρ) l)=ah l
 |[]=>by simp[aT,ah]|t::l=>by simp[aT,ah,IF ρ t,CL ρ l]
end
end Un
namespace Un
abbrev qJ:ByteArray:=⟨#[62]⟩
abbrev nO:ByteArray:=⟨#[44]⟩
def par p(s:List UInt8):=if p=true then 40::(s++[41])else s
def nth(ps:List (Nat->List UInt8))i:=ps.getD i λ_=>[]
def bC c ps tight:=
 if c=qJ then par (decide (0<tight)) (nth ps 0 1++([32,45,62,32]++nth ps 1 0))
 else if c=nO then 40::(nth ps 0 0++([44,32]++(nth ps 1 0++[41])))
 else par (decide (1<tight)&& !ps.isEmpty) (c.toList++ps.flatMap λp=>32::p 2)
section
variable (dec:Nat->List UInt8)
mutual
def wr(L:List Nat):Ty->Nat->List UInt8
 |.var n=>λ_=>39::118::dec (L.idxOf n)|.aK c l=>bC c<|Bm L l
def Bm(L:List Nat):List Ty->List (Nat->List UInt8)
 |[]=>[]|t::l=>wr L t::Bm L l
end
def written(t:Ty):List UInt8:=wr dec (vars [] t) t 0
def PV{v:Nat}:∀{a b:List Nat},a<+:b->v∈a->b.idxOf v=a.idxOf v
 |[],_,_,h=>by simp at h|x::a,b,h,hv=>by
   obtain⟨r,rfl⟩:=h;by_cases e:x=v
   .subst e;simp
   .have b1:(x==v)=false:=by simpa using e
    have Mn:v∈a:=by
     exact PQ
    have:=PV (List.prefix_append a r) Mn;simp only[List.cons_append,ji,b1,this]
mutual
def Yo{a b:List Nat}(h:a<+:b):∀t,(∀n,aA n t->n∈a)->wr dec b t=wr dec a t
 |.var n,k=>by simp only[wr,PV h<|k n<|by simp[aA]]|.aK c l,k=>by simp only[wr,PW h l<|λn hn=>k n<|by simpa[aA]using hn]
def PW{a b:List Nat}(h:a<+:b):∀l,(∀n,bY n l->n∈a)->Bm dec b l=Bm dec a l
 |[],_=>by simp[Bm]|t::l,k=>by simp only[Bm,Yo h t<|λn hn=>k n<|jc hn,PW h l<|λn hn=>k n<|ja hn]
end
mutual
def EB{ρ:Nat->Nat}{L:List Nat}(h:Ren ρ L):∀t,(∀n,aA n t->n∈L)->wr dec (L.map ρ) (sub (pY ρ) t)=wr dec L t
 |.var n,k=>by simp only[wr,sub,pY,PS h<|k n<|by simp[aA]]|.aK c l,k=>by simp only[wr,sub,PX h l<|λn hn=>k n<|by simpa[aA]using hn]
def PX{ρ:Nat->Nat}{L:List Nat}(h:Ren ρ L):∀l,(∀n,bY n l->n∈L)->Bm dec (L.map ρ) (aT (pY ρ) l)=Bm dec L l
 |[],_=>by simp[Bm,aT]|t::l,k=>by simp only[Bm,aT,EB h t<|λn hn=>k n<|jc hn,PX h l<|λn hn=>k n<|ja hn]
end
def II{t:Ty}(h:Ren ρ (vars [] t)):written dec (sub (pY ρ) t)=written dec t:=by
 have e:=mq (ρ:=ρ) t (a:=[]) h;simp only[List.map_nil]at e;rw[written,e,EB dec h t<|λn hn=>(bE t [] n).2<|ja hn,<-written]
end
end Un
namespace Un
structure uk(K:Nat->Option Ty)(R:Nat->Ty)(rk:Nat->Nat):Prop where
 open_:∀n,K n=none->R n=.var n
 shut:∀n t,K n=some t->R n=sub R t
 Yp:∀n u,K n=some (.var u)->rk u<rk n
def uk.start:uk (λ_=>none) Ty.var (λ_=>0):=⟨λ_ _=>rfl,λ_ _ h=>by simp at h,λ_ _ h=>by simp at h⟩
def eh{α:Type}(K:Nat->α)a t:=λn=>if n=a then t else K n
def sP a(B:Ty):=λn=>if n=a then B else .var n
def IJ{B t:Ty}(h:¬aA a t):sub (sP a B) t=t:=by
 refine(sub_congr t λn hn=>?_).trans (cO t);have:n≠a:=λe=>h<|e▸hn;simp[sP,this]
def Yq{B t:Ty}{σ:Nat->Ty}(h:σ a=sub σ B):sub σ (sub (sP a B) t)=sub σ t:=by
 rw[sub_sub];refine sub_congr t λn _=>?_;by_cases e:n=a
 .subst e;simp[sP,h]
 .simp[sP,e,sub]
def uk.bind{K:Nat->Option Ty}{R:Nat->Ty}{rk}(h:uk K R rk){b:Ty}(ha:K a=none)(hn:¬aA a (sub R b))(hb:∀u,b=.var u->K u=none):
 ∃PY,uk (eh K a<|some b) (λn=>sub (sP a<|sub R b)<|R n) PY:=by
 have hN:∀t,sub (λn=>sub (sP a<|sub R b)<|R n) t=sub (sP a<|sub R b) (sub R t):=λt=>(sub_sub _ _ t).symm
 classical
 refine⟨λn=>if R n=.var a then rk n+(match b with|.var u=>rk u+1|.aK _ _=>0)else rk n,?_,?_,?_⟩
 .intro n IA;by_cases e:n=a
  .simp[eh,e]at IA
  .simp[eh,e]at IA;simp[h.open_ n IA,sub,sP,e]
 .intro n t ht;by_cases e:n=a
  .subst e;simp[eh]at ht;subst ht;simp only[hN];rw[IJ hn,h.open_ n ha];simp[sub,sP]
  .simp[eh,e]at ht;simp only[hN];rw[h.shut n t ht]
 .intro n u ht;by_cases e:n=a
  .subst e;simp[eh]at ht;subst ht;have h1:=h.open_ n ha;have h2:=h.open_ u<|hb u rfl;have h3:¬u=n:=λe=>hn (by rw[sub,h2,aA];exact e);simp[h1,h2,h3];omega
  .simp[eh,e]at ht;have h1:=h.Yp n u ht;have h2:R n=R u:=by simpa[sub]using h.shut n _ ht
   simp only[h2];split<;>omega
structure Made(R R':Nat->Ty)a b:Prop where
 same:sub R' a=sub R' b
 of_:∃δ,∀n,R' n=sub δ (R n)
 least:∀σ,sub σ (sub R a)=sub σ (sub R b)->∀n,sub σ (R' n)=sub σ (R n)
def Made.refl{R:Nat->Ty}{a b:Ty}(h:sub R a=sub R b):Made R R a b:=⟨h,⟨Ty.var,λ_=>(cO _).symm⟩,λ_ _ _=>rfl⟩
def Made.swap{R R':Nat->Ty}{a b:Ty}(h:Made R R' a b):Made R R' b a:=⟨h.same.symm,h.of_,λσ e=>h.least σ e.symm⟩
def Made.ac1{R R':Nat->Ty}{a b a' b':Ty}(h:Made R R' a' b')(ea:sub R a'=sub R a)(eb:sub R b'=sub R b):Made R R' a b:=by
 obtain⟨h1,⟨δ,h2⟩,h3⟩:=h;have hN:∀t,sub R' t=sub δ (sub R t):=λt=>by rw[sub_sub];exact sub_congr t λn _=>h2 n
 refine⟨?_,⟨δ,h2⟩,λσ e=>h3 σ (by rw[ea,eb];exact e)⟩;rw[hN a,hN b,<-ea,<-eb,<-hN,<-hN,h1]
def Made.bind{K:Nat->Option Ty}{R:Nat->Ty}{rk}(h:uk K R rk){b:Ty}(ha:K a=none)(hn:¬aA a (sub R b)):
 Made R (λn=>sub (sP a<|sub R b)<|R n) (.var a) b:=by
 have hN:∀t,sub (λn=>sub (sP a<|sub R b)<|R n) t=sub (sP a<|sub R b) (sub R t):=λt=>(sub_sub _ _ t).symm;refine⟨?_,⟨_,λn=>rfl⟩,λσ e n=>Yq ?_⟩
 .rw[hN,hN,IJ hn];simp[sub,h.open_ a ha,sP]
 .simpa[sub,h.open_ a ha]using e
def ac2{K:Nat->Option Ty}{R:Nat->Ty}{rk}(h:uk K R rk){l}(ha:K a=none)(hn:aA a (sub R<|.aK c l))σ:
 sub σ (sub R<|.var a)≠sub σ (sub R<|.aK c l):=by
 have e1:sub R (.var a)=.var a:=by simpa[sub]using h.open_ a ha
 rw[e1];simp only[sub,aA]at hn⊢;have:=TU (σ:=σ) (c:=c) hn;simpa[sub]using this
structure oQ(R R':Nat->Ty)a b:Prop where
 same:aT R' a=aT R' b
 of_:∃δ,∀n,R' n=sub δ (R n)
 least:∀σ,aT σ (aT R a)=aT σ (aT R b)->∀n,sub σ (R' n)=sub σ (R n)
def PZ{R R' δ:Nat->Ty}(h:∀n,R' n=sub δ (R n))l:aT R' l=aT δ (aT R l):=by
 rw[y_];exact rD l λn _=>h n
def oQ.nil R:oQ R R [] []:=⟨rfl,⟨Ty.var,λ_=>(cO _).symm⟩,λ_ _ _=>rfl⟩
def cR σ a b:aT σ (a++b)=aT σ a++aT σ b:=by simp[iH]
def oQ.snoc{R R' R'':Nat->Ty}{a b}{x y:Ty}(hl:a.length=b.length)(h:oQ R R' a b)(k:Made R' R'' x y):oQ R R'' (a++[x]) (b++[y]):=by
 have⟨δ,h2⟩:=h.of_;have⟨ε,k2⟩:=k.of_;refine⟨?_,⟨λn=>sub ε<|δ n,λn=>?_⟩,λσ e n=>?_⟩
 .rw[cR,cR,PZ k2 a,PZ k2 b,h.same];simp[aT,k.same]
 .rw[k2 n,h2 n,sub_sub]
 .rw[cR,cR,cR,cR]at e;have e1:=List.append_inj e (by simp[eB,hl]);have e2:=h.least σ e1.1;have e3:sub σ (sub R' x)=sub σ (sub R' y):=by
   have:∀t,sub σ (sub R' t)=sub σ (sub R t):=λt=>by
    rw[sub_sub,sub_sub];exact sub_congr t λn _=>e2 n
   rw[this,this];simpa[aT]using e1.2
  rw[k.least σ e3 n,e2 n]
def oQ.aK{R R':Nat->Ty}{a b}c(h:oQ R R' a b):Made R R' (.aK c a) (.aK c b):=
 ⟨by simp[sub,h.same],h.of_,λσ e=>h.least σ<|by simpa[sub]using e⟩
def oQ.no{R R':Nat->Ty}{a b a' b'}{x y:Ty}(hl:a.length=b.length)(h:oQ R R' a b)(k:∀σ,sub σ (sub R' x)≠sub σ (sub R' y))c d σ:
 sub σ (sub R<|.aK c (a++x::a'))≠sub σ (sub R<|.aK d (b++y::b')):=by
 intro e;simp only[sub,Ty.aK.injEq]at e;have e:=e.2;rw[cR,cR,cR,cR]at e;have e1:=List.append_inj e (by simp[eB,hl]);have e2:=h.least σ e1.1;refine k σ ?_;have:∀t,sub σ (sub R' t)=sub σ (sub R t):=λt=>by
  rw[sub_sub,sub_sub];exact sub_congr t λn _=>e2 n
 rw[this,this];have e3:=e1.2;simp only[aT,List.cons.injEq]at e3;exact e3.1
def MP{R σ:Nat->Ty}{a b}(h:c≠d):sub σ (sub R<|.aK c a)≠sub σ (sub R<|.aK d b):=λe=>by
 simp only[sub,Ty.aK.injEq]at e;exact h e.1
def TX{R σ:Nat->Ty}{a b}(h:a.length≠b.length):sub σ (sub R<|.aK c a)≠sub σ (sub R<|.aK d b):=λe=>by
 simp only[sub,Ty.aK.injEq]at e;have:=congrArg List.length e.2;simp[eB]at this;exact h this
end Un
namespace Un
def si:ByteArray:=⟨#[116,111,111,32,108,97,114,103,101]⟩
mutual
def sz:Ty->Nat
 |.var _=>1|.aK c l=>if c=si then 49 else 1+rE l
def rE:List Ty->Nat
 |[]=>0|t::l=>sz t+rE l
end
mutual
def Whole:Ty->Prop
 |.var _=>True|.aK c l=>c≠si/\kI l
def kI:List Ty->Prop
 |[]=>True|t::l=>Whole t/\kI l
end
mutual
theorem oR:∀t,Whole t->sz t=size t
 |.var n,_=>by simp[sz,size]|.aK c l,h=>by simp only[sz,size];rw[if_neg h.1,CO l h.2]
theorem CO:∀l,kI l->rE l=ah l
 |[],_=>by simp[rE,ah]|t::l,h=>by simp only[rE,ah];rw[oR t h.1,CO l h.2]
end
mutual
def aeY:∀t,sz t<=49*size t
 |.var n=>by simp[sz,size]|.aK c l=>by
  have:=MU l;simp only[sz,size];split<;>omega
def MU:∀l,rE l<=49*ah l
 |[]=>by simp[rE,ah]|t::l=>by have:=aeY t;have:=MU l;simp only[rE,ah];omega
end
mutual
def cr{σ:Nat->Ty}:∀t,Whole t->(∀n,aA n t->Whole (σ n))->Whole (sub σ t)
 |.var n,_,k=>k n rfl|.aK c l,h,k=>⟨h.1,zE l h.2 λn hn=>k n hn⟩
def zE{σ:Nat->Ty}:∀l,kI l->(∀n,bY n l->Whole (σ n))->kI (aT σ l)
 |[],_,_=>trivial|t::l,h,k=>⟨cr t h.1 λn hn=>k n<|jc hn,zE l h.2 λn hn=>k n<|ja hn⟩
end
mutual
theorem IK:∀t,sz t<=48->Whole t
 |.var n,_=>trivial|.aK c l,h=>by
  by_cases e:c=si
  .simp only[sz]at h;rw[if_pos e]at h;omega
  .simp only[sz]at h;rw[if_neg e]at h;exact⟨e,CQ l<|by omega⟩
theorem CQ:∀l,rE l<=48->kI l
 |[],_=>trivial|t::l,h=>by simp only[rE]at h;exact⟨IK t<|by omega,CQ l<|by omega⟩
end
def agu t:1<=sz t:=by
 cases t with
 |var n=>simp[sz]|aK c l=>simp only[sz];split<;>omega
mutual
def Yr(σ:Nat->Ty):∀t,sz t<=sz (sub σ t)
 |.var n=>by simpa[sub,sz]using agu (σ n)|.aK c l=>by
  have:=P0 σ l;simp only[sub,sz];split<;>omega
def P0(σ:Nat->Ty):∀l,rE l<=rE (aT σ l)
 |[]=>by simp[aT,rE]|t::l=>by have:=Yr σ t;have:=P0 σ l;simp only[aT,rE];omega
end
mutual
def IL(σ:Nat->Ty):∀t,size t<=size (sub σ t)
 |.var n=>by simpa[sub,size]using size_pos (σ n)|.aK c l=>by have:=CR σ l;simp only[sub,size];omega
def CR(σ:Nat->Ty):∀l,ah l<=ah (aT σ l)
 |[]=>by simp[aT,ah]|t::l=>by have:=IL σ t;have:=CR σ l;simp only[aT,ah];omega
end
mutual
def iI(σ:Nat->Ty)(C:Nat):∀t,(∀n,aA n t->size (σ n)<=C)->1<=C->size (sub σ t)<=C*size t
 |.var n,h,_=>by simpa[sub,size]using h n rfl|.aK c l,h,hC=>by
  have:=sQ σ C l (λn hn=>h n hn) hC;simp only[sub,size,Nat.mul_add,Nat.mul_one];omega
def sQ(σ:Nat->Ty)(C:Nat):∀l,(∀n,bY n l->size (σ n)<=C)->1<=C->ah (aT σ l)<=C*ah l
 |[],_,_=>by simp[aT,ah]|t::l,h,hC=>by
  have:=iI σ C t (λn hn=>h n<|jc hn) hC;have:=sQ σ C l (λn hn=>h n<|ja hn) hC;simp only[aT,ah,Nat.mul_add];omega
end
mutual
def Ys(σ:Nat->Ty)(v:Nat):∀t,aA v t->sz (σ v)<=sz (sub σ t)\/48<sz (sub σ t)
 |.var n,h=>by simp[aA]at h;subst h;simp[sub]|.aK c l,h=>by
  simp only[sub,sz];split
  .exact ja (by omega)
  .obtain q|q:=P6 σ v l h
   .exact jc (by omega)
   .exact ja (by omega)
def P6(σ:Nat->Ty)(v:Nat):∀l,bY v l->sz (σ v)<=rE (aT σ l)\/48<rE (aT σ l)
 |[],h=>by simp[bY]at h|t::l,h=>by
  simp only[aT,rE];obtain a|a:=h
  .obtain q|q:=Ys σ v t a
   .exact jc (by omega)
   .exact ja (by omega)
  .obtain q|q:=P6 σ v l a
   .exact jc (by omega)
   .exact ja (by omega)
end
mutual
def l9{n:Nat}{σ:Nat->Ty}:∀t,aA n (sub σ t)↔∃m,aA m t/\aA n (σ m)
 |.var m=>by simp[sub,aA]|.aK c l=>by simp[sub,aA,CU l]
def CU{n:Nat}{σ:Nat->Ty}:∀l,bY n (aT σ l)↔∃m,bY m l/\aA n (σ m)
 |[]=>by simp[aT,bY]|t::l=>by
  simp only[aT,bY,l9 t,CU l];constructor
  .rintro(⟨m,a,b⟩|⟨m,a,b⟩)
   .exact⟨m,jc a,b⟩
   .exact⟨m,ja a,b⟩
  .rintro⟨m,a|a,b⟩
   .exact jc ⟨m,a,b⟩
   .exact ja ⟨m,a,b⟩
end
def IP{a}(h:v∈a):seen a v=a:=by simp[seen,h]
mutual
def yY:∀(t:Ty)(a:List Nat),(∀n,aA n t->n∈a)->vars a t=a
 |.var n,a,h=>IP (h n rfl)|.aK c l,a,h=>by simpa[vars]using CV l a λn hn=>h n hn
def CV:∀(l:List Ty)(a:List Nat),(∀n,bY n l->n∈a)->ba a l=a
 |[],a,_=>rfl|t::l,a,h=>by
  simp only[ba];rw[yY t a λn hn=>h n<|jc hn];exact CV l a λn hn=>h n<|ja hn
end
def sR(σ:Nat->Ty)a(l:List Nat):=l.foldl (λa v=>vars a<|σ v) a
def IQ{σ:Nat->Ty}{n:Nat}:∀(l:List Nat)(a:List Nat),n∈sR σ a l↔n∈a\/∃v,v∈l/\aA n (σ v)
 |[],a=>by simp[sR]|v::l,a=>by
  have:=IQ (σ:=σ) (n:=n) l<|vars a<|σ v;simp only[sR,jd]at this⊢;rw[this,bE];constructor
  .rintro((h|h)|⟨x,h1,h2⟩)
   .exact jc h
   .exact ja ⟨v,by simp,h⟩
   .exact ja ⟨x,by simp[h1],h2⟩
  .rintro(h|⟨x,h1,h2⟩)
   .exact jc (jc h)
   .obtain e|e:=List.mem_cons.1 h1
    .subst e;exact jc<|ja h2
    .exact ja ⟨x,e,h2⟩
mutual
def IR(σ:Nat->Ty)(b:List Nat):∀(t:Ty)(a:List Nat),vars (sR σ b a) (sub σ t)=sR σ b (vars a t)
 |.var n,a=>by
  simp only[sub,vars,seen];split
  .rename_i h;exact yY _ _ λm hm=>(IQ a b).2<|ja ⟨n,h,hm⟩
  .simp[sR,List.foldl_append]
 |.aK c l,a=>by simpa[sub,vars]using CW σ b l a
def CW(σ:Nat->Ty)(b:List Nat):∀(l:List Ty)(a:List Nat),ba (sR σ b a) (aT σ l)=sR σ b (ba a l)
 |[],a=>by simp[aT,ba]|t::l,a=>by
  simp only[aT,ba];rw[IR σ b t a];exact CW σ b l<|vars a t
end
def uE σ a t:vars a (sub σ t)=sR σ a (vars [] t):=by simpa[sR]using IR σ a t []
def zG{σ τ:Nat->Ty}:∀(l a:List Nat),(∀v,v∈l->∀a,vars a (σ v)=vars a (τ v))->sR σ a l=sR τ a l
 |[],a,_=>rfl|v::l,a,h=>by
  have:=zG (σ:=σ) (τ:=τ) l (vars a<|τ v) λx hx=>h x (by simp[hx]);simp only[sR,jd]at this⊢;rw[h v (by simp) a];exact this
theorem Yt t a:vars a t=sR Ty.var a (vars [] t):=by simpa[cO]using uE Ty.var a t
def dD t' t:=t'=t\/(48<sz t'/\48<size t/\vars [] t'=vars [] t)
def dD.refl t:dD t t:=jc rfl
theorem dD.vars{t' t}(h:dD t' t)a:vars a t'=vars a t:=by grind[dD,vars,Yt]
def dD.aeZ{t' t:Ty}(h:dD t' t)(hw:Whole t):48<sz t'↔48<size t:=by grind[dD,Whole,sz,size,oR]
def dD.small{t' t:Ty}(h:dD t' t)(hs:sz t'<=48):t'=t:=by grind[dD,sz]
theorem dD.sub{t' t}{σ' σ}(h:dD t' t)(hs:∀n,aA n t->dD (σ' n) (σ n)):dD (sub σ' t') (sub σ t):=by
 have hv:Un.vars [] (Un.sub σ' t')=Un.vars [] (Un.sub σ t):=by
  rw[uE σ' [] t',uE σ [] t,h.vars];refine zG _ _ λv hv a=>(hs v ?_).vars a;simpa using(bE t [] v).1 hv
 obtain rfl|⟨h1,h2,_⟩:=h
 .by_cases Tz:∀n,aA n t'->σ' n=σ n
  .exact jc (sub_congr t' Tz)
  .have:∃n,aA n t'/\σ' n≠σ n:=by grind
   obtain⟨n,hn,he⟩:=this;obtain e|⟨e1,e2,_⟩:=hs n hn
   .exact absurd e he
   .refine ja ⟨?_,jk e2<|IE σ n t' hn,hv⟩;obtain q|q:=Ys σ' n t' hn<;>omega
 .exact ja ⟨jk h1<|Yr σ' t',jk h2<|IL σ t,hv⟩
def bK t:=if sz t<=48 then t else .aK si ((vars [] t).map Ty.var)
theorem CX:∀(l a:List Nat),ba a (l.map Ty.var)=l.foldl seen a
 |[],a=>rfl|v::l,a=>by simp only[jh,ba,jd,vars];exact CX l<|seen a v
theorem zH:∀(l a:List Nat),l.Nodup->(∀v,v∈l->v∉a)->l.foldl seen a=a++l
 |[],a,_,_=>by simp|v::l,a,h,k=>by
  have e:seen a v=a++[v]:=by simp[seen,k v<|by simp]
  rw[jd,e,zH l (a++[v]) (List.nodup_cons.1 h).2 ?_]
  .simp
  .grind
def gX t:vars [] (bK t)=vars [] t:=by grind[vars,bK,CX,zH,dG]
def dD.cut{t' t:Ty}(h:dD t' t)(hw:Whole t):dD (bK t') t:=by
 by_cases e:sz t'<=48
 .rw[bK];rw[if_pos e];exact h
 .refine ja ⟨by rw[bK];rw[if_neg e];simp[sz],(h.aeZ hw).1<|by omega,?_⟩;rw[gX];exact h.vars []
def T0{t:Ty}{C}(h:(vars [] t).length<=C)(hC:48<=C)(hw:sz t<=48->size t<=48):size (bK t)<=1+C:=by
 rw[bK];split
 .rename_i q;have:=hw q;omega
 .simp only[size];have:∀l:List Nat,ah (l.map Ty.var)=l.length:=λl=>by
   induction l with
   |nil=>rfl|cons x l ih=>simp only[jh,ah,size,ih,List.length_cons];omega
  rw[this];omega
def MW{t:Ty}(h:sz t<=48):size t<=48:=by grind[sz,size,oR,IK]
def P7{p:Prop}(h:p:=by
 refine ja ⟨?_,?_,hv⟩
 .simp only[sz];rw[if_neg hc];simp only[rE];omega
 .simp only[size,ah];omega):p:=h
def dD.af4 c(hc:c≠si){a' a b' b}(ha:dD a' a)(hb:dD b' b):dD (.aK c [a',b']) (.aK c [a,b]):=by
 have hv:Un.vars [] (.aK c [a',b'])=Un.vars [] (.aK c [a,b]):=by
  simp only[Un.vars,ba];rw[ha.vars,hb.vars]
 obtain rfl|⟨a1,a2,_⟩:=ha
 .obtain rfl|⟨b1,b2,_⟩:=hb
  .exact jc rfl
  .exact P7
 .exact P7
end Un
namespace Un
inductive dE{α β:Type}(E:α->β->Prop):List α->List β->Prop where
 |nil:dE E [] []
 |cons{x:α}{y:β}{l:List α}{k:List β}:E x y->dE E l k->dE E (x::l) (y::k)
abbrev ya:=Nat->Option (ByteArray×List Nat)
abbrev Nx:=Nat->Option Nat
structure mP(str:ya)(nx:Nx)(V:Nat->Ty):Prop where
 made:∀n c l,str n=some (c,l)->V n=.aK c (l.map V)
 bC:∀n m,nx n=some m->V n=V m
structure Eq(nx:Nx)(P:List (Nat×Nat))(E:Nat->Nat->Prop):Prop where
 refl:∀n,E n n
 symm:∀m n,E m n->E n m
 trans:∀k m n,E k m->E m n->E k n
 bC:∀n m,nx n=some m->E n m
 Yu:∀m n,(m,n)∈P->E m n
def vW(str:ya)nx P:=
 ∀E,Eq nx P E->∀n m c l,nx n=some m->str n=some (c,l)->∃l',str m=some (c,l')/\dE E l l'
def vW.start str P:vW str (λ_=>none) P:=by grind[vW]
def sS{E:Nat->Nat->Prop}(h:∀n,E n n):∀l,dE E l l
 |[]=>.nil|x::l=>.cons (h x)<|sS h l
def lM{E:Nat->Nat->Prop}(h:∀k m n,E k m->E m n->E k n):∀{a b c:List Nat},dE E a b->dE E b c->dE E a c
 |[],_,_,.nil,.nil=>.nil|_::_,_,_,.cons p q,.cons r s=>.cons (h _ _ _ p r)<|lM h q s
def vX{E:Nat->Nat->Prop}:∀{a b:List Nat},a.length=b.length->(∀x y,(x,y)∈a.zip b->E x y)->dE E a b
 |[],[],_,_=>.nil|x::a,y::b,h,k=>.cons (k x y<|by simp) (vX (by simpa using h) λx' y' h'=>k x' y'<|by simp[h'])
def vY{E:Nat->Nat->Prop}{V:Nat->Ty}(h:∀m n,E m n->V m=V n):∀{a b:List Nat},dE E a b->a.map V=b.map V
 |[],_,.nil=>rfl|_::_,_,.cons p q=>by simp[h _ _ p,vY h q]
section
variable {str:ya} {nx:Nx}
def mP.join(ha:nx a=none){V:Nat->Ty}:mP str (eh nx a<|some b) V↔mP str nx V/\V a=V b:=by
 constructor
 .intro h;refine⟨⟨h.made,λn m e=>?_⟩,h.bC a b<|by simp[eh]⟩;by_cases k:n=a
  .grind
  .exact h.bC n m (by simpa[eh,k]using e)
 .rintro⟨h,e⟩;refine⟨h.made,λn m k=>?_⟩;by_cases j:n=a
  .subst j;simp[eh]at k;subst k;exact e
  .exact h.bC n m (by simpa[eh,j]using k)
def Eq.jE(ha:nx a=none)(h:Eq (eh nx a<|some b) P E):Eq nx P E/\E a b:=by
 refine⟨⟨h.refl,h.symm,h.trans,λn m e=>h.bC n m ?_,h.Yu⟩,h.bC a b<|by simp[eh]⟩;by_cases k:n=a
 .grind
 .simpa[eh,k]using e
def vW.var(h:vW str nx P)(ha:nx a=none)(hs:str a=none):vW str (eh nx a<|some b) P:=by
 intro E hE n m c l e1 e2;by_cases k:n=a
 .grind
 .exact h E (hE.jE ha).1 n m c l (by simpa[eh,k]using e1) e2
def vW.aK{l l'}(h:vW str nx P)(ha:nx a=none)(hs:str a=some (c,l))(lf:str b=some (c,l'))(hl:l.length=l'.length):
 vW str (eh nx a<|some b) (l.zip l'++P):=by
 intro E hE n m c' k e1 e2;have h1:=(hE.jE ha).1;by_cases j:n=a
 .subst j;simp[eh]at e1;subst e1;rw[hs]at e2;injection e2 with e2;injection e2 with e2 e3;subst e2;subst e3;exact⟨l',lf,vX hl λx y hx=>hE.Yu x y<|List.mem_append_left _ hx⟩
 .exact h E ⟨h1.refl,h1.symm,h1.trans,h1.bC,λm n k=>hE.Yu m n<|List.mem_append_right _ k⟩ n m c' k (by simpa[eh,j]using e1) e2
def ED{p:Prop}(h:p:=by
 exact h.bC x y<|by simpa[eh,j]using e):p:=h
def mP.short(h1:nx n=some m)(h2:nx m=some k)(df:n≠m){V:Nat->Ty}:mP str (eh nx n<|some k) V↔mP str nx V:=by
 constructor
 .intro h;have hm:=h.bC m k (by simp[eh,Ne.symm df,h2]);have hn:=h.bC n k (by simp[eh]);refine⟨h.made,λx y e=>?_⟩;by_cases j:x=n
  .grind
  .exact ED
 .intro h;refine⟨h.made,λx y e=>?_⟩;by_cases j:x=n
  .subst j;simp[eh]at e;subst e;rw[h.bC x m h1,h.bC m _ h2]
  .exact ED
def Eq.IU(h1:nx n=some m)(h2:nx m=some k)(df:n≠m)(h:Eq (eh nx n<|some k) P E):Eq nx P E:=by
 refine⟨h.refl,h.symm,h.trans,λx y e=>?_,h.Yu⟩;by_cases j:x=n
 .subst j;rw[h1]at e;injection e with e;subst e;exact h.trans _ k _ (h.bC _ k<|by simp[eh]) (h.symm _ _<|h.bC _ k<|by simp[eh,Ne.symm df,h2])
 .exact ED
def vW.short(h:vW str nx P)(h1:nx n=some m)(h2:nx m=some k)(df:n≠m):vW str (eh nx n<|some k) P:=by
 intro E hE x y c l e1 e2;have hE':=hE.IU h1 h2 df;by_cases j:x=n
 .subst j;simp[eh]at e1;subst e1;have⟨l1,a1,a2⟩:=h E hE' x m c l h1 e2;have⟨l2,b1,b2⟩:=h E hE' m _ c l1 h2 a1;exact⟨l2,b1,lM hE.trans a2 b2⟩
 .exact h E hE' x y c l (by simpa[eh,j]using e1) e2
def vW.akX{Q}(h:vW str nx (Q++P))(k:∀E,Eq nx P E->∀m n,(m,n)∈Q->E m n):vW str nx P:=by
 intro E hE
 exact h E ⟨hE.refl,hE.symm,hE.trans,hE.bC,λm n hm=>by
  cases List.mem_append.1 hm with
  |inl a=>exact k E hE m n a|inr a=>exact hE.Yu m n a⟩
end
inductive Hd(nx:Nx):Nat->Nat->Prop where
 |here{n:Nat}:nx n=none->Hd nx n n
 |step{n m h:Nat}:nx n=some m->Hd nx m h->Hd nx n h
def Hd.head{nx}(k:Hd nx n h):nx h=none:=by
 induction k with
 |here e=>exact e|step _ _ ih=>exact ih
def Hd.one{nx}{h'}(k:Hd nx n h)(j:Hd nx n h'):h=h':=by
 induction k with
 |here e=>cases j with
  |here=>rfl|step e' _=>grind
 |step e _ ih=>cases j with
  |here e'=>grind|step e' j=>grind
def Hd.nR{str}{nx}{V:Nat->Ty}(s:mP str nx V)(k:Hd nx n h):V n=V h:=by
 induction k with
 |here=>rfl|step e _ ih=>rw[s.bC _ _ e,ih]
def Hd.eq{nx}(s:Eq nx P E)(k:Hd nx n h):E n h:=by
 induction k with
 |here=>exact s.refl _|step e _ ih=>exact s.trans _ _ _ (s.bC _ _ e) ih
def Hd.sT{nx}(k:Hd nx n h)(e:nx n=some m):Hd nx m h:=by
 cases k with
 |here e'=>grind|step e' k=>grind
def Hd.short{nx}(h1:nx n=some m)(h2:nx m=some k)(j:Hd nx x h):Hd (eh nx n<|some k) x h:=by
 induction j with
 | @here x e=>
   have:x≠n:=λe'=>by subst e';rw[h1]at e;simp at e
   exact .here (by simpa[eh,this]using e)
 | @step x y h e j ih=>
   by_cases c:x=n
   .subst c;rw[h1]at e;injection e with e;subst e;by_cases c2:m=x
    .subst c2;exact ih
    .exact .step (m:=k) (by simp[eh]) (ih.sT<|by simp[eh,c2,h2])
   .exact .step (m:=y) (by simpa[eh,c]using e) ih
def Hd.join{nx}(ha:nx a=none)(hb:nx b=none)(df:a≠b)(j:Hd nx x h):Hd (eh nx a<|some b) x (if h=a then b else h):=by
 induction j with
 | @here x e=>
   by_cases c:x=a
   .subst c;simp;exact .step (m:=b) (by simp[eh]) (.here<|by simp[eh,Ne.symm df,hb])
   .simp[c];exact .here (by simpa[eh,c]using e)
 | @step x y h e j ih=>
   have c:x≠a:=λc=>by subst c;rw[ha]at e;simp at e
   exact .step (m:=y) (by simpa[eh,c]using e) ih
def zI nx m n:=m=n\/∃h,Hd nx m h/\Hd nx n h
def zI.is{nx}(t:∀n m,nx n=some m->∃h,Hd nx n h):Eq nx [] (zI nx):=by
 refine⟨λn=>jc rfl,?_,?_,?_,λ_ _ h=>by simp at h⟩
 .rintro m n(h|⟨h,a,b⟩)
  .exact jc h.symm
  .exact ja ⟨h,b,a⟩
 .rintro k m n(rfl|⟨h,a,b⟩)
  .exact id
  .rintro(rfl|⟨h',a',b'⟩)
   .exact ja ⟨h,a,b⟩
   .have:=b.one a';subst this;exact ja ⟨h,a,b'⟩
 .intro n m e;have⟨h,hh⟩:=t n m e;exact ja ⟨h,hh,hh.sT e⟩
def Fin(str:ya)nx(vr:Nat->Nat)(F:Nat->Prop)(V:Nat->Ty):=
 ∀h,F h->nx h=none/\match str h with
  |none=>V h=.var (vr h)|some (c,l)=>∃hs,dE (Hd nx) l hs/\(∀x,x∈hs->F x)/\V h=.aK c (hs.map V)
def m8{V:Nat->Ty}:∀{l:List Nat}{x},x∈l->size (V x)<=ah (l.map V)
 |_,_,h=>zC<|List.mem_map.2 ⟨_,h,rfl⟩
structure Of(str:ya)(vr:Nat->Nat)(D:Nat->Prop)(ty:Nat->Ty):Prop where
 var:∀n,D n->str n=none->ty n=.var (vr n)
 aK:∀n c l,str n=some (c,l)->D n/\ty n=.aK c (l.map ty)/\∀x,x∈l->D x
 one:∀m n,D m->D n->str m=none->str n=none->vr m=vr n->m=n
def eC{V W:Nat->Ty}:∀{l:List Nat},(∀x,x∈l->V x=W x)->l.map V=l.map W
 |[],_=>rfl|x::l,h=>by
   have k:=eC (V:=V) (W:=W) (l:=l) λy hy=>h y<|jf _ hy;simp[h x<|by simp,k]
def jY σ V(l:List Nat):aT σ (l.map V)=l.map λx=>sub σ<|V x:=by
 rw[iH,List.map_map];rfl
end Un
def Yv:(Rows.agreeRow.wf<|OpenSpec.ofChange Rows.agreeSpec)=true:=by kernel_rfl
def Yw:(Tryz.f3.params.all (Tryz.prog.readableRec ·))=true:=by kernel_rfl
def Yx:(namedTie jj Rows.agreeRow.named Rows.agreeSpec.vars)=true:=by kernel_rfl
def Yy:((Rows.agreeRow.stops==[]))=true:=by kernel_rfl
def Yz:((Rows.agreeRow.knobs==[]))=true:=by kernel_rfl
def YA:((Rows.agreeRow.inPlace==Tryz.prog.inPlace 3))=true:=by kernel_rfl
def T7:((Rows.agreeRow.unfollowed==Tryz.prog.unfollowed 3))=true:=by kernel_rfl
def T8:((Rows.agreeRow.recurses==Tryz.prog.recurses 3))=true:=by kernel_rfl
def T9:((Rows.agreeRow.named==Tryz.prog.varsNamed 3))=true:=by kernel_rfl
def T_:((Rows.agreeRow.maps==(Tryz.f3.params.toList++Rows.agreeSpec.plain.varTypes jj).any (Tryz.prog.mapsRec ·)))=true:=by kernel_rfl
def Ua:((Rows.agreeRow.ifaces==(Tryz.f3.params.toList++Rows.agreeSpec.plain.varTypes jj).any (Tryz.prog.ifacesRec ·)))=true:=by kernel_rfl
def Ub:((Rows.agreeRow.mapsOut==Tryz.prog.mapsAmong Tryz.f3.resultTypes.toList))=true:=by kernel_rfl
def Uc:((Rows.agreeRow.loops==(Tryz.f3.params.toList++Rows.agreeSpec.plain.varTypes jj).any (Tryz.prog.loopsFrom ·)))=true:=by kernel_rfl
def Ud:((Rows.agreeRow.wideKeys==(Tryz.f3.params.toList++Rows.agreeSpec.plain.varTypes jj++Tryz.f3.resultTypes.toList).any (Tryz.prog.wideKeysFrom ·)))=true:=by kernel_rfl
def Ue:(Rows.agreeSpec.vars.all (Tryz.prog.varReadable ·))=true:=by kernel_rfl
def Uf:(Tryz.f3.resultTypes.all<|λt=>Tryz.prog.readableRec t&&decide (t<Tryz.prog.types.size))=true:=by kernel_rfl
def Ug:((Rows.agreeRow.ifacesOut==Tryz.f3.resultTypes.toList.any (Tryz.prog.ifacesRec ·)))=true:=by kernel_rfl
def Uh:((Rows.agreeRow.loopsOut==Tryz.f3.resultTypes.toList.any (Tryz.prog.loopsFrom ·)))=true:=by kernel_rfl
def Ui:((Rows.agreeRow.plainKeys==Tryz.prog.plainKeys))=true:=by kernel_rfl
def Uj:(Rows.agreeRow.shortTexts.isNone)=true:=by kernel_rfl
def Uk:((Rows.agreeRow.lifted==Tryz.prog.liftsFinal))=true:=by kernel_rfl
def Ul:((Tryz.prog.make==some Rows.agreeRow.make))=true:=by kernel_rfl
def Um:((Rows.agreeRow.pinned==Rows.agreeRow.pinnedBy))=true:=by kernel_rfl
def Uo:((Rows.agreeRow.veiled==(Tryz.f3.params.toList++Rows.agreeSpec.plain.varTypes jj++Tryz.f3.resultTypes.toList).any (Tryz.prog.veiledRec ·)))=true:=by kernel_rfl
def Up:(Rows.agreeRow.veiledFits jj Tryz.f3.params.toList<|Tryz.f3.params.toList++Rows.agreeSpec.plain.varTypes jj++Tryz.f3.resultTypes.toList)=true:=by kernel_rfl
end Go.Proofs.YtfnkchdeheeiiaaGreatDoor
