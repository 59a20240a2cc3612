import Derived.BigQuiet
import Derived.Deep.LoopGhost
import Derived.Deep.RegionWith
import Derived.Lib.ConvBytes
import Derived.RegionDies
import Derived.SevenTiedAt
import Derived.Test.YtfnkchdeheeiiaaGreatDoorCards
import Derived.WalkLawsBesides
import Derived.WalkSpells
set_option linter.all false
set_option maxRecDepth 100000
set_option maxHeartbeats 200000
namespace Go.Proofs.YtfnkchdeheeiiaaGreatDoor
open Or renaming inr->ja,inl->jc
open Go.Instr renaming findNow->jd,sameBits->jf,typeAssert->jh,sameNow->ji,mapUpdate->jj,findKey->jk,lookup->jl
open Go.Result renaming andThen->jm
open _root_.List renaming map_cons->jo,foldl_cons->jp,mem_cons_of_mem->jq
open Go.Proofs.Tryz renaming prog->jt
open _root_.Nat renaming lt_of_lt_of_le->ju,le_refl->jv
open Go.Sem renaming run_bind->jx
open Go.MapKept renaming run_setObj_map->jy,run_getObj_map->jz
open Go
variable {c d:ByteArray} {l:List Nat} {xs:List Value} {a b base h k m n v x:Nat} {vr:Nat->Nat} {E:Nat->Nat->Prop} {D:Nat->Prop} {P:Program} {κ:Type} {e:TypeId} {w w':World}
section
open Go.RowKit
def TQ(w:World)(C:List Value)t:∀j u,C[j]? =some u->(w.alloc<|.cells C.toArray t).cell? ((⟨w.heap.size,0,none⟩:Addr).add j)=some u:=by
 intro j u hj;rw[Addr.add];split
 .next h=>subst h;simpa using hj
 .simpa using hj
def jC{size}{v}(h:w.ownsRow base e size v n xs)(hb:Below w.heap.size w w'):w'.ownsRow base e size v n xs:=by
 obtain⟨h1,h2⟩:=h;refine⟨h1,?_⟩;obtain h2|⟨g,cap,lO,hv,hg,hh,r⟩:=h2
 .exact jc h2
 .refine ja ⟨g,cap,lO,hv,hg,?_,r⟩;have bq:g<w.heap.size:=by
   have:=Array.getElem?_eq_some_iff.1 hh;exact this.1
  rw[hb.block g bq,hh]
def nX(w:World)(C:List Value)t b(hb:b=w.heap.size):∀j u,C[j]? =some u->(w.alloc<|.cells C.toArray t).cell? ((⟨b,0,none⟩:Addr).add j)=some u:=by
 subst hb;exact TQ w C t
def fD{size}{v}(h:w.ownsRow base e size v n xs):∀k,v.ownBlock=some k->base<=k/\k<w.heap.size:=by
 intro k hk;obtain⟨h1,h2⟩:=h;obtain⟨rfl,_⟩|⟨g,cap,lO,rfl,hg,hh,r⟩:=h2
 .simp[Value.ownBlock]at hk
 .simp[Value.ownBlock]at hk;subst hk;exact⟨hg,(Array.getElem?_eq_some_iff.1 hh).1⟩
end
namespace Un
inductive Ty where
 |var(n:Nat):Ty
 |aJ(c:ByteArray)(l:List Ty):Ty
mutual
def sub(σ:Nat->Ty):Ty->Ty
 |.var n=>σ n|.aJ c l=>.aJ c<|aS σ l
def aS(σ:Nat->Ty):List Ty->List Ty
 |[]=>[]|t::l=>sub σ t::aS σ l
end
mutual
def size:Ty->Nat
 |.var _=>1|.aJ _ l=>1+ah l
def ah:List Ty->Nat
 |[]=>0|t::l=>size t+ah l
end
mutual
def aD(v:Nat):Ty->Prop
 |.var n=>n=v|.aJ _ l=>bT v l
def bT(v:Nat):List Ty->Prop
 |[]=>False|t::l=>aD v t\/bT v l
end
def seen l(v:Nat):=if v∈l then l else l++[v]
mutual
def vars(a:List Nat):Ty->List Nat
 |.var n=>seen a n|.aJ _ l=>bh a l
def bh(a:List Nat):List Ty->List Nat
 |[]=>a|t::l=>bh (vars a t) l
end
def ij(σ:Nat->Ty):∀l,aS σ l=l.map (sub σ)
 |[]=>rfl|t::l=>by simp[aS,ij σ l]
def dT σ l:(aS σ l).length=l.length:=by simp[ij]
mutual
theorem sub_sub(τ σ:Nat->Ty):∀t,sub τ (sub σ t)=sub (λn=>sub τ<|σ n) t
 |.var n=>by simp[sub]|.aJ c l=>by simp[sub,y8 τ σ l]
theorem y8(τ σ:Nat->Ty):∀l,aS τ (aS σ l)=aS (λn=>sub τ<|σ n) l
 |[]=>by simp[aS]|t::l=>by simp[aS,sub_sub τ σ t,y8 τ σ l]
end
mutual
def cC:∀t,sub Ty.var t=t
 |.var n=>by simp[sub]|.aJ c l=>by simp[sub,Ih l]
def Ih:∀l,aS Ty.var l=l
 |[]=>by simp[aS]|t::l=>by simp[aS,cC t,Ih l]
end
mutual
theorem sub_congr{σ τ:Nat->Ty}:∀t,(∀n,aD n t->σ n=τ n)->sub σ t=sub τ t
 |.var n,h=>by simpa[sub]using h n (by simp[aD])|.aJ c l,h=>by simp[sub,qR l<|λn hn=>h n<|by simpa[aD]using hn]
theorem qR{σ τ:Nat->Ty}:∀l,(∀n,bT n l->σ n=τ n)->aS σ l=aS τ l
 |[],_=>by simp[aS]|t::l,h=>by simp[aS,sub_congr t<|λn hn=>h n<|jc hn,qR l<|λn hn=>h n<|ja hn]
end
mutual
def PV{σ τ:Nat->Ty}:∀t,sub σ t=sub τ t->∀n,aD n t->σ n=τ n
 |.var m,h,n,hn=>by simp[aD]at hn;subst hn;simpa[sub]using h|.aJ c l,h,n,hn=>Ii l (by simpa[sub]using h) n (by simpa[aD]using hn)
def Ii{σ τ:Nat->Ty}:∀l,aS σ l=aS τ l->∀n,bT n l->σ n=τ n
 |[],_,n,hn=>by simp[bT]at hn|t::l,h,n,hn=>by
   simp[aS]at h
   cases hn with
   |inl a=>exact PV t h.1 n a|inr a=>exact Ii l h.2 n a
end
def size_pos:∀t,1<=size t
 |.var n=>by simp[size]|.aJ c l=>by simp[size]<;>omega
def rW{t:Ty}:∀{l},t∈l->size t<=ah l
 |a::l,h=>by
   simp[ah]
   cases List.mem_cons.1 h with
   |inl e=>subst e;omega|inr e=>have:=rW e;omega
mutual
def Ij(σ:Nat->Ty)(v:Nat):∀t,aD v t->size (σ v)<=size (sub σ t)
 |.var n,h=>by simp[aD]at h;subst h;simp[sub]|.aJ c l,h=>by have:=lT σ v l (by simpa[aD]using h);simp[sub,size];omega
def lT(σ:Nat->Ty)(v:Nat):∀l,bT v l->size (σ v)<=ah (aS σ l)
 |[],h=>by simp[bT]at h|t::l,h=>by
   simp[aS,ah]
   cases h with
   |inl a=>have:=Ij σ v t a;omega|inr a=>have:=lT σ v l a;omega
end
def TR{σ}{l}(h:bT v l):σ v≠sub σ (.aJ c l):=λe=>by
 have:=lT σ v l h;have e':=congrArg size e;simp[sub,size]at e';omega
def yI{a:List Nat}:n∈seen a v↔n∈a\/n=v:=by
 rw[seen];split
 .grind
 .simp
mutual
def bK:∀(t:Ty)(a:List Nat)(n:Nat),n∈vars a t↔n∈a\/aD n t
 |.var m,a,n=>by simp[vars,aD,yI,eq_comm]|.aJ c l,a,n=>by simp[vars,aD,Cm l a n]
def Cm:∀(l:List Ty)(a:List Nat)(n:Nat),n∈bh a l↔n∈a\/bT n l
 |[],a,n=>by simp[bh,bT]|t::l,a,n=>by simp[bh,bT,Cm l,bK t,or_assoc]
end
def My{a:List Nat}(h:a.Nodup)v:(seen a v).Nodup:=by
 rw[seen];split
 .exact h
 .rename_i hv;rw[List.nodup_append];refine⟨h,by simp,?_⟩;intro x hx y hy e;simp at hy;subst e;subst hy;exact hv hx
mutual
theorem cH:∀(t:Ty){a:List Nat},a.Nodup->(vars a t).Nodup
 |.var m,a,h=>by simpa[vars]using My h m|.aJ c l,a,h=>by simpa[vars]using vP l h
theorem vP:∀(l:List Ty){a:List Nat},a.Nodup->(bh a l).Nodup
 |[],a,h=>by simpa[bh]using h|t::l,a,h=>by simpa[bh]using vP l (cH t h)
end
def Xs a v:a<+:seen a v:=by
 rw[seen];split
 .grind
 .grind
mutual
def Ik:∀(t:Ty)(a:List Nat),a<+:vars a t
 |.var m,a=>by simpa[vars]using Xs a m|.aJ c l,a=>by simpa[vars]using lV l a
def lV:∀(l:List Ty)(a:List Nat),a<+:bh a l
 |[],a=>by simp[bh]|t::l,a=>by simpa[bh]using(Ik t a).trans (lV l _)
end
abbrev ren(ρ:Nat->Nat):Nat->Ty:=λn=>.var<|ρ n
mutual
def Il(ρ:Nat->Nat):∀t,size (sub (ren ρ) t)=size t
 |.var n=>by simp[sub,size]|.aJ c l=>by simp[sub,size,Cn ρ l]
def Cn(ρ:Nat->Nat):∀l,ah (aS (ren ρ) l)=ah l
 |[]=>by simp[aS,ah]|t::l=>by simp[aS,ah,Il ρ t,Cn ρ l]
end
end Un
namespace Un
abbrev nB:ByteArray:=⟨#[62]⟩
abbrev lj:ByteArray:=⟨#[44]⟩
def par p(s:List UInt8):=if p=true then 40::(s++[41])else s
def nth(ps:List (Nat->List UInt8))i:=ps.getD i λ_=>[]
def bA c ps tight:=
 if c=nB then par (decide (0<tight)) (nth ps 0 1++([32,45,62,32]++nth ps 1 0))
 else if c=lj then 40::(nth ps 0 0++([44,32]++(nth ps 1 0++[41])))
 else par (decide (1<tight)&& !ps.isEmpty) (c.toList++ps.flatMap λp=>32::p 2)
section
variable (dec:Nat->List UInt8)
mutual
def wr(L:List Nat):Ty->Nat->List UInt8
 |.var n=>λ_=>39::118::dec (L.idxOf n)|.aJ c l=>bA c<|uf L l
def uf(L:List Nat):List Ty->List (Nat->List UInt8)
 |[]=>[]|t::l=>wr L t::uf L l
end
def written(t:Ty):List UInt8:=wr dec (vars [] t) t 0
def xT{v:Nat}:∀{a b:List Nat},a<+:b->v∈a->b.idxOf v=a.idxOf v
 |[],_,_,h=>by simp at h|x::a,b,h,hv=>by
   obtain⟨r,rfl⟩:=h;by_cases e:x=v
   .subst e;simp
   .have b1:(x==v)=false:=by simpa using e
    have hv':v∈a:=by
     cases List.mem_cons.1 hv with
     |inl k=>exact absurd k.symm e|inr k=>exact k
    have:=xT (List.prefix_append a r) hv';simp only[List.cons_append,List.idxOf_cons,b1,this]
mutual
def Mz{a b:List Nat}(h:a<+:b):∀t,(∀n,aD n t->n∈a)->wr dec b t=wr dec a t
 |.var n,k=>by simp only[wr,xT h<|k n<|by simp[aD]]|.aJ c l,k=>by simp only[wr,PW h l<|λn hn=>k n<|by simpa[aD]using hn]
def PW{a b:List Nat}(h:a<+:b):∀l,(∀n,bT n l->n∈a)->uf dec b l=uf dec a l
 |[],_=>by simp[uf]|t::l,k=>by simp only[uf,Mz h t<|λn hn=>k n<|jc hn,PW h l<|λn hn=>k n<|ja hn]
end
def jO(L:List Nat):∀l,(uf dec L l).length=l.length
 |[]=>rfl|t::l=>by simp[uf,jO L l]
def PX(L:List Nat):∀l,uf dec L l=l.map (wr dec L)
 |[]=>rfl|t::l=>by simp[uf,PX L l]
def Mgu(a b T:Ty):=(∃R,sub R a=T/\sub R b=T)/\∀σ,sub σ a=sub σ b->∃τ,sub τ T=sub σ a
end
end Un
namespace Un
structure tS(K:Nat->Option Ty)(R:Nat->Ty)(rk:Nat->Nat):Prop where
 open_:∀n,K n=none->R n=.var n
 shut:∀n t,K n=some t->R n=sub R t
 WY:∀n u,K n=some (.var u)->rk u<rk n
def tS.start:tS (λ_=>none) Ty.var (λ_=>0):=⟨λ_ _=>rfl,λ_ _ h=>by simp at h,λ_ _ h=>by simp at h⟩
def dR{α:Type}(K:Nat->α)a t:=λn=>if n=a then t else K n
def si a(B:Ty):=λn=>if n=a then B else .var n
def Im{B t:Ty}(h:¬aD a t):sub (si a B) t=t:=by
 refine(sub_congr t λn hn=>?_).trans (cC t);have:n≠a:=λe=>h<|e▸hn;simp[si,this]
def Xt{B t:Ty}{σ:Nat->Ty}(h:σ a=sub σ B):sub σ (sub (si a B) t)=sub σ t:=by
 rw[sub_sub];refine sub_congr t λn _=>?_;by_cases e:n=a
 .subst e;simp[si,h]
 .simp[si,e,sub]
def tS.bind{K:Nat->Option Ty}{R:Nat->Ty}{rk}(h:tS K R rk){b:Ty}(ha:K a=none)(hn:¬aD a (sub R b))(hb:∀u,b=.var u->K u=none):
 ∃Px,tS (dR K a<|some b) (λn=>sub (si a<|sub R b)<|R n) Px:=by
 have hN:∀t,sub (λn=>sub (si a<|sub R b)<|R n) t=sub (si a<|sub R b) (sub R t):=λt=>(sub_sub _ _ t).symm
 classical
 refine⟨λn=>if R n=.var a then rk n+(match b with|.var u=>rk u+1|.aJ _ _=>0)else rk n,?_,?_,?_⟩
 .intro n Mf;by_cases e:n=a
  .simp[dR,e]at Mf
  .simp[dR,e]at Mf;simp[h.open_ n Mf,sub,si,e]
 .intro n t ht;by_cases e:n=a
  .subst e;simp[dR]at ht;subst ht;simp only[hN];rw[Im hn,h.open_ n ha];simp[sub,si]
  .simp[dR,e]at ht;simp only[hN];rw[h.shut n t ht]
 .intro n u ht;by_cases e:n=a
  .subst e;simp[dR]at ht;subst ht;have h1:=h.open_ n ha;have h2:=h.open_ u<|hb u rfl;have h3:¬u=n:=λe=>hn (by rw[sub,h2,aD];exact e);simp[h1,h2,h3];omega
  .simp[dR,e]at ht;have h1:=h.WY n u ht;have h2:R n=R u:=by simpa[sub]using h.shut n _ ht
   simp only[h2];split<;>omega
structure Made(R R':Nat->Ty)a b:Prop where
 same:sub R' a=sub R' b
 of_:∃δ,∀n,R' n=sub δ (R n)
 least:∀σ,sub σ (sub R a)=sub σ (sub R b)->∀n,sub σ (R' n)=sub σ (R n)
def Made.refl{R:Nat->Ty}{a b:Ty}(h:sub R a=sub R b):Made R R a b:=⟨h,⟨Ty.var,λ_=>(cC _).symm⟩,λ_ _ _=>rfl⟩
def Made.swap{R R':Nat->Ty}{a b:Ty}(h:Made R R' a b):Made R R' b a:=⟨h.same.symm,h.of_,λσ e=>h.least σ e.symm⟩
def Made.acg{R R':Nat->Ty}{a b a' b':Ty}(h:Made R R' a' b')(ea:sub R a'=sub R a)(eb:sub R b'=sub R b):Made R R' a b:=by
 obtain⟨h1,⟨δ,h2⟩,h3⟩:=h;have hN:∀t,sub R' t=sub δ (sub R t):=λt=>by rw[sub_sub];exact sub_congr t λn _=>h2 n
 refine⟨?_,⟨δ,h2⟩,λσ e=>h3 σ (by rw[ea,eb];exact e)⟩;rw[hN a,hN b,<-ea,<-eb,<-hN,<-hN,h1]
def Made.bind{K:Nat->Option Ty}{R:Nat->Ty}{rk}(h:tS K R rk){b:Ty}(ha:K a=none)(hn:¬aD a (sub R b)):
 Made R (λn=>sub (si a<|sub R b)<|R n) (.var a) b:=by
 have hN:∀t,sub (λn=>sub (si a<|sub R b)<|R n) t=sub (si a<|sub R b) (sub R t):=λt=>(sub_sub _ _ t).symm;refine⟨?_,⟨_,λn=>rfl⟩,λσ e n=>Xt ?_⟩
 .rw[hN,hN,Im hn];simp[sub,h.open_ a ha,si]
 .simpa[sub,h.open_ a ha]using e
def ace{K:Nat->Option Ty}{R:Nat->Ty}{rk}(h:tS K R rk){l}(ha:K a=none)(hn:aD a (sub R<|.aJ c l))σ:
 sub σ (sub R<|.var a)≠sub σ (sub R<|.aJ c l):=by
 have e1:sub R (.var a)=.var a:=by simpa[sub]using h.open_ a ha
 rw[e1];simp only[sub,aD]at hn⊢;have:=TR (σ:=σ) (c:=c) hn;simpa[sub]using this
structure oa(R R':Nat->Ty)a b:Prop where
 same:aS R' a=aS R' b
 of_:∃δ,∀n,R' n=sub δ (R n)
 least:∀σ,aS σ (aS R a)=aS σ (aS R b)->∀n,sub σ (R' n)=sub σ (R n)
def PY{R R' δ:Nat->Ty}(h:∀n,R' n=sub δ (R n))l:aS R' l=aS δ (aS R l):=by
 rw[y8];exact qR l λn _=>h n
def oa.nil R:oa R R [] []:=⟨rfl,⟨Ty.var,λ_=>(cC _).symm⟩,λ_ _ _=>rfl⟩
def cG σ a b:aS σ (a++b)=aS σ a++aS σ b:=by simp[ij]
def oa.snoc{R R' R'':Nat->Ty}{a b}{x y:Ty}(hl:a.length=b.length)(h:oa R R' a b)(k:Made R' R'' x y):oa R R'' (a++[x]) (b++[y]):=by
 have⟨δ,h2⟩:=h.of_;have⟨ε,k2⟩:=k.of_;refine⟨?_,⟨λn=>sub ε<|δ n,λn=>?_⟩,λσ e n=>?_⟩
 .rw[cG,cG,PY k2 a,PY k2 b,h.same];simp[aS,k.same]
 .rw[k2 n,h2 n,sub_sub]
 .rw[cG,cG,cG,cG]at e;have e1:=List.append_inj e (by simp[dT,hl]);have e2:=h.least σ e1.1;have e3:sub σ (sub R' x)=sub σ (sub R' y):=by
   have:∀t,sub σ (sub R' t)=sub σ (sub R t):=λt=>by
    rw[sub_sub,sub_sub];exact sub_congr t λn _=>e2 n
   rw[this,this];simpa[aS]using e1.2
  rw[k.least σ e3 n,e2 n]
def oa.aJ{R R':Nat->Ty}{a b}c(h:oa R R' a b):Made R R' (.aJ c a) (.aJ c b):=
 ⟨by simp[sub,h.same],h.of_,λσ e=>h.least σ<|by simpa[sub]using e⟩
def oa.no{R R':Nat->Ty}{a b a' b'}{x y:Ty}(hl:a.length=b.length)(h:oa R R' a b)(k:∀σ,sub σ (sub R' x)≠sub σ (sub R' y))c d σ:
 sub σ (sub R<|.aJ c (a++x::a'))≠sub σ (sub R<|.aJ d (b++y::b')):=by
 intro e;simp only[sub,Ty.aJ.injEq]at e;have e:=e.2;rw[cG,cG,cG,cG]at e;have e1:=List.append_inj e (by simp[dT,hl]);have e2:=h.least σ e1.1;refine k σ ?_;have:∀t,sub σ (sub R' t)=sub σ (sub R t):=λt=>by
  rw[sub_sub,sub_sub];exact sub_congr t λn _=>e2 n
 rw[this,this];have e3:=e1.2;simp only[aS,List.cons.injEq]at e3;exact e3.1
def Mp{R σ:Nat->Ty}{a b}(h:c≠d):sub σ (sub R<|.aJ c a)≠sub σ (sub R<|.aJ d b):=λe=>by
 simp only[sub,Ty.aJ.injEq]at e;exact h e.1
def Tw{R σ:Nat->Ty}{a b}(h:a.length≠b.length):sub σ (sub R<|.aJ c a)≠sub σ (sub R<|.aJ d b):=λe=>by
 simp only[sub,Ty.aJ.injEq]at e;have:=congrArg List.length e.2;simp[dT]at this;exact h this
end Un
section
open Go.RowKit Go.MapKept Go.ChangeMaps
def xI{κ:Type}[DecidableEq κ](x:κ):List (κ×Value)->Nat->Option (Nat×Value)
 |[],_=>none|p::l,i=>if p.1=x then some (i,p.2)else xI x l (i+1)
def aX{κ:Type}[DecidableEq κ](x:κ):List (κ×Value)->Option Value
 |[]=>none|p::l=>if p.1=x then some p.2 else aX x l
theorem PZ[DecidableEq κ]x(l:List (κ×Value))(i:Nat):(xI x l i).map (·.2)=aX x l:=by
 induction l generalizing i with
 |nil=>rfl|cons p l ih=>rw[xI,aX];split<;>simp[ih]
def bD{κ:Type}[DecidableEq κ](x:κ)(v:Value):List (κ×Value)->List (κ×Value)
 |[]=>[(x,v)]|p::l=>if p.1=x then(x,v)::l else p::bD x v l
def lN[DecidableEq κ]x v(l:List (κ×Value))(h:aX x l=none):bD x v l=l++[(x,v)]:=by
 induction l with
 |nil=>rfl|cons p l ih=>
  rw[aX]at h;split at h
  .simp at h
  .rename_i hn;simp[bD,hn,ih h]
theorem aO[DecidableEq κ]x y v(l:List (κ×Value)):aX y (bD x v l)=if x=y then some v else aX y l:=by
 induction l with
 |nil=>simp[bD,aX]|cons p l ih=>
  unfold bD;split
  .rename_i h;unfold aX;by_cases e:x=y
   .simp[e]
   .rw[h];simp[e]
  .rename_i h;unfold aX;rw[ih];by_cases e:p.1=y
   .grind
   .simp[e]
structure KL P k{κ:Type}[DecidableEq κ](enc:κ->Value)(ok:World->κ->Prop):Prop where
 chk:∀b x w,(Instr.checkKey b 10000 k<|enc x).run P w=.ok () w
 fin:∀x(L:List (κ×Value))(es:List MapEntry)w,ok w x->(∀p∈L,ok w p.1)->es.map (λe=>(e.key,e.val))=L.map (λp=>(enc p.1,p.2))->(jk k (enc x) es).run P w=.ok (xI x L 0) w
 bit:∀x,jf 10000 (enc x) (enc x)=true
def MS{κ:Type}(enc:κ->Value)(w:World)(b:Nat)(L:List (κ×Value)):=
 ∃es clock,w.heap[b]? =some (.map es clock)/\es.toList.map (λe=>(e.key,e.val))=L.map (λp=>(enc p.1,p.2))
section
variable [DecidableEq κ] {enc:κ->Value} {ok:World->κ->Prop} {k t:TypeId} {L:List (κ×Value)}
def MS.lt(h:MS enc w b L):b<w.heap.size:=by grind[MS]
def MS.same(h:MS enc w b L)(hb:w'.heap[b]? =w.heap[b]?):MS enc w' b L:=by grind[MS]
def MS.below(h:MS enc w b L)(hb:Below w.heap.size w w'):MS enc w' b L:=h.same<|hb.block b h.lt
def MS.new(enc:κ->Value)(w:World):MS enc (w.alloc<|.map #[] 0) w.heap.size []:=⟨#[],0,(MapKept.heap_alloc w _).1,rfl⟩
def MS.look(K:KL P k enc ok)(h:MS enc w b L)(ht:P.underlying t=some (.map k e)){z}(hz:(zeroValue e).run P w=.ok z w)x(hx:ok w x)(hL:∀p∈L,ok w p.1)c:
 (jl t (.map<|some b) (enc x) c).run P w=.ok (match aX x L with|some v=>if c then .tuple #[v,.bool true]else v|none=>if c then .tuple #[z,.bool false]else z) w:=by
 obtain⟨es,clock,hb,mL⟩:=h;have hf:=K.fin x L es.toList w hx hL mL;rw[<-PZ x L 0];rw[jl];simp only[jx,run_underlying ht,jm,jz hb,K.chk,hf]
 cases xH:xI x L 0 with
 |none=>rw[xH]at hf;cases c<;>simp[hz,hf,jm]|some p=>rw[xH]at hf;cases c<;>simp[hf,jm]
def DP x v:∀(L:List (κ×Value))(es:List MapEntry)(i j:Nat)(u:Value),es.map (λe=>(e.key,e.val))=L.map (λp=>(enc p.1,p.2))->xI x L i=some (j,u)->i<=j/\∃e0,es[j-i]? =some e0/\e0.key=enc x/\(es.modify (j-i) λe=>{e with key:=enc x,val:=v}).map (λe=>(e.key,e.val))=(bD x v L).map (λp=>(enc p.1,p.2)):=by
 intro L
 induction L with
 |nil=>intro es i j u _ h;simp[xI]at h|cons p l ih=>
  intro es i j u mL h
  cases es with
  |nil=>simp at mL|cons e0 es=>
   simp only[jo,List.cons.injEq,Prod.mk.injEq]at mL;obtain⟨⟨hk,hv⟩,mL⟩:=mL;rw[xI]at h;split at h
   .rename_i hp;simp only[Option.some.injEq,Prod.mk.injEq]at h;obtain⟨rfl,rfl⟩:=h;refine⟨jv _,e0,by simp,by rw[hk,hp],?_⟩;simp[bD,hp,mL]
   .rename_i hp;have⟨h1,e1,h2,h3,h4⟩:=ih es (i+1) j u mL h;refine⟨by omega,e1,?_,h3,?_⟩
    .grind
    .rw[show j-i=(j-(i+1))+1 by omega];simp[bD,hp,h4,hk,hv]
def n8 x:∀(L:List (κ×Value))(i:Nat),xI x L i=none->aX x L=none:=by grind[xI,aX,PZ]
def MS.put(K:KL P k enc ok)(h:MS enc w b L)(ht:P.underlying t=some (.map k e))x v(hx:ok w x)(hL:∀p∈L,ok w p.1):
 ∃o,(jj t (.map<|some b) (enc x) v).run P w=.ok () (setBlock w b o)/\MS enc (setBlock w b o) b (bD x v L):=by
 obtain⟨es,clock,hb,mL⟩:=h;have hf:=K.fin x L es.toList w hx hL mL;rw[jj];simp only[jx,run_underlying ht,jm,jz hb,K.chk,hf]
 cases xH:xI x L 0 with
 |none=>
  refine⟨.map (es.push {key:=enc x,val:=v,born:=clock})<|clock+1,by rw[xH]at hf;simp[hf,jm];exact jy _ hb,_,_,(heap_setBlock_same hb _),?_⟩;rw[lN x v L<|n8 x L 0 xH];simp[mL]
 |some p=>
  obtain⟨j,u⟩:=p;have⟨_,e0,h2,h3,h4⟩:=DP (enc:=enc) x v L es.toList 0 j u mL xH;have Gb:es[j]? =some e0:=by simpa using h2
  refine⟨.map (es.modify j λe=>{e with key:=enc x,val:=v}) clock,?_,_,_,(heap_setBlock_same hb _),by simpa using h4⟩;rw[xH]at hf;simp[hf,jm,Gb,h3,Instr.keyThatStays,K.bit];exact jy _ hb
end
def KL.str{k:TypeId}(hk:P.underlying k=some .string):KL P k Value.string (λ_ _=>True) where
 chk b x w:=run_checkKey hk (by simp[IsKey]) b 9999
 bit x:=by simp only[jf];exact(bytes_beq x x).2 rfl
 fin x L es w _ _ mL:=by
  refine run_findKey hk ?_
  suffices H:∀(L:List (ByteArray×Value))(es:List MapEntry)(i:Nat),es.map (λe=>(e.key,e.val))=L.map (λp=>(Value.string p.1,p.2))->jd .string (.string x) es i=some (xI x L i)from H L es 0 mL
  intro L
  induction L with
  |nil=>intro es i h;simp at h;subst h;rfl|cons p l ih=>
   intro es i h
   cases es with
   |nil=>simp at h|cons e0 es=>
    simp only[jo,List.cons.injEq,Prod.mk.injEq]at h;obtain⟨⟨h1,h2⟩,h3⟩:=h;rw[jd,xI];simp only[h1,ji];by_cases e:p.1=x
    .have:(x==p.1)=true:=(bytes_beq _ _).2 e.symm;rw[if_pos e];simp only[this,h2]
    .have:(x==p.1)=false:=by rw[<-Bool.not_eq_true,bytes_beq];exact λq=>e q.symm
     simp only[e,this,if_false,ih es (i+1) h3]
def KL.num{k:TypeId}{q:IntKind}(hk:P.underlying k=some (.int q)):KL P k (λn:Int=>Value.int q n) (λ_ _=>True) where
 chk b x w:=run_checkKey hk (by simp[IsKey]) b 9999
 bit x:=by simp[jf]
 fin x L es w _ _ mL:=by
  refine run_findKey hk ?_
  suffices H:∀(L:List (Int×Value))(es:List MapEntry)(i:Nat),es.map (λe=>(e.key,e.val))=L.map (λp=>(Value.int q p.1,p.2))->jd (.int q) (.int q x) es i=some (xI x L i)from H L es 0 mL
  intro L
  induction L with
  |nil=>intro es i h;simp at h;subst h;rfl|cons p l ih=>
   intro es i h
   cases es with
   |nil=>simp at h|cons e0 es=>
    simp only[jo,List.cons.injEq,Prod.mk.injEq]at h;obtain⟨⟨h1,h2⟩,h3⟩:=h;rw[jd,xI];simp only[h1,ji];by_cases e:p.1=x
    .simp[e,h2]
    .grind
def KL.ptr{k el:TypeId}{j:TypeInfo}(hk:P.underlying k=some (.pointer el))(hi:P.info? el=some j)(dU:j.size≠0):
 KL P k (λb:Nat=>Value.pointer<|some ⟨b,0,none⟩) (λw b=>∃c t,w.heap[b]? =some (.cells c t (0,0))) where
 chk b x w:=by
  rw[Instr.checkKey];simp only[jx,run_underlying hk,jm];rfl
 bit x:=by simp[jf]
 fin x L es w hx hL mL:=by
  have akW:∀(es:List MapEntry)(i:Nat),es≠[]->jd (.pointer el) (.pointer<|some ⟨x,0,none⟩) es i=none:=by
   intro es i h
   cases es with
   |nil=>exact absurd rfl h|cons e0 es=>simp[jd,ji]
  rw[jk];simp only[jx,run_underlying hk,jm]
  cases es with
  |nil=>
   cases L with
   |nil=>simp[jd,xI]|cons p l=>simp at mL
  |cons e0 es0=>
   rw[akW _ 0<|by simp];revert mL;generalize(e0::es0)=es;intro mL
   suffices H:∀(L:List (Nat×Value))(es:List MapEntry)(i:Nat),(∀p∈L,∃c t,w.heap[p.1]? =some (.cells c t (0,0)))->es.map (λe=>(e.key,e.val))=L.map (λp=>(Value.pointer<|some ⟨p.1,0,none⟩,p.2))->(Instr.findAsking k (.pointer<|some ⟨x,0,none⟩) es i).run P w=.ok (xI x L i) w from H L es 0 hL mL
   intro L
   induction L with
   |nil=>intro es i _ h;simp at h;subst h;rfl|cons p l ih=>
    intro es i hL h
    cases es with
    |nil=>simp at h|cons e0 es=>
     simp only[jo,List.cons.injEq,Prod.mk.injEq]at h;obtain⟨⟨h1,h2⟩,h3⟩:=h;rw[Instr.findAsking,xI];have heq:(Op.equal k (.pointer<|some ⟨x,0,none⟩) e0.key).run P w=.ok (decide (p.1=x)) w:=by
      rw[h1];rw[Op.equal,Op.maxDepth,Op.equalIn];simp only[jx,run_underlying hk,jm,sizeOf,typeInfo,hi];obtain⟨c1,t1,hc1⟩:=hx;have⟨c2,t2,hc2⟩:=hL p (by simp);by_cases e:p.1=x
      .simp[e,dU,run_sameAddr_same,hi]
      .simp[e,dU,hi,run_sameAddr_other w (a:=⟨x,0,none⟩) (b:=⟨p.1,0,none⟩) (by intro q;injection q with q;exact e q.symm) hc1 hc2]
     simp only[jx,heq,jm];by_cases e:p.1=x
     .simp[e,h2]
     .grind
end
abbrev xR A z:=∀(I D:TypeId)(x:Value)(w:World),D≠A->(jh (.iface D x) I A true).run jt w=.ok (.tuple #[.agg z,.bool false]) w
abbrev Bg A:=∀(I:TypeId)(x:Array Value)(w:World),(jh (.iface A<|.agg x) I A true).run jt w=.ok (.tuple #[.agg x,.bool true]) w
def eN{A}{z}(hz:∀w,(zeroValue A).run jt w=.ok (.agg z) w)(hu:∀w,∃u,(underlying A).run jt w=.ok u w/\∀m,u≠.interface m):xR A z:=λI D x w h=>by
 have⟨u,hu,hi⟩:=hu w;rw[jh];simp[go_sem,hu,hz,h]
@[simp] theorem akX:xR 337 #[.int .i64 0,.int .i64 0]:=eN (λw=>by kernel_rfl) λw=>⟨_,rfl,λm q=>by cases q⟩
@[simp] theorem akY:Bg 337:=λI x w=>by kernel_rfl
@[simp] theorem aiU:xR 161 #[.int .i64 0,.int .i64 0,.nilIface,.nilIface]:=eN (λw=>by kernel_rfl) λw=>⟨_,rfl,λm q=>by cases q⟩
@[simp] theorem aiV:Bg 161:=λI x w=>by kernel_rfl
@[simp] theorem ais:xR 297 #[.int .i64 0,.int .i64 0,.string ⟨#[]⟩,.nilIface,.nilIface]:=eN (λw=>by kernel_rfl) λw=>⟨_,rfl,λm q=>by cases q⟩
@[simp] theorem ait:Bg 297:=λI x w=>by kernel_rfl
@[simp] theorem P0:xR 321 #[.int .i64 0,.int .i64 0,.bool false]:=eN (λw=>by kernel_rfl) λw=>⟨_,rfl,λm q=>by cases q⟩
@[simp] theorem akA:Bg 321:=λI x w=>by kernel_rfl
@[simp] theorem P6:xR 319 #[.int .i64 0,.int .i64 0,.nilIface,.nilIface]:=eN (λw=>by kernel_rfl) λw=>⟨_,rfl,λm q=>by cases q⟩
@[simp] theorem akB:Bg 319:=λI x w=>by kernel_rfl
@[simp] theorem akZ:xR 313 #[.int .i64 0,.int .i64 0,.int .i64 0,.int .i64 0,.string ⟨#[]⟩,.nilIface]:=eN (λw=>by kernel_rfl) λw=>⟨_,rfl,λm q=>by cases q⟩
@[simp] theorem ak0:Bg 313:=λI x w=>by kernel_rfl
@[simp] theorem al_:xR 317 #[.int .i64 0,.int .i64 0,.nilIface,.nilIface,.nilIface]:=eN (λw=>by kernel_rfl) λw=>⟨_,rfl,λm q=>by cases q⟩
@[simp] theorem ama:Bg 317:=λI x w=>by kernel_rfl
@[simp] theorem ak1:xR 315 #[.int .i64 0,.int .i64 0,.bool false,.int .i64 0,.int .i64 0,.string ⟨#[]⟩,.nilIface,.nilIface]:=eN (λw=>by kernel_rfl) λw=>⟨_,rfl,λm q=>by cases q⟩
@[simp] theorem ak2:Bg 315:=λI x w=>by kernel_rfl
@[simp] theorem af0:Bg 144:=λI x w=>by kernel_rfl
@[simp] theorem Xu:xR 356 #[.int .i64 0,.int .i64 0,.string ⟨#[]⟩]:=eN (λw=>by kernel_rfl) λw=>⟨_,rfl,λm q=>by cases q⟩
@[simp] theorem ak3:Bg 356:=λI x w=>by kernel_rfl
@[simp] theorem akC:xR 307 #[.int .i64 0,.int .i64 0,.int .i64 0,.int .i64 0,.string ⟨#[]⟩,.slice none 0 0]:=eN (λw=>by kernel_rfl) λw=>⟨_,rfl,λm q=>by cases q⟩
@[simp] theorem akD:Bg 307:=λI x w=>by kernel_rfl
@[simp] theorem aiW:xR 201 #[.int .i64 0,.int .i64 0,.nilIface,.slice none 0 0]:=eN (λw=>by kernel_rfl) λw=>⟨_,rfl,λm q=>by cases q⟩
@[simp] theorem aiX:Bg 201:=λI x w=>by kernel_rfl
@[simp] theorem aiY:xR 166 #[.int .i64 0,.int .i64 0,.int .i64 0,.int .i64 0,.string ⟨#[]⟩,.slice none 0 0]:=eN (λw=>by kernel_rfl) λw=>⟨_,rfl,λm q=>by cases q⟩
@[simp] theorem aiZ:Bg 166:=λI x w=>by kernel_rfl
@[simp] theorem ug:xR 326 #[.int .i64 0,.int .i64 0,.int .i64 0]:=eN (λw=>by kernel_rfl) λw=>⟨_,rfl,λm q=>by cases q⟩
@[simp] theorem aiu:Bg 326:=λI x w=>by kernel_rfl
@[simp] theorem akE:xR 309 #[.int .i64 0,.int .i64 0,.nilIface,.nilIface]:=eN (λw=>by kernel_rfl) λw=>⟨_,rfl,λm q=>by cases q⟩
@[simp] theorem akF:Bg 309:=λI x w=>by kernel_rfl
@[simp] theorem Xv:xR 328 #[.int .i64 0,.int .i64 0,.nilIface,.nilIface]:=eN (λw=>by kernel_rfl) λw=>⟨_,rfl,λm q=>by cases q⟩
@[simp] theorem Xw:Bg 328:=λI x w=>by kernel_rfl
@[simp] theorem aeG:xR 137 #[.int .i64 0,.int .i64 0,.int .i64 0,.int .i64 0,.string ⟨#[]⟩,.slice none 0 0,.slice none 0 0]:=eN (λw=>by kernel_rfl) λw=>⟨_,rfl,λm q=>by cases q⟩
@[simp] theorem aeH:Bg 137:=λI x w=>by kernel_rfl
@[simp] theorem aeI:xR 163 #[.int .i64 0,.int .i64 0,.nilIface,.nilIface]:=eN (λw=>by kernel_rfl) λw=>⟨_,rfl,λm q=>by cases q⟩
@[simp] theorem aeJ:Bg 163:=λI x w=>by kernel_rfl
@[simp] theorem af1:xR 159 #[.int .i64 0,.int .i64 0,.string ⟨#[]⟩]:=eN (λw=>by kernel_rfl) λw=>⟨_,rfl,λm q=>by cases q⟩
@[simp] theorem af2:Bg 159:=λI x w=>by kernel_rfl
@[simp] theorem ai0:xR 311 #[.int .i64 0,.int .i64 0,.nilIface,.nilIface]:=eN (λw=>by kernel_rfl) λw=>⟨_,rfl,λm q=>by cases q⟩
@[simp] theorem ai1:Bg 311:=λI x w=>by kernel_rfl
@[simp] theorem P7:xR 324 #[.int .i64 0,.int .i64 0]:=eN (λw=>by kernel_rfl) λw=>⟨_,rfl,λm q=>by cases q⟩
@[simp] theorem akG:Bg 324:=λI x w=>by kernel_rfl
@[simp] theorem Xx:xR 390 #[.int .i64 0,.int .i64 0,.string ⟨#[]⟩]:=eN (λw=>by kernel_rfl) λw=>⟨_,rfl,λm q=>by cases q⟩
@[simp] theorem amb:Bg 390:=λI x w=>by kernel_rfl
namespace Un
def rH:ByteArray:=⟨#[116,111,111,32,108,97,114,103,101]⟩
mutual
def sz:Ty->Nat
 |.var _=>1|.aJ c l=>if c=rH then 49 else 1+qM l
def qM:List Ty->Nat
 |[]=>0|t::l=>sz t+qM l
end
mutual
def Whole:Ty->Prop
 |.var _=>True|.aJ c l=>c≠rH/\jK l
def jK:List Ty->Prop
 |[]=>True|t::l=>Whole t/\jK l
end
mutual
theorem od:∀t,Whole t->sz t=size t
 |.var n,_=>by simp[sz,size]|.aJ c l,h=>by simp only[sz,size];rw[if_neg h.1,Co l h.2]
theorem Co:∀l,jK l->qM l=ah l
 |[],_=>by simp[qM,ah]|t::l,h=>by simp only[qM,ah];rw[od t h.1,Co l h.2]
end
mutual
def aeD:∀t,sz t<=49*size t
 |.var n=>by simp[sz,size]|.aJ c l=>by
  have:=Md l;simp only[sz,size];split<;>omega
def Md:∀l,qM l<=49*ah l
 |[]=>by simp[qM,ah]|t::l=>by have:=aeD t;have:=Md l;simp only[qM,ah];omega
end
mutual
def bZ{σ:Nat->Ty}:∀t,Whole t->(∀n,aD n t->Whole (σ n))->Whole (sub σ t)
 |.var n,_,k=>k n rfl|.aJ c l,h,k=>⟨h.1,y9 l h.2 λn hn=>k n hn⟩
def y9{σ:Nat->Ty}:∀l,jK l->(∀n,bT n l->Whole (σ n))->jK (aS σ l)
 |[],_,_=>trivial|t::l,h,k=>⟨bZ t h.1 λn hn=>k n<|jc hn,y9 l h.2 λn hn=>k n<|ja hn⟩
end
mutual
theorem Io:∀t,sz t<=48->Whole t
 |.var n,_=>trivial|.aJ c l,h=>by
  by_cases e:c=rH
  .simp only[sz]at h;rw[if_pos e]at h;omega
  .simp only[sz]at h;rw[if_neg e]at h;exact⟨e,Cp l<|by omega⟩
theorem Cp:∀l,qM l<=48->jK l
 |[],_=>trivial|t::l,h=>by simp only[qM]at h;exact⟨Io t<|by omega,Cp l<|by omega⟩
end
def af3 t:1<=sz t:=by
 cases t with
 |var n=>simp[sz]|aJ c l=>simp only[sz];split<;>omega
mutual
def Xy(σ:Nat->Ty):∀t,sz t<=sz (sub σ t)
 |.var n=>by simpa[sub,sz]using af3 (σ n)|.aJ c l=>by
  have:=P8 σ l;simp only[sub,sz];split<;>omega
def P8(σ:Nat->Ty):∀l,qM l<=qM (aS σ l)
 |[]=>by simp[aS,qM]|t::l=>by have:=Xy σ t;have:=P8 σ l;simp only[aS,qM];omega
end
mutual
def Ip(σ:Nat->Ty):∀t,size t<=size (sub σ t)
 |.var n=>by simpa[sub,size]using size_pos (σ n)|.aJ c l=>by have:=Cr σ l;simp only[sub,size];omega
def Cr(σ:Nat->Ty):∀l,ah l<=ah (aS σ l)
 |[]=>by simp[aS,ah]|t::l=>by have:=Ip σ t;have:=Cr σ l;simp only[aS,ah];omega
end
mutual
def im(σ:Nat->Ty)(C:Nat):∀t,(∀n,aD n t->size (σ n)<=C)->1<=C->size (sub σ t)<=C*size t
 |.var n,h,_=>by simpa[sub,size]using h n rfl|.aJ c l,h,hC=>by
  have:=sk σ C l (λn hn=>h n hn) hC;simp only[sub,size,Nat.mul_add,Nat.mul_one];omega
def sk(σ:Nat->Ty)(C:Nat):∀l,(∀n,bT n l->size (σ n)<=C)->1<=C->ah (aS σ l)<=C*ah l
 |[],_,_=>by simp[aS,ah]|t::l,h,hC=>by
  have:=im σ C t (λn hn=>h n<|jc hn) hC;have:=sk σ C l (λn hn=>h n<|ja hn) hC;simp only[aS,ah,Nat.mul_add];omega
end
mutual
def Xz(σ:Nat->Ty)(v:Nat):∀t,aD v t->sz (σ v)<=sz (sub σ t)\/48<sz (sub σ t)
 |.var n,h=>by simp[aD]at h;subst h;simp[sub]|.aJ c l,h=>by
  simp only[sub,sz];split
  .exact ja (by omega)
  .obtain q|q:=P_ σ v l h
   .exact jc (by omega)
   .exact ja (by omega)
def P_(σ:Nat->Ty)(v:Nat):∀l,bT v l->sz (σ v)<=qM (aS σ l)\/48<qM (aS σ l)
 |[],h=>by simp[bT]at h|t::l,h=>by
  simp only[aS,qM];obtain a|a:=h
  .obtain q|q:=Xz σ v t a
   .exact jc (by omega)
   .exact ja (by omega)
  .obtain q|q:=P_ σ v l a
   .exact jc (by omega)
   .exact ja (by omega)
end
mutual
def lS{n:Nat}{σ:Nat->Ty}:∀t,aD n (sub σ t)↔∃m,aD m t/\aD n (σ m)
 |.var m=>by simp[sub,aD]|.aJ c l=>by simp[sub,aD,Cs l]
def Cs{n:Nat}{σ:Nat->Ty}:∀l,bT n (aS σ l)↔∃m,bT m l/\aD n (σ m)
 |[]=>by simp[aS,bT]|t::l=>by
  simp only[aS,bT,lS t,Cs l];constructor
  .rintro(⟨m,a,b⟩|⟨m,a,b⟩)
   .exact⟨m,jc a,b⟩
   .exact⟨m,ja a,b⟩
  .rintro⟨m,a|a,b⟩
   .exact jc ⟨m,a,b⟩
   .exact ja ⟨m,a,b⟩
end
def GI{a}(h:v∈a):seen a v=a:=by simp[seen,h]
mutual
def y_:∀(t:Ty)(a:List Nat),(∀n,aD n t->n∈a)->vars a t=a
 |.var n,a,h=>GI (h n rfl)|.aJ c l,a,h=>by simpa[vars]using Ct l a λn hn=>h n hn
def Ct:∀(l:List Ty)(a:List Nat),(∀n,bT n l->n∈a)->bh a l=a
 |[],a,_=>rfl|t::l,a,h=>by
  simp only[bh];rw[y_ t a λn hn=>h n<|jc hn];exact Ct l a λn hn=>h n<|ja hn
end
def so(σ:Nat->Ty)a(l:List Nat):=l.foldl (λa v=>vars a<|σ v) a
def Iq{σ:Nat->Ty}{n:Nat}:∀(l:List Nat)(a:List Nat),n∈so σ a l↔n∈a\/∃v,v∈l/\aD n (σ v)
 |[],a=>by simp[so]|v::l,a=>by
  have:=Iq (σ:=σ) (n:=n) l<|vars a<|σ v;simp only[so,jp]at this⊢;rw[this,bK];constructor
  .rintro((h|h)|⟨x,h1,h2⟩)
   .exact jc h
   .exact ja ⟨v,by simp,h⟩
   .exact ja ⟨x,by simp[h1],h2⟩
  .rintro(h|⟨x,h1,h2⟩)
   .exact jc (jc h)
   .obtain e|e:=List.mem_cons.1 h1
    .subst e;exact jc<|ja h2
    .exact ja ⟨x,e,h2⟩
mutual
def Ir(σ:Nat->Ty)(b:List Nat):∀(t:Ty)(a:List Nat),vars (so σ b a) (sub σ t)=so σ b (vars a t)
 |.var n,a=>by
  simp only[sub,vars,seen];split
  .rename_i h;exact y_ _ _ λm hm=>(Iq a b).2<|ja ⟨n,h,hm⟩
  .simp[so,List.foldl_append]
 |.aJ c l,a=>by simpa[sub,vars]using Cu σ b l a
def Cu(σ:Nat->Ty)(b:List Nat):∀(l:List Ty)(a:List Nat),bh (so σ b a) (aS σ l)=so σ b (bh a l)
 |[],a=>by simp[aS,bh]|t::l,a=>by
  simp only[aS,bh];rw[Ir σ b t a];exact Cu σ b l<|vars a t
end
def uj σ a t:vars a (sub σ t)=so σ a (vars [] t):=by simpa[so]using Ir σ a t []
def zC{σ τ:Nat->Ty}:∀(l a:List Nat),(∀v,v∈l->∀a,vars a (σ v)=vars a (τ v))->so σ a l=so τ a l
 |[],a,_=>rfl|v::l,a,h=>by
  have:=zC (σ:=σ) (τ:=τ) l (vars a<|τ v) λx hx=>h x (by simp[hx]);simp only[so,jp]at this⊢;rw[h v (by simp) a];exact this
theorem XC t a:vars a t=so Ty.var a (vars [] t):=by simpa[cC]using uj Ty.var a t
def cZ t' t:=t'=t\/(48<sz t'/\48<size t/\vars [] t'=vars [] t)
def cZ.refl t:cZ t t:=jc rfl
theorem cZ.vars{t' t}(h:cZ t' t)a:vars a t'=vars a t:=by grind[cZ,vars,XC]
def cZ.aeE{t' t:Ty}(h:cZ t' t)(hw:Whole t):48<sz t'↔48<size t:=by grind[cZ,Whole,sz,size,od]
theorem cZ.sub{t' t}{σ' σ}(h:cZ t' t)(hs:∀n,aD n t->cZ (σ' n) (σ n)):cZ (sub σ' t') (sub σ t):=by
 have hv:Un.vars [] (Un.sub σ' t')=Un.vars [] (Un.sub σ t):=by
  rw[uj σ' [] t',uj σ [] t,h.vars];refine zC _ _ λv hv a=>(hs v ?_).vars a;simpa using(bK t [] v).1 hv
 obtain rfl|⟨h1,h2,_⟩:=h
 .by_cases afT:∀n,aD n t'->σ' n=σ n
  .exact jc (sub_congr t' afT)
  .have:∃n,aD n t'/\σ' n≠σ n:=by grind
   obtain⟨n,hn,he⟩:=this;obtain e|⟨e1,e2,_⟩:=hs n hn
   .exact absurd e he
   .refine ja ⟨?_,ju e2<|Ij σ n t' hn,hv⟩;obtain q|q:=Xz σ' n t' hn<;>omega
 .exact ja ⟨ju h1<|Xy σ' t',ju h2<|Ip σ t,hv⟩
def bG t:=if sz t<=48 then t else .aJ rH ((vars [] t).map Ty.var)
theorem Cw:∀(l a:List Nat),bh a (l.map Ty.var)=l.foldl seen a
 |[],a=>rfl|v::l,a=>by simp only[jo,bh,jp,vars];exact Cw l<|seen a v
theorem zE:∀(l a:List Nat),l.Nodup->(∀v,v∈l->v∉a)->l.foldl seen a=a++l
 |[],a,_,_=>by simp|v::l,a,h,k=>by
  have e:seen a v=a++[v]:=by simp[seen,k v<|by simp]
  rw[jp,e,zE l (a++[v]) (List.nodup_cons.1 h).2 ?_]
  .simp
  .grind
def gW t:vars [] (bG t)=vars [] t:=by grind[vars,bG,Cw,zE,cH]
def cZ.cut{t' t:Ty}(h:cZ t' t)(hw:Whole t):cZ (bG t') t:=by
 by_cases e:sz t'<=48
 .rw[bG];rw[if_pos e];exact h
 .refine ja ⟨by rw[bG];rw[if_neg e];simp[sz],(h.aeE hw).1<|by omega,?_⟩;rw[gW];exact h.vars []
def Tx{t:Ty}{C}(h:(vars [] t).length<=C)(hC:48<=C)(hw:sz t<=48->size t<=48):size (bG t)<=1+C:=by
 rw[bG];split
 .rename_i q;have:=hw q;omega
 .simp only[size];have:∀l:List Nat,ah (l.map Ty.var)=l.length:=λl=>by
   induction l with
   |nil=>rfl|cons x l ih=>simp only[jo,ah,size,ih,List.length_cons];omega
  rw[this];omega
def Mq{t:Ty}(h:sz t<=48):size t<=48:=by grind[sz,size,od,Io]
def Qa{p:Prop}(h:p:=by
 refine ja ⟨?_,?_,hv⟩
 .simp only[sz];rw[if_neg hc];simp only[qM];omega
 .simp only[size,ah];omega):p:=h
def cZ.af4 c(hc:c≠rH){a' a b' b}(ha:cZ a' a)(hb:cZ b' b):cZ (.aJ c [a',b']) (.aJ c [a,b]):=by
 have hv:Un.vars [] (.aJ c [a',b'])=Un.vars [] (.aJ c [a,b]):=by
  simp only[Un.vars,bh];rw[ha.vars,hb.vars]
 obtain rfl|⟨a1,a2,_⟩:=ha
 .obtain rfl|⟨b1,b2,_⟩:=hb
  .exact jc rfl
  .exact Qa
 .exact Qa
end Un
namespace Un
inductive eB{α β:Type}(E:α->β->Prop):List α->List β->Prop where
 |nil:eB E [] []
 |cons{x:α}{y:β}{l:List α}{k:List β}:E x y->eB E l k->eB E (x::l) (y::k)
abbrev rF:=Nat->Option (ByteArray×List Nat)
abbrev Nx:=Nat->Option Nat
structure kK(str:rF)(nx:Nx)(V:Nat->Ty):Prop where
 made:∀n c l,str n=some (c,l)->V n=.aJ c (l.map V)
 bA:∀n m,nx n=some m->V n=V m
structure Eq(nx:Nx)(P:List (Nat×Nat))(E:Nat->Nat->Prop):Prop where
 refl:∀n,E n n
 symm:∀m n,E m n->E n m
 trans:∀k m n,E k m->E m n->E k n
 bA:∀n m,nx n=some m->E n m
 XD:∀m n,(m,n)∈P->E m n
def rL(str:rF)nx P:=
 ∀E,Eq nx P E->∀n m c l,nx n=some m->str n=some (c,l)->∃l',str m=some (c,l')/\eB E l l'
def rL.start str P:rL str (λ_=>none) P:=by grind[rL]
def mP{E:Nat->Nat->Prop}(h:∀n,E n n):∀l,eB E l l
 |[]=>.nil|x::l=>.cons (h x)<|mP h l
def hY{E:Nat->Nat->Prop}(h:∀k m n,E k m->E m n->E k n):∀{a b c:List Nat},eB E a b->eB E b c->eB E a c
 |[],_,_,.nil,.nil=>.nil|_::_,_,_,.cons p q,.cons r s=>.cons (h _ _ _ p r)<|hY h q s
def vQ{E:Nat->Nat->Prop}:∀{a b:List Nat},a.length=b.length->(∀x y,(x,y)∈a.zip b->E x y)->eB E a b
 |[],[],_,_=>.nil|x::a,y::b,h,k=>.cons (k x y<|by simp) (vQ (by simpa using h) λx' y' h'=>k x' y'<|by simp[h'])
def vR{E:Nat->Nat->Prop}{V:Nat->Ty}(h:∀m n,E m n->V m=V n):∀{a b:List Nat},eB E a b->a.map V=b.map V
 |[],_,.nil=>rfl|_::_,_,.cons p q=>by simp[h _ _ p,vR h q]
section
variable {str:rF} {nx:Nx} {P:List (Nat×Nat)}
def kK.join(ha:nx a=none){V:Nat->Ty}:kK str (dR nx a<|some b) V↔kK str nx V/\V a=V b:=by
 constructor
 .intro h;refine⟨⟨h.made,λn m e=>?_⟩,h.bA a b<|by simp[dR]⟩;by_cases k:n=a
  .grind
  .exact h.bA n m (by simpa[dR,k]using e)
 .rintro⟨h,e⟩;refine⟨h.made,λn m k=>?_⟩;by_cases j:n=a
  .subst j;simp[dR]at k;subst k;exact e
  .exact h.bA n m (by simpa[dR,j]using k)
def Eq.iS(ha:nx a=none)(h:Eq (dR nx a<|some b) P E):Eq nx P E/\E a b:=by
 refine⟨⟨h.refl,h.symm,h.trans,λn m e=>h.bA n m ?_,h.XD⟩,h.bA a b<|by simp[dR]⟩;by_cases k:n=a
 .grind
 .simpa[dR,k]using e
def rL.var(h:rL str nx P)(ha:nx a=none)(hs:str a=none):rL str (dR nx a<|some b) P:=by
 intro E hE n m c l e1 e2;by_cases k:n=a
 .grind
 .exact h E (hE.iS ha).1 n m c l (by simpa[dR,k]using e1) e2
def rL.aJ{l'}(h:rL str nx P)(ha:nx a=none)(hs:str a=some (c,l))(iO:str b=some (c,l'))(hl:l.length=l'.length):
 rL str (dR nx a<|some b) (l.zip l'++P):=by
 intro E hE n m c' k e1 e2;have h1:=(hE.iS ha).1;by_cases j:n=a
 .subst j;simp[dR]at e1;subst e1;rw[hs]at e2;injection e2 with e2;injection e2 with e2 e3;subst e2;subst e3;exact⟨l',iO,vQ hl λx y hx=>hE.XD x y<|List.mem_append_left _ hx⟩
 .exact h E ⟨h1.refl,h1.symm,h1.trans,h1.bA,λm n k=>hE.XD m n<|List.mem_append_right _ k⟩ n m c' k (by simpa[dR,j]using e1) e2
def D7{p:Prop}(h:p:=by
 exact h.bA x y<|by simpa[dR,j]using e):p:=h
def kK.short(h1:nx n=some m)(h2:nx m=some k)(cO:n≠m){V:Nat->Ty}:kK str (dR nx n<|some k) V↔kK str nx V:=by
 constructor
 .intro h;have hm:=h.bA m k (by simp[dR,Ne.symm cO,h2]);have hn:=h.bA n k (by simp[dR]);refine⟨h.made,λx y e=>?_⟩;by_cases j:x=n
  .grind
  .exact D7
 .intro h;refine⟨h.made,λx y e=>?_⟩;by_cases j:x=n
  .subst j;simp[dR]at e;subst e;rw[h.bA x m h1,h.bA m _ h2]
  .exact D7
def Eq.H8(h1:nx n=some m)(h2:nx m=some k)(cO:n≠m)(h:Eq (dR nx n<|some k) P E):Eq nx P E:=by
 refine⟨h.refl,h.symm,h.trans,λx y e=>?_,h.XD⟩;by_cases j:x=n
 .subst j;rw[h1]at e;injection e with e;subst e;exact h.trans _ k _ (h.bA _ k<|by simp[dR]) (h.symm _ _<|h.bA _ k<|by simp[dR,Ne.symm cO,h2])
 .exact D7
def rL.short(h:rL str nx P)(h1:nx n=some m)(h2:nx m=some k)(cO:n≠m):rL str (dR nx n<|some k) P:=by
 intro E hE x y c l e1 e2;have hE':=hE.H8 h1 h2 cO;by_cases j:x=n
 .subst j;simp[dR]at e1;subst e1;have⟨l1,a1,a2⟩:=h E hE' x m c l h1 e2;have⟨l2,b1,b2⟩:=h E hE' m _ c l1 h2 a1;exact⟨l2,b1,hY hE.trans a2 b2⟩
 .exact h E hE' x y c l (by simpa[dR,j]using e1) e2
def rL.ak4{Q}(h:rL str nx (Q++P))(k:∀E,Eq nx P E->∀m n,(m,n)∈Q->E m n):rL str nx P:=by
 intro E hE
 exact h E ⟨hE.refl,hE.symm,hE.trans,hE.bA,λm n hm=>by
  cases List.mem_append.1 hm with
  |inl a=>exact k E hE m n a|inr a=>exact hE.XD m n a⟩
end
inductive Hd(nx:Nx):Nat->Nat->Prop where
 |here{n:Nat}:nx n=none->Hd nx n n
 |step{n m h:Nat}:nx n=some m->Hd nx m h->Hd nx n h
def Hd.head{nx}{n h}(k:Hd nx n h):nx h=none:=by
 induction k with
 |here e=>exact e|step _ _ ih=>exact ih
def Hd.one{nx}{h'}(k:Hd nx n h)(j:Hd nx n h'):h=h':=by
 induction k with
 |here e=>cases j with
  |here=>rfl|step e' _=>grind
 |step e _ ih=>cases j with
  |here e'=>grind|step e' j=>grind
def Hd.kL{str}{nx}{V:Nat->Ty}(s:kK str nx V)(k:Hd nx n h):V n=V h:=by
 induction k with
 |here=>rfl|step e _ ih=>rw[s.bA _ _ e,ih]
def Hd.eq{nx}{P:List (Nat×Nat)}(s:Eq nx P E)(k:Hd nx n h):E n h:=by
 induction k with
 |here=>exact s.refl _|step e _ ih=>exact s.trans _ _ _ (s.bA _ _ e) ih
def Hd.sq{nx}(k:Hd nx n h)(e:nx n=some m):Hd nx m h:=by
 cases k with
 |here e'=>grind|step e' k=>grind
def Hd.short{nx}(h1:nx n=some m)(h2:nx m=some k)(j:Hd nx x h):Hd (dR nx n<|some k) x h:=by
 induction j with
 | @here x e=>
   have:x≠n:=λe'=>by subst e';rw[h1]at e;simp at e
   exact .here (by simpa[dR,this]using e)
 | @step x y h e j ih=>
   by_cases c:x=n
   .subst c;rw[h1]at e;injection e with e;subst e;by_cases c2:m=x
    .subst c2;exact ih
    .exact .step (m:=k) (by simp[dR]) (ih.sq<|by simp[dR,c2,h2])
   .exact .step (m:=y) (by simpa[dR,c]using e) ih
def Hd.join{nx}(ha:nx a=none)(hb:nx b=none)(cO:a≠b)(j:Hd nx x h):Hd (dR nx a<|some b) x (if h=a then b else h):=by
 induction j with
 | @here x e=>
   by_cases c:x=a
   .subst c;simp;exact .step (m:=b) (by simp[dR]) (.here<|by simp[dR,Ne.symm cO,hb])
   .simp[c];exact .here (by simpa[dR,c]using e)
 | @step x y h e j ih=>
   have c:x≠a:=λc=>by subst c;rw[ha]at e;simp at e
   exact .step (m:=y) (by simpa[dR,c]using e) ih
def nN nx m n:=m=n\/∃h,Hd nx m h/\Hd nx n h
def nN.is{nx}(t:∀n m,nx n=some m->∃h,Hd nx n h):Eq nx [] (nN nx):=by
 refine⟨λn=>jc rfl,?_,?_,?_,λ_ _ h=>by simp at h⟩
 .rintro m n(h|⟨h,a,b⟩)
  .exact jc h.symm
  .exact ja ⟨h,b,a⟩
 .rintro k m n(rfl|⟨h,a,b⟩)
  .exact id
  .rintro(rfl|⟨h',a',b'⟩)
   .exact ja ⟨h,a,b⟩
   .have:=b.one a';subst this;exact ja ⟨h,a,b'⟩
 .intro n m e;have⟨h,hh⟩:=t n m e;exact ja ⟨h,hh,hh.sq e⟩
def rL.done{str}{nx}(h:rL str nx [])(t:∀n m,nx n=some m->∃h,Hd nx n h)(hk:Hd nx n k)(e:str n=some (c,l)):
 ∃l',str k=some (c,l')/\eB (nN nx) l l':=by
 induction hk generalizing l with
 |here=>exact⟨l,e,mP (nN.is t).refl l⟩|step e1 _ ih=>
  have⟨l1,a,b⟩:=h _ (nN.is t) _ _ _ _ e1 e;have⟨l2,a2,b2⟩:=ih a;exact⟨l2,a2,hY (nN.is t).trans b b2⟩
def Fin(str:rF)nx(vr:Nat->Nat)(F:Nat->Prop)(V:Nat->Ty):=
 ∀h,F h->nx h=none/\match str h with
  |none=>V h=.var (vr h)|some (c,l)=>∃hs,eB (Hd nx) l hs/\(∀x,x∈hs->F x)/\V h=.aJ c (hs.map V)
def eC{V:Nat->Ty}:∀{l:List Nat}{x},x∈l->size (V x)<=ah (l.map V)
 |_,_,h=>rW<|List.mem_map.2 ⟨_,h,rfl⟩
def oj{str:rF}{nx:Nx}{V:Nat->Ty}(s:kK str nx V):∀{l hs:List Nat},eB (Hd nx) l hs->l.map V=hs.map V
 |[],_,.nil=>rfl|_::_,_,.cons p q=>by simp[p.kL s,oj s q]
def zG{W V:Nat->Ty}{τ:Nat->Ty}:∀{l:List Nat},(∀x,x∈l->W x=sub τ (V x))->l.map W=aS τ (l.map V)
 |[],_=>by simp[aS]|x::l,h=>by
   have k:=zG (W:=W) (V:=V) (τ:=τ) (l:=l) λy hy=>h y<|jq _ hy;simp[aS,h x<|by simp,k]
def Fin.gen{str:rF}{nx:Nx}{vr:Nat->Nat}{F:Nat->Prop}{V W τ:Nat->Ty}(h:Fin str nx vr F V)(s:kK str nx W)(hv:∀x,F x->str x=none->W x=τ (vr x)):∀(n x:Nat),size (V x)<=n->F x->W x=sub τ (V x)
 |n,x,hn,hx=>by
  have h1:=(h x hx).2
  cases e:str x with
  |none=>rw[e]at h1;rw[h1,hv x hx e,sub]|some p=>
   obtain⟨c,l⟩:=p;rw[e]at h1;obtain⟨hs,a,b,d⟩:=h1;rw[s.made x c l e,d,sub,oj s a];congr 1;refine zG λy hy=>?_;have z:=eC (V:=V) hy;rw[d]at hn;simp[size]at hn
   match n,hn with
   |0,hn=>omega|n+1,hn=>exact Fin.gen h s hv n y (by omega)<|b y hy
structure Of(str:rF)(vr:Nat->Nat)(D:Nat->Prop)(ty:Nat->Ty):Prop where
 var:∀n,D n->str n=none->ty n=.var (vr n)
 aJ:∀n c l,str n=some (c,l)->D n/\ty n=.aJ c (l.map ty)/\∀x,x∈l->D x
 one:∀m n,D m->D n->str m=none->str n=none->vr m=vr n->m=n
def dD{V W:Nat->Ty}:∀{l:List Nat},(∀x,x∈l->V x=W x)->l.map V=l.map W
 |[],_=>rfl|x::l,h=>by
   have k:=dD (V:=V) (W:=W) (l:=l) λy hy=>h y<|jq _ hy;simp[h x<|by simp,k]
def fG σ V(l:List Nat):aS σ (l.map V)=l.map λx=>sub σ<|V x:=by
 rw[ij,List.map_map];rfl
def Of.kL{str}{ty:Nat->Ty}(h:Of str vr D ty)σ:kK str (λ_=>none) λn=>sub σ<|ty n:=
 ⟨λn c l e=>by
  have h1:=(h.aJ n c l e).2.1;show sub σ (ty n)=_
  rw[h1,sub,fG],λ_ _ e=>by simp at e⟩
def acs{nx}{y z}(h:nN nx x y)(k:Hd nx y z):Hd nx x z:=by
 obtain rfl|⟨h,a,b⟩:=h
 .exact k
 .exact b.one k▸a
def It{nx:Nx}:∀{l l' hs:List Nat},eB (nN nx) l l'->eB (Hd nx) l' hs->eB (Hd nx) l hs
 |_,_,_,.nil,.nil=>.nil|_,_,_,.cons p q,.cons r s=>.cons (acs p r)<|It q s
def Qb{nx:Nx}{V W:Nat->Ty}(hW:∀n k,Hd nx n k->W n=V k):∀{l hs:List Nat},eB (Hd nx) l hs->l.map W=hs.map V
 |_,_,.nil=>rfl|_,_,.cons p q=>by simp[hW _ _ p,Qb hW q]
def Qc{nx:Nx}:∀{l hs:List Nat},eB (Hd nx) l hs->∀x,x∈l->∃k,Hd nx x k/\k∈hs
 |_,_,.nil,x,h=>by simp at h|_,_,.cons p q,x,h=>by
  cases List.mem_cons.1 h with
  |inl e=>subst e;exact⟨_,p,by simp⟩|inr e=>have⟨k,a,b⟩:=Qc q x e;exact⟨k,a,by simp[b]⟩
def af5{str}{nx}{F}{ty V:Nat->Ty}(ho:Of str vr D ty)(ha:D a)(hb:D b)(hs:∀W,kK str (λ_=>none) W->W a=W b->kK str nx W)(hc:rL str nx [])(ht:∀n m,nx n=some m->∃h,Hd nx n h)(hE:∀E,Eq nx [] E->E a b)(hF:Fin str nx vr F V)(hFD:∀n,F n->D n)(hh:Hd nx a h)(TS:F h):Mgu (ty a) (ty b) (V h):=by
 classical
 have hbh:Hd nx b h:=by
  have:=hE _<|nN.is ht;obtain rfl|⟨k,p,q⟩:=this
  .exact hh
  .exact hh.one p▸q
 obtain⟨W,hW⟩:∃W:Nat->Ty,∀n k,Hd nx n k->W n=V k:=by
  refine⟨λn=>if e:∃k,Hd nx n k then V e.choose else .var 0,λn k hk=>?_⟩;have e:∃k,Hd nx n k:=⟨k,hk⟩;simp only[e,dite_true];rw[e.choose_spec.one hk]
 have hA:∀n k c l,Hd nx n k->F k->str n=some (c,l)->W n=.aJ c (l.map W)/\∀x,x∈l->∃k,Hd nx x k/\F k:=by
  intro n k c l hk hFk e;have⟨l',e',p⟩:=hc.done ht hk e;have q:=(hF k hFk).2;rw[e']at q;obtain⟨hs,q1,q2,q3⟩:=q;have r:=It p q1;refine⟨by rw[hW n k hk,q3,Qb hW r],λx hx=>?_⟩;have⟨k',a',b'⟩:=Qc r x hx;exact⟨k',a',q2 k' b'⟩
 obtain⟨R,hR⟩:∃R:Nat->Ty,∀n,D n->str n=none->R (vr n)=W n:=by
  refine⟨λv=>if e:∃n,D n/\str n=none/\vr n=v then W e.choose else .var 0,λn hn hs=>?_⟩;have e:∃m,D m/\str m=none/\vr m=vr n:=⟨n,hn,hs,rfl⟩;simp only[e,dite_true];have⟨x,y,z⟩:=e.choose_spec;rw[ho.one _ _ x hn y hs z]
 have hB:∀(s n k:Nat),size (ty n)<=s->D n->Hd nx n k->F k->sub R (ty n)=W n:=by
  intro s
  induction s with
  |zero=>intro n k hs;have:=size_pos<|ty n;omega|succ s ih=>
   intro n k hs hn hk hFk
   cases e:str n with
   |none=>rw[ho.var n hn e,sub,hR n hn e]|some p=>
    obtain⟨c,l⟩:=p;have⟨_,o2,o3⟩:=ho.aJ n c l e;have⟨p1,p2⟩:=hA n k c l hk hFk e;rw[o2,p1,sub,fG];congr 1;refine dD λx hx=>?_;have⟨k',a',b'⟩:=p2 x hx;have z:=eC (V:=ty) hx;rw[o2]at hs;simp[size]at hs;exact ih x k' (by omega) (o3 x hx) a' b'
 refine⟨⟨R,?_,?_⟩,λσ e=>⟨σ,?_⟩⟩
 .rw[hB _ a h (jv _) ha hh TS,hW a h hh]
 .rw[hB _ b h (jv _) hb hbh TS,hW b h hbh]
 .have s:=hs _ (ho.kL σ) e;rw[<-hF.gen s (λx hx uk=>by rw[ho.var x (hFD x hx) uk,sub]) _ h (jv _) TS];exact(hh.kL s).symm
end Un
def acu:(Rows.toldRow.wf<|OpenSpec.ofChange Rows.toldSpec)=true:=by kernel_rfl
def acv:(Tryz.f7.params.all (Tryz.prog.readableRec ·))=true:=by kernel_rfl
def acw:(namedTie jt Rows.toldRow.named Rows.toldSpec.vars)=true:=by kernel_rfl
def acx:((Rows.toldRow.stops==[]))=true:=by kernel_rfl
def acy:((Rows.toldRow.knobs==[]))=true:=by kernel_rfl
def acz:((Rows.toldRow.inPlace==Tryz.prog.inPlace 7))=true:=by kernel_rfl
def XE:((Rows.toldRow.unfollowed==Tryz.prog.unfollowed 7))=true:=by kernel_rfl
def XG:((Rows.toldRow.recurses==Tryz.prog.recurses 7))=true:=by kernel_rfl
def XH:((Rows.toldRow.named==Tryz.prog.varsNamed 7))=true:=by kernel_rfl
def XI:((Rows.toldRow.maps==(Tryz.f7.params.toList++Rows.toldSpec.plain.varTypes jt).any (Tryz.prog.mapsRec ·)))=true:=by kernel_rfl
def XK:((Rows.toldRow.ifaces==(Tryz.f7.params.toList++Rows.toldSpec.plain.varTypes jt).any (Tryz.prog.ifacesRec ·)))=true:=by kernel_rfl
def XL:((Rows.toldRow.mapsOut==Tryz.prog.mapsAmong Tryz.f7.resultTypes.toList))=true:=by kernel_rfl
def XN:((Rows.toldRow.loops==(Tryz.f7.params.toList++Rows.toldSpec.plain.varTypes jt).any (Tryz.prog.loopsFrom ·)))=true:=by kernel_rfl
def XO:((Rows.toldRow.wideKeys==(Tryz.f7.params.toList++Rows.toldSpec.plain.varTypes jt++Tryz.f7.resultTypes.toList).any (Tryz.prog.wideKeysFrom ·)))=true:=by kernel_rfl
def XP:(Rows.toldSpec.vars.all (Tryz.prog.varReadable ·))=true:=by kernel_rfl
def XQ:(Tryz.f7.resultTypes.all<|λt=>Tryz.prog.readableRec t&&decide (t<Tryz.prog.types.size))=true:=by kernel_rfl
def XS:((Rows.toldRow.ifacesOut==Tryz.f7.resultTypes.toList.any (Tryz.prog.ifacesRec ·)))=true:=by kernel_rfl
def XT:((Rows.toldRow.loopsOut==Tryz.f7.resultTypes.toList.any (Tryz.prog.loopsFrom ·)))=true:=by kernel_rfl
def XU:((Rows.toldRow.plainKeys==Tryz.prog.plainKeys))=true:=by kernel_rfl
def XV:(Rows.toldRow.shortTexts.isNone)=true:=by kernel_rfl
def XW:((Rows.toldRow.lifted==Tryz.prog.liftsFinal))=true:=by kernel_rfl
def XX:((Tryz.prog.make==some Rows.toldRow.make))=true:=by kernel_rfl
def XY:((Rows.toldRow.pinned==Rows.toldRow.pinnedBy))=true:=by kernel_rfl
def XZ:((Rows.toldRow.veiled==(Tryz.f7.params.toList++Rows.toldSpec.plain.varTypes jt++Tryz.f7.resultTypes.toList).any (Tryz.prog.veiledRec ·)))=true:=by kernel_rfl
def X6:(Rows.toldRow.veiledFits jt Tryz.f7.params.toList<|Tryz.f7.params.toList++Rows.toldSpec.plain.varTypes jt++Tryz.f7.resultTypes.toList)=true:=by kernel_rfl
def TU:Tryz.pinned.checked.prog.mainIs=some (Rows.agreeCard.stood.harness.1,Rows.agreeCard.stood.harness.2.toList):=by kernel_rfl
def MD:true=Tryz.prog.looks []:=by kernel_rfl
def X7:Rows.toldRow.wfByText (OpenSpec.ofChange Rows.toldSpec)=true:=by kernel_rfl
def TX:false=Rows.toldRow.goesBy Tryz.pinned.checked.prog:=by kernel_rfl
end Go.Proofs.YtfnkchdeheeiiaaGreatDoor
