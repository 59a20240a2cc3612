import Derived.Deep.Slices
import Derived.OpenShut
import Derived.ProofKit
import Derived.SevenTiedAt
import Derived.Test.YtnldmeakhapdhaaGreatDoorCards
import Derived.WalkLawsBesides
import Derived.WalkSpells
set_option linter.all false
set_option maxRecDepth 100000
set_option maxHeartbeats 200000
namespace Go.Proofs.YtnldmeakhapdhaaGreatDoor
open Or renaming inr->ja,inl->jc
open Go.Instr renaming findNow->jd,sameBits->jf,typeAssert->jh,sameNow->ji,mapUpdate->jj,findKey->jk,lookup->jl
open _root_.List renaming map_cons->jm,foldl_cons->jo,mem_cons_of_mem->jp,getElem?_eq_getElem->jq,idxOf_cons->jt
open Go.Result renaming andThen->ju
open Go.Sem renaming run_bind->jv
open Go.MapKept renaming run_setObj_map->jx,run_getObj_map->jy
open _root_.Nat renaming lt_of_lt_of_le->jz,mul_one->j5
open Go
variable {c d:ByteArray} {xs:List Value} {a b base h m n v x:Nat} {ρ:Nat->Nat} {E:Nat->Nat->Prop} {P:Program} {κ:Type} {e k t:TypeId} {w w':World}
section
open Go.ChangeShapes Go.WideShapes Go.RowKit Go.Deep
section
variable {H:Type} {enc:TypeId×Value->H} {spare:Nat->Bool} {held:Bool}
def NJ{s t:ByteArray}(h:s.data.toList=t.data.toList):s=t:=by
 cases s;cases t
 simp at h;simp[h]
def zS{fuel}{cs}{p}(L:List ByteArray)(ht:P.underlying t=some (.array n e))(he:P.underlying e=some .string)(hc:P.cellsOf e=1)(h:DataW.trod enc P w base spare held fuel t cs=some (.agg<|L.map λs=>.lit<|.string s.data.toList,p)):∀j,j<n->cs[j]? =some (.string<|L.getD j ⟨#[]⟩):=by
 intro j hj;have⟨xs,m,_,hx,hl,hn,hel⟩:=DataW.trod_array ht h;simp only[Prod.mk.injEq,DataW.agg.injEq]at hx;have hg:=hel j hj;rw[hc,j5,jq<|by omega]at hg;have⟨s,h1,h2,_⟩:=DataW.trod_string he hg;have h3:(L.map λs=>(DataW.lit (.string s.data.toList):DataW H))[j]? =some (.lit<|.string s.data.toList):=by
  rw[hx.1,List.getElem?_map,jq<|by omega,h2];rfl
 rw[List.getElem?_map]at h3
 cases hL:L[j]? with
 |none=>rw[hL]at h3;simp at h3|some u=>
  rw[hL]at h3;simp at h3;have hu:=NJ (by simpa using h3);have h4:cs[j]? =some (.string s):=by
   have:=congrArg (λl=>l[0]?) h1;simpa[List.getElem?_take,List.getElem?_drop]using this
  rw[h4,List.getD_eq_getElem?_getD,hL,hu];rfl
end
def YU:Tryz.prog.cellsOf 3=1:=by kernel_rfl
def strCells:Tryz.prog.cellsOf 9=1:=by kernel_rfl
end
section
open Go.RowKit
def Uu(w:World)(C:List Value)t:∀j u,C[j]? =some u->(w.alloc<|.cells C.toArray t).cell? ((⟨w.heap.size,0,none⟩:Addr).add j)=some u:=by
 intro j u hj;rw[Addr.add];split
 .next h=>subst h;simpa using hj
 .simpa using hj
def jR{size}{v}(h:w.ownsRow base e size v n xs)(hb:Below w.heap.size w w'):w'.ownsRow base e size v n xs:=by
 obtain⟨h1,h2⟩:=h;refine⟨h1,?_⟩;obtain h2|⟨g,cap,lZ,hv,hg,hh,r⟩:=h2
 .exact jc h2
 .refine ja ⟨g,cap,lZ,hv,hg,?_,r⟩;have bA:g<w.heap.size:=by
   have:=Array.getElem?_eq_some_iff.1 hh;exact this.1
  rw[hb.block g bA,hh]
def oE(w:World)(C:List Value)t b(hb:b=w.heap.size):∀j u,C[j]? =some u->(w.alloc<|.cells C.toArray t).cell? ((⟨b,0,none⟩:Addr).add j)=some u:=by
 subst hb;exact Uu w C t
def fP{size}{v}(h:w.ownsRow base e size v n xs):∀k,v.ownBlock=some k->base<=k/\k<w.heap.size:=by
 intro k hk;obtain⟨h1,h2⟩:=h;obtain⟨rfl,_⟩|⟨g,cap,lZ,rfl,hg,hh,r⟩:=h2
 .simp[Value.ownBlock]at hk
 .simp[Value.ownBlock]at hk;subst hk;exact⟨hg,(Array.getElem?_eq_some_iff.1 hh).1⟩
end
namespace Un
inductive Ty where
 |var(n:Nat):Ty
 |aM(c:ByteArray)(l:List Ty):Ty
mutual
def sub(σ:Nat->Ty):Ty->Ty
 |.var n=>σ n|.aM c l=>.aM c<|aT σ l
def aT(σ:Nat->Ty):List Ty->List Ty
 |[]=>[]|t::l=>sub σ t::aT σ l
end
mutual
def size:Ty->Nat
 |.var _=>1|.aM _ l=>1+ak l
def ak:List Ty->Nat
 |[]=>0|t::l=>size t+ak l
end
mutual
def aw(v:Nat):Ty->Prop
 |.var n=>n=v|.aM _ l=>bW v l
def bW(v:Nat):List Ty->Prop
 |[]=>False|t::l=>aw v t\/bW v l
end
def seen l(v:Nat):=if v∈l then l else l++[v]
mutual
def vars(a:List Nat):Ty->List Nat
 |.var n=>seen a n|.aM _ l=>bh a l
def bh(a:List Nat):List Ty->List Nat
 |[]=>a|t::l=>bh (vars a t) l
end
def iC(σ:Nat->Ty):∀l,aT σ l=l.map (sub σ)
 |[]=>rfl|t::l=>by simp[aT,iC σ l]
def eB σ l:(aT σ l).length=l.length:=by simp[iC]
mutual
theorem sub_sub(τ σ:Nat->Ty):∀t,sub τ (sub σ t)=sub (λn=>sub τ<|σ n) t
 |.var n=>by simp[sub]|.aM c l=>by simp[sub,y8 τ σ l]
theorem y8(τ σ:Nat->Ty):∀l,aT τ (aT σ l)=aT (λn=>sub τ<|σ n) l
 |[]=>by simp[aT]|t::l=>by simp[aT,sub_sub τ σ t,y8 τ σ l]
end
mutual
def cK:∀t,sub Ty.var t=t
 |.var n=>by simp[sub]|.aM c l=>by simp[sub,IB l]
def IB:∀l,aT Ty.var l=l
 |[]=>by simp[aT]|t::l=>by simp[aT,cK t,IB l]
end
mutual
theorem sub_congr{σ τ:Nat->Ty}:∀t,(∀n,aw n t->σ n=τ n)->sub σ t=sub τ t
 |.var n,h=>by simpa[sub]using h n (by simp[aw])|.aM c l,h=>by simp[sub,rB l<|λn hn=>h n<|by simpa[aw]using hn]
theorem rB{σ τ:Nat->Ty}:∀l,(∀n,bW n l->σ n=τ n)->aT σ l=aT τ l
 |[],_=>by simp[aT]|t::l,h=>by simp[aT,sub_congr t<|λn hn=>h n<|jc hn,rB l<|λn hn=>h n<|ja hn]
end
mutual
def Qc{σ τ:Nat->Ty}:∀t,sub σ t=sub τ t->∀n,aw n t->σ n=τ n
 |.var m,h,n,hn=>by simp[aw]at hn;subst hn;simpa[sub]using h|.aM c l,h,n,hn=>IC l (by simpa[sub]using h) n (by simpa[aw]using hn)
def IC{σ τ:Nat->Ty}:∀l,aT σ l=aT τ l->∀n,bW n l->σ n=τ n
 |[],_,n,hn=>by simp[bW]at hn|t::l,h,n,hn=>by
   simp[aT]at h
   cases hn with
   |inl a=>exact Qc t h.1 n a|inr a=>exact IC l h.2 n a
end
def size_pos:∀t,1<=size t
 |.var n=>by simp[size]|.aM c l=>by simp[size]<;>omega
def y9{t:Ty}:∀{l},t∈l->size t<=ak l
 |a::l,h=>by
   simp[ak]
   cases List.mem_cons.1 h with
   |inl e=>subst e;omega|inr e=>have:=y9 e;omega
mutual
def ID(σ:Nat->Ty)(v:Nat):∀t,aw v t->size (σ v)<=size (sub σ t)
 |.var n,h=>by simp[aw]at h;subst h;simp[sub]|.aM c l,h=>by have:=jT σ v l (by simpa[aw]using h);simp[sub,size];omega
def jT(σ:Nat->Ty)(v:Nat):∀l,bW v l->size (σ v)<=ak (aT σ l)
 |[],h=>by simp[bW]at h|t::l,h=>by
   simp[aT,ak]
   cases h with
   |inl a=>have:=ID σ v t a;omega|inr a=>have:=jT σ v l a;omega
end
def Uv{σ}{l}(h:bW v l):σ v≠sub σ (.aM c l):=λe=>by
 have:=jT σ v l h;have e':=congrArg size e;simp[sub,size]at e';omega
def sH{a:List Nat}:n∈seen a v↔n∈a\/n=v:=by
 rw[seen];split
 .grind
 .simp
mutual
def bP:∀(t:Ty)(a:List Nat)(n:Nat),n∈vars a t↔n∈a\/aw n t
 |.var m,a,n=>by simp[vars,aw,sH,eq_comm]|.aM c l,a,n=>by simp[vars,aw,CO l a n]
def CO:∀(l:List Ty)(a:List Nat)(n:Nat),n∈bh a l↔n∈a\/bW n l
 |[],a,n=>by simp[bh,bW]|t::l,a,n=>by simp[bh,bW,CO l,bP t,or_assoc]
end
def SM{a:List Nat}(h:a.Nodup)v:(seen a v).Nodup:=by
 rw[seen];split
 .exact h
 .rename_i hv;rw[List.nodup_append];refine⟨h,by simp,?_⟩;intro x hx y hy e;simp at hy;subst e;subst hy;exact hv hx
mutual
theorem dF:∀(t:Ty){a:List Nat},a.Nodup->(vars a t).Nodup
 |.var m,a,h=>by simpa[vars]using SM h m|.aM c l,a,h=>by simpa[vars]using vU l h
theorem vU:∀(l:List Ty){a:List Nat},a.Nodup->(bh a l).Nodup
 |[],a,h=>by simpa[bh]using h|t::l,a,h=>by simpa[bh]using vU l (dF t h)
end
def Yf a v:a<+:seen a v:=by
 rw[seen];split
 .grind
 .grind
mutual
def Yg:∀(t:Ty)(a:List Nat),a<+:vars a t
 |.var m,a=>by simpa[vars]using Yf a m|.aM c l,a=>by simpa[vars]using mx l a
def mx:∀(l:List Ty)(a:List Nat),a<+:bh a l
 |[],a=>by simp[bh]|t::l,a=>by simpa[bh]using(Yg t a).trans (mx l _)
end
def Ren(ρ:Nat->Nat)(a:List Nat):=∀m,m∈a->∀n,n∈a->ρ m=ρ n->m=n
abbrev my(ρ:Nat->Nat):Nat->Ty:=λn=>.var<|ρ n
def Yh{a:List Nat}(h:Ren ρ (seen a v)):seen (a.map ρ) (ρ v)=(seen a v).map ρ:=by
 by_cases hv:v∈a
 .have h1:ρ v∈a.map ρ:=List.mem_map.2 ⟨v,hv,rfl⟩;rw[seen,seen,if_pos hv,if_pos h1]
 .have h1:¬ρ v∈a.map ρ:=by
   intro hm;have⟨u,hu,e⟩:=List.mem_map.1 hm;have:=h u (sH.2<|jc hu) v (sH.2<|ja rfl) e;subst this;exact hv hu
  rw[seen,seen,if_neg hv,if_neg h1];simp
def Ren.pre{a b:List Nat}(h:Ren ρ b)(k:a<+:b):Ren ρ a:=λm hm n hn e=>h m (k.subset hm) n (k.subset hn) e
mutual
def sI{ρ:Nat->Nat}:∀(t:Ty){a:List Nat},Ren ρ (vars a t)->vars (a.map ρ) (sub (my ρ) t)=(vars a t).map ρ
 |.var m,a,h=>by simpa[vars,sub]using Yh (by simpa[vars]using h)|.aM c l,a,h=>by simpa[vars,sub]using CQ l (by simpa[vars]using h)
def CQ{ρ:Nat->Nat}:∀(l:List Ty){a:List Nat},Ren ρ (bh a l)->bh (a.map ρ) (aT (my ρ) l)=(bh a l).map ρ
 |[],a,h=>by simp[bh,aT]|t::l,a,h=>by
   simp only[bh,aT]at h⊢;rw[sI t<|h.pre<|mx l _,CQ l h]
end
def TS{p:Prop}(h:p:=by
 cases List.mem_cons.1 hv with
 |inl k=>exact absurd k.symm e|inr k=>exact k):p:=h
def Qe{ρ:Nat->Nat}{v:Nat}:∀{a:List Nat},Ren ρ a->v∈a->(a.map ρ).idxOf (ρ v)=a.idxOf v
 |[],_,h=>by simp at h|x::a,h,hv=>by
   by_cases e:x=v
   .subst e;simp
   .have e':¬ρ x=ρ v:=λk=>e (h x (by simp) v hv k);have Na:v∈a:=by
     exact TS
    have b1:(x==v)=false:=by simpa using e
    have b2:(ρ x==ρ v)=false:=by simpa using e'
    have:=Qe (λm hm n hn=>h m (jp _ hm) n<|jp _ hn) Na;simp only[jm,jt,b1,b2,this]
mutual
def sJ(ρ:Nat->Nat):∀t,size (sub (my ρ) t)=size t
 |.var n=>by simp[sub,size]|.aM c l=>by simp[sub,size,CR ρ l]
def CR(ρ:Nat->Nat):∀l,ak (aT (my ρ) l)=ak l
 |[]=>by simp[aT,ak]|t::l=>by simp[aT,ak,sJ ρ t,CR ρ l]
end
end Un
namespace Un
abbrev pN:ByteArray:=⟨#[62]⟩
abbrev m9:ByteArray:=⟨#[44]⟩
def par p(s:List UInt8):=if p=true then 40::(s++[41])else s
def nth(ps:List (Nat->List UInt8))i:=ps.getD i λ_=>[]
def bD c ps tight:=
 if c=pN then par (decide (0<tight)) (nth ps 0 1++([32,45,62,32]++nth ps 1 0))
 else if c=m9 then 40::(nth ps 0 0++([44,32]++(nth ps 1 0++[41])))
 else par (decide (1<tight)&& !ps.isEmpty) (c.toList++ps.flatMap λp=>32::p 2)
section
variable (dec:Nat->List UInt8)
mutual
def wr(L:List Nat):Ty->Nat->List UInt8
 |.var n=>λ_=>39::118::dec (L.idxOf n)|.aM c l=>bD c<|Rc L l
def Rc(L:List Nat):List Ty->List (Nat->List UInt8)
 |[]=>[]|t::l=>wr L t::Rc L l
end
def written(t:Ty):List UInt8:=wr dec (vars [] t) t 0
def Qf{v:Nat}:∀{a b:List Nat},a<+:b->v∈a->b.idxOf v=a.idxOf v
 |[],_,_,h=>by simp at h|x::a,b,h,hv=>by
   obtain⟨r,rfl⟩:=h;by_cases e:x=v
   .subst e;simp
   .have b1:(x==v)=false:=by simpa using e
    have Na:v∈a:=by
     exact TS
    have:=Qf (List.prefix_append a r) Na;simp only[List.cons_append,jt,b1,this]
mutual
def Yi{a b:List Nat}(h:a<+:b):∀t,(∀n,aw n t->n∈a)->wr dec b t=wr dec a t
 |.var n,k=>by simp only[wr,Qf h<|k n<|by simp[aw]]|.aM c l,k=>by simp only[wr,Qg h l<|λn hn=>k n<|by simpa[aw]using hn]
def Qg{a b:List Nat}(h:a<+:b):∀l,(∀n,bW n l->n∈a)->Rc dec b l=Rc dec a l
 |[],_=>by simp[Rc]|t::l,k=>by simp only[Rc,Yi h t<|λn hn=>k n<|jc hn,Qg h l<|λn hn=>k n<|ja hn]
end
mutual
def Yj{ρ:Nat->Nat}{L:List Nat}(h:Ren ρ L):∀t,(∀n,aw n t->n∈L)->wr dec (L.map ρ) (sub (my ρ) t)=wr dec L t
 |.var n,k=>by simp only[wr,sub,my,Qe h<|k n<|by simp[aw]]|.aM c l,k=>by simp only[wr,sub,Qh h l<|λn hn=>k n<|by simpa[aw]using hn]
def Qh{ρ:Nat->Nat}{L:List Nat}(h:Ren ρ L):∀l,(∀n,bW n l->n∈L)->Rc dec (L.map ρ) (aT (my ρ) l)=Rc dec L l
 |[],_=>by simp[Rc,aT]|t::l,k=>by simp only[Rc,aT,Yj h t<|λn hn=>k n<|jc hn,Qh h l<|λn hn=>k n<|ja hn]
end
def vV{t:Ty}(h:Ren ρ (vars [] t)):written dec (sub (my ρ) t)=written dec t:=by
 have e:=sI (ρ:=ρ) t (a:=[]) h;simp only[List.map_nil]at e;rw[written,e,Yj dec h t<|λn hn=>(bP t [] n).2<|ja hn,<-written]
end
end Un
namespace Un
structure uq(K:Nat->Option Ty)(R:Nat->Ty)(rk:Nat->Nat):Prop where
 open_:∀n,K n=none->R n=.var n
 shut:∀n t,K n=some t->R n=sub R t
 Yk:∀n u,K n=some (.var u)->rk u<rk n
def uq.start:uq (λ_=>none) Ty.var (λ_=>0):=⟨λ_ _=>rfl,λ_ _ h=>by simp at h,λ_ _ h=>by simp at h⟩
def eu{α:Type}(K:Nat->α)a t:=λn=>if n=a then t else K n
def sK a(B:Ty):=λn=>if n=a then B else .var n
def IE{B t:Ty}(h:¬aw a t):sub (sK a B) t=t:=by
 refine(sub_congr t λn hn=>?_).trans (cK t);have:n≠a:=λe=>h<|e▸hn;simp[sK,this]
def Yl{B t:Ty}{σ:Nat->Ty}(h:σ a=sub σ B):sub σ (sub (sK a B) t)=sub σ t:=by
 rw[sub_sub];refine sub_congr t λn _=>?_;by_cases e:n=a
 .subst e;simp[sK,h]
 .simp[sK,e,sub]
def uq.bind{K:Nat->Option Ty}{R:Nat->Ty}{rk}(h:uq K R rk){b:Ty}(ha:K a=none)(hn:¬aw a (sub R b))(hb:∀u,b=.var u->K u=none):
 ∃Qi,uq (eu K a<|some b) (λn=>sub (sK a<|sub R b)<|R n) Qi:=by
 have hN:∀t,sub (λn=>sub (sK a<|sub R b)<|R n) t=sub (sK a<|sub R b) (sub R t):=λt=>(sub_sub _ _ t).symm
 classical
 refine⟨λn=>if R n=.var a then rk n+(match b with|.var u=>rk u+1|.aM _ _=>0)else rk n,?_,?_,?_⟩
 .intro n CU;by_cases e:n=a
  .simp[eu,e]at CU
  .simp[eu,e]at CU;simp[h.open_ n CU,sub,sK,e]
 .intro n t ht;by_cases e:n=a
  .subst e;simp[eu]at ht;subst ht;simp only[hN];rw[IE hn,h.open_ n ha];simp[sub,sK]
  .simp[eu,e]at ht;simp only[hN];rw[h.shut n t ht]
 .intro n u ht;by_cases e:n=a
  .subst e;simp[eu]at ht;subst ht;have h1:=h.open_ n ha;have h2:=h.open_ u<|hb u rfl;have h3:¬u=n:=λe=>hn (by rw[sub,h2,aw];exact e);simp[h1,h2,h3];omega
  .simp[eu,e]at ht;have h1:=h.Yk n u ht;have h2:R n=R u:=by simpa[sub]using h.shut n _ ht
   simp only[h2];split<;>omega
structure Made(R R':Nat->Ty)a b:Prop where
 same:sub R' a=sub R' b
 of_:∃δ,∀n,R' n=sub δ (R n)
 least:∀σ,sub σ (sub R a)=sub σ (sub R b)->∀n,sub σ (R' n)=sub σ (R n)
def Made.refl{R:Nat->Ty}{a b:Ty}(h:sub R a=sub R b):Made R R a b:=⟨h,⟨Ty.var,λ_=>(cK _).symm⟩,λ_ _ _=>rfl⟩
def Made.swap{R R':Nat->Ty}{a b:Ty}(h:Made R R' a b):Made R R' b a:=⟨h.same.symm,h.of_,λσ e=>h.least σ e.symm⟩
def Made.acS{R R':Nat->Ty}{a b a' b':Ty}(h:Made R R' a' b')(ea:sub R a'=sub R a)(eb:sub R b'=sub R b):Made R R' a b:=by
 obtain⟨h1,⟨δ,h2⟩,h3⟩:=h;have hN:∀t,sub R' t=sub δ (sub R t):=λt=>by rw[sub_sub];exact sub_congr t λn _=>h2 n
 refine⟨?_,⟨δ,h2⟩,λσ e=>h3 σ (by rw[ea,eb];exact e)⟩;rw[hN a,hN b,<-ea,<-eb,<-hN,<-hN,h1]
def Made.bind{K:Nat->Option Ty}{R:Nat->Ty}{rk}(h:uq K R rk){b:Ty}(ha:K a=none)(hn:¬aw a (sub R b)):
 Made R (λn=>sub (sK a<|sub R b)<|R n) (.var a) b:=by
 have hN:∀t,sub (λn=>sub (sK a<|sub R b)<|R n) t=sub (sK a<|sub R b) (sub R t):=λt=>(sub_sub _ _ t).symm;refine⟨?_,⟨_,λn=>rfl⟩,λσ e n=>Yl ?_⟩
 .rw[hN,hN,IE hn];simp[sub,h.open_ a ha,sK]
 .simpa[sub,h.open_ a ha]using e
def acT{K:Nat->Option Ty}{R:Nat->Ty}{rk}(h:uq K R rk){l}(ha:K a=none)(hn:aw a (sub R<|.aM c l))σ:
 sub σ (sub R<|.var a)≠sub σ (sub R<|.aM c l):=by
 have e1:sub R (.var a)=.var a:=by simpa[sub]using h.open_ a ha
 rw[e1];simp only[sub,aw]at hn⊢;have:=Uv (σ:=σ) (c:=c) hn;simpa[sub]using this
structure oF(R R':Nat->Ty)a b:Prop where
 same:aT R' a=aT R' b
 of_:∃δ,∀n,R' n=sub δ (R n)
 least:∀σ,aT σ (aT R a)=aT σ (aT R b)->∀n,sub σ (R' n)=sub σ (R n)
def Qj{R R' δ:Nat->Ty}(h:∀n,R' n=sub δ (R n))l:aT R' l=aT δ (aT R l):=by
 rw[y8];exact rB l λn _=>h n
def oF.nil R:oF R R [] []:=⟨rfl,⟨Ty.var,λ_=>(cK _).symm⟩,λ_ _ _=>rfl⟩
def cN σ a b:aT σ (a++b)=aT σ a++aT σ b:=by simp[iC]
def oF.snoc{R R' R'':Nat->Ty}{a b}{x y:Ty}(hl:a.length=b.length)(h:oF R R' a b)(k:Made R' R'' x y):oF R R'' (a++[x]) (b++[y]):=by
 have⟨δ,h2⟩:=h.of_;have⟨ε,k2⟩:=k.of_;refine⟨?_,⟨λn=>sub ε<|δ n,λn=>?_⟩,λσ e n=>?_⟩
 .rw[cN,cN,Qj k2 a,Qj k2 b,h.same];simp[aT,k.same]
 .rw[k2 n,h2 n,sub_sub]
 .rw[cN,cN,cN,cN]at e;have e1:=List.append_inj e (by simp[eB,hl]);have e2:=h.least σ e1.1;have e3:sub σ (sub R' x)=sub σ (sub R' y):=by
   have:∀t,sub σ (sub R' t)=sub σ (sub R t):=λt=>by
    rw[sub_sub,sub_sub];exact sub_congr t λn _=>e2 n
   rw[this,this];simpa[aT]using e1.2
  rw[k.least σ e3 n,e2 n]
def oF.aM{R R':Nat->Ty}{a b}c(h:oF R R' a b):Made R R' (.aM c a) (.aM c b):=
 ⟨by simp[sub,h.same],h.of_,λσ e=>h.least σ<|by simpa[sub]using e⟩
def oF.no{R R':Nat->Ty}{a b a' b'}{x y:Ty}(hl:a.length=b.length)(h:oF R R' a b)(k:∀σ,sub σ (sub R' x)≠sub σ (sub R' y))c d σ:
 sub σ (sub R<|.aM c (a++x::a'))≠sub σ (sub R<|.aM d (b++y::b')):=by
 intro e;simp only[sub,Ty.aM.injEq]at e;have e:=e.2;rw[cN,cN,cN,cN]at e;have e1:=List.append_inj e (by simp[eB,hl]);have e2:=h.least σ e1.1;refine k σ ?_;have:∀t,sub σ (sub R' t)=sub σ (sub R t):=λt=>by
  rw[sub_sub,sub_sub];exact sub_congr t λn _=>e2 n
 rw[this,this];have e3:=e1.2;simp only[aT,List.cons.injEq]at e3;exact e3.1
def Np{R σ:Nat->Ty}{a b}(h:c≠d):sub σ (sub R<|.aM c a)≠sub σ (sub R<|.aM d b):=λe=>by
 simp only[sub,Ty.aM.injEq]at e;exact h e.1
def Uw{R σ:Nat->Ty}{a b}(h:a.length≠b.length):sub σ (sub R<|.aM c a)≠sub σ (sub R<|.aM d b):=λe=>by
 simp only[sub,Ty.aM.injEq]at e;have:=congrArg List.length e.2;simp[eB]at this;exact h this
end Un
section
open Go.RowKit Go.MapKept Go.ChangeMaps
def yl{κ:Type}[DecidableEq κ](x:κ):List (κ×Value)->Nat->Option (Nat×Value)
 |[],_=>none|p::l,i=>if p.1=x then some (i,p.2)else yl x l (i+1)
def a_{κ:Type}[DecidableEq κ](x:κ):List (κ×Value)->Option Value
 |[]=>none|p::l=>if p.1=x then some p.2 else a_ x l
theorem QK[DecidableEq κ]x(l:List (κ×Value))(i:Nat):(yl x l i).map (·.2)=a_ x l:=by
 induction l generalizing i with
 |nil=>rfl|cons p l ih=>rw[yl,a_];split<;>simp[ih]
def bG{κ:Type}[DecidableEq κ](x:κ)(v:Value):List (κ×Value)->List (κ×Value)
 |[]=>[(x,v)]|p::l=>if p.1=x then(x,v)::l else p::bG x v l
def oN[DecidableEq κ]x v(l:List (κ×Value))(h:a_ x l=none):bG x v l=l++[(x,v)]:=by
 induction l with
 |nil=>rfl|cons p l ih=>
  rw[a_]at h;split at h
  .simp at h
  .rename_i hn;simp[bG,hn,ih h]
theorem aN[DecidableEq κ]x y v(l:List (κ×Value)):a_ y (bG x v l)=if x=y then some v else a_ y l:=by
 induction l with
 |nil=>simp[bG,a_]|cons p l ih=>
  unfold bG;split
  .rename_i h;unfold a_;by_cases e:x=y
   .simp[e]
   .rw[h];simp[e]
  .rename_i h;unfold a_;rw[ih];by_cases e:p.1=y
   .grind
   .simp[e]
structure KL P k{κ:Type}[DecidableEq κ](enc:κ->Value)(ok:World->κ->Prop):Prop where
 chk:∀b x w,(Instr.checkKey b 10000 k<|enc x).run P w=.ok () w
 fin:∀x(L:List (κ×Value))(es:List MapEntry)w,ok w x->(∀p∈L,ok w p.1)->es.map (λe=>(e.key,e.val))=L.map (λp=>(enc p.1,p.2))->(jk k (enc x) es).run P w=.ok (yl x L 0) w
 bit:∀x,jf 10000 (enc x) (enc x)=true
def MS{κ:Type}(enc:κ->Value)(w:World)(b:Nat)(L:List (κ×Value)):=
 ∃es clock,w.heap[b]? =some (.map es clock)/\es.toList.map (λe=>(e.key,e.val))=L.map (λp=>(enc p.1,p.2))
section
variable [DecidableEq κ] {enc:κ->Value} {ok:World->κ->Prop} {L:List (κ×Value)}
def MS.lt(h:MS enc w b L):b<w.heap.size:=by grind[MS]
def MS.same(h:MS enc w b L)(hb:w'.heap[b]? =w.heap[b]?):MS enc w' b L:=by grind[MS]
def MS.below(h:MS enc w b L)(hb:Below w.heap.size w w'):MS enc w' b L:=h.same<|hb.block b h.lt
def MS.new(enc:κ->Value)(w:World):MS enc (w.alloc<|.map #[] 0) w.heap.size []:=⟨#[],0,(MapKept.heap_alloc w _).1,rfl⟩
def MS.look(K:KL P k enc ok)(h:MS enc w b L)(ht:P.underlying t=some (.map k e)){z}(hz:(zeroValue e).run P w=.ok z w)x(hx:ok w x)(hL:∀p∈L,ok w p.1)c:
 (jl t (.map<|some b) (enc x) c).run P w=.ok (match a_ x L with|some v=>if c then .tuple #[v,.bool true]else v|none=>if c then .tuple #[z,.bool false]else z) w:=by
 obtain⟨es,clock,hb,np⟩:=h;have hf:=K.fin x L es.toList w hx hL np;rw[<-QK x L 0];rw[jl];simp only[jv,run_underlying ht,ju,jy hb,K.chk,hf]
 cases ym:yl x L 0 with
 |none=>rw[ym]at hf;cases c<;>simp[hz,hf,ju]|some p=>rw[ym]at hf;cases c<;>simp[hf,ju]
def EP x v:∀(L:List (κ×Value))(es:List MapEntry)(i j:Nat)(u:Value),es.map (λe=>(e.key,e.val))=L.map (λp=>(enc p.1,p.2))->yl x L i=some (j,u)->i<=j/\∃e0,es[j-i]? =some e0/\e0.key=enc x/\(es.modify (j-i) λe=>{e with key:=enc x,val:=v}).map (λe=>(e.key,e.val))=(bG x v L).map (λp=>(enc p.1,p.2)):=by
 intro L
 induction L with
 |nil=>intro es i j u _ h;simp[yl]at h|cons p l ih=>
  intro es i j u np h
  cases es with
  |nil=>simp at np|cons e0 es=>
   simp only[jm,List.cons.injEq,Prod.mk.injEq]at np;obtain⟨⟨hk,hv⟩,np⟩:=np;rw[yl]at h;split at h
   .rename_i hp;simp only[Option.some.injEq,Prod.mk.injEq]at h;obtain⟨rfl,rfl⟩:=h;refine⟨Nat.le_refl _,e0,by simp,by rw[hk,hp],?_⟩;simp[bG,hp,np]
   .rename_i hp;have⟨h1,e1,h2,h3,h4⟩:=ih es (i+1) j u np h;refine⟨by omega,e1,?_,h3,?_⟩
    .grind
    .rw[show j-i=(j-(i+1))+1 by omega];simp[bG,hp,h4,hk,hv]
def oO x:∀(L:List (κ×Value))(i:Nat),yl x L i=none->a_ x L=none:=by grind[yl,a_,QK]
def MS.put(K:KL P k enc ok)(h:MS enc w b L)(ht:P.underlying t=some (.map k e))x v(hx:ok w x)(hL:∀p∈L,ok w p.1):
 ∃o,(jj t (.map<|some b) (enc x) v).run P w=.ok () (setBlock w b o)/\MS enc (setBlock w b o) b (bG x v L):=by
 obtain⟨es,clock,hb,np⟩:=h;have hf:=K.fin x L es.toList w hx hL np;rw[jj];simp only[jv,run_underlying ht,ju,jy hb,K.chk,hf]
 cases ym:yl x L 0 with
 |none=>
  refine⟨.map (es.push {key:=enc x,val:=v,born:=clock})<|clock+1,by rw[ym]at hf;simp[hf,ju];exact jx _ hb,_,_,(heap_setBlock_same hb _),?_⟩;rw[oN x v L<|oO x L 0 ym];simp[np]
 |some p=>
  obtain⟨j,u⟩:=p;have⟨_,e0,h2,h3,h4⟩:=EP (enc:=enc) x v L es.toList 0 j u np ym;have Mz:es[j]? =some e0:=by simpa using h2
  refine⟨.map (es.modify j λe=>{e with key:=enc x,val:=v}) clock,?_,_,_,(heap_setBlock_same hb _),by simpa using h4⟩;rw[ym]at hf;simp[hf,ju,Mz,h3,Instr.keyThatStays,K.bit];exact jx _ hb
end
def KL.str(hk:P.underlying k=some .string):KL P k Value.string (λ_ _=>True) where
 chk b x w:=run_checkKey hk (by simp[IsKey]) b 9999
 bit x:=by simp only[jf];exact(bytes_beq x x).2 rfl
 fin x L es w _ _ np:=by
  refine run_findKey hk ?_
  suffices H:∀(L:List (ByteArray×Value))(es:List MapEntry)(i:Nat),es.map (λe=>(e.key,e.val))=L.map (λp=>(Value.string p.1,p.2))->jd .string (.string x) es i=some (yl x L i)from H L es 0 np
  intro L
  induction L with
  |nil=>intro es i h;simp at h;subst h;rfl|cons p l ih=>
   intro es i h
   cases es with
   |nil=>simp at h|cons e0 es=>
    simp only[jm,List.cons.injEq,Prod.mk.injEq]at h;obtain⟨⟨h1,h2⟩,h3⟩:=h;rw[jd,yl];simp only[h1,ji];by_cases e:p.1=x
    .have:(x==p.1)=true:=(bytes_beq _ _).2 e.symm;rw[if_pos e];simp only[this,h2]
    .have:(x==p.1)=false:=by rw[<-Bool.not_eq_true,bytes_beq];exact λq=>e q.symm
     simp only[e,this,if_false,ih es (i+1) h3]
def KL.num{q:IntKind}(hk:P.underlying k=some (.int q)):KL P k (λn:Int=>Value.int q n) (λ_ _=>True) where
 chk b x w:=run_checkKey hk (by simp[IsKey]) b 9999
 bit x:=by simp[jf]
 fin x L es w _ _ np:=by
  refine run_findKey hk ?_
  suffices H:∀(L:List (Int×Value))(es:List MapEntry)(i:Nat),es.map (λe=>(e.key,e.val))=L.map (λp=>(Value.int q p.1,p.2))->jd (.int q) (.int q x) es i=some (yl x L i)from H L es 0 np
  intro L
  induction L with
  |nil=>intro es i h;simp at h;subst h;rfl|cons p l ih=>
   intro es i h
   cases es with
   |nil=>simp at h|cons e0 es=>
    simp only[jm,List.cons.injEq,Prod.mk.injEq]at h;obtain⟨⟨h1,h2⟩,h3⟩:=h;rw[jd,yl];simp only[h1,ji];by_cases e:p.1=x
    .simp[e,h2]
    .grind
def KL.ptr{el:TypeId}{j:TypeInfo}(hk:P.underlying k=some (.pointer el))(hi:P.info? el=some j)(gL:j.size≠0):
 KL P k (λb:Nat=>Value.pointer<|some ⟨b,0,none⟩) (λw b=>∃c t,w.heap[b]? =some (.cells c t (0,0))) where
 chk b x w:=by
  rw[Instr.checkKey];simp only[jv,run_underlying hk,ju];rfl
 bit x:=by simp[jf]
 fin x L es w hx hL np:=by
  have ald:∀(es:List MapEntry)(i:Nat),es≠[]->jd (.pointer el) (.pointer<|some ⟨x,0,none⟩) es i=none:=by
   intro es i h
   cases es with
   |nil=>exact absurd rfl h|cons e0 es=>simp[jd,ji]
  rw[jk];simp only[jv,run_underlying hk,ju]
  cases es with
  |nil=>
   cases L with
   |nil=>simp[jd,yl]|cons p l=>simp at np
  |cons e0 es0=>
   rw[ald _ 0<|by simp];revert np;generalize(e0::es0)=es;intro np
   suffices H:∀(L:List (Nat×Value))(es:List MapEntry)(i:Nat),(∀p∈L,∃c t,w.heap[p.1]? =some (.cells c t (0,0)))->es.map (λe=>(e.key,e.val))=L.map (λp=>(Value.pointer<|some ⟨p.1,0,none⟩,p.2))->(Instr.findAsking k (.pointer<|some ⟨x,0,none⟩) es i).run P w=.ok (yl x L i) w from H L es 0 hL np
   intro L
   induction L with
   |nil=>intro es i _ h;simp at h;subst h;rfl|cons p l ih=>
    intro es i hL h
    cases es with
    |nil=>simp at h|cons e0 es=>
     simp only[jm,List.cons.injEq,Prod.mk.injEq]at h;obtain⟨⟨h1,h2⟩,h3⟩:=h;rw[Instr.findAsking,yl];have heq:(Op.equal k (.pointer<|some ⟨x,0,none⟩) e0.key).run P w=.ok (decide (p.1=x)) w:=by
      rw[h1];rw[Op.equal,Op.maxDepth,Op.equalIn];simp only[jv,run_underlying hk,ju,sizeOf,typeInfo,hi];obtain⟨c1,t1,hc1⟩:=hx;have⟨c2,t2,UE⟩:=hL p (by simp);by_cases e:p.1=x
      .simp[e,gL,run_sameAddr_same,hi]
      .simp[e,gL,hi,run_sameAddr_other w (a:=⟨x,0,none⟩) (b:=⟨p.1,0,none⟩) (by intro q;injection q with q;exact e q.symm) hc1 UE]
     simp only[jv,heq,ju];by_cases e:p.1=x
     .simp[e,h2]
     .grind
end
namespace Un
inductive dH{α β:Type}(E:α->β->Prop):List α->List β->Prop where
 |nil:dH E [] []
 |cons{x:α}{y:β}{l:List α}{k:List β}:E x y->dH E l k->dH E (x::l) (y::k)
abbrev xG:=Nat->Option (ByteArray×List Nat)
abbrev Nx:=Nat->Option Nat
structure mX(str:xG)(nx:Nx)(V:Nat->Ty):Prop where
 made:∀n c l,str n=some (c,l)->V n=.aM c (l.map V)
 bD:∀n m,nx n=some m->V n=V m
structure Eq(nx:Nx)(P:List (Nat×Nat))(E:Nat->Nat->Prop):Prop where
 refl:∀n,E n n
 symm:∀m n,E m n->E n m
 trans:∀k m n,E k m->E m n->E k n
 bD:∀n m,nx n=some m->E n m
 Ym:∀m n,(m,n)∈P->E m n
def vW(str:xG)nx P:=
 ∀E,Eq nx P E->∀n m c l,nx n=some m->str n=some (c,l)->∃l',str m=some (c,l')/\dH E l l'
def vW.start str P:vW str (λ_=>none) P:=by grind[vW]
def sL{E:Nat->Nat->Prop}(h:∀n,E n n):∀l,dH E l l
 |[]=>.nil|x::l=>.cons (h x)<|sL h l
def lN{E:Nat->Nat->Prop}(h:∀k m n,E k m->E m n->E k n):∀{a b c:List Nat},dH E a b->dH E b c->dH E a c
 |[],_,_,.nil,.nil=>.nil|_::_,_,_,.cons p q,.cons r s=>.cons (h _ _ _ p r)<|lN h q s
def vX{E:Nat->Nat->Prop}:∀{a b:List Nat},a.length=b.length->(∀x y,(x,y)∈a.zip b->E x y)->dH E a b
 |[],[],_,_=>.nil|x::a,y::b,h,k=>.cons (k x y<|by simp) (vX (by simpa using h) λx' y' h'=>k x' y'<|by simp[h'])
def vY{E:Nat->Nat->Prop}{V:Nat->Ty}(h:∀m n,E m n->V m=V n):∀{a b:List Nat},dH E a b->a.map V=b.map V
 |[],_,.nil=>rfl|_::_,_,.cons p q=>by simp[h _ _ p,vY h q]
section
variable {str:xG} {nx:Nx} {P:List (Nat×Nat)}
def mX.join(ha:nx a=none){V:Nat->Ty}:mX str (eu nx a<|some b) V↔mX str nx V/\V a=V b:=by
 constructor
 .intro h;refine⟨⟨h.made,λn m e=>?_⟩,h.bD a b<|by simp[eu]⟩;by_cases k:n=a
  .grind
  .exact h.bD n m (by simpa[eu,k]using e)
 .rintro⟨h,e⟩;refine⟨h.made,λn m k=>?_⟩;by_cases j:n=a
  .subst j;simp[eu]at k;subst k;exact e
  .exact h.bD n m (by simpa[eu,j]using k)
def Eq.jB(ha:nx a=none)(h:Eq (eu nx a<|some b) P E):Eq nx P E/\E a b:=by
 refine⟨⟨h.refl,h.symm,h.trans,λn m e=>h.bD n m ?_,h.Ym⟩,h.bD a b<|by simp[eu]⟩;by_cases k:n=a
 .grind
 .simpa[eu,k]using e
def vW.var(h:vW str nx P)(ha:nx a=none)(hs:str a=none):vW str (eu nx a<|some b) P:=by
 intro E hE n m c l e1 e2;by_cases k:n=a
 .grind
 .exact h E (hE.jB ha).1 n m c l (by simpa[eu,k]using e1) e2
def vW.aM{l l':List Nat}(h:vW str nx P)(ha:nx a=none)(hs:str a=some (c,l))(kY:str b=some (c,l'))(hl:l.length=l'.length):
 vW str (eu nx a<|some b) (l.zip l'++P):=by
 intro E hE n m c' k e1 e2;have h1:=(hE.jB ha).1;by_cases j:n=a
 .subst j;simp[eu]at e1;subst e1;rw[hs]at e2;injection e2 with e2;injection e2 with e2 e3;subst e2;subst e3;exact⟨l',kY,vX hl λx y hx=>hE.Ym x y<|List.mem_append_left _ hx⟩
 .exact h E ⟨h1.refl,h1.symm,h1.trans,h1.bD,λm n k=>hE.Ym m n<|List.mem_append_right _ k⟩ n m c' k (by simpa[eu,j]using e1) e2
def Rr{p:Prop}(h:p:=by
 exact h.bD x y<|by simpa[eu,j]using e):p:=h
def mX.short{k:Nat}(h1:nx n=some m)(h2:nx m=some k)(cV:n≠m){V:Nat->Ty}:mX str (eu nx n<|some k) V↔mX str nx V:=by
 constructor
 .intro h;have hm:=h.bD m k (by simp[eu,Ne.symm cV,h2]);have hn:=h.bD n k (by simp[eu]);refine⟨h.made,λx y e=>?_⟩;by_cases j:x=n
  .grind
  .exact Rr
 .intro h;refine⟨h.made,λx y e=>?_⟩;by_cases j:x=n
  .subst j;simp[eu]at e;subst e;rw[h.bD x m h1,h.bD m _ h2]
  .exact Rr
def Eq.IF{k:Nat}(h1:nx n=some m)(h2:nx m=some k)(cV:n≠m)(h:Eq (eu nx n<|some k) P E):Eq nx P E:=by
 refine⟨h.refl,h.symm,h.trans,λx y e=>?_,h.Ym⟩;by_cases j:x=n
 .subst j;rw[h1]at e;injection e with e;subst e;exact h.trans _ k _ (h.bD _ k<|by simp[eu]) (h.symm _ _<|h.bD _ k<|by simp[eu,Ne.symm cV,h2])
 .exact Rr
def vW.short{k:Nat}(h:vW str nx P)(h1:nx n=some m)(h2:nx m=some k)(cV:n≠m):vW str (eu nx n<|some k) P:=by
 intro E hE x y c l e1 e2;have hE':=hE.IF h1 h2 cV;by_cases j:x=n
 .subst j;simp[eu]at e1;subst e1;have⟨l1,a1,a2⟩:=h E hE' x m c l h1 e2;have⟨l2,b1,b2⟩:=h E hE' m _ c l1 h2 a1;exact⟨l2,b1,lN hE.trans a2 b2⟩
 .exact h E hE' x y c l (by simpa[eu,j]using e1) e2
def vW.ak_{Q}(h:vW str nx (Q++P))(k:∀E,Eq nx P E->∀m n,(m,n)∈Q->E m n):vW str nx P:=by
 intro E hE
 exact h E ⟨hE.refl,hE.symm,hE.trans,hE.bD,λm n hm=>by
  cases List.mem_append.1 hm with
  |inl a=>exact k E hE m n a|inr a=>exact hE.Ym m n a⟩
end
inductive Hd(nx:Nx):Nat->Nat->Prop where
 |here{n:Nat}:nx n=none->Hd nx n n
 |step{n m h:Nat}:nx n=some m->Hd nx m h->Hd nx n h
def Hd.head{nx}(k:Hd nx n h):nx h=none:=by
 induction k with
 |here e=>exact e|step _ _ ih=>exact ih
def Hd.one{nx}{n h h':Nat}(k:Hd nx n h)(j:Hd nx n h'):h=h':=by
 induction k with
 |here e=>cases j with
  |here=>rfl|step e' _=>grind
 |step e _ ih=>cases j with
  |here e'=>grind|step e' j=>grind
def Hd.nW{str}{nx}{V:Nat->Ty}(s:mX str nx V)(k:Hd nx n h):V n=V h:=by
 induction k with
 |here=>rfl|step e _ ih=>rw[s.bD _ _ e,ih]
def Hd.eq{nx}{P:List (Nat×Nat)}(s:Eq nx P E)(k:Hd nx n h):E n h:=by
 induction k with
 |here=>exact s.refl _|step e _ ih=>exact s.trans _ _ _ (s.bD _ _ e) ih
def Hd.sM{nx}(k:Hd nx n h)(e:nx n=some m):Hd nx m h:=by
 cases k with
 |here e'=>grind|step e' k=>grind
def Hd.short{nx}{k:Nat}(h1:nx n=some m)(h2:nx m=some k)(j:Hd nx x h):Hd (eu nx n<|some k) x h:=by
 induction j with
 | @here x e=>
   have:x≠n:=λe'=>by subst e';rw[h1]at e;simp at e
   exact .here (by simpa[eu,this]using e)
 | @step x y h e j ih=>
   by_cases c:x=n
   .subst c;rw[h1]at e;injection e with e;subst e;by_cases c2:m=x
    .subst c2;exact ih
    .exact .step (m:=k) (by simp[eu]) (ih.sM<|by simp[eu,c2,h2])
   .exact .step (m:=y) (by simpa[eu,c]using e) ih
def Hd.join{nx}(ha:nx a=none)(hb:nx b=none)(cV:a≠b)(j:Hd nx x h):Hd (eu nx a<|some b) x (if h=a then b else h):=by
 induction j with
 | @here x e=>
   by_cases c:x=a
   .subst c;simp;exact .step (m:=b) (by simp[eu]) (.here<|by simp[eu,Ne.symm cV,hb])
   .simp[c];exact .here (by simpa[eu,c]using e)
 | @step x y h e j ih=>
   have c:x≠a:=λc=>by subst c;rw[ha]at e;simp at e
   exact .step (m:=y) (by simpa[eu,c]using e) ih
def y_ nx m n:=m=n\/∃h,Hd nx m h/\Hd nx n h
def y_.is{nx}(t:∀n m,nx n=some m->∃h,Hd nx n h):Eq nx [] (y_ nx):=by
 refine⟨λn=>jc rfl,?_,?_,?_,λ_ _ h=>by simp at h⟩
 .rintro m n(h|⟨h,a,b⟩)
  .exact jc h.symm
  .exact ja ⟨h,b,a⟩
 .rintro k m n(rfl|⟨h,a,b⟩)
  .exact id
  .rintro(rfl|⟨h',a',b'⟩)
   .exact ja ⟨h,a,b⟩
   .have:=b.one a';subst this;exact ja ⟨h,a,b'⟩
 .intro n m e;have⟨h,hh⟩:=t n m e;exact ja ⟨h,hh,hh.sM e⟩
def Fin(str:xG)nx(vr:Nat->Nat)(F:Nat->Prop)(V:Nat->Ty):=
 ∀h,F h->nx h=none/\match str h with
  |none=>V h=.var (vr h)|some (c,l)=>∃hs,dH (Hd nx) l hs/\(∀x,x∈hs->F x)/\V h=.aM c (hs.map V)
def ni{V:Nat->Ty}:∀{l:List Nat}{x},x∈l->size (V x)<=ak (l.map V)
 |_,_,h=>y9<|List.mem_map.2 ⟨_,h,rfl⟩
structure Of(str:xG)(vr:Nat->Nat)(D:Nat->Prop)(ty:Nat->Ty):Prop where
 var:∀n,D n->str n=none->ty n=.var (vr n)
 aM:∀n c l,str n=some (c,l)->D n/\ty n=.aM c (l.map ty)/\∀x,x∈l->D x
 one:∀m n,D m->D n->str m=none->str n=none->vr m=vr n->m=n
def eC{V W:Nat->Ty}:∀{l:List Nat},(∀x,x∈l->V x=W x)->l.map V=l.map W
 |[],_=>rfl|x::l,h=>by
   have k:=eC (V:=V) (W:=W) (l:=l) λy hy=>h y<|jp _ hy;simp[h x<|by simp,k]
def jU σ V(l:List Nat):aT σ (l.map V)=l.map λx=>sub σ<|V x:=by
 rw[iC,List.map_map];rfl
end Un
abbrev yn A z:=∀(I D:TypeId)(x:Value)(w:World),D≠A->(jh (.iface D x) I A true).run Tryz.prog w=.ok (.tuple #[.agg z,.bool false]) w
abbrev Bz A:=∀(I:TypeId)(x:Array Value)(w:World),(jh (.iface A<|.agg x) I A true).run Tryz.prog w=.ok (.tuple #[.agg x,.bool true]) w
def fq{A}{z}(hz:∀w,(zeroValue A).run Tryz.prog w=.ok (.agg z) w)(hu:∀w,∃u,(underlying A).run Tryz.prog w=.ok u w/\∀m,u≠.interface m):yn A z:=λI D x w h=>by
 have⟨u,hu,hi⟩:=hu w;rw[jh];simp[go_sem,hu,hz,h]
@[simp] theorem ale:yn 260 #[.int .i64 0,.int .i64 0]:=fq (λw=>by kernel_rfl) λw=>⟨_,rfl,λm q=>by cases q⟩
@[simp] theorem alf:Bz 260:=λI x w=>by kernel_rfl
@[simp] theorem ai3:yn 192 #[.int .i64 0,.int .i64 0,.nilIface,.nilIface]:=fq (λw=>by kernel_rfl) λw=>⟨_,rfl,λm q=>by cases q⟩
@[simp] theorem ai4:Bz 192:=λI x w=>by kernel_rfl
@[simp] theorem aix:yn 236 #[.int .i64 0,.int .i64 0,.string ⟨#[]⟩,.nilIface,.nilIface]:=fq (λw=>by kernel_rfl) λw=>⟨_,rfl,λm q=>by cases q⟩
@[simp] theorem aiy:Bz 236:=λI x w=>by kernel_rfl
@[simp] theorem QL:yn 204 #[.int .i64 0,.int .i64 0,.bool false]:=fq (λw=>by kernel_rfl) λw=>⟨_,rfl,λm q=>by cases q⟩
@[simp] theorem akW:Bz 204:=λI x w=>by kernel_rfl
@[simp] theorem QM:yn 238 #[.int .i64 0,.int .i64 0,.nilIface,.nilIface]:=fq (λw=>by kernel_rfl) λw=>⟨_,rfl,λm q=>by cases q⟩
@[simp] theorem akX:Bz 238:=λI x w=>by kernel_rfl
@[simp] theorem alg:yn 226 #[.int .i64 0,.int .i64 0,.int .i64 0,.int .i64 0,.string ⟨#[]⟩,.nilIface]:=fq (λw=>by kernel_rfl) λw=>⟨_,rfl,λm q=>by cases q⟩
@[simp] theorem alh:Bz 226:=λI x w=>by kernel_rfl
@[simp] theorem amp:yn 230 #[.int .i64 0,.int .i64 0,.nilIface,.nilIface,.nilIface]:=fq (λw=>by kernel_rfl) λw=>⟨_,rfl,λm q=>by cases q⟩
@[simp] theorem amq:Bz 230:=λI x w=>by kernel_rfl
@[simp] theorem ali:yn 228 #[.int .i64 0,.int .i64 0,.bool false,.int .i64 0,.int .i64 0,.string ⟨#[]⟩,.nilIface,.nilIface]:=fq (λw=>by kernel_rfl) λw=>⟨_,rfl,λm q=>by cases q⟩
@[simp] theorem alj:Bz 228:=λI x w=>by kernel_rfl
@[simp] theorem agy:Bz 85:=λI x w=>by kernel_rfl
@[simp] theorem YV:yn 198 #[.int .i64 0,.int .i64 0,.string ⟨#[]⟩]:=fq (λw=>by kernel_rfl) λw=>⟨_,rfl,λm q=>by cases q⟩
@[simp] theorem alk:Bz 198:=λI x w=>by kernel_rfl
@[simp] theorem akY:yn 263 #[.int .i64 0,.int .i64 0,.int .i64 0,.int .i64 0,.string ⟨#[]⟩,.slice none 0 0]:=fq (λw=>by kernel_rfl) λw=>⟨_,rfl,λm q=>by cases q⟩
@[simp] theorem akZ:Bz 263:=λI x w=>by kernel_rfl
@[simp] theorem ai5:yn 233 #[.int .i64 0,.int .i64 0,.nilIface,.slice none 0 0]:=fq (λw=>by kernel_rfl) λw=>⟨_,rfl,λm q=>by cases q⟩
@[simp] theorem ai6:Bz 233:=λI x w=>by kernel_rfl
@[simp] theorem ai7:yn 194 #[.int .i64 0,.int .i64 0,.int .i64 0,.int .i64 0,.string ⟨#[]⟩,.slice none 0 0]:=fq (λw=>by kernel_rfl) λw=>⟨_,rfl,λm q=>by cases q⟩
@[simp] theorem ai8:Bz 194:=λI x w=>by kernel_rfl
@[simp] theorem uG:yn 201 #[.int .i64 0,.int .i64 0,.int .i64 0]:=fq (λw=>by kernel_rfl) λw=>⟨_,rfl,λm q=>by cases q⟩
@[simp] theorem aiz:Bz 201:=λI x w=>by kernel_rfl
@[simp] theorem ak0:yn 221 #[.int .i64 0,.int .i64 0,.nilIface,.nilIface]:=fq (λw=>by kernel_rfl) λw=>⟨_,rfl,λm q=>by cases q⟩
@[simp] theorem ak1:Bz 221:=λI x w=>by kernel_rfl
@[simp] theorem YW:yn 265 #[.int .i64 0,.int .i64 0,.nilIface,.nilIface]:=fq (λw=>by kernel_rfl) λw=>⟨_,rfl,λm q=>by cases q⟩
@[simp] theorem YX:Bz 265:=λI x w=>by kernel_rfl
@[simp] theorem ae7:yn 78 #[.int .i64 0,.int .i64 0,.int .i64 0,.int .i64 0,.string ⟨#[]⟩,.slice none 0 0,.slice none 0 0]:=fq (λw=>by kernel_rfl) λw=>⟨_,rfl,λm q=>by cases q⟩
@[simp] theorem ae8:Bz 78:=λI x w=>by kernel_rfl
@[simp] theorem ae9:yn 196 #[.int .i64 0,.int .i64 0,.nilIface,.nilIface]:=fq (λw=>by kernel_rfl) λw=>⟨_,rfl,λm q=>by cases q⟩
@[simp] theorem ae_:Bz 196:=λI x w=>by kernel_rfl
@[simp] theorem agz:yn 162 #[.int .i64 0,.int .i64 0,.string ⟨#[]⟩]:=fq (λw=>by kernel_rfl) λw=>⟨_,rfl,λm q=>by cases q⟩
@[simp] theorem agA:Bz 162:=λI x w=>by kernel_rfl
@[simp] theorem ai9:yn 224 #[.int .i64 0,.int .i64 0,.nilIface,.nilIface]:=fq (λw=>by kernel_rfl) λw=>⟨_,rfl,λm q=>by cases q⟩
@[simp] theorem ai_:Bz 224:=λI x w=>by kernel_rfl
@[simp] theorem QN:yn 259 #[.int .i64 0,.int .i64 0]:=fq (λw=>by kernel_rfl) λw=>⟨_,rfl,λm q=>by cases q⟩
@[simp] theorem ak2:Bz 259:=λI x w=>by kernel_rfl
@[simp] theorem YY:yn 219 #[.int .i64 0,.int .i64 0,.string ⟨#[]⟩]:=fq (λw=>by kernel_rfl) λw=>⟨_,rfl,λm q=>by cases q⟩
@[simp] theorem amr:Bz 219:=λI x w=>by kernel_rfl
namespace Un
def sk:ByteArray:=⟨#[116,111,111,32,108,97,114,103,101]⟩
mutual
def sz:Ty->Nat
 |.var _=>1|.aM c l=>if c=sk then 49 else 1+rC l
def rC:List Ty->Nat
 |[]=>0|t::l=>sz t+rC l
end
mutual
def Whole:Ty->Prop
 |.var _=>True|.aM c l=>c≠sk/\p9 l
def p9:List Ty->Prop
 |[]=>True|t::l=>Whole t/\p9 l
end
mutual
theorem oG:∀t,Whole t->sz t=size t
 |.var n,_=>by simp[sz,size]|.aM c l,h=>by simp only[sz,size];rw[if_neg h.1,CV l h.2]
theorem CV:∀l,p9 l->rC l=ak l
 |[],_=>by simp[rC,ak]|t::l,h=>by simp only[rC,ak];rw[oG t h.1,CV l h.2]
end
mutual
def aeX:∀t,sz t<=49*size t
 |.var n=>by simp[sz,size]|.aM c l=>by
  have:=Nq l;simp only[sz,size];split<;>omega
def Nq:∀l,rC l<=49*ak l
 |[]=>by simp[rC,ak]|t::l=>by have:=aeX t;have:=Nq l;simp only[rC,ak];omega
end
mutual
def ck{σ:Nat->Ty}:∀t,Whole t->(∀n,aw n t->Whole (σ n))->Whole (sub σ t)
 |.var n,_,k=>k n rfl|.aM c l,h,k=>⟨h.1,zC l h.2 λn hn=>k n hn⟩
def zC{σ:Nat->Ty}:∀l,p9 l->(∀n,bW n l->Whole (σ n))->p9 (aT σ l)
 |[],_,_=>trivial|t::l,h,k=>⟨ck t h.1 λn hn=>k n<|jc hn,zC l h.2 λn hn=>k n<|ja hn⟩
end
mutual
theorem II:∀t,sz t<=48->Whole t
 |.var n,_=>trivial|.aM c l,h=>by
  by_cases e:c=sk
  .simp only[sz]at h;rw[if_pos e]at h;omega
  .simp only[sz]at h;rw[if_neg e]at h;exact⟨e,CW l<|by omega⟩
theorem CW:∀l,rC l<=48->p9 l
 |[],_=>trivial|t::l,h=>by simp only[rC]at h;exact⟨II t<|by omega,CW l<|by omega⟩
end
def agh t:1<=sz t:=by
 cases t with
 |var n=>simp[sz]|aM c l=>simp only[sz];split<;>omega
mutual
def Yn(σ:Nat->Ty):∀t,sz t<=sz (sub σ t)
 |.var n=>by simpa[sub,sz]using agh (σ n)|.aM c l=>by
  have:=Qk σ l;simp only[sub,sz];split<;>omega
def Qk(σ:Nat->Ty):∀l,rC l<=rC (aT σ l)
 |[]=>by simp[aT,rC]|t::l=>by have:=Yn σ t;have:=Qk σ l;simp only[aT,rC];omega
end
mutual
def IJ(σ:Nat->Ty):∀t,size t<=size (sub σ t)
 |.var n=>by simpa[sub,size]using size_pos (σ n)|.aM c l=>by have:=CX σ l;simp only[sub,size];omega
def CX(σ:Nat->Ty):∀l,ak l<=ak (aT σ l)
 |[]=>by simp[aT,ak]|t::l=>by have:=IJ σ t;have:=CX σ l;simp only[aT,ak];omega
end
mutual
def iD(σ:Nat->Ty)(C:Nat):∀t,(∀n,aw n t->size (σ n)<=C)->1<=C->size (sub σ t)<=C*size t
 |.var n,h,_=>by simpa[sub,size]using h n rfl|.aM c l,h,hC=>by
  have:=sN σ C l (λn hn=>h n hn) hC;simp only[sub,size,Nat.mul_add,j5];omega
def sN(σ:Nat->Ty)(C:Nat):∀l,(∀n,bW n l->size (σ n)<=C)->1<=C->ak (aT σ l)<=C*ak l
 |[],_,_=>by simp[aT,ak]|t::l,h,hC=>by
  have:=iD σ C t (λn hn=>h n<|jc hn) hC;have:=sN σ C l (λn hn=>h n<|ja hn) hC;simp only[aT,ak,Nat.mul_add];omega
end
mutual
def Yo(σ:Nat->Ty)(v:Nat):∀t,aw v t->sz (σ v)<=sz (sub σ t)\/48<sz (sub σ t)
 |.var n,h=>by simp[aw]at h;subst h;simp[sub]|.aM c l,h=>by
  simp only[sub,sz];split
  .exact ja (by omega)
  .obtain q|q:=Ql σ v l h
   .exact jc (by omega)
   .exact ja (by omega)
def Ql(σ:Nat->Ty)(v:Nat):∀l,bW v l->sz (σ v)<=rC (aT σ l)\/48<rC (aT σ l)
 |[],h=>by simp[bW]at h|t::l,h=>by
  simp only[aT,rC];obtain a|a:=h
  .obtain q|q:=Yo σ v t a
   .exact jc (by omega)
   .exact ja (by omega)
  .obtain q|q:=Ql σ v l a
   .exact jc (by omega)
   .exact ja (by omega)
end
mutual
def mq{n:Nat}{σ:Nat->Ty}:∀t,aw n (sub σ t)↔∃m,aw m t/\aw n (σ m)
 |.var m=>by simp[sub,aw]|.aM c l=>by simp[sub,aw,CY l]
def CY{n:Nat}{σ:Nat->Ty}:∀l,bW n (aT σ l)↔∃m,bW m l/\aw n (σ m)
 |[]=>by simp[aT,bW]|t::l=>by
  simp only[aT,bW,mq t,CY l];constructor
  .rintro(⟨m,a,b⟩|⟨m,a,b⟩)
   .exact⟨m,jc a,b⟩
   .exact⟨m,ja a,b⟩
  .rintro⟨m,a|a,b⟩
   .exact jc ⟨m,a,b⟩
   .exact ja ⟨m,a,b⟩
end
def IK{a}(h:v∈a):seen a v=a:=by simp[seen,h]
mutual
def zE:∀(t:Ty)(a:List Nat),(∀n,aw n t->n∈a)->vars a t=a
 |.var n,a,h=>IK (h n rfl)|.aM c l,a,h=>by simpa[vars]using C5 l a λn hn=>h n hn
def C5:∀(l:List Ty)(a:List Nat),(∀n,bW n l->n∈a)->bh a l=a
 |[],a,_=>rfl|t::l,a,h=>by
  simp only[bh];rw[zE t a λn hn=>h n<|jc hn];exact C5 l a λn hn=>h n<|ja hn
end
def sP(σ:Nat->Ty)a(l:List Nat):=l.foldl (λa v=>vars a<|σ v) a
def IL{σ:Nat->Ty}{n:Nat}:∀(l:List Nat)(a:List Nat),n∈sP σ a l↔n∈a\/∃v,v∈l/\aw n (σ v)
 |[],a=>by simp[sP]|v::l,a=>by
  have:=IL (σ:=σ) (n:=n) l<|vars a<|σ v;simp only[sP,jo]at this⊢;rw[this,bP];constructor
  .rintro((h|h)|⟨x,h1,h2⟩)
   .exact jc h
   .exact ja ⟨v,by simp,h⟩
   .exact ja ⟨x,by simp[h1],h2⟩
  .rintro(h|⟨x,h1,h2⟩)
   .exact jc (jc h)
   .obtain e|e:=List.mem_cons.1 h1
    .subst e;exact jc<|ja h2
    .exact ja ⟨x,e,h2⟩
mutual
def Sy(σ:Nat->Ty)(b:List Nat):∀(t:Ty)(a:List Nat),vars (sP σ b a) (sub σ t)=sP σ b (vars a t)
 |.var n,a=>by
  simp only[sub,vars,seen];split
  .rename_i h;exact zE _ _ λm hm=>(IL a b).2<|ja ⟨n,h,hm⟩
  .simp[sP,List.foldl_append]
 |.aM c l,a=>by simpa[sub,vars]using C6 σ b l a
def C6(σ:Nat->Ty)(b:List Nat):∀(l:List Ty)(a:List Nat),bh (sP σ b a) (aT σ l)=sP σ b (bh a l)
 |[],a=>by simp[aT,bh]|t::l,a=>by
  simp only[aT,bh];rw[Sy σ b t a];exact C6 σ b l<|vars a t
end
def uC σ a t:vars a (sub σ t)=sP σ a (vars [] t):=by simpa[sP]using Sy σ a t []
def zG{σ τ:Nat->Ty}:∀(l a:List Nat),(∀v,v∈l->∀a,vars a (σ v)=vars a (τ v))->sP σ a l=sP τ a l
 |[],a,_=>rfl|v::l,a,h=>by
  have:=zG (σ:=σ) (τ:=τ) l (vars a<|τ v) λx hx=>h x (by simp[hx]);simp only[sP,jo]at this⊢;rw[h v (by simp) a];exact this
theorem Yp t a:vars a t=sP Ty.var a (vars [] t):=by simpa[cK]using uC Ty.var a t
def dR t' t:=t'=t\/(48<sz t'/\48<size t/\vars [] t'=vars [] t)
def dR.refl t:dR t t:=jc rfl
theorem dR.vars{t' t}(h:dR t' t)a:vars a t'=vars a t:=by grind[dR,vars,Yp]
def dR.aeY{t' t:Ty}(h:dR t' t)(hw:Whole t):48<sz t'↔48<size t:=by grind[dR,Whole,sz,size,oG]
theorem dR.sub{t' t}{σ' σ}(h:dR t' t)(hs:∀n,aw n t->dR (σ' n) (σ n)):dR (sub σ' t') (sub σ t):=by
 have hv:Un.vars [] (Un.sub σ' t')=Un.vars [] (Un.sub σ t):=by
  rw[uC σ' [] t',uC σ [] t,h.vars];refine zG _ _ λv hv a=>(hs v ?_).vars a;simpa using(bP t [] v).1 hv
 obtain rfl|⟨h1,h2,_⟩:=h
 .by_cases Uj:∀n,aw n t'->σ' n=σ n
  .exact jc (sub_congr t' Uj)
  .have:∃n,aw n t'/\σ' n≠σ n:=by grind
   obtain⟨n,hn,he⟩:=this;obtain e|⟨e1,e2,_⟩:=hs n hn
   .exact absurd e he
   .refine ja ⟨?_,jz e2<|ID σ n t' hn,hv⟩;obtain q|q:=Yo σ' n t' hn<;>omega
 .exact ja ⟨jz h1<|Yn σ' t',jz h2<|IJ σ t,hv⟩
def bL t:=if sz t<=48 then t else .aM sk ((vars [] t).map Ty.var)
theorem C7:∀(l a:List Nat),bh a (l.map Ty.var)=l.foldl seen a
 |[],a=>rfl|v::l,a=>by simp only[jm,bh,jo,vars];exact C7 l<|seen a v
theorem zH:∀(l a:List Nat),l.Nodup->(∀v,v∈l->v∉a)->l.foldl seen a=a++l
 |[],a,_,_=>by simp|v::l,a,h,k=>by
  have e:seen a v=a++[v]:=by simp[seen,k v<|by simp]
  rw[jo,e,zH l (a++[v]) (List.nodup_cons.1 h).2 ?_]
  .simp
  .grind
def gZ t:vars [] (bL t)=vars [] t:=by grind[vars,bL,C7,zH,dF]
def dR.cut{t' t:Ty}(h:dR t' t)(hw:Whole t):dR (bL t') t:=by
 by_cases e:sz t'<=48
 .rw[bL];rw[if_pos e];exact h
 .refine ja ⟨by rw[bL];rw[if_neg e];simp[sz],(h.aeY hw).1<|by omega,?_⟩;rw[gZ];exact h.vars []
def Ux{t:Ty}{C}(h:(vars [] t).length<=C)(hC:48<=C)(hw:sz t<=48->size t<=48):size (bL t)<=1+C:=by
 rw[bL];split
 .rename_i q;have:=hw q;omega
 .simp only[size];have:∀l:List Nat,ak (l.map Ty.var)=l.length:=λl=>by
   induction l with
   |nil=>rfl|cons x l ih=>simp only[jm,ak,size,ih,List.length_cons];omega
  rw[this];omega
def Nr{t:Ty}(h:sz t<=48):size t<=48:=by grind[sz,size,oG,II]
def TU{p:Prop}(h:p:=by
 refine ja ⟨?_,?_,hv⟩
 .simp only[sz];rw[if_neg hc];simp only[rC];omega
 .simp only[size,ak];omega):p:=h
def dR.af2 c(hc:c≠sk){a' a b' b}(ha:dR a' a)(hb:dR b' b):dR (.aM c [a',b']) (.aM c [a,b]):=by
 have hv:Un.vars [] (.aM c [a',b'])=Un.vars [] (.aM c [a,b]):=by
  simp only[Un.vars,bh];rw[ha.vars,hb.vars]
 obtain rfl|⟨a1,a2,_⟩:=ha
 .obtain rfl|⟨b1,b2,_⟩:=hb
  .exact jc rfl
  .exact TU
 .exact TU
end Un
def fJ{a b}(h:a=true)(k:b=true):(a&&b)=true:=by rw[h,k];rfl
def Et:(laidOutB Tryz.prog)=true:=by kernel_rfl
def Qn:(mapsRowed Tryz.prog)=true:=by kernel_rfl
def cp6:((Tryz.prog.stops==[]))=true:=by kernel_rfl
def cp8:((Tryz.prog.stopKnobs==[]))=true:=by kernel_rfl
def ala:(Tryz.prog.stopsHeard)=true:=by kernel_rfl
def alb:(Tryz.prog.mayEnter)=true:=by kernel_rfl
def UF:Tryz.pinned.checked.prog.mainIs=some (Rows.renamedCard.stood.harness.1,Rows.renamedCard.stood.harness.2.toList):=by kernel_rfl
def NT:true=Tryz.prog.looks []:=by kernel_rfl
end Go.Proofs.YtnldmeakhapdhaaGreatDoor
