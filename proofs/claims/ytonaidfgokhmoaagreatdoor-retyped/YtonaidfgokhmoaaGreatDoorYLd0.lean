import Derived.Deep.Slices
import Derived.OpenShut
import Derived.ProofKit
import Derived.SevenTiedAt
import Derived.Test.YtonaidfgokhmoaaGreatDoorCards
import Derived.Test.YtonaidfgokhmoaaGreatDoorProg
import Derived.WalkLawsBesides
import Derived.WalkSpells
set_option linter.all false
set_option maxRecDepth 100000
set_option maxHeartbeats 200000
namespace Go.Proofs.YtonaidfgokhmoaaGreatDoor
open Go renaming Value->aa
open _root_.Option renaming some->ca,none->ea
open Or renaming inr->ja,inl->jc
open Go.Instr renaming findNow->jd,sameBits->jf,typeAssert->jh,sameNow->ji,mapUpdate->jj,findKey->jk,lookup->jl
open _root_.List renaming map_cons->jm,foldl_cons->jo,mem_cons_of_mem->jp,getElem?_eq_getElem->jq,idxOf_cons->jt
open Go.Result renaming andThen->ju
open Go.Sem renaming run_bind->jv
open Go.MapKept renaming run_setObj_map->jx,run_getObj_map->jy
open _root_.Nat renaming lt_of_lt_of_le->jz,mul_one->j3
open Go
variable {c d:ByteArray} {xs:List aa} {a b base h m n v x:Nat} {rk ρ:Nat->Nat} {E:Nat->Nat->Prop} {P:Program} {κ:Type} {e k t:TypeId} {w w':World}
section
open Go.ChangeShapes Go.WideShapes Go.RowKit Go.Deep
section
variable {H:Type} {enc:TypeId×aa->H} {spare:Nat->Bool} {held:Bool}
def L_{s t:ByteArray}(h:s.data.toList=t.data.toList):s=t:=by
 cases s;cases t
 simp at h;simp[h]
def yG{fuel}{cs}{p}(L:List ByteArray)(C:P.underlying t=ca (.array n e))(D:P.underlying e=ca .string)(hc:P.cellsOf e=1)(h:DataW.trod enc P w base spare held fuel t cs=ca (.agg<|L.map λs=>.lit<|.string s.data.toList,p)):∀j,j<n->cs[j]? =ca (.string<|L.getD j ⟨#[]⟩):=by
 intro j r;have⟨xs,m,_,i,hl,hn,g⟩:=DataW.trod_array C h;simp only[Prod.mk.injEq,DataW.agg.injEq]at i;have o:=g j r;rw[hc,j3,jq<|by omega]at o;have⟨s,y,z,_⟩:=DataW.trod_string D o;have f:(L.map λs=>(DataW.lit (.string s.data.toList):DataW H))[j]? =ca (.lit<|.string s.data.toList):=by
  rw[i.1,List.getElem?_map,jq<|by omega,z];rfl
 rw[List.getElem?_map]at f
 cases hL:L[j]? with
 |none=>rw[hL]at f;simp at f|some u=>
  rw[hL]at f;simp at f;have A:=L_ (by simpa using f);have B:cs[j]? =ca (.string s):=by
   have:=congrArg (λl=>l[0]?) y;simpa[List.getElem?_take,List.getElem?_drop]using this
  rw[B,List.getD_eq_getElem?_getD,hL,A];rfl
end
def WA:Tryz.prog.cellsOf 3=1:=by kernel_rfl
def strCells:Tryz.prog.cellsOf 9=1:=by kernel_rfl
end
section
open Go.RowKit
def Ta(w:World)(C:List aa)t:∀j u,C[j]? =ca u->(w.alloc<|.cells C.toArray t).cell? ((⟨w.heap.size,0,ea⟩:Addr).add j)=ca u:=by
 intro j u f;rw[Addr.add];split
 .next h=>subst h;simpa using f
 .simpa using f
def jD{size}{v}(h:w.ownsRow base e size v n xs)(y:Below w.heap.size w w'):w'.ownsRow base e size v n xs:=by
 obtain⟨p,f⟩:=h;refine⟨p,?_⟩;obtain f|⟨g,i,j,s,u,o,r⟩:=f
 .exact jc f
 .refine ja ⟨g,i,j,s,u,?_,r⟩;have l:g<w.heap.size:=by
   have:=Array.getElem?_eq_some_iff.1 o;exact this.1
  rw[y.block g l,o]
def n9(w:World)(C:List aa)t b(f:b=w.heap.size):∀j u,C[j]? =ca u->(w.alloc<|.cells C.toArray t).cell? ((⟨b,0,ea⟩:Addr).add j)=ca u:=by
 subst f;exact Ta w C t
def eP{size}{v}(h:w.ownsRow base e size v n xs):∀k,v.ownBlock=ca k->base<=k/\k<w.heap.size:=by
 intro k f;obtain⟨h1,i⟩:=h;obtain⟨rfl,_⟩|⟨g,cap,Wy,rfl,j,l,r⟩:=i
 .simp[Value.ownBlock]at f
 .simp[Value.ownBlock]at f;subst f;exact⟨j,(Array.getElem?_eq_some_iff.1 l).1⟩
end
namespace Un
inductive Ty where
 |var(n:Nat):Ty
 |aM(c:ByteArray)(l:List Ty):Ty
mutual
def sub(σ:Nat->Ty):Ty->Ty
 |.var n=>σ n|.aM c l=>.aM c<|aU σ l
def aU(σ:Nat->Ty):List Ty->List Ty
 |[]=>[]|t::l=>sub σ t::aU σ l
end
mutual
def size:Ty->Nat
 |.var _=>1|.aM _ l=>1+ak l
def ak:List Ty->Nat
 |[]=>0|t::l=>size t+ak l
end
mutual
def aA(v:Nat):Ty->Prop
 |.var n=>n=v|.aM _ l=>bZ v l
def bZ(v:Nat):List Ty->Prop
 |[]=>False|t::l=>aA v t\/bZ v l
end
def seen l(v:Nat):=if v∈l then l else l++[v]
mutual
def vars(a:List Nat):Ty->List Nat
 |.var n=>seen a n|.aM _ l=>aX a l
def aX(a:List Nat):List Ty->List Nat
 |[]=>a|t::l=>aX (vars a t) l
end
def iz(σ:Nat->Ty):∀l,aU σ l=l.map (sub σ)
 |[]=>rfl|t::l=>by simp[aU,iz σ l]
def eK σ l:(aU σ l).length=l.length:=by simp[iz]
mutual
theorem sub_sub(τ σ:Nat->Ty):∀t,sub τ (sub σ t)=sub (λn=>sub τ<|σ n) t
 |.var n=>by simp[sub]|.aM c l=>by simp[sub,yH τ σ l]
theorem yH(τ σ:Nat->Ty):∀l,aU τ (aU σ l)=aU (λn=>sub τ<|σ n) l
 |[]=>by simp[aU]|t::l=>by simp[aU,sub_sub τ σ t,yH τ σ l]
end
mutual
def cM:∀t,sub Ty.var t=t
 |.var n=>by simp[sub]|.aM c l=>by simp[sub,GK l]
def GK:∀l,aU Ty.var l=l
 |[]=>by simp[aU]|t::l=>by simp[aU,cM t,GK l]
end
mutual
theorem sub_congr{σ τ:Nat->Ty}:∀t,(∀n,aA n t->σ n=τ n)->sub σ t=sub τ t
 |.var n,h=>by simpa[sub]using h n (by simp[aA])|.aM c l,h=>by simp[sub,qT l<|λn hn=>h n<|by simpa[aA]using hn]
theorem qT{σ τ:Nat->Ty}:∀l,(∀n,bZ n l->σ n=τ n)->aU σ l=aU τ l
 |[],_=>by simp[aU]|t::l,h=>by simp[aU,sub_congr t<|λn hn=>h n<|jc hn,qT l<|λn hn=>h n<|ja hn]
end
mutual
def OS{σ τ:Nat->Ty}:∀t,sub σ t=sub τ t->∀n,aA n t->σ n=τ n
 |.var m,h,n,hn=>by simp[aA]at hn;subst hn;simpa[sub]using h|.aM c l,h,n,hn=>GN l (by simpa[sub]using h) n (by simpa[aA]using hn)
def GN{σ τ:Nat->Ty}:∀l,aU σ l=aU τ l->∀n,bZ n l->σ n=τ n
 |[],_,n,hn=>by simp[bZ]at hn|t::l,h,n,hn=>by
   simp[aU]at h
   cases hn with
   |inl a=>exact OS t h.1 n a|inr a=>exact GN l h.2 n a
end
def size_pos:∀t,1<=size t
 |.var n=>by simp[size]|.aM c l=>by simp[size]<;>omega
def yI{t:Ty}:∀{l},t∈l->size t<=ak l
 |a::l,h=>by
   simp[ak]
   cases List.mem_cons.1 h with
   |inl e=>subst e;omega|inr e=>have:=yI e;omega
mutual
def GO(σ:Nat->Ty)(v:Nat):∀t,aA v t->size (σ v)<=size (sub σ t)
 |.var n,h=>by simp[aA]at h;subst h;simp[sub]|.aM c l,h=>by have:=lX σ v l (by simpa[aA]using h);simp[sub,size];omega
def lX(σ:Nat->Ty)(v:Nat):∀l,bZ v l->size (σ v)<=ak (aU σ l)
 |[],h=>by simp[bZ]at h|t::l,h=>by
   simp[aU,ak]
   cases h with
   |inl a=>have:=GO σ v t a;omega|inr a=>have:=lX σ v l a;omega
end
def Tc{σ}{l}(h:bZ v l):σ v≠sub σ (.aM c l):=λe=>by
 have:=lX σ v l h;have f:=congrArg size e;simp[sub,size]at f;omega
def sf{a:List Nat}:n∈seen a v↔n∈a\/n=v:=by
 rw[seen];split
 .grind
 .simp
mutual
def bC:∀(t:Ty)(a:List Nat)(n:Nat),n∈vars a t↔n∈a\/aA n t
 |.var m,a,n=>by simp[vars,aA,sf,eq_comm]|.aM c l,a,n=>by simp[vars,aA,BX l a n]
def BX:∀(l:List Ty)(a:List Nat)(n:Nat),n∈aX a l↔n∈a\/bZ n l
 |[],a,n=>by simp[aX,bZ]|t::l,a,n=>by simp[aX,bZ,BX l,bC t,or_assoc]
end
def Mb{a:List Nat}(h:a.Nodup)v:(seen a v).Nodup:=by
 rw[seen];split
 .exact h
 .rename_i hv;rw[List.nodup_append];refine⟨h,by simp,?_⟩;intro x g y f e;simp at f;subst e;subst f;exact hv g
mutual
theorem dO:∀(t:Ty){a:List Nat},a.Nodup->(vars a t).Nodup
 |.var m,a,h=>by simpa[vars]using Mb h m|.aM c l,a,h=>by simpa[vars]using vC l h
theorem vC:∀(l:List Ty){a:List Nat},a.Nodup->(aX a l).Nodup
 |[],a,h=>by simpa[aX]using h|t::l,a,h=>by simpa[aX]using vC l (dO t h)
end
def WB a v:a<+:seen a v:=by
 rw[seen];split
 .grind
 .grind
mutual
def sg:∀(t:Ty)(a:List Nat),a<+:vars a t
 |.var m,a=>by simpa[vars]using WB a m|.aM c l,a=>by simpa[vars]using jF l a
def jF:∀(l:List Ty)(a:List Nat),a<+:aX a l
 |[],a=>by simp[aX]|t::l,a=>by simpa[aX]using(sg t a).trans (jF l _)
end
def Ren(ρ:Nat->Nat)(a:List Nat):=∀m,m∈a->∀n,n∈a->ρ m=ρ n->m=n
abbrev pA(ρ:Nat->Nat):Nat->Ty:=λn=>.var<|ρ n
def WD{a:List Nat}(h:Ren ρ (seen a v)):seen (a.map ρ) (ρ v)=(seen a v).map ρ:=by
 by_cases f:v∈a
 .have g:ρ v∈a.map ρ:=List.mem_map.2 ⟨v,f,rfl⟩;rw[seen,seen,if_pos f,if_pos g]
 .have g:¬ρ v∈a.map ρ:=by
   intro j;have⟨u,i,e⟩:=List.mem_map.1 j;have:=h u (sf.2<|jc i) v (sf.2<|ja rfl) e;subst this;exact f i
  rw[seen,seen,if_neg f,if_neg g];simp
def Ren.pre{a b:List Nat}(h:Ren ρ b)(k:a<+:b):Ren ρ a:=λm hm n hn e=>h m (k.subset hm) n (k.subset hn) e
mutual
def lY{ρ:Nat->Nat}:∀(t:Ty){a:List Nat},Ren ρ (vars a t)->vars (a.map ρ) (sub (pA ρ) t)=(vars a t).map ρ
 |.var m,a,h=>by simpa[vars,sub]using WD (by simpa[vars]using h)|.aM c l,a,h=>by simpa[vars,sub]using BZ l (by simpa[vars]using h)
def BZ{ρ:Nat->Nat}:∀(l:List Ty){a:List Nat},Ren ρ (aX a l)->aX (a.map ρ) (aU (pA ρ) l)=(aX a l).map ρ
 |[],a,h=>by simp[aX,aU]|t::l,a,h=>by
   simp only[aX,aU]at h⊢;rw[lY t<|h.pre<|jF l _,BZ l h]
end
def OT{p:Prop}(h:p:=by
 cases List.mem_cons.1 hv with
 |inl k=>exact absurd k.symm e|inr k=>exact k):p:=h
def OU{ρ:Nat->Nat}{v:Nat}:∀{a:List Nat},Ren ρ a->v∈a->(a.map ρ).idxOf (ρ v)=a.idxOf v
 |[],_,h=>by simp at h|x::a,h,hv=>by
   by_cases e:x=v
   .subst e;simp
   .have g:¬ρ x=ρ v:=λk=>e (h x (by simp) v hv k);have f:v∈a:=by
     exact OT
    have i:(x==v)=false:=by simpa using e
    have j:(ρ x==ρ v)=false:=by simpa using g
    have:=OU (λm hm n hn=>h m (jp _ hm) n<|jp _ hn) f;simp only[jm,jt,i,j,this]
mutual
def GP(ρ:Nat->Nat):∀t,size (sub (pA ρ) t)=size t
 |.var n=>by simp[sub,size]|.aM c l=>by simp[sub,size,B7 ρ l]
def B7(ρ:Nat->Nat):∀l,ak (aU (pA ρ) l)=ak l
 |[]=>by simp[aU,ak]|t::l=>by simp[aU,ak,GP ρ t,B7 ρ l]
end
end Un
namespace Un
abbrev rG:ByteArray:=⟨#[62]⟩
abbrev pq:ByteArray:=⟨#[44]⟩
def par p(s:List UInt8):=if p=true then 40::(s++[41])else s
def nth(ps:List (Nat->List UInt8))i:=ps.getD i λ_=>[]
def bV c ps tight:=
 if c=rG then par (decide (0<tight)) (nth ps 0 1++([32,45,62,32]++nth ps 1 0))
 else if c=pq then 40::(nth ps 0 0++([44,32]++(nth ps 1 0++[41])))
 else par (decide (1<tight)&& !ps.isEmpty) (c.toList++ps.flatMap λp=>32::p 2)
section
variable (dec:Nat->List UInt8)
mutual
def wr(L:List Nat):Ty->Nat->List UInt8
 |.var n=>λ_=>39::118::dec (L.idxOf n)|.aM c l=>bV c<|F7 L l
def F7(L:List Nat):List Ty->List (Nat->List UInt8)
 |[]=>[]|t::l=>wr L t::F7 L l
end
def written(t:Ty):List UInt8:=wr dec (vars [] t) t 0
def OX{v:Nat}:∀{a b:List Nat},a<+:b->v∈a->b.idxOf v=a.idxOf v
 |[],_,_,h=>by simp at h|x::a,b,h,hv=>by
   obtain⟨r,rfl⟩:=h;by_cases e:x=v
   .subst e;simp
   .have g:(x==v)=false:=by simpa using e
    have f:v∈a:=by
     exact OT
    have:=OX (List.prefix_append a r) f;simp only[List.cons_append,jt,g,this]
mutual
def WH{a b:List Nat}(h:a<+:b):∀t,(∀n,aA n t->n∈a)->wr dec b t=wr dec a t
 |.var n,k=>by simp only[wr,OX h<|k n<|by simp[aA]]|.aM c l,k=>by simp only[wr,OY h l<|λn hn=>k n<|by simpa[aA]using hn]
def OY{a b:List Nat}(h:a<+:b):∀l,(∀n,bZ n l->n∈a)->F7 dec b l=F7 dec a l
 |[],_=>by simp[F7]|t::l,k=>by simp only[F7,WH h t<|λn hn=>k n<|jc hn,OY h l<|λn hn=>k n<|ja hn]
end
mutual
def DV{ρ:Nat->Nat}{L:List Nat}(h:Ren ρ L):∀t,(∀n,aA n t->n∈L)->wr dec (L.map ρ) (sub (pA ρ) t)=wr dec L t
 |.var n,k=>by simp only[wr,sub,pA,OU h<|k n<|by simp[aA]]|.aM c l,k=>by simp only[wr,sub,OZ h l<|λn hn=>k n<|by simpa[aA]using hn]
def OZ{ρ:Nat->Nat}{L:List Nat}(h:Ren ρ L):∀l,(∀n,bZ n l->n∈L)->F7 dec (L.map ρ) (aU (pA ρ) l)=F7 dec L l
 |[],_=>by simp[F7,aU]|t::l,k=>by simp only[F7,aU,DV h t<|λn hn=>k n<|jc hn,OZ h l<|λn hn=>k n<|ja hn]
end
def GQ{t:Ty}(h:Ren ρ (vars [] t)):written dec (sub (pA ρ) t)=written dec t:=by
 have e:=lY (ρ:=ρ) t (a:=[]) h;simp only[List.map_nil]at e;rw[written,e,DV dec h t<|λn hn=>(bC t [] n).2<|ja hn,<-written]
end
end Un
namespace Un
structure tJ(K:Nat->Option Ty)(R:Nat->Ty)(rk:Nat->Nat):Prop where
 open_:∀n,K n=ea->R n=.var n
 shut:∀n t,K n=ca t->R n=sub R t
 WI:∀n u,K n=ca (.var u)->rk u<rk n
def tJ.start:tJ (λ_=>ea) Ty.var (λ_=>0):=⟨λ_ _=>rfl,λ_ _ h=>by simp at h,λ_ _ h=>by simp at h⟩
def eE{α:Type}(K:Nat->α)a t:=λn=>if n=a then t else K n
def si a(B:Ty):=λn=>if n=a then B else .var n
def GU{B t:Ty}(h:¬aA a t):sub (si a B) t=t:=by
 refine(sub_congr t λn hn=>?_).trans (cM t);have:n≠a:=λe=>h<|e▸hn;simp[si,this]
def WJ{B t:Ty}{σ:Nat->Ty}(h:σ a=sub σ B):sub σ (sub (si a B) t)=sub σ t:=by
 rw[sub_sub];refine sub_congr t λn _=>?_;by_cases e:n=a
 .subst e;simp[si,h]
 .simp[si,e,sub]
def tJ.bind{K:Nat->Option Ty}{R:Nat->Ty}(h:tJ K R rk){b:Ty}(l:K a=ea)(o:¬aA a (sub R b))(r:∀u,b=.var u->K u=ea):
 ∃rk',tJ (eE K a<|some b) (λn=>sub (si a<|sub R b)<|R n) rk':=by
 have i:∀t,sub (λn=>sub (si a<|sub R b)<|R n) t=sub (si a<|sub R b) (sub R t):=λt=>(sub_sub _ _ t).symm
 classical
 refine⟨λn=>if R n=.var a then rk n+(match b with|.var u=>rk u+1|.aM _ _=>0)else rk n,?_,?_,?_⟩
 .intro n f;by_cases e:n=a
  .simp[eE,e]at f
  .simp[eE,e]at f;simp[h.open_ n f,sub,si,e]
 .intro n t f;by_cases e:n=a
  .subst e;simp[eE]at f;subst f;simp only[i];rw[GU o,h.open_ n l];simp[sub,si]
  .simp[eE,e]at f;simp only[i];rw[h.shut n t f]
 .intro n u f;by_cases e:n=a
  .subst e;simp[eE]at f;subst f;have j:=h.open_ n l;have g:=h.open_ u<|r u rfl;have p:¬u=n:=λe=>o (by rw[sub,g,aA];exact e);simp[j,g,p];omega
  .simp[eE,e]at f;have j:=h.WI n u f;have g:R n=R u:=by simpa[sub]using h.shut n _ f
   simp only[g];split<;>omega
structure Made(R R':Nat->Ty)a b:Prop where
 same:sub R' a=sub R' b
 of_:∃δ,∀n,R' n=sub δ (R n)
 least:∀σ,sub σ (sub R a)=sub σ (sub R b)->∀n,sub σ (R' n)=sub σ (R n)
def Made.refl{R:Nat->Ty}{a b:Ty}(h:sub R a=sub R b):Made R R a b:=⟨h,⟨Ty.var,λ_=>(cM _).symm⟩,λ_ _ _=>rfl⟩
def Made.swap{R R':Nat->Ty}{a b:Ty}(h:Made R R' a b):Made R R' b a:=⟨h.same.symm,h.of_,λσ e=>h.least σ e.symm⟩
def Made.abg{R R':Nat->Ty}{a b i j:Ty}(h:Made R R' i j)(l:sub R i=sub R a)(o:sub R j=sub R b):Made R R' a b:=by
 obtain⟨p,⟨δ,g⟩,r⟩:=h;have f:∀t,sub R' t=sub δ (sub R t):=λt=>by rw[sub_sub];exact sub_congr t λn _=>g n
 refine⟨?_,⟨δ,g⟩,λσ e=>r σ (by rw[l,o];exact e)⟩;rw[f a,f b,<-l,<-o,<-f,<-f,p]
def Made.bind{K:Nat->Option Ty}{R:Nat->Ty}(h:tJ K R rk){b:Ty}(g:K a=ea)(i:¬aA a (sub R b)):
 Made R (λn=>sub (si a<|sub R b)<|R n) (.var a) b:=by
 have f:∀t,sub (λn=>sub (si a<|sub R b)<|R n) t=sub (si a<|sub R b) (sub R t):=λt=>(sub_sub _ _ t).symm;refine⟨?_,⟨_,λn=>rfl⟩,λσ e n=>WJ ?_⟩
 .rw[f,f,GU i];simp[sub,h.open_ a g,si]
 .simpa[sub,h.open_ a g]using e
def abh{K:Nat->Option Ty}{R:Nat->Ty}(h:tJ K R rk){l}(i:K a=ea)(f:aA a (sub R<|.aM c l))σ:
 sub σ (sub R<|.var a)≠sub σ (sub R<|.aM c l):=by
 have g:sub R (.var a)=.var a:=by simpa[sub]using h.open_ a i
 rw[g];simp only[sub,aA]at f⊢;have:=Tc (σ:=σ) (c:=c) f;simpa[sub]using this
structure oq(R R':Nat->Ty)a b:Prop where
 same:aU R' a=aU R' b
 of_:∃δ,∀n,R' n=sub δ (R n)
 least:∀σ,aU σ (aU R a)=aU σ (aU R b)->∀n,sub σ (R' n)=sub σ (R n)
def O6{R R' δ:Nat->Ty}(h:∀n,R' n=sub δ (R n))l:aU R' l=aU δ (aU R l):=by
 rw[yH];exact qT l λn _=>h n
def oq.nil R:oq R R [] []:=⟨rfl,⟨Ty.var,λ_=>(cM _).symm⟩,λ_ _ _=>rfl⟩
def cU σ a b:aU σ (a++b)=aU σ a++aU σ b:=by simp[iz]
def oq.snoc{R R' f:Nat->Ty}{a b}{x y:Ty}(p:a.length=b.length)(h:oq R R' a b)(k:Made R' f x y):oq R f (a++[x]) (b++[y]):=by
 have⟨δ,l⟩:=h.of_;have⟨ε,g⟩:=k.of_;refine⟨?_,⟨λn=>sub ε<|δ n,λn=>?_⟩,λσ e n=>?_⟩
 .rw[cU,cU,O6 g a,O6 g b,h.same];simp[aU,k.same]
 .rw[g n,l n,sub_sub]
 .rw[cU,cU,cU,cU]at e;have i:=List.append_inj e (by simp[eK,p]);have j:=h.least σ i.1;have o:sub σ (sub R' x)=sub σ (sub R' y):=by
   have:∀t,sub σ (sub R' t)=sub σ (sub R t):=λt=>by
    rw[sub_sub,sub_sub];exact sub_congr t λn _=>j n
   rw[this,this];simpa[aU]using i.2
  rw[k.least σ o n,j n]
def oq.aM{R R':Nat->Ty}{a b}c(h:oq R R' a b):Made R R' (.aM c a) (.aM c b):=
 ⟨by simp[sub,h.same],h.of_,λσ e=>h.least σ<|by simpa[sub]using e⟩
def oq.no{R R':Nat->Ty}{a b a' b'}{x y:Ty}(j:a.length=b.length)(h:oq R R' a b)(k:∀σ,sub σ (sub R' x)≠sub σ (sub R' y))c d σ:
 sub σ (sub R<|.aM c (a++x::a'))≠sub σ (sub R<|.aM d (b++y::b')):=by
 intro e;simp only[sub,Ty.aM.injEq]at e;have e:=e.2;rw[cU,cU,cU,cU]at e;have f:=List.append_inj e (by simp[eK,j]);have i:=h.least σ f.1;refine k σ ?_;have:∀t,sub σ (sub R' t)=sub σ (sub R t):=λt=>by
  rw[sub_sub,sub_sub];exact sub_congr t λn _=>i n
 rw[this,this];have g:=f.2;simp only[aU,List.cons.injEq]at g;exact g.1
def Mc{R σ:Nat->Ty}{a b}(h:c≠d):sub σ (sub R<|.aM c a)≠sub σ (sub R<|.aM d b):=λe=>by
 simp only[sub,Ty.aM.injEq]at e;exact h e.1
def Te{R σ:Nat->Ty}{a b}(h:a.length≠b.length):sub σ (sub R<|.aM c a)≠sub σ (sub R<|.aM d b):=λe=>by
 simp only[sub,Ty.aM.injEq]at e;have:=congrArg List.length e.2;simp[eK]at this;exact h this
end Un
section
open Go.RowKit Go.MapKept Go.ChangeMaps
def xK{κ:Type}[DecidableEq κ](x:κ):List (κ×aa)->Nat->Option (Nat×aa)
 |[],_=>ea|p::l,i=>if p.1=x then ca (i,p.2)else xK x l (i+1)
def ba{κ:Type}[DecidableEq κ](x:κ):List (κ×aa)->Option aa
 |[]=>ea|p::l=>if p.1=x then ca p.2 else ba x l
theorem O7[DecidableEq κ]x(l:List (κ×aa))(i:Nat):(xK x l i).map (·.2)=ba x l:=by
 induction l generalizing i with
 |nil=>rfl|cons p l ih=>rw[xK,ba];split<;>simp[ih]
def bF{κ:Type}[DecidableEq κ](x:κ)(v:aa):List (κ×aa)->List (κ×aa)
 |[]=>[(x,v)]|p::l=>if p.1=x then(x,v)::l else p::bF x v l
def ot[DecidableEq κ]x v(l:List (κ×aa))(h:ba x l=ea):bF x v l=l++[(x,v)]:=by
 induction l with
 |nil=>rfl|cons p l ih=>
  rw[ba]at h;split at h
  .simp at h
  .rename_i hn;simp[bF,hn,ih h]
theorem aO[DecidableEq κ]x y v(l:List (κ×aa)):ba y (bF x v l)=if x=y then ca v else ba y l:=by
 induction l with
 |nil=>simp[bF,ba]|cons p l ih=>
  unfold bF;split
  .rename_i h;unfold ba;by_cases e:x=y
   .simp[e]
   .rw[h];simp[e]
  .rename_i h;unfold ba;rw[ih];by_cases e:p.1=y
   .grind
   .simp[e]
structure KL P k{κ:Type}[DecidableEq κ](enc:κ->aa)(ok:World->κ->Prop):Prop where
 chk:∀b x w,(Instr.checkKey b 10000 k<|enc x).run P w=.ok () w
 fin:∀x(L:List (κ×aa))(es:List MapEntry)w,ok w x->(∀p∈L,ok w p.1)->es.map (λe=>(e.key,e.val))=L.map (λp=>(enc p.1,p.2))->(jk k (enc x) es).run P w=.ok (xK x L 0) w
 bit:∀x,jf 10000 (enc x) (enc x)=true
def MS{κ:Type}(enc:κ->aa)(w:World)(b:Nat)(L:List (κ×aa)):=
 ∃es clock,w.heap[b]? =ca (.map es clock)/\es.toList.map (λe=>(e.key,e.val))=L.map (λp=>(enc p.1,p.2))
section
variable [DecidableEq κ] {enc:κ->aa} {ok:World->κ->Prop} {L:List (κ×aa)}
def MS.lt(h:MS enc w b L):b<w.heap.size:=by grind[MS]
def MS.same(h:MS enc w b L)(hb:w'.heap[b]? =w.heap[b]?):MS enc w' b L:=by grind[MS]
def MS.below(h:MS enc w b L)(f:Below w.heap.size w w'):MS enc w' b L:=h.same<|f.block b h.lt
def MS.new(enc:κ->aa)(w:World):MS enc (w.alloc<|.map #[] 0) w.heap.size []:=⟨#[],0,(MapKept.heap_alloc w _).1,rfl⟩
def MS.look(K:KL P k enc ok)(h:MS enc w b L)(j:P.underlying t=ca (.map k e)){z}(l:(zeroValue e).run P w=.ok z w)x(o:ok w x)(r:∀p∈L,ok w p.1)c:
 (jl t (.map<|some b) (enc x) c).run P w=.ok (match ba x L with|some v=>if c then .tuple #[v,.bool true]else v|none=>if c then .tuple #[z,.bool false]else z) w:=by
 obtain⟨es,clock,i,g⟩:=h;have f:=K.fin x L es.toList w o r g;rw[<-O7 x L 0];rw[jl];simp only[jv,run_underlying j,ju,jy i,K.chk,f]
 cases xL:xK x L 0 with
 |none=>rw[xL]at f;cases c<;>simp[l,f,ju]|some p=>rw[xL]at f;cases c<;>simp[f,ju]
def DW x v:∀(L:List (κ×aa))(es:List MapEntry)(i j:Nat)(u:aa),es.map (λe=>(e.key,e.val))=L.map (λp=>(enc p.1,p.2))->xK x L i=ca (j,u)->i<=j/\∃e0,es[j-i]? =ca e0/\e0.key=enc x/\(es.modify (j-i) λe=>{e with key:=enc x,val:=v}).map (λe=>(e.key,e.val))=(bF x v L).map (λp=>(enc p.1,p.2)):=by
 intro L
 induction L with
 |nil=>intro es i j u _ h;simp[xK]at h|cons p l ih=>
  intro es i j u f h
  cases es with
  |nil=>simp at f|cons e0 es=>
   simp only[jm,List.cons.injEq,Prod.mk.injEq]at f;obtain⟨⟨g,o⟩,f⟩:=f;rw[xK]at h;split at h
   .rename_i hp;simp only[Option.some.injEq,Prod.mk.injEq]at h;obtain⟨rfl,rfl⟩:=h;refine⟨Nat.le_refl _,e0,by simp,by rw[g,hp],?_⟩;simp[bF,hp,f]
   .rename_i hp;have⟨h1,r,h2,s,y⟩:=ih es (i+1) j u f h;refine⟨by omega,r,?_,s,?_⟩
    .grind
    .rw[show j-i=(j-(i+1))+1 by omega];simp[bF,hp,y,g,o]
def ox x:∀(L:List (κ×aa))(i:Nat),xK x L i=ea->ba x L=ea:=by grind[xK,ba,O7]
def MS.put(K:KL P k enc ok)(h:MS enc w b L)(B:P.underlying t=ca (.map k e))x v(C:ok w x)(D:∀p∈L,ok w p.1):
 ∃o,(jj t (.map<|some b) (enc x) v).run P w=.ok () (setBlock w b o)/\MS enc (setBlock w b o) b (bF x v L):=by
 obtain⟨es,f,i,g⟩:=h;have l:=K.fin x L es.toList w C D g;rw[jj];simp only[jv,run_underlying B,ju,jy i,K.chk,l]
 cases xL:xK x L 0 with
 |none=>
  refine⟨.map (es.push {key:=enc x,val:=v,born:=f})<|f+1,by rw[xL]at l;simp[l,ju];exact jx _ i,_,_,(heap_setBlock_same i _),?_⟩;rw[ot x v L<|ox x L 0 xL];simp[g]
 |some p=>
  obtain⟨j,u⟩:=p;have⟨_,s,y,z,A⟩:=DW (enc:=enc) x v L es.toList 0 j u g xL;have r:es[j]? =ca s:=by simpa using y
  refine⟨.map (es.modify j λe=>{e with key:=enc x,val:=v}) f,?_,_,_,(heap_setBlock_same i _),by simpa using A⟩;rw[xL]at l;simp[l,ju,r,z,Instr.keyThatStays,K.bit];exact jx _ i
end
def KL.str(f:P.underlying k=ca .string):KL P k Value.string (λ_ _=>True) where
 chk b x w:=run_checkKey f (by simp[IsKey]) b 9999
 bit x:=by simp only[jf];exact(bytes_beq x x).2 rfl
 fin x L es w _ _ Tf:=by
  refine run_findKey f ?_
  suffices H:∀(L:List (ByteArray×aa))(es:List MapEntry)(i:Nat),es.map (λe=>(e.key,e.val))=L.map (λp=>(Value.string p.1,p.2))->jd .string (.string x) es i=ca (xK x L i)from H L es 0 Tf
  intro L
  induction L with
  |nil=>intro es i h;simp at h;subst h;rfl|cons p l ih=>
   intro es i h
   cases es with
   |nil=>simp at h|cons e0 es=>
    simp only[jm,List.cons.injEq,Prod.mk.injEq]at h;obtain⟨⟨g,j⟩,o⟩:=h;rw[jd,xK];simp only[g,ji];by_cases e:p.1=x
    .have:(x==p.1)=true:=(bytes_beq _ _).2 e.symm;rw[if_pos e];simp only[this,j]
    .have:(x==p.1)=false:=by rw[<-Bool.not_eq_true,bytes_beq];exact λq=>e q.symm
     simp only[e,this,if_false,ih es (i+1) o]
def KL.num{q:IntKind}(f:P.underlying k=ca (.int q)):KL P k (λn:Int=>Value.int q n) (λ_ _=>True) where
 chk b x w:=run_checkKey f (by simp[IsKey]) b 9999
 bit x:=by simp[jf]
 fin x L es w _ _ Tf:=by
  refine run_findKey f ?_
  suffices H:∀(L:List (Int×aa))(es:List MapEntry)(i:Nat),es.map (λe=>(e.key,e.val))=L.map (λp=>(Value.int q p.1,p.2))->jd (.int q) (.int q x) es i=ca (xK x L i)from H L es 0 Tf
  intro L
  induction L with
  |nil=>intro es i h;simp at h;subst h;rfl|cons p l ih=>
   intro es i h
   cases es with
   |nil=>simp at h|cons e0 es=>
    simp only[jm,List.cons.injEq,Prod.mk.injEq]at h;obtain⟨⟨g,j⟩,h3⟩:=h;rw[jd,xK];simp only[g,ji];by_cases e:p.1=x
    .simp[e,j]
    .grind
def KL.ptr{u:TypeId}{j:TypeInfo}(y:P.underlying k=ca (.pointer u))(z:P.info? u=ca j)(g:j.size≠0):
 KL P k (λb:Nat=>Value.pointer<|some ⟨b,0,ea⟩) (λw b=>∃c t,w.heap[b]? =ca (.cells c t (0,0))) where
 chk b x w:=by
  rw[Instr.checkKey];simp only[jv,run_underlying y,ju];rfl
 bit x:=by simp[jf]
 fin x L es w hx hL Tf:=by
  have f:∀(es:List MapEntry)(i:Nat),es≠[]->jd (.pointer u) (.pointer<|some ⟨x,0,ea⟩) es i=ea:=by
   intro es i h
   cases es with
   |nil=>exact absurd rfl h|cons e0 es=>simp[jd,ji]
  rw[jk];simp only[jv,run_underlying y,ju]
  cases es with
  |nil=>
   cases L with
   |nil=>simp[jd,xK]|cons p l=>simp at Tf
  |cons e0 es0=>
   rw[f _ 0<|by simp];revert Tf;generalize(e0::es0)=es;intro Tf
   suffices H:∀(L:List (Nat×aa))(es:List MapEntry)(i:Nat),(∀p∈L,∃c t,w.heap[p.1]? =ca (.cells c t (0,0)))->es.map (λe=>(e.key,e.val))=L.map (λp=>(Value.pointer<|some ⟨p.1,0,ea⟩,p.2))->(Instr.findAsking k (.pointer<|some ⟨x,0,ea⟩) es i).run P w=.ok (xK x L i) w from H L es 0 hL Tf
   intro L
   induction L with
   |nil=>intro es i _ h;simp at h;subst h;rfl|cons p l ih=>
    intro es i hL h
    cases es with
    |nil=>simp at h|cons e0 es=>
     simp only[jm,List.cons.injEq,Prod.mk.injEq]at h;obtain⟨⟨A,B⟩,h3⟩:=h;rw[Instr.findAsking,xK];have o:(Op.equal k (.pointer<|some ⟨x,0,ea⟩) e0.key).run P w=.ok (decide (p.1=x)) w:=by
      rw[A];rw[Op.equal,Op.maxDepth,Op.equalIn];simp only[jv,run_underlying y,ju,sizeOf,typeInfo,z];obtain⟨c1,t1,r⟩:=hx;have⟨c2,t2,s⟩:=hL p (by simp);by_cases e:p.1=x
      .simp[e,g,run_sameAddr_same,z]
      .simp[e,g,z,run_sameAddr_other w (a:=⟨x,0,ea⟩) (b:=⟨p.1,0,ea⟩) (by intro q;injection q with q;exact e q.symm) r s]
     simp only[jv,o,ju];by_cases e:p.1=x
     .simp[e,B]
     .grind
end
abbrev xM A z:=∀(I D:TypeId)(x:aa)(w:World),D≠A->(jh (.iface D x) I A true).run Tryz.prog w=.ok (.tuple #[.agg z,.bool false]) w
abbrev AR A:=∀(I:TypeId)(x:Array aa)(w:World),(jh (.iface A<|.agg x) I A true).run Tryz.prog w=.ok (.tuple #[.agg x,.bool true]) w
def e_{A}{z}(g:∀w,(zeroValue A).run Tryz.prog w=.ok (.agg z) w)(f:∀w,∃u,(underlying A).run Tryz.prog w=.ok u w/\∀m,u≠.interface m):xM A z:=λI D x w h=>by
 have⟨u,f,hi⟩:=f w;rw[jh];simp[go_sem,f,g,h]
@[simp] theorem aio:xM 259 #[.int .i64 0,.int .i64 0]:=e_ (λw=>by kernel_rfl) λw=>⟨_,rfl,λm q=>by cases q⟩
@[simp] theorem aip:AR 259:=λI x w=>by kernel_rfl
@[simp] theorem agD:xM 228 #[.int .i64 0,.int .i64 0,.nilIface,.nilIface]:=e_ (λw=>by kernel_rfl) λw=>⟨_,rfl,λm q=>by cases q⟩
@[simp] theorem agE:AR 228:=λI x w=>by kernel_rfl
@[simp] theorem agc:xM 216 #[.int .i64 0,.int .i64 0,.string ⟨#[]⟩,.nilIface,.nilIface]:=e_ (λw=>by kernel_rfl) λw=>⟨_,rfl,λm q=>by cases q⟩
@[simp] theorem agd:AR 216:=λI x w=>by kernel_rfl
@[simp] theorem Oi:xM 203 #[.int .i64 0,.int .i64 0,.bool false]:=e_ (λw=>by kernel_rfl) λw=>⟨_,rfl,λm q=>by cases q⟩
@[simp] theorem ah4:AR 203:=λI x w=>by kernel_rfl
@[simp] theorem O_:xM 269 #[.int .i64 0,.int .i64 0,.nilIface,.nilIface]:=e_ (λw=>by kernel_rfl) λw=>⟨_,rfl,λm q=>by cases q⟩
@[simp] theorem ah5:AR 269:=λI x w=>by kernel_rfl
@[simp] theorem aiq:xM 239 #[.int .i64 0,.int .i64 0,.int .i64 0,.int .i64 0,.string ⟨#[]⟩,.nilIface]:=e_ (λw=>by kernel_rfl) λw=>⟨_,rfl,λm q=>by cases q⟩
@[simp] theorem air:AR 239:=λI x w=>by kernel_rfl
@[simp] theorem aiW:xM 243 #[.int .i64 0,.int .i64 0,.nilIface,.nilIface,.nilIface]:=e_ (λw=>by kernel_rfl) λw=>⟨_,rfl,λm q=>by cases q⟩
@[simp] theorem aiX:AR 243:=λI x w=>by kernel_rfl
@[simp] theorem ais:xM 241 #[.int .i64 0,.int .i64 0,.bool false,.int .i64 0,.int .i64 0,.string ⟨#[]⟩,.nilIface,.nilIface]:=e_ (λw=>by kernel_rfl) λw=>⟨_,rfl,λm q=>by cases q⟩
@[simp] theorem ait:AR 241:=λI x w=>by kernel_rfl
@[simp] theorem aes:AR 103:=λI x w=>by kernel_rfl
@[simp] theorem Vy:xM 197 #[.int .i64 0,.int .i64 0,.string ⟨#[]⟩]:=e_ (λw=>by kernel_rfl) λw=>⟨_,rfl,λm q=>by cases q⟩
@[simp] theorem aiu:AR 197:=λI x w=>by kernel_rfl
@[simp] theorem ah6:xM 262 #[.int .i64 0,.int .i64 0,.int .i64 0,.int .i64 0,.string ⟨#[]⟩,.slice ea 0 0]:=e_ (λw=>by kernel_rfl) λw=>⟨_,rfl,λm q=>by cases q⟩
@[simp] theorem ah7:AR 262:=λI x w=>by kernel_rfl
@[simp] theorem agF:xM 250 #[.int .i64 0,.int .i64 0,.nilIface,.slice ea 0 0]:=e_ (λw=>by kernel_rfl) λw=>⟨_,rfl,λm q=>by cases q⟩
@[simp] theorem agG:AR 250:=λI x w=>by kernel_rfl
@[simp] theorem agH:xM 230 #[.int .i64 0,.int .i64 0,.int .i64 0,.int .i64 0,.string ⟨#[]⟩,.slice ea 0 0]:=e_ (λw=>by kernel_rfl) λw=>⟨_,rfl,λm q=>by cases q⟩
@[simp] theorem agI:AR 230:=λI x w=>by kernel_rfl
@[simp] theorem tQ:xM 200 #[.int .i64 0,.int .i64 0,.int .i64 0]:=e_ (λw=>by kernel_rfl) λw=>⟨_,rfl,λm q=>by cases q⟩
@[simp] theorem age:AR 200:=λI x w=>by kernel_rfl
@[simp] theorem ah8:xM 256 #[.int .i64 0,.int .i64 0,.nilIface,.nilIface]:=e_ (λw=>by kernel_rfl) λw=>⟨_,rfl,λm q=>by cases q⟩
@[simp] theorem ah9:AR 256:=λI x w=>by kernel_rfl
@[simp] theorem WL:xM 264 #[.int .i64 0,.int .i64 0,.nilIface,.nilIface]:=e_ (λw=>by kernel_rfl) λw=>⟨_,rfl,λm q=>by cases q⟩
@[simp] theorem WM:AR 264:=λI x w=>by kernel_rfl
@[simp] theorem adi:xM 96 #[.int .i64 0,.int .i64 0,.int .i64 0,.int .i64 0,.string ⟨#[]⟩,.slice ea 0 0,.slice ea 0 0]:=e_ (λw=>by kernel_rfl) λw=>⟨_,rfl,λm q=>by cases q⟩
@[simp] theorem adj:AR 96:=λI x w=>by kernel_rfl
@[simp] theorem adk:xM 231 #[.int .i64 0,.int .i64 0,.nilIface,.nilIface]:=e_ (λw=>by kernel_rfl) λw=>⟨_,rfl,λm q=>by cases q⟩
@[simp] theorem adl:AR 231:=λI x w=>by kernel_rfl
@[simp] theorem aet:xM 191 #[.int .i64 0,.int .i64 0,.string ⟨#[]⟩]:=e_ (λw=>by kernel_rfl) λw=>⟨_,rfl,λm q=>by cases q⟩
@[simp] theorem aeu:AR 191:=λI x w=>by kernel_rfl
@[simp] theorem agJ:xM 258 #[.int .i64 0,.int .i64 0,.nilIface,.nilIface]:=e_ (λw=>by kernel_rfl) λw=>⟨_,rfl,λm q=>by cases q⟩
@[simp] theorem agK:AR 258:=λI x w=>by kernel_rfl
@[simp] theorem Oj:xM 254 #[.int .i64 0,.int .i64 0]:=e_ (λw=>by kernel_rfl) λw=>⟨_,rfl,λm q=>by cases q⟩
@[simp] theorem ah_:AR 254:=λI x w=>by kernel_rfl
@[simp] theorem WN:xM 251 #[.int .i64 0,.int .i64 0,.string ⟨#[]⟩]:=e_ (λw=>by kernel_rfl) λw=>⟨_,rfl,λm q=>by cases q⟩
@[simp] theorem aiY:AR 251:=λI x w=>by kernel_rfl
namespace Un
inductive dL{α β:Type}(E:α->β->Prop):List α->List β->Prop where
 |nil:dL E [] []
 |cons{x:α}{y:β}{l:List α}{k:List β}:E x y->dL E l k->dL E (x::l) (y::k)
abbrev wP:=Nat->Option (ByteArray×List Nat)
abbrev Nx:=Nat->Option Nat
structure mF(str:wP)(nx:Nx)(V:Nat->Ty):Prop where
 made:∀n c l,str n=ca (c,l)->V n=.aM c (l.map V)
 bV:∀n m,nx n=ca m->V n=V m
structure Eq(nx:Nx)(P:List (Nat×Nat))(E:Nat->Nat->Prop):Prop where
 refl:∀n,E n n
 symm:∀m n,E m n->E n m
 trans:∀k m n,E k m->E m n->E k n
 bV:∀n m,nx n=ca m->E n m
 WO:∀m n,(m,n)∈P->E m n
def vD(str:wP)nx P:=
 ∀E,Eq nx P E->∀n m c l,nx n=ca m->str n=ca (c,l)->∃l',str m=ca (c,l')/\dL E l l'
def vD.start str P:vD str (λ_=>ea) P:=by grind[vD]
def sk{E:Nat->Nat->Prop}(h:∀n,E n n):∀l,dL E l l
 |[]=>.nil|x::l=>.cons (h x)<|sk h l
def lE{E:Nat->Nat->Prop}(h:∀k m n,E k m->E m n->E k n):∀{a b c:List Nat},dL E a b->dL E b c->dL E a c
 |[],_,_,.nil,.nil=>.nil|_::_,_,_,.cons p q,.cons r s=>.cons (h _ _ _ p r)<|lE h q s
def vF{E:Nat->Nat->Prop}:∀{a b:List Nat},a.length=b.length->(∀x y,(x,y)∈a.zip b->E x y)->dL E a b
 |[],[],_,_=>.nil|x::a,y::b,h,k=>.cons (k x y<|by simp) (vF (by simpa using h) λx' y' h'=>k x' y'<|by simp[h'])
def vG{E:Nat->Nat->Prop}{V:Nat->Ty}(h:∀m n,E m n->V m=V n):∀{a b:List Nat},dL E a b->a.map V=b.map V
 |[],_,.nil=>rfl|_::_,_,.cons p q=>by simp[h _ _ p,vG h q]
section
variable {str:wP} {nx:Nx} {P:List (Nat×Nat)}
def mF.join(ha:nx a=ea){V:Nat->Ty}:mF str (eE nx a<|some b) V↔mF str nx V/\V a=V b:=by
 constructor
 .intro h;refine⟨⟨h.made,λn m e=>?_⟩,h.bV a b<|by simp[eE]⟩;by_cases k:n=a
  .grind
  .exact h.bV n m (by simpa[eE,k]using e)
 .rintro⟨h,e⟩;refine⟨h.made,λn m k=>?_⟩;by_cases j:n=a
  .subst j;simp[eE]at k;subst k;exact e
  .exact h.bV n m (by simpa[eE,j]using k)
def Eq.iX(ha:nx a=ea)(h:Eq (eE nx a<|some b) P E):Eq nx P E/\E a b:=by
 refine⟨⟨h.refl,h.symm,h.trans,λn m e=>h.bV n m ?_,h.WO⟩,h.bV a b<|by simp[eE]⟩;by_cases k:n=a
 .grind
 .simpa[eE,k]using e
def vD.var(h:vD str nx P)(j:nx a=ea)(hs:str a=ea):vD str (eE nx a<|some b) P:=by
 intro E f n m c l g i;by_cases k:n=a
 .grind
 .exact h E (f.iX j).1 n m c l (by simpa[eE,k]using g) i
def vD.aM{l i:List Nat}(h:vD str nx P)(z:nx a=ea)(A:str a=ca (c,l))(r:str b=ca (c,i))(B:l.length=i.length):
 vD str (eE nx a<|some b) (l.zip i++P):=by
 intro E o n m s k p f;have g:=(o.iX z).1;by_cases j:n=a
 .subst j;simp[eE]at p;subst p;rw[A]at f;injection f with f;injection f with f u;subst f;subst u;exact⟨i,r,vF B λx y hx=>o.WO x y<|List.mem_append_left _ hx⟩
 .exact h E ⟨g.refl,g.symm,g.trans,g.bV,λm n k=>o.WO m n<|List.mem_append_right _ k⟩ n m s k (by simpa[eE,j]using p) f
def DX{p:Prop}(h:p:=by
 exact h.bV x y<|by simpa[eE,j]using e):p:=h
def mF.short{k:Nat}(i:nx n=ca m)(g:nx m=ca k)(f:n≠m){V:Nat->Ty}:mF str (eE nx n<|some k) V↔mF str nx V:=by
 constructor
 .intro h;have hm:=h.bV m k (by simp[eE,Ne.symm f,g]);have hn:=h.bV n k (by simp[eE]);refine⟨h.made,λx y e=>?_⟩;by_cases j:x=n
  .grind
  .exact DX
 .intro h;refine⟨h.made,λx y e=>?_⟩;by_cases j:x=n
  .subst j;simp[eE]at e;subst e;rw[h.bV x m i,h.bV m _ g]
  .exact DX
def Eq.GW{k:Nat}(g:nx n=ca m)(i:nx m=ca k)(f:n≠m)(h:Eq (eE nx n<|some k) P E):Eq nx P E:=by
 refine⟨h.refl,h.symm,h.trans,λx y e=>?_,h.WO⟩;by_cases j:x=n
 .subst j;rw[g]at e;injection e with e;subst e;exact h.trans _ k _ (h.bV _ k<|by simp[eE]) (h.symm _ _<|h.bV _ k<|by simp[eE,Ne.symm f,i])
 .exact DX
def vD.short{k:Nat}(h:vD str nx P)(r:nx n=ca m)(s:nx m=ca k)(i:n≠m):vD str (eE nx n<|some k) P:=by
 intro E o x y c l g p;have f:=o.GW r s i;by_cases j:x=n
 .subst j;simp[eE]at g;subst g;have⟨u,z,A⟩:=h E f x m c l r p;have⟨B,C,D⟩:=h E f m _ c u s z;exact⟨B,C,lE o.trans A D⟩
 .exact h E f x y c l (by simpa[eE,j]using g) p
def vD.aiv{Q}(h:vD str nx (Q++P))(k:∀E,Eq nx P E->∀m n,(m,n)∈Q->E m n):vD str nx P:=by
 intro E f
 exact h E ⟨f.refl,f.symm,f.trans,f.bV,λm n hm=>by
  cases List.mem_append.1 hm with
  |inl a=>exact k E f m n a|inr a=>exact f.WO m n a⟩
end
inductive Hd(nx:Nx):Nat->Nat->Prop where
 |here{n:Nat}:nx n=ea->Hd nx n n
 |step{n m h:Nat}:nx n=ca m->Hd nx m h->Hd nx n h
def Hd.head{nx}{n h}(k:Hd nx n h):nx h=ea:=by
 induction k with
 |here e=>exact e|step _ _ ih=>exact ih
def Hd.one{nx}{n h f:Nat}(k:Hd nx n h)(j:Hd nx n f):h=f:=by
 induction k with
 |here e=>cases j with
  |here=>rfl|step e' _=>grind
 |step e _ ih=>cases j with
  |here e'=>grind|step e' j=>grind
def Hd.nD{str}{nx}{V:Nat->Ty}(s:mF str nx V)(k:Hd nx n h):V n=V h:=by
 induction k with
 |here=>rfl|step e _ ih=>rw[s.bV _ _ e,ih]
def Hd.eq{nx}{P:List (Nat×Nat)}(s:Eq nx P E)(k:Hd nx n h):E n h:=by
 induction k with
 |here=>exact s.refl _|step e _ ih=>exact s.trans _ _ _ (s.bV _ _ e) ih
def Hd.so{nx}(k:Hd nx n h)(e:nx n=ca m):Hd nx m h:=by
 cases k with
 |here e'=>grind|step e' k=>grind
def Hd.short{nx}{k:Nat}(g:nx n=ca m)(i:nx m=ca k)(j:Hd nx x h):Hd (eE nx n<|some k) x h:=by
 induction j with
 | @here x e=>
   have:x≠n:=λe'=>by subst e';rw[g]at e;simp at e
   exact .here (by simpa[eE,this]using e)
 | @step x y h e j ih=>
   by_cases c:x=n
   .subst c;rw[g]at e;injection e with e;subst e;by_cases f:m=x
    .subst f;exact ih
    .exact .step (m:=k) (by simp[eE]) (ih.so<|by simp[eE,f,i])
   .exact .step (m:=y) (by simpa[eE,c]using e) ih
def Hd.join{nx}(g:nx a=ea)(i:nx b=ea)(f:a≠b)(j:Hd nx x h):Hd (eE nx a<|some b) x (if h=a then b else h):=by
 induction j with
 | @here x e=>
   by_cases c:x=a
   .subst c;simp;exact .step (m:=b) (by simp[eE]) (.here<|by simp[eE,Ne.symm f,i])
   .simp[c];exact .here (by simpa[eE,c]using e)
 | @step x y h e j ih=>
   have c:x≠a:=λc=>by subst c;rw[g]at e;simp at e
   exact .step (m:=y) (by simpa[eE,c]using e) ih
def yJ nx m n:=m=n\/∃h,Hd nx m h/\Hd nx n h
def yJ.is{nx}(t:∀n m,nx n=ca m->∃h,Hd nx n h):Eq nx [] (yJ nx):=by
 refine⟨λn=>jc rfl,?_,?_,?_,λ_ _ h=>by simp at h⟩
 .rintro m n(h|⟨h,a,b⟩)
  .exact jc h.symm
  .exact ja ⟨h,b,a⟩
 .rintro k m n(rfl|⟨h,a,b⟩)
  .exact id
  .rintro(rfl|⟨h',f,g⟩)
   .exact ja ⟨h,a,b⟩
   .have:=b.one f;subst this;exact ja ⟨h,a,g⟩
 .intro n m e;have⟨h,f⟩:=t n m e;exact ja ⟨h,f,f.so e⟩
def Fin(str:wP)nx(f:Nat->Nat)(F:Nat->Prop)(V:Nat->Ty):=
 ∀h,F h->nx h=ea/\match str h with
  |none=>V h=.var (f h)|some (c,l)=>∃hs,dL (Hd nx) l hs/\(∀x,x∈hs->F x)/\V h=.aM c (hs.map V)
def mQ{V:Nat->Ty}:∀{l:List Nat}{x},x∈l->size (V x)<=ak (l.map V)
 |_,_,h=>yI<|List.mem_map.2 ⟨_,h,rfl⟩
structure Of(str:wP)(vr:Nat->Nat)(D:Nat->Prop)(ty:Nat->Ty):Prop where
 var:∀n,D n->str n=ea->ty n=.var (vr n)
 aM:∀n c l,str n=ca (c,l)->D n/\ty n=.aM c (l.map ty)/\∀x,x∈l->D x
 one:∀m n,D m->D n->str m=ea->str n=ea->vr m=vr n->m=n
def eJ{V W:Nat->Ty}:∀{l:List Nat},(∀x,x∈l->V x=W x)->l.map V=l.map W
 |[],_=>rfl|x::l,h=>by
   have k:=eJ (V:=V) (W:=W) (l:=l) λy hy=>h y<|jp _ hy;simp[h x<|by simp,k]
def jH σ V(l:List Nat):aU σ (l.map V)=l.map λx=>sub σ<|V x:=by
 rw[iz,List.map_map];rfl
end Un
namespace Un
def rI:ByteArray:=⟨#[116,111,111,32,108,97,114,103,101]⟩
mutual
def sz:Ty->Nat
 |.var _=>1|.aM c l=>if c=rI then 49 else 1+qU l
def qU:List Ty->Nat
 |[]=>0|t::l=>sz t+qU l
end
mutual
def Whole:Ty->Prop
 |.var _=>True|.aM c l=>c≠rI/\jT l
def jT:List Ty->Prop
 |[]=>True|t::l=>Whole t/\jT l
end
mutual
theorem oA:∀t,Whole t->sz t=size t
 |.var n,_=>by simp[sz,size]|.aM c l,h=>by simp only[sz,size];rw[if_neg h.1,B_ l h.2]
theorem B_:∀l,jT l->qU l=ak l
 |[],_=>by simp[qU,ak]|t::l,h=>by simp only[qU,ak];rw[oA t h.1,B_ l h.2]
end
mutual
def adm:∀t,sz t<=49*size t
 |.var n=>by simp[sz,size]|.aM c l=>by
  have:=Md l;simp only[sz,size];split<;>omega
def Md:∀l,qU l<=49*ak l
 |[]=>by simp[qU,ak]|t::l=>by have:=adm t;have:=Md l;simp only[qU,ak];omega
end
mutual
def cu{σ:Nat->Ty}:∀t,Whole t->(∀n,aA n t->Whole (σ n))->Whole (sub σ t)
 |.var n,_,k=>k n rfl|.aM c l,h,k=>⟨h.1,yK l h.2 λn hn=>k n hn⟩
def yK{σ:Nat->Ty}:∀l,jT l->(∀n,bZ n l->Whole (σ n))->jT (aU σ l)
 |[],_,_=>trivial|t::l,h,k=>⟨cu t h.1 λn hn=>k n<|jc hn,yK l h.2 λn hn=>k n<|ja hn⟩
end
mutual
theorem GX:∀t,sz t<=48->Whole t
 |.var n,_=>trivial|.aM c l,h=>by
  by_cases e:c=rI
  .simp only[sz]at h;rw[if_pos e]at h;omega
  .simp only[sz]at h;rw[if_neg e]at h;exact⟨e,Ca l<|by omega⟩
theorem Ca:∀l,qU l<=48->jT l
 |[],_=>trivial|t::l,h=>by simp only[qU]at h;exact⟨GX t<|by omega,Ca l<|by omega⟩
end
def aev t:1<=sz t:=by
 cases t with
 |var n=>simp[sz]|aM c l=>simp only[sz];split<;>omega
mutual
def WQ(σ:Nat->Ty):∀t,sz t<=sz (sub σ t)
 |.var n=>by simpa[sub,sz]using aev (σ n)|.aM c l=>by
  have:=Pa σ l;simp only[sub,sz];split<;>omega
def Pa(σ:Nat->Ty):∀l,qU l<=qU (aU σ l)
 |[]=>by simp[aU,qU]|t::l=>by have:=WQ σ t;have:=Pa σ l;simp only[aU,qU];omega
end
mutual
def GY(σ:Nat->Ty):∀t,size t<=size (sub σ t)
 |.var n=>by simpa[sub,size]using size_pos (σ n)|.aM c l=>by have:=Cb σ l;simp only[sub,size];omega
def Cb(σ:Nat->Ty):∀l,ak l<=ak (aU σ l)
 |[]=>by simp[aU,ak]|t::l=>by have:=GY σ t;have:=Cb σ l;simp only[aU,ak];omega
end
mutual
def iA(σ:Nat->Ty)(C:Nat):∀t,(∀n,aA n t->size (σ n)<=C)->1<=C->size (sub σ t)<=C*size t
 |.var n,h,_=>by simpa[sub,size]using h n rfl|.aM c l,h,hC=>by
  have:=sq σ C l (λn hn=>h n hn) hC;simp only[sub,size,Nat.mul_add,j3];omega
def sq(σ:Nat->Ty)(C:Nat):∀l,(∀n,bZ n l->size (σ n)<=C)->1<=C->ak (aU σ l)<=C*ak l
 |[],_,_=>by simp[aU,ak]|t::l,h,hC=>by
  have:=iA σ C t (λn hn=>h n<|jc hn) hC;have:=sq σ C l (λn hn=>h n<|ja hn) hC;simp only[aU,ak,Nat.mul_add];omega
end
mutual
def WR(σ:Nat->Ty)(v:Nat):∀t,aA v t->sz (σ v)<=sz (sub σ t)\/48<sz (sub σ t)
 |.var n,h=>by simp[aA]at h;subst h;simp[sub]|.aM c l,h=>by
  simp only[sub,sz];split
  .exact ja (by omega)
  .obtain q|q:=Pb σ v l h
   .exact jc (by omega)
   .exact ja (by omega)
def Pb(σ:Nat->Ty)(v:Nat):∀l,bZ v l->sz (σ v)<=qU (aU σ l)\/48<qU (aU σ l)
 |[],h=>by simp[bZ]at h|t::l,h=>by
  simp only[aU,qU];obtain a|a:=h
  .obtain q|q:=WR σ v t a
   .exact jc (by omega)
   .exact ja (by omega)
  .obtain q|q:=Pb σ v l a
   .exact jc (by omega)
   .exact ja (by omega)
end
mutual
def lO{n:Nat}{σ:Nat->Ty}:∀t,aA n (sub σ t)↔∃m,aA m t/\aA n (σ m)
 |.var m=>by simp[sub,aA]|.aM c l=>by simp[sub,aA,Cc l]
def Cc{n:Nat}{σ:Nat->Ty}:∀l,bZ n (aU σ l)↔∃m,bZ m l/\aA n (σ m)
 |[]=>by simp[aU,bZ]|t::l=>by
  simp only[aU,bZ,lO t,Cc l];constructor
  .rintro(⟨m,a,b⟩|⟨m,a,b⟩)
   .exact⟨m,jc a,b⟩
   .exact⟨m,ja a,b⟩
  .rintro⟨m,a|a,b⟩
   .exact jc ⟨m,a,b⟩
   .exact ja ⟨m,a,b⟩
end
def GZ{a}(h:v∈a):seen a v=a:=by simp[seen,h]
mutual
def yL:∀(t:Ty)(a:List Nat),(∀n,aA n t->n∈a)->vars a t=a
 |.var n,a,h=>GZ (h n rfl)|.aM c l,a,h=>by simpa[vars]using Cd l a λn hn=>h n hn
def Cd:∀(l:List Ty)(a:List Nat),(∀n,bZ n l->n∈a)->aX a l=a
 |[],a,_=>rfl|t::l,a,h=>by
  simp only[aX];rw[yL t a λn hn=>h n<|jc hn];exact Cd l a λn hn=>h n<|ja hn
end
def sr(σ:Nat->Ty)a(l:List Nat):=l.foldl (λa v=>vars a<|σ v) a
def G7{σ:Nat->Ty}{n:Nat}:∀(l:List Nat)(a:List Nat),n∈sr σ a l↔n∈a\/∃v,v∈l/\aA n (σ v)
 |[],a=>by simp[sr]|v::l,a=>by
  have:=G7 (σ:=σ) (n:=n) l<|vars a<|σ v;simp only[sr,jo]at this⊢;rw[this,bC];constructor
  .rintro((h|h)|⟨x,g,f⟩)
   .exact jc h
   .exact ja ⟨v,by simp,h⟩
   .exact ja ⟨x,by simp[g],f⟩
  .rintro(h|⟨x,g,f⟩)
   .exact jc (jc h)
   .obtain e|e:=List.mem_cons.1 g
    .subst e;exact jc<|ja f
    .exact ja ⟨x,e,f⟩
mutual
def G9(σ:Nat->Ty)(b:List Nat):∀(t:Ty)(a:List Nat),vars (sr σ b a) (sub σ t)=sr σ b (vars a t)
 |.var n,a=>by
  simp only[sub,vars,seen];split
  .rename_i h;exact yL _ _ λm hm=>(G7 a b).2<|ja ⟨n,h,hm⟩
  .simp[sr,List.foldl_append]
 |.aM c l,a=>by simpa[sub,vars]using Ce σ b l a
def Ce(σ:Nat->Ty)(b:List Nat):∀(l:List Ty)(a:List Nat),aX (sr σ b a) (aU σ l)=sr σ b (aX a l)
 |[],a=>by simp[aU,aX]|t::l,a=>by
  simp only[aU,aX];rw[G9 σ b t a];exact Ce σ b l<|vars a t
end
def ue σ a t:vars a (sub σ t)=sr σ a (vars [] t):=by simpa[sr]using G9 σ a t []
def yM{σ τ:Nat->Ty}:∀(l a:List Nat),(∀v,v∈l->∀a,vars a (σ v)=vars a (τ v))->sr σ a l=sr τ a l
 |[],a,_=>rfl|v::l,a,h=>by
  have:=yM (σ:=σ) (τ:=τ) l (vars a<|τ v) λx hx=>h x (by simp[hx]);simp only[sr,jo]at this⊢;rw[h v (by simp) a];exact this
theorem WS t a:vars a t=sr Ty.var a (vars [] t):=by simpa[cM]using ue Ty.var a t
def dr t' t:=t'=t\/(48<sz t'/\48<size t/\vars [] t'=vars [] t)
def dr.refl t:dr t t:=jc rfl
theorem dr.vars{t' t}(h:dr t' t)a:vars a t'=vars a t:=by grind[dr,vars,WS]
def dr.adn{f t:Ty}(h:dr f t)(hw:Whole t):48<sz f↔48<size t:=by grind[dr,Whole,sz,size,oA]
theorem dr.sub{t' t}{σ' σ}(h:dr t' t)(j:∀n,aA n t->dr (σ' n) (σ n)):dr (sub σ' t') (sub σ t):=by
 have g:Un.vars [] (Un.sub σ' t')=Un.vars [] (Un.sub σ t):=by
  rw[ue σ' [] t',ue σ [] t,h.vars];refine yM _ _ λv g a=>(j v ?_).vars a;simpa using(bC t [] v).1 g
 obtain rfl|⟨l,o,_⟩:=h
 .by_cases f:∀n,aA n t'->σ' n=σ n
  .exact jc (sub_congr t' f)
  .have:∃n,aA n t'/\σ' n≠σ n:=by grind
   obtain⟨n,i,p⟩:=this;obtain e|⟨e1,r,_⟩:=j n i
   .exact absurd e p
   .refine ja ⟨?_,jz r<|GO σ n t' i,g⟩;obtain q|q:=WR σ' n t' i<;>omega
 .exact ja ⟨jz l<|WQ σ' t',jz o<|GY σ t,g⟩
def bJ t:=if sz t<=48 then t else .aM rI ((vars [] t).map Ty.var)
theorem Cf:∀(l a:List Nat),aX a (l.map Ty.var)=l.foldl seen a
 |[],a=>rfl|v::l,a=>by simp only[jm,aX,jo,vars];exact Cf l<|seen a v
theorem yN:∀(l a:List Nat),l.Nodup->(∀v,v∈l->v∉a)->l.foldl seen a=a++l
 |[],a,_,_=>by simp|v::l,a,h,k=>by
  have e:seen a v=a++[v]:=by simp[seen,k v<|by simp]
  rw[jo,e,yN l (a++[v]) (List.nodup_cons.1 h).2 ?_]
  .simp
  .grind
def gU t:vars [] (bJ t)=vars [] t:=by grind[vars,bJ,Cf,yN,dO]
def dr.cut{f t:Ty}(h:dr f t)(g:Whole t):dr (bJ f) t:=by
 by_cases e:sz f<=48
 .rw[bJ];rw[if_pos e];exact h
 .refine ja ⟨by rw[bJ];rw[if_neg e];simp[sz],(h.adn g).1<|by omega,?_⟩;rw[gU];exact h.vars []
def Tg{t:Ty}{C}(h:(vars [] t).length<=C)(hC:48<=C)(f:sz t<=48->size t<=48):size (bJ t)<=1+C:=by
 rw[bJ];split
 .rename_i q;have:=f q;omega
 .simp only[size];have:∀l:List Nat,ak (l.map Ty.var)=l.length:=λl=>by
   induction l with
   |nil=>rfl|cons x l ih=>simp only[jm,ak,size,ih,List.length_cons];omega
  rw[this];omega
def Me{t:Ty}(h:sz t<=48):size t<=48:=by grind[sz,size,oA,GX]
def Pc{p:Prop}(h:p:=by
 refine ja ⟨?_,?_,hv⟩
 .simp only[sz];rw[if_neg hc];simp only[qU];omega
 .simp only[size,ak];omega):p:=h
def dr.aew c(hc:c≠rI){a' a b' b}(f:dr a' a)(g:dr b' b):dr (.aM c [a',b']) (.aM c [a,b]):=by
 have hv:Un.vars [] (.aM c [a',b'])=Un.vars [] (.aM c [a,b]):=by
  simp only[Un.vars,aX];rw[f.vars,g.vars]
 obtain rfl|⟨a1,a2,_⟩:=f
 .obtain rfl|⟨b1,b2,_⟩:=g
  .exact jc rfl
  .exact Pc
 .exact Pc
end Un
def fC{a b}(h:a=true)(k:b=true):(a&&b)=true:=by rw[h,k];rfl
def DC:(laidOutB Tryz.prog)=true:=by kernel_rfl
def OJ:(mapsRowed Tryz.prog)=true:=by kernel_rfl
def cp6:((Tryz.prog.stops==[]))=true:=by kernel_rfl
def cp8:((Tryz.prog.stopKnobs==[]))=true:=by kernel_rfl
def aiw:(Tryz.prog.stopsHeard)=true:=by kernel_rfl
def aix:(Tryz.prog.mayEnter)=true:=by kernel_rfl
def Th:Tryz.pinned.checked.prog.mainIs=ca (Rows.retypedCard.stood.harness.1,Rows.retypedCard.stood.harness.2.toList):=by kernel_rfl
def Mf:true=Tryz.prog.looks []:=by kernel_rfl
end Go.Proofs.YtonaidfgokhmoaaGreatDoor
