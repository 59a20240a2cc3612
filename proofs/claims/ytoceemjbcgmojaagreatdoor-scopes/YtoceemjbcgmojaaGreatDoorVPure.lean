set_option linter.all false
set_option maxRecDepth 100000
set_option maxHeartbeats 200000
namespace Go.Proofs.YtoceemjbcgmojaaGreatDoor
namespace Pu
def at_ (s:ByteArray) (i:Nat):Nat:=if h:i<s.size then s[i].toNat else 256
theorem at_lt {s:ByteArray} {i:Nat} (h:i<s.size):at_ s i=s[i].toNat:=by simp [at_,h]
theorem at_ge {s:ByteArray} {i:Nat} (h:s.size≤i):at_ s i=256:=by simp [at_];omega
def lowB (c:Nat):Bool:=Nat.ble 97 c&&Nat.ble c 122
def upB (c:Nat):Bool:=Nat.ble 65 c&&Nat.ble c 90
def digB (c:Nat):Bool:=Nat.ble 48 c&&Nat.ble c 57
def nameB (c:Nat):Bool:=lowB c||upB c||digB c
def endF (s:ByteArray) (p:Nat→Bool):Nat→Nat→Nat
 |0,i=>i
 |f+1,i=>if p (at_ s i)=true then endF s p f (i+1) else i
def endTo (s:ByteArray) (p:Nat→Bool) (i:Nat):Nat:=endF s p (s.size-i) i
theorem endTo_yes {s:ByteArray} {p:Nat→Bool} {i:Nat} (h:i<s.size) (hp:p (at_ s i)=true):endTo s p i=endTo s p (i+1):=by
 unfold endTo
 obtain ⟨k,hk⟩:∃k,s.size-i=k+1:=⟨s.size-i-1,by omega⟩
 rw [hk,endF,if_pos hp,show s.size-(i+1)=k by omega]
theorem endTo_no {s:ByteArray} {p:Nat→Bool} {i:Nat} (h:i<s.size) (hp:p (at_ s i)=false):endTo s p i=i:=by
 unfold endTo
 obtain ⟨k,hk⟩:∃k,s.size-i=k+1:=⟨s.size-i-1,by omega⟩
 rw [hk,endF,if_neg (by simp [hp])]
theorem endTo_end {s:ByteArray} {p:Nat→Bool} {i:Nat} (h:s.size≤i):endTo s p i=i:=by
 unfold endTo;rw [show s.size-i=0 by omega];rfl
theorem endF_ge (s:ByteArray) (p:Nat→Bool) (f i:Nat):i≤endF s p f i∧endF s p f i≤i+f:=by
 induction f generalizing i with
 |zero=>simp [endF]
 |succ f ih=>unfold endF;split
             ·have:=ih (i+1);omega
             ·omega
theorem endTo_ge (s:ByteArray) (p:Nat→Bool) (i:Nat):i≤endTo s p i:=(endF_ge _ _ _ _).1
theorem endTo_le {s:ByteArray} (p:Nat→Bool) {i:Nat} (h:i≤s.size):endTo s p i≤s.size:=by
 have:=(endF_ge s p (s.size-i) i).2;unfold endTo;omega
def words:List ByteArray:=[⟨#[116,121,112,101]⟩,⟨#[108,101,116]⟩,⟨#[114,101,99]⟩,⟨#[105,110]⟩,⟨#[102,117,110]⟩,⟨#[105,102]⟩,⟨#[116,104,101,110]⟩,⟨#[101,108,115,101]⟩,⟨#[109,97,116,99,104]⟩,⟨#[119,105,116,104]⟩,⟨#[101,110,100]⟩,⟨#[116,114,117,101]⟩,⟨#[102,97,108,115,101]⟩]
def wordAt (k:Nat):ByteArray:=words.getD k ⟨#[]⟩
def wordB (s:ByteArray):Bool:=words.any fun w=>w.toList==s.toList
theorem wordB_at {s:ByteArray} {k:Nat} (hk:k<13) (h:((wordAt k).toList==s.toList)=true):wordB s=true:=by
 unfold wordB
 rw [List.any_eq_true]
 refine ⟨wordAt k,?_,h⟩
 unfold wordAt
 rw [List.getD_eq_getElem?_getD,List.getElem?_eq_getElem (by simpa [words] using hk)]
 exact List.getElem_mem _
theorem wordB_none {s:ByteArray} (h:∀j,j<13→((wordAt j).toList==s.toList)=false):wordB s=false:=by
 unfold wordB
 rw [List.any_eq_false]
 intro x hx
 obtain ⟨i,hi,rfl⟩:=List.getElem_of_mem hx
 have:=h i (by simpa [words] using hi)
 unfold wordAt at this
 rw [List.getD_eq_getElem?_getD,List.getElem?_eq_getElem hi] at this
 simpa using this
structure Tok where
 kind:Nat
 text:ByteArray
 frm:Nat
 to:Nat
def signB (c:Nat):Bool:=[40,41,44,59,58,61,124,43,45,42,60,95].any fun d=>d==c
def mkT (s:ByteArray) (i:Nat) (k to:Nat):Tok:=⟨k,s.extract i to,i,to⟩
def tokAt (s:ByteArray) (i:Nat):Tok:=
 if lowB (at_ s i)=true then
  if wordB (s.extract i (endTo s nameB i))=true then mkT s i 5 (endTo s nameB i) else mkT s i 1 (endTo s nameB i)
 else if upB (at_ s i)=true then mkT s i 2 (endTo s nameB i)
 else if at_ s i=39∧lowB (at_ s (i+1))=true then
  if wordB (s.extract (i+1) (endTo s nameB (i+1)))=true then mkT s i 6 (endTo s nameB (i+1)) else mkT s i 3 (endTo s nameB (i+1))
 else if digB (at_ s i)=true then
  if endTo s digB (i+1)-i≤9 then mkT s i 4 (endTo s digB (i+1)) else mkT s i 6 (endTo s digB (i+1))
 else if at_ s i=45∧at_ s (i+1)=62 then mkT s i 5 (i+2)
 else if signB (at_ s i)=true then mkT s i 5 (i+1) else mkT s i 6 (i+1)
end Pu
namespace Pu
theorem endTo_gt {s:ByteArray} {p:Nat→Bool} {i:Nat} (h:i<s.size) (hp:p (at_ s i)=true):i+1≤endTo s p i:=by
 rw [endTo_yes h hp];exact endTo_ge _ _ _
theorem at_ne {s:ByteArray} {i:Nat} (h:at_ s i<256):i<s.size:=by
 by_cases e:i<s.size
 ·exact e
 ·rw [at_ge (by omega)] at h;omega
theorem tokAt_frm (s:ByteArray) (i:Nat):(tokAt s i).frm=i:=by
 unfold tokAt
 repeat (first|rfl|split)
theorem tokAt_to (s:ByteArray) (i:Nat) (h:i<s.size):i<(tokAt s i).to∧(tokAt s i).to≤s.size:=by
 unfold tokAt
 by_cases h1:lowB (at_ s i)=true
 ·have a:=endTo_gt (p:=nameB) h (by simp [nameB,h1]);have b:=endTo_le (s:=s) nameB (i:=i) (by omega)
  rw [if_pos h1];split<;>exact ⟨a,b⟩
 rw [if_neg h1]
 by_cases h2:upB (at_ s i)=true
 ·have a:=endTo_gt (p:=nameB) h (by simp [nameB,h2]);have b:=endTo_le (s:=s) nameB (i:=i) (by omega)
  rw [if_pos h2];exact ⟨a,b⟩
 rw [if_neg h2]
 by_cases h3:at_ s i=39∧lowB (at_ s (i+1))=true
 ·have c:i+1<s.size:=at_ne (by have:=h3.2;simp [lowB] at this;omega)
  have a:=endTo_ge s nameB (i+1);have b:=endTo_le (s:=s) nameB (i:=i+1) (by omega)
  rw [if_pos h3];split<;>exact ⟨a,b⟩
 rw [if_neg h3]
 by_cases h4:digB (at_ s i)=true
 ·have a:=endTo_ge s digB (i+1);have b:=endTo_le (s:=s) digB (i:=i+1) (by omega)
  rw [if_pos h4];split<;>exact ⟨a,b⟩
 rw [if_neg h4]
 by_cases h5:at_ s i=45∧at_ s (i+1)=62
 ·have c:i+1<s.size:=at_ne (by omega)
  rw [if_pos h5];exact ⟨by show i<i+2;omega,by show i+2≤_;omega⟩
 rw [if_neg h5]
 split<;>exact ⟨by show i<i+1;omega,by show i+1≤_;omega⟩
def blankB (c:Nat):Bool:=c==32||c==10
def endTok (s:ByteArray):Tok:=⟨7,⟨#[]⟩,s.size,s.size⟩
def toksF (s:ByteArray):Nat→Nat→List Tok
 |0,_=>[endTok s]
 |f+1,i=>if i<s.size then (if blankB (at_ s i)=true then toksF s f (i+1) else tokAt s i::toksF s f (tokAt s i).to) else [endTok s]
theorem toksF_more (s:ByteArray):∀f g i,s.size≤i+f→s.size≤i+g→toksF s f i=toksF s g i:=by
 intro f
 induction f with
 |zero=>
  intro g i h1 h2
  cases g with
  |zero=>rfl
  |succ g=>unfold toksF;rw [if_neg (by omega)]
 |succ f ih=>
  intro g i h1 h2
  cases g with
  |zero=>unfold toksF;rw [if_neg (by omega)]
  |succ g=>
   unfold toksF
   by_cases h:i<s.size
   ·rw [if_pos h,if_pos h]
    have ht:=tokAt_to s i h
    rw [ih g (i+1) (by omega) (by omega),ih g (tokAt s i).to (by omega) (by omega)]
   ·rw [if_neg h,if_neg h]
def toks (s:ByteArray) (i:Nat):List Tok:=toksF s (s.size-i) i
theorem toks_end {s:ByteArray} {i:Nat} (h:s.size≤i):toks s i=[endTok s]:=by
 unfold toks;rw [show s.size-i=0 by omega];rfl
theorem toks_blank {s:ByteArray} {i:Nat} (h:i<s.size) (hb:blankB (at_ s i)=true):toks s i=toks s (i+1):=by
 unfold toks
 obtain ⟨k,hk⟩:∃k,s.size-i=k+1:=⟨s.size-i-1,by omega⟩
 rw [hk,toksF,if_pos h,if_pos hb,show s.size-(i+1)=k by omega]
theorem toks_tok {s:ByteArray} {i:Nat} (h:i<s.size) (hb:blankB (at_ s i)=false):toks s i=tokAt s i::toks s (tokAt s i).to:=by
 unfold toks
 obtain ⟨k,hk⟩:∃k,s.size-i=k+1:=⟨s.size-i-1,by omega⟩
 have ht:=tokAt_to s i h
 rw [hk,toksF,if_pos h,if_neg (by simp [hb]),toksF_more s k (s.size-(tokAt s i).to) _ (by omega) (by omega)]
end Pu
section
namespace Un
inductive Ty where
 |var (n:Nat):Ty
 |con (c:ByteArray) (l:List Ty):Ty
mutual
def sub (σ:Nat→Ty):Ty→Ty
 |.var n=>σ n
 |.con c l=>.con c (subL σ l)
def subL (σ:Nat→Ty):List Ty→List Ty
 |[]=>[]
 |t::l=>sub σ t::subL σ l
end
mutual
def size:Ty→Nat
 |.var _=>1
 |.con _ l=>1+sizeL l
def sizeL:List Ty→Nat
 |[]=>0
 |t::l=>size t+sizeL l
end
mutual
def Occ (v:Nat):Ty→Prop
 |.var n=>n=v
 |.con _ l=>OccL v l
def OccL (v:Nat):List Ty→Prop
 |[]=>False
 |t::l=>Occ v t∨OccL v l
end
def seen (l:List Nat) (v:Nat):List Nat:=if v∈l then l else l++[v]
mutual
def vars (a:List Nat):Ty→List Nat
 |.var n=>seen a n
 |.con _ l=>varsL a l
def varsL (a:List Nat):List Ty→List Nat
 |[]=>a
 |t::l=>varsL (vars a t) l
end
theorem subL_map (σ:Nat→Ty):∀l,subL σ l=l.map (sub σ)
 |[]=>rfl
 |t::l=>by simp [subL,subL_map σ l]
theorem subL_length (σ:Nat→Ty) (l:List Ty):(subL σ l).length=l.length:=by simp [subL_map]
mutual
theorem sub_sub (τ σ:Nat→Ty):∀t,sub τ (sub σ t)=sub (fun n=>sub τ (σ n)) t
 |.var n=>by simp [sub]
 |.con c l=>by simp [sub,subL_sub τ σ l]
theorem subL_sub (τ σ:Nat→Ty):∀l,subL τ (subL σ l)=subL (fun n=>sub τ (σ n)) l
 |[]=>by simp [subL]
 |t::l=>by simp [subL,sub_sub τ σ t,subL_sub τ σ l]
end
mutual
theorem sub_var:∀t,sub Ty.var t=t
 |.var n=>by simp [sub]
 |.con c l=>by simp [sub,subL_var l]
theorem subL_var:∀l,subL Ty.var l=l
 |[]=>by simp [subL]
 |t::l=>by simp [subL,sub_var t,subL_var l]
end
mutual
theorem sub_congr {σ τ:Nat→Ty}:∀t,(∀n,Occ n t→σ n=τ n)→sub σ t=sub τ t
 |.var n,h=>by simpa [sub] using h n (by simp [Occ])
 |.con c l,h=>by simp [sub,subL_congr l (fun n hn=>h n (by simpa [Occ] using hn))]
theorem subL_congr {σ τ:Nat→Ty}:∀l,(∀n,OccL n l→σ n=τ n)→subL σ l=subL τ l
 |[],_=>by simp [subL]
 |t::l,h=>by simp [subL,sub_congr t (fun n hn=>h n (Or.inl hn)),subL_congr l (fun n hn=>h n (Or.inr hn))]
end
mutual
theorem sub_inj {σ τ:Nat→Ty}:∀t,sub σ t=sub τ t→∀n,Occ n t→σ n=τ n
 |.var m,h,n,hn=>by simp [Occ] at hn;subst hn;simpa [sub] using h
 |.con c l,h,n,hn=>subL_inj l (by simpa [sub] using h) n (by simpa [Occ] using hn)
theorem subL_inj {σ τ:Nat→Ty}:∀l,subL σ l=subL τ l→∀n,OccL n l→σ n=τ n
 |[],_,n,hn=>by simp [OccL] at hn
 |t::l,h,n,hn=>by
   simp [subL] at h
   cases hn with
   |inl a=>exact sub_inj t h.1 n a
   |inr a=>exact subL_inj l h.2 n a
end
mutual
theorem size_occ (σ:Nat→Ty) (v:Nat):∀t,Occ v t→size (σ v)≤size (sub σ t)
 |.var n,h=>by simp [Occ] at h;subst h;simp [sub]
 |.con c l,h=>by have:=sizeL_occ σ v l (by simpa [Occ] using h);simp [sub,size];omega
theorem sizeL_occ (σ:Nat→Ty) (v:Nat):∀l,OccL v l→size (σ v)≤sizeL (subL σ l)
 |[],h=>by simp [OccL] at h
 |t::l,h=>by
   simp [subL,sizeL]
   cases h with
   |inl a=>have:=size_occ σ v t a;omega
   |inr a=>have:=sizeL_occ σ v l a;omega
end
theorem mem_seen {a:List Nat} {v n:Nat}:n∈seen a v↔n∈a∨n=v:=by
 unfold seen
 split
 ·constructor
  ·exact Or.inl
  ·rintro (h|h)
   ·exact h
   ·subst h;assumption
 ·simp
mutual
theorem mem_vars:∀(t:Ty) (a:List Nat) (n:Nat),n∈vars a t↔n∈a∨Occ n t
 |.var m,a,n=>by simp [vars,Occ,mem_seen,eq_comm]
 |.con c l,a,n=>by simp [vars,Occ,mem_varsL l a n]
theorem mem_varsL:∀(l:List Ty) (a:List Nat) (n:Nat),n∈varsL a l↔n∈a∨OccL n l
 |[],a,n=>by simp [varsL,OccL]
 |t::l,a,n=>by simp [varsL,OccL,mem_varsL l,mem_vars t,or_assoc]
end
theorem nodup_seen {a:List Nat} (h:a.Nodup) (v:Nat):(seen a v).Nodup:=by
 unfold seen
 split
 ·exact h
 ·rename_i hv
  rw [List.nodup_append]
  refine ⟨h,by simp,?_⟩
  intro x hx y hy e
  simp at hy
  subst e;subst hy
  exact hv hx
mutual
theorem nodup_vars:∀(t:Ty) {a:List Nat},a.Nodup→(vars a t).Nodup
 |.var m,a,h=>by simpa [vars] using nodup_seen h m
 |.con c l,a,h=>by simpa [vars] using nodup_varsL l h
theorem nodup_varsL:∀(l:List Ty) {a:List Nat},a.Nodup→(varsL a l).Nodup
 |[],a,h=>by simpa [varsL] using h
 |t::l,a,h=>by simpa [varsL] using nodup_varsL l (nodup_vars t h)
end
theorem seen_pre (a:List Nat) (v:Nat):a<+:seen a v:=by
 unfold seen
 split
 ·exact List.prefix_refl _
 ·exact List.prefix_append _ _
mutual
theorem vars_pre:∀(t:Ty) (a:List Nat),a<+:vars a t
 |.var m,a=>by simpa [vars] using seen_pre a m
 |.con c l,a=>by simpa [vars] using varsL_pre l a
theorem varsL_pre:∀(l:List Ty) (a:List Nat),a<+:varsL a l
 |[],a=>by simp [varsL]
 |t::l,a=>by simpa [varsL] using (vars_pre t a).trans (varsL_pre l _)
end
def Ren (ρ:Nat→Nat) (a:List Nat):Prop:=∀m,m∈a→∀n,n∈a→ρ m=ρ n→m=n
abbrev ren (ρ:Nat→Nat):Nat→Ty:=fun n=>.var (ρ n)
theorem seen_map {ρ:Nat→Nat} {a:List Nat} {v:Nat} (h:Ren ρ (seen a v)):seen (a.map ρ) (ρ v)=(seen a v).map ρ:=by
 by_cases hv:v∈a
 ·have h1:ρ v∈a.map ρ:=List.mem_map.2 ⟨v,hv,rfl⟩
  rw [seen,seen,if_pos hv,if_pos h1]
 ·have h1:¬ρ v∈a.map ρ:=by
   intro hm
   obtain ⟨u,hu,e⟩:=List.mem_map.1 hm
   have:=h u (mem_seen.2 (Or.inl hu)) v (mem_seen.2 (Or.inr rfl)) e
   subst this
   exact hv hu
  rw [seen,seen,if_neg hv,if_neg h1]
  simp
theorem Ren.pre {ρ:Nat→Nat} {a b:List Nat} (h:Ren ρ b) (k:a<+:b):Ren ρ a:=fun m hm n hn e=>h m (k.subset hm) n (k.subset hn) e
mutual
theorem vars_ren {ρ:Nat→Nat}:∀(t:Ty) {a:List Nat},Ren ρ (vars a t)→vars (a.map ρ) (sub (ren ρ) t)=(vars a t).map ρ
 |.var m,a,h=>by simpa [vars,sub] using seen_map (by simpa [vars] using h)
 |.con c l,a,h=>by simpa [vars,sub] using varsL_ren l (by simpa [vars] using h)
theorem varsL_ren {ρ:Nat→Nat}:∀(l:List Ty) {a:List Nat},Ren ρ (varsL a l)→varsL (a.map ρ) (subL (ren ρ) l)=(varsL a l).map ρ
 |[],a,h=>by simp [varsL,subL]
 |t::l,a,h=>by
   simp only [varsL,subL] at h⊢
   rw [vars_ren t (h.pre (varsL_pre l _)),varsL_ren l h]
end
theorem idx_map {ρ:Nat→Nat} {v:Nat}:∀{a:List Nat},Ren ρ a→v∈a→(a.map ρ).idxOf (ρ v)=a.idxOf v
 |[],_,h=>by simp at h
 |x::a,h,hv=>by
   by_cases e:x=v
   ·subst e;simp
   ·have e':¬ρ x=ρ v:=fun k=>e (h x (by simp) v hv k)
    have hv':v∈a:=by
     cases List.mem_cons.1 hv with
     |inl k=>exact absurd k.symm e
     |inr k=>exact k
    have b1:(x==v)=false:=by simpa using e
    have b2:(ρ x==ρ v)=false:=by simpa using e'
    have:=idx_map (fun m hm n hn=>h m (List.mem_cons_of_mem _ hm) n (List.mem_cons_of_mem _ hn)) hv'
    simp only [List.map_cons,List.idxOf_cons,b1,b2,this]
theorem ren_of_both {σ τ:Nat→Ty} {a b:Ty} (h1:sub σ a=b) (h2:sub τ b=a):
 ∃ρ:Nat→Nat,Ren ρ (vars [] a)∧b=sub (ren ρ) a:=by
 have h3:sub (fun n=>sub τ (σ n)) a=sub Ty.var a:=by rw [←sub_sub,h1,h2,sub_var]
 have h4:∀n,Occ n a→sub τ (σ n)=.var n:=fun n hn=>sub_inj a h3 n hn
 have h5:∀n,Occ n a→∃m,σ n=.var m:=fun n hn=>by
  have:=h4 n hn
  cases e:σ n with
  |var m=>exact ⟨m,rfl⟩
  |con c l=>rw [e] at this;simp [sub] at this
 refine ⟨fun n=>match σ n with|.var m=>m|.con _ _=>0,?_,?_⟩
 ·intro m hm n hn e
  have om:Occ m a:=by simpa [mem_vars] using hm
  have on:Occ n a:=by simpa [mem_vars] using hn
  obtain ⟨x,hx⟩:=h5 m om
  obtain ⟨y,hy⟩:=h5 n on
  simp only [hx,hy] at e
  have a1:=h4 m om
  have a2:=h4 n on
  rw [hx,e,←hy,a2] at a1
  injection a1 with a1
  exact a1.symm
 ·rw [←h1]
  refine sub_congr a fun n hn=>?_
  obtain ⟨x,hx⟩:=h5 n hn
  simp [ren,hx]
mutual
theorem size_ren (ρ:Nat→Nat):∀t,size (sub (ren ρ) t)=size t
 |.var n=>by simp [sub,size]
 |.con c l=>by simp [sub,size,sizeL_ren ρ l]
theorem sizeL_ren (ρ:Nat→Nat):∀l,sizeL (subL (ren ρ) l)=sizeL l
 |[]=>by simp [subL,sizeL]
 |t::l=>by simp [subL,sizeL,size_ren ρ t,sizeL_ren ρ l]
end
end Un
end
section
namespace Un
abbrev nFn:ByteArray:=⟨#[62]⟩
abbrev nPr:ByteArray:=⟨#[44]⟩
def par (p:Bool) (s:List UInt8):List UInt8:=if p=true then 40::(s++[41]) else s
def nth (ps:List (Nat→List UInt8)) (i:Nat):Nat→List UInt8:=ps.getD i fun _=>[]
def joined (c:ByteArray) (ps:List (Nat→List UInt8)) (tight:Nat):List UInt8:=
 if c=nFn then par (decide (0<tight)) (nth ps 0 1++([32,45,62,32]++nth ps 1 0))
 else if c=nPr then 40::(nth ps 0 0++([44,32]++(nth ps 1 0++[41])))
 else par (decide (1<tight)&& !ps.isEmpty) (c.toList++ps.flatMap fun p=>32::p 2)
section
variable (dec:Nat→List UInt8)
mutual
def wr (L:List Nat):Ty→Nat→List UInt8
 |.var n=>fun _=>39::118::dec (L.idxOf n)
 |.con c l=>joined c (wrA L l)
def wrA (L:List Nat):List Ty→List (Nat→List UInt8)
 |[]=>[]
 |t::l=>wr L t::wrA L l
end
def written (t:Ty):List UInt8:=wr dec (vars [] t) t 0
theorem idx_pre {v:Nat}:∀{a b:List Nat},a<+:b→v∈a→b.idxOf v=a.idxOf v
 |[],_,_,h=>by simp at h
 |x::a,b,h,hv=>by
   obtain ⟨r,rfl⟩:=h
   by_cases e:x=v
   ·subst e;simp
   ·have b1:(x==v)=false:=by simpa using e
    have hv':v∈a:=by
     cases List.mem_cons.1 hv with
     |inl k=>exact absurd k.symm e
     |inr k=>exact k
    have:=idx_pre (List.prefix_append a r) hv'
    simp only [List.cons_append,List.idxOf_cons,b1,this]
mutual
theorem wr_pre {a b:List Nat} (h:a<+:b):∀t,(∀n,Occ n t→n∈a)→wr dec b t=wr dec a t
 |.var n,k=>by simp only [wr,idx_pre h (k n (by simp [Occ]))]
 |.con c l,k=>by simp only [wr,wrA_pre h l (fun n hn=>k n (by simpa [Occ] using hn))]
theorem wrA_pre {a b:List Nat} (h:a<+:b):∀l,(∀n,OccL n l→n∈a)→wrA dec b l=wrA dec a l
 |[],_=>by simp [wrA]
 |t::l,k=>by simp only [wrA,wr_pre h t (fun n hn=>k n (Or.inl hn)),wrA_pre h l (fun n hn=>k n (Or.inr hn))]
end
mutual
theorem wr_ren {ρ:Nat→Nat} {L:List Nat} (h:Ren ρ L):∀t,(∀n,Occ n t→n∈L)→wr dec (L.map ρ) (sub (ren ρ) t)=wr dec L t
 |.var n,k=>by simp only [wr,sub,ren,idx_map h (k n (by simp [Occ]))]
 |.con c l,k=>by simp only [wr,sub,wrA_ren h l (fun n hn=>k n (by simpa [Occ] using hn))]
theorem wrA_ren {ρ:Nat→Nat} {L:List Nat} (h:Ren ρ L):∀l,(∀n,OccL n l→n∈L)→wrA dec (L.map ρ) (subL (ren ρ) l)=wrA dec L l
 |[],_=>by simp [wrA,subL]
 |t::l,k=>by simp only [wrA,subL,wr_ren h t (fun n hn=>k n (Or.inl hn)),wrA_ren h l (fun n hn=>k n (Or.inr hn))]
end
theorem written_ren {ρ:Nat→Nat} {t:Ty} (h:Ren ρ (vars [] t)):written dec (sub (ren ρ) t)=written dec t:=by
 have e:=vars_ren (ρ:=ρ) t (a:=[]) h
 simp only [List.map_nil] at e
 rw [written,e,wr_ren dec h t (fun n hn=>(mem_vars t [] n).2 (Or.inr hn)),←written]
def Mgu (a b T:Ty):Prop:=(∃R,sub R a=T∧sub R b=T)∧∀σ,sub σ a=sub σ b→∃τ,sub τ T=sub σ a
theorem Mgu.one {a b T U:Ty} (h:Mgu a b T) (k:Mgu a b U):written dec U=written dec T∧size U=size T:=by
 obtain ⟨⟨R,r1,r2⟩,h2⟩:=h
 obtain ⟨⟨S,s1,s2⟩,k2⟩:=k
 obtain ⟨τ,e1⟩:=h2 S (s1.trans s2.symm)
 obtain ⟨μ,e2⟩:=k2 R (r1.trans r2.symm)
 rw [s1] at e1
 rw [r1] at e2
 obtain ⟨ρ,h3,rfl⟩:=ren_of_both e1 e2
 exact ⟨written_ren dec h3,size_ren ρ T⟩
end
end Un
end
section
namespace Un
structure Knw (K:Nat→Option Ty) (R:Nat→Ty) (rk:Nat→Nat):Prop where
 open_:∀n,K n=none→R n=.var n
 shut:∀n t,K n=some t→R n=sub R t
 rank:∀n u,K n=some (.var u)→rk u<rk n
theorem Knw.start:Knw (fun _=>none) Ty.var (fun _=>0):=⟨fun _ _=>rfl,fun _ _ h=>by simp at h,fun _ _ h=>by simp at h⟩
theorem Knw.con {K:Nat→Option Ty} {R:Nat→Ty} {rk:Nat→Nat} (_:Knw K R rk) {c:ByteArray} {l:List Ty}:sub R (.con c l)=.con c (subL R l):=by simp [sub]
def upd {α:Type} (K:Nat→α) (a:Nat) (t:α):Nat→α:=fun n=>if n=a then t else K n
def put1 (a:Nat) (B:Ty):Nat→Ty:=fun n=>if n=a then B else .var n
structure Made (R R':Nat→Ty) (a b:Ty):Prop where
 same:sub R' a=sub R' b
 of_:∃δ,∀n,R' n=sub δ (R n)
 least:∀σ,sub σ (sub R a)=sub σ (sub R b)→∀n,sub σ (R' n)=sub σ (R n)
theorem Made.apply {R R':Nat→Ty} {a b:Ty} (h:Made R R' a b) {σ:Nat→Ty} (e:sub σ (sub R a)=sub σ (sub R b)) (t:Ty):sub σ (sub R' t)=sub σ (sub R t):=by
 rw [sub_sub,sub_sub]
 exact sub_congr t fun n _=>h.least σ e n
theorem Made.refl {R:Nat→Ty} {a b:Ty} (h:sub R a=sub R b):Made R R a b:=⟨h,⟨Ty.var,fun _=>(sub_var _).symm⟩,fun _ _ _=>rfl⟩
structure MadeL (R R':Nat→Ty) (a b:List Ty):Prop where
 same:subL R' a=subL R' b
 of_:∃δ,∀n,R' n=sub δ (R n)
 least:∀σ,subL σ (subL R a)=subL σ (subL R b)→∀n,sub σ (R' n)=sub σ (R n)
theorem MadeL.nil (R:Nat→Ty):MadeL R R [] []:=⟨rfl,⟨Ty.var,fun _=>(sub_var _).symm⟩,fun _ _ _=>rfl⟩
theorem qe8 (σ:Nat→Ty) (a b:List Ty):subL σ (a++b)=subL σ a++subL σ b:=by simp [subL_map]
theorem MadeL.con {R R':Nat→Ty} {a b:List Ty} (c:ByteArray) (h:MadeL R R' a b):Made R R' (.con c a) (.con c b):=
 ⟨by simp [sub,h.same],h.of_,fun σ e=>h.least σ (by simpa [sub] using e)⟩
theorem MadeL.no {R R':Nat→Ty} {a b a' b':List Ty} {x y:Ty} (hl:a.length=b.length) (h:MadeL R R' a b) (k:∀σ,sub σ (sub R' x)≠sub σ (sub R' y)) (c d:ByteArray) (σ:Nat→Ty):
 sub σ (sub R (.con c (a++x::a')))≠sub σ (sub R (.con d (b++y::b'))):=by
 intro e
 simp only [sub,Ty.con.injEq] at e
 have e:=e.2
 rw [qe8,qe8,qe8,qe8] at e
 have e1:=List.append_inj e (by simp [subL_length,hl])
 have e2:=h.least σ e1.1
 refine k σ ?_
 have:∀t,sub σ (sub R' t)=sub σ (sub R t):=fun t=>by
  rw [sub_sub,sub_sub];exact sub_congr t fun n _=>e2 n
 rw [this,this]
 have e3:=e1.2
 simp only [subL,List.cons.injEq] at e3
 exact e3.1
end Un
end
end Go.Proofs.YtoceemjbcgmojaaGreatDoor
