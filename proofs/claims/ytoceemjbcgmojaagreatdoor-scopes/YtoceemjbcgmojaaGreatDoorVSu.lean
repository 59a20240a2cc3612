import Derived.Deep.LoopGhost
import Derived.Test.YtoceemjbcgmojaaGreatDoorVSh0
import Derived.Test.YtoceemjbcgmojaaGreatDoorVSj
set_option linter.all false
set_option maxRecDepth 100000
set_option maxHeartbeats 200000
namespace Go.Proofs.YtoceemjbcgmojaaGreatDoor
section
open Go Go.RowKit
structure MX (rb g cap:Nat) (T:List Pu.Tok) (w0:World) (bx:Nat) (σ:St) (v:Value) (xs:List NV) (L:List Nd) (P:Nat→Prop) (wr:World):Prop where
 ss:SS wr rb g cap T σ
 ke:Ke rb w0 wr
 zz:bx≤wr.heap.size
 rs:Bx wr w0.heap.size qau
 ow:wr.ownsRow bx 62 7 v xs.length (flat xs)
 pb:∀b,P b→w0.heap.size<b∧b<wr.heap.size
 pq:∀b q,P b→v.ownBlock=some q→q≠b
 nr:∀i (h:i<L.length) (h2:i<xs.length),NR wr P L[i] xs[i]
section
variable {rb g cap:Nat} {T:List Pu.Tok} {w0:World} {bx:Nat} {σ σ':St} {v:Value} {xs:List NV} {L:List Nd} {P:Nat→Prop} {wr w':World}
theorem MX.kee (h:MX rb g cap T w0 bx σ v xs L P wr) (hr:rb<w0.heap.size) (hx:w0.heap.size<bx) (k:Ke rb wr w') (s:SS w' rb g cap T σ'):MX rb g cap T w0 bx σ' v xs L P w':=
 ⟨s,h.ke.trans k,Nat.le_trans h.zz k.size,h.rs.ke k (by omega),own_ke h.ow k (by omega),fun b p=>⟨(h.pb b p).1,Nat.lt_of_lt_of_le (h.pb b p).2 k.size⟩,h.pq,fun i a b=>(h.nr i a b).ke k (fun b p=>by have:=(h.pb b p).1;omega)⟩
theorem MX.bel (h:MX rb g cap T w0 bx σ v xs L P wr) (hb:Below wr.heap.size wr w'):MX rb g cap T w0 bx σ v xs L P w':=
 ⟨h.ss.below hb,h.ke.trans (Ke.of hb),Nat.le_trans h.zz hb.size,h.rs.below hb,qa8 h.ow hb,fun b p=>⟨(h.pb b p).1,Nat.lt_of_lt_of_le (h.pb b p).2 hb.size⟩,h.pq,fun i a b=>(h.nr i a b).bel hb⟩
theorem flat_two (xs:List NV) (y z:NV):flat (xs++[y,z])=flat xs++(y.l++z.l):=by simp [flat]
theorem MX.grow {W w3:World} {v3:Value} {y z:NV} {p e:Nd} {lo:Nat} (h:MX rb g cap T w0 bx σ v xs L P W) (hr:rb<w0.heap.size) (hg0:g<w0.heap.size) (hx:w0.heap.size<bx) (hg:W.grownBy w3 v.ownBlock) (ho:w3.ownsRow bx 62 7 v3 (xs.length+2) (flat xs++(y.l++z.l))) (ha:v3.ownBlock=v.ownBlock∨v3.ownBlock=some W.heap.size)
 (hlo:bx≤lo) (hv:∀q,v.ownBlock=some q→q<lo) (hL:L.length=xs.length) (hp:NR W (fun b=>lo≤b∧b<W.heap.size) p y) (he:NR W (fun b=>lo≤b∧b<W.heap.size) e z):
 MX rb g cap T w0 bx σ v3 (xs++[y,z]) (L++[p,e]) (fun b=>P b∨(lo≤b∧b<W.heap.size)) w3:=by
 have hq:∀q,v.ownBlock=some q→bx≤q∧q<W.heap.size:=World.ownsRow.lt h.ow
 have e1:(xs++[y,z]).length=xs.length+2:=by simp
 refine ⟨SS.grown hg h.ss (fun j hj=>by have:=hq j hj;omega),Ke.grown hg h.ke (fun j hj=>by have:=hq j hj;omega),Nat.le_trans h.zz hg.size,Bx.grown hg h.rs (fun j hj=>by have:=hq j hj;omega),by rw [e1,flat_two];exact ho,?_,?_,?_⟩
 ·rintro b (q|q)
  ·exact ⟨(h.pb b q).1,Nat.lt_of_lt_of_le (h.pb b q).2 hg.size⟩
  ·exact ⟨by omega,Nat.lt_of_lt_of_le q.2 hg.size⟩
 ·intro b q pb hb
  rcases ha with a|a
  ·rw [a] at hb
   rcases pb with r|r
   ·exact h.pq b q r hb
   ·have:=hv q hb;omega
  ·rw [a] at hb
   cases hb
   rcases pb with r|r
   ·have:=(h.pb b r).2;omega
   ·omega
 ·intro i hi h2
  by_cases hlt:i<xs.length
  ·rw [List.getElem_append_left hlt,List.getElem_append_left (by omega)]
   exact (NR.grown hg (h.nr i (by omega) hlt) (fun j b hj pb=>h.pq b j pb hj)).move (br _) (fun _ _ _=>rfl) (fun b pb _=>Or.inl pb)
  ·rw [List.getElem_append_right (by omega),List.getElem_append_right (by omega)]
   have hi':i-xs.length=0∨i-xs.length=1:=by simp at h2;omega
   have mv:∀{nd:Nd} {x:NV},NR W (fun b=>lo≤b∧b<W.heap.size) nd x→NR w3 (fun b=>P b∨(lo≤b∧b<W.heap.size)) nd x:=fun k=>
    (NR.grown hg k (fun j b hj pb=>by have:=hv j hj;omega)).move (br _) (fun _ _ _=>rfl) (fun b pb _=>Or.inr pb)
   rcases hi' with q|q
   ·simp only [hL,q,List.getElem_cons_zero];exact mv hp
   ·simp only [hL,q,List.getElem_cons_succ,List.getElem_cons_zero];exact mv he
theorem MX.node {va:Option Addr} {vc:Nat} (h:MX rb g cap T w0 bx σ (.slice va xs.length vc) xs L P wr) (hx:w0.heap.size<bx) (hL:L.length=xs.length) (hx0:1≤xs.length) (k:Nat) (s:BA) (n f t a:Nat) (v0 v1 v2 v3 v4 v5 v6:Value):
 NR (((((((wr.setCell ⟨w0.heap.size,0,none⟩ v0).setCell ⟨w0.heap.size,1,none⟩ v1).setCell ⟨w0.heap.size,2,none⟩ v2).setCell ⟨w0.heap.size,3,none⟩ v3).setCell ⟨w0.heap.size,4,none⟩ v4).setCell ⟨w0.heap.size,5,none⟩ v5).setCell ⟨w0.heap.size,6,none⟩ v6) (fun b=>w0.heap.size≤b) (.mk k s n L f t a) ⟨k,s,n,va,xs.length,vc,f,t,a⟩:=by
 have h1:NR wr (fun b=>w0.heap.size<b) (.mk k s n L f t a) ⟨k,s,n,va,xs.length,vc,f,t,a⟩:=
  NR.ofOwn (P:=fun b=>w0.heap.size<b) k s n f t a L xs hL.symm h.ow (fun q=>by rw [q] at hx0;simp at hx0) (fun i hi=>(h.nr i hi (by omega)).move (br _) (fun _ _ _=>rfl) (fun b p _=>(h.pb b p).1)) (fun q h1 _=>by omega)
 refine h1.move (by simp [World.setCell]) (fun b hb _=>?_) (fun b hb _=>Nat.le_of_lt hb)
 have hne:b≠w0.heap.size:=Nat.ne_of_gt hb
 rw [Below.heap_setCell _ _ _ _ hne,Below.heap_setCell _ _ _ _ hne,Below.heap_setCell _ _ _ _ hne,Below.heap_setCell _ _ _ _ hne,Below.heap_setCell _ _ _ _ hne,Below.heap_setCell _ _ _ _ hne,Below.heap_setCell _ _ _ _ hne]
theorem MX.growE {W w3:World} {v3:Value} {y z:NV} (h:MX rb g cap T w0 bx σ v xs L P W) (hr:rb<w0.heap.size) (hg0:g<w0.heap.size) (hx:w0.heap.size<bx) (hg:W.grownBy w3 v.ownBlock) (ho:w3.ownsRow bx 62 7 v3 (xs.length+2) (flat xs++(y.l++z.l))):
 MX rb g cap T w0 bx σ v3 (xs++[y,z]) [] (fun _=>False) w3:=by
 have hq:∀q,v.ownBlock=some q→bx≤q∧q<W.heap.size:=World.ownsRow.lt h.ow
 have e1:(xs++[y,z]).length=xs.length+2:=by simp
 exact ⟨SS.grown hg h.ss (fun j hj=>by have:=hq j hj;omega),Ke.grown hg h.ke (fun j hj=>by have:=hq j hj;omega),Nat.le_trans h.zz hg.size,Bx.grown hg h.rs (fun j hj=>by have:=hq j hj;omega),by rw [e1,flat_two];exact ho,fun b q=>q.elim,fun b q r=>r.elim,fun i hi=>absurd hi (Nat.not_lt_zero _)⟩
end
section
variable {T:List Pu.Tok} {pat expr:M Nd}
theorem arms_st:∀(f:Nat) (l m:List Nd) (k:Nat),(∃fl,qch T pat expr f l k=.error fl∧qch T pat expr f m k=.error fl)∨(∃r k',qch T pat expr f l k=.ok (l++r,k')∧qch T pat expr f m k=.ok (m++r,k'))
 |0,l,m,k=>Or.inr ⟨[],k,by simp [qch],by simp [qch]⟩
 |f+1,l,m,k=>by
  simp only [qch,bnd]
  cases e1:pat k with
  |error fl=>exact Or.inl ⟨fl,rfl,rfl⟩
  |ok p1=>
   simp only
   cases e2:qaf T kArrow p1.2 with
   |error fl=>exact Or.inl ⟨fl,rfl,rfl⟩
   |ok p2=>
    simp only
    cases e3:expr p2.2 with
    |error fl=>exact Or.inl ⟨fl,rfl,rfl⟩
    |ok p3=>
     simp only
     by_cases hb:isT (tk T p3.2) kBar=true
     ·simp only [hb,if_true]
      rcases arms_st f (l++[p1.1,p3.1]) (m++[p1.1,p3.1]) (p3.2+1) with ⟨fl,a,b⟩|⟨r,k',a,b⟩
      ·exact Or.inl ⟨fl,a,b⟩
      ·exact Or.inr ⟨[p1.1,p3.1]++r,k',by rw [a];simp,by rw [b];simp⟩
     ·simp only [hb]
      exact Or.inr ⟨[p1.1,p3.1],p3.2,by simp,by simp⟩
theorem arms_nx (σ:St) (f:Nat) (l m:List Nd):nx σ (qch T pat expr f l)=nx σ (qch T pat expr f m):=by
 cases σ with
 |error e=>rfl
 |ok k=>
  simp only [nx]
  rcases arms_st (T:=T) (pat:=pat) (expr:=expr) f l m k with ⟨fl,a,b⟩|⟨r,k',a,b⟩
  ·rw [a,b]
  ·rw [a,b]
theorem arms_err {f k:Nat} {L:List Nd} {fl:Fl} (h:nx (nx (nx (.ok k) pat) (qaf T kArrow)) expr=.error fl):qch T pat expr (f+1) L k=.error fl:=by
 simp only [qch,bnd]
 simp only [nx] at h
 cases e1:pat k with
 |error g=>rw [e1] at h;simpa using h
 |ok p1=>
  rw [e1] at h
  simp only at h⊢
  cases e2:qaf T kArrow p1.2 with
  |error g=>rw [e2] at h;simpa using h
  |ok p2=>
   rw [e2] at h
   simp only at h⊢
   cases e3:expr p2.2 with
   |error g=>rw [e3] at h;simpa using h
   |ok p3=>rw [e3] at h;simp at h
theorem arms_ok {f k k7:Nat} {L:List Nd} (h:nx (nx (nx (.ok k) pat) (qaf T kArrow)) expr=.ok k7):∃p k5 e k6,pat k=.ok (p,k5)∧nx (nx (.ok k) pat) (qaf T kArrow)=.ok k6∧k6=k5+1∧expr k6=.ok (e,k7)∧qch T pat expr (f+1) L k=(if isT (tk T k7) kBar=true then qch T pat expr f (L++[p,e]) (k7+1) else .ok (L++[p,e],k7)):=by
 obtain ⟨k6,e,h6,m6⟩:=qbh h
 obtain ⟨k5,_,h5,m5⟩:=qbh h6
 obtain ⟨k4,p,h4,m4⟩:=qbh h5
 cases h4
 refine ⟨p,k5,e,k6,m4,h6,qag _ _ _ _ m5,m6,?_⟩
 simp only [qch,bnd,m4,m5,m6]
theorem match_nx (σ:St):nx σ (qdm T pat expr)=nx (nx (nx (nx (nx σ (qaf T qbg)) expr) (qaf T kWith)) (qch T pat expr T.length [])) (qaf T kEnd):=by
 cases σ with
 |error f=>rfl
 |ok k=>
  simp only [nx,qdm,bnd]
  cases e0:qaf T qbg k with
  |error f=>rfl
  |ok p0=>
   simp only
   cases e1:expr p0.2 with
   |error f=>rfl
   |ok p1=>
    simp only
    cases e2:qaf T kWith p1.2 with
    |error f=>rfl
    |ok p2=>
     simp only
     rcases arms_st (T:=T) (pat:=pat) (expr:=expr) T.length [p1.1] [] p2.2 with ⟨fl,a,b⟩|⟨r,k',a,b⟩
     ·rw [a,b]
     ·rw [a,b]
      simp only
      cases e4:qaf T kEnd k' with
      |error f=>rfl
      |ok p4=>rfl
end
end
end Go.Proofs.YtoceemjbcgmojaaGreatDoor
