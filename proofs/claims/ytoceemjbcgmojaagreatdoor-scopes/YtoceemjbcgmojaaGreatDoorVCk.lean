import Derived.Test.YtoceemjbcgmojaaGreatDoorVD0
import Derived.Test.YtoceemjbcgmojaaGreatDoorVYb
import Derived.Test.YtoceemjbcgmojaaGreatDoorVCj0
import Derived.Test.YtoceemjbcgmojaaGreatDoorVCh
import Derived.Test.YtoceemjbcgmojaaGreatDoorVCj
set_option linter.all false
set_option maxRecDepth 100000
set_option maxHeartbeats 200000
namespace Go.Proofs.YtoceemjbcgmojaaGreatDoor
section
open Go Go.RowKit Un
theorem Ex3.lec {nd:Nd} (h:Ex3 nd):LEC nd:=by
 have l2:∀{x y:Nd},LEC x→LEC y→∀q∈[x,y],LEC q:=fun hx hy q hq=>by
  simp only [List.mem_cons,List.not_mem_nil,or_false] at hq
  rcases hq with rfl|rfl
  ·exact hx
  ·exact hy
 induction h with
 |low s f t a _ _=>exact looks_1
 |up s f t a _ _=>exact looks_2
 |num s n f t a _ _=>exact looks_0 (by decide) (by simp)
 |word s f t a _ _=>exact looks_0 (by decide) (by simp)
 |unit f t a=>exact looks_0 (by decide) (by simp)
 |pr x y f t a _ _ ih1 ih2=>exact looks_0 (by decide) (l2 ih1 ih2)
 |of x y f t a _ hy ih1=>exact looks_14 ih1 (looksType_C y)
 |op s x y f t a _ _ _ ih1 ih2=>exact looks_0 (by decide) (l2 ih1 ih2)
 |call x y f t a _ _ ih1 ih2=>exact looks_0 (by decide) (l2 ih1 ih2)
 |fn s x f t a _ _ _ ih=>exact looks_9 ih
 |lt s x z f t a _ _ _ _ ih1 ih2=>exact looks_10 ih1 ih2
 |ltr s s' x z f t a f' t' a' _ _ _ _ _ _ ih1 ih2=>exact looks_11 (looks_9 ih1) ih2
 |ite x y z f t a _ _ _ ih1 ih2 ih3=>
  refine looks_0 (by decide) fun q hq=>?_
  simp only [List.mem_cons,List.not_mem_nil,or_false] at hq
  rcases hq with rfl|rfl|rfl
  ·exact ih1
  ·exact ih2
  ·exact ih3
 |mt x A f t a _ _ _ _ ih1 ih2=>exact looks_13 ih1 ih2
theorem ckDs_app (u:Upd):∀(l m:List Dc) (e:SE),ckDs u (l++m) e=ckDs u m (ckDs u l e)
 |[],_,_=>rfl
 |d::r,m,e=>ckDs_app u r m _
theorem ckDs_take (u:Upd) (l:List Dc) (e:SE) (i:Nat) (h:i<l.length):ckDs u (l.take (i+1)) e=ckD u l[i] (ckDs u (l.take i) e):=by
 rw [List.take_succ_eq_append_getElem h,ckDs_app]
 rfl
def DSm:Dc→Prop
 |.ty _ vs ms=>vs.length≤1000∧∀m∈ms,Sm m
 |.lt _ _ b=>Sm b∧Ex3 b
theorem AscM.sm:∀{ms:List Nd} {lo hi:Nat},AscM lo ms hi→∀m∈ms,Ge 0 m
 |.mk k s n L f t a::r,lo,hi,h,m,hm=>by
  rcases List.mem_cons.1 hm with rfl|q
  ·exact h.2.1.mono (Nat.zero_le _)
  ·exact AscM.sm (ms:=r) h.2.2 m q
theorem nnL_le {ms:List Nd} {m:Nd} (h:m∈ms):nn m≤nnL ms:=nnL_mem h
theorem ndL_mem:∀{l:List Dc} {d:Dc},d∈l→nd3 d≤ndL l
 |x::r,d,h=>by
  simp only [ndL,List.map_cons,List.sum_cons]
  rcases List.mem_cons.1 h with rfl|q
  ·omega
  ·have:=ndL_mem q;simp only [ndL] at this;omega
theorem AscD.sm:∀{l:List Dc} {lo:Nat},AscD lo l→∀d∈l,match d with|.ty _ _ ms=>∀m∈ms,Ge 0 m|.lt _ _ b=>Ge 0 b
 |d::r,lo,⟨hi,h1,h2⟩,x,hx=>by
  rcases List.mem_cons.1 hx with rfl|q
  ·cases x with
   |ty t vs ms=>exact h1.2.2.sm
   |lt rr t b=>exact h1.2.mono (Nat.zero_le _)
  ·exact AscD.sm h2 x q
theorem readP_sm {s:BA} {l:List Dc} (h:qc1 s=.ok l):(∀d∈l,DSm d)∧ndL l≤802:=by
 have hs:¬400<s.size:=fun q=>by simp [qc1,q] at h
 have hg:=readP_got hs
 rw [h] at hg
 have ha:=readP_asc h
 refine ⟨fun d hd=>?_,hg.2⟩
 have h1:=AscD.sm ha d hd
 have h2:=ndL_mem hd
 have h3:=hg.1 d hd
 have h4:=hg.2
 cases d with
 |ty t vs ms=>
  simp only [nd3] at h2
  exact ⟨by omega,fun m hm=>⟨h1 m hm,by have:=nnL_le hm;omega⟩⟩
 |lt r t b=>
  simp only [nd3] at h2
  exact ⟨⟨h1,by omega⟩,h3.2.2.1⟩
theorem ndL_take (l:List Dc) (i:Nat) (h:i<l.length):ndL (l.take (i+1))=ndL (l.take i)+nd3 l[i]:=by
 unfold ndL
 rw [List.take_succ_eq_append_getElem h,List.map_append,List.sum_append]
 simp only [List.map_cons,List.map_nil,List.sum_cons,List.sum_nil,Nat.add_zero]
theorem ndL_take_le (l:List Dc) (i:Nat):ndL (l.take i)≤ndL l:=by
 have:ndL l=ndL (l.take i)+ndL (l.drop i):=by
  unfold ndL
  rw [←List.sum_append,←List.map_append,List.take_append_drop]
 omega
end
end Go.Proofs.YtoceemjbcgmojaaGreatDoor
