import Derived.Deep.Cut
import Derived.Deep.CutRange
import Derived.Maps.AppendAt
import Derived.Test.YtoceemjbcgmojaaGreatDoorVTf
set_option linter.all false
set_option maxRecDepth 100000
set_option maxHeartbeats 200000
namespace Go.Proofs.YtoceemjbcgmojaaGreatDoor
section
open Go Go.RowKit Un
section
variable {w:World} {kb nb:Nat} {hv iv lv nv:Value} {ns:List BA} {K:Nat→Option Ty} {P:Nat→Prop}
end
end
section
open Go Go.RowKit Un
theorem NR.parts {w:World} {Q:Nat→Prop} {k:Nat} {s:BA} {n:Nat} {L:List Nd} {f t a:Nat} {x:NV} (h:NR w Q (.mk k s n L f t a) x):
 ∃la cap,x=⟨k,s,n,la,L.length,cap,f,t,a⟩∧∀i (hi:i<L.length),∃g y,la=some ⟨g,0,none⟩∧(g<w.heap.size∧Q g)∧at7 w g i y∧NR w Q (L[i]) y:=by
 cases h with
 |leaf=>exact ⟨none,0,rfl,fun i hi=>by simp at hi⟩
 |row k s n L f t a g cap xs h0 hP hz hc hr=>exact ⟨some ⟨g,0,none⟩,cap,rfl,fun i hi=>⟨g,xs i,rfl,⟨hz,hP⟩,hc i hi,hr i hi⟩⟩
theorem TR.ofOwn {w:World} {P:Nat→Prop} {N:Nat} (c:BA) (L:List Ty) (xs:List TV) {la:Option Addr} {cap base:Nat} (h0:L=[]→la=none∧cap=0) (hL:L.length≤1001) (hl:xs.length=L.length) (ho:w.ownsRow base 85 3 (.slice la L.length cap) L.length (flat3 xs))
 (hr:∀i (h:i<L.length),TR w P N L[i] (xs[i]'(by omega))) (hP:∀b,(Value.slice la L.length cap).ownBlock=some b→P b) (hw:okN c L.length):TR w P N (.con c L) ⟨0,c,la,L.length,cap⟩:=by
 by_cases e:L=[]
 ·subst e
  obtain ⟨rfl,rfl⟩:=h0 rfl
  exact .leaf c hw
 ·have hn:0<L.length:=List.length_pos_iff.2 e
  obtain ⟨g,cap',e1,e2,_⟩:=qe3 ho hn
  cases e1
  have hx:∀i (h:i<L.length),xs.getD i TV.no=xs[i]'(by omega):=fun i h=>by rw [List.getD_eq_getElem?_getD,List.getElem?_eq_getElem (by omega)];rfl
  refine .row c L g cap (fun i=>xs.getD i TV.no) hw e hL (hP g rfl) e2 (fun i hi j hj=>?_) (fun i hi=>?_)
  ·rw [hx i hi,qcf ho _ (by omega),flat3_at xs i j (by omega) hj]
  ·rw [hx i hi]
   exact hr i hi
section
variable {w:World} {kb nb:Nat} {hv iv lv nv:Value} {ns:List BA} {K:Nat→Option Ty} {P Q:Nat→Prop}
def UpRel (w:World) (kb nb:Nat) (hv iv lv nv:Value) (ns:List BA) (K:Nat→Option Ty) (P:Nat→Prop) (L:List Nd) (s:BA) (CN:Array Value) (tb:Nat) (gk:Nat) (c:Value) (wr:World):Prop:=
 ∃(j:Nat) (hvj ivj lvj nvj:Value) (Qj:Nat→Prop) (xs:List TV) (la:Option Addr) (cap:Nat),Hid (gk=L.length-j)∧j≤L.length∧c=.int .i64 (j:Int)∧
  KN wr kb nb hvj ivj lvj nvj (meanL ns (L.take j)).2 K Qj∧Hid (xs.length=j)∧(∀i (h:i<xs.length) (h2:i<(meanL ns (L.take j)).1.length),TR wr Qj (meanL ns (L.take j)).2.length ((meanL ns (L.take j)).1[i]) xs[i])∧
  Bx wr w.heap.size CN∧Bx wr (w.heap.size+1) zTy∧Bx wr tb #[.int .i64 0,.string s,.slice la j cap]∧wr.ownsRow (tb+1) 85 3 (.slice la j cap) j (flat3 xs)∧Hid (j=0→la=none∧cap=0)∧
  Fr (·∈Mu kb nb hv iv lv nv) w wr∧(∀b,b∈Mu kb nb hvj ivj lvj nvj→b∈Mu kb nb hv iv lv nv∨tb<b)∧(∀b,(P b∧b<w.heap.size)→Qj b)∧(∀b,Qj b→(P b∧b<w.heap.size)∨tb<b)∧(∀b,Qj b→b<wr.heap.size)∧
  (∀b,(Value.slice la j cap).ownBlock=some b→¬b∈Mu kb nb hvj ivj lvj nvj∧¬Qj b)
end
end
end Go.Proofs.YtoceemjbcgmojaaGreatDoor
