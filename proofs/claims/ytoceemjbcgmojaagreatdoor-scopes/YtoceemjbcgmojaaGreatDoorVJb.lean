import Derived.Test.YtoceemjbcgmojaaGreatDoorVPc
import Derived.Test.YtoceemjbcgmojaaGreatDoorVTo
import Derived.Test.YtoceemjbcgmojaaGreatDoorVTm
set_option linter.all false
set_option maxRecDepth 100000
set_option maxHeartbeats 200000
namespace Go.Proofs.YtoceemjbcgmojaaGreatDoor
section
open Go Go.RowKit
def Has (s:BA) (i:Nat) (l:List UInt8):Prop:=∀j (h:j<l.length),i+j<s.size∧Pu.at_ s (i+j)=l[j].toNat
theorem Has.left {s:BA} {i:Nat} {l m:List UInt8} (h:Has s i (l++m)):Has s i l:=fun j hj=>by
 have:=h j (by simp;omega)
 rwa [List.getElem_append_left hj] at this
theorem Has.right {s:BA} {i:Nat} {l m:List UInt8} (h:Has s i (l++m)):Has s (i+l.length) m:=fun j hj=>by
 have:=h (l.length+j) (by simp;omega)
 rw [List.getElem_append_right (by omega)] at this
 simpa [Nat.add_assoc] using this
theorem Has.hd {s:BA} {i:Nat} {x:UInt8} {m:List UInt8} (h:Has s i (x::m)):i<s.size∧Pu.at_ s i=x.toNat:=h 0 (by simp)
theorem Has.tl {s:BA} {i:Nat} {x:UInt8} {m:List UInt8} (h:Has s i (x::m)):Has s (i+1) m:=fun j hj=>by
 have:=h (j+1) (by simp;omega)
 simpa [Nat.add_assoc,Nat.add_comm 1 j] using this
theorem Has.le {s:BA} {i:Nat} {l:List UInt8} (h:Has s i l) (hi:i≤s.size):i+l.length≤s.size:=by
 cases l with
 |nil=>simpa using hi
 |cons x r=>have:=(h r.length (by simp)).1;simp;omega
theorem Has.ext {s:BA} {i:Nat} {l:List UInt8} (h:Has s i l) (hi:i≤s.size):(s.extract i (i+l.length)).toList=l:=by
 have hle:=h.le hi
 rw [ByteArray.toList_eq,ByteArray.data_extract]
 apply List.ext_getElem
 ·have hd:s.data.size=s.size:=rfl
  simp
  omega
 ·intro j h1 h2
  obtain ⟨h3,h4⟩:=h j h2
  rw [Pu.at_lt h3] at h4
  have:s[i+j]=l[j]:=UInt8.toNat_inj.1 h4
  rw [←this]
  simp [ByteArray.getElem_eq_getElem_data]
def Lx (nb:Bool) (l:List UInt8) (p:List Ky):Prop:=∀s i,Has s i l→i≤s.size→(nb=true→Pu.nameB (Pu.at_ s (i+l.length))=false)→∃T,Pu.toks s i=T++Pu.toks s (i+l.length)∧T.map keyT=p
theorem Lx.app {b1 b2:Bool} {l1 l2:List UInt8} {p1 p2:List Ky} (h1:Lx b1 l1 p1) (h2:Lx b2 l2 p2) (hb:b1=true→∃x r,l2=x::r∧Pu.nameB x.toNat=false):Lx b2 (l1++l2) (p1++p2):=by
 intro s i hs hi hn
 have hl:=hs.left.le hi
 obtain ⟨T1,e1,k1⟩:=h1 s i hs.left hi (fun q=>by
  obtain ⟨x,r,rfl,hx⟩:=hb q
  rw [hs.right.hd.2]
  exact hx)
 obtain ⟨T2,e2,k2⟩:=h2 s (i+l1.length) hs.right hl (fun q=>by have:=hn q;simpa [Nat.add_assoc] using this)
 refine ⟨T1++T2,?_,by simp [k1,k2]⟩
 rw [e1,e2]
 simp [Nat.add_assoc]
end
end Go.Proofs.YtoceemjbcgmojaaGreatDoor
