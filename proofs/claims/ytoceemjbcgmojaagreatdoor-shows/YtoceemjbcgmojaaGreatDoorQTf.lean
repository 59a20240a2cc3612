import Derived.Deep.RegionLaw
import Derived.Test.YtoceemjbcgmojaaGreatDoorQSh0
set_option linter.all false
set_option maxRecDepth 100000
set_option maxHeartbeats 200000
namespace Go.Proofs.YtoceemjbcgmojaaGreatDoor
section
open Go Go.RowKit Un
section
variable {w:World}
end
end
section
open Go Go.RowKit Un
theorem qfi{w:World}{base:Nat}{e:TypeId}{size:Nat}{v:Value}{n:Nat}{xs:List Value}(h:w.ownsRow base e size v n xs):∃la cap,v=.slice la n cap:=by
 obtain⟨h1,h2⟩:=h
 rcases h2 with⟨h2,rfl⟩|⟨g',cap',cur,hv,_⟩
 .exact⟨none,0,h2⟩
 .exact⟨_,_,hv⟩
section
variable {w:World} {kb:Nat} {hv iv:Value} {N:Nat} {K:Nat->Option Ty} {P:Nat->Prop}
end
end
section
open Go Go.RowKit Un
section
variable {w:World} {nb:Nat} {lv nv:Value} {ns:List BA}
end
end
section
open Go Go.RowKit Un
def conN(k:Nat)(s:BA):BA:=if k=17 then nFn else if k=6 then nPr else s
section
variable {w:World} {kb nb:Nat} {hv iv lv nv:Value} {ns:List BA} {K:Nat->Option Ty} {P:Nat->Prop}
end
end
section
open Go Go.RowKit Un
end
section
open Go Go.RowKit Un
theorem Fr.set3{S:Nat->Prop}{a w:World}(h:Fr S a w){b:Nat}(hb:S b\/a.heap.size<=b)(v0 v1 v2:Value):Fr S a (((w.setCell ⟨b,0,none⟩ v0).setCell ⟨b,1,none⟩ v1).setCell ⟨b,2,none⟩ v2):=
 ((h.set hb 0 v0).set hb 1 v1).set hb 2 v2
end
section
open Go Go.RowKit Un
section
variable {T:List Pu.Tok}
end
end
section
open Go Go.RowKit Un
section
variable {w:World} {kb nb:Nat} {hv iv lv nv:Value} {ns:List BA} {K:Nat->Option Ty} {P Q:Nat->Prop}
end
end
end Go.Proofs.YtoceemjbcgmojaaGreatDoor
