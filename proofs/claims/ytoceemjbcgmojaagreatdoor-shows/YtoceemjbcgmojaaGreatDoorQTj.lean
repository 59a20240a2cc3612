import Derived.Deep.CutRange
import Derived.Test.YtoceemjbcgmojaaGreatDoorQTf
set_option linter.all false
set_option maxRecDepth 100000
set_option maxHeartbeats 200000
namespace Go.Proofs.YtoceemjbcgmojaaGreatDoor
section
open Go Go.RowKit Un
section
variable {w:World} {kb nb:Nat} {hv iv lv nv:Value} {ns:List BA} {K:Nat->Option Ty} {P:Nat->Prop}
end
end
section
open Go Go.RowKit Un
section
variable {w:World} {kb nb:Nat} {hv iv lv nv:Value} {ns:List BA} {K:Nat->Option Ty} {P Q:Nat->Prop}
end
end
end Go.Proofs.YtoceemjbcgmojaaGreatDoor
