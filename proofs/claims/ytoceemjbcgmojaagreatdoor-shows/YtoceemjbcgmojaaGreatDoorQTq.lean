import Derived.Deep.Cut
import Derived.Test.YtoceemjbcgmojaaGreatDoorQTp
set_option linter.all false
set_option maxRecDepth 100000
set_option maxHeartbeats 200000
namespace Go.Proofs.YtoceemjbcgmojaaGreatDoor
section
open Go Go.RowKit Un
section
variable {pb kb base:Nat} {hv iv:Value} {N:Nat} {K:Nat->Option Ty} {R:Nat->Ty} {rk:Nat->Nat}
end
end
section
open Go Go.RowKit Un
section
variable {pb kb base:Nat} {hv iv:Value} {N:Nat} {K:Nat->Option Ty} {R:Nat->Ty} {rk:Nat->Nat}
end
end
section
open Go Go.RowKit Un
section
variable {pb kb base:Nat} {hv iv:Value} {N:Nat} {K:Nat->Option Ty} {R:Nat->Ty} {rk:Nat->Nat}
end
end
end Go.Proofs.YtoceemjbcgmojaaGreatDoor
