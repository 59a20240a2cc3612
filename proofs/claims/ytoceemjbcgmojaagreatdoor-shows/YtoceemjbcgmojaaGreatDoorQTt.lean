import Derived.Test.YtoceemjbcgmojaaGreatDoorQTq
import Derived.Test.YtoceemjbcgmojaaGreatDoorQTm
set_option linter.all false
set_option maxRecDepth 100000
set_option maxHeartbeats 200000
namespace Go.Proofs.YtoceemjbcgmojaaGreatDoor
section
open Go Go.RowKit Un
section
variable {w:World}
end
end
section
open Go Go.RowKit
end
end Go.Proofs.YtoceemjbcgmojaaGreatDoor
