import Derived.Test.YtoceemjbcgmojaaGreatDoorQTm
import Derived.Test.YtoceemjbcgmojaaGreatDoorQQa
set_option linter.all false
set_option maxRecDepth 100000
set_option maxHeartbeats 200000
namespace Go.Proofs.YtoceemjbcgmojaaGreatDoor
section
open Go Go.RowKit Go.ChangeMaps Un
section
variable {w:World}
end
end
end Go.Proofs.YtoceemjbcgmojaaGreatDoor
