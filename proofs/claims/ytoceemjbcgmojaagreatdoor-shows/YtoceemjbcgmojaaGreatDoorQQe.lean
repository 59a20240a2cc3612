import Derived.Test.YtoceemjbcgmojaaGreatDoorQQd
import Derived.Test.YtoceemjbcgmojaaGreatDoorQPq
set_option linter.all false
set_option maxRecDepth 100000
set_option maxHeartbeats 200000
namespace Go.Proofs.YtoceemjbcgmojaaGreatDoor
section
open Go Go.RowKit Go.ChangeMaps Un
section
variable {w:World} {kb fb cb mb:Nat} {ns:List BA}
end
end
end Go.Proofs.YtoceemjbcgmojaaGreatDoor
