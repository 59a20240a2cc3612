import Derived.Test.YtnhnocmpodaggaaGreatDoorQQd
import Derived.Test.YtnhnocmpodaggaaGreatDoorQPq
set_option linter.all false
set_option maxRecDepth 100000
set_option maxHeartbeats 200000
namespace Go.Proofs.YtnhnocmpodaggaaGreatDoor
section
open Go Go.RowKit Go.ChangeMaps Un
section
variable {w:World} {kb fb cb mb:Nat} {ns:List BA}
end
end
end Go.Proofs.YtnhnocmpodaggaaGreatDoor
