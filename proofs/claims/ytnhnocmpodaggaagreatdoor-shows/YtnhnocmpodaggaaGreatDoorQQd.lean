import Derived.Test.YtnhnocmpodaggaaGreatDoorQTm
import Derived.Test.YtnhnocmpodaggaaGreatDoorQQa
set_option linter.all false
set_option maxRecDepth 100000
set_option maxHeartbeats 200000
namespace Go.Proofs.YtnhnocmpodaggaaGreatDoor
section
open Go Go.RowKit Go.ChangeMaps Un
section
variable {w:World}
end
end
end Go.Proofs.YtnhnocmpodaggaaGreatDoor
