import Derived.Test.YtnhnocmpodaggaaGreatDoorQRa
import Derived.Test.YtnhnocmpodaggaaGreatDoorQTo
import Derived.Test.YtnhnocmpodaggaaGreatDoorQTq
import Derived.Test.YtnhnocmpodaggaaGreatDoorQTm
set_option linter.all false
set_option maxRecDepth 100000
set_option maxHeartbeats 200000
namespace Go.Proofs.YtnhnocmpodaggaaGreatDoor
section
open Go Go.RowKit Un
section
variable {w:World}
end
end
section
open Go Go.RowKit
end
end Go.Proofs.YtnhnocmpodaggaaGreatDoor
