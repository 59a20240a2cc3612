import Derived.SevenTiedAt
import Derived.Test.YtoceemjbcgmojaaGreatDoorCards
set_option linter.all false
set_option maxRecDepth 100000
set_option maxHeartbeats 200000
namespace Go.Proofs.YtoceemjbcgmojaaGreatDoor
section
open Go
theorem seat_main:Tryz.pinned.checked.prog.mainIs=some (Rows.showsCard.stood.harness.1,Rows.showsCard.stood.harness.2.toList):=by kernel_rfl
theorem seat_looks:true=Tryz.prog.looks []:=by kernel_rfl
end
end Go.Proofs.YtoceemjbcgmojaaGreatDoor
