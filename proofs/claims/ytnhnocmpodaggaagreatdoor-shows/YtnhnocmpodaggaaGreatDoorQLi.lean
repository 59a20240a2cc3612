import Derived.KernelRfl
import Derived.SevenTiedAt
import Derived.Test.YtnhnocmpodaggaaGreatDoorCards
set_option linter.all false
set_option maxRecDepth 100000
set_option maxHeartbeats 200000
namespace Go.Proofs.YtnhnocmpodaggaaGreatDoor
section
open Go
theorem seat_main:Tryz.pinned.checked.prog.mainIs=some (Rows.showsCard.stood.harness.1,Rows.showsCard.stood.harness.2.toList):=by kernel_rfl
theorem seat_looks:true=Tryz.prog.looks []:=by kernel_rfl
end
section
open Go
theorem shows_wfb:Rows.showsRow.wfByText (OpenSpec.ofChange Rows.showsSpec)=true:=by kernel_rfl
theorem shows_goes:false=Rows.showsRow.goesBy Tryz.pinned.checked.prog:=by kernel_rfl
end
end Go.Proofs.YtnhnocmpodaggaaGreatDoor
