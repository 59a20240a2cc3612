import Derived.KernelRfl
import Derived.SevenTiedAt
import Derived.Test.YtnhnocmpodaggaaGreatDoorCards
set_option linter.all false
set_option maxRecDepth 100000
set_option maxHeartbeats 200000
namespace Go.Proofs.YtnhnocmpodaggaaGreatDoor
section
open Go
theorem seat_main:Tryz.pinned.checked.prog.mainIs=some (Rows.showsCard.stood.harness.1,Rows.showsCard.stood.harness.2.toList):=by kernel_rfl
theorem seat_looks:true=Tryz.prog.looks []:=by kernel_rfl
end
section
open Go
theorem scopes_wfb:Rows.scopesRow.wfByText (OpenSpec.ofChange Rows.scopesSpec)=true:=by kernel_rfl
theorem scopes_goes:false=Rows.scopesRow.goesBy Tryz.pinned.checked.prog:=by kernel_rfl
end
end Go.Proofs.YtnhnocmpodaggaaGreatDoor
