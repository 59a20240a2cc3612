import Derived.KernelRfl
import Derived.SevenTiedAt
import Derived.Test.YteneoapickhpdaaGreatDoorCards
set_option linter.unusedSimpArgs false
set_option linter.unusedVariables false
set_option linter.unusedSectionVars false
namespace Go.Proofs.YteneoapickhpdaaGreatDoor
open Go
theorem seat_main : Tryz.pinned.checked.prog.mainIs = some (Rows.reshownCard.stood.harness.1, Rows.reshownCard.stood.harness.2.toList) := by kernel_rfl
theorem seat_looks : true = Tryz.prog.looks [] := by kernel_rfl
end Go.Proofs.YteneoapickhpdaaGreatDoor
namespace Go.Proofs.YteneoapickhpdaaGreatDoor
open Go
theorem reshown_wfb : Rows.reshownRow.wfByText (OpenSpec.ofChange Rows.reshownSpec) = true := by kernel_rfl
theorem reshown_goes : false = Rows.reshownRow.goesBy Tryz.pinned.checked.prog := by kernel_rfl
end Go.Proofs.YteneoapickhpdaaGreatDoor
