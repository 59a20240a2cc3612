import Derived.KernelRfl
import Derived.SevenTiedAt
import Derived.Test.YteneoapickhpdaaGreatDoorCards
set_option linter.unusedSimpArgs false
set_option linter.unusedVariables false
set_option linter.unusedSectionVars false
namespace Go.Proofs.YteneoapickhpdaaGreatDoor
open Go
theorem seat_main : Tryz.pinned.checked.prog.mainIs = some (Rows.reshownCard.stood.harness.1, Rows.reshownCard.stood.harness.2.toList) := by kernel_rfl
theorem seat_looks : true = Tryz.prog.looks [] := by kernel_rfl
end Go.Proofs.YteneoapickhpdaaGreatDoor
namespace Go.Proofs.YteneoapickhpdaaGreatDoor
open Go
theorem joined_wfb : Rows.joinedRow.wfByText (OpenSpec.ofChange Rows.joinedSpec) = true := by kernel_rfl
theorem joined_goes : false = Rows.joinedRow.goesBy Tryz.pinned.checked.prog := by kernel_rfl
end Go.Proofs.YteneoapickhpdaaGreatDoor
