import Derived.KernelRfl
import Derived.SevenTiedAt
import Derived.Test.YtklidhjlfappnaaGreatDoorCards
set_option linter.unusedSimpArgs false
set_option linter.unusedVariables false
set_option linter.unusedSectionVars false
namespace Go.Proofs.YtklidhjlfappnaaGreatDoor
open Go
theorem joined_wfb : Rows.joinedRow.wfByText (OpenSpec.ofChange Rows.joinedSpec) = true := by kernel_rfl
theorem joined_goes : false = Rows.joinedRow.goesBy Tryz.pinned.checked.prog := by kernel_rfl
end Go.Proofs.YtklidhjlfappnaaGreatDoor
