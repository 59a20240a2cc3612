import Derived.KernelRfl
import Derived.SevenTiedAt
import Derived.Test.YtklidhjlfappnaaGreatDoorCards
set_option linter.unusedSimpArgs false
set_option linter.unusedVariables false
set_option linter.unusedSectionVars false
namespace Go.Proofs.YtklidhjlfappnaaGreatDoor
open Go
theorem canons_wfb : Rows.canonsRow.wfByText (OpenSpec.ofChange Rows.canonsSpec) = true := by kernel_rfl
theorem canons_goes : false = Rows.canonsRow.goesBy Tryz.pinned.checked.prog := by kernel_rfl
end Go.Proofs.YtklidhjlfappnaaGreatDoor
