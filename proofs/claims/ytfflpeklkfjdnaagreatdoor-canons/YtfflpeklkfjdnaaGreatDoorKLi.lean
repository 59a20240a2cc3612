import Derived.KernelRfl
import Derived.SevenTiedAt
import Derived.Test.YtfflpeklkfjdnaaGreatDoorCards
set_option linter.unusedSimpArgs false
set_option linter.unusedVariables false
set_option linter.unusedSectionVars false
namespace Go.Proofs.YtfflpeklkfjdnaaGreatDoor
open Go
theorem seat_main : Tryz.pinned.checked.prog.mainIs = some (Rows.canonsCard.stood.harness.1, Rows.canonsCard.stood.harness.2.toList) := by kernel_rfl
theorem seat_looks : true = Tryz.prog.looks [] := by kernel_rfl
end Go.Proofs.YtfflpeklkfjdnaaGreatDoor
