import Derived.JoinedOf
import Derived.KernelRfl
import Derived.Test.YtklidhjlfappnaaGreatDoorRows
set_option linter.unusedSimpArgs false
set_option linter.unusedVariables false
set_option linter.unusedSectionVars false
namespace Go.Proofs.YtklidhjlfappnaaGreatDoor
open Go
theorem and2 {a b : Bool} (h : a = true) (k : b = true) : (a && b) = true := by rw [h, k]; rfl
theorem cp1 : (laidOutB Tryz.prog) = true := by kernel_rfl
theorem cp2 : (mapsRowed Tryz.prog) = true := by kernel_rfl
theorem cp6 : ((Tryz.prog.stops == [])) = true := by kernel_rfl
theorem cp8 : ((Tryz.prog.stopKnobs == [])) = true := by kernel_rfl
theorem cp24 : (Tryz.prog.stopsHeard) = true := by kernel_rfl
theorem cp25 : (Tryz.prog.mayEnter) = true := by kernel_rfl
end Go.Proofs.YtklidhjlfappnaaGreatDoor
