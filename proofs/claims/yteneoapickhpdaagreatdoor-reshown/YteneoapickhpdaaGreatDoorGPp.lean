import Derived.Recover
import Derived.Test.YteneoapickhpdaaGreatDoorGPk
set_option linter.unusedSimpArgs false
set_option linter.unusedVariables false
set_option linter.unusedSectionVars false
namespace Go.Proofs.YteneoapickhpdaaGreatDoor
open Go Go.RowKit Go.ChangeMaps
abbrev zF : Array Value := #[.int .i64 0, .int .i64 0, .int .i64 0]
theorem asGiveUp (a b c : Value) (w : World) : (Instr.typeAssert (.iface 101 (.agg #[a, b, c])) 20 101 true).run Tryz.prog w = .ok (.tuple #[.agg #[a, b, c], .bool true]) w := by kernel_rfl
section
variable {w : World}
end
end Go.Proofs.YteneoapickhpdaaGreatDoor
