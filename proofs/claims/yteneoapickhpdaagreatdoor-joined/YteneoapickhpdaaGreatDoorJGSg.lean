import Derived.Deep.LoopGhost
import Derived.LoopN
import Derived.Test.YteneoapickhpdaaGreatDoorJGSa
set_option linter.unusedSimpArgs false
set_option linter.unusedVariables false
set_option linter.unusedSectionVars false
namespace Go.Proofs.YteneoapickhpdaaGreatDoor
open Go Go.RowKit
section
variable {rb g cap : Nat} {T : List Pu.Tok} {σ : St} {w : World}

end
end Go.Proofs.YteneoapickhpdaaGreatDoor
