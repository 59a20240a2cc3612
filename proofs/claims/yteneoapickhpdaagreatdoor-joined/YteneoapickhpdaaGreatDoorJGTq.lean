import Derived.Deep.Cut
import Derived.Deep.RegionWith
import Derived.Test.YteneoapickhpdaaGreatDoorJGTp
set_option linter.unusedSimpArgs false
set_option linter.unusedVariables false
set_option linter.unusedSectionVars false
namespace Go.Proofs.YteneoapickhpdaaGreatDoor
open Go Go.RowKit Un
section
variable {pb kb base : Nat} {hv iv : Value} {N : Nat} {K : Nat → Option Ty} {R : Nat → Ty} {rk : Nat → Nat}
end
end Go.Proofs.YteneoapickhpdaaGreatDoor
namespace Go.Proofs.YteneoapickhpdaaGreatDoor
open Go Go.RowKit Un
section
variable {pb kb base : Nat} {hv iv : Value} {N : Nat} {K : Nat → Option Ty} {R : Nat → Ty} {rk : Nat → Nat}

end
end Go.Proofs.YteneoapickhpdaaGreatDoor
namespace Go.Proofs.YteneoapickhpdaaGreatDoor
open Go Go.RowKit Un
section
variable {pb kb base : Nat} {hv iv : Value} {N : Nat} {K : Nat → Option Ty} {R : Nat → Ty} {rk : Nat → Nat}
end
end Go.Proofs.YteneoapickhpdaaGreatDoor
