import Derived.Laws.EntriesVeiled
import Derived.Test.YtoceemjbcgmojaaGreatDoorQTt
import Derived.Test.YtoceemjbcgmojaaGreatDoorQVb
set_option linter.all false
set_option maxRecDepth 100000
set_option maxHeartbeats 200000
namespace Go.Proofs.YtoceemjbcgmojaaGreatDoor
section
open Go Go.RowKit Go.ChangeMaps Un
section
variable {w:World}
end
end
section
open Go Go.RowKit Go.ChangeMaps Un
section
variable {w:World}
end
end
section
open Go Go.RowKit Go.ChangeMaps Un
theorem at_all(nd:Nd)(h:WN nd):AtC nd:=by
 induction h with
 |var s n f t a h=>exact typeAt_C (bare_var s n f t a h)|fn s n x y f t a hx hy ihx ihy=>exact typeAt_C (bare_fn s n x y f t a ihx ihy)|pr s n x y f t a hx hy ihx ihy=>exact typeAt_C (bare_pr s n x y f t a ihx ihy)|up s n L f t a h hl hL ih=>exact typeAt_C (bare_up s n L f t a h hl ih)
end
end Go.Proofs.YtoceemjbcgmojaaGreatDoor
