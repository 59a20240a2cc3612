import Derived.Laws.EntriesVeiled
import Derived.Test.YteneoapickhpdaaGreatDoorGTt
import Derived.Test.YteneoapickhpdaaGreatDoorGVb
set_option linter.unusedSimpArgs false
set_option linter.unusedVariables false
set_option linter.unusedSectionVars false
namespace Go.Proofs.YteneoapickhpdaaGreatDoor
open Go Go.RowKit Go.ChangeMaps Un
section
variable {w : World}
def WritePost (nb mb : Nat) (a : List Nat) (T : Ty) (w : World) (e : Ending) (w' : World) : Prop :=
  e = .returned (.string (bs (wr dec (vars a T) T 0))) ∧ NB w' nb mb (vars a T) ∧ Fr (fun b => b = mb) w w'
end
end Go.Proofs.YteneoapickhpdaaGreatDoor
namespace Go.Proofs.YteneoapickhpdaaGreatDoor
open Go Go.RowKit Go.ChangeMaps Un
def CanonP (s : ByteArray) (w : World) (e : Ending) (w' : World) : Prop := e = .returned (.tuple #[.string (bs (canonA s).1), flV (canonA s).2]) ∧ Below w.heap.size w w'
section
variable {w : World}
end
end Go.Proofs.YteneoapickhpdaaGreatDoor
namespace Go.Proofs.YteneoapickhpdaaGreatDoor
open Go Go.RowKit Go.ChangeMaps Un
theorem at_all (nd : Nd) (h : WN nd) : AtC nd := by
  induction h with
  | var s n f t a h => exact typeAt_C (bare_var s n f t a h)
  | fn s n x y f t a hx hy ihx ihy => exact typeAt_C (bare_fn s n x y f t a ihx ihy)
  | pr s n x y f t a hx hy ihx ihy => exact typeAt_C (bare_pr s n x y f t a ihx ihy)
  | up s n L f t a h hl hL ih => exact typeAt_C (bare_up s n L f t a h hl ih)
end Go.Proofs.YteneoapickhpdaaGreatDoor
