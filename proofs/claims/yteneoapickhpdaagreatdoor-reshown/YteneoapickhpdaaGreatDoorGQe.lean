import Derived.Test.YteneoapickhpdaaGreatDoorGQd
import Derived.Test.YteneoapickhpdaaGreatDoorGPq
set_option linter.unusedSimpArgs false
set_option linter.unusedVariables false
set_option linter.unusedSectionVars false
namespace Go.Proofs.YteneoapickhpdaaGreatDoor
open Go Go.RowKit Go.ChangeMaps Un
section
variable {w : World} {kb fb cb mb : Nat} {ns : List ByteArray}
/-- No reading is wrong in no way. -/
def ErM {α : Type} (m : M α) : Prop := ∀ k f, m k = .error f → f.kind ≠ 0
def ReadPost (kb fb cb mb : Nat) (ns : List ByteArray) (s : ByteArray) (w : World) (e : Ending) (w' : World) : Prop :=
  ∃ v f, e = .returned (.tuple #[v, flV f]) ∧ Fr (Two cb mb) w w' ∧
    ((f.kind ≠ 0 ∧ (readT s = .error f ∨ ∃ a, readT s = .ok a ∧ 48 < size (mean ns a).1 ∧ f = ⟨7, 0, s.size⟩)) ∨
     (f = noFl ∧ ∃ a, readT s = .ok a ∧ ¬ 48 < size (mean ns a).1 ∧ NM w' kb fb cb mb (mean ns a).2 ∧ (mean ns a).2.length ≤ ns.length + 401 ∧ TyV w' (fun b => w.heap.size ≤ b) (mean ns a).1 v))
end
end Go.Proofs.YteneoapickhpdaaGreatDoor
