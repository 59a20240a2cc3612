import Derived.Deep.Cut
import Derived.Deep.CutRange
import Derived.Maps.AppendAt
import Derived.Test.YteneoapickhpdaaGreatDoorJGTf
set_option linter.unusedSimpArgs false
set_option linter.unusedVariables false
set_option linter.unusedSectionVars false
namespace Go.Proofs.YteneoapickhpdaaGreatDoor
open Go Go.RowKit Un
section
variable {w : World} {kb nb : Nat} {hv iv lv nv : Value} {ns : List ByteArray} {K : Nat → Option Ty} {P : Nat → Prop}

end
end Go.Proofs.YteneoapickhpdaaGreatDoor
namespace Go.Proofs.YteneoapickhpdaaGreatDoor
open Go Go.RowKit Un

theorem NR.parts {w : World} {Q : Nat → Prop} {k : Nat} {s : ByteArray} {n : Nat} {L : List Nd} {f t a : Nat} {x : NV} (h : NR w Q (.mk k s n L f t a) x) :
    ∃ la cap, x = ⟨k, s, n, la, L.length, cap, f, t, a⟩ ∧ ∀ i (hi : i < L.length), ∃ g y, la = some ⟨g, 0, none⟩ ∧ (g < w.heap.size ∧ Q g) ∧ at7 w g i y ∧ NR w Q (L[i]) y := by
  cases h with
  | leaf => exact ⟨none, 0, rfl, fun i hi => by simp at hi⟩
  | row k s n L f t a g cap xs h0 hP hz hc hr => exact ⟨some ⟨g, 0, none⟩, cap, rfl, fun i hi => ⟨g, xs i, rfl, ⟨hz, hP⟩, hc i hi, hr i hi⟩⟩
section
variable {w : World} {kb nb : Nat} {hv iv lv nv : Value} {ns : List ByteArray} {K : Nat → Option Ty} {P Q : Nat → Prop}
end
end Go.Proofs.YteneoapickhpdaaGreatDoor
