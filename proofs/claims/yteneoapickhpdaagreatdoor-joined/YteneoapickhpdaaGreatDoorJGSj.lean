import Derived.Deep.RegionHeld3
import Derived.Test.YteneoapickhpdaaGreatDoorJGSh0
set_option linter.unusedSimpArgs false
set_option linter.unusedVariables false
set_option linter.unusedSectionVars false
namespace Go.Proofs.YteneoapickhpdaaGreatDoor
open Go Go.RowKit
section
variable {rb g cap : Nat} {T : List Pu.Tok} {σ : St} {w : World}
end
end Go.Proofs.YteneoapickhpdaaGreatDoor
namespace Go.Proofs.YteneoapickhpdaaGreatDoor
open Go Go.RowKit
section
variable {rb g cap : Nat} {T : List Pu.Tok} {σ : St} {w : World}

theorem NodeC.zero {F : FuncId} {args : Array Value} {m m' : M Nd} (h : NodeC rb g cap T F args m 0) : NodeC rb g cap T F args m' 0 := by
  intro w σ hS hf
  cases σ with
  | ok k => have h' : RS w rb g cap T k noFl := hS; have := h'.hk; have := hf k rfl; omega
  | error f =>
    refine (h w (.error f) hS (fun k hk => by cases hk)).mono ?_
    rintro e w' ⟨x, he, hK, hS', -⟩
    exact ⟨x, he, hK, hS', fun k a k' hk => by cases hk⟩
end
end Go.Proofs.YteneoapickhpdaaGreatDoor
