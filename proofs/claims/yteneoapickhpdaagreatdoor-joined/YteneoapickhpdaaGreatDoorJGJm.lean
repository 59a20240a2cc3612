import Derived.SevenTiedAt
import Derived.Test.YteneoapickhpdaaGreatDoorTie
import Derived.Test.YteneoapickhpdaaGreatDoorJGLg
import Derived.Test.YteneoapickhpdaaGreatDoorJGLi
import Derived.Test.YteneoapickhpdaaGreatDoorJGJl
set_option linter.unusedSimpArgs false
set_option linter.unusedVariables false
set_option linter.unusedSectionVars false
namespace Go.Proofs.YteneoapickhpdaaGreatDoor
open Go Go.ChangeShapes Go.WideShapes Go.ChangeAt Go.WideMaps Go.WideElems Go.RowKit
theorem joined_named : Tryz.prog.funcNamed "assay/assaykeep.Joined" = some 4 := by kernel_rfl
theorem joined_inst : Tryz.f4.isInstance Tryz.prog Rows.joinedRow.origin Rows.joinedRow.targs := of_decide_eq_true (by kernel_rfl)
theorem joined_wrap : Tryz.f4.isWrapper Tryz.prog Rows.joinedRow.wrapper Rows.joinedRow.mainSum := by
  unfold Func.isWrapper; first | (rw [if_pos (by decide +kernel)]; kernel_rfl) | (rw [if_neg (by decide +kernel)]; exact ⟨rfl, rfl⟩)
theorem joined_row : Rows.JoinedSaid :=
  OpenClaim.holds_of_wide 4 Tryz.f4 rfl rfl rfl rfl rfl rfl rfl ⟨rfl, rfl, rfl, rfl, rfl⟩ rfl rfl rfl rfl rfl joined_named Tryz.func4 joined_closed joined_inst joined_wrap
    (fun os started H enc _ => joined_lifted os started H enc)
#print axioms joined_row
end Go.Proofs.YteneoapickhpdaaGreatDoor
namespace Go.Proofs.YteneoapickhpdaaGreatDoor
open Go
theorem ints_stand : ([22].all fun u => !Tryz.prog.wantsStandIn u) = true := by kernel_rfl
/-- The statement. -/
theorem joined_holds : Rows.JoinedCardSaid :=
  Claim7.holds_tied_plain_at .later [] [.data, .data, .data, .sentinel, .sentinel, .data, .data] true Rows.reshownCard.stood.harness true
    joined_row (fun _ h => by cases h) joined_wfb (fun _ h => by cases h) joined_row_tie rfl ⟨rfl, rfl⟩ seat_main rfl
    (fun f fn hf hfn => by
      obtain rfl : f = 4 := (Option.some.inj (joined_named.symm.trans hf)).symm
      obtain rfl : fn = Tryz.f4 := (Option.some.inj (Tryz.func4.symm.trans hfn)).symm
      exact ⟨seat_looks, fun j t ht => by
        rw [Tryz.params4] at ht
        have hm : t ∈ [22] := by simpa using Array.mem_of_getElem? ht
        exact (show Tryz.prog.wantsStandIn t = false by simpa using List.all_eq_true.1 ints_stand t hm)⟩)
    joined_goes
#print axioms joined_holds
end Go.Proofs.YteneoapickhpdaaGreatDoor
