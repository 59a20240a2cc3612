import Derived.SevenTiedAt
import Derived.Test.YteneoapickhpdaaGreatDoorTie
import Derived.Test.YteneoapickhpdaaGreatDoorGLg
import Derived.Test.YteneoapickhpdaaGreatDoorGLi
import Derived.Test.YteneoapickhpdaaGreatDoorGHl
set_option linter.unusedSimpArgs false
set_option linter.unusedVariables false
set_option linter.unusedSectionVars false
namespace Go.Proofs.YteneoapickhpdaaGreatDoor
open Go Go.ChangeShapes Go.WideShapes Go.ChangeAt Go.WideMaps Go.WideElems Go.RowKit
theorem reshown_named : Tryz.prog.funcNamed "assay/assaykeep.Reshown" = some 3 := by kernel_rfl
theorem reshown_inst : Tryz.f3.isInstance Tryz.prog Rows.reshownRow.origin Rows.reshownRow.targs := of_decide_eq_true (by kernel_rfl)
theorem reshown_wrap : Tryz.f3.isWrapper Tryz.prog Rows.reshownRow.wrapper Rows.reshownRow.mainSum := by
  unfold Func.isWrapper; first | (rw [if_pos (by decide +kernel)]; kernel_rfl) | (rw [if_neg (by decide +kernel)]; exact ⟨rfl, rfl⟩)
theorem reshown_row : Rows.ReshownSaid :=
  OpenClaim.holds_of_wide 3 Tryz.f3 rfl rfl rfl rfl rfl rfl rfl ⟨rfl, rfl, rfl, rfl, rfl⟩ rfl rfl rfl rfl rfl reshown_named Tryz.func3 reshown_closed reshown_inst reshown_wrap
    (fun os started H enc _ => reshown_lifted os started H enc)
#print axioms reshown_row
end Go.Proofs.YteneoapickhpdaaGreatDoor
namespace Go.Proofs.YteneoapickhpdaaGreatDoor
open Go
theorem strInts_stand : ([9, 22].all fun u => !Tryz.prog.wantsStandIn u) = true := by kernel_rfl
/-- The statement. -/
theorem reshown_holds : Rows.ReshownCardSaid :=
  Claim7.holds_tied_plain_at .later [] [.data, .data, .data, .sentinel, .sentinel, .data, .data] true Rows.reshownCard.stood.harness true
    reshown_row (fun _ h => by cases h) reshown_wfb (fun _ h => by cases h) reshown_row_tie rfl ⟨rfl, rfl⟩ seat_main rfl
    (fun f fn hf hfn => by
      obtain rfl : f = 3 := (Option.some.inj (reshown_named.symm.trans hf)).symm
      obtain rfl : fn = Tryz.f3 := (Option.some.inj (Tryz.func3.symm.trans hfn)).symm
      exact ⟨seat_looks, fun j t ht => by
        rw [Tryz.params3] at ht
        have hm : t ∈ [9, 22] := by simpa using Array.mem_of_getElem? ht
        exact (show Tryz.prog.wantsStandIn t = false by simpa using List.all_eq_true.1 strInts_stand t hm)⟩)
    reshown_goes
#print axioms reshown_holds
end Go.Proofs.YteneoapickhpdaaGreatDoor
