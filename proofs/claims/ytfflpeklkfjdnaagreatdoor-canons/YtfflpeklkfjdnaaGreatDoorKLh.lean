import Derived.SevenTiedAt
import Derived.Test.YtfflpeklkfjdnaaGreatDoorKLg
import Derived.Test.YtfflpeklkfjdnaaGreatDoorKLi
import Derived.Test.YtfflpeklkfjdnaaGreatDoorKTyz
import Derived.Test.YtfflpeklkfjdnaaGreatDoorKLf
set_option linter.unusedSimpArgs false
set_option linter.unusedVariables false
set_option linter.unusedSectionVars false
namespace Go.Proofs.YtfflpeklkfjdnaaGreatDoor
open Go Go.ChangeShapes Go.WideShapes Go.ChangeAt Go.WideMaps Go.WideElems Go.RowKit
theorem canons_named : Tryz.prog.funcNamed "assay/assaylaw.Canons" = some 3 := by kernel_rfl
theorem canons_inst : Tryz.f3.isInstance Tryz.prog Rows.canonsRow.origin Rows.canonsRow.targs := of_decide_eq_true (by kernel_rfl)
theorem canons_wrap : Tryz.f3.isWrapper Tryz.prog Rows.canonsRow.wrapper Rows.canonsRow.mainSum := by
  unfold Func.isWrapper; first | (rw [if_pos (by decide +kernel)]; kernel_rfl) | (rw [if_neg (by decide +kernel)]; exact ⟨rfl, rfl⟩)
theorem canons_row : Rows.CanonsSaid :=
  OpenClaim.holds_of_wide 3 Tryz.f3 rfl rfl rfl rfl rfl rfl rfl ⟨rfl, rfl, rfl, rfl, rfl⟩ rfl rfl rfl rfl rfl canons_named Tryz.func3 canons_closed canons_inst canons_wrap
    (fun os started H enc _ => canons_lifted os started H enc)
#print axioms canons_row
end Go.Proofs.YtfflpeklkfjdnaaGreatDoor
namespace Go.Proofs.YtfflpeklkfjdnaaGreatDoor
open Go
theorem ops_stand : ([22].all fun u => !Tryz.prog.wantsStandIn u) = true := by kernel_rfl
/-- The statement. -/
theorem canons_holds : Rows.CanonsCardSaid :=
  Claim7.holds_tied_plain_at .later [] tieK true Rows.canonsCard.stood.harness true
    canons_row (fun _ h => by cases h) canons_wfb (fun _ h => by cases h) canons_row_tie rfl ⟨rfl, rfl⟩ seat_main rfl
    (fun f fn hf hfn => by
      obtain rfl : f = 3 := (Option.some.inj (canons_named.symm.trans hf)).symm
      obtain rfl : fn = Tryz.f3 := (Option.some.inj (Tryz.func3.symm.trans hfn)).symm
      exact ⟨seat_looks, fun j t ht => by
        rw [Tryz.params3] at ht
        have hm : t ∈ [22] := by simpa using Array.mem_of_getElem? ht
        exact (show Tryz.prog.wantsStandIn t = false by simpa using List.all_eq_true.1 ops_stand t hm)⟩)
    canons_goes
#print axioms canons_holds
end Go.Proofs.YtfflpeklkfjdnaaGreatDoor
