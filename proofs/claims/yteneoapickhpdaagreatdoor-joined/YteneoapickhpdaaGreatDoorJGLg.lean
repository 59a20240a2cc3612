import Derived.JoinedOf
import Derived.KernelRfl
import Derived.Test.YteneoapickhpdaaGreatDoorRows
set_option linter.unusedSimpArgs false
set_option linter.unusedVariables false
set_option linter.unusedSectionVars false
namespace Go.Proofs.YteneoapickhpdaaGreatDoor
open Go
theorem and2 {a b : Bool} (h : a = true) (k : b = true) : (a && b) = true := by rw [h, k]; rfl
theorem cp1 : (laidOutB Tryz.prog) = true := by kernel_rfl
theorem cp2 : (mapsRowed Tryz.prog) = true := by kernel_rfl
theorem cp6 : ((Tryz.prog.stops == [])) = true := by kernel_rfl
theorem cp8 : ((Tryz.prog.stopKnobs == [])) = true := by kernel_rfl
theorem cp24 : (Tryz.prog.stopsHeard) = true := by kernel_rfl
theorem cp25 : (Tryz.prog.mayEnter) = true := by kernel_rfl
end Go.Proofs.YteneoapickhpdaaGreatDoor
namespace Go.Proofs.YteneoapickhpdaaGreatDoor
open Go
theorem joined_c0 : (Rows.joinedRow.wf (OpenSpec.ofChange Rows.joinedSpec)) = true := by kernel_rfl
theorem joined_c3 : (Tryz.f4.params.all (Tryz.prog.readableRec ·)) = true := by kernel_rfl
theorem joined_c4 : (namedTie Tryz.prog Rows.joinedRow.named Rows.joinedSpec.vars) = true := by kernel_rfl
theorem joined_c5 : ((Rows.joinedRow.stops == [])) = true := by kernel_rfl
theorem joined_c7 : ((Rows.joinedRow.knobs == [])) = true := by kernel_rfl
theorem joined_c9 : ((Rows.joinedRow.inPlace == Tryz.prog.inPlace 4)) = true := by kernel_rfl
theorem joined_c10 : ((Rows.joinedRow.unfollowed == Tryz.prog.unfollowed 4)) = true := by kernel_rfl
theorem joined_c11 : ((Rows.joinedRow.recurses == Tryz.prog.recurses 4)) = true := by kernel_rfl
theorem joined_c12 : ((Rows.joinedRow.named == Tryz.prog.varsNamed 4)) = true := by kernel_rfl
theorem joined_c13 : ((Rows.joinedRow.maps == (Tryz.f4.params.toList ++ Rows.joinedSpec.plain.varTypes Tryz.prog).any (Tryz.prog.mapsRec ·))) = true := by kernel_rfl
theorem joined_c14 : ((Rows.joinedRow.ifaces == (Tryz.f4.params.toList ++ Rows.joinedSpec.plain.varTypes Tryz.prog).any (Tryz.prog.ifacesRec ·))) = true := by kernel_rfl
theorem joined_c15 : ((Rows.joinedRow.mapsOut == Tryz.prog.mapsAmong Tryz.f4.resultTypes.toList)) = true := by kernel_rfl
theorem joined_c16 : ((Rows.joinedRow.loops == (Tryz.f4.params.toList ++ Rows.joinedSpec.plain.varTypes Tryz.prog).any (Tryz.prog.loopsFrom ·))) = true := by kernel_rfl
theorem joined_c17 : ((Rows.joinedRow.wideKeys == (Tryz.f4.params.toList ++ Rows.joinedSpec.plain.varTypes Tryz.prog ++ Tryz.f4.resultTypes.toList).any (Tryz.prog.wideKeysFrom ·))) = true := by kernel_rfl
theorem joined_c18 : (Rows.joinedSpec.vars.all (Tryz.prog.varReadable ·)) = true := by kernel_rfl
theorem joined_c19 : (Tryz.f4.resultTypes.all (fun t => Tryz.prog.readableRec t && decide (t < Tryz.prog.types.size))) = true := by kernel_rfl
theorem joined_c20 : ((Rows.joinedRow.ifacesOut == Tryz.f4.resultTypes.toList.any (Tryz.prog.ifacesRec ·))) = true := by kernel_rfl
theorem joined_c21 : ((Rows.joinedRow.loopsOut == Tryz.f4.resultTypes.toList.any (Tryz.prog.loopsFrom ·))) = true := by kernel_rfl
theorem joined_c22 : ((Rows.joinedRow.plainKeys == Tryz.prog.plainKeys)) = true := by kernel_rfl
theorem joined_c23 : (Rows.joinedRow.shortTexts.isNone) = true := by kernel_rfl
theorem joined_c26 : ((Rows.joinedRow.lifted == Tryz.prog.liftsFinal)) = true := by kernel_rfl
theorem joined_c27 : ((Tryz.prog.make == some Rows.joinedRow.make)) = true := by kernel_rfl
theorem joined_c29 : ((Rows.joinedRow.pinned == Rows.joinedRow.pinnedBy)) = true := by kernel_rfl
theorem joined_c30 : ((Rows.joinedRow.veiled == (Tryz.f4.params.toList ++ Rows.joinedSpec.plain.varTypes Tryz.prog ++ Tryz.f4.resultTypes.toList).any (Tryz.prog.veiledRec ·))) = true := by kernel_rfl
theorem joined_c31 : (Rows.joinedRow.veiledFits Tryz.prog Tryz.f4.params.toList (Tryz.f4.params.toList ++ Rows.joinedSpec.plain.varTypes Tryz.prog ++ Tryz.f4.resultTypes.toList)) = true := by kernel_rfl
end Go.Proofs.YteneoapickhpdaaGreatDoor
namespace Go.Proofs.YteneoapickhpdaaGreatDoor
open Go
set_option maxRecDepth 100000 in
theorem joined_closed : joinedFacts Tryz.prog 4 Tryz.f4 Rows.joinedSpec Rows.joinedRow = true := by
  unfold joinedFacts
  exact (and2 (and2 (and2 (and2 (and2 (and2 (and2 (and2 (and2 (and2 (and2 (and2 (and2 (and2 (and2 (and2 (and2 (and2 (and2 (and2 (and2 (and2 (and2 (and2 (and2 (and2 (and2 (and2 (and2 (and2 (and2 joined_c0 cp1) cp2) joined_c3) joined_c4) joined_c5) cp6) joined_c7) cp8) joined_c9) joined_c10) joined_c11) joined_c12) joined_c13) joined_c14) joined_c15) joined_c16) joined_c17) joined_c18) joined_c19) joined_c20) joined_c21) joined_c22) joined_c23) cp24) cp25) joined_c26) joined_c27) (by kernel_rfl)) joined_c29) joined_c30) joined_c31)
end Go.Proofs.YteneoapickhpdaaGreatDoor
