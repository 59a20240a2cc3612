import Derived.JoinedOf
import Derived.KernelRfl
import Derived.Test.YteneoapickhpdaaGreatDoorRows
set_option linter.unusedSimpArgs false
set_option linter.unusedVariables false
set_option linter.unusedSectionVars false
namespace Go.Proofs.YteneoapickhpdaaGreatDoor
open Go
theorem and2 {a b : Bool} (h : a = true) (k : b = true) : (a && b) = true := by rw [h, k]; rfl
theorem cp1 : (laidOutB Tryz.prog) = true := by kernel_rfl
theorem cp2 : (mapsRowed Tryz.prog) = true := by kernel_rfl
theorem cp6 : ((Tryz.prog.stops == [])) = true := by kernel_rfl
theorem cp8 : ((Tryz.prog.stopKnobs == [])) = true := by kernel_rfl
theorem cp24 : (Tryz.prog.stopsHeard) = true := by kernel_rfl
theorem cp25 : (Tryz.prog.mayEnter) = true := by kernel_rfl
end Go.Proofs.YteneoapickhpdaaGreatDoor
namespace Go.Proofs.YteneoapickhpdaaGreatDoor
open Go
theorem reshown_c0 : (Rows.reshownRow.wf (OpenSpec.ofChange Rows.reshownSpec)) = true := by kernel_rfl
theorem reshown_c3 : (Tryz.f3.params.all (Tryz.prog.readableRec ·)) = true := by kernel_rfl
theorem reshown_c4 : (namedTie Tryz.prog Rows.reshownRow.named Rows.reshownSpec.vars) = true := by kernel_rfl
theorem reshown_c5 : ((Rows.reshownRow.stops == [])) = true := by kernel_rfl
theorem reshown_c7 : ((Rows.reshownRow.knobs == [])) = true := by kernel_rfl
theorem reshown_c9 : ((Rows.reshownRow.inPlace == Tryz.prog.inPlace 3)) = true := by kernel_rfl
theorem reshown_c10 : ((Rows.reshownRow.unfollowed == Tryz.prog.unfollowed 3)) = true := by kernel_rfl
theorem reshown_c11 : ((Rows.reshownRow.recurses == Tryz.prog.recurses 3)) = true := by kernel_rfl
theorem reshown_c12 : ((Rows.reshownRow.named == Tryz.prog.varsNamed 3)) = true := by kernel_rfl
theorem reshown_c13 : ((Rows.reshownRow.maps == (Tryz.f3.params.toList ++ Rows.reshownSpec.plain.varTypes Tryz.prog).any (Tryz.prog.mapsRec ·))) = true := by kernel_rfl
theorem reshown_c14 : ((Rows.reshownRow.ifaces == (Tryz.f3.params.toList ++ Rows.reshownSpec.plain.varTypes Tryz.prog).any (Tryz.prog.ifacesRec ·))) = true := by kernel_rfl
theorem reshown_c15 : ((Rows.reshownRow.mapsOut == Tryz.prog.mapsAmong Tryz.f3.resultTypes.toList)) = true := by kernel_rfl
theorem reshown_c16 : ((Rows.reshownRow.loops == (Tryz.f3.params.toList ++ Rows.reshownSpec.plain.varTypes Tryz.prog).any (Tryz.prog.loopsFrom ·))) = true := by kernel_rfl
theorem reshown_c17 : ((Rows.reshownRow.wideKeys == (Tryz.f3.params.toList ++ Rows.reshownSpec.plain.varTypes Tryz.prog ++ Tryz.f3.resultTypes.toList).any (Tryz.prog.wideKeysFrom ·))) = true := by kernel_rfl
theorem reshown_c18 : (Rows.reshownSpec.vars.all (Tryz.prog.varReadable ·)) = true := by kernel_rfl
theorem reshown_c19 : (Tryz.f3.resultTypes.all (fun t => Tryz.prog.readableRec t && decide (t < Tryz.prog.types.size))) = true := by kernel_rfl
theorem reshown_c20 : ((Rows.reshownRow.ifacesOut == Tryz.f3.resultTypes.toList.any (Tryz.prog.ifacesRec ·))) = true := by kernel_rfl
theorem reshown_c21 : ((Rows.reshownRow.loopsOut == Tryz.f3.resultTypes.toList.any (Tryz.prog.loopsFrom ·))) = true := by kernel_rfl
theorem reshown_c22 : ((Rows.reshownRow.plainKeys == Tryz.prog.plainKeys)) = true := by kernel_rfl
theorem reshown_c23 : (Rows.reshownRow.shortTexts.isNone) = true := by kernel_rfl
theorem reshown_c26 : ((Rows.reshownRow.lifted == Tryz.prog.liftsFinal)) = true := by kernel_rfl
theorem reshown_c27 : ((Tryz.prog.make == some Rows.reshownRow.make)) = true := by kernel_rfl
theorem reshown_c29 : ((Rows.reshownRow.pinned == Rows.reshownRow.pinnedBy)) = true := by kernel_rfl
theorem reshown_c30 : ((Rows.reshownRow.veiled == (Tryz.f3.params.toList ++ Rows.reshownSpec.plain.varTypes Tryz.prog ++ Tryz.f3.resultTypes.toList).any (Tryz.prog.veiledRec ·))) = true := by kernel_rfl
theorem reshown_c31 : (Rows.reshownRow.veiledFits Tryz.prog Tryz.f3.params.toList (Tryz.f3.params.toList ++ Rows.reshownSpec.plain.varTypes Tryz.prog ++ Tryz.f3.resultTypes.toList)) = true := by kernel_rfl
end Go.Proofs.YteneoapickhpdaaGreatDoor
namespace Go.Proofs.YteneoapickhpdaaGreatDoor
open Go
set_option maxRecDepth 100000 in
theorem reshown_closed : joinedFacts Tryz.prog 3 Tryz.f3 Rows.reshownSpec Rows.reshownRow = true := by
  unfold joinedFacts
  exact (and2 (and2 (and2 (and2 (and2 (and2 (and2 (and2 (and2 (and2 (and2 (and2 (and2 (and2 (and2 (and2 (and2 (and2 (and2 (and2 (and2 (and2 (and2 (and2 (and2 (and2 (and2 (and2 (and2 (and2 (and2 reshown_c0 cp1) cp2) reshown_c3) reshown_c4) reshown_c5) cp6) reshown_c7) cp8) reshown_c9) reshown_c10) reshown_c11) reshown_c12) reshown_c13) reshown_c14) reshown_c15) reshown_c16) reshown_c17) reshown_c18) reshown_c19) reshown_c20) reshown_c21) reshown_c22) reshown_c23) cp24) cp25) reshown_c26) reshown_c27) (by kernel_rfl)) reshown_c29) reshown_c30) reshown_c31)
end Go.Proofs.YteneoapickhpdaaGreatDoor
