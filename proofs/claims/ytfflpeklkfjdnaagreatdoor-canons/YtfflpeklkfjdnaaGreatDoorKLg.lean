import Derived.JoinedOf
import Derived.KernelRfl
import Derived.Test.YtfflpeklkfjdnaaGreatDoorRows
set_option linter.unusedSimpArgs false
set_option linter.unusedVariables false
set_option linter.unusedSectionVars false
namespace Go.Proofs.YtfflpeklkfjdnaaGreatDoor
open Go
theorem and2 {a b : Bool} (h : a = true) (k : b = true) : (a && b) = true := by rw [h, k]; rfl
theorem cp1 : (laidOutB Tryz.prog) = true := by kernel_rfl
theorem cp2 : (mapsRowed Tryz.prog) = true := by kernel_rfl
theorem cp6 : ((Tryz.prog.stops == [])) = true := by kernel_rfl
theorem cp8 : ((Tryz.prog.stopKnobs == [])) = true := by kernel_rfl
theorem cp24 : (Tryz.prog.stopsHeard) = true := by kernel_rfl
theorem cp25 : (Tryz.prog.mayEnter) = true := by kernel_rfl
end Go.Proofs.YtfflpeklkfjdnaaGreatDoor
namespace Go.Proofs.YtfflpeklkfjdnaaGreatDoor
open Go
theorem canons_c0 : (Rows.canonsRow.wf (OpenSpec.ofChange Rows.canonsSpec)) = true := by kernel_rfl
theorem canons_c3 : (Tryz.f3.params.all (Tryz.prog.readableRec ·)) = true := by kernel_rfl
theorem canons_c4 : (namedTie Tryz.prog Rows.canonsRow.named Rows.canonsSpec.vars) = true := by kernel_rfl
theorem canons_c5 : ((Rows.canonsRow.stops == [])) = true := by kernel_rfl
theorem canons_c7 : ((Rows.canonsRow.knobs == [])) = true := by kernel_rfl
theorem canons_c9 : ((Rows.canonsRow.inPlace == Tryz.prog.inPlace 3)) = true := by kernel_rfl
theorem canons_c10 : ((Rows.canonsRow.unfollowed == Tryz.prog.unfollowed 3)) = true := by kernel_rfl
theorem canons_c11 : ((Rows.canonsRow.recurses == Tryz.prog.recurses 3)) = true := by kernel_rfl
theorem canons_c12 : ((Rows.canonsRow.named == Tryz.prog.varsNamed 3)) = true := by kernel_rfl
theorem canons_c13 : ((Rows.canonsRow.maps == (Tryz.f3.params.toList ++ Rows.canonsSpec.plain.varTypes Tryz.prog).any (Tryz.prog.mapsRec ·))) = true := by kernel_rfl
theorem canons_c14 : ((Rows.canonsRow.ifaces == (Tryz.f3.params.toList ++ Rows.canonsSpec.plain.varTypes Tryz.prog).any (Tryz.prog.ifacesRec ·))) = true := by kernel_rfl
theorem canons_c15 : ((Rows.canonsRow.mapsOut == Tryz.prog.mapsAmong Tryz.f3.resultTypes.toList)) = true := by kernel_rfl
theorem canons_c16 : ((Rows.canonsRow.loops == (Tryz.f3.params.toList ++ Rows.canonsSpec.plain.varTypes Tryz.prog).any (Tryz.prog.loopsFrom ·))) = true := by kernel_rfl
theorem canons_c17 : ((Rows.canonsRow.wideKeys == (Tryz.f3.params.toList ++ Rows.canonsSpec.plain.varTypes Tryz.prog ++ Tryz.f3.resultTypes.toList).any (Tryz.prog.wideKeysFrom ·))) = true := by kernel_rfl
theorem canons_c18 : (Rows.canonsSpec.vars.all (Tryz.prog.varReadable ·)) = true := by kernel_rfl
theorem canons_c19 : (Tryz.f3.resultTypes.all (fun t => Tryz.prog.readableRec t && decide (t < Tryz.prog.types.size))) = true := by kernel_rfl
theorem canons_c20 : ((Rows.canonsRow.ifacesOut == Tryz.f3.resultTypes.toList.any (Tryz.prog.ifacesRec ·))) = true := by kernel_rfl
theorem canons_c21 : ((Rows.canonsRow.loopsOut == Tryz.f3.resultTypes.toList.any (Tryz.prog.loopsFrom ·))) = true := by kernel_rfl
theorem canons_c22 : ((Rows.canonsRow.plainKeys == Tryz.prog.plainKeys)) = true := by kernel_rfl
theorem canons_c23 : (Rows.canonsRow.shortTexts.isNone) = true := by kernel_rfl
theorem canons_c26 : ((Rows.canonsRow.lifted == Tryz.prog.liftsFinal)) = true := by kernel_rfl
theorem canons_c27 : ((Tryz.prog.make == some Rows.canonsRow.make)) = true := by kernel_rfl
theorem canons_c29 : ((Rows.canonsRow.pinned == Rows.canonsRow.pinnedBy)) = true := by kernel_rfl
theorem canons_c30 : ((Rows.canonsRow.veiled == (Tryz.f3.params.toList ++ Rows.canonsSpec.plain.varTypes Tryz.prog ++ Tryz.f3.resultTypes.toList).any (Tryz.prog.veiledRec ·))) = true := by kernel_rfl
theorem canons_c31 : (Rows.canonsRow.veiledFits Tryz.prog Tryz.f3.params.toList (Tryz.f3.params.toList ++ Rows.canonsSpec.plain.varTypes Tryz.prog ++ Tryz.f3.resultTypes.toList)) = true := by kernel_rfl
end Go.Proofs.YtfflpeklkfjdnaaGreatDoor
namespace Go.Proofs.YtfflpeklkfjdnaaGreatDoor
open Go
set_option maxRecDepth 100000 in
theorem canons_closed : joinedFacts Tryz.prog 3 Tryz.f3 Rows.canonsSpec Rows.canonsRow = true := by
  unfold joinedFacts
  exact (and2 (and2 (and2 (and2 (and2 (and2 (and2 (and2 (and2 (and2 (and2 (and2 (and2 (and2 (and2 (and2 (and2 (and2 (and2 (and2 (and2 (and2 (and2 (and2 (and2 (and2 (and2 (and2 (and2 (and2 (and2 canons_c0 cp1) cp2) canons_c3) canons_c4) canons_c5) cp6) canons_c7) cp8) canons_c9) canons_c10) canons_c11) canons_c12) canons_c13) canons_c14) canons_c15) canons_c16) canons_c17) canons_c18) canons_c19) canons_c20) canons_c21) canons_c22) canons_c23) cp24) cp25) canons_c26) canons_c27) (by kernel_rfl)) canons_c29) canons_c30) canons_c31)
end Go.Proofs.YtfflpeklkfjdnaaGreatDoor
