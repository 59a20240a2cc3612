import Derived.Test.YteneoapickhpdaaGreatDoorJGSa
import Derived.Test.YteneoapickhpdaaGreatDoorJGLe
set_option linter.unusedSimpArgs false
set_option linter.unusedVariables false
set_option linter.unusedSectionVars false
namespace Go.Proofs.YteneoapickhpdaaGreatDoor
open Go Go.ChangeShapes Go.WideShapes Go.ChangeAt Go.WideMaps Go.WideElems Go.RowKit
theorem intsUnder' : Tryz.prog.underlying 22 = some (.slice 3) := by kernel_rfl
set_option maxRecDepth 100000 in
/-- Raw numbers that can be read lie in memory as they are read. -/
theorem open_raw {H : Type} {enc : TypeId × Value → H} {w : World} {base fuel : Nat} {p : Option Addr} {len cap : Nat} {x : DataW H × List MemPlace}
    (h : DataW.trod enc Tryz.prog w base (fun _ => true) true fuel 22 [.slice p len cap] = some x) : (len : Int) ≤ 9223372036854775807 ∧ ∃ r, Raw w p len r := by
  rcases open_ints intsUnder' Tryz.underlying3 intCells h with ⟨e, _⟩ | ⟨a, len', cap', zs, e, _, hl, hm, hz, _, hcell, hwz⟩
  · simp at e
    obtain ⟨rfl, rfl, rfl⟩ := e
    exact ⟨by simp, fun _ => 0, fun i hi => by omega⟩
  · simp at e
    obtain ⟨rfl, rfl, rfl⟩ := e
    simp only [if_true] at hz
    refine ⟨by simp only [maxLen] at hm; omega, fun i => zs.getD i 0, fun i hi => ?_⟩
    have hiz : i < zs.length := by omega
    obtain ⟨g, o, sp⟩ := a
    have hsp : sp = none := by simpa [Addr.add] using World.cell?_spot (hcell 0 (by omega))
    subst hsp
    have hc := hcell i hiz
    rw [add_plain] at hc
    have hw := hwz (zs.getD i 0) (by rw [List.getD_eq_getElem?_getD, List.getElem?_eq_getElem hiz]; exact List.getElem_mem _)
    have e1 : IntKind.i64.min = -9223372036854775808 := rfl
    have e2 : IntKind.i64.max = 9223372036854775807 := rfl
    simp only [Lit.wf, Bool.and_eq_true, decide_eq_true_eq, e1, e2] at hw
    exact ⟨⟨g, o, rfl, World.block_lt_of_cell? _ _ hc, hc⟩, hw.1, hw.2⟩
end Go.Proofs.YteneoapickhpdaaGreatDoor
