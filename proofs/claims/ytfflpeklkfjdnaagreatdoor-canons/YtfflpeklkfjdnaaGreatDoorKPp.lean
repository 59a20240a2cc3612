import Derived.Recover
import Derived.Test.YtfflpeklkfjdnaaGreatDoorKPk
set_option linter.unusedSimpArgs false
set_option linter.unusedVariables false
set_option linter.unusedSectionVars false
namespace Go.Proofs.YtfflpeklkfjdnaaGreatDoor
open Go Go.RowKit Go.ChangeMaps
abbrev zF : Array Value := #[.int .i64 0, .int .i64 0, .int .i64 0]
theorem asGiveUp (a b c : Value) (w : World) : (Instr.typeAssert (.iface 231 (.agg #[a, b, c])) 20 231 true).run Tryz.prog w = .ok (.tuple #[.agg #[a, b, c], .bool true]) w := by kernel_rfl
section
variable {w : World}
set_option maxRecDepth 100000 in
set_option maxHeartbeats 1000000 in
theorem caught_C (b : Nat) (hB : Bx w b zF) (f : Fl) :
    CallsD Tryz.prog 207 #[.pointer (some ⟨b, 0, none⟩)] (.panicking [{ v := guV f, recovered := false }]) w fun e u' w' =>
      e = .returned (.tuple #[]) ∧ u' = .panicking [{ v := guV f, recovered := true }] ∧ Bx w' b #[.int .i64 (f.kind : Int), .int .i64 (f.frm : Int), .int .i64 (f.to : Int)] ∧ Below b w w' := by
  have hta := asGiveUp
  have B0 := hide hB
  have hnot : ∀ (x : Bool) (w : World), (Op.unary .not (.bool x)).run Tryz.prog w = .ok (.bool (!x)) w := fun _ _ => rfl
  obtain ⟨c, ff, z⟩ := hB
  refine callsD_of_wpS Tryz.func207 rfl fun c₀ cs hu => ?_
  apply wpS_seq
  apply wpS_region
  simp [wpOpsS, go_sem, recoverD, hu, Tryz.ntmps207, Exit.thenS]
  rw [show (#[Value.pointer (some ⟨b, 0, none⟩)] ++ ((Array.replicate 16 undef).setIfInBounds 3 (guV f)).setIfInBounds 0 (guV f)) = #[.pointer (some ⟨b, 0, none⟩), guV f, undef, undef, guV f, undef, undef, undef, undef, undef, undef, undef, undef, undef, undef, undef, undef] from rfl]
  obtain ⟨CS, hCS⟩ : ∃ CS : List Frame, CS = ({ fn := c₀.fn, tmps := c₀.tmps, todo := c₀.todo, defers := c₀.defers, mode := FrameMode.panicking [{ v := guV f, recovered := true }], kind := c₀.kind, roundOf := c₀.roundOf } :: cs) := ⟨_, rfl⟩
  rw [← hCS]
  have HCS := hide hCS
  refine wpS_of_wp ?_
  clear hu hCS
  go_wp2_with fail
  refine ⟨rfl, _, unhide HCS, .tuple #[], by simp [results, Tryz.results207, go_sem], rfl, rfl, ?_, ?_⟩
  · exact (((unhide B0).set3' rfl _ _ _).alloc _)
  · exact ((((Below.refl b w).setCell (p := ⟨b, 0, none⟩) (Nat.le_refl _) _).setCell (p := ⟨b, 1, none⟩) (Nat.le_refl _) _).setCell (p := ⟨b, 2, none⟩) (Nat.le_refl _) _).alloc (by simp [World.setCell]; omega) _
set_option maxRecDepth 100000 in
set_option maxHeartbeats 1000000 in
theorem idle_C (b : Nat) :
    CallsD Tryz.prog 207 #[.pointer (some ⟨b, 0, none⟩)] .returning w fun e u' w' =>
      e = .returned (.tuple #[]) ∧ u' = .returning ∧ w' = w := by
  refine callsD_of_wpS Tryz.func207 rfl fun c₀ cs hu => ?_
  apply wpS_seq
  apply wpS_region
  simp [wpOpsS, go_sem, recoverD, hu, Tryz.ntmps207, Exit.thenS]
  rw [show (#[Value.pointer (some ⟨b, 0, none⟩)] ++ ((Array.replicate 16 undef).setIfInBounds 3 Value.nilIface).setIfInBounds 0 Value.nilIface) = #[.pointer (some ⟨b, 0, none⟩), .nilIface, undef, undef, .nilIface, undef, undef, undef, undef, undef, undef, undef, undef, undef, undef, undef, undef] from rfl]
  have HCS : Hid (c₀ :: cs = { c₀ with mode := .returning } :: cs) := hide (by cases c₀; simp at hu; subst hu; rfl)
  refine wpS_of_wp ?_
  clear hu
  go_wp2_with fail
  exact ⟨rfl, _, unhide HCS, .tuple #[], by simp [results, Tryz.results207, go_sem], rfl, rfl, rfl⟩
end
end Go.Proofs.YtfflpeklkfjdnaaGreatDoor
