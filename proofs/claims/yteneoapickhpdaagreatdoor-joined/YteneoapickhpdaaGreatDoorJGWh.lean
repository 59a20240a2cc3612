import Derived.Deep.LoopGhost
import Derived.Test.YteneoapickhpdaaGreatDoorJGPure
import Derived.Test.YteneoapickhpdaaGreatDoorJGKit
set_option linter.unusedSimpArgs false
set_option linter.unusedVariables false
set_option linter.unusedSectionVars false
namespace Go.Proofs.YteneoapickhpdaaGreatDoor
open Go Go.RowKit

end Go.Proofs.YteneoapickhpdaaGreatDoor
namespace Go.Proofs.YteneoapickhpdaaGreatDoor
open Go Go.RowKit

end Go.Proofs.YteneoapickhpdaaGreatDoor
namespace Go.Proofs.YteneoapickhpdaaGreatDoor
open Go Go.RowKit

/-- Tokens as they lie one behind the other. -/
def tokCells (l : List Pu.Tok) : List Value := l.flatMap fun t => [.int .i64 (t.kind : Int), .string t.text, .int .i64 (t.frm : Int), .int .i64 (t.to : Int)]
end Go.Proofs.YteneoapickhpdaaGreatDoor
namespace Go.Proofs.YteneoapickhpdaaGreatDoor
open Go Go.RowKit

def blankB (c : Nat) : Bool := c == 32 || c == 10
theorem blankB_iff (c : Nat) : (((c : Int) == 32) || ((c : Int) == 10)) = blankB c := by
  rw [Bool.eq_iff_iff]; simp [blankB]; omega

set_option maxHeartbeats 400000 in
theorem pLow_any (c : Nat) (w : World) : Calls Tryz.prog 121 #[.int .u8 (c : Int)] w fun e w' => e = .returned (.bool (Pu.lowB c)) ∧ w' = w := by
  go_enter Tryz.func121, Tryz.ntmps121
  go_wp2
  all_goals (go_ret; exact ⟨retBool (by rw [lowB_iff]; symm; simp; try omega), rfl⟩)
set_option maxHeartbeats 400000 in
theorem pUp_any (c : Nat) (w : World) : Calls Tryz.prog 123 #[.int .u8 (c : Int)] w fun e w' => e = .returned (.bool (Pu.upB c)) ∧ w' = w := by
  go_enter Tryz.func123, Tryz.ntmps123
  go_wp2
  all_goals (go_ret; exact ⟨retBool (by rw [upB_iff]; symm; simp; try omega), rfl⟩)
set_option maxHeartbeats 400000 in
theorem pDig_any (c : Nat) (w : World) : Calls Tryz.prog 126 #[.int .u8 (c : Int)] w fun e w' => e = .returned (.bool (Pu.digB c)) ∧ w' = w := by
  go_enter Tryz.func126, Tryz.ntmps126
  go_wp2
  all_goals (go_ret; exact ⟨retBool (by rw [digB_iff]; symm; simp; try omega), rfl⟩)
set_option maxHeartbeats 400000 in
theorem pBlank_any (c : Nat) (w : World) : Calls Tryz.prog 120 #[.int .u8 (c : Int)] w fun e w' => e = .returned (.bool (blankB c)) ∧ w' = w := by
  go_enter Tryz.func120, Tryz.ntmps120
  go_wp2
  all_goals (go_ret; exact ⟨retBool (by rw [← blankB_iff]; try simp [*]), rfl⟩)
set_option maxHeartbeats 400000 in
theorem pName_any (c : Nat) (w : World) : Calls Tryz.prog 125 #[.int .u8 (c : Int)] w fun e w' => e = .returned (.bool (Pu.nameB c)) ∧ w' = w := by
  have hn : Pu.nameB c = (Pu.lowB c || Pu.upB c || Pu.digB c) := rfl
  have hcase : (Pu.lowB c = true ∨ (Pu.lowB c = false ∧ Pu.upB c = true)) ∨ (Pu.lowB c = false ∧ Pu.upB c = false) := by
    cases Pu.lowB c <;> cases Pu.upB c <;> simp
  rcases hcase with (h1 | ⟨h1, h2⟩) | ⟨h1, h2⟩
  all_goals
    simp only [*, Bool.or_true, Bool.true_or, Bool.false_or] at hn
    have hn := hide hn
    go_enter Tryz.func125, Tryz.ntmps125
    go_wp2_with (first | (go_at_call 121; refine (pLow_any _ _).mono ?_; rintro e w' ⟨rfl, rfl⟩) | (go_at_call 123; refine (pUp_any _ _).mono ?_; rintro e w' ⟨rfl, rfl⟩) | (go_at_call 126; refine (pDig_any _ _).mono ?_; rintro e w' ⟨rfl, rfl⟩))
    go_ret
    exact ⟨retBool (unhide hn).symm, rfl⟩

set_option maxRecDepth 100000 in
set_option maxHeartbeats 800000 in
theorem endBlank_any (s : ByteArray) (i : Nat) (w : World) (hs : s.size ≤ 1000) (hi : i ≤ s.size) :
    Calls Tryz.prog 119 #[.string s, .int .i64 (i : Int), .func (.func 120) #[] #[]] w fun e w' => e = .returned (.int .i64 (Pu.endTo s blankB i)) ∧ w' = w := by
  go_enter Tryz.func119, Tryz.ntmps119
  go_wp2_with fail
  go_loop [7] (fun v => ∃ j : Nat, j ≤ s.size ∧ v = .int .i64 (j : Int) ∧ Hid (Pu.endTo s blankB i = Pu.endTo s blankB j)) (fun v => s.size - (intOf v).toNat)
  case atStart => exact ⟨i, hi, rfl, rfl⟩
  case round =>
    obtain ⟨j, hj, rfl, he⟩ := hrel
    by_cases hlt : j < s.size
    · have hn : Pu.at_ s j = s[j].toNat := Pu.at_lt hlt
      cases hp : blankB (Pu.at_ s j) with
      | true =>
        have hm := step_end hlt he hp
        rw [hn] at hp
        clear he hn
        go_wp2_with (go_at_call 120; refine (pBlank_any _ _).mono ?_; rintro e w' ⟨rfl, rfl⟩)
        go_round
        case rel => exact ⟨j + 1, by omega, by go_num, by simpa using hm⟩
        case measure => simp [intOf]; omega
      | false =>
        have hm := step_end hlt he hp
        rw [hn] at hp
        clear he hn
        go_wp2_with (go_at_call 120; refine (pBlank_any _ _).mono ?_; rintro e w' ⟨rfl, rfl⟩)
        go_ret
        exact ⟨retInt (congrArg Nat.cast (hm.out.symm)), rfl⟩
    · go_wp2_with fail
      go_ret
      exact ⟨retInt (by rw [he.out, Pu.endTo_end (by omega)]), rfl⟩
set_option maxRecDepth 100000 in
set_option maxHeartbeats 800000 in
theorem endName_any (s : ByteArray) (i : Nat) (w : World) (hs : s.size ≤ 1000) (hi : i ≤ s.size) :
    Calls Tryz.prog 119 #[.string s, .int .i64 (i : Int), .func (.func 125) #[] #[]] w fun e w' => e = .returned (.int .i64 (Pu.endTo s Pu.nameB i)) ∧ w' = w := by
  go_enter Tryz.func119, Tryz.ntmps119
  go_wp2_with fail
  go_loop [7] (fun v => ∃ j : Nat, j ≤ s.size ∧ v = .int .i64 (j : Int) ∧ Hid (Pu.endTo s Pu.nameB i = Pu.endTo s Pu.nameB j)) (fun v => s.size - (intOf v).toNat)
  case atStart => exact ⟨i, hi, rfl, rfl⟩
  case round =>
    obtain ⟨j, hj, rfl, he⟩ := hrel
    by_cases hlt : j < s.size
    · have hn : Pu.at_ s j = s[j].toNat := Pu.at_lt hlt
      cases hp : Pu.nameB (Pu.at_ s j) with
      | true =>
        have hm := step_end hlt he hp
        rw [hn] at hp
        clear he hn
        go_wp2_with (go_at_call 125; refine (pName_any _ _).mono ?_; rintro e w' ⟨rfl, rfl⟩)
        go_round
        case rel => exact ⟨j + 1, by omega, by go_num, by simpa using hm⟩
        case measure => simp [intOf]; omega
      | false =>
        have hm := step_end hlt he hp
        rw [hn] at hp
        clear he hn
        go_wp2_with (go_at_call 125; refine (pName_any _ _).mono ?_; rintro e w' ⟨rfl, rfl⟩)
        go_ret
        exact ⟨retInt (congrArg Nat.cast (hm.out.symm)), rfl⟩
    · go_wp2_with fail
      go_ret
      exact ⟨retInt (by rw [he.out, Pu.endTo_end (by omega)]), rfl⟩
set_option maxRecDepth 100000 in
set_option maxHeartbeats 800000 in
theorem endDig_any (s : ByteArray) (i : Nat) (w : World) (hs : s.size ≤ 1000) (hi : i ≤ s.size) :
    Calls Tryz.prog 119 #[.string s, .int .i64 (i : Int), .func (.func 126) #[] #[]] w fun e w' => e = .returned (.int .i64 (Pu.endTo s Pu.digB i)) ∧ w' = w := by
  go_enter Tryz.func119, Tryz.ntmps119
  go_wp2_with fail
  go_loop [7] (fun v => ∃ j : Nat, j ≤ s.size ∧ v = .int .i64 (j : Int) ∧ Hid (Pu.endTo s Pu.digB i = Pu.endTo s Pu.digB j)) (fun v => s.size - (intOf v).toNat)
  case atStart => exact ⟨i, hi, rfl, rfl⟩
  case round =>
    obtain ⟨j, hj, rfl, he⟩ := hrel
    by_cases hlt : j < s.size
    · have hn : Pu.at_ s j = s[j].toNat := Pu.at_lt hlt
      cases hp : Pu.digB (Pu.at_ s j) with
      | true =>
        have hm := step_end hlt he hp
        rw [hn] at hp
        clear he hn
        go_wp2_with (go_at_call 126; refine (pDig_any _ _).mono ?_; rintro e w' ⟨rfl, rfl⟩)
        go_round
        case rel => exact ⟨j + 1, by omega, by go_num, by simpa using hm⟩
        case measure => simp [intOf]; omega
      | false =>
        have hm := step_end hlt he hp
        rw [hn] at hp
        clear he hn
        go_wp2_with (go_at_call 126; refine (pDig_any _ _).mono ?_; rintro e w' ⟨rfl, rfl⟩)
        go_ret
        exact ⟨retInt (congrArg Nat.cast (hm.out.symm)), rfl⟩
    · go_wp2_with fail
      go_ret
      exact ⟨retInt (by rw [he.out, Pu.endTo_end (by omega)]), rfl⟩
end Go.Proofs.YteneoapickhpdaaGreatDoor
