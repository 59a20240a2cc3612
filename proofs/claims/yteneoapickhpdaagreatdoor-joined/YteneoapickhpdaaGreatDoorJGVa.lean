import Derived.Test.YteneoapickhpdaaGreatDoorJGTo
import Derived.Test.YteneoapickhpdaaGreatDoorJGQe
set_option linter.unusedSimpArgs false
set_option linter.unusedVariables false
set_option linter.unusedSectionVars false
namespace Go.Proofs.YteneoapickhpdaaGreatDoor
open Go Go.RowKit Go.ChangeMaps Un
def SmallP (n : Nat) : Prop := ∀ w : World, Calls Tryz.prog 160 #[.int .i64 (n : Int)] w fun e w' => e = .returned (.string (bs (dec n))) ∧ w' = w
theorem dec_0 : dec 0 = [48] := by
  unfold dec
  rw [if_pos (by decide)]; rfl
set_option maxRecDepth 100000 in
set_option maxHeartbeats 1000000 in
theorem small_0 : SmallP 0 := by
  intro w
  rw [dec_0]
  go_enter Tryz.func160, Tryz.ntmps160
  go_wp2_with fail
  go_ret
  exact ⟨by kernel_rfl, rfl⟩
theorem dec_1 : dec 1 = [49] := by
  unfold dec
  rw [if_pos (by decide)]; rfl
set_option maxRecDepth 100000 in
set_option maxHeartbeats 1000000 in
theorem small_1 : SmallP 1 := by
  intro w
  rw [dec_1]
  go_enter Tryz.func160, Tryz.ntmps160
  go_wp2_with fail
  go_ret
  exact ⟨by kernel_rfl, rfl⟩
theorem dec_2 : dec 2 = [50] := by
  unfold dec
  rw [if_pos (by decide)]; rfl
set_option maxRecDepth 100000 in
set_option maxHeartbeats 1000000 in
theorem small_2 : SmallP 2 := by
  intro w
  rw [dec_2]
  go_enter Tryz.func160, Tryz.ntmps160
  go_wp2_with fail
  go_ret
  exact ⟨by kernel_rfl, rfl⟩
theorem dec_3 : dec 3 = [51] := by
  unfold dec
  rw [if_pos (by decide)]; rfl
set_option maxRecDepth 100000 in
set_option maxHeartbeats 1000000 in
theorem small_3 : SmallP 3 := by
  intro w
  rw [dec_3]
  go_enter Tryz.func160, Tryz.ntmps160
  go_wp2_with fail
  go_ret
  exact ⟨by kernel_rfl, rfl⟩
theorem dec_4 : dec 4 = [52] := by
  unfold dec
  rw [if_pos (by decide)]; rfl
set_option maxRecDepth 100000 in
set_option maxHeartbeats 1000000 in
theorem small_4 : SmallP 4 := by
  intro w
  rw [dec_4]
  go_enter Tryz.func160, Tryz.ntmps160
  go_wp2_with fail
  go_ret
  exact ⟨by kernel_rfl, rfl⟩
theorem dec_5 : dec 5 = [53] := by
  unfold dec
  rw [if_pos (by decide)]; rfl
set_option maxRecDepth 100000 in
set_option maxHeartbeats 1000000 in
theorem small_5 : SmallP 5 := by
  intro w
  rw [dec_5]
  go_enter Tryz.func160, Tryz.ntmps160
  go_wp2_with fail
  go_ret
  exact ⟨by kernel_rfl, rfl⟩
theorem dec_6 : dec 6 = [54] := by
  unfold dec
  rw [if_pos (by decide)]; rfl
set_option maxRecDepth 100000 in
set_option maxHeartbeats 1000000 in
theorem small_6 : SmallP 6 := by
  intro w
  rw [dec_6]
  go_enter Tryz.func160, Tryz.ntmps160
  go_wp2_with fail
  go_ret
  exact ⟨by kernel_rfl, rfl⟩
theorem dec_7 : dec 7 = [55] := by
  unfold dec
  rw [if_pos (by decide)]; rfl
set_option maxRecDepth 100000 in
set_option maxHeartbeats 1000000 in
theorem small_7 : SmallP 7 := by
  intro w
  rw [dec_7]
  go_enter Tryz.func160, Tryz.ntmps160
  go_wp2_with fail
  go_ret
  exact ⟨by kernel_rfl, rfl⟩
theorem dec_8 : dec 8 = [56] := by
  unfold dec
  rw [if_pos (by decide)]; rfl
set_option maxRecDepth 100000 in
set_option maxHeartbeats 1000000 in
theorem small_8 : SmallP 8 := by
  intro w
  rw [dec_8]
  go_enter Tryz.func160, Tryz.ntmps160
  go_wp2_with fail
  go_ret
  exact ⟨by kernel_rfl, rfl⟩
theorem dec_9 : dec 9 = [57] := by
  unfold dec
  rw [if_pos (by decide)]; rfl
set_option maxRecDepth 100000 in
set_option maxHeartbeats 1000000 in
theorem small_9 : SmallP 9 := by
  intro w
  rw [dec_9]
  go_enter Tryz.func160, Tryz.ntmps160
  go_wp2_with fail
  go_ret
  exact ⟨by kernel_rfl, rfl⟩
theorem dec_10 : dec 10 = [49, 48] := by
  unfold dec
  rw [if_neg (by decide)]; unfold dec; rw [if_pos (by decide)]; rfl
set_option maxRecDepth 100000 in
set_option maxHeartbeats 1000000 in
theorem small_10 : SmallP 10 := by
  intro w
  rw [dec_10]
  go_enter Tryz.func160, Tryz.ntmps160
  go_wp2_with fail
  go_ret
  exact ⟨by kernel_rfl, rfl⟩
theorem dec_11 : dec 11 = [49, 49] := by
  unfold dec
  rw [if_neg (by decide)]; unfold dec; rw [if_pos (by decide)]; rfl
set_option maxRecDepth 100000 in
set_option maxHeartbeats 1000000 in
theorem small_11 : SmallP 11 := by
  intro w
  rw [dec_11]
  go_enter Tryz.func160, Tryz.ntmps160
  go_wp2_with fail
  go_ret
  exact ⟨by kernel_rfl, rfl⟩
theorem dec_12 : dec 12 = [49, 50] := by
  unfold dec
  rw [if_neg (by decide)]; unfold dec; rw [if_pos (by decide)]; rfl
set_option maxRecDepth 100000 in
set_option maxHeartbeats 1000000 in
theorem small_12 : SmallP 12 := by
  intro w
  rw [dec_12]
  go_enter Tryz.func160, Tryz.ntmps160
  go_wp2_with fail
  go_ret
  exact ⟨by kernel_rfl, rfl⟩
theorem dec_13 : dec 13 = [49, 51] := by
  unfold dec
  rw [if_neg (by decide)]; unfold dec; rw [if_pos (by decide)]; rfl
set_option maxRecDepth 100000 in
set_option maxHeartbeats 1000000 in
theorem small_13 : SmallP 13 := by
  intro w
  rw [dec_13]
  go_enter Tryz.func160, Tryz.ntmps160
  go_wp2_with fail
  go_ret
  exact ⟨by kernel_rfl, rfl⟩
theorem dec_14 : dec 14 = [49, 52] := by
  unfold dec
  rw [if_neg (by decide)]; unfold dec; rw [if_pos (by decide)]; rfl
set_option maxRecDepth 100000 in
set_option maxHeartbeats 1000000 in
theorem small_14 : SmallP 14 := by
  intro w
  rw [dec_14]
  go_enter Tryz.func160, Tryz.ntmps160
  go_wp2_with fail
  go_ret
  exact ⟨by kernel_rfl, rfl⟩
theorem dec_15 : dec 15 = [49, 53] := by
  unfold dec
  rw [if_neg (by decide)]; unfold dec; rw [if_pos (by decide)]; rfl
set_option maxRecDepth 100000 in
set_option maxHeartbeats 1000000 in
theorem small_15 : SmallP 15 := by
  intro w
  rw [dec_15]
  go_enter Tryz.func160, Tryz.ntmps160
  go_wp2_with fail
  go_ret
  exact ⟨by kernel_rfl, rfl⟩
theorem dec_16 : dec 16 = [49, 54] := by
  unfold dec
  rw [if_neg (by decide)]; unfold dec; rw [if_pos (by decide)]; rfl
set_option maxRecDepth 100000 in
set_option maxHeartbeats 1000000 in
theorem small_16 : SmallP 16 := by
  intro w
  rw [dec_16]
  go_enter Tryz.func160, Tryz.ntmps160
  go_wp2_with fail
  go_ret
  exact ⟨by kernel_rfl, rfl⟩
theorem dec_17 : dec 17 = [49, 55] := by
  unfold dec
  rw [if_neg (by decide)]; unfold dec; rw [if_pos (by decide)]; rfl
set_option maxRecDepth 100000 in
set_option maxHeartbeats 1000000 in
theorem small_17 : SmallP 17 := by
  intro w
  rw [dec_17]
  go_enter Tryz.func160, Tryz.ntmps160
  go_wp2_with fail
  go_ret
  exact ⟨by kernel_rfl, rfl⟩
theorem dec_18 : dec 18 = [49, 56] := by
  unfold dec
  rw [if_neg (by decide)]; unfold dec; rw [if_pos (by decide)]; rfl
set_option maxRecDepth 100000 in
set_option maxHeartbeats 1000000 in
theorem small_18 : SmallP 18 := by
  intro w
  rw [dec_18]
  go_enter Tryz.func160, Tryz.ntmps160
  go_wp2_with fail
  go_ret
  exact ⟨by kernel_rfl, rfl⟩
theorem dec_19 : dec 19 = [49, 57] := by
  unfold dec
  rw [if_neg (by decide)]; unfold dec; rw [if_pos (by decide)]; rfl
set_option maxRecDepth 100000 in
set_option maxHeartbeats 1000000 in
theorem small_19 : SmallP 19 := by
  intro w
  rw [dec_19]
  go_enter Tryz.func160, Tryz.ntmps160
  go_wp2_with fail
  go_ret
  exact ⟨by kernel_rfl, rfl⟩
theorem dec_20 : dec 20 = [50, 48] := by
  unfold dec
  rw [if_neg (by decide)]; unfold dec; rw [if_pos (by decide)]; rfl
set_option maxRecDepth 100000 in
set_option maxHeartbeats 1000000 in
theorem small_20 : SmallP 20 := by
  intro w
  rw [dec_20]
  go_enter Tryz.func160, Tryz.ntmps160
  go_wp2_with fail
  go_ret
  exact ⟨by kernel_rfl, rfl⟩
theorem dec_21 : dec 21 = [50, 49] := by
  unfold dec
  rw [if_neg (by decide)]; unfold dec; rw [if_pos (by decide)]; rfl
set_option maxRecDepth 100000 in
set_option maxHeartbeats 1000000 in
theorem small_21 : SmallP 21 := by
  intro w
  rw [dec_21]
  go_enter Tryz.func160, Tryz.ntmps160
  go_wp2_with fail
  go_ret
  exact ⟨by kernel_rfl, rfl⟩
theorem dec_22 : dec 22 = [50, 50] := by
  unfold dec
  rw [if_neg (by decide)]; unfold dec; rw [if_pos (by decide)]; rfl
set_option maxRecDepth 100000 in
set_option maxHeartbeats 1000000 in
theorem small_22 : SmallP 22 := by
  intro w
  rw [dec_22]
  go_enter Tryz.func160, Tryz.ntmps160
  go_wp2_with fail
  go_ret
  exact ⟨by kernel_rfl, rfl⟩
theorem dec_23 : dec 23 = [50, 51] := by
  unfold dec
  rw [if_neg (by decide)]; unfold dec; rw [if_pos (by decide)]; rfl
set_option maxRecDepth 100000 in
set_option maxHeartbeats 1000000 in
theorem small_23 : SmallP 23 := by
  intro w
  rw [dec_23]
  go_enter Tryz.func160, Tryz.ntmps160
  go_wp2_with fail
  go_ret
  exact ⟨by kernel_rfl, rfl⟩
theorem dec_24 : dec 24 = [50, 52] := by
  unfold dec
  rw [if_neg (by decide)]; unfold dec; rw [if_pos (by decide)]; rfl
set_option maxRecDepth 100000 in
set_option maxHeartbeats 1000000 in
theorem small_24 : SmallP 24 := by
  intro w
  rw [dec_24]
  go_enter Tryz.func160, Tryz.ntmps160
  go_wp2_with fail
  go_ret
  exact ⟨by kernel_rfl, rfl⟩
theorem dec_25 : dec 25 = [50, 53] := by
  unfold dec
  rw [if_neg (by decide)]; unfold dec; rw [if_pos (by decide)]; rfl
set_option maxRecDepth 100000 in
set_option maxHeartbeats 1000000 in
theorem small_25 : SmallP 25 := by
  intro w
  rw [dec_25]
  go_enter Tryz.func160, Tryz.ntmps160
  go_wp2_with fail
  go_ret
  exact ⟨by kernel_rfl, rfl⟩
theorem dec_26 : dec 26 = [50, 54] := by
  unfold dec
  rw [if_neg (by decide)]; unfold dec; rw [if_pos (by decide)]; rfl
set_option maxRecDepth 100000 in
set_option maxHeartbeats 1000000 in
theorem small_26 : SmallP 26 := by
  intro w
  rw [dec_26]
  go_enter Tryz.func160, Tryz.ntmps160
  go_wp2_with fail
  go_ret
  exact ⟨by kernel_rfl, rfl⟩
theorem dec_27 : dec 27 = [50, 55] := by
  unfold dec
  rw [if_neg (by decide)]; unfold dec; rw [if_pos (by decide)]; rfl
set_option maxRecDepth 100000 in
set_option maxHeartbeats 1000000 in
theorem small_27 : SmallP 27 := by
  intro w
  rw [dec_27]
  go_enter Tryz.func160, Tryz.ntmps160
  go_wp2_with fail
  go_ret
  exact ⟨by kernel_rfl, rfl⟩
theorem dec_28 : dec 28 = [50, 56] := by
  unfold dec
  rw [if_neg (by decide)]; unfold dec; rw [if_pos (by decide)]; rfl
set_option maxRecDepth 100000 in
set_option maxHeartbeats 1000000 in
theorem small_28 : SmallP 28 := by
  intro w
  rw [dec_28]
  go_enter Tryz.func160, Tryz.ntmps160
  go_wp2_with fail
  go_ret
  exact ⟨by kernel_rfl, rfl⟩
theorem dec_29 : dec 29 = [50, 57] := by
  unfold dec
  rw [if_neg (by decide)]; unfold dec; rw [if_pos (by decide)]; rfl
set_option maxRecDepth 100000 in
set_option maxHeartbeats 1000000 in
theorem small_29 : SmallP 29 := by
  intro w
  rw [dec_29]
  go_enter Tryz.func160, Tryz.ntmps160
  go_wp2_with fail
  go_ret
  exact ⟨by kernel_rfl, rfl⟩
theorem dec_30 : dec 30 = [51, 48] := by
  unfold dec
  rw [if_neg (by decide)]; unfold dec; rw [if_pos (by decide)]; rfl
set_option maxRecDepth 100000 in
set_option maxHeartbeats 1000000 in
theorem small_30 : SmallP 30 := by
  intro w
  rw [dec_30]
  go_enter Tryz.func160, Tryz.ntmps160
  go_wp2_with fail
  go_ret
  exact ⟨by kernel_rfl, rfl⟩
theorem dec_31 : dec 31 = [51, 49] := by
  unfold dec
  rw [if_neg (by decide)]; unfold dec; rw [if_pos (by decide)]; rfl
set_option maxRecDepth 100000 in
set_option maxHeartbeats 1000000 in
theorem small_31 : SmallP 31 := by
  intro w
  rw [dec_31]
  go_enter Tryz.func160, Tryz.ntmps160
  go_wp2_with fail
  go_ret
  exact ⟨by kernel_rfl, rfl⟩
theorem dec_32 : dec 32 = [51, 50] := by
  unfold dec
  rw [if_neg (by decide)]; unfold dec; rw [if_pos (by decide)]; rfl
set_option maxRecDepth 100000 in
set_option maxHeartbeats 1000000 in
theorem small_32 : SmallP 32 := by
  intro w
  rw [dec_32]
  go_enter Tryz.func160, Tryz.ntmps160
  go_wp2_with fail
  go_ret
  exact ⟨by kernel_rfl, rfl⟩
theorem dec_33 : dec 33 = [51, 51] := by
  unfold dec
  rw [if_neg (by decide)]; unfold dec; rw [if_pos (by decide)]; rfl
set_option maxRecDepth 100000 in
set_option maxHeartbeats 1000000 in
theorem small_33 : SmallP 33 := by
  intro w
  rw [dec_33]
  go_enter Tryz.func160, Tryz.ntmps160
  go_wp2_with fail
  go_ret
  exact ⟨by kernel_rfl, rfl⟩
theorem dec_34 : dec 34 = [51, 52] := by
  unfold dec
  rw [if_neg (by decide)]; unfold dec; rw [if_pos (by decide)]; rfl
set_option maxRecDepth 100000 in
set_option maxHeartbeats 1000000 in
theorem small_34 : SmallP 34 := by
  intro w
  rw [dec_34]
  go_enter Tryz.func160, Tryz.ntmps160
  go_wp2_with fail
  go_ret
  exact ⟨by kernel_rfl, rfl⟩
theorem dec_35 : dec 35 = [51, 53] := by
  unfold dec
  rw [if_neg (by decide)]; unfold dec; rw [if_pos (by decide)]; rfl
set_option maxRecDepth 100000 in
set_option maxHeartbeats 1000000 in
theorem small_35 : SmallP 35 := by
  intro w
  rw [dec_35]
  go_enter Tryz.func160, Tryz.ntmps160
  go_wp2_with fail
  go_ret
  exact ⟨by kernel_rfl, rfl⟩
theorem dec_36 : dec 36 = [51, 54] := by
  unfold dec
  rw [if_neg (by decide)]; unfold dec; rw [if_pos (by decide)]; rfl
set_option maxRecDepth 100000 in
set_option maxHeartbeats 1000000 in
theorem small_36 : SmallP 36 := by
  intro w
  rw [dec_36]
  go_enter Tryz.func160, Tryz.ntmps160
  go_wp2_with fail
  go_ret
  exact ⟨by kernel_rfl, rfl⟩
theorem dec_37 : dec 37 = [51, 55] := by
  unfold dec
  rw [if_neg (by decide)]; unfold dec; rw [if_pos (by decide)]; rfl
set_option maxRecDepth 100000 in
set_option maxHeartbeats 1000000 in
theorem small_37 : SmallP 37 := by
  intro w
  rw [dec_37]
  go_enter Tryz.func160, Tryz.ntmps160
  go_wp2_with fail
  go_ret
  exact ⟨by kernel_rfl, rfl⟩
theorem dec_38 : dec 38 = [51, 56] := by
  unfold dec
  rw [if_neg (by decide)]; unfold dec; rw [if_pos (by decide)]; rfl
set_option maxRecDepth 100000 in
set_option maxHeartbeats 1000000 in
theorem small_38 : SmallP 38 := by
  intro w
  rw [dec_38]
  go_enter Tryz.func160, Tryz.ntmps160
  go_wp2_with fail
  go_ret
  exact ⟨by kernel_rfl, rfl⟩
theorem dec_39 : dec 39 = [51, 57] := by
  unfold dec
  rw [if_neg (by decide)]; unfold dec; rw [if_pos (by decide)]; rfl
set_option maxRecDepth 100000 in
set_option maxHeartbeats 1000000 in
theorem small_39 : SmallP 39 := by
  intro w
  rw [dec_39]
  go_enter Tryz.func160, Tryz.ntmps160
  go_wp2_with fail
  go_ret
  exact ⟨by kernel_rfl, rfl⟩
theorem dec_40 : dec 40 = [52, 48] := by
  unfold dec
  rw [if_neg (by decide)]; unfold dec; rw [if_pos (by decide)]; rfl
set_option maxRecDepth 100000 in
set_option maxHeartbeats 1000000 in
theorem small_40 : SmallP 40 := by
  intro w
  rw [dec_40]
  go_enter Tryz.func160, Tryz.ntmps160
  go_wp2_with fail
  go_ret
  exact ⟨by kernel_rfl, rfl⟩
theorem dec_41 : dec 41 = [52, 49] := by
  unfold dec
  rw [if_neg (by decide)]; unfold dec; rw [if_pos (by decide)]; rfl
set_option maxRecDepth 100000 in
set_option maxHeartbeats 1000000 in
theorem small_41 : SmallP 41 := by
  intro w
  rw [dec_41]
  go_enter Tryz.func160, Tryz.ntmps160
  go_wp2_with fail
  go_ret
  exact ⟨by kernel_rfl, rfl⟩
theorem dec_42 : dec 42 = [52, 50] := by
  unfold dec
  rw [if_neg (by decide)]; unfold dec; rw [if_pos (by decide)]; rfl
set_option maxRecDepth 100000 in
set_option maxHeartbeats 1000000 in
theorem small_42 : SmallP 42 := by
  intro w
  rw [dec_42]
  go_enter Tryz.func160, Tryz.ntmps160
  go_wp2_with fail
  go_ret
  exact ⟨by kernel_rfl, rfl⟩
theorem dec_43 : dec 43 = [52, 51] := by
  unfold dec
  rw [if_neg (by decide)]; unfold dec; rw [if_pos (by decide)]; rfl
set_option maxRecDepth 100000 in
set_option maxHeartbeats 1000000 in
theorem small_43 : SmallP 43 := by
  intro w
  rw [dec_43]
  go_enter Tryz.func160, Tryz.ntmps160
  go_wp2_with fail
  go_ret
  exact ⟨by kernel_rfl, rfl⟩
theorem dec_44 : dec 44 = [52, 52] := by
  unfold dec
  rw [if_neg (by decide)]; unfold dec; rw [if_pos (by decide)]; rfl
set_option maxRecDepth 100000 in
set_option maxHeartbeats 1000000 in
theorem small_44 : SmallP 44 := by
  intro w
  rw [dec_44]
  go_enter Tryz.func160, Tryz.ntmps160
  go_wp2_with fail
  go_ret
  exact ⟨by kernel_rfl, rfl⟩
theorem dec_45 : dec 45 = [52, 53] := by
  unfold dec
  rw [if_neg (by decide)]; unfold dec; rw [if_pos (by decide)]; rfl
set_option maxRecDepth 100000 in
set_option maxHeartbeats 1000000 in
theorem small_45 : SmallP 45 := by
  intro w
  rw [dec_45]
  go_enter Tryz.func160, Tryz.ntmps160
  go_wp2_with fail
  go_ret
  exact ⟨by kernel_rfl, rfl⟩
theorem dec_46 : dec 46 = [52, 54] := by
  unfold dec
  rw [if_neg (by decide)]; unfold dec; rw [if_pos (by decide)]; rfl
set_option maxRecDepth 100000 in
set_option maxHeartbeats 1000000 in
theorem small_46 : SmallP 46 := by
  intro w
  rw [dec_46]
  go_enter Tryz.func160, Tryz.ntmps160
  go_wp2_with fail
  go_ret
  exact ⟨by kernel_rfl, rfl⟩
theorem dec_47 : dec 47 = [52, 55] := by
  unfold dec
  rw [if_neg (by decide)]; unfold dec; rw [if_pos (by decide)]; rfl
set_option maxRecDepth 100000 in
set_option maxHeartbeats 1000000 in
theorem small_47 : SmallP 47 := by
  intro w
  rw [dec_47]
  go_enter Tryz.func160, Tryz.ntmps160
  go_wp2_with fail
  go_ret
  exact ⟨by kernel_rfl, rfl⟩
theorem small_any (n : Nat) (h : n < 48) : SmallP n := by
  have : n = 0 ∨ n = 1 ∨ n = 2 ∨ n = 3 ∨ n = 4 ∨ n = 5 ∨ n = 6 ∨ n = 7 ∨ n = 8 ∨ n = 9 ∨ n = 10 ∨ n = 11 ∨ n = 12 ∨ n = 13 ∨ n = 14 ∨ n = 15 ∨ n = 16 ∨ n = 17 ∨ n = 18 ∨ n = 19 ∨ n = 20 ∨ n = 21 ∨ n = 22 ∨ n = 23 ∨ n = 24 ∨ n = 25 ∨ n = 26 ∨ n = 27 ∨ n = 28 ∨ n = 29 ∨ n = 30 ∨ n = 31 ∨ n = 32 ∨ n = 33 ∨ n = 34 ∨ n = 35 ∨ n = 36 ∨ n = 37 ∨ n = 38 ∨ n = 39 ∨ n = 40 ∨ n = 41 ∨ n = 42 ∨ n = 43 ∨ n = 44 ∨ n = 45 ∨ n = 46 ∨ n = 47 := by omega
  rcases this with rfl | rfl | rfl | rfl | rfl | rfl | rfl | rfl | rfl | rfl | rfl | rfl | rfl | rfl | rfl | rfl | rfl | rfl | rfl | rfl | rfl | rfl | rfl | rfl | rfl | rfl | rfl | rfl | rfl | rfl | rfl | rfl | rfl | rfl | rfl | rfl | rfl | rfl | rfl | rfl | rfl | rfl | rfl | rfl | rfl | rfl | rfl | rfl
  · exact small_0
  · exact small_1
  · exact small_2
  · exact small_3
  · exact small_4
  · exact small_5
  · exact small_6
  · exact small_7
  · exact small_8
  · exact small_9
  · exact small_10
  · exact small_11
  · exact small_12
  · exact small_13
  · exact small_14
  · exact small_15
  · exact small_16
  · exact small_17
  · exact small_18
  · exact small_19
  · exact small_20
  · exact small_21
  · exact small_22
  · exact small_23
  · exact small_24
  · exact small_25
  · exact small_26
  · exact small_27
  · exact small_28
  · exact small_29
  · exact small_30
  · exact small_31
  · exact small_32
  · exact small_33
  · exact small_34
  · exact small_35
  · exact small_36
  · exact small_37
  · exact small_38
  · exact small_39
  · exact small_40
  · exact small_41
  · exact small_42
  · exact small_43
  · exact small_44
  · exact small_45
  · exact small_46
  · exact small_47
section
variable {w : World}
set_option maxRecDepth 100000 in
set_option maxHeartbeats 1000000 in
theorem Itoa_C (n : Nat) (h : n < 48) : Calls Tryz.prog 62 #[.int .i64 (n : Int)] w fun e w' => e = .returned (.string (bs (dec n))) ∧ w' = w := by
  have HC := small_any n h w
  have h0 : (0 : Int) ≤ (n : Int) := by omega
  have h1 : (n : Int) < 100 := by omega
  go_enter Tryz.func62, Tryz.ntmps62
  go_wp2_with (first | (go_at_call 160; refine HC.mono ?_; rintro e w' ⟨rfl, rfl⟩) | (go_at_call 89; go_in) | (go_at_call 141; go_in))
  go_ret
  exact ⟨rfl, rfl⟩
end
end Go.Proofs.YteneoapickhpdaaGreatDoor
