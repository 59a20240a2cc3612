import Derived.Test.YtfflpeklkfjdnaaGreatDoorKRa
set_option linter.unusedSimpArgs false
set_option linter.unusedVariables false
set_option linter.unusedSectionVars false
namespace Go.Proofs.YtfflpeklkfjdnaaGreatDoor
open Go Go.RowKit
def preB (s p : ByteArray) : Bool := decide (p.size ≤ s.size) && ((s.extract 0 p.size).toList == p.toList)
/-- Whether the k-th sign begins at i. -/
def hit (s : ByteArray) (i k : Nat) : Bool :=
  if k = 0 then (Pu.at_ s i == 45 && Pu.at_ s (i + 1) == 62) else Pu.at_ s i == ((signAt k)[0]!).toNat
def sgnTok (s : ByteArray) (i : Nat) : Pu.Tok :=
  if Pu.at_ s i = 45 ∧ Pu.at_ s (i + 1) = 62 then Pu.mkT s i 5 (i + 2)
  else if Pu.signB (Pu.at_ s i) = true then Pu.mkT s i 5 (i + 1) else Pu.mkT s i 6 (i + 1)
theorem toList_injP {a b : ByteArray} (h : (a.toList == b.toList) = true) : a = b := by
  rw [beq_iff_eq, ByteArray.toList_eq, ByteArray.toList_eq] at h
  exact ByteArray.ext (Array.toList_inj.1 h)
theorem ext1 {s : ByteArray} {i : Nat} (h : i < s.size) : s.extract i (i + 1) = ⟨#[s[i]]⟩ := by
  apply ByteArray.ext
  apply Array.ext
  · simp; omega
  · intro j h1 h2
    have : j = 0 := by simp at h2; omega
    subst this
    simp [ByteArray.data_extract]; rfl
theorem ext2 {s : ByteArray} {i : Nat} (h : i + 1 < s.size) : s.extract i (i + 2) = ⟨#[s[i], s[i + 1]]⟩ := by
  apply ByteArray.ext
  apply Array.ext
  · simp; omega
  · intro j h1 h2
    have : j = 0 ∨ j = 1 := by simp at h2; omega
    rcases this with rfl | rfl
    · simp [ByteArray.data_extract]; rfl
    · simp [ByteArray.data_extract]; rfl
theorem pre1 {s : ByteArray} {i : Nat} (hi : i < s.size) (c : UInt8) : preB (s.extract i s.size) ⟨#[c]⟩ = (Pu.at_ s i == c.toNat) := by
  have hz : (⟨#[c]⟩ : ByteArray).size = 1 := rfl
  unfold preB
  rw [hz, ByteArray.extract_extract, show min (i + 1) s.size = i + 1 by omega, Nat.add_zero, ext1 hi, Pu.at_lt hi, ByteArray.size_extract]
  rw [decide_eq_true (by omega), Bool.true_and, Bool.eq_iff_iff]
  constructor
  · intro h
    have := congrArg (fun b : ByteArray => b.data) (toList_injP h)
    simp at this
    simp [this]
  · intro h
    rw [beq_iff_eq] at h
    rw [UInt8.toNat_inj.1 h]
    simp
theorem pre2 {s : ByteArray} {i : Nat} (hi : i < s.size) (c d : UInt8) : preB (s.extract i s.size) ⟨#[c, d]⟩ = (Pu.at_ s i == c.toNat && Pu.at_ s (i + 1) == d.toNat) := by
  have hz : (⟨#[c, d]⟩ : ByteArray).size = 2 := rfl
  unfold preB
  rw [hz]
  by_cases hn : i + 1 < s.size
  · rw [ByteArray.extract_extract, show min (i + 2) s.size = i + 2 by omega, Nat.add_zero, ext2 hn, Pu.at_lt hi, Pu.at_lt hn, ByteArray.size_extract]
    rw [decide_eq_true (by omega), Bool.true_and, Bool.eq_iff_iff]
    constructor
    · intro h
      have := congrArg (fun b : ByteArray => b.data) (toList_injP h)
      simp at this
      simp [this]
    · intro h
      rw [Bool.and_eq_true, beq_iff_eq, beq_iff_eq] at h
      rw [UInt8.toNat_inj.1 h.1, UInt8.toNat_inj.1 h.2]
      simp
  · rw [ByteArray.size_extract, decide_eq_false (by omega), Pu.at_ge (s := s) (i := i + 1) (by omega)]
    have : (256 == d.toNat) = false := by have := UInt8.toNat_lt d; simp; omega
    rw [this]; simp
theorem pre_hit {s : ByteArray} {i : Nat} (hi : i < s.size) : ∀ k, k < 13 → preB (s.extract i s.size) (signAt k) = hit s i k
  | 0, _ => pre2 hi 45 62
  | 1, _ => pre1 hi _
  | 2, _ => pre1 hi _
  | 3, _ => pre1 hi _
  | 4, _ => pre1 hi _
  | 5, _ => pre1 hi _
  | 6, _ => pre1 hi _
  | 7, _ => pre1 hi _
  | 8, _ => pre1 hi _
  | 9, _ => pre1 hi _
  | 10, _ => pre1 hi _
  | 11, _ => pre1 hi _
  | 12, _ => pre1 hi _
  | k + 13, h => absurd h (by omega)
theorem sgn_at {s : ByteArray} {i : Nat} : ∀ k, 0 < k → k < 13 → (∀ j, j < k → hit s i j = false) → hit s i k = true → sgnTok s i = Pu.mkT s i 5 (i + 1) := by
  intro k h0 hk hno hh
  unfold sgnTok
  have n0 := hno 0 h0
  rw [if_neg (by intro q; simp [hit, q.1, q.2] at n0)]
  have : Pu.signB (Pu.at_ s i) = true := by
    have hc : k = 1 ∨ k = 2 ∨ k = 3 ∨ k = 4 ∨ k = 5 ∨ k = 6 ∨ k = 7 ∨ k = 8 ∨ k = 9 ∨ k = 10 ∨ k = 11 ∨ k = 12 := by omega
    unfold hit at hh
    rw [if_neg (by omega), beq_iff_eq] at hh
    rw [hh]
    rcases hc with rfl | rfl | rfl | rfl | rfl | rfl | rfl | rfl | rfl | rfl | rfl | rfl <;> decide
  rw [if_pos this]
theorem sgn_0 {s : ByteArray} {i : Nat} (h : hit s i 0 = true) : sgnTok s i = Pu.mkT s i 5 (i + 2) := by
  unfold sgnTok
  rw [if_pos (by simpa [hit] using h)]
theorem sgn_no {s : ByteArray} {i : Nat} (h : ∀ j, j < 13 → hit s i j = false) : sgnTok s i = Pu.mkT s i 6 (i + 1) := by
  unfold sgnTok
  have n0 := h 0 (by omega)
  rw [if_neg (by intro q; simp [hit, q.1, q.2] at n0)]
  have : Pu.signB (Pu.at_ s i) = false := by
    unfold Pu.signB
    rw [List.any_eq_false]
    intro x hx
    simp only [List.mem_cons, List.not_mem_nil, or_false] at hx
    intro q
    rw [beq_iff_eq] at q
    have H : ∀ k, 0 < k → k < 13 → ((signAt k)[0]!).toNat = x → False := fun k h0 hk e => by
      have := h k hk
      unfold hit at this
      rw [if_neg (by omega), e, q] at this
      simp at this
    rcases hx with rfl | rfl | rfl | rfl | rfl | rfl | rfl | rfl | rfl | rfl | rfl | rfl
    · exact H 1 (by omega) (by omega) rfl
    · exact H 2 (by omega) (by omega) rfl
    · exact H 3 (by omega) (by omega) rfl
    · exact H 4 (by omega) (by omega) rfl
    · exact H 5 (by omega) (by omega) rfl
    · exact H 6 (by omega) (by omega) rfl
    · exact H 7 (by omega) (by omega) rfl
    · exact H 8 (by omega) (by omega) rfl
    · exact H 9 (by omega) (by omega) rfl
    · exact H 10 (by omega) (by omega) rfl
    · exact H 11 (by omega) (by omega) rfl
    · exact H 12 (by omega) (by omega) rfl
  rw [this]
  rfl
/-- Where a sign begins, its text is the source's. -/
theorem hit_text {s : ByteArray} {i k : Nat} (hi : i < s.size) (hk : k < 13) (h : hit s i k = true) : i + (signAt k).size ≤ s.size ∧ s.extract i (i + (signAt k).size) = signAt k := by
  rw [← pre_hit hi k hk] at h
  unfold preB at h
  rw [Bool.and_eq_true, decide_eq_true_iff, ByteArray.size_extract] at h
  have hz : i + (signAt k).size ≤ s.size := by omega
  refine ⟨hz, ?_⟩
  have := toList_injP h.2
  rwa [ByteArray.extract_extract, Nat.add_zero, Nat.min_eq_left hz] at this
section
variable {w : World}
set_option maxRecDepth 100000 in
set_option maxHeartbeats 400000 in
theorem lite_C (s p : ByteArray) (hs : s.size ≤ 1000) (hp : p.size ≤ 2) : Calls Tryz.prog 370 #[.string s, .string p] w fun e w' => e = .returned (.bool (preB s p)) ∧ w' = w := by
  by_cases h : p.size ≤ s.size
  · have h1 : (p.size : Int) ≤ (s.size : Int) := by omega
    have hz : decide (p.size ≤ s.size) = true := by simp [h]
    go_enter Tryz.func370, Tryz.ntmps370
    go_wp2_with fail
    go_ret
    exact ⟨retBool (by simp [preB, hz]), rfl⟩
  · have h1 : ¬ (p.size : Int) ≤ (s.size : Int) := by omega
    have hz : decide (p.size ≤ s.size) = false := by simp; omega
    go_enter Tryz.func370, Tryz.ntmps370
    go_wp2_with fail
    go_ret
    exact ⟨retBool (by simp [preB, hz]), rfl⟩
set_option maxRecDepth 100000 in
set_option maxHeartbeats 400000 in
theorem prefix_C (s p : ByteArray) (hs : s.size ≤ 1000) (hp : p.size ≤ 2) : Calls Tryz.prog 346 #[.string s, .string p] w fun e w' => e = .returned (.bool (preB s p)) ∧ w' = w := by
  go_enter Tryz.func346, Tryz.ntmps346
  go_wp2_with (go_at_call 370; refine (lite_C s p hs hp).mono ?_; rintro e w' ⟨rfl, rfl⟩)
  go_ret
  exact ⟨retBool rfl, rfl⟩
theorem hasSign_C (s : ByteArray) (i k : Nat) (hi : i < s.size) (hs : s.size ≤ 1000) (hk : k < 13) (hz : (signAt k).size ≤ 2) : Calls Tryz.prog 346 #[.string (s.extract i s.size), .string (signAt k)] w fun e w' => e = .returned (.bool (hit s i k)) ∧ w' = w := by
  rw [← pre_hit hi k hk]
  exact prefix_C _ _ (by rw [ByteArray.size_extract]; omega) hz
set_option maxRecDepth 100000 in
set_option maxHeartbeats 2000000 in
theorem sign_C (h : Laid w) (s : ByteArray) (i : Nat) (hi : i < s.size) (hs : s.size ≤ 1000) :
    Calls Tryz.prog 291 #[.string s, .int .i64 (i : Int)] w (TokPost (sgnTok s i) w) := by
  have B0 := hide (Bx.new w zPt 236)
  have HB := hide ((Below.refl w.heap.size w).alloc (Nat.le_refl _) (.cells zPt 236))
  have H := h.bel (unhide HB)
  have hi1 : (i : Int) ≤ (s.size : Int) := by omega
  have g0 := H.signs 0 (by omega)
  have g1 := H.signs 1 (by omega)
  have g2 := H.signs 2 (by omega)
  have g3 := H.signs 3 (by omega)
  have g4 := H.signs 4 (by omega)
  have g5 := H.signs 5 (by omega)
  have g6 := H.signs 6 (by omega)
  have g7 := H.signs 7 (by omega)
  have g8 := H.signs 8 (by omega)
  have g9 := H.signs 9 (by omega)
  have g10 := H.signs 10 (by omega)
  have g11 := H.signs 11 (by omega)
  have g12 := H.signs 12 (by omega)
  clear h H
  go_enter Tryz.func291, Tryz.ntmps291
  go_wp2_with fail
  go_loop [8] (fun v => ∃ j : Nat, j ≤ 13 ∧ v = .int .i64 (j : Int) ∧ Hid (∀ m, m < j → hit s i m = false)) (fun v => 13 - (intOf v).toNat)
  case atStart => exact ⟨0, by omega, rfl, fun i h => by omega⟩
  case round =>
    obtain ⟨j, hj, rfl, hno⟩ := hrel
    by_cases hlt : j < 13
    · have hcase : j = 0 ∨ j = 1 ∨ j = 2 ∨ j = 3 ∨ j = 4 ∨ j = 5 ∨ j = 6 ∨ j = 7 ∨ j = 8 ∨ j = 9 ∨ j = 10 ∨ j = 11 ∨ j = 12 := by omega
      rcases hcase with rfl | rfl | rfl | rfl | rfl | rfl | rfl | rfl | rfl | rfl | rfl | rfl | rfl
      · have hix := idx13_0 (signAt 0) (signAt 1) (signAt 2) (signAt 3) (signAt 4) (signAt 5) (signAt 6) (signAt 7) (signAt 8) (signAt 9) (signAt 10) (signAt 11) (signAt 12)
        have hz : (signAt 0).size = 2 := rfl
        cases he : hit s i 0 with
        | true =>
          have ht := hide (sgn_0 he)
          have hx := hit_text hi (by omega) he
          rw [hz] at hx
          have hle := hx.1
          have hxe := hide hx.2
          clear hx
          go_wp2_with (first | (go_at_call 346; refine (hasSign_C s i 0 hi hs (by omega) (by omega)).mono ?_; rintro e w' ⟨rfl, rfl⟩) | (go_at_call 286; refine (cut_C s i (i + 2) _ (by omega) hle hs).mono ?_; rintro e w1 ⟨rfl, hb⟩; have B1 := hide ((unhide B0).below hb); have HB1 := hide ((unhide HB).trans (hb.mono (by simp))); obtain ⟨c1, f1, y1⟩ := unhide B1; clear hb))
          have BF := hide ((unhide B1).set4 rfl (.int .i64 (i : Int)) (.int .i64 ((i : Int) + 2)) (.string (signAt 0)) (.string (s.extract i (i + 2))))
          obtain ⟨cF, fF, zF⟩ := unhide BF
          rw [unhide ht]
          refine bodyPost_ret (v := ptokV (Pu.mkT s i 5 (i + 2))) ?_ rfl ⟨(unhide HB1).set4 (Nat.le_refl _) _ _ _ _, Or.inl ⟨by simp [Pu.mkT], rfl⟩⟩
          have hk : kindB (Pu.mkT s i 5 (i + 2)) = signAt 0 := unhide hxe
          simp only [ptokV, hk]
          simp [results, Tryz.results291, go_sem, cF, Pu.mkT]
        | false =>
          have hn2 : Hid (∀ m, m < 1 → hit s i m = false) := fun m hm => by
            by_cases e : m = 0
            · subst e; exact he
            · exact unhide hno m (by omega)
          go_wp2_with (go_at_call 346; refine (hasSign_C s i 0 hi hs (by omega) (by omega)).mono ?_; rintro e w' ⟨rfl, rfl⟩)
          go_round
          case rel => exact ⟨1, by omega, by go_num, hn2⟩
          case measure => simp [intOf]
      · have hix := idx13_1 (signAt 0) (signAt 1) (signAt 2) (signAt 3) (signAt 4) (signAt 5) (signAt 6) (signAt 7) (signAt 8) (signAt 9) (signAt 10) (signAt 11) (signAt 12)
        have hz : (signAt 1).size = 1 := rfl
        cases he : hit s i 1 with
        | true =>
          have ht := hide (sgn_at 1 (by omega) (by omega) (unhide hno) he)
          have hx := hit_text hi (by omega) he
          rw [hz] at hx
          have hle := hx.1
          have hxe := hide hx.2
          clear hx
          go_wp2_with (first | (go_at_call 346; refine (hasSign_C s i 1 hi hs (by omega) (by omega)).mono ?_; rintro e w' ⟨rfl, rfl⟩) | (go_at_call 286; refine (cut_C s i (i + 1) _ (by omega) hle hs).mono ?_; rintro e w1 ⟨rfl, hb⟩; have B1 := hide ((unhide B0).below hb); have HB1 := hide ((unhide HB).trans (hb.mono (by simp))); obtain ⟨c1, f1, y1⟩ := unhide B1; clear hb))
          have BF := hide ((unhide B1).set4 rfl (.int .i64 (i : Int)) (.int .i64 ((i : Int) + 1)) (.string (signAt 1)) (.string (s.extract i (i + 1))))
          obtain ⟨cF, fF, zF⟩ := unhide BF
          rw [unhide ht]
          refine bodyPost_ret (v := ptokV (Pu.mkT s i 5 (i + 1))) ?_ rfl ⟨(unhide HB1).set4 (Nat.le_refl _) _ _ _ _, Or.inl ⟨by simp [Pu.mkT], rfl⟩⟩
          have hk : kindB (Pu.mkT s i 5 (i + 1)) = signAt 1 := unhide hxe
          simp only [ptokV, hk]
          simp [results, Tryz.results291, go_sem, cF, Pu.mkT]
        | false =>
          have hn2 : Hid (∀ m, m < 2 → hit s i m = false) := fun m hm => by
            by_cases e : m = 1
            · subst e; exact he
            · exact unhide hno m (by omega)
          go_wp2_with (go_at_call 346; refine (hasSign_C s i 1 hi hs (by omega) (by omega)).mono ?_; rintro e w' ⟨rfl, rfl⟩)
          go_round
          case rel => exact ⟨2, by omega, by go_num, hn2⟩
          case measure => simp [intOf]
      · have hix := idx13_2 (signAt 0) (signAt 1) (signAt 2) (signAt 3) (signAt 4) (signAt 5) (signAt 6) (signAt 7) (signAt 8) (signAt 9) (signAt 10) (signAt 11) (signAt 12)
        have hz : (signAt 2).size = 1 := rfl
        cases he : hit s i 2 with
        | true =>
          have ht := hide (sgn_at 2 (by omega) (by omega) (unhide hno) he)
          have hx := hit_text hi (by omega) he
          rw [hz] at hx
          have hle := hx.1
          have hxe := hide hx.2
          clear hx
          go_wp2_with (first | (go_at_call 346; refine (hasSign_C s i 2 hi hs (by omega) (by omega)).mono ?_; rintro e w' ⟨rfl, rfl⟩) | (go_at_call 286; refine (cut_C s i (i + 1) _ (by omega) hle hs).mono ?_; rintro e w1 ⟨rfl, hb⟩; have B1 := hide ((unhide B0).below hb); have HB1 := hide ((unhide HB).trans (hb.mono (by simp))); obtain ⟨c1, f1, y1⟩ := unhide B1; clear hb))
          have BF := hide ((unhide B1).set4 rfl (.int .i64 (i : Int)) (.int .i64 ((i : Int) + 1)) (.string (signAt 2)) (.string (s.extract i (i + 1))))
          obtain ⟨cF, fF, zF⟩ := unhide BF
          rw [unhide ht]
          refine bodyPost_ret (v := ptokV (Pu.mkT s i 5 (i + 1))) ?_ rfl ⟨(unhide HB1).set4 (Nat.le_refl _) _ _ _ _, Or.inl ⟨by simp [Pu.mkT], rfl⟩⟩
          have hk : kindB (Pu.mkT s i 5 (i + 1)) = signAt 2 := unhide hxe
          simp only [ptokV, hk]
          simp [results, Tryz.results291, go_sem, cF, Pu.mkT]
        | false =>
          have hn2 : Hid (∀ m, m < 3 → hit s i m = false) := fun m hm => by
            by_cases e : m = 2
            · subst e; exact he
            · exact unhide hno m (by omega)
          go_wp2_with (go_at_call 346; refine (hasSign_C s i 2 hi hs (by omega) (by omega)).mono ?_; rintro e w' ⟨rfl, rfl⟩)
          go_round
          case rel => exact ⟨3, by omega, by go_num, hn2⟩
          case measure => simp [intOf]
      · have hix := idx13_3 (signAt 0) (signAt 1) (signAt 2) (signAt 3) (signAt 4) (signAt 5) (signAt 6) (signAt 7) (signAt 8) (signAt 9) (signAt 10) (signAt 11) (signAt 12)
        have hz : (signAt 3).size = 1 := rfl
        cases he : hit s i 3 with
        | true =>
          have ht := hide (sgn_at 3 (by omega) (by omega) (unhide hno) he)
          have hx := hit_text hi (by omega) he
          rw [hz] at hx
          have hle := hx.1
          have hxe := hide hx.2
          clear hx
          go_wp2_with (first | (go_at_call 346; refine (hasSign_C s i 3 hi hs (by omega) (by omega)).mono ?_; rintro e w' ⟨rfl, rfl⟩) | (go_at_call 286; refine (cut_C s i (i + 1) _ (by omega) hle hs).mono ?_; rintro e w1 ⟨rfl, hb⟩; have B1 := hide ((unhide B0).below hb); have HB1 := hide ((unhide HB).trans (hb.mono (by simp))); obtain ⟨c1, f1, y1⟩ := unhide B1; clear hb))
          have BF := hide ((unhide B1).set4 rfl (.int .i64 (i : Int)) (.int .i64 ((i : Int) + 1)) (.string (signAt 3)) (.string (s.extract i (i + 1))))
          obtain ⟨cF, fF, zF⟩ := unhide BF
          rw [unhide ht]
          refine bodyPost_ret (v := ptokV (Pu.mkT s i 5 (i + 1))) ?_ rfl ⟨(unhide HB1).set4 (Nat.le_refl _) _ _ _ _, Or.inl ⟨by simp [Pu.mkT], rfl⟩⟩
          have hk : kindB (Pu.mkT s i 5 (i + 1)) = signAt 3 := unhide hxe
          simp only [ptokV, hk]
          simp [results, Tryz.results291, go_sem, cF, Pu.mkT]
        | false =>
          have hn2 : Hid (∀ m, m < 4 → hit s i m = false) := fun m hm => by
            by_cases e : m = 3
            · subst e; exact he
            · exact unhide hno m (by omega)
          go_wp2_with (go_at_call 346; refine (hasSign_C s i 3 hi hs (by omega) (by omega)).mono ?_; rintro e w' ⟨rfl, rfl⟩)
          go_round
          case rel => exact ⟨4, by omega, by go_num, hn2⟩
          case measure => simp [intOf]
      · have hix := idx13_4 (signAt 0) (signAt 1) (signAt 2) (signAt 3) (signAt 4) (signAt 5) (signAt 6) (signAt 7) (signAt 8) (signAt 9) (signAt 10) (signAt 11) (signAt 12)
        have hz : (signAt 4).size = 1 := rfl
        cases he : hit s i 4 with
        | true =>
          have ht := hide (sgn_at 4 (by omega) (by omega) (unhide hno) he)
          have hx := hit_text hi (by omega) he
          rw [hz] at hx
          have hle := hx.1
          have hxe := hide hx.2
          clear hx
          go_wp2_with (first | (go_at_call 346; refine (hasSign_C s i 4 hi hs (by omega) (by omega)).mono ?_; rintro e w' ⟨rfl, rfl⟩) | (go_at_call 286; refine (cut_C s i (i + 1) _ (by omega) hle hs).mono ?_; rintro e w1 ⟨rfl, hb⟩; have B1 := hide ((unhide B0).below hb); have HB1 := hide ((unhide HB).trans (hb.mono (by simp))); obtain ⟨c1, f1, y1⟩ := unhide B1; clear hb))
          have BF := hide ((unhide B1).set4 rfl (.int .i64 (i : Int)) (.int .i64 ((i : Int) + 1)) (.string (signAt 4)) (.string (s.extract i (i + 1))))
          obtain ⟨cF, fF, zF⟩ := unhide BF
          rw [unhide ht]
          refine bodyPost_ret (v := ptokV (Pu.mkT s i 5 (i + 1))) ?_ rfl ⟨(unhide HB1).set4 (Nat.le_refl _) _ _ _ _, Or.inl ⟨by simp [Pu.mkT], rfl⟩⟩
          have hk : kindB (Pu.mkT s i 5 (i + 1)) = signAt 4 := unhide hxe
          simp only [ptokV, hk]
          simp [results, Tryz.results291, go_sem, cF, Pu.mkT]
        | false =>
          have hn2 : Hid (∀ m, m < 5 → hit s i m = false) := fun m hm => by
            by_cases e : m = 4
            · subst e; exact he
            · exact unhide hno m (by omega)
          go_wp2_with (go_at_call 346; refine (hasSign_C s i 4 hi hs (by omega) (by omega)).mono ?_; rintro e w' ⟨rfl, rfl⟩)
          go_round
          case rel => exact ⟨5, by omega, by go_num, hn2⟩
          case measure => simp [intOf]
      · have hix := idx13_5 (signAt 0) (signAt 1) (signAt 2) (signAt 3) (signAt 4) (signAt 5) (signAt 6) (signAt 7) (signAt 8) (signAt 9) (signAt 10) (signAt 11) (signAt 12)
        have hz : (signAt 5).size = 1 := rfl
        cases he : hit s i 5 with
        | true =>
          have ht := hide (sgn_at 5 (by omega) (by omega) (unhide hno) he)
          have hx := hit_text hi (by omega) he
          rw [hz] at hx
          have hle := hx.1
          have hxe := hide hx.2
          clear hx
          go_wp2_with (first | (go_at_call 346; refine (hasSign_C s i 5 hi hs (by omega) (by omega)).mono ?_; rintro e w' ⟨rfl, rfl⟩) | (go_at_call 286; refine (cut_C s i (i + 1) _ (by omega) hle hs).mono ?_; rintro e w1 ⟨rfl, hb⟩; have B1 := hide ((unhide B0).below hb); have HB1 := hide ((unhide HB).trans (hb.mono (by simp))); obtain ⟨c1, f1, y1⟩ := unhide B1; clear hb))
          have BF := hide ((unhide B1).set4 rfl (.int .i64 (i : Int)) (.int .i64 ((i : Int) + 1)) (.string (signAt 5)) (.string (s.extract i (i + 1))))
          obtain ⟨cF, fF, zF⟩ := unhide BF
          rw [unhide ht]
          refine bodyPost_ret (v := ptokV (Pu.mkT s i 5 (i + 1))) ?_ rfl ⟨(unhide HB1).set4 (Nat.le_refl _) _ _ _ _, Or.inl ⟨by simp [Pu.mkT], rfl⟩⟩
          have hk : kindB (Pu.mkT s i 5 (i + 1)) = signAt 5 := unhide hxe
          simp only [ptokV, hk]
          simp [results, Tryz.results291, go_sem, cF, Pu.mkT]
        | false =>
          have hn2 : Hid (∀ m, m < 6 → hit s i m = false) := fun m hm => by
            by_cases e : m = 5
            · subst e; exact he
            · exact unhide hno m (by omega)
          go_wp2_with (go_at_call 346; refine (hasSign_C s i 5 hi hs (by omega) (by omega)).mono ?_; rintro e w' ⟨rfl, rfl⟩)
          go_round
          case rel => exact ⟨6, by omega, by go_num, hn2⟩
          case measure => simp [intOf]
      · have hix := idx13_6 (signAt 0) (signAt 1) (signAt 2) (signAt 3) (signAt 4) (signAt 5) (signAt 6) (signAt 7) (signAt 8) (signAt 9) (signAt 10) (signAt 11) (signAt 12)
        have hz : (signAt 6).size = 1 := rfl
        cases he : hit s i 6 with
        | true =>
          have ht := hide (sgn_at 6 (by omega) (by omega) (unhide hno) he)
          have hx := hit_text hi (by omega) he
          rw [hz] at hx
          have hle := hx.1
          have hxe := hide hx.2
          clear hx
          go_wp2_with (first | (go_at_call 346; refine (hasSign_C s i 6 hi hs (by omega) (by omega)).mono ?_; rintro e w' ⟨rfl, rfl⟩) | (go_at_call 286; refine (cut_C s i (i + 1) _ (by omega) hle hs).mono ?_; rintro e w1 ⟨rfl, hb⟩; have B1 := hide ((unhide B0).below hb); have HB1 := hide ((unhide HB).trans (hb.mono (by simp))); obtain ⟨c1, f1, y1⟩ := unhide B1; clear hb))
          have BF := hide ((unhide B1).set4 rfl (.int .i64 (i : Int)) (.int .i64 ((i : Int) + 1)) (.string (signAt 6)) (.string (s.extract i (i + 1))))
          obtain ⟨cF, fF, zF⟩ := unhide BF
          rw [unhide ht]
          refine bodyPost_ret (v := ptokV (Pu.mkT s i 5 (i + 1))) ?_ rfl ⟨(unhide HB1).set4 (Nat.le_refl _) _ _ _ _, Or.inl ⟨by simp [Pu.mkT], rfl⟩⟩
          have hk : kindB (Pu.mkT s i 5 (i + 1)) = signAt 6 := unhide hxe
          simp only [ptokV, hk]
          simp [results, Tryz.results291, go_sem, cF, Pu.mkT]
        | false =>
          have hn2 : Hid (∀ m, m < 7 → hit s i m = false) := fun m hm => by
            by_cases e : m = 6
            · subst e; exact he
            · exact unhide hno m (by omega)
          go_wp2_with (go_at_call 346; refine (hasSign_C s i 6 hi hs (by omega) (by omega)).mono ?_; rintro e w' ⟨rfl, rfl⟩)
          go_round
          case rel => exact ⟨7, by omega, by go_num, hn2⟩
          case measure => simp [intOf]
      · have hix := idx13_7 (signAt 0) (signAt 1) (signAt 2) (signAt 3) (signAt 4) (signAt 5) (signAt 6) (signAt 7) (signAt 8) (signAt 9) (signAt 10) (signAt 11) (signAt 12)
        have hz : (signAt 7).size = 1 := rfl
        cases he : hit s i 7 with
        | true =>
          have ht := hide (sgn_at 7 (by omega) (by omega) (unhide hno) he)
          have hx := hit_text hi (by omega) he
          rw [hz] at hx
          have hle := hx.1
          have hxe := hide hx.2
          clear hx
          go_wp2_with (first | (go_at_call 346; refine (hasSign_C s i 7 hi hs (by omega) (by omega)).mono ?_; rintro e w' ⟨rfl, rfl⟩) | (go_at_call 286; refine (cut_C s i (i + 1) _ (by omega) hle hs).mono ?_; rintro e w1 ⟨rfl, hb⟩; have B1 := hide ((unhide B0).below hb); have HB1 := hide ((unhide HB).trans (hb.mono (by simp))); obtain ⟨c1, f1, y1⟩ := unhide B1; clear hb))
          have BF := hide ((unhide B1).set4 rfl (.int .i64 (i : Int)) (.int .i64 ((i : Int) + 1)) (.string (signAt 7)) (.string (s.extract i (i + 1))))
          obtain ⟨cF, fF, zF⟩ := unhide BF
          rw [unhide ht]
          refine bodyPost_ret (v := ptokV (Pu.mkT s i 5 (i + 1))) ?_ rfl ⟨(unhide HB1).set4 (Nat.le_refl _) _ _ _ _, Or.inl ⟨by simp [Pu.mkT], rfl⟩⟩
          have hk : kindB (Pu.mkT s i 5 (i + 1)) = signAt 7 := unhide hxe
          simp only [ptokV, hk]
          simp [results, Tryz.results291, go_sem, cF, Pu.mkT]
        | false =>
          have hn2 : Hid (∀ m, m < 8 → hit s i m = false) := fun m hm => by
            by_cases e : m = 7
            · subst e; exact he
            · exact unhide hno m (by omega)
          go_wp2_with (go_at_call 346; refine (hasSign_C s i 7 hi hs (by omega) (by omega)).mono ?_; rintro e w' ⟨rfl, rfl⟩)
          go_round
          case rel => exact ⟨8, by omega, by go_num, hn2⟩
          case measure => simp [intOf]
      · have hix := idx13_8 (signAt 0) (signAt 1) (signAt 2) (signAt 3) (signAt 4) (signAt 5) (signAt 6) (signAt 7) (signAt 8) (signAt 9) (signAt 10) (signAt 11) (signAt 12)
        have hz : (signAt 8).size = 1 := rfl
        cases he : hit s i 8 with
        | true =>
          have ht := hide (sgn_at 8 (by omega) (by omega) (unhide hno) he)
          have hx := hit_text hi (by omega) he
          rw [hz] at hx
          have hle := hx.1
          have hxe := hide hx.2
          clear hx
          go_wp2_with (first | (go_at_call 346; refine (hasSign_C s i 8 hi hs (by omega) (by omega)).mono ?_; rintro e w' ⟨rfl, rfl⟩) | (go_at_call 286; refine (cut_C s i (i + 1) _ (by omega) hle hs).mono ?_; rintro e w1 ⟨rfl, hb⟩; have B1 := hide ((unhide B0).below hb); have HB1 := hide ((unhide HB).trans (hb.mono (by simp))); obtain ⟨c1, f1, y1⟩ := unhide B1; clear hb))
          have BF := hide ((unhide B1).set4 rfl (.int .i64 (i : Int)) (.int .i64 ((i : Int) + 1)) (.string (signAt 8)) (.string (s.extract i (i + 1))))
          obtain ⟨cF, fF, zF⟩ := unhide BF
          rw [unhide ht]
          refine bodyPost_ret (v := ptokV (Pu.mkT s i 5 (i + 1))) ?_ rfl ⟨(unhide HB1).set4 (Nat.le_refl _) _ _ _ _, Or.inl ⟨by simp [Pu.mkT], rfl⟩⟩
          have hk : kindB (Pu.mkT s i 5 (i + 1)) = signAt 8 := unhide hxe
          simp only [ptokV, hk]
          simp [results, Tryz.results291, go_sem, cF, Pu.mkT]
        | false =>
          have hn2 : Hid (∀ m, m < 9 → hit s i m = false) := fun m hm => by
            by_cases e : m = 8
            · subst e; exact he
            · exact unhide hno m (by omega)
          go_wp2_with (go_at_call 346; refine (hasSign_C s i 8 hi hs (by omega) (by omega)).mono ?_; rintro e w' ⟨rfl, rfl⟩)
          go_round
          case rel => exact ⟨9, by omega, by go_num, hn2⟩
          case measure => simp [intOf]
      · have hix := idx13_9 (signAt 0) (signAt 1) (signAt 2) (signAt 3) (signAt 4) (signAt 5) (signAt 6) (signAt 7) (signAt 8) (signAt 9) (signAt 10) (signAt 11) (signAt 12)
        have hz : (signAt 9).size = 1 := rfl
        cases he : hit s i 9 with
        | true =>
          have ht := hide (sgn_at 9 (by omega) (by omega) (unhide hno) he)
          have hx := hit_text hi (by omega) he
          rw [hz] at hx
          have hle := hx.1
          have hxe := hide hx.2
          clear hx
          go_wp2_with (first | (go_at_call 346; refine (hasSign_C s i 9 hi hs (by omega) (by omega)).mono ?_; rintro e w' ⟨rfl, rfl⟩) | (go_at_call 286; refine (cut_C s i (i + 1) _ (by omega) hle hs).mono ?_; rintro e w1 ⟨rfl, hb⟩; have B1 := hide ((unhide B0).below hb); have HB1 := hide ((unhide HB).trans (hb.mono (by simp))); obtain ⟨c1, f1, y1⟩ := unhide B1; clear hb))
          have BF := hide ((unhide B1).set4 rfl (.int .i64 (i : Int)) (.int .i64 ((i : Int) + 1)) (.string (signAt 9)) (.string (s.extract i (i + 1))))
          obtain ⟨cF, fF, zF⟩ := unhide BF
          rw [unhide ht]
          refine bodyPost_ret (v := ptokV (Pu.mkT s i 5 (i + 1))) ?_ rfl ⟨(unhide HB1).set4 (Nat.le_refl _) _ _ _ _, Or.inl ⟨by simp [Pu.mkT], rfl⟩⟩
          have hk : kindB (Pu.mkT s i 5 (i + 1)) = signAt 9 := unhide hxe
          simp only [ptokV, hk]
          simp [results, Tryz.results291, go_sem, cF, Pu.mkT]
        | false =>
          have hn2 : Hid (∀ m, m < 10 → hit s i m = false) := fun m hm => by
            by_cases e : m = 9
            · subst e; exact he
            · exact unhide hno m (by omega)
          go_wp2_with (go_at_call 346; refine (hasSign_C s i 9 hi hs (by omega) (by omega)).mono ?_; rintro e w' ⟨rfl, rfl⟩)
          go_round
          case rel => exact ⟨10, by omega, by go_num, hn2⟩
          case measure => simp [intOf]
      · have hix := idx13_10 (signAt 0) (signAt 1) (signAt 2) (signAt 3) (signAt 4) (signAt 5) (signAt 6) (signAt 7) (signAt 8) (signAt 9) (signAt 10) (signAt 11) (signAt 12)
        have hz : (signAt 10).size = 1 := rfl
        cases he : hit s i 10 with
        | true =>
          have ht := hide (sgn_at 10 (by omega) (by omega) (unhide hno) he)
          have hx := hit_text hi (by omega) he
          rw [hz] at hx
          have hle := hx.1
          have hxe := hide hx.2
          clear hx
          go_wp2_with (first | (go_at_call 346; refine (hasSign_C s i 10 hi hs (by omega) (by omega)).mono ?_; rintro e w' ⟨rfl, rfl⟩) | (go_at_call 286; refine (cut_C s i (i + 1) _ (by omega) hle hs).mono ?_; rintro e w1 ⟨rfl, hb⟩; have B1 := hide ((unhide B0).below hb); have HB1 := hide ((unhide HB).trans (hb.mono (by simp))); obtain ⟨c1, f1, y1⟩ := unhide B1; clear hb))
          have BF := hide ((unhide B1).set4 rfl (.int .i64 (i : Int)) (.int .i64 ((i : Int) + 1)) (.string (signAt 10)) (.string (s.extract i (i + 1))))
          obtain ⟨cF, fF, zF⟩ := unhide BF
          rw [unhide ht]
          refine bodyPost_ret (v := ptokV (Pu.mkT s i 5 (i + 1))) ?_ rfl ⟨(unhide HB1).set4 (Nat.le_refl _) _ _ _ _, Or.inl ⟨by simp [Pu.mkT], rfl⟩⟩
          have hk : kindB (Pu.mkT s i 5 (i + 1)) = signAt 10 := unhide hxe
          simp only [ptokV, hk]
          simp [results, Tryz.results291, go_sem, cF, Pu.mkT]
        | false =>
          have hn2 : Hid (∀ m, m < 11 → hit s i m = false) := fun m hm => by
            by_cases e : m = 10
            · subst e; exact he
            · exact unhide hno m (by omega)
          go_wp2_with (go_at_call 346; refine (hasSign_C s i 10 hi hs (by omega) (by omega)).mono ?_; rintro e w' ⟨rfl, rfl⟩)
          go_round
          case rel => exact ⟨11, by omega, by go_num, hn2⟩
          case measure => simp [intOf]
      · have hix := idx13_11 (signAt 0) (signAt 1) (signAt 2) (signAt 3) (signAt 4) (signAt 5) (signAt 6) (signAt 7) (signAt 8) (signAt 9) (signAt 10) (signAt 11) (signAt 12)
        have hz : (signAt 11).size = 1 := rfl
        cases he : hit s i 11 with
        | true =>
          have ht := hide (sgn_at 11 (by omega) (by omega) (unhide hno) he)
          have hx := hit_text hi (by omega) he
          rw [hz] at hx
          have hle := hx.1
          have hxe := hide hx.2
          clear hx
          go_wp2_with (first | (go_at_call 346; refine (hasSign_C s i 11 hi hs (by omega) (by omega)).mono ?_; rintro e w' ⟨rfl, rfl⟩) | (go_at_call 286; refine (cut_C s i (i + 1) _ (by omega) hle hs).mono ?_; rintro e w1 ⟨rfl, hb⟩; have B1 := hide ((unhide B0).below hb); have HB1 := hide ((unhide HB).trans (hb.mono (by simp))); obtain ⟨c1, f1, y1⟩ := unhide B1; clear hb))
          have BF := hide ((unhide B1).set4 rfl (.int .i64 (i : Int)) (.int .i64 ((i : Int) + 1)) (.string (signAt 11)) (.string (s.extract i (i + 1))))
          obtain ⟨cF, fF, zF⟩ := unhide BF
          rw [unhide ht]
          refine bodyPost_ret (v := ptokV (Pu.mkT s i 5 (i + 1))) ?_ rfl ⟨(unhide HB1).set4 (Nat.le_refl _) _ _ _ _, Or.inl ⟨by simp [Pu.mkT], rfl⟩⟩
          have hk : kindB (Pu.mkT s i 5 (i + 1)) = signAt 11 := unhide hxe
          simp only [ptokV, hk]
          simp [results, Tryz.results291, go_sem, cF, Pu.mkT]
        | false =>
          have hn2 : Hid (∀ m, m < 12 → hit s i m = false) := fun m hm => by
            by_cases e : m = 11
            · subst e; exact he
            · exact unhide hno m (by omega)
          go_wp2_with (go_at_call 346; refine (hasSign_C s i 11 hi hs (by omega) (by omega)).mono ?_; rintro e w' ⟨rfl, rfl⟩)
          go_round
          case rel => exact ⟨12, by omega, by go_num, hn2⟩
          case measure => simp [intOf]
      · have hix := idx13_12 (signAt 0) (signAt 1) (signAt 2) (signAt 3) (signAt 4) (signAt 5) (signAt 6) (signAt 7) (signAt 8) (signAt 9) (signAt 10) (signAt 11) (signAt 12)
        have hz : (signAt 12).size = 1 := rfl
        cases he : hit s i 12 with
        | true =>
          have ht := hide (sgn_at 12 (by omega) (by omega) (unhide hno) he)
          have hx := hit_text hi (by omega) he
          rw [hz] at hx
          have hle := hx.1
          have hxe := hide hx.2
          clear hx
          go_wp2_with (first | (go_at_call 346; refine (hasSign_C s i 12 hi hs (by omega) (by omega)).mono ?_; rintro e w' ⟨rfl, rfl⟩) | (go_at_call 286; refine (cut_C s i (i + 1) _ (by omega) hle hs).mono ?_; rintro e w1 ⟨rfl, hb⟩; have B1 := hide ((unhide B0).below hb); have HB1 := hide ((unhide HB).trans (hb.mono (by simp))); obtain ⟨c1, f1, y1⟩ := unhide B1; clear hb))
          have BF := hide ((unhide B1).set4 rfl (.int .i64 (i : Int)) (.int .i64 ((i : Int) + 1)) (.string (signAt 12)) (.string (s.extract i (i + 1))))
          obtain ⟨cF, fF, zF⟩ := unhide BF
          rw [unhide ht]
          refine bodyPost_ret (v := ptokV (Pu.mkT s i 5 (i + 1))) ?_ rfl ⟨(unhide HB1).set4 (Nat.le_refl _) _ _ _ _, Or.inl ⟨by simp [Pu.mkT], rfl⟩⟩
          have hk : kindB (Pu.mkT s i 5 (i + 1)) = signAt 12 := unhide hxe
          simp only [ptokV, hk]
          simp [results, Tryz.results291, go_sem, cF, Pu.mkT]
        | false =>
          have hn2 : Hid (∀ m, m < 13 → hit s i m = false) := fun m hm => by
            by_cases e : m = 12
            · subst e; exact he
            · exact unhide hno m (by omega)
          go_wp2_with (go_at_call 346; refine (hasSign_C s i 12 hi hs (by omega) (by omega)).mono ?_; rintro e w' ⟨rfl, rfl⟩)
          go_round
          case rel => exact ⟨13, by omega, by go_num, hn2⟩
          case measure => simp [intOf]
    · have ht := hide (sgn_no (s := s) (i := i) (fun m hm => unhide hno m (by omega)))
      go_wp2_with (go_at_call 345; refine (noToken_C _ _).mono ?_; rintro e w1 ⟨rfl, hb⟩; have HB1 := hide ((unhide HB).trans (hb.mono (by simp))); clear hb)
      rw [unhide ht]
      exact ⟨rfl, unhide HB1, Or.inr ⟨rfl, rfl⟩⟩
end
end Go.Proofs.YtfflpeklkfjdnaaGreatDoor
namespace Go.Proofs.YtfflpeklkfjdnaaGreatDoor
open Go Go.RowKit
/-- The token that comes next from i on. -/
def nextTok (s : ByteArray) (i : Nat) : Pu.Tok := if Pu.endTo s blankB i < s.size then Pu.tokAt s (Pu.endTo s blankB i) else Pu.endTok s
theorem endTo_stop (s : ByteArray) (p : Nat → Bool) : ∀ n i, s.size - i = n → Pu.endTo s p i < s.size → p (Pu.at_ s (Pu.endTo s p i)) = false := by
  intro n
  induction n with
  | zero => intro i h hl; rw [Pu.endTo_end (by omega)] at hl; omega
  | succ n ih =>
    intro i h hl
    cases hp : p (Pu.at_ s i) with
    | true => rw [Pu.endTo_yes (by omega) hp] at hl ⊢; exact ih (i + 1) (by omega) hl
    | false => rw [Pu.endTo_no (by omega) hp]; exact hp
theorem toks_skip (s : ByteArray) : ∀ n i, s.size - i = n → Pu.toks s i = Pu.toks s (Pu.endTo s blankB i) := by
  intro n
  induction n with
  | zero => intro i h; rw [Pu.endTo_end (by omega)]
  | succ n ih =>
    intro i h
    cases hp : blankB (Pu.at_ s i) with
    | true => rw [Pu.endTo_yes (by omega) hp, Pu.toks_blank (by omega) hp]; exact ih (i + 1) (by omega)
    | false => rw [Pu.endTo_no (by omega) hp]
/-- The tokens, as the project reads them: one after another. -/
theorem toks_next (s : ByteArray) (i : Nat) (hi : i ≤ s.size) : Pu.toks s i = if (nextTok s i).kind = 7 then [Pu.endTok s] else nextTok s i :: Pu.toks s (nextTok s i).to := by
  rw [toks_skip s _ i rfl]
  unfold nextTok
  by_cases h : Pu.endTo s blankB i < s.size
  · rw [if_pos h, if_neg, Pu.toks_tok h (endTo_stop s blankB _ i rfl h)]
    unfold Pu.tokAt Pu.mkT
    repeat' split
    all_goals simp
  · rw [if_neg h, if_pos (show (Pu.endTok s).kind = 7 from rfl), Pu.toks_end (by omega)]
theorem TokPost.ok {t : Pu.Tok} {w w' : World} {e : Ending} (h : TokPost t w e w') (hk : t.kind ≠ 6) : e = .returned (.agg #[.int .i64 (t.frm : Int), .int .i64 (t.to : Int), .string (kindB t), .string t.text]) ∧ Below w.heap.size w w' := by
  obtain ⟨hb, ⟨_, he⟩ | ⟨hn, _⟩⟩ := h
  · exact ⟨he, hb⟩
  · exact absurd hn hk
theorem TokPost.bad {t : Pu.Tok} {w w' : World} {e : Ending} (h : TokPost t w e w') (hk : t.kind = 6) : e = .panicked [{ v := .iface 231 (.agg #[.int .i64 2, .int .i64 (t.frm : Int), .int .i64 (t.to : Int)]), recovered := false }] ∧ Below w.heap.size w w' := by
  obtain ⟨hb, ⟨hn, _⟩ | ⟨_, he⟩⟩ := h
  · exact absurd hk hn
  · exact ⟨he, hb⟩
theorem tokAt_dig {s : ByteArray} {i : Nat} (hi : i < s.size) (hd : Pu.digB (Pu.at_ s i) = true) : Pu.tokAt s i = (if Pu.endTo s Pu.digB i - i ≤ 9 then Pu.mkT s i 4 (Pu.endTo s Pu.digB i) else Pu.mkT s i 6 (Pu.endTo s Pu.digB i)) := by
  have hd' := hd
  simp [Pu.digB] at hd'
  unfold Pu.tokAt
  rw [if_neg (by simp [Pu.lowB]; omega), if_neg (by simp [Pu.upB]; omega), if_neg (by intro q; omega), if_pos hd, Pu.endTo_yes hi hd]
theorem tokAt_var {s : ByteArray} {i : Nat} (hd : Pu.at_ s i = 39) : Pu.tokAt s i = varTok s i := by
  unfold Pu.tokAt varTok
  rw [hd, if_neg (by decide), if_neg (by decide)]
  by_cases hl : Pu.lowB (Pu.at_ s (i + 1)) = true
  · rw [if_pos ⟨rfl, hl⟩, if_pos hl]
  · rw [if_neg (fun q => hl q.2), if_neg hl, if_neg (by decide), if_neg (by intro q; exact absurd q.1 (by decide)), if_neg (by decide)]
theorem tokAt_sgn {s : ByteArray} {i : Nat} (h1 : Pu.lowB (Pu.at_ s i) = false) (h2 : Pu.upB (Pu.at_ s i) = false) (h3 : Pu.digB (Pu.at_ s i) = false) (h4 : Pu.at_ s i ≠ 39) : Pu.tokAt s i = sgnTok s i := by
  unfold Pu.tokAt sgnTok
  rw [if_neg (by simp [h1]), if_neg (by simp [h2]), if_neg (fun q => h4 q.1), if_neg (by simp [h3])]
theorem tokAt_up {s : ByteArray} {i : Nat} (h1 : Pu.lowB (Pu.at_ s i) = false) (h2 : Pu.upB (Pu.at_ s i) = true) : Pu.tokAt s i = Pu.mkT s i 2 (Pu.endTo s Pu.nameB i) := by
  unfold Pu.tokAt
  rw [if_neg (by simp [h1]), if_pos h2]
theorem tokAt_low {s : ByteArray} {i : Nat} (h1 : Pu.lowB (Pu.at_ s i) = true) : Pu.tokAt s i = (if Pu.wordB (s.extract i (Pu.endTo s Pu.nameB i)) = true then Pu.mkT s i 5 (Pu.endTo s Pu.nameB i) else Pu.mkT s i 1 (Pu.endTo s Pu.nameB i)) := by
  unfold Pu.tokAt
  rw [if_pos h1]
section
variable {w : World}
set_option maxRecDepth 100000 in
set_option maxHeartbeats 2000000 in
theorem behind_C (h : Laid w) (s : ByteArray) (i : Nat) (hi : i ≤ s.size) (hs : s.size ≤ 1000) :
    Calls Tryz.prog 185 #[.string s, .int .i64 (i : Int)] w (TokPost (nextTok s i) w) := by
  have B0 := hide (Bx.new w zPt 236)
  have HB := hide ((Below.refl w.heap.size w).alloc (Nat.le_refl _) (.cells zPt 236))
  have H := hide (h.bel (unhide HB))
  clear h
  have E := fun W => endBlank_any s i W hs hi
  have hle := Pu.endTo_le (s := s) blankB hi
  have hge := Pu.endTo_ge s blankB i
  unfold nextTok
  generalize Pu.endTo s blankB i = j at E hle hge ⊢
  by_cases hj : j < s.size
  · have he : ((j : Int) == (s.size : Int)) = false := by simp; omega
    rw [if_pos hj]
    have hat : Pu.at_ s j = s[j].toNat := Pu.at_lt hj
    cases h1 : Pu.lowB s[j].toNat
    case true =>
      · have a1 : Pu.lowB (Pu.at_ s j) = true := by rw [hat]; exact h1
        obtain ⟨T, hT⟩ : ∃ T, T = Pu.tokAt s j := ⟨_, rfl⟩
        have C : ∀ W, Laid W → Calls Tryz.prog 284 #[.string s, .int .i64 (j : Int)] W (TokPost T W) := fun W hW => by rw [hT, tokAt_low a1]; exact (lowOrWord_C hW s j hj hs).mono fun e w' q => ⟨q.2, Or.inl ⟨by split <;> simp [Pu.mkT], q.1⟩⟩
        rw [← hT]
        clear hT hat
        by_cases hk : T.kind = 6
        · go_enter Tryz.func185, Tryz.ntmps185
          go_wp2_with (first | (go_at_call 281; with_reducible refine (E _).mono ?_; rintro e w' ⟨rfl, rfl⟩) | (go_at_call 283; refine (pLow_any _ _).mono ?_; rintro e w' ⟨rfl, rfl⟩) | (go_at_call 285; refine (pUp_any _ _).mono ?_; rintro e w' ⟨rfl, rfl⟩) | (go_at_call 288; refine (pDig_any _ _).mono ?_; rintro e w' ⟨rfl, rfl⟩) | (go_at_call 284; refine (C _ (unhide H)).mono ?_; intro e w1 hp; obtain ⟨rfl, hb⟩ := hp.bad hk; have HB1 := hide ((unhide HB).trans (hb.mono (by simp))); clear hb))
          exact ⟨rfl, unhide HB1, Or.inr ⟨hk, rfl⟩⟩
        · go_enter Tryz.func185, Tryz.ntmps185
          go_wp2_with (first | (go_at_call 281; with_reducible refine (E _).mono ?_; rintro e w' ⟨rfl, rfl⟩) | (go_at_call 283; refine (pLow_any _ _).mono ?_; rintro e w' ⟨rfl, rfl⟩) | (go_at_call 285; refine (pUp_any _ _).mono ?_; rintro e w' ⟨rfl, rfl⟩) | (go_at_call 288; refine (pDig_any _ _).mono ?_; rintro e w' ⟨rfl, rfl⟩) | (go_at_call 284; refine (C _ (unhide H)).mono ?_; intro e w1 hp; obtain ⟨rfl, hb⟩ := hp.ok hk; have B1 := hide ((unhide B0).below hb); have HB1 := hide ((unhide HB).trans (hb.mono (by simp))); obtain ⟨c1, f1, y1⟩ := unhide B1; clear hb))
          have BF := hide ((unhide B1).set4 rfl (.int .i64 (T.frm : Int)) (.int .i64 (T.to : Int)) (.string (kindB T)) (.string T.text))
          obtain ⟨cF, fF, zF⟩ := unhide BF
          exact bodyPost_ret (v := ptokV T) (by simp [results, Tryz.results185, go_sem, cF, ptokV]) rfl ⟨(unhide HB1).set4 (Nat.le_refl _) _ _ _ _, Or.inl ⟨hk, rfl⟩⟩
    case false =>
    have a1 : Pu.lowB (Pu.at_ s j) = false := by rw [hat]; exact h1
    cases h2 : Pu.upB s[j].toNat
    case true =>
        have hle2 := Pu.endTo_le (s := s) Pu.nameB (i := j) (by omega)
        have hge2 := Pu.endTo_ge s Pu.nameB j
        rw [tokAt_up a1 (by rw [hat]; exact h2)]
        clear hat a1
        go_enter Tryz.func185, Tryz.ntmps185
        go_wp2_with (first | (go_at_call 281; with_reducible refine (E _).mono ?_; rintro e w' ⟨rfl, rfl⟩) | (go_at_call 281; with_reducible refine (endName_any s j _ hs (by omega)).mono ?_; rintro e w' ⟨rfl, rfl⟩) | (go_at_call 281; with_reducible refine (E _).mono ?_; rintro e w' ⟨rfl, rfl⟩) | (go_at_call 283; refine (pLow_any _ _).mono ?_; rintro e w' ⟨rfl, rfl⟩) | (go_at_call 285; refine (pUp_any _ _).mono ?_; rintro e w' ⟨rfl, rfl⟩) | (go_at_call 288; refine (pDig_any _ _).mono ?_; rintro e w' ⟨rfl, rfl⟩) | (go_at_call 286; refine (cut_C s j _ _ hge2 hle2 hs).mono ?_; rintro e w1 ⟨rfl, hb⟩; have B1 := hide ((unhide B0).below hb); have HB1 := hide ((unhide HB).trans (hb.mono (by simp))); obtain ⟨c1, f1, y1⟩ := unhide B1; clear hb))
        have BF := hide ((unhide B1).set4 rfl (.int .i64 (j : Int)) (.int .i64 ((Pu.endTo s Pu.nameB j : Nat) : Int)) (.string ⟨#[117, 112, 32, 110, 97, 109, 101]⟩) (.string (s.extract j (Pu.endTo s Pu.nameB j))))
        obtain ⟨cF, fF, zF⟩ := unhide BF
        exact bodyPost_ret (v := ptokV (Pu.mkT s j 2 (Pu.endTo s Pu.nameB j))) (by simp [results, Tryz.results185, go_sem, cF, ptokV, Pu.mkT, kindB]) rfl ⟨(unhide HB1).set4 (Nat.le_refl _) _ _ _ _, Or.inl ⟨by simp [Pu.mkT], rfl⟩⟩
    case false =>
    have a2 : Pu.upB (Pu.at_ s j) = false := by rw [hat]; exact h2
    cases h3 : Pu.digB s[j].toNat
    case true =>
      · have a3 : Pu.digB (Pu.at_ s j) = true := by rw [hat]; exact h3
        obtain ⟨T, hT⟩ : ∃ T, T = Pu.tokAt s j := ⟨_, rfl⟩
        have C : ∀ W, Laid W → Calls Tryz.prog 289 #[.string s, .int .i64 (j : Int)] W (TokPost T W) := fun W hW => by rw [hT, tokAt_dig hj a3]; exact number_C s j hj hs
        rw [← hT]
        clear hT hat
        by_cases hk : T.kind = 6
        · go_enter Tryz.func185, Tryz.ntmps185
          go_wp2_with (first | (go_at_call 281; with_reducible refine (E _).mono ?_; rintro e w' ⟨rfl, rfl⟩) | (go_at_call 283; refine (pLow_any _ _).mono ?_; rintro e w' ⟨rfl, rfl⟩) | (go_at_call 285; refine (pUp_any _ _).mono ?_; rintro e w' ⟨rfl, rfl⟩) | (go_at_call 288; refine (pDig_any _ _).mono ?_; rintro e w' ⟨rfl, rfl⟩) | (go_at_call 289; refine (C _ (unhide H)).mono ?_; intro e w1 hp; obtain ⟨rfl, hb⟩ := hp.bad hk; have HB1 := hide ((unhide HB).trans (hb.mono (by simp))); clear hb))
          exact ⟨rfl, unhide HB1, Or.inr ⟨hk, rfl⟩⟩
        · go_enter Tryz.func185, Tryz.ntmps185
          go_wp2_with (first | (go_at_call 281; with_reducible refine (E _).mono ?_; rintro e w' ⟨rfl, rfl⟩) | (go_at_call 283; refine (pLow_any _ _).mono ?_; rintro e w' ⟨rfl, rfl⟩) | (go_at_call 285; refine (pUp_any _ _).mono ?_; rintro e w' ⟨rfl, rfl⟩) | (go_at_call 288; refine (pDig_any _ _).mono ?_; rintro e w' ⟨rfl, rfl⟩) | (go_at_call 289; refine (C _ (unhide H)).mono ?_; intro e w1 hp; obtain ⟨rfl, hb⟩ := hp.ok hk; have B1 := hide ((unhide B0).below hb); have HB1 := hide ((unhide HB).trans (hb.mono (by simp))); obtain ⟨c1, f1, y1⟩ := unhide B1; clear hb))
          have BF := hide ((unhide B1).set4 rfl (.int .i64 (T.frm : Int)) (.int .i64 (T.to : Int)) (.string (kindB T)) (.string T.text))
          obtain ⟨cF, fF, zF⟩ := unhide BF
          exact bodyPost_ret (v := ptokV T) (by simp [results, Tryz.results185, go_sem, cF, ptokV]) rfl ⟨(unhide HB1).set4 (Nat.le_refl _) _ _ _ _, Or.inl ⟨hk, rfl⟩⟩
    case false =>
    have a3 : Pu.digB (Pu.at_ s j) = false := by rw [hat]; exact h3
    by_cases h4 : s[j].toNat = 39
    · have a4 : Pu.at_ s j = 39 := by rw [hat]; exact h4
      have e4 : ((s[j].toNat : Int) == 39) = true := by simp; omega
      obtain ⟨T, hT⟩ : ∃ T, T = Pu.tokAt s j := ⟨_, rfl⟩
      have C : ∀ W, Laid W → Calls Tryz.prog 290 #[.string s, .int .i64 (j : Int)] W (TokPost T W) := fun W hW => by rw [hT, tokAt_var a4]; exact var_C hW s j hj hs
      rw [← hT]
      clear hT hat
      by_cases hk : T.kind = 6
      · go_enter Tryz.func185, Tryz.ntmps185
        go_wp2_with (first | (go_at_call 281; with_reducible refine (E _).mono ?_; rintro e w' ⟨rfl, rfl⟩) | (go_at_call 283; refine (pLow_any _ _).mono ?_; rintro e w' ⟨rfl, rfl⟩) | (go_at_call 285; refine (pUp_any _ _).mono ?_; rintro e w' ⟨rfl, rfl⟩) | (go_at_call 288; refine (pDig_any _ _).mono ?_; rintro e w' ⟨rfl, rfl⟩) | (go_at_call 290; refine (C _ (unhide H)).mono ?_; intro e w1 hp; obtain ⟨rfl, hb⟩ := hp.bad hk; have HB1 := hide ((unhide HB).trans (hb.mono (by simp))); clear hb))
        exact ⟨rfl, unhide HB1, Or.inr ⟨hk, rfl⟩⟩
      · go_enter Tryz.func185, Tryz.ntmps185
        go_wp2_with (first | (go_at_call 281; with_reducible refine (E _).mono ?_; rintro e w' ⟨rfl, rfl⟩) | (go_at_call 283; refine (pLow_any _ _).mono ?_; rintro e w' ⟨rfl, rfl⟩) | (go_at_call 285; refine (pUp_any _ _).mono ?_; rintro e w' ⟨rfl, rfl⟩) | (go_at_call 288; refine (pDig_any _ _).mono ?_; rintro e w' ⟨rfl, rfl⟩) | (go_at_call 290; refine (C _ (unhide H)).mono ?_; intro e w1 hp; obtain ⟨rfl, hb⟩ := hp.ok hk; have B1 := hide ((unhide B0).below hb); have HB1 := hide ((unhide HB).trans (hb.mono (by simp))); obtain ⟨c1, f1, y1⟩ := unhide B1; clear hb))
        have BF := hide ((unhide B1).set4 rfl (.int .i64 (T.frm : Int)) (.int .i64 (T.to : Int)) (.string (kindB T)) (.string T.text))
        obtain ⟨cF, fF, zF⟩ := unhide BF
        exact bodyPost_ret (v := ptokV T) (by simp [results, Tryz.results185, go_sem, cF, ptokV]) rfl ⟨(unhide HB1).set4 (Nat.le_refl _) _ _ _ _, Or.inl ⟨hk, rfl⟩⟩
    · have a4 : Pu.at_ s j ≠ 39 := by rw [hat]; exact h4
      have e4 : ((s[j].toNat : Int) == 39) = false := by simp; omega
      obtain ⟨T, hT⟩ : ∃ T, T = Pu.tokAt s j := ⟨_, rfl⟩
      have C : ∀ W, Laid W → Calls Tryz.prog 291 #[.string s, .int .i64 (j : Int)] W (TokPost T W) := fun W hW => by rw [hT, tokAt_sgn a1 a2 a3 a4]; exact sign_C hW s j hj hs
      rw [← hT]
      clear hT hat
      by_cases hk : T.kind = 6
      · go_enter Tryz.func185, Tryz.ntmps185
        go_wp2_with (first | (go_at_call 281; with_reducible refine (E _).mono ?_; rintro e w' ⟨rfl, rfl⟩) | (go_at_call 283; refine (pLow_any _ _).mono ?_; rintro e w' ⟨rfl, rfl⟩) | (go_at_call 285; refine (pUp_any _ _).mono ?_; rintro e w' ⟨rfl, rfl⟩) | (go_at_call 288; refine (pDig_any _ _).mono ?_; rintro e w' ⟨rfl, rfl⟩) | (go_at_call 291; refine (C _ (unhide H)).mono ?_; intro e w1 hp; obtain ⟨rfl, hb⟩ := hp.bad hk; have HB1 := hide ((unhide HB).trans (hb.mono (by simp))); clear hb))
        exact ⟨rfl, unhide HB1, Or.inr ⟨hk, rfl⟩⟩
      · go_enter Tryz.func185, Tryz.ntmps185
        go_wp2_with (first | (go_at_call 281; with_reducible refine (E _).mono ?_; rintro e w' ⟨rfl, rfl⟩) | (go_at_call 283; refine (pLow_any _ _).mono ?_; rintro e w' ⟨rfl, rfl⟩) | (go_at_call 285; refine (pUp_any _ _).mono ?_; rintro e w' ⟨rfl, rfl⟩) | (go_at_call 288; refine (pDig_any _ _).mono ?_; rintro e w' ⟨rfl, rfl⟩) | (go_at_call 291; refine (C _ (unhide H)).mono ?_; intro e w1 hp; obtain ⟨rfl, hb⟩ := hp.ok hk; have B1 := hide ((unhide B0).below hb); have HB1 := hide ((unhide HB).trans (hb.mono (by simp))); obtain ⟨c1, f1, y1⟩ := unhide B1; clear hb))
        have BF := hide ((unhide B1).set4 rfl (.int .i64 (T.frm : Int)) (.int .i64 (T.to : Int)) (.string (kindB T)) (.string T.text))
        obtain ⟨cF, fF, zF⟩ := unhide BF
        exact bodyPost_ret (v := ptokV T) (by simp [results, Tryz.results185, go_sem, cF, ptokV]) rfl ⟨(unhide HB1).set4 (Nat.le_refl _) _ _ _ _, Or.inl ⟨hk, rfl⟩⟩
  · have he : ((j : Int) == (s.size : Int)) = true := by simp; omega
    have hjs : j = s.size := by omega
    rw [if_neg hj]
    obtain ⟨c1, f1, y1⟩ := unhide B0
    go_enter Tryz.func185, Tryz.ntmps185
    go_wp2_with (first | (go_at_call 281; with_reducible refine (E _).mono ?_; rintro e w' ⟨rfl, rfl⟩) | (go_at_call 283; refine (pLow_any _ _).mono ?_; rintro e w' ⟨rfl, rfl⟩) | (go_at_call 285; refine (pUp_any _ _).mono ?_; rintro e w' ⟨rfl, rfl⟩) | (go_at_call 288; refine (pDig_any _ _).mono ?_; rintro e w' ⟨rfl, rfl⟩))
    have BF := hide (Bx.new w #[.int .i64 (j : Int), .int .i64 (j : Int), .string ⟨#[116, 104, 101, 32, 101, 110, 100]⟩, .string ⟨#[]⟩] 236)
    obtain ⟨cF, fF, zF⟩ := unhide BF
    subst hjs
    exact bodyPost_ret (v := ptokV (Pu.endTok s)) (by simp [results, Tryz.results185, go_sem, cF, ptokV, Pu.endTok, kindB]) rfl ⟨(Below.refl w.heap.size w).alloc (Nat.le_refl _) _, Or.inl ⟨by simp [Pu.endTok], rfl⟩⟩
end
end Go.Proofs.YtfflpeklkfjdnaaGreatDoor
namespace Go.Proofs.YtfflpeklkfjdnaaGreatDoor
open Go Go.RowKit

/-- A part of a program: its kind, its name, its number, its parts, its span, its name's place. -/
inductive Nd where
  | mk (kind : Nat) (s : ByteArray) (n : Nat) (L : List Nd) (frm to at_ : Nat) : Nd
/-- A node's value. -/
def nodeV (kind : Int) (s : ByteArray) (n : Int) (L : Value) (frm to at_ : Int) : Value := .agg #[.int .i64 kind, .string s, .int .i64 n, L, .int .i64 frm, .int .i64 to, .int .i64 at_]

theorem toList_mk (l : List UInt8) : (ByteArray.mk l.toArray).toList = l := by
  rw [ByteArray.toList_eq]
abbrev kTrue : ByteArray := ⟨#[116, 114, 117, 101]⟩
abbrev kFalse : ByteArray := ⟨#[102, 97, 108, 115, 101]⟩
abbrev kAny : ByteArray := ⟨#[95]⟩
abbrev kOpen : ByteArray := ⟨#[40]⟩
def leafK (t : Pu.Tok) : Nat :=
  if t.kind = 1 then 1 else if t.kind = 2 then 2 else if t.kind = 3 then 16 else if t.kind = 4 then 3
  else if isT t kTrue = true ∨ isT t kFalse = true then 4 else if isT t kAny = true then 15 else 0
def leafNum (t : Pu.Tok) : Nat := if t.kind = 4 then numB t.text else 0
def leafV (t : Pu.Tok) : Value := nodeV (leafK t : Int) t.text (leafNum t : Int) (.slice none 0 0) (t.frm : Int) (t.to : Int) (t.frm : Int)

theorem isT_mk (t : Pu.Tok) (l : List UInt8) : isT t ⟨l.toArray⟩ = (t.kind == 5 && t.text.toList == l) := by unfold isT; rw [toList_mk l]
theorem isT_true (t : Pu.Tok) : isT t kTrue = (t.kind == 5 && t.text.toList == [116, 114, 117, 101]) := isT_mk t _
theorem isT_false (t : Pu.Tok) : isT t kFalse = (t.kind == 5 && t.text.toList == [102, 97, 108, 115, 101]) := isT_mk t _
theorem isT_any (t : Pu.Tok) : isT t kAny = (t.kind == 5 && t.text.toList == [95]) := isT_mk t _
theorem isT_open (t : Pu.Tok) : isT t kOpen = (t.kind == 5 && t.text.toList == [40]) := isT_mk t _

set_option maxRecDepth 100000 in
set_option maxHeartbeats 1000000 in
theorem leaf_k1 (t : Pu.Tok) (w : World) (h : t.kind = 1) :
    Calls Tryz.prog 300 #[tokV t] w fun e w' => e = .returned (leafV t) ∧ Below w.heap.size w w' := by
  have hK : leafK t = 1 := by simp [leafK, h]
  have hN : leafNum t = 0 := by simp [leafNum, h]
  have H := hide (show leafV t = nodeV 1 t.text (0) (.slice none 0 0) (t.frm : Int) (t.to : Int) (t.frm : Int) by unfold leafV; rw [hK, hN]; try rfl)
  have e1 : ((t.kind : Int) == 1) = true := by rw [h]; rfl
  clear hK hN h
  unfold tokV
  go_enter Tryz.func300, Tryz.ntmps300
  go_wp2_with (go_at_call 350; refine (number_any _ _).mono ?_; rintro e w' ⟨rfl, rfl⟩)
  refine bodyPost_ret (v := nodeV 1 t.text (0) (.slice none 0 0) (t.frm : Int) (t.to : Int) (t.frm : Int)) (by simp [results, Tryz.results300, go_sem, nodeV]; try rfl) rfl ⟨by rw [unhide H], ?_⟩
  exact (((Below.refl _ _).alloc (Nat.le_refl _) _).alloc (by simp) _).alloc (by simp; try omega) _

set_option maxRecDepth 100000 in
set_option maxHeartbeats 1000000 in
theorem leaf_k2 (t : Pu.Tok) (w : World) (h : t.kind = 2) :
    Calls Tryz.prog 300 #[tokV t] w fun e w' => e = .returned (leafV t) ∧ Below w.heap.size w w' := by
  have hK : leafK t = 2 := by simp [leafK, h]
  have hN : leafNum t = 0 := by simp [leafNum, h]
  have H := hide (show leafV t = nodeV 2 t.text (0) (.slice none 0 0) (t.frm : Int) (t.to : Int) (t.frm : Int) by unfold leafV; rw [hK, hN]; try rfl)
  have e1 : ((t.kind : Int) == 1) = false := by rw [h]; rfl
  have e2 : ((t.kind : Int) == 2) = true := by rw [h]; rfl
  clear hK hN h
  unfold tokV
  go_enter Tryz.func300, Tryz.ntmps300
  go_wp2_with (go_at_call 350; refine (number_any _ _).mono ?_; rintro e w' ⟨rfl, rfl⟩)
  refine bodyPost_ret (v := nodeV 2 t.text (0) (.slice none 0 0) (t.frm : Int) (t.to : Int) (t.frm : Int)) (by simp [results, Tryz.results300, go_sem, nodeV]; try rfl) rfl ⟨by rw [unhide H], ?_⟩
  exact (((Below.refl _ _).alloc (Nat.le_refl _) _).alloc (by simp) _).alloc (by simp; try omega) _

set_option maxRecDepth 100000 in
set_option maxHeartbeats 1000000 in
theorem leaf_k3 (t : Pu.Tok) (w : World) (h : t.kind = 3) :
    Calls Tryz.prog 300 #[tokV t] w fun e w' => e = .returned (leafV t) ∧ Below w.heap.size w w' := by
  have hK : leafK t = 16 := by simp [leafK, h]
  have hN : leafNum t = 0 := by simp [leafNum, h]
  have H := hide (show leafV t = nodeV 16 t.text (0) (.slice none 0 0) (t.frm : Int) (t.to : Int) (t.frm : Int) by unfold leafV; rw [hK, hN]; try rfl)
  have e1 : ((t.kind : Int) == 1) = false := by rw [h]; rfl
  have e2 : ((t.kind : Int) == 2) = false := by rw [h]; rfl
  have e3 : ((t.kind : Int) == 3) = true := by rw [h]; rfl
  clear hK hN h
  unfold tokV
  go_enter Tryz.func300, Tryz.ntmps300
  go_wp2_with (go_at_call 350; refine (number_any _ _).mono ?_; rintro e w' ⟨rfl, rfl⟩)
  refine bodyPost_ret (v := nodeV 16 t.text (0) (.slice none 0 0) (t.frm : Int) (t.to : Int) (t.frm : Int)) (by simp [results, Tryz.results300, go_sem, nodeV]; try rfl) rfl ⟨by rw [unhide H], ?_⟩
  exact (((Below.refl _ _).alloc (Nat.le_refl _) _).alloc (by simp) _).alloc (by simp; try omega) _

set_option maxRecDepth 100000 in
set_option maxHeartbeats 1000000 in
theorem leaf_k4 (t : Pu.Tok) (w : World) (h : t.kind = 4) :
    Calls Tryz.prog 300 #[tokV t] w fun e w' => e = .returned (leafV t) ∧ Below w.heap.size w w' := by
  have hK : leafK t = 3 := by simp [leafK, h]
  have hN : leafNum t = numB t.text := by simp [leafNum, h]
  have H := hide (show leafV t = nodeV 3 t.text ((numB t.text : Int)) (.slice none 0 0) (t.frm : Int) (t.to : Int) (t.frm : Int) by unfold leafV; rw [hK, hN]; try rfl)
  have e1 : ((t.kind : Int) == 1) = false := by rw [h]; rfl
  have e2 : ((t.kind : Int) == 2) = false := by rw [h]; rfl
  have e3 : ((t.kind : Int) == 3) = false := by rw [h]; rfl
  have e4 : ((t.kind : Int) == 4) = true := by rw [h]; rfl
  clear hK hN h
  unfold tokV
  go_enter Tryz.func300, Tryz.ntmps300
  go_wp2_with (go_at_call 350; refine (number_any _ _).mono ?_; rintro e w' ⟨rfl, rfl⟩)
  refine bodyPost_ret (v := nodeV 3 t.text ((numB t.text : Int)) (.slice none 0 0) (t.frm : Int) (t.to : Int) (t.frm : Int)) (by simp [results, Tryz.results300, go_sem, nodeV]; try rfl) rfl ⟨by rw [unhide H], ?_⟩
  exact (((Below.refl _ _).alloc (Nat.le_refl _) _).alloc (by simp) _).alloc (by simp; try omega) _

set_option maxRecDepth 100000 in
set_option maxHeartbeats 1000000 in
theorem leaf_true (t : Pu.Tok) (w : World) (h : t.kind = 5) (q1 : (t.text.toList == [116, 114, 117, 101]) = true) :
    Calls Tryz.prog 300 #[tokV t] w fun e w' => e = .returned (leafV t) ∧ Below w.heap.size w w' := by
  have hK : leafK t = 4 := by unfold leafK; rw [isT_true]; simp [h, q1]
  have hN : leafNum t = 0 := by simp [leafNum, h]
  have H := hide (show leafV t = nodeV 4 t.text (0) (.slice none 0 0) (t.frm : Int) (t.to : Int) (t.frm : Int) by unfold leafV; rw [hK, hN]; try rfl)
  have e1 : ((t.kind : Int) == 1) = false := by rw [h]; rfl
  have e2 : ((t.kind : Int) == 2) = false := by rw [h]; rfl
  have e3 : ((t.kind : Int) == 3) = false := by rw [h]; rfl
  have e4 : ((t.kind : Int) == 4) = false := by rw [h]; rfl
  have e5 : ((t.kind : Int) == 5) = true := by rw [h]; rfl
  clear hK hN h
  unfold tokV
  go_enter Tryz.func300, Tryz.ntmps300
  go_wp2_with (go_at_call 350; refine (number_any _ _).mono ?_; rintro e w' ⟨rfl, rfl⟩)
  refine bodyPost_ret (v := nodeV 4 t.text (0) (.slice none 0 0) (t.frm : Int) (t.to : Int) (t.frm : Int)) (by simp [results, Tryz.results300, go_sem, nodeV]; try rfl) rfl ⟨by rw [unhide H], ?_⟩
  exact (((Below.refl _ _).alloc (Nat.le_refl _) _).alloc (by simp) _).alloc (by simp; try omega) _

set_option maxRecDepth 100000 in
set_option maxHeartbeats 1000000 in
theorem leaf_false (t : Pu.Tok) (w : World) (h : t.kind = 5) (q1 : (t.text.toList == [116, 114, 117, 101]) = false) (q2 : (t.text.toList == [102, 97, 108, 115, 101]) = true) :
    Calls Tryz.prog 300 #[tokV t] w fun e w' => e = .returned (leafV t) ∧ Below w.heap.size w w' := by
  have hK : leafK t = 4 := by unfold leafK; rw [isT_true, isT_false]; simp [h, q1, q2]
  have hN : leafNum t = 0 := by simp [leafNum, h]
  have H := hide (show leafV t = nodeV 4 t.text (0) (.slice none 0 0) (t.frm : Int) (t.to : Int) (t.frm : Int) by unfold leafV; rw [hK, hN]; try rfl)
  have e1 : ((t.kind : Int) == 1) = false := by rw [h]; rfl
  have e2 : ((t.kind : Int) == 2) = false := by rw [h]; rfl
  have e3 : ((t.kind : Int) == 3) = false := by rw [h]; rfl
  have e4 : ((t.kind : Int) == 4) = false := by rw [h]; rfl
  have e5 : ((t.kind : Int) == 5) = true := by rw [h]; rfl
  clear hK hN h
  unfold tokV
  go_enter Tryz.func300, Tryz.ntmps300
  go_wp2_with (go_at_call 350; refine (number_any _ _).mono ?_; rintro e w' ⟨rfl, rfl⟩)
  refine bodyPost_ret (v := nodeV 4 t.text (0) (.slice none 0 0) (t.frm : Int) (t.to : Int) (t.frm : Int)) (by simp [results, Tryz.results300, go_sem, nodeV]; try rfl) rfl ⟨by rw [unhide H], ?_⟩
  exact (((Below.refl _ _).alloc (Nat.le_refl _) _).alloc (by simp) _).alloc (by simp; try omega) _

set_option maxRecDepth 100000 in
set_option maxHeartbeats 1000000 in
theorem leaf_under (t : Pu.Tok) (w : World) (h : t.kind = 5) (q1 : (t.text.toList == [116, 114, 117, 101]) = false) (q2 : (t.text.toList == [102, 97, 108, 115, 101]) = false) (q3 : (t.text.toList == [95]) = true) :
    Calls Tryz.prog 300 #[tokV t] w fun e w' => e = .returned (leafV t) ∧ Below w.heap.size w w' := by
  have hK : leafK t = 15 := by unfold leafK; rw [isT_true, isT_false, isT_any]; simp [h, q1, q2, q3]
  have hN : leafNum t = 0 := by simp [leafNum, h]
  have H := hide (show leafV t = nodeV 15 t.text (0) (.slice none 0 0) (t.frm : Int) (t.to : Int) (t.frm : Int) by unfold leafV; rw [hK, hN]; try rfl)
  have e1 : ((t.kind : Int) == 1) = false := by rw [h]; rfl
  have e2 : ((t.kind : Int) == 2) = false := by rw [h]; rfl
  have e3 : ((t.kind : Int) == 3) = false := by rw [h]; rfl
  have e4 : ((t.kind : Int) == 4) = false := by rw [h]; rfl
  have e5 : ((t.kind : Int) == 5) = true := by rw [h]; rfl
  clear hK hN h
  unfold tokV
  go_enter Tryz.func300, Tryz.ntmps300
  go_wp2_with (go_at_call 350; refine (number_any _ _).mono ?_; rintro e w' ⟨rfl, rfl⟩)
  refine bodyPost_ret (v := nodeV 15 t.text (0) (.slice none 0 0) (t.frm : Int) (t.to : Int) (t.frm : Int)) (by simp [results, Tryz.results300, go_sem, nodeV]; try rfl) rfl ⟨by rw [unhide H], ?_⟩
  exact (((Below.refl _ _).alloc (Nat.le_refl _) _).alloc (by simp) _).alloc (by simp; try omega) _

set_option maxRecDepth 100000 in
set_option maxHeartbeats 1000000 in
theorem leaf_sign (t : Pu.Tok) (w : World) (h : t.kind = 5) (q1 : (t.text.toList == [116, 114, 117, 101]) = false) (q2 : (t.text.toList == [102, 97, 108, 115, 101]) = false) (q3 : (t.text.toList == [95]) = false) :
    Calls Tryz.prog 300 #[tokV t] w fun e w' => e = .returned (leafV t) ∧ Below w.heap.size w w' := by
  have hK : leafK t = 0 := by unfold leafK; rw [isT_true, isT_false, isT_any]; simp [h, q1, q2, q3]
  have hN : leafNum t = 0 := by simp [leafNum, h]
  have H := hide (show leafV t = nodeV 0 t.text (0) (.slice none 0 0) (t.frm : Int) (t.to : Int) (t.frm : Int) by unfold leafV; rw [hK, hN]; try rfl)
  have e1 : ((t.kind : Int) == 1) = false := by rw [h]; rfl
  have e2 : ((t.kind : Int) == 2) = false := by rw [h]; rfl
  have e3 : ((t.kind : Int) == 3) = false := by rw [h]; rfl
  have e4 : ((t.kind : Int) == 4) = false := by rw [h]; rfl
  have e5 : ((t.kind : Int) == 5) = true := by rw [h]; rfl
  clear hK hN h
  unfold tokV
  go_enter Tryz.func300, Tryz.ntmps300
  go_wp2_with (go_at_call 350; refine (number_any _ _).mono ?_; rintro e w' ⟨rfl, rfl⟩)
  refine bodyPost_ret (v := nodeV 0 t.text (0) (.slice none 0 0) (t.frm : Int) (t.to : Int) (t.frm : Int)) (by simp [results, Tryz.results300, go_sem, nodeV]; try rfl) rfl ⟨by rw [unhide H], ?_⟩
  exact (((Below.refl _ _).alloc (Nat.le_refl _) _).alloc (by simp) _).alloc (by simp; try omega) _

set_option maxRecDepth 100000 in
set_option maxHeartbeats 1000000 in
theorem leaf_no (t : Pu.Tok) (w : World) (h : t.kind ≠ 1 ∧ t.kind ≠ 2 ∧ t.kind ≠ 3 ∧ t.kind ≠ 4 ∧ t.kind ≠ 5) :
    Calls Tryz.prog 300 #[tokV t] w fun e w' => e = .returned (leafV t) ∧ Below w.heap.size w w' := by
  have hK : leafK t = 0 := by unfold leafK; rw [isT_true, isT_false, isT_any]; simp [h]
  have hN : leafNum t = 0 := by simp [leafNum, h]
  have H := hide (show leafV t = nodeV 0 t.text (0) (.slice none 0 0) (t.frm : Int) (t.to : Int) (t.frm : Int) by unfold leafV; rw [hK, hN]; try rfl)
  have e1 : ((t.kind : Int) == 1) = false := by simp; omega
  have e2 : ((t.kind : Int) == 2) = false := by simp; omega
  have e3 : ((t.kind : Int) == 3) = false := by simp; omega
  have e4 : ((t.kind : Int) == 4) = false := by simp; omega
  have e5 : ((t.kind : Int) == 5) = false := by simp; omega
  clear hK hN h
  unfold tokV
  go_enter Tryz.func300, Tryz.ntmps300
  go_wp2_with (go_at_call 350; refine (number_any _ _).mono ?_; rintro e w' ⟨rfl, rfl⟩)
  refine bodyPost_ret (v := nodeV 0 t.text (0) (.slice none 0 0) (t.frm : Int) (t.to : Int) (t.frm : Int)) (by simp [results, Tryz.results300, go_sem, nodeV]; try rfl) rfl ⟨by rw [unhide H], ?_⟩
  exact (((Below.refl _ _).alloc (Nat.le_refl _) _).alloc (by simp) _).alloc (by simp; try omega) _

theorem leaf_any (t : Pu.Tok) (w : World) :
    Calls Tryz.prog 300 #[tokV t] w fun e w' => e = .returned (leafV t) ∧ Below w.heap.size w w' := by
  by_cases h1 : t.kind = 1
  · exact leaf_k1 t w h1
  by_cases h2 : t.kind = 2
  · exact leaf_k2 t w h2
  by_cases h3 : t.kind = 3
  · exact leaf_k3 t w h3
  by_cases h4 : t.kind = 4
  · exact leaf_k4 t w h4
  by_cases h5 : t.kind = 5
  · rcases q1 : (t.text.toList == [116, 114, 117, 101]) with _ | _
    · rcases q2 : (t.text.toList == [102, 97, 108, 115, 101]) with _ | _
      · rcases q3 : (t.text.toList == [95]) with _ | _
        · exact leaf_sign t w h5 q1 q2 q3
        · exact leaf_under t w h5 q1 q2 q3
      · exact leaf_false t w h5 q1 q2
    · exact leaf_true t w h5 q1
  · exact leaf_no t w ⟨h1, h2, h3, h4, h5⟩
end Go.Proofs.YtfflpeklkfjdnaaGreatDoor
namespace Go.Proofs.YtfflpeklkfjdnaaGreatDoor
open Go Go.RowKit

def beginsB (t : Pu.Tok) (sort : Nat) : Bool := isT t kOpen ||
  (if sort = 1 then leafK t == 16 || leafK t == 2 else if sort = 2 then leafK t == 15 || leafK t == 1 || leafK t == 2 || leafK t == 3 || leafK t == 4 else leafK t == 1 || leafK t == 2 || leafK t == 3 || leafK t == 4)
theorem node_f0 (a0 a1 a2 a3 a4 a5 a6 : Value) (w : World) : (Instr.field 62 (.agg #[a0, a1, a2, a3, a4, a5, a6]) 0).run Tryz.prog w = .ok a0 w := by kernel_rfl
theorem leafK_of (t : Pu.Tok) : leafK t = 0 ∨ leafK t = 1 ∨ leafK t = 2 ∨ leafK t = 3 ∨ leafK t = 4 ∨ leafK t = 15 ∨ leafK t = 16 := by
  unfold leafK
  repeat (first | omega | split)

set_option maxRecDepth 100000 in
set_option maxHeartbeats 4000000 in
theorem begins_no (t : Pu.Tok) (w : World) (sort : Nat) (hs : sort = 1 ∨ sort = 2 ∨ sort = 3) (h : isT t kOpen = false) :
    Calls Tryz.prog 200 #[tokV t, .int .i64 (sort : Int)] w fun e w' => e = .returned (.bool (beginsB t sort)) ∧ Below w.heap.size w w' := by
  have ho : (t.kind = 5 ∧ (t.text.toList == [40]) = false) ∨ t.kind ≠ 5 := by
    rw [isT_open] at h
    by_cases k : t.kind = 5
    · simp [k] at h; exact Or.inl ⟨k, by simpa using h⟩
    · exact Or.inr k
  have H := hide (show beginsB t sort = _ by unfold beginsB; rw [h])
  have hl := leafK_of t
  clear h
  unfold tokV
  rcases ho with ⟨k5, q1⟩ | k5
  · have e5 : ((t.kind : Int) == 5) = true := by rw [k5]; rfl
    clear k5
    rcases hs with rfl | rfl | rfl <;> rcases hl with hl | hl | hl | hl | hl | hl | hl
    all_goals
      have hf0 := node_f0
      go_enter Tryz.func200, Tryz.ntmps200
      go_wp2_with (go_at_call 300; refine (leaf_any t _).mono ?_; rintro e w1 ⟨rfl, hb1⟩; unfold leafV nodeV)
      go_ret
      exact ⟨retBool (by rw [unhide H, hl]; rfl), ((Below.refl _ _).alloc (Nat.le_refl _) _).trans (hb1.mono (by simp))⟩
  · have e5 : ((t.kind : Int) == 5) = false := by simp; omega
    clear k5
    rcases hs with rfl | rfl | rfl <;> rcases hl with hl | hl | hl | hl | hl | hl | hl
    all_goals
      have hf0 := node_f0
      go_enter Tryz.func200, Tryz.ntmps200
      go_wp2_with (go_at_call 300; refine (leaf_any t _).mono ?_; rintro e w1 ⟨rfl, hb1⟩; unfold leafV nodeV)
      go_ret
      exact ⟨retBool (by rw [unhide H, hl]; rfl), ((Below.refl _ _).alloc (Nat.le_refl _) _).trans (hb1.mono (by simp))⟩

set_option maxRecDepth 100000 in
set_option maxHeartbeats 1000000 in
theorem begins_yes (t : Pu.Tok) (w : World) (sort : Nat) (h : isT t kOpen = true) :
    Calls Tryz.prog 200 #[tokV t, .int .i64 (sort : Int)] w fun e w' => e = .returned (.bool (beginsB t sort)) ∧ Below w.heap.size w w' := by
  have ho : t.kind = 5 ∧ (t.text.toList == [40]) = true := by rw [isT_open] at h; simpa using h
  have H := hide (show beginsB t sort = true by unfold beginsB; rw [h]; rfl)
  obtain ⟨k5, q1⟩ := ho
  have e5 : ((t.kind : Int) == 5) = true := by rw [k5]; rfl
  clear h k5
  unfold tokV
  go_enter Tryz.func200, Tryz.ntmps200
  go_wp2_with fail
  go_ret
  exact ⟨retBool (unhide H).symm, (Below.refl _ _).alloc (Nat.le_refl _) _⟩
theorem begins_any (t : Pu.Tok) (w : World) (sort : Nat) (hs : sort = 1 ∨ sort = 2 ∨ sort = 3) :
    Calls Tryz.prog 200 #[tokV t, .int .i64 (sort : Int)] w fun e w' => e = .returned (.bool (beginsB t sort)) ∧ Below w.heap.size w w' := by
  rcases h : isT t kOpen with _ | _
  · exact begins_no t w sort hs h
  · exact begins_yes t w sort h
end Go.Proofs.YtfflpeklkfjdnaaGreatDoor
namespace Go.Proofs.YtfflpeklkfjdnaaGreatDoor
open Go Go.RowKit

abbrev kNo : ByteArray := ⟨#[]⟩
abbrev kClose : ByteArray := ⟨#[41]⟩
abbrev kComma : ByteArray := ⟨#[44]⟩
abbrev kColon : ByteArray := ⟨#[58]⟩
abbrev kArrow : ByteArray := ⟨#[45, 62]⟩
abbrev kStar : ByteArray := ⟨#[42]⟩
abbrev kPlus : ByteArray := ⟨#[43]⟩
abbrev kMinus : ByteArray := ⟨#[45]⟩
abbrev kLess : ByteArray := ⟨#[60]⟩
abbrev kFun : ByteArray := ⟨#[102, 117, 110]⟩
abbrev kLet : ByteArray := ⟨#[108, 101, 116]⟩
abbrev kRec : ByteArray := ⟨#[114, 101, 99]⟩
abbrev kIn : ByteArray := ⟨#[105, 110]⟩
abbrev kIf : ByteArray := ⟨#[105, 102]⟩
abbrev kThen : ByteArray := ⟨#[116, 104, 101, 110]⟩
abbrev kElse : ByteArray := ⟨#[101, 108, 115, 101]⟩
abbrev kMatch : ByteArray := ⟨#[109, 97, 116, 99, 104]⟩
abbrev kWith : ByteArray := ⟨#[119, 105, 116, 104]⟩
abbrev kEnd : ByteArray := ⟨#[101, 110, 100]⟩
abbrev kBar : ByteArray := ⟨#[124]⟩
abbrev kSemi : ByteArray := ⟨#[59]⟩
abbrev kEq : ByteArray := ⟨#[61]⟩
abbrev kType : ByteArray := ⟨#[116, 121, 112, 101]⟩

def leafN (t : Pu.Tok) : Nd := .mk (leafK t) t.text (leafNum t) [] t.frm t.to t.frm
def Nd.add : Nd → Nd → Nat → Nd
  | .mk k s n L f _ a, y, to => .mk k s n (L ++ [y]) f to a
def bnd {α β : Type} (m : M α) (f : α → M β) : M β := fun k => match m k with
  | .error e => .error e
  | .ok (a, k') => f a k'
section
variable (T : List Pu.Tok)
/-- `)`, and then the part that was made. -/
def closeM (mk : Nat → Nd) : M Nd := bnd (wantM T kClose) fun _ k => .ok (mk k, k)
def restM (part typ : M Nd) (sort frm : Nat) (a : Nd) : M Nd := fun k =>
  if isT (tk T k) kComma = true then bnd part (fun b => closeM T fun k' => .mk 6 kNo 0 [a, b] frm (lastK T k') frm) (k + 1)
  else if sort = 3 ∧ isT (tk T k) kColon = true then bnd typ (fun b => closeM T fun k' => .mk 14 kNo 0 [a, b] frm (lastK T k') frm) (k + 1)
  else closeM T (fun _ => a) k
def groupM (part typ : M Nd) (sort frm : Nat) : M Nd := fun k =>
  if sort ≠ 1 ∧ isT (tk T k) kClose = true then .ok (.mk 5 kNo 0 [] frm (lastK T (k + 1)) frm, k + 1)
  else bnd part (restM T part typ sort frm) k
def smallM (part typ : M Nd) (sort : Nat) : M Nd := fun k =>
  if beginsB (tk T k) sort = true then
    (if isT (tk T k) kOpen = true then groupM T part typ sort (tk T k).frm (k + 1) else .ok (leafN (tk T k), k + 1))
  else .error (flOf (tk T k))
def headF (small : M Nd) (sort : Nat) : Nat → Nd → M Nd
  | 0, x => fun k => .ok (x, k)
  | f + 1, x => fun k => if beginsB (tk T k) sort = true then bnd small (fun y k' => headF small sort f (x.add y (lastK T k')) k') k else .ok (x, k)
def headM (small : M Nd) (sort : Nat) : M Nd := fun k => if (tk T k).kind == 2 then bnd small (headF T small sort T.length) k else small k
def arrowM (typ : M Nd) (frm : Nat) (a : Nd) : M Nd := fun k =>
  if isT (tk T k) kArrow = true then bnd typ (fun b k' => .ok (.mk 17 kNo 0 [a, b] frm (lastK T k') frm, k')) (k + 1) else .ok (a, k)
def typM : Nat → M Nd
  | 0 => wrongM T
  | n + 1 => fun k => bnd (headM T (smallM T (typM n) (typM n) 1) 1) (arrowM T (typM n) (tk T k).frm) k
def patM : Nat → M Nd
  | 0 => wrongM T
  | n + 1 => headM T (smallM T (patM n) (wrongM T) 2) 2
def callF (small : M Nd) (frm : Nat) : Nat → Nd → M Nd
  | 0, x => fun k => .ok (x, k)
  | f + 1, x => fun k => if beginsB (tk T k) 3 = true then bnd small (fun y k' => callF small frm f (.mk 8 kNo 0 [x, y] frm (lastK T k') frm) k') k else .ok (x, k)
def callM (small : M Nd) : M Nd := fun k => bnd small (callF T small (tk T k).frm T.length) k
def prodF (call : M Nd) (frm : Nat) : Nat → Nd → M Nd
  | 0, x => fun k => .ok (x, k)
  | f + 1, x => fun k => if isT (tk T k) kStar = true then bnd call (fun y k' => prodF call frm f (.mk 7 kStar 0 [x, y] frm (lastK T k') frm) k') (k + 1) else .ok (x, k)
def prodM (call : M Nd) : M Nd := fun k => bnd call (prodF T call (tk T k).frm T.length) k
def sumF (prod : M Nd) (frm : Nat) : Nat → Nd → M Nd
  | 0, x => fun k => .ok (x, k)
  | f + 1, x => fun k => if isT (tk T k) kPlus = true ∨ isT (tk T k) kMinus = true then bnd prod (fun y k' => sumF prod frm f (.mk 7 (tk T k).text 0 [x, y] frm (lastK T k') frm) k') (k + 1) else .ok (x, k)
def sumM (prod : M Nd) : M Nd := fun k => bnd prod (sumF T prod (tk T k).frm T.length) k
def funM (expr : M Nd) : M Nd := fun k =>
  bnd (wantM T kFun) (fun _ => bnd (nameM T 1) fun t => bnd (wantM T kArrow) fun _ => bnd expr fun e k' => .ok (.mk 9 t.text 0 [e] (tk T k).frm (lastK T k') t.frm, k')) k
def boundM (expr : M Nd) : M (Nat × Pu.Tok × Nd) :=
  bnd (wantM T kLet) fun _ k =>
    if isT (tk T k) kRec = true then bnd (nameM T 1) (fun t => bnd (wantM T kEq) fun _ => bnd (funM T expr) fun e k' => .ok ((11, t, e), k')) (k + 1)
    else bnd (nameM T 1) (fun t => bnd (wantM T kEq) fun _ => bnd expr fun e k' => .ok ((10, t, e), k')) k
def choiceM (expr : M Nd) : M Nd := fun k =>
  bnd (wantM T kIf) (fun _ => bnd expr fun a => bnd (wantM T kThen) fun _ => bnd expr fun b => bnd (wantM T kElse) fun _ => bnd expr fun c k' => .ok (.mk 12 kNo 0 [a, b, c] (tk T k).frm (lastK T k') (tk T k).frm, k')) k
/-- The arms behind `with`, each laid behind those before. -/
def armsF (pat expr : M Nd) : Nat → List Nd → M (List Nd)
  | 0, l => fun k => .ok (l, k)
  | f + 1, l => bnd pat fun p => bnd (wantM T kArrow) fun _ => bnd expr fun e k =>
      if isT (tk T k) kBar = true then armsF pat expr f (l ++ [p, e]) (k + 1) else .ok (l ++ [p, e], k)
def matchM (pat expr : M Nd) : M Nd := fun k =>
  bnd (wantM T kMatch) (fun _ => bnd expr fun x => bnd (wantM T kWith) fun _ => bnd (armsF T pat expr T.length [x]) fun l => bnd (wantM T kEnd) fun _ k' => .ok (.mk 13 kNo 0 l (tk T k).frm (lastK T k') (tk T k).frm, k')) k
def letM (expr : M Nd) : M Nd := fun k =>
  bnd (boundM T expr) (fun b => bnd (wantM T kIn) fun _ => bnd expr fun f k' => .ok (.mk b.1 b.2.1.text 0 [b.2.2, f] (tk T k).frm (lastK T k') b.2.1.frm, k')) k
def lessM (sum : M Nd) : M Nd := fun k =>
  bnd sum (fun x k1 => if isT (tk T k1) kLess = true then bnd sum (fun y k' => .ok (.mk 7 kLess 0 [x, y] (tk T k).frm (lastK T k') (tk T k).frm, k')) (k1 + 1) else .ok (x, k1)) k
def exprM : Nat → M Nd
  | 0 => wrongM T
  | n + 1 => fun k =>
    if isT (tk T k) kFun = true then funM T (exprM n) k
    else if isT (tk T k) kIf = true then choiceM T (exprM n) k
    else if isT (tk T k) kMatch = true then matchM T (patM T n) (exprM n) k
    else if isT (tk T k) kLet = true then letM T (exprM n) k
    else lessM T (sumM T (prodM T (callM T (smallM T (exprM n) (typM T n) 3)))) k
end
end Go.Proofs.YtfflpeklkfjdnaaGreatDoor
