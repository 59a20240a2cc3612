import Derived.Test.YteneoapickhpdaaGreatDoorGRa
set_option linter.unusedSimpArgs false
set_option linter.unusedVariables false
set_option linter.unusedSectionVars false
namespace Go.Proofs.YteneoapickhpdaaGreatDoor
open Go Go.RowKit
/-- The token that comes next from i on. -/
def nextTok (s : ByteArray) (i : Nat) : Pu.Tok := if Pu.endTo s blankB i < s.size then Pu.tokAt s (Pu.endTo s blankB i) else Pu.endTok s
theorem endTo_stop (s : ByteArray) (p : Nat → Bool) : ∀ n i, s.size - i = n → Pu.endTo s p i < s.size → p (Pu.at_ s (Pu.endTo s p i)) = false := by
  intro n
  induction n with
  | zero => intro i h hl; rw [Pu.endTo_end (by omega)] at hl; omega
  | succ n ih =>
    intro i h hl
    cases hp : p (Pu.at_ s i) with
    | true => rw [Pu.endTo_yes (by omega) hp] at hl ⊢; exact ih (i + 1) (by omega) hl
    | false => rw [Pu.endTo_no (by omega) hp]; exact hp
theorem toks_skip (s : ByteArray) : ∀ n i, s.size - i = n → Pu.toks s i = Pu.toks s (Pu.endTo s blankB i) := by
  intro n
  induction n with
  | zero => intro i h; rw [Pu.endTo_end (by omega)]
  | succ n ih =>
    intro i h
    cases hp : blankB (Pu.at_ s i) with
    | true => rw [Pu.endTo_yes (by omega) hp, Pu.toks_blank (by omega) hp]; exact ih (i + 1) (by omega)
    | false => rw [Pu.endTo_no (by omega) hp]
/-- The tokens, as the project reads them: one after another. -/
theorem toks_next (s : ByteArray) (i : Nat) (hi : i ≤ s.size) : Pu.toks s i = if (nextTok s i).kind = 7 then [Pu.endTok s] else nextTok s i :: Pu.toks s (nextTok s i).to := by
  rw [toks_skip s _ i rfl]
  unfold nextTok
  by_cases h : Pu.endTo s blankB i < s.size
  · rw [if_pos h, if_neg, Pu.toks_tok h (endTo_stop s blankB _ i rfl h)]
    unfold Pu.tokAt Pu.mkT
    repeat' split
    all_goals simp
  · rw [if_neg h, if_pos (show (Pu.endTok s).kind = 7 from rfl), Pu.toks_end (by omega)]
theorem TokPost.ok {t : Pu.Tok} {w w' : World} {e : Ending} (h : TokPost t w e w') (hk : t.kind ≠ 6) : e = .returned (.agg #[.int .i64 (t.frm : Int), .int .i64 (t.to : Int), .string (kindB t), .string t.text]) ∧ Below w.heap.size w w' := by
  obtain ⟨hb, ⟨_, he⟩ | ⟨hn, _⟩⟩ := h
  · exact ⟨he, hb⟩
  · exact absurd hn hk
theorem TokPost.bad {t : Pu.Tok} {w w' : World} {e : Ending} (h : TokPost t w e w') (hk : t.kind = 6) : e = .panicked [{ v := .iface 101 (.agg #[.int .i64 2, .int .i64 (t.frm : Int), .int .i64 (t.to : Int)]), recovered := false }] ∧ Below w.heap.size w w' := by
  obtain ⟨hb, ⟨hn, _⟩ | ⟨_, he⟩⟩ := h
  · exact absurd hk hn
  · exact ⟨he, hb⟩
theorem tokAt_dig {s : ByteArray} {i : Nat} (hi : i < s.size) (hd : Pu.digB (Pu.at_ s i) = true) : Pu.tokAt s i = (if Pu.endTo s Pu.digB i - i ≤ 9 then Pu.mkT s i 4 (Pu.endTo s Pu.digB i) else Pu.mkT s i 6 (Pu.endTo s Pu.digB i)) := by
  have hd' := hd
  simp [Pu.digB] at hd'
  unfold Pu.tokAt
  rw [if_neg (by simp [Pu.lowB]; omega), if_neg (by simp [Pu.upB]; omega), if_neg (by intro q; omega), if_pos hd, Pu.endTo_yes hi hd]
theorem tokAt_var {s : ByteArray} {i : Nat} (hd : Pu.at_ s i = 39) : Pu.tokAt s i = varTok s i := by
  unfold Pu.tokAt varTok
  rw [hd, if_neg (by decide), if_neg (by decide)]
  by_cases hl : Pu.lowB (Pu.at_ s (i + 1)) = true
  · rw [if_pos ⟨rfl, hl⟩, if_pos hl]
  · rw [if_neg (fun q => hl q.2), if_neg hl, if_neg (by decide), if_neg (by intro q; exact absurd q.1 (by decide)), if_neg (by decide)]
theorem tokAt_sgn {s : ByteArray} {i : Nat} (h1 : Pu.lowB (Pu.at_ s i) = false) (h2 : Pu.upB (Pu.at_ s i) = false) (h3 : Pu.digB (Pu.at_ s i) = false) (h4 : Pu.at_ s i ≠ 39) : Pu.tokAt s i = sgnTok s i := by
  unfold Pu.tokAt sgnTok
  rw [if_neg (by simp [h1]), if_neg (by simp [h2]), if_neg (fun q => h4 q.1), if_neg (by simp [h3])]
theorem tokAt_up {s : ByteArray} {i : Nat} (h1 : Pu.lowB (Pu.at_ s i) = false) (h2 : Pu.upB (Pu.at_ s i) = true) : Pu.tokAt s i = Pu.mkT s i 2 (Pu.endTo s Pu.nameB i) := by
  unfold Pu.tokAt
  rw [if_neg (by simp [h1]), if_pos h2]
theorem tokAt_low {s : ByteArray} {i : Nat} (h1 : Pu.lowB (Pu.at_ s i) = true) : Pu.tokAt s i = (if Pu.wordB (s.extract i (Pu.endTo s Pu.nameB i)) = true then Pu.mkT s i 5 (Pu.endTo s Pu.nameB i) else Pu.mkT s i 1 (Pu.endTo s Pu.nameB i)) := by
  unfold Pu.tokAt
  rw [if_pos h1]
section
variable {w : World}
set_option maxRecDepth 100000 in
set_option maxHeartbeats 2000000 in
theorem behind_C (h : Laid w) (s : ByteArray) (i : Nat) (hi : i ≤ s.size) (hs : s.size ≤ 1000) :
    Calls Tryz.prog 76 #[.string s, .int .i64 (i : Int)] w (TokPost (nextTok s i) w) := by
  have B0 := hide (Bx.new w zPt 108)
  have HB := hide ((Below.refl w.heap.size w).alloc (Nat.le_refl _) (.cells zPt 108))
  have H := hide (h.bel (unhide HB))
  clear h
  have E := fun W => endBlank_any s i W hs hi
  have hle := Pu.endTo_le (s := s) blankB hi
  have hge := Pu.endTo_ge s blankB i
  unfold nextTok
  generalize Pu.endTo s blankB i = j at E hle hge ⊢
  by_cases hj : j < s.size
  · have he : ((j : Int) == (s.size : Int)) = false := by simp; omega
    rw [if_pos hj]
    have hat : Pu.at_ s j = s[j].toNat := Pu.at_lt hj
    cases h1 : Pu.lowB s[j].toNat
    case true =>
      · have a1 : Pu.lowB (Pu.at_ s j) = true := by rw [hat]; exact h1
        obtain ⟨T, hT⟩ : ∃ T, T = Pu.tokAt s j := ⟨_, rfl⟩
        have C : ∀ W, Laid W → Calls Tryz.prog 122 #[.string s, .int .i64 (j : Int)] W (TokPost T W) := fun W hW => by rw [hT, tokAt_low a1]; exact (lowOrWord_C hW s j hj hs).mono fun e w' q => ⟨q.2, Or.inl ⟨by split <;> simp [Pu.mkT], q.1⟩⟩
        rw [← hT]
        clear hT hat
        by_cases hk : T.kind = 6
        · go_enter Tryz.func76, Tryz.ntmps76
          go_wp2_with (first | (go_at_call 119; with_reducible refine (E _).mono ?_; rintro e w' ⟨rfl, rfl⟩) | (go_at_call 121; refine (pLow_any _ _).mono ?_; rintro e w' ⟨rfl, rfl⟩) | (go_at_call 123; refine (pUp_any _ _).mono ?_; rintro e w' ⟨rfl, rfl⟩) | (go_at_call 126; refine (pDig_any _ _).mono ?_; rintro e w' ⟨rfl, rfl⟩) | (go_at_call 122; refine (C _ (unhide H)).mono ?_; intro e w1 hp; obtain ⟨rfl, hb⟩ := hp.bad hk; have HB1 := hide ((unhide HB).trans (hb.mono (by simp))); clear hb))
          exact ⟨rfl, unhide HB1, Or.inr ⟨hk, rfl⟩⟩
        · go_enter Tryz.func76, Tryz.ntmps76
          go_wp2_with (first | (go_at_call 119; with_reducible refine (E _).mono ?_; rintro e w' ⟨rfl, rfl⟩) | (go_at_call 121; refine (pLow_any _ _).mono ?_; rintro e w' ⟨rfl, rfl⟩) | (go_at_call 123; refine (pUp_any _ _).mono ?_; rintro e w' ⟨rfl, rfl⟩) | (go_at_call 126; refine (pDig_any _ _).mono ?_; rintro e w' ⟨rfl, rfl⟩) | (go_at_call 122; refine (C _ (unhide H)).mono ?_; intro e w1 hp; obtain ⟨rfl, hb⟩ := hp.ok hk; have B1 := hide ((unhide B0).below hb); have HB1 := hide ((unhide HB).trans (hb.mono (by simp))); obtain ⟨c1, f1, y1⟩ := unhide B1; clear hb))
          have BF := hide ((unhide B1).set4 rfl (.int .i64 (T.frm : Int)) (.int .i64 (T.to : Int)) (.string (kindB T)) (.string T.text))
          obtain ⟨cF, fF, zF⟩ := unhide BF
          exact bodyPost_ret (v := ptokV T) (by simp [results, Tryz.results76, go_sem, cF, ptokV]) rfl ⟨(unhide HB1).set4 (Nat.le_refl _) _ _ _ _, Or.inl ⟨hk, rfl⟩⟩
    case false =>
    have a1 : Pu.lowB (Pu.at_ s j) = false := by rw [hat]; exact h1
    cases h2 : Pu.upB s[j].toNat
    case true =>
        have hle2 := Pu.endTo_le (s := s) Pu.nameB (i := j) (by omega)
        have hge2 := Pu.endTo_ge s Pu.nameB j
        rw [tokAt_up a1 (by rw [hat]; exact h2)]
        clear hat a1
        go_enter Tryz.func76, Tryz.ntmps76
        go_wp2_with (first | (go_at_call 119; with_reducible refine (E _).mono ?_; rintro e w' ⟨rfl, rfl⟩) | (go_at_call 119; with_reducible refine (endName_any s j _ hs (by omega)).mono ?_; rintro e w' ⟨rfl, rfl⟩) | (go_at_call 119; with_reducible refine (E _).mono ?_; rintro e w' ⟨rfl, rfl⟩) | (go_at_call 121; refine (pLow_any _ _).mono ?_; rintro e w' ⟨rfl, rfl⟩) | (go_at_call 123; refine (pUp_any _ _).mono ?_; rintro e w' ⟨rfl, rfl⟩) | (go_at_call 126; refine (pDig_any _ _).mono ?_; rintro e w' ⟨rfl, rfl⟩) | (go_at_call 124; refine (cut_C s j _ _ hge2 hle2 hs).mono ?_; rintro e w1 ⟨rfl, hb⟩; have B1 := hide ((unhide B0).below hb); have HB1 := hide ((unhide HB).trans (hb.mono (by simp))); obtain ⟨c1, f1, y1⟩ := unhide B1; clear hb))
        have BF := hide ((unhide B1).set4 rfl (.int .i64 (j : Int)) (.int .i64 ((Pu.endTo s Pu.nameB j : Nat) : Int)) (.string ⟨#[117, 112, 32, 110, 97, 109, 101]⟩) (.string (s.extract j (Pu.endTo s Pu.nameB j))))
        obtain ⟨cF, fF, zF⟩ := unhide BF
        exact bodyPost_ret (v := ptokV (Pu.mkT s j 2 (Pu.endTo s Pu.nameB j))) (by simp [results, Tryz.results76, go_sem, cF, ptokV, Pu.mkT, kindB]) rfl ⟨(unhide HB1).set4 (Nat.le_refl _) _ _ _ _, Or.inl ⟨by simp [Pu.mkT], rfl⟩⟩
    case false =>
    have a2 : Pu.upB (Pu.at_ s j) = false := by rw [hat]; exact h2
    cases h3 : Pu.digB s[j].toNat
    case true =>
      · have a3 : Pu.digB (Pu.at_ s j) = true := by rw [hat]; exact h3
        obtain ⟨T, hT⟩ : ∃ T, T = Pu.tokAt s j := ⟨_, rfl⟩
        have C : ∀ W, Laid W → Calls Tryz.prog 127 #[.string s, .int .i64 (j : Int)] W (TokPost T W) := fun W hW => by rw [hT, tokAt_dig hj a3]; exact number_C s j hj hs
        rw [← hT]
        clear hT hat
        by_cases hk : T.kind = 6
        · go_enter Tryz.func76, Tryz.ntmps76
          go_wp2_with (first | (go_at_call 119; with_reducible refine (E _).mono ?_; rintro e w' ⟨rfl, rfl⟩) | (go_at_call 121; refine (pLow_any _ _).mono ?_; rintro e w' ⟨rfl, rfl⟩) | (go_at_call 123; refine (pUp_any _ _).mono ?_; rintro e w' ⟨rfl, rfl⟩) | (go_at_call 126; refine (pDig_any _ _).mono ?_; rintro e w' ⟨rfl, rfl⟩) | (go_at_call 127; refine (C _ (unhide H)).mono ?_; intro e w1 hp; obtain ⟨rfl, hb⟩ := hp.bad hk; have HB1 := hide ((unhide HB).trans (hb.mono (by simp))); clear hb))
          exact ⟨rfl, unhide HB1, Or.inr ⟨hk, rfl⟩⟩
        · go_enter Tryz.func76, Tryz.ntmps76
          go_wp2_with (first | (go_at_call 119; with_reducible refine (E _).mono ?_; rintro e w' ⟨rfl, rfl⟩) | (go_at_call 121; refine (pLow_any _ _).mono ?_; rintro e w' ⟨rfl, rfl⟩) | (go_at_call 123; refine (pUp_any _ _).mono ?_; rintro e w' ⟨rfl, rfl⟩) | (go_at_call 126; refine (pDig_any _ _).mono ?_; rintro e w' ⟨rfl, rfl⟩) | (go_at_call 127; refine (C _ (unhide H)).mono ?_; intro e w1 hp; obtain ⟨rfl, hb⟩ := hp.ok hk; have B1 := hide ((unhide B0).below hb); have HB1 := hide ((unhide HB).trans (hb.mono (by simp))); obtain ⟨c1, f1, y1⟩ := unhide B1; clear hb))
          have BF := hide ((unhide B1).set4 rfl (.int .i64 (T.frm : Int)) (.int .i64 (T.to : Int)) (.string (kindB T)) (.string T.text))
          obtain ⟨cF, fF, zF⟩ := unhide BF
          exact bodyPost_ret (v := ptokV T) (by simp [results, Tryz.results76, go_sem, cF, ptokV]) rfl ⟨(unhide HB1).set4 (Nat.le_refl _) _ _ _ _, Or.inl ⟨hk, rfl⟩⟩
    case false =>
    have a3 : Pu.digB (Pu.at_ s j) = false := by rw [hat]; exact h3
    by_cases h4 : s[j].toNat = 39
    · have a4 : Pu.at_ s j = 39 := by rw [hat]; exact h4
      have e4 : ((s[j].toNat : Int) == 39) = true := by simp; omega
      obtain ⟨T, hT⟩ : ∃ T, T = Pu.tokAt s j := ⟨_, rfl⟩
      have C : ∀ W, Laid W → Calls Tryz.prog 128 #[.string s, .int .i64 (j : Int)] W (TokPost T W) := fun W hW => by rw [hT, tokAt_var a4]; exact var_C hW s j hj hs
      rw [← hT]
      clear hT hat
      by_cases hk : T.kind = 6
      · go_enter Tryz.func76, Tryz.ntmps76
        go_wp2_with (first | (go_at_call 119; with_reducible refine (E _).mono ?_; rintro e w' ⟨rfl, rfl⟩) | (go_at_call 121; refine (pLow_any _ _).mono ?_; rintro e w' ⟨rfl, rfl⟩) | (go_at_call 123; refine (pUp_any _ _).mono ?_; rintro e w' ⟨rfl, rfl⟩) | (go_at_call 126; refine (pDig_any _ _).mono ?_; rintro e w' ⟨rfl, rfl⟩) | (go_at_call 128; refine (C _ (unhide H)).mono ?_; intro e w1 hp; obtain ⟨rfl, hb⟩ := hp.bad hk; have HB1 := hide ((unhide HB).trans (hb.mono (by simp))); clear hb))
        exact ⟨rfl, unhide HB1, Or.inr ⟨hk, rfl⟩⟩
      · go_enter Tryz.func76, Tryz.ntmps76
        go_wp2_with (first | (go_at_call 119; with_reducible refine (E _).mono ?_; rintro e w' ⟨rfl, rfl⟩) | (go_at_call 121; refine (pLow_any _ _).mono ?_; rintro e w' ⟨rfl, rfl⟩) | (go_at_call 123; refine (pUp_any _ _).mono ?_; rintro e w' ⟨rfl, rfl⟩) | (go_at_call 126; refine (pDig_any _ _).mono ?_; rintro e w' ⟨rfl, rfl⟩) | (go_at_call 128; refine (C _ (unhide H)).mono ?_; intro e w1 hp; obtain ⟨rfl, hb⟩ := hp.ok hk; have B1 := hide ((unhide B0).below hb); have HB1 := hide ((unhide HB).trans (hb.mono (by simp))); obtain ⟨c1, f1, y1⟩ := unhide B1; clear hb))
        have BF := hide ((unhide B1).set4 rfl (.int .i64 (T.frm : Int)) (.int .i64 (T.to : Int)) (.string (kindB T)) (.string T.text))
        obtain ⟨cF, fF, zF⟩ := unhide BF
        exact bodyPost_ret (v := ptokV T) (by simp [results, Tryz.results76, go_sem, cF, ptokV]) rfl ⟨(unhide HB1).set4 (Nat.le_refl _) _ _ _ _, Or.inl ⟨hk, rfl⟩⟩
    · have a4 : Pu.at_ s j ≠ 39 := by rw [hat]; exact h4
      have e4 : ((s[j].toNat : Int) == 39) = false := by simp; omega
      obtain ⟨T, hT⟩ : ∃ T, T = Pu.tokAt s j := ⟨_, rfl⟩
      have C : ∀ W, Laid W → Calls Tryz.prog 129 #[.string s, .int .i64 (j : Int)] W (TokPost T W) := fun W hW => by rw [hT, tokAt_sgn a1 a2 a3 a4]; exact sign_C hW s j hj hs
      rw [← hT]
      clear hT hat
      by_cases hk : T.kind = 6
      · go_enter Tryz.func76, Tryz.ntmps76
        go_wp2_with (first | (go_at_call 119; with_reducible refine (E _).mono ?_; rintro e w' ⟨rfl, rfl⟩) | (go_at_call 121; refine (pLow_any _ _).mono ?_; rintro e w' ⟨rfl, rfl⟩) | (go_at_call 123; refine (pUp_any _ _).mono ?_; rintro e w' ⟨rfl, rfl⟩) | (go_at_call 126; refine (pDig_any _ _).mono ?_; rintro e w' ⟨rfl, rfl⟩) | (go_at_call 129; refine (C _ (unhide H)).mono ?_; intro e w1 hp; obtain ⟨rfl, hb⟩ := hp.bad hk; have HB1 := hide ((unhide HB).trans (hb.mono (by simp))); clear hb))
        exact ⟨rfl, unhide HB1, Or.inr ⟨hk, rfl⟩⟩
      · go_enter Tryz.func76, Tryz.ntmps76
        go_wp2_with (first | (go_at_call 119; with_reducible refine (E _).mono ?_; rintro e w' ⟨rfl, rfl⟩) | (go_at_call 121; refine (pLow_any _ _).mono ?_; rintro e w' ⟨rfl, rfl⟩) | (go_at_call 123; refine (pUp_any _ _).mono ?_; rintro e w' ⟨rfl, rfl⟩) | (go_at_call 126; refine (pDig_any _ _).mono ?_; rintro e w' ⟨rfl, rfl⟩) | (go_at_call 129; refine (C _ (unhide H)).mono ?_; intro e w1 hp; obtain ⟨rfl, hb⟩ := hp.ok hk; have B1 := hide ((unhide B0).below hb); have HB1 := hide ((unhide HB).trans (hb.mono (by simp))); obtain ⟨c1, f1, y1⟩ := unhide B1; clear hb))
        have BF := hide ((unhide B1).set4 rfl (.int .i64 (T.frm : Int)) (.int .i64 (T.to : Int)) (.string (kindB T)) (.string T.text))
        obtain ⟨cF, fF, zF⟩ := unhide BF
        exact bodyPost_ret (v := ptokV T) (by simp [results, Tryz.results76, go_sem, cF, ptokV]) rfl ⟨(unhide HB1).set4 (Nat.le_refl _) _ _ _ _, Or.inl ⟨hk, rfl⟩⟩
  · have he : ((j : Int) == (s.size : Int)) = true := by simp; omega
    have hjs : j = s.size := by omega
    rw [if_neg hj]
    obtain ⟨c1, f1, y1⟩ := unhide B0
    go_enter Tryz.func76, Tryz.ntmps76
    go_wp2_with (first | (go_at_call 119; with_reducible refine (E _).mono ?_; rintro e w' ⟨rfl, rfl⟩) | (go_at_call 121; refine (pLow_any _ _).mono ?_; rintro e w' ⟨rfl, rfl⟩) | (go_at_call 123; refine (pUp_any _ _).mono ?_; rintro e w' ⟨rfl, rfl⟩) | (go_at_call 126; refine (pDig_any _ _).mono ?_; rintro e w' ⟨rfl, rfl⟩))
    have BF := hide (Bx.new w #[.int .i64 (j : Int), .int .i64 (j : Int), .string ⟨#[116, 104, 101, 32, 101, 110, 100]⟩, .string ⟨#[]⟩] 108)
    obtain ⟨cF, fF, zF⟩ := unhide BF
    subst hjs
    exact bodyPost_ret (v := ptokV (Pu.endTok s)) (by simp [results, Tryz.results76, go_sem, cF, ptokV, Pu.endTok, kindB]) rfl ⟨(Below.refl w.heap.size w).alloc (Nat.le_refl _) _, Or.inl ⟨by simp [Pu.endTok], rfl⟩⟩
end
end Go.Proofs.YteneoapickhpdaaGreatDoor
namespace Go.Proofs.YteneoapickhpdaaGreatDoor
open Go Go.RowKit

theorem toList_injA {a b : ByteArray} (h : a.toList = b.toList) : a = b := by
  rw [ByteArray.toList_eq, ByteArray.toList_eq] at h
  exact ByteArray.ext (Array.toList_inj.1 h)
/-- What a token is, without its place. -/
abbrev Ky := Nat × List UInt8
def keyT (t : Pu.Tok) : Ky := (t.kind, t.text.toList)
abbrev yOpen : Ky := (5, [40])
abbrev yClose : Ky := (5, [41])
abbrev yComma : Ky := (5, [44])
abbrev yArrow : Ky := (5, [45, 62])
mutual
/-- A part without its places. -/
def er : Nd → Nd
  | .mk k s _ L _ _ _ => .mk k s 0 (erL L) 0 0 0
def erL : List Nd → List Nd
  | [] => []
  | x :: l => er x :: erL l
end
theorem erL_app : ∀ l m, erL (l ++ m) = erL l ++ erL m
  | [], m => rfl
  | x :: l, m => by simp [erL, erL_app l m]
def sVar (s : ByteArray) : Nd := .mk 16 s 0 [] 0 0 0
def sUp (s : ByteArray) (l : List Nd) : Nd := .mk 2 s 0 l 0 0 0
def sPair (x y : Nd) : Nd := .mk 6 kNo 0 [x, y] 0 0 0
def sFn (x y : Nd) : Nd := .mk 17 kNo 0 [x, y] 0 0 0
/-- What is read as a type: 0 a small part, 3 a name with some parts, 1 what may stand ahead of an arrow, 2 a type. -/
inductive Gr : Nat → List Ky → Nd → Prop where
  | var (s : ByteArray) : Gr 0 [(3, s.toList)] (sVar s)
  | up0 (s : ByteArray) : Gr 0 [(2, s.toList)] (sUp s [])
  | par {p : List Ky} {t : Nd} : Gr 2 p t → Gr 0 (yOpen :: (p ++ [yClose])) t
  | pair {p q : List Ky} {t u : Nd} : Gr 2 p t → Gr 2 q u → Gr 0 (yOpen :: (p ++ (yComma :: (q ++ [yClose])))) (sPair t u)
  | up (s : ByteArray) : Gr 3 [(2, s.toList)] (sUp s [])
  | arg {p q : List Ky} {s : ByteArray} {l : List Nd} {u : Nd} : Gr 3 p (sUp s l) → Gr 0 q u → Gr 3 (p ++ q) (sUp s (l ++ [u]))
  | app {p : List Ky} {t : Nd} : Gr 3 p t → Gr 1 p t
  | small {p : List Ky} {t : Nd} : Gr 0 p t → (∀ x r, p = x :: r → x.1 ≠ 2) → Gr 1 p t
  | head {p : List Ky} {t : Nd} : Gr 1 p t → Gr 2 p t
  | arrow {p q : List Ky} {t u : Nd} : Gr 1 p t → Gr 2 q u → Gr 2 (p ++ (yArrow :: q)) (sFn t u)
theorem Gr.ne {v : Nat} {p : List Ky} {t : Nd} (h : Gr v p t) : 1 ≤ p.length := by
  induction h <;> simp_all <;> omega
/-- A small part may stand ahead of an arrow. -/
theorem Gr.up1 {p : List Ky} {t : Nd} (h : Gr 0 p t) : Gr 1 p t := by
  cases h with
  | var s => exact .small (.var s) (fun x r e => by cases e; simp)
  | up0 s => exact .app (.up s)
  | par h => exact .small (.par h) (fun x r e => by cases e; simp)
  | pair h k => exact .small (.pair h k) (fun x r e => by cases e; simp)
/-- These keys stand at a place. -/
def Sits (T : List Pu.Tok) (k : Nat) (p : List Ky) : Prop := ∀ i (h : i < p.length), keyT (tk T (k + i)) = p[i]
theorem Sits.left {T : List Pu.Tok} {k : Nat} {p q : List Ky} (h : Sits T k (p ++ q)) : Sits T k p := fun i hi => by
  have := h i (by simp; omega)
  rwa [List.getElem_append_left hi] at this
theorem Sits.right {T : List Pu.Tok} {k : Nat} {p q : List Ky} (h : Sits T k (p ++ q)) : Sits T (k + p.length) q := fun i hi => by
  have := h (p.length + i) (by simp; omega)
  rw [List.getElem_append_right (by omega)] at this
  simpa [Nat.add_assoc] using this
theorem Sits.hd {T : List Pu.Tok} {k : Nat} {x : Ky} {q : List Ky} (h : Sits T k (x :: q)) : keyT (tk T k) = x := h 0 (by simp)
theorem Sits.tl {T : List Pu.Tok} {k : Nat} {x : Ky} {q : List Ky} (h : Sits T k (x :: q)) : Sits T (k + 1) q := fun i hi => by
  have := h (i + 1) (by simp; omega)
  simpa [Nat.add_assoc, Nat.add_comm 1 i] using this
theorem isT_key {t : Pu.Tok} {l : List UInt8} : isT t ⟨l.toArray⟩ = (keyT t == (5, l)) := by
  rw [isT_mk]
  unfold keyT
  rfl
theorem begins_key (t : Pu.Tok) : beginsB t 1 = (keyT t == yOpen || (keyT t).1 == 3 || (keyT t).1 == 2) := by
  unfold beginsB
  rw [if_pos rfl, isT_key]
  have : (leafK t == 16 || leafK t == 2) = ((keyT t).1 == 3 || (keyT t).1 == 2) := by
    unfold leafK keyT
    simp only
    repeat' split
    all_goals simp_all
  rw [this, Bool.or_assoc]
/-- Nothing goes on here. -/
def Ends1 (T : List Pu.Tok) (k : Nat) : Prop := beginsB (tk T k) 1 = false
def Ends2 (T : List Pu.Tok) (k : Nat) : Prop := beginsB (tk T k) 1 = false ∧ isT (tk T k) kArrow = false
/-- What the reader makes of it. -/
def Reads (v : Nat) (p : List Ky) (t : Nd) : Prop := match v with
  | 0 => ∀ T k n, Sits T k p → p.length ≤ n + 1 → p.length ≤ T.length + 1 → ∃ nd, er nd = t ∧ smallM T (typM T n) (typM T n) 1 k = .ok (nd, k + p.length)
  | 3 => ∀ T k n f, Sits T k p → p.length ≤ n + 1 → p.length ≤ T.length + 1 → p.length ≤ f + 1 → ∃ nd f', er nd = t ∧ f + 1 ≤ f' + p.length ∧ bnd (smallM T (typM T n) (typM T n) 1) (headF T (smallM T (typM T n) (typM T n) 1) 1 f) k = headF T (smallM T (typM T n) (typM T n) 1) 1 f' nd (k + p.length)
  | 1 => ∀ T k n, Sits T k p → p.length ≤ n + 1 → p.length ≤ T.length + 1 → Ends1 T (k + p.length) → ∃ nd, er nd = t ∧ headM T (smallM T (typM T n) (typM T n) 1) 1 k = .ok (nd, k + p.length)
  | _ => ∀ T k n, Sits T k p → p.length ≤ n → p.length ≤ T.length + 1 → Ends2 T (k + p.length) → ∃ nd, er nd = t ∧ typM T n k = .ok (nd, k + p.length)
theorem headF_stopJ {T : List Pu.Tok} {small : M Nd} {f k : Nat} {x : Nd} (h : beginsB (tk T k) 1 = false) : headF T small 1 f x k = .ok (x, k) := by
  cases f with
  | zero => rfl
  | succ f => simp [headF, h]
theorem er_add (x y : Nd) (to : Nat) (s : ByteArray) (l : List Nd) (h : er x = sUp s l) : er (x.add y to) = sUp s (l ++ [er y]) := by
  obtain ⟨k, s', n, L, f, t, a⟩ := x
  simp only [er, sUp, Nd.mk.injEq] at h
  obtain ⟨rfl, rfl, _, rfl, _⟩ := h
  simp [Nd.add, er, erL_app, erL, sUp]
theorem Gr.begins {v : Nat} {p : List Ky} {t : Nd} (h : Gr v p t) : ∃ x r, p = x :: r ∧ (x == yOpen || x.1 == 3 || x.1 == 2) = true := by
  induction h with
  | var s => exact ⟨_, _, rfl, by simp⟩
  | up0 s => exact ⟨_, _, rfl, by simp⟩
  | par _ _ => exact ⟨_, _, rfl, by simp⟩
  | pair _ _ _ _ => exact ⟨_, _, rfl, by simp⟩
  | up s => exact ⟨_, _, rfl, by simp⟩
  | arg _ _ i _ => obtain ⟨x, r, rfl, hx⟩ := i; exact ⟨_, _, rfl, hx⟩
  | app _ i => exact i
  | small _ _ i => exact i
  | head _ i => exact i
  | arrow _ _ i _ => obtain ⟨x, r, rfl, hx⟩ := i; exact ⟨_, _, rfl, hx⟩
theorem Gr.first {p : List Ky} {t : Nd} (h : Gr 3 p t) : ∃ (s : List UInt8) (r : List Ky), p = (2, s) :: r := by
  generalize hv : 3 = v at h
  induction h with
  | up s => exact ⟨_, _, rfl⟩
  | arg _ _ i _ => obtain ⟨s, r, rfl⟩ := i hv; exact ⟨_, _, rfl⟩
  | _ => cases hv
theorem close_ok {T : List Pu.Tok} {k : Nat} (mk : Nat → Nd) (h : keyT (tk T k) = yClose) : closeM T mk k = .ok (mk (k + 1), k + 1) := by
  unfold closeM bnd wantM
  rw [isT_key, h]
  simp
theorem ends_sign {T : List Pu.Tok} {k : Nat} {l : List UInt8} (h : keyT (tk T k) = (5, l)) (h1 : l ≠ [40]) (h2 : l ≠ [45, 62]) : Ends2 T k := by
  constructor
  · rw [begins_key, h]; simp [h1]
  · rw [isT_key, h]; simp [h2]
set_option maxHeartbeats 1000000 in
theorem Gr.reads {v : Nat} {p : List Ky} {t : Nd} (h : Gr v p t) : Reads v p t := by
  induction h with
  | var s =>
    intro T k n hs _ _
    have h0 := hs.hd
    refine ⟨leafN (tk T k), ?_, ?_⟩
    · have e1 : (tk T k).kind = 3 := congrArg Prod.fst h0
      have e2 : (tk T k).text = s := toList_injA (congrArg Prod.snd h0)
      simp [leafN, leafK, e1, e2, er, erL, sVar]
    · unfold smallM
      rw [begins_key, isT_key, h0]
      simp
  | up0 s =>
    intro T k n hs _ _
    have h0 := hs.hd
    refine ⟨leafN (tk T k), ?_, ?_⟩
    · have e1 : (tk T k).kind = 2 := congrArg Prod.fst h0
      have e2 : (tk T k).text = s := toList_injA (congrArg Prod.snd h0)
      simp [leafN, leafK, e1, e2, er, erL, sUp]
    · unfold smallM
      rw [begins_key, isT_key, h0]
      simp
  | @par p t _ ih =>
    intro T k n hs hn hT
    have h0 := hs.hd
    have hp := hs.tl.left
    have hc := hs.tl.right.hd
    simp at hn hT
    obtain ⟨nd, e, hr⟩ := ih T (k + 1) n hp (by omega) (by omega) (ends_sign hc (by simp) (by simp))
    refine ⟨nd, e, ?_⟩
    have c1 : isT (tk T (k + 1 + p.length)) kComma = false := by rw [isT_key, hc]; rfl
    unfold smallM
    rw [begins_key, isT_key, h0]
    simp only [groupM, restM, bnd, hr, c1, close_ok _ hc]
    simp [Nat.add_assoc, Nat.add_comm 1]
  | @pair p q t u _ _ ih ih2 =>
    intro T k n hs hn hT
    have h0 := hs.hd
    have hp := hs.tl.left
    have hm := hs.tl.right.hd
    have hq := hs.tl.right.tl.left
    have hc := hs.tl.right.tl.right.hd
    simp at hn hT
    obtain ⟨nd, e, hr⟩ := ih T (k + 1) n hp (by omega) (by omega) (ends_sign hm (by simp) (by simp))
    obtain ⟨nd2, e2, hr2⟩ := ih2 T (k + 1 + p.length + 1) n hq (by omega) (by omega) (ends_sign hc (by simp) (by simp))
    have c1 : isT (tk T (k + 1 + p.length)) kComma = true := by rw [isT_key, hm]; rfl
    refine ⟨.mk 6 kNo 0 [nd, nd2] (tk T k).frm (lastK T (k + 1 + p.length + 1 + q.length + 1)) (tk T k).frm, by simp [er, erL, e, e2, sPair], ?_⟩
    unfold smallM
    rw [begins_key, isT_key, h0]
    simp only [groupM, restM, bnd, hr, c1, hr2, close_ok _ hc]
    simp
    omega
  | up s =>
    intro T k n f hs _ _ _
    have h0 := hs.hd
    refine ⟨leafN (tk T k), f, ?_, by simp, ?_⟩
    · have e1 : (tk T k).kind = 2 := congrArg Prod.fst h0
      have e2 : (tk T k).text = s := toList_injA (congrArg Prod.snd h0)
      simp [leafN, leafK, e1, e2, er, erL, sUp]
    · unfold bnd smallM
      rw [begins_key, isT_key, h0]
      simp
  | @arg p q s l u h1 h2 ih ih2 =>
    intro T k n f hs hn hT hf
    simp at hn hT hf
    have n2 := h2.ne
    obtain ⟨nd, f', e, hff, hr⟩ := ih T k n f hs.left (by omega) (by omega) (by omega)
    obtain ⟨nd2, e2, hr2⟩ := ih2 T (k + p.length) n hs.right (by omega) (by omega)
    obtain ⟨g, rfl⟩ : ∃ g, f' = g + 1 := ⟨f' - 1, by omega⟩
    obtain ⟨x, r, hx, hb⟩ := h2.begins
    have hs2 := hs.right
    rw [hx] at hs2
    have hb' : beginsB (tk T (k + p.length)) 1 = true := by rw [begins_key, hs2.hd]; exact hb
    refine ⟨nd.add nd2 (lastK T (k + p.length + q.length)), g, ?_, by simp; omega, ?_⟩
    · rw [er_add _ _ _ s l e, e2]
    · rw [hr]
      simp only [headF, hb', if_true, bnd, hr2]
      simp [Nat.add_assoc]
  | @app p t h1 ih =>
    intro T k n hs hn hT hE
    obtain ⟨nd, f', e, _, hr⟩ := ih T k n T.length hs hn hT hT
    obtain ⟨x, r, hx, hb⟩ := h1.begins
    refine ⟨nd, e, ?_⟩
    have h2 : (tk T k).kind = 2 := by
      obtain ⟨s, r', e3⟩ := h1.first
      rw [e3] at hs
      exact congrArg Prod.fst hs.hd
    unfold headM
    rw [h2]
    simp only [beq_self_eq_true, if_true]
    rw [hr]
    exact headF_stopJ hE
  | @small p t h1 hne ih =>
    intro T k n hs hn hT hE
    obtain ⟨nd, e, hr⟩ := ih T k n hs hn hT
    obtain ⟨x, r, hx, hb⟩ := h1.begins
    refine ⟨nd, e, ?_⟩
    have h2 : ((tk T k).kind == 2) = false := by
      rw [hx] at hs
      have h3 : (tk T k).kind = x.1 := congrArg Prod.fst hs.hd
      rw [h3]
      simpa using hne x r hx
    unfold headM
    rw [h2]
    exact hr
  | @head p t h1 ih =>
    intro T k n hs hn hT hE
    have n1 := h1.ne
    obtain ⟨m, rfl⟩ : ∃ m, n = m + 1 := ⟨n - 1, by omega⟩
    obtain ⟨nd, e, hr⟩ := ih T k m hs hn hT hE.1
    refine ⟨nd, e, ?_⟩
    simp only [typM, bnd, hr, arrowM, hE.2]
    simp
  | @arrow p q t u h1 h2 ih ih2 =>
    intro T k n hs hn hT hE
    have n1 := h1.ne
    simp at hn hT hE
    obtain ⟨m, rfl⟩ : ∃ m, n = m + 1 := ⟨n - 1, by omega⟩
    have ha := hs.right.hd
    have hq := hs.right.tl
    have c0 : Ends1 T (k + p.length) := by unfold Ends1; rw [begins_key, ha]; rfl
    have c1 : isT (tk T (k + p.length)) kArrow = true := by rw [isT_key, ha]; rfl
    obtain ⟨nd, e, hr⟩ := ih T k m hs.left (by omega) (by omega) c0
    obtain ⟨nd2, e2, hr2⟩ := ih2 T (k + p.length + 1) m hq (by omega) (by omega) (by simpa [Nat.add_assoc, Nat.add_comm 1] using hE)
    refine ⟨.mk 17 kNo 0 [nd, nd2] (tk T k).frm (lastK T (k + p.length + 1 + q.length)) (tk T k).frm, by simp [er, erL, e, e2, sFn], ?_⟩
    simp only [typM, bnd, hr, arrowM, c1, if_true, hr2]
    simp
    omega
end Go.Proofs.YteneoapickhpdaaGreatDoor
