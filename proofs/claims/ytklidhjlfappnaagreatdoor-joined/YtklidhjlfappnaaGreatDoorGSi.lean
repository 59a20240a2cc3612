import Derived.Test.YtklidhjlfappnaaGreatDoorGSh0
set_option linter.unusedSimpArgs false
set_option linter.unusedVariables false
set_option linter.unusedSectionVars false
namespace Go.Proofs.YtklidhjlfappnaaGreatDoor
open Go Go.RowKit
section
variable {rb g cap : Nat} {T : List Pu.Tok} {σ : St} {w : World}

theorem head_C {n : Nat} {small : M Nd} (sort : Nat) (hs : sort = 1 ∨ sort = 2 ∨ sort = 3) (HS : NodeC rb g cap T 241 #[.pointer (some ⟨rb, 0, none⟩), .int .i64 (sort : Int)] small n)
    (hm : ∀ k a k', small k = .ok (a, k') → k < k') (hsm : ∀ k, (tk T k).kind = 2 → small k = .ok (leafN (tk T k), k + 1)) :
    NodeC rb g cap T 154 #[.pointer (some ⟨rb, 0, none⟩), .int .i64 (sort : Int)] (headM T small sort) n := by
  intro w σ h hf
  rcases hu : ofS T σ 2 with _ | _
  · refine (head_plain h sort hf HS hu).mono ?_
    rintro e w' ⟨x, he, hK, hS, hN⟩
    have hE : ∀ k, σ = .ok k → headM T small sort k = small k := by
      intro k hk
      subst hk
      have : (tk T k).kind ≠ 2 := by simpa [ofS] using hu
      unfold headM
      rw [if_neg (by simpa using this)]
    refine ⟨x, he, hK, ?_, fun k a k' hk hq => hN k a k' hk (by rw [← hE k hk]; exact hq)⟩
    cases σ with
    | error f => exact hS
    | ok k => simp only [nx, hE k rfl]; exact hS
  · obtain ⟨k, rfl, hk⟩ := ofS_yes hu
    have hE : headM T small sort k = headF T small sort T.length (leafN (tk T k)) (k + 1) := by
      unfold headM
      rw [if_pos (by simp [hk]), bnd_ok (hsm k hk)]
    refine (head_up h sort hs (hf k rfl) HS hk hm (hsm k hk)).mono ?_
    rintro e w' ⟨x, he, hK, hS, hN⟩
    refine ⟨x, he, hK, ?_, fun j a k' hj hq => ?_⟩
    · simp only [nx, hE] at hS ⊢; exact hS
    · cases hj; exact hN a k' (by rw [← hE]; exact hq)

theorem want_mono (s : ByteArray) : ∀ k a k', wantM T s k = .ok (a, k') → k' = k + 1 := by
  intro k a k' h
  unfold wantM at h
  split at h
  · cases h; rfl
  · cases h
theorem name_mono (n : Nat) : ∀ k a k', nameM T n k = .ok (a, k') → k' = k + 1 := by
  intro k a k' h
  unfold nameM at h
  split at h
  · cases h; rfl
  · cases h
theorem bnd_inv {α β : Type} {m : M α} {f : α → M β} {k k' : Nat} {b : β} (h : bnd m f k = .ok (b, k')) : ∃ a k1, m k = .ok (a, k1) ∧ f a k1 = .ok (b, k') := by
  unfold bnd at h
  split at h
  · cases h
  · next a k1 hm => exact ⟨a, k1, hm, h⟩
theorem close_mono {mk : Nat → Nd} {k k' : Nat} {a : Nd} (h : closeM T mk k = .ok (a, k')) : k < k' := by
  obtain ⟨_, k1, h1, h2⟩ := bnd_inv h
  have := want_mono _ _ _ _ h1
  cases h2
  omega
theorem small_mono {part typ : M Nd} (hp : Mono part) (ht : Mono typ) (sort : Nat) : ∀ k a k', smallM T part typ sort k = .ok (a, k') → k < k' := by
  intro k a k' h
  unfold smallM at h
  split at h
  · split at h
    · unfold groupM at h
      split at h
      · cases h; omega
      · obtain ⟨a1, k1, h1, h2⟩ := bnd_inv h
        have m1 := hp _ _ _ h1
        unfold restM at h2
        split at h2
        · obtain ⟨b, k3, h3, h4⟩ := bnd_inv h2
          have := hp _ _ _ h3
          have := close_mono h4
          omega
        · split at h2
          · obtain ⟨b, k3, h3, h4⟩ := bnd_inv h2
            have := ht _ _ _ h3
            have := close_mono h4
            omega
          · have := close_mono h2
            omega
    · cases h; omega
  · cases h
theorem small_up {part typ : M Nd} (sort : Nat) : ∀ k, (tk T k).kind = 2 → smallM T part typ sort k = .ok (leafN (tk T k), k + 1) := by
  intro k hk
  have h1 : isT (tk T k) kOpen = false := by simp [isT, hk]
  have h2 : beginsB (tk T k) sort = true := by
    unfold beginsB leafK
    simp [hk]
  unfold smallM
  rw [h1, h2]
  rfl
theorem headF_mono {small : M Nd} (hm : ∀ k a k', small k = .ok (a, k') → k < k') (sort : Nat) : ∀ f x k a k', headF T small sort f x k = .ok (a, k') → k ≤ k' := by
  intro f
  induction f with
  | zero => intro x k a k' h; cases h; omega
  | succ f ih =>
    intro x k a k' h
    unfold headF at h
    split at h
    · obtain ⟨y, k1, h1, h2⟩ := bnd_inv h
      have := hm _ _ _ h1
      have := ih _ _ _ _ h2
      omega
    · cases h; omega
theorem head_mono {small : M Nd} (hm : ∀ k a k', small k = .ok (a, k') → k < k') (sort : Nat) : ∀ k a k', headM T small sort k = .ok (a, k') → k < k' := by
  intro k a k' h
  unfold headM at h
  split at h
  · obtain ⟨y, k1, h1, h2⟩ := bnd_inv h
    have := hm _ _ _ h1
    have := headF_mono hm sort _ _ _ _ _ h2
    omega
  · exact hm _ _ _ h
theorem wrong_mono {α : Type} : Mono (wrongM (α := α) T) := by
  intro k a k' h
  cases h
theorem typ_mono : ∀ n, Mono (typM T n) := by
  intro n
  induction n with
  | zero => exact wrong_mono
  | succ n ih =>
    intro k a k' h
    unfold typM at h
    obtain ⟨y, k1, h1, h2⟩ := bnd_inv h
    have := head_mono (small_mono ih ih 1) 1 _ _ _ h1
    unfold arrowM at h2
    split at h2
    · obtain ⟨z, k3, h3, h4⟩ := bnd_inv h2
      have := ih _ _ _ h3
      cases h4
      omega
    · cases h2; omega
theorem pat_mono : ∀ n, Mono (patM T n) := by
  intro n
  induction n with
  | zero => exact wrong_mono
  | succ n ih =>
    intro k a k' h
    have := head_mono (small_mono ih wrong_mono 2) 2 k a k' h
    omega
end
end Go.Proofs.YtklidhjlfappnaaGreatDoor
