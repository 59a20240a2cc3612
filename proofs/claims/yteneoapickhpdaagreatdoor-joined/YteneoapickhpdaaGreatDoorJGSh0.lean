import Derived.BigRegion
import Derived.Deep.RegionWith
import Derived.Maps.AppendAt
import Derived.Test.YteneoapickhpdaaGreatDoorJGSa
import Derived.Test.YteneoapickhpdaaGreatDoorJGSg
set_option linter.unusedSimpArgs false
set_option linter.unusedVariables false
set_option linter.unusedSectionVars false
namespace Go.Proofs.YteneoapickhpdaaGreatDoor
open Go Go.RowKit

theorem own_ke {rb : Nat} {w w' : World} {base : Nat} {e : TypeId} {size : Nat} {v : Value} {n : Nat} {xs : List Value} (h : w.ownsRow base e size v n xs) (hb : Ke rb w w') (hr : rb < base) : w'.ownsRow base e size v n xs := by
  obtain ⟨h1, h2⟩ := h
  refine ⟨h1, ?_⟩
  rcases h2 with h2 | ⟨q, cap, cur, hv, hg, hh, r⟩
  · exact Or.inl h2
  · refine Or.inr ⟨q, cap, cur, hv, hg, ?_, r⟩
    rw [hb.block q (Array.getElem?_eq_some_iff.1 hh).1 (by omega), hh]
section
variable {W w3 : World} {row : Option Nat} (hg : W.grownBy w3 row)
include hg
theorem RS.grown {rb g cap : Nat} {T : List Pu.Tok} {k : Nat} {f : Fl} (h : RS W rb g cap T k f) (hr : ∀ j, row = some j → j ≠ rb ∧ j ≠ g) : RS w3 rb g cap T k f :=
  h.same hg.size (hg.block rb h.hr (fun e => (hr rb e.symm).1 rfl)) (hg.block g h.hg (fun e => (hr g e.symm).2 rfl))
theorem SS.grown {rb g cap : Nat} {T : List Pu.Tok} {σ : St} (h : SS W rb g cap T σ) (hr : ∀ j, row = some j → j ≠ rb ∧ j ≠ g) : SS w3 rb g cap T σ :=
  h.same hg.size (hg.block rb h.hr (fun e => (hr rb e.symm).1 rfl)) (hg.block g h.hg (fun e => (hr g e.symm).2 rfl))
theorem Bx.grown {b : Nat} {C : Array Value} (h : Bx W b C) (hr : ∀ j, row = some j → j ≠ b) : Bx w3 b C := h.same hg.size (hg.block b h.z (fun e => hr b e.symm rfl))
theorem NR.grown {P : Nat → Prop} {nd : Nd} {x : NV} (h : NR W P nd x) (hr : ∀ j b, row = some j → P b → j ≠ b) : NR w3 P nd x :=
  h.move hg.size (fun b p hz => hg.block b hz (fun e => hr b b e.symm p rfl)) (fun _ p _ => p)
theorem Ke.grown {rb : Nat} {a : World} (h : Ke rb a W) (hr : ∀ j, row = some j → a.heap.size ≤ j) : Ke rb a w3 :=
  ⟨hg.os.trans h.os, hg.tape.trans h.tape, hg.output.trans h.output, Nat.le_trans h.size hg.size, fun k hk hn => (hg.block k (Nat.lt_of_lt_of_le hk h.size) (fun e => by have := hr k e.symm; omega)).trans (h.block k hk hn)⟩
end
theorem own_some {w : World} {base : Nat} {e : TypeId} {size : Nat} {v : Value} {n : Nat} {xs : List Value} (h : w.ownsRow base e size v n xs) (hn : 0 < n) : ∃ q c, v = .slice (some ⟨q, 0, none⟩) n c := by
  obtain ⟨_, h2⟩ := h
  rcases h2 with ⟨_, h0⟩ | ⟨q, c, _, hv, _⟩
  · omega
  · exact ⟨q, c, hv⟩
end Go.Proofs.YteneoapickhpdaaGreatDoor
namespace Go.Proofs.YteneoapickhpdaaGreatDoor
open Go Go.RowKit
section
variable {rb g cap : Nat} {T : List Pu.Tok} {σ : St} {w : World}

end
end Go.Proofs.YteneoapickhpdaaGreatDoor
namespace Go.Proofs.YteneoapickhpdaaGreatDoor
open Go Go.RowKit
section
variable {rb g cap : Nat} {T : List Pu.Tok} {σ : St} {w : World}

theorem want_mono (s : ByteArray) : ∀ k a k', wantM T s k = .ok (a, k') → k' = k + 1 := by
  intro k a k' h
  unfold wantM at h
  split at h
  · cases h; rfl
  · cases h
theorem bnd_inv {α β : Type} {m : M α} {f : α → M β} {k k' : Nat} {b : β} (h : bnd m f k = .ok (b, k')) : ∃ a k1, m k = .ok (a, k1) ∧ f a k1 = .ok (b, k') := by
  unfold bnd at h
  split at h
  · cases h
  · next a k1 hm => exact ⟨a, k1, hm, h⟩
theorem close_mono {mk : Nat → Nd} {k k' : Nat} {a : Nd} (h : closeM T mk k = .ok (a, k')) : k < k' := by
  obtain ⟨_, k1, h1, h2⟩ := bnd_inv h
  have := want_mono _ _ _ _ h1
  cases h2
  omega
theorem small_mono {part typ : M Nd} (hp : Mono part) (ht : Mono typ) (sort : Nat) : ∀ k a k', smallM T part typ sort k = .ok (a, k') → k < k' := by
  intro k a k' h
  unfold smallM at h
  split at h
  · split at h
    · unfold groupM at h
      split at h
      · cases h; omega
      · obtain ⟨a1, k1, h1, h2⟩ := bnd_inv h
        have m1 := hp _ _ _ h1
        unfold restM at h2
        split at h2
        · obtain ⟨b, k3, h3, h4⟩ := bnd_inv h2
          have := hp _ _ _ h3
          have := close_mono h4
          omega
        · split at h2
          · obtain ⟨b, k3, h3, h4⟩ := bnd_inv h2
            have := ht _ _ _ h3
            have := close_mono h4
            omega
          · have := close_mono h2
            omega
    · cases h; omega
  · cases h
theorem headF_mono {small : M Nd} (hm : ∀ k a k', small k = .ok (a, k') → k < k') (sort : Nat) : ∀ f x k a k', headF T small sort f x k = .ok (a, k') → k ≤ k' := by
  intro f
  induction f with
  | zero => intro x k a k' h; cases h; omega
  | succ f ih =>
    intro x k a k' h
    unfold headF at h
    split at h
    · obtain ⟨y, k1, h1, h2⟩ := bnd_inv h
      have := hm _ _ _ h1
      have := ih _ _ _ _ h2
      omega
    · cases h; omega
theorem head_mono {small : M Nd} (hm : ∀ k a k', small k = .ok (a, k') → k < k') (sort : Nat) : ∀ k a k', headM T small sort k = .ok (a, k') → k < k' := by
  intro k a k' h
  unfold headM at h
  split at h
  · obtain ⟨y, k1, h1, h2⟩ := bnd_inv h
    have := hm _ _ _ h1
    have := headF_mono hm sort _ _ _ _ _ h2
    omega
  · exact hm _ _ _ h
theorem wrong_mono {α : Type} : Mono (wrongM (α := α) T) := by
  intro k a k' h
  cases h
theorem typ_mono : ∀ n, Mono (typM T n) := by
  intro n
  induction n with
  | zero => exact wrong_mono
  | succ n ih =>
    intro k a k' h
    unfold typM at h
    obtain ⟨y, k1, h1, h2⟩ := bnd_inv h
    have := head_mono (small_mono ih ih 1) 1 _ _ _ h1
    unfold arrowM at h2
    split at h2
    · obtain ⟨z, k3, h3, h4⟩ := bnd_inv h2
      have := ih _ _ _ h3
      cases h4
      omega
    · cases h2; omega
end
end Go.Proofs.YteneoapickhpdaaGreatDoor
namespace Go.Proofs.YteneoapickhpdaaGreatDoor
open Go Go.RowKit Un

theorem own_same {w w' : World} {base : Nat} {e : TypeId} {size : Nat} {v : Value} {n : Nat} {xs : List Value} (h : w.ownsRow base e size v n xs) (hb : ∀ g, v.ownBlock = some g → w'.heap[g]? = w.heap[g]?) : w'.ownsRow base e size v n xs := by
  obtain ⟨h1, h2⟩ := h
  refine ⟨h1, ?_⟩
  rcases h2 with h2 | ⟨g, cap, cur, hv, hg, hh, r⟩
  · exact Or.inl h2
  · exact Or.inr ⟨g, cap, cur, hv, hg, by rw [hb g (by rw [hv]; rfl)]; exact hh, r⟩
/-- Nothing old has turned but the blocks of S. -/
structure Fr (S : Nat → Prop) (w w' : World) : Prop where
  os : w'.os = w.os
  tape : w'.tape = w.tape
  output : w'.output = w.output
  size : w.heap.size ≤ w'.heap.size
  block : ∀ k, k < w.heap.size → ¬ S k → w'.heap[k]? = w.heap[k]?
theorem Fr.refl (S : Nat → Prop) (w : World) : Fr S w w := ⟨rfl, rfl, rfl, Nat.le_refl _, fun _ _ _ => rfl⟩
theorem Fr.of {S : Nat → Prop} {w w' : World} (h : Below w.heap.size w w') : Fr S w w' := ⟨h.os, h.tape, h.output, h.size, fun k hk _ => h.block k hk⟩
theorem Fr.trans {S : Nat → Prop} {a b c : World} (h : Fr S a b) (k : Fr S b c) : Fr S a c :=
  ⟨k.os.trans h.os, k.tape.trans h.tape, k.output.trans h.output, Nat.le_trans h.size k.size, fun i hi hn => (k.block i (Nat.lt_of_lt_of_le hi h.size) hn).trans (h.block i hi hn)⟩
theorem Fr.low {S : Nat → Prop} {a b c : World} (h : Fr S a b) (k : Below a.heap.size b c) : Fr S a c :=
  ⟨k.os.trans h.os, k.tape.trans h.tape, k.output.trans h.output, Nat.le_trans h.size k.size, fun i hi hn => (k.block i hi).trans (h.block i hi hn)⟩
theorem Fr.set {S : Nat → Prop} {a w : World} (h : Fr S a w) {b : Nat} (hb : S b ∨ a.heap.size ≤ b) (j : Nat) (u : Value) : Fr S a (w.setCell ⟨b, j, none⟩ u) :=
  ⟨h.os, h.tape, h.output, by simpa [World.setCell] using h.size, fun k hk hn => by
    rw [Below.heap_setCell _ _ _ _ (by show k ≠ b; rintro rfl; rcases hb with hb | hb; exact hn hb; omega)]; exact h.block k hk hn⟩
theorem Fr.drewN {S : Nat → Prop} {a w : World} (h : Fr S a w) (n : Nat) : Fr S a (w.drewN n) := ⟨h.os, h.tape, h.output, h.size, h.block⟩
theorem Fr.drew {S : Nat → Prop} {a w : World} (h : Fr S a w) : Fr S a w.drew := ⟨h.os, h.tape, h.output, h.size, h.block⟩
theorem Bx.fr {S : Nat → Prop} {w w' : World} {b : Nat} {C : Array Value} (h : Bx w b C) (hb : Fr S w w') (hn : ¬ S b) : Bx w' b C := h.same hb.size (hb.block b h.z hn)

section
variable {w : World} {kb : Nat} {hv iv : Value} {N : Nat} {K : Nat → Option Ty} {P : Nat → Prop}
/-- The two rows of what is known. -/
def KB (hv iv : Value) (b : Nat) : Prop := hv.ownBlock = some b ∨ iv.ownBlock = some b
end

/-- How many variables are still open. -/
def opens (K : Nat → Option Ty) (N : Nat) : Nat := ((List.range N).filter fun i => (K (i + 1)).isNone).length
end Go.Proofs.YteneoapickhpdaaGreatDoor
namespace Go.Proofs.YteneoapickhpdaaGreatDoor
open Go Go.RowKit Un

section
variable {kb : Nat} {hv iv : Value} {N : Nat}

theorem toList_inj {a b : ByteArray} (h : a.toList = b.toList) : a = b := by
  rw [ByteArray.toList_eq, ByteArray.toList_eq] at h
  exact ByteArray.ext (Array.ext' h)
end
end Go.Proofs.YteneoapickhpdaaGreatDoor
