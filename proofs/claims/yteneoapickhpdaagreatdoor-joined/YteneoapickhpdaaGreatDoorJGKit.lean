import Derived.Test.YteneoapickhpdaaGreatDoorProg
import Derived.WalkKit
import Derived.WalkLawsBesides
import Derived.WalkSpells
import Derived.Test.YteneoapickhpdaaGreatDoorJGPure
set_option linter.unusedSimpArgs false
set_option linter.unusedVariables false
set_option linter.unusedSectionVars false
namespace Go.Proofs.YteneoapickhpdaaGreatDoor
open Go Go.RowKit

/-- The cells of a block that was just laid. -/
theorem cells_new (w : World) (C : List Value) (t : TypeId) : ∀ j u, C[j]? = some u → (w.alloc (.cells C.toArray t)).cell? ((⟨w.heap.size, 0, none⟩ : Addr).add j) = some u := by
  intro j u hj
  unfold Addr.add
  split
  · next h => subst h; simpa using hj
  · simpa using hj
/-- What is owned stays owned behind a call that turns nothing old. -/
theorem own_below {w w' : World} {base : Nat} {e : TypeId} {size : Nat} {v : Value} {n : Nat} {xs : List Value} (h : w.ownsRow base e size v n xs) (hb : Below w.heap.size w w') : w'.ownsRow base e size v n xs := by
  obtain ⟨h1, h2⟩ := h
  refine ⟨h1, ?_⟩
  rcases h2 with h2 | ⟨g, cap, cur, hv, hg, hh, r⟩
  · exact Or.inl h2
  · refine Or.inr ⟨g, cap, cur, hv, hg, ?_, r⟩
    have hlt : g < w.heap.size := by
      have := Array.getElem?_eq_some_iff.1 hh
      exact this.1
    rw [hb.block g hlt, hh]
end Go.Proofs.YteneoapickhpdaaGreatDoor
namespace Go.Proofs.YteneoapickhpdaaGreatDoor
open Go Go.RowKit

theorem lowB_iff (c : Nat) : Pu.lowB c = decide (97 ≤ (c : Int) ∧ (c : Int) ≤ 122) := by
  rw [Bool.eq_iff_iff]; simp [Pu.lowB]; omega
theorem upB_iff (c : Nat) : Pu.upB c = decide (65 ≤ (c : Int) ∧ (c : Int) ≤ 90) := by
  rw [Bool.eq_iff_iff]; simp [Pu.upB]; omega
theorem digB_iff (c : Nat) : Pu.digB c = decide (48 ≤ (c : Int) ∧ (c : Int) ≤ 57) := by
  rw [Bool.eq_iff_iff]; simp [Pu.digB]; omega
theorem hide {p : Prop} (h : p) : Hid p := h
theorem unhide {p : Prop} (h : Hid p) : p := h
theorem retBool {a b : Bool} (h : a = b) : Ending.returned (.bool a) = .returned (.bool b) := congrArg (fun x => Ending.returned (.bool x)) h
theorem retInt {k : IntKind} {a b : Int} (h : a = b) : Ending.returned (.int k a) = .returned (.int k b) := congrArg (fun x => Ending.returned (.int k x)) h

end Go.Proofs.YteneoapickhpdaaGreatDoor
namespace Go.Proofs.YteneoapickhpdaaGreatDoor
open Go Go.RowKit

theorem step_end {s : ByteArray} {p : Nat → Bool} {i j : Nat} {b : Bool} (hlt : j < s.size) (he : Hid (Pu.endTo s p i = Pu.endTo s p j)) (hb : p (Pu.at_ s j) = b) :
    Hid (Pu.endTo s p i = if b = true then Pu.endTo s p (j + 1) else j) := by
  cases b
  · show _ = _; rw [he.out, Pu.endTo_no hlt hb]; rfl
  · show _ = _; rw [he.out, Pu.endTo_yes hlt hb]; rfl

end Go.Proofs.YteneoapickhpdaaGreatDoor
namespace Go.Proofs.YteneoapickhpdaaGreatDoor
open Go Go.RowKit

end Go.Proofs.YteneoapickhpdaaGreatDoor
namespace Go.Proofs.YteneoapickhpdaaGreatDoor
open Go Go.RowKit

/-- A token as the value that the document's answer has of it. -/
def tokV (t : Pu.Tok) : Value := .agg #[.int .i64 (t.kind : Int), .string t.text, .int .i64 (t.frm : Int), .int .i64 (t.to : Int)]

/-- A cell of an old block reads as it did. -/
theorem oldCell {w u : World} (h : Below w.heap.size w u) (b o : Nat) (hb : b < w.heap.size) : u.cell? ⟨b, o, none⟩ = w.cell? ⟨b, o, none⟩ := World.cell?_of_block (a := ⟨b, o, none⟩) (h.block b hb)
/-- So does its mark. -/
theorem oldMark {w u : World} (h : Below w.heap.size w u) (b o : Nat) (hb : b < w.heap.size) : u.frozen? ⟨b, o, none⟩ = w.frozen? ⟨b, o, none⟩ := World.frozen?_of_block (a := ⟨b, o, none⟩) (h.block b hb)

end Go.Proofs.YteneoapickhpdaaGreatDoor
namespace Go.Proofs.YteneoapickhpdaaGreatDoor
open Go Go.RowKit

end Go.Proofs.YteneoapickhpdaaGreatDoor
namespace Go.Proofs.YteneoapickhpdaaGreatDoor
open Go Go.RowKit

end Go.Proofs.YteneoapickhpdaaGreatDoor
namespace Go.Proofs.YteneoapickhpdaaGreatDoor
open Go Go.RowKit

end Go.Proofs.YteneoapickhpdaaGreatDoor
namespace Go.Proofs.YteneoapickhpdaaGreatDoor
open Go Go.RowKit

theorem cells_at (w : World) (C : List Value) (t : TypeId) (b : Nat) (hb : b = w.heap.size) : ∀ j u, C[j]? = some u → (w.alloc (.cells C.toArray t)).cell? ((⟨b, 0, none⟩ : Addr).add j) = some u := by
  subst hb; exact cells_new w C t
theorem own_block {w : World} {base : Nat} {e : TypeId} {size : Nat} {v : Value} {n : Nat} {xs : List Value} (h : w.ownsRow base e size v n xs) : ∀ k, v.ownBlock = some k → base ≤ k ∧ k < w.heap.size := by
  intro k hk
  obtain ⟨h1, h2⟩ := h
  rcases h2 with ⟨rfl, _⟩ | ⟨g, cap, cur, rfl, hg, hh, r⟩
  · simp [Value.ownBlock] at hk
  · simp [Value.ownBlock] at hk
    subst hk
    exact ⟨hg, (Array.getElem?_eq_some_iff.1 hh).1⟩
end Go.Proofs.YteneoapickhpdaaGreatDoor
namespace Go.Proofs.YteneoapickhpdaaGreatDoor
open Go Go.RowKit
/-- A block with these cells. -/
structure Ox (w : World) (b : Nat) (C : Array Value) : Prop where
  c : ∀ o, w.cell? ⟨b, o, none⟩ = C[o]?
  z : b < w.heap.size
theorem Ox.new (w : World) (C : Array Value) (t : TypeId) (b : Nat) (hb : b = w.heap.size) : Ox (w.alloc (.cells C t)) b C := by subst hb; exact ⟨fun o => by simp, by simp⟩
theorem Ox.below {w w' : World} {b : Nat} {C : Array Value} (h : Ox w b C) (hb : Below w.heap.size w w') : Ox w' b C :=
  ⟨fun o => by rw [World.cell?_of_block (a := ⟨b, o, none⟩) (w := w) (hb.block b h.z)]; exact h.c o, Nat.lt_of_lt_of_le h.z hb.size⟩
section
variable {w : World}
def ftV (k i j : Int) : Value := .agg #[.int .i64 k, .int .i64 i, .int .i64 j]
end
end Go.Proofs.YteneoapickhpdaaGreatDoor
