import Derived.Laws.IdiomStrings
import Derived.Test.YteneoapickhpdaaGreatDoorJGPure
import Derived.Test.YteneoapickhpdaaGreatDoorJGRa
set_option linter.unusedSimpArgs false
set_option linter.unusedVariables false
set_option linter.unusedSectionVars false
namespace Go.Proofs.YteneoapickhpdaaGreatDoor
open Go Go.RowKit Un
def dg (n : Nat) : UInt8 := UInt8.ofNat (48 + n % 10)
/-- A number's digits. -/
def dec (n : Nat) : List UInt8 := if n < 10 then [dg n] else dec (n / 10) ++ [dg n]
termination_by n
decreasing_by omega
def bs (l : List UInt8) : ByteArray := ⟨l.toArray⟩
theorem bs_size (l : List UInt8) : (bs l).size = l.length := by simp [bs, ByteArray.size]
theorem bs_app (a b : List UInt8) : bs a ++ bs b = bs (a ++ b) := by
  apply ByteArray.ext
  simp [bs]
theorem bs_toList (s : ByteArray) : bs s.toList = s := by
  rw [ByteArray.toList_eq]
  rfl
theorem dec_len (n : Nat) : (dec n).length ≤ n + 1 := by
  induction n using Nat.strongRecOn with
  | _ n ih =>
    rw [dec]
    split
    · simp
    · have := ih (n / 10) (by omega)
      simp; omega
end Go.Proofs.YteneoapickhpdaaGreatDoor
namespace Go.Proofs.YteneoapickhpdaaGreatDoor
open Go Go.RowKit Un
/-- The table of tens lies as it was laid. -/
structure P10 (w : World) : Prop where
  c : ∀ j, j < 10 → w.cell? ⟨2, j, none⟩ = some (.int .u64 ((10 ^ j : Nat) : Int))
  z : 2 < w.heap.size
theorem P10.block {w w' : World} (h : P10 w) (hz : w.heap.size ≤ w'.heap.size) (hb : w'.heap[2]? = w.heap[2]?) : P10 w' := ⟨fun j hj => (World.cell?_of_block (a := ⟨2, j, none⟩) hb).trans (h.c j hj), Nat.lt_of_lt_of_le h.z hz⟩
theorem P10.bel {w w' : World} (h : P10 w) (hb : Below w.heap.size w w') : P10 w' := h.block hb.size (hb.block 2 h.z)
end Go.Proofs.YteneoapickhpdaaGreatDoor
