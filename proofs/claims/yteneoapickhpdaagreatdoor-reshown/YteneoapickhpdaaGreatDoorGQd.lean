import Derived.Test.YteneoapickhpdaaGreatDoorGTm
import Derived.Test.YteneoapickhpdaaGreatDoorGQa
set_option linter.unusedSimpArgs false
set_option linter.unusedVariables false
set_option linter.unusedSectionVars false
namespace Go.Proofs.YteneoapickhpdaaGreatDoor
open Go Go.RowKit Go.ChangeMaps Un
mutual
/-- How many parts a part has. -/
def nz : Nd → Nat
  | .mk _ _ _ L _ _ _ => 1 + nzL L
def nzL : List Nd → Nat
  | [] => 0
  | x :: l => nz x + nzL l
end
mutual
theorem size_mean : ∀ (nd : Nd) (ns : List ByteArray), size (mean ns nd).1 ≤ nz nd
  | .mk k s n L f t a, ns => by
    unfold mean
    split
    · simp [size, nz]
    · simp only [size, nz]
      have := sizeL_mean L ns
      omega
theorem sizeL_mean : ∀ (L : List Nd) (ns : List ByteArray), sizeL (meanL ns L).1 ≤ nzL L
  | [], ns => by simp [meanL, sizeL, nzL]
  | x :: l, ns => by
    simp only [meanL, sizeL, nzL]
    have h1 := size_mean x ns
    have h2 := sizeL_mean l (mean ns x).2
    omega
end
def SzM (T : List Pu.Tok) (m : M Nd) : Prop := ∀ k a k', m k = .ok (a, k') → k < k' ∧ (k ≤ T.length → k' ≤ T.length ∧ nz a ≤ k' - k)
section
variable {w : World}
theorem sizeL_takeQ : ∀ (L : List Ty) (i : Nat) (h : i < L.length), sizeL (L.take (i + 1)) = sizeL (L.take i) + size L[i]
  | [], i, h => by simp at h
  | x :: l, 0, h => by simp [sizeL]
  | x :: l, i + 1, h => by simp only [List.take_succ_cons, sizeL, List.getElem_cons_succ]; rw [sizeL_takeQ l i (by simpa using h)]; omega
theorem sizeL_take_le : ∀ (L : List Ty) (i : Nat), sizeL (L.take i) ≤ sizeL L
  | [], i => by simp
  | x :: l, 0 => by simp [sizeL]
  | x :: l, i + 1 => by simp only [List.take_succ_cons, sizeL]; have := sizeL_take_le l i; omega
theorem len_sizeL : ∀ (L : List Ty), L.length ≤ sizeL L
  | [] => by simp
  | x :: l => by
    have h1 := len_sizeL l
    have h2 : 1 ≤ size x := by cases x <;> simp [size]
    simp only [sizeL, List.length_cons]; omega
def SizeC (T : Ty) : Prop := ∀ (w : World) (P : Nat → Prop) (v : Value), TyV w P T v → size T ≤ 1000 → Calls Tryz.prog 34 #[v] w fun e w' => e = .returned (.int .i64 (size T : Int)) ∧ Below w.heap.size w w'
def SizeRelQ (L : List Ty) (w : World) (gk : Nat) (sz v : Value) (wr : World) : Prop :=
  ∃ j : Nat, Hid (gk = L.length - j) ∧ j ≤ L.length ∧ v = .int .i64 (j : Int) ∧ sz = .int .i64 ((1 + sizeL (L.take j) : Nat) : Int) ∧ Below w.heap.size w wr
end
end Go.Proofs.YteneoapickhpdaaGreatDoor
