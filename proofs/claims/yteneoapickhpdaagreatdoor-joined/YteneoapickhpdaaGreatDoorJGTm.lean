import Derived.Test.YteneoapickhpdaaGreatDoorJGSj
import Derived.Test.YteneoapickhpdaaGreatDoorJGTf
import Derived.Test.YteneoapickhpdaaGreatDoorJGTj
set_option linter.unusedSimpArgs false
set_option linter.unusedVariables false
set_option linter.unusedSectionVars false
namespace Go.Proofs.YteneoapickhpdaaGreatDoor
open Go Go.RowKit Un

theorem ext0 (s : ByteArray) (i e : Nat) (h : i < e) (he : e ≤ s.size) : (s.extract i e).data[0]? = s.data[i]? := by
  have hi : i < s.data.size := by have : s.size = s.data.size := rfl; omega
  rw [ByteArray.data_extract, Array.getElem?_extract]
  simp
  intro h2
  have : s.size = s.data.size := rfl
  omega
theorem extsz (s : ByteArray) (i e : Nat) (he : e ≤ s.size) : (s.extract i e).size = e - i := by
  rw [ByteArray.size_extract]; omega
theorem toksF_up (s : ByteArray) (hs : s.size ≤ 400) : ∀ f i t, t ∈ Pu.toksF s f i → t.kind = 2 → ∀ n, okN t.text n
  | 0, i, t, h, hk => by
      simp [Pu.toksF, Pu.endTok] at h
      subst h
      simp at hk
  | f + 1, i, t, h, hk => by
      unfold Pu.toksF at h
      split at h
      · rename_i hi
        split at h
        · exact toksF_up s hs f _ t h hk
        · rcases List.mem_cons.1 h with h | h
          · subst h
            have hup : Pu.upB (Pu.at_ s i) = true ∧ Pu.tokAt s i = Pu.mkT s i 2 (Pu.endTo s Pu.nameB i) := by
              revert hk
              unfold Pu.tokAt
              repeat' split
              all_goals first
                | (intro hk; simp [Pu.mkT] at hk; done)
                | (intro hk; exact ⟨by assumption, rfl⟩)
            have hge : i < Pu.endTo s Pu.nameB i := by
              have : Pu.nameB (Pu.at_ s i) = true := by simp [Pu.nameB, hup.1]
              exact Pu.endTo_gt hi this
            have hle : Pu.endTo s Pu.nameB i ≤ s.size := Pu.endTo_le _ (by omega)
            have htx : (Pu.tokAt s i).text = s.extract i (Pu.endTo s Pu.nameB i) := by rw [hup.2]; rfl
            have h0 := ext0 s i _ hge hle
            have hb : s.data[i]? = some s[i] := by rw [Array.getElem?_eq_getElem (by exact hi)]; rfl
            have hu := hup.1
            rw [Pu.at_lt hi] at hu
            intro n
            refine ⟨by rw [htx, extsz s i _ hle]; omega, ?_⟩
            rw [htx]
            rintro (e | e)
            · rw [e, hb] at h0
              have : s[i] = 62 := by simpa [nFn] using h0.symm
              rw [this] at hu
              exact absurd hu (by decide)
            · rw [e, hb] at h0
              have : s[i] = 44 := by simpa [nPr] using h0.symm
              rw [this] at hu
              exact absurd hu (by decide)
          · exact toksF_up s hs f _ t h hk
      · simp [Pu.endTok] at h
        subst h
        simp at hk
theorem toks_up (s : ByteArray) (hs : s.size ≤ 400) : UpOk (Pu.toks s 0) := by
  intro k hk
  unfold tk at hk ⊢
  rw [List.getD_eq_getElem?_getD] at hk ⊢
  cases e : (Pu.toks s 0)[k]? with
  | none => rw [e] at hk; simp at hk
  | some t =>
    rw [e] at hk
    exact toksF_up s hs _ _ t (List.mem_of_getElem? e) hk
/-- The text of a type, read: what is wrong, or the part that it is. -/
def readT (s : ByteArray) : Except Fl Nd :=
  if 400 < s.size then .error ⟨1, 0, 0⟩ else
  match typM (Pu.toks s 0) (Pu.toks s 0).length 0 with
  | .error f => .error f
  | .ok (a, k) => if (tk (Pu.toks s 0) k).kind == 7 then .ok a else .error (flOf (tk (Pu.toks s 0) k))
def flV (f : Fl) : Value := .agg #[.int .i64 (f.kind : Int), .int .i64 (f.frm : Int), .int .i64 (f.to : Int)]
def TypedPost (s : ByteArray) (w : World) (e : Ending) (w' : World) : Prop :=
  ∃ x f, e = .returned (.tuple #[NV.v x, flV f]) ∧ Below w.heap.size w w' ∧ match readT s with
    | .error f' => f = f' ∧ f.kind ≠ 0
    | .ok a => (f = noFl ∧ NR w' (fun b => w.heap.size ≤ b) a x) ∧ TyNd a ∧ cnt a ≤ 401
section
variable {w : World}
theorem _root_.Go.RowKit.Below.ke' {B rb : Nat} {a b c : World} (h : Below B a b) (k : Ke rb b c) (hr : B ≤ rb) (hB : B ≤ b.heap.size) : Below B a c :=
  ⟨k.os.trans h.os, k.tape.trans h.tape, k.output.trans h.output, Nat.le_trans h.size k.size, fun i hi => (k.block i (by omega) (by omega)).trans (h.block i hi)⟩
end
end Go.Proofs.YteneoapickhpdaaGreatDoor
namespace Go.Proofs.YteneoapickhpdaaGreatDoor
open Go Go.RowKit Un
abbrev zFl : Array Value := #[.int .i64 0, .int .i64 0, .int .i64 0]
abbrev flA (f : Fl) : Array Value := #[.int .i64 (f.kind : Int), .int .i64 (f.frm : Int), .int .i64 (f.to : Int)]
section
variable {w : World} {kb nb : Nat} {hv iv lv nv : Value} {ns : List ByteArray} {K : Nat → Option Ty} {R : Nat → Ty} {rk : Nat → Nat} {P : Nat → Prop}
end
end Go.Proofs.YteneoapickhpdaaGreatDoor
