import Derived.Test.YteneoapickhpdaaGreatDoorGPe
import Derived.Test.YteneoapickhpdaaGreatDoorGTo
import Derived.Test.YteneoapickhpdaaGreatDoorGTq
import Derived.Test.YteneoapickhpdaaGreatDoorGTm
set_option linter.unusedSimpArgs false
set_option linter.unusedVariables false
set_option linter.unusedSectionVars false
namespace Go.Proofs.YteneoapickhpdaaGreatDoor
open Go Go.RowKit Un
/-- Canon, as the document says. -/
def canonA (s : ByteArray) : List UInt8 × Fl :=
  match readT s with
  | .error f => ([], f)
  | .ok a => if 48 < size (mean [] a).1 then ([], ⟨7, 0, s.size⟩) else (Un.written dec (mean [] a).1, noFl)
abbrev zK : Array Value := #[.slice none 0 0, .slice none 0 0]
def CanonPost (s : ByteArray) (w : World) (e : Ending) (w' : World) : Prop := ∃ z f, e = .returned (.tuple #[.string z, flV f]) ∧ Below w.heap.size w w' ∧ z = bs (canonA s).1 ∧ f = (canonA s).2
section
variable {w : World}
end
end Go.Proofs.YteneoapickhpdaaGreatDoor
namespace Go.Proofs.YteneoapickhpdaaGreatDoor
open Go Go.RowKit

/-- These bytes stand at a place. -/
def Has (s : ByteArray) (i : Nat) (l : List UInt8) : Prop := ∀ j (h : j < l.length), i + j < s.size ∧ Pu.at_ s (i + j) = l[j].toNat
theorem Has.left {s : ByteArray} {i : Nat} {l m : List UInt8} (h : Has s i (l ++ m)) : Has s i l := fun j hj => by
  have := h j (by simp; omega)
  rwa [List.getElem_append_left hj] at this
theorem Has.right {s : ByteArray} {i : Nat} {l m : List UInt8} (h : Has s i (l ++ m)) : Has s (i + l.length) m := fun j hj => by
  have := h (l.length + j) (by simp; omega)
  rw [List.getElem_append_right (by omega)] at this
  simpa [Nat.add_assoc] using this
theorem Has.hd {s : ByteArray} {i : Nat} {x : UInt8} {m : List UInt8} (h : Has s i (x :: m)) : i < s.size ∧ Pu.at_ s i = x.toNat := h 0 (by simp)
theorem Has.tl {s : ByteArray} {i : Nat} {x : UInt8} {m : List UInt8} (h : Has s i (x :: m)) : Has s (i + 1) m := fun j hj => by
  have := h (j + 1) (by simp; omega)
  simpa [Nat.add_assoc, Nat.add_comm 1 j] using this
theorem Has.le {s : ByteArray} {i : Nat} {l : List UInt8} (h : Has s i l) (hi : i ≤ s.size) : i + l.length ≤ s.size := by
  cases l with
  | nil => simpa using hi
  | cons x r => have := (h r.length (by simp)).1; simp; omega
theorem Has.ext {s : ByteArray} {i : Nat} {l : List UInt8} (h : Has s i l) (hi : i ≤ s.size) : (s.extract i (i + l.length)).toList = l := by
  have hle := h.le hi
  rw [ByteArray.toList_eq, ByteArray.data_extract]
  apply List.ext_getElem
  · have hd : s.data.size = s.size := rfl
    simp
    omega
  · intro j h1 h2
    obtain ⟨h3, h4⟩ := h j h2
    rw [Pu.at_lt h3] at h4
    have : s[i + j] = l[j] := UInt8.toNat_inj.1 h4
    rw [← this]
    simp [ByteArray.getElem_eq_getElem_data]
theorem Has.end_ {s : ByteArray} {p : Nat → Bool} : ∀ {l : List UInt8} {i : Nat}, Has s i l → (∀ x ∈ l, p x.toNat = true) → p (Pu.at_ s (i + l.length)) = false → Pu.endTo s p i = i + l.length
  | [], i, _, _, hn => by
      simp at hn
      by_cases hi : i < s.size
      · simpa using Pu.endTo_no hi hn
      · simpa using Pu.endTo_end (by omega)
  | x :: r, i, h, hp, hn => by
      rw [Pu.endTo_yes h.hd.1 (by rw [h.hd.2]; exact hp x (by simp)), Has.end_ h.tl (fun y hy => hp y (by simp [hy])) (by simpa [Nat.add_assoc, Nat.add_comm 1] using hn)]
      simp [Nat.add_assoc, Nat.add_comm 1]
/-- Bytes that are read as these tokens; where nb says so, nothing that belongs to a name may follow. -/
def Lx (nb : Bool) (l : List UInt8) (p : List Ky) : Prop := ∀ s i, Has s i l → i ≤ s.size → (nb = true → Pu.nameB (Pu.at_ s (i + l.length)) = false) → ∃ T, Pu.toks s i = T ++ Pu.toks s (i + l.length) ∧ T.map keyT = p
theorem Lx.app {b1 b2 : Bool} {l1 l2 : List UInt8} {p1 p2 : List Ky} (h1 : Lx b1 l1 p1) (h2 : Lx b2 l2 p2) (hb : b1 = true → ∃ x r, l2 = x :: r ∧ Pu.nameB x.toNat = false) : Lx b2 (l1 ++ l2) (p1 ++ p2) := by
  intro s i hs hi hn
  have hl := hs.left.le hi
  obtain ⟨T1, e1, k1⟩ := h1 s i hs.left hi (fun q => by
    obtain ⟨x, r, rfl, hx⟩ := hb q
    rw [hs.right.hd.2]
    exact hx)
  obtain ⟨T2, e2, k2⟩ := h2 s (i + l1.length) hs.right hl (fun q => by have := hn q; simpa [Nat.add_assoc] using this)
  refine ⟨T1 ++ T2, ?_, by simp [k1, k2]⟩
  rw [e1, e2]
  simp [Nat.add_assoc]
theorem Lx.weak {b : Bool} {l : List UInt8} {p : List Ky} (h : Lx b l p) : Lx true l p := fun s i hs hi hn => h s i hs hi (fun _ => hn rfl)
theorem lx_blank : Lx false [32] [] := by
  intro s i hs hi _
  refine ⟨[], ?_, rfl⟩
  rw [Pu.toks_blank hs.hd.1 (by rw [hs.hd.2]; rfl)]
  rfl
theorem tok_one {s : ByteArray} {i : Nat} {l : List UInt8} {k : Nat} (hs : Has s i l) (hi : i ≤ s.size) (h0 : i < s.size) (hb : Pu.blankB (Pu.at_ s i) = false) (ht : Pu.tokAt s i = Pu.mkT s i k (i + l.length)) : ∃ T, Pu.toks s i = T ++ Pu.toks s (i + l.length) ∧ T.map keyT = [(k, l)] := by
  refine ⟨[Pu.mkT s i k (i + l.length)], ?_, ?_⟩
  · rw [Pu.toks_tok h0 hb, ht]
    rfl
  · simp only [List.map_cons, List.map_nil, keyT, Pu.mkT]
    rw [hs.ext hi]
theorem lx_sign (c : UInt8) (hc : c = 40 ∨ c = 41 ∨ c = 44) : Lx false [c] [(5, [c])] := by
  intro s i hs hi _
  obtain ⟨h0, h1⟩ := hs.hd
  refine tok_one hs hi h0 ?_ ?_
  · rw [h1]; rcases hc with rfl | rfl | rfl <;> rfl
  · unfold Pu.tokAt
    rw [h1]
    rcases hc with rfl | rfl | rfl <;> simp [Pu.lowB, Pu.upB, Pu.digB, Pu.signB]
theorem lx_arrow : Lx false [45, 62] [(5, [45, 62])] := by
  intro s i hs hi _
  obtain ⟨h0, h1⟩ := hs.hd
  obtain ⟨h2, h3⟩ := hs.tl.hd
  refine tok_one hs hi h0 ?_ ?_
  · rw [h1]; rfl
  · unfold Pu.tokAt
    rw [h1, h3]
    simp [Pu.lowB, Pu.upB, Pu.digB]
theorem lx_up (x : UInt8) (r : List UInt8) (hx : Pu.upB x.toNat = true) (hr : ∀ y ∈ r, Pu.nameB y.toNat = true) : Lx true (x :: r) [(2, x :: r)] := by
  intro s i hs hi hn
  obtain ⟨h0, h1⟩ := hs.hd
  have hlow : Pu.lowB x.toNat = false := by simp [Pu.upB] at hx; simp [Pu.lowB]; omega
  have he := hs.end_ (p := Pu.nameB) (fun y hy => by
    rcases List.mem_cons.1 hy with rfl | hy
    · simp [Pu.nameB, hx]
    · exact hr y hy) (hn rfl)
  refine tok_one hs hi h0 ?_ ?_
  · rw [h1]; simp [Pu.upB] at hx; simp [Pu.blankB]; omega
  · unfold Pu.tokAt
    rw [h1, he]
    simp [hlow, hx]
theorem lx_var (x : UInt8) (r : List UInt8) (hx : Pu.lowB x.toNat = true) (hr : ∀ y ∈ r, Pu.nameB y.toNat = true) (hw : Pu.wordB ⟨(x :: r).toArray⟩ = false) : Lx true (39 :: x :: r) [(3, 39 :: x :: r)] := by
  intro s i hs hi hn
  obtain ⟨h0, h1⟩ := hs.hd
  obtain ⟨h2, h3⟩ := hs.tl.hd
  have he := hs.tl.end_ (p := Pu.nameB) (fun y hy => by
    rcases List.mem_cons.1 hy with rfl | hy
    · simp [Pu.nameB, hx]
    · exact hr y hy) (by have := hn rfl; simpa [Nat.add_assoc, Nat.add_comm 1] using this)
  have hx2 : s.extract (i + 1) (i + 1 + (x :: r).length) = ⟨(x :: r).toArray⟩ := toList_injA (by rw [hs.tl.ext (by omega), toList_mk])
  refine tok_one hs hi h0 ?_ ?_
  · rw [h1]; rfl
  · unfold Pu.tokAt
    rw [h1, h3, he, hx2, hw, if_neg (by decide), if_neg (by decide), if_pos ⟨by decide, hx⟩, if_neg (by decide)]
    simp [Nat.add_assoc, Nat.add_comm 1]
theorem bs_has (l : List UInt8) : Has (bs l) 0 l := by
  intro j hj
  have h1 : 0 + j < (bs l).size := by rw [bs_size]; omega
  refine ⟨h1, ?_⟩
  rw [Pu.at_lt h1]
  simp [bs, ByteArray.getElem_eq_getElem_data]
end Go.Proofs.YteneoapickhpdaaGreatDoor
