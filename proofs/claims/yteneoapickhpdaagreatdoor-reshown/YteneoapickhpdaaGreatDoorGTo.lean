import Derived.BigQuiet
import Derived.Deep.LoopGhost
import Derived.Deep.QuietTactic
import Derived.Laws.IdiomStrings
import Derived.Test.YteneoapickhpdaaGreatDoorGPure
import Derived.Test.YteneoapickhpdaaGreatDoorGRa
set_option linter.unusedSimpArgs false
set_option linter.unusedVariables false
set_option linter.unusedSectionVars false
namespace Go.Proofs.YteneoapickhpdaaGreatDoor
open Go Go.RowKit Un
theorem bytesUnder : Tryz.prog.underlying 72 = some (.slice 5) := by kernel_rfl
theorem byteUnder : Tryz.prog.underlying 5 = some (.int .u8) := by kernel_rfl
theorem stringUnder : Tryz.prog.underlying 9 = some .string := by kernel_rfl
def dg (n : Nat) : UInt8 := UInt8.ofNat (48 + n % 10)
/-- A number's digits. -/
def dec (n : Nat) : List UInt8 := if n < 10 then [dg n] else dec (n / 10) ++ [dg n]
termination_by n
decreasing_by omega
def bs (l : List UInt8) : ByteArray := ⟨l.toArray⟩
theorem bs_size (l : List UInt8) : (bs l).size = l.length := by simp [bs, ByteArray.size]
theorem bs_app (a b : List UInt8) : bs a ++ bs b = bs (a ++ b) := by
  apply ByteArray.ext
  simp [bs]
theorem dec_len (n : Nat) : (dec n).length ≤ n + 1 := by
  induction n using Nat.strongRecOn with
  | _ n ih =>
    rw [dec]
    split
    · simp
    · have := ih (n / 10) (by omega)
      simp; omega
end Go.Proofs.YteneoapickhpdaaGreatDoor
namespace Go.Proofs.YteneoapickhpdaaGreatDoor
open Go Go.RowKit Un
/-- The table of tens lies as it was laid. -/
structure P10 (w : World) : Prop where
  c : ∀ j, j < 10 → w.cell? ⟨2, j, none⟩ = some (.int .u64 ((10 ^ j : Nat) : Int))
  z : 2 < w.heap.size
theorem P10.block {w w' : World} (h : P10 w) (hz : w.heap.size ≤ w'.heap.size) (hb : w'.heap[2]? = w.heap[2]?) : P10 w' := ⟨fun j hj => (World.cell?_of_block (a := ⟨2, j, none⟩) hb).trans (h.c j hj), Nat.lt_of_lt_of_le h.z hz⟩
theorem P10.bel {w w' : World} (h : P10 w) (hb : Below w.heap.size w w') : P10 w' := h.block hb.size (hb.block 2 h.z)
end Go.Proofs.YteneoapickhpdaaGreatDoor
namespace Go.Proofs.YteneoapickhpdaaGreatDoor
open Go Go.RowKit Un
def len8 : ByteArray := ⟨#[0, 1, 2, 2, 3, 3, 3, 3, 4, 4, 4, 4, 4, 4, 4, 4, 5, 5, 5, 5, 5, 5, 5, 5, 5, 5, 5, 5, 5, 5, 5, 5, 6, 6, 6, 6, 6, 6, 6, 6, 6, 6, 6, 6, 6, 6, 6, 6, 6, 6, 6, 6, 6, 6, 6, 6, 6, 6, 6, 6, 6, 6, 6, 6, 7, 7, 7, 7, 7, 7, 7, 7, 7, 7, 7, 7, 7, 7, 7, 7, 7, 7, 7, 7, 7, 7, 7, 7, 7, 7, 7, 7, 7, 7, 7, 7, 7, 7, 7, 7, 7, 7, 7, 7, 7, 7, 7, 7, 7, 7, 7, 7, 7, 7, 7, 7, 7, 7, 7, 7, 7, 7, 7, 7, 7, 7, 7, 7, 8, 8, 8, 8, 8, 8, 8, 8, 8, 8, 8, 8, 8, 8, 8, 8, 8, 8, 8, 8, 8, 8, 8, 8, 8, 8, 8, 8, 8, 8, 8, 8, 8, 8, 8, 8, 8, 8, 8, 8, 8, 8, 8, 8, 8, 8, 8, 8, 8, 8, 8, 8, 8, 8, 8, 8, 8, 8, 8, 8, 8, 8, 8, 8, 8, 8, 8, 8, 8, 8, 8, 8, 8, 8, 8, 8, 8, 8, 8, 8, 8, 8, 8, 8, 8, 8, 8, 8, 8, 8, 8, 8, 8, 8, 8, 8, 8, 8, 8, 8, 8, 8, 8, 8, 8, 8, 8, 8, 8, 8, 8, 8, 8, 8, 8, 8, 8, 8, 8, 8, 8, 8, 8, 8, 8, 8, 8, 8]⟩
def len8N (i : Nat) : Nat := (len8.data.getD i 0).toNat
set_option maxRecDepth 100000 in
theorem len8_all : (List.range 256).all (fun i => i == 0 || (decide (1 ≤ len8N i) && decide (2 ^ (len8N i - 1) ≤ i) && decide (i < 2 ^ len8N i) && decide (len8N i ≤ 8))) = true := by kernel_rfl
set_option maxRecDepth 100000 in
theorem len8_at (i : Nat) (h : i < len8.size) (h0 : 0 < i) (h1 : i < 256) : 1 ≤ len8[i].toNat ∧ 2 ^ (len8[i].toNat - 1) ≤ i ∧ i < 2 ^ len8[i].toNat ∧ len8[i].toNat ≤ 8 := by
  have e : len8[i].toNat = len8N i := by
    unfold len8N
    have h' : i < len8.data.size := h
    rw [Array.getD_eq_getD_getElem?, Array.getElem?_eq_getElem h']
    rfl
  rw [e]
  have := List.all_eq_true.1 len8_all i (List.mem_range.2 h1)
  simp only [Bool.or_eq_true, Bool.and_eq_true, decide_eq_true_eq, beq_iff_eq] at this
  rcases this with q | ⟨⟨⟨a, b⟩, c⟩, d⟩
  · omega
  · exact ⟨a, b, c, d⟩
theorem len_lift (n s t : Nat) (h1 : 2 ^ (t - 1) ≤ n / 2 ^ s) (h2 : n / 2 ^ s < 2 ^ t) (ht : 1 ≤ t) : 2 ^ (s + t - 1) ≤ n ∧ n < 2 ^ (s + t) := by
  have hs : 0 < 2 ^ s := Nat.two_pow_pos s
  rw [Nat.le_div_iff_mul_le hs] at h1
  rw [Nat.div_lt_iff_lt_mul hs] at h2
  rw [show s + t - 1 = (t - 1) + s by omega, Nat.pow_add, Nat.add_comm s t, Nat.pow_add]
  exact ⟨h1, h2⟩
theorem dec_dl : ∀ (d n : Nat), (d = 0 ∨ 10 ^ d ≤ n) → n < 10 ^ (d + 1) → (dec n).length = d + 1
  | 0, n, _, h => by unfold dec; rw [if_pos (by simpa using h)]; rfl
  | d + 1, n, h, h' => by
    have h1 : 10 ^ (d + 1) ≤ n := by rcases h with h | h <;> first | omega | exact h
    have hp : 0 < 10 ^ d := Nat.pow_pos (by decide)
    rw [Nat.pow_succ] at h1 h'
    have h2 : ¬ n < 10 := by omega
    unfold dec
    rw [if_neg h2]
    have := dec_dl d (n / 10) (Or.inr (by omega)) (by omega)
    simp [this]
theorem log_all : ∀ k, k < 31 → 1 ≤ k → 10 ^ (k * 78913 / 262144 - 1) ≤ 2 ^ (k - 1) ∧ 2 ^ k ≤ 10 ^ (k * 78913 / 262144 + 1) ∧ k * 78913 / 262144 ≤ 9 := by decide
theorem digits_of {n k : Nat} (h0 : 0 < n) (hk : 1 ≤ k) (hk2 : k ≤ 30) (h1 : 2 ^ (k - 1) ≤ n) (h2 : n < 2 ^ k) : (dec n).length = k * 78913 / 262144 + (if decide (10 ^ (k * 78913 / 262144) ≤ n) = true then 1 else 0) := by
  obtain ⟨a, b, c⟩ := log_all k (by omega) hk
  generalize k * 78913 / 262144 = e at a b c ⊢
  by_cases h : 10 ^ e ≤ n
  · rw [if_pos (by simpa using h)]
    exact dec_dl e n (Or.inr h) (by omega)
  · rw [if_neg (by simpa using h)]
    cases e with
    | zero => simp at h; omega
    | succ d =>
      have := dec_dl d n (Or.inr (by simp at a; omega)) (by omega)
      simpa using this
section
variable {w : World}
set_option maxRecDepth 100000 in
set_option maxHeartbeats 400000 in
theorem bool2_C (b : Bool) : Calls Tryz.prog 174 #[.bool b] w fun e w' => e = .returned (.int .i64 (if b = true then 1 else 0)) ∧ w' = w := by
  cases b
  · go_enter Tryz.func174, Tryz.ntmps174
    go_wp2_with fail
    go_ret
    exact ⟨rfl, rfl⟩
  · go_enter Tryz.func174, Tryz.ntmps174
    go_wp2_with fail
    go_ret
    exact ⟨rfl, rfl⟩
set_option maxRecDepth 100000 in
set_option maxHeartbeats 400000 in
theorem log10_C (k : Nat) (h : k ≤ 40) : Calls Tryz.prog 172 #[.int .i64 (k : Int)] w fun e w' => e = .returned (.int .i64 ((k * 78913 / 262144 : Nat) : Int)) ∧ w' = w := by
  go_enter Tryz.func172, Tryz.ntmps172
  go_wp2_with fail
  go_ret
  refine ⟨?_, rfl⟩
  show Ending.returned (.int .i64 ((k : Int) * 78913 / 262144)) = _
  rw [show (k : Int) * 78913 / 262144 = ((k * 78913 / 262144 : Nat) : Int) by omega]
def LenP (n : Nat) (w : World) (e : Ending) (w' : World) : Prop := ∃ k : Nat, e = .returned (.int .i64 (k : Int)) ∧ 1 ≤ k ∧ 2 ^ (k - 1) ≤ n ∧ n < 2 ^ k ∧ w' = w
set_option maxRecDepth 100000 in
set_option maxHeartbeats 400000 in
theorem Len64_a (n : Nat) (h0 : 16777216 ≤ n) (h : n < 1000000000) : Calls Tryz.prog 173 #[.int .u64 (n : Int)] w (LenP n w) := by
  have d0 : decide ((4294967296 : Int) ≤ (n : Int)) = false := by simp; omega
  have d1 : decide ((65536 : Int) ≤ (n : Int)) = true := by simp; omega
  have d2 : decide ((256 : Int) ≤ (n : Int) / 65536) = true := by simp; omega
  go_enter Tryz.func173, Tryz.ntmps173
  go_wp2_with fail
  go_ret
  have hm : n / 65536 / 256 < 256 := by omega
  obtain ⟨a, b, c, d⟩ := len8_at (n / 65536 / 256) (show n / 65536 / 256 < 256 by omega) (by omega) hm
  have l := len_lift n 24 len8[n / 65536 / 256].toNat (by simpa [Nat.div_div_eq_div_mul] using b) (by simpa [Nat.div_div_eq_div_mul] using c) a
  refine ⟨24 + len8[n / 65536 / 256].toNat, ?_, by omega, l.1, l.2, rfl⟩
  show Ending.returned (.int .i64 _) = _
  congr 2
  show wrap64 (24 + wrap64 ((len8[n / 65536 / 256].toNat : Nat) : Int)) = _
  generalize len8[n / 65536 / 256].toNat = t at d ⊢
  rw [IntWalk.wrap64_in ((t : Nat) : Int) (by omega), IntWalk.wrap64_in _ (by omega)]
  omega
set_option maxRecDepth 100000 in
set_option maxHeartbeats 400000 in
theorem Len64_b (n : Nat) (h0 : 65536 ≤ n) (h : n < 16777216) : Calls Tryz.prog 173 #[.int .u64 (n : Int)] w (LenP n w) := by
  have d0 : decide ((4294967296 : Int) ≤ (n : Int)) = false := by simp; omega
  have d1 : decide ((65536 : Int) ≤ (n : Int)) = true := by simp; omega
  have d2 : decide ((256 : Int) ≤ (n : Int) / 65536) = false := by simp; omega
  go_enter Tryz.func173, Tryz.ntmps173
  go_wp2_with fail
  go_ret
  have hm : n / 65536 < 256 := by omega
  obtain ⟨a, b, c, d⟩ := len8_at (n / 65536) (show n / 65536 < 256 by omega) (by omega) hm
  have l := len_lift n 16 len8[n / 65536].toNat (by simpa [Nat.div_div_eq_div_mul] using b) (by simpa [Nat.div_div_eq_div_mul] using c) a
  refine ⟨16 + len8[n / 65536].toNat, ?_, by omega, l.1, l.2, rfl⟩
  show Ending.returned (.int .i64 _) = _
  congr 2
  show wrap64 (16 + wrap64 ((len8[n / 65536].toNat : Nat) : Int)) = _
  generalize len8[n / 65536].toNat = t at d ⊢
  rw [IntWalk.wrap64_in ((t : Nat) : Int) (by omega), IntWalk.wrap64_in _ (by omega)]
  omega
set_option maxRecDepth 100000 in
set_option maxHeartbeats 400000 in
theorem Len64_c (n : Nat) (h0 : 256 ≤ n) (h : n < 65536) : Calls Tryz.prog 173 #[.int .u64 (n : Int)] w (LenP n w) := by
  have d0 : decide ((4294967296 : Int) ≤ (n : Int)) = false := by simp; omega
  have d1 : decide ((65536 : Int) ≤ (n : Int)) = false := by simp; omega
  have d2 : decide ((256 : Int) ≤ (n : Int)) = true := by simp; omega
  go_enter Tryz.func173, Tryz.ntmps173
  go_wp2_with fail
  go_ret
  have hm : n / 256 < 256 := by omega
  obtain ⟨a, b, c, d⟩ := len8_at (n / 256) (show n / 256 < 256 by omega) (by omega) hm
  have l := len_lift n 8 len8[n / 256].toNat (by simpa [Nat.div_div_eq_div_mul] using b) (by simpa [Nat.div_div_eq_div_mul] using c) a
  refine ⟨8 + len8[n / 256].toNat, ?_, by omega, l.1, l.2, rfl⟩
  show Ending.returned (.int .i64 _) = _
  congr 2
  show wrap64 (8 + wrap64 ((len8[n / 256].toNat : Nat) : Int)) = _
  generalize len8[n / 256].toNat = t at d ⊢
  rw [IntWalk.wrap64_in ((t : Nat) : Int) (by omega), IntWalk.wrap64_in _ (by omega)]
  omega
set_option maxRecDepth 100000 in
set_option maxHeartbeats 400000 in
theorem Len64_d (n : Nat) (h0 : 1 ≤ n) (h : n < 256) : Calls Tryz.prog 173 #[.int .u64 (n : Int)] w (LenP n w) := by
  have d0 : decide ((4294967296 : Int) ≤ (n : Int)) = false := by simp; omega
  have d1 : decide ((65536 : Int) ≤ (n : Int)) = false := by simp; omega
  have d2 : decide ((256 : Int) ≤ (n : Int)) = false := by simp; omega
  go_enter Tryz.func173, Tryz.ntmps173
  go_wp2_with fail
  go_ret
  have hm : n < 256 := by omega
  obtain ⟨a, b, c, d⟩ := len8_at (n) (show n < 256 by omega) (by omega) hm
  have l := len_lift n 0 len8[n].toNat (by simpa [Nat.div_div_eq_div_mul] using b) (by simpa [Nat.div_div_eq_div_mul] using c) a
  refine ⟨0 + len8[n].toNat, ?_, by omega, l.1, l.2, rfl⟩
  show Ending.returned (.int .i64 _) = _
  congr 2
  show wrap64 (wrap64 ((len8[n].toNat : Nat) : Int)) = _
  generalize len8[n].toNat = t at d ⊢
  rw [IntWalk.wrap64_in ((t : Nat) : Int) (by omega), IntWalk.wrap64_in _ (by omega)]
  omega
theorem Len64_C (n : Nat) (h0 : 1 ≤ n) (h : n < 1000000000) : Calls Tryz.prog 173 #[.int .u64 (n : Int)] w (LenP n w) := by
  by_cases h1 : n < 256
  · exact Len64_d n h0 h1
  · by_cases h2 : n < 65536
    · exact Len64_c n (by omega) h2
    · by_cases h3 : n < 16777216
      · exact Len64_b n (by omega) h3
      · exact Len64_a n (by omega) h
set_option maxRecDepth 100000 in
set_option maxHeartbeats 400000 in
theorem numDigits_C (n : Nat) (h0 : 1 ≤ n) (h : n < 1000000000) (hp : P10 w) : Calls Tryz.prog 161 #[.int .u64 (n : Int)] w fun e w' => e = .returned (.int .i64 ((dec n).length : Int)) ∧ w' = w := by
  have HL := hide (Len64_C (w := w) n h0 h)
  go_enter Tryz.func161, Tryz.ntmps161
  go_wp2_with fail
  refine (unhide HL).mono ?_
  rintro e w' ⟨k, rfl, k1, k2, k3, rfl⟩
  have hk : k ≤ 30 := by
    rcases Nat.lt_or_ge 30 k with q | q
    · have := Nat.pow_le_pow_right (n := 2) (by decide) (show 30 ≤ k - 1 by omega)
      omega
    · exact q
  have hd := hide (digits_of (n := n) (by omega) k1 hk k2 k3)
  have he := (log_all k (by omega) k1).2.2
  have HC := hide (log10_C (w := w') k (by omega))
  clear HL k2 k3
  generalize k * 78913 / 262144 = e at hd he HC
  have hc := hp.c e (by omega)
  have hz := hp.z
  have e0 : (0 : Int) ≤ (e : Int) := by omega
  have e1 : (e : Int) < 20 := by omega
  generalize 10 ^ e = T at hc hd
  clear hp
  by_cases hT : T ≤ n
  · have hT' : (T : Int) ≤ (n : Int) := by omega
    have hd : Hid ((dec n).length = e + 1) := hide (by rw [unhide hd, if_pos (by simpa using hT)])
    go_wp2_with fail
    refine (unhide HC).mono ?_
    rintro e' w2 ⟨rfl, rfl⟩
    clear HC
    go_wp2_with fail
    refine (bool2_C true).mono ?_
    rintro e' w3 ⟨rfl, rfl⟩
    go_wp2_with fail
    go_ret
    refine ⟨?_, rfl⟩
    rw [unhide hd]
    rfl
  · have hT' : (n : Int) < (T : Int) := by omega
    have hd : Hid ((dec n).length = e) := hide (by rw [unhide hd, if_neg (by simpa using hT)]; rfl)
    go_wp2_with fail
    refine (unhide HC).mono ?_
    rintro e' w2 ⟨rfl, rfl⟩
    clear HC
    go_wp2_with fail
    refine (bool2_C false).mono ?_
    rintro e' w3 ⟨rfl, rfl⟩
    go_wp2_with fail
    go_ret
    refine ⟨?_, rfl⟩
    rw [unhide hd]
    rfl
end
end Go.Proofs.YteneoapickhpdaaGreatDoor
