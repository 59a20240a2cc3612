import Derived.Laws.IdiomStrings
import Derived.Test.YtfflpeklkfjdnaaGreatDoorKPure
import Derived.Test.YtfflpeklkfjdnaaGreatDoorKRa
set_option linter.unusedSimpArgs false
set_option linter.unusedVariables false
set_option linter.unusedSectionVars false
namespace Go.Proofs.YtfflpeklkfjdnaaGreatDoor
open Go Go.RowKit Un
theorem bytesUnder : Tryz.prog.underlying 132 = some (.slice 5) := by kernel_rfl
theorem byteUnder : Tryz.prog.underlying 5 = some (.int .u8) := by kernel_rfl
theorem stringUnder : Tryz.prog.underlying 9 = some .string := by kernel_rfl
def dg (n : Nat) : UInt8 := UInt8.ofNat (48 + n % 10)
/-- A number's digits. -/
def dec (n : Nat) : List UInt8 := if n < 10 then [dg n] else dec (n / 10) ++ [dg n]
termination_by n
decreasing_by omega
def bs (l : List UInt8) : ByteArray := ⟨l.toArray⟩
theorem bs_size (l : List UInt8) : (bs l).size = l.length := by simp [bs, ByteArray.size]
theorem bs_app (a b : List UInt8) : bs a ++ bs b = bs (a ++ b) := by
  apply ByteArray.ext
  simp [bs]
theorem bs_toList (s : ByteArray) : bs s.toList = s := by
  rw [ByteArray.toList_eq]
  rfl
theorem dec_len (n : Nat) : (dec n).length ≤ n + 1 := by
  induction n using Nat.strongRecOn with
  | _ n ih =>
    rw [dec]
    split
    · simp
    · have := ih (n / 10) (by omega)
      simp; omega
set_option maxRecDepth 100000 in
set_option maxHeartbeats 1000000 in
theorem decimal_C : ∀ (n : Nat) (w : World), n ≤ 1000000000 → Calls Tryz.prog 71 #[.int .i64 (n : Int)] w fun e w' => e = .returned (.string (bs (dec n))) ∧ Below w.heap.size w w' := by
  intro n
  induction n using Nat.strongRecOn with
  | _ n ih =>
    intro w hn
    have IH := hide ih
    clear ih
    have hcv : (convert 132 9 (.slice (some ⟨w.heap.size, 0, none⟩) 1 1)).run Tryz.prog (w.alloc (.cells #[.int .u8 (48 + (n : Int) % 10)] 5)) = .ok (.string (bs [dg n])) (w.alloc (.cells #[.int .u8 (48 + (n : Int) % 10)] 5)) := by
      refine run_convert_bytes_back _ _ _ _ ⟨w.heap.size, 0, none⟩ 1 [dg n] bytesUnder byteUnder stringUnder (fun j hj => ?_)
      have : j = 0 := by simpa using hj
      subst this
      have e : ((dg n).toNat : Int) = 48 + (n : Int) % 10 := by
        rw [dg, UInt8.toNat_ofNat', Nat.mod_eq_of_lt (by omega)]
        omega
      simp only [List.getElem_cons_zero, e]
      simp [Addr.add]
    by_cases h : n < 10
    · have h' : (n : Int) < 10 := by omega
      have hd : Hid (dec n = [dg n]) := by show _ = _; rw [dec, if_pos h]
      clear h
      go_enter Tryz.func71, Tryz.ntmps71
      go_wp2_with fail
      go_ret
      exact ⟨by rw [unhide hd]; rfl, (Below.refl _ _).alloc (Nat.le_refl _) _⟩
    · have h' : ¬ (n : Int) < 10 := by omega
      have hd : Hid (dec n = dec (n / 10) ++ [dg n]) := by show _ = _; rw [dec, if_neg h]
      have hlt : n / 10 < n := by omega
      clear h
      go_enter Tryz.func71, Tryz.ntmps71
      go_wp2_with fail
      rw [show ((n : Int) / 10) = ((n / 10 : Nat) : Int) by omega]
      refine (unhide IH (n / 10) hlt _ (by omega)).mono ?_
      rintro e w1 ⟨rfl, hb⟩
      have HB := hide (((Below.refl w.heap.size w).alloc (Nat.le_refl _) (.cells #[.int .u8 (48 + (n : Int) % 10)] 5)).trans (hb.mono (by simp)))
      have hlen : ¬ 9223372036854775807 < (bs (dec (n / 10))).size + (bs [dg n]).size := by
        have := dec_len (n / 10)
        rw [bs_size, bs_size]; simp; omega
      clear hb
      go_wp2_with fail
      go_ret
      exact ⟨by rw [unhide hd, ← bs_app]; rfl, unhide HB⟩
end Go.Proofs.YtfflpeklkfjdnaaGreatDoor
namespace Go.Proofs.YtfflpeklkfjdnaaGreatDoor
open Go Go.RowKit Un
/-- The table of tens lies as it was laid. -/
structure P10 (w : World) : Prop where
  c : ∀ j, j < 10 → w.cell? ⟨2, j, none⟩ = some (.int .u64 ((10 ^ j : Nat) : Int))
  z : 2 < w.heap.size
theorem P10.block {w w' : World} (h : P10 w) (hz : w.heap.size ≤ w'.heap.size) (hb : w'.heap[2]? = w.heap[2]?) : P10 w' := ⟨fun j hj => (World.cell?_of_block (a := ⟨2, j, none⟩) hb).trans (h.c j hj), Nat.lt_of_lt_of_le h.z hz⟩
theorem P10.bel {w w' : World} (h : P10 w) (hb : Below w.heap.size w w') : P10 w' := h.block hb.size (hb.block 2 h.z)
end Go.Proofs.YtfflpeklkfjdnaaGreatDoor
