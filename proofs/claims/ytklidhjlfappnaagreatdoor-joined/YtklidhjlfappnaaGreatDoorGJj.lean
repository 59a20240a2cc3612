import Derived.Test.YtklidhjlfappnaaGreatDoorGVn
import Derived.Test.YtklidhjlfappnaaGreatDoorGJb
set_option linter.unusedSimpArgs false
set_option linter.unusedVariables false
set_option linter.unusedSectionVars false
namespace Go.Proofs.YtklidhjlfappnaaGreatDoor
open Go Go.RowKit Un
section
variable {w : World}
set_option maxRecDepth 100000 in
set_option maxHeartbeats 800000 in
/-- A fault is the same as itself. -/
theorem sameFaultK_C (k i j : Int) : Calls Tryz.prog 16 #[ftV k i j, ftV k i j] w fun e w' => e = .returned (.bool true) ∧ Below w.heap.size w w' := by
  unfold ftV
  have h0 : (k == k) = true := by simp
  have h1 : (i == i) = true := by simp
  have h2 : (j == j) = true := by simp
  go_enter Tryz.func16, Tryz.ntmps16
  go_wp2_with fail
  go_ret
  exact ⟨rfl, ((Below.refl _ _).alloc (Nat.le_refl _) _).alloc (by simp) _⟩
/-- Unify, where its answer is known. -/
theorem unify_known (hL : Laid w) {s t : ByteArray} {z : List UInt8} {ok : Bool} {f : Fl} (h : UniA s t z ok f) : Calls Tryz.prog 14 #[.string s, .string t] w fun e w' => e = .returned (.tuple #[.string (bs z), .bool ok, ftV f.kind f.frm f.to]) ∧ Below w.heap.size w w' :=
  (Unify_P hL s t).mono fun e w' ⟨z', ok', f', e1, hu, hb⟩ => by
    obtain ⟨rfl, rfl, rfl⟩ := h.one hu
    exact ⟨e1, hb⟩
set_option maxRecDepth 100000 in
set_option maxHeartbeats 800000 in
theorem ends_C (hL : Laid w) {s t : ByteArray} (h : s.size ≤ 400 → UniA s t s.toList true noFl) : Calls Tryz.prog 17 #[.string s, .string t] w fun e w' => e = .returned (.bool true) ∧ Below w.heap.size w w' := by
  by_cases hs : s.size ≤ 400
  · have HC := hide (unify_known hL (h hs))
    rw [bs_toList] at HC
    have hd : decide ((400 : Int) < (s.size : Int)) = false := by simp; omega
    simp only [noFl] at HC
    clear h
    go_enter Tryz.func17, Tryz.ntmps17
    go_wp2_with fail
    refine (unhide HC).mono ?_
    rintro e w1 ⟨rfl, hb1⟩
    have hb2 : Below w1.heap.size w1 (w1.alloc (.cells #[.int .i64 0, .int .i64 0, .int .i64 0] 33)) := (Below.refl _ _).alloc (Nat.le_refl _) _
    have HB2 := hb1.trans (hb2.mono hb1.size)
    unfold ftV
    clear HC
    go_wp2_with fail
    go_ret
    exact ⟨rfl, HB2⟩
  · have hd : decide ((400 : Int) < (s.size : Int)) = true := by simp; omega
    clear h
    go_enter Tryz.func17, Tryz.ntmps17
    go_wp2_with fail
    go_ret
    exact ⟨rfl, Below.refl _ _⟩
theorem canon_known (hL : Laid w) {s : ByteArray} {z : List UInt8} {f : Fl} (h : canonA s = (z, f)) : Calls Tryz.prog 15 #[.string s] w fun e w' => e = .returned (.tuple #[.string (bs z), ftV f.kind f.frm f.to]) ∧ Below w.heap.size w w' :=
  (CanonP_C hL s).mono fun e w' q => by
    obtain ⟨e1, hb⟩ := q
    rw [h] at e1
    exact ⟨e1, hb⟩
set_option maxRecDepth 100000 in
set_option maxHeartbeats 800000 in
theorem joins_C (hL : Laid w) : Calls Tryz.prog 12 #[] w fun e w' => e = .returned (.bool true) ∧ Below w.heap.size w w' := by
  have HC : Hid (∀ W, Below w.heap.size w W → _) := hide (fun W hb => unify_known (hL.bel hb) uni_fix)
  have HD : Hid (∀ W, Below w.heap.size w W → _) := hide (fun W hb => canon_known (hL.bel hb) canon_fix)
  simp only [noFl] at HC HD
  unfold bs at HC HD
  go_enter Tryz.func12, Tryz.ntmps12
  go_wp2_with fail
  refine (unhide HC _ (Below.refl _ _)).mono ?_
  rintro e w1 ⟨rfl, hb1⟩
  have hb2 : Below w1.heap.size w1 (w1.alloc (.cells #[.int .i64 0, .int .i64 0, .int .i64 0] 33)) := (Below.refl _ _).alloc (Nat.le_refl _) _
  have HB2 := hb1.trans (hb2.mono hb1.size)
  have F2 := hide (Ox.new w1 #[.int .i64 0, .int .i64 0, .int .i64 0] 33 _ rfl)
  unfold ftV
  clear HC
  go_wp2_with fail
  refine (unhide HD _ HB2).mono ?_
  rintro e w3 ⟨rfl, hb3⟩
  have HB3 := HB2.trans (hb3.mono HB2.size)
  have hb4 : Below w3.heap.size w3 (w3.alloc (.cells #[.int .i64 0, .int .i64 0, .int .i64 0] 33)) := (Below.refl _ _).alloc (Nat.le_refl _) _
  have HB4 := HB3.trans (hb4.mono HB3.size)
  obtain ⟨c4, z4⟩ := ((unhide F2).below hb3).below hb4
  unfold ftV
  clear HD
  go_wp2_with fail
  go_ret
  exact ⟨rfl, HB4⟩
end
end Go.Proofs.YtklidhjlfappnaaGreatDoor
namespace Go.Proofs.YtklidhjlfappnaaGreatDoor
open Go Go.RowKit Un
section
variable {w : World}
theorem bs_nil : bs [] = ⟨#[]⟩ := rfl
/-- Raw numbers that lie in memory. -/
def Raw (w : World) (p : Option Addr) (len : Nat) (r : Nat → Int) : Prop :=
  ∀ i, i < len → (∃ g o, p = some ⟨g, o, none⟩ ∧ g < w.heap.size ∧ w.cell? ⟨g, o + i, none⟩ = some (.int .i64 (r i))) ∧ -9223372036854775808 ≤ r i ∧ r i ≤ 9223372036854775807
set_option maxRecDepth 100000 in
set_option maxHeartbeats 8000000 in
/-- Joined of any raw numbers: true, and nothing old is turned. -/
theorem Joined_law (hL : Laid w) {p : Option Addr} {len cap : Nat} {r : Nat → Int} (hlen : (len : Int) ≤ 9223372036854775807) (hR : Raw w p len r) :
    Calls Tryz.prog 6 #[.slice p len cap] w fun e w' => e = .returned (.bool true) ∧ Below w.heap.size w w' := by
  have HJ := hide (joins_C hL)
  have HR := hide hR
  clear hR
  have HT : Hid (∀ W A (xb : Nat), Src W xb p len cap r A → Calls Tryz.prog 13 #[.pointer (some ⟨xb, 0, none⟩), .int .i64 3, .bool true] W (TypedP xb p len cap r 3 W)) := hide (fun W A xb h => made_C 3 (by omega) W A h)
  go_enter Tryz.func6, Tryz.ntmps6
  go_wp2_with fail
  refine (unhide HJ).mono ?_
  rintro e w1 ⟨rfl, hb1⟩
  have hb2 : Below w1.heap.size w1 (w1.alloc (.cells #[.slice p len cap, .int .i64 0] 29)) := (Below.refl _ _).alloc (Nat.le_refl _) _
  have HB2 := hb1.trans (hb2.mono hb1.size)
  have S2 : Src (w1.alloc (.cells #[.slice p len cap, .int .i64 0] 29)) w1.heap.size p len cap r 0 := by
    refine ⟨Bx.new w1 _ _, Nat.zero_le _, hlen, fun i hi => ?_, fun i hi => (unhide HR i hi).2⟩
    obtain ⟨g, o, e, hg, hc⟩ := (unhide HR i hi).1
    have hz := hb1.size
    exact ⟨g, o, e, by simp; omega, by omega, (World.cell?_of_block (a := ⟨g, o + i, none⟩) (w := w) (HB2.block g hg)).trans hc⟩
  have HT2 := hide (unhide HT _ 0 _ S2)
  have hzz := hb1.size
  clear HJ
  go_wp2_with fail
  refine (unhide HT2).mono ?_
  rintro e w3 ⟨l, nd, rfl, hm3, A3, hs3, hk3⟩
  have HM3 := hide hm3
  have HB3 : Below w.heap.size w w3 := hk3.low HB2 HB2.size hzz
  have HT3 := hide (unhide HT _ A3 _ hs3)
  clear HT2 hm3 hs3 hk3
  go_wp2_with fail
  refine (unhide HT3).mono ?_
  rintro e w4 ⟨m, nd4, rfl, hm4, A4, hs4, hk4⟩
  have HM4 := hide hm4
  have HB4 : Below w.heap.size w w4 := hk4.low HB3 HB3.size hzz
  have HU1 := hide (Unify_P (hL.bel HB4) (bs l) (bs m))
  have HQ : Hid (canonA (bs l) = ((canonA (bs l)).1, noFl)) := hide (Prod.ext rfl (md_self (unhide HM3)).1)
  have HQ2 := hide (md_self (unhide HM3)).2
  clear HT3 hm4 hs4 hk4 HT
  go_wp2_with fail
  refine (unhide HU1).mono ?_
  rintro e w5 ⟨z, ok, f, rfl, hu, hb5⟩
  have HB5 := HB4.trans (hb5.mono HB4.size)
  clear HU1
  have hcs := md_uni (unhide HM3) (unhide HM4) hu
  have HU := hide hu
  clear hu
  rcases hcs with ⟨rfl, rfl, rfl⟩ | ⟨rfl, rfl, rfl⟩ | ⟨rfl, rfl, hen⟩
  · rw [bs_nil]
    have hb6 : Below w5.heap.size w5 (w5.alloc (.cells #[.int .i64 7, .int .i64 0, .int .i64 0] 33)) := (Below.refl _ _).alloc (Nat.le_refl _) _
    have HB6 := HB5.trans (hb6.mono HB5.size)
    have G1 := hide (Ox.new w5 #[.int .i64 7, .int .i64 0, .int .i64 0] 33 _ rfl)
    have HU2 := hide (unify_known (w := w5.alloc (.cells #[.int .i64 7, .int .i64 0, .int .i64 0] 33)) (hL.bel HB6) (md_swap (unhide HM3) (unhide HM4) (unhide HU)))
    simp only [noFl] at HU2
    try rw [bs_nil] at HU2
    unfold flV
    go_wp2_with fail
    refine (unhide HU2).mono ?_
    rintro e w7 ⟨rfl, hb7⟩
    have HB7 := HB6.trans (hb7.mono HB6.size)
    have hb8 : Below w7.heap.size w7 (w7.alloc (.cells #[.int .i64 7, .int .i64 0, .int .i64 0] 33)) := (Below.refl _ _).alloc (Nat.le_refl _) _
    have HB8 := HB7.trans (hb8.mono HB7.size)
    have G2 := hide ((((unhide G1).below hb7).below hb8))
    have K2 := hide (Ox.new w7 #[.int .i64 7, .int .i64 0, .int .i64 0] 33 _ rfl)
    have HC := hide (canon_known (w := w7.alloc (.cells #[.int .i64 7, .int .i64 0, .int .i64 0] 33)) (hL.bel HB8) (unhide HQ))
    simp only [noFl] at HC
    unfold ftV
    clear HU2 G1
    go_wp2_with fail
    refine (unhide HC).mono ?_
    rintro e w9 ⟨rfl, hb9⟩
    have HB9 := HB8.trans (hb9.mono HB8.size)
    have hb10 : Below w9.heap.size w9 (w9.alloc (.cells #[.int .i64 0, .int .i64 0, .int .i64 0] 33)) := (Below.refl _ _).alloc (Nat.le_refl _) _
    have HB10 := HB9.trans (hb10.mono HB9.size)
    have G3 := hide (((unhide G2).below hb9).below hb10)
    have K3 := hide (((unhide K2).below hb9).below hb10)
    have L3 := hide (Ox.new w9 #[.int .i64 0, .int .i64 0, .int .i64 0] 33 _ rfl)
    have HS := hide (unify_known (w := w9.alloc (.cells #[.int .i64 0, .int .i64 0, .int .i64 0] 33)) (hL.bel HB10) (unhide HQ2))
    simp only [noFl] at HS
    unfold ftV
    clear HC G2 K2
    go_wp2_with fail
    refine (unhide HS).mono ?_
    rintro e w11 ⟨rfl, hb11⟩
    have HB11 := HB10.trans (hb11.mono HB10.size)
    have hb12 : Below w11.heap.size w11 (w11.alloc (.cells #[.int .i64 0, .int .i64 0, .int .i64 0] 33)) := (Below.refl _ _).alloc (Nat.le_refl _) _
    have HB12 := HB11.trans (hb12.mono HB11.size)
    have G4 := hide (((unhide G3).below hb11).below hb12)
    have K4 := hide (((unhide K3).below hb11).below hb12)
    have L4 := hide (((unhide L3).below hb11).below hb12)
    have M4 := hide (Ox.new w11 #[.int .i64 0, .int .i64 0, .int .i64 0] 33 _ rfl)
    obtain ⟨c1, z1⟩ := unhide G4
    obtain ⟨c2, z2⟩ := unhide K4
    unfold ftV
    clear HS G3 K3 L3
    go_wp2_with fail
    refine (sameFaultK_C 7 0 0).mono ?_
    rintro e w13 ⟨rfl, hb13⟩
    have HB13 := HB12.trans (hb13.mono HB12.size)
    clear c1 z1 c2 z2
    obtain ⟨c1, z1⟩ := (unhide G4).below hb13
    obtain ⟨c3, z3⟩ := (unhide L4).below hb13
    obtain ⟨c4, z4⟩ := (unhide M4).below hb13
    clear G4 K4 L4 M4
    go_wp2_with fail
    go_ret
    exact ⟨rfl, HB13⟩
  · rw [bs_nil]
    simp only [noFl] at *
    have hb6 : Below w5.heap.size w5 (w5.alloc (.cells #[.int .i64 0, .int .i64 0, .int .i64 0] 33)) := (Below.refl _ _).alloc (Nat.le_refl _) _
    have HB6 := HB5.trans (hb6.mono HB5.size)
    have G1 := hide (Ox.new w5 #[.int .i64 0, .int .i64 0, .int .i64 0] 33 _ rfl)
    have HU2 := hide (unify_known (w := w5.alloc (.cells #[.int .i64 0, .int .i64 0, .int .i64 0] 33)) (hL.bel HB6) (md_swap (unhide HM3) (unhide HM4) (unhide HU)))
    simp only [noFl] at HU2
    try rw [bs_nil] at HU2
    unfold flV
    go_wp2_with fail
    refine (unhide HU2).mono ?_
    rintro e w7 ⟨rfl, hb7⟩
    have HB7 := HB6.trans (hb7.mono HB6.size)
    have hb8 : Below w7.heap.size w7 (w7.alloc (.cells #[.int .i64 0, .int .i64 0, .int .i64 0] 33)) := (Below.refl _ _).alloc (Nat.le_refl _) _
    have HB8 := HB7.trans (hb8.mono HB7.size)
    have G2 := hide ((((unhide G1).below hb7).below hb8))
    have K2 := hide (Ox.new w7 #[.int .i64 0, .int .i64 0, .int .i64 0] 33 _ rfl)
    have HC := hide (canon_known (w := w7.alloc (.cells #[.int .i64 0, .int .i64 0, .int .i64 0] 33)) (hL.bel HB8) (unhide HQ))
    simp only [noFl] at HC
    unfold ftV
    clear HU2 G1
    go_wp2_with fail
    refine (unhide HC).mono ?_
    rintro e w9 ⟨rfl, hb9⟩
    have HB9 := HB8.trans (hb9.mono HB8.size)
    have hb10 : Below w9.heap.size w9 (w9.alloc (.cells #[.int .i64 0, .int .i64 0, .int .i64 0] 33)) := (Below.refl _ _).alloc (Nat.le_refl _) _
    have HB10 := HB9.trans (hb10.mono HB9.size)
    have G3 := hide (((unhide G2).below hb9).below hb10)
    have K3 := hide (((unhide K2).below hb9).below hb10)
    have L3 := hide (Ox.new w9 #[.int .i64 0, .int .i64 0, .int .i64 0] 33 _ rfl)
    have HS := hide (unify_known (w := w9.alloc (.cells #[.int .i64 0, .int .i64 0, .int .i64 0] 33)) (hL.bel HB10) (unhide HQ2))
    simp only [noFl] at HS
    unfold ftV
    clear HC G2 K2
    go_wp2_with fail
    refine (unhide HS).mono ?_
    rintro e w11 ⟨rfl, hb11⟩
    have HB11 := HB10.trans (hb11.mono HB10.size)
    have hb12 : Below w11.heap.size w11 (w11.alloc (.cells #[.int .i64 0, .int .i64 0, .int .i64 0] 33)) := (Below.refl _ _).alloc (Nat.le_refl _) _
    have HB12 := HB11.trans (hb12.mono HB11.size)
    have G4 := hide (((unhide G3).below hb11).below hb12)
    have K4 := hide (((unhide K3).below hb11).below hb12)
    have L4 := hide (((unhide L3).below hb11).below hb12)
    have M4 := hide (Ox.new w11 #[.int .i64 0, .int .i64 0, .int .i64 0] 33 _ rfl)
    obtain ⟨c1, z1⟩ := unhide G4
    obtain ⟨c2, z2⟩ := unhide K4
    unfold ftV
    clear HS G3 K3 L3
    go_wp2_with fail
    refine (sameFaultK_C 0 0 0).mono ?_
    rintro e w13 ⟨rfl, hb13⟩
    have HB13 := HB12.trans (hb13.mono HB12.size)
    clear c1 z1 c2 z2
    obtain ⟨c1, z1⟩ := (unhide G4).below hb13
    obtain ⟨c3, z3⟩ := (unhide L4).below hb13
    obtain ⟨c4, z4⟩ := (unhide M4).below hb13
    clear G4 K4 L4 M4
    go_wp2_with fail
    go_ret
    exact ⟨rfl, HB13⟩
  · have HEN := hide hen
    clear hen
    simp only [noFl] at *
    have hb6 : Below w5.heap.size w5 (w5.alloc (.cells #[.int .i64 0, .int .i64 0, .int .i64 0] 33)) := (Below.refl _ _).alloc (Nat.le_refl _) _
    have HB6 := HB5.trans (hb6.mono HB5.size)
    have G1 := hide (Ox.new w5 #[.int .i64 0, .int .i64 0, .int .i64 0] 33 _ rfl)
    have HU2 := hide (unify_known (w := w5.alloc (.cells #[.int .i64 0, .int .i64 0, .int .i64 0] 33)) (hL.bel HB6) (md_swap (unhide HM3) (unhide HM4) (unhide HU)))
    simp only [noFl] at HU2
    try rw [bs_nil] at HU2
    unfold flV
    go_wp2_with fail
    refine (unhide HU2).mono ?_
    rintro e w7 ⟨rfl, hb7⟩
    have HB7 := HB6.trans (hb7.mono HB6.size)
    have hb8 : Below w7.heap.size w7 (w7.alloc (.cells #[.int .i64 0, .int .i64 0, .int .i64 0] 33)) := (Below.refl _ _).alloc (Nat.le_refl _) _
    have HB8 := HB7.trans (hb8.mono HB7.size)
    have G2 := hide ((((unhide G1).below hb7).below hb8))
    have K2 := hide (Ox.new w7 #[.int .i64 0, .int .i64 0, .int .i64 0] 33 _ rfl)
    have HC := hide (canon_known (w := w7.alloc (.cells #[.int .i64 0, .int .i64 0, .int .i64 0] 33)) (hL.bel HB8) (unhide HQ))
    simp only [noFl] at HC
    unfold ftV
    clear HU2 G1
    go_wp2_with fail
    refine (unhide HC).mono ?_
    rintro e w9 ⟨rfl, hb9⟩
    have HB9 := HB8.trans (hb9.mono HB8.size)
    have hb10 : Below w9.heap.size w9 (w9.alloc (.cells #[.int .i64 0, .int .i64 0, .int .i64 0] 33)) := (Below.refl _ _).alloc (Nat.le_refl _) _
    have HB10 := HB9.trans (hb10.mono HB9.size)
    have G3 := hide (((unhide G2).below hb9).below hb10)
    have K3 := hide (((unhide K2).below hb9).below hb10)
    have L3 := hide (Ox.new w9 #[.int .i64 0, .int .i64 0, .int .i64 0] 33 _ rfl)
    have HS := hide (unify_known (w := w9.alloc (.cells #[.int .i64 0, .int .i64 0, .int .i64 0] 33)) (hL.bel HB10) (unhide HQ2))
    simp only [noFl] at HS
    unfold ftV
    clear HC G2 K2
    go_wp2_with fail
    refine (unhide HS).mono ?_
    rintro e w11 ⟨rfl, hb11⟩
    have HB11 := HB10.trans (hb11.mono HB10.size)
    have hb12 : Below w11.heap.size w11 (w11.alloc (.cells #[.int .i64 0, .int .i64 0, .int .i64 0] 33)) := (Below.refl _ _).alloc (Nat.le_refl _) _
    have HB12 := HB11.trans (hb12.mono HB11.size)
    have G4 := hide (((unhide G3).below hb11).below hb12)
    have K4 := hide (((unhide K3).below hb11).below hb12)
    have L4 := hide (((unhide L3).below hb11).below hb12)
    have M4 := hide (Ox.new w11 #[.int .i64 0, .int .i64 0, .int .i64 0] 33 _ rfl)
    obtain ⟨c1, z1⟩ := unhide G4
    obtain ⟨c2, z2⟩ := unhide K4
    unfold ftV
    clear HS G3 K3 L3
    go_wp2_with fail
    refine (sameFaultK_C 0 0 0).mono ?_
    rintro e w13 ⟨rfl, hb13⟩
    have HB13 := HB12.trans (hb13.mono HB12.size)
    clear c1 z1 c2 z2
    obtain ⟨c1, z1⟩ := (unhide G4).below hb13
    obtain ⟨c3, z3⟩ := (unhide L4).below hb13
    obtain ⟨c4, z4⟩ := (unhide M4).below hb13
    clear G4 K4 L4 M4
    have HE1 := hide (ends_C (w := w13) (hL.bel HB13) (s := bs z) (t := bs l) (fun q => by rw [show (bs z).toList = z from toList_mk z]; exact (unhide HEN (by rw [bs_size] at q; exact q)).1))
    go_wp2_with fail
    refine (unhide HE1).mono ?_
    rintro e w14 ⟨rfl, hb14⟩
    have HB14 := HB13.trans (hb14.mono HB13.size)
    have HE2 := hide (ends_C (w := w14) (hL.bel HB14) (s := bs z) (t := bs m) (fun q => by rw [show (bs z).toList = z from toList_mk z]; exact (unhide HEN (by rw [bs_size] at q; exact q)).2))
    clear HE1 c1 z1 c3 z3 c4 z4
    go_wp2_with fail
    refine (unhide HE2).mono ?_
    rintro e w15 ⟨rfl, hb15⟩
    have HB15 := HB14.trans (hb15.mono HB14.size)
    clear HE2
    go_wp2_with fail
    go_ret
    exact ⟨rfl, HB15⟩
end
end Go.Proofs.YtklidhjlfappnaaGreatDoor
