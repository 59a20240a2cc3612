import Derived.Test.YtfflpeklkfjdnaaGreatDoorKSd
set_option linter.unusedSimpArgs false
set_option linter.unusedVariables false
set_option linter.unusedSectionVars false
namespace Go.Proofs.YtfflpeklkfjdnaaGreatDoor
open Go Go.RowKit Un

def parts : Ty → List Ty
  | .var _ => []
  | .con _ l => l
theorem TR.parts {w : World} {P : Nat → Prop} {N : Nat} {t : Ty} {x : TV} (h : TR w P N t x) :
    x.ll = (parts t).length ∧ (parts t).length ≤ 1001 ∧ ∀ i (hi : i < (parts t).length), ∃ g y, x.la = some ⟨g, 0, none⟩ ∧ (g < w.heap.size ∧ P g) ∧ at3 w g i y ∧ TR w P N ((parts t)[i]) y := by
  cases h with
  | var n => exact ⟨rfl, by simp [Go.Proofs.YtfflpeklkfjdnaaGreatDoor.parts], fun i hi => by simp [Go.Proofs.YtfflpeklkfjdnaaGreatDoor.parts] at hi⟩
  | leaf c hw => exact ⟨rfl, by simp [Go.Proofs.YtfflpeklkfjdnaaGreatDoor.parts], fun i hi => by simp [Go.Proofs.YtfflpeklkfjdnaaGreatDoor.parts] at hi⟩
  | row c L g cap xs hw h0 hL hP hz hc hr => exact ⟨rfl, hL, fun i hi => ⟨g, xs i, rfl, ⟨hz, hP⟩, hc i hi, hr i hi⟩⟩
theorem TR.two {w : World} {P : Nat → Prop} {N : Nat} {t : Ty} {x : TV} (h : TR w P N t x) :
    (∃ n, t = .var n ∧ 0 < n ∧ n ≤ N ∧ x = ⟨n, ⟨#[]⟩, none, 0, 0⟩) ∨ ∃ c L, t = .con c L ∧ x.n = 0 ∧ x.s = c := by
  cases h with
  | var n h hN => exact Or.inl ⟨n, rfl, h, hN, rfl⟩
  | leaf c hw => exact Or.inr ⟨c, [], rfl, rfl, rfl⟩
  | row c L => exact Or.inr ⟨c, L, rfl, rfl, rfl⟩
theorem sizeL_take (R : Nat → Ty) (L : List Ty) (j : Nat) (h : j < L.length) : sizeL (subL R (L.take (j + 1))) = sizeL (subL R (L.take j)) + size (sub R L[j]) := by
  have : ∀ a b, sizeL (a ++ b) = sizeL a + sizeL b := by
    intro a b
    induction a with
    | nil => simp [sizeL]
    | cons t l ih => simp [sizeL, ih]; omega
  rw [List.take_succ_eq_append_getElem h, subL_append, this]
  simp [subL, sizeL]
theorem sizeL_all (R : Nat → Ty) (L : List Ty) (j : Nat) : sizeL (subL R (L.take j)) ≤ sizeL (subL R L) := by
  have : ∀ a b, sizeL (a ++ b) = sizeL a + sizeL b := by
    intro a b
    induction a with
    | nil => simp [sizeL]
    | cons t l ih => simp [sizeL, ih]; omega
  conv => rhs; rw [← List.take_append_drop j L, subL_append, this]
  omega
theorem size_parts {K : Nat → Option Ty} {R : Nat → Ty} {rk : Nat → Nat} (hK : Knw K R rk) {t : Ty} (h : ∀ n, t = .var n → K n = none) : size (sub R t) = 1 + sizeL (subL R (parts t)) := by
  cases t with
  | var n => simp [sub, hK.open_ n (h n rfl), parts, size, subL, sizeL]
  | con c l => simp [sub, parts, size]
theorem mem_size {R : Nat → Ty} {L : List Ty} {j : Nat} (h : j < L.length) : size (sub R L[j]) ≤ sizeL (subL R L) := by
  rw [subL_map]; exact size_mem (List.mem_map.2 ⟨_, List.getElem_mem h, rfl⟩)
section
variable {kb : Nat} {hv iv : Value} {N : Nat} {K : Nat → Option Ty} {R : Nat → Ty} {rk : Nat → Nat}

def SizeRel (w : World) (R : Nat → Ty) (L : List Ty) (most : Nat) (C : Array Value) (gk : Nat) (v c : Value) (wr : World) : Prop :=
  ∃ j n : Nat, Hid (gk = L.length - j) ∧ j ≤ L.length ∧ c = .int .i64 (j : Int) ∧ v = .int .i64 (n : Int) ∧ n ≤ most + 1 ∧ Hid (n = min (1 + sizeL (subL R (L.take j))) (most + 1)) ∧ Below w.heap.size w wr ∧ Bx wr w.heap.size C

set_option maxRecDepth 100000 in
set_option maxHeartbeats 4000000 in
theorem size_C (hK : Knw K R rk) : ∀ (s : Nat) (P : Nat → Prop) (w : World), KS w kb hv iv N K P → ∀ (t : Ty) (x : TV), TR w P N t x → size (sub R t) ≤ s → ∀ (most : Nat) (mi : Int), mi = (most : Int) → most ≤ 1000 →
    Calls Tryz.prog 78 #[.pointer (some ⟨kb, 0, none⟩), x.v, .int .i64 mi] w fun e w' => e = .returned (.int .i64 ((min (size (sub R t)) (most + 1) : Nat) : Int)) ∧ Below w.heap.size w w' := by
  intro s
  induction s with
  | zero => intro P w h t x hx hs; have := size_pos (sub R t); omega
  | succ s ih =>
    intro P w h t x hx hs most mi hmi hmost
    subst hmi
    have H := hide h.low
    have HK := hide hK
    have IH := hide ih
    have hkb := h.hk
    have HX := hide (hx.low.bel ((Below.refl w.heap.size w).alloc (Nat.le_refl _) (.cells x.a 85)))
    have H1 := hide (h.low.bel ((Below.refl w.heap.size w).alloc (Nat.le_refl _) (.cells x.a 85)))
    have B0 := hide (Bx.new w x.a 85)
    have HB := hide ((Below.refl w.heap.size w).alloc (Nat.le_refl _) (.cells x.a 85))
    have Hs := hide hs
    clear h hx ih hs hK
    unfold TV.v
    go_enter Tryz.func78, Tryz.ntmps78
    obtain ⟨c0, f0, y0⟩ := unhide B0
    go_wp2_with fail
    refine (look_C (unhide H1) (unhide HK) (unhide HX)).mono ?_
    rintro e w1 ⟨t1, ⟨n1, s1, la, ll, lc⟩, rfl, hb, hT, hR, hO⟩
    have B1 := hide ((unhide B0).below hb)
    have HB1 := hide ((unhide HB).trans (hb.mono (by simp)))
    have hT := hT.back (unhide HB)
    obtain ⟨hl, hL, hp⟩ := hT.parts
    have Hz := hide (size_parts (unhide HK) hO)
    rw [hR] at Hz
    have Hp := hide hp
    have Hs : Hid (1 + sizeL (subL R (parts t1)) ≤ s + 1) := by rw [← unhide Hz]; exact Hs
    clear hT hp HX H1 B0 HB c0 f0 y0 hb
    simp only at hl
    subst hl
    generalize parts t1 = L at *
    obtain ⟨c0, f0, y0⟩ := unhide B1
    unfold TV.a at c0
    unfold TV.v
    go_wp2_with fail
    go_loopg [7, 8] L.length (fun gk v c wr => SizeRel w R L most #[.int .i64 n1, .string s1, .slice la L.length lc] gk v c wr)
    case atStart => exact ⟨0, 1, hide rfl, Nat.zero_le _, rfl, rfl, by omega, hide (by simp [subL, sizeL]), (unhide HB1).set3 (Nat.le_refl _) _ _ _, (unhide B1).set3 rfl _ _ _⟩
    case round =>
      clear B1 HB1 c0 f0 y0
      obtain ⟨j, n, hgk, hj, rfl, rfl, hnm, hn, HB, B0⟩ := hrel
      have HB := hide HB
      have B0 := hide B0
      obtain ⟨c0, f0, y0⟩ := unhide B0
      have c02 := c0 2
      simp at c02
      by_cases hlt : j < L.length
      · have hlt' : (j : Int) < (L.length : Int) := by omega
        by_cases hle : n ≤ most
        · have hle' : (n : Int) ≤ (most : Int) := by omega
          obtain ⟨g, y, rfl, ⟨zg, _⟩, ha, hy⟩ := unhide Hp j hlt
          have g0 := (oldCell (unhide HB) g _ zg).trans (ha 0 (by omega))
          have g1 := (oldCell (unhide HB) g _ zg).trans (ha 1 (by omega))
          have g2 := (oldCell (unhide HB) g _ zg).trans (ha 2 (by omega))
          simp [TV.l] at g0 g1 g2
          have HY := hide (hy.bel (unhide HB))
          have HW := hide ((unhide H).bel (unhide HB))
          have hsz := mem_size (R := R) hlt
          have hst := hide (sizeL_take R L j hlt)
          have hs1 : size (sub R L[j]) ≤ s := by have := unhide Hs; omega
          clear ha hy hsz
          go_wp2_with fail
          refine (unhide IH _ _ (unhide HW) _ _ (unhide HY) hs1 (most - n) _ (by omega) (by omega)).mono ?_
          rintro e w2 ⟨rfl, hb2⟩
          have HB2 := hide ((unhide HB).trans (hb2.mono (unhide HB).size))
          have B2 := hide ((unhide B0).below hb2)
          clear HB B0 HW HY c0 f0 y0 c02 g0 g1 g2
          go_wp2_with fail
          go_roundg (L.length - (j + 1))
          case measure => rw [unhide hgk]; omega
          case rel =>
            refine ⟨j + 1, n + min (size (sub R L[j])) (most - n + 1), hide rfl, by omega, by go_num, by go_num, by omega, hide ?_, unhide HB2, unhide B2⟩
            have := unhide hn
            rw [unhide hst]
            omega
        · have hle' : decide ((n : Int) ≤ (most : Int)) = false := by simp; omega
          have hgt : (most : Int) < (n : Int) := by omega
          have hfin : Hid (min (size (sub R t)) (most + 1) = most + 1) := by
            have h1 := unhide hn
            have h2 := sizeL_all R L j
            have h3 := unhide Hz
            show _ = _
            omega
          go_wp2_with fail
          go_ret
          exact ⟨retInt (by rw [unhide hfin]; omega), unhide HB⟩
      · have hlt' : decide ((j : Int) < (L.length : Int)) = false := by simp; omega
        have hfin : Hid (min (size (sub R t)) (most + 1) = n) := by
          have h1 := unhide hn
          have h3 := unhide Hz
          rw [show j = L.length by omega, List.take_length] at h1
          show _ = _
          omega
        by_cases hle : n ≤ most
        · have hle' : decide ((n : Int) ≤ (most : Int)) = true := by simp; omega
          have hgt : ¬ (most : Int) < (n : Int) := by omega
          go_wp2_with fail
          go_ret
          exact ⟨retInt (by rw [unhide hfin]), unhide HB⟩
        · have hgt : (most : Int) < (n : Int) := by omega
          go_wp2_with fail
          go_ret
          exact ⟨retInt (by rw [unhide hfin]; omega), unhide HB⟩

set_option maxRecDepth 100000 in
set_option maxHeartbeats 400000 in
theorem large_C (hK : Knw K R rk) {P : Nat → Prop} {w : World} (h : KS w kb hv iv N K P) {t : Ty} {x : TV} (hx : TR w P N t x) :
    Calls Tryz.prog 32 #[.pointer (some ⟨kb, 0, none⟩), x.v] w fun e w' => e = .returned (.bool (decide (48 < size (sub R t)))) ∧ Below w.heap.size w w' := by
  have H := hide h
  have HK := hide hK
  have HX := hide hx
  clear h hK hx
  unfold TV.v
  go_enter Tryz.func32, Tryz.ntmps32
  go_wp2_with fail
  refine (size_C (unhide HK) _ _ _ ((unhide H).bel ((Below.refl w.heap.size w).alloc (Nat.le_refl _) (.cells x.a 85))) _ _ ((unhide HX).bel ((Below.refl w.heap.size w).alloc (Nat.le_refl _) (.cells x.a 85))) (Nat.le_refl _) 48 _ rfl (by omega)).mono ?_
  rintro e w1 ⟨rfl, hb⟩
  have HB := hide (((Below.refl w.heap.size w).alloc (Nat.le_refl _) (.cells x.a 85)).trans (hb.mono (by simp)))
  clear hb
  go_wp2_with fail
  go_ret
  exact ⟨retBool (by rw [Bool.eq_iff_iff]; simp; omega), unhide HB⟩
end
end Go.Proofs.YtfflpeklkfjdnaaGreatDoor
namespace Go.Proofs.YtfflpeklkfjdnaaGreatDoor
open Go Go.RowKit Un

theorem occL_iff (v : Nat) : ∀ (l : List Ty), OccL v l ↔ ∃ t, t ∈ l ∧ Occ v t
  | [] => by simp [OccL]
  | a :: l => by simp [OccL, occL_iff v l]
theorem occ_sub {v : Nat} {R : Nat → Ty} {L : List Ty} : OccL v (subL R L) ↔ ∃ j, ∃ h : j < L.length, Occ v (sub R L[j]) := by
  rw [occL_iff, subL_map]
  constructor
  · rintro ⟨t, ht, ho⟩
    obtain ⟨u, hu, rfl⟩ := List.mem_map.1 ht
    obtain ⟨j, hj, rfl⟩ := List.getElem_of_mem hu
    exact ⟨j, hj, ho⟩
  · rintro ⟨j, hj, ho⟩
    exact ⟨_, List.mem_map.2 ⟨_, List.getElem_mem hj, rfl⟩, ho⟩
section
variable {kb : Nat} {hv iv : Value} {N : Nat} {K : Nat → Option Ty} {R : Nat → Ty} {rk : Nat → Nat}

def InRel (w : World) (R : Nat → Ty) (L : List Ty) (v : Nat) (C : Array Value) (gk : Nat) (c : Value) (wr : World) : Prop :=
  ∃ j : Nat, Hid (gk = L.length - j) ∧ j ≤ L.length ∧ c = .int .i64 (j : Int) ∧ (∀ i (h : i < L.length), i < j → ¬ Occ v (sub R L[i])) ∧ Below w.heap.size w wr ∧ Bx wr w.heap.size C

open Classical in
set_option maxRecDepth 100000 in
set_option maxHeartbeats 4000000 in
theorem in_C (hK : Knw K R rk) (v : Nat) : ∀ (s : Nat) (P : Nat → Prop) (w : World), KS w kb hv iv N K P → ∀ (t : Ty) (x : TV), TR w P N t x → size (sub R t) ≤ s →
    Calls Tryz.prog 77 #[.pointer (some ⟨kb, 0, none⟩), .int .i64 (v : Int), x.v] w fun e w' => ∃ b : Bool, e = .returned (.bool b) ∧ (b = true ↔ Occ v (sub R t)) ∧ Below w.heap.size w w' := by
  intro s
  induction s with
  | zero => intro P w h t x hx hs; have := size_pos (sub R t); omega
  | succ s ih =>
    intro P w h t x hx hs
    have H := hide h.low
    have HK := hide hK
    have IH := hide ih
    have hkb := h.hk
    have HX := hide (hx.low.bel ((Below.refl w.heap.size w).alloc (Nat.le_refl _) (.cells x.a 85)))
    have H1 := hide (h.low.bel ((Below.refl w.heap.size w).alloc (Nat.le_refl _) (.cells x.a 85)))
    have B0 := hide (Bx.new w x.a 85)
    have HB := hide ((Below.refl w.heap.size w).alloc (Nat.le_refl _) (.cells x.a 85))
    have Hs := hide hs
    clear h hx ih hs hK
    unfold TV.v
    go_enter Tryz.func77, Tryz.ntmps77
    obtain ⟨c0, f0, y0⟩ := unhide B0
    go_wp2_with fail
    refine (look_C (unhide H1) (unhide HK) (unhide HX)).mono ?_
    rintro e w1 ⟨t1, ⟨n1, s1, la, ll, lc⟩, rfl, hb, hT, hR, hO⟩
    have B1 := hide ((unhide B0).below hb)
    have HB1 := hide ((unhide HB).trans (hb.mono (by simp)))
    have hT := hT.back (unhide HB)
    obtain ⟨hl, hL, hp⟩ := hT.parts
    have Hz := hide (size_parts (unhide HK) hO)
    rw [hR] at Hz
    have Hp := hide hp
    have Hs : Hid (1 + sizeL (subL R (parts t1)) ≤ s + 1) := by rw [← unhide Hz]; exact Hs
    clear hp HX H1 B0 HB c0 f0 y0 hb
    simp only at hl
    subst hl
    obtain ⟨c0, f0, y0⟩ := unhide B1
    unfold TV.a at c0
    unfold TV.v
    rcases hT.two with ⟨n, rfl, hn, hnN, hx⟩ | ⟨c, L, rfl, hx1, hx2⟩
    · obtain ⟨rfl, rfl, rfl, -, rfl⟩ : n1 = n ∧ s1 = ⟨#[]⟩ ∧ la = none ∧ True ∧ lc = 0 := by injection hx with a b c d e; exact ⟨a, b, c, trivial, e⟩
      have Hf : Hid (Occ v (sub R t) ↔ n = v) := by show _ ↔ _; rw [← hR]; simp [sub, (unhide HK).open_ n (hO n rfl), Occ]
      have hn' : (0 : Int) < (n : Int) := by omega
      clear hR hO hx
      go_wp2_with fail
      go_ret
      exact ⟨_, rfl, by rw [unhide Hf]; simp; omega, (unhide HB1).set3 (Nat.le_refl _) _ _ _⟩
    · simp only at hx1 hx2
      subst hx1 hx2
      have Hf : Hid (Occ v (sub R t) ↔ OccL v (subL R L)) := by show _ ↔ _; rw [← hR]; simp [sub, Occ]
      clear hR hO hT
      simp only [parts] at *
      go_wp2_with fail
      go_loopg [7] L.length (fun gk c wr => InRel w R L v #[.int .i64 0, .string s1, .slice la L.length lc] gk c wr)
      case atStart => exact ⟨0, hide rfl, Nat.zero_le _, rfl, fun i _ h => by omega, (unhide HB1).set3 (Nat.le_refl _) _ _ _, (unhide B1).set3 rfl _ _ _⟩
      case round =>
        clear B1 HB1 c0 f0 y0
        obtain ⟨j, hgk, hj, rfl, hno, HB, B0⟩ := hrel
        have HB := hide HB
        have B0 := hide B0
        have hno := hide hno
        obtain ⟨c0, f0, y0⟩ := unhide B0
        have c02 := c0 2
        simp at c02
        by_cases hlt : j < L.length
        · have hlt' : (j : Int) < (L.length : Int) := by omega
          obtain ⟨g, y, rfl, ⟨zg, _⟩, ha, hy⟩ := unhide Hp j hlt
          have g0 := (oldCell (unhide HB) g _ zg).trans (ha 0 (by omega))
          have g1 := (oldCell (unhide HB) g _ zg).trans (ha 1 (by omega))
          have g2 := (oldCell (unhide HB) g _ zg).trans (ha 2 (by omega))
          simp [TV.l] at g0 g1 g2
          have HY := hide (hy.bel (unhide HB))
          have HW := hide ((unhide H).bel (unhide HB))
          have hs1 : size (sub R L[j]) ≤ s := by have := mem_size (R := R) hlt; have := unhide Hs; omega
          clear ha hy
          go_wp2_with fail
          refine (unhide IH _ _ (unhide HW) _ _ (unhide HY) hs1).mono ?_
          rintro e w2 ⟨b, rfl, hbo, hb2⟩
          have HB2 := hide ((unhide HB).trans (hb2.mono (unhide HB).size))
          have B2 := hide ((unhide B0).below hb2)
          clear HB B0 HW HY c0 f0 y0 c02 g0 g1 g2
          cases b with
          | true =>
            have Ho := hide (hbo.1 rfl)
            clear hbo
            go_wp2_with fail
            go_ret
            refine ⟨true, rfl, ?_, unhide HB2⟩
            rw [unhide Hf, occ_sub]
            exact ⟨fun _ => ⟨j, hlt, unhide Ho⟩, fun _ => rfl⟩
          | false =>
            have Ho : Hid (¬ Occ v (sub R L[j])) := by intro h; have := hbo.2 h; cases this
            clear hbo
            go_wp2_with fail
            go_roundg (L.length - (j + 1))
            case measure => rw [unhide hgk]; omega
            case rel =>
              refine ⟨j + 1, hide rfl, by omega, by go_num, fun i hi h => ?_, unhide HB2, unhide B2⟩
              by_cases e : i = j
              · subst e; exact unhide Ho
              · exact unhide hno i hi (by omega)
        · have hlt' : decide ((j : Int) < (L.length : Int)) = false := by simp; omega
          go_wp2_with fail
          go_ret
          refine ⟨false, rfl, ?_, unhide HB⟩
          rw [unhide Hf, occ_sub]
          constructor
          · intro h; cases h
          · rintro ⟨i, hi, ho⟩
            exact absurd ho (unhide hno i hi (by omega))
end
end Go.Proofs.YtfflpeklkfjdnaaGreatDoor
